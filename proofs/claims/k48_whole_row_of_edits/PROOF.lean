import PyProof.Rows.All
import Wide.All
import OpenK.AllK
import Wide.FinOn
import Lean
import PyProof.EqAt
import PyProof.EqKinds
import PyProof.TupleCall
import KE.KIntText
import PyProof.NeKinds
import KE.KTryMore
import KE.KIsAll
import PyProof.ZipIter
import KE.KRevIter
import PyProof.CollectIter
import PyProof.FactsAll.range_2
import PyProof.FactsAll.range_iterator_1
import KE.KNest
import KE.KLam
import PySem.Challenge.RW_rowjudge_k48_whole_row_of_edits
open List renaming length_map→bx,length_append→cK,mem_cons→dt,getD_eq_getElem?_getD→dF,size_toArray→dV,mem_map→en,mem_cons_self→ff,mem_append→gg,getElem?_map→gI,length_singleton→hQ,mem_singleton→hZ,forall_mem_cons→ij,length_take→ik,take_length→ip,map_append→iv,length_cons→iK,mem_cons_of_mem→iO,getElem?_append_left→iP,mem_append_right→jr,forall_mem_nil→js,all_eq_true→jt,mem_range→ju,append_nil→jv,not_mem_nil→jw,length_drop→jB,getElem?_of_mem→jC,mem_filter→jO,mem_append_left→kC,range_succ→kD,length_zipWith→lg,getElem?_append_right→ll,length_replicate→lq,length_range→lz,length_filter_le→lI,getElem?_zipWith→md,map_cons→mu,append_assoc→mv,find?_cons_of_pos→mW,find?_cons_of_neg→ni,filter_append→nq,nodup_cons→nt,getElem_mem→nC,take_add_one→nS,getElem?_eq_none→nY,length_set→oD,pairwise_append→oT,filter_cons_of_pos→pb,filter_cons_of_neg→pk,all_cons→qy,mem_flatMap→qF,pairwise_cons→ri,getElem?_zip_eq_some→rj,mem_of_mem_take→ro,mem_of_mem_drop→rr,pairwise_singleton→rD,reverse_reverse→rE,filterMap_cons→sO,of_mem_zip→tw,take_sublist→vf,reverse_cons→vl,map_nil→vr,nodup_append→vK,nodup_nil→vL,ext_getElem?→vM,map_fst_zip→vO,eq_nil_or_concat→wh,concat_eq_append→w4,getElem?_take→w5,length_reverse→xT,getElem_inj→xZ,any_eq_true→ya,forIn_nil→yb,nil_append→yl
open Nat renaming le_refl→yr,ne_of_lt→yv,lt_of_lt_of_le→yU,le_trans→yW,zero_le→yY,ne_of_gt→zb,lt_succ_of_lt→zc,le_succ→zd,lt_irrefl→ze,le_of_lt→zf,lt_succ_self→zg,le_add_right→zh,not_lt_zero→zj,succ_pos→zz,lt_of_succ_lt→zA,lt_of_le_of_lt→zY,mul_le_mul→Am,mod_lt→Az,pow_succ→A8,sub_self→Bj,lt_or_ge→BH,not_lt→BI
open Bool renaming eq_false_iff→BJ,and_eq_true→BO,false_eq_true→BP
open Array renaming getElem?_eq_getElem→Cn,length_toList→CQ,toList_push→Df,getElem?_toList→Dg
open Int renaming emod_nonneg→Dq,emod_lt_of_pos→Dt,zero_add→Dv,toNat_natCast→DJ,pow_pos→DK
open Option renaming isSome_iff_exists→DL,getD_none→DM
open PySem renaming wpAny_bind→DN,wpAny_pure→D0,wpAny_holding→EX,wpAny_Call_Name_kw→F8,Value→Gf,World→Gn,Program→GC,Addr→GD,Heap→GG,sizeLine→GH,sysModules→GI,intKind→GJ,mainGlobals→GK,builtinsNs→GL,bootBuiltins→GN,Around→GO,Shared→GP,Scope→GQ,GenState→GR,Model→GS,wpAny→GU,storeName→GV,Expr→GW,isTrue→GX,backTo→GY,starEach→GZ,Stmt→G5,wpAny_mono→G6,wpAny_Name→G7,wpAny_loadName_local→G8,wpAny_loadName_cell→G9,standAt→He,wpAny_truthy_bool→Hf,wpAny_execs_nil→Hg,wpAny_execs_cons→Hh,swapsWith→Hi,assignEach→Hj,Operator→Hk,wpAny_assign_Name→Hl,wpAny_standAt→Hm,PassesOwn→Hn,wpAny_passesOwn→Ho,pyNext→Hq,letOwnedTupleGo→Hr,pyIter→Hs,rawInt→Ht,Walks→Hu,wpAny_pyIter_list→Hv,Builtin→Hw,foldedSetIterable→Hy,binaryOp→Hz,intBits_le_64→HA,compareOp→HB,CmpOp→HC,behindInMarks→HD,sizeLine_eq→HE,getMethod→HF,Result→HG,codeAny→HH,attributeBase→HI,recursionLimit→HJ,cLine→HK,Code→HL,FuncData→HM,BindsTo→HN,bindArgs→HP,wpAny_call→HQ,codeAny_mono→HR,NameKind→HS,bindL→HU,bindC→HV,cellsFrom→HW,Arguments→HX,concat_meets→HY,noFill_tuple_add→HZ,seq_tuple_add→Ia,IsPart→Ib,evalPart_none→Ic,typeLookup→Ie,seqIndex_of→Ig,slot_list_getitem→Ih,typeIs_str→Ii,sliceBounds→Ij,call_list_seq→Ik,backToKw→Il,keywordEach→Im,Params→Io,callerA→Ip,compEnvC→Iq,closureFor→Ir,closureFor_none→Iu,newList→Iv,newFunctionEnv→Iw,wpAny_newObj_type→Iy,wpAny_newFunctionEnv→Iz,codeAny_compStart_list→IA,eval_ListComp→IB,wpAny_comprehension_free→IC,compPost→ID,exec_Assign_Name_used→IE,callWith→IF,WalksS→IG,scanBound→IH,Moved→II,codeAny_builtin→IJ,setAdd→IK,plainId_quiet→IL,codeAny_call_builtin→IM,check_set_init_1→IP,wpAny_runValue→IQ,codeAny_of_tree→IS,weight_type_call_type→IT,SetTable→IU,layNew→IV,relayAll→IW,pickOrder→IX,intKind_is→IY,wpAny_storeSet_of→IZ,fits_of_scanBound→I0,wpAny_setState_of→I1,wpAny_rule→Ja,wpAny_of_eq→Jb,wpAny_askSetting→Jc,typeLookup_type→Jd,builtinLookup_eq_fast→Je,isSubtype_type→Jf,entryFor→Jg,entryFor_alias→Jh,argsOk→Ji,drawOrder→Jj,setNext→Jk,wpAny_attempt→Jl,wpAny_callSpecial?_slot→Jm,wpAny_call_entry→Jn,slotArgs→Jo,wpAny_fieldsOf→Jp,wpAny_setEntries_of→Jq,wpAny_setField_rec→Jr,wpAny_setField→Js,newExc→Jt,firstArgMember→Ju,wpAny_handled→Jv,wpAny_isInstance→Jw,isSubtype_stop→Jx,wpAny_seqItems→Jy,wpAny_pyIter_slot→Jz,Setting→JA,setsByText→JB,wpAny_newTuple→JC,wpAny_setEpoch_of→JD,wpAny_typeOf→JE,wpAny_specialOf→JF,updateSeq→JG,wpAny_updateSeq→JH,codeAny_extend_loopS→JI,intItems→JJ,numAt_eq→JK,IsPair→JL,ZipApart→JM,wpAny_pyNext_zip_item→JN,wpAny_pyNext_zip_end→JO,wpAny_pyIter_zip→JP,wpAny_field→JQ,wpAny_nextOf_list_item→JR,wpAny_nextOf_list_end→JS,callType_codes→JT,code_list_new→JU,wpAny_pyIter_enum→JV,revObj→JW,pushCells→JX,pushCells_keeps→JY,codeAmong→JZ,boot_len→Ka
open Option renaming some→Kb,none→Kc
open Bool renaming true→Kd,false→Ke
open Decidable renaming decide→Kf
set_option Elab.async false
set_option linter.all false
set_option maxRecDepth 100000
abbrev Ki:=@if_neg
abbrev Kj:=@if_pos
abbrev Kk:=@absurd
abbrev Kl:=@decide_eq_true
abbrev Km:=@decide_eq_false
abbrev Kn:=@of_decide_eq_true
abbrev Ko:=@congrArg
abbrev Kp:=@decide_eq_true_iff
local macro_rules|`(term|s!$x)=>do
 let some t:=x.raw.getArgs[0]? | Lean.Macro.throwUnsupported
 let some v:=t.isInterpolatedStrLit? | Lean.Macro.throwUnsupported
 `(PySem.Str.ofString $(Lean.quote v))
theorem Gy{α:Type _}{l:List α}{i:Nat}(h:i<l.length):l[i]?=Kb l[i]:=List.getElem?_eq_getElem h
theorem Gz{α:Type _}{a:α}{l:List α}{i:Nat}:l[i]?=Kb a ↔ ∃h:i<l.length, l[i]=a:=List.getElem?_eq_some_iff
theorem GB{α:Type _}{l:List α}{i:Nat}{a:α}(e:l[i]?=Kb a):a∈l:=List.mem_of_getElem? e
namespace L2
theorem U{α:Sort _}{a:α}:a=a:=rfl
open PySem PySem.Spec PyProof.Rows
abbrev Key:=Sum Int Str
def zi:Key->Gf->Bool
 | .inl k,v=>Gf.isInt k v
 | .inr x,v=>Gf.isStrOf x v
def CP(w:Gn):Key->Int
 | .inl k=>hashInt k
 | .inr x=>hashStr w x
theorem bU:∀{k:Key}{v:Gf},zi k v=Kd->(∃i t,k=Sum.inl i/\v=Gf.int i t)\/(∃x t,k=Sum.inr x/\v=Gf.str x t)
 | .inl i,v,h=>by
  obtain⟨t,e⟩:=Gf.isInt_shape (k:=i) (v:=v) h;exact .inl ⟨i,t,U,e⟩
 | .inr x,v,h=>by
  obtain⟨t,e⟩:=Gf.isStrOf_shape (x:=x) (v:=v) h;exact .inr ⟨x,t,U,e⟩
theorem zP(a b:Int):decide ((Sum.inl a:Key)=Sum.inl b)=(a == b):=by
 by_cases e:a=b
 .subst e;simp
 .have h:¬ (Sum.inl a:Key)=Sum.inl b:=λq=>e (Sum.inl.inj q)
  rw[Km h];exact(beq_eq_false_iff_ne.mpr e).symm
theorem zQ(a b:Str):decide ((Sum.inr a:Key)=Sum.inr b)=Kf (a=b):=by
 by_cases e:a=b
 .subst e;simp
 .have h:¬ (Sum.inr a:Key)=Sum.inr b:=λq=>e (Sum.inr.inj q)
  rw[Km h,Km e]
theorem zR(a:Int)(b:Str):decide ((Sum.inl a:Key)=Sum.inr b)=false:=Km (λq=>nomatch q)
theorem zS(a:Str)(b:Int):decide ((Sum.inr a:Key)=Sum.inl b)=false:=Km (λq=>nomatch q)
def pd(prog:GC)(w:Gn):PySem.KeyKind prog w Key where
 is:=zi
 hash:=CP w
 inj:=λv a b l f=>by
  rcases bU l with⟨i,t,rfl,rfl⟩|⟨x,t,rfl,rfl⟩
  .rcases bU f with⟨j,u,rfl,e⟩|⟨y,u,rfl,e⟩
   .injection e with c _;rw[c]
   .exact nomatch e
  .rcases bU f with⟨j,u,rfl,e⟩|⟨y,u,rfl,e⟩
   .exact nomatch e
   .injection e with c _;rw[c]
 byValue:=λk v h=>by
  rcases bU h with⟨i,t,rfl,rfl⟩|⟨x,t,rfl,rfl⟩ <;> rfl
 pyHash:=λd h=>by
  rcases bU d with⟨i,t,rfl,rfl⟩|⟨x,t,rfl,rfl⟩
  .exact wpAny_pyHash_int h
  .exact wpAny_pyHash_str h
 eqBool:=λg d h=>by
  rcases bU g with⟨i,t,rfl,rfl⟩|⟨x,t,rfl,rfl⟩
  .rcases bU d with⟨j,u,rfl,rfl⟩|⟨y,u,rfl,rfl⟩
   .rw[zP]at h;exact wpAny_eqBool_int h
   .rw[zR]at h;exact SeqAt.EqAt.int_str i t y u _ _ _ _ h
  .rcases bU d with⟨j,u,rfl,rfl⟩|⟨y,u,rfl,rfl⟩
   .rw[zS]at h;exact SeqAt.EqAt.str_int x t j u _ _ _ _ h
   .rw[zQ]at h;exact wpAny_eqBool_str h
 «strs»:=λk x t v h=>by
  rcases bU h with⟨i,u,rfl,e⟩|⟨y,u,rfl,e⟩
  .exact nomatch e
  .injection e with c _;subst c;cases v <;> rfl
inductive V where
 |non|bl (b:Bool)|int (i:Int)|str (x:Str)|byt (b:Array UInt8)|flt (b:UInt64)|ref (a:GD)|ty (n:String)
 deriving DecidableEq
def RelV:V->Gf->Prop
 | .non,u=>u=Gf.none
 | .bl b,u=>u=Gf.bool b
 | .int i,u=>∃t,u=Gf.int i t
 | .str x,u=>∃t,u=Gf.str x t
 | .byt b,u=>∃t,u=Gf.bytes b t
 | .flt b,u=>∃t,u=Gf.float b t
 | .ref a,u=>u=Gf.ref a
 | .ty n,u=>u=Gf.type n
abbrev Vals:List V->List Gf->Prop:=Paired RelV
theorem Vals.length{xs:List V}{us:List Gf}(r:Vals xs us):xs.length=us.length:=Paired.length r
theorem Vals.get:∀{xs:List V}{us:List Gf}{i:Nat}{x:V},Vals xs us->xs[i]?=Kb x->∃u,us[i]?=Kb u/\RelV x u
 |_,_,_,_,.nil,e=>by simp at e
 |_,_,0,_,.cons r _,e=>by simp at e;subst e;exact⟨_,U,r⟩
 |_,_,i+1,x,.cons _ t,e=>by
  obtain⟨u,b,a⟩:=Vals.get (i:=i) (x:=x) t (by simpa using e);exact⟨u,by simpa using b,a⟩
theorem Vals.set{x:V}{u:Gf}(r:RelV x u):∀{xs:List V}{us:List Gf}(i:Nat),Vals xs us->Vals (xs.set i x) (us.set i u)
 |_,_,_,.nil=>.nil
 |_,_,0,.cons _ t=>.cons r t
 |_,_,i+1,.cons q t=>.cons q (Vals.set r i t)
theorem Vals.append:∀{xs ys:List V}{us ws:List Gf},Vals xs us->Vals ys ws->Vals (xs++ys) (us++ws)
 |_,_,_,_,.nil,s=>s
 |_,_,_,_,.cons r t,s=>.cons r (Vals.append t s)
theorem Vals.take:∀{xs:List V}{us:List Gf}(n:Nat),Vals xs us->Vals (xs.take n) (us.take n)
 |_,_,0,_=>.nil
 |_,_,_+1,.nil=>.nil
 |_,_,n+1,.cons r t=>.cons r (Vals.take n t)
theorem Vals.drop:∀{xs:List V}{us:List Gf}(n:Nat),Vals xs us->Vals (xs.drop n) (us.drop n)
 |_,_,0,r=>r
 |_,_,_+1,.nil=>.nil
 |_,_,n+1,.cons _ t=>Vals.drop n t
def nB:Option V->Option Gf->Prop
 |some v,Kb u=>RelV v u
 |none,Kc=>True
 |_,_=>False
def KV{a:Type}:List (a×V)->List (a×Gf)->Prop:=Paired λ(p:a×V)(q:a×Gf)=>p.1=q.1/\RelV p.2 q.2
def kV:Key->V
 | .inl i=>.int i
 | .inr x=>.str x
inductive HO where
 |lst (xs:List V)
 |tup (xs:List V)
 |dK (kvs:List (Key×V))|dT (kvs:List (List Key×V))
 |set (S:Int->Bool)(n:Nat)
 |ins (C dx:GD)(fs:List (Str×V))
 |own (x:GD)
 |xd (fs:List (Str×V))
 |met (f x:GD)
 |rng (lo hi:Int)
 |frz (o:Obj)(u:HO)
 |tbl (ps:Array Gf)
 |ext (φ:GG->Prop)
abbrev Hp:=GD->Option HO
def upd(H:Hp)(a:GD)(o:HO):Hp:=λb=>if b=a then Kb o else H b
theorem ab{H:Hp}{a:GD}{o:HO}:upd H a o a=Kb o:=by unfold upd;rw[Kj U]
theorem ay{H:Hp}{a b:GD}{o:HO}(h:b≠a):upd H a o b=H b:=by unfold upd;rw[Ki h]
theorem yc{H:Hp}{a:GD}{o u:HO}:upd (upd H a o) a u=upd H a u:=by
 funext b;unfold upd;split <;> rfl
theorem eI{H:Hp}{a b:GD}{o u:HO}(h:H a=Kb o)(h':H b=Kb u)(d:o≠u):a≠b:=by
 intro e;subst e;rw[h]at h';exact d (Option.some.inj h')
theorem bf{H:Hp}{a b:GD}{o:HO}(h:H a=Kb o)(h':H b=Kc):a≠b:=by
 intro e;subst e;rw[h]at h';cases h'
section
variable(P:GC)(w:Gn)
def cQ(H:Hp)(h:GG)(a:GD):HO->Prop
 | .lst xs=>xs.length<=GH/\∃(b:List Gf)(n:Nat),Vals xs b/\h.get? a=Kb { cls:=.type "list",data:=.seq b.toArray n }
 | .tup xs=>xs.length<=GH/\∃b:List Gf,Vals xs b/\IsTup h a b.toArray
 | .dK kvs=>kvs.length<=GH/\(a == GI)=Ke/\∃vs,KV kvs vs/\h.DictOf (pd P w) a vs
 | .dT kvs=>kvs.length<=GH/\(a == GI)=Ke/\∃xs:List (List Key×GD×Gf),
   Paired (λ(p:List Key×V)(q:List Key×GD×Gf)=>p.1=q.1/\H q.2.1=Kb (.tup (p.1.map kV))/\RelV p.2 q.2.2) kvs xs /\
   ∃o g i,h.get? a=Kb o/\o.ExactDict/\o.data=.dict g i/\g.toList=xs.map (entryOfKey (tupleKind (pd P w)))/\(xs.map (·.1)).Nodup
 | .set S n=>h.SetOf (GJ P w) a S n
 | .ins C dx fs=>H dx=Kb (.own a)/\fs.length<=1000/\dx≠a/\h.get? a=Kb (W.instObj C dx) /\
   ∃c,h.Ns1 dx c/\(∀f,nB (fs.lookup f) (c f))/\PySem.Within c (fs.map (·.1))
 | .own _=>∃o,h.get? a=Kb o
 | .xd fs=>∃c,h.Ns1 a c/\∀f,nB (fs.lookup f) (c f)
 | .rng lo hi=>∃t u v,h.get? a=Kb { cls:=.type "range",data:=.fields #[.int lo t,.int hi u,.int 1 v] }
 | .frz o u=>h.get? a=Kb o/\cQ H h a u
 | .tbl ps=>h.get? a=Kb { cls:=.none,data:=.fields ps }
 | .met f x=>h.get? a=Kb (W.methodObj (.ref f) (.ref x))
 | .ext φ=>φ h/\(∃o,h.get? a=Kb o)/\∀e d:GG,φ e->(∀o,e.get? a=Kb o->d.get? a=Kb o)->φ d
def HOk(H:Hp)(h:GG):Prop:=∀a o,H a=Kb o->cQ P w H h a o
end
variable{P:GC}{w:Gn}{H H':Hp}{h h':GG}{a:GD}
section
variable{o:HO}
theorem cQ.lt(x:cQ P w H h a o):a<h.objs.size:=by
 cases o with
 |lst c=>obtain⟨_,_,_,_,e⟩:=x;exact GG.lt_size e
 |tup c=>obtain⟨_,_,_,p⟩:=x;exact p.lt
 |dK b=>obtain⟨_,_,_,_,o,_,_,e,_⟩:=x;exact GG.lt_size e
 |dT b=>obtain⟨_,_,_,_,o,_,_,e,_⟩:=x;exact GG.lt_size e
 |set S n=>obtain⟨o,_,_,_,e,_⟩:=x;exact GG.lt_size e
 |ins C j fs=>obtain⟨_,_,_,e,_⟩:=x;exact GG.lt_size e
 |own y=>obtain⟨_,e⟩:=x;exact GG.lt_size e
 |xd fs=>obtain⟨_,⟨_,_,_,e,_⟩,_⟩:=x;exact GG.lt_size e
 |rng lo hi=>obtain⟨_,_,_,e⟩:=x;exact GG.lt_size e
 |frz i u=>obtain⟨e,_⟩:=x;exact GG.lt_size e
 |tbl g=>exact GG.lt_size (show h.get? a=Kb _ from x)
 |met f y=>exact GG.lt_size (show h.get? a=Kb _ from x)
 |ext d=>obtain⟨_,⟨_,e⟩,_⟩:=x;exact GG.lt_size e
theorem Paired.mapP{α e:Type}{F G:α->e->Prop}:∀{d:List α}{c:List e},Paired F d c->(∀a b,F a b->G a b)->Paired G d c
 |_,_,.nil,_=>.nil
 |_,_,.cons r t,f=>.cons (f _ _ r) (Paired.mapP t f)
theorem cQ.stay(x:cQ P w H h a o)(k:∀b u,(b=a\/H b=Kb (.own a))->h.get? b=Kb u->h'.get? b=Kb u)
  (J:∀b,H b=Kb (.own a)->H' b=Kb (.own a))(I:∀b xs,H b=Kb (.tup xs)->H' b=Kb (.tup xs)):cQ P w H' h' a o:=by
 induction o with
 |lst xs=>obtain⟨z,l,n,r,e⟩:=x;exact⟨z,l,n,r,k _ _ (.inl U) e⟩
 |tup xs=>obtain⟨z,l,r,g,e,c⟩:=x;exact⟨z,l,r,g,k _ _ (.inl U) e,c⟩
 |dK A=>obtain⟨z,y,E,r,g,i,j,e,c⟩:=x;exact⟨z,y,E,r,g,i,j,k _ _ (.inl U) e,c⟩
 |dT A =>
  obtain⟨z,y,xs,r,g,i,j,e,c⟩:=x;exact⟨z,y,xs,Paired.mapP r λp q z=>⟨z.1,I _ _ z.2.1,z.2.2⟩,g,i,j,k _ _ (.inl U) e,c⟩
 |set S n=>obtain⟨g,i,j,t,e,c⟩:=x;exact⟨g,i,j,t,k _ _ (.inl U) e,c⟩
 |ins C M fs =>
  obtain⟨d,z,F,e,s,⟨m,i,j,K,c⟩,r⟩:=x;exact⟨J _ d,z,F,k _ _ (.inl U) e,s,⟨m,i,j,k _ _ (.inr d) K,c⟩,r⟩
 |own y=>obtain⟨g,e⟩:=x;exact⟨g,k _ _ (.inl U) e⟩
 |xd fs=>obtain⟨s,⟨m,i,j,e,c⟩,r⟩:=x;exact⟨s,⟨m,i,j,k _ _ (.inl U) e,c⟩,r⟩
 |rng lo hi=>obtain⟨t,u,v,e⟩:=x;exact⟨t,u,v,k _ _ (.inl U) e⟩
 |frz g u G=>obtain⟨e,q⟩:=x;exact⟨k _ _ (.inl U) e,G q⟩
 |tbl D =>
  have e:h.get? a=Kb { cls:=.none,data:=.fields D }:=x;show h'.get? a=Kb { cls:=.none,data:=.fields D };exact k a _ (.inl U) e
 |met f y =>
  have e:h.get? a=Kb (W.methodObj (.ref f) (.ref y)):=x;show h'.get? a=Kb (W.methodObj (.ref f) (.ref y));exact k a _ (.inl U) e
 |ext L=>obtain⟨p,⟨o,e⟩,B⟩:=x;exact⟨B _ _ p λo q=>k _ _ (.inl U) q,⟨o,k _ _ (.inl U) e⟩,B⟩
theorem HOk.lt(x:HOk P w H h)(e:H a=Kb o):a<h.objs.size:=(x a o e).lt
theorem HOk.fresh(x:HOk P w H h)(e:h.objs.size<=a):H a=none:=by
 cases q:H a with
 |none=>rfl
 |some u=>exact Kk (yU (x.lt q) e) (ze _)
theorem HOk.kept(x:HOk P w H h)(k:∀b u,h.get? b=Kb u->h'.get? b=Kb u):HOk P w H h':=λa o e =>
 (x a o e).stay (λb u _ q=>k b u q) (λ_ q=>q) λ_ _ q=>q
theorem HOk.laid(x:HOk P w H h)(k:∀b u,h.get? b=Kb u->h'.get? b=Kb u)(g:h.objs.size<=a)(new:cQ P w (upd H a o) h' a o):HOk P w (upd H a o) h':=λb u e=>by
 have d:=x.fresh g;by_cases f:b=a
 .subst f;rw[ab]at e;cases e;exact new
 .rw[ay f]at e;exact(x b u e).stay (λc v _ q=>k c v q) (λc q=>by rw[ay (bf q d)];exact q) λc i q=>by rw[ay (bf q d)];exact q
end
def Rd(H:Hp)(a:GD)(u:HO):Prop:=H a=Kb u\/∃o,H a=Kb (.frz o u)
theorem Rd.ok{P:GC}{w:Gn}{H:Hp}{h:GG}{a:GD}{u:HO}(r:Rd H a u)(x:HOk P w H h):cQ P w H h a u:=by
 rcases r with r|⟨o,r⟩
 .exact x a u r
 .obtain⟨_,q⟩:=x a _ r;exact q
def Mut:Option HO->Prop
 |some (.lst _)=>True
 |some (.dK _)=>True
 |some (.dT _)=>True
 |some (.set _ _)=>True
 |some (.ins _ _ _)=>True
 |some (.ext _)=>True
 |_=>False
variable{x:GD}
section
variable{e:GD}{o':HO}
theorem HOk.write(ok:HOk P w H h)(f:Mut (H x))(m:e=x\/H e=Kb (.own x))(k:∀b u,b≠e->h.get? b=Kb u->h'.get? b=Kb u)(j:∃u,h'.get? e=Kb u)
  (new:cQ P w (upd H x o') h' x o'):HOk P w (upd H x o') h':=λb u q=>by
 have n:∀c y,H c=Kb (.own y)->c≠x:=λc y r z=>by subst z;rw[r]at f;exact f
 have p:∀c d,H c=Kb (.tup d)->c≠x:=λc d r z=>by subst z;rw[r]at f;exact f
 by_cases i:b=x
 .subst i;rw[ab]at q;cases q;exact new
 .rw[ay i]at q;by_cases a:b=e
  .have l:H b=Kb (.own x):=by
    rcases m with z|z
    .exact Kk (a.trans z) i
    .rw[a];exact z
   rw[q]at l;cases l;obtain⟨v,o⟩:=j;exact⟨v,by rw[a];exact o⟩
  .refine(ok b u q).stay (λc v g r=>k c v ?_ r) (λc r=>by rw[ay (n c b r)];exact r) λc d r=>by rw[ay (p c d r)];exact r
   rcases g with rfl|g
   .exact a
   .rintro rfl;rcases m with z|z
    .exact n c b g z
    .rw[g]at z;cases z;exact i U
end
structure Un(fs ex:List GD)(H H':Hp)(h h':GG):Prop where
 keep:∀b o,h.get? b=Kb o->H b=Kc->b ∉ fs->b ∉ ex->h'.get? b=Kb o
 slot:∀b o,h.get? b=Kb o->H b=Kc->b∈fs->b ∉ ex->∃sl,h'.get? b=Kb { o with slots:=sl }
 free:∀b o,h.get? b=Kb o->H b=Kc->b ∉ ex->H' b=Kc
 there:∀b o,h.get? b=Kb o->b ∉ ex->∃o',h'.get? b=Kb o'
 tups:∀b xs,H b=Kb (.tup xs)->H' b=Kb (.tup xs)
 frzs:∀b o u,H b=Kb (.frz o u)->H' b=Kb (.frz o u)
 tbls:∀b ps,H b=Kb (.tbl ps)->∃more,H' b=Kb (.tbl (ps++more))
section
variable{fs fs' ex ex':List GD}{H1 H2:Hp}{h1 h2:GG}{e:GD}{o:HO}
theorem Un.any(u:Un fs ex H H1 h h1){b:GD}{a:Obj}(q:h.get? b=Kb a)(n:H b=Kc)(c:b ∉ ex):∃e,h1.get? b=Kb { a with slots:=e }:=by
 by_cases d:b∈fs
 .exact u.slot b a q n d c
 .exact⟨a.slots,u.keep b a q n d c⟩
theorem Un.kept(k:∀b u,h.get? b=Kb u->h'.get? b=Kb u):Un fs ex H H h h' :=
 ⟨λb a q _ _ _=>k b a q,λb a q _ _ _=>⟨a.slots,k b a q⟩,λ_ _ _ n _=>n,λb a q _=>⟨a,k b a q⟩,λ_ _ q=>q,λ_ _ _ q=>q,λ_ c q=>⟨#[],by rw[q];simp⟩⟩
theorem Un.refl:Un fs ex H H h h:=Un.kept λ_ _ q=>q
theorem Un.laid(k:∀b u,h.get? b=Kb u->h'.get? b=Kb u)(e:h.objs.size<=a)(c:H a=Kc):Un fs ex H (upd H a o) h h' where
 keep:=λb u q _ _ _=>k b u q
 slot:=λb u q _ _ _=>⟨u.slots,k b u q⟩
 free:=λb u q n _=>by rw[ay (yv (yU (GG.lt_size q) e))];exact n
 there:=λb u q _=>⟨u,k b u q⟩
 tups:=λb d q=>by rw[ay (bf q c)];exact q
 frzs:=λb u d q=>by rw[ay (bf q c)];exact q
 tbls:=λb f q=>⟨#[],by rw[ay (bf q c),q];simp⟩
theorem Un.write(c:Mut (H x))(m:e=x\/H e=Kb (.own x))(k:∀b u,b≠e->h.get? b=Kb u->h'.get? b=Kb u)(f:∃u,h'.get? e=Kb u):Un fs ex H (upd H x o) h h':=by
 have g:∀b,H b=Kc->b≠x:=λb n z=>by subst z;rw[n]at c;exact c
 have i:∀b,H b=Kc->b≠e:=λb n z=>by
  subst z;rcases m with r|r
  .exact g b n r
  .rw[n]at r;cases r
 have d:∀b u,H b=Kb u->¬ Mut (Kb u)->b≠x:=λb u q l z=>by subst z;rw[q]at c;exact l c
 refine⟨λb u q n _ _=>k b u (i b n) q,λb u q n _ _=>⟨u.slots,k b u (i b n) q⟩,λb u q n _=>by rw[ay (g b n)];exact n,λb u q _=>?_,
  λb j q=>by rw[ay (d b _ q λz=>z)];exact q,λb u j q=>by rw[ay (d b _ q λz=>z)];exact q,λb p q=>⟨#[],by rw[ay (d b _ q λz=>z),q];simp⟩⟩
 by_cases a:b=e
 .subst a;exact f
 .exact⟨u,k b u a q⟩
end
def trk(h:GG)(H:Hp):List GD:=(List.range h.objs.size).filter λa=>(H a).isSome
def lH(h:GG)(H:Hp):GG:=W.hideAll h (trk h H)
theorem uF(h:GG)(H:Hp):(lH h H).objs.size=h.objs.size:=W.hideAll_size _ _
theorem vP{h:GG}{H:Hp}{b:GD}{o:Obj}(e:h.get? b=Kb o)(n:H b=Kc):(lH h H).get? b=Kb o :=
 W.hideAll_get _ e λa=>by
  have q:(H b).isSome=true:=(jO.mp a).2;rw[n]at q;simp at q
theorem yd{h:GG}{H:Hp}{b:GD}{o:Obj}(e:(lH h H).get? b=Kb o):h.get? b=Kb o/\H b=none:=by
 have a:h.get? b=Kb o:=W.of_hideAll (trk h H) e;refine⟨a,?_⟩;cases q:H b with
 |none=>rfl
 |some x =>
  have c:b∈trk h H:=jO.mpr ⟨ju.mpr (GG.lt_size a),by simp[q]⟩;have z:(lH h H).get? b=none:=W.hideAll_none (trk h H) c;rw[z]at e;cases e
def ye(g h:GG)(L:GD):List (GD×Obj):=(List.range h.objs.size).filterMap λa=>if a=L\/(g.get? a).isSome=Kd then Kc else(h.get? a).map λo=>(a,o)
def rest(g h:GG)(L d:GD):List (GD×Obj):=(ye g h L).filter λp=>decide (p.1≠d)
structure Mod(K:W.Frag)(mg:Str->Option Gf)(base:GG):Prop where
 kin:K.In base
 glob:base.Ns GK mg
 blt:∃mb,base.Ns GL mb/\∀x:Str,x ≠ "__name__" -> mb x=GN x
 nolimit:base.NoLimit
structure Cx where
 prog:GC
 w:Gn
 K:W.Frag
 mg:Str->Option Gf
 base:GG
 A:GO
 N:List Str
 s₀:GP
 H₀:Hp
 env:Env
 outer:List Env
 stack:List Env
 ex:List GD
 fn:Str->Bool
 calm:Bool
 pn:List (GD×Obj)
 xe:Gf->GP->Prop
def frs(l:List Env):List GD:=l.filterMap (·.frame)
abbrev Cx.fs(X:Cx):List GD:=frs X.outer
def Vis(a:GQ)(x:Str):Prop:=a.names.lookup x=Kb .local\/a.names.lookup x=Kb .cell\/a.names.lookup x=Kb .free
def Loc(a:GQ)(x:Str):Prop:=a.names.lookup x=Kb .local\/a.names.lookup x=Kb .cell
def Look(a:Env)(h:GG)(m:Str->Option Gf)(x:Str)(u:Gf):Prop :=
 (a.kindOf x=Kb .local/\m x=Kb u)\/((a.kindOf x=Kb .cell\/a.kindOf x=Kb .free)/\∃c,a.cells.lookup x=Kb c/\h.IsCell c (Kb u))
structure Cx.Ok(X:Cx):Prop where
 mod:Mod X.K X.mg X.base
 kind:X.env.scope.kind=.function
 glob:X.env.globals=GK
 blt:X.env.builtins=GL
 above:X.s₀.heap.objs.size<=X.env.locals
 inj:∀x y c,X.env.cells.lookup x=Kb c->X.env.cells.lookup y=Kb c->x=y
 has:∀x,(X.env.kindOf x=Kb .cell\/X.env.kindOf x=Kb .free)->∃c,X.env.cells.lookup x=Kb c
 cab:∀x c,X.fn x=Kd->X.env.cells.lookup x=Kb c->X.s₀.heap.objs.size<=c
 hd:X.calm=Kd->X.A.handled=Kc
 frames:X.A.frames=Kb X.stack
 stk:X.stack=X.outer\/(X.stack=X.env :: X.outer/\X.env.frame=Kb X.env.locals)
 exf:∀b∈X.ex,b≠X.env.locals/\∀x c,X.env.cells.lookup x=Kb c->c≠b
 bs:∀b o,X.base.get? b=Kb o->X.s₀.heap.get? b=Kb o/\X.H₀ b=Kc
 bsz:X.base.objs.size<=X.s₀.heap.objs.size
 noex:∀b o,X.base.get? b=Kb o->b ∉ X.ex
 exfs:∀b∈X.ex,b ∉ X.fs
 funs:X.s₀.heap.FunFrames X.base X.outer
 frf:∀b∈X.fs,X.H₀ b=Kc
structure Inv(X:Cx)(Kg:List (GD×Obj))(σ:List (Option V))(H:Hp)(s:GP):Prop where
 ok:X.Ok
 os:s.os=X.s₀.os
 bare:AllBare s.gens
 base:Un X.fs X.ex X.H₀ H X.s₀.heap s.heap
 loc:∃m,s.heap.Ns X.env.locals m/\∀(i:Nat)(x:Str)(v:V),X.N[i]?=Kb x->σ[i]?=Kb (Kb v)->Vis X.env.scope x->∃u,RelV v u/\Look X.env s.heap m x u
 cell:∀x c,X.env.cells.lookup x=Kb c->∃v,s.heap.IsCell c v
 free:H X.env.locals=Kc
 freeC:∀x c,X.env.cells.lookup x=Kb c->H c=Kc
 pin:∀p∈X.pn++Kg,s.heap.get? p.1=Kb p.2/\H p.1=Kc/\p.1≠X.env.locals/\p.1 ∉ X.fs/\∀v,p.2.data≠.cell v
 hok:HOk X.prog X.w H s.heap
 len:σ.length=X.N.length
variable{X:Cx}{Kg:List (GD×Obj)}{s:GP}
section
variable{σ:List (Option V)}
theorem Cx.Ok.nofr(ok:X.Ok){b:GD}{o:Obj}(e:X.base.get? b=Kb o):b ∉ X.fs:=λa=>by
 have:=(ok.funs.mem a).1;rw[e]at this;cases this
theorem Inv.bs(I:Inv X Kg σ H s):∀b o,X.base.get? b=Kb o->s.heap.get? b=Kb o/\H b=none:=λb o e =>
 ⟨I.base.keep b o (I.ok.bs b o e).1 (I.ok.bs b o e).2 (I.ok.nofr e) (I.ok.noex b o e),I.base.free b o (I.ok.bs b o e).1 (I.ok.bs b o e).2 (I.ok.noex b o e)⟩
theorem Inv.bk(I:Inv X Kg σ H s):∀b o,X.base.get? b=Kb o->s.heap.get? b=Kb o:=λb o e=>(I.bs b o e).1
theorem Inv.mod(I:Inv X Kg σ H s):Mod X.K X.mg X.base:=I.ok.mod
theorem Inv.kIn(I:Inv X Kg σ H s):X.K.In s.heap:=I.ok.mod.kin.keeps I.bk
theorem Inv.lt(I:Inv X Kg σ H s):X.env.locals<s.heap.objs.size:=by obtain⟨_,a,_⟩:=I.loc;exact a.lt
theorem Inv.sz(I:Inv X Kg σ H s):X.s₀.heap.objs.size<=s.heap.objs.size:=yW I.ok.above (zf I.lt)
theorem Inv.nofs(I:Inv X Kg σ H s){a:GD}(h:s.heap.objs.size<=a):a ∉ X.fs:=λc=>by
 obtain⟨_,o,b,_⟩:=I.ok.funs.mem c;exact Kk (yU (GG.lt_size b) (yW I.sz h)) (ze _)
theorem Inv.cne(I:Inv X Kg σ H s):∀x c,X.env.cells.lookup x=Kb c->c≠X.env.locals:=λx c e z=>by
 obtain⟨v,o,d,f⟩:=I.cell x c e;obtain⟨m,⟨g,h,i,a,b,_⟩,_⟩:=I.loc;rw[z,a]at d;cases d;rw[b]at f;cases f
theorem Inv.funs(I:Inv X Kg σ H s):s.heap.FunFrames X.base X.outer:=by
 have all:∀(l:List Env),(∀b∈frs l,b∈X.fs)->X.s₀.heap.FunFrames X.base l->s.heap.FunFrames X.base l:=by
  intro l;induction l with
  |nil=>intro _ _;trivial
  |cons p r g =>
   intro f k;obtain⟨m,⟨L,o,a,j,i,n⟩,h⟩:=k;have d:L∈X.fs:=f L (by unfold frs;rw[sO,a];exact ff);obtain⟨q,e⟩:=I.base.slot L o i (I.ok.frf L d) d λz=>I.ok.exfs L z d
   exact⟨m,⟨L,_,a,j,e,n⟩,g (λb c=>f b (by unfold frs;rw[sO,a];exact iO _ c)) h⟩
 exact all X.outer (λ_ c=>c) I.ok.funs
theorem Inv.stack(I:Inv X Kg σ H s):s.heap.FunFrames X.base X.stack:=by
 rcases I.ok.stk with e|⟨e,b⟩
 .rw[e];exact I.funs
 .rw[e];obtain⟨m,a,_⟩:=I.loc;refine .cons (by rw[I.ok.kind];decide) b a ?_ I.funs;exact GG.get?_none_of_le (yW I.ok.bsz I.ok.above)
theorem Inv.stkSub(I:Inv X Kg σ H s):∀b∈frs X.stack,b∈X.env.locals :: X.fs:=λb a=>by
 rcases I.ok.stk with e|⟨e,c⟩
 .rw[e]at a;exact iO _ a
 .rw[e]at a;unfold frs at a;rw[sO,c]at a;exact a
theorem Inv.stkFree(I:Inv X Kg σ H s):∀b∈frs X.stack,H b=none:=λb a=>by
 rcases dt.mp (I.stkSub b a)with e|a
 .rw[e];exact I.free
 .obtain⟨_,o,c,_⟩:=I.ok.funs.mem a;exact I.base.free b o c (I.ok.frf b a) λz=>I.ok.exfs b z a
theorem Inv.step{g':Array GR}{t':Nat}{d':Drawn}{ch:List GD}(I:Inv X Kg σ H s)
  (g:∀b∈ch,(b∈X.ex\/X.s₀.heap.objs.size<=b)/\b≠X.env.locals/\(∀x c,X.env.cells.lookup x=Kb c->c≠b)/\∀p∈X.pn++Kg,p.1≠b)
  (keep:∀b o,b≠X.env.locals->b ∉ X.fs->b ∉ ch->s.heap.get? b=Kb o->H b=Kc->h'.get? b=Kb o)
  (slot:∀b o,b≠X.env.locals->b∈X.fs->b ∉ ch->s.heap.get? b=Kb o->H b=Kc->∃F,h'.get? b=Kb { o with slots:=F })(free:∀b o,b ∉ ch->s.heap.get? b=Kb o->H b=Kc->H' b=Kc)
  (there:∀b o,b ∉ ch->s.heap.get? b=Kb o->∃B,h'.get? b=Kb B)
  (tups:∀b xs,H b=Kb (.tup xs)->H' b=Kb (.tup xs))(frzs:∀b o u,H b=Kb (.frz o u)->H' b=Kb (.frz o u))(tbls:∀b ps,H b=Kb (.tbl ps)->∃E,H' b=Kb (.tbl (ps++E)))
  (ns:∀m,s.heap.Ns X.env.locals m->h'.Ns X.env.locals m)(hok:HOk X.prog X.w H' h')(S:AllBare g') :
  Inv X Kg σ H' { s with heap:=h',gens:=g',drawn:=d',toks:=t' }:=by
 have D:∀b o,X.s₀.heap.get? b=Kb o->b≠X.env.locals:=λb o e=>yv (yU (GG.lt_size e) I.ok.above)
 have t:∀b o,X.s₀.heap.get? b=Kb o->b ∉ X.ex->b ∉ ch:=λb o e a y=>by
  rcases(g b y).1 with z|z
  .exact a z
  .exact Kk (yU (GG.lt_size e) z) (ze _)
 have h:∀x c,X.env.cells.lookup x=Kb c->∀v,s.heap.IsCell c v->h'.IsCell c v:=λx c e v ⟨o,A,G⟩=>by
  have f:c ∉ ch:=λz=>(g c z).2.2.1 x c e U
  by_cases N:c∈X.fs
  .obtain⟨F,q⟩:=slot c o (I.cne x c e) N f A (I.freeC x c e);exact⟨_,q,G⟩
  .exact⟨o,keep c o (I.cne x c e) N f A (I.freeC x c e),G⟩
 refine⟨I.ok,I.os,S,⟨λb o e n y a=>?_,λb o e n y a=>?_,λb o e n a=>?_,λb o e a=>?_,λb xs e=>tups b xs (I.base.tups b xs e),λb o xs e=>frzs b o xs (I.base.frzs b o xs e),λb ps e=>?_⟩,?_,λx c e=>?_,?_,λx c e=>?_,λp M=>?_,hok,I.len⟩
 .exact keep b o (D b o e) y (t b o e a) (I.base.keep b o e n y a) (I.base.free b o e n a)
 .obtain⟨F,j⟩:=I.base.slot b o e n y a;obtain⟨J,C⟩:=slot b _ (D b o e) y (t b o e a) j (I.base.free b o e n a);exact⟨J,C⟩
 .obtain⟨B,j⟩:=I.base.there b o e a;exact free b B (t b o e a) j (I.base.free b o e n a)
 .obtain⟨B,j⟩:=I.base.there b o e a;exact there b B (t b o e a) j
 .obtain⟨P,j⟩:=I.base.tbls b ps e;obtain⟨O,C⟩:=tbls b _ j;exact⟨P++O,by rw[C,Array.append_assoc]⟩
 .obtain⟨m,Q,R⟩:=I.loc;refine⟨m,ns m Q,λi x v j C T=>?_⟩;obtain⟨u,r,l⟩:=R i x v j C T;refine⟨u,r,?_⟩;rcases l with l|⟨k,c,e,z⟩
  .exact .inl l
  .exact .inr ⟨k,c,e,h x c e _ z⟩
 .obtain⟨v,z⟩:=I.cell x c e;exact⟨v,h x c e v z⟩
 .obtain⟨m,⟨o,_,_,A,_⟩,_⟩:=I.loc;exact free _ o (λz=>(g _ z).2.1 U) A I.free
 .obtain⟨v,o,A,G⟩:=I.cell x c e;exact free c o (λz=>(g c z).2.2.1 x c e U) A (I.freeC x c e)
 .obtain⟨e,n,L,K,d⟩:=I.pin p M;have f:p.1 ∉ ch:=λz=>(g p.1 z).2.2.2 p M U
  exact⟨keep p.1 p.2 L K f e n,free p.1 p.2 f e n,L,K,d⟩
theorem Inv.un{t':Nat}(I:Inv X Kg σ H s)(u:Un X.fs [] H H' s.heap h')(hok:HOk X.prog X.w H' h'):Inv X Kg σ H' { s with heap:=h',toks:=t' }:=by
 obtain⟨m,⟨o,q,t,g,r⟩,_⟩:=id I.loc;obtain⟨k,j⟩:=u.any g I.free (by simp);exact I.step (g':=s.gens) (d':=s.drawn) (ch:=[]) (λ_ z=>nomatch z) (λb o _ c _ e n=>u.keep b o e n c (by simp)) (λb o _ c _ e n=>u.slot b o e n c (by simp)) (λb o _ e n=>u.free b o e n (by simp)) (λb o _ e=>u.there b o e (by simp)) u.tups u.frzs u.tbls (λp i=>by
  obtain⟨l,d,f,a,h⟩:=i;rw[g]at a;cases a;exact⟨_,d,f,j,h⟩) hok I.bare
theorem Inv.call{g':Array GR}{t':Nat}{d':Drawn}{ch:List GD}(I:Inv X Kg σ H s)(u:Un (frs X.stack) ch H H' s.heap h')(hok:HOk X.prog X.w H' h')(q:AllBare g')
  (f:∀b∈ch,(b∈X.ex\/X.s₀.heap.objs.size<=b)/\b≠X.env.locals/\(∀x c,X.env.cells.lookup x=Kb c->c≠b)/\∀p∈X.pn++Kg,p.1≠b) :
  Inv X Kg σ H' { s with heap:=h',gens:=g',drawn:=d',toks:=t' }:=by
 obtain⟨m,⟨o,B,C,j,r⟩,_⟩:=id I.loc;obtain⟨v,g⟩:=u.any j I.free λz=>(f _ z).2.1 U
 exact I.step (ch:=ch) f (λb o g t a e n=>u.keep b o e n (λz=>(dt.mp (I.stkSub b z)).elim g t) a) (λb o _ _ a e n=>u.any e n a) (λb o a e n=>u.free b o e n a) (λb o a e=>u.there b o e a) u.tups u.frzs u.tbls (λA l=>by
  obtain⟨y,h,i,d,k⟩:=l;rw[j]at d;cases d;exact⟨_,h,i,g,k⟩) hok q
theorem Inv.turned{t':Nat}{it:GD}(I:Inv X Kg σ H s)(k:∀b o,b≠it->s.heap.get? b=Kb o->h'.get? b=Kb o)(h:H it=Kc)(f:it≠X.env.locals)
  (w:it∈X.ex\/X.s₀.heap.objs.size<=it)(t:∀x c,X.env.cells.lookup x=Kb c->c≠it)(l:∀p∈X.pn++Kg,p.1≠it):Inv X Kg σ H { s with heap:=h',toks:=t' }:=by
 have d:∀b u,H b=Kb u->b≠it:=λb u e z=>by rw[z,h]at e;cases e
 refine I.step (g':=s.gens) (d':=s.drawn) (ch:=[it]) (λb j=>?_) (λb o _ _ a e _=>k b o (λz=>a (by simp[z])) e) (λb o _ _ a e _=>⟨o.slots,k b o (λz=>a (by simp[z])) e⟩) (λ_ _ _ _ n=>n)
  (λb o a e=>⟨o,k b o (λz=>a (by simp[z])) e⟩) (λ_ _ e=>e) (λ_ _ _ e=>e) (λb B e=>⟨#[],by rw[e];simp⟩) (λm i=>?_) (λb u e=>?_) I.bare
 .have e:b=it:=by simpa using j
  subst e;exact⟨w,f,t,l⟩
 .obtain⟨o,y,A,g,r⟩:=i;exact⟨o,y,A,k _ o (Ne.symm f) g,r⟩
 .refine(I.hok b u e).stay (λc v a q=>k c v ?_ q) (λ_ q=>q) λ_ _ q=>q
  rcases a with z|z
  .rw[z];exact d b u e
  .exact d c _ z
theorem Inv.tok(I:Inv X Kg σ H s)(t:Nat):Inv X Kg σ H { s with toks:=t }:=I.un (h':=s.heap) (t':=t) Un.refl I.hok
theorem Inv.kept{t':Nat}(I:Inv X Kg σ H s)(k:∀b u,s.heap.get? b=Kb u->h'.get? b=Kb u):Inv X Kg σ H { s with heap:=h',toks:=t' }:=I.un (Un.kept k) (I.hok.kept k)
theorem Inv.laid{a:GD}{o:HO}{t':Nat}(I:Inv X Kg σ H s)(k:∀b u,s.heap.get? b=Kb u->h'.get? b=Kb u)(c:s.heap.objs.size<=a)(new:cQ X.prog X.w (upd H a o) h' a o) :
  Inv X Kg σ (upd H a o) { s with heap:=h',toks:=t' }:=I.un (Un.laid k c (I.hok.fresh c)) (I.hok.laid k c new)
theorem Inv.write{x e:GD}{o:HO}{t':Nat}(I:Inv X Kg σ H s)(c:Mut (H x))(d:e=x\/H e=Kb (.own x))(k:∀b u,b≠e->s.heap.get? b=Kb u->h'.get? b=Kb u)(a:∃u,h'.get? e=Kb u)
  (new:cQ X.prog X.w (upd H x o) h' x o):Inv X Kg σ (upd H x o) { s with heap:=h',toks:=t' }:=I.un (Un.write c d k a) (I.hok.write c d k a new)
theorem Inv.pins_of{a:List (GD×Obj)}(I:Inv X Kg σ H s)(h:∀p∈a,s.heap.get? p.1=Kb p.2/\H p.1=Kc/\p.1≠X.env.locals/\p.1 ∉ X.fs/\∀v,p.2.data≠.cell v):Inv X a σ H s :=
 ⟨I.ok,I.os,I.bare,I.base,I.loc,I.cell,I.free,I.freeC,λp b=>(gg.mp b).elim (λz=>I.pin p (kC _ z)) (h p),I.hok,I.len⟩
theorem jN{N:List Str}(c:N.Nodup){i j:Nat}{x:Str}(a:N[i]?=Kb x)(b:N[j]?=Kb x):i=j:=by
 obtain⟨g,e⟩:=Gz.mp a;obtain⟨f,d⟩:=Gz.mp b;exact(xZ c).mp (e.trans d.symm)
theorem iC{M:GS}{A:GO}{E:Gf->GP->Prop}{i:Nat}{x:Str}{v:V}{u:Gf}{Q:Unit->GP->Prop}(I:Inv X Kg σ H s)(hN:X.N.Nodup)(hi:X.N[i]?=Kb x)(B:Loc X.env.scope x)(r:RelV v u)
  (h:∀s',Inv X Kg (σ.set i (Kb v)) H s'->(∃a,GG.SameBut a s.heap s'.heap/\(a=X.env.locals\/X.env.cells.lookup x=Kb a))->Q () s')(hf:X.fn x=Kd\/X.env.scope.names.lookup x=Kb .local:=by first|exact .inl U|exact .inr U|assumption):GU M A (GV X.env x u) Q E s:=by
 obtain⟨m,hn,hl⟩:=id I.loc;have CS:(X.env.scope.kind == .class || (X.env.scope.kind == .module && X.env.locals != X.env.globals))=false:=by rw[I.ok.kind];rfl
 have F:i<σ.length:=by rw[I.len];exact(Gz.mp hi).1
 have cne:=I.cne;have l:∀{a:GD}{h':GG},(∃o,s.heap.get? a=Kb o/\H a=Kc)->GG.SameBut a s.heap h'->HOk X.prog X.w H h':=λ{a h'} ha f b ob e=>by
  obtain⟨_,_,tT⟩:=ha;refine(I.hok b ob e).stay (λc R t q=>(f.2 c ?_).trans q) (λ_ q=>q) λ_ _ q=>q
  rintro rfl;rcases t with rfl|t
  .rw[tT]at e;cases e
  .rw[tT]at t;cases t
 rcases B with D|D
 .refine wpAny_storeName_local D hn (λh' a1 f=>?_) CS;obtain⟨oL,_,_,a0,_⟩:=id hn;refine h _ ⟨I.ok,I.os,I.bare,⟨λb o e n J B=>?_,λb o e n J B=>?_,I.base.free,λb o e B=>?_,I.base.tups,I.base.frzs,I.base.tbls⟩,⟨_,a1,λj y W g C e3=>?_⟩,λy c e=>?_,I.free,I.freeC,λp hp=>?_,l ⟨oL,a0,I.free⟩ f,by simpa using I.len⟩ ⟨_,f,.inl U⟩
  .exact(f.2 b (yv (yU (GG.lt_size e) I.ok.above))).trans (I.base.keep b o e n J B)
  .obtain⟨Z,g⟩:=I.base.slot b o e n J B;exact⟨Z,(f.2 b (yv (yU (GG.lt_size e) I.ok.above))).trans g⟩
  .obtain⟨o',g⟩:=I.base.there b o e B;exact⟨o',(f.2 b (yv (yU (GG.lt_size e) I.ok.above))).trans g⟩
  .by_cases G:j=i
   .subst G;rw[hi]at g;cases g;rw[List.getElem?_set_self F]at C;cases C;exact⟨u,r,.inl ⟨D,by simp⟩⟩
   .rw[List.getElem?_set_ne (Ne.symm G)]at C;obtain⟨Y,r',q⟩:=hl j y W g C e3;refine⟨Y,r',?_⟩;rcases q with⟨k,e⟩|⟨k,c,e,z⟩
    .refine .inl ⟨k,?_⟩;have:y≠x:=λe=>G (jN hN g (e ▸ hi))
     simp[this,e]
    .exact .inr ⟨k,c,e,z.sameBut f (cne y c e)⟩
  .obtain⟨R,z⟩:=I.cell y c e;exact⟨R,z.sameBut f (cne y c e)⟩
  .obtain⟨e,n,S,nf,d⟩:=I.pin p hp;exact⟨(f.2 p.1 S).trans e,n,S,nf,d⟩
 .have K:X.fn x=true:=by
   rcases hf with z|z
   .exact z
   .rw[z]at D;cases D
  obtain⟨c,t⟩:=I.ok.has x (.inl D);obtain⟨R,z⟩:=I.cell x c t;refine wpAny_storeName_cell I.ok.kind D t z (λh' P f=>?_);obtain⟨oc,L,CT⟩:=id z;refine h { s with heap:=h' } ⟨I.ok,I.os,I.bare,⟨λb o e n J B=>?_,λb o e n J B=>?_,I.base.free,λb o e B=>?_,I.base.tups,I.base.frzs,I.base.tbls⟩,⟨m,hn.sameBut f (Ne.symm (cne x c t)),λj y W g C e3=>?_⟩,λy T e=>?_,I.free,I.freeC,λp hp=>?_,l ⟨oc,L,I.freeC x c t⟩ f,by simpa using I.len⟩ ⟨c,f,.inr t⟩
  .exact(f.2 b (yv (yU (GG.lt_size e) (I.ok.cab x c K t)))).trans (I.base.keep b o e n J B)
  .obtain⟨Z,g⟩:=I.base.slot b o e n J B;exact⟨Z,(f.2 b (yv (yU (GG.lt_size e) (I.ok.cab x c K t)))).trans g⟩
  .obtain⟨o',g⟩:=I.base.there b o e B;exact⟨o',(f.2 b (yv (yU (GG.lt_size e) (I.ok.cab x c K t)))).trans g⟩
  .by_cases G:j=i
   .subst G;rw[hi]at g;cases g;rw[List.getElem?_set_self F]at C;cases C;exact⟨u,r,.inr ⟨.inl D,c,t,P⟩⟩
   .rw[List.getElem?_set_ne (Ne.symm G)]at C;obtain⟨Y,r',q⟩:=hl j y W g C e3;refine⟨Y,r',?_⟩;rcases q with q|⟨k,T,e,z'⟩
    .exact .inl q
    .refine .inr ⟨k,T,e,z'.sameBut f ?_⟩;rintro rfl;exact G (jN hN g (I.ok.inj _ _ _ e t ▸ hi))
  .by_cases O:T=c
   .subst O;exact⟨_,P⟩
   .obtain⟨w2,z2⟩:=I.cell y T e;exact⟨w2,z2.sameBut f O⟩
  .obtain⟨e,n,S,nf,d⟩:=I.pin p hp;refine⟨(f.2 p.1 ?_).trans e,n,S,nf,d⟩;intro q;rw[q,L]at e;have q':oc=p.2:=Option.some.inj e;exact d R (by rw[←q'];exact CT)
theorem lJ{M:GS}{A:GO}{E:Gf->GP->Prop}{i:Nat}{x:Str}{v:V}{u:Gf}{Q:Unit->GP->Prop}(I:Inv X Kg σ H s)(c:X.N.Nodup)(hi:X.N[i]?=Kb x)(a:Loc X.env.scope x)(r:RelV v u)
  (h:∀s',Inv X Kg (σ.set i (Kb v)) H s'->Q () s')(b:X.fn x=Kd\/X.env.scope.names.lookup x=Kb .local:=by first|exact .inl U|exact .inr U|assumption):GU M A (GV X.env x u) Q E s :=
 iC I c hi a r (λs' d _=>h s' d) b
theorem Inv.call'{s':GP}{ch:List GD}(I:Inv X Kg σ H s)(f:s'.os=s.os)(u:Un (frs X.stack) ch H H' s.heap s'.heap)(hok:HOk X.prog X.w H' s'.heap)(g:AllBare s'.gens)
  (a:∀b∈ch,(b∈X.ex\/X.s₀.heap.objs.size<=b)/\b≠X.env.locals/\(∀x c,X.env.cells.lookup x=Kb c->c≠b)/\∀p∈X.pn++Kg,p.1≠b):Inv X Kg σ H' s':=by
 obtain⟨h',g',d',t',d⟩:=s';have e:d=s.os:=f;subst e;exact I.call (g':=g') (t':=t') (d':=d') u hok g a
end
abbrev XK:=Gf->Option GD->Hp->Prop
abbrev St:=List (Option V)
abbrev VK:=V->Hp->Prop
abbrev TE:=St->Hp->VK->Prop
abbrev TT:=St->Hp->(Bool->Hp->Prop)->Prop
abbrev TA:=St->Hp->(List V->Hp->Prop)->Prop
structure Ends where
 nx:St->Hp->Prop
 rt:VK
 bk:St->Hp->Prop:=λ_ _=>False
 ct:St->Hp->Prop:=λ_ _=>False
abbrev TS:=Ends->St->Hp->Prop
def EP(X:Cx)(Kg:List (GD×Obj))(a:St)(Q:VK)(u:Gf)(s':GP):Prop:=∃v H',Inv X Kg a H' s'/\RelV v u/\Q v H'
def TP(X:Cx)(Kg:List (GD×Obj))(a:St)(Q:Bool->Hp->Prop)(b:Bool)(s':GP):Prop:=∃H',Inv X Kg a H' s'/\Q b H'
def AP(X:Cx)(Kg:List (GD×Obj))(b:St)(Q:List V->Hp->Prop)(us:List Gf)(s':GP):Prop:=∃a H',Inv X Kg b H' s'/\Vals a us/\Q a H'
def SP(X:Cx)(Kg:List (GD×Obj))(D:Ends)(f:Flow)(s':GP):Prop :=
 match f with
 | .next=>∃a H',Inv X Kg a H' s'/\D.nx a H'
 | .brk=>∃a H',Inv X Kg a H' s'/\D.bk a H'
 | .cont=>∃a H',Inv X Kg a H' s'/\D.ct a H'
 | .ret u=>∃v a H',Inv X Kg a H' s'/\RelV v u/\D.rt v H'
def PE(X:Cx)(e:GW)(t:TE):Prop :=
 ∀(Kg:List (GD×Obj))(s:GP)(a:St)(H:Hp)(Q:VK),Inv X Kg a H s->t a H Q->GU (model X.prog X.w) X.A (eval e X.env) (EP X Kg a Q) X.xe s
def PT(X:Cx)(e:GW)(t:TT):Prop :=
 ∀(Kg:List (GD×Obj))(s:GP)(a:St)(H:Hp)(Q:Bool->Hp->Prop),Inv X Kg a H s->t a H Q->GU (model X.prog X.w) X.A (GX e X.env (eval e X.env)) (TP X Kg a Q) X.xe s
def PW(X:Cx)(e:GW)(t:TT):Prop :=
 ∀(a:Sem Gf)(Kg:List (GD×Obj))(s:GP)(b:St)(H:Hp)(Q:Bool->Hp->Prop),Inv X Kg b H s->t b H Q->GU (model X.prog X.w) X.A (GX e X.env a) (TP X Kg b Q) X.xe s
theorem PW.pt{X:Cx}{e:GW}{t:TT}(h:PW X e t):PT X e t:=h _
def PA(X:Cx)(c:List GW)(t:TA):Prop :=
 ∀(b:Pos)(Kg:List (GD×Obj))(s:GP)(a:St)(H:Hp)(Q:List V->Hp->Prop),Inv X Kg a H s->t a H Q->GU (model X.prog X.w) X.A (spliced (GY b (GZ c X.env))) (AP X Kg a Q) X.xe s
def PS(X:Cx)(st:G5)(t:TS):Prop :=
 ∀(Kg:List (GD×Obj))(s:GP)(a:St)(H:Hp)(D:Ends),Inv X Kg a H s->t D a H->GU (model X.prog X.w) X.A (exec st X.env) (SP X Kg D) X.xe s
def PSs(X:Cx)(st:List G5)(t:TS):Prop :=
 ∀(Kg:List (GD×Obj))(s:GP)(a:St)(H:Hp)(D:Ends),Inv X Kg a H s->t D a H->GU (model X.prog X.w) X.A (execs st X.env) (SP X Kg D) X.xe s
theorem thn{α:Type}{t:Sem α}{Q b:α->GP->Prop}{M:GS}{A:GO}{E:Gf->GP->Prop}{s:GP}(h:GU M A t Q E s)(c:∀a s,Q a s->b a s):GU M A t b E s:=G6 h c λ_ _ x=>x
variable{ta tb:TE}{pos:Pos}
section
inductive zT(i:Nat)(σ:St)(H:Hp)(Q:VK):Prop
 |mk (v:_)(_:σ[i]?=Kb (Kb v))(_:Q v H)
def tC(v:V):TE:=λ_ H Q=>Q v H
theorem rG{i:Nat}{x:Str}{pos:Pos}(t:X.N[i]?=Kb x)(n:Vis X.env.scope x)(d:(x == ("__debug__" : Str))=false:=by decide) (f:(x == ("__classdict__" : Str))=false:=by decide):PE X (.Name x pos) (zT i):=by
 intro Kg s k H Q I h;obtain⟨v,e,h⟩:=h;obtain⟨m,o,q⟩:=I.loc;obtain⟨u,r,l⟩:=q i x v t e n;have b:EP X Kg k Q u s:=⟨v,H,I,r,h⟩;rcases l with⟨a,p⟩|⟨a,c,j,g⟩
 .exact G7 (G8 I.ok.kind a o p b) d
 .rcases a with a|a
  .exact G7 (G9 I.ok.kind a j g b) d
  .exact G7 (wpAny_loadName_free I.ok.kind a j g b f) d
theorem ag{i j pos}:PE X (.Constant (.int i) j pos) (tC (.int i)):=λ_ _ _ H _ I h=>wpAny_Constant_int ⟨.int i,H,I.tok _,⟨_,U⟩,h⟩
theorem eO{b j pos}:PE X (.Constant (.bool b) j pos) (tC (.bl b)):=λ_ _ _ H _ I h=>Constant_bool ⟨.bl b,H,I,U,h⟩
theorem rH{j pos}:PE X (.Constant .none j pos) (tC .non):=λ_ _ _ H _ I h=>Constant_none ⟨.non,H,I,U,h⟩
theorem aQ{x j pos}:PE X (.Constant (.str x) j pos) (tC (.str x)):=λ_ _ _ H _ I h=>Calls.Constant_str ⟨.str x,H,I.tok _,⟨_,U⟩,h⟩
def Gl(X:Cx)(x:Str):Prop:=X.env.kindOf x=Kb .globalImplicit
theorem gk{E:Gf->GP->Prop}{Kg:List (GD×Obj)}{s:GP}{a:St}{H:Hp}{x:Str}{u:Gf}{pos:Pos}{Q:Gf->GP->Prop}(I:Inv X Kg a H s)(c:Gl X x)(b:X.mg x=Kb u)(h:Q u s)
  (hd:(x == ("__debug__" : Str))=false:=by decide):GU (model X.prog X.w) X.A (eval (.Name x pos) X.env) Q E s :=
 Calls.Name_function_global I.ok.kind c (Calls.loadGlobal_global (by rw[I.ok.glob];exact I.mod.glob.keeps I.bk) b h) hd
theorem eP{E:Gf->GP->Prop}{Kg:List (GD×Obj)}{s:GP}{a:St}{H:Hp}{x:Str}{u:Gf}{pos:Pos}{Q:Gf->GP->Prop}(I:Inv X Kg a H s)(e:Gl X x)(d:X.mg x=Kc)(b:GN x=Kb u)(h:Q u s)
  (c:x ≠ "__name__" := by decide) (hd:(x == ("__debug__" : Str))=false:=by decide):GU (model X.prog X.w) X.A (eval (.Name x pos) X.env) Q E s:=by
 obtain⟨i,g,f⟩:=I.mod.blt;exact Calls.Name_function_global I.ok.kind e (Calls.loadGlobal_builtin (by rw[I.ok.glob];exact I.mod.glob.keeps I.bk) d (by rw[I.ok.blt];exact g.keeps I.bk) ((f x c).trans b) h) hd
theorem cz{x:Str}{v:V}{u:Gf}{pos:Pos}(b:Gl X x)(a:X.mg x=Kb u)(r:RelV v u)(c:(x == ("__debug__" : Str))=false:=by decide):PE X (.Name x pos) (tC v) :=
 λ_ _ _ H _ I h=>gk I b a ⟨v,H,I,r,h⟩ c
theorem pe{x:Str}{v:V}{u:Gf}{pos:Pos}(d:Gl X x)(c:X.mg x=Kc)(a:GN x=Kb u)(r:RelV v u)(b:x ≠ "__name__" := by decide) (hd:(x == ("__debug__" : Str))=false:=by decide):PE X (.Name x pos) (tC v) :=
 λ_ _ _ H _ I h=>eP I d c a ⟨v,H,I,r,h⟩ b hd
variable{a b:GW}
inductive tBq  (Q:Bool->Hp->Prop)(x:V)(H1:Hp):Prop
 |mk (c:_)(_:x=.bl c)(_:Q c H1):tBq Q x H1
def tB(t:TE):TT:=λa H Q=>t a H λx b=>tBq Q x b
theorem df{e:GW}{t:TE}(h:PE X e t)(i:∀a,GX e X.env a=(do let v ←a;He e.pos;holding [v] (truthy v)):=by intro _;rfl):PT X e (tB t):=by
 intro Kg s b H Q I g;refine isTrue_plain (thn (h Kg s b H _ I g) λv l ⟨x,k,j,c,f⟩=>?_) (i _);obtain⟨d,rfl,q⟩:=f;cases c;exact Hf ⟨k,j,q⟩
variable{tA tB':TT}{rest:List GW}
def CU(t u:TT):TT:=λa H Q=>t a H λc b=>if c=Kd then u a b Q else Q Ke b
def tOr(t u:TT):TT:=λa H Q=>t a H λc b=>if c=Kd then Q Kd b else u a b Q
def CV(t:TT):TT:=λa H Q=>t a H λc b=>Q (!c) b
theorem gm(d:PT X a tA):PW X (.BoolOp .And [a] pos) tA:=by
 intro f Kg s b H Q I h;refine isTrue_and (thn (d Kg s b H Q I h) λc g e=>?_);cases c with
 |true=>exact isTrue_and_nil e
 |false=>exact e
theorem pf(d:PT X a tA):PW X (.BoolOp .Or [a] pos) tA:=by
 intro f Kg s b H Q I h;refine isTrue_or (thn (d Kg s b H Q I h) λc g e=>?_);cases c with
 |false=>exact isTrue_or_nil e
 |true=>exact e
theorem i6(l:PT X a tA)(k:PW X (.BoolOp .And (b :: rest) pos) tB'):PW X (.BoolOp .And (a :: b :: rest) pos) (CU tA tB'):=by
 intro i Kg s d H Q I h;refine isTrue_and (thn (l Kg s d H _ I h) λc j ⟨g,f,e⟩=>?_);cases c with
 |true=>exact k i Kg j d g Q f e
 |false=>exact⟨g,f,e⟩
theorem tU(l:PT X a tA)(k:PW X (.BoolOp .Or (b :: rest) pos) tB'):PW X (.BoolOp .Or (a :: b :: rest) pos) (tOr tA tB'):=by
 intro i Kg s d H Q I h;refine isTrue_or (thn (l Kg s d H _ I h) λc j ⟨g,f,e⟩=>?_);cases c with
 |true=>exact⟨g,f,e⟩
 |false=>exact k i Kg j d g Q f e
theorem dg(d:PT X a tA):PT X (.UnaryOp .Not a pos) (CV tA):=by
 intro Kg s b H Q I h;exact isTrue_not (d Kg s b H (λc e=>Q (!c) e) I h)
inductive vQ(tb:TE)(σ:St)(Q:VK)(x:V)(H1:Hp):Prop
 |mk (c:_)(_:x=.bl c)(_:if c=Kd then tb σ H1 Q else Q (.bl Ke) H1)
def Bm(ta tb:TE):TE:=λa H Q=>ta a H λx b=>vQ tb a Q x b
inductive vR  (Q:VK)(x:V)(H1:Hp):Prop
 |mk (c:_)(_:x=.bl c)(_:Q (.bl (!c)) H1):vR Q x H1
def Bo(ta:TE):TE:=λa H Q=>ta a H λx b=>vR Q x b
theorem lK{op} {t:TE}(h:PE X a t):PE X (.BoolOp op [a] pos) t:=λKg s b H Q I c=>BoolOp_one (h Kg s b H Q I c)
theorem kj(l:PE X a ta)(k:PE X (.BoolOp .And (b :: rest) pos) tb):PE X (.BoolOp .And (a :: b :: rest) pos) (Bm ta tb):=by
 intro Kg s e H Q I h;refine BoolOp_and (thn (l Kg s e H _ I h) λv i ⟨x,g,f,j,d⟩=>?_);obtain⟨c,rfl,d⟩:=d;cases j;refine Hf ?_;cases c with
 |true=>exact k Kg i e g Q f d
 |false=>exact⟨.bl Ke,g,f,U,d⟩
theorem zU(f:PE X a ta):PE X (.UnaryOp .Not a pos) (Bo ta):=by
 intro Kg s d H Q I h;refine UnaryOp_ (thn (f Kg s d H _ I h) λv j ⟨x,i,g,e,b⟩=>?_);obtain⟨c,rfl,b⟩:=b;cases e;exact not_of (Hf ⟨.bl (!c),i,g,U,b⟩)
def tIf(t:TT)(ta tb:TE):TE:=λa H Q=>t a H λc b=>if c=Kd then ta a b Q else tb a b Q
theorem lL{c:GW}(k:PT X c tA)(m:PE X a ta)(l:PE X b tb):PE X (.IfExp c a b pos) (tIf tA ta tb):=by
 intro Kg s e H Q I h;refine wpAny_IfExp (thn (k Kg s e H _ I h) λd f ⟨j,i,g⟩=>?_);cases d with
 |true=>exact m Kg f e j Q i g
 |false=>exact l Kg f e j Q i g
end
def SqL(K:W.Frag)(H:Hp)(a:GD)(xs:List V):Prop :=
 Rd H a (.lst xs) \/
  ∃(o:Obj)(b:Array Gf)(n:Nat),K.lookup a=Kb o/\o.cls=.type "list" /\ o.dict=Kc/\o.data=.seq b n/\b.size<=GH/\Vals xs b.toList
def SqT(K:W.Frag)(H:Hp)(a:GD)(xs:List V):Prop :=
 Rd H a (.tup xs) \/
  ∃(o:Obj)(b:Array Gf)(n:Nat),K.lookup a=Kb o/\o.cls=.type "tuple" /\ o.data=.seq b n/\b.size<=GH/\Vals xs b.toList
def CW:Gf->Option V
 | .none=>Kb .non
 | .bool b=>Kb (.bl b)
 | .int i _=>Kb (.int i)
 | .str x _=>Kb (.str x)
 | .bytes b _=>Kb (.byt b)
 | .float b _=>Kb (.flt b)
 | .ref a=>Kb (.ref a)
 | .type n=>Kb (.ty n)
 |_=>Kc
theorem RelV.abs{x:V}{u:Gf}(r:RelV x u):CW u=Kb x:=by
 cases x with
 |non=>cases r;rfl
 |bl _=>cases r;rfl
 |int _=>obtain⟨t,rfl⟩:=r;rfl
 |str _=>obtain⟨t,rfl⟩:=r;rfl
 |byt _=>obtain⟨t,rfl⟩:=r;rfl
 |flt _=>obtain⟨t,rfl⟩:=r;rfl
 |ref _=>cases r;rfl
 |ty _=>cases r;rfl
theorem RelV.inj{x y:V}{u:Gf}(r:RelV x u)(q:RelV y u):x=y:=Option.some.inj (r.abs.symm.trans q.abs)
theorem Vals.inj:∀{xs ys:List V}{us:List Gf},Vals xs us->Vals ys us->xs=ys
 |_,_,_,.nil,.nil=>rfl
 |_,_,_,.cons r t,.cons r' t'=>by rw[r.inj r',Vals.inj t t']
variable{σ:St}
section
variable{xs ys:List V}
theorem SqL.of{K:W.Frag}(h:H a=Kb (.lst xs)):SqL K H a xs:=.inl (.inl h)
theorem SqT.of{K:W.Frag}(h:H a=Kb (.tup xs)):SqT K H a xs:=.inl (.inl h)
theorem Inv.list(I:Inv X Kg σ H s)(h:SqL X.K H a xs):∃b:List Gf,Vals xs b/\PlainL s.heap a b.toArray/\xs.length<=GH:=by
 rcases h with h|⟨o,b,n,d,g,f,c,i,r⟩
 .obtain⟨z,b,n,r,e⟩:=h.ok I.hok;exact⟨b,r,⟨_,n,e,U,U,U⟩,z⟩
 .refine⟨b.toList,r,⟨o,n,I.kIn a o d,g,f,by simpa using c⟩,?_⟩;have e:=r.length;simp only[CQ]at e;lia
theorem Inv.tuple(I:Inv X Kg σ H s)(h:SqT X.K H a xs):∃b:List Gf,Vals xs b/\IsTup s.heap a b.toArray/\xs.length<=GH:=by
 rcases h with h|⟨o,b,n,d,f,c,g,r⟩
 .obtain⟨z,b,r,p⟩:=h.ok I.hok;exact⟨b,r,p,z⟩
 .refine⟨b.toList,r,⟨o,I.kIn a o d,f,n,by simpa using c⟩,?_⟩;have e:=r.length;simp only[CQ]at e;lia
theorem Inv.list_inj(I:Inv X Kg σ H s)(h:SqL X.K H a xs)(h':SqL X.K H a ys):xs=ys:=by
 obtain⟨c,r,⟨o,n,e,_,_,d⟩,_⟩:=I.list h;obtain⟨b,i,⟨k,l,f,_,_,g⟩,_⟩:=I.list h';rw[e]at f;cases f;rw[d]at g;injection g with j _;have:c=b:=by simpa using Ko Array.toList j
 subst this;exact r.inj i
theorem Inv.tuple_inj(I:Inv X Kg σ H s)(h:SqT X.K H a xs)(h':SqT X.K H a ys):xs=ys:=by
 obtain⟨c,r,⟨o,e,_,n,d⟩,_⟩:=I.tuple h;obtain⟨b,i,⟨k,f,_,l,g⟩,_⟩:=I.tuple h';rw[e]at f;cases f;rw[d]at g;injection g with j _;have:c=b:=by simpa using Ko Array.toList j
 subst this;exact r.inj i
end
abbrev Cx.wish(X:Cx)(E:Gf->GP->Prop):Cx:={ X with xe:=E }
abbrev Cx.nox(X:Cx):Cx:=X.wish λ_ _=>False
theorem Cx.Ok.wish{X:Cx}(ok:X.Ok)(E:Gf->GP->Prop):(X.wish E).Ok :=
 ⟨ok.mod,ok.kind,ok.glob,ok.blt,ok.above,ok.inj,ok.has,ok.cab,ok.hd,ok.frames,ok.stk,ok.exf,ok.bs,ok.bsz,ok.noex,ok.exfs,ok.funs,ok.frf⟩
theorem Cx.Ok.unwish{X:Cx}{E:Gf->GP->Prop}(ok:(X.wish E).Ok):X.Ok :=
 ⟨ok.mod,ok.kind,ok.glob,ok.blt,ok.above,ok.inj,ok.has,ok.cab,ok.hd,ok.frames,ok.stk,ok.exf,ok.bs,ok.bsz,ok.noex,ok.exfs,ok.funs,ok.frf⟩
variable{E:Gf->GP->Prop}
theorem Inv.wish(I:Inv X Kg σ H s)(E:Gf->GP->Prop):Inv (X.wish E) Kg σ H s:=⟨I.ok.wish E,I.os,I.bare,I.base,I.loc,I.cell,I.free,I.freeC,I.pin,I.hok,I.len⟩
theorem Inv.unwish(I:Inv (X.wish E) Kg σ H s):Inv X Kg σ H s:=⟨I.ok.unwish,I.os,I.bare,I.base,I.loc,I.cell,I.free,I.freeC,I.pin,I.hok,I.len⟩
theorem SP.unwish{D:Ends}{f:Flow}{s':GP}(h:SP (X.wish E) Kg D f s'):SP X Kg D f s':=by
 cases f with
 |next=>obtain⟨a,H',I,q⟩:=h;exact⟨a,H',I.unwish,q⟩
 |brk=>obtain⟨a,H',I,q⟩:=h;exact⟨a,H',I.unwish,q⟩
 |cont=>obtain⟨a,H',I,q⟩:=h;exact⟨a,H',I.unwish,q⟩
 |ret u=>obtain⟨v,a,H',I,r,q⟩:=h;exact⟨v,a,H',I.unwish,r,q⟩
theorem PE.nox{e:GW}{t:TE}(h:PE X.nox e t):PE X e t:=λKg s σ H Q I a =>
 G6 (h Kg s σ H Q (I.wish _) a) (λ_ _ ⟨v,H',b,r,q⟩=>⟨v,H',b.unwish,r,q⟩) λ_ _ z=>False.elim z
theorem PSs.nox{st:List G5}{t:TS}(h:PSs X.nox st t):PSs X st t:=λKg s σ H D I a =>
 G6 (h Kg s σ H D (I.wish _) a) (λ_ _ q=>q.unwish) λ_ _ z=>False.elim z
variable{e:GW}{te:TE}
section
variable{st:G5}{rest:List G5}{t u:TS}
def Bp:TS:=λD σ H=>D.nx σ H
def CY(t u:TS):TS:=λD σ H=>t { D with nx:=u D } σ H
theorem aC:PSs X [] Bp:=λ_ _ σ H _ I h=>Hg ⟨σ,H,I,h⟩
theorem aj(d:PS X st t)(c:PSs X rest u):PSs X (st :: rest) (CY t u):=by
 intro Kg s σ H D I h;refine Hh (thn (d Kg s σ H { D with nx:=u D } I h) λf b q=>?_);cases f with
 |next =>
  obtain⟨a,H',e,q⟩:=q;exact c Kg b a H' D e q
 |ret v=>exact q
 |brk=>exact q
 |cont=>exact q
theorem ai(a:PS X st t):PSs X [st] t:=by
 intro Kg s σ H D I h;refine Hh (thn (a Kg s σ H D I h) λf b q=>?_);cases f with
 |next=>exact Hg q
 |ret v=>exact q
 |brk=>exact q
 |cont=>exact q
theorem Inv.quiet{Kg:List (GD×Obj)}{σ:St}{H:Hp}{s:GP}(I:Inv X Kg σ H s):interactive X.env=false:=by simp[interactive,I.ok.kind]
def Bq(te:TE):TS:=λD σ H=>te σ H λ_ a=>D.nx σ a
theorem aV(c:PE X e te)(b:Hi e Kc pos.line X.env=pure false:=by rfl):PS X (.Expr e pos) (Bq te):=by
 intro Kg s σ H D I h;exact wpAny_Expr_any (thn (c Kg s σ H _ I h) λv g ⟨x,f,d,i,a⟩=>⟨σ,f,d,a⟩) I.quiet b
def CZ(te:TE):TS:=λD σ H=>te σ H D.rt
theorem aw(c:PE X e te):PS X (.Return (Kb e) pos) (CZ te):=by
 intro Kg s σ H D I h;exact wpAny_Return_some (thn (c Kg s σ H _ I h) λv g ⟨x,f,d,a,b⟩=>⟨x,σ,f,d,a,b⟩)
def C0(c:TT)(t u:TS):TS:=λD σ H=>c σ H λb a=>if b=Kd then t D σ a else u D σ a
theorem aM{c:GW}{a b:List G5}{e:TT}(k:PT X c e)(m:PSs X a t)(l:PSs X b u):PS X (.If c a b pos) (C0 e t u):=by
 intro Kg s σ H D I h;refine wpAny_If (thn (k Kg s σ H _ I h) λd f ⟨j,i,g⟩=>?_);cases d with
 |true=>exact m Kg f σ j D i g
 |false=>exact l Kg f σ j D i g
def zV:TS:=λ_ _ _=>False
theorem bE:PS X st zV:=λ_ _ _ _ _ _ h=>h.elim
end
abbrev TG:=V->St->Hp->(St->Hp->Prop)->Prop
abbrev TGs:=List V->St->Hp->(St->Hp->Prop)->Prop
def PG(X:Cx)(a:GW)(t:TG):Prop :=
 ∀(Kg:List (GD×Obj))(s:GP)(σ:St)(H:Hp)(v:V)(u:Gf)(Q:St->Hp->Prop),Inv X Kg σ H s->RelV v u->t v σ H Q ->
  GU (model X.prog X.w) X.A (assign a X.env u) (λ_ c=>∃b H',Inv X Kg b H' c/\Q b H') X.xe s
def PGs(X:Cx)(ts:List GW)(t:TGs):Prop :=
 ∀(Kg:List (GD×Obj))(s:GP)(σ:St)(H:Hp)(b:List V)(c:List Gf)(Q:St->Hp->Prop),Inv X Kg σ H s->Vals b c->t b σ H Q ->
  GU (model X.prog X.w) X.A (assignInOrder ((Hj ts X.env).map (·.2)) c) (λ_ d=>∃a H',Inv X Kg a H' d/\Q a H') X.xe s
abbrev zW:=V->V->V->Hp->(Hp->Prop)->Prop
def Br(X:Cx)(t:zW):Prop :=
 ∀(Kg:List (GD×Obj))(s:GP)(σ:St)(H:Hp)(o i v:V)(a b u:Gf)(Q:Hp->Prop),Inv X Kg σ H s->RelV o a->RelV i b->RelV v u->t o i v H Q ->
  GU (model X.prog X.w) X.A (setItem a b u) (λ_ c=>∃H',Inv X Kg σ H' c/\Q H') X.xe s
abbrev TIp:=V->V->Hp->VK->Prop
def PIp(X:Cx)(a:Hk)(t:TIp):Prop :=
 ∀(Kg:List (GD×Obj))(s:GP)(σ:St)(H:Hp)(x y:V)(v u:Gf)(Q:VK),Inv X Kg σ H s->RelV x v->RelV y u->t x y H Q ->
  GU (model X.prog X.w) X.A (inplaceOp a v u) (EP X Kg σ Q) X.xe s
def kK(i:Nat):TG:=λv σ H Q=>Q (σ.set i (Kb v)) H
theorem aD{i:Nat}{x:Str}(c:X.N.Nodup)(hi:X.N[i]?=Kb x)(a:Loc X.env.scope x)(b:X.fn x=Kd\/X.env.scope.names.lookup x=Kb .local:=by first|exact .inl U|exact .inr U|assumption):PG X (.Name x pos) (kK i):=by
 intro Kg s σ H v u Q I r h;exact Hl (lJ I c hi a r (λe d=>⟨_,H,d,h⟩) b)
def C3:TGs:=λa σ H Q=>a=[]/\Q σ H
def Bs(t:TG)(u:TGs):TGs:=λb σ H Q=>∃v r,b=v :: r/\t v σ H λa H'=>u r a H' Q
theorem bP:PGs X [] C3:=by
 intro Kg s σ H a b Q I r h;obtain⟨e,h⟩:=h;subst e;cases r;exact assignInOrder_nil ⟨σ,H,I,h⟩
theorem aJ{e:GW}{a:List GW}{t:TG}{u:TGs}(j:PG X e t)(i:PGs X a u)
  (g:(Hj (e :: a) X.env).map (·.2)=assign e X.env :: (Hj a X.env).map (·.2):=by rfl):PGs X (e :: a) (Bs t u):=by
 intro Kg s σ H n p Q I r h;obtain⟨v,o,k,h⟩:=h;subst k;cases r with
 |cons r d =>
  rw[g];refine assignInOrder_cons (thn (j Kg s σ H _ _ _ I r h) λ_ c ⟨b,m,l,f⟩=>?_);exact i Kg c b m _ _ Q l d f
def Bt(K:W.Frag)(n:Nat)(t:TGs):TG:=λv σ H Q=>∃a b,v=.ref a/\SqT K H a b/\b.length=n/\t b σ H Q
theorem eQ{c:List GW}{k:Nat}{t:TGs}{n:Nat}(w:X.calm=Kd)(h:PGs X c t)
  (p:(Hj c X.env).length=n:=by rfl)(f:(Hj c X.env).findIdx? (·.1)=none:=by rfl):PG X (.Tuple c k pos) (Bt X.K n t):=by
 intro Kg s σ H v u Q I r d;obtain⟨a,i,x,m,q,d⟩:=d;subst x;cases r;obtain⟨z,g,l,A⟩:=I.tuple m;refine assign_Tuple_tuple (I.ok.hd w) l (by simp[p,←q,g.length]) f λh' j=>?_
 have y:Inv X Kg σ H { s with heap:=h' }:=I.kept (t':=s.toks) λb o e=>j b o (yv (GG.lt_size e)) e
 exact h Kg _ σ H i _ Q y (by simpa using g) d
def C4(to ti:TE)(t:zW):TG:=λv σ H Q=>to σ H λo c=>ti σ c λi b=>t o i v b λa=>Q σ a
theorem lM{o i:GW}{to ti:TE}{t:zW}(l:PE X o to)(hi:PE X i ti)(k:Br X t)
  (m:∀v,assign (.Subscript o i pos) X.env v=(do
   let a ←holding [v] (eval o X.env)
   let b ←holding [v,a] (eval i X.env)
   He pos
   holding [v,a,b] (setItem a b v)
   release [v,a,b] []):=by intro _;rfl):PG X (.Subscript o i pos) (C4 to ti t):=by
 intro Kg s σ H v u Q I r h;rw[m];refine DN (EX (thn (l Kg s σ H _ I h) λa c ⟨x,A,q,e,j⟩=>?_));refine DN (EX (thn (hi Kg c σ A _ q j) λb s2 ⟨y,z,p,d,g⟩=>?_));refine DN (Hm (DN (EX (thn (k Kg s2 σ z x y v a b u _ p e d r g) λ_ B ⟨w,n,f⟩=>?_))));exact wpAny_release ⟨σ,w,n,f⟩
def vS(te:TE)(g:TG):TS:=λD σ H=>te σ H λx a=>g x σ a D.nx
theorem lN{a e:GW}{te:TE}{g:TG}(k:PE X e te)(j:PG X a g)(i:swapsWithSole [a] e pos.line X.env=pure false:=by rfl)(f:swappedStores [a] e X.env=pure none:=by rfl)
  (l:(Hj [a] X.env).map (·.2)=[assign a X.env]:=by rfl):PS X (.Assign [a] e pos) (vS te g):=by
 intro Kg s σ H D I h;refine wpAny_Assign_stores (thn (k Kg s σ H _ I h) λv b ⟨x,n,m,c,d⟩=>?_) i f;rw[l];exact thn (j Kg b σ n x v _ m c d) λ_ s2 q=>q
theorem aI{i:Nat}{x:Str}{e:GW}{te:TE}{a:Pos}(k:X.N.Nodup)(hi:X.N[i]?=Kb x)(d:Loc X.env.scope x)(j:PE X e te)(f:Hi e (Kb (.Name x a)) pos.line X.env=pure false:=by rfl)(g:X.fn x=Kd\/X.env.scope.names.lookup x=Kb .local:=by first|exact .inl U|exact .inr U|assumption) :
  PS X (.Assign [.Name x a] e pos) (vS te (kK i)):=by
 intro Kg s σ H D I h;refine wpAny_Assign_Name (thn (j Kg s σ H _ I h) λv o ⟨y,n,m,b,c⟩=>?_) f;exact lJ m k hi d b (λs2 l=>⟨_,n,l,c⟩) g
inductive Bu(i:Nat)(te:TE)(ti:TIp)(D:Ends)(σ:St)(H:Hp):Prop
 |mk (x:_)(_:σ[i]?=Kb (Kb x))(_:te σ H λy H1=>ti x y H1 λz H2=>D.nx (σ.set i (Kb z)) H2)
theorem rJ{i:Nat}{x:Str}{e:GW}{te:TE}{g:Hk}{ti:TIp}{f:Pos}(P:X.N.Nodup)(hi:X.N[i]?=Kb x)(j:Loc X.env.scope x)(M:PE X e te)(F:PIp X g ti)(L:X.fn x=Kd\/X.env.scope.names.lookup x=Kb .local:=by first|exact .inl U|exact .inr U|assumption) :
  PS X (.AugAssign (.Name x f) g e pos) (Bu i te ti):=by
 intro Kg s σ H D I h;obtain⟨v,Q,h⟩:=h;obtain⟨m,G,K⟩:=I.loc;have n:Vis X.env.scope x:=by rcases j with k|k;exact .inl k;exact .inr (.inl k)
 obtain⟨u,r,l⟩:=K i x v hi Q n;refine wpAny_AugAssign_Name ?_;have o:GU (model X.prog X.w) X.A (eval e X.env) (λw d=>GU (model X.prog X.w) X.A (inplaceOp g u w) (λr b=>GU (model X.prog X.w) X.A (GV X.env x r) (λ_=>SP X Kg D .next) X.xe b) X.xe d) X.xe s:=by
  refine thn (M Kg s σ H _ I h) λw p ⟨y,W,T,t,C⟩=>?_
  refine thn (F Kg p σ W v y u w _ T r t C) λz s2 ⟨Y,V,S,q,B⟩=>?_
  exact lJ S P hi j q (λZ R=>⟨_,V,R,B⟩) L
 rcases l with⟨a,J⟩|⟨a,c,O,E⟩
 .exact G8 I.ok.kind a G J o
 .rcases a with a|a
  .exact G9 I.ok.kind a O E o
  .rcases j with k|k
   .have:X.env.scope.names.lookup x=Kb .free:=a;rw[k]at this;cases this
   .have:X.env.scope.names.lookup x=Kb .free:=a;rw[k]at this;cases this
def ipI(f:Int->Int->Int):TIp:=λx y H Q=>∃i j,x=.int i/\y=.int j/\Q (.int (f i j)) H
theorem vT:PIp X .Add (ipI λi j=>i+j):=by
 intro Kg s σ H x y v u Q I b a h;obtain⟨i,j,d,c,q⟩:=h;subst d;subst c;obtain⟨t,rfl⟩:=b;obtain⟨e,rfl⟩:=a;exact iadd_int ⟨.int _,H,I.tok _,⟨_,U⟩,q⟩
def zX(c:TT)(tb:TS):TS:=λD σ H=>∃W:Nat->St->Hp->Prop,(∃m,W m σ H)/\∀m σ H,W m σ H ->
 c σ H λb e=>if b=Kd then ∃N:St->Hp->Prop,(∀a H',N a H'->∃d,d<m/\W d a H')/\tb { D with nx:=N,ct:=N,bk:=D.nx } σ e else D.nx σ e
theorem vU{c:GW}{body:List G5}{q:TT}{tb:TS}(r:Hn (model X.prog X.w) X.A X.env X.xe)(G:PT X c q)(J:PSs X body tb):PS X (.While c body [] pos) (zX q tb):=by
 intro Kg s σ H D I h;obtain⟨W,⟨F,B⟩,i⟩:=h;refine wpAny_While (codeAny_whileLoop (λn E=>∃g H',Inv X Kg g H' E/\W n g H') ?_ F ⟨σ,H,I,B⟩);rintro n C ⟨d,y,K,z⟩;refine Ho r (thn (G Kg C d y _ K (i n d y z)) λb s2 ⟨x,u,k⟩=>?_);cases b with
 |true =>
  obtain⟨N,t,k⟩:=k;rw[Kj U];refine Ho r (thn (J Kg s2 d x _ u k) λf L j=>?_);cases f with
  |next =>
   obtain⟨a,e,p,l⟩:=j;obtain⟨m,o,w3⟩:=t a e l;exact⟨m,o,a,e,p,w3⟩
  |cont =>
   obtain⟨a,e,p,l⟩:=j;obtain⟨m,o,w3⟩:=t a e l;exact⟨m,o,a,e,p,w3⟩
  |brk=>exact j
  |ret v=>exact j
 |false =>
  rw[Ki Bool.false_ne_true];exact Hg ⟨d,x,u,k⟩
structure It where
 go:Nat->Hp->Prop
 yld:Nat->Hp->V->Hp->Prop
 stop:Nat->Hp->Prop
def i7(X:Cx)(Kg:List (GD×Obj))(H:Hp)(b:GD):Prop :=
 H b=Kc/\b≠X.env.locals/\b ∉ X.fs/\(b∈X.ex\/X.s₀.heap.objs.size<=b)/\(∀x c,X.env.cells.lookup x=Kb c->c≠b)/\∀p∈X.pn++Kg,p.1≠b
theorem Inv.fpOk{X:Cx}{Kg:List (GD×Obj)}{σ:St}{H H':Hp}{s:GP}{b:GD}(I:Inv X Kg σ H s)(a:s.heap.objs.size<=b)(f:H' b=Kc):i7 X Kg H' b:=by
 refine⟨f,zb (yU I.lt a),I.nofs a,.inr (yW I.sz a),λx c e z=>?_,λp d z=>?_⟩
 .obtain⟨v,q⟩:=I.cell x c e;exact Kk (yU q.lt (by rw[z];exact a)) (ze _)
 .exact Kk (yU (GG.lt_size (I.pin p d).1) (by rw[z];exact a)) (ze _)
structure Turn(P:GC)(w:Gn)(K:W.Frag)(tg:GW)(J:It)(fp:List GD)(it:GD)(tn:Nat->GG->Prop):Prop where
 mem:it∈fp
 obj:∀i h,tn i h->∀b∈fp,∃o,h.get? b=Kb o/\∀v,o.data≠.cell v
 keep:∀i h h',tn i h->(∀b∈fp,∀o,h.get? b=Kb o->h'.get? b=Kb o)->tn i h'
 item:∀(X:Cx),X.prog=P->X.w=w->X.K=K->X.calm=Kd->∀(i:Nat)(Kg:List (GD×Obj))(s:GP)(σ:St)(H:Hp)(E:Gf->GP->Prop),Inv X Kg σ H s->(∀b∈fp,i7 X Kg H b)->tn i s.heap->J.go i H ->
  GU (model P w) X.A (Hq (.ref it)) (λr s1=>∃u,r=Kb u /\
   GU (model P w) X.A (Hr tg (.ref it) u) (λ_ s2=>∃x H',Inv X Kg σ H' s2/\RelV x u/\J.yld i H x H'/\tn (i+1) s2.heap/\∀b∈fp,H' b=Kc) E s1) E s
 done:∀(X:Cx),X.prog=P->X.w=w->X.K=K->X.calm=Kd->∀(i:Nat)(Kg:List (GD×Obj))(s:GP)(σ:St)(H:Hp)(E:Gf->GP->Prop),Inv X Kg σ H s->(∀b∈fp,i7 X Kg H b)->tn i s.heap->J.stop i H ->
  GU (model P w) X.A (Hq (.ref it)) (λr s1=>r=Kc/\Inv X Kg σ H s1) E s
 self:∀(A:GO)(i:Nat)(s:GP)(Q:Gf->GP->Prop)(E:Gf->GP->Prop),tn i s.heap->Q (.ref it) s->GU (model P w) A (Hs (.ref it)) Q E s
abbrev TI:=St->Hp->(It->Hp->Prop)->Prop
def PIE(X:Cx)(Kg:List (GD×Obj))(σ:St)(e:GW)(R:It->Hp->Prop)(a:Gf)(s2:GP):Prop :=
 ∃(it:GD)(d:List GD)(c:Nat->GG->Prop)(J:It)(H':Hp),a=.ref it/\Inv X Kg σ H' s2/\Turn X.prog X.w X.K e J d it c/\c 0 s2.heap/\(∀b∈d,i7 X Kg H' b)/\R J H'
def PI(X:Cx)(c a:GW)(b:TI):Prop :=
 ∀(Kg:List (GD×Obj))(s:GP)(σ:St)(H:Hp)(R:It->Hp->Prop),Inv X Kg σ H s->b σ H R ->
  GU (model X.prog X.w) X.A (eval a X.env) (λv d=>GU (model X.prog X.w) X.A (Hs v) (PIE X Kg σ c R) X.xe d) X.xe s
theorem qi{M:GS}{A:GO}{E:Gf->GP->Prop}{s:GP}{b:GW}{it:GD}{u:Gf}{o:Obj}{n:String}{vs:Array Gf}{Q:Unit->GP->Prop}(c:s.heap.get? it=Kb o)(f:o.cls=.type n)(e:o.data=.fields vs)
  (d:["enumerate","zip","dict_itemiterator","dict_reverseitemiterator","odict_iterator","itertools.zip_longest","itertools.pairwise"].contains n=Ke) (a:Q () s):GU M A (Hr b (.ref it) u) Q E s:=by
 unfold Hr
 cases b <;> first
  |exact D0 a
  |(cases u <;> first
    |exact D0 a
    |(refine DN (wpAny_load c ?_);rw[f,e];show GU M A (if (["enumerate","zip","dict_itemiterator","dict_reverseitemiterator","odict_iterator","itertools.zip_longest","itertools.pairwise"].contains n && vs[0]? == Kb (Ht _))=Kd then _ else _) Q E s;rw[Ki (by intro h;rw[d,Bool.false_and]at h;cases h)];exact D0 a))
def Itl(K:W.Frag)(a:GD):It :=
 ⟨λi H=>∃b x,SqL K H a b/\b[i]?=Kb x,λi H x H'=>H'=H/\∀b,SqL K H a b->b[i]?=Kb x,λi H=>∃b,SqL K H a b/\b.length<=i⟩
def Itt(K:W.Frag)(a:GD):It :=
 ⟨λi H=>∃b x,SqT K H a b/\b[i]?=Kb x,λi H x H'=>H'=H/\∀b,SqT K H a b->b[i]?=Kb x,λi H=>∃b,SqT K H a b/\b.length<=i⟩
def Itr(lo:Int)(n:Nat):It:=⟨λi _=>i<n,λi H x H'=>H'=H/\x=.int (lo+i),λi _=>n<=i⟩
theorem uG{P:GC}{w:Gn}{K:W.Frag}{N:GW}(a it:GD):Turn P w K N (Itl K a) [it] it (λi h=>h.IsListIter it a i) where
 mem:=by simp
 obj:=λi h f b g=>by
  have e:b=it:=by simpa using g
  subst e;obtain⟨o,e,c,d⟩:=f;exact⟨o,e,λv z=>by rw[d]at z;cases z⟩
 keep:=λi h h' f k=>f.at λo e=>k it (by simp) o e
 item:=by
  intro X y r A L i Kg s σ H E I m f t;subst y r A;obtain⟨M,x,l,q⟩:=t;obtain⟨J,n,p,R⟩:=I.list l;obtain⟨u,T,Q⟩:=n.get q;obtain⟨G,F,V,D,C,B⟩:=m it (by simp);refine wpAny_pyNext_list_item f p.isList (x:=u) (by simpa using T) λh' j O=>?_
  have Z:Inv X Kg σ H { s with heap:=h' }:=I.turned (t':=s.toks) (λb o g e=>(O.2 b g).trans e) G F D C B;obtain⟨o,e,c,d⟩:=id j;exact⟨u,U,qi (s:={ s with heap:=h' }) e c d (by decide) ⟨x,H,Z,Q,⟨U,λys S=>by rw[I.list_inj S l];exact q⟩,j,λb g=>(m b g).1⟩⟩
 done:=by
  intro X y r A L i Kg s σ H E I m f t;subst y r A;obtain⟨M,l,q⟩:=t;obtain⟨J,n,p,R⟩:=I.list l;obtain⟨G,F,V,D,C,B⟩:=m it (by simp);have hl:=n.length;exact wpAny_pyNext_list_end (I.ok.hd L) f p.isList (by simp;lia) λh' Y=>⟨U,I.turned (t':=s.toks) (λb o g e=>Y b o g e) G F D C B⟩
 self:=λ_ _ _ _ _ f h=>wpAny_pyIter_listiter f h
theorem rK{P:GC}{w:Gn}{K:W.Frag}{N:GW}(a it:GD):Turn P w K N (Itt K a) [it] it (λi h=>h.IsTupleIter it a i) where
 mem:=by simp
 obj:=λi h f b g=>by
  have e:b=it:=by simpa using g
  subst e;obtain⟨o,e,c,d⟩:=f;exact⟨o,e,λv z=>by rw[d]at z;cases z⟩
 keep:=λi h h' f k=>f.at λo e=>k it (by simp) o e
 item:=by
  intro X A t B L i Kg s σ H E I n f y;subst A t B;obtain⟨M,x,m,r⟩:=y;obtain⟨j,q,p,R⟩:=I.tuple m;obtain⟨u,T,Q⟩:=q.get r;obtain⟨J,G,V,F,D,C⟩:=n it (by simp);refine wpAny_pyNext_tuple_item f (show s.heap.IsTuple a j.toArray from p) (x:=u) (by simpa using T) λh' l O=>?_
  have Z:Inv X Kg σ H { s with heap:=h' }:=I.turned (t':=s.toks) (λb o g e=>(O.2 b g).trans e) J G F D C;obtain⟨o,e,c,d⟩:=id l;exact⟨u,U,qi (s:={ s with heap:=h' }) e c d (by decide) ⟨x,H,Z,Q,⟨U,λys S=>by rw[I.tuple_inj S m];exact r⟩,l,λb g=>(n b g).1⟩⟩
 done:=by
  intro X A t B L i Kg s σ H E I n f y;subst A t B;obtain⟨M,m,r⟩:=y;obtain⟨j,q,p,R⟩:=I.tuple m;obtain⟨J,G,V,F,D,C⟩:=n it (by simp);have hl:=q.length;exact wpAny_pyNext_tuple_end (I.ok.hd L) f (show s.heap.IsTuple a j.toArray from p) (by simp;lia) λh' Y=>⟨U,I.turned (t':=s.toks) (λb o g e=>Y b o g e) J G F D C⟩
 self:=λ_ _ _ _ _ f h=>wpAny_pyIter_tupleiter f h
theorem rL{P:GC}{w:Gn}{K:W.Frag}{C:GW}(it:GD)(lo:Int)(n:Nat):Turn P w K C (Itr lo n) [it] it (λi h=>IsRangeIter h it (lo+(i:Nat)*1) ((n:Int)-(i:Nat)) 1) where
 mem:=by simp
 obj:=λi h a b c=>by
  have e:b=it:=by simpa using c
  subst e;exact⟨_,a,λv z=>by
   have B:Data.fields _=Data.cell v:=z;cases B⟩
 keep:=λi h h' a k=>k it (by simp) _ a
 item:=by
  intro X m g p l i Kg s σ H E I f a j;subst m g p;obtain⟨y,x,G,u,r,q⟩:=f it (by simp);have W:=Hu.range (prog:=X.prog) (w:=X.w) (I.ok.hd l) it lo 1 n;refine W.item i s _ _ j a λv h' A F d D=>?_
  obtain⟨t,rfl⟩:=F;have L:Inv X Kg σ H { s with heap:=h',toks:=A }:=I.turned (λb o c e=>D b o (by simpa using c) e) y x u r q;refine⟨_,U,qi (s:={ s with heap:=h',toks:=A }) (n := "range_iterator") d U U (by decide) ⟨.int (lo+i),H,L,⟨t,?_⟩,⟨U,U⟩,d,λb c=>(f b c).1⟩⟩;rw[Int.mul_one]
 done:=by
  intro X m g p l i Kg s σ H E I f a j;subst m g p;obtain⟨y,x,G,u,r,q⟩:=f it (by simp);exact wpAny_pyNext_range_end (I.ok.hd l) a (by have:n<=i:=j;lia) λh' J=>⟨U,I.turned (t':=s.toks) (λb o c e=>J b o c e) y x u r q⟩
 self:=λ_ _ _ _ _ a h=>wpAny_pyIter_rangeiter a h
section
variable{tg:GW}
inductive vV(K:W.Frag)(R:It->Hp->Prop)(x:V)(H1:Hp):Prop
 |mk (a:_)(_:x=.ref a)(_:(∃xs,SqL K H1 a xs))(_:R (Itl K a) H1)
def Bv(K:W.Frag)(a:TE):TI:=λσ H R=>a σ H λx b=>vV K R x b
inductive zk(K:W.Frag)(R:It->Hp->Prop)(x:V)(H1:Hp):Prop
 |mk (a:_)(_:x=.ref a)(_:(∃xs,SqT K H1 a xs))(_:R (Itt K a) H1)
def C5(K:W.Frag)(a:TE):TI:=λσ H R=>a σ H λx b=>zk K R x b
theorem aW{l:GW}{f:TE}(k:PE X l f):PI X tg l (Bv X.K f):=by
 intro Kg s σ H R I h;refine thn (k Kg s σ H _ I h) λv c ⟨x,n,d,g,i⟩=>?_
 obtain⟨a,e,⟨t,j⟩,q⟩:=i;subst e;cases g;obtain⟨r,u,p,w⟩:=d.list j;refine Hv p.isList ?_;refine⟨c.heap.objs.size,[c.heap.objs.size],_,_,n,U,d.kept (t':=c.toks) λb o e=>GG.get?_push_of_some _ e,uG a _,⟨_,GG.get?_push_size _ U,U,U⟩,λb m=>?_,q⟩;have e:b=c.heap.objs.size:=by simpa using m
 subst e;exact d.fpOk (yr _) (d.hok.fresh (yr _))
theorem vW{l:GW}{g:TE}(m:PE X l g):PI X tg l (C5 X.K g):=by
 intro Kg s σ H R I h;refine thn (m Kg s σ H _ I h) λv c ⟨x,r,d,i,j⟩=>?_
 obtain⟨a,e,⟨t,k⟩,q⟩:=j;subst e;cases i;obtain⟨f,u,p,w⟩:=d.tuple k;refine wpAny_pyIter_tuple (show c.heap.IsTuple a f.toArray from p) ?_;refine⟨c.heap.objs.size,[c.heap.objs.size],_,_,r,U,d.kept (t':=c.toks) λb o e=>GG.get?_push_of_some _ e,rK a _,⟨_,GG.get?_push_size _ U,U,U⟩,λb n=>?_,q⟩;have e:b=c.heap.objs.size:=by simpa using n
 subst e;exact d.fpOk (yr _) (d.hok.fresh (yr _))
theorem qk{Kg:List (GD×Obj)}{σ:St}{H:Hp}{s:GP}{R:It->Hp->Prop}{E:Gf->GP->Prop}{lo hi:Int}{t u v:Tok}{a:Nat}(I:Inv X Kg σ H s)(i : -(2^62)<=lo)(h:lo<2^62)(g : -(2^62)<=hi)(f:hi<2^62)
  (q:R (Itr lo (hi-lo).toNat) H):GU (model X.prog X.w) X.A (Hs (.ref s.heap.objs.size)) (PIE X Kg σ tg R) E { s with heap:=s.heap.push { cls:=.type "range",data:=.fields #[.int lo t,.int hi u,.int 1 v] },toks:=a }:=by
 refine wpAny_pyIter_range (IsRange.new ..) (small_one i h g f) ?_;have c:Inv X Kg σ H { s with heap:=s.heap.push { cls:=.type "range",data:=.fields #[.int lo t,.int hi u,.int 1 v] },toks:=a }:=I.kept λb o e=>GG.get?_push_of_some _ e
 refine⟨(s.heap.push { cls:=.type "range",data:=.fields #[.int lo t,.int hi u,.int 1 v] }).objs.size,[(s.heap.push { cls:=.type "range",data:=.fields #[.int lo t,.int hi u,.int 1 v] }).objs.size],_,_,H,U,
  c.kept (t':=a) λb o e=>GG.get?_push_of_some _ e,rL _ lo (hi-lo).toNat,?_,λb d=>?_,q⟩
 .have k:lo+((0:Nat):Int)*1=lo:=by simp
  have j:(((hi-lo).toNat:Nat):Int)-((0:Nat):Int)=Hw.Range.rangeSize lo hi 1:=by rw[rangeSize_one];split <;> lia
  show IsRangeIter _ _ (lo+((0:Nat):Int)*1) ((((hi-lo).toNat:Nat):Int)-((0:Nat):Int)) 1;rw[k,j];exact GG.get?_push_size _ U
 .have e:b=(s.heap.push { cls:=.type "range",data:=.fields #[.int lo t,.int hi u,.int 1 v] }).objs.size:=by simpa using d
  subst e;exact c.fpOk (yr _) (c.hok.fresh (yr _))
inductive vX  (R:It->Hp->Prop)(vs:List V)(H1:Hp):Prop
 |mk (j:Int)(_:vs=[.int j])(_ : -(2^62)<=j)(_:j<2^62)(_:R (Itr 0 j.toNat) H1):vX R vs H1
def Bw(ta:TA):TI:=λσ H R=>ta σ H λa b=>vX R a b
inductive vY  (R:It->Hp->Prop)(vs:List V)(H1:Hp):Prop
 |mk (i j:Int)(_:vs=[.int i,.int j])(_:(-(2^62)<=i/\i<2^62/\-(2^62)<=j/\j<2^62))(_:R (Itr i (j-i).toNat) H1):vY R vs H1
def Bx(ta:TA):TI:=λσ H R=>ta σ H λa b=>vY R a b
theorem aX{a:GW}{ta:TA}{p pos:Pos}(i:Gl X "range") (hm:X.mg "range" = Kc) (k:PA X [a] ta)(g:GZ [a] X.env=[(Ke,eval a X.env)]:=by rfl):PI X tg (.Call (.Name "range" p) [a] [] pos) (Bw ta):=by
 intro Kg s σ H R I h;refine Call_ (eP I i hm boot_range (PyProof.Rows.callWith_type1 (thn (k pos Kg s σ H _ I h) λn o ⟨m,u,l,d,b⟩=>?_) g U));obtain⟨j,e,b,f,q⟩:=b;subst e;cases d with
 |cons r c =>
  cases c;obtain⟨t,rfl⟩:=r;exact call_range_1 (qk l (by lia) (by lia) b f (by simpa using q))
theorem uH{a b:GW}{ta:TA}{p pos:Pos}(u:Gl X "range") (hm:X.mg "range" = Kc) (v:PA X [a,b] ta)(o:GZ [a,b] X.env=[(Ke,eval a X.env),(Ke,eval b X.env)]:=by rfl)(c:GZ [b] X.env=[(Ke,eval b X.env)]:=by rfl) :
  PI X tg (.Call (.Name "range" p) [a,b] [] pos) (Bx ta):=by
 intro Kg s σ H R I h;refine Call_ (eP I u hm boot_range (PyProof.Rows.callWith_type1 (thn (v pos Kg s σ H _ I h) λy A ⟨x,B,w,g,f⟩=>?_) (by rw[o,c]) (by rw[c];rfl)));obtain⟨i,j,e,⟨f,n,m,l⟩,q⟩:=f;subst e;cases g with
 |cons r d =>
  cases d with
  |cons k d =>
   cases d;obtain⟨t,rfl⟩:=r;obtain⟨z,rfl⟩:=k;exact call_range_2 (qk w f n m l q)
def C6(d:TI)(g:TG)(tb:TS):TS:=λD σ H=>d σ H λJ f=>∃W:Nat->Nat->St->Hp->Prop,(∃m,W 0 m σ f)/\∀i m σ H,W i m σ H ->
 (J.stop i H/\D.nx σ H)\/(J.go i H/\∃N:St->Hp->Prop,(∀a H',N a H'->∃c,c<m/\W (i+1) c a H')/\∀x H',J.yld i H x H'->g x σ H' λb e=>tb { D with nx:=N,ct:=N,bk:=D.nx } b e)
def ja(a:List GD)(h:GG):List (GD×Obj):=a.filterMap λb=>(h.get? b).map λo=>(b,o)
theorem cC{a:List GD}{h:GG}{b:GD}{o:Obj}(c:b∈a)(e:h.get? b=Kb o):(b,o)∈ja a h:=List.mem_filterMap.mpr ⟨b,c,by rw[e];rfl⟩
theorem uI{a:List GD}{h:GG}{p:GD×Obj}(c:p∈ja a h):p.1∈a/\h.get? p.1=Kb p.2:=by
 obtain⟨b,d,e⟩:=List.mem_filterMap.mp c;cases q:h.get? b with
 |none=>rw[q]at e;cases e
 |some o =>
  rw[q]at e;have f:(b,o)=p:=Option.some.inj e;subst f;exact⟨d,q⟩
theorem Inv.pinned{Kg:List (GD×Obj)}{σ:St}{H:Hp}{s:GP}{a:List GD}(I:Inv X Kg σ H s)(i:∀b∈a,i7 X Kg H b)(h:∀b∈a,∃o,s.heap.get? b=Kb o/\∀v,o.data≠.cell v):Inv X (Kg++ja a s.heap) σ H s :=
 I.pins_of λp g=>(gg.mp g).elim (λz=>I.pin p (jr _ z)) λz=>by
  obtain⟨c,e⟩:=uI z;obtain⟨l,k,j,_⟩:=i p.1 c;obtain⟨o,f,d⟩:=h p.1 c;rw[e]at f;cases f;exact⟨e,l,k,j,d⟩
theorem Inv.unpinned{Kg pl:List (GD×Obj)}{σ:St}{H:Hp}{s:GP}(I:Inv X (Kg++pl) σ H s):Inv X Kg σ H s:=I.pins_of λp a=>I.pin p (jr _ (kC _ a))
theorem bg{q:GW}{body:List G5}{Y:TI}{g:TG}{tb:TS}{pos:Pos}(B:Hn (model X.prog X.w) X.A X.env X.xe)(hc:X.calm=Kd)(hi:PI X tg q Y)(hg:PG X tg g)(c:PSs X body tb)
  (hs:∀x,Hy q X.env x=pure x:=by intro _;rfl):PS X (.For tg q body [] pos) (C6 Y g tb):=by
 intro Kg s σ H D I h;refine wpAny_For (thn (hi Kg s σ H _ I h) λv s1 h1=>thn h1 λa0 s2 h2=>?_) hs;obtain⟨it,C,Z,J,H2,e,I2,T,R,f2,W,⟨m0,w0⟩,G⟩:=h2;subst e;have M:∀{H':Hp},(∀b∈C,H' b=Kc)->∀b∈C,i7 X Kg H' b:=λhn b c=>⟨hn b c,(f2 b c).2⟩
 refine codeAny_forLoop_any (λn s'=>∃i p H',Inv X Kg p H' s'/\Z i s'.heap/\(∀b∈C,H' b=Kc)/\W i n p H') ?_ m0 ⟨0,σ,H2,I2,R,λb c=>(f2 b c).1,w0⟩;rintro n s3 ⟨i,l,L,I3,E,F,w3⟩;rcases G i n l L w3 with⟨K,qn⟩|⟨go,N,hN,step⟩
 .refine Ho B (thn (T.done X U U U hc i Kg s3 l L X.xe I3 (M F) E K) λr s4 ⟨P,I4⟩=>?_);subst P;exact Hg ⟨l,L,I4,qn⟩
 .refine Ho B (thn (T.item X U U U hc i Kg s3 l L X.xe I3 (M F) E go) λr s4 ⟨u,P,h4⟩=>?_);subst P;refine Ho B (thn h4 λ_ s5 ⟨x,H5,I5,r5,y5,y,S⟩=>?_);have V:=I5.pinned (M S) (T.obj _ _ y);refine Ho B (thn (hg _ s5 l H5 x u _ V r5 (step x H5 y5)) λ_ s6 ⟨Q,H6,I6,q6⟩=>?_);refine Ho B (thn (c _ s6 Q H6 _ I6 q6) λf O t=>?_);have again:∀{a:St}{k:Hp},Inv X (Kg++ja C s5.heap) a k O->N a k->∃m,m<n/\∃i p H',Inv X Kg p H' O/\Z i O.heap/\(∀b∈C,H' b=Kc)/\W i m p H':=λ{a k} j z=>by
   obtain⟨m',hm,w7⟩:=hN a k z;refine⟨m',hm,i+1,a,k,j.unpinned,T.keep _ _ _ y λb c o e=>(j.pin (b,o) (jr _ (jr _ (cC c e)))).1,λb c=>?_,w7⟩;obtain⟨o,e,d⟩:=T.obj _ _ y b c;exact(j.pin (b,o) (jr _ (jr _ (cC c e)))).2.1
  cases f with
  |next=>obtain⟨a,k,j,z⟩:=t;exact again j z
  |cont=>obtain⟨a,k,j,z⟩:=t;exact again j z
  |brk=>obtain⟨a,k,j,t⟩:=t;exact⟨a,k,j.unpinned,t⟩
  |ret v=>obtain⟨x7,a,k,j,r7,t⟩:=t;exact⟨x7,a,k,j.unpinned,r7,t⟩
end
theorem bJ{K:W.Frag}{a:GD}{xs:List V}{g:TG}{tb:TS}{D:Ends}{σ:St}{H:Hp}(b:Nat->St->Hp->Prop)(r:b 0 σ H)(n:∀i σ H,i<=xs.length->b i σ H->SqL K H a xs)
  (l:∀i x σ H,xs[i]?=Kb x->b i σ H->g x σ H λc h=>tb { D with nx:=b (i+1),ct:=b (i+1),bk:=D.nx } c h)(o:∀σ H,b xs.length σ H->D.nx σ H) :
  ∃W:Nat->Nat->St->Hp->Prop,(∃m,W 0 m σ H)/\∀i m σ H,W i m σ H ->
   ((Itl K a).stop i H/\D.nx σ H)\/((Itl K a).go i H/\∃N:St->Hp->Prop,(∀d H',N d H'->∃j,j<m/\W (i+1) j d H')/\∀x H',(Itl K a).yld i H x H'->g x σ H' λc h=>tb { D with nx:=N,ct:=N,bk:=D.nx } c h):=by
 refine⟨λi m σ H=>m=xs.length-i/\i<=xs.length/\b i σ H,⟨xs.length,by simp,yY _,r⟩,?_⟩;rintro i m σ H ⟨rfl,hi,p⟩;have q:=n i σ H hi p;by_cases f:i<xs.length
 .refine .inr ⟨⟨xs,xs[i],q,by simp[f]⟩,b (i+1),λd H' k=>⟨xs.length-(i+1),by lia,U,f,k⟩,λx H' y=>?_⟩;obtain⟨e,y⟩:=y;subst e;exact l i x σ _ (y xs q) p
 .have e:i=xs.length:=by lia
  subst e;exact .inl ⟨⟨xs,q,yr _⟩,o σ H p⟩
theorem yf{K:W.Frag}{a:GD}{xs:List V}{g:TG}{tb:TS}{D:Ends}{σ:St}{H:Hp}(b:Nat->St->Hp->Prop)(r:b 0 σ H)(n:∀i σ H,i<=xs.length->b i σ H->SqT K H a xs)
  (l:∀i x σ H,xs[i]?=Kb x->b i σ H->g x σ H λc h=>tb { D with nx:=b (i+1),ct:=b (i+1),bk:=D.nx } c h)(o:∀σ H,b xs.length σ H->D.nx σ H) :
  ∃W:Nat->Nat->St->Hp->Prop,(∃m,W 0 m σ H)/\∀i m σ H,W i m σ H ->
   ((Itt K a).stop i H/\D.nx σ H)\/((Itt K a).go i H/\∃N:St->Hp->Prop,(∀d H',N d H'->∃j,j<m/\W (i+1) j d H')/\∀x H',(Itt K a).yld i H x H'->g x σ H' λc h=>tb { D with nx:=N,ct:=N,bk:=D.nx } c h):=by
 refine⟨λi m σ H=>m=xs.length-i/\i<=xs.length/\b i σ H,⟨xs.length,by simp,yY _,r⟩,?_⟩;rintro i m σ H ⟨rfl,hi,p⟩;have q:=n i σ H hi p;by_cases f:i<xs.length
 .refine .inr ⟨⟨xs,xs[i],q,by simp[f]⟩,b (i+1),λd H' k=>⟨xs.length-(i+1),by lia,U,f,k⟩,λx H' y=>?_⟩;obtain⟨e,y⟩:=y;subst e;exact l i x σ _ (y xs q) p
 .have e:i=xs.length:=by lia
  subst e;exact .inl ⟨⟨xs,q,yr _⟩,o σ H p⟩
theorem cc{lo:Int}{n:Nat}{g:TG}{tb:TS}{D:Ends}{σ:St}{H:Hp}(a:Nat->St->Hp->Prop)(o:a 0 σ H)
  (k:∀i σ H,i<n->a i σ H->g (.int (lo+i)) σ H λb f=>tb { D with nx:=a (i+1),ct:=a (i+1),bk:=D.nx } b f)(l:∀σ H,a n σ H->D.nx σ H) :
  ∃W:Nat->Nat->St->Hp->Prop,(∃m,W 0 m σ H)/\∀i m σ H,W i m σ H ->
   ((Itr lo n).stop i H/\D.nx σ H)\/((Itr lo n).go i H/\∃N:St->Hp->Prop,(∀c H',N c H'->∃h,h<m/\W (i+1) h c H')/\∀x H',(Itr lo n).yld i H x H'->g x σ H' λb f=>tb { D with nx:=N,ct:=N,bk:=D.nx } b f):=by
 refine⟨λi m σ H=>m=n-i/\i<=n/\a i σ H,⟨n,by simp,yY _,o⟩,?_⟩;rintro i m σ H ⟨rfl,hi,p⟩;by_cases d:i<n
 .refine .inr ⟨d,a (i+1),λc H' j=>⟨n-(i+1),by lia,U,d,j⟩,λx H' y=>?_⟩;obtain⟨e,y⟩:=y;subst e y;exact k i σ _ d p
 .have e:i=n:=by lia
  subst e;exact .inl ⟨yr _,l σ H p⟩
abbrev R2:=V->V->Hp->VK->Prop
def OpR(X:Cx)(f:Gf->Gf->Sem Gf)(r:R2):Prop :=
 ∀(Kg:List (GD×Obj))(s:GP)(σ:St)(H:Hp)(x y:V)(v u:Gf)(Q:VK),Inv X Kg σ H s->RelV x v->RelV y u->r x y H Q ->
  GU (model X.prog X.w) X.A (f v u) (EP X Kg σ Q) X.xe s
def UnR(X:Cx)(f:Gf->Sem Gf)(r:V->Hp->VK->Prop):Prop :=
 ∀(Kg:List (GD×Obj))(s:GP)(σ:St)(H:Hp)(x:V)(v:Gf)(Q:VK),Inv X Kg σ H s->RelV x v->r x H Q ->
  GU (model X.prog X.w) X.A (f v) (EP X Kg σ Q) X.xe s
def dn(X:Cx)(f:Gf)(r:List V->Hp->VK->Prop):Prop :=
 ∀(Kg:List (GD×Obj))(s:GP)(σ:St)(H:Hp)(a:List V)(b:List Gf)(Q:VK),Inv X Kg σ H s->Vals a b->r a H Q ->
  GU (model X.prog X.w) X.A (call f b) (EP X Kg σ Q) X.xe s
def C7(X:Cx)(r:V->Hp->(Bool->Hp->Prop)->Prop):Prop :=
 ∀(Kg:List (GD×Obj))(s:GP)(σ:St)(H:Hp)(x:V)(v:Gf)(Q:Bool->Hp->Prop),Inv X Kg σ H s->RelV x v->r x H Q ->
  GU (model X.prog X.w) X.A (truthy v) (TP X Kg σ Q) X.xe s
def tOp(r:R2)(ta tb:TE):TE:=λσ H Q=>ta σ H λx b=>tb σ b λy a=>r x y a Q
def tUn(r:V->Hp->VK->Prop)(ta:TE):TE:=λσ H Q=>ta σ H λx a=>r x a Q
inductive rI(C:Int->Int->Prop)(g:Int->Int->V)(x:V)(y:V)(H:Hp)(Q:VK):Prop
 |mk (i j:_)(_:x=.int i)(_:y=.int j)(_:C i j)(_:Q (g i j) H)
inductive rI0(g:Int->Int->V)(x:V)(y:V)(H:Hp)(Q:VK):Prop
 |mk (i j:_)(_:x=.int i)(_:y=.int j)(_:Q (g i j) H)
inductive rU(g:Int->V)(x:V)(H:Hp)(Q:VK):Prop
 |mk (i:_)(_:x=.int i)(_:Q (g i) H)
section
variable{a b c:GW}{tc:TE}
theorem zZ(o:PE X a ta)(n:PE X b tb){Kg:List (GD×Obj)}{s:GP}{σ:St}{H:Hp}{R:V->V->Hp->Prop}(I:Inv X Kg σ H s)
  (h:ta σ H λx g=>tb σ g λy c=>R x y c){Q:Gf->GP->Prop}{f:Gf->Gf->Sem Gf}
  (hf:∀v u s2 x y c,Inv X Kg σ c s2->RelV x v->RelV y u->R x y c->GU (model X.prog X.w) X.A (f v u) Q X.xe s2) :
  GU (model X.prog X.w) X.A (eval a X.env) (λv e=>GU (model X.prog X.w) X.A (eval b X.env) (λu d=>GU (model X.prog X.w) X.A (f v u) Q X.xe d) X.xe e) X.xe s:=by
 refine thn (o Kg s σ H _ I h) λv i ⟨x,g,q,k,m⟩=>?_
 refine thn (n Kg i σ g _ q m) λu s2 ⟨y,c,p,j,l⟩=>?_
 exact hf v u s2 x y c p k j l
theorem au{c:Hk}{r:R2}(f:OpR X (Hz c) r)(i:PE X a ta)(g:PE X b tb):PE X (.BinOp a c b pos) (tOp r ta tb):=by
 intro Kg s σ H Q I h;exact wpAny_BinOp (zZ i g I h λv u s2 x y k j e d q=>f Kg s2 σ k x y v u Q j e d q)
theorem kL{b:UnaryOp}{r:V->Hp->VK->Prop}(f:UnR X (unaryOp b) r)(g:PE X a ta):PE X (.UnaryOp b a pos) (tUn r ta):=by
 intro Kg s σ H Q I h;exact UnaryOp_ (thn (g Kg s σ H _ I h) λv c ⟨x,j,i,d,e⟩=>f Kg c σ j x v Q i d e)
theorem opI{f:Gf->Gf->Sem Gf}{C:Int->Int->Prop}{g:Int->Int->Int}
  (rule:∀(i j:Int)(t u:Tok)(s:GP)(Q:Gf->GP->Prop)(E:Gf->GP->Prop),C i j->Q (.int (g i j) s.toks) { s with toks:=s.toks+1 }->GU (model X.prog X.w) X.A (f (.int i t) (.int j u)) Q E s) :
  OpR X f (rI C λi j=>.int (g i j)):=by
 intro Kg s σ H x y v u Q I c b h;obtain⟨i,j,rfl,rfl,d,q⟩:=h;obtain⟨t,rfl⟩:=c;obtain⟨a,rfl⟩:=b;exact rule i j t a s _ _ d ⟨.int (g i j),H,I.tok _,⟨_,U⟩,q⟩
theorem yg{f:Gf->Gf->Sem Gf}{g:Int->Int->Int}
  (rule:∀(i j:Int)(t u:Tok)(s:GP)(Q:Gf->GP->Prop)(E:Gf->GP->Prop),Q (.int (g i j) s.toks) { s with toks:=s.toks+1 }->GU (model X.prog X.w) X.A (f (.int i t) (.int j u)) Q E s) :
  OpR X f (rI0 λi j=>.int (g i j)):=by
 intro Kg s σ H x y v u Q I c b h;obtain⟨i,j,rfl,rfl,q⟩:=h;obtain⟨t,rfl⟩:=c;obtain⟨a,rfl⟩:=b;exact rule i j t a s _ _ ⟨.int (g i j),H,I.tok _,⟨_,U⟩,q⟩
theorem Aa{f:Gf->Gf->Sem Gf}{g:Int->Int->Bool}
  (rule:∀(i j:Int)(t u:Tok)(s:GP)(Q:Gf->GP->Prop)(E:Gf->GP->Prop),Q (.bool (g i j)) s->GU (model X.prog X.w) X.A (f (.int i t) (.int j u)) Q E s) :
  OpR X f (rI0 λi j=>.bl (g i j)):=by
 intro Kg s σ H x y v u Q I c b h;obtain⟨i,j,rfl,rfl,q⟩:=h;obtain⟨t,rfl⟩:=c;obtain⟨a,rfl⟩:=b;exact rule i j t a s _ _ ⟨.bl (g i j),H,I,U,q⟩
def C8(i j:Int):Prop:=0<j/\j<1073741824
def By(i j:Int):Prop:=0<=j/\j<=1000000/\i.natAbs<2^64
def yh(i j:Int):Prop:=(-(2^64)<i/\i<2^64)\/(-(2^64)<j/\j<2^64)
theorem yh.ok{i j:Int}(h:yh i j):IntMulOk i j:=by
 rcases h with⟨b,a⟩|⟨b,a⟩
 .exact .of_left (HA b a)
 .exact .of_right (HA b a)
theorem rM(k:Nat):(0:Int)<=2^k:=by
 rw[two_pow_cast];exact Int.natCast_nonneg _
theorem bK:OpR X (Hz .Add) (rI0 λi j=>.int (i+j)):=yg λ_ _ _ _ _ _ _ q=>add_int q
theorem cx:OpR X (Hz .Sub) (rI0 λi j=>.int (i-j)):=yg λ_ _ _ _ _ _ _ q=>sub_int q
theorem fC:OpR X (Hz .Mult) (rI yh λi j=>.int (i*j)):=opI λ_ _ _ _ _ _ _ a q=>mul_int q a.ok
theorem bF:OpR X (Hz .FloorDiv) (rI C8 λi j=>.int (i / j)):=opI λi j _ _ _ _ _ a q=>by
 have c:(0:Int)<j:=a.1;have b:j<1073741824:=a.2;exact floordiv_int (by lia) (by rw[Int.fdiv_eq_ediv_of_nonneg i (by lia)];exact q) (.inl (PyProof.noPylong_small (by lia)))
theorem aO:OpR X (Hz .Mod) (rI (λ_ j=>0<j) λi j=>.int (i%j)):=opI λi j _ _ _ _ _ a q=>by
 have b:(0:Int)<j:=a;exact mod_int' (by lia) (by rw[Int.fmod_eq_emod_of_nonneg i (by lia)];exact q)
theorem gM:OpR X (Hz .Pow) (rI By λi j=>.int (i^j.toNat)):=opI λ_ _ _ _ _ _ _ a q=>pow_int_small a.1 a.2.1 a.2.2 q
theorem ph:OpR X (Hz .LShift) (rI By λi j=>.int (i*2^j.toNat)):=opI λ_ _ _ _ _ _ _ a q=>lshift_int_small a.1 a.2.1 a.2.2 q
theorem rN:OpR X (Hz .RShift) (rI (λ_ j=>0<=j) λi j=>.int (i / 2^j.toNat)):=opI λi j _ _ _ _ _ a q =>
 rshift_int a (by rw[Int.fdiv_eq_ediv_of_nonneg i (rM _)];exact q)
theorem rO:OpR X (Hz .BitAnd) (rI0 λi j=>.int (Hw.bitAnd i j)):=yg λ_ _ _ _ _ _ _ q=>and_int q
theorem Ab:OpR X (Hz .BitXor) (rI0 λi j=>.int (Hw.bitXor i j)):=yg λ_ _ _ _ _ _ _ q=>xor_int q
theorem unI{f:Gf->Sem Gf}{g:Int->Int}
  (rule:∀(i:Int)(t:Tok)(s:GP)(Q:Gf->GP->Prop)(E:Gf->GP->Prop),Q (.int (g i) s.toks) { s with toks:=s.toks+1 }->GU (model X.prog X.w) X.A (f (.int i t)) Q E s) :
  UnR X f (rU λi=>.int (g i)):=by
 intro Kg s σ H x v Q I a h;obtain⟨i,rfl,q⟩:=h;obtain⟨t,rfl⟩:=a;exact rule i t s _ _ ⟨.int (g i),H,I.tok _,⟨_,U⟩,q⟩
theorem gN:UnR X (unaryOp .USub) (rU λi=>.int (-i)):=unI λ_ _ _ _ _ q=>neg_int q
end
def Bz:V->V->Bool
 | .non,.non=>Kd | .non,.int _=>Kd | .int _,.non=>Kd | .non,.bl _=>Kd | .bl _,.non=>Kd | .non,.str _=>Kd | .str _,.non=>Kd
 | .int _,.int _=>Kd | .bl _,.bl _=>Kd | .str _,.str _=>Kd | .byt _,.byt _=>Kd
 | .int _,.str _=>Kd | .str _,.int _=>Kd | .bl _,.str _=>Kd | .str _,.bl _=>Kd
 |_,_=>Ke
def rEq:R2:=λx y H Q=>Bz x y=Kd/\Q (.bl (Kf (x=y))) H
def rNe:R2:=λx y H Q=>Bz x y=Kd/\Q (.bl (!Kf (x=y))) H
theorem tV{i j:Int}:decide (V.int i=V.int j)=(i == j):=by
 rw[Bool.eq_iff_iff];simp
theorem vZ{i j:Bool}:decide (V.bl i=V.bl j)=(i == j):=by
 rw[Bool.eq_iff_iff];simp
theorem tW{i j:Str}:decide (V.str i=V.str j)=(i == j):=by
 rw[Bool.eq_iff_iff];simp
theorem tX{i j:Array UInt8}:decide (V.byt i=V.byt j)=(i.toList == j.toList):=by
 rw[Bool.eq_iff_iff];cases i;cases j;simp
section
variable{a b c:GW}{tc:TE}
theorem aZ{Kg:List (GD×Obj)}{σ:St}{H:Hp}{s:GP}{Q:VK}{k a:Bool}(I:Inv X Kg σ H s)(q:Q (.bl k) H)(e:k=a):EP X Kg σ Q (.bool a) s:=by
 subst e;exact⟨.bl k,H,I,U,q⟩
theorem br:OpR X (HB .Eq) rEq:=by
 intro Kg s σ H x y v u Q I d a h;obtain⟨c,q⟩:=h;cases x with
 |non =>
  cases d;cases y with
  |non=>cases a;exact PySem.EqNone.eq_none_none (aZ I q (by simp))
  |bl j=>cases a;exact PySem.EqNone.eq_none_bool (aZ I q (by simp))
  |int j=>obtain⟨b,rfl⟩:=a;exact PySem.EqNone.eq_none_int (aZ I q (by simp))
  |str j=>obtain⟨b,rfl⟩:=a;exact PySem.EqNone.eq_none_str (aZ I q (by simp))
  |_=>exact Kk (show Ke=Kd from c) Bool.false_ne_true
 |bl i =>
  cases d;cases y with
  |non=>cases a;exact PySem.EqNone.eq_bool_none (aZ I q (by simp))
  |bl j=>cases a;exact eq_bool (aZ I q vZ)
  |str j=>obtain⟨b,rfl⟩:=a;exact PySem.EqMixed.eq_bool_str (aZ I q (by simp))
  |_=>exact Kk (show Ke=Kd from c) Bool.false_ne_true
 |int i =>
  obtain⟨t,rfl⟩:=d;cases y with
  |non=>cases a;exact PySem.EqNone.eq_int_none (aZ I q (by simp))
  |int j=>obtain⟨b,rfl⟩:=a;exact eq_int (aZ I q tV)
  |str j=>obtain⟨b,rfl⟩:=a;exact PySem.EqMixed.eq_int_str (aZ I q (by simp))
  |_=>exact Kk (show Ke=Kd from c) Bool.false_ne_true
 |str i =>
  obtain⟨t,rfl⟩:=d;cases y with
  |non=>cases a;exact PySem.EqNone.eq_str_none (aZ I q (by simp))
  |bl j=>cases a;exact PySem.EqMixed.eq_str_bool (aZ I q (by simp))
  |int j=>obtain⟨b,rfl⟩:=a;exact PySem.EqMixed.eq_str_int (aZ I q (by simp))
  |str j=>obtain⟨b,rfl⟩:=a;exact eq_str (aZ I q tW)
  |_=>exact Kk (show Ke=Kd from c) Bool.false_ne_true
 |byt i =>
  obtain⟨t,rfl⟩:=d;cases y with
  |byt j=>obtain⟨b,rfl⟩:=a;exact W.eq_bytes (aZ I q tX)
  |_=>exact Kk (show Ke=Kd from c) Bool.false_ne_true
 |_=>cases y <;> exact Kk (show Ke=Kd from c) Bool.false_ne_true
theorem om:OpR X (HB .NotEq) rNe:=by
 intro Kg s σ H x y v u Q I d a h;obtain⟨c,q⟩:=h;cases x with
 |non =>
  cases d;cases y with
  |non=>cases a;exact PySem.EqNone.ne_none_none (aZ I q (by simp))
  |bl j=>cases a;exact PySem.EqNone.ne_none_bool (aZ I q (by simp))
  |int j=>obtain⟨b,rfl⟩:=a;exact PySem.EqNone.ne_none_int (aZ I q (by simp))
  |str j=>obtain⟨b,rfl⟩:=a;exact PySem.EqNone.ne_none_str (aZ I q (by simp))
  |_=>exact Kk (show Ke=Kd from c) Bool.false_ne_true
 |bl i =>
  cases d;cases y with
  |non=>cases a;exact PySem.EqNone.ne_bool_none (aZ I q (by simp))
  |bl j=>cases a;exact ne_bool (aZ I q (Ko not vZ))
  |str j=>obtain⟨b,rfl⟩:=a;exact PySem.EqMixed.ne_bool_str (aZ I q (by simp))
  |_=>exact Kk (show Ke=Kd from c) Bool.false_ne_true
 |int i =>
  obtain⟨t,rfl⟩:=d;cases y with
  |non=>cases a;exact PySem.EqNone.ne_int_none (aZ I q (by simp))
  |int j=>obtain⟨b,rfl⟩:=a;exact ne_int (aZ I q (Ko not tV))
  |str j=>obtain⟨b,rfl⟩:=a;exact PySem.EqMixed.ne_int_str (aZ I q (by simp))
  |_=>exact Kk (show Ke=Kd from c) Bool.false_ne_true
 |str i =>
  obtain⟨t,rfl⟩:=d;cases y with
  |non=>cases a;exact PySem.EqNone.ne_str_none (aZ I q (by simp))
  |bl j=>cases a;exact PySem.EqMixed.ne_str_bool (aZ I q (by simp))
  |int j=>obtain⟨b,rfl⟩:=a;exact PySem.EqMixed.ne_str_int (aZ I q (by simp))
  |str j=>obtain⟨b,rfl⟩:=a;exact ne_str (aZ I q (Ko not tW))
  |_=>exact Kk (show Ke=Kd from c) Bool.false_ne_true
 |byt i =>
  obtain⟨t,rfl⟩:=d;cases y with
  |byt j=>obtain⟨b,rfl⟩:=a;exact W.ne_bytes (aZ I q (Ko not tX))
  |_=>exact Kk (show Ke=Kd from c) Bool.false_ne_true
 |_=>cases y <;> exact Kk (show Ke=Kd from c) Bool.false_ne_true
theorem iV:OpR X (HB .Lt) (rI0 λi j=>.bl (Kf (i<j))):=Aa λ_ _ _ _ _ _ _ q=>lt_int q
theorem fj:OpR X (HB .LtE) (rI0 λi j=>.bl (Kf (i<=j))):=Aa λ_ _ _ _ _ _ _ q=>le_int q
theorem kM:OpR X (HB .Gt) (rI0 λi j=>.bl (Kf (j<i))):=Aa λ_ _ _ _ _ _ _ q=>gt_int q
theorem Ac:OpR X (HB .Is) (λx y H Q=>y=.non/\Q (.bl (Kf (x=.non))) H):=by
 intro Kg s σ H x y v u Q I a b h;obtain⟨rfl,q⟩:=h;cases b;refine is_none_gen (aZ I q ?_)
 cases x <;> first
  |(cases a;rfl)
  |(obtain⟨t,rfl⟩:=a;rfl)
theorem pj:OpR X (HB .NotIn) (λx y H Q=>∃i j,x=.str i/\y=.str j/\Q (.bl (!(!(Hw.Str.occurrences j i 0 j.length 1).isEmpty))) H):=by
 intro Kg s σ H x y v u Q I b a h;obtain⟨i,j,rfl,rfl,q⟩:=h;obtain⟨t,rfl⟩:=b;obtain⟨c,rfl⟩:=a;exact notIn_str (aZ I q U)
theorem aH(b:GW){a:HC}(h:a≠.In:=by decide)(c:a≠.NotIn:=by decide):HD a b=false:=by
 have e:(a == HC.In)=false:=by cases a <;> first|rfl|exact Kk U h
 have d:(a == HC.NotIn)=false:=by cases a <;> first|rfl|exact Kk U c
 cases b <;> simp[HD,e,d]
theorem jP{c:HC}{r:R2}(f:OpR X (HB c) r)(j:PE X a ta)(i:PE X b tb)(g:HD c b=Ke):PE X (.Compare a [c] [b] pos) (tOp r ta tb):=by
 intro Kg s σ H Q I h;exact wpAny_Compare1 (zZ j i I h λv u s2 x y l k e d q=>f Kg s2 σ l x y v u Q k e d q) g
inductive v7  (Q:Bool->Hp->Prop)(x:V)(H':Hp):Prop
 |mk (k:_)(_:x=.bl k)(_:Q k H'):v7 Q x H'
def zl(t:TE):TT:=λσ H Q=>t σ H λx H'=>v7 Q x H'
theorem aE{d:HC}{r:R2}(o:OpR X (HB d) r)(t:PE X a ta)(q:PE X b tb)(p:HD d b=Ke):PT X (.Compare a [d] [b] pos) (zl (tOp r ta tb)):=by
 intro Kg s σ H Q I h;refine wpAny_isTrue_Compare1 (thn (t Kg s σ H _ I h) λv f ⟨x,E,B,j,n⟩=>thn (q Kg f σ E _ B n) λu s2 ⟨y,D,A,i,m⟩ =>
  thn (o Kg s2 σ D x y v u _ A j i m) λc F ⟨z,C,w,g,k,e,l⟩=>?_) p
 subst e;cases g;exact Hf ⟨C,w,l⟩
inductive tY(r':R2)(tc:TE)(σ:St)(Q:VK)(y:V)(z:V)(H3:Hp):Prop
 |mk (k:_)(_:z=.bl k)(_:(if k=Kd then tc σ H3 λw' H4=>r' y w' H4 Q else Q (.bl Ke) H3))
def v9(r a:R2)(ta tb tc:TE):TE:=λσ H Q=>ta σ H λx d=>tb σ d λy c=>r x y c λz b=>tY a tc σ Q y z b
theorem lO{g f:HC}{r l:R2}(J:OpR X (HB g) r)(i:OpR X (HB f) l)(M:PE X a ta)(L:PE X b tb)(K:PE X c tc)
  (hm:lastMarks [g,f] [b,c]=false:=by with_unfolding_all rfl):PE X (.Compare a [g,f] [b,c] pos) (v9 r l ta tb tc):=by
 intro Kg s σ H Q I h;refine Compare_chain (thn (M Kg s σ H _ I h) λv A ⟨x,T,P,D,G⟩=>chain_link (thn (L Kg A σ T _ P G) λu s2 ⟨y,S,O,j,F⟩ =>
  thn (J Kg s2 σ S x y v u _ O D j F) λd w ⟨z,o,n,C,k,e,m⟩=>?_)) hm
 subst e;cases C;refine Hf ?_;cases k with
 |false=>exact ite_ff ⟨.bl Ke,o,n,U,m⟩
 |true=>exact ite_tt (chain_last (thn (K Kg w σ o _ n m) λq t ⟨p,R,N,B,E⟩=>i Kg t σ R y p u q Q N j B E))
theorem gO{g f:HC}{r l:R2}(M:OpR X (HB g) r)(i:OpR X (HB f) l)(P:PE X a ta)(O:PE X b tb)(N:PE X c tc)
  (hm:lastMarks [g,f] [b,c]=false:=by with_unfolding_all rfl):PT X (.Compare a [g,f] [b,c] pos) (zl (v9 r l ta tb tc)):=by
 intro Kg s σ H Q I h;refine isTrue_chain (thn (P Kg s σ H _ I h) λv A ⟨x,H1,Y,E,K⟩=>test_link (thn (O Kg A σ H1 _ Y K) λu s2 ⟨y,H2,W,j,J⟩ =>
  thn (M Kg s2 σ H2 x y v u _ W E j J) λd w ⟨z,o,n,D,k,e,m⟩=>?_)) hm
 subst e;cases D;refine Hf ?_;cases k with
 |false =>
  obtain⟨k',S,L⟩:=m;cases S;exact ite_ff ⟨o,n,L⟩
 |true =>
  refine ite_tt (test_last (thn (N Kg w σ o _ n m) λq t ⟨p,H4,V,C,G⟩=>thn (i Kg t σ H4 y p u q _ V j C G) λd' s5 ⟨z2,Z,T,B,k2,R,F⟩=>?_));subst R;cases B;exact Hf ⟨Z,T,F⟩
def Ad(K:W.Frag)(x:V)(H:Hp)(k:Bool):Prop :=
 match x with
 | .non=>k=Ke
 | .bl b=>k=b
 | .int i=>k=(i != 0)
 | .str y=>y.length<=GH/\k=((y.length:Int) != 0)
 | .byt y=>y.size<=GH/\k=((y.size:Int) != 0)
 | .ref p=>(∃a,SqL K H p a/\k = !a.isEmpty)\/(∃a,SqT K H p a/\k = !a.isEmpty)\/∃c,H p=Kb (.dK c)/\k = !c.isEmpty
 |_=>False
theorem rP{b:Type}{a:List (b×V)}{vs:List (b×Gf)}(r:KV a vs):(!vs.isEmpty) = !a.isEmpty:=by
 cases r <;> rfl
theorem lP{xs:List V}{a:List Gf}(r:Vals xs a):(!a.toArray.isEmpty) = !xs.isEmpty:=by
 cases r <;> simp
theorem jb:(GH:Nat)<2^63:=by rw[HE];decide
theorem Ae:C7 X (λx H Q=>∃k,Ad X.K x H k/\Q k H):=by
 intro Kg s σ H x v Q I g h;obtain⟨k,e,q⟩:=h;have C:=jb;have B:GH=16777216:=HE;cases x with
 |non =>
  cases g;have a:k=false:=e;subst a;exact truthy_none ⟨H,I,q⟩
 |bl b =>
  cases g;have a:k=b:=e;subst a;exact Hf ⟨H,I,q⟩
 |int i =>
  obtain⟨t,rfl⟩:=g;have a:k=(i != 0):=e;subst a;exact PySem.P.truthy_int ⟨H,I,q⟩
 |str y =>
  obtain⟨t,rfl⟩:=g;obtain⟨z,a⟩:y.length<=GH/\k=((y.length:Int) != 0):=e;subst a;exact PySem.P.truthy_str (by lia) ⟨H,I.tok _,q⟩
 |byt y =>
  obtain⟨t,rfl⟩:=g;obtain⟨z,a⟩:y.size<=GH/\k=((y.size:Int) != 0):=e;subst a;exact W.truthy_bytes (by lia) ⟨H,I.tok _,q⟩
 |ref p =>
  cases g;have a:(∃f,SqL X.K H p f/\k = !f.isEmpty)\/(∃f,SqT X.K H p f/\k = !f.isEmpty)\/∃c,H p=Kb (.dK c)/\k = !c.isEmpty:=e;rcases a with⟨f,j,a⟩|⟨f,j,a⟩|⟨c,j,a⟩
  .subst a;obtain⟨o,r,n,u⟩:=I.list j;have d:=r.length;exact wpAny_truthy_list n.isList (by simp only[dV];lia) ⟨H,I.tok _,by rw[lP r];exact q⟩
  .subst a;obtain⟨o,r,n,u⟩:=I.tuple j;have d:=r.length;exact truthy_tuple n (by simp only[dV];lia) ⟨H,I.tok _,by rw[lP r];exact q⟩
  .subst a;obtain⟨u,A,l,r,m⟩:c.length<=GH/\(p == GI)=Ke/\∃l,KV c l/\s.heap.DictOf (pd X.prog X.w) p l:=I.hok p _ j;have d:c.length=l.length:=Paired.length r;exact wpAny_truthy_dict A m (by lia) ⟨H,I.tok _,by rw[rP r];exact q⟩
 |_=>exact(show False from e).elim
theorem du(g:PE X a ta)(f:∀b,GX a X.env b=(do let v ←b;He a.pos;holding [v] (truthy v))) :
  PT X a (λσ H Q=>ta σ H λx H'=>∃k,Ad X.K x H' k/\Q k H'):=by
 intro Kg s σ H Q I h;exact isTrue_plain (thn (g Kg s σ H _ I h) λv c ⟨x,j,i,d,e⟩=>Ae Kg c σ j x v Q i d e) (f _)
theorem jc:OpR X (Hz .Add) (λx y H Q=>∃i j,x=.str i/\y=.str j/\i.length+j.length<=GH/\Q (.str (i++j)) H):=by
 intro Kg s σ H x y v u Q I c b h;obtain⟨i,j,rfl,rfl,d,q⟩:=h;obtain⟨t,rfl⟩:=c;obtain⟨a,rfl⟩:=b;exact add_str (λa e=>⟨.str (i++j),H,I.tok _,⟨_,U⟩,q⟩) d
theorem Af:OpR X (Hz .Add) (λx y H Q=>∃i j,x=.byt i/\y=.byt j/\i.size+j.size<=16777216/\Q (.byt (i++j)) H):=by
 intro Kg s σ H x y v u Q I c b h;obtain⟨i,j,rfl,rfl,d,q⟩:=h;obtain⟨t,rfl⟩:=c;obtain⟨a,rfl⟩:=b;exact W.KBy.add_bytes d (λa e=>⟨.byt (i++j),H,I.tok _,⟨_,U⟩,q⟩)
theorem vals1{x:V}{us:List Gf}(r:Vals [x] us):∃u,us=[u]/\RelV x u:=by
 cases r with
 |cons b a=>cases a;exact⟨_,U,b⟩
theorem vals2{x y:V}{us:List Gf}(r:Vals [x,y] us):∃u a,us=[u,a]/\RelV x u/\RelV y a:=by
 cases r with
 |cons e d =>
  cases d with
  |cons c b=>cases b;exact⟨_,_,U,e,c⟩
theorem oo(b:X.calm=Kd):dn X (.builtin "max") (λxs H Q=>∃i j,xs=[.int i,.int j]/\Q (.int (if j>i then j else i)) H):=by
 intro Kg s σ H xs d Q I r h;obtain⟨i,j,rfl,q⟩:=h;obtain⟨u,c,rfl,⟨t,rfl⟩,⟨f,rfl⟩⟩:=vals2 r;refine max_two_ints (I.ok.hd b) λh' e k=>⟨_,H,I.kept k,?_,q⟩
 by_cases a:j>i
 .rw[Kj a,Kj a];exact⟨_,U⟩
 .rw[Ki a,Ki a];exact⟨_,U⟩
theorem kl(b:X.calm=Kd):dn X (.builtin "min") (λxs H Q=>∃i j,xs=[.int i,.int j]/\Q (.int (if j<i then j else i)) H):=by
 intro Kg s σ H xs d Q I r h;obtain⟨i,j,rfl,q⟩:=h;obtain⟨u,c,rfl,⟨t,rfl⟩,⟨f,rfl⟩⟩:=vals2 r;refine min_two_ints (I.ok.hd b) λh' e k=>⟨_,H,I.kept k,?_,q⟩
 by_cases a:j<i
 .rw[Kj a,Kj a];exact⟨_,U⟩
 .rw[Ki a,Ki a];exact⟨_,U⟩
end
structure rQ(h:GG)(x dx C:GD)(mA:Str->Option Gf):Prop where
 obj:h.get? x=Kb (W.instObj C dx)
 ns:h.Ns1 dx mA
 ne:dx≠x
theorem uJ{h:GG}{f:GD}{c:Str->Option Gf}(n:h.Ns1 f c):∃b,h.get? f=Kb b/\∀name,W.lookIn name b=Kb (c name):=by
 obtain⟨o,d,r,i,l,k,_,j⟩:=n;refine⟨o,i,λname=>?_⟩;have e:=j name;unfold nsFind findBy at e;rw[←Array.find?_toList]at e;unfold W.lookIn;rw[l];dsimp only;split
 .rename_i y q
  rw[q]at e;exact Ko Kb e
 .rename_i q
  rw[q]at e;have a:d.toList.any (·.refKey)=false:=by
   rw[List.any_eq_false];intro y g;obtain⟨z,t,p⟩:=k y (Array.mem_toList_iff.mp g);simp[DictEntry.refKey,p]
  have m:¬ d.toList.any (·.refKey)=true:=by rw[a];exact Bool.false_ne_true
  rw[Ki m];exact Ko Kb e
theorem rQ.look{h:GG}{x c C:GD}{b:Str->Option Gf}(I:rQ h x c C b):∃a,W.InstAt h x (W.instObj C c) C (Kb a)/\∀name,W.lookIn name a=Kb (b name):=by
 obtain⟨a,d,e⟩:=uJ I.ns;exact⟨a,⟨I.obj,U,U,d⟩,e⟩
variable{A:GO}{dx C f:GD}
section
variable{prog:GC}{K:W.Frag}{mA:Str->Option Gf}{name:Str}{v:Gf}
theorem get_map{a:Bool}{Q:Gf->GP->Prop}(X:K.In s.heap)(I:rQ s.heap x dx C mA)(f:W.plainGet K C name=Kd)(e:W.hasDictIn K C=Kd)
  (g:W.findIn K (.ref C) name=Kb Kc)(c:mA name=Kb v)(b:W.handedIn v=Kd)(h:Q v { s with toks:=s.toks+1 }) :
  GU (model prog w) A (getAttr (.ref x) name a) Q E s:=by
 obtain⟨i,J,d⟩:=I.look;exact W.get_value X J (W.plainGet_of f).1 (W.findObj_own e g U (by rw[d,c])) b h
theorem wa{pl:Sem Bool}{Q:Gf×List Gf->GP->Prop}(X:K.In s.heap)(I:rQ s.heap x dx C mA)(a:W.plainGet K C name=Kd)
  (hf:W.findIn K (.ref C) name=Kb (Kb (.ref f)))(d:W.isFn K (.ref f)=Kd)(c:mA name=Kc)(h:Q (.ref f,[.ref x]) s) :
  GU (model prog w) A (HF (.ref x) name pl) Q E s:=by
 obtain⟨b,J,e⟩:=I.look;exact W.method_fn X J (W.plainGet_of a).1 (W.plainGet_of a).2 hf (beq_iff_eq.mp d) (by show(W.lookIn name b).map (·.isSome)=Kb Ke;rw[e,c];rfl) h
theorem yi{ns:List Str}{Q:Unit->GP->Prop}(X:K.In s.heap)(I:rQ s.heap x dx C mA)
  (l:W.findIn K (.ref C) "__setattr__" = Kb (Kb (.builtin "object.__setattr__"))) (m:W.plainOver K C=Kd)(k:W.takerIn K C name=Kb Kc)(n:W.hasDictIn K C=Kd)
  (hw:PySem.Within mA ns)(p:ns.length<=GH)
  (h:∀h',rQ h' x dx C (λy=>if y=name then Kb v else mA y)->GG.SameBut dx s.heap h'->Q () { s with heap:=h',toks:=s.toks+2 }) :
  GU (model prog w) A (setAttr (.ref x) name v) Q E s:=by
 obtain⟨u,J,B⟩:=I.look;refine W.set_plain X J l (W.osa_open (s:={ s with toks:=s.toks+1 }) (r:=Kc) X J m k λb=>?_);obtain⟨D,o,g⟩:=W.any_some n;have j:s.heap.get? x=Kb ⟨.ref C,Kb dx,.plain,#[]⟩:=I.obj;refine DN (D0 (DN (DN (wpAny_loadPart j (DN (W.Looks.here (s:={ s with toks:=s.toks+1 }) (W.looks_clsIn X o) ?_))))));rw[g];refine D0 (a:=Kb dx) (DN (D0 (DN ?_)));refine wpAny_nsSet1 (s:={ s with toks:=s.toks+1 }) I.ns λh' d c=>?_
 obtain⟨z,q,t,e,f,i⟩:=d.count (PySem.Within.cons name v hw);refine DN (wpAny_lookBehind e (by rw[f];exact pastItsLine_dict (yW i (by rw[iK];lia))) ?_);exact D0 (h _ ⟨(c.2 _ (Ne.symm I.ne)).trans I.obj,d,I.ne⟩ c)
theorem wb{R:HG->GP->Prop}{vs:List Gf}{b:List (Str×Gf)}(X:K.In s.heap)(c:W.makesIn K C=Kd)
  (hi:W.findIn K (.ref C) "__init__" = Kb (Kb (.ref f))) (hf:W.typeIn K (.ref f)=Kb (.type "function"))
  (h:HH (model prog w) (A.under (.builtin "type.__call__" ⟨.ref C :: vs,b⟩)) (.call (.ref f) ⟨.ref (s.heap.objs.size+1) :: vs,b⟩) (W.InitBack (s.heap.objs.size+1) R)
   { s with heap:=(s.heap.push W.emptyDict).push (W.instObj C s.heap.objs.size) }) :
  HH (model prog w) A (.call (.ref C) ⟨vs,b⟩) R s:=by
 obtain⟨i,g,d,t,e⟩:=s;exact W.make_core (W.makes_of X c) (W.looks_findIn X hi) (λa=>W.bind_fn X a hf) (.inl U) h
end
def bw(f:Str)(v:V):List (Str×V)->List (Str×V)
 | []=>[(f,v)]
 |(g,x) :: r=>if g=f then(g,v) :: r else(g,x) :: bw f v r
theorem kN(f g:Str)(v:V):∀fs:List (Str×V),(bw f v fs).lookup g=if g=f then Kb v else fs.lookup g
 | []=>by
  show List.lookup g [(f,v)]=_;by_cases h:g=f
  .have a:(g == f)=true:=beq_iff_eq.mpr h;simp only[List.lookup,a,Kj h]
  .have a:(g == f)=false:=beq_eq_false_iff_ne.mpr h;simp only[List.lookup,a,Ki h]
 |(k,x) :: r=>by
  have c:=kN f g v r;rw[show bw f v ((k,x) :: r)=(if k=f then(k,v) :: r else(k,x) :: bw f v r)from U];by_cases b:k=f
  .rw[Kj b];by_cases h:g=k
   .have a:(g == k)=true:=beq_iff_eq.mpr h;simp only[List.lookup,a,Kj (h.trans b)]
   .have a:(g == k)=false:=beq_eq_false_iff_ne.mpr h;simp only[List.lookup,a,Ki (λe:g=f=>h (e.trans b.symm))]
  .rw[Ki b];by_cases h:g=k
   .have a:(g == k)=true:=beq_iff_eq.mpr h;simp only[List.lookup,a,Ki (λe:g=f=>b (h.symm.trans e))]
   .have a:(g == k)=false:=beq_eq_false_iff_ne.mpr h;simp only[List.lookup,a];exact c
theorem km(f:Str)(v:V):∀fs:List (Str×V),f∈(bw f v fs).map (·.1)/\∀g,g∈fs.map (·.1)->g∈(bw f v fs).map (·.1)
 | []=>⟨by simp[bw],λg h=>by simp at h⟩
 |(k,x) :: r=>by
  obtain⟨c,b⟩:=km f v r;rw[show bw f v ((k,x) :: r)=(if k=f then(k,v) :: r else(k,x) :: bw f v r)from U];by_cases a:k=f
  .rw[Kj a];subst a;exact⟨by simp,λg h=>by simpa using h⟩
  .rw[Ki a];refine⟨?_,λg h=>?_⟩
   .rw[mu];exact iO _ c
   .rw[mu]at h⊢;rcases dt.mp h with e|e
    .exact dt.mpr (.inl e)
    .exact iO _ (b g e)
theorem kO(f:Str)(v:V):∀fs:List (Str×V),(bw f v fs).length<=fs.length+1
 | []=>by simp[bw]
 |(k,x) :: r=>by
  have b:=kO f v r;rw[show bw f v ((k,x) :: r)=(if k=f then(k,v) :: r else(k,x) :: bw f v r)from U];by_cases a:k=f
  .rw[Kj a,iK,iK];lia
  .rw[Ki a,iK,iK];lia
theorem nB.some_of{v:V}{o:Option Gf}(r:nB (Kb v) o):∃u,o=Kb u/\RelV v u:=by
 cases o with
 |none=>exact(show False from r).elim
 |some u=>exact⟨u,U,r⟩
theorem nB.none_of{o:Option Gf}(r:nB Kc o):o=none:=by
 cases o with
 |none=>rfl
 |some u=>exact(show False from r).elim
theorem oq{v:V}{u:Gf}(r:RelV v u):W.handedIn u=true:=by
 cases v with
 |non=>cases (show u=Gf.none from r);rfl
 |bl b=>cases (show u=Gf.bool b from r);rfl
 |int i=>obtain⟨t,e⟩:=(show ∃t,u=Gf.int i t from r);cases e;rfl
 |str x=>obtain⟨t,e⟩:=(show ∃t,u=Gf.str x t from r);cases e;rfl
 |byt b=>obtain⟨t,e⟩:=(show ∃t,u=Gf.bytes b t from r);cases e;rfl
 |flt b=>obtain⟨t,e⟩:=(show ∃t,u=Gf.float b t from r);cases e;rfl
 |ref a=>cases (show u=Gf.ref a from r);rfl
 |ty n=>cases (show u=Gf.type n from r);rfl
section
variable{fs fs':List (Str×V)}
theorem ly(hok:HOk P w H h)(e:H a=Kb (.ins C dx fs)):∃b,rQ h a dx C b/\(∀f,nB (fs.lookup f) (b f))/\PySem.Within b (fs.map (·.1))/\fs.length<=1000/\H dx=Kb (.own a):=by
 obtain⟨d,z,g,c,b,n,r,q⟩:=(show cQ P w H h a (.ins C dx fs)from hok a _ e);exact⟨b,⟨c,n,g⟩,r,q,z,d⟩
end
structure Cls(K:W.Frag)(C:GD):Prop where
 pg:W.plainGet K C Str.empty=Kd
 hd:W.hasDictIn K C=Kd
 po:W.plainOver K C=Kd
 sa:W.findIn K (.ref C) "__setattr__" = Kb (Kb (.builtin "object.__setattr__"))
theorem Cls.get{K:W.Frag}{C:GD}(c:Cls K C)(f:Str):W.plainGet K C f=true:=c.pg
def NoAttr(K:W.Frag)(C:GD)(f:Str):Prop:=W.findIn K (.ref C) f=Kb Kc
theorem NoAttr.taker{K:W.Frag}{C:GD}{f:Str}(n:NoAttr K C f):W.takerIn K C f=Kb none:=by
 unfold W.takerIn;rw[show W.findIn K (.ref C) f=Kb Kc from n];rfl
structure Con(K:W.Frag)(C:GD)(f:Str)(v:V)(u:Gf):Prop where
 at_:W.findIn K (.ref C) f=Kb (Kb u)
 rel:RelV v u
 get:W.specialIn K u "__get__" = Kb Kc
 cp:W.copiedNames.contains f=Ke
structure Meth(K:W.Frag)(C:GD)(m:Str)(f:GD):Prop where
 at_:W.findIn K (.ref C) m=Kb (Kb (.ref f))
 fn:W.isFn K (.ref f)=Kd
 kp:W.keepIn K (.ref f)=Kd
section
variable{fs:List (Str×V)}{f:Str}{v:V}
theorem rR{b:Bool}{Q:Gf->GP->Prop}(I:Inv X Kg σ H s)(e:H a=Kb (.ins C dx fs))(c:Cls X.K C)(n:NoAttr X.K C f)(l:fs.lookup f=Kb v)
  (h:∀u s',Inv X Kg σ H s'->RelV v u->Q u s'):GU (model X.prog X.w) A (getAttr (.ref a) f b) Q E s:=by
 obtain⟨g,O,r,_,_,_⟩:=ly I.hok e;obtain⟨u,i,d⟩:=nB.some_of (v:=v) (o:=g f) (by rw[←l];exact r f);exact get_map I.kIn O (c.get f) c.hd n i (oq d) (h u _ (I.tok _) d)
theorem lQ{m:Str}{g:GD}{pl:Sem Bool}{Q:Gf×List Gf->GP->Prop}(I:Inv X Kg σ H s)(e:H a=Kb (.ins C dx fs))(c:Cls X.K C)(k:Meth X.K C m g)(l:fs.lookup m=Kc)
  (h:Q (.ref g,[.ref a]) s):GU (model X.prog X.w) A (HF (.ref a) m pl) Q E s:=by
 obtain⟨b,O,r,_,_,_⟩:=ly I.hok e;have d:b m=none:=nB.none_of (by rw[←l];exact r m);exact wa I.kIn O (c.get m) k.at_ k.fn d h
theorem rS{y:V}{u:Gf}{Q:Unit->GP->Prop}(I:Inv X Kg σ H s)(e:H a=Kb (.ins C dx fs))(c:Cls X.K C)(n:NoAttr X.K C f)(B:fs.length<1000)(m:RelV y u)
  (h:∀s',Inv X Kg σ (upd H a (.ins C dx (bw f y fs))) s'->Q () s'):GU (model X.prog X.w) A (setAttr (.ref a) f u) Q E s:=by
 obtain⟨j,O,r,i,_,k⟩:=ly I.hok e;have p:(fs.map (·.1)).length<=GH:=by rw[bx,HE];lia
 refine yi I.kIn O c.sa c.po n.taker c.hd i p λh' d l=>h _ ?_
 have hd:∃o,h'.get? dx=Kb o:=let ⟨o,_,_,e',_⟩:=d.ns;⟨o,e'⟩;refine I.write (x:=a) (e:=dx) (by rw[e];exact True.intro) (.inr k) (λb q v z=>(l.2 b v).trans z) hd ?_;refine⟨by rw[ay O.ne];exact k,?_,O.ne,d.obj,_,d.ns,λg=>?_,λg t=>?_⟩
 .have:=kO f y fs;lia
 .show nB ((bw f y fs).lookup g) (if g=f then Kb u else j g);rw[kN];by_cases q:g=f
  .rw[Kj q,Kj q];exact m
  .rw[Ki q,Ki q];exact r g
 .by_cases q:g=f
  .rw[q];exact(km f y fs).1
  .refine(km f y fs).2 g (i g λz=>t ?_);show(if g=f then Kb u else j g)=Kc;rw[Ki q];exact z
theorem Inv.made(I:Inv X Kg σ H s):Inv X Kg σ (upd (upd H s.heap.objs.size (.own (s.heap.objs.size+1))) (s.heap.objs.size+1) (.ins C s.heap.objs.size []))
  { s with heap:=(s.heap.push W.emptyDict).push (W.instObj C s.heap.objs.size) }:=by
 have d:(s.heap.push W.emptyDict).get? s.heap.objs.size=Kb W.emptyDict:=GG.get?_push_size s.heap U;have i:((s.heap.push W.emptyDict).push (W.instObj C s.heap.objs.size)).get? (s.heap.objs.size+1)=Kb (W.instObj C s.heap.objs.size):=by
  have:=GG.get?_push_size (s.heap.push W.emptyDict) (o:=W.instObj C s.heap.objs.size) U
  rwa [GG.size_push]at this
 have h:(s.heap.push W.emptyDict).Ns s.heap.objs.size (λ_=>Kc):=⟨W.emptyDict,#[],_,d,U,(λe g=>Kk g (by simp)),λ_=>U⟩;have j:=I.laid (a:=s.heap.objs.size) (o:=.own (s.heap.objs.size+1)) (h':=s.heap.push W.emptyDict) (t':=s.toks) (λb u q=>GG.get?_push_of_some _ q) (yr _) ⟨_,d⟩;refine j.laid (a:=s.heap.objs.size+1) (o:=.ins C s.heap.objs.size []) (t':=s.toks) (λb u q=>GG.get?_push_of_some _ q) (Nat.le_of_eq (GG.size_push _ _)) ?_;have c:s.heap.objs.size≠s.heap.objs.size+1:=yv (zg _);refine⟨by rw[ay c,ab],yY _,c,i,λ_=>Kc,(GG.Ns1.of_empty h).at λo q=>GG.get?_push_of_some _ q,λ_=>True.intro,λy f=>Kk U f⟩
theorem yj{prog:GC}{w:Gn}{a:Env}{e:GW}{f:Str}{pos:Pos}{s:GP}{Q:Gf->GP->Prop}(c:HI e f a (eval e a)=eval e a)
  (h:GU (model prog w) A (eval e a) (λo b=>GU (model prog w) A (getAttr o f Kd) Q E b) E s):GU (model prog w) A (eval (.Attribute e f pos) a) Q E s :=
 Attribute_any_ h (by rw[arm_eval_Attribute,c])
end
inductive zm(K:W.Frag)(f:Str)(Q:VK)(x:V)(H1:Hp):Prop
 |mk (a C dx fs v:_)(_:x=.ref a)(_:H1 a=Kb (.ins C dx fs))(_:Cls K C)(_:NoAttr K C f)(_:fs.lookup f=Kb v)(_:Q v H1)
def BA(K:W.Frag)(ta:TE)(f:Str):TE:=λσ H Q=>ta σ H λx a=>zm K f Q x a
def C9(K:W.Frag)(ta c:TE)(f:Str):TS:=λD σ H=>c σ H λy d=>ta σ d λx b=>∃a C dx fs,x=.ref a/\b a=Kb (.ins C dx fs)/\Cls K C/\NoAttr K C f/\fs.length<1000 /\
 D.nx σ (upd b a (.ins C dx (bw f y fs)))
variable{o:GW}
section
variable{value:GW}{f:Str}{pos' Gd:Pos}{tv:TE}
theorem ba(g:PE X e ta)(i:HI e f X.env (eval e X.env)=eval e X.env):PE X (.Attribute e f pos) (BA X.K ta f):=by
 intro Kg s σ H Q I h;refine yj i (thn (g Kg s σ H _ I h) λu t ⟨x,p,o,b,a,C,dx,fs,v,j,k,c,n,l,q⟩=>?_);subst j;obtain rfl:u=Gf.ref a:=b;exact rR o k c n l λr s2 m d=>⟨v,p,m,d,q⟩
theorem cD(m:PE X o ta)(j:PE X value tv)(k:Hi value (Kb (.Attribute o f pos')) pos.line X.env=pure Ke):PS X (.Assign [.Attribute o f pos'] value pos) (C9 X.K ta tv f):=by
 intro Kg s σ H D I h;refine plainObj_wpAny_Assign_Attribute (thn (j Kg s σ H _ I h) λu b ⟨y,z,w,d,q⟩=>thn (m Kg b σ z _ w q) λi s2 ⟨x,B,v,e,a,C,dx,fs,p,r,c,n,l,g⟩=>?_) k;subst p;obtain rfl:i=Gf.ref a:=e;exact rS v r c n l d λA t=>⟨σ,_,t,g⟩
end
section
variable{Q:Gf->GP->Prop}{c:Gf}{b:Bool}
inductive kn(K:W.Frag)(H:Hp):V->Gf->Prop where
 |non:kn K H .non (.type "NoneType")
 |bl (x:Bool):kn K H (.bl x) (.type "bool")
 |int (i:Int):kn K H (.int i) (.type "int")
 |str (x:Str):kn K H (.str x) (.type "str")
 |flt (x:UInt64):kn K H (.flt x) (.type "float")
 |lst {a:GD}{xs:List V}(e:H a=Kb (.lst xs)):kn K H (.ref a) (.type "list")
 |frz {a:GD}{o:Obj}{xs:List V}(e:H a=Kb (.frz o (.lst xs))):kn K H (.ref a) (.type "list")
 |tup {a:GD}{xs:List V}(e:H a=Kb (.tup xs)):kn K H (.ref a) (.type "tuple")
 |dK {a:GD}{kvs:List (Key×V)}(e:H a=Kb (.dK kvs)):kn K H (.ref a) (.type "dict")
 |dT {a:GD}{kvs:List (List Key×V)}(e:H a=Kb (.dT kvs)):kn K H (.ref a) (.type "dict")
 |ins {a C dx:GD}{fs:List (Str×V)}(e:H a=Kb (.ins C dx fs))(cl:Cls K C)(ha:W.findIn K (.ref C) "__class__" = Kb (Kb (.builtin "object.__class__")))
   (hn:W.specialIn K (.builtin "object.__class__") "__get__" = Kb (Kb (.builtin "getset_descriptor.__get__"))) (htk:W.takesIn K (.builtin "object.__class__")=Kb Kd)
   (hm:W.mroIn K C (.type "object")=Kb Kd):kn K H (.ref a) (.ref C)
theorem uK{x:V}{u t:Gf}(I:Inv X Kg σ H s)(rx:RelV x u)(ty:kn X.K H x t)(e:W.kitOne X.K t c=Kb b)(h:∀j,Q (.bool b) { s with toks:=j }) :
  GU (model X.prog X.w) A (call (.builtin "isinstance") [u,c]) Q E s:=by
 cases ty with
 |non=>cases (show u=Gf.none from rx);exact W.kia_one W.kitx_none I.kIn True.intro e (λz=>nomatch z) h
 |bl y=>cases (show u=Gf.bool y from rx);exact W.kia_one W.kitx_bool I.kIn True.intro e (λz=>nomatch z) h
 |int i=>obtain⟨t,q⟩:=(show ∃t,u=Gf.int i t from rx);cases q;exact W.kia_one W.kitx_int I.kIn True.intro e (λz=>nomatch z) h
 |str y=>obtain⟨t,q⟩:=(show ∃t,u=Gf.str y t from rx);cases q;exact W.kia_one W.kitx_str I.kIn True.intro e (λz=>nomatch z) h
 |flt y=>obtain⟨t,q⟩:=(show ∃t,u=Gf.float y t from rx);cases q;exact W.kia_one W.kitx_float I.kIn True.intro e (λz=>nomatch z) h
 | @lst a f ea =>
  cases (show u=Gf.ref a from rx);obtain⟨_,_,n,_,d⟩:=(show cQ X.prog X.w H s.heap a (.lst f)from I.hok a _ ea);exact W.kia_one W.kitx_list I.kIn ⟨_,d,U⟩ e (λz=>nomatch z) h
 | @frz a ob f ea =>
  cases (show u=Gf.ref a from rx);obtain⟨_,_,_,n,_,d⟩:=(show cQ X.prog X.w H s.heap a (.frz ob (.lst f))from I.hok a _ ea);exact W.kia_one W.kitx_list I.kIn ⟨_,d,U⟩ e (λz=>nomatch z) h
 | @tup a f ea =>
  cases (show u=Gf.ref a from rx);obtain⟨_,_,_,p⟩:=(show cQ X.prog X.w H s.heap a (.tup f)from I.hok a _ ea);obtain⟨o,d,g,_⟩:=p;exact W.kia_one W.kitx_tuple I.kIn ⟨o,d,g⟩ e (λz=>nomatch z) h
 | @dK a kvs ea =>
  cases (show u=Gf.ref a from rx);obtain⟨_,_,m,_,p⟩:=(show cQ X.prog X.w H s.heap a (.dK kvs)from I.hok a _ ea);obtain⟨o,k,l,d,g,_⟩:=p;exact W.kia_one W.kitx_dict I.kIn ⟨o,d,g.1⟩ e (λz=>nomatch z) h
 | @dT a kvs ea =>
  cases (show u=Gf.ref a from rx);obtain⟨_,_,f,_,o,k,l,d,g,_⟩:=(show cQ X.prog X.w H s.heap a (.dT kvs)from I.hok a _ ea);exact W.kia_one W.kitx_dict I.kIn ⟨o,d,g.1⟩ e (λz=>nomatch z) h
 | @ins a C dx fs ea cl ha hn htk hm =>
  cases (show u=Gf.ref a from rx);obtain⟨v,O,_⟩:=ly I.hok ea;obtain⟨r,J,_⟩:=O.look;exact W.kia_one (W.kitx_own (cl.get _) cl.hd ha hn htk hm) I.kIn J e (λz=>nomatch z) h
end
structure bR(k:Nat)(A:GO):Prop where
 hd:A.handled=Kc
 dp:A.depth+3*k+5<HJ
 un:A.units+16*k+200<HK
theorem bR.mono{j k:Nat}{A:GO}(r:bR k A)(h:j<=k):bR j A:=⟨r.hd,by have:=r.dp;lia,by have:=r.un;lia⟩
theorem bR.deeper{k:Nat}{A:GO}(r:bR (k+1) A)(a:Env):bR k (A.deeper a) :=
 ⟨r.hd,by have:=r.dp;show A.depth+1+3*k+5<_;lia,by have:=r.un;show A.units+3+16*k+200<_;lia⟩
theorem rT{A:GO}{C:GD}{us:List Gf}{a:List (Str×Gf)}:(A.under (.builtin "type.__call__" ⟨.ref C :: us,a⟩)).depth=A.depth+1:=by
 first|rfl|simp[GO.under,HL.weight,HL.isCreation,HL.isGuard,HL.isCaller,HL.frames,HL.isFrame,guardIds]
theorem rV{A:GO}{C:GD}{us:List Gf}{a:List (Str×Gf)}:(A.under (.builtin "type.__call__" ⟨.ref C :: us,a⟩)).units=A.units+1:=by
 first|rfl|simp[GO.under,HL.cUnits,HL.frames,HL.isFrame]
theorem bR.make{k:Nat}{A:GO}(r:bR (k+1) A)(C:GD)(us:List Gf)(a:List (Str×Gf)):bR k (A.under (.builtin "type.__call__" ⟨.ref C :: us,a⟩)) :=
 ⟨r.hd,by have:=r.dp;rw[rT];lia,by have:=r.un;rw[rV];lia⟩
theorem bR.depth{k:Nat}{A:GO}(r:bR k A):A.depth<HJ:=by have:=r.dp;lia
theorem bR.units{k:Nat}{A:GO}(r:bR k A):A.units+64<HK:=by have:=r.un;lia
def Ah:TA:=λ_ H Q=>Q [] H
def BB(ta:TE)(b:TA):TA:=λσ H Q=>ta σ H λx d=>b σ d λa c=>Q (x :: a) c
variable{es:List GW}{t:TA}
theorem ae:PA X [] Ah:=λ_ _ _ _ H Q I h=>Calls.spliced_nil ⟨[],H,I,.nil,h⟩
theorem aa(k:PE X e te)(j:PA X es t)(i:GZ (e :: es) X.env=(Ke,eval e X.env) :: GZ es X.env:=by rfl):PA X (e :: es) (BB te t):=by
 intro pos Kg s σ H Q I h;rw[i];show GU _ _ (spliced ((Ke,eval e X.env) :: GY pos (GZ es X.env))) _ _ s;refine Calls.spliced_cons (thn (k Kg s σ H _ I h) λu b ⟨x,o,m,d,g⟩=>?_);exact thn (j pos Kg b σ o _ m g) λp s2 ⟨a,n,l,c,f⟩=>⟨x :: a,n,l,.cons d c,f⟩
def Dc(t:TA):TE:=λσ H Q=>t σ H λa b=>a.length<=GH/\∀p,b p=Kc->Q (.ref p) (upd b p (.tup a))
def Dd(t:TA):TE:=λσ H Q=>t σ H λa b=>a.length<=GH/\∀p,b p=Kc->Q (.ref p) (upd b p (.lst a))
theorem aY{x1} (h:PA X es t):PE X (.Tuple es x1 pos) (Dc t):=by
 intro Kg s σ H Q I i;refine wpAny_Tuple_spliced (thn (h pos Kg s σ H _ I i) λg a ⟨f,d,c,r,z,q⟩=>⟨by rw[←r.length];exact z,?_⟩);have j:d a.heap.objs.size=none:=c.hok.fresh (yr _);refine⟨.ref a.heap.objs.size,upd d a.heap.objs.size (.tup f),c.laid (t':=a.toks) (λb u e=>GG.get?_push_of_some _ e) (yr _) ?_,U,q _ j⟩;exact⟨z,g,r,⟨_,GG.get?_push_size _ U,U,_,U⟩⟩
theorem aR(h:PA X es t):PE X (.List es pos) (Dd t):=by
 intro Kg s σ H Q I i;refine wpAny_List_spliced (thn (h pos Kg s σ H _ I i) λg a ⟨f,d,c,r,z,q⟩=>⟨by rw[←r.length];exact z,?_⟩);have j:d a.heap.objs.size=none:=c.hok.fresh (yr _);refine⟨.ref a.heap.objs.size,upd d a.heap.objs.size (.lst f),c.laid (t':=a.toks) (λb u e=>GG.get?_push_of_some _ e) (yr _) ?_,U,q _ j⟩;exact⟨z,g,0,r,GG.get?_push_size _ U⟩
abbrev Sp:=List V->Hp->VK->XK->Prop
abbrev CXT:=List Env->Hp->GP->XK->Gf->GP->Prop
structure qm(P:GC)(w:Gn)(K:W.Frag)(mg:Str->Option Gf)(base:GG)(A:GO)(outer:List Env)(s:GP)(H:Hp):Prop where
 frames:A.frames=Kb outer
 mod:Mod K mg base
 bs:∀b o,base.get? b=Kb o->s.heap.get? b=Kb o/\H b=Kc
 bsz:base.objs.size<=s.heap.objs.size
 funs:s.heap.FunFrames base outer
 frf:∀b∈frs outer,H b=Kc
 hok:HOk P w H s.heap
 bare:AllBare s.gens
def CE(a:List Env)(P:GC)(w:Gn)(H:Hp)(s:GP)(Q:VK)(u:Gf)(s':GP):Prop :=
 ∃v H',s'.os=s.os/\AllBare s'.gens/\Un (frs a) [] H H' s.heap s'.heap/\HOk P w H' s'.heap/\RelV v u/\Q v H'
def CR(CX:CXT)(a:List Env)(P:GC)(w:Gn)(H:Hp)(s:GP)(Q:VK)(E:XK)(r:HG)(s':GP):Prop :=
 match r with
 | .ok (.ret u)=>CE a P w H s Q u s'
 | .ok _=>False
 | .error e=>CX a H s E e s'
structure aK(P:GC)(w:Gn)(K:W.Frag)(mg:Str->Option Gf)(base:GG)(CX:CXT)(k:Nat)(f:GD)(fd:HM)(ps:List Str)(sp:Sp):Prop where
 len:∀vs H Q E,sp vs H Q E->vs.length=ps.length
 run:∀(A:GO)(outer:List Env)(s:GP)(H:Hp)(args:Args)(us:List Gf)(vs:List V)(Q:VK)(E:XK),bR k A->qm P w K mg base A outer s H->HN s fd args (ps.zip us)->Vals vs us->sp vs H Q E ->
  HH (model P w) A (.call (.ref f) args) (CR CX outer P w H s Q E) s
theorem aK.mono{P:GC}{w:Gn}{K:W.Frag}{d:Str->Option Gf}{a:GG}{CX:CXT}{j k:Nat}{f:GD}{e:HM}{ps:List Str}{sp:Sp}(F:aK P w K d a CX j f e ps sp)(h:j<=k) :
  aK P w K d a CX k f e ps sp:=⟨F.len,λA b s H c i g Q E l=>F.run A b s H c i g Q E (l.mono h)⟩
theorem qm.make{P:GC}{w:Gn}{K:W.Frag}{c:Str->Option Gf}{b:GG}{A:GO}{a:List Env}{s:GP}{H:Hp}(e:qm P w K c b A a s H)(C:GD)(us:List Gf)(d:List (Str×Gf)) :
  qm P w K c b (A.under (.builtin "type.__call__" ⟨.ref C :: us,d⟩)) a s H:=⟨by first|exact e.frames|(simpa[GO.under,HL.envs,HL.isFrame,pushEnvs]using e.frames),e.mod,e.bs,e.bsz,e.funs,e.frf,e.hok,e.bare⟩
section
variable{s':GP}
theorem Inv.env0(I:Inv X Kg σ H s):qm X.prog X.w X.K X.mg X.base X.A X.stack s H :=
 ⟨I.ok.frames,I.ok.mod,I.bs,yW I.ok.bsz I.sz,I.stack,I.stkFree,I.hok,I.bare⟩
theorem Inv.after{Q:VK}{u:Gf}(I:Inv X Kg σ H s)(h:CE X.stack X.prog X.w H s Q u s'):EP X Kg σ Q u s':=by
 obtain⟨v,H',os,a,un,hok,r,q⟩:=h;obtain⟨e,g,d,t,c⟩:=s';obtain rfl:c=s.os:=os;exact⟨v,H',I.call (h':=e) (g':=g) (d':=d) (t':=t) (ch:=[]) un hok a (λb z=>Kk z (by simp)),r,q⟩
end
def BC(sp:Sp)(dvs:List V)(E:XK)(t:TA):TE:=λσ H Q=>t σ H λa b=>sp (a++dvs) b Q E
def zo(C:GD)(sp:Sp)(dvs:List V)(E:XK)(t:TA):TE:=λσ H Q=>t σ H λb a=>∀x dx,a x=Kc->a dx=Kc->dx≠x ->
 sp (.ref x :: (b++dvs)) (upd (upd a dx (.own x)) x (.ins C dx [])) (λv c=>v=.non/\Q (.ref x) c) E
def Binds(K:W.Frag)(b:HM)(ps:List Str)(ds:List Gf):Prop :=
 ∀(s:GP)(a:List Gf),K.In s.heap->(a++ds).length=ps.length->HN s b ⟨a,[]⟩ (ps.zip (a++ds))
theorem Binds.all{K:W.Frag}{b:HM}{ps:List Str}(h:∀us:List Gf,us.length=ps.length->HP b ⟨us,[]⟩=pure (ps.zip us)):Binds K b ps []:=λs us _ a=>by
 rw[jv]at a⊢;exact .of_eq (h us a)
def Passes(CX:CXT)(X:Cx)(E:XK):Prop:=∀(Kg:List (GD×Obj))(σ:St)(H:Hp)(s:GP)(e:Gf)(a:GP),Inv X Kg σ H s->CX X.stack H s E e a->X.xe e a
variable{p:Pos}
section
variable{CX:CXT}{k:Nat}{fd:HM}{ps:List Str}{sp:Sp}{dvs:List V}{ds:List Gf}{E:XK}{x m:Str}{apos:Pos}
theorem pq{Kg:List (GD×Obj)}{σ:St}{H:Hp}{s:GP}{Q:VK}{us:List Gf}{vs:List V}(F:aK X.prog X.w X.K X.mg X.base CX k f fd ps sp)(g:bR k X.A)(l:Binds X.K fd ps ds)(j:Vals dvs ds)(d:Passes CX X E)
  (I:Inv X Kg σ H s)(r:Vals vs us)(h:sp (vs++dvs) H Q E):GU (model X.prog X.w) X.A (call (.ref f) us) (EP X Kg σ Q) X.xe s:=by
 have b:Vals (vs++dvs) (us++ds):=r.append j;have i:(us++ds).length=ps.length:=by rw[←b.length];exact F.len _ _ _ _ h
 refine HQ (HR (F.run X.A X.stack s H ⟨us,[]⟩ (us++ds) (vs++dvs) Q E g I.env0 (l s us I.kIn i) b h) λr c a=>?_);cases r with
 |error e=>exact d Kg σ H s e c I a
 |ok fl =>
  cases fl with
  |ret u=>exact I.after a
  |next=>exact False.elim a
  |brk=>exact False.elim a
  |cont=>exact False.elim a
theorem yk(F:aK X.prog X.w X.K X.mg X.base CX k f fd ps sp)(g:bR k X.A)(l:Gl X x)(i:X.mg x=Kb (.ref f))(j:W.keepIn X.K (.ref f)=Kd)(n:Binds X.K fd ps ds)(m:Vals dvs ds)(d:Passes CX X E)
  (o:PA X (e :: es) t)(b:(x == ("__debug__" : Str))=false:=by decide) (he:GZ (e :: es) X.env=(Ke,eval e X.env) :: GZ es X.env:=by rfl)(a:(GY pos (GZ es X.env)).any (·.1)=false:=by rfl) :
  PE X (.Call (.Name x p) (e :: es) [] pos) (BC sp dvs E t):=by
 intro Kg s σ H Q I h;refine F8 (gk I l i ?_ b);refine W.callWith_K (h₀:=X.base) I.ok.mod.kin j (thn (o pos Kg s σ H _ I h) λv y ⟨u,z,c,r,q⟩=>⟨c.kIn,?_⟩) he a;exact pq F g n m d c r q
structure Mk(K:W.Frag)(C f:GD):Prop where
 makes:W.makesIn K C=Kd
 init:W.findIn K (.ref C) "__init__" = Kb (Kb (.ref f))
 fn:W.isFn K (.ref f)=Kd
 kp:W.keepIn K (.ref C)=Kd
theorem qo{Kg:List (GD×Obj)}{σ:St}{H:Hp}{s:GP}{Q:VK}{us:List Gf}{vs:List V}(M:Mk X.K C f)(F:aK X.prog X.w X.K X.mg X.base CX k f fd ps sp)(m:bR (k+1) X.A)(p:Binds X.K fd ps ds)(o:Vals dvs ds)
  (l:Passes CX X E)(I:Inv X Kg σ H s)(r:Vals vs us)
  (h:∀x dx,H x=Kc->H dx=Kc->dx≠x->sp (.ref x :: (vs++dvs)) (upd (upd H dx (.own x)) x (.ins C dx [])) (λv y=>v=.non/\Q (.ref x) y) E) :
  GU (model X.prog X.w) X.A (call (.ref C) us) (EP X Kg σ Q) X.xe s:=by
 have d:=h (s.heap.objs.size+1) s.heap.objs.size (I.hok.fresh (zd _)) (I.hok.fresh (yr _)) (yv (zg _));have b:=Inv.made (C:=C) I;have c:Vals (V.ref (s.heap.objs.size+1) :: (vs++dvs)) (Gf.ref (s.heap.objs.size+1) :: (us++ds)):=.cons U (r.append o);have n:(Gf.ref (s.heap.objs.size+1) :: us++ds).length=ps.length:=by
  have e:=c.length;rw[F.len _ _ _ _ d]at e;exact e.symm
 refine HQ (wb (f:=f) I.kIn M.makes M.init (beq_iff_eq.mp M.fn) (HR (F.run _ X.stack _ _ ⟨Gf.ref (s.heap.objs.size+1) :: us,[]⟩ (Gf.ref (s.heap.objs.size+1) :: (us++ds)) _ _ E (m.make C us [])
  (b.env0.make C us []) (p _ (Gf.ref (s.heap.objs.size+1) :: us) b.kIn n) c d) λr g a=>?_))
 cases r with
 |error e=>exact l Kg σ _ _ e g b a
 |ok fl =>
  cases fl with
  |ret u =>
   obtain⟨v,H',t,i,q,j⟩:=b.after a;subst q;exact⟨i,⟨V.ref (s.heap.objs.size+1),H',t,U,j⟩⟩
  |next=>exact False.elim a
  |brk=>exact False.elim a
  |cont=>exact False.elim a
theorem ym(M:Mk X.K C f)(F:aK X.prog X.w X.K X.mg X.base CX k f fd ps sp)(g:bR (k+1) X.A)(j:Gl X x)(i:X.mg x=Kb (.ref C))(m:Binds X.K fd ps ds)(l:Vals dvs ds)(d:Passes CX X E)
  (n:PA X (e :: es) t)(b:(x == ("__debug__" : Str))=false:=by decide) (he:GZ (e :: es) X.env=(Ke,eval e X.env) :: GZ es X.env:=by rfl)(a:(GY pos (GZ es X.env)).any (·.1)=false:=by rfl) :
  PE X (.Call (.Name x p) (e :: es) [] pos) (zo C sp dvs E t):=by
 intro Kg s σ H Q I h;refine F8 (gk I j i ?_ b);refine W.callWith_K (h₀:=X.base) I.ok.mod.kin M.kp (thn (n pos Kg s σ H _ I h) λu v ⟨o,y,c,r,q⟩=>⟨c.kIn,?_⟩) he a;exact qo M F g m l d c r q
theorem wc(M:Mk X.K C f)(F:aK X.prog X.w X.K X.mg X.base CX k f fd ps sp)(c:bR (k+1) X.A)(e:Gl X x)(d:X.mg x=Kb (.ref C))(i:Binds X.K fd ps ds)(g:Vals dvs ds)(b:Passes CX X E)
  (a:(x == ("__debug__" : Str))=false:=by decide):PE X (.Call (.Name x p) [] [] pos) (zo C sp dvs E Ah):=by
 intro Kg s σ H Q I h;refine F8 (gk I e d ?_ a);exact W.callWith_K0 I.kIn M.kp (qo (us:=[]) M F c i g b I .nil h)
end
section
variable{CX:CXT}{k:Nat}{fd:HM}{ps ks:List Str}{sp:Sp}{E:XK}{x m:Str}{apos Ge:Pos}{kws:List Keyword}{tk:TA}{nm:Option Str}
structure De(K:W.Frag)(fd:HM)(ps ks:List Str)(g:List Gf->List Gf->List Gf)(gV:List V->List V->List V):Prop where
 to:∀(s:GP)(us ws:List Gf),K.In s.heap->(g us ws).length=ps.length->HN s fd ⟨us,ks.zip ws⟩ (ps.zip (g us ws))
 rel:∀{vs:List V}{us:List Gf}{zs:List V}{ws:List Gf},Vals vs us->Vals zs ws->Vals (gV vs zs) (g us ws)
variable{g:List Gf->List Gf->List Gf}{gV:List V->List V->List V}
end
structure aq(N P:List Str)(sc:GQ):Prop where
 kind:sc.kind=.function
 co:sc.isCoroutine=Ke
 gen:sc.isGenerator=Ke
 nd:N.Nodup
 pre:N.take P.length=P
 par:∀x∈P,sc.names.lookup x=Kb .local\/sc.names.lookup x=Kb .cell
 nofree:∀y∈sc.names,y.2≠.free
theorem ot{a:Str->Option HS}{x:Str}:∀{binds:List (Str×Gf)}{m:Str->Option Gf},(∀v,(x,v) ∉ binds)->HU a binds m x=m x
 | [],_,_=>rfl
 |(n,v) :: r,m,h=>by
  unfold HU;rw[ot λw b=>h w (iO _ b)];split
  .have:x≠n:=by rintro rfl;exact h v ff
   simp[this]
  .rfl
theorem ow{a:Str->Option HS}{x:Str}:∀{binds:List (Str×Gf)}{m:Str->Option Gf},(∀v,(x,v) ∉ binds)->HV a binds m x=m x
 | [],_,_=>rfl
 |(n,v) :: r,m,h=>by
  unfold HV;rw[ow λw b=>h w (iO _ b)];split
  .rfl
  .have:x≠n:=by rintro rfl;exact h v ff
   simp[this]
theorem ox{a:Str->Option HS}{x:Str}{v:Gf}:∀{P:List Str}{vs:List Gf}{i:Nat}{m:Str->Option Gf},P.Nodup->P[i]?=Kb x->vs[i]?=Kb v->a x=Kb .local ->
  HU a (P.zip vs) m x=Kb v
 | [],_,_,_,_,h,_,_=>by simp at h
 |_ :: _,[],_,_,_,_,h,_=>by simp at h
 |p :: P,w :: vs,0,m,nd,h1,h2,hk=>by
  simp at h1 h2;subst h1;subst h2;show HU a ((p,w) :: P.zip vs) m p=_;unfold HU;rw[ot λv b=>(nt.mp nd).1 (tw b).1,Kj hk];simp
 |p :: P,w :: vs,i+1,m,nd,h1,h2,hk=>by
  show HU a ((p,w) :: P.zip vs) m x=_;unfold HU;exact ox (i:=i) (nt.mp nd).2 (by simpa using h1) (by simpa using h2) hk
theorem oy{a:Str->Option HS}{x:Str}{v:Gf}:∀{P:List Str}{vs:List Gf}{i:Nat}{m:Str->Option Gf},P.Nodup->P[i]?=Kb x->vs[i]?=Kb v->a x≠Kb .local ->
  HV a (P.zip vs) m x=Kb v
 | [],_,_,_,_,h,_,_=>by simp at h
 |_ :: _,[],_,_,_,_,h,_=>by simp at h
 |p :: P,w :: vs,0,m,nd,h1,h2,hk=>by
  simp at h1 h2;subst h1;subst h2;show HV a ((p,w) :: P.zip vs) m p=_;unfold HV;rw[ow λv b=>(nt.mp nd).1 (tw b).1,Ki hk];simp
 |p :: P,w :: vs,i+1,m,nd,h1,h2,hk=>by
  show HV a ((p,w) :: P.zip vs) m x=_;unfold HV;exact oy (i:=i) (nt.mp nd).2 (by simpa using h1) (by simpa using h2) hk
def start(N:List Str)(vs:List V):St:=vs.map Kb++List.replicate (N.length-vs.length) Kc
def qp(CX:CXT)(P:GC)(w:Gn)(K:W.Frag)(mg:Str->Option Gf)(base:GG)(N:List Str)(qual:Str)(scope:GQ)(f:GD)(b:Gf)(A:GO)(outer:List Env)(s:GP)(H:Hp)(E:XK):Cx where
 prog:=P
 w:=w
 K:=K
 mg:=mg
 base:=base
 A:=A.deeper (envOfC qual scope s.heap.objs.size f b)
 N:=N
 s₀:=s
 H₀:=H
 env:=envOfC qual scope s.heap.objs.size f b
 outer:=outer
 stack:=envOfC qual scope s.heap.objs.size f b :: outer
 ex:=[]
 calm:=Kd
 fn:=λ_=>Kd
 pn:=[]
 xe:=λe c=>GU (model P w) (A.deeper (envOfC qual scope s.heap.objs.size f b)) (leaving (envOfC qual scope s.heap.objs.size f b) e) (λ_ a=>CX outer H s E e a) (λd a=>CX outer H s E d a) c
theorem qr{a:GQ}{n:Nat}{x:Str}(h:a.names.lookup x=Kb .cell):∃c,(HW n a.names []).lookup x=Kb c:=by
 have q:=W.cellsFrom_some a.names n [] (.inl h);exact DL.mp q
theorem uL{CX:CXT}{P:GC}{w:Gn}{K:W.Frag}{F:Str->Option Gf}{j:GG}{N ps:List Str}{qual:Str}{scope:GQ}{f:GD}{D:Gf}{A:GO}{d:List Env}{s G:GP}{H:Hp}{E:XK}{us:List Gf}{vs:List V}
  (S:aq N ps scope)(M:A.handled=Kc)(l:qm P w K F j A d s H)(T:vs.length=ps.length)(r:Vals vs us)
  (x:InCallC s s.heap.objs.size (HU (envOfC qual scope s.heap.objs.size f D).kindOf (ps.zip us) λ_=>Kc) (HW (s.heap.objs.size+1) scope.names []) (HV (envOfC qual scope s.heap.objs.size f D).kindOf (ps.zip us) λ_=>Kc) G) :
  Inv (qp CX P w K F j N qual scope f D A d s H E) [] (start N vs) H G:=by
 have Q:ps.length<=N.length:=by have:=Ko List.length S.pre;rw[ik]at this;lia
 obtain⟨C,R,rfl,J⟩:=x.done;have o:∀b:GD,b ∉ (qp CX P w K F j N qual scope f D A d s H E).ex:=λb z=>Kk (show b∈([]:List GD)from z) (by simp)
 refine⟨⟨l.mod,S.kind,U,U,yr _,λy z c C g=>?_,λy m=>?_,λy c _ h=>?_,λ_=>M,GO.frames_deeper l.frames,.inr ⟨U,U⟩,λb z=>Kk z (o b),l.bs,l.bsz,λb _ _=>o b,λb z=>Kk z (o b),l.funs,l.frf⟩,
  rfl,l.bare,Un.kept J,⟨_,x.toInCall.ns,λi y v C g X=>?_⟩,λy c h=>⟨_,x.cell y c h⟩,l.hok.fresh (yr _),λy c h=>?_,λp t=>Kk (show p∈([]:List (GD×Obj))from t) (by simp),l.hok.kept J,?_⟩
 .exact name_of_addr x.apart (mem_of_lookup C) (mem_of_lookup g)
 .have m:scope.names.lookup y=Kb .cell\/scope.names.lookup y=Kb .free:=m;rcases m with m|m
  .exact qr m
  .exact Kk U (S.nofree _ (mem_of_lookup m))
 .exact zf (x.above y c (mem_of_lookup h))
 .have hi:i<vs.length:=by
   unfold start at g;by_cases hi:i<vs.length
   .exact hi
   .rw[ll (by simpa using hi)]at g;rw[List.getElem?_replicate]at g;split at g <;> cases g
  have O:vs[i]?=Kb v:=by
   unfold start at g;rw[iP (by simpa using hi),gI]at g;cases e:vs[i]? with
   |none=>rw[e]at g;cases g
   |some a=>rw[e]at g;cases g;rfl
  obtain⟨u,I,L⟩:=r.get O;have t:ps[i]?=Kb y:=by
   rw[←S.pre,List.getElem?_take_of_lt (by lia)];exact C
  have B:ps.Nodup:=by rw[←S.pre];exact S.nd.sublist (vf _ _)
  refine⟨u,L,?_⟩;rcases S.par y (GB t)with k|k
  .exact .inl ⟨k,ox B t I k⟩
  .obtain⟨c,e⟩:=qr (n:=s.heap.objs.size+1) k;refine .inr ⟨.inl k,c,e,?_⟩;have q:=x.cell y c e;rw[oy B t I (by show scope.names.lookup y≠_;rw[k];decide)]at q;exact q
 .exact l.hok.fresh (zf (x.above y c (mem_of_lookup h)))
 .unfold start;show _=N.length;rw[cK,bx,lq];lia
theorem zp{CX:CXT}{P:GC}{w:Gn}{K:W.Frag}{l:Str->Option Gf}{base:GG}{k:Nat}{f:GD}{name qual:Str}{params:HX}{body:List G5}{scope:GQ}{G kV doc pm c L Y:Gf}{M X:Option GD}
  {B:Array (Option Gf)}{N ps:List Str}{sp:Sp}(Z:K.lookup f=Kb ⟨Y,X,.func (W.fnOf name qual params body scope G kV doc pm M c L),B⟩)(D:W.codeIn K c qual=Kd)(S:aq N ps scope)
  (len:∀vs H Q E,sp vs H Q E->vs.length=ps.length)
  (gP:∀(A:GO)(a:List Env)(s:GP)(H:Hp)(vs:List V)(Q:VK)(E:XK),bR k (A.deeper (envOfC qual scope s.heap.objs.size f c))->sp vs H Q E ->
   ∃t,PSs (qp CX P w K l base N qual scope f c A a s H E) body t/\t { nx:=λ_ H'=>Q .non H',rt:=Q } (start N vs) H) :
  aK P w K l base CX (k+1) f (W.fnOf name qual params body scope G kV doc pm M c L) ps sp:=by
 refine⟨len,λA a s H R T vs Q E z h hb r i=>?_⟩;have hl:=len _ _ _ _ i;have O:K.In s.heap:=h.mod.kin.keeps λb o e=>(h.bs b o e).1
 have C:s.heap.NoLimit:=h.mod.nolimit.keeps λb o e=>(h.bs b o e).1
 have BD:∀y∈ps.zip T,scope.names.lookup y.1=Kb .local\/(scope.names.lookup y.1=Kb .cell/\((HW (s.heap.objs.size+1) scope.names []).lookup y.1).isSome=Kd):=λ⟨n,v⟩ hy=>by
  rcases S.par n (tw hy).1 with q|q
  .exact .inl q
  .exact .inr ⟨q,W.cellsFrom_some _ _ _ (.inl q)⟩
 refine codeAny_call_function z.depth (O _ _ Z) U S.co S.gen U (W.codeRec_of O D) (hb _ _ _ _ ?_);refine wpAny_newFunctionEnv_cells S.kind BD λa0 he F x=>?_
 subst he;refine⟨C.keeps x.toInCall.keep,codeAny_func ?_⟩;obtain⟨t,ht,hq⟩:=gP A a s H vs Q E (z.deeper _) i;have I:Inv (qp CX P w K l base N qual scope f c A a s H E) [] (start N vs) H F:=uL S z.hd h hl r x;refine G6 (ht [] F (start N vs) H _ I hq) (λfl m g=>?_) λe m g=>g
 have j:∀{d:St}{H':Hp}{v:V}{u:Gf},Inv (qp CX P w K l base N qual scope f c A a s H E) [] d H' m->RelV v u->Q v H'->CE a P w H s Q u m :=
  λ{d H' v u} J p q=>⟨v,H',J.os,J.bare,J.base,J.hok,p,q⟩
 cases fl with
 |ret u =>
  obtain⟨v,d,H',J,p,q⟩:=g;exact j J p q
 |next =>
  obtain⟨d,H',J,q⟩:=g;exact j (v:=V.non) (u:=Gf.none) J U q
 |brk =>
  obtain⟨_,_,_,q⟩:=g;exact False.elim q
 |cont =>
  obtain⟨_,_,_,q⟩:=g;exact False.elim q
section
variable{x:Str}{id T:String}{r:List V->Hp->VK->Prop}
def tCB(r:List V->Hp->VK->Prop)(t:TA):TE:=λσ H Q=>t σ H λa b=>r a b Q
theorem av(n:dn X (.builtin id) r)(m:Gl X x)(l:X.mg x=Kc)(j:GN x=Kb (.builtin id))(o:PA X (e :: es) t)(k:x ≠ "__name__" := by decide) (b:(x == ("__debug__" : Str))=false:=by decide)
  (he:GZ (e :: es) X.env=(Ke,eval e X.env) :: GZ es X.env:=by rfl)(a:(GY pos (GZ es X.env)).any (·.1)=false:=by rfl):PE X (.Call (.Name x p) (e :: es) [] pos) (tCB r t):=by
 intro Kg s σ H Q I h;refine F8 (eP I m l j ?_ k b);exact PyProof.Rows.callWith_builtin1 (thn (o pos Kg s σ H _ I h) λd f ⟨c,u,q,g,i⟩=>n Kg f σ u c d Q q g i) he a
theorem bB(n:dn X (.type T) r)(m:Gl X x)(l:X.mg x=Kc)(j:GN x=Kb (.type T))(o:PA X (e :: es) t)(k:x ≠ "__name__" := by decide) (b:(x == ("__debug__" : Str))=false:=by decide)
  (he:GZ (e :: es) X.env=(Ke,eval e X.env) :: GZ es X.env:=by rfl)(a:(GY pos (GZ es X.env)).any (·.1)=false:=by rfl):PE X (.Call (.Name x p) (e :: es) [] pos) (tCB r t):=by
 intro Kg s σ H Q I h;refine F8 (eP I m l j ?_ k b);exact PyProof.Rows.callWith_type1 (thn (o pos Kg s σ H _ I h) λd f ⟨c,u,q,g,i⟩=>n Kg f σ u c d Q q g i) he a
end
end L2
namespace HT
open PySem PyProof.Rows
section
open PySem.SeqAt
open PySem.AutoSeq1 (wpAny_loadPart')
open PySem.MeetsSeq PySem.MeetsSeq2 PySem.MeetsSeq3
end
section
variable{prog:GC}{w:Gn}{A:GO}{E:Gf->GP->Prop}{s:GP}
theorem cat_tup{t b:GD}{vs ws:List Gf}{Q:Gf->GP->Prop}(r:IsTup s.heap t vs.toArray)(u:IsTup s.heap b ws.toArray)(o:vs≠[])
  (x:ws=[]->Q (.ref t) s)(v:ws≠[]->Q (.ref s.heap.objs.size) { s with heap:=s.heap.push { cls:=.type "tuple",data:=.seq (vs++ws).toArray } })
  (j:vs.length+ws.length<=GH):GU (model prog w) A (Hz .Add (.ref t) (.ref b)) Q E s:=by
 obtain⟨⟨cls,dd,data,l⟩,i,q,n,p⟩:=id r;obtain⟨⟨y,g,k,c⟩,a,f,m,d⟩:=id u;simp only at q p f d;subst q p f d;have e:vs.toArray++ws.toArray=(vs++ws).toArray:=by simp
 by_cases h:ws=[]
 .exact HY ⟨_,i,rfl⟩ ⟨_,a,rfl⟩ HZ Ia PySem.F.slot_tuple_add PySem.F.entry_tuple_add (PySem.F.args_tuple_add_2 _ _)
   (tuple_addW1 t b vs.toArray ws.toArray n m dd g l c (by simpa using o) (by simp[h])) ⟨i,a,x h⟩
 .refine HY ⟨_,i,rfl⟩ ⟨_,a,rfl⟩ HZ Ia PySem.F.slot_tuple_add PySem.F.entry_tuple_add (PySem.F.args_tuple_add_2 _ _)
   (tuple_addW2 t b vs.toArray ws.toArray n m dd g l c (by simpa using o) (by simpa using h) (by rw[dV,dV];exact j)) ⟨i,a,?_⟩
  rw[e];exact v h
def sIx(n d:Nat):Option Int->Nat
 |none=>d
 |some v=>if v<0 then(v+(n:Int)).toNat else min v.toNat n
end
end HT
namespace L2
open PySem PySem.Spec PyProof.Rows
abbrev TO:=St->Hp->(Option Int->Hp->Prop)->Prop
def PO(X:Cx)(e:Option GW)(t:TO):Prop :=
 ∀(a:List (GD×Obj))(s:GP)(b:St)(H:Hp)(Q:Option Int->Hp->Prop),Inv X a b H s->t b H Q ->
  GU (model X.prog X.w) X.A (evalPart e X.env) (λu d=>∃o c,Inv X a b c d/\Ib u o/\Q o c) X.xe s
def yn:TO:=λ_ H Q=>Q Kc H
inductive we  (Q:Option Int->Hp->Prop)(x:V)(H1:Hp):Prop
 |mk (i:_)(_:x=.int i)(_:Q (Kb i) H1):we Q x H1
def BE(t:TE):TO:=λa H Q=>t a H λx b=>we Q x b
variable{X:Cx}
section
variable{e:GW}{te:TE}{lo hi:Option GW}{tl th:TO}{pos p2:Pos}
theorem cY:PO X Kc yn:=by
 intro a s b H Q I h;rw[Ic];exact D0 ⟨Kc,H,I,.none,h⟩
theorem cZ(h:PE X e te):PO X (Kb e) (BE te):=by
 intro a s b H Q I f;rw[evalPart_some];refine thn (h a s b H _ I f) λu k ⟨x,j,g,c,d⟩=>?_
 obtain⟨i,rfl,q⟩:=d;obtain⟨t,rfl⟩:=c;exact⟨Kb i,j,g,.int i t,q⟩
def SlR(X:Cx)(r:V->Option Int->Option Int->Hp->VK->Prop):Prop :=
 ∀(a:List (GD×Obj))(s:GP)(b:St)(H:Hp)(x:V)(v d c:Gf)(lo hi:Option Int)(e:GD)(Q:VK),Inv X a b H s->RelV x v->s.heap.IsSliceOf e d c .none->Ib d lo->Ib c hi->r x lo hi H Q ->
  ∃T f,Ie (.type T) "__getitem__" = pure (Kb (.builtin f))/\s.TypeIs v T/\GU (model X.prog X.w) X.A (getItem v (.ref e)) (EP X a b Q) X.xe s
def tSl(r:V->Option Int->Option Int->Hp->VK->Prop)(te:TE)(tl th:TO):TE:=λa H Q=>te a H λx d=>tl a d λl c=>th a c λu b=>r x l u b Q
theorem cq{r:V->Option Int->Option Int->Hp->VK->Prop}(B:SlR X r)(E:PE X e te)(C:PO X lo tl)(y:PO X hi th):PE X (.Subscript e (.Slice lo hi Kc p2) pos) (tSl r te tl th):=by
 intro a s d H Q I h;refine Subscript_ (thn (E a s d H _ I h) λv j ⟨x,N,L,k,o⟩=>?_);refine wpAny_Slice (thn (C a j d N _ L o) λg s2 ⟨l,M,K,t,n⟩=>thn (y a s2 d M _ K n) λf c ⟨u,i,J,p,m⟩=>?_);rw[Ic];refine D0 ?_;have G:Inv X a d i { c with heap:=c.heap.push { cls:=.type "slice",data:=.fields #[g,f,.none] } }:=J.kept (t':=c.toks) λb O q=>GG.get?_push_of_some _ q
 obtain⟨T,P,F,z,D⟩:=B a { c with heap:=c.heap.push { cls:=.type "slice",data:=.fields #[g,f,.none] } } d i x v g f l u c.heap.objs.size Q G k (GG.IsSliceOf.new ..) t p m;show GU (model X.prog X.w) X.A (subscriptTail e (.Slice lo hi Kc p2) v (.ref c.heap.objs.size)) (EP X a d Q) X.xe { c with heap:=c.heap.push { cls:=.type "slice",data:=.fields #[g,f,.none] } };exact tail_any (ops:=[.ref c.heap.objs.size,v]) z F D (by with_unfolding_all rfl)
def jQ(xs:List V)(lo hi:Option Int):List V:=(xs.drop (HT.sIx xs.length 0 lo)).take (HT.sIx xs.length xs.length hi-HT.sIx xs.length 0 lo)
theorem qt(xs:List V)(lo hi:Option Int):(jQ xs lo hi).length<=xs.length:=by
 unfold jQ;rw[ik,jB];lia
inductive zq(K:W.Frag)(x:V)(y:V)(H:Hp)(Q:VK):Prop
 |mk (a b xs ys:_)(_:x=.ref a)(_:y=.ref b)(_:SqT K H a xs)(_:SqT K H b ys)(_:xs≠[])(_:xs.length+ys.length<=GH)(_:(ys=[]->Q (.ref a) H))(_:(ys≠[]->∀p,H p=Kc->Q (.ref p) (upd H p (.tup (xs++ys)))))
theorem Vals.nil_iff{xs:List V}{us:List Gf}(r:Vals xs us):us=[]↔xs=[]:=by
 cases r with
 |nil=>simp
 |cons _ _=>simp
theorem yp:OpR X (Hz .Add) (zq X.K):=by
 intro f s B H x y v u Q I k j h;obtain⟨a,b,i,g,rfl,rfl,t,r,p,e,m,l⟩:=h;cases k;cases j;obtain⟨A,d,n,_⟩:=I.tuple t;obtain⟨D,c,p2,_⟩:=I.tuple r;refine HT.cat_tup n p2 (λz=>p (d.nil_iff.mp z)) (λz=>⟨.ref a,H,I,U,m (c.nil_iff.mp z)⟩) (λz=>?_) (by rw[←d.length,←c.length];exact e);refine⟨.ref s.heap.objs.size,_,I.laid (t':=s.toks) (o:=.tup (i++g)) (λb C q=>GG.get?_push_of_some _ q) (yr _) ?_,U,l (λw=>z (c.nil_iff.mpr w)) _ (I.hok.fresh (yr _))⟩;exact⟨by rw[cK];exact e,_,d.append c,IsTup.new _ _⟩
end
def ixN(n:Nat)(i:Int):Option Nat:=if 0<=i then(if i<n then Kb i.toNat else Kc)else if -(n:Int)<=i then Kb (i+n).toNat else Kc
def atI{α:Type}(xs:List α)(i:Int):Option α:=(ixN xs.length i).bind λj=>xs[j]?
theorem uc{n:Nat}{i:Int}{j:Nat}(h:ixN n i=Kb j):seqIndex? i n=Kb j/\j<n/\-(n:Int)<=i/\i<n:=by
 unfold ixN at h;by_cases b:0<=i
 .rw[Kj b]at h;by_cases a:i<n
  .rw[Kj a]at h;have e:i.toNat=j:=Option.some.inj h;exact⟨by rw[Ig b a,e],by lia,by lia,a⟩
  .rw[Ki a]at h;cases h
 .rw[Ki b]at h;by_cases a : -(n:Int)<=i
  .rw[Kj a]at h;have e:(i+n).toNat=j:=Option.some.inj h;exact⟨by rw[seqIndex_neg (by lia) a,e],by lia,a,by lia⟩
  .rw[Ki a]at h;cases h
theorem pA{α:Type}{xs:List α}{i:Int}{v:α}(h:atI xs i=Kb v):∃j,seqIndex? i xs.length=Kb j/\xs[j]?=Kb v/\j<xs.length/\-(xs.length:Int)<=i/\i<xs.length:=by
 unfold atI at h;cases e:ixN xs.length i with
 |none=>rw[e]at h;cases h
 |some j =>
  rw[e]at h;obtain⟨d,c,b,a⟩:=uc e;exact⟨j,d,h,c,b,a⟩
theorem aS{α:Type}{xs:List α}{j:Nat}{v:α}(h:xs[j]?=Kb v):atI xs (j:Int)=Kb v:=by
 have a:j<xs.length:=(Gz.mp h).1;have e:ixN xs.length (j:Int)=Kb j:=by
  unfold ixN;rw[Kj (by lia),Kj (by lia)];simp
 unfold atI;rw[e];exact h
theorem jR{α:Type}(xs:List α)(v:α):atI (xs++[v]) (-1)=Kb v:=by
 have a:(xs++[v]).length=xs.length+1:=by simp
 have e:ixN (xs++[v]).length (-1)=Kb xs.length:=by
  unfold ixN;rw[a,Ki (by decide),Kj (by lia)]
  congr 1
  lia
 unfold atI;rw[e];show(xs++[v])[xs.length]?=Kb v;simp
def yq(b:GW):Prop:=∀o i,subscripted b Ke o i=operate [o,i] (getItem o i)
def IxR(X:Cx)(r:R2):Prop :=
 ∀(c a:GW)(b:List (GD×Obj))(s:GP)(d:St)(H:Hp)(x y:V)(v u:Gf)(Q:VK),Inv X b d H s->RelV x v->RelV y u->r x y H Q ->
  subscripted a Ke v u=operate [v,u] (getItem v u)->GU (model X.prog X.w) X.A (subscriptTail c a v u) (EP X b d Q) X.xe s
def MtR(X:Cx)(e:String)(r:V->List V->Hp->VK->Prop):Prop :=
 ∀(a:List (GD×Obj))(s:GP)(b:St)(H:Hp)(x:V)(c:List V)(v:Gf)(d:List Gf)(Q:VK),Inv X a b H s->RelV x v->Vals c d->r x c H Q ->
  GU (model X.prog X.w) X.A (call (.builtin e) (v :: d)) (EP X a b Q) X.xe s
section
variable{a b:GW}{ta tb:TE}{pos:Pos}
theorem aF{r:R2}(i:IxR X r)(k:PE X a ta)(j:PE X b tb)(g:yq b):PE X (.Subscript a b pos) (tOp r ta tb):=by
 intro c s d H Q I h;exact Subscript_ (zZ k j I h λv u s2 x y m l f e q=>i a b c s2 d m x y v u Q l f e q (g _ _))
inductive Ai(K:W.Frag)(x:V)(y:V)(H:Hp)(Q:VK):Prop
 |mk (p xs i v:_)(_:x=.ref p)(_:y=.int i)(_:SqL K H p xs)(_:atI xs i=Kb v)(_:Q v H)
inductive Aj(K:W.Frag)(x:V)(y:V)(H:Hp)(Q:VK):Prop
 |mk (p xs i v:_)(_:x=.ref p)(_:y=.int i)(_:SqT K H p xs)(_:atI xs i=Kb v)(_:Q v H)
inductive BG  (x:V)(y:V)(H:Hp)(Q:VK):Prop
 |mk (z i c:_)(_:x=.str z)(_:y=.int i)(_:z.length<=GH)(_:atI z.cps.toList i=Kb c)(_:Q (.str ⟨#[c]⟩) H):BG x y H Q
theorem aG:IxR X (Ai X.K):=by
 intro k l a s m H x y v u Q I D C h n;obtain⟨p,N,i,z,rfl,rfl,E,G,q⟩:=h;cases D;obtain⟨t,rfl⟩:=C;obtain⟨g,r,d,O⟩:=I.list E;obtain⟨j,c,M,R,L,J⟩:=pA G;obtain⟨w,A,f⟩:=r.get M;have F:=r.length;have P:=jb;have b:EP X a m Q w s:=⟨z,H,I,f,q⟩;by_cases o:0<=i
 .have e:i.toNat=j:=by
   rw[Ig o J]at c;exact Option.some.inj c
  exact item_listR d.isList o (by lia) (by rw[e];simpa using A) b n
 .have e:(i+(g.toArray.size:Int)).toNat=j:=by
   rw[seqIndex_neg (by lia) L]at c;rw[dV,←F];exact Option.some.inj c
  exact subscriptTail_builtinR (x:=w) d.isList.typeIs Ih.lookup
   (wpAny_getItem_list_neg (Q:=λr B=>r=w/\EP X a m Q r B) d.isList (by lia) (by rw[dV] <;> lia) (by lia) (by rw[e];simpa using A) ⟨U,b⟩) n
theorem bc:IxR X (Aj X.K):=by
 intro d e a s f H x y v u Q I m l h n;obtain⟨p,G,i,z,rfl,rfl,o,B,q⟩:=h;cases m;obtain⟨t,rfl⟩:=l;obtain⟨F,r,g,J⟩:=I.tuple o;obtain⟨j,D,C,O,N,M⟩:=pA B;obtain⟨w,E,b⟩:=r.get C;have A:=r.length;have L:=jb;have c:EP X a f Q w s:=⟨z,H,I,b,q⟩
 exact subscriptTail_builtinR (x:=w) g.typeIs slot_tuple_getitem.lookup
  (getItem_tuple (j:=j) (Q:=λr k=>r=w/\EP X a f Q r k) g (by lia) (by lia) (by rw[dV,←A];exact D) (by simpa using E) ⟨U,c⟩) n
theorem rW:IxR X BG:=by
 intro a b e s A H x y v u Q I g f h k;obtain⟨z,i,c,rfl,rfl,C,m,q⟩:=h;obtain⟨t,rfl⟩:=g;obtain⟨B,rfl⟩:=f;obtain⟨j,d,p,E,o,n⟩:=pA m;have l:z.cps.toList.length=z.length:=by simp[Str.length]
 rw[l]at d o n;have D:=jb;exact tail_any (Ii s z t) slot_str_getitem.lookup (getItem_str (c:=c) (by
  have w:decide (i < -(2^63:Int))=false:=Km (by lia);have r:decide (i ≥ 2^63)=false:=Km (by lia);rw[w,r,Bool.or_false]) (by rw[d];simpa using p) ⟨.str ⟨#[c]⟩,H,I.tok _,⟨_,U⟩,q⟩) k
theorem rX(a:List Gf)(n j:Nat)(u:Gf):Obj.mapSeq (·.setIfInBounds j u) { cls:=.type "list",data:=.seq a.toArray n }={ cls:=.type "list",data:=.seq (a.set j u).toArray n }:=by
 simp[Obj.mapSeq]
theorem Inv.lst{b:List (GD×Obj)}{c:St}{H:Hp}{s:GP}{p:GD}{xs:List V}(I:Inv X b c H s)(h:H p=Kb (.lst xs)) :
  ∃(a:List Gf)(n:Nat),Vals xs a/\s.heap.get? p=Kb { cls:=.type "list",data:=.seq a.toArray n }/\xs.length<=GH:=by
 obtain⟨z,a,n,r,e⟩:=I.hok p _ h;exact⟨a,n,r,e,z⟩
theorem Inv.lstUpd{a:List (GD×Obj)}{g:St}{H:Hp}{s:GP}{p:GD}{xs ys:List V}{c its':List Gf}{n d:Nat}{f:Obj->Obj}(I:Inv X a g H s)(h:H p=Kb (.lst xs))
  (i:s.heap.get? p=Kb { cls:=.type "list",data:=.seq c.toArray n }) (hf:f { cls:=.type "list",data:=.seq c.toArray n }={ cls:=.type "list",data:=.seq its'.toArray d }) (r:Vals ys its')(hz:ys.length<=GH)(t:Nat) :
  Inv X a g (upd H p (.lst ys)) { s with heap:=s.heap.update p f,toks:=t }:=by
 have e:(s.heap.update p f).get? p=Kb { cls:=.type "list",data:=.seq its'.toArray d }:=by
  rw[GG.get?_update_self f i (by rw[hf] <;> rfl),hf]
 refine I.write (x:=p) (e:=p) (by rw[h];trivial) (.inl U) (λb u j q=>(GG.get?_update_other _ _ (Ne.symm j)).trans q) ⟨_,e⟩ ?_;exact⟨hz,its',d,r,e⟩
inductive zr  (o:V)(i:V)(v:V)(H:Hp)(Q:(Hp->Prop)):Prop
 |mk (p xs k j:_)(_:o=.ref p)(_:i=.int k)(_:H p=Kb (.lst xs))(_:ixN xs.length k=Kb j)(_:Q (upd H p (.lst (xs.set j v)))):zr o i v H Q
theorem set_list:Br X zr:=by
 intro b s y H o i v F G u Q I B C A h;obtain⟨p,z,k,j,rfl,rfl,g,E,q⟩:=h;cases B;obtain⟨t,rfl⟩:=C;obtain⟨a,n,r,d,D⟩:=I.lst g;obtain⟨c,K,m,l⟩:=uc E;have e:=r.length;have J:=jb;have x:Inv X b y (upd H p (.lst (z.set j v))) { s with heap:=s.heap.update p (Obj.mapSeq (·.setIfInBounds j u)) } :=
  I.lstUpd g d (rX a n j u) (r.set A j) (by rw[oD];exact D) s.toks
 by_cases w:0<=k
 .have f:k.toNat=j:=by
   rw[Ig w l]at c;exact Option.some.inj c
  exact W.ki_setAt d w (by lia) (by rw[dV,←e];exact l) (by rw[f];exact⟨_,x,q⟩)
 .have f:(k+(a.toArray.size:Int)).toNat=j:=by
   rw[seqIndex_neg (by lia) m]at c;rw[dV,←e];exact Option.some.inj c
  exact W.ki_setBack d (by lia) (by rw[dV,←e];exact m) (by lia) (by rw[f];exact⟨_,x,q⟩)
theorem pB(lo hi:Option Int)(n:Nat):(Ij lo hi Kc n).1=((HT.sIx n 0 lo:Nat):Int)/\(Ij lo hi Kc n).2.1=((HT.sIx n n hi:Nat):Int)/\(Ij lo hi Kc n).2.2=1:=by
 refine⟨?_,?_,U⟩
 .cases lo with
  |none=>simp[Ij,HT.sIx]
  |some i =>
   simp only[Ij,HT.sIx,DM,show(1:Int)>0 by decide,if_true];by_cases h:i<0
   .simp only[h,if_true] <;> lia
   .simp only[h,if_false] <;> lia
 .cases hi with
  |none=>simp[Ij,HT.sIx]
  |some i =>
   simp only[Ij,HT.sIx,DM,show(1:Int)>0 by decide,if_true];by_cases h:i<0
   .simp only[h,if_true] <;> lia
   .simp only[h,if_false] <;> lia
theorem nE(a:List Gf)(lo hi:Option Int):slicePick a.toArray lo hi Kc=((a.drop (HT.sIx a.length 0 lo)).take (HT.sIx a.length a.length hi-HT.sIx a.length 0 lo)).toArray:=by
 obtain⟨d,c,b⟩:=pB lo hi a.toArray.size;unfold slicePick;rw[d,c,b];simp only[sliceRange_one,pick_run,dV] <;> rfl
inductive Ak(K:W.Frag)(x:V)(lo:Option Int)(hi:Option Int)(H:Hp)(Q:VK):Prop
 |mk (a xs:_)(_:x=.ref a)(_:SqL K H a xs)(_:∀p,H p=Kc->Q (.ref p) (upd H p (.lst (jQ xs lo hi))))
theorem dR:SlR X (Ak X.K):=by
 intro f s p H x v u t lo hi w Q I g m j i h;obtain⟨a,c,rfl,l,q⟩:=h;cases g;obtain⟨n,r,e,k⟩:=I.list l;have d:=r.length;refine⟨"list",_,Ih.lookup,e.isList.typeIs,?_⟩;refine wpAny_getItem_list_slice e.isList m j i .none (by simp) ?_ (by rw[dV] <;> lia);rw[nE,←d];refine⟨.ref s.heap.objs.size,_,I.laid (t':=s.toks) (o:=.lst (jQ c lo hi)) (λb y q=>GG.get?_push_of_some _ q) (yr _) ?_,U,q _ (I.hok.fresh (yr _))⟩;exact⟨yW (qt c lo hi) k,_,0,(r.drop (HT.sIx c.length 0 lo)).take (HT.sIx c.length c.length hi-HT.sIx c.length 0 lo),GG.get?_push_size _ U⟩
def gJ:V->Bool
 | .non=>Kd
 | .bl _=>Kd
 | .int _=>Kd
 | .str _=>Kd
 |_=>Ke
def eqV:V->V->Bool
 | .non,.non=>Kd
 | .bl a,.bl b=>a == b
 | .bl a,.int b=>(if a then 1 else 0) == b
 | .int a,.bl b=>a == (if b then 1 else 0)
 | .int a,.int b=>a == b
 | .str a,.str b=>a == b
 |_,_=>Ke
theorem rY{A:GO}{s:GP}{y x:V}{u v:Gf}(d:RelV y u)(rx:RelV x v)(f:gJ y=Kd)(e:gJ x=Kd):SeqAt.EqAt A s u v (eqV y x):=by
 cases y with
 |non =>
  cases d;cases x with
  |non=>cases rx;exact SeqAt.EqAt.same _
  |bl b=>cases rx;exact SeqAt.EqAt.none_bool b
  |int b=>obtain⟨t,rfl⟩:=rx;exact SeqAt.EqAt.none_int b t
  |str b=>obtain⟨t,rfl⟩:=rx;exact SeqAt.EqAt.none_str b t
  |_=>exact Kk (show Ke=Kd from e) Bool.false_ne_true
 |bl a =>
  cases d;cases x with
  |non=>cases rx;exact SeqAt.EqAt.bool_none a
  |bl b=>cases rx;exact SeqAt.EqAt.bool_bool a b
  |int b=>obtain⟨t,rfl⟩:=rx;exact SeqAt.EqAt.bool_int a b t
  |str b=>obtain⟨t,rfl⟩:=rx;exact SeqAt.EqAt.bool_str a b t
  |_=>exact Kk (show Ke=Kd from e) Bool.false_ne_true
 |int a =>
  obtain⟨c,rfl⟩:=d;cases x with
  |non=>cases rx;exact SeqAt.EqAt.int_none a c
  |bl b=>cases rx;exact SeqAt.EqAt.int_bool a c b
  |int b=>obtain⟨t,rfl⟩:=rx;exact SeqAt.EqAt.int_int a c b t
  |str b=>obtain⟨t,rfl⟩:=rx;exact SeqAt.EqAt.int_str a c b t
  |_=>exact Kk (show Ke=Kd from e) Bool.false_ne_true
 |str a =>
  obtain⟨c,rfl⟩:=d;cases x with
  |non=>cases rx;exact SeqAt.EqAt.str_none a c
  |bl b=>cases rx;exact SeqAt.EqAt.str_bool a c b
  |int b=>obtain⟨t,rfl⟩:=rx;exact SeqAt.EqAt.str_int a c b t
  |str b=>obtain⟨t,rfl⟩:=rx;exact SeqAt.EqAt.str_str a c b t
  |_=>exact Kk (show Ke=Kd from e) Bool.false_ne_true
 |_=>exact Kk (show Ke=Kd from f) Bool.false_ne_true
theorem ao:dn X (.builtin "len") (λxs H Q=>∃p ys,xs=[.ref p]/\(SqL X.K H p ys\/SqT X.K H p ys)/\Q (.int ys.length) H):=by
 intro f s j H xs k Q I r h;obtain⟨p,ys,rfl,b,q⟩:=h;obtain⟨u,rfl,g⟩:=vals1 r;cases g;have l:=jb;rcases b with b|b
 .obtain⟨e,c,d,i⟩:=I.list b;have a:=c.length;exact Calls.call_len_list d.isList (by simp only[dV] <;> lia) ⟨.int ys.length,H,I.tok _,⟨s.toks+1,by rw[dV,a]⟩,q⟩
 .obtain⟨e,c,d,i⟩:=I.tuple b;have a:=c.length;exact len_tuple d (by simp only[dV] <;> lia) ⟨.int ys.length,H,I.tok _,⟨s.toks+1,by rw[dV,a]⟩,q⟩
theorem pC:dn X (.builtin "len") (λxs H Q=>∃z,xs=[.str z]/\z.length<=GH/\Q (.int z.length) H):=by
 intro a s b H xs c Q I r h;obtain⟨z,rfl,d,q⟩:=h;obtain⟨u,rfl,t,rfl⟩:=vals1 r;have e:=jb;exact len_str (by lia) ⟨.int z.length,H,I.tok _,⟨_,U⟩,q⟩
theorem bV:dn X (.type "list") (λxs H Q=>∃p ys,xs=[.ref p]/\(SqL X.K H p ys\/SqT X.K H p ys)/\∀l,H l=Kc->Q (.ref l) (upd H l (.lst ys))):=by
 intro m s B H xs D Q I r h;obtain⟨p,ys,rfl,j,q⟩:=h;obtain⟨u,rfl,C⟩:=vals1 r;cases C
 have k:∀(a:List Gf),Vals ys a->ys.length<=GH->∀(c:GG)(f:Nat),(∀b A,s.heap.get? b=Kb A->c.get? b=Kb A) ->
   c.get? s.heap.objs.size=Kb { cls:=.type "list",dict:=Kc,data:=.seq a.toArray f,slots:=#[] }->EP X m B Q (.ref s.heap.objs.size) { s with heap:=c }:=λa d i c f g e =>
  ⟨.ref s.heap.objs.size,_,I.laid (t':=s.toks) g (yr _) (show cQ X.prog X.w _ c _ (.lst ys) from⟨i,a,f,d,e⟩),U,q _ (I.hok.fresh (yr _))⟩
 rcases j with j|j
 .obtain⟨a,d,v,i⟩:=I.list j;have t:=d.length;obtain⟨o,x,z,n,y⟩:=v.isList;exact Ik p (.inl U) x z y (λc f g e=>k a d i c f g e) (by simp only[dV] <;> lia)
 .obtain⟨a,d,v,i⟩:=I.tuple j;have t:=d.length;obtain⟨o,x,z,n,y⟩:=v;exact Ik p (.inr U) x z y (λc f g e=>k a d i c f g e) (by simp only[dV] <;> lia)
theorem nF:dn X (.type "tuple") (λxs H Q=>∃p ys,xs=[.ref p]/\((SqL X.K H p ys/\∀l,H l=Kc->Q (.ref l) (upd H l (.tup ys)))\/(SqT X.K H p ys/\Q (.ref p) H))):=by
 intro a s j H xs y Q I r h;obtain⟨p,ys,rfl,h⟩:=h;obtain⟨u,rfl,t⟩:=vals1 r;cases t;rcases h with⟨i,q⟩|⟨i,q⟩
 .obtain⟨c,f,g,k⟩:=I.list i;have n:=f.length;refine call_tuple_list g.isList (λd v=>?_) (by simp only[dV] <;> lia);have m:Inv X a j H { s with heap:=d }:=I.kept (t':=s.toks) v;have x:Inv X a j (upd H d.objs.size (.tup ys)) { s with heap:=d.push { cls:=.type "tuple",data:=.seq c.toArray } } :=
   m.laid (t':=s.toks) (λb o e=>GG.get?_push_of_some _ e) (yr _) (show cQ X.prog X.w _ _ _ (.tup ys) from⟨k,c,f,IsTup.new _ _⟩)
  exact⟨.ref d.objs.size,_,x,U,q _ (m.hok.fresh (yr _))⟩
 .obtain⟨c,f,g,k⟩:=I.tuple i;exact call_tuple_same g ⟨.ref p,H,I,U,q⟩
def tyV(K:W.Frag)(T:String)(x:V)(H:Hp):Prop:=match x with
 | .str _=>T = "str"
 | .int _=>T = "int"
 | .ref p=>(T = "list" /\ ∃b,SqL K H p b)\/(T = "tuple" /\ ∃o,K.lookup p=Kb o/\o.cls=.type "tuple" /\ o.dict=Kc) \/
   (T = "dict" /\ ((∃a,H p=Kb (.dK a))\/∃a,H p=Kb (.dT a)))\/(T = "set" /\ ∃S n,H p=Kb (.set S n))
 |_=>False
theorem Al{f:List (GD×Obj)}{m:St}{H:Hp}{s:GP}{T:String}{x:V}{v:Gf}(I:Inv X f m H s)(r:RelV x v)(ty:tyV X.K T x H) :
  s.TypeIs v T/\∀a,v=.ref a->∃l,s.heap.get? a=Kb l/\l.dict=none:=by
 cases x with
 |str z =>
  obtain⟨t,rfl⟩:=r;cases (show T = "str" from ty);exact⟨Ii s z t,λ_ e=>nomatch e⟩
 |int i =>
  obtain⟨t,rfl⟩:=r;cases (show T = "int" from ty);exact⟨typeIs_int s i t,λ_ e=>nomatch e⟩
 |ref p =>
  cases r;rcases ty with⟨rfl,y,q⟩|⟨rfl,o,b,u,g⟩|⟨rfl,b⟩|⟨rfl,S,n,b⟩
  .obtain⟨w,_,k,_⟩:=I.list q;refine⟨k.isList.typeIs,λa e=>?_⟩;cases e;obtain⟨o,n,e,c,g,_⟩:=k;exact⟨o,e,g⟩
  .refine⟨⟨o,I.kIn p o b,u⟩,λa e=>?_⟩;cases e;exact⟨o,I.kIn _ o b,g⟩
  .have z:∃o,s.heap.get? p=Kb o/\o.ExactDict:=by
    rcases b with⟨j,b⟩|⟨j,b⟩
    .obtain⟨_,_,_,_,o,_,_,e,d,_⟩:=I.hok p _ b;exact⟨o,e,d⟩
    .obtain⟨_,_,_,_,o,_,_,e,d,_⟩:=I.hok p _ b;exact⟨o,e,d⟩
   obtain⟨o,e,d⟩:=z;refine⟨⟨o,e,d.1⟩,λa h=>?_⟩;cases h;exact⟨o,e,d.2.1⟩
  .obtain⟨o,_,_,_,e,d,_⟩:=I.hok p _ b;refine⟨⟨o,e,d.1⟩,λa h=>?_⟩;cases h;exact⟨o,e,d.2.1⟩
 |_=>exact False.elim ty
def tBM(K:W.Frag)(T:String)(r:V->List V->Hp->VK->Prop)(to:TE)(t:TA):TE:=λa H Q=>to a H λx b=>tyV K T x b/\t a b λc d=>r x c d Q
variable{o e:GW}{es:List GW}{to:TE}{t:TA}{name:Str}{apos rZ:Pos}{T id:String}{r:V->List V->Hp->VK->Prop}
theorem eR(q:PlainAttrs T)(b:Slot T name id)(d:typeOf (.builtin id)=pure (.type "method_descriptor")) (hm:MtR X id r)(w:PE X o to)(y:PA X (e :: es) t)
  (G:HI o name X.env (eval o X.env)=eval o X.env:=by rfl)
  (E:((GY rZ (GZ (e :: es) X.env)).all (λx=>!x.1) && (Il rZ (Im [] X.env)).all (λx=>x.1.isSome)
   && decide ((e :: es).length+([]:List Keyword).length+(if ([]:List Keyword).isEmpty then 0 else 1)<30))=true:=by rfl)
  (F:(apos.endLine == rZ.line)=true:=by rfl)(u:GZ (e :: es) X.env=(Ke,eval e X.env) :: GZ es X.env:=by rfl)(J:(GY rZ (GZ es X.env)).any (·.1)=false:=by rfl) :
  PE X (.Call (.Attribute o name apos) (e :: es) [] rZ) (tBM X.K T r to t):=by
 intro a s c H Q I h;refine wpAny_Call_method_late G E F U (thn (w a s c H _ I h) λv l ⟨x,D,i,f,ty,p⟩=>?_);obtain⟨A,z⟩:=Al i f ty;refine⟨T,id,q,b,d,A,z,?_⟩;have g:=y rZ a l c D _ i p;rw[u]at g⊢;refine Calls.callWith_builtin (by show(Ke || (GY rZ (GZ es X.env)).any (·.1))=Ke;rw[J] <;> rfl) (Calls.evalArgs_plain ?_);exact thn g λk s2 ⟨j,C,B,m,n⟩=>hm a s2 c C x j v k Q B f m n
end
def MtM(X:Cx)(e:String)(r:V->List V->Hp->VK->Prop):Prop :=
 ∀(a:List (GD×Obj))(s:GP)(b:St)(H:Hp)(x:V)(c:List V)(v:Gf)(d:List Gf)(Q:VK),Inv X a b H s->RelV x v->Vals c d->r x c H Q ->
  GU (model X.prog X.w) X.A (call (.builtin e) (v :: d)) (EP X a b Q) X.xe s
theorem Vals.one:∀{x:V}{us:List Gf},Vals [x] us->∃u,us=[u]/\RelV x u
 |_,_,.cons r .nil=>⟨_,U,r⟩
theorem Vals.two:∀{x y:V}{us:List Gf},Vals [x,y] us->∃u v,us=[u,v]/\RelV x u/\RelV y v
 |_,_,_,.cons r (.cons q .nil)=>⟨_,_,U,r,q⟩
theorem Vals.reverse{xs:List V}{us:List Gf}(h:Vals xs us):Vals xs.reverse us.reverse:=by
 induction h with
 |nil=>exact .nil
 |cons r t a=>rw[vl,vl];exact Vals.append a (.cons r .nil)
section
variable{Kg:List (GD×Obj)}{σ:St}{H:Hp}{s:GP}{l b:GD}{xs ys zs:List V}
theorem Inv.lset{a its':List Gf}{n:Nat}{f:Array Gf->Array Gf}{t':Nat}(I:Inv X Kg σ H s)(g:H l=Kb (.lst xs))
  (e:s.heap.get? l=Kb { cls:=.type "list",data:=.seq a.toArray n }) (hf:f a.toArray=its'.toArray)(b:Vals ys its')(hz:ys.length<=GH) :
  Inv X Kg σ (upd H l (.lst ys)) { s with heap:=s.heap.update l (Obj.mapSeq f),toks:=t' }:=by
 have q:=PySem.IsL.update e f;rw[hf]at q;refine I.write (x:=l) (e:=l) (by rw[g];exact trivial) (.inl U) (λh u d c=>(GG.get?_update_other s.heap (Obj.mapSeq f) (Ne.symm d)).trans c) ⟨_,q⟩ ?_;exact⟨hz,its',_,b,q⟩
theorem Inv.lnew{a:List Gf}{t':Nat}(I:Inv X Kg σ H s)(b:Vals ys a)(hz:ys.length<=GH) :
  Inv X Kg σ (upd H s.heap.objs.size (.lst ys)) { s with heap:=s.heap.push { cls:=.type "list",data:=.seq a.toArray },toks:=t' } :=
 I.laid (λ_ _ q=>GG.get?_push_of_some _ q) (yr _) ⟨hz,a,0,b,GG.get?_push_size _ U⟩
theorem Inv.fresh(I:Inv X Kg σ H s):H s.heap.objs.size=none:=I.hok.fresh (yr _)
theorem Inv.lstM(I:Inv X Kg σ H s)(b:H l=Kb (.lst xs)):xs.length<=GH/\∃(a:List Gf)(n:Nat),Vals xs a/\xs.length=a.length/\s.heap.get? l=Kb { cls:=.type "list",data:=.seq a.toArray n }:=by
 obtain⟨z,a,n,r,e⟩:=I.hok l _ b;exact⟨z,a,n,r,r.length,e⟩
theorem wg{n:Nat}(h:n<=GH):Hw.List.listTooLong n=false:=by
 unfold Hw.List.listTooLong;exact Km (by lia)
end
inductive ue  (x:V)(vs:List V)(H:Hp)(Q:VK):Prop
 |mk (l xs y:_)(_:x=.ref l)(_:vs=[y])(_:H l=Kb (.lst xs))(_:xs.length<GH)(_:Q .non (upd H l (.lst (xs++[y])))):ue x vs H Q
theorem bh:MtM X "list.append" ue:=by
 intro c s i H x k v m Q I d f h;obtain⟨l,j,y,rfl,rfl,b,o,q⟩:=h;cases d;obtain⟨u,rfl,g⟩:=f.one;obtain⟨z,a,n,r,p,e⟩:=I.lstM b;refine call_meets F.slot_list_append ⟨_,e,U⟩ F.entry_list_append (F.args_list_append_2 _ _) (PySem.list_append l a.toArray n u (by rw[dV];lia)) ⟨e,?_⟩;refine⟨.non,_,I.lset (its':=a++[u]) b e (by simp) (r.append (.cons g .nil)) ?_,U,q⟩;rw[cK,hQ];lia
inductive uf  (x:V)(vs:List V)(H:Hp)(Q:VK):Prop
 |mk (l b xs zs:_)(_:x=.ref l)(_:vs=[.ref b])(_:H l=Kb (.lst xs))(_:H b=Kb (.lst zs))(_:xs.length+zs.length<=GH)(_:Q .non (upd H l (.lst (xs++zs)))):uf x vs H Q
theorem uM:MtM X "list.extend" uf:=by
 intro g s A H x E v G Q I i j h;obtain⟨l,b,D,B,rfl,rfl,f,p,J,q⟩:=h;cases i;obtain⟨u,rfl,k⟩:=j.one;cases k;obtain⟨z,a,n,r,K,e⟩:=I.lstM f;obtain⟨C,c,o,m,y,t⟩:=I.lstM p;have d:a.toArray.size+c.toArray.size<=GH:=by rw[dV,dV];lia
 have w:¬ (!a.toArray.isEmpty && Hw.List.listTooLong (a.toArray.size+c.toArray.size))=true:=by
  rw[wg d,Bool.and_false];exact Bool.false_ne_true
 refine call_meets F.slot_list_extend ⟨_,e,U⟩ F.entry_list_extend (F.args_list_extend_2 _ _)
  (AutoSeq1.list_extend_list_list_0 l a.toArray n b c.toArray o w (by rw[dV];lia) (by lia)) ⟨e,t,?_⟩
 refine⟨.non,_,I.lset (its':=a++c) f e (by simp) (r.append m) ?_,U,q⟩;rw[cK];lia
inductive BK  (x:V)(y:V)(H:Hp)(Q:VK):Prop
 |mk (l b xs zs:_)(_:x=.ref l)(_:y=.ref b)(_:H l=Kb (.lst xs))(_:H b=Kb (.lst zs))(_:xs.length+zs.length<=GH)(_:∀p,H p=Kc->Q (.ref p) (upd H p (.lst (xs++zs)))):BK x y H Q
theorem dz:OpR X (Hz .Add) BK:=by
 intro d s t H x y v u Q I g f h;obtain⟨l,b,B,w,rfl,rfl,j,k,D,q⟩:=h;cases g;cases f;obtain⟨z,a,n,r,E,e⟩:=I.lstM j;obtain⟨A,c,C,i,p,o⟩:=I.lstM k;refine PySem.P.add_list e o ?_ (by rw[dV,dV];lia);have m:a.toArray++c.toArray=(a++c).toArray:=by simp
 rw[m];exact⟨.ref _,_,I.lnew (t':=s.toks) (r.append i) (by rw[cK];lia),U,q _ I.fresh⟩
section
variable{prog:GC}{w:Gn}{A:GO}{E:Gf->GP->Prop}{s:GP}
end
end L2
namespace Att
open PySem PySem.W PySem.Calls PyProof.Rows
theorem kU{P:Io}{h:GG}:∀(c:List Int)(vs:List Gf),WellAll P h vs (c.map WData.int)->IntsAre vs c:=by
 intro c;induction c with
 |nil =>
  intro vs w;rw[vr]at w;cases w;exact .nil
 |cons n c d =>
  intro vs w;rw[mu]at w;cases w with
  |cons a b =>
   cases a;exact .cons _ _ (d _ b)
theorem uN{l:OpenLaw}{n:Nat}(u:l.most=Kb n){P:Io}{h:GG}{args:List WData}{c:List Gf}
  (k:l.row.toRowW.claim.pre args=Kd)(i:WellAll P h c args) :
  ∃a vs b,c=[Gf.ref a]/\args=[WData.list (b.map WData.int)]/\h.get? a=Kb { cls:=.type "list",data:=.seq vs.toArray }/\IntsAre vs b/\b.length<=n:=by
 have j:WShape.hasAll [] args [.list .int]=true:=(pre_splitW k).1;have m:l.pre.holds [] { args:=args }=true:=(pre_splitW k).2;obtain⟨d,r,rfl,x,w⟩:=hasAllW_cons j;obtain rfl:=hasAllW_nil w;obtain⟨z,rfl,v⟩:=hasW_list x;obtain⟨b,rfl⟩:=items_int v;have e:b.length<=n:=by
  unfold OpenLaw.pre at m;have g:(WTm.not (.lt (.lit (.int (n:Int))) (.len (.arg 0)))).holds [] { args:=[.list (b.map .int)] }=true:=by
   have g:=(holds_andW m).1;rw[u]at g;exact g
  have f:=condW_of g (w_not (w_lt w_lit (w_len_list (w_arg rfl))));rw[bx]at f;refine Nat.le_of_not_lt λq=>?_
  have s:(n:Int)<((b.length:Nat):Int):=by lia
  first
   |(rw[Kl s]at f;exact Kk f (by decide))
   |(simp at f;lia)
 cases i with
 |cons p o =>
  cases o;cases p with
  |list t y=>exact⟨_,_,b,rfl,rfl,t,kU b _ y,e⟩
theorem uO(l:OpenLaw)(args:List WData):l.row.toRowW.claim.post args (.bool Kd) args=true :=
 postW_of (r:=l.row.toRowW) (X:=(Kd == Kd))
  (show WShape.has [] (.bool Kd) .bool=Kd by first|rfl|decide|simp[WShape.has,WShape.arms,WShape.armsAll])
  (show(WTm.eq .res (.lit (.bool Kd))).value [] { args:=args,res:=Kb (.bool Kd),after:=args }=Kb (.bool (Kd == Kd))from w_eq_bool (w_res rfl) w_lit) rfl
theorem attach_call{l:OpenLaw}{n:Nat}{q:GC}{e:List Str}{XP:(Str->Option Gf)->GG->Prop}{y:Gn->GG->Prop}{d:DefRec}
  (E:l.most=Kb n)(u:d.params.defaults=[])
  (call:∀(w:Gn)(c b:GP)(k p:Str->Option Gf)(h:GD)(o:Obj)(pm m doc:Gf)(a:GD)(vs:List Gf)(j:List Int),
   Ground q e [] XP w c k p b.heap->y w b.heap ->
   b.heap.get? h=Kb o->o.data=.func (docDef d.name d.params d.body d.scope pm m doc)->b.heap.CodeRec m d.name->k d.name=Kb (.ref h) ->
   b.heap.get? a=Kb { cls:=.type "list",data:=.seq vs.toArray }->IntsAre vs j->j.length<=n->b.gens = #[] ->
   HH (model l.prog w) Ip (.call (.ref h) ⟨[.ref a],[]⟩) (λr s'=>r=.ok (.ret (.bool Kd))/\OldK b.heap s'.heap/\s'.os=b.os/\AllBare s'.gens) b) :
  WalkO q e XP y l.row.toRowW d [] (λf vs=>PySem.call f vs):=by
 intro w c b k p G Y h o pm m doc M kV D I v x t H A z Q B R O s P;obtain rfl:M=.none:=Dflts.none x u;obtain rfl:kV=.none:=Dflts.noKw x;obtain⟨a,vs,j,rfl,rfl,N,g,i⟩:=uN E B s;refine enter_call (HR (call w c b k p h o pm m doc a vs j G Y D (fd_plain I) v t N g i H) λr s' C=>?_);obtain⟨rfl,L,K,J⟩:=C;exact⟨.inl ⟨.bool Kd,.bool Kd,[],rfl,λ_=>rfl,.bool Kd,uO l _,λ_=>⟨List.Pairwise.nil,λ_ F=>(nomatch F)⟩⟩,L,K,J⟩
section
variable{prog:GC}{w:Gn}{A:GO}{E:Gf->GP->Prop}{s:GP}{K:Frag}
end
end Att
namespace L2
open PySem PySem.Spec PyProof.Rows
theorem oz:∀{vs:List Gf}{a:List Int},IntsAre vs a->Vals (a.map V.int) vs
 |_,_,.nil=>.nil
 |_,_,.cons n t h=>.cons ⟨t,U⟩ (oz h)
def Gg(H:Hp):Prop:=∀b,H b=Kc\/∃o a,H b=Kb (.frz o (.lst a))
def inClass(s:G5)(j:Nat):G5:=match s with
 | .ClassDef _ _ _ body _ _ _ _ _ _ _=>body.getD j (.Pass ⟨0,0,0,0⟩)
 |_=>.Pass ⟨0,0,0,0⟩
def gn(s:G5):HX:=match s with
 | .FunctionDef _ a _ _ _ _ _ _ _ _=>a
 |_=>{ posonlyargs:=[],args:=[],vararg:=Kc,kwonlyargs:=[],kw_defaults:=[],kwarg:=Kc,defaults:=[] }
def dA(s:G5):List G5:=match s with
 | .FunctionDef _ _ b _ _ _ _ _ _ _=>b
 |_=>[]
def ak(s:G5):GQ:=match s with
 | .FunctionDef _ _ _ _ _ _ sc _ _ _=>sc
 |_=>{ kind:=.function,names:=[],isGenerator:=Ke,isCoroutine:=Ke }
abbrev CX0:CXT:=λ_ _ _ _ _ _=>False
abbrev E0:XK:=λ_ _ _=>False
theorem bL{X:Cx}:Passes CX0 X E0:=λ_ _ _ _ _ _ _ h=>h.elim
structure Fun(K:W.Frag)(x qual:Str)(st:G5)(f:GD)(fd:HM):Prop where
 ex:∃(oc:Gf)(od:Option GD)(kV doc pm:Gf)(an:Option GD)(cdv ct:Gf)(osl:Array (Option Gf)),
  fd=W.fnOf x qual (gn st) (dA st) (ak st) .none kV doc pm an cdv ct/\K.lookup f=Kb ⟨oc,od,.func fd,osl⟩/\W.codeIn K cdv qual=Kd
 kp:W.keepIn K (.ref f)=Kd
section
variable{P:GC}{w:Gn}{K:W.Frag}{mg:Str->Option Gf}{base:GG}
theorem Fun.ok{x qual:Str}{st:G5}{f:GD}{g:HM}{N ps:List Str}{k:Nat}{sp:Sp}(F:Fun K x qual st f g)(S:aq N ps (ak st))(c:∀vs H Q E,sp vs H Q E->vs.length=ps.length)
  (l:∀(b:Gf)(A:GO)(a:List Env)(s:GP)(H:Hp)(vs:List V)(Q:VK)(E:XK),bR k (A.deeper (envOfC qual (ak st) s.heap.objs.size f b))->sp vs H Q E ->
   ∃t,PSs (qp CX0 P w K mg base N qual (ak st) f b A a s H E).nox (dA st) t/\t { nx:=λ_ H'=>Q .non H',rt:=Q } (start N vs) H):aK P w K mg base CX0 (k+1) f g ps sp:=by
 obtain⟨r,p,kV,n,o,v,b,u,m,rfl,i,e⟩:=F.ex;refine zp i e S c λA a s H vs Q E j d=>?_
 obtain⟨t,h,q⟩:=l b A a s H vs Q E j d;exact⟨t,h.nox,q⟩
theorem Fun.binds{x qual:Str}{st:G5}{f:GD}{d:HM}{ps:List Str}(F:Fun K x qual st f d)
  (h:∀(kV doc pm:Gf)(c:Option GD)(a b:Gf)(us:List Gf),us.length=ps.length->HP (W.fnOf x qual (gn st) (dA st) (ak st) .none kV doc pm c a b) ⟨us,[]⟩=pure (ps.zip us)):Binds K d ps []:=by
 obtain⟨j,i,kV,doc,pm,c,a,b,e,rfl,k,g⟩:=F.ex;exact .all (h kV doc pm c a b)
theorem fun_mk{x qual:Str}{st:G5}{f:GD}{h:Gf}{g e:Option GD}{b:Array (Option Gf)}{kV doc pm a d:Gf}(l:K.lookup f=Kb ⟨h,g,.func (W.fnOf x qual (gn st) (dA st) (ak st) .none kV doc pm e a d),b⟩)
  (c:W.codeIn K a qual=Kd)(k:W.keepIn K (.ref f)=Kd):Fun K x qual st f (W.fnOf x qual (gn st) (dA st) (ak st) .none kV doc pm e a d):=⟨⟨h,g,kV,doc,pm,e,a,d,b,U,l,c⟩,k⟩
end
theorem az{n:Nat}(h:n<=1000):n<GH:=zY h (by decide)
variable{X:Cx}
theorem pv(i:Nat){x:Str}{pos:Pos}(d:X.N[i]?=Kb x:=by rfl)(b:Vis X.env.scope x:=by first|exact Or.inl U|exact Or.inr (Or.inl U)|exact Or.inr (Or.inr U))(c:(x == ("__debug__" : Str))=false:=by decide)
  (a:(x == ("__classdict__" : Str))=false:=by decide):PE X (.Name x pos) (zT i):=rG d b c a
theorem ck{A B:Prop}(h:B):if Ke=Kd then A else B:=by
 rw[Ki Bool.false_ne_true];exact h
theorem fO{A B:Prop}(h:A):if Kd=Kd then A else B:=by
 rw[Kj U];exact h
theorem bq{c A B:Prop} [Decidable c] (b:c->A)(a:¬ c->B):if c then A else B:=by
 by_cases h:c
 .rw[Kj h];exact b h
 .rw[Ki h];exact a h
theorem zt{c A B:Prop} [Decidable c] (a:c)(h:B):if (!decide c)=Kd then A else B:=by
 rw[Kl a];exact ck h
def ar(H H':Hp):Prop:=∀b o,H b=Kb o->H' b=Kb o
theorem ar.refl(H:Hp):ar H H:=λ_ _ h=>h
theorem ar.trans{H e d:Hp}(a:ar H e)(b:ar e d):ar H d:=λc o h=>b c o (a c o h)
theorem ar.free{H H':Hp}(e:ar H H'){l:GD}(h:H' l=Option.none):H l=Option.none:=by
 cases q:H l with
 |none=>rfl
 |some o =>
  rw[e l o q]at h;cases h
theorem ar.seq{K:W.Frag}{H H':Hp}{a:GD}{xs:List V}(e:ar H H')(h:SqL K H a xs):SqL K H' a xs:=by
 rcases h with(h|⟨o,h⟩)|h
 .exact .inl (.inl (e _ _ h))
 .exact .inl (.inr ⟨o,e _ _ h⟩)
 .exact .inr h
set_option maxHeartbeats 4000000
abbrev Pr:=Int×Int
def inR(n:Int)(p:Pr):Bool:=Kf (p.1<=n) && decide (n<=p.2)
def inP(ps:List Pr)(n:Int):Bool:=ps.any (inR n)
structure Apart(R:List Pr):Prop where
 le:∀p∈R,p.1<=p.2
 gap:R.Pairwise λp q=>p.2+2<=q.1
theorem qu(R:List Pr)(p:Pr)(n:Int):inP (R++[p]) n=(inP R n || inR n p):=by
 unfold inP;rw[List.any_append];simp
structure Gh(R qs:List Pr):Prop where
 ap:Apart R
 mem:∀n,inP R n=inP qs n
 cov:∀p∈qs,p.1<=p.2->∃r∈R,r.1<=p.1/\p.2<=r.2
 low:∀r∈R,∃q∈qs,r.1=q.1
def Callee(P:GC)(w:Gn)(K:W.Frag)(b:Str->Option Gf)(a:GG)(k:Nat)(x:Str)(ps:List Str)(sp:Sp):Prop :=
 ∃f c,aK P w K b a CX0 k f c ps sp/\Binds K c ps []/\W.keepIn K (.ref f)=Kd/\b x=Kb (.ref f)
theorem Callee.mono{P:GC}{w:Gn}{K:W.Frag}{b:Str->Option Gf}{a:GG}{j k:Nat}{x:Str}{ps:List Str}{sp:Sp}(C:Callee P w K b a j x ps sp)(h:j<=k):Callee P w K b a k x ps sp:=by
 obtain⟨f,c,F,r⟩:=C;exact⟨f,c,F.mono h,r⟩
variable{pos:Pos}
section
variable{k:Nat}{x:Str}{ps:List Str}{sp:Sp}{e:GW}{es:List GW}{t:TA}{p:Pos}
def tFn(sp:Sp)(t:TA):TE:=λa H Q=>t a H λb c=>sp b c Q E0
theorem aL(C:Callee X.prog X.w X.K X.mg X.base k x ps sp)(o:bR k X.A)(r:Gl X x)(u:PA X (e :: es) t)(j:(x == ("__debug__" : Str))=false:=by decide)
  (he:GZ (e :: es) X.env=(Ke,eval e X.env) :: GZ es X.env:=by rfl)(i:(GY pos (GZ es X.env)).any (·.1)=false:=by rfl):PE X (.Call (.Name x p) (e :: es) [] pos) (tFn sp t):=by
 obtain⟨f,y,F,b,n,m⟩:=C;have h:=yk (E:=E0) (dvs:=[]) (ds:=[]) (p:=p) F o r m n b .nil bL u j he i;intro d s g H Q I q;refine h d s g H Q I ?_;have l:t g H λa c=>sp a c Q E0:=q
 have v:(λ(a:List V)(c:Hp)=>sp (a++[]) c Q E0)=λa c=>sp a c Q E0:=by
  funext a c
  rw[jv]
 show t g H λa c=>sp (a++[]) c Q E0
 rw[v];exact l
end
def Dh(t u:TS):TS:=λD c H=>∃M:St->Hp->Prop,t { D with nx:=M } c H/\∀a b,M a b->u D a b
theorem aN{X:Cx}{st:G5}{rest:List G5}{t u:TS}(i:PS X st t)(h:PSs X rest u):PSs X (st :: rest) (Dh t u):=by
 intro c s f H D I ⟨M,a,b⟩;refine Hh (thn (i c s f H { D with nx:=M } I a) λfl g q=>?_);cases fl with
 |next=>obtain⟨d,e,j,q⟩:=q;exact h c g d e D j (b d e q)
 |ret v=>exact q
 |brk=>exact q
 |cont=>exact q
inductive EqI(K:W.Frag)(H:Hp):V->V->Bool->Prop where
 |flat {x y:V}(fx:gJ x=Kd)(fy:gJ y=Kd):EqI K H x y (eqV x y)
 |same (a:GD):EqI K H (.ref a) (.ref a) Kd
 |tup {a b:GD}{xs ys:List V}(ha:SqT K H a xs)(hb:SqT K H b ys)(fx:xs.all gJ=Kd)(fy:ys.all gJ=Kd):EqI K H (.ref a) (.ref b) (Kf (xs.length=ys.length) && (List.zipWith eqV xs ys).all id)
theorem wj:∀{x:V},gJ x=Kd->eqV x x=Kd
 | .non,_=>rfl
 | .bl b,_=>by simp[eqV]
 | .int i,_=>by simp[eqV]
 | .str z,_=>by simp[eqV]
theorem lR:∀{xs:List V},xs.all gJ=Kd->(List.zipWith eqV xs xs).all id=Kd
 | [],_=>rfl
 |x :: xs,h=>by
  rw[qy,BO]at h;rw[List.zipWith_cons_cons,qy,lR h.2,Bool.and_true];exact wj h.1
theorem iW{f:Nat->Bool}:∀{xs ys:List V},(∀j x y,xs[j]?=Kb x->ys[j]?=Kb y->f j=eqV x y)->(List.range (min xs.length ys.length)).all f=(List.zipWith eqV xs ys).all id
 | [],ys,_=>by simp
 |x :: xs,[],_=>by simp
 |x :: xs,y :: ys,h=>by
  have c:=iW (f:=λj=>f (j+1)) (xs:=xs) (ys:=ys) λj a b g e=>h (j+1) a b (by simpa using g) (by simpa using e)
  have i:=h 0 x y U U;have d:min (x :: xs).length (y :: ys).length=min xs.length ys.length+1:=by simp only[iK];lia
  rw[d,List.range_succ_eq_map,qy,List.zipWith_cons_cons,qy,List.all_map,i];show(eqV x y && (List.range (min xs.length ys.length)).all (λj=>f (j+1)))=_;rw[c];rfl
section
variable{Kg:List (GD×Obj)}{σ:St}{H:Hp}{s:GP}
theorem EqI.at{A:GO}{x y:V}{u v:Gf}{b:Bool}(e:EqI X.K H x y b)(I:Inv X Kg σ H s)(T:A.units+1<HK)(rx:RelV x u)(k:RelV y v):SeqAt.EqAt A s u v b:=by
 cases e with
 |flat i l=>exact rY rx k i l
 |same a =>
  cases (show u=Gf.ref a from rx);cases (show v=Gf.ref a from k);exact SeqAt.EqAt.same _
 | @tup a b xs ys ha hb i l =>
  cases (show u=Gf.ref a from rx);cases (show v=Gf.ref b from k);by_cases z:a=b
  .subst z;have e:=I.tuple_inj ha hb;subst e;rw[lR i,Kl U];exact SeqAt.EqAt.same _
  .obtain⟨d,r,p,_⟩:=I.tuple ha;obtain⟨c,o,C,_⟩:=I.tuple hb;have E:=r.length;have D:=o.length;have L:=SeqAt.RcAt.tuples (A:=A) (e:=λj=>match d[j]?,xs[j]?,ys[j]? with|_,Kb x,Kb y=>eqV x y|_,_,_=>Ke) (show s.heap.IsTuple a d.toArray from p) (show s.heap.IsTuple b c.toArray from C) (by lia) (λj f J=>by
    have G:j<d.length:=by simpa using f
    have F:j<c.length:=by simpa using J
    have n:xs[j]?=Kb xs[j]:=Gy (by lia);have m:ys[j]?=Kb ys[j]:=Gy (by lia);obtain⟨t,h,B⟩:=r.get n;obtain⟨q,g,w⟩:=o.get m;have P:d.toArray[j]=t:=by
     have:=Gy G;rw[this]at h;simpa using Option.some.inj h
    have O:c.toArray[j]=q:=by
     have:=Gy F;rw[this]at g;simpa using Option.some.inj g
    rw[P,O];rw[n,m];have N:gJ xs[j]=true:=jt.mp i _ (nC _);have M:gJ ys[j]=true:=jt.mp l _ (nC _);exact rY B w N M)
   have f:=SeqAt.EqAt.of_refs z L;have S:((List.range (min d.toArray.size c.toArray.size)).all λj=>match d[j]?,xs[j]?,ys[j]? with|_,Kb x,Kb y=>eqV x y|_,_,_=>Ke)=(List.zipWith eqV xs ys).all id:=by
    have Q:min d.toArray.size c.toArray.size=min xs.length ys.length:=by simp only[dV];lia
    rw[Q];exact iW λj x y h g=>by rw[h,g]
   rw[S]at f;have R:(d.toArray.size == c.toArray.size)=Kf (xs.length=ys.length):=by
    simp only[dV,←E,←D];exact Bool.beq_eq_decide_eq _ _
   rw[R,Bool.and_comm]at f;exact f
end
inductive Ao(K:W.Frag)(neg:Bool)(x:V)(y:V)(H:Hp)(Q:VK):Prop
 |mk (a b xs ys:_)(_:x=.ref a)(_:y=.ref b)(_:SqL K H a xs)(_:SqL K H b ys)(_:((xs.length≠ys.length/\Q (.bl neg) H)\/(xs.length=ys.length/\∃f:Nat->Bool,(∀j x y,xs[j]?=Kb x->ys[j]?=Kb y->EqI K H x y (f j))/\Q (.bl (if neg then !(List.range xs.length).all f else(List.range xs.length).all f)) H)))
theorem sd{b:List (GD×Obj)}{l:St}{H:Hp}{s:GP}{A:GO}{xs ys:List V}{a its':List Gf}{f:Nat->Bool}(I:Inv X b l H s)(u:A.units+1<HK)(r:Vals xs a)(e:Vals ys its')
  (hf:∀j x y,xs[j]?=Kb x->ys[j]?=Kb y->EqI X.K H x y (f j)):∀j (k:j<a.toArray.size)(i:j<its'.toArray.size),SeqAt.EqAt A s a.toArray[j] its'.toArray[j] (f j):=λj k i=>by
 have t:j<a.length:=by simpa using k
 have q:j<its'.length:=by simpa using i
 have B:=r.length;have z:=e.length;have d:xs[j]?=Kb xs[j]:=Gy (by lia);have c:ys[j]?=Kb ys[j]:=Gy (by lia);obtain⟨n,h,p⟩:=r.get d;obtain⟨m,g,o⟩:=e.get c;have w:a.toArray[j]=n:=by
  have:=Gy t;rw[this]at h;simpa using Option.some.inj h
 have v:its'.toArray[j]=m:=by
  have:=Gy q;rw[this]at g;simpa using Option.some.inj g
 rw[w,v];exact(hf j _ _ d c).at I u p o
theorem Ap{k:Nat}(o:bR k X.A):OpR X (HB .Eq) (Ao X.K Ke):=by
 intro i s B H x y v u Q I n m h;obtain⟨a,b,l,C,rfl,rfl,z,w,h⟩:=h;cases (show v=Gf.ref a from n);cases (show u=Gf.ref b from m);obtain⟨c,r,p,_⟩:=I.list z;obtain⟨j,d,g,_⟩:=I.list w;have E:=r.length;have D:=d.length;have F:=o.units;rcases h with⟨G,q⟩|⟨J,f,t,q⟩
 .refine SeqAt.eq_list_lengthsAt p.isList g.isList (by simp only[dV,bne_iff_ne,ne_eq];lia) (by lia) ⟨.bl Ke,H,I,U,q⟩
 .refine SeqAt.eq_listAt (e:=f) p.isList g.isList (by simp only[dV];lia) (by lia) (sd I (by show X.A.units+1+1<HK;lia) r d t) ⟨.bl _,H,I,U,?_⟩;rw[show c.toArray.size=l.length by simp only[dV];lia];exact q
def bM(H H':Hp):Prop:=∀b a,H b=Kb (.tup a)->H' b=Kb (.tup a)
theorem ar.tups{H H':Hp}(h:ar H H'):bM H H':=λb a e=>h b _ e
theorem bM.trans{H g f:Hp}(a:bM H g)(b:bM g f):bM H f:=λc d e=>b c d (a c d e)
theorem iD{H:Hp}{p:GD}{o:HO}(h:H p=Kc):bM H (upd H p o):=λb a e=>by rw[ay (bf e h)];exact e
theorem aP{H:Hp}{p:GD}{o:HO}{ys:List V}(h:H p=Kb (.lst ys)):bM H (upd H p o):=λb a e=>by rw[ay (eI e h (by intro z;cases z))];exact e
theorem af{H:Hp}{p:GD}(h:H p=Kc)(o:HO):ar H (upd H p o):=λb u q=>by rw[ay (bf q h)];exact q
theorem ar.upd{H H':Hp}{p:GD}{o:HO}(s:ar H H')(h:H p=Kc):ar H (upd H' p o):=λb u q=>by rw[ay (bf q h)];exact s b u q
def PL(H:Hp):List V->List (Int×Int)->Prop:=Paired λx p=>∃r,x=.ref r/\H r=Kb (.tup [.int p.1,.int p.2])
theorem PL.mono{H H':Hp}{xs:List V}{ps:List (Int×Int)}(h:PL H xs ps)(s:bM H H'):PL H' xs ps:=Paired.mapP h λ_ _ ⟨r,e,z⟩=>⟨r,e,s r _ z⟩
theorem PL.get{H:Hp}:∀{xs:List V}{ps:List (Int×Int)}{i:Nat}{x:V},PL H xs ps->xs[i]?=Kb x->∃p r,ps[i]?=Kb p/\x=.ref r/\H r=Kb (.tup [.int p.1,.int p.2])
 |_,_,_,_,.nil,e=>by simp at e
 |_,_,0,_,.cons (b:=b) ⟨r,e1,z⟩ _,e=>by simp at e;subst e;exact⟨b,r,U,e1,z⟩
 |_,_,i+1,x,.cons _ t,e=>by
  obtain⟨p,r,q⟩:=PL.get (i:=i) (x:=x) t (by simpa using e);exact⟨p,r,by simpa using q.1,q.2⟩
theorem PL.length{H:Hp}{xs:List V}{ps:List (Int×Int)}(h:PL H xs ps):xs.length=ps.length:=Paired.length h
theorem PL.snoc{H:Hp}{xs:List V}{ps:List (Int×Int)}{r:GD}{a b:Int}(h:PL H xs ps)(e:H r=Kb (.tup [.int a,.int b])):PL H (xs++[.ref r]) (ps++[(a,b)]):=Paired.snoc h ⟨r,U,e⟩
theorem PL.last{H:Hp}{xs:List V}{ps:List (Int×Int)}(h:PL H xs ps)(f:xs≠[]):∃c r d p,xs=c++[.ref r]/\ps=d++[p]/\PL H c d/\H r=Kb (.tup [.int p.1,.int p.2]):=by
 induction h with
 |nil=>exact Kk U f
 | @cons a b l1 l2 hd tl ih =>
  cases tl with
  |nil =>
   obtain⟨r,e,z⟩:=hd;exact⟨[],r,[],b,by rw[e];rfl,U,.nil,z⟩
  | @cons a2 b2 l3 l4 hd2 tl2 =>
   obtain⟨c,r,d,p,k,j,i,g⟩:=ih (by simp);exact⟨a :: c,r,b :: d,p,by rw[k];rfl,by rw[j];rfl,.cons hd i,g⟩
theorem PL.app{H:Hp}{xs ys:List V}{ps a:List (Int×Int)}(h:PL H xs ps)(h':PL H ys a):PL H (xs++ys) (ps++a):=by
 induction h with
 |nil=>exact h'
 |cons r t b=>exact .cons r b
abbrev Tr:=Int×Int×Int
def TL(H:Hp):List V->List Tr->Prop:=Paired λx t=>∃r,x=.ref r/\H r=Kb (.tup [.int t.1,.int t.2.1,.int t.2.2])
theorem iX{ps:List (Int×Int)}{i:Nat}{p:Int×Int}{f:Int×Int->Bool}(e:ps[i]?=Kb p)(h:(ps.take i).any f=Ke)(a:f p=Ke):(ps.take (i+1)).any f=false:=by
 rw[nS,e,List.any_append,h];simp[a]
theorem se{ps:List (Int×Int)}{i:Nat}{p:Int×Int}{f:Int×Int->Bool}(e:ps[i]?=Kb p)(a:f p=Kd):ps.any f=true:=ya.mpr ⟨p,GB e,a⟩
theorem V.int_inj{i j:Int}(h:V.int i=V.int j):i=j:=by cases h;rfl
theorem fP{i j:Int}(h:decide (V.int i=V.int j)=Kd):i=j:=V.int_inj (Kn h)
theorem iE{i j:Int}(h:¬ decide (V.int i=V.int j)=Kd):i≠j:=λe=>h (Kl (Ko V.int e))
theorem iY{p:Prop} [Decidable p] (h:decide p=Kd):p:=Kn h
theorem kP{p:Prop} [Decidable p] (h:¬ decide p=Kd):¬ p:=λe=>h (Kl e)
theorem dB{X:Cx}{K:W.Frag}(h:X.K=K):IxR X (Ai K):=h ▸ aG
theorem fk{X:Cx}{K:W.Frag}(h:X.K=K):IxR X (Aj K):=h ▸ bc
def bA(X:Cx)(N:List Str)(scope:GQ)(cl:List (Str×GD))(a:List GD)(C:GD)(s2:GP)(b:Hp):Cx :=
 { prog:=X.prog,w:=X.w,K:=X.K,mg:=X.mg,base:=X.base,A:=X.A,N:=N,s₀:=s2,H₀:=b,env:=Iq scope cl C X.env,outer:=X.stack,stack:=X.stack,ex:=a,fn:=λ_=>Ke,calm:=X.calm,pn:=[],xe:=λ_ _=>False }
def PIf(X:Cx)(d:List GW)(t:TT):Prop :=
 ∀(a:List (GD×Obj))(s:GP)(b:St)(H:Hp)(Q:Bool->Hp->Prop),Inv X a b H s->t b H Q ->
  GU (model X.prog X.w) X.A (forIn d Kd λc r=>if r=Kd then do let ok ←GX c X.env (eval c X.env);pure (ForInStep.yield ok)else pure (ForInStep.yield r)) (TP X a b Q) X.xe s
def Di:TT:=λ_ H Q=>Q Kd H
theorem bz{X:Cx}:PIf X [] Di:=λ_ _ _ H _ I h=>wpAny_tests_nil ⟨H,I,h⟩
theorem iF{X:Cx}{c:GW}{t:TT}(h:PT X c t):PIf X [c] t:=λa s b H Q I q=>wpAny_tests_one (h a s b H Q I q)
structure qv(X:Cx)(N:List Str)(fr:List Nat)(scope:GQ)(cl:List (Str×GD))(x:Str):Prop where
 clos:Ir scope X.env=pure cl
 kind:scope.kind=.function
 nocell:∀y∈scope.names,y.2≠.cell
 names:∀y∈scope.names,y.2=.local->scope.names.lookup y.1=Kb .local
 hx:scope.names.lookup x=Kb .local
 nd:N.Nodup
 n0:N[0]?=Kb x
 len:N.length=fr.length+1
 sub:∀(i:Nat)(y:Str),N[i+1]?=Kb y->∃j,fr[i]?=Kb j/\X.N[j]?=Kb y/\(X.env.kindOf y=Kb .cell\/X.env.kindOf y=Kb .free)/\((relabel scope X.env).names.lookup y=Kb .cell\/(relabel scope X.env).names.lookup y=Kb .free)
 cells:∀y c,cl.lookup y=Kb c->X.env.cells.lookup y=Kb c
 has:∀y,((relabel scope X.env).names.lookup y=Kb .cell\/(relabel scope X.env).names.lookup y=Kb .free)->∃c,cl.lookup y=Kb c
theorem dS{X:Cx}{scope:GQ}{x:Str}(kind:scope.kind=.function)(a:∀y∈scope.names,y.2≠.free)(b:∀y∈scope.names,y.2≠.cell)
  (names:∀y∈scope.names,y.2=.local->scope.names.lookup y.1=Kb .local)(f:scope.names.lookup x=Kb .local):qv X [x] [] scope [] x:=by
 have g:(relabel scope X.env).names=scope.names:=map_eq_self λy d=>by
  have z:(y.2 == HS.free)=false:=by simpa using a y d
  simp[z]
 have no:∀y,¬ ((relabel scope X.env).names.lookup y=Kb .cell\/(relabel scope X.env).names.lookup y=Kb .free):=λy h=>by
  rw[g]at h;rcases h with h|h
  .exact b _ (mem_of_lookup h) U
  .exact a _ (mem_of_lookup h) U
 exact⟨Iu a,kind,b,names,f,by simp,U,U,λi y e=>by simp at e,(λy c e=>by cases e),λy h=>Kk h (no y)⟩
theorem bD{X:Cx}{N:List Str}{fr:List Nat}{scope:GQ}{cl:List (Str×GD)}{x:Str}(clos:Ir scope X.env=pure cl)(kind:scope.kind=.function)(a:∀y∈scope.names,y.2≠.cell)
  (names:∀y∈scope.names,y.2=.local->scope.names.lookup y.1=Kb .local)(l:scope.names.lookup x=Kb .local)(f:N.Nodup)(g:N[0]?=Kb x)(b:N.length=fr.length+1)
  (sub:((List.range fr.length).all λi=>match N[i+1]?,fr[i]? with|some y,Kb j=>(X.N[j]? == Kb y) && ((X.env.kindOf y == Kb .cell) && ((relabel scope X.env).names.lookup y == Kb .cell))|_,_=>Ke)=Kd)
  (cells:∀p∈cl,X.env.cells.lookup p.1=Kb p.2)(d:((relabel scope X.env).names.all λp=>(p.2 != .cell && p.2 != .free) || (cl.lookup p.1).isSome)=Kd):qv X N fr scope cl x:=by
 refine⟨clos,kind,a,names,l,f,g,b,λi y e=>?_,λy c e=>cells _ (mem_of_lookup e),λy h=>?_⟩
 .have hi:i<fr.length:=by have:=(Gz.mp e).1;lia
  have z:=jt.mp sub i (ju.mpr hi);rw[e,Gy hi]at z;simp only[BO,beq_iff_eq]at z;exact⟨_,Gy hi,z.1,.inl z.2.1,.inl z.2.2⟩
 .have look:∀k,(relabel scope X.env).names.lookup y=Kb k->(k=.cell\/k=.free)->∃c,cl.lookup y=Kb c:=λk e m=>by
   have z:=jt.mp d _ (mem_of_lookup e);rcases m with rfl|rfl
   .exact DL.mp (by simpa using z)
   .exact DL.mp (by simpa using z)
  rcases h with h|h
  .exact look _ h (.inl U)
  .exact look _ h (.inr U)
def fQ(a:St)(fr:List Nat)(x:Option V):St:=x :: fr.map λj=>(a[j]?).join
def pD(J:It)(fr:List Nat)(tt:TT)(j:TE)(d:St)(Q:VK)(g:Hp):Prop:=∀D,g D=Kc->∃W:Nat->Nat->Hp->Prop,(∃m,W 0 m (upd g D (.lst [])))/\∀i m H,W i m H ->
 (J.stop i H/\Q (.ref D) H)\/(J.go i H/\∀x h,J.yld i H x h->tt (fQ d fr (Kb x)) h λb f=>if b=Kd then j (fQ d fr (Kb x)) f λy e=>∃c,e D=Kb (.lst c)/\c.length<GH/\∃a,a<m/\W (i+1) a (upd e D (.lst (c++[y])))
  else ∃a,a<m/\W (i+1) a f)
def zw(b:TI)(fr:List Nat)(tt:TT)(c:TE):TE:=λa H Q=>b a H λJ d=>pD J fr tt c a Q d
section
variable{prog:GC}{w:Gn}{A:GO}{R:HG->GP->Prop}{s:GP}
theorem jd{f a d:GW}{e:List GW}{scope:GQ}{pos:Pos}{it g:Gf}{b:Env}(J:Nat->GP->Prop)
  (turn:∀n s,J n s->GU (model prog w) A (Hq it) (λr j=>match r with
   |none=>R (.ok .next) j
   |some v=>GU (model prog w) A (Hr a it v) (λ_ s2=>GU (model prog w) A (assign a b v) (λ_ o =>
     GU (model prog w) A (forIn e Kd λc r=>if r=Kd then do let ok ←GX c b (eval c b);pure (ForInStep.yield ok)else pure (ForInStep.yield r)) (λok i =>
      if ok=Kd then GU (model prog w) A (eval f b) (λy l=>GU (model prog w) A (call (.builtin "list.append") [g,y]) (λ_ k=>∃m,m<n/\J m k) (λ_ _=>False) l) (λ_ _=>False) i
      else ∃m,m<n/\J m i) (λ_ _=>False) o) (λ_ _=>False) s2) (λ_ _=>False) j) (λ_ _=>False) s)
  (n:Nat)(h:J n s):HH (model prog w) A (.compLoop (.ListComp f [⟨a,d,e,0⟩] scope pos) 0 it g b) R s:=by
 refine codeAny_loop U J (λn s t=>?_) n h;show GU _ A ((compTurn (.ListComp f [⟨a,d,e,0⟩] scope pos) 0 it g b).onRaise (λx=>do noteFrame x b;theTreesLotGoes x)) _ _ s;refine wpAny_noted ?_;rw[compTurn_list];refine DN (Hm (DN (G6 (turn n s t) (λr j q=>?_) λ_ _ z=>z.elim)));cases r with
 |none=>exact D0 q
 |some v =>
  refine DN (G6 q (λ_ s2 D=>?_) λ_ _ z=>z.elim);refine DN (G6 D (λ_ o C=>DN (G6 C (λok i p=>?_) λ_ _ z=>z.elim)) λ_ _ z=>z.elim);cases ok with
  |false=>exact D0 ⟨U,p⟩
  |true=>exact DN (DN (G6 p (λy l B=>DN (G6 B (λ_ k u=>D0 (D0 ⟨U,u⟩)) λ_ _ z=>z.elim)) λ_ _ z=>z.elim))
end
section
variable{elt iter:GW}{ifs:List GW}{x:Str}{px:Pos}{scope:GQ}{cl:List (Str×GD)}{N:List Str}{fr:List Nat}{tt:TT}{te:TE}
theorem oA{F:List (GD×Obj)}{q:St}{s2:GP}{h:Hp}{it:GD}{f:List GD}{tn:Nat->GG->Prop}{J:It}{Q:VK}{E:Gf->GP->Prop}{RR:Gf->GD->HG->GP->Prop}
  (O:qv X N fr scope cl x)(hc:X.calm=Kd)(g:Inv X F q h s2)(T:Turn X.prog X.w X.K (.Name x px) J f it tn)(a1:tn 0 s2.heap)(I:∀b∈f,i7 X F h b)
  (ht:∀f C s H,PIf (bA X N scope cl f C s H) ifs tt)(he:∀f C s H,PE (bA X N scope cl f C s H) elt te)
  (hW:pD J fr tt te q Q h)
  (fin:∀D C s' H',s2.heap.objs.size<=C->H' C=Kc->(∃m,s'.heap.Ns C m)->Inv X F q H' s'->Q (.ref D) H'->RR (.ref D) C (.ok .next) s') :
  GU (model X.prog X.w) X.A (Iv []) (λa7 s3=>GU (model X.prog X.w) X.A (Iw scope X.env.globals cl [] X.env.qual Kc .none (Kb X.env)) (λqw s4 =>
   HH (model X.prog X.w) X.A (.compStart (.ListComp elt [⟨.Name x px,iter,ifs,0⟩] scope pos) 0 (.ref it) a7 { qw with scope:=relabel scope X.env }) (RR a7 qw.locals) s4) E s3) E s2:=by
 refine Iy (Iz O.nocell (by intro y hy;simp at hy) (λh1 a2 M=>?_) O.kind);dsimp only at a2 M⊢;generalize hG:s2.heap.push { cls:=.type "list",dict:=Kc,data:=.seq ([]:List Gf).toArray }=G at a2 M⊢;have Y:G.objs.size=s2.heap.objs.size+1:=by rw[←hG,GG.size_push]
 have B:∀b o,s2.heap.get? b=Kb o->h1.get? b=Kb o:=λb o e=>M.extBut b o (yv (by rw[Y];exact zc (GG.lt_size e))) (GG.get?_push_of_some _ (hG ▸ GG.get?_push_of_some _ e))
 have gQ:h1.get? s2.heap.objs.size=Kb { cls:=.type "list",data:=.seq ([]:List Gf).toArray 0 }:=M.extBut _ _ (yv (by rw[Y];exact zg _)) (GG.get?_push_of_some _ (hG ▸ GG.get?_push_size _ U));have hD:h s2.heap.objs.size=none:=g.fresh;have L:(bA X N scope cl f G.objs.size s2 h).Ok:=by
  refine⟨g.ok.mod,O.kind,g.ok.glob,g.ok.blt,by show s2.heap.objs.size<=G.objs.size;rw[Y];exact zd _,λy z c e1 e2=>g.ok.inj y z c (O.cells y c e1) (O.cells z c e2),λy hy=>O.has y hy,λy c z=>Kk (show Ke=Kd from z) Bool.false_ne_true,g.ok.hd,g.ok.frames,.inl U,
   λb a=>⟨?_,λy c e=>(I b a).2.2.2.2.1 y c (O.cells y c e)⟩,g.bs,yW g.ok.bsz g.sz,λb o e a=>?_,λb a z=>?_,g.stack,g.stkFree⟩
  .obtain⟨o,e,_⟩:=T.obj _ _ a1 b a;show b≠G.objs.size;exact yv (by rw[Y];exact zc (GG.lt_size e))
  .rcases(I b a).2.2.2.1 with z|z
   .exact g.ok.noex b o e z
   .exact Kk (yU (GG.lt_size e) (yW g.ok.bsz z)) (ze _)
  .rcases dt.mp (g.stkSub b z)with z|z
   .exact(I b a).2.1 z
   .exact(I b a).2.2.1 z
 have gR:∀{H':Hp},(∀b∈f,H' b=Kc)->∀b∈f,i7 (bA X N scope cl f G.objs.size s2 h) [] H' b:=λhn b a =>
  ⟨hn b a,(L.exf b a).1,L.exfs b a,.inl a,(L.exf b a).2,λp hp=>Kk (show p∈([]:List (GD×Obj))from hp) (by simp)⟩
 have I':Inv (bA X N scope cl f G.objs.size s2 h) [] (fQ q fr Kc) (upd h s2.heap.objs.size (.lst [])) { s2 with heap:=h1,toks:=s2.toks+([]:List (Str×Gf)).length }:=by
  refine⟨L,U,g.bare,Un.laid B (yr _) hD,⟨_,a2,λi y v e1 e2 e3=>?_⟩,λy c e=>?_,?_,λy c e=>?_,λp hp=>Kk (show p∈([]:List (GD×Obj))from hp) (by simp),g.hok.laid B (yr _) ⟨yY _,[],0,.nil,gQ⟩,?_⟩
  .cases i with
   |zero=>cases e2
   |succ i =>
    obtain⟨j,q1,q2,q3,q4⟩:=O.sub i y e1;have P:(q[j]?).join=Kb v:=by
     have:(fr.map λj=>(q[j]?).join)[i]?=Kb (Kb v):=e2;rw[gI,q1]at this;exact Option.some.inj this
    have e4:q[j]?=Kb (Kb v):=by
     cases z:q[j]? with
     |none=>rw[z]at P;cases P
     |some t=>rw[z]at P;exact Ko Kb P
    obtain⟨m,_,hl⟩:=g.loc;have b3:Vis X.env.scope y:=.inr q3;obtain⟨u,r,l⟩:=hl j y v q2 e4 b3;refine⟨u,r,.inr ⟨q4,?_⟩⟩;obtain⟨c',a5⟩:=O.has y q4;rcases l with⟨k,_⟩|⟨_,c,ec,ic⟩
    .rcases q3 with z|z
     .rw[z]at k;cases k
     .rw[z]at k;cases k
    .have:=O.cells y c' a5;have e':c=c':=Option.some.inj (ec.symm.trans this);obtain⟨o,ho,hd⟩:=ic;rw[e']at ho;exact⟨c',a5,o,B c' o ho,hd⟩
  .obtain⟨v,o,ho,hd⟩:=g.cell y c (O.cells y c e);exact⟨v,o,B c o ho,hd⟩
  .show upd h s2.heap.objs.size (.lst []) G.objs.size=Kc;rw[ay (zb (by rw[Y];exact zg _))];exact g.hok.fresh (by rw[Y];exact zd _)
  .obtain⟨v,o,ho,hd⟩:=g.cell y c (O.cells y c e);rw[ay (yv (GG.lt_size ho))];exact g.freeC y c (O.cells y c e)
  .show(fQ q fr Kc).length=N.length;rw[O.len];simp[fQ]
 have a4:tn 0 h1:=T.keep _ _ _ a1 λb a o e=>B b o e
 have R:∀s3:GP,s3={ s2 with heap:=h1,toks:=s2.toks+([]:List (Str×Gf)).length } ->
   HH (model X.prog X.w) X.A (.compLoop (.ListComp elt [⟨.Name x px,iter,ifs,0⟩] scope pos) 0 (.ref it) (.ref s2.heap.objs.size) (Iq scope cl G.objs.size X.env)) (RR (.ref s2.heap.objs.size) G.objs.size) s3:=by
  rintro s3 rfl;obtain⟨W,⟨m0,w0⟩,a8⟩:=hW _ hD
  refine jd (λn s'=>∃i t H',Inv (bA X N scope cl f G.objs.size s2 h) [] (fQ q fr t) H' s'/\tn i s'.heap/\(∀b∈f,H' b=Kc)/\W i n H') ?_ m0
   ⟨0,Kc,_,I',a4,λb a=>by
    rw[ay (by obtain⟨o,e,_⟩:=T.obj _ _ a1 b a;exact yv (GG.lt_size e))];exact(I b a).1,w0⟩
  rintro n s' ⟨i,t,H',I3,a3,a6,w3⟩;rcases a8 i n H' w3 with⟨a9,qn⟩|⟨go,step⟩
  .refine thn (T.done (bA X N scope cl f G.objs.size s2 h) U U U hc i [] s' _ H' _ I3 (gR a6) a3 a9) λr s4 ⟨hr,I4⟩=>?_
   subst hr;obtain⟨m,V,_⟩:=I4.loc;refine fin _ _ s4 H' (by rw[Y];exact zd _) I4.free ⟨m,V⟩ (g.call' (ch:=f) I4.os I4.base I4.hok I4.bare λb a=>?_) qn;exact⟨(I b a).2.2.2.1,(I b a).2.1,(I b a).2.2.2.2.1,(I b a).2.2.2.2.2⟩
  .refine thn (T.item (bA X N scope cl f G.objs.size s2 h) U U U hc i [] s' _ H' _ I3 (gR a6) a3 go) λr s4 ⟨u,hr,h4⟩=>?_
   subst hr;refine thn h4 λ_ s5 ⟨y,H5,I5,r5,y5,a0,b5⟩=>?_
   have c0:=I5.pinned (gR b5) (T.obj _ _ a0);have lx:(bA X N scope cl f G.objs.size s2 h).env.scope.names.lookup x=Kb .local:=lookup_relabel_local O.hx;refine thn (aD (X:=bA X N scope cl f G.objs.size s2 h) (i:=0) O.nd O.n0 (.inl lx) (.inr lx) _ s5 _ H5 y u (λb1 H'=>b1=fQ q fr (Kb y)/\H'=H5) c0 r5 ⟨U,U⟩) λ_ s6 ⟨c1,H6,I6,e6,b6⟩=>?_
   subst e6;subst b6
   have again:∀{Z:St}{H7:Hp}{s7:GP}{S:Nat},Z=fQ q fr (Kb y)->Inv (bA X N scope cl f G.objs.size s2 h) ([]++ja f s5.heap) Z H7 s7->S<n->W (i+1) S H7 ->
     ∃m,m<n/\∃i t H',Inv (bA X N scope cl f G.objs.size s2 h) [] (fQ q fr t) H' s7/\tn i s7.heap/\(∀b∈f,H' b=Kc)/\W i m H':=λ{Z H7 s7 S} e7 I7 V w7=>by
    subst e7;refine⟨S,V,i+1,Kb y,H7,I7.unpinned,T.keep _ _ _ a0 λb a o e=>(I7.pin (b,o) (jr _ (jr _ (cC a e)))).1,λb a=>?_,w7⟩;obtain⟨o,e,d⟩:=T.obj _ _ a0 b a;exact(I7.pin (b,o) (jr _ (jr _ (cC a e)))).2.1
   refine thn (ht f G.objs.size s2 h _ s6 _ H6 _ I6 (step y H6 y5)) λok s7 ⟨H7,I7,q7⟩=>?_
   cases ok with
   |false =>
    rw[Ki Bool.false_ne_true]at q7⊢;obtain⟨S,V,w7⟩:=q7;exact again U I7 V w7
   |true =>
    rw[Kj U]at q7⊢;refine thn (he f G.objs.size s2 h _ s7 _ H7 _ I7 q7) λu8 s8 ⟨v8,H8,I8,r8,ys,b4,b0,S,V,w8⟩=>?_
    refine thn (bh (X:=bA X N scope cl f G.objs.size s2 h) _ s8 _ H8 (.ref s2.heap.objs.size) [v8] _ [u8] (λ_ H9=>W (i+1) S H9) I8 U (.cons r8 .nil) ⟨_,ys,v8,U,U,b4,b0,w8⟩) λ_ s9 ⟨_,H9,I9,_,w9⟩=>?_
    exact again U I9 V w9
 exact IA (R _ U) (T.self _ 0 _ _ _ a4 (R _ U))
theorem Inv.left{a:List (GD×Obj)}{h g:St}{s2 s':GP}{q H':Hp}{C:GD}{h':GG}(f:Inv X a g q s2)(n:Inv X a h H' s')(d:s2.heap.objs.size<=C)(l:H' C=Kc)(i:GG.SameBut C s'.heap h'):Inv X a h H' { s' with heap:=h' }:=by
 refine n.turned (t':=s'.toks) (it:=C) (λb o m e=>(i.2 b m).trans e) l (zb (yU f.lt d)) (.inr (yW f.sz d)) (λy c e=>?_) λp j=>?_
 .obtain⟨v,o,k,_⟩:=f.cell y c e;exact yv (yU (GG.lt_size k) d)
 .exact yv (yU (GG.lt_size (f.pin p j).1) d)
theorem cM{i:TI}(hi:PI X (.Name x px) iter i)(O:qv X N fr scope cl x)(r:X.calm=Kd)(k:∀b C s H,PIf (bA X N scope cl b C s H) ifs tt)(p:∀b C s H,PE (bA X N scope cl b C s H) elt te)
  (l:∀v,Hy iter X.env v=pure v:=by intro _;rfl):PE X (.ListComp elt [⟨.Name x px,iter,ifs,0⟩] scope pos) (zw i fr tt te):=by
 intro a s g H Q I h;rw[IB];refine IC (use:=Kc) U l O.clos O.kind O.names (thn (hi a s g H _ I h) λv L z=>thn z λG s2 y=>?_);obtain⟨it,b,K,J,R,e,j,T,c,B,t⟩:=y;subst e;refine oA (RR:=λf C=>ID (model X.prog X.w) X.A X.xe Kc (EP X a g Q) f C) O r j T c B k p t λD C M F u n ⟨m,o⟩ E q=>?_
 exact⟨m,o,λP d=>⟨.ref D,F,j.left E u n d,U,q⟩⟩
theorem lA{E:TI}{i:Nat}{y:Str}{d F:Pos}(hN:X.N.Nodup)(G:X.N[i]?=Kb y)(V:Loc X.env.scope y)(hi:PI X (.Name x px) iter E)(O:qv X N fr scope cl x)(Z:X.calm=Kd)
  (K:∀f C s H,PIf (bA X N scope cl f C s H) ifs tt)(Y:∀f C s H,PE (bA X N scope cl f C s H) elt te)(L:∀v,Hy iter X.env v=pure v:=by intro _;rfl)
  (n:Hi (.ListComp elt [⟨.Name x px,iter,ifs,0⟩] scope pos) (Kb (.Name y d)) F.line X.env=pure true:=by rfl)(W:X.fn y=Kd\/X.env.scope.names.lookup y=Kb .local:=by first|exact .inl U|exact .inr U|assumption) :
  PS X (.Assign [.Name y d] (.ListComp elt [⟨.Name x px,iter,ifs,0⟩] scope pos) F) (vS (zw E fr tt te) (kK i)):=by
 intro b s B H k I h;rw[IE _ _ _ _ n];refine DN (Hm (DN ?_));show GU _ X.A (do let _ ←comprehension (.ListComp elt [⟨.Name x px,iter,ifs,0⟩] scope pos) scope X.env _ (Iv []) Ke (eval iter X.env) (Kb (assign (.Name y d) X.env))) _ _ s;refine DN (G6 (IC (use:=Kb (assign (.Name y d) X.env)) (Q:=λ_ c=>SP X b k .next c) U L O.clos O.kind O.names (thn (hi b s B H _ I h) λv s1 h1=>thn h1 λa0 s2 h2=>?_)) (λ_ c M=>D0 (D0 M)) λ_ _ z=>z);obtain⟨it,f,tn,J,H2,e,g,T,l,f2,hW⟩:=h2;subst e;refine oA (Q:=λv H1=>kK i v B H1 k.nx) (RR:=λu C=>ID (model X.prog X.w) X.A X.xe (Kb (assign (.Name y d) X.env)) (λ_ c=>SP X b k .next c) u C) O Z g T l f2 K Y hW λD C c H' j R ⟨m,S⟩ I' q=>?_
 show GU _ X.A (assign (.Name y d) X.env (.ref D)) _ _ c;refine Hl (iC I' hN G V (v:=.ref D) U (λs3 I3 ⟨a,p,ha⟩=>?_) W);have t:C≠a:=by
  rcases ha with z|z
  .rw[z];exact zb (yU g.lt j)
  .obtain⟨v,o,P,_⟩:=g.cell y a z;exact zb (yU (GG.lt_size P) j)
 exact⟨m,S.sameBut p t,λh' r=>⟨_,H',g.left I3 j R r,q⟩⟩
def dG(c:GD->Nat->List V->Hp->Prop)(D:GD)(i n:Nat)(d:Hp):Prop:=∃a,a<n-i/\a=n-(i+1)/\i+1<=n/\∃b,c D (i+1) b d
def cB(c:GD->Nat->List V->Hp->Prop)(D:GD)(i n:Nat):VK:=λy b=>∃a,b D=Kb (.lst a)/\a.length<GH/\dG c D i n (upd b D (.lst (a++[y])))
theorem dG.mk{a:GD->Nat->List V->Hp->Prop}{D:GD}{i n:Nat}{b:Hp}{zs:List V}(hi:i<n)(h:a D (i+1) zs b):dG a D i n b:=⟨n-(i+1),by lia,U,hi,zs,h⟩
theorem cB.mk{b:GD->Nat->List V->Hp->Prop}{D:GD}{i n:Nat}{a:Hp}{ys:List V}{y:V}(hi:i<n)(e:a D=Kb (.lst ys))(c:ys.length<GH)(h:b D (i+1) (ys++[y]) (upd a D (.lst (ys++[y])))):cB b D i n y a:=⟨ys,e,c,.mk hi h⟩
theorem dq{K:W.Frag}{a:GD}{xs:List V}{g:St}{d:Hp}{Q:VK}(c:GD->Nat->List V->Hp->Prop)(n:∀D,d D=Kc->c D 0 [] (upd d D (.lst [])))
  (l:∀D i ys H,d D=Kc->i<=xs.length->c D i ys H->SqL K H a xs)
  (k:∀D i x ys H,d D=Kc->xs[i]?=Kb x->c D i ys H->tt (fQ g fr (Kb x)) H λb j=>if b=Kd then te (fQ g fr (Kb x)) j (cB c D i xs.length)else dG c D i xs.length j)
  (hd:∀D ys H,d D=Kc->c D xs.length ys H->Q (.ref D) H):pD (Itl K a) fr tt te g Q d:=by
 intro D f;refine⟨λi m H=>m=xs.length-i/\i<=xs.length/\∃ys,c D i ys H,⟨_,U,yY _,[],n D f⟩,?_⟩;rintro i m H ⟨rfl,hi,ys,p⟩;have q:=l D i ys H f hi p;by_cases h:i<xs.length
 .refine .inr ⟨⟨xs,xs[i],q,by simp[h]⟩,λx o y=>?_⟩;obtain⟨e,y⟩:=y;subst e;exact k D i x ys _ f (y xs q) p
 .have e:i=xs.length:=by lia
  subst e;exact .inl ⟨⟨xs,q,yr _⟩,hd D ys H f p⟩
theorem cn{lo:Int}{n:Nat}{f:St}{c:Hp}{Q:VK}(a:GD->Nat->List V->Hp->Prop)(k:∀D,c D=Kc->a D 0 [] (upd c D (.lst [])))
  (j:∀D i ys H,c D=Kc->i<n->a D i ys H->tt (fQ f fr (Kb (.int (lo+i)))) H λb h=>if b=Kd then te (fQ f fr (Kb (.int (lo+i)))) h (cB a D i n)else dG a D i n h)
  (hd:∀D ys H,c D=Kc->a D n ys H->Q (.ref D) H):pD (Itr lo n) fr tt te f Q c:=by
 intro D g;refine⟨λi m H=>m=n-i/\i<=n/\∃ys,a D i ys H,⟨_,U,yY _,[],k D g⟩,?_⟩;rintro i m H ⟨rfl,hi,ys,p⟩;by_cases d:i<n
 .refine .inr ⟨d,λx l y=>?_⟩;obtain⟨e,y⟩:=y;subst e;subst y;exact j D i ys _ g d p
 .have e:i=n:=by lia
  subst e;exact .inl ⟨yr _,hd D ys H g p⟩
end
structure lS(X:Cx)(N:List Str)(k:Nat)(fr:List Nat)(scope:GQ)(cl:List (Str×GD)):Prop where
 clos:Ir scope X.env=pure cl
 kind:scope.kind=.function
 nocell:∀y∈scope.names,y.2≠.cell
 names:∀y∈scope.names,y.2=.local->scope.names.lookup y.1=Kb .local
 len:N.length=k+fr.length
 sub:∀(i:Nat)(y:Str),N[k+i]?=Kb y->∃j,fr[i]?=Kb j/\X.N[j]?=Kb y/\(X.env.kindOf y=Kb .cell\/X.env.kindOf y=Kb .free)/\((relabel scope X.env).names.lookup y=Kb .cell\/(relabel scope X.env).names.lookup y=Kb .free)
 cells:∀y c,cl.lookup y=Kb c->X.env.cells.lookup y=Kb c
 has:∀y,((relabel scope X.env).names.lookup y=Kb .cell\/(relabel scope X.env).names.lookup y=Kb .free)->∃c,cl.lookup y=Kb c
theorem eK{X:Cx}{N:List Str}{k:Nat}{scope:GQ}(d:N.length=k)(kind:scope.kind=.function)(a:∀y∈scope.names,y.2≠.free)(b:∀y∈scope.names,y.2≠.cell)
  (names:∀y∈scope.names,y.2=.local->scope.names.lookup y.1=Kb .local):lS X N k [] scope []:=by
 have g:(relabel scope X.env).names=scope.names:=map_eq_self λy f=>by
  have z:(y.2 == HS.free)=false:=by simpa using a y f
  simp[z]
 have no:∀y,¬ ((relabel scope X.env).names.lookup y=Kb .cell\/(relabel scope X.env).names.lookup y=Kb .free):=λy h=>by
  rw[g]at h;rcases h with h|h
  .exact b _ (mem_of_lookup h) U
  .exact a _ (mem_of_lookup h) U
 refine⟨Iu a,kind,b,names,by rw[d];rfl,λi y e=>?_,(λy c e=>by cases e),λy h=>Kk h (no y)⟩;have:=(Gz.mp e).1;lia
def bG(a:St)(fr:List Nat)(ts:St):St:=ts++fr.map λj=>(a[j]?).join
def fm(J:It)(p:TG)(k:Nat)(fr:List Nat)(tt:TT)(o:TE)(f:St)(Q:VK)(l:Hp):Prop:=∀D,l D=Kc->∃W:Nat->Nat->Hp->Prop,(∃m,W 0 m (upd l D (.lst [])))/\∀i m H,W i m H ->
 (J.stop i H/\Q (.ref D) H)\/(J.go i H/\∀x n,J.yld i H x n->∀g:St,g.length=k->p x (bG f fr g) n λa q=>(∃d:St,d.length=k/\a=bG f fr d)/\tt a q λb j=>if b=Kd then o a j λy h=>∃e,h D=Kb (.lst e)/\e.length<GH/\∃c,c<m/\W (i+1) c (upd h D (.lst (e++[y])))
  else ∃c,c<m/\W (i+1) c j)
def sf(b:TI)(d:TG)(k:Nat)(fr:List Nat)(tt:TT)(c:TE):TE:=λa H Q=>b a H λJ e=>fm J d k fr tt c a Q e
section
variable{elt iter tg:GW}{ifs:List GW}{scope:GQ}{cl:List (Str×GD)}{N:List Str}{k:Nat}{fr:List Nat}{gt:TG}{tt:TT}{te:TE}
theorem lT{F:List (GD×Obj)}{x:St}{s2:GP}{h:Hp}{it:GD}{f:List GD}{tn:Nat->GG->Prop}{J:It}{Q:VK}{E:Gf->GP->Prop}{RR:Gf->GD->HG->GP->Prop}
  (O:lS X N k fr scope cl)(hc:X.calm=Kd)(g:Inv X F x h s2)(T:Turn X.prog X.w X.K tg J f it tn)(a1:tn 0 s2.heap)(I:∀b∈f,i7 X F h b)
  (ht:∀f C s H,PIf (bA X N scope cl f C s H) ifs tt)(he:∀f C s H,PE (bA X N scope cl f C s H) elt te)
  (hg:∀f C s H,PG (bA X N scope cl f C s H) tg gt)(hW:fm J gt k fr tt te x Q h)
  (fin:∀D C s' H',s2.heap.objs.size<=C->H' C=Kc->(∃m,s'.heap.Ns C m)->Inv X F x H' s'->Q (.ref D) H'->RR (.ref D) C (.ok .next) s') :
  GU (model X.prog X.w) X.A (Iv []) (λa9 s3=>GU (model X.prog X.w) X.A (Iw scope X.env.globals cl [] X.env.qual Kc .none (Kb X.env)) (λqw s4 =>
   HH (model X.prog X.w) X.A (.compStart (.ListComp elt [⟨tg,iter,ifs,0⟩] scope pos) 0 (.ref it) a9 { qw with scope:=relabel scope X.env }) (RR a9 qw.locals) s4) E s3) E s2:=by
 refine Iy (Iz O.nocell (by intro y hy;simp at hy) (λh1 a2 M=>?_) O.kind);dsimp only at a2 M⊢;generalize hG:s2.heap.push { cls:=.type "list",dict:=Kc,data:=.seq ([]:List Gf).toArray }=G at a2 M⊢;have Y:G.objs.size=s2.heap.objs.size+1:=by rw[←hG,GG.size_push]
 have B:∀b o,s2.heap.get? b=Kb o->h1.get? b=Kb o:=λb o e=>M.extBut b o (yv (by rw[Y];exact zc (GG.lt_size e))) (GG.get?_push_of_some _ (hG ▸ GG.get?_push_of_some _ e))
 have gQ:h1.get? s2.heap.objs.size=Kb { cls:=.type "list",data:=.seq ([]:List Gf).toArray 0 }:=M.extBut _ _ (yv (by rw[Y];exact zg _)) (GG.get?_push_of_some _ (hG ▸ GG.get?_push_size _ U));have hD:h s2.heap.objs.size=none:=g.fresh;have L:(bA X N scope cl f G.objs.size s2 h).Ok:=by
  refine⟨g.ok.mod,O.kind,g.ok.glob,g.ok.blt,by show s2.heap.objs.size<=G.objs.size;rw[Y];exact zd _,λy z c e1 e2=>g.ok.inj y z c (O.cells y c e1) (O.cells z c e2),λy hy=>O.has y hy,λy c z=>Kk (show Ke=Kd from z) Bool.false_ne_true,g.ok.hd,g.ok.frames,.inl U,
   λb a=>⟨?_,λy c e=>(I b a).2.2.2.2.1 y c (O.cells y c e)⟩,g.bs,yW g.ok.bsz g.sz,λb o e a=>?_,λb a z=>?_,g.stack,g.stkFree⟩
  .obtain⟨o,e,_⟩:=T.obj _ _ a1 b a;show b≠G.objs.size;exact yv (by rw[Y];exact zc (GG.lt_size e))
  .rcases(I b a).2.2.2.1 with z|z
   .exact g.ok.noex b o e z
   .exact Kk (yU (GG.lt_size e) (yW g.ok.bsz z)) (ze _)
  .rcases dt.mp (g.stkSub b z)with z|z
   .exact(I b a).2.1 z
   .exact(I b a).2.2.1 z
 have gR:∀{H':Hp},(∀b∈f,H' b=Kc)->∀b∈f,i7 (bA X N scope cl f G.objs.size s2 h) [] H' b:=λhn b a =>
  ⟨hn b a,(L.exf b a).1,L.exfs b a,.inl a,(L.exf b a).2,λp hp=>Kk (show p∈([]:List (GD×Obj))from hp) (by simp)⟩
 have I':Inv (bA X N scope cl f G.objs.size s2 h) [] (bG x fr (List.replicate k Kc)) (upd h s2.heap.objs.size (.lst [])) { s2 with heap:=h1,toks:=s2.toks+([]:List (Str×Gf)).length }:=by
  refine⟨L,U,g.bare,Un.laid B (yr _) hD,⟨_,a2,λi y v e1 e2 e3=>?_⟩,λy c e=>?_,?_,λy c e=>?_,λp hp=>Kk (show p∈([]:List (GD×Obj))from hp) (by simp),g.hok.laid B (yr _) ⟨yY _,[],0,.nil,gQ⟩,?_⟩
  .by_cases a6:i<k
   .have q:(List.replicate k Kc++fr.map λj=>(x[j]?).join)[i]?=Kb (Kb v):=e2;rw[iP (by rw[lq];exact a6),List.getElem?_replicate,Kj a6]at q;cases q
   .obtain⟨j,q1,q2,q3,q4⟩:=O.sub (i-k) y (by rw[show k+(i-k)=i by lia];exact e1);have q:(x[j]?).join=Kb v:=by
     have:(List.replicate k Kc++fr.map λj=>(x[j]?).join)[i]?=Kb (Kb v):=e2;rw[ll (by rw[lq];lia),lq,gI,q1]at this;exact Option.some.inj this
    have e4:x[j]?=Kb (Kb v):=by
     cases z:x[j]? with
     |none=>rw[z]at q;cases q
     |some t=>rw[z]at q;exact Ko Kb q
    obtain⟨m,_,hl⟩:=g.loc;have b4:Vis X.env.scope y:=.inr q3;obtain⟨u,r,l⟩:=hl j y v q2 e4 b4;refine⟨u,r,.inr ⟨q4,?_⟩⟩;obtain⟨c',a7⟩:=O.has y q4;rcases l with⟨k,_⟩|⟨_,c,ec,ic⟩
    .rcases q3 with z|z
     .rw[z]at k;cases k
     .rw[z]at k;cases k
    .have:=O.cells y c' a7;have e':c=c':=Option.some.inj (ec.symm.trans this);obtain⟨o,ho,hd⟩:=ic;rw[e']at ho;exact⟨c',a7,o,B c' o ho,hd⟩
  .obtain⟨v,o,ho,hd⟩:=g.cell y c (O.cells y c e);exact⟨v,o,B c o ho,hd⟩
  .show upd h s2.heap.objs.size (.lst []) G.objs.size=Kc;rw[ay (zb (by rw[Y];exact zg _))];exact g.hok.fresh (by rw[Y];exact zd _)
  .obtain⟨v,o,ho,hd⟩:=g.cell y c (O.cells y c e);rw[ay (yv (GG.lt_size ho))];exact g.freeC y c (O.cells y c e)
  .show(bG x fr (List.replicate k Kc)).length=N.length;rw[O.len];simp[bG]
 have a5:tn 0 h1:=T.keep _ _ _ a1 λb a o e=>B b o e
 have P:∀s3:GP,s3={ s2 with heap:=h1,toks:=s2.toks+([]:List (Str×Gf)).length } ->
   HH (model X.prog X.w) X.A (.compLoop (.ListComp elt [⟨tg,iter,ifs,0⟩] scope pos) 0 (.ref it) (.ref s2.heap.objs.size) (Iq scope cl G.objs.size X.env)) (RR (.ref s2.heap.objs.size) G.objs.size) s3:=by
  rintro s3 rfl;obtain⟨W,⟨m0,w0⟩,b0⟩:=hW _ hD
  refine jd (λn s'=>∃i R H',R.length=k/\Inv (bA X N scope cl f G.objs.size s2 h) [] (bG x fr R) H' s'/\tn i s'.heap/\(∀b∈f,H' b=Kc)/\W i n H') ?_ m0
   ⟨0,List.replicate k Kc,_,lq,I',a5,λb a=>by
    rw[ay (by obtain⟨o,e,_⟩:=T.obj _ _ a1 b a;exact yv (GG.lt_size e))];exact(I b a).1,w0⟩
  rintro n s' ⟨i,R,H',b6,I3,a4,a8,w3⟩;rcases b0 i n H' w3 with⟨b1,qn⟩|⟨go,step⟩
  .refine thn (T.done (bA X N scope cl f G.objs.size s2 h) U U U hc i [] s' _ H' _ I3 (gR a8) a4 b1) λr s4 ⟨hr,I4⟩=>?_
   subst hr;obtain⟨m,V,_⟩:=I4.loc;refine fin _ _ s4 H' (by rw[Y];exact zd _) I4.free ⟨m,V⟩ (g.call' (ch:=f) I4.os I4.base I4.hok I4.bare λb a=>?_) qn;exact⟨(I b a).2.2.2.1,(I b a).2.1,(I b a).2.2.2.2.1,(I b a).2.2.2.2.2⟩
  .refine thn (T.item (bA X N scope cl f G.objs.size s2 h) U U U hc i [] s' _ H' _ I3 (gR a8) a4 go) λr s4 ⟨u,hr,h4⟩=>?_
   subst hr;refine thn h4 λ_ s5 ⟨y,H5,I5,r5,y5,a0,c0⟩=>?_
   have c1:=I5.pinned (gR c0) (T.obj _ _ a0);refine thn (hg f G.objs.size s2 h _ s5 _ H5 y u _ c1 r5 (step y H5 y5 R b6)) λ_ s6 ⟨c2,H6,I6,⟨a3,Aq,e6⟩,q6⟩=>?_
   subst e6
   have again:∀{Z:St}{H7:Hp}{s7:GP}{S:Nat},Z=bG x fr a3->Inv (bA X N scope cl f G.objs.size s2 h) ([]++ja f s5.heap) Z H7 s7->S<n->W (i+1) S H7 ->
     ∃m,m<n/\∃i R H',R.length=k/\Inv (bA X N scope cl f G.objs.size s2 h) [] (bG x fr R) H' s7/\tn i s7.heap/\(∀b∈f,H' b=Kc)/\W i m H':=λ{Z H7 s7 S} e7 I7 V w7=>by
    subst e7;refine⟨S,V,i+1,a3,H7,Aq,I7.unpinned,T.keep _ _ _ a0 λb a o e=>(I7.pin (b,o) (jr _ (jr _ (cC a e)))).1,λb a=>?_,w7⟩;obtain⟨o,e,d⟩:=T.obj _ _ a0 b a;exact(I7.pin (b,o) (jr _ (jr _ (cC a e)))).2.1
   refine thn (ht f G.objs.size s2 h _ s6 _ H6 _ I6 q6) λok s7 ⟨H7,I7,q7⟩=>?_
   cases ok with
   |false =>
    rw[Ki Bool.false_ne_true]at q7⊢;obtain⟨S,V,w7⟩:=q7;exact again U I7 V w7
   |true =>
    rw[Kj U]at q7⊢;refine thn (he f G.objs.size s2 h _ s7 _ H7 _ I7 q7) λu8 s8 ⟨v8,H8,I8,r8,ys,b5,b3,S,V,w8⟩=>?_
    refine thn (bh (X:=bA X N scope cl f G.objs.size s2 h) _ s8 _ H8 (.ref s2.heap.objs.size) [v8] _ [u8] (λ_ H9=>W (i+1) S H9) I8 U (.cons r8 .nil) ⟨_,ys,v8,U,U,b5,b3,w8⟩) λ_ s9 ⟨_,H9,I9,_,w9⟩=>?_
    exact again U I9 V w9
 exact IA (P _ U) (T.self _ 0 _ _ _ a5 (P _ U))
theorem dU{i:TI}(hi:PI X tg iter i)(O:lS X N k fr scope cl)(u:X.calm=Kd)(r:∀b C s H,PG (bA X N scope cl b C s H) tg gt)(l:∀b C s H,PIf (bA X N scope cl b C s H) ifs tt)(t:∀b C s H,PE (bA X N scope cl b C s H) elt te)
  (n:∀v,Hy iter X.env v=pure v:=by intro _;rfl):PE X (.ListComp elt [⟨tg,iter,ifs,0⟩] scope pos) (sf i gt k fr tt te):=by
 intro a s g H Q I h;rw[IB];refine IC (use:=Kc) U n O.clos O.kind O.names (thn (hi a s g H _ I h) λv M B=>thn B λK s2 z=>?_);obtain⟨it,b,L,J,S,e,j,T,c,E,x⟩:=z;subst e;refine lT (RR:=λf C=>ID (model X.prog X.w) X.A X.xe Kc (EP X a g Q) f C) O u j T c E l t r x λD C P G y o ⟨m,p⟩ F q=>?_
 exact⟨m,p,λR d=>⟨.ref D,G,j.left F y o d,U,q⟩⟩
theorem dJ{K:W.Frag}{a:GD}{xs:List V}{j:St}{f:Hp}{Q:VK}(c:GD->Nat->List V->Hp->Prop)(s:∀D,f D=Kc->c D 0 [] (upd f D (.lst [])))
  (r:∀D i ys H,f D=Kc->i<=xs.length->c D i ys H->SqL K H a xs)
  (o:∀D i x ys H,f D=Kc->xs[i]?=Kb x->c D i ys H->∀ts:St,ts.length=k->gt x (bG j fr ts) H λd t=>(∃g:St,g.length=k/\d=bG j fr g)/\tt d t λb n=>if b=Kd then te d n (cB c D i xs.length)else dG c D i xs.length n)
  (hd:∀D ys H,f D=Kc->c D xs.length ys H->Q (.ref D) H):fm (Itl K a) gt k fr tt te j Q f:=by
 intro D h;refine⟨λi m H=>m=xs.length-i/\i<=xs.length/\∃ys,c D i ys H,⟨_,U,yY _,[],s D h⟩,?_⟩;rintro i m H ⟨rfl,hi,ys,p⟩;have q:=r D i ys H h hi p;by_cases l:i<xs.length
 .refine .inr ⟨⟨xs,xs[i],q,by simp[l]⟩,λx u y=>?_⟩;obtain⟨e,y⟩:=y;subst e;exact o D i x ys _ h (y xs q) p
 .have e:i=xs.length:=by lia
  subst e;exact .inl ⟨⟨xs,q,yr _⟩,hd D ys H h p⟩
end
theorem kQ{X:Cx}{K:W.Frag}{a:List GW}{k:Nat}{t:TGs}{n:Nat}{pos:Pos}(e:X.K=K)(d:X.calm=Kd)(h:PGs X a t)(c:(Hj a X.env).length=n:=by rfl)(b:(Hj a X.env).findIdx? (·.1)=none:=by rfl):PG X (.Tuple a k pos) (Bt K n t):=e ▸ eQ d h c b
end L2
namespace Srt
open PySem PySem.W PyProof.Rows
def Ok(n:Nat)(lt:Nat->Nat->Bool){α:Type}:KasT α->(α->Prop)->Prop
 | .ret a,Q=>Q a
 | .ask i j k,Q=>i<n/\j<n/\Ok n lt (k (lt i j)) Q
section
variable{n:Nat}{lt:Nat->Nat->Bool}
abbrev g(p:Array Nat)(i:Nat):Nat:=p.getD i 0
structure Ord(lt:Nat->Nat->Bool):Prop where
 tr:∀a b c,lt b a=Ke->lt c b=Ke->lt c a=Ke
 as:∀a b,lt a b=Kd->lt b a=Ke
end
end Srt
namespace L2
open PySem PySem.Spec PySem.W PyProof.Rows
variable{prog:GC}{w:Gn}{A:GO}{E:Gf->GP->Prop}{s:GP}
variable{X:Cx}
theorem ug{n:Int}{p:Pr}:inR n p=Kd↔p.1<=n/\n<=p.2:=by
 unfold inR;simp only[BO,decide_eq_true_eq]
theorem uh{n:Int}{R:List Pr}:inP R n=Kd↔∃p∈R,p.1<=n/\n<=p.2:=by
 unfold inP;rw[ya];exact⟨λ⟨p,h,e⟩=>⟨p,h,ug.mp e⟩,λ⟨p,h,e⟩=>⟨p,h,ug.mpr e⟩⟩
structure F6(S A B A0 B0:List Pr):Prop where
 ap:Apart S
 aA:Apart A
 aB:Apart B
 mem:∀n,(inP A0 n && inP B0 n)=(inP S n || (inP A n && inP B n))
 gap:∀s∈S,(∀p∈A,s.2+2<=p.1)\/(∀p∈B,s.2+2<=p.1)
structure Gi(F T:List Pr)(lo hi st:Int):Prop where
 ap:Apart F
 lt:∀s∈F,s.2+2<=st
 rng:∀s∈F,lo<=s.1/\s.2<=hi
 tk:∀p∈T,p.2<st
 fr:st=lo\/∃p∈T,st=p.2+1
 ge:lo<=st
 mem:∀n,lo<=n->n<=hi->n<st->inP F n = !inP T n
structure Walk(ts:List (Int×Int×Int)):Prop where
 le:∀t∈ts,t.1<=t.2.1
 nx:∀(i:Nat) a b,ts[i]?=Kb a->ts[i+1]?=Kb b->b.1=a.2.1+1
def pcs(msk:Int->Bool)(ts:List (Int×Int×Int))(n:Int):Bool:=ts.any λt=>inR n (t.1,t.2.1) && msk t.2.2
structure Gj(R:List Pr)(ts:List (Int×Int×Int))(msk:Int->Bool)(i:Nat)(at_:Int):Prop where
 ap:Apart R
 mem:∀n,inP R n=pcs msk (ts.take i) n
 lt:∀r∈R,r.2<at_
 few:2*R.length<=i\/(2*R.length<=i+1/\∃R' l,R=R'++[l]/\l.2=at_-1)
variable{i:Nat}
section
variable{R:List Pr}{ts:List (Int×Int×Int)}{msk:Int->Bool}{at_:Int}{t:Int×Int×Int}
end
def ends(R:List Pr):List Int:=R.flatMap λp=>[p.1,p.2+1]
theorem oB(R:List Pr)(p:Pr):ends (R++[p])=ends R++[p.1,p.2+1]:=by
 unfold ends;rw[List.flatMap_append];simp
theorem uP(R:List Pr)(p:Pr):ends (p :: R)=p.1 :: (p.2+1) :: ends R:=rfl
theorem lU{R:List Pr}{e:Int}:e∈ends R↔∃p∈R,e=p.1\/e=p.2+1:=by
 unfold ends;rw[qF];simp
theorem ui{l:List Int}(h:l.Pairwise (· < ·)){i j:Nat}{x y:Int}(hi:l[i]?=Kb x)(b:l[j]?=Kb y)(a:i<j):x<y:=by
 obtain⟨d,rfl⟩:=Gz.mp hi;obtain⟨c,rfl⟩:=Gz.mp b;exact List.pairwise_iff_getElem.mp h i j d c a
def b2(b:Bool):Int:=if b=Kd then 1 else 0
theorem kR(a:List Int):∀k,k<=a.length->preSum (λi=>a.getD i 0) k=(a.take k).sum
 |0,_=>rfl
 |k+1,h=>by
  have b:=kR a k (by lia);show preSum (λi=>a.getD i 0) k+a.getD k 0=_;have e:a[k]?=Kb a[k]:=Gy (by lia);rw[b,nS,e,List.sum_append,dF,e];simp
theorem fD(D:X.calm=Kd):dn X (.builtin "sum") (λus H Q=>∃(a:GD)(c:List Int),us=[.ref a]/\SqL X.K H a (c.map V.int)/\Q (.int c.sum) H):=by
 intro p s J H us L Q I r h;obtain⟨a,c,rfl,B,q⟩:=h;obtain⟨u,rfl,x⟩:=r.one;cases (show u=Gf.ref a from x);obtain⟨d,l,j,N⟩:=I.list B;have k:=l.length;rw[bx]at k;obtain⟨M,G,_⟩:=id j.isList;have f:a<s.heap.objs.size:=GG.lt_size G;refine call_sum_walkG (Hv j.isList ?_);refine⟨s.heap.objs.size,[s.heap.objs.size,a],[s.heap.objs.size],_,_,_,λi=>c.getD i 0,U,Hu.list (A:=X.A.in1) (I.ok.hd D) _ a (yv f) d.toArray,⟨⟨_,GG.get?_push_size _ U,U,U⟩,j.isList.at λo e=>GG.get?_push_of_some _ e⟩,λb E=>?_,λi v e=>?_,λO w t' C=>?_⟩
 .show b<(s.heap.push _).objs.size;rw[GG.size_push];rcases dt.mp E with z|z
  .rw[z];exact zg _
  .have g:b=a:=by simpa using z
   rw[g];exact zc f
 .have n:d[i]?=Kb v:=by simpa using e
  have hi:i<c.length:=by rw[k];exact(Gz.mp n).1
  have F:(c.map V.int)[i]?=Kb (.int c[i]):=by rw[gI,Gy hi];rfl
  obtain⟨u,m,y⟩:=l.get F;rw[n]at m;cases m;obtain⟨t,rfl⟩:=y;exact⟨t,by show Gf.int c[i] t=Gf.int (c.getD i 0) t;rw[dF,Gy hi];rfl⟩
 .refine⟨.int c.sum,H,I.kept (t':=w) λb o e=>C b o (λz=>?_) (GG.get?_push_of_some _ e),⟨t',?_⟩,q⟩
  .have g:b=s.heap.objs.size:=by simpa using z
   exact Kk (GG.lt_size e) (by rw[g];exact ze _)
  .rw[dV,←k,kR c _ (yr _),ip]
def NeS(W:List (Int×Int×Int)):Prop:=∀(j:Nat) a b,W[j]?=Kb a->W[j+1]?=Kb b->a.2.2≠b.2.2
structure F7(G ts:List (Int×Int×Int))(i:Nat):Prop where
 walk:Walk G
 ne:NeS G
 pcs:∀msk n,pcs msk G n=L2.pcs msk (ts.take i) n
 hd:∀t,ts[0]?=Kb t->0<i->∃g,G[0]?=Kb g/\g.1=t.1
 lst:∀t,ts[i-1]?=Kb t->0<i->∃G' g,G=G'++[g]/\g.2.1=t.2.1/\g.2.2=t.2.2
 len:G.length<=i
 stt:∀g∈G,∃t∈ts,g.2.2=t.2.2
section
variable{G ts:List (Int×Int×Int)}{t:Int×Int×Int}
end
def Its(z:Str):It:=⟨λi _=>i<z.cps.size,λi H x a=>a=H/\∃c,z.cps[i]?=Kb c/\x=.str ⟨#[c]⟩,λi _=>z.cps.size<=i⟩
theorem si{P:GC}{w:Gn}{K:W.Frag}{L:GW}(z:Str)(t:Tok)(it:GD):Turn P w K L (Its z) [it] it (λi h=>h.IsStrIter it "str_ascii_iterator" z t i) where
 mem:=by simp
 obj:=λi h f b g=>by
  obtain⟨o,e,c,d⟩:=f;rw[show b=it by simpa using g];exact⟨o,e,λv q=>by rw[d]at q;cases q⟩
 keep:=λi h m ⟨o,e,r⟩ k=>⟨o,k it (by simp) o e,r⟩
 item:=by
  intro X u n x J i a s G H E I l f p;subst u n x;have F:i<z.cps.size:=p;have hi:z.cps[i]?=Kb z.cps[i]:=Cn F;obtain⟨D,C,N,B,A,y⟩:=l it (by simp);refine wpAny_pyNext_ascii_item f hi λm j M=>?_
  have Q:Inv X a G H { s with heap:=m,toks:=s.toks+1 }:=I.turned (t':=s.toks+1) (λb o g e=>(M.2 b g).trans e) D C B A y;obtain⟨o,e,c,d⟩:=id j;exact⟨_,U,qi (s:={ s with heap:=m,toks:=s.toks+1 }) e c d (by decide) ⟨.str ⟨#[z.cps[i]]⟩,H,Q,⟨_,U⟩,⟨U,_,hi,U⟩,j,λb g=>(l b g).1⟩⟩
 done:=by
  intro X u n x J i a s G H E I l f p;subst u n x;obtain⟨D,C,N,B,A,y⟩:=l it (by simp);exact wpAny_pyNext_ascii_end (I.ok.hd J) f (by simpa using(show z.cps.size<=i from p)) λm O=>⟨U,I.turned (t':=s.toks) (λb o g e=>O b o g e) D C B A y⟩
 self:=λ_ _ _ _ _ f h=>wpAny_pyIter_striter_ascii f h
theorem uQ{P:GC}{w:Gn}{K:W.Frag}{L:GW}(z:Str)(t:Tok)(it:GD):Turn P w K L (Its z) [it] it (λi h=>h.IsStrIter it "str_iterator" z t i) where
 mem:=by simp
 obj:=λi h f b g=>by
  obtain⟨o,e,c,d⟩:=f;rw[show b=it by simpa using g];exact⟨o,e,λv q=>by rw[d]at q;cases q⟩
 keep:=λi h m ⟨o,e,r⟩ k=>⟨o,k it (by simp) o e,r⟩
 item:=by
  intro X u n x J i a s G H E I l f p;subst u n x;have F:i<z.cps.size:=p;have hi:z.cps[i]?=Kb z.cps[i]:=Cn F;obtain⟨D,C,N,B,A,y⟩:=l it (by simp);refine wpAny_pyNext_wide_item f hi λm j M=>?_
  have Q:Inv X a G H { s with heap:=m,toks:=s.toks+1 }:=I.turned (t':=s.toks+1) (λb o g e=>(M.2 b g).trans e) D C B A y;obtain⟨o,e,c,d⟩:=id j;exact⟨_,U,qi (s:={ s with heap:=m,toks:=s.toks+1 }) e c d (by decide) ⟨.str ⟨#[z.cps[i]]⟩,H,Q,⟨_,U⟩,⟨U,_,hi,U⟩,j,λb g=>(l b g).1⟩⟩
 done:=by
  intro X u n x J i a s G H E I l f p;subst u n x;obtain⟨D,C,N,B,A,y⟩:=l it (by simp);exact wpAny_pyNext_wide_end (I.ok.hd J) f (by simpa using(show z.cps.size<=i from p)) λm O=>⟨U,I.turned (t':=s.toks) (λb o g e=>O b o g e) D C B A y⟩
 self:=λ_ _ _ _ _ f h=>wpAny_pyIter_striter_wide f h
section
variable{tg:GW}
inductive zx  (R:(It->Hp->Prop))(x:V)(H1:Hp):Prop
 |mk (z:_)(_:x=.str z)(_:R (Its z) H1):zx R x H1
def Dj(b:TE):W.Frag->St->Hp->(It->Hp->Prop)->Prop:=λ_ a H R=>b a H λx c=>zx R x c
theorem Ar{l:GW}{i:TE}(n:PE X l i):PI X tg l (Dj i X.K):=by
 intro c s j H R I h;refine thn (n c s j H _ I h) λv a ⟨x,g,f,k,m⟩=>?_
 obtain⟨z,e,q⟩:=m;subst e;obtain⟨t,rfl⟩:=k;have d:∀b∈[a.heap.objs.size],i7 X c g b:=λb p=>by
  rw[show b=a.heap.objs.size by simpa using p];exact f.fpOk (yr _) (f.hok.fresh (yr _))
 cases ha:z.cps.all (· < 128) with
 |true=>exact wpAny_pyIter_ascii ha ⟨a.heap.objs.size,[a.heap.objs.size],_,_,g,U,f.kept (t':=a.toks) λb o e=>GG.get?_push_of_some _ e,si z t _,⟨_,GG.get?_push_size _ U,U,U⟩,d,q⟩
 |false=>exact wpAny_pyIter_wide ha ⟨a.heap.objs.size,[a.heap.objs.size],_,_,g,U,f.kept (t':=a.toks) λb o e=>GG.get?_push_of_some _ e,uQ z t _,⟨_,GG.get?_push_size _ U,U,U⟩,d,q⟩
end
theorem yt{z:Str}{g:TG}{k:TS}{D:Ends}{a:St}{H:Hp}(b:Nat->St->Hp->Prop)(t:b 0 a H)
  (r:∀i c a H,z.cps.toList[i]?=Kb c->b i a H->g (.str ⟨#[c]⟩) a H λd j=>k { D with nx:=b (i+1),ct:=b (i+1),bk:=D.nx } d j)(s:∀a H,b z.cps.size a H->D.nx a H) :
  ∃W:Nat->Nat->St->Hp->Prop,(∃m,W 0 m a H)/\∀i m a H,W i m a H ->
   ((Its z).stop i H/\D.nx a H)\/((Its z).go i H/\∃N:St->Hp->Prop,(∀f H',N f H'->∃l,l<m/\W (i+1) l f H')/\∀x H',(Its z).yld i H x H'->g x a H' λd j=>k { D with nx:=N,ct:=N,bk:=D.nx } d j):=by
 refine⟨λi m a H=>m=z.cps.size-i/\i<=z.cps.size/\b i a H,⟨_,U,yY _,t⟩,?_⟩;rintro i m a H ⟨rfl,hi,p⟩;by_cases h:i<z.cps.size
 .refine .inr ⟨h,b (i+1),λf H' q=>⟨z.cps.size-(i+1),by lia,U,h,q⟩,λx H' y=>?_⟩;obtain⟨e,c,o,n⟩:=y;subst e;subst n;exact r i c a _ (by simpa using o) p
 .have e:i=z.cps.size:=by lia
  subst e;exact .inl ⟨yr _,s a H p⟩
theorem kS{x:Str}{v:V}{pos:Pos}(a:Gl X x)(h:∃u,X.mg x=Kb u/\RelV v u)(b:(x == ("__debug__" : Str))=false:=by decide):PE X (.Name x pos) (tC v):=by
 obtain⟨_,m,r⟩:=h;exact cz a m r b
def sg(g:Str)(c:Nat):Bool:=!(Hw.Str.occurrences g ⟨#[c]⟩ 0 g.length 1).isEmpty
def lV(z g:Str):Bool:=z.cps.toList.all (sg g)
open PySem.NumText
theorem oC{v:Gf}{o:Option Int}(h:Ib v o):∃p:Option (Int×Tok),v=partValue p/\p.map (·.1)=o:=by
 cases h with
 |none=>exact⟨Kc,U,U⟩
 |int i t=>exact⟨Kb (i,t),U,U⟩
inductive BL  (x:V)(lo:Option Int)(hi:Option Int)(H:Hp)(Q:VK):Prop
 |mk (z:_)(_:x=.str z)(_:z.length<=GH)(_:Q (.str (Txt.slice z lo hi)) H):BL x lo hi H Q
theorem wm:SlR X BL:=by
 intro b s m H x v o n lo hi p Q I d i f e h;obtain⟨z,rfl,g,q⟩:=h;obtain⟨t,rfl⟩:=d;obtain⟨l,rfl,k⟩:=oC f;obtain⟨u,rfl,j⟩:=oC e;refine⟨"str",_,slot_str_getitem.lookup,Ii s z t,?_⟩;refine wpAny_getItem_str_slice (l:=l) (u:=u) (st:=Kc) i U ?_;unfold sliceMade slicePicked;rw[k,j];unfold Txt.slice at q;show Made.post (if ((1:Int) == 1 && (Hw.Str.strSliceIndices lo hi 1 z.length).length == z.length)=Kd then _ else _) _ _;by_cases c:((1:Int) == 1 && (Hw.Str.strSliceIndices lo hi 1 z.length).length == z.length)=Kd
 .rw[Kj c]at q⊢;exact⟨.str z,H,I,⟨_,U⟩,q⟩
 .have a:=Txt.slice_le z lo hi;unfold Txt.slice at a;rw[Ki c]at q a⊢;exact⟨yW a g,.str _,H,I.tok _,⟨_,U⟩,q⟩
structure Gk(cs:List Nat):Prop where
 all:AllDigits cs
 one:cs.length=1\/∃c r,cs=c :: r/\49<=c
def Dk(h:GG)(e T:GD)(cls f:Gf):Prop :=
 ∃b a d c,h.get? e=Kb b/\(b.cls=cls/\a[0]?=Kb f)/\b.data=.fields a/\a[1]?=Kb (.ref T)/\T≠e/\h.get? T=Kb d/\d.data=.fields c/\c[3]?=Kb .none
structure Stp(F X:List GD)(h h':GG):Prop where
 keep:∀b o,b ∉ F->b ∉ X->h.get? b=Kb o->h'.get? b=Kb o
 slot:∀b o,b∈F->h.get? b=Kb o->∃sl,h'.get? b=Kb { o with slots:=sl }
variable{base:GG}{e:GD}{oe:Obj}
section
variable{M:GS}{env:Env}{outer:List Env}{L T:GD}{vs:Array Gf}{a0 cls:Gf}{Q:Unit->GP->Prop}
end
variable{P:GC}{H:Hp}
section
variable{H':Hp}{h h':GG}{a:GD}{o:HO}{F Y fs:List GD}
end
structure zy(X:Cx)(Kg:List (GD×Obj))(H:Hp)(b:GD):Prop where
 ent:X.s₀.heap.get? b=Kc
 unt:H b=Kc
 loc:b≠X.env.locals
 cel:∀x c,X.env.cells.lookup x=Kb c->c≠b
 pin:∀p∈X.pn++Kg,p.1≠b
variable{Kg:List (GD×Obj)}{σ:St}
section
variable{h':GG}{T:GD}
end
structure Dl(K:W.Frag)(C:GD):Prop where
 ex:∃(bmB bmN:List Gf)(newId B Bn nid As inN:String),W.excIn K C bmB newId=Kd/\ExcBaseFacts Bn newId inN bmN/\bmB.contains (Gf.type Bn)=Kd/\ExcBaseFacts B nid As bmB
variable{K:W.Frag}
section
variable{mg:Str->Option Gf}{N:List Str}{qual:Str}{scope:GQ}{f:GD}{cd:Gf}{outer:List Env}{s0:GP}{H0:Hp}{E:XK}
end
def XP(X:Cx)(Kg:List (GD×Obj))(σ:St)(d:GD->Hp->Prop)(b:Gf)(s':GP):Prop :=
 ∃(e T C:GD)(c:Gf)(a:Hp),b=.ref e/\Inv X Kg σ a s'/\Dk s'.heap e T (.ref C) c/\zy X Kg a e/\zy X Kg a T/\d C a
section
variable{s':GP}
end
variable{k:Nat}{x:Str}{ps:List Str}{sp:Sp}{pos:Pos}
section
variable{e:GW}{es:List GW}{t:TA}{p:Pos}
abbrev TSX:=Ends->St->Hp->(GD->Hp->Prop)->Prop
end
section
variable{s':GP}
end
section
variable{st b₀:G5}{su:List G5}{tb:TSX}{ts:GD->GD->TS}{Tn n:Str}{B:GD}{np Dn:Pos}
end
structure CO(K:W.Frag)(C:GD):Prop where
 ga:W.findIn K (.ref C) "__getattribute__" = Kb (Kb (.builtin "BaseException.__getattribute__"))
 hk:W.findIn K (.ref C) "__getattr__" = Kb Kc
 cl:W.findIn K (.ref C) "__class__" = Kb (Kb (.builtin "object.__class__"))
 gt:W.specialIn K (.builtin "object.__class__") "__get__" = Kb (Kb (.builtin "getset_descriptor.__get__"))
 tk:W.takesIn K (.builtin "object.__class__")=Kb Kd
 ob:W.mroIn K C (.type "object")=Kb Kd
 be:W.mroIn K C (.type "BaseException")=Kb Kd
 me:W.kitCls K (.ref C) (.ref C)=Kb Kd
variable{C:GD}
theorem len_app(x y:Str):(x++y).length=x.length+y.length:=by
 show(Str.append x y).cps.size=x.cps.size+y.cps.size;unfold Str.append;simp
def bo(CX:CXT)(P:GC)(w:Gn)(K:W.Frag)(b:Str->Option Gf)(base:GG)(k:Nat)(C:GD)(m:Str)(ps:List Str)(sp:Sp):Prop :=
 ∃f a,Meth K C m f/\aK P w K b base CX k f a ps sp/\Binds K a ps []
def bj(CX:CXT)(P:GC)(w:Gn)(K:W.Frag)(a:Str->Option Gf)(base:GG)(k:Nat)(x:Str)(C:GD)(ps:List Str)(sp:Sp):Prop :=
 ∃f b,Mk K C f/\aK P w K a base CX k f b ps sp/\Binds K b ps []/\a x=Kb (.ref C)
structure BM(K:W.Frag)(B:GD)(m:Str)(f:GD):Prop where
 sp:W.specialIn K (.ref B) "__getattribute__" = Kb (Kb (.builtin "type.__getattribute__"))
 rd:W.readsIn K B (.type "type")=Kd
 at_:W.findCls K (.ref B) (.type "type") m=Kb (.val (.ref f))
 kp:W.keepIn K (.ref f)=Kd
def cb(CX:CXT)(P:GC)(w:Gn)(K:W.Frag)(a:Str->Option Gf)(base:GG)(k:Nat)(x:Str)(m:Str)(ps:List Str)(sp:Sp):Prop :=
 ∃f b B,BM K B m f/\aK P w K a base CX k f b ps sp/\Binds K b ps []/\a x=Kb (.ref B)
section
variable{CX:CXT}{mg:Str->Option Gf}{j:Nat}{m:Str}
theorem bo.mono(c:bo CX P w K mg base j C m ps sp)(h:j<=k):bo CX P w K mg base k C m ps sp:=by
 obtain⟨f,a,M,F,b⟩:=c;exact⟨f,a,M,F.mono h,b⟩
theorem bj.mono(c:bj CX P w K mg base j x C ps sp)(h:j<=k):bj CX P w K mg base k x C ps sp:=by
 obtain⟨f,a,M,F,b⟩:=c;exact⟨f,a,M,F.mono h,b⟩
theorem cb.mono(c:cb CX P w K mg base j x m ps sp)(h:j<=k):cb CX P w K mg base k x m ps sp:=by
 obtain⟨f,a,B,M,F,b⟩:=c;exact⟨f,a,B,M,F.mono h,b⟩
end
inductive BN(C:GD)(m:Str)(sp:Sp)(t:TA)(σ:St)(Q:VK)(x:V)(H1:Hp):Prop
 |mk (a dx fs:_)(_:x=.ref a)(_:H1 a=Kb (.ins C dx fs))(_:fs.lookup m=Kc)(_:t σ H1 λvs H2=>sp (x :: vs) H2 Q E0)
def tMt(C:GD)(m:Str)(sp:Sp)(a:TE)(t:TA):TE:=λσ H Q=>a σ H λx b=>BN C m sp t σ Q x b
def tMk(C:GD)(sp:Sp)(t:TA):TE:=λσ H Q=>t σ H λc b=>∀x a,b x=Kc->b a=Kc->a≠x ->
 sp (.ref x :: c) (upd (upd b a (.own x)) x (.ins C a [])) (λv d=>v=.non/\Q (.ref x) d) E0
section
variable{CX:CXT}{f:GD}{fd:HM}{m:Str}{p np apos:Pos}{e o:GW}{es:List GW}{ta:TE}{t:TA}
theorem Au{Kg:List (GD×Obj)}{σ:St}{H:Hp}{s:GP}{Q:VK}{us:List Gf}{vs:List V}{E:XK}(F:aK X.prog X.w X.K X.mg X.base CX k f fd ps sp)(b:bR k X.A)(c:Binds X.K fd ps [])(a:Passes CX X E)
  (I:Inv X Kg σ H s)(r:Vals vs us)(h:sp vs H Q E):GU (model X.prog X.w) X.A (call (.ref f) us) (EP X Kg σ Q) X.xe s :=
 pq (dvs:=[]) (ds:=[]) F b c .nil a I r (by rw[jv];exact h)
theorem oE{pl:Sem Bool}(M:bo CX X.prog X.w X.K X.mg X.base k C m ps sp)(z:Passes CX X E0)(c:Cls X.K C)(D:bR k X.A)(E:PE X o ta)(J:PA X (e :: es) t)
  (b:GZ (e :: es) X.env=(Ke,eval e X.env) :: GZ es X.env:=by rfl)(d:(GY pos (GZ es X.env)).any (·.1)=false:=by rfl)
  (B:eval (.Call (.Attribute o m apos) (e :: es) [] pos) X.env=(do
   let g ←eval o X.env
   He apos.atName
   let (f,first) ←holding [g] (HF g m pl)
   IF pos f first (GY pos (GZ (e :: es) X.env)) (Il pos (Im [] X.env))):=by rfl) :
  PE X (.Call (.Attribute o m apos) (e :: es) [] pos) (tMt C m sp ta t):=by
 obtain⟨f,fd,i,F,G⟩:=M;intro Kg s σ H Q I h;refine W.methodCall_KW (pl:=pl) (thn (E Kg s σ H _ I h) λu p ⟨x,O,n,v,a,P,fs,L,N,l,q⟩=>?_) B;subst L;obtain rfl:u=Gf.ref a:=v;refine lQ n N c i l ?_;refine W.callWith_K (first:=[.ref a]) (h₀:=X.base) I.ok.mod.kin i.kp (thn (J pos Kg p σ O _ n q) λus s2 ⟨vs,R,j,r,y⟩=>⟨j.kIn,?_⟩) b d;exact Au (us:=.ref a :: us) (vs:=.ref a :: vs) F D G z j (.cons U r) y
theorem fq{pl:Sem Bool}(M:cb CX X.prog X.w X.K X.mg X.base k x m ps sp)(l:Passes CX X E0)(o:bR k X.A)(q:Gl X x)(y:PA X (e :: es) t)(d:(x == ("__debug__" : Str))=false:=by decide)
  (b:GZ (e :: es) X.env=(Ke,eval e X.env) :: GZ es X.env:=by rfl)(c:(GY pos (GZ es X.env)).any (·.1)=false:=by rfl)
  (n:eval (.Call (.Attribute (.Name x np) m apos) (e :: es) [] pos) X.env=(do
   let g ←eval (.Name x np) X.env
   He apos.atName
   let (f,first) ←holding [g] (HF g m pl)
   IF pos f first (GY pos (GZ (e :: es) X.env)) (Il pos (Im [] X.env))):=by rfl) :
  PE X (.Call (.Attribute (.Name x np) m apos) (e :: es) [] pos) (tFn sp t):=by
 obtain⟨f,fd,B,a,F,u,p⟩:=M;intro Kg s σ H Q I h;refine W.methodCall_KW (pl:=pl) (gk I q p ?_ d) n;refine W.method_cls I.kIn a.sp (W.cls_value (mc:=.type "type") I.kIn a.rd a.at_ (oq (v:=.ref f) U) ?_);refine W.callWith_K (first:=[]) (h₀:=X.base) I.ok.mod.kin a.kp (thn (y pos Kg _ σ H _ (I.tok _) h) λus s2 ⟨vs,z,i,r,j⟩=>⟨i.kIn,?_⟩) b c;exact Au (us:=us) (vs:=vs) F o u l i r j
theorem qz(M:bj CX X.prog X.w X.K X.mg X.base k x C ps sp)(l:Passes CX X E0)(m:bR (k+1) X.A)(o:Gl X x)(u:PA X (e :: es) t)(i:(x == ("__debug__" : Str))=false:=by decide)
  (he:GZ (e :: es) X.env=(Ke,eval e X.env) :: GZ es X.env:=by rfl)(g:(GY pos (GZ es X.env)).any (·.1)=false:=by rfl) :
  PE X (.Call (.Name x p) (e :: es) [] pos) (tMk C sp t):=by
 obtain⟨f,fd,M,F,r,n⟩:=M;have h:=ym (E:=E0) (dvs:=[]) (ds:=[]) (p:=p) M F m o n r .nil l u i he g;intro Kg s σ H Q I q;refine h Kg s σ H Q I ?_;have j:t σ H λc b=>∀x a,b x=Kc->b a=Kc->a≠x->sp (.ref x :: c) (upd (upd b a (.own x)) x (.ins C a [])) (λv d=>v=.non/\Q (.ref x) d) E0:=q
 show t σ H λc b=>∀x a,b x=Kc->b a=Kc->a≠x->sp (.ref x :: (c++[])) (upd (upd b a (.own x)) x (.ins C a [])) (λv d=>v=.non/\Q (.ref x) d) E0
 have y:(λ(c:List V)(b:Hp)=>∀x a,b x=Kc->b a=Kc->a≠x->sp (.ref x :: (c++[])) (upd (upd b a (.own x)) x (.ins C a [])) (λv d=>v=.non/\Q (.ref x) d) E0)=λc b=>∀x a,b x=Kc->b a=Kc->a≠x->sp (.ref x :: c) (upd (upd b a (.own x)) x (.ins C a [])) (λv d=>v=.non/\Q (.ref x) d) E0:=by
  funext c b
  rw[jv]
 rw[y];exact j
end
inductive wo(K:W.Frag)(neg:Bool)(x:V)(y:V)(H:Hp)(Q:VK):Prop
 |mk (a b xs ys:_)(_:x=.ref a)(_:y=.ref b)(_:SqT K H a xs)(_:SqT K H b ys)(f:Nat->Bool)(_:(∀j x y,xs[j]?=Kb x->ys[j]?=Kb y->EqI K H x y (f j)))(_:Q (.bl (if neg then !((List.range (min xs.length ys.length)).all f && xs.length == ys.length) else(List.range (min xs.length ys.length)).all f && xs.length == ys.length)) H)
theorem wq{k:Nat}(o:bR k X.A):OpR X (HB .Eq) (wo X.K Ke):=by
 intro Kg s σ H x y v u Q I j i h;obtain⟨a,b,C,B,rfl,rfl,z,w,f,t,q⟩:=h;cases (show v=Gf.ref a from j);cases (show u=Gf.ref b from i);obtain⟨d,r,p,_⟩:=I.tuple z;obtain⟨c,g,l,_⟩:=I.tuple w;have n:=r.length;have m:=g.length;have D:=o.units;refine SeqAt.eq_tupleAt (e:=f) (show s.heap.IsTuple a d.toArray from p) (show s.heap.IsTuple b c.toArray from l) (by lia) (sd I (by show X.A.units+1+1<HK;lia) r g t) ⟨.bl _,H,I,U,?_⟩;simp only[dV];rw[←n,←m];exact q
theorem wt{k:Nat}(o:bR k X.A):OpR X (HB .NotEq) (wo X.K Kd):=by
 intro Kg s σ H x y v u Q I j i h;obtain⟨a,b,D,C,rfl,rfl,B,z,f,t,q⟩:=h;cases (show v=Gf.ref a from j);cases (show u=Gf.ref b from i);obtain⟨d,r,p,_⟩:=I.tuple B;obtain⟨c,g,l,_⟩:=I.tuple z;have n:=r.length;have m:=g.length;have E:=o.units;refine SeqAt.RcNeAt.tuples (e:=f) (show s.heap.IsTuple a d.toArray from p) (show s.heap.IsTuple b c.toArray from l) (by lia) (sd I (by show X.A.units+1+1<HK;lia) r g t) X.prog X.w X.xe _ ⟨.bl _,H,I,U,?_⟩;simp only[dV];rw[←n,←m];exact q
theorem aK.no{P:GC}{w:Gn}{K:W.Frag}{a:Str->Option Gf}{base:GG}{CX:CXT}{k:Nat}{f:GD}{b:HM}{ps:List Str}{sp:Sp}(h:∀vs H Q E,¬ sp vs H Q E):aK P w K a base CX k f b ps sp :=
 ⟨λvs H Q E q=>(h vs H Q E q).elim,λ_ _ _ H _ _ vs Q E _ _ _ _ q=>(h vs H Q E q).elim⟩
theorem lB{X:Cx}{K:W.Frag}{e:GW}{f:Str}{pos:Pos}{a:TE}(h:X.K=K)(b:PE X e a)(c:HI e f X.env (eval e X.env)=eval e X.env):PE X (.Attribute e f pos) (BA K a f):=h ▸ ba b c
set_option maxRecDepth 100000
inductive DEq(K:W.Frag)(H:Hp):Nat->V->V->Bool->Prop where
 |flat {n:Nat}{x y:V}(fx:gJ x=Kd)(fy:gJ y=Kd):DEq K H n x y (eqV x y)
 |same {n:Nat}(a:GD):DEq K H n (.ref a) (.ref a) Kd
 |lst {n:Nat}{a b:GD}{xs ys:List V}{f:Nat->Bool}(ne:a≠b)(ha:SqL K H a xs)(hb:SqL K H b ys)(hl:xs.length=ys.length)(h:∀(j:Nat)(x y:V),xs[j]?=Kb x->ys[j]?=Kb y->DEq K H n x y (f j)):DEq K H (n+1) (.ref a) (.ref b) ((List.range xs.length).all f)
 |lst_ne {n:Nat}{a b:GD}{xs ys:List V}(ne:a≠b)(ha:SqL K H a xs)(hb:SqL K H b ys)(hl:xs.length≠ys.length):DEq K H (n+1) (.ref a) (.ref b) Ke
 |tup {n:Nat}{a b:GD}{xs ys:List V}{f:Nat->Bool}(ne:a≠b)(ha:SqT K H a xs)(hb:SqT K H b ys)(h:∀(j:Nat)(x y:V),xs[j]?=Kb x->ys[j]?=Kb y->DEq K H n x y (f j)):DEq K H (n+1) (.ref a) (.ref b) ((List.range (min xs.length ys.length)).all f && xs.length == ys.length)
theorem DEq.mono{K:W.Frag}{H:Hp}{n m:Nat}{x y:V}{b:Bool}(e:DEq K H n x y b)(h:n<=m):DEq K H m x y b:=by
 induction e generalizing m with
 |flat q p=>exact .flat q p
 |same a=>exact .same a
 |lst c f d i _ g =>
  obtain⟨m,rfl⟩:∃k,m=k+1:=⟨m-1,by lia⟩;exact .lst c f d i λj x y o l=>g j x y o l (by lia)
 |lst_ne c f d i =>
  obtain⟨m,rfl⟩:∃k,m=k+1:=⟨m-1,by lia⟩;exact .lst_ne c f d i
 |tup c f d _ g =>
  obtain⟨m,rfl⟩:∃k,m=k+1:=⟨m-1,by lia⟩;exact .tup c f d λj x y o l=>g j x y o l (by lia)
theorem gW{xs:List V}{a:List Gf}(r:Vals xs a){j:Nat}(h:j<a.toArray.size):∃x,xs[j]?=Kb x/\RelV x a.toArray[j]:=by
 have f:j<a.length:=by simpa using h
 have i:=r.length;have b:xs[j]?=Kb xs[j]:=Gy (by lia);obtain⟨d,c,e⟩:=r.get b;have g:a.toArray[j]=d:=by
  have:=Gy f;rw[this]at c;simpa using Option.some.inj c
 exact⟨xs[j],b,g ▸ e⟩
theorem DEq.at{n:Nat}{x y:V}{b:Bool}(e:DEq X.K H n x y b)(I:Inv X Kg σ H s):∀{A:GO}{u v:Gf},A.units+n<HK->RelV x u->RelV y v->SeqAt.EqAt A s u v b:=by
 induction e with
 |flat G F=>intro A u v o i g;exact rY i g G F
 |same a =>
  intro A u v o i g;cases (show u=Gf.ref a from i);cases (show v=Gf.ref a from g);exact SeqAt.EqAt.same _
 | @lst n a b xs ys f ne ha hb hl h ih =>
  intro A u v o i g;cases (show u=Gf.ref a from i);cases (show v=Gf.ref b from g);obtain⟨d,r,p,_⟩:=I.list ha;obtain⟨c,k,l,_⟩:=I.list hb;have E:=r.length;have D:=k.length;have m:=SeqAt.RcAt.lists (A:=A) (e:=f) p.isList l.isList (by simp only[dV];lia) (by lia) (λj z w=>by
   obtain⟨x,C,t⟩:=gW r z;obtain⟨y,B,q⟩:=gW k w;exact ih j x y C B (by show A.units+1+n<HK;lia) t q)
  rw[show d.toArray.size=xs.length by simp only[dV];lia]at m;exact SeqAt.EqAt.of_refs ne m
 | @lst_ne n a b xs ys ne ha hb hl =>
  intro A u v o i g;cases (show u=Gf.ref a from i);cases (show v=Gf.ref b from g);obtain⟨d,r,p,_⟩:=I.list ha;obtain⟨c,k,l,_⟩:=I.list hb;have E:=r.length;have D:=k.length;exact SeqAt.EqAt.of_refs ne (SeqAt.RcAt.lists_lengths p.isList l.isList (by simp only[dV,bne_iff_ne,ne_eq];lia) (by lia))
 | @tup n a b xs ys f ne ha hb h ih =>
  intro A u v o i g;cases (show u=Gf.ref a from i);cases (show v=Gf.ref b from g);obtain⟨d,r,p,_⟩:=I.tuple ha;obtain⟨c,k,l,_⟩:=I.tuple hb;have E:=r.length;have D:=k.length;have m:=SeqAt.RcAt.tuples (A:=A) (e:=f) (show s.heap.IsTuple a d.toArray from p) (show s.heap.IsTuple b c.toArray from l) (by lia) (λj z w=>by
   obtain⟨x,C,t⟩:=gW r z;obtain⟨y,B,q⟩:=gW k w;exact ih j x y C B (by show A.units+1+n<HK;lia) t q)
  rw[show d.toArray.size=xs.length by simp only[dV];lia,show c.toArray.size=ys.length by simp only[dV];lia]at m;exact SeqAt.EqAt.of_refs ne m
set_option maxRecDepth 100000
section
variable{tg:GW}
inductive sj(K:W.Frag)(x:V)(y:V)(H:Hp)(Q:VK):Prop
 |mk (a b xs ys:_)(_:x=.ref a)(_:y=.ref b)(_:SqT K H a xs)(_:SqT K H b ys)(_:xs.length+ys.length<=GH)(_:(xs=[]->Q (.ref b) H))(_:(xs≠[]->ys=[]->Q (.ref a) H))(_:(xs≠[]->ys≠[]->∀p,H p=Kc->Q (.ref p) (upd H p (.tup (xs++ys)))))
theorem wu:OpR X (Hz .Add) (sj X.K):=by
 intro Kg s σ H x y v u Q I o m h;obtain⟨a,b,l,A,rfl,rfl,w,t,O,G,E,D⟩:=h;by_cases c:l=[]
 .cases o;cases m;obtain⟨d,C,L,_⟩:=I.tuple w;obtain⟨M,S,J,_⟩:=I.tuple t;have P:d=[]:=C.nil_iff.mpr c;obtain⟨⟨R,dd,z,B⟩,p,r,n,q⟩:=id L;obtain⟨⟨T,j,k,i⟩,e,g,N,f⟩:=id J;simp only at r q g f;subst r q g f
  exact HY ⟨_,p,U⟩ ⟨_,e,U⟩ HZ Ia PySem.F.slot_tuple_add PySem.F.entry_tuple_add (PySem.F.args_tuple_add_2 _ _)
   (tuple_addW0 a b d.toArray M.toArray n N dd j B i (by simp[P])) ⟨p,e,⟨.ref b,H,I,U,G c⟩⟩
 .exact yp Kg s σ H (.ref a) (.ref b) v u Q I o m ⟨a,b,l,A,U,U,w,t,c,O,E c,D c⟩
end
end L2
namespace HT
open PySem PyProof.Rows
section
open PySem.SeqAt
open PySem.AutoSeq1 (wpAny_loadPart')
open PySem.MeetsSeq PySem.MeetsSeq2 PySem.MeetsSeq3
end
end HT
namespace L2
open PySem PySem.Spec PyProof.Rows
section
variable{X:Cx}
end
end L2
namespace HT
open PySem PyProof.Rows
section
open PySem.SeqAt
open PySem.AutoSeq1 (wpAny_loadPart')
open PySem.MeetsSeq PySem.MeetsSeq2 PySem.MeetsSeq3
end
end HT
namespace L2
open PySem PySem.Spec PyProof.Rows
section
variable{X:Cx}
end
end L2
namespace HT
open PySem PyProof.Rows
section
open PySem.SeqAt
open PySem.AutoSeq1 (wpAny_loadPart')
open PySem.MeetsSeq PySem.MeetsSeq2 PySem.MeetsSeq3
end
section
variable{prog:GC}{w:Gn}{A:GO}{E:Gf->GP->Prop}{s:GP}
end
end HT
namespace L2
open PySem PySem.Spec PyProof.Rows
variable{X:Cx}
variable{prog:GC}{w:Gn}{A:GO}{E:Gf->GP->Prop}{s:GP}
section
variable{κ:Type} [DecidableEq κ]
def cntK(ks:List κ):Nat->Nat
 |0=>0
 |i+1=>match ks[i]? with
  |some k=>if k∈ks.take i then cntK ks i else cntK ks i+1
  |none=>cntK ks i
theorem jS(ks:List κ):∀i,cntK ks i<=i
 |0=>yr _
 |i+1=>by
  have a:=jS ks i;unfold cntK;split
  .split <;> lia
  .lia
theorem ko(ks:List κ):∀i,i<=ks.length->(cntK ks i=i↔(ks.take i).Nodup)
 |0,_=>by simp[cntK]
 |i+1,h=>by
  have c:=ko ks i (by lia);have le:=jS ks i;have e:ks[i]?=Kb ks[i]:=Gy (by lia);have g:ks.take (i+1)=ks.take i++[ks[i]]:=by rw[nS,e];rfl
  unfold cntK;rw[e,g,vK];dsimp only;by_cases m:ks[i]∈ks.take i
  .rw[Kj m];exact⟨λz=>Kk z (by lia),λz=>Kk U (z.2.2 _ m _ (by simp))⟩
  .rw[Ki m];refine⟨λz=>⟨c.mp (by lia),by simp,λa f b d=>?_⟩,λz=>by rw[c.mpr z.1]⟩;rw[show b=ks[i] by simpa using d];exact λq=>m (q ▸ f)
variable{knd:KeyKind prog w κ}
theorem gq{h h':GG}{a:GD}{S:κ->Bool}{n:Nat}(x:h.SetOf knd a S n)(k:∀o,h.get? a=Kb o->h'.get? a=Kb o):h'.SetOf knd a S n:=by
 obtain⟨o,c,d,t,b,r⟩:=x;exact⟨o,c,d,t,k o b,r⟩
theorem lW{h:GG}{a:GD}{S c:κ->Bool}{n b:Nat}(x:h.SetOf knd a S n)(e:S=c)(d:n=b):h.SetOf knd a c b:=e ▸ d ▸ x
theorem uR{R:HG->GP->Prop}{I:GD}{H h:List GD}{G:Array GR->Array GR->Prop}{n:Nat}{P:Nat->Gf->Prop}{St:Nat->GP->Prop}(W:IG prog w A.in1 I H h G n P St){a:GD}(E:a ∉ H){ks:List κ}
  (T:∀i v,P i v->∃k,ks[i]?=Kb k/\knd.is k v=Kd/\v.scannable=Kd)(g:n+1<IH):∀(d i:Nat)(s:GP),n=i+d->St i s->s.heap.SetOf knd a (λk=>decide (k∈ks.take i)) (cntK ks i) ->
   (∀s',II (a :: h) G s s'->s'.heap.SetOf knd a (λk=>decide (k∈ks.take n)) (cntK ks n)->R (.ok (.ret .none)) s')->HH (model prog w) A (.builtin "set.update.loop" ⟨[.ref a,.ref I],[]⟩) R s:=by
 have D:a ∉ h:=λz=>E (W.sub a z)
 intro d;induction d with
 |zero =>
  intro i s e j x c;rw[show n=i by lia]at W c;refine IJ (R:=R) (A:=A) F.entry_set_update_loop ?_;rw[GO.under_plainId (A:=A) F.plain_set_update_loop _];show GU (model prog w) A.in1 (Hq (.ref I) >>= _) _ _ s;exact DN (W.done s _ _ j λs' m=>D0 (c s' (m.mono λb g=>iO a g) (gq x λo q=>m.heap a o D q)))
 |succ d S =>
  intro i s e j x c;refine IJ (R:=R) (A:=A) F.entry_set_update_loop ?_;rw[GO.under_plainId (A:=A) F.plain_set_update_loop _];show GU (model prog w) A.in1 (Hq (.ref I) >>= _) _ _ s;refine DN (W.item i s _ _ (by lia) j λv f p r m=>?_);obtain⟨k,J,C,O⟩:=T i v p;have N:=gq x λo q=>m.heap a o D q
  show GU (model prog w) A.in1 (holding [v] (IK a v) >>= _) _ _ f;refine DN (EX (show GU (model prog w) A.in1 (IK a v) _ _ f from ?_));unfold IK;refine EX (DN (knd.pyHash C ?_));have le:=jS ks i;refine wpAny_setAddHashed_of (knd:=knd) (s:={ f with toks:=f.toks+1 }) C O N (by lia) λl B M=>?_
  have V:ks.take (i+1)=ks.take i++[k]:=by rw[nS,J];rfl
  have L:l.SetOf knd a (λq=>decide (q∈ks.take (i+1))) (cntK ks (i+1)):=by
   refine lW M (funext λq=>?_) ?_
   .rw[V];by_cases z:q∈ks.take i <;> by_cases y:q=k <;> simp[z,y]
   .show(if decide (k∈ks.take i)=Kd then cntK ks i else cntK ks i+1)=match ks[i]? with|some k=>if k∈ks.take i then cntK ks i else cntK ks i+1|none=>cntK ks i
    rw[J];by_cases z:k∈ks.take i <;> simp[z]
  refine D0 ⟨IL F.plain_set_update_loop _,S (i+1) { f with heap:=l,toks:=f.toks+1 } (by lia) (W.frame (i+1) f l (f.toks+1) r (zd _) λb u o q=>(B.2 b λz=>E (z ▸ u)).trans q) L λs2 Q K=>?_⟩;refine c s2 (II.trans W.gtrans ((m.mono λb g=>iO a g).then_heap (zd _) λb o t q=>?_) Q) K;exact(B.2 b λz=>t (z ▸ ff)).trans q
abbrev dh(led:Bool):Obj:={ cls:=.type "set",dict:=Kc,data:=.set #[] 0 (.fresh 0 0 led) }
def Filled(knd:KeyKind prog w κ)(s:GP)(ks:List κ)(h':GG):Prop :=
 h'.SetOf knd s.heap.objs.size (λk=>decide (k∈ks)) (cntK ks ks.length)/\∀b o,b<s.heap.objs.size->s.heap.get? b=Kb o->h'.get? b=Kb o
theorem wz{l:GD}{items:Array Gf}{ks:List κ}{led:Bool}(H:A.handled=Kc)(D:s.heap.IsList l items)(G:∀(i:Nat)(v:Gf),items[i]?=Kb v->∃k,ks[i]?=Kb k/\knd.is k v=Kd/\v.scannable=Kd)(C:ks.length=items.size)(I:items.size+1<IH) :
  HH (model prog w) A (.call (.builtin "set.__init__") ⟨[.ref s.heap.objs.size,.ref l],[]⟩) (wants (λr s2=>r=.none/\∃h' n,s2={ s with heap:=h',toks:=n }/\Filled knd s ks h') E) { s with heap:=s.heap.push (dh led) }:=by
 have j:(s.heap.push (dh led)).get? s.heap.objs.size=Kb (dh led):=GG.get?_push_size s.heap U;have ty:GP.TypeIs { s with heap:=s.heap.push (dh led) } (.ref s.heap.objs.size) "set" := ⟨dh led,j,U⟩;refine IM F.called_set.init.plain F.entry_set_init (IP ty ?_);obtain⟨⟨T,O,S,N⟩,f,h,m,g⟩:=D;dsimp only at h g;subst h g;have K:(s.heap.push (dh led)).get? l=Kb { cls:=.type "list",dict:=O,data:=.seq items m,slots:=N }:=GG.get?_push_of_some _ f;have R:=F.sub_list_set;have Q:=F.sub_list_frozenset;have P:(Gf.type "list" == Gf.type "dict")=false:=by decide
 have e:(s.heap.push (dh led)).IsList l items:=⟨_,K,U,m,U⟩;have lt:l<s.heap.objs.size:=GG.lt_size f;unfold Hw.«set.__init__» Hw.Frozenset.updateFrom noKeywords;generalize J:Hs=it
 wp_walk
 subst J;refine Hv e (DN (IQ ?_));have y:l≠(s.heap.push (dh led)).objs.size:=by rw[GG.size_push];exact yv (zc lt)
 have B:s.heap.objs.size ∉ [(s.heap.push (dh led)).objs.size,l]:=by
  rw[GG.size_push];intro z;rcases dt.mp z with z|z
  .exact Kk z (yv (zg _))
  .exact Kk (by simpa using z) (zb lt)
 refine uR (knd:=knd) ((Hu.list (by simp[H]) _ l y items).toS) B (ks:=ks) G I items.size 0 _ (Nat.zero_add _).symm ⟨⟨_,GG.get?_push_size _ U,U,U⟩,e.push _⟩ (lW ((setObjOf_fresh (knd:=knd) led).setOf (GG.get?_push_of_some _ j) (by unfold IH;lia)) (funext λk=>by simp) U) λt c x=>?_
 obtain⟨h',L,M,p,u⟩:=t;obtain rfl:L=s.gens:=c.gens;obtain rfl:M=s.drawn:=c.drawn;obtain rfl:u=s.os:=c.os;refine D0 (show GU (model prog w) _ (ret Gf.none) _ _ _ from D0 ⟨U,h',p,U,?_,λb o a q=>?_⟩)
 .rw[←C]at x;exact lW x (funext λk=>by rw[ip]) U
 .refine c.heap b o (λz=>?_) (GG.get?_push_of_some _ (GG.get?_push_of_some _ q));rcases dt.mp z with z|z
  .exact Kk z (yv a)
  .have d:b=(s.heap.push (dh led)).objs.size:=by simpa using z
   rw[GG.size_push]at d;exact Kk d (yv (zc a))
set_option maxRecDepth 100000 in
theorem oF{l:GD}{items:Array Gf}{ks:List κ}{Q:Gf->GP->Prop}(q:A.handled=Kc)(o:s.heap.IsList l items)(p:∀(i:Nat)(v:Gf),items[i]?=Kb v->∃k,ks[i]?=Kb k/\knd.is k v=Kd/\v.scannable=Kd)(n:ks.length=items.size)(t:items.size+1<IH)
  (h:∀h' d,Filled knd s ks h'->Q (.ref s.heap.objs.size) { s with heap:=h',toks:=d }):GU (model prog w) A (call (.type "set") [.ref l]) Q E s:=by
 obtain⟨c,z,mro⟩:=F.called_set.mro;have I:=F.called_set.made;have H:=F.called_set.sub;have G:=F.called_set.notType;have D:=F.called_set.canCreate;have C:=F.typeCall_set_1 (.ref l);refine HQ (IS (show GU (model prog w) _ (callAny (.type "set") _) _ _ _ from D0 ⟨HL.quiet_builtin _ (by decide+kernel),IJ F.entry_type_call ?_⟩));rw[GO.under_plain (A:=A) (IT "set" [.ref l] []) U]
 repeat (any_goals (first|assumption|wp_step))
 refine HR (code_set_new_1 (.ref l) (E:=E) (Q₁:=λj g=>∃a,j=.ref s.heap.objs.size/\g={ s with heap:=s.heap.push (dh a) }) λa=>⟨a,U,U⟩) λr g f=>?_
 cases r with
 |error e=>exact f
 |ok fl =>
  cases fl with
  |ret j =>
   obtain⟨a,rfl,rfl⟩:=f;have u:(s.heap.push (dh a)).get? s.heap.objs.size=Kb (dh a):=GG.get?_push_size s.heap U;have ty:GP.TypeIs { s with heap:=s.heap.push (dh a) } (.ref s.heap.objs.size) "set" := ⟨dh a,u,U⟩;have B:=F.called_set.init.lookup;have b2:=F.called_set.init.bind (.ref s.heap.objs.size)
   repeat (any_goals (first|assumption|wp_step))
   refine HR (wz (E:=E) (knd:=knd) (by simp[q]) o p n t) λm s2 b=>?_
   cases m with
   |error e=>exact b
   |ok y =>
    cases y with
    |ret r =>
     obtain⟨rfl,h',d,rfl,x⟩:=b
     repeat (any_goals (first|assumption|wp_step))
     exact h h' d x
    |_=>exact b.elim
  |_=>exact f.elim
end
def nG(P:GC)(w:Gn)(a:GD)(zs:List Str):HO:=.ext λh=>h.SetOf (strKind P w) a (λz=>decide (z∈zs)) (cntK zs zs.length)
theorem oG:∀{zs:List Str}{us:List Gf},Vals (zs.map V.str) us->∀(i:Nat)(v:Gf),us[i]?=Kb v->∃z t,zs[i]?=Kb z/\v=.str z t
 | [],_,.nil,i,v,h=>by simp at h
 |z :: zs,_,.cons ⟨t,e⟩ r,0,v,h=>by simp at h;exact⟨z,t,U,by rw[←h,e]⟩
 |z :: zs,_,.cons _ r,i+1,v,h=>by
  obtain⟨a,t,c,b⟩:=oG r i v (by simpa using h);exact⟨a,t,by simpa using c,b⟩
theorem iZ(C:X.calm=Kd):dn X (.type "set") (λxs H Q=>∃(p:GD)(zs:List Str),xs=[.ref p]/\SqL X.K H p (zs.map V.str)/\zs.length<=1000/\∀l,H l=Kc->Q (.ref l) (upd H l (nG X.prog X.w l zs))):=by
 intro j s G H xs J Q I r h;obtain⟨p,zs,rfl,D,L,q⟩:=h;obtain⟨u,rfl,A⟩:=r.one;obtain rfl:u=Gf.ref p:=A;obtain⟨F,d,B,_⟩:=I.list D;have f:=d.length;rw[bx]at f;refine oF (knd:=strKind X.prog X.w) (ks:=zs) (I.ok.hd C) B.isList (λi v e=>?_) (by simpa using f) (by unfold IH;simp;lia) λh' n x=>?_
 .obtain⟨z,t,E,rfl⟩:=oG d i v (by simpa using e);exact⟨z,E,by show Gf.isStrOf z (.str z t)=Kd;simp[Gf.isStrOf],U⟩
 .obtain⟨c,m⟩:=x;refine⟨.ref s.heap.objs.size,_,I.laid (a:=s.heap.objs.size) (o:=nG X.prog X.w s.heap.objs.size zs) (h':=h') (t':=n) (λb o q=>m b o (GG.lt_size q) q) (yr _) ?_,U,q _ I.fresh⟩;refine⟨c,?_,λN M y k=>gq y k⟩;obtain⟨o,_,_,_,g,_⟩:=c;exact⟨o,g⟩
def Asc(xs:Array Nat):Prop:=xs.toList.Pairwise (· < ·)
theorem Asc.lt{xs:Array Nat}(h:Asc xs){i j:Nat}(a:i<j)(b:j<xs.size):xs[i]<xs[j]:=by
 have:=List.pairwise_iff_getElem.mp h i j (by simp;lia) (by simpa using b) a;simpa using this
theorem wA{xs:Array Nat}(h:Asc xs)(j:Nat):∀(a lo hi:Nat),lo<=hi->hi<=xs.size->hi-lo<=a ->
  (∀(i:Nat)(b:i<xs.size),i<lo->xs[i]<j)->(∀(i:Nat)(b:i<xs.size),hi<=i->j<=xs[i]) ->
  IU.below.go xs j a lo hi<=xs.size/\(∀(i:Nat)(b:i<xs.size),i<IU.below.go xs j a lo hi->xs[i]<j)/\(∀(i:Nat)(b:i<xs.size),IU.below.go xs j a lo hi<=i->j<=xs[i]):=by
 intro a;induction a with
 |zero =>
  intro lo hi o k n g f;have e:lo=hi:=by lia
  subst e;exact⟨by unfold IU.below.go;exact k,by unfold IU.below.go;exact g,by unfold IU.below.go;exact f⟩
 |succ a l =>
  intro lo hi o k n g f;unfold IU.below.go;by_cases c:lo<hi
  .rw[Kj c];have m:(lo+hi) / 2<xs.size:=by lia
   have p:xs.getD ((lo+hi) / 2) j=xs[(lo+hi) / 2]:=by simp[Array.getD,m]
   dsimp only;rw[p];by_cases d:xs[(lo+hi) / 2]<j
   .rw[Kj d];refine l _ _ (by lia) k (by lia) (λi b q=>?_) f;by_cases e:i=(lo+hi) / 2
    .subst e;exact d
    .exact Nat.lt_trans (h.lt (by lia) m) d
   .rw[Ki d];refine l _ _ (by lia) (by lia) (by lia) g λi b r=>?_
    by_cases e:i=(lo+hi) / 2
    .subst e;lia
    .exact yW (Nat.le_of_not_lt d) (zf (h.lt (by lia) b))
  .rw[Ki c];have e:lo=hi:=by lia
   subst e;exact⟨k,g,f⟩
theorem je{xs:Array Nat}(h:Asc xs)(j:Nat):IU.below xs j<=xs.size/\(∀(i:Nat)(hi:i<xs.size),i<IU.below xs j->xs[i]<j)/\(∀(i:Nat)(hi:i<xs.size),IU.below xs j<=i->j<=xs[i]) :=
 wA h j xs.size 0 xs.size (yY _) (yr _) (by lia) (λ_ _ z=>Kk z (by lia)) (λi hi z=>Kk z (by lia))
theorem sk{xs:Array Nat}(h:Asc xs){i:Nat}(hi:i<xs.size):IU.below xs (xs[i]+1)=i+1:=by
 obtain⟨d,b2,a⟩:=je h (xs[i]+1);have c:¬ IU.below xs (xs[i]+1)<=i:=λz=>Kk (a i hi z) (by lia)
 have b:¬ i+1<IU.below xs (xs[i]+1):=λz=>by
  have:=b2 (i+1) (by lia) z;have:=h.lt (show i<i+1 by lia) (show i+1<xs.size by lia);lia
 lia
theorem qA{xs:Array Nat}(h:Asc xs):IU.below xs 0=0:=by
 obtain⟨b,b2,a⟩:=je h 0;by_cases z:IU.below xs 0=0
 .exact z
 .exact Kk (b2 0 (by lia) (by lia)) (by lia)
theorem sr{xs:Array Nat}(h:Asc xs){j:Nat}(m:xs[IU.below xs j]?≠Kb j):Asc (IU.insertAt xs (IU.below xs j) j):=by
 obtain⟨r,b2,g⟩:=je h j;unfold Asc;rw[IU.toList_insertAt,oT];refine⟨h.sublist (vf _ _),ri.mpr ⟨λb f=>?_,h.sublist (List.drop_sublist _ _)⟩,λa n b f=>?_⟩
 .obtain⟨k,d,rfl⟩:=List.mem_iff_getElem.mp f;have c:IU.below xs j+k<xs.size:=by simp at d;lia
  have z:=g _ c (by lia);have e:(xs.toList.drop (IU.below xs j))[k]=xs[IU.below xs j+k]:=by simp
  rw[e];by_cases q:j=xs[IU.below xs j+k]
  .exfalso;by_cases l:k=0
   .subst l;refine m ?_;rw[Cn (by lia)];simpa using q.symm
   .have p:=g _ (show IU.below xs j<xs.size by lia) (yr _);have o:=h.lt (show IU.below xs j<IU.below xs j+k by lia) c;lia
  .lia
 .have i:a<j:=by
   obtain⟨k,d,rfl⟩:=List.mem_iff_getElem.mp n;have c:k<IU.below xs j/\k<xs.size:=by simp at d;lia
   have:=b2 k c.2 c.1;simpa using this
  rcases dt.mp f with rfl|f
  .exact i
  .obtain⟨k,d,rfl⟩:=List.mem_iff_getElem.mp f;have c:IU.below xs j+k<xs.size:=by simp at d;lia
   have z:=g _ c (by lia);have e:(xs.toList.drop (IU.below xs j))[k]=xs[IU.below xs j+k]:=by simp
   rw[e];lia
def qB(t:IU)(j:Nat):Prop:=t.place[IU.below t.place j]?≠Kb j
theorem lX{t:IU}{j:Nat}(h:t.slot j=.empty\/t.slot j=.dummy):qB t j:=by
 intro e;have:t.slot j=.live (IU.below t.place j):=by
  unfold IU.slot;simp[e]
 rw[this]at h;rcases h with h|h <;> cases h
theorem sv(t:IU)(f:Nat->Int)(h:Int):∀(a:Nat)(p:IU.Probe),(∀d,p.dummy=Kb d->qB t d)->∀j c,IU.probe.go t f h a p=Kb (.empty j c)->qB t j/\∀d,c=Kb d->qB t d:=by
 intro a;induction a with
 |zero=>intro p _ j c e;unfold IU.probe.go at e;cases e
 |succ a i =>
  intro p k j c e;unfold IU.probe.go at e;have g:∀q:IU.Probe,(t.advance q).dummy=q.dummy:=λq=>by
   unfold IU.advance;split <;> rfl
  split at e
  .rename_i he
   injection e with e;injection e with m l;subst m l;exact⟨lX (.inl he),k⟩
  .rename_i he
   refine i _ (λd b=>?_) j c e;rw[g]at b;injection b with b;subst b;exact lX (.inr he)
  .split at e
   .injection e with e;cases e
   .refine i _ (λd b=>k d ?_) j c e;rw[g]at b;exact b
theorem nH{t:IU}{h:Int}{j:Nat}{b:Bool}(e:t.freeSlot h=Kb (j,b)):qB t j:=by
 unfold IU.freeSlot at e;split at e
 .rename_i j' dm he
  obtain⟨g,f⟩:=sv t _ h _ _ (λd a=>by simp[IU.probeStart]at a) _ _ he;injection e with e;injection e with c i;subst c;cases dm with
  |none=>exact g
  |some d=>exact f d U
 .cases e
theorem uS(n:Nat):Asc (Array.range n):=by
 unfold Asc;rw[Array.toList_range];exact List.pairwise_lt_range
theorem ft(t:IU)(n:Nat):Asc (t.standIn n).place:=uS n
theorem sy{t:IU}(c:Asc t.place)(a:Array (Int×Gf))(h:Int)(x:Gf):Asc (IV t a h x).2.1.place/\(IV t a h x).2.1.led=t.led:=by
 unfold IV;split
 .rename_i slot wd e
  have b:Asc (t.put slot).1.place:=sr c (nH e);dsimp only;unfold IU.orStandIn;split
  .exact⟨b,U⟩
  .exact⟨ft _ _,U⟩
 .exact⟨ft _ _,U⟩
theorem qC(f:Nat->Option Nat):∀l:List Nat,((l.filterMap λj=>(f j).map (j,·)).map (·.1)).Sublist l
 | []=>by simp
 |j :: l=>by
  have a:=qC f l;rw[sO];cases e:f j with
  |none=>exact a.trans (List.sublist_cons_self _ _)
  |some v=>exact a.cons_cons j
theorem sD{t t':IU}{b:Array Int}{n:Nat}{o:Array Nat}(e:t.relaid b n=Kb (t',o)):Asc t'.place/\t'.led=t.led:=by
 unfold IU.relaid IU.laid at e;cases hc:IU.layClean (IU.sizeAbove n-1) b with
 |none=>rw[hc]at e;cases e
 |some a =>
  rw[hc]at e;injection e with e;injection e with c d;subst c;exact⟨List.pairwise_lt_range.sublist (qC _ _),U⟩
theorem pE{t:IU}(b:Asc t.place)(a:Array (Int×Gf))(n:Nat):Asc (IW t a n).2.1.place/\(IW t a n).2.1.led=t.led:=by
 unfold IW;split
 .rename_i t' o e
  dsimp only;split
  .exact sD e
  .exact⟨ft _ _,U⟩
 .exact⟨ft _ _,U⟩
theorem fE{α:Type}:∀{l:List α}{i:Nat}{x:α},l[i]?=Kb x->(x :: l.eraseIdx i).Perm l
 | [],i,x,h=>by simp at h
 |a :: l,0,x,h=>by simp at h;subst h;exact .refl _
 |a :: l,i+1,x,h=>by
  have b:=fE (l:=l) (i:=i) (x:=x) (by simpa using h);rw[List.eraseIdx_cons_succ];exact(List.Perm.swap _ _ _).trans (b.cons a)
theorem yu{α:Type}(next:Nat->Nat):∀(a k:Nat)(left:List α)(out:Array α),a=left.length->∃l:List α,l.Perm left/\(IX.go next a k left out).toList=out.toList++l:=by
 intro a;induction a with
 |zero =>
  intro k left out e;exact⟨left,.refl _,by unfold IX.go;rw[List.length_eq_zero_iff.mp e.symm];simp⟩
 |succ a d =>
  intro k left out e;have b:next k%left.length<left.length:=Az _ (by lia);have c:left[next k%left.length]?=Kb left[next k%left.length]:=Gy b;unfold IX.go;rw[c];dsimp only;obtain⟨l,p,f⟩:=d (k+1) (left.eraseIdx (next k%left.length)) (out.push left[next k%left.length]) (by rw[List.length_eraseIdx_of_lt b];lia);exact⟨left[next k%left.length] :: l,(p.cons _).trans (fE c),by rw[f];simp⟩
theorem uT{α:Type}(next:Nat->Nat)(xs:Array α):(IX next xs).toList.Perm xs.toList:=by
 obtain⟨l,p,e⟩:=yu next xs.size 0 xs.toList #[] (by simp);have:(IX next xs).toList=l:=by unfold IX;rw[e];simp
 rw[this];exact p
def dM(w:Gn):Bool:=w.params.followText "set-order"
def kq:Gf->Int
 | .int k _=>k
 |_=>0
structure gX(es:Array (Int×Gf))(ks:List Int):Prop where
 ent:∀e∈es.toList,e.1=hashInt (kq e.2)/\∃u,e.2=.int (kq e.2) u
 nd:(es.toList.map λe=>kq e.2).Nodup
 mem:∀k,k∈ks↔k∈es.toList.map λe=>kq e.2
theorem gX.perm{b a:Array (Int×Gf)}{ks:List Int}(h:gX b ks)(p:a.toList.Perm b.toList):gX a ks :=
 ⟨λe c=>h.ent e (p.mem_iff.mp c),(p.map _).nodup_iff.mpr h.nd,λk=>(h.mem k).trans (p.map _).mem_iff.symm⟩
theorem gX.push{d:Array (Int×Gf)}{ks:List Int}{k:Int}{u:Tok}(h:gX d ks)(f:k ∉ ks):gX (d.push (hashInt k,.int k u)) (ks++[k]):=by
 refine⟨λe c=>?_,?_,λq=>?_⟩
 .rw[Df]at c;rcases gg.mp c with c|c
  .exact h.ent e c
  .rw[hZ]at c;subst c;exact⟨U,u,U⟩
 .rw[Df,iv,vK];refine⟨h.nd,by simp,λa i b g=>?_⟩;have j:b=k:=by simpa[kq]using g
  subst j;exact λe=>f ((h.mem b).mpr (e ▸ i))
 .rw[Df,iv,gg,gg,h.mem q];simp[kq]
theorem gX.again{a:Array (Int×Gf)}{ks:List Int}{k:Int}(h:gX a ks)(b:k∈ks):gX a (ks++[k]) :=
 ⟨h.ent,h.nd,λq=>by
  rw[←h.mem q,gg,hZ];exact⟨λz=>z.elim id λz=>z ▸ b,.inl⟩⟩
theorem gX.elems{b:Array (Int×Gf)}{ks:List Int}(h:gX b ks):ElemsOf (GJ prog w) b.toList:=λe c=>by
 obtain⟨d,u,a⟩:=h.ent e c;refine⟨⟨kq e.2,?_,d⟩,?_⟩
 .rw[a];exact IY _ _ _ _
 .rw[a];rfl
theorem gX.found{b:Array (Int×Gf)}{ks:List Int}(h:gX b ks){k:Int}{e:Int×Gf}(a:e∈b.toList)(c:(GJ prog w).is k e.2=Kd):k∈ks:=by
 obtain⟨_,u,d⟩:=h.ent e a;refine(h.mem k).mpr (en.mpr ⟨e,a,?_⟩);exact(GJ prog w).inj e.2 _ _ (by rw[d];exact IY _ _ _ _) c
def dH(h:GG)(a:GD)(led:Bool)(ks:List Int)(n:Nat):Prop :=
 ∃o b c t,h.get? a=Kb o/\o.ExactSet/\o.data=.set b c t/\gX b ks/\b.size<IH/\t.fits b.size=Kd/\Asc t.place/\t.led=led/\b.size=n
theorem dH.stay{h h':GG}{a:GD}{led:Bool}{ks:List Int}{n:Nat}(x:dH h a led ks n)(k:∀o,h.get? a=Kb o->h'.get? a=Kb o):dH h' a led ks n:=by
 obtain⟨o,c,d,t,b,r⟩:=x;exact⟨o,c,d,t,k o b,r⟩
theorem dH.store{h:GG}{a:GD}{o:Obj}{m:Array (Int×Gf)}{c:Nat}{t:IU}(g:h.get? a=Kb o)(d:o.ExactSet)(f:o.data=.set m c t)
  {b:Array (Int×Gf)}{t':IU}{ks:List Int}(j:gX b ks)(k:b.size<IH)(i:t'.fits b.size=Kd)(l:Asc t'.place) :
  (h.update a (Obj.putSet b t')).get? a=Kb { o with data:=.set b (c+1) t' }/\dH (h.update a (Obj.putSet b t')) a t'.led ks b.size:=by
 have e:(h.update a (Obj.putSet b t')).get? a=Kb { o with data:=.set b (c+1) t' }:=by
  have:=GG.get?_update_self (Obj.putSet b t') g (by rw[putSet_of b t' f];rfl);rw[putSet_of b t' f]at this;exact this
 exact⟨e,_,b,c+1,t',e,d,U,j,k,i,l,U,U⟩
theorem qD{g:Bool->Sem Unit}(I:∀(b:Bool)(e:GP)(F:Unit->GP->Prop),F () e->GU (model prog w) A (g b) F E e)
  {a:GD}{o:Obj}{J:Array (Int×Gf)}{K:Nat}{t:IU}(C:s.heap.get? a=Kb o)(p:o.ExactSet)(D:o.data=.set J K t)
  {c:Array (Int×Gf)}{d:IU}{ks:List Int}{led:Bool}(q:gX c ks)
  (j:c.size<IH)(B:d.fits c.size=Kd)(u:Asc d.place)(n:d.led=led){H:Bool}{R:Option Bool->GP->Prop}
  (h:∀h',GG.SameBut a s.heap h'->dH h' a led ks c.size->R (Kb Kd) { s with heap:=h' }) :
  GU (model prog w) A (do
    storeSet a c d
    if (!H && d.tooFull)=Kd then do
      g (IW d c (IU.grown c.size)).2.2
      storeSet a (IW d c (IU.grown c.size)).1 (IW d c (IU.grown c.size)).2.1
      pure (Kb Kd)
     else pure (Kb Kd)) R E s:=by
 refine DN (IZ C D ?_ (I0 j));obtain⟨m,x⟩:=dH.store C p D q j B u;rw[n]at x;have G:=GG.SameBut.update s.heap a (Obj.putSet c d);split
 .have z:=relayAll_perm d c (IU.grown c.size);have i:=relayAll_fits d c (IU.grown c.size);obtain⟨k,f⟩:=pE u c (IU.grown c.size);generalize L:IW d c (IU.grown c.size)=Rl at z i k f⊢;obtain⟨y,M,N⟩:=Rl;dsimp only at z i k f⊢;have l:y.size=c.size:=by rw[←CQ,z.length_eq,CQ]
  have r:y.size<IH:=by rw[l];exact j
  refine DN (I _ _ _ ?_);refine DN (IZ m U ?_ (I0 r));obtain⟨_,v⟩:=dH.store m p U (q.perm z) r i k;rw[l,f,n]at v;exact D0 (h _ (G.trans (GG.SameBut.update _ a _)) v)
 .exact D0 (h _ G x)
theorem addW{a:GD}{led:Bool}{ks:List Int}{n:Nat}{k:Int}{u:Tok}{Q:Bool->GP->Prop}(hS:dH s.heap a led ks n)(R:n+1<IH)
  (h:∀h' T b,GG.SameBut a s.heap h'->T<=n+1->dH h' a led (ks++[k]) T->Q b { s with heap:=h' }) :
  GU (model prog w) A (setAddHashed a (.int k u) ((GJ prog w).hash k)) Q E s:=by
 obtain⟨o,p,ep,t,B,r,C,x,W,N,X,I,K⟩:=hS;have Ag:(GJ prog w).is k (.int k u)=true:=IY _ _ _ _;have F:(Gf.int k u).scannable=true:=rfl;have G:=x.elems (prog:=prog) (w:=w);have a0:p.size+1<IH:=by rw[K];exact R
 unfold setAddHashed setAddHashedIn;refine EX (DN (I1 B C N ?_));dsimp only;rw[byScan_of F W G];simp only[↓reduceIte];unfold setAddByScan;refine DN ?_;refine DN (Ja ?_);refine DN (wpAny_setScan_of Ag B C N G ?_);cases hr:List.findIdx? (λe=>(GJ prog w).is k e.2) p.toList with
 |some j =>
  dsimp only;obtain⟨Z,O,_⟩:=List.findIdx?_eq_some_iff_getElem.mp hr;have M:k∈ks:=x.found (nC Z) O;refine D0 (D0 ?_);have e:s={ s with heap:=s.heap }:=by cases s;rfl
  rw[e];exact h s.heap n Ke (GG.SameBut.refl a s.heap) (zd _) ⟨o,p,ep,t,B,r,C,x.again M,W,N,X,I,K⟩
 |none =>
  dsimp only;have M:k ∉ ks:=λz=>by
   obtain⟨e,V,q⟩:=en.mp ((x.mem k).mp z);have:=List.findIdx?_eq_none_iff.mp hr e V;obtain⟨_,v,h2⟩:=x.ent e V;rw[h2]at this;rw[←q]at this;rw[IY]at this;exact Bool.noConfusion this
  have P:∀(b:Bool){c:GP}{D:Unit->GP->Prop},D () c->GU (model prog w) A (match b with|true=>rule "set.scan.the-table-gave-way" | false=>pure ()) D E c :=
   λb c D m=>by cases b <;> first|exact D0 m|exact Ja m
  have J:=layNew_perm t p ((GJ prog w).hash k) (.int k u);have y:=layNew_fits t p ((GJ prog w).hash k) (.int k u);obtain⟨i,f⟩:=sy X p ((GJ prog w).hash k) (.int k u);generalize hL:IV t p ((GJ prog w).hash k) (.int k u)=L at J y i f⊢;obtain⟨l,t1,qE,Gm⟩:=L;dsimp only at J y i f⊢;have H:gX l (ks++[k]):=(x.push (u:=u) M).perm J;have Dp:l.size=n+1:=by rw[←CQ,J.length_eq,CQ,Array.size_push,K]
  have Y:l.size<IH:=by rw[Dp];exact R
  refine DN (P _ ?_);have S:∀h',GG.SameBut a s.heap h'->dH h' a led (ks++[k]) l.size->Q Kd { s with heap:=h' }:=λh' d g=>h h' _ Kd d (by lia) g
  split
  .refine DN ?_;rw[hashByValue_scannable 8 F];refine D0 ?_;refine qD ?_ B r C H Y ?_ ?_ (led:=led) ?_ ?_
   .intro b c D m;cases b <;> first|exact D0 m|exact Ja m
   .split
    .exact y
    .exact IU.fits_plain_off y
   .split
    .exact i
    .exact i
   .split
    .exact f.trans I
    .exact f.trans I
   .intro h' d g;dsimp only;exact D0 (S h' d g)
  .refine DN (D0 ?_);simp only[↓reduceIte];refine qD ?_ B r C H Y y i (f.trans I) ?_
   .intro b c D m;cases b <;> first|exact D0 m|exact Ja m
   .intro h' d g;dsimp only;exact D0 (S h' d g)
theorem sF(a:Gf){Q₁:Gf->GP->Prop}
  (h:Q₁ (.ref s.heap.objs.size) { s with heap:=s.heap.push { cls:=.type "set",dict:=Kc,data:=.set #[] 0 (.fresh 0 0 (!dM w)) } }) :
  HH (model prog w) A (.call (.builtin "set.__new__") ⟨[.type "set",a],[]⟩) (wants Q₁ E) s:=by
 refine IS ?_;show GU _ A.in1 (do checkBuiltinCall "set.__new__" ⟨[.type "set",a],[]⟩;again (.builtin "set.__new__" ⟨[.type "set",a],[]⟩)) _ _ s;refine DN (Jb (F.newCall_set_1 a) (D0 ⟨IL F.plain_set_new _,IJ F.entry_set_new ?_⟩));rw[GO.under_plainId F.plain_set_new _];unfold Hw.«set.__new__» Hw.Frozenset.newClass;have c:=sub_set_self;obtain⟨f,g,d,b,e⟩:=s;dsimp only
 wp_walk
 refine Jc (D0 ?_);dsimp only;simp only[newObj];refine DN (wpAny_alloc (D0 ?_));exact D0 h
theorem Av{R:HG->GP->Prop}{I:GD}{N j:List GD}{G:Array GR->Array GR->Prop}{n:Nat}{P:Nat->Gf->Prop}{St:Nat->GP->Prop}(W:IG prog w A.in1 I N j G n P St){a:GD}(L:a ∉ N){ks:List Int}{led:Bool}
  (X:∀i v,P i v->∃k u,ks[i]?=Kb k/\v=.int k u)(h:n+1<IH):∀(d i:Nat)(s:GP)(m:Nat),n=i+d->m<=i->St i s->dH s.heap a led (ks.take i) m ->
   (∀s' H,II (a :: j) G s s'->dH s'.heap a led (ks.take n) H->H<=n->R (.ok (.ret .none)) s')->HH (model prog w) A (.builtin "set.update.loop" ⟨[.ref a,.ref I],[]⟩) R s:=by
 have J:a ∉ j:=λz=>L (W.sub a z)
 intro d;induction d with
 |zero =>
  intro i s m e K l x c;rw[show n=i by lia]at W c;refine IJ (R:=R) (A:=A) F.entry_set_update_loop ?_;rw[GO.under_plainId (A:=A) F.plain_set_update_loop _];show GU (model prog w) A.in1 (Hq (.ref I) >>= _) _ _ s;exact DN (W.done s _ _ l λs' g=>D0 (c s' m (g.mono λb h=>iO a h) (x.stay λo q=>g.heap a o J q) K))
 |succ d V =>
  intro i s m e K l x c;refine IJ (R:=R) (A:=A) F.entry_set_update_loop ?_;rw[GO.under_plainId (A:=A) F.plain_set_update_loop _];show GU (model prog w) A.in1 (Hq (.ref I) >>= _) _ _ s;refine DN (W.item i s _ _ (by lia) l λv f p r g=>?_);obtain⟨k,u,Z,rfl⟩:=X i v p;have Q:=x.stay λo q=>g.heap a o J q
  show GU (model prog w) A.in1 (holding [.int k u] (IK a (.int k u)) >>= _) _ _ f;refine DN (EX (show GU (model prog w) A.in1 (IK a (.int k u)) _ _ f from ?_));unfold IK;refine EX (DN ((GJ prog w).pyHash (k:=k) (IY _ _ _ _) ?_));refine addW (s:={ f with toks:=f.toks+1 }) Q (by lia) λM S _ E a0 D=>?_
  have Y:ks.take (i+1)=ks.take i++[k]:=by rw[nS,Z];rfl
  rw[←Y]at D;refine D0 ⟨IL F.plain_set_update_loop _,V (i+1) { f with heap:=M,toks:=f.toks+1 } S (by lia) (by lia) (W.frame (i+1) f M (f.toks+1) r (zd _) λb C o q=>(E.2 b λz=>L (z ▸ C)).trans q) D λs2 T t O y=>?_⟩;refine c s2 T (II.trans W.gtrans ((g.mono λb h=>iO a h).then_heap (zd _) λb o B q=>?_) t) O y;exact(E.2 b λz=>B (z ▸ ff)).trans q
theorem Aw{l:GD}{items:Array Gf}{ks:List Int}(K:A.handled=Kc)(I:s.heap.IsList l items)(J:∀(i:Nat)(v:Gf),items[i]?=Kb v->∃k u,ks[i]?=Kb k/\v=.int k u)(H:ks.length=items.size)(L:items.size+1<IH) :
  HH (model prog w) A (.call (.builtin "set.__init__") ⟨[.ref s.heap.objs.size,.ref l],[]⟩) (wants (λr s2=>r=.none/\∃h' n m,s2={ s with heap:=h',toks:=n }/\dH h' s.heap.objs.size (!dM w) ks m/\m<=ks.length/\∀b o,b<s.heap.objs.size->s.heap.get? b=Kb o->h'.get? b=Kb o) E) { s with heap:=s.heap.push (dh (!dM w)) }:=by
 have j:(s.heap.push (dh (!dM w))).get? s.heap.objs.size=Kb (dh (!dM w)):=GG.get?_push_size s.heap U;have ty:GP.TypeIs { s with heap:=s.heap.push (dh (!dM w)) } (.ref s.heap.objs.size) "set" := ⟨dh (!dM w),j,U⟩;refine IM F.called_set.init.plain F.entry_set_init (IP ty ?_);obtain⟨⟨Z,R,Y,Q⟩,f,h,m,g⟩:=I;dsimp only at h g;subst h g;have N:(s.heap.push (dh (!dM w))).get? l=Kb { cls:=.type "list",dict:=R,data:=.seq items m,slots:=Q }:=GG.get?_push_of_some _ f;have W:=F.sub_list_set;have V:=F.sub_list_frozenset;have T:(Gf.type "list" == Gf.type "dict")=false:=by decide
 have e:(s.heap.push (dh (!dM w))).IsList l items:=⟨_,N,U,m,U⟩;have lt:l<s.heap.objs.size:=GG.lt_size f;have t:dH (s.heap.push (dh (!dM w))) s.heap.objs.size (!dM w) [] 0:=⟨_,#[],0,_,j,⟨U,U,U⟩,U,⟨by simp,by simp,by simp⟩,by unfold IH;decide,U,List.Pairwise.nil,U,U⟩;unfold Hw.«set.__init__» Hw.Frozenset.updateFrom noKeywords;generalize M:Hs=it;generalize X:dM w=bt at *
 wp_walk
 subst M;refine Hv e (DN (IQ ?_));have C:l≠(s.heap.push (dh (!bt))).objs.size:=by rw[GG.size_push];exact yv (zc lt)
 have D:s.heap.objs.size ∉ [(s.heap.push (dh (!bt))).objs.size,l]:=by
  rw[GG.size_push];intro z;rcases dt.mp z with z|z
  .exact Kk z (yv (zg _))
  .exact Kk (by simpa using z) (zb lt)
 refine Av ((Hu.list (by simp[K]) _ l C items).toS) D (ks:=ks) (led:=!bt) J L items.size 0 _ 0 (Nat.zero_add _).symm (yr _) ⟨⟨_,GG.get?_push_size _ U,U,U⟩,e.push _⟩ (t.stay λo q=>GG.get?_push_of_some _ q) λy G c x S=>?_
 obtain⟨h',O,P,p,B⟩:=y;obtain rfl:O=s.gens:=c.gens;obtain rfl:P=s.drawn:=c.drawn;obtain rfl:B=s.os:=c.os;refine D0 (show GU (model prog w) _ (ret Gf.none) _ _ _ from D0 ⟨U,h',p,G,U,?_,by lia,λb o a q=>?_⟩)
 .rw[←H,ip]at x;exact x
 .refine c.heap b o (λz=>?_) (GG.get?_push_of_some _ (GG.get?_push_of_some _ q));rcases dt.mp z with z|z
  .exact Kk z (yv a)
  .have d:b=(s.heap.push (dh (!bt))).objs.size:=by simpa using z
   rw[GG.size_push]at d;exact Kk d (yv (zc a))
set_option maxRecDepth 100000 in
theorem uU{l:GD}{items:Array Gf}{ks:List Int}{Q:Gf->GP->Prop}(B:A.handled=Kc)(y:s.heap.IsList l items)(z:∀(i:Nat)(v:Gf),items[i]?=Kb v->∃k u,ks[i]?=Kb k/\v=.int k u)(q:ks.length=items.size)(C:items.size+1<IH)
  (h:∀h' d m,dH h' s.heap.objs.size (!dM w) ks m->m<=ks.length->(∀b o,b<s.heap.objs.size->s.heap.get? b=Kb o->h'.get? b=Kb o)->Q (.ref s.heap.objs.size) { s with heap:=h',toks:=d }):GU (model prog w) A (call (.type "set") [.ref l]) Q E s:=by
 obtain⟨c,H,mro⟩:=F.called_set.mro;have N:=F.called_set.made;have M:=F.called_set.sub;have L:=F.called_set.notType;have K:=F.called_set.canCreate;have J:=F.typeCall_set_1 (.ref l);refine HQ (IS (show GU (model prog w) _ (callAny (.type "set") _) _ _ _ from D0 ⟨HL.quiet_builtin _ (by decide+kernel),IJ F.entry_type_call ?_⟩));rw[GO.under_plain (A:=A) (IT "set" [.ref l] []) U]
 repeat (any_goals (first|assumption|wp_step))
 refine HR (sF (.ref l) (E:=E) (Q₁:=λj g=>j=.ref s.heap.objs.size/\g={ s with heap:=s.heap.push (dh (!dM w)) }) ⟨U,U⟩) λr g f=>?_
 cases r with
 |error e=>exact f
 |ok fl =>
  cases fl with
  |ret j =>
   obtain⟨rfl,rfl⟩:=f;have D:(s.heap.push (dh (!dM w))).get? s.heap.objs.size=Kb (dh (!dM w)):=GG.get?_push_size s.heap U;have ty:GP.TypeIs { s with heap:=s.heap.push (dh (!dM w)) } (.ref s.heap.objs.size) "set" := ⟨dh (!dM w),D,U⟩;have I:=F.called_set.init.lookup;have b2:=F.called_set.init.bind (.ref s.heap.objs.size)
   repeat (any_goals (first|assumption|wp_step))
   refine HR (Aw (E:=E) (by simp[B]) y z q C) λn s2 a=>?_
   cases n with
   |error e=>exact a
   |ok G =>
    cases G with
    |ret r =>
     obtain⟨rfl,h',d,m,rfl,x,t,p⟩:=a
     repeat (any_goals (first|assumption|wp_step))
     exact h h' d m x t p
    |_=>exact a.elim
  |_=>exact f.elim
set_option maxRecDepth 100000
theorem aU:Slot "set_iterator" "__next__" "set_iterator.__next__" :=
 .of (owner := "set_iterator") (n := "__next__") (by rw[Jd,Je];kernel_rfl) (by decide+kernel) (by decide+kernel) (by decide+kernel)
  (by first|exact .inl (by decide+kernel)|exact .inr (by decide+kernel)) (by rw[Jf];kernel_rfl)
theorem gK:Slot "set_iterator" "__iter__" "set_iterator.__iter__" :=
 .of (owner := "set_iterator") (n := "__iter__") (by rw[Jd,Je];kernel_rfl) (by decide+kernel) (by decide+kernel) (by decide+kernel)
  (by first|exact .inl (by decide+kernel)|exact .inr (by decide+kernel)) (by rw[Jf];kernel_rfl)
theorem cO:Jg table "set_iterator.__next__" = Kb Hw.«set_iterator.__next__»:=entryFor_of_fast (by kernel_rfl)
theorem kr:Jg table "set_iterator.__iter__" = Kb Hw.«dict_keyiterator.__iter__» :=
 Jh (id' := "dict_keyiterator.__iter__") (by kernel_rfl) U (by decide+kernel) (by kernel_rfl)
theorem lY:Jg table "set.__iter__" = Kb Hw.«frozenset.__iter__» :=
 Jh (id' := "frozenset.__iter__") (by kernel_rfl) U (by decide+kernel) (by kernel_rfl)
theorem dc(a:Gf):Ji "set_iterator.__next__" ⟨[a],[]⟩:=by unfold Ji;kernel_rfl
theorem kW(a:Gf):Ji "set_iterator.__iter__" ⟨[a],[]⟩:=by unfold Ji;kernel_rfl
abbrev eU(first:Gf)(i:Int)(s:Gf)(n a:Nat):Obj:={ cls:=.type "set_iterator",data:=.fields #[first,.int i 0,s,.int n 0,.int a 0] }
theorem pF{a:Source}{n:Nat}{Q:Nat->GP->Prop}(b:n≠0)(h:Q (w.draws a (s.drawn.get a)%n) { s with drawn:=s.drawn.bump a }) :
  GU (model prog w) A (choose a n) Q E s:=λ_ _ _=>⟨b,h⟩
theorem lZ{α:Type}:∀(n:Nat)(xs:List α)(s:GP){Q:List α->GP->Prop},n=xs.length->(∀ys d,ys.Perm xs->Q ys { s with drawn:=d })->GU (model prog w) A (Jj n xs) Q E s:=by
 intro n;induction n with
 |zero =>
  intro xs s Q e h;have:xs=[]:=List.length_eq_zero_iff.mp e.symm;subst this;unfold Jj;exact D0 (h [] s.drawn (.refl _))
 |succ n c =>
  intro xs s Q e h;cases xs with
  |nil=>simp at e
  |cons x r =>
   unfold Jj;refine DN (pF (by simp) ?_);generalize hi:w.draws Source.order (s.drawn.get Source.order)%(x :: r).length=i;have a:i<(x :: r).length:=by rw[←hi];exact Az _ (by simp)
   have b:(x :: r)[i]?=Kb (x :: r)[i]:=Gy a;rw[b]
   try dsimp only
   refine DN (c _ _ (by rw[List.length_eraseIdx_of_lt a];lia) λys d p=>D0 ?_);exact h _ d ((p.cons _).trans (fE b))
theorem uV{I a:GD}{b i:Nat}{o:Obj}{c:Array (Int×Gf)}{d:Nat}{t:IU}{Q:Option Gf->GP->Prop}
  (e:s.heap.get? I=Kb (eU (.int b 0) i (.ref a) c.size d))(k:s.heap.get? a=Kb o)(n:o.data=.set c d t)(l:t.fits c.size=Kd)
  {x:Gf}{nx:Nat}(q:∀(j:Option (Gf×Nat)->GP->Prop) E',j (Kb (x,nx)) s->GU (model prog w) A.in1 (Jk a b i d) j E' s)
  (p:∀h',h'.get? I=Kb (eU (.int nx 0) ((i+1:Nat):Int) (.ref a) c.size d)->GG.SameBut I s.heap h'->Q (Kb x) { s with heap:=h' }) :
  GU (model prog w) A (Hq (.ref I)) Q E s:=by
 have h:s.TypeIs (.ref I) "set_iterator" := ⟨_,e,U⟩;unfold Hq;refine DN (Jl (Jm (name:=s!"__next__") h aU (Jn aU h cO ?_ (dc _))));unfold Hw.«set_iterator.__next__»;refine DN (m:=Jo "__next__" 0 _) (D0 ?_);refine DN (Jp e U ?_)
 try dsimp only
 refine DN (Jq k n l ?_);rw[Ki (by simp)]
 try dsimp only
 simp only[DJ];refine DN (q _ _ ?_)
 try dsimp only
 refine DN (Jr e (by simp) λu y g=>?_);refine DN (Jr (s:={ s with heap:=u }) y (by simp) λr v f=>?_);refine D0 ⟨x,U,D0 (p r ?_ (g.trans f))⟩;rw[v];simp[eU,Ht]
theorem uW{I a:GD}{c i:Nat}{o:Obj}{e:Array (Int×Gf)}{f:Nat}{t:IU}{Q:Option Gf->GP->Prop}(k:A.handled=Kc)
  (d:s.heap.get? I=Kb (eU (.int c 0) i (.ref a) e.size f))(j:s.heap.get? a=Kb o)(n:o.data=.set e f t)(l:t.fits e.size=Kd)
  (q:∀(h:Option (Gf×Nat)->GP->Prop) E',h Kc s->GU (model prog w) A.in1 (Jk a c i f) h E' s)
  (p:∀h',GG.ExtBut I s.heap h'->Q Kc { s with heap:=h' }) :
  GU (model prog w) A (Hq (.ref I)) Q E s:=by
 have g:s.TypeIs (.ref I) "set_iterator" := ⟨_,d,U⟩;unfold Hq;refine DN (Jl (Jm (name:=s!"__next__") g aU (Jn aU g cO ?_ (dc _))));unfold Hw.«set_iterator.__next__»;refine DN (m:=Jo "__next__" 0 _) (D0 ?_);refine DN (Jp d U ?_)
 try dsimp only
 refine DN (Jq j n l ?_);rw[Ki (by simp)]
 try dsimp only
 simp only[DJ];refine DN (q _ _ ?_)
 try dsimp only
 refine DN (Js d U (by simp) ?_);show GU _ _ (Jt (.type "StopIteration") [] >>= _) _ _ _;refine DN ?_;simp only[Jt,newTuple];refine DN (Iy ?_ (by size_fits));refine DN (m:=Ju _ _) (Jb (a:=Gf.none) (by first|rfl|(simp only[Ju];rfl)) ?_);refine Iy ?_ (by size_fits);simp only[raiseNew];refine DN (Jv ?_);rw[show A.in1.handled=Kc from k];refine DN (D0 (wpAny_throw ?_));refine DN (Jw (T := "StopIteration") (b:=Kd) ⟨_,GG.get?_push_size _ U,U⟩ Jx ?_);exact D0 (p _ (((GG.SameBut.update ..).extBut.push _).push _))
theorem sG{I a tp:GD}{i:Nat}{o:Obj}{b:Array (Int×Gf)}{d:Nat}{t:IU}{places:List Nat}{m:Nat}{to:Obj}{Q:Option Gf->GP->Prop}
  (c:s.heap.get? I=Kb (eU (.ref tp) i (.ref a) b.size d))(n:s.heap.get? tp=Kb to)(g:to.data=.seq (places.map λ(p:Nat)=>Ht p).toArray m)(h:s.heap.get? a=Kb o)(k:o.data=.set b d t)(j:t.fits b.size=Kd)
  {p:Nat}(q:places[i]?=Kb p){e:Int×Gf}(r:b[p]?=Kb e)
  (u:∀h',h'.get? I=Kb (eU (.ref tp) ((i+1:Nat):Int) (.ref a) b.size d)->GG.SameBut I s.heap h'->Q (Kb e.2) { s with heap:=h' }) :
  GU (model prog w) A (Hq (.ref I)) Q E s:=by
 have l:s.TypeIs (.ref I) "set_iterator" := ⟨_,c,U⟩;unfold Hq;refine DN (Jl (Jm (name:=s!"__next__") l aU (Jn aU l cO ?_ (dc _))));unfold Hw.«set_iterator.__next__»;refine DN (m:=Jo "__next__" 0 _) (D0 ?_);refine DN (Jp c U ?_)
 try dsimp only
 refine DN (Jq h k j ?_);rw[Ki (by simp)]
 try dsimp only
 refine DN (Jy n g ?_)
 try dsimp only
 have y:(places.map λ(p:Nat)=>Ht p).toArray[(i:Int).toNat]?=Kb (.int p 0):=by simp[q,Ht]
 rw[y]
 try dsimp only
 unfold setNextDrawn;refine DN (DN (I1 h k j ?_))
 try dsimp only
 rw[Ki (by simp)];refine DN (D0 ?_);simp only[DJ,r];refine D0 ?_;refine DN (Jr c (by simp) λv x f=>?_);refine D0 ⟨e.2,U,D0 (u v ?_ f)⟩;rw[x];simp[eU,Ht]
theorem l0{I a tp:GD}{i:Nat}{o:Obj}{d:Array (Int×Gf)}{j:Nat}{t:IU}{places:List Nat}{m:Nat}{to:Obj}{Q:Option Gf->GP->Prop}(n:A.handled=Kc)
  (c:s.heap.get? I=Kb (eU (.ref tp) i (.ref a) d.size j))(k:s.heap.get? tp=Kb to)(f:to.data=.seq (places.map λ(p:Nat)=>Ht p).toArray m)(l:s.heap.get? a=Kb o)(r:o.data=.set d j t)(q:t.fits d.size=Kd)
  (g:places[i]?=Kc)(u:∀h',GG.ExtBut I s.heap h'->Q Kc { s with heap:=h' }) :
  GU (model prog w) A (Hq (.ref I)) Q E s:=by
 have h:s.TypeIs (.ref I) "set_iterator" := ⟨_,c,U⟩;unfold Hq;refine DN (Jl (Jm (name:=s!"__next__") h aU (Jn aU h cO ?_ (dc _))));unfold Hw.«set_iterator.__next__»;refine DN (m:=Jo "__next__" 0 _) (D0 ?_);refine DN (Jp c U ?_)
 try dsimp only
 refine DN (Jq l r q ?_);rw[Ki (by simp)]
 try dsimp only
 refine DN (Jy k f ?_)
 try dsimp only
 have y:(places.map λ(p:Nat)=>Ht p).toArray[(i:Int).toNat]?=none:=by simp at g⊢;exact g
 rw[y]
 try dsimp only
 refine DN (Jr c (by simp) λv x e=>?_);refine DN (Js (s:={ s with heap:=v }) x U (by simp) ?_);show GU _ _ (Jt (.type "StopIteration") [] >>= _) _ _ _;refine DN ?_;simp only[Jt,newTuple];refine DN (Iy ?_ (by size_fits));refine DN (m:=Ju _ _) (Jb (a:=Gf.none) (by first|rfl|(simp only[Ju];rfl)) ?_);refine Iy ?_ (by size_fits);simp only[raiseNew];refine DN (Jv ?_);rw[show A.in1.handled=Kc from n];refine DN (D0 (wpAny_throw ?_));refine DN (Jw (T := "StopIteration") (b:=Kd) ⟨_,GG.get?_push_size _ U,U⟩ Jx ?_);exact D0 (u _ (((e.trans (GG.SameBut.update ..)).extBut.push _).push _))
theorem l7{I:GD}{first:Gf}{i:Int}{v:Gf}{n c:Nat}{Q:Gf->GP->Prop}(b:s.heap.get? I=Kb (eU first i v n c))(h:Q (.ref I) s):GU (model prog w) A (Hs (.ref I)) Q E s:=by
 have a:s.TypeIs (.ref I) "set_iterator" := ⟨_,b,U⟩;refine Jz a gK (Jn gK a kr ?_ (kW _));show GU _ _ (ret (.ref I)) _ _ s;exact D0 ⟨_,U,"set_iterator",_,a,aU.lookup,h⟩
theorem jT{a:GD}{o:Obj}{d:Array (Int×Gf)}{f:Nat}{t:IU}{b i:Nat}(l:dM w=Kd)(g:s.heap.get? a=Kb o)(k:o.data=.set d f t)(j:t.fits d.size=Kd)
  {Q:Option (Gf×Nat)->GP->Prop}(h:Q (((IX (w.params.setOrder a f) d)[i]?).map λe=>(e.2,b)) s):GU (model prog w) A (Jk a b i f) Q E s:=by
 have c:((JA.mk prog w.params).params.followText "set-order")=true:=l;unfold Jk;refine DN (I1 g k j ?_)
 try dsimp only
 unfold JB;refine DN (DN (Jc (D0 ?_)));show GU _ _ (if (JA.mk prog w.params).params.followText "set-order" = Kd then _ else _) _ _ _;rw[Kj c,Ki (by simp)];unfold setWalk;refine DN (DN (I1 g k j ?_))
 try dsimp only
 unfold JB;refine DN (DN (Jc (D0 ?_)));show GU _ _ (if (JA.mk prog w.params).params.followText "set-order" = Kd then _ else _) _ _ _;rw[Kj c];refine DN (Jc (D0 (D0 h)))
theorem i0{a:GD}{o:Obj}{c:Array (Int×Gf)}{e:Nat}{t:IU}{b i:Nat}(n:dM w=Ke)(g:s.heap.get? a=Kb o)(m:o.data=.set c e t)(l:t.fits c.size=Kd)(k:t.led=Kd)(f:(!t.plain && decide (c.size>1))=Ke)
  {Q:Option (Gf×Nat)->GP->Prop}(h:Q (match c[IU.below t.place b]?,t.place[IU.below t.place b]? with|some (_,x),Kb j=>Kb (x,j+1)|_,_=>Kc) s):GU (model prog w) A (Jk a b i e) Q E s:=by
 have d:((JA.mk prog w.params).params.followText "set-order")=false:=n;unfold Jk;refine DN (I1 g m l ?_)
 try dsimp only
 unfold JB;refine DN (DN (Jc (D0 ?_)));show GU _ _ (if (JA.mk prog w.params).params.followText "set-order" = Kd then _ else _) _ _ _;rw[Ki (by rw[d];exact Bool.false_ne_true)];show GU _ _ (if (!t.plain && decide (c.size>1))=Kd then _ else _) _ _ _;rw[Ki (by rw[f];exact Bool.false_ne_true)];show GU _ _ ((if (!t.led && !c.isEmpty)=Kd then unsupported "set:maker-not-led" else pure ()) >>= _) _ _ _;rw[k,Ki (by simp)];exact DN (D0 (D0 h))
set_option maxRecDepth 100000
abbrev qH:Array GR->Array GR->Prop:=λg a=>a=g
theorem oI{I:GD}{h':GG}(a:GG.SameBut I s.heap h'):II [I] qH s { s with heap:=h' } :=
 ⟨λb o c e=>(a.2 b λz=>c (z ▸ ff)).trans e,U,U,U,yr _⟩
theorem oJ{I:GD}{h':GG}(a:GG.ExtBut I s.heap h'):II [I] qH s { s with heap:=h' } :=
 ⟨λb o c e=>a b o (λz=>c (z ▸ ff)) e,U,U,U,yr _⟩
theorem l8(C:A.handled=Kc){I a:GD}(m:a≠I){o:Obj}{e:Array (Int×Gf)}{l:Nat}{t:IU}(r:o.data=.set e l t)(p:t.fits e.size=Kd){ord:List Gf}(B:ord.length=e.size)(h:Nat->Nat)
  (D:∀(i:Nat)(x:Gf)(s:GP)(d:Option (Gf×Nat)->GP->Prop) f,s.heap.get? a=Kb o->ord[i]?=Kb x->d (Kb (x,h (i+1))) s->GU (model prog w) A.in1 (Jk a (h i) i l) d f s)
  (F:∀(s:GP)(d:Option (Gf×Nat)->GP->Prop) f,s.heap.get? a=Kb o->d Kc s->GU (model prog w) A.in1 (Jk a (h e.size) e.size l) d f s) :
  IG prog w A I [I,a] [I] qH e.size (λi v=>ord[i]?=Kb v) (λi s=>s.heap.get? I=Kb (eU (.int (h i) 0) i (.ref a) e.size l)/\s.heap.get? a=Kb o) where
 sub:=λb u=>by simp at u;simp[u]
 grefl:=λ_=>U
 gtrans:=λ_ _ _ H G=>G.trans H
 frame:=λi s y K c _ k=>⟨k I (by simp) _ c.1,k a (by simp) _ c.2⟩
 item:=λi s Q E hi c j=>by
  have z:ord[i]?=Kb ord[i]:=Gy (by lia);refine uV c.1 c.2 r p (x:=ord[i]) (nx:=h (i+1)) (λd f q=>D i _ s d f c.2 z q) λy g n=>?_
  exact j _ _ z ⟨g,(n.2 a m).trans c.2⟩ (oI n)
 done:=λs Q E c j=>uW C c.1 c.2 r p (λd f q=>F s d f c.2 q) λy J=>j _ (oJ J)
 self:=λi s Q E c j=>l7 c.1 j
theorem qI(C:A.handled=Kc){I a tp:GD}(r:a≠I)(q:tp≠I){o to:Obj}{d:Array (Int×Gf)}{B m:Nat}{t:IU}(x:o.data=.set d B t)(u:t.fits d.size=Kd){places:List Nat}(h:to.data=.seq (places.map λ(p:Nat)=>Ht p).toArray m)
  (H:places.length=d.size){ord:List Gf}(G:∀(i:Nat),i<d.size->∃p e,places[i]?=Kb p/\d[p]?=Kb e/\ord[i]?=Kb e.2) :
  IG prog w A I [I,a,tp] [I] qH d.size (λi v=>ord[i]?=Kb v) (λi s=>s.heap.get? I=Kb (eU (.ref tp) i (.ref a) d.size B)/\s.heap.get? a=Kb o/\s.heap.get? tp=Kb to) where
 sub:=λb y=>by simp at y;simp[y]
 grefl:=λ_=>U
 gtrans:=λ_ _ _ n l=>l.trans n
 frame:=λi s z J c _ k=>⟨k I (by simp) _ c.1,k a (by simp) _ c.2.1,k tp (by simp) _ c.2.2⟩
 item:=λi s Q E hi c f=>by
  obtain⟨p,e,n,l,D⟩:=G i hi;refine sG c.1 c.2.2 h c.2.1 x u n l λz g j=>?_
  exact f _ _ D ⟨g,(j.2 a r).trans c.2.1,(j.2 tp q).trans c.2.2⟩ (oI j)
 done:=λs Q E c f=>l0 C c.1 c.2.2 h c.2.1 x u (nY (by lia)) λz F=>f _ (oJ F)
 self:=λi s Q E c f=>l7 c.1 f
theorem wB{a:GD}{o:Obj}{f:Array (Int×Gf)}{B:Nat}{t:IU}{Q:Gf->GP->Prop}(C:s.heap.get? a=Kb o)(Y:o.ExactSet)(r:o.data=.set f B t)(y:f.size<IH)(n:t.fits f.size=Kd)(ha:Asc t.place)(hl:t.led = !dM w)
  (h:∀(I:GD)(h':GG)(d:Drawn)(ord:List Gf)(fp:List GD)(St:Nat->GP->Prop),(∀b u,s.heap.get? b=Kb u->h'.get? b=Kb u)->ord.Perm (f.toList.map (·.2)) ->
   (∀L:GO,L.handled=Kc->IG prog w L I fp [I] qH f.size (λi v=>ord[i]?=Kb v) St)->St 0 { s with heap:=h',drawn:=d }->s.heap.objs.size<=I->(∀b∈fp,b=a\/s.heap.objs.size<=b)->Q (.ref I) { s with heap:=h',drawn:=d }) :
  GU (model prog w) A (Hs (.ref a)) Q E s:=by
 have hT:s.TypeIs (.ref a) "set" := ⟨o,C,Y.1⟩;have la:a<s.heap.objs.size:=GG.lt_size C;refine Jz hT F.slot_set_iter (Jn F.slot_set_iter hT lY ?_ (F.args_set_iter_1 _));unfold Hw.«frozenset.__iter__» Hw.Frozenset.slot0;refine DN (DN (m:=Jo "__iter__" 0 _) (D0 ?_));unfold Hw.Frozenset.addrOf;refine D0 ?_;unfold Hw.Frozenset.sizeOf;refine DN (DN (Jq C r n (D0 ?_)));unfold setDrawn;refine DN (DN (I1 C r n ?_))
 try dsimp only
 unfold JB;refine DN (DN (Jc (D0 ?_)));refine D0 ?_;show GU _ _ (if (!dM w && (!t.plain && decide (f.size>1)))=Kd then _ else _) _ _ _;have H:f.toList.length=f.size:=CQ;by_cases c:(!dM w && (!t.plain && decide (f.size>1)))=Kd
 .rw[Kj c];refine DN (lZ f.size (List.range f.size) s (by simp) λj d p=>?_);refine DN (JC ?_ ?_)
  rotate_left
  .rw[bx,p.length_eq,lz];unfold IH at y;unfold GH;lia
  generalize M:({ cls:=.type "tuple",data:=.seq (j.map λ(i:Nat)=>Ht i).toArray }:Obj)=to;have gt:(s.heap.push to).get? s.heap.objs.size=Kb to:=by rw[←M];exact GG.get?_push_size _ U
  have ga:(s.heap.push to).get? a=Kb o:=GG.get?_push_of_some _ C;refine DN (m:=setEpoch a) (JD (s:={ s with heap:=s.heap.push to,drawn:=d }) ga r n ?_);refine DN (Iy ?_ (by size_fits));have J:((s.heap.push to).push (eU (.ref s.heap.objs.size) (0:Nat) (.ref a) f.size B)).get? (s.heap.push to).objs.size=Kb (eU (.ref s.heap.objs.size) (0:Nat) (.ref a) f.size B):=GG.get?_push_size _ U;refine D0 ⟨_,U,"set_iterator",_,⟨_,J,U⟩,aU.lookup,?_⟩;have T:∀i,i<f.size->∃p e,j[i]?=Kb p/\f[p]?=Kb e/\(j.map λp=>(f[p]?.map (·.2)).getD .none)[i]?=Kb e.2:=λi hi=>by
   have O:i<j.length:=by rw[p.length_eq,lz];exact hi
   have G:j[i]?=Kb j[i]:=Gy O;have lt:j[i]<f.size:=ju.mp (p.mem_iff.mp (nC O));have V:f[j[i]]?=Kb f[j[i]]:=Cn lt;exact⟨j[i],f[j[i]],G,V,by rw[gI,G];simp[V]⟩
  have oH:(j.map λp=>(f[p]?.map (·.2)).getD Gf.none).Perm (f.toList.map (·.2)):=by
   refine(p.map _).trans (List.Perm.of_eq ?_);apply List.ext_getElem
   .simp
   .intro i h1 h2;simp at h1;simp[h1]
  refine h _ _ d _ [(s.heap.push to).objs.size,a,s.heap.objs.size] _ (λb u e=>GG.get?_push_of_some _ (GG.get?_push_of_some _ e)) oH
   (λL K=>qI K (places:=j) (to:=to) (m:=0) (by rw[GG.size_push];exact yv (zc la)) (by rw[GG.size_push];exact yv (zg _)) r n (by rw[←M]) (by rw[p.length_eq,lz]) T)
   ⟨J,GG.get?_push_of_some _ ga,GG.get?_push_of_some _ gt⟩ (by rw[GG.size_push];exact zd _) λb y=>?_
  rcases dt.mp y with rfl|y
  .exact .inr (by rw[GG.size_push];exact zd _)
  .rcases dt.mp y with rfl|y
   .exact .inl U
   .have:b=s.heap.objs.size:=by simpa using y
    exact .inr (by rw[this];exact yr _)
 .rw[Ki c];refine DN (D0 ?_);refine DN (m:=setEpoch a) (JD C r n ?_);refine DN (Iy ?_ (by size_fits));have J:(s.heap.push (eU (.int (0:Nat) 0) (0:Nat) (.ref a) f.size B)).get? s.heap.objs.size=Kb (eU (.int (0:Nat) 0) (0:Nat) (.ref a) f.size B):=GG.get?_push_size _ U;refine D0 ⟨_,U,"set_iterator",_,⟨_,J,U⟩,aU.lookup,?_⟩;have ne:a≠s.heap.objs.size:=yv la;have P:∀b∈[s.heap.objs.size,a],b=a\/s.heap.objs.size<=b:=λb y=>by
   rcases dt.mp y with rfl|y
   .exact .inr (yr _)
   .exact .inl (by simpa using y)
  cases hbt:dM w with
  |true =>
   have pp:=uT (w.params.setOrder a B) f;have D:((IX (w.params.setOrder a B) f).toList.map (·.2)).length=f.size:=by rw[bx,pp.length_eq,H]
   refine h _ _ s.drawn ((IX (w.params.setOrder a B) f).toList.map (·.2)) [s.heap.objs.size,a] _ (λb u e=>GG.get?_push_of_some _ e) (pp.map _)
    (λL K=>l8 K ne r n D (λ_=>0) (λi x S W X g l q=>jT hbt g r n ?_) λS W X g q=>jT hbt g r n ?_) ⟨J,GG.get?_push_of_some _ C⟩ (yr _) P
   .rw[gI,Dg]at l;cases e:(IX (w.params.setOrder a B) f)[i]? with
    |none=>rw[e]at l;cases l
    |some z=>rw[e]at l;injection l with l;subst l;exact q
   .have e:(IX (w.params.setOrder a B) f)[f.size]?=none:=by
     rw[←Dg];exact nY (by rw[bx]at D;lia)
    rw[e];exact q
  |false =>
   have N:t.led=true:=by rw[hl,hbt];rfl
   have T:(!t.plain && decide (f.size>1))=false:=by
    rw[hbt]at c;simpa using c
   have a0:t.place.size=f.size:=by
    have:=n;simp only[IU.fits,BO,beq_iff_eq]at this;exact this.1
   have R:∀i,i<=f.size->IU.below t.place (match i with|0=>0|k+1=>t.place.getD k 0+1)=i:=λi hi=>by
    cases i with
    |zero=>exact qA ha
    |succ k =>
     have hk:k<t.place.size:=by lia
     have eg:t.place.getD k 0=t.place[k]:=by simp[Array.getD,hk]
     show IU.below t.place (t.place.getD k 0+1)=k+1;rw[eg];exact sk ha hk
   refine h _ _ s.drawn (f.toList.map (·.2)) [s.heap.objs.size,a] _ (λb u e=>GG.get?_push_of_some _ e) (.refl _)
    (λL K=>l8 K ne r n (by rw[bx,H]) (λi=>match i with|0=>0|k+1=>t.place.getD k 0+1) (λi x S W X g l q=>i0 hbt g r n N T ?_) λS W X g q=>i0 hbt g r n N T ?_) ⟨J,GG.get?_push_of_some _ C⟩ (yr _) P
   .have hi:i<f.size:=by
     obtain⟨z,_⟩:=Gz.mp l;rw[bx,H]at z;exact z
    rw[R i (zf hi)];have G:f[i]?=Kb f[i]:=Cn hi;have V:t.place[i]?=Kb t.place[i]:=Cn (by lia);have e3:x=f[i].2:=by
     rw[gI,Dg,G]at l;injection l with l;exact l.symm
    rw[G,V];have e4:t.place.getD i 0=t.place[i]:=by simp[Array.getD,show i<t.place.size by lia]
    subst e3;have Z:W (Kb (f[i].2,t.place.getD i 0+1)) S:=q;rw[e4]at Z;exact Z
   .rw[R f.size (yr _)];have G:f[f.size]?=none:=Array.getElem?_eq_none (yr _);rw[G];exact q
set_option maxRecDepth 100000
theorem uX{ord:List Gf}{a:Array Gf}{n:Nat}(h:ItemsOf (λi v=>ord[i]?=Kb v) a n)(b:ord.length=n):a.toList=ord:=by
 apply List.ext_getElem
 .rw[CQ,h.1,b]
 .intro i d c;have e:ord[i]?=Kb a[i]:=h.2 i a[i] (Cn (by simpa using d));rw[Gy c]at e;injection e with e;simpa using e.symm
theorem qJ{a:GD}{o:Obj}{p:Array (Int×Gf)}{ep:Nat}{t:IU}{Q:List Gf->GP->Prop}(Z:A.handled=Kc)(R:s.heap.get? a=Kb o)(k:o.ExactSet)(hd:o.data=.set p ep t)(r:p.size<IH)(hf:t.fits p.size=Kd)(ha:Asc t.place)(Y:t.led = !dM w)
  (h:∀(ord:List Gf)(s':GP),ord.Perm (p.toList.map (·.2))->(∀b u,s.heap.get? b=Kb u->s'.heap.get? b=Kb u)->s'.gens=s.gens->s'.os=s.os->s.heap.objs.size<s'.heap.objs.size->Q ord s') :
  GU (model prog w) A (collect (.ref a)) Q E s:=by
 have P:a<s.heap.objs.size:=GG.lt_size R;unfold collect;refine DN (IQ (IJ F.entry_proto_collect ?_));rw[GO.under_plainId F.plain_proto_collect _];show GU _ A.in1 (Iv [] >>= λl=>again (.builtin "list.__iadd__" ⟨[l,.ref a],[]⟩)) _ _ s;refine DN (Iy ?_);refine D0 ⟨IL F.plain_list_iadd _,IJ F.entry_list_iadd ?_⟩;rw[GO.under_plainId F.plain_list_iadd _];generalize y:({ cls:=.type "list",data:=.seq ([]:List Gf).toArray }:Obj)=lo;have H:(s.heap.push lo).get? a=Kb o:=GG.get?_push_of_some _ R;have gS:(s.heap.push lo).get? s.heap.objs.size=Kb lo:=by rw[←y];exact GG.get?_push_size _ U
 have L:GP.TypeIs { s with heap:=s.heap.push lo } (.ref a) "set" := ⟨o,H,k.1⟩;show GU _ A.in1 (Hw.List.listExtendWith (.ref s.heap.objs.size) (.ref a) (.ref s.heap.objs.size)) _ _ _;unfold Hw.List.listExtendWith;refine DN (JE L ?_);have h1:Hw.List.listSameRef (.ref s.heap.objs.size) (.ref a)=false:=by simp[Hw.List.listSameRef];exact zb P
 have h2:(Gf.type "set" == Gf.type "list")=false:=by decide
 have h3:(Gf.type "set" == Gf.type "tuple")=false:=by decide
 simp only[h1,h2,h3,Bool.or_false,BP,if_false];refine DN (wB (s:={ s with heap:=s.heap.push lo }) H k hd r hf ha Y λI i d ord fp St G O W V hI K=>?_);have g2:i.get? a=Kb o:=G a o H;have m:GP.TypeIs { s with heap:=i,drawn:=d } (.ref a) "set" := ⟨o,g2,k.1⟩;refine DN (EX ?_);unfold Hw.List.listLengthHint;refine DN (JF m F.slot_set_len.lookup ?_)
 (generalize j:("set.__len__" : String)=id0;(fail_if_success (clear j id0));wp_delta;rw[show splitId id0=Kb ("set","__len__")from by subst j;decide+kernel];subst j)
 refine DN (Jw (b:=Kd) m sub_set_self ?_);refine DN (JE m ?_);refine D0 ?_;show GU _ A.in1 (rule "list.extend.makes-room" >>= λ_=>Hw.List.listTouch (.ref s.heap.objs.size) >>= λ_ =>
  again (.builtin "list.extend.loop" ⟨[.ref s.heap.objs.size,.ref I,.ref s.heap.objs.size],[]⟩)) _ _ _
 refine DN (Ja ?_);have c:i.get? s.heap.objs.size=Kb lo:=G _ _ gS;rw[←y]at c;refine DN ?_;show GU _ A.in1 (JG s.heap.objs.size (·.push .none) >>= λ_=>JG s.heap.objs.size (·.pop)) _ _ _;refine DN (JH c U ?_);have g:=GG.get?_update_self (Obj.mapSeq (·.push Gf.none)) c U;refine JH g U ?_;have n:=GG.get?_update_self (Obj.mapSeq (·.pop)) g U
 have x:∀b u,b≠s.heap.objs.size->i.get? b=Kb u ->
   ((i.update s.heap.objs.size (Obj.mapSeq (·.push Gf.none))).update s.heap.objs.size (Obj.mapSeq (·.pop))).get? b=Kb u :=
  λb u r e=>(GG.get?_update_other _ _ (Ne.symm r)).trans ((GG.get?_update_other _ _ (Ne.symm r)).trans e)
 have v:(s.heap.push lo).objs.size=s.heap.objs.size+1:=GG.size_push ..;have B:s.heap.objs.size ∉ fp:=λq=>by
  rcases K _ q with z|z
  .exact zb P z
  .have N:(s.heap.push lo).objs.size<=s.heap.objs.size:=z;rw[v]at N;exact Nat.not_succ_le_self _ N
 have S:=W A.in1 (by simp[Z]);have D:ord.length=p.size:=by rw[O.length_eq,bx,CQ]
 have J:=S.frame 0 ({ s with heap:=i,drawn:=d }:GP) ((i.update s.heap.objs.size (Obj.mapSeq (·.push Gf.none))).update s.heap.objs.size (Obj.mapSeq (·.pop))) s.toks V (yr _) λb f X e=>x b X (λz=>B (z ▸ f)) e
 refine D0 ⟨IL F.plain_extend_loop _,JI S (by unfold IH at r;unfold GH;lia) _ B _ p.size 0 _ _ _ U (yY _)
  J n (ItemsOf.nil _) λs' sH c' q C gQ=>?_⟩
 show GU _ A (load s.heap.objs.size >>= _) _ _ s';refine DN (wpAny_load C ?_);refine D0 ?_;rw[uX gQ D];refine h ord s' O (λb u e=>?_) q.gens q.os (GG.lt_size C);have f:b<s.heap.objs.size:=GG.lt_size e;refine q.heap b u (λz=>?_) (x b u (yv f) (G b u (GG.get?_push_of_some _ e)));rcases dt.mp z with z|z
 .exact yv f z
 .have T:b=I:=by simpa using z
  have M:(s.heap.push lo).objs.size<=I:=hI;rw[v,←T]at M;exact ze _ (yU f (Nat.le_of_succ_le M))
variable{base:GG}
section
variable{M:GS}{env:Env}{outer:List Env}{L e T:GD}{a0 cls fl:Gf}{Q:Unit->GP->Prop}{Ts:List GD}
end
variable{Kg:List (GD×Obj)}{σ:St}{H:Hp}{h':GG}
section
variable{Y:List GD}
end
variable{P:GC}{K:W.Frag}{mg:Str->Option Gf}{N:List Str}{scope:GQ}{f:GD}
section
variable{qual:Str}{cd:Gf}{outer:List Env}{s0:GP}{H0:Hp}{E:XK}
end
theorem i3:dn X (.builtin "len") (λxs H Q=>∃(l:GD)(zs:List Str),xs=[.ref l]/\H l=Kb (nG X.prog X.w l zs)/\zs.length<=1000/\Q (.int ((cntK zs zs.length:Nat):Int)) H):=by
 intro Kg s σ H xs i Q I r h;obtain⟨l,zs,rfl,e,j,q⟩:=h;obtain⟨u,rfl,b⟩:=r.one;obtain rfl:u=Gf.ref l:=b;obtain⟨⟨o,k,m,t,g,f,d,_,_,_,c,a⟩,_,_⟩:=I.hok l _ e;have le:=jS zs zs.length;refine call_len_set g f d c (by rw[a];lia) ⟨.int _,H,I.tok _,⟨_,U⟩,?_⟩;rw[a];exact q
variable{k:Nat}{C:GD}{fd:HM}{ps:List Str}{sp:Sp}{x m:Str}{p np pos:Pos}{e:GW}{es:List GW}{t:TA}
section
variable{apos:Pos}{o:GW}{ta:TE}{E:XK}
end
theorem jf:∀{b:List Int}{us:List Gf},Vals (b.map V.int) us->∃xs:List (Int×Tok),us.toArray=JJ xs.toArray/\b=xs.map (·.1)
 | [],_,.nil=>⟨[],by simp[JJ],U⟩
 |n :: b,_,.cons ⟨t,e⟩ r=>by
  obtain⟨xs,d,c⟩:=jf r;refine⟨(n,t) :: xs,?_,by rw[c];rfl⟩;subst e;have a:=Ko Array.toList d;simp[JJ]at a⊢;exact a
theorem oK{xs:Array (Int×Tok)}{i:Nat}(h:i<xs.size):numAt xs i∈xs.toList.map (·.1):=by
 rw[JK];exact getD_mem (by rw[bx,CQ];lia)
theorem fF(C:X.calm=Kd):dn X (.builtin "min") (λus H Q=>∃(a:GD)(c:List Int),us=[.ref a]/\SqL X.K H a (c.map V.int)/\0<c.length/\∀m,m∈c->(∀b∈c,m<=b)->Q (.int m) H):=by
 intro Kg s σ H us G Q I r h;obtain⟨a,c,rfl,y,d,q⟩:=h;obtain⟨u,rfl,n⟩:=r.one;cases (show u=Gf.ref a from n);obtain⟨F,p,w,J⟩:=I.list y;obtain⟨xs,E,f⟩:=jf p;have i:=w.isList;rw[E]at i;have g:0<xs.toArray.size:=by
  rw[f,bx]at d;simpa using d
 refine min_intList (I.ok.hd C) i g λv h' l x A=>?_
 obtain⟨t,rfl⟩:=intItems_at x;obtain⟨L,D⟩:=argBest_lt (numAt xs.toArray) (xs.toArray.size-1);refine⟨.int _,H,I.kept (t':=l) λb o e=>A b o e,⟨t,U⟩,q _ ?_ λb k=>?_⟩
 .rw[f];exact oK (xs:=xs.toArray) (by lia)
 .rw[f]at k;obtain⟨j,B,rfl⟩:=mem_getD k;rw[bx]at B;have z:=D j (by simp;lia);rw[JK]at z⊢;rw[JK]at z;simpa using z
theorem fG(C:X.calm=Kd):dn X (.builtin "max") (λus H Q=>∃(a:GD)(c:List Int),us=[.ref a]/\SqL X.K H a (c.map V.int)/\0<c.length/\∀m,m∈c->(∀b∈c,b<=m)->Q (.int m) H):=by
 intro Kg s σ H us G Q I r h;obtain⟨a,c,rfl,y,d,q⟩:=h;obtain⟨u,rfl,n⟩:=r.one;cases (show u=Gf.ref a from n);obtain⟨F,p,w,J⟩:=I.list y;obtain⟨xs,E,f⟩:=jf p;have i:=w.isList;rw[E]at i;have g:0<xs.toArray.size:=by
  rw[f,bx]at d;simpa using d
 refine max_intList (I.ok.hd C) i g λv h' l x A=>?_
 obtain⟨t,rfl⟩:=intItems_at x;obtain⟨L,D⟩:=argBest_gt (numAt xs.toArray) (xs.toArray.size-1);refine⟨.int _,H,I.kept (t':=l) λb o e=>A b o e,⟨t,U⟩,q _ ?_ λb k=>?_⟩
 .rw[f];exact oK (xs:=xs.toArray) (by lia)
 .rw[f]at k;obtain⟨j,B,rfl⟩:=mem_getD k;rw[bx]at B;have z:=D j (by simp;lia);rw[JK]at z⊢;rw[JK]at z;simpa using z
def yw(P:GC)(w:Gn)(a:GD)(b:List Int):HO:=.ext λh=>h.SetOf (GJ P w) a (λz=>decide (z∈b)) (cntK b b.length)
theorem l9:∀{zs:List Int}{us:List Gf},Vals (zs.map V.int) us->∀(i:Nat)(v:Gf),us[i]?=Kb v->∃z t,zs[i]?=Kb z/\v=.int z t
 | [],_,.nil,i,v,h=>by simp at h
 |z :: zs,_,.cons ⟨t,e⟩ r,0,v,h=>by simp at h;exact⟨z,t,U,by rw[←h,e]⟩
 |z :: zs,_,.cons _ r,i+1,v,h=>by
  obtain⟨a,t,c,b⟩:=l9 r i v (by simpa using h);exact⟨a,t,by simpa using c,b⟩
theorem nI(B:X.calm=Kd):dn X (.type "set") (λxs H Q=>∃(p:GD)(zs:List Int),xs=[.ref p]/\SqL X.K H p (zs.map V.int)/\zs.length<=1000/\∀l,H l=Kc->Q (.ref l) (upd H l (yw X.prog X.w l zs))):=by
 intro Kg s σ H xs F Q I r h;obtain⟨p,zs,rfl,C,G,q⟩:=h;obtain⟨u,rfl,n⟩:=r.one;obtain rfl:u=Gf.ref p:=n;obtain⟨E,d,A,_⟩:=I.list C;have f:=d.length;rw[bx]at f;refine oF (knd:=GJ X.prog X.w) (ks:=zs) (I.ok.hd B) A.isList (λi v e=>?_) (by simpa using f) (by unfold IH;simp;lia) λh' m x=>?_
 .obtain⟨z,t,D,rfl⟩:=l9 d i v (by simpa using e);exact⟨z,D,by show Gf.isInt z (.int z t)=Kd;simp[Gf.isInt],U⟩
 .obtain⟨c,j⟩:=x;refine⟨.ref s.heap.objs.size,_,I.laid (a:=s.heap.objs.size) (o:=yw X.prog X.w s.heap.objs.size zs) (h':=h') (t':=m) (λb o q=>j b o (GG.lt_size q) q) (yr _) ?_,U,q _ I.fresh⟩;refine⟨c,?_,λL J y k=>gq y k⟩;obtain⟨o,_,_,_,g,_⟩:=c;exact⟨o,g⟩
theorem nJ:dn X (.builtin "len") (λxs H Q=>∃(l:GD)(zs:List Int),xs=[.ref l]/\H l=Kb (yw X.prog X.w l zs)/\zs.length<=1000/\Q (.int ((cntK zs zs.length:Nat):Int)) H):=by
 intro Kg s σ H xs i Q I r h;obtain⟨l,zs,rfl,e,j,q⟩:=h;obtain⟨u,rfl,b⟩:=r.one;obtain rfl:u=Gf.ref l:=b;obtain⟨⟨o,es,k,t,g,f,d,_,_,_,c,a⟩,_,_⟩:=I.hok l _ e;have le:=jS zs zs.length;refine call_len_set g f d c (by rw[a];lia) ⟨.int _,H,I.tok _,⟨_,U⟩,?_⟩;rw[a];exact q
theorem qK{b:Type} [DecidableEq b] {k:b}{ks:List b}:∀i,i<=ks.length->1<=cntK (k :: ks) (i+1)/\(cntK (k :: ks) (i+1)=1↔∀x∈ks.take i,x=k)
 |0,_=>by simp[cntK]
 |i+1,h=>by
  obtain⟨d,c⟩:=qK (k:=k) (ks:=ks) i (by lia);have e:(k :: ks)[i+1]?=Kb ks[i]:=by simp
  have j:ks[i]?=Kb ks[i]:=Gy (by lia);have f:ks.take (i+1)=ks.take i++[ks[i]]:=by rw[nS,j];rfl
  have g:(k :: ks).take (i+1)=k :: ks.take i:=rfl;rw[show cntK (k :: ks) (i+1+1)=match (k :: ks)[i+1]? with
   |some x=>if x∈(k :: ks).take (i+1)then cntK (k :: ks) (i+1)else cntK (k :: ks) (i+1)+1
   |none=>cntK (k :: ks) (i+1)from U,e,f,g]
  dsimp only;by_cases m:ks[i]∈k :: ks.take i
  .rw[Kj m];refine⟨d,c.trans ⟨λz x a=>?_,λz x a=>z x (kC _ a)⟩⟩;rcases gg.mp a with a|a
   .exact z x a
   .have:x=ks[i]:=by simpa using a
    rw[this];rcases dt.mp m with m|m
    .exact m
    .exact z _ m
  .rw[Ki m];refine⟨by lia,⟨λz=>Kk z (by lia),λz=>?_⟩⟩;exact Kk (z ks[i] (jr _ (by simp))) λq=>m (by rw[q];exact ff)
theorem oM{a:Type} [DecidableEq a] {k:a}{ks:List a}:cntK (k :: ks) (k :: ks).length=1↔∀x∈ks,x=k:=by
 have:=(qK (k:=k) (ks:=ks) ks.length (yr _)).2;rw[ip]at this;exact this
def TyG(K:W.Frag)(H:Hp)(x:V)(t:Gf):Prop:=kn K H x t\/∃a b,x=.ref a/\SqT K H a b/\t=.type "tuple"
inductive ClV:V->Gf->Prop where
 |ty (T:String):ClV (.ty T) (.type T)
 |ref (C:GD):ClV (.ref C) (.ref C)
theorem dr:dn X (.builtin "isinstance") (λxs H Q=>∃x c d t b,xs=[x,c]/\ClV c d/\TyG X.K H x t/\W.kitOne X.K t d=Kb b/\Q (.bl b) H):=by
 intro Kg s σ H xs v Q I r h;obtain⟨x,c,d,t,b,rfl,i,ty,e,q⟩:=h;cases r with
 |cons g j =>
  cases j with
  | @cons _ cu _ _ ry r3 =>
   cases r3;have n:cu=d:=by cases i <;> exact ry
   subst n;rcases ty with ty|⟨a,u,rfl,k,rfl⟩
   .exact uK I g ty e λf=>⟨.bl b,H,I.tok f,U,q⟩
   .cases (show _=Gf.ref a from g);obtain⟨p,r,⟨o,m,l,_⟩,_⟩:=I.tuple k;exact W.kia_one W.kitx_tuple I.kIn ⟨o,m,l⟩ e (λz=>nomatch z) λf=>⟨.bl b,H,I.tok f,U,q⟩
structure ma(K:W.Frag)(C:GD):Prop where
 cl:Cls K C
 ha:W.findIn K (.ref C) "__class__" = Kb (Kb (.builtin "object.__class__"))
 hn:W.specialIn K (.builtin "object.__class__") "__get__" = Kb (Kb (.builtin "getset_descriptor.__get__"))
 tk:W.takesIn K (.builtin "object.__class__")=Kb Kd
 hm:W.mroIn K C (.type "object")=Kb Kd
theorem ma.ty{K:W.Frag}{C:GD}(h:ma K C){H:Hp}{a b:GD}{fs:List (Str×V)}(e:H a=Kb (.ins C b fs)):TyG K H (.ref a) (.ref C):=.inl (.ins e h.cl h.ha h.hn h.tk h.hm)
def yx(CX:CXT)(P:GC)(w:Gn)(K:W.Frag)(mg:Str->Option Gf)(base:GG)(k:Nat)(m:Str)(ps:List Str)(a:List (GD×Sp)):Prop :=
 ∀p∈a,bo CX P w K mg base k p.1 m ps p.2/\Cls K p.1
variable{CX:CXT}
section
variable{cs:List (GD×Sp)}
theorem BQ:yx CX P w K mg base k m ps []:=λ_ h=>nomatch h
theorem qL(M:bo CX P w K mg base k C m ps sp)(c:Cls K C)(r:yx CX P w K mg base k m ps cs):yx CX P w K mg base k m ps ((C,sp) :: cs):=λp h=>by
 rcases dt.mp h with rfl|h
 .exact⟨M,c⟩
 .exact r p h
end
inductive zB(cs:List (GD×Sp))(m:Str)(t:TA)(σ:St)(Q:VK)(x:V)(H1:Hp):Prop
 |mk (a p dx fs:_)(_:x=.ref a)(_:p∈cs)(_:H1 a=Kb (.ins p.1 dx fs))(_:fs.lookup m=Kc)(_:t σ H1 λvs H2=>p.2 (x :: vs) H2 Q E0):zB cs m t σ Q x H1
def Dr(b:List (GD×Sp))(m:Str)(a:TE)(t:TA):TE:=λσ H Q=>a σ H λx c=>zB b m t σ Q x c
section
variable{apos:Pos}{o:GW}{ta:TE}{cs:List (GD×Sp)}
theorem wC{pl:Sem Bool}(M:yx CX X.prog X.w X.K X.mg X.base k m ps cs)(B:Passes CX X E0)(D:bR k X.A)(G:PE X o ta)(L:PA X (e :: es) t)
  (b:GZ (e :: es) X.env=(Ke,eval e X.env) :: GZ es X.env:=by rfl)(d:(GY pos (GZ es X.env)).any (·.1)=false:=by rfl)
  (C:eval (.Call (.Attribute o m apos) (e :: es) [] pos) X.env=(do
   let g ←eval o X.env
   He apos.atName
   let (f,first) ←holding [g] (HF g m pl)
   IF pos f first (GY pos (GZ (e :: es) X.env)) (Il pos (Im [] X.env))):=by rfl) :
  PE X (.Call (.Attribute o m apos) (e :: es) [] pos) (Dr cs m ta t):=by
 intro Kg s σ H Q I h;refine W.methodCall_KW (pl:=pl) (thn (G Kg s σ H _ I h) λu v ⟨x,P,n,y,a,p,R,fs,N,E,O,l,q⟩=>?_) C;obtain⟨⟨f,fd,i,F,J⟩,c⟩:=M p E;subst N;obtain rfl:u=Gf.ref a:=y;refine lQ n O c i l ?_;refine W.callWith_K (first:=[.ref a]) (h₀:=X.base) I.ok.mod.kin i.kp (thn (L pos Kg v σ P _ n q) λus s2 ⟨vs,S,j,r,z⟩=>⟨j.kIn,?_⟩) b d;exact Au (us:=.ref a :: us) (vs:=.ref a :: vs) F D J B j (.cons U r) z
theorem ku(M:bj CX X.prog X.w X.K X.mg X.base k x C ps sp)(b:Passes CX X E0)(c:bR (k+1) X.A)(e:Gl X x)(a:(x == ("__debug__" : Str))=false:=by decide) :
  PE X (.Call (.Name x p) [] [] pos) (tMk C sp Ah):=by
 obtain⟨f,fd,M,F,g,d⟩:=M;have h:=wc (E:=E0) (dvs:=[]) (ds:=[]) (p:=p) (pos:=pos) M F c e d g .nil b a;intro Kg s σ H Q I q;exact h Kg s σ H Q I q
end
def ModT(K:W.Frag)(a:GD)(xs:List V):Prop:=∃(o:Obj)(b:Array Gf)(n:Nat),K.lookup a=Kb o/\o.cls=.type "tuple" /\ o.data=.seq b n/\b.size<=GH/\Vals xs b.toList
theorem ModT.sq{K:W.Frag}{a:GD}{xs:List V}(h:ModT K a xs)(H:Hp):SqT K H a xs:=.inr h
theorem ModT.mk{K:W.Frag}{a:GD}{xs:List V}{d:Option GD}{b:Array Gf}{n:Nat}{c:Array (Option Gf)}(h:K.lookup a=Kb ⟨.type "tuple",d,.seq b n,c⟩) (f:b.size<=GH)(e:Vals xs b.toList):ModT K a xs :=
 ⟨_,b,n,h,U,U,f,e⟩
theorem fu{c A B:Prop} [Decidable c] (a:c)(h:A):if decide c=Kd then A else B:=by rw[Kj (Kl a)];exact h
theorem cm{c A B:Prop} [Decidable c] (a:¬ c)(h:B):if decide c=Kd then A else B:=by rw[Ki (by rw[Km a];decide)];exact h
theorem ls0{P:List Gf->Prop}(h:P []):∀us:List Gf,us.length=0->P us:=λus e=>by
 cases us
 .exact h
 .cases e
theorem lsS{P:List Gf->Prop}{n:Nat}(h:∀a us,us.length=n->P (a :: us)):∀us:List Gf,us.length=n+1->P us:=λus e=>by
 cases us
 .cases e
 .exact h _ _ (Nat.succ.inj e)
theorem ls1{P:List Gf->Prop}(h:∀a,P [a]):∀us:List Gf,us.length=1->P us:=lsS λa=>ls0 (P:=λv=>P (a :: v)) (h a)
theorem ls2{P:List Gf->Prop}(h:∀a b,P [a,b]):∀us:List Gf,us.length=2->P us:=lsS λa=>ls1 (P:=λv=>P (a :: v)) (h a)
theorem ls3{P:List Gf->Prop}(h:∀a b c,P [a,b,c]):∀us:List Gf,us.length=3->P us:=lsS λa=>ls2 (P:=λv=>P (a :: v)) (h a)
theorem ls4{P:List Gf->Prop}(h:∀a b c d,P [a,b,c,d]):∀us:List Gf,us.length=4->P us:=lsS λa=>ls3 (P:=λv=>P (a :: v)) (h a)
theorem ls5{P:List Gf->Prop}(h:∀a b c d e,P [a,b,c,d,e]):∀us:List Gf,us.length=5->P us:=lsS λa=>ls4 (P:=λv=>P (a :: v)) (h a)
theorem ls6{P:List Gf->Prop}(h:∀a b c d e f,P [a,b,c,d,e,f]):∀us:List Gf,us.length=6->P us:=lsS λa=>ls5 (P:=λv=>P (a :: v)) (h a)
theorem ls7{P:List Gf->Prop}(h:∀a b c d e f g,P [a,b,c,d,e,f,g]):∀us:List Gf,us.length=7->P us:=lsS λa=>ls6 (P:=λv=>P (a :: v)) (h a)
theorem lb1{fd:HM}{ps:List Str}(h:∀a,HP fd ⟨[a],[]⟩=pure (ps.zip [a])):∀us:List Gf,us.length=1->HP fd ⟨us,[]⟩=pure (ps.zip us):=ls1 (P:=λus=>HP fd ⟨us,[]⟩=pure (ps.zip us)) h
theorem lb2{fd:HM}{ps:List Str}(h:∀a b,HP fd ⟨[a,b],[]⟩=pure (ps.zip [a,b])):∀us:List Gf,us.length=2->HP fd ⟨us,[]⟩=pure (ps.zip us):=ls2 (P:=λus=>HP fd ⟨us,[]⟩=pure (ps.zip us)) h
theorem lb3{fd:HM}{ps:List Str}(h:∀a b c,HP fd ⟨[a,b,c],[]⟩=pure (ps.zip [a,b,c])):∀us:List Gf,us.length=3->HP fd ⟨us,[]⟩=pure (ps.zip us):=ls3 (P:=λus=>HP fd ⟨us,[]⟩=pure (ps.zip us)) h
theorem lb4{fd:HM}{ps:List Str}(h:∀a b c d,HP fd ⟨[a,b,c,d],[]⟩=pure (ps.zip [a,b,c,d])):∀us:List Gf,us.length=4->HP fd ⟨us,[]⟩=pure (ps.zip us):=ls4 (P:=λus=>HP fd ⟨us,[]⟩=pure (ps.zip us)) h
theorem lb6{fd:HM}{ps:List Str}(h:∀a b c d e f,HP fd ⟨[a,b,c,d,e,f],[]⟩=pure (ps.zip [a,b,c,d,e,f])):∀us:List Gf,us.length=6->HP fd ⟨us,[]⟩=pure (ps.zip us):=ls6 (P:=λus=>HP fd ⟨us,[]⟩=pure (ps.zip us)) h
theorem lb7{fd:HM}{ps:List Str}(h:∀a b c d e f g,HP fd ⟨[a,b,c,d,e,f,g],[]⟩=pure (ps.zip [a,b,c,d,e,f,g])):∀us:List Gf,us.length=7->HP fd ⟨us,[]⟩=pure (ps.zip us):=ls7 (P:=λus=>HP fd ⟨us,[]⟩=pure (ps.zip us)) h
section
variable{j:Nat}{q:Str}{st:G5}
theorem fsc{P:List Str}{f:GQ}(a:f.kind=.function:=by rfl)(b:f.isCoroutine=false:=by rfl)(c:f.isGenerator=false:=by rfl)(d:N.Nodup:=by decide+kernel)(e:N.take P.length=P:=by rfl)(g:∀x∈P,f.names.lookup x=Kb .local\/f.names.lookup x=Kb .cell:=by decide+kernel)(h:∀y∈f.names,y.2≠.free:=by decide+kernel):aq N P f:=⟨a,b,c,d,e,g,h⟩
theorem Fun.okA(F:Fun K x q st f fd)(S:aq N ps (ak st))(d:∀(b:Gf)(A:GO)(a:List Env)(s:GP)(H:Hp)(vs:List V)(Q:VK)(E:XK),bR k (A.deeper (envOfC q (ak st) s.heap.objs.size f b))->sp vs H Q E->∃t,PSs (qp CX0 P w K mg base N q (ak st) f b A a s H E).nox (dA st) t/\t { nx:=λ_ H'=>Q .non H',rt:=Q } (start N vs) H)(c:∀vs H Q E,sp vs H Q E->vs.length=ps.length:=by intro vs H Q E h;cases h;subst_vars;rfl):aK P w K mg base CX0 (k+1) f fd ps sp:=F.ok S c d
theorem Callee.up(c:Callee P w K mg base j x ps sp)(h:j<=k:=by decide):Callee P w K mg base k x ps sp:=c.mono h
theorem bo.up(c:bo CX P w K mg base j C m ps sp)(h:j<=k:=by decide):bo CX P w K mg base k C m ps sp:=c.mono h
theorem bj.up(c:bj CX P w K mg base j x C ps sp)(h:j<=k:=by decide):bj CX P w K mg base k x C ps sp:=c.mono h
theorem cb.up(c:cb CX P w K mg base j x m ps sp)(h:j<=k:=by decide):cb CX P w K mg base k x m ps sp:=c.mono h
inductive GF(K:W.Frag)(x q:Str)(st:G5):Prop
 |mk {f:GD}{fd:HM}(a:W.nsIn K GK x=Kb (Kb (.ref f)))(F:Fun K q q st f fd)
inductive MF(K:W.Frag)(C:GD)(x q:Str)(st:G5):Prop
 |mk {f:GD}{fd:HM}(a:W.findIn K (.ref C) x=Kb (Kb (.ref f)))(i:W.isFn K (.ref f)=Kd)(F:Fun K x q st f fd)
inductive KF(K:W.Frag)(C:GD)(x q:Str)(st:G5):Prop
 |mk {f:GD}{fd:HM}(a:W.findIn K (.ref C) "__init__" = Kb (Kb (.ref f))) (i:W.isFn K (.ref f)=Kd)(m:W.makesIn K C=Kd)(k:W.keepIn K (.ref C)=Kd)(n:W.nsIn K GK x=Kb (Kb (.ref C)))(F:Fun K "__init__" q st f fd)
inductive BF(K:W.Frag)(C:GD)(x m q:Str)(st:G5):Prop
 |mk {f:GD}{fd:HM}(s:W.specialIn K (.ref C) "__getattribute__" = Kb (Kb (.builtin "type.__getattribute__"))) (r:W.readsIn K C (.type "type")=Kd) (a:W.findCls K (.ref C) (.type "type") m=Kb (.val (.ref f))) (n:W.nsIn K GK x=Kb (Kb (.ref C)))(F:Fun K m q st f fd)
inductive Zb(P:GC)(w:Gn)(K:W.Frag)(mg:Str->Option Gf)(base:GG):Prop
 |mk {h:GG}(X:K.In h)(G:h.Ns GK mg)
theorem Zb.g(Z:Zb P w K mg base){v:Gf}(e:W.nsIn K GK x=Kb (Kb v)):mg x=Kb v:=by cases Z with|mk X G=>exact W.mg_of X G e
theorem mkC(Z:Zb P w K mg base)(h:GF K x q st)(O:∀{f:GD}{fd:HM},Fun K q q st f fd->aK P w K mg base CX0 k f fd ps sp)(b:∀{f:GD}{fd:HM},Fun K q q st f fd->Binds K fd ps []:=by trivial):Callee P w K mg base k x ps sp:=by
 cases h with|mk a F=>exact⟨_,_,O F,b F,F.kp,Z.g a⟩
theorem mkM(_:Zb P w K mg base)(h:MF K C m q st)(O:∀{f:GD}{fd:HM},Fun K m q st f fd->aK P w K mg base CX k f fd ps sp)(b:∀{f:GD}{fd:HM},Fun K m q st f fd->Binds K fd ps []:=by trivial):bo CX P w K mg base k C m ps sp:=by
 cases h with|mk a i F=>exact⟨_,_,⟨a,i,F.kp⟩,O F,b F⟩
theorem mkK(Z:Zb P w K mg base)(h:KF K C x q st)(O:∀{f:GD}{fd:HM},Fun K "__init__" q st f fd->aK P w K mg base CX k f fd ps sp) (b:∀{f:GD}{fd:HM},Fun K "__init__" q st f fd->Binds K fd ps []:=by trivial):bj CX P w K mg base k x C ps sp:=by
 cases h with|mk a i m k n F=>exact⟨_,_,⟨m,a,i,k⟩,O F,b F,Z.g n⟩
theorem mkB(Z:Zb P w K mg base)(h:BF K C x m q st)(O:∀{f:GD}{fd:HM},Fun K m q st f fd->aK P w K mg base CX k f fd ps sp)(b:∀{f:GD}{fd:HM},Fun K m q st f fd->Binds K fd ps []:=by trivial):cb CX P w K mg base k x m ps sp:=by
 cases h with|mk s r a n F=>exact⟨_,_,_,⟨s,r,a,F.kp⟩,O F,b F,Z.g n⟩
theorem mkR{sp:Nat->Sp}(Z:Zb P w K mg base)(h:GF K x q st)(k n:Nat)(z:∀{vs:List V}{H:Hp}{Q:VK}{E:XK},¬ sp 0 vs H Q E)(O:∀{f:GD}{fd:HM}(n:Nat),Fun K q q st f fd->Callee P w K mg base (k+n) x ps (sp n)->aK P w K mg base CX0 (k+n+1) f fd ps (sp (n+1)))(b:∀{f:GD}{fd:HM},Fun K q q st f fd->Binds K fd ps []:=by trivial):Callee P w K mg base (k+n) x ps (sp n):=by
 cases h with|mk a F =>
 refine⟨_,_,?_,b F,F.kp,Z.g a⟩;induction n with
 |zero=>exact aK.no λ_ _ _ _ h=>z h
 |succ n c=>exact O n F ⟨_,_,c,b F,F.kp,Z.g a⟩
theorem gv_mk{v:V}{u:Gf}(a:W.nsIn K GK x=Kb (Kb u))(r:RelV v u):∃u,W.nsIn K GK x=Kb (Kb u)/\RelV v u:=⟨u,a,r⟩
end
theorem Inv.turnedPair{ch:List GD}{T:GD}{x y:V}{u v:Gf}(I:Inv X Kg σ H s)(h:∀b∈ch,i7 X Kg H b)(k:∀b o,b ∉ ch->s.heap.get? b=Kb o->h'.get? b=Kb o)
  (t:s.heap.get? T=Kc)(C:H T=Kc)(D:JL h' T u v)(rx:RelV x u)(p:RelV y v):Inv X Kg σ (upd H T (.tup [x,y])) { s with heap:=h' }:=by
 have out:∀b u,H b=Kb u->b ∉ ch:=λb u e z=>by
  have f:=(h b z).1;rw[f]at e;cases e
 have j:∀{b o},s.heap.get? b=Kb o->b≠T:=λe z=>by rw[z,t]at e;cases e
 have a:∀{b u},H b=Kb u->b≠T:=λe z=>by rw[z,C]at e;cases e
 have J:=Inv.step (H':=upd H T (.tup [x,y])) (h':=h') (g':=s.gens) (d':=s.drawn) (t':=s.toks) (ch:=ch) I
  (λb g=>by obtain⟨_,i,_,G,F,E⟩:=h b g;exact⟨G,i,F,E⟩)
  (λb o _ _ d e _=>k b o d e)
  (λb o _ _ d e _=>⟨o.slots,k b o d e⟩)
  (λb o _ e n=>by rw[ay (j e)];exact n)
  (λb o d e=>⟨o,k b o d e⟩)
  (λb l e=>by rw[ay (a e)];exact e)
  (λb o w e=>by rw[ay (a e)];exact e)
  (λb ps e=>⟨#[],by rw[ay (a e),e];simp⟩)
  (λm B=>by
   obtain⟨o,es,K,A,r⟩:=B;refine⟨o,es,K,k _ o (λz=>?_) A,r⟩;obtain⟨_,i,_⟩:=h _ z;exact i U)
  (λb w e=>by
   by_cases g:b=T
   .subst g;rw[ab]at e;cases e;exact⟨by show 2<=GH;decide,[u,v],.cons rx (.cons p .nil),_,D,U,_,U⟩
   .rw[ay g]at e;refine(I.hok b w e).stay (λc z d q=>k c z ?_ q) (λc q=>?_) λc l q=>?_
    .rcases d with z|z
     .rw[z];exact out b w e
     .exact out c _ z
    .rw[ay (a q)];exact q
    .rw[ay (a q)];exact q)
  I.bare
 exact J
theorem Inv.turnedL{ch:List GD}(I:Inv X Kg σ H s)(d:∀b∈ch,i7 X Kg H b)(k:∀b o,b ∉ ch->s.heap.get? b=Kb o->h'.get? b=Kb o):Inv X Kg σ H { s with heap:=h' }:=by
 have out:∀b u,H b=Kb u->b ∉ ch:=λb u e z=>by
  have f:=(d b z).1;rw[f]at e;cases e
 have J:=Inv.step (H':=H) (h':=h') (g':=s.gens) (d':=s.drawn) (t':=s.toks) (ch:=ch) I
  (λb l=>by obtain⟨_,g,_,v,t,p⟩:=d b l;exact⟨v,g,t,p⟩)
  (λb o _ _ a e _=>k b o a e)
  (λb o _ _ a e _=>⟨o.slots,k b o a e⟩)
  (λb o _ _ n=>n)
  (λb o a e=>⟨o,k b o a e⟩)
  (λb h e=>e) (λb o w e=>e) (λb ps e=>⟨#[],by rw[e];simp⟩)
  (λm j=>by
   obtain⟨o,es,x,i,r⟩:=j;refine⟨o,es,x,k _ o (λz=>?_) i,r⟩;obtain⟨_,g,_⟩:=d _ z;exact g U)
  (λb w e=>by
   refine(I.hok b w e).stay (λc z a q=>k c z ?_ q) (λc q=>q) λc h q=>q
   rcases a with z|z
   .rw[z];exact out b w e
   .exact out c _ z)
  I.bare
 exact J
def Itz(K:W.Frag)(a b:GD):It :=
 ⟨λi H=>∃d c x y,SqL K H a d/\SqL K H b c/\d[i]?=Kb x/\c[i]?=Kb y,
 λi H v e=>∃T,H T=Kc/\v=.ref T/\∀d c x y,SqL K H a d->SqL K H b c->d[i]?=Kb x->c[i]?=Kb y->e=upd H T (.tup [x,y]),
 λi H=>∃d c,SqL K H a d/\SqL K H b c/\(d.length<=i\/c.length<=i)⟩
def zC(z TI TO d c a b:GD)(i:Nat)(h:GG):Prop:=IsZip h z TI TO .none/\JL h TI (.ref d) (.ref c)/\(∃p q,JL h TO p q)/\h.IsListIter d a i/\h.IsListIter c b i
theorem wD{P:GC}{w:Gn}{K:W.Frag}{A:List GW} {x1} {tp:Pos}{z TI TO t r a b:GD}(D:JM z TI TO t r a b) :
  Turn P w K (.Tuple A x1 tp) (Itz K a b) [z,TI,TO,t,r] z (zC z TI TO t r a b) where
 mem:=by simp
 obj:=λi h f c d=>by
  obtain⟨n,g,⟨p,q,m⟩,⟨o4,l,_,d4⟩,⟨o5,j,_,d5⟩⟩:=f;simp only[dt,jw,or_false]at d;rcases d with rfl|rfl|rfl|rfl|rfl
  .exact⟨_,n,λv q=>nomatch q⟩
  .exact⟨_,g,λv q=>nomatch q⟩
  .exact⟨_,m,λv q=>nomatch q⟩
  .exact⟨_,l,λv q=>by rw[d4]at q;cases q⟩
  .exact⟨_,j,λv q=>by rw[d5]at q;cases q⟩
 keep:=λi h h' f k=>by
  obtain⟨n,g,⟨p,q,m⟩,l,j⟩:=f;exact⟨k z (by simp) _ n,k TI (by simp) _ g,⟨p,q,k TO (by simp) _ m⟩,l.at λo e=>k t (by simp) o e,j.at λo e=>k r (by simp) o e⟩
 item:=by
  intro X R N S d i Kg s σ H E I F f Q;subst R N S;obtain⟨xs,ys,x,y,C,B,ex,ey⟩:=Q;obtain⟨n,g,⟨p,q,m⟩,l,j⟩:=f;obtain⟨us,L,M,_⟩:=I.list C;obtain⟨vs,G,pv,_⟩:=I.list B;obtain⟨u,eu,r1⟩:=L.get ex;obtain⟨v,ev,r2⟩:=G.get ey;refine JN D n g m l j M.isList pv.isList (x:=u) (y:=v) (by simpa using eu) (by simpa using ev) λh1 a1 a2 a3 a4 a5 a6 a7=>?_
  refine⟨_,U,wpAny_letOwnedTupleGo_zip (s:={ s with heap:=h1 }) a1 λV b1 b2=>?_⟩;have nT:s.heap.get? s.heap.objs.size=none:=by
   cases q:s.heap.get? s.heap.objs.size with
   |none=>rfl
   |some o=>exact Kk (GG.lt_size q) (ze _)
  have hT:H s.heap.objs.size=none:=I.hok.fresh (yr _);have nz:s.heap.objs.size≠z:=zb (GG.lt_size n);have kk:∀c o,c ∉ [z,TO,t,r]->s.heap.get? c=Kb o->V.get? c=Kb o:=λc o d e=>by
   simp only[dt,jw,or_false,not_or]at d;exact b2.extBut _ _ d.1 (a7 c o d.1 d.2.1 d.2.2.1 d.2.2.2 e)
  have J:=I.turnedPair (h':=V) (ch:=[z,TO,t,r]) (T:=s.heap.objs.size) (x:=x) (y:=y) (u:=u) (v:=v) (λc d=>F c (by simp at d⊢;rcases d with e|e|e|e <;> simp[e])) kk nT hT (b2.extBut _ _ nz a5) r1 r2;refine⟨.ref s.heap.objs.size,upd H s.heap.objs.size (.tup [x,y]),J,U,⟨_,hT,U,λb0 a9 x' y' q1 q2 Z Y=>?_⟩,⟨b1,b2.extBut _ _ D.TIz (a7 TI _ D.TIz D.TITO D.TIi1 D.TIi2 g),⟨_,_,b2.extBut _ _ D.TOz a2⟩,a3.extBut b2.extBut D.i1z,a4.extBut b2.extBut D.i2z⟩,λc d=>?_⟩
  .rw[I.list_inj q1 C]at Z;rw[I.list_inj q2 B]at Y;rw[ex]at Z;rw[ey]at Y;cases Z;cases Y;rfl
  .have h0:=(F c d).1;have:c≠s.heap.objs.size:=by
    obtain⟨o4,a8,_⟩:=l;obtain⟨o5,a0,_⟩:=j;simp only[dt,jw,or_false]at d;rcases d with rfl|rfl|rfl|rfl|rfl
    .exact nz.symm
    .exact yv (GG.lt_size g)
    .exact yv (GG.lt_size m)
    .exact yv (GG.lt_size a8)
    .exact yv (GG.lt_size a0)
   rw[ay this];exact h0
 done:=by
  intro X R N S d i Kg s σ H E I F f Q;subst R N S;obtain⟨xs,ys,C,B,O⟩:=Q;obtain⟨n,g,⟨p,q,m⟩,l,j⟩:=f;obtain⟨us,L,M,_⟩:=I.list C;obtain⟨vs,G,pv,_⟩:=I.list B;have l1:=L.length;have l2:=G.length;refine JO (I.ok.hd d) D n g m l j M.isList pv.isList ?_ λV k=>⟨U,I.turnedL (ch:=[z,TO,t,r]) (λc d=>F c (by simp at d⊢;rcases d with e|e|e|e <;> simp[e])) λc o d e=>?_⟩
  .rcases O with O|O
   .exact .inl (by simp;lia)
   .exact .inr (by simp;lia)
  .simp only[dt,jw,or_false,not_or]at d;exact k c o d.1 d.2.1 d.2.2.1 d.2.2.2 e
 self:=λ_ _ _ _ _ f h=>JP f.1 h
inductive zD(K:W.Frag)(R:It->Hp->Prop)(vs:List V)(H1:Hp):Prop
 |mk (a b:_)(_:vs=[.ref a,.ref b])(_:(∃xs,SqL K H1 a xs))(_:(∃ys,SqL K H1 b ys))(_:R (Itz K a b) H1)
def Ds(K:W.Frag)(b:TA):TI:=λσ H R=>b σ H λa c=>zD K R a c
theorem pG{k e:GW}{l:TA}{p pos:Pos}{j:List GW} {x1} {tp:Pos}(M:Gl X "zip") (hm:X.mg "zip" = Kc) (N:PA X [k,e] l)
  (L:GZ [k,e] X.env=[(Ke,eval k X.env),(Ke,eval e X.env)]:=by rfl)(g:GZ [e] X.env=[(Ke,eval e X.env)]:=by rfl) :
  PI X (.Tuple j x1 tp) (.Call (.Name "zip" p) [k,e] [] pos) (Ds X.K l):=by
 intro Kg s σ H R I h;refine Call_ (eP I M hm PyProof.Rows.boot_zip (PyProof.Rows.callWith_type1 (thn (N pos Kg s σ H _ I h) λB d ⟨A,Q,f,E,J⟩=>?_) (by rw[L,g]) (by rw[g];rfl)));obtain⟨a,b,rfl,⟨V,G⟩,⟨T,F⟩,q⟩:=J;obtain⟨u,v,rfl,D,C⟩:=E.two;cases (show u=Gf.ref a from D);cases (show v=Gf.ref b from C);obtain⟨B,_,m,_⟩:=f.list G;obtain⟨A,_,pv,_⟩:=f.list F;obtain⟨Y,P,_⟩:=id m.isList;obtain⟨W,O,_⟩:=id pv.isList;have o:a<d.heap.objs.size:=GG.lt_size P;have n:b<d.heap.objs.size:=GG.lt_size O;refine call_zip_2 m.isList pv.isList λh' z1 z y x w S t=>?_
 refine JP (s:={ d with heap:=h' }) z1 ?_;refine⟨d.heap.objs.size+4,[d.heap.objs.size+4,d.heap.objs.size+2,d.heap.objs.size+3,d.heap.objs.size,d.heap.objs.size+1],zC (d.heap.objs.size+4) (d.heap.objs.size+2) (d.heap.objs.size+3) d.heap.objs.size (d.heap.objs.size+1) a b,Itz X.K a b,Q,U,f.kept (t':=d.toks) t,wD ?_,⟨z1,z,⟨_,_,y⟩,x,w⟩,λc r=>?_,q⟩
 .refine⟨?_,?_,?_,?_,?_,?_,?_,?_,?_,?_,?_,?_,?_,?_,?_,?_,?_,?_⟩ <;> first|exact yv (by lia)|exact zb (by lia)|exact yv o|exact yv n|exact yv (yU o (zh _ _))|exact yv (yU n (zh _ _))
 .have i:d.heap.objs.size<=c:=by
   simp only[dt,jw,or_false]at r;rcases r with rfl|rfl|rfl|rfl|rfl <;> lia
  exact f.fpOk i (f.hok.fresh i)
theorem pH{K:W.Frag}{a b:GD}{xs ys:List V}{g:TG}{o:TS}{D:Ends}{σ:St}{H:Hp}(c:Nat->St->Hp->Prop)(z:c 0 σ H)(u:∀i σ H,c i σ H->SqL K H a xs/\SqL K H b ys)
  (t:∀i x y σ H T,xs[i]?=Kb x->ys[i]?=Kb y->c i σ H->H T=Kc->g (.ref T) σ (upd H T (.tup [x,y])) λd n=>o { D with nx:=c (i+1),ct:=c (i+1),bk:=D.nx } d n)
  (hd:∀σ H,c (min xs.length ys.length) σ H->D.nx σ H) :
  ∃W:Nat->Nat->St->Hp->Prop,(∃m,W 0 m σ H)/\∀i m σ H,W i m σ H ->
   ((Itz K a b).stop i H/\D.nx σ H)\/((Itz K a b).go i H/\∃N:St->Hp->Prop,(∀f H',N f H'->∃q,q<m/\W (i+1) q f H')/\∀x H',(Itz K a b).yld i H x H'->g x σ H' λd n=>o { D with nx:=N,ct:=N,bk:=D.nx } d n):=by
 refine⟨λi m σ H=>m=min xs.length ys.length-i/\i<=min xs.length ys.length/\c i σ H,⟨min xs.length ys.length,by simp,yY _,z⟩,?_⟩;rintro i m σ H ⟨rfl,hi,p⟩;obtain⟨j,h⟩:=u i σ H p;by_cases lt:i<min xs.length ys.length
 .have l:xs[i]?=Kb xs[i]:=Gy (by lia);have k:ys[i]?=Kb ys[i]:=Gy (by lia);refine .inr ⟨⟨xs,ys,_,_,j,h,l,k⟩,c (i+1),λf H' s=>⟨_,?_,U,lt,s⟩,λv H' r=>?_⟩
  .lia
  .obtain⟨T,w,rfl,e⟩:=r;rw[e xs ys _ _ j h l k];exact t i _ _ σ H T l k p w
 .have e:i=min xs.length ys.length:=by lia
  subst e;exact .inl ⟨⟨xs,ys,j,h,by lia⟩,hd σ H p⟩
theorem nK{X:Cx}{K:W.Frag}(h:X.K=K):dn X (.type "list") (λxs H Q=>∃p ys,xs=[.ref p]/\(SqL K H p ys\/SqT K H p ys)/\∀l,H l=Kc->Q (.ref l) (upd H l (.lst ys))):=h ▸ bV
theorem nL{X:Cx}{K:W.Frag}(h:X.K=K):dn X (.builtin "len") (λxs H Q=>∃p ys,xs=[.ref p]/\(SqL K H p ys\/SqT K H p ys)/\Q (.int ys.length) H):=h ▸ ao
set_option maxRecDepth 100000
abbrev jg(h:GG)(z TI TO a:GD)(b:Bool):Prop :=
 h.get? z=Kb { cls:=.type "zip",dict:=Kc,data:=.fields #[Ht a,.bool b,.bool Ke,.ref TI,.ref TO],slots:=#[] }
theorem jU{a:GD}{Q:Option Obj->GP->Prop}(h:Q (s.heap.get? a) s):GU (model prog w) A (loadIfAlive a) Q E s:=λ_ _ _=>h
theorem oN{z TI TO a:GD}{b:Bool}{o:Obj}{Q:Bool->GP->Prop}(hz:jg s.heap z TI TO a b)(d:s.heap.get? a=Kb o)
  (h:∀h',jg h' z TI TO a Kd->GG.SameBut z s.heap h'->Q Ke { s with heap:=h' }):GU (model prog w) A (Hw.SmallTypes.ownedTupleIsFree (.ref z)) Q E s:=by
 unfold Hw.SmallTypes.ownedTupleIsFree;refine DN (JQ hz U (x:=Ht a) U ?_);show GU _ _ (loadIfAlive ((a:Int).toNat) >>= _) _ _ _;refine DN (jU ?_);rw[DJ,d];simp only[Option.isNone_some,BP,if_false];refine DN (JQ hz U (x:=.bool b) U ?_);cases b with
 |true =>
  rw[Ki (by simp)];refine D0 ?_;have e:s={ s with heap:=s.heap }:=by cases s;rfl
  rw[e];exact h s.heap hz (GG.SameBut.refl z s.heap)
 |false =>
  rw[Kj (by decide)];refine DN (Jr hz (by simp) λf g c=>?_);exact D0 (h f g c)
theorem uY{z TI TO v i p q t:GD}{Y:Bool}{u B:Nat}{xs ys:Array Gf}{x y a b:Gf}{o:Obj}{Q:Option Gf->GP->Prop}(D:JM z TI TO i p q t)
  (hz:jg s.heap z TI TO v Y)(I:s.heap.get? v=Kb o)(H:JL s.heap TI (.ref i) (.ref p))(Z:JL s.heap TO a b)
  (T:s.heap.IsListIter i q u)(S:s.heap.IsListIter p t B)(G:s.heap.IsList q xs)(C:s.heap.IsList t ys)(P:xs[u]?=Kb x)(O:ys[B]?=Kb y)
  (R:∀h',jg h' z TI TO v Kd->h'.IsListIter i q (u+1)->h'.IsListIter p t (B+1)->JL h' s.heap.objs.size x y->h'.objs.size=s.heap.objs.size+1 ->
   (∀c o,c≠z->c≠i->c≠p->s.heap.get? c=Kb o->h'.get? c=Kb o)->Q (Kb (.ref s.heap.objs.size)) { s with heap:=h' }) :
  GU (model prog w) A (Hq (.ref z)) Q E s:=by
 have J:s.TypeIs (.ref z) "zip" := ⟨_,hz,U⟩;unfold Hq;refine DN (Jl (Jm (name:=s!"__next__") J F.slot_zip_next (Jn F.slot_zip_next J F.entry_zip_next ?_ (F.args_zip_next_1 _))));show GU _ _ (field (.ref z) 2 >>= _) _ _ _;refine DN (JQ hz U (x:=.bool Ke) U ?_);show GU _ _ (field (.ref z) 3 >>= _) _ _ _;refine DN (JQ hz U (x:=.ref TI) U ?_);refine DN (Jy H U ?_);show GU _ _ (Hw.SmallTypes.ownedTupleIsFree (.ref z) >>= _) _ _ _;refine DN (oN hz I λM k d=>?_);simp only[BP,if_false];refine DN ?_;rw[←Array.forIn_toList];simp only[List.forIn_cons,yb];refine DN (DN (EX ?_));show GU _ _ (Hw.SmallTypes.nextOf (.ref i) >>= _) _ _ _;refine DN (JR (T.extBut d.extBut D.i1z) (G.extBut d.extBut D.l1z) P λL n g=>D0 ?_);refine D0 ?_;dsimp only;refine DN (DN (EX ?_));show GU _ _ (Hw.SmallTypes.nextOf (.ref p) >>= _) _ _ _;refine DN (JR ((S.extBut d.extBut D.i2z).extBut g.extBut D.i12.symm) ((C.extBut d.extBut D.l2z).extBut g.extBut D.l2i1) O λf l h=>D0 ?_);refine D0 ?_;dsimp only;refine D0 ?_;refine DN (JC ?_ (by show 2<=GH;decide));have r:f.objs.size=s.heap.objs.size:=by rw[h.1,g.1,d.1]
 refine D0 ⟨_,U,D0 ?_⟩;show Q (Kb (.ref f.objs.size)) _;have j:jg f z TI TO v true:=h.extBut _ _ D.i2z.symm (g.extBut _ _ D.i1z.symm k);have m:f.IsListIter i q (u+1):=n.extBut h.extBut D.i12;have K:(f.push { cls:=.type "tuple",data:=.seq #[x,y] }).get? f.objs.size=Kb { cls:=.type "tuple",data:=.seq #[x,y] }:=GG.get?_push_size _ U;have N:(f.push { cls:=.type "tuple",data:=.seq #[x,y] }).objs.size=s.heap.objs.size+1:=by rw[GG.size_push,r]
 rw[r]at K⊢;exact R _ (GG.get?_push_of_some _ j) (m.at λo e=>GG.get?_push_of_some _ e) (l.at λo e=>GG.get?_push_of_some _ e) K N λc o X W V e=>GG.get?_push_of_some _ (h.extBut _ _ V (g.extBut _ _ W (d.extBut _ _ X e)))
theorem wF{z TI TO R j i r p:GD}{bb:Bool}{u t:Nat}{xs ys:Array Gf}{a b:Gf}{o:Obj}{Q:Option Gf->GP->Prop}(M:A.handled=Kc)(D:JM z TI TO j i r p)
  (hz:jg s.heap z TI TO R bb)(J:s.heap.get? R=Kb o)(I:JL s.heap TI (.ref j) (.ref i))(a0:JL s.heap TO a b)
  (O:s.heap.IsListIter j r u)(h2:s.heap.IsListIter i p t)(l:s.heap.IsList r xs)(G:s.heap.IsList p ys)(W:xs[u]?=Kc\/ys[t]?=Kc)
  (Z:∀h',(∀c o,c≠z->c≠j->c≠i->s.heap.get? c=Kb o->h'.get? c=Kb o)->Q Kc { s with heap:=h' }) :
  GU (model prog w) A (Hq (.ref z)) Q E s:=by
 have N:s.TypeIs (.ref z) "zip" := ⟨_,hz,U⟩;unfold Hq;refine DN (Jl (Jm (name:=s!"__next__") N F.slot_zip_next (Jn F.slot_zip_next N F.entry_zip_next ?_ (F.args_zip_next_1 _))));show GU _ _ (field (.ref z) 2 >>= _) _ _ _;refine DN (JQ hz U (x:=.bool Ke) U ?_);show GU _ _ (field (.ref z) 3 >>= _) _ _ _;refine DN (JQ hz U (x:=.ref TI) U ?_);refine DN (Jy I U ?_);show GU _ _ (Hw.SmallTypes.ownedTupleIsFree (.ref z) >>= _) _ _ _;refine DN (oN hz J λV K d=>?_);simp only[BP,if_false];refine DN ?_;rw[←Array.forIn_toList];simp only[List.forIn_cons,yb];refine DN (DN (EX ?_));show GU _ _ (Hw.SmallTypes.nextOf (.ref j) >>= _) _ _ _
 have m:∀h' e,(∀c o,c≠z->c≠j->c≠i->s.heap.get? c=Kb o->h'.get? c=Kb o)->(∃o,h'.get? e=Kb o/\o.cls=.type "StopIteration") ->
   GU (model prog w) A (do if ←isInstance (.ref e) (.type "StopIteration")then pure Kc else throw (.ref e)) Q E { s with heap:=h' }:=λh' e k ⟨X,C,H⟩=>by
  refine DN (Jw (T := "StopIteration") (b:=Kd) ⟨X,C,H⟩ Jx ?_);exact D0 (Z _ k)
 cases hx:xs[u]? with
 |none =>
  refine DN (JS M (O.extBut d.extBut D.i1z) (l.extBut d.extBut D.l1z) hx λn e f v=>?_);exact m _ _ (λc o B y P q=>f _ _ y (d.extBut _ _ B q)) v
 |some x =>
  have Y:ys[t]?=none:=by rcases W with h|h;rw[hx]at h;cases h;exact h
  refine DN (JR (O.extBut d.extBut D.i1z) (l.extBut d.extBut D.l1z) hx λn L f=>D0 ?_);refine D0 ?_;dsimp only;refine DN (DN (EX ?_));show GU _ _ (Hw.SmallTypes.nextOf (.ref i) >>= _) _ _ _;refine DN (JS M ((h2.extBut d.extBut D.i2z).extBut f.extBut D.i12.symm) ((G.extBut d.extBut D.l2z).extBut f.extBut D.l2i1) Y λS e g v=>?_);exact m _ _ (λc o B y P q=>g _ _ P (f.extBut _ _ y (d.extBut _ _ B q))) v
section
variable{R:HG->GP->Prop}
theorem neA{a T:GD}{N:Nat}(h:a<N)(h':N<=T):T≠a:=zb (yU h h')
def zE(h:GG)(z TI TO:GD)(N:Nat)(i:Nat):Prop:=(i=0/\IsZip h z TI TO .none)\/∃a b o,N<=a/\a≠z/\jg h z TI TO a b/\h.get? a=Kb o/\o.cls=.type "tuple"
theorem sI{z TI TO C B L K S:GD}{xs ys:Array Gf}{I:Gf}(hh:A.handled=Kc)(D:JM z TI TO C B L K)(N:Nat)(hz:z<N)(c1:TI<N)(a8:TO<N)(X:C<N)(W:B<N)(c0:L<N)(b6:K<N)(hS:S<N)
  (m:S≠z/\S≠TI/\S≠TO/\S≠C/\S≠B/\S≠L/\S≠K)(hn:min xs.size ys.size<=GH) :
  ∀(d i:Nat)(s:GP)(l:Array Gf)(c:Nat)(ts:List GD),min xs.size ys.size=i+d->N<=s.heap.objs.size->zE s.heap z TI TO N i->JL s.heap TI (.ref C) (.ref B)->(∃a b,JL s.heap TO a b) ->
   s.heap.IsListIter C L i->s.heap.IsListIter B K i->s.heap.IsList L xs->s.heap.IsList K ys->s.heap.get? S=Kb { cls:=.type "list",dict:=Kc,data:=.seq l c,slots:=#[] } ->
   l.toList=ts.map Gf.ref->ts.length=i->ts.Nodup->(∀(j:Nat)(T:GD),ts[j]?=Kb T->N<=T/\∃x y,xs[j]?=Kb x/\ys[j]?=Kb y/\JL s.heap T x y) ->
   (∀(h':GG)(sH:Array Gf)(c':Nat)(n:List GD),(∀b o,b<N->b≠S->b≠z->b≠TO->b≠C->b≠B->s.heap.get? b=Kb o->h'.get? b=Kb o)->h'.get? S=Kb { cls:=.type "list",dict:=Kc,data:=.seq sH c',slots:=#[] } ->
    sH.toList=n.map Gf.ref->n.length=min xs.size ys.size->n.Nodup->(∀(j:Nat)(T:GD),n[j]?=Kb T->N<=T/\∃x y,xs[j]?=Kb x/\ys[j]?=Kb y/\JL h' T x y)->R (.ok (.ret I)) { s with heap:=h' }) ->
   HH (model prog w) A (.builtin "list.extend.loop" ⟨[.ref S,.ref z,I],[]⟩) R s:=by
 intro d;induction d with
 |zero =>
  intro i s l c ts e hN r Y ⟨a,b,p2⟩ t1 t2 q1 q2 g ea el nd hts v;refine IJ F.entry_extend_loop ?_;rw[GO.under_plainId F.plain_extend_loop _];show GU _ A.in1 (Hq (.ref z) >>= _) _ _ s;have sE:xs[i]?=Kc\/ys[i]?=none:=by
   by_cases hx:xs.size<=i
   .exact .inl (Array.getElem?_eq_none hx)
   .exact .inr (Array.getElem?_eq_none (by lia))
  have Q:∀h',(∀b o,b≠z->b≠TO->b≠C->b≠B->s.heap.get? b=Kb o->h'.get? b=Kb o)->R (.ok (.ret I)) { s with heap:=h' }:=λh' k=>by
   refine v h' l c ts (λb o _ _ P b2 O M q=>k b o P b2 O M q) (k S _ m.1 m.2.2.1 m.2.2.2.1 m.2.2.2.2.1 g) ea (by lia) nd λj T E=>?_
   obtain⟨h,x,y,V,H,G⟩:=hts j T E;exact⟨h,x,y,V,H,k T _ (neA hz h) (neA a8 h) (neA X h) (neA W h) G⟩
  rcases r with⟨_,r⟩|⟨T0,bb,o,J,_,r,gT,_⟩
  .exact DN (JO (by simp[hh]) D r Y p2 t1 t2 q1 q2 sE λh' k=>D0 (Q h' k))
  .exact DN (wF (by simp[hh]) D r gT Y p2 t1 t2 q1 q2 sE λh' k=>D0 (Q h' λb o P _ O M q=>k b o P O M q))
 |succ d ih =>
  intro i s l c ts e hN r Y ⟨a,b,p2⟩ t1 t2 q1 q2 g ea el nd hts v;have ix:i<xs.size:=by lia
  have iy:i<ys.size:=by lia
  refine IJ F.entry_extend_loop ?_;rw[GO.under_plainId F.plain_extend_loop _];show GU _ A.in1 (Hq (.ref z) >>= _) _ _ s;have a0:l.size=i:=by rw[←CQ,ea,bx,el]
  have go:∀h',zE h' z TI TO N (i+1)->(∃a b,JL h' TO a b)->h'.IsListIter C L (i+1)->h'.IsListIter B K (i+1)->JL h' s.heap.objs.size xs[i] ys[i]->h'.objs.size=s.heap.objs.size+1 ->
    (∀b o,b≠z->b≠TO->b≠C->b≠B->s.heap.get? b=Kb o->h'.get? b=Kb o) ->
    GU (model prog w) A.in1 (JG S (·.push (.ref s.heap.objs.size)) >>= λ_=>again (.builtin "list.extend.loop" ⟨[.ref S,.ref z,I],[]⟩))
     (λv s'=>match v with | .done f=>R (.ok f) s' | .again c'=>c'.quiet=Kd/\HH (model prog w) A c' R s') (λe s'=>R (.error e) s') { s with heap:=h' }:=λh' z1 z2 z3 z4 z5 z6 k=>by
   have gS:h'.get? S=Kb { cls:=.type "list",dict:=Kc,data:=.seq l c,slots:=#[] }:=k S _ m.1 m.2.2.1 m.2.2.2.1 m.2.2.2.2.1 g;refine DN (JH gS U ?_ (by rw[a0];lia) (by show(l.push _).size<=GH+1;rw[Array.size_push,a0];lia));have gU:=GG.get?_update_self (Obj.mapSeq (·.push (Gf.ref s.heap.objs.size))) gS U;generalize hH:h'.update S (Obj.mapSeq (·.push (Gf.ref s.heap.objs.size)))=h2 at gU⊢;have sb:GG.SameBut S h' h2:=hH ▸ GG.SameBut.update ..;have p:∀b o,b≠S->h'.get? b=Kb o->h2.get? b=Kb o:=λb o hb q=>(sb.2 b hb).trans q
   have a9:h2.objs.size=s.heap.objs.size+1:=by rw[sb.1,z6]
   refine D0 ⟨IL F.plain_extend_loop _,ih (i+1) { s with heap:=h2 } (l.push (.ref s.heap.objs.size)) _ (ts++[s.heap.objs.size]) (by lia) (by rw[a9];lia) ?_ (p TI _ m.2.1.symm (k TI _ D.TIz D.TITO D.TIi1 D.TIi2 Y)) ?_ (z3.at λo q=>p C o m.2.2.2.1.symm q) (z4.at λo q=>p B o m.2.2.2.2.1.symm q)
    ((q1.at λo q=>k L o D.l1z D.l1TO D.l1i1 D.l1i2 q).at λo q=>p L o m.2.2.2.2.2.1.symm q) ((q2.at λo q=>k K o D.l2z D.l2TO D.l2i1 D.l2i2 q).at λo q=>p K o m.2.2.2.2.2.2.symm q) gU (by rw[Df,ea,iv];rfl) (by simp[el]) ?_ (λj T E=>?_) λh3 sH c' n k3 g3 e3 l3 n3 f3=>?_⟩
   .rcases z1 with⟨z',_⟩|⟨T0,bb,o,h,V,H,G,Z⟩
    .exact Kk z' (by lia)
    .exact .inr ⟨T0,bb,o,h,V,p z _ m.1.symm H,p T0 _ (neA hS h) G,Z⟩
   .obtain⟨a',b',q⟩:=z2;exact⟨a',b',p TO _ m.2.2.1.symm q⟩
   .rw[vK];refine⟨nd,by simp,λt ht u hu=>?_⟩;have eu:u=s.heap.objs.size:=by simpa using hu
    obtain⟨j,E⟩:=List.mem_iff_getElem?.mp ht;obtain⟨_,x,y,_,_,gp⟩:=hts j t E;have:=GG.lt_size gp;exact λq=>ze _ (by rw[q,eu]at this;exact this)
   .rw[List.getElem?_append]at E;split at E
    .obtain⟨h,x,y,V,H,G⟩:=hts j T E;exact⟨h,x,y,V,H,p T _ (neA hS h) (k T _ (neA hz h) (neA a8 h) (neA X h) (neA W h) G)⟩
    .rename_i hlt
     have b5:j=i:=by
      obtain⟨q,_⟩:=Gz.mp E;simp at q;lia
     subst b5;rw[el,Bj]at E;have eT:s.heap.objs.size=T:=by simpa using E
     subst eT;exact⟨hN,xs[j],ys[j],Cn ix,Cn iy,p _ _ (neA hS hN) z5⟩
   .exact v h3 sH c' n (λb o b0 bS P b2 O M q=>k3 b o b0 bS P b2 O M (p b o bS (k b o P b2 O M q))) g3 e3 l3 n3 f3
  rcases r with⟨_,r⟩|⟨T0,bb,o,J,BR,r,gT,cT⟩
  .refine DN (JN D r Y p2 t1 t2 q1 q2 (x:=xs[i]) (y:=ys[i]) (Cn ix) (Cn iy) λh' h V H G Z a6 a7=>?_);exact go h' (.inr ⟨s.heap.objs.size,Ke,_,hN,zb (yU hz hN),h,Z,U⟩) ⟨_,_,V⟩ H G Z a6 a7
  .refine DN (uY D r gT Y p2 t1 t2 q1 q2 (x:=xs[i]) (y:=ys[i]) (Cn ix) (Cn iy) λh' h H G Z a6 a7=>?_);exact go h' (.inr ⟨T0,Kd,o,J,BR,h,a7 T0 o BR (neA X J) (neA W J) gT,cT⟩) ⟨_,_,a7 TO _ D.TOz D.TOi1 D.TOi2 p2⟩ H G Z a6 λb o P _ O M q=>a7 b o P O M q
end
set_option maxRecDepth 100000
theorem sJ:Ie (.type "zip") "__len__" = pure none:=by rw[Jd,Je];kernel_rfl
theorem qM:Ie (.type "zip") "__length_hint__" = pure none:=by rw[Jd,Je];kernel_rfl
theorem nM{z TI TO m l J I:GD}{xs ys:Array Gf}{Q:Gf->GP->Prop}(hh:A.handled=Kc)(D:JM z TI TO m l J I)(H:IsZip s.heap z TI TO .none)(W:JL s.heap TI (.ref m) (.ref l))(V:JL s.heap TO .none .none)
  (t1:s.heap.IsListIter m J 0)(P:s.heap.IsListIter l I 0)(S:s.heap.IsList J xs)(R:s.heap.IsList I ys)(hn:min xs.size ys.size<=GH)
  (h:∀(h':GG)(i:Array Gf)(c:Nat)(ts:List GD),(∀b o,b≠z->b≠TO->b≠m->b≠l->s.heap.get? b=Kb o->h'.get? b=Kb o)->h'.get? s.heap.objs.size=Kb { cls:=.type "list",dict:=Kc,data:=.seq i c,slots:=#[] } ->
   i.toList=ts.map Gf.ref->ts.length=min xs.size ys.size->ts.Nodup->(∀(j:Nat)(T:GD),ts[j]?=Kb T->s.heap.objs.size+1<=T/\∃x y,xs[j]?=Kb x/\ys[j]?=Kb y/\JL h' T x y)->Q (.ref s.heap.objs.size) { s with heap:=h' }) :
  GU (model prog w) A (call (.type "list") [.ref z]) Q E s:=by
 have M:z<s.heap.objs.size:=GG.lt_size H;have C:TI<s.heap.objs.size:=GG.lt_size W;have B:TO<s.heap.objs.size:=GG.lt_size V;have v:m<s.heap.objs.size:=let ⟨_,e,_⟩:=t1;GG.lt_size e;have u:l<s.heap.objs.size:=let ⟨_,e,_⟩:=P;GG.lt_size e;have t:J<s.heap.objs.size:=let ⟨_,e,_⟩:=S;GG.lt_size e;have r:I<s.heap.objs.size:=let ⟨_,e,_⟩:=R;GG.lt_size e
 refine JT (Q₁:=λq k=>q=.ref s.heap.objs.size/\k={ s with heap:=s.heap.push { cls:=.type "list",data:=.seq #[] } }) F.called_list (F.typeCall_list_1 _) F.entry_list_init
  (JU _ ⟨U,U⟩) λq k G=>?_
 obtain⟨rfl,rfl⟩:=G;have L:(s.heap.push { cls:=.type "list",data:=.seq #[] }).get? s.heap.objs.size=Kb { cls:=.type "list",data:=.seq #[] }:=GG.get?_push_size _ U;refine⟨⟨_,L,U⟩,F.args_list_init_2 _ _,?_⟩;show GU _ _ (do let O ←Hw.List.listItems (.ref s.heap.objs.size);Hw.List.listUpdate (.ref s.heap.objs.size) (λ_=>#[]);letGo O.toList.reverse;Hw.List.listExtendWith (.ref s.heap.objs.size) (.ref z) .none) _ _ _;refine DN ?_;unfold Hw.List.listItems;refine DN (Jy L U (D0 ?_));show GU _ _ (JG s.heap.objs.size (λ_=>#[]) >>= λ_=>letGo (#[]:Array Gf).toList.reverse >>= λ_=>Hw.List.listExtendWith (.ref s.heap.objs.size) (.ref z) .none) _ _ _;refine DN (JH L U ?_);have a:=GG.get?_update_self (Obj.mapSeq (λ_=>(#[]:Array Gf))) L U;refine DN (wpAny_letGo ?_);have K:∀b o,s.heap.get? b=Kb o->((s.heap.push { cls:=.type "list",data:=.seq #[] }).update s.heap.objs.size (Obj.mapSeq (λ_=>(#[]:Array Gf)))).get? b=Kb o:=λb o e =>
  (GG.get?_update_other _ _ (zb (GG.lt_size e))).trans (GG.get?_push_of_some _ e)
 have p:((s.heap.push { cls:=.type "list",data:=.seq #[] }).update s.heap.objs.size (Obj.mapSeq (λ_=>(#[]:Array Gf)))).objs.size=s.heap.objs.size+1:=by rw[GG.size_update,GG.size_push]
 generalize (s.heap.push { cls:=.type "list",data:=.seq #[] }).update s.heap.objs.size (Obj.mapSeq (λ_=>(#[]:Array Gf)))=hA at a K p⊢;have N:GP.TypeIs { s with heap:=hA } (.ref z) "zip" := ⟨_,K _ _ H,U⟩;unfold Hw.List.listExtendWith;refine DN (JE N ?_);have h1:Hw.List.listSameRef (.ref s.heap.objs.size) (.ref z)=false:=by simp[Hw.List.listSameRef];exact zb M
 have h2:(Gf.type "zip" == Gf.type "list")=false:=by decide
 have h3:(Gf.type "zip" == Gf.type "tuple")=false:=by decide
 simp only[h1,h2,h3,Bool.or_false,BP,if_false];refine DN (JP (s:={ s with heap:=hA }) (K _ _ H) ?_);refine DN (EX ?_);unfold Hw.List.listLengthHint;refine DN (JF N sJ ?_);show GU _ _ (specialOf (Gf.ref z) s!"__length_hint__" >>= _) _ _ _;refine DN (JF N qM ?_);refine D0 ?_;show GU _ _ (rule "list.extend.makes-room" >>= λ_=>Hw.List.listTouch (.ref s.heap.objs.size) >>= λ_ =>
  again (.builtin "list.extend.loop" ⟨[.ref s.heap.objs.size,.ref z,.none],[]⟩)) _ _ _
 refine DN (Ja ?_);refine DN ?_;show GU _ _ (JG s.heap.objs.size (·.push .none) >>= λ_=>JG s.heap.objs.size (·.pop)) _ _ _;refine DN (JH (s:={ s with heap:=hA }) a U ?_);have f:=GG.get?_update_self (Obj.mapSeq (·.push Gf.none)) a U;refine JH (hz:=by seq_fits) f U ?_;have d:=GG.get?_update_self (Obj.mapSeq (·.pop)) f U;have g:∀b o,s.heap.get? b=Kb o->((hA.update s.heap.objs.size (Obj.mapSeq (·.push Gf.none))).update s.heap.objs.size (Obj.mapSeq (·.pop))).get? b=Kb o :=
  λb o e=>(GG.get?_update_other _ _ (zb (GG.lt_size e))).trans ((GG.get?_update_other _ _ (zb (GG.lt_size e))).trans (K b o e))
 have n:((hA.update s.heap.objs.size (Obj.mapSeq (·.push Gf.none))).update s.heap.objs.size (Obj.mapSeq (·.pop))).objs.size=s.heap.objs.size+1:=by rw[GG.size_update,GG.size_update,p]
 generalize (hA.update s.heap.objs.size (Obj.mapSeq (·.push Gf.none))).update s.heap.objs.size (Obj.mapSeq (·.pop))=hB at d g n⊢
 refine D0 ⟨IL F.plain_extend_loop _,sI (by simp[hh]) D (s.heap.objs.size+1) (zc M) (zc C) (zc B) (zc v) (zc u) (zc t) (zc r) (zg _)
  ⟨zb M,zb C,zb B,zb v,zb u,zb t,zb r⟩ hn (min xs.size ys.size) 0 { s with heap:=hB } #[] _ [] (Nat.zero_add _).symm (by rw[n];exact yr _)
  (.inl ⟨U,g _ _ H⟩) (g _ _ W) ⟨_,_,g _ _ V⟩ (t1.at λo e=>g _ _ e) (P.at λo e=>g _ _ e) (S.at λo e=>g _ _ e) (R.at λo e=>g _ _ e) d U U vL (λj T hj=>by simp at hj) λh' i c ts Z g3 e3 Y X f3=>?_⟩
 exact⟨U,h h' i c ts (λb o b1 b2 b3 b4 e=>Z b o (zc (GG.lt_size e)) (yv (GG.lt_size e)) b1 b2 b3 b4 (g b o e)) g3 e3 Y X f3⟩
set_option maxRecDepth 100000
theorem bH:∀{l L:List Int},l.Nodup->(∀x∈l,x∈L)->l.length<=L.length
 | [],_,_,_=>yY _
 |x :: l,L,hn,hs=>by
  obtain⟨f,d⟩:=nt.mp hn;have b:=hs x ff;have c:=bH (L:=L.erase x) d λy a=>(List.mem_erase_of_ne (λ(e:y=x)=>f (e ▸ a))).mpr (hs y (iO _ a))
  rw[List.length_erase_of_mem b]at c;have:0<L.length:=List.length_pos_of_mem b;rw[iK];lia
theorem uj:∀{vs:List Gf},(∀v∈vs,∃u,v=.int (kq v) u)->IntsAre vs (vs.map kq)
 | [],_=>.nil
 |v :: vs,h=>by
  obtain⟨u,e⟩:=h v ff;rw[e];exact .cons _ u (uj λx a=>h x (iO _ a))
theorem oO:∀{vs:List Gf}{a:List Int},IntsAre vs a->Vals (a.map V.int) vs
 |_,_,.nil=>.nil
 |_,_,.cons n t r=>.cons ⟨t,U⟩ (oO r)
theorem gY:∀{a:List Int},a.Pairwise (· <= ·)->a.Nodup->a.Pairwise (· < ·)
 | [],_,_=>.nil
 |n :: a,h1,h2=>by
  obtain⟨f,d⟩:=ri.mp h1;obtain⟨c,b2⟩:=nt.mp h2;refine .cons (λm b=>?_) (gY d b2);have:=f m b;have:n≠m:=λe=>c (e ▸ b)
  lia
theorem sL{a:GD}{ks:List Int}{m:Nat}{Q:Gf->GP->Prop}(P:A.handled=Kc)(Y:dH s.heap a (!dM w) ks m)(hm:m<64)
  (h:∀(p:List Int)(vs:List Gf)(s':GP)(D:GD)(c:Nat),Vals (p.map V.int) vs->p.Pairwise (· < ·)->(∀k,k∈p↔k∈ks)->s.heap.objs.size<=D->(∀b u,s.heap.get? b=Kb u->s'.heap.get? b=Kb u)->s'.heap.get? D=Kb (seqObj "list" vs.toArray c)->s'.gens=s.gens->s'.os=s.os->p.length=m->Q (.ref D) s') :
  GU (model prog w) A (call (.builtin "sorted") [.ref a]) Q E s:=by
 obtain⟨o,es,ep,t,M,H,W,y,r,S,X,O,N⟩:=Y;refine Calls.call_function_entry kind_sorted plain_sorted entry_sorted (args_sorted1 _) ?_;unfold Hw.«sorted»;refine DN (m:=checkCount "sorted" 1 1 _) (D0 ?_);refine DN (qJ (by simp[P]) M H W r S X O λord d x J R F C=>?_);have l:ord.length=m:=by rw[x.length_eq,bx,CQ,N]
 have n:∀v∈ord,∃u,v=.int (kq v) u:=λv L=>by
  obtain⟨e,T,rfl⟩:=en.mp (x.mem_iff.mp L);exact(y.ent e T).2
 have Z:=uj n;have I:(ord.map kq).Perm (es.toList.map λe=>kq e.2):=by
  have:=x.map kq;rw[List.map_map]at this;exact this
 refine DN (wpAny_newList ?_ (by rw[HE];lia));have f:(d.heap.push (seqObj "list" ord.toArray 0)).get? d.heap.objs.size=Kb (seqObj "list" ord.toArray 0):=GG.get?_push_size _ U;have keep:∀b u,s.heap.get? b=Kb u->(d.heap.push (seqObj "list" ord.toArray 0)).get? b=Kb u:=λb u q=>GG.get?_push_of_some _ (J b u q)
 show GU _ _ _ _ _ { d with heap:=d.heap.push (seqObj "list" ord.toArray 0) };refine DN (EX (Jn slot_list_sort ⟨_,f,U⟩ entry_list_sort ?body (args_list_sort _)))
 case body =>
  refine list_sort_tree (s:={ d with heap:=d.heap.push (seqObj "list" ord.toArray 0) }) f Z (by lia) λout i a1 B a3=>⟨_,U,D0 ⟨_,U,?_⟩⟩
  have nd:i.Nodup:=B.nodup_iff.mpr (I.nodup_iff.mpr y.nd);have j:d.heap.objs.size<(d.heap.push (seqObj "list" ord.toArray 0)).objs.size:=GG.lt_size f;obtain⟨z,G⟩:∃z,((d.heap.push (seqObj "list" ord.toArray 0)).update d.heap.objs.size (Obj.mapSeq λ_=>#[])).get? d.heap.objs.size=Kb (seqObj "list" #[] z):=⟨_,get?_update_seq f (λ_=>#[])⟩;have K:∀b,b<(d.heap.push (seqObj "list" ord.toArray 0)).objs.size->((((d.heap.push (seqObj "list" ord.toArray 0)).update d.heap.objs.size (Obj.mapSeq λ_=>#[])).push (seqObj "tuple" ord.toArray 0)).push (seqObj "list" #[] 0)).get? b=((d.heap.push (seqObj "list" ord.toArray 0)).update d.heap.objs.size (Obj.mapSeq λ_=>#[])).get? b:=λb r=>by
   rw[GG.get?_push_ne _ _ _ (by rw[size_push',GG.size_update];exact yv (zc r)),GG.get?_push_ne _ _ _ (by rw[GG.size_update];exact yv r)]
  have e6:((((d.heap.push (seqObj "list" ord.toArray 0)).update d.heap.objs.size (Obj.mapSeq λ_=>#[])).push (seqObj "tuple" ord.toArray 0)).push (seqObj "list" #[] 0)).get? d.heap.objs.size=Kb (seqObj "list" #[] z):=by rw[K _ j];exact G
  have sz:s.heap.objs.size<=d.heap.objs.size:=zf C;refine h i out.toList { d with heap:=sortedHeap (d.heap.push (seqObj "list" ord.toArray 0)) d.heap.objs.size ord out } d.heap.objs.size _ (oO a1) (gY a3 nd) (λk=>(B.mem_iff).trans ((I.mem_iff).trans (y.mem k).symm)) sz (λb u q=>?_) (get?_update_seq e6 (λ_=>out)) R F ?_
  .have g:b<d.heap.objs.size:=GG.lt_size (J b u q);show(GG.update _ _ _).get? b=Kb u;rw[GG.get?_update_ne _ _ _ _ (yv g),K _ (Nat.lt_trans g j),GG.get?_update_ne _ _ _ _ (yv g)];exact keep b u q
  .rw[B.length_eq,bx,l]
variable{H':Hp}
theorem Inv.grow{s':GP}(I:Inv X Kg σ H s)(k:∀b o,s.heap.get? b=Kb o->s'.heap.get? b=Kb o)(l:s'.gens=s.gens)(d:s'.os=s.os)(a:∀b,b<s.heap.objs.size->H' b=H b)
  (t:∀b u,s.heap.objs.size<=b->H' b=Kb u->cQ X.prog X.w H' s'.heap b u):Inv X Kg σ H' s':=by
 obtain⟨h',g',d',t',h⟩:=s';obtain rfl:g'=s.gens:=l;obtain rfl:h=s.os:=d;have lt:∀{b u},H b=Kb u->b<s.heap.objs.size:=λ{b u} e=>by
  rcases BH b s.heap.objs.size with z|z
  .exact z
  .rw[I.hok.fresh z]at e;cases e
 have same:∀{b u},H b=Kb u->H' b=Kb u:=λe=>by rw[a _ (lt e)];exact e
 exact I.step (h':=h') (g':=s.gens) (d':=d') (t':=t') (ch:=[]) (λ_ z=>nomatch z) (λb o _ _ _ e _=>k b o e) (λb o _ _ _ e _=>⟨o.slots,k b o e⟩)
  (λb o _ e n=>by rw[a _ (GG.lt_size e)];exact n) (λb o _ e=>⟨o,k b o e⟩) (λb f e=>same e) (λb o u e=>same e) (λb ps e=>⟨#[],by rw[same e];simp⟩)
  (λm j=>by
   obtain⟨o,es,p,i,r⟩:=j;exact⟨o,es,p,k _ o i,r⟩)
  (λb u e=>by
   rcases BH b s.heap.objs.size with z|z
   .rw[a _ z]at e;exact(I.hok b u e).stay (λc g _ q=>k c g q) (λc q=>same q) λc f q=>same q
   .exact t b u z e)
  I.bare
def sM(w:Gn)(a:GD)(zs:List Int):HO:=.ext λh=>∃m,dH h a (!dM w) zs m
theorem mf:∀{zs:List Int}{us:List Gf},Vals (zs.map V.int) us->∀(i:Nat)(v:Gf),us[i]?=Kb v->∃z t,zs[i]?=Kb z/\v=.int z t
 | [],_,.nil,i,v,h=>by simp at h
 |z :: zs,_,.cons ⟨t,e⟩ r,0,v,h=>by simp at h;exact⟨z,t,U,by rw[←h,e]⟩
 |z :: zs,_,.cons _ r,i+1,v,h=>by
  obtain⟨a,t,c,b⟩:=mf r i v (by simpa using h);exact⟨a,t,by simpa using c,b⟩
theorem oP{w:Gn}(A:X.w=w)(B:X.calm=Kd):dn X (.type "set") (λxs H Q=>∃(p:GD)(zs:List Int),xs=[.ref p]/\SqL X.K H p (zs.map V.int)/\zs.length<=1000/\∀l,H l=Kc->Q (.ref l) (upd H l (sM w l zs))):=by
 subst A;intro Kg s σ H xs E Q I r h;obtain⟨p,zs,rfl,C,F,q⟩:=h;obtain⟨u,rfl,j⟩:=r.one;obtain rfl:u=Gf.ref p:=j;obtain⟨D,c,n,_⟩:=I.list C;have d:=c.length;rw[bx]at d;refine uU (ks:=zs) (I.ok.hd B) n.isList (λi v e=>?_) (by simpa using d) (by unfold IH;simp;lia) λh' f m x G z=>?_
 .exact mf c i v (by simpa using e)
 .refine⟨.ref s.heap.objs.size,_,I.laid (a:=s.heap.objs.size) (o:=sM X.w s.heap.objs.size zs) (h':=h') (t':=f) (λb o q=>z b o (GG.lt_size q) q) (yr _) ?_,U,q _ I.fresh⟩;refine⟨⟨m,x⟩,?_,λL J ⟨t,y⟩ k=>⟨t,y.stay k⟩⟩;obtain⟨o,_,_,_,g,_⟩:=x;exact⟨o,g⟩
theorem fR{w:Gn}(n:X.w=w)(B:X.calm=Kd):dn X (.builtin "sorted") (λus H Q=>∃(a:GD)(zs L:List Int),us=[.ref a]/\H a=Kb (sM w a zs)/\L.length<64/\(∀k∈zs,k∈L) /\
  ∀(D:GD)(d:List Int),H D=Kc->d.Pairwise (· < ·)->(∀k,k∈d↔k∈zs)->Q (.ref D) (upd H D (.lst (d.map V.int)))):=by
 subst n;intro Kg s σ H us O Q I r h;obtain⟨a,zs,L,rfl,e,R,p,q⟩:=h;obtain⟨u,rfl,l⟩:=r.one;obtain rfl:u=Gf.ref a:=l;obtain⟨⟨m,x⟩,_,_⟩:=I.hok a _ e;have y:m<64:=by
  obtain⟨o,es,S,t,_,_,_,i,_,_,_,_,v⟩:=id x;have:=bH (L:=L) i.nd λk A=>p k ((i.mem k).mpr A)
  rw[bx,CQ,v]at this;lia
 refine sL (I.ok.hd B) x y λd us P D c N M K j J G F E T=>?_
 have C:H D=none:=I.hok.fresh j;refine⟨.ref D,upd H D (.lst (d.map V.int)),I.grow J F E (λb g=>by rw[ay (yv (yU g j))]) (λb u g f=>?_),U,q D d C M K⟩;by_cases z:b=D
 .subst z;rw[ab]at f;cases f;exact⟨by rw[bx,HE];lia,us,c,N,G⟩
 .rw[ay z,I.hok.fresh g]at f;cases f
inductive BS(K:W.Frag)(Q:VK)(vs:List V)(H1:Hp):Prop
 |mk (a b xs ys:_)(_:vs=[.ref a,.ref b])(_:SqL K H1 a xs)(_:SqL K H1 b ys)(_:∀(D:GD)(ts:List GD)(H2:Hp),ts.length=min xs.length ys.length->(∀c o,H1 c=Kb o->H2 c=Kb o)->H1 D=Kc->H2 D=Kb (.lst (ts.map V.ref)) ->
  (∀(j:Nat)(x y:V),xs[j]?=Kb x->ys[j]?=Kb y->∃T,ts[j]?=Kb T/\H1 T=Kc/\H2 T=Kb (.tup [x,y]))->Q (.ref D) H2):BS K Q vs H1
def tLZ(K:W.Frag)(b:TA):TE:=λσ H Q=>b σ H λa c=>BS K Q a c
theorem ltA{c n:Nat}(h:c<n)(k:Nat):c≠n+k:=yv (yU h (zh _ _))
def gZ(xs ys:List V)(ts:List GD)(b:GD):Option HO :=
 match ts.idxOf? b with
 |some j=>match xs[j]?,ys[j]? with
  |some x,Kb y=>Kb (.tup [x,y])
  |_,_=>Kc
 |none=>Kc
theorem sN{J C:GW}{ta:TA}{p1 p2 wG Z:Pos}(a6:X.calm=Kd)(hg:Gl X "list") (hm:X.mg "list" = Kc) (a5:Gl X "zip") (a4:X.mg "zip" = Kc) (ha:PA X [J,C] ta)
  (hs:GZ [J,C] X.env=[(Ke,eval J X.env),(Ke,eval C X.env)]:=by rfl)(M:GZ [C] X.env=[(Ke,eval C X.env)]:=by rfl) :
  PE X (.Call (.Name "list" p1) [.Call (.Name "zip" p2) [J,C] [] Z] [] wG) (tLZ X.K ta):=by
 intro Kg s σ H Q I h;refine F8 (eP I hg hm PyProof.Rows.boot_list ?_);refine PyProof.Rows.callWith_type1 ?_ U U;show GU _ _ (spliced ((Ke,eval (.Call (.Name "zip" p2) [J,C] [] Z) X.env) :: GY wG (GZ [] X.env))) _ _ s;refine Calls.spliced_cons ?_;refine F8 (eP I a5 a4 PyProof.Rows.boot_zip ?_);refine PyProof.Rows.callWith_type1 (thn (ha Z Kg s σ H _ I h) λus f ⟨vs,S,B,r1,q1⟩=>?_) (by rw[hs,M]) (by rw[M];rfl);obtain⟨a,b,p,n,rfl,qa,qb,q⟩:=q1;obtain⟨u,v,rfl,ru,rv⟩:=r1.two;cases (show u=Gf.ref a from ru);cases (show v=Gf.ref b from rv);obtain⟨us,vu,pu,zu⟩:=B.list qa;obtain⟨vs,vv,pv,zv⟩:=B.list qb;obtain⟨oa,ea,_⟩:=id pu.isList;obtain⟨ob,eb,_⟩:=id pv.isList;have la:a<f.heap.objs.size:=GG.lt_size ea;have lb:b<f.heap.objs.size:=GG.lt_size eb;have l1:=vu.length;have l2:=vv.length;refine call_zip_2 pu.isList pv.isList λh' z1 z2 z3 z4 z5 z6 Y=>?_
 refine Calls.spliced_nil ?_;have D:JM (f.heap.objs.size+4) (f.heap.objs.size+2) (f.heap.objs.size+3) f.heap.objs.size (f.heap.objs.size+1) a b:=by
  refine⟨?_,?_,?_,?_,?_,?_,?_,?_,?_,?_,?_,?_,?_,?_,?_,?_,?_,?_⟩ <;> first|exact yv (by lia)|exact zb (by lia)|exact yv la|exact yv lb|exact yv (yU la (zh _ _))|exact yv (yU lb (zh _ _))
 refine nM (s:={ f with heap:=h' }) (B.ok.hd a6) D z1 z2 z3 z4 z5 (pu.isList.at λo e=>Y _ _ e) (pv.isList.at λo e=>Y _ _ e) (by simp;lia) λh2 b0 c d k3 g3 e3 n3 nd R=>?_
 have a3:GP.heap { f with heap:=h' }=h':=rfl;rw[a3]at g3 R k3;rw[z6]at g3 R;have kp:∀c o,f.heap.get? c=Kb o->h2.get? c=Kb o:=λc o e=>by
  have:=GG.lt_size e;exact k3 c o (ltA this _) (ltA this _) (yv this) (ltA this _) (Y c o e)
 have N:d.length=min p.length n.length:=by rw[n3];simp;lia
 have F:∀(j:Nat)(T:GD),d[j]?=Kb T->d.idxOf? T=Kb j:=λj T w=>by
  obtain⟨G,ej⟩:=Gz.mp w;rw[List.idxOf?,List.findIdx?_eq_some_iff_getElem];refine⟨G,by simp[ej],λi hi=>?_⟩;have:d[i]≠d[j]:=λq=>by
   have:=(xZ nd).mp q;lia
  simpa[←ej]using this
 have L:∀(T:GD)(j:Nat),d.idxOf? T=Kb j->d[j]?=Kb T:=λT j w=>by
  rw[List.idxOf?,List.findIdx?_eq_some_iff_getElem]at w;obtain⟨G,e,_⟩:=w;rw[Gy G];simpa using e
 have E:∀(T:GD)(j:Nat),d.idxOf? T=Kb j->f.heap.objs.size+6<=T:=λT j w=>by
  obtain⟨a1,_⟩:=R j T (L T j w);lia
 show EP X Kg σ Q _ _;rw[show(GP.heap { f with heap:=h' }).objs.size=f.heap.objs.size+5 from z6];generalize m:(λ(b:GD)=>if b=f.heap.objs.size+5 then Kb (HO.lst (d.map V.ref))else match gZ p n d b with|some o=>Kb o|none=>S b)=H2;have hD:H2 (f.heap.objs.size+5)=Kb (.lst (d.map V.ref)):=by rw[←m];exact Kj U
 have hO:∀c,c<f.heap.objs.size->H2 c=S c:=λc hc=>by
  rw[←m];show(if c=f.heap.objs.size+5 then _ else _)=_;rw[Ki (ltA hc 5)];have:gZ p n d c=none:=by
   unfold gZ;cases e:d.idxOf? c with
   |none=>rfl
   |some j=>exact Kk (yU hc (yW (zh _ 6) (E c j e))) (ze _)
  rw[this]
 have hT:∀(j:Nat)(x y:V)(T:GD),p[j]?=Kb x->n[j]?=Kb y->d[j]?=Kb T->H2 T=Kb (.tup [x,y]):=λj x y T l A g=>by
  have:=E T j (F j T g);rw[←m];show(if T=f.heap.objs.size+5 then _ else _)=_;rw[Ki (zb (yU (zg _) this))];have:gZ p n d T=Kb (.tup [x,y]):=by unfold gZ;rw[F j T g];dsimp only;rw[l,A]
  rw[this]
 refine⟨.ref (f.heap.objs.size+5),H2,B.grow (s':={ f with heap:=h2 }) kp U U hO (λb u hb k=>?_),U,q _ d H2 N (λc o e=>?_) (B.hok.fresh (zh _ _)) hD λj x y l A=>?_⟩
 .rw[←m]at k;replace k:(if b=f.heap.objs.size+5 then Kb (HO.lst (d.map V.ref))else match gZ p n d b with|some o=>Kb o|none=>S b)=Kb u:=k
  by_cases W:b=f.heap.objs.size+5
  .rw[Kj W]at k;cases k;subst W;have rv:∀d:List GD,Vals (d.map V.ref) (d.map Gf.ref):=λd=>by
    induction d with
    |nil=>exact .nil
    |cons t r ih=>exact .cons U ih
   refine⟨by rw[bx,N];lia,d.map Gf.ref,c,rv d,?_⟩;rw[←e3];exact g3
  .rw[Ki W]at k;cases g:gZ p n d b with
   |none=>rw[g]at k;replace k:S b=Kb u:=k;rw[B.hok.fresh hb]at k;cases k
   |some o =>
    rw[g]at k;cases k;unfold gZ at g;cases ei:d.idxOf? b with
    |none=>rw[ei]at g;cases g
    |some j =>
     rw[ei]at g;dsimp only at g;cases l:p[j]? with
     |none=>rw[l]at g;cases g
     |some x =>
      cases A:n[j]? with
      |none=>rw[l,A]at g;cases g
      |some y =>
       rw[l,A]at g;cases g;obtain⟨_,x',y',fx,fy,gp⟩:=R j b (L b j ei);obtain⟨u1,a8,a2⟩:=vu.get l;obtain⟨v1,a7,a0⟩:=vv.get A;have P:us[j]?=Kb x':=by simpa using fx
       have O:vs[j]?=Kb y':=by simpa using fy
       rw[a8]at P;rw[a7]at O;cases P;cases O;exact⟨by show 2<=GH;decide,[x',y'],.cons a2 (.cons a0 .nil),_,gp,U,_,U⟩
 .have:c<f.heap.objs.size:=by
   rcases BH c f.heap.objs.size with z|z
   .exact z
   .rw[B.hok.fresh z]at e;cases e
  rw[hO c this];exact e
 .have w:j<d.length:=by
   obtain⟨h1,_⟩:=Gz.mp l;obtain⟨a9,_⟩:=Gz.mp A;lia
  have g:d[j]?=Kb d[j]:=Gy w;exact⟨d[j],g,B.hok.fresh (yW (zh _ 6) (E _ j (F j _ g))),hT j x y _ l A g⟩
def Ite(K:W.Frag)(a:GD):It :=
 ⟨λi H=>∃b x,SqL K H a b/\b[i]?=Kb x,
 λi H v H'=>∃T,H T=Kc/\v=.ref T/\∀b x,SqL K H a b->b[i]?=Kb x->H'=upd H T (.tup [.int i,x]),
 λi H=>∃b,SqL K H a b/\b.length<=i⟩
def wH(e it a:GD)(i:Nat)(h:GG):Prop:=(∃b,IsEnum h e it i b)/\h.IsListIter it a i
theorem uZ{P:GC}{w:Gn}{K:W.Frag}{n:List GW} {x1} {tp:Pos}{e it a:GD}(m:e≠it) :
  Turn P w K (.Tuple n x1 tp) (Ite K a) [e,it] e (wH e it a) where
 mem:=by simp
 obj:=λi h d c b=>by
  obtain⟨⟨f,l⟩,⟨Y,j,_,d2⟩⟩:=d;simp only[dt,jw,or_false]at b;rcases b with rfl|rfl
  .exact⟨_,l,λv q=>nomatch q⟩
  .exact⟨_,j,λv q=>by rw[d2]at q;cases q⟩
 keep:=λi h h' d k=>by
  obtain⟨⟨f,l⟩,j⟩:=d;exact⟨⟨f,k e (by simp) _ l⟩,j.at λo q=>k it (by simp) o q⟩
 item:=by
  intro X C A D b i Kg s σ H E I r d B;subst C A D;obtain⟨Q,x,p,N⟩:=B;obtain⟨⟨f,l⟩,j⟩:=d;obtain⟨R,t,z,_⟩:=I.list p;obtain⟨u,eu,S⟩:=t.get N;refine wpAny_pyNext_enum_item l j z.isList (x:=u) (by simpa using eu) m λh1 a1 a2 a3 a4 a5=>?_
  refine⟨_,U,wpAny_letOwnedTupleGo_enum (s:={ s with heap:=h1,toks:=s.toks+1 }) a1 λF b1 b2=>?_⟩;have Z:s.heap.get? s.heap.objs.size=none:=by
   cases q:s.heap.get? s.heap.objs.size with
   |none=>rfl
   |some o=>exact Kk (GG.lt_size q) (ze _)
  have M:H s.heap.objs.size=none:=I.hok.fresh (yr _);have L:s.heap.objs.size≠e:=zb (GG.lt_size l);have kk:∀c o,c ∉ [e,it]->s.heap.get? c=Kb o->F.get? c=Kb o:=λc o b q=>by
   simp only[dt,jw,or_false,not_or]at b;exact b2.extBut _ _ b.1 (a5 c o b.1 b.2 q)
  have J:=I.turnedPair (h':=F) (ch:=[e,it]) (T:=s.heap.objs.size) (x:=.int i) (y:=x) (u:=.int i s.toks) (v:=u) (λc b=>r c (by simp at b⊢;rcases b with q|q <;> simp[q])) kk Z M (b2.extBut _ _ L a3) ⟨_,U⟩ S;refine⟨.ref s.heap.objs.size,upd H s.heap.objs.size (.tup [.int i,x]),J.tok _,U,⟨_,M,U,λa0 x' V O=>?_⟩,⟨⟨_,b1⟩,a2.extBut b2.extBut m.symm⟩,λc b=>?_⟩
  .rw[I.list_inj V p,N]at O;cases O;rfl
  .have h0:=(r c b).1;have:c≠s.heap.objs.size:=by
    obtain⟨Y,G,_⟩:=j;simp only[dt,jw,or_false]at b;rcases b with rfl|rfl
    .exact L.symm
    .exact yv (GG.lt_size G)
   rw[ay this];exact h0
 done:=by
  intro X C A D b i Kg s σ H E I r d B;subst C A D;obtain⟨Q,p,hl⟩:=B;obtain⟨⟨f,l⟩,j⟩:=d;obtain⟨R,t,z,_⟩:=I.list p;have l1:=t.length;refine wpAny_pyNext_enum_end (I.ok.hd b) l j z.isList (by simp;lia) λF k=>⟨U,I.turnedL (ch:=[e,it]) (λc b=>r c (by simp at b⊢;rcases b with q|q <;> simp[q])) λc o b q=>?_⟩
  simp only[dt,jw,or_false,not_or]at b;exact k c o b.2 q
 self:=λ_ _ _ _ _ d h=>let ⟨⟨_,g⟩,_⟩:=d;JV g h
inductive wI(K:W.Frag)(R:It->Hp->Prop)(vs:List V)(H1:Hp):Prop
 |mk (a:_)(_:vs=[.ref a])(_:(∃xs,SqL K H1 a xs))(_:R (Ite K a) H1)
def BU(K:W.Frag)(b:TA):TI:=λσ H R=>b σ H λa c=>wI K R a c
theorem yy{f:GW}{i:TA}{p pos:Pos}{e:List GW} {x1} {tp:Pos}(x:Gl X "enumerate") (hm:X.mg "enumerate" = Kc) (y:PA X [f] i)
  (w:GZ [f] X.env=[(Ke,eval f X.env)]:=by rfl) :
  PI X (.Tuple e x1 tp) (.Call (.Name "enumerate" p) [f] [] pos) (BU X.K i):=by
 intro Kg s σ H R I h;refine Call_ (eP I x hm PyProof.Rows.boot_enumerate (PyProof.Rows.callWith_type1 (thn (y pos Kg s σ H _ I h) λm b ⟨C,z,g,o,t⟩=>?_) (by rw[w];rfl) U));obtain⟨a,rfl,⟨B,r⟩,q⟩:=t;obtain⟨u,rfl,n⟩:=o.one;cases (show u=Gf.ref a from n);obtain⟨m,_,v,_⟩:=g.list r;refine call_enumerate_list v.isList λh' z1 l A k=>?_
 refine JV (s:={ b with heap:=h' }) z1 ?_;refine⟨b.heap.objs.size+1,[b.heap.objs.size+1,b.heap.objs.size],wH (b.heap.objs.size+1) b.heap.objs.size a,Ite X.K a,z,U,g.kept (t':=b.toks) k,uZ (zb (zg _)),⟨⟨_,z1⟩,l⟩,λc j=>?_,q⟩;have d:b.heap.objs.size<=c:=by
  simp only[dt,jw,or_false]at j;rcases j with rfl|rfl
  .exact zd _
  .exact yr _
 exact g.fpOk d (g.hok.fresh d)
variable{gt:TG}{fr:List Nat}{tt:TT}{te:TE}
theorem sP{K:W.Frag}{a:GD}{xs:List V}{σ:St}{f:Hp}{Q:VK}(c:GD->Nat->List V->Hp->Prop)(t:∀D,f D=Kc->c D 0 [] (upd f D (.lst [])))
  (r:∀D i ys H,f D=Kc->i<=xs.length->c D i ys H->SqL K H a xs)
  (o:∀D i x ys H T,f D=Kc->xs[i]?=Kb x->c D i ys H->H T=Kc->∀ts:St,ts.length=k->gt (.ref T) (bG σ fr ts) (upd H T (.tup [.int i,x])) λd u=>(∃g:St,g.length=k/\d=bG σ fr g)/\tt d u λb n=>if b=Kd then te d n (cB c D i xs.length)else dG c D i xs.length n)
  (hd:∀D ys H,f D=Kc->c D xs.length ys H->Q (.ref D) H):fm (Ite K a) gt k fr tt te σ Q f:=by
 intro D h;refine⟨λi m H=>m=xs.length-i/\i<=xs.length/\∃ys,c D i ys H,⟨_,U,yY _,[],t D h⟩,?_⟩;rintro i m H ⟨rfl,hi,ys,p⟩;have q:=r D i ys H h hi p;by_cases l:i<xs.length
 .have j:xs[i]?=Kb xs[i]:=Gy l;refine .inr ⟨⟨xs,xs[i],q,j⟩,λx H' y=>?_⟩;obtain⟨T,s,rfl,e⟩:=y;rw[e xs _ q j];exact o D i _ ys _ T h j p s
 .have e:i=xs.length:=by lia
  subst e;exact .inl ⟨⟨xs,q,yr _⟩,hd D ys H h p⟩
theorem u7{K:W.Frag}{a b:GD}{xs ys:List V}{σ:St}{f:Hp}{Q:VK}(c:GD->Nat->List V->Hp->Prop)(u:∀D,f D=Kc->c D 0 [] (upd f D (.lst [])))
  (s:∀D i zs H,f D=Kc->i<=min xs.length ys.length->c D i zs H->SqL K H a xs/\SqL K H b ys)
  (r:∀D i x y zs H T,f D=Kc->xs[i]?=Kb x->ys[i]?=Kb y->c D i zs H->H T=Kc->∀ts:St,ts.length=k->gt (.ref T) (bG σ fr ts) (upd H T (.tup [x,y])) λd v=>(∃g:St,g.length=k/\d=bG σ fr g)/\tt d v λb q=>if b=Kd then te d q (cB c D i (min xs.length ys.length))else dG c D i (min xs.length ys.length) q)
  (hd:∀D zs H,f D=Kc->c D (min xs.length ys.length) zs H->Q (.ref D) H):fm (Itz K a b) gt k fr tt te σ Q f:=by
 intro D h;refine⟨λi m H=>m=min xs.length ys.length-i/\i<=min xs.length ys.length/\∃zs,c D i zs H,⟨_,U,yY _,[],u D h⟩,?_⟩;rintro i m H ⟨rfl,hi,zs,p⟩;obtain⟨l,j⟩:=s D i zs H h hi p;by_cases w:i<min xs.length ys.length
 .have o:xs[i]?=Kb xs[i]:=Gy (by lia);have n:ys[i]?=Kb ys[i]:=Gy (by lia);refine .inr ⟨⟨xs,ys,xs[i],ys[i],l,j,o,n⟩,λx H' y=>?_⟩;obtain⟨T,t,rfl,e⟩:=y;rw[e xs ys _ _ l j o n];exact r D i _ _ zs _ T h o n p t
 .have e:i=min xs.length ys.length:=by lia
  subst e;exact .inl ⟨⟨xs,ys,l,j,by lia⟩,hd D zs H h p⟩
theorem dW{X:Cx}{N:List Str}{k:Nat}{fr:List Nat}{scope:GQ}{cl:List (Str×GD)}(clos:Ir scope X.env=pure cl)(kind:scope.kind=.function)(a:∀y∈scope.names,y.2≠.cell)
  (names:∀y∈scope.names,y.2=.local->scope.names.lookup y.1=Kb .local)(b:N.length=k+fr.length)
  (sub:((List.range fr.length).all λi=>match N[k+i]?,fr[i]? with|some y,Kb j=>(X.N[j]? == Kb y) && ((X.env.kindOf y == Kb .cell) && ((relabel scope X.env).names.lookup y == Kb .cell))|_,_=>Ke)=Kd)
  (cells:∀p∈cl,X.env.cells.lookup p.1=Kb p.2)(d:((relabel scope X.env).names.all λp=>(p.2 != .cell && p.2 != .free) || (cl.lookup p.1).isSome)=Kd):lS X N k fr scope cl:=by
 refine⟨clos,kind,a,names,b,λi y e=>?_,λy c e=>cells _ (mem_of_lookup e),λy h=>?_⟩
 .have hi:i<fr.length:=by have:=(Gz.mp e).1;lia
  have z:=jt.mp sub i (ju.mpr hi);rw[e,Gy hi]at z;simp only[BO,beq_iff_eq]at z;exact⟨_,Gy hi,z.1,.inl z.2.1,.inl z.2.2⟩
 .have look:∀k,(relabel scope X.env).names.lookup y=Kb k->(k=.cell\/k=.free)->∃c,cl.lookup y=Kb c:=λk e f=>by
   have z:=jt.mp d _ (mem_of_lookup e);rcases f with rfl|rfl
   .exact DL.mp (by simpa using z)
   .exact DL.mp (by simpa using z)
  rcases h with h|h
  .exact look _ h (.inl U)
  .exact look _ h (.inr U)
theorem u9{K:W.Frag}(f:X.K=K){a:GW}{c:TE}(e:PE X a c)(d:∀b,GX a X.env b=(do let v ←b;He a.pos;holding [v] (truthy v)):=by intro _;rfl) :
  PT X a (λσ H Q=>c σ H λx H'=>∃k,Ad K x H' k/\Q k H'):=f ▸ du e d
section
variable{elt iter tg:GW}{ifs:List GW}{cl:List (Str×GD)}
theorem wJ{x:TI}{i:Nat}{y:Str}{c B:Pos}(hN:X.N.Nodup)(E:X.N[i]?=Kb y)(R:Loc X.env.scope y)(hi:PI X tg iter x)(O:lS X N k fr scope cl)(Y:X.calm=Kd)(S:∀d C s H,PG (bA X N scope cl d C s H) tg gt)
  (F:∀d C s H,PIf (bA X N scope cl d C s H) ifs tt)(W:∀d C s H,PE (bA X N scope cl d C s H) elt te)(G:∀v,Hy iter X.env v=pure v:=by intro _;rfl)
  (n:Hi (.ListComp elt [⟨tg,iter,ifs,0⟩] scope pos) (Kb (.Name y c)) B.line X.env=pure true:=by rfl)(V:X.fn y=Kd\/X.env.scope.names.lookup y=Kb .local:=by first|exact .inl U|exact .inr U|assumption) :
  PS X (.Assign [.Name y c] (.ListComp elt [⟨tg,iter,ifs,0⟩] scope pos) B) (vS (sf x gt k fr tt te) (kK i)):=by
 intro Kg s σ H j I h;rw[IE _ _ _ _ n];refine DN (Hm (DN ?_));show GU _ X.A (do let _ ←comprehension (.ListComp elt [⟨tg,iter,ifs,0⟩] scope pos) scope X.env _ (Iv []) Ke (eval iter X.env) (Kb (assign (.Name y c) X.env))) _ _ s;refine DN (G6 (IC (use:=Kb (assign (.Name y c) X.env)) (Q:=λ_ b=>SP X Kg j .next b) U G O.clos O.kind O.names (thn (hi Kg s σ H _ I h) λv s1 h1=>thn h1 λa0 s2 h2=>?_)) (λ_ b K=>D0 (D0 K)) λ_ _ z=>z);obtain⟨it,d,tn,J,H2,e,f,T,l,f2,hW⟩:=h2;subst e;refine lT (Q:=λv H1=>kK i v σ H1 j.nx) (RR:=λu C=>ID (model X.prog X.w) X.A X.xe (Kb (assign (.Name y c) X.env)) (λ_ b=>SP X Kg j .next b) u C) O Y f T l f2 F W S hW λD C b H' g M ⟨m,P⟩ I' q=>?_
 show GU _ X.A (assign (.Name y c) X.env (.ref D)) _ _ b;refine Hl (iC I' hN E R (v:=.ref D) U (λs3 I3 ⟨a,p,Z⟩=>?_) V);have t:C≠a:=by
  rcases Z with z|z
  .rw[z];exact zb (yU f.lt g)
  .obtain⟨v,o,L,_⟩:=f.cell y a z;exact zb (yU (GG.lt_size L) g)
 exact⟨m,P.sameBut p t,λh' r=>⟨_,H',f.left I3 g M r,q⟩⟩
end
set_option maxRecDepth 100000
theorem Ax:PIp X .Mult (λx y H Q=>∃i j,x=.int i/\y=.int j/\IntMulOk i j/\Q (.int (i*j)) H):=by
 intro Kg s σ H x y v u Q I b a h;obtain⟨i,j,e,d,c,q⟩:=h;subst e;subst d;obtain⟨t,rfl⟩:=b;obtain⟨f,rfl⟩:=a;exact PyProof.Rows.imul_int ⟨.int _,H,I.tok _,⟨_,U⟩,q⟩ c
set_option maxRecDepth 100000
theorem vb:Ie (.type "list_reverseiterator") "__len__" = pure none:=by rw[Jd,Je];kernel_rfl
theorem wK:Ie (.type "list_reverseiterator") "__length_hint__" = pure (Kb (.builtin "list_reverseiterator.__length_hint__")):=by rw[Jd,Je];kernel_rfl
theorem nN{l I:GD}{items:Array Gf}{Q:Gf->GP->Prop}(S:A.handled=Kc)(B:l≠I)(h:s.heap.IsRevIter I l ((items.size:Int)-1))(J:s.heap.IsList l items)(R:items.size<=GH)
  (V:∀(h':GG)(G:Nat)(m:Array Gf)(c:Nat),s.toks<=G->(∀b o,b≠I->s.heap.get? b=Kb o->h'.get? b=Kb o)->h'.get? s.heap.objs.size=Kb { cls:=.type "list",dict:=Kc,data:=.seq m c,slots:=#[] } ->
   m.size=items.size->(∀(j:Nat) v,m[j]?=Kb v->items[items.size-1-j]?=Kb v)->∀d,d=s.drawn->Q (.ref s.heap.objs.size) { s with heap:=h',toks:=G,drawn:=d }) :
  GU (model prog w) A (call (.type "list") [.ref I]) Q E s:=by
 have W:=(Hu.listRev (prog:=prog) (w:=w) (A:=A.in1.in1) (by simp[S]) I l B items).toS;have H:I<s.heap.objs.size:=let ⟨_,e,_⟩:=h;GG.lt_size e;have P:l<s.heap.objs.size:=let ⟨_,e,_⟩:=J;GG.lt_size e;have C:s.heap.objs.size ∉ [I,l]:=λf=>by
  rcases dt.mp f with e|f
  .exact ze _ (e ▸ H)
  .exact ze _ ((hZ.mp f) ▸ P)
 refine JT (Q₁:=λp g=>p=.ref s.heap.objs.size/\g={ s with heap:=s.heap.push { cls:=.type "list",data:=.seq #[] } }) F.called_list (F.typeCall_list_1 _) F.entry_list_init
  (JU _ ⟨U,U⟩) λp g t=>?_
 obtain⟨rfl,rfl⟩:=t;have x:(s.heap.push { cls:=.type "list",data:=.seq #[] }).get? s.heap.objs.size=Kb { cls:=.type "list",data:=.seq #[] }:=GG.get?_push_size _ U;refine⟨⟨_,x,U⟩,F.args_list_init_2 _ _,?_⟩;show GU _ _ (do let z ←Hw.List.listItems (.ref s.heap.objs.size);Hw.List.listUpdate (.ref s.heap.objs.size) (λ_=>#[]);letGo z.toList.reverse;Hw.List.listExtendWith (.ref s.heap.objs.size) (.ref I) .none) _ _ _;refine DN ?_;unfold Hw.List.listItems;refine DN (Jy x U (D0 ?_));show GU _ _ (JG s.heap.objs.size (λ_=>#[]) >>= λ_=>letGo (#[]:Array Gf).toList.reverse >>= λ_=>Hw.List.listExtendWith (.ref s.heap.objs.size) (.ref I) .none) _ _ _;refine DN (JH x U ?_);have a:=GG.get?_update_self (Obj.mapSeq (λ_=>(#[]:Array Gf))) x U;refine DN (wpAny_letGo ?_);have n:∀b o,s.heap.get? b=Kb o->((s.heap.push { cls:=.type "list",data:=.seq #[] }).update s.heap.objs.size (Obj.mapSeq (λ_=>(#[]:Array Gf)))).get? b=Kb o:=λb o e =>
  (GG.get?_update_other _ _ (zb (GG.lt_size e))).trans (GG.get?_push_of_some _ e)
 generalize (s.heap.push { cls:=.type "list",data:=.seq #[] }).update s.heap.objs.size (Obj.mapSeq (λ_=>(#[]:Array Gf)))=hA at a n⊢;have u:GP.TypeIs { s with heap:=hA } (.ref I) "list_reverseiterator" := (h.at λo e=>n _ o e:GG.IsRevIter hA I l _).typeIs;have r:(λ(i:Nat)(s:GP)=>i<=items.size/\s.heap.IsRevIter I l ((items.size:Int)-1-(i:Int))/\s.heap.IsList l items) 0 { s with heap:=hA } :=
  ⟨yY _,by rw[show(items.size:Int)-1-((0:Nat):Int)=(items.size:Int)-1 by lia];exact h.at λo e=>n _ o e,J.at λo e=>n _ o e⟩
 unfold Hw.List.listExtendWith;refine DN (JE u ?_);have X:Hw.List.listSameRef (.ref s.heap.objs.size) (.ref I)=false:=by simp[Hw.List.listSameRef];exact zb H
 rw[Ki (by rw[X];decide)];refine DN (W.self 0 _ _ _ r ?_);refine DN (EX ?_);unfold Hw.List.listLengthHint;refine DN (JF u vb ?_);show GU _ _ (specialOf (Gf.ref I) s!"__length_hint__" >>= _) _ _ _;refine DN (JF u wK ?_)
 (generalize k:("list_reverseiterator.__length_hint__" : String)=id0;(fail_if_success (clear k id0));wp_delta;rw[show splitId id0=Kb ("list_reverseiterator","__length_hint__")from by subst k;decide+kernel];subst k)
 refine DN (Jw (b:=Kd) u (by rw[Jf];kernel_rfl) ?_);refine D0 ?_;rw[Ki (by decide)];refine D0 ⟨IL F.plain_extend_loop _,JI W R _ C _ items.size 0 _ _ _ (by lia) (yY _) r a (ItemsOf.nil _) λN M c' f D K=>?_⟩;refine⟨U,?_⟩;obtain⟨h',Y,Z,L,O⟩:=N;obtain rfl:Y=s.gens:=f.gens;obtain rfl:O=s.os:=f.os;exact V h' L M c' f.toks (λb o T e=>f.heap b o (λy=>by
  rcases dt.mp y with q|y
  .exact yv (GG.lt_size e) q
  .exact T (hZ.mp y)) (n b o e)) D K.1 K.2 Z f.drawn
inductive BV(K:W.Frag)(Q:VK)(vs:List V)(H1:Hp):Prop
 |mk (a xs:_)(_:vs=[.ref a])(_:SqL K H1 a xs)(_:∀p,H1 p=Kc->Q (.ref p) (upd H1 p (.lst xs.reverse)))
def tLR(K:W.Frag)(b:TA):TE:=λσ H Q=>b σ H λa c=>BV K Q a c
theorem sQ{k:GW}{B:TA}{O C z p:Pos}(x:X.calm=Kd)(W:Gl X "list") (hm:X.mg "list" = Kc) (w:Gl X "reversed") (v:X.mg "reversed" = Kc) (Y:PA X [k] B)
  (V:GZ [k] X.env=[(Ke,eval k X.env)]:=by rfl) :
  PE X (.Call (.Name "list" O) [.Call (.Name "reversed" C) [k] [] p] [] z) (tLR X.K B):=by
 intro Kg s σ H Q I h;refine F8 (eP I W hm PyProof.Rows.boot_list ?_);refine PyProof.Rows.callWith_type1 ?_ U U;show GU _ _ (spliced ((Ke,eval (.Call (.Name "reversed" C) [k] [] p) X.env) :: GY z (GZ [] X.env))) _ _ s;refine Calls.spliced_cons ?_;refine F8 (eP I w v PyProof.Rows.boot_reversed ?_);refine PyProof.Rows.callWith_type1 (thn (Y p Kg s σ H _ I h) λg f ⟨vs,H1,n,L,N⟩=>?_) (by rw[V];rfl) U;obtain⟨a,F,rfl,M,q⟩:=N;obtain⟨u,rfl,J⟩:=vals1 L;cases (show u=Gf.ref a from J);obtain⟨g,A,r,E⟩:=n.list M;obtain⟨oa,ea,_⟩:=id r.isList;have R:a<f.heap.objs.size:=GG.lt_size ea;have l1:=A.length;refine call_reversed_list r.isList ?_;refine Calls.spliced_nil ?_;have m:∀b o,f.heap.get? b=Kb o->(f.heap.push (JW a ((g.toArray.size:Int)-1))).get? b=Kb o:=λb o e=>GG.get?_push_of_some _ e
 have Z:(f.heap.push (JW a ((g.toArray.size:Int)-1))).get? f.heap.objs.size=Kb (JW a ((g.toArray.size:Int)-1)):=GG.get?_push_size _ U;have sz:(f.heap.push (JW a ((g.toArray.size:Int)-1))).objs.size=f.heap.objs.size+1:=GG.size_push ..;refine nN (s:={ f with heap:=f.heap.push (JW a ((g.toArray.size:Int)-1)) }) (l:=a) (items:=g.toArray) (n.ok.hd x) (yv R) ⟨_,Z,U,U⟩ (r.isList.at λo e=>m _ o e) (by simp;lia) λt G i c a1 T g3 P f3 d hd=>?_
 subst hd;have S:∀b o,f.heap.get? b=Kb o->t.get? b=Kb o:=λb o e=>T b o (yv (GG.lt_size e)) (m b o e)
 have Du:i.toList=g.reverse:=by
  apply vM
  intro j;have a0:i.size=g.length:=by simpa using P
  rw[Dg];by_cases D:j<i.size
  .have:=f3 j i[j] (Cn D);rw[Cn D,List.getElem?_reverse (by lia),←this];simp
  .rw[Array.getElem?_eq_none (by lia),nY (by simp;lia)]
 have y:t.get? (f.heap.objs.size+1)=Kb { cls:=.type "list",dict:=Kc,data:=.seq g.reverse.toArray c,slots:=#[] }:=by
  rw[←Du];rw[←sz];exact g3
 show EP X Kg σ Q _ _;refine⟨.ref (f.heap.objs.size+1),_,n.laid (h':=t) (t':=G) (a:=f.heap.objs.size+1) (o:=.lst F.reverse) S (zd _) ⟨by simpa using E,g.reverse,c,(Vals.reverse A),y⟩,?_,q _ (n.hok.fresh (zd _))⟩;show Gf.ref _=_;rw[sz]
theorem wL{X:Cx}{K:W.Frag}(h:X.K=K):SlR X (Ak K):=h ▸ dR
theorem cV:∀(names:List (Str×HS))(n:Nat)(a:List (Str×GD)),HW n names a=HW n names []++a
 | [],_,_=>rfl
 |(x,kd) :: r,n,a=>by
  unfold HW;split
  .rw[cV r (n+1) ((x,n) :: a),cV r (n+1) [(x,n)],mv];rfl
  .exact cV r n a
theorem mh{names:List (Str×HS)}{n:Nat}{a:List (Str×GD)}{y:Str}{c:GD}(e:(HW n names a).lookup y=Kb c):(y,c)∈HW n names []\/a.lookup y=Kb c:=by
 rw[cV,List.lookup_append]at e;cases h:(HW n names []).lookup y with
 |none=>rw[h]at e;exact .inr e
 |some b=>rw[h]at e;cases e;exact .inl (mem_of_lookup h)
theorem nO{M:GS}{A:GO}{E:Gf->GP->Prop}{s:GP}{scope:GQ}{globals:GD}{cl:List (Str×GD)}{qual:Str}{a:Env}{Q:Env->GP->Prop}
  (h:Q { scope,locals:=s.heap.objs.size,globals,cells:=HW (s.heap.objs.size+1) scope.names cl,qual,func:=Kc,code:=a.code,frame:=a.frame,builtins:=a.builtins } { s with heap:=JX (s.heap.push { cls:=.type "dict",data:=.dict #[] }) scope.names }) :
  GU M A (Iw scope globals cl [] qual Kc .none (Kb a)) Q E s:=by
 simp only[Iw,Option.isSome_some,if_true];refine DN (wpAny_alloc ?_);refine DN (wpAny_layCells _ (λb kind cells=>by cases hkc:kind == HS.cell <;> simp[hkc]) _ _ _ _ ?_);rw[show({ s with heap:=s.heap.push { cls:=.type "dict",data:=.dict #[] } }:GP).heap.objs.size=s.heap.objs.size+1 from GG.size_push ..];refine DN ?_;rw[yb];exact D0 (D0 h)
def uk(scope:GQ)(cl:List (Str×GD))(C:GD)(a:Env):Env :=
 { scope:=relabel scope a,locals:=C,globals:=a.globals,cells:=HW (C+1) scope.names cl,qual:=a.qual,func:=Kc,code:=a.code,frame:=a.frame,builtins:=a.builtins }
def di(X:Cx)(N:List Str)(scope:GQ)(cl:List (Str×GD))(a:List GD)(C:GD)(s2:GP)(b:Hp):Cx :=
 { prog:=X.prog,w:=X.w,K:=X.K,mg:=X.mg,base:=X.base,A:=X.A,N:=N,s₀:=s2,H₀:=b,env:=uk scope cl C X.env,outer:=X.stack,stack:=X.stack,ex:=a,fn:=λy=>scope.names.lookup y == Kb .cell,calm:=X.calm,pn:=[],xe:=λ_ _=>False }
structure sR(X:Cx)(N:List Str)(k:Nat)(fr:List Nat)(scope:GQ)(cl:List (Str×GD)):Prop where
 clos:Ir scope X.env=pure cl
 kind:scope.kind=.function
 names:∀y∈scope.names,y.2=.local->scope.names.lookup y.1=Kb .local
 len:N.length=k+fr.length
 sub:∀(i:Nat)(y:Str),N[k+i]?=Kb y->∃j,fr[i]?=Kb j/\X.N[j]?=Kb y/\(X.env.kindOf y=Kb .cell\/X.env.kindOf y=Kb .free)/\((relabel scope X.env).names.lookup y=Kb .cell\/(relabel scope X.env).names.lookup y=Kb .free)/\∃c,cl.lookup y=Kb c/\∀C:GD,(HW (C+1) scope.names cl).lookup y=Kb c
 cells:∀y c,cl.lookup y=Kb c->X.env.cells.lookup y=Kb c
 has:∀(C:GD)(y:Str),((relabel scope X.env).names.lookup y=Kb .cell\/(relabel scope X.env).names.lookup y=Kb .free)->∃c,(HW (C+1) scope.names cl).lookup y=Kb c
section
variable{elt iter tg:GW}{ifs:List GW}{cl:List (Str×GD)}
theorem sS{Kg:List (GD×Obj)}{σ:St}{s2:GP}{B:Hp}{it:GD}{f:List GD}{tn:Nat->GG->Prop}{J:It}{Q:VK}{E:Gf->GP->Prop}{RR:Gf->GD->HG->GP->Prop}
  (O:sR X N k fr scope cl)(hc:X.calm=Kd)(q:Inv X Kg σ B s2)(T:Turn X.prog X.w X.K tg J f it tn)(S:tn 0 s2.heap)(R:∀b∈f,i7 X Kg B b)
  (ht:∀f C s H,PIf (di X N scope cl f C s H) ifs tt)(he:∀f C s H,PE (di X N scope cl f C s H) elt te)
  (hg:∀f C s H,PG (di X N scope cl f C s H) tg gt)(hW:fm J gt k fr tt te σ Q B)
  (fin:∀D C s' H',s2.heap.objs.size<=C->H' C=Kc->(∃m,s'.heap.Ns C m)->Inv X Kg σ H' s'->Q (.ref D) H'->RR (.ref D) C (.ok .next) s') :
  GU (model X.prog X.w) X.A (Iv []) (λb1 s3=>GU (model X.prog X.w) X.A (Iw scope X.env.globals cl [] X.env.qual Kc .none (Kb X.env)) (λqw s4 =>
   HH (model X.prog X.w) X.A (.compStart (.ListComp elt [⟨tg,iter,ifs,0⟩] scope pos) 0 (.ref it) b1 { qw with scope:=relabel scope X.env }) (RR b1 qw.locals) s4) E s3) E s2:=by
 refine Iy (nO ?_);dsimp only;generalize hG:s2.heap.push { cls:=.type "list",dict:=Kc,data:=.seq ([]:List Gf).toArray }=G;have hC:G.objs.size=s2.heap.objs.size+1:=by rw[←hG,GG.size_push]
 have I:∀b o,s2.heap.get? b=Kb o->(JX (G.push { cls:=.type "dict",data:=.dict #[] }) scope.names).get? b=Kb o:=λb o e=>JY _ _ b o (GG.get?_push_of_some _ (hG ▸ GG.get?_push_of_some _ e))
 have gQ:(JX (G.push { cls:=.type "dict",data:=.dict #[] }) scope.names).get? s2.heap.objs.size=Kb { cls:=.type "list",data:=.seq ([]:List Gf).toArray 0 }:=JY _ _ _ _ (GG.get?_push_of_some _ (hG ▸ GG.get?_push_size _ U));have a8:(JX (G.push { cls:=.type "dict",data:=.dict #[] }) scope.names).Ns G.objs.size λ_=>none:=(GG.Ns.new G (.type "dict")).keeps (JY _ _)
 have L:=cellsFrom_ok scope.names (G.push { cls:=.type "dict",data:=.dict #[] }) (G.objs.size+1) [] ⟨λ_ _ M=>(nomatch M),List.Pairwise.nil⟩ (by rw[GG.size_push];exact yr _);rw[GG.size_push]at L;have own:∀y c,(HW (G.objs.size+1) scope.names cl).lookup y=Kb c->((y,c)∈HW (G.objs.size+1) scope.names []/\G.objs.size+1<=c)\/cl.lookup y=Kb c:=λy c e=>by
  rcases mh e with h|h
  .exact .inl ⟨h,(L.empty y c h).2⟩
  .exact .inr h
 generalize JX (G.push { cls:=.type "dict",data:=.dict #[] }) scope.names=h1 at I gQ a8 L⊢;have hD:B s2.heap.objs.size=none:=q.fresh;have V:(di X N scope cl f G.objs.size s2 B).Ok:=by
  refine⟨q.ok.mod,O.kind,q.ok.glob,q.ok.blt,by show s2.heap.objs.size<=G.objs.size;rw[hC];exact zd _,λy z c e1 e2=>?_,λy hy=>O.has G.objs.size y hy,λy c hy e=>?_,q.ok.hd,q.ok.frames,.inl U,
   λb a=>⟨?_,λy c e=>?_⟩,q.bs,yW q.ok.bsz q.sz,λb o e a=>?_,λb a z=>?_,q.stack,q.stkFree⟩
  .have a7:∀y c,cl.lookup y=Kb c->c<s2.heap.objs.size:=λy c e=>by
    obtain⟨v,o,ho,_⟩:=q.cell y c (O.cells y c e);exact GG.lt_size ho
   rcases own y c e1 with⟨a0,g1⟩|a0 <;> rcases own z c e2 with⟨Z,g2⟩|Z
   .exact name_of_addr L.apart a0 Z
   .exact Kk (yU (a7 z c Z) (yW (show s2.heap.objs.size<=G.objs.size+1 by lia) g1)) (ze _)
   .exact Kk (yU (a7 y c a0) (yW (show s2.heap.objs.size<=G.objs.size+1 by lia) g2)) (ze _)
   .exact q.ok.inj y z c (O.cells y c a0) (O.cells z c Z)
  .have hy:(scope.names.lookup y == Kb HS.cell)=true:=hy;have hy:=beq_iff_eq.mp hy;have c2:=W.cellsFrom_some (x:=y) scope.names (G.objs.size+1) [] (.inl hy);obtain⟨c',Y⟩:=DL.mp c2;have e:(HW (G.objs.size+1) scope.names cl).lookup y=Kb c:=e;rw[cV,List.lookup_append,Y]at e;cases e;exact yW (show s2.heap.objs.size<=G.objs.size+1 by lia) (L.empty y _ (mem_of_lookup Y)).2
  .obtain⟨o,e,_⟩:=T.obj _ _ S b a;show b≠G.objs.size;exact yv (by rw[hC];exact zc (GG.lt_size e))
  .rcases own y c e with⟨_,g⟩|P
   .obtain⟨o,e',_⟩:=T.obj _ _ S b a;exact(yv (yU (GG.lt_size e') (yW (show s2.heap.objs.size<=G.objs.size+1 by lia) g))).symm
   .exact(R b a).2.2.2.2.1 y c (O.cells y c P)
  .rcases(R b a).2.2.2.1 with z|z
   .exact q.ok.noex b o e z
   .exact Kk (yU (GG.lt_size e) (yW q.ok.bsz z)) (ze _)
  .rcases dt.mp (q.stkSub b z)with z|z
   .exact(R b a).2.1 z
   .exact(R b a).2.2.1 z
 have gR:∀{H':Hp},(∀b∈f,H' b=Kc)->∀b∈f,i7 (di X N scope cl f G.objs.size s2 B) [] H' b:=λhn b a =>
  ⟨hn b a,(V.exf b a).1,V.exfs b a,.inl a,(V.exf b a).2,λp hp=>Kk (show p∈([]:List (GD×Obj))from hp) (by simp)⟩
 have I':Inv (di X N scope cl f G.objs.size s2 B) [] (bG σ fr (List.replicate k Kc)) (upd B s2.heap.objs.size (.lst [])) { s2 with heap:=h1 }:=by
  refine⟨V,U,q.bare,Un.laid I (yr _) hD,⟨_,a8,λi y v e1 e2 e3=>?_⟩,λy c e=>?_,?_,λy c e=>?_,λp hp=>Kk (show p∈([]:List (GD×Obj))from hp) (by simp),q.hok.laid I (yr _) ⟨yY _,[],0,.nil,gQ⟩,?_⟩
  .by_cases a9:i<k
   .have F:(List.replicate k Kc++fr.map λj=>(σ[j]?).join)[i]?=Kb (Kb v):=e2;rw[iP (by rw[lq];exact a9),List.getElem?_replicate,Kj a9]at F;cases F
   .obtain⟨j,q1,q2,q3,q4,c',c3,Y⟩:=O.sub (i-k) y (by rw[show k+(i-k)=i by lia];exact e1);have F:(σ[j]?).join=Kb v:=by
     have:(List.replicate k Kc++fr.map λj=>(σ[j]?).join)[i]?=Kb (Kb v):=e2;rw[ll (by rw[lq];lia),lq,gI,q1]at this;exact Option.some.inj this
    have e4:σ[j]?=Kb (Kb v):=by
     cases z:σ[j]? with
     |none=>rw[z]at F;cases F
     |some t=>rw[z]at F;exact Ko Kb F
    obtain⟨m,_,hl⟩:=q.loc;have b6:Vis X.env.scope y:=.inr q3;obtain⟨u,r,l⟩:=hl j y v q2 e4 b6;refine⟨u,r,.inr ⟨q4,?_⟩⟩;rcases l with⟨k,_⟩|⟨_,c,ec,ic⟩
    .rcases q3 with z|z
     .rw[z]at k;cases k
     .rw[z]at k;cases k
    .have:=O.cells y c' c3;have e':c=c':=Option.some.inj (ec.symm.trans this);obtain⟨o,ho,hd⟩:=ic;rw[e']at ho;exact⟨c',Y _,o,I c' o ho,hd⟩
  .rcases own y c e with⟨P,g⟩|P
   .exact⟨Kc,(L.empty y c P).1⟩
   .obtain⟨v,o,ho,hd⟩:=q.cell y c (O.cells y c P);exact⟨v,o,I c o ho,hd⟩
  .show upd B s2.heap.objs.size (.lst []) G.objs.size=Kc;rw[ay (zb (by rw[hC];exact zg _))];exact q.hok.fresh (by rw[hC];exact zd _)
  .rcases own y c e with⟨P,g⟩|P
   .rw[ay (zb (yU (show s2.heap.objs.size<G.objs.size+1 by lia) g))];exact q.hok.fresh (yW (show s2.heap.objs.size<=G.objs.size+1 by lia) g)
   .obtain⟨v,o,ho,hd⟩:=q.cell y c (O.cells y c P);rw[ay (yv (GG.lt_size ho))];exact q.freeC y c (O.cells y c P)
  .show(bG σ fr (List.replicate k Kc)).length=N.length;rw[O.len];simp[bG]
 have a6:tn 0 h1:=T.keep _ _ _ S λb a o e=>I b o e
 have a1:∀s3:GP,s3={ s2 with heap:=h1 } ->
   HH (model X.prog X.w) X.A (.compLoop (.ListComp elt [⟨tg,iter,ifs,0⟩] scope pos) 0 (.ref it) (.ref s2.heap.objs.size) (uk scope cl G.objs.size X.env)) (RR (.ref s2.heap.objs.size) G.objs.size) s3:=by
  rintro s3 rfl;obtain⟨W,⟨m0,w0⟩,b3⟩:=hW _ hD
  refine jd (λn s'=>∃i ts H',ts.length=k/\Inv (di X N scope cl f G.objs.size s2 B) [] (bG σ fr ts) H' s'/\tn i s'.heap/\(∀b∈f,H' b=Kc)/\W i n H') ?_ m0
   ⟨0,List.replicate k Kc,_,lq,I',a6,λb a=>by
    rw[ay (by obtain⟨o,e,_⟩:=T.obj _ _ S b a;exact yv (GG.lt_size e))];exact(R b a).1,w0⟩
  rintro n s' ⟨i,ts,H',c1,I3,a5,b0,w3⟩;rcases b3 i n H' w3 with⟨b4,qn⟩|⟨go,step⟩
  .refine thn (T.done (di X N scope cl f G.objs.size s2 B) U U U hc i [] s' _ H' _ I3 (gR b0) a5 b4) λr s4 ⟨hr,I4⟩=>?_
   subst hr;obtain⟨m,M,_⟩:=I4.loc;refine fin _ _ s4 H' (by rw[hC];exact zd _) I4.free ⟨m,M⟩ (q.call' (ch:=f) I4.os I4.base I4.hok I4.bare λb a=>?_) qn;exact⟨(R b a).2.2.2.1,(R b a).2.1,(R b a).2.2.2.2.1,(R b a).2.2.2.2.2⟩
  .refine thn (T.item (di X N scope cl f G.objs.size s2 B) U U U hc i [] s' _ H' _ I3 (gR b0) a5 go) λr s4 ⟨u,hr,h4⟩=>?_
   subst hr;refine thn h4 λ_ s5 ⟨y,H5,I5,r5,y5,a3,c4⟩=>?_
   have c5:=I5.pinned (gR c4) (T.obj _ _ a3);refine thn (hg f G.objs.size s2 B _ s5 _ H5 y u _ c5 r5 (step y H5 y5 ts c1)) λ_ s6 ⟨c6,H6,I6,⟨a4,Aq,e6⟩,q6⟩=>?_
   subst e6
   have again:∀{a2:St}{H7:Hp}{s7:GP}{m':Nat},a2=bG σ fr a4->Inv (di X N scope cl f G.objs.size s2 B) ([]++ja f s5.heap) a2 H7 s7->m'<n->W (i+1) m' H7 ->
     ∃m,m<n/\∃i ts H',ts.length=k/\Inv (di X N scope cl f G.objs.size s2 B) [] (bG σ fr ts) H' s7/\tn i s7.heap/\(∀b∈f,H' b=Kc)/\W i m H':=λ{a2 H7 s7 m'} e7 I7 M w7=>by
    subst e7;refine⟨m',M,i+1,a4,H7,Aq,I7.unpinned,T.keep _ _ _ a3 λb a o e=>(I7.pin (b,o) (jr _ (jr _ (cC a e)))).1,λb a=>?_,w7⟩;obtain⟨o,e,d⟩:=T.obj _ _ a3 b a;exact(I7.pin (b,o) (jr _ (jr _ (cC a e)))).2.1
   refine thn (ht f G.objs.size s2 B _ s6 _ H6 _ I6 q6) λok s7 ⟨H7,I7,q7⟩=>?_
   cases ok with
   |false =>
    rw[Ki Bool.false_ne_true]at q7⊢;obtain⟨m',M,w7⟩:=q7;exact again U I7 M w7
   |true =>
    rw[Kj U]at q7⊢;refine thn (he f G.objs.size s2 B _ s7 _ H7 _ I7 q7) λu8 s8 ⟨v8,H8,I8,r8,ys,c0,b5,m',M,w8⟩=>?_
    refine thn (bh (X:=di X N scope cl f G.objs.size s2 B) _ s8 _ H8 (.ref s2.heap.objs.size) [v8] _ [u8] (λ_ H9=>W (i+1) m' H9) I8 U (.cons r8 .nil) ⟨_,ys,v8,U,U,c0,b5,w8⟩) λ_ s9 ⟨_,H9,I9,_,w9⟩=>?_
    exact again U I9 M w9
 exact IA (a1 _ U) (T.self _ 0 _ _ _ a6 (a1 _ U))
theorem wM{x:TI}{i:Nat}{y:Str}{c B:Pos}(hN:X.N.Nodup)(E:X.N[i]?=Kb y)(R:Loc X.env.scope y)(hi:PI X tg iter x)(O:sR X N k fr scope cl)(Y:X.calm=Kd)(S:∀d C s H,PG (di X N scope cl d C s H) tg gt)
  (F:∀d C s H,PIf (di X N scope cl d C s H) ifs tt)(W:∀d C s H,PE (di X N scope cl d C s H) elt te)(G:∀v,Hy iter X.env v=pure v:=by intro _;rfl)
  (n:Hi (.ListComp elt [⟨tg,iter,ifs,0⟩] scope pos) (Kb (.Name y c)) B.line X.env=pure true:=by rfl)(V:X.fn y=Kd\/X.env.scope.names.lookup y=Kb .local:=by first|exact .inl U|exact .inr U|assumption) :
  PS X (.Assign [.Name y c] (.ListComp elt [⟨tg,iter,ifs,0⟩] scope pos) B) (vS (sf x gt k fr tt te) (kK i)):=by
 intro Kg s σ H j I h;rw[IE _ _ _ _ n];refine DN (Hm (DN ?_));show GU _ X.A (do let _ ←comprehension (.ListComp elt [⟨tg,iter,ifs,0⟩] scope pos) scope X.env _ (Iv []) Ke (eval iter X.env) (Kb (assign (.Name y c) X.env))) _ _ s;refine DN (G6 (IC (use:=Kb (assign (.Name y c) X.env)) (Q:=λ_ b=>SP X Kg j .next b) U G O.clos O.kind O.names (thn (hi Kg s σ H _ I h) λv s1 h1=>thn h1 λa0 s2 h2=>?_)) (λ_ b K=>D0 (D0 K)) λ_ _ z=>z);obtain⟨it,d,tn,J,H2,e,f,T,l,f2,hW⟩:=h2;subst e;refine sS (Q:=λv H1=>kK i v σ H1 j.nx) (RR:=λu C=>ID (model X.prog X.w) X.A X.xe (Kb (assign (.Name y c) X.env)) (λ_ b=>SP X Kg j .next b) u C) O Y f T l f2 F W S hW λD C b H' g M ⟨m,P⟩ I' q=>?_
 show GU _ X.A (assign (.Name y c) X.env (.ref D)) _ _ b;refine Hl (iC I' hN E R (v:=.ref D) U (λs3 I3 ⟨a,p,Z⟩=>?_) V);have t:C≠a:=by
  rcases Z with z|z
  .rw[z];exact zb (yU f.lt g)
  .obtain⟨v,o,L,_⟩:=f.cell y a z;exact zb (yU (GG.lt_size L) g)
 exact⟨m,P.sameBut p t,λh' r=>⟨_,H',f.left I3 g M r,q⟩⟩
end
def wN(X:Cx)(N:List Str)(scope:GQ)(cl:List (Str×GD)):List Nat->Nat->Prop
 | [],_=>True
 |j :: fr,i=>(∃(y:Str)(c:GD),N[i]?=Kb y/\X.N[j]?=Kb y/\X.env.kindOf y=Kb .cell/\(relabel scope X.env).names.lookup y=Kb .cell/\cl.lookup y=Kb c/\∀C:GD,(HW (C+1) scope.names cl).lookup y=Kb c)/\wN X N scope cl fr (i+1)
theorem wN.at{X:Cx}{N:List Str}{scope:GQ}{cl:List (Str×GD)}:∀{fr:List Nat}{k:Nat},wN X N scope cl fr k->∀(i j:Nat),fr[i]?=Kb j->∃(y:Str)(c:GD),N[k+i]?=Kb y/\X.N[j]?=Kb y/\X.env.kindOf y=Kb .cell/\(relabel scope X.env).names.lookup y=Kb .cell/\cl.lookup y=Kb c/\∀C:GD,(HW (C+1) scope.names cl).lookup y=Kb c
 | [],_,_,i,j,e=>by simp at e
 |a :: fr,k,h,0,j,e=>by
  have:a=j:=by simpa using e
  subst this;exact h.1
 |a :: fr,k,h,i+1,j,e=>by
  have:=wN.at h.2 i j (by simpa using e);rw[show k+1+i=k+(i+1) by lia]at this;exact this
theorem vc{X:Cx}{N:List Str}{k:Nat}{fr:List Nat}{scope:GQ}{cl:List (Str×GD)}(clos:Ir scope X.env=pure cl)(kind:scope.kind=.function)(names:∀y∈scope.names,y.2=.local->scope.names.lookup y.1=Kb .local)
  (len:N.length=k+fr.length)(sub:wN X N scope cl fr k)(cells:∀p∈cl,X.env.cells.lookup p.1=Kb p.2)(b:∀C:GD,((relabel scope X.env).names.all λp=>(p.2 != .cell && p.2 != .free) || ((HW (C+1) scope.names cl).lookup p.1).isSome)=Kd):sR X N k fr scope cl:=by
 refine⟨clos,kind,names,len,λi y e=>?_,λy c e=>cells _ (mem_of_lookup e),λC y h=>?_⟩
 .have hi:i<fr.length:=by have:=(Gz.mp e).1;lia
  obtain⟨o,c,d,n,m,l,j,g⟩:=sub.at i fr[i] (Gy hi);rw[e]at d;cases d;exact⟨fr[i],Gy hi,n,.inl m,.inl l,c,j,g⟩
 .have look:∀a,(relabel scope X.env).names.lookup y=Kb a->(a=.cell\/a=.free)->∃c,(HW (C+1) scope.names cl).lookup y=Kb c:=λa e f=>by
   have z:=jt.mp (b C) _ (mem_of_lookup e);rcases f with rfl|rfl
   .exact DL.mp (by simpa using z)
   .exact DL.mp (by simpa using z)
  rcases h with h|h
  .exact look _ h (.inl U)
  .exact look _ h (.inr U)
section
variable{st b₀:G5}{su:List G5}{tb:TSX}{ts:GD->GD->TS}{Tn:Str}{B:GD}{Dn:Pos}
end
theorem qN{gt:TG}{k:Nat}{fr:List Nat}{tt:TT}{te:TE}{lo:Int}{n:Nat}{σ:St}{d:Hp}{Q:VK}(c:GD->Nat->List V->Hp->Prop)(o:∀D,d D=Kc->c D 0 [] (upd d D (.lst [])))
  (l:∀D i ys H,d D=Kc->i<n->c D i ys H->∀ts:St,ts.length=k->gt (.int (lo+i)) (bG σ fr ts) H λa q=>(∃f:St,f.length=k/\a=bG σ fr f)/\tt a q λb j=>if b=Kd then te a j (cB c D i n)else dG c D i n j)
  (hd:∀D ys H,d D=Kc->c D n ys H->Q (.ref D) H):fm (Itr lo n) gt k fr tt te σ Q d:=by
 intro D h;refine⟨λi m H=>m=n-i/\i<=n/\∃ys,c D i ys H,⟨_,U,yY _,[],o D h⟩,?_⟩;rintro i m H ⟨rfl,hi,ys,p⟩;by_cases g:i<n
 .refine .inr ⟨g,λx H' y=>?_⟩;obtain⟨e,y⟩:=y;subst e;subst y;exact l D i ys _ h g p
 .have e:i=n:=by lia
  subst e;exact .inl ⟨yr _,hd D ys H h p⟩
theorem vd{K:W.Frag}{a:GD}{xs:List V}{σ:St}{f:Hp}{Q:VK}(c:GD->Nat->List V->Hp->Prop)(r:∀D,f D=Kc->c D 0 [] (upd f D (.lst [])))
  (o:∀D i ys H,f D=Kc->i<=xs.length->c D i ys H->SqT K H a xs)
  (n:∀D i x ys H,f D=Kc->xs[i]?=Kb x->c D i ys H->∀ts:St,ts.length=k->gt x (bG σ fr ts) H λd s=>(∃g:St,g.length=k/\d=bG σ fr g)/\tt d s λb l=>if b=Kd then te d l (cB c D i xs.length)else dG c D i xs.length l)
  (hd:∀D ys H,f D=Kc->c D xs.length ys H->Q (.ref D) H):fm (Itt K a) gt k fr tt te σ Q f:=by
 intro D h;refine⟨λi m H=>m=xs.length-i/\i<=xs.length/\∃ys,c D i ys H,⟨_,U,yY _,[],r D h⟩,?_⟩;rintro i m H ⟨rfl,hi,ys,p⟩;have q:=o D i ys H h hi p;by_cases j:i<xs.length
 .refine .inr ⟨⟨xs,xs[i],q,by simp[j]⟩,λx H' y=>?_⟩;obtain⟨e,y⟩:=y;subst e;exact n D i x ys _ h (y xs q) p
 .have e:i=xs.length:=by lia
  subst e;exact .inl ⟨⟨xs,q,yr _⟩,hd D ys H h p⟩
abbrev TTh:HO:=.ext λ_=>True
theorem qO{P:GC}{w:Gn}{H:Hp}{h:GG}{a:GD}{o:Obj}(e:h.get? a=Kb o):cQ P w H h a (.frz o TTh):=⟨e,trivial,⟨o,e⟩,λ_ _ _ _=>trivial⟩
def hideL(H:Hp)(a:List GD):Hp:=λb=>if b∈a then Kc else H b
def hU(H:Hp)(fz:List (GD×Obj)):Hp:=λb=>match fz.lookup b with
 |some o=>Kb (.frz o TTh)
 |none=>H b
def backL(H H':Hp)(a:List GD):Hp:=λb=>if b∈a then H b else H' b
theorem jV{H:Hp}{a:List GD}{b:GD}(h:b∈a):hideL H a b=none:=Kj h
theorem bT{H:Hp}{a:List GD}{b:GD}(h:b ∉ a):hideL H a b=H b:=Ki h
theorem mi{H H':Hp}{a:List GD}{b:GD}(h:b∈a):backL H H' a b=H b:=Kj h
theorem cP{H H':Hp}{a:List GD}{b:GD}(h:b ∉ a):backL H H' a b=H' b:=Ki h
theorem gu{H:Hp}{a:List GD}{b:GD}(h:H b=Kc):hideL H a b=none:=by
 unfold hideL;split
 .rfl
 .exact h
theorem sU{H:Hp}{a:List GD}{b:GD}{o:HO}(h:hideL H a b=Kb o):b ∉ a/\H b=Kb o:=by
 unfold hideL at h;split at h
 .cases h
 .rename_i n
  exact⟨n,h⟩
def Fzs(H:Hp)(a:List GD):Prop:=∀c∈a,∃o,H c=Kb (.frz o TTh)
theorem Fzs.out{H:Hp}{a:List GD}(h:Fzs H a){b:GD}{u:HO}(e:H b=Kb u)(n:∀o,u≠.frz o TTh):b ∉ a:=λz=>by
 obtain⟨o,q⟩:=h b z;rw[e]at q;exact n o (Option.some.inj q)
section
variable{h:GG}{cs:List GD}
theorem HOk.hideL(x:HOk P w H h)(f:Fzs H cs):HOk P w (hideL H cs) h:=λb o e=>by
 obtain⟨n,e⟩:=sU e;refine(x b o e).stay (λ_ _ _ q=>q) (λc q=>?_) λc a q=>?_
 .rw[bT (f.out q λ_ z=>by cases z)];exact q
 .rw[bT (f.out q λ_ z=>by cases z)];exact q
theorem HOk.backL(x:HOk P w H' h')(f:Fzs H cs)(n:∀c∈cs,H' c=Kc)(k:∀c∈cs,∀o,H c=Kb (.frz o TTh)->h'.get? c=Kb o):HOk P w (backL H H' cs) h':=λb o e=>by
 by_cases a:b∈cs
 .rw[mi a]at e;obtain⟨d,q⟩:=f b a;rw[q]at e;cases e;exact qO (k b a d q)
 .rw[cP a]at e;have out:∀{c:GD}{u:HO},H' c=Kb u->c ∉ cs:=λ{c u} q z=>by rw[n c z]at q;cases q
  refine(x b o e).stay (λ_ _ _ q=>q) (λc q=>?_) λc g q=>?_
  .rw[cP (out q)];exact q
  .rw[cP (out q)];exact q
theorem mj(s:ar (hideL H cs) H'):ar H (backL H H' cs):=λb o e=>by
 by_cases a:b∈cs
 .rw[mi a];exact e
 .rw[cP a];exact s b o (by rw[bT a];exact e)
end
section
variable{fs:List GD}{h:GG}{cs:List GD}
theorem Un.backL(u:Un fs [] (hideL H cs) H' h h')(f:Fzs H cs):Un fs [] H (backL H H' cs) h h' where
 keep:=λb o e n a c=>u.keep b o e (gu n) a c
 slot:=λb o e n a c=>u.slot b o e (gu n) a c
 free:=λb o e n c=>by
  have:b ∉ cs:=λz=>by obtain⟨g,q⟩:=f b z;rw[n]at q;cases q
  rw[cP this];exact u.free b o e (gu n) c
 there:=u.there
 tups:=λb d e=>by
  have a:=f.out e λ_ z=>by cases z
  rw[cP a];exact u.tups b d (by rw[bT a];exact e)
 frzs:=λb o v e=>by
  by_cases a:b∈cs
  .rw[mi a];exact e
  .rw[cP a];exact u.frzs b o v (by rw[bT a];exact e)
 tbls:=λb ps e=>by
  have a:=f.out e λ_ z=>by cases z
  rw[cP a];exact u.tbls b ps (by rw[bT a];exact e)
end
def qP(b:Obj)(qual:Str):Prop:=∃a t,b.data=.fields a/\a[1]?=Kb (.str qual t)
structure pI(N ps:List Str)(sc:GQ)(cl:List (Str×GD)):Prop where
 kind:sc.kind=.function
 co:sc.isCoroutine=Ke
 gen:sc.isGenerator=Ke
 nd:N.Nodup
 pre:N.take ps.length=ps
 par:∀x∈ps,sc.names.lookup x=Kb .local
 nocell:∀y∈sc.names,y.2≠.cell
 has:∀y∈sc.names,y.2=.free->∃c,cl.lookup y.1=Kb c
def cxC(CX:CXT)(P:GC)(w:Gn)(K:W.Frag)(mg:Str->Option Gf)(base:GG)(N:List Str)(qual:Str)(scope:GQ)(f:GD)(b:Gf)(cl:List (Str×GD))(A:GO)(outer:List Env)(s:GP)(H:Hp)(E:XK):Cx where
 prog:=P
 w:=w
 K:=K
 mg:=mg
 base:=base
 A:=A.deeper (W.envX qual scope s.heap.objs.size f b cl)
 N:=N
 s₀:=s
 H₀:=hideL H (cl.map (·.2))
 env:=W.envX qual scope s.heap.objs.size f b cl
 outer:=outer
 stack:=W.envX qual scope s.heap.objs.size f b cl :: outer
 ex:=[]
 calm:=Kd
 fn:=λ_=>Ke
 pn:=[]
 xe:=λe c=>GU (model P w) (A.deeper (W.envX qual scope s.heap.objs.size f b cl)) (leaving (W.envX qual scope s.heap.objs.size f b cl) e) (λ_ a=>CX outer H s E e a) (λd a=>CX outer H s E d a) c
def fv(H:Hp)(cl:List (Str×GD))(ws:List (Str×V)):Prop :=
 (∀c∈cl.map (·.2),∃o v,H c=Kb (.frz o TTh)/\o.data=.cell v)/\∀(x:Str)(v:V),ws.lookup x=Kb v->∃c o u,cl.lookup x=Kb c/\H c=Kb (.frz o TTh)/\o.data=.cell (Kb u)/\RelV v u
theorem fv.fzs{H:Hp}{cl:List (Str×GD)}{ws:List (Str×V)}(h:fv H cl ws):Fzs H (cl.map (·.2)):=λc a=>let ⟨o,_,e,_⟩:=h.1 c a;⟨o,e⟩
theorem fv.same{H H':Hp}{cl:List (Str×GD)}{ws:List (Str×V)}(h:fv H cl ws)(s:ar H H'):fv H' cl ws :=
 ⟨λc f=>let ⟨o,v,e,d⟩:=h.1 c f;⟨o,v,s _ _ e,d⟩,λx v e=>let ⟨c,o,u,a,b,d,r⟩:=h.2 x v e;⟨c,o,u,a,s _ _ b,d,r⟩⟩
def kv(N ps:List Str)(vs:List V)(ws:List (Str×V)):St:=vs.map Kb++(N.drop ps.length).map λx=>ws.lookup x
theorem mn{cl:List (Str×GD)}{x:Str}{c:GD}(h:cl.lookup x=Kb c):c∈cl.map (·.2):=en.mpr ⟨(x,c),mem_of_lookup h,U⟩
theorem sV{ps:List Str}{us:List Gf}{i:Nat}{y:Str}{u:Gf}(d:ps.Nodup)(g:ps[i]?=Kb y)(f:us[i]?=Kb u)(h:us.length=ps.length):(ps.zip us).reverse.lookup y=Kb u:=by
 have c:((ps.zip us).map (·.1)).Nodup:=by rw[vO (by lia)];exact d
 rw[PySem.lookup_reverse_of_nodup _ c];have b:(y,u)∈ps.zip us:=by
  have:(ps.zip us)[i]?=Kb (y,u):=by rw[rj];exact⟨g,f⟩
  exact GB this
 cases e:(ps.zip us).lookup y with
 |none =>
  exact Kk b (by
   intro b;have:=List.lookup_eq_none_iff.mp e (y,u) b;simp at this)
 |some v =>
  have:=mem_of_lookup e;obtain⟨j,a⟩:=jC this;rw[rj]at a;have:=jN d a.1 g;subst this;rw[f]at a;rw[Option.some.inj a.2]
def HFn(P:GC)(w:Gn)(K:W.Frag)(mg:Str->Option Gf)(base:GG)(k:Nat)(f:GD)(sp:Sp):Prop:=∃fd ps,aK P w K mg base CX0 k f fd ps sp/\Binds K fd ps []
def FnO(H:Hp)(f:GD):Prop:=∃o fd,H f=Kb (.frz o TTh)/\o.data=.func fd
variable{i:Nat}
inductive wO(X:Cx)(k i:Nat)(t:TA)(σ:St)(H:Hp)(Q:VK):Prop
 |mk (f:GD)(sp:Sp)(_:σ[i]?=Kb (Kb (.ref f)))(_:FnO H f)(_:HFn X.prog X.w X.K X.mg X.base k f sp)(_:t σ H λvs H1=>FnO H1 f/\sp vs H1 Q E0)
theorem pJ(D:bR k X.A)(L:X.N[i]?=Kb x)(C:Vis X.env.scope x)(K:PA X (e :: es) t)(G:(x == ("__debug__" : Str))=false:=by decide) (c:(x == ("__classdict__" : Str))=false:=by decide)
  (he:GZ (e :: es) X.env=(Ke,eval e X.env) :: GZ es X.env:=by rfl)(b:(GY pos (GZ es X.env)).any (·.1)=false:=by rfl):PE X (.Call (.Name x p) (e :: es) [] pos) (wO X k i t):=by
 intro Kg s σ H Q I h;obtain⟨f,sp,O,M,⟨fd,V,F,J⟩,h⟩:=h;have a:∀{H:Hp}{s:GP}{σ:St},Inv X Kg σ H s->FnO H f->W.FnAt f s.heap:=λP ⟨o,fd,e,d⟩=>by
  have:=(P.hok f _ e).1;obtain⟨B,z,Y,m⟩:=o;simp only at d;subst d;exact⟨B,z,fd,m,this⟩
 refine F8 (thn (rG L C G c Kg s σ H (λv H'=>v=.ref f/\H'=H) I ⟨_,O,U,U⟩) λu n ⟨v,R,l,r,y⟩=>?_);obtain⟨rfl,rfl⟩:=y;cases (show u=Gf.ref f from r);refine W.callWith_F (a l M) (thn (K pos Kg n σ R _ l h) λT s2 ⟨S,Z,j,q,g,w⟩=>⟨a j g,?_⟩) he b;exact pq (E:=E0) (dvs:=[]) (ds:=[]) F D J .nil bL j q (by rw[jv];exact w)
theorem cE{H:Hp}{fz:List (GD×Obj)}{b:GD}(h:b ∉ fz.map (·.1)):hU H fz b=H b:=by
 unfold hU;cases e:fz.lookup b with
 |none=>rfl
 |some o=>exact Kk (en.mpr ⟨(b,o),W.mem_of_lookupK e,U⟩) h
theorem gv{H:Hp}{fz:List (GD×Obj)}{b:GD}(h:b∈fz.map (·.1)):∃o,(b,o)∈fz/\hU H fz b=Kb (.frz o TTh):=by
 unfold hU;cases e:fz.lookup b with
 |none =>
  obtain⟨⟨c,o⟩,a,rfl⟩:=en.mp h;have:=List.lookup_eq_none_iff.mp e _ a;simp at this
 |some o=>exact⟨o,W.mem_of_lookupK e,U⟩
structure pK(X:Cx)(s:GP)(fz:List (GD×Obj)):Prop where
 cell:∀p∈fz,∃x,X.env.cells.lookup x=Kb p.1
 nb:∀p∈fz,X.base.get? p.1=Kc
 nf:∀p∈fz,p.1 ∉ X.fs
 at_:∀p∈fz,s.heap.get? p.1=Kb p.2
theorem pK.free{fz:List (GD×Obj)}(z:pK X s fz)(I:Inv X Kg σ H s):∀b∈fz.map (·.1),H b=none:=λb c=>by
 obtain⟨p,a,rfl⟩:=en.mp c;obtain⟨x,e⟩:=z.cell p a;exact I.freeC x _ e
theorem pK.hok{fz:List (GD×Obj)}(z:pK X s fz)(I:Inv X Kg σ H s):HOk X.prog X.w (hU H fz) s.heap:=λb u e=>by
 by_cases a:b∈fz.map (·.1)
 .obtain⟨o,c,q⟩:=gv (H:=H) a;rw[q]at e;cases e;exact qO (z.at_ _ c)
 .rw[cE a]at e;have out:∀{d:GD}{u:HO},H d=Kb u->hU H fz d=Kb u:=λ{d u} q=>by
   rw[cE λm=>by rw[z.free I d m]at q;cases q];exact q
  exact(I.hok b u e).stay (λ_ _ _ q=>q) (λd q=>out q) λd f q=>out q
theorem pK.env0{fz:List (GD×Obj)}(z:pK X s fz)(I:Inv X Kg σ H s):qm X.prog X.w X.K X.mg X.base X.A X.stack s (hU H fz):=by
 have e:=I.env0;refine⟨e.frames,e.mod,λb o q=>⟨(e.bs b o q).1,?_⟩,e.bsz,e.funs,λb c=>?_,z.hok I,e.bare⟩
 .rw[cE λm=>?_]
  .exact(e.bs b o q).2
  .obtain⟨p,a,rfl⟩:=en.mp m;rw[z.nb p a]at q;cases q
 .rw[cE λm=>?_]
  .exact e.frf b c
  .obtain⟨p,a,rfl⟩:=en.mp m;rcases dt.mp (I.stkSub _ c)with q|q
   .obtain⟨x,d⟩:=z.cell p a;exact I.cne x _ d q
   .exact z.nf p a q
theorem Inv.cellNew(I:Inv X Kg σ H s){x:Str}{c:GD}(e:X.env.cells.lookup x=Kb c)(d:X.fn x=Kd):X.base.get? c=Kc/\c ∉ X.fs:=by
 have a:=I.ok.cab x c d e;refine⟨GG.get?_none_of_le (yW I.ok.bsz a),λq=>?_⟩;obtain⟨_,o,b,_⟩:=I.ok.funs.mem q;exact Kk (GG.lt_size b) (BI.mpr a)
theorem pK.after{fz:List (GD×Obj)}{Q:VK}{u:Gf}{s':GP}(z:pK X s fz)(I:Inv X Kg σ H s)(h:CE X.stack X.prog X.w (hU H fz) s (λv k=>Q v (hideL k (fz.map (·.1)))) u s'):EP X Kg σ Q u s':=by
 obtain⟨v,k,A,j,un,hok,r,q⟩:=h;have fzs:Fzs k (fz.map (·.1)):=λc B=>by
  obtain⟨o,_,e⟩:=gv (H:=H) B;exact⟨o,un.frzs c o _ e⟩
 have out:∀{d:GD}{u:HO},H d=Kb u->d ∉ fz.map (·.1):=λ{d u} q m=>by rw[z.free I d m]at q;cases q
 refine⟨v,hideL k (fz.map (·.1)),I.call' (ch:=[]) A ⟨λb o e n g f=>?_,λb o e n g f=>?_,λb o e n f=>?_,un.there,λb x e=>?_,λb o y e=>?_,λb ps e=>?_⟩ (hok.hideL fzs) j (λb g=>Kk g (by simp)),r,q⟩
 .by_cases a:b∈fz.map (·.1)
  .obtain⟨p,t,l⟩:=gv (H:=H) a;have:=(hok b _ (un.frzs b p _ l)).1;have i:=z.at_ _ t;rw[e]at i;cases i;exact this
  .exact un.keep b o e (by rw[cE a];exact n) g f
 .by_cases a:b∈fz.map (·.1)
  .obtain⟨p,t,l⟩:=gv (H:=H) a;have:=(hok b _ (un.frzs b p _ l)).1;have i:=z.at_ _ t;rw[e]at i;cases i;exact⟨_,this⟩
  .exact un.slot b o e (by rw[cE a];exact n) g f
 .by_cases a:b∈fz.map (·.1)
  .exact jV a
  .rw[bT a];exact un.free b o e (by rw[cE a];exact n) f
 .have a:=out e;rw[bT a];exact un.tups b x (by rw[cE a];exact e)
 .have a:=out e;rw[bT a];exact un.frzs b o y (by rw[cE a];exact e)
 .have a:=out e;rw[bT a];exact un.tbls b ps (by rw[cE a];exact e)
def tZ(zs:List (Str×Nat×GD))(sp:Sp)(t:TA):TE:=λσ H Q=>t σ H λc b=>∀a:List Obj,a.length=zs.length->(∀z∈zs,b z.2.2=Kc) ->
 (∀(j:Nat)(z:Str×Nat×GD),zs[j]?=Kb z->∃o w,a[j]?=Kb o/\o.data=.cell w/\∀v,σ[z.2.1]?=Kb (Kb v)->∃u,w=Kb u/\RelV v u) ->
 sp c (hU b ((zs.map (·.2.2)).zip a)) (λv d=>Q v (hideL d (zs.map (·.2.2)))) E0
theorem oQ{Kg:List (GD×Obj)}{σ:St}{H:Hp}{s:GP}(I:Inv X Kg σ H s):∀(zs:List (Str×Nat×GD)),(∀z∈zs,X.N[z.2.1]?=Kb z.1/\(X.env.scope.names.lookup z.1=Kb .cell\/X.env.scope.names.lookup z.1=Kb .free)/\X.env.cells.lookup z.1=Kb z.2.2/\(X.fn z.1=Kd\/(X.base.get? z.2.2=Kc/\z.2.2 ∉ X.fs))) ->
  ∃f:List Obj,f.length=zs.length/\(∀(j:Nat)(z:Str×Nat×GD),zs[j]?=Kb z->∃o w,f[j]?=Kb o/\s.heap.get? z.2.2=Kb o/\o.data=.cell w/\∀v,σ[z.2.1]?=Kb (Kb v)->∃u,w=Kb u/\RelV v u)
 | [],_=>⟨[],U,λj z e=>by simp at e⟩
 |z :: zs,h=>by
  obtain⟨f,y,x⟩:=oQ I zs λq a=>h q (iO _ a)
  obtain⟨A,b,n,E⟩:=h z ff;obtain⟨w,o,e,d⟩:=I.cell _ _ n;refine⟨o :: f,by rw[iK,iK,y],λj q a=>?_⟩
  match j,a with
  |0,a =>
   cases a;refine⟨o,w,U,e,d,λv t=>?_⟩;obtain⟨m,D,B⟩:=I.loc;obtain⟨u,r,l⟩:=B _ _ v A t (.inr b);rcases l with⟨g,_⟩|⟨_,c,k,C,p,i⟩
   .have g:X.env.scope.names.lookup z.1=Kb .local:=g;rcases b with b|b <;> rw[b]at g <;> cases g
   .rw[n]at k;cases k;rw[e]at p;cases p;rw[d]at i;injection i with i;exact⟨u,i,r⟩
  |j+1,a=>exact x j q (by simpa using a)
theorem Ay{Kg:List (GD×Obj)}{σ:St}{H:Hp}{s:GP}{zs:List (Str×Nat×GD)}{g:List Obj}(I:Inv X Kg σ H s)
  (hz:∀z∈zs,X.N[z.2.1]?=Kb z.1/\(X.env.scope.names.lookup z.1=Kb .cell\/X.env.scope.names.lookup z.1=Kb .free)/\X.env.cells.lookup z.1=Kb z.2.2/\(X.fn z.1=Kd\/(X.base.get? z.2.2=Kc/\z.2.2 ∉ X.fs)))(n:g.length=zs.length)
  (k:∀(j:Nat)(z:Str×Nat×GD),zs[j]?=Kb z->∃o w,g[j]?=Kb o/\s.heap.get? z.2.2=Kb o/\o.data=.cell w/\∀v,σ[z.2.1]?=Kb (Kb v)->∃u,w=Kb u/\RelV v u):pK X s ((zs.map (·.2.2)).zip g):=by
 have b:∀p∈(zs.map (·.2.2)).zip g,∃z∈zs,z.2.2=p.1/\s.heap.get? p.1=Kb p.2:=λp a=>by
  obtain⟨j,d⟩:=jC a;rw[rj,gI]at d;cases ez:zs[j]? with
  |none=>rw[ez]at d;cases d.1
  |some z =>
   rw[ez]at d;have i:z.2.2=p.1:=Option.some.inj d.1;obtain⟨o,w,h,m,_⟩:=k j z ez;rw[d.2]at h;cases h;exact⟨z,GB ez,i,i ▸ m⟩
 have new:∀z∈zs,X.base.get? z.2.2=Kc/\z.2.2 ∉ X.fs:=λz c=>by
  obtain⟨_,_,l,f⟩:=hz z c;rcases f with f|f
  .exact I.cellNew l f
  .exact f
 refine⟨λp a=>?_,λp a=>?_,λp a=>?_,λp a=>?_⟩
 .obtain⟨z,c,e,_⟩:=b p a;exact⟨z.1,e ▸ (hz z c).2.2.1⟩
 .obtain⟨z,c,e,_⟩:=b p a;rw[←e];exact(new z c).1
 .obtain⟨z,c,e,_⟩:=b p a;rw[←e];exact(new z c).2
 .obtain⟨z,c,e,h⟩:=b p a;exact h
theorem wQ{zs:List (Str×Nat×GD)}(C:Callee X.prog X.w X.K X.mg X.base k x ps sp)(O:bR k X.A)(R:Gl X x)(S:PA X (e :: es) t)(hz:∀z∈zs,X.N[z.2.1]?=Kb z.1/\(X.env.scope.names.lookup z.1=Kb .cell\/X.env.scope.names.lookup z.1=Kb .free)/\X.env.cells.lookup z.1=Kb z.2.2/\(X.fn z.1=Kd\/(X.base.get? z.2.2=Kc/\z.2.2 ∉ X.fs)))
  (v:(x == ("__debug__" : Str))=false:=by decide) (he:GZ (e :: es) X.env=(Ke,eval e X.env) :: GZ es X.env:=by rfl)(l:(GY pos (GZ es X.env)).any (·.1)=false:=by rfl):PE X (.Call (.Name x p) (e :: es) [] pos) (tZ zs sp t):=by
 obtain⟨f,fd,F,b,M,m⟩:=C;intro Kg s σ H Q I h;refine F8 (gk I R m ?_ v);refine W.callWith_K (h₀:=X.base) I.ok.mod.kin M (thn (S pos Kg s σ H _ I h) λg i ⟨J,V,a,r,q⟩=>⟨a.kIn,?_⟩) he l;obtain⟨B,G,E⟩:=oQ a zs hz;have Y:((zs.map (·.2.2)).zip B).map (·.1)=zs.map (·.2.2):=vO (by rw[bx];lia);have d:=Ay a hz G E;have D:=q B G (λz P=>a.freeC z.1 _ (hz z P).2.2.1) λj z T=>let ⟨o,w,a1,_,a3,a4⟩:=E j z T;⟨o,w,a1,a3,a4⟩
 have n:g.length=ps.length:=by rw[←r.length];exact F.len _ _ _ _ D
 refine HQ (HR (F.run X.A X.stack i _ ⟨g,[]⟩ g J _ E0 O (d.env0 a) (by have:=b i g a.kIn (by rw[jv];exact n);rw[jv]at this;exact this) r D) λL y c=>?_);cases L with
 |error e=>exact bL Kg σ V i e y a c
 |ok fl =>
  cases fl with
  |ret u =>
   have c:CE X.stack X.prog X.w _ i _ u y:=c;refine d.after a ?_;rw[Y];exact c
  |next=>exact False.elim c
  |brk=>exact False.elim c
  |cont=>exact False.elim c
open PySem.W
def wR(tabs:List (GD×GD))(H:Hp):Prop:=∀b,H b=Kc\/(∃o a,H b=Kb (.frz o (.lst a)))\/(b∈tabs.map (·.2)/\H b=Kb (.tbl #[]))
theorem ve{P:GC}{w:Gn}{K:W.Frag}{mg mb:Str->Option Gf}{CX:CXT}{k:Nat}{fa a:GD}{fd:HM}{x:Str}{sp:Sp}{c:GP}{vs:List Gf}{L:List Int}{tabs:List (GD×GD)}
  (KX:K.In c.heap)(C:c.heap.Ns GK mg)(hb:c.heap.Ns GL mb)(a9:∀x:Str,x ≠ "__name__" -> mb x=GN x) (Dw:c.heap.NoLimit)(hg:c.gens = #[])
  (G:c.heap.get? a=Kb { cls:=.type "list",data:=.seq vs.toArray }) (hi:IntsAre vs L)(hl:L.length<=GH)(hr:bR k Ip)
  (M:TabsAt tabs c.heap)(a7:noTabs K=Kd)(a8:∃Q A,mg "__builtins__" = Kb (.ref Q)/\Q≠GL/\c.heap.get? Q=Kb A/\A.cls=.type "module" /\ A.dict=Kb GL/\A.data=.plain)
  (F:∀base:GG,K.In base->base.Ns GK mg->(∀q∈tabs,CodeHd base q.1 q.2/\base.BuiltinsAt mg q.2)->aK P w K mg base CX k fa fd [x] sp)(BW:∀(s:GP)(u:Gf),HN s fd ⟨[u],[]⟩ [(x,u)])
  (a5:∀H:Hp,wR tabs H->SqL K H a (L.map V.int)->(∀q∈tabs,H q.2=Kb (.tbl #[]))->sp [.ref a] H (λv _=>v=.bl Kd) λ_ _ _=>False)
  (c1:∀H e s',CX [] H c (λ_ _ _=>False) e s'->False) :
  HH (model P w) Ip (.call (.ref fa) ⟨[.ref a],[]⟩) (λr s'=>r=.ok (.ret (.bool Kd))/\OldK c.heap s'.heap/\s'.os=c.os/\AllBare s'.gens) c:=by
 have rv:=oz hi;have Dx:=hi.length;have E:∀b∈tabs.map (·.2),c.heap.get? b=Kb (tabObj #[]):=λb f=>by
  obtain⟨q,i,rfl⟩:=en.mp f;exact(M q i).2
 have aT:a ∉ tabs.map (·.2):=λz=>by
  have e:=E a z;rw[G]at e;cases e
 have B:∀H:Hp,wR tabs H->SqL K H a (L.map V.int)->HOk P w H c.heap->(∀b,H b≠Kc->b=a\/b∈tabs.map (·.2))->(H a≠Kc->K.lookup a=Kc)->(∀q∈tabs,H q.2=Kb (.tbl #[])) ->
   HH (model P w) Ip (.call (.ref fa) ⟨[.ref a],[]⟩) (λr s'=>r=.ok (.ret (.bool Kd))/\OldK c.heap s'.heap/\s'.os=c.os/\AllBare s'.gens) c:=by
  intro H hO hS hok hA hK X;have lC:∀{b:GD}{o:Obj},c.heap.get? b=Kb o->H b=Kc->(lH c.heap H).get? b=Kb o:=λe n=>vP e n
  have R:∀{b:GD}{o:Obj},c.heap.get? b=Kb o->(b=a->False)->o≠tabObj #[]->H b=none:=λ{b o} e n1 n2=>by
   cases q:H b with
   |none=>rfl
   |some u =>
    rcases hA b (by rw[q];simp)with z|z
    .exact(n1 z).elim
    .have:=E b z;rw[e]at this;exact Kk (Option.some.inj this) n2
  have a3:∀{b:GD}{o:Obj}{es:Array DictEntry}{I:Nat},c.heap.get? b=Kb o->o.data=.dict es I->H b=none:=λ{b o es I} e d=>R e (λz=>by
   subst z;rw[G]at e;cases e;have O:Data.seq vs.toArray _=Data.dict es I:=d;cases O) (λz=>by rw[z]at d;cases d)
  have S:∀{b:GD}{o:Obj}{T:String},c.heap.get? b=Kb o->o.cls=.type T->T ≠ "list" -> H b=none:=λ{b o T} e d c0=>R e (λz=>by
   subst z;rw[G]at e;cases e;have O:Gf.type "list" = Gf.type T:=d;injection O with O;exact c0 O.symm) (λz=>by rw[z]at d;cases d)
  have y:∀{b:GD}{m:Str->Option Gf},c.heap.Ns b m->(lH c.heap H).Ns b m:=λ{b m} ⟨o,es,I,e,d,r⟩=>⟨o,es,I,lC e (a3 e d),d,r⟩
  have Y:K.In (lH c.heap H):=λb o e=>lC (KX b o e) (by
   cases q:H b with
   |none=>rfl
   |some u =>
    rcases hA b (by rw[q];simp)with z|z
    .subst z;rw[hK (by rw[q];simp)]at e;cases e
    .have j:=E b z;rw[KX b o e]at j;cases j;have h2:=jt.mp a7 (b,tabObj #[]) (mem_of_lookupK e);exact Kk (show Ke=Kd from h2) Bool.false_ne_true)
  have hM:Mod K mg (lH c.heap H):=⟨Y,y C,⟨mb,y hb,a9⟩,let ⟨mc,h1,h2⟩:=Dw;⟨mc,y h1,h2⟩⟩;have e0:qm P w K mg (lH c.heap H) Ip [] c H:=⟨U,hM,λb o e=>yd e,Nat.le_of_eq (uF _ _),trivial,λb hb=>Kk (show b∈([]:List GD)from hb) (by simp),hok,.of_eq hg⟩;have b0:∀q∈tabs,CodeHd (lH c.heap H) q.1 q.2/\(lH c.heap H).BuiltinsAt mg q.2:=λq i=>by
   obtain⟨o,a2,a0,tf,D,tg,a4,Z,tt,N,r1,r2⟩:=(M q i).1;obtain⟨Q,A,b1,b2,J,b4,b5,b6⟩:=a8;refine⟨⟨o,a2,a0,tf,D,tg,a4,Z,tt,lC N (S N r1 (by decide)),r1,r2⟩,Q,A,b1,b2,λz=>?_,λz=>?_,lC J (S J b4 (by decide)),b4,b5,b6⟩
   .obtain⟨o',es,I,e,d,_⟩:=C;rw[z,e]at J;cases J;rw[d]at b6;cases b6
   .have j:=(M q i).2;rw[z,j]at J;cases J;cases b4
  refine HR ((F _ Y (y C) b0).run Ip [] c H ⟨[.ref a],[]⟩ [.ref a] [.ref a] _ _ hr e0 (BW c (.ref a)) (.cons U .nil) (a5 H hO hS X)) λr s' h=>?_
  cases r with
  |error e=>exact(c1 H e s' h).elim
  |ok fl =>
   cases fl with
   |next=>exact False.elim h
   |brk=>exact False.elim h
   |cont=>exact False.elim h
   |ret u =>
    obtain⟨v,H',os,a1,un,BY,r',q⟩:=h;have q':v=.bl true:=q;subst q';obtain rfl:u=Gf.bool true:=r';have kept:∀b o,b ∉ tabs.map (·.2)->c.heap.get? b=Kb o->s'.heap.get? b=Kb o:=λb o f e=>by
     cases q:H b with
     |none=>exact un.keep b o e q (by intro z;exact Kk (show b∈([]:List GD)from z) (by simp)) (by simp)
     |some u =>
      rcases hO b with z|⟨A,xs,z⟩|⟨z,_⟩
      .rw[q]at z;cases z
      .have z2:=un.frzs b A _ z;obtain⟨N,_⟩:=hok b _ z;obtain⟨j,_⟩:=BY b _ z2;rw[e]at N;cases N;exact j
      .exact Kk z f
    have l:∀b∈tabs.map (·.2),isCodeTable c.heap b/\∃g,s'.heap.get? b=Kb (tabObj g):=λb f=>by
     obtain⟨qq,i,rfl⟩:=en.mp f;obtain⟨g,e⟩:=un.tbls _ _ (X qq i);have j:s'.heap.get? qq.2=Kb (tabObj (#[]++g)):=BY _ _ e;exact⟨((M qq i).1.tab (M qq i).2).isCodeTable,_,j⟩
    refine⟨U,⟨λb o e=>?_,λb o e=>?_⟩,os,a1⟩
    .by_cases f:b∈tabs.map (·.2)
     .obtain⟨ht,g,j⟩:=l b f;have e3:=E b f;rw[e]at e3;cases e3;exact .inr (.inl ⟨ht,U,#[],g,U,by rw[Array.empty_append];exact j⟩)
     .exact .inl (kept b o f e)
    .by_cases f:b∈tabs.map (·.2)
     .obtain⟨_,g,j⟩:=l b f;exact⟨_,j⟩
     .exact⟨o,kept b o f e⟩
 cases hk:K.lookup a with
 |some o =>
  have e:=KX a o hk;rw[G]at e;cases e;refine B (λb=>if b∈tabs.map (·.2)then Kb (.tbl #[])else Kc) (λb=>?_) (.inr ⟨_,vs.toArray,_,hk,U,U,U,by rw[dV,Dx];exact hl,by simpa using rv⟩) (λb u z=>?_) (λb z=>?_) (λz=>Kk (Ki aT) z) λq i=>Kj (en.mpr ⟨q,i,U⟩)
  .by_cases f:b∈tabs.map (·.2)
   .exact .inr (.inr ⟨f,Kj f⟩)
   .exact .inl (Ki f)
  .by_cases f:b∈tabs.map (·.2)
   .have t:=(Kj f).symm.trans z;cases t;exact E b f
   .have t:=(Ki f).symm.trans z;cases t
  .by_cases f:b∈tabs.map (·.2)
   .exact .inr f
   .exact Kk (Ki f) z
 |none =>
  refine B (λb=>if b=a then Kb (.frz { cls:=.type "list",data:=.seq vs.toArray } (.lst (L.map V.int)))else if b∈tabs.map (·.2)then Kb (.tbl #[])else Kc) (λb=>?_) (.inl (.inr ⟨{ cls:=.type "list",data:=.seq vs.toArray },Kj U⟩)) (λb u z=>?_) (λb z=>?_) (λ_=>hk) λq i=>?_
  .by_cases f:b=a
   .exact .inr (.inl ⟨_,_,Kj f⟩)
   .by_cases p:b∈tabs.map (·.2)
    .exact .inr (.inr ⟨p,(Ki f).trans (Kj p)⟩)
    .exact .inl ((Ki f).trans (Ki p))
  .by_cases f:b=a
   .have t:=(Kj f).symm.trans z;cases t;subst f;exact⟨G,by rw[bx];exact hl,vs,_,rv,G⟩
   .by_cases p:b∈tabs.map (·.2)
    .have t:=((Ki f).trans (Kj p)).symm.trans z;cases t;exact E b p
    .have t:=((Ki f).trans (Ki p)).symm.trans z;cases t
  .by_cases f:b=a
   .exact .inl f
   .by_cases p:b∈tabs.map (·.2)
    .exact .inr p
    .exact Kk ((Ki f).trans (Ki p)) z
  .have hm:q.2∈tabs.map (·.2):=en.mpr ⟨q,i,U⟩;have a6:q.2≠a:=λz=>aT (z ▸ hm)
   exact(Ki a6).trans (Kj hm)
theorem walk_ofT{l:W.OpenLaw}{n k:Nat}{q:GC}{i:List Str}{XP:(Str->Option Gf)->GG->Prop}{O:Gn->GG->Prop}{d:DefRec}{K:Io->W.Frag}{CX:Gn->CXT}{sp:Gn->Sp}{x:Str}{tabs:Io->List (GD×GD)}{xs:List Str}
  (Z:l.most=Kb n)(E:n<=GH)(J:d.params.defaults=[])(X:bR k Ip)
  (hY:∀(w:Gn)(h:GG),O w h->(K w.params).In h)(D:∀p:Io,noTabs (K p)=Kd)
  (B:∀y∈xs,∃d',(recsOf q).find? (λe=>e.name == y)=Kb d')(Q:∀p:Io,∀t∈tabs p,∃y∈xs,tabIn (K p) y=Kb t)
  (F:∀(w:Gn)(mg:Str->Option Gf)(z:GD)(h:GG),(K w.params).In h->h.Ns GK mg->mg d.name=Kb (.ref z) ->
   ∃fd:HM,(∀(s:GP)(u:Gf),HN s fd ⟨[u],[]⟩ [(x,u)]) /\
    ∀base:GG,(K w.params).In base->base.Ns GK mg->(∀q∈tabs w.params,CodeHd base q.1 q.2/\base.BuiltinsAt mg q.2)->aK l.prog w (K w.params) mg base (CX w) k z fd [x] (sp w))
  (C:∀(w:Gn)(H:Hp)(a:GD)(r:List Int),r.length<=n->wR (tabs w.params) H->SqL (K w.params) H a (r.map V.int)->(∀q∈tabs w.params,H q.2=Kb (.tbl #[]))->sp w [.ref a] H (λv _=>v=.bl Kd) λ_ _ _=>False)
  (N:∀(w:Gn)(H:Hp)(s:GP)(e:Gf)(s':GP),CX w [] H s (λ_ _ _=>False) e s'->False) :
  W.WalkO q i XP O l.row.toRowW d [] (λf vs=>PySem.call f vs):=by
 refine Att.attach_call Z J λw P m mg mb z o pm cd a1 a vs r G Y ho hd a0 I An j c hg=>?_
 have A:=hY w _ Y;obtain⟨fd,hb,hF⟩:=F w mg z _ A G.T.g I;refine ve A G.T.g G.T.b G.T.builtins G.T.nolimit hg An j (yW c E) X (tabs:=tabs w.params) (λt S=>?_) (D w.params) G.T.bmain hF hb (λH hO hS M=>C w H a r c hO hS M) λH e s'=>N w H m e s'
 obtain⟨y,R,e⟩:=Q w.params t S;obtain⟨d',L⟩:=B y R;exact tab_of G.T A L e
theorem Fun.okT{x qual:Str}{st:G5}{f c:GD}{fd:HM}{N ps:List Str}{k:Nat}{sp:Sp}(F:Fun K x qual st f fd)(b:fd.code=.ref c)(S:aq N ps (ak st))(d:∀vs H Q E,sp vs H Q E->vs.length=ps.length)
  (m:∀(A:GO)(a:List Env)(s:GP)(H:Hp)(vs:List V)(Q:VK)(E:XK),bR k (A.deeper (envOfC qual (ak st) s.heap.objs.size f (.ref c)))->sp vs H Q E ->
   ∃t,PSs (qp CX0 P w K mg base N qual (ak st) f (.ref c) A a s H E).nox (dA st) t/\t { nx:=λ_ H'=>Q .non H',rt:=Q } (start N vs) H):aK P w K mg base CX0 (k+1) f fd ps sp:=by
 obtain⟨u,r,kV,o,p,y,i,v,n,rfl,j,g⟩:=F.ex;have b:i=.ref c:=b;subst b;refine zp j g S d λA a s H vs Q E l e=>?_
 obtain⟨t,h,q⟩:=m A a s H vs Q E l e;exact⟨t,h.nox,q⟩
def i4(H:Hp)(f c':GD)(b:Obj)(qual:Str)(cl:List (Str×GD))(ws:List (Str×V)):Prop:=H f=Kb (.frz b TTh)/\(∃a,H c'=Kb (.frz a TTh)/\qP a qual)/\fv H cl ws
theorem i4.same{H H':Hp}{f c':GD}{a:Obj}{qual:Str}{cl:List (Str×GD)}{ws:List (Str×V)}(h:i4 H f c' a qual cl ws)(s:ar H H'):i4 H' f c' a qual cl ws :=
 ⟨s _ _ h.1,let ⟨oc,e,q⟩:=h.2.1;⟨oc,s _ _ e,q⟩,h.2.2.same s⟩
theorem qQ{zs:List (Str×Nat×GD)}{f:List Obj}{H:Hp}{σ:St}{cl:List (Str×GD)}{ws:List (Str×V)}(K:f.length=zs.length)(s:(zs.map (·.2.2)).Nodup)
  (t:∀(j:Nat)(z:Str×Nat×GD),zs[j]?=Kb z->∃o w,f[j]?=Kb o/\o.data=.cell w/\∀v,σ[z.2.1]?=Kb (Kb v)->∃u,w=Kb u/\RelV v u)
  (C:∀c∈cl.map (·.2),∃z∈zs,z.2.2=c)(B:∀(x:Str)(v:V),ws.lookup x=Kb v->∃z∈zs,cl.lookup x=Kb z.2.2/\σ[z.2.1]?=Kb (Kb v)):fv (hU H ((zs.map (·.2.2)).zip f)) cl ws:=by
 have h:∀z∈zs,∃o w,hU H ((zs.map (·.2.2)).zip f) z.2.2=Kb (.frz o TTh)/\o.data=.cell w/\∀v,σ[z.2.1]?=Kb (Kb v)->∃u,w=Kb u/\RelV v u:=λz g=>by
  obtain⟨j,p⟩:=jC g;obtain⟨o,w,m,l,G⟩:=t j z p;have J:((zs.map (·.2.2)).zip f).map (·.1)=zs.map (·.2.2):=vO (by rw[bx];lia);obtain⟨q,y,F⟩:=gv (H:=H) (fz:=(zs.map (·.2.2)).zip f) (b:=z.2.2) (by rw[J];exact en.mpr ⟨z,g,U⟩);obtain⟨i,k⟩:=jC y;rw[rj]at k;have D:(zs.map (·.2.2))[j]?=Kb z.2.2:=by rw[gI,p];rfl
  obtain⟨M,I⟩:=Gz.mp k.1;obtain⟨L,b2⟩:=Gz.mp D;have n:i=j:=(xZ s).mp (I.trans b2.symm);subst n;have E:o=q:=Option.some.inj (m.symm.trans k.2);subst E;exact⟨o,w,F,l,G⟩
 refine⟨λc A=>?_,λx v e=>?_⟩
 .obtain⟨z,g,rfl⟩:=C c A;obtain⟨o,w,a,b,_⟩:=h z g;exact⟨o,w,a,b⟩
 .obtain⟨z,g,m,l⟩:=B x v e;obtain⟨o,w,a,b,d⟩:=h z g;obtain⟨u,rfl,r⟩:=d v l;exact⟨z.2.2,o,u,m,a,b,r⟩
theorem wV{a:GQ}{cl:List (Str×GD)}(h:(a.names.all λy=>match y.2 with | .free=>(cl.map (·.1)).any (y.1 == ·)|_=>Kd)=Kd):∀y∈a.names,y.2=.free->∃c,cl.lookup y.1=Kb c:=λy d e=>by
 have:=jt.mp h y d;rw[e]at this;obtain⟨z,b,g⟩:=ya.mp this;obtain⟨p,f,rfl⟩:=en.mp b;cases q:cl.lookup y.1 with
 |some c=>exact⟨c,U⟩
 |none =>
  have:=List.lookup_eq_none_iff.mp q p f;simp[bne,g]at this
theorem um{N:List Str}{a:GQ}{ws:List (Str×V)}(h:((ws.map (·.1)).all λx=>match a.names.lookup x with|some .free=>Kd|_=>Ke)=Kd):∀y∈N,∀v,ws.lookup y=Kb v->a.names.lookup y=Kb .free:=λy _ v e=>by
 have:=jt.mp h y (en.mpr ⟨(y,v),mem_of_lookup e,U⟩);split at this
 .assumption
 .cases this
theorem tab_mk{K:Frag}{x qual:Str}{st:G5}{f c P:GD}{g kV doc pm m:Gf}{d n:Option GD}{b:Array (Option Gf)}{j:Gf}{i:Option GD}{vs:Array Gf}{h:Array (Option Gf)}(a:nsIn K GK x=Kb (Kb (.ref f)))
  (l:K.lookup f=Kb ⟨g,d,.func (fnOf x qual (gn st) (dA st) (ak st) .none kV doc pm n (.ref c) m),b⟩)(k:K.lookup c=Kb ⟨j,i,.fields vs,h⟩)(e:vs[11]?=Kb (.ref P)):tabIn K x=Kb (c,P):=by
 unfold tabIn;rw[a];simp only[l];show(match K.lookup c with|some ⟨_,_,.fields vs,_⟩=>(match (vs[11]?:Option Gf)with|some (.ref P)=>Kb (c,P)|_=>Kc)|_=>Kc)=Kb (c,P);rw[k];simp only[e]
section
variable{zs:List (Str×Nat×GD)}{os:List Obj}{H2:Hp}
theorem mq(a:os.length=zs.length):((zs.map (·.2.2)).zip os).map (·.1)=zs.map (·.2.2):=vO (by rw[bx];lia)
theorem mr(c:os.length=zs.length)(d:∀z∈zs,H z.2.2=Kc):ar H (hU H ((zs.map (·.2.2)).zip os)):=λb u e=>by
 rw[cE λm=>?_]
 .exact e
 .rw[mq c]at m;obtain⟨z,a,rfl⟩:=en.mp m;rw[d z a]at e;cases e
theorem hide_same(d:os.length=zs.length)(a:∀z∈zs,H z.2.2=Kc)(s:ar (hU H ((zs.map (·.2.2)).zip os)) H2):ar H (hideL H2 (zs.map (·.2.2))):=λb u e=>by
 rw[bT λm=>?_]
 .exact s _ _ (mr d a _ _ e)
 .obtain⟨z,c,rfl⟩:=en.mp m;rw[a z c]at e;cases e
end
abbrev T3a(α:Type):=Int×Int×α
def Fm(L:Type):Nat->Type
 |0=>L
 |n+1=>List (Int×Int×Fm L n)
def Fm.dec{L:Type} [d:DecidableEq L]:(n:Nat)->DecidableEq (Fm L n)
 |0=>d
 |n+1=>have:=Fm.dec (L:=L) n;(inferInstance:DecidableEq (List (Int×Int×Fm L n)))
instance {L:Type} [DecidableEq L] (n:Nat):DecidableEq (Fm L n):=Fm.dec n
section
variable{α:Type}
def cR [DecidableEq α] (f:List (T3a α))(t:T3a α):List (T3a α):=match f.getLast? with
 |some l=>if l.2.2=t.2.2 then f.dropLast++[(l.1,t.2.1,t.2.2)]else f++[t]
 |none=>f++[t]
def d8 [DecidableEq α] (ts:List (T3a α)):List (T3a α):=ts.foldl cR []
def Ch3:List (T3a α)->Int->Int->Prop
 | [],lo,hi=>lo=hi+1
 |t :: r,lo,hi=>t.1=lo/\lo<=t.2.1/\Ch3 r (t.2.1+1) hi
theorem Ch3.snoc{t:T3a α}:∀{f:List (T3a α)}{lo mid:Int},Ch3 f lo mid->t.1=mid+1->t.1<=t.2.1->Ch3 (f++[t]) lo t.2.1
 | [],lo,mid,h,e,l=>⟨by rw[e];exact h.symm,by have:lo=mid+1:=h;lia,U⟩
 |u :: f,lo,mid,h,e,l=>⟨h.1,h.2.1,Ch3.snoc (f:=f) h.2.2 e l⟩
theorem Ch3.unsnoc{t:T3a α}:∀{f:List (T3a α)}{lo hi:Int},Ch3 (f++[t]) lo hi->t.2.1=hi/\t.1<=t.2.1/\Ch3 f lo (t.1-1)
 | [],lo,hi,h=>⟨by have:t.2.1+1=hi+1:=h.2.2;lia,by have:=h.1;have:=h.2.1;lia,by show lo=t.1-1+1;have:=h.1;lia⟩
 |u :: f,lo,hi,h=>let ⟨a,b,c⟩:=Ch3.unsnoc (f:=f) h.2.2;⟨a,b,h.1,h.2.1,c⟩
def Nbx(ys:List α):Prop:=∀(i:Nat)(a b:α),ys[i]?=Kb a->ys[i+1]?=Kb b->a≠b
theorem Nbx.snoc{ys:List α}{y:α}(h:Nbx ys)(e:∀l,ys.getLast?=Kb l->l≠y):Nbx (ys++[y]):=λi a b d c=>by
 have hi:=(Gz.mp c).1;simp only[cK,hQ]at hi;by_cases g:i+1<ys.length
 .rw[iP (by lia)]at d;rw[iP g]at c;exact h i a b d c
 .have f:i+1=ys.length:=by lia
  rw[iP (by lia)]at d;rw[f]at c;simp at c;subst c;refine e a ?_;rw[List.getLast?_eq_getElem?];rw[show ys.length-1=i by lia];exact d
def vAt(f:List (T3a α))(c:Int):Option α:=(f.find? λt=>decide (c<=t.2.1)).map (·.2.2)
theorem iG(f g:List (T3a α))(c:Int):vAt (f++g) c=(vAt f c).or (vAt g c):=by
 unfold vAt;rw[List.find?_append];cases f.find? _ <;> rfl
theorem pL(t:T3a α)(c:Int):vAt [t] c=if c<=t.2.1 then Kb t.2.2 else none:=by
 unfold vAt;by_cases h:c<=t.2.1 <;> simp[h]
structure vg(ts f:List (T3a α))(lo hi:Int):Prop where
 ch:Ch3 f lo hi
 nb:Nbx (f.map (·.2.2))
 va:∀c,vAt f c=vAt ts c
 mem:∀t∈f,∃t'∈ts,t'.2.2=t.2.2
 ne:ts≠[]->f≠[]
theorem vg.step [DecidableEq α] {ts f:List (T3a α)}{lo mid:Int}{t:T3a α}(h:vg ts f lo mid)(e:t.1=mid+1)(l:t.1<=t.2.1):vg (ts++[t]) (cR f t) lo t.2.1:=by
 rcases wh f with j|⟨g,u,j⟩
 .subst j;have:cR [] t=[t]:=rfl;rw[this];refine⟨Ch3.snoc (f:=[]) h.ch e l,λi a b y p=>by simp at p,λc=>?_,λv d=>⟨t,by simp,by rw[hZ.mp d]⟩,λ_=>by simp⟩;rw[iG,←h.va c];rfl
 .rw[w4]at j;subst j;have o:=h.ch.unsnoc;have s:(g++[u]).getLast?=Kb u:=by simp
  unfold cR;rw[s];simp only;by_cases q:u.2.2=t.2.2
  .rw[Kj q];have w:(g++[u]).dropLast=g:=by simp
   rw[w];have r:(g++[((u.1,t.2.1,t.2.2):T3a α)]).map (·.2.2)=(g++[u]).map (·.2.2):=by simp[q]
   refine⟨Ch3.snoc (t:=((u.1,t.2.1,t.2.2):T3a α)) o.2.2 (by show u.1=u.1-1+1;lia) (by show u.1<=t.2.1;lia),by rw[r];exact h.nb,λc=>?_,λv d=>?_,λ_=>by simp⟩
   .rw[iG ts,←h.va c,iG,iG,pL,pL,pL];show(vAt g c).or (if c<=t.2.1 then Kb t.2.2 else Kc)=((vAt g c).or (if c<=u.2.1 then Kb u.2.2 else Kc)).or (if c<=t.2.1 then Kb t.2.2 else Kc);cases vAt g c with
    |some x=>rfl
    |none =>
     by_cases n:c<=u.2.1
     .rw[Kj n,Kj (by lia),q];rfl
     .rw[Ki n];rfl
   .rcases gg.mp d with d|d
    .obtain⟨k,a,b⟩:=h.mem v (kC _ d);exact⟨k,kC _ a,b⟩
    .rw[hZ.mp d];exact⟨t,by simp,U⟩
  .rw[Ki q];refine⟨h.ch.snoc e l,?_,λc=>?_,λv d=>?_,λ_=>by simp⟩
   .rw[iv];refine Nbx.snoc h.nb λz m=>?_
    rw[iv]at m;simp at m;rw[←m];exact q
   .rw[iG,iG ts,h.va c]
   .rcases gg.mp d with d|d
    .obtain⟨k,a,b⟩:=h.mem v d;exact⟨k,kC _ a,b⟩
    .rw[hZ.mp d];exact⟨t,by simp,U⟩
theorem qR [DecidableEq α]:∀{r ts f:List (T3a α)}{lo mid hi:Int},vg ts f lo mid->Ch3 r (mid+1) hi->vg (ts++r) (r.foldl cR f) lo hi
 | [],ts,f,lo,mid,hi,h,c=>by
  have:mid=hi:=by have:mid+1=hi+1:=c;lia
  subst this;rw[jv];exact h
 |t :: r,ts,f,lo,mid,hi,h,c=>by
  have:=qR (r:=r) (h.step c.1 (by have:=c.1;have:=c.2.1;lia)) c.2.2;rw[mv]at this;exact this
theorem dX [DecidableEq α] {ts:List (T3a α)}{lo hi:Int}(h:Ch3 ts lo hi):vg ts (d8 ts) lo hi :=
 qR (ts:=[]) (f:=[]) (mid:=lo-1) ⟨by show lo=lo-1+1;lia,λi a b e d=>by simp at d,λ_=>U,λt c=>by simp at c,λz=>Kk U z⟩ (by rw[show lo-1+1=lo by lia];exact h)
theorem Ch3.at:∀{f:List (T3a α)}{lo hi c:Int},Ch3 f lo hi->lo<=c->c<=hi->∃(j:Nat)(t:T3a α),f[j]?=Kb t/\t.1<=c/\c<=t.2.1/\(∀(i:Nat)(u:T3a α),i<j->f[i]?=Kb u->u.2.1<c)/\vAt f c=Kb t.2.2
 | [],lo,hi,c,h,h1,h2=>by have:lo=hi+1:=h;lia
 |t :: r,lo,hi,c,h,h1,h2=>by
  by_cases q:c<=t.2.1
  .exact⟨0,t,U,by have:=h.1;lia,q,λi u hi=>Kk hi (zj i),by unfold vAt;rw[mW (by simpa using q)];rfl⟩
  .obtain⟨j,u,a,b,d,e,v⟩:=Ch3.at (f:=r) h.2.2 (c:=c) (by lia) h2;refine⟨j+1,u,by simpa using a,b,d,λi w hi g=>?_,by unfold vAt at v⊢;rw[ni (by simpa using q)];exact v⟩
   match i,g with
   |0,g=>cases g;lia
   |i+1,g=>exact e i w (by lia) (by simpa using g)
end
def lay{L:Type} [DecidableEq L] (g:List Int->L):(cols:List (List (Int×Int)))->List Int->Fm L cols.length
 | [],ah=>g ah
 |c :: cs,ah=>d8 (c.map λp=>((p.1,p.2,lay g cs (ah++[p.1])):T3a (Fm L cs.length)))
def ShS{α:Type}(S:α->List (Int×Int)->Prop)(f:List (T3a α))(ps:List (Int×Int)):Prop:=∃p r,ps=p :: r/\f≠[]/\Ch3 f p.1 p.2/\Nbx (f.map (·.2.2))/\∀t∈f,S t.2.2 r
def cw{L:Type}:(n:Nat)->Fm L n->List (Int×Int)->Prop
 |0,_,ps=>ps=[]
 |n+1,f,ps=>ShS (cw n) f ps
def yz:List (Int×Int)->Int->Int->Prop
 | [],lo,hi=>lo=hi+1
 |p :: r,lo,hi=>p.1=lo/\lo<=p.2/\yz r (p.2+1) hi
theorem wW{α:Type}(F:Int×Int->α):∀{c:List (Int×Int)}{lo hi:Int},yz c lo hi->Ch3 (c.map λp=>((p.1,p.2,F p):T3a α)) lo hi
 | [],lo,hi,h=>h
 |p :: r,lo,hi,h=>⟨h.1,h.2.1,wW F h.2.2⟩
inductive fS:List (List (Int×Int))->List (Int×Int)->Prop
 |nil:fS [] []
 |cons {c:List (Int×Int)}{cs:List (List (Int×Int))}{p:Int×Int}{ps:List (Int×Int)}:c≠[]->yz c p.1 p.2->fS cs ps->fS (c :: cs) (p :: ps)
theorem mw{L:Type} [DecidableEq L] {g:List Int->L}{a:List (List (Int×Int))}{ps:List (Int×Int)}(h:fS a ps):∀b:List Int,cw a.length (lay g a b) ps:=by
 induction h with
 |nil=>intro b;exact(rfl:([]:List (Int×Int))=[])
 | @cons c cs p ps hne hc _ ih =>
  intro b;have k:=dX (wW (λq=>lay g cs (b++[q.1])) hc);refine⟨p,ps,U,k.ne (by simpa using hne),k.ch,k.nb,λt d=>?_⟩;obtain⟨i,f,e⟩:=k.mem t d;obtain⟨q,_,rfl⟩:=en.mp f;rw[←e];exact ih _
def bW(a:List (Int×Int))(c:Int):Int:=((a.find? λp=>decide (c<=p.2)).map (·.1)).getD 0
theorem uo{α:Type}(F:Int×Int->α)(c:Int):∀a:List (Int×Int),vAt (a.map λp=>((p.1,p.2,F p):T3a α)) c=(a.find? λp=>decide (c<=p.2)).map F
 | []=>rfl
 |p :: r=>by
  unfold vAt;rw[mu];by_cases q:c<=p.2
  .rw[mW (by simpa using q),mW (by simpa using q)];rfl
  .rw[ni (by simpa using q),ni (by simpa using q)];exact uo F c r
inductive Tel{L:Type}:(n:Nat)->Fm L n->List Int->L->Prop
 |nil (x:L):Tel 0 x [] x
 |cons {n:Nat}{f:List (T3a (Fm L n))}{c:Int}{cs:List Int}{x:L}{j:Nat}{t:T3a (Fm L n)}:f[j]?=Kb t->c<=t.2.1->(∀(i:Nat)(u:T3a (Fm L n)),i<j->f[i]?=Kb u->u.2.1<c)->Tel n t.2.2 cs x->Tel (n+1) f (c :: cs) x
inductive InB:List Int->List (Int×Int)->Prop
 |nil:InB [] []
 |cons {c:Int}{cs:List Int}{p:Int×Int}{ps:List (Int×Int)}:p.1<=c->c<=p.2->InB cs ps->InB (c :: cs) (p :: ps)
theorem lD{L:Type} [DecidableEq L] {g:List Int->L}{a:List (List (Int×Int))}{ps:List (Int×Int)}(h:fS a ps):∀(d b:List Int),InB b ps->Tel a.length (lay g a d) b (g (d++List.zipWith bW a b)):=by
 induction h with
 |nil=>intro d b e;cases e;rw[List.zipWith_nil_left,jv];exact .nil _
 | @cons c a p ps hne hc _ ih =>
  intro d b e;cases e with
  | @cons x b _ _ h1 h2 e =>
   have k:=dX (wW (λq=>lay g a (d++[q.1])) hc);obtain⟨j,t,o,r,n,m,f⟩:=k.ch.at h1 h2;rw[k.va,uo]at f;cases e6:c.find? (λp=>decide (x<=p.2)) with
   |none=>rw[e6]at f;cases f
   |some q =>
    rw[e6]at f;have l:lay g a (d++[q.1])=t.2.2:=Option.some.inj f;have i:bW c x=q.1:=by unfold bW;rw[e6];rfl
    refine .cons o n m ?_;rw[←l,List.zipWith_cons_cons,i];have:=ih (d++[q.1]) b e;rw[mv]at this;exact this
def FmL{α:Type}(R:α->V->Prop)(H:Hp)(f:List (T3a α))(xs:List V):Prop:=xs.length=f.length/\∀(i:Nat)(t:T3a α),f[i]?=Kb t->∃(r:GD)(u:V),xs[i]?=Kb (.ref r)/\H r=Kb (.tup [.int t.1,.int t.2.1,u])/\R t.2.2 u
def kX(K:W.Frag)(H:Hp):Prop:=∀(r:GD)(b a:List V),SqT K H r b->SqT K H r a->b=a
inductive d9(K:W.Frag)(H:Hp):Nat->V->V->Bool->Prop where
 |of {n:Nat}{x y:V}{b:Bool}(h:DEq K H n x y b):d9 K H n x y b
 |ti {n:Nat}{a:GD}{xs:List V}{i:Int}(h:SqT K H a xs):d9 K H n (.ref a) (.int i) Ke
 |it {n:Nat}{a:GD}{xs:List V}{i:Int}(h:SqT K H a xs):d9 K H n (.int i) (.ref a) Ke
 |tup {n:Nat}{a b:GD}{xs ys:List V}{f:Nat->Bool}(ne:a≠b)(ha:SqT K H a xs)(hb:SqT K H b ys)(h:∀(j:Nat)(x y:V),xs[j]?=Kb x->ys[j]?=Kb y->d9 K H n x y (f j)):d9 K H (n+1) (.ref a) (.ref b) ((List.range (min xs.length ys.length)).all f && xs.length == ys.length)
theorem d9.mono{K:W.Frag}{H:Hp}{n m:Nat}{x y:V}{b:Bool}(e:d9 K H n x y b)(h:n<=m):d9 K H m x y b:=by
 induction e generalizing m with
 |of e=>exact .of (e.mono h)
 |ti e=>exact .ti e
 |it e=>exact .it e
 |tup a f d _ c =>
  obtain⟨m,rfl⟩:∃k,m=k+1:=⟨m-1,by lia⟩;exact .tup a f d λj x y i g=>c j x y i g (by lia)
theorem BZ(I:Inv X Kg σ H s):kX X.K H:=λr p m l k=>by
 obtain⟨c,h,j,_⟩:=I.tuple l;obtain⟨a,f,i,_⟩:=I.tuple k;obtain⟨o,e,_,n,d⟩:=j;obtain⟨q,g,_,t,b⟩:=i;rw[e]at g;cases g;rw[d]at b;injection b with b;have:c=a:=by simpa using b
 rw[←this]at f;exact Vals.inj h f
theorem d9.at{n:Nat}{x y:V}{b:Bool}(e:d9 X.K H n x y b)(I:Inv X Kg σ H s):∀{A:GO}{u v:Gf},A.units+n<HK->RelV x u->RelV y v->SeqAt.EqAt A s u v b:=by
 induction e with
 |of e=>intro A u v l k g;exact e.at I l k g
 | @ti n a xs i h =>
  intro A u v l k g;cases (show u=Gf.ref a from k);obtain⟨t,rfl⟩:=g;obtain⟨c,r,p,_⟩:=I.tuple h;exact SeqAt.EqAt.tuple_int i t (show s.heap.IsTuple a c.toArray from p) (by lia)
 | @it n a xs i h =>
  intro A u v l k g;obtain⟨t,rfl⟩:=k;cases (show v=Gf.ref a from g);obtain⟨c,r,p,_⟩:=I.tuple h;exact SeqAt.EqAt.int_tuple i t (show s.heap.IsTuple a c.toArray from p) (by lia)
 | @tup n a b xs ys f ne ha hb h ih =>
  intro A u v l k g;cases (show u=Gf.ref a from k);cases (show v=Gf.ref b from g);obtain⟨c,r,p,_⟩:=I.tuple ha;obtain⟨d,m,z,_⟩:=I.tuple hb;have G:=r.length;have F:=m.length;have o:=SeqAt.RcAt.tuples (A:=A) (e:=f) (show s.heap.IsTuple a c.toArray from p) (show s.heap.IsTuple b d.toArray from z) (by lia) (λj C B=>by
   obtain⟨x,E,w⟩:=gW r C;obtain⟨y,D,q⟩:=gW m B;exact ih j x y E D (by show A.units+1+n<HK;lia) w q)
  rw[show c.toArray.size=xs.length by simp only[dV];lia,show d.toArray.size=ys.length by simp only[dV];lia]at o;exact SeqAt.EqAt.of_refs ne o
inductive pM(K:W.Frag)(neg:Bool)(x:V)(y:V)(H:Hp)(Q:VK):Prop
 |tt (a b:GD)(xs ys:List V)(_:x=.ref a)(_:y=.ref b)(_:SqT K H a xs)(_:SqT K H b ys)(f:Nat->Bool)(_:(∀(j:Nat)(x y:V),xs[j]?=Kb x->ys[j]?=Kb y->d9 K H 60 x y (f j)))(_:Q (.bl (if neg then !((List.range (min xs.length ys.length)).all f && xs.length == ys.length) else(List.range (min xs.length ys.length)).all f && xs.length == ys.length)) H):pM K neg x y H Q
 |ti (a:GD)(xs:List V)(i:Int)(_:x=.ref a)(_:y=.int i)(_:SqT K H a xs)(_:Q (.bl neg) H):pM K neg x y H Q
 |it (a:GD)(xs:List V)(i:Int)(_:x=.int i)(_:y=.ref a)(_:SqT K H a xs)(_:Q (.bl neg) H):pM K neg x y H Q
theorem qS{Kg:List (GD×Obj)}{σ:St}{H:Hp}{s:GP}{A:GO}{xs ys:List V}{a its':List Gf}{f:Nat->Bool}(I:Inv X Kg σ H s)(h:A.units+60<HK)(r:Vals xs a)(d:Vals ys its')
  (hf:∀(j:Nat)(x y:V),xs[j]?=Kb x->ys[j]?=Kb y->d9 X.K H 60 x y (f j)):∀j (c:j<a.toArray.size)(b:j<its'.toArray.size),SeqAt.EqAt A s a.toArray[j] its'.toArray[j] (f j):=λj c b=>by
 obtain⟨x,k,g⟩:=gW r c;obtain⟨y,i,e⟩:=gW d b;exact(hf j x y k i).at I h g e
theorem AA{k:Nat}(E:bR k X.A):OpR X (HB .Eq) (pM X.K Ke):=by
 intro Kg s σ H x y v u Q I n m h;have L:=E.units;cases h with
 |tt a b o J j g d G f F q =>
  subst j g;cases (show v=Gf.ref a from n);cases (show u=Gf.ref b from m);obtain⟨c,r,p,_⟩:=I.tuple d;obtain⟨l,z,B,_⟩:=I.tuple G;have D:=r.length;have C:=z.length;refine SeqAt.eq_tupleAt (e:=f) (show s.heap.IsTuple a c.toArray from p) (show s.heap.IsTuple b l.toArray from B) (by lia) (qS I (by show X.A.units+1+60<HK;lia) r z F) ⟨.bl _,H,I,U,?_⟩;simp only[dV];rw[←D,←C];exact q
 |ti a o i j g d q =>
  subst j g;cases (show v=Gf.ref a from n);obtain⟨t,rfl⟩:=m;obtain⟨c,r,p,_⟩:=I.tuple d;exact SeqAt.RcAt.tuple_int i t (show s.heap.IsTuple a c.toArray from p) (by lia) X.prog X.w X.xe _ ⟨.bl _,H,I,U,q⟩
 |it a o i j g d q =>
  subst j g;obtain⟨t,rfl⟩:=n;cases (show u=Gf.ref a from m);obtain⟨c,r,p,_⟩:=I.tuple d;exact SeqAt.RcAt.int_tuple i t (show s.heap.IsTuple a c.toArray from p) (by lia) X.prog X.w X.xe _ ⟨.bl _,H,I,U,q⟩
theorem AB{k:Nat}(E:bR k X.A):OpR X (HB .NotEq) (pM X.K Kd):=by
 intro Kg s σ H x y v u Q I n m h;have L:=E.units;cases h with
 |tt a b o J j g d G f F q =>
  subst j g;cases (show v=Gf.ref a from n);cases (show u=Gf.ref b from m);obtain⟨c,r,p,_⟩:=I.tuple d;obtain⟨l,z,B,_⟩:=I.tuple G;have D:=r.length;have C:=z.length;refine SeqAt.RcNeAt.tuples (e:=f) (show s.heap.IsTuple a c.toArray from p) (show s.heap.IsTuple b l.toArray from B) (by lia) (qS I (by show X.A.units+1+60<HK;lia) r z F) X.prog X.w X.xe _ ⟨.bl _,H,I,U,?_⟩;simp only[dV];rw[←D,←C];exact q
 |ti a o i j g d q =>
  subst j g;cases (show v=Gf.ref a from n);obtain⟨t,rfl⟩:=m;obtain⟨c,r,p,_⟩:=I.tuple d;exact SeqAt.RcNeAt.tuple_int i t (show s.heap.IsTuple a c.toArray from p) (by lia) X.prog X.w X.xe _ ⟨.bl _,H,I,U,q⟩
 |it a o i j g d q =>
  subst j g;obtain⟨t,rfl⟩:=n;cases (show u=Gf.ref a from m);obtain⟨c,r,p,_⟩:=I.tuple d;exact SeqAt.RcNeAt.int_tuple i t (show s.heap.IsTuple a c.toArray from p) (by lia) X.prog X.w X.xe _ ⟨.bl _,H,I,U,q⟩
def rFm(K:W.Frag):R2:=λx y H Q=>kX K H->rEq x y H Q\/pM K Ke x y H Q
def B1(K:W.Frag):R2:=λx y H Q=>kX K H->rNe x y H Q\/pM K Kd x y H Q
structure Lfp(K:W.Frag)(L:Type) [DecidableEq L] where
 R:Hp->L->V->Prop
 mono:∀{H H':Hp}{x:L}{v:V},bM H H'->R H x v->R H' x v
 inj:∀{H:Hp}{x y:L}{v:V},kX K H->R H x v->R H y v->x=y
 deq:∀{H:Hp}{x y:L}{u v:V},kX K H->R H x u->R H y v->d9 K H 2 u v (Kf (x=y))
 eq:∀{H:Hp}{x y:L}{u v:V}{Q:VK},kX K H->R H x u->R H y v->Q (.bl (Kf (x=y))) H->rEq u v H Q\/pM K Ke u v H Q
 ne:∀{H:Hp}{x y:L}{u v:V}{Q:VK},kX K H->R H x u->R H y v->Q (.bl (!Kf (x=y))) H->rNe u v H Q\/pM K Kd u v H Q
def FmV{K:W.Frag}{L:Type} [DecidableEq L] (A:Lfp K L)(H:Hp):(n:Nat)->Fm L n->V->Prop
 |0,x,v=>A.R H x v
 |n+1,f,v=>∃(a:GD)(xs:List V),v=.ref a/\H a=Kb (.tup xs)/\FmL (FmV A H n) H f xs
theorem FmL.mono{α:Type}{R d:α->V->Prop}{H H':Hp}{f:List (T3a α)}{xs:List V}(h:FmL R H f xs)(k:∀x u,R x u->d x u)(s:bM H H'):FmL d H' f xs:=⟨h.1,λi t e=>by
 obtain⟨r,u,a,b,c⟩:=h.2 i t e;exact⟨r,u,a,s _ _ b,k _ _ c⟩⟩
theorem FmV.mono{K:W.Frag}{L:Type} [DecidableEq L] {A:Lfp K L}{H H':Hp}(s:bM H H'):∀{n:Nat}{f:Fm L n}{v:V},FmV A H n f v->FmV A H' n f v
 |0,_,_,h=>A.mono s h
 |n+1,_,_,h=>by
  obtain⟨a,xs,d,c,b⟩:=h;exact⟨a,xs,d,s _ _ c,b.mono (λ_ _ q=>FmV.mono s q) s⟩
theorem FmL.nil{α:Type}{R:α->V->Prop}{H:Hp}:FmL R H [] []:=⟨U,λi t e=>by simp at e⟩
theorem FmL.snoc{α:Type}{R:α->V->Prop}{H:Hp}{f:List (T3a α)}{xs:List V}{t:T3a α}{r:GD}{u:V}(h:FmL R H f xs)(k:H r=Kb (.tup [.int t.1,.int t.2.1,u]))(q:R t.2.2 u):FmL R H (f++[t]) (xs++[.ref r]):=by
 refine⟨by simp[h.1],λi v e=>?_⟩;by_cases hi:i<f.length
 .rw[iP hi]at e;obtain⟨j,g,a,b,c⟩:=h.2 i v e;exact⟨j,g,by rw[iP (by rw[h.1];exact hi)];exact a,b,c⟩
 .have d:i=f.length:=by
   have:=(Gz.mp e).1;simp at this;lia
  subst d;simp at e;subst e;exact⟨r,u,by rw[←h.1];simp,k,q⟩
theorem FmL.init{α:Type}{R:α->V->Prop}{H:Hp}{f:List (T3a α)}{xs:List V}{t:T3a α}(h:FmL R H (f++[t]) xs):∃(ys:List V)(r:GD)(u:V),xs=ys++[.ref r]/\FmL R H f ys/\H r=Kb (.tup [.int t.1,.int t.2.1,u])/\R t.2.2 u:=by
 obtain⟨r,u,a,b,c⟩:=h.2 f.length t (by simp);have g:=h.1;rw[cK,hQ]at g;rcases wh xs with d|⟨ys,y,d⟩
 .subst d;simp at g
 .rw[w4]at d;subst d;have j:ys.length=f.length:=by simpa using g
  rw[←j]at a;simp at a;subst a;refine⟨ys,r,u,U,⟨j,λi v e=>?_⟩,b,c⟩;have hi:=(Gz.mp e).1;obtain⟨m,l,k,o,n⟩:=h.2 i v (by rw[iP hi];exact e);rw[iP (by lia)]at k;exact⟨m,l,k,o,n⟩
theorem FmL.inj{α:Type}{R:α->V->Prop}{H:Hp}{f g:List (T3a α)}{xs:List V}(k:∀x y u,R x u->R y u->x=y)(h:FmL R H f xs)(h':FmL R H g xs):f=g:=by
 refine vM λi=>?_
 cases e:f[i]? with
 |none =>
  have:f.length<=i:=List.getElem?_eq_none_iff.mp e;rw[List.getElem?_eq_none_iff.mpr (by rw[←h'.1,h.1];exact this)]
 |some t =>
  have hi:=(Gz.mp e).1;obtain⟨j,m⟩:∃j,g[i]?=Kb j:=⟨_,Gy (l:=g) (i:=i) (by rw[←h'.1,h.1];exact hi)⟩;obtain⟨r,u,a,b,c⟩:=h.2 i t e;obtain⟨A,s,o,d,n⟩:=h'.2 i _ m;rw[a]at o;cases o;rw[b]at d;obtain⟨z,w,v⟩:=t;obtain⟨D,C,B⟩:=j;simp only at d c n;injection d with d;injection d with d;simp only[List.cons.injEq,V.int.injEq,and_true]at d;obtain⟨q,p,rfl⟩:=d;rw[m,q,p,k _ _ _ c n]
theorem FmV.inj{K:W.Frag}{L:Type} [DecidableEq L] {A:Lfp K L}{H:Hp}(e:kX K H):∀{n:Nat}{f g:Fm L n}{v:V},FmV A H n f v->FmV A H n g v->f=g
 |0,_,_,_,h,h'=>A.inj e h h'
 |n+1,_,_,_,h,h'=>by
  obtain⟨a,xs,l,k,j⟩:=h;obtain⟨o,m,c,b,d⟩:=h';rw[l]at c;cases c;rw[k]at b;cases b;exact FmL.inj (R:=FmV A H n) (λx y u q i=>FmV.inj e q i) j d
theorem FmL.deq{α:Type} [DecidableEq α] {R:α->V->Prop}{K:W.Frag}{H:Hp}{m:Nat}{f g:List (T3a α)}{xs ys:List V}(inj:∀x y u,R x u->R y u->x=y)(k:∀x y u v,R x u->R y v->d9 K H m u v (Kf (x=y)))
  (h:FmL R H f xs)(h':FmL R H g ys):(∀(j:Nat)(x y:V),xs[j]?=Kb x->ys[j]?=Kb y->d9 K H (m+1) x y (Kf (f[j]?=g[j]?)))/\((List.range (min xs.length ys.length)).all (λj=>decide (f[j]?=g[j]?)) && xs.length == ys.length)=Kf (f=g):=by
 refine⟨λj x y l o=>?_,?_⟩
 .have P:j<f.length:=by rw[←h.1];exact(Gz.mp l).1
  have E:j<g.length:=by rw[←h'.1];exact(Gz.mp o).1
  have J:=Gy P;have I:=Gy E;obtain⟨r,u,a,b,c⟩:=h.2 j _ J;obtain⟨N,F,L,p,D⟩:=h'.2 j _ I;rw[l]at a;cases a;rw[o]at L;cases L;rw[J,I];generalize f[j]=t at *
  generalize g[j]=t' at *
  obtain⟨w,s,B⟩:=t;obtain⟨A,z,C⟩:=t';simp only at b p c D;by_cases G:r=N
  .subst G;rw[b]at p;injection p with p;injection p with p;simp only[List.cons.injEq,V.int.injEq,and_true]at p;obtain⟨z1,M,rfl⟩:=p;have:decide (Kb (w,s,B)=Kb (A,z,C))=true:=by rw[z1,M,inj _ _ _ c D];simp
   rw[this];exact .of (.same r)
  .have d:=d9.tup (K:=K) (H:=H) (n:=m) (f:=λi=>match i with|0=>decide (w=A)|1=>decide (s=z)|_=>decide (B=C)) G (SqT.of b) (SqT.of p) λi x y l o=>?_
   .have e:((List.range (min [V.int w,V.int s,u].length [V.int A,V.int z,F].length)).all (λi=>match i with|0=>decide (w=A)|1=>decide (s=z)|_=>decide (B=C)) && [V.int w,V.int s,u].length == [V.int A,V.int z,F].length)=Kf (Kb (w,s,B)=Kb (A,z,C)):=by
     show((List.range 3).all (λi=>match i with|0=>decide (w=A)|1=>decide (s=z)|_=>decide (B=C)) && Kd)=_;have:List.range 3=[0,1,2]:=rfl;rw[this];simp only[qy,List.all_nil,Bool.and_true,Option.some.injEq,Prod.mk.injEq,Bool.decide_and]
    rw[e]at d;exact d
   .match i,l,o with
    |0,l,o=>cases l;cases o;exact .of (.flat U U)
    |1,l,o=>cases l;cases o;exact .of (.flat U U)
    |2,l,o=>cases l;cases o;exact k _ _ _ _ c D
    |i+3,l,_=>simp at l
 .rw[h.1,h'.1];by_cases e:f=g
  .subst e;simp
  .rw[Km e];by_cases O:f.length=g.length
   .rw[Bool.and_eq_false_iff];left
    refine BJ.mpr λq=>e (vM λi=>?_)
    rw[jt]at q;by_cases hi:i<f.length
    .exact Kn (q i (ju.mpr (by lia)))
    .rw[List.getElem?_eq_none_iff.mpr (by lia),List.getElem?_eq_none_iff.mpr (by lia)]
   .simp[O]
theorem FmV.deq{K:W.Frag}{L:Type} [DecidableEq L] {A:Lfp K L}{H:Hp}(j:kX K H):∀{n:Nat}{f g:Fm L n}{u v:V},FmV A H n f u->FmV A H n g v->d9 K H (2*n+2) u v (Kf (f=g))
 |0,f,g,_,_,h,h'=>A.deq j h h'
 |n+1,f,g,_,_,h,h'=>by
  obtain⟨a,xs,rfl,l,k⟩:=h;obtain⟨b,r,rfl,c,i⟩:=h';obtain⟨p,o⟩:=FmL.deq (R:=FmV A H n) (K:=K) (m:=2*n+2) (λx y u q d=>FmV.inj j q d) (λx y u v q d=>FmV.deq j q d) k i;by_cases e:a=b
  .subst e;rw[l]at c;cases c;have:f=g:=FmL.inj (R:=FmV A H n) (λx y u q d=>FmV.inj j q d) k i;rw[Kl this];exact .of (.same a)
  .have:=d9.tup e (SqT.of l) (SqT.of c) p;rw[o]at this;exact this
theorem oR{f:Gf->Gf->Sem Gf}{r e:R2}(a:OpR X f r)(b:OpR X f e):OpR X f (λx y H Q=>r x y H Q\/e x y H Q):=λKg s σ H x y v u Q I d c h=>h.elim (a Kg s σ H x y v u Q I d c) (b Kg s σ H x y v u Q I d c)
theorem AE{k:Nat}(c:bR k X.A):OpR X (HB .Eq) (rFm X.K):=λKg s σ H x y v u Q I b a h=>oR br (AA c) Kg s σ H x y v u Q I b a (h (BZ I))
theorem AF{k:Nat}(c:bR k X.A):OpR X (HB .NotEq) (B1 X.K):=λKg s σ H x y v u Q I b a h=>oR om (AB c) Kg s σ H x y v u Q I b a (h (BZ I))
theorem FmV.eq_to{K:W.Frag}{L:Type} [DecidableEq L] {A:Lfp K L}{H:Hp}{Q:VK}:∀{n:Nat}{f g:Fm L n}{u v:V},n<=20->FmV A H n f u->FmV A H n g v->Q (.bl (Kf (f=g))) H->rFm K u v H Q
 |0,f,g,_,_,_,h,h',q=>λc=>A.eq c h h' q
 |n+1,f,g,_,_,hn,h,h',q=>λc=>by
  obtain⟨a,xs,rfl,o,l⟩:=h;obtain⟨b,k,rfl,i,e⟩:=h';obtain⟨t,s⟩:=FmL.deq (R:=FmV A H n) (K:=K) (m:=2*n+2) (λx y u q d=>FmV.inj c q d) (λx y u v q d=>FmV.deq c q d) l e;refine .inr <| .tt a b xs k U U (SqT.of o) (SqT.of i) _ (λj x y r p=>(t j x y r p).mono (by lia)) ?_;rw[Ki (by decide),s];exact q
theorem wX(x y:Int):decide (V.int x=V.int y)=Kf (x=y):=by
 by_cases e:x=y
 .rw[Kl e,e];simp
 .rw[Km e];exact Km λz=>e (V.int.inj z)
theorem wY(x y:Int):eqV (.int x) (.int y)=Kf (x=y):=by
 show((x:Int) == (y:Int))=Kf (x=y);by_cases e:x=y
 .rw[Kl e,e];simp
 .rw[Km e];exact beq_eq_false_iff_ne.mpr e
def wZ{K:W.Frag}:Lfp K Int where
 R _ x v:=v=.int x
 mono _ h:=h
 inj _ h h':=V.int.inj (h.symm.trans h')
 deq {H x y u v} _ h h':=by
  cases h;cases h';rw[←wY];exact .of (.flat U U)
 eq {H x y u v Q} _ h h' q:=by
  cases h;cases h';refine .inl ⟨U,?_⟩;rw[wX];exact q
 ne {H x y u v Q} _ h h' q:=by
  cases h;cases h';refine .inl ⟨U,?_⟩;rw[wX];exact q
abbrev SI2:=Str×Int
def tp2(p:SI2):List V:=[.str p.1,.int p.2]
theorem yA{p q:SI2}(h:tp2 p=tp2 q):p=q:=by
 injection h with b a;injection a with a c;exact Prod.ext (V.str.inj b) (V.int.inj a)
def Vd(K:W.Frag)(H:Hp)(r:GD)(x:SI2):Prop:=H r=Kb (.tup (tp2 x))\/ModT K r (tp2 x)
theorem Vd.sq{K:W.Frag}{H:Hp}{r:GD}{x:SI2}(h:Vd K H r x):SqT K H r (tp2 x):=h.elim (λh=>SqT.of h) λh=>h.sq H
theorem Vd.mono{K:W.Frag}{H H':Hp}{r:GD}{x:SI2}(s:bM H H')(h:Vd K H r x):Vd K H' r x:=h.imp (λh=>s _ _ h) id
theorem Vd.inj{K:W.Frag}{H:Hp}{r:GD}{x y:SI2}(a:kX K H)(h:Vd K H r x)(h':Vd K H r y):x=y:=yA (a r _ _ h.sq h'.sq)
theorem AG(x y:Str):eqV (.str x) (.str y)=Kf (x=y):=by unfold eqV;rw[Bool.eq_iff_iff];simp
def fSI(x y:SI2)(j:Nat):Bool:=if j=0 then decide (x.1=y.1)else decide (x.2=y.2)
theorem pN(x y:SI2):((List.range (min (tp2 x).length (tp2 y).length)).all (fSI x y) && (tp2 x).length == (tp2 y).length)=Kf (x=y):=by
 show((List.range 2).all (fSI x y) && (2 == 2:Bool))=_;obtain⟨d,c⟩:=x;obtain⟨b,a⟩:=y;unfold fSI;by_cases f:d=b <;> by_cases e:c=a <;> simp[kD,f,e]
theorem sW{K:W.Frag}{H:Hp}{n:Nat}{x y:SI2}(j:Nat)(u v:V)(a:(tp2 x)[j]?=Kb u)(b:(tp2 y)[j]?=Kb v):d9 K H n u v (fSI x y j):=by
 match j,a,b with
 |0,a,b =>
  cases a;cases b;show d9 K H n _ _ (Kf (x.1=y.1));rw[←AG];exact .of (.flat U U)
 |1,a,b =>
  cases a;cases b;show d9 K H n _ _ (Kf (x.2=y.2));rw[←wY];exact .of (.flat U U)
 |j+2,a,_=>simp[tp2]at a
theorem Vd.deq{K:W.Frag}{H:Hp}{n:Nat}{a b:GD}{x y:SI2}(c:kX K H)(h:Vd K H a x)(h':Vd K H b y):d9 K H (n+1) (.ref a) (.ref b) (Kf (x=y)):=by
 by_cases e:a=b
 .subst e;rw[Kl (Vd.inj c h h')];exact .of (.same a)
 .have:=d9.tup (n:=n) e h.sq h'.sq (f:=fSI x y) sW;rw[pN]at this;exact this
def LVd{K:W.Frag}:Lfp K SI2 where
 R H x v:=∃r,v=.ref r/\Vd K H r x
 mono s:=λ⟨r,e,h⟩=>⟨r,e,h.mono s⟩
 inj {H x y v} hT h h':=by
  obtain⟨r,rfl,h⟩:=h;obtain⟨a,e,h'⟩:=h';cases e;exact Vd.inj hT h h'
 deq {H x y u v} hT h h':=by
  obtain⟨r,rfl,h⟩:=h;obtain⟨a,rfl,h'⟩:=h';exact Vd.deq (n:=1) hT h h'
 eq {H x y u v Q} hT h h' q:=by
  obtain⟨r,rfl,h⟩:=h;obtain⟨a,rfl,h'⟩:=h';refine .inr (.tt r a _ _ U U h.sq h'.sq (fSI x y) sW ?_);rw[Ki (by decide),pN];exact q
 ne {H x y u v Q} hT h h' q:=by
  obtain⟨r,rfl,h⟩:=h;obtain⟨a,rfl,h'⟩:=h';refine .inr (.tt r a _ _ U U h.sq h'.sq (fSI x y) sW ?_);rw[Kj U,pN];exact q
def PdV(K:W.Frag)(H:Hp)(t:GD)(p:SI2×SI2):Prop:=∃a b,H t=Kb (.tup [.ref a,.ref b])/\Vd K H a p.1/\Vd K H b p.2
theorem PdV.mono{K:W.Frag}{H H':Hp}{t:GD}{p:SI2×SI2}(s:bM H H')(h:PdV K H t p):PdV K H' t p:=by obtain⟨a,b,e,d,c⟩:=h;exact⟨a,b,s _ _ e,d.mono s,c.mono s⟩
def fPd(x y:SI2×SI2)(j:Nat):Bool:=if j=0 then decide (x.1=y.1)else decide (x.2=y.2)
theorem pO(x y:SI2×SI2)(a b c d:V):((List.range (min [a,b].length [c,d].length)).all (fPd x y) && [a,b].length == [c,d].length)=Kf (x=y):=by
 show((List.range 2).all (fPd x y) && (2 == 2:Bool))=_;obtain⟨h,g⟩:=x;obtain⟨f,e⟩:=y;unfold fPd;by_cases j:h=f <;> by_cases i:g=e <;> simp[kD,j,i]
theorem sX{K:W.Frag}{H:Hp}{n:Nat}{x y:SI2×SI2}{a b c d:GD}(g:kX K H)(l:Vd K H a x.1)(k:Vd K H b x.2)(i:Vd K H c y.1)(h:Vd K H d y.2)(j:Nat)(u v:V)(e:[V.ref a,V.ref b][j]?=Kb u)(f:[V.ref c,V.ref d][j]?=Kb v):d9 K H (n+1) u v (fPd x y j):=by
 match j,e,f with
 |0,e,f=>cases e;cases f;exact Vd.deq g l i
 |1,e,f=>cases e;cases f;exact Vd.deq g k h
 |j+2,e,_=>simp at e
theorem my{α:Type} [DecidableEq α] (x y:α):decide (Kb x=Kb y)=Kf (x=y):=by
 by_cases e:x=y
 .rw[Kl e,e];exact Kl U
 .rw[Km e];exact Km λz=>e (Option.some.inj z)
def RPd(K:W.Frag)(H:Hp):Option (SI2×SI2)->V->Prop
 |none,v=>v=.int 0
 |some p,v=>∃t,v=.ref t/\PdV K H t p
def LPd{K:W.Frag}:Lfp K (Option (SI2×SI2)) where
 R:=RPd K
 mono {H H' x v} s h:=by
  cases x with
  |none=>exact h
  |some p=>obtain⟨t,e,h⟩:=h;exact⟨t,e,h.mono s⟩
 inj {H x y v} hT h h':=by
  cases x with
  |none =>
   cases y with
   |none=>rfl
   |some p=>obtain⟨t,e,_⟩:=h';rw[show v=.int 0 from h]at e;cases e
  |some p =>
   obtain⟨t,rfl,a,b,e,j,i⟩:=h;cases y with
   |none=>cases (show V.ref t=.int 0 from h')
   |some q =>
    obtain⟨k,g,r,o,l,d,c⟩:=h';cases g;rw[e]at l;cases l;rw[Prod.ext (Vd.inj hT j d) (Vd.inj hT i c)]
 deq {H x y u v} hT h h':=by
  cases x with
  |none =>
   cases (show u=.int 0 from h);cases y with
   |none=>cases (show v=.int 0 from h');exact .of (.flat U U)
   |some p=>obtain⟨t,rfl,a,b,e,_⟩:=h';exact .it (SqT.of e)
  |some p =>
   obtain⟨t,rfl,a,b,e,j,i⟩:=h;cases y with
   |none=>cases (show v=.int 0 from h');exact .ti (SqT.of e)
   |some q =>
    obtain⟨k,rfl,r,o,g,d,c⟩:=h';rw[my];by_cases w:t=k
    .subst w;rw[e]at g;cases g;rw[Kl (Prod.ext (Vd.inj hT j d) (Vd.inj hT i c))];exact .of (.same t)
    .have:=d9.tup (n:=1) w (SqT.of e) (SqT.of g) (f:=fPd p q) (sX (n:=0) hT j i d c);rw[pO]at this;exact this
 eq {H x y u v Q} hT h h' q:=by
  cases x with
  |none =>
   cases (show u=.int 0 from h);cases y with
   |none=>cases (show v=.int 0 from h');exact .inl ⟨U,q⟩
   |some p=>obtain⟨t,rfl,a,b,e,_⟩:=h';exact .inr (.it t _ 0 U U (SqT.of e) q)
  |some p =>
   obtain⟨t,rfl,a,b,e,j,i⟩:=h;cases y with
   |none=>cases (show v=.int 0 from h');exact .inr (.ti t _ 0 U U (SqT.of e) q)
   |some m =>
    obtain⟨k,rfl,r,o,g,d,c⟩:=h';refine .inr (.tt t k _ _ U U (SqT.of e) (SqT.of g) (fPd p m) (sX (n:=59) hT j i d c) ?_);rw[Ki (by decide),pO,←my];exact q
 ne {H x y u v Q} hT h h' q:=by
  cases x with
  |none =>
   cases (show u=.int 0 from h);cases y with
   |none=>cases (show v=.int 0 from h');exact .inl ⟨U,q⟩
   |some p=>obtain⟨t,rfl,a,b,e,_⟩:=h';exact .inr (.it t _ 0 U U (SqT.of e) q)
  |some p =>
   obtain⟨t,rfl,a,b,e,j,i⟩:=h;cases y with
   |none=>cases (show v=.int 0 from h');exact .inr (.ti t _ 0 U U (SqT.of e) q)
   |some m =>
    obtain⟨k,rfl,r,o,g,d,c⟩:=h';refine .inr (.tt t k _ _ U U (SqT.of e) (SqT.of g) (fPd p m) (sX (n:=59) hT j i d c) ?_);rw[Kj U,pO,←my];exact q
theorem oS(p:Pos)(a b:Int)(c:Gf):∀(l:List Gf),TriplesOk l->JZ p (l++[Ht a,Ht b,c])=(JZ p l).or (JZ p [Ht a,Ht b,c])
 | [],_=>rfl
 | .int x t :: .int y u :: d :: rest,h=>by
  have e:=oS p a b c rest h;show JZ p (.int x t :: .int y u :: d :: (rest++[Ht a,Ht b,c]))=_;rw[JZ,JZ];split
  .rfl
  .exact e
def dI(H:Hp)(P:GD)(L:List (Pos×Str)):Prop:=∃ps,H P=Kb (.tbl ps)/\TriplesOk ps.toList/\∀p∈L,JZ p.1 ps.toList=Kc\/∃(b:GD)(a:Obj),JZ p.1 ps.toList=Kb (.ref b)/\H b=Kb (.frz a TTh)/\qP a p.2
theorem dI.same{H H':Hp}{P:GD}{L:List (Pos×Str)}(h:dI H P L)(s:ar H H'):dI H' P L:=by
 obtain⟨ps,i,g,f⟩:=h;exact⟨ps,s _ _ i,g,λp e=>(f p e).imp id λ⟨c,o,a,b,d⟩=>⟨c,o,a,s _ _ b,d⟩⟩
theorem dI.new{H:Hp}{P:GD}{L:List (Pos×Str)}(h:H P=Kb (.tbl #[])):dI H P L:=⟨#[],h,trivial,λ_ _=>.inl U⟩
def Dy(P:GD)(pos:Pos)(qual:Str)(mk:Gf->GD->Gf->Obj)(clos:List (Str×GD)):TE:=λ_ H Q=>∃L,(pos,qual)∈L/\(∀p∈L,p.1.line=pos.line->p.1.col=pos.col->p.2=qual)/\dI H P L /\
 ∀(f e:GD)(d:Obj)(g c:Gf)(H':Hp),H f=Kc->(∀b o,b≠P->H b=Kb o->H' b=Kb o)->H' f=Kb (.frz (mk g e c) TTh)->H' e=Kb (.frz d TTh)->qP d qual->dI H' P L->(∀x y a,clos.lookup x=Kb a->clos.lookup y=Kb a->x=y)->Q (.ref f) H'
theorem w6{params:HX}{body:GW}{scope:GQ}{pos:Pos}{c P:GD}{clos:List (Str×GD)}(zF:X.env.code=.ref c)
  (C:W.CodeHd X.base c P)(hb:X.base.BuiltinsAt X.mg P)(V:Ir scope X.env=pure clos)(S:∀p∈clos,X.env.cells.lookup p.1=Kb p.2)(B2:defaultsOf params X.env=([],[]):=by rfl) :
  PE X (.Lambda params body scope pos) (Dy P pos (X.env.qual ++ "<lambda>") (λpm c' ctv=>W.kla_obj "<lambda>" (X.env.qual ++ "<lambda>") params body scope clos pm c' ctv) clos):=by
 intro Kg s σ H Q I h;obtain⟨L,hL,b0,⟨ps,r,N,G⟩,k⟩:=h;have B:s.heap.get? P=Kb (W.tabObj ps):=I.hok P _ r;have J:s.heap.Ns GK X.mg:=I.mod.glob.keeps I.bk;have a8:GK≠P:=λq=>by
  obtain⟨o,es,ep,e,M,_⟩:=J;rw[q,B]at e;cases e;cases M
 have inj:∀x y a,clos.lookup x=Kb a->clos.lookup y=Kb a->x=y:=λx y a E h2=>I.ok.inj x y a (S _ (mem_of_lookup E)) (S _ (mem_of_lookup h2))
 rcases G _ hL with a7|⟨c',j,hf,K,A⟩
 .refine W.kla_eval B2 (W.kla_makeFunction V I.ok.glob J zF (C.keeps I.bk) B N a7 a8 (hb.keeps I.bk) λc' ctv h' tk a5 l R Dz O=>?_);obtain⟨b1,j,vs,t,e2,a6,a9,hv⟩:=Dz;cases e2;have T:∀b,s.heap.objs.size<=b->H b=none:=λb f=>I.hok.fresh f
  have Y:P<s.heap.objs.size:=GG.lt_size B;have a4:c'≠P:=λz=>by rw[z]at l;exact Kk Y (BI.mpr l)
  have g:s.heap.objs.size<=h'.objs.size:=yW l (zf R);have a3:h'.objs.size≠P:=λz=>by rw[z]at g;exact Kk Y (BI.mpr g)
  have a2:h'.objs.size≠c':=zb R;have m:=T _ g;have K:=T _ l;have i:∀{b:GD}{u:HO},b≠P->H b=Kb u->upd (upd (upd H P (.tbl (ps ++ #[Ht pos.line,Ht pos.col,.ref c']))) c' (.frz j TTh)) h'.objs.size (.frz (W.kla_obj "<lambda>" (X.env.qual ++ "<lambda>") params body scope clos ((X.mg "__name__").getD .none) c' ctv) TTh) b=Kb u:=λ{b u} f e=>by
   rw[ay (bf e m),ay (bf e K),ay f];exact e
  have a0:upd (upd (upd H P (.tbl (ps ++ #[Ht pos.line,Ht pos.col,.ref c']))) c' (.frz j TTh)) h'.objs.size (.frz (W.kla_obj "<lambda>" (X.env.qual ++ "<lambda>") params body scope clos ((X.mg "__name__").getD .none) c' ctv) TTh) P=Kb (.tbl (ps ++ #[Ht pos.line,Ht pos.col,.ref c'])):=by
   rw[ay a3.symm,ay a4.symm,ab]
  have F:∀{b:GD},H b=Kc->b≠P:=λe z=>by rw[z,r]at e;cases e
  have keep:∀b o,b≠P->s.heap.get? b=Kb o->(h'.push (W.kla_obj "<lambda>" (X.env.qual ++ "<lambda>") params body scope clos ((X.mg "__name__").getD .none) c' ctv)).get? b=Kb o:=λb o f e=>GG.get?_push_of_some _ (a5 b o f e)
  have un:Un X.fs [] H (upd (upd (upd H P (.tbl (ps ++ #[Ht pos.line,Ht pos.col,.ref c']))) c' (.frz j TTh)) h'.objs.size (.frz (W.kla_obj "<lambda>" (X.env.qual ++ "<lambda>") params body scope clos ((X.mg "__name__").getD .none) c' ctv) TTh)) s.heap (h'.push (W.kla_obj "<lambda>" (X.env.qual ++ "<lambda>") params body scope clos ((X.mg "__name__").getD .none) c' ctv)):=by
   refine⟨λb o e n _ _=>keep b o (F n) e,λb o e n _ _=>⟨o.slots,keep b o (F n) e⟩,λb o e n _=>?_,λb o e _=>?_,λb xs e=>i (λz=>by rw[z,r]at e;cases e) e,λb o u e=>i (λz=>by rw[z,r]at e;cases e) e,λb a1 e=>?_⟩
   .have f:=GG.lt_size e;rw[ay (yv (yU f g)),ay (yv (yU f l)),ay (F n)];exact n
   .by_cases f:b=P
    .subst f;exact⟨_,GG.get?_push_of_some _ O⟩
    .exact⟨o,keep b o f e⟩
   .by_cases f:b=P
    .subst f;rw[r]at e;cases e;exact⟨_,a0⟩
    .exact⟨#[],by rw[i f e];simp⟩
  have hok:HOk X.prog X.w (upd (upd (upd H P (.tbl (ps ++ #[Ht pos.line,Ht pos.col,.ref c']))) c' (.frz j TTh)) h'.objs.size (.frz (W.kla_obj "<lambda>" (X.env.qual ++ "<lambda>") params body scope clos ((X.mg "__name__").getD .none) c' ctv) TTh)) (h'.push (W.kla_obj "<lambda>" (X.env.qual ++ "<lambda>") params body scope clos ((X.mg "__name__").getD .none) c' ctv)):=λb u e=>by
   by_cases E:b=h'.objs.size
   .subst E;rw[ab]at e;cases e;exact qO (GG.get?_push_size _ U)
   rw[ay E]at e;by_cases h2:b=c'
   .subst h2;rw[ab]at e;cases e;exact qO (GG.get?_push_of_some _ a6)
   rw[ay h2]at e;by_cases h3:b=P
   .subst h3;rw[ab]at e;cases e;exact GG.get?_push_of_some _ O
   rw[ay h3]at e;refine(I.hok b u e).stay (λd v M q=>keep d v ?_ q) (λd q=>i (λz=>by rw[z,r]at q;cases q) q) λd xs q=>i (λz=>by rw[z,r]at q;cases q) q
   rcases M with rfl|M
   .exact h3
   .exact λz=>by rw[z,r]at M;cases M
  have I2:=I.un (t':=tk) un hok;have A:qP j (X.env.qual ++ "<lambda>"):=⟨vs,t,a9,hv⟩;have Z:upd (upd (upd H P (.tbl (ps ++ #[Ht pos.line,Ht pos.col,.ref c']))) c' (.frz j TTh)) h'.objs.size (.frz (W.kla_obj "<lambda>" (X.env.qual ++ "<lambda>") params body scope clos ((X.mg "__name__").getD .none) c' ctv) TTh) c'=Kb (.frz j TTh):=(ay a2.symm).trans ab;refine⟨.ref h'.objs.size,_,I2,U,k _ c' j _ ctv _ m (λb o f e=>i f e) ab Z A ⟨_,a0,?_,λp hp=>?_⟩ inj⟩
  .rw[Array.toList_append];exact TriplesOk_snoc _ _ _ _ N
  .rw[Array.toList_append];show JZ p.1 (ps.toList++[Ht pos.line,Ht pos.col,.ref c'])=Kc\/∃(d:GD)(j:Obj),JZ p.1 (ps.toList++[Ht pos.line,Ht pos.col,.ref c'])=Kb (.ref d)/\_;rw[oS _ _ _ _ _ N];rcases G p hp with q|⟨d,od,q1,q2,q3⟩
   .rw[q];show JZ p.1 [Ht pos.line,Ht pos.col,.ref c']=Kc\/∃(d:GD)(j:Obj),JZ p.1 [Ht pos.line,Ht pos.col,.ref c']=Kb (.ref d)/\_;by_cases e:p.1.line=pos.line/\p.1.col=pos.col
    .have e3:JZ p.1 [Ht pos.line,Ht pos.col,.ref c']=Kb (.ref c'):=by
      show(if ((pos.line:Int) == (p.1.line:Int) && (pos.col:Int) == (p.1.col:Int))=Kd then Kb (Gf.ref c')else Kc)=_;rw[e.1,e.2];simp
     exact .inr ⟨c',j,e3,Z,by rw[b0 p hp e.1 e.2];exact A⟩
    .left
     show(if ((pos.line:Int) == (p.1.line:Int) && (pos.col:Int) == (p.1.col:Int))=Kd then Kb (Gf.ref c')else Kc)=Kc;rw[Ki λz=>e ?_];rw[BO,beq_iff_eq,beq_iff_eq]at z;lia
   .exact .inr ⟨d,od,by rw[q1];rfl,i (λz=>by rw[z,r]at q2;cases q2) q2,q3⟩
 .refine W.kla_eval B2 (W.kla_makeFunctionHit V I.ok.glob J zF (C.keeps I.bk) B N hf (hb.keeps I.bk) λctv h' tk kp g=>?_);have m:H h'.objs.size=none:=I.hok.fresh g;have D:ar H (upd H h'.objs.size (.frz (W.kla_obj "<lambda>" (X.env.qual ++ "<lambda>") params body scope clos ((X.mg "__name__").getD .none) c' ctv) TTh)):=af m _;have keep:∀b o,s.heap.get? b=Kb o->(h'.push (W.kla_obj "<lambda>" (X.env.qual ++ "<lambda>") params body scope clos ((X.mg "__name__").getD .none) c' ctv)).get? b=Kb o:=λb o e=>GG.get?_push_of_some _ (kp b o e)
  have un:Un X.fs [] H (upd H h'.objs.size (.frz (W.kla_obj "<lambda>" (X.env.qual ++ "<lambda>") params body scope clos ((X.mg "__name__").getD .none) c' ctv) TTh)) s.heap (h'.push (W.kla_obj "<lambda>" (X.env.qual ++ "<lambda>") params body scope clos ((X.mg "__name__").getD .none) c' ctv)):=by
   refine⟨λb o e n _ _=>keep b o e,λb o e n _ _=>⟨o.slots,keep b o e⟩,λb o e n _=>?_,λb o e _=>⟨o,keep b o e⟩,λb xs e=>D _ _ e,λb o u e=>D _ _ e,λb a1 e=>⟨#[],by rw[D _ _ e];simp⟩⟩;have f:=GG.lt_size e;rw[ay (yv (yU f g))];exact n
  have hok:HOk X.prog X.w (upd H h'.objs.size (.frz (W.kla_obj "<lambda>" (X.env.qual ++ "<lambda>") params body scope clos ((X.mg "__name__").getD .none) c' ctv) TTh)) (h'.push (W.kla_obj "<lambda>" (X.env.qual ++ "<lambda>") params body scope clos ((X.mg "__name__").getD .none) c' ctv)):=λb u e=>by
   by_cases E:b=h'.objs.size
   .subst E;rw[ab]at e;cases e;exact qO (GG.get?_push_size _ U)
   rw[ay E]at e;exact(I.hok b u e).stay (λd v _ q=>keep d v q) (λd q=>D _ _ q) λd xs q=>D _ _ q
  have I2:=I.un (t':=tk) un hok;exact⟨.ref h'.objs.size,_,I2,U,k _ c' j _ ctv _ m (λb o _ e=>D _ _ e) ab (D _ _ K) A (dI.same ⟨ps,r,N,G⟩ D) inj⟩
theorem AH{CX:CXT}{P:GC}{w:Gn}{K:W.Frag}{mg:Str->Option Gf}{base:GG}{k:Nat}{f c':GD}{name qual:Str}{params:HX}{body:GW}{scope:GQ}{cl:List (Str×GD)}{pm ctv:Gf}{N ps:List Str}{sp:Sp}
  (S:pI N ps scope cl)(inj:∀x y c,cl.lookup x=Kb c->cl.lookup y=Kb c->x=y)
  (len:∀vs H Q E,sp vs H Q E->vs.length=ps.length)
  (gP:∀(A:GO)(g:List Env)(s:GP)(H:Hp)(vs:List V)(Q:VK)(E:XK),bR k (A.deeper (W.envX qual scope s.heap.objs.size f (.ref c') cl))->sp vs H Q E ->
   (∃M,H f=Kb (.frz (W.kla_obj name qual params body scope cl pm c' ctv) TTh)/\H c'=Kb (.frz M TTh)/\qP M qual)/\∃ws,fv H cl ws/\(∀x∈N.drop ps.length,∀v,ws.lookup x=Kb v->scope.names.lookup x=Kb .free) /\
   ((∀c∈cl.map (·.2),base.get? c=Kc/\c ∉ frs g)->∃t:TE,PE (cxC CX P w K mg base N qual scope f (.ref c') cl A g s H E) body t/\t (kv N ps vs ws) (hideL H (cl.map (·.2))) λv H'=>(∀c∈cl.map (·.2),H' c=Kc)->Q v (backL H H' (cl.map (·.2))))) :
  aK P w K mg base CX (k+1) f (W.kla_fn name qual params body scope cl pm (.ref c') ctv) ps sp:=by
 refine⟨len,λA g s H b0 us vs Q E hr l hb r R=>?_⟩;have hl:=len _ _ _ _ R;obtain⟨⟨M,ef,ec,a0,t',a7,a6⟩,ws,Y,tT,B3⟩:=gP A g s H vs Q E (hr.deeper _) R;obtain⟨t,ht,hq⟩:=B3 λc D=>by
  obtain⟨o,e⟩:=Y.fzs c D;refine⟨?_,λz=>by rw[l.frf c z]at e;cases e⟩;cases eb:base.get? c with
  |none=>rfl
  |some ob=>rw[(l.bs c ob eb).2]at e;cases e
 have a2:s.heap.NoLimit:=l.mod.nolimit.keeps λb o e=>(l.bs b o e).1
 have eo:s.heap.get? f=Kb (W.kla_obj name qual params body scope cl pm c' ctv):=(l.hok f _ ef).1;have a9:s.heap.get? c'=Kb M:=(l.hok c' _ ec).1;have a3:us.length=ps.length:=by rw[←r.length];exact hl
 have a1:ps.Nodup:=by rw[←S.pre];exact S.nd.sublist (vf _ _)
 have fz:=Y.fzs;have T:∀{x:Str}{c:GD},cl.lookup x=Kb c->c∈cl.map (·.2):=λe=>mn e
 refine W.kla_callFunE hr.depth eo U S.co S.gen U ⟨c',M,a0,t',U,a9,a7,a6⟩ (hb _ _ _ _ ?_);refine Iz S.nocell (λx n=>S.par x.1 (tw n).1) (λB a5 a4=>?_) S.kind;have j:∀b o,s.heap.get? b=Kb o->B.get? b=Kb o:=λb o e=>a4.extBut b o (yv (GG.lt_size e)) (GG.get?_push_of_some _ e)
 refine⟨a2.keeps j,W.kla_codeExpr ?_⟩;have G:∀{b:GD},H b=Kc->hideL H (cl.map (·.2)) b=none:=λh=>gu h
 have I:Inv (cxC CX P w K mg base N qual scope f (.ref c') cl A g s H E) [] (kv N ps vs ws) (hideL H (cl.map (·.2))) { s with heap:=B,toks:=s.toks+(ps.zip us).length }:=by
  have F:∀b:GD,b ∉ (cxC CX P w K mg base N qual scope f (.ref c') cl A g s H E).ex:=λb z=>Kk (show b∈([]:List GD)from z) (by simp)
  refine⟨⟨l.mod,S.kind,U,U,yr _,λx y c L m=>inj x y c L m,λx n=>?_,λx c hf=>?_,λ_=>hr.hd,GO.frames_deeper l.frames,.inr ⟨U,U⟩,λb z=>Kk z (F b),λb o e=>⟨(l.bs b o e).1,G (l.bs b o e).2⟩,l.bsz,λb _ _=>F b,λb z=>Kk z (F b),l.funs,λb hb=>G (l.frf b hb)⟩,
   rfl,l.bare,Un.kept j,⟨_,a5,λi x v L m h3=>?_⟩,λx c h=>?_,G (l.hok.fresh (yr _)),λx c h=>jV (T h),λp Z=>Kk (show p∈([]:List (GD×Obj))from Z) (by simp),(l.hok.hideL fz).kept j,?_⟩
  .have n:scope.names.lookup x=Kb .cell\/scope.names.lookup x=Kb .free:=n;rcases n with n|n
   .exact Kk U (S.nocell _ (mem_of_lookup n))
   .exact S.has _ (mem_of_lookup n) U
  .exact Kk (show Ke=Kd from hf) Bool.false_ne_true
  .have L:N[i]?=Kb x:=L;unfold kv at m;by_cases hi:i<vs.length
   .rw[iP (by simpa using hi),gI]at m;have ha:vs[i]?=Kb v:=by
     cases e:vs[i]? with
     |none=>rw[e]at m;cases m
     |some a=>rw[e]at m;cases m;rfl
    obtain⟨u,hu,C⟩:=r.get ha;have Z:ps[i]?=Kb x:=by rw[←S.pre,List.getElem?_take_of_lt (by lia)];exact L
    exact⟨u,C,.inl ⟨S.par x (GB Z),sV a1 Z hu a3⟩⟩
   .rw[ll (by simpa using hi),gI,bx]at m;cases e:(N.drop ps.length)[i-vs.length]? with
    |none=>rw[e]at m;cases m
    |some y =>
     rw[e]at m;have m:Kb (ws.lookup y)=Kb (Kb v):=m;have m:=Option.some.inj m;have hy:y=x:=by
      rw[List.getElem?_drop,show ps.length+(i-vs.length)=i by lia,L]at e;exact(Option.some.inj e).symm
     subst hy;obtain⟨c,o,u,e1,e2,e3,C⟩:=Y.2 y v m;exact⟨u,C,.inr ⟨.inr (tT y (GB e) v m),c,e1,o,j _ _ (l.hok c _ e2).1,e3⟩⟩
  .obtain⟨o,v,e,d⟩:=Y.1 c (T h);exact⟨v,o,j _ _ (l.hok c _ e).1,d⟩
  .unfold kv;show _=N.length;have b1:ps.length<=N.length:=by have:=Ko List.length S.pre;rw[ik]at this;lia
   rw[cK,bx,bx,jB];lia
 refine G6 (ht [] _ (kv N ps vs ws) _ _ I hq) (λu X hs=>?_) λe X hs=>hs
 have a8:∀{O:St}{H':Hp}{v:V}{u:Gf},Inv (cxC CX P w K mg base N qual scope f (.ref c') cl A g s H E) [] O H' X->RelV v u->((∀c∈cl.map (·.2),H' c=Kc)->Q v (backL H H' (cl.map (·.2))))->CE g P w H s Q u X:=λ{O H' v u} J C q=>by
  have un:Un (frs g) [] (hideL H (cl.map (·.2))) H' s.heap X.heap:=J.base;have nc:∀c∈cl.map (·.2),H' c=none:=λc D=>by
   obtain⟨⟨x,d⟩,hm,rfl⟩:=en.mp D;obtain⟨o,e⟩:=fz d D;exact un.free d o (l.hok d _ e).1 (jV D) (by simp)
  refine⟨v,backL H H' (cl.map (·.2)),J.os,J.bare,un.backL fz,J.hok.backL fz nc λc D o e=>?_,C,q nc⟩;refine un.keep c o (l.hok c _ e).1 (jV D) (λz=>?_) (by simp);rw[l.frf c z]at e;cases e
 obtain⟨v,H',J,C,q⟩:=hs;exact a8 J C q
def zG(st:G5)(k:Nat):GW:=match st with
 | .Assign _ (.Call _ as _ _) _=>as.getD k (.Name "" ⟨0,0,0,0⟩)
 | .Return (Kb (.Call _ as _ _)) _=>as.getD k (.Name "" ⟨0,0,0,0⟩)
 |_=>.Name "" ⟨0,0,0,0⟩
def pP(e:GW):HX:=match e with
 | .Lambda a _ _ _=>a
 |_=>gn (.Pass ⟨0,0,0,0⟩)
def nP(e:GW):GW:=match e with
 | .Lambda _ b _ _=>b
 |e=>e
def jW(e:GW):GQ:=match e with
 | .Lambda _ _ s _=>s
 |_=>ak (.Pass ⟨0,0,0,0⟩)
def qT(e:GW):Pos:=match e with
 | .Lambda _ _ _ p=>p
 |_=>⟨0,0,0,0⟩
theorem xa{qual:Str}{ps:List Str}{e:GW}{f c':GD}{cl:List (Str×GD)}{pm ctv:Gf}{N:List Str}{k:Nat}{sp:Sp}(S:pI N ps (jW e) cl)(inj:∀x y c,cl.lookup x=Kb c->cl.lookup y=Kb c->x=y)
  (m:∀us:List Gf,us.length=ps.length->HP (W.kla_fn "<lambda>" qual (pP e) (nP e) (jW e) cl pm (.ref c') ctv) ⟨us,[]⟩=pure (ps.zip us))
  (len:∀vs H Q E,sp vs H Q E->vs.length=ps.length)
  (z:∀(A:GO)(d:List Env)(s:GP)(H:Hp)(vs:List V)(Q:VK)(E:XK),bR k (A.deeper (W.envX qual (jW e) s.heap.objs.size f (.ref c') cl))->sp vs H Q E ->
   ∃ws,i4 H f c' (W.kla_obj "<lambda>" qual (pP e) (nP e) (jW e) cl pm c' ctv) qual cl ws/\(∀y∈N.drop ps.length,∀v,ws.lookup y=Kb v->(jW e).names.lookup y=Kb .free) /\
   ((∀c∈cl.map (·.2),base.get? c=Kc/\c ∉ frs d)->∃t:TE,PE (cxC CX0 P w K mg base N qual (jW e) f (.ref c') cl A d s H E).nox (nP e) t/\t (kv N ps vs ws) (hideL H (cl.map (·.2))) λv H'=>(∀c∈cl.map (·.2),H' c=Kc)->Q v (backL H H' (cl.map (·.2))))) :
  HFn P w K mg base (k+1) f sp:=by
 refine⟨_,ps,AH (name := "<lambda>") (qual:=qual) (c':=c') (params:=pP e) (body:=nP e) (pm:=pm) (ctv:=ctv) S inj len λA d s H vs Q E i g=>?_,.all λus j=>?_⟩
 .obtain⟨ws,⟨u,⟨h,r,q⟩,p⟩,o,n⟩:=z A d s H vs Q E i g;refine⟨⟨h,u,r,q⟩,ws,p,o,λl=>?_⟩;obtain⟨t,a,b⟩:=n l;exact⟨t,a.nox,b⟩
 .exact m us j
inductive TFn(K:W.Frag)(x:Str)(st:G5):Prop
 |mk {f c t:GD}{fd:HM}(a:W.nsIn K GK x=Kb (Kb (.ref f)))(F:Fun K x x st f fd)(hc:fd.code=.ref c)(ht:W.tabIn K x=Kb (c,t))
theorem tfn_mk{K:W.Frag}{x:Str}{st:G5}{f c t:GD}{g kV doc pm n:Gf}{d p:Option GD}{b:Array (Option Gf)}{j:Gf}{i:Option GD}{vs:Array Gf}{h:Array (Option Gf)}(a:W.nsIn K GK x=Kb (Kb (.ref f)))
  (l:K.lookup f=Kb ⟨g,d,.func (W.fnOf x x (gn st) (dA st) (ak st) .none kV doc pm p (.ref c) n),b⟩)(o:W.codeIn K (.ref c) x=Kd)(m:W.keepIn K (.ref f)=Kd)(k:K.lookup c=Kb ⟨j,i,.fields vs,h⟩)(e:vs[11]?=Kb (.ref t)):TFn K x st :=
 ⟨a,fun_mk l o m,U,tab_mk a l k e⟩
theorem mkT{P:GC}{w:Gn}{K:W.Frag}{mg:Str->Option Gf}{base:GG}{k:Nat}{x:Str}{ps:List Str}{sp:Sp}{st:G5}(Z:Zb P w K mg base)(h:TFn K x st)(e:∀q∈(W.tabIn K x).toList,W.CodeHd base q.1 q.2/\base.BuiltinsAt mg q.2)
  (O:∀{f c t:GD}{fd:HM},Fun K x x st f fd->fd.code=.ref c->W.tabIn K x=Kb (c,t)->W.CodeHd base c t/\base.BuiltinsAt mg t->aK P w K mg base CX0 k f fd ps sp)
  (b:∀{f:GD}{fd:HM},Fun K x x st f fd->Binds K fd ps []:=by trivial):Callee P w K mg base k x ps sp:=by
 cases h with|mk a F i d=>exact⟨_,_,O F i d (e _ (by rw[d];exact ff)),b F,F.kp,Z.g a⟩
theorem uq{K:W.Frag}{x:Str}{t:GD×GD}(h:t∈(W.tabIn K x).toList):W.tabIn K x=Kb t:=by
 cases e:W.tabIn K x with
 |none=>rw[e]at h;cases h
 |some z=>rw[e]at h;rw[hZ.mp h]
inductive sZ(X:Cx)(k i:Nat)(t:TA)(σ:St)(H:Hp)(Q:VK):Prop
 |h (_:wO X k i t σ H Q):sZ X k i t σ H Q
 |k (f:GD)(sp:Sp)(_:σ[i]?=Kb (Kb (.ref f)))(_:W.keepIn X.K (.ref f)=Kd)(_:HFn X.prog X.w X.K X.mg X.base k f sp)(_:t σ H λvs H1=>sp vs H1 Q E0):sZ X k i t σ H Q
theorem xb(d:bR k X.A)(l:X.N[i]?=Kb x)(c:Vis X.env.scope x)(j:PA X (e :: es) t)(g:(x == ("__debug__" : Str))=false:=by decide) (b:(x == ("__classdict__" : Str))=false:=by decide)
  (he:GZ (e :: es) X.env=(Ke,eval e X.env) :: GZ es X.env:=by rfl)(a:(GY pos (GZ es X.env)).any (·.1)=false:=by rfl):PE X (.Call (.Name x p) (e :: es) [] pos) (sZ X k i t):=by
 intro Kg s σ H Q I h;cases h with
 |h h=>exact pJ d l c j g b he a Kg s σ H Q I h
 |k f sp D z C h =>
  obtain⟨fd,L,F,B⟩:=C;refine F8 (thn (rG l c g b Kg s σ H (λv H'=>v=.ref f/\H'=H) I ⟨_,D,U,U⟩) λu o ⟨v,G,n,r,y⟩=>?_);obtain⟨rfl,rfl⟩:=y;cases (show u=Gf.ref f from r);refine W.callWith_K (h₀:=X.base) n.ok.mod.kin z (thn (j pos Kg o σ G _ n h) λK s2 ⟨J,M,m,q,w⟩=>⟨m.kIn,?_⟩) he a;exact pq (E:=E0) (dvs:=[]) (ds:=[]) F d B .nil bL m q (by rw[jv];exact w)
def DA(X:Cx)(k:Nat)(sp:Sp):TE:=λ_ H Q=>∀f,HFn X.prog X.w X.K X.mg X.base k f sp->W.keepIn X.K (.ref f)=Kd->Q (.ref f) H
theorem AI{ps:List Str}{sp:Sp}(C:Callee X.prog X.w X.K X.mg X.base k x ps sp)(c:Gl X x)(d:(x == ("__debug__" : Str))=false:=by decide):PE X (.Name x pos) (DA X k sp):=by
 obtain⟨f,fd,F,b,a,m⟩:=C;intro Kg s σ H Q I h;exact gk I c m ⟨.ref f,H,I,U,h f ⟨fd,_,F,b⟩ a⟩ d
end L2
set_option Elab.async false
set_option maxRecDepth 100000
set_option maxHeartbeats 4000000
set_option linter.all false
namespace My
open PySem L2
def top(i:Nat):G5:=PySem.Challenge.pw_rowjudge_k48_whole_row_of_edits.main.body.getD i (.Pass ⟨0,0,0,0⟩)
abbrev Y32:G5:=top 15
abbrev Y48:G5:=top 16
abbrev Y47:G5:=top 17
abbrev Y31:G5:=top 21
abbrev Y46:G5:=top 23
abbrev Y42:G5:=top 24
abbrev Y81:G5:=top 25
abbrev Y45:G5:=top 28
abbrev Y40:G5:=top 29
abbrev Y35:G5:=top 30
abbrev Y69:G5:=top 31
abbrev Y38:G5:=top 32
abbrev Y70:G5:=top 33
abbrev Y73:G5:=top 34
abbrev Y33:G5:=top 35
abbrev Y44:G5:=top 36
abbrev Y85:G5:=top 47
abbrev Y75:G5:=top 52
abbrev Y74:G5:=top 53
abbrev Y79:G5:=top 54
abbrev Y76:G5:=top 55
abbrev Y72:G5:=top 56
abbrev Y43:G5:=top 57
abbrev Y71:G5:=top 58
abbrev Y49:G5:=top 59
abbrev Y82:G5:=top 61
abbrev Y83:G5:=top 62
abbrev Y39:G5:=top 63
abbrev s_row_form:G5:=top 64
abbrev s_verdict_form:G5:=top 65
abbrev Y34:G5:=top 68
abbrev Y37:G5:=top 69
abbrev Y36:G5:=top 70
abbrev Y41:G5:=top 71
abbrev Y77:G5:=top 72
abbrev Y78:G5:=top 73
abbrev Y51:G5:=top 75
abbrev Y61:G5:=top 76
abbrev Y55:G5:=top 77
abbrev Y68:G5:=top 78
abbrev Y52:G5:=top 79
abbrev Y59:G5:=top 80
abbrev Y58:G5:=top 81
abbrev Y66:G5:=top 82
abbrev Y63:G5:=top 83
abbrev Y64:G5:=top 84
abbrev Y65:G5:=top 85
abbrev Y57:G5:=top 86
abbrev Y60:G5:=top 87
abbrev Y54:G5:=top 88
abbrev Y53:G5:=top 89
abbrev Y56:G5:=top 90
abbrev Y67:G5:=top 91
abbrev Y62:G5:=top 92
abbrev Y17:G5:=inClass (top 51) 0
abbrev Y4:G5:=inClass (top 41) 0
abbrev Y18:G5:=inClass (top 40) 0
abbrev Y13:G5:=inClass (top 42) 0
abbrev Y22:G5:=inClass (top 40) 0
abbrev Y8:G5:=inClass (top 43) 0
abbrev Y20:G5:=inClass (top 40) 0
abbrev Y10:G5:=inClass (top 44) 0
abbrev Y21:G5:=inClass (top 40) 0
abbrev Y6:G5:=inClass (top 45) 0
abbrev Y19:G5:=inClass (top 40) 0
abbrev Y15:G5:=inClass (top 46) 0
abbrev Y23:G5:=inClass (top 40) 0
abbrev Y2:G5:=inClass (top 18) 5
abbrev Y3:G5:=inClass (top 18) 5
abbrev Y12:G5:=inClass (top 19) 0
abbrev Y0:G5:=inClass (top 18) 0
abbrev Y30:G5:=inClass (top 20) 0
abbrev Y1:G5:=inClass (top 18) 0
abbrev Y24:G5:=inClass (top 40) 1
abbrev Y5:G5:=inClass (top 41) 1
abbrev Y28:G5:=inClass (top 40) 1
abbrev Y14:G5:=inClass (top 42) 1
abbrev Y26:G5:=inClass (top 40) 1
abbrev Y9:G5:=inClass (top 43) 1
abbrev Y27:G5:=inClass (top 40) 1
abbrev Y11:G5:=inClass (top 44) 1
abbrev Y25:G5:=inClass (top 40) 1
abbrev Y7:G5:=inClass (top 45) 1
abbrev Y29:G5:=inClass (top 40) 1
abbrev Y16:G5:=inClass (top 46) 1
abbrev Y50:G5:=top 93
abbrev Y80:GW:=zG ((dA s_row_form).getD 0 (.Pass ⟨0,0,0,0⟩)) 2
theorem Z81{c_0:GD}:pI ["codes","table"] ["codes"] (jW Y80) [("table",c_0)]:=⟨U,U,U,by decide+kernel,U,by decide+kernel,by decide+kernel,wV U⟩
abbrev Y84:GW:=zG ((dA s_verdict_form).getD 0 (.Pass ⟨0,0,0,0⟩)) 2
theorem Z86{c_0:GD}:pI ["rows","table"] ["rows"] (jW Y84) [("table",c_0)]:=⟨U,U,U,by decide+kernel,U,by decide+kernel,by decide+kernel,wV U⟩
theorem Z32:aq ["text","signs","sign"] ["text","signs"] (ak Y32):=fsc
theorem Z48:aq ["text"] ["text"] (ak Y48):=fsc
theorem Z47:aq ["value"] ["value"] (ak Y47):=fsc
theorem Z31:aq ["one","other"] ["one","other"] (ak Y31):=fsc
theorem Z46:aq ["spans","number","low","high"] ["spans","number"] (ak Y46):=fsc
theorem Z42:aq ["spans","low","high","turns","first","last"] ["spans","low","high"] (ak Y42):=fsc
theorem Z82:aq ["low","high","marks","cuts","lows","highs"] ["low","high","marks"] (ak Y81):=fsc
theorem Z45:aq ["bounds","marks","product","parts"] ["bounds","marks"] (ak Y45):=fsc
theorem Z40:aq ["bounds","marks"] ["bounds","marks"] (ak Y40):=fsc
theorem Z35:aq ["bounds","marks","leaf"] ["bounds","marks","leaf"] (ak Y35):=fsc
theorem Z69:aq ["columns","ahead","leaf"] ["columns","ahead","leaf"] (ak Y69):=fsc
theorem Z38:aq ["triples","form","low","high","beneath"] ["triples"] (ak Y38):=fsc
theorem Z70:aq ["form","deep","change"] ["form","deep","change"] (ak Y70):=fsc
theorem Z73:aq ["one","other","deep","pair","triples","low","at_one","at_other","high"] ["one","other","deep","pair"] (ak Y73):=fsc
theorem Z33:aq ["form","deep","told","low","high","beneath","box","leaf"] ["form","deep"] (ak Y33):=fsc
theorem Z44:aq ["lists","numbers","some"] ["lists"] (ak Y44):=fsc
theorem Z87:aq ["name","way"] ["name"] (ak Y85):=fsc
theorem Z75:aq ["names","name"] ["names"] (ak Y75):=fsc
theorem Z74:aq ["names","rows"] ["names","rows"] (ak Y74):=fsc
theorem Z79:aq ["way","outcome"] ["way","outcome"] (ak Y79):=fsc
theorem Z76:aq ["domains","outcome","cells","code","domain","spans","low","high"] ["domains","outcome","cells","code"] (ak Y76):=fsc
theorem Z72:aq ["cells","code"] ["cells","code"] (ak Y72):=fsc
theorem Z43:aq ["table","k","codes","cells","spans","code"] ["table","k","codes"] (ak Y43):=fsc
theorem Z71:aq ["table","codes"] ["table","codes"] (ak Y71):=fsc
theorem Z49:aq ["table","rows","codes"] ["table","rows"] (ak Y49):=fsc
theorem Z83:aq ["table"] ["table"] (ak Y82):=fsc
theorem Z84:aq ["table"] ["table"] (ak Y83):=fsc
theorem Z39:aq ["table","column","domain"] ["table","column"] (ak Y39):=fsc
theorem Z80:aq ["table"] ["table"] (ak s_row_form):=fsc
theorem Z85:aq ["table"] ["table"] (ak s_verdict_form):=fsc
theorem Z34:aq ["form","deep"] ["form","deep"] (ak Y34):=fsc
theorem Z37:aq ["one","other"] ["one","other"] (ak Y37):=fsc
theorem Z36:aq ["old","new","deep","differing"] ["old","new","deep"] (ak Y36):=fsc
theorem Z41:aq ["old","new"] ["old","new"] (ak Y41):=fsc
theorem Z77:aq ["one","other"] ["one","other"] (ak Y77):=fsc
theorem Z78:aq ["ones","others","one","other"] ["ones","others"] (ak Y78):=fsc
theorem Z51:aq ["script","k"] ["script","k"] (ak Y51):=fsc
theorem Z61:aq ["cell","count","at","told","k","part","step"] ["cell","count"] (ak Y61):=fsc
theorem Z55:aq ["script","most","told","k","cell"] ["script","most"] (ak Y55):=fsc
theorem Z68:aq ["cell","k","stem","at"] ["cell","k"] (ak Y68):=fsc
theorem Z52:aq ["cell","points"] ["cell","points"] (ak Y52):=fsc
theorem Z59:aq ["cell","gap","low"] ["cell"] (ak Y59):=fsc
theorem Z58:aq ["cell","outs"] ["cell","outs"] (ak Y58):=fsc
theorem Z66:aq ["cell","words"] ["cell","words"] (ak Y66):=fsc
theorem Z63:aq ["cell","points","outs","bits","k","size","mixed"] ["cell","points","outs"] (ak Y63):=fsc
theorem Z64:aq ["points","bits","told","k"] ["points","bits"] (ak Y64):=fsc
theorem Z65:aq ["script","points","outs","way","rows","turn","domains","names","cell","made","row"] ["script","points","outs","way","rows","turn"] (ak Y65):=fsc
theorem Z57:aq ["rows","cell","points","outs","kind","k","bits","column","one_bit","coded_row"] ["rows","cell","points","outs"] (ak Y57):=fsc
theorem Z60:aq ["points","told","row","longer","at","k"] ["points"] (ak Y60):=fsc
theorem Z54:aq ["rows","at","told","k","good","j"] ["rows","at"] (ak Y54):=fsc
theorem Z53:aq ["codes","way","outs"] ["codes","way","outs"] (ak Y53):=fsc
theorem Z56:aq ["script","told","k"] ["script"] (ak Y56):=fsc
theorem Z67:aq ["box","codes","k"] ["box","codes"] (ak Y67):=fsc
theorem Z62:aq ["told","spots","now","new","k","mine"] ["told","spots","now"] (ak Y62):=fsc
theorem Z17:aq ["self","name","names","domains","outcome","way","rows","cells","code"] ["self","name","names","domains","outcome","way","rows"] (ak Y17):=fsc
theorem Z4:aq ["self"] ["self"] (ak Y4):=fsc
theorem Z18:aq ["self","called"] ["self","called"] (ak Y18):=fsc
theorem Z13:aq ["self"] ["self"] (ak Y13):=fsc
theorem Z22:aq ["self","called"] ["self","called"] (ak Y22):=fsc
theorem Z8:aq ["self"] ["self"] (ak Y8):=fsc
theorem Z20:aq ["self","called"] ["self","called"] (ak Y20):=fsc
theorem Z10:aq ["self"] ["self"] (ak Y10):=fsc
theorem Z21:aq ["self","called"] ["self","called"] (ak Y21):=fsc
theorem Z6:aq ["self"] ["self"] (ak Y6):=fsc
theorem Z19:aq ["self","called"] ["self","called"] (ak Y19):=fsc
theorem Z15:aq ["self"] ["self"] (ak Y15):=fsc
theorem Z23:aq ["self","called"] ["self","called"] (ak Y23):=fsc
theorem Z2:aq ["self","value"] ["self","value"] (ak Y2):=fsc
theorem Z3:aq ["self","value"] ["self","value"] (ak Y3):=fsc
theorem Z12:aq ["self","low","high"] ["self","low","high"] (ak Y12):=fsc
theorem Z0:aq ["self","low","high"] ["self","low","high"] (ak Y0):=fsc
theorem Z30:aq ["self","words","word"] ["self","words"] (ak Y30):=fsc
theorem Z1:aq ["self","low","high"] ["self","low","high"] (ak Y1):=fsc
theorem Z24:aq ["self","codes","outcome"] ["self","codes","outcome"] (ak Y24):=fsc
theorem Z5:aq ["self","codes","outcome"] ["self","codes","outcome"] (ak Y5):=fsc
theorem Z28:aq ["self","codes","outcome"] ["self","codes","outcome"] (ak Y28):=fsc
theorem Z14:aq ["self","codes","outcome"] ["self","codes","outcome"] (ak Y14):=fsc
theorem Z26:aq ["self","codes","outcome"] ["self","codes","outcome"] (ak Y26):=fsc
theorem Z9:aq ["self","codes","outcome"] ["self","codes","outcome"] (ak Y9):=fsc
theorem Z27:aq ["self","codes","outcome"] ["self","codes","outcome"] (ak Y27):=fsc
theorem Z11:aq ["self","codes","outcome"] ["self","codes","outcome"] (ak Y11):=fsc
theorem Z25:aq ["self","codes","outcome"] ["self","codes","outcome"] (ak Y25):=fsc
theorem Z7:aq ["self","codes","outcome"] ["self","codes","outcome"] (ak Y7):=fsc
theorem Z29:aq ["self","codes","outcome"] ["self","codes","outcome"] (ak Y29):=fsc
theorem Z16:aq ["self","codes","outcome"] ["self","codes","outcome"] (ak Y16):=fsc
theorem Z50:aq ["script","points","outs","way","places","spots","now","rows","table","number","after","k"] ["script"] (ak Y50):=fsc
structure AD where (a b c d e f g h i j k l m:GD)
structure Bk(K:W.Frag)(Y:AD):Prop where
 n_Way:W.nsIn K GK "Way" = Kb (Kb (.ref Y.a))
 n_First:W.nsIn K GK "First" = Kb (Kb (.ref Y.b))
 n_Only:W.nsIn K GK "Only" = Kb (Kb (.ref Y.c))
 n_Like:W.nsIn K GK "Like" = Kb (Kb (.ref Y.d))
 n_Low:W.nsIn K GK "Low" = Kb (Kb (.ref Y.e))
 n_High:W.nsIn K GK "High" = Kb (Kb (.ref Y.f))
 n_Sum:W.nsIn K GK "Sum" = Kb (Kb (.ref Y.g))
 n_Domain:W.nsIn K GK "Domain" = Kb (Kb (.ref Y.h))
 n_Numbers:W.nsIn K GK "Numbers" = Kb (Kb (.ref Y.i))
 n_Words:W.nsIn K GK "Words" = Kb (Kb (.ref Y.j))
 n_Table:W.nsIn K GK "Table" = Kb (Kb (.ref Y.k))
 n_NONE:W.nsIn K GK "NONE" = Kb (Kb (.ref Y.l))
 n_CLASH:W.nsIn K GK "CLASH" = Kb (Kb (.ref Y.m))
 k_First:Cls K Y.b
 k_Only:Cls K Y.c
 k_Like:Cls K Y.d
 k_Low:Cls K Y.e
 k_High:Cls K Y.f
 k_Sum:Cls K Y.g
 k_Numbers:Cls K Y.i
 k_Words:Cls K Y.j
 k_Table:Cls K Y.k
 t_First:ma K Y.b
 t_Only:ma K Y.c
 t_Like:ma K Y.d
 t_Low:ma K Y.e
 t_High:ma K Y.f
 t_Sum:ma K Y.g
 t_Numbers:ma K Y.i
 t_Words:ma K Y.j
 t_Table:ma K Y.k
 q_NONE:ModT K Y.l [.str "none",.int (0)]
 q_CLASH:ModT K Y.m [.str "clash",.int (0)]
 na_First_called:NoAttr K Y.b "called"
 na_Only_called:NoAttr K Y.c "called"
 na_Like_called:NoAttr K Y.d "called"
 na_Low_called:NoAttr K Y.e "called"
 na_High_called:NoAttr K Y.f "called"
 na_Sum_called:NoAttr K Y.g "called"
 na_Numbers_low:NoAttr K Y.i "low"
 na_Numbers_high:NoAttr K Y.i "high"
 na_Numbers_words:NoAttr K Y.i "words"
 na_Words_low:NoAttr K Y.j "low"
 na_Words_high:NoAttr K Y.j "high"
 na_Words_words:NoAttr K Y.j "words"
 na_Table_name:NoAttr K Y.k "name"
 na_Table_names:NoAttr K Y.k "names"
 na_Table_domains:NoAttr K Y.k "domains"
 na_Table_outcome:NoAttr K Y.k "outcome"
 na_Table_way:NoAttr K Y.k "way"
 na_Table_rows:NoAttr K Y.k "rows"
 f_nn:W.kitOne K (.ref Y.i) (.ref Y.i)=Kb Kd
 f_wn:W.kitOne K (.ref Y.j) (.ref Y.i)=Kb Ke
 f_ww:W.kitOne K (.ref Y.j) (.ref Y.j)=Kb Kd
 f_nw:W.kitOne K (.ref Y.i) (.ref Y.j)=Kb Ke
 nt0:∀z z',W.tabIn K "row_form" = Kb z->W.tabIn K "verdict_form" = Kb z'->z.2≠z'.2
structure Bl(K:W.Frag)(mg:Str->Option Gf)(Y:AD):Prop extends Bk K Y where
 Way_:mg "Way" = Kb (.ref Y.a)
 First_:mg "First" = Kb (.ref Y.b)
 Only_:mg "Only" = Kb (.ref Y.c)
 Like_:mg "Like" = Kb (.ref Y.d)
 Low_:mg "Low" = Kb (.ref Y.e)
 High_:mg "High" = Kb (.ref Y.f)
 Sum_:mg "Sum" = Kb (.ref Y.g)
 Domain_:mg "Domain" = Kb (.ref Y.h)
 Numbers_:mg "Numbers" = Kb (.ref Y.i)
 Words_:mg "Words" = Kb (.ref Y.j)
 Table_:mg "Table" = Kb (.ref Y.k)
 NONE_:mg "NONE" = Kb (.ref Y.l)
 CLASH_:mg "CLASH" = Kb (.ref Y.m)
 len_:mg "len" = Kc
 isinstance_:mg "isinstance" = Kc
 int_:mg "int" = Kc
 bool_:mg "bool" = Kc
 sorted_:mg "sorted" = Kc
 list_:mg "list" = Kc
 set_:mg "set" = Kc
 zip_:mg "zip" = Kc
 tuple_:mg "tuple" = Kc
 min_:mg "min" = Kc
 sum_:mg "sum" = Kc
 range_:mg "range" = Kc
 enumerate_:mg "enumerate" = Kc
 reversed_:mg "reversed" = Kc
 max_:mg "max" = Kc
 MOST_SIGNS_:∃u,mg "MOST_SIGNS" = Kb u/\RelV (V.int 12) u
 SMALL_LETTERS_:∃u,mg "SMALL_LETTERS" = Kb u/\RelV (V.str "abcdefghijklmnopqrstuvwxyz") u
 MOST_GRAIN_:∃u,mg "MOST_GRAIN" = Kb u/\RelV (V.int 300) u
 MOST_ROWS_:∃u,mg "MOST_ROWS" = Kb u/\RelV (V.int 200) u
 MOST_COLUMNS_:∃u,mg "MOST_COLUMNS" = Kb u/\RelV (V.int 4) u
 NOTHING_:∃u,mg "NOTHING" = Kb u/\RelV (V.int 0) u
 MOST_WORDS_:∃u,mg "MOST_WORDS" = Kb u/\RelV (V.int 40) u
theorem tj{a:List Int}{i:Nat}{x:V}(e:(a.map V.int)[i]?=Kb x):∃c,x=.int c:=by
 rw[gI]at e;cases q:a[i]? with
 |none=>rw[q]at e;cases e
 |some c=>rw[q]at e;cases e;exact⟨c,U⟩
theorem p10(n:Nat):(0:Int)<10^n:=DK (by decide)
theorem DB{n:Int}{p:Int×Int}(c:decide (p.1<=n)=Kd)(d:decide (n<=p.2)=Kd):inR n p=true:=by unfold inR;rw[c,d];rfl
theorem B4{n:Int}{p:Int×Int}(c:¬ decide (p.1<=n)=Kd):inR n p=false:=by unfold inR;rw[BJ.mpr c];rfl
theorem B5{n:Int}{p:Int×Int}(d:¬ decide (n<=p.2)=Kd):inR n p=false:=by unfold inR;rw[BJ.mpr d,Bool.and_false]
theorem nQ{xs:List V}{i:Nat}{x:V}(e:xs[i]?=Kb x):atI xs (0+(i:Int))=Kb x:=by
 rw[Dv];exact aS e
theorem z0(a b:Int):atI [V.int a,V.int b] 0=Kb (V.int a):=rfl
theorem z1(a b:Int):atI [V.int a,V.int b] 1=Kb (V.int b):=rfl
theorem cF{H:Hp}{r:GD}{o:HO}{b:GD}{u:HO}(h:H r=Kb u)(n:H b=Kc):upd H b o r=Kb u:=by rw[ay (bf h n)];exact h
theorem mz{n:Nat}(h:0<n):ixN n (-1)=Kb (n-1):=by
 unfold ixN;rw[Ki (by decide),Kj (by lia)]
 congr 1
 lia
theorem qU{α:Type}(l:List α)(x y:α):(l++[x]).set ((l++[x]).length-1) y=l++[y]:=by
 have e:(l++[x]).length-1=l.length:=by simp
 rw[e,List.set_append_right _ _ (yr _),Bj];rfl
theorem take_snoc{α:Type}{l:List α}{i:Nat}{x:α}(e:l[i]?=Kb x):l.take (i+1)=l.take i++[x]:=by rw[nS,e];rfl
theorem get_map{a:List Int}{i:Nat}{c:Int}(e:a[i]?=Kb c):(a.map V.int)[i]?=Kb (.int c):=by rw[gI,e];rfl
theorem of_map{a:List Int}{i:Nat}{x:V}(e:(a.map V.int)[i]?=Kb x):∃c,x=.int c/\a[i]?=Kb c:=by
 rw[gI]at e;cases q:a[i]? with
 |none=>rw[q]at e;cases e
 |some c=>rw[q]at e;cases e;exact⟨c,U,U⟩
abbrev OP:=Option ((Str×Int)×(Str×Int))
def lets:Str := "abcdefghijklmnopqrstuvwxyz"
def isw(z:Str):Bool:=Kf ((1:Int)<=((z.length:Nat):Int)) && (Kf (((z.length:Nat):Int)<=12) && (!Kf (V.str z=V.str "not") && lV z lets))
theorem AJ{l:List Nat}{i:Nat}{c:Nat}{p:Nat->Bool}(e:l[i]?=Kb c)(h:p c=Ke):l.all p=false:=by
 cases q:l.all p with
 |false=>rfl
 |true=>rw[jt.mp q c (GB e)]at h;cases h
theorem all_succ{l:List Nat}{i:Nat}{c:Nat}{p:Nat->Bool}(e:l[i]?=Kb c)(h:p c=Kd)(a:(l.take i).all p=Kd):(l.take (i+1)).all p=true:=by
 rw[take_snoc e,List.all_append,a];simp[h]
theorem xc{z g:Str}(h:(z.cps.toList.take z.cps.size).all (sg g)=Kd):lV z g=true:=by
 have e:z.cps.toList.take z.cps.size=z.cps.toList:=by rw[←CQ];exact ip
 rw[e]at h;exact h
theorem AK{g:Str}{c:Nat}(h:(!(!(Hw.Str.occurrences g ⟨#[c]⟩ 0 g.length 1).isEmpty))=Kd):sg g c=false:=by unfold sg;simpa using h
theorem B6{g:Str}{c:Nat}(h:¬ (!(!(Hw.Str.occurrences g ⟨#[c]⟩ 0 g.length 1).isEmpty))=Kd):sg g c=true:=by unfold sg;simpa using h
theorem big{n:Nat}(h:n<=1000):n<=GH:=zf (az h)
def mkd(C:GD)(H:Hp)(x a:GD)(lo hi:Int):Hp:=upd (upd H x (.ins C a [("low",.int lo)])) x (.ins C a [("low",.int lo),("high",.int hi)])
theorem put2(v u:V):bw s!"high" u [(s!"low",v)]=[(s!"low",v),(s!"high",u)]:=by
 unfold bw bw;rw[Ki (by decide)]
theorem put3(v u t:V):bw s!"words" t [(s!"low",v),(s!"high",u)]=[(s!"low",v),(s!"high",u),(s!"words",t)]:=by
 unfold bw bw bw;rw[Ki (by decide),Ki (by decide)]
def hiW(zs:List Str):Int:=((zs.length:Nat):Int)-1
structure Good(zs:List Str):Prop where
 some_:1<=zs.length
 few:zs.length<=40
 words:∀z∈zs,isw z=Kd
 once:zs.Nodup
theorem jX{zs:List Str}{i:Nat}{x:V}(e:(zs.map V.str)[i]?=Kb x):∃z,x=.str z/\zs[i]?=Kb z:=by
 rw[gI]at e;cases q:zs[i]? with
 |none=>rw[q]at e;cases e
 |some z=>rw[q]at e;cases e;exact⟨z,U,U⟩
def six:List Str:=[s!"first",s!"only",s!"like",s!"low",s!"high",s!"sum"]
theorem yB{i j:Nat}{z:Str}(h:six[i]?=Kb z)(k:six[j]?=Kb z):i=j:=jN (show six.Nodup by decide+kernel) h k
def WyN(C:GD)(H:Hp)(x:GD)(z:Str):Prop:=∃a,H x=Kb (.ins C a [("called",.str z)])
theorem WyN.same{C:GD}{H H':Hp}{x:GD}{z:Str}(h:WyN C H x z)(s:ar H H'):WyN C H' x z:=by obtain⟨a,e⟩:=h;exact⟨a,s _ _ e⟩
def vh(C:GD)(z:Str):Sp:=λb H Q _=>∃(x a:GD),b=[.ref x]/\H x=Kb (.ins C a [])/\Q .non (upd H x (.ins C a [("called",.str z)]))
theorem bu:2<=GH:=by decide
def cl6(a b c d e f:GD):List GD:=[a,b,c,d,e,f]
def AL(C:GD)(H:Hp)(a:GD)(lo hi:Int):Prop:=∃b fs,H a=Kb (.ins C b fs)/\fs.lookup s!"low"=Kb (.int lo)/\fs.lookup s!"high"=Kb (.int hi)/\fs.lookup s!"has_code"=Kc
def Dom(d c:GD)(H:Hp)(a:GD)(b:Int×Int):Prop:=∃C,(C=d\/C=c)/\AL C H a b.1 b.2
theorem Dom.same{d c:GD}{H H':Hp}{a:GD}{b:Int×Int}(h:Dom d c H a b)(s:ar H H'):Dom d c H' a b:=by obtain⟨C,f,g,fs,e,r⟩:=h;exact⟨C,f,g,fs,s _ _ e,r⟩
theorem Dom.upd{d c:GD}{H:Hp}{a D:GD}{b:Int×Int}{o:HO}{zs:List V}(h:Dom d c H a b)(e:H D=Kb (.lst zs)):Dom d c (upd H D o) a b:=by
 obtain⟨C,g,i,fs,f,r⟩:=h;exact⟨C,g,i,fs,(ay (eI f e (by intro z;cases z))).trans f,r⟩
def ax{α:Type}(xs:List V)(b:List α)(P:GD->α->Prop):Prop:=xs.length=b.length/\∀(j:Nat)(a:α),b[j]?=Kb a->∃r,xs[j]?=Kb (.ref r)/\P r a
theorem ax.mono{α:Type}{xs:List V}{b:List α}{P Q:GD->α->Prop}(h:ax xs b P)(k:∀r a,P r a->Q r a):ax xs b Q:=⟨h.1,λj a e=>let ⟨r,e1,p⟩:=h.2 j a e;⟨r,e1,k r a p⟩⟩
theorem ax.nil{α:Type}{P:GD->α->Prop}:ax [] [] P:=⟨U,(λj a e=>by simp at e)⟩
theorem ax.snoc{α:Type}{xs:List V}{c:List α}{P:GD->α->Prop}{r:GD}{a:α}(h:ax xs c P)(p:P r a):ax (xs++[.ref r]) (c++[a]) P:=by
 refine⟨by simp[h.1],λj b e=>?_⟩;by_cases f:j<c.length
 .rw[iP f]at e;obtain⟨g,i,q⟩:=h.2 j b e;exact⟨g,by rw[iP (by rw[h.1];exact f)];exact i,q⟩
 .have d:j=c.length:=by
   have:=(Gz.mp e).1;simp at this;lia
  subst d;simp at e;subst e;exact⟨r,by rw[←h.1];simp,p⟩
theorem ax.get{α:Type}{xs:List V}{b:List α}{P:GD->α->Prop}(h:ax xs b P){j:Nat}{x:V}(e:xs[j]?=Kb x):∃r a,x=.ref r/\b[j]?=Kb a/\P r a:=by
 have f:=(Gz.mp e).1;have c:=Gy (l:=b) (i:=j) (by rw[←h.1];exact f);obtain⟨r,d,p⟩:=h.2 j _ c;rw[e]at d;cases d;exact⟨r,_,U,c,p⟩
abbrev Prs:=List (Int×Int)
def SpA(N:GD->Prop)(H:Hp)(l:GD)(ps:Prs):Prop:=N l/\∃a,H l=Kb (.lst a)/\PL H a ps
def CL(N:GD->Prop)(H:Hp)(xs:List V)(a:List Prs):Prop:=ax xs a (SpA N H)
abbrev Rw:=List Prs×Int
def ji(N:GD->Prop)(H:Hp)(r:GD)(a:Rw):Prop:=∃b c,H r=Kb (.tup [.ref b,.int a.2])/\N b/\H b=Kb (.lst c)/\CL N H c a.1
def RL(N:GD->Prop)(H:Hp)(xs:List V)(rws:List Rw):Prop:=ax xs rws (ji N H)
theorem SpA.same{N:GD->Prop}{H H':Hp}{l:GD}{ps:Prs}(h:SpA N H l ps)(s:ar H H'):SpA N H' l ps:=by obtain⟨n,a,e,p⟩:=h;exact⟨n,a,s _ _ e,p.mono s.tups⟩
theorem CL.same{N:GD->Prop}{H H':Hp}{xs:List V}{a:List Prs}(h:CL N H xs a)(s:ar H H'):CL N H' xs a:=ax.mono h λ_ _ p=>p.same s
theorem ji.same{N:GD->Prop}{H H':Hp}{r:GD}{w:Rw}(h:ji N H r w)(s:ar H H'):ji N H' r w:=by obtain⟨b,a,e,n,f,c⟩:=h;exact⟨b,a,s _ _ e,n,s _ _ f,c.same s⟩
theorem RL.same{N:GD->Prop}{H H':Hp}{xs:List V}{rws:List Rw}(h:RL N H xs rws)(s:ar H H'):RL N H' xs rws:=ax.mono h λ_ _ p=>p.same s
abbrev NT:GD->Prop:=λ_=>True
theorem SpA.any{N:GD->Prop}{H:Hp}{l:GD}{ps:Prs}(h:SpA N H l ps):SpA NT H l ps:=⟨trivial,h.2⟩
theorem CL.any{N:GD->Prop}{H:Hp}{xs:List V}{a:List Prs}(h:CL N H xs a):CL NT H xs a:=ax.mono h λ_ _ p=>p.any
theorem ji.any{N:GD->Prop}{H:Hp}{r:GD}{w:Rw}(h:ji N H r w):ji NT H r w:=by obtain⟨b,a,e,_,f,c⟩:=h;exact⟨b,a,e,trivial,f,c.any⟩
theorem RL.any{N:GD->Prop}{H:Hp}{xs:List V}{rws:List Rw}(h:RL N H xs rws):RL NT H xs rws:=ax.mono h λ_ _ p=>p.any
theorem SpA.wk{N b:GD->Prop}{H:Hp}{l:GD}{ps:Prs}(h:SpA N H l ps)(k:∀a,N a->b a):SpA b H l ps:=⟨k _ h.1,h.2⟩
theorem CL.wk{N c:GD->Prop}{H:Hp}{xs:List V}{b:List Prs}(h:CL N H xs b)(k:∀a,N a->c a):CL c H xs b:=ax.mono h λ_ _ p=>p.wk k
theorem ji.wk{N b:GD->Prop}{H:Hp}{r:GD}{w:Rw}(h:ji N H r w)(k:∀a,N a->b a):ji b H r w:=by obtain⟨g,d,e,n,f,c⟩:=h;exact⟨g,d,e,k _ n,f,c.wk k⟩
theorem SpA.updN{N:GD->Prop}{D:GD}{H:Hp}{l:GD}{ps:Prs}{zs:List V}{o:HO}(h:SpA N H l ps)(n:¬ N D)(e:H D=Kb (.lst zs)):SpA N (upd H D o) l ps:=by
 obtain⟨m,a,f,p⟩:=h;exact⟨m,a,(ay (λz=>n (by rw[←z];exact m))).trans f,p.mono (aP e)⟩
theorem CL.updN{N:GD->Prop}{D:GD}{H:Hp}{xs:List V}{a:List Prs}{zs:List V}{o:HO}(h:CL N H xs a)(n:¬ N D)(e:H D=Kb (.lst zs)):CL N (upd H D o) xs a:=ax.mono h λ_ _ p=>p.updN n e
theorem ji.updN{N:GD->Prop}{D:GD}{H:Hp}{r:GD}{w:Rw}{zs:List V}{o:HO}(h:ji N H r w)(n:¬ N D)(e:H D=Kb (.lst zs)):ji N (upd H D o) r w:=by
 obtain⟨b,a,f,m,g,c⟩:=h;exact⟨b,a,(ay (eI f e (by intro z;cases z))).trans f,m,(ay (λz=>n (by rw[←z];exact m))).trans g,c.updN n e⟩
theorem RL.updN{N:GD->Prop}{D:GD}{H:Hp}{xs:List V}{rws:List Rw}{zs:List V}{o:HO}(h:RL N H xs rws)(n:¬ N D)(e:H D=Kb (.lst zs)):RL N (upd H D o) xs rws:=ax.mono h λ_ _ p=>p.updN n e
def Fr(H:Hp)(D:GD):GD->Prop:=λa=>H a=Kc/\a≠D
theorem Fr.out{H:Hp}{D:GD}:¬ Fr H D D:=λh=>h.2 U
structure F9(b:Int×Int)(zs:List Str):Prop where
 le:b.1<=b.2
 ws:zs≠[]->Good zs/\b=(0,hiW zs)
structure mB(bs:Prs)(o:Int×Int)(w:Rw):Prop where
 len:w.1.length=bs.length
 inn:∀(j:Nat)(ps:Prs)(b:Int×Int),w.1[j]?=Kb ps->bs[j]?=Kb b->∀p∈ps,b.1<=p.1/\p.2<=b.2
 lo:o.1<=w.2
 hi:w.2<=o.2
def nR(a:List Prs)(b:List Int):Bool:=(List.range b.length).all λj=>inP (a.getD j []) (b.getD j 0)
theorem pf1(b a:V):bw s!"names" a [(s!"name",b)]=[(s!"name",b),(s!"names",a)]:=by
 unfold bw bw;rw[Ki (by decide)]
theorem pf2(c b a:V):bw s!"domains" a [(s!"name",c),(s!"names",b)]=[(s!"name",c),(s!"names",b),(s!"domains",a)]:=by
 unfold bw bw bw;rw[Ki (by decide),Ki (by decide)]
theorem pf3(d c b a:V):bw s!"outcome" a [(s!"name",d),(s!"names",c),(s!"domains",b)]=[(s!"name",d),(s!"names",c),(s!"domains",b),(s!"outcome",a)]:=by
 unfold bw bw bw bw;rw[Ki (by decide),Ki (by decide),Ki (by decide)]
theorem pf4(e d c b a:V):bw s!"way" a [(s!"name",e),(s!"names",d),(s!"domains",c),(s!"outcome",b)]=[(s!"name",e),(s!"names",d),(s!"domains",c),(s!"outcome",b),(s!"way",a)]:=by
 unfold bw bw bw bw bw;rw[Ki (by decide),Ki (by decide),Ki (by decide),Ki (by decide)]
theorem pf5(f e d c b a:V):bw s!"rows" a [(s!"name",f),(s!"names",e),(s!"domains",d),(s!"outcome",c),(s!"way",b)]=[(s!"name",f),(s!"names",e),(s!"domains",d),(s!"outcome",c),(s!"way",b),(s!"rows",a)]:=by
 unfold bw bw bw bw bw bw;rw[Ki (by decide),Ki (by decide),Ki (by decide),Ki (by decide),Ki (by decide)]
def hide(H:Hp)(x:GD):Hp:=λb=>if b=x then Kc else H b
theorem de{H:Hp}{x b:GD}{o:HO}(e:H b=Kb o)(n:b≠x):hide H x b=Kb o:=by unfold hide;rw[Ki n];exact e
theorem hide_same{H H':Hp}{x:GD}(k:∀b o,b≠x->H b=Kb o->H' b=Kb o):ar (hide H x) H':=λb o e=>by
 unfold hide at e;by_cases h:b=x
 .rw[Kj h]at e;cases e
 .rw[Ki h]at e;exact k b o h e
theorem PL.hide{H:Hp}{x C c:GD}{fs:List (Str×V)}(a:H x=Kb (.ins C c fs)){ys:List V}{ps:Prs}(h:PL H ys ps):PL (hide H x) ys ps :=
 h.mono λb d e=>de e (eI e a (by intro z;cases z))
theorem RL.hide{H:Hp}{x C d:GD}{fs:List (Str×V)}(a:H x=Kb (.ins C d fs)){xs:List V}{rws:List Rw}(h:RL NT H xs rws):RL NT (My.hide H x) xs rws :=
 ax.mono h λr w ⟨j,i,e,_,f,c⟩=>⟨j,i,de e (eI e a (by intro z;cases z)),trivial,de f (eI f a (by intro z;cases z)),ax.mono c λl k ⟨_,b,g,p⟩=>⟨trivial,b,de g (eI g a (by intro z;cases z)),PL.hide a p⟩⟩
def wcs(c k:Int):List Nat:=List.replicate (c / 26%6).toNat (97+(c%26).toNat)++([97+(k / 7%7).toNat,97+(k%7).toNat]++List.replicate (k%5).toNat (97+(c / 156%26).toNat))
def wd(c k:Int):Str:=⟨(wcs c k).toArray⟩
theorem AM{c:Nat}(h:97<=c/\c<=122):sg lets c=true:=by
 have:∀d:Nat,d<26->sg lets (97+d)=true:=by decide+kernel
 have z:=this (c-97) (by lia);rw[show 97+(c-97)=c by lia]at z;exact z
theorem yC{s:Str}{n:Nat}(h:s.cps.toList=(List.range n).map (97 + ·)){k:Int}(c:0<=k)(b:k<n):atI s.cps.toList k=Kb (97+k.toNat):=by
 have a:k.toNat<n:=by lia
 have z:s.cps.toList[k.toNat]?=Kb (97+k.toNat):=by rw[h,gI,List.getElem?_range a];rfl
 have q:=aS z;rw[show((k.toNat:Nat):Int)=k by lia]at q;exact q
abbrev SI:=Str×Int
def tp(p:SI):List V:=[.str p.1,.int p.2]
def say(i:Int):SI:=(s!"say",i)
def ur:SI:=(s!"clash",0)
def vi:SI:=(s!"none",0)
def least(a:List Int):Int:=a.foldl (λm c=>if c<m then c else m) (a.headD 0)
def great(a:List Int):Int:=a.foldl (λm c=>if c>m then c else m) (a.headD 0)
theorem fold_min(a:List Int):∀m:Int,(a.foldl (λm c=>if c<m then c else m) m=m\/a.foldl (λm c=>if c<m then c else m) m∈a)/\a.foldl (λm c=>if c<m then c else m) m<=m/\∀x∈a,a.foldl (λm c=>if c<m then c else m) m<=x:=by
 induction a with
 |nil=>intro m;exact⟨.inl U,Int.le_refl _,λx h=>by cases h⟩
 |cons n a f =>
  intro m;obtain⟨b,e,g⟩:=f (if n<m then n else m);rw[List.foldl_cons];refine⟨?_,?_,λx d=>?_⟩
  .rcases b with b|b
   .rw[b];split
    .exact .inr ff
    .exact .inl U
   .exact .inr (iO _ b)
  .split at e <;> split <;> lia
  .rcases dt.mp d with rfl|d
   .split at e <;> split <;> lia
   .exact g x d
theorem fold_max(a:List Int):∀m:Int,(a.foldl (λm c=>if c>m then c else m) m=m\/a.foldl (λm c=>if c>m then c else m) m∈a)/\m<=a.foldl (λm c=>if c>m then c else m) m/\∀x∈a,x<=a.foldl (λm c=>if c>m then c else m) m:=by
 induction a with
 |nil=>intro m;exact⟨.inl U,Int.le_refl _,λx h=>by cases h⟩
 |cons n a f =>
  intro m;obtain⟨b,e,g⟩:=f (if n>m then n else m);rw[List.foldl_cons];refine⟨?_,?_,λx d=>?_⟩
  .rcases b with b|b
   .rw[b];split
    .exact .inr ff
    .exact .inl U
   .exact .inr (iO _ b)
  .split at e <;> split <;> lia
  .rcases dt.mp d with rfl|d
   .split at e <;> split <;> lia
   .exact g x d
theorem eV{n:Int}{a:List Int}:least (n :: a)∈n :: a/\∀x∈n :: a,least (n :: a)<=x:=by
 obtain⟨b,d,c⟩:=fold_min (n :: a) n;refine⟨?_,c⟩;rcases b with b|b
 .show(n :: a).foldl _ n∈_;rw[b];exact ff
 .exact b
theorem fT{n:Int}{a:List Int}:great (n :: a)∈n :: a/\∀x∈n :: a,x<=great (n :: a):=by
 obtain⟨b,d,c⟩:=fold_max (n :: a) n;refine⟨?_,c⟩;rcases b with b|b
 .show(n :: a).foldl _ n∈_;rw[b];exact ff
 .exact b
theorem mC{n m:Int}{c:List Int}(e:m∈n :: c)(d:∀b∈n :: c,m<=b):m=least (n :: c):=by
 have a:=d _ eV.1;have b:=eV.2 _ e;lia
theorem mD{n m:Int}{c:List Int}(e:m∈n :: c)(d:∀b∈n :: c,b<=m):m=great (n :: c):=by
 have a:=d _ fT.1;have b:=fT.2 _ e;lia
def DC(a:List Int):SI:=say (least a)
def B7(a:List Int):SI:=say (great a)
def jY(a:List Int):SI:=if least a=great a then say (least a)else ur
theorem oU{n:Int}{a:List Int}:(∀x∈a,x=n)↔least (n :: a)=great (n :: a):=by
 constructor
 .intro h;have e:∀x∈n :: a,x=n:=λx b=>by
   rcases dt.mp b with r|b
   .exact r
   .exact h x b
  rw[e _ eV.1,e _ fT.1]
 .intro h x b;have g:=eV.2 x (iO n b);have f:=fT.2 x (iO n b);have d:=eV.2 n (ff (l:=a));have c:=fT.2 n (ff (l:=a));lia
theorem vj{n:Int}{a:List Int}(h:∀x∈a,x=n):least (n :: a)=n:=by
 have e:∀x∈n :: a,x=n:=λx b=>by
  rcases dt.mp b with r|b
  .exact r
  .exact h x b
 exact e _ eV.1
def ver(f:List Int->SI):List Int->SI
 | []=>vi
 |n :: ns=>f (n :: ns)
def Wy(C:GD)(H:Hp)(x:GD):Prop:=∃a z,H x=Kb (.ins C a [("called",.str z)])
def xf(a:List Int):SI:=say (a.headD 0)
def jZ(a:List Int):SI:=if a.length=1 then say (a.headD 0)else ur
def near(lo hi n:Int):Int:=if n<lo then lo else if n>hi then hi else n
def wf:Nat->Int->Int->List Int->SI
 |0,_,_=>xf
 |1,_,_=>jZ
 |2,_,_=>jY
 |3,_,_=>DC
 |4,_,_=>B7
 |_,lo,hi=>λa=>say (near lo hi a.sum)
theorem at0(n:Int)(a:List Int):atI ((n :: a).map V.int) 0=Kb (.int n):=aS (j:=0) U
def vk(K:W.Frag)(C g f:GD)(i:Nat):Sp:=λe H Q _=>∃(x c o:GD)(n:Int)(a:List Int)(b:Int×Int),e=[.ref x,.ref c,.ref o]/\Wy C H x/\Dom g f H o b/\b.1<=b.2/\SqL K H c ((n :: a).map V.int)/\a.length<900/\∀(r:GD)(d:Hp),ar H d->Vd K d r (wf i b.1 b.2 (n :: a))->Q (.ref r) d
def j3(K:W.Frag)(C g f:GD)(i:Nat):Sp:=λe H Q _=>∃(x c o:GD)(a:List Int)(b:Int×Int),e=[.ref x,.ref c,.ref o]/\Wy C H x/\Dom g f H o b/\b.1<=b.2/\SqL K H c (a.map V.int)/\a.length<900/\∀(r:GD)(d:Hp),ar H d->Vd K d r (ver (wf i b.1 b.2) a)->Q (.ref r) d
def msk(f:Nat->Bool):Nat->Nat
 |0=>0
 |n+1=>(if f n then 2^n else 0)+msk f n
theorem j4(f:Nat->Bool)(n:Nat):msk f (n+1)=(if f n then 2^n else 0)+msk f n:=rfl
theorem tm(f:Nat->Bool):∀n,msk f n<2^n
 |0=>Nat.one_pos
 |n+1=>by
  have:=tm f n;unfold msk;rw[A8];split <;> lia
theorem uu(f:Nat->Bool)(k:Nat):∀n,(msk f n).testBit k=(Kf (k<n) && f k)
 |0=>by simp[msk]
 |n+1=>by
  have b:=uu f k n;have lt:=tm f n;unfold msk;rcases Nat.lt_trichotomy k n with h|h|h
  .split
   .rw[Nat.testBit_two_pow_add_gt h,b];simp[h,zc h]
   .rw[Nat.zero_add,b];simp[h,zc h]
  .subst h;split
   .rename_i hf
    rw[Nat.testBit_two_pow_add_eq,Nat.testBit_lt_two_pow lt];simp[hf]
   .rename_i hf
    rw[Nat.zero_add,Nat.testBit_lt_two_pow lt];simp[hf]
  .have a:(if f n=Kd then 2^n else 0)+msk f n<2^k:=yU (tm f (n+1)) (Nat.pow_le_pow_right (by decide) h);rw[Nat.testBit_lt_two_pow a];simp;lia
def bQ(m:Int)(k:Nat):Bool:=Hw.bitAnd (m / 2^k) 1 != 0
theorem vm(f:Nat->Bool)(n k:Nat):bQ ((msk f n:Nat):Int) k=(Kf (k<n) && f k):=by
 rw[←uu];unfold bQ;have e:((msk f n:Nat):Int) / 2^k=((msk f n / 2^k:Nat):Int):=by simp
 rw[e,PyProof.Rows.bitAnd_pp (Int.natCast_nonneg _) (by decide)];unfold Nat.testBit;rw[Nat.shiftRight_eq_div_pow,DJ,Nat.and_comm];show((((1:Int).toNat &&& (msk f n / 2^k):Nat):Int) != 0)=_;rw[Bool.eq_iff_iff,bne_iff_ne,bne_iff_ne];constructor
 .intro h z;exact h (by rw[show(1:Int).toNat=1 from U,z];rfl)
 .intro h z;exact h (by rw[show(1:Int).toNat=1 from U]at z;lia)
def pkF(rws:List Rw)(f:Nat->Bool)(n:Nat):List Int:=((List.range n).filter f).map λk=>(rws.getD k ([],0)).2
theorem xg(rws:List Rw)(f:Nat->Bool)(n:Nat):pkF rws f (n+1)=pkF rws f n++(if f n then[(rws.getD n ([],0)).2] else[]):=by
 unfold pkF;rw[kD,nq,iv];cases h:f n with
 |true=>rw[pb h];simp
 |false=>rw[pk (by rw[h];exact Bool.false_ne_true)];simp
theorem uv(rws:List Rw)(f:Nat->Bool)(n:Nat):(pkF rws f n).length<=n:=by
 unfold pkF;rw[bx];exact yW (lI ..) (by simp)
theorem yD(rws:List Rw)(f:Nat->Bool)(n:Nat):pkF rws (bQ ((msk f n:Nat):Int)) n=pkF rws f n:=by
 unfold pkF
 congr 1
 apply List.filter_congr
 intro k a;rw[vm];simp[ju.mp a]
def Tbl(g h f:GD)(H:Hp)(t:GD)(rws:List Rw)(i:Nat)(o:Int×Int):Prop:=∃(c d e:GD)(fs:List (Str×V))(a:List V)(b:Str),H t=Kb (.ins g e fs)/\fs.lookup s!"rows"=Kb (.ref c)/\fs.lookup s!"way"=Kb (.str b)/\fs.lookup s!"outcome"=Kb (.ref d)/\H c=Kb (.lst a)/\RL NT H a rws/\six[i]?=Kb b/\Dom h f H d o/\o.1<=o.2/\a.length<=200
theorem Tbl.same{c d b:GD}{H H':Hp}{t:GD}{rws:List Rw}{i:Nat}{o:Int×Int}(h:Tbl c d b H t rws i o)(s:ar H H'):Tbl c d b H' t rws i o:=by
 obtain⟨g,j,w,fs,e,f,v,u,r,q,p,n,m,l,k,a⟩:=h;exact⟨g,j,w,fs,e,f,s _ _ v,u,r,q,s _ _ p,n.same s,m,l.same s,k,a⟩
def iJ(rws:List Rw)(a:List Int)(k:Nat):Bool:=nR (rws.getD k ([],0)).1 a
theorem getD_at{rws:List Rw}{k:Nat}{w:Rw}(e:rws[k]?=Kb w):rws.getD k ([],0)=w:=by rw[dF,e];rfl
def fl(rws:List Rw)(a:List Int):List Int:=(rws.filter λw=>nR w.1 a).map (·.2)
def ord:List Nat:=[3,4,2,1,0,5]
structure Lay(H:Hp)(r1:GD)(F2 F3:GD->Prop)(m:Nat):Prop where
 top:∃xs,H r1=Kb (.lst xs)/\xs.length<=63/\∀x∈xs,∃(t ce:GD)(c:Int),x=.ref t/\H t=Kb (.tup [.ref ce,.int c])/\F2 ce
 mid:∀ce,F2 ce->∃ys,H ce=Kb (.lst ys)/\ys.length<=4/\∀y∈ys,∃l,y=.ref l/\F3 l
 low:∀l,F3 l->∃zs,H l=Kb (.lst zs)/\zs.length<=m
 n2:¬ F2 r1
 n3:¬ F3 r1
 n23:∀a,F2 a->F3 a->False
theorem xh(x:V)(xs:List V):jQ (x :: xs) (Kb 1) Kc=xs:=by
 unfold jQ;simp[HT.sIx]
theorem RL.hideN{N:GD->Prop}{H:Hp}{x C d:GD}{fs:List (Str×V)}(a:H x=Kb (.ins C d fs)){xs:List V}{rws:List Rw}(h:RL N H xs rws):RL N (My.hide H x) xs rws :=
 ax.mono h λr w ⟨j,i,e,n,f,c⟩=>⟨j,i,de e (eI e a (by intro z;cases z)),n,de f (eI f a (by intro z;cases z)),ax.mono c λl k ⟨n,b,g,p⟩=>⟨n,b,de g (eI g a (by intro z;cases z)),PL.hide a p⟩⟩
def qV(N:GD->Prop)(j:GD)(H:Hp)(t:GD)(rws:List Rw)(g e:Str)(f:GD)(zs:List Str)(i:List V):Prop:=∃(b h c d:GD)(fs:List (Str×V))(a:List V),H t=Kb (.ins j h fs)/\fs.lookup s!"rows"=Kb (.ref b)/\fs.lookup s!"name"=Kb (.str g)/\fs.lookup s!"way"=Kb (.str e)/\fs.lookup s!"outcome"=Kb (.ref f)/\fs.lookup s!"names"=Kb (.ref c)/\fs.lookup s!"domains"=Kb (.ref d)/\H c=Kb (.lst (zs.map V.str))/\H d=Kb (.lst i)/\H b=Kb (.lst a)/\RL N H a rws/\N c/\N d/\N b/\a.length<=200
theorem qV.tbl{N:GD->Prop}{f g e:GD}{H:Hp}{t:GD}{rws:List Rw}{m a:Str}{b:GD}{zs:List Str}{w:List V}{i:Nat}{o:Int×Int}(h:qV N f H t rws m a b zs w)(hi:six[i]?=Kb a)(n:Dom g e H b o)(p:o.1<=o.2):Tbl f g e H t rws i o:=by
 obtain⟨l,v,_,_,fs,j,u,s,_,r,q,_,_,_,_,d,c,_,_,_,k⟩:=h;exact⟨l,b,v,fs,j,a,u,s,r,q,d,c.any,hi,n,p,k⟩
section
variable{H G:Hp}{Bad N:GD->Prop}
end
theorem qW{xs:List V}{k:Int}(c:0<=k)(b:k<=xs.length):jQ xs (Kb k) Kc=xs.drop k.toNat:=by
 unfold jQ;have e:HT.sIx xs.length 0 (Kb k)=k.toNat:=by
  simp only[HT.sIx];split <;> lia
 have a:HT.sIx xs.length xs.length Kc=xs.length:=by simp[HT.sIx]
 rw[e,a,←jB,ip]
theorem DD{k:Int}(c:0<=k)(b:k<5):∃(a:Str)(i:Nat),atI [V.str s!"first",.str s!"only",.str s!"like",.str s!"low",.str s!"high"] k=Kb (.str a)/\six[i]?=Kb a/\a≠s!"sum" := by
 have:k=0\/k=1\/k=2\/k=3\/k=4:=by lia
 rcases this with rfl|rfl|rfl|rfl|rfl
 .exact⟨_,0,U,U,by decide⟩
 .exact⟨_,1,U,U,by decide⟩
 .exact⟨_,2,U,U,by decide⟩
 .exact⟨_,3,U,U,by decide⟩
 .exact⟨_,4,U,U,by decide⟩
def cA(a:List Int)(k:Int):Int:=a.getD k.toNat 0
structure Pts(ps:List Int):Prop where
 two:2<=ps.length
 few:ps.length<=13
 asc:ps.Pairwise (· < ·)
def loP(ps:List Int):Int:=ps.getD 0 0
def hiP(ps:List Int):Int:=ps.getD (ps.length-1) 0-1
theorem Pts.mono{ps:List Int}(h:Pts ps){i j:Nat}{x y:Int}(d:ps[i]?=Kb x)(c:ps[j]?=Kb y)(a:i<j):x<y:=by
 obtain⟨hi,rfl⟩:=Gz.mp d;obtain⟨b,rfl⟩:=Gz.mp c;exact List.pairwise_iff_getElem.mp h.asc i j hi b a
theorem Pts.lo{ps:List Int}(h:Pts ps){i:Nat}{x:Int}(a:ps[i]?=Kb x):loP ps<=x:=by
 have c:=h.two;have b:ps[0]?=Kb (loP ps):=by
  unfold loP;rw[dF,Gy (by lia)];rfl
 rcases Nat.eq_zero_or_pos i with rfl|hi
 .rw[b]at a;cases a;exact Int.le_refl _
 .exact Int.le_of_lt (h.mono b a hi)
theorem Pts.last{ps:List Int}(h:Pts ps):ps[ps.length-1]?=Kb (hiP ps+1):=by
 have a:=h.two;unfold hiP;rw[dF,Gy (by lia)];simp
theorem Pts.hi{ps:List Int}(h:Pts ps){i:Nat}{x:Int}(a:ps[i]?=Kb x):x-1<=hiP ps:=by
 have hi:=(Gz.mp a).1;by_cases e:i=ps.length-1
 .rw[e,h.last]at a;cases a;lia
 .have:=h.mono a h.last (by lia);lia
theorem Pts.le{ps:List Int}(h:Pts ps):loP ps<=hiP ps:=by
 have b:=h.two;have a:ps[0]?=Kb (loP ps):=by
  unfold loP;rw[dF,Gy (by lia)];rfl
 have:=h.mono a h.last (by lia);lia
def cG(n:Nat):List Int:=(List.range n).map λj:Nat=>(0:Int)+(j:Int)
theorem qX(n:Nat):cG (n+1)=cG n++[(0:Int)+(n:Int)]:=by unfold cG;rw[kD,iv];rfl
theorem bZ(n:Nat):(cG n).length=n:=by unfold cG;simp
theorem iH{n i:Nat}(h:i<n):(cG n)[i]?=Kb (i:Int):=by unfold cG;rw[gI,List.getElem?_range h];simp
theorem tq{n:Nat}(f:1<=n)(e:n<=12):Pts (cG (n+1)):=by
 refine⟨by rw[bZ];lia,by rw[bZ];lia,?_⟩;rw[List.pairwise_iff_getElem];intro i j hi a d;rw[bZ]at hi a;have c:=iH hi;have b:=iH a;rw[Gy (by rw[bZ];exact hi)]at c;rw[Gy (by rw[bZ];exact a)]at b;rw[Option.some.inj c,Option.some.inj b];lia
theorem vo{n:Nat}(h:1<=n):loP (cG (n+1))=0:=by
 unfold loP;rw[dF,iH (by lia)];rfl
theorem vp(n:Nat):hiP (cG (n+1))=(n:Int)-1:=by
 unfold hiP;rw[bZ,dF,show n+1-1=n by lia,iH (by lia)];rfl
def PTL(H:Hp)(xs:List V)(a:List (List Int)):Prop:=ax xs a λl b=>H l=Kb (.lst (b.map V.int))
theorem PTL.same{H H':Hp}{xs:List V}{a:List (List Int)}(h:PTL H xs a)(s:ar H H'):PTL H' xs a:=ax.mono h λ_ _ e=>s _ _ e
structure pQ(ns:List Int)(Kh:List (List Int)):Prop where
 pts:∀ps∈Kh,Pts ps
 wrd:∀(j:Nat)(ps:List Int),Kh[j]?=Kb ps->cA ns (1+(0+(j:Int)))%3=1->∃n:Nat,1<=n/\n<=12/\ps=cG (n+1)
theorem DE{k:Int}(b:0<=k)(a:k<5):∃v:Int,atI [V.int 10007,.int 10009,.int 10037,.int 10039,.int 10061] k=Kb (.int v)/\0<v:=by
 have:k=0\/k=1\/k=2\/k=3\/k=4:=by lia
 rcases this with rfl|rfl|rfl|rfl|rfl
 .exact⟨_,U,by decide⟩
 .exact⟨_,U,by decide⟩
 .exact⟨_,U,by decide⟩
 .exact⟨_,U,by decide⟩
 .exact⟨_,U,by decide⟩
def s2(c:Int):List Nat:=[113+(c%8).toNat,121+(c / 8%2).toNat]
def w3l(c k:Int):List Nat:=(s2 c).take (c / 16%3).toNat++([97+k.toNat]++(s2 c).drop (c / 16%3).toNat)
def w3(c k:Int):Str:=⟨(w3l c k).toArray⟩
theorem DF(c:Int):(c / 16%3).toNat<=2:=by
 have:=Dt (c / 16) (show(0:Int)<3 by decide);lia
theorem xi(c k:Int):(w3l c k).length=3:=by
 have:=DF c;unfold w3l s2;simp;lia
theorem tD(c k:Int)(f:0<=k)(e:k<12):∀x∈w3l c k,97<=x/\x<=122/\x≠110:=λx a=>by
 have j:=Dq c (show(8:Int)≠0 by decide);have i:=Dt c (show(0:Int)<8 by decide);have h:=Dq (c / 8) (show(2:Int)≠0 by decide);have g:=Dt (c / 8) (show(0:Int)<2 by decide);have d:∀y∈s2 c,97<=y/\y<=122/\y≠110:=λy b=>by
  unfold s2 at b;simp only[dt,jw,or_false]at b;lia
 unfold w3l at a;rcases gg.mp a with a|a
 .exact d x (ro a)
 .rcases gg.mp a with a|a
  .have:x=97+k.toNat:=by simpa using a
   lia
  .exact d x (rr a)
theorem AN{l:List Nat}(j:1<=l.length)(i:l.length<=12)(f:∀x∈l,97<=x/\x<=122)(d:l≠[110,111,116]):isw ⟨l.toArray⟩=true:=by
 have c:lV ⟨l.toArray⟩ lets=true:=by
  unfold lV;rw[jt];intro x a;exact AM (f x (by simpa using a))
 have b:¬ (V.str ⟨l.toArray⟩=V.str s!"not"):=λh=>by
  injection h with h;have e:s!"not" = ⟨[110,111,116].toArray⟩:=by decide+kernel
  rw[e]at h;injection h with h;exact d (by simpa using Ko Array.toList h)
 have g:(⟨l.toArray⟩:Str).length=l.length:=by simp[Str.length]
 unfold isw;rw[c,Kl (show(1:Int)<=(((⟨l.toArray⟩:Str).length:Nat):Int) by lia),Kl (show(((⟨l.toArray⟩:Str).length:Nat):Int)<=12 by lia)];show(Kd && (Kd && (!Kf (V.str ⟨l.toArray⟩=V.str s!"not") && Kd)))=Kd;rw[Km b];rfl
theorem xj(c k:Int)(b:0<=k)(a:k<12):isw (w3 c k)=true :=
 AN (by rw[xi];decide) (by rw[xi];decide) (λx d=>⟨(tD c k b a x d).1,(tD c k b a x d).2.1⟩) λh=>(tD c k b a 110 (by rw[h];simp)).2.2 U
theorem xk{c k a:Int}(d:0<=k)(b:0<=a)(e:w3 c k=w3 c a):k=a:=by
 unfold w3 at e;injection e with e;have e:w3l c k=w3l c a:=by simpa using Ko Array.toList e
 unfold w3l at e;have e:=List.append_cancel_left e;injection e with e _;lia
def w3s(c:Int)(n:Nat):List Str:=(List.range n).map λj:Nat=>w3 c (0+(j:Int))
theorem mE(c:Int)(n:Nat):w3s c (n+1)=w3s c n++[w3 c (0+(n:Int))]:=by unfold w3s;rw[kD,iv];rfl
theorem fw(c:Int)(n:Nat):(w3s c n).length=n:=by unfold w3s;simp
theorem oV(c:Int)(n:Nat):(w3s c n).Nodup:=by
 unfold w3s;rw[List.nodup_iff_pairwise_ne,List.pairwise_map];refine List.Pairwise.imp_of_mem (R:=λa b=>a≠b) (λ{a b} g f d e=>?_) List.nodup_range;have:=xk (by lia) (by lia) e;lia
theorem uw{c:Int}{n:Nat}(h:n<=12):∀z∈w3s c n,isw z=true:=λz a=>by
 unfold w3s at a;obtain⟨j,b,rfl⟩:=en.mp a;have:=ju.mp b;exact xj _ _ (by lia) (by lia)
theorem qY{c:Int}{n:Nat}(b:1<=n)(a:n<=12):Good (w3s c n):=⟨by rw[fw];exact b,by rw[fw];lia,uw a,oV c n⟩
theorem B8(x y:Nat){t:Int}(b:0<=t)(a:t<3):Txt.slice ⟨#[x,y]⟩ Kc (Kb t)=⟨([x,y].take t.toNat).toArray⟩:=by
 have:t=0\/t=1\/t=2:=by lia
 rcases this with rfl|rfl|rfl <;> rfl
theorem B9(x y:Nat){t:Int}(a:0<=t)(b:t<3):Txt.slice ⟨#[x,y]⟩ (Kb t) Kc=⟨([x,y].drop t.toNat).toArray⟩:=by
 have h:=StrLaws.sliceText_from (x:=⟨#[x,y]⟩) (i:=t) ⟨a,by show t<=2;lia⟩;have e:Txt.slice ⟨#[x,y]⟩ (Kb t) Kc=StrLaws.sliceText ⟨#[x,y]⟩ (Kb t) none:=rfl;rw[e,h];have:t=0\/t=1\/t=2:=by lia
 rcases this with rfl|rfl|rfl <;> simp
theorem qx8{k:Int}(b:0<=k)(a:k<8):atI s!"qrstuvwx".cps.toList k=Kb (113+k.toNat):=by
 have:k=0\/k=1\/k=2\/k=3\/k=4\/k=5\/k=6\/k=7:=by lia
 rcases this with rfl|rfl|rfl|rfl|rfl|rfl|rfl|rfl <;> decide+kernel
theorem yz2{k:Int}(b:0<=k)(a:k<2):atI s!"yz".cps.toList k=Kb (121+k.toNat):=by
 have:k=0\/k=1:=by lia
 rcases this with rfl|rfl <;> decide+kernel
theorem Ca:s!"abcdefghijkl".cps.toList=(List.range 12).map (97 + ·):=by decide+kernel
def hV(c:Int)(g:List Int):Prop:=∃f e d b a:Int,g=[f,e,d,b,a]/\f<=e/\e<=d/\d<=b/\b<=a/\(c%3=1->f=0/\a=4)
def o0(a:List Int):Int:=a.getD 0 0
def o4(a:List Int):Int:=a.getD 4 0
theorem yE{c:Int}{a:List Int}(h:hV c a):∀x∈a,o0 a<=x/\x<=o4 a:=by
 obtain⟨e,i,g,f,d,rfl,m,l,k,j,_⟩:=h;intro x b;show e<=x/\x<=d;simp only[dt,jw,or_false]at b;rcases b with rfl|rfl|rfl|rfl|rfl <;> lia
theorem DG{k:Int}(c:0<=k)(b:k<6):∃(a:Str)(i:Nat),atI [V.str s!"first",.str s!"only",.str s!"like",.str s!"low",.str s!"high",.str s!"sum"] k=Kb (.str a)/\six[i]?=Kb a:=by
 have:k=0\/k=1\/k=2\/k=3\/k=4\/k=5:=by lia
 rcases this with rfl|rfl|rfl|rfl|rfl|rfl
 .exact⟨_,0,U,U⟩
 .exact⟨_,1,U,U⟩
 .exact⟨_,2,U,U⟩
 .exact⟨_,3,U,U⟩
 .exact⟨_,4,U,U⟩
 .exact⟨_,5,U,U⟩
def BRL(H:Hp)(rx:List V)(bms:List (List Int×Int)):Prop:=ax rx bms λr b=>∃bl:GD,H r=Kb (.tup [.ref bl,.int b.2])/\H bl=Kb (.lst (b.1.map V.int))
theorem BRL.same{H H':Hp}{rx:List V}{bms:List (List Int×Int)}(h:BRL H rx bms)(s:ar H H'):BRL H' rx bms:=ax.mono h λ_ _ ⟨bl,e,f⟩=>⟨bl,s _ _ e,s _ _ f⟩
theorem xl{xs:List V}{k:Nat}(b:k<=xs.length):jQ xs Kc (Kb (k:Int))=xs.take k:=by
 unfold jQ;have e:HT.sIx xs.length xs.length (Kb (k:Int))=k:=by
  simp only[HT.sIx];split <;> lia
 have a:HT.sIx xs.length 0 Kc=0:=by simp[HT.sIx]
 rw[e,a,List.drop_zero,Nat.sub_zero]
theorem qV.wk{N:GD->Prop}{g:GD}{H:Hp}{t:GD}{rws:List Rw}{e c:Str}{d:GD}{zs:List Str}{f:List V}(h:qV N g H t rws e c d zs f):qV (λ_=>True) g H t rws e c d zs f:=by
 obtain⟨j,x,k,y,fs,i,w,v,u,s,q,o,n,m,l,b,a,_,_,_,r⟩:=h;exact⟨j,x,k,y,fs,i,w,v,u,s,q,o,n,m,l,b,ax.mono a λ_ _ p=>p.wk λ_ _=>trivial,trivial,trivial,trivial,r⟩
def bX(lo hi:Int)(a:List Int):List (Int×Int):=(lo :: a).zip (a.map (· - 1)++[hi])
def Chn:List (Int×Int)->Int->Int->Prop
 | [],lo,hi=>lo=hi+1
 |p :: r,lo,hi=>p.1=lo/\lo<=p.2/\Chn r (p.2+1) hi
theorem qZ:∀{a:List Int}{lo hi:Int},a.Pairwise (· < ·)->(∀c∈a,lo<c/\c<=hi)->lo<=hi->Chn (bX lo hi a) lo hi
 | [],lo,hi,_,_,h=>⟨U,h,U⟩
 |c :: a,lo,hi,hp,hb,h=>by
  obtain⟨i,g⟩:=ri.mp hp;have f:=hb c ff;have e:bX lo hi (c :: a)=(lo,c-1) :: bX c hi a:=rfl;rw[e];refine⟨U,by show lo<=c-1;lia,?_⟩;show Chn (bX c hi a) (c-1+1) hi;rw[show c-1+1=c by lia];exact qZ g (λd b=>⟨i d b,(hb d (iO _ b)).2⟩) f.2
theorem fU(lo hi:Int)(a:List Int):(bX lo hi a).length=a.length+1:=by simp[bX]
theorem PL.of_get{H:Hp}:∀{ts:List GD}{ps:List (Int×Int)},ts.length=ps.length->(∀(j:Nat)(p:Int×Int),ps[j]?=Kb p->∃T,ts[j]?=Kb T/\H T=Kb (.tup [.int p.1,.int p.2]))->PL H (ts.map V.ref) ps
 | [],[],_,_=>.nil
 | [],p :: ps,h,_=>by simp at h
 |t :: ts,[],h,_=>by simp at h
 |t :: ts,p :: ps,h,g=>by
  obtain⟨T,c,b⟩:=g 0 p U;have:t=T:=by simpa using c
  subst this;exact .cons ⟨t,U,b⟩ (PL.of_get (by simpa using h) λj q a=>by simpa using g (j+1) q (by simpa using a))
theorem zip_get{lo hi:Int}{a:List Int}{j:Nat}{p:Int×Int}(e:(bX lo hi a)[j]?=Kb p):((lo :: a).map V.int)[j]?=Kb (.int p.1)/\((a.map (· - 1)++[hi]).map V.int)[j]?=Kb (.int p.2):=by
 unfold bX at e;rw[rj]at e;obtain⟨c,b⟩:=e;exact⟨get_map c,get_map b⟩
def mF(lo hi:Int)(a:List Int)(m:Int):List Int:=if lo<m/\m<=hi/\m ∉ a then a++[m]else a
def dd(lo hi:Int)(a:List Int):List Int:=a.foldl (mF lo hi) []
theorem pR(lo hi:Int):∀(e d:List Int),d.Nodup->(e.foldl (mF lo hi) d).Nodup/\∀c,c∈e.foldl (mF lo hi) d↔(c∈d\/(c∈e/\lo<c/\c<=hi))
 | [],d,h=>⟨h,λc=>by simp⟩
 |m :: e,d,h=>by
  have k:(mF lo hi d m).Nodup:=by
   unfold mF;split
   .rename_i g
    rw[vK];refine⟨h,by simp,λa j b i=>?_⟩;have:b=m:=by simpa using i
    subst this;exact λz=>g.2.2 (z ▸ j)
   .exact h
  obtain⟨n,l⟩:=pR lo hi e (mF lo hi d m) k;refine⟨n,λc=>(l c).trans ?_⟩;unfold mF;by_cases g:lo<m/\m<=hi/\m ∉ d
  .rw[Kj g];simp only[gg,dt,jw,or_false];constructor
   .rintro((h|rfl)|⟨h,h'⟩)
    .exact .inl h
    .exact .inr ⟨.inl U,g.1,g.2.1⟩
    .exact .inr ⟨.inr h,h'⟩
   .rintro(h|⟨rfl|h,h'⟩)
    .exact .inl (.inl h)
    .exact .inl (.inr U)
    .exact .inr ⟨h,h'⟩
  .rw[Ki g];simp only[dt];constructor
   .rintro(h|⟨h,h'⟩)
    .exact .inl h
    .exact .inr ⟨.inr h,h'⟩
   .rintro(h|⟨rfl|h,h'⟩)
    .exact .inl h
    .by_cases f:c∈d
     .exact .inl f
     .exact Kk ⟨h'.1,h'.2,f⟩ g
    .exact .inr ⟨h,h'⟩
theorem AO{lo hi:Int}{a b:List Int}(g:b.Pairwise (· < ·))(i:∀c,c∈b↔(c∈a/\lo<c/\c<=hi)):b.length=(dd lo hi a).length:=by
 obtain⟨j,f⟩:=pR lo hi a [] vL;have e:∀c,c∈b↔c∈dd lo hi a:=λc=>by
  rw[i c];exact⟨λh=>(f c).mpr (.inr h),λh=>by rcases(f c).mp h with z|z;cases z;exact z⟩
 exact Nat.le_antisymm (bH (g.imp λh=>Int.ne_of_lt h) λx d=>(e x).mp d) (bH j λx d=>(e x).mpr d)
theorem Cb(lo hi:Int)(a:List Int):(dd lo hi a).length<=a.length:=by
 obtain⟨d,c⟩:=pR lo hi a [] vL;exact bH d λx b=>by rcases(c x).mp b with z|z;cases z;exact z.1
def gl(ps:List (Int×Int))(a:List (List Int))(j:Nat):Nat:=(dd (ps.getD j (0,0)).1 (ps.getD j (0,0)).2 (a.getD j [])).length+1
def gr(ps:List (Int×Int))(a:List (List Int)):Nat->Nat
 |0=>1
 |n+1=>gr ps a n*gl ps a n
theorem Cc{ps:List (Int×Int)}{a:List (List Int)}(h:∀b∈a,b.length<=57)(j:Nat):gl ps a j<=58:=by
 unfold gl;have:=Cb (ps.getD j (0,0)).1 (ps.getD j (0,0)).2 (a.getD j []);have c:(a.getD j []).length<=57:=by
  rw[dF];cases e:a[j]? with
  |none=>simp
  |some b=>exact h b (GB e)
 lia
theorem zH{ps:List (Int×Int)}{c:List (List Int)}(h:∀ms∈c,ms.length<=57):∀n,gr ps c n<=58^n
 |0=>yr _
 |n+1=>by
  have a:=zH (ps:=ps) h n;have b:=Cc (ps:=ps) h n;show gr ps c n*gl ps c n<=58^n*58;exact Am a b
def MLs(H:Hp)(c:List GD)(a:List (List Int)):Prop:=c.length=a.length/\∀(j:Nat)(b:List Int),a[j]?=Kb b->∃r,c[j]?=Kb r/\H r=Kb (.lst (b.map V.int))
theorem MLs.keep{H H':Hp}{b:List GD}{a:List (List Int)}(h:MLs H b a)(k:∀r∈b,∀o,H r=Kb o->H' r=Kb o):MLs H' b a :=
 ⟨h.1,λj c e=>let ⟨r,e1,e2⟩:=h.2 j c e;⟨r,e1,k r (GB e1) _ e2⟩⟩
theorem MLs.same{H H':Hp}{b:List GD}{a:List (List Int)}(h:MLs H b a)(s:ar H H'):MLs H' b a:=h.keep λ_ _ _ e=>s _ _ e
theorem xm{a:List GD}{j:Nat}{x:V}(e:(a.map V.ref)[j]?=Kb x):∃r,x=.ref r/\a[j]?=Kb r:=by
 rw[gI]at e;cases h:a[j]? with
 |none=>rw[h]at e;cases e
 |some r=>rw[h]at e;cases e;exact⟨r,U,U⟩
def MOK(ps:List (Int×Int))(a:List (List Int)):Prop:=ps.length=a.length/\ps.length<=6/\∀ms∈a,ms.length<=57
abbrev Tri:=Int×Int×V
structure At(ts:List Tri)(c:Int)(j:Nat)(t:Tri):Prop where
 at_:ts[j]?=Kb t
 le:c<=t.2.1
 lt:∀(i:Nat)(u:Tri),i<j->ts[i]?=Kb u->u.2.1<c
theorem zI:∀{c:List (Int×Int)}{lo hi:Int},Chn c lo hi->yz c lo hi
 | [],_,_,h=>h
 |_ :: _,_,_,h=>⟨h.1,h.2.1,zI h.2.2⟩
theorem mG:∀{a:List Int}{lo hi c:Int},a.Pairwise (· < ·)->(∀x∈a,lo<x)->lo<=c->c<=hi->bW (bX lo hi a) c<=c/\(bW (bX lo hi a) c=lo\/bW (bX lo hi a) c∈a)/\lo<=bW (bX lo hi a) c/\∀x∈a,x<=c->x<=bW (bX lo hi a) c
 | [],lo,hi,c,_,_,h1,h2=>by
  have e:bW (bX lo hi []) c=lo:=by simp[bX,bW,h2]
  rw[e];exact⟨h1,.inl U,Int.le_refl _,λx b=>by cases b⟩
 |d :: a,lo,hi,c,hp,hb,h1,h2=>by
  obtain⟨h,j⟩:=ri.mp hp;have e:bX lo hi (d :: a)=(lo,d-1) :: bX d hi a:=rfl;by_cases q:c<=d-1
  .have g:bW (bX lo hi (d :: a)) c=lo:=by rw[e];unfold bW;rw[mW (by simpa using q)];rfl
   rw[g];refine⟨h1,.inl U,Int.le_refl _,λx b i=>?_⟩;rcases dt.mp b with rfl|b
   .lia
   .have:=h x b;lia
  .have g:bW (bX lo hi (d :: a)) c=bW (bX d hi a) c:=by rw[e];unfold bW;rw[ni (by simpa using q)]
   rw[g];obtain⟨m,f,l,k⟩:=mG j h (c:=c) (by lia) h2;have n:=hb d ff;refine⟨m,.inr ?_,by lia,λx b i=>?_⟩
   .rcases f with f|f
    .rw[f];exact ff
    .exact iO _ f
   .rcases dt.mp b with rfl|b
    .exact l
    .exact k x b i
def CoL(H:Hp)(xs:List V)(a:List (List (Int×Int))):Prop:=ax xs a λr c=>∃b,H r=Kb (.lst b)/\PL H b c
theorem CoL.same{H H':Hp}{xs:List V}{a:List (List (Int×Int))}(h:CoL H xs a)(s:ar H H'):CoL H' xs a:=ax.mono h λ_ _ ⟨b,e,p⟩=>⟨b,s _ _ e,PL.mono p s.tups⟩
structure AQ{K':W.Frag}{L:Type} [DecidableEq L] (A:Lfp K' L)(P:GC)(w:Gn)(K:W.Frag)(mg:Str->Option Gf)(base:GG)(f:GD)(m:Nat)(g:List Int->L)(J:Hp->Prop):Prop where
 fn:∃sp,HFn P w K mg base 8 f sp/\∀(H:Hp)(a:GD)(cs:List Int)(Q:VK),J H->cs.length=m->H a=Kb (.lst (cs.map V.int))->(∀v H',(∀b o,b≠a->H b=Kb o->H' b=Kb o)->A.R H' (g cs) v->Q v H')->sp [.ref a] H Q E0
 ob:∀H,J H->FnO H f
 st:∀H H',J H->ar H H'->J H'
theorem oW{α:Type} [DecidableEq α] (ts:List (T3a α)):(d8 ts).length<=ts.length:=by
 have:∀(r f:List (T3a α)),(r.foldl cR f).length<=f.length+r.length:=by
  intro r;induction r with
  |nil=>intro f;exact yr _
  |cons t r a =>
   intro f;have c:(cR f t).length<=f.length+1:=by
    unfold cR;split
    .split
     .rw[cK,List.length_dropLast,hQ];lia
     .rw[cK,hQ];lia
    .rw[cK,hQ];lia
   have b:=a (cR f t);rw[iK];show((r.foldl cR (cR f t)).length)<=_;lia
 have h:=this ts [];rw[List.length_nil,Nat.zero_add]at h;exact h
def below(a:List Int)(c:Int):Int:=((a.filter λm=>decide (m<=c)).length:Int)
def AR(a:List (List Int))(b:Int)(c:List Int):Nat->Int
 |0=>0
 |k+1=>AR a b c k*b+(1+AR a b c k)%3*below (a.getD k []) (c.getD k 0)
def told(a:List (List Int))(c d st:Int)(b:List Int):Int:=AR a c b b.length%d*st
def SmS{α:Type}(b:Nat)(S:α->Prop)(f:List (T3a α)):Prop:=f.length<=b/\∀t∈f,S t.2.2
def SmF{L:Type}(b:Nat):(n:Nat)->Fm L n->Prop
 |0,_=>True
 |n+1,f=>SmS b (SmF b n) f
theorem tE{b:Nat}{L:Type} [DecidableEq L] {g:List Int->L}:∀{a:List (List (Int×Int))}{ps:List (Int×Int)},fS a ps->(∀c∈a,c.length<=b)->∀e:List Int,SmF b a.length (lay g a e)
 | [],_,_,_,_=>trivial
 |c :: a,_,hok,h,e=>by
  cases hok with
  | @cons _ _ p ps hne d hok =>
   have k:=dX (wW (λq=>lay g a (e++[q.1])) d);refine⟨yW (oW _) (by rw[bx];exact h c ff),λt f=>?_⟩;obtain⟨l,j,i⟩:=k.mem t f;obtain⟨q,_,rfl⟩:=en.mp j;rw[←i];exact tE hok (λc d=>h c (iO _ d)) _
theorem AS{ps:List (Int×Int)}{c:List (List Int)}{m:Nat}(g:∀d∈c,∃L:List Int,L.length<=m/\∀x∈d,x∈L)(j:Nat):gl ps c j<=m+1:=by
 unfold gl;have:(dd (ps.getD j (0,0)).1 (ps.getD j (0,0)).2 (c.getD j [])).length<=m:=by
  rw[show c.getD j []=(c[j]?).getD []from dF ..];cases e:c[j]? with
  |none=>exact yY _
  |some d =>
   obtain⟨L,i,h⟩:=g d (GB e);obtain⟨a,b⟩:=pR (ps.getD j (0,0)).1 (ps.getD j (0,0)).2 d [] vL;refine yW (bH a λx f=>?_) i;rcases(b x).mp f with z|z
   .cases z
   .exact h x z.1
 lia
theorem tF:∀{ps:List (Int×Int)}{css:List (List Int)},css.length=ps.length->(∀p∈ps,p.1<=p.2)->(∀(j:Nat)(p:Int×Int)(d:List Int),ps[j]?=Kb p->css[j]?=Kb d->d.Pairwise (· < ·)/\∀c∈d,p.1<c/\c<=p.2)->fS (List.zipWith (λp d=>bX p.1 p.2 d) ps css) ps
 | [],[],_,_,_=>.nil
 | [],_ :: _,h,_,_=>by simp at h
 |_ :: _,[],h,_,_=>by simp at h
 |p :: ps,d :: css,h,hle,hk=>by
  obtain⟨a,b⟩:=hk 0 p d U U;refine .cons (λz=>?_) (zI (qZ a b (hle p ff))) (tF (by simpa using h) (λq e=>hle q (iO _ e)) λj q c g f=>hk (j+1) q c (by simpa using g) (by simpa using f));have:=Ko List.length z;rw[fU]at this;simp at this
def nU{L M:Type} [DecidableEq M] (h:L->M):(n:Nat)->Fm L n->Fm M n
 |0,x=>h x
 |n+1,f=>d8 (List.map (λt:T3a (Fm L n)=>((t.1,t.2.1,nU h n t.2.2):T3a (Fm M n))) f)
theorem pS{α a:Type}(F:α->a):∀{f:List (T3a α)}{lo hi:Int},Ch3 f lo hi->Ch3 (f.map λt=>((t.1,t.2.1,F t.2.2):T3a a)) lo hi
 | [],_,_,h=>h
 |_ :: _,_,_,h=>⟨h.1,h.2.1,pS F h.2.2⟩
theorem q8{α a:Type}(F:α->a)(c:Int):∀f:List (T3a α),vAt (f.map λt=>((t.1,t.2.1,F t.2.2):T3a a)) c=(vAt f c).map F
 | []=>rfl
 |t :: f=>by
  have b:=q8 F c f;unfold vAt at b⊢;rw[mu];by_cases q:c<=t.2.1
  .rw[mW (by simpa using q),mW (by simpa using q)];rfl
  .rw[ni (by simpa using q),ni (by simpa using q)];exact b
theorem eN{α:Type}{c:Int}:∀{f:List (T3a α)}{j:Nat}{t:T3a α},f[j]?=Kb t->c<=t.2.1->(∀(i:Nat)(u:T3a α),i<j->f[i]?=Kb u->u.2.1<c)->vAt f c=Kb t.2.2
 | [],j,t,e,_,_=>by simp at e
 |u :: f,0,t,e,h,_=>by
  cases e;unfold vAt;rw[mW (by simpa using h)];rfl
 |u :: f,j+1,t,e,h,k=>by
  have a:=k 0 u (zz _) U;have:=eN (f:=f) (j:=j) (t:=t) (by simpa using e) h λi w hi b=>k (i+1) w (by lia) (by simpa using b)
  unfold vAt at this⊢;rw[ni (by simpa using a)];exact this
theorem xn{L M:Type} [DecidableEq M] {h:L->M}:∀{n:Nat}{F:Fm L n}{ps:List (Int×Int)},cw n F ps->cw n (nU h n F) ps
 |0,_,_,hs=>hs
 |n+1,F,ps,hs=>by
  obtain⟨G,rfl⟩:∃G:List (T3a (Fm L n)),(G:Fm L (n+1))=F:=⟨F,U⟩;obtain⟨p,r,rfl,c,d,i,g⟩:ShS (cw n) G ps:=hs;have k:=dX (pS (nU h n) d);refine⟨p,r,U,k.ne (by simpa using c),k.ch,k.nb,λt f=>?_⟩;obtain⟨j,a,b⟩:=k.mem t f;obtain⟨u,e,rfl⟩:=en.mp a;rw[←b];exact xn (g u e)
theorem yF{L M:Type} [DecidableEq M] {h:L->M}{n:Nat}{F:Fm L n}{a:List Int}{x:L}(i:Tel n F a x):∀{ps:List (Int×Int)},cw n F ps->InB a ps->Tel n (nU h n F) a (h x):=by
 induction i with
 |nil x=>intro ps _ _;exact .nil (h x)
 | @cons n f c a x j t e1 e2 e3 _ ih =>
  intro ps l d;obtain⟨p,r,rfl,w,e,y,q⟩:ShS (cw n) f ps:=l;cases d with
  |cons o m d =>
   have k:=dX (pS (nU h n) e);obtain⟨z,g,v,A,u,s,b⟩:=k.ch.at o m;rw[k.va,q8,eN e1 e2 e3]at b;have b:nU h n t.2.2=g.2.2:=Option.some.inj b;refine .cons (f:=(nU h (n+1) f:List (T3a (Fm M n)))) v u s ?_;rw[←b];exact ih (q t (GB e1)) d
structure Cd{K':W.Frag}{L M:Type} [DecidableEq L] [DecidableEq M] (A:Lfp K' L)(B:Lfp K' M)(P:GC)(w:Gn)(K:W.Frag)(mg:Str->Option Gf)(base:GG)(f:GD)(h:L->M)(J:Hp->Prop):Prop where
 fn:∃sp,HFn P w K mg base 8 f sp/\∀(H:Hp)(v:V)(x:L)(Q:VK),J H->A.R H x v->(∀u H',ar H H'->B.R H' (h x) u->Q u H')->sp [v] H Q E0
 ob:∀H,J H->FnO H f
 st:∀H H',J H->ar H H'->J H'
def kx{α b a:Type}(G:α->b->a):Int->List (T3a α)->List (T3a b)->List (T3a a)
 |_,[],_=>[]
 |_,_ :: _,[]=>[]
 |lo,s :: f,t :: g =>
  if s.2.1<t.2.1 then(lo,s.2.1,G s.2.2 t.2.2) :: kx G (s.2.1+1) f (t :: g)
  else if t.2.1<s.2.1 then(lo,t.2.1,G s.2.2 t.2.2) :: kx G (t.2.1+1) (s :: f) g
  else(lo,s.2.1,G s.2.2 t.2.2) :: kx G (s.2.1+1) f g
termination_by _ f g=>f.length+g.length
def Cov{α:Type}:List (T3a α)->Int->Int->Prop
 | [],lo,hi=>lo=hi+1
 |t :: r,lo,hi=>lo<=t.2.1/\Ch3 r (t.2.1+1) hi
theorem _root_.L2.Ch3.cov{α:Type}:∀{f:List (T3a α)}{lo hi:Int},Ch3 f lo hi->Cov f lo hi
 | [],_,_,h=>h
 |_ :: _,_,_,h=>⟨h.2.1,h.2.2⟩
theorem _root_.L2.Ch3.le{α:Type}:∀{f:List (T3a α)}{lo hi:Int},Ch3 f lo hi->lo<=hi+1
 | [],_,_,h=>Int.le_of_eq h
 |t :: f,lo,hi,h=>by have:=L2.Ch3.le h.2.2;have:=h.2.1;lia
theorem bY{α:Type}(t:T3a α)(r:List (T3a α))(c:Int):vAt (t :: r) c=if c<=t.2.1 then Kb t.2.2 else vAt r c:=by
 unfold vAt;by_cases h:c<=t.2.1
 .rw[mW (by simpa using h),Kj h];rfl
 .rw[ni (by simpa using h),Ki h]
structure zJ{α β γ:Type}(G:α->β->γ)(f:List (T3a α))(g:List (T3a β))(z:List (T3a γ))(lo hi:Int):Prop where
 ch:Ch3 z lo hi
 va:∀c x y,lo<=c->c<=hi->vAt f c=Kb x->vAt g c=Kb y->vAt z c=Kb (G x y)
 mem:∀t∈z,∃s∈f,∃u∈g,t.2.2=G s.2.2 u.2.2
 len:z.length<=f.length+g.length
 ne:f≠[]->g≠[]->z≠[]
theorem lE{α v B:Type}{G:α->v->B}:∀{f:List (T3a α)}{g:List (T3a v)}{lo hi:Int},Cov f lo hi->Cov g lo hi->zJ G f g (kx G lo f g) lo hi
 | [],g,lo,hi,l,m=>by
  rw[kx];have l:lo=hi+1:=l;exact⟨l,λc _ _ u r=>by lia,(λt C=>by cases C),yY _,λh=>Kk U h⟩
 |s :: f,[],lo,hi,l,m=>by
  have m:lo=hi+1:=m;have:=l.1;have:=l.2.le;lia
 |s :: f,t :: g,lo,hi,l,m=>by
  rw[kx];have w:=l.1;have D:=m.1;by_cases u:s.2.1<t.2.1
  .rw[Kj u];have k:=lE (G:=G) (f:=f) (g:=t :: g) (lo:=s.2.1+1) (hi:=hi) l.2.cov ⟨by lia,m.2⟩;refine⟨⟨U,w,k.ch⟩,λc x y A p d i=>?_,λz j=>?_,by have:=k.len;simp at this⊢;lia,λ_ _=>by simp⟩
   .rw[bY]at d⊢;by_cases q:c<=s.2.1
    .rw[Kj q]at d;rw[bY,Kj (by lia)]at i;cases d;cases i;rw[Kj q]
    .rw[Ki q]at d;rw[Ki q];exact k.va c x y (by lia) p d i
   .rcases dt.mp j with rfl|j
    .exact⟨s,by simp,t,by simp,U⟩
    .obtain⟨a,o,b,n,e⟩:=k.mem z j;exact⟨a,iO _ o,b,n,e⟩
  .rw[Ki u];by_cases r:t.2.1<s.2.1
   .rw[Kj r];have k:=lE (G:=G) (f:=s :: f) (g:=g) (lo:=t.2.1+1) (hi:=hi) ⟨by lia,l.2⟩ m.2.cov;refine⟨⟨U,D,k.ch⟩,λc x y A p d i=>?_,λz j=>?_,by have:=k.len;simp at this⊢;lia,λ_ _=>by simp⟩
    .rw[bY];by_cases q:c<=t.2.1
     .rw[bY,Kj (by lia)]at d;rw[bY,Kj q]at i;cases d;cases i;rw[Kj q]
     .rw[bY,Ki q]at i;rw[Ki q];exact k.va c x y (by lia) p d i
    .rcases dt.mp j with rfl|j
     .exact⟨s,by simp,t,by simp,U⟩
     .obtain⟨a,o,b,n,e⟩:=k.mem z j;exact⟨a,o,b,iO _ n,e⟩
   .rw[Ki r];have e:s.2.1=t.2.1:=by lia
    have k:=lE (G:=G) (f:=f) (g:=g) (lo:=s.2.1+1) (hi:=hi) l.2.cov (by rw[e];exact m.2.cov);refine⟨⟨U,w,k.ch⟩,λc x y A p d i=>?_,λz j=>?_,by have:=k.len;simp at this⊢;lia,λ_ _=>by simp⟩
    .rw[bY]at d i⊢;by_cases q:c<=s.2.1
     .rw[Kj q]at d;rw[Kj (by lia)]at i;cases d;cases i;rw[Kj q]
     .rw[Ki q]at d;rw[Ki (by lia)]at i;rw[Ki q];exact k.va c x y (by lia) p d i
    .rcases dt.mp j with rfl|j
     .exact⟨s,by simp,t,by simp,U⟩
     .obtain⟨a,o,b,n,e⟩:=k.mem z j;exact⟨a,iO _ o,b,iO _ n,e⟩
termination_by f g=>f.length+g.length
def loF{α:Type}(f:List (T3a α)):Int:=(f.head?.map (·.1)).getD 0
def pairF{L M N:Type} [DecidableEq N] (h:L->M->N):(n:Nat)->Fm L n->Fm M n->Fm N n
 |0,x,y=>h x y
 |n+1,f,g=>d8 (α:=Fm N n) (kx (pairF h n) (loF (show List (T3a (Fm L n))from f)) (show List (T3a (Fm L n))from f) (show List (T3a (Fm M n))from g))
theorem _root_.L2.Ch3.lo{α:Type}:∀{f:List (T3a α)}{lo hi:Int},Ch3 f lo hi->f≠[]->loF f=lo
 | [],_,_,_,h=>Kk U h
 |_ :: _,_,_,h,_=>h.1
section
variable{L M N:Type} [DecidableEq N] {h:L->M->N}
theorem mH{n:Nat}{f:List (T3a (Fm L n))}{g:List (T3a (Fm M n))}{p:Int×Int}(a:Ch3 f p.1 p.2)(b:f≠[])(c:Ch3 g p.1 p.2):∃z,z=kx (pairF h n) p.1 f g/\zJ (pairF h n) f g z p.1 p.2/\(pairF h (n+1) f g:List (T3a (Fm N n)))=d8 z:=by
 refine⟨_,U,lE a.cov c.cov,?_⟩;show d8 (kx (pairF h n) (loF f) f g)=_;rw[a.lo b]
theorem lF:∀{n:Nat}{F:Fm L n}{G:Fm M n}{ps:List (Int×Int)},cw n F ps->cw n G ps->cw n (pairF h n F G) ps
 |0,_,_,_,c,_=>c
 |n+1,F,G,ps,c,hs'=>by
  obtain⟨f,rfl⟩:∃f:List (T3a (Fm L n)),(f:Fm L (n+1))=F:=⟨F,U⟩;obtain⟨g,rfl⟩:∃g:List (T3a (Fm M n)),(g:Fm M (n+1))=G:=⟨G,U⟩;obtain⟨p,r,rfl,d,j,y,x⟩:ShS (cw n) f ps:=c;obtain⟨C,B,e,l,o,A,q⟩:ShS (cw n) g (p :: r):=hs';cases e;obtain⟨z,_,i,e⟩:=mH (h:=h) j d o;show ShS (cw n) (pairF h (n+1) f g:List (T3a (Fm N n))) (p :: r);rw[e];have k:=dX i.ch;refine⟨p,r,U,k.ne (i.ne d l),k.ch,k.nb,λt w=>?_⟩;obtain⟨m,a,b⟩:=k.mem t w;obtain⟨s,c,u,v,e⟩:=i.mem m a;rw[←b,e];exact lF (x s c) (q u v)
theorem xo{n:Nat}{g:List (T3a (Fm M n))}{c:Int}{e:List Int}{y:M}(h:Tel (n+1) (g:Fm M (n+1)) (c :: e) y):∃(j:Nat)(t:T3a (Fm M n)),g[j]?=Kb t/\c<=t.2.1/\(∀(i:Nat)(u:T3a (Fm M n)),i<j->g[i]?=Kb u->u.2.1<c)/\Tel n t.2.2 e y:=by
 cases h with
 |cons a b c d=>exact⟨_,_,a,b,c,d⟩
theorem xp{n:Nat}{F:Fm L n}{a:List Int}{x:L}(D:Tel n F a x):∀{G:Fm M n}{y:M}{ps:List (Int×Int)},Tel n G a y->cw n F ps->cw n G ps->InB a ps->Tel n (pairF h n F G) a (h x y):=by
 induction D with
 |nil x =>
  intro G y ps d _ _ _;cases d;exact .nil _
 | @cons n f c a x j t e1 e2 e3 _ ih =>
  intro G y ps d E l i;obtain⟨g,rfl⟩:∃g:List (T3a (Fm M n)),(g:Fm M (n+1))=G:=⟨G,U⟩;obtain⟨Y,q,w,Q,P,O⟩:=(xo d);obtain⟨p,r,rfl,m,o,R,H⟩:ShS (cw n) f ps:=E;obtain⟨W,V,e,T,B,S,C⟩:ShS (cw n) g (p :: r):=l;cases e;obtain⟨z,_,s,e⟩:=mH (h:=h) o m B;cases i with
  |cons v u i =>
   have k:=dX s.ch;obtain⟨X,A,K,b2,J,I,b⟩:=k.ch.at v u;rw[k.va,s.va c _ _ v u (eN e1 e2 e3) (eN w Q P)]at b;have b:pairF h n t.2.2 q.2.2=A.2.2:=Option.some.inj b;refine .cons (f:=(pairF h (n+1) f g:List (T3a (Fm N n)))) (by rw[e];exact K) J (by rw[e];exact I) ?_;rw[←b];exact ih O (H t (GB e1)) (C q (GB w)) i
end
theorem gw{α:Type}{f:List α}{i:Nat}{t:α}(e:f[i]?=Kb t):f.drop i=t :: f.drop (i+1):=by
 obtain⟨h,rfl⟩:=Gz.mp e;exact List.drop_eq_getElem_cons h
theorem SmF.le{L:Type}{b a:Nat}:∀{n:Nat}{F:Fm L n},SmF b n F->b<=a->SmF a n F
 |0,_,_,_=>trivial
 |n+1,F,h,l=>by
  obtain⟨f,rfl⟩:∃f:List (T3a (Fm L n)),(f:Fm L (n+1))=F:=⟨F,U⟩;obtain⟨e,d⟩:SmS b (SmF b n) f:=h;exact⟨yW e l,λt c=>SmF.le (d t c) l⟩
structure Ce{K':W.Frag}{L M N:Type} [DecidableEq L] [DecidableEq M] [DecidableEq N] (A:Lfp K' L)(B:Lfp K' M)(C:Lfp K' N)(P:GC)(w:Gn)(K:W.Frag)(mg:Str->Option Gf)(base:GG)(f:GD)(h:L->M->N)(J:Hp->Prop):Prop where
 fn:∃sp,HFn P w K mg base 8 f sp/\∀(H:Hp)(v u:V)(x:L)(y:M)(Q:VK),J H->A.R H x v->B.R H y u->(∀r H',ar H H'->C.R H' (h x y) r->Q r H')->sp [v,u] H Q E0
 ob:(∀H,J H->FnO H f)\/W.keepIn K (.ref f)=Kd
 st:∀H H',J H->ar H H'->J H'
theorem yI{ps:List (Int×Int)}{css:List (List Int)}{a:List Int}{k:Nat}{p:Int×Int}{ks:List Int}{c:Int}(b:ps[k]?=Kb p)(d:css[k]?=Kb ks)(e:a[k]?=Kb c):(List.zipWith bW (List.zipWith (λp a=>bX p.1 p.2 a) ps css) a)[k]?=Kb (bW (bX p.1 p.2 ks) c):=by
 rw[md,md,b,d,e]
theorem oX{α:Type}:∀{f g:List (T3a α)}{lo hi:Int},Ch3 f lo hi->Ch3 g lo hi->Nbx (f.map (·.2.2))->Nbx (g.map (·.2.2))->(∀c,lo<=c->c<=hi->vAt f c=vAt g c)->f=g
 | [],[],_,_,_,_,_,_,_=>rfl
 | [],t :: g,lo,hi,e,d,_,_,_=>by
  have e:lo=hi+1:=e;have:=d.2.1;have:=d.2.2.le;lia
 |s :: f,[],lo,hi,e,d,_,_,_=>by
  have d:lo=hi+1:=d;have:=e.2.1;have:=e.2.2.le;lia
 |s :: f,t :: g,lo,hi,e,d,nf,ng,hv=>by
  obtain⟨B,A,o⟩:=e;obtain⟨z,w,n⟩:=d;have P:=o.le;have O:=n.le;have j:=hv lo (by lia) (by lia);rw[bY,bY,Kj A,Kj w]at j;have j:s.2.2=t.2.2:=Option.some.inj j;have k:∀{a b:T3a α}{r:List (T3a α)}{q:List (T3a α)},Ch3 r (a.2.1+1) hi->Nbx ((a :: r).map (·.2.2))->a.2.1<b.2.1->b.2.1<=hi->lo<=a.2.1->a.2.2=b.2.2->vAt (a :: r) (a.2.1+1)=vAt (b :: q) (a.2.1+1)->False:=λ{a b r q} l C S R Q D m=>by
   rw[bY,bY,Ki (by lia),Kj (by lia)]at m;cases r with
   |nil =>
    have l:a.2.1+1=hi+1:=l;lia
   |cons u r =>
    rw[bY,Kj l.2.1]at m;exact C 0 _ _ U U (D.trans (Option.some.inj m).symm)
  have p:s.2.1=t.2.1:=by
   rcases Int.lt_trichotomy s.2.1 t.2.1 with h|h|h
   .exact(k o nf h (by lia) A j (hv _ (by lia) (by lia))).elim
   .exact h
   .exact(k n ng h (by lia) w j.symm (hv _ (by lia) (by lia)).symm).elim
  have H:s=t:=by
   obtain⟨N,s2,M⟩:=s;obtain⟨L,K,J⟩:=t;simp only at B z j p;rw[B,z,j,p]
  have v:∀{α:Type}{a:α}{r:List α},Nbx (a :: r)->Nbx r:=λ{α a r} h i x y F E=>h (i+1) x y (by simpa using F) (by simpa using E)
  have G:f=g:=oX o (by rw[p];exact n) (v nf) (v ng) λc T I=>by
   have:=hv c (by lia) I;rw[bY,bY,Ki (by lia),Ki (by lia)]at this;exact this
  rw[H,G]
section
variable{L:Type}
theorem _root_.L2.Tel.inv{n:Nat}{g:List (T3a (Fm L n))}{c:Int}{e:List Int}{y:L}(h:Tel (n+1) (g:Fm L (n+1)) (c :: e) y):∃(j:Nat)(t:T3a (Fm L n)),g[j]?=Kb t/\c<=t.2.1/\(∀(i:Nat)(u:T3a (Fm L n)),i<j->g[i]?=Kb u->u.2.1<c)/\Tel n t.2.2 e y:=by
 cases h with
 |cons a b c d=>exact⟨_,_,a,b,c,d⟩
theorem lG{n:Nat}{F:Fm L n}{b:List Int}{x:L}(h:Tel n F b x):∀{y:L},Tel n F b y->x=y:=by
 induction h with
 |nil x=>intro y a;cases a;rfl
 | @cons n f c b x j t e1 e2 e3 _ ih =>
  intro y a;obtain⟨m,l,k,i,g,d⟩:=a.inv;have e:=(eN e1 e2 e3).symm.trans (eN k i g);rw[←Option.some.inj e]at d;exact ih d
theorem ky:∀{n:Nat}{F G:Fm L n}{ps:List (Int×Int)},cw n F ps->cw n G ps->(∀b,InB b ps->∀x y,Tel n F b x->Tel n G b y->x=y)->F=G
 |0,F,G,ps,a,_,hv=>by
  have a:ps=[]:=a;subst a;exact hv [] .nil F G (.nil F) (.nil G)
 |n+1,F,G,ps,a,hs',hv=>by
  obtain⟨f,rfl⟩:∃f:List (T3a (Fm L n)),(f:Fm L (n+1))=F:=⟨F,U⟩;obtain⟨g,rfl⟩:∃g:List (T3a (Fm L n)),(g:Fm L (n+1))=G:=⟨G,U⟩;obtain⟨p,r,rfl,J,d,k,A⟩:ShS (cw n) f ps:=a;obtain⟨N,M,e,K,m,s,v⟩:ShS (cw n) g (p :: r):=hs';cases e;refine oX d m k s λc i h=>?_
  obtain⟨j,t,o,P,D,C,B⟩:=d.at i h;obtain⟨O,u,q,Q,I,H,E⟩:=m.at i h;rw[B,E];rw[ky (A t (GB o)) (v u (GB q)) λb l x y z w=>hv (c :: b) (.cons i h l) x y (.cons o D C z) (.cons q I H w)]
end
theorem xq:∀{a:List Int}{ps:List (Int×Int)},a.length=ps.length->(∀(j:Nat)(c:Int)(p:Int×Int),a[j]?=Kb c->ps[j]?=Kb p->p.1<=c/\c<=p.2)->InB a ps
 | [],[],_,_=>.nil
 | [],_ :: _,h,_=>by simp at h
 |_ :: _,[],h,_=>by simp at h
 |c :: a,p :: ps,h,k=>.cons (k 0 c p U U).1 (k 0 c p U U).2 (xq (by simpa using h) λj x q d b=>k (j+1) x q (by simpa using d) (by simpa using b))
theorem pU{α:Type}:∀{f:List (T3a α)}{lo hi:Int}{j:Nat}{s:T3a α},Ch3 f lo hi->f[j]?=Kb s->lo<=s.1/\s.1<=s.2.1/\s.2.1<=hi/\(∀t,f[j+1]?=Kb t->t.1=s.2.1+1)/\(∀(i:Nat)(u:T3a α),i<j->f[i]?=Kb u->u.2.1<s.1)/\(j=0->s.1=lo)
 | [],_,_,j,s,_,e=>by simp at e
 |t :: f,lo,hi,0,s,h,e=>by
  cases e;have c:=h.1;have b:=h.2.1;have n:=h.2.2.le;refine⟨by lia,by lia,by lia,λt e=>?_,λi u hi=>Kk hi (zj i),λ_=>c⟩;cases f with
  |nil=>simp at e
  |cons u f=>simp at e;subst e;exact h.2.2.1
 |t :: f,lo,hi,j+1,s,h,e=>by
  have d:f[j]?=Kb s:=by simpa using e
  obtain⟨p,m,l,k,g,o⟩:=pU (f:=f) h.2.2 d;have b:=h.2.1;refine⟨by lia,m,l,λt e=>k t (by simpa using e),λi u hi a=>?_,λz=>by lia⟩
  match i,a with
  |0,a=>cases a;lia
  |i+1,a=>exact g i u (by lia) (by simpa using a)
section
variable{L:Type}
theorem xr{n:Nat}{f:List (T3a (Fm L n))}{lo hi:Int}{j:Nat}{t:T3a (Fm L n)}{c:Int}{a:List Int}{x:L}(h:Ch3 f lo hi)(e:f[j]?=Kb t)(l:t.1<=c)(d:c<=t.2.1)(b:Tel n t.2.2 a x):Tel (n+1) (f:Fm L (n+1)) (c :: a) x:=by
 obtain⟨_,_,_,_,k,_⟩:=pU h e;exact .cons e d (λi u hi g=>by have:=k i u hi g;lia) b
end
structure LfS(P:GC)(w:Gn)(K:W.Frag)(mg:Str->Option Gf)(base:GG)(f:GD)(m:Nat)(g:List Int->Int)(J:Hp->Prop):Prop where
 fn:∃sp,HFn P w K mg base 8 f sp/\∀(H:Hp)(a:GD)(cs:List Int)(Q:VK),J H->cs.length=m->H a=Kb (.lst (cs.map V.int))->(∀H',ar H H'->Q (.int (g cs)) H')->sp [.ref a] H Q E0
 ob:∀H,J H->FnO H f
 st:∀H H',J H->ar H H'->J H'
theorem ux{n j:Nat}(h:j<n):ixN n (j:Int)=Kb j:=by
 unfold ixN;rw[Kj (by lia),Kj (by lia),DJ]
theorem kT{α:Type}:∀{f:List (T3a α)}{lo hi:Int},Ch3 f lo hi->(f.map (·.1)).Pairwise (· < ·)/\∀t∈f,lo<=t.1
 | [],_,_,_=>⟨.nil,λt e=>by cases e⟩
 |t :: f,lo,hi,h=>by
  obtain⟨a,b⟩:=kT h.2.2;have i:=h.1;have g:=h.2.1;refine⟨.cons (λx d=>?_) a,λu c=>?_⟩
  .obtain⟨u,c,rfl⟩:=en.mp d;have:=b u c;show t.1<u.1;lia
  .rcases dt.mp c with rfl|c
   .lia
   .have:=b u c;lia
theorem vq{n:Nat}(h:n<=2000):n<GH:=zY h (by decide)
theorem eW{α c:Type}{R:α->c->Prop}:∀{xs:List α}{d:List c}{i:Nat}{x:α},Paired R xs d->xs[i]?=Kb x->∃a,d[i]?=Kb a/\R x a
 |_,_,_,_,.nil,e=>by simp at e
 |_,_,0,_,.cons (b:=b) h _,e=>by simp at e;subst e;exact⟨b,U,h⟩
 |_,_,i+1,x,.cons _ tl,e=>by
  obtain⟨a,q⟩:=eW (i:=i) (x:=x) tl (by simpa using e);exact⟨a,by simpa using q.1,q.2⟩
theorem gx{α b:Type}{R:α->b->Prop}{xs ys:List α}{c bs:List b}(h:Paired R xs c)(h':Paired R ys bs):Paired R (xs++ys) (c++bs):=by
 induction h with
 |nil=>exact h'
 |cons a _ d=>exact .cons a d
theorem xt{K:W.Frag}{H:Hp}{Q:VK}{a b:GD}{xs ys:List V}(d:H a=Kb (.tup xs))(c:H b=Kb (.tup ys))(hz:xs.length+ys.length<=GH)(q:∀(r:GD)(H':Hp),ar H H'->H' r=Kb (.tup (xs++ys))->Q (.ref r) H'):sj K (.ref a) (.ref b) H Q:=by
 refine⟨a,b,xs,ys,U,U,SqT.of d,SqT.of c,hz,λz=>?_,λ_ z=>?_,λ_ _ p e=>q p _ (af e _) ab⟩
 .subst z;exact q b H (ar.refl _) c
 .subst z;exact q a H (ar.refl _) (by rw[jv];exact d)
def BxA(H:Hp)(a:GD)(B:List (Int×Int)):Prop:=∃b,H a=Kb (.tup b)/\PL H b B
theorem BxA.mono{H H':Hp}{a:GD}{B:List (Int×Int)}(h:BxA H a B)(s:bM H H'):BxA H' a B:=by obtain⟨b,e,p⟩:=h;exact⟨b,s _ _ e,p.mono s⟩
def bxs{L:Type}:(n:Nat)->Fm L n->List (List (Int×Int)×L)
 |0,f=>[([],f)]
 |n+1,l=>List.flatMap (λe:T3a (Fm L n)=>(bxs n e.2.2).map λq=>((e.1,e.2.1) :: q.1,q.2)) l
theorem uy{L:Type}(n:Nat)(l m:List (T3a (Fm L n))):bxs (n+1) (show Fm L (n+1)from l++m)=bxs (n+1) (show Fm L (n+1)from l)++bxs (n+1) (show Fm L (n+1)from m):=List.flatMap_append
theorem yJ{L:Type}(n:Nat)(e:T3a (Fm L n)):bxs (n+1) (show Fm L (n+1) from[e])=(bxs n e.2.2).map λq=>((e.1,e.2.1) :: q.1,q.2):=by
 show List.flatMap (λe:T3a (Fm L n)=>(bxs n e.2.2).map λq=>((e.1,e.2.1) :: q.1,q.2)) [e]=_;rw[List.flatMap_singleton]
theorem xu{ps:List (Int×Int)}{a:List (List Int)}{b:Nat}(h:∀j,gl ps a j<=b):∀n,gr ps a n<=b^n
 |0=>yr _
 |n+1=>by
  show gr ps a n*gl ps a n<=b^n*b;exact Am (xu h n) (h n)
theorem xw{L:Type}{n:Nat}{f:List (T3a (Fm L n))}{q:List (Int×Int)×L}:q∈bxs (n+1) (f:Fm L (n+1))↔∃e∈f,∃r∈bxs n e.2.2,q=((e.1,e.2.1) :: r.1,r.2):=by
 constructor
 .intro h;obtain⟨e,b,c⟩:=qF.mp h;obtain⟨r,a,rfl⟩:=en.mp c;exact⟨e,b,r,a,U⟩
 .rintro⟨e,b,r,a,rfl⟩;exact qF.mpr ⟨e,b,en.mpr ⟨r,a,U⟩⟩
structure DH(B ps:List (Int×Int)):Prop where
 len:B.length=ps.length
 get:∀(k:Nat)(b p:Int×Int),B[k]?=Kb b->ps[k]?=Kb p->p.1<=b.1/\b.1<=b.2/\b.2<=p.2
theorem xx{L:Type}:∀{n:Nat}{F:Fm L n}{ps:List (Int×Int)},cw n F ps->∀q∈bxs n F,DH q.1 ps/\Tel n F (q.1.map (·.1)) q.2/\Tel n F (q.1.map (·.2)) q.2
 |0,F,ps,c,q,d=>by
  have c:ps=[]:=c;have d:q∈[(([]:List (Int×Int)),F)]:=d;rw[hZ.mp d,c];exact⟨⟨U,λk b p e=>by simp at e⟩,.nil _,.nil _⟩
 |n+1,F,ps,c,q,d=>by
  obtain⟨f,rfl⟩:∃f:List (T3a (Fm L n)),(f:Fm L (n+1))=F:=⟨F,U⟩;obtain⟨p,r,rfl,A,a,B,w⟩:ShS (cw n) f ps:=c;obtain⟨e,o,t,m,rfl⟩:=xw.mp d;obtain⟨j,v,g⟩:=List.getElem_of_mem o;have g:f[j]?=Kb e:=by rw[Gy v,g]
  obtain⟨z,l,y,-,-,-⟩:=pU a g;obtain⟨s,b2,x⟩:=xx (w e o) t m;refine⟨⟨by rw[iK,iK,s.len],λk b u i h=>?_⟩,xr a g (Int.le_refl _) l b2,xr a g l (Int.le_refl _) x⟩
  match k,i,h with
  |0,i,h=>cases i;cases h;exact⟨z,l,y⟩
  |k+1,i,h=>exact s.get k b u (by simpa using i) (by simpa using h)
inductive Asc:List (Int×Int)->List (Int×Int)->Prop
 |here {a b:Int×Int}{A B:List (Int×Int)}:a.1<b.1->a.2<b.1->Asc (a :: A) (b :: B)
 |there {a:Int×Int}{A B:List (Int×Int)}:Asc A B->Asc (a :: A) (a :: B)
theorem yK{A B:List (Int×Int)}(h:Asc A B):∃(k:Nat)(a b:Int×Int),A[k]?=Kb a/\B[k]?=Kb b/\a.1<b.1/\a.2<b.1/\∀(i:Nat),i<k->A[i]?=B[i]?:=by
 induction h with
 | @here a b A B d c=>exact⟨0,a,b,U,U,d,c,λi hi=>Kk hi (zj i)⟩
 | @there a A B _ ih =>
  obtain⟨k,x,y,g,f,d,c,e⟩:=ih;refine⟨k+1,x,y,by simpa using g,by simpa using f,d,c,λi hi=>?_⟩
  match i with
  |0=>rfl
  |i+1=>simpa using e i (by lia)
theorem xy{α:Type}:∀{f:List (T3a α)}{lo hi:Int},Ch3 f lo hi->f.Pairwise λa b=>a.1<b.1/\a.2.1<b.1
 | [],_,_,_=>.nil
 |t :: f,lo,hi,h=>by
  have e:=h.1;have d:=h.2.1;refine .cons (λu c=>?_) (xy h.2.2);have:=(kT h.2.2).2 u c;exact⟨by lia,by lia⟩
theorem xA{L:Type}:∀{n:Nat}{F:Fm L n}{ps:List (Int×Int)},cw n F ps->(bxs n F).Pairwise λq r=>Asc q.1 r.1
 |0,F,_,_=>rD _ _
 |n+1,F,ps,hs=>by
  obtain⟨f,rfl⟩:∃f:List (T3a (Fm L n)),(f:Fm L (n+1))=F:=⟨F,U⟩;obtain⟨p,r,rfl,l,d,m,k⟩:ShS (cw n) f ps:=hs;show(List.flatMap (λe:T3a (Fm L n)=>(bxs n e.2.2).map λq=>((e.1,e.2.1) :: q.1,q.2)) f).Pairwise _;rw[List.pairwise_flatMap];refine⟨λe j=>?_,(xy d).imp λ{a b} c x i y g=>?_⟩
  .rw[List.pairwise_map];exact(xA (k e j)).imp λh=>.there h
  .obtain⟨s,_,rfl⟩:=en.mp i;obtain⟨o,_,rfl⟩:=en.mp g;exact .here c.1 c.2
theorem q9{α a:Type}{b:Nat}{F:α->List a}:∀{l:List α},(∀x∈l,(F x).length<=b)->(l.flatMap F).length<=l.length*b
 | [],_=>yY _
 |x :: l,h=>by
  have e:=h x ff;have d:=q9 λy c=>h y (iO _ c)
  rw[List.flatMap_cons,cK,iK,Nat.succ_mul];lia
theorem xB{b:Nat}{L:Type} [DecidableEq L] {g:List Int->L}:∀{a:List (List (Int×Int))}{ps:List (Int×Int)},fS a ps->(∀c∈a,c.length<=b)->∀d:List Int,(bxs a.length (lay g a d)).length<=b^a.length
 | [],_,_,_,_=>yr _
 |c :: a,ps,h,hb,d=>by
  cases h with
  | @cons _ _ p ps hne e h =>
  have k:=dX (wW (λq=>lay g a (d++[q.1])) e);have j:(d8 (c.map λp=>((p.1,p.2,lay g a (d++[p.1])):T3a (Fm L a.length)))).length<=b:=yW (oW _) (by rw[bx];exact hb c ff);have i:(bxs (a.length+1) (show Fm L (a.length+1)from d8 (c.map λp=>((p.1,p.2,lay g a (d++[p.1])):T3a (Fm L a.length))))).length<=(d8 (c.map λp=>((p.1,p.2,lay g a (d++[p.1])):T3a (Fm L a.length)))).length*b^a.length:=q9 λt f=>by
   rw[bx];obtain⟨n,m,l⟩:=k.mem t f;obtain⟨q,_,rfl⟩:=en.mp m;rw[←l];exact xB h (λc e=>hb c (iO _ e)) _
  show(bxs (a.length+1) _).length<=b^(a.length+1);rw[A8,Nat.mul_comm];exact yW i (Nat.mul_le_mul_right _ j)
def TD(g h f:GD)(H:Hp)(t:GD)(c:List V)(bs:Prs)(rws:List Rw):Prop:=∃(b e d:GD)(fs:List (Str×V))(a:List V),H t=Kb (.ins g e fs)/\fs.lookup s!"rows"=Kb (.ref b)/\fs.lookup s!"domains"=Kb (.ref d)/\H d=Kb (.lst c)/\ax c bs (Dom h f H)/\H b=Kb (.lst a)/\RL NT H a rws
theorem TD.same{c d b:GD}{H H':Hp}{t:GD}{a:List V}{bs:Prs}{rws:List Rw}(h:TD c d b H t a bs rws)(s:ar H H'):TD c d b H' t a bs rws:=by
 obtain⟨f,o,q,fs,e,n,m,l,k,j,i,g⟩:=h;exact⟨f,o,q,fs,e,s _ _ n,m,l,s _ _ k,ax.mono j λ_ _ p=>p.same s,s _ _ i,g.same s⟩
theorem mJ{H:Hp}{D:GD}{o:HO}:hide (upd H D o) D=hide H D:=by
 funext b
 unfold hide;by_cases h:b=D
 .rw[Kj h,Kj h]
 .rw[Ki h,Ki h,ay h]
theorem kz{H H':Hp}{D:GD}(s:ar H H'):ar (hide H D) (hide H' D):=λb o e=>by
 unfold hide at e⊢;by_cases h:b=D
 .rw[Kj h]at e;cases e
 .rw[Ki h]at e⊢;exact s b o e
theorem pV(H:Hp)(D:GD):ar (hide H D) H:=λb o e=>by
 unfold hide at e;by_cases h:b=D
 .rw[Kj h]at e;cases e
 .rw[Ki h]at e;exact e
theorem MLs.nil{H:Hp}:MLs H [] []:=⟨U,λj a e=>by simp at e⟩
theorem MLs.snoc{H:Hp}{g:List GD}{a:List (List Int)}{r:GD}{d:List Int}(h:MLs H g a)(e:H r=Kb (.lst (d.map V.int))):MLs H (g++[r]) (a++[d]):=by
 refine⟨by rw[cK,cK,h.1];rfl,λj m b=>?_⟩;by_cases f:j<a.length
 .rw[iP f]at b;obtain⟨i,l,k⟩:=h.2 j m b;exact⟨i,by rw[iP (by rw[h.1];exact f)];exact l,k⟩
 .rw[ll (by lia)]at b;have c:j-a.length=0:=by
   have:=(Gz.mp b).1;rw[hQ]at this;lia
  rw[c]at b;cases b;exact⟨r,by rw[ll (by rw[h.1];lia),h.1,c];rfl,e⟩
def rmk(c:Nat)(b:Int×Int)(w:Rw):List Int:=(ends (w.1.getD c [])).filter λt=>decide (b.1<t) && decide (t<=b.2)
def MkC(rws:List Rw)(c:Nat)(b:Int×Int)(x:Int):Prop:=∃w∈rws,x∈rmk c b w
theorem rb:∀R:Prs,(ends R).length=2*R.length
 | []=>rfl
 |p :: R=>by
  rw[uP,iK,iK,rb R,iK];lia
theorem yL(c:Nat)(b:Int×Int){w:Rw}(h:(w.1.getD c []).length<=6):(rmk c b w).length<=12:=yW (lI _ _) (by rw[rb];lia)
theorem rf(c:Nat)(b:Int×Int):∀{rws:List Rw},(∀w∈rws,(w.1.getD c []).length<=6)->((rws.map (rmk c b)).flatten).length<=12*rws.length
 | [],_=>yr _
 |w :: rws,h=>by
  have e:=yL c b (h w (.head _));have d:=rf c b (rws:=rws) λw a=>h w (.tail _ a)
  rw[mu,List.flatten_cons,cK,iK];lia
theorem uz{rws:List Rw}{c:Nat}{b:Int×Int}{x:Int}:x∈(rws.map (rmk c b)).flatten↔MkC rws c b x:=by
 rw[List.mem_flatten];constructor
 .rintro⟨l,e,a⟩;obtain⟨w,d,rfl⟩:=en.mp e;exact⟨w,d,a⟩
 .rintro⟨w,d,a⟩;exact⟨_,en.mpr ⟨w,d,U⟩,a⟩
def xC:HO->Prop
 | .frz _ (.lst _)=>True
 | .frz _ _=>False
 | .tbl _=>False
 |_=>True
def So(H H':Hp):Prop:=∀d o,xC o->H d=Kb o->H' d=Kb o
theorem So.of{H H':Hp}(s:ar H H'):So H H':=λd o _ e=>s d o e
theorem So.trans{H f c:Hp}(a:So H f)(b:So f c):So H c:=λd o p e=>b d o p (a d o p e)
theorem So.tups{H H':Hp}(s:So H H'):bM H H':=λd a e=>s d _ trivial e
theorem So.lst{H H':Hp}{a:GD}{xs:List V}(s:So H H')(e:H a=Kb (.lst xs)):H' a=Kb (.lst xs):=s _ _ trivial e
theorem So.hide{H:Hp}{a:List GD}(f:Fzs H a):So H (hideL H a):=λd o p e=>by
 rw[bT (f.out e λz q=>by rw[q]at p;exact p)];exact e
section
variable{H H':Hp}(s:So H H')
include s
theorem SpA.so{N:GD->Prop}{l:GD}{ps:Prs}(h:SpA N H l ps):SpA N H' l ps:=by obtain⟨n,a,e,p⟩:=h;exact⟨n,a,s _ _ trivial e,p.mono s.tups⟩
theorem RL.so{N:GD->Prop}{xs:List V}{rws:List Rw}(h:RL N H xs rws):RL N H' xs rws:=ax.mono h λ_ _ ⟨b,a,e,n,f,c⟩=>⟨b,a,s _ _ trivial e,n,s _ _ trivial f,ax.mono c λ_ _ p=>SpA.so s p⟩
theorem Dom.so{d c a:GD}{b:Int×Int}(h:Dom d c H a b):Dom d c H' a b:=by obtain⟨C,f,g,fs,e,r⟩:=h;exact⟨C,f,g,fs,s _ _ trivial e,r⟩
theorem Tbl.so{b c a t:GD}{rws:List Rw}{i:Nat}{o:Int×Int}(h:Tbl b c a H t rws i o):Tbl b c a H' t rws i o:=by
 obtain⟨f,g,v,fs,d,e,u,r,q,p,n,m,l,k,j⟩:=h;exact⟨f,g,v,fs,d,e,s _ _ trivial u,r,q,p,s _ _ trivial n,RL.so s m,l,Dom.so s k,j⟩
theorem MLs.so{b:List GD}{a:List (List Int)}(h:MLs H b a):MLs H' b a:=⟨h.1,λj c e=>let ⟨r,e1,e2⟩:=h.2 j c e;⟨r,e1,s _ _ trivial e2⟩⟩
theorem TD.so{c d b t:GD}{a:List V}{bs:Prs}{rws:List Rw}(h:TD c d b H t a bs rws):TD c d b H' t a bs rws:=by
 obtain⟨f,o,q,fs,e,n,m,l,k,j,i,g⟩:=h;exact⟨f,o,q,fs,e,s _ _ trivial n,m,l,s _ _ trivial k,ax.mono j λ_ _ p=>Dom.so s p,s _ _ trivial i,RL.so s g⟩
end
theorem xD{a L:List Int}(b:a.Pairwise (· < ·))(h:∀x∈a,x∈L):a.length<=L.length:=bH (b.imp λh=>Int.ne_of_lt h) h
structure RfH(cT cN cW:GD)(H:Hp)(t:GD)(dv:List V)(bs:Prs)(rws:List Rw)(L:Nat->List Int)(kk:Nat)(i:Nat)(o:Int×Int):Prop where
 td:TD cT cN cW H t dv bs rws
 tb:Tbl cT cN cW H t rws i o
 b4:bs.length<=4
 r60:rws.length<=60
 row:∀x∈rws,x.1.length=bs.length/\∀c,(x.1.getD c []).length<=6
 mrk:∀(c:Nat)(b:Int×Int),bs[c]?=Kb b->(L c).length<=kk/\∀x,MkC rws c b x->x∈L c
 few:(kk+1)^bs.length<=300
 k57:kk<=57
 le:∀p∈bs,p.1<=p.2
theorem RfH.so{d e c t:GD}{H H':Hp}{b:List V}{bs:Prs}{rws:List Rw}{L:Nat->List Int}{a i:Nat}{o:Int×Int}(h:RfH d e c H t b bs rws L a i o)(s:So H H'):RfH d e c H' t b bs rws L a i o:=⟨TD.so s h.td,Tbl.so s h.tb,h.b4,h.r60,h.row,h.mrk,h.few,h.k57,h.le⟩
theorem RfH.gr{p q n t:GD}{H:Hp}{m:List V}{bs:Prs}{rws:List Rw}{L:Nat->List Int}{g i:Nat}{o:Int×Int}(h:RfH p q n H t m bs rws L g i o)(a:List (List Int))(r:a.length=bs.length)(l:∀(c:Nat)(b:Int×Int)(d:List Int),bs[c]?=Kb b->a[c]?=Kb d->d.Pairwise (· < ·)/\∀x,x∈d↔MkC rws c b x):My.gr bs a bs.length<=300 :=
 yW (xu (b:=g+1) (AS λd f=>by
  obtain⟨c,j⟩:=jC f;have s:=(Gz.mp j).1;obtain⟨b,e⟩:∃b,bs[c]?=Kb b:=⟨_,Gy (by lia)⟩;exact⟨L c,(h.mrk c b e).1,λx k=>(h.mrk c b e).2 x (((l c b d e j).2 x).mp k)⟩) _) h.few
def nV(K:W.Frag)(H:Hp):Prop:=∀z,W.tabIn K "row_form" = Kb z->dI H z.2 [(qT Y80,"row_form.<locals>.<lambda>")]
theorem nV.same{K:W.Frag}{H H':Hp}(h:nV K H)(s:ar H H'):nV K H':=λz e=>(h z e).same s
structure Cf(bs:Prs)(rws:List Rw)(cols:List (List (Int×Int))):Prop where
 ok:fS cols bs
 ex:∃css:List (List Int),css.length=bs.length/\cols=List.zipWith (λp cs=>bX p.1 p.2 cs) bs css/\∀(j:Nat)(p:Int×Int)(cs:List Int),bs[j]?=Kb p->css[j]?=Kb cs->cs.Pairwise (· < ·)/\∀x,x∈cs↔MkC rws j p x
theorem xE{rws:List Rw}{c:Nat}{b:Int×Int}{x:Int}(h:MkC rws c b x):b.1<x/\x<=b.2:=by
 obtain⟨d,_,a⟩:=h;have:=(jO.mp a).2;rw[BO,Kp,Kp]at this;exact this
abbrev mkg(rws:List Rw)(a:List Int):Int:=((msk (iJ rws a) rws.length:Nat):Int)
theorem uA{K:W.Frag}{H:Hp}{Q:VK}{a b:GD}{v u:SI}(m:SqT K H a (tp v))(l:SqT K H b (tp u))(h:Q (.bl (Kf (v≠u))) H):wo K Kd (.ref a) (.ref b) H Q:=by
 refine⟨a,b,_,_,U,U,m,l,λj=>if j=0 then eqV (.str v.1) (.str u.1)else eqV (.int v.2) (.int u.2),λj x y c d=>?_,?_⟩
 .match j,c,d with
  |0,c,d=>cases c;cases d;exact EqI.flat U U
  |1,c,d=>cases c;cases d;exact EqI.flat U U
  |j+2,c,d=>simp[tp]at c
 .have e:(!((List.range (min (tp v).length (tp u).length)).all (λj=>if j=0 then eqV (.str v.1) (.str u.1)else eqV (.int v.2) (.int u.2)) && (tp v).length == (tp u).length))=Kf (v≠u):=by
   have c:eqV (.str v.1) (.str u.1)=Kf (v.1=u.1):=by unfold eqV;rw[Bool.eq_iff_iff];simp
   have d:eqV (.int v.2) (.int u.2)=Kf (v.2=u.2):=by unfold eqV;rw[Bool.eq_iff_iff];simp
   show(!((List.range 2).all (λj=>if j=0 then eqV (.str v.1) (.str u.1)else eqV (.int v.2) (.int u.2)) && (2 == 2:Bool)))=_;rw[c,d];obtain⟨g,f⟩:=v;obtain⟨k,i⟩:=u;by_cases o:g=k <;> by_cases n:f=i <;> simp[kD,o,n]
  show Q (.bl (if Kd=Kd then _ else _)) H;rw[Kj U,e];exact h
structure SpG(ps:List Int)(m:Int)(n:Nat)(qs:Prs):Prop where
 le:∀p∈qs,p.1<=p.2
 pw:qs.Pairwise λp q=>p.2<q.1
 bel:∀a,ps[n]?=Kb a->∀p∈qs,p.2<a
 iff:∀x,inP qs x=Kd↔∃(k:Nat)(a b:Int),k<n/\ps[k]?=Kb a/\ps[k+1]?=Kb b/\bQ m k=Kd/\a<=x/\x<b
 ep:∀p∈qs,p.1∈ps/\p.2+1∈ps
 lenA:2*qs.length<=n+1
 lenB:(∀p∈qs,∀a,ps[n]?=Kb a->p.2≠a-1)->2*qs.length<=n
theorem SpG.nil{ps:List Int}{m:Int}:SpG ps m 0 []:=⟨(λp h=>by cases h),List.Pairwise.nil,(λ_ _ p h=>by cases h),λx=>⟨(λh=>by cases h),λ⟨k,_,_,h,_⟩=>Kk h (zj _)⟩,(λp h=>by cases h),by decide,λ_=>yr _⟩
section
variable{ps:List Int}{m:Int}{n:Nat}{a b:Int}(hp:Pts ps)(ea:ps[n]?=Kb a)(eb:ps[n+1]?=Kb b)
include hp ea eb
theorem tG:a<b:=ui hp.asc ea eb (by lia)
theorem SpG.skip{c:Prs}(h:SpG ps m n c)(g:bQ m n=Ke):SpG ps m (n+1) c:=by
 have l:=tG hp ea eb;refine⟨h.le,h.pw,λo e p d=>?_,λx=>(h.iff x).trans ⟨λ⟨k,u,v,f,r⟩=>⟨k,u,v,by lia,r⟩,λ⟨k,u,v,f,j,i,b,r⟩=>⟨k,u,v,?_,j,i,b,r⟩⟩,h.ep,?_,λ_=>h.lenA⟩
 .rw[eb]at e;cases e;have:=h.bel a ea p d;lia
 .by_cases q:k=n
  .rw[q,g]at b;cases b
  .lia
 .have:=h.lenA;lia
theorem SpG.put{d:Prs}(h:SpG ps m n d)(w:bQ m n=Kd)(l:∀p∈d,p.2≠a-1):SpG ps m (n+1) (d++[(a,b-1)]):=by
 have A:=tG hp ea eb;refine⟨λp c=>?_,?_,λo e p c=>?_,λx=>?_,λp c=>?_,?_,λ_=>?_⟩
 .rcases gg.mp c with c|c
  .exact h.le p c
  .rw[hZ.mp c];show a<=b-1;lia
 .rw[oT];refine⟨h.pw,rD _ _,λp c q i=>?_⟩;rw[hZ.mp i];exact h.bel a ea p c
 .rw[eb]at e;cases e;rcases gg.mp c with c|c
  .have:=h.bel a ea p c;lia
  .rw[hZ.mp c];show b-1<b;lia
 .rw[qu,Bool.or_eq_true,h.iff x];constructor
  .rintro(⟨k,u,v,t,r⟩|r)
   .exact⟨k,u,v,by lia,r⟩
   .unfold inR at r;rw[BO,Kp,Kp]at r;exact⟨n,a,b,zg _,ea,eb,w,r.1,by have:=r.2;show x<b;lia⟩
  .rintro⟨k,u,v,t,g,f,y,j,s⟩;by_cases q:k=n
   .right
    subst q;rw[ea]at g;rw[eb]at f;cases g;cases f;unfold inR;rw[Kl j,Kl (show x<=b-1 by lia)];rfl
   .exact .inl ⟨k,u,v,by lia,g,f,y,j,s⟩
 .rcases gg.mp c with c|c
  .exact h.ep p c
  .rw[hZ.mp c];exact⟨GB ea,by show b-1+1∈ps;rw[show b-1+1=b by lia];exact GB eb⟩
 .have:=h.lenB λp c o e=>by rw[ea]at e;cases e;exact l p c
  rw[cK,hQ];lia
 .have:=h.lenB λp c o e=>by rw[ea]at e;cases e;exact l p c
  rw[cK,hQ];exfalso
  rename_i z
  exact z (a,b-1) (jr _ (hZ.mpr U)) b eb U
theorem SpG.join{s:Prs}{l:Int×Int}(h:SpG ps m n (s++[l]))(w:bQ m n=Kd)(D:l.2=a-1):SpG ps m (n+1) (s++[(l.1,b-1)]):=by
 have C:=tG hp ea eb;have B:=h.le l (jr _ (hZ.mpr U));refine⟨λp c=>?_,?_,λE e p c=>?_,λx=>?_,λp c=>?_,?_,λz=>?_⟩
 .rcases gg.mp c with c|c
  .exact h.le p (kC _ c)
  .rw[hZ.mp c];show l.1<=b-1;lia
 .have:=oT.mp h.pw;rw[oT];refine⟨this.1,rD _ _,λp c q i=>?_⟩;rw[hZ.mp i];exact this.2.2 p c l (hZ.mpr U)
 .rw[eb]at e;cases e;rcases gg.mp c with c|c
  .have:=h.bel a ea p (kC _ c);lia
  .rw[hZ.mp c];show b-1<b;lia
 .have hi:=h.iff x;rw[qu,Bool.or_eq_true]at hi⊢;have A:inR x (l.1,b-1)=Kd↔inR x l=Kd\/(a<=x/\x<b):=by
   unfold inR;simp only[BO,decide_eq_true_eq];lia
  rw[A];constructor
  .rintro(r|r|r)
   .obtain⟨k,u,v,t,d⟩:=hi.mp (.inl r);exact⟨k,u,v,by lia,d⟩
   .obtain⟨k,u,v,t,d⟩:=hi.mp (.inr r);exact⟨k,u,v,by lia,d⟩
   .exact⟨n,a,b,zg _,ea,eb,w,r⟩
  .rintro⟨k,u,v,t,g,f,y,o,j⟩;by_cases q:k=n
   .subst q;rw[ea]at g;rw[eb]at f;cases g;cases f;exact .inr (.inr ⟨o,j⟩)
   .rcases hi.mpr ⟨k,u,v,by lia,g,f,y,o,j⟩with r|r
    .exact .inl r
    .exact .inr (.inl r)
 .rcases gg.mp c with c|c
  .exact h.ep p (kC _ c)
  .rw[hZ.mp c];exact⟨(h.ep l (jr _ (hZ.mpr U))).1,by show b-1+1∈ps;rw[show b-1+1=b by lia];exact GB eb⟩
 .have:=h.lenA;rw[cK,hQ]at this⊢;lia
 .exact Kk U (z (l.1,b-1) (jr _ (hZ.mpr U)) b eb)
end
theorem xF{m:Int}(b:0<=m)(k:Nat):decide (V.int (Hw.bitAnd (m / 2^(0+(k:Int)).toNat) 1)=V.int 1)=bQ m k:=by
 unfold bQ;rw[show(0+(k:Int)).toNat=k by lia];have a:0<=m / 2^k:=Int.ediv_nonneg b (Int.le_of_lt (DK (by decide)));generalize m / 2^k=x at a⊢;have:Hw.bitAnd x 1=0\/Hw.bitAnd x 1=1:=by
  rw[PyProof.Rows.bitAnd_pp a (by decide)];have:x.toNat &&& (1:Int).toNat=x.toNat%2:=Nat.and_one_is_mod _;rw[this];have:=Az x.toNat (show 0<2 by decide);lia
 rcases this with h|h <;> rw[h] <;> rfl
def GrR(a:List (List Int))(b:List Int×Int)(x:Rw):Prop:=x.2=b.2/\x.1.length=a.length/\∀(j:Nat)(c:List Int)(d:Prs)(m:Int),a[j]?=Kb c->x.1[j]?=Kb d->b.1[j]?=Kb m->SpG c m (c.length-1) d
def vN(bs:List Nat):List V:=bs.map λb:Nat=>V.int (b:Int)
theorem eA(bs:List Nat):(vN bs).length=bs.length:=by unfold vN;rw[bx]
theorem zK{bs:List Nat}{j b:Nat}(e:bs[j]?=Kb b):(vN bs)[j]?=Kb (.int (b:Int)):=by unfold vN;rw[gI,e];rfl
theorem Cg{bs:List Nat}{j:Nat}{x:V}(e:(vN bs)[j]?=Kb x):∃b:Nat,x=.int (b:Int)/\bs[j]?=Kb b:=by
 unfold vN at e;rw[gI]at e;cases q:bs[j]? with
 |none=>rw[q]at e;cases e
 |some b=>rw[q]at e;cases e;exact⟨b,U,U⟩
theorem xG(bs a:List Nat):vN bs++vN a=vN (bs++a):=by unfold vN;rw[iv]
def grow(a:List (List Nat))(n:Nat):List (List Nat):=a.flatMap λp=>(List.range n).map λk=>p++[k]
def cX(a:List Nat):List (List Nat):=a.foldl grow [[]]
theorem jj(a:List Nat)(n:Nat):cX (a++[n])=grow (cX a) n:=by unfold cX;rw[List.foldl_append];rfl
theorem xH{a:List (List Nat)}{n:Nat}{q:List Nat}:q∈grow a n↔∃p∈a,∃k,k<n/\q=p++[k]:=by
 unfold grow;rw[qF];constructor
 .rintro⟨p,b,h⟩;obtain⟨k,c,rfl⟩:=en.mp h;exact⟨p,b,k,ju.mp c,U⟩
 .rintro⟨p,b,k,c,rfl⟩;exact⟨p,b,en.mpr ⟨k,ju.mpr c,U⟩⟩
theorem vw{b:List (List Nat)}{n a:Nat}{p:List Nat}(e:b[a]?=Kb p):grow (b.take (a+1)) n=grow (b.take a) n++(List.range n).map λk=>p++[k]:=by
 unfold grow;rw[take_snoc e,List.flatMap_append];simp
theorem mK(a:List (List Nat))(n:Nat):(grow a n).length=a.length*n:=by
 unfold grow;induction a with
 |nil=>simp
 |cons p a b=>rw[List.flatMap_cons,cK,b,bx,lz,iK,Nat.succ_mul];lia
def nW(b:List Nat)(p:List Nat):Prop:=p.length=b.length/\∀(j a m:Nat),p[j]?=Kb a->b[j]?=Kb m->a<m
theorem oY:∀{r b:List Nat}(_:b.reverse=r){p:List Nat},p∈cX b↔nW b p
 | [],b,h,p=>by
  have:b=[]:=List.reverse_eq_nil_iff.mp h;subst this;show p∈[[]]↔_;rw[hZ];constructor
  .rintro rfl;exact⟨U,λj a m e=>by simp at e⟩
  .rintro⟨h,_⟩;exact List.length_eq_zero_iff.mp h
 |n :: r,b,h,p=>by
  have e:b=r.reverse++[n]:=by rw[←rE b,h,vl]
  subst e;rw[jj,xH];have l:∀{p:List Nat},p∈cX r.reverse↔nW r.reverse p:=oY (rE r);constructor
  .rintro⟨q,s,k,t,rfl⟩;obtain⟨c,d⟩:=l.mp s;refine⟨by rw[cK,cK,c];rfl,λj a m f g=>?_⟩;by_cases o:j<q.length
   .rw[iP o]at f;rw[iP (by rw[←c];exact o)]at g;exact d j a m f g
   .have:j=q.length:=by have:=(Gz.mp f).1;simp at this;lia
    subst this;simp at f;subst f;rw[c]at g;simp at g;subst g;exact t
  .rintro⟨c,d⟩;rw[cK,hQ]at c;rcases wh p with rfl|⟨q,k,rfl⟩
   .simp at c
   .rw[w4]at c d⊢;rw[cK,hQ]at c;have i:q.length=r.reverse.length:=by lia
    refine⟨q,l.mpr ⟨i,λj a m f g=>?_⟩,k,?_,U⟩
    .refine d j a m ?_ ?_
     .rw[iP (Gz.mp f).1];exact f
     .rw[iP (Gz.mp g).1];exact g
    .refine d q.length k n (by simp) ?_;rw[i];simp
theorem nW.iff{a p:List Nat}:p∈cX a↔nW a p:=oY U
def PtL(N:GD->Prop)(H:Hp)(xs:List V)(a:List (List Nat)):Prop:=ax xs a λr p=>N r/\H r=Kb (.lst (vN p))
theorem PtL.same{N:GD->Prop}{H H':Hp}{xs:List V}{a:List (List Nat)}(h:PtL N H xs a)(s:ar H H'):PtL N H' xs a:=ax.mono h λ_ _ p=>⟨p.1,s _ _ p.2⟩
theorem PtL.updN{N:GD->Prop}{D:GD}{H:Hp}{xs:List V}{a:List (List Nat)}{o:HO}(h:PtL N H xs a)(n:¬ N D):PtL N (upd H D o) xs a:=ax.mono h λ_ _ p=>⟨p.1,(ay (λz=>n (by rw[←z];exact p.1))).trans p.2⟩
theorem PtL.any{N:GD->Prop}{H:Hp}{xs:List V}{a:List (List Nat)}(h:PtL N H xs a):PtL NT H xs a:=ax.mono h λ_ _ p=>⟨trivial,p.2⟩
def gls(a:List (List Int)):List Nat:=a.map λb=>b.length-1
theorem yM{m:Int}(a:0<=m)(k:Nat):decide (V.int (Hw.bitAnd (m / 2^((k:Int)).toNat) 1)=V.int 0) = !bQ m k:=by
 have b:=xF a k;rw[show(0+(k:Int))=(k:Int) by lia]at b;rw[←b];rw[DJ];have c:0<=m / 2^k:=Int.ediv_nonneg a (Int.le_of_lt (DK (by decide)));generalize m / 2^k=x at c⊢;have:Hw.bitAnd x 1=0\/Hw.bitAnd x 1=1:=by
  rw[PyProof.Rows.bitAnd_pp c (by decide)];have:x.toNat &&& (1:Int).toNat=x.toNat%2:=Nat.and_one_is_mod _;rw[this];have:=Az x.toNat (show 0<2 by decide);lia
 rcases this with h|h <;> rw[h] <;> rfl
def mL(at_:List Nat)(b:List Int×Int):Bool:=(List.range at_.length).all λj=>bQ (b.1.getD j 0) (at_.getD j 0)
def rg(bms:List (List Int×Int))(at_:List Nat):List Nat:=(List.range bms.length).filter λk=>mL at_ (bms.getD k ([],0))
theorem mM(f:Nat->Bool)(n:Nat):(List.range (n+1)).all f=((List.range n).all f && f n):=by
 rw[kD,List.all_append];simp
def cdF(bms:List (List Int×Int))(ks:List Nat):List Int:=ks.map λk=>(bms.getD k ([],0)).2
theorem yN{bms:List (List Int×Int)}{at_:List Nat}:∀k∈rg bms at_,k<bms.length:=λk a=>ju.mp (jO.mp a).1
theorem xI(bms:List (List Int×Int))(at_:List Nat):(rg bms at_).length<=bms.length:=yW (lI _ _) (by rw[lz];exact yr _)
theorem xJ{A:Prs}{m n:Int}(f:m<=n)(h:∀e∈ends A,e<=m\/n<e):inP A n=inP A m:=by
 rw[Bool.eq_iff_iff,uh,uh];constructor
 .rintro⟨p,a,c,b⟩;have d:=h _ (lU.mpr ⟨p,a,.inl U⟩);exact⟨p,a,by lia,by lia⟩
 .rintro⟨p,a,c,b⟩;have d:=h _ (lU.mpr ⟨p,a,.inr U⟩);exact⟨p,a,by lia,by lia⟩
theorem kA{f g:Nat->Bool}:∀{n:Nat},(∀k,k<n->f k=g k)->msk f n=msk g n
 |0,_=>rfl
 |n+1,h=>by rw[j4,j4,h n (zg n),kA λk a=>h k (zc a)]
def tH(b:List (List Int))(at_:List Nat)(e:List Int):Prop:=at_.length=b.length/\e.length=b.length/\∀(j:Nat)(d:List Int)(a:Nat)(c:Int),b[j]?=Kb d->at_[j]?=Kb a->e[j]?=Kb c->∃u v,d[a]?=Kb u/\d[a+1]?=Kb v/\u<=c/\c<v
theorem AU{ps:List Int}(i:Pts ps){m:Int}{g:Prs}(h:SpG ps m (ps.length-1) g){a:Nat}{u v c:Int}(f:ps[a]?=Kb u)(b:ps[a+1]?=Kb v)(n:u<=c)(l:c<v):inP g c=bQ m a:=by
 have r:=(Gz.mp b).1;rw[Bool.eq_iff_iff,h.iff c];constructor
 .rintro⟨k,x,y,q,j,e,d,p,o⟩;have:k=a:=by
   rcases Nat.lt_trichotomy k a with z|z|z
   .by_cases w:k+1=a
    .rw[w,f]at e;cases e;lia
    .have:=ui i.asc e f (by lia);lia
   .exact z
   .by_cases w:a+1=k
    .rw[w,j]at b;cases b;lia
    .have:=ui i.asc b j (by lia);lia
  rw[←this];exact d
 .intro d;exact⟨a,u,v,by lia,f,b,d,n,l⟩
section
variable{Kh:List (List Int)}{bms:List (List Int×Int)}{rws:List Rw}(hpt:∀ps∈Kh,Pts ps)(hn:rws.length=bms.length)(hGr:∀(k:Nat)(b:List Int×Int)(x:Rw),bms[k]?=Kb b->rws[k]?=Kb x->GrR Kh b x)(hb:∀b∈bms,b.1.length=Kh.length)
include hpt hn hGr hb
theorem AV{at_:List Nat}{e:List Int}(h:tH Kh at_ e){k:Nat}(z:k<bms.length):iJ rws e k=mL at_ (bms.getD k ([],0)):=by
 obtain⟨b,l⟩:∃b,bms[k]?=Kb b:=⟨_,Gy z⟩;obtain⟨x,p⟩:∃x,rws[k]?=Kb x:=⟨_,Gy (by lia)⟩;obtain⟨_,F,n⟩:=hGr k b x l p;have E:=hb b (GB l);obtain⟨B,A,o⟩:=h;unfold iJ mL nR;rw[dF,p,dF,l,B,A];show(List.range Kh.length).all (λj=>inP (x.1.getD j []) (e.getD j 0))=(List.range Kh.length).all λj=>bQ (b.1.getD j 0) (at_.getD j 0)
 rw[Bool.eq_iff_iff,jt,jt];have f:∀j∈List.range Kh.length,inP (x.1.getD j []) (e.getD j 0)=bQ (b.1.getD j 0) (at_.getD j 0):=λj d=>by
  have d:=ju.mp d;obtain⟨ps,i⟩:∃ps,Kh[j]?=Kb ps:=⟨_,Gy d⟩;obtain⟨g,q⟩:∃g,x.1[j]?=Kb g:=⟨_,Gy (by lia)⟩;obtain⟨m,r⟩:∃m,b.1[j]?=Kb m:=⟨_,Gy (by lia)⟩;obtain⟨a,t⟩:∃a,at_[j]?=Kb a:=⟨_,Gy (by lia)⟩;obtain⟨c,s⟩:∃c,e[j]?=Kb c:=⟨_,Gy (by lia)⟩;obtain⟨u,v,D,C,y,w⟩:=o j ps a c i t s;rw[dF,dF,dF,dF,q,s,r,t];exact AU (hpt ps (GB i)) (n j ps g m i q r) D C y w
 exact⟨λh j d=>by rw[←f j d];exact h j d,λh j d=>by rw[f j d];exact h j d⟩
theorem tI{at_:List Nat}{a:List Int}(h:tH Kh at_ a):mkg rws a=((msk (λk=>mL at_ (bms.getD k ([],0))) bms.length:Nat):Int):=by
 show((msk (iJ rws a) rws.length:Nat):Int)=_;rw[hn,kA λk b=>AV hpt hn hGr hb h b]
end
theorem fA:∀{a:List Int}{ps:List (Int×Int)},InB a ps->a.length=ps.length/\∀(j:Nat)(c:Int)(p:Int×Int),a[j]?=Kb c->ps[j]?=Kb p->p.1<=c/\c<=p.2
 |_,_,.nil=>⟨U,λj c p e=>by simp at e⟩
 |_,_,.cons h1 h2 h=>by
  obtain⟨f,g⟩:=fA h;refine⟨by rw[iK,iK,f],λj c p d b=>?_⟩;cases j with
  |zero=>cases d;cases b;exact⟨h1,h2⟩
  |succ j=>exact g j c p (by simpa using d) (by simpa using b)
theorem yO{bs:Prs}{rws:List Rw}{a:List (List (Int×Int))}(F:Cf bs rws a)(C:∀x∈rws,x.1.length=bs.length){b:List Int}(h:InB b bs):mkg rws (List.zipWith bW a b)=mkg rws b:=by
 obtain⟨css,L,e,D⟩:=F.ex;obtain⟨I,s⟩:=fA h;have r:(List.zipWith bW a b).length=b.length:=by rw[e,lg,lg];lia
 show((msk (iJ rws (List.zipWith bW a b)) rws.length:Nat):Int)=((msk (iJ rws b) rws.length:Nat):Int);rw[kA λk E=>?_];obtain⟨x,ex⟩:∃x,rws[k]?=Kb x:=⟨_,Gy E⟩;have g:=GB ex;have H:=C x g;unfold iJ nR;rw[dF,ex,r];show(List.range b.length).all (λj=>inP (x.1.getD j []) ((List.zipWith bW a b).getD j 0))=(List.range b.length).all λj=>inP (x.1.getD j []) (b.getD j 0)
 have f:∀j∈List.range b.length,inP (x.1.getD j []) ((List.zipWith bW a b).getD j 0)=inP (x.1.getD j []) (b.getD j 0):=λj d=>by
  have d:=ju.mp d;obtain⟨c,q⟩:∃c,b[j]?=Kb c:=⟨_,Gy d⟩;obtain⟨p,o⟩:∃p,bs[j]?=Kb p:=⟨_,Gy (by lia)⟩;obtain⟨m,u⟩:∃m,css[j]?=Kb m:=⟨_,Gy (by lia)⟩;obtain⟨v,i⟩:=D j p m o u;obtain⟨G,b2⟩:=s j c p q o;have t:=yI (css:=css) o u q;rw[←e]at t;obtain⟨B,K,J,A⟩:=mG (hi:=p.2) v (λy n=>(xE ((i y).mp n)).1) G b2;rw[dF (l:=List.zipWith bW a b),t,dF (l:=b),q];show inP _ (bW (bX p.1 p.2 m) c)=inP _ c
  symm
  refine xJ B λy n=>?_
  by_cases z:p.1<y/\y<=p.2
  .have:MkC rws j p y:=⟨x,g,jO.mpr ⟨n,by rw[BO,Kp,Kp];exact z⟩⟩;by_cases w:y<=c
   .exact .inl (A y ((i y).mpr this) w)
   .exact .inr (by lia)
  .by_cases w:y<=p.1
   .exact .inl (by lia)
   .exact .inr (by lia)
 rw[Bool.eq_iff_iff,jt,jt];exact⟨λh j d=>by rw[←f j d];exact h j d,λh j d=>by rw[f j d];exact h j d⟩
theorem rh{ps:List Int}{c:Int}(b:∀u,ps[0]?=Kb u->u<=c):∀m,m<ps.length->(∀u,ps[m]?=Kb u->c<u)->∃a u v,ps[a]?=Kb u/\ps[a+1]?=Kb v/\u<=c/\c<v
 |0,hm,h=>by
  have e:=Gy hm;have:=b _ e;have:=h _ e;lia
 |m+1,hm,h=>by
  have e:=Gy (l:=ps) (i:=m) (by lia);have f:=Gy hm;by_cases z:ps[m]<=c
  .exact⟨m,_,_,e,f,z,h _ f⟩
  .exact rh b m (by lia) λu d=>by rw[e]at d;cases d;lia
theorem zL{c:Type}{P:Nat->c->Prop}:∀{n:Nat},(∀j,j<n->∃a,P j a)->∃p:List c,p.length=n/\∀(j:Nat)(a:c),p[j]?=Kb a->P j a
 |0,_=>⟨[],U,λj a e=>by simp at e⟩
 |n+1,h=>by
  obtain⟨p,d,g⟩:=zL (n:=n) λj f=>h j (by lia)
  obtain⟨a,i⟩:=h n (by lia);refine⟨p++[a],by rw[cK,d];rfl,λj b e=>?_⟩;by_cases f:j<p.length
  .rw[iP f]at e;exact g j b e
  .have:j=p.length:=by have:=(Gz.mp e).1;simp at this;lia
   subst this;simp at e;rw[←e,d];exact i
theorem uB:∀{a:List Int}{ps:List (Int×Int)},a.length=ps.length->(∀(j:Nat)(c:Int)(p:Int×Int),a[j]?=Kb c->ps[j]?=Kb p->p.1<=c/\c<=p.2)->InB a ps
 | [],[],_,_=>.nil
 | [],_ :: _,h,_=>by cases h
 |_ :: _,[],h,_=>by cases h
 |c :: a,p :: ps,h,hg=>.cons (hg 0 c p U U).1 (hg 0 c p U U).2 (uB (by simpa using h) λj c p d b=>hg (j+1) c p (by simpa using d) (by simpa using b))
section
variable{Kh:List (List Int)}(hpt:∀ps∈Kh,Pts ps)
include hpt
theorem Ci{d:List Int}(h:InB d (Kh.map λps=>(loP ps,hiP ps))):∃at_∈cX (gls Kh),tH Kh at_ d:=by
 obtain⟨r,B⟩:=fA h;rw[bx]at r;obtain⟨at_,y,t⟩:=zL (n:=Kh.length) (P:=λj a=>∀(ps:List Int)(c:Int),Kh[j]?=Kb ps->d[j]?=Kb c->∃u v,ps[a]?=Kb u/\ps[a+1]?=Kb v/\u<=c/\c<v) λj s=>by
  have k:=Gy s;have x:=Gy (l:=d) (i:=j) (by lia);have p:=hpt _ (GB k);obtain⟨A,z⟩:=B j _ _ x (by rw[gI,k];rfl);have D:=p.two;obtain⟨a,u,v,e,b,o,C⟩:=rh (ps:=Kh[j]) (c:=d[j]) (λu g=>by
   have:loP Kh[j]=u:=by unfold loP;rw[dF,g];rfl
   rw[←this];exact A) (Kh[j].length-1) (by lia) λu g=>by rw[p.last]at g;cases g;show d[j]<hiP Kh[j]+1;exact Int.lt_add_one_of_le z
  refine⟨a,λps c w f=>?_⟩;rw[k]at w;rw[x]at f;cases w;cases f;exact⟨u,v,e,b,o,C⟩
 refine⟨at_,nW.iff.mpr ⟨by rw[y];unfold gls;rw[bx],λj a m e b=>?_⟩,y,r,λj ps a c e b o=>t j a b ps c e o⟩;unfold gls at b;rw[gI]at b;cases q:Kh[j]? with
 |none=>rw[q]at b;cases b
 |some ps =>
  rw[q]at b;cases b;have s:=(Gz.mp q).1;obtain⟨u,v,_,f,_,_⟩:=t j a e ps _ q (Gy (l:=d) (i:=j) (by lia));have:=(Gz.mp f).1;show a<ps.length-1;lia
end
section
variable{bms:List (List Int×Int)}{rws:List Rw}(hn:rws.length=bms.length)(hcd:∀k,k<bms.length->(rws.getD k ([],0)).2=(bms.getD k ([],0)).2)
include hn hcd
theorem Cj(f:Nat->Bool):pkF rws f rws.length=cdF bms ((List.range bms.length).filter f):=by
 unfold pkF cdF;rw[hn];exact List.map_congr_left λk a=>hcd k (ju.mp (jO.mp a).1)
end
theorem So.tp{H H':Hp}{a:GD}{xs:List V}(s:So H H')(e:H a=Kb (.tup xs)):H' a=Kb (.tup xs):=s _ _ trivial e
theorem So.ins{H H':Hp}{a C b:GD}{fs:List (Str×V)}(s:So H H')(e:H a=Kb (.ins C b fs)):H' a=Kb (.ins C b fs):=s _ _ trivial e
theorem xK{α:Type}:∀{f:List (T3a α)}{lo hi c:Int}{j:Nat}{t:T3a α},Ch3 f lo hi->lo<=c->f[j]?=Kb t->(∀(i:Nat)(u:T3a α),i<j->f[i]?=Kb u->u.2.1<c)->t.1<=c
 | [],_,_,_,j,_,_,_,e,_=>by simp at e
 |u :: f,lo,hi,c,0,t,h,hc,e,_=>by cases e;rw[h.1];exact hc
 |u :: f,lo,hi,c,j+1,t,h,hc,e,hb=>by
  have:=hb 0 u (by lia) U;exact xK (f:=f) h.2.2 (by lia) (by simpa using e) λi v hi a=>hb (i+1) v (by lia) (by simpa using a)
def dC(b:List (List Int))(at_:List Nat):List Int:=List.zipWith (λc a=>c.getD a 0) b at_
theorem xM{b:List (List Int)}{at_:List Nat}{j:Nat}{ps:List Int}{a:Nat}(d:b[j]?=Kb ps)(c:at_[j]?=Kb a):(dC b at_)[j]?=Kb (ps.getD a 0):=by
 unfold dC;rw[md,d,c]
theorem pW{a:List (List Int)}{at_:List Nat}(h:at_.length=a.length):(dC a at_).length=a.length:=by
 unfold dC;rw[lg];lia
theorem AW{b:List (List Int)}(k:∀ps∈b,Pts ps){at_:List Nat}(h:nW (gls b) at_):InB (dC b at_) (b.map λps=>(loP ps,hiP ps))/\tH b at_ (dC b at_):=by
 have t:at_.length=b.length:=by rw[h.1];unfold gls;rw[bx]
 have m:=pW t;have g:∀(j:Nat)(ps:List Int)(a:Nat)(c:Int),b[j]?=Kb ps->at_[j]?=Kb a->(dC b at_)[j]?=Kb c->∃v,ps[a]?=Kb c/\ps[a+1]?=Kb v/\c<v:=λj ps a c f d e=>by
  have u:=h.2 j a _ d (by unfold gls;rw[gI,f];rfl);have u:a<ps.length-1:=u;have r:=Gy (l:=ps) (i:=a) (by lia);have x:=Gy (l:=ps) (i:=a+1) (by lia);rw[xM f d,dF,r]at e;have e:ps[a]=c:=Option.some.inj e;refine⟨_,by rw[r,e],x,?_⟩;rw[←e];exact ui (k ps (GB f)).asc r x (by lia)
 refine⟨uB (by rw[bx];exact m) λj c p f d=>?_,t,m,λj ps a c f d e=>let ⟨v,o,n,w⟩:=g j ps a c f d e;⟨c,v,o,n,Int.le_refl _,w⟩⟩;rw[gI]at d;cases q:b[j]? with
 |none=>rw[q]at d;cases d
 |some ps =>
  rw[q]at d;cases d;have z:=(Gz.mp q).1;have s:=k ps (GB q);obtain⟨v,o,n,w⟩:=g j ps _ c q (Gy (l:=at_) (i:=j) (by lia)) f;have y:=s.lo o;have A:=s.hi n;exact⟨y,by show c<=hiP ps;lia⟩
def BxG{K:W.Frag}{L:Type} [DecidableEq L] (A:Lfp K L)(H:Hp):List V->List (List (Int×Int)×L)->Prop:=Paired λx q=>∃(t b:GD)(u:V),x=.ref t/\H t=Kb (.tup [.ref b,u])/\BxA H b q.1/\A.R H q.2 u
theorem BxG.mono{K:W.Frag}{L:Type} [DecidableEq L] {A:Lfp K L}{H H':Hp}{xs:List V}{l:List (List (Int×Int)×L)}(h:BxG A H xs l)(s:bM H H'):BxG A H' xs l:=Paired.mapP h λ_ _ ⟨t,b,u,e,z,p,r⟩=>⟨t,b,u,e,s _ _ z,p.mono s,A.mono s r⟩
theorem BxG.length{K:W.Frag}{L:Type} [DecidableEq L] {A:Lfp K L}{H:Hp}{xs:List V}{l:List (List (Int×Int)×L)}(h:BxG A H xs l):xs.length=l.length:=Paired.length h
theorem yP{X:Cx}{K:W.Frag}{k:Nat}(h:X.K=K)(a:bR k X.A):OpR X (HB .NotEq) (B1 K):=h ▸ AF a
def eJ(l:List (List (Int×Int)×Option (SI×SI))):List (List (Int×Int)×Option (SI×SI)):=l.filter λq=>decide (q.2≠Kc)
theorem tab_ne{K:W.Frag}{x y:Str}{c t c' t':GD}(h:W.tabIn K x=Kb (c,t))(h':W.tabIn K y=Kb (c',t'))(d:t≠t'):∀z a,W.tabIn K x=Kb z->W.tabIn K y=Kb a->z.2≠a.2:=λz a e b=>by
 rw[h]at e;rw[h']at b;cases e;cases b;exact d
theorem tab_keep{H H':Hp}{P b:GD}{L:List (Pos×Str)}(h:dI H P L)(i:P≠b){ps:Array Gf}(e:H b=Kb (.tbl ps))(k:∀d o,d≠b->H d=Kb o->H' d=Kb o):dI H' P L:=by
 obtain⟨f,r,q,n⟩:=h;refine⟨f,k _ _ i r,q,λp m=>?_⟩;rcases n p m with z|⟨c,g,l,a,j⟩
 .exact .inl z
 .exact .inr ⟨c,g,l,k _ _ (λz=>by rw[z,e]at a;cases a) a,j⟩
theorem yQ{L M:Type} [DecidableEq L] [DecidableEq M] {h:L->M}{g:List Int->L}{a:List (List (Int×Int))}{ps:List (Int×Int)}(c:fS a ps):nU h a.length (lay g a [])=lay (λd=>h (g d)) a [] :=
 ky (xn (mw c [])) (mw c []) λe b x y i f=>(lG i (yF (lD c [] e b) (mw c []) b)).trans (lG f (lD (g:=λd=>h (g d)) c [] e b)).symm
def vdm(rws:List Rw)(i:Nat)(o:Int×Int)(m:Int):SI:=ver (wf i o.1 o.2) (pkF rws (bQ m) rws.length)
theorem zM{L:Type}{d n:Nat}(e:n=d)(F:Fm L n)(P:(n:Nat)->Fm L n->Prop)(h:P n F):∃G:Fm L d,P d G:=by subst e;exact⟨F,h⟩
def nX(K:W.Frag)(H:Hp):Prop:=∀z,W.tabIn K "verdict_form" = Kb z->dI H z.2 [(qT Y84,"verdict_form.<locals>.<lambda>")]
theorem nX.same{K:W.Frag}{H H':Hp}(h:nX K H)(s:ar H H'):nX K H':=λz e=>(h z e).same s
def dpr(x y:SI):Option (SI×SI):=if x=y then Kc else Kb (x,y)
theorem uC{K:W.Frag}{H:Hp}{Q:VK}{a b:GD}{v u:SI}(m:SqT K H a (tp v))(l:SqT K H b (tp u))(h:Q (.bl (Kf (v=u))) H):wo K Ke (.ref a) (.ref b) H Q:=by
 refine⟨a,b,_,_,U,U,m,l,λj=>if j=0 then eqV (.str v.1) (.str u.1)else eqV (.int v.2) (.int u.2),λj x y c d=>?_,?_⟩
 .match j,c,d with
  |0,c,d=>cases c;cases d;exact EqI.flat U U
  |1,c,d=>cases c;cases d;exact EqI.flat U U
  |j+2,c,d=>simp[tp]at c
 .have e:((List.range (min (tp v).length (tp u).length)).all (λj=>if j=0 then eqV (.str v.1) (.str u.1)else eqV (.int v.2) (.int u.2)) && (tp v).length == (tp u).length)=Kf (v=u):=by
   have c:eqV (.str v.1) (.str u.1)=Kf (v.1=u.1):=by unfold eqV;rw[Bool.eq_iff_iff];simp
   have d:eqV (.int v.2) (.int u.2)=Kf (v.2=u.2):=by unfold eqV;rw[Bool.eq_iff_iff];simp
   show((List.range 2).all (λj=>if j=0 then eqV (.str v.1) (.str u.1)else eqV (.int v.2) (.int u.2)) && (2 == 2:Bool))=_;rw[c,d];obtain⟨g,f⟩:=v;obtain⟨k,i⟩:=u;by_cases o:g=k <;> by_cases n:f=i <;> simp[kD,o,n]
  show Q (.bl (if Ke=Kd then _ else _)) H;rw[Ki (by decide),e];exact h
def ChL(K:W.Frag)(H:Hp):List V->List (List (Int×Int)×Option (SI×SI))->Prop:=Paired λx q=>∃(t b c a:GD)(p:SI×SI),x=.ref t/\q.2=Kb p/\H t=Kb (.tup [.ref b,.ref c,.ref a])/\BxA H b q.1/\Vd K H c p.1/\Vd K H a p.2
theorem ChL.mono{K:W.Frag}{H H':Hp}{xs:List V}{l:List (List (Int×Int)×Option (SI×SI))}(h:ChL K H xs l)(s:bM H H'):ChL K H' xs l:=Paired.mapP h λ_ _ ⟨t,b,e,d,p,g,f,z,w,c,a⟩=>⟨t,b,e,d,p,g,f,s _ _ z,w.mono s,c.mono s,a.mono s⟩
abbrev Dm:=Sum (Int×Int) (List Str)
def DmX(d c:GD)(H:Hp)(a:GD):Dm->Prop
 | .inl p=>∃b fs,H a=Kb (.ins d b fs)/\fs.lookup s!"low"=Kb (.int p.1)/\fs.lookup s!"high"=Kb (.int p.2)/\fs.lookup s!"has_code"=Kc
 | .inr zs=>∃b fs l,H a=Kb (.ins c b fs)/\fs.lookup s!"words"=Kb (.ref l)/\H l=Kb (.lst (zs.map V.str))/\fs.lookup s!"low"=Kb (.int 0)/\fs.lookup s!"high"=Kb (.int (hiW zs))/\fs.lookup s!"has_code"=Kc
theorem DmX.same{f c:GD}{H H':Hp}{a:GD}{d:Dm}(h:DmX f c H a d)(s:ar H H'):DmX f c H' a d:=by
 cases d with
 |inl p=>obtain⟨b,fs,e,r⟩:=h;exact⟨b,fs,s _ _ e,r⟩
 |inr j=>obtain⟨b,fs,l,e,g,i,r⟩:=h;exact⟨b,fs,l,s _ _ e,g,s _ _ i,r⟩
def Dm.b:Dm->Int×Int
 | .inl p=>p
 | .inr zs=>(0,hiW zs)
theorem vx{K:W.Frag}{H:Hp}{Q:VK}{a b:GD}{xs ys:List Str}{r:Bool}(i:SqL K H a (xs.map V.str))(g:SqL K H b (ys.map V.str))(f:r=Kd↔xs=ys)(q:Q (.bl r) H):Ao K Ke (.ref a) (.ref b) H Q:=by
 by_cases c:xs.length=ys.length
 .refine⟨a,b,_,_,U,U,i,g,.inr ⟨by rw[bx,bx];exact c,λj=>decide (xs[j]?=ys[j]?),λj x y s p=>?_,?_⟩⟩
  .obtain⟨z,rfl,o⟩:=jX s;obtain⟨d,rfl,n⟩:=jX p;have k:=EqI.flat (K:=K) (H:=H) (x:=V.str z) (y:=V.str d) U U;have m:eqV (V.str z) (V.str d)=Kf (xs[j]?=ys[j]?):=by
    rw[o,n,Bool.eq_iff_iff];simp[eqV]
   rw[m]at k;exact k
  .have e:(List.range (xs.map V.str).length).all (λj=>decide (xs[j]?=ys[j]?))=r:=by
    rw[Bool.eq_iff_iff,f,jt];constructor
    .intro h;apply vM
     intro j;by_cases l:j<xs.length
     .exact Kn (h j (ju.mpr (by rw[bx];exact l)))
     .rw[nY (by lia),nY (by lia)]
    .intro h j _;rw[h];exact Kl U
   rw[Ki Bool.false_ne_true,e];exact q
 .have e:r=false:=by
   rw[BJ];intro z;exact c (by rw[f.mp z])
  rw[e]at q;exact⟨a,b,_,_,U,U,i,g,.inl ⟨by rw[bx,bx];exact c,q⟩⟩
def TDo(e:GD)(H:Hp)(t:GD)(d:List V)(b:GD):Prop:=∃c a fs,H t=Kb (.ins e c fs)/\fs.lookup s!"domains"=Kb (.ref a)/\fs.lookup s!"outcome"=Kb (.ref b)/\H a=Kb (.lst d)
theorem DmX.so{f c:GD}{H H':Hp}{a:GD}{d:Dm}(h:DmX f c H a d)(s:So H H'):DmX f c H' a d:=by
 cases d with
 |inl p=>obtain⟨b,fs,e,r⟩:=h;exact⟨b,fs,s _ _ trivial e,r⟩
 |inr j=>obtain⟨b,fs,l,e,g,i,r⟩:=h;exact⟨b,fs,l,s _ _ trivial e,g,s _ _ trivial i,r⟩
theorem TDo.so{c:GD}{H H':Hp}{t a:GD}{b:List V}(h:TDo c H t b a)(s:So H H'):TDo c H' t b a:=by obtain⟨i,j,fs,e,f,d,g⟩:=h;exact⟨i,j,fs,s _ _ trivial e,f,d,s _ _ trivial g⟩
structure Ck(K:W.Frag)(cT cN cW:GD)(H:Hp)(t u:GD)(bs:Prs)(rws dN:List Rw)(i i':Nat)(o:Int×Int)(gc:List (List (Int×Int))):Prop where
 ex:∃(dv ev:List V)(L L':Nat->List Int)(kk:Nat),RfH cT cN cW H t dv bs rws L kk i o/\RfH cT cN cW H u ev bs dN L' kk i' o/\(∀c∈gc,c.length<=kk+1)/\∃(ou pu:GD)(ds:List Dm)(d:Dm),TDo cT H t dv ou/\TDo cT H u ev pu/\ax dv ds (DmX cN cW H)/\ax ev ds (DmX cN cW H)/\DmX cN cW H ou d/\DmX cN cW H pu d/\ds.length<=10
 gok:fS gc bs
 glen:gc.length=bs.length
 g1:∀cs,InB cs bs->mkg rws (List.zipWith bW gc cs)=mkg rws cs
 g2:∀cs,InB cs bs->mkg dN (List.zipWith bW gc cs)=mkg dN cs
def dif(rws a:List Rw)(i c:Nat)(o:Int×Int)(b:List Int):Option (SI×SI):=dpr (vdm rws i o (mkg rws b)) (vdm a c o (mkg a b))
structure Cm(bs:Prs)(rws dN:List Rw)(i i':Nat)(o:Int×Int)(PF:Fm (Option (SI×SI)) bs.length):Prop where
 sh:cw bs.length PF bs
 tel:∀cs,InB cs bs->Tel bs.length PF cs (dif rws dN i i' o cs)
 few:(bxs bs.length PF).length<=300
def vy(c:Int)(ps:List Int):Dm:=if c%3=1 then .inr (w3s c (ps.length-1))else .inl (loP ps,hiP ps)
def dmO(c:Int)(a:List Int):Dm:=if c%3=1 then .inr (w3s c 5)else .inl (o0 a,o4 a)
def dms(b:List Int)(a:List (List Int)):List Dm:=(List.range a.length).map λj:Nat=>vy (cA b (1+(0+(j:Int)))) (a.getD j [])
theorem AX{b:List Int}{a:List (List Int)}{j:Nat}{ps:List Int}(e:a[j]?=Kb ps):(dms b a)[j]?=Kb (vy (cA b (1+(0+(j:Int)))) ps):=by
 unfold dms;rw[gI,List.getElem?_range (Gz.mp e).1];show Kb (vy _ (a.getD j []))=_;rw[dF,e];rfl
def DmN(d b:GD)(e H:Hp)(a:GD):Dm->Prop
 | .inl p=>DmX d b H a (.inl p)
 | .inr zs=>∃c fs l,H a=Kb (.ins b c fs)/\fs.lookup s!"words"=Kb (.ref l)/\H l=Kb (.lst (zs.map V.str))/\fs.lookup s!"low"=Kb (.int 0)/\fs.lookup s!"high"=Kb (.int (hiW zs))/\fs.lookup s!"has_code"=Kc/\e l=Kc
theorem DmN.hide{k j:GD}{f H:Hp}{a D:GD}{zs:List V}{d:Dm}(h:DmN k j f H a d)(e:f D=Kb (.lst zs))(s:ar f H):DmX k j (My.hide H D) a d:=by
 have i:=s _ _ e;cases d with
 |inl p=>obtain⟨c,fs,b,r⟩:=h;exact⟨c,fs,de b (eI b i (by intro z;cases z)),r⟩
 |inr u =>
  obtain⟨c,fs,l,b,q,t,o,n,m,g⟩:=h;exact⟨c,fs,l,de b (eI b i (by intro z;cases z)),q,de t (λz=>by rw[z,e]at g;cases g),o,n,m⟩
theorem AY{x y:Int}(b:0<=x)(a:0<=y):0<=Hw.bitXor x y:=by
 rw[←PyProof.Rows.bitXor_eq];have d:¬ 0<=Hw.bitNot x:=by unfold Hw.bitNot;lia
 have c:¬ 0<=Hw.bitNot y:=by unfold Hw.bitNot;lia
 show 0<=Hw.bitNot (Hw.bitAnd (Hw.bitNot x) (Hw.bitNot y))-Hw.bitAnd x y;rw[PyProof.Rows.bitAnd_nn d c,PyProof.Rows.bitAnd_pp b a];have e:∀z:Int,Hw.bitNot (Hw.bitNot z)=z:=λz=>by unfold Hw.bitNot;lia
 rw[e,e,e];have g:x.toNat &&& y.toNat<=x.toNat:=Nat.and_le_left;have f:x.toNat<=x.toNat ||| y.toNat:=Nat.left_le_or;lia
def pX(a:List (List Int))(c:List Int)(bms:List (List Int×Int)):Prop:=∀b∈bms,b.1.length=a.length/\b.2∈c/\∀x∈b.1,0<=x
theorem ax.takeR{α:Type}{xs:List V}{ys:List α}{R:GD->α->Prop}(h:ax xs ys R)(n:Nat):ax (xs.take n) (ys.take n) R:=⟨by rw[ik,ik,h.1],λj y e=>by
 have a:=(Gz.mp e).1;rw[ik]at a;rw[w5,Kj (by lia)]at e;obtain⟨r,c,b⟩:=h.2 j y e;exact⟨r,by rw[w5,Kj (by lia)];exact c,b⟩⟩
theorem ax.dropR{α:Type}{xs:List V}{ys:List α}{R:GD->α->Prop}(h:ax xs ys R)(n:Nat):ax (xs.drop n) (ys.drop n) R:=⟨by rw[jB,jB,h.1],λj y e=>by
 rw[List.getElem?_drop]at e;obtain⟨r,b,a⟩:=h.2 _ y e;exact⟨r,by rw[List.getElem?_drop];exact b,a⟩⟩
theorem ax.appR{α:Type}{xs b:List V}{ys a:List α}{R:GD->α->Prop}(h:ax xs ys R)(h':ax b a R):ax (xs++b) (ys++a) R:=⟨by rw[cK,cK,h.1,h'.1],λj y e=>by
 by_cases f:j<ys.length
 .rw[iP f]at e;obtain⟨r,d,c⟩:=h.2 j y e;exact⟨r,by rw[iP (by rw[h.1];exact f)];exact d,c⟩
 .rw[ll (by lia)]at e;obtain⟨r,d,c⟩:=h'.2 _ y e;exact⟨r,by rw[ll (by rw[h.1];lia),h.1];exact d,c⟩⟩
theorem ax.revR{α:Type}{xs:List V}{ys:List α}{R:GD->α->Prop}(h:ax xs ys R):ax xs.reverse ys.reverse R:=⟨by rw[xT,xT,h.1],λj y e=>by
 have a:=(Gz.mp e).1;rw[xT]at a;rw[List.getElem?_reverse a]at e;obtain⟨r,c,b⟩:=h.2 _ y e;exact⟨r,by rw[List.getElem?_reverse (by rw[h.1];exact a),h.1];exact c,b⟩⟩
theorem pX.sub{a:List (List Int)}{d:List Int}{bms c:List (List Int×Int)}(h:pX a d bms)(k:∀b∈c,b∈bms):pX a d c:=λb e=>h b (k b e)
def vdp(bms:List (List Int×Int))(i:Nat)(a:List Int)(p:List Nat):SI:=ver (wf i (o0 a) (o4 a)) (cdF bms (rg bms p))
theorem xN{a:List (List Int)}{bms:List (List Int×Int)}{rws:List Rw}{i:Nat}{f:List Int}(j:∀ps∈a,Pts ps)(d:rws.length=bms.length)(c:∀(k:Nat)(b:List Int×Int)(x:Rw),bms[k]?=Kb b->rws[k]?=Kb x->GrR a b x)(r:∀b∈bms,b.1.length=a.length){at_:List Nat}{o:List Int}(h:tH a at_ o):vdm rws i (o0 f,o4 f) (mkg rws o)=vdp bms i f at_:=by
 have m:∀k,k<bms.length->(rws.getD k ([],0)).2=(bms.getD k ([],0)).2:=λk p=>by
  have n:=Gy p;have e:=Gy (l:=rws) (i:=k) (by lia);rw[dF,dF,n,e];exact(c k _ _ n e).1
 rw[tI j d c r h];generalize q:(λk=>mL at_ (bms.getD k ([],0)))=g;have s:rg bms at_=(List.range bms.length).filter g:=by unfold rg;rw[q]
 have e:pkF rws (bQ ((msk g bms.length:Nat):Int)) rws.length=cdF bms ((List.range bms.length).filter g):=by rw[←d,yD,Cj d m,d]
 unfold vdm vdp;rw[e,s]
structure RwD where
 rl:GD
 rx:List V
 bms:List (List Int×Int)
 wy:Str
 wi:Nat
structure Ga(H:Hp)(Kh:List (List Int))(d:RwD):Prop where
 e:H d.rl=Kb (.lst d.rx)
 r:BRL H d.rx d.bms
 n:d.rx.length<=60
 b:∀b∈d.bms,b.1.length=Kh.length/\∀x∈b.1,0<=x
 w:six[d.wi]?=Kb d.wy
def eX(ps:List Int):List Int:=ps.tail.dropLast
theorem xO{ps:List Int}{j:Nat}{x:Int}(e:ps[j+1]?=Kb x)(h:j+2<ps.length):x∈eX ps:=by
 cases ps with
 |nil=>simp at e
 |cons y ps =>
  have e:ps[j]?=Kb x:=by simpa using e
  have h:j+1<ps.length:=by rw[iK]at h;lia
  show x∈ps.dropLast;rw[List.dropLast_eq_take];refine GB (i:=j) ?_;rw[w5,Kj (by lia)];exact e
theorem xP{ps:List Int}{x:Int}(h:x∈eX ps):∃j,ps[j+1]?=Kb x/\j+2<ps.length:=by
 cases ps with
 |nil=>cases h
 |cons y ps =>
  have h:x∈ps.dropLast:=h;rw[List.dropLast_eq_take]at h;obtain⟨j,a⟩:=jC h;have b:=(Gz.mp a).1;rw[ik]at b;rw[w5,Kj (by lia)]at a;exact⟨j,by simpa using a,by rw[iK];lia⟩
theorem mN{ps:List Int}(a:Pts ps):(eX ps).Pairwise (· < ·)/\(∀c∈eX ps,loP ps<c/\c<=hiP ps)/\(eX ps).length+2=ps.length:=by
 have m:=a.two;refine⟨?_,λc f=>?_,?_⟩
 .unfold eX;rw[List.dropLast_eq_take];exact List.Pairwise.sublist ((vf _ _).trans (List.tail_sublist ps)) a.asc
 .obtain⟨j,d,k⟩:=xP f;have e:=Gy (l:=ps) (i:=0) (by lia);have b:=Gy (l:=ps) (i:=ps.length-1) (by lia);have o:loP ps=ps[0]:=by unfold loP;rw[dF,e];rfl
  have n:hiP ps=ps[ps.length-1]-1:=by unfold hiP;rw[dF,b];rfl
  have h:=a.mono e d (by lia);have g:=a.mono d b (by lia);lia
 .unfold eX;rw[List.length_dropLast,List.length_tail];lia
def hX(a:List (List Int)):List (List (Int×Int)):=List.zipWith (λp c=>bX p.1 p.2 c) (a.map λb=>(loP b,hiP b)) (a.map eX)
theorem xQ{a:List (List Int)}(c:∀ps∈a,Pts ps):fS (hX a) (a.map λps=>(loP ps,hiP ps)):=by
 refine tF (by rw[bx,bx]) (λp g=>?_) λj p h b d=>?_
 .obtain⟨ps,f,rfl⟩:=en.mp g;exact(c ps f).le
 .rw[gI]at b d;cases e:a[j]? with
  |none=>rw[e]at b;cases b
  |some ps =>
   rw[e]at b d;cases b;cases d;have:=mN (c ps (GB e));exact⟨this.1,this.2.1⟩
theorem oZ(a:List (List Int)):(hX a).length=a.length:=by unfold hX;rw[lg,bx,bx];lia
theorem vz{a:List (List Int)}(d:∀ps∈a,Pts ps){f:Nat}(i:∀ps∈a,ps.length<=f):∀c∈hX a,c.length<=f+1:=λc h=>by
 unfold hX at h;obtain⟨j,b⟩:=jC h;rw[md,gI,gI]at b;cases e:a[j]? with
 |none=>rw[e]at b;cases b
 |some ps =>
  rw[e]at b;have b:bX (loP ps) (hiP ps) (eX ps)=c:=Option.some.inj b;have g:=GB e;rw[←b,fU];have:=(mN (d ps g)).2.2;have:=i ps g;lia
theorem vC{b:List (List Int)}(n:∀ps∈b,Pts ps){at_:List Nat}(D:at_∈cX (gls b)){d:List Int}(o:InB d (b.map λps=>(loP ps,hiP ps)))(h:tH b at_ d):tH b at_ (List.zipWith bW (hX b) d):=by
 obtain⟨r,E,g⟩:=h;refine⟨r,by rw[lg,oZ];lia,λj ps a c f z e=>?_⟩;rw[md]at e;have H:=(Gz.mp f).1;have m:=Gy (l:=d) (i:=j) (by lia);have x:(hX b)[j]?=Kb (bX (loP ps) (hiP ps) (eX ps)):=by unfold hX;rw[md,gI,gI,f];rfl
 rw[x,m]at e;have e:bW (bX (loP ps) (hiP ps) (eX ps)) d[j]=c:=Option.some.inj e;obtain⟨u,v,k,p,s,F⟩:=g j ps a d[j] f z m;have w:=n ps (GB f);have hi:=mN w;obtain⟨A,b2⟩:=(fA o).2 j d[j] _ m (by rw[gI,f];rfl);obtain⟨C,I,B,q⟩:=mG (hi:=hiP ps) hi.1 (λy t=>(hi.2.1 y t).1) A b2;rw[e]at C B q;refine⟨u,v,k,p,?_,by lia⟩;cases a with
 |zero =>
  have:loP ps=u:=by unfold loP;rw[dF,k];rfl
  lia
 |succ a =>
  have G:=(Gz.mp p).1;exact q u (xO k (by lia)) s
theorem AZ{Z F E:GD}{H:Hp}{t W:GD}{a:List (List Int)}{d:List Int}{rws:List Rw}{bms:List (List Int×Int)}{nm S:Str}{zs:List Str}{D:List V}{T j:Nat}(X:qV (λ_=>True) Z H t rws nm S W zs D)(o:ax D (a.map λps=>(loP ps,hiP ps)) (Dom F E H))(M:Dom F E H W (o0 d,o4 d))(J:six[T]?=Kb S)(a0:rws.length=bms.length)(hok:∀w∈rws,mB (a.map λps=>(loP ps,hiP ps)) (o0 d,o4 d) w)(O:∀(k:Nat)(b:List Int×Int)(x:Rw),bms[k]?=Kb b->rws[k]?=Kb x->GrR a b x)(hb:∀b∈bms,b.1.length=a.length)(f:∀ps∈a,Pts ps)(A1:o0 d<=o4 d)(a2:a.length<=4)(a3:bms.length<=60)(K:∀ps∈a,ps.length<=j)(N:(j+1)^a.length<=300)(xR:j<=57):RfH Z F E H t D (a.map λps=>(loP ps,hiP ps)) rws (λc=>a.getD c []) j T (o0 d,o4 d):=by
 obtain⟨bs,g⟩:∃bs,bs=a.map λps=>(loP ps,hiP ps):=⟨_,U⟩
 have r:bs.length=a.length:=by rw[g];simp
 rw[←g]at o hok⊢;have a1:∀w∈rws,w.1.length=a.length:=λw hw=>by rw[(hok w hw).len];exact r
 have q:∀b∈bms,b.1.length=a.length/\True:=λb h=>⟨hb b h,trivial⟩
 have n:∀(k:Nat)(x:Rw),rws[k]?=Kb x->∃b,bms[k]?=Kb b/\GrR a b x:=λk x e=>by
  have hk:=(Gz.mp e).1;exact⟨_,Gy (l:=bms) (i:=k) (by lia),O k _ x (Gy (by lia)) e⟩
 obtain⟨I,dx,na,dl,fs,G,e1,e2,e3,e4,e5,e6,e7,e8,e9,R,Q,_⟩:=id X;refine⟨⟨I,dx,dl,fs,G,e1,e2,e7,e9,o,R,ax.mono Q λ_ _ p=>p⟩,X.tbl J M A1,by lia,by lia,λx s=>⟨(hok x s).len,λc=>?_⟩,λc b C=>?_,by rw[r];exact N,xR,λp u=>?_⟩
 .obtain⟨k,B⟩:=jC s;obtain⟨b,C,_,gl,z⟩:=n k x B;by_cases v:c<a.length
  .have ep:=Gy v;have m:=Gy (l:=x.1) (i:=c) (by lia);have DI:=(q b (GB C)).1;have A:=Gy (l:=b.1) (i:=c) (by lia);have h1:=(z c _ _ _ ep m A).lenA;have h2:=(f _ (GB ep)).few;have h3:=(f _ (GB ep)).two;rw[dF,m];show x.1[c].length<=6;lia
  .rw[dF,nY (by lia)];exact yY _
 .have v:c<a.length:=by have:=(Gz.mp C).1;lia
  have ep:=Gy v;have eL:a.getD c []=a[c]:=by rw[dF,ep];rfl
  show(a.getD c []).length<=j/\∀y,MkC rws c b y->y∈a.getD c [];rw[eL];refine⟨K _ (GB ep),λy ⟨x,s,hy⟩=>?_⟩;obtain⟨k,B⟩:=jC s;obtain⟨b',P,_,gl,z⟩:=n k x B;have m:=Gy (l:=x.1) (i:=c) (by lia);have DI:=(q b' (GB P)).1;have A:=Gy (l:=b'.1) (i:=c) (by lia);have Y:=(jO.mp hy).1;rw[dF,m]at Y;obtain⟨p,u,e⟩:=lU.mp Y;have:=(z c _ _ _ ep m A).ep p u;rcases e with e|e
  .rw[e];exact this.1
  .rw[e];exact this.2
 .rw[g]at u;obtain⟨ps,L,rfl⟩:=en.mp u;exact(f ps L).le
theorem o6{n:Nat}{x:Int}(h:x∈cG n):0<=x/\x<n:=by
 obtain⟨j,a,rfl⟩:=en.mp h;have:=ju.mp a;lia
theorem o7{b:Nat}:∀{r a:List Nat},a.reverse=r->(∀n∈a,n<=b)->(cX a).length<=b^a.length
 | [],a,h,_=>by
  have:a=[]:=List.reverse_eq_nil_iff.mp h;subst this;exact yr _
 |n :: r,a,h,hb=>by
  obtain⟨c,d⟩:∃c:List Nat,c.reverse=r:=⟨r.reverse,rE r⟩;have e:a=c++[n]:=by rw[←rE a,h,vl,←d,rE]
  subst e;rw[jj,mK,cK,hQ,A8];exact Am (o7 d λm f=>hb m (kC _ f)) (hb n (jr _ (hZ.mpr U)))
theorem mO{α:Type}{R:α->α->Prop}{p:α->Bool}(d:∀a b,R a b->p a=Kd->p b=Kd->False):∀{l:List α}{q:α},l.Pairwise R->q∈l->p q=Kd->l.filter p=[q]
 |a :: l,q,hp,c,hq=>by
  obtain⟨f,h⟩:=ri.mp hp;rcases dt.mp c with rfl|c
  .rw[pb hq,List.filter_eq_nil_iff.mpr λb g e=>d q b (f b g) hq e]
  .rw[pk λz=>d a q (f q c) z hq];exact mO d h c hq
def wth:List (Int×Int)->List Int->Bool
 | [],[]=>Kd
 |p :: B,c :: cs=>(Kf (p.1<=c) && decide (c<=p.2)) && wth B cs
 |_,_=>Ke
theorem gy:∀{B:List (Int×Int)}{d:List Int},wth B d=Kd↔InB d B
 | [],[]=>⟨λ_=>.nil,λ_=>U⟩
 |p :: B,c :: d=>by
  show((Kf (p.1<=c) && decide (c<=p.2)) && wth B d)=Kd↔_;rw[BO,BO,Kp,Kp,gy];exact⟨λ⟨⟨a,b⟩,c⟩=>.cons a b c,λh=>by cases h with|cons a b c=>exact⟨⟨a,b⟩,c⟩⟩
 | [],c :: d=>⟨λh=>(by cases h),λh=>(by cases h)⟩
 |p :: B,[]=>⟨λh=>(by cases h),λh=>(by cases h)⟩
theorem yR{L:Type}{n:Nat}{F:Fm L n}{a:List Int}{x:L}(h:Tel n F a x):∀{ps:List (Int×Int)},cw n F ps->InB a ps->∃q∈bxs n F,q.2=x/\InB a q.1:=by
 induction h with
 |nil x=>intro ps _ _;exact⟨([],x),hZ.mpr U,U,.nil⟩
 | @cons n f c a x j t ej hc hb ht ih =>
  intro ps l b;obtain⟨p,r,rfl,s,d,u,o⟩:ShS (cw n) f ps:=l;cases b with
  |cons i v g =>
   obtain⟨q,m,e,k⟩:=ih (o t (GB ej)) g;exact⟨_,xw.mpr ⟨t,GB ej,q,m,U⟩,e,.cons (xK d i ej hb) hc k⟩
theorem xS{n:Nat}{F:Fm OP n}{ps:List (Int×Int)}{c:List Int}{x:OP}(f:cw n F ps)(o:InB c ps)(j:Tel n F c x):∃B,((bxs n F).filter λq=>wth q.1 c)=[(B,x)]:=by
 obtain⟨q,m,e,hi⟩:=yR j f o;refine⟨q.1,?_⟩;rw[mO (R:=λq r:List (Int×Int)×OP=>Asc q.1 r.1) (λa b d s p=>?_) (xA f) m (gy.mpr hi),←e];obtain⟨k,u,v,g,y,E,D,_⟩:=yK d;obtain⟨A,w⟩:=fA (gy.mp s);obtain⟨z,t⟩:=fA (gy.mp p);have C:=(Gz.mp g).1;have h:=Gy (l:=c) (i:=k) (by lia);have:=w k _ u h g;have:=t k _ v h y;lia
def zN(B:List (Int×Int)):OP->List (List (Int×Int)×OP)
 |none=>[]
 |some p=>[(B,Kb p)]
theorem A2{a:List (List Int)}(d:∀ps∈a,Pts ps){bs:Prs}(n:bs=a.map λps=>(loP ps,hiP ps)){bms f:List (List Int×Int)}{rws j:List Rw}{i:Nat}{c:List Int}{l:Fm OP bs.length}(t:Cm bs rws j i i (o0 c,o4 c) l)
  (u:rws.length=bms.length)(r:∀(k:Nat)(b:List Int×Int)(x:Rw),bms[k]?=Kb b->rws[k]?=Kb x->GrR a b x)(v:∀b∈bms,b.1.length=a.length)(m:j.length=f.length)(y:∀(k:Nat)(b:List Int×Int)(x:Rw),f[k]?=Kb b->j[k]?=Kb x->GrR a b x)(o:∀b∈f,b.1.length=a.length)
  {at_:List Nat}(p:at_∈cX (gls a)):∃B,((eJ (bxs bs.length l)).filter λq=>wth q.1 (dC a at_))=zN B (dpr (vdp bms i c at_) (vdp f i c at_)):=by
 subst n;obtain⟨h,g⟩:=AW d (nW.iff.mp p);have s:=t.tel _ h;have e:dif rws j i i (o0 c,o4 c) (dC a at_)=dpr (vdp bms i c at_) (vdp f i c at_):=by unfold dif;rw[xN d u r v g,xN d m y o g]
 rw[e]at s;obtain⟨B,w⟩:=xS t.sh h s;refine⟨B,?_⟩;have:((eJ (bxs _ l)).filter λq=>wth q.1 (dC a at_))=(((bxs _ l).filter λq=>wth q.1 (dC a at_)).filter λq=>decide (q.2≠Kc)):=by
  unfold eJ;rw[List.filter_filter,List.filter_filter]
  congr 1
  funext q
  exact Bool.and_comm _ _
 rw[this,w];cases dpr (vdp bms i c at_) (vdp f i c at_) <;> rfl
theorem uD{α:Type}{ws:List α}{i:Nat}{x:α}(a:ws[i]?=Kb x):ws.drop i=x :: ws.drop (i+1):=by
 obtain⟨h,rfl⟩:=Gz.mp a;exact List.drop_eq_getElem_cons h
theorem yS{α:Type}{zs ws:List α}{i:Nat}{x y:α}(a:zs[i]?=Kb y)(c:ws[i]?=Kb x):zs.take (i+1)++ws.drop (i+1)=(zs.take i++ws.drop i).set i y:=by
 have hi:=(Gz.mp a).1;have b:(zs.take i).length=i:=by rw[ik];lia
 rw[take_snoc a,uD c,mv,List.set_append_right _ _ (by lia),b,Bj];rfl
theorem yT{α:Type}{zs ws:List α}{i:Nat}{x:α}(a:zs[i]?=Kb x)(b:ws[i]?=Kb x):zs.take (i+1)++ws.drop (i+1)=zs.take i++ws.drop i:=by
 rw[take_snoc a,uD b,mv];rfl
theorem ax.put{α:Type}{xs:List V}{f:List α}{P:GD->α->Prop}{r:GD}{a:α}(i:Nat)(h:ax xs f P)(p:P r a):ax (xs.set i (.ref r)) (f.set i a) P:=⟨by rw[oD,oD,h.1],λj b e=>by
 have g:=h.1;have d:=(Gz.mp e).1;rw[oD]at d;by_cases c:i=j
 .subst c;rw[List.getElem?_set_self d]at e;cases e;exact⟨r,List.getElem?_set_self (by lia),p⟩
 .rw[List.getElem?_set_ne c]at e⊢;exact h.2 j b e⟩
theorem So.seq{K:W.Frag}{H H':Hp}{a:GD}{xs:List V}(e:So H H')(h:SqL K H a xs):SqL K H' a xs:=by
 rcases h with(h|⟨o,h⟩)|h
 .exact .inl (.inl (e _ _ trivial h))
 .exact .inl (.inr ⟨o,e _ _ trivial h⟩)
 .exact .inr h
structure mQ(cT cN cW:GD)(H:Hp)(t:GD)(ns:List Int)(Kh:List (List Int))(os:List Int)(rws:List Rw)(bms:List (List Int×Int))(wi kk:Nat):Prop where
 ex:∃(dv:List V)(L:Nat->List Int)(ou:GD),RfH cT cN cW H t dv (Kh.map λps=>(loP ps,hiP ps)) rws L kk wi (o0 os,o4 os)/\TDo cT H t dv ou/\ax dv (dms ns Kh) (DmX cN cW H)/\DmX cN cW H ou (dmO (cA ns 5) os)
 n:rws.length=bms.length
 gr:∀(k:Nat)(b:List Int×Int)(x:Rw),bms[k]?=Kb b->rws[k]?=Kb x->GrR Kh b x
 b:∀b∈bms,b.1.length=Kh.length
theorem mQ.so{l m k:GD}{H H':Hp}{t:GD}{i:List Int}{e:List (List Int)}{g:List Int}{rws:List Rw}{bms:List (List Int×Int)}{f j:Nat}(h:mQ l m k H t i e g rws bms f j)(s:So H H'):mQ l m k H' t i e g rws bms f j:=by
 obtain⟨⟨u,L,n,a,b,c,d⟩,r,q,o⟩:=h;exact⟨⟨u,L,n,a.so s,b.so s,ax.mono c λ_ _ p=>DmX.so p s,d.so s⟩,r,q,o⟩
theorem mQ.two{K:W.Frag}{o p n:GD}{H:Hp}{t u:GD}{f:List Int}{a:List (List Int)}{e:List Int}{rws N:List Rw}{bms Q:List (List Int×Int)}{j l:Nat}(h:mQ o p n H t f a e rws bms j l)(h':mQ o p n H u f a e N Q j l)(c:∀ps∈a,Pts ps)(a0:a.length<=4)(v:∀ps∈a,ps.length<=l):Ck K o p n H t u (a.map λps=>(loP ps,hiP ps)) rws N j j (o0 e,o4 e) (hX a):=by
 obtain⟨⟨T,L,P,S,r,A,y⟩,w,z,D⟩:=h;obtain⟨⟨F,L2,s,R,q,Z,Y⟩,X,V,C⟩:=h';have B:(dms f a).length<=10:=by unfold dms;rw[bx,lz];lia
 have O:∀{d:List Rw}{i:List (List Int×Int)},d.length=i.length->(∀(k:Nat)(b:List Int×Int)(x:Rw),i[k]?=Kb b->d[k]?=Kb x->GrR a b x)->(∀b∈i,b.1.length=a.length)->∀m,InB m (a.map λps=>(loP ps,hiP ps))->mkg d (List.zipWith bW (hX a) m)=mkg d m:=λ{d i} M J I m g=>by
  obtain⟨a1,E,G⟩:=Ci c g;rw[tI c M J I G,tI c M J I (vC c E g G)]
 exact⟨⟨T,F,_,_,l,S,R,vz c v,P,s,dms f a,dmO (cA f 5) e,r,q,A,Z,y,Y,B⟩,xQ c,by rw[oZ,bx],O w z D,O X V C⟩
inductive gz(K:W.Frag)(Y:AD)(vs:List V)(H:Hp)(Q:VK)(e_:XK):Prop
 |mk (z g:Str)(_:vs=[.str z,.str g])(_:Q (.bl (lV z g)) H)
inductive fB(K:W.Frag)(Y:AD)(vs:List V)(H:Hp)(Q:VK)(e_:XK):Prop
 |mk (i:Int)(_:vs=[.int i])(_:Q (.bl Kd) H)
inductive mR(K:W.Frag)(Y:AD)(vs:List V)(H:Hp)(Q:VK)(e_:XK):Prop
 |mk (a b:GD)(d e:Dm)(r:Bool)(_:vs=[.ref a,.ref b])(_:DmX Y.i Y.j H a d)(_:DmX Y.i Y.j H b e)(_:(r=Kd↔d=e))(_:Q (.bl r) H)
inductive mS(K:W.Frag)(Y:AD)(vs:List V)(H:Hp)(Q:VK)(e_:XK):Prop
 |mk (a:GD)(xs:List V)(ps:List (Int×Int))(n:Int)(_:vs=[.ref a,.int n])(_:SqL K H a xs)(_:PL H xs ps)(_:Q (.bl (inP ps n)) H)
inductive mT(K:W.Frag)(Y:AD)(vs:List V)(H:Hp)(Q:VK)(e_:XK):Prop
 |mk (a:GD)(xs:List V)(R:List (Int×Int))(lo hi:Int)(_:vs=[.ref a,.int lo,.int hi])(_:SqL K H a xs)(_:PL H xs R)(_:xs.length<=400)(_:∀(r:GD)(H':Hp)(es:List Int),ar H H'->H r=Kc->H' r=Kb (.lst (es.map V.int))->es=(ends R).filter (λt=>decide (lo<t) && decide (t<=hi))->Q (.ref r) H')
inductive gA(K:W.Frag)(Y:AD)(vs:List V)(H:Hp)(Q:VK)(e_:XK):Prop
 |mk (a:GD)(ms L:List Int)(lo hi:Int)(_:vs=[.int lo,.int hi,.ref a])(_:SqL K H a (ms.map V.int))(_:ms.length<=400)(_:L.length<64)(_:(∀m∈ms,lo<m->m<=hi->m∈L))(_:∀(r:GD)(H':Hp)(cs:List Int)(ts:List V),ar H H'->H r=Kc->H' r=Kb (.lst ts)->PL H' ts (bX lo hi cs)->cs.Pairwise (· < ·)->(∀c,c∈cs↔(c∈ms/\lo<c/\c<=hi))->cs.length<64->Q (.ref r) H')
inductive fV(K:W.Frag)(Y:AD)(vs:List V)(H:Hp)(Q:VK)(e_:XK):Prop
 |mk (L:Type)(_:DecidableEq L)(A:Lfp K L)(n:Nat)(a:GD)(xs:List V)(ts:List (T3a (Fm L n)))(_:vs=[.ref a])(_:n<=6)(_:H a=Kb (.lst xs))(_:FmL (FmV A H n) H ts xs)(_:ts.length<=900)(_:∀(r:GD)(H':Hp),ar H H'->FmV A H' (n+1) (d8 ts) (.ref r)->Q (.ref r) H')
inductive ia(K:W.Frag)(Y:AD)(vs:List V)(H:Hp)(Q:VK)(e_:XK):Prop
 |mk (a:GD)(as:List GD)(xss:List (List Int))(L:List Int)(_:vs=[.ref a])(_:H a=Kb (.lst (as.map V.ref)))(_:MLs H as xss)(_:xss.flatten.length<=1000)(_:L.length<64)(_:(∀x∈xss.flatten,x∈L))(_:∀(l:GD)(cs:List Int)(H':Hp),ar H H'->H l=Kc->H' l=Kb (.lst (cs.map V.int))->cs.Pairwise (· < ·)->(∀x,x∈cs↔x∈xss.flatten)->Q (.ref l) H')
inductive dO(K:W.Frag)(Y:AD)(vs:List V)(H:Hp)(Q:VK)(e_:XK):Prop
 |mk (p r:GD)(xs ys:List V)(_:vs=[.ref p,.ref r])(_:SqL K H p xs)(_:SqL K H r ys)(_:1<=xs.length)(_:xs.length<=4)(_:ys.length<=200)(_:Q .non H)
inductive jk(K:W.Frag)(Y:AD)(vs:List V)(H:Hp)(Q:VK)(e_:XK):Prop
 |mk (cl:GD)(xs:List V)(w:Rw)(_:vs=[.ref cl,.int w.2])(_:H cl=Kb (.lst xs))(_:CL NT H xs w.1)(_:w.1.length<=100)(_:∀(r:GD)(H':Hp),ar H H'->H r=Kc->ji (λa=>H a=Kc) H' r w->Q (.ref r) H')
inductive eB(K:W.Frag)(Y:AD)(vs:List V)(H:Hp)(Q:VK)(e_:XK):Prop
 |mk (t:GD)(dv:List V)(bs:Prs)(rws:List Rw)(_:vs=[.ref t])(_:TD Y.k Y.i Y.j H t dv bs rws)(_:bs.length<=100)(_:∀(l:GD)(ys:List V)(H':Hp),ar H H'->H l=Kc->H' l=Kb (.lst ys)->PL H' ys bs->Q (.ref l) H')
inductive dD(K:W.Frag)(Y:AD)(vs:List V)(H:Hp)(Q:VK)(e_:XK):Prop
 |mk (a b:GD)(x y:SI)(_:vs=[.ref a,.ref b])(_:Vd K H a x)(_:Vd K H b y)(_:∀(v:V)(H':Hp),ar H H'->RPd K H' (dpr x y) v->Q v H')
inductive dY(K:W.Frag)(Y:AD)(vs:List V)(H:Hp)(Q:VK)(e_:XK):Prop
 |mk (a:GD)(ns:List Int)(k:Int)(_:vs=[.ref a,.int k])(_:SqL K H a (ns.map V.int))(_:0<=k)(_:Q (.int (cA ns k)) H)
inductive fH(K:W.Frag)(Y:AD)(vs:List V)(H:Hp)(Q:VK)(e_:XK):Prop
 |mk (c n:Int)(_:vs=[.int c,.int n])(_:1<=n)(_:n<=12)(_:∀(l:GD)(ps:List Int)(H':Hp),ar H H'->H l=Kc->H' l=Kb (.lst (ps.map V.int))->Pts ps->(c%3=1->∃m:Nat,1<=m/\m<=12/\ps=cG (m+1))->(ps.length:Int)<=n+1->(∀x∈ps,∀y∈ps,y-x<=12*10^56)->Q (.ref l) H')
inductive dZ(K:W.Frag)(Y:AD)(vs:List V)(H:Hp)(Q:VK)(e_:XK):Prop
 |mk (c k:Int)(_:vs=[.int c,.int k])(_:0<=k)(_:k<12)(_:Q (.str (w3 c k)) H)
inductive ib(K:W.Frag)(Y:AD)(vs:List V)(H:Hp)(Q:VK)(e_:XK):Prop
 |mk (c:Int)(_:vs=[.int c])(_:∀(l:GD)(os:List Int)(H':Hp),ar H H'->H' l=Kb (.lst (os.map V.int))->hV c os->Q (.ref l) H')
inductive jl(K:W.Frag)(Y:AD)(vs:List V)(H:Hp)(Q:VK)(e_:XK):Prop
 |mk (c:Int)(b:Bool)(_:vs=[.int c,.bl b])(_:∀(wy:Str)(i:Nat)(H':Hp),ar H H'->six[i]?=Kb wy->(b=Kd->wy≠s!"sum")->Q (.str wy) H')
inductive gB(K:W.Frag)(Y:AD)(vs:List V)(H:Hp)(Q:VK)(e_:XK):Prop
 |mk (c:Int)(pl ol:GD)(xs:List V)(Kh:List (List Int))(os:List Int)(oc:Int)(_:vs=[.int c,.ref pl,.ref ol])(_:H pl=Kb (.lst xs))(_:PTL H xs Kh)(_:Kh.length<=4)(_:(∀ps∈Kh,Pts ps))(_:H ol=Kb (.lst (os.map V.int)))(_:hV oc os)(_:∀(r bl:GD)(ms:List Int)(cd:Int)(H':Hp),ar H H'->H r=Kc->H bl=Kc->H' r=Kb (.tup [.ref bl,.int cd])->H' bl=Kb (.lst (ms.map V.int))->ms.length=Kh.length->(∀x∈ms,0<=x)->cd∈os->Q (.ref r) H')
inductive gC(K:W.Frag)(Y:AD)(vs:List V)(H:Hp)(Q:VK)(e_:XK):Prop
 |mk (l:GD)(ps:List Int)(m:Int)(_:vs=[.ref l,.int m])(_:H l=Kb (.lst (ps.map V.int)))(_:Pts ps)(_:0<=m)(_:∀(sp:GD)(qs:Prs)(H':Hp),ar H H'->SpA (λa=>H a=Kc) H' sp qs->(∀p∈qs,loP ps<=p.1/\p.2<=hiP ps)->SpG ps m (ps.length-1) qs->Q (.ref sp) H')
inductive fI(K:W.Frag)(Y:AD)(vs:List V)(H:Hp)(Q:VK)(e_:XK):Prop
 |mk (cl:GD)(xs:List V)(cs:List (List Int))(_:vs=[.ref cl])(_:H cl=Kb (.lst xs))(_:PTL H xs cs)(_:(∀c∈cs,Pts c))(_:cs.length<=4)(_:∀(l:GD)(zs:List V)(H':Hp),ar H H'->H' l=Kb (.lst zs)->PtL NT H' zs (cX (gls cs))->Q (.ref l) H')
inductive eY(K:W.Frag)(Y:AD)(vs:List V)(H:Hp)(Q:VK)(e_:XK):Prop
 |mk (rl al:GD)(rx:List V)(bms:List (List Int×Int))(at_:List Nat)(_:vs=[.ref rl,.ref al])(_:H rl=Kb (.lst rx))(_:BRL H rx bms)(_:rx.length<=60)(_:H al=Kb (.lst (vN at_)))(_:at_.length<=4)(_:(∀b∈bms,b.1.length=at_.length/\∀x∈b.1,0<=x))(_:∀(l:GD)(H':Hp),ar H H'->H l=Kc->H' l=Kb (.lst (vN (rg bms at_)))->Q (.ref l) H')
inductive jm(K:W.Frag)(Y:AD)(vs:List V)(H:Hp)(Q:VK)(e_:XK):Prop
 |mk (cl ol:GD)(wy:Str)(i:Nat)(cs os:List Int)(oc:Int)(_:vs=[.ref cl,.str wy,.ref ol])(_:H cl=Kb (.lst (cs.map V.int)))(_:cs.length<=60)(_:six[i]?=Kb wy)(_:H ol=Kb (.lst (os.map V.int)))(_:hV oc os)(_:∀(r:GD)(H':Hp),ar H H'->H' r=Kb (.tup (tp (ver (wf i (o0 os) (o4 os)) cs)))->Q (.ref r) H')
inductive eZ(K:W.Frag)(Y:AD)(vs:List V)(H:Hp)(Q:VK)(e_:XK):Prop
 |mk (a:GD)(ns:List Int)(_:vs=[.ref a])(_:SqL K H a (ns.map V.int))(_:ns.length<=63)(_:∀(l:GD)(ms:List Int)(H':Hp),ar H H'->H' l=Kb (.lst (ms.map V.int))->ms.length<=16->Q (.ref l) H')
inductive fJ(K:W.Frag)(Y:AD)(vs:List V)(H:Hp)(Q:VK)(e_:XK):Prop
 |mk (b l:GD)(B:List (Int×Int))(cs:List Int)(_:vs=[.ref b,.ref l])(_:BxA H b B)(_:H l=Kb (.lst (cs.map V.int)))(_:B.length=cs.length)(_:cs.length<=6)(_:Q (.bl (wth B cs)) H)
inductive cy(K:W.Frag)(Y:AD)(vs:List V)(H:Hp)(Q:VK)(e_:XK):Prop
 |mk (x dx:GD)(z:Str)(_:vs=[.ref x,.str z])(_:H x=Kb (.ins Y.b dx []))(_:Q .non (upd H x (.ins Y.b dx [("called",.str z)])))
inductive cH(K:W.Frag)(Y:AD)(vs:List V)(H:Hp)(Q:VK)(e_:XK):Prop
 |mk (x dx:GD)(z:Str)(_:vs=[.ref x,.str z])(_:H x=Kb (.ins Y.c dx []))(_:Q .non (upd H x (.ins Y.c dx [("called",.str z)])))
inductive cI(K:W.Frag)(Y:AD)(vs:List V)(H:Hp)(Q:VK)(e_:XK):Prop
 |mk (x dx:GD)(z:Str)(_:vs=[.ref x,.str z])(_:H x=Kb (.ins Y.d dx []))(_:Q .non (upd H x (.ins Y.d dx [("called",.str z)])))
inductive cS(K:W.Frag)(Y:AD)(vs:List V)(H:Hp)(Q:VK)(e_:XK):Prop
 |mk (x dx:GD)(z:Str)(_:vs=[.ref x,.str z])(_:H x=Kb (.ins Y.e dx []))(_:Q .non (upd H x (.ins Y.e dx [("called",.str z)])))
inductive cJ(K:W.Frag)(Y:AD)(vs:List V)(H:Hp)(Q:VK)(e_:XK):Prop
 |mk (x dx:GD)(z:Str)(_:vs=[.ref x,.str z])(_:H x=Kb (.ins Y.f dx []))(_:Q .non (upd H x (.ins Y.f dx [("called",.str z)])))
inductive cU(K:W.Frag)(Y:AD)(vs:List V)(H:Hp)(Q:VK)(e_:XK):Prop
 |mk (x dx:GD)(z:Str)(_:vs=[.ref x,.str z])(_:H x=Kb (.ins Y.g dx []))(_:Q .non (upd H x (.ins Y.g dx [("called",.str z)])))
inductive bN(K:W.Frag)(Y:AD)(vs:List V)(H:Hp)(Q:VK)(e_:XK):Prop
 |mk (x dx:GD)(lo hi:Int)(_:vs=[.ref x,.int lo,.int hi])(_:H x=Kb (.ins Y.i dx []))(_:Q .non (mkd Y.i H x dx lo hi))
inductive b7(K:W.Frag)(Y:AD)(vs:List V)(H:Hp)(Q:VK)(e_:XK):Prop
 |mk (x dx:GD)(lo hi:Int)(_:vs=[.ref x,.int lo,.int hi])(_:H x=Kb (.ins Y.j dx []))(_:Q .non (mkd Y.j H x dx lo hi))
def J1(K:W.Frag)(Y:AD):Sp:=vk K Y.b Y.i Y.j 0
def J9(K:W.Frag)(Y:AD):Sp:=vk K Y.c Y.i Y.j 1
def J5(K:W.Frag)(Y:AD):Sp:=vk K Y.d Y.i Y.j 2
def J7(K:W.Frag)(Y:AD):Sp:=vk K Y.e Y.i Y.j 3
def J3(K:W.Frag)(Y:AD):Sp:=vk K Y.f Y.i Y.j 4
def J11(K:W.Frag)(Y:AD):Sp:=vk K Y.g Y.i Y.j 5
inductive gD(K:W.Frag)(Y:AD)(vs:List V)(H:Hp)(Q:VK)(e_:XK):Prop
 |mk (z:Str)(_:vs=[.str z])(_:z.length<=1000)(_:Q (.bl (isw z)) H)
inductive dE(K:W.Frag)(Y:AD)(vs:List V)(H:Hp)(Q:VK)(e_:XK):Prop
 |mk (a b:GD)(ys:List V)(ps:List (Int×Int))(as:List GD)(mss:List (List Int))(_:vs=[.ref a,.ref b])(_:H a=Kb (.lst ys))(_:PL H ys ps)(_:H b=Kb (.lst (as.map V.ref)))(_:MLs H as mss)(_:MOK ps mss)(_:∀(l:GD)(xs:List V)(H':Hp)(css:List (List Int)),ar H H'->H' l=Kb (.lst xs)->css.length=ps.length->(∀(j:Nat)(p:Int×Int)(ms cs:List Int),ps[j]?=Kb p->mss[j]?=Kb ms->css[j]?=Kb cs->cs.Pairwise (· < ·)/\(∀c,c∈cs↔(c∈ms/\p.1<c/\c<=p.2))/\cs.length<64)->CoL H' xs (List.zipWith (λp cs=>bX p.1 p.2 cs) ps css)->Q (.ref l) H')
inductive pY(K:W.Frag)(Y:AD)(vs:List V)(H:Hp)(Q:VK)(e_:XK):Prop
 |mk (t rl c dx:GD)(fs:List (Str×V))(xs:List V)(rws:List Rw)(k:Nat)(w:Rw)(cs:List Int)(_:vs=[.ref t,.int k,.ref c])(_:H t=Kb (.ins Y.k dx fs))(_:fs.lookup s!"rows"=Kb (.ref rl)) (_:H rl=Kb (.lst xs))(_:RL NT H xs rws)(_:rws[k]?=Kb w)(_:SqL K H c (cs.map V.int))(_:w.1.length=cs.length)(_:∀H',ar H H'->Q (.bl (nR w.1 cs)) H')
inductive eF(K:W.Frag)(Y:AD)(vs:List V)(H:Hp)(Q:VK)(e_:XK):Prop
 |mk (t:GD)(c:Nat)(dv:List V)(bs:Prs)(rws:List Rw)(b:Int×Int)(L:List Int)(_:vs=[.ref t,.int (c:Int)])(_:TD Y.k Y.i Y.j H t dv bs rws)(_:bs[c]?=Kb b)(_:rws.length<=60)(_:(∀w∈rws,c<w.1.length/\(w.1.getD c []).length<=6))(_:L.length<64)(_:(∀x,MkC rws c b x->x∈L))(_:∀(l:GD)(cs:List Int)(H':Hp),ar H H'->H l=Kc->H' l=Kb (.lst (cs.map V.int))->cs.Pairwise (· < ·)->(∀x,x∈cs↔MkC rws c b x)->Q (.ref l) H')
inductive b8(K:W.Frag)(Y:AD)(vs:List V)(H:Hp)(Q:VK)(e_:XK):Prop
 |mk (la lb:GD)(xs ys:List V)(ds:List Dm)(_:vs=[.ref la,.ref lb])(_:H la=Kb (.lst xs))(_:H lb=Kb (.lst ys))(_:ax xs ds (DmX Y.i Y.j H))(_:ax ys ds (DmX Y.i Y.j H))(_:∀H',ar H H'->Q .non H')
inductive dj(K:W.Frag)(Y:AD)(vs:List V)(H:Hp)(Q:VK)(e_:XK):Prop
 |mk (a m:GD)(ns qs:List Int)(_:vs=[.ref a,.ref m])(_:SqL K H a (ns.map V.int))(_:SqL K H m (qs.map V.int))(_:(∀x∈qs,1<=x/\x<=12))(_:qs.length<=4)(_:∀(l:GD)(xs:List V)(Kh:List (List Int))(H':Hp),ar H H'->H' l=Kb (.lst xs)->PTL H' xs Kh->pQ ns Kh->Kh.length=qs.length->(∀(j:Nat)(ps:List Int)(x:Int),Kh[j]?=Kb ps->qs[j]?=Kb x->(ps.length:Int)<=x+1)->(∀ps∈Kh,∀x∈ps,∀y∈ps,y-x<=12*10^56)->Q (.ref l) H')
inductive gE(K:W.Frag)(Y:AD)(vs:List V)(H:Hp)(Q:VK)(e_:XK):Prop
 |mk (rl pl ol:GD)(c:Int)(rx:List V)(bms:List (List Int×Int))(xs:List V)(Kh:List (List Int))(os:List Int)(oc:Int)(_:vs=[.ref rl,.int c,.ref pl,.ref ol])(_:H rl=Kb (.lst rx))(_:BRL H rx bms)(_:rx.length<=30)(_:pX Kh os bms)(_:H pl=Kb (.lst xs))(_:PTL H xs Kh)(_:(∀ps∈Kh,Pts ps))(_:1<=Kh.length)(_:Kh.length<=4)(_:H ol=Kb (.lst (os.map V.int)))(_:hV oc os)(_:∀(l:GD)(rx':List V)(mP:List (List Int×Int))(H':Hp),ar H H'->H' l=Kb (.lst rx')->BRL H' rx' mP->rx'.length<=rx.length+1->pX Kh os mP->Q (.ref l) H')
inductive jn(K:W.Frag)(Y:AD)(vs:List V)(H:Hp)(Q:VK)(e_:XK):Prop
 |mk (tl sl nl:GD)(xs:List V)(TL:List (List (Int×Int)×OP))(sx:List V)(css:List (List Int))(nx:List V)(ws zs:List SI)(_:vs=[.ref tl,.ref sl,.ref nl])(_:H tl=Kb (.lst xs))(_:ChL K H xs TL)(_:TL.length<=300)(_:H sl=Kb (.lst sx))(_:ax sx css (λa cs=>H a=Kb (.lst (cs.map V.int))))(_:H nl=Kb (.lst nx))(_:ax nx ws (Vd K H))(_:css.length=ws.length)(_:zs.length=ws.length)(_:ws.length<=300)(_:(∀q∈TL,∀cs∈css,q.1.length=cs.length/\cs.length<=6))(_:(∀(k:Nat)(cs:List Int)(x y:SI),css[k]?=Kb cs->ws[k]?=Kb x->zs[k]?=Kb y->∃B,(TL.filter λq=>wth q.1 cs)=zN B (dpr x y)))(_:∀(l:GD)(mx:List V)(H':Hp),ar H H'->H' l=Kb (.lst mx)->ax mx zs (Vd K H')->Q (.ref l) H')
def J0(K:W.Frag)(Y:AD):Sp:=vh Y.b s!"first"
def J8(K:W.Frag)(Y:AD):Sp:=vh Y.c s!"only"
def J4(K:W.Frag)(Y:AD):Sp:=vh Y.d s!"like"
def J6(K:W.Frag)(Y:AD):Sp:=vh Y.e s!"low"
def J2(K:W.Frag)(Y:AD):Sp:=vh Y.f s!"high"
def J10(K:W.Frag)(Y:AD):Sp:=vh Y.g s!"sum"
inductive bO(K:W.Frag)(Y:AD)(vs:List V)(H:Hp)(Q:VK)(e_:XK):Prop
 |mk (a:GD)(b:Int×Int)(i:Int)(_:vs=[.ref a,.int i])(_:AL Y.i H a b.1 b.2)(_:b.1<=i)(_:i<=b.2)(_:Q (.bl Kd) H)
inductive b9(K:W.Frag)(Y:AD)(vs:List V)(H:Hp)(Q:VK)(e_:XK):Prop
 |mk (a:GD)(b:Int×Int)(i:Int)(_:vs=[.ref a,.int i])(_:AL Y.j H a b.1 b.2)(_:b.1<=i)(_:i<=b.2)(_:Q (.bl Kd) H)
inductive bp(K:W.Frag)(Y:AD)(vs:List V)(H:Hp)(Q:VK)(e_:XK):Prop
 |mk (x dx:GD)(lo hi:Int)(_:vs=[.ref x,.int lo,.int hi])(_:H x=Kb (.ins Y.i dx []))(_:lo<=hi)(_:Q .non (mkd Y.i H x dx lo hi))
def J12(K:W.Frag)(Y:AD):Sp:=j3 K Y.b Y.i Y.j 0
def J16(K:W.Frag)(Y:AD):Sp:=j3 K Y.c Y.i Y.j 1
def J14(K:W.Frag)(Y:AD):Sp:=j3 K Y.d Y.i Y.j 2
def J15(K:W.Frag)(Y:AD):Sp:=j3 K Y.e Y.i Y.j 3
def J13(K:W.Frag)(Y:AD):Sp:=j3 K Y.f Y.i Y.j 4
def J17(K:W.Frag)(Y:AD):Sp:=j3 K Y.g Y.i Y.j 5
inductive mU(K:W.Frag)(Y:AD)(vs:List V)(H:Hp)(Q:VK)(e_:XK):Prop
 |mk (a b:GD)(ys:List V)(ps:List (Int×Int))(as:List GD)(mss:List (List Int))(_:vs=[.ref a,.ref b])(_:H a=Kb (.lst ys))(_:PL H ys ps)(_:H b=Kb (.lst (as.map V.ref)))(_:MLs H as mss)(_:MOK ps mss)(_:∀H':Hp,ar H H'->Q (.int ((gr ps mss ps.length:Nat):Int)) H')
inductive eG(K:W.Frag)(Y:AD)(vs:List V)(H:Hp)(Q:VK)(e_:XK):Prop
 |mk (p:GD)(zs:List Str)(_:vs=[.ref p])(_:SqL K H p (zs.map V.str))(_:(∀z∈zs,isw z=Kd))(_:zs.Nodup)(_:zs.length<=100)(_:∀H',ar H H'->Q .non H')
inductive fK(K:W.Frag)(Y:AD)(vs:List V)(H:Hp)(Q:VK)(e_:XK):Prop
 |mk (dl ou cl:GD)(dv xs:List V)(bs:Prs)(o:Int×Int)(w:Rw)(_:vs=[.ref dl,.ref ou,.ref cl,.int w.2])(_:SqL K H dl dv)(_:ax dv bs (Dom Y.i Y.j H))(_:Dom Y.i Y.j H ou o)(_:H cl=Kb (.lst xs))(_:CL NT H xs w.1)(_:mB bs o w)(_:∀H',ar H H'->Q .non H')
inductive j5(K:W.Frag)(Y:AD)(vs:List V)(H:Hp)(Q:VK)(e_:XK):Prop
 |mk (t c:GD)(rws:List Rw)(i:Nat)(o:Int×Int)(cs:List Int)(_:vs=[.ref t,.ref c])(_:Tbl Y.k Y.i Y.j H t rws i o)(_:SqL K H c (cs.map V.int))(_:(∀w∈rws,w.1.length=cs.length))(_:∀H',ar H H'->Q (.int ((msk (iJ rws cs) rws.length:Nat):Int)) H')
inductive fb(K:W.Frag)(Y:AD)(vs:List V)(H:Hp)(Q:VK)(e_:XK):Prop
 |mk (t:GD)(dv:List V)(bs:Prs)(rws:List Rw)(L:Nat->List Int)(_:vs=[.ref t])(_:TD Y.k Y.i Y.j H t dv bs rws)(_:bs.length<=100)(_:rws.length<=60)(_:(∀w∈rws,w.1.length=bs.length/\∀c,(w.1.getD c []).length<=6))(_:(∀(c:Nat)(b:Int×Int),bs[c]?=Kb b->(L c).length<64/\∀x,MkC rws c b x->x∈L c))(_:∀(l:GD)(as:List GD)(mss:List (List Int))(H':Hp),ar H H'->H l=Kc->H' l=Kb (.lst (as.map V.ref))->MLs H' as mss->mss.length=bs.length->(∀(c:Nat)(b:Int×Int)(ms:List Int),bs[c]?=Kb b->mss[c]?=Kb ms->ms.Pairwise (· < ·)/\∀x,x∈ms↔MkC rws c b x)->Q (.ref l) H')
inductive dP(K:W.Frag)(Y:AD)(vs:List V)(H:Hp)(Q:VK)(e_:XK):Prop
 |mk (t u:GD)(dv ev:List V)(ou pu:GD)(ds:List Dm)(d:Dm)(_:vs=[.ref t,.ref u])(_:TDo Y.k H t dv ou)(_:TDo Y.k H u ev pu)(_:ax dv ds (DmX Y.i Y.j H))(_:ax ev ds (DmX Y.i Y.j H))(_:DmX Y.i Y.j H ou d)(_:DmX Y.i Y.j H pu d)(_:ds.length<=10)(_:∀H',ar H H'->Q .non H')
inductive bC(K:W.Frag)(Y:AD)(vs:List V)(H:Hp)(Q:VK)(e_:XK):Prop
 |mk (x dx p:GD)(zs:List Str)(_:vs=[.ref x,.ref p])(_:H x=Kb (.ins Y.j dx []))(_:H p=Kb (.lst (zs.map V.str)))(_:Good zs)(_:∀(H':Hp)(l:GD),(∀b o,b≠x->H b=Kb o->H' b=Kb o)->H' x=Kb (.ins Y.j dx [("low",.int 0),("high",.int (hiW zs)),("words",.ref l)])->H' l=Kb (.lst (zs.map V.str))->H l=Kc->Q .non H')
inductive iI(K:W.Frag)(Y:AD)(vs:List V)(H:Hp)(Q:VK)(e_:XK):Prop
 |mk (z:Str)(_:vs=[.str z])(_:z∈six)(_:(∀i:Nat,six[i]?=Kb z->∀(x C:GD)(H':Hp),ar H H'->(cl6 Y.b Y.c Y.d Y.e Y.f Y.g)[i]?=Kb C->WyN C H' x z->Q (.ref x) H'))
inductive fL(K:W.Frag)(Y:AD)(vs:List V)(H:Hp)(Q:VK)(e_:XK):Prop
 |mk (z:Str)(ou:GD)(_:vs=[.str z,.ref ou])(_:z∈six)(_:(z=s!"sum" -> ∃dx fs,H ou=Kb (.ins Y.i dx fs))) (_:∀H',ar H H'->Q .non H')
inductive fW(K:W.Frag)(Y:AD)(vs:List V)(H:Hp)(Q:VK)(e_:XK):Prop
 |mk (t:GD)(rws:List Rw)(i:Nat)(o:Int×Int)(m:Int)(_:vs=[.ref t,.int m])(_:Tbl Y.k Y.i Y.j H t rws i o)(_:∀(r:GD)(H':Hp),ar H H'->Vd K H' r (ver (wf i o.1 o.2) (pkF rws (bQ m) rws.length))->Q (.ref r) H')
inductive fM(K:W.Frag)(Y:AD)(vs:List V)(H:Hp)(Q:VK)(e_:XK):Prop
 |mk (c:Int)(l:GD)(ps:List Int)(_:vs=[.int c,.ref l])(_:H l=Kb (.lst (ps.map V.int)))(_:Pts ps)(_:(c%3=1->∃m:Nat,1<=m/\m<=12/\ps=cG (m+1)))(_:∀(d:GD)(H':Hp),ar H H'->Dom Y.i Y.j H' d (loP ps,hiP ps)->DmN Y.i Y.j H H' d (vy c ps)->Q (.ref d) H')
inductive fc(K:W.Frag)(Y:AD)(vs:List V)(H:Hp)(Q:VK)(e_:XK):Prop
 |mk (c:Int)(l:GD)(os:List Int)(_:vs=[.int c,.ref l])(_:H l=Kb (.lst (os.map V.int)))(_:hV c os)(_:∀(d:GD)(H':Hp),ar H H'->Dom Y.i Y.j H' d (o0 os,o4 os)->(c%3≠1->∃dx fs,H' d=Kb (.ins Y.i dx fs))->DmX Y.i Y.j H' d (dmO c os)->Q (.ref d) H')
inductive cj(K:W.Frag)(Y:AD)(vs:List V)(H:Hp)(Q:VK)(e_:XK):Prop
 |mk (x dx na dl ou rl:GD)(nm wy:Str)(zs:List Str)(dv rx:List V)(bs:Prs)(o:Int×Int)(rws:List Rw)(_:vs=[.ref x,.str nm,.ref na,.ref dl,.ref ou,.str wy,.ref rl])(_:H x=Kb (.ins Y.k dx []))(_:H na=Kb (.lst (zs.map V.str)))(_:(∀z∈nm :: zs,isw z=Kd))(_:(nm :: zs).Nodup)(_:1<=zs.length)(_:zs.length<=4)(_:wy∈six)(_:(wy=s!"sum" -> ∃dx fs,H ou=Kb (.ins Y.i dx fs))) (_:H dl=Kb (.lst dv))(_:ax dv bs (Dom Y.i Y.j H))(_:Dom Y.i Y.j H ou o)(_:H rl=Kb (.lst rx))(_:RL NT H rx rws)(_:rx.length<=200)(_:bs.length<=4)(_:(∀w∈rws,mB bs o w))(_:∀(H':Hp)(fs:List (Str×V))(rl':GD)(xs':List V),(∀b o,b≠x->H b=Kb o->H' b=Kb o)->H' x=Kb (.ins Y.k dx fs)->fs.lookup s!"rows"=Kb (.ref rl')->fs.lookup s!"way"=Kb (.str wy)->fs.lookup s!"outcome"=Kb (.ref ou)->fs.lookup s!"name"=Kb (.str nm)->(∃na' dl':GD,fs.lookup s!"names"=Kb (.ref na')/\fs.lookup s!"domains"=Kb (.ref dl')/\H' na'=Kb (.lst (zs.map V.str))/\H' dl'=Kb (.lst dv)/\H na'=Kc/\H dl'=Kc)->H rl'=Kc->H' rl'=Kb (.lst xs')->RL (λa=>H a=Kc) H' xs' rws->Q .non H')
inductive ie(K:W.Frag)(Y:AD)(n:Nat)(vs:List V)(H:Hp)(Q:VK)(e_:XK):Prop
 |mk (L:Type)(_:DecidableEq L)(A:Lfp K L)(d:Nat)(f:Fm L d)(v:V)(_:vs=[v,.int (d:Int)])(_:FmV A H d f v)(_:d+1<=n)(_:(bxs d f).length<=2000)(_:(∀q∈bxs d f,q.1.length<=6))(_:∀(l:GD)(xs:List V)(H':Hp),ar H H'->H l=Kc->H' l=Kb (.lst xs)->BxG A H' xs (bxs d f)->Q (.ref l) H')
theorem xU{K:W.Frag}{Y:AD}{vs:List V}{H:Hp}{Q:VK}{E:XK}(h:ie K Y 0 vs H Q E):False:=by
 obtain⟨j,b,c,d,i,v,rfl,f,e,a,g,q⟩:=h;lia
inductive dk(K:W.Frag)(Y:AD)(vs:List V)(H:Hp)(Q:VK)(e_:XK):Prop
 |mk (d:Nat)(F:Fm (Option (SI×SI)) d)(v:V)(_:vs=[v,.int (d:Int)])(_:FmV (K:=K) LPd H d F v)(_:d<=6)(_:(bxs d F).length<=300)(_:(∀q∈bxs d F,q.1.length<=6))(_:∀(l:GD)(xs:List V)(H':Hp),ar H H'->H l=Kc->H' l=Kb (.lst xs)->BxG (K:=K) LPd H' xs (eJ (bxs d F))->Q (.ref l) H')
inductive gF(K:W.Frag)(Y:AD)(vs:List V)(H:Hp)(Q:VK)(e_:XK):Prop
 |mk (a pl ol rl:GD)(ns:List Int)(xs:List V)(Kh:List (List Int))(os:List Int)(rx:List V)(bms:List (List Int×Int))(wy:Str)(wi:Nat)(tu:Int)(_:vs=[.ref a,.ref pl,.ref ol,.str wy,.ref rl,.int tu])(_:six[wi]?=Kb wy)(_:(cA ns 5%3=1->wy≠s!"sum")) (_:SqL K H a (ns.map V.int))(_:H pl=Kb (.lst xs))(_:PTL H xs Kh)(_:pQ ns Kh)(_:1<=Kh.length)(_:Kh.length<=4)(_:H ol=Kb (.lst (os.map V.int)))(_:hV (cA ns 5) os)(_:H rl=Kb (.lst rx))(_:BRL H rx bms)(_:rx.length<=60)(_:(∀b∈bms,b.1.length=Kh.length/\b.2∈os/\∀x∈b.1,0<=x))(_:∀(t:GD)(rws:List Rw)(nm:Str)(ou:GD)(zs:List Str)(dv:List V)(H':Hp),ar H H'->qV (λa=>H a=Kc) Y.k H' t rws nm wy ou zs dv->ax dv (Kh.map λps=>(loP ps,hiP ps)) (Dom Y.i Y.j H')->Dom Y.i Y.j H' ou (o0 os,o4 os)->ax dv (dms ns Kh) (DmX Y.i Y.j H')->DmX Y.i Y.j H' ou (dmO (cA ns 5) os)->(wy=s!"sum" -> ∃dx fs,H' ou=Kb (.ins Y.i dx fs))->(∀z∈nm :: zs,isw z=Kd)->(nm :: zs).Nodup->zs.length=Kh.length->rws.length=bms.length->(∀w∈rws,mB (Kh.map λps=>(loP ps,hiP ps)) (o0 os,o4 os) w)->(∀(k:Nat)(b:List Int×Int)(x:Rw),bms[k]?=Kb b->rws[k]?=Kb x->GrR Kh b x)->Q (.ref t) H')
inductive fe(K:W.Frag)(Y:AD)(P:GC)(w:Gn)(mg:Str->Option Gf)(base:GG)(n:Nat)(vs:List V)(H:Hp)(Q:VK)(e_:XK):Prop
 |mk (c b f:GD)(xs:List V)(cols:List (List (Int×Int)))(ah:List Int)(m:Nat)(L:Type)(_:DecidableEq L)(A:Lfp K L)(g:List Int->L)(J:Hp->Prop)(_:vs=[.ref c,.ref b,.ref f])(_:cols.length+1<=n)(_:H c=Kb (.lst xs))(_:CoL H xs cols)(_:H b=Kb (.lst (ah.map V.int)))(_:(∀col∈cols,col.length<=64))(_:ah.length+cols.length<=6)(_:cols.length<=6)(_:m=ah.length+cols.length)(_:AQ A P w K mg base f m g J)(_:J H)(_:(∀(v:V)(H':Hp),(∀d o,d≠b->H d=Kb o->H' d=Kb o)->FmV A H' cols.length (lay g cols ah) v->Q v H'))
theorem tJ{K:W.Frag}{Y:AD}{P:GC}{w:Gn}{e:Str->Option Gf}{a:GG}{vs:List V}{H:Hp}{Q:VK}{E:XK}(h:fe K Y P w e a 0 vs H Q E):False:=by
 obtain⟨c,b,v,k,d,x,m,L,l,A,g,J,rfl,n,p,u,r,j,i,f,o,s,t,q⟩:=h;lia
inductive fX(K:W.Frag)(Y:AD)(P:GC)(w:Gn)(mg:Str->Option Gf)(base:GG)(n:Nat)(vs:List V)(H:Hp)(Q:VK)(e_:XK):Prop
 |mk (L M:Type)(_:DecidableEq L)(_:DecidableEq M)(A:Lfp K L)(B:Lfp K M)(h:L->M)(J:Hp->Prop)(d:Nat)(F:Fm L d)(v:V)(f:GD)(_:vs=[v,.int d,.ref f])(_:d+1<=n)(_:d<=6)(_:FmV A H d F v)(_:SmF 300 d F)(_:Cd A B P w K mg base f h J)(_:J H)(_:∀(u:V)(H':Hp),ar H H'->FmV B H' d (nU h d F) u->Q u H')
theorem vE{K:W.Frag}{Y:AD}{P:GC}{w:Gn}{b:Str->Option Gf}{a:GG}{vs:List V}{H:Hp}{Q:VK}{E:XK}(h:fX K Y P w b a 0 vs H Q E):False:=by
 obtain⟨L,M,g,f,A,B,k,J,d,o,v,n,rfl,j,e,i,c,l,m,q⟩:=h;lia
inductive fY(K:W.Frag)(Y:AD)(P:GC)(w:Gn)(mg:Str->Option Gf)(base:GG)(n:Nat)(vs:List V)(H:Hp)(Q:VK)(e_:XK):Prop
 |mk (L M N:Type)(_:DecidableEq L)(_:DecidableEq M)(_:DecidableEq N)(A:Lfp K L)(B:Lfp K M)(C:Lfp K N)(h:L->M->N)(J:Hp->Prop)(d:Nat)(F:Fm L d)(G:Fm M d)(v u:V)(f:GD)(ps:List (Int×Int))(_:vs=[v,u,.int d,.ref f])(_:d+1<=n)(_:d<=6)(_:FmV A H d F v)(_:FmV B H d G u)(_:cw d F ps)(_:cw d G ps)(_:SmF 300 d F)(_:SmF 300 d G)(_:Ce A B C P w K mg base f h J)(_:J H)(_:∀(r:V)(H':Hp),ar H H'->FmV C H' d (pairF h d F G) r->Q r H')
theorem vF{K:W.Frag}{Y:AD}{P:GC}{w:Gn}{b:Str->Option Gf}{a:GG}{vs:List V}{H:Hp}{Q:VK}{E:XK}(h:fY K Y P w b a 0 vs H Q E):False:=by
 obtain⟨L,M,N,l,k,j,A,B,C,p,J,d,y,x,v,u,t,i,rfl,o,f,m,n,e,z,c,g,r,s,q⟩:=h;lia
inductive mV(K:W.Frag)(Y:AD)(P:GC)(w:Gn)(mg:Str->Option Gf)(base:GG)(vs:List V)(H:Hp)(Q:VK)(e_:XK):Prop
 |mk (a b f:GD)(ys:List V)(ps:List (Int×Int))(as:List GD)(mss:List (List Int))(L:Type)(_:DecidableEq L)(A:Lfp K L)(g:List Int->L)(J:Hp->Prop)(_:vs=[.ref a,.ref b,.ref f])(_:H a=Kb (.lst ys))(_:PL H ys ps)(_:H b=Kb (.lst (as.map V.ref)))(_:MLs H as mss)(_:MOK ps mss)(_:gr ps mss ps.length<=300)(_:AQ A P w K mg base f ps.length g J)(_:J H)(_:∀(v:V)(H':Hp)(css:List (List Int)),ar H H'->css.length=ps.length->(∀(j:Nat)(p:Int×Int)(ms cs:List Int),ps[j]?=Kb p->mss[j]?=Kb ms->css[j]?=Kb cs->cs.Pairwise (· < ·)/\(∀c,c∈cs↔(c∈ms/\p.1<c/\c<=p.2))/\cs.length<64)->FmV A H' (List.zipWith (λp cs=>bX p.1 p.2 cs) ps css).length (lay g (List.zipWith (λp cs=>bX p.1 p.2 cs) ps css) []) v->Q v H')
inductive dQ(K:W.Frag)(Y:AD)(vs:List V)(H:Hp)(Q:VK)(e_:XK):Prop
 |mk (v u:V)(d:Nat)(F G:Fm SI d)(ps:List (Int×Int))(_:vs=[v,u,.int (d:Int)])(_:d<=4)(_:FmV (K:=K) LVd H d F v)(_:FmV (K:=K) LVd H d G u)(_:cw d F ps)(_:cw d G ps)(_:SmF 300 d F)(_:SmF 300 d G)(_:(bxs d (pairF dpr d F G)).length<=300)(_:ps.length<=4)(_:∀(l:GD)(xs:List V)(H':Hp),ar H H'->H l=Kc->H' l=Kb (.lst xs)->ChL K H' xs (eJ (bxs d (pairF dpr d F G)))->Q (.ref l) H')
inductive ig(K:W.Frag)(Y:AD)(vs:List V)(H:Hp)(Q:VK)(e_:XK):Prop
 |mk (t:GD)(dv:List V)(bs:Prs)(rws:List Rw)(L:Nat->List Int)(i:Nat)(o:Int×Int)(_:vs=[.ref t])(_:TD Y.k Y.i Y.j H t dv bs rws)(_:Tbl Y.k Y.i Y.j H t rws i o)(_:bs.length<=4)(_:rws.length<=60)(_:(∀x∈rws,x.1.length=bs.length/\∀c,(x.1.getD c []).length<=6))(_:(∀(c:Nat)(b:Int×Int),bs[c]?=Kb b->(L c).length<=57/\∀x,MkC rws c b x->x∈L c))(_:(∀mss:List (List Int),mss.length=bs.length->(∀(c:Nat)(b:Int×Int)(ms:List Int),bs[c]?=Kb b->mss[c]?=Kb ms->ms.Pairwise (· < ·)/\∀x,x∈ms↔MkC rws c b x)->gr bs mss bs.length<=300))(_:(∀z,W.tabIn K "row_form" = Kb z->dI H z.2 [(qT Y80,"row_form.<locals>.<lambda>")])) (_:∀(v:V)(H':Hp)(css:List (List Int)),So H H'->(∀z,W.tabIn K "row_form" = Kb z->dI H' z.2 [(qT Y80,"row_form.<locals>.<lambda>")]/\∀d o,d≠z.2->H d=Kb o->H' d=Kb o)->(∃z,W.tabIn K "row_form" = Kb z)->css.length=bs.length->(∀(j:Nat)(p:Int×Int)(cs:List Int),bs[j]?=Kb p->css[j]?=Kb cs->cs.Pairwise (· < ·)/\∀x,x∈cs↔MkC rws j p x)->FmV (K:=K) wZ H' (List.zipWith (λp cs=>bX p.1 p.2 cs) bs css).length (lay (λcd=>((msk (iJ rws cd) rws.length:Nat):Int)) (List.zipWith (λp cs=>bX p.1 p.2 cs) bs css) []) v->Q v H')
inductive eH(K:W.Frag)(Y:AD)(vs:List V)(H:Hp)(Q:VK)(e_:XK):Prop
 |mk (t:GD)(dv:List V)(bs:Prs)(rws:List Rw)(L:Nat->List Int)(kk i:Nat)(o:Int×Int)(_:vs=[.ref t])(_:RfH Y.k Y.i Y.j H t dv bs rws L kk i o)(_:nV K H)(_:nX K H)(_:∀(v:V)(F:Fm SI bs.length)(H':Hp),So H H'->nV K H'->nX K H'->FmV (K:=K) LVd H' bs.length F v->cw bs.length F bs->SmF 300 bs.length F->(∀cs,InB cs bs->Tel bs.length F cs (vdm rws i o (mkg rws cs)))->Q v H')
inductive jo(K:W.Frag)(Y:AD)(vs:List V)(H:Hp)(Q:VK)(e_:XK):Prop
 |mk (t u:GD)(bs:Prs)(rws dN:List Rw)(i i':Nat)(o:Int×Int)(gc:List (List (Int×Int)))(_:vs=[.ref t,.ref u])(_:Ck K Y.k Y.i Y.j H t u bs rws dN i i' o gc)(_:nV K H)(_:nX K H)(_:∀(l:GD)(xs:List V)(PF:Fm (Option (SI×SI)) bs.length)(H':Hp),So H H'->(∀o,xC o->H l≠Kb o)->nV K H'->nX K H'->H' l=Kb (.lst xs)->Cm bs rws dN i i' o PF->ChL K H' xs (eJ (bxs bs.length PF))->Q (.ref l) H')
def J18(K:W.Frag):Sp:=λc H Q _=>∃(a:GD)(b:List Int),c=[.ref a]/\SqL K H a (b.map V.int)/\b.length<=63/\(∀z,W.tabIn K "row_form" = Kb z->H z.2=Kb (.tbl #[]))/\(∀z,W.tabIn K "verdict_form" = Kb z->H z.2=Kb (.tbl #[]))/\∀d,Q (.bl Kd) d
inductive fZ(K:W.Frag)(Y:AD)(f c' c_0:GD)(doc pm ctv:Gf)(vs:List V)(H:Hp)(Q:VK)(e_:XK):Prop
 |mk (a t:GD)(cs:List Int)(rws:List Rw)(i:Nat)(o:Int×Int)(_:vs=[.ref a])(_:i4 H f c' (W.kla_obj "<lambda>" "row_form.<locals>.<lambda>" (pP Y80) (nP Y80) (jW Y80) [("table",c_0)] pm c' ctv) "row_form.<locals>.<lambda>" [("table",c_0)] [("table",.ref t)]) (_:Tbl Y.k Y.i Y.j H t rws i o)(_:H a=Kb (.lst (cs.map V.int)))(_:(∀x∈rws,x.1.length=cs.length))(_:∀H',ar H H'->Q (.int ((msk (iJ rws cs) rws.length:Nat):Int)) H')
inductive d6(K:W.Frag)(Y:AD)(f c' c_0:GD)(doc pm ctv:Gf)(vs:List V)(H:Hp)(Q:VK)(e_:XK):Prop
 |mk (m:Int)(t:GD)(rws:List Rw)(i:Nat)(o:Int×Int)(_:vs=[.int m])(_:i4 H f c' (W.kla_obj "<lambda>" "verdict_form.<locals>.<lambda>" (pP Y84) (nP Y84) (jW Y84) [("table",c_0)] pm c' ctv) "verdict_form.<locals>.<lambda>" [("table",c_0)] [("table",.ref t)]) (_:Tbl Y.k Y.i Y.j H t rws i o)(_:∀(r:GD)(H':Hp),ar H H'->Vd K H' r (vdm rws i o m)->Q (.ref r) H')
section
variable{P:GC}{w:Gn}{K:W.Frag}{mg:Str->Option Gf}{base:GG}{f:GD}{fd:HM}{Y:AD}
theorem DO(F:Fun K "all_among" "all_among" Y32 f fd) (bl:Bl K mg Y)  : aK P w K mg base CX0 1 f fd ["text","signs"] (gz K Y):=by
 refine F.okA Z32 λo A m s H p Q E r h=>?_
 obtain⟨z,g,rfl,q⟩:=h
 refine⟨_,(aj (bg Hn.never U (Ar (pv 0)) (aD (i:=2) Z32.nd U (Or.inl U))
  (ai (aM (aE pj (pv 2) (pv 1) (by with_unfolding_all rfl))
  (ai (aw eO))
  aC)))
  (ai (aw eO))),?_⟩
 refine⟨_,U,z,U,yt (λi a l=>(∃k:Option V,a=[Kb (.str z),Kb (.str g),k])/\l=H/\(z.cps.toList.take i).all (sg g)=Kd) ⟨⟨_,U⟩,U,U⟩ (λi c a l e h=>?_) (λa l h=>?_)⟩
 .obtain⟨⟨k,rfl⟩,j,b⟩:=h;rw[j];refine⟨_,U,_,U,_,_,U,U,_,U,?_⟩;refine bq (λd=>?_) (λd=>?_)
  .have n:lV z g=false:=AJ e (AK d);rw[n]at q;exact q
  .exact⟨⟨_,U⟩,U,all_succ e (B6 d) b⟩
 .obtain⟨⟨k,rfl⟩,j,b⟩:=h;rw[j];rw[xc b]at q;exact q
theorem DP(F:Fun K "is_whole" "is_whole" Y47 f fd) (bl:Bl K mg Y)  : aK P w K mg base CX0 1 f fd ["value"] (fB K Y):=by
 refine F.okA Z47 λb A a s H c Q E d h=>?_
 obtain⟨i,rfl,q⟩:=h;refine⟨_,(ai (aw (kj (av dr U bl.isinstance_ PyProof.Rows.boot_isinstance (aa (pv 0) (aa (pe (v:=.ty "int") U bl.int_ PyProof.Rows.boot_int U) ae))) (lK (zU (av dr U bl.isinstance_ PyProof.Rows.boot_isinstance (aa (pv 0) (aa (pe (v:=.ty "bool") U bl.bool_ PyProof.Rows.boot_bool U) ae)))))))),?_⟩;exact⟨_,U,_,_,_,_,Kd,U,.ty _,.inl (.int _),(by first|rfl|with_unfolding_all rfl|decide+kernel),_,U,fO ⟨_,U,_,_,_,_,Ke,U,.ty _,.inl (.int _),(by first|rfl|with_unfolding_all rfl|decide+kernel),_,U,q⟩⟩
theorem DQ(F:Fun K "alike" "alike" Y31 f fd) (bl:Bl K mg Y)  : aK P w K mg base CX0 1 f fd ["one","other"] (mR K Y):=by
 refine F.okA Z31 λX A I s H vs Q E O h=>?_
 obtain⟨a,b,d,e,r,rfl,k,c,hi,q⟩:=h
 refine⟨_,(aj (aM (PW.pt (i6 (df (av dr U bl.isinstance_ PyProof.Rows.boot_isinstance (aa (pv 0) (aa (cz (v:=.ref Y.i) U bl.Numbers_ U) ae)))) (gm (df (av dr U bl.isinstance_ PyProof.Rows.boot_isinstance (aa (pv 1) (aa (cz (v:=.ref Y.i) U bl.Numbers_ U) ae)))))))
  (ai (aw (kj (jP br (ba (pv 0) U) (ba (pv 1) U) (aH _)) (lK (jP br (ba (pv 0) U) (ba (pv 1) U) (aH _))))))
  aC)
  (aj (aM (PW.pt (i6 (df (av dr U bl.isinstance_ PyProof.Rows.boot_isinstance (aa (pv 0) (aa (cz (v:=.ref Y.j) U bl.Words_ U) ae)))) (gm (df (av dr U bl.isinstance_ PyProof.Rows.boot_isinstance (aa (pv 1) (aa (cz (v:=.ref Y.j) U bl.Words_ U) ae)))))))
  (ai (aw (jP (Ap O) (ba (pv 0) U) (ba (pv 1) U) (aH _))))
  aC)
  (ai (aw eO)))),?_⟩
 cases d with
 |inl p =>
  obtain⟨lo,L⟩:=p;obtain⟨W,fs,k,B,S,_⟩:=k;cases e with
  |inl J =>
   obtain⟨D,u⟩:=J;obtain⟨n,m,c,y,x,_⟩:=c;refine⟨_,U,_,_,_,_,Kd,U,.ref _,bl.t_Numbers.ty k,bl.f_nn,_,U,fO ?_⟩;refine⟨_,U,_,_,_,_,Kd,U,.ref _,bl.t_Numbers.ty c,bl.f_nn,_,U,fO ?_⟩;refine⟨_,U,a,_,_,_,_,U,k,bl.k_Numbers,bl.na_Numbers_low,B,_,U,b,_,_,_,_,U,c,bl.k_Numbers,bl.na_Numbers_low,y,U,_,U,?_⟩;by_cases g:lo=D
   .subst g;refine fu U ⟨_,U,a,_,_,_,_,U,k,bl.k_Numbers,bl.na_Numbers_high,S,_,U,b,_,_,_,_,U,c,bl.k_Numbers,bl.na_Numbers_high,x,U,?_⟩;have T:decide (V.int L=V.int u)=r:=by
     rw[Bool.eq_iff_iff,Kp,hi];constructor
     .intro z;injection z with z;rw[z]
     .intro z;injection z with z;injection z with _ z;rw[z]
    have M:Q (.bl (Kf (V.int L=V.int u))) H:=by rw[T];exact q
    exact M
   .refine bq (λx=>Kk (V.int.inj (Kn x)) g) (λx=>?_);have o:r=false:=by
     rw[BJ];intro z;have t:=hi.mp z;injection t with t;injection t with t;exact g t
    rw[o]at q;exact q
  |inr C =>
   obtain⟨n,m,N,c,_⟩:=c;have o:r=false:=by
    rw[BJ];intro z;cases hi.mp z
   rw[o]at q;refine⟨_,U,_,_,_,_,Kd,U,.ref _,bl.t_Numbers.ty k,bl.f_nn,_,U,fO ?_⟩;refine⟨_,U,_,_,_,_,Ke,U,.ref _,bl.t_Words.ty c,bl.f_wn,_,U,ck ?_⟩;exact⟨_,U,_,_,_,_,Ke,U,.ref _,bl.t_Numbers.ty k,bl.f_nw,_,U,ck (ck q)⟩
 |inr Z =>
  obtain⟨W,fs,l,k,B,R,_⟩:=k;refine⟨_,U,_,_,_,_,Ke,U,.ref _,bl.t_Words.ty k,bl.f_wn,_,U,ck (ck ?_)⟩;refine⟨_,U,_,_,_,_,Kd,U,.ref _,bl.t_Words.ty k,bl.f_ww,_,U,fO ?_⟩;cases e with
  |inl J =>
   obtain⟨n,m,c,_⟩:=c;have o:r=false:=by
    rw[BJ];intro z;cases hi.mp z
   rw[o]at q;exact⟨_,U,_,_,_,_,Ke,U,.ref _,bl.t_Numbers.ty c,bl.f_nw,_,U,ck q⟩
  |inr C =>
   obtain⟨n,m,N,c,y,G,_⟩:=c;refine⟨_,U,_,_,_,_,Kd,U,.ref _,bl.t_Words.ty c,bl.f_ww,_,U,fO ?_⟩;exact⟨_,U,a,_,_,_,_,U,k,bl.k_Words,bl.na_Words_words,B,_,U,b,_,_,_,_,U,c,bl.k_Words,bl.na_Words_words,y,vx (SqL.of R) (SqL.of G) (hi.trans ⟨λz=>Sum.inr.inj z,λz=>Ko _ z⟩) q⟩
theorem DR(F:Fun K "holds" "holds" Y46 f fd) (bl:Bl K mg Y)  : aK P w K mg base CX0 1 f fd ["spans","number"] (mS K Y):=by
 refine F.okA Z46 λD A v s H G Q E I h=>?_
 obtain⟨a,xs,k,n,rfl,y,B,q⟩:=h
 refine⟨_,(aj (bg Hn.never U (aW (pv 0)) (eQ U (aJ (aD (i:=2) Z46.nd U (Or.inl U)) (aJ (aD (i:=3) Z46.nd U (Or.inl U)) bP)))
  (ai (aM (gO fj fj (pv 2) (pv 1) (pv 3))
  (ai (aw eO))
  aC)))
  (ai (aw eO))),?_⟩
 refine⟨_,U,a,U,⟨_,y⟩,bJ (xs:=xs) (λi g j=>(∃t o,g=[Kb (.ref a),Kb (.int n),t,o])/\j=H/\(k.take i).any (inR n)=Ke) ⟨⟨_,_,U⟩,U,U⟩ (λi g j _ h=>by obtain⟨_,e,_⟩:=h;rw[e];exact y) (λi x g j e h=>?_) (λg j h=>?_)⟩
 .obtain⟨⟨t,o,rfl⟩,m,b⟩:=h;rw[m];obtain⟨p,r,l,rfl,u⟩:=B.get e;refine⟨r,_,U,SqT.of u,U,_,_,U,_,_,U,U,?_⟩;refine⟨_,U,_,U,_,_,U,U,_,U,?_⟩;refine bq (λc=>?_) (λc=>?_)
  .refine⟨_,U,_,_,U,U,_,U,?_⟩;refine bq (λd=>?_) (λd=>?_)
   .have C:inP k n=true:=se l (DB c d);rw[C]at q;exact q
   .exact⟨⟨_,_,U⟩,U,iX l b (B5 d)⟩
  .exact⟨_,U,ck ⟨⟨_,_,U⟩,U,iX l b (B4 c)⟩⟩
 .obtain⟨⟨t,o,rfl⟩,m,b⟩:=h;rw[m];have z:inP k n=false:=by
   rw[B.length,ip]at b;exact b
  rw[z]at q;exact q
theorem DS(F:Fun K "edges" "edges" Y42 f fd) (bl:Bl K mg Y)  : aK P w K mg base CX0 1 f fd ["spans","low","high"] (mT K Y):=by
 refine F.okA Z42 λa2 A S s H vs Q E hr h=>?_
 obtain⟨a,xs,R,lo,hi,rfl,W,C,hl,q⟩:=h
 refine⟨_,(aj (aI (i:=3) Z42.nd U (Or.inl U) (aR ae))
  (aj (bg Hn.never U (aW (pv 0)) (eQ U (aJ (aD (i:=4) Z42.nd U (Or.inl U)) (aJ (aD (i:=5) Z42.nd U (Or.inl U)) bP)))
  (aj (aV (eR PySem.F.plainAttrs_list PySem.F.slot_list_append PySem.F.type_list_append bh (pv 3) (aa (pv 4) ae)))
  (ai (aV (eR PySem.F.plainAttrs_list PySem.F.slot_list_append PySem.F.type_list_append bh (pv 3) (aa (au bK (pv 5) ag) ae))))))
  (ai (aw (cM (aW (pv 3)) (bD (N:=["turn","low","high"]) (fr:=[1,2]) (cl:=[("low",s.heap.objs.size+1),("high",s.heap.objs.size+1+1)]) U U (by decide+kernel) (by decide+kernel) U (by decide+kernel) U U U (ij.mpr ⟨U,ij.mpr ⟨U,js _⟩⟩) U) U (λ_ _ _ _=>(iF (gO iV fj (pv 1) (pv 0) (pv 2)))) (λ_ _ _ _=>(pv 0))))))),?_⟩
 refine⟨(by show 0<=GH;decide),λl v=>?_⟩;have T:ar H (upd H l (.lst [])):=af v _
 refine⟨_,U,a,U,⟨_,T.seq W⟩,bJ (xs:=xs) (λi B k=>∃(L J:Option V),B=[Kb (.ref a),Kb (.int lo),Kb (.int hi),Kb (.ref l),L,J]/\ar H k/\k l=Kb (.lst ((ends (R.take i)).map V.int))/\(ends (R.take i)).length<=2*i)
  ⟨Kc,Kc,U,T,ab,yr _⟩ (λi B k _ h=>by obtain⟨_,_,_,j,_⟩:=h;exact j.seq W) (λi x B k e h=>?_) (λB k h=>?_)⟩
 .obtain⟨L,J,rfl,j,m,z⟩:=h;obtain⟨p,r,Z,rfl,M⟩:=(C.mono j.tups).get e;have b:i<xs.length:=(Gz.mp e).1;refine⟨r,_,U,SqT.of M,U,_,_,U,_,_,U,U,?_⟩;refine⟨_,U,.inl ⟨U,_,SqL.of m⟩,_,U,l,_,_,U,U,m,az (by rw[bx];lia),?_⟩;refine⟨_,U,.inl ⟨U,_,SqL.of ab⟩,_,U,_,_,U,U,l,_,_,U,U,ab,az (by rw[cK,bx,hQ];lia),?_⟩;rw[yc];refine⟨_,_,U,j.upd v,?_,?_⟩
  .rw[ab,take_snoc Z,oB];simp
  .rw[take_snoc Z,oB,cK];simp;lia
 .obtain⟨L,J,rfl,j,m,z⟩:=h;rw[C.length,ip]at m z
  refine⟨_,U,l,U,⟨_,SqL.of m⟩,dq (xs:=(ends R).map V.int) (λD i zs d=>ar k d/\d D=Kb (.lst zs)/\zs=(((ends R).take i).filter (λt=>decide (lo<t) && decide (t<=hi))).map V.int/\zs.length<=i)
   (λD n=>⟨af n _,ab,U,yY _⟩) (λD i zs d n _ h=>SqL.of (h.1 _ _ m)) (λD i x zs d n e h=>?_) (λD zs d n h=>?_)⟩
  .obtain⟨g,u,o,O⟩:=h;obtain⟨c,rfl,X⟩:=of_map e;have b:i<((ends R).map V.int).length:=(Gz.mp e).1;have a1:i<(ends R).length:=by rw[bx]at b;exact b
   have y:(Kf (lo<c) && decide (c<=hi))=Ke->dG (λD i zs d=>ar k d/\d D=Kb (.lst zs)/\zs=(((ends R).take i).filter (λt=>decide (lo<t) && decide (t<=hi))).map V.int/\zs.length<=i) D i ((ends R).map V.int).length d:=λhf=>by
    refine dG.mk (zs:=zs) b ⟨g,u,?_,by lia⟩;rw[take_snoc X,nq,pk (by simpa using hf)];simpa using o
   refine⟨_,U,_,U,_,_,U,U,_,U,?_⟩;refine bq (λI=>?_) (λI=>?_)
   .refine⟨_,U,_,_,U,U,_,U,?_⟩;refine bq (λG=>?_) (λG=>y (by rw[BJ.mpr G,Bool.and_false]));have a0:=C.length;refine⟨_,U,cB.mk b u (az (by lia)) ⟨g.upd n,ab,?_,by rw[cK,hQ];lia⟩⟩;rw[take_snoc X,nq,pb (by rw[I,G];rfl),o];simp
   .exact⟨_,U,ck (y (by rw[BJ.mpr I,Bool.false_and]))⟩
  .obtain⟨g,u,o,O⟩:=h;rw[bx,ip]at o;rw[o]at u;exact q D d _ (j.trans g) (j.free n) u U
theorem DT(F:Fun K "stretches" "stretches" Y81 f fd) (bl:Bl K mg Y)  : aK P w K mg base CX0 1 f fd ["low","high","marks"] (gA K Y):=by
 refine F.okA Z82 λb4 A b1 s H vs Q E hr h=>?_
 obtain⟨a,n,L,lo,hi,rfl,hS,hl,hL,qG,q⟩:=h
 refine⟨_,(aj (aI (i:=3) Z82.nd U (Or.inl U) (av (fR (w:=w) U U) U bl.sorted_ PyProof.Rows.boot_sorted (aa (bB (oP (w:=w) U U) U bl.set_ PyProof.Rows.boot_set (aa (cM (aW (pv 2)) (bD (N:=["mark","low","high"]) (fr:=[0,1]) (cl:=[("low",s.heap.objs.size+1),("high",s.heap.objs.size+1+1)]) U U (by decide+kernel) (by decide+kernel) U (by decide+kernel) U U U (ij.mpr ⟨U,ij.mpr ⟨U,js _⟩⟩) U) U (λ_ _ _ _=>(iF (gO iV fj (pv 1) (pv 0) (pv 2)))) (λ_ _ _ _=>(pv 0))) ae)) ae)))
  (aj (aI (i:=4) Z82.nd U (Or.inl U) (au dz (aR (aa (pv 0) ae)) (pv 3)))
  (aj (aI (i:=5) Z82.nd U (Or.inl U) (au dz (cM (aW (pv 3)) (dS U (by decide+kernel) (by decide+kernel) (by decide+kernel) U) U (λ_ _ _ _=>bz) (λ_ _ _ _=>(au cx (pv 0) ag))) (aR (aa (pv 1) ae))))
  (ai (aw (sN U U bl.list_ U bl.zip_ (aa (pv 4) (aa (pv 5) ae)))))))),?_⟩
 refine⟨_,U,a,U,⟨_,hS⟩,dq (xs:=n.map V.int) (λD i zs g=>ar H g/\g D=Kb (.lst zs)/\zs=((n.take i).filter (λt=>decide (lo<t) && decide (t<=hi))).map V.int/\zs.length<=i)
  (λD m=>⟨af m _,ab,U,yY _⟩) (λD i zs g m _ h=>h.1.seq hS) (λD i x zs g m e h=>?_) (λD zs g m h=>?_)⟩
 .obtain⟨r,B,y,R⟩:=h;obtain⟨c,rfl,ec⟩:=of_map e;have d:i<(n.map V.int).length:=(Gz.mp e).1;have a6:i<n.length:=by rw[bx]at d;exact d
  have O:(Kf (lo<c) && decide (c<=hi))=Ke->dG (λD i zs g=>ar H g/\g D=Kb (.lst zs)/\zs=((n.take i).filter (λt=>decide (lo<t) && decide (t<=hi))).map V.int/\zs.length<=i) D i (n.map V.int).length g:=λhf=>by
   refine dG.mk (zs:=zs) d ⟨r,B,?_,by lia⟩;rw[take_snoc ec,nq,pk (by simpa using hf)];simpa using y
  refine⟨_,U,_,U,_,_,U,U,_,U,?_⟩;refine bq (λg1=>?_) (λg1=>?_)
  .refine⟨_,U,_,_,U,U,_,U,?_⟩;refine bq (λg2=>?_) (λg2=>O (by rw[BJ.mpr g2,Bool.and_false]));refine⟨_,U,cB.mk d B (az (by lia)) ⟨r.upd m,ab,?_,by rw[cK,hQ];lia⟩⟩;rw[take_snoc ec,nq,pb (by rw[g1,g2];rfl),y];simp
  .exact⟨_,U,ck (O (by rw[BJ.mpr g1,Bool.false_and]))⟩
 .obtain⟨s2,B,y,R⟩:=h;rw[bx]at R y;rw[ip]at y;rw[y]at B;generalize S:n.filter (λt=>decide (lo<t) && decide (t<=hi))=ks at B y;have jh:∀c,c∈ks↔(c∈n/\lo<c/\c<=hi):=λc=>by rw[←S,jO];simp
  have b3:ks.length<=n.length:=by rw[←S];exact lI ..
  refine⟨D,ks,U,SqL.of B,by lia,λl a5=>?_⟩;have s3:ar H (upd g l (sM w l ks)):=s2.trans (af a5 _);refine⟨l,ks,L,U,ab,hL,λk hk=>let ⟨a1,a2,a3⟩:=(jh k).mp hk;qG k a1 a2 a3,λC b a9 pw G=>?_⟩;have s4:=s3.trans (af a9 (.lst (b.map V.int)));have e4:upd (upd g l (sM w l ks)) C (.lst (b.map V.int)) C=Kb (.lst (b.map V.int)):=ab;generalize upd (upd g l (sM w l ks)) C (.lst (b.map V.int))=H3 at s4 e4⊢;have a7:b.length<64:=zY (bH (pw.imp λh=>Int.ne_of_lt h) λk hk=>let ⟨a1,a2,a3⟩:=(jh k).mp ((G k).mp hk);qG k a1 a2 a3) hL;refine⟨_,U,(by show 1<=GH;decide),λt1 M=>?_⟩;have e5:=cF (o:=.lst [.int lo]) e4 M;have s5:=s4.trans (af M (.lst [.int lo]));refine⟨_,U,t1,C,_,_,U,U,ab,e5,zf (az (by rw[bx];show 1+b.length<=1000;lia)),λZ J=>?_⟩;have e6:=cF (o:=.lst ([V.int lo]++b.map V.int)) e5 J;have s6:=s5.trans (af J (.lst ([V.int lo]++b.map V.int)));have e7:upd (upd H3 t1 (.lst [.int lo])) Z (.lst ([V.int lo]++b.map V.int)) Z=Kb (.lst ([V.int lo]++b.map V.int)):=ab;generalize upd (upd H3 t1 (.lst [.int lo])) Z (.lst ([V.int lo]++b.map V.int))=H4 at s6 e6 e7⊢
  refine⟨_,U,C,U,⟨_,SqL.of e6⟩,dq (xs:=b.map V.int) (λD i zs z=>ar H4 z/\z D=Kb (.lst zs)/\zs=((b.take i).map (· - 1)).map V.int/\zs.length<=i)
   (λD m=>⟨af m _,ab,U,yY _⟩) (λD i zs z m _ h=>SqL.of (h.1 _ _ e6)) (λD i x zs z m e h=>?_) (λD zs z m h=>?_)⟩
  .obtain⟨r,v,u,DU⟩:=h;obtain⟨c,rfl,ec⟩:=of_map e;have d:i<(b.map V.int).length:=(Gz.mp e).1;have a6:i<b.length:=by rw[bx]at d;exact d
   refine⟨_,U,_,_,U,U,cB.mk d v (az (by lia)) ⟨r.upd m,ab,?_,by rw[cK,hQ];lia⟩⟩;rw[take_snoc ec,iv,iv,u];rfl
  .obtain⟨a0,v,u,DU⟩:=h;rw[bx,ip]at u;rw[u]at v;refine⟨_,U,(by show 1<=GH;decide),λt3 I=>?_⟩;have s7:=a0.trans (af I (.lst [.int hi]));refine⟨D,t3,_,_,U,U,cF v I,ab,zf (az (by rw[bx,bx];show b.length+1<=1000;lia)),λX a4=>?_⟩;have s8:=s7.trans (af a4 (.lst ((b.map (· - 1)).map V.int++[.int hi])));have e8:upd (upd z t3 (.lst [.int hi])) X (.lst ((b.map (· - 1)).map V.int++[.int hi])) X=Kb (.lst ((b.map (· - 1)).map V.int++[.int hi])):=ab;generalize upd (upd z t3 (.lst [.int hi])) X (.lst ((b.map (· - 1)).map V.int++[.int hi]))=H6 at s8 e8⊢;have e9:=s8 _ _ e7;refine⟨_,U,_,U,Z,X,(lo :: b).map V.int,(b.map (· - 1)++[hi]).map V.int,U,SqL.of e9,by rw[iv];exact SqL.of e8,λD9 ts H9 W k9 a8 b0 f9=>?_⟩;have s9:ar H H9:=(s6.trans s8).trans λc o e=>k9 c o e
   refine q D9 H9 b (ts.map V.ref) s9 ((s6.trans s8).free a8) b0 (PL.of_get (by rw[W,fU];simp) λj p hj=>?_) pw (λc=>(G c).trans (jh c)) a7;obtain⟨z1,z2⟩:=zip_get hj;obtain⟨T,h1,_,h2⟩:=f9 j _ _ z1 z2;exact⟨T,h1,h2⟩
theorem DV(F:Fun K "closed" "closed" Y38 f fd) (bl:Bl K mg Y)  : aK P w K mg base CX0 1 f fd ["triples"] (fV K Y):=by
 refine F.okA Z38 λa7 A a5 s H vs Q E hr h=>?_
 obtain⟨L,iL,A,n,a,xs,o,rfl,hn,ha,W,hl,q⟩:=h
 refine⟨_,(aj (aI (i:=1) Z38.nd U (Or.inl U) (aR ae))
  (aj (bg Hn.never U (aW (pv 0)) (eQ U (aJ (aD (i:=2) Z38.nd U (Or.inl U)) (aJ (aD (i:=3) Z38.nd U (Or.inl U)) (aJ (aD (i:=4) Z38.nd U (Or.inl U)) bP))))
  (ai (aM (PW.pt (i6 (du (pv 1) (by intro _;rfl)) (gm (aE (AE hr) (aF bc (aF aG (pv 1) (kL gN ag) (λ_ _=>U)) ag (λ_ _=>U)) (pv 4) (aH _)))))
  (ai (lN (aY (aa (aF bc (aF aG (pv 1) (kL gN ag) (λ_ _=>U)) ag (λ_ _=>U)) (aa (pv 3) (aa (pv 4) ae)))) (lM (pv 1) (kL gN ag) set_list)))
  (ai (aV (eR PySem.F.plainAttrs_list PySem.F.slot_list_append PySem.F.type_list_append bh (pv 1) (aa (aY (aa (pv 2) (aa (pv 3) (aa (pv 4) ae)))) ae)))))))
  (ai (aw (bB nF U bl.tuple_ PyProof.Rows.boot_tuple (aa (pv 1) ae)))))),?_⟩
 refine⟨(by show 0<=GH;decide),λl B=>?_⟩;have s0:ar H (upd H l (.lst [])):=af B _
 refine⟨_,U,a,U,⟨_,SqL.of (s0 _ _ ha)⟩,bJ (xs:=xs) (λi S g=>ar H g/\∃(c:List V)(N M J:Option V),g l=Kb (.lst c)/\FmL (FmV A g n) g ((o.take i).foldl cR []) c/\c.length<=i/\S=[Kb (.ref a),Kb (.ref l),N,M,J])
  ⟨s0,[],Kc,Kc,Kc,ab,FmL.nil,yY _,U⟩ (λi S g _ h=>SqL.of (h.1 _ _ ha)) (λi y S g e h=>?_) (λS g h=>?_)⟩
 .obtain⟨C,c,N,M,J,m,p,O,rfl⟩:=h;have hi:i<xs.length:=(Gz.mp e).1;obtain⟨t,et⟩:∃t,o[i]?=Kb t:=⟨_,Gy (by rw[←W.1];exact hi)⟩;obtain⟨r,u,ex,er,hu⟩:=W.2 i t et;rw[e]at ex;cases ex;have a4:=C _ _ er;have x:=FmV.mono C.tups hu;have Cp:(o.take (i+1)).foldl cR []=cR ((o.take i).foldl cR []) t:=by rw[take_snoc et,List.foldl_append];rfl
  rw[Cp];generalize (o.take i).foldl cR []=F at p;have a6:i<900:=by have:=W.1;lia
  refine⟨r,_,U,SqT.of a4,U,_,_,U,_,_,U,_,_,U,U,?_⟩
  have put:cR F t=F++[t]->∀b,g b=Kc->ar H (upd (upd g b (.tup [.int t.1,.int t.2.1,u])) l (.lst (c++[.ref b])))/\∃(v:List V)(N M J:Option V),upd (upd g b (.tup [.int t.1,.int t.2.1,u])) l (.lst (c++[.ref b])) l=Kb (.lst v) /\
    FmL (FmV A (upd (upd g b (.tup [.int t.1,.int t.2.1,u])) l (.lst (c++[.ref b]))) n) (upd (upd g b (.tup [.int t.1,.int t.2.1,u])) l (.lst (c++[.ref b]))) (cR F t) v/\v.length<=i+1/\[Kb (V.ref a),Kb (V.ref l),Kb (V.int t.1),Kb (V.int t.2.1),Kb u]=[Kb (.ref a),Kb (.ref l),N,M,J]:=λI b j=>by
   have D:upd g b (.tup [.int t.1,.int t.2.1,u]) l=Kb (.lst c):=cF m j;have k:bM g (upd (upd g b (.tup [.int t.1,.int t.2.1,u])) l (.lst (c++[.ref b]))):=(iD j).trans (aP D);refine⟨(C.trans (af j _)).upd B,c++[.ref b],_,_,_,ab,?_,by rw[cK,hQ];lia,U⟩;rw[I];exact(p.mono (λ_ _ q=>FmV.mono k q) k).snoc (aP D _ _ ab) (FmV.mono k x)
  refine⟨_,U,!c.isEmpty,.inl ⟨c,SqL.of m,U⟩,?_⟩;rcases wh F with X|⟨Z,lt,X⟩
  .subst X;have a0:c=[]:=List.eq_nil_of_length_eq_zero p.1;have eE:(!c.isEmpty)=false:=by rw[a0];rfl
   rw[eE];refine ck (ck ?_);refine⟨_,U,.inl ⟨U,_,SqL.of m⟩,_,U,_,U,_,U,(by show 3<=GH;decide),λb j=>?_⟩;refine⟨l,c,_,U,U,cF m j,az (by lia),?_⟩;exact put U b j
  .rw[w4]at X;subst X;obtain⟨G,T,ul,rfl,hy,R,a2⟩:=p.init;have eE:(!(G++[V.ref T]).isEmpty)=true:=by cases G <;> rfl
   rw[eE];refine fO ?_;refine⟨_,U,_,U,l,_,_,_,U,U,SqL.of m,jR _ _,T,_,_,_,U,U,SqT.of R,U,_,U,λa3=>FmV.eq_to (by lia) a2 x ?_ a3⟩;refine⟨_,U,?_⟩;refine bq (λd=>?_) (λd=>?_)
   .have d':lt.2.2=t.2.2:=iY d;have I:cR (Z++[lt]) t=Z++[(lt.1,t.2.1,t.2.2)]:=by
     unfold cR;rw[List.getLast?_concat];simp only;rw[Kj d',List.dropLast_concat]
    refine⟨_,U,_,U,l,_,_,_,U,U,SqL.of m,jR _ _,T,_,_,_,U,U,SqT.of R,U,_,U,_,U,(by show 3<=GH;decide),λb j=>?_⟩;have D:upd g b (.tup [.int lt.1,.int t.2.1,u]) l=Kb (.lst (G++[.ref T])):=cF m j;refine⟨_,U,_,U,l,_,_,_,U,U,D,mz (by simp),?_⟩;rw[qU];have k:bM g (upd (upd g b (.tup [.int lt.1,.int t.2.1,u])) l (.lst (G++[.ref b]))):=(iD j).trans (aP D);refine⟨(C.trans (af j _)).upd B,G++[.ref b],_,_,_,ab,?_,by rw[cK,hQ]at O⊢;lia,U⟩;rw[I];exact(hy.mono (λ_ _ q=>FmV.mono k q) k).snoc (t:=(lt.1,t.2.1,t.2.2)) (aP D _ _ ab) (FmV.mono k x)
   .have d':lt.2.2≠t.2.2:=kP d;have I:cR (Z++[lt]) t=Z++[lt]++[t]:=by
     unfold cR;rw[List.getLast?_concat];simp only;rw[Ki d']
    refine⟨_,U,.inl ⟨U,_,SqL.of m⟩,_,U,_,U,_,U,(by show 3<=GH;decide),λb j=>?_⟩;refine⟨l,_,_,U,U,cF m j,az (by lia),?_⟩;exact put I b j
 .obtain⟨C,c,N,M,J,m,p,O,rfl⟩:=h;have a1:FmL (FmV A g n) g (d8 o) c:=by
   have e:o.take xs.length=o:=by rw[W.1];exact ip
   rw[e]at p;exact p
  refine⟨_,U,l,c,U,.inl ⟨SqL.of m,λb j=>?_⟩⟩;have st:=af j (.tup c);exact q b _ (C.trans st) ⟨b,c,U,ab,a1.mono (λ_ _ z=>FmV.mono st.tups z) st.tups⟩
theorem DW(F:Fun K "gathered" "gathered" Y44 f fd) (bl:Bl K mg Y)  : aK P w K mg base CX0 1 f fd ["lists"] (ia K Y):=by
 refine F.okA Z44 λa1 A C s H vs Q E I h=>?_
 obtain⟨a,as,b,L,rfl,M,g,O,T,R,q⟩:=h
 refine⟨_,(aj (aI (i:=1) Z44.nd U (Or.inl U) (aR ae))
  (aj (bg Hn.never U (aW (pv 0)) (aD (i:=2) Z44.nd U (Or.inl U))
  (ai (aV (eR PySem.F.plainAttrs_list PySem.F.slot_list_extend PySem.F.type_list_extend uM (pv 1) (aa (pv 2) ae)))))
  (ai (aw (av (fR (w:=w) U U) U bl.sorted_ PyProof.Rows.boot_sorted (aa (bB (oP (w:=w) U U) U bl.set_ PyProof.Rows.boot_set (aa (pv 1) ae)) ae)))))),?_⟩
 refine⟨(by show 0<=GH;decide),λd m=>?_⟩;have t:ar H (upd H d (.lst [])):=af m _;have N:upd H d (.lst []) d=Kb (.lst [] ):=ab;generalize upd H d (.lst [])=H0 at t N⊢;have G:∀(A:List (List Int))(x:List Int),(A++[x]).flatten=A.flatten++x:=λA x=>by rw[List.flatten_append];simp
 refine⟨_,U,a,U,⟨_,SqL.of (t _ _ M)⟩,bJ (xs:=as.map V.ref) (λi p k=>ar H k/\k d=Kb (.lst ((b.take i).flatten.map V.int))/\∃v:Option V,p=[Kb (.ref a),Kb (.ref d),v]) ⟨t,N,_,U⟩ (λi p k _ h=>SqL.of (h.1 _ _ M)) (λi y p k e h=>?_) (λp k h=>?_)⟩
 .obtain⟨j,c,v,rfl⟩:=h;obtain⟨r,rfl,J⟩:=xm e;obtain⟨xs,u⟩:∃xs,b[i]?=Kb xs:=⟨_,Gy (by rw[←g.1];exact(Gz.mp J).1)⟩;obtain⟨r',o,I⟩:=g.2 i xs u;rw[J]at o;cases o;have a0:(b.take i).flatten.length+xs.length<=1000:=by
   have X:b.flatten=(b.take (i+1)).flatten++(b.drop (i+1)).flatten:=by rw[←List.flatten_append,List.take_append_drop]
   have W:((b.take (i+1)).flatten).length<=b.flatten.length:=by rw[X,cK];lia
   rw[take_snoc u,G,cK]at W;lia
  refine⟨_,U,.inl ⟨U,_,SqL.of c⟩,_,U,d,r,_,_,U,U,c,j _ _ I,zf (az (by rw[bx,bx];lia)),j.upd m,?_,_,U⟩;rw[ab,take_snoc u,G,iv]
 .obtain⟨j,c,v,rfl⟩:=h;rw[bx,g.1,ip]at c;refine⟨_,U,d,b.flatten,U,SqL.of c,(by lia),λl B=>?_⟩;have D:=af B (sM w l b.flatten);refine⟨l,b.flatten,L,U,ab,T,R,λD2 Z n S z=>?_⟩;exact q D2 Z _ ((j.trans D).trans (af n _)) (j.free (D.free n)) ab S z
theorem DX(F:Fun K "refuse_counts" "refuse_counts" Y74 f fd) (bl:Bl K mg Y)  : aK P w K mg base CX0 1 f fd ["names","rows"] (dO K Y):=by
 refine F.okA Z74 λe A a s H i Q E k h=>?_
 obtain⟨p,r,b,g,rfl,d,c,m,l,j,q⟩:=h
 refine⟨_,(aj (aM (dg (gO fj fj ag (av ao U bl.len_ Ka (aa (pv 0) ae)) (kS U bl.MOST_COLUMNS_)))
  (ai bE)
  aC)
  (ai (aM (aE kM (av ao U bl.len_ Ka (aa (pv 1) ae)) (kS U bl.MOST_ROWS_) (aH _))
  (ai bE)
  aC))),?_⟩
 refine⟨_,U,p,_,U,.inl (d),_,_,U,U,_,U,fu (by lia) ?_⟩;refine⟨_,_,U,U,_,U,?_⟩;rw[Kl (show((b.length:Nat):Int)<=4 by lia)];refine ck ?_;exact⟨_,U,r,_,U,.inl (c),_,_,U,U,_,U,cm (by lia) q⟩
theorem DY(F:Fun K "own_row" "own_row" Y72 f fd) (bl:Bl K mg Y)  : aK P w K mg base CX0 1 f fd ["cells","code"] (jk K Y):=by
 refine F.okA Z72 λT A y s H V Q E X h=>?_
 obtain⟨S,xs,G,rfl,B,t,Z,q⟩:=h;refine⟨_,(ai (aw (aY (aa (cM (aW (pv 0)) (dS U (by decide+kernel) (by decide+kernel) (by decide+kernel) U) U (λ_ _ _ _=>bz) (λ_ _ _ _=>(bB (nK (K:=K) U) U bl.list_ PyProof.Rows.boot_list (aa (pv 0) ae)))) (aa (pv 1) ae))))),?_⟩
 refine⟨_,U,S,U,⟨_,SqL.of B⟩,dq (xs:=xs) (λD i g d=>ar H d/\d D=Kb (.lst g)/\CL (Fr H D) d g (G.1.take i))
  (λD m=>⟨af m _,ab,ax.nil⟩) (λD i g d m _ h=>SqL.of (h.1 _ _ B)) (λD i x g d m e h=>?_) (λD g d m h=>?_)⟩
 .obtain⟨k,u,p⟩:=h;obtain⟨l,W,rfl,O,M⟩:=ax.get t e;obtain⟨_,n,R,L⟩:=M.same k;have hi:i<xs.length:=(Gz.mp e).1;have v:g.length<GH:=by
   have N:=p.1;rw[ik]at N;exact az (by lia)
  refine⟨_,U,l,_,U,.inl (SqL.of R),λo c=>?_⟩;have s2:=af c (.lst n);have C:upd d o (.lst n) o=Kb (.lst n):=ab;have j:=s2 _ _ u;generalize upd d o (.lst n)=H2 at s2 C j⊢;have J:H o=none:=k.free c;have I:o≠D:=λz=>by rw[z,u]at c;cases c
  refine cB.mk hi j v ⟨(k.trans s2).upd m,ab,?_⟩;rw[take_snoc O];exact CL.updN (ax.snoc (p.same s2) ⟨⟨J,I⟩,n,C,L.mono s2.tups⟩) Fr.out j
 .obtain⟨k,u,p⟩:=h;rw[t.1,ip]at p;refine⟨_,U,bu,λr b=>q r _ (k.trans (af b _)) (k.free b) ⟨D,g,ab,m,af b _ _ _ u,?_⟩⟩;exact(p.same (af b _)).wk λa h=>h.1
theorem DZ(F:Fun K "table_bounds" "table_bounds" Y82 f fd) (bl:Bl K mg Y)  : aK P w K mg base CX0 1 f fd ["table"] (eB K Y):=by
 refine F.okA Z83 λa1 A I s H vs Q E hr h=>?_
 obtain⟨t,x,bs,W,rfl,⟨rl,dx,V,fs,xs,M,f1,S,p,o,Z,hR⟩,hb,q⟩:=h;refine⟨_,(ai (aw (cM (aW (ba (pv 0) U)) (dS U (by decide+kernel) (by decide+kernel) (by decide+kernel) U) U (λ_ _ _ _=>bz) (λ_ _ _ _=>(aY (aa (lB (K:=K) U (pv 0) U) (aa (lB (K:=K) U (pv 0) U) ae))))))),?_⟩;have G:x.length=bs.length:=o.1;refine⟨_,U,t,_,_,_,_,U,M,bl.k_Table,bl.na_Table_domains,S,V,U,⟨_,SqL.of p⟩,dq (xs:=x) (λD i j c=>ar H c/\c D=Kb (.lst j)/\PL c j (bs.take i)) (λD k=>⟨af k _,ab,.nil⟩) (λD i j c k _ h=>SqL.of (h.1 _ _ p)) (λD i y j c k e h=>?_) (λD j c k h=>?_)⟩
 .obtain⟨l,v,m⟩:=h;obtain⟨a,b,rfl,T,C,N,a0,X,J,R,O,_⟩:=ax.get o e;have hi:i<x.length:=(Gz.mp e).1;have u:Cls K C/\NoAttr K C s!"low"/\NoAttr K C s!"high":=by
   rcases N with rfl|rfl
   .exact⟨bl.k_Numbers,bl.na_Numbers_low,bl.na_Numbers_high⟩
   .exact⟨bl.k_Words,bl.na_Words_low,bl.na_Words_high⟩
  refine⟨_,U,a,_,_,_,_,U,l _ _ J,u.1,u.2.1,R,_,U,a,_,_,_,_,U,l _ _ J,u.1,u.2.2,O,bu,λg B=>?_⟩;have r:=af B (.tup [.int b.1,.int b.2]);have L:upd c g (.tup [.int b.1,.int b.2]) g=Kb (.tup [.int b.1,.int b.2]):=ab;have d:=r _ _ v;have n:=m.mono r.tups;generalize upd c g (.tup [.int b.1,.int b.2])=H4 at r L d n⊢;have z:=m.length;rw[ik]at z;refine cB.mk hi d (az (by lia)) ⟨(l.trans r).upd k,ab,?_⟩;rw[take_snoc T];exact(n.mono (aP d)).snoc (aP d _ _ L)
 .obtain⟨l,v,m⟩:=h;rw[G,ip]at m;exact q D j c l k v m
theorem D1(F:Fun K "differing_pair" "differing_pair" Y41 f fd) (bl:Bl K mg Y)  : aK P w K mg base CX0 1 f fd ["old","new"] (dD K Y):=by
 refine F.okA Z41 λk A c s H l Q E j h=>?_
 obtain⟨a,b,x,y,rfl,i,e,q⟩:=h;refine⟨_,(ai (aw (lL (aE (wq j) (pv 0) (pv 1) (aH _)) (kS U bl.NOTHING_) (aY (aa (pv 0) (aa (pv 1) ae)))))),?_⟩;refine⟨_,U,_,U,uC (v:=x) (u:=y) i.sq e.sq ⟨_,U,?_⟩⟩;refine bq (λg=>?_) (λg=>?_)
 .refine q _ H (ar.refl _) ?_;unfold dpr;rw[Kj (Kn g)];rfl
 .refine⟨_,U,_,U,bu,λt d=>q _ _ (af d _) ?_⟩;unfold dpr;rw[Ki λz=>g (Kl z)];have s:=af d (.tup [.ref a,.ref b]);exact⟨t,U,a,b,ab,i.mono s.tups,e.mono s.tups⟩
theorem D3(F:Fun K "_law_cell" "_law_cell" Y51 f fd) (bl:Bl K mg Y)  : aK P w K mg base CX0 1 f fd ["script","k"] (dY K Y):=by
 refine F.okA Z51 λm A g s H n Q E o h=>?_
 obtain⟨a,b,k,rfl,j,p,q⟩:=h
 refine⟨_,(aj (aM (aE iV (pv 1) (av ao U bl.len_ Ka (aa (pv 0) ae)) (aH _))
  (ai (aw (aF aG (pv 0) (pv 1) (λ_ _=>U))))
  aC)
  (ai (aw ag))),?_⟩
 refine⟨_,U,_,U,a,_,U,.inl j,_,_,U,U,_,U,?_⟩;refine bq (λc=>?_) (λc=>?_)
 .have e:k<(((b.map V.int).length:Nat):Int):=iY c;rw[bx]at e;have i:k.toNat<b.length:=by lia
  have d:cA b k=b[k.toNat]:=by unfold cA;rw[dF,Gy i];rfl
  have l:atI (b.map V.int) k=Kb (.int b[k.toNat]):=by
   have z:atI (b.map V.int) ((k.toNat:Nat):Int)=Kb (.int b[k.toNat]):=aS (by rw[gI,Gy i];rfl);rw[show((k.toNat:Nat):Int)=k by lia]at z;exact z
  rw[d]at q;exact⟨_,U,_,U,a,_,_,_,U,U,j,l,q⟩
 .have e:=kP c;rw[bx]at e;have d:cA b k=0:=by unfold cA;rw[dF,nY (by lia)];rfl
  rw[d]at q;exact q
theorem D4(F:Fun K "_law_points" "_law_points" Y61 f fd) (bl:Bl K mg Y)  : aK P w K mg base CX0 1 f fd ["cell","count"] (fH K Y):=by
 refine F.okA Z61 λb3 A a3 s H vs Q E hr h=>?_
 obtain⟨c,n,rfl,n1,b0,q⟩:=h
 refine⟨_,(aj (aM (aE br (au aO (pv 0) ag) ag (aH _))
  (ai (aw (cM (aX U bl.range_ (aa (au bK (pv 1) ag) ae)) (dS U (by decide+kernel) (by decide+kernel) (by decide+kernel) U) U (λ_ _ _ _=>bz) (λ_ _ _ _=>(pv 0)))))
  aC)
  (aj (aI (i:=2) Z61.nd U (Or.inl U) (au cx (au aO (au bF (pv 0) ag) ag) ag))
  (aN (aM (aE kM (au aO (au bF (pv 0) ag) ag) ag (aH _))
  (ai (aI (i:=2) Z61.nd U (Or.inl U) (au cx (au aO (au bF (pv 0) ag) (au fC ag (au gM ag ag))) (au gM ag ag))))
  aC)
  (aj (aI (i:=3) Z61.nd U (Or.inl U) (aR (aa (pv 2) ae)))
  (aj (bg Hn.never U (aX U bl.range_ (aa (pv 1) ae)) (aD (i:=4) Z61.nd U (Or.inl U))
  (aN (aI (i:=5) Z61.nd U (Or.inl U) (au aO (au fC (au bK (au bF (pv 0) ag) (pv 4)) (au bK (au fC ag (pv 4)) ag)) (aF aG (aR (aa ag (aa ag (aa ag (aa ag (aa ag ae)))))) (au aO (pv 4) ag) (λ_ _=>U))))
  (aN (aI (i:=6) Z61.nd U (Or.inl U) ag)
  (aN (aM (aE br (au aO (pv 5) ag) ag (aH _))
  (ai (aI (i:=6) Z61.nd U (Or.inl U) (au bK ag (au aO (pv 5) ag))))
  aC)
  (aN (aM (aE br (au aO (pv 5) ag) ag (aH _))
  (ai (aI (i:=6) Z61.nd U (Or.inl U) (au bK ag (au aO (au bF (pv 0) (au bK (pv 4) ag)) (au gM ag ag)))))
  aC)
  (aj (aI (i:=2) Z61.nd U (Or.inl U) (au bK (pv 2) (pv 6)))
  (ai (aV (eR PySem.F.plainAttrs_list PySem.F.slot_list_append PySem.F.type_list_append bh (pv 3) (aa (pv 2) ae))))))))))
  (ai (aw (pv 3)))))))),?_⟩
 refine⟨_,U,_,_,U,U,(by show(0:Int)<3;decide),U,_,U,?_⟩;refine bq (λg=>?_) (λg=>?_)
 .refine⟨_,U,_,_,U,U,_,U,(by show -(2^62)<=n+1;lia),(by show n+1<2^62;lia),cn (λD i M j=>ar H j/\j D=Kb (.lst M)/\M=(cG i).map V.int) (λD I=>⟨af I _,ab,U⟩) (λD i M j I hi B=>?_) (λD M j I B=>?_)⟩
  .obtain⟨z,N,rfl⟩:=B;refine⟨_,U,cB.mk hi N (az (by rw[bx,bZ];lia)) ⟨z.upd I,ab,?_⟩⟩;rw[qX,iv];rfl
  .obtain⟨z,N,rfl⟩:=B;rw[show(n+1).toNat=n.toNat+1 by lia]at N;exact q D _ j z I N (tq (by lia) (by lia)) (λ_=>⟨n.toNat,by lia,by lia,U⟩) (by rw[bZ];lia) (λx T y S=>by have h1:=o6 T;have h2:=o6 S;lia)
 have g':c%3≠1:=iE g;refine⟨_,U,_,_,U,U,⟨by decide,by decide⟩,_,_,U,U,(by show(0:Int)<41;decide),_,_,U,U,?_⟩;refine⟨λd j=>j=H/\∃a:Int,d=[Kb (.int c),Kb (.int n),Kb (.int a),Kc,Kc,Kc,Kc],?_,?_⟩
 .refine⟨_,U,_,_,U,U,⟨by decide,by decide⟩,_,_,U,U,(by show(0:Int)<3;decide),_,_,U,U,_,U,?_⟩;exact bq (λ_=>⟨_,U,_,_,U,U,⟨by decide,by decide⟩,_,_,U,U,⟨by decide,by decide,by decide⟩,_,_,U,U,.inl ⟨by decide,by decide⟩,_,_,U,U,Int.mul_pos (by decide) (p10 _),_,_,U,U,⟨by decide,by decide,by decide⟩,_,_,U,U,U,_,U⟩) (λ_=>⟨U,_,U⟩)
 rintro a8 C ⟨rfl,o,rfl⟩;refine⟨_,U,(by show 1<=GH;decide),λl W=>?_⟩;have s0:ar C (upd C l (.lst ([o].map V.int))):=af W _;have e0:upd C l (.lst ([o].map V.int)) l=Kb (.lst ([o].map V.int)):=ab;have ee:upd C l (.lst [.int o])=upd C l (.lst ([o].map V.int)):=rfl;rw[ee];generalize upd C l (.lst ([o].map V.int))=H0 at s0 e0⊢;clear ee;refine⟨_,U,_,U,(by show -(2^62)<=n;lia),(by show n<2^62;lia),cc (λi R j=>ar C j/\∃(r:List Int)(a:Int)(c4 Z O:Option V),j l=Kb (.lst (r.map V.int))/\r.length=i+1/\r.Pairwise (· < ·)/\(∀p∈r,p<=a)/\(∀p∈r,a-p<=(i:Int)*10^56)/\R=[Kb (.int c),Kb (.int n),Kb (.int a),Kb (.ref l),c4,Z,O]) ⟨s0,[o],o,_,_,_,e0,U,rD _ _,(λp b=>by rw[show p=o by simpa using b];exact Int.le_refl _),(λp b=>by rw[show p=o by simpa using b];lia),U⟩ (λi R j hi B=>?_) (λR j B=>?_)⟩
 .obtain⟨z,r,a,c4,Z,O,X,u,A3,t,G,rfl⟩:=B;have Gp:i<12:=by lia
  refine⟨λd H2=>ar j H2/\∃pt:Int,d=[Kb (.int c),Kb (.int n),Kb (.int a),Kb (.ref l),Kb (.int (0+(i:Int))),Kb (.int pt),O],?_,?_⟩
  .refine⟨_,U,_,_,U,U,⟨by decide,by decide⟩,_,U,_,_,U,U,_,U,_,_,U,U,.inl ⟨by decide,by decide⟩,_,_,U,U,_,_,U,U,.inr ⟨by show -(2^64)<2*(0+(i:Int))+5;lia,by show 2*(0+(i:Int))+5<2^64;lia⟩,(by show 5<=GH;decide),λp b=>?_⟩;obtain⟨v,hv,a1⟩:=DE (k:=(0+(i:Int))%5) (Dq _ (by decide)) (Dt _ (by decide));exact⟨_,U,_,_,U,U,(by show(0:Int)<5;decide),p,_,_,_,U,U,SqL.of ab,hv,_,_,U,U,a1,af b _,_,U⟩
  rintro a7 H2 ⟨J,pt,rfl⟩;refine⟨λd H3=>H3=H2/\d=[Kb (.int c),Kb (.int n),Kb (.int a),Kb (.ref l),Kb (.int (0+(i:Int))),Kb (.int pt),Kb (.int 1)],⟨U,U⟩,?_⟩;rintro a6 H3 ⟨rfl,rfl⟩;have t0:=Dq pt (show(50:Int)≠0 by decide);have t1:=Dt pt (show(0:Int)<50 by decide);have a9:(51:Int)<=10^56:=by decide
  refine⟨λd H4=>H4=H3/\∃m:Int,1<=m/\m<=10^56/\d=[Kb (.int c),Kb (.int n),Kb (.int a),Kb (.ref l),Kb (.int (0+(i:Int))),Kb (.int pt),Kb (.int m)],?_,?_⟩
  .refine⟨_,U,_,_,U,U,(by show(0:Int)<3;decide),U,_,U,?_⟩;exact bq (λ_=>⟨_,U,_,_,U,U,(by show(0:Int)<50;decide),_,_,U,U,U,_,by lia,by lia,U⟩) (λ_=>⟨U,1,Int.le_refl _,by lia,U⟩)
  rintro a5 H4 ⟨rfl,a0,D5,D6,rfl⟩;refine⟨λd H5=>H5=H4/\∃m:Int,1<=m/\m<=10^56/\d=[Kb (.int c),Kb (.int n),Kb (.int a),Kb (.ref l),Kb (.int (0+(i:Int))),Kb (.int pt),Kb (.int m)],?_,?_⟩
  .refine⟨_,U,_,_,U,U,(by show(0:Int)<3;decide),U,_,U,?_⟩;refine bq (λ_=>?_) (λ_=>⟨U,a0,D5,D6,U⟩);have u0:=Dq (c / (0+(i:Int)+4)) (Int.ne_of_gt (p10 (55:Int).toNat));have u1:=Dt (c / (0+(i:Int)+4)) (p10 (55:Int).toNat);have u2:(10:Int)^(55:Int).toNat+1<=10^56:=by decide
   exact⟨_,U,_,U,_,_,U,U,_,_,U,U,⟨by show 0<0+(i:Int)+4;lia,by show 0+(i:Int)+4<1073741824;lia⟩,_,_,U,U,⟨by decide,by decide,by decide⟩,_,_,U,U,p10 _,_,_,U,U,U,_,by lia,by lia,U⟩
  rintro a4 H5 ⟨rfl,m,b1,Gq,rfl⟩;have L:=J _ _ X;refine⟨_,U,_,U,_,_,U,U,_,U,.inl ⟨U,_,SqL.of L⟩,_,U,l,_,_,U,U,L,az (by rw[bx];lia),?_⟩;refine⟨(z.trans J).upd W,r++[a+m],a+m,_,_,_,?_,by simp[u],?_,λp b=>?_,λp b=>?_,U⟩
  .rw[ab,iv];rfl
  .rw[oT];refine⟨A3,rD _ _,λp b p' a2=>?_⟩;rw[show p'=a+m by simpa using a2];have:=t p b;lia
  .rcases gg.mp b with b|b
   .have:=t p b;lia
   .rw[show p=a+m by simpa using b];exact Int.le_refl _
  .rcases gg.mp b with b|b
   .have:=G p b;rw[Int.natCast_succ,Int.add_mul];lia
   .rw[show p=a+m by simpa using b];lia
 .obtain⟨z,r,a,c4,Z,O,X,u,A3,t,G,rfl⟩:=B;exact⟨_,U,q l r j z W X ⟨by lia,by lia,A3⟩ (λe=>Kk e g') (by lia) (λx T y S=>by have h1:=t y S;have h2:=G x T;have h3:((n.toNat:Nat):Int)*10^56<=12*10^56:=Int.mul_le_mul_of_nonneg_right (by lia) (by decide);lia)⟩
theorem D7(F:Fun K "_law_word" "_law_word" Y68 f fd) (bl:Bl K mg Y)  : aK P w K mg base CX0 1 f fd ["cell","k"] (dZ K Y):=by
 refine F.okA Z68 λy A d s H z Q E C h=>?_
 obtain⟨c,k,rfl,n,m,q⟩:=h
 refine⟨_,(aN (aI (i:=2) Z68.nd U (Or.inl U) (au jc (aF rW aQ (au aO (pv 0) ag) (λ_ _=>U)) (aF rW aQ (au aO (au bF (pv 0) ag) ag) (λ_ _=>U))))
  (aj (aI (i:=3) Z68.nd U (Or.inl U) (au aO (au bF (pv 0) ag) ag))
  (ai (aw (au jc (au jc (cq wm (pv 2) cY (cZ (pv 3))) (aF rW aQ (pv 1) (λ_ _=>U))) (cq wm (pv 2) (cZ (pv 3)) cY)))))),?_⟩
 have t:=Dq c (show(8:Int)≠0 by decide);have r:=Dt c (show(0:Int)<8 by decide);have p:=Dq (c / 8) (show(2:Int)≠0 by decide);have o:=Dt (c / 8) (show(0:Int)<2 by decide);have j:=Dq (c / 16) (show(3:Int)≠0 by decide);have g:=Dt (c / 16) (show(0:Int)<3 by decide);have a:∀x:Nat,(⟨#[x]⟩:Str).length=1:=λ_=>U
 refine⟨λb u=>u=H/\b=[Kb (.int c),Kb (.int k),Kb (.str ⟨#[113+(c%8).toNat,121+(c / 8%2).toNat]⟩),Kc],?_,?_⟩
 .refine⟨_,U,_,_,U,U,(by show(0:Int)<8;decide),_,_,_,U,U,(by decide),qx8 t r,_,U,_,_,U,U,⟨by decide,by decide⟩,_,_,U,U,(by show(0:Int)<2;decide),_,_,_,U,U,(by decide),yz2 p o,_,_,U,U,big (by rw[a,a];decide),U,U⟩
 rintro v D ⟨rfl,rfl⟩;refine⟨_,U,_,_,U,U,⟨by decide,by decide⟩,_,_,U,U,(by show(0:Int)<3;decide),?_⟩;have l:(⟨#[113+(c%8).toNat,121+(c / 8%2).toNat]⟩:Str).length=2:=rfl;refine⟨_,U,_,U,_,U,_,U,(by rw[l];decide),?_⟩;rw[B8 _ _ j g];refine⟨_,U,_,_,_,U,U,(by decide),yC Ca n m,_,_,U,U,big (by rw[a];simp[Str.length];lia),_,U,_,U,_,U,_,U,(by rw[l];decide),?_⟩;rw[B9 _ _ j g];have e:∀(A B:List Nat)(x:Nat),(⟨A.toArray⟩:Str)++(⟨#[x]⟩:Str)++(⟨B.toArray⟩:Str)=⟨(A++([x]++B)).toArray⟩:=λA B x=>by
  show Str.append (Str.append _ _) _=_;unfold Str.append;simp
 refine⟨_,_,U,U,big (by rw[len_app,a];simp[Str.length];lia),?_⟩;rw[e];exact q
theorem D8(F:Fun K "_law_outs" "_law_outs" Y59 f fd) (bl:Bl K mg Y)  : aK P w K mg base CX0 1 f fd ["cell"] (ib K Y):=by
 refine F.okA Z59 λO A r s H R Q E W h=>?_
 obtain⟨c,rfl,q⟩:=h
 refine⟨_,(aj (aM (aE br (au aO (pv 0) ag) ag (aH _))
  (ai (aw (aR (aa ag (aa ag (aa ag (aa ag (aa ag ae))))))))
  aC)
  (aN (aI (i:=1) Z59.nd U (Or.inr U) (au bK ag (au aO (au bF (pv 0) ag) ag)))
  (aN (aM (aE br (au aO (au bF (pv 0) ag) ag) ag (aH _))
  (ai (aI (i:=1) Z59.nd U (Or.inr U) (au bK ag (au aO (au bF (pv 0) ag) (au gM ag ag)))))
  aC)
  (aN (aI (i:=2) Z59.nd U (Or.inr U) (au fC (kL gN ag) (pv 1)))
  (aN (aM (aE br (au aO (au bF (pv 0) ag) ag) ag (aH _))
  (ai (aI (i:=2) Z59.nd U (Or.inr U) (au cx (au aO (pv 0) (au fC ag (au gM ag ag))) (au gM ag ag))))
  aC)
  (ai (aw (cM (aX U bl.range_ (aa ag ae)) (bD (N:=["k","gap","low"]) (fr:=[1,2]) (cl:=[("low",s.heap.objs.size+1+1),("gap",s.heap.objs.size+1)]) U U (by decide+kernel) (by decide+kernel) U (by decide+kernel) U U U (ij.mpr ⟨U,ij.mpr ⟨U,js _⟩⟩) U) U (λ_ _ _ _=>bz) (λ_ _ _ _=>(au bK (pv 2) (au fC (pv 0) (pv 1)))))))))))),?_⟩
 refine⟨_,U,_,_,U,U,(by show(0:Int)<3;decide),U,_,U,?_⟩;refine bq (λg=>?_) (λg=>?_)
 .exact⟨(by show 5<=GH;decide),λl t=>q l [0,1,2,3,4] _ (af t _) ab ⟨0,1,2,3,4,U,by decide,by decide,by decide,by decide,λ_=>⟨U,U⟩⟩⟩
 have u:c%3≠1:=iE g;have T:=Dq (c / 3) (show(3:Int)≠0 by decide);have S:=Dq (c / 18) (Int.ne_of_gt (p10 (56:Int).toNat));refine⟨λa d=>d=H/\a=[Kb (.int c),Kb (.int (1+c / 3%3)),Kc],⟨_,U,_,_,U,U,⟨by decide,by decide⟩,_,_,U,U,(by show(0:Int)<3;decide),_,_,U,U,U,U⟩,?_⟩;rintro I z ⟨rfl,rfl⟩;refine⟨λa d=>d=z/\∃b:Int,1<=b/\a=[Kb (.int c),Kb (.int b),Kc],?_,?_⟩
 .refine⟨_,U,_,_,U,U,⟨by decide,by decide⟩,_,_,U,U,(by show(0:Int)<2;decide),U,_,U,?_⟩;exact bq (λ_=>⟨_,U,_,_,U,U,⟨by decide,by decide⟩,_,_,U,U,⟨by decide,by decide,by decide⟩,_,_,U,U,p10 _,_,_,U,U,U,_,by lia,U⟩) (λ_=>⟨U,_,by lia,U⟩)
 rintro G y ⟨rfl,b,M,rfl⟩;refine⟨λa d=>d=y/\∃lo:Int,a=[Kb (.int c),Kb (.int b),Kb (.int lo)],⟨_,U,_,U,_,_,U,U,.inl ⟨by decide,by decide⟩,U,_,U⟩,?_⟩;rintro C x ⟨rfl,J,rfl⟩;refine⟨λa d=>d=x/\∃lo:Int,a=[Kb (.int c),Kb (.int b),Kb (.int lo)],?_,?_⟩
 .refine⟨_,U,_,_,U,U,⟨by decide,by decide⟩,_,_,U,U,(by show(0:Int)<4;decide),U,_,U,?_⟩;exact bq (λ_=>⟨_,U,_,_,U,U,⟨by decide,by decide,by decide⟩,_,_,U,U,.inl ⟨by decide,by decide⟩,_,_,U,U,Int.mul_pos (by decide) (p10 _),_,_,U,U,⟨by decide,by decide,by decide⟩,_,_,U,U,U,_,U⟩) (λ_=>⟨U,_,U⟩)
 rintro B v ⟨rfl,lo,rfl⟩;refine⟨_,U,(by decide),(by decide),cn (λD i k d=>ar v d/\d D=Kb (.lst k)/\k=((List.range i).map λj:Nat=>lo+(0+(j:Int))*b).map V.int) (λD m=>⟨af m _,ab,U⟩) (λD i k d m hi o=>?_) (λD k d m o=>?_)⟩
 .obtain⟨n,p,rfl⟩:=o;have L:i<5:=hi;refine⟨_,U,_,U,_,U,_,_,U,U,.inl ⟨by show -(2^64)<0+(i:Int);lia,by show 0+(i:Int)<2^64;lia⟩,_,_,U,U,cB.mk hi p (az (by simp;lia)) ⟨n.upd m,ab,?_⟩⟩;rw[kD,iv,iv];rfl
 .obtain⟨n,p,rfl⟩:=o;refine q D _ d n p ⟨_,_,_,_,_,U,?_,?_,?_,?_,λe=>Kk e u⟩
  .show lo+(0+0)*b<=lo+(0+1)*b;lia
  .show lo+(0+1)*b<=lo+(0+2)*b;lia
  .show lo+(0+2)*b<=lo+(0+3)*b;lia
  .show lo+(0+3)*b<=lo+(0+4)*b;lia
theorem Ea(F:Fun K "_law_way" "_law_way" Y66 f fd) (bl:Bl K mg Y)  : aK P w K mg base CX0 1 f fd ["cell","words"] (jl K Y):=by
 refine F.okA Z66 λn A m s H o Q E r h=>?_
 obtain⟨c,b,rfl,q⟩:=h
 refine⟨_,(aj (aM (df (pv 1))
  (ai (aw (aF aG (aR (aa aQ (aa aQ (aa aQ (aa aQ (aa aQ ae)))))) (au aO (pv 0) ag) (λ_ _=>U))))
  aC)
  (ai (aw (aF aG (aR (aa aQ (aa aQ (aa aQ (aa aQ (aa aQ (aa aQ ae))))))) (au aO (pv 0) ag) (λ_ _=>U))))),?_⟩
 refine⟨_,U,_,U,?_⟩;cases b with
 |true =>
  refine fO ⟨(by show 5<=GH;decide),λp j=>?_⟩;obtain⟨d,g,i,a,l⟩:=DD (k:=c%5) (Dq _ (by decide)) (Dt _ (by decide));exact⟨_,U,_,_,U,U,(by show(0:Int)<5;decide),p,_,_,_,U,U,SqL.of ab,i,q d g _ (af j _) a λ_=>l⟩
 |false =>
  refine ck ⟨(by show 6<=GH;decide),λp j=>?_⟩;obtain⟨d,g,i,a⟩:=DG (k:=c%6) (Dq _ (by decide)) (Dt _ (by decide));exact⟨_,U,_,_,U,U,(by show(0:Int)<6;decide),p,_,_,_,U,U,SqL.of ab,i,q d g _ (af j _) a λe=>by cases e⟩
theorem Eb(F:Fun K "_law_row" "_law_row" Y63 f fd) (bl:Bl K mg Y)  : aK P w K mg base CX0 1 f fd ["cell","points","outs"] (gB K Y):=by
 refine F.okA Z63 λc1 A a9 s H vs Q E hr h=>?_
 obtain⟨c,z,C,T,t,os,oc,rfl,O,M,h4,a3,a8,a6,q⟩:=h
 refine⟨_,(aj (aI (i:=3) Z63.nd U (Or.inl U) (aR ae))
  (aN (bg Hn.never U (aX U bl.range_ (aa (av ao U bl.len_ Ka (aa (pv 1) ae)) ae)) (aD (i:=4) Z63.nd U (Or.inl U))
  (aN (aI (i:=5) Z63.nd U (Or.inl U) (au cx (av ao U bl.len_ Ka (aa (aF aG (pv 1) (pv 4) (λ_ _=>U)) ae)) ag))
  (aN (aI (i:=6) Z63.nd U (Or.inl U) (au aO (au fC (pv 0) (aF aG (aR (aa ag (aa ag (aa ag (aa ag ae))))) (pv 4) (λ_ _=>U))) (aF aG (aR (aa ag (aa ag (aa ag (aa ag ae))))) (pv 4) (λ_ _=>U))))
  (ai (aM (aE br (au aO (pv 6) ag) ag (aH _))
  (ai (aV (eR PySem.F.plainAttrs_list PySem.F.slot_list_append PySem.F.type_list_append bh (pv 3) (aa (au cx (au ph ag (pv 5)) ag) ae))))
  (ai (aV (eR PySem.F.plainAttrs_list PySem.F.slot_list_append PySem.F.type_list_append bh (pv 3) (aa (au aO (au bF (pv 6) ag) (au ph ag (pv 5))) ae)))))))))
  (ai (aw (aY (aa (pv 3) (aa (aF aG (pv 2) (au aO (au aO (au fC (pv 0) ag) ag) ag) (λ_ _=>U)) ae))))))),?_⟩
 have b4:T.length=t.length:=M.1;refine⟨(by show 0<=GH;decide),λl hl=>?_⟩;have s0:ar H (upd H l (.lst ([].map V.int))):=af hl _;have e0:upd H l (.lst ([].map V.int)) l=Kb (.lst ([].map V.int)):=ab;have ee:upd H l (.lst [])=upd H l (.lst ([].map V.int)):=rfl;rw[ee];generalize upd H l (.lst ([].map V.int))=H0 at s0 e0⊢;clear ee;refine⟨λd B=>ar H B/\∃(a:List Int)(o n m:Option V),B l=Kb (.lst (a.map V.int))/\a.length=t.length/\(∀x∈a,0<=x)/\d=[Kb (.int c),Kb (.ref z),Kb (.ref C),Kb (.ref l),o,n,m],?_,?_⟩
 .refine⟨_,U,z,_,U,.inl (SqL.of (s0 _ _ O)),_,U,(by show -(2^62)<=((T.length:Nat):Int);lia),(by show((T.length:Nat):Int)<2^62;lia),cc (λi S B=>ar H B/\∃(a:List Int)(o n m:Option V),B l=Kb (.lst (a.map V.int))/\a.length=i/\(∀x∈a,0<=x)/\S=[Kb (.int c),Kb (.ref z),Kb (.ref C),Kb (.ref l),o,n,m]) ⟨s0,[],_,_,_,e0,U,(λx h=>by cases h),U⟩ (λi S B hi hh=>?_) (λS B hh=>?_)⟩
  .obtain⟨G,a,o,n,m,L,b,g,rfl⟩:=hh;have a7:i<t.length:=by lia
   have b6:i<4:=by lia
   obtain⟨j,N⟩:∃j,t[i]?=Kb j:=⟨_,Gy a7⟩;obtain⟨r,er,e⟩:=M.2 i j N;have hp:=a3 j (GB N);have h2:=hp.two;have c0:=hp.few;have a2:=G _ _ e;refine⟨λd H2=>H2=B/\d=[Kb (.int c),Kb (.ref z),Kb (.ref C),Kb (.ref l),Kb (.int (0+(i:Int))),Kb (.int ((j.length:Int)-1)),m],?_,?_⟩
   .refine⟨_,U,_,U,z,_,_,_,U,U,SqL.of (G _ _ O),nQ er,r,_,U,.inl (SqL.of a2),_,_,U,U,U,?_⟩;rw[bx];rfl
   rintro b3 H2 ⟨rfl,rfl⟩;have k4:(0:Int)<=0+(i:Int)/\0+(i:Int)<4:=by lia
   refine⟨λd R=>ar H2 R/\∃mx:Int,d=[Kb (.int c),Kb (.ref z),Kb (.ref C),Kb (.ref l),Kb (.int (0+(i:Int))),Kb (.int ((j.length:Int)-1)),Kb (.int mx)],?_,?_⟩
   .refine⟨_,U,(by show 4<=GH;decide),λp a4=>?_⟩;have u1:=af a4 (.lst [.int 48271,.int 69621,.int 16807,.int 39373]);obtain⟨v,J,b5,a0⟩:∃v:Int,atI [V.int 48271,.int 69621,.int 16807,.int 39373] (0+(i:Int))=Kb (.int v)/\0<v/\v<2^64:=by
     generalize 0+(i:Int)=k at k4⊢;have:k=0\/k=1\/k=2\/k=3:=by lia
     rcases this with rfl|rfl|rfl|rfl
     .exact⟨_,U,by decide,by decide⟩
     .exact⟨_,U,by decide,by decide⟩
     .exact⟨_,U,by decide,by decide⟩
     .exact⟨_,U,by decide,by decide⟩
    obtain⟨v',a1,Ec⟩:∃v:Int,atI [V.int 1000003,.int 1000033,.int 1000037,.int 1000039] (0+(i:Int))=Kb (.int v)/\0<v:=by
     generalize 0+(i:Int)=k at k4⊢;have:k=0\/k=1\/k=2\/k=3:=by lia
     rcases this with rfl|rfl|rfl|rfl
     .exact⟨_,U,by decide⟩
     .exact⟨_,U,by decide⟩
     .exact⟨_,U,by decide⟩
     .exact⟨_,U,by decide⟩
    refine⟨_,U,p,_,_,_,U,U,SqL.of ab,J,_,_,U,U,.inr ⟨by lia,a0⟩,(by show 4<=GH;decide),λp2 a5=>?_⟩;exact⟨_,U,p2,_,_,_,U,U,SqL.of ab,a1,_,_,U,U,Ec,u1.trans (af a5 _),_,U⟩
   rintro b1 R ⟨s3,mx,rfl⟩;have y:=s3 _ _ L;have u:(0:Int)<=(j.length:Int)-1/\(j.length:Int)-1<=1000000:=by lia
   have pw:(0:Int)<1*2^((j.length:Int)-1).toNat:=by
    rw[Int.one_mul];exact DK (by decide)
   have put:∀v:Int,0<=v->ar H (upd R l (.lst (a.map V.int++[.int v])))/\∃(D:List Int)(o n m:Option V),upd R l (.lst (a.map V.int++[.int v])) l=Kb (.lst (D.map V.int))/\D.length=i+1/\(∀x∈D,0<=x)/\([Kb (.int c),Kb (.ref z),Kb (.ref C),Kb (.ref l),Kb (.int (0+(i:Int))),Kb (.int ((j.length:Int)-1)),Kb (.int mx)]:St)=[Kb (.int c),Kb (.ref z),Kb (.ref C),Kb (.ref l),o,n,m]:=λv J =>
    ⟨(G.trans s3).upd hl,a++[v],_,_,_,by rw[ab,iv];rfl,by simp[b],(λx I=>by rcases gg.mp I with I|I;exact g x I;rw[hZ.mp I];exact J),U⟩
   refine⟨_,U,_,_,U,U,(by show(0:Int)<5;decide),U,_,U,?_⟩;refine bq (λ_=>?_) (λ_=>?_)
   .exact⟨_,U,.inl ⟨U,_,SqL.of y⟩,_,U,_,_,U,U,⟨u.1,u.2,by decide⟩,_,_,U,U,l,_,_,U,U,y,az (by rw[bx];lia),put _ (Int.le_sub_one_of_lt pw)⟩
   .exact⟨_,U,.inl ⟨U,_,SqL.of y⟩,_,U,_,_,U,U,⟨by decide,by decide⟩,_,U,_,_,U,U,⟨u.1,u.2,by decide⟩,_,_,U,U,pw,l,_,_,U,U,y,az (by rw[bx];lia),put _ (Dq _ (Int.ne_of_gt pw))⟩
  .obtain⟨G,a,o,n,m,L,b,g,rfl⟩:=hh;exact⟨G,a,o,n,m,L,by lia,g,U⟩
 rintro b0 H9 ⟨s9,a,o,n,m,L,b,g,rfl⟩;obtain⟨x0,x1,Z,X,W,rfl,_⟩:=a6;obtain⟨v,J,hm⟩:∃v:Int,atI ([x0,x1,Z,X,W].map V.int) (c*40014%1000081%5)=Kb (.int v)/\v∈[x0,x1,Z,X,W]:=by
  have h0:=Dq (c*40014%1000081) (show(5:Int)≠0 by decide);have h1:=Dt (c*40014%1000081) (show(0:Int)<5 by decide);generalize c*40014%1000081%5=k at h0 h1⊢;have:k=0\/k=1\/k=2\/k=3\/k=4:=by lia
  rcases this with rfl|rfl|rfl|rfl|rfl
  .exact⟨x0,U,by simp⟩
  .exact⟨x1,U,by simp⟩
  .exact⟨Z,U,by simp⟩
  .exact⟨X,U,by simp⟩
  .exact⟨W,U,by simp⟩
 refine⟨_,U,_,U,_,U,_,_,U,U,.inr ⟨by decide,by decide⟩,_,_,U,U,(by show(0:Int)<1000081;decide),_,_,U,U,(by show(0:Int)<5;decide),C,_,_,_,U,U,SqL.of (s9 _ _ a8),J,bu,λr e=>?_⟩;exact q r l a v _ (s9.trans (af e _)) (s9.free e) hl ab (cF L e) b g hm
theorem Ed(F:Fun K "_law_spans" "_law_spans" Y64 f fd) (bl:Bl K mg Y)  : aK P w K mg base CX0 1 f fd ["points","bits"] (gC K Y):=by
 refine F.okA Z64 λb3 A b0 s H vs Q E hr h=>?_
 obtain⟨l,j,m,rfl,el,L,a6,q⟩:=h
 refine⟨_,(aj (aI (i:=2) Z64.nd U (Or.inl U) (aR ae))
  (aj (bg Hn.never U (aX U bl.range_ (aa (au cx (av ao U bl.len_ Ka (aa (pv 0) ae)) ag) ae)) (aD (i:=3) Z64.nd U (Or.inl U))
  (ai (aM (aE br (au rO (au rN (pv 1) (pv 3)) ag) ag (aH _))
  (ai (aM (PW.pt (i6 (aE kM (av ao U bl.len_ Ka (aa (pv 2) ae)) ag (aH _)) (gm (aE br (aF bc (aF aG (pv 2) (kL gN ag) (λ_ _=>U)) ag (λ_ _=>U)) (au cx (aF aG (pv 0) (pv 3) (λ_ _=>U)) ag) (aH _)))))
  (ai (lN (aY (aa (aF bc (aF aG (pv 2) (kL gN ag) (λ_ _=>U)) ag (λ_ _=>U)) (aa (au cx (aF aG (pv 0) (au bK (pv 3) ag) (λ_ _=>U)) ag) ae))) (lM (pv 2) (kL gN ag) set_list)))
  (ai (aV (eR PySem.F.plainAttrs_list PySem.F.slot_list_append PySem.F.type_list_append bh (pv 2) (aa (aY (aa (aF aG (pv 0) (pv 3) (λ_ _=>U)) (aa (au cx (aF aG (pv 0) (au bK (pv 3) ag) (λ_ _=>U)) ag) ae))) ae))))))
  aC)))
  (ai (aw (pv 2))))),?_⟩
 have h2:=L.two;have b1:=L.few;refine⟨(by show 0<=GH;decide),λb B=>?_⟩;have s0:ar H (upd H b (.lst [])):=af B _;have e0:upd H b (.lst []) b=Kb (.lst []):=ab;generalize upd H b (.lst [])=H0 at s0 e0⊢;have C:(j.map V.int).length=j.length:=bx _;refine⟨_,U,l,_,U,.inl (SqL.of (s0 _ _ el)),_,_,U,U,_,U,(by rw[C];lia),(by rw[C];lia),cc (λi σ k=>ar H k/\∃(d:List V)(u:Prs)(c3:Option V),k b=Kb (.lst d)/\PL k d u/\d.length<=i/\(∀p∈u,loP j<=p.1/\p.2<=hiP j)/\SpG j m i u/\σ=[Kb (.ref l),Kb (.int m),Kb (.ref b),c3]) ⟨s0,[],[],_,e0,.nil,yr _,(λp h=>by cases h),SpG.nil,U⟩ (λi σ k hi hh=>?_) (λσ k hh=>?_)⟩
 .obtain⟨N,d,u,c3,v,O,W,e,o,rfl⟩:=hh;rw[C]at hi;have a8:i+1<j.length:=by lia
  obtain⟨G,g⟩:∃x,j[i]?=Kb x:=⟨_,Gy (by lia)⟩;obtain⟨y,n⟩:∃x,j[i+1]?=Kb x:=⟨_,Gy a8⟩;have a4:=L.lo g;have X:=L.hi n;have T:atI (j.map V.int) (0+(i:Int))=Kb (.int G):=nQ (get_map g);have S:atI (j.map V.int) (0+(i:Int)+1)=Kb (.int y):=by
   have:=nQ (get_map n);rw[show(0:Int)+((i+1:Nat):Int)=0+(i:Int)+1 by lia]at this;exact this
  have D:=N _ _ el;refine⟨_,U,_,U,_,_,U,U,(by show(0:Int)<=0+(i:Int);lia),_,_,U,U,U,_,U,?_⟩;have Z:=xF a6 i;refine bq (λg0=>?_) (λg0=>⟨N,d,u,_,v,O,by lia,e,o.skip L g n (by rw[←Z];exact BJ.mpr g0),U⟩);have gb:bQ m i=true:=by rw[←Z];exact g0
  refine⟨_,U,b,_,U,.inl (SqL.of v),_,_,U,U,_,U,?_⟩;refine bq (λg1=>?_) (λg1=>ck ?e1);have a2:(0:Int)<((d.length:Nat):Int):=iY g1;obtain⟨M,r,a3,p,ey,eq,a9,er⟩:=O.last (by intro z;rw[z]at a2;simp at a2);have il:atI d (-1)=Kb (.ref r):=by rw[ey];exact jR _ _
  refine⟨_,U,_,U,b,_,_,_,U,U,SqL.of v,il,r,_,_,_,U,U,SqT.of er,z1 _ _,_,U,_,U,l,_,_,_,U,U,SqL.of D,T,_,_,U,U,U,_,U,?_⟩;refine bq (λg2=>?_) (λg2=>?e2);have a7:p.2=G-1:=by have z:=Kn g2;injection z
  subst ey eq;refine⟨_,U,_,U,b,_,_,_,U,U,SqL.of v,jR _ _,r,_,_,_,U,U,SqT.of er,z0 _ _,_,U,_,U,_,_,U,U,l,_,_,_,U,U,SqL.of D,S,_,_,U,U,bu,λt J=>?_⟩;have I:upd k t (.tup [.int p.1,.int (y-1)]) b=Kb (.lst (M++[.ref r])):=cF v J;refine⟨_,U,_,U,b,_,_,_,U,U,I,mz (by simp),?_⟩;rw[qU];have st:bM k (upd (upd k t (.tup [.int p.1,.int (y-1)])) b (.lst (M++[.ref t]))):=(iD J).trans (aP I);refine⟨(N.trans (af J _)).upd B,M++[.ref t],a3++[(p.1,y-1)],_,ab,(a9.mono st).snoc (aP I _ _ ab),?_,λR a=>?_,o.join L g n gb a7,U⟩
  .rw[cK,hQ]at W⊢;lia
  .rcases gg.mp a with a|a
   .exact e R (kC _ a)
   .rw[show R=(p.1,y-1) by simpa using a];exact⟨(e p (by simp)).1,X⟩
  all_goals
   have a5:∀p∈u,p.2≠G-1:=by
    first
    |exact λp_ c z=>(gg.mp (show p_∈_++[p] by rw[←eq];exact c)).elim (λc=>by rw[eq]at o;have h1:=(oT.mp o.pw).2.2 p_ c p (hZ.mpr U);have h2:=o.le p (jr _ (hZ.mpr U));have h3:=o.bel G g p (jr _ (hZ.mpr U));lia) λc=>by rw[hZ.mp c]at z;exact g2 (Kl (by rw[z]))
    |exact λp_ c=>Kk (show 0<d.length by rw[O.length];exact List.length_pos_of_mem c) λz=>g1 (Kl (by lia))
   refine⟨_,U,.inl ⟨U,_,SqL.of v⟩,_,U,_,U,l,_,_,_,U,U,SqL.of D,T,_,U,_,U,_,_,U,U,l,_,_,_,U,U,SqL.of D,S,_,_,U,U,bu,λt J=>?_⟩;have I:upd k t (.tup [.int G,.int (y-1)]) b=Kb (.lst d):=cF v J;refine⟨b,_,_,U,U,I,az (by lia),?_⟩;have st:bM k (upd (upd k t (.tup [.int G,.int (y-1)])) b (.lst (d++[.ref t]))):=(iD J).trans (aP I);refine⟨(N.trans (af J _)).upd B,d++[.ref t],u++[(G,y-1)],_,ab,(O.mono st).snoc (aP I _ _ ab),by rw[cK,hQ];lia,λR a=>?_,o.put L g n gb a5,U⟩;rcases gg.mp a with a|a
   .exact e R a
   .rw[show R=(G,y-1) by simpa using a];exact⟨a4,X⟩
 .obtain⟨N,d,u,c3,v,O,W,e,o,rfl⟩:=hh;rw[show(((j.map V.int).length:Int)-1).toNat=j.length-1 by rw[C];lia]at o;exact⟨_,U,q b u k N ⟨B,d,v,O⟩ e o⟩
theorem Ee(F:Fun K "_law_places" "_law_places" Y60 f fd) (bl:Bl K mg Y)  : aK P w K mg base CX0 1 f fd ["points"] (fI K Y):=by
 refine F.okA Z60 λd5 A c9 s H vs Q E hr h=>?_
 obtain⟨cl,xs,m,rfl,a5,a4,hok,h4,q⟩:=h
 refine⟨_,(aj (aI (i:=1) Z60.nd U (Or.inl U) (aR (aa (aR ae) ae)))
  (aj (bg Hn.never U (aW (pv 0)) (aD (i:=2) Z60.nd U (Or.inl U))
  (aj (aI (i:=3) Z60.nd U (Or.inl U) (aR ae))
  (aN (bg Hn.never U (aW (pv 1)) (aD (i:=4) Z60.nd U (Or.inl U))
  (ai (bg Hn.never U (aX U bl.range_ (aa (au cx (av ao U bl.len_ Ka (aa (pv 2) ae)) ag) ae)) (aD (i:=5) Z60.nd U (Or.inl U))
  (ai (aV (eR PySem.F.plainAttrs_list PySem.F.slot_list_append PySem.F.type_list_append bh (pv 3) (aa (au dz (pv 4) (aR (aa (pv 5) ae))) ae)))))))
  (ai (aI (i:=1) Z60.nd U (Or.inl U) (pv 3))))))
  (ai (aw (pv 1))))),?_⟩
 have b5:xs.length=m.length:=a4.1;refine⟨(by show 0<=GH;decide),λn c6=>?_⟩;have s0:=af c6 (.lst (vN []));have e0:upd H n (.lst (vN [])) n=Kb (.lst (vN [])):=ab;have ee:upd H n (.lst [])=upd H n (.lst (vN [])):=rfl;rw[ee];clear ee;generalize upd H n (.lst (vN []))=H0 at s0 e0⊢;refine⟨(by show 1<=GH;decide),λp0 a3=>?_⟩;have s1:=s0.trans (af a3 (.lst [.ref n]));have e1:upd H0 p0 (.lst [.ref n]) p0=Kb (.lst [.ref n]):=ab;have a8:=af a3 (.lst [.ref n]) _ _ e0;generalize upd H0 p0 (.lst [.ref n])=H1 at s1 e1 a8⊢;have b1:PtL NT H1 [.ref n] [[]]:=⟨U,λj p e=>by
  match j,e with
  |0,e=>cases e;exact⟨n,U,trivial,a8⟩
  |j+1,e=>simp at e⟩
 refine⟨_,U,cl,U,⟨_,SqL.of (s1 _ _ a5)⟩,bJ (xs:=xs) (λi g o=>ar H o/\∃(G:GD)(D:List V)(c2 c3 I t:Option V),o G=Kb (.lst D)/\PtL NT o D (cX ((gls m).take i))/\D.length<=12^i/\g=[Kb (.ref cl),Kb (.ref G),c2,c3,I,t]) ⟨s1,p0,_,_,_,_,_,e1,b1,by show 1<=12^0;decide,U⟩ (λi g o _ h=>SqL.of (h.1 _ _ a5)) (λi y g o ey hh=>?_) (λg o hh=>?_)⟩
 .obtain⟨sm,G,D,c2,c3,I,t,J,l,a2,rfl⟩:=hh;obtain⟨lc,c,rfl,ec,g1⟩:=ax.get a4 ey;have g1:=sm _ _ g1;have hi:i<m.length:=(Gz.mp ec).1;have ok:=hok c (GB ec);have k6:c.length-1<=12:=by have:=ok.few;lia
  have d4:=ok.two;have Gr:=ok.few;have Ef:12^i<=1728:=by
   have:i<=3:=by lia
   exact yW (Nat.pow_le_pow_right (by decide) this) (by decide)
  refine⟨(by show 0<=GH;decide),λM hM=>?_⟩;have u1:=af hM (.lst []);have eM:upd o M (.lst []) M=Kb (.lst []):=ab;generalize upd o M (.lst [])=H2 at u1 eM⊢;have Cq:D.length=(cX ((gls m).take i)).length:=l.1;refine⟨λb0 u=>ar o u/\∃(d:List V)(I t:Option V),u M=Kb (.lst d)/\PtL (· ≠ M) u d (grow (cX ((gls m).take i)) (c.length-1))/\b0=[Kb (.ref cl),Kb (.ref G),Kb (.ref lc),Kb (.ref M),I,t],?_,?_⟩
  .refine⟨_,U,G,U,⟨_,SqL.of (u1 _ _ J)⟩,bJ (xs:=D) (λa g u=>ar o u/\∃(d:List V)(I t:Option V),u M=Kb (.lst d)/\PtL (· ≠ M) u d (grow ((cX ((gls m).take i)).take a) (c.length-1))/\g=[Kb (.ref cl),Kb (.ref G),Kb (.ref lc),Kb (.ref M),I,t]) ⟨u1,[],_,_,eM,ax.nil,U⟩ (λa g u _ h=>SqL.of (h.1 _ _ J)) (λa y g u T h3=>?_) (λg u h3=>?_)⟩
   .obtain⟨N,d,I,t,B,O,rfl⟩:=h3;obtain⟨r,p,rfl,ep,_,d1⟩:=ax.get (l.same N) T;have ha:a<D.length:=(Gz.mp T).1;refine⟨_,U,lc,_,U,.inl (SqL.of (N _ _ g1)),_,_,U,U,_,U,(by rw[bx];lia),(by rw[bx];lia),cc (λb g C=>ar o C/\∃(d:List V)(t:Option V),C M=Kb (.lst d)/\PtL (· ≠ M) C d (grow ((cX ((gls m).take i)).take a) (c.length-1)++(List.range b).map λk=>p++[k])/\g=[Kb (.ref cl),Kb (.ref G),Kb (.ref lc),Kb (.ref M),Kb (.ref r),t]) ⟨N,d,_,B,by simpa using O,U⟩ (λb g C hb S=>?_) (λg C S=>?_)⟩
    .obtain⟨t4,v,a9,L,x,rfl⟩:=S;have b6:C r=Kb (.lst (vN p)):=by
      obtain⟨r',p',c7,a6,_,c0⟩:=ax.get l T;cases c7;rw[ep]at a6;cases a6;exact t4 _ _ c0
     have d3:b<(c.length-1):=by rw[bx]at hb;lia
     have b3:v.length<=30000:=by
      have h1:=x.1;rw[cK,mK,ik,bx,lz]at h1;have h2:min a (cX ((gls m).take i)).length*(c.length-1)<=1728*12:=Am (by lia) k6;lia
     have d2:p.length<=4:=by
      have:=(nW.iff.mp (GB ep)).1;rw[ik]at this;unfold gls at this;rw[bx]at this;lia
     refine⟨_,U,.inl ⟨U,_,SqL.of L⟩,_,U,_,U,(by show 1<=GH;decide),λX c1=>?_⟩;have Z:=af c1 (.lst (vN [b]));have f1:upd C X (.lst (vN [b])) X=Kb (.lst (vN [b])):=ab;have ee:upd C X (.lst [V.int (0+(b:Int))])=upd C X (.lst (vN [b])):=by rw[Dv];rfl
     rw[ee];clear ee;generalize upd C X (.lst (vN [b]))=H5 at Z f1⊢;refine⟨r,X,_,_,U,U,Z _ _ b6,f1,zf (az (by rw[eA,eA];simp;lia)),λW R=>?_⟩;rw[xG];have v2:=af R (.lst (vN (p++[b])));have f2:upd H5 W (.lst (vN (p++[b]))) W=Kb (.lst (vN (p++[b]))):=ab;have a7:=Z _ _ L;have nk:W≠M:=λz=>by rw[z,a7]at R;cases R
     generalize upd H5 W (.lst (vN (p++[b])))=H6 at v2 f2⊢;have c8:=v2 _ _ a7;refine⟨M,_,_,U,U,c8,(zY b3 (by decide)),?_⟩;have b4:PtL (· ≠ M) H6 (v++[.ref W]) (grow ((cX ((gls m).take i)).take a) (c.length-1)++((List.range b).map λk=>p++[k])++[p++[b]]):=ax.snoc (x.same (Z.trans v2)) ⟨nk,f2⟩;refine⟨((t4.trans Z).trans v2).upd hM,v++[.ref W],_,ab,?_,U⟩;rw[kD,iv,List.map_singleton,←mv];exact b4.updN (λz=>z U)
    .obtain⟨t4,v,a9,L,x,rfl⟩:=S;refine⟨t4,v,_,_,L,?_,U⟩;rw[vw ep];rw[show(((c.map V.int).length:Int)-1).toNat=c.length-1 by rw[bx];lia]at x;exact x
   .obtain⟨N,d,I,t,B,O,rfl⟩:=h3;rw[Cq,ip]at O;exact⟨N,d,_,_,B,O,U⟩
  rintro d0 u ⟨N,d,d7,a9,B,O,rfl⟩;have el:(gls m)[i]?=Kb (c.length-1):=by unfold gls;rw[gI,ec];rfl
  have a1:=O.1;rw[mK]at a1;refine⟨_,U,sm.trans N,M,d,_,_,_,_,B,?_,?_,U⟩
  .rw[take_snoc el,jj];exact O.any
  .rw[a1,←Cq,A8];exact Am a2 k6
 .obtain⟨sm,G,D,c2,c3,I,t,J,l,a2,rfl⟩:=hh;have:(gls m).length=m.length:=by unfold gls;rw[bx]
  rw[b5,←this,ip]at l;exact⟨_,U,q G D o sm J l⟩
theorem Eg(F:Fun K "_law_fitting" "_law_fitting" Y54 f fd) (bl:Bl K mg Y)  : aK P w K mg base CX0 1 f fd ["rows","at"] (eY K Y):=by
 refine F.okA Z54 λa9 A a4 s H vs Q E hr h=>?_
 obtain⟨C,D,I,c,a,rfl,z,hR,a8,B,a7,hb,q⟩:=h
 refine⟨_,(aj (aI (i:=2) Z54.nd U (Or.inl U) (aR ae))
  (aj (bg Hn.never U (aX U bl.range_ (aa (av ao U bl.len_ Ka (aa (pv 0) ae)) ae)) (aD (i:=3) Z54.nd U (Or.inl U))
  (aj (aI (i:=4) Z54.nd U (Or.inl U) eO)
  (aj (bg Hn.never U (aX U bl.range_ (aa (av ao U bl.len_ Ka (aa (pv 1) ae)) ae)) (aD (i:=5) Z54.nd U (Or.inl U))
  (ai (aM (aE br (au rO (au rN (aF aG (aF bc (aF aG (pv 0) (pv 3) (λ_ _=>U)) ag (λ_ _=>U)) (pv 5) (λ_ _=>U)) (aF aG (pv 1) (pv 5) (λ_ _=>U))) ag) ag (aH _))
  (ai (aI (i:=4) Z54.nd U (Or.inl U) eO))
  aC)))
  (ai (aM (df (pv 4))
  (ai (aV (eR PySem.F.plainAttrs_list PySem.F.slot_list_append PySem.F.type_list_append bh (pv 2) (aa (pv 3) ae))))
  aC)))))
  (ai (aw (pv 2))))),?_⟩
 have T:I.length=c.length:=hR.1;refine⟨(by show 0<=GH;decide),λe t=>?_⟩;have G:=af t (.lst (vN []));have e0:upd H e (.lst (vN [])) e=Kb (.lst (vN [])):=ab;have ee:upd H e (.lst [])=upd H e (.lst (vN [])):=rfl;rw[ee];clear ee;generalize upd H e (.lst (vN []))=H0 at G e0⊢;refine⟨_,U,C,_,U,.inl (SqL.of (G _ _ z)),_,U,(by show -(2^62)<=((I.length:Nat):Int);lia),(by show((I.length:Nat):Int)<2^62;lia),cc (λi o v=>ar H v/\∃(R O x:Option V),v e=Kb (.lst (vN ((List.range i).filter λk=>mL a (c.getD k ([],0)))))/\o=[Kb (.ref C),Kb (.ref D),Kb (.ref e),R,O,x]) ⟨G,_,_,_,e0,U⟩ (λi o v hi J=>?_) (λo v J=>?_)⟩
 .obtain⟨l,R,O,x,d,rfl⟩:=J;have Z:i<c.length:=by lia
  obtain⟨b,N⟩:∃b,c[i]?=Kb b:=⟨_,Gy Z⟩;have a0:c.getD i ([],0)=b:=by rw[dF,N];rfl
  obtain⟨r,er,a3,g1,g2⟩:=hR.2 i b N;obtain⟨a6,a1⟩:=hb b (GB N);have a5:((List.range i).filter λk=>mL a (c.getD k ([],0))).length<=i:=yW (lI _ _) (by rw[lz];exact yr _);have n:((List.range (i+1)).filter λk=>mL a (c.getD k ([],0)))=((List.range i).filter λk=>mL a (c.getD k ([],0)))++(if mL a b=Kd then[i] else[]):=by
   rw[kD,nq,List.filter_cons,a0];rfl
  refine⟨_,U,D,_,U,.inl (SqL.of (l _ _ B)),_,U,(by rw[eA];lia),(by rw[eA];lia),cc (λj o S=>S=v/\∃x:Option V,o=[Kb (.ref C),Kb (.ref D),Kb (.ref e),Kb (.int (0+(i:Int))),Kb (.bl ((List.range j).all λj=>bQ (b.1.getD j 0) (a.getD j 0))),x]) ⟨U,_,U⟩ (λj o S hj L=>?_) (λo S L=>?_)⟩
  .obtain⟨rfl,a2,rfl⟩:=L;rw[eA]at hj;have X:j<a.length:=by lia
   obtain⟨m,M⟩:∃m,b.1[j]?=Kb m:=⟨_,Gy (by lia)⟩;obtain⟨p,ep⟩:∃p,a[j]?=Kb p:=⟨_,Gy X⟩;have W:=a1 m (GB M);have e1:b.1.getD j 0=m:=by rw[dF,M];rfl
   have e2:a.getD j 0=p:=by rw[dF,ep];rfl
   have u:=mM (λj=>bQ (b.1.getD j 0) (a.getD j 0)) j;rw[e1,e2]at u;refine⟨_,U,_,U,C,_,_,_,U,U,SqL.of (l _ _ z),nQ er,r,_,_,_,U,U,SqT.of (l _ _ g1),U,_,U,a3,_,_,_,U,U,SqL.of (l _ _ g2),nQ (get_map M),_,U,_,U,D,_,_,_,U,U,SqL.of (l _ _ B),nQ (zK ep),_,_,U,U,(by show(0:Int)<=(p:Int);lia),_,_,U,U,U,_,U,?_⟩;have y:=yM W p;refine bq (λg=>?_) (λg=>?_)
   .refine⟨U,Kb (.int (0+(j:Int))),?_⟩;have:bQ m p=false:=by rw[y]at g;simpa using g
    rw[u,this,Bool.and_false];rfl
   .refine⟨U,Kb (.int (0+(j:Int))),?_⟩;have:bQ m p=true:=by rw[y]at g;simpa using g
    rw[u,this,Bool.and_true];rfl
  .obtain⟨rfl,a2,rfl⟩:=L;have hg:((List.range (((vN a).length:Nat):Int).toNat).all λj=>bQ (b.1.getD j 0) (a.getD j 0))=mL a b:=by rw[eA,DJ];rfl
   rw[hg];refine⟨_,U,_,U,?_⟩;refine bq (λg=>?_) (λg=>?_)
   .rw[Kj g]at n;refine⟨_,U,.inl ⟨U,_,SqL.of d⟩,_,U,e,_,_,U,U,d,az (by rw[eA];lia),?_⟩;refine⟨l.upd t,_,_,_,?_,U⟩;rw[ab,n,←xG,Dv];rfl
   .rw[Ki g,jv]at n;exact⟨l,_,_,_,by rw[n];exact d,U⟩
 .obtain⟨l,R,O,x,d,rfl⟩:=J;rw[DJ,T]at d;exact⟨_,U,q e v l t d⟩
theorem Eh(F:Fun K "_law_due" "_law_due" Y53 f fd) (bl:Bl K mg Y)  : aK P w K mg base CX0 1 f fd ["codes","way","outs"] (jm K Y):=by
 refine F.okA Z53 λS A B s H vs Q E hr h=>?_
 obtain⟨d,C,Z,i,x,os,oc,rfl,a,k,y,u,⟨v,X,W,T,o,rfl,R,O,N,M,_⟩,q⟩:=h
 refine⟨_,(aj (aM (aE br (av ao U bl.len_ Ka (aa (pv 0) ae)) ag (aH _))
  (ai (aw (aY (aa aQ (aa ag ae)))))
  aC)
  (aj (aM (aE br (pv 1) aQ (aH _))
  (ai (aw (aY (aa aQ (aa (av (fF U) U bl.min_ PyProof.Rows.boot_min (aa (pv 0) ae)) ae)))))
  aC)
  (aj (aM (aE br (pv 1) aQ (aH _))
  (ai (aw (aY (aa aQ (aa (av (fG U) U bl.max_ PyProof.Rows.boot_max (aa (pv 0) ae)) ae)))))
  aC)
  (aj (aM (aE br (pv 1) aQ (aH _))
  (ai (aw (aY (aa aQ (aa (av (oo U) U bl.max_ PyProof.Rows.boot_max (aa (aF aG (pv 2) ag (λ_ _=>U)) (aa (av (kl U) U bl.min_ PyProof.Rows.boot_min (aa (aF aG (pv 2) ag (λ_ _=>U)) (aa (av (fD U) U bl.sum_ PyProof.Rows.boot_sum (aa (pv 0) ae)) ae))) ae))) ae)))))
  aC)
  (aj (aM (PW.pt (i6 (aE br (pv 1) aQ (aH _)) (gm (aE kM (av ao U bl.len_ Ka (aa (pv 0) ae)) ag (aH _)))))
  (ai (aw (aY (aa aQ (aa ag ae)))))
  aC)
  (aj (aM (PW.pt (i6 (aE br (pv 1) aQ (aH _)) (gm (aE om (av (fF U) U bl.min_ PyProof.Rows.boot_min (aa (pv 0) ae)) (av (fG U) U bl.max_ PyProof.Rows.boot_max (aa (pv 0) ae)) (aH _)))))
  (ai (aw (aY (aa aQ (aa ag ae)))))
  aC)
  (ai (aw (aY (aa aQ (aa (aF aG (pv 0) ag (λ_ _=>U)) ae))))))))))),?_⟩
 have c:(x.map V.int).length=x.length:=bx _;refine⟨_,U,d,_,U,.inl (SqL.of a),U,_,U,?_⟩
 match x,a,k,q,c with
 | [],a,k,q,c =>
  exact bq (λ_=>⟨bu,λt b=>q t _ (af b _) (by rw[ab];rfl)⟩) (λg=>Kk (by exact Kl U) g)
 |n :: ns,a,k,q,c =>
 refine bq (λg=>Kk (Kn g) (by rw[c,iK];intro z;injection z with z;lia)) (λ_=>?_)
 match i,y with
 |0,e =>
  cases e;refine⟨_,U,U,_,U,cm (by intro e;injection e with e;exact Kk e (by decide)) ?_⟩;refine⟨_,U,U,_,U,cm (by intro e;injection e with e;exact Kk e (by decide)) ?_⟩;refine⟨_,U,U,_,U,cm (by intro e;injection e with e;exact Kk e (by decide)) ?_⟩;refine⟨_,U,U,_,U,cm (by intro e;injection e with e;exact Kk e (by decide)) (ck ?_)⟩;refine⟨_,U,U,_,U,cm (by intro e;injection e with e;exact Kk e (by decide)) (ck ?_)⟩;exact⟨_,U,d,_,_,_,U,U,SqL.of a,at0 n ns,bu,λt b=>q t _ (af b _) (by rw[ab];show _=Kb (HO.tup (tp (xf (n :: ns))));rfl)⟩
 |1,e =>
  cases e;refine⟨_,U,U,_,U,cm (by intro e;injection e with e;exact Kk e (by decide)) ?_⟩;refine⟨_,U,U,_,U,cm (by intro e;injection e with e;exact Kk e (by decide)) ?_⟩;refine⟨_,U,U,_,U,cm (by intro e;injection e with e;exact Kk e (by decide)) ?_⟩;refine⟨_,U,U,_,U,fu U ?_⟩;refine⟨_,U,d,_,U,.inl (SqL.of a),_,_,U,U,_,U,?_⟩;refine bq (λg=>?_) (λg=>?_)
  .have j:(n :: ns).length≠1:=λz=>by rw[c,z]at g;exact Kk (Kn g) (by decide)
   refine⟨bu,λt b=>q t _ (af b _) (by rw[ab];show _=Kb (HO.tup (tp (jZ (n :: ns))));unfold jZ;rw[Ki j];rfl)⟩
  .have j:(n :: ns).length=1:=by
    have:¬ ((1:Int)<((((n :: ns).map V.int).length:Nat):Int)):=λz=>g (Kl z)
    rw[c]at this;rw[iK]at this⊢;lia
   refine⟨_,U,U,_,U,cm (by intro e;injection e with e;exact Kk e (by decide)) (ck ?_)⟩;exact⟨_,U,d,_,_,_,U,U,SqL.of a,at0 n ns,bu,λt b=>q t _ (af b _) (by rw[ab];show _=Kb (HO.tup (tp (jZ (n :: ns))));unfold jZ;rw[Kj j];rfl)⟩
 |2,e =>
  cases e;refine⟨_,U,U,_,U,cm (by intro e;injection e with e;exact Kk e (by decide)) ?_⟩;refine⟨_,U,U,_,U,cm (by intro e;injection e with e;exact Kk e (by decide)) ?_⟩;refine⟨_,U,U,_,U,cm (by intro e;injection e with e;exact Kk e (by decide)) ?_⟩;refine⟨_,U,U,_,U,cm (by intro e;injection e with e;exact Kk e (by decide)) (ck ?_)⟩;refine⟨_,U,U,_,U,fu U ?_⟩;refine⟨_,U,d,_,U,SqL.of a,zz _,λm r p=>⟨_,U,d,_,U,SqL.of a,zz _,λm' I G=>⟨U,_,U,?_⟩⟩⟩;have L:=mC r p;have J:=mD I G;subst L J;refine bq (λg=>?_) (λg=>?_)
  .have j:least (n :: ns)≠great (n :: ns):=λz=>by rw[z]at g;simp at g
   exact⟨bu,λt b=>q t _ (af b _) (by rw[ab];show _=Kb (HO.tup (tp (jY (n :: ns))));unfold jY;rw[Ki j];rfl)⟩
  .have j:least (n :: ns)=great (n :: ns):=by
    by_cases z:least (n :: ns)=great (n :: ns)
    .exact z
    .exfalso;exact g (by simp;exact z)
   have D:least (n :: ns)=n:=by
    have a1:=eV.2 n (ff (l:=ns));have a2:=fT.2 n (ff (l:=ns));lia
   exact⟨_,U,d,_,_,_,U,U,SqL.of a,at0 n ns,bu,λt b=>q t _ (af b _) (by rw[ab];show _=Kb (HO.tup (tp (jY (n :: ns))));unfold jY;rw[Kj j,D];rfl)⟩
 |3,e =>
  cases e;refine⟨_,U,U,_,U,fu U ?_⟩;refine⟨_,U,d,_,U,SqL.of a,zz _,λm r p=>⟨bu,λt b=>q t _ (af b _) ?_⟩⟩;rw[ab,mC r p];rfl
 |4,e =>
  cases e;refine⟨_,U,U,_,U,cm (by intro e;injection e with e;exact Kk e (by decide)) ?_⟩;refine⟨_,U,U,_,U,fu U ?_⟩;refine⟨_,U,d,_,U,SqL.of a,zz _,λm r p=>⟨bu,λt b=>q t _ (af b _) ?_⟩⟩;rw[ab,mD r p];rfl
 |5,e =>
  cases e;refine⟨_,U,U,_,U,cm (by intro e;injection e with e;exact Kk e (by decide)) ?_⟩;refine⟨_,U,U,_,U,cm (by intro e;injection e with e;exact Kk e (by decide)) ?_⟩;refine⟨_,U,U,_,U,fu U ?_⟩;refine⟨_,U,C,_,_,_,U,U,SqL.of u,U,_,U,C,_,_,_,U,U,SqL.of u,U,_,U,d,_,U,SqL.of a,_,_,U,_,_,U,?_⟩;refine⟨bu,λt b=>q t _ (af b _) ?_⟩;rw[ab];have e:near v o (n :: ns).sum=if (if (n :: ns).sum<o then(n :: ns).sum else o)>v then(if (n :: ns).sum<o then(n :: ns).sum else o)else v:=by
   unfold near;generalize (n :: ns).sum=t;split <;> split <;> split <;> first|rfl|lia|(split <;> lia)
  show _=Kb (HO.tup (tp (say (near v o (n :: ns).sum))));rw[e];rfl
 |i+6,e=>simp[six]at e
theorem Ei(F:Fun K "_law_numbers" "_law_numbers" Y56 f fd) (bl:Bl K mg Y)  : aK P w K mg base CX0 1 f fd ["script"] (eZ K Y):=by
 refine F.okA Z56 λT A G s H W Q E Z h=>?_
 obtain⟨a,n,rfl,J,S,q⟩:=h
 refine⟨_,(aj (aI (i:=1) Z56.nd U (Or.inl U) (aR ae))
  (aj (bg Hn.never U (uH U bl.range_ (aa ag (aa (av ao U bl.len_ Ka (aa (pv 0) ae)) ae))) (aD (i:=2) Z56.nd U (Or.inl U))
  (ai (aM (aE iV (av ao U bl.len_ Ka (aa (pv 1) ae)) ag (aH _))
  (ai (aV (eR PySem.F.plainAttrs_list PySem.F.slot_list_append PySem.F.type_list_append bh (pv 1) (aa (au aO (aF aG (pv 0) (pv 2) (λ_ _=>U)) (au gM ag ag)) ae))))
  (ai (lN (au aO (au bK (au fC (aF aG (pv 1) (au aO (pv 2) ag) (λ_ _=>U)) ag) (aF aG (pv 0) (pv 2) (λ_ _=>U))) (au gM ag ag)) (lM (pv 1) (au aO (pv 2) ag) set_list))))))
  (ai (aw (pv 1))))),?_⟩
 refine⟨(by show 0<=GH;decide),λl v=>?_⟩;have u:ar H (upd H l (.lst ([].map V.int))):=af v _;have M:upd H l (.lst ([].map V.int)) l=Kb (.lst ([].map V.int)):=ab;have L:upd H l (.lst [])=upd H l (.lst ([].map V.int)):=rfl;rw[L];clear L;generalize upd H l (.lst ([].map V.int))=H0 at u M⊢;have j:(n.map V.int).length=n.length:=bx _;refine⟨_,U,a,_,U,.inl (u.seq J),_,_,U,⟨by decide,by decide,by rw[j];lia,by rw[j];lia⟩,cc (λi t o=>ar H o/\∃(b:List Int)(B:Option V),o l=Kb (.lst (b.map V.int))/\b.length<=16/\t=[Kb (.ref a),Kb (.ref l),B]) ⟨u,[],_,M,yY _,U⟩ (λi t o hi y=>?_) (λt o y=>?_)⟩
 .obtain⟨m,b,B,e,k,rfl⟩:=y;rw[j]at hi;have D:7+i<n.length:=by lia
  obtain⟨c,R⟩:∃c,n[7+i]?=Kb c:=⟨_,Gy D⟩;have p:atI (n.map V.int) (7+(i:Int))=Kb (.int c):=by
   have:=aS (get_map R);rw[show(((7+i:Nat)):Int)=7+(i:Int) by lia]at this;exact this
  have r:=m.seq J;have d:(b.map V.int).length=b.length:=bx _;refine⟨_,U,l,_,U,.inl (SqL.of e),_,_,U,U,_,U,?_⟩;refine bq (λg=>?_) (λg=>?_)
  .have g:((b.length:Nat):Int)<16:=by have:=Kn g;rw[d]at this;exact this
   refine⟨_,U,.inl ⟨U,_,SqL.of e⟩,_,U,_,U,a,_,_,_,U,U,r,p,_,_,U,U,⟨by decide,by decide,by decide⟩,_,_,U,U,p10 _,l,_,_,U,U,e,az (by rw[d];lia),?_⟩;exact⟨m.upd v,b++[_],_,by rw[ab,iv];rfl,by rw[cK,hQ];lia,U⟩
  .have g:16<=b.length:=by
    have:¬ (((((b.map V.int).length:Nat)):Int)<16):=λz=>g (Kl z)
    rw[d]at this;lia
   have I:=Dq (7+(i:Int)) (show(16:Int)≠0 by decide);have X:=Dt (7+(i:Int)) (show(0:Int)<16 by decide);obtain⟨x,O⟩:∃x,b[((7+(i:Int))%16).toNat]?=Kb x:=⟨_,Gy (by lia)⟩;have N:atI (b.map V.int) ((7+(i:Int))%16)=Kb (.int x):=by
    have:=aS (get_map O);rw[Int.toNat_of_nonneg I]at this;exact this
   have C:ixN (b.map V.int).length ((7+(i:Int))%16)=Kb ((7+(i:Int))%16).toNat:=by
    unfold ixN;rw[Kj I,Kj (by rw[d];lia)]
   refine⟨_,U,_,U,_,_,U,U,(by show(0:Int)<16;decide),l,_,_,_,U,U,SqL.of e,N,_,_,U,U,.inr ⟨by decide,by decide⟩,_,U,_,U,a,_,_,_,U,U,r,p,_,_,U,U,_,_,U,U,⟨by decide,by decide,by decide⟩,_,_,U,U,p10 _,?_⟩;refine⟨_,U,_,U,_,_,U,U,(by show(0:Int)<16;decide),l,_,_,_,U,U,e,C,?_⟩;exact⟨m.upd v,b.set ((7+(i:Int))%16).toNat _,_,by rw[ab,List.map_set],by rw[oD];exact k,U⟩
 .obtain⟨m,b,B,e,k,rfl⟩:=y;exact⟨_,U,q l b o m e k⟩
theorem Ej(F:Fun K "_law_within" "_law_within" Y67 f fd) (bl:Bl K mg Y)  : aK P w K mg base CX0 1 f fd ["box","codes"] (fJ K Y):=by
 refine F.okA Z67 λa0 A O s H vs Q E hr h=>?_
 obtain⟨b,l,y,a,rfl,⟨n,x,S⟩,G,N,h6,q⟩:=h
 refine⟨_,(aj (aM (PW.pt (tU (dg (df (av dr U bl.isinstance_ PyProof.Rows.boot_isinstance (aa (pv 0) (aa (pe (v:=.ty "tuple") U bl.tuple_ PyProof.Rows.boot_tuple U) ae))))) (pf (aE om (av ao U bl.len_ Ka (aa (pv 0) ae)) (av ao U bl.len_ Ka (aa (pv 1) ae)) (aH _)))))
  (ai (aw eO))
  aC)
  (aj (bg Hn.never U (aX U bl.range_ (aa (av ao U bl.len_ Ka (aa (pv 0) ae)) ae)) (aD (i:=2) Z67.nd U (Or.inl U))
  (ai (aM (PW.pt (tU (aE iV (aF aG (pv 1) (pv 2) (λ_ _=>U)) (aF bc (aF bc (pv 0) (pv 2) (λ_ _=>U)) ag (λ_ _=>U)) (aH _)) (pf (aE iV (aF bc (aF bc (pv 0) (pv 2) (λ_ _=>U)) ag (λ_ _=>U)) (aF aG (pv 1) (pv 2) (λ_ _=>U)) (aH _)))))
  (ai (aw eO))
  aC)))
  (ai (aw eO)))),?_⟩
 have L:=S.length;have M:(a.map V.int).length=a.length:=bx _;refine⟨_,U,_,_,_,_,Kd,U,.ty _,.inl (.tup x),(by first|rfl|with_unfolding_all rfl|decide+kernel),_,U,ck ?_⟩;refine⟨_,U,b,_,U,.inr (SqT.of x),_,U,l,_,U,.inl (SqL.of G),U,Ke,by rw[Kl (show V.int ((n.length:Nat):Int)=V.int (((a.map V.int).length:Nat):Int) by rw[L,M,N])];rfl,ck ?_⟩;refine⟨_,U,b,_,U,.inr (SqT.of x),_,U,(by show -(2^62)<=((n.length:Nat):Int);lia),(by show((n.length:Nat):Int)<2^62;lia),cc (λi B J=>J=H/\(∀(j:Nat)(c:Int)(p:Int×Int),j<i->a[j]?=Kb c->y[j]?=Kb p->p.1<=c/\c<=p.2)/\∃I:Option V,B=[Kb (.ref b),Kb (.ref l),I]) ⟨U,(λj c p C=>Kk C (zj _)),Kc,U⟩ (λi B J hi h=>?_) (λB J h=>?_)⟩
 .obtain⟨rfl,d,I,rfl⟩:=h;have m:=Gy (l:=n) (i:=i) (by lia);obtain⟨p,t,D,Z,R⟩:=S.get m;rw[Z]at m;have u:=Gy (l:=a) (i:=i) (by lia);generalize a[i]=c at u;have W:atI n (0+(i:Int))=Kb (.ref t):=by rw[Dv];exact aS m
  have T:atI (a.map V.int) (0+(i:Int))=Kb (.int c):=by rw[Dv];exact aS (get_map u)
  refine⟨_,U,_,U,l,_,_,_,U,U,SqL.of G,T,_,U,_,U,b,_,_,_,U,U,SqT.of x,W,t,_,_,_,U,U,SqT.of R,U,_,_,U,U,_,U,?_⟩;refine bq (λg=>?_) (λg=>?_)
  .have g:c<p.1:=Kn g;have o:wth y a=false:=BJ.mpr λz=>by have:=(fA (gy.mp z)).2 i c p u D;lia
   rw[o]at q;exact q
  .have g:¬ c<p.1:=of_decide_eq_false (BJ.mpr g);refine⟨_,U,_,U,b,_,_,_,U,U,SqT.of x,W,t,_,_,_,U,U,SqT.of R,U,_,U,_,U,l,_,_,_,U,U,SqL.of G,T,_,_,U,U,_,U,?_⟩;refine bq (λr=>?_) (λr=>?_)
   .have r:p.2<c:=Kn r;have o:wth y a=false:=BJ.mpr λz=>by have:=(fA (gy.mp z)).2 i c p u D;lia
    rw[o]at q;exact q
   .have r:¬ p.2<c:=of_decide_eq_false (BJ.mpr r);refine⟨U,λj c' X C k e=>?_,_,U⟩;rcases Nat.lt_succ_iff_lt_or_eq.mp C with z|z
    .exact d j c' X z k e
    .subst z;rw[u]at k;rw[D]at e;cases k;cases e;exact⟨by lia,by lia⟩
 .obtain⟨rfl,d,I,rfl⟩:=h;have o:wth y a=true:=gy.mpr (xq (by lia) λj c p m e2=>d j c p (by have:=(Gz.mp m).1;lia) m e2);rw[o]at q;exact q
theorem Ek(F:Fun K "__init__" "Way.__init__" Y18 f fd) (bl:Bl K mg Y)  : aK P w K mg base CX0 1 f fd ["self","called"] (cy K Y):=by
 refine F.okA Z18 λd A a s H e Q E g h=>?_
 obtain⟨x,c,z,rfl,b,q⟩:=h;refine⟨_,(ai (cD (pv 0) (pv 1) U)),?_⟩;exact⟨_,U,_,U,x,_,c,_,U,b,bl.k_First,bl.na_First_called,(by show 0<1000;decide),q⟩
theorem El(F:Fun K "__init__" "Way.__init__" Y22 f fd) (bl:Bl K mg Y)  : aK P w K mg base CX0 1 f fd ["self","called"] (cH K Y):=by
 refine F.okA Z22 λd A a s H e Q E g h=>?_
 obtain⟨x,c,z,rfl,b,q⟩:=h;refine⟨_,(ai (cD (pv 0) (pv 1) U)),?_⟩;exact⟨_,U,_,U,x,_,c,_,U,b,bl.k_Only,bl.na_Only_called,(by show 0<1000;decide),q⟩
theorem Em(F:Fun K "__init__" "Way.__init__" Y20 f fd) (bl:Bl K mg Y)  : aK P w K mg base CX0 1 f fd ["self","called"] (cI K Y):=by
 refine F.okA Z20 λd A a s H e Q E g h=>?_
 obtain⟨x,c,z,rfl,b,q⟩:=h;refine⟨_,(ai (cD (pv 0) (pv 1) U)),?_⟩;exact⟨_,U,_,U,x,_,c,_,U,b,bl.k_Like,bl.na_Like_called,(by show 0<1000;decide),q⟩
theorem En(F:Fun K "__init__" "Way.__init__" Y21 f fd) (bl:Bl K mg Y)  : aK P w K mg base CX0 1 f fd ["self","called"] (cS K Y):=by
 refine F.okA Z21 λd A a s H e Q E g h=>?_
 obtain⟨x,c,z,rfl,b,q⟩:=h;refine⟨_,(ai (cD (pv 0) (pv 1) U)),?_⟩;exact⟨_,U,_,U,x,_,c,_,U,b,bl.k_Low,bl.na_Low_called,(by show 0<1000;decide),q⟩
theorem Eo(F:Fun K "__init__" "Way.__init__" Y19 f fd) (bl:Bl K mg Y)  : aK P w K mg base CX0 1 f fd ["self","called"] (cJ K Y):=by
 refine F.okA Z19 λd A a s H e Q E g h=>?_
 obtain⟨x,c,z,rfl,b,q⟩:=h;refine⟨_,(ai (cD (pv 0) (pv 1) U)),?_⟩;exact⟨_,U,_,U,x,_,c,_,U,b,bl.k_High,bl.na_High_called,(by show 0<1000;decide),q⟩
theorem Ep(F:Fun K "__init__" "Way.__init__" Y23 f fd) (bl:Bl K mg Y)  : aK P w K mg base CX0 1 f fd ["self","called"] (cU K Y):=by
 refine F.okA Z23 λd A a s H e Q E g h=>?_
 obtain⟨x,c,z,rfl,b,q⟩:=h;refine⟨_,(ai (cD (pv 0) (pv 1) U)),?_⟩;exact⟨_,U,_,U,x,_,c,_,U,b,bl.k_Sum,bl.na_Sum_called,(by show 0<1000;decide),q⟩
theorem O_0(F:Fun K "__init__" "Domain.__init__" Y0 f fd) (bl:Bl K mg Y)  : aK P w K mg base CX0 1 f fd ["self","low","high"] (bN K Y):=by
 refine F.okA Z0 λd A b s H e Q E g h=>?_
 obtain⟨x,a,lo,hi,rfl,c,q⟩:=h
 refine⟨_,(aj (cD (pv 0) (pv 1) U)
  (ai (cD (pv 0) (pv 2) U))),?_⟩
 refine⟨_,U,_,U,x,_,a,_,U,c,bl.k_Numbers,bl.na_Numbers_low,(by show 0<1000;decide),_,U,_,U,x,_,a,_,U,ab,bl.k_Numbers,bl.na_Numbers_high,(by show 1<1000;decide),?_⟩;show Q .non (upd (upd H x (.ins Y.i a [("low",.int lo)])) x (.ins Y.i a (bw "high" (.int hi) [("low",.int lo)])));rw[put2];exact q
theorem O_1(F:Fun K "__init__" "Domain.__init__" Y1 f fd) (bl:Bl K mg Y)  : aK P w K mg base CX0 1 f fd ["self","low","high"] (b7 K Y):=by
 refine F.okA Z1 λd A b s H e Q E g h=>?_
 obtain⟨x,a,lo,hi,rfl,c,q⟩:=h
 refine⟨_,(aj (cD (pv 0) (pv 1) U)
  (ai (cD (pv 0) (pv 2) U))),?_⟩
 refine⟨_,U,_,U,x,_,a,_,U,c,bl.k_Words,bl.na_Words_low,(by show 0<1000;decide),_,U,_,U,x,_,a,_,U,ab,bl.k_Words,bl.na_Words_high,(by show 1<1000;decide),?_⟩;show Q .non (upd (upd H x (.ins Y.j a [("low",.int lo)])) x (.ins Y.j a (bw "high" (.int hi) [("low",.int lo)])));rw[put2];exact q
theorem O_5(F:Fun K "chosen" "First.chosen" Y5 f fd) (bl:Bl K mg Y)  : aK P w K mg base CX0 1 f fd ["self","codes","outcome"] (J1 K Y):=by
 refine F.ok Z5 (λi H Q E h=>?_) (λr A d s H i Q E u h=>?_)
 .obtain⟨x,c,o,n,e,b,rfl,⟨p,z,j⟩,l,a,g,m,q⟩:=h;rfl
 obtain⟨x,c,o,n,e,b,rfl,⟨p,z,j⟩,l,a,g,m,q⟩:=h;refine⟨_,(ai (aw (aY (aa aQ (aa (aF aG (pv 1) ag (λ_ _=>U)) ae))))),?_⟩;exact⟨_,U,c,_,_,_,U,U,g,at0 n e,bu,λt k=>q t _ (af k _) (.inl ab)⟩
theorem Er(F:Fun K "chosen" "Only.chosen" Y14 f fd) (bl:Bl K mg Y)  : aK P w K mg base CX0 1 f fd ["self","codes","outcome"] (J9 K Y):=by
 refine F.ok Z14 (λl H Q E h=>?_) (λC A k s H l Q E D h=>?_)
 .obtain⟨x,c,o,n,a,b,rfl,⟨B,z,p⟩,u,j,d,y,q⟩:=h;rfl
 obtain⟨x,c,o,n,a,b,rfl,⟨B,z,p⟩,u,j,d,y,q⟩:=h;refine⟨_,(ai (aw (lL (aE br (av ao U bl.len_ Ka (aa (pv 1) ae)) ag (aH _)) (aY (aa aQ (aa (aF aG (pv 1) ag (λ_ _=>U)) ae))) (cz (v:=.ref Y.m) U bl.CLASH_ U)))),?_⟩;refine⟨_,U,c,_,U,.inl (d),U,_,U,?_⟩;refine bq (λg=>?_) (λg=>?_)
 .have e:wf 1 b.1 b.2 (n :: a)=say n:=by
   have i:=iY g;simp at i;show jZ _=_;unfold jZ;rw[Kj (by rw[iK];lia)];rfl
  rw[e]at q;exact⟨_,U,c,_,_,_,U,U,d,at0 n a,bu,λt r=>q t _ (af r _) (.inl ab)⟩
 .have e:wf 1 b.1 b.2 (n :: a)=ur:=by
   have i:=kP g;simp at i;show jZ _=_;unfold jZ;rw[Ki (by rw[iK];lia)]
  rw[e]at q;exact q _ _ (ar.refl _) (.inr bl.q_CLASH)
theorem O_9(F:Fun K "chosen" "Like.chosen" Y9 f fd) (bl:Bl K mg Y)  : aK P w K mg base CX0 1 f fd ["self","codes","outcome"] (J5 K Y):=by
 refine F.ok Z9 (λy H Q E h=>?_) (λL A p s H y Q E M h=>?_)
 .obtain⟨x,c,o,n,a,b,rfl,⟨J,z,B⟩,D,k,i,G,q⟩:=h;rfl
 obtain⟨x,c,o,n,a,b,rfl,⟨J,z,B⟩,D,k,i,G,q⟩:=h;refine⟨_,(ai (aw (lL (aE br (av nJ U bl.len_ Ka (aa (bB (nI U) U bl.set_ PyProof.Rows.boot_set (aa (pv 1) ae)) ae)) ag (aH _)) (aY (aa aQ (aa (aF aG (pv 1) ag (λ_ _=>U)) ae))) (cz (v:=.ref Y.m) U bl.CLASH_ U)))),?_⟩;refine⟨_,U,c,_,U,i,(by rw[iK];lia),λl I=>?_⟩;refine⟨l,_,U,ab,(by rw[iK];lia),U,_,U,?_⟩;have d:ar H (upd H l (yw P w l (n :: a))):=af I _;refine bq (λg=>?_) (λg=>?_)
 .have u:V.int _=V.int _:=iY g;have j:cntK (n :: a) (n :: a).length=1:=by injection u with u;lia
  have r:=oM.mp j;have e:wf 2 b.1 b.2 (n :: a)=say n:=by
   show jY _=_;unfold jY;rw[Kj (oU.mp r),vj r]
  rw[e]at q;exact⟨_,U,c,_,_,_,U,U,d.seq i,at0 n a,bu,λt C=>q t _ (d.trans (af C _)) (.inl ab)⟩
 .have j:¬ cntK (n :: a) (n :: a).length=1:=λz=>(kP g) (by rw[z];rfl)
  have e:wf 2 b.1 b.2 (n :: a)=ur:=by
   show jY _=_;unfold jY;rw[Ki λz=>j (oM.mpr (oU.mpr z))]
  rw[e]at q;exact q _ _ d (.inr bl.q_CLASH)
theorem Es(F:Fun K "chosen" "Low.chosen" Y11 f fd) (bl:Bl K mg Y)  : aK P w K mg base CX0 1 f fd ["self","codes","outcome"] (J7 K Y):=by
 refine F.ok Z11 (λg H Q E h=>?_) (λy A d s H g Q E B h=>?_)
 .obtain⟨x,c,o,n,i,b,rfl,⟨v,z,j⟩,l,a,e,p,q⟩:=h;rfl
 obtain⟨x,c,o,n,i,b,rfl,⟨v,z,j⟩,l,a,e,p,q⟩:=h;refine⟨_,(ai (aw (aY (aa aQ (aa (av (fF U) U bl.min_ PyProof.Rows.boot_min (aa (pv 1) ae)) ae))))),?_⟩;refine⟨_,U,c,_,U,e,zz _,λm u r=>⟨bu,λt k=>q t _ (af k _) (.inl ?_)⟩⟩;rw[ab,mC u r];rfl
theorem O_7(F:Fun K "chosen" "High.chosen" Y7 f fd) (bl:Bl K mg Y)  : aK P w K mg base CX0 1 f fd ["self","codes","outcome"] (J3 K Y):=by
 refine F.ok Z7 (λg H Q E h=>?_) (λy A d s H g Q E B h=>?_)
 .obtain⟨x,c,o,n,i,b,rfl,⟨v,z,j⟩,l,a,e,p,q⟩:=h;rfl
 obtain⟨x,c,o,n,i,b,rfl,⟨v,z,j⟩,l,a,e,p,q⟩:=h;refine⟨_,(ai (aw (aY (aa aQ (aa (av (fG U) U bl.max_ PyProof.Rows.boot_max (aa (pv 1) ae)) ae))))),?_⟩;refine⟨_,U,c,_,U,e,zz _,λm u r=>⟨bu,λt k=>q t _ (af k _) (.inl ?_)⟩⟩;rw[ab,mD u r];rfl
theorem Et(F:Fun K "chosen" "Sum.chosen" Y16 f fd) (bl:Bl K mg Y)  : aK P w K mg base CX0 1 f fd ["self","codes","outcome"] (J11 K Y):=by
 refine F.ok Z16 (λr H Q E h=>?_) (λG A l s H r Q E I h=>?_)
 .obtain⟨x,c,o,n,a,b,rfl,⟨D,z,u⟩,⟨C,p,B,fs,j,d,g,_⟩,k,m,y,q⟩:=h;rfl
 obtain⟨x,c,o,n,a,b,rfl,⟨D,z,u⟩,⟨C,p,B,fs,j,d,g,_⟩,k,m,y,q⟩:=h;refine⟨_,(ai (aw (aY (aa aQ (aa (av (oo U) U bl.max_ PyProof.Rows.boot_max (aa (ba (pv 2) U) (aa (av (kl U) U bl.min_ PyProof.Rows.boot_min (aa (ba (pv 2) U) (aa (av (fD U) U bl.sum_ PyProof.Rows.boot_sum (aa (pv 1) ae)) ae))) ae))) ae))))),?_⟩;have i:Cls K C/\NoAttr K C s!"low"/\NoAttr K C s!"high":=by
  rcases p with rfl|rfl
  .exact⟨bl.k_Numbers,bl.na_Numbers_low,bl.na_Numbers_high⟩
  .exact⟨bl.k_Words,bl.na_Words_low,bl.na_Words_high⟩
 refine⟨_,U,o,_,_,_,_,U,j,i.1,i.2.1,d,_,U,o,_,_,_,_,U,j,i.1,i.2.2,g,_,U,c,_,U,m,_,_,U,_,_,U,?_⟩;refine⟨bu,λt v=>q t _ (af v _) (.inl ?_)⟩;rw[ab];have e:near b.1 b.2 (n :: a).sum=if (if (n :: a).sum<b.2 then(n :: a).sum else b.2)>b.1 then(if (n :: a).sum<b.2 then(n :: a).sum else b.2)else b.1:=by
  unfold near;generalize (n :: a).sum=t;split <;> split <;> split <;> first|rfl|lia|(split <;> lia)
 show _=Kb (HO.tup (tp (say (near b.1 b.2 (n :: a).sum))));rw[e];rfl
theorem Eu(F:Fun K "is_word" "is_word" Y48 f fd) (bl:Bl K mg Y)(g:Callee P w K mg base 1 "all_among" ["text","signs"] (gz K Y)):aK P w K mg base CX0 2 f fd ["text"] (gD K Y):=by
 refine F.okA Z48 λk A d s H l Q E j h=>?_
 obtain⟨z,rfl,i,q⟩:=h;refine⟨_,(ai (aw (kj (lO fj fj ag (av pC U bl.len_ Ka (aa (pv 0) ae)) (kS U bl.MOST_SIGNS_)) (kj (jP om (pv 0) aQ (aH _)) (lK (aL g j U (aa (pv 0) (aa (kS U bl.SMALL_LETTERS_) ae)))))))),?_⟩;refine⟨_,U,_,U,big i,_,_,U,U,_,U,?_⟩;refine bq (λc=>?_) (λc=>?_)
 .refine⟨_,_,U,U,_,U,?_⟩;refine bq (λb=>?_) (λb=>?_)
  .refine⟨_,U,U,_,U,?_⟩;refine bq (λa=>?_) (λa=>?_)
   .refine⟨_,U,z,lets,U,?_⟩;have e:isw z=lV z lets:=by unfold isw;rw[c,b,a];rfl
    rw[e]at q;exact q
   .have e:isw z=false:=by unfold isw;rw[BJ.mpr a,Bool.false_and,Bool.and_false,Bool.and_false]
    rw[e]at q;exact q
  .have e:isw z=false:=by unfold isw;rw[BJ.mpr b,Bool.false_and,Bool.and_false]
   rw[e]at q;exact q
 .have e:isw z=false:=by unfold isw;rw[BJ.mpr c,Bool.false_and]
  rw[e]at q;exact⟨_,U,ck q⟩
theorem Ew(F:Fun K "cut_columns" "cut_columns" Y40 f fd) (bl:Bl K mg Y)(rk:Callee P w K mg base 1 "stretches" ["low","high","marks"] (gA K Y)):aK P w K mg base CX0 2 f fd ["bounds","marks"] (dE K Y):=by
 refine F.okA Z40 λc3 A b3 s H vs Q E hr h=>?_
 obtain⟨a,b,ys,ps,as,R,rfl,ha,hP,hb,hM,hok,q⟩:=h;refine⟨_,(ai (aw (dU (pG U bl.zip_ (aa (pv 0) (aa (pv 1) ae))) (eK (N:=["bound","cuts"]) (k:=2) U U (by decide+kernel) (by decide+kernel) (by decide+kernel)) U (λ_ _ _ _=>(kQ (K:=K) (n:=2) U U (aJ (aD (i:=0) (show(["bound","cuts"]:List Str).Nodup by decide+kernel) U (Or.inl U) (Or.inr U)) (aJ (aD (i:=1) (show(["bound","cuts"]:List Str).Nodup by decide+kernel) U (Or.inl U) (Or.inr U)) bP)))) (λ_ _ _ _=>bz) (λ_ _ _ _=>(aL rk hr U (aa (aF (fk (K:=K) U) (pv 0) ag (λ_ _=>U)) (aa (aF (fk (K:=K) U) (pv 0) ag (λ_ _=>U)) (aa (pv 1) ae)))))))),?_⟩;obtain⟨b5,b4,a1⟩:=hok;have b6:=hP.length;have c2:=hM.1
 refine⟨_,U,_,U,a,b,U,⟨_,SqL.of ha⟩,⟨_,SqL.of hb⟩,u7 (xs:=ys) (ys:=as.map V.ref) (λD i C B=>ar H B/\B D=Kb (.lst C)/\∃d:List (List Int),d.length=i/\(∀(j:Nat)(p:Int×Int)(v l:List Int),ps[j]?=Kb p->R[j]?=Kb v->d[j]?=Kb l->l.Pairwise (· < ·)/\(∀c,c∈l↔(c∈v/\p.1<c/\c<=p.2))/\l.length<64)/\ax C (List.zipWith (λp l=>bX p.1 p.2 l) (ps.take i) d) (λr c=>r≠D/\∃g,B r=Kb (.lst g)/\PL B g c))
  (λD O=>⟨af O _,ab,[],U,(λj p v l _ _ e=>by simp at e),ax.nil⟩) (λD i C B O _ h=>⟨SqL.of (h.1 _ _ ha),SqL.of (h.1 _ _ hb)⟩) (λD i x y C B T O ex ey h hT g a5=>?_) (λD C B O h=>?_)⟩
 .obtain⟨sm,eD,d,o,J,M⟩:=h;obtain⟨p,t,ep,rfl,ht⟩:=hP.get ex;obtain⟨r,rfl,er⟩:=xm ey;have hi:i<as.length:=(Gz.mp er).1;obtain⟨v,em⟩:∃v,R[i]?=Kb v:=⟨_,Gy (by lia)⟩;obtain⟨r',W,hr⟩:=hM.2 i v em;rw[er]at W;cases W;have s2:=sm.trans (af hT (.tup [.ref t,.ref r]));have eT:upd B T (.tup [.ref t,.ref r]) T=Kb (.tup [.ref t,.ref r]):=ab;have Z:=af hT (.tup [.ref t,.ref r]);have L:=Z _ _ eD;generalize upd B T (.tup [.ref t,.ref r])=H2 at s2 eT L Z⊢;obtain⟨t0,t1,rfl⟩:∃t0 t1,g=[t0,t1]:=by
   match g,a5 with
   | [t0,t1],_=>exact⟨t0,t1,U⟩
  refine⟨T,_,U,SqT.of eT,U,_,_,U,_,_,U,U,⟨[Kb (.ref t),Kb (.ref r)],U,U⟩,?_⟩;have c0:=a1 v (GB em);refine⟨_,U,t,_,_,_,U,U,SqT.of (s2 _ _ ht),U,_,U,t,_,_,_,U,U,SqT.of (s2 _ _ ht),U,_,U,r,v,v,p.1,p.2,U,SqL.of (s2 _ _ hr),by lia,by lia,λm hm _ _=>hm,λr2 H3 l a0 s3 S b0 a7 a6 jh a9=>?_⟩;have X:=s3 _ _ L;have c1:C.length=i:=by rw[M.1,lg,ik];lia
  have Ex:i<min ys.length (as.map V.ref).length:=by rw[bx];lia
  have a2:r2≠D:=λz=>by rw[z,L]at S;cases S
  refine cB.mk Ex X (az (by lia)) ⟨(s2.trans s3).upd O,ab,d++[l],by rw[cK,o];rfl,λj p' a3 b1 G I u=>?_,?_⟩
  .by_cases hj:j<d.length
   .rw[iP hj]at u;exact J j p' a3 b1 G I u
   .have a8:j=d.length:=by
     have:=(Gz.mp u).1;simp at this;lia
    subst a8;simp at u;subst u;rw[o]at G I;rw[ep]at G;cases G;rw[em]at I;cases I;exact⟨a6,jh,a9⟩
  .rw[take_snoc ep,List.zipWith_append (by rw[ik];lia)];have a4:ax (C++[.ref r2]) (List.zipWith (λp l=>bX p.1 p.2 l) (ps.take i) d++[bX p.1 p.2 l]) (λr c=>r≠D/\∃g,H3 r=Kb (.lst g)/\PL H3 g c) :=
    ax.snoc (ax.mono M λx c k=>⟨k.1,let ⟨g,e1,e2⟩:=k.2;⟨g,s3 _ _ (Z _ _ e1),PL.mono e2 (Z.trans s3).tups⟩⟩) ⟨a2,a0,b0,a7⟩
   have st:bM H3 (upd H3 D (.lst (C++[.ref r2]))):=aP X;exact ax.mono a4 λx c k=>⟨k.1,let ⟨g,e1,e2⟩:=k.2;⟨g,(ay k.1).trans e1,PL.mono e2 st⟩⟩
 .obtain⟨sm,eD,d,o,J,M⟩:=h;have e:min ys.length (as.map V.ref).length=ps.length:=by rw[bx];lia
  rw[e]at o;rw[e,ip]at M;exact q D C B d sm eD o J (ax.mono M λx c k=>k.2)
theorem Ey(F:Fun K "fits" "fits" Y43 f fd) (bl:Bl K mg Y)(X:Callee P w K mg base 1 "holds" ["spans","number"] (mS K Y)):aK P w K mg base CX0 2 f fd ["table","k","codes"] (pY K Y):=by
 refine F.okA Z43 λa1 A G s H vs Q E hr h=>?_
 obtain⟨t,Z,c,dx,fs,xs,a0,k,b,g,rfl,ht,hf,hl,hR,ek,J,W,q⟩:=h
 refine⟨_,(aj (aI (i:=3) Z43.nd U (Or.inl U) (aF bc (aF aG (ba (pv 0) U) (pv 1) (λ_ _=>U)) ag (λ_ _=>U)))
  (aj (bg Hn.never U (pG U bl.zip_ (aa (pv 3) (aa (pv 2) ae))) (eQ U (aJ (aD (i:=4) Z43.nd U (Or.inl U)) (aJ (aD (i:=5) Z43.nd U (Or.inl U)) bP)))
  (ai (aM (dg (df (aL X hr U (aa (pv 4) (aa (pv 5) ae)))))
  (ai (aw eO))
  aC)))
  (ai (aw eO)))),?_⟩
 obtain⟨r,er,S,cv,e1,_,R,m⟩:=hR.2 k b ek;refine⟨_,U,t,_,_,_,_,U,ht,bl.k_Table,bl.na_Table_rows,hf,_,U,Z,_,_,_,U,U,SqL.of hl,aS er,r,_,_,_,U,U,SqT.of e1,U,?_⟩;refine⟨_,U,_,U,S,c,U,⟨_,SqL.of R⟩,⟨_,J⟩,pH (xs:=cv) (ys:=g.map V.int) (λi o a=>ar H a/\(∀j,j<i->inP (b.1.getD j []) (g.getD j 0)=Kd)/\∃B z:Option V,o=[Kb (.ref t),Kb (.int k),Kb (.ref c),Kb (.ref S),B,z]) ⟨ar.refl _,(λj h=>Kk h (zj j)),_,_,U⟩ (λi o a h=>⟨SqL.of (h.1 _ _ R),h.1.seq J⟩) (λi x y o a T ex ey h hT=>?_) (λo a h=>?_)⟩
 .obtain⟨p,v,B,z,rfl⟩:=h;have s2:=p.trans (af hT (.tup [x,y]));have O:upd a T (.tup [x,y]) T=Kb (.tup [x,y]):=ab;generalize upd a T (.tup [x,y])=H2 at s2 O⊢;obtain⟨l,u,rfl,ep,C⟩:=ax.get m ex;obtain⟨_,ys,el,hp⟩:=C.same s2;obtain⟨n,rfl,N⟩:=of_map ey;refine⟨T,_,U,SqT.of O,U,_,_,U,_,_,U,U,?_⟩;refine⟨_,U,_,U,l,ys,u,n,U,SqL.of el,hp,_,U,?_⟩;have M:b.1.getD i []=u:=by rw[dF,ep];rfl
  have L:g.getD i 0=n:=by rw[dF,N];rfl
  cases hin:inP u n with
  |true =>
   refine ck ⟨s2,λj I=>?_,_,_,U⟩;by_cases D:j<i
   .exact v j D
   .have:j=i:=by lia
    subst this;rw[M,L];exact hin
  |false =>
   refine fO ?_;have e:nR b.1 g=false:=by
    unfold nR;rw[List.all_eq_false];refine⟨i,ju.mpr (Gz.mp N).1,?_⟩;rw[M,L,hin];decide
   have d:=q H2 s2;rw[e]at d;exact d
 .obtain⟨p,v,B,z,rfl⟩:=h;have e:nR b.1 g=true:=by
   unfold nR;rw[jt];intro j I;refine v j ?_;have h1:=m.1;rw[bx];have:=ju.mp I;lia
  have d:=q a p;rw[e]at d;exact d
theorem Ez(F:Fun K "column_marks" "column_marks" Y39 f fd) (bl:Bl K mg Y)(tK:Callee P w K mg base 1 "gathered" ["lists"] (ia K Y)) (yX:Callee P w K mg base 1 "edges" ["spans","low","high"] (mT K Y)):aK P w K mg base CX0 2 f fd ["table","column"] (eF K Y):=by
 refine F.okA Z39 λb3 A a6 s H vs Q E hr h=>?_
 obtain⟨t,c,dv,bs,rws,b,L,rfl,⟨rl,dx,dl,fs,xs,ht,f1,f2,a3,T,B,hR⟩,eb,a9,kB,hL,X,q⟩:=h
 refine⟨_,(aj (aI (i:=2) Z39.nd U (Or.inr U) (aF aG (ba (pv 0) U) (pv 1) (λ_ _=>U)))
  (ai (aw (aL tK hr U (aa (dU (aW (ba (pv 0) U)) (dW (N:=["cells","code","column","domain"]) (k:=2) (fr:=[1,2]) (cl:=[("domain",s.heap.objs.size+1+1),("column",s.heap.objs.size+1)]) U U (by decide+kernel) (by decide+kernel) U U (ij.mpr ⟨U,ij.mpr ⟨U,js _⟩⟩) U) U (λ_ _ _ _=>(kQ (K:=K) (n:=2) U U (aJ (aD (i:=0) (show(["cells","code","column","domain"]:List Str).Nodup by decide+kernel) U (Or.inl U) (Or.inr U)) (aJ (aD (i:=1) (show(["cells","code","column","domain"]:List Str).Nodup by decide+kernel) U (Or.inl U) (Or.inr U)) bP)))) (λ_ _ _ _=>bz) (λ_ _ _ _=>(aL yX hr U (aa (aF (dB (K:=K) U) (pv 0) (pv 2) (λ_ _=>U)) (aa (lB (K:=K) U (pv 3) U) (aa (lB (K:=K) U (pv 3) U) ae)))))) ae))))),?_⟩
 obtain⟨da,a4,C,hC,b1,b0,ha,g1,g2,_⟩:=T.2 c b eb;have J:Cls K C/\NoAttr K C s!"low"/\NoAttr K C s!"high":=by
  rcases hC with rfl|rfl
  .exact⟨bl.k_Numbers,bl.na_Numbers_low,bl.na_Numbers_high⟩
  .exact⟨bl.k_Words,bl.na_Words_low,bl.na_Words_high⟩
 have S:xs.length=rws.length:=hR.1;refine⟨_,U,t,_,_,_,_,U,ht,bl.k_Table,bl.na_Table_domains,f2,_,U,dl,_,_,_,U,U,SqL.of a3,aS a4,?_⟩;refine⟨_,U,t,_,_,_,_,U,ht,bl.k_Table,bl.na_Table_rows,f1,rl,U,⟨_,SqL.of B⟩,dJ (xs:=xs) (λD i m d=>ar H d/\d D=Kb (.lst m)/\∃j:List GD,m=j.map V.ref/\MLs (hide d D) j ((rws.take i).map (rmk c b))) (λD p=>⟨af p _,ab,[],U,MLs.nil⟩) (λD i m d p _ h=>SqL.of (h.1 _ _ B)) (λD i y m d p e h ts R=>?_) (λD m d p h=>?_)⟩
 .obtain⟨a,M,j,rfl,o⟩:=h;obtain⟨r,x,rfl,ex,ce,cs,k1,_,k2,k3⟩:=ax.get hR e;have hi:i<xs.length:=(Gz.mp e).1;obtain⟨v,h6⟩:=kB x (GB ex);obtain⟨I,G,rfl⟩:∃I G,ts=[I,G]:=by
   match ts,R with
   | [I,G],_=>exact⟨I,G,U⟩
  refine⟨r,_,U,SqT.of (a _ _ k1),U,_,_,U,_,_,U,U,⟨[Kb (.ref ce),Kb (.int x.2)],U,U⟩,?_⟩;obtain⟨ol,a1,_,yo,Z,g⟩:=k3.2 c _ (Gy v);have hA:x.1[c]=x.1.getD c []:=by rw[dF,Gy v];rfl
  rw[hA]at g;have a7:=g.length;refine⟨_,U,_,U,ce,_,_,_,U,U,SqL.of (a _ _ k2),aS a1,_,U,da,_,_,_,_,U,a _ _ ha,J.1,J.2.1,g1,_,U,da,_,_,_,_,U,a _ _ ha,J.1,J.2.2,g2,?_⟩;refine⟨ol,yo,_,b.1,b.2,U,SqL.of (a _ _ Z),g.mono a.tups,by lia,λr3 H3 es O u a0 a2=>?_⟩;have a5:=O _ _ M;have nD:r3≠D:=λz=>by rw[z,M]at u;cases u
  have W:=o.1;rw[bx,ik]at W;refine cB.mk hi a5 (az (by rw[bx];lia)) ⟨(a.trans O).upd p,ab,j++[r3],by rw[iv];rfl,?_⟩;rw[mJ,take_snoc ex,iv];exact MLs.snoc (o.same (kz O)) (de (by rw[a0,a2];rfl) nD)
 .obtain⟨a,M,j,rfl,o⟩:=h;rw[S,ip]at o;have a8:=rf c b (rws:=rws) λw hw=>(kB w hw).2
  refine⟨D,j,_,L,U,M,o.same (pV d D),by lia,hL,λx hx=>X x (uz.mp hx),λl cs H2 s2 nl el pw hm=>q l cs H2 (a.trans s2) (a.free nl) el pw λx=>(hm x).trans uz⟩
theorem EA(F:Fun K "refuse_unlike_domains" "refuse_unlike_domains" Y78 f fd) (bl:Bl K mg Y)(z:Callee P w K mg base 1 "alike" ["one","other"] (mR K Y)):aK P w K mg base CX0 2 f fd ["ones","others"] (b8 K Y):=by
 refine F.okA Z78 λO A n s H R Q E C h=>?_
 obtain⟨m,l,xs,ys,S,rfl,g,c,p,o,q⟩:=h
 refine⟨_,(aj (aM (aE om (av ao U bl.len_ Ka (aa (pv 0) ae)) (av ao U bl.len_ Ka (aa (pv 1) ae)) (aH _))
  (ai bE)
  aC)
  (ai (bg Hn.never U (pG U bl.zip_ (aa (pv 0) (aa (pv 1) ae))) (eQ U (aJ (aD (i:=2) Z78.nd U (Or.inl U)) (aJ (aD (i:=3) Z78.nd U (Or.inl U)) bP)))
  (ai (aM (dg (df (aL z C U (aa (pv 2) (aa (pv 3) ae)))))
  (ai bE)
  aC))))),?_⟩
 refine⟨_,U,m,_,U,.inl (SqL.of g),_,U,l,_,U,.inl (SqL.of c),U,_,U,?_⟩;have D:xs.length=ys.length:=by rw[p.1,o.1]
 refine zt (by rw[D]) ?_;refine⟨_,U,_,U,m,l,U,⟨_,SqL.of g⟩,⟨_,SqL.of c⟩,pH (xs:=xs) (ys:=ys) (λi k j=>ar H j/\(∃v u:Option V,k=[Kb (.ref m),Kb (.ref l),v,u])) ⟨ar.refl _,⟨_,_,U⟩⟩ (λi k j h=>⟨SqL.of (h.1 _ _ g),SqL.of (h.1 _ _ c)⟩) (λi x y k j T M L h J=>?_) (λk j h=>?_)⟩
 .obtain⟨B,⟨v,u,rfl⟩⟩:=h;have s2:=B.trans (af J (.tup [x,y]));have t:upd j T (.tup [x,y]) T=Kb (.tup [x,y]):=ab;generalize upd j T (.tup [x,y])=H2 at s2 t⊢;obtain⟨a,d,rfl,N,I⟩:=p.get M;obtain⟨b,e,rfl,r,G⟩:=o.get L;refine⟨T,_,U,SqT.of t,U,_,_,U,_,_,U,U,?_⟩;rw[N]at r;cases r;exact⟨_,U,_,U,a,b,d,d,Kd,U,I.same s2,G.same s2,⟨λ_=>U,λ_=>U⟩,_,U,ck ⟨s2,⟨_,_,U⟩⟩⟩
 .exact q _ h.1
theorem EB(F:Fun K "_law_grid_points" "_law_grid_points" Y55 f fd) (bl:Bl K mg Y)(bI:Callee P w K mg base 1 "_law_cell" ["script","k"] (dY K Y)) (nZ:Callee P w K mg base 1 "_law_points" ["cell","count"] (fH K Y)):aK P w K mg base CX0 2 f fd ["script","most"] (dj K Y):=by
 refine F.okA Z55 λa9 A a4 s H vs Q E hr h=>?_
 obtain⟨a,m,T,k,rfl,hS,hM,hq,h4,q⟩:=h
 refine⟨_,(aj (aI (i:=2) Z55.nd U (Or.inl U) (aR ae))
  (aj (bg Hn.never U (aX U bl.range_ (aa (av ao U bl.len_ Ka (aa (pv 1) ae)) ae)) (aD (i:=3) Z55.nd U (Or.inl U))
  (aj (aI (i:=4) Z55.nd U (Or.inl U) (aL bI hr U (aa (pv 0) (aa (au bK ag (pv 3)) ae))))
  (ai (aV (eR PySem.F.plainAttrs_list PySem.F.slot_list_append PySem.F.type_list_append bh (pv 2) (aa (aL nZ hr U (aa (pv 4) (aa (au bK ag (au aO (au bK (au aO (au fC (pv 4) ag) ag) ag) (aF aG (pv 1) (pv 3) (λ_ _=>U)))) ae))) ae))))))
  (ai (aw (pv 2))))),?_⟩
 refine⟨(by show 0<=GH;decide),λl hl=>?_⟩;have S:ar H (upd H l (.lst [])):=af hl _;have e0:upd H l (.lst []) l=Kb (.lst []):=ab;generalize upd H l (.lst [])=H0 at S e0⊢;have a6:(k.map V.int).length=k.length:=bx _;refine⟨_,U,m,_,U,.inl (S.seq hM),_,U,(by show -(2^62)<=(((k.map V.int).length:Nat):Int);lia),(by show(((k.map V.int).length:Nat):Int)<2^62;lia),cc (λi R D=>ar H D/\∃(p:List V)(b:List (List Int))(c3 c4:Option V),D l=Kb (.lst p)/\ax p b (λr g=>r≠l/\D r=Kb (.lst (g.map V.int)))/\pQ T b/\b.length=i/\(∀(j:Nat)(g:List Int)(x:Int),b[j]?=Kb g->k[j]?=Kb x->(g.length:Int)<=x+1)/\(∀g∈b,∀x∈g,∀y∈g,y-x<=12*10^56)/\R=[Kb (.ref a),Kb (.ref m),Kb (.ref l),c3,c4]) ⟨S,[],[],_,_,e0,ax.nil,⟨(λg h=>by cases h),(λj g e=>by simp at e)⟩,U,(λj g x e=>by simp at e),(λg h=>by cases h),U⟩ (λi R D hi Z=>?_) (λR D Z=>?_)⟩
 .obtain⟨G,p,b,c3,c4,I,N,O,c,v,u,rfl⟩:=Z;have C:i<k.length:=by lia
  have a7:=hq _ (nC C);have a2:atI (k.map V.int) (0+(i:Int))=Kb (.int k[i]):=nQ (get_map (Gy C));refine⟨_,U,_,U,_,_,U,U,a,T,_,U,G.seq hS,(by show 0<=1+(0+(i:Int));lia),?_⟩;have o:∃L,L=cA T (1+(0+(i:Int))):=⟨_,U⟩;obtain⟨L,o⟩:=o;rw[←o];have W:(0:Int)<k[i]:=by lia
  have y0:=Dq (L*48271%1009+1) (Int.ne_of_gt W);have y1:=Dt (L*48271%1009+1) W;refine⟨_,U,.inl ⟨U,_,SqL.of I⟩,_,U,_,U,_,_,U,U,.inr ⟨by decide,by decide⟩,_,_,U,U,(by show(0:Int)<1009;decide),_,_,U,U,_,U,_,U,m,_,_,_,U,U,G.seq hM,a2,_,_,U,U,W,_,_,U,U,L,_,U,by lia,by lia,λr g H2 t nr er a1 hw a5 a0=>?_⟩;have a3:=t _ _ I;have a8:p.length=i:=by rw[N.1,c]
  have M:r≠l:=λz=>by rw[z,I]at nr;cases nr
  refine⟨l,_,_,U,U,a3,az (by lia),?_⟩;refine⟨(G.trans t).upd hl,p++[.ref r],b++[g],_,_,ab,ax.snoc (ax.mono N λr' n h=>⟨h.1,(ay h.1).trans (t _ _ h.2)⟩) ⟨M,(ay M).trans er⟩,⟨λn d=>?_,λj n e hc=>?_⟩,by simp[c],(λj n x J e2=>?_),(λn d=>(gg.mp d).elim (u n) λz=>by rw[hZ.mp z];exact a0),U⟩
  .rcases gg.mp d with d | d
   .exact O.pts n d
   .rw[show n=g by simpa using d];exact a1
  .by_cases X:j<b.length
   .rw[iP X]at e;exact O.wrd j n e hc
   .have B:j=b.length:=by
     have:=(Gz.mp e).1;simp at this;lia
    subst B;simp at e;subst e;rw[c,←o]at hc;exact hw hc
  .by_cases X:j<b.length
   .rw[iP X]at J;exact v j n x J e2
   .have B:j=b.length:=by
     have:=(Gz.mp J).1;simp at this;lia
    subst B;simp at J;subst J;rw[c,Gy C]at e2;cases e2;lia
 .obtain⟨G,p,b,c3,c4,I,N,O,c,v,u,rfl⟩:=Z;exact⟨_,U,q l p b D G I (ax.mono N λ_ _ h=>h.2) O (by lia) v u⟩
theorem EC(F:Fun K "_law_other" "_law_other" Y57 f fd) (bl:Bl K mg Y)(jq:Callee P w K mg base 1 "_law_row" ["cell","points","outs"] (gB K Y)):aK P w K mg base CX0 2 f fd ["rows","cell","points","outs"] (gE K Y):=by
 refine F.okA Z57 λg9 A g5 s H vs Q E hr h=>?_
 obtain⟨M,pl,ol,c,a,m,xs,a4,os,oc,rfl,a7,b1,g8,hok,d4,b5,b3,I,a5,d5,c8,q⟩:=h
 refine⟨_,(aj (aM (aE br (av ao U bl.len_ Ka (aa (pv 0) ae)) ag (aH _))
  (ai (aw (aR (aa (aL jq hr U (aa (pv 1) (aa (pv 2) (aa (pv 3) ae)))) ae))))
  aC)
  (aj (aI (i:=4) Z57.nd U (Or.inl U) (au aO (pv 1) ag))
  (aj (aI (i:=5) Z57.nd U (Or.inl U) (au aO (au bF (pv 1) ag) (av ao U bl.len_ Ka (aa (pv 0) ae))))
  (aj (aI (i:=6) Z57.nd U (Or.inl U) (bB bV U bl.list_ PyProof.Rows.boot_list (aa (aF bc (aF aG (pv 0) (pv 5) (λ_ _=>U)) ag (λ_ _=>U)) ae)))
  (aj (aI (i:=7) Z57.nd U (Or.inl U) (au aO (au bF (pv 1) ag) (av ao U bl.len_ Ka (aa (pv 6) ae))))
  (aj (aI (i:=8) Z57.nd U (Or.inl U) (au aO (au bF (pv 1) ag) (au cx (av ao U bl.len_ Ka (aa (aF aG (pv 2) (pv 7) (λ_ _=>U)) ae)) ag)))
  (aj (lN (au Ab (aF aG (pv 6) (pv 7) (λ_ _=>U)) (au ph ag (pv 8))) (lM (pv 6) (pv 7) set_list))
  (aj (aI (i:=9) Z57.nd U (Or.inl U) (aY (aa (bB bV U bl.list_ PyProof.Rows.boot_list (aa (aF bc (aF aG (pv 0) (pv 5) (λ_ _=>U)) ag (λ_ _=>U)) ae)) (aa (aF aG (pv 3) (au aO (au bF (pv 1) ag) ag) (λ_ _=>U)) ae))))
  (aj (aM (aE br (pv 4) ag (aH _))
  (ai (aw (sQ U U bl.list_ U bl.reversed_ (aa (pv 0) ae))))
  aC)
  (aj (aM (aE br (pv 4) ag (aH _))
  (ai (aw (au dz (au dz (cq dR (pv 0) cY (cZ (pv 5))) (aR (aa (pv 9) ae))) (cq dR (pv 0) (cZ (au bK (pv 5) ag)) cY))))
  aC)
  (aj (aM (aE br (pv 4) ag (aH _))
  (ai (aw (au dz (cq dR (pv 0) cY (cZ (pv 5))) (cq dR (pv 0) (cZ (au bK (pv 5) ag)) cY))))
  aC)
  (aj (aM (aE br (pv 4) ag (aH _))
  (ai (aw (au dz (au dz (cq dR (pv 0) cY (cZ (pv 5))) (aR (aa (aY (aa (pv 6) (aa (aF bc (aF aG (pv 0) (pv 5) (λ_ _=>U)) ag (λ_ _=>U)) ae))) ae))) (cq dR (pv 0) (cZ (au bK (pv 5) ag)) cY))))
  aC)
  (aj (aM (aE br (pv 4) ag (aH _))
  (ai (aw (au dz (cq dR (pv 0) (cZ (pv 5)) cY) (cq dR (pv 0) cY (cZ (pv 5))))))
  aC)
  (ai (aw (bB bV U bl.list_ PyProof.Rows.boot_list (aa (pv 0) ae))))))))))))))))),?_⟩
 have g7:a.length=m.length:=b1.1;have g6:xs.length=a4.length:=b5.1;refine⟨_,U,M,_,U,.inl (SqL.of a7),U,_,U,?_⟩;refine bq (λg=>?_) (λg=>?_)
 .refine⟨_,U,_,U,_,U,c,pl,ol,xs,a4,os,oc,U,d4,b5,a5,b3,d5,c8,λr g4 mm cd H1 s1 nr nb er eb f6 f5 g1=>⟨(by show 1<=GH;decide),λl hl=>?_⟩⟩;have u1:=af hl (.lst [.ref r]);refine q l _ [(mm,cd)] _ (s1.trans u1) ab ⟨U,λj b e=>?_⟩ (by show 1<=a.length+1;lia) λb d=>?_
  .have hj:=(Gz.mp e).1;rw[hQ]at hj;have f8:j=0:=by lia
   subst f8;cases e;exact⟨r,U,g4,u1 _ _ er,u1 _ _ eb⟩
  .rw[hZ.mp d];exact⟨f6,g1,f5⟩
 have h0:a.length≠0:=λz=>g (Kl (by rw[z];rfl))
 have c2:(0:Int)<((a.length:Nat):Int):=by lia
 refine⟨_,U,_,_,U,U,(by show(0:Int)<6;decide),_,U,_,_,U,U,⟨by decide,by decide⟩,_,U,M,_,U,.inl (SqL.of a7),_,_,U,U,c2,?_⟩;have k0:=Dq (c / 6) (Int.ne_of_gt c2);have k1:=Dt (c / 6) c2;obtain⟨k,hk⟩:∃k:Nat,c / 6%((a.length:Nat):Int)=(k:Int):=⟨(c / 6%((a.length:Nat):Int)).toNat,by lia⟩;rw[hk]at k0 k1⊢;have f7:k<m.length:=by lia
 have ek:=Gy f7;generalize m[k]=bk at ek;obtain⟨ra,e1,e6,e2,e3⟩:=b1.2 k bk ek;obtain⟨w1,w2,b0⟩:=hok bk (GB ek);have a1:atI a (k:Int)=Kb (.ref ra):=aS e1;refine⟨_,U,_,U,M,_,_,_,U,U,SqL.of a7,a1,ra,_,_,_,U,U,SqT.of e2,U,e6,_,U,.inl (SqL.of e3),λb2 d3=>?_⟩;have u2:=af d3 (.lst (bk.1.map V.int));have a8:upd H b2 (.lst (bk.1.map V.int)) b2=Kb (.lst (bk.1.map V.int)):=ab;generalize upd H b2 (.lst (bk.1.map V.int))=H2 at u2 a8⊢;have d2:(bk.1.map V.int).length=a4.length:=by rw[bx,w1]
 have A4:(0:Int)<(((bk.1.map V.int).length:Nat):Int):=by rw[d2];lia
 refine⟨_,U,_,_,U,U,⟨by decide,by decide⟩,_,U,b2,_,U,.inl (SqL.of a8),_,_,U,U,A4,?_⟩;have c0:=Dq (c / 11) (Int.ne_of_gt A4);have c1:=Dt (c / 11) A4;obtain⟨B,g0⟩:∃B:Nat,c / 11%(((bk.1.map V.int).length:Nat):Int)=(B:Int):=⟨(c / 11%(((bk.1.map V.int).length:Nat):Int)).toNat,by lia⟩;rw[g0]at c0 c1⊢;rw[d2]at c1;have c3:=Gy (l:=a4) (i:=B) (by lia);obtain⟨pa,g3,c7⟩:=b5.2 B _ c3;have ED:=(b3 _ (GB c3)).two;have EE:=(b3 _ (GB c3)).few;generalize a4[B]=ps at c7 ED EE;have a2:atI xs (B:Int)=Kb (.ref pa):=aS g3;have c9:((((ps.map V.int).length:Nat):Int)-1)=((ps.length:Nat):Int)-1:=by rw[bx]
 have u:(0:Int)<(((ps.map V.int).length:Nat):Int)-1:=by rw[c9];lia
 refine⟨_,U,_,_,U,U,⟨by decide,by decide⟩,_,U,_,U,pl,_,_,_,U,U,SqL.of (u2 _ _ d4),a2,pa,_,U,.inl (SqL.of (u2 _ _ c7)),_,_,U,U,_,_,U,U,u,?_⟩;have d0:=Dq (c / 13) (Int.ne_of_gt u);have d1:=Dt (c / 13) u;rw[c9]at d0 d1⊢;generalize c / 13%(((ps.length:Nat):Int)-1)=ob at d0 d1⊢;have eb:=Gy (l:=bk.1) (i:=B) (by lia);have a3:atI (bk.1.map V.int) (B:Int)=Kb (.int bk.1[B]):=aS (get_map eb);have c6:=b0 _ (nC (l:=bk.1) (n:=B) (by lia));generalize bk.1[B]=xv at a3 c6;refine⟨_,U,_,U,b2,_,_,_,U,U,SqL.of a8,a3,_,U,_,_,U,U,⟨by lia,by lia,by decide⟩,_,_,U,U,_,U,_,U,b2,_,_,_,U,U,a8,ux (by lia),?_⟩;have c5:0<=Hw.bitXor xv (1*2^ob.toNat):=AY c6 (by rw[Int.one_mul];exact Int.le_of_lt (DK (by decide)));generalize Hw.bitXor xv (1*2^ob.toNat)=zv at c5⊢;have u3:ar H (upd H2 b2 (.lst ((bk.1.map V.int).set B (.int zv)))):=u2.upd d3;have EF:(bk.1.map V.int).set B (.int zv)=(bk.1.set B zv).map V.int:=by rw[List.map_set]
 rw[EF]at u3⊢;have e5:upd H2 b2 (.lst ((bk.1.set B zv).map V.int)) b2=Kb (.lst ((bk.1.set B zv).map V.int)):=ab;generalize upd H2 b2 (.lst ((bk.1.set B zv).map V.int))=H3 at u3 e5⊢;have Cr:∀x∈bk.1.set B zv,0<=x:=λx hx=>by
  rcases List.mem_or_eq_of_mem_set hx with hx|hx
  .exact b0 x hx
  .rw[hx];exact c5
 refine⟨_,U,_,U,M,_,_,_,U,U,SqL.of (u3 _ _ a7),a1,ra,_,_,_,U,U,SqT.of (u3 _ _ e2),U,e6,_,U,.inl (SqL.of (u3 _ _ e3)),λb4 g2=>?_⟩;have t4:=af g2 (.lst (bk.1.map V.int));have e4:upd H3 b4 (.lst (bk.1.map V.int)) b4=Kb (.lst (bk.1.map V.int)):=ab;have u4:=u3.trans t4;have Cs:=t4 _ _ e5;generalize upd H3 b4 (.lst (bk.1.map V.int))=H4 at t4 e4 u4 Cs⊢;obtain⟨x0,x1,x2,x3,x4,rfl,_⟩:=id c8;have e8:=Dq (c / 7) (show(5:Int)≠0 by decide);have e7:=Dt (c / 7) (show(0:Int)<5 by decide);obtain⟨ov,e9,EG⟩:∃ov:Int,atI ([x0,x1,x2,x3,x4].map V.int) (c / 7%5)=Kb (.int ov)/\ov∈[x0,x1,x2,x3,x4]:=by
  generalize c / 7%5=kk at e8 e7;have:kk=0\/kk=1\/kk=2\/kk=3\/kk=4:=by lia
  rcases this with rfl|rfl|rfl|rfl|rfl
  .exact⟨x0,U,by simp⟩
  .exact⟨x1,U,by simp⟩
  .exact⟨x2,U,by simp⟩
  .exact⟨x3,U,by simp⟩
  .exact⟨x4,U,by simp⟩
 refine⟨_,U,_,U,_,_,U,U,⟨by decide,by decide⟩,_,_,U,U,(by show(0:Int)<5;decide),ol,_,_,_,U,U,SqL.of (u4 _ _ d5),e9,bu,λW f9=>?_⟩;have t5:=af f9 (.tup [.ref b4,.int ov]);have e0:upd H4 W (.tup [.ref b4,.int ov]) W=Kb (.tup [.ref b4,.int ov]):=ab;have u5:=u4.trans t5;have Ct:=t5 _ _ e4;have Cu:=t5 _ _ Cs;generalize upd H4 W (.tup [.ref b4,.int ov])=H5 at t5 e0 u5 Ct Cu⊢;have X:=u5 _ _ a7;have S:BRL H5 a m:=b1.same u5;have a9:jQ a Kc (Kb (k:Int))=a.take k:=xl (by lia);have c4:jQ a (Kb ((k:Int)+1)) Kc=a.drop (k+1):=by
  rw[qW (by lia) (by lia)];rfl
 have EH:jQ a (Kb (k:Int)) Kc=a.drop k:=by
  rw[qW (by lia) (by lia)];rfl
 have R:∀{ys zs:List V},ys.length+zs.length<=60->ys.length+zs.length<=GH:=λh=>zf (az (by lia))
 generalize c%6=kd;refine⟨_,U,U,_,U,?_⟩;refine bq (λ_=>?_) (λ_=>?_)
 .exact⟨_,U,M,_,U,SqL.of X,λp hp=>q p _ m.reverse _ (u5.trans (af hp _)) ab (ax.revR (S.same (af hp _))) (by rw[xT];lia) (hok.sub λb d=>List.mem_reverse.mp d)⟩
 refine⟨_,U,U,_,U,?_⟩;refine bq (λ_=>?_) (λ_=>?_)
 .refine⟨_,U,_,U,_,U,M,_,U,SqL.of X,λD I=>?_⟩;rw[a9];have L:=af I (.lst (a.take k));have f1:upd H5 D (.lst (a.take k)) D=Kb (.lst (a.take k)):=ab;generalize upd H5 D (.lst (a.take k))=G1 at L f1⊢;have vA:ar G1 G1:=ar.refl _;refine⟨_,U,(by show 1<=GH;decide),λC u=>?_⟩;have J:=af u (.lst [.ref W]);have Z:upd G1 C (.lst [.ref W]) C=Kb (.lst [.ref W]):=ab;have y:=J _ _ (vA _ _ f1);have t:=(L.trans vA).trans J;generalize upd G1 C (.lst [.ref W])=G2 at J Z y t⊢;refine⟨D,C,_,_,U,U,y,Z,R (by rw[ik,hQ];lia),λO N=>?_⟩;have v3:=af N (.lst (a.take k++[.ref W]));have f3:upd G2 O (.lst (a.take k++[.ref W])) O=Kb (.lst (a.take k++[.ref W])):=ab;have o:=t.trans v3;generalize upd G2 O (.lst (a.take k++[.ref W]))=G3 at v3 f3 o⊢;refine⟨_,U,_,U,_,_,U,U,_,U,M,_,U,SqL.of (o _ _ X),λp4 a5=>?_⟩;rw[c4];have v4:=af a5 (.lst (a.drop (k+1)));have f4:upd G3 p4 (.lst (a.drop (k+1))) p4=Kb (.lst (a.drop (k+1))):=ab;have a6:=v4 _ _ f3;have a0:=o.trans v4;generalize upd G3 p4 (.lst (a.drop (k+1)))=G4 at v4 f4 a6 a0⊢;refine⟨O,p4,_,_,U,U,a6,f4,R (by rw[cK,ik,hQ,jB];lia),λp5 b6=>?_⟩;have v5:=af b6 (.lst (a.take k++[.ref W]++a.drop (k+1)));have G:=a0.trans v5;have v:=S.same G;refine q p5 _ (m.take k++[(bk.1,ov)]++m.drop (k+1)) _ (u5.trans G) ab (ax.appR (ax.snoc (ax.takeR v k) ⟨b4,G _ _ e0,G _ _ Ct⟩) (ax.dropR v (k+1))) (by rw[cK,cK,ik,hQ,jB];lia) λb d=>?_
  rcases gg.mp d with d|d
  .rcases gg.mp d with d|d
   .exact hok b (ro d)
   .rw[hZ.mp d];exact⟨w1,EG,b0⟩
  .exact hok b (rr d)
 refine⟨_,U,U,_,U,?_⟩;refine bq (λ_=>?_) (λ_=>?_)
 .refine⟨_,U,_,U,_,U,M,_,U,SqL.of X,λD I=>?_⟩;rw[a9];have L:=af I (.lst (a.take k));have f1:upd H5 D (.lst (a.take k)) D=Kb (.lst (a.take k)):=ab;generalize upd H5 D (.lst (a.take k))=G1 at L f1⊢;refine⟨_,U,_,U,_,_,U,U,_,U,M,_,U,SqL.of (L _ _ X),λC u=>?_⟩;rw[c4];have J:=af u (.lst (a.drop (k+1)));have Z:upd G1 C (.lst (a.drop (k+1))) C=Kb (.lst (a.drop (k+1))):=ab;have y:=J _ _ f1;have t:=L.trans J;generalize upd G1 C (.lst (a.drop (k+1)))=G2 at J Z y t⊢;refine⟨D,C,_,_,U,U,y,Z,R (by rw[ik,jB];lia),λO N=>?_⟩;have v3:=af N (.lst (a.take k++a.drop (k+1)));have o:=t.trans v3;have v:=S.same o;refine q O _ (m.take k++m.drop (k+1)) _ (u5.trans o) ab (ax.appR (ax.takeR v k) (ax.dropR v (k+1))) (by rw[cK,ik,jB];lia) λb d=>?_
  rcases gg.mp d with d|d
  .exact hok b (ro d)
  .exact hok b (rr d)
 refine⟨_,U,U,_,U,?_⟩;refine bq (λ_=>?_) (λ_=>?_)
 .refine⟨_,U,_,U,_,U,M,_,U,SqL.of X,λD I=>?_⟩;rw[a9];have L:=af I (.lst (a.take k));have f1:upd H5 D (.lst (a.take k)) D=Kb (.lst (a.take k)):=ab;generalize upd H5 D (.lst (a.take k))=G1 at L f1⊢;refine⟨_,U,_,U,_,U,M,_,_,_,U,U,SqL.of (L _ _ X),a1,ra,_,_,_,U,U,SqT.of (L _ _ (u5 _ _ e2)),U,bu,λT f0=>?_⟩;have vA:=af f0 (.tup [.ref b2,.int bk.2]);have d7:upd G1 T (.tup [.ref b2,.int bk.2]) T=Kb (.tup [.ref b2,.int bk.2]):=ab;generalize upd G1 T (.tup [.ref b2,.int bk.2])=GA at vA d7⊢;refine⟨(by show 1<=GH;decide),λC u=>?_⟩;have J:=af u (.lst [.ref T]);have Z:upd GA C (.lst [.ref T]) C=Kb (.lst [.ref T]):=ab;have y:=J _ _ (vA _ _ f1);have t:=(L.trans vA).trans J;generalize upd GA C (.lst [.ref T])=G2 at J Z y t⊢;refine⟨D,C,_,_,U,U,y,Z,R (by rw[ik,hQ];lia),λO N=>?_⟩;have v3:=af N (.lst (a.take k++[.ref T]));have f3:upd G2 O (.lst (a.take k++[.ref T])) O=Kb (.lst (a.take k++[.ref T])):=ab;have o:=t.trans v3;generalize upd G2 O (.lst (a.take k++[.ref T]))=G3 at v3 f3 o⊢;refine⟨_,U,_,U,_,_,U,U,_,U,M,_,U,SqL.of (o _ _ X),λp4 a5=>?_⟩;rw[c4];have v4:=af a5 (.lst (a.drop (k+1)));have f4:upd G3 p4 (.lst (a.drop (k+1))) p4=Kb (.lst (a.drop (k+1))):=ab;have a6:=v4 _ _ f3;have a0:=o.trans v4;generalize upd G3 p4 (.lst (a.drop (k+1)))=G4 at v4 f4 a6 a0⊢;refine⟨O,p4,_,_,U,U,a6,f4,R (by rw[cK,ik,hQ,jB];lia),λp5 b6=>?_⟩;have v5:=af b6 (.lst (a.take k++[.ref T]++a.drop (k+1)));have G:=a0.trans v5;have v:=S.same G;have vB:=(J.trans v3).trans (v4.trans v5);refine q p5 _ (m.take k++[(bk.1.set B zv,bk.2)]++m.drop (k+1)) _ (u5.trans G) ab (ax.appR (ax.snoc (ax.takeR v k) ⟨b2,vB _ _ d7,G _ _ Cu⟩) (ax.dropR v (k+1))) (by rw[cK,cK,ik,hQ,jB];lia) λb d=>?_
  rcases gg.mp d with d|d
  .rcases gg.mp d with d|d
   .exact hok b (ro d)
   .rw[hZ.mp d];exact⟨by show(bk.1.set B zv).length=_;rw[oD];exact w1,w2,Cr⟩
  .exact hok b (rr d)
 refine⟨_,U,U,_,U,?_⟩;refine bq (λ_=>?_) (λ_=>?_)
 .refine⟨_,U,_,U,_,U,M,_,U,SqL.of X,λD I=>?_⟩;rw[EH];have L:=af I (.lst (a.drop k));have f1:upd H5 D (.lst (a.drop k)) D=Kb (.lst (a.drop k)):=ab;generalize upd H5 D (.lst (a.drop k))=G1 at L f1⊢;refine⟨_,U,_,U,_,U,M,_,U,SqL.of (L _ _ X),λC u=>?_⟩;rw[a9];have J:=af u (.lst (a.take k));have Z:upd G1 C (.lst (a.take k)) C=Kb (.lst (a.take k)):=ab;have y:=J _ _ f1;have t:=L.trans J;generalize upd G1 C (.lst (a.take k))=G2 at J Z y t⊢;refine⟨D,C,_,_,U,U,y,Z,R (by rw[jB,ik];lia),λO N=>?_⟩;have v3:=af N (.lst (a.drop k++a.take k));have o:=t.trans v3;have v:=S.same o;refine q O _ (m.drop k++m.take k) _ (u5.trans o) ab (ax.appR (ax.dropR v k) (ax.takeR v k)) (by rw[cK,jB,ik];lia) λb d=>?_
  rcases gg.mp d with d|d
  .exact hok b (rr d)
  .exact hok b (ro d)
 exact⟨_,U,M,_,U,.inl (SqL.of X),λp hp=>q p _ m _ (u5.trans (af hp _)) ab (S.same (af hp _)) (by lia) hok⟩
theorem EI(F:Fun K "_law_put" "_law_put" Y62 f fd) (bl:Bl K mg Y)(n4:Callee P w K mg base 1 "_law_within" ["box","codes"] (fJ K Y)):aK P w K mg base CX0 2 f fd ["told","spots","now"] (jn K Y):=by
 refine F.okA Z62 λc9 A b5 s H vs Q E hr h=>?_
 obtain⟨tl,sl,nl,xs,TL,W,M,u,O,T,rfl,a6,hC,c3,a7,a4,L,I,c8,b6,c2,a8,EJ,q⟩:=h
 refine⟨_,(aj (aI (i:=3) Z62.nd U (Or.inl U) (bB bV U bl.list_ PyProof.Rows.boot_list (aa (pv 2) ae)))
  (aj (bg Hn.never U (aX U bl.range_ (aa (av ao U bl.len_ Ka (aa (pv 1) ae)) ae)) (aD (i:=4) Z62.nd U (Or.inr U))
  (aj (lA (i:=5) Z62.nd U (Or.inl U) (aW (pv 0)) (bD (N:=["part","spots","k"]) (fr:=[1,4]) (cl:=[("spots",s.heap.objs.size+1),("k",s.heap.objs.size+1+1)]) U U (by decide+kernel) (by decide+kernel) U (by decide+kernel) U U U (ij.mpr ⟨U,ij.mpr ⟨U,js _⟩⟩) U) U (λ_ _ _ _=>(iF (df (aL n4 hr U (aa (aF (fk (K:=K) U) (pv 0) ag (λ_ _=>U)) (aa (aF (dB (K:=K) U) (pv 1) (pv 2) (λ_ _=>U)) ae)))))) (λ_ _ _ _=>(pv 0)))
  (aj (aM (aE kM (av ao U bl.len_ Ka (aa (pv 5) ae)) ag (aH _))
  (ai (aw rH))
  aC)
  (ai (aM (aE br (av ao U bl.len_ Ka (aa (pv 5) ae)) ag (aH _))
  (aj (aM (PW.pt (tU (aE (wt hr) (aF bc (aF aG (pv 5) ag (λ_ _=>U)) ag (λ_ _=>U)) (aF aG (pv 2) (pv 4) (λ_ _=>U)) (aH _)) (pf (aE (wq hr) (aF bc (aF aG (pv 5) ag (λ_ _=>U)) ag (λ_ _=>U)) (aF aG (pv 2) (pv 4) (λ_ _=>U)) (aH _)))))
  (ai (aw rH))
  aC)
  (ai (lN (aF bc (aF aG (pv 5) ag (λ_ _=>U)) ag (λ_ _=>U)) (lM (pv 3) (pv 4) set_list))))
  aC)))))
  (ai (aw (pv 3))))),?_⟩
 have a9:xs.length=TL.length:=Paired.length hC;have c6:W.length=M.length:=a4.1;have c7:u.length=O.length:=I.1;refine⟨_,U,nl,_,U,.inl (SqL.of L),λr hw=>?_⟩;have s0:=af hw (.lst u);have e0:upd H r (.lst u) r=Kb (.lst u):=ab;generalize upd H r (.lst u)=H0 at s0 e0⊢;refine⟨_,U,sl,_,U,.inl (SqL.of (s0 _ _ a7)),_,U,(by show -(2^62)<=((W.length:Nat):Int);lia),(by show((W.length:Nat):Int)<2^62;lia),cc (λi σ z=>ar H z/\∃(c:List V)(c4 c5:Option V),z r=Kb (.lst c)/\ax c (T.take i++O.drop i) (Vd K z)/\σ=[Kb (.ref tl),Kb (.ref sl),Kb (.ref nl),Kb (.ref r),c4,c5]) ⟨s0,u,Kc,Kc,e0,(by rw[List.take_zero,List.drop_zero,yl];exact ax.mono I λ_ _ h=>h.mono s0.tups),U⟩ (λi σ z hi h=>?_) (λσ z h=>?_)⟩
 .obtain⟨R,c,c4,c5,J,m,rfl⟩:=h;have b1:i<M.length:=by lia
  have ec:=Gy b1;generalize M[i]=cs at ec;have ex:=Gy (l:=O) (i:=i) (by lia);generalize O[i]=x at ex;have ey:=Gy (l:=T) (i:=i) (by lia);generalize T[i]=y at ey;obtain⟨sa,b3,b0⟩:=a4.2 i cs ec;obtain⟨ra,b4,a5⟩:=I.2 i x ex;obtain⟨B,hB⟩:=EJ i cs x y ec ex ey;have a1:atI W (0+(i:Int))=Kb (.ref sa):=by rw[Dv];exact aS b3
  have a2:atI u (0+(i:Int))=Kb (.ref ra):=by rw[Dv];exact aS b4
  have c1:c.length=O.length:=by rw[m.1,cK,ik,jB];lia
  refine⟨_,U,tl,U,⟨_,SqL.of (R _ _ a6)⟩,dq (xs:=xs) (λD j v k=>ar z k/\k D=Kb (.lst v)/\ChL K k v ((TL.take j).filter λq=>wth q.1 cs)) (λD hD=>⟨af hD _,ab,.nil⟩) (λD j v k hD _ Z=>SqL.of (Z.1 _ _ (R _ _ a6))) (λD j y_ v k hD e Z=>?_) (λD v k hD Z=>?_)⟩
  .obtain⟨s2,d,n⟩:=Z;obtain⟨X,eq,tt,b,r1,r2,p,rfl,ep,S,hb,C,o⟩:=eW hC e;have hj:j<xs.length:=(Gz.mp e).1;have a:=R.trans s2;obtain⟨w1,w2⟩:=a8 X (GB eq) cs (GB ec);have c0:v.length=((TL.take j).filter λq=>wth q.1 cs).length:=Paired.length n;have EK:((TL.take j).filter λq=>wth q.1 cs).length<=300:=yW (lI _ _) (by rw[ik];lia);have a0:((TL.take (j+1)).filter λq=>wth q.1 cs)=((TL.take j).filter λq=>wth q.1 cs)++if wth X.1 cs=Kd then[X] else[]:=by
    rw[take_snoc eq,nq];by_cases h:wth X.1 cs=Kd
    .rw[Kj h,pb (p:=λq:List (Int×Int)×OP=>wth q.1 cs) h];rfl
    .rw[Ki h,pk (p:=λq:List (Int×Int)×OP=>wth q.1 cs) h];rfl
   refine⟨_,U,tt,_,_,_,U,U,SqT.of (a _ _ S),U,_,U,_,U,sl,_,_,_,U,U,SqL.of (a _ _ a7),a1,b,sa,X.1,cs,U,hb.mono a.tups,a _ _ b0,w1,w2,_,U,?_⟩;refine bq (λg=>?_) (λg=>?_)
   .refine⟨_,U,cB.mk hj d (az (by lia)) ⟨s2.upd hD,ab,?_⟩⟩;rw[a0,Kj g];have t:bM k (upd k D (.lst (v++[.ref tt]))):=aP d;exact gx (ChL.mono n t) (.cons ⟨tt,b,r1,r2,p,U,ep,t _ _ (a _ _ S),(hb.mono a.tups).mono t,(C.mono a.tups).mono t,(o.mono a.tups).mono t⟩ .nil)
   .refine dG.mk hj ⟨s2,d,?_⟩;rw[a0,Ki g,jv];exact n
  .obtain⟨s2,d,n⟩:=Z;rw[a9,ip,hB]at n;have a:=R.trans s2;have A5:=s2 _ _ J;have Cv:ax c (T.take i++O.drop i) (Vd K k):=ax.mono m λ_ _ h=>h.mono s2.tups
   by_cases G:x=y
   .subst G;rw[show dpr x x=Kc from Kj U]at n;cases n;refine⟨_,U,D,_,U,.inl (SqL.of d),_,_,U,U,_,U,bq (λg=>Kk (Kn g) (by decide)) (λ_=>?_)⟩;refine⟨_,U,D,_,U,.inl (SqL.of d),U,_,U,bq (λg=>Kk (Kn g) (by decide)) (λ_=>?_)⟩;exact⟨a,c,_,_,A5,by rw[yT ey ex];exact Cv,U⟩
   .rw[show dpr x y=Kb (x,y)from Ki G]at n;cases n with
    |cons h0 t0 =>
     cases t0;obtain⟨tt,b,r1,r2,p,rfl,ep,S,hb,C,o⟩:=h0;have ep:(Kb (x,y):OP)=Kb p:=ep;cases ep;have a3:ixN c.length (0+(i:Int))=Kb i:=by rw[Dv];exact ux (by lia)
     refine⟨_,U,D,_,U,.inl (SqL.of d),_,_,U,U,_,U,bq (λg=>Kk (Kn g) (by show ¬ (1:Int)<((1:Nat):Int);decide)) (λ_=>?_)⟩;refine⟨_,U,D,_,U,.inl (SqL.of d),U,_,U,bq (λ_=>?_) (λg=>Kk (Kl U) g)⟩;refine⟨_,U,D,_,_,_,U,U,SqL.of d,U,tt,_,_,_,U,U,SqT.of S,U,_,U,_,U,nl,_,_,_,U,U,SqL.of (a _ _ L),a2,uA C.sq (a5.mono a.tups).sq ⟨_,U,bq (λg=>Kk U (Kn g)) (λ_=>?_)⟩⟩;refine⟨_,U,D,_,_,_,U,U,SqL.of d,U,tt,_,_,_,U,U,SqT.of S,U,_,U,_,U,nl,_,_,_,U,U,SqL.of (a _ _ L),a2,uC o.sq (a5.mono a.tups).sq ⟨_,U,bq (λg=>Kk (Kn g).symm G) (λ_=>?_)⟩⟩;refine⟨_,U,D,_,_,_,U,U,SqL.of d,U,tt,_,_,_,U,U,SqT.of S,U,_,U,_,U,r,_,_,_,U,U,A5,a3,?_⟩;have t:bM k (upd k r (.lst (c.set i (.ref r2)))):=aP A5;refine⟨a.upd hw,c.set i (.ref r2),_,_,ab,?_,U⟩;rw[yS ey ex];exact ax.put i (ax.mono Cv λ_ _ h=>h.mono t) (o.mono t)
 .obtain⟨R,c,c4,c5,J,m,rfl⟩:=h;have hn:(((W.length:Nat):Int)).toNat=T.length:=by lia
  rw[hn,ip,List.drop_of_length_le (by lia),jv]at m;exact⟨_,U,q r c z R J m⟩
theorem O_4(F:Fun K "__init__" "First.__init__" Y4 f fd) (bl:Bl K mg Y)(e:cb CX0 P w K mg base 1 "Way" "__init__" ["self","called"] (cy K Y)):aK P w K mg base CX0 2 f fd ["self"] (J0 K Y):=by
 refine F.ok Z4 (λd H Q E h=>?_) (λi A a s H d Q E g h=>?_)
 .obtain⟨x,c,rfl,b,q⟩:=h;rfl
 obtain⟨x,c,rfl,b,q⟩:=h;refine⟨_,(ai (aV (fq e bL g U (aa (pv 0) (aa aQ ae))))),?_⟩;exact⟨_,U,x,c,_,U,b,q⟩
theorem EL(F:Fun K "__init__" "Only.__init__" Y13 f fd) (bl:Bl K mg Y)(e:cb CX0 P w K mg base 1 "Way" "__init__" ["self","called"] (cH K Y)):aK P w K mg base CX0 2 f fd ["self"] (J8 K Y):=by
 refine F.ok Z13 (λd H Q E h=>?_) (λi A a s H d Q E g h=>?_)
 .obtain⟨x,c,rfl,b,q⟩:=h;rfl
 obtain⟨x,c,rfl,b,q⟩:=h;refine⟨_,(ai (aV (fq e bL g U (aa (pv 0) (aa aQ ae))))),?_⟩;exact⟨_,U,x,c,_,U,b,q⟩
theorem O_8(F:Fun K "__init__" "Like.__init__" Y8 f fd) (bl:Bl K mg Y)(e:cb CX0 P w K mg base 1 "Way" "__init__" ["self","called"] (cI K Y)):aK P w K mg base CX0 2 f fd ["self"] (J4 K Y):=by
 refine F.ok Z8 (λd H Q E h=>?_) (λi A a s H d Q E g h=>?_)
 .obtain⟨x,c,rfl,b,q⟩:=h;rfl
 obtain⟨x,c,rfl,b,q⟩:=h;refine⟨_,(ai (aV (fq e bL g U (aa (pv 0) (aa aQ ae))))),?_⟩;exact⟨_,U,x,c,_,U,b,q⟩
theorem EM(F:Fun K "__init__" "Low.__init__" Y10 f fd) (bl:Bl K mg Y)(e:cb CX0 P w K mg base 1 "Way" "__init__" ["self","called"] (cS K Y)):aK P w K mg base CX0 2 f fd ["self"] (J6 K Y):=by
 refine F.ok Z10 (λd H Q E h=>?_) (λi A a s H d Q E g h=>?_)
 .obtain⟨x,c,rfl,b,q⟩:=h;rfl
 obtain⟨x,c,rfl,b,q⟩:=h;refine⟨_,(ai (aV (fq e bL g U (aa (pv 0) (aa aQ ae))))),?_⟩;exact⟨_,U,x,c,_,U,b,q⟩
theorem O_6(F:Fun K "__init__" "High.__init__" Y6 f fd) (bl:Bl K mg Y)(e:cb CX0 P w K mg base 1 "Way" "__init__" ["self","called"] (cJ K Y)):aK P w K mg base CX0 2 f fd ["self"] (J2 K Y):=by
 refine F.ok Z6 (λd H Q E h=>?_) (λi A a s H d Q E g h=>?_)
 .obtain⟨x,c,rfl,b,q⟩:=h;rfl
 obtain⟨x,c,rfl,b,q⟩:=h;refine⟨_,(ai (aV (fq e bL g U (aa (pv 0) (aa aQ ae))))),?_⟩;exact⟨_,U,x,c,_,U,b,q⟩
theorem EN(F:Fun K "__init__" "Sum.__init__" Y15 f fd) (bl:Bl K mg Y)(e:cb CX0 P w K mg base 1 "Way" "__init__" ["self","called"] (cU K Y)):aK P w K mg base CX0 2 f fd ["self"] (J10 K Y):=by
 refine F.ok Z15 (λd H Q E h=>?_) (λi A a s H d Q E g h=>?_)
 .obtain⟨x,c,rfl,b,q⟩:=h;rfl
 obtain⟨x,c,rfl,b,q⟩:=h;refine⟨_,(ai (aV (fq e bL g U (aa (pv 0) (aa aQ ae))))),?_⟩;exact⟨_,U,x,c,_,U,b,q⟩
theorem O_2(F:Fun K "has_code" "Domain.has_code" Y2 f fd) (bl:Bl K mg Y)(e:Callee P w K mg base 1 "is_whole" ["value"] (fB K Y)):aK P w K mg base CX0 2 f fd ["self","value"] (bO K Y):=by
 refine F.okA Z2 λn A c s H o Q E g h=>?_
 obtain⟨a,b,i,rfl,⟨p,fs,d,j,k,_⟩,m,l,q⟩:=h;refine⟨_,(ai (aw (kj (aL e g U (aa (pv 1) ae)) (lK (lO fj fj (ba (pv 0) U) (pv 1) (ba (pv 0) U)))))),?_⟩;refine⟨_,U,i,U,_,U,fO ?_⟩;refine⟨_,U,a,_,_,_,_,U,d,bl.k_Numbers,bl.na_Numbers_low,j,_,U,_,_,U,U,_,U,fu m ?_⟩;refine⟨_,U,a,_,_,_,_,U,d,bl.k_Numbers,bl.na_Numbers_high,k,_,_,U,U,?_⟩;show Q (.bl (Kf (i<=b.2))) H;rw[Kl l];exact q
theorem O_3(F:Fun K "has_code" "Domain.has_code" Y3 f fd) (bl:Bl K mg Y)(e:Callee P w K mg base 1 "is_whole" ["value"] (fB K Y)):aK P w K mg base CX0 2 f fd ["self","value"] (b9 K Y):=by
 refine F.okA Z3 λn A c s H o Q E g h=>?_
 obtain⟨a,b,i,rfl,⟨p,fs,d,j,k,_⟩,m,l,q⟩:=h;refine⟨_,(ai (aw (kj (aL e g U (aa (pv 1) ae)) (lK (lO fj fj (ba (pv 0) U) (pv 1) (ba (pv 0) U)))))),?_⟩;refine⟨_,U,i,U,_,U,fO ?_⟩;refine⟨_,U,a,_,_,_,_,U,d,bl.k_Words,bl.na_Words_low,j,_,U,_,_,U,U,_,U,fu m ?_⟩;refine⟨_,U,a,_,_,_,_,U,d,bl.k_Words,bl.na_Words_high,k,_,_,U,U,?_⟩;show Q (.bl (Kf (i<=b.2))) H;rw[Kl l];exact q
theorem EO(F:Fun K "__init__" "Numbers.__init__" Y12 f fd) (bl:Bl K mg Y)(d:cb CX0 P w K mg base 1 "Domain" "__init__" ["self","low","high"] (bN K Y)):aK P w K mg base CX0 2 f fd ["self","low","high"] (bp K Y):=by
 refine F.okA Z12 λi A a s H j Q E c h=>?_
 obtain⟨x,e,lo,hi,rfl,b,g,q⟩:=h
 refine⟨_,(aj (aM (aE kM (pv 1) (pv 2) (aH _))
  (ai bE)
  aC)
  (ai (aV (fq d bL c U (aa (pv 0) (aa (pv 1) (aa (pv 2) ae))))))),?_⟩
 exact⟨_,U,_,U,_,_,U,U,_,U,cm (by lia) ⟨_,U,_,U,_,U,x,e,lo,hi,U,b,q⟩⟩
theorem ER(F:Fun K "verdict" "Way.verdict" Y24 f fd) (bl:Bl K mg Y)(r:bo CX0 P w K mg base 1 Y.b "chosen" ["self","codes","outcome"] (J1 K Y)):aK P w K mg base CX0 2 f fd ["self","codes","outcome"] (J12 K Y):=by
 refine F.ok Z24 (λp H Q E h=>?_) (λu A i s H p Q E t h=>?_)
 .obtain⟨x,c,o,a,b,rfl,⟨m,z,e⟩,j,d,g,k,q⟩:=h;rfl
 obtain⟨x,c,o,a,b,rfl,⟨m,z,e⟩,j,d,g,k,q⟩:=h
 refine⟨_,(aj (aM (dg (du (pv 1) (by intro _;rfl)))
  (ai (aw (cz (v:=.ref Y.l) U bl.NONE_ U)))
  aC)
  (ai (aw (oE r bL bl.k_First t (pv 0) (aa (pv 1) (aa (pv 2) ae)))))),?_⟩
 refine⟨_,U,!(a.map V.int).isEmpty,.inl ⟨_,g,U⟩,?_⟩;cases a with
 |nil=>exact fO (q _ _ (ar.refl _) (.inr bl.q_NONE))
 |cons n a=>exact ck ⟨_,U,x,_,_,U,e,U,_,U,_,U,x,c,o,n,a,b,U,⟨m,z,e⟩,j,d,g,zA k,q⟩
theorem ES(F:Fun K "verdict" "Way.verdict" Y28 f fd) (bl:Bl K mg Y)(r:bo CX0 P w K mg base 1 Y.c "chosen" ["self","codes","outcome"] (J9 K Y)):aK P w K mg base CX0 2 f fd ["self","codes","outcome"] (J16 K Y):=by
 refine F.ok Z28 (λp H Q E h=>?_) (λu A i s H p Q E t h=>?_)
 .obtain⟨x,c,o,a,b,rfl,⟨m,z,e⟩,j,d,g,k,q⟩:=h;rfl
 obtain⟨x,c,o,a,b,rfl,⟨m,z,e⟩,j,d,g,k,q⟩:=h
 refine⟨_,(aj (aM (dg (du (pv 1) (by intro _;rfl)))
  (ai (aw (cz (v:=.ref Y.l) U bl.NONE_ U)))
  aC)
  (ai (aw (oE r bL bl.k_Only t (pv 0) (aa (pv 1) (aa (pv 2) ae)))))),?_⟩
 refine⟨_,U,!(a.map V.int).isEmpty,.inl ⟨_,g,U⟩,?_⟩;cases a with
 |nil=>exact fO (q _ _ (ar.refl _) (.inr bl.q_NONE))
 |cons n a=>exact ck ⟨_,U,x,_,_,U,e,U,_,U,_,U,x,c,o,n,a,b,U,⟨m,z,e⟩,j,d,g,zA k,q⟩
theorem ET(F:Fun K "verdict" "Way.verdict" Y26 f fd) (bl:Bl K mg Y)(t:bo CX0 P w K mg base 1 Y.d "chosen" ["self","codes","outcome"] (J5 K Y)):aK P w K mg base CX0 2 f fd ["self","codes","outcome"] (J14 K Y):=by
 refine F.ok Z26 (λr H Q E h=>?_) (λy A j s H r Q E u h=>?_)
 .obtain⟨x,c,o,a,b,rfl,⟨p,z,g⟩,k,e,i,m,q⟩:=h;rfl
 obtain⟨x,c,o,a,b,rfl,⟨p,z,g⟩,k,e,i,m,q⟩:=h
 refine⟨_,(aj (aM (dg (du (pv 1) (by intro _;rfl)))
  (ai (aw (cz (v:=.ref Y.l) U bl.NONE_ U)))
  aC)
  (ai (aw (oE t bL bl.k_Like u (pv 0) (aa (pv 1) (aa (pv 2) ae)))))),?_⟩
 refine⟨_,U,!(a.map V.int).isEmpty,.inl ⟨_,i,U⟩,?_⟩;cases a with
 |nil=>exact fO (q _ _ (ar.refl _) (.inr bl.q_NONE))
 |cons n a=>exact ck ⟨_,U,x,_,_,U,g,U,_,U,_,U,x,c,o,n,a,b,U,⟨p,z,g⟩,k,e,i,zA m,q⟩
theorem EU(F:Fun K "verdict" "Way.verdict" Y27 f fd) (bl:Bl K mg Y)(t:bo CX0 P w K mg base 1 Y.e "chosen" ["self","codes","outcome"] (J7 K Y)):aK P w K mg base CX0 2 f fd ["self","codes","outcome"] (J15 K Y):=by
 refine F.ok Z27 (λr H Q E h=>?_) (λy A j s H r Q E u h=>?_)
 .obtain⟨x,c,o,a,b,rfl,⟨p,z,g⟩,k,d,i,m,q⟩:=h;rfl
 obtain⟨x,c,o,a,b,rfl,⟨p,z,g⟩,k,d,i,m,q⟩:=h
 refine⟨_,(aj (aM (dg (du (pv 1) (by intro _;rfl)))
  (ai (aw (cz (v:=.ref Y.l) U bl.NONE_ U)))
  aC)
  (ai (aw (oE t bL bl.k_Low u (pv 0) (aa (pv 1) (aa (pv 2) ae)))))),?_⟩
 refine⟨_,U,!(a.map V.int).isEmpty,.inl ⟨_,i,U⟩,?_⟩;cases a with
 |nil=>exact fO (q _ _ (ar.refl _) (.inr bl.q_NONE))
 |cons n a=>exact ck ⟨_,U,x,_,_,U,g,U,_,U,_,U,x,c,o,n,a,b,U,⟨p,z,g⟩,k,d,i,zA m,q⟩
theorem EV(F:Fun K "verdict" "Way.verdict" Y25 f fd) (bl:Bl K mg Y)(r:bo CX0 P w K mg base 1 Y.f "chosen" ["self","codes","outcome"] (J3 K Y)):aK P w K mg base CX0 2 f fd ["self","codes","outcome"] (J13 K Y):=by
 refine F.ok Z25 (λp H Q E h=>?_) (λu A i s H p Q E t h=>?_)
 .obtain⟨x,c,o,a,b,rfl,⟨m,z,e⟩,j,d,g,k,q⟩:=h;rfl
 obtain⟨x,c,o,a,b,rfl,⟨m,z,e⟩,j,d,g,k,q⟩:=h
 refine⟨_,(aj (aM (dg (du (pv 1) (by intro _;rfl)))
  (ai (aw (cz (v:=.ref Y.l) U bl.NONE_ U)))
  aC)
  (ai (aw (oE r bL bl.k_High t (pv 0) (aa (pv 1) (aa (pv 2) ae)))))),?_⟩
 refine⟨_,U,!(a.map V.int).isEmpty,.inl ⟨_,g,U⟩,?_⟩;cases a with
 |nil=>exact fO (q _ _ (ar.refl _) (.inr bl.q_NONE))
 |cons n a=>exact ck ⟨_,U,x,_,_,U,e,U,_,U,_,U,x,c,o,n,a,b,U,⟨m,z,e⟩,j,d,g,zA k,q⟩
theorem EW(F:Fun K "verdict" "Way.verdict" Y29 f fd) (bl:Bl K mg Y)(t:bo CX0 P w K mg base 1 Y.g "chosen" ["self","codes","outcome"] (J11 K Y)):aK P w K mg base CX0 2 f fd ["self","codes","outcome"] (J17 K Y):=by
 refine F.ok Z29 (λr H Q E h=>?_) (λy A j s H r Q E u h=>?_)
 .obtain⟨x,c,o,a,b,rfl,⟨p,z,e⟩,k,d,i,m,q⟩:=h;rfl
 obtain⟨x,c,o,a,b,rfl,⟨p,z,e⟩,k,d,i,m,q⟩:=h
 refine⟨_,(aj (aM (dg (du (pv 1) (by intro _;rfl)))
  (ai (aw (cz (v:=.ref Y.l) U bl.NONE_ U)))
  aC)
  (ai (aw (oE t bL bl.k_Sum u (pv 0) (aa (pv 1) (aa (pv 2) ae)))))),?_⟩
 refine⟨_,U,!(a.map V.int).isEmpty,.inl ⟨_,i,U⟩,?_⟩;cases a with
 |nil=>exact fO (q _ _ (ar.refl _) (.inr bl.q_NONE))
 |cons n a=>exact ck ⟨_,U,x,_,_,U,e,U,_,U,_,U,x,c,o,n,a,b,U,⟨p,z,e⟩,k,d,i,zA m,q⟩
theorem EY(F:Fun K "grain" "grain" Y45 f fd) (bl:Bl K mg Y)(fN:Callee P w K mg base 2 "cut_columns" ["bounds","marks"] (dE K Y)):aK P w K mg base CX0 3 f fd ["bounds","marks"] (mU K Y):=by
 refine F.okA Z45 λa3 A G s H vs Q E o h=>?_
 obtain⟨a,b,O,ps,as,c,rfl,ha,hP,Z,hM,hok,q⟩:=h
 refine⟨_,(aj (aI (i:=2) Z45.nd U (Or.inl U) ag)
  (aj (bg Hn.never U (aW (aL fN o U (aa (pv 0) (aa (pv 1) ae)))) (aD (i:=3) Z45.nd U (Or.inl U))
  (ai (rJ (i:=2) Z45.nd U (Or.inl U) (av ao U bl.len_ Ka (aa (pv 3) ae)) Ax)))
  (ai (aw (pv 2))))),?_⟩
 refine⟨_,U,_,U,a,b,O,ps,as,c,U,ha,hP,Z,hM,hok,λl xs N D S L a2 C I=>?_⟩;obtain⟨a1,a0,x⟩:=hok;have z:xs.length=ps.length:=by rw[I.1,lg];lia
 refine⟨l,U,⟨_,SqL.of L⟩,bJ (xs:=xs) (λi d k=>k=N/\∃v:Option V,d=[Kb (.ref a),Kb (.ref b),Kb (.int ((gr ps c i:Nat):Int)),v]) ⟨U,Kc,U⟩ (λi d k _ h=>by rw[h.1];exact SqL.of L) (λi y d k e h=>?_) (λd k h=>?_)⟩
 .obtain⟨u,v,rfl⟩:=h;rw[u];obtain⟨r,n,rfl,g,R,o,W⟩:=ax.get I e;have hi:i<xs.length:=(Gz.mp e).1;obtain⟨p,t⟩:∃p,ps[i]?=Kb p:=⟨_,Gy (by lia)⟩;obtain⟨j,M⟩:∃j,D[i]?=Kb j:=⟨_,Gy (by lia)⟩;obtain⟨m,J⟩:∃m,c[i]?=Kb m:=⟨_,Gy (by lia)⟩;obtain⟨B,T,_⟩:=C i p m j t J M;rw[md,t,M]at g;have g:bX p.1 p.2 j=n:=Option.some.inj g;have X:R.length=gl ps c i:=by
   rw[W.length,←g,fU,AO B T];unfold gl;rw[dF,t,dF,J];rfl
  have b1:=zH (ps:=ps) x i;have b2:(58:Nat)^i<=58^6:=Nat.pow_le_pow_right (by decide) (by lia);have b3:(58:Nat)^3<2^64:=by decide
  refine⟨_,U,_,U,r,_,U,.inl (SqL.of o),_,_,U,U,yh.ok (.inl ⟨by lia,by lia⟩),U,Kb (.ref r),?_⟩;rw[X];show[Kb (V.ref a),Kb (.ref b),Kb (.int (((gr ps c i:Nat):Int)*((gl ps c i:Nat):Int))),Kb (.ref r)]=_;rw[show gr ps c (i+1)=gr ps c i*gl ps c i from U,Int.natCast_mul]
 .obtain⟨u,v,rfl⟩:=h;rw[u,z];exact⟨_,U,q N S⟩
theorem EZ(F:Fun K "refuse_names" "refuse_names" Y75 f fd) (bl:Bl K mg Y)(u:Callee P w K mg base 2 "is_word" ["text"] (gD K Y)):aK P w K mg base CX0 3 f fd ["names"] (eG K Y):=by
 refine F.okA Z75 λL A r s H M Q E B h=>?_
 obtain⟨p,a,rfl,n,x,C,N,q⟩:=h
 refine⟨_,(aN (bg Hn.never U (aW (pv 0)) (aD (i:=1) Z75.nd U (Or.inl U))
  (ai (aM (dg (df (aL u B U (aa (pv 1) ae))))
  (ai bE)
  aC)))
  (ai (aM (aE iV (av i3 U bl.len_ Ka (aa (bB (iZ U) U bl.set_ PyProof.Rows.boot_set (aa (pv 0) ae)) ae)) (av ao U bl.len_ Ka (aa (pv 0) ae)) (aH _))
  (ai bE)
  aC))),?_⟩
 have k:(a.map V.str).length=a.length:=bx _;refine⟨λo b=>b=H/\∃c:Option V,o=[Kb (.ref p),c],?_,?_⟩
 .refine⟨_,U,p,U,⟨_,n⟩,bJ (xs:=a.map V.str) (λi m b=>b=H/\∃c:Option V,m=[Kb (.ref p),c]) ⟨U,_,U⟩ (λi m b _ h=>by rw[h.1];exact n) (λi y m b e h=>?_) (λm b h=>h)⟩;obtain⟨I,c,rfl⟩:=h;rw[I];obtain⟨z,rfl,D⟩:=jX e;have d:=x z (GB D);have v:z.length<=1000:=by
   have g:=d;unfold isw at g;simp only[BO,decide_eq_true_eq]at g;lia
  refine⟨_,U,z,U,v,_,U,?_⟩;rw[d];exact ck ⟨U,_,U⟩
 rintro J O ⟨G,c,rfl⟩;rw[G];refine⟨_,U,p,a,U,n,by lia,λl j=>⟨l,a,U,ab,by lia,_,U,p,_,U,.inl ((af j _).seq n),_,_,U,U,_,U,?_⟩⟩;have t:=ko a a.length (yr _);rw[ip]at t;exact cm (by rw[k,t.mpr C];lia) (q _ (af j _))
theorem E1(F:Fun K "refuse_row" "refuse_row" Y76 f fd) (bl:Bl K mg Y)(fg:bo CX0 P w K mg base 2 Y.i "has_code" ["self","value"] (bO K Y)) (f6:bo CX0 P w K mg base 2 Y.j "has_code" ["self","value"] (b9 K Y)):aK P w K mg base CX0 3 f fd ["domains","outcome","cells","code"] (fK K Y):=by
 refine F.okA Z76 λa2 A a0 s H vs Q E hr h=>?_
 obtain⟨v,m,z,dv,xs,bs,o,t,rfl,N,G,hO,O,I,ok,q⟩:=h
 refine⟨_,(aj (aM (aE om (av ao U bl.len_ Ka (aa (pv 2) ae)) (av ao U bl.len_ Ka (aa (pv 0) ae)) (aH _))
  (ai bE)
  aC)
  (aN (bg Hn.never U (pG U bl.zip_ (aa (pv 0) (aa (pv 2) ae))) (eQ U (aJ (aD (i:=4) Z76.nd U (Or.inl U)) (aJ (aD (i:=5) Z76.nd U (Or.inl U)) bP)))
  (ai (bg Hn.never U (aW (pv 5)) (eQ U (aJ (aD (i:=6) Z76.nd U (Or.inl U)) (aJ (aD (i:=7) Z76.nd U (Or.inl U)) bP)))
  (ai (aM (PW.pt (tU (aE iV (pv 6) (ba (pv 4) U) (aH _)) (pf (aE kM (pv 7) (ba (pv 4) U) (aH _)))))
  (ai bE)
  aC)))))
  (ai (aM (dg (df (wC (qL fg bl.k_Numbers (qL f6 bl.k_Words BQ)) bL hr (pv 1) (aa (pv 3) ae))))
  (ai bE)
  aC)))),?_⟩
 have Z:∀(C:GD),(C=Y.i\/C=Y.j)->Cls K C/\NoAttr K C s!"low"/\NoAttr K C s!"high":=λC h=>by
  rcases h with rfl|rfl
  .exact⟨bl.k_Numbers,bl.na_Numbers_low,bl.na_Numbers_high⟩
  .exact⟨bl.k_Words,bl.na_Words_low,bl.na_Words_high⟩
 have J:xs.length=dv.length:=by rw[I.1,ok.len,G.1]
 refine⟨_,U,z,_,U,.inl (SqL.of O),_,U,v,_,U,.inl (N),U,_,U,zt (by rw[J]) ?_⟩;refine⟨λW c=>ar H c/\∃D B k g:Option V,W=[Kb (.ref v),Kb (.ref m),Kb (.ref z),Kb (.int t.2),D,B,k,g],?_,?_⟩
 .refine⟨_,U,_,U,v,z,U,⟨_,N⟩,⟨_,SqL.of O⟩,pH (xs:=dv) (ys:=xs) (λi d c=>ar H c/\∃D B k g:Option V,d=[Kb (.ref v),Kb (.ref m),Kb (.ref z),Kb (.int t.2),D,B,k,g]) ⟨ar.refl _,_,_,_,_,U⟩ (λi d c h=>⟨h.1.seq N,SqL.of (h.1 _ _ O)⟩) (λi x y d c T ex ey h hT=>?_) (λd c h=>h)⟩;obtain⟨sm,D,B,k,g,rfl⟩:=h;have s2:=sm.trans (af hT (.tup [x,y]));have eT:upd c T (.tup [x,y]) T=Kb (.tup [x,y]):=ab;generalize upd c T (.tup [x,y])=H2 at s2 eT⊢;obtain⟨a,b,rfl,eb,hb⟩:=G.get ex;obtain⟨l,ps,rfl,ep,hl⟩:=ax.get I ey;obtain⟨C,n,S,fs,u,f1,f2,_⟩:=hb.same s2;obtain⟨k1,k2,k3⟩:=Z C n;obtain⟨_,ys,el,hp⟩:=hl.same s2;refine⟨T,_,U,SqT.of eT,U,_,_,U,_,_,U,U,?_⟩;refine⟨_,U,l,U,⟨_,SqL.of el⟩,bJ (xs:=ys) (λj d c=>c=H2/\∃k g:Option V,d=[Kb (.ref v),Kb (.ref m),Kb (.ref z),Kb (.int t.2),Kb (.ref a),Kb (.ref l),k,g]) ⟨U,_,_,U⟩ (λj d c _ h=>by rw[h.1];exact SqL.of el) (λj y d c e h=>?_) (λd c h=>?_)⟩
  .obtain⟨R,k,g,rfl⟩:=h;rw[R];obtain⟨p,r,e1,rfl,X⟩:=hp.get e;obtain⟨i1,i2⟩:=ok.inn i ps b ep eb p (GB e1);refine⟨r,_,U,SqT.of X,U,_,_,U,_,_,U,U,?_⟩;refine⟨_,U,_,U,a,_,_,_,_,U,u,k1,k2,f1,_,_,U,U,_,U,cm (by lia) ?_⟩;exact⟨_,U,_,U,a,_,_,_,_,U,u,k1,k3,f2,_,_,U,U,_,U,cm (by lia) ⟨U,_,_,U⟩⟩
  .obtain⟨R,k,g,rfl⟩:=h;rw[R];exact⟨s2,_,_,_,_,U⟩
 rintro a1 H3 ⟨L,D,B,k,g,rfl⟩;obtain⟨C,n,M⟩:=hO.same L;obtain⟨S,fs,u,f1,f2,f3⟩:=id M;rcases n with rfl|rfl
 .exact⟨_,U,m,_,S,fs,U,.head _,u,f3,_,U,m,o,t.2,U,M,ok.lo,ok.hi,_,U,ck (q _ L)⟩
 .exact⟨_,U,m,_,S,fs,U,.tail _ (.head _),u,f3,_,U,m,o,t.2,U,M,ok.lo,ok.hi,_,U,ck (q _ L)⟩
theorem E2(F:Fun K "mask" "mask" Y71 f fd) (bl:Bl K mg Y)(A6:Callee P w K mg base 2 "fits" ["table","k","codes"] (pY K Y)):aK P w K mg base CX0 3 f fd ["table","codes"] (j5 K Y):=by
 refine F.okA Z71 λa4 A z s H vs Q E S h=>?_
 obtain⟨t,c,a,wi,o,j,rfl,⟨G,ou,Z,fs,r,wy,J,M,a2,a3,m,O,a0,a1,R,vn⟩,W,p,q⟩:=h;refine⟨_,(ai (aw (av (fD U) U bl.sum_ PyProof.Rows.boot_sum (aa (cM (aX U bl.range_ (aa (av ao U bl.len_ Ka (aa (ba (pv 0) U) ae)) ae)) (bD (N:=["k","table","codes"]) (fr:=[0,1]) (cl:=[("table",s.heap.objs.size+1),("codes",s.heap.objs.size+1+1)]) U U (by decide+kernel) (by decide+kernel) U (by decide+kernel) U U U (ij.mpr ⟨U,ij.mpr ⟨U,js _⟩⟩) U) U (λ_ _ _ _=>(iF (df (aL A6 S U (aa (pv 1) (aa (pv 0) (aa (pv 2) ae))))))) (λ_ _ _ _=>(au ph ag (pv 0)))) ae)))),?_⟩;have l:r.length=a.length:=O.1
 refine⟨_,U,t,_,_,_,_,U,J,bl.k_Table,bl.na_Table_rows,M,G,_,U,.inl (SqL.of m),_,U,(by show -(2^62)<=((r.length:Nat):Int);lia),(by show((r.length:Nat):Int)<2^62;lia),cn (λD i zs k=>ar H k/\k D=Kb (.lst zs)/\∃b:List Int,zs=b.map V.int/\b.sum=((msk (iJ a j) i:Nat):Int)/\b.length<=i)
  (λD u=>⟨af u _,ab,[],U,U,yY _⟩) (λD i zs k u hi h=>?_) (λD zs k u h=>?_)⟩
 .obtain⟨d,x,b,rfl,g,T⟩:=h;have y:i<a.length:=by first|lia|(rw[←l];lia)
  obtain⟨e,v⟩:∃e,a[i]?=Kb e:=⟨_,Gy y⟩;have L:a.getD i ([],0)=e:=getD_at v;refine⟨_,U,_,U,_,U,t,G,c,Z,fs,r,a,i,e,j,by rw[Dv],d _ _ J,M,d _ _ m,O.same d,v,d.seq W,p e (GB v),λH3 C=>⟨_,U,?_⟩⟩;have B:=d.trans C;have n:=C _ _ x;cases hb:nR e.1 j with
  |true =>
   refine fO ⟨_,U,_,_,U,U,⟨by lia,by lia,by decide⟩,cB.mk hi n (az (by rw[bx];lia)) ⟨B.upd u,ab,b++[1*2^(0+(i:Int)).toNat],by simp,?_,by simp;lia⟩⟩;have X:(0+(i:Int)).toNat=i:=by lia
   rw[X,List.sum_append,g,j4,show iJ a j i=Kd by unfold iJ;rw[L];exact hb];simp;lia
  |false =>
   refine ck (dG.mk (zs:=b.map V.int) hi ⟨B,n,b,U,?_,by lia⟩);rw[g,j4,show iJ a j i=Ke by unfold iJ;rw[L];exact hb];simp
 .obtain⟨d,x,b,rfl,g,T⟩:=h;rw[DJ]at g;refine⟨D,b,U,SqL.of x,?_⟩;have I:=q k d;rw[←l,←g]at I;exact I
theorem E3(F:Fun K "table_marks" "table_marks" Y83 f fd) (bl:Bl K mg Y)(mX:Callee P w K mg base 2 "column_marks" ["table","column"] (eF K Y)):aK P w K mg base CX0 3 f fd ["table"] (fb K Y):=by
 refine F.okA Z84 λa3 A Z s H vs Q E hr h=>?_
 obtain⟨t,G,bs,o,L,rfl,u,hb,T,kB,hL,q⟩:=h;refine⟨_,(ai (aw (cM (aX U bl.range_ (aa (av ao U bl.len_ Ka (aa (ba (pv 0) U) ae)) ae)) (bD (N:=["column","table"]) (fr:=[0]) (cl:=[("table",s.heap.objs.size+1)]) U U (by decide+kernel) (by decide+kernel) U (by decide+kernel) U U U (ij.mpr ⟨U,js _⟩) U) U (λ_ _ _ _=>bz) (λ_ _ _ _=>(aL mX hr U (aa (pv 1) (aa (pv 0) ae))))))),?_⟩;obtain⟨rl,dx,dl,fs,xs,ht,f1,f2,W,M,a2,hR⟩:=id u;have a0:G.length=bs.length:=M.1;refine⟨_,U,t,_,_,_,_,U,ht,bl.k_Table,bl.na_Table_domains,f2,dl,_,U,.inl (SqL.of W),_,U,(by show -(2^62)<=((G.length:Nat):Int);lia),(by show((G.length:Nat):Int)<2^62;lia),cn (λD i v d=>ar H d/\d D=Kb (.lst v)/\∃(m:List GD)(a:List (List Int)),v=m.map V.ref/\MLs (hide d D) m a/\a.length=i/\∀(c:Nat)(b:Int×Int)(j:List Int),bs[c]?=Kb b->a[c]?=Kb j->j.Pairwise (· < ·)/\∀x,x∈j↔MkC o c b x) (λD n=>⟨af n _,ab,[],[],U,MLs.nil,U,λc b j _ e=>by simp at e⟩) (λD i v d n hi h=>?_) (λD v d n h=>?_)⟩
 .obtain⟨y,C,m,a,rfl,B,p,g⟩:=h;have r:i<bs.length:=by lia
  obtain⟨b,I⟩:∃b,bs[i]?=Kb b:=⟨_,Gy r⟩;obtain⟨S,R⟩:=hL i b I;refine⟨_,U,_,U,t,i,G,bs,o,b,L i,by rw[Dv],u.same y,I,T,λw hw=>⟨by rw[(kB w hw).1];exact r,(kB w hw).2 i⟩,S,R,λl cs H2 s2 nl el pw hm=>?_⟩;have X:=s2 _ _ C;have nD:l≠D:=λz=>by rw[z,C]at nl;cases nl
  have a1:=B.1;refine cB.mk hi X (az (by rw[bx];lia)) ⟨(y.trans s2).upd n,ab,m++[l],a++[cs],by rw[iv];rfl,?_,by rw[cK,hQ,p],λc b' j J k=>?_⟩
  .rw[mJ];exact MLs.snoc (B.same (kz s2)) (de el nD)
  .by_cases hc:c<a.length
   .rw[iP hc]at k;exact g c b' j J k
   .rw[ll (by lia)]at k;have h0:=(Gz.mp k).1;rw[hQ]at h0;have O:c=i:=by lia
    subst O;rw[I]at J;cases J;rw[show c-a.length=0 by lia]at k;cases k;exact⟨pw,hm⟩
 .obtain⟨y,C,m,a,rfl,B,p,g⟩:=h;exact q D m a d y n C (B.same (pV d D)) (by lia) g
theorem E4(F:Fun K "refuse_unlike" "refuse_unlike" Y77 f fd) (bl:Bl K mg Y)(f7:Callee P w K mg base 2 "refuse_unlike_domains" ["ones","others"] (b8 K Y)):aK P w K mg base CX0 3 f fd ["one","other"] (dP K Y):=by
 refine F.okA Z77 λa2 A D s H vs Q E W h=>?_
 obtain⟨t,u,g,O,a,c,ds,d,rfl,⟨dx,dl,fs,L,f1,f2,C⟩,⟨dy,el,gs,J,Z,X,B⟩,N,M,z,o,l1,q⟩:=h;refine⟨_,(ai (aV (aL f7 W U (aa (au dz (ba (pv 0) U) (aR (aa (ba (pv 0) U) ae))) (aa (au dz (ba (pv 1) U) (aR (aa (ba (pv 1) U) ae))) ae))))),?_⟩;have a1:=N.1;have a0:=M.1;refine⟨_,U,t,_,_,_,_,U,L,bl.k_Table,bl.na_Table_domains,f1,_,U,t,_,_,_,_,U,L,bl.k_Table,bl.na_Table_outcome,f2,(by show 1<=GH;decide),λk y=>?_⟩;have n:=af y (.lst [.ref a]);have S:upd H k (.lst [.ref a]) k=Kb (.lst [.ref a]):=ab;generalize upd H k (.lst [.ref a])=H1 at n S⊢;refine⟨dl,k,_,_,U,U,n _ _ C,S,zf (az (by show g.length+1<=1000;lia)),λj x=>?_⟩;have I:=af x (.lst (g++[.ref a]));have s2:=n.trans I;have e:upd H1 j (.lst (g++[.ref a])) j=Kb (.lst (g++[.ref a])):=ab;generalize upd H1 j (.lst (g++[.ref a]))=H2 at s2 e⊢;clear I;refine⟨_,U,u,_,_,_,_,U,s2 _ _ J,bl.k_Table,bl.na_Table_domains,Z,_,U,u,_,_,_,_,U,s2 _ _ J,bl.k_Table,bl.na_Table_outcome,X,(by show 1<=GH;decide),λi v=>?_⟩;have l:=af v (.lst [.ref c]);have m:=s2.trans l;have R:upd H2 i (.lst [.ref c]) i=Kb (.lst [.ref c]):=ab;have e:=l _ _ e;generalize upd H2 i (.lst [.ref c])=H3 at m R e⊢;clear l;refine⟨el,i,_,_,U,U,m _ _ B,R,zf (az (by show O.length+1<=1000;lia)),λV r=>?_⟩;have G:=af r (.lst (O++[.ref c]));have b:=m.trans G;exact⟨j,V,_,_,ds++[d],U,G _ _ e,ab,ax.snoc (ax.mono N λ_ _ p=>p.same b) (z.same b),ax.snoc (ax.mono M λ_ _ p=>p.same b) (o.same b),λH5 T=>q H5 (b.trans T)⟩
theorem E5(F:Fun K "__init__" "Words.__init__" Y30 f fd) (bl:Bl K mg Y)(gf:cb CX0 P w K mg base 2 "Domain" "__init__" ["self","low","high"] (b7 K Y)) (kE:Callee P w K mg base 2 "is_word" ["text"] (gD K Y)):aK P w K mg base CX0 3 f fd ["self","words"] (bC K Y):=by
 refine F.okA Z30 λa2 A S s H vs Q E Z h=>?_
 obtain⟨x,d,p,a,rfl,W,L,G,q⟩:=h
 refine⟨_,(aj (aM (dg (gO fj fj ag (av ao U bl.len_ Ka (aa (pv 1) ae)) (kS U bl.MOST_WORDS_)))
  (ai bE)
  aC)
  (aN (bg Hn.never U (aW (pv 1)) (aD (i:=2) Z30.nd U (Or.inl U))
  (ai (aM (dg (df (aL kE Z U (aa (pv 2) ae))))
  (ai bE)
  aC)))
  (aj (aM (aE iV (av i3 U bl.len_ Ka (aa (bB (iZ U) U bl.set_ PyProof.Rows.boot_set (aa (pv 1) ae)) ae)) (av ao U bl.len_ Ka (aa (pv 1) ae)) (aH _))
  (ai bE)
  aC)
  (aj (aV (fq gf bL Z U (aa (pv 0) (aa ag (aa (au cx (av ao U bl.len_ Ka (aa (pv 1) ae)) ag) ae)))))
  (ai (cD (pv 0) (bB bV U bl.list_ PyProof.Rows.boot_list (aa (pv 1) ae)) U)))))),?_⟩
 have t:SqL K H p (a.map V.str):=SqL.of L;have B:p≠x:=eI L W (by intro z;cases z);have c:(a.map V.str).length=a.length:=bx _;have h1:=G.some_;have a1:=G.few;refine⟨_,U,p,_,U,.inl t,_,_,U,U,_,U,fu (by rw[c];lia) ?_⟩;refine⟨_,_,U,U,_,U,?_⟩;rw[Kl (show(((a.map V.str).length:Nat):Int)<=40 by rw[c];lia)];refine ck ?_;refine⟨λO n=>n=H/\∃u:Option V,O=[Kb (.ref x),Kb (.ref p),u],?_,?_⟩
 .refine⟨_,U,p,U,⟨_,t⟩,bJ (xs:=a.map V.str) (λi D n=>n=H/\∃u:Option V,D=[Kb (.ref x),Kb (.ref p),u]) ⟨U,_,U⟩ (λi D n _ h=>by rw[h.1];exact t) (λi y D n e h=>?_) (λD n h=>h)⟩;obtain⟨e0,u,rfl⟩:=h;rw[e0];obtain⟨z,rfl,ez⟩:=jX e;have X:=G.words z (GB ez);have hz:z.length<=1000:=by
   have v:=X;unfold isw at v;simp only[BO,decide_eq_true_eq]at v;lia
  refine⟨_,U,z,U,hz,_,U,?_⟩;rw[X];exact ck ⟨U,_,U⟩
 rintro a0 H2 ⟨I,u,rfl⟩;rw[I];refine⟨_,U,p,a,U,t,by lia,λl hl=>⟨l,a,U,ab,by lia,_,U,p,_,U,.inl ((af hl _).seq t),_,_,U,U,_,U,?_⟩⟩;have J:=af hl (nG P w l a);have cf:=ko a a.length (yr _);rw[ip]at cf;refine cm (by rw[c,cf.mpr G.once];lia) ?_;have R:=J _ _ W;have C:=J _ _ L;refine⟨_,U,_,U,p,_,U,.inl (SqL.of C),_,_,U,U,x,d,0,_,U,R,?_⟩;have N:mkd Y.j (upd H l (nG P w l a)) x d 0 ((((a.map V.str).length:Nat):Int)-1) x=Kb (.ins Y.j d [("low",.int 0),("high",.int ((((a.map V.str).length:Nat):Int)-1))]):=ab;have I:mkd Y.j (upd H l (nG P w l a)) x d 0 ((((a.map V.str).length:Nat):Int)-1) p=Kb (.lst (a.map V.str)):=by unfold mkd;rw[ay B,ay B];exact C
 have M:∀b o,b≠x->H b=Kb o->mkd Y.j (upd H l (nG P w l a)) x d 0 ((((a.map V.str).length:Nat):Int)-1) b=Kb o:=λb o r h=>by unfold mkd;rw[ay r,ay r];exact J b o h
 have eh:(((a.map V.str).length:Nat):Int)-1=hiW a:=by rw[c];rfl
 refine⟨_,U,p,_,U,.inl (SqL.of I),λk m=>⟨_,U,x,_,d,_,U,cF N m,bl.k_Words,bl.na_Words_words,(by show 2<1000;decide),?_⟩⟩;show Q .non (upd (upd (mkd Y.j (upd H l (nG P w l a)) x d 0 ((((a.map V.str).length:Nat):Int)-1)) k (.lst (a.map V.str))) x (.ins Y.j d (bw s!"words" (.ref k) [(s!"low",.int 0),(s!"high",.int ((((a.map V.str).length:Nat):Int)-1))])));rw[put3];have g:mkd Y.j (upd H l (nG P w l a)) x d 0 ((((a.map V.str).length:Nat):Int)-1) k=none:=m;clear m;generalize mkd Y.j (upd H l (nG P w l a)) x d 0 ((((a.map V.str).length:Nat):Int)-1)=H2 at N I M g⊢;rw[eh];have T:k≠x:=(bf N g).symm;exact q _ k (λb o r h=>(ay r).trans (cF (M b o r h) g)) ab ((ay T).trans ab) (by cases z:H k with|none=>rfl|some o=>have:=M k o T z;rw[g]at this;cases this)
theorem E6(F:Fun K "way_by" "way_by" Y85 f fd) (bl:Bl K mg Y)(k_First:bj CX0 P w K mg base 2 "First" Y.b ["self"] (J0 K Y)) (k_Only:bj CX0 P w K mg base 2 "Only" Y.c ["self"] (J8 K Y)) (k_Like:bj CX0 P w K mg base 2 "Like" Y.d ["self"] (J4 K Y)) (k_Low:bj CX0 P w K mg base 2 "Low" Y.e ["self"] (J6 K Y)) (k_High:bj CX0 P w K mg base 2 "High" Y.f ["self"] (J2 K Y)) (k_Sum:bj CX0 P w K mg base 2 "Sum" Y.g ["self"] (J10 K Y)):aK P w K mg base CX0 4 f fd ["name"] (iI K Y):=by
 refine F.okA Z87 λa3 A a2 s H vs Q E hr h=>?_
 obtain⟨z,rfl,hz,q⟩:=h
 refine⟨_,(aj (bg Hn.never U (aW (aR (aa (ku k_First bL hr U) (aa (ku k_Only bL hr U) (aa (ku k_Like bL hr U) (aa (ku k_Low bL hr U) (aa (ku k_High bL hr U) (aa (ku k_Sum bL hr U) ae)))))))) (aD (i:=1) Z87.nd U (Or.inl U))
  (ai (aM (aE br (ba (pv 1) U) (pv 0) (aH _))
  (ai (aw (pv 1)))
  aC)))
  (ai bE)),?_⟩
 refine λv N m k o=>⟨v,N,U,ab,U,?_⟩
 have t0:ar H (upd (upd (upd H N (.own v)) v (.ins Y.b N [])) v (.ins Y.b N [("called",.str s!"first")])):=((af k _).upd m).upd m;have B:WyN Y.b (upd (upd (upd H N (.own v)) v (.ins Y.b N [])) v (.ins Y.b N [("called",.str s!"first")])) v s!"first":=⟨N,ab⟩;generalize upd (upd (upd H N (.own v)) v (.ins Y.b N [])) v (.ins Y.b N [("called",.str s!"first")])=H0 at t0 B⊢;clear m k o;refine λu M m k o=>⟨u,M,U,ab,U,?_⟩
 have t1:ar H0 (upd (upd (upd H0 M (.own u)) u (.ins Y.c M [])) u (.ins Y.c M [("called",.str s!"only")])):=((af k _).upd m).upd m;have D:WyN Y.c (upd (upd (upd H0 M (.own u)) u (.ins Y.c M [])) u (.ins Y.c M [("called",.str s!"only")])) u s!"only":=⟨M,ab⟩;generalize upd (upd (upd H0 M (.own u)) u (.ins Y.c M [])) u (.ins Y.c M [("called",.str s!"only")])=H1 at t1 D⊢;clear m k o;have B:=B.same t1;refine λt L m k o=>⟨t,L,U,ab,U,?_⟩
 have t2:ar H1 (upd (upd (upd H1 L (.own t)) t (.ins Y.d L [])) t (.ins Y.d L [("called",.str s!"like")])):=((af k _).upd m).upd m;have O:WyN Y.d (upd (upd (upd H1 L (.own t)) t (.ins Y.d L [])) t (.ins Y.d L [("called",.str s!"like")])) t s!"like":=⟨L,ab⟩;generalize upd (upd (upd H1 L (.own t)) t (.ins Y.d L [])) t (.ins Y.d L [("called",.str s!"like")])=H2 at t2 O⊢;clear m k o;have B:=B.same t2;have D:=D.same t2;refine λw3 J m k o=>⟨w3,J,U,ab,U,?_⟩
 have t3:ar H2 (upd (upd (upd H2 J (.own w3)) w3 (.ins Y.e J [])) w3 (.ins Y.e J [("called",.str s!"low")])):=((af k _).upd m).upd m;have R:WyN Y.e (upd (upd (upd H2 J (.own w3)) w3 (.ins Y.e J [])) w3 (.ins Y.e J [("called",.str s!"low")])) w3 s!"low":=⟨J,ab⟩;generalize upd (upd (upd H2 J (.own w3)) w3 (.ins Y.e J [])) w3 (.ins Y.e J [("called",.str s!"low")])=H3 at t3 R⊢;clear m k o;have B:=B.same t3;have D:=D.same t3;have O:=O.same t3;refine λr I m k o=>⟨r,I,U,ab,U,?_⟩
 have Z:ar H3 (upd (upd (upd H3 I (.own r)) r (.ins Y.f I [])) r (.ins Y.f I [("called",.str s!"high")])):=((af k _).upd m).upd m;have X:WyN Y.f (upd (upd (upd H3 I (.own r)) r (.ins Y.f I [])) r (.ins Y.f I [("called",.str s!"high")])) r s!"high":=⟨I,ab⟩;generalize upd (upd (upd H3 I (.own r)) r (.ins Y.f I [])) r (.ins Y.f I [("called",.str s!"high")])=H4 at Z X⊢;clear m k o;have B:=B.same Z;have D:=D.same Z;have O:=O.same Z;have R:=R.same Z;refine λp G m k o=>⟨p,G,U,ab,U,?_⟩
 have T:ar H4 (upd (upd (upd H4 G (.own p)) p (.ins Y.g G [])) p (.ins Y.g G [("called",.str s!"sum")])):=((af k _).upd m).upd m;have y5:WyN Y.g (upd (upd (upd H4 G (.own p)) p (.ins Y.g G [])) p (.ins Y.g G [("called",.str s!"sum")])) p s!"sum":=⟨G,ab⟩;generalize upd (upd (upd H4 G (.own p)) p (.ins Y.g G [])) p (.ins Y.g G [("called",.str s!"sum")])=H5 at T y5⊢;clear m k o;have B:=B.same T;have D:=D.same T;have O:=O.same T;have R:=R.same T;have X:=X.same T;have s5:ar H H5:=((((t0.trans t1).trans t2).trans t3).trans Z).trans T;refine⟨(by show 6<=GH;decide),λl hl=>?_⟩;have S:ar H5 (upd H5 l (.lst [V.ref v,.ref u,.ref t,.ref w3,.ref r,.ref p])):=af hl _;have el:upd H5 l (.lst [V.ref v,.ref u,.ref t,.ref w3,.ref r,.ref p]) l=Kb (.lst [V.ref v,.ref u,.ref t,.ref w3,.ref r,.ref p]):=ab;generalize upd H5 l (.lst [V.ref v,.ref u,.ref t,.ref w3,.ref r,.ref p])=H6 at S el⊢;have B:=B.same S;have D:=D.same S;have O:=O.same S;have R:=R.same S;have X:=X.same S;have y5:=y5.same S;have sA:=s5.trans S;have a0:∀(i:Nat)(x:V),[V.ref v,.ref u,.ref t,.ref w3,.ref r,.ref p][i]?=Kb x->∃(a C:GD)(y:Str),x=.ref a/\(cl6 Y.b Y.c Y.d Y.e Y.f Y.g)[i]?=Kb C/\six[i]?=Kb y/\WyN C H6 a y/\Cls K C/\NoAttr K C s!"called":=λi x e=>by
  match i,e with
  |0,e=>cases e;exact⟨v,Y.b,_,U,U,U,B,bl.k_First,bl.na_First_called⟩
  |1,e=>cases e;exact⟨u,Y.c,_,U,U,U,D,bl.k_Only,bl.na_Only_called⟩
  |2,e=>cases e;exact⟨t,Y.d,_,U,U,U,O,bl.k_Like,bl.na_Like_called⟩
  |3,e=>cases e;exact⟨w3,Y.e,_,U,U,U,R,bl.k_Low,bl.na_Low_called⟩
  |4,e=>cases e;exact⟨r,Y.f,_,U,U,U,X,bl.k_High,bl.na_High_called⟩
  |5,e=>cases e;exact⟨p,Y.g,_,U,U,U,y5,bl.k_Sum,bl.na_Sum_called⟩
  |n+6,e=>simp at e
 refine⟨l,U,⟨_,SqL.of el⟩,bJ (xs:=[V.ref v,.ref u,.ref t,.ref w3,.ref r,.ref p]) (λi σ H'=>(∃c1:Option V,σ=[Kb (.str z),c1])/\H'=H6/\∀j:Nat,j<i->six[j]?≠Kb z) ⟨⟨_,U⟩,U,(λj h=>Kk h (zj j))⟩ (λi σ H' _ h=>by rw[h.2.1];exact SqL.of el) (λi x σ H' e h=>?_) (λσ H' h=>?_)⟩
 .obtain⟨⟨c1,rfl⟩,e0,W⟩:=h;rw[e0];obtain⟨a,C,y,rfl,eC,ey,⟨dx,ha⟩,hc,hn⟩:=a0 i x e;refine⟨_,U,a,_,_,_,_,U,ha,hc,hn,U,_,U,U,_,U,?_⟩;refine bq (λg=>?_) (λg=>?_)
  .have g':V.str y=V.str z:=iY g;injection g' with g';subst g';exact⟨_,U,q i ey a C H6 sA eC ⟨dx,ha⟩⟩
  .refine⟨⟨_,U⟩,U,λj hj=>?_⟩;by_cases a1:j<i
   .exact W j a1
   .have:j=i:=by lia
    subst this;rw[ey];intro q2;exact(kP g) (by injection q2 with q2;rw[q2])
 .obtain⟨⟨c1,rfl⟩,e0,W⟩:=h;rw[e0];obtain⟨j,hj,ej⟩:=List.getElem_of_mem hz;exact Kk (by rw[Gy hj,ej]) (W j hj)
theorem E7(F:Fun K "refuse_way" "refuse_way" Y79 f fd) (bl:Bl K mg Y)(l:Callee P w K mg base 4 "way_by" ["name"] (iI K Y)):aK P w K mg base CX0 5 f fd ["way","outcome"] (fL K Y):=by
 refine F.okA Z79 λu A g s H y Q E r h=>?_
 obtain⟨z,B,rfl,m,d,q⟩:=h
 refine⟨_,(ai (aM (PW.pt (i6 (aE br (ba (aL l r U (aa (pv 0) ae)) U) aQ (aH _)) (gm (df (av dr U bl.isinstance_ PyProof.Rows.boot_isinstance (aa (pv 1) (aa (cz (v:=.ref Y.j) U bl.Words_ U) ae)))))))
  (ai bE)
  aC)),?_⟩
 refine⟨_,U,z,U,m,λi D x C J b a p=>?_⟩;have k:Cls K C/\NoAttr K C s!"called":=by
  match i,a with
  |0,a=>cases a;exact⟨bl.k_First,bl.na_First_called⟩
  |1,a=>cases a;exact⟨bl.k_Only,bl.na_Only_called⟩
  |2,a=>cases a;exact⟨bl.k_Like,bl.na_Like_called⟩
  |3,a=>cases a;exact⟨bl.k_Low,bl.na_Low_called⟩
  |4,a=>cases a;exact⟨bl.k_High,bl.na_High_called⟩
  |5,a=>cases a;exact⟨bl.k_Sum,bl.na_Sum_called⟩
  |n+6,a=>simp[cl6]at a
 obtain⟨I,o⟩:=p;refine⟨x,_,_,_,_,U,o,k.1,k.2,U,U,_,U,?_⟩;by_cases c:z=s!"sum"
 .obtain⟨G,fs,t⟩:=d c;exact fu (by rw[c]) ⟨_,U,_,_,_,_,Ke,U,.ref _,bl.t_Numbers.ty (b _ _ t),bl.f_nw,_,U,ck (q _ b)⟩
 .exact cm (λe=>by injection e with e;exact c e) (ck (q _ b))
theorem E8(F:Fun K "judged" "judged" Y49 f fd) (bl:Bl K mg Y)(iQ:bo CX0 P w K mg base 4 Y.b "verdict" ["self","codes","outcome"] (J12 K Y)) (jx:bo CX0 P w K mg base 4 Y.c "verdict" ["self","codes","outcome"] (J16 K Y)) (jy:bo CX0 P w K mg base 4 Y.d "verdict" ["self","codes","outcome"] (J14 K Y)) (j6:bo CX0 P w K mg base 4 Y.e "verdict" ["self","codes","outcome"] (J15 K Y)) (jz:bo CX0 P w K mg base 4 Y.f "verdict" ["self","codes","outcome"] (J13 K Y)) (ka:bo CX0 P w K mg base 4 Y.g "verdict" ["self","codes","outcome"] (J17 K Y)) (mY:Callee P w K mg base 4 "way_by" ["name"] (iI K Y)):aK P w K mg base CX0 5 f fd ["table","rows"] (fW K Y):=by
 refine F.okA Z49 λa7 A a6 s H vs Q E hr h=>?_
 obtain⟨t,a,wi,o,m,rfl,⟨rl,ou,dx,fs,xs,wy,S,hf,a3,a4,B,hR,z,a2,G,vn⟩,q⟩:=h
 refine⟨_,(aj (wJ (i:=2) Z49.nd U (Or.inl U) (yy U bl.enumerate_ (aa (ba (pv 0) U) ae)) (dW (N:=["k","row","rows"]) (k:=2) (fr:=[1]) (cl:=[("rows",s.heap.objs.size+1)]) U U (by decide+kernel) (by decide+kernel) U U (ij.mpr ⟨U,js _⟩) U) U (λ_ _ _ _=>(kQ (K:=K) (n:=2) U U (aJ (aD (i:=0) (show(["k","row","rows"]:List Str).Nodup by decide+kernel) U (Or.inl U) (Or.inr U)) (aJ (aD (i:=1) (show(["k","row","rows"]:List Str).Nodup by decide+kernel) U (Or.inl U) (Or.inr U)) bP)))) (λ_ _ _ _=>(iF (u9 (K:=K) U (au rO (au rN (pv 2) (pv 0)) ag)))) (λ_ _ _ _=>(aF (fk (K:=K) U) (pv 1) ag (λ_ _=>U))))
  (ai (aw (wC (qL iQ bl.k_First (qL jx bl.k_Only (qL jy bl.k_Like (qL j6 bl.k_Low (qL jz bl.k_High (qL ka bl.k_Sum BQ)))))) bL hr (aL mY hr U (aa (ba (pv 0) U) ae)) (aa (pv 2) (aa (ba (pv 0) U) ae)))))),?_⟩
 have X:xs.length=a.length:=hR.1
 refine⟨_,U,t,_,_,_,_,U,S,bl.k_Table,bl.na_Table_rows,hf,rl,U,⟨_,SqL.of B⟩,sP (xs:=xs) (λD i zs p=>ar H p/\p D=Kb (.lst zs)/\zs=(pkF a (bQ m) i).map V.int)
  (λD y=>⟨af y _,ab,U⟩) (λD i zs p y _ h=>SqL.of (h.1 _ _ B)) (λD i x zs p T y ex h hT ts a0=>?_) (λD zs p y h=>?_)⟩
 .obtain⟨L,O,rfl⟩:=h;have s2:=L.trans (af hT (.tup [.int i,x]));have eT:upd p T (.tup [.int i,x]) T=Kb (.tup [.int i,x]):=ab;have u:=af hT (.tup [.int i,x]) _ _ O;generalize upd p T (.tup [.int i,x])=H2 at s2 eT u⊢;obtain⟨r,w_,rfl,ew,ce,cv,g1,_,g2,g3⟩:=ax.get (hR.same s2) ex;have hi:i<xs.length:=(Gz.mp ex).1;have hg:a.getD i ([],0)=w_:=getD_at ew;have a1:=uv a (bQ m) i;obtain⟨J,I,rfl⟩:∃J I,ts=[J,I]:=by
   match ts,a0 with
   | [J,I],_=>exact⟨J,I,U⟩
  refine⟨T,_,U,SqT.of eT,U,_,_,U,_,_,U,U,⟨[Kb (.int i),Kb (.ref r)],U,U⟩,?_⟩;refine⟨_,U,_,U,_,_,U,U,Int.natCast_nonneg _,_,_,U,U,bQ m i,U,?_⟩;have v:=xg a (bQ m) i;rw[hg]at v;cases hb:bQ m i with
  |true =>
   rw[hb]at v;refine fO ⟨_,U,r,_,_,_,U,U,SqT.of g1,U,cB.mk hi u (az (by rw[bx];lia)) ⟨s2.upd y,ab,?_⟩⟩;rw[v,iv];rfl
  |false =>
   rw[hb]at v;refine ck (dG.mk (zs:=(pkF a (bQ m) i).map V.int) hi ⟨s2,u,?_⟩);rw[v];simp
 .obtain⟨L,O,rfl⟩:=h;rw[X]at O;have Z:wy∈six:=GB z;refine⟨_,U,t,_,_,_,_,U,L _ _ S,bl.k_Table,bl.na_Table_way,a3,wy,U,Z,λM a5 x C H2 s2 l hw=>?_⟩;have ii:M=wi:=yB a5 z;subst ii;have R:=L.trans s2;obtain⟨dw,hx⟩:=hw;have a1:=uv a (bQ m) a.length;have W:(C,j3 K C Y.i Y.j M)∈[(Y.b,j3 K Y.b Y.i Y.j 0),(Y.c,j3 K Y.c Y.i Y.j 1),(Y.d,j3 K Y.d Y.i Y.j 2),(Y.e,j3 K Y.e Y.i Y.j 3),(Y.f,j3 K Y.f Y.i Y.j 4),(Y.g,j3 K Y.g Y.i Y.j 5)]:=by
   match M,l with
   |0,l=>cases l;exact .head _
   |1,l=>cases l;exact .tail _ (.head _)
   |2,l=>cases l;exact .tail _ (.tail _ (.head _))
   |3,l=>cases l;exact .tail _ (.tail _ (.tail _ (.head _)))
   |4,l=>cases l;exact .tail _ (.tail _ (.tail _ (.tail _ (.head _))))
   |5,l=>cases l;exact .tail _ (.tail _ (.tail _ (.tail _ (.tail _ (.head _)))))
   |n+6,l=>simp[cl6]at l
  refine⟨x,(C,j3 K C Y.i Y.j M),dw,_,U,W,hx,U,_,U,_,U,t,_,_,_,_,U,R _ _ S,bl.k_Table,bl.na_Table_outcome,a4,x,D,ou,_,o,U,⟨dw,_,hx⟩,a2.same R,G,SqL.of (s2 _ _ O),by lia,λr H3 s3 h3=>q r H3 (R.trans s3) h3⟩
theorem E9(F:Fun K "_law_domain" "_law_domain" Y52 f fd) (bl:Bl K mg Y)(a:bj CX0 P w K mg base 3 "Numbers" Y.i ["self","low","high"] (bp K Y)) (k:bj CX0 P w K mg base 3 "Words" Y.j ["self","words"] (bC K Y)) (d7:Callee P w K mg base 4 "_law_word" ["cell","k"] (dZ K Y)):aK P w K mg base CX0 5 f fd ["cell","points"] (fM K Y):=by
 refine F.okA Z52 λa0 A T s H vs Q E G h=>?_
 obtain⟨c,l,d,rfl,L,I,hw,q⟩:=h
 refine⟨_,(aj (aM (aE br (au aO (pv 0) ag) ag (aH _))
  (ai (aw (qz k bL G U (aa (cM (aX U bl.range_ (aa (au cx (av ao U bl.len_ Ka (aa (pv 1) ae)) ag) ae)) (bD (N:=["k","cell"]) (fr:=[0]) (cl:=[("cell",s.heap.objs.size+1)]) U U (by decide+kernel) (by decide+kernel) U (by decide+kernel) U U U (ij.mpr ⟨U,js _⟩) U) U (λ_ _ _ _=>bz) (λ_ _ _ _=>(aL d7 G U (aa (pv 1) (aa (pv 0) ae))))) ae))))
  aC)
  (ai (aw (qz a bL G U (aa (aF aG (pv 1) ag (λ_ _=>U)) (aa (au cx (aF aG (pv 1) (kL gN ag) (λ_ _=>U)) ag) ae)))))),?_⟩
 have h2:=I.two;refine⟨_,U,_,_,U,U,(by show(0:Int)<3;decide),U,_,U,?_⟩;refine bq (λg=>?_) (λg=>?_)
 .obtain⟨m,W,M,rfl⟩:=hw (fP g);have hl:((cG (m+1)).map V.int).length=m+1:=by rw[bx,bZ]
  have t:((((cG (m+1)).map V.int).length:Nat):Int)-1=(m:Int):=by rw[hl];lia
  refine⟨_,U,l,_,U,.inl (SqL.of L),_,_,U,U,_,U,(by rw[t];lia),(by rw[t];lia),cn (λD i v r=>ar H r/\r D=Kb (.lst v)/\v=(w3s c i).map V.str) (λD z=>⟨af z _,ab,U⟩) (λD i v r z hi J=>?_) (λD v r z J=>?_)⟩
  .obtain⟨y,B,rfl⟩:=J;rw[t]at hi;refine⟨_,U,_,U,c,_,U,(by lia),(by lia),cB.mk (by rw[t];exact hi) B (az (by rw[bx,fw];lia)) ⟨y.upd z,ab,?_⟩⟩;rw[mE,iv];rfl
  .obtain⟨y,B,rfl⟩:=J;rw[t]at B;refine λx n p o S=>?_
   have C:ar r (upd (upd r n (.own x)) x (.ins Y.j n [])):=(af o _).upd p;refine⟨x,n,D,w3s c m,U,ab,C _ _ B,qY W M,λH6 Z k1 X k3 k4=>⟨U,q x H6 (y.trans λb u e=>k1 b u (bf e p) (C _ _ e)) ?_ ?_⟩⟩
   rotate_left
   .unfold vy;rw[Kj (fP g),bZ];exact⟨n,_,Z,X,U,k3,U,U,U,y.free (C.free k4)⟩
   refine⟨Y.j,.inr U,n,_,X,?_,?_,U⟩
   .rw[vo W];rfl
   .rw[vp];show Kb (V.int (hiW (w3s c m)))=_;unfold hiW;rw[fw]
 .have e0:d[0]?=Kb (loP d):=by
   unfold loP;rw[dF,Gy (by lia)];rfl
  have R:atI (d.map V.int) 0=Kb (.int (loP d)):=aS (j:=0) (get_map e0);have O:atI (d.map V.int) (-1)=Kb (.int (hiP d+1)):=by
   unfold atI;rw[mz (by rw[bx];lia),bx];exact get_map I.last
  refine⟨_,U,l,_,_,_,U,U,SqL.of L,R,_,U,_,U,l,_,_,_,U,U,SqL.of L,O,_,_,U,U,λx n p o S=>⟨x,n,loP d,hiP d,?_,ab,I.le,U,?_⟩⟩
  .show[V.ref x,V.int (loP d),V.int (hiP d+1-1)]=_;rw[show hiP d+1-1=hiP d by lia]
  refine q x _ ?_ ⟨Y.i,.inl U,n,_,ab,U,U,U⟩ (by unfold vy;rw[Ki (iE g)];exact⟨n,_,ab,U,U,U⟩);unfold mkd;exact(((af o _).upd p).upd p).upd p
theorem Fb(F:Fun K "_law_outcome" "_law_outcome" Y58 f fd) (bl:Bl K mg Y)(a:bj CX0 P w K mg base 3 "Numbers" Y.i ["self","low","high"] (bp K Y)) (d:bj CX0 P w K mg base 3 "Words" Y.j ["self","words"] (bC K Y)) (d7:Callee P w K mg base 4 "_law_word" ["cell","k"] (dZ K Y)):aK P w K mg base CX0 5 f fd ["cell","outs"] (fc K Y):=by
 refine F.okA Z58 λa1 A G s H vs Q E y h=>?_
 obtain⟨c,l,os,rfl,L,W,q⟩:=h
 refine⟨_,(aj (aM (aE br (au aO (pv 0) ag) ag (aH _))
  (ai (aw (qz d bL y U (aa (cM (aX U bl.range_ (aa ag ae)) (bD (N:=["k","cell"]) (fr:=[0]) (cl:=[("cell",s.heap.objs.size+1)]) U U (by decide+kernel) (by decide+kernel) U (by decide+kernel) U U U (ij.mpr ⟨U,js _⟩) U) U (λ_ _ _ _=>bz) (λ_ _ _ _=>(aL d7 y U (aa (pv 1) (aa (pv 0) ae))))) ae))))
  aC)
  (ai (aw (qz a bL y U (aa (aF aG (pv 1) ag (λ_ _=>U)) (aa (aF aG (pv 1) ag (λ_ _=>U)) ae)))))),?_⟩
 obtain⟨O,x1,x2,x3,M,rfl,h1,h2,h3,h4,X⟩:=W;refine⟨_,U,_,_,U,U,(by show(0:Int)<3;decide),U,_,U,?_⟩;refine bq (λg=>?_) (λg=>?_)
 .obtain⟨e0,Z⟩:=X (fP g);subst e0 Z;refine⟨_,U,(by decide),(by decide),cn (λD i r p=>ar H p/\p D=Kb (.lst r)/\r=(w3s c i).map V.str) (λD t=>⟨af t _,ab,U⟩) (λD i r p t hi z=>?_) (λD r p t z=>?_)⟩
  .obtain⟨v,B,rfl⟩:=z;have a0:i<5:=hi;refine⟨_,U,_,U,c,_,U,(by lia),(by lia),cB.mk hi B (az (by rw[bx,fw];lia)) ⟨v.upd t,ab,?_⟩⟩;rw[mE,iv];rfl
  .obtain⟨v,B,rfl⟩:=z;refine λx k o m C=>?_
   have I:ar p (upd (upd p k (.own x)) x (.ins Y.j k [])):=(af m _).upd o;refine⟨x,k,D,w3s c 5,U,ab,I _ _ B,qY (by decide) (by decide),λH6 R T J S k4=>⟨U,q x H6 (v.trans λb u e=>T b u (bf e o) (I _ _ e)) ?_ (λn=>Kk (fP g) n) (by unfold dmO;rw[Kj (fP g)];exact⟨k,_,R,J,U,S,U,U,U⟩)⟩⟩;refine⟨Y.j,.inr U,k,_,J,U,?_,U⟩;show Kb (V.int (hiW (w3s c 5)))=Kb (.int 4);unfold hiW;rw[fw];rfl
 .refine⟨_,U,l,_,_,_,U,U,SqL.of L,U,_,U,l,_,_,_,U,U,SqL.of L,U,λx k o m C=>⟨x,k,O,M,U,ab,by lia,U,?_⟩⟩;refine q x _ ?_ ⟨Y.i,.inl U,k,_,ab,U,U,U⟩ (λ_=>⟨k,_,ab⟩) (by unfold dmO;rw[Ki (iE g)];exact⟨k,_,ab,U,U,U⟩);unfold mkd;exact(((af m _).upd o).upd o).upd o
theorem Fc(F:Fun K "__init__" "Table.__init__" Y17 f fd) (bl:Bl K mg Y)(mZ:Callee P w K mg base 5 "refuse_names" ["names"] (eG K Y)) (kY:Callee P w K mg base 5 "refuse_counts" ["names","rows"] (dO K Y)) (pZ:Callee P w K mg base 5 "refuse_way" ["way","outcome"] (fL K Y)) (p6:Callee P w K mg base 5 "refuse_row" ["domains","outcome","cells","code"] (fK K Y)) (vG:Callee P w K mg base 5 "own_row" ["cells","code"] (jk K Y)):aK P w K mg base CX0 6 f fd ["self","name","names","domains","outcome","way","rows"] (cj K Y):=by
 refine F.okA Z17 λd4 A c9 s H vs Q E hr h=>?_
 obtain⟨x,g,na,dl,m,rl,c,C,l,J,rx,bs,o,a1,rfl,hx,W,hw,b5,h1,h4,b0,b1,a0,c1,b4,S,hR,vn,d3,hok,q⟩:=h
 refine⟨_,(aj (aV (aL mZ hr U (aa (au dz (aR (aa (pv 1) ae)) (pv 2)) ae)))
  (aj (aV (aL kY hr U (aa (pv 2) (aa (pv 6) ae))))
  (aj (aV (aL pZ hr U (aa (pv 5) (aa (pv 4) ae))))
  (aN (bg Hn.never U (aW (pv 6)) (eQ U (aJ (aD (i:=7) Z17.nd U (Or.inl U)) (aJ (aD (i:=8) Z17.nd U (Or.inl U)) bP)))
  (ai (aV (aL p6 hr U (aa (pv 3) (aa (pv 4) (aa (pv 7) (aa (pv 8) ae))))))))
  (aj (cD (pv 0) (pv 1) U)
  (aj (cD (pv 0) (bB bV U bl.list_ PyProof.Rows.boot_list (aa (pv 2) ae)) U)
  (aj (cD (pv 0) (bB bV U bl.list_ PyProof.Rows.boot_list (aa (pv 3) ae)) U)
  (aj (cD (pv 0) (pv 4) U)
  (aj (cD (pv 0) (pv 5) U)
  (ai (cD (pv 0) (dU (aW (pv 6)) (eK (N:=["cells","code"]) (k:=2) U U (by decide+kernel) (by decide+kernel) (by decide+kernel)) U (λ_ _ _ _=>(kQ (K:=K) (n:=2) U U (aJ (aD (i:=0) (show(["cells","code"]:List Str).Nodup by decide+kernel) U (Or.inl U) (Or.inr U)) (aJ (aD (i:=1) (show(["cells","code"]:List Str).Nodup by decide+kernel) U (Or.inl U) (Or.inr U)) bP)))) (λ_ _ _ _=>bz) (λ_ _ _ _=>(aL vG hr U (aa (pv 0) (aa (pv 1) ae))))) U))))))))))),?_⟩
 have Z:(l.map V.str).length=l.length:=bx _;refine⟨_,U,(by show 1<=GH;decide),λl1 c0=>?_⟩;have s1:=af c0 (.lst [.str c]);have e1:upd H l1 (.lst [.str c]) l1=Kb (.lst [.str c]):=ab;generalize upd H l1 (.lst [.str c])=H1 at s1 e1⊢;refine⟨_,U,l1,na,_,_,U,U,e1,s1 _ _ W,(by rw[Z];show 1+l.length<=GH;exact big (by lia)),λl2 b6=>?_⟩;have s2:=s1.trans (af b6 (.lst ([V.str c]++l.map V.str)));have e2:upd H1 l2 (.lst ([V.str c]++l.map V.str)) l2=Kb (.lst ((c :: l).map V.str)):=ab;generalize upd H1 l2 (.lst ([V.str c]++l.map V.str))=H2 at s2 e2⊢;refine⟨l2,c :: l,U,SqL.of e2,hw,b5,by rw[iK];lia,λH3 t3=>?_⟩;have s3:=s2.trans t3;refine⟨_,U,_,U,na,rl,_,_,U,SqL.of (s3 _ _ W),SqL.of (s3 _ _ S),by rw[Z];exact h1,by rw[Z];exact h4,vn,?_⟩;refine⟨_,U,_,U,C,m,U,b0,(λz=>let ⟨dx',fs',e'⟩:=b1 z;⟨dx',fs',s3 _ _ e'⟩),λH4 t4=>?_⟩;have s4:=s3.trans t4;refine⟨λa6 v=>ar H v/\∃c7 c8:Option V,a6=[Kb (.ref x),Kb (.str c),Kb (.ref na),Kb (.ref dl),Kb (.ref m),Kb (.str C),Kb (.ref rl),c7,c8],?_,?_⟩
 .refine⟨_,U,rl,U,⟨_,SqL.of (s4 _ _ S)⟩,bJ (xs:=rx) (λi σ v=>ar H v/\∃c7 c8:Option V,σ=[Kb (.ref x),Kb (.str c),Kb (.ref na),Kb (.ref dl),Kb (.ref m),Kb (.str C),Kb (.ref rl),c7,c8]) ⟨s4,_,_,U⟩ (λi σ v _ h=>SqL.of (h.1 _ _ S)) (λi y σ v e h=>?_) (λσ v h=>h)⟩;obtain⟨u,c7,c8,rfl⟩:=h;obtain⟨r,w_,rfl,ew,ce,cv,g1,_,g2,g3⟩:=ax.get (hR.same u) e;refine⟨r,_,U,SqT.of g1,U,_,_,U,_,_,U,U,?_⟩;exact⟨_,U,_,U,_,U,_,U,dl,m,ce,J,cv,bs,o,w_,U,SqL.of (u _ _ a0),ax.mono c1 λ_ _ p=>p.same u,b4.same u,g2,g3,hok w_ (GB ew),λH2 t2=>⟨u.trans t2,_,_,U⟩⟩
 rintro d0 L ⟨T,c7,c8,rfl⟩;have x5:=T _ _ hx;have a8:na≠x:=eI W hx (by intro z;cases z);have c5:dl≠x:=eI a0 hx (by intro z;cases z);have a7:rl≠x:=eI S hx (by intro z;cases z);have k5:∀b o,b≠x->H b=Kb o->L b=Kb o:=λb o _ e=>T b o e
 have R5:=RL.hide x5 (hR.same T);refine⟨_,U,_,U,x,_,g,_,U,x5,bl.k_Table,bl.na_Table_name,(by show 0<1000;decide),?_⟩;have k6:∀b o,b≠x->L b=Kb o->upd L x (.ins Y.k g [(s!"name",.str c)]) b=Kb o:=λb o t e=>(ay t).trans e
 have x6:upd L x (.ins Y.k g [(s!"name",.str c)]) x=Kb (.ins Y.k g [(s!"name",.str c)]):=ab;have g6:upd L x (.ins Y.k g (bw s!"name" (.str c) []))=upd L x (.ins Y.k g [(s!"name",.str c)]):=rfl;rw[g6];clear g6;generalize upd L x (.ins Y.k g [(s!"name",.str c)])=H6 at k6 x6⊢;refine⟨_,U,na,_,U,.inl (SqL.of (k6 _ _ a8 (T _ _ W))),λd I=>⟨_,U,x,_,g,_,U,cF x6 I,bl.k_Table,bl.na_Table_names,(by show 1<1000;decide),?_⟩⟩;have g7:upd (upd H6 d (.lst (l.map V.str))) x (.ins Y.k g (bw s!"names" (V.ref d) [(s!"name",V.str c)]))=upd (upd H6 d (.lst (l.map V.str))) x (.ins Y.k g [(s!"name",V.str c),(s!"names",V.ref d)]):=by rw[pf1]
 rw[g7];clear g7;have k7:∀b o,b≠x->L b=Kb o->upd (upd H6 d (.lst (l.map V.str))) x (.ins Y.k g [(s!"name",V.str c),(s!"names",V.ref d)]) b=Kb o:=λb o t e=>(ay t).trans (cF (k6 b o t e) I)
 have x7:upd (upd H6 d (.lst (l.map V.str))) x (.ins Y.k g [(s!"name",V.str c),(s!"names",V.ref d)]) x=Kb (.ins Y.k g [(s!"name",V.str c),(s!"names",V.ref d)]):=ab;have G:d≠x:=λz=>by rw[z,x6]at I;cases I
 have j7:upd (upd H6 d (.lst (l.map V.str))) x (.ins Y.k g [(s!"name",V.str c),(s!"names",V.ref d)]) d=Kb (.lst (l.map V.str)):=(ay G).trans ab;generalize upd (upd H6 d (.lst (l.map V.str))) x (.ins Y.k g [(s!"name",V.str c),(s!"names",V.ref d)])=H7 at k7 x7 j7⊢;refine⟨_,U,dl,_,U,.inl (SqL.of (k7 _ _ c5 (T _ _ a0))),λj B=>⟨_,U,x,_,g,_,U,cF x7 B,bl.k_Table,bl.na_Table_domains,(by show 2<1000;decide),?_⟩⟩;have g8:upd (upd H7 j (.lst J)) x (.ins Y.k g (bw s!"domains" (V.ref j) [(s!"name",V.str c),(s!"names",V.ref d)]))=upd (upd H7 j (.lst J)) x (.ins Y.k g [(s!"name",V.str c),(s!"names",V.ref d),(s!"domains",V.ref j)]):=by rw[pf2]
 rw[g8];clear g8;have k8:∀b o,b≠x->L b=Kb o->upd (upd H7 j (.lst J)) x (.ins Y.k g [(s!"name",V.str c),(s!"names",V.ref d),(s!"domains",V.ref j)]) b=Kb o:=λb o t e=>(ay t).trans (cF (k7 b o t e) B)
 have x8:upd (upd H7 j (.lst J)) x (.ins Y.k g [(s!"name",V.str c),(s!"names",V.ref d),(s!"domains",V.ref j)]) x=Kb (.ins Y.k g [(s!"name",V.str c),(s!"names",V.ref d),(s!"domains",V.ref j)]):=ab;have O:j≠x:=λz=>by rw[z,x7]at B;cases B
 have j8:upd (upd H7 j (.lst J)) x (.ins Y.k g [(s!"name",V.str c),(s!"names",V.ref d),(s!"domains",V.ref j)]) d=Kb (.lst (l.map V.str)):=(ay G).trans (cF j7 B);have i8:upd (upd H7 j (.lst J)) x (.ins Y.k g [(s!"name",V.str c),(s!"names",V.ref d),(s!"domains",V.ref j)]) j=Kb (.lst J):=(ay O).trans ab;generalize upd (upd H7 j (.lst J)) x (.ins Y.k g [(s!"name",V.str c),(s!"names",V.ref d),(s!"domains",V.ref j)])=H8 at k8 x8 j8 i8⊢;refine⟨_,U,_,U,x,_,g,_,U,x8,bl.k_Table,bl.na_Table_outcome,(by show 3<1000;decide),?_⟩;have g9:upd H8 x (.ins Y.k g (bw s!"outcome" (V.ref m) [(s!"name",V.str c),(s!"names",V.ref d),(s!"domains",V.ref j)]))=upd H8 x (.ins Y.k g [(s!"name",V.str c),(s!"names",V.ref d),(s!"domains",V.ref j),(s!"outcome",V.ref m)]):=by rw[pf3]
 rw[g9];clear g9;have k9:∀b o,b≠x->L b=Kb o->upd H8 x (.ins Y.k g [(s!"name",V.str c),(s!"names",V.ref d),(s!"domains",V.ref j),(s!"outcome",V.ref m)]) b=Kb o:=λb o t e=>(ay t).trans (k8 b o t e)
 have x9:upd H8 x (.ins Y.k g [(s!"name",V.str c),(s!"names",V.ref d),(s!"domains",V.ref j),(s!"outcome",V.ref m)]) x=Kb (.ins Y.k g [(s!"name",V.str c),(s!"names",V.ref d),(s!"domains",V.ref j),(s!"outcome",V.ref m)]):=ab;have j9:upd H8 x (.ins Y.k g [(s!"name",V.str c),(s!"names",V.ref d),(s!"domains",V.ref j),(s!"outcome",V.ref m)]) d=Kb (.lst (l.map V.str)):=(ay G).trans j8;have i9:upd H8 x (.ins Y.k g [(s!"name",V.str c),(s!"names",V.ref d),(s!"domains",V.ref j),(s!"outcome",V.ref m)]) j=Kb (.lst J):=(ay O).trans i8;generalize upd H8 x (.ins Y.k g [(s!"name",V.str c),(s!"names",V.ref d),(s!"domains",V.ref j),(s!"outcome",V.ref m)])=H9 at k9 x9 j9 i9⊢;refine⟨_,U,_,U,x,_,g,_,U,x9,bl.k_Table,bl.na_Table_way,(by show 4<1000;decide),?_⟩;have a4:upd H9 x (.ins Y.k g (bw s!"way" (V.str C) [(s!"name",V.str c),(s!"names",V.ref d),(s!"domains",V.ref j),(s!"outcome",V.ref m)]))=upd H9 x (.ins Y.k g [(s!"name",V.str c),(s!"names",V.ref d),(s!"domains",V.ref j),(s!"outcome",V.ref m),(s!"way",V.str C)]):=by rw[pf4]
 rw[a4];clear a4;have R:∀b o,b≠x->L b=Kb o->upd H9 x (.ins Y.k g [(s!"name",V.str c),(s!"names",V.ref d),(s!"domains",V.ref j),(s!"outcome",V.ref m),(s!"way",V.str C)]) b=Kb o:=λb o t e=>(ay t).trans (k9 b o t e)
 have M:upd H9 x (.ins Y.k g [(s!"name",V.str c),(s!"names",V.ref d),(s!"domains",V.ref j),(s!"outcome",V.ref m),(s!"way",V.str C)]) x=Kb (.ins Y.k g [(s!"name",V.str c),(s!"names",V.ref d),(s!"domains",V.ref j),(s!"outcome",V.ref m),(s!"way",V.str C)]):=ab;have a2:upd H9 x (.ins Y.k g [(s!"name",V.str c),(s!"names",V.ref d),(s!"domains",V.ref j),(s!"outcome",V.ref m),(s!"way",V.str C)]) d=Kb (.lst (l.map V.str)):=(ay G).trans j9;have a3:upd H9 x (.ins Y.k g [(s!"name",V.str c),(s!"names",V.ref d),(s!"domains",V.ref j),(s!"outcome",V.ref m),(s!"way",V.str C)]) j=Kb (.lst J):=(ay O).trans i9;generalize upd H9 x (.ins Y.k g [(s!"name",V.str c),(s!"names",V.ref d),(s!"domains",V.ref j),(s!"outcome",V.ref m),(s!"way",V.str C)])=H10 at R M a2 a3⊢;have c6:RL NT H10 rx a1:=RL.same R5 (hide_same R);have zO:=R _ _ a7 (T _ _ S)
 refine⟨_,U,rl,U,⟨_,SqL.of zO⟩,dJ (xs:=rx) (λD i l v=>ar H10 v/\v D=Kb (.lst l)/\RL (Fr H10 D) v l (a1.take i))
  (λD X=>⟨af X _,ab,ax.nil⟩) (λD i l v X _ h=>SqL.of (h.1 _ _ zO)) (λD i y l v X e h ts b3=>?_) (λD l v X h=>?_)⟩
 .obtain⟨u,eD,hz⟩:=h;obtain⟨r,w_,rfl,ew,ce,cv,g1,_,g2,g3⟩:=ax.get (c6.same u) e;have hi:i<rx.length:=(Gz.mp e).1;obtain⟨t0,t1,rfl⟩:∃t0 t1,ts=[t0,t1]:=by
   match ts,b3 with
   | [t0,t1],_=>exact⟨t0,t1,U⟩
  refine⟨r,_,U,SqT.of g1,U,_,_,U,_,_,U,U,⟨[Kb (.ref ce),Kb (.int w_.2)],U,U⟩,?_⟩;refine⟨_,U,_,U,ce,cv,w_,U,g2,g3,by rw[(hok w_ (GB ew)).len];lia,λr2 H2 t2 d1 kB=>?_⟩;have a5:=t2 _ _ eD;have d2:l.length<=200:=by
   have:=hz.1;rw[ik]at this;lia
  refine cB.mk hi a5 (az (by lia)) ⟨(u.trans t2).upd X,ab,?_⟩;rw[take_snoc ew];exact RL.updN (ax.snoc (hz.same t2) (kB.wk λa h=>⟨u.free h,λz=>by rw[z,eD]at h;cases h⟩)) Fr.out a5
 .obtain⟨u,eD,hz⟩:=h;rw[hR.1,ip]at hz;refine⟨_,U,x,_,g,_,U,u _ _ M,bl.k_Table,bl.na_Table_rows,(by show 5<1000;decide),?_⟩;have c2:upd v x (.ins Y.k g (bw s!"rows" (V.ref D) [(s!"name",V.str c),(s!"names",V.ref d),(s!"domains",V.ref j),(s!"outcome",V.ref m),(s!"way",V.str C)]))=upd v x (.ins Y.k g [(s!"name",V.str c),(s!"names",V.ref d),(s!"domains",V.ref j),(s!"outcome",V.ref m),(s!"way",V.str C),(s!"rows",V.ref D)]):=by rw[pf5]
  rw[c2];have a9:D≠x:=λz=>by rw[z,M]at X;cases X
  have Cw:∀a,H10 a=Kc->H a=none:=λa ha=>by
   cases hh:H a with
   |none=>rfl
   |some o =>
    have nx:a≠x:=λz=>by rw[z,M]at ha;cases ha
    rw[R a o nx (T _ _ hh)]at ha;cases ha
  have c4:H d=none:=by
   cases hh:H d with
   |none=>rfl
   |some o=>rw[k6 d o G (T _ _ hh)]at I;cases I
  have c3:H j=none:=by
   cases hh:H j with
   |none=>rfl
   |some o=>rw[k7 j o O (T _ _ hh)]at B;cases B
  refine q _ _ D l (λb o t e=>(ay t).trans (u _ _ (R b o t (T _ _ e)))) ab U U U U ⟨d,j,U,U,(ay G).trans (u _ _ a2),(ay O).trans (u _ _ a3),c4,c3⟩ (Cw D X) ((ay a9).trans eD) ?_;exact RL.same (RL.hideN (u _ _ M) (ax.mono hz λr w h=>h.wk λa ha=>Cw a ha.1)) (hide_same λb o t e=>(ay t).trans e)
theorem Fd{k n:Nat}(F:Fun K "boxes" "boxes" Y33 f fd) (bl:Bl K mg Y)(p7:Callee P w K mg base k "boxes" ["form","deep"] (ie K Y n)):aK P w K mg base CX0 (k+1) f fd ["form","deep"] (ie K Y (n+1)):=by
 refine F.okA Z33 λd2 A c9 s H vs Q E hr h=>?_
 obtain⟨g,a7,a,d,f_,v,rfl,hf,hn,J,h6,q⟩:=h
 refine⟨_,(aj (aM (aE br (pv 1) ag (aH _))
  (ai (aw (aR (aa (aY (aa (aY ae) (aa (pv 0) ae))) ae))))
  aC)
  (aj (aI (i:=2) Z33.nd U (Or.inl U) (aR ae))
  (aj (bg Hn.never U (vW (pv 0)) (eQ U (aJ (aD (i:=3) Z33.nd U (Or.inl U)) (aJ (aD (i:=4) Z33.nd U (Or.inl U)) (aJ (aD (i:=5) Z33.nd U (Or.inl U)) bP))))
  (ai (bg Hn.never U (aW (aL p7 hr U (aa (pv 5) (aa (au cx (pv 1) ag) ae)))) (eQ U (aJ (aD (i:=6) Z33.nd U (Or.inl U)) (aJ (aD (i:=7) Z33.nd U (Or.inl U)) bP)))
  (ai (aV (eR PySem.F.plainAttrs_list PySem.F.slot_list_append PySem.F.type_list_append bh (pv 2) (aa (aY (aa (au wu (aY (aa (aY (aa (pv 3) (aa (pv 4) ae))) ae)) (pv 6)) (aa (pv 7) ae))) ae)))))))
  (ai (aw (pv 2)))))),?_⟩
 cases d with
 |zero =>
  have hf:a.R H f_ v:=hf;refine⟨_,U,U,_,U,fu U ?_⟩;refine⟨(by show 0<=GH;decide),λb hb=>?_⟩;have s1:=af hb (.tup []);have e1:upd H b (.tup []) b=Kb (.tup []):=ab;generalize upd H b (.tup [])=H1 at s1 e1⊢;refine⟨_,U,bu,λt ht=>?_⟩;have s2:=af ht (.tup [.ref b,v]);have e2:upd H1 t (.tup [.ref b,v]) t=Kb (.tup [.ref b,v]):=ab;generalize upd H1 t (.tup [.ref b,v])=H2 at s2 e2⊢;refine⟨(by show 1<=GH;decide),λl X=>?_⟩;have s3:=af X (.lst [V.ref t]);have s:=(s1.trans s2).trans s3;exact q l _ _ s ((s1.trans s2).free X) ab (.cons ⟨t,b,v,U,s3 _ _ e2,⟨[],s3 _ _ (s2 _ _ e1),.nil⟩,a.mono s.tups hf⟩ .nil)
 |succ d =>
  obtain⟨r,xs,rfl,er,hp⟩:=hf;obtain⟨L,hL⟩:∃L:List (T3a (Fm g d)),L=f_:=⟨f_,U⟩;have hp:FmL (FmV a H d) H L xs:=by rw[hL];exact hp
  have J:(bxs (d+1) (show Fm g (d+1)from L)).length<=2000:=by rw[hL];exact J
  have h6:∀q∈bxs (d+1) (show Fm g (d+1)from L),q.1.length<=6:=by rw[hL];exact h6
  have q:∀(l:GD)(xs:List V)(o:Hp),ar H o->H l=Kc->o l=Kb (.lst xs)->BxG a o xs (bxs (d+1) (show Fm g (d+1)from L))->Q (.ref l) o:=by rw[hL];exact q
  have a8:xs.length=L.length:=hp.1;refine⟨_,U,U,_,U,cm (λz=>by have:=V.int.inj z;lia) ?_⟩;refine⟨(by show 0<=GH;decide),λl X=>?_⟩;have s0:ar H (upd H l (.lst [])):=af X _;have e0:upd H l (.lst []) l=Kb (.lst []):=ab;generalize upd H l (.lst [])=H0 at s0 e0⊢;refine⟨_,U,r,U,⟨_,SqT.of (s0 _ _ er)⟩,yf (xs:=xs) (λi C o=>ar H o/\∃(D:List V)(c3 c4 c5 O N:Option V),o l=Kb (.lst D)/\BxG a o D (bxs (d+1) (show Fm g (d+1)from L.take i))/\C=[Kb (.ref r),Kb (.int ((d+1:Nat):Int)),Kb (.ref l),c3,c4,c5,O,N]) ⟨s0,[],_,_,_,_,_,e0,.nil,U⟩ (λi C o _ h=>SqT.of (h.1 _ _ er)) (λi x C o ex M=>?_) (λC o M=>?_)⟩
  .obtain⟨sm,D,c3,c4,c5,O,N,el,hy,rfl⟩:=M;obtain⟨e,ee⟩:∃e,L[i]?=Kb e:=⟨_,Gy (by have:=(Gz.mp ex).1;lia)⟩;obtain⟨t,u,a3,et,hu⟩:=hp.2 i e ee;rw[ex]at a3;cases a3;have es:bxs (d+1) (show Fm g (d+1)from L.take (i+1))=bxs (d+1) (show Fm g (d+1)from L.take i)++((bxs d e.2.2).map λq=>((e.1,e.2.1) :: q.1,q.2)):=by
    rw[take_snoc ee,uy,yJ]
   have qG:∀q∈(bxs d e.2.2).map (λq=>((e.1,e.2.1) :: q.1,q.2)),q∈bxs (d+1) (show Fm g (d+1)from L):=λq hq=>qF.mpr ⟨e,GB ee,hq⟩
   have d1:(bxs (d+1) (show Fm g (d+1)from L.take i)).length+(bxs d e.2.2).length<=2000:=by
    have e3:bxs (d+1) (show Fm g (d+1)from L)=bxs (d+1) (show Fm g (d+1)from L.take (i+1))++bxs (d+1) (show Fm g (d+1)from L.drop (i+1)):=by rw[←uy,List.take_append_drop]
    have:=Ko List.length e3;rw[es,cK,cK,bx]at this;lia
   have b5:∀q∈bxs d e.2.2,q.1.length<=6:=λq hq=>by
    have:=h6 _ (qG _ (en.mpr ⟨q,hq,U⟩));have:q.1.length+1<=6:=this;lia
   have b6:∀q∈bxs d e.2.2,q.1.length<=5:=λq hq=>by
    have:=h6 _ (qG _ (en.mpr ⟨q,hq,U⟩));have:q.1.length+1<=6:=this;lia
   refine⟨t,_,U,SqT.of (sm _ _ et),U,_,_,U,_,_,U,_,_,U,U,?_⟩;refine⟨_,U,_,U,_,_,U,U,g,a7,a,d,e.2.2,u,(by show[u,V.int (((d+1:Nat):Int)-1)]=[u,V.int (d:Int)];rw[show((d+1:Nat):Int)-1=(d:Int) by lia]),FmV.mono sm.tups hu,by lia,by lia,b5,λl2 zs H2 s2 f2 e2 hz=>?_⟩;have c2:=s2 _ _ el;have nl:l≠l2:=λz=>by rw[←z,el]at f2;cases f2
   refine⟨l2,U,⟨_,SqL.of e2⟩,bJ (xs:=zs) (λk C B=>ar H B/\bM H2 B/\B l2=Kb (.lst zs)/\∃(D:List V)(O N:Option V),B l=Kb (.lst D)/\BxG a B D (bxs (d+1) (show Fm g (d+1)from L.take i)++((bxs d e.2.2).take k).map λq=>((e.1,e.2.1) :: q.1,q.2))/\C=[Kb (.ref r),Kb (.int ((d+1:Nat):Int)),Kb (.ref l),Kb (.int e.1),Kb (.int e.2.1),Kb u,O,N]) ⟨sm.trans s2,(λ_ _ h=>h),e2,D,_,_,c2,by rw[List.take_zero,vr,jv];exact hy.mono s2.tups,U⟩ (λk C B _ h=>SqL.of h.2.2.1) (λk x C B c0 M=>?_) (λC B M=>?_)⟩
   .obtain⟨T,S,a4,G,O,N,I,y,rfl⟩:=M;obtain⟨q2,W,t2,b2,Z,rfl,c1,b4,a9⟩:=eW (hz.mono S) c0;have hk:k<(bxs d e.2.2).length:=(Gz.mp W).1;have d0:=b6 q2 (GB W);refine⟨t2,_,U,SqT.of c1,U,_,_,U,_,_,U,U,?_⟩;refine⟨_,U,.inl ⟨U,_,SqL.of I⟩,_,U,_,U,bu,λp b1=>?_⟩;have u1:=af b1 (.tup [.int e.1,.int e.2.1]);have g1:upd B p (.tup [.int e.1,.int e.2.1]) p=Kb (.tup [.int e.1,.int e.2.1]):=ab;generalize upd B p (.tup [.int e.1,.int e.2.1])=H4 at u1 g1⊢;refine⟨(by show 1<=GH;decide),λp2 b3=>?_⟩;have u2:=af b3 (.tup [V.ref p]);have g2:upd H4 p2 (.tup [V.ref p]) p2=Kb (.tup [V.ref p]):=ab;generalize upd H4 p2 (.tup [V.ref p])=H5 at u2 g2⊢;obtain⟨bs,c8,a1⟩:=b4;have a0:=u1.trans u2;refine⟨_,U,xt g2 (a0 _ _ c8) (zf (az (by rw[a1.length,hQ];lia))) λp3 H6 u3 g3=>?_⟩;have a5:=a0.trans u3;refine⟨_,U,bu,λj b0=>?_⟩;have u4:=af b0 (.tup [.ref p3,Z]);have g4:upd H6 j (.tup [.ref p3,Z]) j=Kb (.tup [.ref p3,Z]):=ab;generalize upd H6 j (.tup [.ref p3,Z])=H7 at u4 g4⊢;have c:=a5.trans u4;have a2:=c _ _ I;refine⟨l,_,_,U,U,a2,vq (by rw[y.length,cK,bx,ik];lia),?_⟩;have m:bM H7 (upd H7 l (.lst (G++[.ref j]))):=aP a2;refine⟨(T.trans c).upd X,(S.trans c.tups).trans m,(ay nl.symm).trans (c _ _ a4),G++[.ref j],_,_,ab,?_,U⟩;rw[take_snoc W,iv,←mv];refine gx (y.mono (c.tups.trans m)) (.cons ⟨j,p3,Z,U,m _ _ g4,⟨_,m _ _ (u4 _ _ g3),?_⟩,a.mono (c.tups.trans m) a9⟩ .nil);have a6:PL H7 [V.ref p] [(e.1,e.2.1)]:=.cons ⟨p,U,u4 _ _ (u3 _ _ (u2 _ _ g1))⟩ .nil;exact(PL.app a6 (a1.mono c.tups)).mono m
   .obtain⟨T,S,a4,G,O,N,I,y,rfl⟩:=M;rw[hz.length,ip]at y;exact⟨T,G,_,_,_,_,_,I,by rw[es];exact y,U⟩
  .obtain⟨sm,D,c3,c4,c5,O,N,el,hy,rfl⟩:=M;rw[a8,ip]at hy;exact⟨_,U,q l D o sm X el hy⟩
theorem Fe(F:Fun K "boxes_with_leaf" "boxes_with_leaf" Y34 f fd) (bl:Bl K mg Y)(p7:Callee P w K mg base 7 "boxes" ["form","deep"] (ie K Y 7)):aK P w K mg base CX0 8 f fd ["form","deep"] (dk K Y):=by
 refine F.okA Z34 λa4 A a1 s H vs Q E hr h=>?_
 obtain⟨d,X,v,rfl,hF,hd,yZ,h6,q⟩:=h;refine⟨_,(ai (aw (dU (aW (aL p7 hr U (aa (pv 0) (aa (pv 1) ae)))) (eK (N:=["box","leaf"]) (k:=2) U U (by decide+kernel) (by decide+kernel) (by decide+kernel)) U (λ_ _ _ _=>(kQ (K:=K) (n:=2) U U (aJ (aD (i:=0) (show(["box","leaf"]:List Str).Nodup by decide+kernel) U (Or.inl U) (Or.inr U)) (aJ (aD (i:=1) (show(["box","leaf"]:List Str).Nodup by decide+kernel) U (Or.inl U) (Or.inr U)) bP)))) (λ_ _ _ _=>(iF (aE (yP (K:=K) U hr) (pv 1) (kS U bl.NOTHING_) (aH _)))) (λ_ _ _ _=>(aY (aa (pv 0) (aa (pv 1) ae))))))),?_⟩;refine⟨_,U,_,U,_,_,LPd,d,X,v,U,hF,by lia,by lia,h6,λl xs H1 s1 nl el V=>?_⟩;have L:xs.length=(bxs d X).length:=Paired.length V;generalize a3:bxs d X=BX at V yZ L q;refine⟨l,U,⟨_,SqL.of el⟩,dJ (xs:=xs) (λD j r b=>ar H1 b/\b D=Kb (.lst r)/\BxG (K:=K) LPd b r (eJ (BX.take j))) (λD C=>⟨af C _,ab,.nil⟩) (λD j r b C _ I=>SqL.of (I.1 _ _ el)) (λD j y r b C e I ts m=>?_) (λD r b C I=>?_)⟩
 .obtain⟨o,T,B⟩:=I;obtain⟨p,eq,tx,G,t,rfl,g1,g2,g3⟩:=eW V e;have hj:j<xs.length:=(Gz.mp e).1;obtain⟨S,R,rfl⟩:∃S R,ts=[S,R]:=by
   match ts,m with
   | [S,R],_=>exact⟨S,R,U⟩
  have a2:=B.length;have EK:(eJ (BX.take j)).length<=300:=yW (lI _ _) (by rw[ik];lia);have m:eJ (BX.take (j+1))=eJ (BX.take j)++if p.2=Kc then[] else[p]:=by
   unfold eJ;rw[take_snoc eq,nq];by_cases h:p.2=Kc
   .rw[Kj h,pk (by simpa using h)];rfl
   .rw[Ki h,pb (by simpa using h)];rfl
  refine⟨tx,_,U,SqT.of (o _ _ g1),U,_,_,U,_,_,U,U,⟨[Kb (.ref G),Kb t],U,U⟩,?_⟩;refine⟨_,U,λa0=>LPd.ne (x:=p.2) (y:=Kc) a0 (LPd.mono o.tups g3) U ⟨_,U,?_⟩⟩;refine bq (λg=>?_) (λg=>?_)
  .have W:p.2≠none:=λz=>by rw[z]at g;exact Kk g (by decide)
   refine⟨_,U,_,U,bu,λc Z=>?_⟩;have u:=af Z (.tup [.ref G,t]);have eT:upd b c (.tup [.ref G,t]) c=Kb (.tup [.ref G,t]):=ab;have a:=u _ _ T;have J:=B.mono u.tups;have O:=(g2.mono o.tups).mono u.tups;have M:=LPd.mono u.tups (LPd.mono o.tups g3);generalize upd b c (.tup [.ref G,t])=H3 at u eT a J O M⊢;refine cB.mk hj a (az (by lia)) ⟨(o.trans u).upd C,ab,?_⟩;rw[m,Ki W];exact gx (J.mono (aP a)) (.cons ⟨c,G,t,U,aP a _ _ eT,O.mono (aP a),LPd.mono (aP a) M⟩ .nil)
  .have W:p.2=none:=by
    by_cases z:p.2=Kc
    .exact z
    .exact Kk (show(!Kf (p.2=Kc))=Kd by rw[Km z];rfl) g
   refine dG.mk hj ⟨o,T,?_⟩;rw[m,Kj W,jv];exact B
 .obtain⟨o,T,B⟩:=I;rw[L,ip]at B;exact q D r b (s1.trans o) (s1.free C) T B
theorem Ff(F:Fun K "_law_table" "_law_table" Y65 f fd) (bl:Bl K mg Y)(bI:Callee P w K mg base 7 "_law_cell" ["script","k"] (dY K Y)) (a9:bj CX0 P w K mg base 6 "Table" Y.k ["self","name","names","domains","outcome","way","rows"] (cj K Y)) (n5:Callee P w K mg base 7 "_law_domain" ["cell","points"] (fM K Y)) (d7:Callee P w K mg base 7 "_law_word" ["cell","k"] (dZ K Y)) (m3:Callee P w K mg base 7 "_law_outcome" ["cell","outs"] (fc K Y)) (p8:Callee P w K mg base 7 "_law_spans" ["points","bits"] (gC K Y)):aK P w K mg base CX0 8 f fd ["script","points","outs","way","rows","turn"] (gF K Y):=by
 refine F.okA Z65 λn6 A m2 s H vs Q E hr h=>?_
 obtain⟨a,pl,ol,rl,ns,xs,c,os,rx,a1,wy,wi,tu,rfl,h8,h9,hS,a7,c4,hg,m8,m7,l3,e3,e6,b0,n3,k6,q⟩:=h
 refine⟨_,(aN (lA (i:=6) Z65.nd U (Or.inl U) (aX U bl.range_ (aa (av ao U bl.len_ Ka (aa (pv 1) ae)) ae)) (bD (N:=["k","script","points"]) (fr:=[0,1]) (cl:=[("script",s.heap.objs.size+1),("points",s.heap.objs.size+1+1)]) U U (by decide+kernel) (by decide+kernel) U (by decide+kernel) U U U (ij.mpr ⟨U,ij.mpr ⟨U,js _⟩⟩) U) U (λ_ _ _ _=>bz) (λ_ _ _ _=>(aL n5 hr U (aa (aL bI hr U (aa (pv 1) (aa (au bK ag (pv 0)) ae))) (aa (aF (dB (K:=K) U) (pv 2) (pv 0) (λ_ _=>U)) ae)))))
  (aN (lA (i:=7) Z65.nd U (Or.inl U) (aX U bl.range_ (aa ag ae)) (bD (N:=["k","script","turn"]) (fr:=[0,5]) (cl:=[("turn",s.heap.objs.size+1+1+1),("script",s.heap.objs.size+1)]) U U (by decide+kernel) (by decide+kernel) U (by decide+kernel) U U U (ij.mpr ⟨U,ij.mpr ⟨U,js _⟩⟩) U) U (λ_ _ _ _=>bz) (λ_ _ _ _=>(aL d7 hr U (aa (au bK (au bF (aL bI hr U (aa (pv 1) (aa ag ae))) ag) (pv 2)) (aa (pv 0) ae)))))
  (aj (aI (i:=8) Z65.nd U (Or.inl U) (aL bI hr U (aa (pv 0) (aa ag ae))))
  (aj (aI (i:=9) Z65.nd U (Or.inl U) (aR ae))
  (aN (bg Hn.never U (aW (pv 4)) (aD (i:=10) Z65.nd U (Or.inr U))
  (ai (aV (eR PySem.F.plainAttrs_list PySem.F.slot_list_append PySem.F.type_list_append bh (pv 9) (aa (aY (aa (cM (aX U bl.range_ (aa (av ao U bl.len_ Ka (aa (pv 1) ae)) ae)) (bD (N:=["k","points","row"]) (fr:=[1,10]) (cl:=[("row",s.heap.objs.size+1+1+1+1),("points",s.heap.objs.size+1+1)]) U U (by decide+kernel) (by decide+kernel) U (by decide+kernel) U U U (ij.mpr ⟨U,ij.mpr ⟨U,js _⟩⟩) U) U (λ_ _ _ _=>bz) (λ_ _ _ _=>(aL p8 hr U (aa (aF (dB (K:=K) U) (pv 1) (pv 0) (λ_ _=>U)) (aa (aF (dB (K:=K) U) (aF (fk (K:=K) U) (pv 2) ag (λ_ _=>U)) (pv 0) (λ_ _=>U)) ae))))) (aa (aF bc (pv 10) ag (λ_ _=>U)) ae))) ae)))))
  (ai (aw (qz a9 bL hr U (aa (aF aG (pv 7) ag (λ_ _=>U)) (aa (cq dR (pv 7) cY (cZ (av ao U bl.len_ Ka (aa (pv 1) ae)))) (aa (pv 6) (aa (aL m3 hr U (aa (pv 8) (aa (pv 2) ae))) (aa (pv 3) (aa (pv 9) ae)))))))))))))),?_⟩
 have d4:xs.length=c.length:=c4.1;obtain⟨bs,a5⟩:∃bs,bs=c.map λo=>(loP o,hiP o):=⟨_,U⟩
 have k7:bs.length=c.length:=by rw[a5];simp
 refine⟨λa2 l=>ar H l/\∃(dl:GD)(dv:List V),l dl=Kb (.lst dv)/\ax dv bs (Dom Y.i Y.j l)/\ax dv (dms ns c) (DmX Y.i Y.j l)/\a2=[Kb (.ref a),Kb (.ref pl),Kb (.ref ol),Kb (.str wy),Kb (.ref rl),Kb (.int tu),Kb (.ref dl),Kc,Kc,Kc,Kc],?_,?_⟩
 .refine⟨_,U,pl,_,U,.inl (SqL.of a7),_,U,(by show -(2^62)<=((xs.length:Nat):Int);lia),(by show((xs.length:Nat):Int)<2^62;lia),cn (λD i G l=>ar H l/\l D=Kb (.lst G)/\ax G (bs.take i) (Dom Y.i Y.j l)/\ax G ((dms ns c).take i) (DmX Y.i Y.j (hide l D))) (λD M=>⟨af M _,ab,ax.nil,ax.nil⟩) (λD i G l M hi L=>?_) (λD G l M L=>?_)⟩
  .obtain⟨I,eD,R,a4⟩:=L;have j9:i<c.length:=by lia
   obtain⟨o,B⟩:∃o,c[i]?=Kb o:=⟨_,Gy j9⟩;obtain⟨r,er,i8⟩:=c4.2 i o B;have eb:bs[i]?=Kb (loP o,hiP o):=by rw[a5,gI,B];rfl
   refine⟨_,U,_,U,_,_,U,U,a,ns,_,U,I.seq hS,(by show 0<=1+(0+(i:Int));lia),_,U,_,U,pl,_,_,_,U,U,SqL.of (I _ _ a7),nQ er,_,r,o,U,I _ _ i8,hg.pts o (GB B),hg.wrd i o B,λd H2 v hd c7=>?_⟩;have a8:=v _ _ eD;have j2:G.length<=4:=by have:=R.1;rw[ik]at this;lia
   refine cB.mk hi a8 (az (by lia)) ⟨(I.trans v).upd M,ab,?_,?_⟩
   rotate_left
   .rw[take_snoc (AX B),mJ];exact ax.snoc (ax.mono a4 λ_ _ p=>p.same (kz v)) (c7.hide eD v)
   rw[take_snoc eb];exact ax.mono (ax.snoc (ax.mono R λ_ _ p=>p.same v) hd) λ_ _ p=>p.upd a8
  .obtain⟨I,eD,R,a4⟩:=L;rw[DJ,d4]at R a4;rw[←k7,ip]at R;rw[show c.length=(dms ns c).length by unfold dms;rw[bx,lz],ip]at a4;exact⟨I,D,G,eD,R,ax.mono a4 λ_ _ p=>p.same (pV l D),U⟩
 rintro m6 H1 ⟨s1,dl,dv,l5,e5,Fg,rfl⟩;obtain⟨J,k0⟩:∃J,J=cA ns 0 / 4+tu:=⟨_,U⟩;refine⟨λa2 l=>ar H1 l/\∃na:GD,l na=Kb (.lst ((w3s J 5).map V.str))/\a2=[Kb (.ref a),Kb (.ref pl),Kb (.ref ol),Kb (.str wy),Kb (.ref rl),Kb (.int tu),Kb (.ref dl),Kb (.ref na),Kc,Kc,Kc],?_,?_⟩
 .refine⟨_,U,(by decide),(by decide),cn (λD i G l=>ar H1 l/\l D=Kb (.lst G)/\G=(w3s J i).map V.str) (λD M=>⟨af M _,ab,U⟩) (λD i G l M hi L=>?_) (λD G l M L=>?_)⟩
  .obtain⟨I,eD,rfl⟩:=L;have n1:i<5:=hi;refine⟨_,U,a,ns,0,U,(s1.trans I).seq hS,Int.le_refl _,_,_,U,U,⟨by decide,by decide⟩,_,U,_,_,U,U,_,U,_,_,U,(by lia),(by lia),?_⟩;rw[←k0];refine cB.mk hi eD (az (by rw[bx,fw];lia)) ⟨I.upd M,ab,?_⟩;rw[mE,iv];rfl
  .obtain⟨I,eD,rfl⟩:=L;exact⟨I,D,eD,U⟩
 rintro m5 H2 ⟨v,na,l4,rfl⟩;have a3:=s1.trans v;refine⟨_,U,a,ns,5,U,a3.seq hS,by decide,?_⟩;refine⟨(by show 0<=GH;decide),λZ e4=>?_⟩;have u3:=af e4 (.lst []);have e8:upd H2 Z (.lst []) Z=Kb (.lst []):=ab;generalize upd H2 Z (.lst [])=H3 at u3 e8⊢;have f7:=a3.trans u3;refine⟨λa2 l=>ar H2 l/\∃(X:List V)(g:List Rw)(c8:Option V),l Z=Kb (.lst X)/\RL NT l X g/\g.length=a1.length/\(∀w∈g,mB bs (o0 os,o4 os) w)/\(∀(k:Nat)(b:List Int×Int)(x:Rw),a1[k]?=Kb b->g[k]?=Kb x->GrR c b x)/\a2=[Kb (.ref a),Kb (.ref pl),Kb (.ref ol),Kb (.str wy),Kb (.ref rl),Kb (.int tu),Kb (.ref dl),Kb (.ref na),Kb (.int (cA ns 5)),Kb (.ref Z),c8],?_,?_⟩
 .refine⟨_,U,rl,U,⟨_,SqL.of (f7 _ _ e6)⟩,bJ (xs:=rx) (λi σ l=>ar H2 l/\∃(X:List V)(g:List Rw)(c8:Option V),l Z=Kb (.lst X)/\RL (Fr H2 Z) l X g/\g.length=i/\(∀w∈g,mB bs (o0 os,o4 os) w)/\(∀(k:Nat)(b:List Int×Int)(x:Rw),a1[k]?=Kb b->g[k]?=Kb x->GrR c b x)/\σ=[Kb (.ref a),Kb (.ref pl),Kb (.ref ol),Kb (.str wy),Kb (.ref rl),Kb (.int tu),Kb (.ref dl),Kb (.ref na),Kb (.int (cA ns 5)),Kb (.ref Z),c8]) ⟨u3,[],[],_,e8,ax.nil,U,(λw h=>by cases h),(λk b x _ e=>by simp at e),U⟩ (λi σ l _ L=>SqL.of ((a3.trans L.1) _ _ e6)) (λi y σ l e L=>?_) (λσ l L=>?_)⟩
  .obtain⟨I,X,g,c8,em,hR,C,hok,a6,rfl⟩:=L;have sA:=a3.trans I;obtain⟨r,b,rfl,eb,m1,e1,e2⟩:=ax.get b0 e;have hi:i<rx.length:=(Gz.mp e).1;obtain⟨n2,l1,k9⟩:=k6 b (GB eb);have l6:=sA _ _ e1;have n4:=sA _ _ e2;have Fh:=sA _ _ a7;refine⟨_,U,.inl ⟨U,_,SqL.of em⟩,_,U,pl,_,U,.inl (SqL.of Fh),_,U,(by show -(2^62)<=((xs.length:Nat):Int);lia),(by show((xs.length:Nat):Int)<2^62;lia),cn (λD j G O=>ar l O/\O D=Kb (.lst G)/\∃n:List Prs,CL (Fr l D) O G n/\n.length=j/\(∀(i:Nat)(qs:Prs)(b:Int×Int),n[i]?=Kb qs->bs[i]?=Kb b->∀p∈qs,b.1<=p.1/\p.2<=b.2)/\(∀(i:Nat)(qs:Prs)(o:List Int)(m:Int),n[i]?=Kb qs->c[i]?=Kb o->b.1[i]?=Kb m->SpG o m (o.length-1) qs)) (λD M=>⟨af M _,ab,[],ax.nil,U,(λi qs b e=>by simp at e),(λi qs o m e=>by simp at e)⟩) (λD j G O M hj L=>?_) (λD G O M L=>?_)⟩
   .obtain⟨T,eD,n,R,a0,c2,c3⟩:=L;have j7:j<c.length:=by lia
    obtain⟨o,B⟩:∃o,c[j]?=Kb o:=⟨_,Gy j7⟩;obtain⟨rp,l2,i5⟩:=c4.2 j o B;have sB:=sA.trans T;have k8:atI (b.1.map V.int) (0+(j:Int))=Kb (.int (b.1[j]'(by lia))):=nQ (get_map (Gy (by lia)));refine⟨_,U,_,U,pl,_,_,_,U,U,SqL.of (sB _ _ a7),nQ l2,_,U,r,_,_,_,U,U,SqT.of (sB _ _ e1),U,_,U,m1,_,_,_,U,U,SqL.of (sB _ _ e2),k8,rp,o,_,U,sB _ _ i5,hg.pts o (GB B),k9 _ (nC _),λsp qs n7 b5 d5 j8 i2=>?_⟩;have a8:=b5 _ _ eD;have j2:G.length=j:=by rw[R.1,a0]
    have c1:O sp=none:=d5.1;have nD:sp≠D:=λz=>by rw[z,eD]at c1;cases c1
    refine cB.mk hj a8 (az (by lia)) ⟨(T.trans b5).upd M,ab,n++[qs],CL.updN (ax.snoc (R.same b5) ⟨⟨T.free c1,nD⟩,d5.2⟩) Fr.out a8,by simp[a0],(λi' b6 b' S W=>?_),λi' b6 f9 m' S W f3=>?_⟩
    rotate_left
    .by_cases c6:i'<n.length
     .rw[iP c6]at S;exact c3 i' b6 f9 m' S W f3
     .have c5:i'=n.length:=by
       have:=(Gz.mp S).1;simp at this;lia
      subst c5;simp at S;subst S;rw[a0]at W f3;rw[B]at W;cases W;rw[Gy (by lia)]at f3;cases f3;exact i2
    by_cases c6:i'<n.length
    .rw[iP c6]at S;exact c2 i' b6 b' S W
    .have c5:i'=n.length:=by
      have:=(Gz.mp S).1;simp at this;lia
     subst c5;simp at S;subst S;rw[a0,a5,gI,B]at W;cases W;exact j8
   .obtain⟨T,eD,n,R,a0,c2,c3⟩:=L;rw[DJ]at a0;have e9:=T _ _ em;refine⟨_,U,r,_,_,_,U,U,SqT.of (T _ _ l6),U,bu,λt ht=>?_⟩;have ut:=af ht (.tup [.ref D,.int b.2]);have sC:=T.trans ut;have n0:X.length=i:=by rw[hR.1,C]
    refine⟨Z,_,_,U,U,ut _ _ e9,az (by lia),?_⟩;have j1:H2 D=none:=I.free M;have j0:D≠Z:=λz=>by rw[z,em]at M;cases M
    have Cy:ji (Fr H2 Z) (upd O t (.tup [.ref D,.int b.2])) t (n,b.2):=⟨D,G,ab,⟨j1,j0⟩,ut _ _ eD,(R.same ut).wk λx hx=>⟨I.free hx.1,λz=>by have h1:=hx.1;rw[z,em]at h1;cases h1⟩⟩;have h7:RL (Fr H2 Z) (upd O t (.tup [.ref D,.int b.2])) (X++[.ref t]) (g++[(n,b.2)]):=ax.snoc (hR.same sC) Cy;refine⟨(I.trans sC).upd e4,X++[.ref t],g++[(n,b.2)],_,ab,RL.updN h7 Fr.out (ut _ _ e9),by simp[C],(λw hw=>?_),(λk b' x S W=>?_),U⟩
    rotate_left
    .by_cases hk:k<g.length
     .rw[iP hk]at W;exact a6 k b' x S W
     .have j6:k=g.length:=by
       have:=(Gz.mp W).1;simp at this;lia
      subst j6;simp at W;subst W;rw[C,eb]at S;cases S;exact⟨U,by show n.length=c.length;lia,λj o qs m g1 g2 g3=>c3 j qs o m g2 g1 g3⟩
    rcases gg.mp hw with hw|hw
    .exact hok w hw
    .rw[show w=(n,b.2) by simpa using hw];have ho:=yE e3 b.2 l1;exact⟨by show n.length=bs.length;lia,c2,ho.1,ho.2⟩
  .obtain⟨I,X,g,c8,em,hR,C,hok,a6,rfl⟩:=L;have:rx.length=a1.length:=b0.1;exact⟨I,X,g,c8,em,hR.any,by lia,hok,a6,U⟩
 rintro m4 H4 ⟨t4,X,g,c8,em,hR,C,hok,a6,rfl⟩;have d3:=a3.trans t4;obtain⟨H5,f0⟩:∃H5,H5=H4:=⟨_,U⟩;have t5:ar H4 H5:=by rw[f0];exact ar.refl _
 rw[←f0];have f5:=t4.trans t5;have h6:atI ((w3s J 5).map V.str) 4=Kb (.str (w3 J (0+4))):=rfl;have Cz:=f5 _ _ l4;refine⟨_,U,na,_,_,_,U,U,SqL.of Cz,h6,_,U,_,U,pl,_,U,.inl (SqL.of ((d3.trans t5) _ _ a7)),_,U,na,_,U,SqL.of Cz,λnn i9=>?_⟩;have Fi:jQ ((w3s J 5).map V.str) Kc (Kb ((xs.length:Nat):Int))=(w3s J c.length).map V.str:=by
  rw[d4];have:c.length=1\/c.length=2\/c.length=3\/c.length=4:=by lia
  rcases this with h|h|h|h <;> rw[h] <;> rfl
 rw[Fi];have u6:=af i9 (.lst ((w3s J c.length).map V.str));have e7:upd H5 nn (.lst ((w3s J c.length).map V.str)) nn=Kb (.lst ((w3s J c.length).map V.str)):=ab;generalize upd H5 nn (.lst ((w3s J c.length).map V.str))=H6 at u6 e7⊢;have d1:=t5.trans u6;have d2:=d3.trans d1;refine⟨_,U,_,U,_,U,_,ol,os,U,d2 _ _ l3,e3,λou H7 s7 e0 Fj Fl=>?_⟩;have b4:=d1.trans s7;refine⟨_,U,_,U,λx dx hx c7 m9=>?_⟩;have s8:ar H7 (upd (upd H7 dx (.own x)) x (.ins Y.k dx [])):=(af c7 _).upd hx;have f6:=s7.trans s8;have b1:(w3 J (0+4) :: w3s J c.length).Nodup/\∀z∈w3 J (0+4) :: w3s J c.length,isw z=true:=by
  constructor
  .rw[nt];refine⟨λh=>?_,oV _ _⟩;unfold w3s at h;obtain⟨j,hj,e⟩:=en.mp h;have:=ju.mp hj;have:=xk (by lia) (by lia) e;lia
  .intro z R;rcases dt.mp R with rfl|R
   .exact xj _ _ (by lia) (by lia)
   .exact uw (by lia) z R
 have rm:wy=s!"sum" -> ∃dx fs,H7 ou=Kb (.ins Y.i dx fs):=λz=>Fj λe=>h9 e z
 have i1:=fw J c.length;have b3:=(t4.trans b4);refine⟨x,dx,nn,dl,ou,Z,_,_,w3s J c.length,dv,X,bs,(o0 os,o4 os),g,U,ab,f6 _ _ e7,b1.2,b1.1,by lia,by lia,GB h8,λz=>?_,s8 _ _ (b3 _ _ (v _ _ l5)),ax.mono e5 λ_ _ p=>((p.same v).same b3).same s8,e0.same s8,s8 _ _ (b4 _ _ em),(hR.same b4).same s8,?_,by lia,hok,λl fs f8 f4 k1 k2 k3 h5 h4 h3 ⟨g0,m0,h0,g9,g8,g7,g6,g5⟩ g4 k4 k5=>?_⟩
 .obtain⟨d0,c9,e2⟩:=rm z;exact⟨d0,c9,s8 _ _ e2⟩
 .have h1:=hR.1;have h2:rx.length=a1.length:=b0.1;lia
 have s9:ar H7 l:=λb u e=>k1 b u (bf e hx) (s8 _ _ e)
 have sT:ar H H7:=d2.trans s7;have fr:∀a,upd (upd H7 dx (.own x)) x (.ins Y.k dx []) a=Kc->H a=none:=λa ha=>sT.free (s8.free ha)
 refine⟨U,q x g _ ou _ dv l (sT.trans s9) ⟨f8,dx,g0,m0,fs,f4,k2,k3,h3,h5,h4,h0,g9,g8,g7,k4,ax.mono k5 λr w h=>h.wk λa ha=>fr a ha,fr _ g6,fr _ g5,fr _ g4,?_⟩ ?_ (e0.same s9) ?_ (Fl.same s9) ?_ b1.2 b1.1 i1 C ?_ a6⟩
 .have h1:=k5.1;have h2:rx.length=a1.length:=b0.1;lia
 .rw[←a5];exact ax.mono e5 λ_ _ p=>((p.same v).same b3).same s9
 .exact ax.mono Fg λ_ _ p=>((p.same v).same b3).same s9
 .intro z;obtain⟨d0,c9,e2⟩:=rm z;exact⟨d0,c9,s9 _ _ e2⟩
 .rw[←a5];exact hok
theorem Fn{k n:Nat}(F:Fun K "layered" "layered" Y69 f fd) (bl:Bl K mg Y)(iq:Callee P w K mg base k "closed" ["triples"] (fV K Y)) (kF:Callee P w K mg base k "layered" ["columns","ahead","leaf"] (fe K Y P w mg base n)) (hk:8<=k):aK P w K mg base CX0 (k+1) f fd ["columns","ahead","leaf"] (fe K Y P w mg base (n+1)):=by
 refine F.okA Z69 λc0 A b5 s H vs Q E hr h=>?_
 obtain⟨c,b,f_,xs,a,M,m,L,iL,A,g,J,rfl,hn,hc,hC,hb,a1,b3,b0,hm,Z,hJ,q⟩:=h
 refine⟨_,(aj (aM (dg (du (pv 0) (by intro _;rfl)))
  (ai (aw (pJ (k:=8) (i:=2) (hr.mono hk) U (Or.inr (Or.inl U)) (aa (pv 1) ae))))
  aC)
  (ai (aw (aL iq hr U (aa (dU (aW (aF aG (pv 0) ag (λ_ _=>U))) (dW (N:=["low","high","columns","ahead","leaf"]) (k:=2) (fr:=[0,1,2]) (cl:=[("leaf",s.heap.objs.size+1+1+1),("columns",s.heap.objs.size+1),("ahead",s.heap.objs.size+1+1)]) U U (by decide+kernel) (by decide+kernel) U U (ij.mpr ⟨U,ij.mpr ⟨U,ij.mpr ⟨U,js _⟩⟩⟩) U) U (λ_ _ _ _=>(kQ (K:=K) (n:=2) U U (aJ (aD (i:=0) (show(["low","high","columns","ahead","leaf"]:List Str).Nodup by decide+kernel) U (Or.inl U) (Or.inr U)) (aJ (aD (i:=1) (show(["low","high","columns","ahead","leaf"]:List Str).Nodup by decide+kernel) U (Or.inl U) (Or.inr U)) bP)))) (λ_ _ _ _=>bz) (λ_ _ _ _=>(aY (aa (pv 0) (aa (pv 1) (aa (aL kF hr U (aa (cq (wL (K:=K) U) (pv 2) (cZ ag) cY) (aa (au dz (pv 3) (aR (aa (pv 0) ae))) (aa (pv 4) ae)))) ae)))))) ae))))),?_⟩
 cases a with
 |nil =>
  have hx:xs=[]:=List.eq_nil_of_length_eq_zero hC.1;subst hx;obtain⟨sp,hF,a9⟩:=Z.fn;refine⟨_,U,_,.inl ⟨_,SqL.of hc,U⟩,fO ?_⟩;exact⟨f_,sp,U,Z.ob H hJ,hF,_,U,Z.ob H hJ,a9 H b M _ hJ (by rw[hm];rfl) hb λv u h' hv=>q v u h' hv⟩
 |cons y a =>
  obtain⟨r,ex,ts,er,hp⟩:=hC.2 0 y U;obtain⟨l,rfl⟩:∃l,xs=.ref r :: l:=by
   cases xs with
   |nil=>cases ex
   |cons x l=>cases ex;exact⟨l,U⟩
  have b4:CoL H l a:=⟨by simpa using hC.1,λj c e=>by simpa using hC.2 (j+1) c (by simpa using e)⟩;have b6:y.length<=64:=a1 y ff;have a5:ts.length=y.length:=hp.length;have Gs:a.length<=5:=by rw[iK]at b0;lia
  refine⟨_,U,_,.inl ⟨_,SqL.of hc,U⟩,ck ?_⟩
  refine⟨_,U,c,_,_,_,U,U,SqL.of hc,aS (j:=0) U,r,U,⟨_,SqL.of er⟩,dJ (xs:=ts) (λD i G u=>ar H u/\u D=Kb (.lst G)/\FmL (FmV A u a.length) u ((y.take i).map λp=>(p.1,p.2,lay g a (M++[p.1]))) G/\G.length<=i)
   (λD hD=>⟨af hD _,ab,FmL.nil,yY _⟩) (λD i G u hD _ h=>SqL.of (h.1 _ _ er)) (λD i x G u hD e h ss a8=>?_) (λD G u hD h=>?_)⟩
  .obtain⟨I,eD,S,a4⟩:=h;obtain⟨p,t,ep,rfl,ht⟩:=hp.get e;have hi:i<ts.length:=(Gz.mp e).1;obtain⟨t0,B,rfl⟩:∃t0 B,ss=[t0,B]:=by
    match ss,a8 with
    | [t0,B],_=>exact⟨t0,B,U⟩
   refine⟨t,_,U,SqT.of (I _ _ ht),U,_,_,U,_,_,U,U,⟨[Kb (.int p.1),Kb (.int p.2)],U,U⟩,?_⟩;refine⟨_,U,_,U,_,U,_,U,c,_,U,SqL.of (I _ _ hc),λc2 b1=>?_⟩;rw[xh];have s2:ar u (upd u c2 (.lst l)):=af b1 _;have a2:upd u c2 (.lst l) c2=Kb (.lst l):=ab;generalize upd u c2 (.lst l)=T at s2 a2⊢;refine⟨_,U,_,U,(by show 1<=GH;decide),λB a7=>?_⟩;have X:ar T (upd T B (.lst [.int p.1])):=af a7 _;have e1:upd T B (.lst [.int p.1]) B=Kb (.lst [.int p.1]):=ab;generalize upd T B (.lst [.int p.1])=H3 at X e1⊢;refine⟨b,B,_,_,U,U,X _ _ (s2 _ _ (I _ _ hb)),e1,zf (az (by rw[bx];show M.length+1<=1000;lia)),λR a0=>?_⟩;have s4:ar H3 (upd H3 R (.lst (M.map V.int++[.int p.1]))):=af a0 _;have e2:upd H3 R (.lst (M.map V.int++[.int p.1])) R=Kb (.lst ((M++[p.1]).map V.int)):=by rw[iv];exact ab
   generalize upd H3 R (.lst (M.map V.int++[.int p.1]))=H4 at s4 e2⊢;have O:ar u H4:=(s2.trans X).trans s4;have f2:u R=none:=(s2.trans X).free a0;refine⟨_,U,c2,R,f_,l,a,M++[p.1],m,L,iL,A,g,J,U,by rw[iK]at hn;lia,s4 _ _ (X _ _ a2),b4.same (I.trans O),e2,λz S=>a1 z (iO _ S),by rw[cK,hQ];rw[iK]at b3;lia,by lia,by rw[cK,hQ];rw[iK]at hm;lia,Z,Z.st _ _ hJ (I.trans O),λv H5 h5 hv=>?_⟩;have s5:ar u H5:=λd o ed=>h5 d o (λz=>by rw[z,f2]at ed;cases ed) (O _ _ ed)
   refine⟨(by show 3<=GH;decide),λW a6=>?_⟩;have s6:ar H5 (upd H5 W (.tup [.int p.1,.int p.2,v])):=af a6 _;have e3:upd H5 W (.tup [.int p.1,.int p.2,v]) W=Kb (.tup [.int p.1,.int p.2,v]):=ab;generalize upd H5 W (.tup [.int p.1,.int p.2,v])=H6 at s6 e3⊢;have C:=s5.trans s6;have a3:=C _ _ eD;refine cB.mk hi a3 (az (by lia)) ⟨(I.trans C).upd hD,ab,?_,by rw[cK,hQ];lia⟩;have st:bM H6 (upd H6 D (.lst (G++[.ref W]))):=aP a3;rw[take_snoc ep,iv];exact(S.mono (λ_ _ z=>FmV.mono (C.tups.trans st) z) (C.tups.trans st)).snoc (st _ _ e3) (FmV.mono (s6.tups.trans st) hv)
  .obtain⟨I,eD,S,a4⟩:=h;rw[a5,ip]at S;refine⟨L,iL,A,a.length,D,G,_,U,by lia,eD,S,by rw[bx];lia,λr2 T s2 hf=>?_⟩;exact q _ T (λd o _ ed=>(I.trans s2) _ _ ed) hf
theorem Fo{k n:Nat}(F:Fun K "mapped" "mapped" Y70 f fd) (bl:Bl K mg Y)(iq:Callee P w K mg base k "closed" ["triples"] (fV K Y)) (m4:Callee P w K mg base k "mapped" ["form","deep","change"] (fX K Y P w mg base n)) (hk:8<=k):aK P w K mg base CX0 (k+1) f fd ["form","deep","change"] (fX K Y P w mg base (n+1)):=by
 refine F.okA Z70 λb1 A a8 s H vs Q E Z h=>?_
 obtain⟨L,M,iL,iM,A,B,h_,J,d,F_,v,f_,rfl,hn,b0,R,a6,m,S,q⟩:=h
 refine⟨_,(aj (aM (aE br (pv 1) ag (aH _))
  (ai (aw (pJ (k:=8) (i:=2) (Z.mono hk) U (Or.inr (Or.inl U)) (aa (pv 0) ae))))
  aC)
  (ai (aw (aL iq Z U (aa (dU (vW (pv 0)) (dW (N:=["low","high","beneath","deep","change"]) (k:=3) (fr:=[1,2]) (cl:=[("deep",s.heap.objs.size+1),("change",s.heap.objs.size+1+1)]) U U (by decide+kernel) (by decide+kernel) U U (ij.mpr ⟨U,ij.mpr ⟨U,js _⟩⟩) U) U (λ_ _ _ _=>(kQ (K:=K) (n:=3) U U (aJ (aD (i:=0) (show(["low","high","beneath","deep","change"]:List Str).Nodup by decide+kernel) U (Or.inl U) (Or.inr U)) (aJ (aD (i:=1) (show(["low","high","beneath","deep","change"]:List Str).Nodup by decide+kernel) U (Or.inl U) (Or.inr U)) (aJ (aD (i:=2) (show(["low","high","beneath","deep","change"]:List Str).Nodup by decide+kernel) U (Or.inl U) (Or.inr U)) bP))))) (λ_ _ _ _=>bz) (λ_ _ _ _=>(aY (aa (pv 0) (aa (pv 1) (aa (aL m4 Z U (aa (pv 2) (aa (au cx (pv 3) ag) (aa (pv 4) ae)))) ae)))))) ae))))),?_⟩
 cases d with
 |zero =>
  obtain⟨sp,hF,a5⟩:=m.fn;refine⟨_,U,U,_,U,fu U ?_⟩;exact⟨f_,sp,U,m.ob H S,hF,_,U,m.ob H S,a5 H v F_ _ S R λu b s' X=>q u b s' X⟩
 |succ d =>
  obtain⟨G,rfl⟩:∃G:List (T3a (Fm L d)),(G:Fm L (d+1))=F_:=⟨F_,U⟩;obtain⟨a9,yV⟩:SmS 300 (SmF 300 d) G:=a6;obtain⟨a,xs,rfl,ha,hG⟩:∃(a:GD)(xs:List V),v=.ref a/\H a=Kb (.tup xs)/\FmL (FmV A H d) H G xs:=R;have a1:=hG.1;refine⟨_,U,U,_,U,cm (λz=>by have:=V.int.inj z;lia) ?_⟩
  refine⟨_,U,a,U,⟨_,SqT.of ha⟩,vd (xs:=xs) (λD i g b=>ar H b/\b D=Kb (.lst g)/\FmL (FmV B b d) b ((G.take i).map λt=>(t.1,t.2.1,nU h_ d t.2.2)) g/\g.length<=i)
   (λD o=>⟨af o _,ab,FmL.nil,yY _⟩) (λD i g b o _ h=>SqT.of (h.1 _ _ ha)) (λD i x g b o e h ss a4=>?_) (λD g b o h=>?_)⟩
  .obtain⟨j,eD,O,a0⟩:=h;have hi:i<xs.length:=(Gz.mp e).1;obtain⟨t,et⟩:∃t,G[i]?=Kb t:=⟨_,Gy (by lia)⟩;obtain⟨r,u,ex,er,X⟩:=hG.2 i t et;rw[e]at ex;cases ex;obtain⟨I,C,y,rfl⟩:∃I C y,ss=[I,C,y]:=by
    match ss,a4 with
    | [I,C,y],_=>exact⟨I,C,y,U⟩
   have a7:=j _ _ er;have a2:=FmV.mono j.tups X;refine⟨r,_,U,SqT.of a7,U,_,_,U,_,_,U,_,_,U,U,⟨[Kb (.int t.1),Kb (.int t.2.1),Kb u],U,U⟩,?_⟩;refine⟨_,U,_,U,_,U,_,U,_,_,U,U,_,U,L,M,iL,iM,A,B,h_,J,d,t.2.2,u,f_,by simp,by lia,by lia,a2,yV t (GB et),m,m.st _ _ S j,λv T s5 R=>?_⟩;refine⟨(by show 3<=GH;decide),λl a3=>?_⟩;have W:ar T (upd T l (.tup [.int t.1,.int t.2.1,v])):=af a3 _;have e3:upd T l (.tup [.int t.1,.int t.2.1,v]) l=Kb (.tup [.int t.1,.int t.2.1,v]):=ab;generalize upd T l (.tup [.int t.1,.int t.2.1,v])=H6 at W e3⊢;have c:=s5.trans W;have p:=c _ _ eD;refine cB.mk hi p (az (by lia)) ⟨(j.trans c).upd o,ab,?_,by rw[cK,hQ];lia⟩;have st:bM H6 (upd H6 D (.lst (g++[.ref l]))):=aP p;rw[take_snoc et,iv];exact(O.mono (λ_ _ z=>FmV.mono (c.tups.trans st) z) (c.tups.trans st)).snoc (st _ _ e3) (FmV.mono (W.tups.trans st) R)
  .obtain⟨j,eD,O,a0⟩:=h;rw[a1,ip]at O;refine⟨M,iM,B,d,D,g,_,U,by lia,eD,O,by rw[bx];lia,λr2 H2 s2 hf=>?_⟩;exact q _ H2 (j.trans s2) hf
theorem Fp{k n:Nat}(F:Fun K "paired" "paired" Y73 f fd) (bl:Bl K mg Y)(iq:Callee P w K mg base k "closed" ["triples"] (fV K Y)) (m5:Callee P w K mg base k "paired" ["one","other","deep","pair"] (fY K Y P w mg base n)) (hk:8<=k):aK P w K mg base CX0 (k+1) f fd ["one","other","deep","pair"] (fY K Y P w mg base (n+1)):=by
 refine F.okA Z73 λf3 A e0 s H vs Q E hr h=>?_
 obtain⟨L,M,N,iL,iM,iN,A,B,C,h_,J,d,F_,G_,v,u,X,ps,rfl,hn,e9,hv,hu,c9,Co,c7,yV,hL,hJ,q⟩:=h
 refine⟨_,(aj (aM (aE br (pv 2) ag (aH _))
  (ai (aw (xb (k:=8) (i:=3) (hr.mono hk) U (Or.inl U) (aa (pv 0) (aa (pv 1) ae)))))
  aC)
  (aj (aI (i:=4) Z73.nd U (Or.inl U) (aR ae))
  (aj (aI (i:=5) Z73.nd U (Or.inl U) (aF bc (aF bc (pv 0) ag (λ_ _=>U)) ag (λ_ _=>U)))
  (aj (aI (i:=6) Z73.nd U (Or.inl U) ag)
  (aj (aI (i:=7) Z73.nd U (Or.inl U) ag)
  (aj (vU Hn.never (aE iV (pv 6) (av ao U bl.len_ Ka (aa (pv 0) ae)) (aH _))
  (aN (aI (i:=8) Z73.nd U (Or.inl U) (av (kl U) U bl.min_ PyProof.Rows.boot_min (aa (aF bc (aF bc (pv 0) (pv 6) (λ_ _=>U)) ag (λ_ _=>U)) (aa (aF bc (aF bc (pv 1) (pv 7) (λ_ _=>U)) ag (λ_ _=>U)) ae))))
  (aN (aV (eR PySem.F.plainAttrs_list PySem.F.slot_list_append PySem.F.type_list_append bh (pv 4) (aa (aY (aa (pv 5) (aa (pv 8) (aa (aL m5 hr U (aa (aF bc (aF bc (pv 0) (pv 6) (λ_ _=>U)) ag (λ_ _=>U)) (aa (aF bc (aF bc (pv 1) (pv 7) (λ_ _=>U)) ag (λ_ _=>U)) (aa (au cx (pv 2) ag) (aa (pv 3) ae))))) ae)))) ae)))
  (aN (aM (aE br (aF bc (aF bc (pv 0) (pv 6) (λ_ _=>U)) ag (λ_ _=>U)) (pv 8) (aH _))
  (ai (rJ (i:=6) Z73.nd U (Or.inl U) ag vT))
  aC)
  (aN (aM (aE br (aF bc (aF bc (pv 1) (pv 7) (λ_ _=>U)) ag (λ_ _=>U)) (pv 8) (aH _))
  (ai (rJ (i:=7) Z73.nd U (Or.inl U) ag vT))
  aC)
  (ai (aI (i:=5) Z73.nd U (Or.inl U) (au bK (pv 8) ag))))))))
  (ai (aw (aL iq hr U (aa (pv 4) ae)))))))))),?_⟩
 cases d with
 |zero =>
  obtain⟨sp,hF,a8⟩:=hL.fn;refine⟨_,U,U,_,U,fu U ?_⟩;rcases hL.ob with ob|kk
  .exact .h ⟨X,sp,U,ob H hJ,hF,_,U,_,U,ob H hJ,a8 H v u F_ G_ _ hJ hv hu λr T s' hr=>q r T s' hr⟩
  .exact .k X sp U kk hF ⟨_,U,_,U,a8 H v u F_ G_ _ hJ hv hu λr T s' hr=>q r T s' hr⟩
 |succ d =>
  obtain⟨f,rfl⟩:∃f:List (T3a (Fm L d)),(f:Fm L (d+1))=F_:=⟨F_,U⟩;obtain⟨g,rfl⟩:∃g:List (T3a (Fm M d)),(g:Fm M (d+1))=G_:=⟨G_,U⟩;obtain⟨e5,Fq⟩:SmS 300 (SmF 300 d) f:=c7;obtain⟨Gb,Fs⟩:SmS 300 (SmF 300 d) g:=yV;obtain⟨p,r,rfl,a9,a3,e8,eS⟩:ShS (cw d) f ps:=c9;obtain⟨p',r',e,yG,pT,yH,mI⟩:ShS (cw d) g (p :: r):=Co;cases e;obtain⟨a,xs,rfl,ha,hf⟩:∃(a:GD)(xs:List V),v=.ref a/\H a=Kb (.tup xs)/\FmL (FmV A H d) H f xs:=hv;obtain⟨b,ys,rfl,hb,hg⟩:∃(a:GD)(xs:List V),u=.ref a/\H a=Kb (.tup xs)/\FmL (FmV B H d) H g xs:=hu;have e7:=hf.1;have e6:=hg.1;obtain⟨z,ez,hz,d5⟩:=mH (h:=h_) a3 a9 pT;refine⟨_,U,U,_,U,cm (λz=>by have:=V.int.inj z;lia) ?_⟩;obtain⟨t0,f',rfl⟩:∃t0 f',f=t0 :: f':=by
   cases f with
   |nil=>exact Kk U a9
   |cons t0 f'=>exact⟨t0,f',U⟩
  obtain⟨r0,u0,d2,d4,_⟩:=hf.2 0 t0 U;have d3:t0.1=p.1:=a3.1;generalize ef:t0 :: f'=f at *
  refine⟨(by show 0<=GH;decide),λl hl=>?_⟩;have s0:ar H (upd H l (.lst [])):=af hl _;have b3:upd H l (.lst []) l=Kb (.lst []):=ab;generalize upd H l (.lst [])=H0 at s0 b3⊢;refine⟨_,U,a,_,_,_,U,U,SqT.of (s0 _ _ ha),aS (j:=0) d2,r0,_,_,_,U,U,SqT.of (s0 _ _ d4),U,?_⟩;rw[d3]
  refine⟨λm σ T=>∃(i j:Nat)(lo:Int)(G:List (T3a (Fm N d)))(W:List V)(c8:Option V),m=(f.length-i)+(g.length-j)/\i<=f.length/\j<=g.length/\ar H T/\T l=Kb (.lst W)/\FmL (FmV C T d) T G W/\z=G++kx (pairF h_ d) lo (f.drop i) (g.drop j)/\Cov (f.drop i) lo p.2/\Cov (g.drop j) lo p.2/\G.length<=i+j/\σ=[Kb (.ref a),Kb (.ref b),Kb (.int ((d+1:Nat):Int)),Kb (.ref X),Kb (.ref l),Kb (.int lo),Kb (.int (i:Int)),Kb (.int (j:Int)),c8],
   ⟨f.length+g.length,0,0,p.1,[],[],Kc,U,yY _,yY _,s0,b3,FmL.nil,ez,a3.cov,pT.cov,yY _,U⟩,?_⟩
  rintro m σ T ⟨i,j,lo,G,W,c8,rfl,hi,hj,O,el,a0,gQ,cf,cg,f0,rfl⟩;refine⟨_,U,_,U,a,_,U,.inr (SqT.of (O _ _ ha)),_,_,U,U,_,U,?_⟩;refine bq (λgd=>?_) (λgd=>?_)
  .have a1:i<f.length:=by have:(i:Int)<((xs.length:Nat):Int):=iY gd;lia
   have d1:j<g.length:=by
    by_cases d0:j<g.length
    .exact d0
    .exfalso;rw[List.drop_eq_nil_of_le (by lia)]at cg;have cg:lo=p.2+1:=cg;obtain⟨c,es⟩:∃c,f[i]?=Kb c:=⟨_,Gy a1⟩;rw[gw es]at cf;have c1:=cf.1;have c2:=cf.2.le;lia
   obtain⟨c,es⟩:∃c,f[i]?=Kb c:=⟨_,Gy a1⟩;obtain⟨o,et⟩:∃o,g[j]?=Kb o:=⟨_,Gy d1⟩;obtain⟨r1,u1,a5,a7,c5⟩:=hf.2 i c es;obtain⟨r2,u2,a4,a6,c4⟩:=hg.2 j o et;have ms:=GB es;have mt:=GB et;rw[gw es]at cf gQ;rw[gw et]at cg gQ;obtain⟨f2,b5⟩:=cf;obtain⟨f1,b4⟩:=cg;obtain⟨x,I⟩:∃x:Int,x=if o.2.1<c.2.1 then o.2.1 else c.2.1:=⟨_,U⟩
   refine⟨λD y=>∃m',m'<(f.length-i)+(g.length-j)/\∃(i j:Nat)(lo:Int)(G:List (T3a (Fm N d)))(W:List V)(c8:Option V),m'=(f.length-i)+(g.length-j)/\i<=f.length/\j<=g.length/\ar H y/\y l=Kb (.lst W)/\FmL (FmV C y d) y G W/\z=G++kx (pairF h_ d) lo (f.drop i) (g.drop j)/\Cov (f.drop i) lo p.2/\Cov (g.drop j) lo p.2/\G.length<=i+j/\D=[Kb (.ref a),Kb (.ref b),Kb (.int ((d+1:Nat):Int)),Kb (.ref X),Kb (.ref l),Kb (.int lo),Kb (.int (i:Int)),Kb (.int (j:Int)),c8],λD y hh=>hh,?_⟩;refine⟨λD y=>y=T/\D=[Kb (.ref a),Kb (.ref b),Kb (.int ((d+1:Nat):Int)),Kb (.ref X),Kb (.ref l),Kb (.int lo),Kb (.int (i:Int)),Kb (.int (j:Int)),Kb (.int x)],?_,?_⟩
   .refine⟨_,U,_,U,a,_,_,_,U,U,SqT.of (O _ _ ha),aS a5,r1,_,_,_,U,U,SqT.of (O _ _ a7),U,_,U,_,U,b,_,_,_,U,U,SqT.of (O _ _ hb),aS a4,r2,_,_,_,U,U,SqT.of (O _ _ a6),U,_,_,U,U,?_⟩;rw[I];rfl
   rintro c0 H3 ⟨S,rfl⟩;rw[S];clear S;refine⟨λD y=>ar H y/\∃a2:List V,y l=Kb (.lst a2)/\FmL (FmV C y d) y (G++[(lo,x,pairF h_ d c.2.2 o.2.2)]) a2/\D=[Kb (.ref a),Kb (.ref b),Kb (.int ((d+1:Nat):Int)),Kb (.ref X),Kb (.ref l),Kb (.int lo),Kb (.int (i:Int)),Kb (.int (j:Int)),Kb (.int x)],?_,?_⟩
   .refine⟨_,U,.inl ⟨U,_,SqL.of el⟩,_,U,_,U,_,U,_,U,a,_,_,_,U,U,SqT.of (O _ _ ha),aS a5,r1,_,_,_,U,U,SqT.of (O _ _ a7),U,_,U,_,U,b,_,_,_,U,U,SqT.of (O _ _ hb),aS a4,r2,_,_,_,U,U,SqT.of (O _ _ a6),U,_,U,_,_,U,U,_,U,L,M,N,iL,iM,iN,A,B,C,h_,J,d,c.2.2,o.2.2,u1,u2,X,r,by simp,by lia,by lia,FmV.mono O.tups c5,FmV.mono O.tups c4,eS c ms,mI o mt,Fq c ms,Fs o mt,hL,hL.st _ _ hJ O,λv H5 s5 hv=>?_⟩;refine⟨(by show 3<=GH;decide),λt3 c6=>?_⟩;have s6:ar H5 (upd H5 t3 (.tup [.int lo,.int x,v])):=af c6 _;have S:upd H5 t3 (.tup [.int lo,.int x,v]) t3=Kb (.tup [.int lo,.int x,v]):=ab;generalize upd H5 t3 (.tup [.int lo,.int x,v])=H6 at s6 S⊢;have Z:=s5.trans s6;have b1:=Z _ _ el;refine⟨l,W,_,U,U,b1,az (by have:=a0.1;lia),?_⟩;have st:bM H6 (upd H6 l (.lst (W++[.ref t3]))):=aP b1;exact⟨(O.trans Z).upd hl,_,ab,(a0.mono (λ_ _ z=>FmV.mono (Z.tups.trans st) z) (Z.tups.trans st)).snoc (t:=(lo,x,pairF h_ d c.2.2 o.2.2)) (st _ _ S) (FmV.mono (s6.tups.trans st) hv),U⟩
   rintro c0 H3 ⟨s3,a2,d7,c3,rfl⟩;refine⟨λD y=>y=H3/\D=[Kb (.ref a),Kb (.ref b),Kb (.int ((d+1:Nat):Int)),Kb (.ref X),Kb (.ref l),Kb (.int lo),Kb (.int ((if c.2.1<=o.2.1 then i+1 else i:Nat):Int)),Kb (.int (j:Int)),Kb (.int x)],?_,?_⟩
   .refine⟨_,U,_,U,a,_,_,_,U,U,SqT.of (s3 _ _ ha),aS a5,r1,_,_,_,U,U,SqT.of (s3 _ _ a7),U,_,U,U,_,U,?_⟩;refine bq (λR=>?_) (λR=>?_)
    .have R:c.2.1=x:=V.int.inj (iY R);have e:c.2.1<=o.2.1:=by split at I <;> lia
     rw[Kj e];exact⟨_,U,_,_,U,U,U,U⟩
    .have R:¬ c.2.1=x:=λz=>kP R (by rw[z])
     have e:¬ c.2.1<=o.2.1:=by split at I <;> lia
     rw[Ki e];exact⟨U,U⟩
   rintro b6 H4 ⟨e4,rfl⟩;rw[e4];clear e4;refine⟨λD y=>y=H3/\D=[Kb (.ref a),Kb (.ref b),Kb (.int ((d+1:Nat):Int)),Kb (.ref X),Kb (.ref l),Kb (.int lo),Kb (.int ((if c.2.1<=o.2.1 then i+1 else i:Nat):Int)),Kb (.int ((if o.2.1<=c.2.1 then j+1 else j:Nat):Int)),Kb (.int x)],?_,?_⟩
   .refine⟨_,U,_,U,b,_,_,_,U,U,SqT.of (s3 _ _ hb),aS a4,r2,_,_,_,U,U,SqT.of (s3 _ _ a6),U,_,U,U,_,U,?_⟩;refine bq (λR=>?_) (λR=>?_)
    .have R:o.2.1=x:=V.int.inj (iY R);have e:o.2.1<=c.2.1:=by split at I <;> lia
     rw[Kj e];exact⟨_,U,_,_,U,U,U,U⟩
    .have R:¬ o.2.1=x:=λz=>kP R (by rw[z])
     have e:¬ o.2.1<=c.2.1:=by split at I <;> lia
     rw[Ki e];exact⟨U,U⟩
   rintro b6 H4 ⟨e4,rfl⟩;rw[e4];clear e4;refine⟨_,U,_,_,U,U,_,?_,_,_,_,_,_,_,U,?_,?_,s3,d7,c3,?_,?_,?_,?_,U⟩
   .split <;> split <;> lia
   .split <;> lia
   .split <;> lia
   .rw[gQ,kx,mv];show _=G++(lo,x,pairF h_ d c.2.2 o.2.2) :: _;rw[I];by_cases q1:c.2.1<o.2.1
    .have e1:(if o.2.1<c.2.1 then o.2.1 else c.2.1)=c.2.1:=Ki (by lia);have e2:(if c.2.1<=o.2.1 then i+1 else i)=i+1:=Kj (by lia);have S:(if o.2.1<=c.2.1 then j+1 else j)=j:=Ki (by lia);rw[Kj q1,e1,e2,S,gw et];rfl
    .rw[Ki q1];by_cases q2:o.2.1<c.2.1
     .have e2:(if c.2.1<=o.2.1 then i+1 else i)=i:=Ki (by lia);have S:(if o.2.1<=c.2.1 then j+1 else j)=j+1:=Kj (by lia);rw[Kj q2,Kj q2,e2,S,gw es];rfl
     .have e2:(if c.2.1<=o.2.1 then i+1 else i)=i+1:=Kj (by lia);have S:(if o.2.1<=c.2.1 then j+1 else j)=j+1:=Kj (by lia);rw[Ki q2,Ki q2,e2,S];rfl
   .rw[I];by_cases q1:c.2.1<=o.2.1
    .rw[Kj q1,Ki (by lia)];exact b5.cov
    .rw[Ki q1,Kj (by lia),gw es];exact⟨by lia,b5⟩
   .rw[I];by_cases q1:o.2.1<=c.2.1
    .rw[Kj q1];have e:(if o.2.1<c.2.1 then o.2.1 else c.2.1)=o.2.1:=by split <;> lia
     rw[e];exact b4.cov
    .rw[Ki q1,Ki (by lia),gw et];exact⟨by lia,b4⟩
   .rw[cK,hQ];split <;> split <;> lia
  .have a1:i=f.length:=by have:¬ (i:Int)<((xs.length:Nat):Int):=kP gd;lia
   rw[a1,List.drop_length,kx,jv]at gQ;rw[←gQ]at a0;refine⟨_,U,N,iN,C,d,l,W,z,U,by lia,el,a0,by have:=hz.len;lia,λr2 H2 s2 b0=>?_⟩;refine q _ H2 (O.trans s2) ?_;rw[←d5]at b0;exact b0
theorem Ft(F:Fun K "built" "built" Y35 f fd) (bl:Bl K mg Y)(kF:Callee P w K mg base 15 "layered" ["columns","ahead","leaf"] (fe K Y P w mg base 7)) (y7:Callee P w K mg base 15 "grain" ["bounds","marks"] (mU K Y)) (fN:Callee P w K mg base 15 "cut_columns" ["bounds","marks"] (dE K Y)):aK P w K mg base CX0 16 f fd ["bounds","marks","leaf"] (mV K Y P w mg base):=by
 refine F.okA Z35 λa1 A T s H vs Q E M h=>?_
 obtain⟨a,b,f_,V,c,as,k,L,iL,A,g,J,rfl,Z,N,X,hM,hok,hg,hL,hJ,q⟩:=h
 refine⟨_,(aj (aM (aE kM (aL y7 M U (aa (pv 0) (aa (pv 1) ae))) (kS U bl.MOST_GRAIN_) (aH _))
  (ai bE)
  aC)
  (ai (aw (aL kF M U (aa (aL fN M U (aa (pv 0) (aa (pv 1) ae))) (aa (aR ae) (aa (pv 2) ae))))))),?_⟩
 have a0:=N.length;obtain⟨y,x,u⟩:=hok;refine⟨_,U,_,U,a,b,V,c,as,k,U,Z,N,X,hM,⟨y,x,u⟩,λH1 m=>?_⟩;refine⟨_,_,U,U,_,U,?_⟩;refine bq (λg=>Kk (iY g) (by lia)) (λ_=>?_);refine⟨_,U,_,U,a,b,V,c,as,k,U,m _ _ Z,N.mono m.tups,m _ _ X,hM.same m,⟨y,x,u⟩,λl xs G e s2 el R C hx=>?_⟩;refine⟨(by show 0<=GH;decide),λt W=>?_⟩;have D:ar G (upd G t (.lst [])):=af W _;have et:upd G t (.lst []) t=Kb (.lst []):=ab;generalize upd G t (.lst [])=H3 at D et⊢;have r:=(m.trans s2).trans D;have B:(List.zipWith (λp i=>bX p.1 p.2 i) c e).length=c.length:=by rw[lg];lia
 refine⟨_,U,l,t,f_,xs,_,[],c.length,L,iL,A,g,J,U,by lia,D _ _ el,hx.same D,et,λS Fu=>?_,by rw[B];show 0+c.length<=6;lia,by lia,by rw[B];show c.length=0+c.length;lia,hL,hL.st _ _ hJ r,λv H4 h4 hv=>?_⟩
 .obtain⟨j,n⟩:=jC Fu;have hj:j<(List.zipWith (λp i=>bX p.1 p.2 i) c e).length:=(Gz.mp n).1;obtain⟨p,ep⟩:∃p,c[j]?=Kb p:=⟨_,Gy (by lia)⟩;obtain⟨i,ec⟩:∃i,e[j]?=Kb i:=⟨_,Gy (by lia)⟩;obtain⟨I,em⟩:∃I,k[j]?=Kb I:=⟨_,Gy (by lia)⟩;rw[md,ep,ec]at n;have n:bX p.1 p.2 i=S:=Option.some.inj n;rw[←n,fU];have:=(C j p I i ep em ec).2.2;lia
 .exact q v H4 e (λd o O=>h4 d o (λz=>by have f:=(m.trans s2).free W;rw[z,f]at O;cases O) (r _ _ O)) R C hv
theorem Fv(F:Fun K "changed_boxes" "changed_boxes" Y36 f fd) (bl:Bl K mg Y)(m5:Callee P w K mg base 15 "paired" ["one","other","deep","pair"] (fY K Y P w mg base 7)) (kG:Callee P w K mg base 8 "differing_pair" ["old","new"] (dD K Y)) (kb:Callee P w K mg base 15 "boxes_with_leaf" ["form","deep"] (dk K Y)):aK P w K mg base CX0 16 f fd ["old","new","deep"] (dQ K Y):=by
 refine F.okA Z36 λc1 A b5 s H vs Q E hr h=>?_
 obtain⟨v,u,d,M,L,ps,rfl,hd,hv,hu,W,V,b0,a9,yZ,c0,q⟩:=h
 refine⟨_,(aj (aI (i:=3) Z36.nd U (Or.inl U) (aL m5 hr U (aa (pv 0) (aa (pv 1) (aa (pv 2) (aa (AI kG U) ae))))))
  (ai (aw (dU (aW (aL kb hr U (aa (pv 3) (aa (pv 2) ae)))) (eK (N:=["box","told"]) (k:=2) U U (by decide+kernel) (by decide+kernel) (by decide+kernel)) U (λ_ _ _ _=>(kQ (K:=K) (n:=2) U U (aJ (aD (i:=0) (show(["box","told"]:List Str).Nodup by decide+kernel) U (Or.inl U) (Or.inr U)) (aJ (aD (i:=1) (show(["box","told"]:List Str).Nodup by decide+kernel) U (Or.inl U) (Or.inr U)) bP)))) (λ_ _ _ _=>bz) (λ_ _ _ _=>(aY (aa (pv 0) (aa (aF (fk (K:=K) U) (pv 1) ag (λ_ _=>U)) (aa (aF (fk (K:=K) U) (pv 1) ag (λ_ _=>U)) ae))))))))),?_⟩
 refine⟨_,U,_,U,_,U,λf_ b3 b1=>?_⟩;have hP:Ce (K':=K) LVd LVd LPd P w K mg base f_ dpr (λ_=>True):=⟨⟨_,b3,λH0 v0 u0 x0 y0 Q0 _ a3 a4 k0=>by
  obtain⟨l,rfl,h1⟩:=a3;obtain⟨g,rfl,h2⟩:=a4;exact⟨l,g,x0,y0,U,h1,h2,λv1 H1 s1 e1=>k0 v1 H1 s1 e1⟩⟩,.inr b1,λ_ _ _ _=>trivial⟩
 refine⟨SI,SI,Option (SI×SI),inferInstance,inferInstance,inferInstance,LVd,LVd,LPd,dpr,_,d,M,L,v,u,f_,ps,U,by lia,by lia,hv,hu,W,V,b0,a9,hP,trivial,λr H1 s1 b4=>?_⟩;have a8:=lF (h:=dpr) W V;refine⟨_,U,_,U,d,_,r,U,b4,by lia,yZ,(λq_ hq=>by rw[(xx a8 q_ hq).1.len];lia),λl2 ys H2 s2 b6 a1 hB=>?_⟩;have T:ys.length=(eJ (bxs d (pairF dpr d M L))).length:=Paired.length hB;have a7:(eJ (bxs d (pairF dpr d M L))).length<=300:=yW (lI _ _) yZ;have X:∀q_∈eJ (bxs d (pairF dpr d M L)),q_.2≠none:=λq_ hq=>Kn (jO.mp hq).2
 generalize eJ (bxs d (pairF dpr d M L))=TL at hB T a7 X q;refine⟨l2,U,⟨_,SqL.of a1⟩,dJ (xs:=ys) (λD j c b=>ar H2 b/\b D=Kb (.lst c)/\ChL K b c (TL.take j)) (λD x=>⟨af x _,ab,.nil⟩) (λD j c b x _ J=>SqL.of (J.1 _ _ a1)) (λD j y c b x e J ts a6=>?_) (λD c b x J=>?_)⟩
 .obtain⟨t,eD,I⟩:=J;obtain⟨qx,eq,tx,B,wx,rfl,g1,g2,g3⟩:=eW hB e;have hj:j<ys.length:=(Gz.mp e).1;obtain⟨t0,t1,rfl⟩:∃t0 t1,ts=[t0,t1]:=by
   match ts,a6 with
   | [t0,t1],_=>exact⟨t0,t1,U⟩
  obtain⟨p,ep⟩:∃p,qx.2=Kb p:=by
   cases z:qx.2 with
   |none=>exact Kk z (X qx (GB eq))
   |some p=>exact⟨p,U⟩
  have g3:RPd K H2 qx.2 wx:=g3;rw[ep]at g3;obtain⟨m,rfl,l,g,a0,v1,v2⟩:=g3;have a2:c.length=(TL.take j).length:=Paired.length I;rw[ik]at a2;refine⟨tx,_,U,SqT.of (t _ _ g1),U,_,_,U,_,_,U,U,⟨[Kb (.ref B),Kb (.ref m)],U,U⟩,?_⟩;refine⟨_,U,_,U,m,_,_,_,U,U,SqT.of (t _ _ a0),U,_,U,m,_,_,_,U,U,SqT.of (t _ _ a0),U,(by show 3<=GH;decide),λa a5=>?_⟩;have s3:=af a5 (.tup [.ref B,.ref l,.ref g]);have eT:upd b a (.tup [.ref B,.ref l,.ref g]) a=Kb (.tup [.ref B,.ref l,.ref g]):=ab;have o:=s3 _ _ eD;have S:=I.mono s3.tups;have G:=t.trans s3;have Z:=g2.mono G.tups;have R:=v1.mono G.tups;have O:=v2.mono G.tups;generalize upd b a (.tup [.ref B,.ref l,.ref g])=H3 at s3 eT o S G Z R O⊢;refine cB.mk hj o (az (by lia)) ⟨G.upd x,ab,?_⟩;rw[take_snoc eq];have C:bM H3 (upd H3 D (.lst (c++[.ref a]))):=aP o;exact gx (S.mono C) (.cons ⟨a,B,l,g,p,U,ep,C _ _ eT,Z.mono C,R.mono C,O.mono C⟩ .nil)
 .obtain⟨t,eD,I⟩:=J;rw[T,ip]at I;exact q D c b ((s1.trans s2).trans t) ((s1.trans s2).free x) eD I
theorem kc{c' c_0:GD}{doc pm ctv:Gf}(bl:Bl K mg Y)(n:Callee P w K mg base 7 "mask" ["table","codes"] (j5 K Y)) (inj:∀x y c,([("table",c_0)]:List (Str×GD)).lookup x=Kb c->([("table",c_0)]:List (Str×GD)).lookup y=Kb c->x=y):HFn P w K mg base 8 f (fZ K Y f c' c_0 doc pm ctv):=by
 have Z81:=@Z81 c_0;refine xa (qual := "row_form.<locals>.<lambda>") (e:=Y80) (c':=c') (cl:=[("table",c_0)]) (pm:=pm) (ctv:=ctv) Z81 inj (λr v=>match r,v with | [D],_=>rfl) (λp H Q E h=>?_) (λA g s H p Q E z h=>?_)
 .obtain⟨a,t,m,b,i,o,rfl,d,l,k,j,q⟩:=h;rfl
 obtain⟨a,t,m,b,i,o,rfl,d,l,k,j,q⟩:=h;refine⟨_,d,um U,λC=>⟨_,(aL n z U (aa (pv 1) (aa (pv 0) ae))),?_⟩⟩;have B:=d.2.2.fzs;have so:=So.hide B;exact⟨_,U,_,U,t,a,b,i,o,m,U,Tbl.so so l,SqL.of (so.lst k),j,λF u _=>q _ (mj u)⟩
theorem Fw(F:Fun K "row_form" "row_form" s_row_form f fd) (bl:Bl K mg Y)(y8:Callee P w K mg base 16 "built" ["bounds","marks","leaf"] (mV K Y P w mg base)) (m7:Callee P w K mg base 16 "table_bounds" ["table"] (eB K Y)) (n6:Callee P w K mg base 16 "table_marks" ["table"] (fb K Y)) (xV:Callee P w K mg base 16 "mask" ["table","codes"] (j5 K Y)) {cL tP:GD}(a4:fd.code=.ref cL)(ht:W.tabIn K "row_form" = Kb (cL,tP)) (hT:W.CodeHd base cL tP/\base.BuiltinsAt mg tP)(A7:Callee P w K mg base 7 "mask" ["table","codes"] (j5 K Y)):aK P w K mg base CX0 17 f fd ["table"] (ig K Y):=by
 refine F.okT a4 Z80 (λvs H Q E h=>?_) (λA b6 s H vs Q E hr h=>?_)
 .obtain⟨t,dv,bs,g,L,i,o,rfl,G,T,h4,V,kB,J,S,O,q⟩:=h;rfl
 obtain⟨t,dv,bs,g,L,i,o,rfl,G,T,h4,V,kB,J,S,O,q⟩:=h;refine⟨_,(ai (aw (wQ (zs:=[("table",0,s.heap.objs.size+1)]) y8 hr U (aa (aL m7 hr U (aa (pv 0) ae)) (aa (aL n6 hr U (aa (pv 0) ae)) (aa (w6 (clos:=[("table",s.heap.objs.size+1)]) U hT.1 hT.2 U (ij.mpr ⟨U,js _⟩)) ae))) (ij.mpr ⟨⟨U,Or.inl U,U,Or.inl U⟩,js _⟩)))),?_⟩;have a6:∀(c:Nat)(b:Int×Int),bs[c]?=Kb b->(L c).length<64/\∀x,MkC g c b x->x∈L c:=λc b e=>⟨zY (J c b e).1 (by decide),(J c b e).2⟩
 refine⟨_,U,t,dv,bs,g,U,G,by lia,λl1 ys H1 s1 n1 e1 a5=>?_⟩;refine⟨_,U,t,dv,bs,g,L,U,G.same s1,by lia,V,kB,a6,λl2 as r H2 s2 n2 e2 hM R y=>?_⟩;have n:=s1.trans s2;have CA:=(O _ ht).same n;obtain⟨c0,b0,_⟩:=id CA;refine⟨[(qT Y80,"row_form.<locals>.<lambda>")],ff,?_,CA,λZ c' oc pm ctv M hf kp ef ec a2 wU inj=>?_⟩
 .intro p hp _ _;rw[hZ.mp hp];rfl
 have m:So H2 M:=λd o p e=>kp d o (λz=>by rw[z,b0]at e;cases e;exact p) e
 refine λos u hz ho=>?_
 have l:=mr u hz;have a8:∃o,hU M ((([("table",0,s.heap.objs.size+1)]:List (Str×Nat×GD)).map (·.2.2)).zip os) (s.heap.objs.size+1)=Kb (.frz o TTh):=by
  obtain⟨o,_,e⟩:=gv (H:=M) (fz:=(([("table",0,s.heap.objs.size+1)]:List (Str×Nat×GD)).map (·.2.2)).zip os) (b:=s.heap.objs.size+1) (by rw[mq u];exact ff);exact⟨o,e⟩
 have a3:=qQ (H:=M) (cl:=[("table",s.heap.objs.size+1)]) (ws:=[("table",.ref t)]) u (by simp) ho (λc hc=>by
  simp only[mu,vr,dt,jw,or_false]at hc;exact⟨_,ff,hc.symm⟩) (λx v e=>by
  unfold List.lookup at e;split at e
  .rename_i C
   cases e;rw[eq_of_beq C];exact⟨_,ff,U,U⟩
  .cases e)
 have m6:i4 (hU M ((([("table",0,s.heap.objs.size+1)]:List (Str×Nat×GD)).map (·.2.2)).zip os)) Z c' (W.kla_obj "<lambda>" "row_form.<locals>.<lambda>" (pP Y80) (nP Y80) (jW Y80) [("table",s.heap.objs.size+1)] pm c' ctv) "row_form.<locals>.<lambda>" [("table",s.heap.objs.size+1)] [("table",.ref t)]:=⟨l _ _ ef,⟨oc,l _ _ ec,a2⟩,a3⟩;have hN:AQ (K':=K) wZ P w K mg base Z bs.length (λcd=>((msk (iJ g cd) g.length:Nat):Int)) (λN=>i4 N Z c' (W.kla_obj "<lambda>" "row_form.<locals>.<lambda>" (pP Y80) (nP Y80) (jW Y80) [("table",s.heap.objs.size+1)] pm c' ctv) "row_form.<locals>.<lambda>" [("table",s.heap.objs.size+1)] [("table",.ref t)]/\Tbl Y.k Y.i Y.j N t g i o) :=
  ⟨⟨_,kc (doc:=.none) (pm:=pm) (ctv:=ctv) (c':=c') (c_0:=s.heap.objs.size+1) bl A7 inj,λN a cd Q0 D hl ha k=>⟨a,t,cd,g,i,o,U,D.1,D.2,ha,(λx C=>by rw[(kB x C).1,hl]),λb5 X=>k _ _ (λb o _ e=>X b o e) U⟩⟩,λN D=>⟨_,_,D.1.1,U⟩,λN b5 D X=>⟨D.1.same X,Tbl.same D.2 X⟩⟩
 have Fx:MOK bs r:=⟨R.symm,by lia,λB a0=>by
  obtain⟨c,ec⟩:=jC a0;have hc:=(Gz.mp ec).1;obtain⟨b,eb⟩:∃b,bs[c]?=Kb b:=⟨_,Gy (by lia)⟩;obtain⟨pw,hm⟩:=y c b B eb ec;exact yW (xD pw λx C=>(J c b eb).2 x ((hm x).mp C)) (J c b eb).1⟩
 refine⟨l1,l2,Z,ys,bs,as,r,Int,inferInstance,wZ,_,_,U,(So.lst m (s2 _ _ e1) |> λe=>l _ _ e),((a5.mono s2.tups).mono m.tups).mono l.tups,l _ _ (m.lst e2),(MLs.so m hM).same l,Fx,S r R y,hN,⟨m6,Tbl.same (Tbl.so m (Tbl.same T n)) l⟩,λv H4 b4 s4 Fy a1 a7=>?_⟩;have hs:=L2.hide_same u hz s4;obtain⟨o2,b1⟩:=a8;have a9:Fzs H4 [s.heap.objs.size+1]:=λd hd=>by rw[hZ.mp hd];exact⟨o2,s4 _ _ b1⟩
 refine q v _ b4 (((So.of n).trans m).trans (So.of hs)) (λz ez=>?_) ⟨_,ht⟩ Fy (λj p cs ep b3=>?_) (a7.mono (So.hide a9).tups)
 .rw[ht]at ez;cases ez;exact⟨wU.same hs,λd o hd e=>hs _ _ (kp d o hd (n _ _ e))⟩
 .obtain⟨B,I⟩:∃B,r[j]?=Kb B:=⟨_,Gy (by have:=(Gz.mp ep).1;lia)⟩;obtain⟨pw,hm,_⟩:=a1 j p B cs ep I b3;refine⟨pw,λx=>(hm x).trans ⟨λh=>((y j p B ep I).2 x).mp h.1,λh=>⟨((y j p B ep I).2 x).mpr h,?_⟩⟩⟩;obtain⟨w_,_,C⟩:=h;have:=(jO.mp C).2;rw[BO,Kp,Kp]at this;exact this
theorem gL{c' c_0:GD}{doc pm ctv:Gf}(bl:Bl K mg Y)(p:Callee P w K mg base 7 "judged" ["table","rows"] (fW K Y)) (inj:∀x y c,([("table",c_0)]:List (Str×GD)).lookup x=Kb c->([("table",c_0)]:List (Str×GD)).lookup y=Kb c->x=y):HFn P w K mg base 8 f (d6 K Y f c' c_0 doc pm ctv):=by
 have Z86:=@Z86 c_0;refine xa (qual := "verdict_form.<locals>.<lambda>") (e:=Y84) (c':=c') (cl:=[("table",c_0)]) (pm:=pm) (ctv:=ctv) Z86 inj (λl v=>match l,v with | [F],_=>rfl) (λk H Q E h=>?_) (λA g s H k Q E z h=>?_)
 .obtain⟨m,t,a,i,o,rfl,b,j,q⟩:=h;rfl
 obtain⟨m,t,a,i,o,rfl,b,j,q⟩:=h;refine⟨_,b,um U,λD=>⟨_,(aL p z U (aa (pv 1) (aa (pv 0) ae))),?_⟩⟩;have C:=b.2.2.fzs;have so:=So.hide C;refine⟨_,U,_,U,t,a,i,o,m,U,Tbl.so so j,λr G n d u=>q r _ (mj n) ?_⟩;rcases d with e|e
 .exact .inl ((cP λB=>by have:=u r B;rw[e]at this;cases this).trans e)
 .exact .inr e
theorem Fz(F:Fun K "verdict_form" "verdict_form" s_verdict_form f fd) (bl:Bl K mg Y)(m4:Callee P w K mg base 17 "mapped" ["form","deep","change"] (fX K Y P w mg base 7)) (tL:Callee P w K mg base 17 "row_form" ["table"] (ig K Y)) (rn:Callee P w K mg base 17 "judged" ["table","rows"] (fW K Y)) {cL tP:GD}(c2:fd.code=.ref cL)(ht:W.tabIn K "verdict_form" = Kb (cL,tP)) (hT:W.CodeHd base cL tP/\base.BuiltinsAt mg tP)(xW:Callee P w K mg base 7 "judged" ["table","rows"] (fW K Y)):aK P w K mg base CX0 18 f fd ["table"] (eH K Y):=by
 refine F.okT c2 Z85 (λvs H Q E h=>?_) (λA d4 s H vs Q E hr h=>?_)
 .obtain⟨t,dv,bs,a,L,kk,i,o,rfl,h,N,a0,q⟩:=h;rfl
 obtain⟨t,dv,bs,a,L,kk,i,o,rfl,h,N,a0,q⟩:=h;refine⟨_,(ai (aw (wQ (zs:=[("table",0,s.heap.objs.size+1)]) m4 hr U (aa (aL tL hr U (aa (pv 0) ae)) (aa (av ao U bl.len_ Ka (aa (ba (pv 0) U) ae)) (aa (w6 (clos:=[("table",s.heap.objs.size+1)]) U hT.1 hT.2 U (ij.mpr ⟨U,js _⟩)) ae))) (ij.mpr ⟨⟨U,Or.inl U,U,Or.inl U⟩,js _⟩)))),?_⟩;have d7:=h.b4;obtain⟨rl,dx,dl,fs,xs,b1,f1,f2,d2,b6,e0,hR⟩:=id h.td;have c0:dv.length=bs.length:=b6.1;refine⟨_,U,t,dv,bs,a,L,i,o,U,h.td,h.tb,h.b4,h.r60,h.row,(λc b e=>⟨yW (h.mrk c b e).1 h.k57,(h.mrk c b e).2⟩),h.gr,N,λv H1 O y b3 a8 a3 D a4=>?_⟩;generalize uE:List.zipWith (λp l=>bX p.1 p.2 l) bs O=cols at a4;have hok:fS cols bs:=by
  rw[←uE];exact tF a3 h.le λj p l e1 e2=>⟨(D j p l e1 e2).1,λc r=>xE (((D j p l e1 e2).2 c).mp r)⟩
 have a2:cols.length=bs.length:=by rw[←uE,lg];lia
 have I:∀c∈cols,c.length<=kk+1:=λc r=>by
  rw[←uE]at r;obtain⟨j,T⟩:=jC r;have m:=(Gz.mp T).1;rw[lg]at m;obtain⟨p,ep⟩:∃p,bs[j]?=Kb p:=⟨_,Gy (by lia)⟩;obtain⟨l,ec⟩:∃l,O[j]?=Kb l:=⟨_,Gy (by lia)⟩;rw[md,ep,ec]at T;have T:bX p.1 p.2 l=c:=Option.some.inj T;rw[←T,fU];obtain⟨pw,hm⟩:=D j p l ep ec;have:=xD pw λx S=>(h.mrk j p ep).2 x ((hm x).mp S)
  have:=(h.mrk j p ep).1;lia
 have r:Cf bs a cols:=⟨hok,O,a3,uE.symm,D⟩;refine⟨_,U,t,_,_,_,_,U,y.ins b1,bl.k_Table,bl.na_Table_domains,f2,dl,_,U,.inl (SqL.of (y.lst d2)),?_⟩;obtain⟨z_,G⟩:=a8;obtain⟨b0,b5⟩:=b3 z_ G;have X:=bl.nt0 z_ _ G ht;have a1:dI H1 tP [(qT Y84,"verdict_form.<locals>.<lambda>")]:=by
  obtain⟨pz,d0,_⟩:=N z_ G;exact tab_keep (a0 _ ht) X.symm d0 b5
 obtain⟨d5,a6,_⟩:=id a1;refine⟨[(qT Y84,"verdict_form.<locals>.<lambda>")],ff,?_,a1,λf_ c' oc pm ctv R hf kp ef ec c1 wU inj=>?_⟩
 .intro p hp _ _;rw[hZ.mp hp];rfl
 have J:So H1 R:=λd o p e=>kp d o (λz=>by rw[z,a6]at e;cases e;exact p) e
 have FA:dI R z_.2 [(qT Y80,"row_form.<locals>.<lambda>")]:=tab_keep b0 X a6 kp;refine λos B hz ho=>?_
 have C:=mr B hz;have c4:∃o,hU R ((([("table",0,s.heap.objs.size+1)]:List (Str×Nat×GD)).map (·.2.2)).zip os) (s.heap.objs.size+1)=Kb (.frz o TTh):=by
  obtain⟨o,_,e⟩:=gv (H:=R) (fz:=(([("table",0,s.heap.objs.size+1)]:List (Str×Nat×GD)).map (·.2.2)).zip os) (b:=s.heap.objs.size+1) (by rw[mq B];exact ff);exact⟨o,e⟩
 have FC:=qQ (H:=R) (cl:=[("table",s.heap.objs.size+1)]) (ws:=[("table",.ref t)]) B (by simp) ho (λc r=>by
  simp only[mu,vr,dt,jw,or_false]at r;exact⟨_,ff,r.symm⟩) (λx v e=>by
  unfold List.lookup at e;split at e
  .rename_i S
   cases e;rw[eq_of_beq S];exact⟨_,ff,U,U⟩
  .cases e)
 have m6:i4 (hU R ((([("table",0,s.heap.objs.size+1)]:List (Str×Nat×GD)).map (·.2.2)).zip os)) f_ c' (W.kla_obj "<lambda>" "verdict_form.<locals>.<lambda>" (pP Y84) (nP Y84) (jW Y84) [("table",s.heap.objs.size+1)] pm c' ctv) "verdict_form.<locals>.<lambda>" [("table",s.heap.objs.size+1)] [("table",.ref t)]:=⟨C _ _ ef,⟨oc,C _ _ ec,c1⟩,FC⟩;have hN:Cd (K':=K) wZ LVd P w K mg base f_ (vdm a i o) (λV=>i4 V f_ c' (W.kla_obj "<lambda>" "verdict_form.<locals>.<lambda>" (pP Y84) (nP Y84) (jW Y84) [("table",s.heap.objs.size+1)] pm c' ctv) "verdict_form.<locals>.<lambda>" [("table",s.heap.objs.size+1)] [("table",.ref t)]/\Tbl Y.k Y.i Y.j V t a i o) :=
  ⟨⟨_,gL (doc:=.none) (pm:=pm) (ctv:=ctv) (c':=c') (c_0:=s.heap.objs.size+1) bl xW inj,λV v x Q0 m hv k=>by
   have hv:v=.int x:=hv;subst hv;exact⟨x,t,a,i,o,U,m.1,m.2,λr_ d3 s0 a9=>k _ _ s0 ⟨r_,U,a9⟩⟩⟩,λV m=>⟨_,_,m.1.1,U⟩,λV d3 m s0=>⟨m.1.same s0,Tbl.same m.2 s0⟩⟩
 refine⟨Int,SI,inferInstance,inferInstance,wZ,LVd,vdm a i o,_,cols.length,lay (mkg a) cols [],v,f_,?_,by lia,by lia,?_,?_,hN,⟨m6,Tbl.same (Tbl.so J (Tbl.so y h.tb)) C⟩,λu H4 s4 a5=>?_⟩
 .rw[c0,←a2]
 .exact(a4.mono J.tups).mono C.tups
 .exact(tE hok I []).le (by have:=h.few;have:=h.k57;lia)
 rw[yQ hok]at a5;have M:=L2.hide_same B hz s4;obtain⟨o2,d1⟩:=c4;have c5:Fzs H4 [s.heap.objs.size+1]:=λd hd=>by rw[hZ.mp hd];exact⟨o2,s4 _ _ d1⟩
 have c3:=a5.mono (So.hide c5).tups;have a7:So H (hideL H4 [s.heap.objs.size+1]):=(y.trans J).trans (So.of M);obtain⟨F',c9,c8,c7,c6⟩:=zM a2 (lay (λcd=>vdm a i o (mkg a cd)) cols []) (λn F=>FmV (K:=K) LVd (hideL H4 [s.heap.objs.size+1]) n F u/\cw n F bs/\SmF 300 n F/\∀l,InB l bs->Tel n F l (vdm a i o (mkg a l))) ⟨c3,mw hok [],(tE hok I []).le (by have:=h.few;have:=h.k57;lia),λl Z=>by
  have:=lD (g:=λcd=>vdm a i o (mkg a cd)) hok [] l Z;rw[yl,yO r (λx S=>(h.row x S).1) Z]at this;exact this⟩
 refine q u F' _ a7 (λz e=>?_) (λz e=>?_) c9 c8 c7 c6
 .rw[G]at e;cases e;exact FA.same M
 .rw[ht]at e;cases e;exact wU.same M
theorem FD(F:Fun K "changes" "changes" Y37 f fd) (bl:Bl K mg Y)(kZ:Callee P w K mg base 18 "refuse_unlike" ["one","other"] (dP K Y)) (lh:Callee P w K mg base 18 "changed_boxes" ["old","new","deep"] (dQ K Y)) (ir:Callee P w K mg base 18 "verdict_form" ["table"] (eH K Y)):aK P w K mg base CX0 19 f fd ["one","other"] (jo K Y):=by
 refine F.okA Z37 λb0 A a7 s H vs Q E C h=>?_
 obtain⟨t,u,bs,c,k,i,j,o,gc,rfl,a5,a1,a0,q⟩:=h
 refine⟨_,(aj (aV (aL kZ C U (aa (pv 0) (aa (pv 1) ae))))
  (ai (aw (aL lh C U (aa (aL ir C U (aa (pv 0) ae)) (aa (aL ir C U (aa (pv 1) ae)) (aa (av ao U bl.len_ Ka (aa (ba (pv 0) U) ae)) ae))))))),?_⟩
 obtain⟨⟨R,ev,L,L',kk,D,hB,a2,ou,pu,ds,d,e1,e2,e3,e4,e5,e6,e7⟩,O,k2,k3,k4⟩:=a5;have a8:=D.b4;refine⟨_,U,_,U,t,u,R,ev,ou,pu,ds,d,U,e1,e2,e3,e4,e5,e6,e7,λH1 N=>?_⟩;have p:=So.of N;refine⟨_,U,t,R,bs,c,L,kk,i,o,U,D.so p,a1.same N,a0.same N,λv F H2 Z X V f1 J f3 f4=>?_⟩;have CB:=p.trans Z;refine⟨_,U,u,ev,bs,k,L',kk,j,o,U,hB.so CB,X,V,λw_ G H3 m W T g1 I g3 g4=>?_⟩;have S:=CB.trans m;obtain⟨rl,dx,dl,fs,xs,ht,j1,j2,a6,a3,a9,hR⟩:=(D.so S).td;have a4:R.length=bs.length:=a3.1;obtain⟨G0,p1,p2,p3⟩:=zM k2 (lay (dif c k i j o) gc []) (λn F=>cw n F bs/\(bxs n F).length<=300/\∀b,InB b bs->Tel n F b (dif c k i j o b)) ⟨mw O [],yW (xB O a2 []) (by rw[k2];exact D.few),λb a=>by
  have:=lD (g:=dif c k i j o) O [] b a;rw[yl]at this;unfold dif at this⊢;rw[k3 b a,k4 b a]at this;exact this⟩
 have r:∀b,InB b bs->Tel bs.length (pairF dpr bs.length F G) b (dif c k i j o b):=λb a=>xp (f4 b a) (g4 b a) J I a
 have B:pairF dpr bs.length F G=G0:=ky (lF J I) p1 λb a x y hx hy=>(lG hx (r b a)).trans (lG hy (p3 b a)).symm
 refine⟨_,U,t,_,_,_,_,U,ht,bl.k_Table,bl.na_Table_domains,j2,dl,_,U,.inl (SqL.of a6),v,w_,bs.length,F,G,bs,by rw[a4],by lia,f1.mono m.tups,g1,J,I,f3,g3,by rw[B];exact p2,by lia,λl ys H4 M nl el hC=>?_⟩;exact q l ys (pairF dpr bs.length F G) H4 (S.trans (So.of M)) (λo_ po e=>Kk (nl.symm.trans (S l o_ po e)) (by intro z;cases z)) (W.same M) (T.same M) el ⟨lF J I,r,by rw[B];exact p2⟩ hC
theorem FE(F:Fun K "law" "law" Y50 f fd) (bl:Bl K mg Y)(jA:Callee P w K mg base 19 "_law_grid_points" ["script","most"] (dj K Y)) (rq:Callee P w K mg base 19 "_law_outs" ["cell"] (ib K Y)) (tM:Callee P w K mg base 19 "_law_way" ["cell","words"] (jl K Y)) (n8:Callee P w K mg base 19 "_law_places" ["points"] (fI K Y)) (ke:Callee P w K mg base 19 "_law_table" ["script","points","outs","way","rows","turn"] (gF K Y)) (m8:Callee P w K mg base 19 "_law_numbers" ["script"] (eZ K Y)) (bI:Callee P w K mg base 19 "_law_cell" ["script","k"] (dY K Y)) (tN:Callee P w K mg base 19 "_law_put" ["told","spots","now"] (jn K Y)) (p9:Callee P w K mg base 19 "_law_other" ["rows","cell","points","outs"] (gE K Y)) (vH:Callee P w K mg base 19 "changes" ["one","other"] (jo K Y)) (tO:Callee P w K mg base 19 "_law_due" ["codes","way","outs"] (jm K Y)) (jq:Callee P w K mg base 19 "_law_row" ["cell","points","outs"] (gB K Y)) (m9:Callee P w K mg base 19 "_law_fitting" ["rows","at"] (eY K Y)):aK P w K mg base CX0 20 f fd ["script"] (J18 K):=by
 refine F.ok Z50 (λvs H Q E h=>?_) (λv0 A q1 s H vs Q E Z h=>?_)
 .obtain⟨a,R,rfl,hS,h63,i2,i1,q⟩:=h;rfl
 obtain⟨a,R,rfl,hS,h63,i2,i1,q⟩:=h;refine'⟨?tt,?r0,?rd⟩
 case' r0=>refine' aN ?st0 ?r1
 case' r1=>refine' aN ?st1 ?r2
 case' r2=>refine' aN ?st2 ?r3
 case' r3=>refine' aN ?st3 ?r4
 case' r4=>refine' aN ?st4 ?r5
 case' r5=>refine' aN ?st5 ?r6
 case' r6=>refine' aN ?st6 ?r7
 case' r7=>refine' aN ?st7 ?r8
 case' r8=>refine' aN ?st8 ?r9
 case' r9=>refine' aj ?st9 ?r10
 case' r10=>refine' ai ?st10
 case' st0 =>
  refine' aI (i:=1) ?u2a ?u2b ?u2c ?h1 ?u2d ?u2e
  case' u2a=>exact Z50.nd
  case' u2b=>exact U
  case' u2c=>exact(Or.inr U)
  case' h1=>refine' aL jA Z U ?h3
  case' h3=>refine' aa ?h4 ?h5 ?h6
  case' h4=>exact(pv 0)
  case' h5=>refine' aa ?h7 ?h8 ?h9
  case' h7=>refine' aF aG ?h10 ?h11 (λ_ _=>U)
  case' h10=>refine' aR ?h12
  case' h12=>refine' aa ?h13 ?h14 ?h15
  case' h13=>refine' aR ?h16
  case' h16=>refine' aa ?h17 ?h18 ?h19
  case' h17=>exact ag
  case' h18=>exact ae
  case' h19=>exact U
  case' h14=>refine' aa ?h20 ?h21 ?h22
  case' h20=>refine' aR ?h23
  case' h23=>refine' aa ?h24 ?h25 ?h26
  case' h24=>exact ag
  case' h25=>refine' aa ?h27 ?h28 ?h29
  case' h27=>exact ag
  case' h28=>exact ae
  case' h29=>exact U
  case' h26=>exact U
  case' h21=>refine' aa ?h30 ?h31 ?h32
  case' h30=>refine' aR ?h33
  case' h33=>refine' aa ?h34 ?h35 ?h36
  case' h34=>exact ag
  case' h35=>refine' aa ?h37 ?h38 ?h39
  case' h37=>exact ag
  case' h38=>refine' aa ?h40 ?h41 ?h42
  case' h40=>exact ag
  case' h41=>exact ae
  case' h42=>exact U
  case' h39=>exact U
  case' h36=>exact U
  case' h31=>refine' aa ?h43 ?h44 ?h45
  case' h43=>refine' aR ?h46
  case' h46=>refine' aa ?h47 ?h48 ?h49
  case' h47=>exact ag
  case' h48=>refine' aa ?h50 ?h51 ?h52
  case' h50=>exact ag
  case' h51=>refine' aa ?h53 ?h54 ?h55
  case' h53=>exact ag
  case' h54=>refine' aa ?h56 ?h57 ?h58
  case' h56=>exact ag
  case' h57=>exact ae
  case' h58=>exact U
  case' h55=>exact U
  case' h52=>exact U
  case' h49=>exact U
  case' h44=>exact ae
  case' h45=>exact U
  case' h32=>exact U
  case' h22=>exact U
  case' h15=>exact U
  case' h11=>refine' au ?h59 ?h60 ?h61
  case' h59=>exact aO
  case' h60=>refine' aL bI Z U ?h62
  case' h62=>refine' aa ?h63 ?h64 ?h65
  case' h63=>exact(pv 0)
  case' h64=>refine' aa ?h66 ?h67 ?h68
  case' h66=>exact ag
  case' h67=>exact ae
  case' h68=>exact U
  case' h65=>exact U
  case' h61=>exact ag
  case' h8=>exact ae
  case' h9=>exact U
  case' h6=>exact U
  case' u2d=>exact U
  case' u2e=>first|exact .inl U|exact .inr U
 case' st1=>exact(aI (i:=2) Z50.nd U (Or.inl U) (aL rq Z U (aa (aL bI Z U (aa (pv 0) (aa ag ae))) ae)))
 case' st2=>exact(aI (i:=3) Z50.nd U (Or.inl U) (aL tM Z U (aa (aL bI Z U (aa (pv 0) (aa ag ae))) (aa (jP br (au aO (aL bI Z U (aa (pv 0) (aa ag ae))) ag) ag (aH _)) ae))))
 case' st3=>exact(aI (i:=4) Z50.nd U (Or.inl U) (aL n8 Z U (aa (pv 1) ae)))
 case' st4=>exact(wM (i:=5) Z50.nd U (Or.inl U) (aW (pv 4)) (vc (N:=["at","points"]) (k:=1) (fr:=[1]) (cl:=[("points",s.heap.objs.size+1)]) U U (by decide+kernel) U ⟨⟨_,_,U,U,U,U,U,λ_=>U⟩,trivial⟩ (ij.mpr ⟨U,js _⟩) (λ_=>U)) U (λ_ C1 _ _=>(aD (i:=0) (show(["at","points"]:List Str).Nodup by decide+kernel) U (Or.inr U) (Or.inl U))) (λ_ C1 _ _=>bz) (λ_ C1 _ _=>(dU (aX U bl.range_ (aa (av (nL (K:=K) U) U bl.len_ Ka (aa (pv 0) ae)) ae)) (dW (N:=["k","at","points"]) (k:=1) (fr:=[0,1]) (cl:=[("points",s.heap.objs.size+1),("at",C1+1)]) U U (by decide+kernel) (by decide+kernel) U U (ij.mpr ⟨U,ij.mpr ⟨U,js _⟩⟩) U) U (λ_ C2 _ _=>(aD (i:=0) (show(["k","at","points"]:List Str).Nodup by decide+kernel) U (Or.inl U) (Or.inr U))) (λ_ C2 _ _=>bz) (λ_ C2 _ _=>(aF (dB (K:=K) U) (aF (dB (K:=K) U) (pv 2) (pv 0) (λ_ _=>U)) (aF (dB (K:=K) U) (pv 1) (pv 0) (λ_ _=>U)) (λ_ _=>U))))))
 case' st5=>exact(lA (i:=6) Z50.nd U (Or.inl U) (aW (pv 4)) (dS U (by decide+kernel) (by decide+kernel) (by decide+kernel) U) U (λ_ _ _ _=>bz) (λ_ _ _ _=>(aY (aa aQ (aa ag ae)))))
 case' st6=>exact(aI (i:=7) Z50.nd U (Or.inr U) (aR ae))
 case' st7=>exact(aI (i:=8) Z50.nd U (Or.inl U) (aL ke Z U (aa (pv 0) (aa (pv 1) (aa (pv 2) (aa (pv 3) (aa (pv 7) (aa ag ae))))))))
 case' st8=>exact(bg Hn.never U (aW (aL m8 Z U (aa (pv 0) ae))) (aD (i:=9) Z50.nd U (Or.inl U))
 (aN (aM (aE br (au aO (pv 9) ag) ag (aH _))
 (ai (aI (i:=7) Z50.nd U (Or.inr U) (au dz (pv 7) (aR (aa (aL jq Z U (aa (au bF (pv 9) ag) (aa (pv 1) (aa (pv 2) ae)))) ae)))))
 (ai (aI (i:=7) Z50.nd U (Or.inr U) (aL p9 Z U (aa (pv 7) (aa (au bF (pv 9) ag) (aa (pv 1) (aa (pv 2) ae))))))))
 (aN (aI (i:=10) Z50.nd U (Or.inl U) (aL ke Z U (aa (pv 0) (aa (pv 1) (aa (pv 2) (aa (pv 3) (aa (pv 7) (aa (au aO (pv 9) ag) ae))))))))
 (aN (aI (i:=6) Z50.nd U (Or.inl U) (aL tN Z U (aa (aL vH Z U (aa (pv 8) (aa (pv 10) ae))) (aa (pv 5) (aa (pv 6) ae)))))
 (aj (aM (aE Ac (pv 6) rH (aH _))
 (ai (aw eO))
 aC)
 (ai (aI (i:=8) Z50.nd U (Or.inl U) (pv 10))))))))
 case' st9=>exact(bg Hn.never U (aX U bl.range_ (aa (av ao U bl.len_ Ka (aa (pv 4) ae)) ae)) (aD (i:=11) Z50.nd U (Or.inl U))
 (ai (aM (aE (wt Z) (aF aG (pv 6) (pv 11) (λ_ _=>U)) (aL tO Z U (aa (cM (aW (aL m9 Z U (aa (pv 7) (aa (aF aG (pv 4) (pv 11) (λ_ _=>U)) ae)))) (bD (N:=["j","rows"]) (fr:=[7]) (cl:=[("rows",s.heap.objs.size+1+1)]) U U (by decide+kernel) (by decide+kernel) U (by decide+kernel) U U U (ij.mpr ⟨U,js _⟩) U) U (λ_ _ _ _=>bz) (λ_ _ _ _=>(aF (fk (K:=K) U) (aF (dB (K:=K) U) (pv 1) (pv 0) (λ_ _=>U)) ag (λ_ _=>U)))) (aa (pv 3) (aa (pv 2) ae)))) (aH _))
 (ai (aw eO))
 aC)))
 case' st10=>exact(aw eO)
 case rd =>
  refine⟨λC B=>ar H B/\∃(O:GD)(xs:List V)(v:List (List Int))(kk:Nat),B O=Kb (.lst xs)/\PTL B xs v/\pQ R v/\1<=v.length/\v.length<=4/\(∀ps∈v,ps.length<=kk)/\(kk+1)^v.length<=300/\kk<=57/\(∀ps∈v,∀x∈ps,∀y∈ps,y-x<=12*10^56)/\C=[Kb (.ref a),Kb (.ref O),Kc,Kc,Kc,Kc,Kc,Kc,Kc,Kc,Kc,Kc],?_,?_⟩
  .refine⟨_,U,(by show 1<=GH;decide),λp1 h1=>?_⟩;have s1:=af h1 (.lst ([6].map V.int));have e1:upd H p1 (.lst ([6].map V.int)) p1=Kb (.lst ([6].map V.int)):=ab;have ee:upd H p1 (.lst [.int 6])=upd H p1 (.lst ([6].map V.int)):=rfl;rw[ee];generalize upd H p1 (.lst ([6].map V.int))=H1 at s1 e1⊢;clear ee;refine⟨(by show 2<=GH;decide),λp2 h2=>?_⟩;have s2:=af h2 (.lst ([3,3].map V.int));have e2:upd H1 p2 (.lst ([3,3].map V.int)) p2=Kb (.lst ([3,3].map V.int)):=ab;have ee:upd H1 p2 (.lst [.int 3,.int 3])=upd H1 p2 (.lst ([3,3].map V.int)):=rfl;rw[ee];generalize upd H1 p2 (.lst ([3,3].map V.int))=H2 at s2 e2⊢;clear ee;refine⟨(by show 3<=GH;decide),λp3 h3=>?_⟩;have s3:=af h3 (.lst ([2,2,2].map V.int));have e3:upd H2 p3 (.lst ([2,2,2].map V.int)) p3=Kb (.lst ([2,2,2].map V.int)):=ab;have ee:upd H2 p3 (.lst [.int 2,.int 2,.int 2])=upd H2 p3 (.lst ([2,2,2].map V.int)):=rfl;rw[ee];generalize upd H2 p3 (.lst ([2,2,2].map V.int))=H3 at s3 e3⊢;clear ee;refine⟨(by show 4<=GH;decide),λp4 h4=>?_⟩;have s4:=af h4 (.lst ([2,2,2,2].map V.int));have e4:upd H3 p4 (.lst ([2,2,2,2].map V.int)) p4=Kb (.lst ([2,2,2,2].map V.int)):=ab;have ee:upd H3 p4 (.lst [.int 2,.int 2,.int 2,.int 2])=upd H3 p4 (.lst ([2,2,2,2].map V.int)):=rfl;rw[ee];generalize upd H3 p4 (.lst ([2,2,2,2].map V.int))=H4 at s4 e4⊢;clear ee;refine⟨(by show 4<=GH;decide),λp hp=>?_⟩;have s5:=af hp (.lst [.ref p1,.ref p2,.ref p3,.ref p4]);have e5:upd H4 p (.lst [.ref p1,.ref p2,.ref p3,.ref p4]) p=Kb (.lst [.ref p1,.ref p2,.ref p3,.ref p4]):=ab;generalize upd H4 p (.lst [.ref p1,.ref p2,.ref p3,.ref p4])=H5 at s5 e5⊢;have g5:=s4.trans s5;have g6:=s3.trans g5;have g7:=s2.trans g6;have A9:=s1.trans g7;refine⟨_,U,a,R,0,U,A9.seq hS,Int.le_refl _,_,_,U,U,(by show(0:Int)<4;decide),?_⟩;obtain⟨m,L,kk,hv,em,hq,u5,n0,n1,d1,xR⟩:∃(m:GD)(L:List Int)(kk:Nat),atI [V.ref p1,.ref p2,.ref p3,.ref p4] (cA R 0%4)=Kb (.ref m)/\H5 m=Kb (.lst (L.map V.int))/\(∀x∈L,1<=x/\x<=12)/\1<=L.length/\L.length<=4/\(∀x∈L,x+1<=(kk:Int))/\(kk+1)^L.length<=300/\kk<=57:=by
    have x0:=Dq (cA R 0) (show(4:Int)≠0 by decide);have x1:=Dt (cA R 0) (show(0:Int)<4 by decide);generalize cA R 0%4=k at x0 x1⊢;have:k=0\/k=1\/k=2\/k=3:=by lia
    rcases this with rfl|rfl|rfl|rfl
    .exact⟨p1,_,7,U,g7 _ _ e1,by decide,by decide,by decide,by decide,by decide,by decide⟩
    .exact⟨p2,_,4,U,g6 _ _ e2,by decide,by decide,by decide,by decide,by decide,by decide⟩
    .exact⟨p3,_,3,U,g5 _ _ e3,by decide,by decide,by decide,by decide,by decide,by decide⟩
    .exact⟨p4,_,3,U,s5 _ _ e4,by decide,by decide,by decide,by decide,by decide,by decide⟩
   refine⟨p,_,_,_,U,U,SqL.of e5,hv,a,m,R,L,U,A9.seq hS,SqL.of em,hq,n0,λl xs v B s' el hx hg k3 b3 h0=>⟨A9.trans s',l,xs,v,kk,el,hx,hg,by lia,by lia,(λps f1=>?_),by rw[k3];exact d1,xR,h0,U⟩⟩;obtain⟨j,ej⟩:=jC f1;have hj:=(Gz.mp ej).1;have ex:=Gy (l:=L) (i:=j) (by lia);have:=b3 j ps _ ej ex;have:=n1 _ (GB ex);lia
  rintro k6 H1 ⟨s1,O,xs,v,kk,o9,j0,hg,f4,a3,b3,d1,xR,h0,rfl⟩;have t1:xs.length=v.length:=j0.1;refine⟨λC B=>ar H1 B/\∃(T:GD)(G:List Int),B T=Kb (.lst (G.map V.int))/\hV (cA R 5) G/\C=[Kb (.ref a),Kb (.ref O),Kb (.ref T),Kc,Kc,Kc,Kc,Kc,Kc,Kc,Kc,Kc],?_,?_⟩
  .exact⟨_,U,a,R,5,U,s1.seq hS,by decide,_,U,λl G B s' el ho=>⟨s',l,G,el,ho,U⟩⟩
  rintro k5 H2 ⟨t2,T,G,p5,a6,rfl⟩;have s2:=s1.trans t2;have FG:=t2 _ _ o9;have FH:=j0.same t2;have A1:o0 G<=o4 G:=by
   obtain⟨x0,x1,x2,x3,x4,rfl,Gu,h12,h23,h34,_⟩:=id a6;show x0<=x4;lia
  refine⟨λC B=>ar H2 B/\∃(S:Str)(J:Nat),six[J]?=Kb S/\(cA R 5%3=1->S≠s!"sum")/\C=[Kb (.ref a),Kb (.ref O),Kb (.ref T),Kb (.str S),Kc,Kc,Kc,Kc,Kc,Kc,Kc,Kc],?_,?_⟩
  .exact⟨_,U,a,R,6,U,s2.seq hS,by decide,_,U,a,R,5,U,s2.seq hS,by decide,_,_,U,U,(by show(0:Int)<3;decide),U,_,_,U,λS J B s' hw hs=>⟨s',S,J,hw,λe=>hs (by rw[e];exact Kl U),U⟩⟩
  rintro k4 H3 ⟨t3,S,J,d0,g9,rfl⟩;have s3:=s2.trans t3;have CC:=t3 _ _ FG;have CD:=FH.same t3;have FI:=t3 _ _ p5;refine⟨λC B=>ar H3 B/\∃(ql:GD)(L:List V),B ql=Kb (.lst L)/\PtL NT B L (cX (gls v))/\C=[Kb (.ref a),Kb (.ref O),Kb (.ref T),Kb (.str S),Kb (.ref ql),Kc,Kc,Kc,Kc,Kc,Kc,Kc],?_,?_⟩
  .exact⟨_,U,O,xs,v,U,CC,CD,hg.pts,a3,λl zs B s' el hz=>⟨s',l,zs,el,hz,U⟩⟩
  rintro q7 H4 ⟨t4,ql,L,d3,b5,rfl⟩;have s4:=s3.trans t4;have Ba:=t4 _ _ CC;have y9:=CD.same t4;have CF:=t4 _ _ FI;obtain⟨PS,f6⟩:∃PS,PS=cX (gls v):=⟨_,U⟩;rw[←f6]at b5;have i9:L.length=PS.length:=b5.1;have f3:PS.length<=300:=by
   rw[f6];refine yW (o7 (b:=kk+1) U λn hn=>?_) (by unfold gls;rw[bx];exact d1);obtain⟨ps,f1,rfl⟩:=en.mp hn;have:=b3 ps f1;lia
  have jh:∀{j:Nat}{p:List Nat},PS[j]?=Kb p->p∈cX (gls v):=λe=>by rw[←f6];exact GB e
  have vD:∀{j:Nat}{p:List Nat},PS[j]?=Kb p->p.length=v.length:=λe=>by rw[(nW.iff.mp (jh e)).1];unfold gls;rw[bx]
  refine⟨λC B=>ar H4 B/\∃(sl:GD)(sx:List V),B sl=Kb (.lst sx)/\ax sx (PS.map (dC v)) (λr cs=>B r=Kb (.lst (cs.map V.int)))/\C=[Kb (.ref a),Kb (.ref O),Kb (.ref T),Kb (.str S),Kb (.ref ql),Kb (.ref sl),Kc,Kc,Kc,Kc,Kc,Kc],?_,?_⟩
  .refine⟨_,U,ql,U,⟨_,SqL.of d3⟩,dJ (xs:=L) (λD i ys B=>ar H4 B/\B D=Kb (.lst ys)/\ax ys ((PS.take i).map (dC v)) (λr cs=>r≠D/\B r=Kb (.lst (cs.map V.int)))) (λD hD=>⟨af hD _,ab,ax.nil⟩) (λD i ys B hD _ hh=>SqL.of (hh.1 _ _ d3)) (λD i y ys B hD e hh ts m0=>?_) (λD ys B hD hh=>?_)⟩
   .obtain⟨sm,eD,hz⟩:=hh;obtain⟨al,p,rfl,ep,_,d2⟩:=ax.get b5 e;have hi:i<L.length:=(Gz.mp e).1;obtain⟨u0,rfl⟩:∃u0,ts=[u0]:=by
     match ts,m0 with
     | [u0],_=>exact⟨u0,U⟩
    have lp:=vD ep;have Gv:xs.length=v.length:=y9.1;have CG:=sm _ _ d2;refine⟨⟨[Kb (.ref al)],U,U⟩,_,U,al,_,U,.inl (SqL.of CG),_,U,(by show -(2^62)<=(((vN p).length:Nat):Int);rw[eA];lia),(by show(((vN p).length:Nat):Int)<2^62;rw[eA];lia),qN (λD2 j ws H5=>ar B H5/\H5 D2=Kb (.lst ws)/\ws=((dC v p).take j).map V.int) (λD2 a8=>⟨af a8 _,ab,U⟩) (λD2 j ws H5 a8 hj h f9 FJ=>?_) (λD2 ws H5 a8 h=>?_)⟩
    .obtain⟨s5,d4,rfl⟩:=h;obtain⟨u1,rfl⟩:∃u1,f9=[u1]:=by
      match f9,FJ with
      | [u1],_=>exact⟨u1,U⟩
     have n3:j<p.length:=by have:=eA p;lia
     have e1:=Gy n3;have e2:=Gy (l:=v) (i:=j) (by lia);obtain⟨pa,p0,j1⟩:=y9.2 j _ e2;have a1:atI xs (0+(j:Int))=Kb (.ref pa):=by rw[Dv];exact aS p0
     have a2:atI (vN p) (0+(j:Int))=Kb (.int (p[j]:Int)):=by rw[Dv];exact aS (zK e1)
     have ha:p[j]<v[j].length-1:=(nW.iff.mp (jh ep)).2 j _ _ e1 (by unfold gls;rw[gI,e2];rfl);have el:=xM e2 e1;generalize v[j]=qj at j1 ha el;generalize p[j]=nj at a2 ha el;have f0:=Gy (l:=qj) (i:=nj) (by lia);have b0:atI (qj.map V.int) (nj:Int)=Kb (.int (qj.getD nj 0)):=by rw[dF,f0];exact aS (get_map f0)
     have sB:=sm.trans s5;refine⟨⟨[Kb (.int (0+(j:Int)))],U,U⟩,_,U,_,U,O,_,_,_,U,U,SqL.of (sB _ _ Ba),a1,_,U,_,U,al,_,_,_,U,U,SqL.of (s5 _ _ CG),a2,pa,_,_,_,U,U,SqL.of (sB _ _ j1),b0,cB.mk hj d4 (az (by rw[bx,ik];lia)) ⟨s5.upd a8,ab,?_⟩⟩;rw[take_snoc el,iv];rfl
    .obtain⟨s5,d4,rfl⟩:=h;have u4:=pW lp;rw[show(((vN p).length:Nat):Int).toNat=(dC v p).length by rw[eA];lia,ip]at d4;have l4:D2≠D:=λz=>by rw[z,eD]at a8;cases a8
     have p8:=s5 _ _ eD;have e0:=hz.1;rw[bx,ik]at e0;refine cB.mk hi p8 (az (by lia)) ⟨(sm.trans s5).upd hD,ab,?_⟩;rw[take_snoc ep,iv];have l5:ax (ys++[.ref D2]) ((PS.take i).map (dC v)++[dC v p]) (λr cs=>r≠D/\H5 r=Kb (.lst (cs.map V.int))):=ax.snoc (ax.mono hz λr cs ⟨n,e⟩=>⟨n,s5 _ _ e⟩) ⟨l4,d4⟩;exact ax.mono l5 λr cs ⟨n,e⟩=>⟨n,(ay n).trans e⟩
   .obtain⟨sm,eD,hz⟩:=hh;rw[i9,ip]at hz;exact⟨sm,D,ys,eD,ax.mono hz λr cs ⟨_,e⟩=>e,U⟩
  rintro q6 H5 ⟨t5,sl,sx,o5,m1,rfl⟩;have s5:=s4.trans t5;have CH:=t5 _ _ d3;refine⟨λC B=>ar H5 B/\∃(nl:GD)(nx:List V),B nl=Kb (.lst nx)/\ax nx (PS.map (vdp [] J G)) (Vd K B)/\C=[Kb (.ref a),Kb (.ref O),Kb (.ref T),Kb (.str S),Kb (.ref ql),Kb (.ref sl),Kb (.ref nl),Kc,Kc,Kc,Kc,Kc],?_,?_⟩
  .refine⟨_,U,ql,U,⟨_,SqL.of CH⟩,dq (xs:=L) (λD i ys B=>ar H5 B/\B D=Kb (.lst ys)/\ax ys ((PS.take i).map (vdp [] J G)) (Vd K B)) (λD hD=>⟨af hD _,ab,ax.nil⟩) (λD i ys B hD _ hh=>SqL.of (hh.1 _ _ CH)) (λD i y ys B hD e hh=>?_) (λD ys B hD hh=>?_)⟩
   .obtain⟨sm,eD,hz⟩:=hh;obtain⟨al,p,rfl,ep,_,d2⟩:=ax.get b5 e;have hi:i<L.length:=(Gz.mp e).1;have e0:=hz.1;rw[bx,ik]at e0;refine⟨bu,λtt l6=>?_⟩;have u:=af l6 (.tup (tp vi));have et:upd B tt (.tup (tp vi)) tt=Kb (.tup (tp vi)):=ab;have ee:upd B tt (.tup [.str "none",.int 0])=upd B tt (.tup (tp vi)):=rfl;rw[ee];generalize upd B tt (.tup (tp vi))=H6 at u et⊢;clear ee;have k2:=u _ _ eD;refine cB.mk hi k2 (az (by lia)) ⟨(sm.trans u).upd hD,ab,?_⟩;rw[take_snoc ep,iv];have st:bM H6 (upd H6 D (.lst (ys++[.ref tt]))):=aP k2;exact ax.snoc (ax.mono hz λ_ _ h=>(h.mono u.tups).mono st) (.inl (st _ _ et))
   .obtain⟨sm,eD,hz⟩:=hh;rw[i9,ip]at hz;exact⟨sm,D,ys,eD,hz,U⟩
  rintro q5 H6 ⟨t6,d7,g8,FK,FL,rfl⟩;have s6:=s5.trans t6;refine⟨λC B=>ar H6 B/\∃rl:GD,B rl=Kb (.lst [])/\C=[Kb (.ref a),Kb (.ref O),Kb (.ref T),Kb (.str S),Kb (.ref ql),Kb (.ref sl),Kb (.ref d7),Kb (.ref rl),Kc,Kc,Kc,Kc],⟨(by show 0<=GH;decide),λrl M=>⟨af M _,rl,ab,U⟩⟩,?_⟩;rintro q4 H7 ⟨t7,c7,CI,rfl⟩;have s7:=s6.trans t7;have c6:=(t5.trans t6).trans t7;have j6:∀{H B:Hp}{rl:GD}{rx:List V}{bms:List (List Int×Int)}{t:GD}{I:List Rw}{nm:Str}{ou:GD}{zs:List Str}{dv:List V},rx.length=bms.length->rx.length<=60->pX v G bms->qV (λa=>H a=Kc) Y.k B t I nm S ou zs dv->ax dv (v.map λps=>(loP ps,hiP ps)) (Dom Y.i Y.j B)->Dom Y.i Y.j B ou (o0 G,o4 G)->ax dv (dms R v) (DmX Y.i Y.j B)->DmX Y.i Y.j B ou (dmO (cA R 5) G)->I.length=bms.length->(∀w∈I,mB (v.map λps=>(loP ps,hiP ps)) (o0 G,o4 G) w)->(∀(k:Nat)(b:List Int×Int)(x:Rw),bms[k]?=Kb b->I[k]?=Kb x->GrR v b x)->mQ Y.k Y.i Y.j B t R v G I bms J kk:=λ{H B rl rx bms t I nm ou zs dv} hl h60 Bb hT c3 c0 c2 b6 i5 hok a7=>by
   have j8:∀b∈bms,b.1.length=v.length:=λb hb=>(Bb b hb).1
   refine⟨⟨dv,_,ou,AZ hT.wk c3 c0 d0 i5 hok a7 j8 hg.pts A1 a3 (by lia) b3 d1 xR,?_,c2,b6⟩,i5,a7,j8⟩;obtain⟨s9,dx,na,dl,fs,s0,e1,e2,e3,e4,e5,e6,e7,e8,e9,u8,u6,_⟩:=hT;exact⟨dx,dl,fs,e1,e7,e5,e9⟩
  refine⟨λC B=>ar H7 B/\∃(t:GD)(I:List Rw),mQ Y.k Y.i Y.j B t R v G I [] J kk/\C=[Kb (.ref a),Kb (.ref O),Kb (.ref T),Kb (.str S),Kb (.ref ql),Kb (.ref sl),Kb (.ref d7),Kb (.ref c7),Kb (.ref t),Kc,Kc,Kc],?_,?_⟩
  .refine⟨_,U,_,U,_,U,_,U,_,U,a,O,T,c7,R,xs,v,G,[],[],S,J,0,U,d0,g9,s7.seq hS,c6 _ _ Ba,y9.same c6,hg,f4,a3,c6 _ _ CF,a6,CI,ax.nil,yY _,(λb hb=>by cases hb),λt I nm ou zs dv B s' hT c3 c0 c2 b6 _ _ _ _ Bc hok a7=>?_⟩;exact⟨s',t,I,j6 (rl:=c7) (rx:=[]) U (yY _) (λb hb=>by cases hb) hT c3 c0 c2 b6 Bc hok a7,U⟩
  rintro q3 H8 ⟨t8,k8,FN,o3,rfl⟩;have s8:=s7.trans t8;have a9:=c6.trans t8;have FO:=a9 _ _ Ba;have FP:=y9.same a9;have CJ:=a9 _ _ CF;have g0:=(t6.trans t7).trans t8;have FQ:=g0 _ _ o5;have FR:ax sx (PS.map (dC v)) (λr cs=>H8 r=Kb (.lst (cs.map V.int))):=ax.mono m1 λ_ _ e=>g0 _ _ e
  have FT:=a9 _ _ d3;have FU:PtL NT H8 L PS:=ax.mono b5 λ_ _ ⟨z,e⟩=>⟨z,a9 _ _ e⟩
  have FV:=(t7.trans t8) _ _ FK;have FW:ax g8 (PS.map (vdp [] J G)) (Vd K H8):=ax.mono FL λ_ _ h=>h.mono (t7.trans t8).tups
  have FX:=t8 _ _ CI;have l2:nV K H8:=λz e=>(dI.new (i2 z e)).same s8
  have k7:nX K H8:=λz e=>(dI.new (i1 z e)).same s8
  refine⟨λC B=>So H8 B/\∃(rl tb nl:GD)(rx nx:List V)(bms:List (List Int×Int))(c9 X:Option V),B rl=Kb (.lst rx)/\BRL B rx bms/\rx.length<=30/\pX v G bms/\B nl=Kb (.lst nx)/\ax nx (PS.map (vdp bms J G)) (Vd K B)/\C=[Kb (.ref a),Kb (.ref O),Kb (.ref T),Kb (.str S),Kb (.ref ql),Kb (.ref sl),Kb (.ref nl),Kb (.ref rl),Kb (.ref tb),c9,X,Kc],?_,?_⟩
  .refine⟨_,U,a,R,U,s8.seq hS,h63,λml ms H9 t9 k0 Gw=>?_⟩;have u3:(ms.map V.int).length=ms.length:=bx _;refine⟨ml,U,⟨_,SqL.of k0⟩,bJ (xs:=ms.map V.int) (λi σ B=>So H9 B/\nV K B/\nX K B/\∃(rl tb nl:GD)(rx nx:List V)(bms:List (List Int×Int))(I:List Rw)(c9 X:Option V),B rl=Kb (.lst rx)/\BRL B rx bms/\rx.length<=i/\pX v G bms/\mQ Y.k Y.i Y.j B tb R v G I bms J kk/\B nl=Kb (.lst nx)/\ax nx (PS.map (vdp bms J G)) (Vd K B)/\σ=[Kb (.ref a),Kb (.ref O),Kb (.ref T),Kb (.str S),Kb (.ref ql),Kb (.ref sl),Kb (.ref nl),Kb (.ref rl),Kb (.ref tb),c9,X,Kc]) ⟨(λd o _ e=>e),l2.same t9,k7.same t9,c7,k8,d7,[],g8,[],FN,Kc,Kc,t9 _ _ FX,ax.nil,yY _,(λb hb=>by cases hb),o3.so (So.of t9),t9 _ _ FV,(ax.mono FW λ_ _ h=>h.mono t9.tups),U⟩ (λi σ B _ h=>SqL.of (h.1.lst k0)) (λi y σ B e h=>?_) (λσ B h=>?_)⟩
   .obtain⟨so,rt,vt,rl,tb,nl,rx,nx,bms,I,c9,X,a4,M,i8,hok,hT,c5,c1,rfl⟩:=h;obtain⟨c,rfl⟩:=tj e;have hi:i<(ms.map V.int).length:=(Gz.mp e).1;have b1:=(So.of t9).trans so;have Bd:=b1.lst FO;have xX:PTL B xs v:=ax.mono FP λ_ _ e=>b1.lst e
    have Be:=b1.lst CJ;have m2:rx.length=bms.length:=M.1;refine⟨λC Hx=>ar B Hx/\∃(r2:GD)(W:List V)(nh:List (List Int×Int)),Hx r2=Kb (.lst W)/\BRL Hx W nh/\W.length<=i+1/\pX v G nh/\C=[Kb (.ref a),Kb (.ref O),Kb (.ref T),Kb (.str S),Kb (.ref ql),Kb (.ref sl),Kb (.ref nl),Kb (.ref r2),Kb (.ref tb),Kb (.int c),X,Kc],?_,?_⟩
    .refine⟨_,U,_,_,U,U,(by show(0:Int)<2;decide),U,_,U,?_⟩;refine bq (λ_=>?_) (λ_=>?_)
     .refine⟨_,U,_,U,_,_,U,U,⟨by decide,by decide⟩,_,U,_,U,_,O,T,xs,v,G,_,U,Bd,xX,a3,hg.pts,Be,a6,λr q0 mm cd H3 u1 nr nb er eb m7 m6 o1=>⟨(by show 1<=GH;decide),λp2 m4=>?_⟩⟩;have v2:=af m4 (.lst [.ref r]);have f2:upd H3 p2 (.lst [.ref r]) p2=Kb (.lst [.ref r]):=ab;have u2:=u1.trans v2;have a5:=v2 _ _ er;have k1:=v2 _ _ eb;generalize upd H3 p2 (.lst [.ref r])=G2 at v2 f2 u2 a5 k1⊢;refine⟨rl,p2,_,_,U,U,u2 _ _ a4,f2,zf (az (by rw[hQ];lia)),λp3 f3=>?_⟩;have v3:=af f3 (.lst (rx++[.ref r]));refine⟨u2.trans v3,p3,_,bms++[(mm,cd)],ab,ax.snoc (M.same (u2.trans v3)) ⟨q0,v3 _ _ a5,v3 _ _ k1⟩,by rw[cK,hQ];lia,λb hb=>?_,U⟩;rcases gg.mp hb with hb|hb
      .exact hok b hb
      .rw[hZ.mp hb];exact⟨m7,o1,m6⟩
     .exact⟨_,U,_,U,_,_,U,U,⟨by decide,by decide⟩,_,U,_,U,rl,O,T,_,rx,bms,xs,v,G,_,U,a4,M,by lia,hok,Bd,xX,hg.pts,f4,a3,Be,a6,λr2 W nh Hx u a5 b4 j2 xY=>⟨u,r2,W,nh,a5,b4,by lia,xY,U⟩⟩
    rintro k6 Ha ⟨ua,r2,W,nh,a5,b4,j2,xY,rfl⟩;have FY:W.length=nh.length:=b4.1;refine⟨λC Hx=>ar Ha Hx/\∃(t2:GD)(za:List Rw),mQ Y.k Y.i Y.j Hx t2 R v G za nh J kk/\C=[Kb (.ref a),Kb (.ref O),Kb (.ref T),Kb (.str S),Kb (.ref ql),Kb (.ref sl),Kb (.ref nl),Kb (.ref r2),Kb (.ref tb),Kb (.int c),Kb (.ref t2),Kc],?_,?_⟩
    .refine⟨_,U,_,U,_,U,_,U,_,U,_,U,_,_,U,U,(by show(0:Int)<16;decide),a,O,T,r2,R,xs,v,G,W,nh,S,J,_,U,d0,g9,?_,ua _ _ Bd,xX.same ua,hg,f4,a3,ua _ _ Be,a6,a5,b4,by lia,xY,λt dN nm ou zs dv Hx s' hT c3 c0 c2 b6 _ _ _ _ Bc Bb a7=>⟨s',t,dN,j6 (rl:=r2) FY (by lia) xY hT c3 c0 c2 b6 Bc Bb a7,U⟩⟩;exact ua.seq (So.seq b1 (s8.seq hS))
    rintro k5 Hb ⟨ub,t2,za,c4,rfl⟩;have a0:=ua.trans ub;have o2:=hT.so (So.of a0);have j9:=mQ.two (K:=K) o2 c4 hg.pts a3 b3;obtain⟨bs,f5⟩:∃bs,bs=v.map λps=>(loP ps,hiP ps):=⟨_,U⟩
    rw[←f5]at j9;have FZ:=b1.trans (So.of a0);refine⟨λC Hx=>So Hb Hx/\nV K Hx/\nX K Hx/\∃(n2:GD)(c8:List V),Hx n2=Kb (.lst c8)/\ax c8 (PS.map (vdp nh J G)) (Vd K Hx)/\C=[Kb (.ref a),Kb (.ref O),Kb (.ref T),Kb (.str S),Kb (.ref ql),Kb (.ref sl),Kb (.ref n2),Kb (.ref r2),Kb (.ref tb),Kb (.int c),Kb (.ref t2),Kc],?_,?_⟩
    .refine⟨_,U,_,U,tb,t2,bs,I,za,J,J,_,hX v,U,j9,rt.same a0,vt.same a0,λfo fx PF Hc n9 Gx Bf Bg F0 hD hC=>?_⟩;have CK:=FZ.trans n9;refine⟨_,U,_,U,fo,sl,nl,fx,eJ (bxs bs.length PF),sx,PS.map (dC v),nx,PS.map (vdp bms J G),PS.map (vdp nh J G),U,F0,hC,yW (lI _ _) hD.few,CK.lst FQ,(ax.mono FR λ_ _ e=>CK.lst e),n9.lst (a0 _ _ c5),(ax.mono c1 λ_ _ h=>(h.mono a0.tups).mono n9.tups),by rw[bx,bx],by rw[bx,bx],by rw[bx];exact f3,?_,?_,λl mx Hd ud el m5=>⟨n9.trans (So.of ud),Bf.same ud,Bg.same ud,l,mx,el,m5,U⟩⟩
     .intro q_ hq cs n6;obtain⟨p,hp,rfl⟩:=en.mp n6;obtain⟨j,ej⟩:=jC hp;have hl:=(xx hD.sh q_ (jO.mp hq).1).1.len;rw[f5,bx]at hl;rw[pW (vD ej)];exact⟨hl,by lia⟩
     .intro k cs x y e1 e2 e3;rw[gI]at e1 e2 e3;obtain⟨p,ep,rfl⟩:=Option.map_eq_some_iff.mp e1;rw[ep]at e2 e3;cases e2;cases e3;exact A2 hg.pts f5 hD hT.n hT.gr hT.b c4.n c4.gr c4.b (jh ep)
    rintro k4 Hc ⟨n9,Bf,Bg,n2,c8,p6,F1,rfl⟩;refine⟨_,U,U,_,U,bq (λg=>Kk (Kn g) (by intro z;cases z)) (λ_=>?_)⟩;refine⟨_,U,(so.trans (So.of a0)).trans n9,Bf,Bg,r2,t2,n2,W,c8,nh,za,_,_,n9.lst (ub _ _ a5),?_,j2,xY,c4.so n9,p6,F1,U⟩;exact ax.mono (b4.same ub) λ_ _ ⟨bl,e,f⟩=>⟨bl,n9.tp e,n9.lst f⟩
   .obtain⟨so,rt,vt,rl,tb,nl,rx,nx,bms,I,c9,X,a4,M,i8,hok,hT,c5,c1,rfl⟩:=h;exact⟨(So.of t9).trans so,rl,tb,nl,rx,nx,bms,c9,X,a4,M,by lia,hok,c5,c1,U⟩
  rintro q2 H9 ⟨d5,rl,tb,nl,rx,nx,bms,c9,X,a4,M,i8,hok,c5,c1,rfl⟩;have m2:rx.length=bms.length:=M.1;have CM:=d5.lst FT;have F4:PtL NT H9 L PS:=ax.mono FU λ_ _ ⟨z,e⟩=>⟨z,d5.lst e⟩
  have F5:=d5.lst CJ;refine⟨_,U,ql,_,U,.inl (SqL.of CM),_,U,(by show -(2^62)<=((L.length:Nat):Int);lia),(by show((L.length:Nat):Int)<2^62;lia),cc (λi σ B=>ar H9 B/\∃f8:Option V,σ=[Kb (.ref a),Kb (.ref O),Kb (.ref T),Kb (.str S),Kb (.ref ql),Kb (.ref sl),Kb (.ref nl),Kb (.ref rl),Kb (.ref tb),c9,X,f8]) ⟨ar.refl _,_,U⟩ (λi σ B hi h=>?_) (λσ B h=>?_)⟩
  .obtain⟨sm,f8,rfl⟩:=h;have n4:i<PS.length:=by lia
   have ep:=Gy n4;generalize PS[i]=p at ep;obtain⟨al,p7,_,d2⟩:=F4.2 i p ep;obtain⟨ra,o8,m3⟩:=c1.2 i (vdp bms J G p) (by rw[gI,ep];rfl);have a1:atI L (0+(i:Int))=Kb (.ref al):=by rw[Dv];exact aS p7
   have a2:atI nx (0+(i:Int))=Kb (.ref ra):=by rw[Dv];exact aS o8
   have lp:=vD ep;refine⟨_,U,_,U,nl,_,_,_,U,U,SqL.of (sm _ _ c5),a2,_,U,_,U,_,U,ql,_,_,_,U,U,SqL.of (sm _ _ CM),a1,rl,al,rx,bms,p,U,sm _ _ a4,M.same sm,by lia,sm _ _ d2,by lia,(λb hb=>⟨by rw[lp];exact(hok b hb).1,(hok b hb).2.2⟩),λfl H3 s3 t0 f7=>?_⟩;have n5:=xI bms p;have j7:=yN (bms:=bms) (at_:=p);have CN:vdp bms J G p=ver (wf J (o0 G) (o4 G)) (cdF bms (rg bms p)):=rfl;generalize rg bms p=fit at f7 n5 j7 CN;have g3:=sm.trans s3;have l3:∀k,k<bms.length->∃ra bl,rx[k]?=Kb (.ref ra)/\H9 ra=Kb (.tup [.ref bl,.int (bms.getD k ([],0)).2]):=λk hk=>by
    obtain⟨ra,e1,bl,e2,_⟩:=M.2 k _ (Gy hk);refine⟨ra,bl,e1,?_⟩;rw[e2,dF,Gy hk];rfl
   refine⟨fl,U,⟨_,SqL.of f7⟩,dq (xs:=vN fit) (λE a ws B=>ar H3 B/\B E=Kb (.lst ws)/\ws=(cdF bms (fit.take a)).map V.int) (λE hE=>⟨af hE _,ab,U⟩) (λE a ws B hE _ h=>SqL.of (h.1 _ _ f7)) (λE a y ws H4 hE e h=>?_) (λE ws H4 hE h=>?_)⟩
   .obtain⟨g1,eE,rfl⟩:=h;obtain⟨k,rfl,ek⟩:=Cg e;have ha:a<(vN fit).length:=(Gz.mp e).1;obtain⟨ra,bl,x1,x2⟩:=l3 k (j7 k (GB ek));have sY:=g3.trans g1;refine⟨_,U,_,U,rl,_,_,_,U,U,SqL.of (sY _ _ a4),aS x1,ra,_,_,_,U,U,SqT.of (sY _ _ x2),U,cB.mk ha eE (az (by rw[bx];unfold cdF;rw[bx,ik];lia)) ⟨g1.upd hE,ab,?_⟩⟩;rw[take_snoc ek];unfold cdF;rw[iv,iv];rfl
   obtain⟨l1,eE,rfl⟩:=h;rw[eA,ip]at eE;have n7:(cdF bms fit).length<=60:=by unfold cdF;rw[bx];lia
   have g2:=g3.trans l1;refine⟨_,U,_,U,E,T,S,J,cdF bms fit,G,_,U,eE,n7,d0,g2 _ _ F5,a6,λrt v1 k9 e5=>?_⟩;rw[←CN]at e5;have g4:=g2.trans k9;refine uA (m3.mono g4.tups).sq (SqT.of e5) ⟨_,U,bq (λg=>Kk U (Kn g)) (λ_=>⟨g4,_,U⟩)⟩
  .obtain⟨sm,f8,rfl⟩:=h;exact q _
end
structure FF(K:W.Frag)(Y:AD):Prop where
 (h0:GF K "all_among" "all_among" Y32)
 (h1:GF K "is_word" "is_word" Y48)
 (h2:GF K "is_whole" "is_whole" Y47)
 (h3:GF K "alike" "alike" Y31)
 (h4:GF K "holds" "holds" Y46)
 (h5:GF K "edges" "edges" Y42)
 (h6:GF K "stretches" "stretches" Y81)
 (h7:GF K "grain" "grain" Y45)
 (h8:GF K "cut_columns" "cut_columns" Y40)
 (h9:GF K "built" "built" Y35)
 (h10:GF K "layered" "layered" Y69)
 (h11:GF K "closed" "closed" Y38)
 (h12:GF K "mapped" "mapped" Y70)
 (h13:GF K "paired" "paired" Y73)
 (h14:GF K "boxes" "boxes" Y33)
 (h15:GF K "gathered" "gathered" Y44)
 (h16:GF K "way_by" "way_by" Y85)
 (h17:GF K "refuse_names" "refuse_names" Y75)
 (h18:GF K "refuse_counts" "refuse_counts" Y74)
 (h19:GF K "refuse_way" "refuse_way" Y79)
 (h20:GF K "refuse_row" "refuse_row" Y76)
 (h21:GF K "own_row" "own_row" Y72)
 (h22:GF K "fits" "fits" Y43)
 (h23:GF K "mask" "mask" Y71)
 (h24:GF K "judged" "judged" Y49)
 (h25:GF K "table_bounds" "table_bounds" Y82)
 (h26:GF K "table_marks" "table_marks" Y83)
 (h27:GF K "column_marks" "column_marks" Y39)
 (h30:GF K "boxes_with_leaf" "boxes_with_leaf" Y34)
 (h31:GF K "changes" "changes" Y37)
 (h32:GF K "changed_boxes" "changed_boxes" Y36)
 (h33:GF K "differing_pair" "differing_pair" Y41)
 (h34:GF K "refuse_unlike" "refuse_unlike" Y77)
 (h35:GF K "refuse_unlike_domains" "refuse_unlike_domains" Y78)
 (h36:GF K "_law_cell" "_law_cell" Y51)
 (h37:GF K "_law_points" "_law_points" Y61)
 (h38:GF K "_law_grid_points" "_law_grid_points" Y55)
 (h39:GF K "_law_word" "_law_word" Y68)
 (h40:GF K "_law_domain" "_law_domain" Y52)
 (h41:GF K "_law_outs" "_law_outs" Y59)
 (h42:GF K "_law_outcome" "_law_outcome" Y58)
 (h43:GF K "_law_way" "_law_way" Y66)
 (h44:GF K "_law_row" "_law_row" Y63)
 (h45:GF K "_law_spans" "_law_spans" Y64)
 (h46:GF K "_law_table" "_law_table" Y65)
 (h47:GF K "_law_other" "_law_other" Y57)
 (h48:GF K "_law_places" "_law_places" Y60)
 (h49:GF K "_law_fitting" "_law_fitting" Y54)
 (h50:GF K "_law_due" "_law_due" Y53)
 (h51:GF K "_law_numbers" "_law_numbers" Y56)
 (h52:GF K "_law_within" "_law_within" Y67)
 (h53:GF K "_law_put" "_law_put" Y62)
 (h85:GF K "law" "law" Y50)
 (m67:MF K Y.i "has_code" "Domain.has_code" Y2)
 (m68:MF K Y.j "has_code" "Domain.has_code" Y3)
 (m73:MF K Y.b "verdict" "Way.verdict" Y24)
 (m74:MF K Y.b "chosen" "First.chosen" Y5)
 (m75:MF K Y.c "verdict" "Way.verdict" Y28)
 (m76:MF K Y.c "chosen" "Only.chosen" Y14)
 (m77:MF K Y.d "verdict" "Way.verdict" Y26)
 (m78:MF K Y.d "chosen" "Like.chosen" Y9)
 (m79:MF K Y.e "verdict" "Way.verdict" Y27)
 (m80:MF K Y.e "chosen" "Low.chosen" Y11)
 (m81:MF K Y.f "verdict" "Way.verdict" Y25)
 (m82:MF K Y.f "chosen" "High.chosen" Y7)
 (m83:MF K Y.g "verdict" "Way.verdict" Y29)
 (m84:MF K Y.g "chosen" "Sum.chosen" Y16)
 (k54:KF K Y.k "Table" "Table.__init__" Y17)
 (k55:KF K Y.b "First" "First.__init__" Y4)
 (k57:KF K Y.c "Only" "Only.__init__" Y13)
 (k59:KF K Y.d "Like" "Like.__init__" Y8)
 (k61:KF K Y.e "Low" "Low.__init__" Y10)
 (k63:KF K Y.f "High" "High.__init__" Y6)
 (k65:KF K Y.g "Sum" "Sum.__init__" Y15)
 (k69:KF K Y.i "Numbers" "Numbers.__init__" Y12)
 (k71:KF K Y.j "Words" "Words.__init__" Y30)
 (b56:BF K Y.a "Way" "__init__" "Way.__init__" Y18)
 (b58:BF K Y.a "Way" "__init__" "Way.__init__" Y22)
 (b60:BF K Y.a "Way" "__init__" "Way.__init__" Y20)
 (b62:BF K Y.a "Way" "__init__" "Way.__init__" Y21)
 (b64:BF K Y.a "Way" "__init__" "Way.__init__" Y19)
 (b66:BF K Y.a "Way" "__init__" "Way.__init__" Y23)
 (b70:BF K Y.h "Domain" "__init__" "Domain.__init__" Y0)
 (b72:BF K Y.h "Domain" "__init__" "Domain.__init__" Y1)
 (t28:TFn K "row_form" s_row_form)
 (t29:TFn K "verdict_form" s_verdict_form)
 (z0:W.nsIn K GK "len" = Kb Kc)
 (z1:W.nsIn K GK "isinstance" = Kb Kc)
 (z2:W.nsIn K GK "int" = Kb Kc)
 (z3:W.nsIn K GK "bool" = Kb Kc)
 (z4:W.nsIn K GK "sorted" = Kb Kc)
 (z5:W.nsIn K GK "list" = Kb Kc)
 (z6:W.nsIn K GK "set" = Kb Kc)
 (z7:W.nsIn K GK "zip" = Kb Kc)
 (z8:W.nsIn K GK "tuple" = Kb Kc)
 (z9:W.nsIn K GK "min" = Kb Kc)
 (z10:W.nsIn K GK "sum" = Kb Kc)
 (z11:W.nsIn K GK "range" = Kb Kc)
 (z12:W.nsIn K GK "enumerate" = Kb Kc)
 (z13:W.nsIn K GK "reversed" = Kb Kc)
 (z14:W.nsIn K GK "max" = Kb Kc)
 (y0:∃u,W.nsIn K GK "MOST_SIGNS" = Kb (Kb u)/\RelV (V.int 12) u)
 (y1:∃u,W.nsIn K GK "SMALL_LETTERS" = Kb (Kb u)/\RelV (V.str "abcdefghijklmnopqrstuvwxyz") u)
 (y2:∃u,W.nsIn K GK "MOST_GRAIN" = Kb (Kb u)/\RelV (V.int 300) u)
 (y3:∃u,W.nsIn K GK "MOST_ROWS" = Kb (Kb u)/\RelV (V.int 200) u)
 (y4:∃u,W.nsIn K GK "MOST_COLUMNS" = Kb (Kb u)/\RelV (V.int 4) u)
 (y5:∃u,W.nsIn K GK "NOTHING" = Kb (Kb u)/\RelV (V.int 0) u)
 (y6:∃u,W.nsIn K GK "MOST_WORDS" = Kb (Kb u)/\RelV (V.int 40) u)
local macro_rules|`(tactic|trivial)=>`(tactic|exact λF=>F.binds λ_ _ _ _ _ _=>by first|exact L2.lb0 rfl|exact L2.lb1 λ_=>U|exact L2.lb2 λ_ _=>U|exact L2.lb3 λ_ _ _=>U|exact L2.lb4 λ_ _ _ _=>U|exact L2.lb5 λ_ _ _ _ _=>U|exact L2.lb6 λ_ _ _ _ _ _=>U|exact L2.lb7 λ_ _ _ _ _ _ _=>U|exact L2.lb8 λ_ _ _ _ _ _ _ _=>U|exact L2.lb9 λ_ _ _ _ _ _ _ _ _=>U)
theorem all_mk{l:W.OpenLaw}{w:Gn}{K:W.Frag}{h:GG}{f:Str->Option Gf}{E:GD}{Y:AD}(X:K.In h)(G:h.Ns GK f)(m:f "law" = Kb (.ref E)) (b:Bk K Y)(u:FF K Y)
  : ∃g:HM,(∀(s:GP)(v:Gf),HN s g ⟨[v],[]⟩ [("script",v)])/\∀d:GG,K.In d->d.Ns GK f->(∀q∈(W.tabIn K "row_form").toList++(W.tabIn K "verdict_form").toList,W.CodeHd d q.1 q.2/\d.BuiltinsAt f q.2)->aK l.prog w K f d CX0 20 E g ["script"] (J18 K):=by
 cases u.h85 with | @mk _ g a F =>
 cases m.symm.trans (W.mg_of X G a);have bl:Bl K f Y:=⟨b,W.mg_of X G b.n_Way,W.mg_of X G b.n_First,W.mg_of X G b.n_Only,W.mg_of X G b.n_Like,W.mg_of X G b.n_Low,W.mg_of X G b.n_High,W.mg_of X G b.n_Sum,W.mg_of X G b.n_Domain,W.mg_of X G b.n_Numbers,W.mg_of X G b.n_Words,W.mg_of X G b.n_Table,W.mg_of X G b.n_NONE,W.mg_of X G b.n_CLASH,W.mg_none_of X G u.z0,W.mg_none_of X G u.z1,W.mg_none_of X G u.z2,W.mg_none_of X G u.z3,W.mg_none_of X G u.z4,W.mg_none_of X G u.z5,W.mg_none_of X G u.z6,W.mg_none_of X G u.z7,W.mg_none_of X G u.z8,W.mg_none_of X G u.z9,W.mg_none_of X G u.z10,W.mg_none_of X G u.z11,W.mg_none_of X G u.z12,W.mg_none_of X G u.z13,W.mg_none_of X G u.z14,(let ⟨_,y,x⟩:=u.y0;⟨_,W.mg_of X G y,x⟩),(let ⟨_,y,x⟩:=u.y1;⟨_,W.mg_of X G y,x⟩),(let ⟨_,y,x⟩:=u.y2;⟨_,W.mg_of X G y,x⟩),(let ⟨_,y,x⟩:=u.y3;⟨_,W.mg_of X G y,x⟩),(let ⟨_,y,x⟩:=u.y4;⟨_,W.mg_of X G y,x⟩),(let ⟨_,y,x⟩:=u.y5;⟨_,W.mg_of X G y,x⟩),(let ⟨_,y,x⟩:=u.y6;⟨_,W.mg_of X G y,x⟩)⟩;refine⟨g,λs v=>by obtain⟨_,_,_,_,_,_,_,_,_,e,_,_⟩:=F.ex;rw[e];exact .of_eq U,λd _ _ D=>?_⟩;have z:Zb l.prog w K f d:=⟨X,G⟩;have rz:=mkC z u.h0 λF=>DO F bl
 have B:=mkC z u.h2 λF=>DP F bl
 have P:=mkC z u.h3 λF=>DQ F bl
 have O:=mkC z u.h4 λF=>DR F bl
 have N:=mkC z u.h5 λF=>DS F bl
 have rA:=mkC z u.h6 λF=>DT F bl
 have i:=mkC z u.h11 λF=>DV F bl
 have tQ:=mkC z u.h15 λF=>DW F bl
 have lj:=mkC z u.h18 λF=>DX F bl
 have vI:=mkC z u.h21 λF=>DY F bl
 have nu:=mkC z u.h25 λF=>DZ F bl
 have kH:=mkC z u.h33 λF=>D1 F bl
 have k:=mkC z u.h36 λF=>D3 F bl
 have qc:=mkC z u.h37 λF=>D4 F bl
 have j:=mkC z u.h39 λF=>D7 F bl
 have tR:=mkC z u.h41 λF=>D8 F bl
 have vJ:=mkC z u.h43 λF=>Ea F bl
 have A:=mkC z u.h44 λF=>Eb F bl
 have rB:=mkC z u.h45 λF=>Ed F bl
 have qd:=mkC z u.h48 λF=>Ee F bl
 have og:=mkC z u.h49 λF=>Eg F bl
 have Z:=mkC z u.h50 λF=>Eh F bl
 have oh:=mkC z u.h51 λF=>Ei F bl
 have qe:=mkC z u.h52 λF=>Ej F bl
 have iu:=mkB z u.b56 λF=>Ek F bl
 have iR:=mkB z u.b58 λF=>El F bl
 have iS:=mkB z u.b60 λF=>Em F bl
 have jD:=mkB z u.b62 λF=>En F bl
 have iT:=mkB z u.b64 λF=>Eo F bl
 have jE:=mkB z u.b66 λF=>Ep F bl
 have fh:=mkB z u.b70 λF=>O_0 F bl
 have gh:=mkB z u.b72 λF=>O_1 F bl
 have iw:=mkM z u.m74 λF=>O_5 F bl
 have jF:=mkM z u.m76 λF=>Er F bl
 have jG:=mkM z u.m78 λF=>O_9 F bl
 have kI:=mkM z u.m80 λF=>Es F bl
 have jH:=mkM z u.m82 λF=>O_7 F bl
 have kJ:=mkM z u.m84 λF=>Et F bl
 have t:=mkC z u.h1 λF=>Eu F bl rz.up
 have C:=mkC z u.h8 λF=>Ew F bl rA.up
 have Bh:=mkC z u.h22 λF=>Ey F bl O.up
 have nv:=mkC z u.h27 λF=>Ez F bl tQ.up N.up
 have gi:=mkC z u.h35 λF=>EA F bl P.up
 have kf:=mkC z u.h38 λF=>EB F bl k.up qc.up
 have rC:=mkC z u.h47 λF=>EC F bl A.up
 have V:=mkC z u.h53 λF=>EI F bl qe.up
 have gG:=mkK z u.k55 λF=>O_4 F bl iu.up
 have iz:=mkK z u.k57 λF=>EL F bl iR.up
 have iA:=mkK z u.k59 λF=>O_8 F bl iS.up
 have jI:=mkK z u.k61 λF=>EM F bl jD.up
 have iB:=mkK z u.k63 λF=>O_6 F bl iT.up
 have jJ:=mkK z u.k65 λF=>EN F bl jE.up
 have fi:=mkM z u.m67 λF=>O_2 F bl B.up
 have gj:=mkM z u.m68 λF=>O_3 F bl B.up
 have I:=mkK z u.k69 λF=>EO F bl fh.up
 have iU:=mkM z u.m73 λF=>ER F bl iw.up
 have jK:=mkM z u.m75 λF=>ES F bl jF.up
 have jL:=mkM z u.m77 λF=>ET F bl jG.up
 have kg:=mkM z u.m79 λF=>EU F bl kI.up
 have jM:=mkM z u.m81 λF=>EV F bl jH.up
 have kh:=mkM z u.m83 λF=>EW F bl kJ.up
 have M:=mkC z u.h7 λF=>EY F bl C.up
 have ny:=mkC z u.h17 λF=>EZ F bl t.up
 have qf:=mkC z u.h20 λF=>E1 F bl fi.up gj.up
 have o:=mkC z u.h23 λF=>E2 F bl Bh.up
 have oi:=mkC z u.h26 λF=>E3 F bl nv.up
 have lr:=mkC z u.h34 λF=>E4 F bl gi.up
 have H:=mkK z u.k71 λF=>E5 F bl gh.up t.up
 have r:=mkC z u.h16 λF=>E6 F bl gG.up iz.up iA.up jI.up iB.up jJ.up
 have qg:=mkC z u.h19 λF=>E7 F bl r.up
 have p:=mkC z u.h24 λF=>E8 F bl iU.up jK.up jL.up kg.up jM.up kh.up r.up
 have qh:=mkC z u.h40 λF=>E9 F bl I.up H.up j.up
 have oj:=mkC z u.h42 λF=>Fb F bl I.up H.up j.up
 have gH:=mkK z u.k54 λF=>Fc F bl ny.up lj.up qg.up qf.up vI.up
 have L:=mkR z u.h14 0 7 xU λn F c=>Fd F bl c
 have ki:=mkC z u.h30 λF=>Fe F bl L.up
 have rF:=mkC z u.h46 λF=>Ff F bl k.up gH.up qh.up j.up oj.up rB.up
 have T:=mkR z u.h10 8 7 tJ λn F c=>Fn F bl (i.mono (by lia)) c (by lia)
 have R:=mkR z u.h12 8 7 vE λn F c=>Fo F bl (i.mono (by lia)) c (by lia)
 have Q:=mkR z u.h13 8 7 vF λn F c=>Fp F bl (i.mono (by lia)) c (by lia)
 have J:=mkC z u.h9 λF=>Ft F bl T.up M.up C.up
 have lu:=mkC z u.h32 λF=>Fv F bl Q.up kH.up ki.up
 have tS:=mkT z u.t28 (λq h=>D q (by simp only[gg];simp[h])) λF h1 h2 h3=>Fw F bl J.up nu.up oi.up o.up h1 h2 h3 o.up
 have nA:=mkT z u.t29 (λq h=>D q (by simp only[gg];simp[h])) λF h1 h2 h3=>Fz F bl R.up tS.up p.up h1 h2 h3 p.up
 have S:=mkC z u.h31 λF=>FD F bl lr.up lu.up nA.up
 exact FE F bl kf.up tR.up vJ.up qd.up rF.up oh.up k.up V.up rC.up S.up Z.up A.up og.up
theorem walk{l:W.OpenLaw}{q:GC}{c:List Str}{XP:(Str->Option Gf)->GG->Prop}{y:Gn->GG->Prop}{d:DefRec}{K:Io->W.Frag}(B:l.most=Kb 63)(m:d.params.defaults=[])
  (D:∀(w:Gn)(h:GG),y w h->(K w.params).In h)(j:∀p:Io,W.noTabs (K p)=Kd)(i:∃d',(PyProof.Rows.recsOf q).find? (λe=>e.name == ("row_form" : Str))=Kb d') (G:∃d',(PyProof.Rows.recsOf q).find? (λe=>e.name == ("verdict_form" : Str))=Kb d')
  (F:∀(w:Gn)(g:Str->Option Gf)(v:GD)(h:GG),(K w.params).In h->h.Ns GK g->g d.name=Kb (.ref v) ->
   ∃r:HM,(∀(s:GP)(u:Gf),HN s r ⟨[u],[]⟩ [("script",u)])/\∀b:GG,(K w.params).In b->b.Ns GK g->(∀q∈(W.tabIn (K w.params) "row_form").toList++(W.tabIn (K w.params) "verdict_form").toList,W.CodeHd b q.1 q.2/\b.BuiltinsAt g q.2)->aK l.prog w (K w.params) g b CX0 20 v r ["script"] (J18 (K w.params))) :
  W.WalkO q c XP y l.row.toRowW d [] (λf vs=>PySem.call f vs) :=
 L2.walk_ofT (n:=63) (k:=20) (x := "script") (CX:=λ_=>CX0) (sp:=λw=>J18 (K w.params)) (tabs:=λp=>(W.tabIn (K p) "row_form").toList++(W.tabIn (K p) "verdict_form").toList) (xs:=["row_form","verdict_form"]) B (by decide) m ⟨U,by decide,by decide⟩ D j (ij.mpr ⟨i,ij.mpr ⟨G,js _⟩⟩)
  (λp t h=>(gg.mp h).elim (λh=>⟨_,ff,uq h⟩) λh=>⟨_,(iO _ ff),uq h⟩) F
  (λw H a A C _ E o=>⟨a,A,U,E,C,λz e=>o z (gg.mpr (.inl (by rw[e];exact ff))),λz e=>o z (gg.mpr (.inr (by rw[e];exact ff))),λ_=>U⟩) λ_ _ _ _ _ z=>z
end My
set_option genSizeOf false in
set_option genInjectivity false in
structure PySem.W.Fast:Prop where (tw7967956083404978891 tw18411173729320343850 tw3236323051618607437 tw8049344333069110453 tw12639220252115074201 tw13371741953723789856 tw169442777132146962 tw14194070066773790199 tw6386127092189336199 tw8557678412073720889 tw15723828173745188250 tw15963037622625635647 tw8192952892556883293 tw4404888194702143767 tw7736562551013207700 tw6730534742092378936 tw17714777243154931734 tw532522013558858207 tw11589574983606429071 tw1180016284875598736 tw11423223940587304671 tw10961932673258418020 tw15292435763067903627 tw10551448946467113158 tw17138470908193983638 tw14267938376551894396 tw8843961622270680276 tw4500843042487505376 tw8777650548385768561 tw8288278591801903549 tw2708077316111377628 tw1698993170130167401 tw12875310631907129794 tw4744055043974125581 tw3894889948611466744 tw6967637090388924954 tw10329836025286337584 tw18005320401022675734 tw10406056872805083115 tw9583869348361312541 tw2471535259308789376 tw16133082123582287726 tw16363858104518317410 tw3916056737277541022 tw6071824620079580284 tw917086917416881885 tw300122594968019929 tw2294002202683730642 tw9676878510553401237 tw11004623003420709353 tw3430191861478371749 tw3620170885177152641 tw6213569151058946370 tw7195246669890425249 tw7105531370904692777 tw1595479105596127631 tw15998750624158654196 tw7621324961629211752 tw7822382030528683000 tw1324414796652516569 tw7101787060362082610 tw11325053245013107179 tw12894611322064194423 tw9197686045754037315 tw13267566248759692819 tw6060050710275825645 tw9132327117640348318 tw131377856706433388 tw7256297569299518858 tw7055138984043539012 tw14582504945318223509 tw17986301989169081690 tw5533662875444849631 tw3466413495535095633 tw14471626654888397567 tw175080418360126586 tw14445826031278803849 tw14320347439313212017 tw14905501187351671584 tw12839248581449937678 tw6064483750870065119 tw15810770376004963484 tw17596746195085647473 tw14307168052941451893 tw6348022390955478015 tw6188900118516626742 tw8429170786045186678 tw7339009223560996925 tw3846630993976924231 tw6315304591814010621 tw1357164587327593997 tw14923957949765289231 tw9503237539984598475 tw1245983238353997085 tw18182313754867366690 tw1840119854194546036 tw13255249304215638373 tw605175766916981369 tw13876681127155353303 tw6732030277552566043 tw10737725100579222652 tw15484661547251437093 tw15367193807183323964 tw14976944212739952222 tw7643680712081252960 tw1192684971808054510 tw12275506091219991955 tw16540028602815385205 tw3968193830495609639 tw6288521577259548304 tw3758117654219171008 tw13223857255496818625 tw4362389327522888145 tw10175601039545828239 tw17641906924432699222 tw4258675693041736306 tw15681258981322307507 tw10898498178238288603 tw11526477907398782214 tw274363974610248268 tw11580213475868944982 tw2641138863740693792 tw14162287761926774235 tw12838502568398095686 tw13358668734391663127 tw6507722684395803626 tw12740509384504996224 tw13499079860621842000 tw5501492504243294058 tw2667724736644179459 tw14047361104743095709 tw13563115214248924071 tw10501216322167557706 tw5121395691917723954 tw3700942195992876894 tw2569917397420921602 tw2818503444497386915 tw4475728457786471275 tw3230225697566434527 tw2857469998001051311 tw2120054965357293760 tw10843334587727595218 tw211111321768007595 tw2740071534157227021 tw2052121476668279628 tw13547126778066322040 tw10170216711358379044 tw7714764727264513753 tw9014938477327194211 tw4717443407372012131 tw11224505796554221352 tw12802342086310511263 tw14175634676722240208 tw10499346572697147708 tw7027490555886991701 tw7566895241618721391 tw139269389105935189 tw14915672398904487933 tw15412139736313820391 tw12152781078172615013 tw3355759500630453096 tw5921018423767170625 tw12208407934030261604 tw5051495321692514455 tw709102485492822000 tw5000011092869289154 tw17728334212819890588 tw4640898575497928116 tw16618363031100312940 tw8290177460169909846 tw8021164686441366742 tw419219790731307907 tw465745008133022199 tw11016119174795696236 tw14263354191615810880 tw5833340532233601196 tw8507983405106911778 tw17520010839507949945 tw13430672470395245248 tw18095832636226230155 tw6092763627073808355 tw2422289778272860930 tw13825083539851432866 tw15704342681577686008 tw2744772958873913641 tw6487867404236454369 tw11427351302833084355 tw14799174135075410523 tw5256780809909504529 tw2967683852926306940 tw17161533643486771569 tw10130335646074105796 tw4584659365633457793 tw10065234904404724596 tw17410004210343032906 tw3675751104235311953 tw6261356019213132726 tw1444674268920870179 tw11417410798793048570 tw1910184163905214678 tw16849382220021440826 tw3136645711307205651 tw6277975356122808357 tw2658702820529839367 tw4483870324575942143 tw3810897082435258724 tw2239020458772788166 tw7355237591413306714 tw475430194061971361 tw5089624743650573591 tw13033598075868621958 tw3767557901334494527 tw17641178634132294049 tw13171610468125330018 tw7707844798797728752 tw16323131231581566304 tw14329715708369702231 tw11755801260639000681 tw7095377912403172130 tw7352125164654252289 tw10203238274626479659 tw7187308908000149961 tw6034151615053239160 tw9554212003918983876 tw3105601007125049521 tw10942522170038942 tw1104362969863466047 tw16017247426331720316 tw16994763413650947488 tw6882380772961115149 tw13367379291921146838 tw8333400914750984927 tw15431403734090983062 tw245113383713334907 tw2188819493348837490 tw14317036870496948114 tw478242067488322329 tw5877694083525788701 tw17137230565548609186 tw11128301482881557383 tw7223658283730070080 tw6213670651069966040 tw15468942414128820901 tw4762718664471695680 tw10013492196640491127 tw10992828844950462383 tw16830464296090840 tw1400679351265732818 tw1456026032612799978 tw5126302009884507829 tw10256058903479875786 tw3862692481580302277 tw10462940706120554921 tw13956640230745117145 tw3080676774156094434 tw14745389470639562338 tw9576889093927643151 tw954942799215593209 tw149355911520037877 tw6796620781981745922 tw16348184799595183960 tw10098482421431129541 tw1707986757544423822 tw752450972530720709 tw14943500330086379189 tw1751231105969569858 tw15907176161366211394 tw9338809301362568240 tw7785153111100865506 tw1469435841569021946 tw590823675449126018 tw9670983254143662178 tw3482169592823034483 tw17277579585969171100 tw13393467925683810936 tw9439730715918367342 tw9044429993305061506 tw11785716075666531275 tw2628725451525132204 tw7976492887631038993 tw12223389381407856642 tw8939288213336445705 tw15340870260568263401 tw4214891145643100699 tw3575664700764818820 tw17158741274430073678 tw3132290357415327179 tw7786170567010674781 tw3130023919202909531 tw1616326533723336177 tw17112194889602792017 tw17486087629910663352 tw16767127937276093666 tw16197945245542924725 tw15477722356231321591 tw6133399555404943934 tw15529214932629147102 tw4537527748238838091 tw16251306934039146968 tw17541422315014515630 tw9193106586293517666 tw8878133385485629448 tw259251427515202960 tw15927282361163172805 tw13412715140042969963 tw4053076440709132548 tw7502254929546501586 tw12615237660862669864 tw17678202364521761725 tw8903898875021452647 tw846528946992642436 tw16531331184042957659 tw7599671967610370871 tw4728090491330082679 tw17802236515403218615 tw772827914019348825 tw14464356949036449415 tw14999370303086719028 tw14872714000161794846 tw872520588665420763 tw13514068832526270352 tw9213567163702757371 tw7758163954831285623 tw7417166880309838635 tw16721384568215160981 tw6776047658050260265 tw9088456708357178564 tw3556833339200712023 tw1402049946917952901 tw1003981937008877323 tw10068392420312725229 tw15227790439365388715 tw6815390373102670967 tw13997456419388822255 tw17852956932212663306 tw3382550525492073837 tw8041949882496883358 tw17202459824131396698 tw4803322970828130293 tw6250997033984040048 tw17160189988842288669 tw2095275049688809068 tw10764428500619172203 tw1888299250923851218 tw11787701038011143937 tw12490322853235670465 tw9209551031453465103 tw5434829628668764817 tw8780344734503872391 tw13492358604167681414 tw17727086514545725643 tw5759967416269029880 tw11958435705812924611 tw11538413751616209547 tw9210487962902399695 tw9217943863507525980 tw12511541894613613659 tw5227873576260027103 tw16771730306547194454 tw4709791274202610621 tw1060895947158622624 tw9020712810083785437 tw7429105749383821310 tw16649769122989570010 tw17948259297552274635 tw14071130515321996398 tw8721026404664596791 tw5389722244080557725 tw2422074301550970055 tw10725737849684544244 tw5327955884129322608 tw5680963591888507403 tw6384531896783269058 tw17862670227555508067 tw16302019411399325075 tw18282294738229542612 tw10704172705802810440 tw5876090681717797809 tw2775910776109334420 tw4786735980347425992 tw3297775773471843775 tw16342772852494302732 tw8858970984682821999 tw13745538325248765448 tw14352381824564038376 tw6845392182288497930 tw8443105374037323122 tw9349922976704184750 tw5951026370566748175 tw3686335754672340268 tw5081290891809660931 tw2186419778340327212 tw12271154538965893302 tw2299517014155002057 tw9219362342689250676 tw6804056806379213267 tw16541469637225716936 tw11637168615819780218 tw1571310290345333999 tw15842121984582873541 tw16326354418226872280 tw7358126088354214998 tw656807495363058932 tw5757783360493391876 tw9822894989280863597 tw7035367793628676762 tw2534171046270425686 tw6160109616813164837 tw17714238882396124015 tw4526342008226991411 tw13446564461817513682 tw13950589481906960288 tw16755174998405708007 tw255707509627800234 tw9015152631566193168 tw15390923226145734196 tw4903167306090927355 tw17814042773953852953 tw11796246356251916438 tw13004064396278983236 tw9578227457929240283 tw13121525485120927184:True)
open PySem PySem.W PyProof.Rows
set_option maxRecDepth 100000 in
set_option maxHeartbeats 0 in
theorem PySem.Challenge.cw_rowjudge_k48_whole_row_of_edits_holds : PySem.Challenge.rw_rowjudge_k48_whole_row_of_edits.Holds := by
 w_on;o_law;k_head;(case hw=>w_witness2)
 k_fill
 refine My.walk (l:=PySem.Challenge.rw_rowjudge_k48_whole_row_of_edits) rfl rfl (λw h Y=>PySem.W.km_in_of Y) ?hnK ?hxs ?Bi ?F
 case hnK=>intro p;first|rfl|decide+kernel|with_unfolding_all rfl
 case hxs=>exact⟨_,rfl⟩
 case Bi=>exact⟨_,rfl⟩
 case F =>
  intro w mg fa h KX G hmg;refine' My.all_mk (Y:=.mk ..) KX G hmg ?b ?u
  case b =>
   constructor
   all_goals try dsimp only
   iterate 13 (k_is)
   iterate 9 (constructor <;> first|k_is|rfl|with_unfolding_all rfl)
   iterate 9 (refine'⟨⟨?_,?_,?_,?_⟩,?_,?_,?_,?_⟩ <;> first|k_is|rfl|with_unfolding_all rfl)
   refine' L2.ModT.mk ?lk ?sz ?vs
   (case lk=>k_is)
   (case sz=>decide)
   (case vs=>exact(.cons ⟨_,rfl⟩ (.cons ⟨_,rfl⟩ .nil)))
   refine' L2.ModT.mk ?lk ?sz ?vs
   (case lk=>k_is)
   (case sz=>decide)
   (case vs=>exact(.cons ⟨_,rfl⟩ (.cons ⟨_,rfl⟩ .nil)))
   iterate 18 (delta L2.NoAttr;k_is)
   iterate 4 (first|k_is|rfl|with_unfolding_all rfl)
   refine' My.tab_ne (L2.tab_mk (qual := "row_form") (st:=My.s_row_form) ?a1 ?l1 ?c1 ?e1) (L2.tab_mk (qual := "verdict_form") (st:=My.s_verdict_form) ?a2 ?l2 ?c2 ?e2) ?ne
   (case a1|l1|c1=>k_is)
   (case e1=>rfl)
   (case a2|l2|c2=>k_is)
   (case e2=>rfl)
   (case ne=>first|decide|(intro h;cases h))
  case u =>
   constructor
   all_goals try dsimp only
   iterate 53 (refine' L2.GF.mk ?a1 (L2.fun_mk ?l ?c ?k);(case a1=>k_is);(case l=>k_is);(case c=>k_is);(case k=>k_is))
   iterate 14 (refine' L2.MF.mk ?a1 ?a2 (L2.fun_mk ?l ?c ?k);(case a1=>k_is);(case a2=>k_is);(case l=>k_is);(case c=>k_is);(case k=>k_is))
   iterate 9 (refine' L2.KF.mk ?a1 ?a2 ?a3 ?a4 ?a5 (L2.fun_mk ?l ?c ?k);(case a1=>k_is);(case a2=>k_is);(case a3=>k_is);(case a4=>k_is);(case a5=>k_is);(case l=>k_is);(case c=>k_is);(case k=>k_is))
   iterate 8 (refine' L2.BF.mk ?a1 ?a2 ?a3 ?a4 (L2.fun_mk ?l ?c ?k);(case a1=>k_is);(case a2=>k_is);(case a3=>k_is);(case a4=>k_is);(case l=>k_is);(case c=>k_is);(case k=>k_is))
   iterate 2 (refine' L2.tfn_mk ?l1 ?l2 ?l3 ?l4 ?l5 ?l6;(case l1=>k_is);(case l2=>k_is);(case l3=>k_is);(case l4=>k_is);(case l5=>k_is);(case l6=>rfl))
   iterate 15 (k_is)
   iterate 7 (refine' L2.gv_mk ?a1 ?a2;(case a1=>k_is);(case a2=>exact⟨_,rfl⟩))
