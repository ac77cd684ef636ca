import PyProof.Rows.All
import Wide.All
import OpenK.AllK
import Wide.FinOn
import Lean
import PyProof.EqAt
import PyProof.EqKinds
import PyProof.TupleCall
import KE.KIntText
import KE.KTryMore
import KE.KIsAll
import PyProof.ZipIter
import KE.KRevIter
import PyProof.AttrMissHeap
import KE.KDictOf
import PyProof.DictUpdate
import PyProof.DictList
import PyProof.FactsAll.str_7
import PyProof.MeetsStr3
import PySem.Challenge.RW_rowjudge_k77_books_read
open List renaming length_map→ck,mem_map→dn,mem_cons→dy,getElem?_map→dV,map_append→eg,mem_append→eA,size_toArray→eG,length_append→eH,take_length→eY,mem_cons_of_mem→fj,forall_mem_cons→fJ,length_take→fK,mem_append_right→gb,getElem?_append_left→gi,getElem?_append_right→gn,mem_append_left→gq,mem_cons_self→gs,map_cons→gy,nodup_cons→hE,map_map→hJ,forall_mem_nil→hQ,mem_singleton→hY,mem_range→ia,not_mem_nil→ib,length_cons→ig,getElem?_of_mem→ik,length_eq_zero_iff→iv,append_assoc→iD,all_eq_true→iF,range_succ→iG,length_singleton→iU,getElem?_eq_none→jf,append_nil→jV,length_replicate→jZ,foldl_cons→kA,ext_getElem?→kB,flatten_cons→kH,any_eq_true→kK,filterMap_cons→kW,getD_eq_getElem?_getD→lp,count_append→lq,length_zipWith→lu,getElem?_replicate→ly,length_range→lC,mem_of_mem_take→md,take_append_drop→mf,foldl_append→mh,length_drop→mu,all_cons→mX,any_cons→mY,append_inj→ng,nodup_nil→ny,lookup_cons→nC,filter_nil→nF,mem_filter→nL,any_eq_false→nS,nodup_append→nX,forIn_cons→nY,drop_eq_getElem_cons→ot,count_eq_zero→ox,take_of_length_le→oy,drop_zero→oz,getElem?_range→oA,getElem?_zipWith→oB,mem_filterMap→oD,getElem_mem→pa,map_congr_left→pb,drop_left→pf,take_left→qe,getElem?_drop→qg,mem_flatten→qi,filter_append→qo,length_filter_le→ri,of_mem_zip→sh,sum_cons→so,map_id→sL
open Nat renaming le_refl→sT,ne_of_lt→tj,le_trans→tm,lt_of_lt_of_le→tN,zero_le→uk,ne_of_gt→uK,lt_succ_of_lt→u0,le_succ→u3,lt_irrefl→vd,le_of_lt→ve,lt_succ_self→vi,le_add_right→vl,mul_le_mul_right→vr,lt_trans→vY,lt_or_ge→vZ,lt_of_le_of_lt→v3,lt_trichotomy→v5,le_of_not_lt→wa,min_self→wb,succ_mul→wc,sub_self→we
open Int renaming emod_nonneg→wg,emod_lt_of_pos→wh,toNat_natCast→wi,zero_add→wj,toNat_of_nonneg→wA
open Bool renaming and_eq_true→wF,eq_false_iff→w4,false_eq_true→w5,and_eq_false_iff→xc
open Array renaming length_toList→xO,getElem?_eq_getElem→yw,toList_push→yx,toList_inj→yy
open Option renaming isSome_iff_exists→yz,getD_none→yA
open PySem renaming wpAny_bind→yN,wpAny_pure→yU,wpAny_holding→zb,wpAny_Call_Name_kw→zd,Value→zt,World→zz,Program→zA,wpAny_eqBool_int→AL,Addr→AM,Heap→A1,sizeLine→A8,sysModules→Bg,mainGlobals→Ca,builtinsNs→Ce,bootBuiltins→CP,Around→C2,Shared→C3,Scope→C4,GenState→Di,Model→D0,wpAny→D2,storeName→D7,Expr→Ew,isTrue→ED,backTo→EE,starEach→EN,Stmt→EV,wpAny_mono→EX,wpAny_Name→E1,wpAny_loadName_local→FC,wpAny_loadName_cell→F0,standAt→F6,wpAny_truthy_bool→F7,wpAny_execs_nil→Gs,wpAny_execs_cons→IE,swapsWith→IG,wpAny_Return_some→IX,assignEach→IY,Operator→IZ,wpAny_assign_Name→Ja,wpAny_standAt→Jb,PassesOwn→Jc,wpAny_passesOwn→Jd,pyNext→Je,letOwnedTupleGo→Jf,pyIter→Jg,rawInt→Jh,wpAny_pyNext_list_item→Ji,wpAny_pyNext_list_end→Jj,wpAny_pyIter_list→Jk,Builtin→Jl,foldedSetIterable→Jm,binaryOp→Jn,intBits_le_64→Jo,compareOp→Jp,CmpOp→Jq,behindInMarks→Jr,sizeLine_eq→Js,getMethod→Jt,Result→Ju,codeAny→Jv,attributeBase→Jw,recursionLimit→Jx,cLine→Jy,Code→Jz,wpAny_Tuple_spliced→JA,FuncData→JB,BindsTo→JC,bindArgs→JD,wpAny_call→JE,codeAny_mono→JF,NameKind→JG,bindL→JH,bindC→JI,cellsFrom→JJ,IsPart→JK,evalPart_none→JL,typeLookup→JM,seqIndex_of→JN,slot_list_getitem→JO,typeIs_str→JP,sliceBounds→JQ,call_list_seq→JR,backToKw→JS,keywordEach→JT,call_meets→JU,Params→JV,callerA→JW,compEnvC→JX,closureFor→JY,closureFor_none→JZ,noteFrame→J7,theTreesLotGoes→J8,compTurn_list→J9,newList→Ka,newFunctionEnv→Kb,wpAny_newObj_type→Kc,wpAny_newFunctionEnv→Kd,lookup_relabel_local→Ke,codeAny_compStart_list→Kf,eval_ListComp→Kg,wpAny_comprehension_free→Kh,compPost→Ki,exec_Assign_Name_used→Kj,wpAny_newTuple→Kk,wpAny_newList→Kl,wpAny_call_entry→Km,intText_digits→Kn,setField→Ko,wpAny_setField→Kp,wpAny_field→Kq,setFlight→Kr,ExcBaseFacts→Ks,excClassObj→Kt,OwnTail→Ku,wpAny_JoinedStr→Kv,Joins_cons→Kw,wpAny_FormattedValue_repr→Kx,pyReprObj_str→Ky,Joins_nil→Kz,callWith→KA,int_text_length_le10→KC,scanBound→KD,codeAny_builtin→KG,plainId_quiet→KH,wpAny_runValue→KI,evalArgs→KJ,entryFor_of_fast→KL,wpAny_loadPart_at→KN,strValues→KO,length_partsBetween→KP,Comprehension→KQ,wpAny_attempt→KR,wpAny_comp_letGo→KS,notedBy→KU,IsPair→KW,ZipApart→KY,wpAny_pyNext_zip_item→KZ,wpAny_pyNext_zip_end→K0,wpAny_pyIter_zip→K1,wpAny_callSpecial?_slot→K2,wpAny_seqItems→K3,wpAny_nextOf_list_item→K4,wpAny_nextOf_list_end→K5,updateSeq→K6,wpAny_updateSeq→K7,typeLookup_type→K8,builtinLookup_eq_fast→K9,callType_codes→La,wpAny_typeOf→Lb,wpAny_specialOf→Lc,wpAny_pyIter_enum→Ld,getattributeRaised→Le,boot_len→Lf
open Option renaming some→Lg,none→Lh
open Bool renaming true→Li,false→Lj
open Decidable renaming decide→Lk
open PySem.W renaming Frag→ac,nsIn→ls,mg_of→pc,mg_none_of→wn,findIn→wT,kia_one→FB,emptyDict→GE,callWith_K→Ix,keepIn→LH,methodCall_KW→LK,instObj→LU,specialIn→L1,kitOne→Mh,plainGet→MV,plainGet_of→M5,callWith_K0→M6,fnOf→Ng,methodObj→Np,lookIn→Nq,hasDictIn→Nr,exmAny→Nt
open PySem.Heap renaming get?_push_of_some→am,lt_size→bi,get?_push_size→ii,get?_update_other→ss,get?_update_self→v6,size_update→wE,get?_push_ne→zn,size_push→AC,SameBut→Go,get?_update_ne→LZ
open List renaming range→bn,zipWith→nn,replicate→py,getElem?_eq_none_iff→xL,toArray→Fk,nodup_iff_pairwise_ne→Gc,filter_cons_of_pos→KT,filter_cons_of_neg→Lx,lookup→LC,length→LD,dropLast_concat_getLast→LG,pairwise_iff_getElem→LV,range'→LX,getElem?_take_of_lt→LY,append_cancel_left→L2,getElem?_set_self→L5,getElem?_set_ne→Me,getElem?_take→Mi,findIdx?_eq_some_iff_getElem→Mo,take_sublist→Mr,take_add_one→Ms,pairwise_map→Mt,take_append_of_le_length→MA,eq_nil_of_length_eq_zero→MC,idxOf_lt_length_iff→MT,getElem?_cons_succ→MY,zipWith_cons_cons→M2,append_eq_nil_iff→M3,mem_iff_getElem?→M8,pairwise_append→Nc,getElem?_mapIdx→Nd,take_succ_cons→Ni,contains_cons→Nn,reverse_cons→Nu
open Bool renaming false_ne_true→bv,eq_iff_iff→pr,false_and→ww,or_false→AT,true_and→IR,false_or→LA,and_false→LR,or_eq_false_iff→Mf,or_assoc→MU,not_eq_true'→Nv
open Or renaming inl→cr,inr→ul
open PySem.Txt renaming partition→dL,split→io,join→kt,startswith→li,slice→GT
open Option.some renaming inj→gl
open PyProof.Rows renaming boot_isinstance→im,boot_str→re,callWith_type1→v4,boot_list→wr,boot_set→Do,boot_min→Ev,boot_max→KB,boot_dict→Mx,boot_zip→My,boot_int→Mz
open PySem.Str renaming join→lc,ofString→lm,empty→tz,append→wp,length→wS,ofString_eq_toList→Ly
open PySem.Obj renaming mapSeq→on,mapFields→wf,data_mapFields→LS,isFreed_of_fields→Ma
open Int renaming le_refl→pp,ne_of_gt→Mw,negSucc→Nj
open PySem.Builtin.Str renaming strKind→sK,occurrences→EQ,strSliceIndices→MR
open False renaming elim→ut
open PySem.PassesOwn renaming never→v2
open ForInStep renaming yield→wP
open PySem.Builtin.SmallTypes renaming ownedTupleIsFree→xz,nextOf→KM
open Sum renaming inr→Db,inl→Mv
open Ne renaming symm→FM
open PySem.Around renaming under_plainId→Is
open PySem.F renaming called_set→IN,plain_extend_loop→LQ,slot_list_getattribute→L4,slot_zip_next→Md
open Array.Perm renaming refl→Lz
open PySem.SeqAt.EqAt renaming of_refs→LB,same→LW,str_int→MP,int_str→MQ
open List.Pairwise renaming nil→LF,imp_of_mem→Mp
open PySem.Calls renaming spliced_cons→LL,evalArgs_plain→Mb,spliced_nil→Mm,Name_function_global→ME,callWith_builtin→MX
open Array renaming getElem?_eq_some_iff→LO,toList→Mq,getElem?_setIfInBounds_ne→Mu,getElem?_eq_none→MZ,toList_append→Nf,forIn_toList→Nk,append_assoc→Nl
open True renaming intro→LP
open PySem.Builtin.List renaming listExtendWith→L0,listTooLong→Mc,listSameRef→M1,listItems→Na
open PySem.SeqAt renaming EqAt→L3,eq_list_lengthsAt→MN
open PySem.StrLaws renaming reprText_len→L6,subAt_eq→Mj,sliceText_from→MJ,occ_length_le→ML,glued_eq_join→MM,sliceText→M9
open PyProof.Rows.F renaming plain_set_update_loop→L8,entry_set_update_loop→Nb
open Nat renaming zero_add→L9,not_lt_zero→MG,pow_le_pow_right→Nh
open List.Perm renaming append_left→MH
open Char renaming ofNat→MI,toNat→No
open PySem.EntryCells renaming newEntry→MK
open PySem.SeqAt.RcAt renaming tuples→MW
open String renaming length_toList→M0
open PySem.Builtin.Dict renaming updateFrom→M7
set_option Elab.async false
set_option linter.all false
set_option maxRecDepth 100000
set_option maxHeartbeats 4000000
set_option bootstrap.genMatcherCode false
set_option compiler.extract_closed false
local macro_rules(kind:=Lean.Parser.Term.tuple)|s=>do
 let a:=s[1][2].getArgs;let n:=Lean.Syntax.node .none
 if a.size%2==0&&a.size>0 then return n `Lean.Parser.Term.anonymousCtor #[.atom .none "⟨",n `null (#[s[1][0],s[1][1]]++a.pop),.atom .none "⟩"]
 Lean.Macro.throwUnsupported
local macro_rules|`(↑$x)=>`(some (.ref $x))
local macro_rules|`(⇑$x)=>`(($x).length)
local macro_rules|`(↥$x)=>`(($x).heap.objs.size)
local macro_rules|`(term|∅)=>`(by first|lia|(dsimp only;lia))
local macro_rules|`(term|⋯)=>`(by decide)
local macro_rules|`(~~~$x)=>`(by simpa using $x)
local macro_rules|`(~~~0)=>`(by decide+kernel)
abbrev Lw:=@List
open Lean in
local macro_rules|`(tactic|let $d:letDecl)=>do
 let p:=d.raw[0]
 if p.isOfKind `Lean.Parser.Term.letPatDecl then
  let n:=Syntax.node .none
  let g:=λe:Array Syntax=>n `Lean.Parser.Tactic.rcasesPat.tuple #[.atom .none "⟨",n `null (e.mapIdx λj p=>if j%2==1 then p else n `Lean.Parser.Tactic.rcasesPatLo #[n `Lean.Parser.Tactic.rcasesPatMed #[n `null #[p]],n `null #[]]),.atom .none "⟩"]
  let q:=p[0].rewriteBottomUp λs=>match s with|.ident ..=>n `Lean.Parser.Tactic.rcasesPat.one #[s]|.node i k a=>if k==`Lean.Parser.Term.hole then n `Lean.Parser.Tactic.rcasesPat.ignore a else if k==`Lean.Parser.Term.anonymousCtor then g a[1]!.getArgs else if k==`Lean.Parser.Term.tuple then g (#[a[1]![0],a[1]![1]]++a[1]![2].getArgs) else s|_=>s
  return n `Lean.Parser.Tactic.obtain #[.atom .none "obtain",n `null #[n `Lean.Parser.Tactic.rcasesPatMed #[n `null #[q]]],n `null p[2][0].getArgs,n `null #[.atom .none ":=",n `null #[p[4]]]]
 else `(tactic|have $d:letDecl)
local macro_rules|`(tactic|calc $x:term)=>`(tactic|refine $x)
open Lean in
local macro_rules(kind:=Lean.Parser.Command.declaration)|s=>do
 let k:=s[1].getKind
 if s[0][1].isNone&&s[0][4].isNone&&(k==``Lean.Parser.Command.definition||k==``Lean.Parser.Command.abbrev||k==``Lean.Parser.Command.instance) then return s.setArg 0 (s[0].setArg 4 (.node .none `null #[.node .none ``Lean.Parser.Command.noncomputable #[.atom .none "noncomputable"]]))
 Macro.throwUnsupported
open Lean in
local macro_rules(kind:=Lean.Parser.Command.declaration)|s=>do
 let d:=s[1]
 if d.getKind==``Lean.Parser.Command.definition then
  if let SourceInfo.original _ _ t _:=d[0].getHeadInfo then
   if t.toString.length==1 then
    let n:=Syntax.node .none
    return s.setArg 1 (n ``Lean.Parser.Command.theorem #[.atom .none "theorem",d[1],n ``Lean.Parser.Command.declSig #[d[2][0],d[2][1][0]],d[3]])
 Macro.throwUnsupported
abbrev Lm:=@if_neg
abbrev Lo:=@if_pos
abbrev Lp:=@absurd
abbrev Lq:=@decide_eq_true
abbrev Lr:=@decide_eq_false
abbrev Ls:=@of_decide_eq_true
abbrev Lu:=@congrArg
abbrev Lv:=@decide_eq_true_iff
local macro_rules|`(term|s!$x)=>do
 let some t:=x.raw.getArgs[0]? | Lean.Macro.throwUnsupported
 let some v:=t.isInterpolatedStrLit? | Lean.Macro.throwUnsupported
 `(PySem.Str.ofString $(Lean.quote v))
def IU{a:Type _}{l:Lw a}{i:Nat}(h:i<⇑l):l[i]?=Lg l[i]:=List.getElem?_eq_getElem h
def IV{b:Type _}{a:b}{l:Lw b}{i:Nat}:l[i]?=Lg a ↔ ∃h:i<⇑l, l[i]=a:=List.getElem?_eq_some_iff
def IW{b:Type _}{l:Lw b}{i:Nat}{a:b}(e:l[i]?=Lg a):a∈l:=List.mem_of_getElem? e
namespace _L
def U{b:Sort _}{a:b}:a=a:=rfl
open PySem PySem.Spec PyProof.Rows
abbrev Key:=Sum Int Str
def  wm:Key->zt->Bool
 | .inl k,v=>zt.isInt k v
 | .inr x,v=>zt.isStrOf x v
def  FA(w:zz):Key->Int
 | .inl k=>hashInt k
 | .inr x=>hashStr w x
def cH:∀{k:Key}{v:zt},wm k v=Li->(∃i t,k=Mv i/\v=zt.int i t)\/(∃x t,k=Db x/\v=zt.str x t)
 | .inl i,v,h=>by
  let(t,e):=zt.isInt_shape (k:=i) (v:=v) h;exact .inl (i,t,U,e,)
 | .inr x,v,h=>by
  let(t,e):=zt.isStrOf_shape (x:=x) (v:=v) h;calc .inr (x,t,U,e,)
def xr(x:Str)(t:Tok):wm (.inr x) (.str x t)=true:=by simp[wm,zt.isStrOf]
def CC(a b:Int):decide ((Mv a:Key)=Mv b)=(a == b):=by
 by_cases e:a=b
 .subst e;simp
 .let h:¬ (Mv a:Key)=Mv b:=λq=>e<|Sum.inl.inj q
  rw[Lr h];calc(beq_eq_false_iff_ne.mpr e).symm
def CD(a b:Str):decide ((Db a:Key)=Db b)=Lk (a=b):=by
 by_cases e:a=b
 .subst e;simp
 .let h:¬ (Db a:Key)=Db b:=λq=>e<|Sum.inr.inj q
  rw[Lr h,Lr e]
def CF(a:Int)(b:Str):decide ((Mv a:Key)=Db b)=false:=Lr<|λq=>nomatch q
def CG(a:Str)(b:Int):decide ((Db a:Key)=Mv b)=false:=Lr<|λq=>nomatch q
def  mn(prog:zA)(w:zz):PySem.KeyKind prog w Key where
 is:=wm
 hash:=FA w
 inj:=λv a b l f=>by
  rcases cH l with⟨i,t,rfl,rfl⟩|⟨x,t,rfl,rfl⟩
  .rcases cH f with⟨j,u,rfl,e⟩|⟨y,u,rfl,e⟩
   .injection e with c _;rw[c]
   .exact nomatch e
  .rcases cH f with⟨j,u,rfl,e⟩|⟨y,u,rfl,e⟩
   .exact nomatch e
   .injection e with c _;rw[c]
 byValue:=λk v h=>by
  rcases cH h with⟨i,t,rfl,rfl⟩|⟨x,t,rfl,rfl⟩ <;> rfl
 pyHash:=λd h=>by
  rcases cH d with⟨i,t,rfl,rfl⟩|⟨x,t,rfl,rfl⟩
  .exact wpAny_pyHash_int h
  .exact wpAny_pyHash_str h
 eqBool:=λg d h=>by
  rcases cH g with⟨i,t,rfl,rfl⟩|⟨x,t,rfl,rfl⟩
  .rcases cH d with⟨j,u,rfl,rfl⟩|⟨y,u,rfl,rfl⟩
   .rw[CC]at h;exact AL h
   .rw[CF]at h;exact MQ i t y u _ _ _ _ h
  .rcases cH d with⟨j,u,rfl,rfl⟩|⟨y,u,rfl,rfl⟩
   .rw[CG]at h;exact MP x t j u _ _ _ _ h
   .rw[CD]at h;exact wpAny_eqBool_str h
 «strs»:=λk x t v h=>by
  rcases cH h with⟨i,u,rfl,e⟩|⟨y,u,rfl,e⟩
  .exact nomatch e
  .injection e with c _;subst c;cases v <;> rfl
def n6(prog:zA)(w:zz)(x:Str)(t:Tok):(mn prog w).is (.inr x) (.str x t)=true:=xr x t
inductive V where
 |non|bl (b:Bool)|int (i:Int)|str (x:Str)|byt (b:Array UInt8)|flt (b:UInt64)|ref (a:AM)|ty (n:String)
 deriving DecidableEq
open V renaming int→pi,ref→NC,str→NE
def  RelV:V->zt->Prop
 | .non,u=>u=zt.none
 | .bl b,u=>u=zt.bool b
 | .int i,u=>∃t,u=zt.int i t
 | .str x,u=>∃t,u=zt.str x t
 | .byt b,u=>∃t,u=zt.bytes b t
 | .flt b,u=>∃t,u=zt.float b t
 | .ref a,u=>u=zt.ref a
 | .ty n,u=>u=zt.type n
abbrev Vals:Lw V->Lw zt->Prop:=Paired RelV
def Vals.length{xs:Lw V}{us:Lw zt}(r:Vals xs us):⇑xs=⇑us:=Paired.length r
def Vals.get:∀{xs:Lw V}{us:Lw zt}{i:Nat}{x:V},Vals xs us->xs[i]?=Lg x->∃u,us[i]?=Lg u/\RelV x u
 |_,_,_,_,.nil,e=>by simp at e
 |_,_,0,_,.cons r _,e=>by simp at e;subst e;exact(_,U,r,)
 |_,_,i+1,x,.cons _ t,e=>by
  let(u,b,a):=Vals.get (i:=i) (x:=x) t<|~~~e;calc(u,~~~b,a,)
def Vals.set{x:V}{u:zt}(r:RelV x u):∀{xs:Lw V}{us:Lw zt}(i:Nat),Vals xs us->Vals (xs.set i x) (us.set i u)
 |_,_,_,.nil=>.nil
 |_,_,0,.cons _ t=>.cons r t
 |_,_,i+1,.cons q t=>.cons q<|Vals.set r i t
def Vals.append:∀{xs ys:Lw V}{us a:Lw zt},Vals xs us->Vals ys a->Vals (xs++ys) (us++a)
 |_,_,_,_,.nil,s=>s
 |_,_,_,_,.cons r t,s=>.cons r<|Vals.append t s
def Vals.take:∀{xs:Lw V}{us:Lw zt}(n:Nat),Vals xs us->Vals (xs.take n) (us.take n)
 |_,_,0,_=>.nil
 |_,_,_+1,.nil=>.nil
 |_,_,n+1,.cons r t=>.cons r<|Vals.take n t
def Vals.drop:∀{xs:Lw V}{us:Lw zt}(n:Nat),Vals xs us->Vals (xs.drop n) (us.drop n)
 |_,_,0,r=>r
 |_,_,_+1,.nil=>.nil
 |_,_,n+1,.cons _ t=>Vals.drop n t
def  ql:Option V->Option zt->Prop
 |some v,Lg u=>RelV v u
 |none,Lh=>True
 |_,_=>False
def  KV{a:Type}:Lw (a×V)->Lw (a×zt)->Prop:=Paired λ(p:a×V)(q:a×zt)=>p.1=q.1/\RelV p.2 q.2
def  kV:Key->V
 | .inl i=>.int i
 | .inr x=>.str x
inductive HO where
 |lst (xs:Lw V)
 |tup (xs:Lw V)
 |dK (kvs:Lw (Key×V))|dT (kvs:Lw (Lw Key×V))
 |set (S:Int->Bool)(n:Nat)
 |ins (C dx:AM)(fs:Lw (Str×V))
 |own (x:AM)
 |xd (fs:Lw (Str×V))
 |met (f x:AM)
 |rng (lo hi:Int)
 |frz (o:Obj)(u:HO)
 |tbl (ps:Array zt)
 |ext (φ:A1->Prop)
abbrev Hp:=AM->Option HO
def  upd(H:Hp)(a:AM)(o:HO):Hp:=λb=>if b=a then Lg o else H b
def af{H:Hp}{a:AM}{o:HO}:upd H a o a=Lg o:=by unfold upd;rw[Lo U]
def ay{H:Hp}{a b:AM}{o:HO}(h:b≠a):upd H a o b=H b:=by unfold upd;rw[Lm h]
def eB{H:Hp}{a b:AM}{o u:HO}(h:H a=Lg o)(h':H b=Lg u)(d:o≠u):a≠b:=by
 intro e;subst e;rw[h]at h';calc d<|gl h'
def bG{H:Hp}{a b:AM}{o:HO}(h:H a=Lg o)(h':H b=Lh):a≠b:=by
 intro e;subst e;rw[h]at h';cases h'
section
variable(P:zA)(w:zz)
def  dJ(H:Hp)(h:A1)(a:AM):HO->Prop
 | .lst xs=>⇑xs<=A8/\∃(b:Lw zt)(n:Nat),Vals xs b/\h.get? a=Lg { cls:=.type "list",data:=.seq b.toArray n }
 | .tup xs=>⇑xs<=A8/\∃b:Lw zt,Vals xs b/\IsTup h a b.toArray
 | .dK kvs=>⇑kvs<=A8/\(a == Bg)=Lj/\∃vs,KV kvs vs/\h.DictOf (mn P w) a vs
 | .dT kvs=>⇑kvs<=A8/\(a == Bg)=Lj/\∃xs:Lw (Lw Key×AM×zt),
   Paired (λ(p:Lw Key×V)(q:Lw Key×AM×zt)=>p.1=q.1/\H q.2.1=Lg (.tup<|p.1.map kV)/\RelV p.2 q.2.2) kvs xs /\
   ∃o g i,h.get? a=Lg o/\o.ExactDict/\o.data=.dict g i/\g.toList=xs.map (entryOfKey<|tupleKind<|mn P w)/\(xs.map (·.1)).Nodup
 | .set S n=>h.SetOf (intKind P w) a S n
 | .ins C dx fs=>H dx=Lg (.own a)/\⇑fs<=1000/\dx≠a/\h.get? a=Lg (LU C dx) /\
   ∃c,h.Ns1 dx c/\(∀f,ql (fs.lookup f)<|c f)/\PySem.Within c (fs.map (·.1))
 | .own _=>∃o,h.get? a=Lg o
 | .xd fs=>∃c,h.Ns1 a c/\∀f,ql (fs.lookup f) (c f)
 | .rng lo hi=>∃t u v,h.get? a=Lg { cls:=.type "range",data:=.fields #[.int lo t,.int hi u,.int 1 v] }
 | .frz o u=>h.get? a=Lg o/\dJ H h a u
 | .tbl ps=>h.get? a=Lg { cls:=.none,data:=.fields ps }
 | .met f x=>h.get? a=Lg (Np (.ref f)<|.ref x)
 | .ext φ=>φ h/\(∃o,h.get? a=Lg o)/\∀e d:A1,φ e->(∀o,e.get? a=Lg o->d.get? a=Lg o)->φ d
def  HOk(H:Hp)(h:A1):Prop:=∀a o,H a=Lg o->dJ P w H h a o
end
variable{P:zA}{w:zz}{H H':Hp}{h h':A1}{a:AM}
section
variable{o:HO}
def dJ.lt(x:dJ P w H h a o):a<h.objs.size:=by
 cases o with
 |lst c=>obtain⟨_,_,_,_,e⟩:=x;exact bi e
 |tup c=>obtain⟨_,_,_,p⟩:=x;exact p.lt
 |dK b=>obtain⟨_,_,_,_,o,_,_,e,_⟩:=x;exact bi e
 |dT b=>obtain⟨_,_,_,_,o,_,_,e,_⟩:=x;exact bi e
 |set S n=>obtain⟨o,_,_,_,e,_⟩:=x;exact bi e
 |ins C j fs=>obtain⟨_,_,_,e,_⟩:=x;exact bi e
 |own y=>obtain⟨_,e⟩:=x;exact bi e
 |xd fs=>obtain⟨_,⟨_,_,_,e,_⟩,_⟩:=x;exact bi e
 |rng lo hi=>obtain⟨_,_,_,e⟩:=x;exact bi e
 |frz i u=>obtain⟨e,_⟩:=x;exact bi e
 |tbl g=>exact bi (show h.get? a=Lg _ from x)
 |met f y=>exact bi (show h.get? a=Lg _ from x)
 |ext d=>obtain⟨_,⟨_,e⟩,_⟩:=x;calc bi e
def Paired.mapP{e d:Type}{F G:e->d->Prop}:∀{c:Lw e}{l₂:Lw d},Paired F c l₂->(∀a b,F a b->G a b)->Paired G c l₂
 |_,_,.nil,_=>.nil
 |_,_,.cons r t,f=>.cons (f _ _ r)<|Paired.mapP t f
def dJ.stay(x:dJ P w H h a o)(k:∀b u,(b=a\/H b=Lg (.own a))->h.get? b=Lg u->h'.get? b=Lg u)
  (I:∀b,H b=Lg (.own a)->H' b=Lg (.own a))(G:∀b xs,H b=Lg (.tup xs)->H' b=Lg (.tup xs)):dJ P w H' h' a o:=by
 induction o with
 |lst xs=>obtain⟨z,l,n,r,e⟩:=x;exact(z,l,n,r,k _ _ (.inl U) e,)
 |tup xs=>obtain⟨z,l,r,g,e,c⟩:=x;exact(z,l,r,g,k _ _ (.inl U) e,c,)
 |dK A=>obtain⟨z,y,E,r,g,i,j,e,c⟩:=x;exact(z,y,E,r,g,i,j,k _ _ (.inl U) e,c,)
 |dT A =>
  let(z,y,xs,r,g,i,j,e,c):=x;exact(z,y,xs,Paired.mapP r λp q z=>(z.1,G _ _ z.2.1,z.2.2,),g,i,j,k _ _ (.inl U) e,c,)
 |set S n=>obtain⟨g,i,j,t,e,c⟩:=x;exact(g,i,j,t,k _ _ (.inl U) e,c,)
 |ins C L fs =>
  let(d,z,ne,e,s,(m,i,j,J,c),r):=x;exact(I _ d,z,ne,k _ _ (.inl U) e,s,(m,i,j,k _ _ (.inr d) J,c,),r,)
 |own y=>obtain⟨g,e⟩:=x;exact(g,k _ _ (.inl U) e,)
 |xd fs=>obtain⟨s,⟨m,i,j,e,c⟩,r⟩:=x;exact(s,(m,i,j,k _ _ (.inl U) e,c,),r,)
 |rng lo hi=>obtain⟨t,u,v,e⟩:=x;exact(t,u,v,k _ _ (.inl U) e,)
 |frz g u F=>obtain⟨e,q⟩:=x;exact(k _ _ (.inl U) e,F q,)
 |tbl D =>
  let e:h.get? a=Lg { cls:=.none,data:=.fields D }:=x;show h'.get? a=Lg { cls:=.none,data:=.fields D };exact k a _ (.inl U) e
 |met f y =>
  let e:h.get? a=Lg (Np (.ref f)<|.ref y):=x;show h'.get? a=Lg (Np (.ref f)<|.ref y);exact k a _ (.inl U) e
 |ext K=>obtain⟨p,⟨o,e⟩,B⟩:=x;calc(B _ _ p λo q=>k _ _ (.inl U) q,(o,k _ _ (.inl U) e,),B,)
def HOk.lt(x:HOk P w H h)(e:H a=Lg o):a<h.objs.size:=(x a o e).lt
def HOk.fresh(x:HOk P w H h)(e:h.objs.size<=a):H a=none:=by
 cases q:H a with
 |none=>rfl
 |some u=>calc Lp (tN (x.lt q) e) (vd _)
def HOk.kept(x:HOk P w H h)(k:∀b u,h.get? b=Lg u->h'.get? b=Lg u):HOk P w H h':=λa o e =>
 (x a o e).stay (λb u _ q=>k b u q) (λ_ q=>q) λ_ _ q=>q
def HOk.laid(x:HOk P w H h)(k:∀b u,h.get? b=Lg u->h'.get? b=Lg u)(g:h.objs.size<=a)(new:dJ P w (upd H a o) h' a o):HOk P w (upd H a o) h':=λb u e=>by
 let d:=x.fresh g;by_cases f:b=a
 .subst f;rw[af]at e;cases e;exact new
 .rw[ay f]at e;exact(x b u e).stay (λc v _ q=>k c v q) (λc q=>by rw[ay (bG q d)];exact q) λc i q=>by rw[ay (bG q d)];calc q
end
def  Rd(H:Hp)(a:AM)(u:HO):Prop:=H a=Lg u\/∃o,H a=Lg (.frz o u)
def Rd.ok{P:zA}{w:zz}{H:Hp}{h:A1}{a:AM}{u:HO}(r:Rd H a u)(x:HOk P w H h):dJ P w H h a u:=by
 rcases r with r|⟨o,r⟩
 .exact x a u r
 .let(_,q):=x a _ r;calc q
def  Mut:Option HO->Prop
 |some (.lst _)=>True
 |some (.dK _)=>True
 |some (.dT _)=>True
 |some (.set _ _)=>True
 |some (.ins _ _ _)=>True
 |some (.ext _)=>True
 |_=>False
variable{x:AM}
section
variable{e:AM}{o':HO}
def HOk.write(ok:HOk P w H h)(f:Mut (H x))(m:e=x\/H e=Lg (.own x))(k:∀b u,b≠e->h.get? b=Lg u->h'.get? b=Lg u)(j:∃u,h'.get? e=Lg u)
  (new:dJ P w (upd H x o') h' x o'):HOk P w (upd H x o') h':=λb u q=>by
 let n:∀c y,H c=Lg (.own y)->c≠x:=λc y r z=>by subst z;rw[r]at f;exact f
 let p:∀c d,H c=Lg (.tup d)->c≠x:=λc d r z=>by subst z;rw[r]at f;exact f
 by_cases i:b=x
 .subst i;rw[af]at q;cases q;exact new
 .rw[ay i]at q;by_cases a:b=e
  .let l:H b=Lg (.own x):=by
    rcases m with z|z
    .exact Lp (a.trans z) i
    .rw[a];exact z
   rw[q]at l;cases l;let(v,o):=j;exact(v,by rw[a];exact o,)
  .refine(ok b u q).stay (λc v g r=>k c v ?_ r) (λc r=>by rw[ay (n c b r)];exact r) λc d r=>by rw[ay (p c d r)];exact r
   rcases g with rfl|g
   .exact a
   .rintro rfl;rcases m with z|z
    .exact n c b g z
    .rw[g]at z;cases z;calc i U
end
structure Un(fs ex:Lw AM)(H H':Hp)(h h':A1):Prop where
 keep:∀b o,h.get? b=Lg o->H b=Lh->b ∉ fs->b ∉ ex->h'.get? b=Lg o
 slot:∀b o,h.get? b=Lg o->H b=Lh->b∈fs->b ∉ ex->∃sl,h'.get? b=Lg { o with slots:=sl }
 free:∀b o,h.get? b=Lg o->H b=Lh->b ∉ ex->H' b=Lh
 there:∀b o,h.get? b=Lg o->b ∉ ex->∃o',h'.get? b=Lg o'
 tups:∀b xs,H b=Lg (.tup xs)->H' b=Lg (.tup xs)
 frzs:∀b o u,H b=Lg (.frz o u)->H' b=Lg (.frz o u)
 tbls:∀b ps,H b=Lg (.tbl ps)->∃more,H' b=Lg (.tbl<|ps++more)
section
variable{fs fs' ex ex':Lw AM}{H1 H2:Hp}{h1 h2:A1}{e:AM}{o:HO}
def Un.any(u:Un fs ex H H1 h h1){b:AM}{a:Obj}(q:h.get? b=Lg a)(n:H b=Lh)(c:b ∉ ex):∃e,h1.get? b=Lg { a with slots:=e }:=by
 by_cases d:b∈fs
 .exact u.slot b a q n d c
 .exact(a.slots,u.keep b a q n d c,)
def Un.kept(k:∀b u,h.get? b=Lg u->h'.get? b=Lg u):Un fs ex H H h h' :=
 (λb a q _ _ _=>k b a q,λb a q _ _ _=>(a.slots,k b a q,),λ_ _ _ n _=>n,λb a q _=>(a,k b a q,),λ_ _ q=>q,λ_ _ _ q=>q,λ_ c q=>(#[],by rw[q];simp,),)
def Un.refl:Un fs ex H H h h:=Un.kept λ_ _ q=>q
def Un.laid(k:∀b u,h.get? b=Lg u->h'.get? b=Lg u)(e:h.objs.size<=a)(c:H a=Lh):Un fs ex H (upd H a o) h h' where
 keep:=λb u q _ _ _=>k b u q
 slot:=λb u q _ _ _=>(u.slots,k b u q,)
 free:=λb u q n _=>by rw[ay (tj<|tN (bi q) e)];exact n
 there:=λb u q _=>(u,k b u q,)
 tups:=λb d q=>by rw[ay (bG q c)];exact q
 frzs:=λb u d q=>by rw[ay (bG q c)];exact q
 tbls:=λb f q=>(#[],by rw[ay (bG q c),q];simp,)
def Un.write(c:Mut (H x))(m:e=x\/H e=Lg (.own x))(k:∀b u,b≠e->h.get? b=Lg u->h'.get? b=Lg u)(f:∃u,h'.get? e=Lg u):Un fs ex H (upd H x o) h h':=by
 let g:∀b,H b=Lh->b≠x:=λb n z=>by subst z;rw[n]at c;exact c
 let i:∀b,H b=Lh->b≠e:=λb n z=>by
  subst z;rcases m with r|r
  .exact g b n r
  .rw[n]at r;cases r
 let d:∀b u,H b=Lg u->¬ Mut (Lg u)->b≠x:=λb u q l z=>by subst z;rw[q]at c;exact l c
 refine(λb u q n _ _=>k b u (i b n) q,λb u q n _ _=>(u.slots,k b u (i b n) q,),λb u q n _=>by rw[ay (g b n)];exact n,λb u q _=>?_,
  λb j q=>by rw[ay (d b _ q λz=>z)];exact q,λb u j q=>by rw[ay (d b _ q λz=>z)];exact q,λb p q=>(#[],by rw[ay (d b _ q λz=>z),q];simp,),)
 by_cases a:b=e
 .subst a;exact f
 .exact(u,k b u a q,)
end
def  trk(h:A1)(H:Hp):Lw AM:=(bn h.objs.size).filter λa=>(H a).isSome
def  rH(h:A1)(H:Hp):A1:=W.hideAll h<|trk h H
def xt(h:A1)(H:Hp):(rH h H).objs.size=h.objs.size:=W.hideAll_size _ _
def yB{h:A1}{H:Hp}{b:AM}{o:Obj}(e:h.get? b=Lg o)(n:H b=Lh):(rH h H).get? b=Lg o :=
 W.hideAll_get _ e λa=>by
  let q:(H b).isSome=true:=(nL.mp a).2;rw[n]at q;simp at q
def AO{h:A1}{H:Hp}{b:AM}{o:Obj}(e:(rH h H).get? b=Lg o):h.get? b=Lg o/\H b=none:=by
 let a:h.get? b=Lg o:=W.of_hideAll (trk h H) e;calc(a,?_,);cases q:H b with
 |none=>rfl
 |some x =>
  let c:b∈trk h H:=nL.mpr (ia.mpr<|bi a,by simp[q],);let z:(rH h H).get? b=none:=W.hideAll_none (trk h H) c;rw[z]at e;cases e
def  AQ(g h:A1)(L:AM):Lw (AM×Obj):=(bn h.objs.size).filterMap λa=>if a=L\/(g.get? a).isSome=Li then Lh else(h.get? a).map λo=>(a,o)
def  rest(g h:A1)(L d:AM):Lw (AM×Obj):=(AQ g h L).filter λp=>decide<|p.1≠d
structure Mod(K:ac)(mg:Str->Option zt)(base:A1):Prop where
 kin:K.In base
 glob:base.Ns Ca mg
 blt:∃mb,base.Ns Ce mb/\∀x:Str,x ≠ "__name__" -> mb x=CP x
 nolimit:base.NoLimit
structure Cx where
 prog:zA
 w:zz
 K:ac
 mg:Str->Option zt
 base:A1
 A:C2
 N:Lw Str
 s₀:C3
 H₀:Hp
 env:Env
 outer:Lw Env
 stack:Lw Env
 ex:Lw AM
 fn:Str->Bool
 calm:Bool
 pn:Lw (AM×Obj)
 xe:zt->C3->Prop
def  frs(l:Lw Env):Lw AM:=l.filterMap (·.frame)
abbrev Cx.fs(X:Cx):Lw AM:=frs X.outer
def  Vis(a:C4)(x:Str):Prop:=a.names.lookup x=Lg .local\/a.names.lookup x=Lg .cell\/a.names.lookup x=Lg .free
def  Loc(a:C4)(x:Str):Prop:=a.names.lookup x=Lg .local\/a.names.lookup x=Lg .cell
def  Look(a:Env)(h:A1)(m:Str->Option zt)(x:Str)(u:zt):Prop :=
 (a.kindOf x=Lg .local/\m x=Lg u)\/((a.kindOf x=Lg .cell\/a.kindOf x=Lg .free)/\∃c,a.cells.lookup x=Lg c/\h.IsCell c (Lg u))
structure Cx.Ok(X:Cx):Prop where
 mod:Mod X.K X.mg X.base
 kind:X.env.scope.kind=.function
 glob:X.env.globals=Ca
 blt:X.env.builtins=Ce
 above:X.s₀.heap.objs.size<=X.env.locals
 inj:∀x y c,X.env.cells.lookup x=Lg c->X.env.cells.lookup y=Lg c->x=y
 has:∀x,(X.env.kindOf x=Lg .cell\/X.env.kindOf x=Lg .free)->∃c,X.env.cells.lookup x=Lg c
 cab:∀x c,X.fn x=Li->X.env.cells.lookup x=Lg c->X.s₀.heap.objs.size<=c
 hd:X.calm=Li->X.A.handled=Lh
 frames:X.A.frames=Lg X.stack
 stk:X.stack=X.outer\/(X.stack=X.env :: X.outer/\X.env.frame=Lg X.env.locals)
 exf:∀b∈X.ex,b≠X.env.locals/\∀x c,X.env.cells.lookup x=Lg c->c≠b
 bs:∀b o,X.base.get? b=Lg o->X.s₀.heap.get? b=Lg o/\X.H₀ b=Lh
 bsz:X.base.objs.size<=X.s₀.heap.objs.size
 noex:∀b o,X.base.get? b=Lg o->b ∉ X.ex
 exfs:∀b∈X.ex,b ∉ X.fs
 funs:X.s₀.heap.FunFrames X.base X.outer
 frf:∀b∈X.fs,X.H₀ b=Lh
structure Inv(X:Cx)(Ll:Lw (AM×Obj))(σ:Lw (Option V))(H:Hp)(s:C3):Prop where
 ok:X.Ok
 os:s.os=X.s₀.os
 bare:AllBare s.gens
 base:Un X.fs X.ex X.H₀ H X.s₀.heap s.heap
 loc:∃m,s.heap.Ns X.env.locals m/\∀(i:Nat)(x:Str)(v:V),X.N[i]?=Lg x->σ[i]?=Lg (Lg v)->Vis X.env.scope x->∃u,RelV v u/\Look X.env s.heap m x u
 cell:∀x c,X.env.cells.lookup x=Lg c->∃v,s.heap.IsCell c v
 free:H X.env.locals=Lh
 freeC:∀x c,X.env.cells.lookup x=Lg c->H c=Lh
 pin:∀p∈X.pn++Ll,s.heap.get? p.1=Lg p.2/\H p.1=Lh/\p.1≠X.env.locals/\p.1 ∉ X.fs/\∀v,p.2.data≠.cell v
 hok:HOk X.prog X.w H s.heap
 len:σ.length=X.N.length
variable{X:Cx}{Ll:Lw (AM×Obj)}{s:C3}
section
variable{σ:Lw (Option V)}
def Cx.Ok.nofr(ok:X.Ok){b:AM}{o:Obj}(e:X.base.get? b=Lg o):b ∉ X.fs:=λa=>by
 let:=(ok.funs.mem a).1;rw[e]at this;cases this
def Inv.bs(I:Inv X Ll σ H s):∀b o,X.base.get? b=Lg o->s.heap.get? b=Lg o/\H b=none:=λb o e =>
 (I.base.keep b o (I.ok.bs b o e).1 (I.ok.bs b o e).2 (I.ok.nofr e)<|I.ok.noex b o e,I.base.free b o (I.ok.bs b o e).1 (I.ok.bs b o e).2<|I.ok.noex b o e,)
def Inv.bk(I:Inv X Ll σ H s):∀b o,X.base.get? b=Lg o->s.heap.get? b=Lg o:=λb o e=>(I.bs b o e).1
def Inv.mod(I:Inv X Ll σ H s):Mod X.K X.mg X.base:=I.ok.mod
def Inv.kIn(I:Inv X Ll σ H s):X.K.In s.heap:=I.ok.mod.kin.keeps I.bk
def Inv.lt(I:Inv X Ll σ H s):X.env.locals<↥s:=by let(_,a,_):=I.loc;calc a.lt
def Inv.sz(I:Inv X Ll σ H s):X.s₀.heap.objs.size<=↥s:=tm I.ok.above<|ve I.lt
def Inv.nofs(I:Inv X Ll σ H s){a:AM}(h:↥s<=a):a ∉ X.fs:=λc=>by
 let(_,o,b,_):=I.ok.funs.mem c;calc Lp (tN (bi b)<|tm I.sz h)<|vd _
def Inv.cne(I:Inv X Ll σ H s):∀x c,X.env.cells.lookup x=Lg c->c≠X.env.locals:=λx c e z=>by
 let(v,o,d,f):=I.cell x c e;let(m,(g,h,i,a,b,_),_):=I.loc;rw[z,a]at d;cases d;rw[b]at f;cases f
def Inv.funs(I:Inv X Ll σ H s):s.heap.FunFrames X.base X.outer:=by
 let all:∀(l:Lw Env),(∀b∈frs l,b∈X.fs)->X.s₀.heap.FunFrames X.base l->s.heap.FunFrames X.base l:=by
  intro l;induction l with
  |nil=>intro _ _;trivial
  |cons p r g =>
   intro f k;let(m,(L,o,a,j,i,n),h):=k;let d:L∈X.fs:=f L (by unfold frs;rw[kW,a];exact gs);let(q,e):=I.base.slot L o i (I.ok.frf L d) d λz=>I.ok.exfs L z d
   exact(m,(L,_,a,j,e,n,),g (λb c=>f b (by unfold frs;rw[kW,a];exact fj _ c)) h,)
 calc all X.outer (λ_ c=>c) I.ok.funs
def Inv.stack(I:Inv X Ll σ H s):s.heap.FunFrames X.base X.stack:=by
 rcases I.ok.stk with e|⟨e,b⟩
 .rw[e];exact I.funs
 .rw[e];let(m,a,_):=I.loc;refine .cons (by rw[I.ok.kind];decide) b a ?_ I.funs;calc A1.get?_none_of_le<|tm I.ok.bsz I.ok.above
def Inv.stkSub(I:Inv X Ll σ H s):∀b∈frs X.stack,b∈X.env.locals :: X.fs:=λb a=>by
 rcases I.ok.stk with e|⟨e,c⟩
 .rw[e]at a;exact fj _ a
 .rw[e]at a;unfold frs at a;rw[kW,c]at a;calc a
def Inv.stkFree(I:Inv X Ll σ H s):∀b∈frs X.stack,H b=none:=λb a=>by
 rcases dy.mp (I.stkSub b a)with e|a
 .rw[e];exact I.free
 .let(_,o,c,_):=I.ok.funs.mem a;calc I.base.free b o c (I.ok.frf b a) λz=>I.ok.exfs b z a
def Inv.step{g':Array Di}{t':Nat}{d':Drawn}{ch:Lw AM}(I:Inv X Ll σ H s)
  (g:∀b∈ch,(b∈X.ex\/X.s₀.heap.objs.size<=b)/\b≠X.env.locals/\(∀x c,X.env.cells.lookup x=Lg c->c≠b)/\∀p∈X.pn++Ll,p.1≠b)
  (keep:∀b o,b≠X.env.locals->b ∉ X.fs->b ∉ ch->s.heap.get? b=Lg o->H b=Lh->h'.get? b=Lg o)
  (slot:∀b o,b≠X.env.locals->b∈X.fs->b ∉ ch->s.heap.get? b=Lg o->H b=Lh->∃F,h'.get? b=Lg { o with slots:=F })(free:∀b o,b ∉ ch->s.heap.get? b=Lg o->H b=Lh->H' b=Lh)
  (there:∀b o,b ∉ ch->s.heap.get? b=Lg o->∃B,h'.get? b=Lg B)
  (tups:∀b xs,H b=Lg (.tup xs)->H' b=Lg (.tup xs))(frzs:∀b o u,H b=Lg (.frz o u)->H' b=Lg (.frz o u))(tbls:∀b ps,H b=Lg (.tbl ps)->∃E,H' b=Lg (.tbl<|ps++E))
  (ns:∀m,s.heap.Ns X.env.locals m->h'.Ns X.env.locals m)(K:HOk X.prog X.w H' h')(S:AllBare g') :
  Inv X Ll σ H' { s with heap:=h',gens:=g',drawn:=d',toks:=t' }:=by
 let D:∀b o,X.s₀.heap.get? b=Lg o->b≠X.env.locals:=λb o e=>tj<|tN (bi e) I.ok.above
 let t:∀b o,X.s₀.heap.get? b=Lg o->b ∉ X.ex->b ∉ ch:=λb o e a y=>by
  rcases(g b y).1 with z|z
  .exact a z
  .exact Lp (tN (bi e) z)<|vd _
 let h:∀x c,X.env.cells.lookup x=Lg c->∀v,s.heap.IsCell c v->h'.IsCell c v:=λx c e v (o,A,G,)=>by
  let f:c ∉ ch:=λz=>(g c z).2.2.1 x c e U
  by_cases N:c∈X.fs
  .let(F,q):=slot c o (I.cne x c e) N f A<|I.freeC x c e;exact(_,q,G,)
  .exact(o,keep c o (I.cne x c e) N f A<|I.freeC x c e,G,)
 refine(I.ok,I.os,S,(λb o e n y a=>?_,λb o e n y a=>?_,λb o e n a=>?_,λb o e a=>?_,λb xs e=>tups b xs<|I.base.tups b xs e,λb o xs e=>frzs b o xs<|I.base.frzs b o xs e,λb ps e=>?_,),?_,λx c e=>?_,?_,λx c e=>?_,λp M=>?_,K,I.len,)
 .exact keep b o (D b o e) y (t b o e a) (I.base.keep b o e n y a)<|I.base.free b o e n a
 .let(F,j):=I.base.slot b o e n y a;let(J,C):=slot b _ (D b o e) y (t b o e a) j<|I.base.free b o e n a;exact(J,C,)
 .let(B,j):=I.base.there b o e a;exact free b B (t b o e a) j<|I.base.free b o e n a
 .let(B,j):=I.base.there b o e a;exact there b B (t b o e a) j
 .let(P,j):=I.base.tbls b ps e;let(O,C):=tbls b _ j;exact(P++O,by rw[C,Nl],)
 .let(m,Q,R):=I.loc;calc(m,ns m Q,λi x v j C T=>?_,);let(u,r,l):=R i x v j C T;calc(u,r,?_,);rcases l with l|⟨k,c,e,z⟩
  .exact .inl l
  .exact .inr (k,c,e,h x c e _ z,)
 .let(v,z):=I.cell x c e;exact(v,h x c e v z,)
 .let(m,(o,_,_,A,_),_):=I.loc;exact free _ o (λz=>(g _ z).2.1 U) A I.free
 .let(v,o,A,G):=I.cell x c e;exact free c o (λz=>(g c z).2.2.1 x c e U) A<|I.freeC x c e
 .let(e,n,ne,L,d):=I.pin p M;let f:p.1 ∉ ch:=λz=>(g p.1 z).2.2.2 p M U
  calc(keep p.1 p.2 ne L f e n,free p.1 p.2 f e n,ne,L,d,)
def Inv.un{t':Nat}(I:Inv X Ll σ H s)(u:Un X.fs [] H H' s.heap h')(d:HOk X.prog X.w H' h'):Inv X Ll σ H' { s with heap:=h',toks:=t' }:=by
 let(m,(o,t,v,h,r),_):=id I.loc;let(l,k):=u.any h I.free (by simp);exact I.step (g':=s.gens) (d':=s.drawn) (ch:=[]) (λ_ z=>nomatch z) (λb o _ c _ e n=>u.keep b o e n c (by simp)) (λb o _ c _ e n=>u.slot b o e n c (by simp)) (λb o _ e n=>u.free b o e n (by simp)) (λb o _ e=>u.there b o e (by simp)) u.tups u.frzs u.tbls (λq j=>by
  let(p,f,g,a,i):=j;rw[h]at a;cases a;exact(_,f,g,k,i,)) d I.bare
def Inv.call{g':Array Di}{t':Nat}{d':Drawn}{ch:Lw AM}(I:Inv X Ll σ H s)(u:Un (frs X.stack) ch H H' s.heap h')(h:HOk X.prog X.w H' h')(t:AllBare g')
  (f:∀b∈ch,(b∈X.ex\/X.s₀.heap.objs.size<=b)/\b≠X.env.locals/\(∀x c,X.env.cells.lookup x=Lg c->c≠b)/\∀p∈X.pn++Ll,p.1≠b) :
  Inv X Ll σ H' { s with heap:=h',gens:=g',drawn:=d',toks:=t' }:=by
 let(m,(o,C,D,k,r),_):=id I.loc;let(y,g):=u.any k I.free λz=>(f _ z).2.1 U
 exact I.step (ch:=ch) f (λb o g v a e n=>u.keep b o e n (λz=>(dy.mp<|I.stkSub b z).elim g v) a) (λb o _ _ a e n=>u.any e n a) (λb o a e n=>u.free b o e n a) (λb o a e=>u.there b o e a) u.tups u.frzs u.tbls (λB q=>by
  let(A,i,j,d,l):=q;rw[k]at d;cases d;exact(_,i,j,g,l,)) h t
def Inv.turned{t':Nat}{it:AM}(I:Inv X Ll σ H s)(k:∀b o,b≠it->s.heap.get? b=Lg o->h'.get? b=Lg o)(h:H it=Lh)(f:it≠X.env.locals)
  (w:it∈X.ex\/X.s₀.heap.objs.size<=it)(t:∀x c,X.env.cells.lookup x=Lg c->c≠it)(l:∀p∈X.pn++Ll,p.1≠it):Inv X Ll σ H { s with heap:=h',toks:=t' }:=by
 let d:∀b u,H b=Lg u->b≠it:=λb u e z=>by rw[z,h]at e;cases e
 refine I.step (g':=s.gens) (d':=s.drawn) (ch:=[it]) (λb j=>?_) (λb o _ _ a e _=>k b o (λz=>a (by simp[z])) e) (λb o _ _ a e _=>(o.slots,k b o (λz=>a (by simp[z])) e,)) (λ_ _ _ _ n=>n)
  (λb o a e=>(o,k b o (λz=>a (by simp[z])) e,)) (λ_ _ e=>e) (λ_ _ _ e=>e) (λb B e=>(#[],by rw[e];simp,)) (λm i=>?_) (λb u e=>?_) I.bare
 .let e:b=it:= ~~~j
  subst e;exact(w,f,t,l,)
 .let(o,y,A,g,r):=i;exact(o,y,A,k _ o (FM f) g,r,)
 .refine(I.hok b u e).stay (λc v a q=>k c v ?_ q) (λ_ q=>q) λ_ _ q=>q
  rcases a with z|z
  .rw[z];exact d b u e
  .exact d c _ z
def Inv.tok(I:Inv X Ll σ H s)(t:Nat):Inv X Ll σ H { s with toks:=t }:=I.un (h':=s.heap) (t':=t) Un.refl I.hok
def Inv.kept{t':Nat}(I:Inv X Ll σ H s)(k:∀b u,s.heap.get? b=Lg u->h'.get? b=Lg u):Inv X Ll σ H { s with heap:=h',toks:=t' }:=I.un (Un.kept k)<|I.hok.kept k
def Inv.laid{a:AM}{o:HO}{t':Nat}(I:Inv X Ll σ H s)(k:∀b u,s.heap.get? b=Lg u->h'.get? b=Lg u)(c:↥s<=a)(new:dJ X.prog X.w (upd H a o) h' a o) :
  Inv X Ll σ (upd H a o) { s with heap:=h',toks:=t' }:=I.un (Un.laid k c<|I.hok.fresh c)<|I.hok.laid k c new
def Inv.write{x e:AM}{o:HO}{t':Nat}(I:Inv X Ll σ H s)(c:Mut (H x))(d:e=x\/H e=Lg (.own x))(k:∀b u,b≠e->s.heap.get? b=Lg u->h'.get? b=Lg u)(a:∃u,h'.get? e=Lg u)
  (new:dJ X.prog X.w (upd H x o) h' x o):Inv X Ll σ (upd H x o) { s with heap:=h',toks:=t' }:=I.un (Un.write c d k a)<|I.hok.write c d k a new
def Inv.pins_of{a:Lw (AM×Obj)}(I:Inv X Ll σ H s)(h:∀p∈a,s.heap.get? p.1=Lg p.2/\H p.1=Lh/\p.1≠X.env.locals/\p.1 ∉ X.fs/\∀v,p.2.data≠.cell v):Inv X a σ H s :=
 (I.ok,I.os,I.bare,I.base,I.loc,I.cell,I.free,I.freeC,λp b=>(eA.mp b).elim (λz=>I.pin p<|gq _ z)<|h p,I.hok,I.len,)
def mq{N:Lw Str}(c:N.Nodup){i j:Nat}{x:Str}(a:N[i]?=Lg x)(b:N[j]?=Lg x):i=j:=by
 let(g,e):=IV.mp a;let(f,d):=IV.mp b;calc(List.getElem_inj c).mp (e.trans d.symm)
def mZ{M:D0}{A:C2}{E:zt->C3->Prop}{i:Nat}{x:Str}{v:V}{u:zt}{Q:Unit->C3->Prop}(I:Inv X Ll σ H s)(hN:X.N.Nodup)(hi:X.N[i]?=Lg x)(B:Loc X.env.scope x)(r:RelV v u)
  (h:∀s',Inv X Ll (σ.set i<|Lg v) H s'->(∃a,Go a s.heap s'.heap/\(a=X.env.locals\/X.env.cells.lookup x=Lg a))->Q () s')(hf:X.fn x=Li\/X.env.scope.names.lookup x=Lg .local:=by first|exact .inl U|exact .inr U|assumption):D2 M A (D7 X.env x u) Q E s:=by
 let(m,hn,hl):=id I.loc;let FD:(X.env.scope.kind == .class || (X.env.scope.kind == .module && X.env.locals != X.env.globals))=false:=by rw[I.ok.kind];rfl
 let F:i<σ.length:=by rw[I.len];exact(IV.mp hi).1
 let cne:=I.cne;let l:∀{a:AM}{h':A1},(∃o,s.heap.get? a=Lg o/\H a=Lh)->Go a s.heap h'->HOk X.prog X.w H h':=λ{a h'} ha f b ob e=>by
  let(_,_,Cb):=ha;refine(I.hok b ob e).stay (λc R t q=>(f.2 c ?_).trans q) (λ_ q=>q) λ_ _ q=>q
  rintro rfl;rcases t with rfl|t
  .rw[Cb]at e;cases e
  .rw[Cb]at t;cases t
 rcases B with D|D
 .refine wpAny_storeName_local D hn (λh' a1 f=>?_) FD;let(oL,_,_,a0,_):=id hn;refine h _ (I.ok,I.os,I.bare,(λb o e n J B=>?_,λb o e n J B=>?_,I.base.free,λb o e B=>?_,I.base.tups,I.base.frzs,I.base.tbls,),(_,a1,λj y T g C e3=>?_,),λy c e=>?_,I.free,I.freeC,λp hp=>?_,l (oL,a0,I.free,) f,~~~I.len,) (_,f,.inl U,)
  .exact(f.2 b<|tj<|tN (bi e) I.ok.above).trans (I.base.keep b o e n J B)
  .let(Y,g):=I.base.slot b o e n J B;exact(Y,(f.2 b<|tj<|tN (bi e) I.ok.above).trans g,)
  .let(o',g):=I.base.there b o e B;exact(o',(f.2 b<|tj<|tN (bi e) I.ok.above).trans g,)
  .by_cases G:j=i
   .subst G;rw[hi]at g;cases g;rw[L5 F]at C;cases C;exact(u,r,.inl (D,by simp,),)
   .rw[Me (FM G)]at C;let(W,Z,q):=hl j y T g C e3;calc(W,Z,?_,);rcases q with⟨k,e⟩|⟨k,c,e,z⟩
    .refine .inl (k,?_,);let:y≠x:=λe=>G<|mq hN g<|e ▸ hi
     simp[this,e]
    .exact .inr (k,c,e,z.sameBut f<|cne y c e,)
  .let(R,z):=I.cell y c e;exact(R,z.sameBut f<|cne y c e,)
  .let(e,n,ne,nf,d):=I.pin p hp;exact((f.2 p.1 ne).trans e,n,ne,nf,d,)
 .let K:X.fn x=true:=by
   rcases hf with z|z
   .exact z
   .rw[z]at D;cases D
  let(c,t):=I.ok.has x<|.inl D;let(R,z):=I.cell x c t;calc wpAny_storeName_cell I.ok.kind D t z<|λh' P f=>?_;let(oc,L,FE):=id z;refine h { s with heap:=h' } (I.ok,I.os,I.bare,(λb o e n J B=>?_,λb o e n J B=>?_,I.base.free,λb o e B=>?_,I.base.tups,I.base.frzs,I.base.tbls,),(m,hn.sameBut f<|FM<|cne x c t,λj y T g C e3=>?_,),λy S e=>?_,I.free,I.freeC,λp hp=>?_,l (oc,L,I.freeC x c t,) f,~~~I.len,) (c,f,.inr t,)
  .exact(f.2 b<|tj<|tN (bi e)<|I.ok.cab x c K t).trans (I.base.keep b o e n J B)
  .let(Y,g):=I.base.slot b o e n J B;exact(Y,(f.2 b<|tj<|tN (bi e)<|I.ok.cab x c K t).trans g,)
  .let(o',g):=I.base.there b o e B;exact(o',(f.2 b<|tj<|tN (bi e)<|I.ok.cab x c K t).trans g,)
  .by_cases G:j=i
   .subst G;rw[hi]at g;cases g;rw[L5 F]at C;cases C;exact(u,r,.inr (.inl D,c,t,P,),)
   .rw[Me (FM G)]at C;let(W,Z,q):=hl j y T g C e3;calc(W,Z,?_,);rcases q with q|⟨k,S,e,z'⟩
    .exact .inl q
    .refine .inr (k,S,e,z'.sameBut f ?_,);rintro rfl;exact G<|mq hN g<|I.ok.inj _ _ _ e t ▸ hi
  .by_cases O:S=c
   .subst O;exact(_,P,)
   .let(w2,z2):=I.cell y S e;exact(w2,z2.sameBut f O,)
  .let(e,n,ne,nf,d):=I.pin p hp;calc((f.2 p.1 ?_).trans e,n,ne,nf,d,);intro q;rw[q,L]at e;let q':oc=p.2:=gl e;calc d R (by rw[←q'];exact FE)
def o9{M:D0}{A:C2}{E:zt->C3->Prop}{i:Nat}{x:Str}{v:V}{u:zt}{Q:Unit->C3->Prop}(I:Inv X Ll σ H s)(c:X.N.Nodup)(hi:X.N[i]?=Lg x)(a:Loc X.env.scope x)(r:RelV v u)
  (h:∀s',Inv X Ll (σ.set i<|Lg v) H s'->Q () s')(b:X.fn x=Li\/X.env.scope.names.lookup x=Lg .local:=by first|exact .inl U|exact .inr U|assumption):D2 M A (D7 X.env x u) Q E s :=
 mZ I c hi a r (λs' d _=>h s' d) b
def Inv.call'{s':C3}{ch:Lw AM}(I:Inv X Ll σ H s)(g:s'.os=s.os)(u:Un (frs X.stack) ch H H' s.heap s'.heap)(a:HOk X.prog X.w H' s'.heap)(h:AllBare s'.gens)
  (d:∀b∈ch,(b∈X.ex\/X.s₀.heap.objs.size<=b)/\b≠X.env.locals/\(∀x c,X.env.cells.lookup x=Lg c->c≠b)/\∀p∈X.pn++Ll,p.1≠b):Inv X Ll σ H' s':=by
 let(h',g',d',t',f):=s';let e:f=s.os:=g;subst e;calc I.call (g':=g') (t':=t') (d':=d') u a h d
end
abbrev XK:=zt->Option AM->Hp->Prop
abbrev St:=List<|Option V
abbrev VK:=V->Hp->Prop
abbrev TE:=St->Hp->VK->Prop
abbrev TT:=St->Hp->(Bool->Hp->Prop)->Prop
abbrev NA:=St->Hp->Prop
abbrev NB:=Hp->Prop
abbrev TA:=St->Hp->(Lw V->NB)->Prop
structure Ends where
 nx:NA
 rt:VK
 bk:NA:=λ_ _=>False
 ct:NA:=λ_ _=>False
abbrev TS:=Ends->NA
inductive EP(X:Cx)(Ll:Lw (AM×Obj))(σ:St)(Q:VK)(u:zt)(s':C3):Prop
 |mk (v:V)(H':Hp)(_:Inv X Ll σ H' s')(_:RelV v u)(_:Q v H'):EP X Ll σ Q u s'
def  TP(X:Cx)(Ll:Lw (AM×Obj))(a:St)(Q:Bool->NB)(b:Bool)(s':C3):Prop:=∃H',Inv X Ll a H' s'/\Q b H'
inductive AP(X:Cx)(Ll:Lw (AM×Obj))(σ:St)(Q:Lw V->NB)(us:Lw zt)(s':C3):Prop
 |mk (vs:Lw V)(H':Hp)(_:Inv X Ll σ H' s')(_:Vals vs us)(_:Q vs H'):AP X Ll σ Q us s'
def  SP(X:Cx)(Ll:Lw (AM×Obj))(D:Ends)(f:Flow)(s':C3):Prop :=
 match f with
 | .next=>∃a H',Inv X Ll a H' s'/\D.nx a H'
 | .brk=>∃a H',Inv X Ll a H' s'/\D.bk a H'
 | .cont=>∃a H',Inv X Ll a H' s'/\D.ct a H'
 | .ret u=>∃v a H',Inv X Ll a H' s'/\RelV v u/\D.rt v H'
def  PE(X:Cx)(e:Ew)(t:TE):Prop :=
 ∀(Ll:Lw (AM×Obj))(s:C3)(a:St)(H:Hp)(Q:VK),Inv X Ll a H s->t a H Q->D2 (model X.prog X.w) X.A (eval e X.env) (EP X Ll a Q) X.xe s
def  PT(X:Cx)(e:Ew)(t:TT):Prop :=
 ∀(Ll:Lw (AM×Obj))(s:C3)(a:St)(H:Hp)(Q:Bool->NB),Inv X Ll a H s->t a H Q->D2 (model X.prog X.w) X.A (ED e X.env<|eval e X.env) (TP X Ll a Q) X.xe s
def  PW(X:Cx)(e:Ew)(t:TT):Prop :=
 ∀(a:Sem zt)(Ll:Lw (AM×Obj))(s:C3)(b:St)(H:Hp)(Q:Bool->NB),Inv X Ll b H s->t b H Q->D2 (model X.prog X.w) X.A (ED e X.env a) (TP X Ll b Q) X.xe s
def PW.pt{X:Cx}{e:Ew}{t:TT}(h:PW X e t):PT X e t:=h _
def  PA(X:Cx)(c:Lw Ew)(t:TA):Prop :=
 ∀(b:Pos)(Ll:Lw (AM×Obj))(s:C3)(a:St)(H:Hp)(Q:Lw V->NB),Inv X Ll a H s->t a H Q->D2 (model X.prog X.w) X.A (spliced<|EE b<|EN c X.env) (AP X Ll a Q) X.xe s
def  PS(X:Cx)(st:EV)(t:TS):Prop :=
 ∀(Ll:Lw (AM×Obj))(s:C3)(a:St)(H:Hp)(D:Ends),Inv X Ll a H s->t D a H->D2 (model X.prog X.w) X.A (exec st X.env) (SP X Ll D) X.xe s
def  PSs(X:Cx)(st:Lw EV)(t:TS):Prop :=
 ∀(Ll:Lw (AM×Obj))(s:C3)(a:St)(H:Hp)(D:Ends),Inv X Ll a H s->t D a H->D2 (model X.prog X.w) X.A (execs st X.env) (SP X Ll D) X.xe s
def thn{b:Type}{t:Sem b}{Q c:b->C3->Prop}{M:D0}{A:C2}{E:zt->C3->Prop}{s:C3}(h:D2 M A t Q E s)(d:∀a s,Q a s->c a s):D2 M A t c E s:=EX h d λ_ _ x=>x
variable{ta tb:TE}{pos:Pos}
section
def  yC(i:Nat)(a:St)(H:Hp)(Q:VK):Prop:=(a[i]?).join.elim False λv=>Q v H
def yC.to{i:Nat}{a:St}{H:Hp}{Q:VK}(h:yC i a H Q):∃v,a[i]?=Lg (Lg v)/\Q v H:=by
 unfold yC at h;cases e:a[i]? with
 |none=>rw[e]at h;exact ut h
 |some o =>
  cases o with
  |none=>rw[e]at h;exact ut h
  |some v=>rw[e]at h;calc(v,U,h,)
def  tC(v:V):TE:=λ_ H Q=>Q v H
def CH{i:Nat}{x:Str}{pos:Pos}(q:X.N[i]?=Lg x)(k:Vis X.env.scope x)(b:(x == ("__debug__" : Str))=false:=by decide) (d:(x == ("__classdict__" : Str))=false:=by decide):PE X (.Name x pos) (yC i):=by
 intro Ll s j H Q I h;let(v,e,h):=h.to;let(m,n,p):=I.loc;let(u,r,l):=p i x v q e k;let fin:EP X Ll j Q u s:=(v,H,I,r,h,);rcases l with⟨a,o⟩|⟨a,c,g,f⟩
 .exact E1 (FC I.ok.kind a n o fin) b
 .rcases a with a|a
  .exact E1 (F0 I.ok.kind a g f fin) b
  .exact E1 (wpAny_loadName_free I.ok.kind a g f fin d) b
def ai{i j pos}:PE X (.Constant (.int i) j pos) (tC<|.int i):=λ_ _ _ H _ I h=>wpAny_Constant_int (.int i,H,I.tok _,(_,U,),h,)
def iW{b j pos}:PE X (.Constant (.bool b) j pos) (tC<|.bl b):=λ_ _ _ H _ I h=>Constant_bool (.bl b,H,I,U,h,)
def aN{x j pos}:PE X (.Constant (.str x) j pos) (tC<|.str x):=λ_ _ _ H _ I h=>Calls.Constant_str (.str x,H,I.tok _,(_,U,),h,)
def  Gl(X:Cx)(x:Str):Prop:=X.env.kindOf x=Lg .globalImplicit
def eV{E:zt->C3->Prop}{Ll:Lw (AM×Obj)}{s:C3}{a:St}{H:Hp}{x:Str}{u:zt}{pos:Pos}{Q:zt->C3->Prop}(I:Inv X Ll a H s)(c:Gl X x)(b:X.mg x=Lg u)(h:Q u s)
  (hd:(x == ("__debug__" : Str))=false:=by decide):D2 (model X.prog X.w) X.A (eval (.Name x pos) X.env) Q E s :=
 ME I.ok.kind c (Calls.loadGlobal_global (by rw[I.ok.glob];exact I.mod.glob.keeps I.bk) b h) hd
def jm{E:zt->C3->Prop}{Ll:Lw (AM×Obj)}{s:C3}{a:St}{H:Hp}{x:Str}{u:zt}{pos:Pos}{Q:zt->C3->Prop}(I:Inv X Ll a H s)(e:Gl X x)(d:X.mg x=Lh)(b:CP x=Lg u)(h:Q u s)
  (c:x ≠ "__name__" := by decide) (hd:(x == ("__debug__" : Str))=false:=by decide):D2 (model X.prog X.w) X.A (eval (.Name x pos) X.env) Q E s:=by
 let(i,g,f):=I.mod.blt;calc ME I.ok.kind e (Calls.loadGlobal_builtin (by rw[I.ok.glob];exact I.mod.glob.keeps I.bk) d (by rw[I.ok.blt];exact g.keeps I.bk) ((f x c).trans b) h) hd
def fm{x:Str}{v:V}{u:zt}{pos:Pos}(b:Gl X x)(a:X.mg x=Lg u)(r:RelV v u)(c:(x == ("__debug__" : Str))=false:=by decide):PE X (.Name x pos) (tC v) :=
 λ_ _ _ H _ I h=>eV I b a (v,H,I,r,h,) c
def wo{x:Str}{v:V}{u:zt}{pos:Pos}(d:Gl X x)(c:X.mg x=Lh)(a:CP x=Lg u)(r:RelV v u)(b:x ≠ "__name__" := by decide) (hd:(x == ("__debug__" : Str))=false:=by decide):PE X (.Name x pos) (tC v) :=
 λ_ _ _ H _ I h=>jm I d c a (v,H,I,r,h,) b hd
variable{a b:Ew}
inductive tBq  (Q:Bool->NB)(x:V)(H1:Hp):Prop
 |mk (c:_)(_:x=.bl c)(_:Q c H1):tBq Q x H1
def  tB(t:TE):TT:=λa H Q=>t a H λx b=>tBq Q x b
def bH{e:Ew}{t:TE}(h:PE X e t)(i:∀a,ED e X.env a=(do let v ←a;F6 e.pos;holding [v] (truthy v)):=by intro _;rfl):PT X e (tB t):=by
 intro Ll s b H Q I g;calc isTrue_plain (thn (h Ll s b H _ I g) λv l (x,k,j,c,f,)=>?_)<|i _;let(d,rfl,q):=f;cases c;calc F7 (k,j,q,)
variable{tA tB':TT}{rest:Lw Ew}
def  FG(t u:TT):TT:=λa H Q=>t a H λc b=>if c=Li then u a b Q else Q Lj b
def  tOr(t u:TT):TT:=λa H Q=>t a H λc b=>if c=Li then Q Li b else u a b Q
def  FH(t:TT):TT:=λa H Q=>t a H λc b=>Q (!c) b
def fX(d:PT X a tA):PW X (.BoolOp .And [a] pos) tA:=by
 intro f Ll s b H Q I h;calc isTrue_and<|thn (d Ll s b H Q I h) λc g e=>?_;cases c with
 |true=>exact isTrue_and_nil e
 |false=>calc e
def iH(d:PT X a tA):PW X (.BoolOp .Or [a] pos) tA:=by
 intro f Ll s b H Q I h;calc isTrue_or<|thn (d Ll s b H Q I h) λc g e=>?_;cases c with
 |false=>exact isTrue_or_nil e
 |true=>calc e
def iI(l:PT X a tA)(k:PW X (.BoolOp .And (b :: rest) pos) tB'):PW X (.BoolOp .And (a :: b :: rest) pos) (FG tA tB'):=by
 intro i Ll s d H Q I h;calc isTrue_and<|thn (l Ll s d H _ I h) λc j (g,f,e,)=>?_;cases c with
 |true=>exact k i Ll j d g Q f e
 |false=>calc(g,f,e,)
def jT(l:PT X a tA)(k:PW X (.BoolOp .Or (b :: rest) pos) tB'):PW X (.BoolOp .Or (a :: b :: rest) pos) (tOr tA tB'):=by
 intro i Ll s d H Q I h;calc isTrue_or<|thn (l Ll s d H _ I h) λc j (g,f,e,)=>?_;cases c with
 |true=>exact(g,f,e,)
 |false=>calc k i Ll j d g Q f e
def cK(d:PT X a tA):PT X (.UnaryOp .Not a pos) (FH tA):=by
 intro Ll s b H Q I h;calc isTrue_not<|d Ll s b H (λc e=>Q (!c) e) I h
inductive yD(tb:TE)(σ:St)(Q:VK)(x:V)(H1:Hp):Prop
 |mk (c:_)(_:x=.bl c)(_:if c=Li then tb σ H1 Q else Q (.bl Lj) H1)
def  D8(ta tb:TE):TE:=λa H Q=>ta a H λx b=>yD tb a Q x b
inductive yE  (Q:VK)(x:V)(H1:Hp):Prop
 |mk (c:_)(_:x=.bl c)(_:Q (.bl<|!c) H1):yE Q x H1
def  D9(ta:TE):TE:=λa H Q=>ta a H λx b=>yE Q x b
def iJ{op} {t:TE}(h:PE X a t):PE X (.BoolOp op [a] pos) t:=λLl s b H Q I c=>BoolOp_one<|h Ll s b H Q I c
def fO(l:PE X a ta)(k:PE X (.BoolOp .And (b :: rest) pos) tb):PE X (.BoolOp .And (a :: b :: rest) pos) (D8 ta tb):=by
 intro Ll s e H Q I h;calc BoolOp_and<|thn (l Ll s e H _ I h) λv i (x,g,f,j,d,)=>?_;let(c,rfl,d):=d;cases j;calc F7 ?_;cases c with
 |true=>exact k Ll i e g Q f d
 |false=>calc(.bl Lj,g,f,U,d,)
def CI(f:PE X a ta):PE X (.UnaryOp .Not a pos) (D9 ta):=by
 intro Ll s d H Q I h;calc UnaryOp_<|thn (f Ll s d H _ I h) λv j (x,i,g,e,b,)=>?_;let(c,rfl,b):=b;cases e;calc not_of<|F7 (.bl<|!c,i,g,U,b,)
def  tIf(t:TT)(ta tb:TE):TE:=λa H Q=>t a H λc b=>if c=Li then ta a b Q else tb a b Q
def mr{c:Ew}(k:PT X c tA)(m:PE X a ta)(l:PE X b tb):PE X (.IfExp c a b pos) (tIf tA ta tb):=by
 intro Ll s e H Q I h;calc wpAny_IfExp<|thn (k Ll s e H _ I h) λd f (j,i,g,)=>?_;cases d with
 |true=>exact m Ll f e j Q i g
 |false=>calc l Ll f e j Q i g
end
def  SqL(K:ac)(H:Hp)(a:AM)(xs:Lw V):Prop :=
 Rd H a (.lst xs) \/
  ∃(o:Obj)(b:Array zt)(n:Nat),K.lookup a=Lg o/\o.cls=.type "list" /\ o.dict=Lh/\o.data=.seq b n/\b.size<=A8/\Vals xs b.toList
def  SqT(K:ac)(H:Hp)(a:AM)(xs:Lw V):Prop :=
 Rd H a (.tup xs) \/
  ∃(o:Obj)(b:Array zt)(n:Nat),K.lookup a=Lg o/\o.cls=.type "tuple" /\ o.data=.seq b n/\b.size<=A8/\Vals xs b.toList
def  FI:zt->Option V
 | .none=>Lg .non
 | .bool b=>Lg<|.bl b
 | .int i _=>Lg<|.int i
 | .str x _=>Lg<|.str x
 | .bytes b _=>Lg<|.byt b
 | .float b _=>Lg<|.flt b
 | .ref a=>↑a
 | .type n=>Lg<|.ty n
 |_=>Lh
def RelV.abs{x:V}{u:zt}(r:RelV x u):FI u=Lg x:=by
 cases x with
 |non=>cases r;rfl
 |bl _=>cases r;rfl
 |int _=>obtain⟨t,rfl⟩:=r;rfl
 |str _=>obtain⟨t,rfl⟩:=r;rfl
 |byt _=>obtain⟨t,rfl⟩:=r;rfl
 |flt _=>obtain⟨t,rfl⟩:=r;rfl
 |ref _=>cases r;rfl
 |ty _=>cases r;rfl
def RelV.inj{x y:V}{u:zt}(r:RelV x u)(q:RelV y u):x=y:=gl<|r.abs.symm.trans q.abs
def Vals.inj:∀{xs ys:Lw V}{us:Lw zt},Vals xs us->Vals ys us->xs=ys
 |_,_,_,.nil,.nil=>rfl
 |_,_,_,.cons r t,.cons r' t'=>by rw[r.inj r',Vals.inj t t']
variable{σ:St}
section
variable{xs ys:Lw V}
def SqL.of{K:ac}(h:H a=Lg (.lst xs)):SqL K H a xs:=.inl<|.inl h
def SqT.of{K:ac}(h:H a=Lg (.tup xs)):SqT K H a xs:=.inl<|.inl h
def Inv.list(I:Inv X Ll σ H s)(h:SqL X.K H a xs):∃b:Lw zt,Vals xs b/\PlainL s.heap a b.toArray/\⇑xs<=A8:=by
 rcases h with h|⟨o,b,n,d,g,f,c,i,r⟩
 .let(z,b,n,r,e):=h.ok I.hok;exact(b,r,(_,n,e,U,U,U,),z,)
 .refine(b.toList,r,(o,n,I.kIn a o d,g,f,~~~c,),?_,);let e:=⇑r;simp only[xO]at e;lia
def Inv.tuple(I:Inv X Ll σ H s)(h:SqT X.K H a xs):∃b:Lw zt,Vals xs b/\IsTup s.heap a b.toArray/\⇑xs<=A8:=by
 rcases h with h|⟨o,b,n,d,f,c,g,r⟩
 .let(z,b,r,p):=h.ok I.hok;exact(b,r,p,z,)
 .refine(b.toList,r,(o,I.kIn a o d,f,n,~~~c,),?_,);let e:=⇑r;simp only[xO]at e;lia
def Inv.list_inj(I:Inv X Ll σ H s)(h:SqL X.K H a xs)(h':SqL X.K H a ys):xs=ys:=by
 let(c,r,(o,n,e,_,_,d),_):=I.list h;let(b,i,(k,l,f,_,_,g),_):=I.list h';rw[e]at f;cases f;rw[d]at g;injection g with j _;let:c=b:= ~~~Lu Mq j
 subst this;calc r.inj i
def Inv.tuple_inj(I:Inv X Ll σ H s)(h:SqT X.K H a xs)(h':SqT X.K H a ys):xs=ys:=by
 let(c,r,(o,e,_,n,d),_):=I.tuple h;let(b,i,(k,f,_,l,g),_):=I.tuple h';rw[e]at f;cases f;rw[d]at g;injection g with j _;let:c=b:= ~~~Lu Mq j
 subst this;calc r.inj i
end
open SqT renaming of→Nx
open SqL renaming of→Nw
abbrev Cx.wish(X:Cx)(E:zt->C3->Prop):Cx:={ X with xe:=E }
abbrev Cx.nox(X:Cx):Cx:=X.wish λ_ _=>False
open Cx renaming wish→Ny,nox→Nz
def Cx.Ok.wish{X:Cx}(ok:X.Ok)(E:zt->C3->Prop):(X.wish E).Ok :=
 (ok.mod,ok.kind,ok.glob,ok.blt,ok.above,ok.inj,ok.has,ok.cab,ok.hd,ok.frames,ok.stk,ok.exf,ok.bs,ok.bsz,ok.noex,ok.exfs,ok.funs,ok.frf,)
def Cx.Ok.unwish{X:Cx}{E:zt->C3->Prop}(ok:(X.wish E).Ok):X.Ok :=
 (ok.mod,ok.kind,ok.glob,ok.blt,ok.above,ok.inj,ok.has,ok.cab,ok.hd,ok.frames,ok.stk,ok.exf,ok.bs,ok.bsz,ok.noex,ok.exfs,ok.funs,ok.frf,)
variable{E:zt->C3->Prop}
def Inv.wish(I:Inv X Ll σ H s)(E:zt->C3->Prop):Inv (X.wish E) Ll σ H s:=(I.ok.wish E,I.os,I.bare,I.base,I.loc,I.cell,I.free,I.freeC,I.pin,I.hok,I.len,)
def Inv.unwish(I:Inv (X.wish E) Ll σ H s):Inv X Ll σ H s:=(I.ok.unwish,I.os,I.bare,I.base,I.loc,I.cell,I.free,I.freeC,I.pin,I.hok,I.len,)
def SP.unwish{D:Ends}{f:Flow}{s':C3}(h:SP (X.wish E) Ll D f s'):SP X Ll D f s':=by
 cases f with
 |next=>obtain⟨a,H',I,q⟩:=h;exact(a,H',I.unwish,q,)
 |brk=>obtain⟨a,H',I,q⟩:=h;exact(a,H',I.unwish,q,)
 |cont=>obtain⟨a,H',I,q⟩:=h;exact(a,H',I.unwish,q,)
 |ret u=>obtain⟨v,a,H',I,r,q⟩:=h;calc(v,a,H',I.unwish,r,q,)
def PSs.nox{st:Lw EV}{t:TS}(h:PSs X.nox st t):PSs X st t:=λLl s σ H D I a =>
 EX (h Ll s σ H D (I.wish _) a) (λ_ _ q=>q.unwish) λ_ _ z=>ut z
variable{e:Ew}{te:TE}
section
variable{st:EV}{rest:Lw EV}{t u:TS}
def  Ea:TS:=λD σ H=>D.nx σ H
def  ba(t u:TS):TS:=λD σ H=>t { D with nx:=u D } σ H
def aE:PSs X [] Ea:=λ_ _ σ H _ I h=>Gs (σ,H,I,h,)
def ao(d:PS X st t)(c:PSs X rest u):PSs X (st :: rest) (ba t u):=by
 intro Ll s σ H D I h;calc IE<|thn (d Ll s σ H { D with nx:=u D } I h) λf b q=>?_;cases f with
 |next =>
  let(a,H',e,q):=q;exact c Ll b a H' D e q
 |ret v=>exact q
 |brk=>exact q
 |cont=>calc q
def ag(a:PS X st t):PSs X [st] t:=by
 intro Ll s σ H D I h;calc IE<|thn (a Ll s σ H D I h) λf b q=>?_;cases f with
 |next=>exact Gs q
 |ret v=>exact q
 |brk=>exact q
 |cont=>calc q
def  Eb:TS:=λD σ H=>D.ct σ H
def tI:PS X (.Continue pos) Eb:=λ_ _ σ H _ I h=>wpAny_Continue (σ,H,I,h,)
def Inv.quiet{Ll:Lw (AM×Obj)}{σ:St}{H:Hp}{s:C3}(I:Inv X Ll σ H s):interactive X.env=false:=by simp[interactive,I.ok.kind]
def  Ec(te:TE):TS:=λD σ H=>te σ H λ_ a=>D.nx σ a
def aX(c:PE X e te)(b:IG e Lh pos.line X.env=pure false:=by rfl):PS X (.Expr e pos) (Ec te):=by
 intro Ll s σ H D I h;calc wpAny_Expr_any (thn (c Ll s σ H _ I h) λv g (x,f,d,i,a,)=>(σ,f,d,a,)) I.quiet b
def  FJ(te:TE):TS:=λD σ H=>te σ H D.rt
def aI(c:PE X e te):PS X (.Return (Lg e) pos) (FJ te):=by
 intro Ll s σ H D I h;calc IX<|thn (c Ll s σ H _ I h) λv g (x,f,d,a,b,)=>(x,σ,f,d,a,b,)
def  Ed:TS:=λD _ H=>D.rt .non H
def AS:PS X (.Return Lh pos) Ed:=λ_ _ σ H _ I h=>wpAny_Return_none (.non,σ,H,I,U,h,)
def  FK(c:TT)(t u:TS):TS:=λD σ H=>c σ H λb a=>if b=Li then t D σ a else u D σ a
def aQ{c:Ew}{a b:Lw EV}{e:TT}(k:PT X c e)(m:PSs X a t)(l:PSs X b u):PS X (.If c a b pos) (FK e t u):=by
 intro Ll s σ H D I h;calc wpAny_If<|thn (k Ll s σ H _ I h) λd f (j,i,g,)=>?_;cases d with
 |true=>exact m Ll f σ j D i g
 |false=>calc l Ll f σ j D i g
def  CJ:TS:=λ_ _ _=>False
def bj:PS X st CJ:=λ_ _ _ _ _ _ h=>h.elim
end
abbrev TG:=V->St->Hp->(NA)->Prop
abbrev TGs:=Lw V->St->Hp->(NA)->Prop
def  PG(X:Cx)(a:Ew)(t:TG):Prop :=
 ∀(Ll:Lw (AM×Obj))(s:C3)(σ:St)(H:Hp)(v:V)(u:zt)(Q:NA),Inv X Ll σ H s->RelV v u->t v σ H Q ->
  D2 (model X.prog X.w) X.A (assign a X.env u) (λ_ c=>∃b H',Inv X Ll b H' c/\Q b H') X.xe s
def  PGs(X:Cx)(d:Lw Ew)(t:TGs):Prop :=
 ∀(Ll:Lw (AM×Obj))(s:C3)(σ:St)(H:Hp)(b:Lw V)(c:Lw zt)(Q:NA),Inv X Ll σ H s->Vals b c->t b σ H Q ->
  D2 (model X.prog X.w) X.A (assignInOrder ((IY d X.env).map (·.2)) c) (λ_ e=>∃a H',Inv X Ll a H' e/\Q a H') X.xe s
abbrev CK:=V->V->V->Hp->(NB)->Prop
def  Ee(X:Cx)(t:CK):Prop :=
 ∀(Ll:Lw (AM×Obj))(s:C3)(σ:St)(H:Hp)(o i v:V)(a b u:zt)(Q:NB),Inv X Ll σ H s->RelV o a->RelV i b->RelV v u->t o i v H Q ->
  D2 (model X.prog X.w) X.A (setItem a b u) (λ_ c=>∃H',Inv X Ll σ H' c/\Q H') X.xe s
abbrev TIp:=V->V->Hp->VK->Prop
def  PIp(X:Cx)(a:IZ)(t:TIp):Prop :=
 ∀(Ll:Lw (AM×Obj))(s:C3)(σ:St)(H:Hp)(x y:V)(v u:zt)(Q:VK),Inv X Ll σ H s->RelV x v->RelV y u->t x y H Q ->
  D2 (model X.prog X.w) X.A (inplaceOp a v u) (EP X Ll σ Q) X.xe s
def  qC(i:Nat):TG:=λv σ H Q=>Q (σ.set i<|Lg v) H
def aG{i:Nat}{x:Str}(c:X.N.Nodup)(hi:X.N[i]?=Lg x)(a:Loc X.env.scope x)(b:X.fn x=Li\/X.env.scope.names.lookup x=Lg .local:=by first|exact .inl U|exact .inr U|assumption):PG X (.Name x pos) (qC i):=by
 intro Ll s σ H v u Q I r h;calc Ja<|o9 I c hi a r (λe d=>(_,H,d,h,)) b
def  FL:TGs:=λa σ H Q=>a=[]/\Q σ H
def  Ef(t:TG)(u:TGs):TGs:=λb σ H Q=>∃v r,b=v :: r/\t v σ H λa H'=>u r a H' Q
def bC:PGs X [] FL:=by
 intro Ll s σ H a b Q I r h;let(e,h):=h;subst e;cases r;calc assignInOrder_nil (σ,H,I,h,)
def aL{e:Ew}{a:Lw Ew}{t:TG}{u:TGs}(j:PG X e t)(i:PGs X a u)
  (g:(IY (e :: a) X.env).map (·.2)=assign e X.env :: (IY a X.env).map (·.2):=by rfl):PGs X (e :: a) (Ef t u):=by
 intro Ll s σ H n p Q I r h;let(v,o,k,h):=h;subst k;cases r with
 |cons r d =>
  rw[g];calc assignInOrder_cons<|thn (j Ll s σ H _ _ _ I r h) λ_ c (b,m,l,f,)=>?_;calc i Ll c b m _ _ Q l d f
def  Eg(K:ac)(n:Nat)(t:TGs):TG:=λv σ H Q=>∃a b,v=.ref a/\SqT K H a b/\⇑b=n/\t b σ H Q
def fb{c:Lw Ew}{k:Nat}{t:TGs}{n:Nat}(w:X.calm=Li)(h:PGs X c t)
  (p:⇑(IY c X.env)=n:=by rfl)(f:(IY c X.env).findIdx? (·.1)=none:=by rfl):PG X (.Tuple c k pos) (Eg X.K n t):=by
 intro Ll s σ H v u Q I r d;let(a,i,x,m,q,d):=d;subst x;cases r;let(z,g,l,A):=I.tuple m;refine assign_Tuple_tuple (I.ok.hd w) l (by simp[p,←q,⇑g]) f λh' j=>?_
 let y:Inv X Ll σ H { s with heap:=h' }:=I.kept (t':=s.toks) λb o e=>j b o (tj<|bi e) e
 calc h Ll _ σ H i _ Q y (~~~g) d
def  FN(to a:TE)(t:CK):TG:=λv σ H Q=>to σ H λo d=>a σ d λi c=>t o i v c λb=>Q σ b
def CM{o i:Ew}{to c:TE}{t:CK}(n:PE X o to)(hi:PE X i c)(m:Ee X t)
  (p:∀v,assign (.Subscript o i pos) X.env v=(do
   let a ←holding [v] (eval o X.env)
   let b ←holding [v,a] (eval i X.env)
   F6 pos
   holding [v,a,b] (setItem a b v)
   release [v,a,b] []):=by intro _;rfl):PG X (.Subscript o i pos) (FN to c t):=by
 intro Ll s σ H v u Q I r h;rw[p];calc yN<|zb<|thn (n Ll s σ H _ I h) λa e (x,C,z,g,l,)=>?_;calc yN<|zb<|thn (hi Ll e σ C _ z l) λb d (y,B,w,f,k,)=>?_;calc yN<|Jb<|yN<|zb<|thn (m Ll d σ B x y v a b u _ w g f r k) λ_ D (A,q,j,)=>?_;calc wpAny_release (σ,A,q,j,)
def  AU(te:TE)(g:TG):TS:=λD σ H=>te σ H λx a=>g x σ a D.nx
def m4{a e:Ew}{te:TE}{g:TG}(k:PE X e te)(j:PG X a g)(i:swapsWithSole [a] e pos.line X.env=pure false:=by rfl)(f:swappedStores [a] e X.env=pure none:=by rfl)
  (l:(IY [a] X.env).map (·.2)=[assign a X.env]:=by rfl):PS X (.Assign [a] e pos) (AU te g):=by
 intro Ll s σ H D I h;calc wpAny_Assign_stores (thn (k Ll s σ H _ I h) λv b (x,n,m,c,d,)=>?_) i f;rw[l];calc thn (j Ll b σ n x v _ m c d) λ_ o q=>q
def aJ{i:Nat}{x:Str}{e:Ew}{te:TE}{a:Pos}(k:X.N.Nodup)(hi:X.N[i]?=Lg x)(d:Loc X.env.scope x)(j:PE X e te)(f:IG e (Lg<|.Name x a) pos.line X.env=pure false:=by rfl)(g:X.fn x=Li\/X.env.scope.names.lookup x=Lg .local:=by first|exact .inl U|exact .inr U|assumption) :
  PS X (.Assign [.Name x a] e pos) (AU te<|qC i):=by
 intro Ll s σ H D I h;calc wpAny_Assign_Name (thn (j Ll s σ H _ I h) λv p (y,n,m,b,c,)=>?_) f;calc o9 m k hi d b (λo l=>(_,n,l,c,)) g
inductive Eh(i:Nat)(te:TE)(ti:TIp)(D:Ends)(σ:St)(H:Hp):Prop
 |mk (x:_)(_:σ[i]?=Lg (Lg x))(_:te σ H λy H1=>ti x y H1 λz H2=>D.nx (σ.set i<|Lg z) H2)
def yF{i:Nat}{x:Str}{e:Ew}{te:TE}{g:IZ}{o:TIp}{f:Pos}(Q:X.N.Nodup)(hi:X.N[i]?=Lg x)(j:Loc X.env.scope x)(O:PE X e te)(G:PIp X g o)(M:X.fn x=Li\/X.env.scope.names.lookup x=Lg .local:=by first|exact .inl U|exact .inr U|assumption) :
  PS X (.AugAssign (.Name x f) g e pos) (Eh i te o):=by
 intro Ll s σ H D I h;let(v,R,h):=h;let(m,J,L):=I.loc;let n:Vis X.env.scope x:=by rcases j with k|k;calc .inl k;exact .inr<|.inl k
 let(u,r,l):=L i x v hi R n;calc wpAny_AugAssign_Name ?_;let p:D2 (model X.prog X.w) X.A (eval e X.env) (λw d=>D2 (model X.prog X.w) X.A (inplaceOp g u w) (λr b=>D2 (model X.prog X.w) X.A (D7 X.env x r) (λ_=>SP X Ll D .next) X.xe b) X.xe d) X.xe s:=by
  refine thn (O Ll s σ H _ I h) λw q (y,Y,V,B,E,)=>?_
  refine thn (G Ll q σ Y v y u w _ V r B E) λz s2 (Z,W,T,t,C,)=>?_
  exact o9 T Q hi j t (λs3 S=>(_,W,S,C,)) M
 rcases l with⟨a,K⟩|⟨a,c,P,F⟩
 .exact FC I.ok.kind a J K p
 .rcases a with a|a
  .exact F0 I.ok.kind a P F p
  .rcases j with k|k
   .let:X.env.scope.names.lookup x=Lg .free:=a;rw[k]at this;cases this
   .let:X.env.scope.names.lookup x=Lg .free:=a;rw[k]at this;cases this
def  ipI(f:Int->Int->Int):TIp:=λx y H Q=>∃i j,x=.int i/\y=.int j/\Q (.int<|f i j) H
def yG:PIp X .Add (ipI λi j=>i+j):=by
 intro Ll s σ H x y v u Q I b a h;let(i,j,d,c,q):=h;subst d;subst c;let(t,rfl):=b;let(e,rfl):=a;calc iadd_int (.int _,H,I.tok _,(_,U,),q,)
def  CN(c:TT)(tb:TS):TS:=λD σ H=>∃W:Nat->NA,(∃m,W m σ H)/\∀m σ H,W m σ H ->
 c σ H λb e=>if b=Li then ∃N:NA,(∀a H',N a H'->∃d,d<m/\W d a H')/\tb { D with nx:=N,ct:=N,bk:=D.nx } σ e else D.nx σ e
def tJ{c:Ew}{body:Lw EV}{q:TT}{tb:TS}(r:Jc (model X.prog X.w) X.A X.env X.xe)(J:PT X c q)(K:PSs X body tb):PS X (.While c body [] pos) (CN q tb):=by
 intro Ll s σ H D I h;let(W,(G,B),turn):=h;calc wpAny_While<|codeAny_whileLoop (λn F=>∃g H',Inv X Ll g H' F/\W n g H') ?_ G (σ,H,I,B,);rintro n E ⟨d,y,L,z⟩;calc Jd r<|thn (J Ll E d y _ L<|turn n d y z) λb C (x,u,j,)=>?_;cases b with
 |true =>
  let(N,t,j):=j;rw[Lo U];calc Jd r<|thn (K Ll C d x _ u j) λf M i=>?_;cases f with
  |next =>
   let(a,e,p,l):=i;let(m,o,k):=t a e l;exact(m,o,a,e,p,k,)
  |cont =>
   let(a,e,p,l):=i;let(m,o,k):=t a e l;exact(m,o,a,e,p,k,)
  |brk=>exact i
  |ret v=>exact i
 |false =>
  rw[Lm bv];calc Gs (d,x,u,j,)
structure It where
 go:Nat->NB
 yld:Nat->Hp->V->NB
 stop:Nat->NB
def  kX(X:Cx)(Ll:Lw (AM×Obj))(H:Hp)(b:AM):Prop :=
 H b=Lh/\b≠X.env.locals/\b ∉ X.fs/\(b∈X.ex\/X.s₀.heap.objs.size<=b)/\(∀x c,X.env.cells.lookup x=Lg c->c≠b)/\∀p∈X.pn++Ll,p.1≠b
def Inv.fpOk{X:Cx}{Ll:Lw (AM×Obj)}{σ:St}{H H':Hp}{s:C3}{b:AM}(I:Inv X Ll σ H s)(a:↥s<=b)(f:H' b=Lh):kX X Ll H' b:=by
 refine(f,uK<|tN I.lt a,I.nofs a,.inr<|tm I.sz a,λx c e z=>?_,λp d z=>?_,)
 .let(v,q):=I.cell x c e;exact Lp (tN q.lt (by rw[z];exact a)) (vd _)
 .exact Lp (tN (bi (I.pin p d).1) (by rw[z];exact a)) (vd _)
structure Turn(P:zA)(w:zz)(K:ac)(tg:Ew)(J:It)(fp:Lw AM)(it:AM)(tn:Nat->A1->Prop):Prop where
 mem:it∈fp
 obj:∀i h,tn i h->∀b∈fp,∃o,h.get? b=Lg o/\∀v,o.data≠.cell v
 keep:∀i h h',tn i h->(∀b∈fp,∀o,h.get? b=Lg o->h'.get? b=Lg o)->tn i h'
 item:∀(X:Cx),X.prog=P->X.w=w->X.K=K->X.calm=Li->∀(i:Nat)(Ll:Lw (AM×Obj))(s:C3)(σ:St)(H:Hp)(E:zt->C3->Prop),Inv X Ll σ H s->(∀b∈fp,kX X Ll H b)->tn i s.heap->J.go i H ->
  D2 (model P w) X.A (Je<|.ref it) (λr s1=>∃u,r=Lg u /\
   D2 (model P w) X.A (Jf tg (.ref it) u) (λ_ s2=>∃x H',Inv X Ll σ H' s2/\RelV x u/\J.yld i H x H'/\tn (i+1) s2.heap/\∀b∈fp,H' b=Lh) E s1) E s
 done:∀(X:Cx),X.prog=P->X.w=w->X.K=K->X.calm=Li->∀(i:Nat)(Ll:Lw (AM×Obj))(s:C3)(σ:St)(H:Hp)(E:zt->C3->Prop),Inv X Ll σ H s->(∀b∈fp,kX X Ll H b)->tn i s.heap->J.stop i H ->
  D2 (model P w) X.A (Je<|.ref it) (λr s1=>r=Lh/\Inv X Ll σ H s1) E s
 self:∀(A:C2)(i:Nat)(s:C3)(Q:zt->C3->Prop)(E:zt->C3->Prop),tn i s.heap->Q (.ref it) s->D2 (model P w) A (Jg<|.ref it) Q E s
abbrev TI:=St->Hp->(It->NB)->Prop
def  PIE(X:Cx)(Ll:Lw (AM×Obj))(σ:St)(g:Ew)(R:It->NB)(a:zt)(d:C3):Prop :=
 ∃(e:AM)(f:Lw AM)(c:Nat->A1->Prop)(J:It)(H':Hp),a=.ref e/\Inv X Ll σ H' d/\Turn X.prog X.w X.K g J f e c/\c 0 d.heap/\(∀b∈f,kX X Ll H' b)/\R J H'
def  PI(X:Cx)(c a:Ew)(b:TI):Prop :=
 ∀(Ll:Lw (AM×Obj))(s:C3)(σ:St)(H:Hp)(R:It->NB),Inv X Ll σ H s->b σ H R ->
  D2 (model X.prog X.w) X.A (eval a X.env) (λv d=>D2 (model X.prog X.w) X.A (Jg v) (PIE X Ll σ c R) X.xe d) X.xe s
def wq{M:D0}{A:C2}{E:zt->C3->Prop}{s:C3}{b:Ew}{it:AM}{u:zt}{o:Obj}{n:String}{vs:Array zt}{Q:Unit->C3->Prop}(c:s.heap.get? it=Lg o)(f:o.cls=.type n)(e:o.data=.fields vs)
  (d:["enumerate","zip","dict_itemiterator","dict_reverseitemiterator","odict_iterator","itertools.zip_longest","itertools.pairwise"].contains n=Lj) (a:Q () s):D2 M A (Jf b (.ref it) u) Q E s:=by
 unfold Jf
 cases b <;> first
  |exact yU a
  |(cases u <;> first
    |exact yU a
    |(calc yN (wpAny_load c ?_);rw[f,e];show D2 M A (if (["enumerate","zip","dict_itemiterator","dict_reverseitemiterator","odict_iterator","itertools.zip_longest","itertools.pairwise"].contains n && vs[0]? == Lg (Jh _))=Li then _ else _) Q E s;rw[Lm (by intro h;rw[d,ww]at h;cases h)];exact yU a))
def  Itl(K:ac)(a:AM):It :=
 (λi H=>∃b x,SqL K H a b/\b[i]?=Lg x,λi H x H'=>H'=H/\∀b,SqL K H a b->b[i]?=Lg x,λi H=>∃b,SqL K H a b/\⇑b<=i,)
def  Itr(lo:Int)(n:Nat):It:=(λi _=>i<n,λi H x H'=>H'=H/\x=.int (lo+i),λi _=>n<=i,)
def xu{P:zA}{w:zz}{K:ac}{N:Ew}(a it:AM):Turn P w K N (Itl K a) [it] it (λi h=>h.IsListIter it a i) where
 mem:=by simp
 obj:=λi h f b g=>by
  let e:b=it:= ~~~g
  subst e;let(o,e,c,d):=f;exact⟨o,e,λv z=>by rw[d]at z;cases z⟩
 keep:=λi h h' f k=>f.at λo e=>k it (by simp) o e
 item:=by
  intro X y r A L i Ll s σ H E I m f t;subst y r A;let(M,x,l,q):=t;let(J,n,p,R):=I.list l;let(u,T,Q):=n.get q;let(G,F,V,D,C,B):=m it (by simp);refine Ji f p.isList (x:=u) (~~~T) λh' j O=>?_
  let Z:Inv X Ll σ H { s with heap:=h' }:=I.turned (t':=s.toks) (λb o g e=>(O.2 b g).trans e) G F D C B;let(o,e,c,d):=id j;exact(u,U,wq (s:={ s with heap:=h' }) e c d ⋯ (x,H,Z,Q,(U,λys S=>by rw[I.list_inj S l];exact q,),j,λb g=>(m b g).1,),)
 done:=by
  intro X y r A L i Ll s σ H E I m f t;subst y r A;let(M,l,q):=t;let(J,n,p,R):=I.list l;let(G,F,V,D,C,B):=m it (by simp);let hl:=⇑n;exact Jj (I.ok.hd L) f p.isList (by simp;lia) λh' Y=>(U,I.turned (t':=s.toks) (λb o g e=>Y b o g e) G F D C B,)
 self:=λ_ _ _ _ _ f h=>wpAny_pyIter_listiter f h
def uU{P:zA}{w:zz}{K:ac}{C:Ew}(it:AM)(lo:Int)(n:Nat):Turn P w K C (Itr lo n) [it] it (λi h=>IsRangeIter h it (lo+(i:Nat)*1) ((n:Int)-(i:Nat)) 1) where
 mem:=by simp
 obj:=λi h a b c=>by
  let e:b=it:= ~~~c
  subst e;exact⟨_,a,λv z=>by
   let B:Data.fields _=Data.cell v:=z;cases B⟩
 keep:=λi h h' a k=>k it (by simp) _ a
 item:=by
  intro X m g p l i Ll s σ H E I f a j;subst m g p;let(y,x,G,u,r,q):=f it (by simp);let W:=Walks.range (prog:=X.prog) (w:=X.w) (I.ok.hd l) it lo 1 n;refine W.item i s _ _ j a λv h' A F d D=>?_
  let(t,rfl):=F;let L:Inv X Ll σ H { s with heap:=h',toks:=A }:=I.turned (λb o c e=>D b o (~~~c) e) y x u r q;calc(_,U,wq (s:={ s with heap:=h',toks:=A }) (n := "range_iterator") d U U ⋯ (.int<|lo+i,H,L,(t,?_,),(U,U,),d,λb c=>(f b c).1,),);rw[Int.mul_one]
 done:=by
  intro X m g p l i Ll s σ H E I f a j;subst m g p;let(y,x,G,u,r,q):=f it (by simp);exact wpAny_pyNext_range_end (I.ok.hd l) a (by have:n<=i:=j;lia) λh' J=>(U,I.turned (t':=s.toks) (λb o c e=>J b o c e) y x u r q,)
 self:=λ_ _ _ _ _ a h=>wpAny_pyIter_rangeiter a h
section
variable{tg:Ew}
inductive yH(K:ac)(R:It->NB)(x:V)(H1:Hp):Prop
 |mk (a:_)(_:x=.ref a)(_:(∃xs,SqL K H1 a xs))(_:R (Itl K a) H1)
def  Ei(K:ac)(tl:TE):TI:=λσ H R=>tl σ H λx a=>yH K R x a
def aT{l:Ew}{tl:TE}(j:PE X l tl):PI X tg l (Ei X.K tl):=by
 intro Ll s σ H R I h;refine thn (j Ll s σ H _ I h) λv c (x,m,d,f,g,)=>?_
 let(a,e,(r,i),q):=g;subst e;cases f;let(n,t,p,u):=d.list i;calc Jk p.isList ?_;calc(↥c,[↥c],_,_,m,U,d.kept (t':=c.toks) λb o e=>am _ e,xu a _,(_,ii _ U,U,U,),λb k=>?_,q,);let e:b=↥c:= ~~~k
 subst e;calc d.fpOk (sT _)<|d.hok.fresh<|sT _
def tK{Ll:Lw (AM×Obj)}{σ:St}{H:Hp}{s:C3}{R:It->NB}{E:zt->C3->Prop}{lo hi:Int}{t u v:Tok}{a:Nat}(I:Inv X Ll σ H s)(i : -(2^62)<=lo)(h:lo<2^62)(g : -(2^62)<=hi)(f:hi<2^62)
  (q:R (Itr lo (hi-lo).toNat) H):D2 (model X.prog X.w) X.A (Jg<|.ref ↥s) (PIE X Ll σ tg R) E { s with heap:=s.heap.push { cls:=.type "range",data:=.fields #[.int lo t,.int hi u,.int 1 v] },toks:=a }:=by
 calc wpAny_pyIter_range (IsRange.new ..) (small_one i h g f) ?_;let c:Inv X Ll σ H { s with heap:=s.heap.push { cls:=.type "range",data:=.fields #[.int lo t,.int hi u,.int 1 v] },toks:=a }:=I.kept λb o e=>am _ e
 refine((s.heap.push { cls:=.type "range",data:=.fields #[.int lo t,.int hi u,.int 1 v] }).objs.size,[(s.heap.push { cls:=.type "range",data:=.fields #[.int lo t,.int hi u,.int 1 v] }).objs.size],_,_,H,U,
  c.kept (t':=a) λb o e=>am _ e,uU _ lo (hi-lo).toNat,?_,λb d=>?_,q,)
 .let k:lo+((0:Nat):Int)*1=lo:=by simp
  let j:(((hi-lo).toNat:Nat):Int)-((0:Nat):Int)=Jl.Range.rangeSize lo hi 1:=by rw[rangeSize_one];split <;> lia
  show IsRangeIter _ _ (lo+((0:Nat):Int)*1) ((((hi-lo).toNat:Nat):Int)-((0:Nat):Int)) 1;rw[k,j];exact ii _ U
 .let e:b=(s.heap.push { cls:=.type "range",data:=.fields #[.int lo t,.int hi u,.int 1 v] }).objs.size:= ~~~d
  subst e;calc c.fpOk (sT _)<|c.hok.fresh<|sT _
inductive yI  (R:It->NB)(vs:Lw V)(H1:Hp):Prop
 |mk (j:Int)(_:vs=[.int j])(_ : -(2^62)<=j)(_:j<2^62)(_:R (Itr 0 j.toNat) H1):yI R vs H1
def  Ej(ta:TA):TI:=λσ H R=>ta σ H λa b=>yI R a b
inductive yJ  (R:It->NB)(vs:Lw V)(H1:Hp):Prop
 |mk (i j:Int)(_:vs=[.int i,.int j])(_:(-(2^62)<=i/\i<2^62/\-(2^62)<=j/\j<2^62))(_:R (Itr i (j-i).toNat) H1):yJ R vs H1
def  Ek(ta:TA):TI:=λσ H R=>ta σ H λa b=>yJ R a b
def bu{a:Ew}{ta:TA}{p pos:Pos}(i:Gl X "range") (hm:X.mg "range" = Lh) (k:PA X [a] ta)(g:EN [a] X.env=[(Lj,eval a X.env)]:=by rfl):PI X tg (.Call (.Name "range" p) [a] [] pos) (Ej ta):=by
 intro Ll s σ H R I h;calc Call_<|jm I i hm boot_range<|v4 (thn (k pos Ll s σ H _ I h) λn o (m,u,l,d,b,)=>?_) g U;let(j,e,b,f,q):=b;subst e;cases d with
 |cons r c =>
  cases c;let(t,rfl):=r;calc call_range_1<|tK l ∅ ∅ b f (~~~q)
def qD{a b:Ew}{ta:TA}{p pos:Pos}(u:Gl X "range") (hm:X.mg "range" = Lh) (v:PA X [a,b] ta)(o:EN [a,b] X.env=[(Lj,eval a X.env),(Lj,eval b X.env)]:=by rfl)(c:EN [b] X.env=[(Lj,eval b X.env)]:=by rfl) :
  PI X tg (.Call (.Name "range" p) [a,b] [] pos) (Ek ta):=by
 intro Ll s σ H R I h;refine Call_ (jm I u hm boot_range<|v4 (thn (v pos Ll s σ H _ I h) λy A (x,B,w,g,f,)=>?_) (by rw[o,c]) (by rw[c];rfl));let(i,j,e,(f,n,m,l),q):=f;subst e;cases g with
 |cons r d =>
  cases d with
  |cons k d =>
   cases d;let(t,rfl):=r;let(z,rfl):=k;calc call_range_2<|tK w f n m l q
def  FO(d:TI)(g:TG)(tb:TS):TS:=λD σ H=>d σ H λJ f=>∃W:Nat->Nat->NA,(∃m,W 0 m σ f)/\∀i m σ H,W i m σ H ->
 (J.stop i H/\D.nx σ H)\/(J.go i H/\∃N:NA,(∀a H',N a H'->∃c,c<m/\W (i+1) c a H')/\∀x H',J.yld i H x H'->g x σ H' λb e=>tb { D with nx:=N,ct:=N,bk:=D.nx } b e)
def  iK(a:Lw AM)(h:A1):Lw (AM×Obj):=a.filterMap λb=>(h.get? b).map λo=>(b,o)
def dh{a:Lw AM}{h:A1}{b:AM}{o:Obj}(c:b∈a)(e:h.get? b=Lg o):(b,o)∈iK a h:=oD.mpr (b,c,by rw[e];rfl,)
def xv{a:Lw AM}{h:A1}{p:AM×Obj}(c:p∈iK a h):p.1∈a/\h.get? p.1=Lg p.2:=by
 let(b,d,e):=oD.mp c;cases q:h.get? b with
 |none=>rw[q]at e;cases e
 |some o =>
  rw[q]at e;let f:(b,o)=p:=gl e;subst f;calc(d,q,)
def Inv.pinned{Ll:Lw (AM×Obj)}{σ:St}{H:Hp}{s:C3}{a:Lw AM}(I:Inv X Ll σ H s)(i:∀b∈a,kX X Ll H b)(h:∀b∈a,∃o,s.heap.get? b=Lg o/\∀v,o.data≠.cell v):Inv X (Ll++iK a s.heap) σ H s :=
 I.pins_of λp g=>(eA.mp g).elim (λz=>I.pin p<|gb _ z) λz=>by
  let(c,e):=xv z;let(l,k,j,_):=i p.1 c;let(o,f,d):=h p.1 c;rw[e]at f;cases f;calc(e,l,k,j,d,)
def Inv.unpinned{Ll pl:Lw (AM×Obj)}{σ:St}{H:Hp}{s:C3}(I:Inv X (Ll++pl) σ H s):Inv X Ll σ H s:=I.pins_of λp a=>I.pin p<|gb _<|gq _ a
def bw{q:Ew}{body:Lw EV}{Y:TI}{g:TG}{tb:TS}{pos:Pos}(C:Jc (model X.prog X.w) X.A X.env X.xe)(hc:X.calm=Li)(hi:PI X tg q Y)(hg:PG X tg g)(c:PSs X body tb)
  (hs:∀x,Jm q X.env x=pure x:=by intro _;rfl):PS X (.For tg q body [] pos) (FO Y g tb):=by
 intro Ll s σ H D I h;calc wpAny_For (thn (hi Ll s σ H _ I h) λv s1 h1=>thn h1 λa0 s2 h2=>?_) hs;let(it,E,Z,J,H2,e,I2,T,R,f2,W,(m0,w0),turn):=h2;subst e;let P:∀{H':Hp},(∀b∈E,H' b=Lh)->∀b∈E,kX X Ll H' b:=λhn b c=>(hn b c,(f2 b c).2,)
 calc codeAny_forLoop_any (λn s'=>∃i p H',Inv X Ll p H' s'/\Z i s'.heap/\(∀b∈E,H' b=Lh)/\W i n p H') ?_ m0 (0,σ,H2,I2,R,λb c=>(f2 b c).1,w0,);rintro n s3 ⟨i,l,L,I3,F,G,w3⟩;rcases turn i n l L w3 with⟨K,qn⟩|⟨go,N,hN,step⟩
 .refine Jd C<|thn (T.done X U U U hc i Ll s3 l L X.xe I3 (P G) F K) λr s4 (O,I4,)=>?_;subst O;exact Gs (l,L,I4,qn,)
 .refine Jd C<|thn (T.item X U U U hc i Ll s3 l L X.xe I3 (P G) F go) λr s4 (u,O,h4,)=>?_;subst O;calc Jd C<|thn h4 λ_ s5 (x,H5,I5,r5,y5,z,S,)=>?_;let V:=I5.pinned (P S)<|T.obj _ _ z;calc Jd C<|thn (hg _ s5 l H5 x u _ V r5<|step x H5 y5) λ_ s6 (Q,H6,I6,q6,)=>?_;calc Jd C<|thn (c _ s6 Q H6 _ I6 q6) λf M y=>?_;let t:∀{a:St}{k:Hp},Inv X (Ll++iK E s5.heap) a k M->N a k->∃m,m<n/\∃i p H',Inv X Ll p H' M/\Z i M.heap/\(∀b∈E,H' b=Lh)/\W i m p H':=λ{a k} j B=>by
   let(m',hm,w7):=hN a k B;calc(m',hm,i+1,a,k,j.unpinned,T.keep _ _ _ z λb c o e=>(j.pin (b,o)<|gb _<|gb _<|dh c e).1,λb c=>?_,w7,);let(o,e,d):=T.obj _ _ z b c;exact(j.pin (b,o)<|gb _<|gb _<|dh c e).2.1
  cases f with
  |next=>obtain⟨a,k,j,B⟩:=y;exact t j B
  |cont=>obtain⟨a,k,j,B⟩:=y;exact t j B
  |brk=>obtain⟨a,k,j,y⟩:=y;exact(a,k,j.unpinned,y,)
  |ret v=>obtain⟨x7,a,k,j,r7,y⟩:=y;calc(x7,a,k,j.unpinned,r7,y,)
end
def bo{K:ac}{a:AM}{xs:Lw V}{g:TG}{tb:TS}{D:Ends}{σ:St}{H:Hp}(b:Nat->NA)(r:b 0 σ H)(n:∀i σ H,i<=⇑xs->b i σ H->SqL K H a xs)
  (l:∀i x σ H,xs[i]?=Lg x->b i σ H->g x σ H λc h=>tb { D with nx:=b<|i+1,ct:=b<|i+1,bk:=D.nx } c h)(o:∀σ H,b ⇑xs σ H->D.nx σ H) :
  ∃W:Nat->Nat->NA,(∃m,W 0 m σ H)/\∀i m σ H,W i m σ H ->
   ((Itl K a).stop i H/\D.nx σ H)\/((Itl K a).go i H/\∃N:NA,(∀d H',N d H'->∃j,j<m/\W (i+1) j d H')/\∀x H',(Itl K a).yld i H x H'->g x σ H' λc h=>tb { D with nx:=N,ct:=N,bk:=D.nx } c h):=by
 refine(λi m σ H=>m=⇑xs-i/\i<=⇑xs/\b i σ H,(⇑xs,by simp,uk _,r,),?_,);rintro i m σ H ⟨rfl,hi,p⟩;let q:=n i σ H hi p;by_cases f:i<⇑xs
 .refine .inr ((xs,xs[i],q,by simp[f],),b<|i+1,λd H' k=>(⇑xs-(i+1),∅,U,f,k,),λx H' y=>?_,);let(e,y):=y;subst e;exact l i x σ _ (y xs q) p
 .let e:i=⇑xs:=∅
  subst e;calc .inl ((xs,q,sT _,),o σ H p,)
def gL{lo:Int}{n:Nat}{g:TG}{tb:TS}{D:Ends}{σ:St}{H:Hp}(a:Nat->NA)(o:a 0 σ H)
  (k:∀i σ H,i<n->a i σ H->g (.int<|lo+i) σ H λb f=>tb { D with nx:=a<|i+1,ct:=a<|i+1,bk:=D.nx } b f)(l:∀σ H,a n σ H->D.nx σ H) :
  ∃W:Nat->Nat->NA,(∃m,W 0 m σ H)/\∀i m σ H,W i m σ H ->
   ((Itr lo n).stop i H/\D.nx σ H)\/((Itr lo n).go i H/\∃N:NA,(∀c H',N c H'->∃h,h<m/\W (i+1) h c H')/\∀x H',(Itr lo n).yld i H x H'->g x σ H' λb f=>tb { D with nx:=N,ct:=N,bk:=D.nx } b f):=by
 refine(λi m σ H=>m=n-i/\i<=n/\a i σ H,(n,by simp,uk _,o,),?_,);rintro i m σ H ⟨rfl,hi,p⟩;by_cases d:i<n
 .refine .inr (d,a<|i+1,λc H' j=>(n-(i+1),∅,U,d,j,),λx H' y=>?_,);let(e,y):=y;subst e y;exact k i σ _ d p
 .let e:i=n:=∅
  subst e;calc .inl (sT _,l σ H p,)
abbrev R2:=V->V->Hp->VK->Prop
def  OpR(X:Cx)(f:zt->zt->Sem zt)(r:R2):Prop :=
 ∀(Ll:Lw (AM×Obj))(s:C3)(σ:St)(H:Hp)(x y:V)(v u:zt)(Q:VK),Inv X Ll σ H s->RelV x v->RelV y u->r x y H Q ->
  D2 (model X.prog X.w) X.A (f v u) (EP X Ll σ Q) X.xe s
def  UnR(X:Cx)(f:zt->Sem zt)(r:V->Hp->VK->Prop):Prop :=
 ∀(Ll:Lw (AM×Obj))(s:C3)(σ:St)(H:Hp)(x:V)(v:zt)(Q:VK),Inv X Ll σ H s->RelV x v->r x H Q ->
  D2 (model X.prog X.w) X.A (f v) (EP X Ll σ Q) X.xe s
def  gQ(X:Cx)(f:zt)(r:Lw V->Hp->VK->Prop):Prop :=
 ∀(Ll:Lw (AM×Obj))(s:C3)(σ:St)(H:Hp)(a:Lw V)(b:Lw zt)(Q:VK),Inv X Ll σ H s->Vals a b->r a H Q ->
  D2 (model X.prog X.w) X.A (call f b) (EP X Ll σ Q) X.xe s
def  FP(X:Cx)(r:V->Hp->(Bool->NB)->Prop):Prop :=
 ∀(Ll:Lw (AM×Obj))(s:C3)(σ:St)(H:Hp)(x:V)(v:zt)(Q:Bool->NB),Inv X Ll σ H s->RelV x v->r x H Q ->
  D2 (model X.prog X.w) X.A (truthy v) (TP X Ll σ Q) X.xe s
def  tOp(r:R2)(ta tb:TE):TE:=λσ H Q=>ta σ H λx b=>tb σ b λy a=>r x y a Q
def  tUn(r:V->Hp->VK->Prop)(ta:TE):TE:=λσ H Q=>ta σ H λx a=>r x a Q
inductive rI(C:Int->Int->Prop)(g:Int->Int->V)(x:V)(y:V)(H:Hp)(Q:VK):Prop
 |mk (i j:_)(_:x=.int i)(_:y=.int j)(_:C i j)(_:Q (g i j) H)
inductive rI0(g:Int->Int->V)(x:V)(y:V)(H:Hp)(Q:VK):Prop
 |mk (i j:_)(_:x=.int i)(_:y=.int j)(_:Q (g i j) H)
inductive rU(g:Int->V)(x:V)(H:Hp)(Q:VK):Prop
 |mk (i:_)(_:x=.int i)(_:Q (g i) H)
section
variable{a b c:Ew}{tc:TE}
def CQ(o:PE X a ta)(n:PE X b tb){Ll:Lw (AM×Obj)}{s:C3}{σ:St}{H:Hp}{R:V->V->NB}(I:Inv X Ll σ H s)
  (h:ta σ H λx g=>tb σ g λy c=>R x y c){Q:zt->C3->Prop}{f:zt->zt->Sem zt}
  (hf:∀v u e x y c,Inv X Ll σ c e->RelV x v->RelV y u->R x y c->D2 (model X.prog X.w) X.A (f v u) Q X.xe e) :
  D2 (model X.prog X.w) X.A (eval a X.env) (λv d=>D2 (model X.prog X.w) X.A (eval b X.env) (λu s₂=>D2 (model X.prog X.w) X.A (f v u) Q X.xe s₂) X.xe d) X.xe s:=by
 refine thn (o Ll s σ H _ I h) λv i (x,g,q,k,m,)=>?_
 refine thn (n Ll i σ g _ q m) λu e (y,c,p,j,l,)=>?_
 calc hf v u e x y c p k j l
def aD{c:IZ}{r:R2}(g:OpR X (Jn c) r)(j:PE X a ta)(i:PE X b tb):PE X (.BinOp a c b pos) (tOp r ta tb):=by
 intro Ll s σ H Q I h;calc wpAny_BinOp<|CQ j i I h λv u d x y l k f e q=>g Ll d σ l x y v u Q k f e q
def qF{b:UnaryOp}{r:V->Hp->VK->Prop}(f:UnR X (unaryOp b) r)(g:PE X a ta):PE X (.UnaryOp b a pos) (tUn r ta):=by
 intro Ll s σ H Q I h;calc UnaryOp_<|thn (g Ll s σ H _ I h) λv c (x,j,i,d,e,)=>f Ll c σ j x v Q i d e
def opI{f:zt->zt->Sem zt}{C:Int->Int->Prop}{g:Int->Int->Int}
  (rule:∀(i j:Int)(t u:Tok)(s:C3)(Q:zt->C3->Prop)(E:zt->C3->Prop),C i j->Q (.int (g i j) s.toks) { s with toks:=s.toks+1 }->D2 (model X.prog X.w) X.A (f (.int i t)<|.int j u) Q E s) :
  OpR X f (rI C λi j=>.int<|g i j):=by
 intro Ll s σ H x y v u Q I c b h;let(i,j,rfl,rfl,d,q):=h;let(t,rfl):=c;let(a,rfl):=b;calc rule i j t a s _ _ d (.int<|g i j,H,I.tok _,(_,U,),q,)
def El{f:zt->zt->Sem zt}{g:Int->Int->Int}
  (rule:∀(i j:Int)(t u:Tok)(s:C3)(Q:zt->C3->Prop)(E:zt->C3->Prop),Q (.int (g i j) s.toks) { s with toks:=s.toks+1 }->D2 (model X.prog X.w) X.A (f (.int i t)<|.int j u) Q E s) :
  OpR X f (rI0 λi j=>.int<|g i j):=by
 intro Ll s σ H x y v u Q I c b h;let(i,j,rfl,rfl,q):=h;let(t,rfl):=c;let(a,rfl):=b;calc rule i j t a s _ _ (.int<|g i j,H,I.tok _,(_,U,),q,)
def CS{f:zt->zt->Sem zt}{g:Int->Int->Bool}
  (rule:∀(i j:Int)(t u:Tok)(s:C3)(Q:zt->C3->Prop)(E:zt->C3->Prop),Q (.bool<|g i j) s->D2 (model X.prog X.w) X.A (f (.int i t)<|.int j u) Q E s) :
  OpR X f (rI0 λi j=>.bl<|g i j):=by
 intro Ll s σ H x y v u Q I c b h;let(i,j,rfl,rfl,q):=h;let(t,rfl):=c;let(a,rfl):=b;calc rule i j t a s _ _ (.bl<|g i j,H,I,U,q,)
def  Em(i j:Int):Prop:=0<j/\j<1073741824
def  FQ(i j:Int):Prop:=0<=j/\j<=1000000/\i.natAbs<2^64
def  CT(i j:Int):Prop:=(-(2^64)<i/\i<2^64)\/(-(2^64)<j/\j<2^64)
def CT.ok{i j:Int}(h:CT i j):IntMulOk i j:=by
 rcases h with⟨b,a⟩|⟨b,a⟩
 .exact .of_left<|Jo b a
 .exact .of_right<|Jo b a
def bT:OpR X (Jn .Add) (rI0 λi j=>.int<|i+j):=El λ_ _ _ _ _ _ _ q=>add_int q
def fP:OpR X (Jn .Sub) (rI0 λi j=>.int<|i-j):=El λ_ _ _ _ _ _ _ q=>sub_int q
def m5:OpR X (Jn .Mult) (rI CT λi j=>.int<|i*j):=opI λ_ _ _ _ _ _ _ a q=>mul_int q a.ok
def bU:OpR X (Jn .FloorDiv) (rI Em λi j=>.int<|i / j):=opI λi j _ _ _ _ _ a q=>by
 let c:(0:Int)<j:=a.1;let b:j<1073741824:=a.2;calc floordiv_int ∅ (by rw[Int.fdiv_eq_ediv_of_nonneg i ∅];exact q) (.inl<|PyProof.noPylong_small ∅)
def bI:OpR X (Jn .Mod) (rI (λ_ j=>0<j) λi j=>.int<|i%j):=opI λi j _ _ _ _ _ a q=>by
 let b:(0:Int)<j:=a;calc mod_int' ∅ (by rw[Int.fmod_eq_emod_of_nonneg i ∅];exact q)
def rJ:OpR X (Jn .Pow) (rI FQ λi j=>.int<|i^j.toNat):=opI λ_ _ _ _ _ _ _ a q=>pow_int_small a.1 a.2.1 a.2.2 q
def unI{f:zt->Sem zt}{g:Int->Int}
  (rule:∀(i:Int)(t:Tok)(s:C3)(Q:zt->C3->Prop)(E:zt->C3->Prop),Q (.int (g i) s.toks) { s with toks:=s.toks+1 }->D2 (model X.prog X.w) X.A (f<|.int i t) Q E s) :
  UnR X f (rU λi=>.int<|g i):=by
 intro Ll s σ H x v Q I a h;let(i,rfl,q):=h;let(t,rfl):=a;calc rule i t s _ _ (.int<|g i,H,I.tok _,(_,U,),q,)
def m6:UnR X (unaryOp .USub) (rU λi=>.int<|-i):=unI λ_ _ _ _ _ q=>neg_int q
end
def  En:V->V->Bool
 | .non,.non=>Li | .non,.int _=>Li | .int _,.non=>Li | .non,.bl _=>Li | .bl _,.non=>Li | .non,.str _=>Li | .str _,.non=>Li
 | .int _,.int _=>Li | .bl _,.bl _=>Li | .str _,.str _=>Li | .byt _,.byt _=>Li
 | .int _,.str _=>Li | .str _,.int _=>Li | .bl _,.str _=>Li | .str _,.bl _=>Li
 |_,_=>Lj
def  rEq:R2:=λx y H Q=>En x y=Li/\Q (.bl<|Lk<|x=y) H
def  rNe:R2:=λx y H Q=>En x y=Li/\Q (.bl<|!Lk (x=y)) H
def wt{i j:Int}:decide (pi i=pi j)=(i == j):=by
 rw[pr];simp
def yK{i j:Bool}:decide (V.bl i=V.bl j)=(i == j):=by
 rw[pr];simp
def wu{i j:Str}:decide (NE i=NE j)=(i == j):=by
 rw[pr];simp
def wx{i j:Array UInt8}:decide (V.byt i=V.byt j)=(i.toList == j.toList):=by
 rw[pr];cases i;cases j;simp
section
variable{a b c:Ew}{tc:TE}
def bx{Ll:Lw (AM×Obj)}{σ:St}{H:Hp}{s:C3}{Q:VK}{k a:Bool}(I:Inv X Ll σ H s)(q:Q (.bl k) H)(e:k=a):EP X Ll σ Q (.bool a) s:=by
 subst e;calc(.bl k,H,I,U,q,)
def cV:OpR X (Jp .Eq) rEq:=by
 intro Ll s σ H x y v u Q I d a h;let(c,q):=h;cases x with
 |non =>
  cases d;cases y with
  |non=>cases a;exact PySem.EqNone.eq_none_none<|bx I q (by simp)
  |bl j=>cases a;exact PySem.EqNone.eq_none_bool<|bx I q (by simp)
  |int j=>obtain⟨b,rfl⟩:=a;exact PySem.EqNone.eq_none_int<|bx I q (by simp)
  |str j=>obtain⟨b,rfl⟩:=a;exact PySem.EqNone.eq_none_str<|bx I q (by simp)
  |_=>exact Lp (show Lj=Li from c) bv
 |bl i =>
  cases d;cases y with
  |non=>cases a;exact PySem.EqNone.eq_bool_none<|bx I q (by simp)
  |bl j=>cases a;exact eq_bool<|bx I q yK
  |str j=>obtain⟨b,rfl⟩:=a;exact PySem.EqMixed.eq_bool_str<|bx I q (by simp)
  |_=>exact Lp (show Lj=Li from c) bv
 |int i =>
  let(t,rfl):=d;cases y with
  |non=>cases a;exact PySem.EqNone.eq_int_none<|bx I q (by simp)
  |int j=>obtain⟨b,rfl⟩:=a;exact eq_int<|bx I q wt
  |str j=>obtain⟨b,rfl⟩:=a;exact PySem.EqMixed.eq_int_str<|bx I q (by simp)
  |_=>exact Lp (show Lj=Li from c) bv
 |str i =>
  let(t,rfl):=d;cases y with
  |non=>cases a;exact PySem.EqNone.eq_str_none<|bx I q (by simp)
  |bl j=>cases a;exact PySem.EqMixed.eq_str_bool<|bx I q (by simp)
  |int j=>obtain⟨b,rfl⟩:=a;exact PySem.EqMixed.eq_str_int<|bx I q (by simp)
  |str j=>obtain⟨b,rfl⟩:=a;exact eq_str<|bx I q wu
  |_=>exact Lp (show Lj=Li from c) bv
 |byt i =>
  let(t,rfl):=d;cases y with
  |byt j=>obtain⟨b,rfl⟩:=a;exact W.eq_bytes<|bx I q wx
  |_=>exact Lp (show Lj=Li from c) bv
 |_=>cases y <;> calc Lp (show Lj=Li from c) bv
def iX:OpR X (Jp .NotEq) rNe:=by
 intro Ll s σ H x y v u Q I d a h;let(c,q):=h;cases x with
 |non =>
  cases d;cases y with
  |non=>cases a;exact PySem.EqNone.ne_none_none<|bx I q (by simp)
  |bl j=>cases a;exact PySem.EqNone.ne_none_bool<|bx I q (by simp)
  |int j=>obtain⟨b,rfl⟩:=a;exact PySem.EqNone.ne_none_int<|bx I q (by simp)
  |str j=>obtain⟨b,rfl⟩:=a;exact PySem.EqNone.ne_none_str<|bx I q (by simp)
  |_=>exact Lp (show Lj=Li from c) bv
 |bl i =>
  cases d;cases y with
  |non=>cases a;exact PySem.EqNone.ne_bool_none<|bx I q (by simp)
  |bl j=>cases a;exact ne_bool<|bx I q<|Lu not yK
  |str j=>obtain⟨b,rfl⟩:=a;exact PySem.EqMixed.ne_bool_str<|bx I q (by simp)
  |_=>exact Lp (show Lj=Li from c) bv
 |int i =>
  let(t,rfl):=d;cases y with
  |non=>cases a;exact PySem.EqNone.ne_int_none<|bx I q (by simp)
  |int j=>obtain⟨b,rfl⟩:=a;exact ne_int<|bx I q<|Lu not wt
  |str j=>obtain⟨b,rfl⟩:=a;exact PySem.EqMixed.ne_int_str<|bx I q (by simp)
  |_=>exact Lp (show Lj=Li from c) bv
 |str i =>
  let(t,rfl):=d;cases y with
  |non=>cases a;exact PySem.EqNone.ne_str_none<|bx I q (by simp)
  |bl j=>cases a;exact PySem.EqMixed.ne_str_bool<|bx I q (by simp)
  |int j=>obtain⟨b,rfl⟩:=a;exact PySem.EqMixed.ne_str_int<|bx I q (by simp)
  |str j=>obtain⟨b,rfl⟩:=a;exact ne_str<|bx I q<|Lu not wu
  |_=>exact Lp (show Lj=Li from c) bv
 |byt i =>
  let(t,rfl):=d;cases y with
  |byt j=>obtain⟨b,rfl⟩:=a;exact W.ne_bytes<|bx I q<|Lu not wx
  |_=>exact Lp (show Lj=Li from c) bv
 |_=>cases y <;> calc Lp (show Lj=Li from c) bv
def lI:OpR X (Jp .Lt) (rI0 λi j=>.bl<|Lk<|i<j):=CS λ_ _ _ _ _ _ _ q=>lt_int q
def fM:OpR X (Jp .LtE) (rI0 λi j=>.bl<|Lk<|i<=j):=CS λ_ _ _ _ _ _ _ q=>le_int q
def gB:OpR X (Jp .Gt) (rI0 λi j=>.bl<|Lk<|j<i):=CS λ_ _ _ _ _ _ _ q=>gt_int q
def qG:OpR X (Jp .In) (λx y H Q=>∃i j,x=.str i/\y=.str j/\Q (.bl<|!(EQ j i 0 ⇑j 1).isEmpty) H):=by
 intro Ll s σ H x y v u Q I b a h;let(i,j,rfl,rfl,q):=h;let(t,rfl):=b;let(c,rfl):=a;calc in_str<|bx I q U
def rK:OpR X (Jp .NotIn) (λx y H Q=>∃i j,x=.str i/\y=.str j/\Q (.bl<|!(!(EQ j i 0 ⇑j 1).isEmpty)) H):=by
 intro Ll s σ H x y v u Q I b a h;let(i,j,rfl,rfl,q):=h;let(t,rfl):=b;let(c,rfl):=a;calc notIn_str<|bx I q U
def aK(b:Ew){a:Jq}(h:a≠.In:=by decide)(c:a≠.NotIn:=by decide):Jr a b=false:=by
 let e:(a == Jq.In)=false:=by cases a <;> first|rfl|exact Lp U h
 let d:(a == Jq.NotIn)=false:=by cases a <;> first|rfl|exact Lp U c
 cases b <;> simp[Jr,e,d]
def dM{c:Jq}{r:R2}(g:OpR X (Jp c) r)(k:PE X a ta)(j:PE X b tb)(i:Jr c b=Lj):PE X (.Compare a [c] [b] pos) (tOp r ta tb):=by
 intro Ll s σ H Q I h;calc wpAny_Compare1 (CQ k j I h λv u d x y m l f e q=>g Ll d σ m x y v u Q l f e q) i
inductive yL  (Q:Bool->NB)(x:V)(H':Hp):Prop
 |mk (k:_)(_:x=.bl k)(_:Q k H'):yL Q x H'
def  Cc(t:TE):TT:=λσ H Q=>t σ H λx H'=>yL Q x H'
def aH{d:Jq}{r:R2}(p:OpR X (Jp d) r)(w:PE X a ta)(t:PE X b tb)(q:Jr d b=Lj):PT X (.Compare a [d] [b] pos) (Cc<|tOp r ta tb):=by
 intro Ll s σ H Q I h;refine wpAny_isTrue_Compare1 (thn (w Ll s σ H _ I h) λv g (x,F,C,l,o,)=>thn (t Ll g σ F _ C o) λu f (y,E,B,j,n,) =>
  thn (p Ll f σ E x y v u _ B l j n) λc G (z,D,A,i,k,e,m,)=>?_) q
 subst e;cases i;calc F7 (D,A,m,)
inductive wz(r':R2)(tc:TE)(σ:St)(Q:VK)(y:V)(z:V)(H3:Hp):Prop
 |mk (k:_)(_:z=.bl k)(_:(if k=Li then tc σ H3 λw' H4=>r' y w' H4 Q else Q (.bl Lj) H3))
def  yM(r a:R2)(ta tb tc:TE):TE:=λσ H Q=>ta σ H λx d=>tb σ d λy c=>r x y c λz b=>wz a tc σ Q y z b
def mw{g f:Jq}{r l:R2}(K:OpR X (Jp g) r)(i:OpR X (Jp f) l)(N:PE X a ta)(M:PE X b tb)(L:PE X c tc)
  (hm:lastMarks [g,f] [b,c]=false:=by with_unfolding_all rfl):PE X (.Compare a [g,f] [b,c] pos) (yM r l ta tb tc):=by
 intro Ll s σ H Q I h;refine Compare_chain (thn (N Ll s σ H _ I h) λv B (x,V,R,E,J,)=>chain_link (thn (M Ll B σ V _ R J) λu A (y,T,P,j,G,) =>
  thn (K Ll A σ T x y v u _ P E j G) λd w (z,o,n,D,k,e,m,)=>?_)) hm
 subst e;cases D;calc F7 ?_;cases k with
 |false=>exact ite_ff (.bl Lj,o,n,U,m,)
 |true=>calc ite_tt (chain_last<|thn (L Ll w σ o _ n m) λq t (p,S,O,C,F,)=>i Ll t σ S y p u q Q O j C F)
def tL{g f:Jq}{r l:R2}(N:OpR X (Jp g) r)(i:OpR X (Jp f) l)(R:PE X a ta)(P:PE X b tb)(O:PE X c tc)
  (hm:lastMarks [g,f] [b,c]=false:=by with_unfolding_all rfl):PT X (.Compare a [g,f] [b,c] pos) (Cc<|yM r l ta tb tc):=by
 intro Ll s σ H Q I h;refine isTrue_chain (thn (R Ll s σ H _ I h) λv B (x,H1,Z,F,L,)=>test_link (thn (P Ll B σ H1 _ Z L) λu A (y,H2,Y,j,K,) =>
  thn (N Ll A σ H2 x y v u _ Y F j K) λd w (z,o,n,E,k,e,m,)=>?_)) hm
 subst e;cases E;calc F7 ?_;cases k with
 |false =>
  let(k',T,M):=m;cases T;exact ite_ff (o,n,M,)
 |true =>
  calc ite_tt<|test_last<|thn (O Ll w σ o _ n m) λq t (p,H4,W,D,J,)=>thn (i Ll t σ H4 y p u q _ W j D J) λd' s5 (z2,H5,V,C,k2,S,G,)=>?_;subst S;cases C;calc F7 (H5,V,G,)
def  CU(K:ac)(x:V)(H:Hp)(k:Bool):Prop :=
 match x with
 | .non=>k=Lj
 | .bl b=>k=b
 | .int i=>k=(i != 0)
 | .str y=>⇑y<=A8/\k=((⇑y:Int) != 0)
 | .byt y=>y.size<=A8/\k=((y.size:Int) != 0)
 | .ref p=>(∃a,SqL K H p a/\k = !a.isEmpty)\/(∃a,SqT K H p a/\k = !a.isEmpty)\/∃c,H p=Lg (.dK c)/\k = !c.isEmpty
 |_=>False
def uV{b:Type}{a:Lw (b×V)}{vs:Lw (b×zt)}(r:KV a vs):(!vs.isEmpty) = !a.isEmpty:=by
 cases r <;> rfl
def pe{xs:Lw V}{a:Lw zt}(r:Vals xs a):(!a.toArray.isEmpty) = !xs.isEmpty:=by
 cases r <;> simp
def lN:(A8:Nat)<2^63:=by rw[Js];decide
def CV:FP X (λx H Q=>∃k,CU X.K x H k/\Q k H):=by
 intro Ll s σ H x v Q I g h;let(k,e,q):=h;let C:=lN;let B:A8=16777216:=Js;cases x with
 |non =>
  cases g;let a:k=false:=e;subst a;exact truthy_none (H,I,q,)
 |bl b =>
  cases g;let a:k=b:=e;subst a;exact F7 (H,I,q,)
 |int i =>
  let(t,rfl):=g;let a:k=(i != 0):=e;subst a;exact PySem.P.truthy_int (H,I,q,)
 |str y =>
  let(t,rfl):=g;let(z,a):⇑y<=A8/\k=((⇑y:Int) != 0):=e;subst a;exact PySem.P.truthy_str ∅ (H,I.tok _,q,)
 |byt y =>
  let(t,rfl):=g;let(z,a):y.size<=A8/\k=((y.size:Int) != 0):=e;subst a;exact W.truthy_bytes ∅ (H,I.tok _,q,)
 |ref p =>
  cases g;let a:(∃f,SqL X.K H p f/\k = !f.isEmpty)\/(∃f,SqT X.K H p f/\k = !f.isEmpty)\/∃c,H p=Lg (.dK c)/\k = !c.isEmpty:=e;rcases a with⟨f,j,a⟩|⟨f,j,a⟩|⟨c,j,a⟩
  .subst a;let(o,r,n,u):=I.list j;let d:=⇑r;exact wpAny_truthy_list n.isList (by simp only[eG];lia) (H,I.tok _,by rw[pe r];exact q,)
  .subst a;let(o,r,n,u):=I.tuple j;let d:=⇑r;exact truthy_tuple n (by simp only[eG];lia) (H,I.tok _,by rw[pe r];exact q,)
  .subst a;let(u,A,l,r,m):⇑c<=A8/\(p == Bg)=Lj/\∃l,KV c l/\s.heap.DictOf (mn X.prog X.w) p l:=I.hok p _ j;let d:⇑c=⇑l:=Paired.length r;exact wpAny_truthy_dict A m ∅ (H,I.tok _,by rw[uV r];exact q,)
 |_=>calc(show False from e).elim
def fq(g:PE X a ta)(f:∀b,ED a X.env b=(do let v ←b;F6 a.pos;holding [v] (truthy v))) :
  PT X a (λσ H Q=>ta σ H λx H'=>∃k,CU X.K x H' k/\Q k H'):=by
 intro Ll s σ H Q I h;calc isTrue_plain (thn (g Ll s σ H _ I h) λv c (x,j,i,d,e,)=>CV Ll c σ j x v Q i d e)<|f _
def aP:OpR X (Jn .Add) (λx y H Q=>∃i j,x=.str i/\y=.str j/\⇑i+⇑j<=A8/\Q (.str<|i++j) H):=by
 intro Ll s σ H x y v u Q I c b h;let(i,j,rfl,rfl,d,q):=h;let(t,rfl):=c;let(a,rfl):=b;calc add_str (λa e=>(.str<|i++j,H,I.tok _,(_,U,),q,)) d
def CW:OpR X (Jn .Add) (λx y H Q=>∃i j,x=.byt i/\y=.byt j/\i.size+j.size<=16777216/\Q (.byt<|i++j) H):=by
 intro Ll s σ H x y v u Q I c b h;let(i,j,rfl,rfl,d,q):=h;let(t,rfl):=c;let(a,rfl):=b;calc W.KBy.add_bytes d<|λa e=>(.byt<|i++j,H,I.tok _,(_,U,),q,)
def vals1{x:V}{us:Lw zt}(r:Vals [x] us):∃u,us=[u]/\RelV x u:=by
 cases r with
 |cons b a=>cases a;calc(_,U,b,)
def vals2{x y:V}{us:Lw zt}(r:Vals [x,y] us):∃u a,us=[u,a]/\RelV x u/\RelV y a:=by
 cases r with
 |cons e d =>
  cases d with
  |cons c b=>cases b;calc(_,_,U,e,c,)
def kL(b:X.calm=Li):gQ X (.builtin "max") (λxs H Q=>∃i j,xs=[.int i,.int j]/\Q (.int (if j>i then j else i)) H):=by
 intro Ll s σ H xs d Q I r h;let(i,j,rfl,q):=h;let(u,c,rfl,(t,rfl),(f,rfl)):=vals2 r;refine max_two_ints (I.ok.hd b) λh' e k=>(_,H,I.kept k,?_,q,)
 by_cases a:j>i
 .rw[Lo a,Lo a];exact(_,U,)
 .rw[Lm a,Lm a];calc(_,U,)
def iY(b:X.calm=Li):gQ X (.builtin "min") (λxs H Q=>∃i j,xs=[.int i,.int j]/\Q (.int (if j<i then j else i)) H):=by
 intro Ll s σ H xs d Q I r h;let(i,j,rfl,q):=h;let(u,c,rfl,(t,rfl),(f,rfl)):=vals2 r;refine min_two_ints (I.ok.hd b) λh' e k=>(_,H,I.kept k,?_,q,)
 by_cases a:j<i
 .rw[Lo a,Lo a];exact(_,U,)
 .rw[Lm a,Lm a];calc(_,U,)
def bV:gQ X (.type "str") (λxs H Q=>∃i,xs=[.int i]/\i.natAbs.log2<1920/\Q (.str<|toString i) H):=by
 intro Ll s σ H xs b Q I r h;let(i,rfl,a,q):=h;let(u,rfl,t,rfl):=vals1 r;calc PySem.P.str_of_int a (.str _,H,I.tok _,(_,U,),q,)
end
structure uW(h:A1)(x dx C:AM)(mA:Str->Option zt):Prop where
 obj:h.get? x=Lg (LU C dx)
 ns:h.Ns1 dx mA
 ne:dx≠x
def xw{h:A1}{f:AM}{c:Str->Option zt}(n:h.Ns1 f c):∃b,h.get? f=Lg b/\∀name,Nq name b=Lg (c name):=by
 let(o,d,r,j,m,l,_,k):=n;calc(o,j,λname=>?_,);let e:=k name;unfold nsFind findBy at e;rw[←Array.find?_toList]at e;unfold Nq;rw[m];dsimp only;split
 .rename_i y q
  rw[q]at e;exact Lu Lg e
 .rename_i q
  rw[q]at e;let a:d.toList.any (·.refKey)=false:=by
   rw[nS];intro y i;let(z,t,g):=l y<|Array.mem_toList_iff.mp i;simp[DictEntry.refKey,g]
  let p:¬ d.toList.any (·.refKey)=true:=by rw[a];exact bv
  rw[Lm p];calc Lu Lg e
def uW.look{h:A1}{x c C:AM}{b:Str->Option zt}(I:uW h x c C b):∃a,W.InstAt h x (LU C c) C (Lg a)/\∀name,Nq name a=Lg (b name):=by
 let(a,d,e):=xw I.ns;calc(a,(I.obj,U,U,d,),e,)
variable{A:C2}{dx C f:AM}
section
variable{prog:zA}{K:ac}{mA:Str->Option zt}{name:Str}{v:zt}
def get_map{a:Bool}{Q:zt->C3->Prop}(X:K.In s.heap)(I:uW s.heap x dx C mA)(f:MV K C name=Li)(e:Nr K C=Li)
  (g:wT K (.ref C) name=Lg Lh)(c:mA name=Lg v)(b:W.handedIn v=Li)(h:Q v { s with toks:=s.toks+1 }) :
  D2 (model prog w) A (getAttr (.ref x) name a) Q E s:=by
 let(i,J,d):=I.look;calc W.get_value X J (M5 f).1 (W.findObj_own e g U (by rw[d,c])) b h
def yO{pl:Sem Bool}{Q:zt×Lw zt->C3->Prop}(X:K.In s.heap)(I:uW s.heap x dx C mA)(a:MV K C name=Li)
  (hf:wT K (.ref C) name=Lg ↑f)(d:W.isFn K (.ref f)=Li)(c:mA name=Lh)(h:Q (.ref f,[.ref x]) s) :
  D2 (model prog w) A (Jt (.ref x) name pl) Q E s:=by
 let(b,J,e):=I.look;calc W.method_fn X J (M5 a).1 (M5 a).2 hf (beq_iff_eq.mp d) (by show(Nq name b).map (·.isSome)=Lg Lj;rw[e,c];rfl) h
def AV{ns:Lw Str}{Q:Unit->C3->Prop}(X:K.In s.heap)(I:uW s.heap x dx C mA)
  (l:wT K (.ref C) "__setattr__" = Lg (Lg<|.builtin "object.__setattr__")) (m:W.plainOver K C=Li)(k:W.takerIn K C name=Lg Lh)(n:Nr K C=Li)
  (hw:PySem.Within mA ns)(p:⇑ns<=A8)
  (h:∀h',uW h' x dx C (λy=>if y=name then Lg v else mA y)->Go dx s.heap h'->Q () { s with heap:=h',toks:=s.toks+2 }) :
  D2 (model prog w) A (setAttr (.ref x) name v) Q E s:=by
 let(u,J,B):=I.look;calc W.set_plain X J l<|W.osa_open (s:={ s with toks:=s.toks+1 }) (r:=Lh) X J m k λb=>?_;let(D,o,g):=W.any_some n;let j:s.heap.get? x=Lg (.ref C,Lg dx,.plain,#[],):=I.obj;calc yN<|yU<|yN<|yN<|wpAny_loadPart j<|yN<|W.Looks.here (s:={ s with toks:=s.toks+1 }) (W.looks_clsIn X o) ?_;rw[g];calc yU (a:=Lg dx)<|yN<|yU<|yN ?_;refine wpAny_nsSet1 (s:={ s with toks:=s.toks+1 }) I.ns λh' d c=>?_
 let(z,q,t,e,f,i):=d.count<|PySem.Within.cons name v hw;refine yN (wpAny_lookBehind e (by rw[f];exact pastItsLine_dict (tm i (by rw[ig];lia))) ?_);calc yU<|h _ ((c.2 _<|FM I.ne).trans I.obj,d,I.ne,) c
def yP{R:Ju->C3->Prop}{vs:Lw zt}{b:Lw (Str×zt)}(X:K.In s.heap)(c:W.makesIn K C=Li)
  (hi:wT K (.ref C) "__init__" = Lg ↑f) (hf:W.typeIn K (.ref f)=Lg (.type "function"))
  (h:Jv (model prog w) (A.under<|.builtin "type.__call__" (.ref C :: vs,b,)) (.call (.ref f) (.ref (↥s+1) :: vs,b,)) (W.InitBack (↥s+1) R)
   { s with heap:=(s.heap.push GE).push (LU C ↥s) }) :
  Jv (model prog w) A (.call (.ref C) (vs,b,)) R s:=by
 let(i,g,d,t,e):=s;calc W.make_core (W.makes_of X c) (W.looks_findIn X hi) (λa=>W.bind_fn X a hf) (.inl U) h
end
def  bQ(f:Str)(v:V):Lw (Str×V)->Lw (Str×V)
 | []=>[(f,v)]
 |(g,x) :: r=>if g=f then(g,v) :: r else(g,x) :: bQ f v r
def og(f g:Str)(v:V):∀fs:Lw (Str×V),(bQ f v fs).lookup g=if g=f then Lg v else fs.lookup g
 | []=>by
  show LC g [(f,v)]=_;by_cases h:g=f
  .let a:(g == f)=true:=beq_iff_eq.mpr h;simp only[LC,a,Lo h]
  .let a:(g == f)=false:=beq_eq_false_iff_ne.mpr h;simp only[LC,a,Lm h]
 |(k,x) :: r=>by
  let c:=og f g v r;rw[show bQ f v ((k,x) :: r)=(if k=f then(k,v) :: r else(k,x) :: bQ f v r)from U];by_cases b:k=f
  .rw[Lo b];by_cases h:g=k
   .let a:(g == k)=true:=beq_iff_eq.mpr h;simp only[LC,a,Lo (h.trans b)]
   .let a:(g == k)=false:=beq_eq_false_iff_ne.mpr h;simp only[LC,a,Lm (λe:g=f=>h<|e.trans b.symm)]
  .rw[Lm b];by_cases h:g=k
   .let a:(g == k)=true:=beq_iff_eq.mpr h;simp only[LC,a,Lm (λe:g=f=>b<|h.symm.trans e)]
   .let a:(g == k)=false:=beq_eq_false_iff_ne.mpr h;simp only[LC,a];calc c
def m7(f:Str)(v:V):∀fs:Lw (Str×V),f∈(bQ f v fs).map (·.1)/\∀g,g∈fs.map (·.1)->g∈(bQ f v fs).map (·.1)
 | []=>(by simp[bQ],λg h=>by simp at h,)
 |(k,x) :: r=>by
  let(c,b):=m7 f v r;rw[show bQ f v ((k,x) :: r)=(if k=f then(k,v) :: r else(k,x) :: bQ f v r)from U];by_cases a:k=f
  .rw[Lo a];subst a;exact(by simp,λg h=>~~~h,)
  .rw[Lm a];refine(?_,λg h=>?_,)
   .rw[gy];exact fj _ c
   .rw[gy]at h⊢;rcases dy.mp h with e|e
    .exact dy.mpr<|.inl e
    .exact fj _<|b g e
def oh(f:Str)(v:V):∀fs:Lw (Str×V),⇑(bQ f v fs)<=⇑fs+1
 | []=>by simp[bQ]
 |(k,x) :: r=>by
  let b:=oh f v r;rw[show bQ f v ((k,x) :: r)=(if k=f then(k,v) :: r else(k,x) :: bQ f v r)from U];by_cases a:k=f
  .rw[Lo a,ig,ig];lia
  .rw[Lm a,ig,ig];lia
def ql.some_of{v:V}{o:Option zt}(r:ql (Lg v) o):∃u,o=Lg u/\RelV v u:=by
 cases o with
 |none=>exact(show False from r).elim
 |some u=>calc(u,U,r,)
def ql.none_of{o:Option zt}(r:ql Lh o):o=none:=by
 cases o with
 |none=>rfl
 |some u=>calc(show False from r).elim
def qH{v:V}{u:zt}(r:RelV v u):W.handedIn u=true:=by
 cases v with
 |non=>cases (show u=zt.none from r);rfl
 |bl b=>cases (show u=zt.bool b from r);rfl
 |int i=>obtain⟨t,e⟩:=(show ∃t,u=zt.int i t from r);cases e;rfl
 |str x=>obtain⟨t,e⟩:=(show ∃t,u=zt.str x t from r);cases e;rfl
 |byt b=>obtain⟨t,e⟩:=(show ∃t,u=zt.bytes b t from r);cases e;rfl
 |flt b=>obtain⟨t,e⟩:=(show ∃t,u=zt.float b t from r);cases e;rfl
 |ref a=>cases (show u=zt.ref a from r);rfl
 |ty n=>cases (show u=zt.type n from r);rfl
section
variable{fs fs':Lw (Str×V)}
def oO(c:HOk P w H h)(e:H a=Lg (.ins C dx fs)):∃b,uW h a dx C b/\(∀f,ql (fs.lookup f)<|b f)/\PySem.Within b (fs.map (·.1))/\⇑fs<=1000/\H dx=Lg (.own a):=by
 let(d,z,ne,g,b,n,r,q):=(show dJ P w H h a (.ins C dx fs)from c a _ e);calc(b,(g,n,ne,),r,q,z,d,)
end
structure Cls(K:ac)(C:AM):Prop where
 pg:MV K C tz=Li
 hd:Nr K C=Li
 po:W.plainOver K C=Li
 sa:wT K (.ref C) "__setattr__" = Lg (Lg<|.builtin "object.__setattr__")
def Cls.get{K:ac}{C:AM}(c:Cls K C)(f:Str):MV K C f=true:=c.pg
def  NoAttr(K:ac)(C:AM)(f:Str):Prop:=wT K (.ref C) f=Lg Lh
def NoAttr.taker{K:ac}{C:AM}{f:Str}(n:NoAttr K C f):W.takerIn K C f=Lg none:=by
 unfold W.takerIn;rw[show wT K (.ref C) f=Lg Lh from n];rfl
structure Con(K:ac)(C:AM)(f:Str)(v:V)(u:zt):Prop where
 at_:wT K (.ref C) f=Lg (Lg u)
 rel:RelV v u
 get:L1 K u "__get__" = Lg Lh
 cp:W.copiedNames.contains f=Lj
structure Meth(K:ac)(C:AM)(m:Str)(f:AM):Prop where
 at_:wT K (.ref C) m=Lg ↑f
 fn:W.isFn K (.ref f)=Li
 kp:LH K (.ref f)=Li
section
variable{fs:Lw (Str×V)}{f:Str}{v:V}
def uX{b:Bool}{Q:zt->C3->Prop}(I:Inv X Ll σ H s)(e:H a=Lg (.ins C dx fs))(c:Cls X.K C)(n:NoAttr X.K C f)(l:fs.lookup f=Lg v)
  (h:∀u s',Inv X Ll σ H s'->RelV v u->Q u s'):D2 (model X.prog X.w) A (getAttr (.ref a) f b) Q E s:=by
 let(g,O,r,_,_,_):=oO I.hok e;let(u,i,d):=ql.some_of (v:=v) (o:=g f) (by rw[←l];exact r f);calc get_map I.kIn O (c.get f) c.hd n i (qH d)<|h u _ (I.tok _) d
def jn{m:Str}{g:AM}{pl:Sem Bool}{Q:zt×Lw zt->C3->Prop}(I:Inv X Ll σ H s)(e:H a=Lg (.ins C dx fs))(c:Cls X.K C)(k:Meth X.K C m g)(l:fs.lookup m=Lh)
  (h:Q (.ref g,[.ref a]) s):D2 (model X.prog X.w) A (Jt (.ref a) m pl) Q E s:=by
 let(b,O,r,_,_,_):=oO I.hok e;let d:b m=none:=ql.none_of (by rw[←l];exact r m);calc yO I.kIn O (c.get m) k.at_ k.fn d h
def uY{y:V}{u:zt}{Q:Unit->C3->Prop}(I:Inv X Ll σ H s)(e:H a=Lg (.ins C dx fs))(c:Cls X.K C)(n:NoAttr X.K C f)(B:⇑fs<1000)(m:RelV y u)
  (h:∀s',Inv X Ll σ (upd H a<|.ins C dx<|bQ f y fs) s'->Q () s'):D2 (model X.prog X.w) A (setAttr (.ref a) f u) Q E s:=by
 let(j,O,r,i,_,k):=oO I.hok e;let p:⇑(fs.map (·.1))<=A8:=by rw[ck,Js];lia
 refine AV I.kIn O c.sa c.po n.taker c.hd i p λh' d l=>h _ ?_
 let hd:∃o,h'.get? dx=Lg o:=let ⟨o,_,_,e',_⟩:=d.ns;(o,e',);refine I.write (x:=a) (e:=dx) (by rw[e];exact LP) (.inr k) (λb q v z=>(l.2 b v).trans z) hd ?_;refine(by rw[ay O.ne];exact k,?_,O.ne,d.obj,_,d.ns,λg=>?_,λg t=>?_,)
 .let:=oh f y fs;lia
 .show ql ((bQ f y fs).lookup g) (if g=f then Lg u else j g);rw[og];by_cases q:g=f
  .rw[Lo q,Lo q];exact m
  .rw[Lm q,Lm q];exact r g
 .by_cases q:g=f
  .rw[q];exact(m7 f y fs).1
  .refine(m7 f y fs).2 g (i g λz=>t ?_);show(if g=f then Lg u else j g)=Lh;rw[Lm q];calc z
def Inv.made(I:Inv X Ll σ H s):Inv X Ll σ (upd (upd H ↥s<|.own<|↥s+1) (↥s+1)<|.ins C ↥s [])
  { s with heap:=(s.heap.push GE).push (LU C ↥s) }:=by
 let c:(s.heap.push GE).get? ↥s=Lg GE:=ii s.heap U;let h:((s.heap.push GE).push<|LU C ↥s).get? (↥s+1)=Lg (LU C ↥s):=by
  let:=ii (s.heap.push GE) (o:=LU C ↥s) U
  rwa [AC]at this
 let g:(s.heap.push GE).Ns ↥s (λ_=>Lh):=(GE,#[],_,c,U,(λe f=>Lp f (by simp)),λ_=>U,);let i:=I.laid (a:=↥s) (o:=.own<|↥s+1) (h':=s.heap.push GE) (t':=s.toks) (λb u q=>am _ q) (sT _) (_,c,);calc i.laid (a:=↥s+1) (o:=.ins C ↥s []) (t':=s.toks) (λb u q=>am _ q) (Nat.le_of_eq<|AC _ _) ?_;let ne:↥s≠↥s+1:=tj<|vi _;calc(by rw[ay ne,af],uk _,ne,h,λ_=>Lh,(A1.Ns1.of_empty g).at λo q=>am _ q,λ_=>LP,λy d=>Lp U d,)
def AW{prog:zA}{w:zz}{a:Env}{e:Ew}{f:Str}{pos:Pos}{s:C3}{Q:zt->C3->Prop}(c:Jw e f a (eval e a)=eval e a)
  (h:D2 (model prog w) A (eval e a) (λo b=>D2 (model prog w) A (getAttr o f Li) Q E b) E s):D2 (model prog w) A (eval (.Attribute e f pos) a) Q E s :=
 Attribute_any_ h (by rw[arm_eval_Attribute,c])
end
inductive Cd(K:ac)(f:Str)(Q:VK)(x:V)(H1:Hp):Prop
 |mk (a C dx fs v:_)(_:x=.ref a)(_:H1 a=Lg (.ins C dx fs))(_:Cls K C)(_:NoAttr K C f)(_:fs.lookup f=Lg v)(_:Q v H1)
def  Eo(K:ac)(ta:TE)(f:Str):TE:=λσ H Q=>ta σ H λx a=>Cd K f Q x a
def  FR(K:ac)(ta c:TE)(f:Str):TS:=λD σ H=>c σ H λy d=>ta σ d λx b=>∃a C dx fs,x=.ref a/\b a=Lg (.ins C dx fs)/\Cls K C/\NoAttr K C f/\⇑fs<1000 /\
 D.nx σ (upd b a<|.ins C dx<|bQ f y fs)
variable{o:Ew}
section
variable{value:Ew}{f:Str}{pos' Ep:Pos}{tv:TE}
def aO(g:PE X e ta)(i:Jw e f X.env (eval e X.env)=eval e X.env):PE X (.Attribute e f pos) (Eo X.K ta f):=by
 intro Ll s σ H Q I h;calc AW i<|thn (g Ll s σ H _ I h) λu w (x,p,o,b,a,C,dx,fs,v,j,k,c,n,l,q,)=>?_;subst j;obtain rfl:u=zt.ref a:=b;calc uX o k c n l λr t m d=>(v,p,m,d,q,)
def b6(m:PE X o ta)(j:PE X value tv)(k:IG value (Lg<|.Attribute o f pos') pos.line X.env=pure Lj):PS X (.Assign [.Attribute o f pos'] value pos) (FR X.K ta tv f):=by
 intro Ll s σ H D I h;calc plainObj_wpAny_Assign_Attribute (thn (j Ll s σ H _ I h) λu b (y,z,w,d,q,)=>thn (m Ll b σ z _ w q) λi B (x,E,v,e,a,C,dx,fs,p,r,c,n,l,g,)=>?_) k;subst p;obtain rfl:i=zt.ref a:=e;calc uY v r c n l d λA t=>(σ,_,t,g,)
end
section
variable{Q:zt->C3->Prop}{c:zt}{b:Bool}
inductive m8(K:ac)(H:Hp):V->zt->Prop where
 |non:m8 K H .non (.type "NoneType")
 |bl (x:Bool):m8 K H (.bl x) (.type "bool")
 |int (i:Int):m8 K H (.int i) (.type "int")
 |str (x:Str):m8 K H (.str x) (.type "str")
 |flt (x:UInt64):m8 K H (.flt x) (.type "float")
 |lst {a:AM}{xs:Lw V}(e:H a=Lg (.lst xs)):m8 K H (.ref a) (.type "list")
 |frz {a:AM}{o:Obj}{xs:Lw V}(e:H a=Lg (.frz o<|.lst xs)):m8 K H (.ref a) (.type "list")
 |tup {a:AM}{xs:Lw V}(e:H a=Lg (.tup xs)):m8 K H (.ref a) (.type "tuple")
 |dK {a:AM}{kvs:Lw (Key×V)}(e:H a=Lg (.dK kvs)):m8 K H (.ref a) (.type "dict")
 |dT {a:AM}{kvs:Lw (Lw Key×V)}(e:H a=Lg (.dT kvs)):m8 K H (.ref a) (.type "dict")
 |ins {a C dx:AM}{fs:Lw (Str×V)}(e:H a=Lg (.ins C dx fs))(cl:Cls K C)(ha:wT K (.ref C) "__class__" = Lg (Lg<|.builtin "object.__class__"))
   (hn:L1 K (.builtin "object.__class__") "__get__" = Lg (Lg<|.builtin "getset_descriptor.__get__")) (htk:W.takesIn K (.builtin "object.__class__")=Lg Li)
   (hm:W.mroIn K C (.type "object")=Lg Li):m8 K H (.ref a) (.ref C)
def xx{x:V}{u t:zt}(I:Inv X Ll σ H s)(d:RelV x u)(ty:m8 X.K H x t)(e:Mh X.K t c=Lg b)(h:∀k,Q (.bool b) { s with toks:=k }) :
  D2 (model X.prog X.w) A (call (.builtin "isinstance") [u,c]) Q E s:=by
 cases ty with
 |non=>cases (show u=zt.none from d);exact FB W.kitx_none I.kIn LP e (λz=>nomatch z) h
 |bl y=>cases (show u=zt.bool y from d);exact FB W.kitx_bool I.kIn LP e (λz=>nomatch z) h
 |int i=>obtain⟨t,q⟩:=(show ∃t,u=zt.int i t from d);cases q;exact FB W.kitx_int I.kIn LP e (λz=>nomatch z) h
 |str y=>obtain⟨t,q⟩:=(show ∃t,u=zt.str y t from d);cases q;exact FB W.kitx_str I.kIn LP e (λz=>nomatch z) h
 |flt y=>obtain⟨t,q⟩:=(show ∃t,u=zt.float y t from d);cases q;exact FB W.kitx_float I.kIn LP e (λz=>nomatch z) h
 | @lst a g ea =>
  cases (show u=zt.ref a from d);let(_,_,n,_,f):=(show dJ X.prog X.w H s.heap a (.lst g)from I.hok a _ ea);exact FB W.kitx_list I.kIn (_,f,U,) e (λz=>nomatch z) h
 | @frz a ob g ea =>
  cases (show u=zt.ref a from d);let(_,_,_,n,_,f):=(show dJ X.prog X.w H s.heap a (.frz ob<|.lst g)from I.hok a _ ea);exact FB W.kitx_list I.kIn (_,f,U,) e (λz=>nomatch z) h
 | @tup a g ea =>
  cases (show u=zt.ref a from d);let(_,_,_,p):=(show dJ X.prog X.w H s.heap a (.tup g)from I.hok a _ ea);let(o,f,j,_):=p;exact FB W.kitx_tuple I.kIn (o,f,j,) e (λz=>nomatch z) h
 | @dK a kvs ea =>
  cases (show u=zt.ref a from d);let(_,_,r,_,p):=(show dJ X.prog X.w H s.heap a (.dK kvs)from I.hok a _ ea);let(o,l,m,f,j,_):=p;exact FB W.kitx_dict I.kIn (o,f,j.1,) e (λz=>nomatch z) h
 | @dT a kvs ea =>
  cases (show u=zt.ref a from d);let(_,_,g,_,o,l,m,f,j,_):=(show dJ X.prog X.w H s.heap a (.dT kvs)from I.hok a _ ea);exact FB W.kitx_dict I.kIn (o,f,j.1,) e (λz=>nomatch z) h
 | @ins a C dx fs ea cl ha hn htk hm =>
  cases (show u=zt.ref a from d);let(B,O,_):=oO I.hok ea;let(v,J,_):=O.look;calc FB (W.kitx_own (cl.get _) cl.hd ha hn htk hm) I.kIn J e (λz=>nomatch z) h
end
structure cS(k:Nat)(A:C2):Prop where
 hd:A.handled=Lh
 dp:A.depth+3*k+5<Jx
 un:A.units+16*k+200<Jy
def cS.mono{j k:Nat}{A:C2}(r:cS k A)(h:j<=k):cS j A:=(r.hd,by have:=r.dp;lia,by have:=r.un;lia,)
def cS.deeper{k:Nat}{A:C2}(r:cS (k+1) A)(a:Env):cS k (A.deeper a) :=
 (r.hd,by have:=r.dp;show A.depth+1+3*k+5<_;lia,by have:=r.un;show A.units+3+16*k+200<_;lia,)
def uZ{A:C2}{C:AM}{us:Lw zt}{a:Lw (Str×zt)}:(A.under<|.builtin "type.__call__" (.ref C :: us,a,)).depth=A.depth+1:=by
 first|rfl|simp[C2.under,Jz.weight,Jz.isCreation,Jz.isGuard,Jz.isCaller,Jz.frames,Jz.isFrame,guardIds]
def u5{A:C2}{C:AM}{us:Lw zt}{a:Lw (Str×zt)}:(A.under<|.builtin "type.__call__" (.ref C :: us,a,)).units=A.units+1:=by
 first|rfl|simp[C2.under,Jz.cUnits,Jz.frames,Jz.isFrame]
def cS.make{k:Nat}{A:C2}(r:cS (k+1) A)(C:AM)(us:Lw zt)(a:Lw (Str×zt)):cS k (A.under<|.builtin "type.__call__" (.ref C :: us,a,)) :=
 (r.hd,by have:=r.dp;rw[uZ];lia,by have:=r.un;rw[u5];lia,)
def cS.depth{k:Nat}{A:C2}(r:cS k A):A.depth<Jx:=by have:=r.dp;lia
def cS.units{k:Nat}{A:C2}(r:cS k A):A.units+64<Jy:=by have:=r.un;lia
def  xy:TA:=λ_ H Q=>Q [] H
def  Er(ta:TE)(b:TA):TA:=λσ H Q=>ta σ H λx d=>b σ d λa c=>Q (x :: a) c
variable{es:Lw Ew}{t:TA}
def ae:PA X [] xy:=λ_ _ _ _ H Q I h=>Mm ([],H,I,.nil,h,)
def aa(k:PE X e te)(j:PA X es t)(i:EN (e :: es) X.env=(Lj,eval e X.env) :: EN es X.env:=by rfl):PA X (e :: es) (Er te t):=by
 intro pos Ll s σ H Q I h;rw[i];show D2 _ _ (spliced ((Lj,eval e X.env) :: EE pos (EN es X.env))) _ _ s;calc LL<|thn (k Ll s σ H _ I h) λu b (x,o,m,d,g,)=>?_;calc thn (j pos Ll b σ o _ m g) λp q (a,n,l,c,f,)=>(x :: a,n,l,.cons d c,f,)
def  FT(t:TA):TE:=λσ H Q=>t σ H λa b=>⇑a<=A8/\∀p,b p=Lh->Q (.ref p) (upd b p<|.tup a)
def  FU(t:TA):TE:=λσ H Q=>t σ H λa b=>⇑a<=A8/\∀p,b p=Lh->Q (.ref p) (upd b p<|.lst a)
def bz{x1} (h:PA X es t):PE X (.Tuple es x1 pos) (FT t):=by
 intro Ll s σ H Q I i;refine JA (thn (h pos Ll s σ H _ I i) λg a (f,d,c,r,z,q,)=>(by rw[←⇑r];exact z,?_,));let j:d ↥a=none:=c.hok.fresh<|sT _;calc(.ref ↥a,upd d ↥a<|.tup f,c.laid (t':=a.toks) (λb u e=>am _ e) (sT _) ?_,U,q _ j,);calc(z,g,r,(_,ii _ U,U,_,U,),)
def bJ(h:PA X es t):PE X (.List es pos) (FU t):=by
 intro Ll s σ H Q I i;refine wpAny_List_spliced (thn (h pos Ll s σ H _ I i) λg a (f,d,c,r,z,q,)=>(by rw[←⇑r];exact z,?_,));let j:d ↥a=none:=c.hok.fresh<|sT _;calc(.ref ↥a,upd d ↥a<|.lst f,c.laid (t':=a.toks) (λb u e=>am _ e) (sT _) ?_,U,q _ j,);calc(z,g,0,r,ii _ U,)
abbrev Sp:=Lw V->Hp->VK->XK->Prop
abbrev CXT:=Lw Env->Hp->C3->XK->zt->C3->Prop
structure u6(P:zA)(w:zz)(K:ac)(mg:Str->Option zt)(base:A1)(A:C2)(outer:Lw Env)(s:C3)(H:Hp):Prop where
 frames:A.frames=Lg outer
 mod:Mod K mg base
 bs:∀b o,base.get? b=Lg o->s.heap.get? b=Lg o/\H b=Lh
 bsz:base.objs.size<=↥s
 funs:s.heap.FunFrames base outer
 frf:∀b∈frs outer,H b=Lh
 hok:HOk P w H s.heap
 bare:AllBare s.gens
def  CE(a:Lw Env)(P:zA)(w:zz)(H:Hp)(s:C3)(Q:VK)(u:zt)(s':C3):Prop :=
 ∃v H',s'.os=s.os/\AllBare s'.gens/\Un (frs a) [] H H' s.heap s'.heap/\HOk P w H' s'.heap/\RelV v u/\Q v H'
def  CR(CX:CXT)(a:Lw Env)(P:zA)(w:zz)(H:Hp)(s:C3)(Q:VK)(E:XK)(r:Ju)(s':C3):Prop :=
 match r with
 | .ok (.ret u)=>CE a P w H s Q u s'
 | .ok _=>False
 | .error e=>CX a H s E e s'
structure aR(P:zA)(w:zz)(K:ac)(mg:Str->Option zt)(base:A1)(CX:CXT)(k:Nat)(f:AM)(fd:JB)(ps:Lw Str)(sp:Sp):Prop where
 len:∀vs H Q E,sp vs H Q E->⇑vs=⇑ps
 run:∀(A:C2)(outer:Lw Env)(s:C3)(H:Hp)(args:Args)(us:Lw zt)(vs:Lw V)(Q:VK)(E:XK),cS k A->u6 P w K mg base A outer s H->JC s fd args (ps.zip us)->Vals vs us->sp vs H Q E ->
  Jv (model P w) A (.call (.ref f) args) (CR CX outer P w H s Q E) s
def aR.mono{P:zA}{w:zz}{K:ac}{d:Str->Option zt}{a:A1}{CX:CXT}{j k:Nat}{f:AM}{e:JB}{ps:Lw Str}{sp:Sp}(F:aR P w K d a CX j f e ps sp)(h:j<=k) :
  aR P w K d a CX k f e ps sp:=(F.len,λA b s H c i g Q E l=>F.run A b s H c i g Q E<|l.mono h,)
def u6.make{P:zA}{w:zz}{K:ac}{c:Str->Option zt}{b:A1}{A:C2}{a:Lw Env}{s:C3}{H:Hp}(e:u6 P w K c b A a s H)(C:AM)(us:Lw zt)(d:Lw (Str×zt)) :
  u6 P w K c b (A.under<|.builtin "type.__call__" (.ref C :: us,d,)) a s H:=(by first|exact e.frames|(simpa[C2.under,Jz.envs,Jz.isFrame,pushEnvs]using e.frames),e.mod,e.bs,e.bsz,e.funs,e.frf,e.hok,e.bare,)
section
variable{s':C3}
def Inv.env0(I:Inv X Ll σ H s):u6 X.prog X.w X.K X.mg X.base X.A X.stack s H :=
 (I.ok.frames,I.ok.mod,I.bs,tm I.ok.bsz I.sz,I.stack,I.stkFree,I.hok,I.bare,)
def Inv.after{Q:VK}{u:zt}(I:Inv X Ll σ H s)(h:CE X.stack X.prog X.w H s Q u s'):EP X Ll σ Q u s':=by
 let(v,H',os,a,un,e,r,q):=h;let(f,g,d,t,c):=s';obtain rfl:c=s.os:=os;calc(v,H',I.call (h':=f) (g':=g) (d':=d) (t':=t) (ch:=[]) un e a<|λb z=>Lp z (by simp),r,q,)
end
def  Cf(sp:Sp)(dvs:Lw V)(E:XK)(t:TA):TE:=λσ H Q=>t σ H λa b=>sp (a++dvs) b Q E
def  Cg(C:AM)(sp:Sp)(dvs:Lw V)(E:XK)(t:TA):TE:=λσ H Q=>t σ H λb a=>∀x dx,a x=Lh->a dx=Lh->dx≠x ->
 sp (.ref x :: (b++dvs)) (upd (upd a dx<|.own x) x<|.ins C dx []) (λv c=>v=.non/\Q (.ref x) c) E
def  Binds(K:ac)(b:JB)(ps:Lw Str)(ds:Lw zt):Prop :=
 ∀(s:C3)(a:Lw zt),K.In s.heap->⇑(a++ds)=⇑ps->JC s b (a,[],) (ps.zip<|a++ds)
def Binds.all{K:ac}{b:JB}{ps:Lw Str}(h:∀us:Lw zt,⇑us=⇑ps->JD b (us,[],)=pure (ps.zip us)):Binds K b ps []:=λs us _ a=>by
 rw[jV]at a⊢;calc .of_eq<|h us a
def  Passes(CX:CXT)(X:Cx)(E:XK):Prop:=∀(Ll:Lw (AM×Obj))(σ:St)(H:Hp)(s:C3)(e:zt)(a:C3),Inv X Ll σ H s->CX X.stack H s E e a->X.xe e a
variable{p:Pos}
section
variable{CX:CXT}{k:Nat}{fd:JB}{ps:Lw Str}{sp:Sp}{dvs:Lw V}{ds:Lw zt}{E:XK}{x m:Str}{apos:Pos}
def u7{Ll:Lw (AM×Obj)}{σ:St}{H:Hp}{s:C3}{Q:VK}{us:Lw zt}{vs:Lw V}(F:aR X.prog X.w X.K X.mg X.base CX k f fd ps sp)(g:cS k X.A)(l:Binds X.K fd ps ds)(j:Vals dvs ds)(d:Passes CX X E)
  (I:Inv X Ll σ H s)(r:Vals vs us)(h:sp (vs++dvs) H Q E):D2 (model X.prog X.w) X.A (call (.ref f) us) (EP X Ll σ Q) X.xe s:=by
 let b:Vals (vs++dvs) (us++ds):=r.append j;let i:⇑(us++ds)=⇑ps:=by rw[←⇑b];exact F.len _ _ _ _ h
 calc JE<|JF (F.run X.A X.stack s H (us,[],) (us++ds) (vs++dvs) Q E g I.env0 (l s us I.kIn i) b h) λr c a=>?_;cases r with
 |error e=>exact d Ll σ H s e c I a
 |ok fl =>
  cases fl with
  |ret u=>exact I.after a
  |next=>exact ut a
  |brk=>exact ut a
  |cont=>calc ut a
def AX(F:aR X.prog X.w X.K X.mg X.base CX k f fd ps sp)(g:cS k X.A)(l:Gl X x)(i:X.mg x=↑f)(j:LH X.K (.ref f)=Li)(n:Binds X.K fd ps ds)(m:Vals dvs ds)(d:Passes CX X E)
  (o:PA X (e :: es) t)(b:(x == ("__debug__" : Str))=false:=by decide) (he:EN (e :: es) X.env=(Lj,eval e X.env) :: EN es X.env:=by rfl)(a:(EE pos<|EN es X.env).any (·.1)=false:=by rfl) :
  PE X (.Call (.Name x p) (e :: es) [] pos) (Cf sp dvs E t):=by
 intro Ll s σ H Q I h;calc zd<|eV I l i ?_ b;calc Ix (h₀:=X.base) I.ok.mod.kin j (thn (o pos Ll s σ H _ I h) λv y (u,z,c,r,q,)=>(c.kIn,?_,)) he a;calc u7 F g n m d c r q
def yQ(F:aR X.prog X.w X.K X.mg X.base CX k f fd ps sp)(c:cS k X.A)(g:Gl X x)(d:X.mg x=↑f)(e:LH X.K (.ref f)=Li)(j:Binds X.K fd ps ds)(i:Vals dvs ds)(b:Passes CX X E)
  (a:(x == ("__debug__" : Str))=false:=by decide):PE X (.Call (.Name x p) [] [] pos) (Cf sp dvs E xy):=by
 intro Ll s σ H Q I h;calc zd<|eV I g d ?_ a;calc M6 I.kIn e<|u7 (us:=[]) F c j i b I .nil h
structure Mk(K:ac)(C f:AM):Prop where
 makes:W.makesIn K C=Li
 init:wT K (.ref C) "__init__" = Lg ↑f
 fn:W.isFn K (.ref f)=Li
 kp:LH K (.ref C)=Li
def tM{Ll:Lw (AM×Obj)}{σ:St}{H:Hp}{s:C3}{Q:VK}{us:Lw zt}{vs:Lw V}(M:Mk X.K C f)(F:aR X.prog X.w X.K X.mg X.base CX k f fd ps sp)(m:cS (k+1) X.A)(p:Binds X.K fd ps ds)(o:Vals dvs ds)
  (l:Passes CX X E)(I:Inv X Ll σ H s)(r:Vals vs us)
  (h:∀x dx,H x=Lh->H dx=Lh->dx≠x->sp (.ref x :: (vs++dvs)) (upd (upd H dx<|.own x) x<|.ins C dx []) (λv y=>v=.non/\Q (.ref x) y) E) :
  D2 (model X.prog X.w) X.A (call (.ref C) us) (EP X Ll σ Q) X.xe s:=by
 let d:=h (↥s+1) ↥s (I.hok.fresh<|u3 _) (I.hok.fresh<|sT _)<|tj<|vi _;let b:=Inv.made (C:=C) I;let c:Vals (NC (↥s+1) :: (vs++dvs)) (zt.ref (↥s+1) :: (us++ds)):=.cons U<|r.append o;let n:⇑(zt.ref (↥s+1) :: us++ds)=⇑ps:=by
  let e:=⇑c;rw[F.len _ _ _ _ d]at e;exact e.symm
 refine JE (yP (f:=f) I.kIn M.makes M.init (beq_iff_eq.mp M.fn) (JF (F.run _ X.stack _ _ (zt.ref (↥s+1) :: us,[],) (zt.ref (↥s+1) :: (us++ds)) _ _ E (m.make C us [])
  (b.env0.make C us []) (p _ (zt.ref (↥s+1) :: us) b.kIn n) c d) λr g a=>?_))
 cases r with
 |error e=>exact l Ll σ _ _ e g b a
 |ok fl =>
  cases fl with
  |ret u =>
   let(v,H',t,i,q,j):=b.after a;subst q;exact(i,(NC<|↥s+1,H',t,U,j,),)
  |next=>exact ut a
  |brk=>exact ut a
  |cont=>calc ut a
def AY(M:Mk X.K C f)(F:aR X.prog X.w X.K X.mg X.base CX k f fd ps sp)(g:cS (k+1) X.A)(j:Gl X x)(i:X.mg x=↑C)(m:Binds X.K fd ps ds)(l:Vals dvs ds)(d:Passes CX X E)
  (n:PA X (e :: es) t)(b:(x == ("__debug__" : Str))=false:=by decide) (he:EN (e :: es) X.env=(Lj,eval e X.env) :: EN es X.env:=by rfl)(a:(EE pos<|EN es X.env).any (·.1)=false:=by rfl) :
  PE X (.Call (.Name x p) (e :: es) [] pos) (Cg C sp dvs E t):=by
 intro Ll s σ H Q I h;calc zd<|eV I j i ?_ b;calc Ix (h₀:=X.base) I.ok.mod.kin M.kp (thn (n pos Ll s σ H _ I h) λu v (o,y,c,r,q,)=>(c.kIn,?_,)) he a;calc tM M F g m l d c r q
def yR(M:Mk X.K C f)(F:aR X.prog X.w X.K X.mg X.base CX k f fd ps sp)(c:cS (k+1) X.A)(e:Gl X x)(d:X.mg x=↑C)(i:Binds X.K fd ps ds)(g:Vals dvs ds)(b:Passes CX X E)
  (a:(x == ("__debug__" : Str))=false:=by decide):PE X (.Call (.Name x p) [] [] pos) (Cg C sp dvs E xy):=by
 intro Ll s σ H Q I h;calc zd<|eV I e d ?_ a;calc M6 I.kIn M.kp<|tM (us:=[]) M F c i g b I .nil h
end
section
variable{CX:CXT}{k:Nat}{fd:JB}{ps ks:Lw Str}{sp:Sp}{E:XK}{x m:Str}{apos ID:Pos}{kws:Lw Keyword}{tk:TA}{nm:Option Str}
structure FV(K:ac)(fd:JB)(ps ks:Lw Str)(g:Lw zt->Lw zt->Lw zt)(gV:Lw V->Lw V->Lw V):Prop where
 to:∀(s:C3)(us ws:Lw zt),K.In s.heap->⇑(g us ws)=⇑ps->JC s fd (us,ks.zip ws,) (ps.zip<|g us ws)
 rel:∀{vs:Lw V}{us:Lw zt}{zs:Lw V}{ws:Lw zt},Vals vs us->Vals zs ws->Vals (gV vs zs) (g us ws)
variable{g:Lw zt->Lw zt->Lw zt}{gV:Lw V->Lw V->Lw V}
end
structure av(N P:Lw Str)(sc:C4):Prop where
 kind:sc.kind=.function
 co:sc.isCoroutine=Lj
 gen:sc.isGenerator=Lj
 nd:N.Nodup
 pre:N.take P.length=P
 par:∀x∈P,sc.names.lookup x=Lg .local\/sc.names.lookup x=Lg .cell
 nofree:∀y∈sc.names,y.2≠.free
def qI{a:Str->Option JG}{x:Str}:∀{binds:Lw (Str×zt)}{m:Str->Option zt},(∀v,(x,v) ∉ binds)->JH a binds m x=m x
 | [],_,_=>rfl
 |(n,v) :: r,m,h=>by
  unfold JH;rw[qI λw b=>h w (fj _ b)];split
  .let:x≠n:=by rintro rfl;exact h v gs
   simp[this]
  .rfl
def qJ{a:Str->Option JG}{x:Str}:∀{binds:Lw (Str×zt)}{m:Str->Option zt},(∀v,(x,v) ∉ binds)->JI a binds m x=m x
 | [],_,_=>rfl
 |(n,v) :: r,m,h=>by
  unfold JI;rw[qJ λw b=>h w (fj _ b)];split
  .rfl
  .let:x≠n:=by rintro rfl;exact h v gs
   simp[this]
def qK{a:Str->Option JG}{x:Str}{v:zt}:∀{P:Lw Str}{vs:Lw zt}{i:Nat}{m:Str->Option zt},P.Nodup->P[i]?=Lg x->vs[i]?=Lg v->a x=Lg .local ->
  JH a (P.zip vs) m x=Lg v
 | [],_,_,_,_,h,_,_=>by simp at h
 |_ :: _,[],_,_,_,_,h,_=>by simp at h
 |p :: P,w :: vs,0,m,nd,h1,h2,hk=>by
  simp at h1 h2;subst h1;subst h2;show JH a ((p,w) :: P.zip vs) m p=_;unfold JH;rw[qI λv b=>(hE.mp nd).1 (sh b).1,Lo hk];simp
 |p :: P,w :: vs,i+1,m,nd,h1,h2,hk=>by
  show JH a ((p,w) :: P.zip vs) m x=_;unfold JH;calc qK (i:=i) (hE.mp nd).2 (~~~h1) (~~~h2) hk
def qL{a:Str->Option JG}{x:Str}{v:zt}:∀{P:Lw Str}{vs:Lw zt}{i:Nat}{m:Str->Option zt},P.Nodup->P[i]?=Lg x->vs[i]?=Lg v->a x≠Lg .local ->
  JI a (P.zip vs) m x=Lg v
 | [],_,_,_,_,h,_,_=>by simp at h
 |_ :: _,[],_,_,_,_,h,_=>by simp at h
 |p :: P,w :: vs,0,m,nd,h1,h2,hk=>by
  simp at h1 h2;subst h1;subst h2;show JI a ((p,w) :: P.zip vs) m p=_;unfold JI;rw[qJ λv b=>(hE.mp nd).1 (sh b).1,Lm hk];simp
 |p :: P,w :: vs,i+1,m,nd,h1,h2,hk=>by
  show JI a ((p,w) :: P.zip vs) m x=_;unfold JI;calc qL (i:=i) (hE.mp nd).2 (~~~h1) (~~~h2) hk
def  start(N:Lw Str)(vs:Lw V):St:=vs.map Lg++py (N.length-⇑vs) Lh
def  bh(CX:CXT)(P:zA)(w:zz)(K:ac)(mg:Str->Option zt)(base:A1)(N:Lw Str)(a:Str)(scope:C4)(f:AM)(c:zt)(A:C2)(outer:Lw Env)(s:C3)(H:Hp)(E:XK):Cx where
 prog:=P
 w:=w
 K:=K
 mg:=mg
 base:=base
 A:=A.deeper (envOfC a scope ↥s f c)
 N:=N
 s₀:=s
 H₀:=H
 env:=envOfC a scope ↥s f c
 outer:=outer
 stack:=envOfC a scope ↥s f c :: outer
 ex:=[]
 calm:=Li
 fn:=λ_=>Li
 pn:=[]
 xe:=λe d=>D2 (model P w) (A.deeper<|envOfC a scope ↥s f c) (leaving (envOfC a scope ↥s f c) e) (λ_ b=>CX outer H s E e b) (λg b=>CX outer H s E g b) d
def tO{a:C4}{n:Nat}{x:Str}(h:a.names.lookup x=Lg .cell):∃c,(JJ n a.names []).lookup x=Lg c:=by
 let q:=W.cellsFrom_some a.names n [] (.inl h);calc yz.mp q
def xA{CX:CXT}{P:zA}{w:zz}{K:ac}{G:Str->Option zt}{l:A1}{N ps:Lw Str}{g:Str}{scope:C4}{f:AM}{F:zt}{A:C2}{d:Lw Env}{s I:C3}{H:Hp}{E:XK}{us:Lw zt}{vs:Lw V}
  (S:av N ps scope)(O:A.handled=Lh)(m:u6 P w K G l A d s H)(X:⇑vs=⇑ps)(r:Vals vs us)
  (x:InCallC s ↥s (JH (envOfC g scope ↥s f F).kindOf (ps.zip us) λ_=>Lh) (JJ (↥s+1) scope.names []) (JI (envOfC g scope ↥s f F).kindOf (ps.zip us) λ_=>Lh) I) :
  Inv (bh CX P w K G l N g scope f F A d s H E) [] (start N vs) H I:=by
 let R:⇑ps<=N.length:=by have:=Lu LD S.pre;rw[fK]at this;lia
 let(D,T,rfl,L):=x.done;let t:∀b:AM,b ∉ (bh CX P w K G l N g scope f F A d s H E).ex:=λb z=>Lp (show b∈([]:Lw AM)from z) (by simp)
 refine((m.mod,S.kind,U,U,sT _,λy z c D j=>?_,λy o=>?_,λy c _ h=>?_,λ_=>O,C2.frames_deeper m.frames,.inr (U,U,),λb z=>Lp z<|t b,m.bs,m.bsz,λb _ _=>t b,λb z=>Lp z<|t b,m.funs,m.frf,),
  rfl,m.bare,Un.kept L,(_,x.toInCall.ns,λi y v D j Y=>?_,),λy c h=>(_,x.cell y c h,),m.hok.fresh<|sT _,λy c h=>?_,λp B=>Lp (show p∈([]:Lw (AM×Obj))from B) (by simp),m.hok.kept L,?_,)
 .exact name_of_addr x.apart (mem_of_lookup D)<|mem_of_lookup j
 .let o:scope.names.lookup y=Lg .cell\/scope.names.lookup y=Lg .free:=o;rcases o with o|o
  .exact tO o
  .exact Lp U<|S.nofree _<|mem_of_lookup o
 .exact ve<|x.above y c<|mem_of_lookup h
 .let hi:i<⇑vs:=by
   unfold start at j;by_cases hi:i<⇑vs
   .exact hi
   .rw[gn (~~~hi)]at j;rw[ly]at j;split at j <;> cases j
  let Q:vs[i]?=Lg v:=by
   unfold start at j;rw[gi (~~~hi),dV]at j;cases e:vs[i]? with
   |none=>rw[e]at j;cases j
   |some a=>rw[e]at j;cases j;rfl
  let(u,J,M):=r.get Q;let B:ps[i]?=Lg y:=by
   rw[←S.pre,LY ∅];exact D
  let C:ps.Nodup:=by rw[←S.pre];exact S.nd.sublist<|Mr _ _
  calc(u,M,?_,);rcases S.par y (IW B)with k|k
  .exact .inl (k,qK C B J k,)
  .let(c,e):=tO (n:=↥s+1) k;calc .inr (.inl k,c,e,?_,);let q:=x.cell y c e;rw[qL C B J (by show scope.names.lookup y≠_;rw[k];decide)]at q;exact q
 .exact m.hok.fresh<|ve<|x.above y c<|mem_of_lookup h
 .unfold start;show _=N.length;rw[eH,ck,jZ];lia
def Ci{CX:CXT}{P:zA}{w:zz}{K:ac}{m:Str->Option zt}{base:A1}{k:Nat}{f:AM}{name c:Str}{params:Arguments}{body:Lw EV}{scope:C4}{M kV l L d O oc:zt}{R od:Option AM}
  {C:Array (Option zt)}{N ps:Lw Str}{sp:Sp}(lk:K.lookup f=Lg (oc,od,.func<|Ng name c params body scope M kV l L R d O,C,))(F:W.codeIn K d c=Li)(S:av N ps scope)
  (len:∀vs H Q E,sp vs H Q E->⇑vs=⇑ps)
  (my:∀(A:C2)(a:Lw Env)(s:C3)(H:Hp)(vs:Lw V)(Q:VK)(E:XK),cS k (A.deeper<|envOfC c scope ↥s f d)->sp vs H Q E ->
   ∃t,PSs (bh CX P w K m base N c scope f d A a s H E) body t/\t { nx:=λ_ H'=>Q .non H',rt:=Q } (start N vs) H) :
  aR P w K m base CX (k+1) f (Ng name c params body scope M kV l L R d O) ps sp:=by
 calc(len,λA a s H X Z vs Q E B i hb r j=>?_,);let hl:=len _ _ _ _ j;let T:K.In s.heap:=i.mod.kin.keeps λb o e=>(i.bs b o e).1
 let D:s.heap.NoLimit:=i.mod.nolimit.keeps λb o e=>(i.bs b o e).1
 let Y:∀y∈ps.zip Z,scope.names.lookup y.1=Lg .local\/(scope.names.lookup y.1=Lg .cell/\((JJ (↥s+1) scope.names []).lookup y.1).isSome=Li):=λ(n,v,) hy=>by
  rcases S.par n (sh hy).1 with q|q
  .exact .inl q
  .exact .inr (q,W.cellsFrom_some _ _ _<|.inl q,)
 calc codeAny_call_function B.depth (T _ _ lk) U S.co S.gen U (W.codeRec_of T F)<|hb _ _ _ _ ?_;refine wpAny_newFunctionEnv_cells S.kind Y λa0 he G x=>?_
 subst he;calc(D.keeps x.toInCall.keep,codeAny_func ?_,);let(t,ht,hq):=my A a s H vs Q E (B.deeper _) j;let I:Inv (bh CX P w K m base N c scope f d A a s H E) [] (start N vs) H G:=xA S B.hd i hl r x;refine EX (ht [] G (start N vs) H _ I hq) (λfl p h=>?_) λe p h=>h
 let fin:∀{g:St}{H':Hp}{v:V}{u:zt},Inv (bh CX P w K m base N c scope f d A a s H E) [] g H' p->RelV v u->Q v H'->CE a P w H s Q u p :=
  λ{g H' v u} J z q=>(v,H',J.os,J.bare,J.base,J.hok,z,q,)
 cases fl with
 |ret u =>
  let(v,g,H',J,z,q):=h;exact fin J z q
 |next =>
  let(g,H',J,q):=h;exact fin (v:=V.non) (u:=zt.none) J U q
 |brk =>
  let(_,_,_,q):=h;exact ut q
 |cont =>
  let(_,_,_,q):=h;calc ut q
section
variable{x:Str}{id T:String}{r:Lw V->Hp->VK->Prop}
def  tCB(r:Lw V->Hp->VK->Prop)(t:TA):TE:=λσ H Q=>t σ H λa b=>r a b Q
def ar(n:gQ X (.builtin id) r)(m:Gl X x)(l:X.mg x=Lh)(j:CP x=Lg (.builtin id))(o:PA X (e :: es) t)(k:x ≠ "__name__" := by decide) (b:(x == ("__debug__" : Str))=false:=by decide)
  (he:EN (e :: es) X.env=(Lj,eval e X.env) :: EN es X.env:=by rfl)(a:(EE pos<|EN es X.env).any (·.1)=false:=by rfl):PE X (.Call (.Name x p) (e :: es) [] pos) (tCB r t):=by
 intro Ll s σ H Q I h;calc zd<|jm I m l j ?_ k b;calc PyProof.Rows.callWith_builtin1 (thn (o pos Ll s σ H _ I h) λd f (c,u,q,g,i,)=>n Ll f σ u c d Q q g i) he a
def a9(n:gQ X (.type T) r)(m:Gl X x)(l:X.mg x=Lh)(j:CP x=Lg (.type T))(o:PA X (e :: es) t)(k:x ≠ "__name__" := by decide) (b:(x == ("__debug__" : Str))=false:=by decide)
  (he:EN (e :: es) X.env=(Lj,eval e X.env) :: EN es X.env:=by rfl)(a:(EE pos<|EN es X.env).any (·.1)=false:=by rfl):PE X (.Call (.Name x p) (e :: es) [] pos) (tCB r t):=by
 intro Ll s σ H Q I h;calc zd<|jm I m l j ?_ k b;calc v4 (thn (o pos Ll s σ H _ I h) λd f (c,u,q,g,i,)=>n Ll f σ u c d Q q g i) he a
end
end _L
open _L.Cx renaming wish→Ny,nox→Nz
open _L.SqT renaming of→Nx
open _L.SqL renaming of→Nw
open _L.V renaming int→pi,ref→NC,str→NE
namespace HT
open PySem PyProof.Rows
section
open PySem.SeqAt
open PySem.AutoSeq1 (wpAny_loadPart')
open PySem.MeetsSeq PySem.MeetsSeq2 PySem.MeetsSeq3
end
section
variable{prog:zA}{w:zz}{A:C2}{E:zt->C3->Prop}{s:C3}
def  sIx(n d:Nat):Option Int->Nat
 |none=>d
 |some v=>if v<0 then(v+(n:Int)).toNat else min v.toNat n
def sIx_nat(n d k:Nat):sIx n d (Lg (k:Int))=min k n:=by
 show(if (k:Int)<0 then((k:Int)+(n:Int)).toNat else min (k:Int).toNat n)=min k n;rw[Lm ∅,wi]
end
end HT
namespace _L
open PySem PySem.Spec PyProof.Rows
abbrev TO:=St->Hp->(Option Int->NB)->Prop
def  PO(X:Cx)(e:Option Ew)(t:TO):Prop :=
 ∀(a:Lw (AM×Obj))(s:C3)(b:St)(H:Hp)(Q:Option Int->NB),Inv X a b H s->t b H Q ->
  D2 (model X.prog X.w) X.A (evalPart e X.env) (λu d=>∃o c,Inv X a b c d/\JK u o/\Q o c) X.xe s
def  AZ:TO:=λ_ H Q=>Q Lh H
inductive yS  (Q:Option Int->NB)(x:V)(H1:Hp):Prop
 |mk (i:_)(_:x=.int i)(_:Q (Lg i) H1):yS Q x H1
def  Es(t:TE):TO:=λa H Q=>t a H λx b=>yS Q x b
variable{X:Cx}
section
variable{e:Ew}{te:TE}{lo hi:Option Ew}{tl th:TO}{pos p2:Pos}
def mz:PO X Lh AZ:=by
 intro a s b H Q I h;rw[JL];calc yU (Lh,H,I,.none,h,)
def jo(h:PE X e te):PO X (Lg e) (Es te):=by
 intro a s b H Q I f;rw[evalPart_some];refine thn (h a s b H _ I f) λu k (x,j,g,c,d,)=>?_
 let(i,rfl,q):=d;let(t,rfl):=c;calc(Lg i,j,g,.int i t,q,)
def  SlR(X:Cx)(r:V->Option Int->Option Int->Hp->VK->Prop):Prop :=
 ∀(a:Lw (AM×Obj))(s:C3)(b:St)(H:Hp)(x:V)(v d c:zt)(lo hi:Option Int)(e:AM)(Q:VK),Inv X a b H s->RelV x v->s.heap.IsSliceOf e d c .none->JK d lo->JK c hi->r x lo hi H Q ->
  ∃T f,JM (.type T) "__getitem__" = pure (Lg<|.builtin f)/\s.TypeIs v T/\D2 (model X.prog X.w) X.A (getItem v<|.ref e) (EP X a b Q) X.xe s
def  tSl(r:V->Option Int->Option Int->Hp->VK->Prop)(te:TE)(tl th:TO):TE:=λa H Q=>te a H λx d=>tl a d λl c=>th a c λu b=>r x l u b Q
def iZ{r:V->Option Int->Option Int->Hp->VK->Prop}(C:SlR X r)(F:PE X e te)(D:PO X lo tl)(z:PO X hi th):PE X (.Subscript e (.Slice lo hi Lh p2) pos) (tSl r te tl th):=by
 intro a s d H Q I h;calc Subscript_<|thn (F a s d H _ I h) λv k (x,O,M,m,p,)=>?_;calc wpAny_Slice<|thn (D a k d O _ M p) λg j (l,N,L,y,o,)=>thn (z a j d N _ L o) λf c (u,i,K,t,n,)=>?_;rw[JL];calc yU ?_;let J:Inv X a d i { c with heap:=c.heap.push { cls:=.type "slice",data:=.fields #[g,f,.none] } }:=K.kept (t':=c.toks) λb P q=>am _ q
 let(T,R,G,B,E):=C a { c with heap:=c.heap.push { cls:=.type "slice",data:=.fields #[g,f,.none] } } d i x v g f l u ↥c Q J m (A1.IsSliceOf.new ..) y t n;show D2 (model X.prog X.w) X.A (subscriptTail e (.Slice lo hi Lh p2) v<|.ref ↥c) (EP X a d Q) X.xe { c with heap:=c.heap.push { cls:=.type "slice",data:=.fields #[g,f,.none] } };calc tail_any (ops:=[.ref ↥c,v]) B G E (by with_unfolding_all rfl)
def  xB(xs:Lw V)(lo hi:Option Int):Lw V:=(xs.drop<|HT.sIx ⇑xs 0 lo).take<|HT.sIx ⇑xs ⇑xs hi-HT.sIx ⇑xs 0 lo
def tP(xs:Lw V)(lo hi:Option Int):⇑(xB xs lo hi)<=⇑xs:=by
 unfold xB;rw[fK,mu];lia
end
def  ixN(n:Nat)(i:Int):Option Nat:=if 0<=i then(if i<n then Lg i.toNat else Lh)else if -(n:Int)<=i then Lg (i+n).toNat else Lh
def  atI{a:Type}(xs:Lw a)(i:Int):Option a:=(ixN ⇑xs i).bind λj=>xs[j]?
def wB{n:Nat}{i:Int}{j:Nat}(h:ixN n i=Lg j):seqIndex? i n=Lg j/\j<n/\-(n:Int)<=i/\i<n:=by
 unfold ixN at h;by_cases b:0<=i
 .rw[Lo b]at h;by_cases a:i<n
  .rw[Lo a]at h;let e:i.toNat=j:=gl h;exact(by rw[JN b a,e],∅,∅,a,)
  .rw[Lm a]at h;cases h
 .rw[Lm b]at h;by_cases a : -(n:Int)<=i
  .rw[Lo a]at h;let e:(i+n).toNat=j:=gl h;exact(by rw[seqIndex_neg ∅ a,e],∅,a,∅,)
  .rw[Lm a]at h;cases h
def rL{a:Type}{xs:Lw a}{i:Int}{v:a}(h:atI xs i=Lg v):∃j,seqIndex? i ⇑xs=Lg j/\xs[j]?=Lg v/\j<⇑xs/\-(⇑xs:Int)<=i/\i<⇑xs:=by
 unfold atI at h;cases e:ixN ⇑xs i with
 |none=>rw[e]at h;cases h
 |some j =>
  rw[e]at h;let(f,d,c,b):=wB e;calc(j,f,h,d,c,b,)
def aU{a:Type}{xs:Lw a}{j:Nat}{v:a}(h:xs[j]?=Lg v):atI xs (j:Int)=Lg v:=by
 let b:j<⇑xs:=(IV.mp h).1;let e:ixN ⇑xs (j:Int)=Lg j:=by
  unfold ixN;rw[Lo ∅,Lo ∅];simp
 unfold atI;rw[e];calc h
def j6{a:Type}(xs:Lw a)(v:a):atI (xs++[v]) (-1)=Lg v:=by
 let b:⇑(xs++[v])=⇑xs+1:=by simp
 let e:ixN ⇑(xs++[v]) (-1)=Lg ⇑xs:=by
  unfold ixN;rw[b,Lm ⋯,Lo ∅]
  congr 1
  lia
 unfold atI;rw[e];show(xs++[v])[⇑xs]?=Lg v;simp
def  A2(b:Ew):Prop:=∀o i,subscripted b Lj o i=operate [o,i] (getItem o i)
def  IxR(X:Cx)(r:R2):Prop :=
 ∀(value a:Ew)(b:Lw (AM×Obj))(s:C3)(c:St)(H:Hp)(x y:V)(v u:zt)(Q:VK),Inv X b c H s->RelV x v->RelV y u->r x y H Q ->
  subscripted a Lj v u=operate [v,u] (getItem v u)->D2 (model X.prog X.w) X.A (subscriptTail value a v u) (EP X b c Q) X.xe s
def  MtR(X:Cx)(e:String)(r:V->Lw V->Hp->VK->Prop):Prop :=
 ∀(a:Lw (AM×Obj))(s:C3)(b:St)(H:Hp)(x:V)(c:Lw V)(v:zt)(d:Lw zt)(Q:VK),Inv X a b H s->RelV x v->Vals c d->r x c H Q ->
  D2 (model X.prog X.w) X.A (call (.builtin e) (v :: d)) (EP X a b Q) X.xe s
section
variable{a b:Ew}{ta tb:TE}{pos:Pos}
def az{r:R2}(j:IxR X r)(l:PE X a ta)(k:PE X b tb)(i:A2 b):PE X (.Subscript a b pos) (tOp r ta tb):=by
 intro c s d H Q I h;calc Subscript_<|CQ l k I h λv u e x y n m g f q=>j a b c e d n x y v u Q m g f q<|i _ _
inductive CY(K:ac)(x:V)(y:V)(H:Hp)(Q:VK):Prop
 |mk (p xs i v:_)(_:x=.ref p)(_:y=.int i)(_:SqL K H p xs)(_:atI xs i=Lg v)(_:Q v H)
inductive CZ(K:ac)(x:V)(y:V)(H:Hp)(Q:VK):Prop
 |mk (p xs i v:_)(_:x=.ref p)(_:y=.int i)(_:SqT K H p xs)(_:atI xs i=Lg v)(_:Q v H)
inductive Et  (x:V)(y:V)(H:Hp)(Q:VK):Prop
 |mk (z i c:_)(_:x=.str z)(_:y=.int i)(_:⇑z<=A8)(_:atI z.cps.toList i=Lg c)(_:Q (.str ⟨#[c]⟩) H):Et x y H Q
def aV:IxR X (CY X.K):=by
 intro value g a s k H x y v u Q I B A h l;let(p,L,i,z,rfl,rfl,C,E,q):=h;cases B;let(t,rfl):=A;let(f,r,c,M):=I.list C;let(j,b,J,O,G,F):=rL E;let(w,n,e):=r.get J;let D:=⇑r;let N:=lN;let fin:EP X a k Q w s:=(z,H,I,e,q,);by_cases m:0<=i
 .let d:i.toNat=j:=by
   rw[JN m F]at b;exact gl b
  exact item_listR c.isList m ∅ (by rw[d];simpa using n) fin l
 .let d:(i+(f.toArray.size:Int)).toNat=j:=by
   rw[seqIndex_neg ∅ G]at b;rw[eG,←D];exact gl b
  exact subscriptTail_builtinR (x:=w) c.isList.typeIs JO.lookup
   (wpAny_getItem_list_neg (Q:=λr o=>r=w/\EP X a k Q r o) c.isList ∅ (by rw[eG] <;> lia) ∅ (by rw[d];simpa using n) (U,fin,)) l
def aM:IxR X (CZ X.K):=by
 intro value c a s d H x y v u Q I k g h l;let(p,E,i,z,rfl,rfl,m,o,q):=h;cases k;let(t,rfl):=g;let(D,r,e,F):=I.tuple m;let(j,B,A,M,L,J):=rL o;let(w,C,b):=r.get A;let n:=⇑r;let G:=lN;let fin:EP X a d Q w s:=(z,H,I,b,q,)
 exact subscriptTail_builtinR (x:=w) e.typeIs slot_tuple_getitem.lookup
  (getItem_tuple (j:=j) (Q:=λr f=>r=w/\EP X a d Q r f) e ∅ ∅ (by rw[eG,←n];exact B) (~~~C) (U,fin,)) l
def m9:IxR X Et:=by
 intro value a d s w H x y v u Q I f e h g;let(z,i,c,rfl,rfl,B,l,q):=h;let(t,rfl):=f;let(A,rfl):=e;let(j,b,o,D,n,m):=rL l;let k:⇑z.cps.toList=⇑z:=by simp[wS]
 rw[k]at b n m;let C:=lN;exact tail_any (JP s z t) slot_str_getitem.lookup (getItem_str (c:=c) (by
  let r:decide (i < -(2^63:Int))=false:=Lr ∅;let p:decide (i ≥ 2^63)=false:=Lr ∅;rw[r,p,AT]) (by rw[b];simpa using o) (.str ⟨#[c]⟩,H,I.tok _,(_,U,),q,)) g
def u9(a:Lw zt)(n j:Nat)(u:zt):on (·.setIfInBounds j u) { cls:=.type "list",data:=.seq a.toArray n }={ cls:=.type "list",data:=.seq (a.set j u).toArray n }:=by
 simp[on]
def Inv.lst{b:Lw (AM×Obj)}{c:St}{H:Hp}{s:C3}{p:AM}{xs:Lw V}(I:Inv X b c H s)(h:H p=Lg (.lst xs)) :
  ∃(a:Lw zt)(n:Nat),Vals xs a/\s.heap.get? p=Lg { cls:=.type "list",data:=.seq a.toArray n }/\⇑xs<=A8:=by
 let(z,a,n,r,e):=I.hok p _ h;calc(a,n,r,e,z,)
def Inv.lstUpd{a:Lw (AM×Obj)}{g:St}{H:Hp}{s:C3}{p:AM}{xs ys:Lw V}{c its':Lw zt}{n d:Nat}{f:Obj->Obj}(I:Inv X a g H s)(h:H p=Lg (.lst xs))
  (i:s.heap.get? p=Lg { cls:=.type "list",data:=.seq c.toArray n }) (hf:f { cls:=.type "list",data:=.seq c.toArray n }={ cls:=.type "list",data:=.seq its'.toArray d }) (r:Vals ys its')(hz:⇑ys<=A8)(t:Nat) :
  Inv X a g (upd H p<|.lst ys) { s with heap:=s.heap.update p f,toks:=t }:=by
 let e:(s.heap.update p f).get? p=Lg { cls:=.type "list",data:=.seq its'.toArray d }:=by
  rw[v6 f i (by rw[hf] <;> rfl),hf]
 refine I.write (x:=p) (e:=p) (by rw[h];trivial) (.inl U) (λb u j q=>(ss _ _<|FM j).trans q) (_,e,) ?_;calc(hz,its',d,r,e,)
inductive Cj  (o:V)(i:V)(v:V)(H:Hp)(Q:(NB)):Prop
 |mk (p xs k j:_)(_:o=.ref p)(_:i=.int k)(_:H p=Lg (.lst xs))(_:ixN ⇑xs k=Lg j)(_:Q (upd H p<|.lst<|xs.set j v)):Cj o i v H Q
def set_list:Ee X Cj:=by
 intro b s y H o i v F G u Q I B C A h;let(p,z,k,j,rfl,rfl,g,E,q):=h;cases B;let(t,rfl):=C;let(a,n,r,d,D):=I.lst g;let(c,K,m,l):=wB E;let e:=⇑r;let J:=lN;let x:Inv X b y (upd H p<|.lst<|z.set j v) { s with heap:=s.heap.update p (on (·.setIfInBounds j u)) } :=
  I.lstUpd g d (u9 a n j u) (r.set A j) (by rw[List.length_set];exact D) s.toks
 by_cases w:0<=k
 .let f:k.toNat=j:=by
   rw[JN w l]at c;exact gl c
  exact W.ki_setAt d w ∅ (by rw[eG,←e];exact l) (by rw[f];exact(_,x,q,))
 .let f:(k+(a.toArray.size:Int)).toNat=j:=by
   rw[seqIndex_neg ∅ m]at c;rw[eG,←e];exact gl c
  calc W.ki_setBack d ∅ (by rw[eG,←e];exact m) ∅ (by rw[f];exact(_,x,q,))
def rM(lo hi:Option Int)(n:Nat):(JQ lo hi Lh n).1=((HT.sIx n 0 lo:Nat):Int)/\(JQ lo hi Lh n).2.1=((HT.sIx n n hi:Nat):Int)/\(JQ lo hi Lh n).2.2=1:=by
 refine(?_,?_,U,)
 .cases lo with
  |none=>simp[JQ,HT.sIx]
  |some i =>
   simp only[JQ,HT.sIx,yA,show(1:Int)>0 by decide,if_true];by_cases h:i<0
   .simp only[h,if_true] <;> lia
   .simp only[h,if_false] <;> lia
 .cases hi with
  |none=>simp[JQ,HT.sIx]
  |some i =>
   simp only[JQ,HT.sIx,yA,show(1:Int)>0 by decide,if_true];by_cases h:i<0
   .simp only[h,if_true] <;> lia
   .simp only[h,if_false] <;> lia
def qm(a:Lw zt)(lo hi:Option Int):slicePick a.toArray lo hi Lh=((a.drop<|HT.sIx ⇑a 0 lo).take<|HT.sIx ⇑a ⇑a hi-HT.sIx ⇑a 0 lo).toArray:=by
 let(d,c,b):=rM lo hi a.toArray.size;unfold slicePick;rw[d,c,b];simp only[sliceRange_one,pick_run,eG] <;> rfl
inductive Eu(K:ac)(x:V)(lo:Option Int)(hi:Option Int)(H:Hp)(Q:VK):Prop
 |mk (a xs:_)(_:x=.ref a)(_:SqL K H a xs)(_:∀p,H p=Lh->Q (.ref p) (upd H p<|.lst<|xB xs lo hi))
def A4:SlR X (Eu X.K):=by
 intro f s p H x v u t lo hi w Q I g m j i h;let(a,c,rfl,l,q):=h;cases g;let(n,r,e,k):=I.list l;let d:=⇑r;calc("list",_,JO.lookup,e.isList.typeIs,?_,);refine wpAny_getItem_list_slice e.isList m j i .none (by simp) ?_ (by rw[eG] <;> lia);rw[qm,←d];calc(.ref ↥s,_,I.laid (t':=s.toks) (o:=.lst<|xB c lo hi) (λb y q=>am _ q) (sT _) ?_,U,q _<|I.hok.fresh<|sT _,);calc(tm (tP c lo hi) k,_,0,(r.drop<|HT.sIx ⇑c 0 lo).take<|HT.sIx ⇑c ⇑c hi-HT.sIx ⇑c 0 lo,ii _ U,)
def  dN:V->Bool
 | .non=>Li
 | .bl _=>Li
 | .int _=>Li
 | .str _=>Li
 |_=>Lj
def  eqV:V->V->Bool
 | .non,.non=>Li
 | .bl a,.bl b=>a == b
 | .bl a,.int b=>(if a then 1 else 0) == b
 | .int a,.bl b=>a == (if b then 1 else 0)
 | .int a,.int b=>a == b
 | .str a,.str b=>a == b
 |_,_=>Lj
def rN{A:C2}{s:C3}{y x:V}{u v:zt}(e:RelV y u)(c:RelV x v)(g:dN y=Li)(f:dN x=Li):L3 A s u v (eqV y x):=by
 cases y with
 |non =>
  cases e;cases x with
  |non=>cases c;exact LW _
  |bl b=>cases c;exact SeqAt.EqAt.none_bool b
  |int b=>obtain⟨t,rfl⟩:=c;exact SeqAt.EqAt.none_int b t
  |str b=>obtain⟨t,rfl⟩:=c;exact SeqAt.EqAt.none_str b t
  |_=>exact Lp (show Lj=Li from f) bv
 |bl a =>
  cases e;cases x with
  |non=>cases c;exact SeqAt.EqAt.bool_none a
  |bl b=>cases c;exact SeqAt.EqAt.bool_bool a b
  |int b=>obtain⟨t,rfl⟩:=c;exact SeqAt.EqAt.bool_int a b t
  |str b=>obtain⟨t,rfl⟩:=c;exact SeqAt.EqAt.bool_str a b t
  |_=>exact Lp (show Lj=Li from f) bv
 |int a =>
  let(d,rfl):=e;cases x with
  |non=>cases c;exact SeqAt.EqAt.int_none a d
  |bl b=>cases c;exact SeqAt.EqAt.int_bool a d b
  |int b=>obtain⟨t,rfl⟩:=c;exact SeqAt.EqAt.int_int a d b t
  |str b=>obtain⟨t,rfl⟩:=c;exact MQ a d b t
  |_=>exact Lp (show Lj=Li from f) bv
 |str a =>
  let(d,rfl):=e;cases x with
  |non=>cases c;exact SeqAt.EqAt.str_none a d
  |bl b=>cases c;exact SeqAt.EqAt.str_bool a d b
  |int b=>obtain⟨t,rfl⟩:=c;exact MP a d b t
  |str b=>obtain⟨t,rfl⟩:=c;exact SeqAt.EqAt.str_str a d b t
  |_=>exact Lp (show Lj=Li from f) bv
 |_=>calc Lp (show Lj=Li from g) bv
def  eqU(x:V)(u:zt):Bool:=match u with
 | .none=>eqV .non x
 | .bool b=>eqV (.bl b) x
 | .int i _=>eqV (.int i) x
 | .str z _=>eqV (.str z) x
 |_=>Lj
def vc{x y:V}{u:zt}(r:RelV y u)(f:dN y=Li):eqU x u=eqV y x:=by
 cases y with
 |non=>cases r;rfl
 |bl b=>cases r;rfl
 |int i=>obtain⟨t,rfl⟩:=r;rfl
 |str z=>obtain⟨t,rfl⟩:=r;rfl
 |_=>calc Lp (show Lj=Li from f) bv
def mB{x:V}:∀{xs:Lw V}{us:Lw zt},Vals xs us->xs.all dN=Li->us.any (eqU x)=xs.any λy=>eqV y x
 |_,_,.nil,_=>rfl
 |y :: xs,u :: us,.cons r t,f=>by
  rw[mX,wF]at f;rw[mY,mY,vc r f.1,mB t f.2]
def i0{A:C2}{s:C3}{x:V}{v:zt}(b:RelV x v)(c:dN x=Li):∀{xs:Lw V}{us:Lw zt},Vals xs us->xs.all dN=Li->∀u∈us,L3 A s u v (eqU x u)
 |_,_,.nil,_=>λu a=>by cases a
 |y :: xs,u :: us,.cons r t,f=>λd a=>by
  rw[mX,wF]at f;rcases dy.mp a with rfl|a
  .rw[vc r f.1];exact rN r b f.1 c
  .exact i0 b c t f.2 d a
def  inV(x:V)(xs:Lw V):Bool:=xs.any λy=>eqV y x
inductive rIn(K:ac)(neg:Bool)(x:V)(y:V)(H:Hp)(Q:VK):Prop
 |mk (p xs:_)(_:y=.ref p)(_:(SqL K H p xs\/SqT K H p xs))(_:dN x=Li)(_:xs.all dN=Li)(_:Q (.bl (if neg then !inV x xs else inV x xs)) H)
def qM:OpR X (Jp .In) (rIn X.K Lj):=by
 intro g s k H x y v u Q I e i h;let(p,l,rfl,b,f,fs,q):=h;cases i;rcases b with b|b
 .let(a,r,c,j):=I.list b;calc SeqAt.in_listAt (eqU x) c.isList (λw d=>i0 e f r fs w<|~~~d) (.bl _,H,I,U,?_,);rw[show a.toArray.any (eqU x)=a.any (eqU x) by simp,mB r fs];exact q
 .let(a,r,c,j):=I.tuple b;calc SeqAt.in_tupleAt (eqU x) c (λw d=>i0 e f r fs w<|~~~d) (.bl _,H,I,U,?_,);rw[show a.toArray.any (eqU x)=a.any (eqU x) by simp,mB r fs];calc q
def mD:OpR X (Jp .NotIn) (rIn X.K Li):=by
 intro g s k H x y v u Q I e i h;let(p,l,rfl,b,f,fs,q):=h;cases i;rcases b with b|b
 .let(a,r,c,j):=I.list b;calc SeqAt.notIn_listAt (eqU x) c.isList (λw d=>i0 e f r fs w<|~~~d) (.bl _,H,I,U,?_,);rw[show a.toArray.any (eqU x)=a.any (eqU x) by simp,mB r fs];exact q
 .let(a,r,c,j):=I.tuple b;calc SeqAt.notIn_tupleAt (eqU x) c (λw d=>i0 e f r fs w<|~~~d) (.bl _,H,I,U,?_,);rw[show a.toArray.any (eqU x)=a.any (eqU x) by simp,mB r fs];calc q
def aq:gQ X (.builtin "len") (λxs H Q=>∃p ys,xs=[.ref p]/\(SqL X.K H p ys\/SqT X.K H p ys)/\Q (.int ⇑ys) H):=by
 intro f s j H xs k Q I r h;let(p,ys,rfl,b,q):=h;let(u,rfl,g):=vals1 r;cases g;let l:=lN;rcases b with b|b
 .let(e,c,d,i):=I.list b;let a:=⇑c;exact Calls.call_len_list d.isList (by simp only[eG] <;> lia) (.int ⇑ys,H,I.tok _,(s.toks+1,by rw[eG,a],),q,)
 .let(e,c,d,i):=I.tuple b;let a:=⇑c;exact len_tuple d (by simp only[eG] <;> lia) (.int ⇑ys,H,I.tok _,(s.toks+1,by rw[eG,a],),q,)
def d8:gQ X (.builtin "len") (λxs H Q=>∃z,xs=[.str z]/\⇑z<=A8/\Q (.int ⇑z) H):=by
 intro a s b H xs c Q I r h;let(z,rfl,d,q):=h;let(u,rfl,t,rfl):=vals1 r;let e:=lN;calc len_str ∅ (.int ⇑z,H,I.tok _,(_,U,),q,)
def ft:gQ X (.type "list") (λxs H Q=>∃p ys,xs=[.ref p]/\(SqL X.K H p ys\/SqT X.K H p ys)/\∀l,H l=Lh->Q (.ref l) (upd H l<|.lst ys)):=by
 intro k s A H xs C Q I r h;let(p,ys,rfl,j,q):=h;let(u,rfl,B):=vals1 r;cases B
 let fin:∀(a:Lw zt),Vals ys a->⇑ys<=A8->∀(c:A1)(f:Nat),(∀b z,s.heap.get? b=Lg z->c.get? b=Lg z) ->
   c.get? ↥s=Lg { cls:=.type "list",dict:=Lh,data:=.seq a.toArray f,slots:=#[] }->EP X k A Q (.ref ↥s) { s with heap:=c }:=λa d i c f g e =>
  (.ref ↥s,_,I.laid (t':=s.toks) g (sT _) (show dJ X.prog X.w _ c _ (.lst ys) from(i,a,f,d,e,)),U,q _<|I.hok.fresh<|sT _,)
 rcases j with j|j
 .let(a,d,t,i):=I.list j;let m:=⇑d;let(o,v,y,n,x):=t.isList;exact JR p (.inl U) v y x (λc f g e=>fin a d i c f g e) (by simp only[eG] <;> lia)
 .let(a,d,t,i):=I.tuple j;let m:=⇑d;let(o,v,y,n,x):=t;exact JR p (.inr U) v y x (λc f g e=>fin a d i c f g e) (by simp only[eG] <;> lia)
def  tyV(K:ac)(T:String)(x:V)(H:Hp):Prop:=match x with
 | .str _=>T = "str"
 | .int _=>T = "int"
 | .ref p=>(T = "list" /\ ∃b,SqL K H p b)\/(T = "tuple" /\ ∃o,K.lookup p=Lg o/\o.cls=.type "tuple" /\ o.dict=Lh) \/
   (T = "dict" /\ ((∃a,H p=Lg (.dK a))\/∃a,H p=Lg (.dT a)))\/(T = "set" /\ ∃S n,H p=Lg (.set S n))
 |_=>False
def yT{f:Lw (AM×Obj)}{m:St}{H:Hp}{s:C3}{T:String}{x:V}{v:zt}(I:Inv X f m H s)(r:RelV x v)(ty:tyV X.K T x H) :
  s.TypeIs v T/\∀a,v=.ref a->∃l,s.heap.get? a=Lg l/\l.dict=none:=by
 cases x with
 |str z =>
  let(t,rfl):=r;cases (show T = "str" from ty);exact⟨JP s z t,λ_ e=>nomatch e⟩
 |int i =>
  let(t,rfl):=r;cases (show T = "int" from ty);exact⟨typeIs_int s i t,λ_ e=>nomatch e⟩
 |ref p =>
  cases r;rcases ty with⟨rfl,y,q⟩|⟨rfl,o,b,u,g⟩|⟨rfl,b⟩|⟨rfl,S,n,b⟩
  .let(w,_,k,_):=I.list q;calc(k.isList.typeIs,λa e=>?_,);cases e;let(o,n,e,c,g,_):=k;exact(o,e,g,)
  .refine((o,I.kIn p o b,u,),λa e=>?_,);cases e;exact(o,I.kIn _ o b,g,)
  .let z:∃o,s.heap.get? p=Lg o/\o.ExactDict:=by
    rcases b with⟨j,b⟩|⟨j,b⟩
    .let(_,_,_,_,o,_,_,e,d,_):=I.hok p _ b;exact(o,e,d,)
    .let(_,_,_,_,o,_,_,e,d,_):=I.hok p _ b;exact(o,e,d,)
   let(o,e,d):=z;calc((o,e,d.1,),λa h=>?_,);cases h;exact(o,e,d.2.1,)
  .let(o,_,_,_,e,d,_):=I.hok p _ b;calc((o,e,d.1,),λa h=>?_,);cases h;exact(o,e,d.2.1,)
 |_=>calc ut ty
def  FW(K:ac)(T:String)(r:V->Lw V->Hp->VK->Prop)(to:TE):TE:=λb H Q=>to b H λx a=>tyV K T x a/\r x [] a Q
def  tBM(K:ac)(T:String)(r:V->Lw V->Hp->VK->Prop)(to:TE)(t:TA):TE:=λa H Q=>to a H λx b=>tyV K T x b/\t a b λc d=>r x c d Q
variable{o e:Ew}{es:Lw Ew}{to:TE}{t:TA}{name:Str}{apos fL:Pos}{T id:String}{r:V->Lw V->Hp->VK->Prop}
def C1(l:PlainAttrs T)(b:Slot T name id)(c:typeOf (.builtin id)=pure (.type "method_descriptor")) (hm:MtR X id r)(m:PE X o to)
  (k:Jw o name X.env (eval o X.env)=eval o X.env:=by rfl)(g:(apos.endLine == fL.line)=true:=by rfl):PE X (.Call (.Attribute o name apos) [] [] fL) (FW X.K T r to):=by
 intro a s d H Q I h;calc wpAny_Call_method0_late k g<|thn (m a s d H _ I h) λv i (x,q,f,e,ty,j,)=>?_;let(p,n):=yT f e ty;calc(T,id,l,b,c,p,n,MX U<|PySem.evalArgs_none<|hm a i d q x [] v [] Q f e .nil j,)
def br(z:PlainAttrs T)(b:Slot T name id)(d:typeOf (.builtin id)=pure (.type "method_descriptor")) (hm:MtR X id r)(B:PE X o to)(C:PA X (e :: es) t)
  (y:Jw o name X.env (eval o X.env)=eval o X.env:=by rfl)
  (m:((EE fL<|EN (e :: es) X.env).all (λx=>!x.1) && (JS fL<|JT [] X.env).all (λx=>x.1.isSome)
   && decide (⇑(e :: es)+⇑([]:Lw Keyword)+(if ([]:Lw Keyword).isEmpty then 0 else 1)<30))=true:=by rfl)
  (j:(apos.endLine == fL.line)=true:=by rfl)(A:EN (e :: es) X.env=(Lj,eval e X.env) :: EN es X.env:=by rfl)(L:(EE fL<|EN es X.env).any (·.1)=false:=by rfl) :
  PE X (.Call (.Attribute o name apos) (e :: es) [] fL) (tBM X.K T r to t):=by
 intro a s c H Q I h;calc wpAny_Call_method_late y m j U<|thn (B a s c H _ I h) λv p (x,J,i,f,ty,w,)=>?_;let(E,D):=yT i f ty;calc(T,id,z,b,d,E,D,?_,);let g:=C fL a p c J _ i w;rw[A]at g⊢;refine MX (by show(Lj || (EE fL<|EN es X.env).any (·.1))=Lj;rw[L] <;> rfl) (Mb ?_);calc thn g λl n (k,G,F,q,u,)=>hm a n c G x k v l Q F f q u
end
def  MtM(X:Cx)(e:String)(r:V->Lw V->Hp->VK->Prop):Prop :=
 ∀(a:Lw (AM×Obj))(s:C3)(b:St)(H:Hp)(x:V)(c:Lw V)(v:zt)(d:Lw zt)(Q:VK),Inv X a b H s->RelV x v->Vals c d->r x c H Q ->
  D2 (model X.prog X.w) X.A (call (.builtin e) (v :: d)) (EP X a b Q) X.xe s
def Vals.one:∀{x:V}{us:Lw zt},Vals [x] us->∃u,us=[u]/\RelV x u:=vals1
def Vals.two:∀{x y:V}{us:Lw zt},Vals [x,y] us->∃u v,us=[u,v]/\RelV x u/\RelV y v:=vals2
def Vals.zero:∀{us:Lw zt},Vals [] us->us=[]
 |_,.nil=>rfl
def Vals.reverse{xs:Lw V}{us:Lw zt}(h:Vals xs us):Vals xs.reverse us.reverse:=by
 induction h with
 |nil=>exact .nil
 |cons r t a=>rw[Nu,Nu];calc Vals.append a<|.cons r .nil
section
variable{Ll:Lw (AM×Obj)}{σ:St}{H:Hp}{s:C3}{l b:AM}{xs ys zs:Lw V}
def Inv.lset{a its':Lw zt}{n:Nat}{f:Array zt->Array zt}{t':Nat}(I:Inv X Ll σ H s)(g:H l=Lg (.lst xs))
  (e:s.heap.get? l=Lg { cls:=.type "list",data:=.seq a.toArray n }) (hf:f a.toArray=its'.toArray)(b:Vals ys its')(hz:⇑ys<=A8) :
  Inv X Ll σ (upd H l<|.lst ys) { s with heap:=s.heap.update l<|on f,toks:=t' }:=by
 let q:=PySem.IsL.update e f;rw[hf]at q;refine I.write (x:=l) (e:=l) (by rw[g];exact trivial) (.inl U) (λh u d c=>(ss s.heap (on f)<|FM d).trans c) (_,q,) ?_;calc(hz,its',_,b,q,)
def Inv.lnew{a:Lw zt}{t':Nat}(I:Inv X Ll σ H s)(b:Vals ys a)(hz:⇑ys<=A8) :
  Inv X Ll σ (upd H ↥s<|.lst ys) { s with heap:=s.heap.push { cls:=.type "list",data:=.seq a.toArray },toks:=t' } :=
 I.laid (λ_ _ q=>am _ q) (sT _) (hz,a,0,b,ii _ U,)
def Inv.fresh(I:Inv X Ll σ H s):H ↥s=none:=I.hok.fresh<|sT _
def Inv.lstM(I:Inv X Ll σ H s)(b:H l=Lg (.lst xs)):⇑xs<=A8/\∃(a:Lw zt)(n:Nat),Vals xs a/\⇑xs=⇑a/\s.heap.get? l=Lg { cls:=.type "list",data:=.seq a.toArray n }:=by
 let(z,a,n,r,e):=I.hok l _ b;calc(z,a,n,r,⇑r,e,)
def yV{n:Nat}(h:n<=A8):Mc n=false:=by
 unfold Mc;calc Lr ∅
end
inductive wC  (x:V)(vs:Lw V)(H:Hp)(Q:VK):Prop
 |mk (l xs y:_)(_:x=.ref l)(_:vs=[y])(_:H l=Lg (.lst xs))(_:⇑xs<A8)(_:Q .non (upd H l<|.lst<|xs++[y])):wC x vs H Q
def bO:MtM X "list.append" wC:=by
 intro c s i H x k v m Q I d f h;let(l,j,y,rfl,rfl,b,o,q):=h;cases d;let(u,rfl,g):=f.one;let(z,a,n,r,p,e):=I.lstM b;refine JU F.slot_list_append (_,e,U,) F.entry_list_append (F.args_list_append_2 _ _) (PySem.list_append l a.toArray n u (by rw[eG];lia)) (e,?_,);refine(.non,_,I.lset (its':=a++[u]) b e (by simp) (r.append<|.cons g .nil) ?_,U,q,);rw[eH,iU];lia
inductive wD  (x:V)(vs:Lw V)(H:Hp)(Q:VK):Prop
 |mk (l b xs zs:_)(_:x=.ref l)(_:vs=[.ref b])(_:H l=Lg (.lst xs))(_:H b=Lg (.lst zs))(_:⇑xs+⇑zs<=A8)(_:Q .non (upd H l<|.lst<|xs++zs)):wD x vs H Q
def nc:MtM X "list.extend" wD:=by
 intro g s A H x E v G Q I i j h;let(l,b,D,B,rfl,rfl,f,p,J,q):=h;cases i;let(u,rfl,k):=j.one;cases k;let(z,a,n,r,K,e):=I.lstM f;let(C,c,o,m,y,t):=I.lstM p;let d:a.toArray.size+c.toArray.size<=A8:=by rw[eG,eG];lia
 let w:¬ (!a.toArray.isEmpty && Mc (a.toArray.size+c.toArray.size))=true:=by
  rw[yV d,LR];exact bv
 refine JU F.slot_list_extend (_,e,U,) F.entry_list_extend (F.args_list_extend_2 _ _)
  (AutoSeq1.list_extend_list_list_0 l a.toArray n b c.toArray o w (by rw[eG];lia) ∅) (e,t,?_,)
 refine(.non,_,I.lset (its':=a++c) f e (by simp) (r.append m) ?_,U,q,);rw[eH];lia
inductive tR  (x:V)(vs:Lw V)(H:Hp)(Q:VK):Prop
 |mk (l xs:_)(_:x=.ref l)(_:vs=[])(_:H l=Lg (.lst xs))(_:Q .non (upd H l<|.lst xs.reverse)):tR x vs H Q
def vf:MtM X "list.reverse" tR:=by
 intro d s i H x k v m Q I f g h;let(l,j,rfl,rfl,c,q):=h;cases f;let b:=g.zero;subst b;let(z,a,n,r,o,e):=I.lstM c;refine JU F.slot_list_reverse (_,e,U,) F.entry_list_reverse (F.args_list_reverse_1 _) (AutoSeq1.list_reverse_list_0 l a.toArray n (by rw[eG];lia)) (e,?_,);refine(.non,_,I.lset (its':=a.reverse) c e (by simp) r.reverse ?_,U,q,);rw[List.length_reverse];lia
inductive Ex  (x:V)(y:V)(H:Hp)(Q:VK):Prop
 |mk (l b xs zs:_)(_:x=.ref l)(_:y=.ref b)(_:H l=Lg (.lst xs))(_:H b=Lg (.lst zs))(_:⇑xs+⇑zs<=A8)(_:∀p,H p=Lh->Q (.ref p) (upd H p<|.lst<|xs++zs)):Ex x y H Q
def ph:OpR X (Jn .Add) Ex:=by
 intro d s t H x y v u Q I g f h;let(l,b,B,w,rfl,rfl,j,k,D,q):=h;cases g;cases f;let(z,a,n,r,E,e):=I.lstM j;let(A,c,C,i,p,o):=I.lstM k;refine PySem.P.add_list e o ?_ (by rw[eG,eG];lia);let m:a.toArray++c.toArray=(a++c).toArray:=by simp
 rw[m];calc(.ref _,_,I.lnew (t':=s.toks) (r.append i) (by rw[eH];lia),U,q _ I.fresh,)
section
variable{prog:zA}{w:zz}{A:C2}{E:zt->C3->Prop}{s:C3}
end
end _L
namespace Att
open PySem PySem.W PySem.Calls PyProof.Rows
def oC{P:JV}{h:A1}:∀(ns:Lw Int)(vs:Lw zt),WellAll P h vs (ns.map WData.int)->IntsAre vs ns:=by
 intro ns;induction ns with
 |nil =>
  intro vs w;rw[List.map_nil]at w;cases w;exact .nil
 |cons n ns c =>
  intro vs w;rw[gy]at w;cases w with
  |cons a b =>
   cases a;calc .cons _ _<|c _ b
def xC{l:OpenLaw}{n:Nat}(t:l.most=Lg n){P:JV}{h:A1}{args:Lw WData}{b:Lw zt}
  (k:l.row.toRowW.claim.pre args=Li)(g:WellAll P h b args) :
  ∃a vs ns,b=[zt.ref a]/\args=[WData.list (ns.map WData.int)]/\h.get? a=Lg { cls:=.type "list",data:=.seq vs.toArray }/\IntsAre vs ns/\⇑ns<=n:=by
 let i:WShape.hasAll [] args [.list .int]=true:=(pre_splitW k).1;let j:l.pre.holds [] { args:=args }=true:=(pre_splitW k).2;let(d,r,rfl,w,v):=hasAllW_cons i;obtain rfl:=hasAllW_nil v;let(y,rfl,u):=hasW_list w;let(ns,rfl):=items_int u;let c:⇑ns<=n:=by
  unfold OpenLaw.pre at j;let f:(WTm.not<|.lt (.lit<|.int (n:Int))<|.len<|.arg 0).holds [] { args:=[.list (ns.map .int)] }=true:=by
   let f:=(holds_andW j).1;rw[t]at f;exact f
  let e:=condW_of f<|w_not<|w_lt w_lit<|w_len_list<|w_arg rfl;rw[ck]at e;refine wa λq=>?_
  let p:(n:Int)<((⇑ns:Nat):Int):=∅
  first
   |(rw[Lq p]at e;exact Lp e ⋯)
   |(simp at e;lia)
 cases g with
 |cons o m =>
  cases m;cases o with
  |list s x=>calc(_,_,ns,rfl,rfl,s,oC ns _ x,c,)
def xD(l:OpenLaw)(args:Lw WData):l.row.toRowW.claim.post args (.bool Li) args=true :=
 postW_of (r:=l.row.toRowW) (X:=(Li == Li))
  (show WShape.has [] (.bool Li) .bool=Li by first|rfl|decide|simp[WShape.has,WShape.arms,WShape.armsAll])
  (show(WTm.eq .res<|.lit<|.bool Li).value [] { args:=args,res:=Lg<|.bool Li,after:=args }=Lg (.bool<|Li == Li)from w_eq_bool (w_res rfl) w_lit) rfl
def attach_call{l:OpenLaw}{n:Nat}{q:zA}{e:Lw Str}{XP:(Str->Option zt)->A1->Prop}{z:zz->A1->Prop}{d:DefRec}
  (E:l.most=Lg n)(v:d.params.defaults=[])
  (call:∀(w:zz)(c b:C3)(k s:Str->Option zt)(i:AM)(o:Obj)(p m g:zt)(a:AM)(vs:Lw zt)(ns:Lw Int),
   Ground q e [] XP w c k s b.heap->z w b.heap ->
   b.heap.get? i=Lg o->o.data=.func (docDef d.name d.params d.body d.scope p m g)->b.heap.CodeRec m d.name->k d.name=↑i ->
   b.heap.get? a=Lg { cls:=.type "list",data:=.seq vs.toArray }->IntsAre vs ns->⇑ns<=n->b.gens = #[] ->
   Jv (model l.prog w) JW (.call (.ref i) ([.ref a],[],)) (λr s'=>r=.ok (.ret<|.bool Li)/\OldK b.heap s'.heap/\s'.os=b.os/\AllBare s'.gens) b) :
  WalkO q e XP z l.row.toRowW d [] (λf vs=>PySem.call f vs):=by
 intro w c b k s G Y i o p m g M kV D I x y u H B A R O S P t Q;obtain rfl:M=.none:=Dflts.none y v;obtain rfl:kV=.none:=Dflts.noKw y;let(a,vs,ns,rfl,rfl,N,h,j):=xC E O t;calc enter_call<|JF (call w c b k s i o p m g a vs ns G Y D (fd_plain I) x u N h j H) λr s' C=>?_;let(rfl,L,K,J):=C;calc(.inl ⟨.bool Li,.bool Li,[],rfl,λ_=>rfl,.bool Li,xD l _,λ_=>⟨LF,λ_ F=>(nomatch F)⟩⟩,L,K,J,)
section
variable{prog:zA}{w:zz}{A:C2}{E:zt->C3->Prop}{s:C3}{K:Frag}
end
end Att
namespace _L
open PySem PySem.Spec PyProof.Rows
def qN:∀{vs:Lw zt}{ns:Lw Int},IntsAre vs ns->Vals (ns.map pi) vs
 |_,_,.nil=>.nil
 |_,_,.cons n t h=>.cons (t,U,)<|qN h
def  C5(H:Hp):Prop:=∀b,H b=Lh\/∃o a,H b=Lg (.frz o<|.lst a)
def yW{P:zA}{w:zz}{K:ac}{p G:Str->Option zt}{CX:CXT}{k:Nat}{I a:AM}{Y:JB}{x:Str}{sp:Sp}{c:C3}{vs:Lw zt}{ns:Lw Int}
  (KX:K.In c.heap)(B:c.heap.Ns Ca p)(f:c.heap.Ns Ce G)(N:∀x:Str,x ≠ "__name__" -> G x=CP x) (FX:c.heap.NoLimit)(hg:c.gens = #[])
  (E:c.heap.get? a=Lg { cls:=.type "list",data:=.seq vs.toArray }) (hi:IntsAre vs ns)(S:⇑ns<=A8)(hr:cS k JW)
  (F:∀g:A1,K.In g->g.Ns Ca p->aR P w K p g CX k I Y [x] sp)(Ey:∀(s:C3)(u:zt),JC s Y ([u],[],) [(x,u)])
  (M:∀H:Hp,C5 H->SqL K H a (ns.map pi)->sp [.ref a] H (λv _=>v=.bl Li) λ_ _ _=>False)
  (O:∀H e s',CX [] H c (λ_ _ _=>False) e s'->False) :
  Jv (model P w) JW (.call (.ref I) ([.ref a],[],)) (λr s'=>r=.ok (.ret<|.bool Li)/\OldK c.heap s'.heap/\s'.os=c.os/\AllBare s'.gens) c:=by
 let R:=qN hi;let FY:=⇑hi
 let j:∀H:Hp,C5 H->SqL K H a (ns.map pi)->HOk P w H c.heap->(∀b,H b≠Lh->b=a)->(H a≠Lh->K.lookup a=Lh) ->
   Jv (model P w) JW (.call (.ref I) ([.ref a],[],)) (λr s'=>r=.ok (.ret<|.bool Li)/\OldK c.heap s'.heap/\s'.os=c.os/\AllBare s'.gens) c:=by
  intro H T hS A X hK;let Q:∀{b:AM}{o:Obj},c.heap.get? b=Lg o->H b=Lh->(rH c.heap H).get? b=Lg o:=λe n=>yB e n
  let L:∀{b:AM}{o:Obj}{t:Array DictEntry}{y:Nat},c.heap.get? b=Lg o->o.data=.dict t y->H b=none:=λ{b o t y} e d=>by
   cases q:H b with
   |none=>rfl
   |some u =>
    let J:b=a:=X b (by rw[q];simp);subst J;rw[E]at e;cases e;let d':Data.seq vs.toArray _=Data.dict t y:=d;cases d'
  let i:∀{b:AM}{m:Str->Option zt},c.heap.Ns b m->(rH c.heap H).Ns b m:=λ{b m} (o,t,y,e,d,r,)=>(o,t,y,Q e<|L e d,d,r,)
  let C:K.In (rH c.heap H):=λb o e=>Q (KX b o e) (by
   cases q:H b with
   |none=>rfl
   |some u =>
    let J:b=a:=X b (by rw[q];simp);subst J;rw[hK (by rw[q];simp)]at e;cases e)
  let hM:Mod K p (rH c.heap H):=(C,i B,(G,i f,N,),let ⟨mc,h1,h2⟩:=FX;(mc,i h1,h2,),);let e0:u6 P w K p (rH c.heap H) JW [] c H:=(U,hM,λb o e=>AO e,Nat.le_of_eq<|xt _ _,trivial,λb f=>Lp (show b∈([]:Lw AM)from f) (by simp),A,.of_eq hg,);refine JF ((F _ C<|i B).run JW [] c H ([.ref a],[],) [.ref a] [.ref a] _ _ hr e0 (Ey c<|.ref a) (.cons U .nil) (M H T hS)) λr s' h=>?_
  cases r with
  |error e=>exact(O H e s' h).elim
  |ok fl =>
   cases fl with
   |next=>exact ut h
   |brk=>exact ut h
   |cont=>exact ut h
   |ret u =>
    let(v,H',os,D,un,FZ,r',q):=h;let q':v=.bl true:=q;subst q';obtain rfl:u=zt.bool true:=r';calc(U,OldK.of_keep λb o e=>?_,os,D,);cases q:H b with
    |none=>exact un.keep b o e q (by intro z;exact Lp (show b∈([]:Lw AM)from z) (by simp)) (by simp)
    |some u =>
     rcases T b with z|⟨ob,xs,z⟩
     .rw[q]at z;cases z
     .let z2:=un.frzs b ob _ z;let(Z,_):=A b _ z;let(e2,_):=FZ b _ z2;rw[e]at Z;cases Z;exact e2
 cases hk:K.lookup a with
 |some o =>
  let e:=KX a o hk;rw[E]at e;cases e;refine j (λ_=>Lh) (λ_=>.inl U) (.inr (_,vs.toArray,_,hk,U,U,U,by rw[eG,FY];exact S,~~~R,)) (λb u z=>by have l:(Lh:Option HO)=Lg u:=z;cases l) (λb z=>Lp U z) λz=>Lp U z
 |none =>
  refine j (λb=>if b=a then Lg (.frz { cls:=.type "list",data:=.seq vs.toArray } (.lst<|ns.map pi))else Lh) (λb=>?_) (.inl<|.inr ({ cls:=.type "list",data:=.seq vs.toArray },Lo U,)) (λb u z=>?_) (λb z=>?_) λ_=>hk
  .by_cases f:b=a
   .exact .inr (_,_,Lo f,)
   .exact .inl<|Lm f
  .by_cases f:b=a
   .let l:=(Lo f).symm.trans z;cases l;subst f;exact(E,by rw[ck];exact S,vs,_,R,E,)
   .let l:=(Lm f).symm.trans z;cases l
  .by_cases f:b=a
   .exact f
   .exact Lp (Lm f) z
def walk_of{l:W.OpenLaw}{n k:Nat}{q:zA}{j:Lw Str}{XP:(Str->Option zt)->A1->Prop}{E:zz->A1->Prop}{d:DefRec}{K:JV->ac}{CX:zz->CXT}{sp:zz->Sp}{x:Str}
  (M:l.most=Lg n)(A:n<=A8)(C:d.params.defaults=[])(L:cS k JW)
  (P:∀(w:zz)(h:A1),E w h->(K w.params).In h)
  (F:∀(w:zz)(p:Str->Option zt)(t:AM)(h:A1),(K w.params).In h->h.Ns Ca p->p d.name=↑t ->
   ∃y:JB,(∀(s:C3)(u:zt),JC s y ([u],[],) [(x,u)]) /\
    ∀c:A1,(K w.params).In c->c.Ns Ca p->aR l.prog w (K w.params) p c (CX w) k t y [x] (sp w))
  (z:∀(w:zz)(H:Hp)(a:AM)(ns:Lw Int),⇑ns<=n->C5 H->SqL (K w.params) H a (ns.map pi)->sp w [.ref a] H (λv _=>v=.bl Li) λ_ _ _=>False)
  (D:∀(w:zz)(H:Hp)(s:C3)(e:zt)(s':C3),CX w [] H s (λ_ _ _=>False) e s'->False) :
  W.WalkO q j XP E l.row.toRowW d [] (λf vs=>PySem.call f vs):=by
 refine Att.attach_call M C λw J r p mb t o pm cd a0 a vs ns G Y ho hd Z B X m i N=>?_
 let I:=P w _ Y;let(y,O,S):=F w p t _ I G.T.g B;calc yW I G.T.g G.T.b G.T.builtins G.T.nolimit N X m (tm i A) L S O (λH R Q=>z w H a ns i R Q) λH e s'=>D w H r e s'
def  inClass(s:EV)(j:Nat):EV:=match s with
 | .ClassDef _ _ _ body _ _ _ _ _ _ _=>body.getD j<|.Pass (0,0,0,0,)
 |_=>.Pass (0,0,0,0,)
def  oP(s:EV):Arguments:=match s with
 | .FunctionDef _ a _ _ _ _ _ _ _ _=>a
 |_=>{ posonlyargs:=[],args:=[],vararg:=Lh,kwonlyargs:=[],kw_defaults:=[],kwarg:=Lh,defaults:=[] }
def  il(s:EV):Lw EV:=match s with
 | .FunctionDef _ _ b _ _ _ _ _ _ _=>b
 |_=>[]
def  aj(s:EV):C4:=match s with
 | .FunctionDef _ _ _ _ _ _ sc _ _ _=>sc
 |_=>{ kind:=.function,names:=[],isGenerator:=Lj,isCoroutine:=Lj }
abbrev CX0:CXT:=λ_ _ _ _ _ _=>False
abbrev E0:XK:=λ_ _ _=>False
def cQ{X:Cx}:Passes CX0 X E0:=λ_ _ _ _ _ _ _ h=>h.elim
structure Fun(K:ac)(x qual:Str)(st:EV)(f:AM)(fd:JB):Prop where
 ex:∃(oc:zt)(od:Option AM)(kV doc pm:zt)(an:Option AM)(cdv ct:zt)(osl:Array (Option zt)),
  fd=Ng x qual (oP st) (il st) (aj st) .none kV doc pm an cdv ct/\K.lookup f=Lg (oc,od,.func fd,osl,)/\W.codeIn K cdv qual=Li
 kp:LH K (.ref f)=Li
section
variable{P:zA}{w:zz}{K:ac}{mg:Str->Option zt}{base:A1}
def Fun.ok{x b:Str}{st:EV}{f:AM}{i:JB}{N ps:Lw Str}{k:Nat}{sp:Sp}(F:Fun K x b st f i)(S:av N ps (aj st))(d:∀vs H Q E,sp vs H Q E->⇑vs=⇑ps)
  (j:∀(c:zt)(A:C2)(a:Lw Env)(s:C3)(H:Hp)(vs:Lw V)(Q:VK)(E:XK),cS k (A.deeper<|envOfC b (aj st) ↥s f c)->sp vs H Q E ->
   ∃t,PSs (bh CX0 P w K mg base N b (aj st) f c A a s H E).nox (il st) t/\t { nx:=λ_ H'=>Q .non H',rt:=Q } (start N vs) H):aR P w K mg base CX0 (k+1) f i ps sp:=by
 let(u,r,kV,o,p,y,c,v,n,rfl,l,g):=F.ex;refine Ci l g S d λA a s H vs Q E m e=>?_
 let(t,h,q):=j c A a s H vs Q E m e;calc(t,h.nox,q,)
def Fun.binds{x a:Str}{st:EV}{f:AM}{i:JB}{ps:Lw Str}(F:Fun K x a st f i)
  (h:∀(kV b d:zt)(g:Option AM)(c e:zt)(us:Lw zt),⇑us=⇑ps->JD (Ng x a (oP st) (il st) (aj st) .none kV b d g c e) (us,[],)=pure (ps.zip us)):Binds K i ps []:=by
 let(m,l,kV,b,d,g,c,e,j,rfl,n,k):=F.ex;calc .all<|h kV b d g c e
def fun_mk{x a:Str}{st:EV}{f:AM}{m:zt}{j i:Option AM}{e:Array (Option zt)}{kV d g b h:zt}(l:K.lookup f=Lg (m,j,.func<|Ng x a (oP st) (il st) (aj st) .none kV d g i b h,e,))
  (c:W.codeIn K b a=Li)(k:LH K (.ref f)=Li):Fun K x a st f (Ng x a (oP st) (il st) (aj st) .none kV d g i b h):=((m,j,kV,d,g,i,b,h,e,U,l,c,),k,)
end
def aC{n:Nat}(h:n<=1000):n<A8:=v3 h ⋯
variable{X:Cx}
def pv(i:Nat){x:Str}{pos:Pos}(d:X.N[i]?=Lg x:=by rfl)(b:Vis X.env.scope x:=by first|exact cr U|exact ul (cr U)|exact ul (ul U))(c:(x == ("__debug__" : Str))=false:=by decide)
  (a:(x == ("__classdict__" : Str))=false:=by decide):PE X (.Name x pos) (yC i):=CH d b c a
def bF{A B:Prop}(h:B):if Lj=Li then A else B:=by
 rw[Lm bv];calc h
def eJ{A B:Prop}(h:A):if Li=Li then A else B:=by
 rw[Lo U];calc h
def bR{c A B:Prop} [Decidable c] (b:c->A)(a:¬ c->B):if c then A else B:=by
 by_cases h:c
 .rw[Lo h];exact b h
 .rw[Lm h];calc a h
def ka{c A B:Prop} [Decidable c] (a:c)(h:B):if (!decide c)=Li then A else B:=by
 rw[Lq a];calc bF h
def  ak(H H':Hp):Prop:=∀b o,H b=Lg o->H' b=Lg o
def ak.refl(H:Hp):ak H H:=λ_ _ h=>h
def ak.trans{H e d:Hp}(a:ak H e)(b:ak e d):ak H d:=λc o h=>b c o<|a c o h
def ak.free{H H':Hp}(e:ak H H'){l:AM}(h:H' l=Option.none):H l=Option.none:=by
 cases q:H l with
 |none=>rfl
 |some o =>
  rw[e l o q]at h;cases h
def ak.seq{K:ac}{H H':Hp}{a:AM}{xs:Lw V}(e:ak H H')(h:SqL K H a xs):SqL K H' a xs:=by
 rcases h with(h|⟨o,h⟩)|h
 .exact .inl<|.inl<|e _ _ h
 .exact .inl<|.inr (o,e _ _ h,)
 .exact .inr h
abbrev Pr:=Int×Int
def  inR(n:Int)(p:Pr):Bool:=Lk (p.1<=n) && decide (n<=p.2)
def  inP(ps:Lw Pr)(n:Int):Bool:=ps.any<|inR n
structure Apart(R:Lw Pr):Prop where
 le:∀p∈R,p.1<=p.2
 gap:R.Pairwise λp q=>p.2+2<=q.1
def dD(R:Lw Pr)(p:Pr)(n:Int):inP (R++[p]) n=(inP R n || inR n p):=by
 unfold inP;rw[List.any_append];simp
def Apart.snoc{R:Lw Pr}{p:Pr}(h:Apart R)(d:p.1<=p.2)(f:∀r∈R,r.2+2<=p.1):Apart (R++[p]) where
 le:=λq c=>by
  rcases eA.mp c with c|c
  .exact h.le q c
  .let e:q=p:= ~~~c
   rw[e];exact d
 gap:=by
  rw[Nc];calc(h.gap,List.pairwise_singleton _ _,λa i b g=>?_,);let e:b=p:= ~~~g
  rw[e];calc f a i
def Apart.init{R:Lw Pr}{p:Pr}(h:Apart (R++[p])):Apart R/\p.1<=p.2/\∀r∈R,r.2+2<=p.1:=by
 let g:=h.gap;rw[Nc]at g;calc((λq b=>h.le q<|gq _ b,g.1,),h.le p (by simp),λr a=>g.2.2 r a p (by simp),)
structure jU(R qs:Lw Pr):Prop where
 ap:Apart R
 mem:∀n,inP R n=inP qs n
 cov:∀p∈qs,p.1<=p.2->∃r∈R,r.1<=p.1/\p.2<=r.2
 low:∀r∈R,∃q∈qs,r.1=q.1
def jU.nil:jU [] []:=⟨((λp a=>by cases a),LF,),λ_=>U,(λp a=>by cases a),(λr b=>by cases b)⟩
def jU.skip{R qs:Lw Pr}{p:Pr}(h:jU R qs)(d:p.2<p.1):jU R (qs++[p]) where
 ap:=h.ap
 mem:=λn=>by
  rw[dD,h.mem n];let e:inR n p=false:=by
   unfold inR;rw[xc];simp only[decide_eq_false_iff_not];lia
  rw[e,AT]
 cov:=λq a b=>by
  rcases eA.mp a with a|a
  .exact h.cov q a b
  .let e:q=p:= ~~~a
   rw[e]at b;lia
 low:=λr c=>by
  let(q,a,e):=h.low r c;calc(q,gq _ a,e,)
def jU.join{R qs:Lw Pr}{l p:Pr}{m:Int}(h:jU (R++[l]) qs)(f:l.1<=p.1)(u:p.1<=l.2+1)(t:p.1<=p.2)(s:m=max l.2 p.2):jU (R++[(l.1,m)]) (qs++[p]):=by
 let(k,v,j):=h.ap.init;let o:l.2<=m/\p.2<=m/\(m=l.2\/m=p.2):=∅
 refine(k.snoc (by show l.1<=m;lia) j,λn=>?_,λq b d=>?_,λr a=>?_,)
 .rw[dD,dD,←h.mem n,dD,MU]
  congr 1
  unfold inR;rw[pr];simp only[Bool.or_eq_true,wF,decide_eq_true_eq];lia
 .rcases eA.mp b with b|b
  .let(r,a,c,i):=h.cov q b d;rcases eA.mp a with a|a
   .exact(r,gq _ a,c,i,)
   .let e:r=l:= ~~~a
    subst e;exact((r.1,m),by simp,c,by show q.2<=m;lia,)
  .let e:q=p:= ~~~b
   subst e;exact((l.1,m),by simp,f,by show q.2<=m;lia,)
 .rcases eA.mp a with a|a
  .let(q,b,e):=h.low r<|gq _ a;exact(q,gq _ b,e,)
  .let e:r=(l.1,m):= ~~~a
   let(q,b,g):=h.low l (by simp);calc(q,gq _ b,by rw[e];exact g,)
def jU.add{R qs:Lw Pr}{p:Pr}(h:jU R qs)(g:p.1<=p.2)(f:∀r∈R,r.2+2<=p.1):jU (R++[p]) (qs++[p]):=by
 refine(h.ap.snoc g f,λn=>by rw[dD,dD,h.mem n],λq b d=>?_,λr a=>?_,)
 .rcases eA.mp b with b|b
  .let(r,a,c):=h.cov q b d;exact(r,gq _ a,c,)
  .let e:q=p:= ~~~b
   subst e;exact(q,by simp,pp _,pp _,)
 .rcases eA.mp a with a|a
  .let(q,b,e):=h.low r a;exact(q,gq _ b,e,)
  .let e:r=p:= ~~~a
   calc(p,by simp,by rw[e],)
def Apart.last{R:Lw Pr}{l:Pr}(h:Apart (R++[l])){c:Int}(b:l.2+2<=c):∀r∈R++[l],r.2+2<=c:=λr a=>by
 let(g,f,d):=h.init;rcases eA.mp a with a|a
 .let:=d r a;lia
 .let e:r=l:= ~~~a
  rw[e];calc b
def yX{ps qs:Lw Pr}(h:ps.Perm qs)(n:Int):inP ps n=inP qs n:=by
 unfold inP;rw[pr,kK,kK];calc(λ(x,a,e,)=>(x,h.mem_iff.mp a,e,),λ(x,a,e,)=>(x,h.mem_iff.mpr a,e,),)
def jU.perm{R qs ps:Lw Pr}(h:jU R qs)(p:qs.Perm ps):jU R ps:=(h.ap,λn=>(h.mem n).trans<|yX p n,λq a=>h.cov q<|p.mem_iff.mpr a,λr b=>let ⟨q,a,e⟩:=h.low r b;(q,p.mem_iff.mp a,e,),)
def  Callee(P:zA)(w:zz)(K:ac)(b:Str->Option zt)(a:A1)(k:Nat)(x:Str)(ps:Lw Str)(sp:Sp):Prop :=
 ∃f c,aR P w K b a CX0 k f c ps sp/\Binds K c ps []/\LH K (.ref f)=Li/\b x=↑f
def Callee.mono{P:zA}{w:zz}{K:ac}{b:Str->Option zt}{a:A1}{j k:Nat}{x:Str}{ps:Lw Str}{sp:Sp}(C:Callee P w K b a j x ps sp)(h:j<=k):Callee P w K b a k x ps sp:=by
 let(f,c,F,r):=C;calc(f,c,F.mono h,r,)
variable{pos:Pos}
section
variable{k:Nat}{x:Str}{ps:Lw Str}{sp:Sp}{e:Ew}{es:Lw Ew}{t:TA}{p:Pos}
def  tFn(sp:Sp)(t:TA):TE:=λa H Q=>t a H λb c=>sp b c Q E0
def aS(C:Callee X.prog X.w X.K X.mg X.base k x ps sp)(o:cS k X.A)(r:Gl X x)(u:PA X (e :: es) t)(j:(x == ("__debug__" : Str))=false:=by decide)
  (he:EN (e :: es) X.env=(Lj,eval e X.env) :: EN es X.env:=by rfl)(i:(EE pos<|EN es X.env).any (·.1)=false:=by rfl):PE X (.Call (.Name x p) (e :: es) [] pos) (tFn sp t):=by
 let(f,y,F,b,n,m):=C;let h:=AX (E:=E0) (dvs:=[]) (ds:=[]) (p:=p) F o r m n b .nil cQ u j he i;intro d s g H Q I q;calc h d s g H Q I ?_;let l:t g H λa c=>sp a c Q E0:=q
 let v:(λ(a:Lw V)(c:Hp)=>sp (a++[]) c Q E0)=λa c=>sp a c Q E0:=by
  funext a c
  rw[jV]
 show t g H λa c=>sp (a++[]) c Q E0
 rw[v];calc l
end
def  aZ(t u:TS):TS:=λD c H=>∃M:NA,t { D with nx:=M } c H/\∀a b,M a b->u D a b
def aw{X:Cx}{st:EV}{rest:Lw EV}{t u:TS}(i:PS X st t)(h:PSs X rest u):PSs X (st :: rest) (aZ t u):=by
 intro c s f H D I (M,a,b,);calc IE<|thn (i c s f H { D with nx:=M } I a) λfl g q=>?_;cases fl with
 |next=>obtain⟨d,e,j,q⟩:=q;exact h c g d e D j<|b d e q
 |ret v=>exact q
 |brk=>exact q
 |cont=>calc q
inductive EqI(K:ac)(H:Hp):V->V->Bool->Prop where
 |flat {x y:V}(fx:dN x=Li)(fy:dN y=Li):EqI K H x y (eqV x y)
 |same (a:AM):EqI K H (.ref a) (.ref a) Li
 |tup {a b:AM}{xs ys:Lw V}(ha:SqT K H a xs)(hb:SqT K H b ys)(fx:xs.all dN=Li)(fy:ys.all dN=Li):EqI K H (.ref a) (.ref b) (Lk (⇑xs=⇑ys) && (nn eqV xs ys).all id)
def yY:∀{x:V},dN x=Li->eqV x x=Li
 | .non,_=>rfl
 | .bl b,_=>beq_self_eq_true b
 | .int i,_=>beq_self_eq_true i
 | .str z,_=>beq_self_eq_true z
def pj:∀{xs:Lw V},xs.all dN=Li->(nn eqV xs xs).all id=Li
 | [],_=>rfl
 |x :: xs,h=>by
  rw[mX,wF]at h;rw[M2,mX,pj h.2,Bool.and_true];calc yY h.1
def lJ{f:Nat->Bool}:∀{xs ys:Lw V},(∀j x y,xs[j]?=Lg x->ys[j]?=Lg y->f j=eqV x y)->(bn<|min ⇑xs ⇑ys).all f=(nn eqV xs ys).all id
 | [],ys,_=>by simp
 |x :: xs,[],_=>by simp
 |x :: xs,y :: ys,h=>by
  let c:=lJ (f:=λj=>f<|j+1) (xs:=xs) (ys:=ys) λj a b g e=>h (j+1) a b (~~~g)<|~~~e
  let i:=h 0 x y U U;let d:min ⇑(x :: xs) ⇑(y :: ys)=min ⇑xs ⇑ys+1:=by simp only[ig];lia
  rw[d,List.range_succ_eq_map,mX,M2,mX,List.all_map,i];show(eqV x y && (bn<|min ⇑xs ⇑ys).all (λj=>f<|j+1))=_;rw[c];rfl
section
variable{Ll:Lw (AM×Obj)}{σ:St}{H:Hp}{s:C3}
def EqI.at{A:C2}{x y:V}{u v:zt}{b:Bool}(e:EqI X.K H x y b)(I:Inv X Ll σ H s)(W:A.units+1<Jy)(l:RelV x u)(k:RelV y v):L3 A s u v b:=by
 cases e with
 |flat i m=>exact rN l k i m
 |same a =>
  cases (show u=zt.ref a from l);cases (show v=zt.ref a from k);exact LW _
 | @tup a b xs ys ha hb i m =>
  cases (show u=zt.ref a from l);cases (show v=zt.ref b from k);by_cases z:a=b
  .subst z;let e:=I.tuple_inj ha hb;subst e;rw[pj i,Lq U];exact LW _
  .let(d,r,p,_):=I.tuple ha;let(c,q,D,_):=I.tuple hb;let F:=⇑r;let E:=⇑q;let M:=MW (A:=A) (e:=λj=>match d[j]?,xs[j]?,ys[j]? with|_,Lg x,Lg y=>eqV x y|_,_,_=>Lj) (show s.heap.IsTuple a d.toArray from p) (show s.heap.IsTuple b c.toArray from D) ∅ (λj f L=>by
    let J:j<⇑d:= ~~~f
    let G:j<⇑c:= ~~~L
    let o:xs[j]?=Lg xs[j]:=IU ∅;let n:ys[j]?=Lg ys[j]:=IU ∅;let(w,h,C):=r.get o;let(t,g,B):=q.get n;let Q:d.toArray[j]=w:=by
     have:=IU J;rw[this]at h;simpa using gl h
    let P:c.toArray[j]=t:=by
     have:=IU G;rw[this]at g;simpa using gl g
    rw[Q,P];rw[o,n];let O:dN xs[j]=true:=iF.mp i _<|pa _;let N:dN ys[j]=true:=iF.mp m _<|pa _;exact rN C B O N)
   let f:=LB z M;let T:((bn<|min d.toArray.size c.toArray.size).all λj=>match d[j]?,xs[j]?,ys[j]? with|_,Lg x,Lg y=>eqV x y|_,_,_=>Lj)=(nn eqV xs ys).all id:=by
    let R:min d.toArray.size c.toArray.size=min ⇑xs ⇑ys:=by simp only[eG];lia
    rw[R];exact lJ λj x y h g=>by rw[h,g]
   rw[T]at f;let S:(d.toArray.size == c.toArray.size)=Lk (⇑xs=⇑ys):=by
    simp only[eG,←F,←E];exact Bool.beq_eq_decide_eq _ _
   rw[S,Bool.and_comm]at f;calc f
end
inductive tS(K:ac)(neg:Bool)(x:V)(y:V)(H:Hp)(Q:VK):Prop
 |mk (a b xs ys:_)(_:x=.ref a)(_:y=.ref b)(_:SqL K H a xs)(_:SqL K H b ys)(_:((⇑xs≠⇑ys/\Q (.bl neg) H)\/(⇑xs=⇑ys/\∃f:Nat->Bool,(∀j x y,xs[j]?=Lg x->ys[j]?=Lg y->EqI K H x y (f j))/\Q (.bl (if neg then !(bn ⇑xs).all f else(bn ⇑xs).all f)) H)))
def yZ{b:Lw (AM×Obj)}{l:St}{H:Hp}{s:C3}{A:C2}{xs ys:Lw V}{a its':Lw zt}{f:Nat->Bool}(I:Inv X b l H s)(u:A.units+1<Jy)(r:Vals xs a)(e:Vals ys its')
  (hf:∀j x y,xs[j]?=Lg x->ys[j]?=Lg y->EqI X.K H x y (f j)):∀j (k:j<a.toArray.size)(i:j<its'.toArray.size),L3 A s a.toArray[j] its'.toArray[j] (f j):=λj k i=>by
 let t:j<⇑a:= ~~~k
 let q:j<⇑its':= ~~~i
 let B:=⇑r;let z:=⇑e;let d:xs[j]?=Lg xs[j]:=IU ∅;let c:ys[j]?=Lg ys[j]:=IU ∅;let(n,h,p):=r.get d;let(m,g,o):=e.get c;let w:a.toArray[j]=n:=by
  let:=IU t;rw[this]at h;simpa using gl h
 let v:its'.toArray[j]=m:=by
  let:=IU q;rw[this]at g;simpa using gl g
 rw[w,v];calc(hf j _ _ d c).at I u p o
def lO{k:Nat}(o:cS k X.A):OpR X (Jp .Eq) (tS X.K Lj):=by
 intro i s B H x y v u Q I n m h;let(a,b,l,C,rfl,rfl,z,w,h):=h;cases (show v=zt.ref a from n);cases (show u=zt.ref b from m);let(c,r,p,_):=I.list z;let(j,d,g,_):=I.list w;let E:=⇑r;let D:=⇑d;let F:=o.units;rcases h with⟨G,q⟩|⟨J,f,t,q⟩
 .refine MN p.isList g.isList (by simp only[eG,bne_iff_ne,ne_eq];lia) ∅ (.bl Lj,H,I,U,q,)
 .refine SeqAt.eq_listAt (e:=f) p.isList g.isList (by simp only[eG];lia) ∅ (yZ I (by show X.A.units+1+1<Jy;lia) r d t) (.bl _,H,I,U,?_,);rw[show c.toArray.size=⇑l by simp only[eG];lia];calc q
def C6{k:Nat}(o:cS k X.A):OpR X (Jp .NotEq) (tS X.K Li):=by
 intro i s C H x y v u Q I n m h;let(a,b,l,D,rfl,rfl,B,z,h):=h;cases (show v=zt.ref a from n);cases (show u=zt.ref b from m);let(c,r,p,_):=I.list B;let(j,d,g,_):=I.list z;let F:=⇑r;let E:=⇑d;let G:=o.units;rcases h with⟨J,q⟩|⟨L,f,t,q⟩
 .refine SeqAt.RcNeAt.lists_lengths p.isList g.isList (by simp only[eG,bne_iff_ne,ne_eq];lia) ∅ X.prog X.w X.xe _ (.bl Li,H,I,U,q,)
 .refine SeqAt.RcNeAt.lists (e:=f) p.isList g.isList (by simp only[eG];lia) ∅ (yZ I (by show X.A.units+1+1<Jy;lia) r d t) X.prog X.w X.xe _ (.bl _,H,I,U,?_,);rw[show c.toArray.size=⇑l by simp only[eG];lia];calc q
def  gD(H H':Hp):Prop:=∀b a,H b=Lg (.tup a)->H' b=Lg (.tup a)
def ak.tups{H H':Hp}(h:ak H H'):gD H H':=λb a e=>h b _ e
def gD.trans{H g f:Hp}(a:gD H g)(b:gD g f):gD H f:=λc d e=>b c d<|a c d e
def gM{H:Hp}{p:AM}{o:HO}(h:H p=Lh):gD H (upd H p o):=λb a e=>by rw[ay (bG e h)];calc e
def bZ{H:Hp}{p:AM}{o:HO}{ys:Lw V}(h:H p=Lg (.lst ys)):gD H (upd H p o):=λb a e=>by rw[ay (eB e h (by intro z;cases z))];calc e
def ah{H:Hp}{p:AM}(h:H p=Lh)(o:HO):ak H (upd H p o):=λb u q=>by rw[ay (bG q h)];calc q
def ak.upd{H H':Hp}{p:AM}{o:HO}(s:ak H H')(h:H p=Lh):ak H (upd H' p o):=λb u q=>by rw[ay (bG q h)];calc s b u q
def  PL(H:Hp):Lw V->Lw (Int×Int)->Prop:=Paired λx p=>∃r,x=.ref r/\H r=Lg (.tup [.int p.1,.int p.2])
def PL.mono{H H':Hp}{xs:Lw V}{ps:Lw (Int×Int)}(h:PL H xs ps)(s:gD H H'):PL H' xs ps:=Paired.mapP h λ_ _ (r,e,z,)=>(r,e,s r _ z,)
def PL.get{H:Hp}:∀{xs:Lw V}{ps:Lw (Int×Int)}{i:Nat}{x:V},PL H xs ps->xs[i]?=Lg x->∃p r,ps[i]?=Lg p/\x=.ref r/\H r=Lg (.tup [.int p.1,.int p.2])
 |_,_,_,_,.nil,e=>by simp at e
 |_,_,0,_,.cons (b:=b) (r,e1,z,) _,e=>by simp at e;subst e;exact(b,r,U,e1,z,)
 |_,_,i+1,x,.cons _ t,e=>by
  let(p,r,q):=PL.get (i:=i) (x:=x) t<|~~~e;calc(p,r,~~~q.1,q.2,)
def PL.length{H:Hp}{xs:Lw V}{ps:Lw (Int×Int)}(h:PL H xs ps):⇑xs=⇑ps:=Paired.length h
def PL.snoc{H:Hp}{xs:Lw V}{ps:Lw (Int×Int)}{r:AM}{a b:Int}(h:PL H xs ps)(e:H r=Lg (.tup [.int a,.int b])):PL H (xs++[.ref r]) (ps++[(a,b)]):=Paired.snoc h (r,U,e,)
def PL.last{H:Hp}{xs:Lw V}{ps:Lw (Int×Int)}(h:PL H xs ps)(f:xs≠[]):∃c r d p,xs=c++[.ref r]/\ps=d++[p]/\PL H c d/\H r=Lg (.tup [.int p.1,.int p.2]):=by
 induction h with
 |nil=>exact Lp U f
 | @cons a b l1 l2 hd tl ih =>
  cases tl with
  |nil =>
   let(r,e,z):=hd;exact([],r,[],b,by rw[e];rfl,U,.nil,z,)
  | @cons a2 b2 l3 l4 hd2 tl2 =>
   let(c,r,d,p,k,j,i,g):=ih (by simp);calc(a :: c,r,b :: d,p,by rw[k];rfl,by rw[j];rfl,.cons hd i,g,)
def V.int_inj{i j:Int}(h:pi i=pi j):i=j:=by cases h;rfl
def nh{i j:Int}(h:decide (pi i=pi j)=Li):i=j:=V.int_inj<|Ls h
def ni{i j:Int}(h:¬ decide (pi i=pi j)=Li):i≠j:=λe=>h<|Lq<|Lu pi e
def gg{p:Prop} [Decidable p] (h:decide p=Li):p:=Ls h
def ip{p:Prop} [Decidable p] (h:¬ decide p=Li):¬ p:=λe=>h<|Lq e
def gh{X:Cx}{K:ac}(h:X.K=K):IxR X (CY K):=h ▸ aV
def oQ{X:Cx}{K:ac}(h:X.K=K):IxR X (CZ K):=h ▸ aM
def  bc(X:Cx)(N:Lw Str)(scope:C4)(cl:Lw (Str×AM))(b:Lw AM)(C:AM)(a:C3)(c:Hp):Cx :=
 { prog:=X.prog,w:=X.w,K:=X.K,mg:=X.mg,base:=X.base,A:=X.A,N:=N,s₀:=a,H₀:=c,env:=JX scope cl C X.env,outer:=X.stack,stack:=X.stack,ex:=b,fn:=λ_=>Lj,calm:=X.calm,pn:=[],xe:=λ_ _=>False }
def  PIf(X:Cx)(d:Lw Ew)(t:TT):Prop :=
 ∀(a:Lw (AM×Obj))(s:C3)(b:St)(H:Hp)(Q:Bool->NB),Inv X a b H s->t b H Q ->
  D2 (model X.prog X.w) X.A (forIn d Li λc r=>if r=Li then do let ok ←ED c X.env (eval c X.env);pure (wP ok)else pure (wP r)) (TP X a b Q) X.xe s
def  F4:TT:=λ_ H Q=>Q Li H
def aY{X:Cx}:PIf X [] F4:=λ_ _ _ H _ I h=>wpAny_tests_nil (H,I,h,)
def rO{X:Cx}{c:Ew}{t:TT}(h:PT X c t):PIf X [c] t:=λa s b H Q I q=>wpAny_tests_one<|h a s b H Q I q
structure tT(X:Cx)(N:Lw Str)(fr:Lw Nat)(scope:C4)(cl:Lw (Str×AM))(x:Str):Prop where
 clos:JY scope X.env=pure cl
 kind:scope.kind=.function
 nocell:∀y∈scope.names,y.2≠.cell
 names:∀y∈scope.names,y.2=.local->scope.names.lookup y.1=Lg .local
 hx:scope.names.lookup x=Lg .local
 nd:N.Nodup
 n0:N[0]?=Lg x
 len:N.length=⇑fr+1
 sub:∀(i:Nat)(y:Str),N[i+1]?=Lg y->∃j,fr[i]?=Lg j/\X.N[j]?=Lg y/\(X.env.kindOf y=Lg .cell\/X.env.kindOf y=Lg .free)/\((relabel scope X.env).names.lookup y=Lg .cell\/(relabel scope X.env).names.lookup y=Lg .free)
 cells:∀y c,cl.lookup y=Lg c->X.env.cells.lookup y=Lg c
 has:∀y,((relabel scope X.env).names.lookup y=Lg .cell\/(relabel scope X.env).names.lookup y=Lg .free)->∃c,cl.lookup y=Lg c
def bA{X:Cx}{scope:C4}{x:Str}(kind:scope.kind=.function)(a:∀y∈scope.names,y.2≠.free)(b:∀y∈scope.names,y.2≠.cell)
  (names:∀y∈scope.names,y.2=.local->scope.names.lookup y.1=Lg .local)(f:scope.names.lookup x=Lg .local):tT X [x] [] scope [] x:=by
 let g:(relabel scope X.env).names=scope.names:=map_eq_self λy d=>by
  let z:(y.2 == JG.free)=false:= ~~~a y d
  simp[z]
 let no:∀y,¬ ((relabel scope X.env).names.lookup y=Lg .cell\/(relabel scope X.env).names.lookup y=Lg .free):=λy h=>by
  rw[g]at h;rcases h with h|h
  .exact b _ (mem_of_lookup h) U
  .exact a _ (mem_of_lookup h) U
 calc(JZ a,kind,b,names,f,by simp,U,U,λi y e=>by simp at e,(λy c e=>by cases e),λy h=>Lp h<|no y,)
def bp{X:Cx}{N:Lw Str}{fr:Lw Nat}{scope:C4}{cl:Lw (Str×AM)}{x:Str}(b:JY scope X.env=pure cl)(kind:scope.kind=.function)(a:∀y∈scope.names,y.2≠.cell)
  (names:∀y∈scope.names,y.2=.local->scope.names.lookup y.1=Lg .local)(m:scope.names.lookup x=Lg .local)(g:N.Nodup)(l:N[0]?=Lg x)(d:N.length=⇑fr+1)
  (sub:((bn ⇑fr).all λi=>match N[i+1]?,fr[i]? with|some y,Lg j=>(X.N[j]? == Lg y) && ((X.env.kindOf y == Lg .cell) && ((relabel scope X.env).names.lookup y == Lg .cell))|_,_=>Lj)=Li)
  (cells:∀p∈cl,X.env.cells.lookup p.1=Lg p.2)(f:((relabel scope X.env).names.all λp=>(p.2 != .cell && p.2 != .free) || (cl.lookup p.1).isSome)=Li):tT X N fr scope cl x:=by
 refine(b,kind,a,names,m,g,l,d,λi y e=>?_,λy c e=>cells _<|mem_of_lookup e,λy h=>?_,)
 .let hi:i<⇑fr:=by have:=(IV.mp e).1;lia
  let z:=iF.mp sub i<|ia.mpr hi;rw[e,IU hi]at z;simp only[wF,beq_iff_eq]at z;exact(_,IU hi,z.1,.inl z.2.1,.inl z.2.2,)
 .let look:∀k,(relabel scope X.env).names.lookup y=Lg k->(k=.cell\/k=.free)->∃c,cl.lookup y=Lg c:=λk e n=>by
   let z:=iF.mp f _<|mem_of_lookup e;rcases n with rfl|rfl
   .exact yz.mp<|~~~z
   .exact yz.mp<|~~~z
  rcases h with h|h
  .exact look _ h<|.inl U
  .exact look _ h<|.inr U
def  i3(a:St)(fr:Lw Nat)(x:Option V):St:=x :: fr.map λj=>(a[j]?).join
def  rP(J:It)(fr:Lw Nat)(j:TT)(k:TE)(d:St)(Q:VK)(g:Hp):Prop:=∀D,g D=Lh->∃W:Nat->Nat->NB,(∃m,W 0 m<|upd g D<|.lst [])/\∀i m H,W i m H ->
 (J.stop i H/\Q (.ref D) H)\/(J.go i H/\∀x h,J.yld i H x h->j (i3 d fr<|Lg x) h λb f=>if b=Li then k (i3 d fr<|Lg x) f λy e=>∃c,e D=Lg (.lst c)/\⇑c<A8/\∃a,a<m/\W (i+1) a (upd e D<|.lst<|c++[y])
  else ∃a,a<m/\W (i+1) a f)
def  Ck(b:TI)(fr:Lw Nat)(c:TT)(d:TE):TE:=λa H Q=>b a H λJ e=>rP J fr c d a Q e
section
variable{prog:zA}{w:zz}{A:C2}{R:Ju->C3->Prop}{s:C3}
def pk{f a d:Ew}{e:Lw Ew}{scope:C4}{pos:Pos}{it g:zt}{b:Env}(J:Nat->C3->Prop)
  (turn:∀n s,J n s->D2 (model prog w) A (Je it) (λr j=>match r with
   |none=>R (.ok .next) j
   |some v=>D2 (model prog w) A (Jf a it v) (λ_ p=>D2 (model prog w) A (assign a b v) (λ_ o =>
     D2 (model prog w) A (forIn e Li λc r=>if r=Li then do let ok ←ED c b (eval c b);pure (wP ok)else pure (wP r)) (λok i =>
      if ok=Li then D2 (model prog w) A (eval f b) (λy l=>D2 (model prog w) A (call (.builtin "list.append") [g,y]) (λ_ k=>∃m,m<n/\J m k) (λ_ _=>False) l) (λ_ _=>False) i
      else ∃m,m<n/\J m i) (λ_ _=>False) o) (λ_ _=>False) p) (λ_ _=>False) j) (λ_ _=>False) s)
  (n:Nat)(h:J n s):Jv (model prog w) A (.compLoop (.ListComp f [(a,d,e,0,)] scope pos) 0 it g b) R s:=by
 calc codeAny_loop U J (λn s u=>?_) n h;show D2 _ A ((compTurn (.ListComp f [(a,d,e,0,)] scope pos) 0 it g b).onRaise (λx=>do J7 x b;J8 x)) _ _ s;calc wpAny_noted ?_;rw[J9];calc yN<|Jb<|yN<|EX (turn n s u) (λr j t=>?_) λ_ _ z=>z.elim;cases r with
 |none=>exact yU t
 |some v =>
  calc yN<|EX t (λ_ p E=>?_) λ_ _ z=>z.elim;calc yN<|EX E (λ_ o D=>yN<|EX D (λok i q=>?_) λ_ _ z=>z.elim) λ_ _ z=>z.elim;cases ok with
  |false=>exact yU (U,q,)
  |true=>calc yN (yN<|EX q (λy l C=>yN<|EX C (λ_ k B=>yU<|yU (U,B,)) λ_ _ z=>z.elim) λ_ _ z=>z.elim)
end
section
variable{elt iter:Ew}{ifs:Lw Ew}{x:Str}{px:Pos}{scope:C4}{cl:Lw (Str×AM)}{N:Lw Str}{fr:Lw Nat}{tt:TT}{te:TE}
def qO{I:Lw (AM×Obj)}{B:St}{a:C3}{q:Hp}{it:AM}{g:Lw AM}{tn:Nat->A1->Prop}{J:It}{Q:VK}{E:zt->C3->Prop}{RR:zt->AM->Ju->C3->Prop}
  (O:tT X N fr scope cl x)(hc:X.calm=Li)(h:Inv X I B q a)(T:Turn X.prog X.w X.K (.Name x px) J g it tn)(a2:tn 0 a.heap)(M:∀b∈g,kX X I q b)
  (ht:∀g C s H,PIf (bc X N scope cl g C s H) ifs tt)(he:∀g C s H,PE (bc X N scope cl g C s H) elt te)
  (hW:rP J fr tt te B Q q)
  (fin:∀D C s' H',↥a<=C->H' C=Lh->(∃m,s'.heap.Ns C m)->Inv X I B H' s'->Q (.ref D) H'->RR (.ref D) C (.ok .next) s') :
  D2 (model X.prog X.w) X.A (Ka []) (λa8 s3=>D2 (model X.prog X.w) X.A (Kb scope X.env.globals cl [] X.env.qual Lh .none (Lg X.env)) (λcenv s4 =>
   Jv (model X.prog X.w) X.A (.compStart (.ListComp elt [(.Name x px,iter,ifs,0,)] scope pos) 0 (.ref it) a8 { cenv with scope:=relabel scope X.env }) (RR a8 cenv.locals) s4) E s3) E a:=by
 refine Kc (Kd O.nocell (by intro y hy;simp at hy) (λh1 a3 R=>?_) O.kind);dsimp only at a3 R⊢;generalize hG:a.heap.push { cls:=.type "list",dict:=Lh,data:=.seq ([]:Lw zt).toArray }=G at a3 R⊢;let hC:G.objs.size=↥a+1:=by rw[←hG,AC]
 let F:∀b o,a.heap.get? b=Lg o->h1.get? b=Lg o:=λb o e=>R.extBut b o (tj (by rw[hC];exact u0 (bi e))) (am _<|hG ▸ am _ e)
 let za:h1.get? ↥a=Lg { cls:=.type "list",data:=.seq ([]:Lw zt).toArray 0 }:=R.extBut _ _ (tj (by rw[hC];exact vi _)) (am _<|hG ▸ ii _ U);let hD:q ↥a=none:=h.fresh;let P:(bc X N scope cl g G.objs.size a q).Ok:=by
  refine(h.ok.mod,O.kind,h.ok.glob,h.ok.blt,by show ↥a<=G.objs.size;rw[hC];exact u3 _,λy z c e1 e2=>h.ok.inj y z c (O.cells y c e1)<|O.cells z c e2,λy hy=>O.has y hy,λy c z=>Lp (show Lj=Li from z) bv,h.ok.hd,h.ok.frames,.inl U,
   λb f=>(?_,λy c e=>(M b f).2.2.2.2.1 y c<|O.cells y c e,),h.bs,tm h.ok.bsz h.sz,λb o e f=>?_,λb f z=>?_,h.stack,h.stkFree,)
  .let(o,e,_):=T.obj _ _ a2 b f;show b≠G.objs.size;exact tj (by rw[hC];exact u0 (bi e))
  .rcases(M b f).2.2.2.1 with z|z
   .exact h.ok.noex b o e z
   .exact Lp (tN (bi e)<|tm h.ok.bsz z)<|vd _
  .rcases dy.mp (h.stkSub b z)with z|z
   .exact(M b f).2.1 z
   .exact(M b f).2.2.1 z
 let kb:∀{H':Hp},(∀b∈g,H' b=Lh)->∀b∈g,kX (bc X N scope cl g G.objs.size a q) [] H' b:=λhn b f =>
  (hn b f,(P.exf b f).1,P.exfs b f,.inl f,(P.exf b f).2,λp hp=>Lp (show p∈([]:Lw (AM×Obj))from hp) (by simp),)
 let I':Inv (bc X N scope cl g G.objs.size a q) [] (i3 B fr Lh) (upd q ↥a<|.lst []) { a with heap:=h1,toks:=a.toks+⇑([]:Lw (Str×zt)) }:=by
  refine(P,U,h.bare,Un.laid F (sT _) hD,(_,a3,λi y v e1 e2 e3=>?_,),λy c e=>?_,?_,λy c e=>?_,λp hp=>Lp (show p∈([]:Lw (AM×Obj))from hp) (by simp),h.hok.laid F (sT _) (uk _,[],0,.nil,za,),?_,)
  .cases i with
   |zero=>cases e2
   |succ i =>
    let(j,q1,q2,q3,q4):=O.sub i y e1;let S:(B[j]?).join=Lg v:=by
     have:(fr.map λj=>(B[j]?).join)[i]?=Lg (Lg v):=e2;rw[dV,q1]at this;exact gl this
    let e4:B[j]?=Lg (Lg v):=by
     cases z:B[j]? with
     |none=>rw[z]at S;cases S
     |some t=>rw[z]at S;exact Lu Lg S
    let(m,_,hl):=h.loc;let b9:Vis X.env.scope y:=.inr q3;let(u,r,l):=hl j y v q2 e4 b9;calc(u,r,.inr (q4,?_,),);let(c',a6):=O.has y q4;rcases l with⟨k,_⟩|⟨_,c,ec,ic⟩
    .rcases q3 with z|z
     .rw[z]at k;cases k
     .rw[z]at k;cases k
    .let:=O.cells y c' a6;let e':c=c':=gl<|ec.symm.trans this;let(o,ho,hd):=ic;rw[e']at ho;exact(c',a6,o,F c' o ho,hd,)
  .let(v,o,ho,hd):=h.cell y c<|O.cells y c e;exact(v,o,F c o ho,hd,)
  .show upd q ↥a (.lst []) G.objs.size=Lh;rw[ay (uK (by rw[hC];exact vi _))];exact h.hok.fresh (by rw[hC];exact u3 _)
  .let(v,o,ho,hd):=h.cell y c<|O.cells y c e;rw[ay (tj<|bi ho)];exact h.freeC y c<|O.cells y c e
  .show⇑(i3 B fr Lh)=N.length;rw[O.len];simp[i3]
 let a5:tn 0 h1:=T.keep _ _ _ a2 λb f o e=>F b o e
 let V:∀s3:C3,s3={ a with heap:=h1,toks:=a.toks+⇑([]:Lw (Str×zt)) } ->
   Jv (model X.prog X.w) X.A (.compLoop (.ListComp elt [(.Name x px,iter,ifs,0,)] scope pos) 0 (.ref it) (.ref ↥a)<|JX scope cl G.objs.size X.env) (RR (.ref ↥a) G.objs.size) s3:=by
  rintro s3 rfl;let(W,(m0,w0),turn):=hW _ hD
  refine pk (λn s'=>∃i t H',Inv (bc X N scope cl g G.objs.size a q) [] (i3 B fr t) H' s'/\tn i s'.heap/\(∀b∈g,H' b=Lh)/\W i n H') ?_ m0
   (0,Lh,_,I',a5,λb f=>by
    rw[ay (by let(o,e,_):=T.obj _ _ a2 b f;exact tj (bi e))];exact(M b f).1,w0,)
  rintro n s' ⟨i,t,H',I3,a4,a7,w3⟩;rcases turn i n H' w3 with⟨b0,qn⟩|⟨go,step⟩
  .refine thn (T.done (bc X N scope cl g G.objs.size a q) U U U hc i [] s' _ H' _ I3 (kb a7) a4 b0) λr s4 (hr,I4,)=>?_
   subst hr;let(m,Z,_):=I4.loc;refine fin _ _ s4 H' (by rw[hC];exact u3 _) I4.free (m,Z,) (h.call' (ch:=g) I4.os I4.base I4.hok I4.bare λb f=>?_) qn;exact((M b f).2.2.2.1,(M b f).2.1,(M b f).2.2.2.2.1,(M b f).2.2.2.2.2,)
  .refine thn (T.item (bc X N scope cl g G.objs.size a q) U U U hc i [] s' _ H' _ I3 (kb a7) a4 go) λr s4 (u,hr,h4,)=>?_
   subst hr;refine thn h4 λ_ s5 (y,H5,I5,r5,y5,a1,c1,)=>?_
   let c3:=I5.pinned (kb c1)<|T.obj _ _ a1;let lx:(bc X N scope cl g G.objs.size a q).env.scope.names.lookup x=Lg .local:=Ke O.hx;refine thn (aG (X:=bc X N scope cl g G.objs.size a q) (i:=0) O.nd O.n0 (.inl lx) (.inr lx) _ s5 _ H5 y u (λb4 H'=>b4=i3 B fr (Lg y)/\H'=H5) c3 r5 (U,U,)) λ_ s6 (c4,H6,I6,e6,c2,)=>?_
   subst e6;subst c2
   let L:∀{a0:St}{H7:Hp}{s7:C3}{Y:Nat},a0=i3 B fr (Lg y)->Inv (bc X N scope cl g G.objs.size a q) ([]++iK g s5.heap) a0 H7 s7->Y<n->W (i+1) Y H7 ->
     ∃m,m<n/\∃i t H',Inv (bc X N scope cl g G.objs.size a q) [] (i3 B fr t) H' s7/\tn i s7.heap/\(∀b∈g,H' b=Lh)/\W i m H':=λ{a0 H7 s7 Y} e7 I7 Z w7=>by
    subst e7;calc(Y,Z,i+1,Lg y,H7,I7.unpinned,T.keep _ _ _ a1 λb f o e=>(I7.pin (b,o)<|gb _<|gb _<|dh f e).1,λb f=>?_,w7,);let(o,e,d):=T.obj _ _ a1 b f;exact(I7.pin (b,o)<|gb _<|gb _<|dh f e).2.1
   refine thn (ht g G.objs.size a q _ s6 _ H6 _ I6<|step y H6 y5) λok s7 (H7,I7,q7,)=>?_
   cases ok with
   |false =>
    rw[Lm bv]at q7⊢;let(Y,Z,w7):=q7;exact L U I7 Z w7
   |true =>
    rw[Lo U]at q7⊢;refine thn (he g G.objs.size a q _ s7 _ H7 _ I7 q7) λu8 s8 (v8,H8,I8,r8,ys,c0,b3,Y,Z,w8,)=>?_
    refine thn (bO (X:=bc X N scope cl g G.objs.size a q) _ s8 _ H8 (.ref ↥a) [v8] _ [u8] (λ_ H9=>W (i+1) Y H9) I8 U (.cons r8 .nil) (_,ys,v8,U,U,c0,b3,w8,)) λ_ s9 (_,H9,I9,_,w9,)=>?_
    exact L U I9 Z w9
 calc Kf (V _ U)<|T.self _ 0 _ _ _ a5<|V _ U
def Inv.left{a:Lw (AM×Obj)}{h g:St}{i s':C3}{r H':Hp}{C:AM}{h':A1}(f:Inv X a g r i)(q:Inv X a h H' s')(d:↥i<=C)(m:H' C=Lh)(j:Go C s'.heap h'):Inv X a h H' { s' with heap:=h' }:=by
 refine q.turned (t':=s'.toks) (it:=C) (λb o n e=>(j.2 b n).trans e) m (uK<|tN f.lt d) (.inr<|tm f.sz d) (λy c e=>?_) λp k=>?_
 .let(v,o,l,_):=f.cell y c e;exact tj<|tN (bi l) d
 .exact tj<|tN (bi (f.pin p k).1) d
def bK{i:TI}(hi:PI X (.Name x px) iter i)(O:tT X N fr scope cl x)(r:X.calm=Li)(k:∀b C s H,PIf (bc X N scope cl b C s H) ifs tt)(p:∀b C s H,PE (bc X N scope cl b C s H) elt te)
  (l:∀v,Jm iter X.env v=pure v:=by intro _;rfl):PE X (.ListComp elt [(.Name x px,iter,ifs,0,)] scope pos) (Ck i fr tt te):=by
 intro a s g H Q I h;rw[Kg];calc Kh (use:=Lh) U l O.clos O.kind O.names<|thn (hi a s g H _ I h) λv M z=>thn z λG L y=>?_;let(R,b,K,J,V,e,j,T,c,B,t):=y;subst e;refine qO (RR:=λf C=>Ki (model X.prog X.w) X.A X.xe Lh (EP X a g Q) f C) O r j T c B k p t λD C P F u n (m,o,) E q=>?_
 calc(m,o,λS d=>(.ref D,F,j.left E u n d,U,q,),)
def jq{F:TI}{i:Nat}{y:Str}{d E:Pos}(hN:X.N.Nodup)(G:X.N[i]?=Lg y)(V:Loc X.env.scope y)(hi:PI X (.Name x px) iter F)(O:tT X N fr scope cl x)(Z:X.calm=Li)
  (K:∀f C s H,PIf (bc X N scope cl f C s H) ifs tt)(Y:∀f C s H,PE (bc X N scope cl f C s H) elt te)(L:∀v,Jm iter X.env v=pure v:=by intro _;rfl)
  (n:IG (.ListComp elt [(.Name x px,iter,ifs,0,)] scope pos) (Lg<|.Name y d) E.line X.env=pure true:=by rfl)(W:X.fn y=Li\/X.env.scope.names.lookup y=Lg .local:=by first|exact .inl U|exact .inr U|assumption) :
  PS X (.Assign [.Name y d] (.ListComp elt [(.Name x px,iter,ifs,0,)] scope pos) E) (AU (Ck F fr tt te)<|qC i):=by
 intro b s B H k I h;rw[Kj _ _ _ _ n];calc yN<|Jb<|yN ?_;show D2 _ X.A (do let _ ←comprehension (.ListComp elt [⟨.Name x px,iter,ifs,0⟩] scope pos) scope X.env _ (Ka []) Lj (eval iter X.env) (Lg<|assign (.Name y d) X.env)) _ _ s;calc yN<|EX (Kh (use:=Lg<|assign (.Name y d) X.env) (Q:=λ_ c=>SP X b k .next c) U L O.clos O.kind O.names<|thn (hi b s B H _ I h) λv s1 h1=>thn h1 λa0 s2 h2=>?_) (λ_ c M=>yU<|yU M) λ_ _ z=>z;let(it,f,tn,J,H2,e,g,T,l,f2,hW):=h2;subst e;refine qO (Q:=λv H1=>qC i v B H1 k.nx) (RR:=λu C=>Ki (model X.prog X.w) X.A X.xe (Lg<|assign (.Name y d) X.env) (λ_ c=>SP X b k .next c) u C) O Z g T l f2 K Y hW λD C c H' j R (m,S,) I' q=>?_
 show D2 _ X.A (assign (.Name y d) X.env<|.ref D) _ _ c;calc Ja<|mZ I' hN G V (v:=.ref D) U (λs3 I3 (a,p,ha,)=>?_) W;let t:C≠a:=by
  rcases ha with z|z
  .rw[z];exact uK<|tN g.lt j
  .let(v,o,P,_):=g.cell y a z;exact uK<|tN (bi P) j
 calc(m,S.sameBut p t,λh' r=>(_,H',g.left I3 j R r,q,),)
def  kc(c:AM->Nat->Lw V->NB)(D:AM)(i n:Nat)(d:Hp):Prop:=∃a,a<n-i/\a=n-(i+1)/\i+1<=n/\∃b,c D (i+1) b d
def  b7(c:AM->Nat->Lw V->NB)(D:AM)(i n:Nat):VK:=λy b=>∃a,b D=Lg (.lst a)/\⇑a<A8/\kc c D i n (upd b D<|.lst<|a++[y])
def kc.mk{a:AM->Nat->Lw V->NB}{D:AM}{i n:Nat}{b:Hp}{zs:Lw V}(hi:i<n)(h:a D (i+1) zs b):kc a D i n b:=(n-(i+1),∅,U,hi,zs,h,)
def b7.mk{b:AM->Nat->Lw V->NB}{D:AM}{i n:Nat}{a:Hp}{ys:Lw V}{y:V}(hi:i<n)(e:a D=Lg (.lst ys))(c:⇑ys<A8)(h:b D (i+1) (ys++[y]) (upd a D<|.lst<|ys++[y])):b7 b D i n y a:=(ys,e,c,.mk hi h,)
def bP{K:ac}{a:AM}{xs:Lw V}{g:St}{d:Hp}{Q:VK}(c:AM->Nat->Lw V->NB)(n:∀D,d D=Lh->c D 0 [] (upd d D<|.lst []))
  (l:∀D i ys H,d D=Lh->i<=⇑xs->c D i ys H->SqL K H a xs)
  (k:∀D i x ys H,d D=Lh->xs[i]?=Lg x->c D i ys H->tt (i3 g fr<|Lg x) H λb j=>if b=Li then te (i3 g fr<|Lg x) j (b7 c D i ⇑xs)else kc c D i ⇑xs j)
  (hd:∀D ys H,d D=Lh->c D ⇑xs ys H->Q (.ref D) H):rP (Itl K a) fr tt te g Q d:=by
 intro D f;calc(λi m H=>m=⇑xs-i/\i<=⇑xs/\∃ys,c D i ys H,(_,U,uk _,[],n D f,),?_,);rintro i m H ⟨rfl,hi,ys,p⟩;let q:=l D i ys H f hi p;by_cases h:i<⇑xs
 .refine .inr ((xs,xs[i],q,by simp[h],),λx o y=>?_,);let(e,y):=y;subst e;exact k D i x ys _ f (y xs q) p
 .let e:i=⇑xs:=∅
  subst e;calc .inl ((xs,q,sT _,),hd D ys H f p,)
def bL{lo:Int}{n:Nat}{f:St}{c:Hp}{Q:VK}(a:AM->Nat->Lw V->NB)(k:∀D,c D=Lh->a D 0 [] (upd c D<|.lst []))
  (j:∀D i ys H,c D=Lh->i<n->a D i ys H->tt (i3 f fr<|Lg<|.int<|lo+i) H λb h=>if b=Li then te (i3 f fr<|Lg<|.int<|lo+i) h (b7 a D i n)else kc a D i n h)
  (hd:∀D ys H,c D=Lh->a D n ys H->Q (.ref D) H):rP (Itr lo n) fr tt te f Q c:=by
 intro D g;calc(λi m H=>m=n-i/\i<=n/\∃ys,a D i ys H,(_,U,uk _,[],k D g,),?_,);rintro i m H ⟨rfl,hi,ys,p⟩;by_cases d:i<n
 .refine .inr (d,λx l y=>?_,);let(e,y):=y;subst e;subst y;exact j D i ys _ g d p
 .let e:i=n:=∅
  subst e;calc .inl (sT _,hd D ys H g p,)
end
structure lP(X:Cx)(N:Lw Str)(k:Nat)(fr:Lw Nat)(scope:C4)(cl:Lw (Str×AM)):Prop where
 clos:JY scope X.env=pure cl
 kind:scope.kind=.function
 nocell:∀y∈scope.names,y.2≠.cell
 names:∀y∈scope.names,y.2=.local->scope.names.lookup y.1=Lg .local
 len:N.length=k+⇑fr
 sub:∀(i:Nat)(y:Str),N[k+i]?=Lg y->∃j,fr[i]?=Lg j/\X.N[j]?=Lg y/\(X.env.kindOf y=Lg .cell\/X.env.kindOf y=Lg .free)/\((relabel scope X.env).names.lookup y=Lg .cell\/(relabel scope X.env).names.lookup y=Lg .free)
 cells:∀y c,cl.lookup y=Lg c->X.env.cells.lookup y=Lg c
 has:∀y,((relabel scope X.env).names.lookup y=Lg .cell\/(relabel scope X.env).names.lookup y=Lg .free)->∃c,cl.lookup y=Lg c
def fu{X:Cx}{N:Lw Str}{k:Nat}{scope:C4}(d:N.length=k)(kind:scope.kind=.function)(a:∀y∈scope.names,y.2≠.free)(b:∀y∈scope.names,y.2≠.cell)
  (names:∀y∈scope.names,y.2=.local->scope.names.lookup y.1=Lg .local):lP X N k [] scope []:=by
 let g:(relabel scope X.env).names=scope.names:=map_eq_self λy f=>by
  let z:(y.2 == JG.free)=false:= ~~~a y f
  simp[z]
 let no:∀y,¬ ((relabel scope X.env).names.lookup y=Lg .cell\/(relabel scope X.env).names.lookup y=Lg .free):=λy h=>by
  rw[g]at h;rcases h with h|h
  .exact b _ (mem_of_lookup h) U
  .exact a _ (mem_of_lookup h) U
 refine(JZ a,kind,b,names,by rw[d];rfl,λi y e=>?_,(λy c e=>by cases e),λy h=>Lp h<|no y,);let:=(IV.mp e).1;lia
def  cX(a:St)(fr:Lw Nat)(b:St):St:=b++fr.map λj=>(a[j]?).join
def  kM(J:It)(q:TG)(k:Nat)(fr:Lw Nat)(o:TT)(p:TE)(f:St)(Q:VK)(l:Hp):Prop:=∀D,l D=Lh->∃W:Nat->Nat->NB,(∃m,W 0 m<|upd l D<|.lst [])/\∀i m H,W i m H ->
 (J.stop i H/\Q (.ref D) H)\/(J.go i H/\∀x n,J.yld i H x n->∀g:St,⇑g=k->q x (cX f fr g) n λa r=>(∃d:St,⇑d=k/\a=cX f fr d)/\o a r λb j=>if b=Li then p a j λy h=>∃e,h D=Lg (.lst e)/\⇑e<A8/\∃c,c<m/\W (i+1) c (upd h D<|.lst<|e++[y])
  else ∃c,c<m/\W (i+1) c j)
def  vg(b:TI)(e:TG)(k:Nat)(fr:Lw Nat)(c:TT)(d:TE):TE:=λa H Q=>b a H λJ f=>kM J e k fr c d a Q f
section
variable{elt iter tg:Ew}{ifs:Lw Ew}{scope:C4}{cl:Lw (Str×AM)}{N:Lw Str}{k:Nat}{fr:Lw Nat}{gt:TG}{tt:TT}{te:TE}
def pq{I:Lw (AM×Obj)}{B:St}{a:C3}{q:Hp}{it:AM}{g:Lw AM}{tn:Nat->A1->Prop}{J:It}{Q:VK}{E:zt->C3->Prop}{RR:zt->AM->Ju->C3->Prop}
  (O:lP X N k fr scope cl)(hc:X.calm=Li)(h:Inv X I B q a)(T:Turn X.prog X.w X.K tg J g it tn)(a2:tn 0 a.heap)(M:∀b∈g,kX X I q b)
  (ht:∀g C s H,PIf (bc X N scope cl g C s H) ifs tt)(he:∀g C s H,PE (bc X N scope cl g C s H) elt te)
  (hg:∀g C s H,PG (bc X N scope cl g C s H) tg gt)(hW:kM J gt k fr tt te B Q q)
  (fin:∀D C s' H',↥a<=C->H' C=Lh->(∃m,s'.heap.Ns C m)->Inv X I B H' s'->Q (.ref D) H'->RR (.ref D) C (.ok .next) s') :
  D2 (model X.prog X.w) X.A (Ka []) (λb3 s3=>D2 (model X.prog X.w) X.A (Kb scope X.env.globals cl [] X.env.qual Lh .none (Lg X.env)) (λcenv s4 =>
   Jv (model X.prog X.w) X.A (.compStart (.ListComp elt [(tg,iter,ifs,0,)] scope pos) 0 (.ref it) b3 { cenv with scope:=relabel scope X.env }) (RR b3 cenv.locals) s4) E s3) E a:=by
 refine Kc (Kd O.nocell (by intro y hy;simp at hy) (λh1 a3 R=>?_) O.kind);dsimp only at a3 R⊢;generalize hG:a.heap.push { cls:=.type "list",dict:=Lh,data:=.seq ([]:Lw zt).toArray }=G at a3 R⊢;let hC:G.objs.size=↥a+1:=by rw[←hG,AC]
 let F:∀b o,a.heap.get? b=Lg o->h1.get? b=Lg o:=λb o e=>R.extBut b o (tj (by rw[hC];exact u0 (bi e))) (am _<|hG ▸ am _ e)
 let za:h1.get? ↥a=Lg { cls:=.type "list",data:=.seq ([]:Lw zt).toArray 0 }:=R.extBut _ _ (tj (by rw[hC];exact vi _)) (am _<|hG ▸ ii _ U);let hD:q ↥a=none:=h.fresh;let P:(bc X N scope cl g G.objs.size a q).Ok:=by
  refine(h.ok.mod,O.kind,h.ok.glob,h.ok.blt,by show ↥a<=G.objs.size;rw[hC];exact u3 _,λy z c e1 e2=>h.ok.inj y z c (O.cells y c e1)<|O.cells z c e2,λy hy=>O.has y hy,λy c z=>Lp (show Lj=Li from z) bv,h.ok.hd,h.ok.frames,.inl U,
   λb f=>(?_,λy c e=>(M b f).2.2.2.2.1 y c<|O.cells y c e,),h.bs,tm h.ok.bsz h.sz,λb o e f=>?_,λb f z=>?_,h.stack,h.stkFree,)
  .let(o,e,_):=T.obj _ _ a2 b f;show b≠G.objs.size;exact tj (by rw[hC];exact u0 (bi e))
  .rcases(M b f).2.2.2.1 with z|z
   .exact h.ok.noex b o e z
   .exact Lp (tN (bi e)<|tm h.ok.bsz z)<|vd _
  .rcases dy.mp (h.stkSub b z)with z|z
   .exact(M b f).2.1 z
   .exact(M b f).2.2.1 z
 let kb:∀{H':Hp},(∀b∈g,H' b=Lh)->∀b∈g,kX (bc X N scope cl g G.objs.size a q) [] H' b:=λhn b f =>
  (hn b f,(P.exf b f).1,P.exfs b f,.inl f,(P.exf b f).2,λp hp=>Lp (show p∈([]:Lw (AM×Obj))from hp) (by simp),)
 let I':Inv (bc X N scope cl g G.objs.size a q) [] (cX B fr<|py k Lh) (upd q ↥a<|.lst []) { a with heap:=h1,toks:=a.toks+⇑([]:Lw (Str×zt)) }:=by
  refine(P,U,h.bare,Un.laid F (sT _) hD,(_,a3,λi y v e1 e2 e3=>?_,),λy c e=>?_,?_,λy c e=>?_,λp hp=>Lp (show p∈([]:Lw (AM×Obj))from hp) (by simp),h.hok.laid F (sT _) (uk _,[],0,.nil,za,),?_,)
  .by_cases a7:i<k
   .let x:(py k Lh++fr.map λj=>(B[j]?).join)[i]?=Lg (Lg v):=e2;rw[gi (by rw[jZ];exact a7),ly,Lo a7]at x;cases x
   .let(j,q1,q2,q3,q4):=O.sub (i-k) y (by rw[show k+(i-k)=i by lia];exact e1);let x:(B[j]?).join=Lg v:=by
     have:(py k Lh++fr.map λj=>(B[j]?).join)[i]?=Lg (Lg v):=e2;rw[gn (by rw[jZ];lia),jZ,dV,q1]at this;exact gl this
    let e4:B[j]?=Lg (Lg v):=by
     cases z:B[j]? with
     |none=>rw[z]at x;cases x
     |some t=>rw[z]at x;exact Lu Lg x
    let(m,_,hl):=h.loc;let c0:Vis X.env.scope y:=.inr q3;let(u,r,l):=hl j y v q2 e4 c0;calc(u,r,.inr (q4,?_,),);let(c',a8):=O.has y q4;rcases l with⟨k,_⟩|⟨_,c,ec,ic⟩
    .rcases q3 with z|z
     .rw[z]at k;cases k
     .rw[z]at k;cases k
    .let:=O.cells y c' a8;let e':c=c':=gl<|ec.symm.trans this;let(o,ho,hd):=ic;rw[e']at ho;exact(c',a8,o,F c' o ho,hd,)
  .let(v,o,ho,hd):=h.cell y c<|O.cells y c e;exact(v,o,F c o ho,hd,)
  .show upd q ↥a (.lst []) G.objs.size=Lh;rw[ay (uK (by rw[hC];exact vi _))];exact h.hok.fresh (by rw[hC];exact u3 _)
  .let(v,o,ho,hd):=h.cell y c<|O.cells y c e;rw[ay (tj<|bi ho)];exact h.freeC y c<|O.cells y c e
  .show⇑(cX B fr<|py k Lh)=N.length;rw[O.len];simp[cX]
 let a6:tn 0 h1:=T.keep _ _ _ a2 λb f o e=>F b o e
 let S:∀s3:C3,s3={ a with heap:=h1,toks:=a.toks+⇑([]:Lw (Str×zt)) } ->
   Jv (model X.prog X.w) X.A (.compLoop (.ListComp elt [(tg,iter,ifs,0,)] scope pos) 0 (.ref it) (.ref ↥a)<|JX scope cl G.objs.size X.env) (RR (.ref ↥a) G.objs.size) s3:=by
  rintro s3 rfl;let(W,(m0,w0),turn):=hW _ hD
  refine pk (λn s'=>∃i V H',V.length=k/\Inv (bc X N scope cl g G.objs.size a q) [] (cX B fr V) H' s'/\tn i s'.heap/\(∀b∈g,H' b=Lh)/\W i n H') ?_ m0
   (0,py k Lh,_,jZ,I',a6,λb f=>by
    rw[ay (by let(o,e,_):=T.obj _ _ a2 b f;exact tj (bi e))];exact(M b f).1,w0,)
  rintro n s' ⟨i,V,H',c2,I3,a5,b0,w3⟩;rcases turn i n H' w3 with⟨b4,qn⟩|⟨go,step⟩
  .refine thn (T.done (bc X N scope cl g G.objs.size a q) U U U hc i [] s' _ H' _ I3 (kb b0) a5 b4) λr s4 (hr,I4,)=>?_
   subst hr;let(m,Z,_):=I4.loc;refine fin _ _ s4 H' (by rw[hC];exact u3 _) I4.free (m,Z,) (h.call' (ch:=g) I4.os I4.base I4.hok I4.bare λb f=>?_) qn;exact((M b f).2.2.2.1,(M b f).2.1,(M b f).2.2.2.2.1,(M b f).2.2.2.2.2,)
  .refine thn (T.item (bc X N scope cl g G.objs.size a q) U U U hc i [] s' _ H' _ I3 (kb b0) a5 go) λr s4 (u,hr,h4,)=>?_
   subst hr;refine thn h4 λ_ s5 (y,H5,I5,r5,y5,a1,c3,)=>?_
   let c4:=I5.pinned (kb c3)<|T.obj _ _ a1;refine thn (hg g G.objs.size a q _ s5 _ H5 y u _ c4 r5<|step y H5 y5 V c2) λ_ s6 (c5,H6,I6,(a4,C7,e6,),q6,)=>?_
   subst e6
   let L:∀{a0:St}{H7:Hp}{s7:C3}{Y:Nat},a0=cX B fr a4->Inv (bc X N scope cl g G.objs.size a q) ([]++iK g s5.heap) a0 H7 s7->Y<n->W (i+1) Y H7 ->
     ∃m,m<n/\∃i V H',V.length=k/\Inv (bc X N scope cl g G.objs.size a q) [] (cX B fr V) H' s7/\tn i s7.heap/\(∀b∈g,H' b=Lh)/\W i m H':=λ{a0 H7 s7 Y} e7 I7 Z w7=>by
    subst e7;calc(Y,Z,i+1,a4,H7,C7,I7.unpinned,T.keep _ _ _ a1 λb f o e=>(I7.pin (b,o)<|gb _<|gb _<|dh f e).1,λb f=>?_,w7,);let(o,e,d):=T.obj _ _ a1 b f;exact(I7.pin (b,o)<|gb _<|gb _<|dh f e).2.1
   refine thn (ht g G.objs.size a q _ s6 _ H6 _ I6 q6) λok s7 (H7,I7,q7,)=>?_
   cases ok with
   |false =>
    rw[Lm bv]at q7⊢;let(Y,Z,w7):=q7;exact L U I7 Z w7
   |true =>
    rw[Lo U]at q7⊢;refine thn (he g G.objs.size a q _ s7 _ H7 _ I7 q7) λu8 s8 (v8,H8,I8,r8,ys,c1,b9,Y,Z,w8,)=>?_
    refine thn (bO (X:=bc X N scope cl g G.objs.size a q) _ s8 _ H8 (.ref ↥a) [v8] _ [u8] (λ_ H9=>W (i+1) Y H9) I8 U (.cons r8 .nil) (_,ys,v8,U,U,c1,b9,w8,)) λ_ s9 (_,H9,I9,_,w9,)=>?_
    exact L U I9 Z w9
 calc Kf (S _ U)<|T.self _ 0 _ _ _ a6<|S _ U
def fz{i:TI}(hi:PI X tg iter i)(O:lP X N k fr scope cl)(u:X.calm=Li)(r:∀b C s H,PG (bc X N scope cl b C s H) tg gt)(l:∀b C s H,PIf (bc X N scope cl b C s H) ifs tt)(t:∀b C s H,PE (bc X N scope cl b C s H) elt te)
  (n:∀v,Jm iter X.env v=pure v:=by intro _;rfl):PE X (.ListComp elt [(tg,iter,ifs,0,)] scope pos) (vg i gt k fr tt te):=by
 intro a s g H Q I h;rw[Kg];calc Kh (use:=Lh) U n O.clos O.kind O.names<|thn (hi a s g H _ I h) λv P B=>thn B λK M z=>?_;let(S,b,L,J,W,e,j,T,c,E,x):=z;subst e;refine pq (RR:=λf C=>Ki (model X.prog X.w) X.A X.xe Lh (EP X a g Q) f C) O u j T c E l t r x λD C R G y o (m,p,) F q=>?_
 calc(m,p,λV d=>(.ref D,G,j.left F y o d,U,q,),)
def di{K:ac}{a:AM}{xs:Lw V}{j:St}{f:Hp}{Q:VK}(c:AM->Nat->Lw V->NB)(t:∀D,f D=Lh->c D 0 [] (upd f D<|.lst []))
  (s:∀D i ys H,f D=Lh->i<=⇑xs->c D i ys H->SqL K H a xs)
  (r:∀D i x ys H,f D=Lh->xs[i]?=Lg x->c D i ys H->∀n:St,⇑n=k->gt x (cX j fr n) H λd u=>(∃g:St,⇑g=k/\d=cX j fr g)/\tt d u λb o=>if b=Li then te d o (b7 c D i ⇑xs)else kc c D i ⇑xs o)
  (hd:∀D ys H,f D=Lh->c D ⇑xs ys H->Q (.ref D) H):kM (Itl K a) gt k fr tt te j Q f:=by
 intro D h;calc(λi m H=>m=⇑xs-i/\i<=⇑xs/\∃ys,c D i ys H,(_,U,uk _,[],t D h,),?_,);rintro i m H ⟨rfl,hi,ys,p⟩;let q:=s D i ys H h hi p;by_cases l:i<⇑xs
 .refine .inr ((xs,xs[i],q,by simp[l],),λx v y=>?_,);let(e,y):=y;subst e;exact r D i x ys _ h (y xs q) p
 .let e:i=⇑xs:=∅
  subst e;calc .inl ((xs,q,sT _,),hd D ys H h p,)
end
def lK{X:Cx}{K:ac}{a:Lw Ew}{k:Nat}{t:TGs}{n:Nat}{pos:Pos}(e:X.K=K)(d:X.calm=Li)(h:PGs X a t)(c:⇑(IY a X.env)=n:=by rfl)(b:(IY a X.env).findIdx? (·.1)=none:=by rfl):PG X (.Tuple a k pos) (Eg K n t):=e ▸ fb d h c b
end _L
namespace Srt
open PySem PySem.W PyProof.Rows
def  Ok(n:Nat)(lt:Nat->Nat->Bool){b:Type}:KasT b->(b->Prop)->Prop
 | .ret a,Q=>Q a
 | .ask i j k,Q=>i<n/\j<n/\Ok n lt (k<|lt i j) Q
def Ok.mono{n:Nat}{lt:Nat->Nat->Bool}{b:Type}:∀{t:KasT b}{Q c:b->Prop},Ok n lt t Q->(∀a,Q a->c a)->Ok n lt t c
 | .ret _,_,_,h,f=>f _ h
 | .ask _ _ _,_,_,h,f=>(h.1,h.2.1,Ok.mono h.2.2 f,)
def Ok.bind{n:Nat}{lt:Nat->Nat->Bool}{c b:Type}{f:c->KasT b}{Q:b->Prop}:∀{t:KasT c},Ok n lt t (λa=>Ok n lt (f a) Q)->Ok n lt (t.bind f) Q
 | .ret _,h=>h
 | .ask _ _ _,h=>(h.1,h.2.1,Ok.bind h.2.2,)
section
variable{n:Nat}{lt:Nat->Nat->Bool}
abbrev g(p:Array Nat)(i:Nat):Nat:=p.getD i 0
def tU(p:Array Nat)(i:Nat):g p i=(p[i]?).getD 0:=by simp[g,Array.getD_eq_getD_getElem?]
def  Bd(n:Nat)(p:Array Nat):Prop:=0<n/\∀i,g p i<n
def wG{p:Array Nat}{i j:Nat}(a:j<=p.size)(k:Nat):g (kas_rev p i j) k=if i<=k/\k<j then g p (i+j-1-k)else g p k:=by
 rw[tU,tU,tU];unfold kas_rev;rw[getElem?_mirror_all a k];split <;> rfl
def pw{p:Array Nat}{a d:Nat}(b:a<p.size)(c:d<=a)(k:Nat):g (bubble p a d) k=if k=a-d then g p a else if a-d<k/\k<=a then g p (k-1)else g p k:=by
 rw[tU,tU,tU,tU,getElem?_bubble b d c k]
 repeat' split
 all_goals rfl
def pA{p:Array Nat}{i j:Nat}(b:Bd n p)(a:j<=p.size):Bd n (kas_rev p i j):=(b.1,λk=>by
 rw[wG a];split
 .exact b.2 _
 .exact b.2 _,)
def xE{p:Array Nat}{a d:Nat}(b:Bd n p)(f:a<p.size)(g:d<=a):Bd n (bubble p a d):=(b.1,λk=>by
 rw[pw f g];by_cases c:k=a-d
 .rw[Lo c];exact b.2 _
 .rw[Lm c];by_cases e:a-d<k/\k<=a
  .rw[Lo e];exact b.2 _
  .rw[Lm e];exact b.2 _,)
def gR(p:Array Nat)(i j:Nat):(kas_rev p i j).size=p.size:=mirror_size _ _ _ _
def mE(p:Array Nat)(i j:Nat):(kas_rev p i j).Perm p:=mirror_perm _ _ _ _
def  Up(lt:Nat->Nat->Bool)(p:Array Nat)(k:Nat):Prop:=∀i j,i<=j->j<k->lt (g p j) (g p i)=Lj
def  Dn(lt:Nat->Nat->Bool)(p:Array Nat)(k:Nat):Prop:=∀i j,i<=j->j<k->lt (g p i) (g p j)=Lj
structure Ord(lt:Nat->Nat->Bool):Prop where
 tr:∀a b c,lt b a=Lj->lt c b=Lj->lt c a=Lj
 as:∀a b,lt a b=Li->lt b a=Lj
def Ord.rf{lt:Nat->Nat->Bool}(o:Ord lt)(a:Nat):lt a a=false:=by
 cases h:lt a a with
 |false=>rfl
 |true=>have:=o.as a a h;rw[h]at this;calc this
def A9(o:Ord lt){p:Array Nat}{k:Nat}(h:Up lt p k)(d:1<=k)(b:lt (g p k) (g p<|k-1)=Lj):Up lt p (k+1):=λi j a f=>by
 by_cases e:j=k
 .subst e;by_cases c:i=j
  .subst c;exact o.rf _
  .exact o.tr _ (g p<|j-1) _ (h i (j-1) ∅ ∅) b
 .exact h i j a ∅
def mF(o:Ord lt){p:Array Nat}{k:Nat}(h:Dn lt p k)(d:1<=k)(b:lt (g p<|k-1) (g p k)=Lj):Dn lt p (k+1):=λi j a f=>by
 by_cases e:j=k
 .subst e;by_cases c:i=j
  .subst c;exact o.rf _
  .exact o.tr _ (g p<|j-1) _ b<|h i (j-1) ∅ ∅
 .exact h i j a ∅
def C8(o:Ord lt)(p:Array Nat):Up lt p 1:=λi j c d=>by
 let b:i=0:=∅
 let a:j=0:=∅
 subst b;subst a;calc o.rf _
def xF(p:Array Nat){k:Nat}(a:k<=p.size)(h:Dn lt p k):Up lt (kas_rev p 0 k) k:=λi j c b=>by
 rw[wG a,wG a,Lo (uk _,b,),Lo (uk _,∅,)];calc h _ _ ∅ ∅
def  Eqs(lt:Nat->Nat->Bool)(p:Array Nat)(a b:Nat):Prop:=∀i j,a<=i->i<b->a<=j->j<b->lt (g p i) (g p j)=Lj
def lQ(o:Ord lt){p:Array Nat}{a b k:Nat}(l:b<=p.size)(n:b<=k)(e:Eqs lt p a b)(h:Dn lt p k):Dn lt (kas_rev p a b) k:=λi j d f=>by
 let same:∀m,lt (g (kas_rev p a b) m) (g p m)=Lj/\lt (g p m) (g (kas_rev p a b) m)=false:=λm=>by
  rw[wG l];by_cases c:a<=m/\m<b
  .rw[Lo c];exact(e _ _ ∅ ∅ c.1 c.2,e _ _ c.1 c.2 ∅ ∅,)
  .rw[Lm c];exact(o.rf _,o.rf _,)
 calc o.tr _ (g p j) _ (same j).2 (o.tr _ (g p i) _ (h i j d f) (same i).1) |> λz=>z
def C9(o:Ord lt){p:Array Nat}(b:Bd n p):∀(f k:Nat),1<=k->Up lt p k->Ok n lt (kas_asc p f k) (λm=>k<=m/\m<=k+f/\Up lt p m/\(m<k+f->lt (g p m) (g p<|m-1)=Li))
 |0,k,h1,h=>(sT _,sT _,h,λz=>Lp z<|vd _,)
 |f+1,k,h1,h=>by
  calc(b.2 _,b.2 _,?_,);cases c:lt (p.getD k 0) (p.getD (k-1) 0) with
  |true=>exact(sT _,∅,h,λ_=>c,)
  |false =>
   calc Ok.mono (C9 o b f (k+1) ∅ (A9 o h h1 c)) λm (i,e,d,a,)=>(∅,∅,d,λz=>a ∅,)
def Ba(o:Ord lt):∀(f:Nat)(p:Array Nat)(k q:Nat),Bd n p->q+1<=k->k+f<=p.size->Dn lt p k->Eqs lt p (k-(q+1)) k ->
  Ok n lt (kas_desc f p k q) (λr=>r.1.Perm p/\r.1.size=p.size/\Bd n r.1/\k<=r.2.1/\r.2.1<=k+f/\Dn lt r.1 r.2.1/\r.2.2+1<=r.2.1/\Eqs lt r.1 (r.2.1-(r.2.2+1)) r.2.1)
 |0,p,k,q,b,hq,hs,h,e=>(Lz _,rfl,b,sT _,sT _,h,hq,e,)
 |f+1,p,k,q,b,hq,hs,h,e=>by
  calc(b.2 _,b.2 _,?_,);let one:∀(z:Array Nat),Eqs lt z k (k+1):=λz i j l m a x=>by
   let y:i=k:=∅
   let s:j=k:=∅
   subst y;subst s;exact o.rf _
  cases c:lt (p.getD k 0) (p.getD (k-1) 0) with
  |true =>
   dsimp only;rw[Lo rfl];let B:=o.as _ _ c;by_cases w:q>0
   .rw[Lo w];let A:k<=p.size:=∅
    let E:Dn lt (kas_rev p (k-(q+1)) k) (k+1):=lQ o A ∅ e (mF o h ∅ B);refine Ok.mono (Ba o f _ (k+1) 0 (pA b A) ∅ (by rw[gR];lia) E (one _)) λr (l,m,a,x,C,v,u,t,)=>(l.trans<|mE _ _ _,by rw[m,gR],a,∅,∅,v,u,t,)
   .rw[Lm w];refine Ok.mono (Ba o f p (k+1) 0 b ∅ ∅ (mF o h ∅ B) (one _)) λr (l,m,a,x,C,v,u,t,)=>(l,m,a,∅,∅,v,u,t,)
  |false =>
   dsimp only;rw[Lm bv];calc(b.2 _,b.2 _,?_,);cases d:lt (p.getD (k-1) 0) (p.getD k 0) with
   |true=>exact(Lz _,rfl,b,sT _,vl _ _,h,hq,e,)
   |false =>
    dsimp only;rw[Lm bv];let D:Eqs lt p (k+1-(q+1+1)) (k+1):=λi j l m a x=>by
     have z1:k+1-(q+1+1)=k-(q+1):=∅
     rw[z1]at l a;by_cases y:i=k
     .subst y;by_cases s:j=i
      .subst s;exact o.rf _
      .exact o.tr _ (g p<|i-1) _ (e _ _ ∅ ∅ a ∅) c
     .by_cases s:j=k
      .subst s;exact o.tr _ (g p<|j-1) _ d<|e _ _ l ∅ ∅ ∅
      .exact e _ _ l ∅ a ∅
    calc Ok.mono (Ba o f p (k+1) (q+1) b ∅ ∅ (mF o h ∅ d) D) λr (l,m,a,x,C,v,u,t,)=>(l,m,a,∅,∅,v,u,t,)
def Ez(o:Ord lt){p:Array Nat}{k a:Nat}(b:Bd n p)(c:1<=k)(f:k<=a)(e:a<=p.size)(h:Dn lt p k) :
  Ok n lt (kas_tail3 k a p) (λr=>r.2.Perm p/\r.2.size=p.size/\Bd n r.2/\1<=r.1/\r.1<=a/\Up lt r.2 r.1):=by
 unfold kas_tail3;calc Ok.bind<|Ok.mono (C9 o (pA b ∅) (a-k) k c<|xF p ∅ h) λm (i,g,d,_,)=>?_;calc(mE _ _ _,gR _ _ _,pA b ∅,∅,∅,d,)
def EA(o:Ord lt){p:Array Nat}{k a:Nat}(b:Bd n p)(D:1<=k)(C:k<a)(B:a<=p.size)(h:Dn lt p (k+1)) :
  Ok n lt (kas_descPart k a p) (λr=>r.2.Perm p/\r.2.size=p.size/\Bd n r.2/\1<=r.1/\r.1<=a/\Up lt r.2 r.1):=by
 unfold kas_descPart;let one:Eqs lt p (k+1-(0+1)) (k+1):=λi j t s m A=>by
  let y:i=k:=∅
  let x:j=k:=∅
  subst y;subst x;exact o.rf _
 calc Ok.bind<|Ok.mono (Ba o (a-(k+1)) p (k+1) 0 b ∅ ∅ h one) λr (t,s,m,A,F,w,E,z,)=>?_;by_cases u:r.2.2>0
 .rw[Lo u];let v:r.2.1<=r.1.size:=∅
  refine Ok.mono (Ez o (pA m v) ∅ ∅ (by rw[gR];lia) (lQ o v (sT _) z w)) λq (l,g,f,e,d,c,)=>(l.trans<|(mE _ _ _).trans t,by rw[g,gR,s],f,e,d,c,)
 .rw[Lm u];calc Ok.mono (Ez o m ∅ ∅ ∅ w) λq (l,g,f,e,d,c,)=>(l.trans t,by rw[g,s],f,e,d,c,)
def F5(o:Ord lt){p:Array Nat}{a:Nat}(b:Bd n p)(H:1<=a)(v:a<=p.size) :
  Ok n lt (kas_count a p) (λr=>r.2.Perm p/\r.2.size=p.size/\Bd n r.2/\1<=r.1/\r.1<=a/\Up lt r.2 r.1):=by
 unfold kas_count;calc Ok.bind<|Ok.mono (C9 o b (a-1) 1 (sT _)<|C8 o p) λm (l,I,f,G,)=>?_;by_cases s:m=a
 .subst s;rw[Lo (beq_self_eq_true m)];exact(Lz _,rfl,b,l,sT _,f,)
 .rw[Lm (~~~s)];let w:lt (g p m) (g p<|m-1)=true:=G ∅;let u:=o.as _ _ w;by_cases t:m>1
  .rw[Lo t];calc(b.2 _,b.2 _,?_,);cases c:lt (p.getD 0 0) (p.getD (m-1) 0) with
   |true=>exact(Lz _,rfl,b,l,∅,f,)
   |false =>
    dsimp only;rw[Lm bv];let d:Eqs lt p 0 m:=λi j _ hi _ h=>o.tr _ (g p<|m-1) _ (f j (m-1) ∅ ∅) (o.tr _ (g p 0) _ c (f 0 i (uk _) hi) |> λz=>z) |> λz=>z
    let k:Dn lt p (m+1):=mF o (λi j q h=>d i j (uk _) ∅ (uk _) h) ∅ u;refine Ok.mono (EA o (pA b ∅) l ∅ (by rw[gR];lia) (lQ o ∅ ∅ d k)) λr (F,E,D,C,B,A,)=>(F.trans<|mE _ _ _,by rw[E,gR],D,C,B,A,)
  .rw[Lm t];let e:m=1:=∅
   subst e;let k:Dn lt p (1+1):=mF o (λi j q h=>by
    let y:i=0:=∅
    let x:j=0:=∅
    subst y;subst x;exact o.rf _) (sT _) u
   calc EA o b (sT _) ∅ v k
def Dc(o:Ord lt){p:Array Nat}{k:Nat}(b:Bd n p)(h:Up lt p k):∀(f l r:Nat),l<=r->r<=k->r-l<=f->(∀i,i<l->lt (g p k) (g p i)=Lj)->(∀i,r<=i->i<k->lt (g p k) (g p i)=Li) ->
  Ok n lt (kas_place p k f l r) (λm=>m<=k/\(∀i,i<m->lt (g p k) (g p i)=Lj)/\∀i,m<=i->i<k->lt (g p k) (g p i)=Li)
 |0,l,r,h1,h2,h3,hl,hr=>(∅,hl,λi j a=>hr i ∅ a,)
 |f+1,l,r,h1,h2,h3,hl,hr=>by
  unfold kas_place;by_cases c:l ≥ r
  .rw[Lo c];exact(∅,hl,λi j a=>hr i ∅ a,)
  .rw[Lm c];calc(b.2 _,b.2 _,?_,);cases d:lt (p.getD k 0) (p.getD ((l+r) / 2) 0) with
   |true =>
    dsimp only;rw[Lo rfl];refine Dc o b h f l ((l+r) / 2) ∅ ∅ ∅ hl λi j a=>?_
    cases e:lt (g p k) (g p i) with
    |true=>rfl
    |false =>
     have z:=o.tr _ _ _ (h ((l+r) / 2) i j a) e;rw[d]at z;exact z.symm
   |false =>
    dsimp only;rw[Lm bv];calc Dc o b h f ((l+r) / 2+1) r ∅ h2 ∅ (λi j=>?_) hr;calc o.tr _ (g p<|(l+r) / 2) _ (h i ((l+r) / 2) ∅ ∅) d
def EB(o:Ord lt):∀(f:Nat)(p:Array Nat)(k:Nat),Bd n p->k+f<=p.size->Up lt p k->Ok n lt (kas_bin f p k) (λr=>r.Perm p/\r.size=p.size/\Bd n r/\Up lt r (k+f))
 |0,p,k,b,hs,h=>(Lz _,rfl,b,h,)
 |f+1,p,k,b,hs,h=>by
  unfold kas_bin;calc Ok.bind<|Ok.mono (Dc o b h k 0 k (uk _) (sT _) ∅ (λi z=>Lp z<|MG _) λi A m=>Lp m ∅) λl (A,m,y,)=>?_;let d:k<p.size:=∅
  let e:k-l<=k:=Nat.sub_le _ _;let t:k-(k-l)=l:=∅
  let up:Up lt (bubble p k<|k-l) (k+1):=λi j q B=>by
   rw[pw d e,pw d e,t];by_cases s:j=l
   .rw[Lo s];by_cases a:i=l
    .rw[Lo a];exact o.rf _
    .rw[Lm a,Lm ∅];exact m i ∅
   .rw[Lm s];by_cases a:i=l
    .rw[Lo a,Lo ∅];exact o.as _ _<|y (j-1) ∅ ∅
    .rw[Lm a];by_cases g:l<j/\j<=k
     .rw[Lo g];by_cases c:l<i/\i<=k
      .rw[Lo c];exact h (i-1) (j-1) ∅ ∅
      .rw[Lm c];exact h i (j-1) ∅ ∅
     .rw[Lm g];by_cases c:l<i/\i<=k
      .exact Lp g ∅
      .rw[Lm c];exact h i j q ∅
  refine Ok.mono (EB o f _ (k+1) (xE b d e) (by rw[bubble_size];lia) up) λr (x,w,v,u,)=>(x.trans<|bubble_perm _ _ _,by rw[w,bubble_size],v,?_,)
  let:k+(f+1)=k+1+f:=∅
  rw[this];calc u
def ok_sort(o:Ord lt)(a:1<=n):Ok n lt (kas_sort n) (λr=>r.Perm (Fk<|bn n)/\r.size=n/\Up lt r n):=by
 unfold kas_sort;let b:Bd n (Fk<|bn n):=⟨a,λi=>by
  rw[tU];simp only[List.getElem?_toArray];cases e:(bn n)[i]? with
  |none=>exact a
  |some v =>
   let:=ia.mp<|IW e;simpa using this⟩
 let l:(Fk<|bn n).size=n:=by simp
 calc Ok.bind<|Ok.mono (F5 o b a ∅) λr (g,u,k,t,s,d,)=>?_;by_cases c:r.1<n
 .rw[Lo c];let h:max r.1 1=r.1:=∅
  rw[h];refine Ok.mono (EB o (n-r.1) r.2 r.1 k ∅ d) λq (j,p,m,f,)=>(j.trans g,∅,?_,)
  let:r.1+(n-r.1)=n:=∅
  rw[this]at f;exact f
 .rw[Lm c];let e:r.1=n:=∅
  rw[e]at d;calc(g,∅,d,)
end
end Srt
namespace _L
open PySem PySem.Spec PySem.W PyProof.Rows
def  ltP(p q:Int×Int):Bool:=Lk (p.1<q.1) || (Lk (p.1=q.1) && decide (p.2<q.2))
def Bb(ps:Lw (Int×Int)):Srt.Ord λi j=>ltP (ps.getD i (0,0)) (ps.getD j (0,0)) where
 tr:=λa b c e d=>by
  generalize ps.getD a (0,0)=x at e⊢;generalize ps.getD b (0,0)=y at e d;generalize ps.getD c (0,0)=z at d⊢;simp only[ltP,Mf,decide_eq_false_iff_not,xc]at e d⊢;lia
 as:=λa b h=>by
  generalize ps.getD a (0,0)=x at h⊢;generalize ps.getD b (0,0)=y at h⊢;simp only[ltP,Bool.or_eq_true,decide_eq_true_eq,wF,Mf,decide_eq_false_iff_not,xc]at h⊢;lia
def qP{n:Nat}{lt:Nat->Nat->Bool}{c:Type}{b:Nat->Nat->(Bool->C3->Prop)->C3->Prop}{s:C3}(d:∀i j C,i<n->j<n->C (lt i j) s->b i j C s):∀{t:KasT c}{Q:c->C3->Prop},Srt.Ok n lt t (λa=>Q a s)->t.kasWp b Q s
 | .ret _,_,h=>h
 | .ask i j _,_,h=>d i j _ h.1 h.2.1<|qP d h.2.2
variable{prog:zA}{w:zz}{A:C2}{E:zt->C3->Prop}{s:C3}
def ze{x y:AM}{a b c d:Int}{k j i g:Tok}{Q:Bool->C3->Prop}(o:IsTup s.heap x #[.int a k,.int b j])(n:IsTup s.heap y #[.int c i,.int d g])(h:Q (ltP (a,b) (c,d)) s) :
  D2 (model prog w) A (keyLt' (tuples' Li) (.ref x)<|.ref y) Q E s:=by
 let(v,q,_,B,t):=o;let(u,p,_,z,r):=n;calc kat_lt q t p r ?_;refine kat_cons<|AL<|kat_go (λf=>kat_yes<|kat_cons<|AL<|kat_go (λl=>kat_yes<|kat_nil ?_) λl=>kat_no<|kat_one _ _<|lt_int ?_) λf=>kat_no ?_
 .let z1:a=c:= ~~~f
  let m:b=d:= ~~~l
  let e:ltP (a,b) (c,d)=Lk ((#[zt.int a k,zt.int b j]:Array zt).size<(#[zt.int c i,zt.int d g]:Array zt).size):=by
   subst z1;subst m;simp[ltP]
  rw[e]at h;exact h
 .let z1:a=c:= ~~~f
  let e:ltP (a,b) (c,d)=Lk (b<d):=by subst z1;simp[ltP]
  rw[e]at h;exact h
 .let z1:a≠c:= ~~~f
  let e:ltP (a,b) (c,d)=Lk (a<c):=by simp[ltP,z1]
  rw[e]at h;calc oneLt_int h
def xG{a:AM}{vs:Lw zt}{n:Nat}{G:Array Nat->Prop}{P:PySem.Fin->C3->Prop}(q:s.heap.get? a=Lg (seqObj "list" vs.toArray n)) (x:⇑vs<64)
  (H:2<=⇑vs->∀s':C3,(∀b o,b≠a->s.heap.get? b=Lg o->s'.heap.get? b=Lg o)->∀T,D2 (model prog w) A (keyKind' vs.toArray) (fun y B=>(kas_sort ⇑vs).kasWp (kas_ask prog w A y vs) (λp I=>I=s'/\G p) B) T s')
  (h:∀out:Array zt,((⇑vs<2/\out=vs.toArray)\/∃p:Array Nat,p.size=⇑vs/\G p/\out=Fk (p.toList.map λi=>vs.getD i zt.none))->P (.done<|.ret .none) { s with heap:=sortedHeap s.heap a vs out }) :
  D2 (model prog w) A (Jl.«list.sort» ([.ref a],[],)) P E s:=by
 let D:a<↥s:=bi q;let J:vs.toArray.size<=A8:=by rw[eG,Js];lia
 rw[list_sort_plain];calc yN<|listItems_at q U<|yN<|listUpdate_at q U ?_ J<|uk _;let(t,l):∃t,(s.heap.update a<|on λ_=>#[]).get? a=Lg (seqObj "list" #[] t):=(_,get?_update_seq q<|λ_=>#[],);refine yN (seqEpoch_at l U<|yN<|Kk (yN<|Kl (zb ?_)<|uk _) (by show ⇑vs<=_;rw[Js];lia));generalize f:({ s with heap:=((s.heap.update a<|on λ_=>#[]).push<|seqObj "tuple" vs.toArray 0).push (seqObj "list" #[] 0) }:C3)=s6;let d:s6.heap.get? a=Lg (seqObj "list" #[] t):=by
  subst f;show(((s.heap.update a<|on λ_=>#[]).push<|seqObj "tuple" vs.toArray 0).push<|seqObj "list" #[] 0).get? a=_;rw[zn _ _ _ (by rw[size_push',wE];exact tj (u0 D)),zn _ _ _ (by rw[wE];exact tj D)];exact l
 let keep:∀b o,b≠a->s.heap.get? b=Lg o->s6.heap.get? b=Lg o:=λb o M e=>by
  subst f;let m:b<↥s:=bi e;show(((s.heap.update a<|on λ_=>#[]).push<|seqObj "tuple" vs.toArray 0).push<|seqObj "list" #[] 0).get? b=_;rw[zn _ _ _ (by rw[size_push',wE];exact tj (u0 m)),zn _ _ _ (by rw[wE];exact tj m),LZ _ _ _ _ M];exact e
 let fin:∀out:Array zt,out.size<=A8+1->((⇑vs<2/\out=vs.toArray)\/∃p:Array Nat,p.size=⇑vs/\G p/\out=Fk (p.toList.map λi=>vs.getD i zt.none))->P (.done<|.ret .none) { s6 with heap:=s6.heap.update a (on λ_=>out) }:=λout _ u=>by
  subst f;exact h out u
 show D2 (model prog w) A _ P E s6;dsimp only;by_cases r:⇑vs<2
 .let j:vs.toArray.size<2:=by rw[eG];exact r
  rw[Lo j,Lo j];calc yN<|yU ?_;rw[StateT.run_pure];calc yN<|yU ?_;dsimp only;let N:(arrOf<|SortSt.mk' general' (vs.toArray.zip vs.toArray) #[] 7 Lh).map (·.2)=vs.toArray:=by
   show(vs.toArray.zip vs.toArray).map (·.2)=vs.toArray;apply yy.mp
   rw[Array.toList_map,Array.toList_zip];exact List.map_snd_zip<|sT _
  rw[N];refine yN (seqEpoch_at d U<|yN<|listUpdate_at d U ?_ (uk _) (by rw[eG,Js];lia));simp only[bne_self_eq_false,w5,if_false];exact yU<|fin vs.toArray (by rw[eG,Js];lia) (.inl (r,U,))
 .let j:¬ vs.toArray.size<2:=by rw[eG];exact r
  rw[Lm j,Lm j];refine yN<|EX (H ∅ s6 keep (λ_ _=>False)) (fun y B K=>?_) λ_ _ z=>z.elim
  refine yN (EX (kat_run (Q:=λc s'=>s'=s6/\failedOf c=Lh/\∃p:Array Nat,p.size=⇑vs/\G p/\arrOf c=p.map (kas_item<|vs.toArray.zip vs.toArray)) U ∅ x
   (λp c s' S R O F=>(F.1,O,p,S,F.2,R,)) K) ?_ λ_ _ z=>z)
  rintro⟨⟨⟩,c⟩ s' ⟨rfl,L,p,C,g,v⟩;dsimp only;rw[kat_snds U v,L];let k:(Fk<|p.toList.map λi=>vs.getD i zt.none).size<=A8+1:=by rw[eG,ck,xO,C,Js];lia
  calc yN<|seqEpoch_at d U<|yN<|listUpdate_at d U ?_ (uk _) k;simp only[bne_self_eq_false,w5,if_false];calc yU<|fin _ k<|.inr (p,C,g,U,)
def tV{l:AM}{vs:Lw zt}{G:Array Nat->Prop}{Q:zt->C3->Prop}(H:s.heap.IsList l vs.toArray)(t:⇑vs<64)
  (y:2<=⇑vs->∀s':C3,(∀b o,s.heap.get? b=Lg o->s'.heap.get? b=Lg o)->∀n,D2 (model prog w) A.in1.in1 (keyKind' vs.toArray) (fun x B=>(kas_sort ⇑vs).kasWp (kas_ask prog w A.in1.in1 x vs) (λp z=>z=s'/\G p) B) n s')
  (h:∀(out:Array zt)(h':A1)(D:AM)(c:Nat),((⇑vs<2/\out=vs.toArray)\/∃p:Array Nat,p.size=⇑vs/\G p/\out=Fk (p.toList.map λi=>vs.getD i zt.none))->↥s<=D ->
   (∀b o,s.heap.get? b=Lg o->h'.get? b=Lg o)->h'.get? D=Lg (seqObj "list" out c)->Q (.ref D) { s with heap:=h' }) :
  D2 (model prog w) A (call (.builtin "sorted") [.ref l]) Q E s:=by
 let K:vs.toArray.size<=A8:=by rw[eG,Js];lia
 calc Calls.call_function_entry kind_sorted plain_sorted entry_sorted (args_sorted1 _) ?_;unfold Jl.«sorted»;refine yN (m:=checkCount "sorted" 1 1 _) (yU<|yN<|collect_list H (yN<|Kl ?_ (by rw[Js];lia)) (by rw[Js];lia));generalize u:(s.heap.push<|seqObj "list" #[] 0).update ↥s (on (· ++ vs.toArray))=g;let e:g.objs.size=↥s+1:=by rw[←u,wE,size_push']
 let d:(g.push<|seqObj "list" vs.toArray 0).get? (↥s+1)=Lg (seqObj "list" vs.toArray 0):=by rw[←e];exact ii _ U
 let keep:∀b o,s.heap.get? b=Lg o->(g.push<|seqObj "list" vs.toArray 0).get? b=Lg o:=λb o q=>by
  let a:b<↥s:=bi q;rw[zn _ _ _ (by rw[e];exact tj (u0 a)),←u,LZ _ _ _ _<|tj a,zn _ _ _ (tj a)];exact q
 show D2 _ _ _ _ _ { s with heap:=g.push (seqObj "list" vs.toArray 0) };rw[e];refine yN<|zb<|Km slot_list_sort (_,d,U,) entry_list_sort ?body<|args_list_sort _
 case body =>
  refine xG (s:={ s with heap:=g.push (seqObj "list" vs.toArray 0) }) (G:=G) d t (λI s' C n=>y I s' (λb o q=>C b o (tj<|u0<|bi q)<|keep b o q) n) λout F=>(_,U,yU (_,U,?_,),)
  let a:↥s+1<(g.push<|seqObj "list" vs.toArray 0).objs.size:=bi d;let(k,r):∃k,((g.push<|seqObj "list" vs.toArray 0).update (↥s+1)<|on λ_=>#[]).get? (↥s+1)=Lg (seqObj "list" #[] k):=(_,get?_update_seq d<|λ_=>#[],);let v:∀b,b<(g.push<|seqObj "list" vs.toArray 0).objs.size->((((g.push<|seqObj "list" vs.toArray 0).update (↥s+1)<|on λ_=>#[]).push<|seqObj "tuple" vs.toArray 0).push<|seqObj "list" #[] 0).get? b=((g.push<|seqObj "list" vs.toArray 0).update (↥s+1)<|on λ_=>#[]).get? b:=λb f=>by
   rw[zn _ _ _ (by rw[size_push',wE];exact tj (u0 f)),zn _ _ _ (by rw[wE];exact tj f)]
  let J:((((g.push<|seqObj "list" vs.toArray 0).update (↥s+1)<|on λ_=>#[]).push<|seqObj "tuple" vs.toArray 0).push<|seqObj "list" #[] 0).get? (↥s+1)=Lg (seqObj "list" #[] k):=by rw[v _ a];exact r
  calc h out (sortedHeap (g.push<|seqObj "list" vs.toArray 0) (↥s+1) vs out) (↥s+1) _ F (u3 _) (λb o q=>?_)<|get?_update_seq J<|λ_=>out;let f:b<↥s:=bi q;show(A1.update _ _ _).get? b=Lg o;let j:b≠↥s+1:=tj<|u0 f;rw[LZ _ _ _ _ j,v _<|vY (u0 f) a,LZ _ _ _ _ j];calc keep b o q
def Paired.map_of{c b a:Type}{F:c->b->Prop}{f:a->c}{g:a->b}:∀{l:Lw a},(∀i∈l,F (f i)<|g i)->Paired F (l.map f) (l.map g)
 | [],_=>.nil
 |i :: l,h=>.cons (h i gs)<|Paired.map_of λj d=>h j<|fj _ d
def gW{a:Type}(d:a)(l:Lw a):(bn ⇑l).map (λi=>l.getD i d)=l:=by
 apply List.ext_getElem
 .simp
 .intro i c b;simp only[List.getElem_map,List.getElem_range];simp[lp,b]
variable{X:Cx}
def mG:gQ X (.builtin "sorted") (λus H Q=>∃a xs ps,us=[.ref a]/\SqL X.K H a xs/\PL H xs ps/\⇑xs<64 /\
  ∀D ys qs,H D=Lh->PL (upd H D<|.lst ys) ys qs->qs.Perm ps->qs.Pairwise (λp q=>ltP q p=Lj)->Q (.ref D) (upd H D<|.lst ys)):=by
 intro a0 s σ H us vs Q I r h;let(a,xs,ps,rfl,hq,hP,a1,q):=h;let(u,rfl,rx):=r.one;cases (show u=zt.ref a from rx);let(b,rv,F,hz):=I.list hq;let l1:=⇑rv;let l2:=⇑hP;let tup:∀i,i<⇑b->∃(r:AM)(A y:Tok),b.getD i zt.none=.ref r/\xs.getD i .non=.ref r/\H r=Lg (.tup [.int (ps.getD i (0,0)).1,.int (ps.getD i (0,0)).2])/\IsTup s.heap r #[.int (ps.getD i (0,0)).1 A,.int (ps.getD i (0,0)).2 y]:=λi hi=>by
  let S:xs[i]?=Lg xs[i]:=IU ∅;let(p,r,f,k,P):=hP.get S;let(u,e4,r4):=rv.get S;rw[k]at r4;cases (show u=zt.ref r from r4);let(_,ti,rt,m):=(show dJ X.prog X.w H s.heap r (.tup [.int p.1,.int p.2])from I.hok r _ P);let(u1,u2,rfl,r1,r2):=rt.two;let(A,rfl):=(show ∃t,u1=zt.int p.1 t from r1);let(y,rfl):=(show ∃t,u2=zt.int p.2 t from r2);let ep:ps.getD i (0,0)=p:=by rw[lp,f];rfl
  refine(r,A,y,by rw[lp,e4];rfl,by rw[lp,S,k];rfl,by rw[ep];exact P,by rw[ep];exact m,)
 refine tV (G:=λp=>p.Perm (Fk<|bn ⇑b)/\Srt.Up (λi j=>ltP (ps.getD i (0,0))<|ps.getD j (0,0)) p ⇑b) F.isList ∅ (λh2 B R E'=>?_) λout h' D c ho hD R e=>?_
 .let N:∀{r:AM}{x:Array zt},IsTup s.heap r x->IsTup B.heap r x:=λ(o,e,c,)=>(o,R _ _ e,c,)
  let Dd:KatTups B.heap b ((bn ⇑b).map λi=>match (b.getD i zt.none)with | .ref r=>(match B.heap.get? r with|some o=>(match o.data with | .seq x _=>(x[0]?).getD zt.none|_=>zt.none)|none=>zt.none)|_=>zt.none):=by
   let all:∀(l:Lw Nat),(∀i∈l,i<⇑b)->KatTups B.heap (l.map λi=>b.getD i zt.none) (l.map λi=>match (b.getD i zt.none)with | .ref r=>(match B.heap.get? r with|some o=>(match o.data with | .seq x _=>(x[0]?).getD zt.none|_=>zt.none)|none=>zt.none)|_=>zt.none):=by
    intro l;induction l with
    |nil=>intro _;exact KatTups.nil
    |cons i l ih =>
     intro hl;let(r,A,y,f,_,_,m):=tup i<|hl i gs;let(o,O,co,n,d):=N m;rw[gy,gy,f];calc KatTups.cons O co d ?_<|ih λj E=>hl j<|fj _ E;dsimp only;rw[O];dsimp only;rw[d];rfl
   let z:=all (bn ⇑b) λi hi=>ia.mp hi
   rw[gW]at z;exact z
  refine kat_kind (T:=.type "int") Dd (by simp;lia) (λv hv=>?_) U ?_
  .let(i,hi,rfl):=dn.mp hv;let(r,A,y,f,_,_,m):=tup i<|ia.mp hi;let(o,O,co,n,d):=N m;rw[f];dsimp only;rw[O];dsimp only;rw[d];exact Looks.of_pure U
  .refine qP (lt:=λi j=>ltP (ps.getD i (0,0))<|ps.getD j (0,0)) (n:=⇑b) (λi j C hi E hC=>?_)<|Srt.Ok.mono (Srt.ok_sort (Bb ps) ∅) λp (b1,_,b3,)=>(U,b1,b3,);let(r,A,y,f,_,_,m):=tup i hi;let(r',t3,t4,Z,_,_,W):=tup j E;show D2 _ _ (keyLt' _ (b.getD i zt.none)<|b.getD j zt.none) _ _ B;rw[f,Z];exact ze (N m) (N W) hC
 ·
  let L:∃(F:Lw Nat),F.Perm (bn ⇑b)/\out=Fk (F.map λi=>b.getD i zt.none)/\(F.map λi=>ps.getD i (0,0)).Pairwise (λp q=>ltP q p=Lj):=by
   rcases ho with⟨h2,rfl⟩|⟨p,hp,⟨J,g2⟩,rfl⟩
   .refine(bn ⇑b,.refl _,by rw[gW],?_,);let:⇑b=0\/⇑b=1:=∅
    rcases this with z|z <;> rw[z] <;> simp[iG]
   .refine(p.toList,~~~J.toList,U,?_,);rw[LV];intro i j hi E Y;simp only[ck,xO]at hi E;simp only[List.getElem_map,Array.getElem_toList];let z:=g2 i j (ve Y) ∅;let f:Srt.g p i=p[i]:=by simp[Srt.g,Array.getD,hi]
    let k:Srt.g p j=p[j]:=by simp[Srt.g,Array.getD,E]
    rw[f,k]at z;exact z
  let(pl2,J,rfl,g3):=L;let lt:∀i∈pl2,i<⇑b:=λi hi=>ia.mp<|J.mem_iff.mp hi
  let hn:H D=none:=I.hok.fresh hD;let vz:Vals (pl2.map λi=>xs.getD i .non) (pl2.map λi=>b.getD i zt.none):=Paired.map_of λi hi=>by
   let(r,_,_,f,k,_):=tup i<|lt i hi;rw[f,k];rfl
  let M:⇑(pl2.map λi=>xs.getD i V.non)<=A8:=by
   rw[ck,J.length_eq,lC,Js];lia
  refine(.ref D,upd H D<|.lst<|pl2.map λi=>xs.getD i .non,I.laid (t':=s.toks) R hD (M,_,c,vz,e,),U,q D _ (pl2.map λi=>ps.getD i (0,0)) hn (Paired.map_of λi hi=>?_) ?_ g3,)
  .let(r,_,_,_,k,P,_):=tup i<|lt i hi;exact(r,k,gM hn _ _ P,)
  .let z:=J.map λi=>ps.getD i (0,0)
   rw[←l1,l2,gW]at z;calc z
def gj(p:Pr)(R:Lw Pr)(n:Int):inP (p :: R) n=(inR n p || inP R n):=by
 unfold inP;rw[mY]
def cq{n:Int}{p:Pr}:inR n p=Li↔p.1<=n/\n<=p.2:=by
 unfold inR;simp only[wF,decide_eq_true_eq]
def jr{n:Int}{p:Pr}:inR n p=Lj↔¬ (p.1<=n/\n<=p.2):=by
 rw[←cq];simp
def wH{n:Int}{R:Lw Pr}:inP R n=Li↔∃p∈R,p.1<=n/\n<=p.2:=by
 unfold inP;rw[kK];calc(λ(p,h,e,)=>(p,h,cq.mp e,),λ(p,h,e,)=>(p,h,cq.mpr e,),)
def kN{n:Int}{R:Lw Pr}(h:∀p∈R,¬ (p.1<=n/\n<=p.2)):inP R n=false:=by
 cases e:inP R n with
 |false=>rfl
 |true=>obtain⟨p,a,z⟩:=wH.mp e;calc Lp z<|h p a
def Apart.nil:Apart []:=((λp a=>by cases a),LF,)
def Apart.tail{a:Pr}{A:Lw Pr}(h:Apart (a :: A)):Apart A/\a.1<=a.2/\∀p∈A,a.2+2<=p.1:=by
 let g:=List.pairwise_cons.mp h.gap;calc((λp b=>h.le p<|fj _ b,g.2,),h.le a gs,λp b=>g.1 p b,)
def Apart.behind{a:Pr}{A:Lw Pr}(h:Apart (a :: A)){n:Int}(c:n<=a.2):inP A n=false:=kN λp b z=>by
 let:=h.tail.2.2 p b;lia
def Apart.take{R:Lw Pr}(h:Apart R)(i:Nat):Apart (R.take i):=(λp a=>h.le p<|md a,h.gap.sublist<|Mr _ _,)
structure iq(S A B A0 B0:Lw Pr):Prop where
 ap:Apart S
 aA:Apart A
 aB:Apart B
 mem:∀n,(inP A0 n && inP B0 n)=(inP S n || (inP A n && inP B n))
 gap:∀s∈S,(∀p∈A,s.2+2<=p.1)\/(∀p∈B,s.2+2<=p.1)
def iq.start{A B:Lw Pr}(c:Apart A)(b:Apart B):iq [] A B A B:=⟨Apart.nil,c,b,λn=>by simp[inP],λs a=>by cases a⟩
def iq.fin{S A B b a:Lw Pr}(h:iq S A B b a)(e:A=[]\/B=[])(n:Int):inP S n=(inP b n && inP a n):=by
 rw[h.mem n];rcases e with e|e <;> rw[e] <;> simp[inP]
def iq.left{S A B k j:Lw Pr}{a b c:Pr}(h:iq S (a :: A) (b :: B) k j)(r:a.2<b.2)(t:c.1=max a.1 b.1/\c.2=min a.2 b.2) :
  (c.1<=c.2->iq (S++[c]) A (b :: B) k j)/\(¬ c.1<=c.2->iq S A (b :: B) k j):=by
 let(o,u,q):=h.aA.tail;let m:∀n,((inR n a || inP A n) && (inR n b || inP B n))=(inR n c || (inP A n && (inR n b || inP B n))):=λn=>by
  let i:inR n c=(inR n a && inR n b):=by
   rw[pr,wF,cq,cq,cq];lia
  rw[i];cases e:inR n a with
  |false=>simp
  |true =>
   let z:=cq.mp e;rw[h.aA.behind z.2,h.aB.behind ∅];cases inR n b <;> rfl
 let l:∀s∈S,(∀p∈A,s.2+2<=p.1)\/(∀p∈b :: B,s.2+2<=p.1):=λs d=>by
  rcases h.gap s d with z|z
  .exact .inl λp g=>z p<|fj _ g
  .exact .inr z
 refine(λf=>(h.ap.snoc f λs d=>?_,o,h.aB,λn=>?_,λs d=>?_,),λf=>(h.ap,o,h.aB,λn=>?_,l,),)
 .rcases h.gap s d with z|z
  .let:=z a gs;lia
  .let:=z b gs;lia
 .rw[h.mem n,gj,gj,m n,dD,MU]
 .rcases eA.mp d with d|d
  .exact l s d
  .let e:s=c:= ~~~d
   refine .inl λp g=>?_
   let:=q p g;rw[e];lia
 .let i:inR n c=false:=jr.mpr ∅;rw[h.mem n,gj,gj,m n,i,LA]
def iq.right{S A B k j:Lw Pr}{a b c:Pr}(h:iq S (a :: A) (b :: B) k j)(q:¬ a.2<b.2)(r:c.1=max a.1 b.1/\c.2=min a.2 b.2) :
  (c.1<=c.2->iq (S++[c]) (a :: A) B k j)/\(¬ c.1<=c.2->iq S (a :: A) B k j):=by
 let(b1,b2,o):=h.aB.tail;let m:∀n,((inR n a || inP A n) && (inR n b || inP B n))=(inR n c || ((inR n a || inP A n) && inP B n)):=λn=>by
  let i:inR n c=(inR n a && inR n b):=by
   rw[pr,wF,cq,cq,cq];lia
  rw[i];cases e:inR n b with
  |false=>simp
  |true =>
   let z:=cq.mp e;rw[h.aB.behind z.2,h.aA.behind ∅];cases inR n a <;> rfl
 let l:∀s∈S,(∀p∈a :: A,s.2+2<=p.1)\/(∀p∈B,s.2+2<=p.1):=λs d=>by
  rcases h.gap s d with z|z
  .exact .inl z
  .exact .inr λp g=>z p<|fj _ g
 refine(λf=>(h.ap.snoc f λs d=>?_,h.aA,b1,λn=>?_,λs d=>?_,),λf=>(h.ap,h.aA,b1,λn=>?_,l,),)
 .rcases h.gap s d with z|z
  .let:=z a gs;lia
  .let:=z b gs;lia
 .rw[h.mem n,gj,gj,m n,dD,MU]
 .rcases eA.mp d with d|d
  .exact l s d
  .let e:s=c:= ~~~d
   refine .inr λp g=>?_
   let:=o p g;rw[e];lia
 .let i:inR n c=false:=jr.mpr ∅;rw[h.mem n,gj,gj,m n,i,LA]
structure pB(F T:Lw Pr)(lo hi st:Int):Prop where
 ap:Apart F
 lt:∀s∈F,s.2+2<=st
 rng:∀s∈F,lo<=s.1/\s.2<=hi
 tk:∀p∈T,p.2<st
 fr:st=lo\/∃p∈T,st=p.2+1
 ge:lo<=st
 mem:∀n,lo<=n->n<=hi->n<st->inP F n = !inP T n
def pB.start(lo hi:Int):pB [] [] lo hi lo:=(Apart.nil,(λs a=>by cases a),(λs a=>by cases a),(λs a=>by cases a),.inl U,pp _,λn c _ b=>∅,)
def pB.turn{F T:Lw Pr}{lo hi st st' e:Int}{p:Pr}(h:pB F T lo hi st)(ap:Apart (T++[p]))(D:e=min (p.1-1) hi)(C:st'=max st (p.2+1)) :
  (st<=e->pB (F++[(st,e)]) (T++[p]) lo hi st')/\(¬ st<=e->pB F (T++[p]) lo hi st'):=by
 let(B,A,v):=ap.init;let j:∀n,lo<=n->n<st->inR n p=false:=λn g m=>jr.mpr λz=>by
  rcases h.fr with q|⟨o,r,q⟩
  .lia
  .let:=v o r;lia
 let d:∀q∈T++[p],q.2<st':=λq b=>by
  rcases eA.mp b with b|b
  .let:=h.tk q b;lia
  .let e:q=p:= ~~~b
   rw[e];lia
 let f:st'=lo\/∃q∈T++[p],st'=q.2+1:=by
  by_cases c:p.2+1<=st
  .let u:st'=st:=∅
   rw[u];rcases h.fr with q|⟨o,r,q⟩
   .exact .inl q
   .exact .inr (o,gq _ r,q,)
  .exact .inr (p,by simp,∅,)
 let i:∀n,st<=n->inP T n=false:=λn w=>kN λq b z=>by have:=h.tk q b;lia
 let l:∀n,st<=n->inP F n=false:=λn w=>kN λq b z=>by have:=h.lt q b;lia
 refine(λk=>(h.ap.snoc k h.lt,λs a=>?_,λs a=>?_,d,f,by have:=h.ge;lia,λn g m x=>?_,),λk=>(h.ap,λs a=>?_,h.rng,d,f,by have:=h.ge;lia,λn g m x=>?_,),)
 .rcases eA.mp a with a | a
  .let:=h.lt s a;lia
  .let t:s=(st,e):= ~~~a
   rw[t];show e+2<=st';lia
 .rcases eA.mp a with a | a
  .exact h.rng s a
  .let t:s=(st,e):= ~~~a
   rw[t];let:=h.ge;exact(by show lo<=st;lia,by show e<=hi;lia,)
 .rw[dD,dD];by_cases c:n<st
  .let u:inR n (st,e)=false:=jr.mpr (by show ¬ (st<=n/\n<=e);lia);rw[h.mem n g m c,j n g c,u,AT,AT]
  .rw[l n ∅,i n ∅,LA,LA];clear f d;let y:=h.ge;clear h;rw[pr,cq];cases q:inR n p with
   |true=>have z:=cq.mp q;simp;show st<=n->e<n;lia
   |false=>have z:=jr.mp q;simp;show st<=n/\n<=e;lia
 .let:=h.lt s a;lia
 .rw[dD];by_cases c:n<st
  .rw[h.mem n g m c,j n g c,AT]
  .rw[l n ∅,i n ∅,LA];clear f d h;let q:inR n p=true:=cq.mpr ∅;rw[q];rfl
def pB.fin{F T:Lw Pr}{lo hi st:Int}(h:pB F T lo hi st) :
  (st<=hi->Apart (F++[(st,hi)])/\∀n,inP (F++[(st,hi)]) n=(Lk (lo<=n) && decide (n<=hi) && !inP T n))/\(¬ st<=hi->Apart F/\∀n,inP F n=(Lk (lo<=n) && decide (n<=hi) && !inP T n)):=by
 let e:∀n,st<=n->inP T n=false:=λn f=>kN λq a z=>by have:=h.tk q a;lia
 let j:∀n,st<=n->inP F n=false:=λn f=>kN λq a z=>by have:=h.lt q a;lia
 let out:∀n,¬ (lo<=n/\n<=hi)->inP F n=false:=λn f=>kN λq a z=>by have:=h.rng q a;lia
 let g:∀n,(Lk (lo<=n) && decide (n<=hi))=Lk (lo<=n/\n<=hi):=λn=>by simp
 refine(λd=>(h.ap.snoc d h.lt,λn=>?_,),λd=>(h.ap,λn=>?_,),)
 .rw[dD,g];by_cases c:lo<=n/\n<=hi
  .rw[Lq c,IR];by_cases i:n<st
   .let b:inR n (st,hi)=false:=jr.mpr (by show ¬ (st<=n/\n<=hi);lia);rw[h.mem n c.1 c.2 i,b,AT]
   .let b:inR n (st,hi)=true:=cq.mpr (by show st<=n/\n<=hi;lia);rw[b,e n ∅,Bool.or_true];rfl
  .let b:inR n (st,hi)=false:=jr.mpr (by have:=h.ge;show ¬ (st<=n/\n<=hi);lia);rw[Lr c,out n c,b];rfl
 .rw[g];by_cases c:lo<=n/\n<=hi
  .rw[Lq c,IR];exact h.mem n c.1 c.2 ∅
  .rw[Lr c,out n c];rfl
def Apart.ends{a z:Pr}{R M:Lw Pr}(h:Apart (a :: R))(e:a :: R=M++[z]){n:Int}(i:inP (a :: R) n=Li):a.1<=n/\n<=z.2:=by
 let(p,b,q):=wH.mp i;let(r,o,g):=h.tail;let k:a.1<=p.1:=by
  rcases dy.mp b with z|z
  .rw[z];exact pp _
  .let:=g p z;lia
 let c:=h;rw[e]at c b;let(m,l,f):=c.init;let d:p.2<=z.2:=by
  rcases eA.mp b with y|y
  .let:=f p y;lia
  .let j:p=z:= ~~~y
   rw[j];exact pp _
 lia
structure Walk(ts:Lw (Int×Int×Int)):Prop where
 le:∀t∈ts,t.1<=t.2.1
 nx:∀(i:Nat) a b,ts[i]?=Lg a->ts[i+1]?=Lg b->b.1=a.2.1+1
def  pcs(msk:Int->Bool)(a:Lw (Int×Int×Int))(n:Int):Bool:=a.any λt=>inR n (t.1,t.2.1) && msk t.2.2
structure IF(R:Lw Pr)(ts:Lw (Int×Int×Int))(msk:Int->Bool)(i:Nat)(at_:Int):Prop where
 ap:Apart R
 mem:∀n,inP R n=pcs msk (ts.take i) n
 lt:∀r∈R,r.2<at_
 few:2*R.length<=i\/(2*R.length<=i+1/\∃R' l,R=R'++[l]/\l.2=at_-1)
variable{i:Nat}
section
variable{R:Lw Pr}{ts:Lw (Int×Int×Int)}{msk:Int->Bool}{at_:Int}{t:Int×Int×Int}
end
def  ends(R:Lw Pr):Lw Int:=R.flatMap λp=>[p.1,p.2+1]
def mH{R:Lw Pr}{n:Int}:inP R n=Li↔∃p∈R,p.1<=n/\n<=p.2:=by
 unfold inP;rw[kK];constructor
 .rintro⟨p,a,h⟩;exact(p,a,cq.mp h,)
 .rintro⟨p,a,h⟩;calc(p,a,cq.mpr h,)
def Apart.uniq:∀{A B:Lw Pr},Apart A->Apart B->(∀n,inP A n=inP B n)->A=B
 | [],[],_,_,_=>rfl
 | [],b :: B,_,hB,h=>by
  let:inP (b :: B) b.1=true:=mH.mpr (b,.head _,pp _,hB.tail.2.1,);rw[←h b.1]at this;cases this
 |a :: A,[],hA,_,h=>by
  let:inP (a :: A) a.1=true:=mH.mpr (a,.head _,pp _,hA.tail.2.1,);rw[h a.1]at this;cases this
 |a :: A,b :: B,hA,hB,h=>by
  let(i,v,r):=hA.tail;let(f,u,o):=hB.tail;let m:∀n,(∃p∈a :: A,p.1<=n/\n<=p.2)↔(∃p∈b :: B,p.1<=n/\n<=p.2):=λn=>by rw[←mH,←mH,h n]
  let E:∀p∈a :: A,a.1<=p.1:=λp c=>by
   rcases dy.mp c with rfl|c
   .exact pp _
   .let:=r p c;lia
  let D:∀p∈b :: B,b.1<=p.1:=λp c=>by
   rcases dy.mp c with rfl|c
   .exact pp _
   .let:=o p c;lia
  let x:a.1=b.1:=by
   let(p,c,k,j):=(m a.1).mp (a,.head _,pp _,v,);let(q,s,G,F):=(m b.1).mpr (b,.head _,pp _,u,);let:=D p c;let:=E q s;lia
  let w:a.2=b.2:=by
   rcases Int.lt_trichotomy a.2 b.2 with g|g|g
   .let(p,c,k,j):=(m<|a.2+1).mpr (b,.head _,∅,∅,);rcases dy.mp c with rfl|c
    .lia
    .let:=r p c;lia
   .exact g
   .let(p,c,k,j):=(m<|b.2+1).mp (a,.head _,∅,∅,);rcases dy.mp c with rfl|c
    .lia
    .let:=o p c;lia
  let e:a=b:=Prod.ext x w;subst e
  congr 1
  refine Apart.uniq i f λn=>?_
  by_cases d:n<=a.2
  .rw[hA.behind d,hB.behind d]
  .let l:=h n;let z:inR n a=false:=w4.mpr λt=>d (cq.mp t).2
   let C:inP (a :: A) n=(inR n a || inP A n):=rfl;let y:inP (a :: B) n=(inR n a || inP B n):=rfl;rw[C,y,z]at l;calc l
def  NeS(W:Lw (Int×Int×Int)):Prop:=∀(j:Nat) a b,W[j]?=Lg a->W[j+1]?=Lg b->a.2.2≠b.2.2
structure Iz(G ts:Lw (Int×Int×Int))(i:Nat):Prop where
 walk:Walk G
 ne:NeS G
 pcs:∀msk n,pcs msk G n=_L.pcs msk (ts.take i) n
 hd:∀t,ts[0]?=Lg t->0<i->∃g,G[0]?=Lg g/\g.1=t.1
 lst:∀t,ts[i-1]?=Lg t->0<i->∃G' g,G=G'++[g]/\g.2.1=t.2.1/\g.2.2=t.2.2
 len:G.length<=i
 stt:∀g∈G,∃t∈ts,g.2.2=t.2.2
section
variable{G ts:Lw (Int×Int×Int)}{t:Int×Int×Int}
end
def  Its(z:Str):It:=(λi _=>i<z.cps.size,λi H x a=>a=H/\∃c,z.cps[i]?=Lg c/\x=.str ⟨#[c]⟩,λi _=>z.cps.size<=i,)
def vh{P:zA}{w:zz}{K:ac}{L:Ew}(z:Str)(t:Tok)(it:AM):Turn P w K L (Its z) [it] it (λi h=>h.IsStrIter it "str_ascii_iterator" z t i) where
 mem:=by simp
 obj:=λi h f b g=>by
  let(o,e,c,d):=f;rw[show b=it by simpa using g];exact⟨o,e,λv q=>by rw[d]at q;cases q⟩
 keep:=λi h m (o,e,r,) k=>(o,k it (by simp) o e,r,)
 item:=by
  intro X u n x J i a s G H E I l f p;subst u n x;let F:i<z.cps.size:=p;let hi:z.cps[i]?=Lg z.cps[i]:=yw F;let(D,C,N,B,A,y):=l it (by simp);refine wpAny_pyNext_ascii_item f hi λm j M=>?_
  let Q:Inv X a G H { s with heap:=m,toks:=s.toks+1 }:=I.turned (t':=s.toks+1) (λb o g e=>(M.2 b g).trans e) D C B A y;let(o,e,c,d):=id j;exact(_,U,wq (s:={ s with heap:=m,toks:=s.toks+1 }) e c d ⋯ (.str ⟨#[z.cps[i]]⟩,H,Q,(_,U,),(U,_,hi,U,),j,λb g=>(l b g).1,),)
 done:=by
  intro X u n x J i a s G H E I l f p;subst u n x;let(D,C,N,B,A,y):=l it (by simp);exact wpAny_pyNext_ascii_end (I.ok.hd J) f (~~~(show z.cps.size<=i from p)) λm O=>(U,I.turned (t':=s.toks) (λb o g e=>O b o g e) D C B A y,)
 self:=λ_ _ _ _ _ f h=>wpAny_pyIter_striter_ascii f h
def xH{P:zA}{w:zz}{K:ac}{L:Ew}(z:Str)(t:Tok)(it:AM):Turn P w K L (Its z) [it] it (λi h=>h.IsStrIter it "str_iterator" z t i) where
 mem:=by simp
 obj:=λi h f b g=>by
  let(o,e,c,d):=f;rw[show b=it by simpa using g];exact⟨o,e,λv q=>by rw[d]at q;cases q⟩
 keep:=λi h m (o,e,r,) k=>(o,k it (by simp) o e,r,)
 item:=by
  intro X u n x J i a s G H E I l f p;subst u n x;let F:i<z.cps.size:=p;let hi:z.cps[i]?=Lg z.cps[i]:=yw F;let(D,C,N,B,A,y):=l it (by simp);refine wpAny_pyNext_wide_item f hi λm j M=>?_
  let Q:Inv X a G H { s with heap:=m,toks:=s.toks+1 }:=I.turned (t':=s.toks+1) (λb o g e=>(M.2 b g).trans e) D C B A y;let(o,e,c,d):=id j;exact(_,U,wq (s:={ s with heap:=m,toks:=s.toks+1 }) e c d ⋯ (.str ⟨#[z.cps[i]]⟩,H,Q,(_,U,),(U,_,hi,U,),j,λb g=>(l b g).1,),)
 done:=by
  intro X u n x J i a s G H E I l f p;subst u n x;let(D,C,N,B,A,y):=l it (by simp);exact wpAny_pyNext_wide_end (I.ok.hd J) f (~~~(show z.cps.size<=i from p)) λm O=>(U,I.turned (t':=s.toks) (λb o g e=>O b o g e) D C B A y,)
 self:=λ_ _ _ _ _ f h=>wpAny_pyIter_striter_wide f h
variable{tg:Ew}
inductive Cm  (R:(It->NB))(x:V)(H1:Hp):Prop
 |mk (z:_)(_:x=.str z)(_:R (Its z) H1):Cm R x H1
def  F8(tl:TE):ac->St->Hp->(It->NB)->Prop:=λ_ a H R=>tl a H λx b=>Cm R x b
def De{l:Ew}{tl:TE}(m:PE X l tl):PI X tg l (F8 tl X.K):=by
 intro c s i H R I h;refine thn (m c s i H _ I h) λv a (x,g,f,j,k,)=>?_
 let(z,e,q):=k;subst e;let(t,rfl):=j;let d:∀b∈[↥a],kX X c g b:=λb n=>by
  rw[show b=↥a by simpa using n];exact f.fpOk (sT _)<|f.hok.fresh<|sT _
 cases ha:z.cps.all (· < 128) with
 |true=>exact wpAny_pyIter_ascii ha (↥a,[↥a],_,_,g,U,f.kept (t':=a.toks) λb o e=>am _ e,vh z t _,(_,ii _ U,U,U,),d,q,)
 |false=>calc wpAny_pyIter_wide ha (↥a,[↥a],_,_,g,U,f.kept (t':=a.toks) λb o e=>am _ e,xH z t _,(_,ii _ U,U,U,),d,q,)
def Bc{z:Str}{g:TG}{k:TS}{D:Ends}{a:St}{H:Hp}(b:Nat->NA)(t:b 0 a H)
  (r:∀i c a H,z.cps.toList[i]?=Lg c->b i a H->g (.str ⟨#[c]⟩) a H λd j=>k { D with nx:=b<|i+1,ct:=b<|i+1,bk:=D.nx } d j)(s:∀a H,b z.cps.size a H->D.nx a H) :
  ∃W:Nat->Nat->NA,(∃m,W 0 m a H)/\∀i m a H,W i m a H ->
   ((Its z).stop i H/\D.nx a H)\/((Its z).go i H/\∃N:NA,(∀f H',N f H'->∃l,l<m/\W (i+1) l f H')/\∀x H',(Its z).yld i H x H'->g x a H' λd j=>k { D with nx:=N,ct:=N,bk:=D.nx } d j):=by
 calc(λi m a H=>m=z.cps.size-i/\i<=z.cps.size/\b i a H,(_,U,uk _,t,),?_,);rintro i m a H ⟨rfl,hi,p⟩;by_cases h:i<z.cps.size
 .refine .inr (h,b<|i+1,λf H' q=>(z.cps.size-(i+1),∅,U,h,q,),λx H' y=>?_,);let(e,c,o,n):=y;subst e;subst n;exact r i c a _ (~~~o) p
 .let e:i=z.cps.size:=∅
  subst e;calc .inl (sT _,s a H p,)
def tW:∀{ys:Lw Str}{us:Lw zt},Vals (ys.map NE) us->StrsAre us ys
 | [],_,.nil=>.nil
 |y :: ys,_,.cons r t=>by
  let(a,rfl):=r;calc .cons y a<|tW t
inductive rJoin(K:ac)(x:V)(vs:Lw V)(H:Hp)(Q:VK):Prop
 |mk (z:Str)(a:AM)(ys:Lw Str)(_:x=.str z)(_:vs=[.ref a])(_:SqL K H a (ys.map NE))(_:⇑z<=64)(_:(ys.map (·.length)).sum+⇑ys*64<=16777216)(_:Q (.str<|kt z ys) H)
def fY:MtM X "str.join" (rJoin X.K):=by
 intro b s n H x o v p Q I d e h;let(z,a,c,rfl,rfl,i,l,j,q):=h;let(t,rfl):=d;let(u,rfl,f):=e.one;cases (show u=zt.ref a from f);let(m,r,g,y):=I.list i;calc join_listC g.isList (~~~tW r) l j λw k=>(.str<|kt z c,H,I.tok k,(_,U,),q,)
def cb{x:Str}{v:V}{pos:Pos}(a:Gl X x)(h:∃u,X.mg x=Lg u/\RelV v u)(b:(x == ("__debug__" : Str))=false:=by decide):PE X (.Name x pos) (tC v):=by
 let(_,m,r):=h;calc fm a m r b
def  sg(g:Str)(c:Nat):Bool:=!(EQ g ⟨#[c]⟩ 0 ⇑g 1).isEmpty
def  i4(z g:Str):Bool:=z.cps.toList.all<|sg g
open PySem.NumText
def qQ{v:zt}{o:Option Int}(h:JK v o):∃p:Option (Int×Tok),v=partValue p/\p.map (·.1)=o:=by
 cases h with
 |none=>exact(Lh,U,U,)
 |int i t=>calc(Lg (i,t),U,U,)
inductive EC  (x:V)(lo:Option Int)(hi:Option Int)(H:Hp)(Q:VK):Prop
 |mk (z:_)(_:x=.str z)(_:⇑z<=A8)(_:Q (.str<|GT z lo hi) H):EC x lo hi H Q
def pC:SlR X EC:=by
 intro b s m H x v o n lo hi p Q I d i f e h;let(z,rfl,g,q):=h;let(t,rfl):=d;let(l,rfl,k):=qQ f;let(u,rfl,j):=qQ e;calc("str",_,slot_str_getitem.lookup,JP s z t,?_,);calc wpAny_getItem_str_slice (l:=l) (u:=u) (st:=Lh) i U ?_;unfold sliceMade slicePicked;rw[k,j];unfold GT at q;show Made.post (if ((1:Int) == 1 && ⇑(MR lo hi 1 ⇑z) == ⇑z)=Li then _ else _) _ _;by_cases c:((1:Int) == 1 && ⇑(MR lo hi 1 ⇑z) == ⇑z)=Li
 .rw[Lo c]at q⊢;exact(.str z,H,I,(_,U,),q,)
 .let a:=Txt.slice_le z lo hi;unfold GT at a;rw[Lm c]at q a⊢;calc(tm a g,.str _,H,I.tok _,(_,U,),q,)
def qp:gQ X (.type "int") (λxs H Q=>∃z n,xs=[.str z]/\PySem.intText? z=Lg n/\⇑z<=640/\Q (.int n) H):=by
 intro a s d H xs e Q I r h;let(z,n,rfl,c,b,q):=h;let(u,rfl,t,rfl):=vals1 r;calc W.KIN.call_text c b (.int n,H,I.tok _,(_,U,),q,)
inductive wI  (x:V)(vs:Lw V)(H:Hp)(Q:VK):Prop
 |mk (z y:Str)(_:x=.str z)(_:vs=[.str y])(_:Q (.bl<|li z y) H):wI x vs H Q
def eO:MtM X "str.startswith" wI:=by
 intro a s e H x f v g Q I b c h;let(z,y,rfl,rfl,q):=h;let(t,rfl):=b;let(u,rfl,d):=c.one;let(i,rfl):=d;calc PySem.SC.startswith (.bl _,H,I,U,q,)
def rQ:∀(cs:Lw Nat)(a:Nat),cs.foldl (λb c=>b*10+(c-48)) a=a*10^⇑cs+digitsVal cs
 | [],a=>by simp[digitsVal]
 |c :: cs,a=>by
  let e:digitsVal (c :: cs)=(0*10+(c-48))*10^⇑cs+digitsVal cs:=by
   unfold digitsVal;rw[kA,rQ cs];rfl
  rw[kA,rQ cs,e,ig,Nat.pow_succ];simp only[Nat.add_mul,Nat.mul_assoc,Nat.mul_comm 10,Nat.zero_mul,L9,Nat.add_assoc]
def kO(c:Nat)(cs:Lw Nat):digitsVal (c :: cs)=(c-48)*10^⇑cs+digitsVal cs:=by
 let e:digitsVal (c :: cs)=(0*10+(c-48))*10^⇑cs+digitsVal cs:=by
  unfold digitsVal;rw[kA,rQ cs];rfl
 rw[e,Nat.zero_mul,L9]
structure oE(cs:Lw Nat):Prop where
 all:AllDigits cs
 one:⇑cs=1\/∃c r,cs=c :: r/\49<=c
def oE.ne{cs:Lw Nat}(F:oE cs):cs≠[]:=by
 rintro rfl;rcases F.one with h|⟨c,r,h,_⟩ <;> cases h
def oE.short{cs:Lw Nat}(F:oE cs){k:Nat}(b:1<=k)(h:digitsVal cs<10^k):⇑cs<=k:=by
 rcases F.one with e|⟨c,r,rfl,d⟩
 .lia
 .rw[kO]at h;let f:1*10^⇑r<=(c-48)*10^⇑r:=vr _ ∅;let a:10^⇑r<10^k:=∅
  let:=(Nat.pow_lt_pow_iff_right (by decide:1<10)).mp a;rw[ig];lia
def pD{cs:Lw Nat}(h:AllDigits cs):(cs.map MI).map No=cs:=by
 rw[hJ]
 conv=>rhs;rw[←sL cs]
 apply pb
 intro c a;let(d,b):=h c a;let:c=48\/c=49\/c=50\/c=51\/c=52\/c=53\/c=54\/c=55\/c=56\/c=57:=∅
 rcases this with rfl|rfl|rfl|rfl|rfl|rfl|rfl|rfl|rfl|rfl <;> rfl
def oE.digits{cs:Lw Nat}(F:oE cs):Nat.toDigits 10 (digitsVal cs)=cs.map MI:=by
 let a:⇑cs≠0:=λe=>F.ne<|iv.mp e
 calc toDigits_digitsVal (⇑cs-1) cs ∅ F.all ?_;rcases F.one with e|e
 .exact .inl ∅
 .exact .inr e
def  fA(n:Int)(cs:Lw Nat):Lw Nat:=if n<0 then 45 :: cs else cs
def Be{n:Int}{cs:Lw Nat}(F:oE cs)(h:digitsVal cs=n.natAbs):lm (toString n)=⟨(fA n cs).toArray⟩:=by
 let a:=F.digits;rw[h]at a;by_cases c:n<0
 .let(m,rfl):∃m,n=Nj m:=((-n-1).toNat,∅,);let e:toString (Nj m) = "-" ++ String.ofList (Nat.toDigits 10<|m+1):=rfl;rw[Ly,e,String.toList_append];unfold fA;rw[Lo c];let b:(Nj m).natAbs=m+1:=rfl;rw[b]at a;rw[a,eg,show(String.ofList<|cs.map MI).toList=cs.map MI from String.toList_ofList,pD F.all];rfl
 .let(m,rfl):∃m:Nat,n=(m:Int):=(n.toNat,∅,);let b:((m:Int)).natAbs=m:=rfl;rw[b]at a;let z:=W.KIN.signs_num m;rw[a,pD F.all]at z;unfold fA;rw[Lm c,←z]
def Bf{n:Int}{cs:Lw Nat}(F:oE cs)(h:digitsVal cs=n.natAbs)(b:⇑cs<=60):PySem.intText? ⟨(fA n cs).toArray⟩=Lg n:=by
 unfold fA;by_cases a:n<0
 .rw[Lo a];let z:=intText_neg (x:=⟨(45 :: cs).toArray⟩) (cs:=cs) U F.all F.ne (by show(45 :: cs).toArray.size<=_;simp;lia);rw[z,h];congr 1;lia
 .rw[Lm a];let z:=Kn (x:=⟨cs.toArray⟩) F.all F.ne (by show cs.toArray.size<=_;simp;lia);rw[z];show Lg ((digitsVal cs:Nat):Int)=_;rw[h];congr 1;lia
def  tX(h:A1)(e T:AM)(cls:zt)(f:zt×zt)(fl:zt):Prop :=
 ∃b a d c,h.get? e=Lg b/\(b.cls=cls/\a[0]?=Lg f.1/\a[2]?=Lg f.2)/\b.data=.fields a/\a[1]?=↑T/\T≠e/\h.get? T=Lg d/\d.data=.fields c/\c[3]?=Lg fl
abbrev rR(h:A1)(e T:AM)(a:zt)(b:zt×zt):Prop:=tX h e T a b .none
structure Stp(F X:Lw AM)(h h':A1):Prop where
 keep:∀b o,b ∉ F->b ∉ X->h.get? b=Lg o->h'.get? b=Lg o
 slot:∀b o,b∈F->h.get? b=Lg o->∃sl,h'.get? b=Lg { o with slots:=sl }
inductive zf(h:A1)(L e:AM)(cls:zt)(a0:zt×zt):Lw AM->Prop where
 |fresh {oe:Obj}{vs:Array zt}(he:h.get? e=Lg oe)(hc:oe.cls=cls)(hd:oe.data=.fields vs)(h1:vs[1]?=Lg zt.none)(h0:vs[0]?=Lg a0.1)(h2:vs[2]?=Lg a0.2):zf h L e cls a0 []
 |fly {T:AM}(x:tX h e T cls a0 .none):zf h L e cls a0 [T]
 |held {T:AM}(x:tX h e T cls a0 (Jh L)):zf h L e cls a0 [T]
variable{base:A1}{env:Env}{outer:Lw Env}{oe:Obj}
section
variable{M:D0}{L e T:AM}{vs:Array zt}{a0:zt×zt}{cls fl:zt}{Q:Unit->C3->Prop}{Ts:Lw AM}
def Stp.refl(F Y:Lw AM)(h:A1):Stp F Y h h:=(λ_ _ _ _ q=>q,λ_ o _ q=>(o.slots,q,),)
def zg{J:Bool}{i:zt}(H:A.frames=Lg (env :: outer))(v:s.heap.FunFrames base (env :: outer))(I:env.frame=Lg L)(u:s.heap.get? e=Lg oe)(k:oe.data=.fields vs)(n:1<vs.size)
  (h:∀h' T r d,Stp (frs (env :: outer)) [e] s.heap h'->h'.get? e=Lg (wf (·.setIfInBounds 1 (.ref T)) oe)->s.heap.get? T=Lh->T≠e->h'.get? T=Lg r->r.data=.fields d->d[3]?=Lg (Jh L)->Q () { s with heap:=h' }) :
  D2 M A (do let a ←frameOf env;let pl ←entryPlaceOf L J;let b ←MK i a .none (Jh L) .none pl;Ko (.ref e) 1 b) Q E s:=by
 let t:e ∉ frs (env :: outer):=λz=>by
  let(_,K,p,F):=v.mem z;rw[u]at p;cases p;exact F vs k
 calc yN<|wpAny_frameOf_fun H v I λc j=>yN<|wpAny_entryPlaceOf λpl ok=>?_;let x:c.get? e=Lg oe:=(j.2.1 e t).trans u;let l:c.objs.size=↥s:=j.1;let m:∀(O:Obj)(d:Array zt),O.data=.fields d->d[3]?=Lg (Jh L)->D2 M A (Ko (.ref e) 1<|.ref c.objs.size) Q E { s with heap:=c.push O }:=λO d y B=>by
  let w:=am O x;let ne:c.objs.size≠e:=uK<|bi x;let f:∀b,b≠e->((c.push O).update e (wf (·.setIfInBounds 1 (.ref c.objs.size)))).get? b=(c.push O).get? b:=λb g=>ss _ _<|FM g
  refine Kp w k n<|h _ c.objs.size O d (λb o g G q=>?_,λb o g q=>?_,) (v6 _ w<|Ma<|LS k _) (A1.get?_none_of_le (by rw[l];exact sT _)) ne ((f _ ne).trans<|ii c<|Ma y) y B
  .exact(f b λz=>G (by simp[z])).trans (am O<|(j.2.1 b g).trans q)
  .let(C,D):=j.2.2 b o q;exact(C,(f b λz=>t<|z ▸ g).trans<|am O D,)
 unfold MK newFields;exact yN<|Kc (m _ _ U (by rcases ok with rfl|⟨_,_,_,_,_,_,_,rfl⟩ <;> simp)) (ok.sizeOk5 _ _ _ _ _)
def note(N:A.frames=Lg (env :: outer))(H:s.heap.FunFrames base (env :: outer))(G:env.frame=Lg L)(x:zf s.heap L e cls a0 Ts)
  (h:∀h' j,Stp (frs (env :: outer)) (e :: Ts) s.heap h'->tX h' e j cls a0 (Jh L)->(s.heap.get? j=Lh\/j∈Ts)->Q () { s with heap:=h' }):D2 M A (J7 (.ref e) env) Q E s:=by
 let sz:∀{vs:Array zt}{x:zt},vs[1]?=Lg x->1<vs.size:=λz=>(LO.mp z).1
 let P:∀{oe:Obj}{vs:Array zt}{h':A1}{T:AM}{i:Obj}{f:Array zt},oe.cls=cls->oe.data=.fields vs->1<vs.size->vs[0]?=Lg a0.1->vs[2]?=Lg a0.2->h'.get? e=Lg (wf (·.setIfInBounds 1 (.ref T)) oe)->T≠e->h'.get? T=Lg i->i.data=.fields f->f[3]?=Lg (Jh L)->tX h' e T cls a0 (Jh L) :=
  λ{oe vs h' T i f} c d l W V w g v u t=>(_,_,i,f,w,((Obj.cls_mapFields _ _).trans c,by rw[Mu ⋯];exact W,by rw[Mu ⋯];exact V,),LS d _,by simp[l],g,v,u,t,)
 unfold J7;simp only[G];cases x with
 | @fresh oe vs he hc hd h1 h0 h2 =>
  calc yN<|Kq he hd h1 ?_;rw[Lm ⋯];exact zg N H G he hd (sz h1) λh' T i f D w g v u t F=>h h' T D (P hc hd (sz h1) h0 h2 w v u t F)<|.inl g
 | @fly T x =>
  let(oe,vs,i,f,C,(J,S,R),r,p,I,n,m,B):=x;let a:∀b,b≠T->(s.heap.update T (wf (·.setIfInBounds 3 zt.none))).get? b=s.heap.get? b:=λb k=>ss _ _<|FM k
  let O:∀b o,s.heap.get? b=Lg o->(∀vs,o.data≠.fields vs)->b≠T:=λb o q y z=>y f (by rw[z,n]at q;cases q;exact m)
  calc yN<|Kq C r p ?_;rw[Lo (show(zt.ref T != zt.none)=Li by simp)];calc yN<|Kq n m B ?_;rw[Lm (show ¬ (zt.none == Jh L)=Li by simp[Jh])];calc yN<|Kp n m (LO.mp B).1 ?_;refine zg (s:={ s with heap:=s.heap.update T (wf (·.setIfInBounds 3 zt.none)) }) N (H.of_keeps λb o q y=>(o,(a b<|O b o q y).trans q,U,)) G ((a e<|FM I).trans C) r (sz p) λh' j Y X D w g v u t F=>?_
  refine h h' j (λb o k K q=>D.keep b o k (λz=>K<|dy.mpr<|.inl<|~~~z)<|(a b λz=>K (by simp[z])).trans q,λb o k q=>?_,) (P J r (sz p) S R w v u t F) ?_
  .let(_,Z,g,y):=H.mem k;rw[q]at g;cases g;exact D.slot b o k<|(a b<|O b o q y).trans q
  .by_cases z:j=T
   .exact .inr (by simp[z])
   .exact .inl<|(a j z).symm.trans g
 | @held T x =>
  let(oe,vs,i,f,C,J,r,p,I,n,m,B):=id x;calc yN<|Kq C r p ?_;rw[Lo (show(zt.ref T != zt.none)=Li by simp)];calc yN<|Kq n m B ?_;rw[Lo (show(Jh L == Jh L)=Li by simp)];calc yU<|h s.heap T (Stp.refl _ _ _) x<|.inr (by simp)
def qR{fr:Option AM}{l:Lw Env}(w:s.heap.FunFrames base l)(x:tX s.heap e T cls a0 fl)(h:∀h',Stp (frs l) [e,T] s.heap h'->tX h' e T cls a0 (fr.elim zt.none λf=>Jh f)->Q () { s with heap:=h' }):D2 M A (Kr (.ref e) fr) Q E s:=by
 let(oe,vs,y,n,m,t,k,j,i,g,c,r):=x;let sz:3<n.size:=(LO.mp r).1;let a:∀b,b≠T->(s.heap.update T (wf (·.setIfInBounds 3 (fr.elim zt.none λf=>Jh f)))).get? b=s.heap.get? b:=λb d=>ss _ _<|FM d
 unfold Kr;calc yN<|Kq m k j ?_;rw[Lo (show(zt.ref T != zt.none)=Li by simp)];refine Kp g c sz (h _ (λb o d v q=>(a b λz=>v (by simp[z])).trans q,λb o d q=>?_,) (oe,vs,_,_,(a e<|FM i).trans m,t,k,j,i,v6 _ g<|Ma<|LS c _,LS c _,by simp[sz],));let(_,B,p,u):=w.mem d;rw[q]at p;cases p;calc⟨o.slots,(a b λz=>u n (by rw[z,g]at q;cases q;exact c)).trans q⟩
def Stp.then{F Y Z:Lw AM}{h f e:A1}(x:Stp F Y h f)(y:Stp F Z f e)(hz:∀b o,h.get? b=Lg o->b∈Z->b∈Y):Stp F Y h e :=
 (λb o a d q=>y.keep b o a (λz=>d<|hz b o q z)<|x.keep b o a d q,λb o a q=>by
  let(j,i):=x.slot b o a q;let(c,g):=y.slot b _ a i;exact(c,g,),)
def Stp.frames{Y:Lw AM}{h a:A1}{l:Lw Env}(x:Stp (frs l) Y h a)(g:h.FunFrames base l):a.FunFrames base l:=by
 let:∀(F:Lw AM)(m:Lw Env),(∀b∈frs m,b∈F)->Stp F Y h a->h.FunFrames base m->a.FunFrames base m:=λF m=>by
  induction m with
  |nil=>intro _ _ z;exact z
  |cons v m f =>
   rintro d x ⟨k,⟨L,o,c,n,j,i⟩,r⟩;let(p,q):=x.slot L o (d L (by unfold frs;rw[kW,c];exact gs)) j;exact(k,(L,_,c,n,q,i,),f (λb e=>d b (by unfold frs at e⊢;rw[kW,c];exact fj _ e)) x r,)
 calc this _ l (λ_ z=>z) x g
def land{E2:zt->C3->Prop}(l:A.frames=Lg (env :: outer))(i:s.heap.FunFrames base (env :: outer))(m:env.frame=Lg L)(x:rR s.heap e T cls a0)
  (h:∀h' c,Stp (frs (env :: outer)) [e,T] s.heap h'->rR h' e c cls a0->(s.heap.get? c=Lh\/c=T)->Q () { s with heap:=h' }):D2 M A (J7 (.ref e) env) (λ_ k=>D2 M A (Kr (.ref e) Lh) Q E k) E2 s:=by
 refine note l i m (.fly x) λg c f x a=>?_
 let a:s.heap.get? c=Lh\/c=T:=a.imp id λz=>~~~z
 exact qR (s:={ s with heap:=g }) (f.frames i) x λn d j=>h n c (f.then d λb o q z=>by
  rcases dy.mp z with z|z
  .simp[z]
  .rw[show b=c by simpa using z]at q⊢;rcases a with a|a
   .rw[a]at q;cases q
   .simp[a]) j a
def Df{l:Lw Env}(d:s.heap.FunFrames base l)(x:rR s.heap e T cls a0)
  (h:∀h' a,Stp (frs l) [e,T] s.heap h'->rR h' e a cls a0->(s.heap.get? a=Lh\/a=T)->Q () { s with heap:=h' }):D2 M A (Kr (.ref e) Lh) Q E s :=
 qR d x λh' c b=>h h' T c b<|.inr U
end
variable{P:zA}{H:Hp}{h':A1}
section
variable{H':Hp}{h:A1}{a:AM}{o:HO}{F Y fs:Lw AM}
def dJ.there(x:dJ P w H h a o):∃b,h.get? a=Lg b:=by
 cases o with
 |lst d=>obtain⟨_,_,_,_,e⟩:=x;exact(_,e,)
 |tup d=>obtain⟨_,_,_,b,e,_⟩:=x;exact(_,e,)
 |dK c=>obtain⟨_,_,_,_,o,_,_,e,_⟩:=x;exact(_,e,)
 |dT c=>obtain⟨_,_,_,_,o,_,_,e,_⟩:=x;exact(_,e,)
 |set S n=>obtain⟨o,_,_,_,e,_⟩:=x;exact(_,e,)
 |ins C j fs=>obtain⟨_,_,_,e,_⟩:=x;exact(_,e,)
 |own y=>obtain⟨_,e⟩:=x;exact(_,e,)
 |xd fs=>obtain⟨_,⟨_,_,_,e,_⟩,_⟩:=x;exact(_,e,)
 |rng lo hi=>obtain⟨_,_,_,e⟩:=x;exact(_,e,)
 |frz b u=>obtain⟨e,_⟩:=x;exact(_,e,)
 |tbl i=>exact(_,(show h.get? a=Lg _ from x),)
 |met f y=>exact(_,(show h.get? a=Lg _ from x),)
 |ext g=>obtain⟨_,⟨_,e⟩,_⟩:=x;calc(_,e,)
def HOk.none_of(x:HOk P w H h)(e:h.get? a=Lh):H a=none:=by
 cases q:H a with
 |none=>rfl
 |some u =>
  let(b,z):=(x a u q).there;rw[e]at z;cases z
def HOk.stp(x:HOk P w H h)(st:Stp F Y h h')(g:∀b∈F,H b=Lh)(f:∀b∈Y,H b=Lh):HOk P w H h':=λa o e =>
 (x a o e).stay (λb u c q=>by
  let d:H b≠none:=by
   rcases c with rfl|c
   .rw[e];simp
   .rw[c];simp
  exact st.keep b u (λz=>d<|g b z) (λz=>d<|f b z) q) (λ_ q=>q) λ_ _ q=>q
def Un.stp{k:Hp}{d:A1}(u:Un fs [] k H d h)(st:Stp F Y h h')(r:∀b o,d.get? b=Lg o->b∈F->b∈fs)(p:∀b∈fs,b∈F)(m:∀b∈Y,d.get? b=Lh):Un fs [] k H d h':=by
 let i:∀b o,d.get? b=Lg o->b ∉ Y:=λb o q z=>by rw[m b z]at q;cases q
 refine(λb o q n c a=>st.keep b o (λz=>c<|r b o q z) (i b o q)<|u.keep b o q n c a,λb o q n c a=>?_,u.free,λb o q a=>?_,u.tups,u.frzs,u.tbls,)
 .let(s,f):=u.slot b o q n c a;let(e,g):=st.slot b _ (p b c) f;exact(e,g,)
 .let(l,f):=u.there b o q a;by_cases j:b∈F
  .let(e,g):=st.slot b _ j f;exact(_,g,)
  .exact(_,st.keep b l j (i b o q) f,)
end
def  CX1(P:zA)(w:zz):CXT:=λouter H s E d a=>∃(e T C:AM)(c:zt×zt)(b:Hp),d=.ref e/\a.os=s.os/\AllBare a.gens/\Un (frs outer) [] H b s.heap a.heap/\HOk P w b a.heap /\
 rR a.heap e T (.ref C) c/\s.heap.get? e=Lh/\s.heap.get? T=Lh/\b e=Lh/\b T=Lh/\∃m,(m=Lh->c.2=.none)/\E (.ref C) m b
structure cY(X:Cx)(Ll:Lw (AM×Obj))(H:Hp)(b:AM):Prop where
 ent:X.s₀.heap.get? b=Lh
 unt:H b=Lh
 loc:b≠X.env.locals
 cel:∀x c,X.env.cells.lookup x=Lg c->c≠b
 pin:∀p∈X.pn++Ll,p.1≠b
variable{Ll:Lw (AM×Obj)}{σ:St}
section
variable{e T:AM}
def Inv.newAt(I:Inv X Ll σ H s)(e:X.ex=[]){b:AM}(a:s.heap.get? b=Lh):cY X Ll H b:=by
 refine(?_,I.hok.none_of a,?_,?_,?_,)
 .cases q:X.s₀.heap.get? b with
  |none=>rfl
  |some o =>
   let(h,d):=I.base.there b o q (by rw[e];simp);rw[a]at d;cases d
 .rintro rfl;let(m,(o,_,_,q,_),_):=I.loc;rw[a]at q;cases q
 .rintro x c g rfl;let(v,o,q,_):=I.cell x c g;rw[a]at q;cases q
 .rintro p f rfl;let(q,_):=I.pin p f;rw[a]at q;cases q
def Inv.excStep(I:Inv X Ll σ H s)(hx:X.ex=[])(st:Stp (frs X.stack) [e,T] s.heap h')(ne:cY X Ll H e)(N:cY X Ll H T):Inv X Ll σ H { s with heap:=h' }:=by
 let j:∀b∈[e,T],cY X Ll H b:=λb g=>by
  rcases dy.mp g with rfl|g
  .exact ne
  .rw[show b=T by simpa using g];exact N
 let E:∀b,b≠X.env.locals->b ∉ X.fs->b ∉ frs X.stack:=λb V S z=>(dy.mp<|I.stkSub b z).elim V S
 let y:∀b o,X.s₀.heap.get? b=Lg o->b ∉ [e,T]:=λb o q z=>by rw[(j b z).ent]at q;cases q
 let C:∀b o,X.s₀.heap.get? b=Lg o->b≠X.env.locals:=λb o q=>tj<|tN (bi q) I.ok.above
 let any:∀b o,b ∉ [e,T]->s.heap.get? b=Lg o->∃w,h'.get? b=Lg { o with slots:=w }:=λb o O q=>by
  by_cases K:b∈frs X.stack
  .exact st.slot b o K q
  .exact(o.slots,st.keep b o K O q,)
 let f:∀x c,X.env.cells.lookup x=Lg c->∀v,s.heap.IsCell c v->h'.IsCell c v:=λx c h v (o,P,R,)=>by
  let(w,q):=any c o (λz=>(j c z).cel x c h U) P;exact(_,q,R,)
 refine(I.ok,I.os,I.bare,(λb o q n g a=>?_,λb o q n g a=>?_,I.base.free,λb o q a=>?_,I.base.tups,I.base.frzs,I.base.tbls,),?_,λx c h=>?_,I.free,I.freeC,λp J=>?_,I.hok.stp st I.stkFree<|λb g=>(j b g).unt,I.len,)
 .exact st.keep b o (E b (C b o q) g) (y b o q)<|I.base.keep b o q n g a
 .let(w,B):=I.base.slot b o q n g a;let(t,A):=any b _ (y b o q) B;exact(t,A,)
 .let(o1,B):=I.base.there b o q a;let(t,A):=any b _ (y b o q) B;exact(_,A,)
 .let(m,(M,W,Y,D,r),Q):=I.loc;let(w,q):=any X.env.locals M (λz=>(j _ z).loc U) D;calc(m,(_,W,Y,q,r,),λi x v e1 e2 Z=>?_,);let(u,L,l):=Q i x v e1 e2 Z;calc(u,L,?_,);rcases l with l|⟨k,c,h,z⟩
  .exact .inl l
  .exact .inr (k,c,h,f x c h _ z,)
 .let(v,z):=I.cell x c h;exact(v,f x c h v z,)
 .let(q,n,G,F,d):=I.pin p J;calc(st.keep p.1 p.2 (E p.1 G F) (λz=>(j _ z).pin p J U) q,n,G,F,d,)
end
structure ExcCls(K:ac)(C:AM):Prop where
 ex:∃(bmB bmN:Lw zt)(newId B Bn nid pE inN:String),W.excIn K C bmB newId=Li/\Ks Bn newId inN bmN/\bmB.contains (zt.type Bn)=Li/\Ks B nid pE bmB
def ExcCls.value{K:ac}{C:AM}(h:W.excIn K C [.type "ValueError",.type "Exception",.type "BaseException",.type "object"] "ValueError.__new__" = Li):ExcCls K C :=
 (_,_,_,_,_,_,_,_,h,PySem.F.excBase_ValueError,⋯,PySem.F.excBase_ValueError,)
def ExcCls.obj{K:ac}{C:AM}{h:A1}{a:Lw zt}{newId:String}(b:K.In h)(e:W.excIn K C a newId=Li):∃bm N nm q bs hdct sn sub ab col dd k0 k1 k2 k3 k5 mN,
   h.get? C=Lg (Kt nm q C N bs bm hdct sn sub ab col dd k0 k1 k2 k3 k5 newId)/\h.Ns N mN/\mN "__init__" = Lh/\Ku h a bm:=by
 unfold W.excIn at e;split at e
 .rename_i dd cd sl lk
  split at e
  .rename_i C' bm k0 k1 k2 k3 n k5 em es
   simp only[wF,beq_iff_eq,Nv]at e;let(((((rfl,rfl),g),f),c),hi):=e;let(nm,bs,j,i,q,hdct,sn,sub,ab,col,k):=cd;dsimp only at em g f c hi;subst em g;let d:sl = #[k0,k1,k2,k3,Lg<|zt.builtin n,k5]:=by
    apply yy.mp
    rw[es]
   subst d;exact(bm,i,nm,q,bs,hdct,sn,sub,ab,col,dd,k0,k1,k2,k3,k5,_,b _ _ lk,A1.Ns.of_isNs<|W.isNs_of_in b c,W.nsMap_none_of_in b c hi,W.tail_of_in b f,)
  .cases e
 .cases e
variable{K:ac}{mg:Str->Option zt}{N:Lw Str}{qual:Str}{scope:C4}{f:AM}{cd:zt}{s0:C3}{H0:Hp}
section
variable{E:XK}
def  Dg(C:AM)(E:XK)(t:TA):TS:=λ_ σ H=>t σ H λa b=>⇑a<=A8/\E (.ref C) Lh b
end
def  XP(X:Cx)(Ll:Lw (AM×Obj))(σ:St)(d:AM->NB)(b:zt)(s':C3):Prop :=
 ∃(e T C:AM)(c:zt×zt)(a:Hp),b=.ref e/\Inv X Ll σ a s'/\rR s'.heap e T (.ref C) c/\cY X Ll a e/\cY X Ll a T/\d C a
def  bD(P:zA)(w:zz)(K:ac)(mg:Str->Option zt)(base:A1)(k:Nat)(x:Str)(ps:Lw Str)(sp:Sp):Prop :=
 ∃f a,aR P w K mg base (CX1 P w) k f a ps sp/\Binds K a ps []/\LH K (.ref f)=Li/\mg x=↑f
def bD.mono{P:zA}{w:zz}{K:ac}{mg:Str->Option zt}{base:A1}{j k:Nat}{x:Str}{ps:Lw Str}{sp:Sp}(C:bD P w K mg base j x ps sp)(h:j<=k):bD P w K mg base k x ps sp:=by
 let(f,a,F,r):=C;calc(f,a,F.mono h,r,)
variable{s':C3}
variable{e:Ew}{x:Str}{ps:Lw Str}{sp:Sp}{es:Lw Ew}{t:TA}{p pos:Pos}
section
variable{k:Nat}
abbrev TSX:=Ends->St->Hp->(AM->NB)->Prop
end
def  sfx(X:Cx)(e:AM)(oe:Obj):Cx:={ X with A:=X.A.mark<|↑e,calm:=Lj,pn:=(e,oe) :: X.pn,xe:=λ_ _=>False }
section
variable{e:AM}
def Inv.suite(I:Inv X Ll σ H s)(d:s.heap.get? e=Lg oe)(b:cY X Ll H e)(f:∀v,oe.data≠.cell v)(c:e ∉ X.fs):Inv (sfx X e oe) Ll σ H s:=by
 calc((I.ok.mod,I.ok.kind,I.ok.glob,I.ok.blt,I.ok.above,I.ok.inj,I.ok.has,I.ok.cab,λz=>Lp z bv,I.ok.frames,I.ok.stk,I.ok.exf,I.ok.bs,I.ok.bsz,I.ok.noex,I.ok.exfs,I.ok.funs,I.ok.frf,),I.os,I.bare,I.base,I.loc,I.cell,I.free,I.freeC,λp a=>?_,I.hok,I.len,);rcases dy.mp (show p∈(e,oe) :: (X.pn++Ll)from a)with rfl|a
 .exact(d,b.unt,b.loc,c,f,)
 .exact I.pin p a
def Inv.unsuite(ok:X.Ok)(I:Inv (sfx X e oe) Ll σ H s):Inv X Ll σ H s :=
 (ok,I.os,I.bare,I.base,I.loc,I.cell,I.free,I.freeC,λp a=>I.pin p<|fj (e,oe) a,I.hok,I.len,)
def Inv.excObj(I:Inv (sfx X e oe) Ll σ H s):s.heap.get? e=Lg oe:=(I.pin (e,oe)<|gq _ gs).1
end
variable{st:EV}{np Dh:Pos}
section
variable{b₀:EV}{su:Lw EV}{tb:TSX}{ts:AM->AM->TS}{Tn n:Str}{B:AM}
end
structure js(K:ac)(C:AM):Prop where
 ga:wT K (.ref C) "__getattribute__" = Lg (Lg<|.builtin "BaseException.__getattribute__")
 hk:wT K (.ref C) "__getattr__" = Lg Lh
 cl:wT K (.ref C) "__class__" = Lg (Lg<|.builtin "object.__class__")
 gt:L1 K (.builtin "object.__class__") "__get__" = Lg (Lg<|.builtin "getset_descriptor.__get__")
 tk:W.takesIn K (.builtin "object.__class__")=Lg Li
 ob:W.mroIn K C (.type "object")=Lg Li
 be:W.mroIn K C (.type "BaseException")=Lg Li
 me:W.kitCls K (.ref C) (.ref C)=Lg Li
variable{C:AM}
section
variable{e:AM}
def vj{a:A1}(g:a.get? e=Lg oe)(c:oe.cls=.ref C){M:D0}:W.Looks M a (typeOf<|.ref e) (.ref C):=λf b d s' k r=>by
 let z:=wpAny_typeOf_ref (M:=M) (A:=f) (E:=d) (Q:=b)<|k _ _ g;rw[c]at z;calc z r
end
section
variable{e:AM}
end
inductive EG(c:Str)(Q:VK)(x:V)(H1:Hp):Prop
 |mk (z:Str)(_:x=.str z)(_:⇑z<=1000)(_:(∀n∈z.cps.toList,n<16^8))(_:⇑c<=1000)(_:∀z2:Str,Q (.str z2) H1)
def  tFr(c:Str)(a:TE):TE:=λσ H Q=>a σ H λx b=>EG c Q x b
def len_app(x y:Str):⇑(x++y)=⇑x+⇑y:=by
 show(wp x y).cps.size=x.cps.size+y.cps.size;unfold wp;simp
def tY{a:Ew}{g:TE}{c:Str}{k:Nat}{p l pos:Pos}(w:PE X a g):PE X (.JoinedStr [.FormattedValue a 114 Lh p,.Constant (.str c) k l] pos) (tFr c g):=by
 intro Ll s σ H Q I h;calc Kv<|Kw<|Kx<|thn (w Ll s σ H _ I h) λv i (x,f,E,o,z,A,N,u,P,q,)=>?_;subst A;let(t,rfl):=o;let O:=L6 z u;let b:∀n,n<=20000->n<=A8:=λn r=>tm r ⋯
 calc Ky (formatField_str (λL d=>?_)<|b _ ∅)<|b _ ∅;let e:∀y:Str,⇑(tz++y)=⇑y:=λy=>by rw[len_app];show 0+_=_;lia
 refine(_,_,U,b _ (by rw[e];lia),Kw ?_,);let J:Inv X Ll σ f { i with toks:=d }:=E.tok d;refine thn (aN (X:=X) (x:=c) (j:=k) (pos:=l) Ll { i with toks:=d } σ f (λv G=>v=.str c/\G=f) J (U,U,)) λv M (y,F,D,m,C,B,)=>?_
 subst C B;let(K,rfl):=m;refine(_,_,U,b _ (by rw[len_app,e];lia),Kz (b _ (by rw[len_app,e];lia),?_,),);calc(.str _,F,D.tok _,(_,U,),q _,)
def qS{P:zA}{w:zz}{X:Cx}:Passes (CX1 P w) X E0:=λ_ _ _ _ _ _ _ h=>by
 let(_,_,_,_,_,_,_,_,_,_,_,_,_,_,_,_,_,q):=h;calc ut q
def  bE(CX:CXT)(P:zA)(w:zz)(K:ac)(mg:Str->Option zt)(base:A1)(k:Nat)(C:AM)(m:Str)(ps:Lw Str)(sp:Sp):Prop :=
 ∃f a,Meth K C m f/\aR P w K mg base CX k f a ps sp/\Binds K a ps []
def  bB(CX:CXT)(P:zA)(w:zz)(K:ac)(mg:Str->Option zt)(base:A1)(k:Nat)(x:Str)(C:AM)(ps:Lw Str)(sp:Sp):Prop :=
 ∃f a,Mk K C f/\aR P w K mg base CX k f a ps sp/\Binds K a ps []/\mg x=↑C
structure EH(K:ac)(B:AM)(m:Str)(f:AM):Prop where
 sp:L1 K (.ref B) "__getattribute__" = Lg (Lg<|.builtin "type.__getattribute__")
 rd:W.readsIn K B (.type "type")=Li
 at_:W.findCls K (.ref B) (.type "type") m=Lg (.val<|.ref f)
 kp:LH K (.ref f)=Li
def  cU(CX:CXT)(P:zA)(w:zz)(K:ac)(mg:Str->Option zt)(base:A1)(k:Nat)(x:Str)(m:Str)(ps:Lw Str)(sp:Sp):Prop :=
 ∃f a B,EH K B m f/\aR P w K mg base CX k f a ps sp/\Binds K a ps []/\mg x=↑B
variable{CX:CXT}{m:Str}
section
variable{j k:Nat}
def bE.mono(c:bE CX P w K mg base j C m ps sp)(h:j<=k):bE CX P w K mg base k C m ps sp:=by
 let(f,a,M,F,b):=c;calc(f,a,M,F.mono h,b,)
def bB.mono(c:bB CX P w K mg base j x C ps sp)(h:j<=k):bB CX P w K mg base k x C ps sp:=by
 let(f,a,M,F,b):=c;calc(f,a,M,F.mono h,b,)
def cU.mono(c:cU CX P w K mg base j x m ps sp)(h:j<=k):cU CX P w K mg base k x m ps sp:=by
 let(f,a,B,M,F,b):=c;calc(f,a,B,M,F.mono h,b,)
end
inductive EI(C:AM)(m:Str)(sp:Sp)(t:TA)(σ:St)(Q:VK)(x:V)(H1:Hp):Prop
 |mk (a dx fs:_)(_:x=.ref a)(_:H1 a=Lg (.ins C dx fs))(_:fs.lookup m=Lh)(_:t σ H1 λvs H2=>sp (x :: vs) H2 Q E0)
def  tMt(C:AM)(m:Str)(sp:Sp)(a:TE)(t:TA):TE:=λσ H Q=>a σ H λx b=>EI C m sp t σ Q x b
def  tMk(C:AM)(sp:Sp)(t:TA):TE:=λσ H Q=>t σ H λc b=>∀x a,b x=Lh->b a=Lh->a≠x ->
 sp (.ref x :: c) (upd (upd b a<|.own x) x<|.ins C a []) (λv d=>v=.non/\Q (.ref x) d) E0
variable{fd:JB}{apos:Pos}{o:Ew}{ta:TE}
section
variable{k:Nat}
def xI{Ll:Lw (AM×Obj)}{σ:St}{H:Hp}{s:C3}{Q:VK}{us:Lw zt}{vs:Lw V}{E:XK}(F:aR X.prog X.w X.K X.mg X.base CX k f fd ps sp)(b:cS k X.A)(c:Binds X.K fd ps [])(a:Passes CX X E)
  (I:Inv X Ll σ H s)(r:Vals vs us)(h:sp vs H Q E):D2 (model X.prog X.w) X.A (call (.ref f) us) (EP X Ll σ Q) X.xe s :=
 u7 (dvs:=[]) (ds:=[]) F b c .nil a I r (by rw[jV];exact h)
def tZ{pl:Sem Bool}(M:bE CX X.prog X.w X.K X.mg X.base k C m ps sp)(z:Passes CX X E0)(c:Cls X.K C)(D:cS k X.A)(E:PE X o ta)(J:PA X (e :: es) t)
  (b:EN (e :: es) X.env=(Lj,eval e X.env) :: EN es X.env:=by rfl)(d:(EE pos<|EN es X.env).any (·.1)=false:=by rfl)
  (B:eval (.Call (.Attribute o m apos) (e :: es) [] pos) X.env=(do
   let g ←eval o X.env
   F6 apos.atName
   let (f,first) ←holding [g] (Jt g m pl)
   KA pos f first (EE pos<|EN (e :: es) X.env) (JS pos<|JT [] X.env)):=by rfl) :
  PE X (.Call (.Attribute o m apos) (e :: es) [] pos) (tMt C m sp ta t):=by
 let(f,fd,i,F,G):=M;intro Ll s σ H Q I h;calc LK (pl:=pl) (thn (E Ll s σ H _ I h) λu p (x,O,n,v,a,R,fs,L,N,l,q,)=>?_) B;subst L;obtain rfl:u=zt.ref a:=v;calc jn n N c i l ?_;calc Ix (first:=[.ref a]) (h₀:=X.base) I.ok.mod.kin i.kp (thn (J pos Ll p σ O _ n q) λus P (vs,S,j,r,y,)=>(j.kIn,?_,)) b d;calc xI (us:=.ref a :: us) (vs:=.ref a :: vs) F D G z j (.cons U r) y
def ir{pl:Sem Bool}(M:cU CX X.prog X.w X.K X.mg X.base k x m ps sp)(l:Passes CX X E0)(o:cS k X.A)(q:Gl X x)(y:PA X (e :: es) t)(d:(x == ("__debug__" : Str))=false:=by decide)
  (b:EN (e :: es) X.env=(Lj,eval e X.env) :: EN es X.env:=by rfl)(c:(EE pos<|EN es X.env).any (·.1)=false:=by rfl)
  (n:eval (.Call (.Attribute (.Name x np) m apos) (e :: es) [] pos) X.env=(do
   let g ←eval (.Name x np) X.env
   F6 apos.atName
   let (f,first) ←holding [g] (Jt g m pl)
   KA pos f first (EE pos<|EN (e :: es) X.env) (JS pos<|JT [] X.env)):=by rfl) :
  PE X (.Call (.Attribute (.Name x np) m apos) (e :: es) [] pos) (tFn sp t):=by
 let(f,fd,B,a,F,u,p):=M;intro Ll s σ H Q I h;calc LK (pl:=pl) (eV I q p ?_ d) n;calc W.method_cls I.kIn a.sp<|W.cls_value (mc:=.type "type") I.kIn a.rd a.at_ (qH (v:=.ref f) U) ?_;calc Ix (first:=[]) (h₀:=X.base) I.ok.mod.kin a.kp (thn (y pos Ll _ σ H _ (I.tok _) h) λus z (vs,C,i,r,j,)=>(i.kIn,?_,)) b c;calc xI (us:=us) (vs:=vs) F o u l i r j
def t6(M:bB CX X.prog X.w X.K X.mg X.base k x C ps sp)(l:Passes CX X E0)(m:cS (k+1) X.A)(o:Gl X x)(u:PA X (e :: es) t)(i:(x == ("__debug__" : Str))=false:=by decide)
  (he:EN (e :: es) X.env=(Lj,eval e X.env) :: EN es X.env:=by rfl)(g:(EE pos<|EN es X.env).any (·.1)=false:=by rfl) :
  PE X (.Call (.Name x p) (e :: es) [] pos) (tMk C sp t):=by
 let(f,fd,M,F,r,n):=M;let h:=AY (E:=E0) (dvs:=[]) (ds:=[]) (p:=p) M F m o n r .nil l u i he g;intro Ll s σ H Q I q;calc h Ll s σ H Q I ?_;let j:t σ H λc b=>∀x a,b x=Lh->b a=Lh->a≠x->sp (.ref x :: c) (upd (upd b a<|.own x) x<|.ins C a []) (λv d=>v=.non/\Q (.ref x) d) E0:=q
 show t σ H λc b=>∀x a,b x=Lh->b a=Lh->a≠x->sp (.ref x :: (c++[])) (upd (upd b a<|.own x) x<|.ins C a []) (λv d=>v=.non/\Q (.ref x) d) E0
 let y:(λ(c:Lw V)(b:Hp)=>∀x a,b x=Lh->b a=Lh->a≠x->sp (.ref x :: (c++[])) (upd (upd b a<|.own x) x<|.ins C a []) (λv d=>v=.non/\Q (.ref x) d) E0)=λc b=>∀x a,b x=Lh->b a=Lh->a≠x->sp (.ref x :: c) (upd (upd b a<|.own x) x<|.ins C a []) (λv d=>v=.non/\Q (.ref x) d) E0:=by
  funext c b
  rw[jV]
 rw[y];calc j
end
inductive Shw:V->Prop where
 |non:Shw .non
 |bl (b:Bool):Shw (.bl b)
 |int {i:Int}(h:i.natAbs<10^60):Shw (.int i)
 |str {z:Str}(h:⇑z<=1000)(k:∀n∈z.cps.toList,n<16^8):Shw (.str z)
def gu{n:Int}(h:n.natAbs<10^60):n.natAbs.log2<1920:=by
 by_cases z:n.natAbs=0
 .rw[z];decide
 .let:=(Nat.log2_lt (k:=200) z).mpr<|vY h ⋯;lia
def  F9(c:Str)(ta:TE):TE:=λσ H Q=>ta σ H λx b=>Shw x/\⇑c<=1000/\∀a:Str,Q (.str a) b
def zh{a:Ew}{ta:TE}{c:Str}{k:Nat}{M B pos:Pos}(P:PE X a ta):PE X (.JoinedStr [.FormattedValue a 114 Lh M,.Constant (.str c) k B] pos) (F9 c ta):=by
 intro Ll s σ H Q I h;let f:∀n,n<=20000->n<=A8:=λn O=>tm O ⋯
 calc Kv<|Kw<|Kx<|thn (P Ll s σ H _ I h) λv m (x,g,D,C,L,S,q,)=>?_;let l:∀y:Str,⇑(tz++y)=⇑y:=λy=>by rw[len_app];show 0+_=_;lia
 cases L with
 |non =>
  cases (show v=zt.none from C);calc pyReprObj_none<|formatField_str (λF d=>?_) ⋯;calc(_,_,U,⋯,Kw ?_,);let J:Inv X Ll σ g { m with toks:=d }:=D.tok d;refine thn (aN (X:=X) (x:=c) (j:=k) (pos:=B) Ll { m with toks:=d } σ g (λv A=>v=.str c/\A=g) J (U,U,)) λv G (y,w,u,o,r,p,)=>?_
  subst r p;let(E,rfl):=o;let K:⇑(tz++s!"None")=4:=⋯
  refine(_,_,U,f _ (by rw[len_app,K];lia),Kz (f _ (by rw[len_app,K];lia),?_,),);exact(.str _,w,u.tok _,(_,U,),q _,)
 |bl b =>
  cases (show v=zt.bool b from C);let N:⇑(if b then s!"True"else s!"False")<=5:=by cases b <;> decide
  calc pyReprObj_bool<|formatField_str (λF d=>?_)<|f _ ∅;refine(_,_,U,f _ (by rw[l];lia),Kw ?_,);let J:Inv X Ll σ g { m with toks:=d }:=D.tok d;refine thn (aN (X:=X) (x:=c) (j:=k) (pos:=B) Ll { m with toks:=d } σ g (λv A=>v=.str c/\A=g) J (U,U,)) λv G (y,w,u,o,r,p,)=>?_
  subst r p;let(E,rfl):=o;refine(_,_,U,f _ (by rw[len_app,l];lia),Kz (f _ (by rw[len_app,l];lia),?_,),);exact(.str _,w,u.tok _,(_,U,),q _,)
 | @int i hi =>
  let(t,rfl):=(show ∃t,v=zt.int i t from C);let N:⇑(lm<|toString i)<=61:=by
   let e:⇑(lm<|toString i)=⇑(toString i):=by
    rw[Ly];show(List.map No (toString i).toList).toArray.size=_;rw[eG,ck];exact M0
   rw[e];exact KC ⋯ hi
  calc pyReprObj_int (gu hi)<|formatField_str (λF d=>?_)<|f _ ∅;refine(_,_,U,f _ (by rw[l];lia),Kw ?_,);let J:Inv X Ll σ g { m with toks:=d }:=D.tok d;refine thn (aN (X:=X) (x:=c) (j:=k) (pos:=B) Ll { m with toks:=d } σ g (λv A=>v=.str c/\A=g) J (U,U,)) λv G (y,w,u,o,r,p,)=>?_
  subst r p;let(E,rfl):=o;refine(_,_,U,f _ (by rw[len_app,l];lia),Kz (f _ (by rw[len_app,l];lia),?_,),);exact(.str _,w,u.tok _,(_,U,),q _,)
 | @str z hz hc =>
  let(t,rfl):=(show ∃t,v=zt.str z t from C);let R:=L6 z hc;calc Ky (formatField_str (λF d=>?_)<|f _ ∅)<|f _ ∅;refine(_,_,U,f _ (by rw[l];lia),Kw ?_,);let J:Inv X Ll σ g { m with toks:=d }:=D.tok d;refine thn (aN (X:=X) (x:=c) (j:=k) (pos:=B) Ll { m with toks:=d } σ g (λv A=>v=.str c/\A=g) J (U,U,)) λv G (y,w,u,o,r,p,)=>?_
  subst r p;let(E,rfl):=o;refine(_,_,U,f _ (by rw[len_app,l];lia),Kz (f _ (by rw[len_app,l];lia),?_,),);calc(.str _,w,u.tok _,(_,U,),q _,)
def iu{X:Cx}{K:ac}{e:Ew}{f:Str}{pos:Pos}{ta:TE}(h:X.K=K)(a:PE X e ta)(b:Jw e f X.env (eval e X.env)=eval e X.env):PE X (.Attribute e f pos) (Eo K ta f):=h ▸ aO a b
set_option maxRecDepth 100000
inductive DEq(K:ac)(H:Hp):Nat->V->V->Bool->Prop where
 |flat {n:Nat}{x y:V}(fx:dN x=Li)(fy:dN y=Li):DEq K H n x y (eqV x y)
 |same {n:Nat}(a:AM):DEq K H n (.ref a) (.ref a) Li
 |lst {n:Nat}{a b:AM}{xs ys:Lw V}{f:Nat->Bool}(ne:a≠b)(ha:SqL K H a xs)(hb:SqL K H b ys)(hl:⇑xs=⇑ys)(h:∀(j:Nat)(x y:V),xs[j]?=Lg x->ys[j]?=Lg y->DEq K H n x y (f j)):DEq K H (n+1) (.ref a) (.ref b) ((bn ⇑xs).all f)
 |lst_ne {n:Nat}{a b:AM}{xs ys:Lw V}(ne:a≠b)(ha:SqL K H a xs)(hb:SqL K H b ys)(hl:⇑xs≠⇑ys):DEq K H (n+1) (.ref a) (.ref b) Lj
 |tup {n:Nat}{a b:AM}{xs ys:Lw V}{f:Nat->Bool}(ne:a≠b)(ha:SqT K H a xs)(hb:SqT K H b ys)(h:∀(j:Nat)(x y:V),xs[j]?=Lg x->ys[j]?=Lg y->DEq K H n x y (f j)):DEq K H (n+1) (.ref a) (.ref b) ((bn<|min ⇑xs ⇑ys).all f && ⇑xs == ⇑ys)
def nj{xs:Lw V}{a:Lw zt}(r:Vals xs a){j:Nat}(h:j<a.toArray.size):∃x,xs[j]?=Lg x/\RelV x a.toArray[j]:=by
 let f:j<⇑a:= ~~~h
 let i:=⇑r;let b:xs[j]?=Lg xs[j]:=IU ∅;let(d,c,e):=r.get b;let g:a.toArray[j]=d:=by
  let:=IU f;rw[this]at c;simpa using gl c
 calc(xs[j],b,g ▸ e,)
def DEq.at{n:Nat}{x y:V}{b:Bool}(e:DEq X.K H n x y b)(I:Inv X Ll σ H s):∀{A:C2}{u v:zt},A.units+n<Jy->RelV x u->RelV y v->L3 A s u v b:=by
 induction e with
 |flat G F=>intro A u v o i g;exact rN i g G F
 |same a =>
  intro A u v o i g;cases (show u=zt.ref a from i);cases (show v=zt.ref a from g);exact LW _
 | @lst n a b xs ys f ne ha hb hl h ih =>
  intro A u v o i g;cases (show u=zt.ref a from i);cases (show v=zt.ref b from g);let(d,r,p,_):=I.list ha;let(c,k,l,_):=I.list hb;let E:=⇑r;let D:=⇑k;let m:=SeqAt.RcAt.lists (A:=A) (e:=f) p.isList l.isList (by simp only[eG];lia) ∅ (λj z w=>by
   let(x,C,t):=nj r z;let(y,B,q):=nj k w;exact ih j x y C B (by show A.units+1+n<Jy;lia) t q)
  rw[show d.toArray.size=⇑xs by simp only[eG];lia]at m;exact LB ne m
 | @lst_ne n a b xs ys ne ha hb hl =>
  intro A u v o i g;cases (show u=zt.ref a from i);cases (show v=zt.ref b from g);let(d,r,p,_):=I.list ha;let(c,k,l,_):=I.list hb;let E:=⇑r;let D:=⇑k;exact LB ne<|SeqAt.RcAt.lists_lengths p.isList l.isList (by simp only[eG,bne_iff_ne,ne_eq];lia) ∅
 | @tup n a b xs ys f ne ha hb h ih =>
  intro A u v o i g;cases (show u=zt.ref a from i);cases (show v=zt.ref b from g);let(d,r,p,_):=I.tuple ha;let(c,k,l,_):=I.tuple hb;let E:=⇑r;let D:=⇑k;let m:=MW (A:=A) (e:=f) (show s.heap.IsTuple a d.toArray from p) (show s.heap.IsTuple b c.toArray from l) ∅ (λj z w=>by
   let(x,C,t):=nj r z;let(y,B,q):=nj k w;exact ih j x y C B (by show A.units+1+n<Jy;lia) t q)
  rw[show d.toArray.size=⇑xs by simp only[eG];lia,show c.toArray.size=⇑ys by simp only[eG];lia]at m;calc LB ne m
inductive zi(K:ac)(neg:Bool)(x:V)(y:V)(H:Hp)(Q:VK):Prop
 |mk (a b xs ys:_)(_:x=.ref a)(_:y=.ref b)(_:SqL K H a xs)(_:SqL K H b ys)(_:((⇑xs≠⇑ys/\Q (.bl neg) H)\/(⇑xs=⇑ys/\∃f:Nat->Bool,(∀(j:Nat)(x y:V),xs[j]?=Lg x->ys[j]?=Lg y->DEq K H 60 x y (f j))/\Q (.bl (if neg then !(bn ⇑xs).all f else(bn ⇑xs).all f)) H)))
def Bh{Ll:Lw (AM×Obj)}{σ:St}{H:Hp}{s:C3}{A:C2}{xs ys:Lw V}{a its':Lw zt}{f:Nat->Bool}(I:Inv X Ll σ H s)(h:A.units+60<Jy)(r:Vals xs a)(d:Vals ys its')
  (hf:∀(j:Nat)(x y:V),xs[j]?=Lg x->ys[j]?=Lg y->DEq X.K H 60 x y (f j)):∀j (c:j<a.toArray.size)(b:j<its'.toArray.size),L3 A s a.toArray[j] its'.toArray[j] (f j):=λj c b=>by
 let(x,k,g):=nj r c;let(y,i,e):=nj d b;calc(hf j x y k i).at I h g e
def Bi{k:Nat}(n:cS k X.A):OpR X (Jp .Eq) (zi X.K Lj):=by
 intro Ll s σ H x y v u Q I m l h;let(a,b,j,z,rfl,rfl,w,t,h):=h;cases (show v=zt.ref a from m);cases (show u=zt.ref b from l);let(c,r,p,_):=I.list w;let(i,d,g,_):=I.list t;let C:=⇑r;let B:=⇑d;let D:=n.units;rcases h with⟨E,q⟩|⟨F,f,o,q⟩
 .refine MN p.isList g.isList (by simp only[eG,bne_iff_ne,ne_eq];lia) ∅ (.bl Lj,H,I,U,q,)
 .refine SeqAt.eq_listAt (e:=f) p.isList g.isList (by simp only[eG];lia) ∅ (Bh I (by show X.A.units+1+60<Jy;lia) r d o) (.bl _,H,I,U,?_,);rw[show c.toArray.size=⇑j by simp only[eG];lia];calc q
section
variable{κ:Type} [DecidableEq κ]
def  cntK(ks:Lw κ):Nat->Nat
 |0=>0
 |i+1=>match ks[i]? with
  |some k=>if k∈ks.take i then cntK ks i else cntK ks i+1
  |none=>cntK ks i
def mI(ks:Lw κ):∀i,cntK ks i<=i
 |0=>sT _
 |i+1=>by
  let a:=mI ks i;unfold cntK;split
  .split <;> lia
  .lia
def gN(ks:Lw κ):∀i,i<=⇑ks->(cntK ks i=i↔(ks.take i).Nodup)
 |0,_=>by simp[cntK]
 |i+1,h=>by
  let c:=gN ks i ∅;let le:=mI ks i;let e:ks[i]?=Lg ks[i]:=IU ∅;let g:ks.take (i+1)=ks.take i++[ks[i]]:=by rw[Ms,e];rfl
  unfold cntK;rw[e,g,nX];dsimp only;by_cases m:ks[i]∈ks.take i
  .rw[Lo m];exact(λz=>Lp z ∅,λz=>Lp U<|z.2.2 _ m _ (by simp),)
  .rw[Lm m];refine(λz=>(c.mp ∅,by simp,λa f b d=>?_,),λz=>by rw[c.mpr z.1],);rw[show b=ks[i] by simpa using d];calc λq=>m<|q ▸ f
variable{knd:KeyKind prog w κ}
def lR{h h':A1}{a:AM}{S:κ->Bool}{n:Nat}(x:h.SetOf knd a S n)(k:∀o,h.get? a=Lg o->h'.get? a=Lg o):h'.SetOf knd a S n:=by
 let(o,es,c,t,b,r):=x;calc(o,es,c,t,k o b,r,)
def pF{h:A1}{a:AM}{S c:κ->Bool}{n b:Nat}(x:h.SetOf knd a S n)(e:S=c)(d:n=b):h.SetOf knd a c b:=e ▸ d ▸ x
def xJ{R:Ju->C3->Prop}{I:AM}{C g:Lw AM}{G:Array Di->Array Di->Prop}{n:Nat}{P:Nat->zt->Prop}{St:Nat->C3->Prop}(W:WalksS prog w A.in1 I C g G n P St){a:AM}(B:a ∉ C){ks:Lw κ}
  (Q:∀i v,P i v->∃k,ks[i]?=Lg k/\knd.is k v=Li/\v.scannable=Li)(f:n+1<KD):∀(d i:Nat)(s:C3),n=i+d->St i s->s.heap.SetOf knd a (λk=>decide<|k∈ks.take i) (cntK ks i) ->
   (∀s',Moved (a :: g) G s s'->s'.heap.SetOf knd a (λk=>decide<|k∈ks.take n) (cntK ks n)->R (.ok<|.ret .none) s')->Jv (model prog w) A (.builtin "set.update.loop" ([.ref a,.ref I],[],)) R s:=by
 let u:a ∉ g:=λz=>B<|W.sub a z
 intro d;induction d with
 |zero =>
  intro i s e st x fin;rw[show n=i by lia]at W fin;calc KG (R:=R) (A:=A) Nb ?_;rw[Is (A:=A) L8 _];show D2 (model prog w) A.in1 (Je (.ref I) >>= _) _ _ s;exact yN<|W.done s _ _ st λs' m=>yU<|fin s' (m.mono λb f=>fj a f)<|lR x λo q=>m.heap a o u q
 |succ d O =>
  intro i s e st x fin;calc KG (R:=R) (A:=A) Nb ?_;rw[Is (A:=A) L8 _];show D2 (model prog w) A.in1 (Je (.ref I) >>= _) _ _ s;calc yN<|W.item i s _ _ ∅ st λv c p h m=>?_;let(k,D,t,L):=Q i v p;let K:=lR x λo q=>m.heap a o u q
  show D2 (model prog w) A.in1 (holding [v] (setAdd a v) >>= _) _ _ c;refine yN<|zb (show D2 (model prog w) A.in1 (setAdd a v) _ _ c from ?_);unfold setAdd;calc zb<|yN<|knd.pyHash t ?_;let le:=mI ks i;refine wpAny_setAddHashed_of (knd:=knd) (s:={ c with toks:=c.toks+1 }) t L K ∅ λh' r J=>?_
  let S:ks.take (i+1)=ks.take i++[k]:=by rw[Ms,D];rfl
  let H:h'.SetOf knd a (λq=>decide<|q∈ks.take (i+1)) (cntK ks<|i+1):=by
   refine pF J (funext λq=>?_) ?_
   .rw[S];by_cases z:q∈ks.take i <;> by_cases y:q=k <;> simp[z,y]
   .show(if decide (k∈ks.take i)=Li then cntK ks i else cntK ks i+1)=match ks[i]? with|some k=>if k∈ks.take i then cntK ks i else cntK ks i+1|none=>cntK ks i
    rw[D];by_cases z:k∈ks.take i <;> simp[z]
  calc yU (KH L8 _,O (i+1) { c with heap:=h',toks:=c.toks+1 } ∅ (W.frame (i+1) c h' (c.toks+1) h (u3 _) λb l o q=>(r.2 b λz=>B<|z ▸ l).trans q) H λM N E=>?_,);calc fin M (Moved.trans W.gtrans ((m.mono λb f=>fj a f).then_heap (u3 _) λb o j q=>?_) N) E;calc(r.2 b λz=>j<|z ▸ gs).trans q
abbrev lS(a:Bool):Obj:={ cls:=.type "set",dict:=Lh,data:=.set #[] 0 (.fresh 0 0 a) }
def  Filled(knd:KeyKind prog w κ)(s:C3)(ks:Lw κ)(h':A1):Prop :=
 h'.SetOf knd ↥s (λk=>decide<|k∈ks) (cntK ks ⇑ks)/\∀b o,b<↥s->s.heap.get? b=Lg o->h'.get? b=Lg o
def zj{l:AM}{items:Array zt}{ks:Lw κ}{a:Bool}(I:A.handled=Lh)(G:s.heap.IsList l items)(H:∀(i:Nat)(v:zt),items[i]?=Lg v->∃k,ks[i]?=Lg k/\knd.is k v=Li/\v.scannable=Li)(D:⇑ks=items.size)(J:items.size+1<KD) :
  Jv (model prog w) A (.call (.builtin "set.__init__") ([.ref ↥s,.ref l],[],)) (wants (λr u=>r=.none/\∃h' p,u={ s with heap:=h',toks:=p }/\Filled knd s ks h') E) { s with heap:=s.heap.push (lS a) }:=by
 let n:(s.heap.push<|lS a).get? ↥s=Lg (lS a):=ii s.heap U;let ty:C3.TypeIs { s with heap:=s.heap.push (lS a) } (.ref ↥s) "set" := (lS a,n,U,);calc codeAny_call_builtin IN.init.plain F.entry_set_init<|check_set_init_1 ty ?_;let((V,P,T,O),g,j,m,h):=G;dsimp only at j h;subst j h;let L:(s.heap.push<|lS a).get? l=Lg { cls:=.type "list",dict:=P,data:=.seq items m,slots:=O }:=am _ g;let S:=F.sub_list_set;let R:=F.sub_list_frozenset;let Q:(zt.type "list" == zt.type "dict")=false:=⋯
 let f:(s.heap.push<|lS a).IsList l items:=(_,L,U,m,U,);let lt:l<↥s:=bi g;unfold Jl.«set.__init__» Jl.Frozenset.updateFrom noKeywords;generalize K:Jg=it
 wp_walk
 subst K;calc Jk f<|yN<|KI ?_;let B:l≠(s.heap.push<|lS a).objs.size:=by rw[AC];exact tj<|u0 lt
 let C:↥s ∉ [(s.heap.push<|lS a).objs.size,l]:=by
  rw[AC];intro z;rcases dy.mp z with z|z
  .exact Lp z<|tj<|vi _
  .exact Lp (~~~z)<|uK lt
 refine xJ (knd:=knd) ((Walks.list (by simp[I]) _ l B items).toS) C (ks:=ks) H J items.size 0 _ (L9 _).symm ((_,ii _ U,U,U,),f.push _,) (pF ((setObjOf_fresh (knd:=knd) a).setOf (am _ n) (by unfold KD;lia)) (funext λk=>by simp) U) λs' d x=>?_
 let(h',M,N,t,y):=s';obtain rfl:M=s.gens:=d.gens;obtain rfl:N=s.drawn:=d.drawn;obtain rfl:y=s.os:=d.os;refine yU (show D2 (model prog w) _ (ret zt.none) _ _ _ from yU (U,h',t,U,?_,λb o c q=>?_,))
 .rw[←D]at x;exact pF x (funext λk=>by rw[eY]) U
 .refine d.heap b o (λz=>?_)<|am _<|am _ q;rcases dy.mp z with z|z
  .exact Lp z<|tj c
  .let e:b=(s.heap.push<|lS a).objs.size:= ~~~z
   rw[AC]at e;exact Lp e (tj<|u0 c)
set_option maxRecDepth 100000 in
def xK{l:AM}{items:Array zt}{ks:Lw κ}{Q:zt->C3->Prop}(q:A.handled=Lh)(o:s.heap.IsList l items)(p:∀(i:Nat)(v:zt),items[i]?=Lg v->∃k,ks[i]?=Lg k/\knd.is k v=Li/\v.scannable=Li)(n:⇑ks=items.size)(t:items.size+1<KD)
  (h:∀h' d,Filled knd s ks h'->Q (.ref ↥s) { s with heap:=h',toks:=d }):D2 (model prog w) A (call (.type "set") [.ref l]) Q E s:=by
 let(c,tl,mro):=IN.mro;let H:=IN.made;let G:=IN.sub;let D:=IN.notType;let C:=IN.canCreate;let B:=F.typeCall_set_1<|.ref l;refine JE<|codeAny_of_tree (show D2 (model prog w) _ (callAny (.type "set") _) _ _ _ from yU (Jz.quiet_builtin _<|~~~0,KG F.entry_type_call ?_,));rw[C2.under_plain (A:=A) (weight_type_call_type "set" [.ref l] []) U]
 repeat (any_goals (first|assumption|wp_step))
 refine JF (code_set_new_1 (.ref l) (E:=E) (Q₁:=λj g=>∃a,j=.ref ↥s/\g={ s with heap:=s.heap.push (lS a) }) λa=>(a,U,U,)) λr g f=>?_
 cases r with
 |error e=>exact f
 |ok fl =>
  cases fl with
  |ret j =>
   let(a,rfl,rfl):=f;let u:(s.heap.push<|lS a).get? ↥s=Lg (lS a):=ii s.heap U;let ty:C3.TypeIs { s with heap:=s.heap.push (lS a) } (.ref ↥s) "set" := (lS a,u,U,);let b1:=IN.init.lookup;let b2:=IN.init.bind<|.ref ↥s
   repeat (any_goals (first|assumption|wp_step))
   refine JF (zj (E:=E) (knd:=knd) (by simp[q]) o p n t) λm z b=>?_
   cases m with
   |error e=>exact b
   |ok y =>
    cases y with
    |ret r =>
     let(rfl,h',d,rfl,x):=b
     repeat (any_goals (first|assumption|wp_step))
     exact h h' d x
    |_=>exact b.elim
  |_=>calc f.elim
end
def  oF(P:zA)(w:zz)(a:AM)(zs:Lw Str):HO:=.ext λh=>h.SetOf (strKind P w) a (λz=>decide<|z∈zs)<|cntK zs ⇑zs
def qT:∀{zs:Lw Str}{us:Lw zt},Vals (zs.map NE) us->∀(i:Nat)(v:zt),us[i]?=Lg v->∃z t,zs[i]?=Lg z/\v=.str z t
 | [],_,.nil,i,v,h=>by simp at h
 |z :: zs,_,.cons (t,e,) r,0,v,h=>by simp at h;exact(z,t,U,by rw[←h,e],)
 |z :: zs,_,.cons _ r,i+1,v,h=>by
  let(a,t,c,b):=qT r i v<|~~~h;calc(a,t,~~~c,b,)
def eP(B:X.calm=Li):gQ X (.type "set") (λxs H Q=>∃(p:AM)(zs:Lw Str),xs=[.ref p]/\SqL X.K H p (zs.map NE)/\⇑zs<=1000/\∀l,H l=Lh->Q (.ref l) (upd H l<|oF X.prog X.w l zs)):=by
 intro Ll s σ H xs F Q I r h;let(p,zs,rfl,C,G,q):=h;let(u,rfl,n):=r.one;obtain rfl:u=zt.ref p:=n;let(E,d,A,_):=I.list C;let f:=⇑d;rw[ck]at f;refine xK (knd:=strKind X.prog X.w) (ks:=zs) (I.ok.hd B) A.isList (λi v e=>?_) (~~~f) (by unfold KD;simp;lia) λh' m x=>?_
 .let(z,t,D,rfl):=qT d i v<|~~~e;exact(z,D,by show zt.isStrOf z (.str z t)=Li;simp[zt.isStrOf],U,)
 .let(c,j):=x;calc(.ref ↥s,_,I.laid (a:=↥s) (o:=oF X.prog X.w ↥s zs) (h':=h') (t':=m) (λb o q=>j b o (bi q) q) (sT _) ?_,U,q _ I.fresh,);calc(c,?_,λL J y k=>lR y k,);let(o,_,_,_,g,_):=c;calc(o,g,)
def  Bj:zt->Int
 | .int k _=>k
 |_=>0
structure IH(es:Array (Int×zt))(ks:Lw Int):Prop where
 ent:∀e∈es.toList,e.1=hashInt (Bj e.2)/\∃u,e.2=.int (Bj e.2) u
 nd:(es.toList.map λe=>Bj e.2).Nodup
 mem:∀k,k∈ks↔k∈es.toList.map λe=>Bj e.2
set_option maxRecDepth 100000
set_option maxRecDepth 100000
set_option maxRecDepth 100000
section
variable{Y:Lw AM}
def Inv.excStepY(I:Inv X Ll σ H s)(st:Stp (frs X.stack) Y s.heap h')(h:∀b∈Y,cY X Ll H b):Inv X Ll σ H { s with heap:=h' }:=by
 let D:∀b,b≠X.env.locals->b ∉ X.fs->b ∉ frs X.stack:=λb R Q z=>(dy.mp<|I.stkSub b z).elim R Q
 let w:∀b o,X.s₀.heap.get? b=Lg o->b ∉ Y:=λb o q z=>by rw[(h b z).ent]at q;cases q
 let B:∀b o,X.s₀.heap.get? b=Lg o->b≠X.env.locals:=λb o q=>tj<|tN (bi q) I.ok.above
 let any:∀b o,b ∉ Y->s.heap.get? b=Lg o->∃t,h'.get? b=Lg { o with slots:=t }:=λb o M q=>by
  by_cases J:b∈frs X.stack
  .exact st.slot b o J q
  .exact(o.slots,st.keep b o J M q,)
 let e:∀x c,X.env.cells.lookup x=Lg c->∀v,s.heap.IsCell c v->h'.IsCell c v:=λx c f v (o,N,P,)=>by
  let(t,q):=any c o (λz=>(h c z).cel x c f U) N;exact(_,q,P,)
 refine(I.ok,I.os,I.bare,(λb o q n g a=>?_,λb o q n g a=>?_,I.base.free,λb o q a=>?_,I.base.tups,I.base.frzs,I.base.tbls,),?_,λx c f=>?_,I.free,I.freeC,λp G=>?_,I.hok.stp st I.stkFree<|λb g=>(h b g).unt,I.len,)
 .exact st.keep b o (D b (B b o q) g) (w b o q)<|I.base.keep b o q n g a
 .let(t,A):=I.base.slot b o q n g a;let(j,y):=any b _ (w b o q) A;exact(j,y,)
 .let(Z,A):=I.base.there b o q a;let(j,y):=any b _ (w b o q) A;exact(_,y,)
 .let(m,(L,es,S,C,r),O):=I.loc;let(t,q):=any X.env.locals L (λz=>(h _ z).loc U) C;calc(m,(_,es,S,q,r,),λi x v W V T=>?_,);let(u,K,l):=O i x v W V T;calc(u,K,?_,);rcases l with l|⟨k,c,f,z⟩
  .exact .inl l
  .exact .inr (k,c,f,e x c f _ z,)
 .let(v,z):=I.cell x c f;exact(v,e x c f v z,)
 .let(q,n,F,E,d):=I.pin p G;calc(st.keep p.1 p.2 (D p.1 F E) (λz=>(h _ z).pin p G U) q,n,F,E,d,)
end
def  jW(X:Cx)(L:AM)(E:XK):zt->C3->Prop:=λf s'=>∃(e C:AM)(c:zt×zt)(d:Lw AM)(Ll:Lw (AM×Obj))(σ:St)(a:Hp),f=.ref e/\Inv X Ll σ a s'/\zf s'.heap L e (.ref C) c d/\(∀b∈e :: d,cY X Ll a b)/\∃m,(m=Lh->c.2=.none)/\E (.ref C) m a
def gO{X:Cx}{L:AM}{E:XK}(a:X.stack=X.env :: X.outer)(c:X.env.frame=Lg L)(v:X.ex=[]):Jc (model X.prog X.w) X.A X.env (jW X L E):=by
 rintro R d ⟨e,C,D,S,Ll,σ,H,rfl,I,x,f,q⟩;let i:X.A.frames=Lg (X.env :: X.outer):=by rw[←a];exact I.ok.frames
 let j:d.heap.FunFrames X.base (X.env :: X.outer):=by rw[←a];exact I.stack
 refine note i j c x λg T st k B=>?_
 rw[←a]at st;let n:=I.excStepY st f;let u:cY X Ll H T:=by
  rcases B with z|z
  .exact I.newAt v z
  .exact f T<|fj e z
 let m:∀b∈[e,T],cY X Ll H b:=λb y=>by
  rcases dy.mp y with z|z
  .rw[z];exact f e gs
  .rw[show b=T by simpa using z];exact u
 show D2 (model X.prog X.w) X.A (do
  if (←field (.ref e) 1) == .none then unsupported "frame.own-activation:exception-without-traceback"
  Kr (.ref e) X.env.frame) _ _ { d with heap:=g }
 let(oe,N,P,O,r,M,p,o,K,J,G,F):=id k;calc yN<|Kq (s:={ d with heap:=g }) r p o ?_;rw[Lm (show ¬ (zt.ref T == zt.none)=Li by simp)];show D2 (model X.prog X.w) X.A (Kr (.ref e) X.env.frame) _ _ _;rw[c];refine qR (s:={ d with heap:=g }) (l:=X.stack) n.stack k λQ h t=>?_
 calc(e,C,D,[T],Ll,σ,H,U,n.excStepY h m,.held t,m,q,)
section
variable{E:XK}
abbrev cxE(P:zA)(w:zz)(K:ac)(mg:Str->Option zt)(base:A1)(N:Lw Str)(qual:Str)(scope:C4)(f:AM)(cd:zt)(A:C2)(outer:Lw Env)(s0:C3)(H0:Hp)(E:XK):Cx :=
 (bh (CX1 P w) P w K mg base N qual scope f cd A outer s0 H0 E).wish (jW (bh (CX1 P w) P w K mg base N qual scope f cd A outer s0 H0 E) ↥s0 E)
def xM{m:zt}{s:C3}(h:jW (bh (CX1 P w) P w K mg base N qual scope f cd A outer s0 H0 E) ↥s0 E m s):(bh (CX1 P w) P w K mg base N qual scope f cd A outer s0 H0 E).xe m s:=by
 let(e,C,v,B,Ll,σ,H,rfl,I,x,g,q):=h;let j:(bh (CX1 P w) P w K mg base N qual scope f cd A outer s0 H0 E).A.frames=Lg (envOfC qual scope ↥s0 f cd :: outer):=I.ok.frames;let t:(envOfC qual scope ↥s0 f cd).frame=Lg ↥s0:=rfl;show D2 (model P w) _ (leaving (envOfC qual scope ↥s0 f cd)<|.ref e) _ _ s;unfold leaving;calc yN<|note j I.stack t x λu T st p r=>?_;let c:=I.excStepY st g;let i:cY (bh (CX1 P w) P w K mg base N qual scope f cd A outer s0 H0 E) Ll H T:=by
  rcases r with z|z
  .exact I.newAt U z
  .exact g T<|fj e z
 let ne:=g e gs;let k:∀b∈[e,T],cY (bh (CX1 P w) P w K mg base N qual scope f cd A outer s0 H0 E) Ll H b:=λb a=>by
  rcases dy.mp a with z|z
  .rw[z];exact ne
  .rw[show b=T by simpa using z];exact i
 refine qR (s:={ s with heap:=u }) (l:=envOfC qual scope ↥s0 f cd :: outer) c.stack p λy d n=>?_
 refine(e,T,C,v,H,U,c.os,c.bare,c.base.stp d (λb o q a=>?_) (λb a=>?_)<|λb a=>(k b a).ent,c.hok.stp d c.stkFree<|λb a=>(k b a).unt,n,ne.ent,i.ent,ne.unt,i.unt,q,)
 .rcases dy.mp (c.stkSub b a)with z|z
  .exact Lp (tN (bi q) c.ok.above) (by rw[z];exact vd _)
  .exact z
 .show b∈frs (envOfC qual scope ↥s0 f cd :: outer);unfold frs;rw[kW];calc fj _ a
def PSs.leaves{st:Lw EV}{t:TS}(h:PSs (cxE P w K mg base N qual scope f cd A outer s0 H0 E) st t):PSs (bh (CX1 P w) P w K mg base N qual scope f cd A outer s0 H0 E) st t:=λLl s σ H D I a =>
 EX (h Ll s σ H D (I.wish _) a) (λ_ _ q=>q.unwish) λ_ _ z=>xM z
def Fun.okE{x:Str}{st:EV}{fd:JB}{ps:Lw Str}{k:Nat}{sp:Sp}(F:Fun K x qual st f fd)(S:av N ps (aj st))(b:∀vs H Q E,sp vs H Q E->⇑vs=⇑ps)
  (e:∀(a:zt)(A:C2)(outer:Lw Env)(s:C3)(H:Hp)(vs:Lw V)(Q:VK)(E:XK),cS k (A.deeper<|envOfC qual (aj st) ↥s f a)->sp vs H Q E ->
   ∃t,PSs (cxE P w K mg base N qual (aj st) f a A outer s H E) (il st) t/\t { nx:=λ_ H'=>Q .non H',rt:=Q } (start N vs) H):aR P w K mg base (CX1 P w) (k+1) f fd ps sp:=by
 let(o,n,kV,l,m,r,a,p,j,rfl,g,d):=F.ex;refine Ci g d S b λA outer s H vs Q E i c=>?_
 let(t,h,q):=e a A outer s H vs Q E i c;calc(t,h.leaves,q,)
def cF{x:Str}{C:AM}{np c pos:Pos}{a:Ew}{es:Lw Ew}{t:TA}(X:ExcCls K C)(R:A.handled=Lh)(Q:Gl (cxE P w K mg base N qual scope f cd A outer s0 H0 E) x)(M:mg x=↑C)
  (T:PA (cxE P w K mg base N qual scope f cd A outer s0 H0 E) (a :: es) t)(j:(x == ("__debug__" : Str))=false:=by decide)
  (he:EN (a :: es) (envOfC qual scope ↥s0 f cd)=(Lj,eval a<|envOfC qual scope ↥s0 f cd) :: EN es (envOfC qual scope ↥s0 f cd):=by rfl)
  (g:(EE c<|EN es<|envOfC qual scope ↥s0 f cd).any (·.1)=false:=by rfl) :
  PS (cxE P w K mg base N qual scope f cd A outer s0 H0 E) (.Raise (Lg<|.Call (.Name x np) (a :: es) [] c) Lh pos) (Dg C E t):=by
 intro Ll s σ H D I h;let(a3,a2,l,B,Bn,a0,pE,a1,L,F1,F2,p):=X.ex;let(bm,Z,nm,q,bs,hdct,sn,sub,ab,col,dd,k0,k1,k2,k3,k5,mN,G,F,y,n):=ExcCls.obj I.ok.mod.kin L;refine wpAny_Raise_call_subU (C:=C) (nm:=nm) (q:=q) (N:=Z) (bs:=bs) (bm:=bm) (hdct:=hdct) (sn:=sn) (sub:=sub) (ab:=ab) (col:=col) (dd:=dd) (k0:=k0) (k1:=k1) (k2:=k2) (k3:=k3) (k5:=k5) F1 F2 p (Ku.hasType n p.hasBase) R (by
  show(EE c<|EN (a :: es)<|envOfC qual scope ↥s0 f cd).any (·.1)=Lj;rw[he];show(Lj || (EE c<|EN es<|envOfC qual scope ↥s0 f cd).any (·.1))=Lj;rw[g];rfl) (mN:=mN) y (eV I Q M (U,?_,) j)
 show D2 _ _ (KJ (.ref C) Li (EE c<|EN (a :: es)<|envOfC qual scope ↥s0 f cd) []) _ _ s;rw[he];calc Mb ?_;let z:D2 (model P w) (cxE P w K mg base N qual scope f cd A outer s0 H0 E).A (spliced<|EE c<|EN (a :: es)<|envOfC qual scope ↥s0 f cd) _ _ s:=T c Ll s σ H _ I h;rw[he]at z;refine thn z λus u (vs,H2,d,r,O,v,)=>(U,by rw[←⇑r];exact O,?_,)
 refine(d.bk C _ G,?_,n.keeps d.bk,λh' e m=>?_,)
 .let(o,k,Y,W,V):=F;exact(o,k,Y,d.bk _ _ W,V,)
 .let J:=d.unwish;let(t',i,_,_):=m.there;calc(e,C,(.ref t',.none),[],Ll,σ,H2,U,J.kept (t':=u.toks) m.keeps,.fresh i U U U U U,λb S=>?_,Lh,λ_=>U,v,);rw[show b=e by simpa using S];calc J.newAt U m.new
def i5:Passes (CX1 P w) (cxE P w K mg base N qual scope f cd A outer s0 H0 E) E:=λLl σ H s p s' I h=>by
 let(e,T,C,n,o,rfl,i,d,un,g,x,ne,j,k,m,q):=h;let J:=(I.unwish).call' (ch:=[]) i un g d λb z=>Lp z (by simp)
 let a:=(I.unwish).newAt U ne;let c:=(I.unwish).newAt U j;calc(e,C,n,[T],Ll,σ,o,U,J,.fly x,λb l=>?_,q,);rcases dy.mp l with z|z
 .rw[z];exact(a.ent,k,a.loc,a.cel,a.pin,)
 .rw[show b=T by simpa using z];calc(c.ent,m,c.loc,c.cel,c.pin,)
end
inductive zk(K:ac)(x:V)(vs:Lw V)(H:Hp)(Q:VK):Prop
 |mk (p:AM)(xs:Lw V)(y z:V)(j:Nat)(_:x=.ref p)(_:vs=[y])(_:SqL K H p xs)(_:dN y=Li)(_:xs.all dN=Li)(_:xs[j]?=Lg z)(_:eqV z y=Li)(_:(∀(m:Nat)(u:V),m<j->xs[m]?=Lg u->eqV u y=Lj))(_:Q (.int j) H)
def zm:MtM X "list.index" (zk X.K):=by
 intro Ll s σ H x vs v us Q I D E h;let(p,b,y,z,j,rfl,rfl,P,S,fs,g,L,k,q):=h;obtain rfl:v=zt.ref p:=D;let(u,rfl,G):=E.one;let(a,r,J,i):=I.list P;let N:=⇑r;let O:j<⇑b:=(IV.mp g).1;let Z:⇑b<2^62:=v3 i ⋯;let((c1,Y,c3,W),o,B,n,A):=J.isList;dsimp only at B A;subst B A;let c:∀(m:Nat)(d:m<a.toArray.size)(w:V),b[m]?=Lg w->dN w=Li->eqU y a.toArray[m]=eqV w y:=λm d w e f=>by
  let(t,C,T):=r.get e;let:a.toArray[m]=t:=by
   let R:a[m]?=Lg a.toArray[m]:=by
    let:m<⇑a:= ~~~d
    simp
   rw[R]at C;exact gl C
  rw[this];exact vc T f
 let fl:∀(m:Nat)(w:V),b[m]?=Lg w->dN w=true:=λm w e=>iF.mp fs w<|IW e
 refine JU PySem.F.slot_list_index (_,o,U,) PySem.F.entry_list_index (PySem.F.args_list_index_2 _ _) (SeqAt.list_indexAt p a.toArray n Y W u (eqU y) j (by simpa[←N]using O) ∅ ?_ λm d l=>?_) (o,λt M=>i0 G S r fs t<|~~~M,(.int j,H,I.tok _,(_,U,),q,),)
 .rw[c j _ z g (fl j z g)];exact L
 .let e:b[m]?=Lg b[m]:=IU ∅;rw[c m d _ e (fl m _ e)];calc k m _ l e
def eQ:gQ X (.builtin "len") (λxs H Q=>∃(l:AM)(zs:Lw Str),xs=[.ref l]/\H l=Lg (oF X.prog X.w l zs)/\⇑zs<=1000/\Q (.int ((cntK zs ⇑zs:Nat):Int)) H):=by
 intro Ll s σ H xs i Q I r h;let(l,zs,rfl,e,j,q):=h;let(u,rfl,b):=r.one;obtain rfl:u=zt.ref l:=b;let((o,es,k,t,g,f,d,_,_,_,c,a),_,_):=I.hok l _ e;let le:=mI zs ⇑zs;refine call_len_set g f d c (by rw[a];lia) (.int _,H,I.tok _,(_,U,),?_,);rw[a];calc q
def  Ga(sp:Sp)(E:XK)(t:TA):TE:=λσ H Q=>t σ H λa b=>sp a b Q E
inductive Cn(C:AM)(m:Str)(sp:Sp)(E:XK)(t:TA)(σ:St)(Q:VK)(x:V)(H1:Hp):Prop
 |mk (a dx fs:_)(_:x=.ref a)(_:H1 a=Lg (.ins C dx fs))(_:fs.lookup m=Lh)(_:t σ H1 λvs H2=>sp (x :: vs) H2 Q E)
def  Gb(C:AM)(m:Str)(sp:Sp)(E:XK)(ta:TE)(t:TA):TE:=λσ H Q=>ta σ H λx a=>Cn C m sp E t σ Q x a
section
variable{k:Nat}{E:XK}
def dR(M:bD X.prog X.w X.K X.mg X.base k x ps sp)(i:Passes (CX1 X.prog X.w) X E)(j:cS k X.A)(m:Gl X x)(n:PA X (e :: es) t)(c:(x == ("__debug__" : Str))=false:=by decide)
  (he:EN (e :: es) X.env=(Lj,eval e X.env) :: EN es X.env:=by rfl)(a:(EE pos<|EN es X.env).any (·.1)=false:=by rfl):PE X (.Call (.Name x p) (e :: es) [] pos) (Ga sp E t):=by
 let(f,fd,F,b,g,l):=M;intro Ll s σ H Q I h;calc zd<|eV I m l ?_ c;calc Ix (h₀:=X.base) I.ok.mod.kin g (thn (n pos Ll s σ H _ I h) λu v (o,y,d,r,q,)=>(d.kIn,xI F j b i d r q,)) he a
def zo{CX:CXT}{pl:Sem Bool}(M:bE CX X.prog X.w X.K X.mg X.base k C m ps sp)(z:Passes CX X E)(c:Cls X.K C)(D:cS k X.A)(G:PE X o ta)(L:PA X (e :: es) t)
  (b:EN (e :: es) X.env=(Lj,eval e X.env) :: EN es X.env:=by rfl)(d:(EE pos<|EN es X.env).any (·.1)=false:=by rfl)
  (B:eval (.Call (.Attribute o m apos) (e :: es) [] pos) X.env=(do
   let g ←eval o X.env
   F6 apos.atName
   let (f,first) ←holding [g] (Jt g m pl)
   KA pos f first (EE pos<|EN (e :: es) X.env) (JS pos<|JT [] X.env)):=by rfl) :
  PE X (.Call (.Attribute o m apos) (e :: es) [] pos) (Gb C m sp E ta t):=by
 let(f,fd,i,F,J):=M;intro Ll s σ H Q I h;calc LK (pl:=pl) (thn (G Ll s σ H _ I h) λu p (x,P,n,v,a,S,fs,N,O,l,q,)=>?_) B;subst N;obtain rfl:u=zt.ref a:=v;calc jn n O c i l<|Ix (first:=[.ref a]) (h₀:=X.base) I.ok.mod.kin i.kp (thn (L pos Ll p σ P _ n q) λus R (vs,T,j,r,y,)=>(j.kIn,xI (us:=.ref a :: us) (vs:=.ref a :: vs) F D J z j (.cons U r) y,)) b d
end
variable{q:Str}
def qq:entryFor table "proto.unchain" = Lg Jl.«proto.unchain»:=KL (by kernel_rfl)
def rT{s:C3}{e v:zt}{a:AM}{o:Obj}{vs:Array zt}{Q:zt->C3->Prop}(b:s.heap.get? a=Lg o)(c:o.data=.fields vs)(d:vs[2]?=Lg .none)(h:Q .none s) :
  D2 (model prog w) A (runValue<|.builtin "proto.unchain" ([e,.ref a,v,.bool Lj],[],)) Q E s:=by
 calc KI<|KG qq ?_;unfold Jl.«proto.unchain»;calc yN<|Kq b c d ?_;rw[Lo ⋯];calc yU h
def pG{d:Type}{s:C3}{e a:AM}{oe o:Obj}{f vs:Array zt}{Q:d->C3->Prop}(i:A.handled=↑a)(ne:a≠e)(g:s.heap.get? a=Lg o)(j:o.data=.fields vs)(k:vs[2]?=Lg .none)
  (he:s.heap.get? e=Lg oe)(c:oe.data=.fields f)(b:2<f.size)(h:E (.ref e) { s with heap:=s.heap.update e (wf (·.setIfInBounds 2 (.ref a))) }):D2 (model prog w) A (raiseNew (.ref e):Sem d) Q E s:=by
 unfold raiseNew;calc yN<|wpAny_handled ?_;rw[i];dsimp only;rw[Lo (~~~ne)];calc yN<|zb<|rT g j k ?_;calc yN ?_;show D2 _ _ (Ko (.ref e) 2<|.ref a) _ _ _;calc Kp he c b<|wpAny_throw h
section
variable{nm:Str}{N:AM}{bs bm:Lw zt}{hdct:Bool}{sn:Lw Str}{sub:Lw zt}{ab:Bool}{col:Option Bool}{dd:Option AM}{k0 k1 k2 k3 k5:Option zt}{newId:String}
def vk{s:C3}{x c:Sem zt}{a:AM}{Q:Flow->C3->Prop}(y:bm.contains (.type "BaseException")=Li) (B:A.handled=↑a)(F:∀{M:D0}{A:C2}{E:zt->C3->Prop}{Q:zt->C3->Prop}{s:C3},Q .none s->D2 M A c Q E s)
  (h:D2 (model prog w) A x (λv j=>∃e t o vs,v=.ref e/\j.heap.get? C=Lg (Kt nm q C N bs bm hdct sn sub ab col dd k0 k1 k2 k3 k5 newId) /\
   j.heap.get? e=Lg { cls:=.ref C,data:=.fields #[.ref t,.none,.none,.none,.bool Lj,.none] }/\a≠e/\j.heap.get? a=Lg o/\o.data=.fields vs/\vs[2]?=Lg .none /\
   ∀h',(∀b,b≠e->h'.get? b=j.heap.get? b)->h'.get? e=Lg { cls:=.ref C,data:=.fields #[.ref t,.none,.ref a,.none,.bool Li,.none] }->E (.ref e) { j with heap:=h' }) E s) :
  D2 (model prog w) A (raiseStmt env (Lg x)<|Lg c) Q E s:=by
 let p:(zt.ref C :: bm).contains (.type "BaseException")=true:=by rw[Nn,y,Bool.or_true]
 unfold raiseStmt;calc yN<|EX h (λv j I=>?_) λ_ _ x=>x;let(e,t,o,vs,rfl,m,k,ne,r,D,H,u):=I;calc yN<|zb<|F<|yN<|yU ?_;let(n,g,d,J,K):=j;dsimp only at m k r u
 repeat (first|with_reducible refine KN k ?_|with_reducible refine KN m ?_|(with_reducible calc wpAny_isSubtype_exc m ?_;rw[p])|wp_step)
 let z:C≠e:=by
  rintro rfl;rw[m]at k;cases k
 let f:∀b,b≠e->((n.update e<|wf λx=>x.setIfInBounds 3 zt.none).update e<|wf λx=>x.setIfInBounds 4<|zt.bool Li).get? b=n.get? b:=λb l=>(ss _ _<|FM l).trans<|ss _ _<|FM l
 let own:((n.update e<|wf λx=>x.setIfInBounds 3 zt.none).update e<|wf λx=>x.setIfInBounds 4<|zt.bool Li).get? e=Lg { cls:=.ref C,data:=.fields #[.ref t,.none,.none,.none,.bool Li,.none] } :=
  v6 _ (v6 _ k U) U
 generalize ((n.update e<|wf λx=>x.setIfInBounds 3 zt.none).update e<|wf λx=>x.setIfInBounds 4<|zt.bool Li)=G at f own⊢;calc KN ((f C z).trans m) ?_;calc yU ?_;calc wpAny_ite_true U<|yU<|yN ?_;unfold Kr;calc yN<|Kq (i:=1) own U U ?_;calc wpAny_ite_false U<|yU ?_;refine pG B ne ((f a ne).trans r) D H own U (by show 2<6;decide) ?_;calc u _ (λb l=>(ss _ _<|FM l).trans<|f b l)<|v6 _ own U
end
section
variable{nm:Str}{N:AM}{bs bm bmB:Lw zt}{hdct:Bool}{sn:Lw Str}{sub:Lw zt}{ab:Bool}{col:Option Bool}{dd:Option AM}{k0 k1 k2 k3 k5:Option zt}{B Bn newId nid pE inN:String}{bmN:Lw zt}
def oG{s:C3}(Z:Ks Bn newId inN bmN)(Y:bmB.contains (.type Bn)=Li)(X:Ks B nid pE bmB){mN:Str->Option zt}{x:Str}{np n I pos:Pos}{L:Nat}{a:AM}{c:Lw Ew}{Q:Flow->C3->Prop}
  (K:bm.contains (.type "BaseException")=Li) (R:A.handled=↑a)(p:(EE n<|EN c env).any (·.1)=Lj)(r:mN "__init__" = Lh)
  (h:D2 (model prog w) A (eval (.Name x np) env) (λf u=>f=.ref C/\D2 (model prog w) A (KJ (.ref C) Li (EE n<|EN c env) [])
   (λus i=>us.kw=[]/\⇑us.pos<=A8/\(i.heap.get? C=Lg (Kt nm q C N bs bm hdct sn sub ab col dd k0 k1 k2 k3 k5 newId)/\i.heap.Ns N mN/\Ku i.heap bmB bm)/\∃o vs,i.heap.get? a=Lg o/\o.data=.fields vs/\vs[2]?=Lg .none /\
    ∀g e t,A1.MadeExcOf i.heap g e (.ref C) us.pos->g.get? e=Lg { cls:=.ref C,data:=.fields #[.ref t,.none,.none,.none,.bool Lj,.none] }->∀h',(∀b,b≠e->h'.get? b=g.get? b)->h'.get? e=Lg { cls:=.ref C,data:=.fields #[.ref t,.none,.ref a,.none,.bool Li,.none] }->E (.ref e) { i with heap:=h' }) E u) E s) :
  D2 (model prog w) A (exec (.Raise (Lg<|.Call (.Name x np) c [] n) (Lg<|.Constant .none L I) pos) env) Q E s:=by
 rw[arm_exec_Raise];calc yN<|Jb ?_;calc vk (C:=C) (nm:=nm) (q:=q) (N:=N) (bs:=bs) (bm:=bm) (hdct:=hdct) (sn:=sn) (sub:=sub) (ab:=ab) (col:=col) (dd:=dd) (k0:=k0) (k1:=k1) (k2:=k2) (k3:=k3) (k5:=k5) (newId:=newId) K R (λz=>yN<|Constant_none<|yN<|Jb<|yU z) ?_;calc yN<|EX (wpAny_Call_ofName<|EX h (λf u m=>?_) λ_ _ z=>z) (λv s3 W=>yN<|Jb<|yU W) λ_ _ z=>z;let(rfl,m):=m;unfold KA;calc yN<|zb<|EX m (λus i k=>yN<|Jb ?_) λ_ _ z=>z;let(up,J):=us;let(P,O,(l,M,T),o,vs,F,S,k,V):=k;obtain rfl:J=[]:=P;let(D,g,d,tk,os):=i;simp only[p];calc yN<|wpAny_keeperOf_exc l ?_;calc yN<|wpAny_call_exc_subU (hrest:=O) Z Y X T l M r λh' e j=>yN<|zb<|wpAny_point<|yU ?_;let(t,y,_,_):=j.there;calc(e,t,o,vs,U,j.keeps _ _ l,y,λz=>?_,j.keeps _ _ F,S,k,λk H G=>V h' e t j y k H G,);let:=j.new;rw[←z]at this;calc Lp (show D.get? a=Lh from this) (by rw[show D.get? a=Lg o from F];exact nofun)
end
def vn{X:Cx}{L:AM}{E:XK}{A':C2}(D:A'.frames=X.A.frames)(a:X.stack=X.env :: X.outer)(c:X.env.frame=Lg L)(v:X.ex=[]):PassesOwnAt (model X.prog X.w) A' X.A X.env (jW X L E):=by
 rintro S d ⟨e,C,F,V,Ll,σ,H,rfl,I,x,f,q⟩;let i:A'.frames=Lg (X.env :: X.outer):=by rw[D,←a];exact I.ok.frames
 let j:d.heap.FunFrames X.base (X.env :: X.outer):=by rw[←a];exact I.stack
 refine note i j c x λg T st k B=>?_
 rw[←a]at st;let n:=I.excStepY st f;let u:cY X Ll H T:=by
  rcases B with z|z
  .exact I.newAt v z
  .exact f T<|fj e z
 let m:∀b∈[e,T],cY X Ll H b:=λb y=>by
  rcases dy.mp y with z|z
  .rw[z];exact f e gs
  .rw[show b=T by simpa using z];exact u
 show D2 (model X.prog X.w) X.A (do
  if (←field (.ref e) 1) == .none then unsupported "frame.own-activation:exception-without-traceback"
  Kr (.ref e) X.env.frame) _ _ { d with heap:=g }
 let(oe,O,Q,P,r,N,p,o,M,K,J,G):=id k;calc yN<|Kq (s:={ d with heap:=g }) r p o ?_;rw[Lm (show ¬ (zt.ref T == zt.none)=Li by simp)];show D2 (model X.prog X.w) X.A (Kr (.ref e) X.env.frame) _ _ _;rw[c];refine qR (s:={ d with heap:=g }) (l:=X.stack) n.stack k λR h t=>?_
 calc(e,C,F,[T],Ll,σ,H,U,n.excStepY h m,.held t,m,q,)
def  EF(K:ac)(b1 b2 C:AM)(E:XK)(ta:TA)(σ:St):XK:=λd m a=>m=Lh/\∃b,d=.ref b/\Nt K (.ref b) [.ref b1,.ref b2]=Lg Li/\∀tp,a tp=Lh->ta σ (upd a tp<|.tup [.ref b1,.ref b2]) λc e=>⇑c<=A8/\∀m,E (.ref C) m e
def  EJ(sp:Sp)(t:TA)(K:ac)(b1 b2 C:AM)(E:XK)(ta:TA):TS:=λD σ H=>t σ H λa b=>sp a b D.rt<|EF K b1 b2 C E ta σ
def Inv.afterF{X:Cx}{Ll:Lw (AM×Obj)}{σ:St}{H:Hp}{s s':C3}{E:XK}{g:zt}(I:Inv X Ll σ H s)(f:X.ex=[])(h:CX1 X.prog X.w X.stack H s E g s') :
  ∃(e T C:AM)(a:zt×zt)(H':Hp),g=.ref e/\Inv X Ll σ H' s'/\rR s'.heap e T (.ref C) a/\cY X Ll H' e/\cY X Ll H' T/\∃m,(m=Lh->a.2=.none)/\E (.ref C) m H':=by
 let(e,T,C,a,H',rfl,i,c,un,d,x,ne,j,k,l,q):=h;let u:=I.newAt f ne;let v:=I.newAt f j;calc(e,T,C,a,H',U,I.call' (ch:=[]) i un d c λb z=>Lp z (by simp),x,(u.ent,k,u.loc,u.cel,u.pin,),(v.ent,l,v.loc,v.cel,v.pin,),q,)
section
variable{Y:Cx}{E:XK}{k:Nat}{n1 n2 cn:Str}{a₀:Ew}{as:Lw Ew}{ta:TA}{b1 b2:AM}{EK np1 np2 Ep fL vm Ge vo:Pos}{x1 kd:Nat}
def Bm(c7:bD Y.prog Y.w Y.K Y.mg Y.base k x ps sp)(hr:cS k Y.A)(hx:Y.ex=[])(P:Y.stack=Y.env :: Y.outer)(a0:Y.env.frame=Lg Y.env.locals)(hg:Gl Y x)(ha:PA Y.nox (e :: es) t)
  (g1:Gl Y n1)(m1:Y.mg n1=↑b1)(g2:Gl Y n2)(m2:Y.mg n2=↑b2)(XC:ExcCls Y.K C)(gC:Gl Y cn)(mC:Y.mg cn=↑C)(hA:∀e oe,PA (sfx (Y.wish<|jW Y Y.env.locals E) e oe) (a₀ :: as) ta)
  (c1:(x == ("__debug__" : Str))=false:=by decide) (c2:(n1 == ("__debug__" : Str))=false:=by decide) (hd2:(n2 == ("__debug__" : Str))=false:=by decide) (c0:(cn == ("__debug__" : Str))=false:=by decide)
  (he:EN (e :: es) Y.env=(Lj,eval e Y.env) :: EN es Y.env:=by rfl)(b3:(EE pos<|EN es Y.env).any (·.1)=false:=by rfl)
  (a1:EN (a₀ :: as) Y.env=(Lj,eval a₀ Y.env) :: EN as Y.env:=by rfl)(Gf:(EE fL<|EN as Y.env).any (·.1)=false:=by rfl) :
  PS (Y.wish<|jW Y Y.env.locals E) (.Try [.Return (Lg<|.Call (.Name x p) (e :: es) [] pos) EK] [.ExceptHandler (Lg<|.Tuple [.Name n1 np1,.Name n2 np2] x1 Ep) Lh [.Raise (Lg<|.Call (.Name cn np) (a₀ :: as) [] fL) (Lg<|.Constant .none kd vm) Ge] Dh] [] [] vo) (EJ sp t Y.K b1 b2 C E ta):=by
 intro Ll s σ H D I h;let I0:Inv Y Ll σ H s:=I.unwish;refine wpAny_Try_except ?_
 let b0:D2 (model Y.prog Y.w) Y.A (exec (.Return (Lg<|.Call (.Name x p) (e :: es) [] pos) EK) Y.env) (SP Y Ll D) (λev i=>∃(e T C0:AM)(a:zt×zt)(H2:Hp),ev=.ref e/\Inv Y Ll σ H2 i/\rR i.heap e T (.ref C0) a/\a.2=.none/\cY Y Ll H2 e/\cY Y Ll H2 T/\Nt Y.K (.ref C0) [.ref b1,.ref b2]=Lg Li /\
   ∀tp,H2 tp=Lh->ta σ (upd H2 tp<|.tup [.ref b1,.ref b2]) λQ H3=>Q.length<=A8/\∀m,E (.ref C) m H3) s:=by
  let(f,fd,F,b,kk,m):=c7;calc IX<|zd<|eV I0 hg m ?_ c1;calc Ix (h₀:=Y.base) I0.ok.mod.kin kk (EX (ha pos Ll s σ H _ (I0.wish _) h) (λQ i (Z,L,I1,r,q,)=>(I1.kIn,?_,)) λ_ _ z=>ut z) he b3;let J:Inv Y Ll σ L i:=I1.unwish;let hl:Q.length=⇑ps:=by rw[←⇑r];exact F.len _ _ _ _ q
  let bt:JC i fd ⟨Q,[]⟩ (ps.zip Q):=by
   let z:=b i Q J.kIn (by rw[jV];exact hl);rw[jV]at z;exact z
  calc JE<|JF (F.run Y.A Y.stack i L (Q,[],) Q Z _ _ hr J.env0 bt r q) λr s' hq=>?_;cases r with
  |error ev =>
   let(e,T,C0,a,M,rfl,J',x,ne,nT,m,hm,rfl,e1,ec,q1,q2):=J.afterF (E:=EF Y.K b1 b2 C E ta σ) hx hq;cases ec;exact(e,T,C0,a,M,U,J',x,hm U,ne,nT,q1,q2,)
  |ok fl =>
   cases fl with
   |ret u =>
    let(v,M,S,r',G):=J.after hq;exact(v,σ,M,S,r',G,)
   |next=>exact ut hq
   |brk=>exact ut hq
   |cont=>exact ut hq
 refine IE<|EX b0 (λf i q=>?_) λev i q=>?_
 .let q:=(show SP Y Ll D f i from q);cases f with
  |next=>obtain⟨j,M,S,G⟩:=q;exact Gs<|Gs (j,M,S.wish _,G,)
  |ret v=>obtain⟨y,j,M,S,r,G⟩:=q;exact(y,j,M,S.wish _,r,G,)
  |brk=>obtain⟨j,M,S,G⟩:=q;exact(j,M,S.wish _,G,)
  |cont=>obtain⟨j,M,S,G⟩:=q;exact(j,M,S.wish _,G,)
 let(e,T,C0,a,L,rfl,I1,x,h2,ne,nT,b9,q):=q;let c4:Y.A.frames=Lg (Y.env :: Y.outer):=by rw[←P];exact I1.ok.frames
 let c5:i.heap.FunFrames Y.base (Y.env :: Y.outer):=by rw[←P];exact I1.stack
 refine land c4 c5 a0 x λc T2 a3 x2 c3=>?_
 rw[←P]at a3;let I2:=I1.excStep hx a3 ne nT;let a8:cY Y Ll L T2:=by
  rcases c3 with z|z
  .exact I1.newAt hx z
  .rw[z];exact nT
 let Co:∀{b:AM}{o:Obj}{Z:Array zt}{hh:A1},hh.FunFrames Y.base Y.stack->hh.get? b=Lg o->o.data=.fields Z->b ∉ Y.fs:=λ{b o Z hh} ff g d z=>by
  let z':b∈frs Y.stack:=by rw[P];unfold frs;rw[kW,a0];exact fj _ z
  let(_,o2,g2,nf):=ff.mem z';rw[g]at g2;cases g2;exact nf Z d
 let(oe,Z,oT,a2,y1,(y2,c9,_),y3,y4,y5,y6,y7,y8):=id x2;let S2:Inv (sfx (Y.wish<|jW Y Y.env.locals E) e oe) Ll σ L { i with heap:=c }:=(I2.wish _).suite y1 (ne.ent,ne.unt,ne.loc,ne.cel,ne.pin,) (λv z=>by rw[y3]at z;cases z) (Co I2.stack y1 y3);refine wpAny_handleBy_cons ?_ (by intro z;cases z);calc codeAny_handlers_test<|JA ?_;show D2 _ _ (spliced ((Lj,eval (.Name n1 np1) Y.env) :: (Lj,eval (.Name n2 np2) Y.env) :: [])) _ _ _;calc LL<|eV (X:=sfx (Y.wish<|jW Y Y.env.locals E) e oe) S2 g1 m1 (LL<|eV (X:=sfx (Y.wish<|jW Y Y.env.locals E) e oe) S2 g2 m2 (Mm ?_) hd2) c2;refine(by show 2<=A8;decide,?_,);let hf:L c.objs.size=none:=S2.hok.fresh<|sT _;let r3:Vals [NC b1,NC b2] [zt.ref b1,zt.ref b2]:=.cons U<|.cons U .nil;let S4:Inv (sfx (Y.wish<|jW Y Y.env.locals E) e oe) Ll σ (upd L c.objs.size<|.tup [.ref b1,.ref b2]) { i with heap:=c.push { cls:=.type "tuple",data:=.seq [zt.ref b1,zt.ref b2].toArray } } :=
  S2.laid (t':=i.toks) (λb u e=>am _ e) (sT _) (by show 2<=A8;decide,_,r3,(_,ii _ U,U,_,U,),)
 calc W.exm_tup2 (h:=c.push { cls:=.type "tuple",data:=.seq [zt.ref b1,zt.ref b2].toArray }) S4.kIn (vj S4.excObj y2) (ii _ U) b9 _ _ _ _ (λb o g=>g) ?_;rw[Lo U];let I4:Inv Y Ll σ (upd L c.objs.size<|.tup [.ref b1,.ref b2]) { i with heap:=c.push { cls:=.type "tuple",data:=.seq [zt.ref b1,zt.ref b2].toArray } }:=(S4.unsuite I.ok).unwish;let q:=q c.objs.size hf;let x4:rR (c.push { cls:=.type "tuple",data:=.seq [zt.ref b1,zt.ref b2].toArray }) e T2 (.ref C0) a:=by
  let(oe,Z,oT,a2,y1,y2,y3,y4,y5,y6,y7,y8):=x2;exact(oe,Z,oT,a2,am _ y1,y2,y3,y4,y5,am _ y6,y7,y8,)
 let fresh:∀b,cY Y Ll L b->(∃o,c.get? b=Lg o)->cY Y Ll (upd L c.objs.size<|.tup [.ref b1,.ref b2]) b:=λb z (o,R,)=>(z.ent,(ay<|tj<|bi R).trans z.unt,z.loc,z.cel,z.pin,)
 let n:=fresh e ne (_,y1,);let a4:=fresh T2 a8 (_,y6,);generalize upd L c.objs.size (.tup [.ref b1,.ref b2])=H4 at S4 I4 q n a4;generalize c.push { cls:=.type "tuple",data:=.seq [zt.ref b1,zt.ref b2].toArray }=hp4 at S4 I4 x4⊢;calc codeAny_handlers_suite ?_;refine Df (s:={ i with heap:=hp4 }) (l:=Y.stack) I4.stack x4 λb4 T3 a7 x3 d5=>?_
 let I3:=I4.excStep hx a7 n a4;let(O,a5,d2,d1,z1,(z2,_,zc),z3,z4,z5,z6,z7,z8):=id x3;rw[h2]at zc;let S3:Inv (sfx (Y.wish<|jW Y Y.env.locals E) e O) Ll σ H4 { i with heap:=b4 }:=(I3.wish _).suite z1 (n.ent,n.unt,n.loc,n.cel,n.pin,) (λv z=>by rw[z3]at z;cases z) (Co I3.stack z1 z3);calc IE ?_;let(e0,d7,c8,B,Bn,d3,pE,d4,hX,F1,F2,F3):=XC.ex;let(bm,N',nm,G,bs,hdct,sn,sub,ab,col,dd,k0,k1,k2,k3,k5,mN,o1,o2,o3,o4):=ExcCls.obj I3.ok.mod.kin hX;refine oG (C:=C) (nm:=nm) (q:=G) (N:=N') (bs:=bs) (bm:=bm) (hdct:=hdct) (sn:=sn) (sub:=sub) (ab:=ab) (col:=col) (dd:=dd) (k0:=k0) (k1:=k1) (k2:=k2) (k3:=k3) (k5:=k5) (a:=e) F1 F2 F3 (Ku.hasType o4 F3.hasBase) U (by
  rw[a1];show(Lj || (EE fL<|EN as Y.env).any (·.1))=Lj;rw[Gf];rfl) (mN:=mN) o3 (eV (X:=sfx (Y.wish<|jW Y Y.env.locals E) e O) S3 gC mC (U,?_,) c0)
 show D2 _ _ (KJ (.ref C) Li (EE fL<|EN (a₀ :: as) Y.env) []) _ _ _;rw[a1];calc Mb ?_;let z:=hA e O fL Ll _ σ H4 _ S3 q;let z:D2 (model Y.prog Y.w) (sfx (Y.wish<|jW Y Y.env.locals E) e O).A (spliced<|EE fL<|EN (a₀ :: as) Y.env) _ _ _:=z;rw[a1]at z;refine EX z (λQ s5 (d0,H5,S5,r5,hl,q5,)=>?_) λ_ _ z=>ut z
 let I5:Inv Y Ll σ H5 s5:=(S5.unsuite I.ok).unwish;refine(U,by rw[←⇑r5];exact hl,(I5.bk C _ o1,?_,o4.keeps I5.bk,),O,a5,S5.excObj,z3,zc,λg e5 t5 hm h5 h6 w1 w2=>?_,)
 .let(o,c6,ep,u1,u2):=o2;exact(o,c6,ep,I5.bk _ _ u1,u2,)
 calc vn (A':=Y.A.mark<|↑e) U P a0 hx _ _ ?_;let n5:cY Y Ll H5 e5:=I5.newAt hx hm.new;let I6:Inv Y Ll σ H5 { s5 with heap:=g }:=I5.kept (t':=s5.toks) hm.keeps;let a6:Stp (frs Y.stack) [e5] g h6:=⟨λb o _ R u=>(w1 b<|~~~R).trans u,λb o R u=>by
  let(_,o2,u2,nf):=I6.stack.mem R;let nb:b≠e5:=λz=>by
   rw[z,show g.get? e5=_ from h5]at u2;cases u2;exact nf _ U
  exact(o.slots,(w1 b nb).trans u,)⟩
 calc(e5,C,(.ref t5,.ref e),[],Ll,σ,H5,U,I6.excStepY a6 (λb R=>by rw[show b=e5 by simpa using R];exact n5),.fresh w2 U U U U U,λb R=>by rw[show b=e5 by simpa using R];exact n5,Lg 0,nofun,q5 _,)
end
open PySem.Builtin PySem.Builtin.Str
def wJ:∀{l:Lw (Str×Tok)}{zs:Lw Str},l.map (·.1)=zs->Vals (zs.map NE) (KO l)
 | [],_,rfl=>.nil
 |p :: l,_,rfl=>.cons (p.2,U,)<|wJ (l:=l) U
def xN(z y:Str)(hz:⇑z+2<=A8):⇑(io z y)<=A8:=by
 unfold io;split
 .show 1<=A8;lia
 .split
  .show 1<=A8;lia
  .let a:=ML z y 0 ⇑z<|⇑z+1;rw[KP];lia
inductive zp  (x:V)(vs:Lw V)(H:Hp)(Q:VK):Prop
 |mk (z y:Str)(_:x=.str z)(_:vs=[.str y])(_:(⇑y == 0)=Lj)(_:⇑z+2<=A8)(_:∀l,H l=Lh->Q (.ref l) (upd H l<|.lst<|(io z y).map NE)):zp x vs H Q
def ke:MtM X "str.split" zp:=by
 intro Ll s σ H x w v A Q I i j h;let(z,y,rfl,rfl,d,p,q):=h;let(t,rfl):=i;let(B,rfl,m):=j.one;let(u,rfl):=m;let fin:∀(l:Lw (Str×Tok))(k:Nat),l.map (·.1)=io z y->EP X Ll σ Q (.ref ↥s) { s with heap:=s.heap.push { cls:=.type "list",data:=.seq (KO l).toArray },toks:=k }:=λl k e =>
  (.ref ↥s,_,I.laid (a:=↥s) (o:=.lst<|(io z y).map NE) (t':=k) (λb o g=>am _ g) (sT _) (by rw[ck];exact xN z y p,KO l,0,wJ e,ii _ U,),U,q _ I.fresh,)
 let r:⇑(partsBetween z (occurrences z y 0 ⇑z<|⇑z+1) ⇑y)<=A8:=by
  let:=ML z y 0 ⇑z<|⇑z+1;rw[KP];lia
 cases h1:(Lk (⇑z<⇑y) || decide (sK z<sK y)) with
 |true=>exact JU PySem.F.slot_str_split (JP _ _ _) PySem.F.entry_str_split (PySem.F.args_str_split_2 _ _) (meets_str_split_cannot_occur z y t u h1) (fin [(z,t)] s.toks (by unfold io;rw[Lo h1];rfl))
 |false =>
  let c:¬ (Lk (⇑z<⇑y) || decide (sK z<sK y))=true:=by rw[h1];exact bv
  cases hf:(occurrences z y 0 ⇑z<|⇑z+1).isEmpty with
  |true=>exact JU PySem.F.slot_str_split (JP _ _ _) PySem.F.entry_str_split (PySem.F.args_str_split_2 _ _) (meets_str_split_not_found z y t u h1 d hf) (fin [(z,t)] s.toks (by unfold io;rw[Lm c,Lo hf];rfl))
  |false =>
   let n:¬ (occurrences z y 0 ⇑z<|⇑z+1).isEmpty=true:=by rw[hf];exact bv
   calc JU PySem.F.slot_str_split (JP _ _ _) PySem.F.entry_str_split (PySem.F.args_str_split_2 _ _) (meets_str_split_sep z y t u h1 d hf ∅ r) ?_;let f:=fin (numbered s.toks<|partsBetween z (occurrences z y 0 ⇑z<|⇑z+1) ⇑y) (s.toks+⇑(partsBetween z (occurrences z y 0 ⇑z<|⇑z+1) ⇑y)) (by rw[numbered_texts];unfold io;rw[Lm c,Lm n]);rw[←strsFrom_eq]at f;calc f
inductive Cp  (x:V)(vs:Lw V)(H:Hp)(Q:VK):Prop
 |mk (z y:Str)(_:x=.str z)(_:vs=[.str y])(_:(⇑y == 0)=Lj)(_:⇑z<=A8)(_:∀p,H p=Lh->Q (.ref p) (upd H p<|.tup [.str (dL z y).1,.str (dL z y).2.1,.str (dL z y).2.2])):Cp x vs H Q
def ee:MtM X "str.partition" Cp:=by
 intro Ll s σ H x w v A Q I f j h;let(z,y,rfl,rfl,n,m,q):=h;let(t,rfl):=f;let(B,rfl,l):=j.one;let(u,rfl):=l;let fin:∀(a b c:Str)(ta e d:Tok)(k:Nat),(∀p,H p=Lh->Q (.ref p) (upd H p<|.tup [.str a,.str b,.str c]))->EP X Ll σ Q (.ref ↥s) { s with heap:=s.heap.push { cls:=.type "tuple",data:=.seq [.str a ta,.str b e,.str c d].toArray },toks:=k }:=λa b c ta e d k q =>
  (.ref ↥s,_,I.laid (a:=↥s) (o:=.tup [.str a,.str b,.str c]) (t':=k) (λb o g=>am _ g) (sT _) ((by show 3<=A8;decide),[.str a ta,.str b e,.str c d],.cons (_,U,)<|.cons (_,U,)<|.cons (_,U,) .nil,(_,ii _ U,U,_,U,),),U,q _ I.fresh,)
 calc JU PySem.F.slot_str_partition (JP _ _ _) PySem.F.entry_str_partition (PySem.F.args_str_partition_2 _ _) (meets_str_partition z y t u n m) ?_;unfold dL at q
 revert q
 cases occurrences z y 0 ⇑z 1 with
 |nil=>intro q;exact fin _ _ _ _ _ _ _ q
 |cons i r=>intro q;exact fin _ _ _ _ _ _ _ q
open PySem.StrLaws
def kP(s sub:Str)(hi b:Nat):∀(l:Lw Nat)(st:Array Nat×Nat)(c:Nat),c∈st.fst.toList->c∈(forIn l st<|occBody s sub hi b).run.fst.toList
 | [],_,_,h=>h
 |a :: l,st,c,h=>by
  rw[nY];unfold occBody;split
  .exact kP s sub hi b l _ c (by rw[yx];exact gq _ h)
  .exact kP s sub hi b l _ c h
def rV(s sub:Str)(hi b:Nat)(d:hi<b):∀(m a:Nat)(st:Array Nat×Nat),st.fst.size<=a->a+m<=hi+1->∀i,a<=i->i<a+m->st.snd<=i->At s sub hi i ->
  ∃c∈(forIn (LX a m) st<|occBody s sub hi b).run.fst.toList,c<=i/\i<c+⇑sub\/(c<=i/\i<=c)
 |0,a,st,_,_,i,h1,h2,_,_=>Lp h2 ∅
 |m+1,a,st,hs,ha,i,h1,h2,h3,h4=>by
  rw[List.range'_succ,nY];unfold occBody;split
  .rename_i hc
   by_cases e:i=a
   .refine(a,kP s sub hi b _ _ a (by rw[yx];exact gb _ (by simp)),.inr (∅,∅,),)
   .by_cases f:i<a+⇑sub
    .exact(a,kP s sub hi b _ _ a (by rw[yx];exact gb _ (by simp)),.inl (∅,f,),)
    .exact rV s sub hi b d m (a+1) (st.fst.push a,a+⇑sub) (by simp;lia) ∅ i ∅ ∅ (by show a+⇑sub<=i;lia) h4
  .rename_i hc
   by_cases e:i=a
   .subst e;exact Lp (((∅,h3,),h4.1,),h4.2,) hc
   .exact rV s sub hi b d m (a+1) st ∅ ∅ i ∅ ∅ h3 h4
def qU{s sub:Str}{hi:Nat}:∀{a:Nat}{b:Lw Nat}{f:Nat},ChainTo s sub hi a b f->∀c∈b,a<=c
 |a,[],f,h,c,hc=>by cases hc
 |a,d :: r,f,h,c,hc=>by
  rcases dy.mp hc with e|e
  .rw[e];exact h.1
  .let:=qU h.2.2 c e;let:=h.1;lia
def zq(x y:Str){a c j:Nat}(d:c<=⇑x)(b:a+j+⇑y<=c):subAt (strSub x a c) y j=subAt x y (a+j):=by
 rw[subAt_eq,subAt_eq,strSub_toList]
 congr 1
 rw[List.drop_take,List.drop_drop,List.take_take]
 congr 1
 lia
def len_sub(x:Str){a c:Nat}(b:c<=⇑x):⇑(strSub x a c)=c-a:=by
 show(strSub x a c).cps.size=c-a;rw[←xO,strSub_toList,fK,mu,xO];let:x.cps.size=⇑x:=rfl;lia
def oi(x y:Str)(n:1<=⇑y):∀(k:Lw Nat)(a f:Nat),ChainTo x y ⇑x a k f->(∀i,a<=i->At x y ⇑x i->∃c∈k,c<=i/\(i<c+⇑y\/i<=c))->a<=⇑x ->
  ∀p∈partsFrom x ⇑y a k,∀j,j+⇑y<=⇑p->subAt p y j=Lj
 | [],a,f,h,cov,ha,p,g,j,hj=>by
  let e:p=strSub x a ⇑x:=by simpa[partsFrom]using g
  subst e;rw[len_sub x (sT _)]at hj;rw[zq x y (sT _) ∅];cases q:subAt x y (a+j) with
  |false=>rfl
  |true =>
   let(c,o,_):=cov (a+j) ∅ (∅,q,);cases o
 |c :: r,a,f,h,cov,ha,p,g,j,hj=>by
  let u:=h.1;let t:=h.2.1.1;rcases dy.mp (show p∈strSub x a c :: partsFrom x ⇑y (c+⇑y) r from g)with e|g
  .subst e;rw[len_sub x ∅]at hj;rw[zq x y (c:=c) ∅ ∅];cases q:subAt x y (a+j) with
   |false=>rfl
   |true =>
    let(d,b,m,_):=cov (a+j) ∅ (∅,q,);rcases dy.mp b with e|b
    .lia
    .let:=qU h.2.2 d b;lia
  .refine oi x y n r (c+⇑y) f h.2.2 (λi hi l=>?_) ∅ p g j hj;let(d,b,m,s):=cov i ∅ l;rcases dy.mp b with e|b
   .lia
   .exact(d,b,m,s,)
def oj(x y:Str)(m:1<=⇑y)(n:decide (sK x<sK y)=Lj):∀p∈io x y,∀j,j+⇑y<=⇑p->subAt p y j=false:=by
 intro p a j l;let b:∀i,0<=i->At x y ⇑x i->∃c∈occurrences x y 0 ⇑x (⇑x+1),c<=i/\(i<c+⇑y\/i<=c):=λi _ d=>by
  rw[occ_eq];let s:=d.1;let(c,k,h):=rV x y ⇑x (⇑x+1) (vi _) (⇑x+1-0) 0 (#[],0) (sT _) ∅ i (uk _) ∅ (uk _) d;exact(c,k,∅,∅,)
 let(f,r):=occ_chain x y<|⇑x+1;let g:=oi x y m _ 0 f r b<|uk _;unfold io at a;split at a
 .rename_i h1
  rw[n,AT,decide_eq_true_eq]at h1;let e:p=x:= ~~~a
  rw[e]at l;lia
 .split at a
  .rename_i h2
   let e:p=x:= ~~~a
   subst e;let o:occurrences p y 0 ⇑p (⇑p+1)=[]:=List.isEmpty_iff.mp h2;cases q:subAt p y j with
   |false=>rfl
   |true =>
    let(c,k,_):=b j (uk _) (l,q,);rw[o]at k;cases k
  .rw[partsBetween_eq]at a;calc g p a j l
def  tl(z:Str):Lw Nat:=z.cps.toList
def cg(a b:Str):tl (a++b)=tl a++tl b:=by
 unfold tl;rw[Str.cps_append,Nf]
def gv{a b:Str}(h:tl a=tl b):a=b:=by
 cases a with
 |mk x =>
  cases b with
  |mk y =>
   let:x=y:=yy.mp h;rw[this]
def bf(z:Str):⇑(tl z)=⇑z:=by unfold tl;rw[xO];rfl
def gF(m:Str)(zs:Lw Str):kt m zs=lc m zs:=glued_eq_join m zs
def join_cons(m x y:Str)(r:Lw Str):lc m (x :: y :: r)=x++m++lc m (y :: r):=rfl
def cw(m x y:Str)(r:Lw Str):tl (lc m (x :: y :: r))=tl x++(tl m++tl (lc m (y :: r))):=by rw[join_cons,cg,cg,iD]
def pH(c:Nat)(m:Str):∀zs:Lw Str,(tl<|lc m zs).count c=(zs.map λz=>(tl z).count c).sum+(⇑zs-1)*(tl m).count c
 | []=>by show(tl tz).count c=_;simp[tl,tz]
 | [x]=>by show(tl x).count c=_;simp
 |x :: y :: r=>by
  rw[cw,lq,lq,pH c m (y :: r)];simp only[gy,so,ig];let:⇑r+1+1-1=(⇑r+1-1)+1:=∅
  rw[this,wc];lia
def  mk2:Str:=s!", "
def lT:tl mk2=[44,32]:=rfl
def qV:∀{W P:Lw Str},W≠[]->P≠[]->(∀w∈W,44 ∉ tl w)->(∀p∈P,∀j,(tl p)[j]?=Lg 44->(tl p)[j+1]?≠Lg 32)->tl (lc mk2 P)=tl (lc mk2 W)->P=W
 | [],_,h,_,_,_,_=>Lp U h
 |_,[],_,h,_,_,_=>Lp U h
 | [w],[p],_,_,_,_,e=>by
  let e:tl p=tl w:=e;rw[gv e]
 | [w],p :: d :: P,_,_,hw,_,e=>by
  let e:tl (lc mk2 (p :: d :: P))=tl w:=e;rw[cw,lT]at e;let:44∈tl w:=by rw[←e];simp
  exact Lp this<|hw w (by simp)
 |w :: c :: W,[p],_,_,_,hp,e=>by
  let e:tl p=tl (lc mk2 (w :: c :: W)):=e;rw[cw,lT]at e;let a:(tl p)[⇑(tl w)]?=Lg 44:=by rw[e];simp
  let b:(tl p)[⇑(tl w)+1]?=Lg 32:=by
   rw[e,gn ∅];rw[show⇑(tl w)+1-⇑(tl w)=1 by lia];rfl
  exact Lp b<|hp p (by simp) _ a
 |w :: c :: W,p :: d :: P,_,_,hw,hp,e=>by
  rw[cw,cw,lT]at e;let k:⇑(tl p)=⇑(tl w):=by
   rcases v5 ⇑(tl p) ⇑(tl w) with g|g|g
   .let a:(tl p++([44,32]++tl (lc mk2 (d :: P))))[⇑(tl p)]?=Lg 44:=by simp
    rw[e,gi g]at a;exact Lp (IW a)<|hw w (by simp)
   .exact g
   .let a:(tl w++([44,32]++tl (lc mk2 (c :: W))))[⇑(tl w)]?=Lg 44:=by simp
    let b:(tl w++([44,32]++tl (lc mk2 (c :: W))))[⇑(tl w)+1]?=Lg 32:=by
     rw[gn ∅,show⇑(tl w)+1-⇑(tl w)=1 by lia];rfl
    rw[←e]at a b;rw[gi g]at a;by_cases l:⇑(tl w)+1<⇑(tl p)
    .rw[gi l]at b;exact Lp b<|hp p (by simp) _ a
    .rw[gn ∅,show⇑(tl w)+1-⇑(tl p)=0 by lia]at b;cases b
  let i:=ng e k;let m:tl (lc mk2 (d :: P))=tl (lc mk2 (c :: W)):=by
   let:=i.2;exact(ng this U).2
  rw[gv i.1,qV (by simp) (by simp) (λz f=>hw z<|fj _ f) (λz f=>hp z<|fj _ f) m]
def t7(x:Str):io x mk2≠[]:=by
 unfold io;split
 .simp
 .split
  .simp
  .intro h;let:=Lu LD h;rw[KP]at this;simp at this
def EL(x:Str):decide (sK x<sK mk2)=false:=by
 let a:sK mk2=1:= ~~~0
 rw[a];unfold sK;split
 .rfl
 .split <;> rfl
def om(x:Str):∀p∈io x mk2,∀j,(tl p)[j]?=Lg 44->(tl p)[j+1]?≠Lg 32:=λp d j g a=>by
 let f:=(IV.mp a).1;rw[bf]at f;let:=oj x mk2 ⋯ (EL x) p d j (by show j+2<=⇑p;lia);rw[subAt_eq]at this;let e:(p.cps.toList.drop j).take ⇑mk2=mk2.cps.toList:=by
  let i:=IV.mp g;let h:=IV.mp a;let(c,l):=i;let(b,k):=h;show((tl p).drop j).take 2=[44,32];rw[ot c,ot b,l,k];rfl
 rw[e]at this;simp at this
def pI{W:Lw Str}(h:W≠[])(a:∀w∈W,44 ∉ tl w):io (kt mk2 W) mk2=W:=by
 calc qV h (t7 _) a (om _) ?_;rw[join_split,gF]
def  Ltr(z:Str):Prop:=∀c∈tl z,97<=c/\c<=122
def Ltr.no{z:Str}(h:Ltr z){c:Nat}(a:c<97):(tl z).count c=0:=ox.mpr λm=>by have:=h c m;lia
def zr{zs:Lw Str}{c:Nat}(h:∀z∈zs,(tl z).count c=0):(zs.map λz=>(tl z).count c).sum=0:=by
 induction zs with
 |nil=>rfl
 |cons z zs a=>rw[gy,so,h z (by simp),a λw b=>h w (by simp[b])]
def  bq:Str:=s!".."
def rW:tl bq=[46,46]:=rfl
def rX{a b:Str}:(!(occurrences (a++bq++b) bq 0 ⇑(a++bq++b) 1).isEmpty)=true:=by
 rcases occ_head (a++bq++b) bq 1 (sT _) with⟨_,h⟩|⟨i,r,e,_⟩
 .let c:⇑(a++bq++b)=⇑a+2+⇑b:=by rw[Str.length_append,Str.length_append];rfl
  refine Lp (?_,?_,)<|h ⇑a
  .show ⇑a+2<=_;rw[c];lia
  .rw[subAt_eq];show(((tl<|a++bq++b).drop ⇑a).take 2 == tl bq)=Li;rw[cg,cg,iD,←bf a,pf,rW];rfl
 .rw[e];rfl
def t8{t:Str}(h:(tl t).count 46<=1):(!(occurrences t bq 0 ⇑t 1).isEmpty)=false:=by
 rcases occ_head t bq 1 (sT _) with⟨e,_⟩|⟨i,r,e,a,_⟩
 .rw[e];rfl
 .exfalso;let b:=a.2;rw[subAt_eq]at b;let c:((tl t).drop i).take 2=[46,46]:=eq_of_beq b;let g:(tl t).count 46=((tl t).take i).count 46+((tl t).drop i).count 46:=by rw[←lq,mf]
  let d:((tl t).drop i).count 46=(((tl t).drop i).take 2).count 46+(((tl t).drop i).drop 2).count 46:=by rw[←lq,mf]
  rw[c]at d;let f:([46,46]:Lw Nat).count 46=2:=rfl;lia
def wK{t:Str}(h:(!(occurrences t bq 0 ⇑t 1).isEmpty)=Li):tl t=tl (dL t bq).1++([46,46]++tl (dL t bq).2.2):=by
 rcases occ_head t bq 1 (sT _) with⟨e,_⟩|⟨i,r,e,a,_⟩
 .rw[e]at h;cases h
 .unfold dL;rw[e];let j:=a.1;let b:=a.2;rw[subAt_eq]at b;let c:((tl t).drop i).take 2=[46,46]:=eq_of_beq b;let g:⇑(tl t)=⇑t:=bf t;show tl t=tl (strSub t 0 i)++([46,46]++tl (strSub t (i+2) ⇑t));let f:tl (strSub t 0 i)=(tl t).take i:=by
   show(strSub t 0 i).cps.toList=_;rw[strSub_toList];rfl
  let d:tl (strSub t (i+2) ⇑t)=(tl t).drop (i+2):=by
   show(strSub t (i+2) ⇑t).cps.toList=_;rw[strSub_toList];exact oy (by rw[mu];show⇑(tl t)-_<=_;lia)
  rw[f,d,←c]
  conv=>lhs;rw[←mf i (tl t),←mf 2 ((tl t).drop i)]
  rw[List.drop_drop]
def xP{a b c d:Lw Nat}(h:a++([46,46]++b)=c++([46,46]++d))(i:46 ∉ a)(l:46 ∉ b):a=c/\b=d:=by
 let k:(a++([46,46]++b)).count 46=(c++([46,46]++d)).count 46:=by rw[h]
 rw[lq,lq,lq,lq,ox.mpr i,ox.mpr l]at k;let m:46 ∉ c:=ox.mp ∅;let j:⇑a=⇑c:=by
  rcases v5 ⇑a ⇑c with g|g|g
  .let f:(a++([46,46]++b))[⇑a]?=Lg 46:=by simp
   rw[h,gi g]at f;exact Lp (IW f) m
  .exact g
  .let f:(c++([46,46]++d))[⇑c]?=Lg 46:=by simp
   rw[←h,gi g]at f;exact Lp (IW f) i
 let e:=ng h j;calc(e.1,(ng e.2 U).2,)
section
variable{M:D0}
def EM{e:Ew}{scope:C4}{pos:Pos}{i first:Sem zt}{g:KQ}{G:Lw KQ}{cl:Lw (Str×AM)}{Q:zt->C3->Prop}
  (d:clausesOf e=g :: G)(v:∀x,Jm g.iter env x=pure x)(H:JY scope env=pure cl)
  (j:scope.kind=.function)(I:∀x∈scope.names,x.2=.local->scope.names.lookup x.1=Lg .local)
  (h:D2 M A first (λx o=>D2 M A (Jg x) (λit n=>D2 M A i (λb l =>
   D2 M A (Kb scope env.globals cl [] env.qual Lh .none (Lg env)) (λcenv k =>
    Jv M A (.compStart e 0 it b { cenv with scope:=relabel scope env }) (λr s'=>∃m,s'.heap.Ns cenv.locals m/\∀h',Go cenv.locals s'.heap h' ->
     match r with | .ok _=>Q b { s' with heap:=h' } | .error x=>D2 M A (passOn "comprehension.variables-let-go" x { cenv with scope:=relabel scope env }:Sem zt) (λ_ _=>False) E { s' with heap:=h' }) k) E l) E n) E o) E s) :
  D2 M A (comprehension e scope env pos i Lj first) Q E s:=by
 unfold comprehension;rw[H,d];calc yN<|EX h (λx o F=>yN<|Jb<|yN<|wpAny_of_eq (v x)<|yN<|zb<|EX F (λit n D=>?_) λ_ _ z=>z) λ_ _ z=>z;calc wpAny_standIf<|yN<|EX D (λb l C=>yN<|yU<|yN<|EX C (λcenv k B=>?_) λ_ _ z=>z) λ_ _ z=>z;dsimp only;let p:∀x∈(scope.names.filter λx=>(x.2 == .local || x.2 == .cell) && x.1 != (".0" : Str)).reverse,x.2=.local->Env.kindOf { cenv with scope:=relabel scope env } x.1=Lg .local :=
  λx u w=>Ke<|I x (nL.mp<|List.mem_reverse.mp u).1 w
 calc zb<|yN<|KR<|zb<|wpAny_run<|JF B λr s' c=>?_;let(m,q,c):=c;cases r with
 |ok f=>exact yN (zb<|KS (cenv:={ cenv with scope:=relabel scope env }) j _ s' m p q λh' t _ a=>yU<|c h' a)
 |error x=>calc yN (zb<|KS (cenv:={ cenv with scope:=relabel scope env }) j _ s' m p q λh' t _ a=>EX (c h' a) (λ_ _ f=>f.elim) λ_ _ y=>y)
end
section
variable{R:Ju->C3->Prop}
def t9{e a b:Ew}{d:Lw Ew}{scope:C4}{pos:Pos}{it f:zt}{env:Env}(B:zt->C3->Prop)(C:∀g s',B g s'->KU (model prog w) A env (λx k=>R (.error x) k) g s')(J:Nat->C3->Prop)
  (turn:∀n s,J n s->D2 (model prog w) A (Je it) (λr j=>match r with
   |none=>R (.ok .next) j
   |some v=>D2 (model prog w) A (Jf a it v) (λ_ q=>D2 (model prog w) A (assign a env v) (λ_ p =>
     D2 (model prog w) A (forIn d Li λc r=>if r=Li then do let ok ←ED c env (eval c env);pure (wP ok)else pure (wP r)) (λok i =>
      if ok=Li then D2 (model prog w) A (eval e env) (λy o=>D2 (model prog w) A (call (.builtin "list.append") [f,y]) (λ_ l=>∃m,m<n/\J m l) (λ_ _=>False) o) B i
      else ∃m,m<n/\J m i) (λ_ _=>False) p) (λ_ _=>False) q) (λ_ _=>False) j) (λ_ _=>False) s)
  (n:Nat)(h:J n s):Jv (model prog w) A (.compLoop (.ListComp e [(a,b,d,0,)] scope pos) 0 it f env) R s:=by
 calc codeAny_loop U J (λn s D=>?_) n h;show D2 _ A ((compTurn (.ListComp e [(a,b,d,0,)] scope pos) 0 it f env).onRaise (λx=>do J7 x env;J8 x)) _ _ s;calc wpAny_noted ?_;rw[J9];calc yN<|Jb<|yN<|EX (turn n s D) (λr j u=>?_) λ_ _ z=>z.elim;cases r with
 |none=>exact yU u
 |some v =>
  calc yN<|EX u (λ_ q H=>?_) λ_ _ z=>z.elim;calc yN<|EX H (λ_ p G=>yN<|EX G (λok i t=>?_) λ_ _ z=>z.elim) λ_ _ z=>z.elim;cases ok with
  |false=>exact yU (U,t,)
  |true=>calc yN (yN<|EX t (λy o F=>yN<|EX F (λ_ l E=>yU<|yU (U,E,)) λ_ _ z=>z.elim) λg s' z=>C g s' z)
end
def  lU(X:Cx)(N:Lw Str)(scope:C4)(cl:Lw (Str×AM))(b:Lw AM)(C:AM)(a:C3)(c:Hp)(pl:Lw (AM×Obj)):Cx:={ bc X N scope cl b C a c with pn:=pl }
def  vp(X:Cx)(N:Lw Str)(scope:C4)(cl:Lw (Str×AM))(L:AM)(E:XK)(b:Lw AM)(C:AM)(a:C3)(c:Hp)(pl:Lw (AM×Obj)):Cx:=(lU X N scope cl b C a c pl).wish<|jW (lU X N scope cl b C a c pl) L E
def  Dj(X:Cx)(N:Lw Str)(scope:C4)(cl:Lw (Str×AM))(L:AM)(E:XK)(c:Lw AM)(C:AM)(d:C3)(f:Hp):zt->C3->Prop:=λe s'=>∃a,(∀b∈c,∃o,(b,o)∈a)/\jW (lU X N scope cl c C d f a) L E e s'
variable{cl:Lw (Str×AM)}
section
variable{fp:Lw AM}{s2:C3}{H2:Hp}{pl:Lw (AM×Obj)}
def Inv.topn(I:Inv (bc X N scope cl fp C s2 H2) ([]++pl) σ H s):Inv (lU X N scope cl fp C s2 H2 pl) [] σ H s :=
 ((I.ok.mod,I.ok.kind,I.ok.glob,I.ok.blt,I.ok.above,I.ok.inj,I.ok.has,I.ok.cab,I.ok.hd,I.ok.frames,I.ok.stk,I.ok.exf,I.ok.bs,I.ok.bsz,I.ok.noex,I.ok.exfs,I.ok.funs,I.ok.frf,),I.os,I.bare,I.base,I.loc,I.cell,I.free,I.freeC,λp a=>I.pin p<|gb _<|gb _<|(eA.mp a).elim (λz=>z) λz=>(List.not_mem_nil z).elim,I.hok,I.len,)
def Inv.ofpn(I:Inv (lU X N scope cl fp C s2 H2 pl) [] σ H s):Inv (bc X N scope cl fp C s2 H2) ([]++pl) σ H s :=
 ((I.ok.mod,I.ok.kind,I.ok.glob,I.ok.blt,I.ok.above,I.ok.inj,I.ok.has,I.ok.cab,I.ok.hd,I.ok.frames,I.ok.stk,I.ok.exf,I.ok.bs,I.ok.bsz,I.ok.noex,I.ok.exfs,I.ok.funs,I.ok.frf,),I.os,I.bare,I.base,I.loc,I.cell,I.free,I.freeC,λp a=>I.pin p<|gq _<|(eA.mp a).elim (λz=>by cases z) λz=>(eA.mp z).elim (λz=>by cases z) λz=>z,I.hok,I.len,)
end
def Inv.newAtP(I:Inv X Ll σ H s)(f:∀b∈X.ex,∃o,(b,o)∈X.pn){b:AM}(a:s.heap.get? b=Lh):cY X Ll H b:=by
 refine(?_,I.hok.none_of a,?_,?_,?_,)
 .cases q:X.s₀.heap.get? b with
  |none=>rfl
  |some o =>
   let(k,d):=I.base.there b o q (λh=>by
    let(e,j):=f b h;let:=(I.pin (b,e)<|gq _ j).1;rw[a]at this;cases this)
   rw[a]at d;cases d
 .rintro rfl;let(m,(o,_,_,q,_),_):=I.loc;rw[a]at q;cases q
 .rintro x c i rfl;let(v,o,q,_):=I.cell x c i;rw[a]at q;cases q
 .rintro p g rfl;let(q,_):=I.pin p g;rw[a]at q;cases q
section
variable{fp:Lw AM}{s2:C3}{H2:Hp}{pl:Lw (AM×Obj)}{L:AM}{E:XK}
def EO(d:∀b∈fp,∃o,(b,o)∈pl):Passes (CX1 X.prog X.w) (vp X N scope cl L E fp C s2 H2 pl) E:=λLl σ H s t s' I h=>by
 let(e,T,r,n,p,rfl,i,f,un,g,x,ne,j,k,m,q):=h;let J:=(I.unwish).call' (ch:=[]) i un g f λb z=>Lp z (by simp)
 let a:=(I.unwish).newAtP d ne;let c:=(I.unwish).newAtP d j;calc(e,r,n,[T],Ll,σ,p,U,J,.fly x,λb l=>?_,q,);rcases dy.mp l with z|z
 .rw[z];exact(a.ent,k,a.loc,a.cel,a.pin,)
 .rw[show b=T by simpa using z];calc(c.ent,m,c.loc,c.cel,c.pin,)
def xQ{x:zt}{a:AM}:J7 x (JX scope cl a X.env)=J7 x X.env:=rfl
end
variable{elt iter:Ew}{ifs:Lw Ew}{fr:Lw Nat}{gt:TG}{tt:TT}{te:TE}
section
variable{k:Nat}
def ua{Ll:Lw (AM×Obj)}{σ:St}{a:C3}{q:Hp}{it:AM}{f:Lw AM}{tn:Nat->A1->Prop}{J:It}{Q:VK}{E:zt->C3->Prop}{RR:zt->Env->Ju->C3->Prop}{L:AM}{E2:XK}
  (O:lP X N k fr scope cl)(hc:X.calm=Li)(h:Inv X Ll σ q a)(T:Turn X.prog X.w X.K tg J f it tn)(a1:tn 0 a.heap)(M:∀b∈f,kX X Ll q b)
  (ht:∀f C s H,PIf (bc X N scope cl f C s H) ifs tt)(he:∀f C s H pl,(∀b∈f,∃o,(b,o)∈pl)->PE (vp X N scope cl L E2 f C s H pl) elt te)
  (hg:∀f C s H,PG (bc X N scope cl f C s H) tg gt)(hW:kM J gt k fr tt te σ Q q)
  (fin:∀D C s' H',↥a<=C->H' C=Lh->(∃m,s'.heap.Ns C m)->Inv X Ll σ H' s'->Q (.ref D) H'->RR (.ref D) (JX scope cl C X.env) (.ok .next) s')
  (Gg:∀D C ev s',↥a<=C->Dj X N scope cl L E2 f C a q ev s'->KU (model X.prog X.w) X.A (JX scope cl C X.env) (λx c1=>RR (.ref D) (JX scope cl C X.env) (.error x) c1) ev s') :
  D2 (model X.prog X.w) X.A (Ka []) (λb3 s3=>D2 (model X.prog X.w) X.A (Kb scope X.env.globals cl [] X.env.qual Lh .none (Lg X.env)) (λcenv s4 =>
   Jv (model X.prog X.w) X.A (.compStart (.ListComp elt [(tg,iter,ifs,0,)] scope pos) 0 (.ref it) b3 { cenv with scope:=relabel scope X.env }) (RR b3 { cenv with scope:=relabel scope X.env }) s4) E s3) E a:=by
 refine Kc (Kd O.nocell (by intro y hy;simp at hy) (λh1 a2 S=>?_) O.kind);dsimp only at a2 S⊢;generalize hG:a.heap.push { cls:=.type "list",dict:=Lh,data:=.seq ([]:Lw zt).toArray }=G at a2 S⊢;let V:G.objs.size=↥a+1:=by rw[←hG,AC]
 let F:∀b o,a.heap.get? b=Lg o->h1.get? b=Lg o:=λb o e=>S.extBut b o (tj (by rw[V];exact u0 (bi e))) (am _<|hG ▸ am _ e)
 let za:h1.get? ↥a=Lg { cls:=.type "list",data:=.seq ([]:Lw zt).toArray 0 }:=S.extBut _ _ (tj (by rw[V];exact vi _)) (am _<|hG ▸ ii _ U);let hD:q ↥a=none:=h.fresh;let R:(bc X N scope cl f G.objs.size a q).Ok:=by
  refine(h.ok.mod,O.kind,h.ok.glob,h.ok.blt,by show ↥a<=G.objs.size;rw[V];exact u3 _,λy z c e1 e2=>h.ok.inj y z c (O.cells y c e1)<|O.cells z c e2,λy hy=>O.has y hy,λy c z=>Lp (show Lj=Li from z) bv,h.ok.hd,h.ok.frames,.inl U,
   λb g=>(?_,λy c e=>(M b g).2.2.2.2.1 y c<|O.cells y c e,),h.bs,tm h.ok.bsz h.sz,λb o e g=>?_,λb g z=>?_,h.stack,h.stkFree,)
  .let(o,e,_):=T.obj _ _ a1 b g;show b≠G.objs.size;exact tj (by rw[V];exact u0 (bi e))
  .rcases(M b g).2.2.2.1 with z|z
   .exact h.ok.noex b o e z
   .exact Lp (tN (bi e)<|tm h.ok.bsz z)<|vd _
  .rcases dy.mp (h.stkSub b z)with z|z
   .exact(M b g).2.1 z
   .exact(M b g).2.2.1 z
 let kb:∀{H':Hp},(∀b∈f,H' b=Lh)->∀b∈f,kX (bc X N scope cl f G.objs.size a q) [] H' b:=λhn b g =>
  (hn b g,(R.exf b g).1,R.exfs b g,.inl g,(R.exf b g).2,λp hp=>Lp (show p∈([]:Lw (AM×Obj))from hp) (by simp),)
 let I':Inv (bc X N scope cl f G.objs.size a q) [] (cX σ fr<|py k Lh) (upd q ↥a<|.lst []) { a with heap:=h1,toks:=a.toks+⇑([]:Lw (Str×zt)) }:=by
  refine(R,U,h.bare,Un.laid F (sT _) hD,(_,a2,λi y v e1 e2 e3=>?_,),λy c e=>?_,?_,λy c e=>?_,λp hp=>Lp (show p∈([]:Lw (AM×Obj))from hp) (by simp),h.hok.laid F (sT _) (uk _,[],0,.nil,za,),?_,)
  .by_cases a7:i<k
   .let B:(py k Lh++fr.map λj=>(σ[j]?).join)[i]?=Lg (Lg v):=e2;rw[gi (by rw[jZ];exact a7),ly,Lo a7]at B;cases B
   .let(j,q1,q2,q3,q4):=O.sub (i-k) y (by rw[show k+(i-k)=i by lia];exact e1);let B:(σ[j]?).join=Lg v:=by
     have:(py k Lh++fr.map λj=>(σ[j]?).join)[i]?=Lg (Lg v):=e2;rw[gn (by rw[jZ];lia),jZ,dV,q1]at this;exact gl this
    let e4:σ[j]?=Lg (Lg v):=by
     cases z:σ[j]? with
     |none=>rw[z]at B;cases B
     |some t=>rw[z]at B;exact Lu Lg B
    let(m,_,hl):=h.loc;let c0:Vis X.env.scope y:=.inr q3;let(u,r,l):=hl j y v q2 e4 c0;calc(u,r,.inr (q4,?_,),);let(c',a8):=O.has y q4;rcases l with⟨k,_⟩|⟨_,c,ec,ic⟩
    .rcases q3 with z|z
     .rw[z]at k;cases k
     .rw[z]at k;cases k
    .let:=O.cells y c' a8;let e':c=c':=gl<|ec.symm.trans this;let(o,ho,hd):=ic;rw[e']at ho;exact(c',a8,o,F c' o ho,hd,)
  .let(v,o,ho,hd):=h.cell y c<|O.cells y c e;exact(v,o,F c o ho,hd,)
  .show upd q ↥a (.lst []) G.objs.size=Lh;rw[ay (uK (by rw[V];exact vi _))];exact h.hok.fresh (by rw[V];exact u3 _)
  .let(v,o,ho,hd):=h.cell y c<|O.cells y c e;rw[ay (tj<|bi ho)];exact h.freeC y c<|O.cells y c e
  .show⇑(cX σ fr<|py k Lh)=N.length;rw[O.len];simp[cX]
 let a5:tn 0 h1:=T.keep _ _ _ a1 λb g o e=>F b o e
 let Y:∀s3:C3,s3={ a with heap:=h1,toks:=a.toks+⇑([]:Lw (Str×zt)) } ->
   Jv (model X.prog X.w) X.A (.compLoop (.ListComp elt [(tg,iter,ifs,0,)] scope pos) 0 (.ref it) (.ref ↥a)<|JX scope cl G.objs.size X.env) (RR (.ref ↥a)<|JX scope cl G.objs.size X.env) s3:=by
  rintro s3 rfl;let(W,(m0,w0),turn):=hW _ hD
  refine t9 (Dj X N scope cl L E2 f G.objs.size a q) (λev s9 z=>Gg _ _ ev s9 (by rw[V];exact u3 _) z) (λn s'=>∃i Z H',Z.length=k/\Inv (bc X N scope cl f G.objs.size a q) [] (cX σ fr Z) H' s'/\tn i s'.heap/\(∀b∈f,H' b=Lh)/\W i n H') ?_ m0
   (0,py k Lh,_,jZ,I',a5,λb g=>by
    rw[ay (by let(o,e,_):=T.obj _ _ a1 b g;exact tj (bi e))];exact(M b g).1,w0,)
  rintro n s' ⟨i,Z,H',c3,I3,a4,b0,w3⟩;rcases turn i n H' w3 with⟨b4,qn⟩|⟨go,step⟩
  .refine thn (T.done (bc X N scope cl f G.objs.size a q) U U U hc i [] s' _ H' _ I3 (kb b0) a4 b4) λr s4 (hr,I4,)=>?_
   subst hr;let(m,hm,_):=I4.loc;refine fin _ _ s4 H' (by rw[V];exact u3 _) I4.free (m,hm,) (h.call' (ch:=f) I4.os I4.base I4.hok I4.bare λb g=>?_) qn;exact((M b g).2.2.2.1,(M b g).2.1,(M b g).2.2.2.2.1,(M b g).2.2.2.2.2,)
  .refine thn (T.item (bc X N scope cl f G.objs.size a q) U U U hc i [] s' _ H' _ I3 (kb b0) a4 go) λr s4 (u,hr,h4,)=>?_
   subst hr;refine thn h4 λ_ s5 (y,H5,I5,r5,y5,P,c4,)=>?_
   let c5:=I5.pinned (kb c4)<|T.obj _ _ P;refine thn (hg f G.objs.size a q _ s5 _ H5 y u _ c5 r5<|step y H5 y5 Z c3) λ_ s6 (c6,H6,I6,(a3,C7,e6,),q6,)=>?_
   subst e6
   let I:∀{a0:St}{H7:Hp}{s7:C3}{m':Nat},a0=cX σ fr a3->Inv (bc X N scope cl f G.objs.size a q) ([]++iK f s5.heap) a0 H7 s7->m'<n->W (i+1) m' H7 ->
     ∃m,m<n/\∃i Z H',Z.length=k/\Inv (bc X N scope cl f G.objs.size a q) [] (cX σ fr Z) H' s7/\tn i s7.heap/\(∀b∈f,H' b=Lh)/\W i m H':=λ{a0 H7 s7 m'} e7 I7 hm w7=>by
    subst e7;calc(m',hm,i+1,a3,H7,C7,I7.unpinned,T.keep _ _ _ P λb g o e=>(I7.pin (b,o)<|gb _<|gb _<|dh g e).1,λb g=>?_,w7,);let(o,e,d):=T.obj _ _ P b g;exact(I7.pin (b,o)<|gb _<|gb _<|dh g e).2.1
   refine thn (ht f G.objs.size a q _ s6 _ H6 _ I6 q6) λok s7 (H7,I7,q7,)=>?_
   cases ok with
   |false =>
    rw[Lm bv]at q7⊢;let(m',hm,w7):=q7;exact I U I7 hm w7
   |true =>
    rw[Lo U]at q7⊢;let a6:∀b∈f,∃o,(b,o)∈iK f s5.heap:=λb g=>by
     let(o,e,_):=T.obj _ _ P b g;exact(o,dh g e,)
    refine EX (he f G.objs.size a q (iK f s5.heap) a6 [] s7 _ H7 _ ((I7.topn).wish _) q7) (λu8 s8 (v8,H8,I8,r8,ys,c2,b9,m',hm,w8,)=>?_) λev s9 z=>(iK f s5.heap,a6,z,)
    let I8:=(I8.unwish).ofpn;refine thn (bO (X:=bc X N scope cl f G.objs.size a q) _ s8 _ H8 (.ref ↥a) [v8] _ [u8] (λ_ H9=>W (i+1) m' H9) I8 U (.cons r8 .nil) (_,ys,v8,U,U,c2,b9,w8,)) λ_ s9 (_,H9,I9,_,w9,)=>?_
    exact I U I9 hm w9
 calc Kf (Y _ U)<|T.self _ 0 _ _ _ a5<|Y _ U
def Dl{Ll:Lw (AM×Obj)}{σ:St}{n:Hp}{i s':C3}{j:Lw AM}{C L:AM}{E:XK}{k:zt}{RR:Ju->C3->Prop}(f:X.stack=X.env :: X.outer)(r:X.env.frame=Lg L)(G:X.ex=[])(D:∀k s',jW X L E k s'->X.xe k s')
  (v:Inv X Ll σ n i)(t:∀b∈j,kX X Ll n b)(hC:↥i<=C)(z:Dj X N scope cl L E j C i n k s')
  (hR:∀x c,(∃m,c.heap.Ns C m/\∀h',Go C c.heap h'->D2 (model X.prog X.w) X.A (passOn "comprehension.variables-let-go" x (JX scope cl C X.env):Sem zt) (λ_ _=>False) X.xe { c with heap:=h' })->RR (.error x) c) :
  KU (model X.prog X.w) X.A (JX scope cl C X.env) (λx c=>RR (.error x) c) k s':=by
 let(P,F,e,Y,V,Ts,pz,a1,o,rfl,I,x,u,q):=z;let H:X.A.frames=Lg (X.env :: X.outer):=by rw[←f];exact I.ok.frames
 let J:s'.heap.FunFrames X.base (X.env :: X.outer):=by rw[←f];exact I.stack
 unfold KU;rw[xQ];refine note H J r x λh2 T st x2 hT=>?_
 rw[←f]at st;let h:=I.excStepY st u;let S:cY (lU X N scope cl j C i n P) pz o T:=by
  rcases hT with z|z
  .exact I.newAtP F z
  .exact u T<|fj e z
 let ne:=u e gs;let I4:Inv X Ll σ o { s' with heap:=h2 }:=v.call' (ch:=j) h.os h.base h.hok h.bare λb g=>((t b g).2.2.2.1,(t b g).2.1,(t b g).2.2.2.2.1,(t b g).2.2.2.2.2,)
 let(m,hm,_):=h.loc;calc hR _ _ (m,hm,λh' d=>?_,);let W:=v.left I4 hC h.free d;let p:e≠C:=ne.loc;let B:T≠C:=S.loc;let(oe,vs,oT,ts,O,y2,M,K,y5,y6,y7,Z):=id x2;let x3:tX h' e T (.ref Y) V (Jh L):=(oe,vs,oT,ts,(d.2 e p).trans O,y2,M,K,y5,(d.2 T B).trans y6,y7,Z,);let R:∀b∈[e,T],cY X Ll o b:=λb g=>by
  let Q:cY (lU X N scope cl j C i n P) pz o b:=by
   rcases dy.mp g with z|z
   .rw[z];exact ne
   .rw[show b=T by simpa using z];exact S
  let a:=v.newAt G (b:=b) Q.ent;exact(a.ent,Q.unt,a.loc,a.cel,a.pin,)
 unfold PySem.passOn;calc yN<|Kq (s:={ s' with heap:=h' }) ((d.2 e p).trans O) M K ?_;rw[Lm (show ¬ (zt.ref T == zt.none)=Li by simp)];show D2 (model X.prog X.w) X.A (Kr (.ref e) X.env.frame >>= λ_=>(throw (.ref e):Sem zt)) _ _ _;rw[r];calc yN<|qR (s:={ s' with heap:=h' }) (l:=X.stack) W.stack x3 λh3 y x4=>?_;calc wpAny_throw<|D _ _ (e,Y,V,[T],Ll,σ,o,U,W.excStepY y R,.held x4,R,q,)
def xR{B:TI}{L:AM}{E:XK}(n:X.stack=X.env :: X.outer)(t:X.env.frame=Lg L)(u:X.ex=[])(l:∀g s',jW X L E g s'->X.xe g s')(hi:PI X tg iter B)(O:lP X N k fr scope cl)(S:X.calm=Li)(R:∀d C s H,PG (bc X N scope cl d C s H) tg gt)(G:∀d C s H,PIf (bc X N scope cl d C s H) ifs tt)
  (he:∀d C s H pl,(∀b∈d,∃o,(b,o)∈pl)->PE (vp X N scope cl L E d C s H pl) elt te)
  (K:∀v,Jm iter X.env v=pure v:=by intro _;rfl):PE X (.ListComp elt [(tg,iter,ifs,0,)] scope pos) (vg B gt k fr tt te):=by
 intro Ll s σ H Q I h;rw[Kg];calc EM U K O.clos O.kind O.names<|thn (hi Ll s σ H _ I h) λv s1 Y=>thn Y λa0 s2 W=>?_;let(it,d,tn,J,H2,e,i,T,j,F,V):=W;subst e;refine ua (RR:=λy c r s'=>∃m,s'.heap.Ns c.locals m/\∀h',Go c.locals s'.heap h'->match r with | .ok _=>EP X Ll σ Q y { s' with heap:=h' } | .error x=>D2 (model X.prog X.w) X.A (passOn "comprehension.variables-let-go" x c:Sem zt) (λ_ _=>False) X.xe { s' with heap:=h' }) O S i T j F G he R V (λD C s' H' f M (m,P,) Z q=>?_) λD C g s' f z=>?_
 .exact(m,P,λh' p=>(.ref D,H',i.left Z f M p,U,q,),)
 .exact Dl (RR:=λr a=>∃m,a.heap.Ns C m/\∀h',Go C a.heap h'->match r with | .ok _=>EP X Ll σ Q (.ref D) { a with heap:=h' } | .error x=>D2 (model X.prog X.w) X.A (passOn "comprehension.variables-let-go" x (JX scope cl C X.env):Sem zt) (λ_ _=>False) X.xe { a with heap:=h' }) n t u l i F f z λx a h=>h
end
section
variable{E:XK}
def Dp:∀d s',jW (cxE P w K mg base N qual scope f cd A outer s0 H0 E) ↥s0 E d s'->(cxE P w K mg base N qual scope f cd A outer s0 H0 E).xe d s':=by
 rintro d s' ⟨e,C,g,h,Ll,σ,i,rfl,I,x,a,q⟩;calc(e,C,g,h,Ll,σ,i,U,I.unwish,x,λb c=>((a b c).ent,(a b c).unt,(a b c).loc,(a b c).cel,(a b c).pin,),q,)
end
def  TyG(K:ac)(H:Hp)(x:V)(t:zt):Prop:=m8 K H x t\/∃a b,x=.ref a/\SqT K H a b/\t=.type "tuple"
inductive ClV:V->zt->Prop where
 |ty (T:String):ClV (.ty T) (.type T)
 |ref (C:AM):ClV (.ref C) (.ref C)
def cG:gQ X (.builtin "isinstance") (λxs H Q=>∃x c d t b,xs=[x,c]/\ClV c d/\TyG X.K H x t/\Mh X.K t d=Lg b/\Q (.bl b) H):=by
 intro Ll s σ H xs v Q I r h;let(x,c,d,t,b,rfl,i,ty,e,q):=h;cases r with
 |cons g j =>
  cases j with
  | @cons _ cu _ _ ry r3 =>
   cases r3;let n:cu=d:=by cases i <;> exact ry
   subst n;rcases ty with ty|⟨a,u,rfl,k,rfl⟩
   .exact xx I g ty e λf=>(.bl b,H,I.tok f,U,q,)
   .cases (show _=zt.ref a from g);let(p,r,(o,m,l,_),_):=I.tuple k;calc FB W.kitx_tuple I.kIn (o,m,l,) e (λz=>nomatch z) λf=>(.bl b,H,I.tok f,U,q,)
structure nk(K:ac)(C:AM):Prop where
 cl:Cls K C
 ha:wT K (.ref C) "__class__" = Lg (Lg<|.builtin "object.__class__")
 hn:L1 K (.builtin "object.__class__") "__get__" = Lg (Lg<|.builtin "getset_descriptor.__get__")
 tk:W.takesIn K (.builtin "object.__class__")=Lg Li
 hm:W.mroIn K C (.type "object")=Lg Li
def nk.ty{K:ac}{C:AM}(h:nk K C){H:Hp}{a b:AM}{fs:Lw (Str×V)}(e:H a=Lg (.ins C b fs)):TyG K H (.ref a) (.ref C):=.inl<|.ins e h.cl h.ha h.hn h.tk h.hm
def  zw(CX:CXT)(P:zA)(w:zz)(K:ac)(mg:Str->Option zt)(base:A1)(k:Nat)(m:Str)(ps:Lw Str)(cs:Lw (AM×Sp)):Prop :=
 ∀p∈cs,bE CX P w K mg base k p.1 m ps p.2/\Cls K p.1
variable{cs:Lw (AM×Sp)}
section
variable{k:Nat}
def Dq:zw CX P w K mg base k m ps []:=λ_ h=>nomatch h
def xS(M:bE CX P w K mg base k C m ps sp)(c:Cls K C)(r:zw CX P w K mg base k m ps cs):zw CX P w K mg base k m ps ((C,sp) :: cs):=λp h=>by
 rcases dy.mp h with rfl|h
 .exact(M,c,)
 .exact r p h
end
inductive Cq(cs:Lw (AM×Sp))(m:Str)(t:TA)(σ:St)(Q:VK)(x:V)(H1:Hp):Prop
 |mk (a p dx fs:_)(_:x=.ref a)(_:p∈cs)(_:H1 a=Lg (.ins p.1 dx fs))(_:fs.lookup m=Lh)(_:t σ H1 λvs H2=>p.2 (x :: vs) H2 Q E0):Cq cs m t σ Q x H1
def  ER(cs:Lw (AM×Sp))(m:Str)(ta:TE)(t:TA):TE:=λσ H Q=>ta σ H λx a=>Cq cs m t σ Q x a
section
variable{k:Nat}
def Dr{pl:Sem Bool}(M:zw CX X.prog X.w X.K X.mg X.base k m ps cs)(B:Passes CX X E0)(D:cS k X.A)(G:PE X o ta)(L:PA X (e :: es) t)
  (b:EN (e :: es) X.env=(Lj,eval e X.env) :: EN es X.env:=by rfl)(d:(EE pos<|EN es X.env).any (·.1)=false:=by rfl)
  (C:eval (.Call (.Attribute o m apos) (e :: es) [] pos) X.env=(do
   let g ←eval o X.env
   F6 apos.atName
   let (f,first) ←holding [g] (Jt g m pl)
   KA pos f first (EE pos<|EN (e :: es) X.env) (JS pos<|JT [] X.env)):=by rfl) :
  PE X (.Call (.Attribute o m apos) (e :: es) [] pos) (ER cs m ta t):=by
 intro Ll s σ H Q I h;calc LK (pl:=pl) (thn (G Ll s σ H _ I h) λu v (x,P,n,y,a,p,S,fs,N,E,O,l,q,)=>?_) C;let((f,fd,i,F,J),c):=M p E;subst N;obtain rfl:u=zt.ref a:=y;calc jn n O c i l ?_;calc Ix (first:=[.ref a]) (h₀:=X.base) I.ok.mod.kin i.kp (thn (L pos Ll v σ P _ n q) λus R (vs,T,j,r,z,)=>(j.kIn,?_,)) b d;calc xI (us:=.ref a :: us) (vs:=.ref a :: vs) F D J B j (.cons U r) z
def wL{pl:Sem Bool}(M:zw CX X.prog X.w X.K X.mg X.base k m ps cs)(i:Passes CX X E0)(n:cS k X.A)(t:PE X o ta)
  (j:eval (.Call (.Attribute o m apos) [] [] pos) X.env=(do
   let d ←eval o X.env
   F6 apos.atName
   let (f,first) ←holding [d] (Jt d m pl)
   KA pos f first (EE pos<|EN [] X.env) (JS pos<|JT [] X.env)):=by rfl) :
  PE X (.Call (.Attribute o m apos) [] [] pos) (ER cs m ta xy):=by
 intro Ll s σ H Q I h;calc LK (pl:=pl) (thn (t Ll s σ H _ I h) λu B (x,D,b,g,a,p,C,fs,y,r,z,l,q,)=>?_) j;let((f,fd,e,F,v),c):=M p r;subst y;obtain rfl:u=zt.ref a:=g;calc jn b z c e l ?_;calc M6 (first:=[.ref a]) b.kIn e.kp<|xI (us:=[.ref a]) (vs:=[.ref a]) F n v i b (.cons U .nil) q
def nq(M:bB CX X.prog X.w X.K X.mg X.base k x C ps sp)(b:Passes CX X E0)(c:cS (k+1) X.A)(e:Gl X x)(a:(x == ("__debug__" : Str))=false:=by decide) :
  PE X (.Call (.Name x p) [] [] pos) (tMk C sp xy):=by
 let(f,fd,M,F,g,d):=M;let h:=yR (E:=E0) (dvs:=[]) (ds:=[]) (p:=p) (pos:=pos) M F c e d g .nil b a;intro Ll s σ H Q I q;calc h Ll s σ H Q I q
end
def qW{c A B:Prop} [Decidable c] (a:c)(h:A):if decide c=Li then A else B:=by rw[Lo (Lq a)];calc h
def iw{c A B:Prop} [Decidable c] (a:¬ c)(h:B):if decide c=Li then A else B:=by rw[Lm (by rw[Lr a];decide)];calc h
def ls0{P:Lw zt->Prop}(h:P []):∀us:Lw zt,⇑us=0->P us:=λus e=>by
 cases us
 .exact h
 .cases e
def lsS{P:Lw zt->Prop}{n:Nat}(h:∀a us,⇑us=n->P (a :: us)):∀us:Lw zt,⇑us=n+1->P us:=λus e=>by
 cases us
 .cases e
 .exact h _ _<|Nat.succ.inj e
def ls1{P:Lw zt->Prop}(h:∀a,P [a]):∀us:Lw zt,⇑us=1->P us:=lsS λa=>ls0 (P:=λv=>P (a :: v))<|h a
def ls2{P:Lw zt->Prop}(h:∀a b,P [a,b]):∀us:Lw zt,⇑us=2->P us:=lsS λa=>ls1 (P:=λv=>P (a :: v))<|h a
def ls3{P:Lw zt->Prop}(h:∀a b c,P [a,b,c]):∀us:Lw zt,⇑us=3->P us:=lsS λa=>ls2 (P:=λv=>P (a :: v))<|h a
def ls4{P:Lw zt->Prop}(h:∀a b c d,P [a,b,c,d]):∀us:Lw zt,⇑us=4->P us:=lsS λa=>ls3 (P:=λv=>P (a :: v))<|h a
def ls5{P:Lw zt->Prop}(h:∀a b c d e,P [a,b,c,d,e]):∀us:Lw zt,⇑us=5->P us:=lsS λa=>ls4 (P:=λv=>P (a :: v))<|h a
def ls6{P:Lw zt->Prop}(h:∀a b c d e f,P [a,b,c,d,e,f]):∀us:Lw zt,⇑us=6->P us:=lsS λa=>ls5 (P:=λv=>P (a :: v))<|h a
def ls7{P:Lw zt->Prop}(h:∀a b c d e f g,P [a,b,c,d,e,f,g]):∀us:Lw zt,⇑us=7->P us:=lsS λa=>ls6 (P:=λv=>P (a :: v))<|h a
def lb0{fd:JB}{ps:Lw Str}(h:JD fd ([],[],)=pure (ps.zip [])):∀us:Lw zt,⇑us=0->JD fd (us,[],)=pure (ps.zip us):=ls0 (P:=λus=>JD fd (us,[],)=pure (ps.zip us)) h
def lb1{fd:JB}{ps:Lw Str}(h:∀a,JD fd ([a],[],)=pure (ps.zip [a])):∀us:Lw zt,⇑us=1->JD fd (us,[],)=pure (ps.zip us):=ls1 (P:=λus=>JD fd (us,[],)=pure (ps.zip us)) h
def lb2{fd:JB}{ps:Lw Str}(h:∀a b,JD fd ([a,b],[],)=pure (ps.zip [a,b])):∀us:Lw zt,⇑us=2->JD fd (us,[],)=pure (ps.zip us):=ls2 (P:=λus=>JD fd (us,[],)=pure (ps.zip us)) h
def lb3{fd:JB}{ps:Lw Str}(h:∀a b c,JD fd ([a,b,c],[],)=pure (ps.zip [a,b,c])):∀us:Lw zt,⇑us=3->JD fd (us,[],)=pure (ps.zip us):=ls3 (P:=λus=>JD fd (us,[],)=pure (ps.zip us)) h
def lb4{fd:JB}{ps:Lw Str}(h:∀a b c d,JD fd ([a,b,c,d],[],)=pure (ps.zip [a,b,c,d])):∀us:Lw zt,⇑us=4->JD fd (us,[],)=pure (ps.zip us):=ls4 (P:=λus=>JD fd (us,[],)=pure (ps.zip us)) h
def lb5{fd:JB}{ps:Lw Str}(h:∀a b c d e,JD fd ([a,b,c,d,e],[],)=pure (ps.zip [a,b,c,d,e])):∀us:Lw zt,⇑us=5->JD fd (us,[],)=pure (ps.zip us):=ls5 (P:=λus=>JD fd (us,[],)=pure (ps.zip us)) h
def lb7{fd:JB}{ps:Lw Str}(h:∀a b c d e f g,JD fd ([a,b,c,d,e,f,g],[],)=pure (ps.zip [a,b,c,d,e,f,g])):∀us:Lw zt,⇑us=7->JD fd (us,[],)=pure (ps.zip us):=ls7 (P:=λus=>JD fd (us,[],)=pure (ps.zip us)) h
section
variable{j k:Nat}
def fsc{P:Lw Str}{f:C4}(a:f.kind=.function:=by rfl)(b:f.isCoroutine=false:=by rfl)(c:f.isGenerator=false:=by rfl)(d:N.Nodup:=by decide+kernel)(e:N.take P.length=P:=by rfl)(g:∀x∈P,f.names.lookup x=Lg .local\/f.names.lookup x=Lg .cell:=by decide+kernel)(h:∀y∈f.names,y.2≠.free:=by decide+kernel):av N P f:=(a,b,c,d,e,g,h,)
def Fun.okA(F:Fun K x q st f fd)(S:av N ps (aj st))(c:∀(a:zt)(A:C2)(outer:Lw Env)(s:C3)(H:Hp)(vs:Lw V)(Q:VK)(E:XK),cS k (A.deeper<|envOfC q (aj st) ↥s f a)->sp vs H Q E->∃t,PSs (bh CX0 P w K mg base N q (aj st) f a A outer s H E).nox (il st) t/\t { nx:=λ_ H'=>Q .non H',rt:=Q } (start N vs) H)(b:∀vs H Q E,sp vs H Q E->⇑vs=⇑ps:=by intro vs H Q E h;cases h;subst_vars;rfl):aR P w K mg base CX0 (k+1) f fd ps sp:=F.ok S b c
def Fun.okEA(F:Fun K x q st f fd)(S:av N ps (aj st))(c:∀(a:zt)(A:C2)(outer:Lw Env)(s:C3)(H:Hp)(vs:Lw V)(Q:VK)(E:XK),cS k (A.deeper<|envOfC q (aj st) ↥s f a)->sp vs H Q E->∃t,PSs (cxE P w K mg base N q (aj st) f a A outer s H E) (il st) t/\t { nx:=λ_ H'=>Q .non H',rt:=Q } (start N vs) H)(b:∀vs H Q E,sp vs H Q E->⇑vs=⇑ps:=by intro vs H Q E h;cases h;subst_vars;rfl):aR P w K mg base (CX1 P w) (k+1) f fd ps sp:=F.okE S b c
def Callee.up(c:Callee P w K mg base j x ps sp)(h:j<=k:=by decide):Callee P w K mg base k x ps sp:=c.mono h
def bD.up(c:bD P w K mg base j x ps sp)(h:j<=k:=by decide):bD P w K mg base k x ps sp:=c.mono h
def bE.up(c:bE CX P w K mg base j C m ps sp)(h:j<=k:=by decide):bE CX P w K mg base k C m ps sp:=c.mono h
def bB.up(c:bB CX P w K mg base j x C ps sp)(h:j<=k:=by decide):bB CX P w K mg base k x C ps sp:=c.mono h
def cU.up(c:cU CX P w K mg base j x m ps sp)(h:j<=k:=by decide):cU CX P w K mg base k x m ps sp:=c.mono h
inductive GF(K:ac)(x q:Str)(st:EV):Prop
 |mk {f:AM}{fd:JB}(a:ls K Ca x=Lg ↑f)(F:Fun K q q st f fd)
inductive MF(K:ac)(C:AM)(x q:Str)(st:EV):Prop
 |mk {f:AM}{fd:JB}(a:wT K (.ref C) x=Lg ↑f)(i:W.isFn K (.ref f)=Li)(F:Fun K x q st f fd)
inductive KF(K:ac)(C:AM)(x q:Str)(st:EV):Prop
 |mk {f:AM}{fd:JB}(a:wT K (.ref C) "__init__" = Lg ↑f) (i:W.isFn K (.ref f)=Li)(m:W.makesIn K C=Li)(k:LH K (.ref C)=Li)(n:ls K Ca x=Lg ↑C)(F:Fun K "__init__" q st f fd)
inductive BF(K:ac)(C:AM)(x m q:Str)(st:EV):Prop
 |mk {f:AM}{fd:JB}(s:L1 K (.ref C) "__getattribute__" = Lg (Lg<|.builtin "type.__getattribute__")) (r:W.readsIn K C (.type "type")=Li) (a:W.findCls K (.ref C) (.type "type") m=Lg (.val<|.ref f)) (n:ls K Ca x=Lg ↑C)(F:Fun K m q st f fd)
inductive Zb(P:zA)(w:zz)(K:ac)(mg:Str->Option zt)(base:A1):Prop
 |mk {h:A1}(X:K.In h)(G:h.Ns Ca mg)
def Zb.g(Z:Zb P w K mg base){v:zt}(e:ls K Ca x=Lg (Lg v)):mg x=Lg v:=by cases Z with|mk X G=>calc pc X G e
def mkC(Z:Zb P w K mg base)(h:GF K x q st)(O:∀{f:AM}{fd:JB},Fun K q q st f fd->aR P w K mg base CX0 k f fd ps sp)(b:∀{f:AM}{fd:JB},Fun K q q st f fd->Binds K fd ps []:=by trivial):Callee P w K mg base k x ps sp:=by
 cases h with|mk a F=>calc(_,_,O F,b F,F.kp,Z.g a,)
def mkX(Z:Zb P w K mg base)(h:GF K x q st)(O:∀{f:AM}{fd:JB},Fun K q q st f fd->aR P w K mg base (CX1 P w) k f fd ps sp)(b:∀{f:AM}{fd:JB},Fun K q q st f fd->Binds K fd ps []:=by trivial):bD P w K mg base k x ps sp:=by
 cases h with|mk a F=>calc(_,_,O F,b F,F.kp,Z.g a,)
def mkM(_:Zb P w K mg base)(h:MF K C m q st)(O:∀{f:AM}{fd:JB},Fun K m q st f fd->aR P w K mg base CX k f fd ps sp)(b:∀{f:AM}{fd:JB},Fun K m q st f fd->Binds K fd ps []:=by trivial):bE CX P w K mg base k C m ps sp:=by
 cases h with|mk a i F=>calc(_,_,(a,i,F.kp,),O F,b F,)
def mkK(Z:Zb P w K mg base)(h:KF K C x q st)(O:∀{f:AM}{fd:JB},Fun K "__init__" q st f fd->aR P w K mg base CX k f fd ps sp) (b:∀{f:AM}{fd:JB},Fun K "__init__" q st f fd->Binds K fd ps []:=by trivial):bB CX P w K mg base k x C ps sp:=by
 cases h with|mk a i m k n F=>calc(_,_,(m,a,i,k,),O F,b F,Z.g n,)
def mkB(Z:Zb P w K mg base)(h:BF K C x m q st)(O:∀{f:AM}{fd:JB},Fun K m q st f fd->aR P w K mg base CX k f fd ps sp)(b:∀{f:AM}{fd:JB},Fun K m q st f fd->Binds K fd ps []:=by trivial):cU CX P w K mg base k x m ps sp:=by
 cases h with|mk s r a n F=>calc(_,_,_,(s,r,a,F.kp,),O F,b F,Z.g n,)
def gv_mk{v:V}{u:zt}(a:ls K Ca x=Lg (Lg u))(r:RelV v u):∃u,ls K Ca x=Lg (Lg u)/\RelV v u:=(u,a,r,)
end
section
variable{k:Nat}{E:XK}
end
def Inv.turnedPair{ch:Lw AM}{T:AM}{x y:V}{u v:zt}(I:Inv X Ll σ H s)(h:∀b∈ch,kX X Ll H b)(k:∀b o,b ∉ ch->s.heap.get? b=Lg o->h'.get? b=Lg o)
  (A:s.heap.get? T=Lh)(D:H T=Lh)(E:KW h' T u v)(t:RelV x u)(p:RelV y v):Inv X Ll σ (upd H T<|.tup [x,y]) { s with heap:=h' }:=by
 let out:∀b u,H b=Lg u->b ∉ ch:=λb u e z=>by
  let f:=(h b z).1;rw[f]at e;cases e
 let j:∀{b o},s.heap.get? b=Lg o->b≠T:=λe z=>by rw[z,A]at e;cases e
 let a:∀{b u},H b=Lg u->b≠T:=λe z=>by rw[z,D]at e;cases e
 let J:=Inv.step (H':=upd H T<|.tup [x,y]) (h':=h') (g':=s.gens) (d':=s.drawn) (t':=s.toks) (ch:=ch) I
  (λb g=>by let(_,i,_,K,G,F):=h b g;exact(K,i,G,F,))
  (λb o _ _ d e _=>k b o d e)
  (λb o _ _ d e _=>(o.slots,k b o d e,))
  (λb o _ e n=>by rw[ay (j e)];exact n)
  (λb o d e=>(o,k b o d e,))
  (λb l e=>by rw[ay (a e)];exact e)
  (λb o w e=>by rw[ay (a e)];exact e)
  (λb ps e=>(#[],by rw[ay (a e),e];simp,))
  (λm C=>by
   let(o,es,L,B,r):=C;calc(o,es,L,k _ o (λz=>?_) B,r,);let(_,i,_):=h _ z;exact i U)
  (λb w e=>by
   by_cases g:b=T
   .subst g;rw[af]at e;cases e;exact(by show 2<=A8;decide,[u,v],.cons t<|.cons p .nil,_,E,U,_,U,)
   .rw[ay g]at e;refine(I.hok b w e).stay (λc z d q=>k c z ?_ q) (λc q=>?_) λc l q=>?_
    .rcases d with z|z
     .rw[z];exact out b w e
     .exact out c _ z
    .rw[ay (a q)];exact q
    .rw[ay (a q)];exact q)
  I.bare
 calc J
def Inv.turnedL{ch:Lw AM}(I:Inv X Ll σ H s)(d:∀b∈ch,kX X Ll H b)(k:∀b o,b ∉ ch->s.heap.get? b=Lg o->h'.get? b=Lg o):Inv X Ll σ H { s with heap:=h' }:=by
 let out:∀b u,H b=Lg u->b ∉ ch:=λb u e z=>by
  let f:=(d b z).1;rw[f]at e;cases e
 let J:=Inv.step (H':=H) (h':=h') (g':=s.gens) (d':=s.drawn) (t':=s.toks) (ch:=ch) I
  (λb l=>by let(_,g,_,v,t,p):=d b l;exact(v,g,t,p,))
  (λb o _ _ a e _=>k b o a e)
  (λb o _ _ a e _=>(o.slots,k b o a e,))
  (λb o _ _ n=>n)
  (λb o a e=>(o,k b o a e,))
  (λb h e=>e) (λb o w e=>e) (λb ps e=>(#[],by rw[e];simp,))
  (λm j=>by
   let(o,es,x,i,r):=j;calc(o,es,x,k _ o (λz=>?_) i,r,);let(_,g,_):=d _ z;exact g U)
  (λb w e=>by
   refine(I.hok b w e).stay (λc z a q=>k c z ?_ q) (λc q=>q) λc h q=>q
   rcases a with z|z
   .rw[z];exact out b w e
   .exact out c _ z)
  I.bare
 calc J
def  Itz(K:ac)(a b:AM):It :=
 (λi H=>∃d c x y,SqL K H a d/\SqL K H b c/\d[i]?=Lg x/\c[i]?=Lg y,
 λi H v e=>∃T,H T=Lh/\v=.ref T/\∀d c x y,SqL K H a d->SqL K H b c->d[i]?=Lg x->c[i]?=Lg y->e=upd H T (.tup [x,y]),
 λi H=>∃d c,SqL K H a d/\SqL K H b c/\(⇑d<=i\/⇑c<=i),)
def  Cr(z TI TO d c a b:AM)(i:Nat)(h:A1):Prop:=IsZip h z TI TO .none/\KW h TI (.ref d) (.ref c)/\(∃p q,KW h TO p q)/\h.IsListIter d a i/\h.IsListIter c b i
def zx{P:zA}{w:zz}{K:ac}{t:Lw Ew} {x1} {tp:Pos}{z TI TO r n a b:AM}(D:KY z TI TO r n a b) :
  Turn P w K (.Tuple t x1 tp) (Itz K a b) [z,TI,TO,r,n] z (Cr z TI TO r n a b) where
 mem:=by simp
 obj:=λi h st c d=>by
  let(m,f,(p,q,l),(o4,j,_,d4),(o5,g,_,d5)):=st;simp only[dy,ib,or_false]at d;rcases d with rfl|rfl|rfl|rfl|rfl
  .exact⟨_,m,λv q=>nomatch q⟩
  .exact⟨_,f,λv q=>nomatch q⟩
  .exact⟨_,l,λv q=>nomatch q⟩
  .exact⟨_,j,λv q=>by rw[d4]at q;cases q⟩
  .exact⟨_,g,λv q=>by rw[d5]at q;cases q⟩
 keep:=λi h h' st k=>by
  let(m,f,(p,q,l),j,g):=st;exact(k z (by simp) _ m,k TI (by simp) _ f,(p,q,k TO (by simp) _ l,),j.at λo e=>k r (by simp) o e,g.at λo e=>k n (by simp) o e,)
 item:=by
  intro X Q M R d i Ll s σ H E I C st O;subst Q M R;let(xs,ys,x,y,B,A,ex,ey):=O;let(m,f,(p,q,l),j,g):=st;let(us,G,L,_):=I.list B;let(vs,F,pv,_):=I.list A;let(u,eu,r1):=G.get ex;let(v,ev,r2):=F.get ey;refine KZ D m f l j g L.isList pv.isList (x:=u) (y:=v) (~~~eu) (~~~ev) λh1 a1 a2 a3 a4 a5 a6 a7=>?_
  calc(_,U,wpAny_letOwnedTupleGo_zip (s:={ s with heap:=h1 }) a1 λS b1 b2=>?_,);let nT:s.heap.get? ↥s=none:=by
   cases q:s.heap.get? ↥s with
   |none=>rfl
   |some o=>exact Lp (bi q) (vd _)
  let hT:H ↥s=none:=I.hok.fresh<|sT _;let nz:↥s≠z:=uK<|bi m;let kk:∀c o,c ∉ [z,TO,r,n]->s.heap.get? c=Lg o->S.get? c=Lg o:=λc o d e=>by
   simp only[dy,ib,or_false,not_or]at d;exact b2.extBut _ _ d.1<|a7 c o d.1 d.2.1 d.2.2.1 d.2.2.2 e
  let J:=I.turnedPair (h':=S) (ch:=[z,TO,r,n]) (T:=↥s) (x:=x) (y:=y) (u:=u) (v:=v) (λc d=>C c (by simp at d⊢;rcases d with e|e|e|e <;> simp[e])) kk nT hT (b2.extBut _ _ nz a5) r1 r2;refine(.ref ↥s,upd H ↥s<|.tup [x,y],J,U,(_,hT,U,λb0 a8 x' y' q1 q2 Y V=>?_,),(b1,b2.extBut _ _ D.TIz<|a7 TI _ D.TIz D.TITO D.TIi1 D.TIi2 f,(_,_,b2.extBut _ _ D.TOz a2,),a3.extBut b2.extBut D.i1z,a4.extBut b2.extBut D.i2z,),λc d=>?_,)
  .rw[I.list_inj q1 B]at Y;rw[I.list_inj q2 A]at V;rw[ex]at Y;rw[ey]at V;cases Y;cases V;rfl
  .let h0:=(C c d).1;let:c≠↥s:=by
    let(o4,a0,_):=j;let(o5,Z,_):=g;simp only[dy,ib,or_false]at d;rcases d with rfl|rfl|rfl|rfl|rfl
    .exact nz.symm
    .exact tj<|bi f
    .exact tj<|bi l
    .exact tj<|bi a0
    .exact tj<|bi Z
   rw[ay this];exact h0
 done:=by
  intro X Q M R d i Ll s σ H E I C st O;subst Q M R;let(xs,ys,B,A,N):=O;let(m,f,(p,q,l),j,g):=st;let(us,G,L,_):=I.list B;let(vs,F,pv,_):=I.list A;let l1:=G.length;let l2:=F.length;refine K0 (I.ok.hd d) D m f l j g L.isList pv.isList ?_ λS k=>⟨U,I.turnedL (ch:=[z,TO,r,n]) (λc d=>C c (by simp at d⊢;rcases d with e|e|e|e <;> simp[e])) λc o d e=>?_⟩
  .rcases N with N|N
   .exact .inl (by simp;lia)
   .exact .inr (by simp;lia)
  .simp only[dy,ib,or_false,not_or]at d;exact k c o d.1 d.2.1 d.2.2.1 d.2.2.2 e
 self:=λ_ _ _ _ _ st h=>K1 st.1 h
inductive Cs(K:ac)(R:It->NB)(vs:Lw V)(H1:Hp):Prop
 |mk (a b:_)(_:vs=[.ref a,.ref b])(_:(∃xs,SqL K H1 a xs))(_:(∃ys,SqL K H1 b ys))(_:R (Itz K a b) H1)
def  Gh(K:ac)(ta:TA):TI:=λσ H R=>ta σ H λa b=>Cs K R a b
def vq{k e:Ew}{ta:TA}{p pos:Pos}{j:Lw Ew} {x1} {tp:Pos}(L:Gl X "zip") (hm:X.mg "zip" = Lh) (M:PA X [k,e] ta)
  (J:EN [k,e] X.env=[(Lj,eval k X.env),(Lj,eval e X.env)]:=by rfl)(g:EN [e] X.env=[(Lj,eval e X.env)]:=by rfl) :
  PI X (.Tuple j x1 tp) (.Call (.Name "zip" p) [k,e] [] pos) (Gh X.K ta):=by
 intro Ll s σ H R I h;refine Call_ (jm I L hm My<|v4 (thn (M pos Ll s σ H _ I h) λA d (z,P,f,D,G,)=>?_) (by rw[J,g]) (by rw[g];rfl));let(a,b,rfl,(T,F),(S,E),q):=G;let(u,v,rfl,C,B):=D.two;cases (show u=zt.ref a from C);cases (show v=zt.ref b from B);let(A,_,l,_):=f.list F;let(z,_,pv,_):=f.list E;let(W,O,_):=id l.isList;let(V,N,_):=id pv.isList;let n:a<↥d:=bi O;let m:b<↥d:=bi N;refine call_zip_2 l.isList pv.isList λh' z1 y x w t Q r=>?_
 calc K1 (s:={ d with heap:=h' }) z1 ?_;refine(↥d+4,[↥d+4,↥d+2,↥d+3,↥d,↥d+1],Cr (↥d+4) (↥d+2) (↥d+3) ↥d (↥d+1) a b,Itz X.K a b,P,U,f.kept (t':=d.toks) r,zx ?_,(z1,y,(_,_,x,),w,t,),λc o=>?_,q,)
 .refine(?_,?_,?_,?_,?_,?_,?_,?_,?_,?_,?_,?_,?_,?_,?_,?_,?_,?_,) <;> first|exact tj ∅|exact uK ∅|exact tj n|exact tj m|exact tj (tN n<|vl _ _)|exact tj (tN m<|vl _ _)
 .let i:↥d<=c:=by
   simp only[dy,ib,or_false]at o;rcases o with rfl|rfl|rfl|rfl|rfl <;> lia
  calc f.fpOk i<|f.hok.fresh i
def wM{K:ac}{a b:AM}{xs ys:Lw V}{g:TG}{o:TS}{D:Ends}{σ:St}{H:Hp}(c:Nat->NA)(z:c 0 σ H)(u:∀i σ H,c i σ H->SqL K H a xs/\SqL K H b ys)
  (t:∀i x y σ H T,xs[i]?=Lg x->ys[i]?=Lg y->c i σ H->H T=Lh->g (.ref T) σ (upd H T<|.tup [x,y]) λd n=>o { D with nx:=c<|i+1,ct:=c<|i+1,bk:=D.nx } d n)
  (hd:∀σ H,c (min ⇑xs ⇑ys) σ H->D.nx σ H) :
  ∃W:Nat->Nat->NA,(∃m,W 0 m σ H)/\∀i m σ H,W i m σ H ->
   ((Itz K a b).stop i H/\D.nx σ H)\/((Itz K a b).go i H/\∃N:NA,(∀f H',N f H'->∃q,q<m/\W (i+1) q f H')/\∀x H',(Itz K a b).yld i H x H'->g x σ H' λd n=>o { D with nx:=N,ct:=N,bk:=D.nx } d n):=by
 refine(λi m σ H=>m=min ⇑xs ⇑ys-i/\i<=min ⇑xs ⇑ys/\c i σ H,(min ⇑xs ⇑ys,by simp,uk _,z,),?_,);rintro i m σ H ⟨rfl,hi,p⟩;let(j,h):=u i σ H p;by_cases lt:i<min ⇑xs ⇑ys
 .let l:xs[i]?=Lg xs[i]:=IU ∅;let k:ys[i]?=Lg ys[i]:=IU ∅;refine .inr ((xs,ys,_,_,j,h,l,k,),c<|i+1,λf H' s=>(_,?_,U,lt,s,),λv H' r=>?_,)
  .lia
  .let(T,w,rfl,e):=r;rw[e xs ys _ _ j h l k];exact t i _ _ σ H T l k p w
 .let e:i=min ⇑xs ⇑ys:=∅
  subst e;calc .inl ((xs,ys,j,h,∅,),hd σ H p,)
def qr{X:Cx}{K:ac}(h:X.K=K):gQ X (.type "list") (λxs H Q=>∃p ys,xs=[.ref p]/\(SqL K H p ys\/SqT K H p ys)/\∀l,H l=Lh->Q (.ref l) (upd H l<|.lst ys)):=h ▸ ft
set_option maxRecDepth 100000
abbrev lV(h:A1)(z TI TO a:AM)(b:Bool):Prop :=
 h.get? z=Lg { cls:=.type "zip",dict:=Lh,data:=.fields #[Jh a,.bool b,.bool Lj,.ref TI,.ref TO],slots:=#[] }
def mJ{a:AM}{Q:Option Obj->C3->Prop}(h:Q (s.heap.get? a) s):D2 (model prog w) A (loadIfAlive a) Q E s:=λ_ _ _=>h
def qX{z TI TO a:AM}{b:Bool}{o:Obj}{Q:Bool->C3->Prop}(hz:lV s.heap z TI TO a b)(d:s.heap.get? a=Lg o)
  (h:∀h',lV h' z TI TO a Li->Go z s.heap h'->Q Lj { s with heap:=h' }):D2 (model prog w) A (xz<|.ref z) Q E s:=by
 unfold xz;calc yN<|Kq hz U (x:=Jh a) U ?_;show D2 _ _ (loadIfAlive ((a:Int).toNat) >>= _) _ _ _;calc yN<|mJ ?_;rw[wi,d];simp only[Option.isNone_some,w5,if_false];calc yN<|Kq hz U (x:=.bool b) U ?_;cases b with
 |true =>
  rw[Lm (by simp)];calc yU ?_;let e:s={ s with heap:=s.heap }:=by cases s;rfl
  rw[e];exact h s.heap hz<|A1.SameBut.refl z s.heap
 |false =>
  rw[Lo ⋯];refine yN (wpAny_setField_rec hz (by simp) λf g c=>?_);calc yU<|h f g c
def xT{z TI TO u i p q t:AM}{W:Bool}{k1 k2:Nat}{xs ys:Array zt}{x y a b:zt}{o:Obj}{Q:Option zt->C3->Prop}(D:KY z TI TO i p q t)
  (hz:lV s.heap z TI TO u W)(G:s.heap.get? u=Lg o)(C:KW s.heap TI (.ref i) (.ref p))(X:KW s.heap TO a b)
  (R:s.heap.IsListIter i q k1)(P:s.heap.IsListIter p t k2)(B:s.heap.IsList q xs)(v:s.heap.IsList t ys)(N:xs[k1]?=Lg x)(M:ys[k2]?=Lg y)
  (O:∀h',lV h' z TI TO u Li->h'.IsListIter i q (k1+1)->h'.IsListIter p t (k2+1)->KW h' ↥s x y->h'.objs.size=↥s+1 ->
   (∀c o,c≠z->c≠i->c≠p->s.heap.get? c=Lg o->h'.get? c=Lg o)->Q (Lg<|.ref ↥s) { s with heap:=h' }) :
  D2 (model prog w) A (Je<|.ref z) Q E s:=by
 let H:s.TypeIs (.ref z) "zip" := (_,hz,U,);unfold Je;calc yN<|KR<|K2 (name:=s!"__next__") H Md<|Km Md H F.entry_zip_next ?_<|F.args_zip_next_1 _;show D2 _ _ (field (.ref z) 2 >>= _) _ _ _;calc yN<|Kq hz U (x:=.bool Lj) U ?_;show D2 _ _ (field (.ref z) 3 >>= _) _ _ _;calc yN<|Kq hz U (x:=.ref TI) U ?_;calc yN<|K3 C U ?_;show D2 _ _ (xz (.ref z) >>= _) _ _ _;calc yN<|qX hz G λK k d=>?_;simp only[w5,if_false];calc yN ?_;rw[←Nk];simp only[nY,List.forIn_nil];calc yN<|yN<|zb ?_;show D2 _ _ (KM (.ref i) >>= _) _ _ _;calc yN<|K4 (R.extBut d.extBut D.i1z) (B.extBut d.extBut D.l1z) N λJ n g=>yU ?_;calc yU ?_;dsimp only;calc yN<|yN<|zb ?_;show D2 _ _ (KM (.ref p) >>= _) _ _ _;calc yN<|K4 ((P.extBut d.extBut D.i2z).extBut g.extBut D.i12.symm) ((v.extBut d.extBut D.l2z).extBut g.extBut D.l2i1) M λf l h=>yU ?_;calc yU ?_;dsimp only;calc yU ?_;refine yN (Kk ?_ (by show 2<=A8;decide));let r:f.objs.size=↥s:=by rw[h.1,g.1,d.1]
 calc yU (_,U,yU ?_,);show Q ↑f.objs.size _;let j:lV f z TI TO u true:=h.extBut _ _ D.i2z.symm<|g.extBut _ _ D.i1z.symm k;let m:f.IsListIter i q (k1+1):=n.extBut h.extBut D.i12;let I:(f.push { cls:=.type "tuple",data:=.seq #[x,y] }).get? f.objs.size=Lg { cls:=.type "tuple",data:=.seq #[x,y] }:=ii _ U;let L:(f.push { cls:=.type "tuple",data:=.seq #[x,y] }).objs.size=↥s+1:=by rw[AC,r]
 rw[r]at I⊢;calc O _ (am _ j) (m.at λo e=>am _ e) (l.at λo e=>am _ e) I L λc o V T S e=>am _<|h.extBut _ _ S<|g.extBut _ _ T<|d.extBut _ _ V e
def zy{z TI TO N j i p n:AM}{W:Bool}{k1 k2:Nat}{xs ys:Array zt}{a b:zt}{o:Obj}{Q:Option zt->C3->Prop}(J:A.handled=Lh)(D:KY z TI TO j i p n)
  (hz:lV s.heap z TI TO N W)(G:s.heap.get? N=Lg o)(C:KW s.heap TI (.ref j) (.ref i))(Y:KW s.heap TO a b)
  (L:s.heap.IsListIter j p k1)(V:s.heap.IsListIter i n k2)(l:s.heap.IsList p xs)(y:s.heap.IsList n ys)(X:xs[k1]?=Lh\/ys[k2]?=Lh)
  (S:∀h',(∀c o,c≠z->c≠j->c≠i->s.heap.get? c=Lg o->h'.get? c=Lg o)->Q Lh { s with heap:=h' }) :
  D2 (model prog w) A (Je<|.ref z) Q E s:=by
 let K:s.TypeIs (.ref z) "zip" := (_,hz,U,);unfold Je;calc yN<|KR<|K2 (name:=s!"__next__") K Md<|Km Md K F.entry_zip_next ?_<|F.args_zip_next_1 _;show D2 _ _ (field (.ref z) 2 >>= _) _ _ _;calc yN<|Kq hz U (x:=.bool Lj) U ?_;show D2 _ _ (field (.ref z) 3 >>= _) _ _ _;calc yN<|Kq hz U (x:=.ref TI) U ?_;calc yN<|K3 C U ?_;show D2 _ _ (xz (.ref z) >>= _) _ _ _;calc yN<|qX hz G λP H d=>?_;simp only[w5,if_false];calc yN ?_;rw[←Nk];simp only[nY,List.forIn_nil];calc yN<|yN<|zb ?_;show D2 _ _ (KM (.ref j) >>= _) _ _ _
 let fin:∀h' e,(∀c o,c≠z->c≠j->c≠i->s.heap.get? c=Lg o->h'.get? c=Lg o)->(∃o,h'.get? e=Lg o/\o.cls=.type "StopIteration") ->
   D2 (model prog w) A (do if ←isInstance (.ref e) (.type "StopIteration")then pure Lh else throw (.ref e)) Q E { s with heap:=h' }:=λh' e k (oe,v,B,)=>by
  calc yN<|wpAny_isInstance (T := "StopIteration") (b:=Li) (oe,v,B,) isSubtype_stop ?_;exact yU<|S _ k
 cases hx:xs[k1]? with
 |none =>
  calc yN<|K5 J (L.extBut d.extBut D.i1z) (l.extBut d.extBut D.l1z) hx λm e f r=>?_;exact fin _ _ (λc o u t M q=>f _ _ t<|d.extBut _ _ u q) r
 |some x =>
  let R:ys[k2]?=none:=by rcases X with h|h;rw[hx]at h;cases h;exact h
  calc yN<|K4 (L.extBut d.extBut D.i1z) (l.extBut d.extBut D.l1z) hx λm I f=>yU ?_;calc yU ?_;dsimp only;calc yN<|yN<|zb ?_;show D2 _ _ (KM (.ref i) >>= _) _ _ _;calc yN<|K5 J ((V.extBut d.extBut D.i2z).extBut f.extBut D.i12.symm) ((y.extBut d.extBut D.l2z).extBut f.extBut D.l2i1) R λO e g r=>?_;calc fin _ _ (λc o u t M q=>g _ _ M<|f.extBut _ _ t<|d.extBut _ _ u q) r
section
variable{R:Ju->C3->Prop}
def neA{a T:AM}{N:Nat}(h:a<N)(h':N<=T):T≠a:=uK<|tN h h'
def  Ct(h:A1)(z TI TO:AM)(N:Nat)(i:Nat):Prop:=(i=0/\IsZip h z TI TO .none)\/∃a b o,N<=a/\a≠z/\lV h z TI TO a b/\h.get? a=Lg o/\o.cls=.type "tuple"
def vt{z TI TO B v K J S:AM}{xs ys:Array zt}{res:zt}(hh:A.handled=Lh)(D:KY z TI TO B v K J)(N:Nat)(hz:z<N)(c3:TI<N)(a8:TO<N)(V:B<N)(Q:v<N)(c2:K<N)(c1:J<N)(hS:S<N)
  (m:S≠z/\S≠TI/\S≠TO/\S≠B/\S≠v/\S≠K/\S≠J)(hn:min xs.size ys.size<=A8) :
  ∀(d i:Nat)(s:C3)(l:Array zt)(c:Nat)(I:Lw AM),min xs.size ys.size=i+d->N<=↥s->Ct s.heap z TI TO N i->KW s.heap TI (.ref B) (.ref v)->(∃a b,KW s.heap TO a b) ->
   s.heap.IsListIter B K i->s.heap.IsListIter v J i->s.heap.IsList K xs->s.heap.IsList J ys->s.heap.get? S=Lg { cls:=.type "list",dict:=Lh,data:=.seq l c,slots:=#[] } ->
   l.toList=I.map zt.ref->I.length=i->I.Nodup->(∀(j:Nat)(T:AM),I[j]?=Lg T->N<=T/\∃x y,xs[j]?=Lg x/\ys[j]?=Lg y/\KW s.heap T x y) ->
   (∀(h':A1)(Bp:Array zt)(X:Nat)(n:Lw AM),(∀b o,b<N->b≠S->b≠z->b≠TO->b≠B->b≠v->s.heap.get? b=Lg o->h'.get? b=Lg o)->h'.get? S=Lg { cls:=.type "list",dict:=Lh,data:=.seq Bp X,slots:=#[] } ->
    Bp.toList=n.map zt.ref->⇑n=min xs.size ys.size->n.Nodup->(∀(j:Nat)(T:AM),n[j]?=Lg T->N<=T/\∃x y,xs[j]?=Lg x/\ys[j]?=Lg y/\KW h' T x y)->R (.ok<|.ret res) { s with heap:=h' }) ->
   Jv (model prog w) A (.builtin "list.extend.loop" ([.ref S,.ref z,res],[],)) R s:=by
 intro d;induction d with
 |zero =>
  intro i s l c I e hN r W (a,b,p2,) t1 t2 q1 q2 g ea el nd hts fin;calc KG F.entry_extend_loop ?_;rw[Is LQ _];show D2 _ A.in1 (Je (.ref z) >>= _) _ _ s;let Bo:xs[i]?=Lh\/ys[i]?=none:=by
   by_cases hx:xs.size<=i
   .exact .inl<|MZ hx
   .exact .inr<|MZ ∅
  let O:∀h',(∀b o,b≠z->b≠TO->b≠B->b≠v->s.heap.get? b=Lg o->h'.get? b=Lg o)->R (.ok<|.ret res) { s with heap:=h' }:=λh' k=>by
   refine fin h' l c I (λb o _ _ b1 b2 M L q=>k b o b1 b2 M L q) (k S _ m.1 m.2.2.1 m.2.2.2.1 m.2.2.2.2.1 g) ea ∅ nd λj T C=>?_
   let(h,x,y,P,G,E):=hts j T C;exact(h,x,y,P,G,k T _ (neA hz h) (neA a8 h) (neA V h) (neA Q h) E,)
  rcases r with⟨_,r⟩|⟨Z,bb,o,H,_,r,gT,_⟩
  .exact yN<|K0 (by simp[hh]) D r W p2 t1 t2 q1 q2 Bo λh' k=>yU<|O h' k
  .exact yN<|zy (by simp[hh]) D r gT W p2 t1 t2 q1 q2 Bo λh' k=>yU<|O h' λb o b1 _ M L q=>k b o b1 M L q
 |succ d ih =>
  intro i s l c I e hN r W (a,b,p2,) t1 t2 q1 q2 g ea el nd hts fin;let ix:i<xs.size:=∅
  let iy:i<ys.size:=∅
  calc KG F.entry_extend_loop ?_;rw[Is LQ _];show D2 _ A.in1 (Je (.ref z) >>= _) _ _ s;let a0:l.size=i:=by rw[←xO,ea,ck,el]
  let go:∀h',Ct h' z TI TO N (i+1)->(∃a b,KW h' TO a b)->h'.IsListIter B K (i+1)->h'.IsListIter v J (i+1)->KW h' ↥s xs[i] ys[i]->h'.objs.size=↥s+1 ->
    (∀b o,b≠z->b≠TO->b≠B->b≠v->s.heap.get? b=Lg o->h'.get? b=Lg o) ->
    D2 (model prog w) A.in1 (K6 S (·.push (.ref ↥s)) >>= λ_=>again<|.builtin "list.extend.loop" ([.ref S,.ref z,res],[],))
     (λfin s'=>match fin with | .done f=>R (.ok f) s' | .again X=>X.quiet=Li/\Jv (model prog w) A X R s') (λe s'=>R (.error e) s') { s with heap:=h' }:=λh' z1 z2 z3 z4 z5 z6 k=>by
   let gS:h'.get? S=Lg { cls:=.type "list",dict:=Lh,data:=.seq l c,slots:=#[] }:=k S _ m.1 m.2.2.1 m.2.2.2.1 m.2.2.2.2.1 g;refine yN (K7 gS U ?_ (by rw[a0];lia) (by show(l.push _).size<=A8+1;rw[Array.size_push,a0];lia));let gU:=v6 (on (·.push (zt.ref ↥s))) gS U;generalize hH:h'.update S (on (·.push (zt.ref ↥s)))=h2 at gU⊢;let sb:Go S h' h2:=hH ▸ A1.SameBut.update ..;let p:∀b o,b≠S->h'.get? b=Lg o->h2.get? b=Lg o:=λb o hb q=>(sb.2 b hb).trans q
   let b9:h2.objs.size=↥s+1:=by rw[sb.1,z6]
   refine yU (KH LQ _,ih (i+1) { s with heap:=h2 } (l.push<|.ref ↥s) _ (I++[↥s]) ∅ (by rw[b9];lia) ?_ (p TI _ m.2.1.symm<|k TI _ D.TIz D.TITO D.TIi1 D.TIi2 W) ?_ (z3.at λo q=>p B o m.2.2.2.1.symm q) (z4.at λo q=>p v o m.2.2.2.2.1.symm q)
    ((q1.at λo q=>k K o D.l1z D.l1TO D.l1i1 D.l1i2 q).at λo q=>p K o m.2.2.2.2.2.1.symm q) ((q2.at λo q=>k J o D.l2z D.l2TO D.l2i1 D.l2i2 q).at λo q=>p J o m.2.2.2.2.2.2.symm q) gU (by rw[yx,ea,eg];rfl) (by simp[el]) ?_ (λj T C=>?_) λh3 Bp X n k3 g3 e3 l3 n3 f3=>?_,)
   .rcases z1 with⟨z',_⟩|⟨Z,bb,o,h,P,G,E,Y⟩
    .exact Lp z' ∅
    .exact .inr (Z,bb,o,h,P,p z _ m.1.symm G,p Z _ (neA hS h) E,Y,)
   .let(a',b',q):=z2;exact(a',b',p TO _ m.2.2.1.symm q,)
   .rw[nX];refine(nd,by simp,λt ht u hu=>?_,);let eu:u=↥s:= ~~~hu
    let(j,C):=M8.mp ht;let(_,x,y,_,_,gp):=hts j t C;let:=bi gp;exact λq=>vd _ (by rw[q,eu]at this;exact this)
   .rw[List.getElem?_append]at C;split at C
    .let(h,x,y,P,G,E):=hts j T C;exact(h,x,y,P,G,p T _ (neA hS h)<|k T _ (neA hz h) (neA a8 h) (neA V h) (neA Q h) E,)
    .rename_i hlt
     have c0:j=i:=by
      let(q,_):=IV.mp C;simp at q;lia
     subst c0;rw[el,we]at C;let eT:↥s=T:= ~~~C
     subst eT;exact(hN,xs[j],ys[j],yw ix,yw iy,p _ _ (neA hS hN) z5,)
   .exact fin h3 Bp X n (λb o b0 bS b1 b2 M L q=>k3 b o b0 bS b1 b2 M L<|p b o bS<|k b o b1 b2 M L q) g3 e3 l3 n3 f3
  rcases r with⟨_,r⟩|⟨Z,bb,o,H,ES,r,gT,cT⟩
  .refine yN<|KZ D r W p2 t1 t2 q1 q2 (x:=xs[i]) (y:=ys[i]) (yw ix) (yw iy) λh' h P G E Y a6 a7=>?_;exact go h' (.inr (↥s,Lj,_,hN,uK<|tN hz hN,h,Y,U,)) (_,_,P,) G E Y a6 a7
  .refine yN<|xT D r gT W p2 t1 t2 q1 q2 (x:=xs[i]) (y:=ys[i]) (yw ix) (yw iy) λh' h G E Y a6 a7=>?_;calc go h' (.inr (Z,Li,o,H,ES,h,a7 Z o ES (neA V H) (neA Q H) gT,cT,)) (_,_,a7 TO _ D.TOz D.TOi1 D.TOi2 p2,) G E Y a6 λb o b1 _ M L q=>a7 b o b1 M L q
end
set_option maxRecDepth 100000
def vw:JM (.type "zip") "__len__" = pure none:=by rw[K8,K9];kernel_rfl
def ub:JM (.type "zip") "__length_hint__" = pure none:=by rw[K8,K9];kernel_rfl
def qt{z TI TO n m J I:AM}{xs ys:Array zt}{Q:zt->C3->Prop}(hh:A.handled=Lh)(D:KY z TI TO n m J I)(H:IsZip s.heap z TI TO .none)(W:KW s.heap TI (.ref n) (.ref m))(V:KW s.heap TO .none .none)
  (t1:s.heap.IsListIter n J 0)(P:s.heap.IsListIter m I 0)(S:s.heap.IsList J xs)(R:s.heap.IsList I ys)(hn:min xs.size ys.size<=A8)
  (h:∀(h':A1)(i:Array zt)(c:Nat)(l:Lw AM),(∀b o,b≠z->b≠TO->b≠n->b≠m->s.heap.get? b=Lg o->h'.get? b=Lg o)->h'.get? ↥s=Lg { cls:=.type "list",dict:=Lh,data:=.seq i c,slots:=#[] } ->
   i.toList=l.map zt.ref->⇑l=min xs.size ys.size->l.Nodup->(∀(j:Nat)(T:AM),l[j]?=Lg T->↥s+1<=T/\∃x y,xs[j]?=Lg x/\ys[j]?=Lg y/\KW h' T x y)->Q (.ref ↥s) { s with heap:=h' }) :
  D2 (model prog w) A (call (.type "list") [.ref z]) Q E s:=by
 let M:z<↥s:=bi H;let C:TI<↥s:=bi W;let B:TO<↥s:=bi V;let v:n<↥s:=let ⟨_,e,_⟩:=t1;bi e;let u:m<↥s:=let ⟨_,e,_⟩:=P;bi e;let t:J<↥s:=let ⟨_,e,_⟩:=S;bi e;let r:I<↥s:=let ⟨_,e,_⟩:=R;bi e
 refine La (Q₁:=λobj k=>obj=.ref ↥s/\k={ s with heap:=s.heap.push { cls:=.type "list",data:=.seq #[] } }) F.called_list (F.typeCall_list_1 _) F.entry_list_init
  (code_list_new _ (U,U,)) λobj k G=>?_
 let(rfl,rfl):=G;let L:(s.heap.push { cls:=.type "list",data:=.seq #[] }).get? ↥s=Lg { cls:=.type "list",data:=.seq #[] }:=ii _ U;calc((_,L,U,),F.args_list_init_2 _ _,?_,);show D2 _ _ (do let O ←Na (.ref ↥s);Jl.List.listUpdate (.ref ↥s) (λ_=>#[]);letGo O.toList.reverse;L0 (.ref ↥s) (.ref z) .none) _ _ _;calc yN ?_;unfold Na;calc yN<|K3 L U<|yU ?_;show D2 _ _ (K6 ↥s (λ_=>#[]) >>= λ_=>letGo (#[]:Array zt).toList.reverse >>= λ_=>L0 (.ref ↥s) (.ref z) .none) _ _ _;calc yN<|K7 L U ?_;let a:=v6 (on<|λ_=>(#[]:Array zt)) L U;calc yN<|wpAny_letGo ?_;let K:∀b o,s.heap.get? b=Lg o->((s.heap.push { cls:=.type "list",data:=.seq #[] }).update ↥s<|on<|λ_=>(#[]:Array zt)).get? b=Lg o:=λb o e =>
  (ss _ _<|uK<|bi e).trans (am _ e)
 let q:((s.heap.push { cls:=.type "list",data:=.seq #[] }).update ↥s<|on<|λ_=>(#[]:Array zt)).objs.size=↥s+1:=by rw[wE,AC]
 generalize (s.heap.push { cls:=.type "list",data:=.seq #[] }).update ↥s (on<|λ_=>(#[]:Array zt))=hA at a K q⊢;let N:C3.TypeIs { s with heap:=hA } (.ref z) "zip" := (_,K _ _ H,U,);unfold L0;calc yN<|Lb N ?_;let h1:M1 (.ref ↥s) (.ref z)=false:=by simp[M1];exact uK M
 let h2:(zt.type "zip" == zt.type "list")=false:=⋯
 let h3:(zt.type "zip" == zt.type "tuple")=false:=⋯
 simp only[h1,h2,h3,AT,w5,if_false];calc yN<|K1 (s:={ s with heap:=hA }) (K _ _ H) ?_;calc yN<|zb ?_;unfold Jl.List.listLengthHint;calc yN<|Lc N vw ?_;show D2 _ _ (specialOf (zt.ref z) s!"__length_hint__" >>= _) _ _ _;calc yN<|Lc N ub ?_;calc yU ?_;show D2 _ _ (rule "list.extend.makes-room" >>= λ_=>Jl.List.listTouch (.ref ↥s) >>= λ_ =>
  again (.builtin "list.extend.loop" ([.ref ↥s,.ref z,.none],[],))) _ _ _
 calc yN<|wpAny_rule ?_;calc yN ?_;show D2 _ _ (K6 ↥s (·.push .none) >>= λ_=>K6 ↥s (·.pop)) _ _ _;calc yN<|K7 (s:={ s with heap:=hA }) a U ?_;let f:=v6 (on (·.push zt.none)) a U;refine K7 (hz:=by seq_fits) f U ?_;let d:=v6 (on (·.pop)) f U;let g:∀b o,s.heap.get? b=Lg o->((hA.update ↥s (on (·.push zt.none))).update ↥s (on (·.pop))).get? b=Lg o :=
  λb o e=>(ss _ _<|uK<|bi e).trans<|(ss _ _<|uK<|bi e).trans<|K b o e
 let p:((hA.update ↥s (on (·.push zt.none))).update ↥s (on (·.pop))).objs.size=↥s+1:=by rw[wE,wE,q]
 generalize (hA.update ↥s (on (·.push zt.none))).update ↥s (on (·.pop))=hB at d g p⊢
 refine yU (KH LQ _,vt (by simp[hh]) D (↥s+1) (u0 M) (u0 C) (u0 B) (u0 v) (u0 u) (u0 t) (u0 r) (vi _)
  (uK M,uK C,uK B,uK v,uK u,uK t,uK r,) hn (min xs.size ys.size) 0 { s with heap:=hB } #[] _ [] (L9 _).symm (by rw[p];exact sT _)
  (.inl (U,g _ _ H,)) (g _ _ W) (_,_,g _ _ V,) (t1.at λo e=>g _ _ e) (P.at λo e=>g _ _ e) (S.at λo e=>g _ _ e) (R.at λo e=>g _ _ e) d U U ny (λj T hj=>by simp at hj) λh' i c l Z g3 e3 Y X f3=>?_,)
 exact(U,h h' i c l (λb o b1 b2 b3 b4 e=>Z b o (u0<|bi e) (tj<|bi e) b1 b2 b3 b4<|g b o e) g3 e3 Y X f3,)
set_option maxRecDepth 100000
section
variable{H':Hp}
def Inv.grow{s':C3}(I:Inv X Ll σ H s)(k:∀b o,s.heap.get? b=Lg o->s'.heap.get? b=Lg o)(p:s'.gens=s.gens)(d:s'.os=s.os)(a:∀b,b<↥s->H' b=H b)
  (f:∀b u,↥s<=b->H' b=Lg u->dJ X.prog X.w H' s'.heap b u):Inv X Ll σ H' s':=by
 let(h',g',d',t',i):=s';obtain rfl:g'=s.gens:=p;obtain rfl:i=s.os:=d;let lt:∀{b u},H b=Lg u->b<↥s:=λ{b u} e=>by
  rcases vZ b ↥s with z|z
  .exact z
  .rw[I.hok.fresh z]at e;cases e
 let same:∀{b u},H b=Lg u->H' b=Lg u:=λe=>by rw[a _ (lt e)];exact e
 exact I.step (h':=h') (g':=s.gens) (d':=d') (t':=t') (ch:=[]) (λ_ z=>nomatch z) (λb o _ _ _ e _=>k b o e) (λb o _ _ _ e _=>(o.slots,k b o e,))
  (λb o _ e n=>by rw[a _ (bi e)];exact n) (λb o _ e=>(o,k b o e,)) (λb g e=>same e) (λb o u e=>same e) (λb ps e=>(#[],by rw[same e];simp,))
  (λm l=>by
   let(o,es,t,j,r):=l;exact(o,es,t,k _ o j,r,))
  (λb u e=>by
   rcases vZ b ↥s with z|z
   .rw[a _ z]at e;exact(I.hok b u e).stay (λc h _ q=>k c h q) (λc q=>same q) λc g q=>same q
   .exact f b u z e)
  I.bare
end
inductive ET(K:ac)(Q:VK)(vs:Lw V)(H1:Hp):Prop
 |mk (a b xs ys:_)(_:vs=[.ref a,.ref b])(_:SqL K H1 a xs)(_:SqL K H1 b ys)(_:∀(D:AM)(ts:Lw AM)(H2:Hp),⇑ts=min ⇑xs ⇑ys->(∀c o,H1 c=Lg o->H2 c=Lg o)->H1 D=Lh->H2 D=Lg (.lst<|ts.map NC) ->
  (∀(j:Nat)(x y:V),xs[j]?=Lg x->ys[j]?=Lg y->∃T,ts[j]?=Lg T/\H1 T=Lh/\H2 T=Lg (.tup [x,y]))->Q (.ref D) H2):ET K Q vs H1
def  tLZ(K:ac)(ta:TA):TE:=λσ H Q=>ta σ H λa b=>ET K Q a b
def ltA{c n:Nat}(h:c<n)(k:Nat):c≠n+k:=tj<|tN h<|vl _ _
def  kf(xs ys:Lw V)(a:Lw AM)(b:AM):Option HO :=
 match a.idxOf? b with
 |some j=>match xs[j]?,ys[j]? with
  |some x,Lg y=>Lg<|.tup [x,y]
  |_,_=>Lh
 |none=>Lh
def vx{J C:Ew}{ta:TA}{p1 p2 Bq Z:Pos}(a6:X.calm=Li)(hg:Gl X "list") (hm:X.mg "list" = Lh) (a5:Gl X "zip") (a4:X.mg "zip" = Lh) (ha:PA X [J,C] ta)
  (hs:EN [J,C] X.env=[(Lj,eval J X.env),(Lj,eval C X.env)]:=by rfl)(M:EN [C] X.env=[(Lj,eval C X.env)]:=by rfl) :
  PE X (.Call (.Name "list" p1) [.Call (.Name "zip" p2) [J,C] [] Z] [] Bq) (tLZ X.K ta):=by
 intro Ll s σ H Q I h;calc zd<|jm I hg hm wr ?_;calc v4 ?_ U U;show D2 _ _ (spliced ((Lj,eval (.Call (.Name "zip" p2) [J,C] [] Z) X.env) :: EE Bq (EN [] X.env))) _ _ s;calc LL ?_;calc zd<|jm I a5 a4 My ?_;refine v4 (thn (ha Z Ll s σ H _ I h) λus f (vs,S,B,r1,q1,)=>?_) (by rw[hs,M]) (by rw[M];rfl);let(a,b,p,n,rfl,qa,qb,q):=q1;let(u,v,rfl,ru,rv):=r1.two;cases (show u=zt.ref a from ru);cases (show v=zt.ref b from rv);let(us,vu,pu,zu):=B.list qa;let(vs,vv,pv,zv):=B.list qb;let(oa,ea,_):=id pu.isList;let(ob,eb,_):=id pv.isList;let la:a<↥f:=bi ea;let lb:b<↥f:=bi eb;let l1:=⇑vu;let l2:=⇑vv;refine call_zip_2 pu.isList pv.isList λh' z1 z2 z3 z4 z5 z6 Y=>?_
 calc Mm ?_;let D:KY (↥f+4) (↥f+2) (↥f+3) ↥f (↥f+1) a b:=by
  calc(?_,?_,?_,?_,?_,?_,?_,?_,?_,?_,?_,?_,?_,?_,?_,?_,?_,?_,) <;> first|exact tj ∅|exact uK ∅|exact tj la|exact tj lb|exact tj (tN la<|vl _ _)|exact tj (tN lb<|vl _ _)
 refine qt (s:={ f with heap:=h' }) (B.ok.hd a6) D z1 z2 z3 z4 z5 (pu.isList.at λo e=>Y _ _ e) (pv.isList.at λo e=>Y _ _ e) (by simp;lia) λh2 b3 c d k3 g3 e3 n3 nd R=>?_
 let a3:C3.heap { f with heap:=h' }=h':=rfl;rw[a3]at g3 R k3;rw[z6]at g3 R;let kp:∀c o,f.heap.get? c=Lg o->h2.get? c=Lg o:=λc o e=>by
  let:=bi e;exact k3 c o (ltA this _) (ltA this _) (tj this) (ltA this _)<|Y c o e
 let N:⇑d=min ⇑p ⇑n:=by rw[n3];simp;lia
 let F:∀(j:Nat)(T:AM),d[j]?=Lg T->d.idxOf? T=Lg j:=λj T w=>by
  let(G,ej):=IV.mp w;rw[List.idxOf?,Mo];refine(G,by simp[ej],λi hi=>?_,);let:d[i]≠d[j]:=λq=>by
   let:=(List.getElem_inj nd).mp q;lia
  simpa[←ej]using this
 let L:∀(T:AM)(j:Nat),d.idxOf? T=Lg j->d[j]?=Lg T:=λT j w=>by
  rw[List.idxOf?,Mo]at w;let(G,e,_):=w;rw[IU G];simpa using e
 let E:∀(T:AM)(j:Nat),d.idxOf? T=Lg j->↥f+6<=T:=λT j w=>by
  let(a1,_):=R j T<|L T j w;lia
 show EP X Ll σ Q _ _;rw[show(C3.heap { f with heap:=h' }).objs.size=↥f+5 from z6];generalize m:(λ(b:AM)=>if b=↥f+5 then Lg (HO.lst<|d.map NC)else match kf p n d b with|some o=>Lg o|none=>S b)=H2;let hD:H2 (↥f+5)=Lg (.lst<|d.map NC):=by rw[←m];exact Lo U
 let hO:∀c,c<↥f->H2 c=S c:=λc hc=>by
  rw[←m];show(if c=↥f+5 then _ else _)=_;rw[Lm (ltA hc 5)];let:kf p n d c=none:=by
   unfold kf;cases e:d.idxOf? c with
   |none=>rfl
   |some j=>exact Lp (tN hc<|tm (vl _ 6)<|E c j e) (vd _)
  rw[this]
 let hT:∀(j:Nat)(x y:V)(T:AM),p[j]?=Lg x->n[j]?=Lg y->d[j]?=Lg T->H2 T=Lg (.tup [x,y]):=λj x y T l A g=>by
  let:=E T j<|F j T g;rw[←m];show(if T=↥f+5 then _ else _)=_;rw[Lm (uK<|tN (vi _) this)];let:kf p n d T=Lg (.tup [x,y]):=by unfold kf;rw[F j T g];dsimp only;rw[l,A]
  rw[this]
 refine(.ref<|↥f+5,H2,B.grow (s':={ f with heap:=h2 }) kp U U hO (λb u hb k=>?_),U,q _ d H2 N (λc o e=>?_) (B.hok.fresh<|vl _ _) hD λj x y l A=>?_,)
 .rw[←m]at k;replace k:(if b=↥f+5 then Lg (HO.lst<|d.map NC)else match kf p n d b with|some o=>Lg o|none=>S b)=Lg u:=k
  by_cases W:b=↥f+5
  .rw[Lo W]at k;cases k;subst W;let rv:∀d:Lw AM,Vals (d.map NC) (d.map zt.ref):=λd=>by
    induction d with
    |nil=>exact .nil
    |cons t r ih=>exact .cons U ih
   refine(by rw[ck,N];lia,d.map zt.ref,c,rv d,?_,);rw[←e3];exact g3
  .rw[Lm W]at k;cases g:kf p n d b with
   |none=>rw[g]at k;replace k:S b=Lg u:=k;rw[B.hok.fresh hb]at k;cases k
   |some o =>
    rw[g]at k;cases k;unfold kf at g;cases ei:d.idxOf? b with
    |none=>rw[ei]at g;cases g
    |some j =>
     rw[ei]at g;dsimp only at g;cases l:p[j]? with
     |none=>rw[l]at g;cases g
     |some x =>
      cases A:n[j]? with
      |none=>rw[l,A]at g;cases g
      |some y =>
       rw[l,A]at g;cases g;let(_,x',y',fx,fy,gp):=R j b<|L b j ei;let(u1,a8,a2):=vu.get l;let(v1,a7,a0):=vv.get A;let P:us[j]?=Lg x':= ~~~fx
       have O:vs[j]?=Lg y':= ~~~fy
       rw[a8]at P;rw[a7]at O;cases P;cases O;exact(by show 2<=A8;decide,[x',y'],.cons a2<|.cons a0 .nil,_,gp,U,_,U,)
 .let:c<↥f:=by
   rcases vZ c ↥f with z|z
   .exact z
   .rw[B.hok.fresh z]at e;cases e
  rw[hO c this];exact e
 .let w:j<⇑d:=by
   let(h1,_):=IV.mp l;let(b0,_):=IV.mp A;lia
  let g:d[j]?=Lg d[j]:=IU w;calc(d[j],g,B.hok.fresh<|tm (vl _ 6)<|E _ j<|F j _ g,hT j x y _ l A g,)
def  Ite(K:ac)(a:AM):It :=
 (λi H=>∃b x,SqL K H a b/\b[i]?=Lg x,
 λi H v c=>∃T,H T=Lh/\v=.ref T/\∀b x,SqL K H a b->b[i]?=Lg x->c=upd H T (.tup [.int i,x]),
 λi H=>∃b,SqL K H a b/\⇑b<=i,)
def  zB(e it a:AM)(i:Nat)(h:A1):Prop:=(∃b,IsEnum h e it i b)/\h.IsListIter it a i
def xU{P:zA}{w:zz}{K:ac}{m:Lw Ew} {x1} {tp:Pos}{e it a:AM}(l:e≠it) :
  Turn P w K (.Tuple m x1 tp) (Ite K a) [e,it] e (zB e it a) where
 mem:=by simp
 obj:=λi h st c b=>by
  let((d,j),(V,f,_,d2)):=st;simp only[dy,ib,or_false]at b;rcases b with rfl|rfl
  .exact⟨_,j,λv q=>nomatch q⟩
  .exact⟨_,f,λv q=>by rw[d2]at q;cases q⟩
 keep:=λi h h' st k=>by
  let((d,j),f):=st;exact((d,k e (by simp) _ j,),f.at λo q=>k it (by simp) o q,)
 item:=by
  intro X B z C b i Ll s σ H E I p st A;subst B z C;let(O,x,n,M):=A;let((d,j),f):=st;let(Q,r,t,_):=I.list n;let(u,eu,R):=r.get M;refine wpAny_pyNext_enum_item j f t.isList (x:=u) (~~~eu) l λh1 a1 a2 a3 a4 a5=>?_
  calc(_,U,wpAny_letOwnedTupleGo_enum (s:={ s with heap:=h1,toks:=s.toks+1 }) a1 λD b1 b2=>?_,);let Y:s.heap.get? ↥s=none:=by
   cases q:s.heap.get? ↥s with
   |none=>rfl
   |some o=>exact Lp (bi q) (vd _)
  let L:H ↥s=none:=I.hok.fresh<|sT _;let G:↥s≠e:=uK<|bi j;let Z:∀c o,c ∉ [e,it]->s.heap.get? c=Lg o->D.get? c=Lg o:=λc o b q=>by
   simp only[dy,ib,or_false,not_or]at b;exact b2.extBut _ _ b.1<|a5 c o b.1 b.2 q
  let J:=I.turnedPair (h':=D) (ch:=[e,it]) (T:=↥s) (x:=.int i) (y:=x) (u:=.int i s.toks) (v:=u) (λc b=>p c (by simp at b⊢;rcases b with q|q <;> simp[q])) Z Y L (b2.extBut _ _ G a3) (_,U,) R;refine(.ref ↥s,upd H ↥s<|.tup [.int i,x],J.tok _,U,(_,L,U,λa0 x' S N=>?_,),((_,b1,),a2.extBut b2.extBut l.symm,),λc b=>?_,)
  .rw[I.list_inj S n,M]at N;cases N;rfl
  .let h0:=(p c b).1;let:c≠↥s:=by
    let(V,F,_):=f;simp only[dy,ib,or_false]at b;rcases b with rfl|rfl
    .exact G.symm
    .exact tj<|bi F
   rw[ay this];exact h0
 done:=by
  intro X B z C b i Ll s σ H E I p st A;subst B z C;let(O,n,hl):=A;let((d,j),f):=st;let(Q,r,t,_):=I.list n;let l1:=⇑r;refine wpAny_pyNext_enum_end (I.ok.hd b) j f t.isList (by simp;lia) λD k=>⟨U,I.turnedL (ch:=[e,it]) (λc b=>p c (by simp at b⊢;rcases b with q|q <;> simp[q])) λc o b q=>?_⟩
  simp only[dy,ib,or_false,not_or]at b;exact k c o b.2 q
 self:=λ_ _ _ _ _ st h=>let ⟨⟨_,g⟩,_⟩:=st;Ld g h
inductive zC(K:ac)(R:It->NB)(vs:Lw V)(H1:Hp):Prop
 |mk (a:_)(_:vs=[.ref a])(_:(∃xs,SqL K H1 a xs))(_:R (Ite K a) H1)
def  EU(K:ac)(ta:TA):TI:=λσ H R=>ta σ H λa b=>zC K R a b
def Br{f:Ew}{ta:TA}{p pos:Pos}{e:Lw Ew} {x1} {tp:Pos}(w:Gl X "enumerate") (hm:X.mg "enumerate" = Lh) (x:PA X [f] ta)
  (v:EN [f] X.env=[(Lj,eval f X.env)]:=by rfl) :
  PI X (.Tuple e x1 tp) (.Call (.Name "enumerate" p) [f] [] pos) (EU X.K ta):=by
 intro Ll s σ H R I h;refine Call_ (jm I w hm PyProof.Rows.boot_enumerate<|v4 (thn (x pos Ll s σ H _ I h) λl b (B,y,g,n,r,)=>?_) (by rw[v];rfl) U);let(a,rfl,(A,o),q):=r;let(u,rfl,m):=n.one;cases (show u=zt.ref a from m);let(l,_,t,_):=g.list o;refine call_enumerate_list t.isList λh' z1 k z j=>?_
 calc Ld (s:={ b with heap:=h' }) z1 ?_;calc(↥b+1,[↥b+1,↥b],zB (↥b+1) ↥b a,Ite X.K a,y,U,g.kept (t':=b.toks) j,xU<|uK<|vi _,((_,z1,),k,),λc i=>?_,q,);let d:↥b<=c:=by
  simp only[dy,ib,or_false]at i;rcases i with rfl|rfl
  .exact u3 _
  .exact sT _
 calc g.fpOk d<|g.hok.fresh d
section
variable{k:Nat}
def vy{K:ac}{a:AM}{xs:Lw V}{σ:St}{f:Hp}{Q:VK}(c:AM->Nat->Lw V->NB)(u:∀D,f D=Lh->c D 0 [] (upd f D<|.lst []))
  (s:∀D i ys H,f D=Lh->i<=⇑xs->c D i ys H->SqL K H a xs)
  (r:∀D i x ys H T,f D=Lh->xs[i]?=Lg x->c D i ys H->H T=Lh->∀n:St,⇑n=k->gt (.ref T) (cX σ fr n) (upd H T<|.tup [.int i,x]) λd v=>(∃g:St,⇑g=k/\d=cX σ fr g)/\tt d v λb o=>if b=Li then te d o (b7 c D i ⇑xs)else kc c D i ⇑xs o)
  (hd:∀D ys H,f D=Lh->c D ⇑xs ys H->Q (.ref D) H):kM (Ite K a) gt k fr tt te σ Q f:=by
 intro D h;calc(λi m H=>m=⇑xs-i/\i<=⇑xs/\∃ys,c D i ys H,(_,U,uk _,[],u D h,),?_,);rintro i m H ⟨rfl,hi,ys,p⟩;let q:=s D i ys H h hi p;by_cases l:i<⇑xs
 .let j:xs[i]?=Lg xs[i]:=IU l;calc .inr ((xs,xs[i],q,j,),λx w y=>?_,);let(T,t,rfl,e):=y;rw[e xs _ q j];exact r D i _ ys _ T h j p t
 .let e:i=⇑xs:=∅
  subst e;calc .inl ((xs,q,sT _,),hd D ys H h p,)
def xV{K:ac}{a b:AM}{xs ys:Lw V}{σ:St}{f:Hp}{Q:VK}(c:AM->Nat->Lw V->NB)(v:∀D,f D=Lh->c D 0 [] (upd f D<|.lst []))
  (t:∀D i zs H,f D=Lh->i<=min ⇑xs ⇑ys->c D i zs H->SqL K H a xs/\SqL K H b ys)
  (s:∀D i x y zs H T,f D=Lh->xs[i]?=Lg x->ys[i]?=Lg y->c D i zs H->H T=Lh->∀q:St,⇑q=k->gt (.ref T) (cX σ fr q) (upd H T<|.tup [x,y]) λd w=>(∃g:St,⇑g=k/\d=cX σ fr g)/\tt d w λb r=>if b=Li then te d r (b7 c D i<|min ⇑xs ⇑ys)else kc c D i (min ⇑xs ⇑ys) r)
  (hd:∀D zs H,f D=Lh->c D (min ⇑xs ⇑ys) zs H->Q (.ref D) H):kM (Itz K a b) gt k fr tt te σ Q f:=by
 intro D h;calc(λi m H=>m=min ⇑xs ⇑ys-i/\i<=min ⇑xs ⇑ys/\∃zs,c D i zs H,(_,U,uk _,[],v D h,),?_,);rintro i m H ⟨rfl,hi,zs,p⟩;let(l,j):=t D i zs H h hi p;by_cases z:i<min ⇑xs ⇑ys
 .let o:xs[i]?=Lg xs[i]:=IU ∅;let n:ys[i]?=Lg ys[i]:=IU ∅;calc .inr ((xs,ys,xs[i],ys[i],l,j,o,n,),λx A y=>?_,);let(T,u,rfl,e):=y;rw[e xs ys _ _ l j o n];exact s D i _ _ zs _ T h o n p u
 .let e:i=min ⇑xs ⇑ys:=∅
  subst e;calc .inl ((xs,ys,l,j,∅,),hd D zs H h p,)
end
def fi{X:Cx}{N:Lw Str}{k:Nat}{fr:Lw Nat}{scope:C4}{cl:Lw (Str×AM)}(b:JY scope X.env=pure cl)(kind:scope.kind=.function)(a:∀y∈scope.names,y.2≠.cell)
  (names:∀y∈scope.names,y.2=.local->scope.names.lookup y.1=Lg .local)(d:N.length=k+⇑fr)
  (sub:((bn ⇑fr).all λi=>match N[k+i]?,fr[i]? with|some y,Lg j=>(X.N[j]? == Lg y) && ((X.env.kindOf y == Lg .cell) && ((relabel scope X.env).names.lookup y == Lg .cell))|_,_=>Lj)=Li)
  (cells:∀p∈cl,X.env.cells.lookup p.1=Lg p.2)(f:((relabel scope X.env).names.all λp=>(p.2 != .cell && p.2 != .free) || (cl.lookup p.1).isSome)=Li):lP X N k fr scope cl:=by
 refine(b,kind,a,names,d,λi y e=>?_,λy c e=>cells _<|mem_of_lookup e,λy h=>?_,)
 .let hi:i<⇑fr:=by have:=(IV.mp e).1;lia
  let z:=iF.mp sub i<|ia.mpr hi;rw[e,IU hi]at z;simp only[wF,beq_iff_eq]at z;exact(_,IU hi,z.1,.inl z.2.1,.inl z.2.2,)
 .let look:∀k,(relabel scope X.env).names.lookup y=Lg k->(k=.cell\/k=.free)->∃c,cl.lookup y=Lg c:=λk e g=>by
   let z:=iF.mp f _<|mem_of_lookup e;rcases g with rfl|rfl
   .exact yz.mp<|~~~z
   .exact yz.mp<|~~~z
  rcases h with h|h
  .exact look _ h<|.inl U
  .exact look _ h<|.inr U
def xW{K:ac}(e:X.K=K){a:Ew}{ta:TE}(d:PE X a ta)(c:∀b,ED a X.env b=(do let v ←b;F6 a.pos;holding [v] (truthy v)):=by intro _;rfl) :
  PT X a (λσ H Q=>ta σ H λx H'=>∃k,CU K x H' k/\Q k H'):=e ▸ fq d c
section
variable{k:Nat}
def zD{x:TI}{i:Nat}{y:Str}{b u:Pos}(hN:X.N.Nodup)(B:X.N[i]?=Lg y)(P:Loc X.env.scope y)(hi:PI X tg iter x)(O:lP X N k fr scope cl)(W:X.calm=Li)(R:∀c C s H,PG (bc X N scope cl c C s H) tg gt)
  (E:∀c C s H,PIf (bc X N scope cl c C s H) ifs tt)(V:∀c C s H,PE (bc X N scope cl c C s H) elt te)(F:∀v,Jm iter X.env v=pure v:=by intro _;rfl)
  (l:IG (.ListComp elt [(tg,iter,ifs,0,)] scope pos) (Lg<|.Name y b) u.line X.env=pure true:=by rfl)(S:X.fn y=Li\/X.env.scope.names.lookup y=Lg .local:=by first|exact .inl U|exact .inr U|assumption) :
  PS X (.Assign [.Name y b] (.ListComp elt [(tg,iter,ifs,0,)] scope pos) u) (AU (vg x gt k fr tt te)<|qC i):=by
 intro Ll s σ H g I h;rw[Kj _ _ _ _ l];calc yN<|Jb<|yN ?_;show D2 _ X.A (do let _ ←comprehension (.ListComp elt [⟨tg,iter,ifs,0⟩] scope pos) scope X.env _ (Ka []) Lj (eval iter X.env) (Lg<|assign (.Name y b) X.env)) _ _ s;calc yN<|EX (Kh (use:=Lg<|assign (.Name y b) X.env) (Q:=λ_ s'=>SP X Ll g .next s') U F O.clos O.kind O.names<|thn (hi Ll s σ H _ I h) λv s1 h1=>thn h1 λa0 s2 h2=>?_) (λ_ s' G=>yU<|yU G) λ_ _ z=>z;let(it,c,tn,J,H2,e,d,T,j,f2,Z):=h2;subst e;refine pq (Q:=λv H1=>qC i v σ H1 g.nx) (RR:=λt C=>Ki (model X.prog X.w) X.A X.xe (Lg<|assign (.Name y b) X.env) (λ_ s'=>SP X Ll g .next s') t C) O W d T j f2 E V R Z λD C s' H' f L (m,M,) I' q=>?_
 show D2 _ X.A (assign (.Name y b) X.env<|.ref D) _ _ s';calc Ja<|mZ I' hN B P (v:=.ref D) U (λs3 I3 (a,n,Y,)=>?_) S;let r:C≠a:=by
  rcases Y with z|z
  .rw[z];exact uK<|tN d.lt f
  .let(v,o,K,_):=d.cell y a z;exact uK<|tN (bi K) f
 calc(m,M.sameBut n r,λh' p=>(_,H',d.left I3 f L p,q,),)
end
set_option maxRecDepth 100000
def rY:JM (.type "list") "keys" = pure none:=by rw[K8,K9];kernel_rfl
def xX{a:AM}{items:Array zt}{Q:Option zt->C3->Prop}(x:s.heap.IsList a items)(l:∀o,s.heap.get? a=Lg o->o.dict=Lh)(y:A.handled=Lh)
  (h:∀h' m,(∀b o,s.heap.get? b=Lg o->h'.get? b=Lg o)->Q Lh { s with heap:=h',toks:=m }) :
  D2 (model prog w) A (getAttr? (.ref a) "keys") Q E s:=by
 let(o,j,p,k,r):=x;let n:=l o j;let(c,z,B,t):=o;simp only at p r n;subst p r n;let(v,g,d,m,u):=s;let q:∀f,(⟨v,g,d,f,u⟩:C3).TypeIs (.ref a) "list" := λ_=>(_,j,U,)
 let K:=sub_AttributeError;let J:=L4.lookup;let I:=L4.bind<|.ref a;let H:=am_list_getattr_none;unfold getAttr? getAttrBy? getAttrBy
 repeat (any_goals (first|assumption|exact q _|((with_reducible show D2 _ _ (call (zt.builtin "list.__getattribute__") _ _) _ _ _);refine JU L4 (q _) am_entry_list_getattribute (F.args_list_getattribute_2 _ _) (meets_getattribute_miss_list a _ k t "keys" _ rY ⋯ ⋯) (j,y,λh' f e i=>?_,))|wp_step))
 let(D,C,G):=i.there;show D2 _ _ (Le _ _ _ _ _ _ _) _ _ _;unfold Le
 repeat (any_goals (first|assumption|wp_step))
 calc h _ _ i.of.keeps
def dO:plainId "dict.update.loop" = true:= ~~~0
def iz:entryFor table "dict.update.loop" = Lg Jl.«dict.update.loop»:=KL (by kernel_rfl)
def nt{q:Type} [DecidableEq q] {knd:KeyKind prog w q}{d I ax:AM}{items:Array zt}{ps:Lw (q×zt)}{res:zt}(hh:A.handled=Lh)(hI:I≠ax)(m:d≠I)(L:d≠ax)(a1:⇑ps=items.size) :
  ∀(k i:Nat)(s:C3)(a:Lw (q×zt))(C:Tok)(R:Ju->C3->Prop),items.size-i=k->i<=items.size->s.heap.IsListIter I ax i->s.heap.IsList ax items->s.heap.DictOf knd d a ->
   (∀(j:Nat)(p:q×zt),ps[j]?=Lg p->∃(t:AM)(o:Obj)(n:Nat)(c:zt),items[j]?=↑t/\s.heap.get? t=Lg o/\o.cls=.type "tuple" /\ o.data=.seq #[c,p.2] n/\knd.is p.1 c=Li/\t≠I/\t≠d) ->
   ⇑a+k<=A8 ->
   (∀h' B,h'.DictOf knd d (merged a<|ps.drop i)->(∀b o,b≠I->b≠d->s.heap.get? b=Lg o->h'.get? b=Lg o)->R (.ok<|.ret res) { s with heap:=h',toks:=B }) ->
   Jv (model prog w) A (.builtin "dict.update.loop" ([.ref d,.ref I,.int (i:Int) C,res],[],)) R s:=by
 intro k;induction k with
 |zero =>
  intro i s a C R hk hi h z E F J G;let K:i=items.size:=∅
  calc KG iz ?_;rw[Is dO _];unfold Jl.«dict.update.loop»;show D2 _ A.in1 (Je (.ref I) >>= _) _ _ s;refine yN (Jj (by simp[hh]) h z (by simp[K]) λh' u=>?_);show D2 _ A.in1 (Jl.Dict.addKeywords d [] >>= _) _ _ _;calc yN<|yU<|yU ?_;let e:ps.drop i=[]:=List.drop_of_length_le ∅;refine G h' _ ?_ λb o hb _ e=>u b o hb e
  rw[e];exact E.extBut u m
 |succ k Z =>
  intro i s a C R hk hi h z E F J G;let a2:i<items.size:=∅
  let ep:=IU (l:=ps) (i:=i) ∅;let(t,o,n,c,e1,e2,e3,e4,e5,e6,e7):=F i _ ep;calc KG iz ?_;rw[Is dO _];unfold Jl.«dict.update.loop»;show D2 _ A.in1 (Je (.ref I) >>= _) _ _ s;calc yN<|Ji h z e1 λh' Gi g=>?_;let v:h'.get? t=Lg o:=(g.2 t e6).trans e2;calc yN<|zb ?_;calc yN<|wpAny_tryCatch ?_;unfold Jl.Dict.pairItems;calc yN<|Lb (T := "tuple") (o,v,e3,) ?_;rw[Lo ⋯];calc yN<|K3 v e4<|yU ?_;show D2 _ _ (holding [c,(ps[i]).2] (dictSet d c (ps[i]).2)) _ _ _;calc zb ?_;let O:h'.DictOf knd d a:=E.extBut g.extBut m;calc wpAny_dictSet_pairs e5 O (λV N r=>?_) ∅;let D:∀b f,b≠I->b≠d->s.heap.get? b=Lg f->V.get? b=Lg f:=λb f y x e=>(r.2 b x).trans<|(g.2 b y).trans e
  let a0:⇑(stored a (ps[i]).1 (ps[i]).2)<=⇑a+1:=by
   unfold stored;split
   .rw[ck];lia
   .rw[eH];simp
  let P:ps.drop i=ps[i] :: ps.drop (i+1):=ot ∅;calc yU (KH dO _,?_,);let go:=Z (i+1) { s with heap:=V,toks:=s.toks+1 } (stored a (ps[i]).1 (ps[i]).2) 0 R ∅ ∅ (Gi.at λf e=>(r.2 I m.symm).trans e) (z.at λf e=>D ax f hI.symm L.symm e) N (λj p ej=>?_) ∅ (λh3 B M H=>?_)
  .exact go
  .let(Q,S,Y,Gj,f1,f2,f3,f4,f5,X,W):=F j p ej;exact(Q,S,Y,Gj,f1,D Q S X W f2,f3,f4,f5,X,W,)
  .refine G h3 B ?_ λb f y x e=>H b f y x<|D b f y x e
   rw[P];calc M
def oH{q:Type} [DecidableEq q] {knd:KeyKind prog w q}{ax:AM}{items:Array zt}{ps:Lw (q×zt)}{Q:zt->C3->Prop}(O:A.handled=Lh)(v:s.heap.IsList ax items)(K:∀o,s.heap.get? ax=Lg o->o.dict=Lh)(H:⇑ps=items.size)(G:items.size<=A8)(J:(ps.map (·.1)).Nodup)
  (V:∀(j:Nat)(p:q×zt),ps[j]?=Lg p->∃(t:AM)(o:Obj)(n:Nat)(c:zt),items[j]?=↑t/\s.heap.get? t=Lg o/\o.cls=.type "tuple" /\ o.data=.seq #[c,p.2] n/\knd.is p.1 c=Li)
  (W:∀h' y,h'.DictOf knd ↥s ps->(∀b o,s.heap.get? b=Lg o->h'.get? b=Lg o)->Q (.ref ↥s) { s with heap:=h',toks:=y }) :
  D2 (model prog w) A (call (.type "dict") [.ref ax]) Q E s:=by
 calc La (Q₁:=λobj f=>obj=.ref ↥s/\f={ s with heap:=s.heap.push { cls:=.type "dict",data:=.dict #[] } }) F.kt_called_dict (F.kt_typeCall_dict_1 _) F.entry_dict_init (kt_code_dict_new _ (U,U,)) ?_;rintro obj f ⟨rfl,rfl⟩;let x:(s.heap.push { cls:=.type "dict",data:=.dict #[] }).DictOf knd ↥s []:=A1.DictOf.new s.heap;let B:∀b o,s.heap.get? b=Lg o->(s.heap.push { cls:=.type "dict",data:=.dict #[] }).get? b=Lg o:=λb o e=>am _ e
 let k:=v.at λo e=>B ax o e
 calc(x.typeIs,F.args_dict_init_2 _ _,?_,);unfold Jl.«dict.__init__»;calc yN ?_;unfold Jl.Dict.selfAndRest;calc yN<|wpAny_notOrdered_dict x.typeIs ?_;show D2 _ _ (pure (↥s,[zt.ref ax])) _ _ _;calc yU ?_;show D2 _ _ (M7 "dict.__init__" ↥s (.ref ax) [] .none) _ _ _;unfold M7;calc yN<|Lb k.typeIs ?_;rw[Lo ⋯];let h:ax<↥s:=by let(o,e,_):=id v;exact bi e
 let Gk:∀o,(s.heap.push { cls:=.type "dict",data:=.dict #[] }).get? ax=Lg o->o.dict=none:=λo e=>by
  let(M,S,_):=id v;let e2:=B ax M S;rw[e2]at e;let e3:=gl e;rw[←e3];exact K M S
 refine yN (xX (s:={ s with heap:=s.heap.push { cls:=.type "dict",data:=.dict #[] } }) k Gk (by simp[O]) λa g N=>?_);rw[Lo (by rfl)];calc yN<|wpAny_rule ?_;let k01:∀b o,s.heap.get? b=Lg o->a.get? b=Lg o:=λb o e=>N b o<|B b o e
 let i:a.IsList ax items:=v.at λo e=>k01 ax o e
 calc yN<|Jk (s:={ s with heap:=a,toks:=g }) i ?_;let z:∀b o,a.get? b=Lg o->(a.push { cls:=.type "list_iterator",data:=.fields #[.ref ax,.int 0 0] }).get? b=Lg o:=λb o e=>am _ e
 let eI:(a.push { cls:=.type "list_iterator",data:=.fields #[.ref ax,.int 0 0] }).get? a.objs.size=Lg { cls:=.type "list_iterator",data:=.fields #[.ref ax,.int 0 0] }:=ii _ U;let l:a.DictOf knd ↥s []:=by
  let(o,es,R,C,r):=x;exact(o,es,R,N _ _ C,r,)
 let L:(a.push { cls:=.type "list_iterator",data:=.fields #[.ref ax,.int 0 0] }).DictOf knd ↥s []:=l.push _;let u:↥s<a.objs.size:=by let(o,es,R,C,_):=l;exact bi C
 let D:ax<a.objs.size:=vY h u;calc yU (KH dO _,?_,);refine nt (prog:=prog) (w:=w) (knd:=knd) (d:=↥s) (I:=a.objs.size) (ax:=ax) (items:=items) (ps:=ps) (res:=.none) (by simp[O]) (uK D) (tj u) (uK h) H items.size 0 { s with heap:=a.push { cls:=.type "list_iterator",data:=.fields #[.ref ax,.int 0 0] },toks:=g } [] 0 _ ∅ (uk _) (_,eI,U,U,) (i.at λo e=>z ax o e) L (λj p ej=>?_) (~~~G) (λh' y m T=>?_)
 .let(t,o,n,c,f1,P,Z,Y,X):=V j p ej;let lt:=bi P;exact(t,o,n,c,f1,z _ _<|k01 _ _ P,Z,Y,X,tj<|vY lt u,tj lt,)
 .rw[oz,merged_nil_of_nodup ps J]at m;calc(U,W h' y m λb o e=>T b o (tj<|vY (bi e) u) (tj<|bi e)<|z _ _<|k01 _ _ e,)
def qY{b a:Type}{R:b->a->Prop}:∀{xs:Lw b}{ys:Lw a},⇑xs=⇑ys->(∀(j:Nat)(x:b)(y:a),xs[j]?=Lg x->ys[j]?=Lg y->R x y)->Paired R xs ys
 | [],[],_,_=>.nil
 |x :: xs,y :: ys,hl,h=>.cons (h 0 x y U U)<|qY (~~~hl) λj d c e f=>h (j+1) d c (~~~e)<|~~~f
 | [],_ :: _,hl,_=>by simp at hl
 |_ :: _,[],hl,_=>by simp at hl
def oR{c:Type}{P:Nat->c->Prop}:∀n:Nat,(∀j,j<n->∃a,P j a)->∃l:Lw c,⇑l=n/\∀(j:Nat)(a:c),l[j]?=Lg a->P j a
 |0,_=>([],U,λj a e=>by simp at e,)
 |n+1,h=>by
  let(l,d,g):=oR n λj f=>h j ∅
  let(a,i):=h n ∅;refine(l++[a],by simp[d],λj b e=>?_,);by_cases f:j<⇑l
  .rw[gi f]at e;exact g j b e
  .let:j=n:=by have:=(IV.mp e).1;simp at this;lia
   subst this;rw[gn ∅,d,we]at e;cases e;calc i
def  kvT(a:Lw (Str×V)):Lw (Key×V):=a.map λp=>(Db p.1,p.2)
def Bs{a:Lw (Str×V)}{j:Nat}{x:Key×V}(e:(kvT a)[j]?=Lg x):∃p,a[j]?=Lg p/\x=(Db p.1,p.2):=by
 unfold kvT at e;rw[dV]at e;cases q:a[j]? with
 |none=>rw[q]at e;cases e
 |some p=>rw[q]at e;cases e;calc(p,U,U,)
def wN:∀{a:Lw (Str×V)}{vs:Lw (Key×zt)}{k:Str}{v:V},KV (kvT a) vs->a.lookup k=Lg v->∃u,valueAt vs (Db k:Key)=Lg u/\RelV v u
 | [],_,_,_,_,e=>by cases e
 |(k0,v0) :: a,vs,k,v,r,e=>by
  unfold KV at r;cases r with
  | @cons p q ps qs h t =>
   let(b,g):=h;let b:(Db k0:Key)=q.1:=b;by_cases c:k=k0
   .subst c;rw[nC,beq_self_eq_true]at e;cases e;calc(q.2,?_,g,);unfold valueAt;rw[List.find?_cons_of_pos (by simp[b])];rfl
   .let e:a.lookup k=Lg v:=by
     rw[nC,beq_eq_false_iff_ne.mpr c]at e;exact e
    let(u,f,i):=wN (vs:=qs) t e;calc(u,?_,i,);let d:¬ (q.1=(Db k:Key)):=λz=>c (by rw[←b]at z;injection z with z;exact z.symm)
    unfold valueAt at f⊢;rw[List.find?_cons_of_neg (~~~d)];calc f
def Bt{Ll:Lw (AM×Obj)}{σ:St}{H:Hp}{s:C3}(I:Inv X Ll σ H s):(↥s == Bg)=false:=by
 let h:Ca<↥s:=(I.mod.glob.keeps I.bk).lt;let a:Bg<↥s:=vY ⋯ h;calc beq_eq_false_iff_ne.mpr<|uK a
def pJ(J:X.calm=Li):gQ X (.type "dict") (λxs H Q=>∃(l:AM)(us:Lw V)(c:Lw (Str×V)),xs=[.ref l]/\H l=Lg (.lst us)/\⇑us=⇑c/\(∀(j:Nat)(p:Str×V),c[j]?=Lg p->∃t:AM,us[j]?=↑t/\H t=Lg (.tup [.str p.1,p.2]))/\(c.map (·.1)).Nodup/\∀p,H p=Lh->Q (.ref p) (upd H p<|.dK<|kvT c)):=by
 intro Ll s σ H xs a0 Q I r h;let(l,us,c,rfl,el,N,ht,A,q):=h;let(u,rfl,Y):=vals1 r;cases Y;let(k,n,L,R,M):=I.lst el;let B:=L.length;let(ps,v,i):=oR (P:=λj (a:Key×zt)=>∃(p:Str×V)(t:AM)(o:Obj)(m:Nat)(d:zt),c[j]?=Lg p/\a.1=Db p.1/\k[j]?=↑t/\RelV p.2 a.2/\s.heap.get? t=Lg o/\o.cls=.type "tuple" /\ o.data=.seq #[d,a.2] m/\RelV (.str p.1) d) ⇑c λj hj=>by
  let O:=IU hj;let(t,g,f):=ht j _ O;let(S,E,D):=L.get g;cases (show S=zt.ref t from D);let(_,C,G,o,ho,hc,m,hd):=I.hok t _ f;let(d,rest,rfl,rk,Z):∃d rest,C=d :: rest/\RelV (.str c[j].1) d/\Vals [c[j].2] rest:=by
   cases G with
   |cons a b=>exact(_,_,U,a,b,)
  let(T,rfl,F):=vals1 Z;exact((Db c[j].1,T),c[j],t,o,m,d,O,U,E,F,ho,hc,~~~hd,rk,)
 let oo:ps.map (·.1)=c.map λp=>(Db p.1:Key):=by
  refine kB λj=>?_
  rw[dV,dV];cases e:ps[j]? with
  |none =>
   let:c[j]?=none:=by rw[xL]at e⊢;lia
   rw[this];rfl
  |some a =>
   let(p,t,o,m,d,g,f,_):=i j a e;rw[g];show Lg a.1=Lg (Db p.1);rw[f]
 refine oH (knd:=mn X.prog X.w) (items:=k.toArray) (ps:=ps) (I.ok.hd J) (_,R,U,n,U,) (λo e=>by rw[R]at e;cases e;rfl) (by rw[eG,v,←N,B]) (by rw[eG,←B];exact M) ?_ (λj a ea=>?_) λh' W hd kp=>?_
 .rw[oo,show(c.map λp=>(Db p.1:Key))=(c.map (·.1)).map λz=>(Db z:Key) by rw[hJ];rfl];rw[Gc]at A⊢;rw[Mt];exact A.imp λ{a b} K z=>K (by injection z)
 .let(p,t,o,m,d,g,f,E,D,e5,e6,e7,e8):=i j a ea;calc(t,o,m,d,~~~E,e5,e6,e7,?_,);rw[f];let(tt,rfl):=(show ∃tt,d=zt.str p.1 tt from e8);exact n6 X.prog X.w p.1 tt
 .refine(.ref ↥s,_,I.laid (h':=h') (t':=W) (o:=.dK<|kvT c) kp (sT _) (by unfold kvT;rw[ck,←N];exact M,Bt I,ps,qY (by unfold kvT;rw[ck,v]) λj x y ex ey=>?_,hd,),U,q _<|I.hok.fresh<|sT _,);let(p,ep,rfl):=Bs ex;let(p',t,o,m,d,g,f,E,D,_):=i j y ey;rw[ep]at g;cases g;calc(f.symm,D,)
inductive Ds  (x:V)(y:V)(H:Hp)(Q:VK):Prop
 |mk (a:AM)(kvs:Lw (Str×V))(k:Str)(v:V)(_:x=.ref a)(_:y=.str k)(_:H a=Lg (.dK<|kvT kvs))(_:kvs.lookup k=Lg v)(_:Q v H):Ds x y H Q
def mK:IxR X Ds:=by
 intro value e Ll s σ H x y v u Q I i g h j;let(a,d,k,z,rfl,rfl,n,m,q):=h;cases i;let(t,rfl):=g;let(_,_,p,c,f):=(show dJ X.prog X.w H s.heap a (.dK<|kvT d)from I.hok a _ n);let(o,l,b):=wN c m;calc PyProof.Rows.tail_any f.mapOf.typeIs slot_dict_getitem.lookup (wpAny_getItem_of (n6 X.prog X.w k t) f.mapOf l (z,H,I.tok _,b,q,)) j
def vA{X:Cx}{K:ac}(h:X.K=K):OpR X (Jp .In) (rIn K Lj):=h ▸ qM
def Dt{a:Ew}{ta:TE}{c e:Str}{k u:Nat}{D r p pos:Pos}(G:PE X a ta):PE X (.JoinedStr [.Constant (.str c) k r,.FormattedValue a 114 Lh D,.Constant (.str e) u p] pos) (λσ H Q=>⇑c<=1000/\tFr e ta σ H Q):=by
 intro Ll s σ H Q I h;let b:∀n,n<=20000->n<=A8:=λn E=>tm E ⋯
 let d:∀y:Str,⇑(tz++y)=⇑y:=λy=>by rw[len_app];show 0+_=_;lia
 let(R,h):=h;calc Kv<|Kw ?_;refine thn (aN (X:=X) (x:=c) (j:=k) (pos:=r) Ll s σ H (λv m=>v=.str c/\m=H) I (U,U,)) λv w (y,P,M,B,i,g,)=>?_
 subst i g;let(T,rfl):=B;refine(_,_,U,b _ (by rw[d];lia),Kw<|Kx<|thn (G Ll w σ P _ M h) λv o (x,l,N,C,z,K,Y,F,hl,q,)=>?_,);subst K;let(t,rfl):=C;let Z:=L6 z F;calc Ky (formatField_str (λV f=>?_)<|b _ ∅)<|b _ ∅;refine(_,_,U,b _ (by rw[len_app,d];lia),Kw ?_,);let J:Inv X Ll σ l { o with toks:=f }:=N.tok f;refine thn (aN (X:=X) (x:=e) (j:=u) (pos:=p) Ll { o with toks:=f } σ l (λv m=>v=.str e/\m=l) J (U,U,)) λv W (y,O,L,A,i,g,)=>?_
 subst i g;let(S,rfl):=A;refine(_,_,U,b _ (by rw[len_app,len_app,d];lia),Kz (b _ (by rw[len_app,len_app,d];lia),?_,),);calc(.str _,O,L.tok _,(_,U,),q _,)
def  rpt(z y:Str):Str×Str×Str:=match lastOccurrence z y 0 ⇑z with
 |some i=>(strSub z 0 i,y,strSub z (i+⇑y) ⇑z)
 |none=>(tz,tz,z)
inductive zE  (x:V)(vs:Lw V)(H:Hp)(Q:VK):Prop
 |mk (z y:Str)(_:x=.str z)(_:vs=[.str y])(_:(⇑y == 0)=Lj)(_:⇑z<=A8)(_:∀p,H p=Lh->Q (.ref p) (upd H p<|.tup [.str (rpt z y).1,.str (rpt z y).2.1,.str (rpt z y).2.2])):zE x vs H Q
def qu:MtM X "str.rpartition" zE:=by
 intro Ll s σ H x r v w Q I f j h;let(z,y,rfl,rfl,n,m,q):=h;let(t,rfl):=f;let(A,rfl,l):=j.one;let(u,rfl):=l;let fin:∀(a b c:Str)(ta e d:Tok)(k:Nat),(∀p,H p=Lh->Q (.ref p) (upd H p<|.tup [.str a,.str b,.str c]))->EP X Ll σ Q (.ref ↥s) { s with heap:=s.heap.push { cls:=.type "tuple",data:=.seq [.str a ta,.str b e,.str c d].toArray },toks:=k }:=λa b c ta e d k q =>
  (.ref ↥s,_,I.laid (a:=↥s) (o:=.tup [.str a,.str b,.str c]) (t':=k) (λb o g=>am _ g) (sT _) ((by show 3<=A8;decide),[.str a ta,.str b e,.str c d],.cons (_,U,)<|.cons (_,U,)<|.cons (_,U,) .nil,(_,ii _ U,U,_,U,),),U,q _ I.fresh,)
 calc JU PySem.F.slot_str_rpartition (JP _ _ _) PySem.F.entry_str_rpartition (PySem.F.args_str_rpartition_2 _ _) (meets_str_rpartition z y t u n m) ?_;unfold rpt at q
 revert q
 cases lastOccurrence z y 0 ⇑z with
 |none=>intro q;exact fin _ _ _ _ _ _ _ q
 |some i=>intro q;calc fin _ _ _ _ _ _ _ q
def mL{K:ac}(_:X.K=K):IxR X Ds:=mK
def uc{K:ac}{b a:Ew}{ta:TA}{i h n g:Pos}(m:X.K=K)(f:X.calm=Li)(k:Gl X "list") (hm:X.mg "list" = Lh) (e:Gl X "zip") (d:X.mg "zip" = Lh) (l:PA X [b,a] ta)
  (j:EN [b,a] X.env=[(Lj,eval b X.env),(Lj,eval a X.env)]:=by rfl)(c:EN [a] X.env=[(Lj,eval a X.env)]:=by rfl) :
  PE X (.Call (.Name "list" i) [.Call (.Name "zip" h) [b,a] [] g] [] n) (tLZ K ta):=by
 subst m;calc vx f k hm e d l j c
def Du{k:Nat}{x:Str}{ps:Lw Str}{sp:Sp}{p pos:Pos}(C:Callee X.prog X.w X.K X.mg X.base k x ps sp)(d:cS k X.A)(e:Gl X x)(a:(x == ("__debug__" : Str))=false:=by decide):PE X (.Call (.Name x p) [] [] pos) (tFn sp xy):=by
 let(f,fd,F,b,c,m):=C;let h:=yQ (E:=E0) (dvs:=[]) (ds:=[]) (p:=p) (pos:=pos) F d e m c b .nil cQ a;intro Ll s σ H Q I q;calc h Ll s σ H Q I q
def rZ{p m:Str}{a b:Lw Nat}(h:tl p=a++(tl m++b)):subAt p m ⇑a=true:=by
 rw[subAt_eq];show(((tl p).drop ⇑a).take ⇑m == tl m)=Li;rw[h,pf,←bf m,qe];calc beq_self_eq_true _
def wO{t m:Str}{j i v:Nat}(h:subAt t m j=Li)(e:(tl m)[i]?=Lg v):(tl t)[j+i]?=Lg v:=by
 rw[subAt_eq]at h;let a:((tl t).drop j).take ⇑m=tl m:=eq_of_beq h;let hi:i<⇑m:=by rw[←bf];exact(IV.mp e).1
 rw[←a,LY hi,qg]at e;calc e
def oS{a m b:Str}:strSub (a++m++b) 0 ⇑a=a/\strSub (a++m++b) (⇑a+⇑m) ⇑(a++m++b)=b:=by
 let e:tl (a++m++b)=tl a++(tl m++tl b):=by rw[cg,cg,iD]
 constructor
 .refine gv ?_;show(strSub _ 0 ⇑a).cps.toList=_;rw[strSub_toList];show((tl<|a++m++b).drop 0).take (⇑a-0)=tl a;rw[oz,Nat.sub_zero,e,←bf a,qe]
 .refine gv ?_;show(strSub _ _ _).cps.toList=_;rw[strSub_toList];show((tl<|a++m++b).drop _).take _=tl b;rw[e,←iD,show ⇑a+⇑m=⇑(tl a++tl m) by rw[eH,bf,bf],pf];calc oy ?_;let:=bf<|a++m++b;rw[e,eH,eH]at this;rw[eH];lia
def Bu{a m b:Str}(h:∀j,j<⇑a->subAt (a++m++b) m j=Lj):dL (a++m++b) m=(a,m,b):=by
 let e:tl (a++m++b)=tl a++(tl m++tl b):=by rw[cg,cg,iD]
 let c:At (a++m++b) m ⇑(a++m++b) ⇑a:=(by rw[←bf (a++m++b),e,eH,eH,bf,bf];lia,by rw[←bf a];exact rZ e,);rcases occ_head (a++m++b) m 1 (sT _) with⟨_,g⟩|⟨i,r,k,f,d⟩
 .exact Lp c<|g _
 .let hi:i=⇑a:=by
   rcases v5 i ⇑a with z|z|z
   .let:=h i z;rw[f.2]at this;cases this
   .exact z
   .exact Lp c<|d _ z
  subst hi;unfold dL;rw[k];show(strSub _ 0 ⇑a,m,strSub _ (⇑a+⇑m) _)=_;rw[oS.1,oS.2]
def kg{a m b:Str}{m0 m1:Lw Nat}{v:Nat}(d:tl m=m0++v :: m1)(e:v ∉ tl a)(f:v ∉ m0):dL (a++m++b) m=(a,m,b):=by
 refine Bu λj h=>?_
 cases hs:subAt (a++m++b) m j with
 |false=>rfl
 |true =>
  exfalso;let g:=wO (i:=⇑m0) (v:=v) hs (by rw[d];simp);rw[cg,cg,iD]at g;by_cases c:j+⇑m0<⇑(tl a)
  .rw[gi c]at g;exact e<|IW g
  .rw[gn (wa c),d,iD,gi (by rw[bf];rw[bf]at c;lia)]at g;calc f<|IW g
def wQ{c:Nat->Bool}:∀(l:Lw Nat)(o:Option Nat),(∀x∈l,c x=Lj)->l.foldl (λo i=>if c i=Li then Lg i else o) o=o
 | [],_,_=>rfl
 |x :: l,o,h=>by
  rw[kA,h x<|.head _,Lm ⋯];calc wQ l o λy a=>h y<|.tail _ a
def Bv{s m:Str}{i:Nat}(n:i+⇑m<=⇑s)(h:subAt s m i=Li)(f:∀j,i<j->j+⇑m<=⇑s->subAt s m j=Lj):lastOccurrence s m 0 ⇑s=Lg i:=by
 let e:lastOccurrence s m 0 ⇑s=(LX 0<|⇑s+1).foldl (λo i=>if (Lk (i+⇑m<=⇑s) && subAt s m i)=Li then Lg i else o) none:=by
  unfold lastOccurrence;simp only[Std.Legacy.Range.forIn_eq_forIn_range',Std.Legacy.Range.size];let k:∀(l:Lw Nat)(o:Option Nat),(forIn (m:=Id) l o λi r=>if (Lk (i+⇑m<=⇑s) && subAt s m i)=Li then(pure (wP<|Lg i):Id _)else pure (wP r)).run=l.foldl (λo i=>if (Lk (i+⇑m<=⇑s) && subAt s m i)=Li then Lg i else o) o:=by
   intro l;induction l with
   |nil=>intro o;rfl
   |cons x l a =>
    intro o;rw[nY,kA];by_cases g:(Lk (x+⇑m<=⇑s) && subAt s m x)=Li
    .rw[Lo g,Lo g];exact a _
    .rw[Lm g,Lm g];exact a _
  simpa using k (LX 0<|⇑s+1) Lh
 let b:LX 0 (⇑s+1)=LX 0 i++i :: LX (i+1) (⇑s-i):=by
  let c:⇑s+1=i+(⇑s-i+1):=∅
  rw[c,←List.range'_append_1,List.range'_succ,L9]
 rw[e,b,mh,kA,Lo (by rw[h,Bool.and_true];exact Lq n)];refine wQ _ _ λj d=>?_
 let(q,p):=List.mem_range'_1.mp d;by_cases g:j+⇑m<=⇑s
 .rw[f j ∅ g,LR]
 .rw[Lr g,ww]
def Bw{a m b:Str}{m0:Lw Nat}{v:Nat}(c:tl m=m0++[v])(f:v ∉ tl b):rpt (a++m++b) m=(a,m,b):=by
 let e:tl (a++m++b)=tl a++(tl m++tl b):=by rw[cg,cg,iD]
 let d:lastOccurrence (a++m++b) m 0 ⇑(a++m++b)=Lg ⇑a:=by
  refine Bv (by rw[←bf (a++m++b),e,eH,eH,bf,bf];lia) (by rw[←bf a];exact rZ e) λj k _=>?_
  cases hs:subAt (a++m++b) m j with
  |false=>rfl
  |true =>
   exfalso;let g:=wO (i:=⇑m0) (v:=v) hs (by rw[c];simp);let h:⇑(tl m)=⇑m0+1:=by rw[c];simp
   rw[e,gn (by rw[bf];lia),gn (by rw[bf a];lia)]at g;exact f<|IW g
 unfold rpt;rw[d];show(strSub _ 0 ⇑a,m,strSub _ (⇑a+⇑m) _)=_;rw[oS.1,oS.2]
def zF{m:Str}{m0 m1:Lw Nat}{v:Nat}(d:tl m=m0++v :: m1)(c:v ∉ m0){w:Str}{W:Lw Str}(a:v ∉ tl w){k:Nat}(f:k<⇑m0):(tl<|lc m (w :: W))[k]?≠Lg v:=λg=>by
 cases W with
 |nil =>
  let g:(tl w)[k]?=Lg v:=g;exact a<|IW g
 |cons e W =>
  rw[cw]at g;by_cases b:k<⇑(tl w)
  .rw[gi b]at g;exact a<|IW g
  .rw[gn (wa b),d,iD,gi ∅]at g;calc c<|IW g
def pK{m:Str}{m0 m1:Lw Nat}{v:Nat}(d:tl m=m0++v :: m1)(k:v ∉ m0)(q:v ∉ m1):∀{W P:Lw Str},W≠[]->P≠[]->(∀w∈W,v ∉ tl w)->(∀p∈P,∀a b,tl p≠a++(tl m++b))->tl (lc m P)=tl (lc m W)->P=W
 | [],_,h,_,_,_,_=>Lp U h
 |_,[],_,h,_,_,_=>Lp U h
 | [w],[p],_,_,_,_,e=>by
  let e:tl p=tl w:=e;rw[gv e]
 | [w],p :: j :: P,_,_,hw,_,e=>by
  let e:tl (lc m (p :: j :: P))=tl w:=e;rw[cw]at e;let:v∈tl w:=by rw[←e,d];simp
  exact Lp this<|hw w (by simp)
 |w :: i :: W,[p],_,_,_,hp,e=>by
  let e:tl p=tl (lc m (w :: i :: W)):=e;rw[cw]at e;exact Lp e<|hp p (by simp) _ _
 |w :: i :: W,p :: j :: P,_,_,hw,hp,e=>by
  rw[cw,cw]at e;let y:⇑(tl m)=⇑m0+1+⇑m1:=by rw[d];simp;lia
  let f:∀(a b:Lw Nat),(a++(tl m++b))[⇑a+⇑m0]?=Lg v:=λa b=>by
   rw[gn ∅,show ⇑a+⇑m0-⇑a=⇑m0 by lia,d];simp
  let s:⇑(tl p)=⇑(tl w):=by
   rcases v5 ⇑(tl p) ⇑(tl w) with g|g|g
   .exfalso;let c:=f (tl p)<|tl<|lc m (j :: P);rw[e]at c;by_cases o:⇑(tl p)+⇑m0<⇑(tl w)
    .rw[gi o]at c;exact hw w (by simp) (IW c)
    .rw[gn ∅,d,iD,gi ∅]at c;exact k<|IW c
   .exact g
   .exfalso;by_cases o:⇑(tl p)<=⇑(tl w)+⇑m0
    .let c:=f (tl w)<|tl<|lc m (i :: W);rw[←e,gn ∅,d,iD,gi ∅]at c;exact k<|IW c
    .by_cases u:⇑(tl w)+⇑(tl m)<=⇑(tl p)
     .refine hp p (by simp) (tl w) ((tl p).drop<|⇑(tl w)+⇑(tl m)) ?_;let l:=Lu (List.take<|⇑(tl w)+⇑(tl m)) e;rw[MA u,←iD,←eH,qe]at l
      conv=>lhs;rw[←mf (⇑(tl w)+⇑(tl m)) (tl p),←eH,l]
      rw[iD,eH]
     .let c:=f (tl p)<|tl<|lc m (j :: P);rw[e,gn ∅]at c;by_cases t:⇑(tl p)+⇑m0-⇑(tl w)<⇑(tl m)
      .rw[gi t,d,gn ∅,show⇑(tl p)+⇑m0-⇑(tl w)-⇑m0=(⇑(tl p)-⇑(tl w)-1)+1 by lia,MY]at c;exact q<|IW c
      .rw[gn ∅]at c;exact zF d k (hw i (by simp)) ∅ c
  let r:=ng e s;let l:tl (lc m (j :: P))=tl (lc m (i :: W)):=L2 r.2;rw[gv r.1,pK d k q (W:=i :: W) (P:=j :: P) (by simp) (by simp) (λx n=>hw x<|.tail _ n) (λx n=>hp x<|.tail _ n) l]
def xY(x m:Str):io x m≠[]:=by
 unfold io;split
 .simp
 .split
  .simp
  .intro h;let:=Lu LD h;rw[KP]at this;simp at this
def EW{m:Str}(a:sK m=1)(x:Str):decide (sK x<sK m)=false:=by
 rw[a];unfold sK;split
 .rfl
 .split <;> rfl
def qZ{m:Str}{m0 m1:Lw Nat}{v:Nat}(c:tl m=m0++v :: m1)(k:v ∉ m0)(j:v ∉ m1)(i:sK m=1){W:Lw Str}(h:W≠[])(d:∀w∈W,v ∉ tl w):io (kt m W) m=W:=by
 let g:1<=⇑m:=by rw[←bf,c];simp;lia
 refine pK c k j h (xY _ _) d (λp f a b e=>?_) (by rw[join_split,gF]);let:=oj _ m g (EW i _) p f ⇑a (by rw[←bf p,e,eH,eH,bf];lia);rw[rZ e]at this;cases this
structure Gm(X:Cx)(N:Lw Str)(k:Nat)(fr:Lw Nat)(scope:C4)(cl:Lw (Str×AM)):Prop where
 clos:JY scope X.env=pure cl
 kind:scope.kind=.function
 names:∀y∈scope.names,y.2=.local->scope.names.lookup y.1=Lg .local
 len:N.length=k+⇑fr
 sub:∀(i:Nat)(y:Str),N[k+i]?=Lg y->∃j,fr[i]?=Lg j/\X.N[j]?=Lg y/\(X.env.kindOf y=Lg .cell\/X.env.kindOf y=Lg .free)/\((relabel scope X.env).names.lookup y=Lg .cell\/(relabel scope X.env).names.lookup y=Lg .free)/\∃c,cl.lookup y=Lg c/\∀C:AM,(JJ (C+1) scope.names cl).lookup y=Lg c
 cells:∀y c,cl.lookup y=Lg c->X.env.cells.lookup y=Lg c
 has:∀(C:AM)(y:Str),((relabel scope X.env).names.lookup y=Lg .cell\/(relabel scope X.env).names.lookup y=Lg .free)->∃c,(JJ (C+1) scope.names cl).lookup y=Lg c
section
variable{k:Nat}
end
section
variable{b₀:EV}{su:Lw EV}{tb:TSX}{ts:AM->AM->TS}{Tn:Str}{B:AM}
end
end _L
set_option Elab.async false
set_option maxRecDepth 100000
set_option linter.all false
open Lean Parser.Tactic in
local macro_rules(kind:=Lean.Parser.Tactic.obtain)|s=>do
 let p:=s[1][0]
 if p[0][0].getKind==``rcasesPat.tuple&&p[0][0][1].getNumArgs>3&&s[2].isNone then `(tactic|(show let G:Prop:=_;G;intro G;rcases $(⟨s[3][1][0]⟩):term with $(⟨p⟩):rcasesPatMed<;>(unfold G;clear G))) else Macro.throwUnsupported
open Lean Parser.Tactic in
local macro_rules(kind:=Lean.Parser.Tactic.rintro)|s=>do
 let a:=s[1].getArgs
 let n:=Syntax.node .none
 let some i:=a.findIdx? λp=>p[0].getKind==``rcasesPat.tuple&&p[0][1].getNumArgs>3|Macro.throwUnsupported
 let f:=λx:Array Syntax=>n s.getKind #[s[0],n `null x,s[2]]
 let m←`(tactic|(intro h;obtain $(⟨n ``rcasesPatMed #[n `null #[a[i]![0]]]⟩):rcasesPatMed := h))
 let m←if i=0 then pure m else `(tactic|($(⟨f a[:i]⟩);$m))
 if i+1=a.size then pure m else `(tactic|($m;$(⟨f a[i+1:]⟩)))
namespace _M
open PySem _L
inductive E2{α0 α1:Type}(p:α0->α1->Prop):Prop
 |mk (x0:α0)(x1:α1)(h:p x0 x1):E2 p
inductive E3{α0 α1 α2:Type}(p:α0->α1->α2->Prop):Prop
 |mk (x0:α0)(x1:α1)(x2:α2)(h:p x0 x1 x2):E3 p
inductive E4{α0 α1 α2 α3:Type}(p:α0->α1->α2->α3->Prop):Prop
 |mk (x0:α0)(x1:α1)(x2:α2)(x3:α3)(h:p x0 x1 x2 x3):E4 p
inductive E5{α0 α1 α2 α3 α4:Type}(p:α0->α1->α2->α3->α4->Prop):Prop
 |mk (x0:α0)(x1:α1)(x2:α2)(x3:α3)(x4:α4)(h:p x0 x1 x2 x3 x4):E5 p
inductive E6{α0 α1 α2 α3 α4 α5:Type}(p:α0->α1->α2->α3->α4->α5->Prop):Prop
 |mk (x0:α0)(x1:α1)(x2:α2)(x3:α3)(x4:α4)(x5:α5)(h:p x0 x1 x2 x3 x4 x5):E6 p
inductive E7{α0 α1 α2 α3 α4 α5 α6:Type}(p:α0->α1->α2->α3->α4->α5->α6->Prop):Prop
 |mk (x0:α0)(x1:α1)(x2:α2)(x3:α3)(x4:α4)(x5:α5)(x6:α6)(h:p x0 x1 x2 x3 x4 x5 x6):E7 p
inductive A3(p0 p1 p2:Prop):Prop
 |mk (h0:p0)(h1:p1)(h2:p2)
inductive A5(p0 p1 p2 p3 p4:Prop):Prop
 |mk (h0:p0)(h1:p1)(h2:p2)(h3:p3)(h4:p4)
inductive A6(p0 p1 p2 p3 p4 p5:Prop):Prop
 |mk (h0:p0)(h1:p1)(h2:p2)(h3:p3)(h4:p4)(h5:p5)
inductive A7(p0 p1 p2 p3 p4 p5 p6:Prop):Prop
 |mk (h0:p0)(h1:p1)(h2:p2)(h3:p3)(h4:p4)(h5:p5)(h6:p6)
def  top(i:Nat):EV:=PySem.Challenge.pw_rowjudge_k77_books_read.main.body.getD i<|.Pass (0,0,0,0,)
abbrev Y30:EV:=top 20
abbrev Y41:EV:=top 21
abbrev Y39:EV:=top 22
abbrev Y64:EV:=top 23
abbrev Y40:EV:=top 24
abbrev Y29:EV:=top 28
abbrev Y68:EV:=top 29
abbrev Y69:EV:=top 30
abbrev Y75:EV:=top 35
abbrev Y80:EV:=top 37
abbrev Y78:EV:=top 39
abbrev Y84:EV:=top 40
abbrev Y63:EV:=top 41
abbrev Y90:EV:=top 43
abbrev Y31:EV:=top 44
abbrev Y92:EV:=top 45
abbrev Y38:EV:=top 46
abbrev Y67:EV:=top 51
abbrev Y72:EV:=top 52
abbrev Y70:EV:=top 53
abbrev Y71:EV:=top 54
abbrev Y33:EV:=top 55
abbrev Y73:EV:=top 56
abbrev Y91:EV:=top 65
abbrev Y82:EV:=top 70
abbrev Y77:EV:=top 72
abbrev Y86:EV:=top 74
abbrev Y85:EV:=top 75
abbrev Y65:EV:=top 76
abbrev Y66:EV:=top 87
abbrev Y89:EV:=top 88
abbrev Y37:EV:=top 89
abbrev Y36:EV:=top 90
abbrev Y88:EV:=top 91
abbrev Y35:EV:=top 92
abbrev Y76:EV:=top 93
abbrev Y81:EV:=top 95
abbrev Y74:EV:=top 97
abbrev Y79:EV:=top 98
abbrev Y32:EV:=top 99
abbrev Y87:EV:=top 100
abbrev Y83:EV:=top 101
abbrev Y34:EV:=top 102
abbrev Y62:EV:=top 103
abbrev Y43:EV:=top 105
abbrev Y61:EV:=top 106
abbrev Y45:EV:=top 107
abbrev Y53:EV:=top 108
abbrev Y58:EV:=top 109
abbrev Y54:EV:=top 110
abbrev Y44:EV:=top 111
abbrev Y46:EV:=top 112
abbrev Y52:EV:=top 113
abbrev Y47:EV:=top 114
abbrev Y59:EV:=top 115
abbrev Y49:EV:=top 116
abbrev Y60:EV:=top 117
abbrev Y56:EV:=top 118
abbrev Y57:EV:=top 119
abbrev Y55:EV:=top 120
abbrev Y50:EV:=top 121
abbrev Y51:EV:=top 122
abbrev Y48:EV:=top 123
abbrev Y0:EV:=inClass (top 34) 0
abbrev Y9:EV:=inClass (top 86) 0
abbrev Y10:EV:=inClass (top 59) 0
abbrev Y20:EV:=inClass (top 58) 0
abbrev Y17:EV:=inClass (top 60) 0
abbrev Y24:EV:=inClass (top 58) 0
abbrev Y12:EV:=inClass (top 61) 0
abbrev Y22:EV:=inClass (top 58) 0
abbrev Y13:EV:=inClass (top 62) 0
abbrev Y23:EV:=inClass (top 58) 0
abbrev Y11:EV:=inClass (top 63) 0
abbrev Y21:EV:=inClass (top 58) 0
abbrev Y18:EV:=inClass (top 64) 0
abbrev Y25:EV:=inClass (top 58) 0
abbrev Y7:EV:=inClass (top 25) 9
abbrev Y8:EV:=inClass (top 25) 9
abbrev Y3:EV:=inClass (top 25) 6
abbrev Y16:EV:=inClass (top 26) 2
abbrev Y15:EV:=inClass (top 26) 1
abbrev Y5:EV:=inClass (top 25) 5
abbrev Y4:EV:=inClass (top 25) 6
abbrev Y28:EV:=inClass (top 27) 2
abbrev Y27:EV:=inClass (top 27) 1
abbrev Y19:EV:=inClass (top 69) 0
abbrev Y6:EV:=inClass (top 25) 5
abbrev Y26:EV:=inClass (top 27) 0
abbrev Y2:EV:=inClass (top 25) 0
abbrev Y14:EV:=inClass (top 26) 0
abbrev Y1:EV:=inClass (top 25) 0
abbrev Y42:EV:=top 124
def Z30:av ["text","signs","sign"] ["text","signs"] (aj Y30):=fsc
def Z41:av ["text"] ["text"] (aj Y41):=fsc
def Z39:av ["text","figures"] ["text"] (aj Y39):=fsc
def Z64:av ["text"] ["text"] (aj Y64):=fsc
def Z40:av ["value"] ["value"] (aj Y40):=fsc
def Z29:av ["one","other"] ["one","other"] (aj Y29):=fsc
def Z68:av ["text"] ["text"] (aj Y68):=fsc
def Z69:av ["text","ends","low","high"] ["text"] (aj Y69):=fsc
def Z75:av ["facts","tables"] ["facts","tables"] (aj Y75):=fsc
def Z80:av ["facts","tables","name","domain","names","table"] ["facts","tables"] (aj Y80):=fsc
def Z78:av ["facts","tables","due","table","name","domain"] ["facts","tables"] (aj Y78):=fsc
def Z84:av ["tables","left","names","waiting"] ["tables"] (aj Y84):=fsc
def Z63:av ["table","names"] ["table","names"] (aj Y63):=fsc
def Z90:av ["pairs","spans","low","high"] ["pairs"] (aj Y90):=fsc
def Z31:av ["ones","others","shared","at_one","at_other","one","other","low","high"] ["ones","others"] (aj Y31):=fsc
def Z92:av ["ones","others"] ["ones","others"] (aj Y92):=fsc
def Z38:av ["spans","low","high","free","start","first","last","end"] ["spans","low","high"] (aj Y38):=fsc
def Z67:av ["domain","text"] ["domain","text"] (aj Y67):=fsc
def Z72:av ["domain","text"] ["domain","text"] (aj Y72):=fsc
def Z70:av ["domain","part","code"] ["domain","part"] (aj Y70):=fsc
def Z71:av ["domain","part","ends","low","high"] ["domain","part"] (aj Y71):=fsc
def Z33:av ["domain","text"] ["domain","text"] (aj Y33):=fsc
def Z73:av ["domain","text"] ["domain","text"] (aj Y73):=fsc
def Z91:av ["name","way"] ["name"] (aj Y91):=fsc
def Z82:av ["names","name"] ["names"] (aj Y82):=fsc
def Z77:av ["names","rows"] ["names","rows"] (aj Y77):=fsc
def Z86:av ["way","outcome"] ["way","outcome"] (aj Y86):=fsc
def Z85:av ["domains","outcome","cells","code","domain","spans","low","high"] ["domains","outcome","cells","code"] (aj Y85):=fsc
def Z65:av ["cells","code"] ["cells","code"] (aj Y65):=fsc
def Z66:av ["text","lines","facts","drafts","line","named","domains","draft","cells","codes","tables"] ["text"] (aj Y66):=fsc
def Z89:av ["line","facts","drafts"] ["line","facts","drafts"] (aj Y89):=fsc
def Z37:av ["text","parts"] ["text"] (aj Y37):=fsc
def Z36:av ["text","named","columns","ending"] ["text"] (aj Y36):=fsc
def Z88:av ["text","parts"] ["text"] (aj Y88):=fsc
def Z35:av ["parts"] ["parts"] (aj Y35):=fsc
def Z76:av ["facts","drafts","draft"] ["facts","drafts"] (aj Y76):=fsc
def Z81:av ["facts","drafts","names","name","draft"] ["facts","drafts"] (aj Y81):=fsc
def Z74:av ["draft","names","name"] ["draft","names"] (aj Y74):=fsc
def Z79:av ["draft","fields","value"] ["draft"] (aj Y79):=fsc
def Z32:av ["draft","domains"] ["draft","domains"] (aj Y32):=fsc
def Z87:av ["draft","domains","fields"] ["draft","domains","fields"] (aj Y87):=fsc
def Z83:av ["draft","outcome","fields","value"] ["draft","outcome"] (aj Y83):=fsc
def Z34:av ["draft","outcome"] ["draft","outcome"] (aj Y34):=fsc
def Z62:av ["draft","domains","rows","columns"] ["draft","domains","rows"] (aj Y62):=fsc
def Z43:av ["script","k"] ["script","k"] (aj Y43):=fsc
def Z61:av ["cell","count","letters","head","tail"] ["cell","count"] (aj Y61):=fsc
def Z45:av ["cell","low","width","words"] ["cell"] (aj Y45):=fsc
def Z53:av ["domain","cell","width"] ["domain","cell"] (aj Y53):=fsc
def Z58:av ["kind","one","two","domain","parts"] ["kind","one","two","domain"] (aj Y58):=fsc
def Z54:av ["columns","domains","pools","own","cell","number","parts","k","one","two"] ["columns","domains","pools","own","cell"] (aj Y54):=fsc
def Z44:av ["script","facts","total","domains","pools","tables","own","cell","columns","way","k","table"] ["script"] (aj Y44):=fsc
def Z46:av ["domain"] ["domain"] (aj Y46):=fsc
def Z52:av ["domain","pair"] ["domain","pair"] (aj Y52):=fsc
def Z47:av ["domain","spans"] ["domain","spans"] (aj Y47):=fsc
def Z59:av ["domain","code"] ["domain","code"] (aj Y59):=fsc
def Z49:av ["plan","k","names","domains","tables","own","heads","tail"] ["plan","k"] (aj Y49):=fsc
def Z60:av ["plan","k","row","names","domains","tables","columns","fields","own"] ["plan","k","row"] (aj Y60):=fsc
def Z56:av ["found","domain"] ["found","domain"] (aj Y56):=fsc
def Z57:av ["found","plan","k","names","domains","tables","columns","own","j"] ["found","plan","k"] (aj Y57):=fsc
def Z55:av ["found","plan","order","names","domains","tables","first","k"] ["found","plan","order"] (aj Y55):=fsc
def Z50:av ["plan","order","names","domains","tables","lines","k"] ["plan","order"] (aj Y50):=fsc
def Z51:av ["k"] ["k"] (aj Y51):=fsc
def Z48:av ["heads","lines","found"] [] (aj Y48):=fsc
def Z0:av ["self","facts","tables"] ["self","facts","tables"] (aj Y0):=fsc
def Z9:av ["self","name","columns","domain","way"] ["self","name","columns","domain","way"] (aj Y9):=fsc
def Z10:av ["self"] ["self"] (aj Y10):=fsc
def Z20:av ["self","called"] ["self","called"] (aj Y20):=fsc
def Z17:av ["self"] ["self"] (aj Y17):=fsc
def Z24:av ["self","called"] ["self","called"] (aj Y24):=fsc
def Z12:av ["self"] ["self"] (aj Y12):=fsc
def Z22:av ["self","called"] ["self","called"] (aj Y22):=fsc
def Z13:av ["self"] ["self"] (aj Y13):=fsc
def Z23:av ["self","called"] ["self","called"] (aj Y23):=fsc
def Z11:av ["self"] ["self"] (aj Y11):=fsc
def Z21:av ["self","called"] ["self","called"] (aj Y21):=fsc
def Z18:av ["self"] ["self"] (aj Y18):=fsc
def Z25:av ["self","called"] ["self","called"] (aj Y25):=fsc
def Z7:av ["self"] ["self"] (aj Y7):=fsc
def Z8:av ["self"] ["self"] (aj Y8):=fsc
def Z3:av ["self","value"] ["self","value"] (aj Y3):=fsc
def Z16:av ["self","value"] ["self","value"] (aj Y16):=fsc
def Z15:av ["self","value"] ["self","value"] (aj Y15):=fsc
def Z5:av ["self","value"] ["self","value"] (aj Y5):=fsc
def Z4:av ["self","value"] ["self","value"] (aj Y4):=fsc
def Z28:av ["self","value"] ["self","value"] (aj Y28):=fsc
def Z27:av ["self","value"] ["self","value"] (aj Y27):=fsc
def Z19:av ["self","name","names","domains","outcome","way","rows","cells","code"] ["self","name","names","domains","outcome","way","rows"] (aj Y19):=fsc
def Z6:av ["self","value"] ["self","value"] (aj Y6):=fsc
def Z26:av ["self","words","word"] ["self","words"] (aj Y26):=fsc
def Z2:av ["self","low","high"] ["self","low","high"] (aj Y2):=fsc
def Z14:av ["self","low","high"] ["self","low","high"] (aj Y14):=fsc
def Z1:av ["self","low","high"] ["self","low","high"] (aj Y1):=fsc
def Z42:av ["script","empty","plan","order","found"] ["script"] (aj Y42):=fsc
structure AD where (a b c d e f g h i j k l m n o p q r s t u v:AM)
structure Bk(K:ac)(Y:AD):Prop where
 n_TableError:ls K Ca "TableError" = Lg ↑Y.a
 n_BadNumber:ls K Ca "BadNumber" = Lg ↑Y.b
 n_BadDomain:ls K Ca "BadDomain" = Lg ↑Y.c
 n_BadCell:ls K Ca "BadCell" = Lg ↑Y.d
 n_Outside:ls K Ca "Outside" = Lg ↑Y.e
 n_TooMany:ls K Ca "TooMany" = Lg ↑Y.f
 n_BadName:ls K Ca "BadName" = Lg ↑Y.g
 n_Unlike:ls K Ca "Unlike" = Lg ↑Y.h
 n_Ring:ls K Ca "Ring" = Lg ↑Y.i
 n_Way:ls K Ca "Way" = Lg ↑Y.j
 n_First:ls K Ca "First" = Lg ↑Y.k
 n_Only:ls K Ca "Only" = Lg ↑Y.l
 n_Like:ls K Ca "Like" = Lg ↑Y.m
 n_Low:ls K Ca "Low" = Lg ↑Y.n
 n_High:ls K Ca "High" = Lg ↑Y.o
 n_Sum:ls K Ca "Sum" = Lg ↑Y.p
 n_Domain:ls K Ca "Domain" = Lg ↑Y.q
 n_Numbers:ls K Ca "Numbers" = Lg ↑Y.r
 n_Words:ls K Ca "Words" = Lg ↑Y.s
 n_Table:ls K Ca "Table" = Lg ↑Y.t
 n_Book:ls K Ca "Book" = Lg ↑Y.u
 n_Draft:ls K Ca "Draft" = Lg ↑Y.v
 x_BadNumber:ExcCls K Y.b
 x_BadCell:ExcCls K Y.d
 x_Outside:ExcCls K Y.e
 x_TooMany:ExcCls K Y.f
 x_BadName:ExcCls K Y.g
 x_Unlike:ExcCls K Y.h
 x_Ring:ExcCls K Y.i
 l_BadNumber:js K Y.b
 l_BadCell:js K Y.d
 l_Outside:js K Y.e
 l_TooMany:js K Y.f
 l_BadName:js K Y.g
 l_Unlike:js K Y.h
 l_Ring:js K Y.i
 k_First:Cls K Y.k
 k_Only:Cls K Y.l
 k_Like:Cls K Y.m
 k_Low:Cls K Y.n
 k_High:Cls K Y.o
 k_Sum:Cls K Y.p
 k_Numbers:Cls K Y.r
 k_Words:Cls K Y.s
 k_Table:Cls K Y.t
 k_Book:Cls K Y.u
 k_Draft:Cls K Y.v
 t_First:nk K Y.k
 t_Only:nk K Y.l
 t_Like:nk K Y.m
 t_Low:nk K Y.n
 t_High:nk K Y.o
 t_Sum:nk K Y.p
 t_Numbers:nk K Y.r
 t_Words:nk K Y.s
 t_Table:nk K Y.t
 t_Book:nk K Y.u
 t_Draft:nk K Y.v
 na_First_called:NoAttr K Y.k "called"
 na_Only_called:NoAttr K Y.l "called"
 na_Like_called:NoAttr K Y.m "called"
 na_Low_called:NoAttr K Y.n "called"
 na_High_called:NoAttr K Y.o "called"
 na_Sum_called:NoAttr K Y.p "called"
 na_Numbers_low:NoAttr K Y.r "low"
 na_Numbers_high:NoAttr K Y.r "high"
 na_Numbers_words:NoAttr K Y.r "words"
 na_Words_low:NoAttr K Y.s "low"
 na_Words_high:NoAttr K Y.s "high"
 na_Words_words:NoAttr K Y.s "words"
 na_Table_name:NoAttr K Y.t "name"
 na_Table_names:NoAttr K Y.t "names"
 na_Table_domains:NoAttr K Y.t "domains"
 na_Table_outcome:NoAttr K Y.t "outcome"
 na_Table_way:NoAttr K Y.t "way"
 na_Table_rows:NoAttr K Y.t "rows"
 na_Book_facts:NoAttr K Y.u "facts"
 na_Book_tables:NoAttr K Y.u "tables"
 na_Draft_name:NoAttr K Y.v "name"
 na_Draft_columns:NoAttr K Y.v "columns"
 na_Draft_domain:NoAttr K Y.v "domain"
 na_Draft_way:NoAttr K Y.v "way"
 na_Draft_rows:NoAttr K Y.v "rows"
 f_nn:Mh K (.ref Y.r) (.ref Y.r)=Lg Li
 f_wn:Mh K (.ref Y.s) (.ref Y.r)=Lg Lj
 f_ww:Mh K (.ref Y.s) (.ref Y.s)=Lg Li
 f_tt:Mh K (.ref Y.t) (.ref Y.t)=Lg Li
 f_nw:Mh K (.ref Y.r) (.ref Y.s)=Lg Lj
 f_x1:Nt K (.ref Y.b) [.ref Y.b,.ref Y.e]=Lg Li
 f_x2:Nt K (.ref Y.e) [.ref Y.b,.ref Y.e]=Lg Li
structure Bl(K:ac)(mg:Str->Option zt)(Y:AD):Prop extends Bk K Y where
 TableError_:mg "TableError" = ↑Y.a
 BadNumber_:mg "BadNumber" = ↑Y.b
 BadDomain_:mg "BadDomain" = ↑Y.c
 BadCell_:mg "BadCell" = ↑Y.d
 Outside_:mg "Outside" = ↑Y.e
 TooMany_:mg "TooMany" = ↑Y.f
 BadName_:mg "BadName" = ↑Y.g
 Unlike_:mg "Unlike" = ↑Y.h
 Ring_:mg "Ring" = ↑Y.i
 Way_:mg "Way" = ↑Y.j
 First_:mg "First" = ↑Y.k
 Only_:mg "Only" = ↑Y.l
 Like_:mg "Like" = ↑Y.m
 Low_:mg "Low" = ↑Y.n
 High_:mg "High" = ↑Y.o
 Sum_:mg "Sum" = ↑Y.p
 Domain_:mg "Domain" = ↑Y.q
 Numbers_:mg "Numbers" = ↑Y.r
 Words_:mg "Words" = ↑Y.s
 Table_:mg "Table" = ↑Y.t
 Book_:mg "Book" = ↑Y.u
 Draft_:mg "Draft" = ↑Y.v
 len_:mg "len" = Lh
 int_:mg "int" = Lh
 isinstance_:mg "isinstance" = Lh
 bool_:mg "bool" = Lh
 set_:mg "set" = Lh
 dict_:mg "dict" = Lh
 zip_:mg "zip" = Lh
 sorted_:mg "sorted" = Lh
 max_:mg "max" = Lh
 min_:mg "min" = Lh
 list_:mg "list" = Lh
 enumerate_:mg "enumerate" = Lh
 range_:mg "range" = Lh
 str_:mg "str" = Lh
 MOST_SIGNS_:∃u,mg "MOST_SIGNS" = Lg u/\RelV (pi 12) u
 SMALL_LETTERS_:∃u,mg "SMALL_LETTERS" = Lg u/\RelV (NE "abcdefghijklmnopqrstuvwxyz") u
 MOST_FIGURES_:∃u,mg "MOST_FIGURES" = Lg u/\RelV (pi 60) u
 FIGURES_:∃u,mg "FIGURES" = Lg u/\RelV (NE "0123456789") u
 MOST_FACTS_:∃u,mg "MOST_FACTS" = Lg u/\RelV (pi 20) u
 MOST_TABLES_:∃u,mg "MOST_TABLES" = Lg u/\RelV (pi 30) u
 NOT_:∃u,mg "NOT" = Lg u/\RelV (NE "not ") u
 ALL_:∃u,mg "ALL" = Lg u/\RelV (NE "-") u
 UP_TO_:∃u,mg "UP_TO" = Lg u/\RelV (NE "..") u
 MOST_ROWS_:∃u,mg "MOST_ROWS" = Lg u/\RelV (pi 200) u
 MOST_COLUMNS_:∃u,mg "MOST_COLUMNS" = Lg u/\RelV (pi 4) u
 FACT_:∃u,mg "FACT" = Lg u/\RelV (NE "fact ") u
 TABLE_:∃u,mg "TABLE" = Lg u/\RelV (NE "table ") u
 WHEN_:∃u,mg "WHEN" = Lg u/\RelV (NE "when ") u
 NAMED_:∃u,mg "NAMED" = Lg u/\RelV (NE ": ") u
 TO_:∃u,mg "TO" = Lg u/\RelV (NE " -> ") u
 BY_:∃u,mg "BY" = Lg u/\RelV (NE " by ") u
 BETWEEN_NAMES_:∃u,mg "BETWEEN_NAMES" = Lg u/\RelV (NE ", ") u
 BETWEEN_FIELDS_:∃u,mg "BETWEEN_FIELDS" = Lg u/\RelV (NE " | ") u
 MOST_WORDS_:∃u,mg "MOST_WORDS" = Lg u/\RelV (pi 40) u
def p10(n:Nat):(0:Int)<10^n:=Int.pow_pos ⋯
def z0(a b:Int):atI [pi a,pi b] 0=Lg (pi a):=rfl
def z1(a b:Int):atI [pi a,pi b] 1=Lg (pi b):=rfl
def dS{H:Hp}{r:AM}{o:HO}{b:AM}{u:HO}(h:H r=Lg u)(n:H b=Lh):upd H b o r=Lg u:=by rw[ay (bG h n)];calc h
def zG{n:Nat}(h:0<n):ixN n (-1)=Lg (n-1):=by
 unfold ixN;rw[Lm ⋯,Lo ∅]
 congr 1
 lia
def zH{a:Type}(l:Lw a)(x y:a):(l++[x]).set (⇑(l++[x])-1) y=l++[y]:=by
 let e:⇑(l++[x])-1=⇑l:=by simp
 rw[e,List.set_append_right _ _<|sT _,we];rfl
def take_snoc{a:Type}{l:Lw a}{i:Nat}{x:a}(e:l[i]?=Lg x):l.take (i+1)=l.take i++[x]:=by rw[Ms,e];rfl
def xZ{qs:Lw (Int×Int)}(h:qs.Pairwise λp q=>ltP q p=Lj){i:Nat}{p:Int×Int}(e:qs[i]?=Lg p):∀q∈qs.take i,q.1<=p.1:=λq a=>by
 let(hi,rfl):=IV.mp e;let(j,b,rfl):=List.mem_take_iff_getElem.mp a;let z:=LV.mp h j i ∅ hi ∅;simp only[ltP,Mf,decide_eq_false_iff_not]at z;lia
def  lets:Str := "abcdefghijklmnopqrstuvwxyz"
def  isw(z:Str):Bool:=Lk ((1:Int)<=((⇑z:Nat):Int)) && (Lk (((⇑z:Nat):Int)<=12) && (!Lk (NE z=NE "not") && i4 z lets))
def Dv{l:Lw Nat}{i:Nat}{c:Nat}{p:Nat->Bool}(e:l[i]?=Lg c)(h:p c=Lj):l.all p=false:=by
 cases q:l.all p with
 |false=>rfl
 |true=>rw[iF.mp q c (IW e)]at h;cases h
def all_succ{l:Lw Nat}{i:Nat}{c:Nat}{p:Nat->Bool}(e:l[i]?=Lg c)(h:p c=Li)(a:(l.take i).all p=Li):(l.take<|i+1).all p=true:=by
 rw[take_snoc e,List.all_append,a];simp[h]
def zI{z g:Str}(h:(z.cps.toList.take z.cps.size).all (sg g)=Li):i4 z g=true:=by
 let e:z.cps.toList.take z.cps.size=z.cps.toList:=by rw[←xO];exact eY
 rw[e]at h;calc h
def Dx{g:Str}{c:Nat}(h:(!(!(EQ g ⟨#[c]⟩ 0 ⇑g 1).isEmpty))=Li):sg g c=false:=by unfold sg;simpa using h
def EY{g:Str}{c:Nat}(h:¬ (!(!(EQ g ⟨#[c]⟩ 0 ⇑g 1).isEmpty))=Li):sg g c=true:=by unfold sg;simpa using h
def big{n:Nat}(h:n<=1000):n<=A8:=ve<|aC h
def  mkd(C:AM)(H:Hp)(x a:AM)(lo hi:Int):Hp:=upd (upd H x<|.ins C a [("low",.int lo)]) x<|.ins C a [("low",.int lo),("high",.int hi)]
def put2(v u:V):bQ s!"high" u [(s!"low",v)]=[(s!"low",v),(s!"high",u)]:=by
 unfold bQ bQ;rw[Lm ⋯]
def put3(v u t:V):bQ s!"words" t [(s!"low",v),(s!"high",u)]=[(s!"low",v),(s!"high",u),(s!"words",t)]:=by
 unfold bQ bQ bQ;rw[Lm ⋯,Lm ⋯]
def  hiW(zs:Lw Str):Int:=((⇑zs:Nat):Int)-1
structure Good(zs:Lw Str):Prop where
 some_:1<=⇑zs
 few:⇑zs<=40
 words:∀z∈zs,isw z=Li
 once:zs.Nodup
def i6(zs:Lw Str):(zs.map NE).all dN=true:=by
 rw[List.all_map];calc iF.mpr λ_ _=>U
def bW{zs:Lw Str}{i:Nat}{x:V}(e:(zs.map NE)[i]?=Lg x):∃z,x=.str z/\zs[i]?=Lg z:=by
 rw[dV]at e;cases q:zs[i]? with
 |none=>rw[q]at e;cases e
 |some z=>rw[q]at e;cases e;calc(z,U,U,)
def gX{zs:Lw Str}{i:Nat}{z:Str}(e:zs[i]?=Lg z):(zs.map NE)[i]?=Lg (.str z):=by rw[dV,e];rfl
def  six:Lw Str:=[s!"first",s!"only",s!"like",s!"low",s!"high",s!"sum"]
def  WyN(C:AM)(H:Hp)(x:AM)(z:Str):Prop:=∃a,H x=Lg (.ins C a [("called",.str z)])
def WyN.same{C:AM}{H H':Hp}{x:AM}{z:Str}(h:WyN C H x z)(s:ak H H'):WyN C H' x z:=by let(a,e):=h;calc(a,s _ _ e,)
def  ya(C:AM)(z:Str):Sp:=λb H Q _=>∃(x a:AM),b=[.ref x]/\H x=Lg (.ins C a [])/\Q .non (upd H x<|.ins C a [("called",.str z)])
def fe:2<=A8:=⋯
def  cl6(a b c d e f:AM):Lw AM:=[a,b,c,d,e,f]
def  Dy(C:AM)(H:Hp)(a:AM)(lo hi:Int):Prop:=∃b fs,H a=Lg (.ins C b fs)/\fs.lookup s!"low"=Lg (.int lo)/\fs.lookup s!"high"=Lg (.int hi)/\fs.lookup s!"has_code"=Lh
def  Dom(cN cW:AM)(H:Hp)(a:AM)(b:Int×Int):Prop:=∃C,(C=cN\/C=cW)/\Dy C H a b.1 b.2
def Dom.same{cN cW:AM}{H H':Hp}{a:AM}{b:Int×Int}(h:Dom cN cW H a b)(s:ak H H'):Dom cN cW H' a b:=by let(C,c,d,fs,e,r):=h;calc(C,c,d,fs,s _ _ e,r,)
def  au{b:Type}(xs:Lw V)(c:Lw b)(P:AM->b->Prop):Prop:=⇑xs=⇑c/\∀(j:Nat)(a:b),c[j]?=Lg a->∃r,xs[j]?=↑r/\P r a
def au.mono{b:Type}{xs:Lw V}{c:Lw b}{P Q:AM->b->Prop}(h:au xs c P)(k:∀r a,P r a->Q r a):au xs c Q:=(h.1,λj a e=>let ⟨r,e1,p⟩:=h.2 j a e;(r,e1,k r a p,),)
def au.nil{b:Type}{P:AM->b->Prop}:au [] [] P:=(U,(λj a e=>by simp at e),)
def au.snoc{d:Type}{xs:Lw V}{c:Lw d}{P:AM->d->Prop}{r:AM}{a:d}(h:au xs c P)(p:P r a):au (xs++[.ref r]) (c++[a]) P:=by
 refine(by simp[h.1],λj b e=>?_,);by_cases g:j<⇑c
 .rw[gi g]at e;let(i,k,q):=h.2 j b e;exact(i,by rw[gi (by rw[h.1];exact g)];exact k,q,)
 .let f:j=⇑c:=by
   let:=(IV.mp e).1;simp at this;lia
  subst f;simp at e;subst e;calc(r,by rw[←h.1];simp,p,)
def au.get{c:Type}{xs:Lw V}{b:Lw c}{P:AM->c->Prop}(h:au xs b P){j:Nat}{x:V}(e:xs[j]?=Lg x):∃r a,x=.ref r/\b[j]?=Lg a/\P r a:=by
 let g:=(IV.mp e).1;let d:=IU (l:=b) (i:=j) (by rw[←h.1];exact g);let(r,f,p):=h.2 j _ d;rw[e]at f;cases f;calc(r,_,U,d,p,)
abbrev Prs:=List<|Int×Int
def  SpA(N:AM->Prop)(H:Hp)(l:AM)(ps:Prs):Prop:=N l/\∃a,H l=Lg (.lst a)/\PL H a ps
def  CL(N:AM->Prop)(H:Hp)(xs:Lw V)(pss:Lw Prs):Prop:=au xs pss<|SpA N H
abbrev Rw:=Lw Prs×Int
def  jt(N:AM->Prop)(H:Hp)(r:AM)(a:Rw):Prop:=∃b c,H r=Lg (.tup [.ref b,.int a.2])/\N b/\H b=Lg (.lst c)/\CL N H c a.1
def  RL(N:AM->Prop)(H:Hp)(xs:Lw V)(a:Lw Rw):Prop:=au xs a<|jt N H
def SpA.same{N:AM->Prop}{H H':Hp}{l:AM}{ps:Prs}(h:SpA N H l ps)(s:ak H H'):SpA N H' l ps:=by let(n,a,e,p):=h;calc(n,a,s _ _ e,p.mono s.tups,)
def CL.same{N:AM->Prop}{H H':Hp}{xs:Lw V}{pss:Lw Prs}(h:CL N H xs pss)(s:ak H H'):CL N H' xs pss:=au.mono h λ_ _ p=>p.same s
def jt.same{N:AM->Prop}{H H':Hp}{r:AM}{w:Rw}(h:jt N H r w)(s:ak H H'):jt N H' r w:=by let(b,a,e,n,f,c):=h;calc(b,a,s _ _ e,n,s _ _ f,c.same s,)
def RL.same{N:AM->Prop}{H H':Hp}{xs:Lw V}{a:Lw Rw}(h:RL N H xs a)(s:ak H H'):RL N H' xs a:=au.mono h λ_ _ p=>p.same s
abbrev NT:AM->Prop:=λ_=>True
def SpA.wk{N b:AM->Prop}{H:Hp}{l:AM}{ps:Prs}(h:SpA N H l ps)(k:∀a,N a->b a):SpA b H l ps:=(k _ h.1,h.2,)
def CL.wk{N b:AM->Prop}{H:Hp}{xs:Lw V}{pss:Lw Prs}(h:CL N H xs pss)(k:∀a,N a->b a):CL b H xs pss:=au.mono h λ_ _ p=>p.wk k
def jt.wk{N b:AM->Prop}{H:Hp}{r:AM}{w:Rw}(h:jt N H r w)(k:∀a,N a->b a):jt b H r w:=by let(g,d,e,n,f,c):=h;calc(g,d,e,k _ n,f,c.wk k,)
def SpA.updN{N:AM->Prop}{D:AM}{H:Hp}{l:AM}{ps:Prs}{zs:Lw V}{o:HO}(h:SpA N H l ps)(n:¬ N D)(e:H D=Lg (.lst zs)):SpA N (upd H D o) l ps:=by
 let(m,a,f,p):=h;calc(m,a,(ay<|λz=>n (by rw[←z];exact m)).trans f,p.mono<|bZ e,)
def CL.updN{N:AM->Prop}{D:AM}{H:Hp}{xs:Lw V}{pss:Lw Prs}{zs:Lw V}{o:HO}(h:CL N H xs pss)(n:¬ N D)(e:H D=Lg (.lst zs)):CL N (upd H D o) xs pss:=au.mono h λ_ _ p=>p.updN n e
def jt.updN{N:AM->Prop}{D:AM}{H:Hp}{r:AM}{w:Rw}{zs:Lw V}{o:HO}(h:jt N H r w)(n:¬ N D)(e:H D=Lg (.lst zs)):jt N (upd H D o) r w:=by
 let(b,a,f,m,g,c):=h;calc(b,a,(ay<|eB f e (by intro z;cases z)).trans f,m,(ay<|λz=>n (by rw[←z];exact m)).trans g,c.updN n e,)
def RL.updN{N:AM->Prop}{D:AM}{H:Hp}{xs:Lw V}{a:Lw Rw}{zs:Lw V}{o:HO}(h:RL N H xs a)(n:¬ N D)(e:H D=Lg (.lst zs)):RL N (upd H D o) xs a:=au.mono h λ_ _ p=>p.updN n e
def  Fr(H:Hp)(D:AM):AM->Prop:=λa=>H a=Lh/\a≠D
def Fr.out{H:Hp}{D:AM}:¬ Fr H D D:=λh=>h.2 U
structure IA(b:Int×Int)(zs:Lw Str):Prop where
 le:b.1<=b.2
 ws:zs≠[]->Good zs/\b=(0,hiW zs)
structure oq(bs:Prs)(o:Int×Int)(w:Rw):Prop where
 len:⇑w.1=⇑bs
 inn:∀(j:Nat)(ps:Prs)(b:Int×Int),w.1[j]?=Lg ps->bs[j]?=Lg b->∀p∈ps,b.1<=p.1/\p.2<=b.2
 lo:o.1<=w.2
 hi:w.2<=o.2
def  Gn(pss:Lw Prs)(cs:Lw Int):Bool:=(bn ⇑cs).all λj=>inP (pss.getD j [])<|cs.getD j 0
def pf1(b a:V):bQ s!"names" a [(s!"name",b)]=[(s!"name",b),(s!"names",a)]:=by
 unfold bQ bQ;rw[Lm ⋯]
def pf2(c b a:V):bQ s!"domains" a [(s!"name",c),(s!"names",b)]=[(s!"name",c),(s!"names",b),(s!"domains",a)]:=by
 unfold bQ bQ bQ;rw[Lm ⋯,Lm ⋯]
def pf3(d c b a:V):bQ s!"outcome" a [(s!"name",d),(s!"names",c),(s!"domains",b)]=[(s!"name",d),(s!"names",c),(s!"domains",b),(s!"outcome",a)]:=by
 unfold bQ bQ bQ bQ;rw[Lm ⋯,Lm ⋯,Lm ⋯]
def pf4(e d c b a:V):bQ s!"way" a [(s!"name",e),(s!"names",d),(s!"domains",c),(s!"outcome",b)]=[(s!"name",e),(s!"names",d),(s!"domains",c),(s!"outcome",b),(s!"way",a)]:=by
 unfold bQ bQ bQ bQ bQ;rw[Lm ⋯,Lm ⋯,Lm ⋯,Lm ⋯]
def pf5(f e d c b a:V):bQ s!"rows" a [(s!"name",f),(s!"names",e),(s!"domains",d),(s!"outcome",c),(s!"way",b)]=[(s!"name",f),(s!"names",e),(s!"domains",d),(s!"outcome",c),(s!"way",b),(s!"rows",a)]:=by
 unfold bQ bQ bQ bQ bQ bQ;rw[Lm ⋯,Lm ⋯,Lm ⋯,Lm ⋯,Lm ⋯]
def  hide(H:Hp)(x:AM):Hp:=λb=>if b=x then Lh else H b
def cx{H:Hp}{x b:AM}{o:HO}(e:H b=Lg o)(n:b≠x):hide H x b=Lg o:=by unfold hide;rw[Lm n];calc e
def q8{H H':Hp}{x:AM}(k:∀b o,b≠x->H b=Lg o->H' b=Lg o):ak (hide H x) H':=λb o e=>by
 unfold hide at e;by_cases h:b=x
 .rw[Lo h]at e;cases e
 .rw[Lm h]at e;calc k b o h e
def PL.hide{H:Hp}{x C c:AM}{fs:Lw (Str×V)}(a:H x=Lg (.ins C c fs)){ys:Lw V}{ps:Prs}(h:PL H ys ps):PL (hide H x) ys ps :=
 h.mono λb d e=>cx e<|eB e a (by intro z;cases z)
def RL.hide{H:Hp}{x C i:AM}{fs:Lw (Str×V)}(b:H x=Lg (.ins C i fs)){xs:Lw V}{a:Lw Rw}(h:RL NT H xs a):RL NT (_M.hide H x) xs a :=
 au.mono h λr w (k,j,e,_,f,c,)=>⟨k,j,cx e<|eB e b (by intro z;cases z),trivial,cx f<|eB f b (by intro z;cases z),au.mono c λl m (_,d,g,p,)=>(trivial,d,cx g<|eB g b (by intro z;cases z),PL.hide b p,)⟩
def  wcs(c k:Int):Lw Nat:=py (c / 26%6).toNat (97+(c%26).toNat)++([97+(k / 7%7).toNat,97+(k%7).toNat]++py (k%5).toNat (97+(c / 156%26).toNat))
def  wd(c k:Int):Str:=⟨(wcs c k).toArray⟩
def Dz{c:Nat}(h:97<=c/\c<=122):sg lets c=true:=by
 let:∀d:Nat,d<26->sg lets (97+d)=true:= ~~~0
 let z:=this (c-97) ∅;rw[show 97+(c-97)=c by lia]at z;calc z
def mM{s:Str}{n:Nat}(h:s.cps.toList=(bn n).map (97 + ·)){k:Int}(c:0<=k)(b:k<n):atI s.cps.toList k=Lg (97+k.toNat):=by
 let a:k.toNat<n:=∅
 let z:s.cps.toList[k.toNat]?=Lg (97+k.toNat):=by rw[h,dV,oA a];rfl
 let q:=aU z;rw[show((k.toNat:Nat):Int)=k by lia]at q;calc q
def zJ:s!"abcdefghijklmnopqrstuvwxyz".cps.toList=(bn 26).map (97 + ·):= ~~~0
abbrev SI:=Str×Int
def  tp(p:SI):Lw V:=[.str p.1,.int p.2]
def  msk(f:Nat->Bool):Nat->Nat
 |0=>0
 |n+1=>(if f n then 2^n else 0)+msk f n
def  fl(a:Lw Rw)(cs:Lw Int):Lw Int:=(a.filter λw=>Gn w.1 cs).map (·.2)
def wR{K:ac}{H:Hp}{n:Nat}{a b:AM}{xs ys:Lw V}(g:SqL K H a xs)(d:SqL K H b ys)(c:⇑xs=⇑ys)(h:∀(j:Nat)(x y:V),xs[j]?=Lg x->ys[j]?=Lg y->DEq K H n x y Li):DEq K H (n+1) (.ref a) (.ref b) true:=by
 by_cases e:a=b
 .subst e;exact .same a
 .let:=DEq.lst (f:=λ_=>Li) e g d c h;rw[show(bn ⇑xs).all (λ_=>Li)=Li by simp]at this;calc this
def wU{K:ac}{H:Hp}{n:Nat}{a b:AM}{xs ys:Lw V}(g:SqT K H a xs)(d:SqT K H b ys)(c:⇑xs=⇑ys)(h:∀(j:Nat)(x y:V),xs[j]?=Lg x->ys[j]?=Lg y->DEq K H n x y Li):DEq K H (n+1) (.ref a) (.ref b) true:=by
 by_cases e:a=b
 .subst e;exact .same a
 .let:=DEq.tup (f:=λ_=>Li) e g d h;rw[show((bn<|min ⇑xs ⇑ys).all (λ_=>Li) && ⇑xs == ⇑ys)=Li by simp[c]]at this;calc this
def se{K:ac}{H:Hp}{n:Nat}(i:Int):DEq K H n (.int i) (.int i) true:=by
 let:=DEq.flat (K:=K) (H:=H) (n:=n) (x:=.int i) (y:=.int i) U U;rw[show eqV (.int i) (.int i)=Li by simp[eqV]]at this;calc this
def DA{K:ac}{H:Hp}{n:Nat}{xs ys:Lw V}{ps:Prs}(h:PL H xs ps)(h':PL H ys ps)(j:Nat)(x y:V)(i:xs[j]?=Lg x)(g:ys[j]?=Lg y):DEq K H (n+1) x y true:=by
 let(u,r,f,rfl,e):=h.get i;let(k,l,b,rfl,d):=h'.get g;rw[f]at b;cases b;refine wU (Nx e) (Nx d) U λj x y a c=>?_
 rw[a]at c;cases c
 match j,a with
 |0,a=>cases a;exact se _
 |1,a=>cases a;exact se _
 |j+2,a=>simp at a
def Bx{K:ac}{H:Hp}{r k:AM}{w:Rw}(h:jt NT H r w)(h':jt NT H k w):DEq K H 60 (.ref r) (.ref k) true:=by
 let(I,G,q,_,p,o):=h;let(C,B,g,_,f,d):=h';refine wU (n:=59) (Nx q) (Nx g) U λj x y a b=>?_
 match j,a,b with
 |0,a,b =>
  cases a;cases b;refine wR (n:=58) (Nw p) (Nw f) (by rw[o.1,d.1]) λj x y t s=>?_
  let(l,E,rfl,u,_,D,v,m):=au.get o t;let(F,A,rfl,e,_,z,i,c):=au.get d s;rw[u]at e;cases e;exact wR (n:=57) (Nw v) (Nw i) (by rw[⇑m,⇑c]) (DA (n:=56) m c)
 |1,a,b=>cases a;cases b;exact se _
 |j+2,a,b=>simp at a
def yb{K:ac}{H:Hp}{Q:VK}{a b:AM}{xs ys:Lw V}(e:SqL K H a xs)(d:SqL K H b ys)(c:⇑xs=⇑ys)(h:∀(j:Nat)(x y:V),xs[j]?=Lg x->ys[j]?=Lg y->DEq K H 60 x y Li)(q:Q (.bl Li) H):zi K Lj (.ref a) (.ref b) H Q:=by
 calc(a,b,xs,ys,U,U,e,d,.inr (c,λ_=>Li,h,?_,),);rw[show(bn ⇑xs).all (λ_=>Li)=Li by simp];calc q
def zK{K:ac}{H:Hp}{xs ys:Lw V}{a:Lw Rw}(h:RL NT H xs a)(h':RL NT H ys a)(j:Nat)(x y:V)(g:xs[j]?=Lg x)(f:ys[j]?=Lg y):DEq K H 60 x y true:=by
 let(r,w,rfl,e,d):=au.get h g;let(k,i,rfl,b,c):=au.get h' f;rw[e]at b;cases b;calc Bx d c
structure Col where
 prs:Prs
 w:Bool
 sd:Int
structure Ch(ps:Prs):Prop where
 le:∀(i:Nat)(p:Int×Int),ps[i]?=Lg p->p.1<=p.2
 nxt:∀(i:Nat)(p q:Int×Int),ps[i]?=Lg p->ps[i+1]?=Lg q->q.1=p.2+1
structure IB(c:Col):Prop where
 some_:1<=⇑c.prs
 few:⇑c.prs<=6
 ch:Ch c.prs
 w0:c.w=Li->∀p,c.prs[0]?=Lg p->p.1=0
 wl:c.w=Li->∀(i:Nat)(p:Int×Int),c.prs[i]?=Lg p->p.2<40
def  Col.lo(c:Col):Int:=(c.prs.headD (0,0)).1
def  Col.hi(c:Col):Int:=(c.prs.getLastD (0,0)).2
def  Col.b(c:Col):Int×Int:=(c.lo,c.hi)
structure Srt(ps:Prs):Prop where
 le:∀(i:Nat)(p:Int×Int),ps[i]?=Lg p->p.1<=p.2
 lt:∀(i j:Nat)(p q:Int×Int),i<j->ps[i]?=Lg p->ps[j]?=Lg q->p.2<q.1
structure Gp(prs:Prs)(b n:Nat)(ps:Prs):Prop where
 srt:Srt ps
 iff:∀x:Int,inP ps x=Li↔∃(k:Nat)(p:Int×Int),k<n/\prs[k]?=Lg p/\b.testBit k=Li/\p.1<=x/\x<=p.2
def  mrg(a:Prs)(b:Nat):Nat->Prs
 |0=>[]
 |n+1=>if b.testBit n then(if (Lk (0<n) && b.testBit (n-1)) then(mrg a b n).dropLast++[(((mrg a b n).getLastD (0,0)).1,(a.getD n (0,0)).2)]else mrg a b n++[a.getD n (0,0)])else mrg a b n
abbrev BW:=Lw Nat×Int
def  vN(bs:Lw Nat):Lw V:=bs.map λb:Nat=>pi (b:Int)
def kh(bs:Lw Nat):⇑(vN bs)=⇑bs:=by unfold vN;rw[ck]
def zL{bs:Lw Nat}{j b:Nat}(e:bs[j]?=Lg b):(vN bs)[j]?=Lg (.int (b:Int)):=by unfold vN;rw[dV,e];rfl
def wV{bs:Lw Nat}{j:Nat}{x:V}(e:(vN bs)[j]?=Lg x):∃b:Nat,x=.int (b:Int)/\bs[j]?=Lg b:=by
 unfold vN at e;rw[dV]at e;cases q:bs[j]? with
 |none=>rw[q]at e;cases e
 |some b=>rw[q]at e;cases e;calc(b,U,U,)
structure IC(cs:Lw Col)(o:Col)(w:BW):Prop where
 len:⇑w.1=⇑cs
 lt:∀(j b:Nat)(c:Col),w.1[j]?=Lg b->cs[j]?=Lg c->b<2^⇑c.prs
 lo:o.lo<=w.2
 hi:w.2<=o.hi
structure II(cs:Lw Col)(w:BW)(x:Rw):Prop where
 code:x.2=w.2
 len:⇑x.1=⇑cs
 sp:∀(j:Nat)(ps:Prs)(c:Col)(b:Nat),x.1[j]?=Lg ps->cs[j]?=Lg c->w.1[j]?=Lg b->Gp c.prs b ⇑c.prs ps
 is:∀(j:Nat)(ps:Prs)(c:Col)(b:Nat),x.1[j]?=Lg ps->cs[j]?=Lg c->w.1[j]?=Lg b->ps=mrg c.prs b ⇑c.prs
def  grow(a:Lw (Lw Nat))(n:Nat):Lw (Lw Nat):=a.flatMap λp=>(bn n).map λk=>p++[k]
def  prm{a:Type}(os:Lw Nat)(xs:Lw a):Lw a:=os.filterMap (xs[·]?)
structure Pm(os:Lw Nat)(n:Nat):Prop where
 len:⇑os=n
 lt:∀k∈os,k<n
 nd:os.Nodup
 all:∀k,k<n->k∈os
def ud{a:Type}{o:Nat}{os:Lw Nat}{xs:Lw a}(h:o<⇑xs):prm (o :: os) xs=xs[o] :: prm os xs:=by
 unfold prm;rw[kW,IU h]
def cz{b:Type}:∀{os:Lw Nat}{xs:Lw b},(∀k∈os,k<⇑xs)->⇑(prm os xs)=⇑os/\∀(j k:Nat),os[j]?=Lg k->(prm os xs)[j]?=xs[k]?
 | [],xs,_=>(U,λj k e=>by simp at e,)
 |o :: os,xs,h=>by
  let(g,d):=cz (os:=os) (xs:=xs) λk c=>h k<|fj _ c
  let a:=h o gs;rw[ud a];refine(by rw[ig,ig,g],λj k f=>?_,)
  match j,f with
  |0,f =>
   let:o=k:= ~~~f
   subst this;rw[IU a];rfl
  |j+1,f=>calc d j k (~~~f)
def pL{a:Type}{os:Lw Nat}{k:Nat}{xs:Lw a}{x:a}(e:xs[k]?=Lg x):prm (os++[k]) xs=prm os xs++[x]:=by
 unfold prm;rw[List.filterMap_append];simp[e]
def By{a b:Type}(f:a->b)(os:Lw Nat)(xs:Lw a):prm os (xs.map f)=(prm os xs).map f:=by
 unfold prm;rw[List.map_filterMap]
 congr 1
 funext k
 rw[dV]
def wW{a:Type}{os:Lw Nat}{xs:Lw a}{x:a}(h:x∈prm os xs):x∈xs:=by
 unfold prm at h;let(k,_,e):=oD.mp h;calc IW e
def q9{a:Type}{xs:Lw a}(h:xs.Nodup){i j:Nat}{x:a}(e:xs[i]?=Lg x)(f:xs[j]?=Lg x):i=j:=by
 let(hi,d):=IV.mp e;let(b,c):=IV.mp f;let p:=LV.mp<|Gc.mp h;rcases v5 i j with q|q|q
 .exact Lp (d.trans c.symm)<|p i j hi b q
 .exact q
 .exact Lp (c.trans d.symm)<|p j i b hi q
def yc{g:Type}{os:Lw Nat}{xs:Lw g}(a:os.Nodup)(i:xs.Nodup)(d:∀k∈os,k<⇑xs):(prm os xs).Nodup:=by
 induction os with
 |nil=>exact ny
 |cons o os h =>
  rw[hE]at a;let hi:=h a.2 λk b=>d k<|fj _ b
  let e:=d o gs;rw[ud e,hE];calc(λc=>?_,hi,);unfold prm at c;let(k,b,f):=oD.mp c;let:k=o:=q9 i f<|IU e;subst this;calc a.1 b
def  TF(j:AM)(H:Hp)(t:AM)(nm f:Str)(g:AM)(zs:Lw Str)(i:Lw V)(b:Lw Rw):Prop:=∃(c h d e:AM)(fs:Lw (Str×V))(a:Lw V),H t=Lg (.ins j h fs)/\fs.lookup s!"rows"=↑c/\fs.lookup s!"name"=Lg (.str nm)/\fs.lookup s!"way"=Lg (.str f)/\fs.lookup s!"outcome"=↑g/\fs.lookup s!"names"=↑d/\fs.lookup s!"domains"=↑e/\H d=Lg (.lst<|zs.map NE)/\H e=Lg (.lst i)/\H c=Lg (.lst a)/\RL NT H a b/\⇑a<=200
def TF.same{g:AM}{H H':Hp}{t:AM}{nm d:Str}{e:AM}{zs:Lw Str}{f:Lw V}{a:Lw Rw}(h:TF g H t nm d e zs f a)(s:ak H H'):TF g H' t nm d e zs f a:=by
 let(j,x,k,y,fs,i,w,v,u,q,p,o,n,m,l,c,b,r):=h;calc(j,x,k,y,fs,i,s _ _ w,v,u,q,p,o,n,s _ _ m,s _ _ l,s _ _ c,b.same s,r,)
structure TOk(cN cW:AM)(H:Hp)(nm wy:Str)(ou:AM)(zs:Lw Str)(dv:Lw V)(rws:Lw Rw)(bs:Prs)(o:Int×Int):Prop where
 words:∀z∈nm :: zs,isw z=Li
 once:(nm :: zs).Nodup
 one:1<=⇑zs
 four:⇑zs<=4
 way:wy∈six
 sum:wy=s!"sum" -> ∃dx fs,H ou=Lg (.ins cN dx fs)
 doms:au dv bs (Dom cN cW H)
 out:Dom cN cW H ou o
 len:⇑bs=⇑zs
 rows:∀w∈rws,oq bs o w
 few:⇑rws<=200
def ue{H:Hp}{D:AM}{o:HO}:hide (upd H D o) D=hide H D:=by
 funext b
 unfold hide;by_cases h:b=D
 .rw[Lo h,Lo h]
 .rw[Lm h,Lm h,ay h]
def i7{H H':Hp}{D:AM}(s:ak H H'):ak (hide H D) (hide H' D):=λb o e=>by
 unfold hide at e⊢;by_cases h:b=D
 .rw[Lo h]at e;cases e
 .rw[Lm h]at e⊢;calc s b o e
def si(H:Hp)(D:AM):ak (hide H D) H:=λb o e=>by
 unfold hide at e;by_cases h:b=D
 .rw[Lo h]at e;cases e
 .rw[Lm h]at e;calc e
def  pM(C:AM)(H:Hp)(a:AM)(zs:Lw Str):Prop:=∃b l,H a=Lg (.ins C b [("low",.int 0),("high",.int<|hiW zs),("words",.ref l)])/\H l=Lg (.lst<|zs.map NE)
def  jX(C:AM)(H:Hp)(a:AM)(lo hi:Int):Prop:=∃b,H a=Lg (.ins C b [("low",.int lo),("high",.int hi)])
def pM.same{C:AM}{H H':Hp}{a:AM}{zs:Lw Str}(h:pM C H a zs)(s:ak H H'):pM C H' a zs:=by let(b,l,e,f):=h;calc(b,l,s _ _ e,s _ _ f,)
def jX.same{C:AM}{H H':Hp}{a:AM}{lo hi:Int}(h:jX C H a lo hi)(s:ak H H'):jX C H' a lo hi:=by let(b,e):=h;calc(b,s _ _ e,)
def  bnd(i:Int):Prop:=i.natAbs<10^60
def zM{l:Lw Nat}(j:1<=⇑l)(i:⇑l<=12)(f:∀x∈l,97<=x/\x<=122)(d:l≠[110,111,116]):isw ⟨l.toArray⟩=true:=by
 let c:i4 ⟨l.toArray⟩ lets=true:=by
  unfold i4;rw[iF];intro x a;exact Dz<|f x<|~~~a
 let b:¬ (NE ⟨l.toArray⟩=NE s!"not"):=λh=>by
  injection h with h;let e:s!"not" = ⟨[110,111,116].toArray⟩:= ~~~0
  rw[e]at h;injection h with h;exact d<|~~~Lu Mq h
 let g:⇑(⟨l.toArray⟩:Str)=⇑l:=by simp[wS]
 unfold isw;rw[c,Lq (show(1:Int)<=((⇑(⟨l.toArray⟩:Str):Nat):Int) by lia),Lq (show((⇑(⟨l.toArray⟩:Str):Nat):Int)<=12 by lia)];show(Li && (Li && (!Lk (NE ⟨l.toArray⟩=NE s!"not") && Li)))=Li;rw[Lr b];rfl
def EZ:s!"abcdefgh".cps.toList=(bn 8).map (97 + ·):= ~~~0
def  pz(t:Int):Lw Nat:=[122,117,118].take t.toNat
def gu{i:Int}(h:bnd i):i.natAbs.log2<1920:=by
 by_cases a:i.natAbs=0
 .rw[a];decide
 .refine(Nat.log2_lt a).mpr ?_;let k:(10^60:Nat)<=2^200:=⋯
  let b:(2:Nat)^200<=2^1920:=Nh ⋯ ⋯;unfold bnd at h;calc tN h<|tm k b
def len_num{i:Int}(h:bnd i):⇑(lm<|toString i)<=61:=by
 let e:⇑(lm<|toString i)=⇑(toString i):=by
  rw[Ly];show(List.map No (toString i).toList).toArray.size=_;rw[eG,ck];exact M0
 rw[e];calc KC ⋯ h
def E8{k:Int}(b:0<=k)(a:k<40):bnd k:=by
 unfold bnd;let e:(40:Nat)<=10^60:=⋯
 generalize (10^60:Nat)=W at e⊢;lia
abbrev Dk:=Option (Lw Str)×Int×Int
def  dE(cN cW:AM)(H:Hp)(d:AM)(k:Dk):Prop:=match k.1 with
 |none=>jX cN H d k.2.1 k.2.2
 |some a=>pM cW H d a/\k.2.1=0/\k.2.2=hiW a/\Good a
def dE.same{cN cW:AM}{H H':Hp}{d:AM}{k:Dk}(h:dE cN cW H d k)(s:ak H H'):dE cN cW H' d k:=by
 let(w,lo,hi):=k;cases w with
 |none=>exact jX.same h s
 |some a=>calc(h.1.same s,h.2,)
def  pN(zs:Lw Str)(lo hi:Option Int):Lw Str:=(zs.drop<|HT.sIx ⇑zs 0 lo).take<|HT.sIx ⇑zs ⇑zs hi-HT.sIx ⇑zs 0 lo
def zN(zs:Lw Str)(lo hi:Option Int):xB (zs.map NE) lo hi=(pN zs lo hi).map NE:=by
 unfold xB pN;rw[ck,List.map_take,List.map_drop]
def uf(zs:Lw Str)(lo hi:Option Int):⇑(pN zs lo hi)<=⇑zs:=by
 unfold pN;rw[fK,mu];lia
def mO{zs:Lw Str}{lo hi:Option Int}{z:Str}(h:z∈pN zs lo hi):z∈zs:=List.mem_of_mem_drop<|md h
structure DB(k:Dk)(p:Pr):Prop where
 lo:k.2.1<=p.1
 le:p.1<=p.2
 hi:p.2<=k.2.2
 b1:bnd p.1
 b2:bnd p.2
def  GdK(k:Dk):Prop:=match k.1 with
 |none=>True
 |some a=>Good a
def eW{z:Str}(h:isw z=Li):⇑z<=12:=by
 unfold isw at h;simp only[wF,decide_eq_true_eq]at h;lia
def zO{zs:Lw Str}{m:Nat}(h:∀z∈zs,⇑z<=m):(zs.map (·.length)).sum<=⇑zs*m:=by
 induction zs with
 |nil=>simp
 |cons z zs a =>
  let d:=h z (by simp);let c:=a λy b=>h y<|fj _ b
  rw[gy,so,ig,wc];lia
def iA{zs:Lw Str}{m n:Nat}(h:∀z∈zs,⇑z<=m)(a:⇑zs<=n)(b:n*m+n*64<=16777216):(zs.map (·.length)).sum+⇑zs*64<=16777216:=by
 let e:=zO h;let d:⇑zs*m<=n*m:=vr m a;let c:⇑zs*64<=n*64:=vr 64 a;lia
def  pairEq(p q:Pr):Bool:=eqV (.int p.1) (.int q.1) && eqV (.int p.2) (.int q.2)
def vB(p q:Pr):pairEq p q=Lk (p=q):=by
 let(a,b):=p;let(c,d):=q;unfold pairEq eqV;by_cases e:a=c
 .by_cases f:b=d
  .subst e f;simp
  .simp[e,f]
 .simp[e]
def zP{K:ac}{H:Hp}{Q:VK}{a b t u:AM}{p q:Pr}(k:SqL K H a [.ref t])(i:SqL K H b [.ref u])(g:H t=Lg (.tup [.int p.1,.int p.2]))(f:H u=Lg (.tup [.int q.1,.int q.2]))(h:Q (.bl<|Lk<|p=q) H):tS K Lj (.ref a) (.ref b) H Q:=by
 refine(a,b,_,_,U,U,k,i,.inr (U,λ_=>pairEq p q,λj x y c d=>?_,?_,),)
 .match j,c,d with
  |0,c,d =>
   cases c;cases d;let:=EqI.tup (K:=K) (Nx g) (Nx f) U U;let e:(Lk (⇑([pi p.1,.int p.2]:Lw V)=⇑([pi q.1,.int q.2]:Lw V)) && (nn eqV [pi p.1,.int p.2] [pi q.1,.int q.2]).all id)=pairEq p q:=by
    unfold pairEq;simp
   rw[e]at this;exact this
  |j+1,c,d=>simp at c
 .show Q (.bl<|(bn 1).all λ_=>pairEq p q) H;let e:((bn 1).all λ_=>pairEq p q)=Lk (p=q):=by rw[←vB];simp[iG]
  rw[e];calc h
def  shN(lo hi:Int)(p:Pr):Str:=if p.1=p.2 then lm (toString p.1)else if p.1=lo then s!".." ++ lm (toString p.2)else if p.2=hi then lm (toString p.1)++s!".." else lm (toString p.1)++s!".." ++ lm (toString p.2)
def lL:s!"..".length=2:= ~~~0
def aW(a b:Str):⇑(a++b)=⇑a+⇑b:=by
 show⇑(wp a b)=_;unfold wp wS;simp
def wX{lo hi:Int}{p:Pr}(d:bnd p.1)(c:bnd p.2):⇑(shN lo hi p)<=200:=by
 let a:=len_num d;let b:=len_num c;unfold shN;split
 .lia
 .split
  .rw[aW,lL];lia
  .split
   .rw[aW,lL];lia
   .rw[aW,aW,lL];lia
def  hcs(c:Int):Lw Nat:=(bn (c%6).toNat).map λj:Nat=>97+(c / (3*(0+(j:Int))+1)%13).toNat
def  tcs(c:Int):Lw Nat:=(bn (c / 7%6).toNat).map λj:Nat=>97+(c / (5*(0+(j:Int))+2)%13).toNat
def  lwc(c k:Int):Lw Nat:=hcs c++([97+((c / 11+3*k)%26).toNat]++tcs c)
def  lw(c k:Int):Str:=⟨(lwc c k).toArray⟩
def  lws(c:Int)(n:Nat):Lw Str:=(bn n).map λj:Nat=>lw c<|0+(j:Int)
def zQ(c:Int)(n:Nat):lws c (n+1)=lws c n++[lw c (0+(n:Int))]:=by unfold lws;rw[iG,eg];rfl
def kQ(c:Int)(n:Nat):⇑(lws c n)=n:=by unfold lws;simp
def ju{c k:Int}{x:Nat}(h:x∈lwc c k):(97<=x/\x<=109)\/x=97+((c / 11+3*k)%26).toNat:=by
 unfold lwc at h;rcases eA.mp h with h|h
 .unfold hcs at h;let(j,_,rfl):=dn.mp h;let:=wh (c / (3*(0+(j:Int))+1)) (show(0:Int)<13 by decide);lia
 .rcases eA.mp h with h|h
  .exact .inr<|~~~h
  .unfold tcs at h;let(j,_,rfl):=dn.mp h;let:=wh (c / (5*(0+(j:Int))+2)) (show(0:Int)<13 by decide);lia
def oU(c:Int):⇑(hcs c)<=5:=by
 unfold hcs;rw[ck,lC];let:=wh c (show(0:Int)<6 by decide);lia
def oV(c:Int):⇑(tcs c)<=5:=by
 unfold tcs;rw[ck,lC];let:=wh (c / 7) (show(0:Int)<6 by decide);lia
def zR(c k:Int):isw (lw c k)=true:=by
 let g:=oU c;let f:=oV c;let e:=wh (c / 11+3*k) (show(0:Int)<26 by decide);refine zM (by unfold lwc;simp;lia) (by unfold lwc;simp;lia) (λx d=>?_) (λh=>?_)
 .rcases ju d with d|d <;> lia
 .let a:(110:Nat)∈lwc c k:=by rw[h];simp
  let b:(111:Nat)∈lwc c k:=by rw[h];simp
  rcases ju a with a|a
  .lia
  .rcases ju b with b|b <;> lia
def DC{c k a:Int}(h:0<=k)(g:k<8)(f:0<=a)(b:a<8)(e:lw c k=lw c a):k=a:=by
 unfold lw at e;injection e with e;let e:lwc c k=lwc c a:= ~~~Lu Mq e
 unfold lwc at e;let e:=L2 e;injection e with j i;let:=wg (c / 11+3*k) (show(26:Int)≠0 by decide);let:=wg (c / 11+3*a) (show(26:Int)≠0 by decide);generalize c / 11=d at *
 lia
def rg{c:Int}{n:Nat}(h:n<=8):(lws c n).Nodup:=by
 unfold lws;rw[Gc,Mt];calc Mp (R:=λa b=>a≠b) (λ{a b} f d g e=>?_) List.nodup_range;let f:=ia.mp f;let d:=ia.mp d;let:=DC ∅ ∅ ∅ ∅ e;lia
def wY{c:Int}{n:Nat}{z:Str}(hz:z∈lws c n):isw z=true:=by
 unfold lws at hz;let(j,_,rfl):=dn.mp hz;calc zR _ _
def zS{c:Int}{n:Nat}(d:1<=n)(b:n<=8):Good (lws c n):=(by rw[kQ];exact d,by rw[kQ];lia,λz a=>wY a,rg b,)
def pO:∀xs:Lw Nat,kt s!"" (xs.map λx=>(⟨#[x]⟩:Str))=⟨xs.toArray⟩:=λxs=>by
 rw[show kt s!"" (xs.map λx=>(⟨#[x]⟩:Str))=s!"".join (xs.map λx=>(⟨#[x]⟩:Str))from MM _ _];let c:s!"" = tz:= ~~~0
 rw[c];induction xs with
 |nil=>rfl
 |cons x xs b =>
  cases xs with
  |nil=>rfl
  |cons y a =>
   show(⟨#[x]⟩:Str)++tz++lc tz ((y :: a).map λx=>(⟨#[x]⟩:Str))=_;rw[b];show wp (wp _ _) _=_;unfold wp tz;simp
def ug(xs:Lw Nat)(h:⇑xs<=5):((xs.map λx=>(⟨#[x]⟩:Str)).map (·.length)).sum+⇑(xs.map λx=>(⟨#[x]⟩:Str))*64<=16777216 :=
 iA (m:=1) (n:=5) (λz a=>by let(x,_,rfl):=dn.mp a;exact sT 1) (by rw[ck];exact h) ⋯
structure PD where
 lo:Int
 hi:Int
 ws:Lw Str
def  PDA(N:AM->Prop)(H:Hp)(r:AM)(p:PD):Prop:=∃l:AM,N r/\N l/\H r=Lg (.tup [.int p.lo,.int p.hi,.ref l])/\H l=Lg (.lst<|p.ws.map NE)
def PDA.same{N:AM->Prop}{H H':Hp}{r:AM}{p:PD}(h:PDA N H r p)(s:ak H H'):PDA N H' r p:=by let(l,n,m,e,f):=h;calc(l,n,m,s _ _ e,s _ _ f,)
def PDA.wk{N a:AM->Prop}{H:Hp}{r:AM}{p:PD}(h:PDA N H r p)(w:∀x,N x->a x):PDA a H r p:=by let(l,n,m,e,f):=h;calc(l,w _ n,w _ m,e,f,)
def  PD.k(p:PD):Dk:=(if p.ws=[]then Lh else Lg p.ws,p.lo,p.hi)
structure jv(p:PD):Prop where
 le:p.lo<=p.hi
 wd:p.ws≠[]->Good p.ws/\p.lo=0/\p.hi=hiW p.ws
 bd:∀x:Int,p.lo<=x->x<=p.hi->bnd x
def p30:(10:Int)^(30:Int).toNat=((10^30:Nat):Int):=⋯
def p29:(10:Int)^(29:Int).toNat=((10^29:Nat):Int):=⋯
def zT{x:Int}(b : -((10^31:Nat):Int)<=x)(a:x<=((10^31:Nat):Int)):bnd x:=by
 unfold bnd;let k:(10^31:Nat)<10^60:=⋯
 generalize (10^31:Nat)=A at b a k;generalize (10^60:Nat)=W at k⊢;lia
def lW{i j:Int}(h:0<j)(a:j<1000):Em i j:=(h,∅,)
def pl1{H:Hp}{t l:AM}{a b:Int}(d:H t=Lh)(c:upd H t (.tup [.int a,.int b]) l=Lh):ak H (upd (upd H t<|.tup [.int a,.int b]) l<|.lst [.ref t])/\upd (upd H t<|.tup [.int a,.int b]) l (.lst [.ref t]) l=Lg (.lst [.ref t])/\PL (upd (upd H t<|.tup [.int a,.int b]) l<|.lst [.ref t]) [.ref t] [(a,b)] :=
 ((ah d _).trans<|ah c _,af,.cons (t,U,ah c _ _ _ af,) .nil,)
def pl2{H:Hp}{t u l:AM}{a b c d:Int}(g:H t=Lh)(f:upd H t (.tup [.int a,.int b]) u=Lh)(e:upd (upd H t<|.tup [.int a,.int b]) u (.tup [.int c,.int d]) l=Lh):ak H (upd (upd (upd H t<|.tup [.int a,.int b]) u<|.tup [.int c,.int d]) l<|.lst [.ref t,.ref u])/\upd (upd (upd H t<|.tup [.int a,.int b]) u<|.tup [.int c,.int d]) l (.lst [.ref t,.ref u]) l=Lg (.lst [.ref t,.ref u])/\PL (upd (upd (upd H t<|.tup [.int a,.int b]) u<|.tup [.int c,.int d]) l<|.lst [.ref t,.ref u]) [.ref t,.ref u] [(a,b),(c,d)] :=
 (((ah g _).trans<|ah f _).trans<|ah e _,af,.cons (t,U,ah e _ _ _<|ah f _ _ _ af,)<|.cons (u,U,ah e _ _ _ af,) .nil,)
def  PoA(N:AM->Prop)(H:Hp)(a:AM)(p:PD):Prop:=N a/\∃b:Lw Int,H a=Lg (.lst<|b.map pi)/\⇑b=3/\∀x∈b,p.lo<=x/\x<=p.hi
def PoA.same{N:AM->Prop}{H H':Hp}{a:AM}{p:PD}(h:PoA N H a p)(s:ak H H'):PoA N H' a p:=by let(n,b,e,r):=h;calc(n,b,s _ _ e,r,)
def PoA.pick{N:AM->Prop}{H:Hp}{a:AM}{p:PD}(h:PoA N H a p){K:ac}(m:Int):∃xs x,SqL K H a xs/\atI xs (m%3)=Lg (.int x)/\p.lo<=x/\x<=p.hi:=by
 let(_,xs,e,j,f):=h;let c:=wg m (show(3:Int)≠0 by decide);let i:=wh m (show(0:Int)<3 by decide);let(k,g):∃k:Nat,m%3=(k:Int):=(_,(wA c).symm,);let d:k<⇑xs:=∅
 let b:=IU d;calc(_,xs[k],Nw e,?_,f _<|IW b,);rw[g];calc aU (by rw[dV,b];rfl)
structure sj(ds:Lw PD)(cols:Lw Nat)(ow:Nat)(w:Rw):Prop where
 len:⇑w.1=⇑cols
 inn:∀(j k:Nat)(ps:Prs)(p:PD),w.1[j]?=Lg ps->cols[j]?=Lg k->ds[k]?=Lg p->∀x∈ps,p.lo<=x.1/\x.1<=x.2/\x.2<=p.hi
 few:∀ps∈w.1,⇑ps<=2
 code:∀p,ds[ow]?=Lg p->p.lo<=w.2/\w.2<=p.hi
 ap:∀ps∈w.1,Apart ps
def PDA.updN{N:AM->Prop}{H:Hp}{r D:AM}{p:PD}{zs:Lw V}{o:HO}(h:PDA N H r p)(n:¬ N D)(e:H D=Lg (.lst zs)):PDA N (upd H D o) r p:=by
 let(l,b,a,f,g):=h;calc(l,b,a,(ay<|eB f e (by intro z;cases z)).trans f,(ay<|λ(z:l=D)=>n (by rw[←z];exact a)).trans g,)
def PoA.updN{N:AM->Prop}{H:Hp}{r D:AM}{p:PD}{o:HO}(h:PoA N H r p)(n:¬ N D):PoA N (upd H D o) r p:=by
 let(a,b,f,g):=h;calc(a,b,(ay<|λ(z:r=D)=>n (by rw[←z];exact a)).trans f,g,)
def PoA.any{N:AM->Prop}{H:Hp}{r:AM}{p:PD}(h:PoA N H r p):PoA NT H r p:=(trivial,h.2,)
def  hideL(H:Hp)(F:Lw AM):Hp:=λb=>if b∈F then Lh else H b
def cI{H:Hp}{F:Lw AM}{b:AM}{o:HO}(e:H b=Lg o)(n:b ∉ F):hideL H F b=Lg o:=by unfold hideL;rw[Lm n];calc e
def dU(H:Hp)(F:Lw AM):ak (hideL H F) H:=λb o e=>by
 unfold hideL at e;by_cases h:b∈F
 .rw[Lo h]at e;cases e
 .rw[Lm h]at e;calc e
def gY{H H':Hp}{F:Lw AM}(s:ak H H'):ak (hideL H F) (hideL H' F):=λb o e=>by
 by_cases h:b∈F
 .unfold hideL at e;rw[Lo h]at e;cases e
 .exact cI (s b o<|dU H F b o e) h
def ja{H:Hp}{F:Lw AM}{D:AM}{o:HO}(h:D∈F):hideL (upd H D o) F=hideL H F:=by
 funext b
 unfold hideL;by_cases a:b∈F
 .rw[Lo a,Lo a]
 .rw[Lm a,Lm a];calc ay λz=>a (by rw[z];exact h)
def vC{H H':Hp}{F:Lw AM}(s:ak H H')(n:∀D∈F,H D=Lh):ak H (hideL H' F):=λb o e=>cI (s b o e) λa=>by rw[n b a]at e;cases e
def pP{H:Hp}{F:Lw AM}(c:∀D∈F,∃zs,H D=Lg (.lst zs)):gD H (hideL H F):=λb t e=>cI e λa=>by
 let(zs,d):=c b a;rw[d]at e;cases e
def jt.hideL{H d:Hp}{F:Lw AM}{r:AM}{w:Rw}(h:jt (λa=>H a=Lh) d r w)(k:∀D∈F,∃zs,H D=Lg (.lst zs))(s:ak H d):jt NT (_M.hideL d F) r w:=by
 let(v,u,e,n,f,c):=h;let b:∀D∈F,∃zs,d D=Lg (.lst zs):=λD t=>let ⟨zs,i⟩:=k D t;(zs,s _ _ i,)
 let out:∀x,H x=Lh->x ∉ F:=λx j q=>by let(zs,i):=k x q;rw[i]at j;cases j
 calc(v,u,pP b _ _ e,trivial,cI f<|out _ n,au.mono c λl y h=>?_,);let(p,m,g,o):=h;calc(trivial,m,cI g<|out _ p,o.mono<|pP b,)
def  TT(H:Hp)(r:AM)(t:(Lw Nat×Str)×AM):Prop:=∃a:AM,H r=Lg (.tup [.ref a,.str t.1.2,.ref t.2])/\H a=Lg (.lst<|vN t.1.1)
def TT.same{H H':Hp}{r:AM}{t:(Lw Nat×Str)×AM}(h:TT H r t)(s:ak H H'):TT H' r t:=by let(a,e,f):=h;calc(a,s _ _ e,s _ _ f,)
structure DD(fN:Nat)(ds:Lw PD)(j:Nat)(t:Lw Nat×Str):Prop where
 some_:1<=⇑t.1
 few:⇑t.1<=3
 lt:∀k∈t.1,k<fN+j
 nd:t.1.Nodup
 way:t.2∈six
 sum:t.2=s!"sum" -> ∀p,ds[fN+j]?=Lg p->p.ws=[]
def  clm(c:Int)(ow:Nat)(m:Nat):Lw Nat:=(bn m).map λj:Nat=>((c / 3+(0+(j:Int)))%(ow:Int)).toNat
def DE{c:Int}{ow m:Nat}(h:1<=ow):∀k∈clm c ow m,k<ow:=λk a=>by
 unfold clm at a;let(j,_,rfl):=dn.mp a;let b:=wh (c / 3+(0+(j:Int))) (show(0:Int)<(ow:Int) by lia);let d:=wg (c / 3+(0+(j:Int))) (show(ow:Int)≠0 by lia);lia
def yd{x i j n:Int}(k:0<=i)(g:i<n)(f:0<=j)(d:j<n)(e:(x+i)%n=(x+j)%n):i=j:=by
 let c:∀a b:Int,0<=a->a<n->0<=b->b<n->b<=a->(x+a)%n=(x+b)%n->a=b:=λa b p o m b1 l e=>by
  let h:=Int.emod_eq_emod_iff_emod_sub_eq_zero.mp e;rw[show x+a-(x+b)=a-b by lia,Int.emod_eq_of_lt ∅ ∅]at h;lia
 by_cases h:j<=i
 .exact c i j k g f d h e
 .exact(c j i f d k g ∅ e.symm).symm
def DF{c:Int}{ow m:Nat}(h:1<=ow)(k:m<=ow):(clm c ow m).Nodup:=by
 unfold clm;rw[Gc,Mt];calc Mp (R:=λa b=>a≠b) (λ{a b} f d g e=>?_) List.nodup_range;let f:=ia.mp f;let d:=ia.mp d;let o:=wg (c / 3+(0+(a:Int))) (show(ow:Int)≠0 by lia);let l:=wg (c / 3+(0+(b:Int))) (show(ow:Int)≠0 by lia);let:=yd (x:=c / 3) (i:=0+(a:Int)) (j:=0+(b:Int)) (n:=(ow:Int)) ∅ ∅ ∅ ∅ ∅;lia
def sk(c:Int)(ow m:Nat):⇑(clm c ow m)=m:=by unfold clm;simp
def zU(c:Int)(ow m:Nat):vN (clm c ow<|m+1)=vN (clm c ow m)++[.int ((((c / 3+(0+(m:Int)))%(ow:Int)).toNat:Nat):Int)]:=by
 unfold clm vN;rw[iG,eg,eg];rfl
structure PT where
 cols:Lw Nat
 way:Str
 rows:Lw Rw
def  PTA(H:Hp)(r:AM)(t:PT):Prop:=∃(c b:AM)(a:Lw V),H r=Lg (.tup [.ref c,.str t.way,.ref b])/\H c=Lg (.lst<|vN t.cols)/\H b=Lg (.lst a)/\RL NT H a t.rows
def PTA.same{H H':Hp}{r:AM}{t:PT}(h:PTA H r t)(s:ak H H'):PTA H' r t:=by let(c,b,a,e,f,g,k):=h;calc(c,b,a,s _ _ e,s _ _ f,s _ _ g,k.same s,)
structure Gq(fN:Nat)(ds:Lw PD)(j:Nat)(t:PT):Prop where
 ok:DD fN ds j (t.cols,t.way)
 rows:∀w∈t.rows,sj ds t.cols (fN+j) w
 few:⇑t.rows<=200
def  PlA(H:Hp)(r:AM)(zs:Lw Str)(ds:Lw PD)(f:Lw PT):Prop:=∃(c e a:AM)(d b:Lw V),H r=Lg (.tup [.ref c,.ref e,.ref a])/\H c=Lg (.lst<|zs.map NE)/\H e=Lg (.lst d)/\au d ds (PDA NT H)/\H a=Lg (.lst b)/\au b f (PTA H)
def PlA.same{H H':Hp}{r:AM}{zs:Lw Str}{ds:Lw PD}{b:Lw PT}(h:PlA H r zs ds b)(s:ak H H'):PlA H' r zs ds b:=by
 let(d,m,a,l,c,k,j,i,f,g,e):=h;calc(d,m,a,l,c,s _ _ k,s _ _ j,s _ _ i,au.mono f<|λ_ _ p=>p.same s,s _ _ g,au.mono e λ_ _ p=>p.same s,)
structure fk(zs:Lw Str)(ds:Lw PD)(ts:Lw PT)(fN:Nat):Prop where
 words:∀z∈zs,isw z=Li
 nd:zs.Nodup
 len:⇑zs=⇑ds
 n7:⇑ds<=7
 tab:fN+⇑ts=⇑ds
 some_:1<=⇑ts
 doms:∀p∈ds,jv p
 tabs:∀(j:Nat)(t:PT),ts[j]?=Lg t->Gq fN ds j t
def nu{H c:Hp}{F d:Lw AM}(h:∀b o,b ∉ F->H b=Lg o->c b=Lg o/\b ∉ d):ak (hideL H F) (hideL c d):=λb o e=>by
 by_cases a:b∈F
 .unfold hideL at e;rw[Lo a]at e;cases e
 .let(g,f):=h b o a<|dU H F b o e;calc cI g f
def  rls(a:Lw ((Lw Nat×Str)×AM)):Lw AM:=a.map (·.2)
def zV(a:Lw ((Lw Nat×Str)×AM))(t:(Lw Nat×Str)×AM):rls (a++[t])=rls a++[t.2]:=by unfold rls;rw[eg];rfl
def Bz{c:Int}{ow:Nat}(a:1<=ow):∃m:Nat,(if (ow:Int)<1+c%3 then(ow:Int)else 1+c%3)=(m:Int)/\1<=m/\m<=3/\m<=ow:=by
 let d:=wg c (show(3:Int)≠0 by decide);let b:=wh c (show(0:Int)<3 by decide);calc((if (ow:Int)<1+c%3 then(ow:Int)else 1+c%3).toNat,?_,?_,?_,?_,) <;> split <;> lia
def oW{a:Lw ((Lw Nat×Str)×AM)}{j:Nat}{t:(Lw Nat×Str)×AM}(e:a[j]?=Lg t):(rls a)[j]?=Lg t.2:=by unfold rls;rw[dV,e];rfl
def oX{a:Lw ((Lw Nat×Str)×AM)}{j:Nat}{t:(Lw Nat×Str)×AM}(e:a[j]?=Lg t):t.2∈rls a:=IW<|oW e
def  mkT(t:(Lw Nat×Str)×AM)(a:Lw Rw):PT:=(t.1.1,t.1.2,a,)
def  RwI(H:Hp)(F:Lw AM)(fN:Nat)(ds:Lw PD)(d:Lw ((Lw Nat×Str)×AM))(a:Lw (Lw Rw))(n:Nat):Prop:=⇑a=⇑d/\∀(j:Nat)(t:(Lw Nat×Str)×AM)(b:Lw Rw),d[j]?=Lg t->a[j]?=Lg b->(∃c,H t.2=Lg (.lst c)/\RL NT (hideL H F) c b)/\(∀w∈b,sj ds t.1.1 (fN+j) w)/\⇑b<=n
def RwI.grow{H e:Hp}{fN n d:Nat}{ds:Lw PD}{b:Lw ((Lw Nat×Str)×AM)}{c:Lw (Lw Rw)}{t:(Lw Nat×Str)×AM}{f:Lw Rw}{zs:Lw V}{r:AM}{w:Rw}(h:RwI H (rls b) fN ds b c n)(q:(rls b).Nodup)(s:ak H e)(g:b[d]?=Lg t)(v:c[d]?=Lg f)(I:H t.2=Lg (.lst zs))(hz:RL NT (hideL H<|rls b) zs f)(A:jt NT (hideL e<|rls b) r w)(C:sj ds t.1.1 (fN+d) w):RwI (upd e t.2<|.lst<|zs++[.ref r]) (rls b) fN ds b (c.set d<|f++[w]) (n+1):=by
 refine(by rw[List.length_set];exact h.1,λj y p k i=>?_,);let B:hideL (upd e t.2<|.lst<|zs++[.ref r]) (rls b)=hideL e (rls b):=ja<|oX g;rw[B];by_cases l:d=j
 .subst l;rw[g]at k;cases k;rw[L5 (IV.mp v).1]at i;cases i;let(_,m,D):=h.2 d t f g v;refine((_,af,au.snoc (hz.same<|gY s) A,),λu a=>?_,by rw[eH,iU];lia,);rcases eA.mp a with a | a
  .exact m u a
  .rw[show u=w by simpa using a];exact C
 .rw[Me l]at i;let((o,F,E),m,D):=h.2 j y p k i;calc((o,(ay λz=>?_).trans<|s _ _ F,E.same<|gY s,),m,∅,);let x:=oW k;let G:=oW g;rw[z]at x;calc l<|q9 q G x
abbrev ofS:=lm
def fB(a b c:Str):a++b++c=a++(b++c):=by
 show wp (wp a b) c=wp a (wp b c);unfold wp;simp[Nl]
def rh{sep:Str}:∀{A B:Lw Str},A≠[]->B≠[]->lc sep (A++B)=lc sep A++sep++lc sep B
 | [],_,h,_=>Lp U h
 | [x],b :: B,_,_=>rfl
 | [_],[],_,h=>Lp U h
 |x :: y :: A,B,_,hB=>by
  let a:=rh (sep:=sep) (A:=y :: A) (B:=B) (by simp) hB;show x++sep++lc sep ((y :: A)++B)=(x++sep++lc sep (y :: A))++sep++lc sep B;rw[a];simp only[fB]
def wZ{sep:Str}:∀{L:Lw (Lw Str)},(∀l∈L,l≠[])->lc sep L.flatten=lc sep (L.map<|lc sep)
 | [],_=>rfl
 | [l],h=>by rw[kH,List.flatten_nil,jV];rfl
 |l :: m :: L,h=>by
  let b:=wZ (sep:=sep) (L:=m :: L) λx c=>h x<|fj _ c
  let a:(m :: L).flatten≠[]:=λe=>by
   let d:=h m (by simp);rw[kH]at e;exact d (M3.mp e).1
  rw[kH,rh (h l (by simp)) a,b];rfl
def mP(sep:Str)(zs:Lw Str):kt sep zs=lc sep zs:=MM _ _
def BA{zs:Lw Str}{p:Pr}(i:0<=p.1)(h:p.1<=p.2)(g:p.2<=hiW zs):pN zs (Lg p.1) (Lg<|p.2+1)≠[]:=λe=>by
 let c:=Lu LD e;unfold pN hiW at *
 let(a,f):∃a:Nat,p.1=(a:Int):=(p.1.toNat,∅,);let(b,d):∃b:Nat,p.2=(b:Int):=(p.2.toNat,∅,);rw[f,d,show(b:Int)+1=((b+1:Nat):Int) by lia,HT.sIx_nat,HT.sIx_nat,fK,mu]at c;simp at c;lia
def  BB(zs:Lw Str)(p:Pr):Lw Str:=pN zs (Lg p.1)<|Lg<|p.2+1
def  rj(k:Dk)(p:Pr):Str:=match k.1 with
 |some a=>kt (ofS ", ")<|BB a p
 |none=>shN k.2.1 k.2.2 p
def  bg(k:Dk)(ps:Prs):Str:=if ps=[]then ofS "not -" else if ps=[k.2]then ofS "-" else kt (ofS ", ") (ps.map<|rj k)
def  cR(k:Dk):Str:=match k.1 with
 |some a=>kt (ofS ", ") a
 |none=>lm (toString k.2.1)++ofS ".." ++ lm (toString k.2.2)
structure gZ(k:Dk)(ps:Prs):Prop where
 few:⇑ps<=2
 inn:∀p∈ps,DB k p
 gd:GdK k
 w0:∀zs,k.1=Lg zs->k.2=(0,hiW zs)
def uh{zs:Lw Str}{b:Pr}{ps:Prs}(ok:gZ (Lg zs,b) ps):kt (ofS ", ") (ps.map<|rj (Lg zs,b))=kt (ofS ", ") (ps.map<|BB zs).flatten:=by
 let e:=ok.w0 zs U;rw[mP,mP,wZ,hJ]
 .congr 1
  apply pb
  intro p _;exact mP _ _
 .intro l d;let(p,c,rfl):=dn.mp d;let h:=ok.inn p c;let a:b=(0,hiW zs):=e;calc BA (by have:=h.lo;rw[a]at this;exact this) h.le (by have:=h.hi;rw[a]at this;exact this)
def ui{zs:Lw Str}{ps:Prs}{z:Str}(h:z∈(ps.map<|BB zs).flatten):z∈zs:=by
 let(l,b,a):=qi.mp h;let(p,_,rfl):=dn.mp b;calc mO a
def lX{sep:Str}{zs:Lw Str}{m n:Nat}(a:⇑sep<=3)(h:∀z∈zs,⇑z<=m)(b:⇑zs<=n):⇑(kt sep zs)<=n*(m+3):=by
 let f:=StrLaws.join_length_le sep zs;rw[mP];let e:=zO h;let d:⇑zs*⇑sep<=⇑zs*3:=Nat.mul_le_mul_left _ a;let c:⇑zs*(m+3)<=n*(m+3):=vr _ b;rw[Nat.mul_add]at c;lia
def rm{k:Dk}{p:Pr}(ok:DB k p)(a:GdK k):⇑(rj k p)<=600:=by
 let(w,lo,hi):=k;cases w with
 |none=>exact tm (wX ok.b1 ok.b2) ⋯
 |some zs =>
  let a:Good zs:=a;let:=lX (sep:=ofS ", ") (zs:=BB zs p) (m:=12) (n:=40) (~~~0) (λz b=>eW<|a.words z<|mO b)<|tm (uf ..) a.few;calc this
def lY{k:Dk}{ps:Prs}(ok:gZ k ps):⇑(bg k ps)<=1206:=by
 unfold bg;split
 .exact tm (show⇑(ofS "not -")<=5 by decide+kernel) ⋯
 .split
  .exact tm (show⇑(ofS "-")<=5 by decide+kernel) ⋯
  .exact lX (m:=600) (n:=2) (~~~0) (λz a=>by
    let(p,b,rfl):=dn.mp a;exact rm (ok.inn p b) ok.gd) (by rw[ck];exact ok.few)
def nA{k:Dk}(c:GdK k)(b1:bnd k.2.1)(b2:bnd k.2.2):⇑(cR k)<=600:=by
 let(w,lo,hi):=k;cases w with
 |none =>
  let a:=len_num b1;let b:=len_num b2;show⇑(lm (toString lo)++ofS ".." ++ lm (toString hi))<=600;rw[aW,aW,lL];let a:⇑(lm<|toString lo)<=61:=a;let b:⇑(lm<|toString hi)<=61:=b;lia
 |some d =>
  let c:Good d:=c;calc lX (m:=12) (n:=40) (~~~0) (λz e=>eW<|c.words z e) c.few
def ye{K:ac}{H:Hp}{Q:VK}{a b u:AM}{c:Lw V}{ps:Prs}{q:Pr}(i:SqL K H a c)(d:PL H c ps)(l:SqL K H b [.ref u])(m:H u=Lg (.tup [.int q.1,.int q.2]))(h:Q (.bl<|Lk<|ps=[q]) H):tS K Lj (.ref a) (.ref b) H Q:=by
 let g:=⇑d;by_cases j:⇑ps=1
 .match ps,j,d,h with
  | [p],_,d,h =>
   let(x,f):∃x,c[0]?=Lg x:=(_,IU (by rw[g];exact Nat.one_pos),);let(r,t,o,rfl,n):=d.get f;cases o;let k:c=[.ref t]:=by
    match c,g,f with
    | [y],_,f=>cases f;rfl
   rw[k]at i;calc zP i l n m ?_;let e:decide (p=q)=Lk ([p]=[q]):=by
    rw[pr,Lv,Lv];constructor
    .intro z;rw[z]
    .intro z;injection z
   rw[e];exact h
 .let e:decide (ps=[q])=false:=Lr λz=>j (by rw[z];rfl)
  rw[e]at h;calc(a,b,_,_,U,U,i,l,.inl (by rw[g];exact j,h,),)
def BC{K:ac}{H:Hp}{Q:VK}{a b:AM}{c:Lw V}(g:SqL K H a c)(f:SqL K H b [])(h:Q (.bl<|Lk<|c=[]) H):tS K Lj (.ref a) (.ref b) H Q:=by
 by_cases d:c=[]
 .subst d;exact(a,b,_,_,U,U,g,f,.inr (U,λ_=>Li,(λj x y e=>by simp at e),h,),)
 .rw[Lr d]at h;calc(a,b,_,_,U,U,g,f,.inl (λz=>d<|iv.mp z,h,),)
def jv.gd{p:PD}(ok:jv p):GdK p.k:=by
 unfold PD.k;by_cases h:p.ws=[]
 .rw[Lo h];trivial
 .rw[Lm h];calc(ok.wd h).1
def jv.b1{p:PD}(ok:jv p):bnd p.k.2.1:=ok.bd _ (pp _) ok.le
def jv.b2{p:PD}(ok:jv p):bnd p.k.2.2:=ok.bd _ ok.le<|pp _
def jv.cell{p:PD}(ok:jv p){ps:Prs}(g:⇑ps<=2)(i:∀x∈ps,p.lo<=x.1/\x.1<=x.2/\x.2<=p.hi):gZ p.k ps:=by
 refine(g,λx f=>?_,ok.gd,λl e=>?_,)
 .let(d,j,c):=i x f;exact(d,j,c,ok.bd _ d ∅,ok.bd _ ∅ c,)
 .unfold PD.k at e⊢;by_cases h:p.ws=[]
  .rw[Lo h]at e;cases e
  .rw[Lm h]at e;cases e;let(_,a,b):=ok.wd h;show(p.lo,p.hi)=(0,hiW p.ws);rw[a,b]
def PD.k_none{p:PD}(h:p.ws=[]):p.k=(Lh,p.lo,p.hi):=by unfold PD.k;rw[Lo h]
def PD.k_some{p:PD}(h:p.ws≠[]):p.k=(Lg p.ws,p.lo,p.hi):=by unfold PD.k;rw[Lm h]
def dE.dom{cN cW:AM}{H:Hp}{d:AM}{k:Dk}(h:dE cN cW H d k):Dom cN cW H d k.2:=by
 let(w,lo,hi):=k;cases w with
 |none=>obtain⟨c,e⟩:=h;exact(cN,.inl U,c,_,e,U,U,U,)
 |some f =>
  let((c,l,e,_),b,a,_):=h;let b:lo=0:=b;let a:hi=hiW f:=a;subst b a;calc(cW,.inr U,c,_,e,U,U,U,)
def vD(k:Dk):bg k []=ofS "not -" := by unfold bg;rw[Lo U]
def vE{k:Dk}{ps:Prs}(h:ps=[k.2]):bg k ps=ofS "-" := by unfold bg;rw[Lm (by rw[h];simp),Lo h]
def sq{k:Dk}{ps:Prs}(a:ps≠[])(h:ps≠[k.2]):bg k ps=kt (ofS ", ") (ps.map<|rj k):=by unfold bg;rw[Lm a,Lm h]
def zW{H:Hp}{a:Lw V}{ps:Prs}(h:PL H a ps):a=[]↔ps=[]:=by
 let:=⇑h;constructor
 .intro z;subst z;exact iv.mp this.symm
 .intro z;subst z;calc iv.mp this
def  nB(k:Dk)(c:Int):Str:=match k.1 with
 |some a=>a.getD c.toNat tz
 |none=>lm<|toString c
def zX{p:PD}{c:Int}(ok:jv p)(f:p.lo<=c)(e:c<=p.hi):⇑(nB p.k c)<=61:=by
 by_cases a:p.ws=[]
 .rw[PD.k_none a];exact len_num<|ok.bd c f e
 .rw[PD.k_some a];let(d,h,g):=ok.wd a;unfold hiW at g;let b:c.toNat<⇑p.ws:=∅
  show⇑(p.ws.getD c.toNat tz)<=61;rw[lp,IU b];calc tm (eW<|d.words _<|pa b) ⋯
def  dP(nm:Str)(zs:Lw Str)(k:Dk)(a:Str):Str:=ofS "table " ++ nm++ofS ": " ++ kt (ofS ", ") zs++ofS " -> " ++ cR k++ofS " by " ++ a
def  kY(ks:Lw Dk)(w:Rw)(a:Dk):Str:=ofS "when " ++ kt (ofS " | ") (nn bg ks w.1)++ofS " -> " ++ nB a w.2
def mQ:s!"table ".length=6:= ~~~0
def sr:s!": ".length=2:= ~~~0
def yf:s!" -> ".length=4:= ~~~0
def DG:s!" by ".length=4:= ~~~0
def sv:s!"when ".length=5:= ~~~0
def nE{n:Nat}(h:n<=100000):n<=A8:=by rw[Js];calc tm h ⋯
def zY{ks:Lw Dk}{pss:Lw Prs}(c:⇑pss<=6)(ok:∀(j:Nat)(k:Dk)(ps:Prs),ks[j]?=Lg k->pss[j]?=Lg ps->gZ k ps):⇑(kt (ofS " | ")<|nn bg ks pss)<=7254:=by
 refine lX (m:=1206) (n:=6) (~~~0) (λz b=>?_) (by rw[lu];lia);let(j,a):=ik b;rw[oB]at a;cases e3:ks[j]? with
 |none=>rw[e3]at a;cases a
 |some k =>
  cases e4:pss[j]? with
  |none=>rw[e3,e4]at a;cases a
  |some p =>
   rw[e3,e4]at a;let a:Lg (bg k p)=Lg z:=a;cases a;calc lY<|ok j k p e3 e4
def fk.own{zs:Lw Str}{ds:Lw PD}{a:Lw PT}{fN:Nat}(h:fk zs ds a fN){k:Nat}{t:PT}(e:a[k]?=Lg t):fN+k<⇑ds:=by
 let:=(IV.mp e).1;let:=h.tab;lia
def fk.lt{zs:Lw Str}{ds:Lw PD}{a:Lw PT}{fN:Nat}(h:fk zs ds a fN){k:Nat}{t:PT}(e:a[k]?=Lg t):∀j∈t.cols,j<⇑ds:=λj b=>by
 let d:=(h.tabs k t e).ok.lt j b;let c:=h.own e;lia
def fk.rows{zs:Lw Str}{ds:Lw PD}{n:Lw PT}{fN:Nat}(h:fk zs ds n fN){k:Nat}{t:PT}(e:n[k]?=Lg t){a:PD}(v:ds[fN+k]?=Lg a):∀w∈t.rows,oq (prm t.cols<|ds.map λp=>(p.lo,p.hi)) (a.lo,a.hi) w:=λw s=>by
 let f:=(h.tabs k t e).rows w s;let lt:=h.lt e;let m:∀j∈t.cols,j<⇑(ds.map λp=>(p.lo,p.hi)):=λj d=>by rw[ck];exact lt j d
 let g:=cz (os:=t.cols) (xs:=ds.map λp=>(p.lo,p.hi)) m;let c:=f.code a v;refine(by rw[f.len,g.1],λj r b q l p u=>?_,c.1,c.2,);let d:j<⇑t.cols:=by rw[←f.len];exact(IV.mp q).1
 let i:=IU d;rw[g.2 j _ i,dV]at l;let o:=IU<|lt _<|IW i;rw[o]at l;cases l;let:=f.inn j _ r _ q i o p u;calc(this.1,this.2.2,)
def fk.cells{zs:Lw Str}{ds:Lw PD}{m:Lw PT}{fN:Nat}(h:fk zs ds m fN){k:Nat}{t:PT}(e:m[k]?=Lg t){w:Rw}(o:w∈t.rows):∀(j:Nat)(a:Dk)(ps:Prs),(prm t.cols<|ds.map PD.k)[j]?=Lg a->w.1[j]?=Lg ps->gZ a ps:=λj a ps n i=>by
 let f:=(h.tabs k t e).rows w o;let lt:=h.lt e;let l:∀j∈t.cols,j<⇑(ds.map PD.k):=λj b=>by rw[ck];exact lt j b
 let g:=cz (os:=t.cols) (xs:=ds.map PD.k) l;let b:j<⇑t.cols:=by rw[←f.len];exact(IV.mp i).1
 let d:=IU b;let c:=IU<|lt _<|IW d;rw[g.2 j _ d,dV,c]at n;cases n;calc(h.doms _<|IW c).cell (f.few ps<|IW i) (f.inn j _ ps _ i d c)
def rp{H:Hp}{D:AM}{zs:Lw V}(e:H D=Lg (.lst zs)):gD H (hide H D):=λb t f=>cx f<|eB f e (by intro z;cases z)
def yg(nm:Str)(zs:Lw Str)(k:Dk)(a:Str):s!"table " ++ nm++s!": " ++ kt s!", " zs++(s!" -> " ++ cR k++s!" by " ++ a)=dP nm zs k a:=by
 unfold dP;simp only[fB]
def fk.nm12{zs:Lw Str}{ds:Lw PD}{a:Lw PT}{fN:Nat}(h:fk zs ds a fN){z:Str}(hz:z∈zs):⇑z<=12:=eW<|h.words z hz
def E9{z:Str}(h:z∈six):⇑z<=12:=by
 unfold six at h;simp only[dy,ib,or_false]at h;rcases h with rfl|rfl|rfl|rfl|rfl|rfl <;> decide+kernel
def pQ(z:Str)(ns:Lw Str):inV (.str z) (ns.map NE)=ns.contains z:=by
 unfold inV;induction ns with
 |nil=>rfl
 |cons n ns a =>
  rw[gy,mY,Nn,a]
  congr 1
  show(n == z)=(z == n);rw[pr,beq_iff_eq,beq_iff_eq];calc(Eq.symm,Eq.symm,)
def  TbA(g cN cW:AM)(H:Hp)(zs:Lw Str)(ds:Lw PD)(f:Lw PT)(fN:Nat)(a:AM)(k:Nat):Prop:=∃(t:PT)(d:Str)(b:PD)(c:AM)(e:Lw V),f[k]?=Lg t/\zs[fN+k]?=Lg d/\ds[fN+k]?=Lg b/\TF g H a d t.way c (prm t.cols zs) e t.rows/\au e (prm t.cols<|ds.map PD.k) (dE cN cW H)/\dE cN cW H c b.k
def  FcA(cN cW:AM)(H:Hp)(zs:Lw Str)(ds:Lw PD)(r:AM)(k:Nat):Prop:=∃(b:Str)(a:PD)(d:AM),zs[k]?=Lg b/\ds[k]?=Lg a/\H r=Lg (.tup [.str b,.ref d])/\dE cN cW H d a.k
structure BkI(cT cN cW:AM)(H:Hp)(zs:Lw Str)(ds:Lw PD)(ts:Lw PT)(fN:Nat)(fv mv:Lw V)(L:Lw Nat):Prop where
 ok:fk zs ds ts fN
 facts:au fv (bn fN) (FcA cN cW H zs ds)
 tabs:au mv L (TbA cT cN cW H zs ds ts fN)
 lt:∀k∈L,k<⇑ts
 nd:L.Nodup
 len:L.length=⇑ts
 all:∀k,k<⇑ts->k∈L
section
variable{cT cN cW:AM}{H:Hp}{zs:Lw Str}{ds:Lw PD}{ts:Lw PT}{fN:Nat}{fv mv:Lw V}{L:Lw Nat}
end
section
variable{cT cN cW:AM}{H:Hp}{zs:Lw Str}{ds:Lw PD}{ts:Lw PT}{fN:Nat}{fv mv:Lw V}{L:Lw Nat}
def w6{a:Lw (Str×V)}(c:(a.map (·.1)).Nodup):∀{j:Nat}{k:Str}{v:V},a[j]?=Lg (k,v)->a.lookup k=Lg v:=by
 induction a with
 |nil=>intro j k v e;simp at e
 |cons p a f =>
  intro j k v e;let(d,h):=p;rw[gy]at c;let b:=hE.mp c;cases j with
  |zero =>
   cases e;rw[nC,beq_self_eq_true]
  |succ j =>
   let e:a[j]?=Lg (k,v):= ~~~e
   let g:k≠d:=λz=>b.1<|dn.mpr ((k,v),IW e,z,)
   rw[nC,beq_eq_false_iff_ne.mpr g];calc f b.2 e
end
def  SmB(z:Str):Prop:=⇑z<=1000/\∀n∈z.cps.toList,n<16^8
def  BkA(e:AM)(H:Hp)(b:AM)(c:Lw V):Prop:=∃(d:AM)(fs:Lw (Str×V))(a:AM),H b=Lg (.ins e d fs)/\fs.lookup s!"tables"=↑a/\H a=Lg (.lst c)
structure BkT(cT cN cW cB:AM)(H:Hp)(b:AM)(zs:Lw Str)(ds:Lw PD)(ts:Lw PT)(fN:Nat)(mv:Lw V)(L:Lw Nat):Prop where
 bk:BkA cB H b mv
 ok:fk zs ds ts fN
 tabs:au mv L (TbA cT cN cW H zs ds ts fN)
 lt:∀k∈L,k<⇑ts
 few:L.length<=7
def zZ{c:Int}{n:Nat}:∀z∈lws c n,∀y∈lws c n,⇑z=⇑y:=λz a y b=>by
 let(i,_,rfl):=dn.mp a;let(j,_,rfl):=dn.mp b;show(lwc c _).toArray.size=(lwc c _).toArray.size;unfold lwc;simp
def jb{H H':Hp}{x a:AM}{o:HO}(k:∀b o,b≠x->H b=Lg o->H' b=Lg o)(c:H' x=Lg o)(h:H' a=Lh):H a=none:=by
 cases e:H a with
 |none=>rfl
 |some u =>
  let n:a≠x:=λz=>by rw[z,c]at h;cases h
  rw[k a u n e]at h;cases h
def RL.hideN{N:AM->Prop}{H:Hp}{x C i:AM}{fs:Lw (Str×V)}(b:H x=Lg (.ins C i fs)){xs:Lw V}{a:Lw Rw}(h:RL N H xs a):RL N (_M.hide H x) xs a :=
 au.mono h λr w (k,j,e,n,f,c,)=>⟨k,j,cx e<|eB e b (by intro z;cases z),n,cx f<|eB f b (by intro z;cases z),au.mono c λl o (m,d,g,p,)=>(m,d,cx g<|eB g b (by intro z;cases z),PL.hide b p,)⟩
section
variable{N N':AM->Prop}{cT cN cW:AM}{H H':Hp}{zs:Lw Str}{ds:Lw PD}{ts:Lw PT}{fN:Nat}{a:AM}{k:Nat}
end
def DH{c:Int}{n:Nat}:∀z∈lws c n,SmB z:=λz b=>by
 let(i,_,rfl):=dn.mp b;calc(tm (eW<|zR c _) ⋯,λx a=>?_,);let a:x∈lwc c (0+(i:Int)):=by simpa[lw]using a
 let e:=wg (c / 11+3*(0+(i:Int))) (show(26:Int)≠0 by decide);let d:=wh (c / 11+3*(0+(i:Int))) (show(0:Int)<26 by decide);show x<4294967296;rcases ju a with h|h <;> lia
def jc{K:ac}{H:Hp}{Q:VK}{a b:AM}{xs ys:Lw Str}{r:Bool}(i:SqL K H a (xs.map NE))(g:SqL K H b (ys.map NE))(f:r=Li↔xs=ys)(q:Q (.bl r) H):tS K Lj (.ref a) (.ref b) H Q:=by
 by_cases c:⇑xs=⇑ys
 .refine(a,b,_,_,U,U,i,g,.inr (by rw[ck,ck];exact c,λj=>decide<|xs[j]?=ys[j]?,λj x y s p=>?_,?_,),)
  .let(z,rfl,o):=bW s;let(d,rfl,n):=bW p;let k:=EqI.flat (K:=K) (H:=H) (x:=NE z) (y:=NE d) U U;let m:eqV (NE z) (NE d)=Lk (xs[j]?=ys[j]?):=by
    rw[o,n,pr];simp[eqV]
   rw[m]at k;exact k
  .let e:(bn ⇑(xs.map NE)).all (λj=>decide<|xs[j]?=ys[j]?)=r:=by
    rw[pr,f,iF];constructor
    .intro h;apply kB
     intro j;by_cases l:j<⇑xs
     .exact Ls<|h j<|ia.mpr (by rw[ck];exact l)
     .rw[jf ∅,jf ∅]
    .intro h j _;rw[h];exact Lq U
   rw[Lm bv,e];exact q
 .let e:r=false:=by
   rw[w4];intro z;exact c (by rw[f.mp z])
  rw[e]at q;calc(a,b,_,_,U,U,i,g,.inl (by rw[ck,ck];exact c,q,),)
def  LtM(z:Str):Prop:=⇑z<=11/\∀x:Nat,97<=x->x<=122->isw (z++(⟨#[x]⟩:Str))=Li
def Aa{c:Int}{n:Nat}:∀z∈lws c n,LtM z:=λz g=>by
 let(i,_,rfl):=dn.mp g;generalize (0+(i:Int))=k;let q:=oU c;let p:=oV c;let o:=wg (c / 11+3*k) (show(26:Int)≠0 by decide);let m:=wh (c / 11+3*k) (show(0:Int)<26 by decide);refine(by show(lwc c k).toArray.size<=11;unfold lwc;simp;lia,λx l j=>?_,);let e:(lw c k:Str)++(⟨#[x]⟩:Str)=⟨(lwc c k++[x]).toArray⟩:=by
  show wp _ _=_;unfold wp lw;simp
 rw[e];refine zM (by simp) (by unfold lwc;simp;lia) (λy d=>?_) (λh=>?_)
 .rcases eA.mp d with d|d
  .rcases ju d with d|d <;> lia
  .let:=hY.mp d;lia
 .let f:lwc c k=[110,111]:=(List.append_inj' (s₂:=[110,111]) (t₂:=[116]) h U).1;let a:(110:Nat)∈lwc c k:=by rw[f];simp
  let b:(111:Nat)∈lwc c k:=by rw[f];simp
  rcases ju a with a|a
  .lia
  .rcases ju b with b|b <;> lia
def  lkD(k a:Dk):Bool:=match k.1,a.1 with
 |none,Lh=>decide<|k.2=a.2
 |some zs,Lg zs'=>decide<|zs=zs'
 |_,_=>Lj
def Ab(k:Dk):lkD k k=true:=by
 let(w,p):=k;cases w <;> simp[lkD]
structure BT where
 nm:Str
 cs:Lw Str
 ks:Lw Dk
 o:Dk
 way:Str
 rws:Lw Rw
def  TbG(d cN cW:AM)(H:Hp)(a:AM)(t:BT):Prop:=∃(b:AM)(c:Lw V),TF d H a t.nm t.way b t.cs c t.rws/\au c t.ks (dE cN cW H)/\dE cN cW H b t.o
def TbG.same{b cN cW:AM}{H H':Hp}{a:AM}{t:BT}(h:TbG b cN cW H a t)(s:ak H H'):TbG b cN cW H' a t:=by
 let(c,g,f,e,d):=h;calc(c,g,f.same s,au.mono e<|λ_ _ p=>p.same s,d.same s,)
abbrev Fc:=Str×Dk
def  FcG(cN cW:AM)(H:Hp)(r:AM)(f:Fc):Prop:=∃d:AM,H r=Lg (.tup [.str f.1,.ref d])/\dE cN cW H d f.2
def FcG.same{cN cW:AM}{H H':Hp}{r:AM}{f:Fc}(h:FcG cN cW H r f)(s:ak H H'):FcG cN cW H' r f:=by
 let(d,b,a):=h;calc(d,s _ _ b,a.same s,)
def  bN(fs:Lw Fc)(a:Lw BT):Lw Str:=fs.map (·.1)++a.map BT.nm
structure vF(fs:Lw Fc)(ts:Lw BT):Prop where
 w:∀f∈fs,isw f.1=Li
 nd:(bN fs ts).Nodup
 al:∀t∈ts,∀c∈t.cs,c∈bN fs ts
def  eK(fs:Lw Fc)(a:Lw BT):Lw Fc:=fs++a.map λt=>(t.nm,t.o)
def  yh(fs:Lw Fc)(a:Lw BT):Prop:=∀t∈a,∀(i:Nat)(c:Str)(k b:Dk),t.cs[i]?=Lg c->t.ks[i]?=Lg k->(c,b)∈eK fs a->lkD k b=Li
def  Sml(z:Str):Prop:=⇑z<=100/\∀n∈z.cps.toList,n<16^8
structure BkG(cT cN cW:AM)(H:Hp)(fv mv:Lw V)(fs:Lw Fc)(ts:Lw BT):Prop where
 facts:au fv fs (FcG cN cW H)
 tabs:au mv ts (TbG cT cN cW H)
 sf:∀f∈fs,Sml f.1
 st:∀t∈ts,(∀c∈t.cs,Sml c)/\⇑t.cs<=4/\⇑t.ks=⇑t.cs
 few:⇑fs<=100/\⇑ts<=100
def BkG.same{d cN cW:AM}{H H':Hp}{c b:Lw V}{fs:Lw Fc}{a:Lw BT}(h:BkG d cN cW H c b fs a)(s:ak H H'):BkG d cN cW H' c b fs a :=
 (au.mono h.facts<|λ_ _ p=>p.same s,au.mono h.tabs<|λ_ _ p=>p.same s,h.sf,h.st,h.few,)
def  vG(a:Lw BT):Prop:=∃b:Str->Nat,∀t∈a,∀c∈t.cs,c∈a.map BT.nm->b c<b t.nm
def  DI(a:Lw BT):Prop:=∃S:Lw Str,(∃t∈a,t.nm∈S)/\(∀t∈a,t.nm∈S->∃c∈t.cs,c∈S)/\∀c∈S,c∈a.map BT.nm
def  wtg(ns:Lw Str)(t:BT):Bool:=t.cs.any λc=>ns.contains c
def kR{b:Type}{P:b->Prop}{xs:Lw b}{i:Nat}{x:b}(e:xs[i]?=Lg x)(h:∀z∈xs.take i,P z)(c:P x):∀z∈xs.take (i+1),P z:=λz a=>by
 rw[take_snoc e]at a;rcases eA.mp a with a|a
 .exact h z a
 .rw[hY.mp a];calc c
def yi{a:Type}{xs:Lw a}{i:Nat}{x:a}{p:a->Bool}(e:xs[i]?=Lg x):(xs.take<|i+1).filter p=(xs.take i).filter p++(if p x then[x] else[]):=by
 rw[take_snoc e,qo]
 congr 1
 cases h:p x with
 |true=>rw[KT h,nF];rfl
 |false=>rw[Lx (by rw[h];exact bv),nF];rfl
def yj{t:BT}{ns:Lw Str}:(!(t.cs.filter λz=>ns.contains z).isEmpty)=wtg ns t:=by
 unfold wtg;induction t.cs with
 |nil=>rfl
 |cons c cs a =>
  cases h:ns.contains c with
  |true=>rw[KT h,mY,h];rfl
  |false=>rw[Lx (by rw[h];exact bv),mY,h,a];rfl
def Ac{b:Type}(f:b->Nat):∀{L:Lw b},L≠[]->∃k∈L,∀j∈L,f k<=f j
 | [],h=>Lp U h
 | [x],_=>(x,by simp,λj a=>by rw[show j=x by simpa using a];exact sT _,)
 |x :: y :: r,_=>by
  let(k,d,c):=Ac f (L:=y :: r) (by simp);by_cases h:f x<=f k
  .refine(x,by simp,λj a=>?_,);rcases dy.mp a with rfl|a
   .exact sT _
   .exact tm h<|c j a
  .refine(k,fj _ d,λj a=>?_,);rcases dy.mp a with rfl|a
   .lia
   .exact c j a
def Ad{b L:Lw BT}(h:vG b)(e:∀t∈L,t∈b)(n:L≠[]):⇑(L.filter<|wtg<|L.map BT.nm)<L.length:=by
 let(g,j):=h;let(k,f,l):=Ac (λt:BT=>g t.nm) n;let i:wtg (L.map BT.nm) k=false:=by
  unfold wtg;rw[nS];intro c m a;let a:c∈L.map BT.nm:= ~~~a
  let(t,d,rfl):=dn.mp a;let o:=j k (e k f) _ m<|dn.mpr (t,e t d,U,);let p:=l t d;lia
 let o:=ri (wtg<|L.map BT.nm) L;by_cases h:⇑(L.filter<|wtg<|L.map BT.nm)=L.length
 .let:=List.length_filter_eq_length_iff.mp h k f;rw[i]at this;cases this
 .lia
def  Gr(cN cW:AM)(H:Hp)(fs:Lw Fc)(b:Lw BT)(a:Lw (Str×V)):Prop:=∀(z:Str),z∈bN fs b->∃(d:AM)(k:Dk),a.lookup z=↑d/\(z,k)∈eK fs b/\dE cN cW H d k
def rq(fs:Lw Fc)(a:Lw BT):(eK fs a).map (·.1)=bN fs a:=by
 unfold eK bN;rw[eg,hJ];rfl
def BD{fs:Lw Fc}{a:Lw BT}(d:(bN fs a).Nodup){z:Str}{k c:Dk}(h:(z,k)∈eK fs a)(h':(z,c)∈eK fs a):k=c:=by
 rw[←rq]at d;let(i,e):=ik h;let(j,b):=ik h';let g:((eK fs a).map (·.1))[i]?=Lg z:=by rw[dV,e];rfl
 let f:((eK fs a).map (·.1))[j]?=Lg z:=by rw[dV,b];rfl
 let:=q9 d g f;subst this;rw[e]at b;cases b;rfl
def au.appL{d:Type}{xs ys:Lw V}{c bs:Lw d}{P:AM->d->Prop}(h:au xs c P)(h':au ys bs P):au (xs++ys) (c++bs) P:=by
 refine(by rw[eH,eH,h.1,h'.1],λj a e=>?_,);by_cases f:j<⇑c
 .rw[gi f]at e;let(r,b,p):=h.2 j a e;exact(r,by rw[gi (by rw[h.1];exact f)];exact b,p,)
 .rw[gn ∅]at e;let(r,b,p):=h'.2 _ a e;calc(r,by rw[gn (by rw[h.1];lia),h.1];exact b,p,)
def  akq(fN:Nat)(a:Lw Nat):Lw Nat:=(a.filter λc=>decide<|fN<=c).map λc=>c-fN
def  akP(a:Lw PT)(fN:Nat):Lw Nat:=a.flatMap λt=>akq fN t.cols
abbrev k01:Dk:=(Lh,0,1)
def  ltr(i:Nat):Str:=⟨#[97+i]⟩
def  fsP(zs:Lw Str)(ds:Lw PD)(fN:Nat):Lw Fc:=(bn fN).map λk=>(zs.getD k tz,(ds.map PD.k).getD k k01)
def  btP(zs:Lw Str)(ds:Lw PD)(fN:Nat)(k:Nat)(t:PT):BT:=(zs.getD (fN+k) tz,prm t.cols zs,prm t.cols<|ds.map PD.k,(ds.map PD.k).getD (fN+k) k01,t.way,t.rows,)
def  tsP(zs:Lw Str)(ds:Lw PD)(a:Lw PT)(fN:Nat):Lw BT:=a.mapIdx<|btP zs ds fN
def kS{a:Type}{xs:Lw a}{i:Nat}{x d:a}(e:xs[i]?=Lg x):xs.getD i d=x:=by rw[lp,e];rfl
def oY{ds:Lw PD}{i:Nat}{p:PD}(e:ds[i]?=Lg p):(ds.map PD.k).getD i k01=p.k:=kS (by rw[dV,e];rfl)
def pR{zs:Lw Str}{ds:Lw PD}{fN j:Nat}{z:Str}{p:PD}(a:j<fN)(c:zs[j]?=Lg z)(b:ds[j]?=Lg p):(fsP zs ds fN)[j]?=Lg (z,p.k):=by
 unfold fsP;rw[dV,oA a];show Lg (zs.getD j tz,(ds.map PD.k).getD j k01)=_;rw[kS c,oY b]
def iB(zs:Lw Str)(ds:Lw PD)(fN:Nat):⇑(fsP zs ds fN)=fN:=by unfold fsP;rw[ck,lC]
def kT(zs:Lw Str)(ds:Lw PD)(a:Lw PT)(fN:Nat):⇑(tsP zs ds a fN)=⇑a:=by unfold tsP;rw[List.length_mapIdx]
def sx{zs:Lw Str}{ds:Lw PD}{a:Lw PT}{fN k:Nat}{t:PT}(e:a[k]?=Lg t):(tsP zs ds a fN)[k]?=Lg (btP zs ds fN k t):=by unfold tsP;rw[Nd,e];rfl
def Ae{zs:Lw Str}{ds:Lw PD}{a:Lw PT}{fN k:Nat}{b:BT}(e:(tsP zs ds a fN)[k]?=Lg b):∃t,a[k]?=Lg t/\b=btP zs ds fN k t:=by
 unfold tsP at e;rw[Nd]at e;cases h:a[k]? with
 |none=>rw[h]at e;cases e
 |some t=>rw[h]at e;cases e;calc(t,U,U,)
structure TbV(t:BT):Prop where
 w:∀z∈t.nm :: t.cs,isw z=Li
 nd:(t.nm :: t.cs).Nodup
 c1:1<=⇑t.cs
 c4:⇑t.cs<=4
 kl:⇑t.ks=⇑t.cs
 way:t.way∈six
 sum:t.way=s!"sum" -> t.o.1=Lh
 rws:∀w∈t.rws,oq (t.ks.map (·.2)) t.o.2 w
 few:⇑t.rws<=200
def Af{N:AM->Prop}{H:Hp}{D:AM}{d:Lw V}(b:H D=Lg (.lst d))(n:¬ N D){xs:Lw V}{a:Lw Rw}(h:RL N H xs a):RL NT (hide H D) xs a :=
 au.mono h λ_ _ (l,k,e,m,f,c,)=>(l,k,rp b _ _ e,trivial,cx f<|λz=>n<|z ▸ m,au.mono c λ_ _ (j,i,g,p,)=>(trivial,i,cx g<|λz=>n<|z ▸ j,p.mono<|rp b,),)
section
variable{zs:Lw Str}{ds:Lw PD}{pts:Lw PT}{fN:Nat}
def DJ(ok:fk zs ds pts fN):(fsP zs ds fN).map (·.1)=zs.take fN:=by
 let e:=ok.len;let d:=ok.tab;refine kB λj=>?_
 rw[dV,Mi];by_cases a:j<fN
 .let b:=IU (l:=zs) (i:=j) ∅;let c:=IU (l:=ds) (i:=j) ∅;rw[pR a b c,Lo a,b];rfl
 .rw[Lm a,jf (by rw[iB];lia)];rfl
def DK(ok:fk zs ds pts fN):(tsP zs ds pts fN).map BT.nm=zs.drop fN:=by
 let d:=ok.len;let c:=ok.tab;refine kB λj=>?_
 rw[dV,qg];by_cases b:j<⇑pts
 .let a:=IU (l:=zs) (i:=fN+j) ∅;rw[sx (IU b),a];show Lg (zs.getD (fN+j) tz)=_;rw[kS a]
 .rw[jf (by rw[kT];lia),jf ∅];rfl
structure ClT(zs:Lw Str)(ds:Lw PD)(pts:Lw PT)(k:Nat)(t:BT):Prop where
 ex:∃pt:PT,pts[k]?=Lg pt/\t.cs=prm pt.cols zs/\t.ks=prm pt.cols (ds.map PD.k)
def ClT.col(ok:fk zs ds pts fN){k:Nat}{t:BT}(h:ClT zs ds pts k t){i:Nat}{c:Str}{q:Dk}(e:t.cs[i]?=Lg c)(d:t.ks[i]?=Lg q):∃(j:Nat)(p:PD),j<fN+k/\zs[j]?=Lg c/\ds[j]?=Lg p/\q=p.k:=by
 let(pt,n,s,r):=h.ex;let a:=ok.lt n;let l:=ok.len;let m:=cz (os:=pt.cols) (xs:=zs) λj g=>by rw[l];exact a j g
 let u:=cz (os:=pt.cols) (xs:=ds.map PD.k) λj g=>by rw[ck];exact a j g
 rw[s]at e;rw[r]at d;let hi:i<⇑pt.cols:=by rw[←m.1];exact(IV.mp e).1
 let b:=IU hi;let f:=IW b;generalize pt.cols[i]=j at b f;rw[m.2 i j b]at e;rw[u.2 i j b,dV]at d;let o:=IU<|a j f;rw[o]at d;cases d;calc(j,_,(ok.tabs k pt n).ok.lt j f,e,o,U,)
def ClT.mem(ok:fk zs ds pts fN){k:Nat}{t:BT}(h:ClT zs ds pts k t){c:Str}(f:c∈t.cs):∃j,j<fN+k/\zs[j]?=Lg c:=by
 let(i,e):=ik f;let(pt,r,n,m):=h.ex;let a:=ok.lt r;let d:=ok.len;let o:=cz (os:=pt.cols) (xs:=zs) λj b=>by rw[d];exact a j b
 let q:=cz (os:=pt.cols) (xs:=ds.map PD.k) λj b=>by rw[ck];exact a j b
 let hi:i<⇑t.ks:=by
  let:=(IV.mp e).1;rw[n,o.1]at this;rw[m,q.1];exact this
 let(j,p,l,g,_):=h.col ok e<|IU hi;calc(j,l,g,)
structure NrI(zs:Lw Str)(ds:Lw PD)(pts:Lw PT)(fN:Nat)(fs:Lw Fc)(ts:Lw BT):Prop where
 pm:∃E:Lw Str,E.Nodup/\(∀e∈E,e ∉ zs/\isw e=Li)/\(bN fs ts).Perm (zs++E)
 fx:∀f∈fs,(∃j p,j<fN/\zs[j]?=Lg f.1/\ds[j]?=Lg p/\f.2=p.k)\/(f.1 ∉ zs/\isw f.1=Li)
 nm:∀t∈ts,(∃k,zs[fN+k]?=Lg t.nm/\k<⇑pts/\ClT zs ds pts k t)\/t.nm ∉ zs
 t0:∃t∈ts,ClT zs ds pts 0 t
end
section
variable{zs:Lw Str}{ds:Lw PD}{pts:Lw PT}{fN:Nat}
def DL(k:Nat){t:PT}(a:pts[k]?=Lg t):ClT zs ds pts k (btP zs ds fN k t):=(t,a,U,U,)
def oZ(ok:fk zs ds pts fN){b:BT}(h:b∈tsP zs ds pts fN):∃k t,pts[k]?=Lg t/\k<⇑pts/\b=btP zs ds fN k t/\zs[fN+k]?=Lg b.nm/\ClT zs ds pts k b:=by
 let(k,e):=ik h;let(t,a,rfl):=Ae e;let d:=(IV.mp a).1;let g:=ok.len;let f:=ok.tab;let c:=IU (l:=zs) (i:=fN+k) ∅;calc(k,t,a,d,U,?_,DL k a,);rw[c];show _=Lg (zs.getD (fN+k) tz);rw[kS c]
def BE(ok:fk zs ds pts fN){f:Fc}(h:f∈fsP zs ds fN):∃j p,j<fN/\zs[j]?=Lg f.1/\ds[j]?=Lg p/\f.2=p.k:=by
 let(j,b):=ik h;let a:=(IV.mp b).1;rw[iB]at a;let g:=ok.len;let e:=ok.tab;let d:=IU (l:=zs) (i:=j) ∅;let c:=IU (l:=ds) (i:=j) ∅;rw[pR a d c]at b;cases b;calc(j,_,a,d,c,U,)
def Cu(ok:fk zs ds pts fN){b:BT}(h:b∈tsP zs ds pts fN){k:Nat}(e:zs[fN+k]?=Lg b.nm):∃p,ds[fN+k]?=Lg p/\b.o=p.k:=by
 let(c,t,j,f,rfl,d,_):=oZ ok h;let:=q9 ok.nd e d;let:k=c:=∅
 subst this;let g:=ok.tab;let a:=IU (l:=ds) (i:=fN+k) ∅;calc(_,a,oY a,)
def Ag(ok:fk zs ds pts fN){j:Nat}{z:Str}(e:zs[j]?=Lg z):zs.idxOf z=j:=by
 let b:=IW e;let a:=MT.mpr b;let c:zs[zs.idxOf z]?=Lg z:=by rw[IU a,List.getElem_idxOf a]
 calc q9 ok.nd c e
def Fb(ok:fk zs ds pts fN){f:Lw BT}(h:∀t∈f,(t∈tsP zs ds pts fN)\/(t.nm ∉ zs/\∃k,ClT zs ds pts k t)):vG f:=by
 calc(λz=>zs.idxOf z,λt l c i _=>?_,);rcases h t l with a|⟨a,k,m⟩
 .let(k,pt,_,n,rfl,e,d):=oZ ok a;let(j,g,b):=d.mem ok i;show zs.idxOf c<zs.idxOf (btP zs ds fN k pt).nm;rw[Ag ok b,Ag ok e];exact g
 .let(j,g,b):=m.mem ok i;show zs.idxOf c<zs.idxOf t.nm;rw[List.idxOf_eq_length a];calc MT.mpr<|IW b
structure WdR(zs:Lw Str)(ds:Lw PD)(pts:Lw PT)(fN:Nat)(kd:Int)(fs:Lw Fc)(ts:Lw BT):Prop where
 nr:NrI zs ds pts fN fs ts
 bad:kd=11->¬ vF fs ts
 good:kd≠11->vF fs ts
 un:kd=13\/(kd=8/\akP pts fN≠[])->¬ yh fs ts
 dm:kd≠11->kd≠13->¬ (kd=8/\akP pts fN≠[])->yh fs ts
 st:kd=12->DI ts
 rk:kd≠11->kd≠12->kd≠13->¬ (kd=8/\akP pts fN≠[])->vG ts
 len:⇑fs<=20/\⇑ts<=30/\1<=⇑ts
end
section
variable{un:Str}{pu:PD}{fs fs':Lw Fc}{ts ts':Lw BT}{kd:Int}
end
section
variable{un:Str}{pu:PD}{fs0 fs fs':Lw Fc}{ts0 ts ts':Lw BT}{k0 k1 kk:Int}{i:Nat}
end
structure Sm(n:Nat)(z:Str):Prop where
 len:⇑z<=n
 low:∀c∈z.cps.toList,c<16^8
def DM(s:String):∀c∈(lm s).cps.toList,c<16^8:=λc a=>by
 rw[Ly]at a;simp only[dn]at a;let(b,_,rfl):=a;calc b.val.toNat_lt
def Sm.of(s:String){n:Nat}(h:⇑(lm s)<=n):Sm n (lm s):=(h,DM s,)
def  Pl:V->Prop
 | .non=>True
 | .bl _=>True
 | .int _=>True
 | .str _=>True
 |_=>False
def Ah{v:V}(h:Shw v):Pl v:=by cases h <;> trivial
def  isI:V->Bool
 | .int _=>Li
 |_=>Lj
def  DN(C:AM)(H:Hp)(x a:AM)(lo hi:Int):Hp:=upd (upd H x<|.ins C a [("low",.int lo)]) x<|.ins C a [("low",.int lo),("high",.int hi)]
def Ai{C:AM}{H:Hp}{x a:AM}(lo hi:Int)(b:H x=Lh)(c:H a=Lh)(d:a≠x):ak H (DN C (upd (upd H a<|.own x) x<|.ins C a []) x a lo hi):=by
 unfold DN;calc((((ah c _).upd b).upd b).upd b)
def  inW(zs:Lw Str):V->Bool
 | .str z=>decide<|z∈zs
 |_=>Lj
def BG{v:V}(h:Pl v):dN v=true:=by cases v <;> first|rfl|calc h.elim
def Fd(zs:Lw Str)(v:V)(h:Pl v):inV v (zs.map NE)=inW zs v:=by
 unfold inV inW;rw[List.any_map];cases v with
 |str z =>
  rw[pr,kK,Lv];constructor
  .rintro⟨y,c,e⟩;let:y=z:=by simpa[eqV]using e
   rw[←this];exact c
  .intro a;exact(z,a,by simp[eqV],)
 |non=>exact nS.mpr λy _=>by simp[eqV]
 |bl b=>exact nS.mpr λy _=>by simp[eqV]
 |int i=>exact nS.mpr λy _=>by simp[eqV]
 |_=>calc h.elim
def  inB(lo hi:Int):V->Bool
 | .int i=>decide (lo<=i) && decide (i<=hi)
 |_=>Lj
def  lM(zs:Lw Str)(z:Str)(j:Nat):Prop:=zs[j]?=Lg z/\∀(m:Nat)(u:Str),m<j->zs[m]?=Lg u->u≠z
def pS:∀{zs:Lw Str}{z:Str},z∈zs->∃j,lM zs z j
 |y :: zs,z,h=>by
  by_cases e:y=z
  .exact(0,by simp[e],λm u b=>Lp b<|MG m,)
  .let f:z∈zs:=by
    rcases dy.mp h with q|q
    .exact Lp q.symm e
    .exact q
   let(j,d,c):=pS f;calc(j+1,~~~d,λm u b a=>?_,);cases m with
   |zero =>
    let:y=u:= ~~~a
    rw[←this];exact e
   |succ m=>calc c m u ∅ (~~~a)
def lM.of_nodup{zs:Lw Str}{z:Str}{j:Nat}(h:zs.Nodup)(e:zs[j]?=Lg z):lM zs z j:=by
 calc(e,λm u b a q=>?_,);subst q;let:=mq h a e;lia
def BH(C:AM)(H:Hp)(x a:AM)(lo hi:Int):jX C (DN C H x a lo hi) x lo hi:=(a,af,)
structure Two(C:AM)(H:Hp)(e d:AM)(t0 t1 x0 x1:AM)(p0 p1:Int×Int):Prop where
 ends:H e=Lg (.lst [.ref t0,.ref t1])
 doms:H d=Lg (.lst [.ref x0,.ref x1])
 e0:H t0=Lg (.tup [.int p0.1,.int p0.2])
 e1:H t1=Lg (.tup [.int p1.1,.int p1.2])
 d0:jX C H x0 p0.1 p0.2
 d1:jX C H x1 p1.1 p1.2
structure Gd(p:Int×Int):Prop where
 le:p.1<=p.2
 lo:bnd p.1
 hi:bnd p.2
def  ten:Str := "0123456789"
def  bY(z:Str):Str:=if li z "-" = Li then GT z (Lg 1) Lh else z
def  isn(z:Str):Bool:=Lk (NE z=NE "0") || (Lk ((1:Int)<=((⇑(bY z):Nat):Int)) && (Lk (((⇑(bY z):Nat):Int)<=60) && (!Lk (NE ⟨#[(bY z).cps.toList.headD 0]⟩=NE "0") && i4 (bY z) ten)))
def Aj(z:Str):⇑(bY z)<=⇑z:=by
 unfold bY;by_cases h:li z "-" = Li
 .rw[Lo h];exact Txt.slice_le _ _ _
 .rw[Lm h];calc sT _
def BI{z:Str}(h:1<=⇑z):atI z.cps.toList 0=Lg (z.cps.toList.headD 0):=by
 let e:⇑z.cps.toList=⇑z:=by simp[wS]
 cases hc:z.cps.toList with
 |nil=>rw[hc]at e;simp at e;lia
 |cons c r=>calc aU (j:=0) (show(c :: r)[0]?=Lg c from U)
def DO{c:Nat}(h:48<=c/\c<=57):sg ten c=true:=by
 let:c=48\/c=49\/c=50\/c=51\/c=52\/c=53\/c=54\/c=55\/c=56\/c=57:=∅
 rcases this with rfl|rfl|rfl|rfl|rfl|rfl|rfl|rfl|rfl|rfl <;> decide+kernel
def vH{c:Nat}{cs:Lw Nat}:GT ⟨(c :: cs).toArray⟩ (Lg 1) Lh=⟨cs.toArray⟩:=by
 let h:=MJ (x:=⟨(c :: cs).toArray⟩) (i:=1) (⋯,by simp;lia,);let e:GT ⟨(c :: cs).toArray⟩ (Lg 1) Lh=M9 ⟨(c :: cs).toArray⟩ (Lg 1) none:=rfl;rw[e,h];simp
def fC{c:Nat}{cs:Lw Nat}:li ⟨(c :: cs).toArray⟩ "-" = (c == 45):=by
 let e:s!"-"=⟨#[45]⟩:= ~~~0
 show li ⟨(c :: cs).toArray⟩ s!"-"=_;rw[e];unfold li Jl.Str.subAt;simp[wS,List.extract_toArray]
def  cJ(z:Str):Int:=if li z "-" = Li then -((PySem.NumText.digitsVal (bY z).cps.toList:Nat):Int) else((PySem.NumText.digitsVal (bY z).cps.toList:Nat):Int)
def BJ{c:Nat}:sg ten c=Lk (48<=c/\c<=57):=by
 unfold sg;rw[PySem.StrLaws.found_one];let e:ten.cps.toList=[48,49,50,51,52,53,54,55,56,57]:= ~~~0
 rw[e];apply decide_eq_decide.mpr
 simp only[dy,ib,or_false];omega
def rz{z:Str}(h:i4 z ten=Li):PySem.NumText.AllDigits z.cps.toList:=λc a=>by
 let:=iF.mp h c a;rw[BJ]at this;calc Ls this
def BK(z:Str):z=⟨z.cps.toList.toArray⟩:=by simp
def xa(z:Str):isn z=(Lk ((1:Int)<=((⇑(bY z):Nat):Int)) && (Lk (((⇑(bY z):Nat):Int)<=60) && (!(Lk (NE ⟨#[(bY z).cps.toList.headD 0]⟩=NE "0") && !Lk (NE z=NE "0")) && i4 (bY z) ten))):=by
 unfold isn;by_cases h:NE z=NE s!"0"
 .let a:z=s!"0" := by injection h
  subst a;decide+kernel
 .rw[Lr h];simp
def Ak{z:Str}(h:isn z=Li)(l:⇑z<=600):PySem.intText? z=Lg (cJ z):=by
 rw[xa]at h;simp only[wF,decide_eq_true_eq]at h;let(o,n,m,i):=h;let f:=rz i;let ne:(bY z).cps.toList≠[]:=λe=>by
  let:(bY z).cps.toList.length=⇑(bY z):=by simp[wS]
  rw[e]at this;simp at this;lia
 unfold cJ;by_cases b:li z "-" = Li
 .rw[Lo b];let j:z.cps.toList=45 :: (bY z).cps.toList:=by
   let g:∀a:Lw Nat,li ⟨a.toArray⟩ "-" = Li->a=45 :: (bY ⟨a.toArray⟩).cps.toList:=λa d=>by
    cases a with
    |nil=>exact Lp d (~~~0)
    |cons c r =>
     unfold bY;rw[Lo d,vH];rw[fC]at d;let:c=45:= ~~~d
     rw[this]
   let:=g z.cps.toList (by rw[←BK];exact b);rw[←BK]at this;exact this
  exact intText_neg j f ne ∅
 .rw[Lm b];let k:bY z=z:=by unfold bY;rw[Lm b]
  rw[k]at f ne⊢;calc Kn f ne ∅
def BL{n:Int}{cs:Lw Nat}(F:oE cs)(j:PySem.NumText.digitsVal cs=n.natAbs)(q:⇑cs<=60):isn ⟨(fA n cs).toArray⟩=true:=by
 let(c,r,rfl):∃c r,cs=c :: r:=by
  cases cs with
  |nil=>exact Lp U F.ne
  |cons c r=>exact(c,r,U,)
 let w:=F.all c gs;let t:i4 ⟨(c :: r).toArray⟩ ten=true:=by
  unfold i4;rw[iF];intro x p;exact DO<|F.all x<|~~~p
 let a:∀(d:bY ⟨(fA n (c :: r)).toArray⟩=⟨(c :: r).toArray⟩),49<=c->isn ⟨(fA n (c :: r)).toArray⟩=true:=λd u=>by
  unfold isn;rw[d,t];let o:(⇑(⟨(c :: r).toArray⟩:Str):Int)=((⇑r+1:Nat):Int):=by simp[wS]
  rw[o];let h:s!"0"=⟨#[48]⟩:= ~~~0
  let m:¬ (NE ⟨#[c]⟩=NE s!"0"):=by
   rw[h];intro z;injection z with z;injection z with z;injection z with z;injection z with z;lia
  let v:⇑r+1<=60:= ~~~q
  rw[Lq (show(1:Int)<=((⇑r+1:Nat):Int) by lia),Lq (show((⇑r+1:Nat):Int)<=60 by lia)];show(_ || (Li && (Li && (!Lk (NE ⟨#[c]⟩=NE s!"0") && Li))))=Li;rw[Lr m];simp
 by_cases k:n<0
 .let e:fA n (c :: r)=45 :: c :: r:=by unfold fA;rw[Lo k]
  let d:bY ⟨(fA n (c :: r)).toArray⟩=⟨(c :: r).toArray⟩:=by
   unfold bY;rw[e,fC,Lo ⋯,vH]
  calc a d ?_;rcases F.one with b|⟨s,l,b,g⟩
  .let f:r=[]:= ~~~b
   subst f;rw[kO]at j;simp[PySem.NumText.digitsVal]at j;lia
  .cases b;exact g
 .let e:fA n (c :: r)=c :: r:=by unfold fA;rw[Lm k]
  rcases F.one with b|⟨s,l,b,g⟩
  .let f:r=[]:= ~~~b
   subst f;by_cases i:c=48
   .subst i;let h:s!"0"=⟨#[48]⟩:= ~~~0
    unfold isn;rw[e];rw[Lq (show NE ⟨[48].toArray⟩=NE s!"0" by rw[h])];rfl
   .refine a ?_ ∅;unfold bY;rw[e,fC,Lm (by simp;lia)]
  .cases b;calc a ?_ g;unfold bY;rw[e,fC,Lm (by simp;lia)]
def BM(m:Nat):∃cs:Lw Nat,oE cs/\PySem.NumText.digitsVal cs=m:=by
 induction m using Nat.strongRecOn with
 |_ m d =>
  by_cases h:m<10
  .refine([48+m],(λc a=>?_,.inl U,),?_,)
   .rw[show c=48+m by simpa using a];lia
   .rw[kO];simp[PySem.NumText.digitsVal]
  .let(cs,F,b):=d (m / 10) ∅;refine(cs++[48+m%10],(λc a=>?_,.inr ?_,),?_,)
   .rcases eA.mp a with a|a
    .exact F.all c a
    .rw[show c=48+m%10 by simpa using a];lia
   .rcases F.one with e|⟨c,r,rfl,a⟩
    .match cs,e with
     | [c],_ =>
      calc(c,[48+m%10],U,?_,);rw[kO]at b;simp[PySem.NumText.digitsVal]at b;lia
    .exact(c,r++[48+m%10],U,a,)
   .unfold PySem.NumText.digitsVal at b⊢;rw[mh,b];simp;lia
def jw{n:Int}(h:bnd n):isn (lm<|toString n)=Li/\cJ (lm<|toString n)=n:=by
 let(f,F,a):=BM n.natAbs;let b:=F.short (k:=60) ⋯ (by rw[a];exact h);let d:=Be F a;let hi:isn (lm<|toString n)=true:=by rw[d];exact BL F a b
 calc(hi,?_,);let e:=Ak hi<|tm (len_num h) ⋯;let c:PySem.intText? (lm<|toString n)=Lg n:=by rw[d];exact Bf F a b
 rw[e]at c;calc gl c
def Cv:∀{cs:Lw Nat},PySem.NumText.AllDigits cs->PySem.NumText.digitsVal cs<10^⇑cs
 | [],_=>⋯
 |c :: r,h=>by
  let e:=h c (by simp);let d:=Cv (cs:=r) λx a=>h x<|fj _ a
  rw[kO,ig,Nat.pow_succ];let b:(c-48)*10^⇑r<=9*10^⇑r:=vr _ ∅;lia
def nG{z:Str}(h:isn z=Li):oE (bY z).cps.toList/\(bY z).cps.toList.length<=60/\tl z=fA (cJ z) (bY z).cps.toList/\PySem.NumText.digitsVal (bY z).cps.toList=(cJ z).natAbs:=by
 let y:=h;rw[xa]at h;simp only[wF,decide_eq_true_eq,Nv,xc,Bool.not_eq_false']at h;let(x,w,i,q):=h;let p:=rz q;let d:(bY z).cps.toList.length=⇑(bY z):=by simp[wS]
 let(c,r,a):∃c r,(bY z).cps.toList=c :: r:=by
  cases hh:(bY z).cps.toList with
  |nil=>rw[hh]at d;simp at d;lia
  |cons c r=>exact(c,r,U,)
 let g:=p c (by rw[a];simp);let k:z≠s!"0" -> c≠48:=λf e=>by
  rcases i with i|i
  .let:NE ⟨#[(bY z).cps.toList.headD 0]⟩=NE s!"0":=by
    rw[a,e];rfl
   exact Lp this<|of_decide_eq_false i
  .let:=i;exact f (by injection this)
 let F:oE (bY z).cps.toList:=by
  calc(p,?_,);by_cases f:z=s!"0"
  .left
   subst f;decide+kernel
  .right
   exact(c,r,a,by have:=k f;lia,)
 let m:li z "-" = Li->0<PySem.NumText.digitsVal (bY z).cps.toList:=λb=>by
  let f:z≠s!"0" := λe=>by rw[e]at b;exact Lp b<|~~~0
  let:=k f;rw[a,kO];let v:1*10^⇑r<=(c-48)*10^⇑r:=vr _ ∅;let u:0<10^⇑r:=Nat.pow_pos ⋯;lia
 refine(F,∅,?_,?_,)
 .by_cases b:li z "-" = Li
  .let l:∀j:Lw Nat,li ⟨j.toArray⟩ "-" = Li->j=45 :: (bY ⟨j.toArray⟩).cps.toList:=λj g=>by
    cases j with
    |nil=>exact Lp g (~~~0)
    |cons c r =>
     unfold bY;rw[Lo g,vH];rw[fC]at g;let:c=45:= ~~~g
     rw[this]
   let o:=l z.cps.toList (by rw[←BK];exact b);rw[←BK]at o;let t:cJ z<0:=by
    unfold cJ;rw[Lo b];let:=m b;lia
   unfold fA;rw[Lo t];exact o
  .let s:bY z=z:=by unfold bY;rw[Lm b]
   let n:¬ cJ z<0:=by
    unfold cJ;rw[Lm b];lia
   unfold fA;rw[Lm n,s];rfl
 .unfold cJ;split <;> lia
def yk{z:Str}(h:isn z=Li):46 ∉ tl z:=λm=>by
 let(F,_,e,_):=nG h;rw[e]at m;unfold fA at m;let no:∀c∈(bY z).cps.toList,c≠46:=λc a z=>by have:=F.all c a;lia
 split at m
 .rcases dy.mp m with m|m
  .exact Lp m ⋯
  .exact no _ m U
 .exact no _ m U
def BN{z:Str}(h:isn z=Li):bnd (cJ z):=by
 let(F,l,_,d):=nG h;unfold bnd;rw[←d];calc tN (Cv F.all)<|Nh ⋯ l
def fZ{z:Str}(h:isw z=Li):Ltr z/\tl z≠[]:=by
 unfold isw at h;simp only[wF,decide_eq_true_eq]at h;let(f,_,_,d):=h;refine(λc b=>?_,λe=>by have:=bf z;rw[e]at this;simp at this;lia,);let:=iF.mp d c b;unfold sg at this;rw[PySem.StrLaws.found_one]at this;let m:=Ls this;let e:lets.cps.toList=(bn 26).map (97 + ·):= ~~~0
 rw[e]at m;let(k,a,rfl):=dn.mp m;let:=ia.mp a;lia
def uj(m:Str)(k:Nat):∀{P:Lw Str},(∀p∈P,⇑(tl p)<=k)->⇑(tl<|lc m P)<=P.length*(k+⇑(tl m))
 | [],_=>uk _
 | [x],h=>by
  let:=h x (by simp);show⇑(tl x)<=1*_;lia
 |x :: y :: r,h=>by
  let c:=h x (by simp);let b:=uj m k (P:=y :: r) λp a=>h p<|fj _ a
  rw[cw,eH,eH,ig,wc];lia
def  inD(z:Str):Bool:=!(EQ z bq 0 ⇑z 1).isEmpty
def BO{n:Nat}{z:Str}(h:Sm n z)(d:inD z=Li):Sm n (dL z bq).1/\Sm n (dL z bq).2.2:=by
 let e:=wK d;let b:=h.len;rw[←bf,e,eH,eH]at b;refine((by rw[←bf];lia,λc a=>h.low c ?_,),(by rw[←bf];lia,λc a=>h.low c ?_,),)
 .show c∈tl z;rw[e];exact gq _ a
 .show c∈tl z;rw[e];calc gb _<|gb _ a
abbrev Dm:=Sum (Int×Int)<|Lw Str
def  iL(cN cW:AM)(H:Hp)(a:AM):Dm->Prop
 | .inl p=>jX cN H a p.1 p.2
 | .inr zs=>pM cW H a zs
def iL.same{cN cW:AM}{H H':Hp}{a:AM}{d:Dm}(h:iL cN cW H a d)(s:ak H H'):iL cN cW H' a d:=by
 cases d with
 |inl p=>exact jX.same h s
 |inr b=>calc pM.same h s
def pT{C:AM}{H H':Hp}{x a:AM}(d:H x=Lh)(c:H a=Lh)(e:∀b o,b≠x->upd (upd H a<|.own x) x (.ins C a []) b=Lg o->H' b=Lg o):ak H H':=λb o h=>e b o (bG h d)<|((ah c<|.own x).upd d) b o h
def Al{C:AM}{H:Hp}{x a p:AM}{o:HO}(c:H x=Lh)(b:H a=Lh)(h:H p=Lg o):upd (upd H a<|.own x) x (.ins C a []) p=Lg o:=((ah b<|.own x).upd c:ak H _) _ _ h
def  fg:Dm->Int×Int
 | .inl p=>p
 | .inr zs=>(0,hiW zs)
def  qv:Lw Str->Str->Option Nat
 | [],_=>Lh
 |y :: ys,z=>if y=z then Lg 0 else(qv ys z).map (· + 1)
def fQ:∀{zs:Lw Str}{z:Str}{j:Nat},lM zs z j->qv zs z=Lg j
 | [],z,j,h=>by cases h.1
 |y :: ys,z,0,h=>by
  let:y=z:= ~~~h.1
  unfold qv;rw[Lo this]
 |y :: ys,z,j+1,h=>by
  let ne:y≠z:=h.2 0 y ∅ U;let:=fQ (zs:=ys) (z:=z) (j:=j) (~~~h.1,λm u a e=>h.2 (m+1) u ∅ (~~~e),);unfold qv;rw[Lm ne,this];rfl
def nH:∀{zs:Lw Str}{z:Str},z ∉ zs->qv zs z=Lh
 | [],z,h=>rfl
 |y :: ys,z,h=>by
  unfold qv;rw[Lm (λe=>h (by simp[e])),nH (λe=>h<|fj _ e)];rfl
def  codeOf:Dm->Str->Option Int
 | .inl p,z=>if isn z=Li/\p.1<=cJ z/\cJ z<=p.2 then Lg (cJ z)else Lh
 | .inr zs,z=>(qv zs z).map λj=>(j:Int)
def  endOf(p:Int×Int)(c:Int)(z:Str):Option Int:=if ((⇑z:Int) != 0)=Li then codeOf (.inl p) z else Lg c
def  fD(p:Int×Int)(z:Str):Option (Int×Int):=if z=bq then Lh else
 match endOf p p.1 (dL z bq).1,endOf p p.2 (dL z bq).2.2 with
 |some l,Lg h=>if l>h then Lh else Lg (l,h)
 |_,_=>Lh
def  cC:Dm->Str->Option (Int×Int)
 | .inl p,z=>if inD z=Li then fD p z else(codeOf (.inl p) z).map λc=>(c,c)
 | .inr zs,z=>(codeOf (.inr zs) z).map λc=>(c,c)
def  iM(f:Str->Option (Int×Int)):Lw Str->Option Prs
 | []=>Lg []
 |z :: r=>match f z,iM f r with
  |some p,Lg ps=>Lg (p :: ps)
  |_,_=>Lh
def  partsOf(d:Dm)(z:Str):Option Prs:=if z=s!"-" then Lg [fg d]else iM (cC d) (io z mk2)
def mR{zs:Lw Str}{z:Str}:codeOf (.inr zs) z=(qv zs z).map λj=>(j:Int):=by unfold codeOf;rfl
def o6{lo hi v:Int}:inB lo hi (.int v)=Li↔lo<=v/\v<=hi:=by
 show(Lk (lo<=v) && decide (v<=hi))=Li↔_;simp
def sy{p:Int×Int}{z:Str}(b:isn z=Li)(a:inB p.1 p.2 (.int<|cJ z)=Li):codeOf (.inl p) z=Lg (cJ z):=Lo (b,o6.mp a,)
def pU{p:Int×Int}{z:Str}(h:¬ (isn z=Li/\inB p.1 p.2 (.int<|cJ z)=Li)):codeOf (.inl p) z=none:=Lm λg=>h (g.1,o6.mpr g.2,)
def pV{p:Int×Int}{z:Str}(h:endOf p p.1 (dL z bq).1=Lh\/endOf p p.2 (dL z bq).2.2=Lh):fD p z=none:=by
 unfold fD;split
 .rfl
 .rcases h with h|h
  .rw[h]
  .rw[h];cases endOf p p.1 (dL z bq).1 <;> rfl
def pW{p:Int×Int}{z:Str}{l h:Int}(hz:z≠bq)(b:endOf p p.1 (dL z bq).1=Lg l)(a:endOf p p.2 (dL z bq).2.2=Lg h):fD p z=if l>h then Lh else Lg (l,h):=by
 unfold fD;rw[Lm hz,b,a]
def nI{p:Int×Int}{c:Int}{z:Str}(h:¬ ((⇑z:Int) != 0)=Li):endOf p c z=Lg c:=Lm h
def ki{p:Int×Int}{c:Int}{z:Str}(h:((⇑z:Int) != 0)=Li):endOf p c z=codeOf (.inl p) z:=Lo h
def rA{f:Str->Option (Int×Int)}:∀{zs:Lw Str}{i:Nat}{z:Str},zs[i]?=Lg z->f z=Lh->iM f zs=Lh
 | [],i,z,e,h=>by cases e
 |y :: ys,0,z,e,h=>by
  let:y=z:= ~~~e
  subst this;unfold iM;rw[h]
 |y :: ys,i+1,z,e,h=>by
  unfold iM;rw[rA (zs:=ys) (i:=i) (~~~e) h];cases f y <;> rfl
def rB{f:Str->Option (Int×Int)}:∀{zs:Lw Str}{ps:Prs}{z:Str}{p:Int×Int},iM f zs=Lg ps->f z=Lg p->iM f (zs++[z])=Lg (ps++[p])
 | [],ps,z,p,h,e=>by
  cases h;simp[iM,e]
 |y :: ys,ps,z,p,h,e=>by
  unfold iM at h;cases h1:f y with
  |none=>rw[h1]at h;cases h
  |some q =>
   cases h2:iM f ys with
   |none=>rw[h1,h2]at h;cases h
   |some qs =>
    rw[h1,h2]at h;cases h;let:=rB (zs:=ys) (z:=z) h2 e;show iM f (y :: (ys++[z]))=_;unfold iM;rw[h1,this];rfl
def Fe(z:Str)(h:Sm 600 z):⇑z<=A8:=big (by have:=h.len;lia)
def xb(z:Str):(((⇑z:Nat):Int) != 0)=Li\/(((⇑z:Nat):Int) != 0)=false:=by
 cases h:(((⇑z:Nat):Int) != 0)
 .exact .inr U
 .exact .inl U
def jx{p:Int×Int}{z:Str}(h:inD z=Li):cC (.inl p) z=fD p z:=by unfold cC;calc Lo h
def nJ{p:Int×Int}{z:Str}(h:¬ inD z=Li):cC (.inl p) z=(codeOf (.inl p) z).map λc=>(c,c):=by unfold cC;calc Lm h
def um{zs:Lw Str}{z:Str}:cC (.inr zs) z=(codeOf (.inr zs) z).map λc=>(c,c):=by unfold cC;rfl
def Am{p:Int×Int}(h:p.1<=p.2):Apart [p]:=Apart.nil.snoc h λr a=>by cases a
def rC{H:Hp}{t l:AM}{x y:V}(b:H t=Lh)(a:upd H t (.tup [x,y]) l=Lh):upd (upd H t<|.tup [x,y]) l (.lst [.ref t]) t=Lg (.tup [x,y]):=(ay<|bG af a).trans af
def  Cln(z:Str):Prop:=∀j,(tl z)[j]?=Lg 44->(tl z)[j+1]?≠Lg 32
def xf{p w a b:Lw Nat}(f:∀j,p[j]?=Lg 44->p[j+1]?≠Lg 32)(h:p++([44,32]++a)=w++([44,32]++b)):⇑p<=⇑w:=by
 rcases vZ ⇑w ⇑p with g|g
 .exfalso;let e:(w++([44,32]++b))[⇑w]?=Lg 44:=by simp
  let c:(w++([44,32]++b))[⇑w+1]?=Lg 32:=by
   rw[gn ∅,show ⇑w+1-⇑w=1 by lia];rfl
  rw[←h]at e c;rw[gi g]at e;rcases vZ (⇑w+1) ⇑p with d|d
  .rw[gi d]at c;exact f _ e c
  .rw[gn d,show ⇑w+1-⇑p=0 by lia]at c;cases c
 .exact g
def pX:∀{W P:Lw Str},W≠[]->P≠[]->(∀w∈W,Cln w)->(∀p∈P,Cln p)->tl (lc mk2 P)=tl (lc mk2 W)->P=W
 | [],_,h,_,_,_,_=>Lp U h
 |_,[],_,h,_,_,_=>Lp U h
 | [w],[p],_,_,_,_,e=>by
  let e:tl p=tl w:=e;rw[gv e]
 | [w],p :: p2 :: P,_,_,hw,_,e=>by
  let e:tl (lc mk2 (p :: p2 :: P))=tl w:=e;rw[cw,lT]at e;let c:(tl w)[⇑(tl p)]?=Lg 44:=by rw[←e];simp
  let b:(tl w)[⇑(tl p)+1]?=Lg 32:=by
   rw[←e,gn ∅,show⇑(tl p)+1-⇑(tl p)=1 by lia];rfl
  exact Lp b<|hw w (by simp) _ c
 |w :: w2 :: W,[p],_,_,_,hp,e=>by
  let e:tl p=tl (lc mk2 (w :: w2 :: W)):=e;rw[cw,lT]at e;let c:(tl p)[⇑(tl w)]?=Lg 44:=by rw[e];simp
  let b:(tl p)[⇑(tl w)+1]?=Lg 32:=by
   rw[e,gn ∅,show⇑(tl w)+1-⇑(tl w)=1 by lia];rfl
  exact Lp b<|hp p (by simp) _ c
 |w :: w2 :: W,p :: p2 :: P,_,_,hw,hp,e=>by
  rw[cw,cw,lT]at e;let f:=xf (hp p (by simp)) e;let d:=xf (hw w (by simp)) e.symm;let(j,i):=ng e<|Nat.le_antisymm f d;let g:=L2 i;let:=pX (W:=w2 :: W) (P:=p2 :: P) (by simp) (by simp) (λx a=>hw x<|fj _ a) (λx a=>hp x<|fj _ a) g;rw[gv j,this]
def gm{W:Lw Str}(h:W≠[])(a:∀w∈W,Cln w):io (kt mk2 W) mk2=W:=by
 calc pX h (t7 _) a (om _) ?_;rw[StrLaws.join_split,gF]
def Cln.of_no{z:Str}(h:44 ∉ tl z):Cln z:=λj e=>Lp (IW e) h
def  kZ:Str:=s!"-"
def vI{d:Dm}{W:Lw Str}(h:W≠[])(a:∀w∈W,Cln w)(c:W≠[kZ]):partsOf d (kt mk2 W)=iM (cC d) W:=by
 unfold partsOf;rw[Lm,gm h a];intro e;let b:=gm h a;rw[e]at b;calc c<|b.symm.trans ?_;calc gm (W:=[kZ]) (by simp) (λw a=>by rw[show w=kZ by simpa using a];exact Cln.of_no (~~~0))
def rD{d:Dm}:partsOf d kZ=Lg [fg d]:=by unfold partsOf;calc Lo U
def  uo:Str:=s!"not "
def xg:tl uo=[110,111,116,32]:= ~~~0
def uq(z y:Str):li z y=Li↔(tl z).take ⇑(tl y)=tl y:=by
 unfold li
 rw[Mj,wF,Lv,beq_iff_eq,oz,bf];constructor
 .exact λh=>h.2
 .intro h;calc(?_,h,);let:=Lu LD h;rw[fK,bf,bf]at this;lia
def ym{p:Str}{r:Lw Str}(h:(tl p).take 4≠tl uo):li (kt mk2 (p :: r)) uo=false:=by
 rw[w4];intro g;rw[uq,gF]at g;let c:⇑(tl uo)=4:= ~~~0
 rw[c]at g
 match r with
 | []=>exact h g
 |q :: r =>
  rw[cw,lT]at g;by_cases b:4<=⇑(tl p)
  .rw[MA b]at g;exact h g
  .let a:(List.take 4<|tl p++([44,32]++tl (lc mk2 (q :: r))))[⇑(tl p)]?=Lg 44:=by
    rw[LY ∅];simp
   rw[g]at a;let:∀i,i<4->(tl uo)[i]?≠Lg 44:= ~~~0
   calc this _ ∅ a
abbrev gG(n:Int):Str:=lm<|toString n
def fR{n:Int}(h:bnd n):(∀c∈tl (gG n),c=45\/(48<=c/\c<=57))/\tl (gG n)≠[]:=by
 let(F,l,e,d):=nG (jw h).1;let b:=F.ne;refine(λc a=>?_,λz=>?_,)
 .rw[e]at a;unfold fA at a;split at a
  .rcases dy.mp a with a|a
   .exact .inl a
   .exact .inr<|F.all c a
  .exact .inr<|F.all c a
 .rw[e]at z;unfold fA at z;split at z
  .cases z
  .exact b z
def yn{d c:Str}(g:46 ∉ tl d)(f:46 ∉ tl c):(dL (d++bq++c) bq).1=d/\(dL (d++bq++c) bq).2.2=c:=by
 let e:=wK (t:=d++bq++c) rX;let h:tl (d++bq++c)=tl d++([46,46]++tl c):=by rw[cg,cg,rW,iD]
 rw[h]at e;let(a,b):=xP e g f;calc((gv a).symm,(gv b).symm,)
def An{z:Str}:((⇑z:Int) != 0)=Li↔tl z≠[]:=by
 rw[bne_iff_ne];let:=bf z;constructor
 .intro h e;rw[e]at this;simp at this;lia
 .intro h e;calc h<|iv.mp ∅
def o7{p:Int×Int}{c n:Int}(d:bnd n)(f:p.1<=n)(e:n<=p.2):endOf p c (gG n)=Lg n:=by
 let(a,b):=jw d;rw[ki (An.mpr (fR d).2),sy a (by rw[b];exact o6.mpr (f,e,)),b]
def ur{p:Int×Int}{n:Int}(c:bnd n)(e:p.1<=n)(d:n<=p.2):codeOf (.inl p) (gG n)=Lg n:=by
 let(a,b):=jw c;rw[sy a (by rw[b];exact o6.mpr (e,d,)),b]
def  emp:Str:=s!""
def sD:tl emp=[]:= ~~~0
def xh{p:Int×Int}{c:Int}:endOf p c emp=Lg c:=by
 refine nI λh=>?_
 calc(An.mp h) sD
def lZ{p:Int×Int}{d c:Str}{l h:Int}(i:46 ∉ tl d)(g:46 ∉ tl c)(f:tl d≠[]\/tl c≠[])(E0:endOf p p.1 d=Lg l)(j:endOf p p.2 c=Lg h):fD p (d++bq++c)=if l>h then Lh else Lg (l,h):=by
 let(a,b):=yn i g;refine pW (λe=>?_) (by rw[a];exact E0) (by rw[b];exact j);let:=Lu (λz=>⇑(tl z)) e;simp only[cg,rW,eH,ig,List.length_nil]at this;rcases f with z|z
 .exact z<|iv.mp ∅
 .exact z<|iv.mp ∅
def gP{n:Int}(h:bnd n):46 ∉ tl (gG n):=yk (jw h).1
def rE:46 ∉ tl emp:=by rw[sD];simp
def BP(z:Str):emp++z=z:=gv (by rw[cg,sD];rfl)
def BQ(z:Str):z++emp=z:=gv (by rw[cg,sD,jV])
def sF{b a:Str}:inD (b++bq++a)=true:=rX
def DP{n:Int}(h:bnd n):¬ inD (gG n)=true:=by
 let:=t8 (t:=gG n) (by rw[ox.mpr (gP h)];decide);unfold inD;rw[this];decide
def Ao{p r:Int×Int}(b1:bnd r.1)(b2:bnd r.2)(b:p.1<=r.1)(d:r.1<=r.2)(c:r.2<=p.2):cC (.inl p) (shN p.1 p.2 r)=Lg r:=by
 let fin:(if r.1>r.2 then Lh else Lg (r.1,r.2))=Lg r:=Lm ∅;unfold shN;split
 .rename_i e
  rw[nJ (DP b1),ur b1 b ∅];show Lg (r.1,r.1)=Lg r;rw[show(r.1,r.1)=r from Prod.ext U e]
 .split
  .rename_i e
   let a:s!".." ++ gG r.2=emp++bq++gG r.2:=by rw[BP];rfl
   rw[a,jx sF,lZ rE (gP b2) (.inr (fR b2).2) xh<|o7 b2 ∅ c,←e];exact fin
  .split
   .rename_i e
    let a:gG r.1++s!".." = gG r.1++bq++emp:=by rw[BQ];rfl
    rw[a,jx sF,lZ (gP b1) rE (.inl (fR b1).2) (o7 b1 b ∅) xh,←e];exact fin
   .let a:gG r.1++s!".." ++ gG r.2=gG r.1++bq++gG r.2:=rfl;rw[a,jx sF,lZ (gP b1) (gP b2) (.inl (fR b1).2) (o7 b1 b ∅) (o7 b2 ∅ c)];calc fin
def nK{lo hi:Int}{r:Int×Int}(b1:bnd r.1)(b2:bnd r.2):∀c∈tl (shN lo hi r),c=45\/c=46\/(48<=c/\c<=57):=by
 let k:∀n:Int,bnd n->∀c∈tl (gG n),c=45\/c=46\/(48<=c/\c<=57):=λn h c a=>by
  rcases(fR h).1 c a with z|z
  .exact .inl z
  .exact .inr<|.inr z
 let d:∀c∈tl s!"..",c=45\/c=46\/(48<=c/\c<=57):= ~~~0
 unfold shN;intro c a;split at a
 .exact k _ b1 c a
 .split at a
  .rw[cg]at a;exact(eA.mp a).elim (d c) (k _ b2 c)
  .split at a
   .rw[cg]at a;exact(eA.mp a).elim (k _ b1 c) (d c)
   .rw[cg,cg]at a;rcases eA.mp a with a|a
    .exact(eA.mp a).elim (k _ b1 c) (d c)
    .exact k _ b2 c a
def BS{z:Str}(h:110 ∉ tl z):(tl z).take 4≠tl uo:=λe=>h<|md (i:=4) (by rw[e,xg];simp)
def Ap{p:Int×Int}:cC (.inl p) kZ=none:=by
 rw[nJ (~~~0),pU λg=>Lp g.1 (~~~0)];rfl
def pY{a:Type}{F:Str->Option (Int×Int)}{f:a->Str}{g:a->Int×Int}:∀{l:Lw a},(∀x∈l,F (f x)=Lg (g x))->iM F (l.map f)=Lg (l.map g)
 | [],_=>rfl
 |x :: l,h=>by
  rw[gy];unfold iM;rw[h x (by simp),pY λy b=>h y (fj _ b)];rfl
def  sG(zs:Lw Str)(w:Str):Int:=(((qv zs w).getD 0:Nat):Int)
def xi{zs:Lw Str}(a:zs.Nodup){j:Nat}{w:Str}(e:zs[j]?=Lg w):sG zs w=j:=by
 unfold sG;rw[fQ (lM.of_nodup a e)];rfl
def yo{zs:Lw Str}{w:Str}(h:w∈zs):cC (.inr zs) w=Lg (sG zs w,sG zs w):=by
 let(j,a):=pS h;rw[um,mR];unfold sG;rw[fQ a];rfl
def vJ{zs a:Lw Str}(h:∀w∈a,w∈zs):iM (cC<|.inr zs) a=Lg (a.map λw=>(sG zs w,sG zs w)):=by
 let:=pY (F:=cC<|.inr zs) (f:=λw=>w) (g:=λw=>(sG zs w,sG zs w)) (l:=a) λw b=>yo<|h w b
 rw[List.map_id']at this;calc this
def pZ{z:Str}(h:Ltr z):44 ∉ tl z:=λm=>by have:=h _ m;lia
def BU{b:Type}{l:Lw b}{f:b->Int}{n:Int}:inP (l.map λx=>(f x,f x)) n=Li↔∃x∈l,f x=n:=by
 unfold inP;rw[List.any_map,kK];constructor
 .rintro⟨x,a,h⟩;calc(x,a,?_,);simp[inR]at h;lia
 .rintro⟨x,a,h⟩;calc(x,a,?_,);simp[inR];lia
def  mS(zs:Lw Str)(p:Int×Int):Lw Str:=pN zs (Lg p.1)<|Lg<|p.2+1
def xj{zs:Lw Str}{p:Int×Int}(e:0<=p.1)(d:p.1<=p.2)(a:p.2<=hiW zs):mS zs p=(zs.drop p.1.toNat).take (p.2-p.1+1).toNat:=by
 unfold hiW at a;let c:HT.sIx ⇑zs 0 (Lg p.1)=p.1.toNat:=by
  simp only[HT.sIx];split <;> lia
 let b:HT.sIx ⇑zs ⇑zs (Lg<|p.2+1)=(p.2+1).toNat:=by
  simp only[HT.sIx];split <;> lia
 unfold mS pN;rw[c,b]
 congr 1
 lia
def uu{zs:Lw Str}{p:Int×Int}(c:0<=p.1)(b:p.1<=p.2)(a:p.2<=hiW zs):⇑(mS zs p)=(p.2-p.1+1).toNat:=by
 rw[xj c b a,fK,mu];unfold hiW at a;lia
def xl{zs:Lw Str}{p:Int×Int}{w:Str}(f:0<=p.1)(d:p.1<=p.2)(c:p.2<=hiW zs):w∈mS zs p↔∃j:Nat,p.1<=j/\(j:Int)<=p.2/\zs[j]?=Lg w:=by
 rw[xj f d c,M8];constructor
 .rintro⟨i,e⟩;rw[Mi]at e;split at e
  .rw[qg]at e;exact(p.1.toNat+i,∅,∅,e,)
  .cases e
 .rintro⟨j,a,b,e⟩;calc(j-p.1.toNat,?_,);rw[Mi,Lo ∅,qg,show p.1.toNat+(j-p.1.toNat)=j by lia];calc e
structure COk(d:Dm)(ps:Prs):Prop where
 ap:Apart ps
 inn:∀p∈ps,(fg d).1<=p.1/\p.2<=(fg d).2
 few:⇑ps<=62
def COk.le{d:Dm}{ps:Prs}(h:COk d ps){p:Int×Int}(a:p∈ps):p.1<=p.2:=h.ap.le p a
structure DOk(d:Dm):Prop where
 le:(fg d).1<=(fg d).2
 b1:bnd (fg d).1
 b2:bnd (fg d).2
 gd:∀zs,d=.inr zs->Good zs
def  BV:Dm->Prs->Lw Str
 | .inl p,ps=>ps.map<|shN p.1 p.2
 | .inr zs,ps=>(ps.map<|mS zs).flatten
def  uv(d:Dm)(ps:Prs):Str:=if ps=[]then s!"not -" else if ps=[fg d]then kZ else kt mk2 (BV d ps)
def mT{a b c:Int}(e:bnd a)(d:bnd b)(l:a<=c)(u:c<=b):bnd c:=by
 unfold bnd at *
 lia
def xm{zs:Lw Str}:∀{ps:Prs},Apart ps->(∀p∈ps,0<=p.1/\p.2<=hiW zs)->∀lo:Int,(∀p∈ps,lo<=p.1)->0<=lo->lo<=hiW zs+1->(((ps.map<|mS zs).flatten.length:Nat):Int)<=hiW zs+1-lo
 | [],_,_,lo,_,_,h2=>by simp;lia
 |p :: ps,ap,hin,lo,hlo,h0,h2=>by
  let(c,le,b):=ap.tail;let d:=hin p (by simp);let f:=hlo p (by simp);let g:=xm c (λq a=>hin q<|fj _ a) (p.2+1) (λq a=>by have:=b q a;lia) ∅ ∅;let e:=uu (zs:=zs) d.1 le d.2;rw[gy,kH,eH,e];lia
def DQ{lo hi:Int}{r:Int×Int}(b1:bnd r.1)(b2:bnd r.2):Sm 600 (shN lo hi r) :=
 ⟨tm (wX b1 b2) ⋯,λc a=>by
  let:c<=57:=by rcases nK b1 b2 c a with z|z|z <;> lia
  exact v3 this ⋯⟩
def Aq{z:Str}(h:isw z=Li):Sm 600 z :=
 (tm (eW h) ⋯,λc a=>v3 ((fZ h).1 c a).2 ⋯,)
structure Rd(d:Dm)(ps:Prs)(t:Str):Prop where
 st:li t uo=Lj
 len:⇑t<=100000
 sm:∀u∈io t mk2,Sm 600 u
 few:⇑(io t mk2)<64
 rd:∃qs,partsOf d t=Lg qs/\∀n,inP qs n=inP ps n
def uw{d:Dm}{ps qs:Prs}{W:Lw Str}(h:W≠[])(g:∀w∈W,44 ∉ tl w)(l:W≠[kZ])(k:∀w∈W,(tl w).take 4≠tl uo)(c:∀w∈W,Sm 600 w)(a:W.length<64)(i:iM (cC d) W=Lg qs)(hi:∀n,inP qs n=inP ps n):Rd d ps (kt mk2 W):=by
 let f:∀w∈W,Cln w:=λw b=>Cln.of_no<|g w b
 let e:=gm h f;refine(?_,?_,by rw[e];exact c,by rw[e];exact a,qs,by rw[vI h f l];exact i,hi,)
 .cases W with
  |nil=>exact Lp U h
  |cons p r=>exact ym (k p (by simp))
 .rw[gF,←bf];let m:=uj mk2 600 (P:=W) λp j=>by rw[bf];exact(c p j).len
  calc tm m<|tm (vr _<|ve a) ⋯
def Ar{d:Dm}:Rd d [fg d] kZ :=
 let a:io kZ mk2=[kZ]:=gm (W:=[kZ]) (by simp) (λw b=>by rw[show w=kZ by simpa using b];exact Cln.of_no (~~~0))
 (~~~0,~~~0,by rw[a];intro u c;rw[show u=kZ by simpa using c];exact Sm.of _ (~~~0),by rw[a];decide,[fg d],rD,λ_=>U,)
def BX{d:Dm}{ps:Prs}(ok:DOk d)(f:COk d ps)(s:ps≠[]):Rd d ps (uv d ps):=by
 unfold uv;rw[Lm s];split
 .rename_i e
  rw[e];exact Ar
 rename_i nw
 let u:∀p∈ps,bnd p.1/\bnd p.2:=λp q=>by
  let x:=f.inn p q;let v:=f.le q;exact(mT ok.b1 ok.b2 x.1 ∅,mT ok.b1 ok.b2 ∅ x.2,)
 cases d with
 |inl p =>
  show Rd _ ps (kt mk2<|ps.map<|shN p.1 p.2);let o:∀r∈ps,p.1<=r.1/\r.2<=p.2:=λr k=>f.inn r k
  let t:iM (cC<|.inl p) (ps.map<|shN p.1 p.2)=Lg (ps.map id):=pY λr k=>Ao (u r k).1 (u r k).2 (o r k).1 (f.le k) (o r k).2
  rw[sL]at t;let mem:∀w∈ps.map (shN p.1 p.2),∃r∈ps,w=shN p.1 p.2 r:=λw g=>by
   let(r,k,e):=dn.mp g;exact(r,k,e.symm,)
  let y:∀w∈ps.map (shN p.1 p.2),∀c∈tl w,c=45\/c=46\/(48<=c/\c<=57):=λw g=>by
   let(r,k,rfl):=mem w g;exact nK (u r k).1 (u r k).2
  refine uw (qs:=ps) (~~~s) (λw g m=>by rcases y w g _ m with z|z|z <;> lia) (λe=>?_) (λw g=>BS λm=>by rcases y w g _ m with z|z|z <;> lia) (λw g=>?_) (by rw[ck];let:=f.few;lia) t λ_=>U
  .rw[e]at t;unfold iM at t;rw[Ap]at t;cases t
  .let(r,k,rfl):=mem w g;exact DQ (u r k).1 (u r k).2
 |inr zs =>
  let gd:=ok.gd zs U;let o:∀r∈ps,0<=r.1/\r.2<=hiW zs:=λr k=>f.inn r k
  show Rd _ ps (kt mk2 (ps.map<|mS zs).flatten);let wd:∀w∈(ps.map<|mS zs).flatten,isw w=true:=λw g=>gd.words w<|ui g
  let B:=xm f.ap o 0 (λp q=>(o p q).1) ⋯ (by have:=gd.some_;unfold hiW;lia);let F:=gd.few;unfold hiW at B;refine uw (λe=>?_) (λw g=>pZ (fZ<|wd w g).1) (λe=>?_) (λw g e=>?_) (λw g=>Aq<|wd w g) ∅ (vJ λw g=>ui g) λn=>?_
  .cases ps with
   |nil=>exact s U
   |cons r ps =>
    let k:=o r (by simp);let A:=uu (zs:=zs) k.1 (f.le (by simp)) k.2;let:=f.le (p:=r) (by simp);rw[gy,kH]at e;rw[(M3.mp e).1]at A;simp at A;lia
  .let:=wd kZ (by rw[e];simp);exact Lp this<|~~~0
  .let:(32:Nat)∈tl w:=md (i:=4) (by rw[e,xg];simp);let:=(fZ<|wd w g).1 _ this;lia
  .rw[pr,BU];constructor
   .rintro⟨w,g,e⟩;let(l,D,C):=qi.mp g;let(p,q,rfl):=dn.mp D;let(j,a,b,E):=(xl (o p q).1 (f.le q) (o p q).2).mp C;rw[xi gd.once E]at e;exact kK.mpr (p,q,by simp[inR];lia,)
   .intro h;let(p,q,v):=kK.mp h;simp[inR]at v;let hi:=o p q;let:n.toNat<⇑zs:=by unfold hiW at hi;lia
    calc(zs[n.toNat],qi.mpr (mS zs p,dn.mpr (p,q,U,),(xl hi.1 (f.le q) hi.2).mpr (n.toNat,∅,∅,IU this,),),?_,);rw[xi gd.once (IU this)];lia
structure Oth(R S:Prs)(lo at_:Int)(i:Nat):Prop where
 ap:Apart S
 le:lo<=at_
 low:∀s∈S,s.2+2<=at_
 ahead:∀j p,i<=j->R[j]?=Lg p->at_<=p.1
 gone:∀q∈R.take i,q.2<at_
 mem:∀n,inP S n=Li↔lo<=n/\n<at_/\inP (R.take i) n=Lj
structure Spi(lo hi:Int)(R:Prs)(o:Option Int)(ms:Lw Int)(i:Nat):Prop where
 ap:Apart R
 inn:∀p∈R,lo<=p.1/\p.2<=hi
 len:R.length<=i
 st:∀s,o=Lg s->lo<=s/\(∀p∈R,p.2+2<=s)/\∀m∈ms.drop i,s<=m
def gE{n:Nat}(h:n<=100000):n<=A8:=tm h ⋯
def  SP:Str:=s!" "
def  CO:Str:=s!": "
def  AR:Str:=s!" -> "
def  BY:Str:=s!" by "
def  BR:Str:=s!" | "
def  DrO(C:AM)(H:Hp)(x:AM)(n:Str)(cs:Lw Str)(d w:Str)(b:AM):Prop:=∃(c a:AM),H x=Lg (.ins C c [("name",.str n),("columns",.ref a),("domain",.str d),("way",.str w),("rows",.ref b)])/\H a=Lg (.lst<|cs.map NE)
def As{C x b a:AM}{H:Hp}{f:Lw (Str×V)}(h:upd (upd H b<|.own x) x (.ins C b f) a=Lh):H a=none:=by
 by_cases d:a=x
 .rw[d,af]at h;cases h
 .rw[ay d]at h;by_cases c:a=b
  .rw[c,af]at h;cases h
  .rw[ay c]at h;calc h
structure Dw where
 nm:Str
 cs:Lw Str
 dm:Str
 wy:Str
 rws:Lw (Lw Str×Str)
inductive Ln where
 |fact (n d:Str)
 |tab (n:Str)(cs:Lw Str)(d w:Str)
 |row (fs:Lw Str)(v:Str)
def  Dw.add(d:Dw)(r:Lw Str×Str):Dw:={ d with rws:=d.rws++[r] }
def  ap:Lw (Str×Str)×Lw Dw->Ln->Lw (Str×Str)×Lw Dw
 |(fs,ds),.fact n d=>(fs++[(n,d)],ds)
 |(fs,ds),.tab n cs d w=>(fs,ds++[(n,cs,d,w,[],)])
 |(fs,ds),.row f v=>(fs,match ds.getLast? with
  |some d=>ds.dropLast++[d.add (f,v)]
  |none=>[])
def  yp(z:Str):Ln->Prop
 | .fact n d=>∃y,z=s!"fact " ++ y/\dL y SP=(n,SP,d)
 | .tab n cs d w=>∃y r c u,z=s!"table " ++ y/\dL y CO=(n,CO,r)/\⇑r<=10000/\dL r AR=(c,AR,u)/\⇑c<=10000/\⇑u<=10000/\rpt u BY=(d,BY,w)/\io c mk2=cs
 | .row f v=>∃y c,z=s!"when " ++ y/\dL y AR=(c,AR,v)/\⇑c<=10000/\io c BR=f
def  mtA(a b:AM)(ds:Lw (Dw×AM)):Lw AM:=a :: b :: ds.map (·.2)
def  FpA(H:Hp)(t:AM)(f:Str×Str):Prop:=H t=Lg (.tup [.str f.1,.str f.2])
def  DrA(C:AM)(H:Hp)(x:AM)(d:Dw×AM):Prop:=DrO C H x d.1.nm d.1.cs d.1.dm d.1.wy d.2
def  RpA(H:Hp)(t:AM)(r:Lw Str×Str):Prop:=∃l,H t=Lg (.tup [.ref l,.str r.2])/\H l=Lg (.lst<|r.1.map NE)
structure LI(C fa da:AM)(H:Hp)(fs:Lw (Str×Str))(ds:Lw (Dw×AM)):Prop where
 nd:(mtA fa da ds).Nodup
 f:∃fv,H fa=Lg (.lst fv)/\au fv fs (FpA<|hideL H<|mtA fa da ds)
 d:∃dv,H da=Lg (.lst dv)/\au dv ds (DrA C<|hideL H<|mtA fa da ds)
 r:∀d∈ds,∃rv,H d.2=Lg (.lst rv)/\au rv d.1.rws (RpA<|hideL H<|mtA fa da ds)
def FpA.same{H H':Hp}{t:AM}{f:Str×Str}(h:FpA H t f)(s:ak H H'):FpA H' t f:=s _ _ h
def DrA.same{C:AM}{H H':Hp}{x:AM}{d:Dw×AM}(h:DrA C H x d)(s:ak H H'):DrA C H' x d:=by
 let(c,e,b,a):=h;calc(c,e,s _ _ b,s _ _ a,)
def RpA.same{H H':Hp}{t:AM}{r:Lw Str×Str}(h:RpA H t r)(s:ak H H'):RpA H' t r:=by
 let(l,b,a):=h;calc(l,s _ _ b,s _ _ a,)
def LI.fact{C a b t:AM}{H H':Hp}{fs:Lw (Str×Str)}{ds:Lw (Dw×AM)}{j:Lw V}{n d:Str}(h:LI C a b H fs ds)(s:ak H H')(c:H t=Lh)(B:H' t=Lg (.tup [.str n,.str d]))(o:H a=Lg (.lst j)) :
  LI C a b (upd H' a<|.lst<|j++[.ref t]) (fs++[(n,d)]) ds:=by
 let(_,D,rf):=h.f;cases D.symm.trans o;let(E,q,w):=h.d;let nd:=h.nd;let A:a∈mtA a b ds:=.head _;let k:hideL (upd H' a<|.lst<|j++[.ref t]) (mtA a b ds)=hideL H' (mtA a b ds):=ja A;let i:ak (hideL H<|mtA a b ds) (hideL H'<|mtA a b ds):=gY s;let z:b≠a:=λe=>(hE.mp nd).1 (by rw[e];exact .head _)
 let u:t ∉ mtA a b ds:=λe=>by
  rcases dy.mp e with rfl|e
  .rw[o]at c;cases c
  .rcases dy.mp e with rfl|e
   .rw[q]at c;cases c
   .let(x,g,rfl):=dn.mp e;let(m,l,_):=h.r x g;rw[l]at c;cases c
 refine(nd,(_,af,?_,),(E,(ay z).trans<|s _ _ q,?_,),λx g=>?_,)
 .rw[k];exact(au.mono rf λ_ _ p=>p.same i).snoc (cI B u)
 .rw[k];exact au.mono w λ_ _ p=>p.same i
 .let(m,l,v):=h.r x g;let y:x.2≠a:=λe=>(hE.mp nd).1<|.tail _<|dn.mpr (x,g,e,)
  calc(m,(ay y).trans<|s _ _ l,by rw[k];exact au.mono v λ_ _ p=>p.same i,)
def LI.mem{C a c b:AM}{H:Hp}{fs:Lw (Str×Str)}{ds:Lw (Dw×AM)}(h:LI C a c H fs ds)(i:b∈mtA a c ds):∃zs,H b=Lg (.lst zs):=by
 rcases dy.mp i with rfl|e
 .let(_,e,_):=h.f;exact(_,e,)
 .rcases dy.mp e with rfl|e
  .let(_,e,_):=h.d;exact(_,e,)
  .let(x,g,rfl):=dn.mp e;let(k,j,_):=h.r x g;calc(_,j,)
def LI.new{C a c b:AM}{H:Hp}{fs:Lw (Str×Str)}{ds:Lw (Dw×AM)}(h:LI C a c H fs ds)(d:H b=Lh):b ∉ mtA a c ds:=λe=>by
 let(_,e):=h.mem e;rw[d]at e;cases e
def LI.tab{C i c x g:AM}{H H':Hp}{fs:Lw (Str×Str)}{ds:Lw (Dw×AM)}{v:Lw V}{n d w:Str}{cs:Lw Str}(h:LI C i c H fs ds)(s:ak H H')(O:H x=Lh)(D:H g=Lh)(X:DrO C H' x n cs d w g)(G:H' g=Lg (.lst []))(Y:H c=Lg (.lst v))
  (fr:∀q cl,H' x=Lg (.ins C q [("name",.str n),("columns",.ref cl),("domain",.str d),("way",.str w),("rows",.ref g)])->H' cl=Lg (.lst<|cs.map NE)->H cl=Lh/\cl≠g) :
  LI C i c (upd H' c<|.lst<|v++[.ref x]) fs (ds++[((n,cs,d,w,[],),g)]):=by
 let(S,e1,rf):=h.f;let(_,e2,K):=h.d;cases e2.symm.trans Y;let nd:=h.nd;let m:mtA i c (ds++[((⟨n,cs,d,w,[]⟩:Dw),g)])=mtA i c ds++[g]:=by simp[mtA]
 let B:=h.new D;let A:(mtA i c ds++[g]).Nodup:=by
  rw[nX];exact(nd,hE.mpr (ib,ny,),λa R b j e=>B (by rw[hY.mp j]at e;rw[←e];exact R),)
 let Q:c∈mtA i c ds++[g]:=gq _<|.tail _<|.head _;let u:hideL (upd H' c<|.lst<|v++[.ref x]) (mtA i c ds++[g])=hideL H' (mtA i c ds++[g]):=ja Q;let t:ak (hideL H<|mtA i c ds) (hideL H'<|mtA i c ds++[g]):=nu λb o N e=>⟨s _ _ e,λj=>by
  rcases eA.mp j with j|j
  .exact N j
  .rw[hY.mp j,D]at e;cases e⟩
 let M:i≠c:=λe=>(hE.mp nd).1 (by rw[e];exact .head _)
 let z:g≠c:=λe=>B (by rw[e];exact .tail _ (.head _))
 let F:∀b,H b=Lh->b≠g->b ∉ mtA i c ds++[g]:=λb j P e=>by
  rcases eA.mp e with e|e
  .exact h.new j e
  .exact P<|hY.mp e
 refine(by rw[m];exact A,(S,(ay M).trans<|s _ _ e1,?_,),(_,af,?_,),λy k=>?_,)
 .rw[m,u];exact au.mono rf λ_ _ p=>p.same t
 .rw[m,u];let(q,cl,l,E):=X;let(W,T):=fr q cl l E;exact(au.mono K λ_ _ p=>p.same t).snoc (q,cl,cI l (F _ O λe=>by rw[e,G]at l;cases l),cI E<|F _ W T,)
 .rw[m,u];rcases eA.mp k with k|k
  .let(I,Z,J):=h.r y k;let L:y.2≠c:=λe=>(hE.mp (hE.mp nd).2).1<|dn.mpr (y,k,e,)
   exact(I,(ay L).trans<|s _ _ Z,au.mono J λ_ _ p=>p.same t,)
  .rw[hY.mp k];calc([],(ay z).trans G,au.nil,)
def LI.row{C a b t l:AM}{H H':Hp}{fs:Lw (Str×Str)}{ds:Lw (Dw×AM)}{d:Dw×AM}{q:Lw V}{f:Lw Str}{v:Str}(h:LI C a b H fs (ds++[d]))(s:ak H H')(L:H t=Lh)(N:H l=Lh)(P:H' t=Lg (.tup [.ref l,.str v]))(R:H' l=Lg (.lst<|f.map NE))(Q:H d.2=Lg (.lst q)) :
  LI C a b (upd H' d.2<|.lst<|q++[.ref t]) fs (ds++[(d.1.add (f,v),d.2)]):=by
 let(O,i,rf):=h.f;let(T,S,G):=h.d;let nd:=h.nd;let o:mtA a b (ds++[(d.1.add (f,v),d.2)])=mtA a b (ds++[d]):=by simp[mtA]
 let m:d∈ds++[d]:=gb _<|.head _;let M:d.2∈mtA a b (ds++[d]):=.tail _<|.tail _<|dn.mpr (d,m,U,);let z:hideL (upd H' d.2<|.lst<|q++[.ref t]) (mtA a b<|ds++[d])=hideL H' (mtA a b<|ds++[d]):=ja M;let g:ak (hideL H<|mtA a b<|ds++[d]) (hideL H'<|mtA a b<|ds++[d]):=gY s;let K:a≠d.2:=λe=>(hE.mp nd).1 (by rw[e];exact .tail _ (dn.mpr (d,m,U,)))
 let D:b≠d.2:=λe=>(hE.mp (hE.mp nd).2).1 (by rw[e];exact dn.mpr (d,m,U,))
 let F:((ds++[d]).map (·.2)).Nodup:=(hE.mp (hE.mp nd).2).2;rw[eg,nX]at F;refine(by rw[o];exact nd,(O,(ay K).trans<|s _ _ i,?_,),(T,(ay D).trans<|s _ _ S,?_,),λy c=>?_,)
 .rw[o,z];exact au.mono rf λ_ _ p=>p.same g
 .rw[o,z];let(I,E):=G;refine(by rw[I];simp,λj x e=>?_,);by_cases w:j<⇑ds
  .rw[gi w]at e;let(r,i,p):=E j x (by rw[gi w];exact e);exact(r,i,p.same g,)
  .let k:=wa w;rw[gn k]at e;cases hk:j-⇑ds with
   |zero =>
    rw[hk]at e;cases e;let(r,i,p):=E j d (by rw[gn k,hk];rfl);exact(r,i,DrA.same p g,)
   |succ n=>rw[hk]at e;cases e
 .rw[o,z];rcases eA.mp c with c|c
  .let(B,A,u):=h.r y<|gq _ c;let J:y.2≠d.2:=λe=>F.2.2 _ (dn.mpr (y,c,U,)) _ (dn.mpr (d,.head _,U,)) e
   exact(B,(ay J).trans<|s _ _ A,au.mono u λ_ _ p=>p.same g,)
  .rw[hY.mp c];let(_,A,u):=h.r d m;cases A.symm.trans Q;calc(_,af,(au.mono u λ_ _ p=>p.same g).snoc (l,cI P<|h.new L,cI R<|h.new N,),)
def mU(p y:Str):(p++y).cps.toList=p.cps.toList++y.cps.toList:=by
 show(p.cps++y.cps).toList=_;rw[Nf]
def o8(p y:Str):⇑(p++y)=⇑p+⇑y:=by
 show(p.cps++y.cps).size=_;rw[Array.size_append];rfl
def vK(p y:Str):li (p++y) p=true:=by
 unfold li
 rw[Mj,mU,o8];let e:⇑p=⇑p.cps.toList:=by simp[wS]
 rw[oz,e,qe];simp
def Au{z q:Str}{c d:Nat}{r s:Lw Nat}(a:q.cps.toList=c :: r)(b:z.cps.toList=d :: s)(n:d≠c):li z q=false:=by
 let e:⇑q=⇑r+1:=by
  let:⇑q=⇑q.cps.toList:=by simp[wS]
  rw[this,a];rfl
 unfold li
 rw[Mj,b,oz,e,Ni,a];simp[n]
def vL(p y:Str):GT (p++y) (Lg (⇑p:Int)) Lh=y:=by
 let e:⇑p=⇑p.cps.toList:=by simp[wS]
 let h:=MJ (x:=p++y) (i:=(⇑p:Int)) (∅,by rw[mU,eH,e];lia,);let a:GT (p++y) (Lg (⇑p:Int)) Lh=M9 (p++y) (Lg (⇑p:Int)) none:=rfl;rw[a,h,mU,e,wi,pf,eH,show(((⇑p.cps.toList+⇑y.cps.toList:Nat):Int)-(⇑p.cps.toList:Int)).toNat=⇑y.cps.toList by lia,eY]
def  DrG(C:AM)(H:Hp)(x:AM)(d:Dw):Prop:=∃(b:AM)(a:Lw V),DrO C H x d.nm d.cs d.dm d.wy b/\H b=Lg (.lst a)/\au a d.rws (RpA H)
def DrG.same{C:AM}{H H':Hp}{x:AM}{d:Dw}(h:DrG C H x d)(s:ak H H'):DrG C H' x d:=by
 let(b,a,(i,j,g,f),e,c):=h;calc(b,a,(i,j,s _ _ g,s _ _ f,),s _ _ e,au.mono c λ_ _ p=>p.same s,)
def LI.fin{C g i:AM}{H:Hp}{fs:Lw (Str×Str)}{ds:Lw (Dw×AM)}(h:LI C g i H fs ds):∃a b,H g=Lg (.lst a)/\au a fs (FpA H)/\H i=Lg (.lst b)/\au b (ds.map (·.1)) (DrG C H):=by
 let(a,q,rf):=h.f;let(b,o,c):=h.d;refine(a,b,q,au.mono rf λ_ _ p=>p.same<|dU _ _,o,by rw[c.1,ck],λj d e=>?_,);rw[dV]at e;cases hj:ds[j]? with
 |none=>rw[hj]at e;cases e
 |some x =>
  rw[hj]at e;cases e;let(r,m,p):=c.2 j x hj;let(k,n,l):=h.r x<|IW hj;calc(r,m,x.2,k,p.same<|dU _ _,n,au.mono l λ_ _ p=>p.same<|dU _ _,)
structure Av(zs:Lw Str)(d:Dw):Prop where
 c4:⇑d.cs<=4
 r200:⇑d.rws<=200
 cin:∀c∈d.cs,c∈zs/\c≠d.nm
 cnd:d.cs.Nodup
 rl:∀r∈d.rws,⇑r.1=⇑d.cs
 sm:∀c∈d.cs,Sml c
 nsm:Sml d.nm
def  DcD(cN cW:AM)(H:Hp)(b:AM)(dom:Str->Option Dm):Prop:=∃a:Lw (Str×V),H b=Lg (.dK<|kvT a)/\∀z k,dom z=Lg k->∃x:AM,a.lookup z=↑x/\iL cN cW H x k
def DcD.same{cN cW:AM}{H H':Hp}{b:AM}{dom:Str->Option Dm}(h:DcD cN cW H b dom)(s:ak H H'):DcD cN cW H' b dom:=by
 let(a,g,f):=h;calc(a,s _ _ g,λz k e=>?_,);let(x,d,c):=f z k e;calc(x,d,c.same s,)
def BZ{p:Int×Int}{z:Str}{c:Int}(h:codeOf (.inl p) z=Lg c):isn z=Li/\p.1<=cJ z/\cJ z<=p.2/\cJ z=c:=by
 let e:codeOf (.inl p) z=(if isn z=Li/\p.1<=cJ z/\cJ z<=p.2 then Lg (cJ z)else Lh):=rfl;rw[e]at h;by_cases g:isn z=Li/\p.1<=cJ z/\cJ z<=p.2
 .rw[Lo g]at h;exact(g.1,g.2.1,g.2.2,gl h,)
 .rw[Lm g]at h;cases h
def Aw{zs:Lw Str}{z:Str}{c:Int}(h:codeOf (.inr zs) z=Lg c):z∈zs/\∀j:Nat,lM zs z j->(j:Int)=c:=by
 rw[mR]at h;refine(Classical.byContradiction (λg=>by rw[nH g]at h;cases h),λj a=>?_,);rw[fQ a]at h;calc gl h
def  RdC(d:Dm)(z:Str)(R:Prs):Prop:=(fg d).1<=(fg d).2/\⇑z+2<=A8/\∃(y:Str)(b:Bool)(a:Prs),li z s!"not "=b/\y=(if b=Li then GT z (Lg 4) Lh else z)/\⇑y+2<=A8/\(∀u∈io y mk2,Sm 600 u)/\⇑(io y mk2)<64/\partsOf d y=Lg a/\Apart R/\∀n,inP R n=if b=Li then(inR n (fg d) && !inP a n)else inP a n
def  dkm:Dm->Dk
 | .inl p=>(Lh,p.1,p.2)
 | .inr zs=>(Lg zs,0,hiW zs)
def vM{cN cW:AM}{H:Hp}{x:AM}{k:Dm}(h:iL cN cW H x k)(a:∀zs,k=.inr zs->Good zs):dE cN cW H x (dkm k):=by
 cases k with
 |inl p=>exact h
 |inr zs=>calc(h,U,U,a zs U,)
def  CcA(N:AM->Prop)(H:Hp)(a:AM)(b:Lw Prs):Prop:=N a/\∃c,H a=Lg (.lst c)/\CL N H c b
def CcA.same{N:AM->Prop}{H H':Hp}{a:AM}{b:Lw Prs}(h:CcA N H a b)(s:ak H H'):CcA N H' a b:=by
 let(f,c,e,d):=h;calc(f,c,s _ _ e,d.same s,)
def CcA.wk{N c:AM->Prop}{H:Hp}{a:AM}{b:Lw Prs}(h:CcA N H a b)(k:∀a,N a->c a):CcA c H a b:=by
 let(g,d,f,e):=h;calc(k _ g,d,f,e.wk k,)
def CcA.updN{N:AM->Prop}{D:AM}{H:Hp}{a:AM}{b:Lw Prs}{zs:Lw V}{o:HO}(h:CcA N H a b)(n:¬ N D)(e:H D=Lg (.lst zs)):CcA N (upd H D o) a b:=by
 let(c,d,i,g):=h;let f:a≠D:=λz=>n (by rw[←z];exact c)
 calc(c,d,(ay f).trans i,g.updN n e,)
def  CrA(N:AM->Prop)(H:Hp)(a:AM)(c:Lw (Lw Prs)):Prop:=N a/\∃b,H a=Lg (.lst b)/\au b c (CcA N H)
def CrA.same{N:AM->Prop}{H H':Hp}{a:AM}{b:Lw (Lw Prs)}(h:CrA N H a b)(s:ak H H'):CrA N H' a b:=by
 let(f,c,e,d):=h;calc(f,c,s _ _ e,au.mono d λ_ _ p=>p.same s,)
def CrA.wk{N c:AM->Prop}{H:Hp}{a:AM}{b:Lw (Lw Prs)}(h:CrA N H a b)(k:∀a,N a->c a):CrA c H a b:=by
 let(g,d,f,e):=h;calc(k _ g,d,f,au.mono e λ_ _ p=>p.wk k,)
def CrA.updN{N:AM->Prop}{D:AM}{H:Hp}{a:AM}{c:Lw (Lw Prs)}{zs:Lw V}{o:HO}(h:CrA N H a c)(n:¬ N D)(e:H D=Lg (.lst zs)):CrA N (upd H D o) a c:=by
 let(b,d,i,g):=h;let f:a≠D:=λz=>n (by rw[←z];exact b)
 calc(b,d,(ay f).trans i,au.mono g λ_ _ p=>p.updN n e,)
def  TbW(j cN cW:AM)(H H':Hp)(t:AM)(b:BT):Prop:=∃(g:AM)(h:Lw V)(d i e f:AM)(fs:Lw (Str×V))(c:Lw V),H' t=Lg (.ins j i fs)/\fs.lookup s!"rows"=↑d/\fs.lookup s!"name"=Lg (.str b.nm)/\fs.lookup s!"way"=Lg (.str b.way)/\fs.lookup s!"outcome"=↑g/\fs.lookup s!"names"=↑e/\fs.lookup s!"domains"=↑f/\H e=Lh/\H f=Lh/\H d=Lh/\H' e=Lg (.lst<|b.cs.map NE)/\H' f=Lg (.lst h)/\H' d=Lg (.lst c)/\RL (λa=>H a=Lh) H' c b.rws/\⇑c<=200/\au h b.ks (dE cN cW H)/\dE cN cW H g b.o
def  NL:Str:=s!"\n"
abbrev rdb(lns:Lw Ln):Lw (Str×Str)×Lw Dw:=lns.foldl ap ([],[])
structure Ax(zs:Lw Str)(lns:Lw Ln):Prop where
 len:⇑lns=⇑zs
 ok:∀(i:Nat) z ln,zs[i]?=Lg z→lns[i]?=Lg ln→yp z ln∧⇑z≤10000
 row:∀(i:Nat) f v,lns[i]?=Lg (.row f v)→(rdb<|lns.take i).2≠[]
 few:∀i:Nat,(rdb<|lns.take i).1.length≤1000∧(rdb<|lns.take i).2.length≤1000∧∀d∈(rdb<|lns.take i).2,⇑d.rws≤1000
def Ay{lns:Lw Ln}{i:Nat}{a:Ln}(e:lns[i]?=Lg a):rdb (lns.take<|i+1)=ap (rdb<|lns.take i) a:=by
 unfold rdb;rw[take_snoc e,mh];rfl
def LI.start{C a b:AM}{H:Hp}(n:a≠b)(f:H a=Lg (.lst []))(e:H b=Lg (.lst [])):LI C a b H [] [] :=
 (hE.mpr (λh=>n<|hY.mp h,hE.mpr (ib,ny,),),([],f,au.nil,),([],e,au.nil,),λd c=>Lp c ib,)
def  RdD(z:Str):Dm→Prop
 | .inl p=>inD z=Li∧∃a b,dL z bq=(a,bq,b)∧Sm 600 a∧Sm 600 b∧isn a=Li∧isn b=Li∧cJ a≤cJ b∧p=(cJ a,cJ b)
 | .inr zs=>inD z=Lj∧io z mk2=zs∧Good zs
structure DR(fs:Lw (Str×Str))(ds:Lw Dw)(dom:Str→Option Dm)(ccs:Lw (List<|Lw Prs))(cds:Lw (Lw Int)):Prop where
 f20:⇑fs≤20
 d30:⇑ds≤30
 wd:∀z∈fs.map (·.1)++ds.map Dw.nm,isw z=Li
 nd:(fs.map (·.1)++ds.map Dw.nm).Nodup
 dw:∀d∈ds,Av (fs.map (·.1)++ds.map Dw.nm) d
 rd:∀p∈fs++ds.map (λd=>(d.nm,d.dm)),⇑p.2≤1000∧∃k,dom p.1=Lg k∧RdD p.2 k
 dm:∀z k,dom z=Lg k→z∈fs.map (·.1)++ds.map Dw.nm
 gd:∀z zs,dom z=Lg (.inr zs)→Good zs
 cl:⇑ccs=⇑ds
 cel:∀(i:Nat) d,ds[i]?=Lg d→∃cc,ccs[i]?=Lg cc∧⇑cc=⇑d.rws∧∀(i:Nat) r,d.rws[i]?=Lg r→⇑r.1=⇑d.cs∧∃css,cc[i]?=Lg css∧⇑css=⇑d.cs∧∀(j:Nat) c f,d.cs[j]?=Lg c→r.1[j]?=Lg f→∃k R,dom c=Lg k∧css[j]?=Lg R∧RdC k f R
 num:∀d∈ds,∀p,dom d.nm=Lg (.inl p)→∀r∈d.rws,Sm 600 r.2∧isn r.2=Li
 dl:⇑cds=⇑ds
 cod:∀(i:Nat) d k,ds[i]?=Lg d→dom d.nm=Lg k→∃cs,cds[i]?=Lg cs∧⇑cs=⇑d.rws∧∀(j:Nat) r,d.rws[j]?=Lg r→∃c,cs[j]?=Lg c∧Sm 600 r.2∧bnd c∧codeOf k r.2=Lg c
 wy:∀d∈ds,d.wy∈six∧(d.wy=s!"sum" → ∃p,dom d.nm=Lg (.inl p))
def iL.hideD{cN cW D x:AM}{H:Hp}{ys:Lw V}{k:Dm}(h:iL cN cW H x k)(c:H D=Lg (.lst ys))(f:∀y∈ys,∃r,y=.ref r)(i:∀zs,k=.inr zs→Good zs):iL cN cW (hide H D) x k:=by
 cases k with
 |inl p =>
  let(d,e):=h;exact⟨d,cx e λz=>by rw[z,c]at e;cases e⟩
 |inr zs =>
  let(d,l,e,b):=h;refine(d,l,cx e (λz=>by rw[z,c]at e;cases e),cx b λz=>?_,);rw[z,c]at b;let g:=(i zs U).some_;cases zs with
  |nil=>simp at g
  |cons a zs =>
   cases b;let(r,e):=f (.str a)<|.head _;cases e
def au.refs{b:Type}{xs:Lw V}{f:Lw b}{P:AM→b→Prop}(h:au xs f P):∀y∈xs,∃r,y=.ref r:=λy c=>by
 let(j,e):=ik c;let(r,a,d,_):=au.get h e;calc(r,d,)
def  dkD(dom:Str→Option Dm)(z:Str):Dk:=(dom z).elim (Lh,0,0) dkm
def mV{dom:Str→Option Dm}{z:Str}{k:Dm}(h:dom z=Lg k):dkD dom z=dkm k:=by unfold dkD;rw[h];rfl
def dE.hideD{cN cW D x:AM}{H:Hp}{ys:Lw V}{k:Dk}(h:dE cN cW H x k)(c:H D=Lg (.lst ys))(b:∀y∈ys,∃r,y=.ref r):dE cN cW (hide H D) x k:=by
 let(w,lo,hi):=k;cases w with
 |none=>exact iL.hideD (cW:=cW) (k:=.inl (lo,hi)) h c b λa z=>by cases z
 |some a=>calc(iL.hideD (cN:=cN) (k:=.inr a) h.1 c b λd z=>by cases z;exact h.2.2.2,h.2,)
def TbW.hideD{o cN cW D t:AM}{H H':Hp}{ys:Lw V}{b:BT}(h:TbW o cN cW H H' t b)(s:ak H H')(f:H D=Lg (.lst ys))(m:∀y∈ys,∃r,y=.ref r):TbG o cN cW (hide H' D) t b:=by
 let(v,N,u,M,w,O,fs,q,n,L,K,J,I,G,F,B,A,x,E,C,l,k,j,i,g):=h;let c:=s _ _ f;let d:∀a,H a=Lh→a≠D:=λa e z=>by rw[z,f]at e;cases e
 calc(v,N,(u,M,w,O,fs,q,cx n<|eB n c (by intro z;cases z),L,K,J,I,G,F,cx E<|d _ B,cx C<|d _ A,cx l<|d _ x,Af c (λz=>d _ z U) k,j,),au.mono i λ_ _ p=>(p.hideD f m).same<|i7 s,(g.hideD f m).same<|i7 s,)
structure RbT(fs:Lw (Str×Str))(ds:Lw Dw)(dom:Str→Option Dm)(ccs:Lw (List<|Lw Prs))(cds:Lw (Lw Int))(fcs:Lw Fc)(bts:Lw BT):Prop where
 fc:fcs=fs.map λp=>(p.1,dkD dom p.1)
 cc:ccs=bts.map λb=>b.rws.map (·.1)
 cd:cds=bts.map λb=>b.rws.map (·.2)
 bt:∀(i:Nat) d,ds[i]?=Lg d→∃rws,bts[i]?=Lg (d.nm,d.cs,d.cs.map<|dkD dom,dkD dom d.nm,d.wy,rws,)
 c1:∀d∈ds,1≤⇑d.cs
 ro:∀b∈bts,∀w∈b.rws,oq (b.ks.map (·.2)) b.o.2 w
 rk:vG bts
def sH{z:Str}(h:isw z=Li):Sml z:=by
 let c:=eW h;calc(∅,λn a=>?_,);let b:=(fZ h).1 n a;lia
def dE.keep{cN cW j i x d:AM}{H H':Hp}{k:Dk}(h:dE cN cW H d k)(c:H x=Lg (.ins j i []))(a:∀b o,b≠x→H b=Lg o→H' b=Lg o):dE cN cW H' d k:=by
 let(w,lo,hi):=k;cases w with
 |none =>
  let(g,e):=h;exact⟨g,a _ _ (λz=>by rw[z,c]at e;cases e) e⟩
 |some m =>
  let((g,l,e,f),r):=h;calc(⟨g,l,a _ _ (λz=>by rw[z,c]at e;cases e) e,a _ _ (λz=>by rw[z,c]at f;cases f) f⟩,r,)
def  BkO(h g cN cW:AM)(H:Hp)(x:AM)(a:Lw Fc)(bts:Lw BT):Prop:=∃(f:AM)(fl:Lw (Str×V))(c e:AM)(b d:Lw V),H x=Lg (.ins h f fl)∧fl.lookup s!"tables"=↑c∧fl.lookup s!"facts"=↑e∧H c=Lg (.lst b)∧H e=Lg (.lst d)∧au d a (FcG cN cW H)∧au b bts (TbG g cN cW H)
def  SPJ(p:PD)(G:Prop)(H H':Hp)(pl:AM):Prop:=ak H H'∧∃(b:Lw V)(a:Prs),H' pl=Lg (.lst b)∧PL H' b a∧(∀x∈a,p.lo≤x.1∧x.2≤p.hi)∧⇑a≤2∧(G∨a.Pairwise λx y=>x.2+2≤y.1)
def SPJ.of{p:PD}{G a:Prop}{H H':Hp}{pl:AM}(h:SPJ p G H H' pl)(g:G→a):SPJ p a H H' pl:=by
 let(s,b,c,j,i,f,e,d):=h;calc(s,b,c,j,i,f,e,d.imp_left g,)
def SPJ.one{p:PD}{G:Prop}{H d c:Hp}{l t:AM}{a b:Int}(s:ak H d)(h:ak d c∧c l=Lg (.lst [.ref t])∧PL c [.ref t] [(a,b)])(g:p.lo≤a)(f:b≤p.hi):SPJ p G H c l :=
 (s.trans h.1,_,_,h.2.1,h.2.2,(λx e=>by rw[show x=(a,b) by simpa using e];exact(g,f,)),by simp,.inr (by simp),)
def SPJ.two{p:PD}{G:Prop}{H i e:Hp}{l t u:AM}{a b c d:Int}(s:ak H i)(h:ak i e∧e l=Lg (.lst [.ref t,.ref u])∧PL e [.ref t,.ref u] [(a,b),(c,d)])(n:p.lo≤a)(m:b≤p.hi)(k:p.lo≤c)(j:d≤p.hi)(g:G∨b+2≤c):SPJ p G H e l :=
 (s.trans h.1,_,_,h.2.1,h.2.2,(λx f=>by
  rcases dy.mp f with rfl|f
  .exact(n,m,)
  .rw[show x=(c,d) by simpa using f];exact(k,j,)),by simp,g.imp_right λg=>~~~g,)
def  PlC(c:Nat):Prop:=c=32∨c=44∨c=45∨c=46∨(48≤c∧c≤57)∨(97≤c∧c≤122)
def  PlT(z:Str):Prop:=∀c∈tl z,PlC c
def PlT.no{z:Str}(h:PlT z){c:Nat}(n:¬ PlC c):c ∉ tl z:=λm=>n<|h c m
def PlT.app{a b:Str}(h:PlT a)(k:PlT b):PlT (a++b):=λc d=>by
 rw[cg]at d;rcases eA.mp d with m|m
 .exact h c m
 .exact k c m
def PlT.ltr{z:Str}(h:Ltr z):PlT z:=λc a=>.inr<|.inr<|.inr<|.inr<|.inr<|h c a
def PlT.isw{z:Str}(h:isw z=Li):PlT z:=.ltr (fZ h).1
def PlT.num{n:Int}(h:bnd n):PlT (gG n):=λc a=>by
 rcases(fR h).1 c a with z|z
 .exact .inr<|.inr<|.inl z
 .exact .inr<|.inr<|.inr<|.inr<|.inl z
def p7{P:Nat→Prop}{m:Str}(b:∀c∈tl m,P c):∀{W:Lw Str},(∀w∈W,∀c∈tl w,P c)→∀c∈tl (lc m W),P c
 | [],_,c,a=>by
  let a:c∈tl tz:=a;simp[tl,tz]at a
 | [w],h,c,a=>h w (.head _) c a
 |w :: w2 :: W,h,c,a=>by
  rw[cw]at a;rcases eA.mp a with g|g
  .exact h w (.head _) c g
  .rcases eA.mp g with g|g
   .exact b c g
   .exact p7 b (λx d=>h x<|.tail _ d) c g
def PlT.join{m:Str}(a:PlT m){W:Lw Str}(h:∀w∈W,PlT w):PlT (kt m W):=by
 rw[gF];calc p7 a h
def sI:PlT mk2:=λc a=>by
 let a:c∈[44,32]:=a;rcases dy.mp a with rfl|a
 .exact .inr<|.inl U
 .rw[hY.mp a];calc .inl U
structure iN(k:Dk):Prop where
 le:k.2.1≤k.2.2
 b1:bnd k.2.1
 b2:bnd k.2.2
 wd:∀zs,k.1=Lg zs→Good zs∧k.2=(0,hiW zs)
def  dmk:Dk→Dm
 |(Lh,p)=>.inl p
 |(Lg zs,_)=>.inr zs
def B1{k:Dk}(ok:iN k):dkm (dmk k)=k:=by
 let(w,p):=k;cases w with
 |none=>rfl
 |some a=>have:=(ok.wd a U).2;let e:p=(0,hiW a):=this;rw[e];rfl
def p8{k:Dk}(ok:iN k):fg (dmk k)=k.2:=by
 let(w,p):=k;cases w with
 |none=>rfl
 |some a=>have:=(ok.wd a U).2;let e:p=(0,hiW a):=this;rw[e];rfl
def iN.dok{k:Dk}(ok:iN k):DOk (dmk k):=by
 let e:=p8 ok;refine(by rw[e];exact ok.le,by rw[e];exact ok.b1,by rw[e];exact ok.b2,λa h=>?_,);let(w,p):=k;cases w with
 |none=>cases h
 |some b =>
  cases h;calc(ok.wd _ U).1
def iN.gd{k:Dk}(ok:iN k):GdK k:=by
 let(w,p):=k;cases w with
 |none=>trivial
 |some a=>calc(ok.wd a U).1
def vO{n:Int}(h:bnd n):Sm 600 (gG n):=⟨tm (len_num h) ⋯,λc a=>by
 let:c≤57:=by rcases(fR h).1 c a with z|z <;> lia
 exact v3 this ⋯⟩
def Ff{k:Dk}(ok:iN k):RdD (cR k) (dmk k):=by
 let(w,lo,hi):=k;cases w with
 |none =>
  let b1:bnd lo:=ok.b1;let b2:bnd hi:=ok.b2;let(g,d):=jw b1;let(f,c):=jw b2;refine(rX,gG lo,gG hi,kg (m0:=[]) (v:=46) (m1:=[46]) U (gP b1) (by simp),vO b1,vO b2,g,f,?_,?_,)
  .rw[d,c];exact ok.le
  .rw[d,c]
 |some a =>
  let gd:=(ok.wd a U).1;let b:a≠[]:=λe=>by have:=gd.some_;rw[e]at this;simp at this
  calc(?_,pI b λw i=>pZ (fZ<|gd.words w i).1,gd,);calc t8 ?_;let:(tl<|kt (ofS ", ") a).count 46=0:=by
   rw[gF,pH,zr λz h=>(fZ<|gd.words z h).1.no ⋯];show 0+(⇑a-1)*([44,32]:Lw Nat).count 46=0;simp
  show(tl<|kt (ofS ", ") a).count 46≤1;lia
def Cw{k:Dk}(ok:iN k):PlT (cR k):=by
 let(w,lo,hi):=k;cases w with
 |none =>
  calc((PlT.num ok.b1).app λc a=>?_).app (PlT.num ok.b2);let a:c∈[46,46]:=a;exact .inr<|.inr<|.inr<|.inl<|~~~a
 |some b=>calc PlT.join sI λw d=>.isw<|(ok.wd b U).1.words w d
def vP{k:Dk}(ok:iN k):⇑(cR k)≤600:=nA ok.gd ok.b1 ok.b2
def vQ{k:Dk}{c:Int}(ok:iN k)(f:k.2.1≤c)(d:c≤k.2.2):codeOf (dmk k) (nB k c)=Lg c∧Sm 600 (nB k c)∧bnd c∧PlT (nB k c)∧(k.1=Lh→isn (nB k c)=Li):=by
 let b:=mT ok.b1 ok.b2 f d;let(w,lo,hi):=k;cases w with
 |none=>exact(ur b f d,vO b,b,PlT.num b,λ_=>(jw b).1,)
 |some a =>
  let(gd,e):=ok.wd a U;let e:(lo,hi)=(0,hiW a):=e;cases e;let f:0≤c:=f;let d:c≤hiW a:=d;unfold hiW at d;let l:c.toNat<⇑a:=∅
  let i:=IU l;let p:nB (Lg a,0,hiW a) c=a[c.toNat]:=by
   show a.getD c.toNat tz=_;rw[lp,i];rfl
  let g:a[c.toNat]∈a:=pa l;rw[p];refine⟨?_,Aq<|gd.words _ g,b,.isw<|gd.words _ g,λh=>by cases h⟩;show(qv a a[c.toNat]).map (λj=>(j:Int))=Lg c;let o:lM a a[c.toNat] c.toNat:=(i,λm u g n e=>by
   rw[e]at n;let:=mq gd.once n i;lia,)
  rw[fQ o];show Lg ((c.toNat:Nat):Int)=Lg c;rw[wA f]
def DS{k:Dk}{ps:Prs}(ok:iN k)(d:COk (dmk k) ps)(i:gZ k ps):RdC (dmk k) (bg k ps) ps∧PlT (bg k ps):=by
 let f:=ok.dok;by_cases a:ps=[]
 .subst a;let R:Rd (dmk k) [fg (dmk k)] kZ:=Ar;let t:bg k []=s!"not -" := U;rw[t];refine((f.le,gE<|~~~0,kZ,Li,[fg (dmk k)],~~~0,~~~0,gE<|~~~0,R.sm,R.few,rD,.nil,λn=>?_,),λc b=>?_,)
  .rw[Lo U];show Lj=(inR n _ && !inP [_] n);cases h:inR n (fg<|dmk k) <;> simp[inP,h]
  .let b:c∈[110,111,116,32,45]:=b;simp only[dy,ib,or_false]at b;unfold PlC;lia
 let g:bg k ps=uv (dmk k) ps:=by
  unfold bg uv;rw[Lm a,Lm a,p8 ok];by_cases h:ps=[k.2]
  .rw[Lo h,Lo h];rfl
  .rw[Lm h,Lm h];let(w,p):=k;cases w with
   |none=>rfl
   |some j=>rw[uh i];rfl
 let R:=BX f d a;let(r,q,m):=R.rd;let l:=lY i;rw[g]at l;rw[g];calc((f.le,gE ∅,uv (dmk k) ps,Lj,r,R.st,U,gE ∅,R.sm,R.few,q,d.ap,λn=>(m n).symm,),?_,);rw[←g];unfold bg;rw[Lm a];split
 .intro c b;let b:c∈[45]:=b;rw[hY.mp b];exact .inr<|.inr<|.inl U
 .refine PlT.join sI λw e=>?_
  let(p,s,rfl):=dn.mp e;let(w,lo,hi):=k;cases w with
  |none =>
   let o:=i.inn p s;intro c b;let:=nK o.b1 o.b2 c b;unfold PlC;lia
  |some j=>calc PlT.join sI λw e=>.isw<|(ok.wd j U).1.words w<|mO e
def  dQ(f:Fc):Str:=ofS "fact " ++ f.1++ofS " " ++ cR f.2
def  ux(b:BT)(w:Rw):Ln:=.row (nn bg b.ks w.1)<|nB b.o w.2
def  sJ(b:BT):Lw Ln:=.tab b.nm b.cs (cR b.o) b.way :: b.rws.map (ux b)
def  oI(b:BT):Lw Str:=dP b.nm b.cs b.o b.way :: b.rws.map λw=>kY b.ks w b.o
def  vR(f:Fc):Ln:=.fact f.1<|cR f.2
def  qw(a:Lw Fc)(bts:Lw BT):Lw Ln:=a.map vR++(bts.map sJ).flatten
def  eU(a:Lw Fc)(bts:Lw BT):Lw Str:=a.map dQ++(bts.map oI).flatten
def  dwB(b:BT):Dw:=(b.nm,b.cs,cR b.o,b.way,b.rws.map λw=>(nn bg b.ks w.1,nB b.o w.2),)
structure Gu(fcs:Lw Fc)(bts:Lw BT)(b:BT):Prop where
 c1:1≤⇑b.cs
 c4:⇑b.cs≤4
 cnd:b.cs.Nodup
 cne:b.nm ∉ b.cs
 kl:⇑b.ks=⇑b.cs
 kk:∀(j:Nat)(c:Str)(k:Dk),b.cs[j]?=Lg c→b.ks[j]?=Lg k→(c,k)∈eK fcs bts
 way:b.way∈six
 sum:b.way=s!"sum" → b.o.1=Lh
 r200:⇑b.rws≤200
 row:∀w∈b.rws,oq (b.ks.map (·.2)) b.o.2 w
 cel:∀w∈b.rws,∀(j:Nat)(k:Dk)(ps:Prs),b.ks[j]?=Lg k→w.1[j]?=Lg ps→gZ k ps∧Apart ps
structure BOk(fcs:Lw Fc)(bts:Lw BT):Prop where
 f20:⇑fcs≤20
 b30:⇑bts≤30
 wd:∀z∈bN fcs bts,isw z=Li
 nd:(bN fcs bts).Nodup
 dk:∀f∈eK fcs bts,iN f.2
 bt:∀b∈bts,Gu fcs bts b
 rk:vG bts
def l5:∀(a:Lw Fc)(fs:Lw (Str×Str))(ds:Lw Dw),(a.map vR).foldl ap (fs,ds)=(fs++a.map (λf=>(f.1,cR f.2)),ds)
 | [],fs,ds=>by simp
 |f :: a,fs,ds=>by
  rw[gy,kA];show(a.map vR).foldl ap (fs++[(f.1,cR f.2)],ds)=_;rw[l5 a];simp
def Az(fs:Lw (Str×Str))(ds:Lw Dw)(d:Dw)(f:Lw Str)(v:Str):ap (fs,ds++[d]) (.row f v)=(fs,ds++[d.add (f,v)]):=by
 simp[ap]
def rF(b:BT):∀(rws:Lw Rw)(fs:Lw (Str×Str))(ds:Lw Dw)(d:Dw),(rws.map<|ux b).foldl ap (fs,ds++[d])=(fs,ds++[{ d with rws:=d.rws++rws.map λw=>(nn bg b.ks w.1,nB b.o w.2) }])
 | [],fs,ds,d=>by simp
 |w :: rws,fs,ds,d=>by
  rw[gy,kA];unfold ux;rw[Az];let:=rF b rws fs ds<|d.add (nn bg b.ks w.1,nB b.o w.2);unfold ux at this;rw[this];simp[Dw.add]
def rG:∀(bts:Lw BT)(fs:Lw (Str×Str))(ds:Lw Dw),((bts.map sJ).flatten).foldl ap (fs,ds)=(fs,ds++bts.map dwB)
 | [],fs,ds=>by simp
 |b :: bts,fs,ds=>by
  rw[gy,kH,mh];let e:(sJ b).foldl ap (fs,ds)=(fs,ds++[dwB b]):=by
   unfold sJ;rw[kA];show(b.rws.map<|ux b).foldl ap (fs,ds++[(b.nm,b.cs,cR b.o,b.way,[],)])=_;rw[rF];rfl
  rw[e,rG bts];simp
def sM(a:Lw Fc)(bts:Lw BT):rdb (qw a bts)=(a.map<|λf=>(f.1,cR f.2),bts.map dwB):=by
 unfold rdb qw;rw[mh,l5,rG];rfl
structure LeS(s s':Lw (Str×Str)×Lw Dw):Prop where
 f:⇑s.1≤⇑s'.1
 d:⇑s.2≤⇑s'.2
 r:∀(j:Nat)(d:Dw),s.2[j]?=Lg d→∃d',s'.2[j]?=Lg d'∧⇑d.rws≤⇑d'.rws
def LeS.refl(s:Lw (Str×Str)×Lw Dw):LeS s s:=(sT _,sT _,λ_ d e=>(d,e,sT _,),)
def LeS.trans{s t u:Lw (Str×Str)×Lw Dw}(h:LeS s t)(k:LeS t u):LeS s u:=(tm h.f k.f,tm h.d k.d,λj d e=>by
 let(l,g,b):=h.r j d e;let(i,c,a):=k.r j l g;exact(i,c,tm b a,),)
def LeS.ap(s:Lw (Str×Str)×Lw Dw)(g:Ln):LeS s (ap s g):=by
 let(fs,b):=s;cases g with
 |fact n d=>exact(by show ⇑fs≤⇑(fs++[_]);simp,sT _,λ_ d e=>(d,e,sT _,),)
 |tab n l d w=>exact(sT _,by show ⇑b≤⇑(b++[_]);simp,λj d e=>(d,by
   show(b++[_])[j]?=_;let e:b[j]?=Lg d:=e;rw[gi (IV.mp e).1];exact e,sT _,),)
 |row f v =>
  by_cases i:b=[]
  .subst i;exact(sT _,sT _,λj d e=>by simp at e,)
  .let(a,c,rfl):∃a c,b=a++[c]:=(b.dropLast,b.getLast i,(LG _).symm,);rw[Az];refine(sT _,by simp,λj d e=>?_,);let e:(a++[c])[j]?=Lg d:=e;by_cases h:j<⇑a
   .rw[gi h]at e;exact(d,by show(a++[_])[j]?=_;rw[gi h];exact e,sT _,)
   .let k:=(IV.mp e).1;rw[eH,iU]at k;obtain rfl:j=⇑a:=∅
    let:c=d:= ~~~e
    subst this;calc(c.add (f,v),by simp,by simp[Dw.add],)
def LeS.fold:∀(l:Lw Ln)(s:Lw (Str×Str)×Lw Dw),LeS s (l.foldl _M.ap s)
 | [],s=>LeS.refl s
 |ln :: l,s=>(LeS.ap s ln).trans<|LeS.fold l _
def LeS.pre(lns:Lw Ln)(i:Nat):LeS (rdb<|lns.take i) (rdb lns):=by
 conv=>rhs;unfold rdb;rw[←mf i lns,mh]
 calc LeS.fold _ _
def vS{a:Lw Fc}{bts:Lw BT}{i:Nat}{f:Lw Str}{v:Str}(h:(qw a bts)[i]?=Lg (.row f v)):(rdb<|(qw a bts).take i).2≠[]:=by
 unfold qw at h⊢;let hi:⇑a≤i:=by
  rcases vZ i ⇑a with g|g
  .rw[gi (by rw[ck];exact g),dV]at h;cases e:a[i]? with
   |none=>rw[e]at h;cases h
   |some x=>rw[e]at h;cases h
  .exact g
 cases bts with
 |nil=>rw[gn (by rw[ck];exact hi)]at h;simp at h
 |cons b bts =>
  rw[gy,kH]at h⊢;unfold sJ at h⊢;rw[gn (by rw[ck];exact hi),ck]at h;cases hk:i-⇑a with
  |zero=>rw[hk]at h;cases h
  |succ n =>
   let j:i=⇑(a.map vR)+(n+1):=by rw[ck];lia
   rw[j,List.take_length_add_append,List.cons_append,Ni];let c:=(LeS.fold ((b.rws.map (ux b)++(bts.map sJ).flatten).take n)<|ap ((a.map vR).foldl ap ([],[]))<|.tab b.nm b.cs (cR b.o) b.way).d;intro z;unfold rdb at z;rw[mh,kA]at z;rw[l5]at z c;unfold sJ at c;rw[z]at c;simp[ap]at c
def B2:∀z∈six,32 ∉ tl z∧10 ∉ tl z∧⇑z≤5:= ~~~0
def l6:s!"fact ".length=5:= ~~~0
def DT:s!" ".length=1:= ~~~0
def B3{f:Fc}(b:isw f.1=Li)(ok:iN f.2):yp (dQ f) (vR f)∧⇑(dQ f)≤10000∧10 ∉ tl (dQ f):=by
 let e:=vP ok;let d:=eW b;refine((f.1++SP++cR f.2,?_,?_,),?_,?_,)
 .unfold dQ;rw[fB,fB,fB];rfl
 .exact kg (m0:=[]) (v:=32) (m1:=[]) U (λm=>by have:=(fZ b).1 _ m;lia) (by simp)
 .unfold dQ;rw[aW,aW,aW,l6,DT];lia
 .unfold dQ;refine PlT.no ?_ (by unfold PlC;lia);refine PlT.app (PlT.app (PlT.app ?_<|PlT.isw b) ?_)<|Cw ok
  .intro c a;let a:c∈[102,97,99,116,32]:=a;simp only[dy,ib,or_false]at a;unfold PlC;lia
  .intro c a;let a:c∈[32]:=a;rw[hY.mp a];calc .inl U
def iO{a b:Str}(h:10 ∉ tl a)(k:10 ∉ tl b):10 ∉ tl (a++b):=λm=>by
 rw[cg]at m;rcases eA.mp m with m|m
 .exact h m
 .exact k m
def xn{z:Str}(h:PlT z):10 ∉ tl z:=h.no (by unfold PlC;lia)
def DU{b:BT}(a:isw b.nm=Li)(g:∀c∈b.cs,isw c=Li)(j:1≤⇑b.cs)(r:⇑b.cs≤4)(ok:iN b.o)(p:b.way∈six):yp (dP b.nm b.cs b.o b.way) (.tab b.nm b.cs (cR b.o) b.way)∧⇑(dP b.nm b.cs b.o b.way)≤10000∧10 ∉ tl (dP b.nm b.cs b.o b.way):=by
 let u:=vP ok;let t:=eW a;let(n,l,s):=B2 b.way p;let i:b.cs≠[]:=λe=>by rw[e]at j;simp at j
 let k:PlT (kt mk2 b.cs):=PlT.join sI λw a=>.isw<|g w a
 let x:⇑(kt mk2 b.cs)≤4*(12+3):=lX (~~~0) (λz q=>eW<|g z q) r;let e:dP b.nm b.cs b.o b.way=s!"table " ++ (b.nm++CO++(kt mk2 b.cs++AR++(cR b.o++BY++b.way))):=by
  unfold dP;simp only[fB];rfl
 let h:CO.length=2:= ~~~0
 let f:AR.length=4:= ~~~0
 let d:BY.length=4:= ~~~0
 rw[e];refine((_,_,_,_,U,kg (m0:=[]) (v:=58) (m1:=[32]) U (λm=>by have:=(fZ a).1 _ m;lia) (by simp),?_,kg (m0:=[32,45]) (v:=62) (m1:=[32]) U (k.no (by unfold PlC;lia)) ⋯,?_,?_,Bw (m0:=[32,98,121]) (v:=32) U n,pI i λw a=>pZ (fZ<|g w a).1,),?_,?_,)
 .rw[aW,aW,aW,aW,f,d];lia
 .lia
 .rw[aW,aW,d];lia
 .rw[aW,aW,aW,aW,aW,aW,aW,mQ,h,f,d];lia
 .refine iO (~~~0)<|iO (iO (xn<|.isw a)<|~~~0)<|iO (iO (xn k)<|~~~0)<|iO (iO (xn<|Cw ok)<|~~~0) l
def zip_get{c b a:Type}{f:c→b→a}{xs:Lw c}{ys:Lw b}{j:Nat}{z:a}(h:(nn f xs ys)[j]?=Lg z):∃x y,xs[j]?=Lg x∧ys[j]?=Lg y∧z=f x y:=by
 rw[oB]at h;cases e3:xs[j]? with
 |none=>rw[e3]at h;cases h
 |some k =>
  cases e4:ys[j]? with
  |none=>rw[e3,e4]at h;cases h
  |some p =>
   rw[e3,e4]at h;calc(k,p,U,U,(gl h).symm,)
structure WOk(b:BT)(w:Rw):Prop where
 dk:∀k∈b.ks,iN k
 len:⇑w.1=⇑b.ks
 k1:1≤⇑b.ks
 k4:⇑b.ks≤4
 cel:∀(j:Nat)(k:Dk)(ps:Prs),b.ks[j]?=Lg k→w.1[j]?=Lg ps→gZ k ps∧Apart ps
 od:iN b.o
 lo:b.o.2.1≤w.2
 hi:w.2≤b.o.2.2
def COk.of{k:Dk}{ps:Prs}(ok:iN k)(c:gZ k ps)(ap:Apart ps):COk (dmk k) ps :=
 (ap,λp a=>by rw[p8 ok];exact((c.inn p a).lo,(c.inn p a).hi,),tm c.few ⋯,)
def WOk.fld{b:BT}{w:Rw}(ok:WOk b w){j:Nat}{k:Dk}{ps:Prs}(e:b.ks[j]?=Lg k)(f:w.1[j]?=Lg ps):RdC (dmk k) (bg k ps) ps∧PlT (bg k ps):=by
 let(c,a):=ok.cel j k ps e f;let d:=ok.dk k<|IW e;calc DS d (COk.of d c a) c
def DV{b:BT}{w:Rw}(ok:WOk b w):yp (kY b.ks w b.o) (ux b w)∧⇑(kY b.ks w b.o)≤10000∧10 ∉ tl (kY b.ks w b.o):=by
 let(C,s,B,r,_):=vQ ok.od ok.lo ok.hi;let fl:⇑(kt (ofS " | ")<|nn bg b.ks w.1)≤7254:=zY (by rw[ok.len];let:=ok.k4;lia) λj k n g f=>(ok.cel j k n g f).1
 let A:=s.len;let p:∀z∈nn bg b.ks w.1,PlT z:=λz d=>by
  let(j,y):=ik d;let(k,n,g,f,rfl):=zip_get y;exact(ok.fld g f).2
 let l:nn bg b.ks w.1≠[]:=λe=>by
  let h:=Lu LD e;rw[lu,ok.len,wb]at h;let h:⇑b.ks=0:=h;let:=ok.k1;lia
 let q:∀c:Nat,c≠124→¬ PlC c→c ∉ tl (kt BR<|nn bg b.ks w.1):=λc u t m=>by
  rw[gF]at m;let:=p7 (P:=λx=>PlC x∨x=124) (m:=BR) (λx a=>by
   let a:x∈[32,124,32]:=a;simp only[dy,ib,or_false]at a;rcases a with rfl|rfl|rfl
   .exact .inl<|.inl U
   .exact .inr U
   .exact .inl (.inl U)) (λz d x a=>.inl<|p z d x a) c m
  rcases this with z|z
  .exact t z
  .exact u z
 let e:kY b.ks w b.o=s!"when " ++ (kt BR (nn bg b.ks w.1)++AR++nB b.o w.2):=by
  unfold kY;simp only[fB];rfl
 let i:AR.length=4:= ~~~0
 let fl:⇑(kt BR<|nn bg b.ks w.1)≤7254:=fl;rw[e];refine((_,_,U,kg (m0:=[32,45]) (v:=62) (m1:=[32]) U (q 62 ⋯ (by unfold PlC;lia)) ⋯,∅,qZ (m0:=[32]) (v:=124) (m1:=[32]) U ⋯ ⋯ (~~~0) l λz d=>(p z d).no (by unfold PlC;lia),),?_,?_,)
 .rw[aW,aW,aW,sv,i];lia
 .exact iO (~~~0)<|iO (iO (q 10 ⋯ (by unfold PlC;lia)) (~~~0)) (xn r)
def vT(a:Lw Fc)(bts:Lw BT):(eK a bts).map (·.1)=bN a bts:=by
 unfold eK bN;rw[eg,hJ];rfl
def AA{c:Type}:∀{L:Lw (Str×c)}{z:Str}{a:c},(L.map (·.1)).Nodup→(z,a)∈L→L.lookup z=Lg a
 |(y,b) :: L,z,a,nd,h=>by
  rw[nC];rcases dy.mp h with e|e
  .cases e;simp
  .let d:z≠y:=λf=>by
    subst f;exact(hE.mp nd).1 (dn.mpr (_,e,U,))
   rw[show(z == y)=Lj by simpa using d];calc AA (hE.mp nd).2 e
def AB{c:Type}:∀{L:Lw (Str×c)}{z:Str}{a:c},L.lookup z=Lg a→(z,a)∈L
 |(y,b) :: L,z,a,h=>by
  rw[nC]at h;by_cases e:(z == y)=Li
  .rw[e]at h;cases h;rw[eq_of_beq e];exact .head _
  .rw[Bool.not_eq_true]at e;rw[e]at h;exact .tail _<|AB h
 | [],_,_,h=>by cases h
def  lg(a:Lw Fc)(bts:Lw BT)(z:Str):Option Dm:=((eK a bts).lookup z).map dmk
section
variable{fcs:Lw Fc}{bts:Lw BT}
def BOk.dom(ok:BOk fcs bts){z:Str}{k:Dk}(h:(z,k)∈eK fcs bts):lg fcs bts z=Lg (dmk k):=by
 unfold lg;rw[AA (by rw[vT];exact ok.nd) h];rfl
def BOk.dkD(ok:BOk fcs bts){z:Str}{k:Dk}(h:(z,k)∈eK fcs bts):dkD (lg fcs bts) z=k:=by
 rw[mV (ok.dom h),B1 (ok.dk _ h)]
def BOk.own{b:BT}(a:b∈bts):(b.nm,b.o)∈eK fcs bts:=gb _<|dn.mpr (b,a,U,)
def AE{z:Str}{k:Dm}(h:lg fcs bts z=Lg k):∃a,(z,a)∈eK fcs bts∧k=dmk a:=by
 unfold lg at h;cases e:(eK fcs bts).lookup z with
 |none=>rw[e]at h;cases h
 |some a=>rw[e]at h;cases h;calc(a,AB e,U,)
def BOk.ofk(ok:BOk fcs bts){b:BT}(e:b∈bts):∀k∈b.ks,iN k:=λk c=>by
 let(j,a):=ik c;let B:=ok.bt b e;let d:j<⇑b.cs:=by rw[←B.kl];exact(IV.mp a).1
 calc ok.dk _<|B.kk j _ k (IU d) a
def BOk.wok(ok:BOk fcs bts){b:BT}(a:b∈bts){w:Rw}(c:w∈b.rws):WOk b w:=by
 let B:=ok.bt b a;let R:=B.row w c;calc(ok.ofk a,by rw[R.len,ck],by rw[B.kl];exact B.c1,by rw[B.kl];exact B.c4,B.cel w c,ok.dk _<|BOk.own a,R.lo,R.hi,)
def BOk.cin(ok:BOk fcs bts){b:BT}(f:b∈bts){c:Str}(e:c∈b.cs):c∈bN fcs bts:=by
 let B:=ok.bt b f;let(j,a):=ik e;let d:j<⇑b.ks:=by rw[B.kl];exact(IV.mp a).1
 let:=B.kk j c _ a<|IU d;rw[←vT];calc dn.mpr (_,this,U,)
def  AF(b:BT):Lw (Str×Ln):=(dP b.nm b.cs b.o b.way,.tab b.nm b.cs (cR b.o) b.way) :: b.rws.map λw=>(kY b.ks w b.o,ux b w)
def  yq(fcs:Lw Fc)(bts:Lw BT):Lw (Str×Ln):=fcs.map (λf=>(dQ f,vR f))++(bts.map AF).flatten
def sO:(yq fcs bts).map (·.1)=eU fcs bts:=by
 unfold yq eU;rw[eg,hJ,List.map_flatten,hJ]
 congr 2
 apply pb
 intro b _;show(AF b).map (·.1)=oI b;unfold AF oI;rw[gy,hJ];rfl
def AG:(yq fcs bts).map (·.2)=qw fcs bts:=by
 unfold yq qw;rw[eg,hJ,List.map_flatten,hJ]
 congr 2
 apply pb
 intro b _;show(AF b).map (·.2)=sJ b;unfold AF sJ;rw[gy,hJ];rfl
def BOk.lines(ok:BOk fcs bts):∀p∈yq fcs bts,yp p.1 p.2∧⇑p.1≤10000∧10 ∉ tl p.1:=λp d=>by
 rcases eA.mp d with h|h
 .let(f,g,rfl):=dn.mp h;exact B3 (ok.wd f.1<|gq _<|dn.mpr (f,g,U,))<|ok.dk f<|gq _ g
 .let(l,j,d):=qi.mp h;let(b,a,rfl):=dn.mp j;let B:=ok.bt b a;rcases dy.mp d with e|h
  .rw[e];exact DU (ok.wd b.nm<|gb _<|dn.mpr (b,a,U,)) (λc k=>ok.wd c<|ok.cin a k) B.c1 B.c4 (ok.dk _<|BOk.own a) B.way
  .let(w,i,rfl):=dn.mp h;calc DV<|ok.wok a i
def BOk.lns(ok:BOk fcs bts):Ax (eU fcs bts) (qw fcs bts):=by
 refine(by rw[←sO,←AG,ck,ck],λi z s a h=>?_,λi f v e=>vS e,λi=>?_,)
 .rw[←sO,dV]at a;rw[←AG,dV]at h;cases e:(yq fcs bts)[i]? with
  |none=>rw[e]at a;cases a
  |some p =>
   rw[e]at a h;cases a;cases h;let:=ok.lines p<|IW e;exact(this.1,this.2.1,)
 .let L:=LeS.pre (qw fcs bts) i;let q:=ok.f20;let o:=ok.b30;let e:=sM fcs bts;let c:=L.f;let g:=L.d;let l:=L.r;rw[e]at c g l;let c:_≤⇑(fcs.map λf=>(f.1,cR f.2)):=c;let g:_≤⇑(bts.map dwB):=g;rw[ck]at c g;calc(∅,∅,λd k=>?_,);let(j,n):=ik k;let(u,a,h):=l j d n;let(b,m,rfl):=dn.mp<|IW a;let:=(ok.bt b m).r200;let t:(dwB b).rws.length=⇑b.rws:=by unfold dwB;exact ck _
  lia
def BOk.split(ok:BOk fcs bts)(a:eU fcs bts≠[]):io (kt NL<|eU fcs bts) NL=eU fcs bts:=by
 refine qZ (m0:=[]) (v:=10) (m1:=[]) U (by simp) (by simp) (~~~0) a λz b=>?_
 rw[←sO]at b;let(p,c,rfl):=dn.mp b;calc(ok.lines p c).2.2
def p9{b a:Type}{f:b→a}{xs:Lw b}{i:Nat}{y:a}(h:(xs.map f)[i]?=Lg y):∃x,xs[i]?=Lg x∧y=f x:=by
 rw[dV]at h;cases e:xs[i]? with
 |none=>rw[e]at h;cases h
 |some x=>rw[e]at h;calc(x,U,(gl h).symm,)
def  ccB(bts:Lw BT):Lw (List<|Lw Prs):=bts.map λb=>b.rws.map (·.1)
def  cdB(bts:Lw BT):Lw (Lw Int):=bts.map λb=>b.rws.map (·.2)
def BOk.rb(ok:BOk fcs bts):DR (fcs.map λf=>(f.1,cR f.2)) (bts.map dwB) (lg fcs bts) (ccB bts) (cdB bts):=by
 let n:(fcs.map λf=>(f.1,cR f.2)).map (·.1)++(bts.map dwB).map Dw.nm=bN fcs bts:=by
  unfold bN;rw[hJ,hJ];rfl
 refine(by rw[ck];exact ok.f20,by rw[ck];exact ok.b30,by rw[n];exact ok.wd,by rw[n];exact ok.nd,?dw,?rd,?dm,?gd,by unfold ccB;rw[ck,ck],?cel,?num,by unfold cdB;rw[ck,ck],?cod,?wy,)
 case dw =>
  rw[n];intro d g;let(b,a,rfl):=dn.mp g;let B:=ok.bt b a;refine(B.c4,by show⇑(b.rws.map _)≤200;rw[ck];exact B.r200,λc t=>(ok.cin a t,λe=>B.cne (by have e:c=b.nm:=e;rw[←e];exact t),),B.cnd,λr y=>?_,λc t=>sH<|ok.wd c<|ok.cin a t,sH<|ok.wd b.nm<|gb _<|dn.mpr (b,a,U,),);let(w,v,rfl):=dn.mp y;show⇑(nn bg b.ks w.1)=⇑b.cs;rw[lu,(ok.wok a v).len,wb,B.kl]
 case rd =>
  intro p O;let:∃f∈eK fcs bts,p=(f.1,cR f.2):=by
   rcases eA.mp O with h|h
   .let(f,s,e):=dn.mp h;exact(f,gq _ s,e.symm,)
   .let(d,g,e):=dn.mp h;let(b,a,E):=dn.mp g;calc((b.nm,b.o),BOk.own a,?_,);rw[←e,←E];rfl
  let(f,s,rfl):=this;let d:=ok.dk f s;exact(tm (vP d) ⋯,_,ok.dom (k:=f.2) s,Ff d,)
 case dm =>
  intro z k h;let(N,A,_):=AE h;rw[n,←vT];exact dn.mpr (_,A,U,)
 case gd =>
  intro z F h;let(N,A,e):=AE h;exact(ok.dk _ A).dok.gd F e.symm
 case cel =>
  intro i d D;let(b,m,rfl):=p9 D;let a:=IW m;let B:=ok.bt b a;refine(b.rws.map (·.1),by unfold ccB;rw[dV,m];rfl,by rw[ck];exact(ck _).symm,λi r C=>?_,);let(w,l,rfl):=p9 C;let W:=ok.wok a<|IW l;let P:⇑(nn bg b.ks w.1)=⇑b.cs:=by rw[lu,W.len,wb,B.kl]
  refine(P,w.1,by rw[dV,l];rfl,by show ⇑w.1=⇑b.cs;rw[W.len,B.kl],λj c f Q E=>?_,);let(k,M,K,J,rfl):=zip_get E;exact(dmk k,M,ok.dom<|B.kk j c k Q K,J,(W.fld K J).1,)
 case num =>
  intro d g p h r y;let(b,a,rfl):=dn.mp g;let(w,v,rfl):=dn.mp y;let W:=ok.wok a v;let(I,u,H,L,G):=vQ W.od W.lo W.hi;calc(u,G ?_,);let h:lg fcs bts b.nm=Lg (.inl p):=h;rw[ok.dom (BOk.own a)]at h;generalize b.o=k at h;let(x,q):=k;cases x with
  |none=>rfl
  |some F=>cases h
 case cod =>
  intro i d k D h;let(b,m,rfl):=p9 D;let a:=IW m;let h:lg fcs bts b.nm=Lg k:=h;rw[ok.dom (BOk.own a)]at h;cases h;refine(b.rws.map (·.2),by unfold cdB;rw[dV,m];rfl,by rw[ck];exact(ck _).symm,λj r C=>?_,);let(w,l,rfl):=p9 C;let W:=ok.wok a<|IW l;let(I,u,H,L,G):=vQ W.od W.lo W.hi;exact(w.2,by rw[dV,l];rfl,u,H,I,)
 case wy =>
  intro d g;let(b,a,rfl):=dn.mp g;let B:=ok.bt b a;calc(B.way,λe=>?_,);let h:=B.sum e;calc(b.o.2,?_,);show lg fcs bts b.nm=_;rw[ok.dom (BOk.own a)];generalize b.o=k at h;let(x,q):=k;cases h;rfl
def BOk.rt(ok:BOk fcs bts):RbT (fcs.map λf=>(f.1,cR f.2)) (bts.map dwB) (lg fcs bts) (ccB bts) (cdB bts) fcs bts:=by
 refine(?_,U,U,λi d n=>?_,λd m=>?_,λb a=>(ok.bt b a).row,ok.rk,)
 .rw[hJ];refine kB λi=>?_
  rw[dV];cases e:fcs[i]? with
  |none=>rfl
  |some f =>
   let:=ok.dkD (z:=f.1) (k:=f.2)<|gq _<|IW e;show Lg f=Lg (f.1,_M.dkD (lg fcs bts) f.1);rw[this]
 .let(b,h,rfl):=p9 n;let a:=IW h;let B:=ok.bt b a;calc(b.rws,?_,);rw[h];let o:b.cs.map (_M.dkD<|lg fcs bts)=b.ks:=by
   refine kB λj=>?_
   rw[dV];cases e:b.cs[j]? with
   |none =>
    let:⇑b.cs≤j:=by rw[xL]at e;exact e
    rw[jf (by rw[B.kl];exact this)];rfl
   |some c =>
    let l:j<⇑b.ks:=by rw[B.kl];exact(IV.mp e).1
    let g:=IU l;rw[g];show Lg (_M.dkD (lg fcs bts) c)=_;rw[ok.dkD (B.kk j c _ e g)]
  show Lg b=Lg (b.nm,b.cs,b.cs.map<|_M.dkD<|lg fcs bts,_M.dkD (lg fcs bts) b.nm,b.way,b.rws,);rw[o,ok.dkD (BOk.own a)]
 .let(b,a,rfl):=dn.mp m;calc(ok.bt b a).c1
end
def uy{n:Nat}(h:n<100000):n<A8:=tN h ⋯
def sP:∀{bts:Lw BT},(∀b∈bts,⇑b.rws≤200)→⇑((bts.map oI).flatten)≤⇑bts*201
 | [],_=>by simp
 |b :: bts,h=>by
  let e:=sP (bts:=bts) λx a=>h x<|.tail _ a
  let d:=h b<|.head _;rw[gy,kH,eH,ig];let c:⇑(oI b)=⇑b.rws+1:=by unfold oI;simp
  lia
def AH{zs:Lw Str}{ds:Lw PD}{fN k:Nat}{t:PT}{nm:Str}{a:PD}(c:zs[fN+k]?=Lg nm)(b:ds[fN+k]?=Lg a):btP zs ds fN k t=(nm,prm t.cols zs,prm t.cols<|ds.map PD.k,a.k,t.way,t.rows,):=by
 unfold btP;rw[kS c,oY b]
def yr{K:ac}{H:Hp}{Q:VK}{a b:AM}{xs:Lw Str}(f:SqL K H a (xs.map NE))(e:SqL K H b (xs.map NE))(q:Q (.bl Lj) H):tS K Li (.ref a) (.ref b) H Q:=by
 refine(a,b,_,_,U,U,f,e,.inr (U,λ_=>Li,λj x y k i=>?_,?_,),)
 .let(z,rfl,h):=bW k;let(d,rfl,g):=bW i;obtain rfl:z=d:=gl<|h.symm.trans g;let c:=EqI.flat (K:=K) (H:=H) (x:=NE z) (y:=NE z) U U;rw[show eqV (NE z) (NE z)=Li by simp[eqV]]at c;exact c
 .rw[Lo U,show(bn ⇑(xs.map NE)).all (λ_=>Li)=Li by simp];calc q
def Fg{p:PD}(h:jv p):iN p.k:=by
 calc(h.le,h.bd _ (pp _) h.le,h.bd _ h.le<|pp _,λc e=>?_,);let e:(if p.ws=[]then Lh else Lg p.ws)=Lg c:=e;by_cases z:p.ws=[]
 .rw[Lo z]at e;cases e
 .rw[Lm z]at e;cases e;let(g,a,b):=h.wd z;calc(g,by show(p.lo,p.hi)=_;rw[a,b],)
def uz{zs:Lw Str}{ds:Lw PD}{d:Lw PT}{fN:Nat}(ok:fk zs ds d fN){bts:Lw BT}(i:bts.Perm (tsP zs ds d fN)):BOk (fsP zs ds fN) bts:=by
 let N:=ok.len;let h2:=ok.tab;let Z:=ok.n7;let q:(bN (fsP zs ds fN) bts).Perm zs:=by
  unfold bN;calc(MH _<|i.map BT.nm).trans ?_;rw[DJ ok,DK ok,mf]
 let H:∀f,f∈eK (fsP zs ds fN) bts↔f∈eK (fsP zs ds fN) (tsP zs ds d fN):=λf=>by
  unfold eK;exact(MH _<|i.map _).mem_iff
 let D:∀(j:Nat)(z:Str)(p:PD),zs[j]?=Lg z→ds[j]?=Lg p→(z,p.k)∈eK (fsP zs ds fN) bts:=λj z p g a=>by
  rw[H];by_cases l:j<fN
  .exact gq _<|IW<|pR l g a
  .let(k,rfl):∃k,j=fN+k:=(j-fN,∅,);let F:k<⇑d:=by have:=(IV.mp a).1;lia
   let m:=IU F;calc gb _<|dn.mpr (_,IW<|sx (zs:=zs) (ds:=ds) (fN:=fN) m,?_,);show(zs.getD (fN+k) tz,(ds.map PD.k).getD (fN+k) k01)=_;rw[kS g,oY a]
 let C:∀f∈eK (fsP zs ds fN) bts,∃p∈ds,f.2=p.k:=λf v=>by
  rw[H]at v;rcases eA.mp v with h|h
  .let(j,p,_,_,e,a):=BE ok h;exact(p,IW e,a,)
  .let(b,x,rfl):=dn.mp h;let(k,t,_,_,_,e,_):=oZ ok x;let(p,g,a):=Cu ok x e;exact(p,IW g,a,)
 refine(by rw[iB];lia,by rw[i.length_eq,kT];lia,λz K=>ok.words z<|q.mem_iff.mp K,q.nodup_iff.mpr ok.nd,λf v=>?_,λb x=>?_,Fb ok λt L=>.inl<|i.mem_iff.mp L,)
 .let(p,i,e):=C f v;rw[e];exact Fg<|ok.doms p i
 .let r:=i.mem_iff.mp x;let(k,t,m,F,rfl,e,o):=oZ ok r;let T:=ok.tabs k t m;let lt:=ok.lt m;let n:∀j∈t.cols,j<⇑zs:=λj l=>by rw[N];exact lt j l
  let B:∀j∈t.cols,j<⇑(ds.map PD.k):=λj l=>by rw[ck];exact lt j l
  let O:=cz (os:=t.cols) (xs:=zs) n;let P:=cz (os:=t.cols) (xs:=ds.map PD.k) B;let(y,s,G):=Cu ok r e;let A:(btP zs ds fN k t).cs.length=⇑t.cols:=O.1;let I:(btP zs ds fN k t).ks.length=⇑t.cols:=P.1;let Y:⇑t.cols≤3:=T.ok.few;refine(by rw[A];exact T.ok.some_,by rw[A];lia,yc T.ok.nd ok.nd n,λM=>?ne,by rw[A,I],λj c kk g a=>?kk,T.ok.way,λV=>?sum,T.few,λw u=>?row,λw u j kk E g a=>?cel,)
  case ne =>
   let(j,l,W):=o.mem ok M;let:=q9 ok.nd W e;lia
  case kk =>
   let(J,p,_,S,Q,rfl):=o.col ok g a;exact D J c p S Q
  case sum =>
   rw[G];let:=T.ok.sum V y s;show(if y.ws=[]then Lh else Lg y.ws)=Lh;rw[Lo this]
  case row =>
   let R:=ok.rows m s w u;rw[G];let X:(btP zs ds fN k t).ks.map (·.2)=prm t.cols (ds.map λp=>(p.lo,p.hi)):=by
    show(prm t.cols<|ds.map PD.k).map (·.2)=_;rw[←By,hJ];rfl
   rw[X];exact R
  case cel=>calc(ok.cells m u j kk E g a,(T.rows w u).ap E<|IW a,)
def B5{a:Type}(xs:Lw a):prm (bn ⇑xs) xs=xs:=by
 let h:=cz (os:=bn ⇑xs) (xs:=xs) λk b=>ia.mp b
 refine kB λi=>?_
 by_cases hi:i<⇑xs
 .rw[h.2 i i (oA hi)]
 .rw[jf (by rw[h.1,lC];lia),jf ∅]
def AI{a:Type}{os:Lw Nat}{xs:Lw a}(h:os.Perm (bn ⇑xs)):(prm os xs).Perm xs:=by
 let:=h.filterMap (xs[·]?);rw[show(bn ⇑xs).filterMap (xs[·]?)=prm (bn ⇑xs) xs from U,B5]at this;calc this
def B6{m w:Str}{W:Lw Str}:⇑w≤⇑(lc m (w :: W)):=by
 cases W with
 |nil=>exact sT _
 |cons a W=>rw[←bf (lc _ _),cw,eH,bf];lia
def BOk.txt{a:Lw Fc}{bts:Lw BT}(ok:BOk a bts)(g:a≠[])(c:⇑(eU a bts)≤1407):(((eU a bts).map (·.length)).sum+⇑(eU a bts)*64≤16777216)∧⇑(kt NL<|eU a bts)≠0∧⇑(kt NL<|eU a bts)+2≤A8∧io (kt NL<|eU a bts) NL=eU a bts:=by
 let b:∀z∈eU a bts,⇑z≤10000:=λz b=>by
  rw[←sO]at b;let(p,d,rfl):=dn.mp b;exact(ok.lines p d).2.1
 let i:=lX (sep:=NL) (~~~0) b c;let(f,fs,rfl):∃f fs,a=f :: fs:=by
  cases a with
  |nil=>exact Lp U g
  |cons f fs=>exact(f,fs,U,)
 let e:eU (f :: fs) bts=dQ f :: (fs.map dQ++(bts.map oI).flatten):=rfl;refine(iA b c ⋯,λh=>?_,by rw[Js];lia,ok.split (by rw[e];simp),);rw[e,gF]at h;let k:=B6 (m:=NL) (w:=dQ f) (W:=fs.map dQ++(bts.map oI).flatten);let j:5≤⇑(dQ f):=by unfold dQ;rw[aW,aW,aW,l6];lia
 lia
def AJ{zs:Lw Str}{ds:Lw PD}{a:Lw PT}{fN:Nat}(ok:fk zs ds a fN){bts:Lw BT}(c:bts.Perm (tsP zs ds a fN)):⇑(eU (fsP zs ds fN) bts)≤1407:=by
 let B:=uz ok c;let f:=ok.tab;let e:=ok.n7;let L:=sP λb d=>(B.bt b d).r200
 let d:⇑bts=⇑a:=by rw[c.length_eq,kT]
 unfold eU;rw[eH,ck,iB];lia
def  prS(k:Nat):Str:=⟨#[97+k / 8%8,97+k%8]⟩
def  d9:Dk:=(Lh,0,9)
def  da1:Dk:=(Lg [s!"a"],0,0)
def  rwF(k:Nat):Rw:=([[(0,9)],[(0,9)],[(((k%10:Nat):Int),((k%10:Nat):Int))],[(0,9)]],((k / 20:Nat):Int))
def  fcF:Lw Fc:=(bn 20).map λk=>(prS k,d9)
def  btF:BT:=(s!"full",(bn 4).map prS,[d9,d9,d9,d9],d9,s!"low",(bn 200).map rwF,)
def  btA(k:Nat):BT:=(prS<|20+k,[prS 0],[d9],da1,s!"only",[],)
def  kj:Lw BT:=btF :: (bn 29).map btA
def Fh:iN d9:=⟨⋯,by unfold bnd;decide,by unfold bnd;decide,λa e=>by cases e⟩
def Gv:iN da1:=⟨⋯,by unfold bnd;decide,by unfold bnd;decide,λa e=>by cases e;exact((⋯,⋯,~~~0,~~~0,),U,)⟩
def bnF:bN fcF kj=(bn 20).map prS++s!"full" :: (bn 29).map λk=>prS (20+k):=by
 unfold bN fcF kj;rw[hJ,gy,hJ];rfl
def xo(k:Nat):isw (prS k)=true:=by
 let h:∀a:Fin 8,∀b:Fin 8,isw ⟨#[97+a.val,97+b.val]⟩=true:= ~~~0
 calc h (k / 8%8,Nat.mod_lt _ ⋯,) (k%8,Nat.mod_lt _ ⋯,)
def sQ{a b:Int}(f:0≤a)(c:a≤b)(d:b≤9):gZ d9 [(a,b)]∧Apart [(a,b)]:=by
 let h:bnd 0:=by unfold bnd;decide
 let g:bnd 9:=by unfold bnd;decide
 refine(⟨by simp,λp j=>?_,trivial,λk e=>by cases e⟩,(λx i=>?_,by simp,),)
 .rw[hY.mp j];exact(f,c,d,mT h g f<|Int.le_trans c d,mT h g (Int.le_trans f c) d,)
 .rw[hY.mp i];calc c
def AK:BOk fcF kj:=by
 let o:∀k,k<20→(prS k,d9)∈eK fcF kj:=λk e=>gq _<|dn.mpr (k,ia.mpr e,U,)
 refine(⋯,⋯,λz t=>?_,by rw[bnF];decide+kernel,λf y=>?_,λb g=>?_,(λz=>if z=s!"full" ∨ z∈(bn 29).map (λk=>prS<|20+k)then 1 else 0,λb g c u x=>?_,),)
 .rw[bnF]at t;rcases eA.mp t with h|h
  .let(k,_,rfl):=dn.mp h;exact xo k
  .rcases dy.mp h with rfl|h
   .decide+kernel
   .let(k,_,rfl):=dn.mp h;exact xo _
 .rcases eA.mp y with h|h
  .let(k,_,rfl):=dn.mp h;exact Fh
  .let(b,g,rfl):=dn.mp h;rcases dy.mp g with rfl|g
   .exact Fh
   .let(k,_,rfl):=dn.mp g;exact Gv
 .rcases dy.mp g with rfl|g
  .refine(⋯,⋯,~~~0,~~~0,⋯,λj c k d a=>?_,~~~0,λ_=>U,by simp[btF],λw l=>?_,λw l j k r d a=>?_,)
   .let i:j<4:=(IV.mp a).1;let d:((bn 4).map prS)[j]?=Lg c:=d;rw[dV,oA i]at d;cases d;let:k=d9:=by
     have a:(py 4 d9)[j]?=Lg k:=a;rw[ly,Lo i]at a;exact(gl a).symm
    rw[this];exact o j ∅
   .let(k,e,rfl):=dn.mp l;let e:=ia.mp e;refine(U,λj r b d a p q=>?_,?_,?_,)
    .let a:(py 4 ((0:Int),(9:Int)))[j]?=Lg b:=a;rw[ly]at a;split at a
     .cases a
      rename_i i
      have d:([[(0,9)],[(0,9)],[(((k%10:Nat):Int),((k%10:Nat):Int))],[(0,9)]]:Lw Prs)[j]?=Lg r:=d
      match j,i with
      |0,_=>cases d;rw[hY.mp q];decide
      |1,_=>cases d;rw[hY.mp q];decide
      |2,_=>cases d;rw[hY.mp q];constructor <;> (show(_:Int)≤_;lia)
      |3,_=>cases d;rw[hY.mp q];decide
     .cases a
    .show(0:Int)≤((k / 20:Nat):Int);lia
    .show((k / 20:Nat):Int)≤9;lia
   .let(n,B,rfl):=dn.mp l;let i:j<4:=(IV.mp a).1;let:k=d9:=by
     have d:(py 4 d9)[j]?=Lg k:=d;rw[ly,Lo i]at d;exact(gl d).symm
    subst this;let a:([[(0,9)],[(0,9)],[(((n%10:Nat):Int),((n%10:Nat):Int))],[(0,9)]]:Lw Prs)[j]?=Lg r:=a
    match j,i with
    |0,_=>cases a;exact sQ ⋯ ⋯ ⋯
    |1,_=>cases a;exact sQ ⋯ ⋯ ⋯
    |2,_=>cases a;exact sQ ∅ ∅ ∅
    |3,_=>cases a;exact sQ ⋯ ⋯ ⋯
  .let(k,e,rfl):=dn.mp g;let e:=ia.mp e;let m:s!"only" ∈ six∧s!"only" ≠ s!"sum" := by decide+kernel
   refine⟨by simp[btA],by simp[btA],by simp[btA],λh=>?_,U,λj c A d a=>?_,m.1,λh=>?_,by simp[btA],(λw l=>by cases l),(λw l=>by cases l)⟩
   .let h:=hY.mp h;let h:=Lu Str.cps h;let h : #[97+(20+k) / 8%8,97+(20+k)%8] = #[97+0 / 8%8,97+0%8]:=h;simp at h;lia
   .let i:j<1:=(IV.mp a).1;obtain rfl:j=0:=∅
    cases d;cases a;exact o 0 ⋯
   .exact Lp h m.2
 .let s:∃k,k<20∧c=prS k:=by
   rcases dy.mp g with rfl|g
   .let(k,e,rfl):=dn.mp u;exact(k,by have:=ia.mp e;lia,U,)
   .let(k,e,rfl):=dn.mp g;exact(0,⋯,hY.mp u,)
  let(k,e,rfl):=s;exfalso;let v:∀k<20,prS k ∉ kj.map BT.nm:=by
   let:kj.map BT.nm=s!"full" :: (bn 29).map λk=>prS (20+k):=by
    unfold kj;rw[gy,hJ];rfl
   rw[this];decide+kernel
  calc v k e x
def  hdF:Str:=kt mk2<|(bn 4).map prS
def xp(k:Nat):⇑(prS k)=2:=rfl
def Fi(k:Nat):s!"fact " ++ prS k++s!" 0..9" = dQ (prS k,d9):=by
 let:s!" 0..9" = s!" " ++ cR d9:= ~~~0
 rw[this];unfold dQ;simp only[fB]
def Gw:s!"table full: " ++ hdF++s!" -> 0..9 by low" = dP btF.nm btF.cs btF.o btF.way:= ~~~0
def Fj(k:Nat)(e:k<200):s!"when - | - | " ++ gG ((0+(k:Int))%10)++s!" | - -> " ++ gG ((0+(k:Int)) / 20)=kY btF.ks (rwF k) btF.o:=by
 let h:∀a:Fin 10,∀b:Fin 10,s!"when - | - | " ++ gG (a.val:Int)++s!" | - -> " ++ gG (b.val:Int)=kY [d9,d9,d9,d9] ([[(0,9)],[(0,9)],[((a.val:Int),(a.val:Int))],[(0,9)]],(b.val:Int)) d9:= ~~~0
 let d:(0+(k:Int))%10=((k%10:Nat):Int):=∅
 let c:(0+(k:Int)) / 20=((k / 20:Nat):Int):=∅
 rw[d,c];calc h (k%10,∅,) (k / 20,∅,)
def Gx(k:Nat):s!"table " ++ prS (20+k)++s!": aa -> a by only" = dP (btA k).nm (btA k).cs (btA k).o (btA k).way:=by
 let:s!": aa -> a by only" = s!": " ++ kt s!", " [prS 0]++s!" -> " ++ cR da1++s!" by " ++ s!"only" := by decide+kernel
 rw[this];show _=dP (prS<|20+k) [prS 0] da1 s!"only";unfold dP;simp only[fB]
def Cy:eU fcF kj=(bn 20).map (λk=>dQ (prS k,d9))++[dP btF.nm btF.cs btF.o btF.way]++(bn 200).map (λk=>kY btF.ks (rwF k) btF.o)++(bn 29).map λk=>dP (btA k).nm (btA k).cs (btA k).o (btA k).way:=by
 unfold eU kj fcF;rw[hJ,gy,kH,hJ];let c:oI btF=dP btF.nm btF.cs btF.o btF.way :: (bn 200).map (λk=>kY btF.ks (rwF k) btF.o):=by
  unfold oI;show _ :: (List.map rwF<|bn 200).map _=_;rw[hJ];rfl
 let b:∀l:Lw Nat,(l.map<|oI ∘ btA).flatten=l.map λk=>dP (btA k).nm (btA k).cs (btA k).o (btA k).way:=λl=>by
  induction l with
  |nil=>rfl
  |cons k l a =>
   rw[gy,kH,a];rfl
 rw[c,b];simp only[iD,List.cons_append,List.nil_append];rfl
def BOk.read{a:Lw Fc}{bts:Lw BT}(ok:BOk a bts)(j:a≠[])(i:⇑(eU a bts)≤1407):∃(L:Lw Str)(b:Lw Ln)(dom:Str→Option Dm)(d:Lw (List<|Lw Prs))(c:Lw (Lw Int)),eU a bts=L∧((L.map (·.length)).sum+L.length*64≤16777216)∧⇑(kt NL L)≠0∧⇑(kt NL L)+2≤A8∧io (kt NL L) NL=L∧Ax L b∧DR (rdb b).1 (rdb b).2 dom d c∧RbT (rdb b).1 (rdb b).2 dom d c a bts:=by
 let(h,g,f,e):=ok.txt j i;refine(_,qw a bts,lg a bts,ccB bts,cdB bts,U,h,g,f,e,ok.lns,?_,?_,)
 .rw[sM];exact ok.rb
 .rw[sM];calc ok.rt
def Gy:fcF≠[]:= ~~~0
def Fl:⇑(eU fcF kj)≤1407:=by rw[Cy];simp
def DW:⇑fcF=20:=⋯
def DX:⇑kj=30:=⋯
def Gz:(btA 28).nm=prS 48:=rfl
def Fm:kj[0]?=Lg btF∧kj[29]?=Lg (btA 28):=(U,by unfold kj;rw[MY,dV,oA ⋯];rfl,)
def sR:BOk [] []:=⟨⋯,⋯,(λz a=>by cases a),ny,(λf d=>by cases d),(λb e=>by cases e),⟨λ_=>0,λt c=>by cases c⟩⟩
section
end
open Lean in
set_option hygiene false in
local macro_rules(kind:=Lean.Parser.Command.declaration)|s=>do
 let d:=s[1]
 if d.getKind==``Lean.Parser.Command.inductive&&d[2][0].getNumArgs==0&&d[2][1].getNumArgs==0 then
  let t←`(inductive A(K:ac)(Y:AD)(vs:Lw V)(H:Hp)(Q:VK)(e_:XK):Prop)
  return s.setArg 1 (d.setArg 2 t.raw[1][2])
 Macro.throwUnsupported
inductive gH
 |mk (z g:Str)(_:vs=[.str z,.str g])(_:Q (.bl<|i4 z g) H)
inductive iC
 |mk (v:V)(_:vs=[v])(_:Pl v)(_:Q (.bl<|isI v) H)
inductive qc
 |mk (a b:AM)(k k':Dk)(_:vs=[.ref a,.ref b])(_:dE Y.r Y.s H a k)(_:dE Y.r Y.s H b k')(_:Q (.bl<|lkD k k') H)
inductive dj(K:ac)(Y:AD)(vs:Lw V)(H:Hp)(Q:VK)(E:XK):Prop
 |mk (fa ma:AM)(fv mv:Lw V)(_:vs=[.ref fa,.ref ma])(_:H fa=Lg (.lst fv))(_:H ma=Lg (.lst mv))(_:((⇑fv≤20∧⇑mv≤30)→Q .non H))(_:(¬ (⇑fv≤20∧⇑mv≤30)→E (.ref Y.f) Lh H))
inductive hU
 |mk (t na ou:AM)(nm wy:Str)(zs ns:Lw Str)(dv:Lw V)(rws:Lw Rw)(_:vs=[.ref t,.ref na])(_:TF Y.t H t nm wy ou zs dv rws)(_:H na=Lg (.lst<|ns.map NE))(_:⇑zs≤100)(_:∀(l:AM)(H':Hp),ak H H'→H l=Lh→H' l=Lg (.lst<|(zs.filter λz=>ns.contains z).map NE)→Q (.ref l) H')
inductive sS
 |mk (a:AM)(xs:Lw V)(ps:Lw (Int×Int))(_:vs=[.ref a])(_:SqL K H a xs)(_:PL H xs ps)(_:⇑xs<64)(_:∀(r:AM)(H':Hp)(ys:Lw V)(R:Lw (Int×Int)),ak H H'→H r=Lh→H' r=Lg (.lst ys)→PL H' ys R→jU R ps→⇑ys≤⇑xs→Q (.ref r) H')
inductive sU
 |mk (a b:AM)(xs ys:Lw V)(A B:Lw (Int×Int))(_:vs=[.ref a,.ref b])(_:SqL K H a xs)(_:SqL K H b ys)(_:PL H xs A)(_:PL H ys B)(_:Apart A)(_:Apart B)(_:⇑xs+⇑ys≤900)(_:∀(r:AM)(H':Hp)(zs:Lw V)(R:Lw (Int×Int)),ak H H'→H r=Lh→H' r=Lg (.lst zs)→PL H' zs R→Apart R→(∀n,inP R n=(inP A n && inP B n))→⇑zs≤⇑xs+⇑ys→Q (.ref r) H')
inductive sV
 |mk (a:AM)(xs:Lw V)(T:Lw (Int×Int))(lo hi:Int)(_:vs=[.ref a,.int lo,.int hi])(_:SqL K H a xs)(_:PL H xs T)(_:Apart T)(_:⇑xs≤450)(_:∀(r:AM)(H':Hp)(zs:Lw V)(F:Lw (Int×Int)),ak H H'→H r=Lh→H' r=Lg (.lst zs)→PL H' zs F→Apart F→(∀n,inP F n=(Lk (lo≤n) && decide (n≤hi) && !inP T n))→⇑zs≤⇑xs+1→Q (.ref r) H')
inductive cZ
 |mk (p r:AM)(xs ys:Lw V)(_:vs=[.ref p,.ref r])(_:SqL K H p xs)(_:SqL K H r ys)(_:1≤⇑xs)(_:⇑xs≤4)(_:⇑ys≤200)(_:Q .non H)
inductive l7
 |mk (cl:AM)(xs:Lw V)(w:Rw)(_:vs=[.ref cl,.int w.2])(_:H cl=Lg (.lst xs))(_:CL NT H xs w.1)(_:⇑w.1≤100)(_:∀(r:AM)(H':Hp),ak H H'→H r=Lh→jt (λa=>H a=Lh) H' r w→Q (.ref r) H')
inductive qd
 |mk (p:AM)(a b c:Str)(_:vs=[.ref p])(_:H p=Lg (.tup [.str a,.str b,.str c]))(_:⇑b≤A8)(_:⇑b≠0)(_:Q (.ref p) H)
inductive cL
 |mk (fa da:AM)(fv dv:Lw V)(ds:Lw Dw)(zs:Lw Str)(_:vs=[.ref fa,.ref da])(_:H fa=Lg (.lst fv))(_:H da=Lg (.lst dv))(_:⇑fv≤20)(_:⇑dv≤30)(_:au dv ds (DrG Y.v H))(_:(∀d∈ds,Av zs d))(_:Q .non H)
inductive fE
 |mk (x na:AM)(d:Dw)(zs:Lw Str)(_:vs=[.ref x,.ref na])(_:DrG Y.v H x d)(_:Av zs d)(_:H na=Lg (.lst<|zs.map NE))(_:⇑zs≤100)(_:∀H',ak H H'→Q .non H')
inductive fS
 |mk (x:AM)(d:Dw)(zs:Lw Str)(_:vs=[.ref x])(_:DrG Y.v H x d)(_:Av zs d)(_:Q .non H)
inductive kU
 |mk (a:AM)(ns:Lw Int)(k:Int)(_:vs=[.ref a,.int k])(_:SqL K H a (ns.map pi))(_:0≤k)(_:∀r:Int,Q (.int r) H)
inductive gI
 |mk (c:Int)(n:Nat)(_:vs=[.int c,.int (n:Int)])(_:n≤40)(_:∀(l:AM)(H':Hp),ak H H'→H l=Lh→H' l=Lg (.lst<|(lws c n).map NE)→Q (.ref l) H')
inductive km
 |mk (r:AM)(p:PD)(c:Int)(_:vs=[.ref r,.int c])(_:PDA NT H r p)(_:jv p)(_:∀(l:AM)(xs:Lw Int)(H':Hp),ak H H'→H l=Lh→H' l=Lg (.lst<|xs.map pi)→⇑xs=3→(∀x∈xs,p.lo≤x∧x≤p.hi)→Q (.ref l) H')
inductive jy
 |mk (kd one two:Int)(r:AM)(p:PD)(_:vs=[.int kd,.int one,.int two,.ref r])(_:PDA NT H r p)(_:p.lo≤one)(_:one≤two)(_:two≤p.hi)(_:∀(l:AM)(ps:Prs)(H':Hp),ak H H'→SpA (λa=>H a=Lh) H' l ps→(∀x∈ps,p.lo≤x.1∧x.1≤x.2∧x.2≤p.hi)→⇑ps≤2→Apart ps→Q (.ref l) H')
inductive dq
 |mk (r:AM)(p:PD)(_:vs=[.ref r])(_:PDA NT H r p)(_:jv p)(_:Q (.str<|cR p.k) H)
inductive fT
 |mk (r t:AM)(p:PD)(x:Pr)(_:vs=[.ref r,.ref t])(_:PDA NT H r p)(_:jv p)(_:H t=Lg (.tup [.int x.1,.int x.2]))(_:DB p.k x)(_:∀H',ak H H'→Q (.str<|rj p.k x) H')
inductive jz
 |mk (r:AM)(p:PD)(c:Int)(_:vs=[.ref r,.int c])(_:PDA NT H r p)(_:jv p)(_:p.lo≤c)(_:c≤p.hi)(_:Q (.str<|nB p.k c) H)
inductive dr
 |mk (x r:AM)(k:Dk)(p:PD)(_:vs=[.ref x,.ref r])(_:dE Y.r Y.s H x k)(_:PDA NT H r p)(_:k=p.k)(_:Q (.bl Li) H)
inductive kn
 |mk (k:Nat)(_:vs=[.int (k:Int)])(_:Q (.str<|prS k) H)
inductive dc
 |mk (x dx cl:AM)(n d w:Str)(_:vs=[.ref x,.str n,.ref cl,.str d,.str w])(_:H x=Lg (.ins Y.v dx []))(_:∀(l:AM)(H':Hp),H l=Lh→H' l=Lg (.lst [])→H' x=Lg (.ins Y.v dx [("name",.str n),("columns",.ref cl),("domain",.str d),("way",.str w),("rows",.ref l)])→(∀b o,b≠x→H b=Lg o→H' b=Lg o)→Q .non H')
inductive dG
 |mk (x dx:AM)(z:Str)(_:vs=[.ref x,.str z])(_:H x=Lg (.ins Y.k dx []))(_:Q .non (upd H x<|.ins Y.k dx [("called",.str z)]))
inductive dW
 |mk (x dx:AM)(z:Str)(_:vs=[.ref x,.str z])(_:H x=Lg (.ins Y.l dx []))(_:Q .non (upd H x<|.ins Y.l dx [("called",.str z)]))
inductive dX
 |mk (x dx:AM)(z:Str)(_:vs=[.ref x,.str z])(_:H x=Lg (.ins Y.m dx []))(_:Q .non (upd H x<|.ins Y.m dx [("called",.str z)]))
inductive eM
 |mk (x dx:AM)(z:Str)(_:vs=[.ref x,.str z])(_:H x=Lg (.ins Y.n dx []))(_:Q .non (upd H x<|.ins Y.n dx [("called",.str z)]))
inductive dY
 |mk (x dx:AM)(z:Str)(_:vs=[.ref x,.str z])(_:H x=Lg (.ins Y.o dx []))(_:Q .non (upd H x<|.ins Y.o dx [("called",.str z)]))
inductive eN
 |mk (x dx:AM)(z:Str)(_:vs=[.ref x,.str z])(_:H x=Lg (.ins Y.p dx []))(_:Q .non (upd H x<|.ins Y.p dx [("called",.str z)]))
inductive b5
 |mk (a:AM)(lo hi:Int)(_:vs=[.ref a])(_:jX Y.r H a lo hi)(_:∀(l t:AM)(H':Hp),ak H H'→H l=Lh→H' l=Lg (.lst [.ref t])→H' t=Lg (.tup [.int lo,.int hi])→Q (.ref l) H')
inductive cA
 |mk (a:AM)(zs:Lw Str)(_:vs=[.ref a])(_:pM Y.s H a zs)(_:∀(l t:AM)(H':Hp),ak H H'→H l=Lh→H' l=Lg (.lst [.ref t])→H' t=Lg (.tup [.int 0,.int (hiW zs)])→Q (.ref l) H')
inductive bX
 |mk (a:AM)(v:V)(_:vs=[.ref a,v])(_:Q v H)
inductive cD
 |mk (a:AM)(zs:Lw Str)(z:Str)(j:Nat)(_:vs=[.ref a,.str z])(_:pM Y.s H a zs)(_:lM zs z j)(_:Q (.int j) H)
inductive dZ
 |mk (a:AM)(zs:Lw Str)(v:V)(_:vs=[.ref a,v])(_:pM Y.s H a zs)(_:Pl v)(_:Q (.bl<|inW zs v) H)
inductive cM
 |mk (x dx:AM)(lo hi:Int)(_:vs=[.ref x,.int lo,.int hi])(_:H x=Lg (.ins Y.s dx []))(_:Q .non (mkd Y.s H x dx lo hi))
inductive cm
 |mk (x dx:AM)(lo hi:Int)(_:vs=[.ref x,.int lo,.int hi])(_:H x=Lg (.ins Y.r dx []))(_:Q .non (mkd Y.r H x dx lo hi))
inductive fU
 |mk (z:Str)(_:vs=[.str z])(_:⇑z≤1000)(_:Q (.bl<|isw z) H)
inductive gJ
 |mk (z:Str)(_:vs=[.str z])(_:⇑z≤1000)(_:Q (.bl<|isn z) H)
inductive fF(K:ac)(Y:AD)(vs:Lw V)(H:Hp)(Q:VK)(E:XK):Prop
 |mk (fa ma:AM)(fv mv:Lw V)(fs:Lw Fc)(ts:Lw BT)(_:vs=[.ref fa,.ref ma])(_:H fa=Lg (.lst fv))(_:H ma=Lg (.lst mv))(_:BkG Y.t Y.r Y.s H fv mv fs ts)(_:vF fs ts)(_:(yh fs ts→∀H',ak H H'→Q .non H'))(_:(¬ yh fs ts→∀H',ak H H'→E (.ref Y.h) Lh H'))
inductive gw(K:ac)(Y:AD)(vs:Lw V)(H:Hp)(Q:VK)(E:XK):Prop
 |mk (ma:AM)(mv:Lw V)(ts:Lw BT)(_:vs=[.ref ma])(_:H ma=Lg (.lst mv))(_:au mv ts (TbG Y.t Y.r Y.s H))(_:⇑ts≤100)(_:(∀t∈ts,⇑t.cs≤4))(_:((vG ts∧∀H',ak H H'→Q .non H')∨(DI ts∧∀H',ak H H'→E (.ref Y.i) Lh H')))
inductive jA
 |mk (a b:AM)(xs ys:Lw V)(A B:Lw (Int×Int))(_:vs=[.ref a,.ref b])(_:SqL K H a xs)(_:SqL K H b ys)(_:PL H xs A)(_:PL H ys B)(_:Apart A)(_:Apart B)(_:⇑xs≤450)(_:⇑ys≤449)(_:∀(r:AM)(H':Hp)(zs:Lw V)(R:Lw (Int×Int)),ak H H'→H r=Lh→H' r=Lg (.lst zs)→PL H' zs R→Apart R→(∀n,inP R n=(inP A n && !inP B n))→⇑zs≤⇑xs+(⇑ys+1)→Q (.ref r) H')
inductive iP
 |mk (z a b c:Str)(_:vs=[.str z])(_:⇑z≤A8)(_:dL z SP=(a,b,c))(_:⇑b≤A8)(_:⇑b≠0)(_:∀(t:AM)(H':Hp),ak H H'→H t=Lh→H' t=Lg (.tup [.str a,.str c])→Q (.ref t) H')
inductive jB
 |mk (z a b c:Str)(fs:Lw Str)(_:vs=[.str z])(_:⇑z+2≤A8)(_:dL z AR=(a,b,c))(_:⇑b≤A8)(_:⇑b≠0)(_:⇑a+2≤A8)(_:io a BR=fs)(_:∀(t l:AM)(H':Hp),ak H H'→H t=Lh→H l=Lh→H' t=Lg (.tup [.ref l,.str c])→H' l=Lg (.lst<|fs.map NE)→Q (.ref t) H')
inductive iQ
 |mk (c:Int)(_:vs=[.int c])(_:∀(r:AM)(p:PD)(H':Hp),ak H H'→PDA (λa=>H a=Lh) H' r p→jv p→Q (.ref r) H')
inductive l8
 |mk (cl dl pl:AM)(ow:Nat)(c:Int)(cols:Lw Nat)(dv pvs:Lw V)(ds:Lw PD)(_:vs=[.ref cl,.ref dl,.ref pl,.int (ow:Int),.int c])(_:H cl=Lg (.lst<|vN cols))(_:H dl=Lg (.lst dv))(_:au dv ds (PDA NT H))(_:H pl=Lg (.lst pvs))(_:au pvs ds (PoA NT H))(_:(∀k∈cols,k<⇑ds))(_:ow<⇑ds)(_:⇑cols≤10)(_:∀(r:AM)(w:Rw)(H':Hp),ak H H'→jt (λa=>H a=Lh) H' r w→sj ds cols ow w→Q (.ref r) H')
inductive jC
 |mk (r l:AM)(p:PD)(ts:Lw V)(ps:Prs)(_:vs=[.ref r,.ref l])(_:PDA NT H r p)(_:jv p)(_:H l=Lg (.lst ts))(_:PL H ts ps)(_:gZ p.k ps)(_:∀H',ak H H'→Q (.str<|bg p.k ps) H')
inductive kq
 |mk (r:AM)(k:Nat)(zs:Lw Str)(ds:Lw PD)(ts:Lw PT)(fN:Nat)(t:PT)(nm:Str)(po:PD)(_:vs=[.ref r,.int (k:Int)])(_:PlA H r zs ds ts)(_:fk zs ds ts fN)(_:ts[k]?=Lg t)(_:zs[fN+k]?=Lg nm)(_:ds[fN+k]?=Lg po)(_:∀H',ak H H'→Q (.str<|dP nm (prm t.cols zs) po.k t.way) H')
inductive fG
 |mk (x r:AM)(k:Nat)(zs:Lw Str)(ds:Lw PD)(ts:Lw PT)(fN:Nat)(t:PT)(_:vs=[.ref x,.ref r,.int (k:Int)])(_:PlA H r zs ds ts)(_:fk zs ds ts fN)(_:ts[k]?=Lg t)(_:TbG Y.t Y.r Y.s H x (btP zs ds fN k t))(_:∀H',ak H H'→Q (.bl Li) H')
def  J0(K:ac)(Y:AD):Sp:=ya Y.k s!"first"
def  J4(K:ac)(Y:AD):Sp:=ya Y.l s!"only"
def  J2(K:ac)(Y:AD):Sp:=ya Y.m s!"like"
def  J3(K:ac)(Y:AD):Sp:=ya Y.n s!"low"
def  J1(K:ac)(Y:AD):Sp:=ya Y.o s!"high"
def  J5(K:ac)(Y:AD):Sp:=ya Y.p s!"sum"
inductive bM
 |mk (a:AM)(b:Int×Int)(v:V)(_:vs=[.ref a,v])(_:Dy Y.r H a b.1 b.2)(_:Pl v)(_:Q (.bl<|inB b.1 b.2 v) H)
inductive d6(K:ac)(Y:AD)(vs:Lw V)(H:Hp)(Q:VK)(E:XK):Prop
 |mk (a:AM)(zs:Lw Str)(v:V)(_:vs=[.ref a,v])(_:pM Y.s H a zs)(_:Shw v)(_:(∀(z:Str)(j:Nat),v=.str z→lM zs z j→Q (.int j) H))(_:(inW zs v=Lj→E (.ref Y.e) Lh H))
inductive cO
 |mk (a:AM)(b:Int×Int)(v:V)(_:vs=[.ref a,v])(_:Dy Y.s H a b.1 b.2)(_:Pl v)(_:Q (.bl<|inB b.1 b.2 v) H)
inductive b8
 |mk (x dx:AM)(lo hi:Int)(_:vs=[.ref x,.int lo,.int hi])(_:H x=Lg (.ins Y.r dx []))(_:lo≤hi)(_:Q .non (mkd Y.r H x dx lo hi))
inductive fH(K:ac)(Y:AD)(vs:Lw V)(H:Hp)(Q:VK)(E:XK):Prop
 |mk (z:Str)(_:vs=[.str z])(_:Sm 600 z)(_:(isn z=Li→Q (.int<|cJ z) H))(_:(isn z=Lj→E (.ref Y.b) Lh H))
inductive dH(K:ac)(Y:AD)(vs:Lw V)(H:Hp)(Q:VK)(E:XK):Prop
 |mk (fa ma:AM)(fv mv:Lw V)(fs:Lw Fc)(ts:Lw BT)(_:vs=[.ref fa,.ref ma])(_:H fa=Lg (.lst fv))(_:H ma=Lg (.lst mv))(_:BkG Y.t Y.r Y.s H fv mv fs ts)(_:(vF fs ts→∀H',ak H H'→Q .non H'))(_:(¬ vF fs ts→∀H',ak H H'→E (.ref Y.g) Lh H'))
inductive dt
 |mk (p:AM)(zs:Lw Str)(_:vs=[.ref p])(_:SqL K H p (zs.map NE))(_:(∀z∈zs,isw z=Li))(_:zs.Nodup)(_:⇑zs≤100)(_:∀H',ak H H'→Q .non H')
inductive iR
 |mk (dl ou cl:AM)(dv xs:Lw V)(bs:Prs)(o:Int×Int)(w:Rw)(_:vs=[.ref dl,.ref ou,.ref cl,.int w.2])(_:SqL K H dl dv)(_:au dv bs (Dom Y.r Y.s H))(_:Dom Y.r Y.s H ou o)(_:H cl=Lg (.lst xs))(_:CL NT H xs w.1)(_:oq bs o w)(_:∀H',ak H H'→Q .non H')
inductive l9
 |mk (z n m r cs t y d b w:Str)(fs:Lw Str)(_:vs=[.str z])(_:⇑z+2≤A8)(_:dL z CO=(n,m,r))(_:⇑r≤A8)(_:⇑m≤A8)(_:⇑m≠0)(_:dL r AR=(cs,t,y))(_:⇑y≤A8)(_:⇑t≤A8)(_:⇑t≠0)(_:rpt y BY=(d,b,w))(_:⇑b≤A8)(_:⇑b≠0)(_:⇑cs+2≤A8)(_:io cs mk2=fs)(_:∀(x rl:AM)(H':Hp),ak H H'→H x=Lh→H rl=Lh→DrO Y.v H' x n fs d w rl→H' rl=Lg (.lst [])→(∀dx cl,H' x=Lg (.ins Y.v dx [("name",.str n),("columns",.ref cl),("domain",.str d),("way",.str w),("rows",.ref rl)])→H' cl=Lg (.lst<|fs.map NE)→H cl=Lh∧cl≠rl)→Q (.ref x) H')
inductive de
 |mk (fa da:AM)(fv dv:Lw V)(fs:Lw (Str×Str))(ds:Lw Dw)(_:vs=[.ref fa,.ref da])(_:H fa=Lg (.lst fv))(_:H da=Lg (.lst dv))(_:⇑fs≤20)(_:⇑ds≤30)(_:au fv fs (FpA H))(_:au dv ds (DrG Y.v H))(_:(∀z∈fs.map (·.1)++ds.map Dw.nm,isw z=Li))(_:(fs.map (·.1)++ds.map Dw.nm).Nodup)(_:(∀d∈ds,Av (fs.map (·.1)++ds.map Dw.nm) d))(_:∀H',ak H H'→Q .non H')
inductive kr
 |mk (a:AM)(ns:Lw Int)(_:vs=[.ref a])(_:SqL K H a (ns.map pi))(_:∀(r:AM)(zs:Lw Str)(ds:Lw PD)(ts:Lw PT)(fN:Nat)(H':Hp),ak H H'→PlA H' r zs ds ts→fk zs ds ts fN→1≤fN→(∀z∈zs,∀y∈zs,⇑z=⇑y)→(∀z∈zs,SmB z)→(∀z∈zs,LtM z)→2≤⇑zs→Q (.ref r) H')
inductive ku
 |mk (r ro:AM)(k:Nat)(zs:Lw Str)(ds:Lw PD)(ts:Lw PT)(fN:Nat)(t:PT)(po:PD)(w:Rw)(_:vs=[.ref r,.int (k:Int),.ref ro])(_:PlA H r zs ds ts)(_:fk zs ds ts fN)(_:ts[k]?=Lg t)(_:ds[fN+k]?=Lg po)(_:jt NT H ro w)(_:w∈t.rows)(_:∀H',ak H H'→Q (.str<|kY (prm t.cols<|ds.map PD.k) w po.k) H')
inductive fV
 |mk (x r ol:AM)(zs:Lw Str)(ds:Lw PD)(ts:Lw PT)(fN:Nat)(os:Lw Nat)(_:vs=[.ref x,.ref r,.ref ol])(_:PlA H r zs ds ts)(_:fk zs ds ts fN)(_:H ol=Lg (.lst<|vN os))(_:(∀k∈os,k<⇑ts))(_:⇑os≤10)(_:BkO Y.u Y.t Y.r Y.s H x (fsP zs ds fN) (prm os<|tsP zs ds ts fN))(_:∀H',ak H H'→Q (.bl Li) H')
inductive cP
 |mk (a:AM)(lo hi:Int)(v:V)(_:vs=[.ref a,v])(_:jX Y.r H a lo hi)(_:Pl v)(_:Q (.bl<|inB lo hi v) H)
inductive df
 |mk (x dx p:AM)(zs:Lw Str)(_:vs=[.ref x,.ref p])(_:H x=Lg (.ins Y.s dx []))(_:H p=Lg (.lst<|zs.map NE))(_:Good zs)(_:∀(H':Hp)(l:AM),(∀b o,b≠x→H b=Lg o→H' b=Lg o)→H' x=Lg (.ins Y.s dx [("low",.int 0),("high",.int<|hiW zs),("words",.ref l)])→H' l=Lg (.lst<|zs.map NE)→H l=Lh→Q .non H')
inductive gx
 |mk (z a b:Str)(_:vs=[.str z])(_:⇑z≤1000)(_:dL z bq=(a,bq,b))(_:Sm 600 a)(_:Sm 600 b)(_:isn a=Li)(_:isn b=Li)(_:cJ a≤cJ b)(_:∀(x:AM)(H':Hp),ak H H'→H x=Lh→jX Y.r H' x (cJ a) (cJ b)→Q (.ref x) H')
inductive nM
 |mk (z:Str)(_:vs=[.str z])(_:z∈six)(_:(∀i:Nat,six[i]?=Lg z→∀(x C:AM)(H':Hp),ak H H'→(cl6 Y.k Y.l Y.m Y.n Y.o Y.p)[i]?=Lg C→WyN C H' x z→Q (.ref x) H'))
inductive jD
 |mk (fa da:AM)(z:Str)(fs:Lw (Str×Str))(ds:Lw (Dw×AM))(ln:Ln)(_:vs=[.str z,.ref fa,.ref da])(_:LI Y.v fa da H fs ds)(_:⇑z≤10000)(_:⇑fs≤1000)(_:⇑ds≤1000)(_:(∀d∈ds,⇑d.1.rws≤1000))(_:yp z ln)(_:((∃f v,ln=.row f v)→ds≠[]))(_:∀(H':Hp)(ds':Lw (Dw×AM)),(ap (fs,ds.map (·.1)) ln).2=ds'.map (·.1)→LI Y.v fa da H' (ap (fs,ds.map (·.1)) ln).1 ds'→(∀b o,b ∉ mtA fa da ds→H b=Lg o→H' b=Lg o∧b ∉ mtA fa da ds')→Q .non H')
inductive fI
 |mk (x ou:AM)(d:Dw)(k:Dm)(_:vs=[.ref x,.ref ou])(_:DrG Y.v H x d)(_:iL Y.r Y.s H ou k)(_:(∀p,k=.inl p→∀r∈d.rws,Sm 600 r.2∧isn r.2=Li))(_:Q .non H)
inductive jE
 |mk (r ol:AM)(zs:Lw Str)(ds:Lw PD)(ts:Lw PT)(fN:Nat)(os:Lw Nat)(fcs:Lw Fc)(bts:Lw BT)(_:vs=[.ref r,.ref ol])(_:PlA H r zs ds ts)(_:fk zs ds ts fN)(_:H ol=Lg (.lst<|vN os))(_:(∀k∈os,k<⇑ts))(_:⇑os≤10)(_:fcs=fsP zs ds fN)(_:bts=prm os (tsP zs ds ts fN))(_:∀(l:AM)(H':Hp),ak H H'→H l=Lh→H' l=Lg (.lst<|(eU fcs bts).map NE)→Q (.ref l) H')
inductive dI(K:ac)(Y:AD)(vs:Lw V)(H:Hp)(Q:VK)(E:XK):Prop
 |mk (x dx fa ma:AM)(fv mv:Lw V)(fs:Lw Fc)(ts:Lw BT)(_:vs=[.ref x,.ref fa,.ref ma])(_:H x=Lg (.ins Y.u dx []))(_:H fa=Lg (.lst fv))(_:H ma=Lg (.lst mv))(_:BkG Y.t Y.r Y.s H fv mv fs ts)(_:((¬ (⇑fs≤20∧⇑ts≤30)∧∀H',ak H H'→E (.ref Y.f) Lh H')∨((⇑fs≤20∧⇑ts≤30)∧((¬ vF fs ts∧∀H',ak H H'→E (.ref Y.g) Lh H')∨(vF fs ts∧((¬ yh fs ts∧∀H',ak H H'→E (.ref Y.h) Lh H')∨(yh fs ts∧((DI ts∧∀H',ak H H'→E (.ref Y.i) Lh H')∨(vG ts∧∀(H':Hp)(fl:Lw (Str×V))(ta fc:AM)(fw:Lw V),(∀b o,b≠x→H b=Lg o→H' b=Lg o)→H' x=Lg (.ins Y.u dx fl)→fl.lookup s!"tables"=↑ta→fl.lookup s!"facts"=↑fc→H ta=Lh→H fc=Lh→H' ta=Lg (.lst mv)→H' fc=Lg (.lst fw)→au fw fs (λp f=>∃d:AM,H' p=Lg (.tup [.str f.1,.ref d])∧dE Y.r Y.s H d f.2)→Q .non H')))))))))
inductive du(K:ac)(Y:AD)(vs:Lw V)(H:Hp)(Q:VK)(E:XK):Prop
 |mk (a:AM)(lo hi:Int)(v:V)(_:vs=[.ref a,v])(_:jX Y.r H a lo hi)(_:Shw v)(_:(inB lo hi v=Li→Q v H))(_:(inB lo hi v=Lj→E (.ref Y.e) Lh H))
inductive hV
 |mk (z:Str)(d:Dm)(_:vs=[.str z])(_:⇑z≤1000)(_:(match d with
 | .inl p=>inD z=Li∧∃a b,dL z bq=(a,bq,b)∧Sm 600 a∧Sm 600 b∧isn a=Li∧isn b=Li∧cJ a≤cJ b∧p=(cJ a,cJ b)
 | .inr zs=>inD z=Lj∧io z mk2=zs∧Good zs)) (_:∀(x:AM)(H':Hp),ak H H'→H x=Lh→iL Y.r Y.s H' x d→Q (.ref x) H'):hV K Y vs H Q e_
inductive f9(K:ac)(Y:AD)(vs:Lw V)(H:Hp)(Q:VK)(E:XK):Prop
 |mk (d:AM)(z:Str)(_:vs=[.ref d,.str z])(_:Sm 600 z)(_:((∃lo hi,jX Y.r H d lo hi∧(isn z=Li→bnd (cJ z))∧(isn z=Li→inB lo hi (.int<|cJ z)=Li→Q (.int<|cJ z) H)∧(isn z=Li→inB lo hi (.int<|cJ z)=Lj→E (.ref Y.e) Lh H)∧(isn z=Lj→E (.ref Y.b) Lh H))∨∃zs:Lw Str,pM Y.s H d zs∧(∀j:Nat,lM zs z j→Q (.int j) H)∧(inW zs (.str z)=Lj→E (.ref Y.e) Lh H)))
inductive gc
 |mk (z:Str)(ou:AM)(_:vs=[.str z,.ref ou])(_:z∈six)(_:(z=s!"sum" → ∃dx fs,H ou=Lg (.ins Y.r dx fs))) (_:∀H',ak H H'→Q .non H')
inductive eX(K:ac)(Y:AD)(vs:Lw V)(H:Hp)(Q:VK)(E:XK):Prop
 |mk (a:AM)(d:Dm)(z:Str)(_:vs=[.ref a,.str z])(_:iL Y.r Y.s H a d)(_:Sm 600 z)(_:(∀c,codeOf d z=Lg c→Q (.int c) H))(_:(codeOf d z=Lh→∀(H':Hp)(m:Option AM),ak H H'→E (.ref Y.d) m H'))
inductive kv
 |mk (x ou:AM)(d:Dw)(k:Dm)(cs:Lw Int)(_:vs=[.ref x,.ref ou])(_:DrG Y.v H x d)(_:iL Y.r Y.s H ou k)(_:⇑d.rws≤200)(_:⇑cs=⇑d.rws)(_:(∀(j:Nat) r,d.rws[j]?=Lg r→∃c,cs[j]?=Lg c∧Sm 600 r.2∧bnd c∧codeOf k r.2=Lg c))(_:∀(l:AM)(H':Hp),ak H H'→H l=Lh→H' l=Lg (.lst<|cs.map pi)→Q (.ref l) H')
inductive dg
 |mk (x dx na dl ou rl:AM)(nm wy:Str)(zs:Lw Str)(dv rx:Lw V)(bs:Prs)(o:Int×Int)(rws:Lw Rw)(_:vs=[.ref x,.str nm,.ref na,.ref dl,.ref ou,.str wy,.ref rl])(_:H x=Lg (.ins Y.t dx []))(_:H na=Lg (.lst<|zs.map NE))(_:(∀z∈nm :: zs,isw z=Li))(_:(nm :: zs).Nodup)(_:1≤⇑zs)(_:⇑zs≤4)(_:wy∈six)(_:(wy=s!"sum" → ∃dx fs,H ou=Lg (.ins Y.r dx fs))) (_:H dl=Lg (.lst dv))(_:au dv bs (Dom Y.r Y.s H))(_:Dom Y.r Y.s H ou o)(_:H rl=Lg (.lst rx))(_:RL NT H rx rws)(_:⇑rx≤200)(_:⇑bs≤4)(_:(∀w∈rws,oq bs o w))(_:∀(H':Hp)(fs:Lw (Str×V))(rl':AM)(xs':Lw V),(∀b o,b≠x→H b=Lg o→H' b=Lg o)→H' x=Lg (.ins Y.t dx fs)→fs.lookup s!"rows"=↑rl'→fs.lookup s!"way"=Lg (.str wy)→fs.lookup s!"outcome"=↑ou→fs.lookup s!"name"=Lg (.str nm)→(∃na' dl':AM,H na'=Lh∧H dl'=Lh∧fs.lookup s!"names"=↑na'∧fs.lookup s!"domains"=↑dl'∧H' na'=Lg (.lst<|zs.map NE)∧H' dl'=Lg (.lst dv))→H rl'=Lh→H' rl'=Lg (.lst xs')→RL (λa=>H a=Lh) H' xs' rws→Q .non H')
inductive iS(K:ac)(Y:AD)(vs:Lw V)(H:Hp)(Q:VK)(E:XK):Prop
 |mk (a:AM)(p:Int×Int)(z:Str)(_:vs=[.ref a,.str z])(_:jX Y.r H a p.1 p.2)(_:Sm 600 z)(_:inD z=Li)(_:(∀r,fD p z=Lg r→∀(t:AM)(H':Hp),ak H H'→H' t=Lg (.tup [.int r.1,.int r.2])→Q (.ref t) H'))(_:(fD p z=Lh→∀(H':Hp)(m:Option AM),ak H H'→E (.ref Y.d) m H'))
inductive jF(K:ac)(Y:AD)(vs:Lw V)(H:Hp)(Q:VK)(E:XK):Prop
 |mk (a:AM)(d:Dm)(z:Str)(_:vs=[.ref a,.str z])(_:iL Y.r Y.s H a d)(_:Sm 600 z)(_:(∀r,cC d z=Lg r→∀(t:AM)(H':Hp),ak H H'→H' t=Lg (.tup [.int r.1,.int r.2])→Q (.ref t) H'))(_:(cC d z=Lh→∀(H':Hp)(m:Option AM),ak H H'→E (.ref Y.d) m H'))
inductive iT
 |mk (x da rl:AM)(d:Dw)(dom:Str→Option Dm)(rx:Lw V)(rws:Lw Rw)(ks:Lw Dk)(ko:Dm)(_:vs=[.ref x,.ref da,.ref rl])(_:DrG Y.v H x d)(_:DcD Y.r Y.s H da dom)(_:(∀z zs,dom z=Lg (.inr zs)→Good zs))(_:(∀z∈d.nm :: d.cs,isw z=Li))(_:(d.nm :: d.cs).Nodup)(_:1≤⇑d.cs)(_:⇑d.cs≤4)(_:d.wy∈six)(_:(d.wy=s!"sum" → ∃p,ko=.inl p)) (_:dom d.nm=Lg ko)(_:⇑ks=⇑d.cs)(_:(∀(j:Nat) c,d.cs[j]?=Lg c→∃k,dom c=Lg k∧ks[j]?=Lg (dkm k)))(_:H rl=Lg (.lst rx))(_:RL NT H rx rws)(_:⇑rx≤200)(_:(∀w∈rws,oq (ks.map (·.2)) (dkm ko).2 w))(_:∀(t:AM)(H':Hp),ak H H'→H t=Lh→TbW Y.t Y.r Y.s H H' t (d.nm,d.cs,ks,dkm ko,d.wy,rws,)→Q (.ref t) H')
inductive kx(K:ac)(Y:AD)(vs:Lw V)(H:Hp)(Q:VK)(E:XK):Prop
 |mk (a:AM)(d:Dm)(z:Str)(_:vs=[.ref a,.str z])(_:iL Y.r Y.s H a d)(_:(fg d).1≤(fg d).2)(_:⇑z+2≤A8)(_:(∀y∈io z mk2,Sm 600 y))(_:⇑(io z mk2)<64)(_:(∀ps,partsOf d z=Lg ps→∀(l:AM)(H':Hp)(ys:Lw V)(R:Prs),ak H H'→H l=Lh→H' l=Lg (.lst ys)→PL H' ys R→Apart R→(∀n,inP R n=inP ps n)→⇑ys≤64→Q (.ref l) H'))(_:(partsOf d z=Lh→∀(H':Hp)(m:Option AM),ak H H'→E (.ref Y.d) m H'))
inductive jG(K:ac)(Y:AD)(vs:Lw V)(H:Hp)(Q:VK)(E:XK):Prop
 |mk (a:AM)(d:Dm)(z y:Str)(b:Bool)(_:vs=[.ref a,.str z])(_:iL Y.r Y.s H a d)(_:(fg d).1≤(fg d).2)(_:⇑z+2≤A8)(_:li z s!"not "=b) (_:y=(if b=Li then GT z (Lg 4) Lh else z))(_:⇑y+2≤A8)(_:(∀u∈io y mk2,Sm 600 u))(_:⇑(io y mk2)<64)(_:(∀ps,partsOf d y=Lg ps→∀(l:AM)(H':Hp)(ys:Lw V)(R:Prs),ak H H'→H l=Lh→H' l=Lg (.lst ys)→PL H' ys R→Apart R→(∀n,inP R n=if b=Li then(inR n (fg d) && !inP ps n)else inP ps n)→⇑ys≤66→Q (.ref l) H'))(_:(partsOf d y=Lh→∀(H':Hp)(m:Option AM),ak H H'→E (.ref Y.d) m H'))
inductive jH
 |mk (x da fl:AM)(d:Dw)(dom:Str→Option Dm)(fs:Lw Str)(css:Lw Prs)(_:vs=[.ref x,.ref da,.ref fl])(_:DrG Y.v H x d)(_:DcD Y.r Y.s H da dom)(_:H fl=Lg (.lst<|fs.map NE))(_:⇑d.cs≤4)(_:⇑fs=⇑d.cs)(_:⇑css=⇑d.cs)(_:(∀(j:Nat) c f,d.cs[j]?=Lg c→fs[j]?=Lg f→∃k R,dom c=Lg k∧css[j]?=Lg R∧RdC k f R))(_:∀(l:AM)(H':Hp)(xs:Lw V),ak H H'→H l=Lh→H' l=Lg (.lst xs)→CL (λa=>H a=Lh) H' xs css→Q (.ref l) H')
inductive ky
 |mk (x da:AM)(d:Dw)(dom:Str→Option Dm)(cc:Lw (Lw Prs))(_:vs=[.ref x,.ref da])(_:DrG Y.v H x d)(_:DcD Y.r Y.s H da dom)(_:⇑d.cs≤4)(_:⇑d.rws≤200)(_:⇑cc=⇑d.rws)(_:(∀(i:Nat) r,d.rws[i]?=Lg r→⇑r.1=⇑d.cs∧∃css,cc[i]?=Lg css∧⇑css=⇑d.cs∧∀(j:Nat) c f,d.cs[j]?=Lg c→r.1[j]?=Lg f→∃k R,dom c=Lg k∧css[j]?=Lg R∧RdC k f R))(_:∀(l:AM)(H':Hp)(xs:Lw V),ak H H'→H l=Lh→H' l=Lg (.lst xs)→au xs cc (CcA (λa=>H a=Lh) H')→Q (.ref l) H')
inductive gK
 |mk (z:Str)(zs:Lw Str)(lns:Lw Ln)(_:vs=[.str z])(_:(⇑z=0∧zs=[]∨⇑z≠0∧⇑z+2≤A8∧io z NL=zs))(_:Ax zs lns)(_:(∃dom ccs cds fcs bts,DR (rdb lns).1 (rdb lns).2 dom ccs cds∧RbT (rdb lns).1 (rdb lns).2 dom ccs cds fcs bts∧∀(x:AM)(H':Hp),ak H H'→H x=Lh→BkO Y.u Y.t Y.r Y.s H' x fcs bts→Q (.ref x) H'))
inductive kz
 |mk (_:vs=[])(_:∀H',ak H H'→Q (.bl Li) H')
def  J6(K:ac):Sp:=λc H Q _=>∃(a:AM)(b:Lw Int),c=[.ref a]∧SqL K H a (b.map pi)∧⇑b≤63∧∀d,Q (.bl Li) d
section
variable{P:zA}{w:zz}{K:ac}{mg:Str→Option zt}{base:A1}{f:AM}{fd:JB}{Y:AD}
set_option hygiene false in
local macro_rules|`(⟨⟩)=>`(Callee P w K mg base)
set_option hygiene false in
local macro_rules|`(())=>`(aR P w K mg base CX0)
def GA(F:Fun K "all_among" "all_among" Y30 f fd)(bl:Bl K mg Y):() 1 f fd ["text","signs"] (gH K Y):=by
 refine F.okA Z30 λr A m s H t Q E u h=>?_
 let(z,g,rfl,q):=h
 refine(_,(ao (bw v2 U (De<|pv 0) (aG (i:=2) Z30.nd U<|cr U)
  (ag (aQ (aH rK (pv 2) (pv 1) (by with_unfolding_all rfl))
  (ag<|aI iW)
  aE)))
  (ag<|aI iW)),?_,)
 dsimp only[bh,Nz,Ny];show(let o:TS:=_;ba _ o _ _ _);intro _;refine(z,U,(let p:Nat→St→Hp→Prop:=λi a l=>(∃k:Option V,a=[Lg (.str z),Lg<|.str g,k])∧l=H∧(z.cps.toList.take i).all (sg g)=Li;Bc p ((_,U,),U,U,) (λi c a l e h=>?_) (λa l h=>?_)),)
 .let((k,rfl),j,b):=h;rw[j];calc(_,_,U,U,_,U,?_,);refine bR (λd=>?_)<|λd=>?_
  .let n:i4 z g=false:=Dv e<|Dx d;rw[n]at q;exact q
  .exact((_,U,),U,all_succ e (EY d) b,)
 .let((k,rfl),j,b):=h;rw[j];rw[zI b]at q;calc q
def GB(F:Fun K "is_whole" "is_whole" Y40 f fd)(bl:Bl K mg Y):() 1 f fd ["value"] (iC K Y):=by
 refine F.okA Z40 λd A a s H e Q E g h=>?_
 let(v,rfl,c,q):=h;calc(_,(ag<|aI<|fO (ar cG U bl.isinstance_ im<|aa (pv 0)<|aa (wo (v:=.ty "int") U bl.int_ Mz U) ae)<|iJ<|CI<|ar cG U bl.isinstance_ im<|aa (pv 0)<|aa (wo (v:=.ty "bool") U bl.bool_ PyProof.Rows.boot_bool U) ae),?_,);cases v with
 |non=>exact(_,_,_,_,Lj,U,.ty _,.inl<|.non,(by first|rfl|with_unfolding_all rfl|decide+kernel),_,U,bF q,)
 |bl b=>exact(_,_,_,_,Li,U,.ty _,.inl<|.bl _,(by first|rfl|with_unfolding_all rfl|decide+kernel),_,U,eJ (_,_,_,_,Li,U,.ty _,.inl<|.bl _,(by first|rfl|with_unfolding_all rfl|decide+kernel),_,U,q,),)
 |int i=>exact(_,_,_,_,Li,U,.ty _,.inl<|.int _,(by first|rfl|with_unfolding_all rfl|decide+kernel),_,U,eJ (_,_,_,_,Lj,U,.ty _,.inl<|.int _,(by first|rfl|with_unfolding_all rfl|decide+kernel),_,U,q,),)
 |str z=>exact(_,_,_,_,Lj,U,.ty _,.inl<|.str _,(by first|rfl|with_unfolding_all rfl|decide+kernel),_,U,bF q,)
 |_=>calc c.elim
def GC(F:Fun K "alike" "alike" Y29 f fd)(bl:Bl K mg Y):() 1 f fd ["one","other"] (qc K Y):=by
 refine F.okA Z29 λO A o s H R Q E J h=>?_
 let(a,b,k,I,rfl,t,n,q):=h
 refine(_,(ao (aQ (PW.pt<|iI (bH<|ar cG U bl.isinstance_ im<|aa (pv 0)<|aa (fm (v:=.ref Y.r) U bl.Numbers_ U) ae)<|fX<|bH<|ar cG U bl.isinstance_ im<|aa (pv 1)<|aa (fm (v:=.ref Y.r) U bl.Numbers_ U) ae)
  (ag<|aI<|fO (dM cV (aO (pv 0) U) (aO (pv 1) U)<|aK _)<|iJ<|dM cV (aO (pv 0) U) (aO (pv 1) U)<|aK _)
  aE)
  (ao (aQ (PW.pt<|iI (bH<|ar cG U bl.isinstance_ im<|aa (pv 0)<|aa (fm (v:=.ref Y.s) U bl.Words_ U) ae)<|fX<|bH<|ar cG U bl.isinstance_ im<|aa (pv 1)<|aa (fm (v:=.ref Y.s) U bl.Words_ U) ae)
  (ag<|aI<|dM (lO J) (aO (pv 0) U) (aO (pv 1) U)<|aK _)
  aE)
  (ag<|aI iW))),?_,)
 dsimp only[bh,Nz,Ny];show(let B:TS:=_;let C:TS:=ba _ B;ba _ C _ _ _);intro _ _;let(w,lo,hi):=k;let(p,i,c):=I;cases w with
 |none =>
  let(N,e):=t;calc(_,_,_,_,Li,U,.ref _,bl.t_Numbers.ty e,bl.f_nn,_,U,eJ ?_,);cases p with
  |none =>
   let(j,d):=n;calc(_,_,_,_,Li,U,.ref _,bl.t_Numbers.ty d,bl.f_nn,_,U,eJ ?_,);calc(a,_,_,_,_,U,e,bl.k_Numbers,bl.na_Numbers_low,U,b,_,_,_,_,U,d,bl.k_Numbers,bl.na_Numbers_low,U,U,_,U,?_,);by_cases g:lo=i
   .subst g;calc qW U (a,_,_,_,_,U,e,bl.k_Numbers,bl.na_Numbers_high,U,b,_,_,_,_,U,d,bl.k_Numbers,bl.na_Numbers_high,U,U,?_,);let M:decide (pi hi=pi c)=lkD (Lh,lo,hi) (Lh,lo,c):=by
     show _=Lk ((lo,hi)=(lo,c));rw[pr,Lv,Lv];exact(λz=>by injection z with z;rw[z],λz=>by injection z with _ z;rw[z],)
    let D:Q (.bl<|Lk<|pi hi=pi c) H:=by rw[M];exact q
    exact D
   .refine bR (λu=>Lp (V.int.inj<|Ls u) g)<|λu=>?_;let L:lkD (Lh,lo,hi) (Lh,i,c)=false:=by
     show decide ((lo,hi)=(i,c))=Lj;exact Lr λz=>g (by injection z)
    rw[L]at q;exact q
  |some m =>
   let((j,G,d,x),_):=n;calc(_,_,_,_,Lj,U,.ref _,bl.t_Words.ty d,bl.f_wn,_,U,bF ?_,);exact(_,_,_,_,Lj,U,.ref _,bl.t_Numbers.ty e,bl.f_nw,_,U,bF<|bF q,)
 |some y =>
  let((N,l,e,f),_):=t;calc(_,_,_,_,Lj,U,.ref _,bl.t_Words.ty e,bl.f_wn,_,U,bF<|bF ?_,);calc(_,_,_,_,Li,U,.ref _,bl.t_Words.ty e,bl.f_ww,_,U,eJ ?_,);cases p with
  |none =>
   let(j,d):=n;exact(_,_,_,_,Lj,U,.ref _,bl.t_Numbers.ty d,bl.f_nw,_,U,bF q,)
  |some m =>
   let((j,G,d,x),_):=n;calc(_,_,_,_,Li,U,.ref _,bl.t_Words.ty d,bl.f_ww,_,U,eJ ?_,);calc(a,_,_,_,_,U,e,bl.k_Words,bl.na_Words_words,U,b,_,_,_,_,U,d,bl.k_Words,bl.na_Words_words,U,?_,);calc jc (Nw f) (Nw x) (by show decide (y=m)=Li↔_;rw[Lv]) q
def GD(F:Fun K "refuse_counts" "refuse_counts" Y75 f fd)(bl:Bl K mg Y)  : aR P w K mg base (CX1 P w) 1 f fd ["facts","tables"] (dj K Y):=by
 refine F.okEA Z75 λo A c s H p Q E e h=>?_
 let(l,j,t,r,rfl,n,m,q,d):=h
 refine(_,(ao (aQ (aH gB (ar aq U bl.len_ Lf<|aa (pv 0) ae) (cb U bl.MOST_FACTS_)<|aK _)
  (ag<|cF bl.x_TooMany e.hd U bl.TooMany_<|aa aN ae)
  aE)
  (ag (aQ (aH gB (ar aq U bl.len_ Lf<|aa (pv 1) ae) (cb U bl.MOST_TABLES_)<|aK _)
  (ag<|cF bl.x_TooMany e.hd U bl.TooMany_<|aa aN ae)
  aE))),?_,)
 dsimp only[bh,Nz,Ny];show(let i:TS:=_;ba _ i _ _ _);intro _;refine(l,_,U,.inl<|Nw n,_,_,U,U,_,U,bR (λg=>?_)<|λg=>?_,)
 .let k:=gg g;exact((by show 1≤A8;decide),d ∅,)
 let k:=ip g;refine(j,_,U,.inl<|Nw m,_,_,U,U,_,U,bR (λa=>?_)<|λa=>?_,)
 .let b:=gg a;exact((by show 1≤A8;decide),d ∅,)
 .let b:=ip a;calc q ∅
def GG(F:Fun K "named_among" "named_among" Y63 f fd)(bl:Bl K mg Y):() 1 f fd ["table","names"] (hU K Y):=by
 refine F.okA Z63 λL A p s H O Q E X h=>?_
 let(t,r,S,T,M,zs,a,dv,C,rfl,(R,dx,m,dl,fs,xs,u,f1,f2,f3,f4,v,f6,k,J,I,Z,W),o,GH,q):=h;refine(_,(ag<|aI<|bK (aT<|aO (pv 0) U) (bp (N:=["name","names"]) (fr:=[1]) (cl:=[("names",↥s+1)]) U U (~~~0) (~~~0) U (~~~0) U U U (fJ.mpr (U,hQ _,)) U) U (λ_ _ _ _=>(rO<|aH (vA (K:=K) U) (pv 0) (pv 1) (by with_unfolding_all rfl))) (λ_ _ _ _=>(pv 0))),?_,);let n:⇑(zs.map NE)=⇑zs:=ck _;refine(t,_,_,_,_,U,u,bl.k_Table,bl.na_Table_names,v,m,U,(_,Nw k,),(let B:AM→Nat→Lw V→Hp→Prop:=λD i d c=>ak H c∧c D=Lg (.lst d)∧d=((zs.take i).filter λz=>a.contains z).map NE;bP (xs:=zs.map NE) B (λD b=>(ah b _,af,U,)) (λD i d c b _ h=>Nw<|h.1 _ _ k) (λD i y d c b e h=>?_) (λD d c b h=>?_)),)
 .let(g,j,rfl):=h;let(z,rfl,x):=bW e;let hi:i<⇑(zs.map NE):=(IV.mp e).1;let G:⇑((zs.take i).filter λz=>a.contains z)≤i:=tm (ri ..) (by rw[fK];lia);calc(r,_,U,.inl<|Nw<|g _ _ o,U,i6 a,_,U,?_,);rw[show(if Lj=Li then !inV (NE z) (a.map NE)else inV (NE z) (a.map NE))=a.contains z by rw[Lm bv,pQ]];let l:((zs.take<|i+1).filter λz=>a.contains z)=((zs.take i).filter λz=>a.contains z)++(if a.contains z then[z] else[]):=by
   rw[take_snoc x,qo]
   congr 1
   cases h:a.contains z with
   |true=>rw[KT h,nF];rfl
   |false=>rw[Lx (by rw[h];exact bv),nF];rfl
  cases hc:a.contains z with
  |true =>
   rw[hc]at l;refine eJ (b7.mk hi j (aC (by rw[ck];lia)) (g.upd b,af,?_,));rw[l,eg];rfl
  |false =>
   rw[hc]at l;calc bF<|kc.mk (zs:=((zs.take i).filter λz=>a.contains z).map NE) hi (g,j,?_,);rw[l];simp
 .let(g,j,rfl):=h;rw[n,eY]at j;calc q D c g b j
def GI(F:Fun K "tidy" "tidy" Y90 f fd)(bl:Bl K mg Y):() 1 f fd ["pairs"] (sS K Y):=by
 refine F.okA Z90 λa8 A a6 s H vs Q E hr h=>?_
 let(a,xs,ps,rfl,hS,hP,a5,q):=h
 refine(_,(ao (aJ (i:=1) Z90.nd U (cr U)<|bJ ae)
  (ao (bw v2 U (aT<|ar mG U bl.sorted_ PyProof.Rows.boot_sorted<|aa (pv 0) ae) (fb U<|aL (aG (i:=2) Z90.nd U<|cr U)<|aL (aG (i:=3) Z90.nd U<|cr U) bC)
  (ao (aQ (aH gB (pv 2) (pv 3)<|aK _)
  (ag tI)
  aE)
  (ag (aQ (PW.pt<|iI (fq (pv 1) (by intro _;rfl)) (fX<|aH fM (pv 2) (aD bT (az aM (az aV (pv 1) (qF m6 ai)<|λ_ _=>U) ai<|λ_ _=>U) ai)<|aK _))
  (ag<|m4 (bz<|aa (az aM (az aV (pv 1) (qF m6 ai)<|λ_ _=>U) ai<|λ_ _=>U)<|aa (ar (kL U) U bl.max_ KB<|aa (az aM (az aV (pv 1) (qF m6 ai)<|λ_ _=>U) ai<|λ_ _=>U)<|aa (pv 3) ae) ae)<|CM (pv 1) (qF m6 ai) set_list)
  (ag<|aX<|br PySem.F.plainAttrs_list PySem.F.slot_list_append PySem.F.type_list_append bO (pv 1)<|aa (bz<|aa (pv 2)<|aa (pv 3) ae) ae)))))
  (ag<|aI<|pv 1))),?_,)
 dsimp only[bh,Nz,Ny];show(let r2:TS:=_;let r1:TS:=ba _ r2;ba _ r1 _ _ _);intro _ _;refine((by show 0≤A8;decide),λb v=>?_,);let X:ak H (upd H b<|.lst []):=ah v _;calc(a,xs,ps,U,X.seq hS,hP.mono X.tups,a5,λD z Z hD hZ Cz Fn=>?_,);let eD:H D=none:=X.free hD;let T:b≠D:=bG af hD;let a7:⇑z=⇑xs:=by rw[⇑hZ,Cz.length_eq,←⇑hP]
 refine⟨D,U,(_,Nw af,),bo (xs:=z) (λi W g=>∃(O N:Option V)(j:Lw V)(R:Lw (Int×Int)),W=[↑a,↑b,O,N]∧ak H g∧g D=Lg (.lst z)∧g b=Lg (.lst j)∧PL g j R∧PL g z Z∧jU R (Z.take i)∧⇑j≤i)
  (Lh,Lh,[],[],U,X.trans<|ah hD _,af,dS af hD,.nil,hZ,jU.nil,uk _,)
  (λi W g _ h=>by let(_,_,_,_,_,_,e,_):=h;exact Nw e) (λi x W g e h=>?_) (λW g h=>?_)⟩
 .let(O,N,j,R,rfl,L,eZ,m,I,n,y,hl):=h;let(p,r,e1,rfl,a0):=n.get e;let a2:=xZ Fn e1;let hi:i<⇑z:=(IV.mp e).1;calc(r,_,U,Nx a0,U,_,_,U,_,_,U,U,?_,);calc(_,_,U,U,_,U,?_,);refine bR (λc=>?_)<|λc=>?_
  .let c':p.2<p.1:=gg c;exact(_,_,j,R,U,L,eZ,m,I,n,by rw[take_snoc e1];exact y.skip c',∅,)
  let c':p.1≤p.2:=Int.not_lt.mp<|ip c
  let S:(∀r0∈R,r0.2+2≤p.1)→∀t,g t=Lh→∃(O N:Option V)(B:Lw V)(R2:Lw (Int×Int)),[Lg (NC a),Lg<|NC b,Lg<|pi p.1,Lg (pi p.2)]=[↑a,↑b,O,N]∧ak H (upd (upd g t<|.tup [.int p.1,.int p.2]) b<|.lst<|j++[.ref t])∧upd (upd g t<|.tup [.int p.1,.int p.2]) b (.lst<|j++[.ref t]) D=Lg (.lst z) ∧
    upd (upd g t<|.tup [.int p.1,.int p.2]) b (.lst<|j++[.ref t]) b=Lg (.lst B)∧PL (upd (upd g t<|.tup [.int p.1,.int p.2]) b<|.lst<|j++[.ref t]) B R2∧PL (upd (upd g t<|.tup [.int p.1,.int p.2]) b<|.lst<|j++[.ref t]) z Z∧jU R2 (Z.take<|i+1)∧B.length≤i+1:=λGJ t k=>by
   let J:upd g t (.tup [.int p.1,.int p.2]) b=Lg (.lst j):=dS m k;let u:gD g (upd (upd g t<|.tup [.int p.1,.int p.2]) b<|.lst<|j++[.ref t]):=(gM k).trans<|bZ J;refine(_,_,j++[.ref t],R++[p],U,(L.trans<|ah k _).upd v,by rw[ay T.symm];exact dS eZ k,af,(I.mono u).snoc<|bZ J _ _ af,n.mono u,by rw[take_snoc e1];exact y.add c' GJ,?_,);rw[eH,iU];lia
  calc(!j.isEmpty,.inl (j,Nw m,U,),?_,);by_cases G:j=[]
  .let hR:R=[]:=by
    let:=I.length;rw[G]at this;exact MC this.symm
   let eE:(!j.isEmpty)=false:=by rw[G];rfl
   rw[eE];calc bF<|bF ?_;refine(.inl (U,_,Nw m,),(by show 2≤A8;decide),λt k=>?_,);calc(b,j,_,U,U,dS m k,aC ∅,?_,);exact S (by rw[hR];intro r0 h0;cases h0) t k
  .let(o,M,R',l,rfl,rfl,a4,C):=PL.last I G;let eE:(!(o++[NC M]).isEmpty)=true:=by cases o <;> rfl
   rw[eE];calc eJ ?_;calc(_,U,b,_,_,_,U,U,Nw m,j6 _ _,M,_,_,_,U,U,Nx C,z1 _ _,_,_,U,U,_,_,U,U,_,U,?_,);refine bR (λd=>?_)<|λd=>?_
   .let d':p.1≤l.2+1:=gg d;let a3:l.1≤p.1:=by
     let(q0,a1,e0):=y.low l (by simp);rw[e0];exact a2 q0 a1
    refine(_,U,b,_,_,_,U,U,Nw m,j6 _ _,M,_,_,_,U,U,Nx C,z0 _ _,_,U,b,_,_,_,U,U,Nw m,j6 _ _,M,_,_,_,U,U,Nx C,z1 _ _,_,_,U,(by show 2≤A8;decide),λt k=>?_,);let J:upd g t (.tup [.int l.1,.int (if p.2>l.2 then p.2 else l.2)]) b=Lg (.lst<|o++[.ref M]):=dS m k;refine(_,U,b,_,_,_,U,U,J,zG (by simp),?_,);rw[zH];let u:gD g (upd (upd g t<|.tup [.int l.1,.int (if p.2>l.2 then p.2 else l.2)]) b (.lst<|o++[.ref t])):=(gM k).trans<|bZ J;refine(_,_,o++[.ref t],R'++[(l.1,if p.2>l.2 then p.2 else l.2)],U,(L.trans<|ah k _).upd v,by rw[ay T.symm];exact dS eZ k,af,(a4.mono u).snoc<|bZ J _ _ af,n.mono u,?_,?_,)
    .rw[take_snoc e1];exact y.join a3 d' c' (by split <;> lia)
    .rw[eH,iU]at hl⊢;lia
   .let d':¬ p.1≤l.2+1:=ip d;refine(.inl (U,_,Nw m,),(by show 2≤A8;decide),λt k=>?_,);calc(b,_,_,U,U,dS m k,aC ∅,?_,);exact S (y.ap.last ∅) t k
 .let(O,N,j,R,rfl,L,eZ,m,I,n,y,hl):=h;rw[⇑n,eY]at y;calc(q b g j R L v m I (y.perm Cz) ∅)
def GK(F:Fun K "both" "both" Y31 f fd)(bl:Bl K mg Y):() 1 f fd ["ones","others"] (sU K Y):=by
 refine F.okA Z31 λa8 A a5 s H vs Q E hr h=>?_
 let(a,b,M,L,y,x,rfl,hA,hB,PA,PB,aA,aB,hl,q):=h
 refine(_,(ao (aJ (i:=2) Z31.nd U (cr U)<|bJ ae)
  (ao (aJ (i:=3) Z31.nd U (cr U) ai)
  (ao (aJ (i:=4) Z31.nd U (cr U) ai)
  (ao (tJ v2 (PW.pt<|iI (aH lI (pv 3) (ar aq U bl.len_ Lf<|aa (pv 0) ae)<|aK _)<|fX<|aH lI (pv 4) (ar aq U bl.len_ Lf<|aa (pv 1) ae)<|aK _)
  (ao (aJ (i:=5) Z31.nd U (cr U)<|az aV (pv 0) (pv 3)<|λ_ _=>U)
  (ao (aJ (i:=6) Z31.nd U (cr U)<|az aV (pv 1) (pv 4)<|λ_ _=>U)
  (ao (aJ (i:=7) Z31.nd U (cr U)<|ar (kL U) U bl.max_ KB<|aa (az aM (pv 5) ai<|λ_ _=>U)<|aa (az aM (pv 6) ai<|λ_ _=>U) ae)
  (ao (aJ (i:=8) Z31.nd U (cr U)<|ar (iY U) U bl.min_ Ev<|aa (az aM (pv 5) ai<|λ_ _=>U)<|aa (az aM (pv 6) ai<|λ_ _=>U) ae)
  (aw (aQ (aH fM (pv 7) (pv 8)<|aK _)
  (ag<|aX<|br PySem.F.plainAttrs_list PySem.F.slot_list_append PySem.F.type_list_append bO (pv 2)<|aa (bz<|aa (pv 7)<|aa (pv 8) ae) ae)
  aE)
  (ag (aQ (aH lI (az aM (pv 5) ai<|λ_ _=>U) (az aM (pv 6) ai<|λ_ _=>U)<|aK _)
  (ag<|yF (i:=3) Z31.nd U (cr U) ai yG)
  (ag<|yF (i:=4) Z31.nd U (cr U) ai yG)))))))))
  (ag<|aI<|pv 2))))),?_,)
 dsimp only[bh,Nz,Ny];show(let r4:TS:=_;let r3:TS:=ba _ r4;let r2:TS:=ba _ r3;let r1:TS:=ba _ r2;ba _ r1 _ _ _);intro _ _ _ _;refine((by show 0≤A8;decide),λu G=>?_,);let s0:ak H (upd H u<|.lst []):=ah G _;let lA:=PA.length;let lB:=PB.length
 refine(let I_:Nat→St→Hp→Prop:=λm σ v=>∃(i j:Nat)(c5 c6 c7 c8:Option V)(r:Lw V)(S:Lw (Int×Int)),σ=[↑a,↑b,↑u,Lg<|.int i,Lg<|.int j,c5,c6,c7,c8]∧ak H v∧v u=Lg (.lst r)∧PL v r S∧iq S (y.drop i) (x.drop j) y x∧i≤⇑y∧j≤⇑x∧⇑r≤i+j∧m=(⇑y-i)+(⇑x-j);(I_,
  (_,0,0,Lh,Lh,Lh,Lh,[],[],U,s0,af,.nil,iq.start aA aB,uk _,uk _,uk _,U,),?_,))
 rintro m σ v ⟨i,j,c5,c6,c7,c8,r,S,rfl,B,eS,hP,N,hi,hj,hz,hm⟩;let Z:=B.seq hA;let X:=B.seq hB;let a4:=PA.mono B.tups;let a3:=PB.mono B.tups;let z:(i=⇑y∨j=⇑x)→Q (.ref u) v:=λe=>q u v r S B G eS hP N.ap (N.fin (by
  rcases e with e|e
  .exact .inl (by rw[e];exact List.drop_length)
  .exact .inr (by rw[e];exact List.drop_length))) ∅
 calc(a,_,U,.inl<|Z,_,_,U,U,_,U,?_,);refine bR (λc=>?_)<|λc=>?_
 .let ci:i<⇑y:=by have:(i:Int)<((M.length:Nat):Int):=gg c;lia
  calc(b,_,U,.inl<|X,_,_,U,U,_,U,?_,);refine bR (λd=>?_)<|λd=>?_
  .let cj:j<⇑x:=by have:(j:Int)<((L.length:Nat):Int):=gg d;lia
   let ex:M[i]?=Lg M[i]:=IU ∅;let ey:L[j]?=Lg L[j]:=IU ∅;let(k,I,f1,f2,f3):=a4.get ex;let(g,rb,g1,g2,g3):=a3.get ey;let va:atI M (i:Int)=↑I:=by rw[←f2];exact aU ex
   let vb:atI L (j:Int)=↑rb:=by rw[←g2];exact aU ey
   let dA:y.drop i=k :: y.drop (i+1):=by
    let(p,o):=IV.mp f1;rw[ot p,o]
   let dB:x.drop j=g :: x.drop (j+1):=by
    let(p,o):=IV.mp g1;rw[ot p,o]
   rw[dA,dB]at N;let hc:((if g.1>k.1 then g.1 else k.1),(if g.2<k.2 then g.2 else k.2)).1=max k.1 g.1∧((if g.1>k.1 then g.1 else k.1),(if g.2<k.2 then g.2 else k.2)).2=min k.2 g.2:=by
    constructor
    .show(if g.1>k.1 then g.1 else k.1)=_;split <;> lia
    .show(if g.2<k.2 then g.2 else k.2)=_;split <;> lia
   generalize a1:(if g.1>k.1 then g.1 else k.1)=cl at hc;generalize a2:(if g.2<k.2 then g.2 else k.2)=ch at hc;calc(_,λO C w=>w,?_,);calc(a,_,_,_,U,U,Z,va,?_,);calc(b,_,_,_,U,U,X,vb,?_,);calc(I,_,_,_,U,U,Nx f3,z0 _ _,rb,_,_,_,U,U,Nx g3,z0 _ _,_,_,U,?_,);rw[a1];calc(I,_,_,_,U,U,Nx f3,z1 _ _,rb,_,_,_,U,U,Nx g3,z1 _ _,_,_,U,?_,);rw[a2]
   refine(let I_:St→Hp→Prop:=λO C=>O=[↑a,↑b,↑u,Lg<|.int i,Lg<|.int j,↑I,↑rb,Lg<|.int cl,Lg (.int ch)]∧ak H C∧C I=Lg (.tup [.int k.1,.int k.2])∧C rb=Lg (.tup [.int g.1,.int g.2])∧∃n J,C u=Lg (.lst n)∧PL C n J∧⇑n≤i+j+1 ∧
    ((cl≤ch∧J=S++[(cl,ch)])∨(¬ cl≤ch∧J=S));(I_,?_,?_,))
   .refine(_,_,U,U,_,U,?_,);refine bR (λe=>?_)<|λe=>?_
    .refine(.inl (U,_,Nw eS,),(by show 2≤A8;decide),λt ht=>?_,);let e3:upd v t (.tup [.int cl,.int ch]) u=Lg (.lst r):=dS eS ht;calc(u,r,_,U,U,e3,aC ∅,?_,);let D:gD v (upd (upd v t<|.tup [.int cl,.int ch]) u<|.lst<|r++[.ref t]):=(gM ht).trans<|bZ e3;exact(U,(B.trans<|ah ht _).upd G,D _ _ f3,D _ _ g3,r++[.ref t],S++[(cl,ch)],af,(hP.mono D).snoc<|bZ e3 _ _ af,by rw[eH,iU];lia,.inl (gg e,U,),)
    .exact(U,B,f3,g3,r,S,eS,hP,∅,.inr (ip e,U,),)
   rintro a6 C ⟨rfl,R,f4,g4,n,J,a0,W,a7,T⟩;calc(I,_,_,_,U,U,Nx f4,z1 _ _,rb,_,_,_,U,U,Nx g4,z1 _ _,_,_,U,U,_,U,?_,);refine bR (λe=>?_)<|λe=>?_
   .refine(_,U,_,_,U,U,?_,);let l:=N.left (gg e) hc;rw[←dB]at l;refine(_,?_,i+1,j,_,_,_,_,n,J,U,R,a0,W,?_,ci,hj,∅,U,)
    .lia
    .rcases T with⟨p,o⟩|⟨p,o⟩
     .rw[o];exact l.1 p
     .rw[o];exact l.2 p
   .refine(_,U,_,_,U,U,?_,);let l:=N.right (ip e) hc;rw[←dA]at l;refine(_,?_,i,j+1,_,_,_,_,n,J,U,R,a0,W,?_,hi,cj,∅,U,)
    .lia
    .rcases T with⟨p,o⟩|⟨p,o⟩
     .rw[o];exact l.1 p
     .rw[o];exact l.2 p
  .let cj:j=⇑x:=by have:¬ (j:Int)<((L.length:Nat):Int):=ip d;lia
   exact(z<|.inr cj)
 .let ci:i=⇑y:=by have:¬ (i:Int)<((M.length:Nat):Int):=ip c;lia
  calc bF<|z<|.inl ci
def GL(F:Fun K "gaps" "gaps" Y38 f fd)(bl:Bl K mg Y):() 1 f fd ["spans","low","high"] (sV K Y):=by
 refine F.okA Z38 λa6 A a3 s H vs Q E hr h=>?_
 let(a,xs,N,lo,hi,rfl,hS,hP,ap,hl,q):=h
 refine(_,(ao (aJ (i:=3) Z38.nd U (cr U)<|bJ ae)
  (ao (aJ (i:=4) Z38.nd U (cr U)<|pv 1)
  (ao (bw v2 U (aT<|pv 0) (fb U<|aL (aG (i:=5) Z38.nd U<|cr U)<|aL (aG (i:=6) Z38.nd U<|cr U) bC)
  (ao (aJ (i:=7) Z38.nd U (cr U)<|ar (iY U) U bl.min_ Ev<|aa (aD fP (pv 5) ai)<|aa (pv 2) ae)
  (aw (aQ (aH fM (pv 4) (pv 7)<|aK _)
  (ag<|aX<|br PySem.F.plainAttrs_list PySem.F.slot_list_append PySem.F.type_list_append bO (pv 3)<|aa (bz<|aa (pv 4)<|aa (pv 7) ae) ae)
  aE)
  (ag<|aJ (i:=4) Z38.nd U (cr U)<|ar (kL U) U bl.max_ KB<|aa (pv 4)<|aa (aD bT (pv 6) ai) ae))))
  (ao (aQ (aH fM (pv 4) (pv 2)<|aK _)
  (ag<|aX<|br PySem.F.plainAttrs_list PySem.F.slot_list_append PySem.F.type_list_append bO (pv 3)<|aa (bz<|aa (pv 4)<|aa (pv 2) ae) ae)
  aE)
  (ag<|aI<|pv 3))))),?_,)
 dsimp only[bh,Nz,Ny];show(let r4:TS:=_;let r3:TS:=ba _ r4;let r2:TS:=ba _ r3;let r1:TS:=ba _ r2;ba _ r1 _ _ _);intro _ _ _ _;refine((by show 0≤A8;decide),λg l=>?_,);let s0:ak H (upd H g<|.lst []):=ah l _;refine ?_
 refine⟨a,U,(_,s0.seq hS,),(let O:Nat→St→Hp→Prop:=λi C j=>∃(b:Int)(M L J:Option V)(d:Lw V)(F:Lw (Int×Int)),C=[↑a,Lg<|.int lo,Lg<|.int hi,↑g,Lg<|.int b,M,L,J]∧ak H j∧j g=Lg (.lst d)∧PL j d F∧pB F (N.take i) lo hi b∧⇑d≤i;bo (xs:=xs) O)
  (lo,Lh,Lh,Lh,[],[],U,s0,af,.nil,pB.start lo hi,uk _,)
  (λi C j _ h=>by let(_,_,_,_,_,_,_,m,_):=h;exact m.seq hS) (λi x C j e h=>?_) (λC j h=>?_)⟩
 .let(b,M,L,J,d,B,rfl,m,o,y,D,hz):=h;let(p,r,e1,rfl,X):=(hP.mono m.tups).get e;let a5:i<⇑xs:=(IV.mp e).1;calc(r,_,U,Nx X,U,_,_,U,_,_,U,U,?_,);calc(_,_,U,U,_,_,U,?_,);let tk:=take_snoc e1;let a2:Apart (N.take i++[p]):=by rw[←tk];exact ap.take _
  generalize he:(if hi<p.1-1 then hi else p.1-1)=en;let Z:en=min (p.1-1) hi:=by rw[←he];split <;> lia
  let W:(if p.2+1>b then p.2+1 else b)=max b (p.2+1):=by split <;> lia
  let gt:=D.turn (st':=if p.2+1>b then p.2+1 else b) (e:=en) a2 Z W;refine(let O:St→Hp→Prop:=λR G=>R=[↑a,Lg<|.int lo,Lg<|.int hi,↑g,Lg<|.int b,Lg<|.int p.1,Lg<|.int p.2,Lg (.int en)]∧ak H G∧∃k I,G g=Lg (.lst k)∧PL G k I∧⇑k≤i+1∧pB I (N.take i++[p]) lo hi (if p.2+1>b then p.2+1 else b);(O,?_,?_,))
  .refine(_,_,U,U,_,U,?_,);refine bR (λc=>?_)<|λc=>?_
   .refine(.inl (U,_,Nw o,),(by show 2≤A8;decide),λt n=>?_,);let u:upd j t (.tup [.int b,.int en]) g=Lg (.lst d):=dS o n;calc(g,d,_,U,U,u,aC ∅,?_,);let v:gD j (upd (upd j t<|.tup [.int b,.int en]) g<|.lst<|d++[.ref t]):=(gM n).trans<|bZ u;exact(U,(m.trans<|ah n _).upd l,d++[.ref t],B++[(b,en)],af,(y.mono v).snoc<|bZ u _ _ af,by rw[eH,iU];lia,gt.1<|gg c,)
   .exact(U,m,d,B,o,y,∅,gt.2<|ip c,)
  rintro a4 G ⟨rfl,S,k,I,a1,a0,T,g2⟩;calc(_,_,U,U,_,_,U,?_,);exact(_,_,_,_,k,I,U,S,a1,a0,by rw[tk];exact g2,T,)
 .let(b,M,L,J,d,B,rfl,m,o,y,D,hz):=h;rw[⇑hP,eY]at D;let gf:=D.fin;calc(_,_,U,U,_,U,?_,);refine bR (λc=>?_)<|λc=>?_
  .refine(.inl (U,_,Nw o,),(by show 2≤A8;decide),λt n=>?_,);let u:upd j t (.tup [.int b,.int hi]) g=Lg (.lst d):=dS o n;calc(g,d,_,U,U,u,aC ∅,?_,);let v:gD j (upd (upd j t<|.tup [.int b,.int hi]) g<|.lst<|d++[.ref t]):=(gM n).trans<|bZ u;let z:=gf.1<|gg c;exact(q g _ (d++[.ref t]) (B++[(b,hi)]) ((m.trans<|ah n _).upd l) l af ((y.mono v).snoc<|bZ u _ _ af) z.1 z.2 (by rw[eH,iU];lia))
  .let z:=gf.2<|ip c;calc(q g j d B m l o y z.1 z.2 ∅)
def GN(F:Fun K "refuse_counts" "refuse_counts" Y77 f fd)(bl:Bl K mg Y):() 1 f fd ["names","rows"] (cZ K Y):=by
 refine F.okA Z77 λg A a s H j Q E l h=>?_
 let(p,r,b,i,rfl,e,d,n,m,k,q):=h
 refine(_,(ao (aQ (cK<|tL fM fM ai (ar aq U bl.len_ Lf<|aa (pv 0) ae)<|cb U bl.MOST_COLUMNS_)
  (ag bj)
  aE)
  (ag (aQ (aH gB (ar aq U bl.len_ Lf<|aa (pv 1) ae) (cb U bl.MOST_ROWS_)<|aK _)
  (ag bj)
  aE))),?_,)
 dsimp only[bh,Nz,Ny];show(let c:TS:=_;ba _ c _ _ _);intro _;calc(p,_,U,.inl<|e,_,_,U,U,_,U,qW ∅ ?_,);calc(_,_,U,U,_,U,?_,);rw[Lq (show((⇑b:Nat):Int)≤4 by lia)];calc bF ?_;calc(r,_,U,.inl<|d,_,_,U,U,_,U,iw ∅ q,)
def GO(F:Fun K "own_row" "own_row" Y65 f fd)(bl:Bl K mg Y):() 1 f fd ["cells","code"] (l7 K Y):=by
 refine F.okA Z65 λV A B s H W Q E Z h=>?_
 let(T,xs,I,rfl,C,u,GH,q):=h;refine(_,(ag<|aI<|bz<|aa (bK (aT<|pv 0) (bA U (~~~0) (~~~0) (~~~0) U) U (λ_ _ _ _=>aY)<|λ_ _ _ _=>(a9 (qr (K:=K) U) U bl.list_ wr<|aa (pv 0) ae))<|aa (pv 1) ae),?_,)
 refine(T,U,(_,Nw C,),bP (xs:=xs) (λD i g d=>ak H d∧d D=Lg (.lst g)∧CL (Fr H D) d g (I.1.take i))
  (λD m=>(ah m _,af,au.nil,)) (λD i g d m _ h=>Nw<|h.1 _ _ C) (λD i x g d m e h=>?_) (λD g d m h=>?_),)
 .let(k,v,t):=h;let(l,X,rfl,R,N):=au.get u e;let(_,n,S,M):=N.same k;let hi:i<⇑xs:=(IV.mp e).1;let y:⇑g<A8:=by
   let O:=t.1;rw[fK]at O;exact aC ∅
  calc(l,_,U,.inl<|Nw S,λp c=>?_,);let o:=ah c<|.lst n;let G:upd d p (.lst n) p=Lg (.lst n):=af;let j:=o _ _ v;generalize upd d p (.lst n)=H2 at o G j⊢;let L:H p=none:=k.free c;let J:p≠D:=λz=>by rw[z,v]at c;cases c
  calc b7.mk hi j y ((k.trans o).upd m,af,?_,);rw[take_snoc R];exact CL.updN (au.snoc (t.same o) ((L,J,),n,G,M.mono o.tups,)) Fr.out j
 .let(k,v,t):=h;rw[u.1,eY]at t;calc(fe,λr b=>q r _ (k.trans<|ah b _) (k.free b) (D,g,af,m,ah b _ _ _ v,?_,),);calc(t.same<|ah b _).wk λa h=>h.1
def GP(F:Fun K "cut" "cut" Y35 f fd)(bl:Bl K mg Y):() 1 f fd ["parts"] (qd K Y):=by
 refine F.okA Z35 λk A d s H l Q E m h=>?_
 let(p,a,b,c,rfl,g,i,j,q):=h
 refine(_,(ao (aQ (cK<|fq (az aM (pv 0) ai<|λ_ _=>U) (by intro _;rfl))
  (ag bj)
  aE)
  (ag<|aI<|pv 0)),?_,)
 dsimp only[bh,Nz,Ny];show(let e:TS:=_;ba _ e _ _ _);intro _;calc(p,_,_,_,U,U,Nx g,U,Li,(i,~~~j,),bF q,)
def GQ(F:Fun K "refuse_counts" "refuse_counts" Y76 f fd)(bl:Bl K mg Y):() 1 f fd ["facts","drafts"] (cL K Y):=by
 refine F.okA Z76 λJ A k s H M Q E W h=>?_
 let(m,g,fv,D,ds,L,rfl,j,a,X,Z,r,ok,q):=h
 refine(_,(ao (aQ (PW.pt<|jT (aH gB (ar aq U bl.len_ Lf<|aa (pv 0) ae) (cb U bl.MOST_FACTS_)<|aK _)<|iH<|aH gB (ar aq U bl.len_ Lf<|aa (pv 1) ae) (cb U bl.MOST_TABLES_)<|aK _)
  (ag bj)
  aE)
  (ag (bw v2 U (aT<|pv 1) (aG (i:=2) Z76.nd U<|cr U)
  (ag (aQ (PW.pt<|jT (aH gB (ar aq U bl.len_ Lf<|aa (aO (pv 2) U) ae) (cb U bl.MOST_COLUMNS_)<|aK _)<|iH<|aH gB (ar aq U bl.len_ Lf<|aa (aO (pv 2) U) ae) (cb U bl.MOST_ROWS_)<|aK _)
  (ag bj)
  aE))))),?_,)
 dsimp only[bh,Nz,Ny];show(let t:TS:=_;ba _ t _ _ _);intro _;calc(m,_,U,.inl<|Nw j,_,_,U,U,_,U,iw ∅ (g,_,U,.inl<|Nw a,_,_,U,U,_,U,iw ∅ ?_,),);refine(g,U,(_,Nw a,),(let I:Nat→St→Hp→Prop:=λi b c=>c=H∧∃n:Option V,b=[↑m,↑g,n];bo (xs:=D) I (U,_,U,) (λi b c _ h=>by rw[h.1];exact Nw a) (λi y b c e h=>?_) (λb c h=>by rw[h.1];exact q)),);let(C,n,rfl):=h;rw[C];let(x,d,rfl,B,p,N,(dx,G,l,z),v,u):=au.get r e;let o:=ok d<|IW B;let R:=o.c4;let O:=o.r200;let T:⇑(d.cs.map NE)=⇑d.cs:=ck _;let S:=u.1;calc(x,_,_,_,_,U,l,bl.k_Draft,bl.na_Draft_columns,U,G,_,U,.inl<|Nw z,_,_,U,U,_,U,iw ∅ (x,_,_,_,_,U,l,bl.k_Draft,bl.na_Draft_rows,U,p,_,U,.inl<|Nw v,_,_,U,U,_,U,iw ∅ (U,_,U,),),)
def GR(F:Fun K "refuse_columns" "refuse_columns" Y74 f fd)(bl:Bl K mg Y):() 1 f fd ["draft","names"] (fE K Y):=by
 refine F.okA Z74 λR A u s H S Q E Z h=>?_
 let(x,n,d,v,rfl,(W,T,(dx,o,m,k),g3,g4),ok,t,O,q):=h
 refine(_,(aw (bw v2 U (aT<|aO (pv 0) U) (aG (i:=2) Z74.nd U<|cr U)
  (ag (aQ (PW.pt<|jT (aH mD (pv 2) (pv 1) (by with_unfolding_all rfl)) (iH<|aH cV (pv 2) (aO (pv 0) U)<|aK _))
  (ag bj)
  aE)))
  (ag (aQ (aH lI (ar eQ U bl.len_ Lf<|aa (a9 (eP U) U bl.set_ Do<|aa (aO (pv 0) U) ae) ae) (ar aq U bl.len_ Lf<|aa (aO (pv 0) U) ae)<|aK _)
  (ag bj)
  aE))),?_,)
 dsimp only[bh,Nz,Ny];show(let C:TS:=_;aZ _ C _ _ _);intro _;let I:⇑(d.cs.map NE)=⇑d.cs:=ck _;let X:=ok.c4;refine(let p:St→Hp→Prop:=λr b=>b=H∧∃c:Option V,r=[↑x,↑n,c];(p,?_,?_,))
 .refine(x,_,_,_,_,U,m,bl.k_Draft,bl.na_Draft_columns,U,o,U,(_,Nw k,),(let p:Nat→St→Hp→Prop:=λi j b=>b=H∧∃c:Option V,j=[↑x,↑n,c];bo (xs:=d.cs.map NE) p (U,_,U,) (λi j b _ h=>by rw[h.1];exact Nw k) (λi y j b e h=>?_) (λj b h=>h)),);let(M,c,rfl):=h;rw[M];let(z,rfl,J):=bW e;let(G,D):=ok.cin z<|IW J;calc(n,_,U,.inl<|Nw t,U,i6 _,_,U,?_,);rw[show(if Li=Li then !inV (NE z) (v.map NE)else inV (NE z) (v.map NE))=Lj by rw[Lo U,pQ];simpa using G];exact bF (x,_,_,_,_,U,m,bl.k_Draft,bl.na_Draft_name,U,U,_,U,bR (λg=>Lp (~~~g) D)<|λ_=>(U,_,U,),)
 rintro N H2 ⟨L,c,rfl⟩;rw[L];calc(x,_,_,_,_,U,m,bl.k_Draft,bl.na_Draft_columns,U,o,d.cs,U,Nw k,∅,λl a=>(l,d.cs,U,af,∅,x,_,_,_,_,U,(ah a _ _ _ m),bl.k_Draft,bl.na_Draft_columns,U,o,_,U,.inl<|Nw<|ah a _ _ _ k,_,_,U,U,_,U,?_,),);let B:=gN d.cs ⇑d.cs<|sT _;rw[eY]at B;calc iw (by rw[I,B.mpr ok.cnd];lia) (q _<|ah a _)
def GS(F:Fun K "refuse_fields" "refuse_fields" Y79 f fd)(bl:Bl K mg Y):() 1 f fd ["draft"] (fS K Y):=by
 refine F.okA Z79 λI A c s H L Q E M h=>?_
 let(x,d,J,rfl,(rl,n,(N,D,j,z),g,v),ok,q):=h
 refine(_,(ag (bw v2 U (aT<|aO (pv 0) U) (fb U<|aL (aG (i:=1) Z79.nd U<|cr U)<|aL (aG (i:=2) Z79.nd U<|cr U) bC)
  (ag (aQ (aH iX (ar aq U bl.len_ Lf<|aa (pv 1) ae) (ar aq U bl.len_ Lf<|aa (aO (pv 0) U) ae)<|aK _)
  (ag bj)
  aE)))),?_,)
 refine(x,_,_,_,_,U,j,bl.k_Draft,bl.na_Draft_rows,U,rl,U,(_,Nw g,),(let G:Nat→St→Hp→Prop:=λi a b=>b=H∧E2 λm k:Option V=>a=[↑x,m,k];bo (xs:=n) G (U,_,_,U,) (λi a b _ h=>by rw[h.1];exact Nw g) (λi y a b e h=>?_) (λa b h=>by rw[h.1];exact q)),);let(C,m,k,rfl):=h;rw[C];let(t,r,rfl,B,l,u,p):=au.get v e;let o:=ok.rl r<|IW B;calc(t,_,U,Nx u,U,_,_,U,_,_,U,U,?_,);calc(l,_,U,.inl<|Nw p,x,_,_,_,_,U,j,bl.k_Draft,bl.na_Draft_columns,U,D,_,U,.inl<|Nw z,U,_,U,ka (by rw[ck,ck,o]) (U,_,_,U,),)
def GU(F:Fun K "_law_at" "_law_at" Y43 f fd)(bl:Bl K mg Y):() 1 f fd ["script","k"] (kU K Y):=by
 refine F.okA Z43 λm A d s H n Q E o h=>?_
 let(a,b,k,rfl,e,p,q):=h
 refine(_,(ao (aQ (aH lI (pv 1) (ar aq U bl.len_ Lf<|aa (pv 0) ae)<|aK _)
  (ag<|aI<|az aV (pv 0) (pv 1)<|λ_ _=>U)
  aE)
  (ag<|aI ai)),?_,)
 dsimp only[bh,Nz,Ny];show(let g:TS:=_;ba _ g _ _ _);intro _;calc(a,_,U,.inl e,_,_,U,U,_,U,?_,);refine bR (λc=>?_)<|λc=>?_
 .let l:k<((⇑(b.map pi):Nat):Int):=gg c;rw[ck]at l;let j:k.toNat<⇑b:=∅
  let i:atI (b.map pi) k=Lg (.int b[k.toNat]):=by
   let z:atI (b.map pi) ((k.toNat:Nat):Int)=Lg (.int b[k.toNat]):=aU (by rw[dV,IU j];rfl);rw[show((k.toNat:Nat):Int)=k by lia]at z;exact z
  exact(a,_,_,_,U,U,e,i,q _,)
 .exact q 0
def GV(F:Fun K "_law_words" "_law_words" Y61 f fd)(bl:Bl K mg Y):() 1 f fd ["cell","count"] (gI K Y):=by
 refine F.okA Z61 λS A u s H T Q E Z h=>?_
 let(c,n,rfl,R,q):=h
 refine(_,(ao (aJ (i:=2) Z61.nd U (ul U) aN)
  (aw (aJ (i:=3) Z61.nd U (ul U)<|br PySem.F.plainAttrs_str PySem.F.slot_str_join PySem.F.type_str_join fY aN<|aa (bK (bu U bl.range_<|aa (aD bI (pv 0) ai) ae) (bp (N:=["j","cell","letters"]) (fr:=[0,2]) (cl:=[("letters",↥s+1+1),("cell",↥s+1)]) U U (~~~0) (~~~0) U (~~~0) U U U (fJ.mpr (U,fJ.mpr (U,hQ _,),)) U) U (λ_ _ _ _=>aY)<|λ_ _ _ _=>(az m9 (pv 2) (aD bI (aD bU (pv 1)<|aD bT (aD m5 ai<|pv 0) ai) ai)<|λ_ _=>U)) ae)
  (aw (aJ (i:=4) Z61.nd U (ul U)<|br PySem.F.plainAttrs_str PySem.F.slot_str_join PySem.F.type_str_join fY aN<|aa (bK (bu U bl.range_<|aa (aD bI (aD bU (pv 0) ai) ai) ae) (bp (N:=["j","cell","letters"]) (fr:=[0,2]) (cl:=[("letters",↥s+1+1),("cell",↥s+1)]) U U (~~~0) (~~~0) U (~~~0) U U U (fJ.mpr (U,fJ.mpr (U,hQ _,),)) U) U (λ_ _ _ _=>aY)<|λ_ _ _ _=>(az m9 (pv 2) (aD bI (aD bU (pv 1)<|aD bT (aD m5 ai<|pv 0) ai) ai)<|λ_ _=>U)) ae)
  (ag<|aI<|bK (bu U bl.range_<|aa (pv 1) ae) (bp (N:=["k","cell","letters","head","tail"]) (fr:=[0,2,3,4]) (cl:=[("tail",↥s+1+1+1+1),("letters",↥s+1+1),("head",↥s+1+1+1),("cell",↥s+1)]) U U (~~~0) (~~~0) U (~~~0) U U U (fJ.mpr (U,fJ.mpr (U,fJ.mpr (U,fJ.mpr (U,hQ _,),),),)) U) U (λ_ _ _ _=>aY)<|λ_ _ _ _=>(aD aP (aD aP (pv 3)<|az m9 (pv 2) (aD bI (aD bT (aD bU (pv 1) ai)<|aD m5 ai<|pv 0) ai)<|λ_ _=>U)<|pv 4))))),?_,)
 dsimp only[bh,Nz,Ny];show(let C:TS:=_;let G:TS:=aZ _ C;let I:TS:=aZ _ G;ba _ I _ _ _);intro _ _ _;let c0:=wg c (show(6:Int)≠0 by decide);let c1:=wh c (show(0:Int)<6 by decide);let d0:=wg (c / 7) (show(6:Int)≠0 by decide);let d1:=wh (c / 7) (show(0:Int)<6 by decide);refine(let k:St→Hp→Prop:=λl a=>ak H a∧l=[Lg (.int c),Lg<|.int (n:Int),Lg<|.str s!"abcdefghijklmnopqrstuvwxyz",Lg<|.str ⟨(hcs c).toArray⟩,Lh];(k,?_,?_,))
 .refine(U,_,_,U,U,(by show(0:Int)<6;decide),_,U,(by show -(2^62)≤c%6;lia),(by show c%6<2^62;lia),(let k:AM→Nat→Lw V→Hp→Prop:=λD i d a=>ak H a∧a D=Lg (.lst d)∧d=(((bn i).map λj:Nat=>97+(c / (3*(0+(j:Int))+1)%13).toNat).map λx=>(⟨#[x]⟩:Str)).map NE;bL k (λD b=>(ah b _,af,U,)) (λD i d a b hi h=>?_) (λD d a b h=>?_)),)
  .let(g,e,rfl):=h;let m:=wg (c / (3*(0+(i:Int))+1)) (show(13:Int)≠0 by decide);let t:=wh (c / (3*(0+(i:Int))+1)) (show(0:Int)<13 by decide);refine(_,_,U,U,.inl (⋯,⋯,),_,_,U,U,_,_,U,U,lW ∅ ∅,_,_,U,U,(by show(0:Int)<13;decide),_,_,_,U,U,⋯,mM zJ m ∅,b7.mk hi e (aC (by simp;lia)) (g.upd b,af,?_,),);rw[iG,eg,eg,eg];rfl
  .let(g,e,rfl):=h;let p:=oU c;let r:((bn (c%6).toNat).map λj:Nat=>97+(c / (3*(0+(j:Int))+1)%13).toNat)=hcs c:=rfl;rw[r]at e;calc(_,D,_,U,U,Nw e,(~~~0),ug _ p,g,?_,);rw[pO];rfl
 rintro O y ⟨B,rfl⟩;refine(let k:St→Hp→Prop:=λl a=>ak y a∧l=[Lg (.int c),Lg<|.int (n:Int),Lg<|.str s!"abcdefghijklmnopqrstuvwxyz",Lg<|.str ⟨(hcs c).toArray⟩,Lg (.str ⟨(tcs c).toArray⟩)];(k,?_,?_,))
 .refine(U,_,_,U,U,(⋯,⋯,),_,_,U,U,(by show(0:Int)<6;decide),_,U,(by show -(2^62)≤c / 7%6;lia),(by show c / 7%6<2^62;lia),(let k:AM→Nat→Lw V→Hp→Prop:=λD i d a=>ak y a∧a D=Lg (.lst d)∧d=(((bn i).map λj:Nat=>97+(c / (5*(0+(j:Int))+2)%13).toNat).map λx=>(⟨#[x]⟩:Str)).map NE;bL k (λD b=>(ah b _,af,U,)) (λD i d a b hi h=>?_) (λD d a b h=>?_)),)
  .let(g,e,rfl):=h;let m:=wg (c / (5*(0+(i:Int))+2)) (show(13:Int)≠0 by decide);let t:=wh (c / (5*(0+(i:Int))+2)) (show(0:Int)<13 by decide);refine(_,_,U,U,.inl (⋯,⋯,),_,_,U,U,_,_,U,U,lW ∅ ∅,_,_,U,U,(by show(0:Int)<13;decide),_,_,_,U,U,⋯,mM zJ m ∅,b7.mk hi e (aC (by simp;lia)) (g.upd b,af,?_,),);rw[iG,eg,eg,eg];rfl
  .let(g,e,rfl):=h;let p:=oV c;let r:((bn (c / 7%6).toNat).map λj:Nat=>97+(c / (5*(0+(j:Int))+2)%13).toNat)=tcs c:=rfl;rw[r]at e;calc(_,D,_,U,U,Nw e,(~~~0),ug _ p,g,?_,);rw[pO];rfl
 rintro M L ⟨z,rfl⟩;let o:=B.trans z;let X:⇑(⟨(hcs c).toArray⟩:Str)≤5:=by have:=oU c;simpa[wS]using this
 let W:⇑(⟨(tcs c).toArray⟩:Str)≤5:=by have:=oV c;simpa[wS]using this
 let v:∀x:Nat,⇑(⟨#[x]⟩:Str)=1:=λ_=>U
 refine(_,U,∅,∅,(let k:AM→Nat→Lw V→Hp→Prop:=λD i d a=>ak L a∧a D=Lg (.lst d)∧d=(lws c i).map NE;bL k (λD b=>(ah b _,af,U,)) (λD i d a b hi h=>?_) (λD d a b h=>?_)),)
 .let(g,e,rfl):=h;let m:=wg (c / 11+3*(0+(i:Int))) (show(26:Int)≠0 by decide);let t:=wh (c / 11+3*(0+(i:Int))) (show(0:Int)<26 by decide);let J:(⟨(hcs c).toArray⟩:Str)++(⟨#[97+((c / 11+3*(0+(i:Int)))%26).toNat]⟩:Str)++(⟨(tcs c).toArray⟩:Str)=lw c (0+(i:Int)):=by
   show wp (wp _ _) _=_;unfold wp lw lwc;simp
  refine(_,_,U,U,(⋯,⋯,),_,_,U,U,.inl (⋯,⋯,),_,_,U,U,_,_,U,U,(by show(0:Int)<26;decide),_,_,_,U,U,⋯,mM zJ m t,_,_,U,U,big (by rw[v];lia),_,_,U,U,big (by rw[aW,v];lia),?_,);rw[J];refine b7.mk hi e (aC (by rw[ck,kQ];lia)) (g.upd b,af,?_,);rw[zQ,eg];rfl
 .let(g,e,rfl):=h;rw[wi]at e;calc q D a (o.trans g) (o.free b) e
def GW(F:Fun K "_law_pool" "_law_pool" Y53 f fd)(bl:Bl K mg Y):() 1 f fd ["domain","cell"] (km K Y):=by
 refine F.okA Z53 λL A v s H O Q E R h=>?_
 let(r,p,c,rfl,(M,_,_,t,J),ok,q):=h
 refine(_,(ao (aJ (i:=2) Z53.nd U (ul U)<|aD bT (aD fP (az aM (pv 0) ai<|λ_ _=>U)<|az aM (pv 0) ai<|λ_ _=>U) ai)
  (ag<|aI<|bK (bu U bl.range_<|aa ai ae) (bp (N:=["j","domain","cell","width"]) (fr:=[0,1,2]) (cl:=[("width",↥s+1+1+1),("domain",↥s+1),("cell",↥s+1+1)]) U U (~~~0) (~~~0) U (~~~0) U U U (fJ.mpr (U,fJ.mpr (U,fJ.mpr (U,hQ _,),),)) U) U (λ_ _ _ _=>aY)<|λ_ _ _ _=>(aD bT (az (oQ (K:=K) U) (pv 1) ai<|λ_ _=>U)<|aD bI (aD bT (aD bU (pv 2)<|aD bT (aD m5 ai<|pv 0) ai)<|aD m5 (pv 0)<|pv 2)<|pv 3))),?_,)
 dsimp only[bh,Nz,Ny];show(let y:TS:=_;ba _ y _ _ _);intro _;let G:=ok.le;calc(r,_,_,_,U,U,Nx t,U,r,_,_,_,U,U,Nx t,U,_,_,U,U,_,_,U,U,?_,);let n:0<p.hi-p.lo+1:=∅
 refine⟨_,U,⋯,⋯,(let C:AM→Nat→Lw V→Hp→Prop:=λD i k j=>ak H j∧j D=Lg (.lst k)∧∃b:Lw Int,k=b.map pi∧⇑b=i∧∀x∈b,p.lo≤x∧x≤p.hi;bL C (λD g=>⟨ah g _,af,[],U,U,(λx d=>by cases d)⟩) (λD i k j g hi h=>?_) (λD k j g h=>?_))⟩
 .let(l,u,b,rfl,o,d):=h;let I:i<3:=hi;let B:=wg (c / (3*(0+(i:Int))+1)+(0+(i:Int))*c)<|Mw n;let z:=wh (c / (3*(0+(i:Int))+1)+(0+(i:Int))*c) n;refine(r,_,_,_,U,U,Nx<|l _ _ t,U,_,_,U,U,.inl (⋯,⋯,),_,_,U,U,_,_,U,U,lW ∅ ∅,_,_,U,U,.inl (∅,∅,),_,_,U,U,_,_,U,U,n,_,_,U,U,b7.mk hi u (aC (by rw[ck];lia)) (l.upd g,af,b++[_],by rw[eg];rfl,by rw[eH,o];rfl,λx a=>?_,),);rcases eA.mp a with a | a
  .exact d x a
  .let e:x=p.lo+(c / (3*(0+(i:Int))+1)+(0+(i:Int))*c)%(p.hi-p.lo+1):= ~~~a
   generalize (c / (3*(0+(i:Int))+1)+(0+(i:Int))*c)%(p.hi-p.lo+1)=m at B z e;lia
 .let(l,u,b,rfl,o,d):=h;calc q D b j l g u o d
def GX(F:Fun K "_law_spans" "_law_spans" Y58 f fd)(bl:Bl K mg Y):() 1 f fd ["kind","one","two","domain"] (jy K Y):=by
 refine F.okA Z58 λb4 A a0 s H vs Q E hr h=>?_
 let(B,one,two,r,p,rfl,(wl,_,_,S,b3),h1,h2,h3,q):=h
 refine(_,(aw (aJ (i:=4) Z58.nd U (cr U)<|bJ<|aa (bz<|aa (az aM (pv 3) ai<|λ_ _=>U)<|aa (az aM (pv 3) ai<|λ_ _=>U) ae) ae)
  (aw (aQ (aH cV (pv 0) ai<|aK _)
  (ag<|aJ (i:=4) Z58.nd U (cr U)<|bJ<|aa (bz<|aa (pv 1)<|aa (pv 2) ae) ae)
  aE)
  (aw (aQ (aH cV (pv 0) ai<|aK _)
  (ag<|aJ (i:=4) Z58.nd U (cr U)<|bJ<|aa (bz<|aa (pv 1)<|aa (pv 1) ae) ae)
  aE)
  (aw (aQ (aH cV (pv 0) ai<|aK _)
  (ag<|aJ (i:=4) Z58.nd U (cr U)<|bJ<|aa (bz<|aa (az aM (pv 3) ai<|λ_ _=>U)<|aa (aD fP (pv 1) ai) ae)<|aa (bz<|aa (aD bT (pv 2) ai)<|aa (az aM (pv 3) ai<|λ_ _=>U) ae) ae)
  aE)
  (aw (aQ (aH cV (pv 0) ai<|aK _)
  (ag<|aJ (i:=4) Z58.nd U (cr U)<|bJ<|aa (bz<|aa (pv 1)<|aa (pv 1) ae)<|aa (bz<|aa (pv 2)<|aa (pv 2) ae) ae)
  aE)
  (aw (aQ (PW.pt<|iI (aH cV (pv 0) ai<|aK _)<|fX<|aH fM (pv 2) (aD bT (pv 1) ai)<|aK _)
  (ag<|aJ (i:=4) Z58.nd U (cr U)<|bJ<|aa (bz<|aa (pv 1)<|aa (pv 2) ae) ae)
  aE)
  (aw (aQ (aH cV (pv 0) ai<|aK _)
  (ag<|aJ (i:=4) Z58.nd U (cr U)<|bJ ae)
  aE)
  (ag<|aI<|bK (aT<|pv 4) (bA U (~~~0) (~~~0) (~~~0) U) U (λ_ _ _ _=>(rO<|aH fM (az (oQ (K:=K) U) (pv 0) ai<|λ_ _=>U) (az (oQ (K:=K) U) (pv 0) ai<|λ_ _=>U)<|aK _))<|λ_ _ _ _=>(pv 0))))))))),?_,)
 dsimp only[bh,Nz,Ny];show(let r7:TS:=_;let r6:TS:=aZ _ r7;let r5:TS:=aZ _ r6;let r4:TS:=aZ _ r5;let r3:TS:=aZ _ r4;let r2:TS:=aZ _ r3;let r1:TS:=aZ _ r2;aZ _ r1 _ _ _);intro _ _ _ _ _ _ _;refine(let k:St→Hp→Prop:=λb d=>∃a,SPJ p False H d a∧b=[Lg (.int B),Lg<|.int one,Lg<|.int two,↑r,↑a];(k,(r,_,_,_,U,U,Nx S,U,r,_,_,_,U,U,Nx S,U,fe,λt o=>((by show 1≤A8;decide),λl n=>(l,SPJ.one (ak.refl H) (pl1 o n) (pp _)<|pp _,U,),),),?_,));rintro a7 H1 ⟨a,c,rfl⟩;refine(let k:St→Hp→Prop:=λb d=>∃a,SPJ p False H d a∧b=[Lg (.int B),Lg<|.int one,Lg<|.int two,↑r,↑a];(k,?_,?_,))
 .refine(U,_,U,bR (λ_=>?_)<|λ_=>(a,c,U,),);let m:=c.1;exact(fe,λt o=>((by show 1≤A8;decide),λl n=>(l,SPJ.one m (pl1 o n) ∅ ∅,U,),),)
 clear c a;rintro a6 H2 ⟨a,c,rfl⟩;refine(let k:St→Hp→Prop:=λb d=>∃a,SPJ p False H d a∧b=[Lg (.int B),Lg<|.int one,Lg<|.int two,↑r,↑a];(k,?_,?_,))
 .refine(U,_,U,bR (λ_=>?_)<|λ_=>(a,c,U,),);let m:=c.1;exact(fe,λt o=>((by show 1≤A8;decide),λl n=>(l,SPJ.one m (pl1 o n) ∅ ∅,U,),),)
 clear c a;rintro a5 H3 ⟨a,c,rfl⟩;refine(let k:St→Hp→Prop:=λb d=>∃a,SPJ p False H d a∧b=[Lg (.int B),Lg<|.int one,Lg<|.int two,↑r,↑a];(k,?_,?_,))
 .refine(U,_,U,bR (λ_=>?_)<|λ_=>(a,c,U,),);let m:=c.1;refine(r,_,_,_,U,U,Nx<|m _ _ S,U,_,_,U,U,fe,λt o=>(_,_,U,U,r,_,_,_,U,U,Nx<|((m.trans<|ah o _) _ _ S),U,fe,λu T=>((by show 2≤A8;decide),λl n=>(l,SPJ.two m (pl2 o T n) (pp _) ∅ ∅ (pp _) (.inr ∅),U,),),),)
 clear c a;rintro a4 H4 ⟨a,c,rfl⟩;refine(let k:St→Hp→Prop:=λb d=>∃a,SPJ p (B=4∧two≤one+1) H d a∧b=[Lg (.int B),Lg<|.int one,Lg<|.int two,↑r,↑a];(k,?_,?_,))
 .refine(U,_,U,bR (λN=>?_)<|λ_=>(a,c.of<|λh=>h.elim,U,),);let m:=c.1;let N:B=4:= ~~~N
  refine(fe,λt o=>(fe,λu T=>((by show 2≤A8;decide),λl n=>(l,SPJ.two m (pl2 o T n) h1 ∅ ∅ h3 ∅,U,),),),)
 clear c a;rintro a3 H5 ⟨a,c,rfl⟩;refine(let k:St→Hp→Prop:=λb d=>∃a,SPJ p False H d a∧b=[Lg (.int B),Lg<|.int one,Lg<|.int two,↑r,↑a];(k,?_,?_,))
 .refine(U,_,U,bR (λN=>?_)<|λN=>?_,)
  .refine(_,_,U,U,_,_,U,U,_,U,bR (λ_=>?_)<|λg5=>(a,c.of<|λh=>g5<|~~~h.2,U,),);let m:=c.1;exact(fe,λt o=>((by show 1≤A8;decide),λl n=>(l,SPJ.one m (pl1 o n) h1 h3,U,),),)
  .exact(a,c.of<|λh=>N<|~~~h.1,U,)
 clear c a;rintro a2 H6 ⟨a,c,rfl⟩;refine(let k:St→Hp→Prop:=λb d=>∃a,SPJ p False H d a∧b=[Lg (.int B),Lg<|.int one,Lg<|.int two,↑r,↑a];(k,?_,?_,))
 .refine(U,_,U,bR (λ_=>?_)<|λ_=>(a,c,U,),);let m:=c.1;exact⟨(by show 0≤A8;decide),λl n=>(l,(m.trans<|ah n _,[],[],af,.nil,(λx M=>by cases M),by simp,.inr LF,),U,)⟩
 clear c a;rintro a1 H7 ⟨a,c,rfl⟩;let(s7,ts,ps,R,hP,hb,b0,W):=c;let W:=W.resolve_left id;let a8:=⇑hP;refine⟨a,U,(_,Nw R,),(let k:AM→Nat→Lw V→Hp→Prop:=λD i zs d=>ak H7 d∧d D=Lg (.lst zs)∧∃j:Prs,PL d zs j∧(∀x∈j,p.lo≤x.1∧x.1≤x.2∧x.2≤p.hi)∧⇑j≤i∧j=(ps.take i).filter λx=>decide<|x.1≤x.2;bP (xs:=ts) k (λD I=>(ah I _,af,[],.nil,(λx M=>by cases M),uk _,U,)) (λD i zs d I _ h=>Nw<|h.1 _ _ R) (λD i y zs d I e h=>?_) (λD zs d I h=>?_))⟩
 .let(J,O,j,z,v,Z,C):=h;let(x,t,X,rfl,et):=hP.get e;let hi:i<⇑ts:=(IV.mp e).1;let G:=J _ _ et;calc(t,_,_,_,U,U,Nx G,U,t,_,_,_,U,U,Nx G,U,_,_,U,U,_,U,?_,);refine bR (λg=>?_)<|λg=>?_
  .let g':x.1≤x.2:=gg g;let st:gD d (upd d D<|.lst<|zs++[.ref t]):=bZ O;refine(b7.mk hi O (aC (by have:=⇑z;lia)) (J.upd I,af,j++[x],(z.mono st).snoc<|st _ _ G,λy L=>?_,by rw[eH,iU];lia,by rw[take_snoc X,qo,C,KT<|~~~g',nF],));rcases eA.mp L with L|L
   .exact v y L
   .rw[show y=x by simpa using L];let:=hb x<|IW X;lia
  .exact kc.mk (zs:=zs) hi (J,O,j,z,v,∅,by rw[take_snoc X,qo,C,Lx<|~~~g,nF,jV],)
 .let(J,O,j,z,v,Z,C):=h;let s:=s7.trans J;calc q D j d s (s7.free I,zs,O,z,) v ∅ (λx M=>(v x M).2.1,C ▸ W.sublist (List.filter_sublist.trans<|Mr _ _),)
def GY(F:Fun K "_law_domain_text" "_law_domain_text" Y46 f fd)(bl:Bl K mg Y):() 1 f fd ["domain"] (dq K Y):=by
 refine F.okA Z46 λt A e s H u Q E y h=>?_
 let(r,p,rfl,(i,_,_,c,b),ok,q):=h
 refine(_,(ao (aQ (aH gB (ar aq U bl.len_ Lf<|aa (az aM (pv 0) ai<|λ_ _=>U) ae) ai<|aK _)
  (ag<|aI<|br PySem.F.plainAttrs_str PySem.F.slot_str_join PySem.F.type_str_join fY aN<|aa (az aM (pv 0) ai<|λ_ _=>U) ae)
  aE)
  (ag<|aI<|aD aP (aD aP (a9 bV U bl.str_ re<|aa (az aM (pv 0) ai<|λ_ _=>U) ae) aN)<|a9 bV U bl.str_ re<|aa (az aM (pv 0) ai<|λ_ _=>U) ae)),?_,)
 dsimp only[bh,Nz,Ny];show(let k:TS:=_;ba _ k _ _ _);intro _;let d:⇑(p.ws.map NE)=⇑p.ws:=ck _;calc(r,_,_,_,U,U,Nx c,U,i,_,U,.inl<|Nw b,_,_,U,U,_,U,?_,);refine bR (λg=>?_)<|λg=>?_
 .let a:p.ws≠[]:=λz=>by
   let:=Ls g;rw[z]at this;exact Lp this ⋯
  let(j,C,B):=ok.wd a;rw[PD.k_some a]at q;exact(U,r,_,_,_,U,U,Nx c,U,_,i,_,U,U,Nw b,(~~~0),iA (m:=12) (n:=40) (λz l=>eW<|j.words z l) j.few ⋯,q,)
 .let o:p.ws=[]:=by
   let:¬ ((0:Int)<((⇑(p.ws.map NE):Nat):Int)):=λh=>g<|Lq h
   rw[d]at this;exact iv.mp ∅
  let b1:bnd p.lo:=ok.b1;let b2:bnd p.hi:=ok.b2;rw[PD.k_none o]at q;let x:=len_num b1;let v:=len_num b2;calc(r,_,_,_,U,U,Nx c,U,p.lo,U,gu b1,_,_,U,U,big (by rw[lL];lia),r,_,_,_,U,U,Nx c,U,p.hi,U,gu b2,_,_,U,U,big (by rw[aW,lL];lia),q,)
def GZ(F:Fun K "_law_part_text" "_law_part_text" Y52 f fd)(bl:Bl K mg Y):() 1 f fd ["domain","pair"] (fT K Y):=by
 refine F.okA Z52 λJ A l s H L Q E O h=>?_
 let(r,t,p,x,rfl,(o,_,_,i,e),ok,b,a,q):=h
 refine(_,(ao (aQ (aH gB (ar aq U bl.len_ Lf<|aa (az aM (pv 0) ai<|λ_ _=>U) ae) ai<|aK _)
  (ag<|aI<|br PySem.F.plainAttrs_str PySem.F.slot_str_join PySem.F.type_str_join fY aN<|aa (iZ A4 (az aM (pv 0) ai<|λ_ _=>U) (jo<|az aM (pv 1) ai<|λ_ _=>U)<|jo<|aD bT (az aM (pv 1) ai<|λ_ _=>U) ai) ae)
  aE)
  (ao (aQ (aH cV (az aM (pv 1) ai<|λ_ _=>U) (az aM (pv 1) ai<|λ_ _=>U)<|aK _)
  (ag<|aI<|a9 bV U bl.str_ re<|aa (az aM (pv 1) ai<|λ_ _=>U) ae)
  aE)
  (ao (aQ (aH cV (az aM (pv 1) ai<|λ_ _=>U) (az aM (pv 0) ai<|λ_ _=>U)<|aK _)
  (ag<|aI<|aD aP aN<|a9 bV U bl.str_ re<|aa (az aM (pv 1) ai<|λ_ _=>U) ae)
  aE)
  (ao (aQ (aH cV (az aM (pv 1) ai<|λ_ _=>U) (az aM (pv 0) ai<|λ_ _=>U)<|aK _)
  (ag<|aI<|aD aP (a9 bV U bl.str_ re<|aa (az aM (pv 1) ai<|λ_ _=>U) ae) aN)
  aE)
  (ag<|aI<|aD aP (aD aP (a9 bV U bl.str_ re<|aa (az aM (pv 1) ai<|λ_ _=>U) ae) aN)<|a9 bV U bl.str_ re<|aa (az aM (pv 1) ai<|λ_ _=>U) ae))))),?_,)
 dsimp only[bh,Nz,Ny];show(let v:TS:=_;let y:TS:=ba _ v;let B:TS:=ba _ y;let C:TS:=ba _ B;ba _ C _ _ _);intro _ _ _ _;let j:⇑(p.ws.map NE)=⇑p.ws:=ck _;let N:=len_num a.b1;let M:=len_num a.b2;calc(r,_,_,_,U,U,Nx i,U,o,_,U,.inl<|Nw e,_,_,U,U,_,U,?_,);refine bR (λg=>?_)<|λg=>?_
 .let d:p.ws≠[]:=λz=>by
   let:=Ls g;rw[z]at this;exact Lp this ⋯
  let(u,S,R):=ok.wd d;calc(U,r,_,_,_,U,U,Nx i,U,t,_,_,_,U,U,Nx b,U,_,U,t,_,_,_,U,U,Nx b,U,_,_,U,U,_,U,o,_,U,Nw e,λc I=>?_,);rw[zN];let k:=uf p.ws (Lg x.1)<|Lg<|x.2+1;let:=q _<|ah I<|.lst<|(pN p.ws (Lg x.1)<|Lg<|x.2+1).map NE;rw[PD.k_some d]at this;exact(_,c,_,U,U,Nw af,(~~~0),iA (m:=12) (n:=40) (λz D=>eW<|u.words z<|mO D) (tm k u.few) ⋯,this,)
 .let G:p.ws=[]:=by
   let:¬ ((0:Int)<((⇑(p.ws.map NE):Nat):Int)):=λh=>g<|Lq h
   rw[j]at this;exact iv.mp ∅
  let q:=q H<|ak.refl H;rw[PD.k_none G]at q;let q:Q (.str<|shN p.lo p.hi x) H:=q;unfold shN at q;calc(t,_,_,_,U,U,Nx b,U,t,_,_,_,U,U,Nx b,U,U,_,U,?_,);refine bR (λg=>?_)<|λg=>?_
  .rw[Lo (nh g)]at q;exact(t,_,_,_,U,U,Nx b,U,x.1,U,gu a.b1,q,)
  rw[Lm (ni g)]at q;calc(t,_,_,_,U,U,Nx b,U,r,_,_,_,U,U,Nx i,U,U,_,U,?_,);refine bR (λg=>?_)<|λg=>?_
  .rw[Lo (nh g)]at q;exact(t,_,_,_,U,U,Nx b,U,x.2,U,gu a.b2,_,_,U,U,big (by rw[lL];lia),q,)
  rw[Lm (ni g)]at q;calc(t,_,_,_,U,U,Nx b,U,r,_,_,_,U,U,Nx i,U,U,_,U,?_,);refine bR (λg=>?_)<|λg=>?_
  .rw[Lo (nh g)]at q;exact(t,_,_,_,U,U,Nx b,U,x.1,U,gu a.b1,_,_,U,U,big (by rw[lL];lia),q,)
  rw[Lm (ni g)]at q;calc(t,_,_,_,U,U,Nx b,U,x.1,U,gu a.b1,_,_,U,U,big (by rw[lL];lia),t,_,_,_,U,U,Nx b,U,x.2,U,gu a.b2,_,_,U,U,big (by rw[aW,lL];lia),q,)
def G0(F:Fun K "_law_value" "_law_value" Y59 f fd)(bl:Bl K mg Y):() 1 f fd ["domain","code"] (jz K Y):=by
 refine F.okA Z59 λv A e s H x Q E y h=>?_
 let(r,p,c,rfl,(i,_,_,k,b),ok,u,t,q):=h
 refine(_,(ao (aQ (aH gB (ar aq U bl.len_ Lf<|aa (az aM (pv 0) ai<|λ_ _=>U) ae) ai<|aK _)
  (ag<|aI<|az aV (az aM (pv 0) ai<|λ_ _=>U) (pv 1)<|λ_ _=>U)
  aE)
  (ag<|aI<|a9 bV U bl.str_ re<|aa (pv 1) ae)),?_,)
 dsimp only[bh,Nz,Ny];show(let l:TS:=_;ba _ l _ _ _);intro _;let d:⇑(p.ws.map NE)=⇑p.ws:=ck _;calc(r,_,_,_,U,U,Nx k,U,i,_,U,.inl<|Nw b,_,_,U,U,_,U,?_,);refine bR (λg=>?_)<|λg=>?_
 .let a:p.ws≠[]:=λz=>by
   let:=Ls g;rw[z]at this;exact Lp this ⋯
  let(B,C,o):=ok.wd a;unfold hiW at o;let j:c.toNat<⇑p.ws:=∅
  rw[PD.k_some a]at q;let q:Q (.str<|p.ws.getD c.toNat tz) H:=q;rw[lp,IU j]at q;let m:atI (p.ws.map NE) c=Lg (.str p.ws[c.toNat]):=by
   let z:atI (p.ws.map NE) ((c.toNat:Nat):Int)=Lg (.str p.ws[c.toNat]):=aU (by rw[dV,IU j];rfl);rw[show((c.toNat:Nat):Int)=c by lia]at z;exact z
  exact(r,_,_,_,U,U,Nx k,U,i,_,_,_,U,U,Nw b,m,q,)
 .let n:p.ws=[]:=by
   let:¬ ((0:Int)<((⇑(p.ws.map NE):Nat):Int)):=λh=>g<|Lq h
   rw[d]at this;exact iv.mp ∅
  rw[PD.k_none n]at q;calc(c,U,gu<|ok.bd c u t,q,)
def G1(F:Fun K "_law_same_domain" "_law_same_domain" Y56 f fd)(bl:Bl K mg Y):() 1 f fd ["found","domain"] (dr K Y):=by
 refine F.okA Z56 λB A j s H C Q E u h=>?_
 let(x,r,k,p,rfl,m,(n,_,_,d,c),b,q):=h
 refine(_,(ao (aQ (aH gB (ar aq U bl.len_ Lf<|aa (az aM (pv 1) ai<|λ_ _=>U) ae) ai<|aK _)
  (ag<|aI<|fO (ar cG U bl.isinstance_ im<|aa (pv 0)<|aa (fm (v:=.ref Y.s) U bl.Words_ U) ae)<|iJ<|dM (lO u) (aO (pv 0) U) (az aM (pv 1) ai<|λ_ _=>U)<|aK _)
  aE)
  (ag<|aI<|fO (ar cG U bl.isinstance_ im<|aa (pv 0)<|aa (fm (v:=.ref Y.r) U bl.Numbers_ U) ae)<|fO (dM cV (aO (pv 0) U) (az aM (pv 1) ai<|λ_ _=>U)<|aK _)<|iJ<|dM cV (aO (pv 0) U) (az aM (pv 1) ai<|λ_ _=>U)<|aK _)),?_,)
 dsimp only[bh,Nz,Ny];show(let o:TS:=_;ba _ o _ _ _);intro _;let i:⇑(p.ws.map NE)=⇑p.ws:=ck _;calc(r,_,_,_,U,U,Nx d,U,n,_,U,.inl<|Nw c,_,_,U,U,_,U,?_,);refine bR (λg=>?_)<|λg=>?_
 .let a:p.ws≠[]:=λz=>by
   let:=Ls g;rw[z]at this;exact Lp this ⋯
  let b:k=(Lg p.ws,p.lo,p.hi):=by rw[b];unfold PD.k;rw[Lm a]
  subst b;let((y,l,e,f),_):=m;calc(_,_,_,_,Li,U,.ref _,bl.t_Words.ty e,bl.f_ww,_,U,eJ ?_,);calc(x,_,_,_,_,U,e,bl.k_Words,bl.na_Words_words,U,r,_,_,_,U,U,Nx d,U,?_,);exact jc (Nw f) (Nw c) (by simp) q
 .let a:p.ws=[]:=by
   by_cases z:p.ws=[]
   .exact z
   .let:0<⇑p.ws:=List.length_pos_iff.mpr z;exact Lp (by rw[i];exact Lq ∅) g
  let b:k=(Lh,p.lo,p.hi):=by rw[b];unfold PD.k;rw[Lo a]
  subst b;let(y,e):=m;calc(_,_,_,_,Li,U,.ref _,bl.t_Numbers.ty e,bl.f_nn,_,U,eJ ?_,);calc(x,_,_,_,_,U,e,bl.k_Numbers,bl.na_Numbers_low,U,r,_,_,_,U,U,Nx d,U,U,_,U,qW U ?_,);calc(x,_,_,_,_,U,e,bl.k_Numbers,bl.na_Numbers_high,U,r,_,_,_,U,U,Nx d,U,U,?_,);let t:Q (.bl<|Lk<|pi p.hi=pi p.hi) H:=by rw[Lq U];exact q
  calc t
def G2(F:Fun K "_law_pair" "_law_pair" Y51 f fd)(bl:Bl K mg Y):() 1 f fd ["k"] (kn K Y):=by
 refine F.okA Z51 λe A a s H g Q E i h=>?_
 let(k,rfl,q):=h;calc(_,(ag<|aI<|aD aP (az m9 aN (aD bI (aD bU (pv 0) ai) ai)<|λ_ _=>U)<|az m9 aN (aD bI (pv 0) ai)<|λ_ _=>U),?_,);let d:(⟨#[97+((k:Int) / 8%8).toNat]⟩:Str)++(⟨#[97+((k:Int)%8).toNat]⟩:Str)=prS k:=by
  let c:((k:Int) / 8%8).toNat=k / 8%8:=∅
  let b:((k:Int)%8).toNat=k%8:=∅
  rw[c,b];rfl
 refine(_,_,U,U,(⋯,⋯,),_,_,U,U,(by show(0:Int)<8;decide),_,_,_,U,U,⋯,mM EZ ∅ ∅,_,_,U,U,(by show(0:Int)<8;decide),_,_,_,U,U,⋯,mM EZ ∅ ∅,_,_,U,U,big (by show 1+1≤1000;decide),?_,);rw[d];calc q
def O_9(F:Fun K "__init__" "Draft.__init__" Y9 f fd)(bl:Bl K mg Y):() 1 f fd ["self","name","columns","domain","way"] (dc K Y):=by
 refine F.okA Z9 λu A j s H v Q E y h=>?_
 let(x,g,B,n,d,w,rfl,t,q):=h
 refine(_,(ao (b6 (pv 0) (pv 1) U)
  (ao (b6 (pv 0) (pv 2) U)
  (ao (b6 (pv 0) (pv 3) U)
  (ao (b6 (pv 0) (pv 4) U)
  (ag<|b6 (pv 0) (bJ ae) U))))),?_,)
 dsimp only[bh,Nz,Ny];show(let k:TS:=_;let m:TS:=ba _ k;let p:TS:=ba _ m;let r:TS:=ba _ p;ba _ r _ _ _);intro _ _ _ _;refine(x,_,g,_,U,t,bl.k_Draft,bl.na_Draft_name,(by show 0<1000;decide),?_,);refine(x,_,g,_,U,af,bl.k_Draft,bl.na_Draft_columns,(by show 1<1000;decide),?_,);refine(x,_,g,_,U,af,bl.k_Draft,bl.na_Draft_domain,(by show 2<1000;decide),?_,);refine(x,_,g,_,U,af,bl.k_Draft,bl.na_Draft_way,(by show 3<1000;decide),?_,);refine((by show 0≤A8;decide),λl i=>?_,);let a:l≠x:=λz=>by rw[z,af]at i;cases i
 let fl:H l=none:=by rw[ay a,ay a,ay a,ay a]at i;exact i
 refine(x,_,g,_,U,(ay<|FM a).trans af,bl.k_Draft,bl.na_Draft_rows,(by show 4<1000;decide),?_,);calc q l _ fl ((ay a).trans af) af<|λb o c e=>(ay c).trans<|(ay (λz=>by rw[z,fl]at e;cases e)).trans ((ay c).trans<|(ay c).trans<|(ay c).trans<|(ay c).trans e)
def G3(F:Fun K "__init__" "Way.__init__" Y20 f fd)(bl:Bl K mg Y):() 1 f fd ["self","called"] (dG K Y):=by
 refine F.okA Z20 λd A a s H e Q E g h=>?_
 let(x,c,z,rfl,b,q):=h;calc(_,(ag<|b6 (pv 0) (pv 1) U),?_,);calc(x,_,c,_,U,b,bl.k_First,bl.na_First_called,(by show 0<1000;decide),q,)
def G4(F:Fun K "__init__" "Way.__init__" Y24 f fd)(bl:Bl K mg Y):() 1 f fd ["self","called"] (dW K Y):=by
 refine F.okA Z24 λd A a s H e Q E g h=>?_
 let(x,c,z,rfl,b,q):=h;calc(_,(ag<|b6 (pv 0) (pv 1) U),?_,);calc(x,_,c,_,U,b,bl.k_Only,bl.na_Only_called,(by show 0<1000;decide),q,)
def G5(F:Fun K "__init__" "Way.__init__" Y22 f fd)(bl:Bl K mg Y):() 1 f fd ["self","called"] (dX K Y):=by
 refine F.okA Z22 λd A a s H e Q E g h=>?_
 let(x,c,z,rfl,b,q):=h;calc(_,(ag<|b6 (pv 0) (pv 1) U),?_,);calc(x,_,c,_,U,b,bl.k_Like,bl.na_Like_called,(by show 0<1000;decide),q,)
def G6(F:Fun K "__init__" "Way.__init__" Y23 f fd)(bl:Bl K mg Y):() 1 f fd ["self","called"] (eM K Y):=by
 refine F.okA Z23 λd A a s H e Q E g h=>?_
 let(x,c,z,rfl,b,q):=h;calc(_,(ag<|b6 (pv 0) (pv 1) U),?_,);calc(x,_,c,_,U,b,bl.k_Low,bl.na_Low_called,(by show 0<1000;decide),q,)
def G7(F:Fun K "__init__" "Way.__init__" Y21 f fd)(bl:Bl K mg Y):() 1 f fd ["self","called"] (dY K Y):=by
 refine F.okA Z21 λd A a s H e Q E g h=>?_
 let(x,c,z,rfl,b,q):=h;calc(_,(ag<|b6 (pv 0) (pv 1) U),?_,);calc(x,_,c,_,U,b,bl.k_High,bl.na_High_called,(by show 0<1000;decide),q,)
def G8(F:Fun K "__init__" "Way.__init__" Y25 f fd)(bl:Bl K mg Y):() 1 f fd ["self","called"] (eN K Y):=by
 refine F.okA Z25 λd A a s H e Q E g h=>?_
 let(x,c,z,rfl,b,q):=h;calc(_,(ag<|b6 (pv 0) (pv 1) U),?_,);calc(x,_,c,_,U,b,bl.k_Sum,bl.na_Sum_called,(by show 0<1000;decide),q,)
def O_7(F:Fun K "whole" "Domain.whole" Y7 f fd)(bl:Bl K mg Y):() 1 f fd ["self"] (b5 K Y):=by
 refine F.okA Z7 λg A d s H i Q E j h=>?_
 let(a,lo,hi,rfl,(k,e),q):=h;calc(_,(ag<|aI<|bJ<|aa (bz<|aa (aO (pv 0) U)<|aa (aO (pv 0) U) ae) ae),?_,);refine(a,_,_,_,_,U,e,bl.k_Numbers,bl.na_Numbers_low,U,a,_,_,_,_,U,e,bl.k_Numbers,bl.na_Numbers_high,U,(by show 2≤A8;decide),λt b=>((by show 1≤A8;decide),λl c=>?_,),);calc q l t _ ((ah b _).trans<|ah c _) ((ah b _).free c) af<|rC b c
def O_8(F:Fun K "whole" "Domain.whole" Y8 f fd)(bl:Bl K mg Y):() 1 f fd ["self"] (cA K Y):=by
 refine F.okA Z8 λg A d s H k Q E m h=>?_
 let(a,i,rfl,(n,j,e,_),q):=h;calc(_,(ag<|aI<|bJ<|aa (bz<|aa (aO (pv 0) U)<|aa (aO (pv 0) U) ae) ae),?_,);refine(a,_,_,_,_,U,e,bl.k_Words,bl.na_Words_low,U,a,_,_,_,_,U,e,bl.k_Words,bl.na_Words_high,U,(by show 2≤A8;decide),λt b=>((by show 1≤A8;decide),λl c=>?_,),);calc q l t _ ((ah b _).trans<|ah c _) ((ah b _).free c) af<|rC b c
def G9(F:Fun K "borne_code" "Numbers.borne_code" Y16 f fd)(bl:Bl K mg Y):() 1 f fd ["self","value"] (bX K Y):=by
 refine F.okA Z16 λc A b s H d Q E e h=>?_
 let(a,v,rfl,q):=h;calc(_,(ag<|aI<|pv 1),?_,);calc q
def Hg(F:Fun K "borne_code" "Words.borne_code" Y28 f fd)(bl:Bl K mg Y):() 1 f fd ["self","value"] (cD K Y):=by
 refine F.okA Z28 λn A b s H o Q E p h=>?_
 let(a,g,z,j,rfl,(r,lw,l,c),d,q):=h;calc(_,(ag<|aI<|br PySem.F.plainAttrs_list PySem.F.slot_list_index PySem.F.type_list_index zm (aO (pv 0) U)<|aa (pv 1) ae),?_,);refine(a,_,_,_,_,U,l,bl.k_Words,bl.na_Words_words,U,.inl (U,_,Nw c,),lw,_,_,.str z,j,U,U,Nw c,U,i6 g,gX d.1,by simp[eqV],λm u k i=>?_,q,);let(y,rfl,e):=bW i;let:=d.2 m y k e;simp[eqV,this]
def Hh(F:Fun K "bears" "Words.bears" Y27 f fd)(bl:Bl K mg Y):() 1 f fd ["self","value"] (dZ K Y):=by
 refine F.okA Z27 λi A b s H j Q E k h=>?_
 let(a,c,v,rfl,(l,lw,g,e),d,q):=h;refine(_,(ag<|aI<|dM qM (pv 1) (aO (pv 0) U) (by with_unfolding_all rfl)),?_,);calc(a,_,_,_,_,U,g,bl.k_Words,bl.na_Words_words,U,lw,_,U,.inl<|Nw e,BG d,i6 c,?_,);show Q (.bl<|inV v<|c.map NE) H;rw[Fd _ _ d];calc q
def O_2(F:Fun K "__init__" "Domain.__init__" Y2 f fd)(bl:Bl K mg Y):() 1 f fd ["self","low","high"] (cM K Y):=by
 refine F.okA Z2 λe A b s H g Q E i h=>?_
 let(x,a,lo,hi,rfl,d,q):=h
 refine(_,(ao (b6 (pv 0) (pv 1) U)
  (ag<|b6 (pv 0) (pv 2) U)),?_,)
 dsimp only[bh,Nz,Ny];show(let c:TS:=_;ba _ c _ _ _);intro _;refine(x,_,a,_,U,d,bl.k_Words,bl.na_Words_low,(by show 0<1000;decide),x,_,a,_,U,af,bl.k_Words,bl.na_Words_high,(by show 1<1000;decide),?_,);show Q .non (upd (upd H x<|.ins Y.s a [("low",.int lo)]) x<|.ins Y.s a<|bQ "high" (.int hi) [("low",.int lo)]);rw[put2];calc q
def O_1(F:Fun K "__init__" "Domain.__init__" Y1 f fd)(bl:Bl K mg Y):() 1 f fd ["self","low","high"] (cm K Y):=by
 refine F.okA Z1 λe A b s H g Q E i h=>?_
 let(x,a,lo,hi,rfl,d,q):=h
 refine(_,(ao (b6 (pv 0) (pv 1) U)
  (ag<|b6 (pv 0) (pv 2) U)),?_,)
 dsimp only[bh,Nz,Ny];show(let c:TS:=_;ba _ c _ _ _);intro _;refine(x,_,a,_,U,d,bl.k_Numbers,bl.na_Numbers_low,(by show 0<1000;decide),x,_,a,_,U,af,bl.k_Numbers,bl.na_Numbers_high,(by show 1<1000;decide),?_,);show Q .non (upd (upd H x<|.ins Y.r a [("low",.int lo)]) x<|.ins Y.r a<|bQ "high" (.int hi) [("low",.int lo)]);rw[put2];calc q
def Hi(F:Fun K "is_word" "is_word" Y41 f fd)(bl:Bl K mg Y)(g:⟨⟩ 1 "all_among" ["text","signs"] (gH K Y)):() 2 f fd ["text"] (fU K Y):=by
 refine F.okA Z41 λk A d s H l Q E j h=>?_
 let(z,rfl,i,q):=h;calc(_,(ag<|aI<|fO (mw fM fM ai (ar d8 U bl.len_ Lf<|aa (pv 0) ae)<|cb U bl.MOST_SIGNS_)<|fO (dM iX (pv 0) aN<|aK _)<|iJ<|aS g j U<|aa (pv 0)<|aa (cb U bl.SMALL_LETTERS_) ae),?_,);calc(_,U,big i,_,_,U,U,_,U,?_,);refine bR (λc=>?_)<|λc=>?_
 .refine(_,_,U,U,_,U,?_,);refine bR (λb=>?_)<|λb=>?_
  .refine(U,_,U,?_,);refine bR (λa=>?_)<|λa=>?_
   .refine(z,lets,U,?_,);let e:isw z=i4 z lets:=by unfold isw;rw[c,b,a];rfl
    rw[e]at q;exact q
   .let e:isw z=false:=by unfold isw;rw[w4.mpr a,ww,LR,LR]
    rw[e]at q;exact q
  .let e:isw z=false:=by unfold isw;rw[w4.mpr b,ww,LR]
   rw[e]at q;exact q
 .let e:isw z=false:=by unfold isw;rw[w4.mpr c,ww]
  rw[e]at q;calc(_,U,bF q,)
def Hj(F:Fun K "is_number" "is_number" Y39 f fd)(bl:Bl K mg Y)(r:⟨⟩ 1 "all_among" ["text","signs"] (gH K Y)):() 2 f fd ["text"] (gJ K Y):=by
 refine F.okA Z39 λx A k s H y Q E t h=>?_
 let(z,rfl,l,q):=h
 refine(_,(ao (aQ (aH cV (pv 0) aN<|aK _)
  (ag<|aI iW)
  aE)
  (aw (aJ (i:=1) Z39.nd U (cr U)<|mr (bH<|br PySem.F.plainAttrs_str PySem.F.slot_str_startswith PySem.F.type_str_startswith eO (pv 0)<|aa aN ae) (iZ pC (pv 0) (jo ai) mz)<|pv 0)
  (ag<|aI<|fO (mw fM fM ai (ar d8 U bl.len_ Lf<|aa (pv 1) ae)<|cb U bl.MOST_FIGURES_)<|fO (dM iX (az m9 (pv 1) ai<|λ_ _=>U) aN<|aK _)<|iJ<|aS r t U<|aa (pv 1)<|aa (cb U bl.FIGURES_) ae))),?_,)
 dsimp only[bh,Nz,Ny];show(let n:TS:=_;let o:TS:=aZ _ n;ba _ o _ _ _);intro _ _;calc(U,_,U,?_,);refine bR (λg=>?_)<|λg=>?_
 .let e:isn z=true:=by unfold isn;rw[g];rfl
  rw[e]at q;exact q
 refine(λj m=>j=[Lg (.str z),Lg (.str<|bY z)]∧m=H,?_,?_,)
 .refine(U,_,_,U,U,_,U,?_,);refine bR (λa=>?_)<|λa=>?_
  .let e:bY z=GT z (Lg 1) none:=by unfold bY;rw[Lo a]
   rw[e];exact(_,U,_,U,big l,U,U,)
  .let e:bY z=z:=by unfold bY;rw[Lm a]
   rw[e];exact(U,U,)
 rintro v m ⟨rfl,u⟩;rw[u];let b:⇑(bY z)≤1000:=tm (Aj z) l;let p:isn z=(Lk ((1:Int)≤((⇑(bY z):Nat):Int)) && (Lk (((⇑(bY z):Nat):Int)≤60) && (!Lk (NE ⟨#[(bY z).cps.toList.headD 0]⟩=NE "0") && i4 (bY z) ten))):=by
  unfold isn;rw[w4.mpr g,LA]
 rw[p]at q;generalize bY z=f at q b⊢;calc(_,U,big b,_,_,U,U,_,U,?_,);refine bR (λa=>?_)<|λa=>?_
 .let B:(1:Int)≤((⇑f:Nat):Int):=gg a;rw[a,IR]at q;calc(_,_,U,U,_,U,?_,);refine bR (λd=>?_)<|λd=>?_
  .rw[d,IR]at q;calc(_,_,_,U,U,big b,BI ∅,U,_,U,?_,);refine bR (λc=>?_)<|λc=>?_
   .rw[c,IR]at q;exact(f,ten,U,q,)
   .rw[w4.mpr c,ww]at q;exact q
  .rw[w4.mpr d,ww]at q;exact q
 .rw[w4.mpr a,ww]at q;calc(_,U,bF q,)
def Hk(F:Fun K "refuse_domains" "refuse_domains" Y78 f fd)(bl:Bl K mg Y)(B7:⟨⟩ 1 "alike" ["one","other"] (qc K Y)):aR P w K mg base (CX1 P w) 2 f fd ["facts","tables"] (fF K Y):=by
 refine F.okEA Z78 λe6 A d1 s H vs Q E hr h=>?_
 let(fa,ma,W,mv,fs,m,rfl,c9,L,S,hN,q,qE):=h
 refine(_,(aw (aJ (i:=2) Z78.nd U (cr U)<|a9 (pJ U) U bl.dict_ Mx<|aa (aD ph (pv 0)<|bK (aT<|pv 1) (bA U (~~~0) (~~~0) (~~~0) U) U (λ_ _ _ _=>aY)<|λ_ _ _ _=>(bz<|aa (iu (K:=K) U (pv 0) U)<|aa (iu (K:=K) U (pv 0) U) ae)) ae)
  (ag (bw (gO U U U) U (aT<|pv 1) (aG (i:=3) Z78.nd U<|cr U)
  (ag (bw (gO U U U) U (vq U bl.zip_<|aa (aO (pv 3) U)<|aa (aO (pv 3) U) ae) (fb U<|aL (aG (i:=4) Z78.nd U<|cr U)<|aL (aG (i:=5) Z78.nd U<|cr U) bC)
  (ag (aQ (cK<|bH<|aS B7 hr U<|aa (pv 5)<|aa (az mK (pv 2) (pv 4)<|λ_ _=>U) ae)
  (ag<|cF bl.x_Unlike hr.hd U bl.Unlike_<|aa (Dt<|pv 4) ae)
  aE))))))),?_,)
 dsimp only[bh,Nz,Ny];show(let r1:TS:=_;aZ _ r1 _ _ _);intro _;let(b1,b2):=S.few;let b9:W.length=⇑fs:=S.facts.1;let a2:⇑mv=⇑m:=S.tabs.1;refine(let I_:St→Hp→Prop:=λa8 l=>ak H l∧E2 λ(N:AM)(b:Lw (Str×V))=>A3 (l N=Lg (.dK<|kvT b)) (Gr Y.r Y.s l fs m b)<|a8=[↑fa,↑ma,↑N,Lh,Lh,Lh];(I_,?_,?_,))
 .refine(ma,U,(_,Nw L,),bP (xs:=mv) (λD i ys l=>ak H l∧l D=Lg (.lst ys)∧au ys (m.take i) (λp t=>∃d:AM,l p=Lg (.tup [.str t.nm,.ref d])∧dE Y.r Y.s H d t.o)) (λD hD=>(ah hD _,af,au.nil,)) (λD i ys l hD _ h=>Nw<|h.1 _ _ L) (λD i y ys l hD e h=>?_)<|λD ys l hD h=>?_,)
  .let(B,eD,hy):=h;let(t_,t,rfl,I,ou,dv,g4,g5,g6):=au.get S.tabs e;let(rl,dx,na,dl,c7,xs,R,f1,f2,f3,f4,f5,f6,Z,a0,c8,hR,lh):=g4;let hi:i<⇑mv:=(IV.mp e).1;calc(t_,_,_,_,_,U,B _ _ R,bl.k_Table,bl.na_Table_name,f2,t_,_,_,_,_,U,B _ _ R,bl.k_Table,bl.na_Table_outcome,f4,fe,λp hp=>?_,);let u:=ah hp<|.tup [.str t.nm,.ref ou];let ep:upd l p (.tup [.str t.nm,.ref ou]) p=Lg (.tup [.str t.nm,.ref ou]):=af;generalize upd l p (.tup [.str t.nm,.ref ou])=v at u ep⊢;let a7:=u _ _ eD;let a1:=hy.1;rw[fK]at a1;calc b7.mk hi a7 (aC ∅) ((B.trans u).upd hD,af,?_,);rw[take_snoc I];let O:au (ys++[.ref p]) (m.take i++[t]) (λp t=>∃d:AM,v p=Lg (.tup [.str t.nm,.ref d])∧dE Y.r Y.s H d t.o):=au.snoc (au.mono hy λ_ _ (d,h1,h2,)=>(d,u _ _ h1,h2,)) (ou,ep,g6,);exact au.mono O λ_ _ (d,h1,h2,)=>(d,(ay<|eB h1 a7 (by intro z;cases z)).trans h1,h2,)
  .let(B,eD,hy):=h;rw[a2,eY]at hy;let a1:=hy.1;calc(fa,D,_,_,U,U,B _ _ c9,eD,ve<|aC ∅,λp hp=>?_,);let u:=ah hp<|.lst<|W++ys;let ep:upd l p (.lst<|W++ys) p=Lg (.lst<|W++ys):=af;generalize upd l p (.lst<|W++ys)=v at u ep⊢;let G:=B.trans u;let e0:⇑(eK fs m)=⇑fs+⇑m:=by unfold eK;rw[eH,ck]
   let(b,a3,X):=oR (P:=λj (a:Str×V)=>∃(t:AM)(d:AM)(k:Dk),(W++ys)[j]?=↑t∧v t=Lg (.tup [.str a.1,.ref d])∧a.2=.ref d∧(eK fs m)[j]?=Lg (a.1,k)∧dE Y.r Y.s v d k) (⇑fs+⇑m) λj hj=>by
    by_cases a4:j<⇑fs
    .let ef:=IU a4;let(r,er,d,h3,h4):=S.facts.2 j _ ef;refine((fs[j].1,.ref d),r,d,fs[j].2,by rw[gi ∅];exact er,G _ _ h3,U,?_,h4.same G,);unfold eK;rw[gi a4];exact ef
    .let b3:j-⇑fs<⇑m:=∅
     have I:=IU b3;let(r,er,d,h3,h4):=hy.2 _ _ I;refine((m[j-⇑fs].nm,.ref d),r,d,m[j-⇑fs].o,by rw[gn ∅,b9];exact er,u _ _ h3,U,?_,h4.same G,);unfold eK;rw[gn ∅,dV,I];rfl
   let oo:b.map (·.1)=bN fs m:=by
    rw[←rq];refine kB λj=>?_
    rw[dV,dV];cases e:b[j]? with
    |none =>
     have d7:⇑b≤j:=by rw[xL]at e;exact e
     rw[jf ∅];rfl
    |some a =>
     let(t,d,k,_,_,_,e4,_):=X j a e;rw[e4];rfl
   refine(p,W++ys,b,U,ep,by rw[eH,a3];lia,λj a ea=>?_,by rw[oo];exact hN.nd,λN c0=>?_,)
   .let(t,d,k,J,M,e3,_):=X j a ea;exact(t,J,by rw[e3];exact M,)
   .let u2:=ah c0<|.dK<|kvT b;calc(G.trans u2,N,b,af,λz O=>?_,U,);rw[←oo]at O;let(a,ha,rfl):=dn.mp O;let(i,ei):=ik ha;let(t,d,k,J,M,e3,e4,e5):=X i a ei;calc(d,k,?_,IW e4,e5.same u2,);rw[←e3];exact w6 (by rw[oo];exact hN.nd) ei
 rintro d2 H1 ⟨s1,N,b,d0,B4,rfl⟩;refine(ma,U,(_,Nw<|s1 _ _ L,),bo (xs:=mv) (λi C l=>ak H1 l∧(∀t∈m.take i,∀(i:Nat)(c:Str)(k n:Dk),t.cs[i]?=Lg c→t.ks[i]?=Lg k→(c,n)∈eK fs m→lkD k n=Li)∧E3 λc3 c4 c5:Option V=>C=[↑fa,↑ma,↑N,c3,c4,c5]) (ak.refl _,(λt R=>by simp at R),_,_,_,U,) (λi C l _ h=>Nw<|h.1 _ _<|s1 _ _ L) (λi y C l e h=>?_) (λC l h=>by rw[a2,eY]at h;exact q h.2.1 l (s1.trans h.1)),);let(B,c6,c3,c4,c5,rfl):=h;let(t_,t,rfl,I,ou,dv,g4,g5,g6):=au.get S.tabs e;let(rl,dx,na,dl,c7,xs,R,f1,f2,f3,f4,f5,f6,Z,a0,c8,hR,lh):=g4;let(b0,h4,a3):=S.st t<|IW I;let Hl:⇑dv=⇑t.ks:=g5.1;let sA:=s1.trans B;refine(t_,_,_,_,_,U,sA _ _ R,bl.k_Table,bl.na_Table_names,f5,t_,_,_,_,_,U,sA _ _ R,bl.k_Table,bl.na_Table_domains,f6,na,dl,U,(_,Nw<|sA _ _ Z,),(_,Nw<|sA _ _ a0,),wM (xs:=t.cs.map NE) (ys:=dv) (λi C v=>ak l v∧(∀(j:Nat)(c:Str)(k n:Dk),j<i→t.cs[j]?=Lg c→t.ks[j]?=Lg k→(c,n)∈eK fs m→lkD k n=Li)∧E2 λc4 c5:Option V=>C=[↑fa,↑ma,↑N,↑t_,c4,c5]) (ak.refl _,(λj c k n hj=>∅),_,_,U,) (λi C v h=>(Nw<|(sA.trans h.1) _ _ Z,Nw<|(sA.trans h.1) _ _ a0,)) (λi x y C v T ex ey h hT=>?_)<|λC v h=>?_,)
 .let(G,hc,d4,d5,rfl):=h;let(z,rfl,ez):=bW ex;let(a,kk,rfl,a6,ha):=au.get g5 ey;let(d,k,c2,a5,c1):=B4 z<|hN.al t (IW I) z<|IW ez;let O:=b0 z<|IW ez;let d3:=O.1;let u:=ah hT<|.tup [.str z,.ref a];let eT:upd v T (.tup [.str z,.ref a]) T=Lg (.tup [.str z,.ref a]):=af;generalize upd v T (.tup [.str z,.ref a])=H3 at u eT⊢;let sB:=(B.trans G).trans u;calc(T,_,U,Nx eT,U,_,_,U,_,_,U,U,?_,);calc(N,b,z,.ref d,U,U,sB _ _ d0,c2,a,d,kk,k,U,(ha.same s1).same sB,c1.same sB,_,U,?_,);cases hl:lkD kk k with
  |true =>
   calc bF (G.trans u,(λj c k1 k2 hj J M e3=>?_),_,_,U,);by_cases b4:j<i
   .exact hc j c k1 k2 b4 J M e3
   .let:j=i:=∅
    subst this;rw[ez]at J;rw[a6]at M;cases J;cases M;rw[BD hN.nd e3 a5];exact hl
  |false=>exact eJ ⟨(~~~0),z,U,∅,O.2,(~~~0),λz2=>⟨(by show 1≤A8;decide),qE (λg=>by have:=g t (IW I) i z kk k ez a6 a5;rw[hl]at this;cases this) H3 (s1.trans sB)⟩⟩
 .let(G,hc,c4,c5,M):=h;calc(B.trans G,kR (P:=λt:BT=>∀(i:Nat)(c:Str)(k n:Dk),t.cs[i]?=Lg c→t.ks[i]?=Lg k→(c,n)∈eK fs m→lkD k n=Li) I c6<|λj c k n J=>hc j c k n ?_ J,_,c4,c5,M,);let:=(IV.mp J).1;rw[ck,Hl];lia
def Hm(F:Fun K "refuse_rings" "refuse_rings" Y84 f fd)(bl:Bl K mg Y)(qx:⟨⟩ 1 "named_among" ["table","names"] (hU K Y)):aR P w K mg base (CX1 P w) 2 f fd ["tables"] (gw K Y):=by
 refine F.okEA Z84 λc7 A a7 s H vs Q E hr h=>?_
 let(ma,mv,D,rfl,a5,hm,h7,h4,q):=h
 refine(_,(ao (aJ (i:=1) Z84.nd U (cr U)<|pv 0)
  (ag (tJ (gO U U U) (fq (pv 1) (by intro _;rfl))
  (aw (aJ (i:=2) Z84.nd U (ul U)<|bK (aT<|pv 1) (bA U (~~~0) (~~~0) (~~~0) U) U (λ_ _ _ _=>aY)<|λ_ _ _ _=>(iu (K:=K) U (pv 0) U))
  (aw (jq (i:=3) Z84.nd U (cr U) (aT<|pv 1) (bp (N:=["table","names"]) (fr:=[2]) (cl:=[("names",↥s+1)]) U U (~~~0) (~~~0) U (~~~0) U U U (fJ.mpr (U,hQ _,)) U) U (λ_ _ _ _=>(rO<|xW (K:=K) U<|aS qx hr U<|aa (pv 0)<|aa (pv 1) ae))<|λ_ _ _ _=>(pv 0))
  (ao (aQ (aH cV (ar aq U bl.len_ Lf<|aa (pv 3) ae) (ar aq U bl.len_ Lf<|aa (pv 1) ae)<|aK _)
  (ag<|cF bl.x_Ring hr.hd U bl.Ring_<|aa aN ae)
  aE)
  (ag<|aJ (i:=1) Z84.nd U (cr U)<|pv 3))))))),?_,)
 dsimp only[bh,Nz,Ny];show(let r1:TS:=_;ba _ r1 _ _ _);intro _;calc ?_;calc(let G:Nat→St→Hp→Prop:=λm σ x=>ak H x∧∃(u:AM)(j:Lw V)(L:Lw BT)(c2 c3:Option V),x u=Lg (.lst j)∧au j L (TbG Y.t Y.r Y.s H)∧(∀t∈L,t∈D)∧L.length=m∧m≤100∧(∀S:Lw Str,(∀t∈D,t.nm∈S→∃c∈t.cs,c∈S)→(∀c∈S,c∈D.map BT.nm)→∀t∈D,t.nm∈S→t∈L)∧σ=[↑ma,↑u,c2,c3];(G,(_,ak.refl _,ma,mv,D,_,_,a5,hm,(λ_ h=>h),U,h7,(λ_ _ _ _ h _=>h),U,),?_,));rintro m σ H1 ⟨s1,u,j,b,c2,c3,d,hv,rS,a8,b9,T,rfl⟩;let I:⇑j=⇑b:=hv.1;by_cases J:b=[]
 .let a6:j=[]:=iv.mp (by rw[I,J];rfl);subst a6;calc(Lj,.inl (_,Nw d,U,),bF ?_,);rcases q with⟨_,q⟩|⟨⟨S,⟨t,ht,hS⟩,h1,h2⟩,_⟩
  .exact q H1 s1
  .let:=T S h1 h2 t ht hS;rw[J]at this;cases this
 let hb:(!j.isEmpty)=true:=by
  cases j with
  |nil=>exact Lp (iv.mp I.symm) J
  |cons=>rfl
 calc⟨Li,.inl (_,Nw d,hb.symm,),eJ (λB x=>∃m',m'<m∧ak H x∧∃(u:AM)(j:Lw V)(L:Lw BT)(c2 c3:Option V),x u=Lg (.lst j)∧au j L (TbG Y.t Y.r Y.s H)∧(∀t∈L,t∈D)∧L.length=m'∧m'≤100∧(∀S:Lw Str,(∀t∈D,t.nm∈S→∃c∈t.cs,c∈S)→(∀c∈S,c∈D.map BT.nm)→∀t∈D,t.nm∈S→t∈L)∧B=[↑ma,↑u,c2,c3],λ_ _ h=>h,?_,)⟩;refine(let G:St→Hp→Prop:=λB x=>ak H1 x∧∃na:AM,x na=Lg (.lst<|(b.map BT.nm).map NE)∧B=[↑ma,↑u,↑na,c3];(G,?_,?_,))
 .refine(u,U,(_,Nw d,),(let G:AM→Nat→Lw V→Hp→Prop:=λo i n M=>ak H1 M∧M o=Lg (.lst n)∧n=((b.take i).map BT.nm).map NE;bP (xs:=j) G (λo a=>(ah a _,af,U,)) (λo i n M a _ h=>Nw<|h.1 _ _ d) (λo i y n M a e h=>?_) (λo n M a h=>?_)),)
  .let(C,g,rfl):=h;let(t_,t,rfl,ek,ou,dv,g4,g5,g6):=au.get hv e;let(rl,dx,na,dl,fs,xs,ht,f1,f2,f3,f4,f5,f6,a1,c6,c5,hR,lh):=g4;let hi:i<⇑j:=(IV.mp e).1;refine(t_,_,_,_,_,U,(s1.trans C) _ _ ht,bl.k_Table,bl.na_Table_name,f2,b7.mk hi g (aC (by rw[ck,ck,fK];lia)) (C.upd a,af,?_,),);rw[take_snoc ek,eg,eg];rfl
  .let(C,g,rfl):=h;rw[I,eY]at g;exact(C,o,g,U,)
 rintro b3 M ⟨C,na,a1,rfl⟩;let R:=s1.trans C;refine(let G:St→Hp→Prop:=λB x=>ak M x∧∃(Z:AM)(X:Lw V),x Z=Lg (.lst X)∧au X (b.filter<|wtg<|b.map BT.nm) (TbG Y.t Y.r Y.s H)∧B=[↑ma,↑u,↑na,↑Z];(G,?_,?_,))
 .refine(u,U,(_,Nw<|C _ _ d,),(let G:AM→Nat→Lw V→Hp→Prop:=λo i n O=>ak M O∧O o=Lg (.lst n)∧au n ((b.take i).filter<|wtg<|b.map BT.nm) (TbG Y.t Y.r Y.s H);bP (xs:=j) G (λo a=>(ah a _,af,au.nil,)) (λo i n O a _ h=>Nw<|(C.trans h.1) _ _ d) (λo i y n O a e h=>?_) (λo n O a h=>?_)),)
  .let(v,g,hy):=h;let(t_,t,rfl,ek,hT):=au.get hv e;let(ou,dv,g4,g5,g6):=id hT;let hi:i<⇑j:=(IV.mp e).1;let sA:=R.trans v;let c4:=h4 t<|rS t<|IW ek;calc(t_,na,ou,t.nm,t.way,t.cs,b.map BT.nm,dv,t.rws,U,g4.same sA,v _ _ a1,∅,λl H4 s4 nl el=>?_,);let hw:=yj (t:=t) (ns:=b.map BT.nm);let a2:=s4 _ _ g;let c1:⇑((b.take i).filter<|wtg<|b.map BT.nm)≤i:=tm (ri ..) (by rw[fK];lia);let hf:=yi (p:=wtg<|b.map BT.nm) ek;refine(wtg (b.map BT.nm) t,.inl (_,Nw el,?_,),?_,)
   .rw[←hw];cases t.cs.filter λz=>(b.map BT.nm).contains z <;> rfl
   cases hc:wtg (b.map BT.nm) t with
   |true =>
    rw[hc]at hf;refine eJ (b7.mk hi a2 (aC (by rw[hy.1];lia)) ((v.trans s4).upd a,af,?_,));rw[hf];exact au.snoc hy hT
   |false =>
    rw[hc]at hf;calc bF<|kc.mk (zs:=n) hi (v.trans s4,a2,?_,);rw[hf];simpa using hy
  .let(v,g,hy):=h;rw[I,eY]at hy;exact(v,o,n,g,hy,U,)
 rintro b0 O ⟨v,Z,X,W,hw,rfl⟩;let b4:X.length=⇑(b.filter<|wtg<|b.map BT.nm):=hw.1;let c0:=ri (wtg<|b.map BT.nm) b;by_cases a4:X.length=⇑j
 .refine(Z,_,U,.inl<|Nw W,u,_,U,.inl<|Nw<|v _ _<|C _ _ d,U,_,U,qW (by rw[a4]) ?_,);rcases q with⟨hr,_⟩|⟨_,qE⟩
  .let:=Ad hr rS J;lia
  .exact((by show 1≤A8;decide),qE O<|R.trans v,)
 .refine(Z,_,U,.inl<|Nw W,u,_,U,.inl<|Nw<|v _ _<|C _ _ d,U,_,U,iw (λz=>by injection z with z;lia) ?_,);calc(_,∅,R.trans v,Z,X,_,_,_,W,hw,(λk hk=>rS k (nL.mp hk).1),U,∅,(λS h1 h2 t ht hS=>nL.mpr (T S h1 h2 t ht hS,?_,)),U,);let(c,hc,a0):=h1 t ht hS;let(t',a3,rfl):=dn.mp<|h2 c a0;unfold wtg;rw[kK];calc(_,hc,by simpa using(t',T S h1 h2 t' a3 a0,U,),)
def Hn(F:Fun K "without" "without" Y92 f fd)(bl:Bl K mg Y)(DY:⟨⟩ 1 "both" ["ones","others"] (sU K Y))(DZ:⟨⟩ 1 "gaps" ["spans","low","high"] (sV K Y)):() 2 f fd ["ones","others"] (jA K Y):=by
 refine F.okA Z92 λa4 A G s H vs Q E N h=>?_
 let(a,b,c,o,e,B0,rfl,m,hB,PA,PB,T,aB,a3,a2,q):=h
 refine(_,(ao (aQ (cK<|fq (pv 0) (by intro _;rfl))
  (ag<|aI<|bJ ae)
  aE)
  (ag<|aI<|aS DY N U<|aa (pv 0)<|aa (aS DZ N U<|aa (pv 1)<|aa (az aM (az aV (pv 0) ai<|λ_ _=>U) ai<|λ_ _=>U)<|aa (az aM (az aV (pv 0) (qF m6 ai)<|λ_ _=>U) ai<|λ_ _=>U) ae) ae)),?_,)
 dsimp only[bh,Nz,Ny];show(let p:TS:=_;ba _ p _ _ _);intro _;calc(!c.isEmpty,.inl (c,m,U,),?_,);by_cases d:c=[]
 .let t:(!c.isEmpty)=false:=by rw[d];rfl
  rw[t];refine((by show 0≤A8;decide),λr g=>?_,);let u:e=[]:=by
   let:=PA.length;rw[d]at this;exact MC this.symm
  exact q r _ [] [] (ah g _) g af .nil Apart.nil (λn=>by rw[u];rfl) (uk _)
 .let t:(!c.isEmpty)=true:=by cases c with|nil=>exact Lp U d|cons _ _=>rfl
  rw[t];calc bF ?_;let(a0,I,A',l,ex,u,a5,v):=PL.last PA d;let(L,J,O,f2,f3):=PA.get (i:=0) (x:=c[0]'(by cases c with|nil=>exact Lp U d|cons _ _=>simp)) (IU _);let v0:atI c 0=↑J:=by rw[←f2];exact aU (j:=0)<|IU _
  let Z:atI c (-1)=↑I:=by rw[ex];exact j6 _ _
  calc(a,_,_,_,U,U,m,v0,J,_,_,_,U,U,Nx f3,z0 _ _,_,U,a,_,_,_,U,U,m,Z,I,_,_,_,U,U,Nx v,z1 _ _,?_,);calc(b,o,B0,L.1,l.2,U,hB,PB,aB,∅,λp H1 W F1 k a1 e1 P1 D Ho l1=>?_,);calc(a,p,c,W,e,F1,U,k.seq m,Nw e1,PA.mono k.tups,P1,T,D,∅,λr2 H2 X R s2 B e2 P2 C Hq l2=>?_,);calc q r2 H2 X R (k.trans s2) (k.free B) e2 P2 C (λn=>?_) ∅;rw[Hq n,Ho n];cases z:inP e n with
  |false=>rfl
  |true =>
   let(V,rfl):∃V,e=L :: V:=by
    cases e with
    |nil=>cases O
    |cons y o=>cases O;exact(o,U,)
   let S:=T.ends (M:=A') (z:=l) u z;rw[Lq S.1,Lq S.2];rfl
def Hr(F:Fun K "fact_parts" "fact_parts" Y37 f fd)(bl:Bl K mg Y)(m:⟨⟩ 1 "cut" ["parts"] (qd K Y)):() 2 f fd ["text"] (iP K Y):=by
 refine F.okA Z37 λv A k s H x Q E d h=>?_
 let(z,a,b,c,rfl,n,p,j,u,q):=h
 refine(_,(ao (aJ (i:=1) Z37.nd U (cr U)<|aS m d U<|aa (br PySem.F.plainAttrs_str PySem.F.slot_str_partition PySem.F.type_str_partition ee (pv 0)<|aa aN ae) ae)
  (ag<|aI<|bz<|aa (az aM (pv 1) ai<|λ_ _=>U)<|aa (az aM (pv 1) ai<|λ_ _=>U) ae)),?_,)
 dsimp only[bh,Nz,Ny];show(let l:TS:=_;ba _ l _ _ _);intro _;calc(U,z,SP,U,U,⋯,n,λt o=>?_,);rw[p];let e:upd H t (.tup [.str a,.str b,.str c]) t=Lg (.tup [.str a,.str b,.str c]):=af;let g:=ah o<|.tup [.str a,.str b,.str c];generalize upd H t (.tup [.str a,.str b,.str c])=H1 at e g⊢;calc(t,a,b,c,U,e,j,u,?_,);refine(t,_,_,_,U,U,Nx e,U,t,_,_,_,U,U,Nx e,U,(by show 2≤A8;decide),λr d=>?_,);calc q r _ (g.trans<|ah d _) (g.free d) af
def Hs(F:Fun K "row_parts" "row_parts" Y88 f fd)(bl:Bl K mg Y)(u:⟨⟩ 1 "cut" ["parts"] (qd K Y)):() 2 f fd ["text"] (jB K Y):=by
 refine F.okA Z88 λD A m s H G Q E d h=>?_
 let(z,a,b,c,fs,rfl,I,x,k,B,C,y,q):=h
 refine(_,(ao (aJ (i:=1) Z88.nd U (cr U)<|aS u d U<|aa (br PySem.F.plainAttrs_str PySem.F.slot_str_partition PySem.F.type_str_partition ee (pv 0)<|aa (cb U bl.TO_) ae) ae)
  (ag<|aI<|bz<|aa (br PySem.F.plainAttrs_str PySem.F.slot_str_split PySem.F.type_str_split ke (az aM (pv 1) ai<|λ_ _=>U)<|aa (cb U bl.BETWEEN_FIELDS_) ae)<|aa (az aM (pv 1) ai<|λ_ _=>U) ae)),?_,)
 dsimp only[bh,Nz,Ny];show(let p:TS:=_;ba _ p _ _ _);intro _;calc(U,z,AR,U,U,⋯,∅,λt v=>?_,);rw[x];let j:upd H t (.tup [.str a,.str b,.str c]) t=Lg (.tup [.str a,.str b,.str c]):=af;let e:=ah v<|.tup [.str a,.str b,.str c];generalize upd H t (.tup [.str a,.str b,.str c])=H1 at j e⊢;calc(t,a,b,c,U,j,k,B,?_,);calc(t,_,_,_,U,U,Nx j,U,U,a,BR,U,U,⋯,C,λl n=>?_,);rw[y];let o:upd H1 l (.lst<|fs.map NE) l=Lg (.lst<|fs.map NE):=af;let g:=ah n<|.lst<|fs.map NE;let fl:=e.free n;generalize upd H1 l (.lst<|fs.map NE)=H2 at o g⊢;refine(t,_,_,_,U,U,Nx<|g _ _ j,U,(by show 2≤A8;decide),λr d=>?_,);calc q r l _ ((e.trans g).trans<|ah d _) ((e.trans g).free d) fl af<|ah d _ _ _ o
def Ht(F:Fun K "_law_domain" "_law_domain" Y45 f fd)(bl:Bl K mg Y)(N:⟨⟩ 1 "_law_words" ["cell","count"] (gI K Y)):() 2 f fd ["cell"] (iQ K Y):=by
 refine F.okA Z45 λa0 A v s H vs Q E e h=>?_
 let(c,rfl,q):=h
 refine(_,(aw (aJ (i:=1) Z45.nd U (cr U)<|aD fP (aD bI (aD bU (pv 0) ai)<|aD rJ ai ai)<|aD m5 ai<|aD rJ ai ai)
  (aw (aJ (i:=2) Z45.nd U (cr U)<|aD bI (aD bU (pv 0) ai)<|aD rJ ai ai)
  (ao (aQ (aH cV (aD bI (pv 0) ai) ai<|aK _)
  (ao (aJ (i:=3) Z45.nd U (cr U)<|aS N e U<|aa (aD bU (pv 0) ai)<|aa (aD bT ai<|aD bI (aD bU (pv 0) ai) ai) ae)
  (ag<|aI<|bz<|aa ai<|aa (aD fP (ar aq U bl.len_ Lf<|aa (pv 3) ae) ai)<|aa (pv 3) ae))
  aE)
  (aw (aQ (aH cV (aD bI (pv 0) ai) ai<|aK _)
  (ag<|aJ (i:=2) Z45.nd U (cr U)<|aD bI (aD bU (pv 0) ai) ai)
  aE)
  (ag<|aI<|bz<|aa (pv 1)<|aa (aD bT (pv 1)<|pv 2)<|aa (bJ ae) ae))))),?_,)
 dsimp only[bh,Nz,Ny];show(let G:TS:=_;let I:TS:=aZ _ G;let J:TS:=ba _ I;let L:TS:=aZ _ J;aZ _ L _ _ _);intro _ _ _ _;let k1:(10^30:Nat)*10=10^31:=⋯
 let k2:(10^29:Nat)*100=10^31:=⋯
 let k3:(1000:Nat)≤10^31:=⋯
 refine(let g:St→Hp→Prop:=λd j=>j=H∧∃lo:Int,A3 (-(5*((10^29:Nat):Int))≤lo) (lo<((10^30:Nat):Int)) (d=[Lg (.int c),Lg<|.int lo,Lh,Lh]);(g,?_,?_,))
 .let b:=wg (c / 3)<|Mw<|p10 (30:Int).toNat;let a:=wh (c / 3)<|p10 (30:Int).toNat;refine(_,_,U,U,(⋯,⋯,),_,_,U,U,(⋯,⋯,⋯,),_,_,U,U,p10 _,_,_,U,U,(⋯,⋯,⋯,),_,_,U,U,.inl (⋯,⋯,),_,_,U,U,U,_,?_,?_,U,)
  .rw[p30]at b a⊢;rw[p29];generalize ((10^30:Nat):Int)=A at b a⊢;generalize ((10^29:Nat):Int)=B at *
   lia
  .rw[p30]at b a⊢;rw[p29];let:(0:Int)≤((10^29:Nat):Int):=Int.natCast_nonneg _;generalize ((10^30:Nat):Int)=A at b a⊢;generalize ((10^29:Nat):Int)=B at *
   lia
 rintro Z T ⟨rfl,lo,g0,g1,rfl⟩;refine(let g:St→Hp→Prop:=λd j=>j=T∧∃w:Int,A3 (0≤w) (w<((10^30:Nat):Int)) (d=[Lg (.int c),Lg<|.int lo,Lg<|.int w,Lh]);(g,?_,?_,))
 .let b:=wg (c / 7)<|Mw<|p10 (30:Int).toNat;let a:=wh (c / 7)<|p10 (30:Int).toNat;calc(_,_,U,U,(⋯,⋯,),_,_,U,U,(⋯,⋯,⋯,),_,_,U,U,p10 _,U,_,b,?_,U,);rw[p30]at a⊢;exact a
 rintro X S ⟨rfl,w,o,m,rfl⟩;refine(_,_,U,U,(by show(0:Int)<3;decide),U,_,U,?_,);refine bR (λ_=>?_)<|λ_=>?_
 .let y0:=wg (c / 3) (show(6:Int)≠0 by decide);let y1:=wh (c / 3) (show(0:Int)<6 by decide);let(n,R):∃n:Nat,1+c / 3%6=(n:Int):=(_,(wA ∅).symm,);refine(_,_,U,U,(⋯,⋯,),_,_,U,U,(⋯,⋯,),_,_,U,U,(by show(0:Int)<6;decide),_,_,U,U,c / 18,n,by rw[←R],∅,λl u y M t=>?_,);let z:=zS (c:=c / 18) (n:=n) ∅ ∅;let k:=kQ (c / 18) n;generalize lws (c / 18) n=zs at t z k;let O:⇑(zs.map NE)=⇑zs:=ck _;refine(l,_,U,.inl<|Nw t,_,_,U,U,(by show 3≤A8;decide),λr e=>?_,);refine q r (0,(⇑(zs.map NE):Int)-1,zs,) _ (y.trans<|ah e _) (l,y.free e,M,af,ah e _ _ _ t,) (by show(0:Int)≤(⇑(zs.map NE):Int)-1;lia,λ_=>(z,U,by show(⇑(zs.map NE):Int)-1=hiW zs;unfold hiW;rw[O],),λx b a=>?_,);let b:0≤x:=b;let a:x≤(⇑(zs.map NE):Int)-1:=a;exact E8 b ∅
 refine(let g:St→Hp→Prop:=λd j=>j=S∧∃w:Int,A3 (0≤w) (w<((10^30:Nat):Int)) (d=[Lg (.int c),Lg<|.int lo,Lg<|.int w,Lh]);(g,?_,?_,))
 .refine(_,_,U,U,(by show(0:Int)<3;decide),U,_,U,?_,);calc bR (λ_=>?_)<|λ_=>(U,w,o,m,U,);let b:=wg (c / 7) (show(9:Int)≠0 by decide);let a:=wh (c / 7) (show(0:Int)<9 by decide);refine(_,_,U,U,(⋯,⋯,),_,_,U,U,(by show(0:Int)<9;decide),U,_,b,?_,U,);let:(9:Int)≤((10^30:Nat):Int):=⋯
  exact Int.lt_of_lt_of_le a this
 clear o m w;rintro W u ⟨rfl,w,o,m,rfl⟩;refine(_,_,U,U,(by show 0≤A8;decide),λl k=>?_,);let p:=ah k<|.lst [];let D:upd u l (.lst []) l=Lg (.lst []):=af;generalize upd u l (.lst [])=H4 at p D⊢;refine((by show 3≤A8;decide),λr e=>?_,);refine q r (lo,lo+w,[],) _ (p.trans<|ah e _) (l,p.free e,k,af,ah e _ _ _ D,) (by show lo≤lo+w;lia,λh=>Lp U h,λx b a=>?_,);let b:lo≤x:=b;let a:x≤lo+w:=a;refine zT ?_ ?_
 .generalize (10^30:Nat)=A at *
  generalize (10^29:Nat)=B at *
  generalize (10^31:Nat)=C at *
  lia
 .generalize (10^30:Nat)=A at *
  generalize (10^29:Nat)=B at *
  generalize (10^31:Nat)=C at *
  lia
def Hu(F:Fun K "_law_row" "_law_row" Y54 f fd)(bl:Bl K mg Y)(sW:⟨⟩ 1 "_law_spans" ["kind","one","two","domain"] (jy K Y)):() 2 f fd ["columns","domains","pools","own","cell"] (l8 K Y):=by
 refine F.okA Z54 λe0 A c6 s H vs Q E hr h=>?_
 let(W,T,I,O,c,o,dv,d5,ds,rfl,b0,c3,c2,a0,a7,b9,a8,d7,q):=h
 refine(_,(aw (aJ (i:=5) Z54.nd U (cr U)<|aD bI (pv 4)<|aD rJ ai ai)
  (aw (aJ (i:=6) Z54.nd U (cr U)<|bJ ae)
  (aw (bw v2 U (aT<|pv 0) (aG (i:=7) Z54.nd U<|cr U)
  (aw (aJ (i:=8) Z54.nd U (cr U)<|az aV (az aV (pv 2) (pv 7)<|λ_ _=>U) (aD bI (pv 5) ai)<|λ_ _=>U)
  (aw (aJ (i:=9) Z54.nd U (cr U)<|az aV (az aV (pv 2) (pv 7)<|λ_ _=>U) (aD bI (aD bU (pv 5) ai) ai)<|λ_ _=>U)
  (ao (aX<|br PySem.F.plainAttrs_list PySem.F.slot_list_append PySem.F.type_list_append bO (pv 6)<|aa (aS sW hr U<|aa (aD bI (aD bU (pv 5) ai) ai)<|aa (ar (iY U) U bl.min_ Ev<|aa (pv 8)<|aa (pv 9) ae)<|aa (ar (kL U) U bl.max_ KB<|aa (pv 8)<|aa (pv 9) ae)<|aa (az aV (pv 1) (pv 7)<|λ_ _=>U) ae) ae)
  (ag<|aJ (i:=5) Z54.nd U (cr U)<|aD bU (pv 5) ai)))))
  (ag<|aI<|bz<|aa (pv 6)<|aa (az aV (az aV (pv 2) (pv 3)<|λ_ _=>U) (aD bI (pv 5) ai)<|λ_ _=>U) ae)))),?_,)
 dsimp only[bh,Nz,Ny];show(let r3:TS:=_;let r2:TS:=aZ _ r3;let r1:TS:=aZ _ r2;aZ _ r1 _ _ _);intro _ _ _;calc(let C:St→Hp→Prop:=λg t=>t=H∧∃n:Int,g=[↑W,↑T,↑I,Lg<|.int (O:Int),Lg<|.int c,Lg<|.int n,Lh,Lh,Lh,Lh];(C,(_,_,U,U,(⋯,⋯,⋯,),_,_,U,U,p10 _,U,_,U,),?_,));rintro d4 Z ⟨rfl,n,rfl⟩;refine(let C:St→Hp→Prop:=λg t=>ak Z t∧∃m:AM,A3 (Z m=Lh) (t m=Lg (.lst [])) (g=[↑W,↑T,↑I,Lg<|.int (O:Int),Lg<|.int c,Lg<|.int n,↑m,Lh,Lh,Lh]);(C,((by show 0≤A8;decide),λl J=>(ah J _,l,J,af,U,),),?_,));rintro d3 H2 ⟨s2,m,a5,c5,rfl⟩;refine(let C:St→Hp→Prop:=λg t=>ak Z t∧E6 λ(B:Lw V)(b:Lw Prs)(n:Int)(c7 c8 X:Option V)=>A6 (t m=Lg (.lst B)) (CL (Fr Z m) t B b) (⇑b=⇑o) (∀(j k:Nat)(d:Prs)(p:PD),b[j]?=Lg d→o[j]?=Lg k→ds[k]?=Lg p→∀x∈d,p.lo≤x.1∧x.1≤x.2∧x.2≤p.hi) (∀d∈b,⇑d≤2∧Apart d)<|g=[↑W,↑T,↑I,Lg<|.int (O:Int),Lg<|.int c,Lg<|.int n,↑m,c7,c8,X];(C,?_,?_,))
 .refine⟨W,U,(_,Nw<|s2 _ _ b0,),(let C:Nat→St→Hp→Prop:=λi σ t=>ak Z t∧E6 λ(B:Lw V)(b:Lw Prs)(n:Int)(c7 c8 X:Option V)=>A6 (t m=Lg (.lst B)) (CL (Fr Z m) t B b) (⇑b=i) (∀(j k:Nat)(d:Prs)(p:PD),b[j]?=Lg d→o[j]?=Lg k→ds[k]?=Lg p→∀x∈d,p.lo≤x.1∧x.1≤x.2∧x.2≤p.hi) (∀d∈b,⇑d≤2∧Apart d)<|σ=[↑W,↑T,↑I,Lg<|.int (O:Int),Lg<|.int c,Lg<|.int n,↑m,c7,c8,X];bo (xs:=vN o) C (s2,[],[],n,_,_,_,c5,au.nil,U,(λj k d p e=>by simp at e),(λd h=>by cases h),U,) (λi σ t _ h=>Nw<|h.1 _ _ b0) (λi y σ t ey hh=>?_) (λσ t hh=>?_))⟩
  .let(G,B,b,n,c7,c8,X,R,hz,J,D,tQ,rfl):=hh;let(k,rfl,ek):=wV ey;let hk:=b9 k<|IW ek;let hi:i<⇑o:=(IV.mp ek).1;let S:=IU hk;let(a4,e1,v):=a7.2 k _ S;let(da,e2,M):=c2.2 k _ S;generalize ds[k]=p at S v M;let v:=v.same G;let M:=M.same G;refine(let C:St→Hp→Prop:=λg a3=>a3=t∧∃one:Int,A3 (p.lo≤one) (one≤p.hi) (g=[↑W,↑T,↑I,Lg<|.int (O:Int),Lg<|.int c,Lg<|.int n,↑m,Lg<|.int (k:Int),Lg<|.int one,X]);(C,?_,?_,))
   .let(xs,x,q1,q2,q3,q4):=v.pick (K:=K) n;exact(I,_,_,_,U,U,Nw<|G _ _ a0,aU e1,_,_,U,U,(by show(0:Int)<3;decide),a4,_,_,_,U,U,q1,q2,U,x,q3,q4,U,)
   rintro d2 H3 ⟨rfl,one,a1,a2,rfl⟩;refine(let C:St→Hp→Prop:=λg a3=>a3=H3∧∃two:Int,A3 (p.lo≤two) (two≤p.hi) (g=[↑W,↑T,↑I,Lg<|.int (O:Int),Lg<|.int c,Lg<|.int n,↑m,Lg<|.int (k:Int),Lg<|.int one,Lg (.int two)]);(C,?_,?_,))
   .let(xs,x,q1,q2,q3,q4):=v.pick (K:=K)<|n / 3;exact(I,_,_,_,U,U,Nw<|G _ _ a0,aU e1,_,_,U,U,(⋯,⋯,),_,_,U,U,(by show(0:Int)<3;decide),a4,_,_,_,U,U,q1,q2,U,x,q3,q4,U,)
   rintro d1 H4 ⟨rfl,two,b1,b2,rfl⟩;refine(.inl (U,_,Nw R,),_,_,U,U,(⋯,⋯,),_,_,U,U,(by show(0:Int)<6;decide),_,_,U,_,_,U,T,_,_,_,U,U,Nw<|G _ _ c3,aU e2,_,_,_,da,p,U,M,?_,?_,?_,λl d H5 N a6 hb c0 c4=>?_,)
   .split <;> lia
   .split <;> split <;> lia
   .split <;> lia
   let b3:=N _ _ R;let n4:H4 l=none:=a6.1;let nl:l≠m:=λz=>by rw[z,R]at n4;cases n4
   let b4:CL (Fr Z m) H5 (B++[.ref l]) (b++[d]):=au.snoc (hz.same N) ((G.free n4,nl,),a6.2,);refine(m,_,_,U,U,b3,aC (by rw[hz.1];lia),_,_,U,U,(⋯,⋯,),(G.trans N).upd a5,B++[.ref l],b++[d],_,_,_,_,af,b4.updN Fr.out b3,by rw[eH,J];rfl,λj k' L p' f1 f2 f3=>?_,λL h'=>?_,U,)
   .by_cases hj:j<⇑b
    .rw[gi hj]at f1;exact D j k' L p' f1 f2 f3
    .let c1:j=⇑b:=by have:=(IV.mp f1).1;simp at this;lia
     subst c1;simp at f1;subst f1;rw[J,ek]at f2;cases f2;rw[S]at f3;cases f3;exact hb
   .rcases eA.mp h' with h' | h'
    .exact tQ L h'
    .rw[show L=d by simpa using h'];exact(c0,c4,)
  .let(G,B,b,n,c7,c8,X,R,hz,J,D,tQ,rfl):=hh;exact(G,B,b,n,_,_,_,R,hz,by rw[J,kh],D,tQ,U,)
 rintro d0 H5 ⟨N,B,b,n,c7,c8,X,R,hz,J,D,tQ,rfl⟩;let(po,e1,v):=a7.2 O _<|IU a8;let(xs,x,q1,q2,q3,q4):=(v.same N).pick (K:=K) n;refine(I,_,_,_,U,U,Nw<|N _ _ a0,aU e1,_,_,U,U,(by show(0:Int)<3;decide),po,_,_,_,U,U,q1,q2,fe,λr hr=>?_,);let u:=ah hr<|.tup [.ref m,.int x];calc q r (b,x) _ (N.trans u) (m,B,af,a5,u _ _ R,(hz.same u).wk λa h=>h.1,) (J,D,λd h=>(tQ d h).1,(λp S=>by rw[IU a8]at S;cases S;exact(q3,q4,)),λd h=>(tQ d h).2,)
def Hv(F:Fun K "_law_field" "_law_field" Y47 f fd)(bl:Bl K mg Y)(nN:⟨⟩ 1 "_law_part_text" ["domain","pair"] (fT K Y)):() 2 f fd ["domain","spans"] (jC K Y):=by
 refine F.okA Z47 λa1 A X s H vs Q E L h=>?_
 let(r,l,p,ts,J,rfl,hp,M,G,u,ok,q):=h
 refine(_,(ao (aQ (aH (lO L) (pv 1) (bJ ae)<|aK _)
  (ag<|aI aN)
  aE)
  (ao (aQ (aH (lO L) (pv 1) (bJ<|aa (bz<|aa (az aM (pv 0) ai<|λ_ _=>U)<|aa (az aM (pv 0) ai<|λ_ _=>U) ae) ae)<|aK _)
  (ag<|aI aN)
  aE)
  (ag<|aI<|br PySem.F.plainAttrs_str PySem.F.slot_str_join PySem.F.type_str_join fY aN<|aa (bK (aT<|pv 1) (bp (N:=["pair","domain"]) (fr:=[0]) (cl:=[("domain",↥s+1)]) U U (~~~0) (~~~0) U (~~~0) U U U (fJ.mpr (U,hQ _,)) U) U (λ_ _ _ _=>aY)<|λ_ _ _ _=>(aS nN L U<|aa (pv 1)<|aa (pv 0) ae)) ae))),?_,)
 dsimp only[bh,Nz,Ny];show(let r2:TS:=_;let r1:TS:=ba _ r2;ba _ r1 _ _ _);intro _ _;let O:=⇑u;let(wl,_,_,er,a0):=id hp;refine((by show 0≤A8;decide),λb hb=>?_,);let j:=ah hb<|.lst [];let eb:upd H b (.lst []) b=Lg (.lst []):=af;generalize upd H b (.lst [])=H1 at j eb⊢;calc BC (Nw<|j _ _ G) (Nw eb) (_,U,?_,);refine bR (λg=>?_)<|λg=>?_
 .let:=q H1 j;rw[show J=[] from(zW u).mp (Ls g),vD]at this;exact this
 let S:J≠[]:=λz=>g<|Lq<|(zW u).mpr z
 let B:=j _ _ er;refine(r,_,_,_,U,U,Nx B,U,r,_,_,_,U,U,Nx B,U,fe,λo R=>((by show 1≤A8;decide),λl2 v=>?_,),);let(Z,e2,W):=pl1 R v;let y:upd (upd H1 o<|.tup [.int p.lo,.int p.hi]) l2 (.lst [.ref o]) o=Lg (.tup [.int p.lo,.int p.hi]):=ah v _ _ _ af;generalize upd (upd H1 o<|.tup [.int p.lo,.int p.hi]) l2 (.lst [.ref o])=H2 at Z e2 W y⊢;let d:=j.trans Z;calc ye (q:=(p.lo,p.hi)) (Nw<|d _ _ G) (u.mono d.tups) (Nw e2) y (_,U,?_,);let ek:p.k.2=(p.lo,p.hi):=rfl;refine bR (λg=>?_)<|λg=>?_
 .let:=q H2 d;rw[vE (k:=p.k) (by rw[ek];exact gg g)]at this;exact this
 let q':=λc s'=>q c s'
 rw[sq S (by rw[ek];exact ip g)]at q';refine(U,l,U,(_,Nw<|d _ _ G,),(let I_:AM→Nat→Lw V→Hp→Prop:=λD i e c=>ak H2 c∧c D=Lg (.lst e)∧e=((J.take i).map<|rj p.k).map NE;bP (xs:=ts) I_ (λD a=>(ah a _,af,U,)) (λD i e c a _ h=>Nw<|(d.trans h.1) _ _ G) (λD i x e c a ex h=>?_) (λD e c a h=>?_)),)
 .let(C,I,rfl):=h;let(x,t,ep,rfl,et):=u.get ex;let T:i<⇑ts:=(IV.mp ex).1;let sA:=d.trans C;let h2:=ok.few;refine(r,t,p,x,U,hp.same sA,M,sA _ _ et,ok.inn x<|IW ep,λH3 s3=>b7.mk T (s3 _ _ I) (aC (by simp;lia)) ((C.trans s3).upd a,af,?_,),);rw[take_snoc ep,eg,eg];rfl
 .let(C,I,rfl):=h;rw[O,eY]at I;refine(_,D,_,U,U,Nw I,(~~~0),iA (m:=600) (n:=2) (λz hz=>?_) (by rw[ck];exact ok.few) ⋯,q' c<|d.trans C,);let(x,hx,rfl):=dn.mp hz;calc rm (ok.inn x hx) ok.gd
def Hw(F:Fun K "_law_head" "_law_head" Y49 f fd)(bl:Bl K mg Y)(fh:⟨⟩ 1 "_law_domain_text" ["domain"] (dq K Y)):() 2 f fd ["plan","k"] (kq K Y):=by
 refine F.okA Z49 λc4 A a7 s H vs Q E hr h=>?_
 let(r,k,zs,ds,ts,G,t,nm,W,rfl,a5,ok,X,S,R,q):=h
 refine(_,(aw (m4 (pv 0)<|fb U<|aL (aG (i:=2) Z49.nd U<|ul U)<|aL (aG (i:=3) Z49.nd U<|cr U)<|aL (aG (i:=4) Z49.nd U<|cr U) bC)
  (aw (aJ (i:=5) Z49.nd U (cr U)<|aD bT (aD fP (ar aq U bl.len_ Lf<|aa (pv 2) ae)<|ar aq U bl.len_ Lf<|aa (pv 4) ae)<|pv 1)
  (aw (aJ (i:=6) Z49.nd U (cr U)<|br PySem.F.plainAttrs_str PySem.F.slot_str_join PySem.F.type_str_join fY aN<|aa (bK (aT<|az aM (az aV (pv 4) (pv 1)<|λ_ _=>U) ai<|λ_ _=>U) (bp (N:=["j","names"]) (fr:=[2]) (cl:=[("names",↥s+1)]) U U (~~~0) (~~~0) U (~~~0) U U U (fJ.mpr (U,hQ _,)) U) U (λ_ _ _ _=>aY)<|λ_ _ _ _=>(az (gh (K:=K) U) (pv 1) (pv 0)<|λ_ _=>U)) ae)
  (aw (aJ (i:=7) Z49.nd U (cr U)<|aD aP (aD aP (aD aP aN<|aS fh hr U<|aa (az aV (pv 3) (pv 5)<|λ_ _=>U) ae) aN)<|az aM (az aV (pv 4) (pv 1)<|λ_ _=>U) ai<|λ_ _=>U)
  (ag<|aI<|aD aP (aD aP (aD aP (aD aP aN<|az aV (pv 2) (pv 5)<|λ_ _=>U) aN)<|pv 6)<|pv 7))))),?_,)
 dsimp only[bh,Nz,Ny];show(let r4:TS:=_;let r3:TS:=aZ _ r4;let r2:TS:=aZ _ r3;let r1:TS:=aZ _ r2;aZ _ r1 _ _ _);intro _ _ _ _;let(o,I,b,dv,tv,er,v,a6,a4,u,M):=id a5;let(ta,O,cl,rl,rx,g1,g2,g3,g4):=M.2 k t X;let c0:⇑(zs.map NE)=⇑zs:=ck _;let a3:=ok.len;let c2:=ok.tab;let c1:⇑tv=⇑ts:=M.1;let h7:=ok.n7;let tok:=ok.tabs k t X;let a2:=ok.lt X;let Hx:=ok.own X;let c3:⇑t.cols≤3:=tok.ok.few;let a0:⇑(vN t.cols)=⇑t.cols:=kh _;let p:∀j∈t.cols,j<⇑zs:=λj hj=>by rw[a3];exact a2 j hj
 let gz:=cz (os:=t.cols) (xs:=zs) p;let g:=ok.doms W<|IW R;let J:∀z∈prm t.cols zs,⇑z≤12:=λz hz=>ok.nm12<|wW hz
 calc(let d:St→Hp→Prop:=λa c=>c=H∧a=[↑r,Lg<|.int (k:Int),↑o,↑I,↑b,Lh,Lh,Lh];(d,(r,_,U,Nx er,U,_,_,U,_,_,U,_,_,U,U,U,U,),?_,));rintro b4 H1 ⟨rfl,rfl⟩;refine(let d:St→Hp→Prop:=λa c=>c=H1∧a=[↑r,Lg<|.int (k:Int),↑o,↑I,↑b,Lg<|.int ((G+k:Nat):Int),Lh,Lh];(d,(o,_,U,.inl<|Nw v,b,_,U,.inl<|Nw u,_,_,U,U,_,_,U,U,U,?_,),?_,))
 .rw[show((G+k:Nat):Int)=((⇑(zs.map NE):Nat):Int)-((⇑tv:Nat):Int)+(k:Int) by lia];rfl
 rintro b3 H2 ⟨rfl,rfl⟩;refine(let d:St→Hp→Prop:=λa c=>ak H2 c∧a=[↑r,Lg<|.int (k:Int),↑o,↑I,↑b,Lg<|.int ((G+k:Nat):Int),Lg<|.str<|kt s!", " (prm t.cols zs),Lh];(d,?_,?_,))
 .refine(U,b,_,_,_,U,U,Nw u,aU O,ta,_,_,_,U,U,Nx g1,U,cl,U,(_,Nw g2,),(let d:AM→Nat→Lw V→Hp→Prop:=λD i B c=>ak H2 c∧c D=Lg (.lst B)∧B=(prm (t.cols.take i) zs).map NE;bP (xs:=vN t.cols) d (λD C=>(ah C _,af,U,)) (λD i B c C _ h=>Nw<|h.1 _ _ g2) (λD i y B c C e h=>?_) (λD B c C h=>?_)),)
  .let(T,Z,rfl):=h;let(j,rfl,ej):=wV e;let ez:=IU (l:=zs) (i:=j)<|p j<|IW ej;let hi:i<⇑(vN t.cols):=(IV.mp e).1;refine(o,_,_,_,U,U,Nw<|T _ _ v,aU<|gX ez,b7.mk hi Z (aC ?_) (T.upd C,af,?_,),)
   .rw[ck,(cz (os:=t.cols.take i) (xs:=zs) λj hj=>p j<|md hj).1,fK];lia
   .rw[take_snoc ej,pL ez,eg];rfl
  .let(T,Z,rfl):=h;rw[a0,eY]at Z;exact(_,D,_,U,U,Nw Z,(~~~0),iA (m:=12) (n:=4) J (by rw[gz.1];lia) ⋯,T,U,)
 rintro b0 H3 ⟨x,rfl⟩;let(da,e2,a1):=a4.2 (G+k) W R;let lw:=nA g.gd g.b1 g.b2;let L:=E9 tok.ok.way;let L:⇑t.way≤12:=L;let b9:=ok.nm12<|IW S;let lj:=lX (sep:=ofS ", ") (zs:=prm t.cols zs) (m:=12) (n:=4) (~~~0) J (by rw[gz.1];lia);let lj:⇑(kt s!", " (prm t.cols zs))≤60:=lj;refine(let d:St→Hp→Prop:=λa c=>c=H3∧a=[↑r,Lg<|.int (k:Int),↑o,↑I,↑b,Lg<|.int ((G+k:Nat):Int),Lg<|.str<|kt s!", " (prm t.cols zs),Lg (.str<|s!" -> " ++ cR W.k++s!" by " ++ t.way)];(d,(I,_,_,_,U,U,Nw<|x _ _ a6,aU e2,da,W,U,a1.same x,g,_,_,U,U,nE (by rw[yf];lia),_,_,U,U,nE (by rw[aW,yf,DG];lia),b,_,_,_,U,U,Nw<|x _ _ u,aU O,ta,_,_,_,U,U,Nx<|x _ _ g1,U,_,_,U,U,nE (by rw[aW,aW,yf,DG];lia),U,U,),?_,));rintro a8 H4 ⟨rfl,rfl⟩;let:=q H4 x;rw[←yg]at this;calc(o,_,_,_,U,U,Nw<|x _ _ v,aU<|gX S,_,_,U,U,nE (by rw[mQ];lia),_,_,U,U,nE (by rw[aW,mQ,sr];lia),_,_,U,U,nE (by rw[aW,aW,mQ,sr];lia),_,_,U,U,nE (by rw[aW,aW,aW,aW,aW,aW,mQ,sr,yf,DG];lia),this,)
def Hy(F:Fun K "_law_same_table" "_law_same_table" Y57 f fd)(bl:Bl K mg Y)(dz:⟨⟩ 1 "_law_same_domain" ["found","domain"] (dr K Y)):() 2 f fd ["found","plan","k"] (fG K Y):=by
 refine F.okA Z57 λe5 A c4 s H vs Q E hr h=>?_
 let(x,r,k,n,I,ts,o,t,rfl,c0,ok,et,hT,q):=h
 refine(_,(aw (m4 (pv 1)<|fb U<|aL (aG (i:=3) Z57.nd U<|ul U)<|aL (aG (i:=4) Z57.nd U<|cr U)<|aL (aG (i:=5) Z57.nd U<|cr U) bC)
  (aw (aJ (i:=6) Z57.nd U (cr U)<|az aM (az aV (pv 5) (pv 2)<|λ_ _=>U) ai<|λ_ _=>U)
  (aw (aJ (i:=7) Z57.nd U (cr U)<|aD bT (aD fP (ar aq U bl.len_ Lf<|aa (pv 3) ae)<|ar aq U bl.len_ Lf<|aa (pv 5) ae)<|pv 2)
  (aw (aQ (PW.pt<|jT (aH iX (aO (pv 0) U) (az aV (pv 3) (pv 7)<|λ_ _=>U)<|aK _)<|jT (aH (C6 hr) (aO (pv 0) U) (bK (aT<|pv 6) (bp (N:=["j","names"]) (fr:=[3]) (cl:=[("names",↥s+1)]) U U (~~~0) (~~~0) U (~~~0) U U U (fJ.mpr (U,hQ _,)) U) U (λ_ _ _ _=>aY)<|λ_ _ _ _=>(az (gh (K:=K) U) (pv 1) (pv 0)<|λ_ _=>U))<|aK _)<|iH<|aH iX (aO (pv 0) U) (az aM (az aV (pv 5) (pv 2)<|λ_ _=>U) ai<|λ_ _=>U)<|aK _)
  (ag<|aI iW)
  aE)
  (aw (aQ (PW.pt<|jT (aH iX (ar aq U bl.len_ Lf<|aa (aO (pv 0) U) ae) (ar aq U bl.len_ Lf<|aa (pv 6) ae)<|aK _)<|iH<|cK<|bH<|aS dz hr U<|aa (aO (pv 0) U)<|aa (az aV (pv 4) (pv 7)<|λ_ _=>U) ae)
  (ag<|aI iW)
  aE)
  (aw (bw v2 U (bu U bl.range_<|aa (ar aq U bl.len_ Lf<|aa (pv 6) ae) ae) (aG (i:=8) Z57.nd U<|cr U)
  (ag (aQ (cK<|bH<|aS dz hr U<|aa (az aV (aO (pv 0) U) (pv 8)<|λ_ _=>U)<|aa (az aV (pv 4) (az aV (pv 6) (pv 8)<|λ_ _=>U)<|λ_ _=>U) ae)
  (ag<|aI iW)
  aE)))
  (ag<|aI<|dM (Bi hr) (aO (pv 0) U) (az aM (az aV (pv 5) (pv 2)<|λ_ _=>U) ai<|λ_ _=>U)<|aK _))))))),?_,)
 dsimp only[bh,Nz,Ny];show(let r6:TS:=_;let r5:TS:=aZ _ r6;let r4:TS:=aZ _ r5;let r3:TS:=aZ _ r4;let r2:TS:=aZ _ r3;let r1:TS:=aZ _ r2;aZ _ r1 _ _ _);intro _ _ _ _ _ _;let(p,u,b,dv,tv,er,T,a5,a2,B,a1):=id c0;let(ta,S,cl,rl,rx,g1,g2,g3,g4):=a1.2 k t et;let d3:⇑(n.map NE)=⇑n:=ck _;let b4:=ok.len;let d5:=ok.tab;let d4:⇑tv=⇑ts:=a1.1;let tok:=ok.tabs k t et;let O:=ok.lt et;let d7:⇑t.cols≤3:=tok.ok.few;let M:⇑(vN t.cols)=⇑t.cols:=kh _;let Hx:=ok.own et;let ez:=IU (l:=n) (i:=o+k) ∅;let ed:=IU (l:=I) (i:=o+k) ∅;generalize n[o+k]=nm at ez;generalize I[o+k]=po at ed;rw[AH ez ed]at hT;let(ou,J,(d2,dx,na,a0,fs,xs,G,h2,h3,h4,h5,h6,h7,h8,h9,c1,z,e1),v,R):=hT;let h3:fs.lookup s!"name"=Lg (.str nm):=h3;let h4:fs.lookup s!"way"=Lg (.str t.way):=h4;let h8:H na=Lg (.lst<|(prm t.cols n).map NE):=h8;let z:RL NT H xs t.rows:=z;let v:au J (prm t.cols<|I.map PD.k) (dE Y.r Y.s H):=v;let R:dE Y.r Y.s H ou po.k:=R;let L:∀j∈t.cols,j<⇑n:=λj X=>by rw[b4];exact O j X
 let a6:∀j∈t.cols,j<⇑(I.map PD.k):=λj X=>by rw[ck];exact O j X
 let gz:=cz (os:=t.cols) (xs:=n) L;let gk:=cz (os:=t.cols) (xs:=I.map PD.k) a6;let b9:J.length=⇑t.cols:=by rw[v.1,gk.1]
 calc(let m:St→Hp→Prop:=λa g=>g=H∧a=[↑x,↑r,Lg<|.int (k:Int),↑p,↑u,↑b,Lh,Lh,Lh];(m,(r,_,U,Nx er,U,_,_,U,_,_,U,_,_,U,U,U,U,),?_,));rintro d1 H1 ⟨rfl,rfl⟩;calc(let m:St→Hp→Prop:=λa g=>g=H1∧a=[↑x,↑r,Lg<|.int (k:Int),↑p,↑u,↑b,↑cl,Lh,Lh];(m,(b,_,_,_,U,U,Nw B,aU S,ta,_,_,_,U,U,Nx g1,U,U,U,),?_,));rintro d0 H2 ⟨rfl,rfl⟩;refine(let m:St→Hp→Prop:=λa g=>g=H2∧a=[↑x,↑r,Lg<|.int (k:Int),↑p,↑u,↑b,↑cl,Lg<|.int ((o+k:Nat):Int),Lh];(m,(p,_,U,.inl<|Nw T,b,_,U,.inl<|Nw B,_,_,U,U,_,_,U,U,U,?_,),?_,))
 .rw[show((o+k:Nat):Int)=((⇑(n.map NE):Nat):Int)-((⇑tv:Nat):Int)+(k:Int) by lia];rfl
 rintro c9 H3 ⟨rfl,rfl⟩;refine(let m:St→Hp→Prop:=λa g=>ak H3 g∧a=[↑x,↑r,Lg<|.int (k:Int),↑p,↑u,↑b,↑cl,Lg<|.int ((o+k:Nat):Int),Lh];(m,?_,?_,))
 .refine(x,_,_,_,_,U,G,bl.k_Table,bl.na_Table_name,h3,p,_,_,_,U,U,Nw T,aU<|gX ez,U,_,U,ka U ?_,);refine(x,_,_,_,_,U,G,bl.k_Table,bl.na_Table_names,h6,cl,U,(_,Nw g2,),(let m:AM→Nat→Lw V→Hp→Prop:=λD i W g=>ak H3 g∧g D=Lg (.lst W)∧W=(prm (t.cols.take i) n).map NE;bP (xs:=vN t.cols) m (λD Z=>(ah Z _,af,U,)) (λD i W g Z _ h=>Nw<|h.1 _ _ g2) (λD i y W g Z e h=>?_) (λD W g Z h=>?_)),)
  .let(C,eD,rfl):=h;let(j,rfl,ej):=wV e;let a3:=IU (l:=n) (i:=j)<|L j<|IW ej;let hi:i<⇑(vN t.cols):=(IV.mp e).1;refine(p,_,_,_,U,U,Nw<|C _ _ T,aU<|gX a3,b7.mk hi eD (aC ?_) (C.upd Z,af,?_,),)
   .rw[ck,(cz (os:=t.cols.take i) (xs:=n) λj X=>L j<|md X).1,fK];lia
   .rw[take_snoc ej,pL a3,eg];rfl
  .let(C,eD,rfl):=h;rw[M,eY]at eD;calc yr (Nw<|C _ _ h8) (Nw eD) (_,U,bF ?_,);exact(x,_,_,_,_,U,C _ _ G,bl.k_Table,bl.na_Table_way,h4,b,_,_,_,U,U,Nw<|C _ _ B,aU S,ta,_,_,_,U,U,Nx<|C _ _ g1,U,U,_,U,ka U (C,U,),)
 rintro c7 H4 ⟨d,rfl⟩;let(oa,c2,b0):=a2.2 (o+k) po ed;refine(let m:St→Hp→Prop:=λa g=>g=H4∧a=[↑x,↑r,Lg<|.int (k:Int),↑p,↑u,↑b,↑cl,Lg<|.int ((o+k:Nat):Int),Lh];(m,?_,?_,))
 .refine(x,_,_,_,_,U,d _ _ G,bl.k_Table,bl.na_Table_domains,h7,a0,_,U,.inl<|Nw<|d _ _ h9,cl,_,U,.inl<|Nw<|d _ _ g2,U,_,U,ka (by rw[b9,M]) ?_,);exact(x,_,_,_,_,U,d _ _ G,bl.k_Table,bl.na_Table_outcome,h5,u,_,_,_,U,U,Nw<|d _ _ a5,aU c2,ou,oa,_,po,U,R.same d,b0.same d,U,_,U,bF (U,U,),)
 rintro c6 H5 ⟨rfl,rfl⟩;refine(let m:St→Hp→Prop:=λa g=>g=H5∧∃c8:Option V,a=[↑x,↑r,Lg<|.int (k:Int),↑p,↑u,↑b,↑cl,Lg<|.int ((o+k:Nat):Int),c8];(m,?_,?_,))
 .refine(cl,_,U,.inl<|Nw<|d _ _ g2,_,U,∅,∅,(let m:Nat→St→Hp→Prop:=λi σ g=>g=H5∧∃c8:Option V,σ=[↑x,↑r,Lg<|.int (k:Int),↑p,↑u,↑b,↑cl,Lg<|.int ((o+k:Nat):Int),c8];gL m (U,_,U,) (λi σ g hi h=>?_) (λσ g h=>h)),);let(e0,c8,rfl):=h;rw[e0];rw[wi,M]at hi;let ec:=IU hi;generalize t.cols[i]=c at ec;let(pd,a4):∃pd,I[c]?=Lg pd:=(_,IU<|O _<|IW ec,);let(da,e2,b3):=a2.2 c _ a4;let c3:(prm t.cols<|I.map PD.k)[i]?=Lg pd.k:=by rw[gk.2 i c ec,dV,a4];rfl
  let(td,e3,e4):=v.2 i _ c3;let a8:atI (vN t.cols) (0+(i:Int))=Lg (.int (c:Int)):=by rw[wj];exact aU<|zL ec
  let a7:atI J (0+(i:Int))=↑td:=by rw[wj];exact aU e3
  exact(x,_,_,_,_,U,d _ _ G,bl.k_Table,bl.na_Table_domains,h7,a0,_,_,_,U,U,Nw<|d _ _ h9,a7,cl,_,_,_,U,U,Nw<|d _ _ g2,a8,u,_,_,_,U,U,Nw<|d _ _ a5,aU e2,td,da,_,pd,U,e4.same d,b3.same d,U,_,U,bF (U,_,U,),)
 rintro c5 H6 ⟨rfl,c8,rfl⟩;calc(x,_,_,_,_,U,d _ _ G,bl.k_Table,bl.na_Table_rows,h2,b,_,_,_,U,U,Nw<|d _ _ B,aU S,ta,_,_,_,U,U,Nx<|d _ _ g1,U,?_,);calc yb (Nw<|d _ _ c1) (Nw<|d _ _ g3) (by rw[z.1,g4.1]) (zK (z.same d)<|g4.same d) (q H6 d)
def Hz(F:Fun K "__init__" "First.__init__" Y10 f fd)(bl:Bl K mg Y)(e:cU CX0 P w K mg base 1 "Way" "__init__" ["self","called"] (dG K Y)):() 2 f fd ["self"] (J0 K Y):=by
 refine F.ok Z10 (λd H Q E h=>?_)<|λi A a s H d Q E g h=>?_
 .let(x,c,rfl,b,q):=h;rfl
 let(x,c,rfl,b,q):=h;calc(_,(ag<|aX<|ir e cQ g U<|aa (pv 0)<|aa aN ae),?_,);calc(x,c,_,U,b,q,)
def HA(F:Fun K "__init__" "Only.__init__" Y17 f fd)(bl:Bl K mg Y)(e:cU CX0 P w K mg base 1 "Way" "__init__" ["self","called"] (dW K Y)):() 2 f fd ["self"] (J4 K Y):=by
 refine F.ok Z17 (λd H Q E h=>?_)<|λi A a s H d Q E g h=>?_
 .let(x,c,rfl,b,q):=h;rfl
 let(x,c,rfl,b,q):=h;calc(_,(ag<|aX<|ir e cQ g U<|aa (pv 0)<|aa aN ae),?_,);calc(x,c,_,U,b,q,)
def HB(F:Fun K "__init__" "Like.__init__" Y12 f fd)(bl:Bl K mg Y)(e:cU CX0 P w K mg base 1 "Way" "__init__" ["self","called"] (dX K Y)):() 2 f fd ["self"] (J2 K Y):=by
 refine F.ok Z12 (λd H Q E h=>?_)<|λi A a s H d Q E g h=>?_
 .let(x,c,rfl,b,q):=h;rfl
 let(x,c,rfl,b,q):=h;calc(_,(ag<|aX<|ir e cQ g U<|aa (pv 0)<|aa aN ae),?_,);calc(x,c,_,U,b,q,)
def HC(F:Fun K "__init__" "Low.__init__" Y13 f fd)(bl:Bl K mg Y)(e:cU CX0 P w K mg base 1 "Way" "__init__" ["self","called"] (eM K Y)):() 2 f fd ["self"] (J3 K Y):=by
 refine F.ok Z13 (λd H Q E h=>?_)<|λi A a s H d Q E g h=>?_
 .let(x,c,rfl,b,q):=h;rfl
 let(x,c,rfl,b,q):=h;calc(_,(ag<|aX<|ir e cQ g U<|aa (pv 0)<|aa aN ae),?_,);calc(x,c,_,U,b,q,)
def HD(F:Fun K "__init__" "High.__init__" Y11 f fd)(bl:Bl K mg Y)(e:cU CX0 P w K mg base 1 "Way" "__init__" ["self","called"] (dY K Y)):() 2 f fd ["self"] (J1 K Y):=by
 refine F.ok Z11 (λd H Q E h=>?_)<|λi A a s H d Q E g h=>?_
 .let(x,c,rfl,b,q):=h;rfl
 let(x,c,rfl,b,q):=h;calc(_,(ag<|aX<|ir e cQ g U<|aa (pv 0)<|aa aN ae),?_,);calc(x,c,_,U,b,q,)
def HE(F:Fun K "__init__" "Sum.__init__" Y18 f fd)(bl:Bl K mg Y)(e:cU CX0 P w K mg base 1 "Way" "__init__" ["self","called"] (eN K Y)):() 2 f fd ["self"] (J5 K Y):=by
 refine F.ok Z18 (λd H Q E h=>?_)<|λi A a s H d Q E g h=>?_
 .let(x,c,rfl,b,q):=h;rfl
 let(x,c,rfl,b,q):=h;calc(_,(ag<|aX<|ir e cQ g U<|aa (pv 0)<|aa aN ae),?_,);calc(x,c,_,U,b,q,)
def O_5(F:Fun K "has_code" "Domain.has_code" Y5 f fd)(bl:Bl K mg Y)(j:⟨⟩ 1 "is_whole" ["value"] (iC K Y)):() 2 f fd ["self","value"] (bM K Y):=by
 refine F.okA Z5 λn A c s H o Q E k h=>?_
 let(a,b,v,rfl,(p,fs,e,l,m,_),d,q):=h;calc(_,(ag<|aI<|fO (aS j k U<|aa (pv 1) ae)<|iJ<|mw fM fM (aO (pv 0) U) (pv 1)<|aO (pv 0) U),?_,);calc(v,U,d,_,U,?_,);cases v with
 |int i =>
  calc eJ (a,_,_,_,_,U,e,bl.k_Numbers,bl.na_Numbers_low,l,_,_,U,U,_,U,?_,);let q:Q (.bl<|Lk (b.1≤i) && decide (i≤b.2)) H:=q;refine bR (λg=>?_)<|λg=>?_
  .rw[g,IR]at q;exact(a,_,_,_,_,U,e,bl.k_Numbers,bl.na_Numbers_high,m,_,_,U,U,q,)
  .rw[w4.mpr g,ww]at q;exact q
 |non=>exact bF q
 |bl b=>exact bF q
 |str z=>exact bF q
 |_=>calc d.elim
def O_4(F:Fun K "code" "Domain.code" Y4 f fd)(bl:Bl K mg Y)(o:bE CX0 P w K mg base 1 Y.s "borne_code" ["self","value"] (cD K Y))(n:bE CX0 P w K mg base 1 Y.s "bears" ["self","value"] (dZ K Y)):aR P w K mg base (CX1 P w) 2 f fd ["self","value"] (d6 K Y):=by
 refine F.okEA Z4 λr A e s H u Q E c h=>?_
 let(a,b,v,rfl,d,g,q,m):=h
 refine(_,(ao (aQ (cK<|bH<|tZ n cQ bl.k_Words c (pv 0)<|aa (pv 1) ae)
  (ag<|cF bl.x_Outside c.hd U bl.Outside_<|aa (zh<|pv 1) ae)
  aE)
  (ag<|aI<|tZ o cQ bl.k_Words c (pv 0)<|aa (pv 1) ae)),?_,)
 show(let l:TS:=_;ba _ l _ _ _);intro _;let(y,lw,k,x):=id d;calc(a,_,_,U,k,U,a,b,v,U,d,Ah g,_,U,?_,);cases hb:inW b v with
 |true =>
  let(z,rfl,p):∃z,v=.str z∧z∈b:=by
   cases v with
   |str z=>exact(z,U,Ls hb,)
   |_=>cases hb
  let(j,i):=pS p;exact bF (a,_,_,U,k,U,a,b,z,j,U,d,i,q z j U i,)
 |false=>calc eJ (g,(~~~0),λt=>((by show 1≤A8;decide),m hb,),)
def O_6(F:Fun K "has_code" "Domain.has_code" Y6 f fd)(bl:Bl K mg Y)(j:⟨⟩ 1 "is_whole" ["value"] (iC K Y)):() 2 f fd ["self","value"] (cO K Y):=by
 refine F.okA Z6 λn A c s H o Q E k h=>?_
 let(a,b,v,rfl,(p,fs,e,l,m,_),d,q):=h;calc(_,(ag<|aI<|fO (aS j k U<|aa (pv 1) ae)<|iJ<|mw fM fM (aO (pv 0) U) (pv 1)<|aO (pv 0) U),?_,);calc(v,U,d,_,U,?_,);cases v with
 |int i =>
  calc eJ (a,_,_,_,_,U,e,bl.k_Words,bl.na_Words_low,l,_,_,U,U,_,U,?_,);let q:Q (.bl<|Lk (b.1≤i) && decide (i≤b.2)) H:=q;refine bR (λg=>?_)<|λg=>?_
  .rw[g,IR]at q;exact(a,_,_,_,_,U,e,bl.k_Words,bl.na_Words_high,m,_,_,U,U,q,)
  .rw[w4.mpr g,ww]at q;exact q
 |non=>exact bF q
 |bl b=>exact bF q
 |str z=>exact bF q
 |_=>calc d.elim
def HF(F:Fun K "__init__" "Numbers.__init__" Y14 f fd)(bl:Bl K mg Y)(c:cU CX0 P w K mg base 1 "Domain" "__init__" ["self","low","high"] (cm K Y)):() 2 f fd ["self","low","high"] (b8 K Y):=by
 refine F.okA Z14 λj A a s H k Q E e h=>?_
 let(x,g,lo,hi,rfl,d,i,q):=h
 refine(_,(ao (aQ (aH gB (pv 1) (pv 2)<|aK _)
  (ag bj)
  aE)
  (ag<|aX<|ir c cQ e U<|aa (pv 0)<|aa (pv 1)<|aa (pv 2) ae)),?_,)
 show(let b:TS:=_;ba _ b _ _ _);intro _;calc(_,_,U,U,_,U,iw ∅ (x,g,lo,hi,U,d,q,),)
def HG(F:Fun K "number_of" "number_of" Y64 f fd)(bl:Bl K mg Y)(g:⟨⟩ 2 "is_number" ["text"] (gJ K Y)):aR P w K mg base (CX1 P w) 3 f fd ["text"] (fH K Y):=by
 refine F.okEA Z64 λj A a s H l Q E c h=>?_
 let(z,rfl,b,q,e):=h
 refine(_,(ao (aQ (cK<|bH<|aS g c U<|aa (pv 0) ae)
  (ag<|cF bl.x_BadNumber c.hd U bl.BadNumber_<|aa (tY<|pv 0) ae)
  aE)
  (ag<|aI<|a9 qp U bl.int_ Mz<|aa (pv 0) ae)),?_,)
 show(let d:TS:=_;ba _ d _ _ _);intro _;let i:=b.len;calc(z,U,∅,_,U,?_,);cases hi:isn z with
 |true=>exact bF (z,_,U,Ak hi ∅,∅,q hi,)
 |false=>calc eJ (z,U,∅,b.low,(~~~0),λk=>((by show 1≤A8;decide),e hi,),)
def HH(F:Fun K "refuse_names" "refuse_names" Y80 f fd)(bl:Bl K mg Y)(fW:⟨⟩ 2 "is_word" ["text"] (fU K Y)):aR P w K mg base (CX1 P w) 3 f fd ["facts","tables"] (dH K Y):=by
 refine F.okEA Z80 λd0 A c4 s H vs Q E hr h=>?_
 let(T,S,fv,mv,fs,a,rfl,J,I,C,q,qE):=h
 refine(_,(aw (bw (gO U U U) U (aT<|pv 0) (fb U<|aL (aG (i:=2) Z80.nd U<|cr U)<|aL (aG (i:=3) Z80.nd U<|cr U) bC)
  (ag (aQ (cK<|bH<|aS fW hr U<|aa (pv 2) ae)
  (ag<|cF bl.x_BadName hr.hd U bl.BadName_<|aa (tY<|pv 2) ae)
  aE)))
  (aw (aJ (i:=4) Z80.nd U (cr U)<|aD ph (fz (aT<|pv 0) (fu (N:=["name","domain"]) (k:=2) U U (~~~0) (~~~0)<|~~~0) U (λ_ _ _ _=>(lK (K:=K) (n:=2) U U<|aL (aG (i:=0) (show(["name","domain"]:Lw Str).Nodup by decide+kernel) U (cr U) (ul U)) (aL (aG (i:=1) (show(["name","domain"]:Lw Str).Nodup by decide+kernel) U (cr U) (ul U)) bC))) (λ_ _ _ _=>aY) (λ_ _ _ _=>(pv 0))) (bK (aT<|pv 1) (bA U (~~~0) (~~~0) (~~~0) U) U (λ_ _ _ _=>aY)<|λ_ _ _ _=>(iu (K:=K) U (pv 0) U)))
  (ao (aQ (aH lI (ar eQ U bl.len_ Lf<|aa (a9 (eP U) U bl.set_ Do<|aa (pv 4) ae) ae) (ar aq U bl.len_ Lf<|aa (pv 4) ae)<|aK _)
  (ag<|cF bl.x_BadName hr.hd U bl.BadName_<|aa aN ae)
  aE)
  (ag (bw (gO U U U) U (aT<|pv 1) (aG (i:=5) Z80.nd U<|cr U)
  (ag (bw (gO U U U) U (aT<|aO (pv 5) U) (aG (i:=2) Z80.nd U<|cr U)
  (ag (aQ (aH mD (pv 2) (pv 4) (by with_unfolding_all rfl))
  (ag<|cF bl.x_BadName hr.hd U bl.BadName_<|aa (tY<|pv 2) ae)
  aE))))))))),?_,)
 dsimp only[bh,Nz,Ny];show(let r3:TS:=_;let r2:TS:=ba _ r3;let r1:TS:=aZ _ r2;aZ _ r1 _ _ _);intro _ _ _;let(b1,b2):=C.few;let a3:⇑fv=⇑fs:=C.facts.1;let a2:⇑mv=⇑a:=C.tabs.1;refine(let I_:St→Hp→Prop:=λW b=>b=H∧(∀f∈fs,isw f.1=Li)∧E2 λB M:Option V=>W=[↑T,↑S,B,M,Lh,Lh];(I_,?_,?_,))
 .refine(T,U,(_,Nw J,),bo (xs:=fv) (λi j b=>b=H∧(∀f∈fs.take i,isw f.1=Li)∧E2 λB M:Option V=>j=[↑T,↑S,B,M,Lh,Lh]) (U,(λf hf=>by simp at hf),_,_,U,) (λi j b _ h=>by rw[h.1];exact Nw J) (λi y j b e h=>?_) (λj b h=>by rw[a3,eY]at h;exact h),);let(e0,ha,B,M,rfl):=h;rw[e0];let(r,f,rfl,o,d,h3,h4):=au.get C.facts e;let hz:=C.sf f<|IW o;let a5:=hz.1;calc(r,_,U,Nx h3,U,_,_,U,_,_,U,U,?_,);calc(f.1,U,∅,_,U,?_,);cases hw:isw f.1 with
  |true=>exact bF (U,kR (P:=λf:Fc=>isw f.1=Li) o ha hw,_,_,U,)
  |false=>exact eJ ⟨f.1,U,∅,hz.2,(~~~0),λz2=>⟨(by show 1≤A8;decide),qE (λg=>by rw[g.w f (IW o)]at hw;cases hw) H (ak.refl H)⟩⟩
 rintro c7 H1 ⟨e1,a6,B,M,rfl⟩;rw[e1];clear e1;refine(let I_:St→Hp→Prop:=λW b=>ak H b∧∃x:AM,b x=Lg (.lst<|(bN fs a).map NE)∧W=[↑T,↑S,B,M,↑x,Lh];(I_,?_,?_,))
 .refine(T,U,(_,Nw J,),di (xs:=fv) (λD i m b=>ak H b∧b D=Lg (.lst m)∧m=((fs.take i).map (·.1)).map NE) (λD hD=>(ah hD _,af,U,)) (λD i m b hD _ h=>Nw<|h.1 _ _ J) (λD i y m b hD e h a0 a7=>?_)<|λD m b hD h=>?_,)
  .let(O,eD,rfl):=h;let(r,f,rfl,o,d,h3,h4):=au.get C.facts e;let hi:i<⇑fv:=(IV.mp e).1;let(t0,t1,rfl):∃t0 t1,a0=[t0,t1]:=by
    match a0,a7 with
    | [t0,t1],_=>exact(t0,t1,U,)
   calc(r,_,U,Nx<|O _ _ h3,U,_,_,U,_,_,U,U,([Lg (.str f.1),↑d],U,U,),?_,);refine(b7.mk ∅ eD (aC (by rw[ck,ck,fK];lia)) (O.upd hD,af,?_,));rw[take_snoc o,eg,eg];rfl
  .let(O,eD,rfl):=h;rw[a3,eY]at eD;refine(S,U,(_,Nw<|O _ _ I,),bP (xs:=mv) (λZ i m u=>ak b u∧u Z=Lg (.lst m)∧m=((a.take i).map BT.nm).map NE) (λZ v=>(ah v _,af,U,)) (λZ i m u v _ h=>Nw<|h.1 _ _<|O _ _ I) (λZ i y m u v e h=>?_)<|λZ m u v h=>?_,)
   .let(R,L,rfl):=h;let(t_,t,rfl,o,ou,dv,g4,g5,g6):=au.get C.tabs e;let(rl,dx,x,dl,b9,xs,ht,f1,f2,f3,f4,f5,f6,G,c1,c0,hR,lh):=g4;let hi:i<⇑mv:=(IV.mp e).1;let sA:=O.trans R;refine(t_,_,_,_,_,U,sA _ _ ht,bl.k_Table,bl.na_Table_name,f2,b7.mk hi L (aC (by rw[ck,ck,fK];lia)) (R.upd v,af,?_,),);rw[take_snoc o,eg,eg];rfl
   .let(R,L,rfl):=h;rw[a2,eY]at L;refine(D,Z,_,_,U,U,R _ _ eD,L,ve<|aC (by simp only[ck];lia),λp hp=>((O.trans R).trans<|ah hp _,p,?_,U,),);rw[af];unfold bN;rw[eg]
 rintro c6 u ⟨R,x,G,rfl⟩;let c8:⇑(bN fs a)≤200:=by unfold bN;rw[eH,ck,ck];lia
 let a1:⇑((bN fs a).map NE)=⇑(bN fs a):=ck _;calc(x,bN fs a,U,Nw G,∅,λl X=>(l,bN fs a,U,af,∅,x,_,U,.inl<|Nw<|ah X _ _ _ G,_,_,U,U,_,U,?_,),);let cf:=gN (bN fs a) ⇑(bN fs a)<|sT _;rw[eY]at cf;let s3:=R.trans<|ah X<|oF P w l<|bN fs a;let HI:=ah X (oF P w l<|bN fs a) _ _ G;refine bR (λg=>?_)<|λg=>?_
 .let g':=gg g;rw[a1]at g';exact((by show 1≤A8;decide),qE (λgd=>by have:=cf.mpr gd.nd;lia) _ s3,)
 let g':=ip g;rw[a1]at g';let b0:(bN fs a).Nodup:=cf.mp (by have:=mI (bN fs a) ⇑(bN fs a);lia);refine(S,U,(_,Nw<|s3 _ _ I,),bo (xs:=mv) (λi j b=>ak H b∧b x=Lg (.lst<|(bN fs a).map NE)∧(∀t∈a.take i,∀c∈t.cs,c∈bN fs a)∧E2 λB c5:Option V=>j=[↑T,↑S,B,M,↑x,c5]) (s3,HI,(λt ht=>by simp at ht),_,_,U,) (λi j b _ h=>Nw<|h.1 _ _ I) (λi y j b e h=>?_) (λj b h=>by rw[a2,eY]at h;exact q (a6,b0,h.2.2.1,) b h.1),);let(s4,Fo,b4,d2,d5,rfl):=h;let(t_,t,rfl,o,ou,dv,g4,g5,g6):=au.get C.tabs e;let(rl,dx,a4,dl,b9,xs,ht,f1,f2,f3,f4,f5,f6,Fp,c1,c0,hR,lh):=g4;let(a8,h4,_):=C.st t<|IW o;let b3:⇑(t.cs.map NE)=⇑t.cs:=ck _;refine(t_,_,_,_,_,U,s4 _ _ ht,bl.k_Table,bl.na_Table_names,f5,a4,U,(_,Nw<|s4 _ _ Fp,),bo (xs:=t.cs.map NE) (λi j u=>u=b∧(∀c∈t.cs.take i,c∈bN fs a)∧∃B:Option V,j=[↑T,↑S,B,M,↑x,↑t_]) (U,(λc hc=>by simp at hc),_,U,) (λi j u _ h=>by rw[h.1];exact Nw (s4 _ _ Fp)) (λi y j u e h=>?_) (λj u h=>by rw[b3,eY]at h;let(h1,h2,c,e):=h;rw[h1];exact(s4,Fo,kR (P:=λt:BT=>∀c∈t.cs,c∈bN fs a) o b4 h2,c,_,e,)),);let(e0,hc,c9,rfl):=h;rw[e0];let(z,rfl,ez):=bW e;let hz:=a8 z<|IW ez;let a5:=hz.1;calc(x,_,U,.inl<|Nw Fo,U,i6 _,_,U,?_,);rw[show(if Li=Li then !inV (NE z) ((bN fs a).map NE)else inV (NE z) ((bN fs a).map NE)) = !(bN fs a).contains z by rw[Lo U,pQ]];cases hm:(bN fs a).contains z with
 |true=>exact bF (U,kR (P:=λc=>c∈bN fs a) ez hc<|~~~hm,_,U,)
 |false=>calc eJ ⟨z,U,∅,hz.2,(~~~0),λz2=>⟨(by show 1≤A8;decide),qE (λg=>by have:=g.al t (IW o) z<|IW ez;rw[show(bN fs a).contains z=Li by simpa using this]at hm;cases hm) b s4⟩⟩
def HJ(F:Fun K "refuse_names" "refuse_names" Y82 f fd)(bl:Bl K mg Y)(G:⟨⟩ 2 "is_word" ["text"] (fU K Y)):() 3 f fd ["names"] (dt K Y):=by
 refine F.okA Z82 λN A t s H O Q E C h=>?_
 let(p,a,rfl,n,B,D,R,q):=h
 refine(_,(aw (bw v2 U (aT<|pv 0) (aG (i:=1) Z82.nd U<|cr U)
  (ag (aQ (cK<|bH<|aS G C U<|aa (pv 1) ae)
  (ag bj)
  aE)))
  (ag (aQ (aH lI (ar eQ U bl.len_ Lf<|aa (a9 (eP U) U bl.set_ Do<|aa (pv 0) ae) ae) (ar aq U bl.len_ Lf<|aa (pv 0) ae)<|aK _)
  (ag bj)
  aE))),?_,)
 dsimp only[bh,Nz,Ny];show(let v:TS:=_;aZ _ v _ _ _);intro _;let k:⇑(a.map NE)=⇑a:=ck _;refine(let o:St→Hp→Prop:=λr b=>b=H∧∃c:Option V,r=[↑p,c];(o,?_,?_,))
 .refine(p,U,(_,n,),(let o:Nat→St→Hp→Prop:=λi m b=>b=H∧∃c:Option V,m=[↑p,c];bo (xs:=a.map NE) o (U,_,U,) (λi m b _ h=>by rw[h.1];exact n) (λi y m b e h=>?_) (λm b h=>h)),);let(L,c,rfl):=h;rw[L];let(z,rfl,I):=bW e;let d:=B z<|IW I;let x:⇑z≤1000:=by
   let g:=d;unfold isw at g;simp only[wF,decide_eq_true_eq]at g;lia
  calc(z,U,x,_,U,?_,);rw[d];exact bF (U,_,U,)
 rintro M S ⟨J,c,rfl⟩;rw[J];calc(p,a,U,n,∅,λl j=>(l,a,U,af,∅,p,_,U,.inl<|(ah j _).seq n,_,_,U,U,_,U,?_,),);let u:=gN a ⇑a<|sT _;rw[eY]at u;calc iw (by rw[k,u.mpr D];lia) (q _<|ah j _)
def HK(F:Fun K "refuse_row" "refuse_row" Y85 f fd)(bl:Bl K mg Y)(cE:bE CX0 P w K mg base 2 Y.r "has_code" ["self","value"] (bM K Y))(jd:bE CX0 P w K mg base 2 Y.s "has_code" ["self","value"] (cO K Y)):() 3 f fd ["domains","outcome","cells","code"] (iR K Y):=by
 refine F.okA Z85 λa4 A a2 s H vs Q E hr h=>?_
 let(v,n,z,dv,xs,bs,o,m,rfl,R,I,hO,S,J,ok,q):=h
 refine(_,(ao (aQ (aH iX (ar aq U bl.len_ Lf<|aa (pv 2) ae) (ar aq U bl.len_ Lf<|aa (pv 0) ae)<|aK _)
  (ag bj)
  aE)
  (aw (bw v2 U (vq U bl.zip_<|aa (pv 0)<|aa (pv 2) ae) (fb U<|aL (aG (i:=4) Z85.nd U<|cr U)<|aL (aG (i:=5) Z85.nd U<|cr U) bC)
  (ag (bw v2 U (aT<|pv 5) (fb U<|aL (aG (i:=6) Z85.nd U<|cr U)<|aL (aG (i:=7) Z85.nd U<|cr U) bC)
  (ag (aQ (PW.pt<|jT (aH lI (pv 6) (aO (pv 4) U)<|aK _)<|iH<|aH gB (pv 7) (aO (pv 4) U)<|aK _)
  (ag bj)
  aE)))))
  (ag (aQ (cK<|bH<|Dr (xS cE bl.k_Numbers<|xS jd bl.k_Words Dq) cQ hr (pv 1)<|aa (pv 3) ae)
  (ag bj)
  aE)))),?_,)
 dsimp only[bh,Nz,Ny];show(let r2:TS:=_;let r1:TS:=aZ _ r2;ba _ r1 _ _ _);intro _ _;let a1:∀(C:AM),(C=Y.r∨C=Y.s)→Cls K C∧NoAttr K C s!"low"∧NoAttr K C s!"high":=λC h=>by
  rcases h with rfl|rfl
  .exact(bl.k_Numbers,bl.na_Numbers_low,bl.na_Numbers_high,)
  .exact(bl.k_Words,bl.na_Words_low,bl.na_Words_high,)
 let L:⇑xs=⇑dv:=by rw[J.1,ok.len,I.1]
 refine(z,_,U,.inl<|Nw S,v,_,U,.inl<|R,U,_,U,ka (by rw[L]) ?_,);refine(let G:St→Hp→Prop:=λZ c=>ak H c∧E4 λD B k g:Option V=>Z=[↑v,↑n,↑z,Lg<|.int m.2,D,B,k,g];(G,?_,?_,))
 .refine(v,z,U,(_,R,),(_,Nw S,),(let G:Nat→St→Hp→Prop:=λi d c=>ak H c∧E4 λD B k g:Option V=>d=[↑v,↑n,↑z,Lg<|.int m.2,D,B,k,g];wM (xs:=dv) (ys:=xs) G (ak.refl _,_,_,_,_,U,) (λi d c h=>(h.1.seq R,Nw<|h.1 _ _ S,)) (λi x y d c T ex ey h hT=>?_) (λd c h=>h)),);let(sm,D,B,k,g,rfl):=h;let M:=sm.trans<|ah hT<|.tup [x,y];let eT:upd c T (.tup [x,y]) T=Lg (.tup [x,y]):=af;generalize upd c T (.tup [x,y])=H2 at M eT⊢;let(a,b,rfl,eb,hb):=I.get ex;let(l,ps,rfl,ep,hl):=au.get J ey;let(C,t,X,fs,u,f1,f2,_):=hb.same M;let(k1,k2,k3):=a1 C t;let(_,ys,el,hp):=hl.same M;calc(T,_,U,Nx eT,U,_,_,U,_,_,U,U,?_,);refine(l,U,(_,Nw el,),(let G:Nat→St→Hp→Prop:=λj d c=>c=H2∧E2 λk g:Option V=>d=[↑v,↑n,↑z,Lg<|.int m.2,↑a,↑l,k,g];bo (xs:=ys) G (U,_,_,U,) (λj d c _ h=>by rw[h.1];exact Nw el) (λj y d c e h=>?_) (λd c h=>?_)),)
  .let(W,k,g,rfl):=h;rw[W];let(p,r,e1,rfl,a0):=hp.get e;let(i1,i2):=ok.inn i ps b ep eb p<|IW e1;calc(r,_,U,Nx a0,U,_,_,U,_,_,U,U,?_,);calc(a,_,_,_,_,U,u,k1,k2,f1,_,_,U,U,_,U,iw ∅ ?_,);exact(a,_,_,_,_,U,u,k1,k3,f2,_,_,U,U,_,U,iw ∅ (U,_,_,U,),)
  .let(W,k,g,rfl):=h;rw[W];exact(M,_,_,_,_,U,)
 rintro a3 H3 ⟨N,D,B,k,g,rfl⟩;let(C,t,O):=hO.same N;let(X,fs,u,f1,f2,f3):=id O;rcases t with rfl|rfl
 .exact(n,_,X,fs,U,.head _,u,f3,n,o,.int m.2,U,O,trivial,by rw[show inB o.1 o.2 (.int m.2)=Li by simp[inB,ok.lo,ok.hi]];exact(_,U,bF<|q _ N,),)
 .exact(n,_,X,fs,U,.tail _<|.head _,u,f3,n,o,.int m.2,U,O,trivial,by rw[show inB o.1 o.2 (.int m.2)=Li by simp[inB,ok.lo,ok.hi]];exact(_,U,bF<|q _ N,),)
def HL(F:Fun K "drafted" "drafted" Y36 f fd)(bl:Bl K mg Y)(M:⟨⟩ 2 "cut" ["parts"] (qd K Y))(g:bB CX0 P w K mg base 1 "Draft" Y.v ["self","name","columns","domain","way"] (dc K Y)):() 3 f fd ["text"] (l9 K Y):=by
 refine F.okA Z36 λa3 A Z s H vs Q E G h=>?_
 let(z,n,m,r,j,t,y,d,b,k,fs,rfl,hz,h1,T,hm,W,h2,hy,ht,S,h3,hb,X,hc,hf,q):=h
 refine(_,(ao (aJ (i:=1) Z36.nd U (cr U)<|aS M G U<|aa (br PySem.F.plainAttrs_str PySem.F.slot_str_partition PySem.F.type_str_partition ee (pv 0)<|aa (cb U bl.NAMED_) ae) ae)
  (ao (aJ (i:=2) Z36.nd U (cr U)<|aS M G U<|aa (br PySem.F.plainAttrs_str PySem.F.slot_str_partition PySem.F.type_str_partition ee (az aM (pv 1) ai<|λ_ _=>U)<|aa (cb U bl.TO_) ae) ae)
  (ao (aJ (i:=3) Z36.nd U (cr U)<|aS M G U<|aa (br PySem.F.plainAttrs_str PySem.F.slot_str_rpartition PySem.F.type_str_rpartition qu (az aM (pv 2) ai<|λ_ _=>U)<|aa (cb U bl.BY_) ae) ae)
  (ag<|aI<|t6 g cQ G U<|aa (az aM (pv 1) ai<|λ_ _=>U)<|aa (br PySem.F.plainAttrs_str PySem.F.slot_str_split PySem.F.type_str_split ke (az aM (pv 2) ai<|λ_ _=>U)<|aa (cb U bl.BETWEEN_NAMES_) ae)<|aa (az aM (pv 3) ai<|λ_ _=>U)<|aa (az aM (pv 3) ai<|λ_ _=>U) ae)))),?_,)
 dsimp only[bh,Nz,Ny];show(let r3:TS:=_;let r2:TS:=ba _ r3;let r1:TS:=ba _ r2;ba _ r1 _ _ _);intro _ _ _;calc(U,z,CO,U,U,⋯,∅,λu R=>?_,);rw[h1];let a:upd H u (.tup [.str n,.str m,.str r]) u=Lg (.tup [.str n,.str m,.str r]):=af;let s1:=ah R<|.tup [.str n,.str m,.str r];generalize upd H u (.tup [.str n,.str m,.str r])=H1 at a s1⊢;calc(u,n,m,r,U,a,hm,W,?_,);calc(u,_,_,_,U,U,Nx a,U,U,r,AR,U,U,⋯,T,λp B=>?_,);rw[h2];let e:upd H1 p (.tup [.str j,.str t,.str y]) p=Lg (.tup [.str j,.str t,.str y]):=af;let s2:=s1.trans<|ah B<|.tup [.str j,.str t,.str y];let a:=ah B (.tup [.str j,.str t,.str y]) _ _ a;generalize upd H1 p (.tup [.str j,.str t,.str y])=H2 at a e s2⊢;calc(p,j,t,y,U,e,ht,S,?_,);calc(p,_,_,_,U,U,Nx e,U,U,y,BY,U,U,⋯,hy,λo e3=>?_,);rw[h3];let J:=ah e3<|.tup [.str d,.str b,.str k];let c:upd H2 o (.tup [.str d,.str b,.str k]) o=Lg (.tup [.str d,.str b,.str k]):=af;let L:=s2.trans J;let a:=J _ _ a;let e:=J _ _ e;generalize upd H2 o (.tup [.str d,.str b,.str k])=H3 at a e c L⊢;calc(o,d,b,k,U,c,hb,X,?_,);calc(u,_,_,_,U,U,Nx a,U,p,_,_,_,U,U,Nx e,U,U,j,mk2,U,U,⋯,hc,λl hl=>?_,);rw[hf];let u4:=ah hl<|.lst<|fs.map NE;let O:upd H3 l (.lst<|fs.map NE) l=Lg (.lst<|fs.map NE):=af;let D:=L.trans u4;let c:=u4 _ _ c;generalize upd H3 l (.lst<|fs.map NE)=H4 at O c D⊢;calc(o,_,_,_,U,U,Nx c,U,o,_,_,_,U,U,Nx c,U,λx dx N C a0=>?_,);calc(x,dx,l,n,d,k,U,af,λrl H' I R B kp=>(U,?_,),);let sN:=pT N C kp;exact q x rl H' (D.trans sN) (D.free N) (D.free<|As I) (dx,l,B,sN _ _ O,) R λa1 a2 z1 _=>by
  rw[B]at z1;cases z1;calc⟨L.free hl,λz=>by rw[←z]at I;rw[Al N C O]at I;cases I⟩
def HM(F:Fun K "refuse_names" "refuse_names" Y81 f fd)(bl:Bl K mg Y)(nO:⟨⟩ 2 "refuse_columns" ["draft","names"] (fE K Y))(fW:⟨⟩ 2 "is_word" ["text"] (fU K Y)):() 3 f fd ["facts","drafts"] (de K Y):=by
 refine F.okA Z81 λc1 A b0 s H vs Q E hr h=>?_
 let(S,R,fv,dv,fs,C,rfl,a3,J,hf,hd,rf,rd,hw,a6,ok,q):=h
 refine(_,(aw (aJ (i:=2) Z81.nd U (cr U)<|aD ph (fz (aT<|pv 0) (fu (N:=["name","domain"]) (k:=2) U U (~~~0) (~~~0)<|~~~0) U (λ_ _ _ _=>(lK (K:=K) (n:=2) U U<|aL (aG (i:=0) (show(["name","domain"]:Lw Str).Nodup by decide+kernel) U (cr U) (ul U)) (aL (aG (i:=1) (show(["name","domain"]:Lw Str).Nodup by decide+kernel) U (cr U) (ul U)) bC))) (λ_ _ _ _=>aY) (λ_ _ _ _=>(pv 0))) (bK (aT<|pv 1) (bA U (~~~0) (~~~0) (~~~0) U) U (λ_ _ _ _=>aY)<|λ_ _ _ _=>(iu (K:=K) U (pv 0) U)))
  (aw (bw v2 U (aT<|pv 2) (aG (i:=3) Z81.nd U<|cr U)
  (ag (aQ (cK<|bH<|aS fW hr U<|aa (pv 3) ae)
  (ag bj)
  aE)))
  (aw (aQ (aH lI (ar eQ U bl.len_ Lf<|aa (a9 (eP U) U bl.set_ Do<|aa (pv 2) ae) ae) (ar aq U bl.len_ Lf<|aa (pv 2) ae)<|aK _)
  (ag bj)
  aE)
  (ag (bw v2 U (aT<|pv 1) (aG (i:=4) Z81.nd U<|cr U)
  (ag<|aX<|aS nO hr U<|aa (pv 4)<|aa (pv 2) ae)))))),?_,)
 dsimp only[bh,Nz,Ny];show(let r3:TS:=_;let r2:TS:=aZ _ r3;let r1:TS:=aZ _ r2;aZ _ r1 _ _ _);intro _ _ _;let a7:⇑fv=⇑fs:=rf.1;let a8:⇑dv=C.length:=rd.1;let c0:⇑(fs.map (·.1)++C.map Dw.nm)≤50:=by rw[eH,ck,ck];lia
 let a5:⇑((fs.map (·.1)++C.map Dw.nm).map NE)=⇑(fs.map (·.1)++C.map Dw.nm):=ck _;refine(let b:St→Hp→Prop:=λo a=>ak H a∧E3 λ(m:AM)(v M:Option V)=>a m=Lg (.lst ((fs.map (·.1)++C.map Dw.nm).map NE))∧o=[↑S,↑R,↑m,v,M];(b,?_,?_,))
 .refine(S,U,(_,Nw a3,),(let b:AM→Nat→Lw V→Hp→Prop:=λD i c a=>ak H a∧a D=Lg (.lst c)∧c=((fs.take i).map (·.1)).map NE;di (xs:=fv) b (λD W=>(ah W _,af,U,)) (λD i c a W _ h=>Nw<|h.1 _ _ a3) (λD i y c a W e h Z a4=>?_) (λD c a W h=>?_)),)
  .let(j,eD,rfl):=h;let(r,f_,rfl,X,h3):=au.get rf e;let hi:i<⇑fv:=(IV.mp e).1;let(t0,t1,rfl):∃t0 t1,Z=[t0,t1]:=by
    match Z,a4 with
    | [t0,t1],_=>exact(t0,t1,U,)
   calc(r,_,U,Nx<|j _ _ h3,U,_,_,U,_,_,U,U,([Lg (.str f_.1),Lg (.str f_.2)],U,U,),?_,);refine(b7.mk ∅ eD (aC (by rw[ck,ck,fK];lia)) (j.upd W,af,?_,));rw[take_snoc X,eg,eg];rfl
  .let(j,eD,rfl):=h;rw[a7,eY]at eD;refine(R,U,(_,Nw<|j _ _ J,),(let b:AM→Nat→Lw V→Hp→Prop:=λT i c G=>ak a G∧G T=Lg (.lst c)∧c=((C.take i).map Dw.nm).map NE;bP (xs:=dv) b (λT t=>(ah t _,af,U,)) (λT i c G t _ h=>Nw<|h.1 _ _<|j _ _ J) (λT i y c G t e h=>?_) (λT c G t h=>?_)),)
   .let(O,L,rfl):=h;let(x,d,rfl,X,rl,rv,(dx,cl,g1,g2),g3,g4):=au.get rd e;let hi:i<⇑dv:=(IV.mp e).1;let sA:=j.trans O;refine(x,_,_,_,_,U,(sA _ _ g1),bl.k_Draft,bl.na_Draft_name,U,b7.mk hi L (aC (by rw[ck,ck,fK];lia)) (O.upd t,af,?_,),);rw[take_snoc X,eg,eg];rfl
   .let(O,L,rfl):=h;rw[a8,eY]at L;refine(D,T,_,_,U,U,O _ _ eD,L,ve<|aC (by simp only[ck];lia),λp hp=>((j.trans O).trans<|ah hp _,p,_,_,?_,U,),);rw[af,eg]
 rintro b9 G ⟨O,m,v,M,u,rfl⟩;refine(let b:St→Hp→Prop:=λo a=>a=G∧∃v:Option V,o=[↑S,↑R,↑m,v,M];(b,?_,?_,))
 .refine(m,U,(_,Nw u,),(let b:Nat→St→Hp→Prop:=λi B a=>a=G∧∃v:Option V,B=[↑S,↑R,↑m,v,M];bo (xs:=(fs.map (·.1)++C.map Dw.nm).map NE) b (U,_,U,) (λi B a _ h=>by rw[h.1];exact Nw u) (λi y B a e h=>?_) (λB a h=>h)),);let(e0,v,rfl):=h;rw[e0];let(z,rfl,ez):=bW e;let a0:=hw z<|IW ez;let hz:⇑z≤1000:=by
   let a1:=a0;unfold isw at a1;simp only[wF,decide_eq_true_eq]at a1;lia
  calc(z,U,hz,_,U,?_,);rw[a0];exact bF (U,_,U,)
 rintro b4 H3 ⟨e3,v,rfl⟩;rw[e3];clear e3;refine(let b:St→Hp→Prop:=λo a=>ak G a∧o=[↑S,↑R,↑m,v,M];(b,?_,?_,))
 .refine(m,_,U,Nw u,∅,λl a2=>(l,_,U,af,∅,m,_,U,.inl<|Nw<|ah a2 _ _ _ u,_,_,U,U,_,U,?_,),);let cf:=gN (fs.map (·.1)++C.map Dw.nm) ⇑(fs.map (·.1)++C.map Dw.nm)<|sT _;rw[eY]at cf;exact iw (by rw[a5,cf.mpr a6];lia) (ah a2 _,U,)
 rintro b3 H4 ⟨s4,rfl⟩;let I:=O.trans s4;calc(R,U,(_,Nw<|I _ _ J,),(let b:Nat→St→Hp→Prop:=λi B a=>ak H4 a∧∃M:Option V,B=[↑S,↑R,↑m,v,M];bo (xs:=dv) b (ak.refl _,_,U,) (λi B a _ h=>Nw<|h.1 _ _<|I _ _ J) (λi y B a e h=>?_) (λB a h=>q a<|I.trans h.1)),);let(j,M,rfl):=h;let(x,d,rfl,X,g):=au.get rd e;let sA:=I.trans j;calc(x,m,d,_,U,g.same sA,ok d<|IW X,j _ _<|s4 _ _ u,∅,λH5 s5=>(j.trans s5,_,U,),)
def HN(F:Fun K "_law_book" "_law_book" Y44 f fd)(bl:Bl K mg Y)(qy:⟨⟩ 2 "_law_domain" ["cell"] (iQ K Y))(uA:⟨⟩ 2 "_law_pool" ["domain","cell"] (km K Y))(dF:⟨⟩ 2 "_law_at" ["script","k"] (kU K Y))(jI:⟨⟩ 2 "_law_words" ["cell","count"] (gI K Y))(vU:⟨⟩ 2 "_law_row" ["columns","domains","pools","own","cell"] (l8 K Y)):() 3 f fd ["script"] (kr K Y):=by
 refine F.okA Z44 λn8 A k7 s H vs Q E hr h=>?_
 let(a,ns,rfl,hS,q):=h
 refine(_,(aw (aJ (i:=1) Z44.nd U (cr U)<|aD bT ai<|aD bI (aS dF hr U<|aa (pv 0)<|aa ai ae) ai)
  (aw (aJ (i:=2) Z44.nd U (cr U)<|aD bT (aD bT (pv 1) ai)<|aD bI (aD bU (aS dF hr U<|aa (pv 0)<|aa ai ae) ai) ai)
  (aw (aJ (i:=3) Z44.nd U (ul U)<|bK (bu U bl.range_<|aa (pv 2) ae) (bp (N:=["k","script"]) (fr:=[0]) (cl:=[("script",↥s+1)]) U U (~~~0) (~~~0) U (~~~0) U U U (fJ.mpr (U,hQ _,)) U) U (λ_ _ _ _=>aY)<|λ_ _ _ _=>(aS qy hr U<|aa (aS dF hr U<|aa (pv 1)<|aa (aD bT ai<|pv 0) ae) ae))
  (aw (jq (i:=4) Z44.nd U (cr U) (bu U bl.range_<|aa (pv 2) ae) (bp (N:=["k","script","domains"]) (fr:=[0,3]) (cl:=[("script",↥s+1),("domains",↥s+1+1)]) U U (~~~0) (~~~0) U (~~~0) U U U (fJ.mpr (U,fJ.mpr (U,hQ _,),)) U) U (λ_ _ _ _=>aY)<|λ_ _ _ _=>(aS uA hr U<|aa (az (gh (K:=K) U) (pv 2) (pv 0)<|λ_ _=>U)<|aa (aS dF hr U<|aa (pv 1)<|aa (aD bT ai<|pv 0) ae) ae))
  (aw (aJ (i:=5) Z44.nd U (cr U)<|bJ ae)
  (aw (bw v2 U (qD U bl.range_<|aa (pv 1)<|aa (pv 2) ae) (aG (i:=6) Z44.nd U<|ul U)
  (aw (aJ (i:=7) Z44.nd U (ul U)<|aS dF hr U<|aa (pv 0)<|aa (aD fP (aD bT ai<|pv 6)<|pv 1) ae)
  (aw (jq (i:=8) Z44.nd U (cr U) (bu U bl.range_<|aa (ar (iY U) U bl.min_ Ev<|aa (aD bT ai<|aD bI (pv 7) ai)<|aa (pv 6) ae) ae) (bp (N:=["j","own","cell"]) (fr:=[6,7]) (cl:=[("own",↥s+1+1+1),("cell",↥s+1+1+1+1)]) U U (~~~0) (~~~0) U (~~~0) U U U (fJ.mpr (U,fJ.mpr (U,hQ _,),)) U) U (λ_ _ _ _=>aY)<|λ_ _ _ _=>(aD bI (aD bT (aD bU (pv 2) ai)<|pv 0)<|pv 1))
  (aw (aJ (i:=9) Z44.nd U (cr U)<|az aV (bJ<|aa aN<|aa aN<|aa aN<|aa aN<|aa aN<|aa aN ae) (aD bI (aD bU (pv 7) ai) ai)<|λ_ _=>U)
  (aw (aQ (PW.pt<|iI (aH cV (pv 9) aN<|aK _)<|fX<|aH gB (ar aq U bl.len_ Lf<|aa (az aM (az aV (pv 3) (pv 6)<|λ_ _=>U) ai<|λ_ _=>U) ae) ai<|aK _)
  (ag<|aJ (i:=9) Z44.nd U (cr U) aN)
  aE)
  (ag<|aX<|br PySem.F.plainAttrs_list PySem.F.slot_list_append PySem.F.type_list_append bO (pv 5)<|aa (bz<|aa (pv 8)<|aa (pv 9)<|aa (bJ ae) ae) ae))))))
  (aw (bw v2 U (qD U bl.range_<|aa ai<|aa (ar (iY U) U bl.min_ Ev<|aa (ar aq U bl.len_ Lf<|aa (pv 0) ae)<|aa ai ae) ae) (aG (i:=10) Z44.nd U<|cr U)
  (aw (aJ (i:=6) Z44.nd U (ul U)<|aD bT (pv 1)<|aD bI (pv 10)<|ar aq U bl.len_ Lf<|aa (pv 5) ae)
  (aw (aJ (i:=11) Z44.nd U (cr U)<|az aV (pv 5) (aD fP (pv 6)<|pv 1)<|λ_ _=>U)
  (ag<|aX<|br PySem.F.plainAttrs_list PySem.F.slot_list_append PySem.F.type_list_append bO (az aM (pv 11) ai<|λ_ _=>U)<|aa (aS vU hr U<|aa (az aM (pv 11) ai<|λ_ _=>U)<|aa (pv 3)<|aa (pv 4)<|aa (pv 6)<|aa (az aV (pv 0) (pv 10)<|λ_ _=>U) ae) ae))))
  (ag<|aI<|bz<|aa (aS jI hr U<|aa (aS dF hr U<|aa (pv 0)<|aa ai ae)<|aa (pv 2) ae)<|aa (pv 3)<|aa (pv 5) ae)))))))),?_,)
 dsimp only[bh,Nz,Ny];show(let r7:TS:=_;let r6:TS:=aZ _ r7;let r5:TS:=aZ _ r6;let r4:TS:=aZ _ r5;let r3:TS:=aZ _ r4;let r2:TS:=aZ _ r3;let r1:TS:=aZ _ r2;aZ _ r1 _ _ _);intro _ _ _ _ _ _ _;refine(let I:St→Hp→Prop:=λn v=>v=H∧∃C:Nat,A3 (1≤C) (C≤3) (n=[↑a,Lg<|.int (C:Int),Lh,Lh,Lh,Lh,Lh,Lh,Lh,Lh,Lh,Lh]);(I,(a,ns,0,U,hS,pp _,λr=>(_,_,U,U,(by show(0:Int)<3;decide),_,_,U,U,U,(1+r%3).toNat,?_,?_,?_,),),?_,))
 .let:=wg r (show(3:Int)≠0 by decide);lia
 .let:=wh r (show(0:Int)<3 by decide);lia
 .rw[wA (by have:=wg r (show(3:Int)≠0 by decide);lia)];rfl
 rintro n0 H1 ⟨rfl,C,j4,n7,rfl⟩;refine(let I:St→Hp→Prop:=λn v=>v=H1∧∃S:Nat,A3 (C<S) (S≤C+4) (n=[↑a,Lg<|.int (C:Int),Lg<|.int (S:Int),Lh,Lh,Lh,Lh,Lh,Lh,Lh,Lh,Lh]);(I,(_,_,U,U,a,ns,0,U,hS,pp _,λr=>(_,_,U,U,(⋯,⋯,),_,_,U,U,(by show(0:Int)<4;decide),_,_,U,U,U,((C:Int)+1+r / 3%4).toNat,?_,?_,?_,),),?_,))
 .let:=wg (r / 3) (show(4:Int)≠0 by decide);lia
 .let:=wh (r / 3) (show(0:Int)<4 by decide);lia
 .rw[wA (by have:=wg (r / 3) (show(4:Int)≠0 by decide);lia)];rfl
 rintro m2 H2 ⟨rfl,S,n4,n3,rfl⟩;refine(let I:St→Hp→Prop:=λn v=>ak H2 v∧E3 λ(X:AM)(dv:Lw V)(R:Lw PD)=>A5 (v X=Lg (.lst dv)) (au dv R<|PDA NT v) (R.length=S) (∀p∈R,jv p)<|n=[↑a,Lg<|.int (C:Int),Lg<|.int (S:Int),↑X,Lh,Lh,Lh,Lh,Lh,Lh,Lh,Lh];(I,?_,?_,))
 .refine⟨_,U,∅,∅,(let I:AM→Nat→Lw V→Hp→Prop:=λD i L v=>ak H2 v∧v D=Lg (.lst L)∧∃R:Lw PD,au L R (PDA (· ≠ D) v)∧R.length=i∧∀p∈R,jv p;bL I (λD hD=>⟨ah hD _,af,[],au.nil,U,(λp hp=>by cases hp)⟩) (λD i L v hD hi Z=>?_) (λD L v hD Z=>?_))⟩
  .let(T,eD,R,hz,hl,d4):=Z;refine(_,_,U,U,a,ns,_,U,T.seq hS,(by show 0≤2+(0+(i:Int));lia),λr=>(r,U,λl p H3 s3 hp ok=>?_,),);let g7:=s3 _ _ eD;let i9:PDA (· ≠ D) H3 l p:=hp.wk λx hx z=>by rw[z,eD]at hx;cases hx
   let d2:au (L++[.ref l]) (R++[p]) (PDA (· ≠ D) H3):=au.snoc (au.mono hz λ_ _ p=>p.same s3) i9;refine b7.mk hi g7 (aC (by have:=hz.1;lia)) ((T.trans s3).upd hD,af,R++[p],au.mono d2 λ_ _ p=>p.updN (λz=>z U) g7,by rw[eH,hl];rfl,λp' b0=>?_,);rcases eA.mp b0 with b0 | b0
   .exact d4 p' b0
   .rw[show p'=p by simpa using b0];exact ok
  .let(T,eD,R,hz,hl,d4):=Z;rw[wi]at hl;exact(T,D,L,R,eD,au.mono hz<|λ_ _ p=>p.wk λ_ _=>trivial,hl,d4,U,)
 rintro m0 H3 ⟨s3,X,dv,R,c3,c2,f8,Fq,rfl⟩;refine(let I:St→Hp→Prop:=λn v=>ak H3 v∧E2 λ(po:AM)(c0:Lw V)=>A3 (v po=Lg (.lst c0)) (au c0 R<|PoA NT v)<|n=[↑a,Lg<|.int (C:Int),Lg<|.int (S:Int),↑X,↑po,Lh,Lh,Lh,Lh,Lh,Lh,Lh];(I,?_,?_,))
 .refine(_,U,∅,∅,(let I:AM→Nat→Lw V→Hp→Prop:=λD i L v=>ak H3 v∧v D=Lg (.lst L)∧au L (R.take i) (PoA (· ≠ D) v);bL I (λD hD=>(ah hD _,af,au.nil,)) (λD i L v hD hi Z=>?_) (λD L v hD Z=>?_)),)
  .let(T,eD,hz):=Z;rw[wi]at hi;let ep:=IU (l:=R) (i:=i) ∅;let(da,e2,a8):=c2.2 i _ ep;generalize R[i]=p at ep a8;let ix:atI dv (0+(i:Int))=↑da:=by rw[wj];exact aU e2
   refine(X,_,_,_,U,U,Nw<|T _ _ c3,ix,_,_,U,U,a,ns,_,U,(s3.trans T).seq hS,(by show 0≤9+(0+(i:Int));lia),λr=>(da,p,r,U,a8.same T,Fq p<|IW ep,λl xs H4 s4 nl el hl hx=>?_,),);let k5:=s4 _ _ eD;let nD:l≠D:=λz=>by rw[z,eD]at nl;cases nl
   let d2:au (L++[.ref l]) (R.take i++[p]) (PoA (· ≠ D) H4):=au.snoc (au.mono hz λ_ _ p=>p.same s4) (nD,xs,el,hl,hx,);refine b7.mk (by rw[wi];exact hi) k5 (aC (by have:=hz.1;rw[fK]at this;lia)) ((T.trans s4).upd hD,af,?_,);rw[take_snoc ep];exact au.mono d2 λ_ _ p=>p.updN λz=>z U
  .let(T,eD,hz):=Z;rw[wi,←f8,eY]at hz;exact(T,D,L,eD,au.mono hz<|λ_ _ p=>p.any,U,)
 rintro l4 H4 ⟨s4,po,c0,k2,i2,rfl⟩;let a1:=s3.trans s4;refine(let I:St→Hp→Prop:=λn v=>ak H4 v∧∃G:AM,A3 (H4 G=Lh) (v G=Lg (.lst [])) (n=[↑a,Lg<|.int (C:Int),Lg<|.int (S:Int),↑X,↑po,↑G,Lh,Lh,Lh,Lh,Lh,Lh]);(I,((by show 0≤A8;decide),λl hl=>(ah hl _,l,hl,af,U,),),?_,));rintro l3 H5 ⟨s5,G,h6,k0,rfl⟩;let n1:=a1.trans s5;refine(let I:St→Hp→Prop:=λn v=>ak H4 v∧E6 λ(W:Lw V)(d:Lw ((Lw Nat×Str)×AM))(c6 c7 c8 c9:Option V)=>A7 (v G=Lg (.lst W)) (au W d<|TT<|hideL v (G :: rls d)) (⇑d=S-C) ((rls d).Nodup) (∀x∈rls d,H4 x=Lh∧x≠G∧v x=Lg (.lst [])) (∀(j:Nat)(t:(Lw Nat×Str)×AM),d[j]?=Lg t→DD C R j t.1)<|n=[↑a,Lg<|.int (C:Int),Lg<|.int (S:Int),↑X,↑po,↑G,c6,c7,c8,c9,Lh,Lh];(I,?_,?_,))
 .refine⟨_,_,U,(∅,∅,∅,∅,),(let I:Nat→St→Hp→Prop:=λi σ v=>ak H4 v∧E6 λ(W:Lw V)(d:Lw ((Lw Nat×Str)×AM))(c6 c7 c8 c9:Option V)=>A7 (v G=Lg (.lst W)) (au W d<|TT<|hideL v (G :: rls d)) (⇑d=i) ((rls d).Nodup) (∀x∈rls d,H4 x=Lh∧x≠G∧v x=Lg (.lst [])) (∀(j:Nat)(t:(Lw Nat×Str)×AM),d[j]?=Lg t→DD C R j t.1)<|σ=[↑a,Lg<|.int (C:Int),Lg<|.int (S:Int),↑X,↑po,↑G,c6,c7,c8,c9,Lh,Lh];gL I (s5,[],[],_,_,_,_,k0,au.nil,U,ny,(λx hx=>by cases hx),(λj t e=>by simp at e),U,) (λi σ v hi Z=>?_) (λσ v Z=>?_))⟩
  .let(T,W,d,c6,c7,c8,c9,a4,a7,f5,d5,a3,B8,rfl):=Z;let j2:i<S-C:=∅
   let(ow,j0):∃ow:Nat,(C:Int)+(i:Int)=(ow:Int):=(C+i,∅,);let IJ:ow=C+i:=∅
   rw[j0];refine(let I:St→Hp→Prop:=λn J=>J=v∧∃c:Int,n=[↑a,Lg<|.int (C:Int),Lg<|.int (S:Int),↑X,↑po,↑G,Lg<|.int (ow:Int),Lg<|.int c,c8,c9,Lh,Lh];(I,(_,_,U,U,_,_,U,U,a,ns,_,U,(a1.trans T).seq hS,(by show 0≤16+(ow:Int)-(C:Int);lia),λr=>(U,r,U,),),?_,));rintro g9 Ha ⟨rfl,c,rfl⟩;let(m,em,m1,m3,mo):=Bz (c:=c) (ow:=ow) ∅;refine(let I:St→Hp→Prop:=λn J=>ak Ha J∧∃cl:AM,A3 (Ha cl=Lh) (J cl=Lg (.lst<|vN<|clm c ow m)) (n=[↑a,Lg<|.int (C:Int),Lg<|.int (S:Int),↑X,↑po,↑G,Lg<|.int (ow:Int),Lg<|.int c,↑cl,c9,Lh,Lh]);(I,?_,?_,))
   .refine(_,_,U,U,(by show(0:Int)<3;decide),_,_,U,U,_,_,U,_,U,(by rw[em];lia),(by rw[em];lia),(let I:AM→Nat→Lw V→Hp→Prop:=λD i L J=>ak Ha J∧J D=Lg (.lst L)∧L=vN (clm c ow i);bL I (λD hD=>(ah hD _,af,U,)) (λD i L J hD hi Z=>?_) (λD L J hD Z=>?_)),)
    .let(c4,eD,rfl):=Z;rw[em,wi]at hi;let v0:=wg (c / 3+(0+(i:Int))) (show(ow:Int)≠0 by lia);refine(_,_,U,U,(⋯,⋯,),_,_,U,U,_,_,U,U,(by show(0:Int)<(ow:Int);lia),b7.mk (by rw[em,wi];exact hi) eD (aC (by rw[kh,sk];lia)) (c4.upd hD,af,?_,),);rw[zU,wA v0]
    .let(c4,eD,rfl):=Z;rw[em,wi]at eD;exact(c4,D,hD,eD,U,)
   rintro g8 Hb ⟨sb,cl,f3,g6,rfl⟩;refine(let I:St→Hp→Prop:=λn J=>ak Hb J∧∃wy:Str,wy∈six∧n=[↑a,Lg<|.int (C:Int),Lg<|.int (S:Int),↑X,↑po,↑G,Lg<|.int (ow:Int),Lg<|.int c,↑cl,Lg<|.str wy,Lh,Lh];(I,?_,?_,))
   .refine((by show 6≤A8;decide),λp6 i8=>?_,);let w0:=wg (c / 50) (show(6:Int)≠0 by decide);let w1:=wh (c / 50) (show(0:Int)<6 by decide);let(k,ek):∃k:Nat,c / 50%6=(k:Int):=(_,(wA w0).symm,);let hk:k<⇑six:=by show k<6;lia
    let e6:=IU hk;let ex:atI [NE s!"first",.str s!"only",.str s!"like",.str s!"low",.str s!"high",.str s!"sum"] (c / 50%6)=Lg (.str six[k]):=by
     rw[ek];exact aU (xs:=six.map NE) (by rw[dV,e6];rfl)
    exact(_,_,U,U,(⋯,⋯,),_,_,U,U,(by show(0:Int)<6;decide),p6,_,_,_,U,U,Nw af,ex,ah i8 _,_,IW e6,U,)
   rintro l0 Hc ⟨sc,e4,f4,rfl⟩;let b4:=sb.trans sc;let ep:=IU (l:=R) (i:=ow) ∅;let(da,e2,a8):=c2.2 ow _ ep;generalize R[ow]=p at ep a8;let e8:=(s4.trans T).trans b4;let(wl,_,_,f1,f2):=a8.same e8;refine(let I:St→Hp→Prop:=λn J=>J=Hc∧∃wy:Str,A3 (wy∈six) (wy=s!"sum" → p.ws=[]) (n=[↑a,Lg<|.int (C:Int),Lg<|.int (S:Int),↑X,↑po,↑G,Lg<|.int (ow:Int),Lg<|.int c,↑cl,Lg<|.str wy,Lh,Lh]);(I,?_,?_,))
   .refine(U,_,U,?_,);refine bR (λg=>?_)<|λg=>?_
    .refine(X,_,_,_,U,U,Nw<|e8 _ _ c3,aU e2,da,_,_,_,U,U,Nx f1,U,wl,_,U,.inl<|Nw f2,_,_,U,U,_,U,?_,);refine bR (λg2=>?_)<|λg2=>?_
     .exact(U,s!"high",by unfold six;simp,(λz=>Lp z<|~~~0),U,)
     .refine(U,e4,f4,λ_=>?_,U,);let:¬ ((0:Int)<((⇑(p.ws.map NE):Nat):Int)):=λh=>g2<|Lq h
      rw[ck]at this;exact iv.mp ∅
    .refine(U,e4,f4,λz=>Lp ?_ g,U,);rw[z];exact Lq U
   rintro k9 Hd ⟨rfl,wy,i1,D1,rfl⟩;let j9:=b4 _ _ a4;refine(.inl (U,_,Nw j9,),(by show 0≤A8;decide),λx hx=>?_,);let u1:=ah hx<|.lst [];let ex:upd Hd x (.lst []) x=Lg (.lst []):=af;generalize upd Hd x (.lst [])=He at u1 ex⊢;refine((by show 3≤A8;decide),λr hr=>?_,);let u2:=ah hr<|.tup [.ref cl,.str wy,.ref x];let er:upd He r (.tup [.ref cl,.str wy,.ref x]) r=Lg (.tup [.ref cl,.str wy,.ref x]):=af;generalize upd He r (.tup [.ref cl,.str wy,.ref x])=Hf at u2 er⊢;let a6:=(b4.trans u1).trans u2;let j8:=a6 _ _ a4;refine(G,_,_,U,U,j8,aC (by have:=a7.1;lia),?_,);let a2:Ha x=none:=b4.free hx;let h5:H4 x=none:=T.free a2;let e9:x≠G:=λz=>by rw[z,a4]at a2;cases a2
   let k6:cl≠x:=λz=>by rw[←z,sc _ _ g6]at hx;cases hx
   let d0:∀b∈G :: rls d,∃L,Ha b=Lg (.lst L):=λb hb=>by
    rcases dy.mp hb with rfl|hb
    .exact(_,a4,)
    .exact(_,(a3 b hb).2.2,)
   let Fs:cl ∉ G :: rls d:=λhm=>by let(L,e):=d0 cl hm;rw[e]at f3;cases f3
   let h4:x ∉ G :: rls d:=λhm=>by let(L,e):=d0 x hm;rw[e]at a2;cases a2
   let f0:r ∉ G :: rls d:=λhm=>by let(L,e):=d0 r hm;let:=a6 _ _ e;rw[er]at this;cases this
   let h8:r≠x:=λz=>by have:=u2 _ _ ex;rw[←z,er]at this;cases this
   let eF:rls (d++[((clm c ow m,wy),x)])=rls d++[x]:=zV ..;let d1:∀b,b ∉ G :: rls d→b≠x→b ∉ G :: (rls d++[x]):=λb h1 h2 hm=>by
    rcases dy.mp hm with z|hm
    .exact h1 (by rw[z];exact gs)
    .rcases eA.mp hm with hm|hm
     .exact h1<|fj _ hm
     .exact h2<|~~~hm
   let gr:ak (hideL Ha (G :: rls d)) (hideL (upd Hf G<|.lst<|W++[.ref r]) (G :: (rls d++[x]))):=nu λb o hb e=>by
    refine((ay λz=>hb (by rw[z];exact gs)).trans (a6 _ _ e),d1 b hb λz=>?_,);rw[z,a2]at e;cases e
   let hT:TT (hideL (upd Hf G<|.lst<|W++[.ref r]) (G :: (rls d++[x]))) r ((clm c ow m,wy),x):=by
    refine(cl,cI ((ay λz=>f0 (by rw[z];exact gs)).trans er) (d1 r f0 h8),cI ((ay λz=>Fs (by rw[z];exact gs)).trans (u2 _ _<|u1 _ _<|sc _ _ g6)) (d1 cl Fs k6),)
   refine((T.trans a6).upd h6,W++[.ref r],d++[((clm c ow m,wy),x)],_,_,_,_,af,?_,by rw[eH,f5];rfl,?_,λy hy=>?_,λj t e=>?_,U,)
   .rw[eF];exact au.snoc (au.mono a7 λ_ _ p=>p.same gr) hT
   .rw[eF];refine nX.mpr (d5,by simp,λy hy z hz=>?_,);rw[show z=x by simpa using hz];exact λe=>h4 (by rw[←e];exact fj _ hy)
   .rw[eF]at hy;rcases eA.mp hy with hy|hy
    .let(y1,y2,y3):=a3 y hy;exact(y1,y2,(ay y2).trans<|a6 _ _ y3,)
    .rw[show y=x by simpa using hy];exact(h5,e9,(ay e9).trans<|u2 _ _ ex,)
   .by_cases hj:j<⇑d
    .rw[gi hj]at e;exact B8 j t e
    .let j1:j=⇑d:=by have:=(IV.mp e).1;simp at this;lia
     subst j1;simp at e;subst e;let eo:C+⇑d=ow:=∅
     refine(by show 1≤⇑(clm c ow m);rw[sk];exact m1,by show⇑(clm c ow m)≤3;rw[sk];exact m3,λk hk=>?_,DF ∅ mo,i1,λz p' g5=>?_,)
     .rw[eo];exact DE ∅ k hk
     .rw[eo,ep]at g5;cases g5;exact D1 z
  .let(T,W,d,c6,c7,c8,c9,r):=Z;rw[show((S:Int)-(C:Int)).toNat=S-C by lia]at r;exact(T,W,d,c6,c7,c8,c9,r,)
 rintro l2 H6 ⟨s6,W,d,c6,c7,c8,c9,a4,a7,f5,d5,a3,B8,rfl⟩;let g0:∀x∈rls d,H4 x=none:=λx hx=>(a3 x hx).1
 let d7:ak H4 (hideL H6<|rls d):=vC s6 g0;let h7:G ∉ rls d:=λhm=>(a3 G hm).2.1 U
 let e0:hideL H6 (rls d) G=Lg (.lst W):=cI a4 h7;let d3:au W d (TT<|hideL H6<|rls d):=au.mono a7 λ_ _ p=>p.same<|nu λb o hb e=>(e,λhm=>hb<|fj _ hm,)
 generalize hB:hideL H6 (rls d)=B at d7 e0 d3;let n5:1≤⇑d:=∅
 let HP:W.length=⇑d:=a7.1;refine(let I:St→Hp→Prop:=λn v=>ak H4 v∧ak B (hideL v<|rls d)∧E7 λ(O:Lw (Lw Rw))(c6 c7 c8 c9 a5 a0:Option V)=>RwI v (rls d) C R d O 120∧n=[↑a,Lg<|.int (C:Int),Lg<|.int (S:Int),↑X,↑po,↑G,c6,c7,c8,c9,a5,a0];(I,?_,?_,))
 .let(mx,e3,IK,IL):∃mx:Int,(if (122:Int)<((⇑(ns.map pi):Nat):Int) then(122:Int) else((⇑(ns.map pi):Nat):Int))=mx∧mx≤122∧mx≤(⇑ns:Int):=by
   calc(_,U,?_,?_,) <;> rw[ck] <;> split <;> lia
  let IM:0≤mx:=by rw[←e3];split <;> lia
  refine(a,_,U,.inl<|(a1.trans s6).seq hS,_,_,U,_,_,U,(by rw[e3];exact(⋯,⋯,∅,∅,)),?_,);rw[e3];refine(let I:Nat→St→Hp→Prop:=λi σ v=>ak H4 v∧ak B (hideL v<|rls d)∧E7 λ(O:Lw (Lw Rw))(c6 c7 c8 c9 a5 a0:Option V)=>RwI v (rls d) C R d O i∧σ=[↑a,Lg<|.int (C:Int),Lg<|.int (S:Int),↑X,↑po,↑G,c6,c7,c8,c9,a5,a0];gL I (s6,by rw[hB];exact ak.refl B,py ⇑d [],_,_,_,_,_,_,(by rw[jZ],λj t rs e1 e2=>?_,),U,) (λi σ v hi Z=>?_) (λσ v Z=>?_))
  .rw[ly]at e2;split at e2
   .cases e2;exact(([],(a3 t.2<|oX e1).2.2,au.nil,),(λw hw=>by cases hw),uk _,)
   .cases e2
  .let(T,sB,O,c6,c7,c8,c9,a5,a0,M,rfl):=Z;let j2:i<(mx-2).toNat:=hi;let Ft:=dU _ _ _ _<|sB _ _ e0;let vm:(0:Int)<((W.length:Nat):Int):=∅
   let(jj,k4):∃jj:Nat,(2+(i:Int))%((W.length:Nat):Int)=(jj:Int):=(_,(wA<|wg _<|Mw vm).symm,);let f7:jj<⇑d:=by have:=wh (2+(i:Int)) vm;lia
   let et:=IU f7;let(r,er,hT):=d3.2 jj _ et;let(rs,g4):∃rs,O[jj]?=Lg rs:=(_,IU (by rw[M.1];exact f7),);generalize d[jj]=t at et hT;let j5:=(hT.same sB).same<|dU _ _;let(cl,g1,g2):=j5;let((L,ez,c1),IP,k8):=M.2 jj t rs et g4;let tok:=B8 jj t et;refine(let I:St→Hp→Prop:=λn J=>J=v∧n=[↑a,Lg<|.int (C:Int),Lg<|.int (S:Int),↑X,↑po,↑G,Lg<|.int ((C+jj:Nat):Int),c7,c8,c9,Lg<|.int<|2+(i:Int),a0];(I,(G,_,U,.inl<|Nw Ft,_,_,U,U,vm,_,_,U,U,U,?_,),?_,))
   .rw[show((C+jj:Nat):Int)=(C:Int)+(2+(i:Int))%((W.length:Nat):Int) by rw[k4];lia];rfl
   rintro g9 Ha ⟨rfl,rfl⟩;let ix:atI W (((C+jj:Nat):Int)-(C:Int))=↑r:=by
    rw[show((C+jj:Nat):Int)-(C:Int)=(jj:Int) by lia];exact aU er
   calc(let I:St→Hp→Prop:=λn J=>J=Ha∧n=[↑a,Lg<|.int (C:Int),Lg<|.int (S:Int),↑X,↑po,↑G,Lg<|.int ((C+jj:Nat):Int),c7,c8,c9,Lg<|.int<|2+(i:Int),↑r];(I,(_,_,U,U,G,_,_,_,U,U,Nw Ft,ix,U,U,),?_,));rintro g8 Hb ⟨rfl,rfl⟩;let b9:=d7.trans<|sB.trans<|dU _ _;let hk:2+i<⇑ns:=∅
   let es:=IU hk;let h9:atI (ns.map pi) (2+(i:Int))=Lg (.int ns[2+i]):=by
    rw[show 2+(i:Int)=((2+i:Nat):Int) by lia];exact aU (by rw[dV,es];rfl)
   refine(r,_,_,_,U,U,Nx g1,U,.inl (U,_,Nw ez,),r,_,_,_,U,U,Nx g1,U,a,_,_,_,U,U,(a1.trans T).seq hS,h9,cl,X,po,C+jj,_,t.1.1,dv,c0,R,U,g2,b9 _ _<|s4 _ _ c3,au.mono c2<|λ_ _ p=>p.same<|s4.trans b9,b9 _ _ k2,au.mono i2<|λ_ _ p=>p.same b9,(λk hk=>by have:=tok.lt k hk;lia),∅,by have:=tok.few;lia,λr2 w o3 s2 vV j3=>?_,);let j7:∀D∈rls d,∃L,Hb D=Lg (.lst L):=λD hD=>by
    let(j,ej):=ik hD;let f6:j<⇑d:=by have:=(IV.mp ej).1;unfold rls at this;rwa [ck]at this
    let g3:=IU f6;let k1:=IU (l:=O) (i:=j) (by rw[M.1];exact f6);let((h0,f1,_),_):=M.2 j _ _ g3 k1;let:=oW g3;rw[ej]at this;cases this;exact(h0,f1,)
   let Fu:=vV.hideL j7 s2;let n2:L.length=⇑rs:=c1.1;calc(t.2,_,_,U,U,s2 _ _ ez,aC ∅,(T.trans s2).upd<|g0 _<|oX et,?_,O.set jj<|rs++[w],_,_,_,_,_,_,M.grow d5 s2 et g4 ez c1 Fu j3,U,);rw[ja (oX et)];exact sB.trans<|gY s2
  .let(T,sB,O,c6,c7,c8,c9,a5,a0,M,rfl):=Z;exact(T,sB,O,_,_,_,_,_,_,(M.1,λj t rs e1 e2=>let ⟨b1,b2,b3⟩:=M.2 j t rs e1 e2;(b1,b2,∅,),),U,)
 rintro l1 H7 ⟨s7,sB,O,o2,o1,o0,n9,a5,a0,M,rfl⟩;let c5:=sB.trans<|dU H7<|rls d;let e7:=d7.trans c5;refine(a,ns,1,U,(a1.trans s7).seq hS,⋯,λc=>(c,S,U,∅,λnl H8 s8 _ k3=>((by show 3≤A8;decide),λr hr=>?_,),),);let u:=ah hr<|.tup [.ref nl,.ref X,.ref G];let sE:=s8.trans u;let e5:=e7.trans sE;refine q r (lws c S) R (nn mkT d O) C _ ((a1.trans e7).trans sE) (nl,X,G,dv,W,af,u _ _ k3,e5 _ _<|s4 _ _ c3,au.mono c2<|λ_ _ p=>p.same<|s4.trans e5,sE _ _<|c5 _ _ e0,?_,) ((λz hz=>wY hz),rg ∅,by rw[kQ,f8],∅,?_,?_,Fq,λj t e=>?_,) j4 zZ DH Aa (by rw[kQ];lia)
 .refine(by rw[lu,M.1,HP];lia,λj t e=>?_,);rw[oB]at e;cases e1:d[j]? with
  |none=>rw[e1]at e;cases e
  |some t0 =>
   cases e2:O[j]? with
   |none=>rw[e1,e2]at e;cases e
   |some rs =>
    rw[e1,e2]at e;let e:Lg (mkT t0 rs)=Lg t:=e;cases e;let(r',er,hT):=d3.2 j _ e1;let((L,ez,c1),_):=M.2 j _ _ e1 e2;let(cl,g1,g2):=hT.same c5;exact(r',er,cl,t0.2,L,sE _ _ g1,sE _ _ g2,sE _ _ ez,(c1.same<|dU _ _).same sE,)
 .rw[lu,M.1];lia
 .rw[lu,M.1];lia
 .rw[oB]at e;cases e1:d[j]? with
  |none=>rw[e1]at e;cases e
  |some t0 =>
   cases e2:O[j]? with
   |none=>rw[e1,e2]at e;cases e
   |some rs =>
    rw[e1,e2]at e;let e:Lg (mkT t0 rs)=Lg t:=e;cases e;let(_,h2,h3):=M.2 j _ _ e1 e2;calc(B8 j t0 e1,h2,by show ⇑rs≤200;lia,)
def HQ(F:Fun K "_law_when" "_law_when" Y60 f fd)(bl:Bl K mg Y)(sX:⟨⟩ 2 "_law_field" ["domain","spans"] (jC K Y))(sY:⟨⟩ 2 "_law_value" ["domain","code"] (jz K Y)):() 3 f fd ["plan","k","row"] (ku K Y):=by
 refine F.okA Z60 λc9 A b4 s H vs Q E hr h=>?_
 let(r,G,k,zs,u,ts,fN,t,po,w,rfl,a7,ok,et,C,(ce,cv,f1,_,f2,f3),hw,q):=h
 refine(_,(aw (m4 (pv 0)<|fb U<|aL (aG (i:=3) Z60.nd U<|cr U)<|aL (aG (i:=4) Z60.nd U<|ul U)<|aL (aG (i:=5) Z60.nd U<|cr U) bC)
  (aw (aJ (i:=6) Z60.nd U (ul U)<|az aM (az aV (pv 5) (pv 1)<|λ_ _=>U) ai<|λ_ _=>U)
  (aw (jq (i:=7) Z60.nd U (cr U) (bu U bl.range_<|aa (ar aq U bl.len_ Lf<|aa (pv 6) ae) ae) (bp (N:=["j","row","domains","columns"]) (fr:=[2,4,6]) (cl:=[("row",↥s+1),("domains",↥s+1+1),("columns",↥s+1+1+1)]) U U (~~~0) (~~~0) U (~~~0) U U U (fJ.mpr (U,fJ.mpr (U,fJ.mpr (U,hQ _,),),)) U) U (λ_ _ _ _=>aY)<|λ_ _ _ _=>(aS sX hr U<|aa (az (gh (K:=K) U) (pv 2) (az (gh (K:=K) U) (pv 3) (pv 0)<|λ_ _=>U)<|λ_ _=>U)<|aa (az (gh (K:=K) U) (az (oQ (K:=K) U) (pv 1) ai<|λ_ _=>U) (pv 0)<|λ_ _=>U) ae))
  (aw (aJ (i:=8) Z60.nd U (cr U)<|aD bT (aD fP (ar aq U bl.len_ Lf<|aa (pv 3) ae)<|ar aq U bl.len_ Lf<|aa (pv 5) ae)<|pv 1)
  (ag<|aI<|aD aP (aD aP (aD aP aN<|br PySem.F.plainAttrs_str PySem.F.slot_str_join PySem.F.type_str_join fY aN<|aa (pv 7) ae) aN)<|aS sY hr U<|aa (az aV (pv 4) (pv 8)<|λ_ _=>U)<|aa (az aM (pv 2) ai<|λ_ _=>U) ae))))),?_,)
 dsimp only[bh,Nz,Ny];show(let r4:TS:=_;let r3:TS:=aZ _ r4;let r2:TS:=aZ _ r3;let r1:TS:=aZ _ r2;aZ _ r1 _ _ _);intro _ _ _ _;let(L,J,d,dv,tv,er,b0,a0,T,X,R):=id a7;let(ta,a8,cl,rl,rx,g1,g2,g3,g4):=R.2 k t et;let c3:⇑(zs.map NE)=⇑zs:=ck _;let c7:=ok.len;let c6:=ok.tab;let c5:⇑tv=⇑ts:=R.1;let tok:=ok.tabs k t et;let S:=ok.lt et;let c8:⇑t.cols≤3:=tok.ok.few;let x:⇑(vN t.cols)=⇑t.cols:=kh _;let W:=tok.rows w hw;let c4:⇑w.1=⇑t.cols:=W.len;let IQ:⇑cv=⇑w.1:=f3.1;let O:=ok.doms po<|IW C;let n8:=ok.cells et hw;let a2:∀j∈t.cols,j<⇑(u.map PD.k):=λj e=>by rw[ck];exact S j e
 let gk:=cz (os:=t.cols) (xs:=u.map PD.k) a2;let lz:=zY (ks:=prm t.cols<|u.map PD.k) (pss:=w.1) ∅ n8;let lz:⇑(kt s!" | " (nn bg (prm t.cols<|u.map PD.k) w.1))≤7254:=lz;let xq:=W.code po C;let lv:=zX O xq.1 xq.2;calc(let v:St→Hp→Prop:=λa b=>b=H∧a=[↑r,Lg<|.int (k:Int),↑G,↑L,↑J,↑d,Lh,Lh,Lh];(v,(r,_,U,Nx er,U,_,_,U,_,_,U,_,_,U,U,U,U,),?_,));rintro c2 H1 ⟨rfl,rfl⟩;calc(let v:St→Hp→Prop:=λa b=>b=H1∧a=[↑r,Lg<|.int (k:Int),↑G,↑L,↑J,↑d,↑cl,Lh,Lh];(v,(d,_,_,_,U,U,Nw X,aU a8,ta,_,_,_,U,U,Nx g1,U,U,U,),?_,));rintro c1 H2 ⟨rfl,rfl⟩;refine(let v:St→Hp→Prop:=λa b=>ak H2 b∧∃M:AM,b M=Lg (.lst<|(nn bg (prm t.cols<|u.map PD.k) w.1).map NE)∧a=[↑r,Lg<|.int (k:Int),↑G,↑L,↑J,↑d,↑cl,↑M,Lh];(v,?_,?_,))
 .refine(cl,_,U,.inl<|Nw g2,_,U,∅,∅,(let v:AM→Nat→Lw V→Hp→Prop:=λD i ys b=>ak H2 b∧b D=Lg (.lst ys)∧ys=(nn bg ((prm t.cols<|u.map PD.k).take i)<|w.1.take i).map NE;bL v (λD hD=>(ah hD _,af,U,)) (λD i ys b hD hi h=>?_) (λD ys b hD h=>?_)),)
  .let(g,eD,rfl):=h;rw[wi,x]at hi;let ec:=IU hi;generalize t.cols[i]=c at ec;let(pd,ed):∃pd,u[c]?=Lg pd:=(_,IU<|S _<|IW ec,);let(da,e2,y):=T.2 c _ ed;let a1:=ok.doms _<|IW ed;let B:=IU (l:=w.1) (i:=i) ∅;let(l,el,_,yl,I,a5):=f3.2 i _ B;let Z:(prm t.cols<|u.map PD.k)[i]?=Lg pd.k:=by rw[gk.2 i c ec,dV,ed];rfl
   let a6:=n8 i _ _ Z B;let a4:atI (vN t.cols) (0+(i:Int))=Lg (.int (c:Int)):=by rw[wj];exact aU<|zL ec
   let a3:atI cv (0+(i:Int))=↑l:=by rw[wj];exact aU el
   refine(cl,_,_,_,U,U,Nw<|g _ _ g2,a4,J,_,_,_,U,U,Nw<|g _ _ a0,aU e2,G,_,_,_,U,U,Nx<|g _ _ f1,U,ce,_,_,_,U,U,Nw<|g _ _ f2,a3,da,l,_,yl,_,U,y.same g,a1,g _ _ I,a5.mono g.tups,a6,λH3 o=>b7.mk (by rw[wi,x];exact hi) (o _ _ eD) (aC (by simp;lia)) ((g.trans o).upd hD,af,?_,),);rw[take_snoc Z,take_snoc B,List.zipWith_append (by rw[fK,fK,gk.1];lia),eg];rfl
  .let(g,eD,rfl):=h;rw[wi,x,oy (by rw[gk.1];exact sT _),oy ∅]at eD;exact(g,D,eD,U,)
 rintro c0 H3 ⟨o,M,b3,rfl⟩;refine(let v:St→Hp→Prop:=λa b=>b=H3∧a=[↑r,Lg<|.int (k:Int),↑G,↑L,↑J,↑d,↑cl,↑M,Lg (.int ((fN+k:Nat):Int))];(v,(L,_,U,.inl<|Nw<|o _ _ b0,d,_,U,.inl<|Nw<|o _ _ X,_,_,U,U,_,_,U,U,U,?_,),?_,))
 .rw[show((fN+k:Nat):Int)=((⇑(zs.map NE):Nat):Int)-((⇑tv:Nat):Int)+(k:Int) by lia];rfl
 rintro b9 H4 ⟨rfl,rfl⟩;let(da,e2,y):=T.2 (fN+k) po C;let:=q H4 o;unfold kY at this;refine(U,_,M,_,U,U,Nw b3,(~~~0),iA (m:=1206) (n:=6) (λz hz=>?_) (by rw[lu];lia) ⋯,_,_,U,U,nE (by rw[sv];lia),_,_,U,U,nE (by rw[aW,sv,yf];lia),J,_,_,_,U,U,Nw<|o _ _ a0,aU e2,G,_,_,_,U,U,Nx<|o _ _ f1,U,da,po,w.2,U,y.same o,O,xq.1,xq.2,_,_,U,U,nE (by rw[aW,aW,sv,yf];lia),this,);let(j,e):=ik hz;rw[oB]at e;cases I:(prm t.cols<|u.map PD.k)[j]? with
 |none=>rw[I]at e;cases e
 |some kk =>
  cases e4:w.1[j]? with
  |none=>rw[I,e4]at e;cases e
  |some p =>
   rw[I,e4]at e;let e:Lg (bg kk p)=Lg z:=e;cases e;calc lY<|n8 j kk p I e4
def HR(F:Fun K "_law_same_book" "_law_same_book" Y55 f fd)(bl:Bl K mg Y)(mW:⟨⟩ 2 "_law_same_table" ["found","plan","k"] (fG K Y))(dz:⟨⟩ 2 "_law_same_domain" ["found","domain"] (dr K Y)):() 3 f fd ["found","plan","order"] (fV K Y):=by
 refine F.okA Z55 λd1 A b4 s H vs Q E hr h=>?_
 let(x,r,m,j,B,C,e,os,rfl,L,ok,v,J,d0,hB,q):=h
 refine(_,(aw (m4 (pv 1)<|fb U<|aL (aG (i:=3) Z55.nd U<|cr U)<|aL (aG (i:=4) Z55.nd U<|cr U)<|aL (aG (i:=5) Z55.nd U<|cr U) bC)
  (aw (aJ (i:=6) Z55.nd U (cr U)<|aD fP (ar aq U bl.len_ Lf<|aa (pv 3) ae)<|ar aq U bl.len_ Lf<|aa (pv 5) ae)
  (aw (aQ (PW.pt<|jT (aH iX (ar aq U bl.len_ Lf<|aa (aO (pv 0) U) ae) (pv 6)<|aK _)<|iH<|aH iX (ar aq U bl.len_ Lf<|aa (aO (pv 0) U) ae) (ar aq U bl.len_ Lf<|aa (pv 2) ae)<|aK _)
  (ag<|aI iW)
  aE)
  (aw (bw v2 U (bu U bl.range_<|aa (pv 6) ae) (aG (i:=7) Z55.nd U<|cr U)
  (ag (aQ (PW.pt<|jT (aH iX (az aM (az aV (aO (pv 0) U) (pv 7)<|λ_ _=>U) ai<|λ_ _=>U) (az aV (pv 3) (pv 7)<|λ_ _=>U)<|aK _)<|iH<|cK<|bH<|aS dz hr U<|aa (az aM (az aV (aO (pv 0) U) (pv 7)<|λ_ _=>U) ai<|λ_ _=>U)<|aa (az aV (pv 4) (pv 7)<|λ_ _=>U) ae)
  (ag<|aI iW)
  aE)))
  (aw (bw v2 U (bu U bl.range_<|aa (ar aq U bl.len_ Lf<|aa (pv 2) ae) ae) (aG (i:=7) Z55.nd U<|cr U)
  (ag (aQ (cK<|bH<|aS mW hr U<|aa (az aV (aO (pv 0) U) (pv 7)<|λ_ _=>U)<|aa (pv 1)<|aa (az aV (pv 2) (pv 7)<|λ_ _=>U) ae)
  (ag<|aI iW)
  aE)))
  (ag<|aI iW)))))),?_,)
 dsimp only[bh,Nz,Ny];show(let r5:TS:=_;let r4:TS:=aZ _ r5;let r3:TS:=aZ _ r4;let r2:TS:=aZ _ r3;let r1:TS:=aZ _ r2;aZ _ r1 _ _ _);intro _ _ _ _ _;let(n,o,c,dv,tv,er,M,b3,a7,b0,a4):=id L;let(dx,fl,bt,Z,N,fw,D,h2,X,h4,W,h6,h7):=hB;let c4:⇑(j.map NE)=⇑j:=ck _;let c9:=ok.len;let c8:=ok.tab;let c5:⇑tv=C.length:=a4.1;let I:⇑(vN os)=⇑os:=kh _;let c6:=ok.n7;let a6:⇑fw=e:=by rw[h6.1,iB]
 let gt:=cz (os:=os) (xs:=tsP j B C e) λk T=>by rw[kT];exact J k T
 let a8:N.length=⇑os:=by rw[h7.1,gt.1]
 calc(let d:St→Hp→Prop:=λa b=>b=H∧a=[↑x,↑r,↑m,↑n,↑o,↑c,Lh,Lh];(d,(r,_,U,Nx er,U,_,_,U,_,_,U,_,_,U,U,U,U,),?_,));rintro c3 H1 ⟨rfl,rfl⟩;refine(let d:St→Hp→Prop:=λa b=>b=H1∧a=[↑x,↑r,↑m,↑n,↑o,↑c,Lg<|.int (e:Int),Lh];(d,(n,_,U,.inl<|Nw M,c,_,U,.inl<|Nw b0,_,_,U,U,U,?_,),?_,))
 .rw[show((e:Nat):Int)=((⇑(j.map NE):Nat):Int)-((⇑tv:Nat):Int) by lia];rfl
 rintro c2 H2 ⟨rfl,rfl⟩;refine(let d:St→Hp→Prop:=λa b=>b=H2∧a=[↑x,↑r,↑m,↑n,↑o,↑c,Lg<|.int (e:Int),Lh];(d,?_,?_,))
 .refine(x,_,_,_,_,U,D,bl.k_Book,bl.na_Book_facts,X,Z,_,U,.inl<|Nw W,U,_,U,ka (by rw[a6]) ?_,);exact(x,_,_,_,_,U,D,bl.k_Book,bl.na_Book_tables,h2,bt,_,U,.inl<|Nw h4,m,_,U,.inl<|Nw v,U,_,U,ka (by rw[a8,I]) (U,U,),)
 rintro c1 H3 ⟨rfl,rfl⟩;refine(let d:St→Hp→Prop:=λa b=>b=H3∧∃g:Option V,a=[↑x,↑r,↑m,↑n,↑o,↑c,Lg<|.int (e:Int),g];(d,?_,?_,))
 .refine(_,U,∅,∅,(let d:Nat→St→Hp→Prop:=λi u b=>b=H3∧∃g:Option V,u=[↑x,↑r,↑m,↑n,↑o,↑c,Lg<|.int (e:Int),g];gL d (U,_,U,) (λi u b hi h=>?_) (λu b h=>h)),);let(e0,g,rfl):=h;rw[e0];rw[wi]at hi;let ez:=IU (l:=j) (i:=i) ∅;let ed:=IU (l:=B) (i:=i) ∅;generalize j[i]=z at ez;generalize B[i]=p at ed;let(da,e2,a5):=a7.2 i p ed;let(tp,e3,td,R,e5):=h6.2 i _<|pR hi ez ed;let a0:atI (j.map NE) (0+(i:Int))=Lg (.str z):=by rw[wj];exact aU<|gX ez
  let a3:atI dv (0+(i:Int))=↑da:=by rw[wj];exact aU e2
  let G:atI fw (0+(i:Int))=↑tp:=by rw[wj];exact aU e3
  calc(x,_,_,_,_,U,D,bl.k_Book,bl.na_Book_facts,X,Z,_,_,_,U,U,Nw W,G,tp,_,_,_,U,U,Nx R,U,n,_,_,_,U,U,Nw M,a0,U,_,U,ka U ?_,);exact(x,_,_,_,_,U,D,bl.k_Book,bl.na_Book_facts,X,Z,_,_,_,U,U,Nw W,G,tp,_,_,_,U,U,Nx R,U,o,_,_,_,U,U,Nw b3,a3,td,da,_,p,U,e5,a5,U,_,U,bF (U,_,U,),)
 rintro c0 H4 ⟨rfl,g,rfl⟩;refine(let d:St→Hp→Prop:=λa b=>ak H4 b∧∃g:Option V,a=[↑x,↑r,↑m,↑n,↑o,↑c,Lg<|.int (e:Int),g];(d,?_,?_,))
 .refine(m,_,U,.inl<|Nw v,_,U,∅,∅,(let d:Nat→St→Hp→Prop:=λi u b=>ak H4 b∧∃g:Option V,u=[↑x,↑r,↑m,↑n,↑o,↑c,Lg<|.int (e:Int),g];gL d (ak.refl _,_,U,) (λi u b hi h=>?_) (λu b h=>h)),);let(y,g,rfl):=h;rw[wi,I]at hi;let O:=IU hi;generalize os[i]=k at O;let T:=J k<|IW O;let et:=IU T;generalize C[k]=t at et;let eb:(prm os<|tsP j B C e)[i]?=Lg (btP j B e k t):=by rw[gt.2 i k O,sx et]
  let(ta,e3,R):=h7.2 i _ eb;let a2:atI (vN os) (0+(i:Int))=Lg (.int (k:Int)):=by rw[wj];exact aU<|zL O
  let a1:atI N (0+(i:Int))=↑ta:=by rw[wj];exact aU e3
  exact(x,_,_,_,_,U,y _ _ D,bl.k_Book,bl.na_Book_tables,h2,bt,_,_,_,U,U,Nw<|y _ _ h4,a1,m,_,_,_,U,U,Nw<|y _ _ v,a2,ta,r,k,j,B,C,e,t,U,L.same y,ok,et,R.same y,λH5 S=>(_,U,bF (y.trans S,_,U,),),)
 rintro b9 H5 ⟨S,g,rfl⟩;calc q H5 S
def HS(F:Fun K "bears" "Numbers.bears" Y15 f fd)(bl:Bl K mg Y)(i:bE CX0 P w K mg base 2 Y.r "has_code" ["self","value"] (bM K Y)):() 3 f fd ["self","value"] (cP K Y):=by
 refine F.okA Z15 λj A b s H k Q E e h=>?_
 let(a,lo,hi,v,rfl,(g,c),d,q):=h;calc(_,(ag<|aI<|tZ i cQ bl.k_Numbers e (pv 0)<|aa (pv 1) ae),?_,);calc(a,_,_,U,c,U,a,(lo,hi),v,U,(g,_,c,U,U,U,),d,q,)
def HU(F:Fun K "__init__" "Words.__init__" Y26 f fd)(bl:Bl K mg Y)(je:cU CX0 P w K mg base 2 "Domain" "__init__" ["self","low","high"] (cM K Y))(fW:⟨⟩ 2 "is_word" ["text"] (fU K Y)):() 3 f fd ["self","words"] (df K Y):=by
 refine F.okA Z26 λa2 A S s H vs Q E Z h=>?_
 let(x,g,p,a,rfl,W,J,D,q):=h
 refine(_,(ao (aQ (cK<|tL fM fM ai (ar aq U bl.len_ Lf<|aa (pv 1) ae)<|cb U bl.MOST_WORDS_)
  (ag bj)
  aE)
  (aw (bw v2 U (aT<|pv 1) (aG (i:=2) Z26.nd U<|cr U)
  (ag (aQ (cK<|bH<|aS fW Z U<|aa (pv 2) ae)
  (ag bj)
  aE)))
  (ao (aQ (aH lI (ar eQ U bl.len_ Lf<|aa (a9 (eP U) U bl.set_ Do<|aa (pv 1) ae) ae) (ar aq U bl.len_ Lf<|aa (pv 1) ae)<|aK _)
  (ag bj)
  aE)
  (ao (aX<|ir je cQ Z U<|aa (pv 0)<|aa ai<|aa (aD fP (ar aq U bl.len_ Lf<|aa (pv 1) ae) ai) ae)
  (ag<|b6 (pv 0) (a9 ft U bl.list_ wr<|aa (pv 1) ae) U))))),?_,)
 dsimp only[bh,Nz,Ny];show(let r4:TS:=_;let r3:TS:=ba _ r4;let r2:TS:=ba _ r3;let r1:TS:=aZ _ r2;ba _ r1 _ _ _);intro _ _ _ _;let r:SqL K H p (a.map NE):=Nw J;let v:p≠x:=eB J W (by intro z;cases z);let c:⇑(a.map NE)=⇑a:=ck _;let h1:=D.some_;let a1:=D.few;refine(p,_,U,.inl r,_,_,U,U,_,U,qW (by rw[c];lia) ?_,);calc(_,_,U,U,_,U,?_,);rw[Lq (show((⇑(a.map NE):Nat):Int)≤40 by rw[c];lia)];calc bF ?_;refine(let N:St→Hp→Prop:=λO m=>m=H∧∃t:Option V,O=[↑x,↑p,t];(N,?_,?_,))
 .refine(p,U,(_,r,),(let N:Nat→St→Hp→Prop:=λi C m=>m=H∧∃t:Option V,C=[↑x,↑p,t];bo (xs:=a.map NE) N (U,_,U,) (λi C m _ h=>by rw[h.1];exact r) (λi y C m e h=>?_) (λC m h=>h)),);let(e0,t,rfl):=h;rw[e0];let(z,rfl,ez):=bW e;let X:=D.words z<|IW ez;let hz:⇑z≤1000:=by
   let u:=X;unfold isw at u;simp only[wF,decide_eq_true_eq]at u;lia
  calc(z,U,hz,_,U,?_,);rw[X];exact bF (U,_,U,)
 rintro a0 H2 ⟨G,t,rfl⟩;rw[G];calc(p,a,U,r,∅,λl hl=>(l,a,U,af,∅,p,_,U,.inl<|(ah hl _).seq r,_,_,U,U,_,U,?_,),);let I:=ah hl<|oF P w l a;let cf:=gN a ⇑a<|sT _;rw[eY]at cf;refine iw (by rw[c,cf.mpr D.once];lia) ?_;let R:=I _ _ W;let B:=I _ _ J;calc(p,_,U,.inl<|Nw B,_,_,U,U,x,g,0,_,U,R,?_,);let M:mkd Y.s (upd H l<|oF P w l a) x g 0 (((⇑(a.map NE):Nat):Int)-1) x=Lg (.ins Y.s g [("low",.int 0),("high",.int<|((⇑(a.map NE):Nat):Int)-1)]):=af;let G:mkd Y.s (upd H l<|oF P w l a) x g 0 (((⇑(a.map NE):Nat):Int)-1) p=Lg (.lst<|a.map NE):=by unfold mkd;rw[ay v,ay v];exact B
 let L:∀b o,b≠x→H b=Lg o→mkd Y.s (upd H l<|oF P w l a) x g 0 (((⇑(a.map NE):Nat):Int)-1) b=Lg o:=λb o n h=>by unfold mkd;rw[ay n,ay n];exact I b o h
 let eh:((⇑(a.map NE):Nat):Int)-1=hiW a:=by rw[c];rfl
 refine(p,_,U,.inl<|Nw G,λj k=>(x,_,g,_,U,dS M k,bl.k_Words,bl.na_Words_words,(by show 2<1000;decide),?_,),);show Q .non (upd (upd (mkd Y.s (upd H l<|oF P w l a) x g 0<|((⇑(a.map NE):Nat):Int)-1) j<|.lst<|a.map NE) x<|.ins Y.s g<|bQ s!"words" (.ref j) [(s!"low",.int 0),(s!"high",.int<|((⇑(a.map NE):Nat):Int)-1)]);rw[put3];let d:mkd Y.s (upd H l<|oF P w l a) x g 0 (((⇑(a.map NE):Nat):Int)-1) j=none:=k;clear k;generalize mkd Y.s (upd H l<|oF P w l a) x g 0 (((⇑(a.map NE):Nat):Int)-1)=H2 at M G L d⊢;rw[eh];let T:j≠x:=(bG M d).symm;calc q _ j (λb o n h=>(ay n).trans<|dS (L b o n h) d) af ((ay T).trans af) (by cases q_:H j with|none=>rfl|some o=>rw[L j o T q_]at d;cases d)
def HV(F:Fun K "read_numbers" "read_numbers" Y69 f fd)(bl:Bl K mg Y)(c:bB CX0 P w K mg base 2 "Numbers" Y.r ["self","low","high"] (b8 K Y))(B:bD P w K mg base 3 "number_of" ["text"] (fH K Y))(v:⟨⟩ 3 "is_number" ["text"] (gJ K Y)):() 4 f fd ["text"] (gx K Y):=by
 refine F.okA Z69 λO A m s H R Q E d h=>?_
 let(z,a,b,rfl,V,N,o,n,u,p,k,q):=h
 refine(_,(ao (aJ (i:=1) Z69.nd U (cr U)<|br PySem.F.plainAttrs_str PySem.F.slot_str_partition PySem.F.type_str_partition ee (pv 0)<|aa aN ae)
  (ao (aJ (i:=2) Z69.nd U (cr U)<|az aM (pv 1) ai<|λ_ _=>U)
  (ao (aJ (i:=3) Z69.nd U (cr U)<|az aM (pv 1) ai<|λ_ _=>U)
  (ao (aQ (PW.pt<|jT (cK<|bH<|aS v d U<|aa (pv 2) ae)<|iH<|cK<|bH<|aS v d U<|aa (pv 3) ae)
  (ag bj)
  aE)
  (ag<|aI<|t6 c cQ d U<|aa (dR B qS d U<|aa (pv 2) ae)<|aa (dR B qS d U<|aa (pv 3) ae) ae))))),?_,)
 dsimp only[bh,Nz,Ny];show(let G:TS:=_;let I:TS:=ba _ G;let J:TS:=ba _ I;let L:TS:=ba _ J;ba _ L _ _ _);intro _ _ _ _;let T:=o.len;let S:=n.len;calc(U,z,bq,U,U,⋯,gE ∅,λt M=>?_,);rw[N];let g:upd H t (.tup [.str a,.str bq,.str b]) t=Lg (.tup [.str a,.str bq,.str b]):=af;let e:=ah M<|.tup [.str a,.str bq,.str b];generalize upd H t (.tup [.str a,.str bq,.str b])=H1 at g e⊢;calc(t,_,_,_,U,U,Nx g,U,?_,);calc(t,_,_,_,U,U,Nx g,U,?_,);calc(_,U,∅,_,U,?_,);rw[u];calc bF (_,U,∅,_,U,?_,);rw[p];refine bF ⟨a,U,o,λ_=>⟨b,U,n,λ_=>?_,λh=>by rw[p]at h;cases h⟩,λh=>by rw[u]at h;cases h⟩;intro x D y l j;calc(x,D,_,_,U,af,k,U,?_,);calc q x _ (e.trans<|Ai (C:=Y.r) _ _ y l j) (e.free y)<|BH Y.r _ x D _ _
def HW(F:Fun K "way_by" "way_by" Y91 f fd)(bl:Bl K mg Y)(k_First:bB CX0 P w K mg base 2 "First" Y.k ["self"] (J0 K Y))(k_Only:bB CX0 P w K mg base 2 "Only" Y.l ["self"] (J4 K Y))(k_Like:bB CX0 P w K mg base 2 "Like" Y.m ["self"] (J2 K Y))(k_Low:bB CX0 P w K mg base 2 "Low" Y.n ["self"] (J3 K Y))(k_High:bB CX0 P w K mg base 2 "High" Y.o ["self"] (J1 K Y))(k_Sum:bB CX0 P w K mg base 2 "Sum" Y.p ["self"] (J5 K Y)):() 4 f fd ["name"] (nM K Y):=by
 refine F.okA Z91 λa3 A a2 s H vs Q E hr h=>?_
 let(z,rfl,hz,q):=h
 refine(_,(ao (bw v2 U (aT<|bJ<|aa (nq k_First cQ hr U)<|aa (nq k_Only cQ hr U)<|aa (nq k_Like cQ hr U)<|aa (nq k_Low cQ hr U)<|aa (nq k_High cQ hr U)<|aa (nq k_Sum cQ hr U) ae) (aG (i:=1) Z91.nd U<|cr U)
  (ag (aQ (aH cV (aO (pv 1) U) (pv 0)<|aK _)
  (ag<|aI<|pv 1)
  aE)))
  (ag bj)),?_,)
 dsimp only[bh,Nz,Ny];show(let r1:TS:=_;ba _ r1 _ _ _);intro _;refine λD R c b d=>(D,R,U,af,U,?_,)
 let t0:ak H (upd (upd (upd H R<|.own D) D<|.ins Y.k R []) D<|.ins Y.k R [("called",.str s!"first")]):=((ah b _).upd c).upd c;let G:WyN Y.k (upd (upd (upd H R<|.own D) D<|.ins Y.k R []) D<|.ins Y.k R [("called",.str s!"first")]) D s!"first":=(R,af,);generalize upd (upd (upd H R<|.own D) D<|.ins Y.k R []) D (.ins Y.k R [("called",.str s!"first")])=H0 at t0 G⊢;clear c b d;refine λB O c b d=>(B,O,U,af,U,?_,)
 let t1:ak H0 (upd (upd (upd H0 O<|.own B) B<|.ins Y.l O []) B<|.ins Y.l O [("called",.str s!"only")]):=((ah b _).upd c).upd c;let I:WyN Y.l (upd (upd (upd H0 O<|.own B) B<|.ins Y.l O []) B<|.ins Y.l O [("called",.str s!"only")]) B s!"only":=(O,af,);generalize upd (upd (upd H0 O<|.own B) B<|.ins Y.l O []) B (.ins Y.l O [("called",.str s!"only")])=H1 at t1 I⊢;clear c b d;let G:=G.same t1;refine λv N c b d=>(v,N,U,af,U,?_,)
 let t2:ak H1 (upd (upd (upd H1 N<|.own v) v<|.ins Y.m N []) v<|.ins Y.m N [("called",.str s!"like")]):=((ah b _).upd c).upd c;let S:WyN Y.m (upd (upd (upd H1 N<|.own v) v<|.ins Y.m N []) v<|.ins Y.m N [("called",.str s!"like")]) v s!"like":=(N,af,);generalize upd (upd (upd H1 N<|.own v) v<|.ins Y.m N []) v (.ins Y.m N [("called",.str s!"like")])=H2 at t2 S⊢;clear c b d;let G:=G.same t2;let I:=I.same t2;refine λu M c b d=>(u,M,U,af,U,?_,)
 let t3:ak H2 (upd (upd (upd H2 M<|.own u) u<|.ins Y.n M []) u<|.ins Y.n M [("called",.str s!"low")]):=((ah b _).upd c).upd c;let T:WyN Y.n (upd (upd (upd H2 M<|.own u) u<|.ins Y.n M []) u<|.ins Y.n M [("called",.str s!"low")]) u s!"low":=(M,af,);generalize upd (upd (upd H2 M<|.own u) u<|.ins Y.n M []) u (.ins Y.n M [("called",.str s!"low")])=H3 at t3 T⊢;clear c b d;let G:=G.same t3;let I:=I.same t3;let S:=S.same t3;refine λt L c b d=>(t,L,U,af,U,?_,)
 let t4:ak H3 (upd (upd (upd H3 L<|.own t) t<|.ins Y.o L []) t<|.ins Y.o L [("called",.str s!"high")]):=((ah b _).upd c).upd c;let y4:WyN Y.o (upd (upd (upd H3 L<|.own t) t<|.ins Y.o L []) t<|.ins Y.o L [("called",.str s!"high")]) t s!"high":=(L,af,);generalize upd (upd (upd H3 L<|.own t) t<|.ins Y.o L []) t (.ins Y.o L [("called",.str s!"high")])=H4 at t4 y4⊢;clear c b d;let G:=G.same t4;let I:=I.same t4;let S:=S.same t4;let T:=T.same t4;refine λr J c b d=>(r,J,U,af,U,?_,)
 let X:ak H4 (upd (upd (upd H4 J<|.own r) r<|.ins Y.p J []) r<|.ins Y.p J [("called",.str s!"sum")]):=((ah b _).upd c).upd c;let y5:WyN Y.p (upd (upd (upd H4 J<|.own r) r<|.ins Y.p J []) r<|.ins Y.p J [("called",.str s!"sum")]) r s!"sum":=(J,af,);generalize upd (upd (upd H4 J<|.own r) r<|.ins Y.p J []) r (.ins Y.p J [("called",.str s!"sum")])=H5 at X y5⊢;clear c b d;let G:=G.same X;let I:=I.same X;let S:=S.same X;let T:=T.same X;let y4:=y4.same X;let s5:ak H H5:=((((t0.trans t1).trans t2).trans t3).trans t4).trans X;refine((by show 6≤A8;decide),λl hl=>?_,);let W:ak H5 (upd H5 l<|.lst [NC D,.ref B,.ref v,.ref u,.ref t,.ref r]):=ah hl _;let el:upd H5 l (.lst [NC D,.ref B,.ref v,.ref u,.ref t,.ref r]) l=Lg (.lst [NC D,.ref B,.ref v,.ref u,.ref t,.ref r]):=af;generalize upd H5 l (.lst [NC D,.ref B,.ref v,.ref u,.ref t,.ref r])=H6 at W el⊢;let G:=G.same W;let I:=I.same W;let S:=S.same W;let T:=T.same W;let y4:=y4.same W;let y5:=y5.same W;let sA:=s5.trans W;let a0:∀(i:Nat)(x:V),[NC D,.ref B,.ref v,.ref u,.ref t,.ref r][i]?=Lg x→∃(a C:AM)(y:Str),x=.ref a∧(cl6 Y.k Y.l Y.m Y.n Y.o Y.p)[i]?=Lg C∧six[i]?=Lg y∧WyN C H6 a y∧Cls K C∧NoAttr K C s!"called":=λi x e=>by
  match i,e with
  |0,e=>cases e;exact(D,Y.k,_,U,U,U,G,bl.k_First,bl.na_First_called,)
  |1,e=>cases e;exact(B,Y.l,_,U,U,U,I,bl.k_Only,bl.na_Only_called,)
  |2,e=>cases e;exact(v,Y.m,_,U,U,U,S,bl.k_Like,bl.na_Like_called,)
  |3,e=>cases e;exact(u,Y.n,_,U,U,U,T,bl.k_Low,bl.na_Low_called,)
  |4,e=>cases e;exact(t,Y.o,_,U,U,U,y4,bl.k_High,bl.na_High_called,)
  |5,e=>cases e;exact(r,Y.p,_,U,U,U,y5,bl.k_Sum,bl.na_Sum_called,)
  |n+6,e=>simp at e
 refine(l,U,(_,Nw el,),(let I_:Nat→St→Hp→Prop:=λi σ H'=>(∃c1:Option V,σ=[Lg (.str z),c1])∧H'=H6∧∀j:Nat,j<i→six[j]?≠Lg z;bo (xs:=[NC D,.ref B,.ref v,.ref u,.ref t,.ref r]) I_ ((_,U,),U,(λj h=>Lp h<|MG j),) (λi σ H' _ h=>by rw[h.2.1];exact Nw el) (λi x σ H' e h=>?_) (λσ H' h=>?_)),)
 .let((c1,rfl),e0,Z):=h;rw[e0];let(a,C,y,rfl,eC,ey,(dx,ha),hc,hn):=a0 i x e;calc(a,_,_,_,_,U,ha,hc,hn,U,U,_,U,?_,);refine bR (λg=>?_)<|λg=>?_
  .let g':NE y=NE z:=gg g;injection g' with g';subst g';exact(q i ey a C H6 sA eC (dx,ha,))
  .refine((_,U,),U,λj hj=>?_,);by_cases a1:j<i
   .exact Z j a1
   .let:j=i:=∅
    subst this;rw[ey];intro q2;exact(ip g) (by injection q2 with q2;rw[q2])
 .let((c1,rfl),e0,Z):=h;rw[e0];let(j,hj,ej):=List.getElem_of_mem hz;calc Lp (by rw[IU hj,ej]) (Z j hj)
def HX(F:Fun K "take_line" "take_line" Y89 f fd)(bl:Bl K mg Y)(sZ:⟨⟩ 3 "fact_parts" ["text"] (iP K Y))(yt:⟨⟩ 3 "drafted" ["text"] (l9 K Y))(uB:⟨⟩ 3 "row_parts" ["text"] (jB K Y)):() 4 f fd ["line","facts","drafts"] (jD K Y):=by
 refine F.okA Z89 λa4 A a2 s H vs Q E X h=>?_
 let(J,I,z,fs,m,ln,rfl,p,V,hf,hd,a0,C,vV,q):=h
 refine(_,(ag (aQ (bH<|br PySem.F.plainAttrs_str PySem.F.slot_str_startswith PySem.F.type_str_startswith eO (pv 0)<|aa (cb U bl.FACT_) ae)
  (ag<|aX<|br PySem.F.plainAttrs_list PySem.F.slot_list_append PySem.F.type_list_append bO (pv 1)<|aa (aS sZ X U<|aa (iZ pC (pv 0) (jo<|ar d8 U bl.len_ Lf<|aa (cb U bl.FACT_) ae) mz) ae) ae)
  (ag (aQ (bH<|br PySem.F.plainAttrs_str PySem.F.slot_str_startswith PySem.F.type_str_startswith eO (pv 0)<|aa (cb U bl.TABLE_) ae)
  (ag<|aX<|br PySem.F.plainAttrs_list PySem.F.slot_list_append PySem.F.type_list_append bO (pv 2)<|aa (aS yt X U<|aa (iZ pC (pv 0) (jo<|ar d8 U bl.len_ Lf<|aa (cb U bl.TABLE_) ae) mz) ae) ae)
  (ag (aQ (PW.pt<|iI (bH<|br PySem.F.plainAttrs_str PySem.F.slot_str_startswith PySem.F.type_str_startswith eO (pv 0)<|aa (cb U bl.WHEN_) ae)<|fX<|fq (pv 2) (by intro _;rfl))
  (ag<|aX<|br PySem.F.plainAttrs_list PySem.F.slot_list_append PySem.F.type_list_append bO (aO (az aV (pv 2) (qF m6 ai)<|λ_ _=>U) U)<|aa (aS uB X U<|aa (iZ pC (pv 0) (jo<|ar d8 U bl.len_ Lf<|aa (cb U bl.WHEN_) ae) mz) ae) ae)
  (ag bj))))))),?_,)
 cases ln with
 |fact n d =>
  let(y,rfl,hp):=C;calc(U,_,s!"fact ",U,U,?_,);rw[vK];let(fv,ef,rf):=id p.f;let a3:⇑fv=⇑fs:=rf.1;let M:⇑y≤10000:=by rw[o8]at V;lia
  calc(_,U,eJ (.inl (U,_,Nw ef,),_,U,⋯,_,U,_,U,gE ∅,?_,),);rw[vL];calc(y,n,SP,d,U,gE ∅,hp,⋯,⋯,λt H' i W et=>?_,);calc(J,_,_,U,U,i _ _ ef,aC ∅,?_,);exact q _ m U (p.fact i W et ef) λb o k e=>((ay λz=>k (by rw[z];exact .head _)).trans (i _ _ e),k,)
 |tab n cs d S =>
  let(y,r,c,u,rfl,h1,a1,Z,hc,hu,h3,h4):=C;calc(U,_,s!"fact ",U,U,?_,);rw[Au (z:=s!"table " ++ y) (q:=s!"fact ") (c:=102) (d:=116) (r:=[97,99,116,32]) (s:=[97,98,108,101,32]++y.cps.toList) (~~~0) (by rw[mU,show s!"table ".cps.toList=116 :: [97,98,108,101,32] by decide+kernel];rfl) ⋯];calc(_,U,bF (U,_,s!"table ",U,U,?_,),);rw[vK];let(B,G,O):=id p.d;let j:B.length=⇑m:=O.1;let M:⇑y≤10000:=by rw[o8]at V;lia
  calc(_,U,eJ (.inl (U,_,Nw G,),_,U,⋯,_,U,_,U,gE ∅,?_,),);rw[vL];calc(y,n,CO,r,c,AR,u,d,BY,S,cs,U,gE ∅,h1,gE ∅,⋯,⋯,Z,gE ∅,⋯,⋯,h3,⋯,⋯,gE ∅,h4,λx T H' i hx R ex L fr=>?_,);calc(I,_,_,U,U,i _ _ G,aC ∅,?_,);refine q _ (m++[(((n,cs,d,S,[],):Dw),T)]) (by simp[ap]) (p.tab i hx R ex L G fr) λb o k e=>((ay λz=>k (by rw[z];exact .tail _ (.head _))).trans (i _ _ e),λD=>?_,)
  rw[show mtA J I (m++[(((n,cs,d,S,[],):Dw),T)])=mtA J I m++[T] by simp[mtA]]at D;rcases eA.mp D with D|D
  .exact k D
  .rw[hY.mp D,R]at e;cases e
 |row f v =>
  let(y,c,rfl,h1,hc,Z):=C;let ew:(s!"when " ++ y).cps.toList=119 :: ([104,101,110,32]++y.cps.toList):=by rw[mU,show s!"when ".cps.toList=119 :: [104,101,110,32] by decide+kernel];rfl
  let(a,g,rfl):∃a g,m=a++[g]:=(m.dropLast,m.getLast<|vV (f,v,U,),(LG _).symm,);calc(U,_,s!"fact ",U,U,?_,);rw[Au (c:=102) (d:=119) (r:=[97,99,116,32]) (~~~0) ew ⋯];calc(_,U,bF (U,_,s!"table ",U,U,?_,),);rw[Au (c:=116) (d:=119) (r:=[97,98,108,101,32]) (~~~0) ew ⋯];calc(_,U,bF (U,_,s!"when ",U,U,?_,),);rw[vK];let(B,G,O):=id p.d;let j:B.length=⇑a+1:=by rw[O.1];simp
  let M:⇑y≤10000:=by rw[o8]at V;lia
  refine(_,U,eJ (Li,.inl (_,Nw G,?_,),eJ ?_,),)
  .cases B with
   |nil=>simp at j
   |cons=>rfl
  let(x,ex,px):=O.2 ⇑a g (by simp);let(rv,L,rr):=p.r g<|gb _<|.head _;let a1:⇑rv≤1000:=by rw[rr.1];exact a0 g<|gb _<|.head _
  let(dx,cl,g1,g2):=px.same<|dU _ _;let N:B≠[]:=λz=>by rw[z]at j;simp at j
  let e9:atI B (-1)=↑x:=by
   let e8:B.getLast N=.ref x:=by
    let(_,e):=IV.mp ex;rw[List.getLast_eq_getElem,←e];congr 1;lia
   rw[←LG N,e8];exact j6 _ _
  calc(_,U,I,_,_,_,U,U,Nw G,e9,x,_,_,_,_,U,g1,bl.k_Draft,bl.na_Draft_rows,U,.inl (U,_,Nw L,),_,U,⋯,_,U,_,U,gE ∅,?_,);rw[vL];calc(y,c,AR,v,f,U,gE ∅,h1,⋯,⋯,gE ∅,Z,λt l H' i W R et el=>?_,);calc(g.2,_,_,U,U,i _ _ L,aC ∅,?_,);let em:mtA J I (a++[(g.1.add (f,v),g.2)])=mtA J I (a++[g]):=by simp[mtA]
  calc q _ (a++[(g.1.add (f,v),g.2)]) (by simp[ap]) (p.row i W R et el L) λb o k e=>((ay λz=>k (by rw[z];exact .tail _ (.tail _<|dn.mpr (g,gb _<|.head _,U,)))).trans (i _ _ e),by rw[em];exact k,)
def HY(F:Fun K "refuse_numbers" "refuse_numbers" Y83 f fd)(bl:Bl K mg Y)(R:bD P w K mg base 3 "number_of" ["text"] (fH K Y)):() 4 f fd ["draft","outcome"] (fI K Y):=by
 refine F.okA Z83 λX A j s H vs Q E L h=>?_
 let(x,G,d,k,rfl,(C,B,(dx,cl,O,g2),o,N),m,M,q):=h
 refine(_,(ao (aQ (bH<|ar cG U bl.isinstance_ im<|aa (pv 1)<|aa (fm (v:=.ref Y.s) U bl.Words_ U) ae)
  (ag AS)
  aE)
  (ag (bw v2 U (aT<|aO (pv 0) U) (fb U<|aL (aG (i:=2) Z83.nd U<|cr U)<|aL (aG (i:=3) Z83.nd U<|cr U) bC)
  (ag<|aX<|dR R qS L U<|aa (pv 3) ae)))),?_,)
 dsimp only[bh,Nz,Ny];show(let D:TS:=_;ba _ D _ _ _);intro _;cases k with
 |inr Z =>
  let(g,l2,c,n):=m;exact(_,_,_,_,Li,U,.ref _,bl.t_Words.ty c,bl.f_ww,_,U,eJ q,)
 |inl p =>
  let(g,c):=m;calc(_,_,_,_,Lj,U,.ref _,bl.t_Numbers.ty c,bl.f_nw,_,U,bF ?_,);refine(x,_,_,_,_,U,O,bl.k_Draft,bl.na_Draft_rows,U,C,U,(_,Nw o,),(let W:Nat→St→Hp→Prop:=λi a b=>b=H∧E2 λz u:Option V=>a=[↑x,↑G,z,u];bo (xs:=B) W (U,_,_,U,) (λi a b _ h=>by rw[h.1];exact Nw o) (λi y a b e h=>?_) (λa b h=>by rw[h.1];exact q)),);let(T,z,u,rfl):=h;rw[T];let(t,r,rfl,S,l,n,h3):=au.get N e;let(J,I):=M p U r<|IW S;calc(t,_,U,Nx n,U,_,_,U,_,_,U,U,?_,);calc⟨r.2,U,J,λ_=>(U,_,_,U,),λh=>by rw[I]at h;cases h⟩
def HZ(F:Fun K "_law_lines" "_law_lines" Y50 f fd)(bl:Bl K mg Y)(uC:⟨⟩ 3 "_law_head" ["plan","k"] (kq K Y))(fh:⟨⟩ 3 "_law_domain_text" ["domain"] (dq K Y))(uD:⟨⟩ 3 "_law_when" ["plan","k","row"] (ku K Y)):() 4 f fd ["plan","order"] (jE K Y):=by
 refine F.okA Z50 λe7 A d1 s H vs Q E hr h=>?_
 let(r,W,c,u,B,n,os,d,d0,rfl,a0,ok,a7,a4,e6,Z,c4,q):=h
 refine(_,(aw (m4 (pv 0)<|fb U<|aL (aG (i:=2) Z50.nd U<|cr U)<|aL (aG (i:=3) Z50.nd U<|cr U)<|aL (aG (i:=4) Z50.nd U<|cr U) bC)
  (aw (aJ (i:=5) Z50.nd U (cr U)<|bJ ae)
  (aw (bw v2 U (bu U bl.range_<|aa (aD fP (ar aq U bl.len_ Lf<|aa (pv 2) ae)<|ar aq U bl.len_ Lf<|aa (pv 4) ae) ae) (aG (i:=6) Z50.nd U<|ul U)
  (ag<|aX<|br PySem.F.plainAttrs_list PySem.F.slot_list_append PySem.F.type_list_append bO (pv 5)<|aa (aD aP (aD aP (aD aP aN<|az aV (pv 2) (pv 6)<|λ_ _=>U) aN)<|aS fh hr U<|aa (az aV (pv 3) (pv 6)<|λ_ _=>U) ae) ae))
  (aw (bw v2 U (aT<|pv 1) (aG (i:=6) Z50.nd U<|ul U)
  (ao (aX<|br PySem.F.plainAttrs_list PySem.F.slot_list_append PySem.F.type_list_append bO (pv 5)<|aa (aS uC hr U<|aa (pv 0)<|aa (pv 6) ae) ae)
  (ag<|aX<|br PySem.F.plainAttrs_list PySem.F.slot_list_extend PySem.F.type_list_extend nc (pv 5)<|aa (bK (aT<|az aM (az aV (pv 4) (pv 6)<|λ_ _=>U) ai<|λ_ _=>U) (bp (N:=["row","plan","k"]) (fr:=[0,6]) (cl:=[("plan",↥s+1),("k",↥s+1+1)]) U U (~~~0) (~~~0) U (~~~0) U U U (fJ.mpr (U,fJ.mpr (U,hQ _,),)) U) U (λ_ _ _ _=>aY)<|λ_ _ _ _=>(aS uD hr U<|aa (pv 1)<|aa (pv 2)<|aa (pv 0) ae)) ae)))
  (ag<|aI<|pv 5))))),?_,)
 dsimp only[bh,Nz,Ny];show(let r4:TS:=_;let r3:TS:=aZ _ r4;let r2:TS:=aZ _ r3;let r1:TS:=aZ _ r2;aZ _ r1 _ _ _);intro _ _ _ _;let(O,X,m,dv,tv,er,a8,c9,c3,a6,a3):=id a0;let e0:⇑(c.map NE)=⇑c:=ck _;let e4:=ok.len;let e3:=ok.tab;let h7:=ok.n7;let e1:⇑tv=B.length:=a3.1;let hr:∀(k:Nat)(t:PT),B[k]?=Lg t→⇑t.rows≤200:=λk t e=>(ok.tabs k t e).few
 calc(let G:St→Hp→Prop:=λx a=>a=H∧x=[↑r,↑W,↑O,↑X,↑m,Lh,Lh];(G,(r,_,U,Nx er,U,_,_,U,_,_,U,_,_,U,U,U,U,),?_,));rintro d5 H1 ⟨rfl,rfl⟩;refine(let G:St→Hp→Prop:=λx a=>ak H1 a∧∃l:AM,A3 (H1 l=Lh) (a l=Lg (.lst [])) (x=[↑r,↑W,↑O,↑X,↑m,↑l,Lh]);(G,((by show 0≤A8;decide),λl hl=>(ah hl _,l,hl,af,U,),),?_,));rintro d4 H2 ⟨s2,l,fl,C,rfl⟩;let a5:(((⇑(c.map NE):Nat):Int)-((⇑tv:Nat):Int)).toNat=n:=∅
 refine(let G:St→Hp→Prop:=λx a=>ak H1 a∧∃v:Option V,a l=Lg (.lst<|(d.map dQ).map NE)∧x=[↑r,↑W,↑O,↑X,↑m,↑l,v];(G,?_,?_,))
 .refine(O,_,U,.inl<|Nw<|s2 _ _ a8,m,_,U,.inl<|Nw<|s2 _ _ a6,_,_,U,U,_,U,∅,∅,(let G:Nat→St→Hp→Prop:=λi M a=>ak H1 a∧∃v:Option V,a l=Lg (.lst<|((d.take i).map dQ).map NE)∧M=[↑r,↑W,↑O,↑X,↑m,↑l,v];gL G (s2,_,C,U,) (λi M a hi h=>?_) (λM a h=>?_)),)
  .let(I,v,C,rfl):=h;rw[a5]at hi;let R:=IU (l:=c) (i:=i) ∅;let J:=IU (l:=u) (i:=i) ∅;generalize c[i]=z at R;generalize u[i]=p at J;let(da,e2,c0):=c3.2 i p J;let L:=ok.doms p<|IW J;let lw:=nA L.gd L.b1 L.b2;let d7:=ok.nm12<|IW R;let c8:d[i]?=Lg (z,p.k):=by rw[Z];exact pR hi R J
   let b0:atI (c.map NE) (0+(i:Int))=Lg (.str z):=by rw[wj];exact aU<|gX R
   let b3:atI dv (0+(i:Int))=↑da:=by rw[wj];exact aU e2
   refine(.inl (U,_,Nw C,),O,_,_,_,U,U,Nw<|I _ _ a8,b0,_,_,U,U,nE (by rw[l6];lia),_,_,U,U,nE (by rw[aW,l6,DT];lia),X,_,_,_,U,U,Nw<|I _ _ c9,b3,da,p,U,c0.same I,L,_,_,U,U,nE (by rw[aW,aW,l6,DT];lia),l,_,_,U,U,C,uy (by simp;lia),I.upd fl,_,?_,U,);rw[af,take_snoc c8,eg,eg];rfl
  .let(I,v,C,rfl):=h;rw[a5,oy (by rw[Z,iB];exact sT _)]at C;exact(I,v,C,U,)
 rintro d3 H3 ⟨s3,v,c7,rfl⟩;let c1:⇑(vN os)=⇑os:=kh _;let b9:∀{j:Nat},⇑(prm (os.take j)<|tsP c u B n)≤10:=λ{j}=>by
  rw[(cz (os:=os.take j) (xs:=tsP c u B n) λk hk=>by rw[kT];exact a4 k (md hk)).1,fK];lia
 let lh:∀{j:Nat},∀b∈prm (os.take j) (tsP c u B n),⇑b.rws≤200:=λ{j} b hb=>by
  let(k,ek):=ik<|wW hb;let(t,S,rfl):=Ae ek;exact hr k t S
 let c2:∀{j:Nat},⇑((eU d<|prm (os.take j)<|tsP c u B n).map NE)≤2020:=λ{j}=>by
  let h1:=sP<|lh (j:=j);let h2:=b9 (j:=j);unfold eU;rw[ck,eH,ck,Z,iB];lia
 refine(let G:St→Hp→Prop:=λx a=>ak H1 a∧∃v:Option V,a l=Lg (.lst<|(eU d d0).map NE)∧x=[↑r,↑W,↑O,↑X,↑m,↑l,v];(G,?_,?_,))
 .refine(W,U,(_,Nw<|s3 _ _ a7,),(let G:Nat→St→Hp→Prop:=λi M a=>ak H1 a∧∃v:Option V,a l=Lg (.lst<|(eU d<|prm (os.take i)<|tsP c u B n).map NE)∧M=[↑r,↑W,↑O,↑X,↑m,↑l,v];bo (xs:=vN os) G (s3,_,?_,U,) (λi M a _ h=>Nw<|h.1 _ _ a7) (λi y M a e h=>?_) (λM a h=>?_)),)
  .rw[c7];show _=Lg (HO.lst<|(d.map dQ++[]).map NE);rw[jV]
  .let(I,v,C,rfl):=h;let(k,rfl,ek):=wV e;let hk:=a4 k<|IW ek;let S:=IU hk;generalize B[k]=t at S;let R:=IU (l:=c) (i:=n+k) ∅;let J:=IU (l:=u) (i:=n+k) ∅;generalize c[n+k]=nm at R;generalize u[n+k]=po at J;let(ta,c5,cl,rl,rx,g1,g2,g3,g4):=a3.2 k t S;let b4:⇑rx=⇑t.rows:=g4.1;let e5:=hr k t S;let hL:=c2 (j:=i);calc(.inl (U,_,Nw C,),r,k,c,u,B,n,t,nm,po,U,a0.same I,ok,S,R,J,λH4 s4=>?_,);let a2:=s4 _ _ C;let sA:=I.trans s4;calc(l,_,_,U,U,a2,uy ∅,?_,);let T:=sA.upd (o:=HO.lst<|(eU d<|prm (os.take i)<|tsP c u B n).map NE++[.str (dP nm (prm t.cols c) po.k t.way)]) fl;let a1:upd H4 l (HO.lst<|(eU d<|prm (os.take i)<|tsP c u B n).map NE++[.str (dP nm (prm t.cols c) po.k t.way)]) l=_:=af;generalize upd H4 l (HO.lst<|(eU d<|prm (os.take i)<|tsP c u B n).map NE++[.str (dP nm (prm t.cols c) po.k t.way)])=H5 at T a1⊢;refine(.inl (U,_,Nw a1,),m,_,_,_,U,U,Nw<|T _ _ a6,aU c5,ta,_,_,_,U,U,Nx<|T _ _ g1,U,rl,U,(_,Nw<|T _ _ g3,),(let G:AM→Nat→Lw V→Hp→Prop:=λD i ys a=>ak H5 a∧a D=Lg (.lst ys)∧ys=((t.rows.take i).map λw=>kY (prm t.cols<|u.map PD.k) w po.k).map NE;bP (xs:=rx) G (λD hD=>(ah hD _,af,U,)) (λD i ys a hD _ h=>Nw<|h.1 _ _<|T _ _ g3) (λD i y ys a hD e h=>?_) (λD ys a hD h=>?_)),)
   .let(s6,eD,rfl):=h;let(ro,w_,rfl,ew,g):=au.get g4 e;let hi:i<⇑rx:=(IV.mp e).1;let sC:=T.trans s6;refine(r,ro,k,c,u,B,n,t,po,w_,U,a0.same sC,ok,S,J,g.same sC,IW ew,λH7 s7=>b7.mk hi (s7 _ _ eD) (aC (by rw[ck,ck,fK];lia)) ((s6.trans s7).upd hD,af,?_,),);rw[take_snoc ew,eg,eg];rfl
   .let(s6,eD,rfl):=h;rw[b4,eY]at eD;refine(l,D,_,_,U,U,s6 _ _ a1,eD,ve<|uy (by simp only[eH,ck,iU]at hL⊢;lia),(T.trans s6).upd fl,_,?_,U,);rw[af,take_snoc ek,pL<|sx S,AH R J]
    congr 2
    unfold eU;rw[eg (l₂:=[_]),List.flatten_append];simp[oI]
  .let(I,v,C,rfl):=h;rw[c1,eY,←c4]at C;exact(I,v,C,U,)
 rintro d2 H4 ⟨s4,v,a2,rfl⟩;calc(q l H4 s4 fl a2)
def O_0(F:Fun K "__init__" "Book.__init__" Y0 f fd)(bl:Bl K mg Y)(jY:bD P w K mg base 3 "refuse_counts_books" ["facts","tables"] (dj K Y))(kC:bD P w K mg base 3 "refuse_names_books" ["facts","tables"] (dH K Y))(nP:bD P w K mg base 3 "refuse_domains" ["facts","tables"] (fF K Y))(qf:bD P w K mg base 3 "refuse_rings" ["tables"] (gw K Y)):aR P w K mg base (CX1 P w) 4 f fd ["self","facts","tables"] (dI K Y):=by
 refine F.okEA Z0 λc2 A b9 s H vs Q E hr h=>?_
 let(x,m,fa,O,W,v,fs,ts,rfl,hx,J,j,G,q):=h
 refine(_,(ao (aX<|dR jY i5 hr U<|aa (pv 1)<|aa (pv 2) ae)
  (ao (aX<|dR kC i5 hr U<|aa (pv 1)<|aa (pv 2) ae)
  (ao (aX<|dR nP i5 hr U<|aa (pv 1)<|aa (pv 2) ae)
  (ao (aX<|dR qf i5 hr U<|aa (pv 2) ae)
  (ao (b6 (pv 0) (fz (aT<|pv 1) (fu (N:=["name","domain"]) (k:=2) U U (~~~0) (~~~0)<|~~~0) U (λ_ _ _ _=>(lK (K:=K) (n:=2) U U<|aL (aG (i:=0) (show(["name","domain"]:Lw Str).Nodup by decide+kernel) U (cr U) (ul U)) (aL (aG (i:=1) (show(["name","domain"]:Lw Str).Nodup by decide+kernel) U (cr U) (ul U)) bC))) (λ_ _ _ _=>aY) (λ_ _ _ _=>(bz<|aa (pv 0)<|aa (pv 1) ae))) U)
  (ag<|b6 (pv 0) (a9 ft U bl.list_ wr<|aa (pv 2) ae) U)))))),?_,)
 dsimp only[bh,Nz,Ny];show(let r5:TS:=_;let r4:TS:=ba _ r5;let r3:TS:=ba _ r4;let r2:TS:=ba _ r3;let r1:TS:=ba _ r2;ba _ r1 _ _ _);intro _ _ _ _ _;let(b1,b2):=G.few;let b3:W.length=⇑fs:=G.facts.1;let c0:⇑v=⇑ts:=G.tabs.1;refine(fa,O,W,v,U,J,j,λR=>?_,λR=>?_,)
 rotate_left
 .rcases q with⟨_,q⟩|⟨h,_⟩
  .exact q H<|ak.refl H
  .exact Lp ∅ R
 rcases q with⟨h,_⟩|⟨_,q⟩
 .exact Lp ∅ h
 refine(fa,O,W,v,fs,ts,U,J,j,G,λhN H1 M=>?_,λhN H1 M=>?_,)
 rotate_left
 .rcases q with⟨_,q⟩|⟨h,_⟩
  .exact q H1 M
  .exact Lp h hN
 rcases q with⟨h,_⟩|⟨_,q⟩
 .exact Lp hN h
 refine(fa,O,W,v,fs,ts,U,M _ _ J,M _ _ j,G.same M,hN,λl H2 s2=>?_,λl H2 s2=>?_,)
 rotate_left
 .rcases q with⟨_,q⟩|⟨h,_⟩
  .exact q H2<|M.trans s2
  .exact Lp h l
 rcases q with⟨h,_⟩|⟨_,q⟩
 .exact Lp l h
 let I:=M.trans s2;calc(O,v,ts,U,I _ _ j,(G.same I).tabs,b2,(λt ht=>(G.st t ht).2.1),?_,);rcases q with⟨h,q⟩|⟨h,q⟩
 .exact .inr (h,λH3 s3=>q H3<|I.trans s3,)
 calc .inl (h,λH3 s3=>?_,);let g:=I.trans s3;let Fv:=g _ _ J;let c1:=G.same g;refine(fa,U,(_,Nw Fv,),(let I_:AM→Nat→Lw V→Hp→Prop:=λD i C a=>ak H3 a∧a D=Lg (.lst C)∧au C (fs.take i) (λp f=>∃d:AM,a p=Lg (.tup [.str f.1,.ref d])∧dE Y.r Y.s H d f.2);di (xs:=W) I_ (λD l=>(ah l _,af,au.nil,)) (λD i C a l _ h=>Nw<|h.1 _ _ Fv) (λD i y C a l e h a0 a8=>?_) (λD C a l h=>?_)),)
 .let(L,eD,Z):=h;let(r,f,rfl,ek,d,g0,g2):=au.get G.facts e;let g1:=g _ _ g0;let hi:i<W.length:=(IV.mp e).1;let(t0,t1,rfl):∃t0 t1,a0=[t0,t1]:=by
   match a0,a8 with
   | [t0,t1],_=>exact(t0,t1,U,)
  calc(r,_,U,Nx<|L _ _ g1,U,_,_,U,_,_,U,U,([Lg (.str f.1),↑d],U,U,),?_,);refine((by show 2≤A8;decide),λtp b0=>?_,);let u:=ah b0<|.tup [.str f.1,.ref d];let ep:upd a tp (.tup [.str f.1,.ref d]) tp=Lg (.tup [.str f.1,.ref d]):=af;generalize upd a tp (.tup [.str f.1,.ref d])=H4 at u ep⊢;let a3:=u _ _ eD;let a7:=Z.1;rw[fK]at a7;calc b7.mk hi a3 (aC ∅) ((L.trans u).upd l,af,?_,);rw[take_snoc ek];let hz:au (C++[.ref tp]) (fs.take i++[f]) (λp (f:Fc)=>∃d:AM,H4 p=Lg (.tup [.str f.1,.ref d])∧dE Y.r Y.s H d f.2):=au.snoc (au.mono Z λ_ _ (d,B,S,)=>(d,u _ _ B,S,)) (d,ep,g2,);exact au.mono hz λ_ _ (d,B,S,)=>(d,(ay<|eB B a3 (by intro z;cases z)).trans B,S,)
 .let(L,eD,Z):=h;rw[b3,eY]at Z;let T:H3 x=Lg (.ins Y.u m []):=g _ _ hx;refine(x,_,m,_,U,L _ _ T,bl.k_Book,bl.na_Book_facts,(by show 0<1000;decide),?_,);let a1:D≠x:=λz=>by rw[z,T]at l;cases l
  let a5:O≠x:=λz=>by rw[z,hx]at j;cases j
  let g1:upd a x (.ins Y.u m<|bQ s!"facts" (NC D) [])=upd a x (.ins Y.u m [(s!"facts",NC D)]):=rfl;rw[g1];let e2:upd a x (.ins Y.u m [(s!"facts",NC D)]) O=Lg (.lst v):=(ay a5).trans<|L _ _<|g _ _ j;let a4:upd a x (.ins Y.u m [(s!"facts",NC D)]) D=Lg (.lst C):=(ay a1).trans eD;let a2:au C fs (λp f=>∃d:AM,upd a x (.ins Y.u m [(s!"facts",NC D)]) p=Lg (.tup [.str f.1,.ref d])∧dE Y.r Y.s H d f.2):=au.mono Z λ_ _ (d,B,S,)=>(d,(ay<|eB B (L _ _ T) (by intro z;cases z)).trans B,S,)
  let X:upd a x (.ins Y.u m [(s!"facts",NC D)]) x=Lg (.ins Y.u m [(s!"facts",NC D)]):=af;let k2:∀b o,b≠x→H b=Lg o→upd a x (.ins Y.u m [(s!"facts",NC D)]) b=Lg o:=λb o hb e=>(ay hb).trans<|L _ _<|g _ _ e
  generalize upd a x (.ins Y.u m [(s!"facts",NC D)])=H4 at e2 a4 a2 X k2⊢;calc(O,v,U,.inl<|Nw e2,λc R=>?_,);let u:=ah R<|.lst v;let ec:upd H4 c (.lst v) c=Lg (.lst v):=af;let b4:H c=none:=jb k2 X R;generalize upd H4 c (.lst v)=H5 at u ec⊢;refine(x,_,m,_,U,u _ _ X,bl.k_Book,bl.na_Book_tables,(by show 1<1000;decide),?_,);let a6:c≠x:=λz=>by rw[z,X]at R;cases R
  calc q _ _ c D C (λb o hb e=>(ay hb).trans<|u _ _<|k2 b o hb e) af U U b4 (g.free l) ((ay a6).trans ec) ((ay a1).trans<|u _ _ a4)<|au.mono a2 λ_ _ (d,B,S,)=>(d,(ay<|eB (u _ _ B) (u _ _ X) (by intro z;cases z)).trans (u _ _ B),S,)
def O_3(F:Fun K "code" "Domain.code" Y3 f fd)(bl:Bl K mg Y)(k:bE CX0 P w K mg base 3 Y.r "borne_code" ["self","value"] (bX K Y))(j:bE CX0 P w K mg base 3 Y.r "bears" ["self","value"] (cP K Y)):aR P w K mg base (CX1 P w) 4 f fd ["self","value"] (du K Y):=by
 refine F.okEA Z3 λm A d s H o Q E b h=>?_
 let(a,lo,hi,v,rfl,(l,c),e,q,i):=h
 refine(_,(ao (aQ (cK<|bH<|tZ j cQ bl.k_Numbers b (pv 0)<|aa (pv 1) ae)
  (ag<|cF bl.x_Outside b.hd U bl.Outside_<|aa (zh<|pv 1) ae)
  aE)
  (ag<|aI<|tZ k cQ bl.k_Numbers b (pv 0)<|aa (pv 1) ae)),?_,)
 show(let g:TS:=_;ba _ g _ _ _);intro _;calc(a,_,_,U,c,U,a,lo,hi,v,U,(l,c,),Ah e,_,U,?_,);cases hb:inB lo hi v with
 |true=>exact bF (a,_,_,U,c,U,a,v,U,q hb,)
 |false=>calc eJ (e,(~~~0),λn=>((by show 1≤A8;decide),i hb,),)
def Ia(F:Fun K "read_domain" "read_domain" Y68 f fd)(bl:Bl K mg Y)(c:bB CX0 P w K mg base 3 "Words" Y.s ["self","words"] (df K Y))(C:⟨⟩ 4 "read_numbers" ["text"] (gx K Y)):() 5 f fd ["text"] (hV K Y):=by
 refine F.okA Z68 λa0 A o s H vs Q E r h=>?_
 let(z,d,rfl,G,t,q):=h
 refine(_,(ao (aQ (aH qG aN (pv 0) (by with_unfolding_all rfl))
  (ag<|aI<|aS C r U<|aa (pv 0) ae)
  aE)
  (ag<|aI<|t6 c cQ r U<|aa (br PySem.F.plainAttrs_str PySem.F.slot_str_split PySem.F.type_str_split ke (pv 0)<|aa aN ae) ae)),?_,)
 dsimp only[bh,Nz,Ny];show(let B:TS:=_;ba _ B _ _ _);intro _;cases d with
 |inl p =>
  let(hi,a,b,n,m,O,N,M,L,rfl):=t;calc(_,_,U,U,_,U,bR (λ_=>?_)<|λg=>Lp hi g,);exact(z,a,b,U,G,n,m,O,N,M,L,λx X y i J=>q x X y i J,)
 |inr j =>
  let(hi,n,m):=t;calc(_,_,U,U,_,U,bR (λg=>Lp (g.symm.trans hi) ⋯)<|λ_=>?_,);calc(U,z,mk2,U,U,⋯,gE ∅,λl I x v i e Z=>?_,);rw[n]at i e⊢;let u:upd H l (.lst<|j.map NE) l=Lg (.lst<|j.map NE):=af;let k:=ah I<|.lst<|j.map NE;generalize upd H l (.lst<|j.map NE)=H1 at u k i e⊢;calc(x,v,l,j,U,af,Al i e u,m,λW D T S R f4=>(U,?_,),);calc q x W (k.trans<|pT i e T) (k.free i) (v,D,S,R,)
def Ib(F:Fun K "read_value" "read_value" Y73 f fd)(bl:Bl K mg Y)(y:bE (CX1 P w) P w K mg base 4 Y.r "code" ["self","value"] (du K Y))(x:bE (CX1 P w) P w K mg base 4 Y.s "code" ["self","value"] (d6 K Y))(C:bD P w K mg base 4 "number_of" ["text"] (fH K Y)):aR P w K mg base (CX1 P w) 5 f fd ["domain","text"] (f9 K Y):=by
 refine F.okEA Z73 λJ A m s H M Q E g h=>?_
 let(d,z,rfl,e,i):=h
 refine(_,(ao (aQ (bH<|ar cG U bl.isinstance_ im<|aa (pv 0)<|aa (fm (v:=.ref Y.s) U bl.Words_ U) ae)
  (ag<|aI<|zo x i5 bl.k_Words g (pv 0)<|aa (pv 1) ae)
  aE)
  (ag<|aI<|zo y i5 bl.k_Numbers g (pv 0)<|aa (dR C i5 g U<|aa (pv 1) ae) ae)),?_,)
 dsimp only[bh,Nz,Ny];show(let t:TS:=_;ba _ t _ _ _);intro _;let I:=e.len;rcases i with⟨lo,hi,o,k,q,c,u⟩|⟨p,n,q,c⟩
 .let(G,b):=id o;calc(_,_,_,_,Lj,U,.ref _,bl.t_Numbers.ty b,bl.f_nw,_,U,bF ?_,);exact(d,_,_,U,b,U,z,U,e,λa=>(d,lo,hi,.int<|cJ z,U,o,.int<|k a,q a,c a,),u,)
 .let(G,l,b,N):=id n;calc(_,_,_,_,Li,U,.ref _,bl.t_Words.ty b,bl.f_ww,_,U,eJ ?_,);calc(d,_,_,U,b,U,d,p,.str z,U,n,.str ∅ e.low,(λL j D B=>by cases D;exact q j B),c,)
def Ic(F:Fun K "refuse_way" "refuse_way" Y86 f fd)(bl:Bl K mg Y)(r:⟨⟩ 4 "way_by" ["name"] (nM K Y)):() 5 f fd ["way","outcome"] (gc K Y):=by
 refine F.okA Z86 λt A g s H u Q E o h=>?_
 let(z,y,rfl,k,d,q):=h
 refine(_,(ag (aQ (PW.pt<|iI (aH cV (aO (aS r o U<|aa (pv 0) ae) U) aN<|aK _)<|fX<|bH<|ar cG U bl.isinstance_ im<|aa (pv 1)<|aa (fm (v:=.ref Y.s) U bl.Words_ U) ae)
  (ag bj)
  aE)),?_,)
 calc(z,U,k,λi B x C I b a m=>?_,);let j:Cls K C∧NoAttr K C s!"called":=by
  match i,a with
  |0,a=>cases a;exact(bl.k_First,bl.na_First_called,)
  |1,a=>cases a;exact(bl.k_Only,bl.na_Only_called,)
  |2,a=>cases a;exact(bl.k_Like,bl.na_Like_called,)
  |3,a=>cases a;exact(bl.k_Low,bl.na_Low_called,)
  |4,a=>cases a;exact(bl.k_High,bl.na_High_called,)
  |5,a=>cases a;exact(bl.k_Sum,bl.na_Sum_called,)
  |n+6,a=>simp[cl6]at a
 let(G,l):=m;calc(x,_,_,_,_,U,l,j.1,j.2,U,U,_,U,?_,);by_cases c:z=s!"sum"
 .let(D,fs,p):=d c;exact qW (by rw[c]) (_,_,_,_,Lj,U,.ref _,bl.t_Numbers.ty<|b _ _ p,bl.f_nw,_,U,bF<|q _ b,)
 .exact iw (λe=>by injection e with e;exact c e) (bF<|q _ b)
def Ie(F:Fun K "code_in_cell" "code_in_cell" Y33 f fd)(bl:Bl K mg Y)(t:bD P w K mg base 5 "read_value" ["domain","text"] (f9 K Y)):aR P w K mg base (CX1 P w) 6 f fd ["domain","text"] (eX K Y):=by
 refine F.okEA Z33 λy A l s H B Q E u h=>?_
 let(a,d,z,rfl,o,e,q,i):=h;calc(_,(ag<|Bm t u U U U U (aa (pv 0)<|aa (pv 1) ae) U bl.BadNumber_ U bl.Outside_ bl.x_BadCell U bl.BadCell_<|λ_ _=>(aa (tY<|pv 1) ae)),?_,);let x:=e.len;calc(a,z,U,e,?_,);cases d with
 |inl p =>
  refine .inl (p.1,p.2,o,BN,λc k=>q _<|sy c k,λc k=>(U,_,U,bl.f_x2,λtp b=>?_,),λc=>(U,_,U,bl.f_x1,λtp b=>?_,),)
  .exact⟨z,U,∅,e.low,(~~~0),λn=>⟨(by show 1≤A8;decide),λm=>i (pU λg=>by rw[k]at g;cases g.2) _ m (ah b _)⟩⟩
  .exact⟨z,U,∅,e.low,(~~~0),λn=>⟨(by show 1≤A8;decide),λm=>i (pU λg=>by rw[c]at g;cases g.1) _ m (ah b _)⟩⟩
 |inr r =>
  refine .inr (r,o,λj v=>q _ ?_,λc=>(U,_,U,bl.f_x2,λtp b=>?_,),)
  .rw[mR,fQ v];rfl
  .refine(z,U,∅,e.low,(~~~0),λn=>((by show 1≤A8;decide),λm=>i ?_ _ m<|ah b _,),);rw[mR,nH (of_decide_eq_false c)];rfl
def Ig(F:Fun K "codes_of" "codes_of" Y34 f fd)(bl:Bl K mg Y)(jJ:bD P w K mg base 5 "read_value" ["domain","text"] (f9 K Y)):() 6 f fd ["draft","outcome"] (kv K Y):=by
 refine F.okA Z34 λa0 A O s H vs Q E hr h=>?_
 let(x,ou,d,k,Z,rfl,(rl,C,(dx,cl,g1,g2),X,W),T,lh,M,hc,q):=h;refine(_,(ag<|aI<|fz (aT<|aO (pv 0) U) (fi (N:=["fields","value","outcome"]) (k:=2) (fr:=[1]) (cl:=[("outcome",↥s+1)]) U U (~~~0) (~~~0) U U (fJ.mpr (U,hQ _,)) U) U (λ_ _ _ _=>(lK (K:=K) (n:=2) U U<|aL (aG (i:=0) (show(["fields","value","outcome"]:Lw Str).Nodup by decide+kernel) U (cr U) (ul U)) (aL (aG (i:=1) (show(["fields","value","outcome"]:Lw Str).Nodup by decide+kernel) U (cr U) (ul U)) bC))) (λ_ _ _ _=>aY) (λ_ _ _ _=>(dR jJ qS hr U<|aa (pv 2)<|aa (pv 1) ae))),?_,);let L:=W.1;refine(x,_,_,_,_,U,g1,bl.k_Draft,bl.na_Draft_rows,U,rl,U,(_,Nw X,),(let I_:AM→Nat→Lw V→Hp→Prop:=λD i b a=>ak H a∧a D=Lg (.lst b)∧b=(Z.take i).map pi;di (xs:=C) I_ (λD m=>(ah m _,af,U,)) (λD i b a m _ h=>Nw<|h.1 _ _ X) (λD i y b a m e h o J=>?_) (λD b a m h=>?_)),)
 .let(g,z,rfl):=h;let(t,r,rfl,ek,l,h2,h3):=au.get W e;let(c,ec,o1,o2,R):=hc i r ek;let hi:i<C.length:=(IV.mp e).1;let(v,u,rfl):∃v u,o=[v,u]:=by
   match o,J with
   | [v,u],_=>exact(v,u,U,)
  calc(t,_,U,Nx<|g _ _ h2,U,_,_,U,_,_,U,U,([↑l,Lg (.str r.2)],U,U,),?_,);let fin:b7 (λD i b a=>ak H a∧a D=Lg (.lst b)∧b=(Z.take i).map pi) D i C.length (.int c) a:=b7.mk hi z (aC (by rw[ck,fK];lia)) (g.upd m,af,by rw[take_snoc ec,eg];rfl,);calc(ou,r.2,U,o1,?_,);cases k with
  |inl p =>
   let(I,G,n3,S):=BZ R;refine .inl ⟨p.1,p.2,iL.same (d:=.inl p) T g,λ_=>by rw[S];exact o2,λ_ _=>by rw[S];exact fin,λ_ h=>?_,λh=>by rw[I]at h;cases h⟩;rw[show inB p.1 p.2 (.int<|cJ r.2)=Li by simp[inB,G,n3]]at h;cases h
  |inr B =>
   let(I,G):=Aw R;refine .inr (B,iL.same (d:=.inr B) T g,λj hj=>by rw[G j hj];exact fin,λh=>?_,);rw[show inW B (.str r.2)=Li by simp[inW,I]]at h;cases h
 .let(g,z,rfl):=h;rw[L,←M,eY]at z;calc q D a g m z
def Ih(F:Fun K "__init__" "Table.__init__" Y19 f fd)(bl:Bl K mg Y)(j0:⟨⟩ 5 "refuse_names_tables" ["names"] (dt K Y))(jK:⟨⟩ 5 "refuse_counts_tables" ["names","rows"] (cZ K Y))(jL:⟨⟩ 5 "refuse_way" ["way","outcome"] (gc K Y))(tf:⟨⟩ 5 "refuse_row" ["domains","outcome","cells","code"] (iR K Y))(yu:⟨⟩ 5 "own_row" ["cells","code"] (l7 K Y)):() 6 f fd ["self","name","names","domains","outcome","way","rows"] (dg K Y):=by
 refine F.okA Z19 λe0 A d2 s H vs Q E hr h=>?_
 let(x,g,na,dl,m,rl,c,C,l,M,rx,bs,o,a2,rfl,hx,X,hw,c3,h1,h4,b9,c0,a1,c6,c2,S,hR,lh,d7,a5,q):=h
 refine(_,(ao (aX<|aS j0 hr U<|aa (aD ph (bJ<|aa (pv 1) ae)<|pv 2) ae)
  (ao (aX<|aS jK hr U<|aa (pv 2)<|aa (pv 6) ae)
  (ao (aX<|aS jL hr U<|aa (pv 5)<|aa (pv 4) ae)
  (aw (bw v2 U (aT<|pv 6) (fb U<|aL (aG (i:=7) Z19.nd U<|cr U)<|aL (aG (i:=8) Z19.nd U<|cr U) bC)
  (ag<|aX<|aS tf hr U<|aa (pv 3)<|aa (pv 4)<|aa (pv 7)<|aa (pv 8) ae))
  (ao (b6 (pv 0) (pv 1) U)
  (ao (b6 (pv 0) (a9 ft U bl.list_ wr<|aa (pv 2) ae) U)
  (ao (b6 (pv 0) (a9 ft U bl.list_ wr<|aa (pv 3) ae) U)
  (ao (b6 (pv 0) (pv 4) U)
  (ao (b6 (pv 0) (pv 5) U)
  (ag<|b6 (pv 0) (fz (aT<|pv 6) (fu (N:=["cells","code"]) (k:=2) U U (~~~0) (~~~0)<|~~~0) U (λ_ _ _ _=>(lK (K:=K) (n:=2) U U<|aL (aG (i:=0) (show(["cells","code"]:Lw Str).Nodup by decide+kernel) U (cr U) (ul U)) (aL (aG (i:=1) (show(["cells","code"]:Lw Str).Nodup by decide+kernel) U (cr U) (ul U)) bC))) (λ_ _ _ _=>aY) (λ_ _ _ _=>(aS yu hr U<|aa (pv 0)<|aa (pv 1) ae))) U)))))))))),?_,)
 dsimp only[bh,Nz,Ny];show(let r9:TS:=_;let r8:TS:=ba _ r9;let r7:TS:=ba _ r8;let r6:TS:=ba _ r7;let r5:TS:=ba _ r6;let r4:TS:=ba _ r5;let r3:TS:=aZ _ r4;let r2:TS:=ba _ r3;let r1:TS:=ba _ r2;ba _ r1 _ _ _);intro _ _ _ _ _ _ _ _ _;let a0:⇑(l.map NE)=⇑l:=ck _;refine((by show 1≤A8;decide),λl1 c5=>?_,);let s1:=ah c5<|.lst [.str c];let e1:upd H l1 (.lst [.str c]) l1=Lg (.lst [.str c]):=af;generalize upd H l1 (.lst [.str c])=H1 at s1 e1⊢;refine(l1,na,_,_,U,U,e1,s1 _ _ X,(by rw[a0];show 1+⇑l≤A8;exact big ∅),λl2 c4=>?_,);let s2:=s1.trans<|ah c4<|.lst<|[NE c]++l.map NE;let e2:upd H1 l2 (.lst<|[NE c]++l.map NE) l2=Lg (.lst<|(c :: l).map NE):=af;generalize upd H1 l2 (.lst<|[NE c]++l.map NE)=H2 at s2 e2⊢;refine(l2,c :: l,U,Nw e2,hw,c3,by rw[ig];lia,λH3 t3=>?_,);let s3:=s2.trans t3;refine(na,rl,_,_,U,Nw<|s3 _ _ X,Nw<|s3 _ _ S,by rw[a0];exact h1,by rw[a0];exact h4,lh,?_,);calc(C,m,U,b9,(λz=>let ⟨dx',fs',e'⟩:=c0 z;(dx',fs',s3 _ _ e',)),λH4 t4=>?_,);let s4:=s3.trans t4;refine(let I_:St→Hp→Prop:=λa8 B=>ak H B∧E2 λc7 c8:Option V=>a8=[↑x,Lg<|.str c,↑na,↑dl,↑m,Lg<|.str C,↑rl,c7,c8];(I_,?_,?_,))
 .refine(rl,U,(_,Nw<|s4 _ _ S,),(let I_:Nat→St→Hp→Prop:=λi σ B=>ak H B∧E2 λc7 c8:Option V=>σ=[↑x,Lg<|.str c,↑na,↑dl,↑m,Lg<|.str C,↑rl,c7,c8];bo (xs:=rx) I_ (s4,_,_,U,) (λi σ B _ h=>Nw<|h.1 _ _ S) (λi y σ B e h=>?_) (λσ B h=>h)),);let(v,c7,c8,rfl):=h;let(r,w_,rfl,ew,ce,cv,g1,_,g2,g3):=au.get (hR.same v) e;calc(r,_,U,Nx g1,U,_,_,U,_,_,U,U,?_,);exact(dl,m,ce,M,cv,bs,o,w_,U,Nw<|v _ _ a1,au.mono c6 λ_ _ p=>p.same v,c2.same v,g2,g3,a5 w_<|IW ew,λH2 t2=>(v.trans t2,_,_,U,),)
 rintro d3 O ⟨L,c7,c8,rfl⟩;let x5:=L _ _ hx;let b3:na≠x:=eB X hx (by intro z;cases z);let d0:dl≠x:=eB a1 hx (by intro z;cases z);let b0:rl≠x:=eB S hx (by intro z;cases z);let k5:∀b o,b≠x→H b=Lg o→O b=Lg o:=λb o _ e=>L b o e
 let R5:=RL.hide x5<|hR.same L;refine(x,_,g,_,U,x5,bl.k_Table,bl.na_Table_name,(by show 0<1000;decide),?_,);let k6:∀b o,b≠x→O b=Lg o→upd O x (.ins Y.t g [(s!"name",.str c)]) b=Lg o:=λb o u e=>(ay u).trans e
 let x6:upd O x (.ins Y.t g [(s!"name",.str c)]) x=Lg (.ins Y.t g [(s!"name",.str c)]):=af;let g6:upd O x (.ins Y.t g<|bQ s!"name" (.str c) [])=upd O x (.ins Y.t g [(s!"name",.str c)]):=rfl;rw[g6];clear g6;generalize upd O x (.ins Y.t g [(s!"name",.str c)])=H6 at k6 x6⊢;refine(na,_,U,.inl<|Nw<|k6 _ _ b3<|L _ _ X,λd T=>(x,_,g,_,U,dS x6 T,bl.k_Table,bl.na_Table_names,(by show 1<1000;decide),?_,),);let g7:upd (upd H6 d<|.lst<|l.map NE) x (.ins Y.t g<|bQ s!"names" (NC d) [(s!"name",NE c)])=upd (upd H6 d<|.lst<|l.map NE) x (.ins Y.t g [(s!"name",NE c),(s!"names",NC d)]):=by rw[pf1]
 rw[g7];clear g7;let k7:∀b o,b≠x→O b=Lg o→upd (upd H6 d<|.lst<|l.map NE) x (.ins Y.t g [(s!"name",NE c),(s!"names",NC d)]) b=Lg o:=λb o u e=>(ay u).trans<|dS (k6 b o u e) T
 let x7:upd (upd H6 d<|.lst<|l.map NE) x (.ins Y.t g [(s!"name",NE c),(s!"names",NC d)]) x=Lg (.ins Y.t g [(s!"name",NE c),(s!"names",NC d)]):=af;let R:d≠x:=λz=>by rw[z,x6]at T;cases T
 let j7:upd (upd H6 d<|.lst<|l.map NE) x (.ins Y.t g [(s!"name",NE c),(s!"names",NC d)]) d=Lg (.lst<|l.map NE):=(ay R).trans af;generalize upd (upd H6 d<|.lst<|l.map NE) x (.ins Y.t g [(s!"name",NE c),(s!"names",NC d)])=H7 at k7 x7 j7⊢;refine(dl,_,U,.inl<|Nw<|k7 _ _ d0<|L _ _ a1,λj J=>(x,_,g,_,U,dS x7 J,bl.k_Table,bl.na_Table_domains,(by show 2<1000;decide),?_,),);let g8:upd (upd H7 j<|.lst M) x (.ins Y.t g<|bQ s!"domains" (NC j) [(s!"name",NE c),(s!"names",NC d)])=upd (upd H7 j<|.lst M) x (.ins Y.t g [(s!"name",NE c),(s!"names",NC d),(s!"domains",NC j)]):=by rw[pf2]
 rw[g8];clear g8;let k8:∀b o,b≠x→O b=Lg o→upd (upd H7 j<|.lst M) x (.ins Y.t g [(s!"name",NE c),(s!"names",NC d),(s!"domains",NC j)]) b=Lg o:=λb o u e=>(ay u).trans<|dS (k7 b o u e) J
 let x8:upd (upd H7 j<|.lst M) x (.ins Y.t g [(s!"name",NE c),(s!"names",NC d),(s!"domains",NC j)]) x=Lg (.ins Y.t g [(s!"name",NE c),(s!"names",NC d),(s!"domains",NC j)]):=af;let W:j≠x:=λz=>by rw[z,x7]at J;cases J
 let j8:upd (upd H7 j<|.lst M) x (.ins Y.t g [(s!"name",NE c),(s!"names",NC d),(s!"domains",NC j)]) d=Lg (.lst<|l.map NE):=(ay R).trans<|dS j7 J;let i8:upd (upd H7 j<|.lst M) x (.ins Y.t g [(s!"name",NE c),(s!"names",NC d),(s!"domains",NC j)]) j=Lg (.lst M):=(ay W).trans af;generalize upd (upd H7 j<|.lst M) x (.ins Y.t g [(s!"name",NE c),(s!"names",NC d),(s!"domains",NC j)])=H8 at k8 x8 j8 i8⊢;refine(x,_,g,_,U,x8,bl.k_Table,bl.na_Table_outcome,(by show 3<1000;decide),?_,);let g9:upd H8 x (.ins Y.t g<|bQ s!"outcome" (NC m) [(s!"name",NE c),(s!"names",NC d),(s!"domains",NC j)])=upd H8 x (.ins Y.t g [(s!"name",NE c),(s!"names",NC d),(s!"domains",NC j),(s!"outcome",NC m)]):=by rw[pf3]
 rw[g9];clear g9;let k9:∀b o,b≠x→O b=Lg o→upd H8 x (.ins Y.t g [(s!"name",NE c),(s!"names",NC d),(s!"domains",NC j),(s!"outcome",NC m)]) b=Lg o:=λb o u e=>(ay u).trans<|k8 b o u e
 let x9:upd H8 x (.ins Y.t g [(s!"name",NE c),(s!"names",NC d),(s!"domains",NC j),(s!"outcome",NC m)]) x=Lg (.ins Y.t g [(s!"name",NE c),(s!"names",NC d),(s!"domains",NC j),(s!"outcome",NC m)]):=af;let j9:upd H8 x (.ins Y.t g [(s!"name",NE c),(s!"names",NC d),(s!"domains",NC j),(s!"outcome",NC m)]) d=Lg (.lst<|l.map NE):=(ay R).trans j8;let i9:upd H8 x (.ins Y.t g [(s!"name",NE c),(s!"names",NC d),(s!"domains",NC j),(s!"outcome",NC m)]) j=Lg (.lst M):=(ay W).trans i8;generalize upd H8 x (.ins Y.t g [(s!"name",NE c),(s!"names",NC d),(s!"domains",NC j),(s!"outcome",NC m)])=H9 at k9 x9 j9 i9⊢;refine(x,_,g,_,U,x9,bl.k_Table,bl.na_Table_way,(by show 4<1000;decide),?_,);let a6:upd H9 x (.ins Y.t g<|bQ s!"way" (NE C) [(s!"name",NE c),(s!"names",NC d),(s!"domains",NC j),(s!"outcome",NC m)])=upd H9 x (.ins Y.t g [(s!"name",NE c),(s!"names",NC d),(s!"domains",NC j),(s!"outcome",NC m),(s!"way",NE C)]):=by rw[pf4]
 rw[a6];clear a6;let I:∀b o,b≠x→O b=Lg o→upd H9 x (.ins Y.t g [(s!"name",NE c),(s!"names",NC d),(s!"domains",NC j),(s!"outcome",NC m),(s!"way",NE C)]) b=Lg o:=λb o u e=>(ay u).trans<|k9 b o u e
 let G:upd H9 x (.ins Y.t g [(s!"name",NE c),(s!"names",NC d),(s!"domains",NC j),(s!"outcome",NC m),(s!"way",NE C)]) x=Lg (.ins Y.t g [(s!"name",NE c),(s!"names",NC d),(s!"domains",NC j),(s!"outcome",NC m),(s!"way",NE C)]):=af;let a3:upd H9 x (.ins Y.t g [(s!"name",NE c),(s!"names",NC d),(s!"domains",NC j),(s!"outcome",NC m),(s!"way",NE C)]) d=Lg (.lst<|l.map NE):=(ay R).trans j9;let a4:upd H9 x (.ins Y.t g [(s!"name",NE c),(s!"names",NC d),(s!"domains",NC j),(s!"outcome",NC m),(s!"way",NE C)]) j=Lg (.lst M):=(ay W).trans i9;generalize upd H9 x (.ins Y.t g [(s!"name",NE c),(s!"names",NC d),(s!"domains",NC j),(s!"outcome",NC m),(s!"way",NE C)])=H10 at I G a3 a4⊢;let d1:RL NT H10 rx a2:=RL.same R5<|q8 I;let CA:=I _ _ b0<|L _ _ S
 refine(rl,U,(_,Nw CA,),(let I_:AM→Nat→Lw V→Hp→Prop:=λD i l B=>ak H10 B∧B D=Lg (.lst l)∧RL (Fr H10 D) B l (a2.take i);di (xs:=rx) I_)
  (λD Z=>(ah Z _,af,au.nil,)) (λD i l B Z _ h=>Nw<|h.1 _ _ CA) (λD i y l B Z e h ts c1=>?_) (λD l B Z h=>?_),)
 .let(v,eD,hz):=h;let(r,w_,rfl,ew,ce,cv,g1,_,g2,g3):=au.get (d1.same v) e;let hi:i<⇑rx:=(IV.mp e).1;let(t0,t1,rfl):∃t0 t1,ts=[t0,t1]:=by
   match ts,c1 with
   | [t0,t1],_=>exact(t0,t1,U,)
  calc(r,_,U,Nx g1,U,_,_,U,_,_,U,U,([↑ce,Lg (.int w_.2)],U,U,),?_,);refine(ce,cv,w_,U,g2,g3,by rw[(a5 w_<|IW ew).len];lia,λr2 H2 t2 d4 vV=>?_,);let a7:=t2 _ _ eD;let d5:⇑l≤200:=by
   let:=hz.1;rw[fK]at this;lia
  calc b7.mk hi a7 (aC ∅) ((v.trans t2).upd Z,af,?_,);rw[take_snoc ew];exact RL.updN (au.snoc (hz.same t2)<|vV.wk λa h=>⟨v.free h,λz=>by rw[z,eD]at h;cases h⟩) Fr.out a7
 .let(v,eD,hz):=h;rw[hR.1,eY]at hz;refine(x,_,g,_,U,v _ _ G,bl.k_Table,bl.na_Table_rows,(by show 5<1000;decide),?_,);let c9:upd B x (.ins Y.t g<|bQ s!"rows" (NC D) [(s!"name",NE c),(s!"names",NC d),(s!"domains",NC j),(s!"outcome",NC m),(s!"way",NE C)])=upd B x (.ins Y.t g [(s!"name",NE c),(s!"names",NC d),(s!"domains",NC j),(s!"outcome",NC m),(s!"way",NE C),(s!"rows",NC D)]):=by rw[pf5]
  rw[c9];let b4:D≠x:=λz=>by rw[z,G]at Z;cases Z
  calc q _ _ D l (λb o u e=>(ay u).trans<|v _ _<|I b o u<|L _ _ e) af U U U U (d,j,L.free<|jb k6 x6 T,L.free<|jb k7 x7 J,U,U,(ay R).trans<|v _ _ a3,(ay W).trans<|v _ _ a4,) (L.free<|jb I G Z) ((ay b4).trans eD) ?_;calc RL.same (RL.hideN (v _ _ G)<|au.mono hz λ_ _ p=>p.wk λa h=>L.free<|jb I G h.1)<|q8 λb o u e=>(ay u).trans e
def Ii(F:Fun K "read_range" "read_range" Y71 f fd)(bl:Bl K mg Y)(N:bD P w K mg base 6 "code_in_cell" ["domain","text"] (eX K Y)):aR P w K mg base (CX1 P w) 7 f fd ["domain","part"] (iS K Y):=by
 refine F.okEA Z71 λa3 A G s H vs Q E j h=>?_
 let(a,p,z,rfl,B,y,hd,q,r):=h
 refine(_,(ao (aJ (i:=2) Z71.nd U (cr U)<|br PySem.F.plainAttrs_str PySem.F.slot_str_partition PySem.F.type_str_partition ee (pv 1)<|aa (cb U bl.UP_TO_) ae)
  (ao (aQ (aH cV (pv 1) (cb U bl.UP_TO_)<|aK _)
  (ag<|cF bl.x_BadCell j.hd U bl.BadCell_<|aa aN ae)
  aE)
  (aw (aJ (i:=3) Z71.nd U (cr U)<|mr (fq (az aM (pv 2) ai<|λ_ _=>U) (by intro _;rfl)) (dR N i5 j U<|aa (pv 0)<|aa (az aM (pv 2) ai<|λ_ _=>U) ae) (aO (pv 0) U))
  (aw (aJ (i:=4) Z71.nd U (cr U)<|mr (fq (az aM (pv 2) ai<|λ_ _=>U) (by intro _;rfl)) (dR N i5 j U<|aa (pv 0)<|aa (az aM (pv 2) ai<|λ_ _=>U) ae) (aO (pv 0) U))
  (ao (aQ (aH gB (pv 3) (pv 4)<|aK _)
  (ag<|cF bl.x_BadCell j.hd U bl.BadCell_<|aa (tY<|pv 1) ae)
  aE)
  (ag<|aI<|bz<|aa (pv 3)<|aa (pv 4) ae)))))),?_,)
 dsimp only[bh,Nz,Ny];show(let O:TS:=_;let R:TS:=ba _ O;let S:TS:=aZ _ R;let T:TS:=aZ _ S;let V:TS:=ba _ T;ba _ V _ _ _);intro _ _ _ _ _;let(dx,M):=id B;let(L,J):=BO y hd;let a2:=y.len;calc(U,z,bq,U,U,⋯,big ∅,λt X=>?_,);let v:upd H t (.tup [.str (dL z bq).1,.str (dL z bq).2.1,.str (dL z bq).2.2]) t=Lg (.tup [.str (dL z bq).1,.str (dL z bq).2.1,.str (dL z bq).2.2]):=af;let d:=ah X<|.tup [.str (dL z bq).1,.str (dL z bq).2.1,.str (dL z bq).2.2];generalize upd H t (.tup [.str (dL z bq).1,.str (dL z bq).2.1,.str (dL z bq).2.2])=H1 at v d⊢;refine(U,_,U,bR (λg=>?_)<|λg=>?_,)
 .let e:z=bq:=by have:=Ls g;injection this
  exact((by show 1≤A8;decide),r (by unfold fD;rw[Lo e]) _ _ d,)
 let ne:z≠bq:=λe=>g (by rw[e];exact Lq U)
 refine(let C:St→Hp→Prop:=λl n=>ak H1 n∧∃c:Int,endOf p p.1 (dL z bq).1=Lg c∧l=[↑a,Lg<|.str z,↑t,Lg<|.int c,Lh];(C,?_,?_,))
 .refine(t,_,_,_,U,U,Nx v,U,_,(Fe _ L,U,),?_,);rcases xb (dL z bq).1 with e|e
  .rw[e];calc eJ (t,_,_,_,U,U,Nx v,U,a,.inl p,_,U,jX.same B d,L,λc k=>?_,λk n m x=>r (pV<|.inl<|(ki e).trans k) _ m<|d.trans x,);exact(ak.refl _,c,(ki e).trans k,U,)
  .rw[e];calc bF (a,_,_,_,_,U,d _ _ M,bl.k_Numbers,bl.na_Numbers_low,U,?_,);exact(ak.refl _,p.1,nI (by rw[e];decide),U,)
 rintro a1 H2 ⟨b,c,k,rfl⟩;let o:=b _ _ v;refine(let C:St→Hp→Prop:=λl n=>ak H2 n∧∃e:Int,endOf p p.2 (dL z bq).2.2=Lg e∧l=[↑a,Lg<|.str z,↑t,Lg<|.int c,Lg (.int e)];(C,?_,?_,))
 .refine(t,_,_,_,U,U,Nx o,U,_,(Fe _ J,U,),?_,);rcases xb (dL z bq).2.2 with e|e
  .rw[e];calc eJ (t,_,_,_,U,U,Nx o,U,a,.inl p,_,U,jX.same B<|d.trans b,J,λc k=>?_,λk n m x=>r (pV<|.inr<|(ki e).trans k) _ m<|(d.trans b).trans x,);exact(ak.refl _,c,(ki e).trans k,U,)
  .rw[e];calc bF (a,_,_,_,_,U,b _ _<|d _ _ M,bl.k_Numbers,bl.na_Numbers_high,U,?_,);exact(ak.refl _,p.2,nI (by rw[e];decide),U,)
 rintro a0 H3 ⟨D,e,Z,rfl⟩;let I:=(d.trans b).trans D;let j:=pW ne k Z;refine(_,_,U,U,_,U,bR (λg=>?_)<|λg=>?_,)
 .rw[Lo (gg g)]at j;exact(z,U,∅,y.low,(~~~0),λz2=>((by show 1≤A8;decide),r j _ _ I,),)
 .rw[Lm (ip g)]at j;calc((by show 2≤A8;decide),λu W=>q _ j u _ (I.trans<|ah W _) af,)
def Ij(F:Fun K "read_part" "read_part" Y70 f fd)(bl:Bl K mg Y)(C:bD P w K mg base 7 "code_in_cell" ["domain","text"] (eX K Y))(x:bD P w K mg base 7 "read_range" ["domain","part"] (iS K Y)):aR P w K mg base (CX1 P w) 8 f fd ["domain","part"] (jF K Y):=by
 refine F.okEA Z70 λG A r s H I Q E t h=>?_
 let(a,d,z,rfl,j,n,q,e):=h
 refine(_,(ao (aQ (PW.pt<|iI (aH qG (cb U bl.UP_TO_) (pv 1) (by with_unfolding_all rfl)) (fX<|cK<|bH<|ar cG U bl.isinstance_ im<|aa (pv 0)<|aa (fm (v:=.ref Y.s) U bl.Words_ U) ae))
  (ag<|aI<|dR x i5 t U<|aa (pv 0)<|aa (pv 1) ae)
  aE)
  (ao (aJ (i:=2) Z70.nd U (cr U)<|dR C i5 t U<|aa (pv 0)<|aa (pv 1) ae)
  (ag<|aI<|bz<|aa (pv 2)<|aa (pv 2) ae))),?_,)
 dsimp only[bh,Nz,Ny];show(let y:TS:=_;let B:TS:=ba _ y;ba _ B _ _ _);intro _ _;cases d with
 |inl p =>
  let(D,o):=id j;refine(_,_,U,U,_,U,bR (λg=>?_)<|λg=>?_,)
  .let l:cC (.inl p) z=fD p z:=jx g;rw[l]at q e;calc(_,_,_,_,Lj,U,.ref _,bl.t_Numbers.ty o,bl.f_nw,_,U,eJ ?_,);exact(a,p,z,U,j,n,g,q,e,)
  .let l:cC (.inl p) z=(codeOf (.inl p) z).map λc=>(c,c):=nJ g
   rw[l]at q e;refine bF (a,.inl p,z,U,j,n,λc b=>?_,λb=>e (by rw[b];rfl),);exact((by show 2≤A8;decide),λu k=>q (c,c) (by rw[b];rfl) u _ (ah k _) af,)
 |inr m =>
  let(D,lw,o,J):=id j;let l:cC (.inr m) z=(codeOf (.inr m) z).map λc=>(c,c):=um
  rw[l]at q e;refine(_,_,U,U,_,U,bR (λg=>?_)<|λg=>?_,)
  .refine(_,_,_,_,Li,U,.ref _,bl.t_Words.ty o,bl.f_ww,_,U,bF ?_,);refine(a,.inr m,z,U,j,n,λc b=>?_,λb=>e (by rw[b];rfl),);exact((by show 2≤A8;decide),λu k=>q (c,c) (by rw[b];rfl) u _ (ah k _) af,)
  .refine bF (a,.inr m,z,U,j,n,λc b=>?_,λb=>e (by rw[b];rfl),);calc((by show 2≤A8;decide),λu k=>q (c,c) (by rw[b];rfl) u _ (ah k _) af,)
def Ik(F:Fun K "made_table" "made_table" Y62 f fd)(bl:Bl K mg Y)(m:bB CX0 P w K mg base 6 "Table" Y.t ["self","name","names","domains","outcome","way","rows"] (dg K Y)):() 8 f fd ["draft","domains","rows"] (iT K Y):=by
 refine F.okA Z62 λd2 A c8 s H vs Q E hr h=>?_
 let(x,da,rl,d,dom,rx,a3,ks,ko,rfl,(d0,rv,(dx,cl,L,g2),g3,g4),Z,X,hw,c2,h1,h4,c0,D1,W,c4,c3,c5,hR,lh,vV,q):=h
 refine(_,(aw (jq (i:=3) Z62.nd U (cr U) (aT<|aO (pv 0) U) (bp (N:=["name","domains"]) (fr:=[1]) (cl:=[("domains",↥s+1)]) U U (~~~0) (~~~0) U (~~~0) U U U (fJ.mpr (U,hQ _,)) U) U (λ_ _ _ _=>aY)<|λ_ _ _ _=>(az (mL (K:=K) U) (pv 1) (pv 0)<|λ_ _=>U))
  (ag<|aI<|t6 m cQ hr U<|aa (aO (pv 0) U)<|aa (aO (pv 0) U)<|aa (pv 3)<|aa (az mK (pv 1) (aO (pv 0) U)<|λ_ _=>U)<|aa (aO (pv 0) U)<|aa (pv 2) ae)),?_,)
 dsimp only[bh,Nz,Ny];show(let r1:TS:=_;aZ _ r1 _ _ _);intro _;let l1:⇑(d.cs.map NE)=⇑d.cs:=ck _;refine(let I_:St→Hp→Prop:=λa0 l=>ak H l∧E2 λ(D:AM)(S:Lw V)=>A3 (l D=Lg (.lst S)) (au S ks<|dE Y.r Y.s H)<|a0=[↑x,↑da,↑rl,↑D];(I_,?_,?_,))
 .refine(x,_,_,_,_,U,L,bl.k_Draft,bl.na_Draft_columns,U,cl,U,(_,Nw g2,),(let I_:AM→Nat→Lw V→Hp→Prop:=λD i G l=>ak H l∧l D=Lg (.lst G)∧au G (ks.take i) (dE Y.r Y.s H);bP (xs:=d.cs.map NE) I_ (λD J=>(ah J _,af,au.nil,)) (λD i G l J _ h=>Nw<|h.1 _ _ g2) (λD i y G l J e h=>?_) (λD G l J h=>?_)),)
  .let(sm,R,I):=h;let(c,rfl,M):=bW e;let(k,e1,e2):=c3 i c M;let hi:i<⇑(d.cs.map NE):=(IV.mp e).1;let(o,C,v):=id Z;let(xk,e3,e4):=v c k e1;refine(da,o,c,_,U,U,sm _ _ C,e3,b7.mk hi R (aC (by have:=I.1;rw[fK]at this;lia)) (sm.upd J,af,?_,),);rw[take_snoc e2];exact au.snoc I<|vM e4 λzs z=>X c zs (by rw[e1,z])
  .let(sm,R,I):=h;rw[l1,←c4,eY]at I;exact(sm,D,G,R,I,U,)
 rintro c9 H1 ⟨n,D,S,R,B,rfl⟩;let(o,C,v):=id Z;let(ou,e3,e4):=v d.nm ko W;let T:dE Y.r Y.s H ou (dkm ko):=vM e4 λzs z=>X d.nm zs (by rw[W,z])
 calc(x,_,_,_,_,U,(n _ _ L),bl.k_Draft,bl.na_Draft_name,U,x,_,_,_,_,U,(n _ _ L),bl.k_Draft,bl.na_Draft_columns,U,x,_,_,_,_,U,(n _ _ L),bl.k_Draft,bl.na_Draft_name,U,da,o,d.nm,_,U,U,n _ _ C,e3,x,_,_,_,_,U,(n _ _ L),bl.k_Draft,bl.na_Draft_way,U,λt tx ht c1 d1=>?_,);let s2:ak H1 (upd (upd H1 tx<|.own t) t<|.ins Y.t tx []):=(ah c1 _).upd ht;let g:=n.trans s2;refine(t,tx,cl,D,ou,rl,d.nm,d.wy,d.cs,S,rx,ks.map (·.2),(dkm ko).2,a3,U,af,g _ _ g2,hw,c2,h1,h4,c0,λz=>?_,s2 _ _ R,?_,(T.same g).dom,g _ _ c5,hR.same g,lh,by rw[ck];lia,vV,λl fs a4 a1 k1 k2 k3 b9 b4 b3 (a5,c7,fn,fd,b0,a8,a7,a6,) fr k4 k5=>?_,)
 .let(p,rfl):=D1 z;let(c6,e):=e4;exact(c6,_,g _ _ e,)
 .refine(by rw[ck];exact B.1,λj b O=>?_,);rw[dV]at O;cases M:ks[j]? with
  |none=>rw[M]at O;cases O
  |some kk =>
   rw[M]at O;cases O;let(r1,e1,p1):=B.2 j kk M;exact(r1,e1,(p1.same g).dom,)
 .let s3:ak H1 l:=λb u e=>k1 b u (bG e ht)<|s2 _ _ e
  let a2:=n.trans s3;calc(U,q t l a2 (n.free ht) (ou,S,a4,tx,a5,c7,fs,a1,k2,k3,b3,b9,b4,b0,a8,g.free fn,g.free fd,g.free fr,a7,a6,k4,au.mono k5<|λ_ _ p=>p.wk λa h=>g.free h,by rw[k5.1,←hR.1];exact lh,B,T,),)
def Il(F:Fun K "read_set" "read_set" Y72 f fd)(bl:Bl K mg Y)(D3:⟨⟩ 8 "tidy" ["pairs"] (sS K Y))(dC:bE CX0 P w K mg base 8 Y.r "whole" ["self"] (b5 K Y))(d7:bE CX0 P w K mg base 8 Y.s "whole" ["self"] (cA K Y))(uE:bD P w K mg base 8 "read_part" ["domain","part"] (jF K Y)):aR P w K mg base (CX1 P w) 9 f fd ["domain","text"] (kx K Y):=by
 refine F.okEA Z72 λb0 A a7 s H vs Q E o h=>?_
 let(a,d,z,rfl,O,a4,a1,T,a6,q,qE):=h
 refine(_,(ao (aQ (aH cV (pv 1) (cb U bl.ALL_)<|aK _)
  (ag<|aI<|wL (xS dC bl.k_Numbers<|xS d7 bl.k_Words Dq) cQ o<|pv 0)
  aE)
  (ag<|aI<|aS D3 o U<|aa (xR U U U Dp (aT<|br PySem.F.plainAttrs_str PySem.F.slot_str_split PySem.F.type_str_split ke (pv 1)<|aa aN ae) (fi (N:=["part","domain"]) (k:=1) (fr:=[0]) (cl:=[("domain",↥s+1)]) U U (~~~0) (~~~0) U U (fJ.mpr (U,hQ _,)) U) U (λ_ _ _ _=>(aG (i:=0) (show(["part","domain"]:Lw Str).Nodup by decide+kernel) U (cr U) (ul U))) (λ_ _ _ _=>aY) (λ_ _ _ _ _ a3=>(dR uE (EO a3) o U<|aa (pv 1)<|aa (pv 0) ae))) ae)),?_,)
 dsimp only[bh,Nz,Ny];show(let r1:TS:=_;ba _ r1 _ _ _);intro _;refine(U,_,U,bR (λg=>?_)<|λg=>?_,)
 .let e:z=s!"-" := by have:=Ls g;injection this
  let ep:partsOf d z=Lg [fg d]:=by unfold partsOf;rw[Lo e]
  let fin:∀(l t:AM)(b:Hp),ak H b→H l=Lh→b l=Lg (.lst [.ref t])→b t=Lg (.tup [.int (fg d).1,.int (fg d).2])→Q (.ref l) b:=λl t b M G j I=>q _ ep l b [.ref t] [fg d] M G j (.cons (t,U,I,) .nil) (Am a4) (λ_=>U) (by show 1≤64;decide)
  cases d with
  |inl p =>
   let(dx,ha):=id O;exact(a,_,dx,_,U,.head _,ha,U,a,p.1,p.2,U,O,λl t b M G j I=>fin l t b M G j I,)
  |inr u =>
   let(dx,lw,ha,hw):=id O;exact(a,_,dx,_,U,.tail _<|.head _,ha,U,a,u,U,O,λl t b M G j I=>fin l t b M G j I,)
 .let ne:z≠s!"-" := λe=>g (by rw[e];exact Lq U)
  let ep:partsOf d z=iM (cC d) (io z mk2):=by unfold partsOf;rw[Lm ne]
  rw[ep]at q qE;calc(U,z,mk2,U,U,⋯,a1,λl G=>?_,);let j:upd H l (.lst<|(io z mk2).map NE) l=Lg (.lst<|(io z mk2).map NE):=af;let L:=ah G<|.lst<|(io z mk2).map NE;generalize io z mk2=u at j L T a6 q qE⊢;generalize upd H l (.lst<|u.map NE)=H1 at j L⊢;let v:⇑(u.map NE)=⇑u:=ck _;refine(l,U,(_,Nw j,),(let I_:AM→Nat→Lw V→Hp→Prop:=λD i B b=>ak H1 b∧b D=Lg (.lst B)∧∃C:Prs,iM (cC d) (u.take i)=Lg C∧PL b B C∧B.length=i;di (xs:=u.map NE) I_ (λD c=>(ah c _,af,[],U,.nil,U,)) (λD i B b c _ h=>Nw<|h.1 _ _ j) (λD i x B b c ex h ts a2=>?_) (λD B b c h=>?_)),)
  .let(J,S,C,ap,hP,W):=h;let(y,rfl,ey):=bW ex;let a5:i<⇑(u.map NE):=(IV.mp ex).1;let(X,rfl):∃X,ts=[X]:=by
    match ts,a2 with
    | [X],_=>exact(X,U,)
   calc(([Lg (.str y)],U,U,),?_,);calc(a,d,y,U,O.same<|L.trans J,T y<|IW ey,λr o t Z n I=>?_,λo Z m n=>qE (rA ey o) Z m<|(L.trans J).trans n,);refine b7.mk a5 (n _ _ S) (aC ∅) ((J.trans n).upd c,af,C++[r],by rw[take_snoc ey];exact rB ap o,?_,by rw[eH,iU];lia,);exact((hP.mono n.tups).mono<|bZ<|n _ _ S).snoc (bZ (n _ _ S) _ _ I)
  .let(J,S,C,ap,hP,W):=h;rw[v,eY]at ap;rw[v]at W;calc(D,B,C,U,Nw S,hP,∅,λr Z a0 R n o er hR ti a8=>?_,);calc q C ap r Z a0 R ((L.trans J).trans n) ((L.trans J).free o) er hR ti.ap ti.mem ∅
def Im(F:Fun K "read_cell" "read_cell" Y67 f fd)(bl:Bl K mg Y)(qh:bD P w K mg base 9 "read_set" ["domain","text"] (kx K Y))(yv:⟨⟩ 9 "without" ["ones","others"] (jA K Y))(dC:bE CX0 P w K mg base 9 Y.r "whole" ["self"] (b5 K Y))(d7:bE CX0 P w K mg base 9 Y.s "whole" ["self"] (cA K Y)):aR P w K mg base (CX1 P w) 10 f fd ["domain","text"] (jG K Y):=by
 refine F.okEA Z67 λa7 A a5 s H vs Q E D h=>?_
 let(a,d,z,y,b,rfl,x,k,a0,hb,u,M,j,c,q,O):=h
 refine(_,(ao (aQ (bH<|br PySem.F.plainAttrs_str PySem.F.slot_str_startswith PySem.F.type_str_startswith eO (pv 1)<|aa (cb U bl.NOT_) ae)
  (ag<|aI<|aS yv D U<|aa (wL (xS dC bl.k_Numbers<|xS d7 bl.k_Words Dq) cQ D<|pv 0)<|aa (dR qh i5 D U<|aa (pv 0)<|aa (iZ pC (pv 1) (jo<|ar d8 U bl.len_ Lf<|aa (cb U bl.NOT_) ae) mz) ae) ae)
  aE)
  (ag<|aI<|dR qh i5 D U<|aa (pv 0)<|aa (pv 1) ae)),?_,)
 dsimp only[bh,Nz,Ny];show(let r1:TS:=_;ba _ r1 _ _ _);intro _;calc(U,z,_,U,U,_,U,?_,);cases b with
 |false =>
  rw[Lm bv]at u;rw[hb];refine bF (a,d,z,U,x,k,a0,(by rw[u]at j;exact j),(by rw[u]at c;exact c),λC J l H' v R S G B X ap T a3=>?_,(by rw[u]at O;exact O),);rw[u]at q;exact q C J l H' v R S G B X ap (λn=>T n) ∅
 |true =>
  rw[Lo U]at u;rw[hb];let fin:∀(l t:AM)(g:Hp),ak H g→H l=Lh→g l=Lg (.lst [.ref t])→g t=Lg (.tup [.int (fg d).1,.int (fg d).2])→∀C,partsOf d y=Lg C→∀(I:AM)(i:Hp)(v:Lw V)(R:Prs),ak g i→g I=Lh→i I=Lg (.lst v)→PL i v R→Apart R→(∀n,inP R n=inP C n)→⇑v≤64→jA K Y [.ref l,.ref I] i Q E0:=λl t g e G B L C a1 I i v R o a3 a4 X ap T c=>by
   refine(l,I,[.ref t],v,[fg d],R,U,Nw<|o _ _ B,Nw a4,.cons (t,U,o _ _ L,) .nil,X,Am k,ap,(by show 1≤450;decide),∅,λr H' N F S D er hF aF a2 a6=>?_,);refine q C a1 r H' N F ((e.trans o).trans S) ((e.trans o).free D) er hF aF (λn=>?_) ?_
   .rw[Lo U,a2,T];show((inR n (fg d) || false) && _)=_;rw[AT]
   .let:⇑([NC t]:Lw V)=1:=rfl;lia
  calc eJ ?_;cases d with
  |inl p =>
   let(Z,W):=id x;calc(a,_,Z,_,U,.head _,W,U,a,p.1,p.2,U,x,λl t g e G B L=>?_,);calc(_,U,(~~~0),_,U,_,U,∅,a,.inl p,y,?_,x.same e,k,M,j,c,fin l t g e G B L,λJ i m o=>O J i m<|e.trans o,);rw[u];rfl
  |inr N =>
   let(Z,lw,W,hw):=id x;calc(a,_,Z,_,U,.tail _<|.head _,W,U,a,N,U,x,λl t g e G B L=>?_,);calc(_,U,(~~~0),_,U,_,U,∅,a,.inr N,y,?_,x.same e,k,M,j,c,fin l t g e G B L,λJ i m o=>O J i m<|e.trans o,);rw[u];rfl
def Io(F:Fun K "row_cells" "row_cells" Y87 f fd)(bl:Bl K mg Y)(uF:bD P w K mg base 10 "read_cell" ["domain","text"] (jG K Y)):() 11 f fd ["draft","domains","fields"] (jH K Y):=by
 refine F.okA Z87 λb0 A a6 s H vs Q E hr h=>?_
 let(x,da,fl,d,dom,fs,v,rfl,(rl,rv,(dx,cl,g1,g2),g3,g4),a3,r,h4,a7,a8,hc,q):=h;refine(_,(ag<|aI<|fz (vq U bl.zip_<|aa (aO (pv 0) U)<|aa (pv 2) ae) (fi (N:=["name","field","domains"]) (k:=2) (fr:=[1]) (cl:=[("domains",↥s+1)]) U U (~~~0) (~~~0) U U (fJ.mpr (U,hQ _,)) U) U (λ_ _ _ _=>(lK (K:=K) (n:=2) U U<|aL (aG (i:=0) (show(["name","field","domains"]:Lw Str).Nodup by decide+kernel) U (cr U) (ul U)) (aL (aG (i:=1) (show(["name","field","domains"]:Lw Str).Nodup by decide+kernel) U (cr U) (ul U)) bC))) (λ_ _ _ _=>aY) (λ_ _ _ _=>(dR uF qS hr U<|aa (az (mL (K:=K) U) (pv 2) (pv 0)<|λ_ _=>U)<|aa (pv 1) ae))),?_,);let l1:⇑(d.cs.map NE)=⇑d.cs:=ck _;let l2:⇑(fs.map NE)=⇑fs:=ck _;refine(x,_,_,_,_,U,g1,bl.k_Draft,bl.na_Draft_columns,U,cl,fl,U,(_,Nw g2,),(_,Nw r,),(let I_:AM→Nat→Lw V→Hp→Prop:=λD i ys e=>ak H e∧e D=Lg (.lst ys)∧CL (Fr H D) e ys (v.take i);xV (xs:=d.cs.map NE) (ys:=fs.map NE) I_ (λD m=>(ah m _,af,au.nil,)) (λD i I e m _ h=>(Nw<|h.1 _ _ g2,Nw<|h.1 _ _ r,)) (λD i x_ y_ I e T m ex ey h hT p a0=>?_) (λD I e m h=>?_)),)
 .let(J,G,o):=h;let(c,rfl,ec):=bW ex;let(j,rfl,ef):=bW ey;let(k,R,ek,eR,a1,Z,y,b,ps,h1,h2,h3,h5,h6,h7,h8,h9):=hc i c j ec ef;let hi:i<⇑d.cs:=(IV.mp ec).1;let hm:min ⇑(d.cs.map NE) ⇑(fs.map NE)=⇑d.cs:=∅
  let(C,B,rfl):∃C B,p=[C,B]:=by
   match p,a0 with
   | [C,B],_=>exact(C,B,U,)
  let u:=ah hT<|.tup [.str c,.str j];let eT:upd e T (.tup [.str c,.str j]) T=Lg (.tup [.str c,.str j]):=af;generalize upd e T (.tup [.str c,.str j])=H2 at u eT⊢;let M:=J.trans u;let(X,a4,a2):=a3.same M;let(xk,e1,e2):=a2 c k ek;calc(T,_,U,Nx eT,U,_,_,U,_,_,U,U,([Lg (.str c),Lg (.str j)],U,U,),?_,);refine⟨da,X,c,_,U,U,a4,e1,xk,k,j,y,b,U,e2,a1,Z,h1,h2,h3,h5,h6,λS ep l H3 ys R' L O el hR ap hn hy=>?_,λg=>by rw[h7]at g;cases g⟩;let a5:S=ps:=gl<|ep.symm.trans h7;obtain rfl:R'=R:=Apart.uniq ap h8 λn=>by rw[hn n,h9 n,a5]
  let t:=L _ _<|u _ _ G;let W:l≠D:=λz=>by rw[z,u _ _ G]at O;cases O
  refine b7.mk (by rw[hm];exact hi) t (aC (by have:=o.1;rw[fK]at this;lia)) ((M.trans L).upd m,af,?_,);rw[take_snoc eR];exact CL.updN (au.snoc (o.same<|u.trans L) ((M.free O,W,),ys,el,hR,)) Fr.out t
 .let(J,G,o):=h;rw[show min ⇑(d.cs.map NE) ⇑(fs.map NE)=⇑v by lia,eY]at o;calc q D e I J m G<|o.wk λa h=>h.1
def Ip(F:Fun K "cells_of" "cells_of" Y32 f fd)(bl:Bl K mg Y)(uG:⟨⟩ 11 "row_cells" ["draft","domains","fields"] (jH K Y)):() 12 f fd ["draft","domains"] (ky K Y):=by
 refine F.okA Z32 λa0 A W s H vs Q E hr h=>?_
 let(x,da,d,dom,cc,rfl,hg,R,h4,lh,S,hc,q):=h;refine(_,(ag<|aI<|fz (aT<|aO (pv 0) U) (fi (N:=["fields","value","draft","domains"]) (k:=2) (fr:=[0,1]) (cl:=[("draft",↥s+1),("domains",↥s+1+1)]) U U (~~~0) (~~~0) U U (fJ.mpr (U,fJ.mpr (U,hQ _,),)) U) U (λ_ _ _ _=>(lK (K:=K) (n:=2) U U<|aL (aG (i:=0) (show(["fields","value","draft","domains"]:Lw Str).Nodup by decide+kernel) U (cr U) (ul U)) (aL (aG (i:=1) (show(["fields","value","draft","domains"]:Lw Str).Nodup by decide+kernel) U (cr U) (ul U)) bC))) (λ_ _ _ _=>aY) (λ_ _ _ _=>(aS uG hr U<|aa (pv 2)<|aa (pv 3)<|aa (pv 0) ae))),?_,);let(rl,X,(dx,cl,g1,g2),g3,g4):=id hg;let O:=g4.1;refine(x,_,_,_,_,U,g1,bl.k_Draft,bl.na_Draft_rows,U,rl,U,(_,Nw g3,),(let I_:AM→Nat→Lw V→Hp→Prop:=λD i c g=>ak H g∧g D=Lg (.lst c)∧au c (cc.take i) (CcA (Fr H D) g);di (xs:=X) I_ (λD m=>(ah m _,af,au.nil,)) (λD i c g m _ h=>Nw<|h.1 _ _ g3) (λD i y c g m e h v M=>?_) (λD c g m h=>?_)),)
 .let(b,u,o):=h;let(t,r,rfl,ek,l,h2,h3):=au.get g4 e;let(o1,C,ec,o2,o3):=hc i r ek;let hi:i<X.length:=(IV.mp e).1;let(I,G,rfl):∃I G,v=[I,G]:=by
   match v,M with
   | [I,G],_=>exact(I,G,U,)
  calc(t,_,U,Nx<|b _ _ h2,U,_,_,U,_,_,U,U,([↑l,Lg (.str r.2)],U,U,),?_,);calc(x,da,l,d,dom,r.1,C,U,hg.same b,R.same b,b _ _ h3,h4,o1,o2,o3,λZ H2 xs J j T hC=>?_,);let B:=J _ _ u;let nl:Z≠D:=λz=>by rw[z,u]at j;cases j
  refine b7.mk hi B (aC (by have:=o.1;rw[fK]at this;lia)) ((b.trans J).upd m,af,?_,);rw[take_snoc ec];let L:au (c++[.ref Z]) (cc.take i++[C]) (CcA (Fr H D) H2):=au.snoc (au.mono o λ_ _ p=>p.same J) ⟨(b.free j,nl,),xs,T,hC.wk λa h=>⟨b.free h,λz=>by rw[z,u]at h;cases h⟩⟩;exact au.mono L λ_ _ p=>p.updN Fr.out B
 .let(b,u,o):=h;rw[O,←S,eY]at o;calc q D g c b m u<|au.mono o λ_ _ p=>p.wk λa h=>h.1
def Iq(F:Fun K "read_book" "read_book" Y66 f fd)(bl:Bl K mg Y)(jg:⟨⟩ 12 "refuse_counts_reading" ["facts","drafts"] (cL K Y))(jM:⟨⟩ 12 "refuse_names_reading" ["facts","drafts"] (de K Y))(d5:bB (CX1 P w) P w K mg base 11 "Book" Y.u ["self","facts","tables"] (dI K Y))(uH:⟨⟩ 12 "take_line" ["line","facts","drafts"] (jD K Y))(jL:⟨⟩ 12 "refuse_way" ["way","outcome"] (gc K Y))(oJ:⟨⟩ 12 "refuse_fields" ["draft"] (fS K Y))(vW:⟨⟩ 12 "cells_of" ["draft","domains"] (ky K Y))(nQ:⟨⟩ 12 "refuse_numbers" ["draft","outcome"] (fI K Y))(vX:⟨⟩ 12 "codes_of" ["draft","outcome"] (kv K Y))(tq:⟨⟩ 12 "made_table" ["draft","domains","rows"] (iT K Y))(qz:⟨⟩ 12 "read_domain" ["text"] (hV K Y)):() 13 f fd ["text"] (gK K Y):=by
 refine F.okA Z66 λq7 A n2 s H vs Q E hr h=>?_
 let(z,zs,lns,rfl,hz,hL,dom,c6,f5,a7,b0,ok,rb,q):=h
 refine(_,(aw (aJ (i:=1) Z66.nd U (cr U)<|mr (fq (pv 0) (by intro _;rfl)) (br PySem.F.plainAttrs_str PySem.F.slot_str_split PySem.F.type_str_split ke (pv 0)<|aa aN ae) (bJ ae))
  (aw (aJ (i:=2) Z66.nd U (cr U)<|bJ ae)
  (aw (aJ (i:=3) Z66.nd U (cr U)<|bJ ae)
  (aw (bw v2 U (aT<|pv 1) (aG (i:=4) Z66.nd U<|cr U)
  (ag<|aX<|aS uH hr U<|aa (pv 4)<|aa (pv 2)<|aa (pv 3) ae))
  (aw (aX<|aS jg hr U<|aa (pv 2)<|aa (pv 3) ae)
  (aw (aX<|aS jM hr U<|aa (pv 2)<|aa (pv 3) ae)
  (aw (aJ (i:=5) Z66.nd U (cr U)<|aD ph (pv 2)<|bK (aT<|pv 3) (bA U (~~~0) (~~~0) (~~~0) U) U (λ_ _ _ _=>aY)<|λ_ _ _ _=>(bz<|aa (iu (K:=K) U (pv 0) U)<|aa (iu (K:=K) U (pv 0) U) ae))
  (aw (aJ (i:=6) Z66.nd U (ul U)<|a9 (pJ U) U bl.dict_ Mx<|aa (fz (aT<|pv 5) (fu (N:=["name","domain"]) (k:=2) U U (~~~0) (~~~0)<|~~~0) U (λ_ _ _ _=>(lK (K:=K) (n:=2) U U<|aL (aG (i:=0) (show(["name","domain"]:Lw Str).Nodup by decide+kernel) U (cr U) (ul U)) (aL (aG (i:=1) (show(["name","domain"]:Lw Str).Nodup by decide+kernel) U (cr U) (ul U)) bC))) (λ_ _ _ _=>aY) (λ_ _ _ _=>(bz<|aa (pv 0)<|aa (aS qz hr U<|aa (pv 1) ae) ae))) ae)
  (aw (bw v2 U (aT<|pv 3) (aG (i:=7) Z66.nd U<|cr U)
  (ag<|aX<|aS jL hr U<|aa (aO (pv 7) U)<|aa (az mK (pv 6) (aO (pv 7) U)<|λ_ _=>U) ae))
  (aw (bw v2 U (aT<|pv 3) (aG (i:=7) Z66.nd U<|cr U)
  (ag<|aX<|aS oJ hr U<|aa (pv 7) ae))
  (aw (aJ (i:=8) Z66.nd U (ul U)<|bK (aT<|pv 3) (bp (N:=["draft","domains"]) (fr:=[6]) (cl:=[("domains",↥s+1)]) U U (~~~0) (~~~0) U (~~~0) U U U (fJ.mpr (U,hQ _,)) U) U (λ_ _ _ _=>aY)<|λ_ _ _ _=>(aS vW hr U<|aa (pv 0)<|aa (pv 1) ae))
  (aw (bw v2 U (aT<|pv 3) (aG (i:=7) Z66.nd U<|cr U)
  (ag<|aX<|aS nQ hr U<|aa (pv 7)<|aa (az mK (pv 6) (aO (pv 7) U)<|λ_ _=>U) ae))
  (aw (aJ (i:=9) Z66.nd U (ul U)<|bK (aT<|pv 3) (bp (N:=["draft","domains"]) (fr:=[6]) (cl:=[("domains",↥s+1)]) U U (~~~0) (~~~0) U (~~~0) U U U (fJ.mpr (U,hQ _,)) U) U (λ_ _ _ _=>aY)<|λ_ _ _ _=>(aS vX hr U<|aa (pv 0)<|aa (az (mL (K:=K) U) (pv 1) (iu (K:=K) U (pv 0) U)<|λ_ _=>U) ae))
  (aw (zD (i:=10) Z66.nd U (cr U) (Br U bl.enumerate_<|aa (pv 3) ae) (fi (N:=["k","draft","domains","cells","codes"]) (k:=2) (fr:=[6,8,9]) (cl:=[("domains",↥s+1),("codes",↥s+1+1+1),("cells",↥s+1+1)]) U U (~~~0) (~~~0) U U (fJ.mpr (U,fJ.mpr (U,fJ.mpr (U,hQ _,),),)) U) U (λ_ _ _ _=>(lK (K:=K) (n:=2) U U<|aL (aG (i:=0) (show(["k","draft","domains","cells","codes"]:Lw Str).Nodup by decide+kernel) U (cr U) (ul U)) (aL (aG (i:=1) (show(["k","draft","domains","cells","codes"]:Lw Str).Nodup by decide+kernel) U (cr U) (ul U)) bC))) (λ_ _ _ _=>aY) (λ_ _ _ _=>(aS tq hr U<|aa (pv 1)<|aa (pv 2)<|aa (uc (K:=K) U U U bl.list_ U bl.zip_<|aa (az (gh (K:=K) U) (pv 3) (pv 0)<|λ_ _=>U)<|aa (az (gh (K:=K) U) (pv 4) (pv 0)<|λ_ _=>U) ae) ae)))
  (ag<|aI<|t6 d5 qS hr U<|aa (fz (aT<|pv 2) (fi (N:=["name","domain","domains"]) (k:=2) (fr:=[6]) (cl:=[("domains",↥s+1)]) U U (~~~0) (~~~0) U U (fJ.mpr (U,hQ _,)) U) U (λ_ _ _ _=>(lK (K:=K) (n:=2) U U<|aL (aG (i:=0) (show(["name","domain","domains"]:Lw Str).Nodup by decide+kernel) U (cr U) (ul U)) (aL (aG (i:=1) (show(["name","domain","domains"]:Lw Str).Nodup by decide+kernel) U (cr U) (ul U)) bC))) (λ_ _ _ _=>aY) (λ_ _ _ _=>(bz<|aa (pv 0)<|aa (az (mL (K:=K) U) (pv 2) (pv 0)<|λ_ _=>U) ae))) (aa (pv 10) ae)))))))))))))))),?_,)
 dsimp only[bh,Nz,Ny];show(let j1:TS:=_;let j2:TS:=aZ _ j1;let j3:TS:=aZ _ j2;let j4:TS:=aZ _ j3;let j5:TS:=aZ _ j4;let r9:TS:=aZ _ j5;let r8:TS:=aZ _ r9;let r7:TS:=aZ _ r8;let r6:TS:=aZ _ r7;let r5:TS:=aZ _ r6;let r4:TS:=aZ _ r5;let r3:TS:=aZ _ r4;let r2:TS:=aZ _ r3;let r1:TS:=aZ _ r2;aZ _ r1 _ _ _);intro _ _ _ _ _ _ _ _ _ _ _ _ _ _;refine(let C:St→Hp→Prop:=λB m=>ak H m∧∃ll:AM,A3 (H ll=Lh) (m ll=Lg (.lst<|zs.map NE)) (B=[Lg (.str z),↑ll,Lh,Lh,Lh,Lh,Lh,Lh,Lh,Lh,Lh]);(C,?_,?_,))
 .rcases hz with⟨h0,rfl⟩|⟨h0,h1,rfl⟩
  .refine(Lj,(by rw[h0];exact uk _,by simp[h0],),bF ((by show 0≤A8;decide),λl hl=>(ah hl _,l,hl,af,U,),),)
  .refine(Li,(∅,~~~h0,),eJ (U,z,NL,U,U,⋯,h1,λl hl=>(ah hl _,l,hl,af,U,),),)
 rintro p4 H1 ⟨s1,ll,fl,f0,rfl⟩;refine(let C:St→Hp→Prop:=λB m=>ak H1 m∧∃X:AM,A3 (H1 X=Lh) (m X=Lg (.lst [])) (B=[Lg (.str z),↑ll,↑X,Lh,Lh,Lh,Lh,Lh,Lh,Lh,Lh]);(C,?_,?_,))
 .exact((by show 0≤A8;decide),λl hl=>(ah hl _,l,hl,af,U,),)
 rintro p3 H2 ⟨s2,X,d3,f3,rfl⟩;refine(let C:St→Hp→Prop:=λB m=>ak H2 m∧∃O:AM,A3 (H2 O=Lh) (m O=Lg (.lst [])) (B=[Lg (.str z),↑ll,↑X,↑O,Lh,Lh,Lh,Lh,Lh,Lh,Lh]);(C,?_,?_,))
 .exact((by show 0≤A8;decide),λl hl=>(ah hl _,l,hl,af,U,),)
 rintro p2 H3 ⟨s3,O,c5,m2,rfl⟩;let c0:=s1.trans<|s2.trans s3;let j8:X≠O:=λe=>by rw[e,c5]at f3;cases f3
 let Fw:=s3 _ _<|s2 _ _ f0;refine(let C:St→Hp→Prop:=λB m=>ak H m∧E2 λ(J:Lw (Dw×AM))(c4:Option V)=>A3 (LI Y.v X O m (rdb lns).1 J) (J.map (·.1)=(rdb lns).2)<|B=[Lg (.str z),↑ll,↑X,↑O,c4,Lh,Lh,Lh,Lh,Lh,Lh];(C,?_,?_,))
 .refine(ll,U,(_,Nw Fw,),(let C:Nat→St→Hp→Prop:=λi σ m=>ak H m∧E2 λ(J:Lw (Dw×AM))(c4:Option V)=>A6 (LI Y.v X O m (rdb<|lns.take i).1 J) (J.map (·.1)=(rdb<|lns.take i).2) (∀b o,H b=Lg o→b ∉ mtA X O J) (m ll=Lg (.lst<|zs.map NE)) (ll ∉ mtA X O J)<|σ=[Lg (.str z),↑ll,↑X,↑O,c4,Lh,Lh,Lh,Lh,Lh,Lh];bo (xs:=zs.map NE) C (c0,[],Lh,LI.start j8 (s3 _ _ f3) m2,U,?_,Fw,?_,U,) (λi σ m _ h=>by let(_,_,_,_,_,_,h,_):=h;exact Nw h) (λi y σ m e h=>?_) (λσ m h=>?_)),)
  .intro b o e hb;rcases dy.mp hb with rfl|hb
   .rw[s1 _ _ e]at d3;cases d3
   .obtain rfl:=hY.mp hb;rw[(s1.trans s2) _ _ e]at c5;cases c5
  .intro hb;rcases dy.mp hb with hb|hb
   .rw[←hb,f0]at d3;cases d3
   .rw[←hY.mp hb,s2 _ _ f0]at c5;cases c5
  .let(sm,J,c4,hI,hm,hb,el,nl,rfl):=h;let(zl,rfl,ez):=bW e;let hi:i<⇑lns:=by rw[hL.len];exact(IV.mp ez).1
   let d4:=IU hi;generalize lns[i]=ln at d4;let(o1,o2):=hL.ok i zl ln ez d4;let(w1,w2,w3):=hL.few i;let l4:(rdb<|lns.take i)=((rdb<|lns.take i).1,J.map (·.1)):=by rw[hm]
   refine(X,O,zl,(rdb<|lns.take i).1,J,ln,U,hI,o2,w1,by rw[←ck (f:=(·.1)),hm];exact w2,λd hd=>w3 d.1 (by rw[←hm];exact dn.mpr (d,hd,U,)),o1,λg=>?_,λH5 n1 e1 e2 kp=>?_,)
   .let(f_,v_,rfl):=g;intro hd;calc hL.row i f_ v_ d4 ?_;rw[←hm,hd];rfl
   .rw[←l4]at e1 e2;rw[←Ay d4]at e1 e2;exact(λb o e=>(kp b o (hb b o e)<|sm _ _ e).1,n1,_,e2,e1.symm,λb o e=>(kp b o (hb b o e)<|sm _ _ e).2,(kp _ _ nl el).1,(kp _ _ nl el).2,U,)
  .let(sm,J,c4,hI,hm,_,_,_,rfl):=h;rw[ck,←hL.len,eY]at hI hm;exact(sm,J,c4,hI,hm,U,)
 rintro p1 H4 ⟨s4,q6,c4,hI,hm,rfl⟩;let(fv,dv,ef,rf,Z,rd):=hI.fin;rw[hm]at rd;clear hm hI;generalize (rdb lns).1=fs at rf ok rb;generalize (rdb lns).2=J at rd ok rb;let k4:=rf.1;let d1:=rd.1;let b1:=ok.f20;let b2:=ok.d30;refine(let C:St→Hp→Prop:=λB m=>m=H4∧B=[Lg (.str z),↑ll,↑X,↑O,c4,Lh,Lh,Lh,Lh,Lh,Lh];(C,?_,?_,))
 .exact(X,O,fv,dv,J,_,U,ef,Z,∅,∅,rd,ok.dw,U,U,)
 rintro p0 H5 ⟨e5,rfl⟩;rw[e5];clear e5;refine(let C:St→Hp→Prop:=λB m=>ak H4 m∧B=[Lg (.str z),↑ll,↑X,↑O,c4,Lh,Lh,Lh,Lh,Lh,Lh];(C,?_,?_,))
 .exact(X,O,fv,dv,fs,J,U,ef,Z,b1,b2,rf,rd,ok.wd,ok.nd,ok.dw,λm s=>(s,U,),)
 rintro o5 H6 ⟨s6,rfl⟩;let ef:=s6 _ _ ef;let Z:=s6 _ _ Z;let rf:au fv fs (FpA H6):=au.mono rf λ_ _ p=>p.same s6
 let rd:au dv J (DrG Y.v H6):=au.mono rd λ_ _ p=>p.same s6
 let g0:=s4.trans s6;clear s6;refine(let C:St→Hp→Prop:=λB m=>ak H6 m∧E2 λ(na:AM)(nv:Lw V)=>A3 (m na=Lg (.lst nv)) (au nv (fs++J.map λd=>(d.nm,d.dm))<|FpA m)<|B=[Lg (.str z),↑ll,↑X,↑O,c4,↑na,Lh,Lh,Lh,Lh,Lh];(C,?_,?_,))
 .refine(O,U,(_,Nw Z,),(let C:AM→Nat→Lw V→Hp→Prop:=λD i G m=>ak H6 m∧m D=Lg (.lst G)∧au G ((J.take i).map λd=>(d.nm,d.dm)) (FpA m);bP (xs:=dv) C (λD M=>(ah M _,af,au.nil,)) (λD i G m M _ h=>Nw<|h.1 _ _ Z) (λD i y G m M e h=>?_) (λD G m M h=>?_)),)
  .let(sm,eD,I):=h;let(x,d,rfl,S,rl,rv,(dx,cl,g1,g2),g3,g4):=au.get rd e;let hi:i<⇑dv:=(IV.mp e).1;calc(x,_,_,_,_,U,(sm _ _ g1),bl.k_Draft,bl.na_Draft_name,U,x,_,_,_,_,U,(sm _ _ g1),bl.k_Draft,bl.na_Draft_domain,U,fe,λp hp=>?_,);let u:=ah hp<|.tup [.str d.nm,.str d.dm];let ep:upd m p (.tup [.str d.nm,.str d.dm]) p=Lg (.tup [.str d.nm,.str d.dm]):=af;generalize upd m p (.tup [.str d.nm,.str d.dm])=H7 at u ep⊢;let a8:=u _ _ eD;let a0:=I.1;rw[ck,fK]at a0;calc b7.mk hi a8 (aC ∅) ((sm.trans u).upd M,af,?_,);rw[take_snoc S,eg];let c2:au (G++[.ref p]) (((J.take i).map λd=>(d.nm,d.dm))++[(d.nm,d.dm)]) (FpA H7):=au.snoc (au.mono I λ_ _ q=>q.same u) ep;exact au.mono c2 λ_ _ q=>(ay<|eB q a8 (by intro z;cases z)).trans q
  .let(sm,eD,I):=h;rw[d1,eY]at I;let a0:=I.1;rw[ck]at a0;calc(X,D,_,_,U,U,sm _ _ ef,eD,ve<|aC ∅,λp hp=>(sm.trans<|ah hp _,p,_,af,?_,U,),);exact au.appL (au.mono rf λ_ _ q=>q.same<|sm.trans<|ah hp _)<|au.mono I λ_ _ q=>q.same<|ah hp _
 rintro o4 H7 ⟨s7,na,nv,en,rn,rfl⟩;let g9:=rn.1;let k1:⇑(fs++J.map λd=>(d.nm,d.dm))=⇑fs+J.length:=by rw[eH,ck]
 let e9:(fs++J.map λd=>(d.nm,d.dm)).map (·.1)=fs.map (·.1)++J.map Dw.nm:=by rw[eg,hJ];rfl
 let g7:=ok.rd;generalize (fs++J.map λd=>(d.nm,d.dm))=L at rn g9 k1 e9 g7;refine(let C:St→Hp→Prop:=λB m=>ak H7 m∧∃dd:AM,DcD Y.r Y.s m dd dom∧B=[Lg (.str z),↑ll,↑X,↑O,c4,↑na,↑dd,Lh,Lh,Lh,Lh];(C,?_,?_,))
 .refine⟨na,U,(_,Nw en,),(let C:AM→Nat→Lw V→Hp→Prop:=λD i G m=>ak H7 m∧m D=Lg (.lst G)∧au G (L.take i) (λt p=>∃(x:AM)(k:Dm),hide m D t=Lg (.tup [.str p.1,.ref x])∧dom p.1=Lg k∧iL Y.r Y.s (hide m D) x k);di (xs:=nv) C (λD M=>(ah M _,af,au.nil,)) (λD i G m M _ h=>Nw<|h.1 _ _ en) (λD i y G m M e h a4 c3=>?_) (λD G m M h=>?_))⟩
  .let(sm,eD,I):=h;let(r,p,rfl,S,g):=au.get rn e;let hi:i<⇑nv:=(IV.mp e).1;let(t0,t1,rfl):∃t0 t1,a4=[t0,t1]:=by
    match a4,c3 with
    | [t0,t1],_=>exact(t0,t1,U,)
   let(o1,k,o2,o3):=g7 p<|IW S;calc(r,_,U,Nx<|sm _ _ g,U,_,_,U,_,_,U,U,([Lg (.str p.1),Lg (.str p.2)],U,U,),?_,);refine(p.2,k,U,o1,by cases k <;> exact o3,λx H8 s8 hx k7=>(fe,λt ht=>?_,),);let u:=ah ht<|.tup [.str p.1,.ref x];let et:upd H8 t (.tup [.str p.1,.ref x]) t=Lg (.tup [.str p.1,.ref x]):=af;generalize upd H8 t (.tup [.str p.1,.ref x])=H9 at u et⊢;let s9:=s8.trans u;let h8:=s9 _ _ eD;let j7:t≠D:=λz=>by rw[z,s8 _ _ eD]at ht;cases ht
   let a0:=I.1;rw[fK]at a0;calc b7.mk hi h8 (aC ∅) ((sm.trans s9).upd M,af,?_,);rw[take_snoc S,ue];refine au.snoc (au.mono I λa b q=>?_) (x,k,cx et j7,o2,(k7.same u).hideD h8 I.refs λzs z=>ok.gd p.1 zs (by rw[o2,z]),);let(x',k',q1,q2,q3):=q;exact(x',k',i7 s9 _ _ q1,q2,q3.same<|i7 s9,)
  .let(sm,eD,I):=h;rw[g9,eY]at I;let(W,k2,a3):=oR (P:=λj (a:Str×V)=>∃(t x:AM)(k:Dm)(p:Str×Str),G[j]?=↑t∧L[j]?=Lg p∧a=(p.1,.ref x)∧m t=Lg (.tup [.str p.1,.ref x])∧dom p.1=Lg k∧iL Y.r Y.s m x k) L.length λj hj=>by
    let ep:=IU hj;let(t,e1,x,k,e2,e3,e4):=I.2 j _ ep;exact((L[j].1,.ref x),t,x,k,L[j],e1,ep,U,si _ _ _ _ e2,e3,e4.same<|si _ _,)
   let oo:W.map (·.1)=L.map (·.1):=by
    refine kB λj=>?_
    rw[dV,dV];cases e:W[j]? with
    |none =>
     have q0:W.length≤j:=by rw[xL]at e;exact e
     rw[jf ∅];rfl
    |some a =>
     let(t,x,k,p,_,e4,rfl,_):=a3 j a e;rw[e4];rfl
   let h3:(W.map (·.1)).Nodup:=by rw[oo,e9];exact ok.nd
   refine(D,G,W,U,eD,by rw[k2,I.1],λj a ea=>?_,h3,λdd R=>?_,)
   .let(t,x,k,p,e1,e2,rfl,e3,_):=a3 j a ea;exact(t,e1,e3,)
   .let u2:=ah R<|.dK<|kvT W;calc(sm.trans u2,dd,(W,af,λz k hz=>?_,),U,);let hm:=ok.dm z k hz;rw[←e9,←oo]at hm;let(a,ha,rfl):=dn.mp hm;let(i,ei):=ik ha;let(t,x,k',p,e1,e2,rfl,e3,e4,e5):=a3 i a ei;let hz:dom p.1=Lg k:=hz;obtain rfl:k'=k:=gl<|e4.symm.trans hz;exact(x,w6 h3 ei,e5.same u2,)
 rintro o0 H8 ⟨s8,dd,R,rfl⟩;let b3:=s7.trans s8;let ef:=b3 _ _ ef;let Z:=b3 _ _ Z;let rf:au fv fs (FpA H8):=au.mono rf λ_ _ p=>p.same b3
 let rd:au dv J (DrG Y.v H8):=au.mono rd λ_ _ p=>p.same b3
 let f8:=g0.trans b3;clear s7 s8 b3 rn en g0;let own:∀d∈J,∃k,dom d.nm=Lg k:=λd hd=>by
  let(_,k,e,_):=ok.rd (d.nm,d.dm)<|gb _<|dn.mpr (d,hd,U,);exact(k,e,)
 refine(let C:St→Hp→Prop:=λB m=>ak H8 m∧∃c7:Option V,B=[Lg (.str z),↑ll,↑X,↑O,c4,↑na,↑dd,c7,Lh,Lh,Lh];(C,?_,?_,))
 .refine(O,U,(_,Nw Z,),(let C:Nat→St→Hp→Prop:=λi σ m=>ak H8 m∧∃c7:Option V,σ=[Lg (.str z),↑ll,↑X,↑O,c4,↑na,↑dd,c7,Lh,Lh,Lh];bo (xs:=dv) C (ak.refl _,_,U,) (λi σ m _ h=>Nw<|h.1 _ _ Z) (λi y σ m e h=>?_) (λσ m h=>h)),);let(sm,c7,rfl):=h;let(x,d,rfl,S,rl,rv,(dx,cl,g1,g2),g3,g4):=au.get rd e;let(k,hk):=own d<|IW S;let(w1,w2):=ok.wy d<|IW S;let(W,a6,a3):=R.same sm;let(ou,e3,e4):=a3 d.nm k hk;calc(x,_,_,_,_,U,(sm _ _ g1),bl.k_Draft,bl.na_Draft_way,U,x,_,_,_,_,U,(sm _ _ g1),bl.k_Draft,bl.na_Draft_name,U,dd,W,d.nm,_,U,U,a6,e3,d.wy,ou,U,w1,λg=>?_,λm s=>(sm.trans s,_,U,),);let(p,hp):=w2 g;obtain rfl:k=.inl p:=gl<|hk.symm.trans hp;let(n0,e):=e4;exact(n0,_,e,)
 rintro n9 H9 ⟨s9,c7,rfl⟩;let ef:=s9 _ _ ef;let Z:=s9 _ _ Z;let rf:au fv fs (FpA H9):=au.mono rf λ_ _ p=>p.same s9
 let rd:au dv J (DrG Y.v H9):=au.mono rd λ_ _ p=>p.same s9
 let R:=R.same s9;let f7:=f8.trans s9;clear s9 f8;refine(let C:St→Hp→Prop:=λB m=>m=H9∧∃c7:Option V,B=[Lg (.str z),↑ll,↑X,↑O,c4,↑na,↑dd,c7,Lh,Lh,Lh];(C,?_,?_,))
 .refine(O,U,(_,Nw Z,),(let C:Nat→St→Hp→Prop:=λi σ m=>m=H9∧∃c7:Option V,σ=[Lg (.str z),↑ll,↑X,↑O,c4,↑na,↑dd,c7,Lh,Lh,Lh];bo (xs:=dv) C (U,_,U,) (λi σ m _ h=>by rw[h.1];exact Nw Z) (λi y σ m e h=>?_) (λσ m h=>h)),);let(e0,c7,rfl):=h;rw[e0];let(x,d,rfl,S,g):=au.get rd e;exact(x,d,_,U,g,ok.dw d<|IW S,U,_,U,)
 rintro n8 t2 ⟨i2,c7,rfl⟩;rw[i2];clear i2;refine(let C:St→Hp→Prop:=λB m=>ak H9 m∧E2 λ(ca:AM)(cv:Lw V)=>A3 (m ca=Lg (.lst cv)) (au cv c6<|CrA NT m)<|B=[Lg (.str z),↑ll,↑X,↑O,c4,↑na,↑dd,c7,↑ca,Lh,Lh];(C,?_,?_,))
 .refine(O,U,(_,Nw Z,),(let C:AM→Nat→Lw V→Hp→Prop:=λD i G m=>ak H9 m∧m D=Lg (.lst G)∧au G (c6.take i) (CrA (Fr H9 D) m);bP (xs:=dv) C (λD M=>(ah M _,af,au.nil,)) (λD i G m M _ h=>Nw<|h.1 _ _ Z) (λD i y G m M e h=>?_) (λD G m M h=>?_)),)
  .let(sm,eD,I):=h;let(x,d,rfl,S,g):=au.get rd e;let hi:i<⇑dv:=(IV.mp e).1;let dw:=ok.dw d<|IW S;let(cc,ec,o1,o2):=ok.cel i d S;calc(x,dd,d,dom,cc,U,g.same sm,R.same sm,dw.c4,dw.r200,o1,o2,λl a5 xs a2 hl el hC=>?_,);let a8:=a2 _ _ eD;let nl:l≠D:=λz=>by rw[z,eD]at hl;cases hl
   let a0:=I.1;rw[fK]at a0;calc b7.mk hi a8 (aC ∅) ((sm.trans a2).upd M,af,?_,);rw[take_snoc ec];let c2:au (G++[.ref l]) (c6.take i++[cc]) (CrA (Fr H9 D) a5):=au.snoc (au.mono I λ_ _ p=>p.same a2) ⟨(sm.free hl,nl,),xs,el,au.mono hC λ_ _ p=>p.wk λa h=>⟨sm.free h,λz=>by rw[z,eD]at h;cases h⟩⟩;exact au.mono c2 λ_ _ p=>p.updN Fr.out a8
  .let(sm,eD,I):=h;rw[d1,←ok.cl,eY]at I;exact(sm,D,G,eD,au.mono I λ_ _ p=>p.wk λ_ _=>trivial,U,)
 rintro n7 a5 ⟨a2,ca,cv,f4,e6,rfl⟩;let ef:=a2 _ _ ef;let Z:=a2 _ _ Z;let rf:au fv fs (FpA a5):=au.mono rf λ_ _ p=>p.same a2
 let rd:au dv J (DrG Y.v a5):=au.mono rd λ_ _ p=>p.same a2
 let R:=R.same a2;let Fx:=f7.trans a2;clear a2 f7;refine(let C:St→Hp→Prop:=λB m=>m=a5∧∃c7:Option V,B=[Lg (.str z),↑ll,↑X,↑O,c4,↑na,↑dd,c7,↑ca,Lh,Lh];(C,?_,?_,))
 .refine(O,U,(_,Nw Z,),(let C:Nat→St→Hp→Prop:=λi σ m=>m=a5∧∃c7:Option V,σ=[Lg (.str z),↑ll,↑X,↑O,c4,↑na,↑dd,c7,↑ca,Lh,Lh];bo (xs:=dv) C (U,_,U,) (λi σ m _ h=>by rw[h.1];exact Nw Z) (λi y σ m e h=>?_) (λσ m h=>h)),);let(e0,c7,rfl):=h;rw[e0];let(x,d,rfl,S,g):=au.get rd e;let(rl,rv,(dx,cl,g1,g2),g3,g4):=id g;let(k,hk):=own d<|IW S;let(W,a6,a3):=id R;let(ou,e3,e4):=a3 d.nm k hk;exact(x,_,_,_,_,U,g1,bl.k_Draft,bl.na_Draft_name,U,dd,W,d.nm,_,U,U,a6,e3,x,ou,d,k,U,g,e4,λp hp=>ok.num d (IW S) p (by rw[hk,hp]),U,_,U,)
 rintro n5 s5 ⟨i1,c7,rfl⟩;rw[i1];clear i1;refine(let C:St→Hp→Prop:=λB m=>ak a5 m∧E2 λ(oa:AM)(ov:Lw V)=>A3 (m oa=Lg (.lst ov)) (au ov f5<|λa cs=>m a=Lg (.lst<|cs.map pi))<|B=[Lg (.str z),↑ll,↑X,↑O,c4,↑na,↑dd,c7,↑ca,↑oa,Lh];(C,?_,?_,))
 .refine(O,U,(_,Nw Z,),(let C:AM→Nat→Lw V→Hp→Prop:=λD i G m=>ak a5 m∧m D=Lg (.lst G)∧au G (f5.take i) (λa cs=>a≠D∧m a=Lg (.lst<|cs.map pi));bP (xs:=dv) C (λD M=>(ah M _,af,au.nil,)) (λD i G m M _ h=>Nw<|h.1 _ _ Z) (λD i y G m M e h=>?_) (λD G m M h=>?_)),)
  .let(sm,eD,I):=h;let(x,d,rfl,S,g):=au.get rd e;let(rl,rv,(dx,cl,g1,g2),g3,g4):=g.same sm;let hi:i<⇑dv:=(IV.mp e).1;let dw:=ok.dw d<|IW S;let(k,hk):=own d<|IW S;let(cs,ec,o1,o2):=ok.cod i d k S hk;let(W,a6,a3):=R.same sm;let(ou,e3,e4):=a3 d.nm k hk;calc(x,_,_,_,_,U,g1,bl.k_Draft,bl.na_Draft_name,U,dd,W,d.nm,_,U,U,a6,e3,x,ou,d,k,cs,U,g.same sm,e4,dw.r200,o1,o2,λl b9 c0 hl el=>?_,);let a8:=c0 _ _ eD;let nl:l≠D:=λz=>by rw[z,eD]at hl;cases hl
   let a0:=I.1;rw[fK]at a0;calc b7.mk hi a8 (aC ∅) ((sm.trans c0).upd M,af,?_,);rw[take_snoc ec];exact au.snoc (au.mono I λ_ _ p=>(p.1,(ay p.1).trans<|c0 _ _ p.2,)) (nl,(ay nl).trans el,)
  .let(sm,eD,I):=h;rw[d1,←ok.dl,eY]at I;exact(sm,D,G,eD,au.mono I λ_ _ p=>p.2,U,)
 rintro n4 b9 ⟨tu,oa,ov,l3,j0,rfl⟩;let ef:=tu _ _ ef;let Z:=tu _ _ Z;let rf:au fv fs (FpA b9):=au.mono rf λ_ _ p=>p.same tu
 let rd:au dv J (DrG Y.v b9):=au.mono rd λ_ _ p=>p.same tu
 let R:=R.same tu;let f4:=tu _ _ f4;let e6:au cv c6 (CrA NT b9):=au.mono e6 λ_ _ p=>p.same tu
 let Fy:=Fx.trans tu;clear tu Fx;let CB:∀z∈fs.map (·.1)++J.map Dw.nm,∃k,dom z=Lg k:=λz hz=>by
  rcases eA.mp hz with h|h
  .let(p,hp,rfl):=dn.mp h;let(_,k,e,_):=ok.rd p<|gq _ hp;exact(k,e,)
  .let(d,hd,rfl):=dn.mp h;exact own d hd
 let h6:⇑b0=J.length:=by rw[←ok.cl,rb.cc,ck]
 refine(let C:St→Hp→Prop:=λB m=>ak b9 m∧E4 λ(ta:AM)(tv:Lw V)(c4 c7:Option V)=>A3 (m ta=Lg (.lst tv)) (au tv b0<|TbG Y.t Y.r Y.s m)<|B=[Lg (.str z),↑ll,↑X,↑O,c4,↑na,↑dd,c7,↑ca,↑oa,↑ta];(C,?_,?_,))
 .refine(O,U,(_,Nw Z,),(let C:AM→Nat→Lw V→Hp→Prop:=λD i G m=>ak b9 m∧m D=Lg (.lst G)∧au G (b0.take i) (TbG Y.t Y.r Y.s<|hide m D);vy (xs:=dv) C (λD M=>(ah M _,af,au.nil,)) (λD i G m M _ h=>Nw<|h.1 _ _ Z) (λD i y G m T M e h hT a4 c3=>?_) (λD G m M h=>?_)),)
  .let(sm,eD,I):=h;let(x,d,rfl,S,g):=au.get rd e;let hi:i<⇑dv:=(IV.mp e).1;let dw:=ok.dw d<|IW S;let(t0,t1,rfl):∃t0 t1,a4=[t0,t1]:=by
    match a4,c3 with
    | [t0,t1],_=>exact(t0,t1,U,)
   let u:=ah hT<|.tup [.int i,.ref x];let eT:upd m T (.tup [.int i,.ref x]) T=Lg (.tup [.int i,.ref x]):=af;generalize upd m T (.tup [.int i,.ref x])=c8 at u eT⊢;let a1:=sm.trans u;let Ir:=u _ _ eD;let(rws,eb):=rb.bt i d S;let h7:c6[i]?=Lg (rws.map (·.1)):=by rw[rb.cc,dV,eb];rfl
   let m3:f5[i]?=Lg (rws.map (·.2)):=by rw[rb.cd,dV,eb];rfl
   let(ra,l2,_,rx,l0,g6):=e6.2 i _ h7;let(rc,l1,Iu):=j0.2 i _ m3;calc(T,_,U,Nx eT,U,_,_,U,_,_,U,U,([Lg (.int i),↑x],U,U,),?_,);calc(ca,_,_,_,U,U,Nw<|a1 _ _ f4,(aU l2),oa,_,_,_,U,U,Nw<|a1 _ _ l3,(aU l1),ra,rc,_,_,U,Nw<|a1 _ _ l0,Nw<|a1 _ _ Iu,λL ts f6 e7 d7 IS eL j9=>?_,);let sA:=a1.trans d7;let(ko,e8):=own d<|IW S;let g8:=g6.1;rw[ck]at g8;let e7:⇑ts=⇑rws:=by rw[e7,ck,ck,g8,wb]
   let hR:RL NT f6 (ts.map NC) rws:=by
    refine(by rw[ck,e7],λj w ew=>?_,);let(c,e1,_,cy,e2,e3):=g6.2 j w.1 (by rw[dV,ew];rfl);let(T2,e4,_,e5):=j9 j (.ref c) (.int w.2) e1 (by rw[dV,dV,ew];rfl);exact(T2,by rw[dV,e4];rfl,c,cy,e5,trivial,sA _ _ e2,e3.same sA,)
   let p6:⇑rws=⇑d.rws:=by
    let(cc,ec,o1,_):=ok.cel i d S;rw[h7]at ec;cases ec;rw[←o1,ck]
   let lh:=dw.r200;let(w1,w2):=ok.wy d<|IW S;rw[mV e8]at eb;refine(x,dd,L,d,dom,ts.map NC,rws,d.cs.map<|dkD dom,ko,U,g.same sA,R.same sA,ok.gd,λz hz=>?_,hE.mpr (λh=>(dw.cin _ h).2 U,dw.cnd,),rb.c1 d<|IW S,dw.c4,w1,λg=>?_,e8,ck _,λj c ec=>?_,eL,hR,by rw[ck];lia,rb.ro _<|IW eb,λt i8 c9 ht k6=>?_,)
   .rcases dy.mp hz with rfl|hz
    .exact ok.wd _<|gb _<|dn.mpr (d,IW S,U,)
    .exact ok.wd _ (dw.cin z hz).1
   .let(p,hp):=w2 g;exact(p,gl<|e8.symm.trans hp,)
   .let(k,hk):=CB c (dw.cin c<|IW ec).1;exact(k,hk,by rw[dV,ec,←mV hk];rfl,)
   .let Fz:=d7 _ _ Ir;let a0:=I.1;rw[fK]at a0;calc b7.mk hi (c9 _ _ Fz) (aC ∅) ((sA.trans c9).upd M,af,?_,);rw[take_snoc eb,ue];exact au.snoc (au.mono I λ_ _ p=>p.same<|i7<|(u.trans d7).trans c9)<|k6.hideD c9 Fz I.refs
  .let(sm,eD,I):=h;rw[d1,←h6,eY]at I;exact(sm,D,G,_,_,eD,au.mono I λ_ _ p=>p.same<|si _ _,U,)
 rintro n3 c8 ⟨a1,ta,tv,s0,r0,k9,g5,rfl⟩;let ef:=a1 _ _ ef;let rf:au fv fs (FpA c8):=au.mono rf λ_ _ p=>p.same a1
 let R:=R.same a1;let(W,a6,a3):=id R;let b4:=rb.fc;let Iv:⇑a7=⇑fs:=by rw[b4,ck]
 refine(X,U,(_,Nw ef,),(let C:AM→Nat→Lw V→Hp→Prop:=λD i G m=>ak c8 m∧m D=Lg (.lst G)∧au G (a7.take i) (λp f=>∃d:AM,m p=Lg (.tup [.str f.1,.ref d])∧dE Y.r Y.s c8 d f.2);di (xs:=fv) C (λD M=>(ah M _,af,au.nil,)) (λD i G m M _ h=>Nw<|h.1 _ _ ef) (λD i y G m M e h a4 c3=>?_) (λD G m M h=>?_)),)
 .let(sm,eD,I):=h;let(r,f,rfl,S,g):=au.get rf e;let hi:i<⇑fv:=(IV.mp e).1;let(t0,t1,rfl):∃t0 t1,a4=[t0,t1]:=by
   match a4,c3 with
   | [t0,t1],_=>exact(t0,t1,U,)
  let(k,hk):=CB f.1<|gq _<|dn.mpr (f,IW S,U,);let(dk,e3,e4):=a3 f.1 k hk;calc(r,_,U,Nx<|sm _ _ g,U,_,_,U,_,_,U,U,([Lg (.str f.1),Lg (.str f.2)],U,U,),?_,);calc(dd,W,f.1,_,U,U,sm _ _ a6,e3,fe,λtp k0=>?_,);let u:=ah k0<|.tup [.str f.1,.ref dk];let ep:upd m tp (.tup [.str f.1,.ref dk]) tp=Lg (.tup [.str f.1,.ref dk]):=af;generalize upd m tp (.tup [.str f.1,.ref dk])=f6 at u ep⊢;let h9:=u _ _ eD;let a0:=I.1;rw[fK]at a0;let m1:a7[i]?=Lg (f.1,dkm k):=by rw[b4,dV,S,←mV hk];rfl
  calc b7.mk hi h9 (aC ∅) ((sm.trans u).upd M,af,?_,);rw[take_snoc m1];let c2:au (G++[.ref tp]) (a7.take i++[(f.1,dkm k)]) (λp (f:Fc)=>∃d:AM,f6 p=Lg (.tup [.str f.1,.ref d])∧dE Y.r Y.s c8 d f.2):=au.snoc (au.mono I λ_ _ (d,h1,h2,)=>(d,u _ _ h1,h2,)) (dk,ep,vM e4 λzs z=>ok.gd f.1 zs (by rw[hk,z]),);exact au.mono c2 λ_ _ (d,h1,h2,)=>(d,(ay<|eB h1 h9 (by intro z;cases z)).trans h1,h2,)
 .let(sm,eD,I):=h;rw[k4,←Iv,eY]at I;calc(λx dx hx h4 p5=>?_);let s2:ak m (upd (upd m dx<|.own x) x<|.ins Y.u dx []):=(ah h4 _).upd hx;let d0:∀b∈b0,∃d∈J,∃rws,b=(d.nm,d.cs,d.cs.map<|dkD dom,dkD dom d.nm,d.wy,rws,):=λb hb=>by
   let(i,hi):=ik hb;let k3:i<J.length:=by rw[←h6];exact(IV.mp hi).1
   let Z:=IU k3;let(rws,e):=rb.bt i _ Z;exact(_,IW Z,rws,gl<|hi.symm.trans e,)
  let h5:bN a7 b0=fs.map (·.1)++J.map Dw.nm:=by
   unfold bN;rw[b4,hJ]
   congr 1
   refine kB λi=>?_
   rw[dV,dV];cases e:J[i]? with
   |none =>
    let q4:J.length≤i:=by rw[xL]at e;exact e
    rw[jf ∅];rfl
   |some d =>
    let(rws,e2):=rb.bt i d e;rw[e2];rfl
  let hB:BkG Y.t Y.r Y.s (upd (upd m dx<|.own x) x<|.ins Y.u dx []) G tv a7 b0:=by
   refine(au.mono I λ_ _ (d,h1,h2,)=>(d,s2 _ _ h1,h2.same<|sm.trans s2,),au.mono g5 λ_ _ p=>p.same<|sm.trans s2,λf hf=>?_,λb hb=>?_,∅,∅,)
   .rw[b4]at hf;let(p,hp,rfl):=dn.mp hf;exact sH<|ok.wd _<|gq _<|dn.mpr (p,hp,U,)
   .let(d,hd,rws,rfl):=d0 b hb;let dw:=ok.dw d hd;exact(dw.sm,dw.c4,ck _,)
  refine(x,dx,D,ta,G,tv,a7,b0,U,af,s2 _ _ eD,s2 _ _<|sm _ _ k9,hB,.inr ((∅,∅,),.inr ((λf hf=>?_,by rw[h5];exact ok.nd,λb hb c hc=>?_,),.inr (λb hb i c k k' e1 e2 e3=>?_,.inr (rb.rk,λi8 fl i9 fc k8 kp e1 e2 e3 f1 f2 g1 g2 g3=>(U,?_,),),),),),)
  .rw[b4]at hf;let(p,hp,rfl):=dn.mp hf;exact ok.wd _<|gq _<|dn.mpr (p,hp,U,)
  .let(d,hd,rws,rfl):=d0 b hb;rw[h5];exact((ok.dw d hd).cin c hc).1
  .let(d,hd,rws,rfl):=d0 b hb;let S:k=dkD dom c:=by
    rw[dV,e1]at e2;exact(gl e2).symm
   let m0:k'=dkD dom c:=by
    rcases eA.mp e3 with h|h
    .rw[b4]at h;let(p,hp,e):=dn.mp h;cases e;rfl
    .let(b2,k5,e):=dn.mp h;let(d2,q5,IT,rfl):=d0 b2 k5;cases e;rfl
   rw[S,m0];exact Ab _
  .let sN:=pT hx h4 kp;let sB:=sm.trans sN;calc q x i8 ((Fy.trans a1).trans sB) (((Fy.trans a1).trans sm).free hx) (dx,fl,i9,fc,tv,k8,e1,e2,e3,g1,g2,au.mono g3 λp f (d,h1,h2,)=>(d,h1,h2.keep af kp,),au.mono g5 λ_ _ p=>p.same sB,)
def Iw(F:Fun K "_law_full" "_law_full" Y48 f fd)(bl:Bl K mg Y)(iE:⟨⟩ 13 "read_book" ["text"] (gK K Y))(J:⟨⟩ 13 "_law_pair" ["k"] (kn K Y)):() 14 f fd [] (kz K Y):=by
 refine F.okA Z48 λc4 A a5 s H vs Q E y h=>?_
 let(rfl,q):=h
 refine(_,(aw (aJ (i:=0) Z48.nd U (cr U)<|br PySem.F.plainAttrs_str PySem.F.slot_str_join PySem.F.type_str_join fY aN<|aa (bK (bu U bl.range_<|aa ai ae) (bA U (~~~0) (~~~0) (~~~0) U) U (λ_ _ _ _=>aY)<|λ_ _ _ _=>(aS J y U<|aa (pv 0) ae)) ae)
  (aw (jq (i:=1) Z48.nd U (cr U) (bu U bl.range_<|aa ai ae) (bA U (~~~0) (~~~0) (~~~0) U) U (λ_ _ _ _=>aY)<|λ_ _ _ _=>(aD aP (aD aP aN<|aS J y U<|aa (pv 0) ae) aN))
  (aw (aX<|br PySem.F.plainAttrs_list PySem.F.slot_list_append PySem.F.type_list_append bO (pv 1)<|aa (aD aP (aD aP aN<|pv 0) aN) ae)
  (aw (aX<|br PySem.F.plainAttrs_list PySem.F.slot_list_extend PySem.F.type_list_extend nc (pv 1)<|aa (bK (bu U bl.range_<|aa ai ae) (bA U (~~~0) (~~~0) (~~~0) U) U (λ_ _ _ _=>aY)<|λ_ _ _ _=>(aD aP (aD aP (aD aP aN<|a9 bV U bl.str_ re<|aa (aD bI (pv 0) ai) ae) aN)<|a9 bV U bl.str_ re<|aa (aD bU (pv 0) ai) ae)) ae)
  (aw (aX<|br PySem.F.plainAttrs_list PySem.F.slot_list_extend PySem.F.type_list_extend nc (pv 1)<|aa (bK (bu U bl.range_<|aa ai ae) (bA U (~~~0) (~~~0) (~~~0) U) U (λ_ _ _ _=>aY)<|λ_ _ _ _=>(aD aP (aD aP aN<|aS J y U<|aa (aD bT ai<|pv 0) ae) aN)) ae)
  (aw (aJ (i:=2) Z48.nd U (cr U)<|aS iE y U<|aa (br PySem.F.plainAttrs_str PySem.F.slot_str_join PySem.F.type_str_join fY aN<|aa (pv 1) ae) ae)
  (aw (aQ (PW.pt<|jT (aH iX (ar aq U bl.len_ Lf<|aa (aO (pv 2) U) ae) ai<|aK _)<|jT (aH iX (ar aq U bl.len_ Lf<|aa (aO (pv 2) U) ae) ai<|aK _)<|iH<|aH iX (ar aq U bl.len_ Lf<|aa (aO (az aV (aO (pv 2) U) ai<|λ_ _=>U) U) ae) ai<|aK _)
  (ag<|aI iW)
  aE)
  (ag<|aI<|fO (dM (lO y) (aO (az aV (aO (pv 2) U) ai<|λ_ _=>U) U) (bK (bu U bl.range_<|aa ai ae) (bA U (~~~0) (~~~0) (~~~0) U) U (λ_ _ _ _=>aY)<|λ_ _ _ _=>(aS J y U<|aa (pv 0) ae))<|aK _)<|iJ<|dM cV (aO (az aV (aO (pv 2) U) ai<|λ_ _=>U) U) (aS J y U<|aa ai ae)<|aK _)))))))),?_,)
 dsimp only[bh,Nz,Ny];show(let r7:TS:=_;let r6:TS:=aZ _ r7;let r5:TS:=aZ _ r6;let r4:TS:=aZ _ r5;let r3:TS:=aZ _ r4;let r2:TS:=aZ _ r3;let r1:TS:=aZ _ r2;aZ _ r1 _ _ _);intro _ _ _ _ _ _ _;let z2:∀z∈(bn 4).map prS,⇑z≤2:=λz hz=>by
  let(k,_,rfl):=dn.mp hz;exact sT 2
 refine(λb a=>ak H a∧b=[Lg (.str hdF),Lh,Lh],(U,_,U,⋯,⋯,(let g:AM→Nat→Lw V→Hp→Prop:=λD i e a=>ak H a∧a D=Lg (.lst e)∧e=((bn i).map prS).map NE;bL g (λD d=>(ah d _,af,U,)) (λD i e a d hi h=>?_) (λD e a d h=>?_)),),?_,)
 .let(c,p,rfl):=h;refine(i,by rw[wj],b7.mk ∅ p (aC (by simp;lia)) (c.upd d,af,?_,),);rw[iG,eg,eg];rfl
 .let(c,p,rfl):=h;exact(_,D,_,U,U,Nw p,(~~~0),iA (m:=2) (n:=4) z2 ⋯ ⋯,c,U,)
 rintro b9 B ⟨s1,rfl⟩;refine(let g:St→Hp→Prop:=λb a=>ak B a∧∃l:AM,A3 (B l=Lh) (a l=Lg (.lst<|((bn 20).map<|λk=>dQ (prS k,d9)).map NE)) (b=[Lg (.str hdF),↑l,Lh]);(g,(_,U,⋯,⋯,(let g:AM→Nat→Lw V→Hp→Prop:=λD i e a=>ak B a∧a D=Lg (.lst e)∧e=((bn i).map<|λk=>dQ (prS k,d9)).map NE;bL g (λD d=>(ah d _,af,U,)) (λD i e a d hi h=>?_) (λD e a d h=>?_)),),?_,))
 .let(c,p,rfl):=h;refine(i,by rw[wj],_,_,U,U,big (by rw[l6,xp];decide),_,_,U,U,big (by rw[aW,l6,xp];decide),b7.mk ∅ p (aC (by simp;lia)) (c.upd d,af,?_,),);rw[iG,eg,eg,Fi];rfl
 .let(c,p,rfl):=h;exact(c,D,d,p,U,)
 rintro b4 H2 ⟨s2,l,fl,v,rfl⟩;refine(let g:St→Hp→Prop:=λb a=>ak B a∧a l=Lg (.lst<|((bn 20).map (λk=>dQ (prS k,d9))++[dP btF.nm btF.cs btF.o btF.way]).map NE)∧b=[Lg (.str hdF),↑l,Lh];(g,(.inl (U,_,Nw v,),_,_,U,U,big<|~~~0,_,_,U,U,big<|~~~0,l,_,_,U,U,v,aC (by simp),s2.upd fl,?_,U,),?_,))
 .rw[af,eg,Gw];rfl
 clear v s2;rintro b3 H3 ⟨s3,v,rfl⟩;refine(let g:St→Hp→Prop:=λb a=>ak B a∧a l=Lg (.lst<|((bn 20).map (λk=>dQ (prS k,d9))++[dP btF.nm btF.cs btF.o btF.way]++(bn 200).map (λk=>kY btF.ks (rwF k) btF.o)).map NE)∧b=[Lg (.str hdF),↑l,Lh];(g,(.inl (U,_,Nw v,),_,U,⋯,⋯,(let g:AM→Nat→Lw V→Hp→Prop:=λD i e a=>ak H3 a∧a D=Lg (.lst e)∧e=((bn i).map<|λk=>kY btF.ks (rwF k) btF.o).map NE;bL g (λD d=>(ah d _,af,U,)) (λD i e a d hi h=>?_) (λD e a d h=>?_)),),?_,))
 .let(c,p,rfl):=h;let X:i<200:=hi;let b1:bnd ((0+(i:Int))%10):=zT ∅ ∅;let b2:bnd ((0+(i:Int)) / 20):=zT ∅ ∅;let l1:=len_num b1;let l2:=len_num b2;let G:s!"when - | - | ".length=13:= ~~~0
  let l4:s!" | - -> ".length=8:= ~~~0
  refine(_,_,U,U,(by show(0:Int)<10;decide),_,U,gu b1,_,_,U,U,big (by rw[G];lia),_,_,U,U,big (by rw[aW,G,l4];lia),_,_,U,U,(⋯,⋯,),_,U,gu b2,_,_,U,U,big (by rw[aW,aW,G,l4];lia),b7.mk ∅ p (aC (by simp;lia)) (c.upd d,af,?_,),);rw[iG,eg,eg,Fj i X];rfl
 .let(c,p,rfl):=h;refine(l,D,_,_,U,U,c _ _ v,p,ve<|uy (by simp),(s3.trans c).upd fl,?_,U,);rw[af,eg];rfl
 clear v s3;rintro b0 H4 ⟨s4,v,rfl⟩;refine(let g:St→Hp→Prop:=λb a=>ak B a∧a l=Lg (.lst<|(eU fcF kj).map NE)∧b=[Lg (.str hdF),↑l,Lh];(g,(.inl (U,_,Nw v,),_,U,⋯,⋯,(let g:AM→Nat→Lw V→Hp→Prop:=λD i e a=>ak H4 a∧a D=Lg (.lst e)∧e=((bn i).map<|λk=>dP (btA k).nm (btA k).cs (btA k).o (btA k).way).map NE;bL g (λD d=>(ah d _,af,U,)) (λD i e a d hi h=>?_) (λD e a d h=>?_)),),?_,))
 .let(c,p,rfl):=h;refine(_,_,U,U,20+i,by rw[wj];rfl,_,_,U,U,big (by rw[xp];decide+kernel),_,_,U,U,big (by rw[aW,xp];decide+kernel),b7.mk ∅ p (aC (by simp;lia)) (c.upd d,af,?_,),);rw[iG,eg,eg,Gx];rfl
 .let(c,p,rfl):=h;refine(l,D,_,_,U,U,c _ _ v,p,ve<|uy (by simp),(s4.trans c).upd fl,?_,U,);rw[af,Cy,eg (l₂:=(bn 29).map _)];rfl
 clear v s4;rintro a8 H5 ⟨s5,v,rfl⟩;let(L,LN,dom,a4,a3,hL,t1,t2,t3,t4,l1,l2,G):=AK.read Gy Fl;rw[hL]at v;calc(let g:St→Hp→Prop:=λb a=>ak B a∧∃x:AM,BkO Y.u Y.t Y.r Y.s a x fcF kj∧b=[Lg (.str hdF),↑l,↑x];(g,(U,_,l,_,U,U,Nw v,(~~~0),t1,_,_,LN,U,.inr (t2,t3,t4,),l1,dom,a4,a3,fcF,kj,l2,G,λx a s _ h=>(s5.trans s,x,h,U,),),?_,));rintro a7 H6 ⟨s6,x,hB,rfl⟩;let(dx,c5,R,fc,C,fw,I,O,h3,N,h5,h6,T):=hB;let(S,a0,T0):=T.2 0 _ Fm.1;let(tb,a1,T1):=T.2 29 _ Fm.2;let(ou,dv,(rl,c3,na,dl,fs,xs,g1,g2,g3,g4,g5,g6,g7,g8,g9,a2,Z,c0),_):=T0;let(_,_,(_,c2,_,_,c1,_,k1,_,k3,_),_):=T1;let lf:⇑fw=20:=by rw[h6.1,DW]
 let lb:C.length=30:=by rw[T.1,DX]
 let lr:⇑xs=200:=by rw[Z.1];simp[btF]
 let M:atI C 0=↑S:=aU (j:=0) a0;let W:atI C 29=↑tb:=aU (j:=29) a1;refine(let g:St→Hp→Prop:=λb a=>a=H6∧b=[Lg (.str hdF),↑l,↑x];(g,?_,?_,))
 .refine(x,_,_,_,_,U,I,bl.k_Book,bl.na_Book_facts,h3,fc,_,U,.inl<|Nw h5,U,_,U,ka (by rw[lf];rfl) ?_,);refine(x,_,_,_,_,U,I,bl.k_Book,bl.na_Book_tables,O,R,_,U,.inl<|Nw N,U,_,U,ka (by rw[lb];rfl) ?_,);exact(x,_,_,_,_,U,I,bl.k_Book,bl.na_Book_tables,O,R,_,_,_,U,U,Nw N,M,S,_,_,_,_,U,g1,bl.k_Table,bl.na_Table_rows,g2,rl,_,U,.inl<|Nw a2,U,_,U,ka (by rw[lr];rfl) (U,U,),)
 rintro a6 H7 ⟨rfl,rfl⟩;refine(x,_,_,_,_,U,I,bl.k_Book,bl.na_Book_tables,O,R,_,_,_,U,U,Nw N,M,S,_,_,_,_,U,g1,bl.k_Table,bl.na_Table_names,g6,_,U,⋯,⋯,(let g:AM→Nat→Lw V→Hp→Prop:=λD i e a=>ak H7 a∧a D=Lg (.lst e)∧e=((bn i).map prS).map NE;bL g (λD d=>(ah d _,af,U,)) (λD i e a d hi h=>?_) (λD e a d h=>?_)),)
 .let(c,p,rfl):=h;refine(i,by rw[wj],b7.mk ∅ p (aC (by simp;lia)) (c.upd d,af,?_,),);rw[iG,eg,eg];rfl
 .let(c,p,rfl):=h;refine jc (r:=Li) (Nw<|c _ _ g8) (Nw p) (by simp[btF]) (_,U,eJ ?_,);calc(x,_,_,_,_,U,c _ _ I,bl.k_Book,bl.na_Book_tables,O,R,_,_,_,U,U,Nw<|c _ _ N,W,tb,_,_,_,_,U,c _ _ k1,bl.k_Table,bl.na_Table_name,k3,48,U,?_,);let q':Q (.bl<|Lk<|NE (btA 28).nm=NE (prS 48)) a:=by rw[Gz,Lq U];exact q a<|s1.trans<|s6.trans c
  calc(U,q',)
def Iy(F:Fun K "law" "law" Y42 f fd)(bl:Bl K mg Y)(uI:⟨⟩ 14 "_law_book" ["script"] (kr K Y))(iE:⟨⟩ 14 "read_book" ["text"] (gK K Y))(nR:⟨⟩ 14 "_law_same_book" ["found","plan","order"] (fV K Y))(uJ:⟨⟩ 14 "_law_full" [] (kz K Y))(tw:⟨⟩ 14 "_law_lines" ["plan","order"] (jE K Y))(dF:⟨⟩ 14 "_law_at" ["script","k"] (kU K Y)):() 15 f fd ["script"] (J6 K):=by
 refine F.ok Z42 (λvs H Q E h=>?_)<|λc7 A b3 s H vs Q E n h=>?_
 .let(a,I,rfl,hS,a5,q):=h;rfl
 let(a,I,rfl,hS,a5,q):=h
 refine(_,(aw (aQ (PW.pt<|iI (aH cV (aD bI (aD bU (aS dF n U<|aa (pv 0)<|aa ai ae) ai) ai) ai<|aK _)<|fX<|cK<|bH<|Du uJ n U)
  (ag<|aI iW)
  aE)
  (aw (aQ (aH cV (aD bI (aD bU (aS dF n U<|aa (pv 0)<|aa ai ae) ai) ai) ai<|aK _)
  (aw (aJ (i:=1) Z42.nd U (cr U)<|aS iE n U<|aa aN ae)
  (ag<|aI<|fO (dM (lO n) (aO (pv 1) U) (bJ ae)<|aK _)<|iJ<|dM (lO n) (aO (pv 1) U) (bJ ae)<|aK _))
  aE)
  (aw (aJ (i:=2) Z42.nd U (cr U)<|aS uI n U<|aa (pv 0) ae)
  (aw (jq (i:=3) Z42.nd U (cr U) (bu U bl.range_<|aa (ar aq U bl.len_ Lf<|aa (az aM (pv 2) ai<|λ_ _=>U) ae) ae) (bA U (~~~0) (~~~0) (~~~0) U) U (λ_ _ _ _=>aY)<|λ_ _ _ _=>(pv 0))
  (aw (aQ (aH cV (aD bI (aD bU (aS dF n U<|aa (pv 0)<|aa ai ae) ai) ai) ai<|aK _)
  (ag<|aX<|C1 PySem.F.plainAttrs_list PySem.F.slot_list_reverse PySem.F.type_list_reverse vf<|pv 3)
  aE)
  (aw (aJ (i:=4) Z42.nd U (cr U)<|aS iE n U<|aa (br PySem.F.plainAttrs_str PySem.F.slot_str_join PySem.F.type_str_join fY aN<|aa (aS tw n U<|aa (pv 2)<|aa (pv 3) ae) ae) ae)
  (ag<|aI<|aS nR n U<|aa (pv 4)<|aa (pv 2)<|aa (pv 3) ae))))))),?_,)
 dsimp only[bh,Nz,Ny];show(let r6:TS:=_;let r5:TS:=aZ _ r6;let r4:TS:=aZ _ r5;let r3:TS:=aZ _ r4;let r2:TS:=aZ _ r3;let r1:TS:=aZ _ r2;aZ _ r1 _ _ _);intro _ _ _ _ _ _;refine(let j:St→Hp→Prop:=λd b=>ak H b∧d=[↑a,Lh,Lh,Lh,Lh];(j,(a,I,0,U,hS,pp _,λc=>(_,_,U,U,(⋯,⋯,),_,_,U,U,(by show(0:Int)<7;decide),U,_,U,bR (λ_=>(U,λb s'=>(_,U,bF (s',U,),),))<|λ_=>(ak.refl _,U,),),),?_,));rintro c2 H1 ⟨s1,rfl⟩;let C:=s1.seq hS;refine(let j:St→Hp→Prop:=λd b=>b=H1∧d=[↑a,Lh,Lh,Lh,Lh];(j,(a,I,0,U,C,pp _,λc=>(_,_,U,U,(⋯,⋯,),_,_,U,U,(by show(0:Int)<7;decide),U,_,U,bR (λ_=>?_)<|λ_=>(U,U,),),),?_,))
 .refine(let j:St→Hp→Prop:=λd b=>∃x:AM,BkO Y.u Y.t Y.r Y.s b x [] []∧d=[↑a,↑x,Lh,Lh,Lh];(j,(_,[],[],U,.inl (U,U,),sR.lns,_,_,_,_,_,sR.rb,sR.rt,λx b s _ h=>(x,h,U,),),?_,));rintro a0 Z ⟨x,⟨dx,c8,bt,fc,b0,fw,W,T,h3,h4,h5,h6,h7⟩,rfl⟩;let e1:fw=[]:=iv.mp h6.1;let e2:b0=[]:=iv.mp h7.1;subst e1 e2;refine(x,_,_,_,_,U,W,bl.k_Book,bl.na_Book_facts,h3,(by show 0≤A8;decide),λl hl=>?_,);let u:=ah hl<|HO.lst [];let M:upd Z l (.lst []) l=Lg (.lst []):=af;generalize upd Z l (.lst [])=N at u M⊢;refine jc (xs:=[]) (ys:=[]) (r:=Li) (Nw<|u _ _ h5) (Nw M) (by simp) (_,U,eJ ?_,);refine(x,_,_,_,_,U,u _ _ W,bl.k_Book,bl.na_Book_tables,T,(by show 0≤A8;decide),λl' a4=>?_,);let u':=ah a4<|HO.lst [];exact jc (xs:=[]) (ys:=[]) (r:=Li) (Nw<|u' _ _<|u _ _ h4) (Nw af) (by simp) (q _)
 rintro a0 Z ⟨rfl,rfl⟩;calc(let j:St→Hp→Prop:=λd b=>E5 λ(r:AM)(m:Lw Str)(p:Lw PD)(g:Lw PT)(o:Nat)=>A5 (ak Z b) (PlA b r m p g) (fk m p g o) (1≤o)<|d=[↑a,Lh,↑r,Lh,Lh];(j,(a,I,U,C,λr m p g o b s W T h3 _ _ _ _=>(r,m,p,g,o,s,W,T,h3,U,),),?_,));rintro c1 N ⟨r,m,p,g,o,s3,G,ok,c3,rfl⟩;let(nl,dl,a1,dv,tv,er,c5,c6,c4,a6,a2):=id G;let a3:⇑tv=⇑g:=a2.1;let h7:=ok.n7;let T:=ok.tab;refine(let j:St→Hp→Prop:=λd b=>ak N b∧∃v:AM,A3 (N v=Lh) (b v=Lg (.lst<|vN<|bn ⇑g)) (d=[↑a,Lh,↑r,↑v,Lh]);(j,(r,_,_,_,U,U,Nx er,U,a1,_,U,.inl<|Nw a6,_,U,∅,∅,(let j:AM→Nat→Lw V→Hp→Prop:=λD i ys b=>ak N b∧b D=Lg (.lst ys)∧ys=vN (bn i);bL j (λD J=>(ah J _,af,U,)) (λD i ys b J hi h=>?_) (λD ys b J h=>?_)),),?_,))
 .let(sm,X,rfl):=h;refine(b7.mk ∅ X (aC (by rw[kh,lC];lia)) (sm.upd J,af,?_,));rw[iG];unfold vN;rw[eg,wj];rfl
 .let(sm,X,rfl):=h;rw[wi,a3]at X;exact(sm,D,J,X,U,)
 rintro c0 H4 ⟨S,v,fo,z,rfl⟩;refine(let j:St→Hp→Prop:=λd b=>ak N b∧∃y:Lw Nat,A3 (y.Perm<|bn ⇑g) (b v=Lg (.lst<|vN y)) (d=[↑a,Lh,↑r,↑v,Lh]);(j,(a,I,0,U,S.seq<|s3.seq C,pp _,λc=>(_,_,U,U,(⋯,⋯,),_,_,U,U,(by show(0:Int)<2;decide),U,_,U,bR (λ_=>(.inl (U,_,Nw z,),v,_,U,U,z,S.upd fo,(bn ⇑g).reverse,List.reverse_perm _,?_,U,))<|λ_=>(S,_,List.Perm.refl _,z,U,),),),?_,))
 .rw[af];unfold vN;rw[List.map_reverse]
 clear z S;rintro b9 H5 ⟨s5,y,B,z,rfl⟩;let O:∀k∈y,k<⇑g:=λk hk=>ia.mp<|B.mem_iff.mp hk
 let R:⇑y≤10:=by rw[B.length_eq,lC];lia
 let hp:(prm y<|tsP m p g o).Perm (tsP m p g o):=AI (by rw[kT];exact B);let(L,LN,dom,a8,a7,hL,t1,t2,t3,t4,l1,l2,l3):=(uz ok hp).read (λe=>by have:=Lu LD e;rw[iB]at this;simp at this;lia) (AJ ok hp);refine(let j:St→Hp→Prop:=λd b=>ak H5 b∧∃x:AM,BkO Y.u Y.t Y.r Y.s b x (fsP m p o) (prm y<|tsP m p g o)∧d=[↑a,Lh,↑r,↑v,↑x];(j,(U,r,v,m,p,g,o,y,_,_,U,G.same s5,ok,z,O,R,U,U,λl b s _ M=>?_,),?_,))
 .rw[hL]at M;exact(_,l,_,U,U,Nw M,(~~~0),t1,_,_,LN,U,.inr (t2,t3,t4,),l1,dom,a8,a7,_,_,l2,l3,λx c9 s' _ h=>(s.trans s',x,h,U,),)
 rintro b4 H6 ⟨s6,x,hB,rfl⟩;calc(x,r,v,m,p,g,o,y,U,G.same<|s5.trans s6,ok,s6 _ _ z,O,R,hB,λb _=>q b,)
end
structure FF(K:ac)(Y:AD):Prop where
 (h0:GF K "all_among" "all_among" Y30)
 (h1:GF K "is_word" "is_word" Y41)
 (h2:GF K "is_number" "is_number" Y39)
 (h3:GF K "number_of" "number_of" Y64)
 (h4:GF K "is_whole" "is_whole" Y40)
 (h5:GF K "alike" "alike" Y29)
 (h6:GF K "read_domain" "read_domain" Y68)
 (h7:GF K "read_numbers" "read_numbers" Y69)
 (h8:GF K "refuse_counts_books" "refuse_counts" Y75)
 (h9:GF K "refuse_names_books" "refuse_names" Y80)
 (h10:GF K "refuse_domains" "refuse_domains" Y78)
 (h11:GF K "refuse_rings" "refuse_rings" Y84)
 (h12:GF K "named_among" "named_among" Y63)
 (h13:GF K "tidy" "tidy" Y90)
 (h14:GF K "both" "both" Y31)
 (h15:GF K "without" "without" Y92)
 (h16:GF K "gaps" "gaps" Y38)
 (h17:GF K "read_cell" "read_cell" Y67)
 (h18:GF K "read_set" "read_set" Y72)
 (h19:GF K "read_part" "read_part" Y70)
 (h20:GF K "read_range" "read_range" Y71)
 (h21:GF K "code_in_cell" "code_in_cell" Y33)
 (h22:GF K "read_value" "read_value" Y73)
 (h23:GF K "way_by" "way_by" Y91)
 (h24:GF K "refuse_names_tables" "refuse_names" Y82)
 (h25:GF K "refuse_counts_tables" "refuse_counts" Y77)
 (h26:GF K "refuse_way" "refuse_way" Y86)
 (h27:GF K "refuse_row" "refuse_row" Y85)
 (h28:GF K "own_row" "own_row" Y65)
 (h29:GF K "read_book" "read_book" Y66)
 (h30:GF K "take_line" "take_line" Y89)
 (h31:GF K "fact_parts" "fact_parts" Y37)
 (h32:GF K "drafted" "drafted" Y36)
 (h33:GF K "row_parts" "row_parts" Y88)
 (h34:GF K "cut" "cut" Y35)
 (h35:GF K "refuse_counts_reading" "refuse_counts" Y76)
 (h36:GF K "refuse_names_reading" "refuse_names" Y81)
 (h37:GF K "refuse_columns" "refuse_columns" Y74)
 (h38:GF K "refuse_fields" "refuse_fields" Y79)
 (h39:GF K "cells_of" "cells_of" Y32)
 (h40:GF K "row_cells" "row_cells" Y87)
 (h41:GF K "refuse_numbers" "refuse_numbers" Y83)
 (h42:GF K "codes_of" "codes_of" Y34)
 (h43:GF K "made_table" "made_table" Y62)
 (h44:GF K "_law_at" "_law_at" Y43)
 (h45:GF K "_law_words" "_law_words" Y61)
 (h46:GF K "_law_domain" "_law_domain" Y45)
 (h47:GF K "_law_pool" "_law_pool" Y53)
 (h48:GF K "_law_spans" "_law_spans" Y58)
 (h49:GF K "_law_row" "_law_row" Y54)
 (h50:GF K "_law_book" "_law_book" Y44)
 (h51:GF K "_law_domain_text" "_law_domain_text" Y46)
 (h52:GF K "_law_part_text" "_law_part_text" Y52)
 (h53:GF K "_law_field" "_law_field" Y47)
 (h54:GF K "_law_value" "_law_value" Y59)
 (h55:GF K "_law_head" "_law_head" Y49)
 (h56:GF K "_law_when" "_law_when" Y60)
 (h57:GF K "_law_same_domain" "_law_same_domain" Y56)
 (h58:GF K "_law_same_table" "_law_same_table" Y57)
 (h59:GF K "_law_same_book" "_law_same_book" Y55)
 (h60:GF K "_law_lines" "_law_lines" Y50)
 (h61:GF K "_law_pair" "_law_pair" Y51)
 (h62:GF K "_law_full" "_law_full" Y48)
 (h92:GF K "law" "law" Y42)
 (m77:MF K Y.r "whole" "Domain.whole" Y7)
 (m78:MF K Y.s "whole" "Domain.whole" Y8)
 (m79:MF K Y.r "code" "Domain.code" Y3)
 (m80:MF K Y.r "borne_code" "Numbers.borne_code" Y16)
 (m81:MF K Y.r "bears" "Numbers.bears" Y15)
 (m82:MF K Y.r "has_code" "Domain.has_code" Y5)
 (m83:MF K Y.s "code" "Domain.code" Y4)
 (m84:MF K Y.s "borne_code" "Words.borne_code" Y28)
 (m85:MF K Y.s "bears" "Words.bears" Y27)
 (m87:MF K Y.s "has_code" "Domain.has_code" Y6)
 (k63:KF K Y.u "Book" "Book.__init__" Y0)
 (k64:KF K Y.v "Draft" "Draft.__init__" Y9)
 (k65:KF K Y.k "First" "First.__init__" Y10)
 (k67:KF K Y.l "Only" "Only.__init__" Y17)
 (k69:KF K Y.m "Like" "Like.__init__" Y12)
 (k71:KF K Y.n "Low" "Low.__init__" Y13)
 (k73:KF K Y.o "High" "High.__init__" Y11)
 (k75:KF K Y.p "Sum" "Sum.__init__" Y18)
 (k86:KF K Y.t "Table" "Table.__init__" Y19)
 (k88:KF K Y.s "Words" "Words.__init__" Y26)
 (k90:KF K Y.r "Numbers" "Numbers.__init__" Y14)
 (b66:BF K Y.j "Way" "__init__" "Way.__init__" Y20)
 (b68:BF K Y.j "Way" "__init__" "Way.__init__" Y24)
 (b70:BF K Y.j "Way" "__init__" "Way.__init__" Y22)
 (b72:BF K Y.j "Way" "__init__" "Way.__init__" Y23)
 (b74:BF K Y.j "Way" "__init__" "Way.__init__" Y21)
 (b76:BF K Y.j "Way" "__init__" "Way.__init__" Y25)
 (b89:BF K Y.q "Domain" "__init__" "Domain.__init__" Y2)
 (b91:BF K Y.q "Domain" "__init__" "Domain.__init__" Y1)
 (z0:ls K Ca "len" = Lg Lh)
 (z1:ls K Ca "int" = Lg Lh)
 (z2:ls K Ca "isinstance" = Lg Lh)
 (z3:ls K Ca "bool" = Lg Lh)
 (z4:ls K Ca "set" = Lg Lh)
 (z5:ls K Ca "dict" = Lg Lh)
 (z6:ls K Ca "zip" = Lg Lh)
 (z7:ls K Ca "sorted" = Lg Lh)
 (z8:ls K Ca "max" = Lg Lh)
 (z9:ls K Ca "min" = Lg Lh)
 (z10:ls K Ca "list" = Lg Lh)
 (z11:ls K Ca "enumerate" = Lg Lh)
 (z12:ls K Ca "range" = Lg Lh)
 (z13:ls K Ca "str" = Lg Lh)
 (y0:∃u,ls K Ca "MOST_SIGNS" = Lg (Lg u)∧RelV (pi 12) u)
 (y1:∃u,ls K Ca "SMALL_LETTERS" = Lg (Lg u)∧RelV (NE "abcdefghijklmnopqrstuvwxyz") u)
 (y2:∃u,ls K Ca "MOST_FIGURES" = Lg (Lg u)∧RelV (pi 60) u)
 (y3:∃u,ls K Ca "FIGURES" = Lg (Lg u)∧RelV (NE "0123456789") u)
 (y4:∃u,ls K Ca "MOST_FACTS" = Lg (Lg u)∧RelV (pi 20) u)
 (y5:∃u,ls K Ca "MOST_TABLES" = Lg (Lg u)∧RelV (pi 30) u)
 (y6:∃u,ls K Ca "NOT" = Lg (Lg u)∧RelV (NE "not ") u)
 (y7:∃u,ls K Ca "ALL" = Lg (Lg u)∧RelV (NE "-") u)
 (y8:∃u,ls K Ca "UP_TO" = Lg (Lg u)∧RelV (NE "..") u)
 (y9:∃u,ls K Ca "MOST_ROWS" = Lg (Lg u)∧RelV (pi 200) u)
 (y10:∃u,ls K Ca "MOST_COLUMNS" = Lg (Lg u)∧RelV (pi 4) u)
 (y11:∃u,ls K Ca "FACT" = Lg (Lg u)∧RelV (NE "fact ") u)
 (y12:∃u,ls K Ca "TABLE" = Lg (Lg u)∧RelV (NE "table ") u)
 (y13:∃u,ls K Ca "WHEN" = Lg (Lg u)∧RelV (NE "when ") u)
 (y14:∃u,ls K Ca "NAMED" = Lg (Lg u)∧RelV (NE ": ") u)
 (y15:∃u,ls K Ca "TO" = Lg (Lg u)∧RelV (NE " -> ") u)
 (y16:∃u,ls K Ca "BY" = Lg (Lg u)∧RelV (NE " by ") u)
 (y17:∃u,ls K Ca "BETWEEN_NAMES" = Lg (Lg u)∧RelV (NE ", ") u)
 (y18:∃u,ls K Ca "BETWEEN_FIELDS" = Lg (Lg u)∧RelV (NE " | ") u)
 (y19:∃u,ls K Ca "MOST_WORDS" = Lg (Lg u)∧RelV (pi 40) u)
local macro_rules|`(tactic|trivial)=>`(tactic|exact λF=>F.binds λ_ _ _ _ _ _=>by first|exact _L.lb0 rfl|exact _L.lb1 λ_=>U|exact _L.lb2 λ_ _=>U|exact _L.lb3 λ_ _ _=>U|exact _L.lb4 λ_ _ _ _=>U|exact _L.lb5 λ_ _ _ _ _=>U|exact _L.lb6 λ_ _ _ _ _ _=>U|exact _L.lb7 λ_ _ _ _ _ _ _=>U|exact _L.lb8 λ_ _ _ _ _ _ _ _=>U|exact _L.lb9 λ_ _ _ _ _ _ _ _ _=>U)
def all_mk{l:W.OpenLaw}{w:zz}{K:ac}{h:A1}{d:Str→Option zt}{H:AM}{Y:AD}(X:K.In h)(G:h.Ns Ca d)(k:d "law" = ↑H) (b:Bk K Y)(u:FF K Y)
  : ∃g:JB,(∀(s:C3)(v:zt),JC s g ([v],[],) [("script",v)])∧∀c:A1,K.In c→c.Ns Ca d→aR l.prog w K d c CX0 15 H g ["script"] (J6 K):=by
 cases u.h92 with | @mk _ g a F =>
 cases k.symm.trans (pc X G a);let bl:Bl K d Y:=(b,pc X G b.n_TableError,pc X G b.n_BadNumber,pc X G b.n_BadDomain,pc X G b.n_BadCell,pc X G b.n_Outside,pc X G b.n_TooMany,pc X G b.n_BadName,pc X G b.n_Unlike,pc X G b.n_Ring,pc X G b.n_Way,pc X G b.n_First,pc X G b.n_Only,pc X G b.n_Like,pc X G b.n_Low,pc X G b.n_High,pc X G b.n_Sum,pc X G b.n_Domain,pc X G b.n_Numbers,pc X G b.n_Words,pc X G b.n_Table,pc X G b.n_Book,pc X G b.n_Draft,wn X G u.z0,wn X G u.z1,wn X G u.z2,wn X G u.z3,wn X G u.z4,wn X G u.z5,wn X G u.z6,wn X G u.z7,wn X G u.z8,wn X G u.z9,wn X G u.z10,wn X G u.z11,wn X G u.z12,wn X G u.z13,(let ⟨_,y,x⟩:=u.y0;(_,pc X G y,x,)),(let ⟨_,y,x⟩:=u.y1;(_,pc X G y,x,)),(let ⟨_,y,x⟩:=u.y2;(_,pc X G y,x,)),(let ⟨_,y,x⟩:=u.y3;(_,pc X G y,x,)),(let ⟨_,y,x⟩:=u.y4;(_,pc X G y,x,)),(let ⟨_,y,x⟩:=u.y5;(_,pc X G y,x,)),(let ⟨_,y,x⟩:=u.y6;(_,pc X G y,x,)),(let ⟨_,y,x⟩:=u.y7;(_,pc X G y,x,)),(let ⟨_,y,x⟩:=u.y8;(_,pc X G y,x,)),(let ⟨_,y,x⟩:=u.y9;(_,pc X G y,x,)),(let ⟨_,y,x⟩:=u.y10;(_,pc X G y,x,)),(let ⟨_,y,x⟩:=u.y11;(_,pc X G y,x,)),(let ⟨_,y,x⟩:=u.y12;(_,pc X G y,x,)),(let ⟨_,y,x⟩:=u.y13;(_,pc X G y,x,)),(let ⟨_,y,x⟩:=u.y14;(_,pc X G y,x,)),(let ⟨_,y,x⟩:=u.y15;(_,pc X G y,x,)),(let ⟨_,y,x⟩:=u.y16;(_,pc X G y,x,)),(let ⟨_,y,x⟩:=u.y17;(_,pc X G y,x,)),(let ⟨_,y,x⟩:=u.y18;(_,pc X G y,x,)),(let ⟨_,y,x⟩:=u.y19;(_,pc X G y,x,)),);refine(g,λs v=>by let(_,_,_,_,_,_,_,_,_,e,_,_):=F.ex;rw[e];exact .of_eq U,λc _ _=>?_,);let z:Zb l.prog w K d c:=(X,G,);let p:=mkC z u.h0 λF=>GA F bl
 let n:=mkC z u.h4 λF=>GB F bl
 let B9:=mkC z u.h5 λF=>GC F bl
 let j3:=mkX z u.h8 λF=>GD F bl
 let qA:=mkC z u.h12 λF=>GG F bl
 let D4:=mkC z u.h13 λF=>GI F bl
 let D5:=mkC z u.h14 λF=>GK F bl
 let D6:=mkC z u.h16 λF=>GL F bl
 let jN:=mkC z u.h25 λF=>GN F bl
 let N:=mkC z u.h28 λF=>GO F bl
 let j:=mkC z u.h34 λF=>GP F bl
 let jh:=mkC z u.h35 λF=>GQ F bl
 let nU:=mkC z u.h37 λF=>GR F bl
 let oK:=mkC z u.h38 λF=>GS F bl
 let m:=mkC z u.h44 λF=>GU F bl
 let o:=mkC z u.h45 λF=>GV F bl
 let Z:=mkC z u.h47 λF=>GW F bl
 let uL:=mkC z u.h48 λF=>GX F bl
 let D:=mkC z u.h51 λF=>GY F bl
 let oM:=mkC z u.h52 λF=>GZ F bl
 let uM:=mkC z u.h54 λF=>G0 F bl
 let C:=mkC z u.h57 λF=>G1 F bl
 let V:=mkC z u.h61 λF=>G2 F bl
 let jO:=mkK z u.k64 λF=>O_9 F bl
 let kD:=mkB z u.b66 λF=>G3 F bl
 let lD:=mkB z u.b68 λF=>G4 F bl
 let lE:=mkB z u.b70 λF=>G5 F bl
 let mi:=mkB z u.b72 λF=>G6 F bl
 let lF:=mkB z u.b74 λF=>G7 F bl
 let mj:=mkB z u.b76 λF=>G8 F bl
 let I:=mkM z u.m77 λF=>O_7 F bl
 let E:=mkM z u.m78 λF=>O_8 F bl
 let gA:=mkM z u.m80 λF=>G9 F bl
 let iV:=mkM z u.m84 λF=>Hg F bl
 let lG:=mkM z u.m85 λF=>Hh F bl
 let ji:=mkB z u.b89 λF=>O_2 F bl
 let ij:=mkB z u.b91 λF=>O_1 F bl
 let f:=mkC z u.h1 λF=>Hi F bl p.up
 let r:=mkC z u.h2 λF=>Hj F bl p.up
 let nV:=mkX z u.h10 λF=>Hk F bl B9.up
 let qj:=mkX z u.h11 λF=>Hm F bl qA.up
 let M:=mkC z u.h15 λF=>Hn F bl D5.up D6.up
 let tD:=mkC z u.h31 λF=>Hr F bl j.up
 let uN:=mkC z u.h33 λF=>Hs F bl j.up
 let tE:=mkC z u.h46 λF=>Ht F bl o.up
 let L:=mkC z u.h49 λF=>Hu F bl uL.up
 let uO:=mkC z u.h53 λF=>Hv F bl oM.up
 let v7:=mkC z u.h55 λF=>Hw F bl D.up
 let nW:=mkC z u.h58 λF=>Hy F bl C.up
 let jP:=mkK z u.k65 λF=>Hz F bl kD.up
 let kE:=mkK z u.k67 λF=>HA F bl lD.up
 let kF:=mkK z u.k69 λF=>HB F bl lE.up
 let ml:=mkK z u.k71 λF=>HC F bl mi.up
 let kG:=mkK z u.k73 λF=>HD F bl lF.up
 let mm:=mkK z u.k75 λF=>HE F bl mj.up
 let J:=mkM z u.m82 λF=>O_5 F bl n.up
 let lH:=mkM z u.m83 λF=>O_4 F bl iV.up lG.up
 let jk:=mkM z u.m87 λF=>O_6 F bl n.up
 let ie:=mkK z u.k90 λF=>HF F bl ij.up
 let i:=mkX z u.h3 λF=>HG F bl r.up
 let kI:=mkX z u.h9 λF=>HH F bl f.up
 let j4:=mkC z u.h24 λF=>HJ F bl f.up
 let tF:=mkC z u.h27 λF=>HK F bl J.up jk.up
 let O:=mkC z u.h32 λF=>HL F bl j.up jO.up
 let jQ:=mkC z u.h36 λF=>HM F bl nU.up f.up
 let v9:=mkC z u.h50 λF=>HN F bl tE.up Z.up m.up o.up L.up
 let T:=mkC z u.h56 λF=>HQ F bl uO.up uM.up
 let oN:=mkC z u.h59 λF=>HR F bl nW.up C.up
 let jl:=mkM z u.m81 λF=>HS F bl J.up
 let jR:=mkK z u.k88 λF=>HU F bl ji.up f.up
 let qk:=mkC z u.h7 λF=>HV F bl ie.up i.up r.up
 let AN:=mkC z u.h23 λF=>HW F bl jP.up kE.up kF.up ml.up kG.up mm.up
 let uP:=mkC z u.h30 λF=>HX F bl tD.up O.up uN.up
 let nZ:=mkC z u.h41 λF=>HY F bl i.up
 let uQ:=mkC z u.h60 λF=>HZ F bl v7.up D.up T.up
 let kJ:=mkK z u.k63 λF=>O_0 F bl j3.up kI.up nV.up qj.up
 let j5:=mkM z u.m79 λF=>O_3 F bl gA.up jl.up
 let qB:=mkC z u.h6 λF=>Ia F bl jR.up qk.up
 let A:=mkX z u.h22 λF=>Ib F bl j5.up lH.up i.up
 let t:=mkC z u.h26 λF=>Ic F bl AN.up
 let B:=mkX z u.h21 λF=>Ie F bl A.up
 let S:=mkC z u.h42 λF=>Ig F bl A.up
 let jS:=mkK z u.k86 λF=>Ih F bl j4.up jN.up t.up tF.up N.up
 let tG:=mkX z u.h20 λF=>Ii F bl B.up
 let uR:=mkX z u.h19 λF=>Ij F bl B.up tG.up
 let tH:=mkC z u.h43 λF=>Ik F bl jS.up
 let R:=mkX z u.h18 λF=>Il F bl D4.up I.up E.up uR.up
 let uS:=mkX z u.h17 λF=>Im F bl R.up M.up I.up E.up
 let uT:=mkC z u.h40 λF=>Io F bl uS.up
 let Q:=mkC z u.h39 λF=>Ip F bl uT.up
 let q:=mkC z u.h29 λF=>Iq F bl jh.up jQ.up kJ.up uP.up t.up oK.up Q.up nZ.up S.up tH.up qB.up
 let P:=mkC z u.h62 λF=>Iw F bl q.up V.up
 calc Iy F bl v9.up q.up oN.up P.up uQ.up m.up
def walk{l:W.OpenLaw}{q:zA}{c:Lw Str}{XP:(Str→Option zt)→A1→Prop}{m:zz→A1→Prop}{d:DefRec}{K:JV→ac}(p:l.most=Lg 63)(g:d.params.defaults=[])
  (t:∀(w:zz)(h:A1),m w h→(K w.params).In h)
  (F:∀(w:zz)(e:Str→Option zt)(j:AM)(h:A1),(K w.params).In h→h.Ns Ca e→e d.name=↑j →
   ∃i:JB,(∀(s:C3)(u:zt),JC s i ([u],[],) [("script",u)])∧∀b:A1,(K w.params).In b→b.Ns Ca e→aR l.prog w (K w.params) e b CX0 15 j i ["script"] (J6<|K w.params)) :
  W.WalkO q c XP m l.row.toRowW d [] (λf vs=>PySem.call f vs) :=
 _L.walk_of (n:=63) (k:=15) (x := "script") (CX:=λ_=>CX0) (sp:=λw=>J6<|K w.params) p ⋯ g (U,⋯,⋯,) t F (λ_ _ a o r _ v=>(a,o,U,v,r,λ_=>U,)) λ_ _ _ _ _ z=>z
end _M
set_option genSizeOf false in
set_option genInjectivity false in
open Lean in
set_option hygiene false in
local macro_rules(kind:=Lean.Parser.Command.declaration)|s=>do
 let some t:=(s.find? (·.isStrLit?.isSome)).bind (·.isStrLit?)|Macro.throwUnsupported
 if s[1].getKind != ``Lean.Parser.Command.structure then Macro.throwUnsupported
 let(_,_,a):=t.foldl (λ(k,n,a) c=>let n:=n*91+c.toNat-(if c.toNat>92 then 36 else 35);if k==9 then (0,0,a.push (mkIdent (.mkSimple ("tw"++toString n)))) else (k+1,n,a)) (0,0,(#[]:Array Ident))
 `(structure PySem.W.Fast:Prop where ($a* : True))
structure A:Prop where(x:True:="/'Z},V~dJp.67HJsBIl~L}O#uLhf]aC;=EQZ__ej3UeV,R@phYMwhq|[WUbuBroXZH*es[7SuB@~RIzhD}oPJi_iCqIfqmLa|g}@*/l*4p^>1Z%K3uu(Re%l-]e~gH-LzDF[:mEF;^}W@Optjo2C%R$=c[&RRk-K%#{Fl}jlH1L{5GMs7|C209mF3SH2243Yio9iKU|#:OI$-:-ZA~%uDik<nR#{JJpDsh)T9`H~#<1uMa(A:hMZti1KXPC.JuxDG#[B*$v$hbyD,QJk5;jB-4M,M4@Ow(g@e$:QGqT$K:Pr*$<[0|j<'D-4[dSQ[:^F%-1jb-J#-^F5n`}P)2kp=nnyz0P_,X8w274csn-M1U7Hlhct[XKhs6e6F*mn+gCI0~S`4@&35#4LFjFZ,B|Ek@JjdS?ht8On:H)|$}:VH)E?Mn@)2u#,<(E+KL>gDlJfNa%5~J{krizI2Xog4W$JB&5YWa`Y%+id1hA(_:sBDx)2>,QlTM@F2nJRs@u4#''MRL%mU)O~A%V{+Uf`i^#-vg(xd:OQ2{)~:T{ezg-@G^72@C<;$D}wOYKu0)/*Tpu61X1D1>,7nI2skNF.zSzJdq=C8IMp%)*F@c1.<?m=,v::;,T8BjaYkDHMg?v[+Ds'CL&^9BW{(tAxP8Nx1)P<3Or5><Fm9~8<SxY~U;hr7QVV1noJW`%X=a7,eC||@:Eg}L0v~Y.vZ*ouJ9]N3:IFj,@ue^BZ~T|yKFpr)-oB'}L[]>Ml#FLSOhojGm7&qZk^(t65,5wYng$J'n,,5/U{303g#%CoLN/{$HPvNgu@feCr,UBD<46t@';Y~>_8d@'HMaOOdz+1(>O9+Pn/L&J67Qu.BC4X$W#Wg+B,KK#jCslLu*Qm1f',}:wbrxI5GTdFB^M[@@=Wa$g8QHEmmnc}JT{@1p,@8'>iS-;MB<b;WY3U(R0k+AUYXE*|q~qA=MI9+V_,1F3h##E,GYoVsl`,>XF'5Zsv`TB[mlCF)qEP:bkWq?VAvd8U)^#~1-.m4/z[eV[JH{MmeDW9CQ:G5e>{IbCnL5'5X10<M}WbMb<o7tRv=oK:TmZ01t3tM4TJ0QU(RS?TosaN_Tv:?,0~)`+zq;>XpB0Zw-$:,Q;]#ZqV^M-2ZB',1ogWD}@jC:;S.=.[Eh7F.}Z9/~<*Wvox#c#*dqb9S4v6%qHA`^o2kf/+>iQY2*TO%>}Lfxk-;A:TJym-Y3P{,pQ}t#6VCOEUN9.9p;P6,Z{+d<oE.>#&M(&tm#Q|%Qqj=1Sg[&J/PKyq`*v%;l#z;S2uYH?LJ{'<mFgc,<I]=<j;d}D?ezQT%P&u/Ug`$e]0[0Jt^B@j&)lr@~RV`5s}3;<-wuOjfi>u&BMtuJV33z#rl[@|OZGhJp~iVhA&{yE<X$HbCy@?3;U^lL:Zh_DtDs;Y@&r[:.iO,&uw*E@+j/B{[)%9.)_J;OFR-a$53F>TNRk)@4]eFXs`p~Kqi4=VVORc,~P3RLvK0w.iU_qb^nLg*Z,7.h;J7i&2$o@l<P=0GO>&Zqa_[)K$a{*4c[#99j=JNjRbg)/<b<r9+e)IEW]44/e.8h2[D)AKv?kK=H|'W[^#RX5aLu/1I#3>$zi,d0H8wF?`FzWn|fPK8;MqcJ`zlR8bx(}e8^a{5w~=1t|tU'KHN)>8h^cU;|hRj4Vl+])9~*T7Fj5%CKJ:'UH0Q3C5mux`XUgH&7=Nbg9>(8BU{.x]b8;n28p.Rwq^+dMN27l#OTZ=:JscZiOtc@IU=fb`d+1d,l~;+7kNffB],E{Cgl2Q'A}:}jox-{En7QDIQii-<+qdR5[pUIG|:SS0jvgK-}x)V}_['}>0O+g5.Qmm1}?k}EQfwS(`DPN1PY&LAf@=^r-oQV#+ZPP;[_vVIL+1}z4k|2/(UbN%xQP$CGe0pgGC8NM*6qi*if'sHQv-Ydcf+(%#fS4k:PRL>c,Le}IF]BB'5&{.:VkS7j^2V]|0w*3/Mg]klvWB.0QMB:p8mCBm,S59|FoJ5JW?#e[#sT8]`]Dab=al(kz)cJu8^b9U|6X^<'*?(pJ?jxda{5MoOY`eHs.X(Nxf99[iZfDfV@&l+0>X$a30U/oxix;JGTWsvdAd,,tFmeKGX}MZ49:PTXB@+$x15Tfk`HI3Y%0tC(s~?]upN4pjB=)x-+v|>$m7&FZHHX0'HR$bY?c|QMZl9'-mm]e%66>#ugXxn-jt4)S<~T6-2h<aLtm^c|]8.I{2p}<yzf@qCi^U:*PmKN+`?%vQA0)H;9#{[`=&K%q*u[Yo+18osexsFGrALItx(numJ4CQr+ypEa?D9mna{M%ws:.~dpe]L_+@.VKp,|}3Wz=OK2ULLm12IqZSHlWXnv<odK(VCN`VKGvw}jv[w|)$-YC>0+>EEqiOAP_Sc).mAi*^vgH$?x$P=JaB*>&C?oLNgPea0V`e`U4o=$@lN3IPQ<ZvAVN{(WdBum%<NaPAKCUD(,d6D&|GJ=6).Lfh1[m#:zQg=H_N%~1lVy/9A*+kBTX~)/~J7[D4B7~x}=%jMB?.IMNeNo,C>..AKGAaK}]6[~kID?4<enh/CX2j7aZL{O'x#_K;@)W8*BgM.(:s9_a++_6J)fx$[}L:@{Tp4lA)Nm/C87K]@MRG3'kTIk@hk78*-1#3OPUGCoq=,:t1iJ*fw)q+.V:QDk4_>-)F~=FQLd;|jMo6%Uhc,puN?r%}/:WT~C,rIpF&RD5-]q:`2VH7,h9Z995$J7nfr5L><-e#80Ka9N.:x.)pm|>|gch,jzl-C(wd#|c+^c6nH6AV(}kJ0I5K;5e&9O*8D(81sy`N.#NjA8.a*o$u2H2C.]3`M_2Cexb4xe9$eLraD6&q6$(?ZVHb^T=1A<nTYMlhKIptz[)v%XF.~r?dM@JD9B];)9[vPVF{gzbG2B52:Ia8sP.9[_8`/622z^>-@.k1'30ekd9`qkNVOp:N%^0hq<m[mv%u23j<Z>{%6oLu(-ugev%Uz|Zw2^DH9J7o0)wC=~/(fJf9qvs<J0G[zLKyXm?M&9=[-pxMI~b*O3Jxh]&&ubr8u/z.@iw{`|cY^@-4xI>BKhDA1Dy6h8:;i;95v9KBr^8c*<Rqx5^Z5:);/tn,aBah7&=MWynGSHH'VTk`=h/`'OJO]E.%~,Kl&j{Q_,b=@=JNRFj$vM;+{7}U:]Z.2j~9e7cN^^?a?.<,CGnT:C/r_-5Es]=jSY()PI5W.Q|/;mL~Ir;Sv_MbH/hc;nodwm+,wM.crfn2D]teM4*8AL)%Hj$0](e$l?0Q,Ar99I2}}RLIM_o+ZAayE*aoHQ^r/Y?(fY=N$]yi&>qXggoz)+;$H,2=4NW<09J~oJjp.X/Yk+6ND=3/?;Hfx=178<)&}cv6btI];HIdt*b%h2'c0+mSBi=,04/y5A`p#3J/TJ%he}.b4QESzsIF`N?[z$~c[#72FAQLZxr-78<mO4(FENTJE>rP4gf+HI@JIA-D}2b-,$(i?OHrrl0x>iN4vu:bG:[>T_MBBg*,O:a{o^uvM>P_>hDi{B9.yE_aFt,{H`0:mXb}15.bwt1U}.A]7WN0W%_8|3*K*lMeehRl2M7>*34IE{<'FJ/W&mX}G_VP2-z4t-=iMgVaOnJ0Di,V@52BeH<f/~h*~NlDG)|&5}:#_2&y<@kkLRz/3,-l}dkCe{=2m$-mBWhm0XLf5%QYjjDWbrM/Ech.*LyjDm0MYRM/5Bj2yu5SKX9DLxJa,SF,l<V7&B&)E'P(Unil#%BY'R&T0c,|2H]M-W|1&y+J3r<m@Q}~6P>ZGQx2%n%mAXE6(+2kN&||`#0D~oFFGHb{d<HzDKTw6Al)6l(u%u_.r;_A&w{oQCc[SyFOAg@(G=Oe&y$Bk|}19L<q{9mYg.]vE@}=DD:t+XF(t|aS:qWMDT[zkJ25~=*T,7-Dr5Oe/tg@#KLb~R73TsI<bdUb64$#<*)p~v#{;?&/TxhHMRLXf'X(,P>q%Su<P~[b8;)SRQ,%*22,YyqQW'GA#HtsJzjuE3GF()_z?g-l.#m:vMP`Lw97R-K>b-rrMzbT)xS/)L;Xal+qpixn:g4&X*4^1Y%8@#gPecG+2lbb'Kf$'Y%qJy+ZhF[fBTE4#g[<@9Fav{-?=J$>J^~amV'hGY4=I~:w&32;#cax&V.bpa3V?,]/Tv&80BY<sgSUn2$?}ZZ'|}OJB72-dHqI}X*ffrUWm5v7',NjWPwk](8k=8<c0ijc9+}GM$#:17<F2C4>(GG~&7f^Taj/r`AP$X.y/lMVN&1Oan:S`~J/#J:D4FI~DdatjYn-}cGI*3I15=jHJ|=&'G7,1K9k}A-)YM<U6NLB81V*t|1c},#3:i:)5;q+tulJ`U##gVt1]Wg-:sog@8?GW(5}/?W?otl$6H6v+{z%aaL_u^6;J~}7=E=4r=zCib1b[Ir&jdrW1[i;IBv-S%+yhZj~&4e]%??8OSyw{c;8`_WyO0A%KmFh|iRnQdIwr@}c5ml<MS]a+Wte,9:yv0]hihv|He'?elNy_]@r{%ARp8[R=ucN%Cn^)OCz*v^iUxSP1]?Da&WRf[58IP_=x^,V@SblRj1ZU}(X=qT_k-l?5.eaEg]MPx'KVdwRL~9.FS|0_=s2d#<I},qXq.,90Rv3fiLe`$*B7LGC,|k7/'Q0S[S.kb-`imnpzj#o({CEZ`UC=Z8LVfkvS3wSL7BnBt@a(-,J#PjhC5}(DSw2l?wBGO/,zgF=*lx#.Z,{.*k6rW7s+uPeCOI@=IC:N)?pkp4*f2W#X$dNAvbjN}FfdR92l=PG-b/UAg^+5:C)3E,%80DRxfuW%0q6NIE<$_,`Zf+(c};GJmf{V]7]Uh@.E^[+=6NHM5]ba)X}8B8[4cksT]bN0=DVtF%Wh]??K6=kJ.a5?Blc_bg@C-3u@}Iz>Q|L-3lKfVpKtV2UnBZ]EL?o+Z(sw%a)GDJg0M_yR0E[+k*Dm=.RL~@7l))N[yPzBmMV,^yO&'2oI6VWq}Hw12T[^(0TH717(ZS'3g~|JS0-NMCl;B9>A)19v)Y&@eAD%[mqSdH.'S;DJq^v,iCJP@37H#;6TwH5.<8BH&/:55*$L7(=NJu50.hvHbMs=HWaw^7@EGT;iMO=D_ZxP-/|I..g1*s/Ae0S716=J|Vi=>JmRe+JkX,`@B$JSkBr^v)vEeiok8<X't%b*@D]9+4<c,jgjG6iD3C4UHpnp:H2ARpZY<r~D9hS)z{;*zDV[SPcFbOtJ&K[V0Jk`_'k=24/(Qi?8S/?r_&RcVCJu=LM/L9sDK%?>*_hev6N#cH.dq578V]H=x`<]}A?5#0*hO7T*)lDJsAcq0HjnJf.5IC56PFa:E(|;eH[6>&,c<F-B3,xr~ZDgO'mGMHc]+iXF<;+]]uSGN-*UD`Jjo$v1dw3QQVgL$(ZDj{2aT&.;la-_SKtW/?muv/:zeCcA9:#/62P69&bH[aA7fW?C$PM3nh+.PG>21%.djJVGND.^@3.HL<j`a++17=+FN@updRe#)2'yh*[7bLV5H|bP4*?X4AdC}ygzW.|(2tU1poYd{>7aU.g|7|;+y*MO@8P+|2eKY)E(XsmEYkafN^NdZ&y[Daw<;4c+g_)g]#8>WJ8wXceFd.F<c)18um4a>;>goMY6X4h*~//khe2|i5x#T(xM^w1*)aZ|:E9MbK;zz3g|671)ok|F9Aeq]=ekOfOT26/IFpySB2'Ki?l[ZP9rAqV==]8kvXEuWBH/P2E>>Z?)jtdB$`cp$+kC8.=|[Ex&o=;,0QP:;5wv$;gB'nz#N'/itO@j{8HNW2#V&7i'g>9ft:g_8/ySjtC,d%d6]i6#Gy%KS,fa3NAL|}?F9LtZ_H`(n2_}S2EM~XX+G'sqc8cN=3b1kcsae%8(q(=]ff?`_5D9?;;Z{V{.tQR,.|'~?B`gD]EIM7r0/wrwML6O*9$16M^F#r(=,Q~PXDk[}:)d7KOg6:V-qsGSpnuUD2/JSTAu>pw*->xQ%I3G)Mbgp.u2l{CL<@woD3bA#7S+gTH'eq7(e1uL']2E=0(mIE7Y&qD8pp*?]C:0b:;%5.#((M?ESfh=#q9?rH+bVhRzO~gL[k9E#@$m7:~?s9c-mQ$MD}hk#?kJ0GdG|9SvS0v5xFc&7|*mMG;<xX1jBUx6g_^7cUyxK.&*d[a0r[r5(~D%i?B4g9[smbcy&/<MC_Q1/=}Sa;#SR2eu{|AJW)J]WGRxR,PfciAhy;?'P9^s,yYVV=$s}T4I%W7/zY+1SL8<$E-m&N|]bk7F5tchZy>Vi([i#-|K`@hB%gE;2h~,b$]D]1D78s4,u=CJwgM0pKzWC_gfybb$+S'/@sz672lbFxU+2Ks(UJDr9BS9.Fd98gy..^N*<7F`1-t^M;spv]qz1P&/Xlb47/G)e.Ba{IlfYr,JS-/Ghu6vW=~B1)6I7*z8s)qWM4=Wy?(,jp=oF5(>iYlDX}/t}JJF7KMSg-'5}.'s'v6z,IIw&H60snh-dXa-+O,Em)GtF>fo8vB<@=*_Ki@A2AK#EAOj~$[Bo0C_/qml5%db,>KJnAj?8**Q;ro;'(SlIbQzDRBJ^ZkDgN1zgC=Fa[=%hL#(kfRzHMLwHG15XtS8{8I;Wq;8vW|nN17Pk}~w'Fa40rAvLR@j4Cc$SuK=JFAB.Dh*&ac1'(0GzEU6YXq8~nGbNf)%6EUAb5J',fh#v5Yyzg_>88KrYK[D.)f#v}~YIt)I>)vV?+D?3olH7WE/NS%jr(>mujZA-5u09u.[_zPcW3&a4m=:'JC8nD5IK#@n4AqJ*U7S[i]")
open PySem PySem.W PyProof.Rows
set_option maxRecDepth 100000 in
set_option maxHeartbeats 0 in
theorem PySem.Challenge.cw_rowjudge_k77_books_read_holds : PySem.Challenge.rw_rowjudge_k77_books_read.Holds := by
 w_on;o_law;k_head;(case hw=>w_witness2)
 k_fill
 refine _M.walk (l:=PySem.Challenge.rw_rowjudge_k77_books_read) rfl rfl (λw h Y=>PySem.W.kIn_of Y) ?F
 case F =>
  intro w mg fa h KX G hmg;refine' _M.all_mk (Y:=.mk ..) KX G hmg ?b ?u
  case b =>
   constructor
   all_goals try dsimp only
   iterate 22 (k_is)
   iterate 7 (exact _L.ExcCls.value (by first|rfl|with_unfolding_all rfl))
   iterate 7 (constructor <;> first|k_is|rfl|with_unfolding_all rfl)
   iterate 11 (constructor <;> first|k_is|rfl|with_unfolding_all rfl)
   iterate 11 (refine'((?_,?_,?_,?_,),?_,?_,?_,?_,) <;> first|k_is|rfl|with_unfolding_all rfl)
   iterate 25 (delta _L.NoAttr;k_is)
   iterate 7 (first|k_is|rfl|with_unfolding_all rfl)
  case u =>
   constructor
   all_goals try dsimp only
   iterate 64 (refine' _L.GF.mk ?a1 (_L.fun_mk ?l ?c ?k);(case a1=>k_is);(case l=>k_is);(case c=>k_is);(case k=>k_is))
   iterate 10 (refine' _L.MF.mk ?a1 ?a2 (_L.fun_mk ?l ?c ?k);(case a1=>k_is);(case a2=>k_is);(case l=>k_is);(case c=>k_is);(case k=>k_is))
   iterate 11 (refine' _L.KF.mk ?a1 ?a2 ?a3 ?a4 ?a5 (_L.fun_mk ?l ?c ?k);(case a1=>k_is);(case a2=>k_is);(case a3=>k_is);(case a4=>k_is);(case a5=>k_is);(case l=>k_is);(case c=>k_is);(case k=>k_is))
   iterate 8 (refine' _L.BF.mk ?a1 ?a2 ?a3 ?a4 (_L.fun_mk ?l ?c ?k);(case a1=>k_is);(case a2=>k_is);(case a3=>k_is);(case a4=>k_is);(case l=>k_is);(case c=>k_is);(case k=>k_is))
   iterate 14 (k_is)
   iterate 20 (refine' _L.gv_mk ?a1 ?a2;(case a1=>k_is);(case a2=>exact(_,rfl,)))
