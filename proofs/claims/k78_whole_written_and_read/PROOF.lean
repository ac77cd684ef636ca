import PyProof.Rows.All
import Wide.All
import OpenK.AllK
import Wide.FinOn
import Lean
import PyProof.EqAt
import PyProof.EqKinds
import PyProof.TupleCall
import KE.KIntText
import KE.KTryMore
import KE.KIsAll
import PyProof.ZipIter
import KE.KRevIter
import PyProof.AttrMissHeap
import KE.KDictOf
import PyProof.DictUpdate
import PyProof.DictList
import PyProof.FactsAll.str_7
import PyProof.MeetsStr3
import PySem.Challenge.RW_rowjudge_k78_whole_written_and_read
open List renaming length_map→bQ,mem_map→ck,mem_cons→cZ,getElem?_map→dn,map_append→dy,length_append→dV,take_length→dY,size_toArray→eg,mem_append→eA,length_take→eH,forall_mem_cons→eN,mem_cons_of_mem→eY,mem_append_right→fq,getElem?_append_left→ft,mem_append_left→fE,getElem?_append_right→fV,forall_mem_nil→fW,mem_cons_self→gb,nodup_cons→gi,map_cons→gs,getElem?_of_mem→gu,length_cons→gv,map_map→gw,not_mem_nil→gx,append_assoc→gB,mem_range→gW,all_eq_true→gX,length_eq_zero_iff→hE,mem_singleton→hJ,length_singleton→hQ,append_nil→hY,getElem?_eq_none→ia,length_replicate→ib,foldl_cons→ig,ext_getElem?→ik,any_eq_true→iv,getD_eq_getElem?_getD→iY,length_range→jf,mem_of_mem_take→jh,flatten_cons→ji,filterMap_cons→jz,range_succ→jA,count_append→jN,take_append_drop→kC,length_zipWith→kP,take_of_length_le→kU,foldl_append→lQ,length_drop→lR,all_cons→lY,any_cons→mq,append_inj→mu,nodup_nil→mD,lookup_cons→mE,getElem?_zipWith→mF,filter_nil→mG,mem_filter→mH,any_eq_false→ng,nodup_append→nk,forIn_cons→nq,drop_eq_getElem_cons→nt,count_eq_zero→ny,drop_zero→nC,mem_filterMap→nF,getElem_mem→nL,map_congr_left→nS,drop_left→nX,take_left→nY,getElem?_drop→ox,getElem?_range→oy,mem_flatten→oD,filter_append→oJ,length_filter_le→oK,flatten_append→pa,of_mem_zip→pb,sum_cons→pR,map_id→pS
open Nat renaming le_refl→pT,ne_of_lt→qo,le_trans→qu,lt_of_lt_of_le→ri,zero_le→rE,ne_of_gt→rG,lt_succ_of_lt→rJ,le_of_lt→rM,le_succ→rZ,lt_irrefl→sh,lt_succ_self→so,le_add_right→sL,mul_le_mul_right→sT,lt_trans→tm,lt_or_ge→tN,lt_of_le_of_lt→uk,lt_trichotomy→uM,le_of_not_lt→uO,succ_mul→u3,min_self→u7,sub_self→ve
open Int renaming emod_nonneg→vl,toNat_natCast→vr,emod_lt_of_pos→v3,zero_add→v5,toNat_of_nonneg→wa
open Bool renaming and_eq_true→wh,eq_false_iff→wi,false_eq_true→wq,and_eq_false_iff→wZ
open Array renaming length_toList→w5,getElem?_eq_getElem→xc,toList_push→xf,toList_inj→yi
open Option renaming isSome_iff_exists→yo,getD_none→yy
open PySem renaming wpAny_bind→zb,wpAny_pure→zp,wpAny_holding→zz,wpAny_Call_Name_kw→zX,Value→zY,World→zZ,Program→An,wpAny_eqBool_int→Av,Addr→AE,Heap→AU,sizeLine→AY,sysModules→A1,mainGlobals→B5,builtinsNs→B6,bootBuiltins→Ce,Around→Cm,Shared→Ct,Scope→Du,GenState→D0,Model→D2,wpAny→D8,storeName→Ei,Expr→Ej,isTrue→Ek,backTo→Ey,starEach→EX,Stmt→E1,wpAny_mono→FC,wpAny_Name→F0,wpAny_loadName_local→F6,wpAny_loadName_cell→Ge,standAt→Gf,wpAny_truthy_bool→Gp,wpAny_execs_nil→Gw,wpAny_execs_cons→Hl,swapsWith→HJ,wpAny_Return_some→HK,assignEach→Ik,Operator→Ko,wpAny_assign_Name→Kq,wpAny_standAt→KI,PassesOwn→KL,wpAny_passesOwn→KN,pyNext→KO,letOwnedTupleGo→KP,pyIter→KQ,rawInt→KR,wpAny_pyNext_list_item→KS,wpAny_pyNext_list_end→KU,wpAny_pyIter_list→KW,Builtin→KY,foldedSetIterable→KZ,binaryOp→K0,intBits_le_64→K1,compareOp→K2,CmpOp→K3,behindInMarks→K4,sizeLine_eq→K5,getMethod→K6,Result→K7,codeAny→K8,attributeBase→K9,recursionLimit→La,cLine→Lb,Code→Lc,wpAny_Tuple_spliced→Ld,FuncData→Le,BindsTo→Lf,bindArgs→Lg,wpAny_call→Lh,codeAny_mono→Li,NameKind→Lj,bindL→Lk,bindC→Ll,cellsFrom→Lm,IsPart→Lo,evalPart_none→Lp,typeLookup→Lq,seqIndex_of→Lr,slot_list_getitem→Ls,typeIs_str→Lu,sliceBounds→Lv,call_list_seq→Lw,backToKw→Lx,keywordEach→Ly,call_meets→Lz,Params→LA,callerA→LB,compEnvC→LC,closureFor→LD,closureFor_none→LF,noteFrame→LG,theTreesLotGoes→LH,compTurn_list→LJ,newList→LK,newFunctionEnv→LL,wpAny_newObj_type→LM,wpAny_newFunctionEnv→LO,lookup_relabel_local→LP,codeAny_compStart_list→LQ,eval_ListComp→LR,wpAny_comprehension_free→LS,compPost→LU,exec_Assign_Name_used→LV,wpAny_newTuple→LW,wpAny_newList→LX,wpAny_call_entry→LY,intText_digits→LZ,setField→L0,wpAny_setField→L1,wpAny_field→L3,setFlight→L4,ExcBaseFacts→L5,excClassObj→L6,OwnTail→L7,wpAny_JoinedStr→L8,Joins_cons→L9,wpAny_FormattedValue_repr→Ma,pyReprObj_str→Mb,Joins_nil→Mc,callWith→Md,int_text_length_le10→Me,scanBound→Mf,codeAny_builtin→Mg,plainId_quiet→Mh,wpAny_runValue→Mi,evalArgs→Mj,entryFor_of_fast→Ml,wpAny_loadPart_at→Mm,strValues→Mn,length_partsBetween→Mo,Comprehension→Mp,wpAny_attempt→Mq,wpAny_comp_letGo→Mr,notedBy→Ms,IsPair→Mt,ZipApart→Mu,wpAny_pyNext_zip_item→Mv,wpAny_pyNext_zip_end→Mw,wpAny_pyIter_zip→Mx,wpAny_callSpecial?_slot→Mz,wpAny_seqItems→MA,wpAny_nextOf_list_item→MB,wpAny_nextOf_list_end→MC,updateSeq→MD,wpAny_updateSeq→ME,typeLookup_type→MG,builtinLookup_eq_fast→MH,callType_codes→MI,wpAny_typeOf→MJ,wpAny_specialOf→MK,wpAny_pyIter_enum→ML,getattributeRaised→MM,boot_len→MN
open Option renaming some→MO,none→MP
open Bool renaming true→MQ,false→MR
open Decidable renaming decide→MS
open PySem.W renaming Frag→ac,nsIn→ls,mg_of→pp,mg_none_of→wr,findIn→wT,kia_one→FB,emptyDict→Go,callWith_K→GT,methodCall_KW→M9,instObj→Nh,keepIn→Nk,specialIn→Nq,kitOne→NG,plainGet→Oh,plainGet_of→Os,fnOf→OC,methodObj→OM,lookIn→ON,hasDictIn→OP,exmAny→OQ
open PySem.Heap renaming get?_push_of_some→am,lt_size→bn,get?_push_size→ii,get?_update_other→sK,get?_update_self→wf,size_update→wE,get?_push_ne→AT,size_push→Da,SameBut→Gc,get?_update_ne→No
open Or renaming inl→bv,inr→pc
open Bool renaming false_ne_true→cr,eq_iff_iff→py,false_and→ww,or_false→Db,true_and→Ix,false_or→M2,and_false→Nf,or_eq_false_iff→NF,or_assoc→Og,not_eq_true'→OS
open PySem.Txt renaming partition→db,join→io,split→jp,startswith→li,slice→GE
open Option.some renaming inj→dL
open List renaming range→gl,zipWith→lc,replicate→v6,getElem?_eq_none_iff→AC,toArray→Fk,nodup_iff_pairwise_ne→FS,getElem?_replicate→KB,filter_cons_of_pos→KM,filter_cons_of_neg→KT,lookup→M5,length→M6,dropLast_concat_getLast→M8,pairwise_iff_getElem→Nj,range'→Nm,getElem?_take_of_lt→Nn,append_cancel_left→Nr,getElem?_set_self→Nv,getElem?_set_ne→NE,getElem?_take→NH,findIdx?_eq_some_iff_getElem→NK,take_sublist→NO,take_add_one→NP,pairwise_map→NQ,take_append_of_le_length→NY,eq_nil_of_length_eq_zero→NZ,idxOf_lt_length_iff→Oe,zipWith_cons_cons→Op,append_eq_nil_iff→Oq,mem_iff_getElem?→Ou,filterMap_append→Ov,pairwise_append→Oz,getElem?_mapIdx→OA,zipWith_append→OE,take_succ_cons→OF,contains_cons→OK,reverse_cons→OR
open PyProof.Rows renaming boot_isinstance→im,boot_str→ss,callWith_type1→v4,boot_list→wn,boot_set→Ev,boot_min→EQ,boot_max→IN,boot_dict→NV,boot_zip→NW,boot_int→NX
open PySem.Str renaming join→kt,ofString→lm,empty→re,append→wv,length→wS,ofString_eq_toList→L2
open PySem.Obj renaming mapSeq→on,mapFields→wp,data_mapFields→Ng,isFreed_of_fields→Nz
open Int renaming le_refl→pr,ne_of_gt→NU,negSucc→OG
open PySem.PassesOwn renaming never→tz
open PySem.Builtin.Str renaming strKind→ul,occurrences→Fa,strSliceIndices→Od
open False renaming elim→ut
open ForInStep renaming yield→wP
open PySem.Builtin.SmallTypes renaming ownedTupleIsFree→xL,nextOf→IR
open Sum renaming inr→Do,inl→NS
open Ne renaming symm→FM
open PySem.Around renaming under_plainId→GM
open PySem.F renaming called_set→Is,plain_extend_loop→Nd,slot_list_getattribute→Nu,slot_zip_next→ND
open Array.Perm renaming refl→My
open PySem.SeqAt.EqAt renaming of_refs→M4,same→Nl,str_int→Ob,int_str→Oc
open List.Pairwise renaming nil→M7,imp_of_mem→NM
open PySem.Calls renaming spliced_cons→Na,evalArgs_plain→NB,spliced_nil→NJ,Name_function_global→N0,callWith_builtin→Oj
open Array renaming getElem?_eq_some_iff→Nb,toList→NN,getElem?_setIfInBounds_ne→NR,getElem?_eq_none→Ol,toList_append→OB,forIn_toList→OH,append_assoc→OJ
open True renaming intro→Nc
open PySem.Builtin.List renaming listExtendWith→Np,listTooLong→NC,listSameRef→Oo,listItems→Ox
open PySem.SeqAt renaming EqAt→Nt,eq_list_lengthsAt→Oa
open PySem.StrLaws renaming reprText_len→Nw,subAt_eq→NI,sliceText_from→N6,occ_length_le→N8,glued_eq_join→N9,sliceText→Ow
open PyProof.Rows.F renaming plain_set_update_loop→Nx,entry_set_update_loop→Oy
open Nat renaming zero_add→Ny,not_lt_zero→N1,pow_le_pow_right→OD
open List.Perm renaming append_left→N3
open Char renaming ofNat→N4,toNat→OL
open PySem.EntryCells renaming newEntry→N7
open PySem.SeqAt.RcAt renaming tuples→Oi
open String renaming length_toList→Om
open PySem.Builtin.Dict renaming updateFrom→Ot
set_option Elab.async false
set_option linter.all false
set_option maxRecDepth 100000
set_option maxHeartbeats 4000000
set_option bootstrap.genMatcherCode false
set_option compiler.extract_closed false
local macro_rules(kind:=Lean.Parser.Term.tuple)|s=>do
 let a:=s[1][2].getArgs;let n:=Lean.Syntax.node .none
 if a.size%2==0&&a.size>0 then return n `Lean.Parser.Term.anonymousCtor #[.atom .none "⟨",n `null (#[s[1][0],s[1][1]]++a.pop),.atom .none "⟩"]
 Lean.Macro.throwUnsupported
local macro_rules|`(↑$x)=>`(some (.ref $x))
local macro_rules|`(⇑$x)=>`(($x).length)
local macro_rules|`(↥$x)=>`(($x).heap.objs.size)
local macro_rules|`(term|∅)=>`(by first|lia|(dsimp only;lia))
local macro_rules|`(term|⋯)=>`(by decide)
local macro_rules|`(~~~$x)=>`(by simpa using $x)
local macro_rules|`(~~~0)=>`(by decide+kernel)
abbrev M3:=@List
open Lean in
local macro_rules|`(tactic|let $d:letDecl)=>do
 let p:=d.raw[0]
 if p.isOfKind `Lean.Parser.Term.letPatDecl then
  let n:=Syntax.node .none
  let g:=λe:Array Syntax=>n `Lean.Parser.Tactic.rcasesPat.tuple #[.atom .none "⟨",n `null (e.mapIdx λj p=>if j%2==1 then p else n `Lean.Parser.Tactic.rcasesPatLo #[n `Lean.Parser.Tactic.rcasesPatMed #[n `null #[p]],n `null #[]]),.atom .none "⟩"]
  let q:=p[0].rewriteBottomUp λs=>match s with|.ident ..=>n `Lean.Parser.Tactic.rcasesPat.one #[s]|.node i k a=>if k==`Lean.Parser.Term.hole then n `Lean.Parser.Tactic.rcasesPat.ignore a else if k==`Lean.Parser.Term.anonymousCtor then g a[1]!.getArgs else if k==`Lean.Parser.Term.tuple then g (#[a[1]![0],a[1]![1]]++a[1]![2].getArgs) else s|_=>s
  return n `Lean.Parser.Tactic.obtain #[.atom .none "obtain",n `null #[n `Lean.Parser.Tactic.rcasesPatMed #[n `null #[q]]],n `null p[2][0].getArgs,n `null #[.atom .none ":=",n `null #[p[4]]]]
 else `(tactic|have $d:letDecl)
local macro_rules|`(tactic|calc $x:term)=>`(tactic|refine $x)
open Lean in
local macro_rules(kind:=Lean.Parser.Command.declaration)|s=>do
 let k:=s[1].getKind
 if s[0][1].isNone&&s[0][4].isNone&&(k==``Lean.Parser.Command.definition||k==``Lean.Parser.Command.abbrev||k==``Lean.Parser.Command.instance) then return s.setArg 0 (s[0].setArg 4 (.node .none `null #[.node .none ``Lean.Parser.Command.noncomputable #[.atom .none "noncomputable"]]))
 Macro.throwUnsupported
open Lean in
local macro_rules(kind:=Lean.Parser.Command.declaration)|s=>do
 let d:=s[1]
 if d.getKind==``Lean.Parser.Command.definition then
  if let SourceInfo.original _ _ t _:=d[0].getHeadInfo then
   if t.toString.length==1 then
    let n:=Syntax.node .none
    return s.setArg 1 (n ``Lean.Parser.Command.theorem #[.atom .none "theorem",d[1],n ``Lean.Parser.Command.declSig #[d[2][0],d[2][1][0]],d[3]])
 Macro.throwUnsupported
abbrev MU:=@if_neg
abbrev MV:=@if_pos
abbrev MW:=@absurd
abbrev MX:=@decide_eq_true
abbrev MY:=@decide_eq_false
abbrev MZ:=@of_decide_eq_true
abbrev M0:=@congrArg
abbrev M1:=@decide_eq_true_iff
local macro_rules|`(term|s!$x)=>do
 let some t:=x.raw.getArgs[0]? | Lean.Macro.throwUnsupported
 let some v:=t.isInterpolatedStrLit? | Lean.Macro.throwUnsupported
 `(PySem.Str.ofString $(Lean.quote v))
def KG{a:Type _}{l:M3 a}{i:Nat}(h:i<⇑l):l[i]?=MO l[i]:=List.getElem?_eq_getElem h
def KH{b:Type _}{a:b}{l:M3 b}{i:Nat}:l[i]?=MO a ↔ ∃h:i<⇑l, l[i]=a:=List.getElem?_eq_some_iff
def KJ{b:Type _}{l:M3 b}{i:Nat}{a:b}(e:l[i]?=MO a):a∈l:=List.mem_of_getElem? e
namespace _L
def U{b:Sort _}{a:b}:a=a:=rfl
open PySem PySem.Spec PyProof.Rows
abbrev Key:=Sum Int Str
def  yc:Key->zY->Bool
 | .inl k,v=>zY.isInt k v
 | .inr x,v=>zY.isStrOf x v
def  Hk(w:zZ):Key->Int
 | .inl k=>hashInt k
 | .inr x=>hashStr w x
def de:∀{k:Key}{v:zY},yc k v=MQ->(∃i t,k=NS i/\v=zY.int i t)\/(∃x t,k=Do x/\v=zY.str x t)
 | .inl i,v,h=>by
  let(t,e):=zY.isInt_shape (k:=i) (v:=v) h;exact .inl (i,t,U,e,)
 | .inr x,v,h=>by
  let(t,e):=zY.isStrOf_shape (x:=x) (v:=v) h;calc .inr (x,t,U,e,)
def yS(x:Str)(t:Tok):yc (.inr x) (.str x t)=true:=by simp[yc,zY.isStrOf]
def DW(a b:Int):decide ((NS a:Key)=NS b)=(a == b):=by
 by_cases e:a=b
 .subst e;simp
 .let h:¬ (NS a:Key)=NS b:=λq=>e<|Sum.inl.inj q
  rw[MY h];calc(beq_eq_false_iff_ne.mpr e).symm
def DX(a b:Str):decide ((Do a:Key)=Do b)=MS (a=b):=by
 by_cases e:a=b
 .subst e;simp
 .let h:¬ (Do a:Key)=Do b:=λq=>e<|Sum.inr.inj q
  rw[MY h,MY e]
def DY(a:Int)(b:Str):decide ((NS a:Key)=Do b)=false:=MY<|λq=>nomatch q
def DZ(a:Str)(b:Int):decide ((Do a:Key)=NS b)=false:=MY<|λq=>nomatch q
def  nG(prog:An)(w:zZ):PySem.KeyKind prog w Key where
 is:=yc
 hash:=Hk w
 inj:=λv a b l f=>by
  rcases de l with⟨i,t,rfl,rfl⟩|⟨x,t,rfl,rfl⟩
  .rcases de f with⟨j,u,rfl,e⟩|⟨y,u,rfl,e⟩
   .injection e with c _;rw[c]
   .exact nomatch e
  .rcases de f with⟨j,u,rfl,e⟩|⟨y,u,rfl,e⟩
   .exact nomatch e
   .injection e with c _;rw[c]
 byValue:=λk v h=>by
  rcases de h with⟨i,t,rfl,rfl⟩|⟨x,t,rfl,rfl⟩ <;> rfl
 pyHash:=λd h=>by
  rcases de d with⟨i,t,rfl,rfl⟩|⟨x,t,rfl,rfl⟩
  .exact wpAny_pyHash_int h
  .exact wpAny_pyHash_str h
 eqBool:=λg d h=>by
  rcases de g with⟨i,t,rfl,rfl⟩|⟨x,t,rfl,rfl⟩
  .rcases de d with⟨j,u,rfl,rfl⟩|⟨y,u,rfl,rfl⟩
   .rw[DW]at h;exact Av h
   .rw[DY]at h;exact Oc i t y u _ _ _ _ h
  .rcases de d with⟨j,u,rfl,rfl⟩|⟨y,u,rfl,rfl⟩
   .rw[DZ]at h;exact Ob x t j u _ _ _ _ h
   .rw[DX]at h;exact wpAny_eqBool_str h
 «strs»:=λk x t v h=>by
  rcases de h with⟨i,u,rfl,e⟩|⟨y,u,rfl,e⟩
  .exact nomatch e
  .injection e with c _;subst c;cases v <;> rfl
def pH(prog:An)(w:zZ)(x:Str)(t:Tok):(nG prog w).is (.inr x) (.str x t)=true:=yS x t
inductive V where
 |non|bl (b:Bool)|int (i:Int)|str (x:Str)|byt (b:Array UInt8)|flt (b:UInt64)|ref (a:AE)|ty (n:String)
 deriving DecidableEq
open V renaming int→pi,ref→O1,str→OT
def  RelV:V->zY->Prop
 | .non,u=>u=zY.none
 | .bl b,u=>u=zY.bool b
 | .int i,u=>∃t,u=zY.int i t
 | .str x,u=>∃t,u=zY.str x t
 | .byt b,u=>∃t,u=zY.bytes b t
 | .flt b,u=>∃t,u=zY.float b t
 | .ref a,u=>u=zY.ref a
 | .ty n,u=>u=zY.type n
abbrev Vals:M3 V->M3 zY->Prop:=Paired RelV
def Vals.length{xs:M3 V}{us:M3 zY}(r:Vals xs us):⇑xs=⇑us:=Paired.length r
def Vals.get:∀{xs:M3 V}{us:M3 zY}{i:Nat}{x:V},Vals xs us->xs[i]?=MO x->∃u,us[i]?=MO u/\RelV x u
 |_,_,_,_,.nil,e=>by simp at e
 |_,_,0,_,.cons r _,e=>by simp at e;subst e;exact(_,U,r,)
 |_,_,i+1,x,.cons _ t,e=>by
  let(u,b,a):=Vals.get (i:=i) (x:=x) t<|~~~e;calc(u,~~~b,a,)
def Vals.set{x:V}{u:zY}(r:RelV x u):∀{xs:M3 V}{us:M3 zY}(i:Nat),Vals xs us->Vals (xs.set i x) (us.set i u)
 |_,_,_,.nil=>.nil
 |_,_,0,.cons _ t=>.cons r t
 |_,_,i+1,.cons q t=>.cons q<|Vals.set r i t
def Vals.append:∀{xs ys:M3 V}{us a:M3 zY},Vals xs us->Vals ys a->Vals (xs++ys) (us++a)
 |_,_,_,_,.nil,s=>s
 |_,_,_,_,.cons r t,s=>.cons r<|Vals.append t s
def Vals.take:∀{xs:M3 V}{us:M3 zY}(n:Nat),Vals xs us->Vals (xs.take n) (us.take n)
 |_,_,0,_=>.nil
 |_,_,_+1,.nil=>.nil
 |_,_,n+1,.cons r t=>.cons r<|Vals.take n t
def Vals.drop:∀{xs:M3 V}{us:M3 zY}(n:Nat),Vals xs us->Vals (xs.drop n) (us.drop n)
 |_,_,0,r=>r
 |_,_,_+1,.nil=>.nil
 |_,_,n+1,.cons _ t=>Vals.drop n t
def  rN:Option V->Option zY->Prop
 |some v,MO u=>RelV v u
 |none,MP=>True
 |_,_=>False
def  KV{a:Type}:M3 (a×V)->M3 (a×zY)->Prop:=Paired λ(p:a×V)(q:a×zY)=>p.1=q.1/\RelV p.2 q.2
def  kV:Key->V
 | .inl i=>.int i
 | .inr x=>.str x
inductive HO where
 |lst (xs:M3 V)
 |tup (xs:M3 V)
 |dK (kvs:M3 (Key×V))|dT (kvs:M3 (M3 Key×V))
 |set (S:Int->Bool)(n:Nat)
 |ins (C dx:AE)(fs:M3 (Str×V))
 |own (x:AE)
 |xd (fs:M3 (Str×V))
 |met (f x:AE)
 |rng (lo hi:Int)
 |frz (o:Obj)(u:HO)
 |tbl (ps:Array zY)
 |ext (φ:AU->Prop)
abbrev Hp:=AE->Option HO
def  upd(H:Hp)(a:AE)(o:HO):Hp:=λb=>if b=a then MO o else H b
def af{H:Hp}{a:AE}{o:HO}:upd H a o a=MO o:=by unfold upd;rw[MV U]
def ay{H:Hp}{a b:AE}{o:HO}(h:b≠a):upd H a o b=H b:=by unfold upd;rw[MU h]
def dM{H:Hp}{a b:AE}{o u:HO}(h:H a=MO o)(h':H b=MO u)(d:o≠u):a≠b:=by
 intro e;subst e;rw[h]at h';calc d<|dL h'
def bF{H:Hp}{a b:AE}{o:HO}(h:H a=MO o)(h':H b=MP):a≠b:=by
 intro e;subst e;rw[h]at h';cases h'
section
variable(P:An)(w:zZ)
def  eK(H:Hp)(h:AU)(a:AE):HO->Prop
 | .lst xs=>⇑xs<=AY/\∃(b:M3 zY)(n:Nat),Vals xs b/\h.get? a=MO { cls:=.type "list",data:=.seq b.toArray n }
 | .tup xs=>⇑xs<=AY/\∃b:M3 zY,Vals xs b/\IsTup h a b.toArray
 | .dK kvs=>⇑kvs<=AY/\(a == A1)=MR/\∃vs,KV kvs vs/\h.DictOf (nG P w) a vs
 | .dT kvs=>⇑kvs<=AY/\(a == A1)=MR/\∃xs:M3 (M3 Key×AE×zY),
   Paired (λ(p:M3 Key×V)(q:M3 Key×AE×zY)=>p.1=q.1/\H q.2.1=MO (.tup<|p.1.map kV)/\RelV p.2 q.2.2) kvs xs /\
   ∃o g i,h.get? a=MO o/\o.ExactDict/\o.data=.dict g i/\g.toList=xs.map (entryOfKey<|tupleKind<|nG P w)/\(xs.map (·.1)).Nodup
 | .set S n=>h.SetOf (intKind P w) a S n
 | .ins C dx fs=>H dx=MO (.own a)/\⇑fs<=1000/\dx≠a/\h.get? a=MO (Nh C dx) /\
   ∃c,h.Ns1 dx c/\(∀f,rN (fs.lookup f)<|c f)/\PySem.Within c (fs.map (·.1))
 | .own _=>∃o,h.get? a=MO o
 | .xd fs=>∃c,h.Ns1 a c/\∀f,rN (fs.lookup f) (c f)
 | .rng lo hi=>∃t u v,h.get? a=MO { cls:=.type "range",data:=.fields #[.int lo t,.int hi u,.int 1 v] }
 | .frz o u=>h.get? a=MO o/\eK H h a u
 | .tbl ps=>h.get? a=MO { cls:=.none,data:=.fields ps }
 | .met f x=>h.get? a=MO (OM (.ref f)<|.ref x)
 | .ext φ=>φ h/\(∃o,h.get? a=MO o)/\∀e d:AU,φ e->(∀o,e.get? a=MO o->d.get? a=MO o)->φ d
def  HOk(H:Hp)(h:AU):Prop:=∀a o,H a=MO o->eK P w H h a o
end
variable{P:An}{w:zZ}{H H':Hp}{h h':AU}{a:AE}
section
variable{o:HO}
def eK.lt(x:eK P w H h a o):a<h.objs.size:=by
 cases o with
 |lst c=>obtain⟨_,_,_,_,e⟩:=x;exact bn e
 |tup c=>obtain⟨_,_,_,p⟩:=x;exact p.lt
 |dK b=>obtain⟨_,_,_,_,o,_,_,e,_⟩:=x;exact bn e
 |dT b=>obtain⟨_,_,_,_,o,_,_,e,_⟩:=x;exact bn e
 |set S n=>obtain⟨o,_,_,_,e,_⟩:=x;exact bn e
 |ins C j fs=>obtain⟨_,_,_,e,_⟩:=x;exact bn e
 |own y=>obtain⟨_,e⟩:=x;exact bn e
 |xd fs=>obtain⟨_,⟨_,_,_,e,_⟩,_⟩:=x;exact bn e
 |rng lo hi=>obtain⟨_,_,_,e⟩:=x;exact bn e
 |frz i u=>obtain⟨e,_⟩:=x;exact bn e
 |tbl g=>exact bn (show h.get? a=MO _ from x)
 |met f y=>exact bn (show h.get? a=MO _ from x)
 |ext d=>obtain⟨_,⟨_,e⟩,_⟩:=x;calc bn e
def Paired.mapP{e d:Type}{F G:e->d->Prop}:∀{c:M3 e}{l₂:M3 d},Paired F c l₂->(∀a b,F a b->G a b)->Paired G c l₂
 |_,_,.nil,_=>.nil
 |_,_,.cons r t,f=>.cons (f _ _ r)<|Paired.mapP t f
def eK.stay(x:eK P w H h a o)(k:∀b u,(b=a\/H b=MO (.own a))->h.get? b=MO u->h'.get? b=MO u)
  (I:∀b,H b=MO (.own a)->H' b=MO (.own a))(G:∀b xs,H b=MO (.tup xs)->H' b=MO (.tup xs)):eK P w H' h' a o:=by
 induction o with
 |lst xs=>obtain⟨z,l,n,r,e⟩:=x;exact(z,l,n,r,k _ _ (.inl U) e,)
 |tup xs=>obtain⟨z,l,r,g,e,c⟩:=x;exact(z,l,r,g,k _ _ (.inl U) e,c,)
 |dK A=>obtain⟨z,y,E,r,g,i,j,e,c⟩:=x;exact(z,y,E,r,g,i,j,k _ _ (.inl U) e,c,)
 |dT A =>
  let(z,y,xs,r,g,i,j,e,c):=x;exact(z,y,xs,Paired.mapP r λp q z=>(z.1,G _ _ z.2.1,z.2.2,),g,i,j,k _ _ (.inl U) e,c,)
 |set S n=>obtain⟨g,i,j,t,e,c⟩:=x;exact(g,i,j,t,k _ _ (.inl U) e,c,)
 |ins C L fs =>
  let(d,z,ne,e,s,(m,i,j,J,c),r):=x;exact(I _ d,z,ne,k _ _ (.inl U) e,s,(m,i,j,k _ _ (.inr d) J,c,),r,)
 |own y=>obtain⟨g,e⟩:=x;exact(g,k _ _ (.inl U) e,)
 |xd fs=>obtain⟨s,⟨m,i,j,e,c⟩,r⟩:=x;exact(s,(m,i,j,k _ _ (.inl U) e,c,),r,)
 |rng lo hi=>obtain⟨t,u,v,e⟩:=x;exact(t,u,v,k _ _ (.inl U) e,)
 |frz g u F=>obtain⟨e,q⟩:=x;exact(k _ _ (.inl U) e,F q,)
 |tbl D =>
  let e:h.get? a=MO { cls:=.none,data:=.fields D }:=x;show h'.get? a=MO { cls:=.none,data:=.fields D };exact k a _ (.inl U) e
 |met f y =>
  let e:h.get? a=MO (OM (.ref f)<|.ref y):=x;show h'.get? a=MO (OM (.ref f)<|.ref y);exact k a _ (.inl U) e
 |ext K=>obtain⟨p,⟨o,e⟩,B⟩:=x;calc(B _ _ p λo q=>k _ _ (.inl U) q,(o,k _ _ (.inl U) e,),B,)
def HOk.lt(x:HOk P w H h)(e:H a=MO o):a<h.objs.size:=(x a o e).lt
def HOk.fresh(x:HOk P w H h)(e:h.objs.size<=a):H a=none:=by
 cases q:H a with
 |none=>rfl
 |some u=>calc MW (ri (x.lt q) e) (sh _)
def HOk.kept(x:HOk P w H h)(k:∀b u,h.get? b=MO u->h'.get? b=MO u):HOk P w H h':=λa o e =>
 (x a o e).stay (λb u _ q=>k b u q) (λ_ q=>q) λ_ _ q=>q
def HOk.laid(x:HOk P w H h)(k:∀b u,h.get? b=MO u->h'.get? b=MO u)(g:h.objs.size<=a)(new:eK P w (upd H a o) h' a o):HOk P w (upd H a o) h':=λb u e=>by
 let d:=x.fresh g;by_cases f:b=a
 .subst f;rw[af]at e;cases e;exact new
 .rw[ay f]at e;exact(x b u e).stay (λc v _ q=>k c v q) (λc q=>by rw[ay (bF q d)];exact q) λc i q=>by rw[ay (bF q d)];calc q
end
def  Rd(H:Hp)(a:AE)(u:HO):Prop:=H a=MO u\/∃o,H a=MO (.frz o u)
def Rd.ok{P:An}{w:zZ}{H:Hp}{h:AU}{a:AE}{u:HO}(r:Rd H a u)(x:HOk P w H h):eK P w H h a u:=by
 rcases r with r|⟨o,r⟩
 .exact x a u r
 .let(_,q):=x a _ r;calc q
def  Mut:Option HO->Prop
 |some (.lst _)=>True
 |some (.dK _)=>True
 |some (.dT _)=>True
 |some (.set _ _)=>True
 |some (.ins _ _ _)=>True
 |some (.ext _)=>True
 |_=>False
variable{x:AE}
section
variable{e:AE}{o':HO}
def HOk.write(ok:HOk P w H h)(f:Mut (H x))(m:e=x\/H e=MO (.own x))(k:∀b u,b≠e->h.get? b=MO u->h'.get? b=MO u)(j:∃u,h'.get? e=MO u)
  (new:eK P w (upd H x o') h' x o'):HOk P w (upd H x o') h':=λb u q=>by
 let n:∀c y,H c=MO (.own y)->c≠x:=λc y r z=>by subst z;rw[r]at f;exact f
 let p:∀c d,H c=MO (.tup d)->c≠x:=λc d r z=>by subst z;rw[r]at f;exact f
 by_cases i:b=x
 .subst i;rw[af]at q;cases q;exact new
 .rw[ay i]at q;by_cases a:b=e
  .let l:H b=MO (.own x):=by
    rcases m with z|z
    .exact MW (a.trans z) i
    .rw[a];exact z
   rw[q]at l;cases l;let(v,o):=j;exact(v,by rw[a];exact o,)
  .refine(ok b u q).stay (λc v g r=>k c v ?_ r) (λc r=>by rw[ay (n c b r)];exact r) λc d r=>by rw[ay (p c d r)];exact r
   rcases g with rfl|g
   .exact a
   .rintro rfl;rcases m with z|z
    .exact n c b g z
    .rw[g]at z;cases z;calc i U
end
structure Un(fs ex:M3 AE)(H H':Hp)(h h':AU):Prop where
 keep:∀b o,h.get? b=MO o->H b=MP->b ∉ fs->b ∉ ex->h'.get? b=MO o
 slot:∀b o,h.get? b=MO o->H b=MP->b∈fs->b ∉ ex->∃sl,h'.get? b=MO { o with slots:=sl }
 free:∀b o,h.get? b=MO o->H b=MP->b ∉ ex->H' b=MP
 there:∀b o,h.get? b=MO o->b ∉ ex->∃o',h'.get? b=MO o'
 tups:∀b xs,H b=MO (.tup xs)->H' b=MO (.tup xs)
 frzs:∀b o u,H b=MO (.frz o u)->H' b=MO (.frz o u)
 tbls:∀b ps,H b=MO (.tbl ps)->∃more,H' b=MO (.tbl<|ps++more)
section
variable{fs fs' ex ex':M3 AE}{H1 H2:Hp}{h1 h2:AU}{e:AE}{o:HO}
def Un.any(u:Un fs ex H H1 h h1){b:AE}{a:Obj}(q:h.get? b=MO a)(n:H b=MP)(c:b ∉ ex):∃e,h1.get? b=MO { a with slots:=e }:=by
 by_cases d:b∈fs
 .exact u.slot b a q n d c
 .exact(a.slots,u.keep b a q n d c,)
def Un.kept(k:∀b u,h.get? b=MO u->h'.get? b=MO u):Un fs ex H H h h' :=
 (λb a q _ _ _=>k b a q,λb a q _ _ _=>(a.slots,k b a q,),λ_ _ _ n _=>n,λb a q _=>(a,k b a q,),λ_ _ q=>q,λ_ _ _ q=>q,λ_ c q=>(#[],by rw[q];simp,),)
def Un.refl:Un fs ex H H h h:=Un.kept λ_ _ q=>q
def Un.laid(k:∀b u,h.get? b=MO u->h'.get? b=MO u)(e:h.objs.size<=a)(c:H a=MP):Un fs ex H (upd H a o) h h' where
 keep:=λb u q _ _ _=>k b u q
 slot:=λb u q _ _ _=>(u.slots,k b u q,)
 free:=λb u q n _=>by rw[ay (qo<|ri (bn q) e)];exact n
 there:=λb u q _=>(u,k b u q,)
 tups:=λb d q=>by rw[ay (bF q c)];exact q
 frzs:=λb u d q=>by rw[ay (bF q c)];exact q
 tbls:=λb f q=>(#[],by rw[ay (bF q c),q];simp,)
def Un.write(c:Mut (H x))(l:e=x\/H e=MO (.own x))(k:∀b u,b≠e->h.get? b=MO u->h'.get? b=MO u)(f:∃u,h'.get? e=MO u):Un fs ex H (upd H x o) h h':=by
 let g:∀b,H b=MP->b≠x:=λb n z=>by subst z;rw[n]at c;exact c
 let i:∀b,H b=MP->b≠e:=λb n z=>by
  subst z;rcases l with r|r
  .exact g b n r
  .rw[n]at r;cases r
 let d:∀b u,H b=MO u->¬ Mut (MO u)->b≠x:=λb u q nm z=>by subst z;rw[q]at c;exact nm c
 refine(λb u q n _ _=>k b u (i b n) q,λb u q n _ _=>(u.slots,k b u (i b n) q,),λb u q n _=>by rw[ay (g b n)];exact n,λb u q _=>?_,
  λb j q=>by rw[ay (d b _ q λz=>z)];exact q,λb u j q=>by rw[ay (d b _ q λz=>z)];exact q,λb m q=>(#[],by rw[ay (d b _ q λz=>z),q];simp,),)
 by_cases a:b=e
 .subst a;exact f
 .exact(u,k b u a q,)
end
def  trk(h:AU)(H:Hp):M3 AE:=(gl h.objs.size).filter λa=>(H a).isSome
def  tQ(h:AU)(H:Hp):AU:=W.hideAll h<|trk h H
def yT(h:AU)(H:Hp):(tQ h H).objs.size=h.objs.size:=W.hideAll_size _ _
def Ab{h:AU}{H:Hp}{b:AE}{o:Obj}(e:h.get? b=MO o)(n:H b=MP):(tQ h H).get? b=MO o :=
 W.hideAll_get _ e λa=>by
  let q:(H b).isSome=true:=(mH.mp a).2;rw[n]at q;simp at q
def B8{h:AU}{H:Hp}{b:AE}{o:Obj}(e:(tQ h H).get? b=MO o):h.get? b=MO o/\H b=none:=by
 let a:h.get? b=MO o:=W.of_hideAll (trk h H) e;calc(a,?_,);cases q:H b with
 |none=>rfl
 |some x =>
  let c:b∈trk h H:=mH.mpr (gW.mpr<|bn a,by simp[q],);let z:(tQ h H).get? b=none:=W.hideAll_none (trk h H) c;rw[z]at e;cases e
def  B9(g h:AU)(L:AE):M3 (AE×Obj):=(gl h.objs.size).filterMap λa=>if a=L\/(g.get? a).isSome=MQ then MP else(h.get? a).map λo=>(a,o)
def  rest(g h:AU)(L d:AE):M3 (AE×Obj):=(B9 g h L).filter λp=>decide<|p.1≠d
structure Mod(K:ac)(mg:Str->Option zY)(base:AU):Prop where
 kin:K.In base
 glob:base.Ns B5 mg
 blt:∃mb,base.Ns B6 mb/\∀x:Str,x ≠ "__name__" -> mb x=Ce x
 nolimit:base.NoLimit
structure Cx where
 prog:An
 w:zZ
 K:ac
 mg:Str->Option zY
 base:AU
 A:Cm
 N:M3 Str
 s₀:Ct
 H₀:Hp
 env:Env
 outer:M3 Env
 stack:M3 Env
 ex:M3 AE
 fn:Str->Bool
 calm:Bool
 pn:M3 (AE×Obj)
 xe:zY->Ct->Prop
def  frs(l:M3 Env):M3 AE:=l.filterMap (·.frame)
abbrev Cx.fs(X:Cx):M3 AE:=frs X.outer
def  Vis(a:Du)(x:Str):Prop:=a.names.lookup x=MO .local\/a.names.lookup x=MO .cell\/a.names.lookup x=MO .free
def  Loc(a:Du)(x:Str):Prop:=a.names.lookup x=MO .local\/a.names.lookup x=MO .cell
def  Look(a:Env)(h:AU)(m:Str->Option zY)(x:Str)(u:zY):Prop :=
 (a.kindOf x=MO .local/\m x=MO u)\/((a.kindOf x=MO .cell\/a.kindOf x=MO .free)/\∃c,a.cells.lookup x=MO c/\h.IsCell c (MO u))
structure Cx.Ok(X:Cx):Prop where
 mod:Mod X.K X.mg X.base
 kind:X.env.scope.kind=.function
 glob:X.env.globals=B5
 blt:X.env.builtins=B6
 above:X.s₀.heap.objs.size<=X.env.locals
 inj:∀x y c,X.env.cells.lookup x=MO c->X.env.cells.lookup y=MO c->x=y
 has:∀x,(X.env.kindOf x=MO .cell\/X.env.kindOf x=MO .free)->∃c,X.env.cells.lookup x=MO c
 cab:∀x c,X.fn x=MQ->X.env.cells.lookup x=MO c->X.s₀.heap.objs.size<=c
 hd:X.calm=MQ->X.A.handled=MP
 frames:X.A.frames=MO X.stack
 stk:X.stack=X.outer\/(X.stack=X.env :: X.outer/\X.env.frame=MO X.env.locals)
 exf:∀b∈X.ex,b≠X.env.locals/\∀x c,X.env.cells.lookup x=MO c->c≠b
 bs:∀b o,X.base.get? b=MO o->X.s₀.heap.get? b=MO o/\X.H₀ b=MP
 bsz:X.base.objs.size<=X.s₀.heap.objs.size
 noex:∀b o,X.base.get? b=MO o->b ∉ X.ex
 exfs:∀b∈X.ex,b ∉ X.fs
 funs:X.s₀.heap.FunFrames X.base X.outer
 frf:∀b∈X.fs,X.H₀ b=MP
structure Inv(X:Cx)(MT:M3 (AE×Obj))(σ:M3 (Option V))(H:Hp)(s:Ct):Prop where
 ok:X.Ok
 os:s.os=X.s₀.os
 bare:AllBare s.gens
 base:Un X.fs X.ex X.H₀ H X.s₀.heap s.heap
 loc:∃m,s.heap.Ns X.env.locals m/\∀(i:Nat)(x:Str)(v:V),X.N[i]?=MO x->σ[i]?=MO (MO v)->Vis X.env.scope x->∃u,RelV v u/\Look X.env s.heap m x u
 cell:∀x c,X.env.cells.lookup x=MO c->∃v,s.heap.IsCell c v
 free:H X.env.locals=MP
 freeC:∀x c,X.env.cells.lookup x=MO c->H c=MP
 pin:∀p∈X.pn++MT,s.heap.get? p.1=MO p.2/\H p.1=MP/\p.1≠X.env.locals/\p.1 ∉ X.fs/\∀v,p.2.data≠.cell v
 hok:HOk X.prog X.w H s.heap
 len:σ.length=X.N.length
variable{X:Cx}{MT:M3 (AE×Obj)}{s:Ct}
section
variable{σ:M3 (Option V)}
def Cx.Ok.nofr(ok:X.Ok){b:AE}{o:Obj}(e:X.base.get? b=MO o):b ∉ X.fs:=λa=>by
 let:=(ok.funs.mem a).1;rw[e]at this;cases this
def Inv.bs(I:Inv X MT σ H s):∀b o,X.base.get? b=MO o->s.heap.get? b=MO o/\H b=none:=λb o e =>
 (I.base.keep b o (I.ok.bs b o e).1 (I.ok.bs b o e).2 (I.ok.nofr e)<|I.ok.noex b o e,I.base.free b o (I.ok.bs b o e).1 (I.ok.bs b o e).2<|I.ok.noex b o e,)
def Inv.bk(I:Inv X MT σ H s):∀b o,X.base.get? b=MO o->s.heap.get? b=MO o:=λb o e=>(I.bs b o e).1
def Inv.mod(I:Inv X MT σ H s):Mod X.K X.mg X.base:=I.ok.mod
def Inv.kIn(I:Inv X MT σ H s):X.K.In s.heap:=I.ok.mod.kin.keeps I.bk
def Inv.lt(I:Inv X MT σ H s):X.env.locals<↥s:=by let(_,a,_):=I.loc;calc a.lt
def Inv.sz(I:Inv X MT σ H s):X.s₀.heap.objs.size<=↥s:=qu I.ok.above<|rM I.lt
def Inv.nofs(I:Inv X MT σ H s){a:AE}(h:↥s<=a):a ∉ X.fs:=λc=>by
 let(_,o,b,_):=I.ok.funs.mem c;calc MW (ri (bn b)<|qu I.sz h)<|sh _
def Inv.cne(I:Inv X MT σ H s):∀x c,X.env.cells.lookup x=MO c->c≠X.env.locals:=λx c e z=>by
 let(v,o,d,f):=I.cell x c e;let(m,(g,h,i,a,b,_),_):=I.loc;rw[z,a]at d;cases d;rw[b]at f;cases f
def Inv.funs(I:Inv X MT σ H s):s.heap.FunFrames X.base X.outer:=by
 let all:∀(l:M3 Env),(∀b∈frs l,b∈X.fs)->X.s₀.heap.FunFrames X.base l->s.heap.FunFrames X.base l:=by
  intro l;induction l with
  |nil=>intro _ _;trivial
  |cons p r g =>
   intro f k;let(m,(L,o,a,j,i,n),h):=k;let d:L∈X.fs:=f L (by unfold frs;rw[jz,a];exact gb);let(q,e):=I.base.slot L o i (I.ok.frf L d) d λz=>I.ok.exfs L z d
   exact(m,(L,_,a,j,e,n,),g (λb c=>f b (by unfold frs;rw[jz,a];exact eY _ c)) h,)
 calc all X.outer (λ_ c=>c) I.ok.funs
def Inv.stack(I:Inv X MT σ H s):s.heap.FunFrames X.base X.stack:=by
 rcases I.ok.stk with e|⟨e,b⟩
 .rw[e];exact I.funs
 .rw[e];let(m,a,_):=I.loc;refine .cons (by rw[I.ok.kind];decide) b a ?_ I.funs;calc AU.get?_none_of_le<|qu I.ok.bsz I.ok.above
def Inv.stkSub(I:Inv X MT σ H s):∀b∈frs X.stack,b∈X.env.locals :: X.fs:=λb a=>by
 rcases I.ok.stk with e|⟨e,c⟩
 .rw[e]at a;exact eY _ a
 .rw[e]at a;unfold frs at a;rw[jz,c]at a;calc a
def Inv.stkFree(I:Inv X MT σ H s):∀b∈frs X.stack,H b=none:=λb a=>by
 rcases cZ.mp (I.stkSub b a)with e|a
 .rw[e];exact I.free
 .let(_,o,c,_):=I.ok.funs.mem a;calc I.base.free b o c (I.ok.frf b a) λz=>I.ok.exfs b z a
def Inv.step{g':Array D0}{t':Nat}{d':Drawn}{ch:M3 AE}(I:Inv X MT σ H s)
  (g:∀b∈ch,(b∈X.ex\/X.s₀.heap.objs.size<=b)/\b≠X.env.locals/\(∀x c,X.env.cells.lookup x=MO c->c≠b)/\∀p∈X.pn++MT,p.1≠b)
  (keep:∀b o,b≠X.env.locals->b ∉ X.fs->b ∉ ch->s.heap.get? b=MO o->H b=MP->h'.get? b=MO o)
  (slot:∀b o,b≠X.env.locals->b∈X.fs->b ∉ ch->s.heap.get? b=MO o->H b=MP->∃F,h'.get? b=MO { o with slots:=F })(free:∀b o,b ∉ ch->s.heap.get? b=MO o->H b=MP->H' b=MP)
  (there:∀b o,b ∉ ch->s.heap.get? b=MO o->∃B,h'.get? b=MO B)
  (tups:∀b xs,H b=MO (.tup xs)->H' b=MO (.tup xs))(frzs:∀b o u,H b=MO (.frz o u)->H' b=MO (.frz o u))(tbls:∀b ps,H b=MO (.tbl ps)->∃E,H' b=MO (.tbl<|ps++E))
  (ns:∀m,s.heap.Ns X.env.locals m->h'.Ns X.env.locals m)(K:HOk X.prog X.w H' h')(S:AllBare g') :
  Inv X MT σ H' { s with heap:=h',gens:=g',drawn:=d',toks:=t' }:=by
 let D:∀b o,X.s₀.heap.get? b=MO o->b≠X.env.locals:=λb o e=>qo<|ri (bn e) I.ok.above
 let t:∀b o,X.s₀.heap.get? b=MO o->b ∉ X.ex->b ∉ ch:=λb o e a y=>by
  rcases(g b y).1 with z|z
  .exact a z
  .exact MW (ri (bn e) z)<|sh _
 let h:∀x c,X.env.cells.lookup x=MO c->∀v,s.heap.IsCell c v->h'.IsCell c v:=λx c e v (o,A,G,)=>by
  let f:c ∉ ch:=λz=>(g c z).2.2.1 x c e U
  by_cases N:c∈X.fs
  .let(F,q):=slot c o (I.cne x c e) N f A<|I.freeC x c e;exact(_,q,G,)
  .exact(o,keep c o (I.cne x c e) N f A<|I.freeC x c e,G,)
 refine(I.ok,I.os,S,(λb o e n y a=>?_,λb o e n y a=>?_,λb o e n a=>?_,λb o e a=>?_,λb xs e=>tups b xs<|I.base.tups b xs e,λb o xs e=>frzs b o xs<|I.base.frzs b o xs e,λb ps e=>?_,),?_,λx c e=>?_,?_,λx c e=>?_,λp M=>?_,K,I.len,)
 .exact keep b o (D b o e) y (t b o e a) (I.base.keep b o e n y a)<|I.base.free b o e n a
 .let(F,j):=I.base.slot b o e n y a;let(J,C):=slot b _ (D b o e) y (t b o e a) j<|I.base.free b o e n a;exact(J,C,)
 .let(B,j):=I.base.there b o e a;exact free b B (t b o e a) j<|I.base.free b o e n a
 .let(B,j):=I.base.there b o e a;exact there b B (t b o e a) j
 .let(P,j):=I.base.tbls b ps e;let(O,C):=tbls b _ j;exact(P++O,by rw[C,OJ],)
 .let(m,Q,R):=I.loc;calc(m,ns m Q,λi x v j C T=>?_,);let(u,r,l):=R i x v j C T;calc(u,r,?_,);rcases l with l|⟨k,c,e,z⟩
  .exact .inl l
  .exact .inr (k,c,e,h x c e _ z,)
 .let(v,z):=I.cell x c e;exact(v,h x c e v z,)
 .let(m,(o,_,_,A,_),_):=I.loc;exact free _ o (λz=>(g _ z).2.1 U) A I.free
 .let(v,o,A,G):=I.cell x c e;exact free c o (λz=>(g c z).2.2.1 x c e U) A<|I.freeC x c e
 .let(e,n,ne,L,d):=I.pin p M;let f:p.1 ∉ ch:=λz=>(g p.1 z).2.2.2 p M U
  calc(keep p.1 p.2 ne L f e n,free p.1 p.2 f e n,ne,L,d,)
def Inv.un{t':Nat}(I:Inv X MT σ H s)(u:Un X.fs [] H H' s.heap h')(d:HOk X.prog X.w H' h'):Inv X MT σ H' { s with heap:=h',toks:=t' }:=by
 let(m,(o,t,v,h,r),_):=id I.loc;let(l,k):=u.any h I.free (by simp);exact I.step (g':=s.gens) (d':=s.drawn) (ch:=[]) (λ_ z=>nomatch z) (λb o _ c _ e n=>u.keep b o e n c (by simp)) (λb o _ c _ e n=>u.slot b o e n c (by simp)) (λb o _ e n=>u.free b o e n (by simp)) (λb o _ e=>u.there b o e (by simp)) u.tups u.frzs u.tbls (λq j=>by
  let(p,f,g,a,i):=j;rw[h]at a;cases a;exact(_,f,g,k,i,)) d I.bare
def Inv.call{g':Array D0}{t':Nat}{d':Drawn}{ch:M3 AE}(I:Inv X MT σ H s)(u:Un (frs X.stack) ch H H' s.heap h')(h:HOk X.prog X.w H' h')(t:AllBare g')
  (f:∀b∈ch,(b∈X.ex\/X.s₀.heap.objs.size<=b)/\b≠X.env.locals/\(∀x c,X.env.cells.lookup x=MO c->c≠b)/\∀p∈X.pn++MT,p.1≠b) :
  Inv X MT σ H' { s with heap:=h',gens:=g',drawn:=d',toks:=t' }:=by
 let(m,(o,C,D,k,r),_):=id I.loc;let(y,g):=u.any k I.free λz=>(f _ z).2.1 U
 exact I.step (ch:=ch) f (λb o g v a e n=>u.keep b o e n (λz=>(cZ.mp<|I.stkSub b z).elim g v) a) (λb o _ _ a e n=>u.any e n a) (λb o a e n=>u.free b o e n a) (λb o a e=>u.there b o e a) u.tups u.frzs u.tbls (λB q=>by
  let(A,i,j,d,l):=q;rw[k]at d;cases d;exact(_,i,j,g,l,)) h t
def Inv.turned{t':Nat}{it:AE}(I:Inv X MT σ H s)(k:∀b o,b≠it->s.heap.get? b=MO o->h'.get? b=MO o)(h:H it=MP)(f:it≠X.env.locals)
  (w:it∈X.ex\/X.s₀.heap.objs.size<=it)(t:∀x c,X.env.cells.lookup x=MO c->c≠it)(l:∀p∈X.pn++MT,p.1≠it):Inv X MT σ H { s with heap:=h',toks:=t' }:=by
 let d:∀b u,H b=MO u->b≠it:=λb u e z=>by rw[z,h]at e;cases e
 refine I.step (g':=s.gens) (d':=s.drawn) (ch:=[it]) (λb j=>?_) (λb o _ _ a e _=>k b o (λz=>a (by simp[z])) e) (λb o _ _ a e _=>(o.slots,k b o (λz=>a (by simp[z])) e,)) (λ_ _ _ _ n=>n)
  (λb o a e=>(o,k b o (λz=>a (by simp[z])) e,)) (λ_ _ e=>e) (λ_ _ _ e=>e) (λb B e=>(#[],by rw[e];simp,)) (λm i=>?_) (λb u e=>?_) I.bare
 .let e:b=it:= ~~~j
  subst e;exact(w,f,t,l,)
 .let(o,y,A,g,r):=i;exact(o,y,A,k _ o (FM f) g,r,)
 .refine(I.hok b u e).stay (λc v a q=>k c v ?_ q) (λ_ q=>q) λ_ _ q=>q
  rcases a with z|z
  .rw[z];exact d b u e
  .exact d c _ z
def Inv.tok(I:Inv X MT σ H s)(t:Nat):Inv X MT σ H { s with toks:=t }:=I.un (h':=s.heap) (t':=t) Un.refl I.hok
def Inv.kept{t':Nat}(I:Inv X MT σ H s)(k:∀b u,s.heap.get? b=MO u->h'.get? b=MO u):Inv X MT σ H { s with heap:=h',toks:=t' }:=I.un (Un.kept k)<|I.hok.kept k
def Inv.laid{a:AE}{o:HO}{t':Nat}(I:Inv X MT σ H s)(k:∀b u,s.heap.get? b=MO u->h'.get? b=MO u)(c:↥s<=a)(new:eK X.prog X.w (upd H a o) h' a o) :
  Inv X MT σ (upd H a o) { s with heap:=h',toks:=t' }:=I.un (Un.laid k c<|I.hok.fresh c)<|I.hok.laid k c new
def Inv.write{x e:AE}{o:HO}{t':Nat}(I:Inv X MT σ H s)(c:Mut (H x))(d:e=x\/H e=MO (.own x))(k:∀b u,b≠e->s.heap.get? b=MO u->h'.get? b=MO u)(a:∃u,h'.get? e=MO u)
  (new:eK X.prog X.w (upd H x o) h' x o):Inv X MT σ (upd H x o) { s with heap:=h',toks:=t' }:=I.un (Un.write c d k a)<|I.hok.write c d k a new
def Inv.pins_of{a:M3 (AE×Obj)}(I:Inv X MT σ H s)(h:∀p∈a,s.heap.get? p.1=MO p.2/\H p.1=MP/\p.1≠X.env.locals/\p.1 ∉ X.fs/\∀v,p.2.data≠.cell v):Inv X a σ H s :=
 (I.ok,I.os,I.bare,I.base,I.loc,I.cell,I.free,I.freeC,λp b=>(eA.mp b).elim (λz=>I.pin p<|fE _ z)<|h p,I.hok,I.len,)
def nH{N:M3 Str}(c:N.Nodup){i j:Nat}{x:Str}(a:N[i]?=MO x)(b:N[j]?=MO x):i=j:=by
 let(g,e):=KH.mp a;let(f,d):=KH.mp b;calc(List.getElem_inj c).mp (e.trans d.symm)
def oM{M:D2}{A:Cm}{E:zY->Ct->Prop}{i:Nat}{x:Str}{v:V}{u:zY}{Q:Unit->Ct->Prop}(I:Inv X MT σ H s)(hN:X.N.Nodup)(hi:X.N[i]?=MO x)(B:Loc X.env.scope x)(r:RelV v u)
  (h:∀s',Inv X MT (σ.set i<|MO v) H s'->(∃a,Gc a s.heap s'.heap/\(a=X.env.locals\/X.env.cells.lookup x=MO a))->Q () s')(hf:X.fn x=MQ\/X.env.scope.names.lookup x=MO .local:=by first|exact .inl U|exact .inr U|assumption):D8 M A (Ei X.env x u) Q E s:=by
 let(m,hn,hl):=id I.loc;let Hm:(X.env.scope.kind == .class || (X.env.scope.kind == .module && X.env.locals != X.env.globals))=false:=by rw[I.ok.kind];rfl
 let F:i<σ.length:=by rw[I.len];exact(KH.mp hi).1
 let cne:=I.cne;let l:∀{a:AE}{h':AU},(∃o,s.heap.get? a=MO o/\H a=MP)->Gc a s.heap h'->HOk X.prog X.w H h':=λ{a h'} ha f b ob e=>by
  let(_,_,Dv):=ha;refine(I.hok b ob e).stay (λc R t q=>(f.2 c ?_).trans q) (λ_ q=>q) λ_ _ q=>q
  rintro rfl;rcases t with rfl|t
  .rw[Dv]at e;cases e
  .rw[Dv]at t;cases t
 rcases B with D|D
 .refine wpAny_storeName_local D hn (λh' a1 f=>?_) Hm;let(oL,_,_,a0,_):=id hn;refine h _ (I.ok,I.os,I.bare,(λb o e n J B=>?_,λb o e n J B=>?_,I.base.free,λb o e B=>?_,I.base.tups,I.base.frzs,I.base.tbls,),(_,a1,λj y T g C e3=>?_,),λy c e=>?_,I.free,I.freeC,λp hp=>?_,l (oL,a0,I.free,) f,~~~I.len,) (_,f,.inl U,)
  .exact(f.2 b<|qo<|ri (bn e) I.ok.above).trans (I.base.keep b o e n J B)
  .let(Y,g):=I.base.slot b o e n J B;exact(Y,(f.2 b<|qo<|ri (bn e) I.ok.above).trans g,)
  .let(o',g):=I.base.there b o e B;exact(o',(f.2 b<|qo<|ri (bn e) I.ok.above).trans g,)
  .by_cases G:j=i
   .subst G;rw[hi]at g;cases g;rw[Nv F]at C;cases C;exact(u,r,.inl (D,by simp,),)
   .rw[NE (FM G)]at C;let(W,Z,q):=hl j y T g C e3;calc(W,Z,?_,);rcases q with⟨k,e⟩|⟨k,c,e,z⟩
    .refine .inl (k,?_,);let:y≠x:=λe=>G<|nH hN g<|e ▸ hi
     simp[this,e]
    .exact .inr (k,c,e,z.sameBut f<|cne y c e,)
  .let(R,z):=I.cell y c e;exact(R,z.sameBut f<|cne y c e,)
  .let(e,n,ne,nf,d):=I.pin p hp;exact((f.2 p.1 ne).trans e,n,ne,nf,d,)
 .let K:X.fn x=true:=by
   rcases hf with z|z
   .exact z
   .rw[z]at D;cases D
  let(c,t):=I.ok.has x<|.inl D;let(R,z):=I.cell x c t;calc wpAny_storeName_cell I.ok.kind D t z<|λh' P f=>?_;let(oc,L,Hn):=id z;refine h { s with heap:=h' } (I.ok,I.os,I.bare,(λb o e n J B=>?_,λb o e n J B=>?_,I.base.free,λb o e B=>?_,I.base.tups,I.base.frzs,I.base.tbls,),(m,hn.sameBut f<|FM<|cne x c t,λj y T g C e3=>?_,),λy S e=>?_,I.free,I.freeC,λp hp=>?_,l (oc,L,I.freeC x c t,) f,~~~I.len,) (c,f,.inr t,)
  .exact(f.2 b<|qo<|ri (bn e)<|I.ok.cab x c K t).trans (I.base.keep b o e n J B)
  .let(Y,g):=I.base.slot b o e n J B;exact(Y,(f.2 b<|qo<|ri (bn e)<|I.ok.cab x c K t).trans g,)
  .let(o',g):=I.base.there b o e B;exact(o',(f.2 b<|qo<|ri (bn e)<|I.ok.cab x c K t).trans g,)
  .by_cases G:j=i
   .subst G;rw[hi]at g;cases g;rw[Nv F]at C;cases C;exact(u,r,.inr (.inl D,c,t,P,),)
   .rw[NE (FM G)]at C;let(W,Z,q):=hl j y T g C e3;calc(W,Z,?_,);rcases q with q|⟨k,S,e,z'⟩
    .exact .inl q
    .refine .inr (k,S,e,z'.sameBut f ?_,);rintro rfl;exact G<|nH hN g<|I.ok.inj _ _ _ e t ▸ hi
  .by_cases O:S=c
   .subst O;exact(_,P,)
   .let(w2,z2):=I.cell y S e;exact(w2,z2.sameBut f O,)
  .let(e,n,ne,nf,d):=I.pin p hp;calc((f.2 p.1 ?_).trans e,n,ne,nf,d,);intro q;rw[q,L]at e;let q':oc=p.2:=dL e;calc d R (by rw[←q'];exact Hn)
def qr{M:D2}{A:Cm}{E:zY->Ct->Prop}{i:Nat}{x:Str}{v:V}{u:zY}{Q:Unit->Ct->Prop}(I:Inv X MT σ H s)(c:X.N.Nodup)(hi:X.N[i]?=MO x)(a:Loc X.env.scope x)(r:RelV v u)
  (h:∀s',Inv X MT (σ.set i<|MO v) H s'->Q () s')(b:X.fn x=MQ\/X.env.scope.names.lookup x=MO .local:=by first|exact .inl U|exact .inr U|assumption):D8 M A (Ei X.env x u) Q E s :=
 oM I c hi a r (λs' d _=>h s' d) b
def Inv.call'{s':Ct}{ch:M3 AE}(I:Inv X MT σ H s)(g:s'.os=s.os)(u:Un (frs X.stack) ch H H' s.heap s'.heap)(a:HOk X.prog X.w H' s'.heap)(h:AllBare s'.gens)
  (d:∀b∈ch,(b∈X.ex\/X.s₀.heap.objs.size<=b)/\b≠X.env.locals/\(∀x c,X.env.cells.lookup x=MO c->c≠b)/\∀p∈X.pn++MT,p.1≠b):Inv X MT σ H' s':=by
 let(h',g',d',t',f):=s';let e:f=s.os:=g;subst e;calc I.call (g':=g') (t':=t') (d':=d') u a h d
end
abbrev XK:=zY->Option AE->Hp->Prop
abbrev St:=List<|Option V
abbrev VK:=V->Hp->Prop
abbrev TE:=St->Hp->VK->Prop
abbrev TT:=St->Hp->(Bool->Hp->Prop)->Prop
abbrev OZ:=St->Hp->Prop
abbrev O0:=Hp->Prop
abbrev TA:=St->Hp->(M3 V->O0)->Prop
structure Ends where
 nx:OZ
 rt:VK
 bk:OZ:=λ_ _=>False
 ct:OZ:=λ_ _=>False
abbrev TS:=Ends->OZ
inductive EP(X:Cx)(MT:M3 (AE×Obj))(σ:St)(Q:VK)(u:zY)(s':Ct):Prop
 |mk (v:V)(H':Hp)(_:Inv X MT σ H' s')(_:RelV v u)(_:Q v H'):EP X MT σ Q u s'
def  TP(X:Cx)(MT:M3 (AE×Obj))(a:St)(Q:Bool->O0)(b:Bool)(s':Ct):Prop:=∃H',Inv X MT a H' s'/\Q b H'
inductive AP(X:Cx)(MT:M3 (AE×Obj))(σ:St)(Q:M3 V->O0)(us:M3 zY)(s':Ct):Prop
 |mk (vs:M3 V)(H':Hp)(_:Inv X MT σ H' s')(_:Vals vs us)(_:Q vs H'):AP X MT σ Q us s'
def  SP(X:Cx)(MT:M3 (AE×Obj))(D:Ends)(f:Flow)(s':Ct):Prop :=
 match f with
 | .next=>∃a H',Inv X MT a H' s'/\D.nx a H'
 | .brk=>∃a H',Inv X MT a H' s'/\D.bk a H'
 | .cont=>∃a H',Inv X MT a H' s'/\D.ct a H'
 | .ret u=>∃v a H',Inv X MT a H' s'/\RelV v u/\D.rt v H'
def  PE(X:Cx)(e:Ej)(t:TE):Prop :=
 ∀(MT:M3 (AE×Obj))(s:Ct)(a:St)(H:Hp)(Q:VK),Inv X MT a H s->t a H Q->D8 (model X.prog X.w) X.A (eval e X.env) (EP X MT a Q) X.xe s
def  PT(X:Cx)(e:Ej)(t:TT):Prop :=
 ∀(MT:M3 (AE×Obj))(s:Ct)(a:St)(H:Hp)(Q:Bool->O0),Inv X MT a H s->t a H Q->D8 (model X.prog X.w) X.A (Ek e X.env<|eval e X.env) (TP X MT a Q) X.xe s
def  PW(X:Cx)(e:Ej)(t:TT):Prop :=
 ∀(a:Sem zY)(MT:M3 (AE×Obj))(s:Ct)(b:St)(H:Hp)(Q:Bool->O0),Inv X MT b H s->t b H Q->D8 (model X.prog X.w) X.A (Ek e X.env a) (TP X MT b Q) X.xe s
def PW.pt{X:Cx}{e:Ej}{t:TT}(h:PW X e t):PT X e t:=h _
def  PA(X:Cx)(c:M3 Ej)(t:TA):Prop :=
 ∀(b:Pos)(MT:M3 (AE×Obj))(s:Ct)(a:St)(H:Hp)(Q:M3 V->O0),Inv X MT a H s->t a H Q->D8 (model X.prog X.w) X.A (spliced<|Ey b<|EX c X.env) (AP X MT a Q) X.xe s
def  PS(X:Cx)(st:E1)(t:TS):Prop :=
 ∀(MT:M3 (AE×Obj))(s:Ct)(a:St)(H:Hp)(D:Ends),Inv X MT a H s->t D a H->D8 (model X.prog X.w) X.A (exec st X.env) (SP X MT D) X.xe s
def  PSs(X:Cx)(st:M3 E1)(t:TS):Prop :=
 ∀(MT:M3 (AE×Obj))(s:Ct)(a:St)(H:Hp)(D:Ends),Inv X MT a H s->t D a H->D8 (model X.prog X.w) X.A (execs st X.env) (SP X MT D) X.xe s
def thn{b:Type}{t:Sem b}{Q c:b->Ct->Prop}{M:D2}{A:Cm}{E:zY->Ct->Prop}{s:Ct}(h:D8 M A t Q E s)(d:∀a s,Q a s->c a s):D8 M A t c E s:=FC h d λ_ _ x=>x
variable{ta:TE}{pos:Pos}
section
def  Ac(i:Nat)(a:St)(H:Hp)(Q:VK):Prop:=(a[i]?).join.elim False λv=>Q v H
def Ac.to{i:Nat}{a:St}{H:Hp}{Q:VK}(h:Ac i a H Q):∃v,a[i]?=MO (MO v)/\Q v H:=by
 unfold Ac at h;cases e:a[i]? with
 |none=>rw[e]at h;exact ut h
 |some o =>
  cases o with
  |none=>rw[e]at h;exact ut h
  |some v=>rw[e]at h;calc(v,U,h,)
def  tC(v:V):TE:=λ_ H Q=>Q v H
def D1{i:Nat}{x:Str}{pos:Pos}(q:X.N[i]?=MO x)(k:Vis X.env.scope x)(b:(x == ("__debug__" : Str))=false:=by decide) (d:(x == ("__classdict__" : Str))=false:=by decide):PE X (.Name x pos) (Ac i):=by
 intro MT s j H Q I h;let(v,e,h):=h.to;let(m,n,p):=I.loc;let(u,r,l):=p i x v q e k;let fin:EP X MT j Q u s:=(v,H,I,r,h,);rcases l with⟨a,o⟩|⟨a,c,g,f⟩
 .exact F0 (F6 I.ok.kind a n o fin) b
 .rcases a with a|a
  .exact F0 (Ge I.ok.kind a g f fin) b
  .exact F0 (wpAny_loadName_free I.ok.kind a g f fin d) b
def ai{i j pos}:PE X (.Constant (.int i) j pos) (tC<|.int i):=λ_ _ _ H _ I h=>wpAny_Constant_int (.int i,H,I.tok _,(_,U,),h,)
def kN{b j pos}:PE X (.Constant (.bool b) j pos) (tC<|.bl b):=λ_ _ _ H _ I h=>Constant_bool (.bl b,H,I,U,h,)
def aV{x j pos}:PE X (.Constant (.str x) j pos) (tC<|.str x):=λ_ _ _ H _ I h=>Calls.Constant_str (.str x,H,I.tok _,(_,U,),h,)
def  Gl(X:Cx)(x:Str):Prop:=X.env.kindOf x=MO .globalImplicit
def fY{E:zY->Ct->Prop}{MT:M3 (AE×Obj)}{s:Ct}{a:St}{H:Hp}{x:Str}{u:zY}{pos:Pos}{Q:zY->Ct->Prop}(I:Inv X MT a H s)(c:Gl X x)(b:X.mg x=MO u)(h:Q u s)
  (hd:(x == ("__debug__" : Str))=false:=by decide):D8 (model X.prog X.w) X.A (eval (.Name x pos) X.env) Q E s :=
 N0 I.ok.kind c (Calls.loadGlobal_global (by rw[I.ok.glob];exact I.mod.glob.keeps I.bk) b h) hd
def jS{E:zY->Ct->Prop}{MT:M3 (AE×Obj)}{s:Ct}{a:St}{H:Hp}{x:Str}{u:zY}{pos:Pos}{Q:zY->Ct->Prop}(I:Inv X MT a H s)(e:Gl X x)(d:X.mg x=MP)(b:Ce x=MO u)(h:Q u s)
  (c:x ≠ "__name__" := by decide) (hd:(x == ("__debug__" : Str))=false:=by decide):D8 (model X.prog X.w) X.A (eval (.Name x pos) X.env) Q E s:=by
 let(i,g,f):=I.mod.blt;calc N0 I.ok.kind e (Calls.loadGlobal_builtin (by rw[I.ok.glob];exact I.mod.glob.keeps I.bk) d (by rw[I.ok.blt];exact g.keeps I.bk) ((f x c).trans b) h) hd
def fu{x:Str}{v:V}{u:zY}{pos:Pos}(b:Gl X x)(a:X.mg x=MO u)(r:RelV v u)(c:(x == ("__debug__" : Str))=false:=by decide):PE X (.Name x pos) (tC v) :=
 λ_ _ _ H _ I h=>fY I b a (v,H,I,r,h,) c
def tR{x:Str}{v:V}{u:zY}{pos:Pos}(d:Gl X x)(c:X.mg x=MP)(a:Ce x=MO u)(r:RelV v u)(b:x ≠ "__name__" := by decide) (hd:(x == ("__debug__" : Str))=false:=by decide):PE X (.Name x pos) (tC v) :=
 λ_ _ _ H _ I h=>jS I d c a (v,H,I,r,h,) b hd
variable{a b:Ej}{tb:TE}
inductive tBq  (Q:Bool->O0)(x:V)(H1:Hp):Prop
 |mk (c:_)(_:x=.bl c)(_:Q c H1):tBq Q x H1
def  tB(t:TE):TT:=λa H Q=>t a H λx b=>tBq Q x b
def bG{e:Ej}{t:TE}(h:PE X e t)(i:∀a,Ek e X.env a=(do let v ←a;Gf e.pos;holding [v] (truthy v)):=by intro _;rfl):PT X e (tB t):=by
 intro MT s b H Q I g;calc isTrue_plain (thn (h MT s b H _ I g) λv l (x,k,j,c,f,)=>?_)<|i _;let(d,rfl,q):=f;cases c;calc Gp (k,j,q,)
variable{tA tB':TT}{rest:M3 Ej}
def  Ho(t u:TT):TT:=λa H Q=>t a H λc b=>if c=MQ then u a b Q else Q MR b
def  tOr(t u:TT):TT:=λa H Q=>t a H λc b=>if c=MQ then Q MQ b else u a b Q
def  Hq(t:TT):TT:=λa H Q=>t a H λc b=>Q (!c) b
def iw(d:PT X a tA):PW X (.BoolOp .And [a] pos) tA:=by
 intro f MT s b H Q I h;calc isTrue_and<|thn (d MT s b H Q I h) λc g e=>?_;cases c with
 |true=>exact isTrue_and_nil e
 |false=>calc e
def jk(d:PT X a tA):PW X (.BoolOp .Or [a] pos) tA:=by
 intro f MT s b H Q I h;calc isTrue_or<|thn (d MT s b H Q I h) λc g e=>?_;cases c with
 |false=>exact isTrue_or_nil e
 |true=>calc e
def jT(l:PT X a tA)(k:PW X (.BoolOp .And (b :: rest) pos) tB'):PW X (.BoolOp .And (a :: b :: rest) pos) (Ho tA tB'):=by
 intro i MT s d H Q I h;calc isTrue_and<|thn (l MT s d H _ I h) λc j (g,f,e,)=>?_;cases c with
 |true=>exact k i MT j d g Q f e
 |false=>calc(g,f,e,)
def lh(l:PT X a tA)(k:PW X (.BoolOp .Or (b :: rest) pos) tB'):PW X (.BoolOp .Or (a :: b :: rest) pos) (tOr tA tB'):=by
 intro i MT s d H Q I h;calc isTrue_or<|thn (l MT s d H _ I h) λc j (g,f,e,)=>?_;cases c with
 |true=>exact(g,f,e,)
 |false=>calc k i MT j d g Q f e
def cE(d:PT X a tA):PT X (.UnaryOp .Not a pos) (Hq tA):=by
 intro MT s b H Q I h;calc isTrue_not<|d MT s b H (λc e=>Q (!c) e) I h
inductive Ad(tb:TE)(σ:St)(Q:VK)(x:V)(H1:Hp):Prop
 |mk (c:_)(_:x=.bl c)(_:if c=MQ then tb σ H1 Q else Q (.bl MR) H1)
def  FD(ta tb:TE):TE:=λa H Q=>ta a H λx b=>Ad tb a Q x b
inductive Ae  (Q:VK)(x:V)(H1:Hp):Prop
 |mk (c:_)(_:x=.bl c)(_:Q (.bl<|!c) H1):Ae Q x H1
def  FE(ta:TE):TE:=λa H Q=>ta a H λx b=>Ae Q x b
def jU{op} {t:TE}(h:PE X a t):PE X (.BoolOp op [a] pos) t:=λMT s b H Q I c=>BoolOp_one<|h MT s b H Q I c
def gY(l:PE X a ta)(k:PE X (.BoolOp .And (b :: rest) pos) tb):PE X (.BoolOp .And (a :: b :: rest) pos) (FD ta tb):=by
 intro MT s e H Q I h;calc BoolOp_and<|thn (l MT s e H _ I h) λv i (x,g,f,j,d,)=>?_;let(c,rfl,d):=d;cases j;calc Gp ?_;cases c with
 |true=>exact k MT i e g Q f d
 |false=>calc(.bl MR,g,f,U,d,)
def D3(f:PE X a ta):PE X (.UnaryOp .Not a pos) (FE ta):=by
 intro MT s d H Q I h;calc UnaryOp_<|thn (f MT s d H _ I h) λv j (x,i,g,e,b,)=>?_;let(c,rfl,b):=b;cases e;calc not_of<|Gp (.bl<|!c,i,g,U,b,)
def  tIf(t:TT)(ta tb:TE):TE:=λa H Q=>t a H λc b=>if c=MQ then ta a b Q else tb a b Q
def nI{c:Ej}(k:PT X c tA)(m:PE X a ta)(l:PE X b tb):PE X (.IfExp c a b pos) (tIf tA ta tb):=by
 intro MT s e H Q I h;calc wpAny_IfExp<|thn (k MT s e H _ I h) λd f (j,i,g,)=>?_;cases d with
 |true=>exact m MT f e j Q i g
 |false=>calc l MT f e j Q i g
end
def  SqL(K:ac)(H:Hp)(a:AE)(xs:M3 V):Prop :=
 Rd H a (.lst xs) \/
  ∃(o:Obj)(b:Array zY)(n:Nat),K.lookup a=MO o/\o.cls=.type "list" /\ o.dict=MP/\o.data=.seq b n/\b.size<=AY/\Vals xs b.toList
def  SqT(K:ac)(H:Hp)(a:AE)(xs:M3 V):Prop :=
 Rd H a (.tup xs) \/
  ∃(o:Obj)(b:Array zY)(n:Nat),K.lookup a=MO o/\o.cls=.type "tuple" /\ o.data=.seq b n/\b.size<=AY/\Vals xs b.toList
def  Hr:zY->Option V
 | .none=>MO .non
 | .bool b=>MO<|.bl b
 | .int i _=>MO<|.int i
 | .str x _=>MO<|.str x
 | .bytes b _=>MO<|.byt b
 | .float b _=>MO<|.flt b
 | .ref a=>↑a
 | .type n=>MO<|.ty n
 |_=>MP
def RelV.abs{x:V}{u:zY}(r:RelV x u):Hr u=MO x:=by
 cases x with
 |non=>cases r;rfl
 |bl _=>cases r;rfl
 |int _=>obtain⟨t,rfl⟩:=r;rfl
 |str _=>obtain⟨t,rfl⟩:=r;rfl
 |byt _=>obtain⟨t,rfl⟩:=r;rfl
 |flt _=>obtain⟨t,rfl⟩:=r;rfl
 |ref _=>cases r;rfl
 |ty _=>cases r;rfl
def RelV.inj{x y:V}{u:zY}(r:RelV x u)(q:RelV y u):x=y:=dL<|r.abs.symm.trans q.abs
def Vals.inj:∀{xs ys:M3 V}{us:M3 zY},Vals xs us->Vals ys us->xs=ys
 |_,_,_,.nil,.nil=>rfl
 |_,_,_,.cons r t,.cons r' t'=>by rw[r.inj r',Vals.inj t t']
variable{σ:St}
section
variable{xs ys:M3 V}
def SqL.of{K:ac}(h:H a=MO (.lst xs)):SqL K H a xs:=.inl<|.inl h
def SqT.of{K:ac}(h:H a=MO (.tup xs)):SqT K H a xs:=.inl<|.inl h
def Inv.list(I:Inv X MT σ H s)(h:SqL X.K H a xs):∃b:M3 zY,Vals xs b/\PlainL s.heap a b.toArray/\⇑xs<=AY:=by
 rcases h with h|⟨o,b,n,d,g,f,c,i,r⟩
 .let(z,b,n,r,e):=h.ok I.hok;exact(b,r,(_,n,e,U,U,U,),z,)
 .refine(b.toList,r,(o,n,I.kIn a o d,g,f,~~~c,),?_,);let e:=⇑r;simp only[w5]at e;lia
def Inv.tuple(I:Inv X MT σ H s)(h:SqT X.K H a xs):∃b:M3 zY,Vals xs b/\IsTup s.heap a b.toArray/\⇑xs<=AY:=by
 rcases h with h|⟨o,b,n,d,f,c,g,r⟩
 .let(z,b,r,p):=h.ok I.hok;exact(b,r,p,z,)
 .refine(b.toList,r,(o,I.kIn a o d,f,n,~~~c,),?_,);let e:=⇑r;simp only[w5]at e;lia
def Inv.list_inj(I:Inv X MT σ H s)(h:SqL X.K H a xs)(h':SqL X.K H a ys):xs=ys:=by
 let(c,r,(o,n,e,_,_,d),_):=I.list h;let(b,i,(k,l,f,_,_,g),_):=I.list h';rw[e]at f;cases f;rw[d]at g;injection g with j _;let:c=b:= ~~~M0 NN j
 subst this;calc r.inj i
def Inv.tuple_inj(I:Inv X MT σ H s)(h:SqT X.K H a xs)(h':SqT X.K H a ys):xs=ys:=by
 let(c,r,(o,e,_,n,d),_):=I.tuple h;let(b,i,(k,f,_,l,g),_):=I.tuple h';rw[e]at f;cases f;rw[d]at g;injection g with j _;let:c=b:= ~~~M0 NN j
 subst this;calc r.inj i
end
open SqT renaming of→OV
open SqL renaming of→OU
abbrev Cx.wish(X:Cx)(E:zY->Ct->Prop):Cx:={ X with xe:=E }
abbrev Cx.nox(X:Cx):Cx:=X.wish λ_ _=>False
open Cx renaming wish→OW,nox→OY
def Cx.Ok.wish{X:Cx}(ok:X.Ok)(E:zY->Ct->Prop):(X.wish E).Ok :=
 (ok.mod,ok.kind,ok.glob,ok.blt,ok.above,ok.inj,ok.has,ok.cab,ok.hd,ok.frames,ok.stk,ok.exf,ok.bs,ok.bsz,ok.noex,ok.exfs,ok.funs,ok.frf,)
def Cx.Ok.unwish{X:Cx}{E:zY->Ct->Prop}(ok:(X.wish E).Ok):X.Ok :=
 (ok.mod,ok.kind,ok.glob,ok.blt,ok.above,ok.inj,ok.has,ok.cab,ok.hd,ok.frames,ok.stk,ok.exf,ok.bs,ok.bsz,ok.noex,ok.exfs,ok.funs,ok.frf,)
variable{E:zY->Ct->Prop}
def Inv.wish(I:Inv X MT σ H s)(E:zY->Ct->Prop):Inv (X.wish E) MT σ H s:=(I.ok.wish E,I.os,I.bare,I.base,I.loc,I.cell,I.free,I.freeC,I.pin,I.hok,I.len,)
def Inv.unwish(I:Inv (X.wish E) MT σ H s):Inv X MT σ H s:=(I.ok.unwish,I.os,I.bare,I.base,I.loc,I.cell,I.free,I.freeC,I.pin,I.hok,I.len,)
def SP.unwish{D:Ends}{f:Flow}{s':Ct}(h:SP (X.wish E) MT D f s'):SP X MT D f s':=by
 cases f with
 |next=>obtain⟨a,H',I,q⟩:=h;exact(a,H',I.unwish,q,)
 |brk=>obtain⟨a,H',I,q⟩:=h;exact(a,H',I.unwish,q,)
 |cont=>obtain⟨a,H',I,q⟩:=h;exact(a,H',I.unwish,q,)
 |ret u=>obtain⟨v,a,H',I,r,q⟩:=h;calc(v,a,H',I.unwish,r,q,)
def PSs.nox{st:M3 E1}{t:TS}(h:PSs X.nox st t):PSs X st t:=λMT s σ H D I a =>
 FC (h MT s σ H D (I.wish _) a) (λ_ _ q=>q.unwish) λ_ _ z=>ut z
variable{e:Ej}{te:TE}
section
variable{st:E1}{rest:M3 E1}{t u:TS}
def  FG:TS:=λD σ H=>D.nx σ H
def  aZ(t u:TS):TS:=λD σ H=>t { D with nx:=u D } σ H
def aG:PSs X [] FG:=λ_ _ σ H _ I h=>Gw (σ,H,I,h,)
def ao(d:PS X st t)(c:PSs X rest u):PSs X (st :: rest) (aZ t u):=by
 intro MT s σ H D I h;calc Hl<|thn (d MT s σ H { D with nx:=u D } I h) λf b q=>?_;cases f with
 |next =>
  let(a,H',e,q):=q;exact c MT b a H' D e q
 |ret v=>exact q
 |brk=>exact q
 |cont=>calc q
def ag(a:PS X st t):PSs X [st] t:=by
 intro MT s σ H D I h;calc Hl<|thn (a MT s σ H D I h) λf b q=>?_;cases f with
 |next=>exact Gw q
 |ret v=>exact q
 |brk=>exact q
 |cont=>calc q
def  FH:TS:=λD σ H=>D.ct σ H
def u9:PS X (.Continue pos) FH:=λ_ _ σ H _ I h=>wpAny_Continue (σ,H,I,h,)
def Inv.quiet{MT:M3 (AE×Obj)}{σ:St}{H:Hp}{s:Ct}(I:Inv X MT σ H s):interactive X.env=false:=by simp[interactive,I.ok.kind]
def  FI(te:TE):TS:=λD σ H=>te σ H λ_ a=>D.nx σ a
def aY(c:PE X e te)(b:HJ e MP pos.line X.env=pure false:=by rfl):PS X (.Expr e pos) (FI te):=by
 intro MT s σ H D I h;calc wpAny_Expr_any (thn (c MT s σ H _ I h) λv g (x,f,d,i,a,)=>(σ,f,d,a,)) I.quiet b
def  Hs(te:TE):TS:=λD σ H=>te σ H D.rt
def aE(c:PE X e te):PS X (.Return (MO e) pos) (Hs te):=by
 intro MT s σ H D I h;calc HK<|thn (c MT s σ H _ I h) λv g (x,f,d,a,b,)=>(x,σ,f,d,a,b,)
def  FJ:TS:=λD _ H=>D.rt .non H
def Ca:PS X (.Return MP pos) FJ:=λ_ _ σ H _ I h=>wpAny_Return_none (.non,σ,H,I,U,h,)
def  Ht(c:TT)(t u:TS):TS:=λD σ H=>c σ H λb a=>if b=MQ then t D σ a else u D σ a
def aT{c:Ej}{a b:M3 E1}{e:TT}(k:PT X c e)(m:PSs X a t)(l:PSs X b u):PS X (.If c a b pos) (Ht e t u):=by
 intro MT s σ H D I h;calc wpAny_If<|thn (k MT s σ H _ I h) λd f (j,i,g,)=>?_;cases d with
 |true=>exact m MT f σ j D i g
 |false=>calc l MT f σ j D i g
def  D4:TS:=λ_ _ _=>False
def bo:PS X st D4:=λ_ _ _ _ _ _ h=>h.elim
end
abbrev TG:=V->St->Hp->(OZ)->Prop
abbrev TGs:=M3 V->St->Hp->(OZ)->Prop
def  PG(X:Cx)(a:Ej)(t:TG):Prop :=
 ∀(MT:M3 (AE×Obj))(s:Ct)(σ:St)(H:Hp)(v:V)(u:zY)(Q:OZ),Inv X MT σ H s->RelV v u->t v σ H Q ->
  D8 (model X.prog X.w) X.A (assign a X.env u) (λ_ c=>∃b H',Inv X MT b H' c/\Q b H') X.xe s
def  PGs(X:Cx)(d:M3 Ej)(t:TGs):Prop :=
 ∀(MT:M3 (AE×Obj))(s:Ct)(σ:St)(H:Hp)(b:M3 V)(c:M3 zY)(Q:OZ),Inv X MT σ H s->Vals b c->t b σ H Q ->
  D8 (model X.prog X.w) X.A (assignInOrder ((Ik d X.env).map (·.2)) c) (λ_ e=>∃a H',Inv X MT a H' e/\Q a H') X.xe s
abbrev D5:=V->V->V->Hp->(O0)->Prop
def  FK(X:Cx)(t:D5):Prop :=
 ∀(MT:M3 (AE×Obj))(s:Ct)(σ:St)(H:Hp)(o i v:V)(a b u:zY)(Q:O0),Inv X MT σ H s->RelV o a->RelV i b->RelV v u->t o i v H Q ->
  D8 (model X.prog X.w) X.A (setItem a b u) (λ_ c=>∃H',Inv X MT σ H' c/\Q H') X.xe s
abbrev TIp:=V->V->Hp->VK->Prop
def  PIp(X:Cx)(a:Ko)(t:TIp):Prop :=
 ∀(MT:M3 (AE×Obj))(s:Ct)(σ:St)(H:Hp)(x y:V)(v u:zY)(Q:VK),Inv X MT σ H s->RelV x v->RelV y u->t x y H Q ->
  D8 (model X.prog X.w) X.A (inplaceOp a v u) (EP X MT σ Q) X.xe s
def  sq(i:Nat):TG:=λv σ H Q=>Q (σ.set i<|MO v) H
def aC{i:Nat}{x:Str}(c:X.N.Nodup)(hi:X.N[i]?=MO x)(a:Loc X.env.scope x)(b:X.fn x=MQ\/X.env.scope.names.lookup x=MO .local:=by first|exact .inl U|exact .inr U|assumption):PG X (.Name x pos) (sq i):=by
 intro MT s σ H v u Q I r h;calc Kq<|qr I c hi a r (λe d=>(_,H,d,h,)) b
def  Hu:TGs:=λa σ H Q=>a=[]/\Q σ H
def  FL(t:TG)(u:TGs):TGs:=λb σ H Q=>∃v r,b=v :: r/\t v σ H λa H'=>u r a H' Q
def br:PGs X [] Hu:=by
 intro MT s σ H a b Q I r h;let(e,h):=h;subst e;cases r;calc assignInOrder_nil (σ,H,I,h,)
def aI{e:Ej}{a:M3 Ej}{t:TG}{u:TGs}(j:PG X e t)(i:PGs X a u)
  (g:(Ik (e :: a) X.env).map (·.2)=assign e X.env :: (Ik a X.env).map (·.2):=by rfl):PGs X (e :: a) (FL t u):=by
 intro MT s σ H n p Q I r h;let(v,o,k,h):=h;subst k;cases r with
 |cons r d =>
  rw[g];calc assignInOrder_cons<|thn (j MT s σ H _ _ _ I r h) λ_ c (b,m,l,f,)=>?_;calc i MT c b m _ _ Q l d f
def  FN(K:ac)(n:Nat)(t:TGs):TG:=λv σ H Q=>∃a b,v=.ref a/\SqT K H a b/\⇑b=n/\t b σ H Q
def d8{c:M3 Ej}{k:Nat}{t:TGs}{n:Nat}(w:X.calm=MQ)(h:PGs X c t)
  (p:⇑(Ik c X.env)=n:=by rfl)(f:(Ik c X.env).findIdx? (·.1)=none:=by rfl):PG X (.Tuple c k pos) (FN X.K n t):=by
 intro MT s σ H v u Q I r d;let(a,i,x,m,q,d):=d;subst x;cases r;let(z,g,l,A):=I.tuple m;refine assign_Tuple_tuple (I.ok.hd w) l (by simp[p,←q,⇑g]) f λh' j=>?_
 let y:Inv X MT σ H { s with heap:=h' }:=I.kept (t':=s.toks) λb o e=>j b o (qo<|bn e) e
 calc h MT _ σ H i _ Q y (~~~g) d
def  Hv(to a:TE)(t:D5):TG:=λv σ H Q=>to σ H λo d=>a σ d λi c=>t o i v c λb=>Q σ b
def D6{o i:Ej}{to c:TE}{t:D5}(n:PE X o to)(hi:PE X i c)(m:FK X t)
  (p:∀v,assign (.Subscript o i pos) X.env v=(do
   let a ←holding [v] (eval o X.env)
   let b ←holding [v,a] (eval i X.env)
   Gf pos
   holding [v,a,b] (setItem a b v)
   release [v,a,b] []):=by intro _;rfl):PG X (.Subscript o i pos) (Hv to c t):=by
 intro MT s σ H v u Q I r h;rw[p];calc zb<|zz<|thn (n MT s σ H _ I h) λa e (x,C,z,g,l,)=>?_;calc zb<|zz<|thn (hi MT e σ C _ z l) λb d (y,B,w,f,k,)=>?_;calc zb<|KI<|zb<|zz<|thn (m MT d σ B x y v a b u _ w g f r k) λ_ D (A,q,j,)=>?_;calc wpAny_release (σ,A,q,j,)
def  Cb(te:TE)(g:TG):TS:=λD σ H=>te σ H λx a=>g x σ a D.nx
def lp{a e:Ej}{te:TE}{g:TG}(k:PE X e te)(j:PG X a g)(i:swapsWithSole [a] e pos.line X.env=pure false:=by rfl)(f:swappedStores [a] e X.env=pure none:=by rfl)
  (l:(Ik [a] X.env).map (·.2)=[assign a X.env]:=by rfl):PS X (.Assign [a] e pos) (Cb te g):=by
 intro MT s σ H D I h;calc wpAny_Assign_stores (thn (k MT s σ H _ I h) λv b (x,n,m,c,d,)=>?_) i f;rw[l];calc thn (j MT b σ n x v _ m c d) λ_ o q=>q
def aL{i:Nat}{x:Str}{e:Ej}{te:TE}{a:Pos}(k:X.N.Nodup)(hi:X.N[i]?=MO x)(d:Loc X.env.scope x)(j:PE X e te)(f:HJ e (MO<|.Name x a) pos.line X.env=pure false:=by rfl)(g:X.fn x=MQ\/X.env.scope.names.lookup x=MO .local:=by first|exact .inl U|exact .inr U|assumption) :
  PS X (.Assign [.Name x a] e pos) (Cb te<|sq i):=by
 intro MT s σ H D I h;calc wpAny_Assign_Name (thn (j MT s σ H _ I h) λv p (y,n,m,b,c,)=>?_) f;calc qr m k hi d b (λo l=>(_,n,l,c,)) g
inductive FO(i:Nat)(te:TE)(ti:TIp)(D:Ends)(σ:St)(H:Hp):Prop
 |mk (x:_)(_:σ[i]?=MO (MO x))(_:te σ H λy H1=>ti x y H1 λz H2=>D.nx (σ.set i<|MO z) H2)
def Af{i:Nat}{x:Str}{e:Ej}{te:TE}{g:Ko}{o:TIp}{f:Pos}(Q:X.N.Nodup)(hi:X.N[i]?=MO x)(j:Loc X.env.scope x)(O:PE X e te)(G:PIp X g o)(M:X.fn x=MQ\/X.env.scope.names.lookup x=MO .local:=by first|exact .inl U|exact .inr U|assumption) :
  PS X (.AugAssign (.Name x f) g e pos) (FO i te o):=by
 intro MT s σ H D I h;let(v,R,h):=h;let(m,J,L):=I.loc;let n:Vis X.env.scope x:=by rcases j with k|k;calc .inl k;exact .inr<|.inl k
 let(u,r,l):=L i x v hi R n;calc wpAny_AugAssign_Name ?_;let p:D8 (model X.prog X.w) X.A (eval e X.env) (λw d=>D8 (model X.prog X.w) X.A (inplaceOp g u w) (λr b=>D8 (model X.prog X.w) X.A (Ei X.env x r) (λ_=>SP X MT D .next) X.xe b) X.xe d) X.xe s:=by
  refine thn (O MT s σ H _ I h) λw q (y,Y,V,B,E,)=>?_
  refine thn (G MT q σ Y v y u w _ V r B E) λz s2 (Z,W,T,t,C,)=>?_
  exact qr T Q hi j t (λs3 S=>(_,W,S,C,)) M
 rcases l with⟨a,K⟩|⟨a,c,P,F⟩
 .exact F6 I.ok.kind a J K p
 .rcases a with a|a
  .exact Ge I.ok.kind a P F p
  .rcases j with k|k
   .let:X.env.scope.names.lookup x=MO .free:=a;rw[k]at this;cases this
   .let:X.env.scope.names.lookup x=MO .free:=a;rw[k]at this;cases this
def  ipI(f:Int->Int->Int):TIp:=λx y H Q=>∃i j,x=.int i/\y=.int j/\Q (.int<|f i j) H
def Ag:PIp X .Add (ipI λi j=>i+j):=by
 intro MT s σ H x y v u Q I b a h;let(i,j,d,c,q):=h;subst d;subst c;let(t,rfl):=b;let(e,rfl):=a;calc iadd_int (.int _,H,I.tok _,(_,U,),q,)
def  D7(c:TT)(tb:TS):TS:=λD σ H=>∃W:Nat->OZ,(∃m,W m σ H)/\∀m σ H,W m σ H ->
 c σ H λb e=>if b=MQ then ∃N:OZ,(∀a H',N a H'->∃d,d<m/\W d a H')/\tb { D with nx:=N,ct:=N,bk:=D.nx } σ e else D.nx σ e
def vc{c:Ej}{body:M3 E1}{q:TT}{tb:TS}(r:KL (model X.prog X.w) X.A X.env X.xe)(J:PT X c q)(K:PSs X body tb):PS X (.While c body [] pos) (D7 q tb):=by
 intro MT s σ H D I h;let(W,(G,B),turn):=h;calc wpAny_While<|codeAny_whileLoop (λn F=>∃g H',Inv X MT g H' F/\W n g H') ?_ G (σ,H,I,B,);rintro n E ⟨d,y,L,z⟩;calc KN r<|thn (J MT E d y _ L<|turn n d y z) λb C (x,u,j,)=>?_;cases b with
 |true =>
  let(N,t,j):=j;rw[MV U];calc KN r<|thn (K MT C d x _ u j) λf M i=>?_;cases f with
  |next =>
   let(a,e,p,l):=i;let(m,o,k):=t a e l;exact(m,o,a,e,p,k,)
  |cont =>
   let(a,e,p,l):=i;let(m,o,k):=t a e l;exact(m,o,a,e,p,k,)
  |brk=>exact i
  |ret v=>exact i
 |false =>
  rw[MU cr];calc Gw (d,x,u,j,)
structure It where
 go:Nat->O0
 yld:Nat->Hp->V->O0
 stop:Nat->O0
def  mr(X:Cx)(MT:M3 (AE×Obj))(H:Hp)(b:AE):Prop :=
 H b=MP/\b≠X.env.locals/\b ∉ X.fs/\(b∈X.ex\/X.s₀.heap.objs.size<=b)/\(∀x c,X.env.cells.lookup x=MO c->c≠b)/\∀p∈X.pn++MT,p.1≠b
def Inv.fpOk{X:Cx}{MT:M3 (AE×Obj)}{σ:St}{H H':Hp}{s:Ct}{b:AE}(I:Inv X MT σ H s)(a:↥s<=b)(f:H' b=MP):mr X MT H' b:=by
 refine(f,rG<|ri I.lt a,I.nofs a,.inr<|qu I.sz a,λx c e z=>?_,λp d z=>?_,)
 .let(v,q):=I.cell x c e;exact MW (ri q.lt (by rw[z];exact a)) (sh _)
 .exact MW (ri (bn (I.pin p d).1) (by rw[z];exact a)) (sh _)
structure Turn(P:An)(w:zZ)(K:ac)(tg:Ej)(J:It)(fp:M3 AE)(it:AE)(tn:Nat->AU->Prop):Prop where
 mem:it∈fp
 obj:∀i h,tn i h->∀b∈fp,∃o,h.get? b=MO o/\∀v,o.data≠.cell v
 keep:∀i h h',tn i h->(∀b∈fp,∀o,h.get? b=MO o->h'.get? b=MO o)->tn i h'
 item:∀(X:Cx),X.prog=P->X.w=w->X.K=K->X.calm=MQ->∀(i:Nat)(MT:M3 (AE×Obj))(s:Ct)(σ:St)(H:Hp)(E:zY->Ct->Prop),Inv X MT σ H s->(∀b∈fp,mr X MT H b)->tn i s.heap->J.go i H ->
  D8 (model P w) X.A (KO<|.ref it) (λr s1=>∃u,r=MO u /\
   D8 (model P w) X.A (KP tg (.ref it) u) (λ_ s2=>∃x H',Inv X MT σ H' s2/\RelV x u/\J.yld i H x H'/\tn (i+1) s2.heap/\∀b∈fp,H' b=MP) E s1) E s
 done:∀(X:Cx),X.prog=P->X.w=w->X.K=K->X.calm=MQ->∀(i:Nat)(MT:M3 (AE×Obj))(s:Ct)(σ:St)(H:Hp)(E:zY->Ct->Prop),Inv X MT σ H s->(∀b∈fp,mr X MT H b)->tn i s.heap->J.stop i H ->
  D8 (model P w) X.A (KO<|.ref it) (λr s1=>r=MP/\Inv X MT σ H s1) E s
 self:∀(A:Cm)(i:Nat)(s:Ct)(Q:zY->Ct->Prop)(E:zY->Ct->Prop),tn i s.heap->Q (.ref it) s->D8 (model P w) A (KQ<|.ref it) Q E s
abbrev TI:=St->Hp->(It->O0)->Prop
def  PIE(X:Cx)(MT:M3 (AE×Obj))(σ:St)(g:Ej)(R:It->O0)(a:zY)(d:Ct):Prop :=
 ∃(e:AE)(f:M3 AE)(c:Nat->AU->Prop)(J:It)(H':Hp),a=.ref e/\Inv X MT σ H' d/\Turn X.prog X.w X.K g J f e c/\c 0 d.heap/\(∀b∈f,mr X MT H' b)/\R J H'
def  PI(X:Cx)(c a:Ej)(b:TI):Prop :=
 ∀(MT:M3 (AE×Obj))(s:Ct)(σ:St)(H:Hp)(R:It->O0),Inv X MT σ H s->b σ H R ->
  D8 (model X.prog X.w) X.A (eval a X.env) (λv d=>D8 (model X.prog X.w) X.A (KQ v) (PIE X MT σ c R) X.xe d) X.xe s
def yd{M:D2}{A:Cm}{E:zY->Ct->Prop}{s:Ct}{b:Ej}{it:AE}{u:zY}{o:Obj}{n:String}{vs:Array zY}{Q:Unit->Ct->Prop}(c:s.heap.get? it=MO o)(f:o.cls=.type n)(e:o.data=.fields vs)
  (d:["enumerate","zip","dict_itemiterator","dict_reverseitemiterator","odict_iterator","itertools.zip_longest","itertools.pairwise"].contains n=MR) (a:Q () s):D8 M A (KP b (.ref it) u) Q E s:=by
 unfold KP
 cases b <;> first
  |exact zp a
  |(cases u <;> first
    |exact zp a
    |(calc zb (wpAny_load c ?_);rw[f,e];show D8 M A (if (["enumerate","zip","dict_itemiterator","dict_reverseitemiterator","odict_iterator","itertools.zip_longest","itertools.pairwise"].contains n && vs[0]? == MO (KR _))=MQ then _ else _) Q E s;rw[MU (by intro h;rw[d,ww]at h;cases h)];exact zp a))
def  Itl(K:ac)(a:AE):It :=
 (λi H=>∃b x,SqL K H a b/\b[i]?=MO x,λi H x H'=>H'=H/\∀b,SqL K H a b->b[i]?=MO x,λi H=>∃b,SqL K H a b/\⇑b<=i,)
def  Itr(lo:Int)(n:Nat):It:=(λi _=>i<n,λi H x H'=>H'=H/\x=.int (lo+i),λi _=>n<=i,)
def yU{P:An}{w:zZ}{K:ac}{N:Ej}(a it:AE):Turn P w K N (Itl K a) [it] it (λi h=>h.IsListIter it a i) where
 mem:=by simp
 obj:=λi h f b g=>by
  let e:b=it:= ~~~g
  subst e;let(o,e,c,d):=f;exact⟨o,e,λv z=>by rw[d]at z;cases z⟩
 keep:=λi h h' f k=>f.at λo e=>k it (by simp) o e
 item:=by
  intro X y r A L i MT s σ H E I m f t;subst y r A;let(M,x,l,q):=t;let(J,n,p,R):=I.list l;let(u,T,Q):=n.get q;let(G,F,V,D,C,B):=m it (by simp);refine KS f p.isList (x:=u) (~~~T) λh' j O=>?_
  let Z:Inv X MT σ H { s with heap:=h' }:=I.turned (t':=s.toks) (λb o g e=>(O.2 b g).trans e) G F D C B;let(o,e,c,d):=id j;exact(u,U,yd (s:={ s with heap:=h' }) e c d ⋯ (x,H,Z,Q,(U,λys S=>by rw[I.list_inj S l];exact q,),j,λb g=>(m b g).1,),)
 done:=by
  intro X y r A L i MT s σ H E I m f t;subst y r A;let(M,l,q):=t;let(J,n,p,R):=I.list l;let(G,F,V,D,C,B):=m it (by simp);let hl:=⇑n;exact KU (I.ok.hd L) f p.isList (by simp;lia) λh' Y=>(U,I.turned (t':=s.toks) (λb o g e=>Y b o g e) G F D C B,)
 self:=λ_ _ _ _ _ f h=>wpAny_pyIter_listiter f h
def wM{P:An}{w:zZ}{K:ac}{C:Ej}(it:AE)(lo:Int)(n:Nat):Turn P w K C (Itr lo n) [it] it (λi h=>IsRangeIter h it (lo+(i:Nat)*1) ((n:Int)-(i:Nat)) 1) where
 mem:=by simp
 obj:=λi h a b c=>by
  let e:b=it:= ~~~c
  subst e;exact⟨_,a,λv z=>by
   let B:Data.fields _=Data.cell v:=z;cases B⟩
 keep:=λi h h' a k=>k it (by simp) _ a
 item:=by
  intro X m g p l i MT s σ H E I f a j;subst m g p;let(y,x,G,u,r,q):=f it (by simp);let W:=Walks.range (prog:=X.prog) (w:=X.w) (I.ok.hd l) it lo 1 n;refine W.item i s _ _ j a λv h' A F d D=>?_
  let(t,rfl):=F;let L:Inv X MT σ H { s with heap:=h',toks:=A }:=I.turned (λb o c e=>D b o (~~~c) e) y x u r q;calc(_,U,yd (s:={ s with heap:=h',toks:=A }) (n := "range_iterator") d U U ⋯ (.int<|lo+i,H,L,(t,?_,),(U,U,),d,λb c=>(f b c).1,),);rw[Int.mul_one]
 done:=by
  intro X m g p l i MT s σ H E I f a j;subst m g p;let(y,x,G,u,r,q):=f it (by simp);exact wpAny_pyNext_range_end (I.ok.hd l) a (by have:n<=i:=j;lia) λh' J=>(U,I.turned (t':=s.toks) (λb o c e=>J b o c e) y x u r q,)
 self:=λ_ _ _ _ _ a h=>wpAny_pyIter_rangeiter a h
section
variable{tg:Ej}
inductive Ah(K:ac)(R:It->O0)(x:V)(H1:Hp):Prop
 |mk (a:_)(_:x=.ref a)(_:(∃xs,SqL K H1 a xs))(_:R (Itl K a) H1)
def  Dx(K:ac)(tl:TE):TI:=λσ H R=>tl σ H λx a=>Ah K R x a
def aR{l:Ej}{tl:TE}(j:PE X l tl):PI X tg l (Dx X.K tl):=by
 intro MT s σ H R I h;refine thn (j MT s σ H _ I h) λv c (x,m,d,f,g,)=>?_
 let(a,e,(r,i),q):=g;subst e;cases f;let(n,t,p,u):=d.list i;calc KW p.isList ?_;calc(↥c,[↥c],_,_,m,U,d.kept (t':=c.toks) λb o e=>am _ e,yU a _,(_,ii _ U,U,U,),λb k=>?_,q,);let e:b=↥c:= ~~~k
 subst e;calc d.fpOk (pT _)<|d.hok.fresh<|pT _
def vd{MT:M3 (AE×Obj)}{σ:St}{H:Hp}{s:Ct}{R:It->O0}{E:zY->Ct->Prop}{lo hi:Int}{t u v:Tok}{a:Nat}(I:Inv X MT σ H s)(i : -(2^62)<=lo)(h:lo<2^62)(g : -(2^62)<=hi)(f:hi<2^62)
  (q:R (Itr lo (hi-lo).toNat) H):D8 (model X.prog X.w) X.A (KQ<|.ref ↥s) (PIE X MT σ tg R) E { s with heap:=s.heap.push { cls:=.type "range",data:=.fields #[.int lo t,.int hi u,.int 1 v] },toks:=a }:=by
 calc wpAny_pyIter_range (IsRange.new ..) (small_one i h g f) ?_;let c:Inv X MT σ H { s with heap:=s.heap.push { cls:=.type "range",data:=.fields #[.int lo t,.int hi u,.int 1 v] },toks:=a }:=I.kept λb o e=>am _ e
 refine((s.heap.push { cls:=.type "range",data:=.fields #[.int lo t,.int hi u,.int 1 v] }).objs.size,[(s.heap.push { cls:=.type "range",data:=.fields #[.int lo t,.int hi u,.int 1 v] }).objs.size],_,_,H,U,
  c.kept (t':=a) λb o e=>am _ e,wM _ lo (hi-lo).toNat,?_,λb d=>?_,q,)
 .let k:lo+((0:Nat):Int)*1=lo:=by simp
  let j:(((hi-lo).toNat:Nat):Int)-((0:Nat):Int)=KY.Range.rangeSize lo hi 1:=by rw[rangeSize_one];split <;> lia
  show IsRangeIter _ _ (lo+((0:Nat):Int)*1) ((((hi-lo).toNat:Nat):Int)-((0:Nat):Int)) 1;rw[k,j];exact ii _ U
 .let e:b=(s.heap.push { cls:=.type "range",data:=.fields #[.int lo t,.int hi u,.int 1 v] }).objs.size:= ~~~d
  subst e;calc c.fpOk (pT _)<|c.hok.fresh<|pT _
inductive Ai  (R:It->O0)(vs:M3 V)(H1:Hp):Prop
 |mk (j:Int)(_:vs=[.int j])(_ : -(2^62)<=j)(_:j<2^62)(_:R (Itr 0 j.toNat) H1):Ai R vs H1
def  FP(ta:TA):TI:=λσ H R=>ta σ H λa b=>Ai R a b
inductive Aj  (R:It->O0)(vs:M3 V)(H1:Hp):Prop
 |mk (i j:Int)(_:vs=[.int i,.int j])(_:(-(2^62)<=i/\i<2^62/\-(2^62)<=j/\j<2^62))(_:R (Itr i (j-i).toNat) H1):Aj R vs H1
def  FQ(ta:TA):TI:=λσ H R=>ta σ H λa b=>Aj R a b
def b6{a:Ej}{ta:TA}{p pos:Pos}(i:Gl X "range") (hm:X.mg "range" = MP) (k:PA X [a] ta)(g:EX [a] X.env=[(MR,eval a X.env)]:=by rfl):PI X tg (.Call (.Name "range" p) [a] [] pos) (FP ta):=by
 intro MT s σ H R I h;calc Call_<|jS I i hm boot_range<|v4 (thn (k pos MT s σ H _ I h) λn o (m,u,l,d,b,)=>?_) g U;let(j,e,b,f,q):=b;subst e;cases d with
 |cons r c =>
  cases c;let(t,rfl):=r;calc call_range_1<|vd l ∅ ∅ b f (~~~q)
def sr{a b:Ej}{ta:TA}{p pos:Pos}(u:Gl X "range") (hm:X.mg "range" = MP) (v:PA X [a,b] ta)(o:EX [a,b] X.env=[(MR,eval a X.env),(MR,eval b X.env)]:=by rfl)(c:EX [b] X.env=[(MR,eval b X.env)]:=by rfl) :
  PI X tg (.Call (.Name "range" p) [a,b] [] pos) (FQ ta):=by
 intro MT s σ H R I h;refine Call_ (jS I u hm boot_range<|v4 (thn (v pos MT s σ H _ I h) λy A (x,B,w,g,f,)=>?_) (by rw[o,c]) (by rw[c];rfl));let(i,j,e,(f,n,m,l),q):=f;subst e;cases g with
 |cons r d =>
  cases d with
  |cons k d =>
   cases d;let(t,rfl):=r;let(z,rfl):=k;calc call_range_2<|vd w f n m l q
def  Hw(d:TI)(g:TG)(tb:TS):TS:=λD σ H=>d σ H λJ f=>∃W:Nat->Nat->OZ,(∃m,W 0 m σ f)/\∀i m σ H,W i m σ H ->
 (J.stop i H/\D.nx σ H)\/(J.go i H/\∃N:OZ,(∀a H',N a H'->∃c,c<m/\W (i+1) c a H')/\∀x H',J.yld i H x H'->g x σ H' λb e=>tb { D with nx:=N,ct:=N,bk:=D.nx } b e)
def  jl(a:M3 AE)(h:AU):M3 (AE×Obj):=a.filterMap λb=>(h.get? b).map λo=>(b,o)
def dO{a:M3 AE}{h:AU}{b:AE}{o:Obj}(c:b∈a)(e:h.get? b=MO o):(b,o)∈jl a h:=nF.mpr (b,c,by rw[e];rfl,)
def yV{a:M3 AE}{h:AU}{p:AE×Obj}(c:p∈jl a h):p.1∈a/\h.get? p.1=MO p.2:=by
 let(b,d,e):=nF.mp c;cases q:h.get? b with
 |none=>rw[q]at e;cases e
 |some o =>
  rw[q]at e;let f:(b,o)=p:=dL e;subst f;calc(d,q,)
def Inv.pinned{MT:M3 (AE×Obj)}{σ:St}{H:Hp}{s:Ct}{a:M3 AE}(I:Inv X MT σ H s)(i:∀b∈a,mr X MT H b)(h:∀b∈a,∃o,s.heap.get? b=MO o/\∀v,o.data≠.cell v):Inv X (MT++jl a s.heap) σ H s :=
 I.pins_of λp g=>(eA.mp g).elim (λz=>I.pin p<|fq _ z) λz=>by
  let(c,e):=yV z;let(l,k,j,_):=i p.1 c;let(o,f,d):=h p.1 c;rw[e]at f;cases f;calc(e,l,k,j,d,)
def Inv.unpinned{MT pl:M3 (AE×Obj)}{σ:St}{H:Hp}{s:Ct}(I:Inv X (MT++pl) σ H s):Inv X MT σ H s:=I.pins_of λp a=>I.pin p<|fq _<|fE _ a
def bB{q:Ej}{body:M3 E1}{Y:TI}{g:TG}{tb:TS}{pos:Pos}(C:KL (model X.prog X.w) X.A X.env X.xe)(hc:X.calm=MQ)(hi:PI X tg q Y)(hg:PG X tg g)(c:PSs X body tb)
  (hs:∀x,KZ q X.env x=pure x:=by intro _;rfl):PS X (.For tg q body [] pos) (Hw Y g tb):=by
 intro MT s σ H D I h;calc wpAny_For (thn (hi MT s σ H _ I h) λv s1 h1=>thn h1 λa0 s2 h2=>?_) hs;let(it,E,Z,J,H2,e,I2,T,R,f2,W,(m0,w0),turn):=h2;subst e;let P:∀{H':Hp},(∀b∈E,H' b=MP)->∀b∈E,mr X MT H' b:=λhn b c=>(hn b c,(f2 b c).2,)
 calc codeAny_forLoop_any (λn s'=>∃i p H',Inv X MT p H' s'/\Z i s'.heap/\(∀b∈E,H' b=MP)/\W i n p H') ?_ m0 (0,σ,H2,I2,R,λb c=>(f2 b c).1,w0,);rintro n s3 ⟨i,l,L,I3,F,G,w3⟩;rcases turn i n l L w3 with⟨K,qn⟩|⟨go,N,hN,step⟩
 .refine KN C<|thn (T.done X U U U hc i MT s3 l L X.xe I3 (P G) F K) λr s4 (O,I4,)=>?_;subst O;exact Gw (l,L,I4,qn,)
 .refine KN C<|thn (T.item X U U U hc i MT s3 l L X.xe I3 (P G) F go) λr s4 (u,O,h4,)=>?_;subst O;calc KN C<|thn h4 λ_ s5 (x,H5,I5,r5,y5,z,S,)=>?_;let V:=I5.pinned (P S)<|T.obj _ _ z;calc KN C<|thn (hg _ s5 l H5 x u _ V r5<|step x H5 y5) λ_ s6 (Q,H6,I6,q6,)=>?_;calc KN C<|thn (c _ s6 Q H6 _ I6 q6) λf M y=>?_;let t:∀{a:St}{k:Hp},Inv X (MT++jl E s5.heap) a k M->N a k->∃m,m<n/\∃i p H',Inv X MT p H' M/\Z i M.heap/\(∀b∈E,H' b=MP)/\W i m p H':=λ{a k} j B=>by
   let(m',hm,w7):=hN a k B;calc(m',hm,i+1,a,k,j.unpinned,T.keep _ _ _ z λb c o e=>(j.pin (b,o)<|fq _<|fq _<|dO c e).1,λb c=>?_,w7,);let(o,e,d):=T.obj _ _ z b c;exact(j.pin (b,o)<|fq _<|fq _<|dO c e).2.1
  cases f with
  |next=>obtain⟨a,k,j,B⟩:=y;exact t j B
  |cont=>obtain⟨a,k,j,B⟩:=y;exact t j B
  |brk=>obtain⟨a,k,j,y⟩:=y;exact(a,k,j.unpinned,y,)
  |ret v=>obtain⟨x7,a,k,j,r7,y⟩:=y;calc(x7,a,k,j.unpinned,r7,y,)
end
def bp{K:ac}{a:AE}{xs:M3 V}{g:TG}{tb:TS}{D:Ends}{σ:St}{H:Hp}(b:Nat->OZ)(r:b 0 σ H)(n:∀i σ H,i<=⇑xs->b i σ H->SqL K H a xs)
  (l:∀i x σ H,xs[i]?=MO x->b i σ H->g x σ H λc h=>tb { D with nx:=b<|i+1,ct:=b<|i+1,bk:=D.nx } c h)(o:∀σ H,b ⇑xs σ H->D.nx σ H) :
  ∃W:Nat->Nat->OZ,(∃m,W 0 m σ H)/\∀i m σ H,W i m σ H ->
   ((Itl K a).stop i H/\D.nx σ H)\/((Itl K a).go i H/\∃N:OZ,(∀d H',N d H'->∃j,j<m/\W (i+1) j d H')/\∀x H',(Itl K a).yld i H x H'->g x σ H' λc h=>tb { D with nx:=N,ct:=N,bk:=D.nx } c h):=by
 refine(λi m σ H=>m=⇑xs-i/\i<=⇑xs/\b i σ H,(⇑xs,by simp,rE _,r,),?_,);rintro i m σ H ⟨rfl,hi,p⟩;let q:=n i σ H hi p;by_cases f:i<⇑xs
 .refine .inr ((xs,xs[i],q,by simp[f],),b<|i+1,λd H' k=>(⇑xs-(i+1),∅,U,f,k,),λx H' y=>?_,);let(e,y):=y;subst e;exact l i x σ _ (y xs q) p
 .let e:i=⇑xs:=∅
  subst e;calc .inl ((xs,q,pT _,),o σ H p,)
def iE{lo:Int}{n:Nat}{g:TG}{tb:TS}{D:Ends}{σ:St}{H:Hp}(a:Nat->OZ)(o:a 0 σ H)
  (k:∀i σ H,i<n->a i σ H->g (.int<|lo+i) σ H λb f=>tb { D with nx:=a<|i+1,ct:=a<|i+1,bk:=D.nx } b f)(l:∀σ H,a n σ H->D.nx σ H) :
  ∃W:Nat->Nat->OZ,(∃m,W 0 m σ H)/\∀i m σ H,W i m σ H ->
   ((Itr lo n).stop i H/\D.nx σ H)\/((Itr lo n).go i H/\∃N:OZ,(∀c H',N c H'->∃h,h<m/\W (i+1) h c H')/\∀x H',(Itr lo n).yld i H x H'->g x σ H' λb f=>tb { D with nx:=N,ct:=N,bk:=D.nx } b f):=by
 refine(λi m σ H=>m=n-i/\i<=n/\a i σ H,(n,by simp,rE _,o,),?_,);rintro i m σ H ⟨rfl,hi,p⟩;by_cases d:i<n
 .refine .inr (d,a<|i+1,λc H' j=>(n-(i+1),∅,U,d,j,),λx H' y=>?_,);let(e,y):=y;subst e y;exact k i σ _ d p
 .let e:i=n:=∅
  subst e;calc .inl (pT _,l σ H p,)
abbrev R2:=V->V->Hp->VK->Prop
def  OpR(X:Cx)(f:zY->zY->Sem zY)(r:R2):Prop :=
 ∀(MT:M3 (AE×Obj))(s:Ct)(σ:St)(H:Hp)(x y:V)(v u:zY)(Q:VK),Inv X MT σ H s->RelV x v->RelV y u->r x y H Q ->
  D8 (model X.prog X.w) X.A (f v u) (EP X MT σ Q) X.xe s
def  UnR(X:Cx)(f:zY->Sem zY)(r:V->Hp->VK->Prop):Prop :=
 ∀(MT:M3 (AE×Obj))(s:Ct)(σ:St)(H:Hp)(x:V)(v:zY)(Q:VK),Inv X MT σ H s->RelV x v->r x H Q ->
  D8 (model X.prog X.w) X.A (f v) (EP X MT σ Q) X.xe s
def  iM(X:Cx)(f:zY)(r:M3 V->Hp->VK->Prop):Prop :=
 ∀(MT:M3 (AE×Obj))(s:Ct)(σ:St)(H:Hp)(a:M3 V)(b:M3 zY)(Q:VK),Inv X MT σ H s->Vals a b->r a H Q ->
  D8 (model X.prog X.w) X.A (call f b) (EP X MT σ Q) X.xe s
def  Hx(X:Cx)(r:V->Hp->(Bool->O0)->Prop):Prop :=
 ∀(MT:M3 (AE×Obj))(s:Ct)(σ:St)(H:Hp)(x:V)(v:zY)(Q:Bool->O0),Inv X MT σ H s->RelV x v->r x H Q ->
  D8 (model X.prog X.w) X.A (truthy v) (TP X MT σ Q) X.xe s
def  tOp(r:R2)(ta tb:TE):TE:=λσ H Q=>ta σ H λx b=>tb σ b λy a=>r x y a Q
def  tUn(r:V->Hp->VK->Prop)(ta:TE):TE:=λσ H Q=>ta σ H λx a=>r x a Q
inductive rI(C:Int->Int->Prop)(g:Int->Int->V)(x:V)(y:V)(H:Hp)(Q:VK):Prop
 |mk (i j:_)(_:x=.int i)(_:y=.int j)(_:C i j)(_:Q (g i j) H)
inductive rI0(g:Int->Int->V)(x:V)(y:V)(H:Hp)(Q:VK):Prop
 |mk (i j:_)(_:x=.int i)(_:y=.int j)(_:Q (g i j) H)
inductive rU(g:Int->V)(x:V)(H:Hp)(Q:VK):Prop
 |mk (i:_)(_:x=.int i)(_:Q (g i) H)
section
variable{a b c:Ej}{tb tc:TE}
def D9(o:PE X a ta)(n:PE X b tb){MT:M3 (AE×Obj)}{s:Ct}{σ:St}{H:Hp}{R:V->V->O0}(I:Inv X MT σ H s)
  (h:ta σ H λx g=>tb σ g λy c=>R x y c){Q:zY->Ct->Prop}{f:zY->zY->Sem zY}
  (hf:∀v u e x y c,Inv X MT σ c e->RelV x v->RelV y u->R x y c->D8 (model X.prog X.w) X.A (f v u) Q X.xe e) :
  D8 (model X.prog X.w) X.A (eval a X.env) (λv d=>D8 (model X.prog X.w) X.A (eval b X.env) (λu s₂=>D8 (model X.prog X.w) X.A (f v u) Q X.xe s₂) X.xe d) X.xe s:=by
 refine thn (o MT s σ H _ I h) λv i (x,g,q,k,m,)=>?_
 refine thn (n MT i σ g _ q m) λu e (y,c,p,j,l,)=>?_
 calc hf v u e x y c p k j l
def aH{c:Ko}{r:R2}(g:OpR X (K0 c) r)(j:PE X a ta)(i:PE X b tb):PE X (.BinOp a c b pos) (tOp r ta tb):=by
 intro MT s σ H Q I h;calc wpAny_BinOp<|D9 j i I h λv u d x y l k f e q=>g MT d σ l x y v u Q k f e q
def sv{b:UnaryOp}{r:V->Hp->VK->Prop}(f:UnR X (unaryOp b) r)(g:PE X a ta):PE X (.UnaryOp b a pos) (tUn r ta):=by
 intro MT s σ H Q I h;calc UnaryOp_<|thn (g MT s σ H _ I h) λv c (x,j,i,d,e,)=>f MT c σ j x v Q i d e
def opI{f:zY->zY->Sem zY}{C:Int->Int->Prop}{g:Int->Int->Int}
  (rule:∀(i j:Int)(t u:Tok)(s:Ct)(Q:zY->Ct->Prop)(E:zY->Ct->Prop),C i j->Q (.int (g i j) s.toks) { s with toks:=s.toks+1 }->D8 (model X.prog X.w) X.A (f (.int i t)<|.int j u) Q E s) :
  OpR X f (rI C λi j=>.int<|g i j):=by
 intro MT s σ H x y v u Q I c b h;let(i,j,rfl,rfl,d,q):=h;let(t,rfl):=c;let(a,rfl):=b;calc rule i j t a s _ _ d (.int<|g i j,H,I.tok _,(_,U,),q,)
def FR{f:zY->zY->Sem zY}{g:Int->Int->Int}
  (rule:∀(i j:Int)(t u:Tok)(s:Ct)(Q:zY->Ct->Prop)(E:zY->Ct->Prop),Q (.int (g i j) s.toks) { s with toks:=s.toks+1 }->D8 (model X.prog X.w) X.A (f (.int i t)<|.int j u) Q E s) :
  OpR X f (rI0 λi j=>.int<|g i j):=by
 intro MT s σ H x y v u Q I c b h;let(i,j,rfl,rfl,q):=h;let(t,rfl):=c;let(a,rfl):=b;calc rule i j t a s _ _ (.int<|g i j,H,I.tok _,(_,U,),q,)
def Ea{f:zY->zY->Sem zY}{g:Int->Int->Bool}
  (rule:∀(i j:Int)(t u:Tok)(s:Ct)(Q:zY->Ct->Prop)(E:zY->Ct->Prop),Q (.bool<|g i j) s->D8 (model X.prog X.w) X.A (f (.int i t)<|.int j u) Q E s) :
  OpR X f (rI0 λi j=>.bl<|g i j):=by
 intro MT s σ H x y v u Q I c b h;let(i,j,rfl,rfl,q):=h;let(t,rfl):=c;let(a,rfl):=b;calc rule i j t a s _ _ (.bl<|g i j,H,I,U,q,)
def  FT(i j:Int):Prop:=0<j/\j<1073741824
def  Hy(i j:Int):Prop:=0<=j/\j<=1000000/\i.natAbs<2^64
def  Eb(i j:Int):Prop:=(-(2^64)<i/\i<2^64)\/(-(2^64)<j/\j<2^64)
def Eb.ok{i j:Int}(h:Eb i j):IntMulOk i j:=by
 rcases h with⟨b,a⟩|⟨b,a⟩
 .exact .of_left<|K1 b a
 .exact .of_right<|K1 b a
def bY:OpR X (K0 .Add) (rI0 λi j=>.int<|i+j):=FR λ_ _ _ _ _ _ _ q=>add_int q
def fS:OpR X (K0 .Sub) (rI0 λi j=>.int<|i-j):=FR λ_ _ _ _ _ _ _ q=>sub_int q
def oN:OpR X (K0 .Mult) (rI Eb λi j=>.int<|i*j):=opI λ_ _ _ _ _ _ _ a q=>mul_int q a.ok
def cO:OpR X (K0 .FloorDiv) (rI FT λi j=>.int<|i / j):=opI λi j _ _ _ _ _ a q=>by
 let c:(0:Int)<j:=a.1;let b:j<1073741824:=a.2;calc floordiv_int ∅ (by rw[Int.fdiv_eq_ediv_of_nonneg i ∅];exact q) (.inl<|PyProof.noPylong_small ∅)
def cD:OpR X (K0 .Mod) (rI (λ_ j=>0<j) λi j=>.int<|i%j):=opI λi j _ _ _ _ _ a q=>by
 let b:(0:Int)<j:=a;calc mod_int' ∅ (by rw[Int.fmod_eq_emod_of_nonneg i ∅];exact q)
def tS:OpR X (K0 .Pow) (rI Hy λi j=>.int<|i^j.toNat):=opI λ_ _ _ _ _ _ _ a q=>pow_int_small a.1 a.2.1 a.2.2 q
def unI{f:zY->Sem zY}{g:Int->Int}
  (rule:∀(i:Int)(t:Tok)(s:Ct)(Q:zY->Ct->Prop)(E:zY->Ct->Prop),Q (.int (g i) s.toks) { s with toks:=s.toks+1 }->D8 (model X.prog X.w) X.A (f<|.int i t) Q E s) :
  UnR X f (rU λi=>.int<|g i):=by
 intro MT s σ H x v Q I a h;let(i,rfl,q):=h;let(t,rfl):=a;calc rule i t s _ _ (.int<|g i,H,I.tok _,(_,U,),q,)
def oO:UnR X (unaryOp .USub) (rU λi=>.int<|-i):=unI λ_ _ _ _ _ q=>neg_int q
end
def  FU:V->V->Bool
 | .non,.non=>MQ | .non,.int _=>MQ | .int _,.non=>MQ | .non,.bl _=>MQ | .bl _,.non=>MQ | .non,.str _=>MQ | .str _,.non=>MQ
 | .int _,.int _=>MQ | .bl _,.bl _=>MQ | .str _,.str _=>MQ | .byt _,.byt _=>MQ
 | .int _,.str _=>MQ | .str _,.int _=>MQ | .bl _,.str _=>MQ | .str _,.bl _=>MQ
 |_,_=>MR
def  rEq:R2:=λx y H Q=>FU x y=MQ/\Q (.bl<|MS<|x=y) H
def  rNe:R2:=λx y H Q=>FU x y=MQ/\Q (.bl<|!MS (x=y)) H
def ye{i j:Int}:decide (pi i=pi j)=(i == j):=by
 rw[py];simp
def Ak{i j:Bool}:decide (V.bl i=V.bl j)=(i == j):=by
 rw[py];simp
def yf{i j:Str}:decide (OT i=OT j)=(i == j):=by
 rw[py];simp
def yg{i j:Array UInt8}:decide (V.byt i=V.byt j)=(i.toList == j.toList):=by
 rw[py];cases i;cases j;simp
section
variable{a b c:Ej}{tb tc:TE}
def bJ{MT:M3 (AE×Obj)}{σ:St}{H:Hp}{s:Ct}{Q:VK}{k a:Bool}(I:Inv X MT σ H s)(q:Q (.bl k) H)(e:k=a):EP X MT σ Q (.bool a) s:=by
 subst e;calc(.bl k,H,I,U,q,)
def cU:OpR X (K2 .Eq) rEq:=by
 intro MT s σ H x y v u Q I d a h;let(c,q):=h;cases x with
 |non =>
  cases d;cases y with
  |non=>cases a;exact PySem.EqNone.eq_none_none<|bJ I q (by simp)
  |bl j=>cases a;exact PySem.EqNone.eq_none_bool<|bJ I q (by simp)
  |int j=>obtain⟨b,rfl⟩:=a;exact PySem.EqNone.eq_none_int<|bJ I q (by simp)
  |str j=>obtain⟨b,rfl⟩:=a;exact PySem.EqNone.eq_none_str<|bJ I q (by simp)
  |_=>exact MW (show MR=MQ from c) cr
 |bl i =>
  cases d;cases y with
  |non=>cases a;exact PySem.EqNone.eq_bool_none<|bJ I q (by simp)
  |bl j=>cases a;exact eq_bool<|bJ I q Ak
  |str j=>obtain⟨b,rfl⟩:=a;exact PySem.EqMixed.eq_bool_str<|bJ I q (by simp)
  |_=>exact MW (show MR=MQ from c) cr
 |int i =>
  let(t,rfl):=d;cases y with
  |non=>cases a;exact PySem.EqNone.eq_int_none<|bJ I q (by simp)
  |int j=>obtain⟨b,rfl⟩:=a;exact eq_int<|bJ I q ye
  |str j=>obtain⟨b,rfl⟩:=a;exact PySem.EqMixed.eq_int_str<|bJ I q (by simp)
  |_=>exact MW (show MR=MQ from c) cr
 |str i =>
  let(t,rfl):=d;cases y with
  |non=>cases a;exact PySem.EqNone.eq_str_none<|bJ I q (by simp)
  |bl j=>cases a;exact PySem.EqMixed.eq_str_bool<|bJ I q (by simp)
  |int j=>obtain⟨b,rfl⟩:=a;exact PySem.EqMixed.eq_str_int<|bJ I q (by simp)
  |str j=>obtain⟨b,rfl⟩:=a;exact eq_str<|bJ I q yf
  |_=>exact MW (show MR=MQ from c) cr
 |byt i =>
  let(t,rfl):=d;cases y with
  |byt j=>obtain⟨b,rfl⟩:=a;exact W.eq_bytes<|bJ I q yg
  |_=>exact MW (show MR=MQ from c) cr
 |_=>cases y <;> calc MW (show MR=MQ from c) cr
def lq:OpR X (K2 .NotEq) rNe:=by
 intro MT s σ H x y v u Q I d a h;let(c,q):=h;cases x with
 |non =>
  cases d;cases y with
  |non=>cases a;exact PySem.EqNone.ne_none_none<|bJ I q (by simp)
  |bl j=>cases a;exact PySem.EqNone.ne_none_bool<|bJ I q (by simp)
  |int j=>obtain⟨b,rfl⟩:=a;exact PySem.EqNone.ne_none_int<|bJ I q (by simp)
  |str j=>obtain⟨b,rfl⟩:=a;exact PySem.EqNone.ne_none_str<|bJ I q (by simp)
  |_=>exact MW (show MR=MQ from c) cr
 |bl i =>
  cases d;cases y with
  |non=>cases a;exact PySem.EqNone.ne_bool_none<|bJ I q (by simp)
  |bl j=>cases a;exact ne_bool<|bJ I q<|M0 not Ak
  |str j=>obtain⟨b,rfl⟩:=a;exact PySem.EqMixed.ne_bool_str<|bJ I q (by simp)
  |_=>exact MW (show MR=MQ from c) cr
 |int i =>
  let(t,rfl):=d;cases y with
  |non=>cases a;exact PySem.EqNone.ne_int_none<|bJ I q (by simp)
  |int j=>obtain⟨b,rfl⟩:=a;exact ne_int<|bJ I q<|M0 not ye
  |str j=>obtain⟨b,rfl⟩:=a;exact PySem.EqMixed.ne_int_str<|bJ I q (by simp)
  |_=>exact MW (show MR=MQ from c) cr
 |str i =>
  let(t,rfl):=d;cases y with
  |non=>cases a;exact PySem.EqNone.ne_str_none<|bJ I q (by simp)
  |bl j=>cases a;exact PySem.EqMixed.ne_str_bool<|bJ I q (by simp)
  |int j=>obtain⟨b,rfl⟩:=a;exact PySem.EqMixed.ne_str_int<|bJ I q (by simp)
  |str j=>obtain⟨b,rfl⟩:=a;exact ne_str<|bJ I q<|M0 not yf
  |_=>exact MW (show MR=MQ from c) cr
 |byt i =>
  let(t,rfl):=d;cases y with
  |byt j=>obtain⟨b,rfl⟩:=a;exact W.ne_bytes<|bJ I q<|M0 not yg
  |_=>exact MW (show MR=MQ from c) cr
 |_=>cases y <;> calc MW (show MR=MQ from c) cr
def mO:OpR X (K2 .Lt) (rI0 λi j=>.bl<|MS<|i<j):=Ea λ_ _ _ _ _ _ _ q=>lt_int q
def gA:OpR X (K2 .LtE) (rI0 λi j=>.bl<|MS<|i<=j):=Ea λ_ _ _ _ _ _ _ q=>le_int q
def gP:OpR X (K2 .Gt) (rI0 λi j=>.bl<|MS<|j<i):=Ea λ_ _ _ _ _ _ _ q=>gt_int q
def sx:OpR X (K2 .In) (λx y H Q=>∃i j,x=.str i/\y=.str j/\Q (.bl<|!(Fa j i 0 ⇑j 1).isEmpty) H):=by
 intro MT s σ H x y v u Q I b a h;let(i,j,rfl,rfl,q):=h;let(t,rfl):=b;let(c,rfl):=a;calc in_str<|bJ I q U
def tT:OpR X (K2 .NotIn) (λx y H Q=>∃i j,x=.str i/\y=.str j/\Q (.bl<|!(!(Fa j i 0 ⇑j 1).isEmpty)) H):=by
 intro MT s σ H x y v u Q I b a h;let(i,j,rfl,rfl,q):=h;let(t,rfl):=b;let(c,rfl):=a;calc notIn_str<|bJ I q U
def aO(b:Ej){a:K3}(h:a≠.In:=by decide)(c:a≠.NotIn:=by decide):K4 a b=false:=by
 let e:(a == K3.In)=false:=by cases a <;> first|rfl|exact MW U h
 let d:(a == K3.NotIn)=false:=by cases a <;> first|rfl|exact MW U c
 cases b <;> simp[K4,e,d]
def fP{c:K3}{r:R2}(g:OpR X (K2 c) r)(k:PE X a ta)(j:PE X b tb)(i:K4 c b=MR):PE X (.Compare a [c] [b] pos) (tOp r ta tb):=by
 intro MT s σ H Q I h;calc wpAny_Compare1 (D9 k j I h λv u d x y m l f e q=>g MT d σ m x y v u Q l f e q) i
inductive Al  (Q:Bool->O0)(x:V)(H':Hp):Prop
 |mk (k:_)(_:x=.bl k)(_:Q k H'):Al Q x H'
def  Dy(t:TE):TT:=λσ H Q=>t σ H λx H'=>Al Q x H'
def aJ{d:K3}{r:R2}(p:OpR X (K2 d) r)(w:PE X a ta)(t:PE X b tb)(q:K4 d b=MR):PT X (.Compare a [d] [b] pos) (Dy<|tOp r ta tb):=by
 intro MT s σ H Q I h;refine wpAny_isTrue_Compare1 (thn (w MT s σ H _ I h) λv g (x,F,C,l,o,)=>thn (t MT g σ F _ C o) λu f (y,E,B,j,n,) =>
  thn (p MT f σ E x y v u _ B l j n) λc G (z,D,A,i,k,e,m,)=>?_) q
 subst e;cases i;calc Gp (D,A,m,)
inductive yh(r':R2)(tc:TE)(σ:St)(Q:VK)(y:V)(z:V)(H3:Hp):Prop
 |mk (k:_)(_:z=.bl k)(_:(if k=MQ then tc σ H3 λw' H4=>r' y w' H4 Q else Q (.bl MR) H3))
def  Am(r a:R2)(ta tb tc:TE):TE:=λσ H Q=>ta σ H λx d=>tb σ d λy c=>r x y c λz b=>yh a tc σ Q y z b
def nJ{g f:K3}{r l:R2}(K:OpR X (K2 g) r)(i:OpR X (K2 f) l)(N:PE X a ta)(M:PE X b tb)(L:PE X c tc)
  (hm:lastMarks [g,f] [b,c]=false:=by with_unfolding_all rfl):PE X (.Compare a [g,f] [b,c] pos) (Am r l ta tb tc):=by
 intro MT s σ H Q I h;refine Compare_chain (thn (N MT s σ H _ I h) λv B (x,V,R,E,J,)=>chain_link (thn (M MT B σ V _ R J) λu A (y,T,P,j,G,) =>
  thn (K MT A σ T x y v u _ P E j G) λd w (z,o,n,D,k,e,m,)=>?_)) hm
 subst e;cases D;calc Gp ?_;cases k with
 |false=>exact ite_ff (.bl MR,o,n,U,m,)
 |true=>calc ite_tt (chain_last<|thn (L MT w σ o _ n m) λq t (p,S,O,C,F,)=>i MT t σ S y p u q Q O j C F)
def vf{g f:K3}{r l:R2}(N:OpR X (K2 g) r)(i:OpR X (K2 f) l)(R:PE X a ta)(P:PE X b tb)(O:PE X c tc)
  (hm:lastMarks [g,f] [b,c]=false:=by with_unfolding_all rfl):PT X (.Compare a [g,f] [b,c] pos) (Dy<|Am r l ta tb tc):=by
 intro MT s σ H Q I h;refine isTrue_chain (thn (R MT s σ H _ I h) λv B (x,H1,Z,F,L,)=>test_link (thn (P MT B σ H1 _ Z L) λu A (y,H2,Y,j,K,) =>
  thn (N MT A σ H2 x y v u _ Y F j K) λd w (z,o,n,E,k,e,m,)=>?_)) hm
 subst e;cases E;calc Gp ?_;cases k with
 |false =>
  let(k',T,M):=m;cases T;exact ite_ff (o,n,M,)
 |true =>
  calc ite_tt<|test_last<|thn (O MT w σ o _ n m) λq t (p,H4,W,D,J,)=>thn (i MT t σ H4 y p u q _ W j D J) λd' s5 (z2,H5,V,C,k2,S,G,)=>?_;subst S;cases C;calc Gp (H5,V,G,)
def  Ec(K:ac)(x:V)(H:Hp)(k:Bool):Prop :=
 match x with
 | .non=>k=MR
 | .bl b=>k=b
 | .int i=>k=(i != 0)
 | .str y=>⇑y<=AY/\k=((⇑y:Int) != 0)
 | .byt y=>y.size<=AY/\k=((y.size:Int) != 0)
 | .ref p=>(∃a,SqL K H p a/\k = !a.isEmpty)\/(∃a,SqT K H p a/\k = !a.isEmpty)\/∃c,H p=MO (.dK c)/\k = !c.isEmpty
 |_=>False
def wN{b:Type}{a:M3 (b×V)}{vs:M3 (b×zY)}(r:KV a vs):(!vs.isEmpty) = !a.isEmpty:=by
 cases r <;> rfl
def qt{xs:M3 V}{a:M3 zY}(r:Vals xs a):(!a.toArray.isEmpty) = !xs.isEmpty:=by
 cases r <;> simp
def mT:(AY:Nat)<2^63:=by rw[K5];decide
def Ed:Hx X (λx H Q=>∃k,Ec X.K x H k/\Q k H):=by
 intro MT s σ H x v Q I g h;let(k,e,q):=h;let C:=mT;let B:AY=16777216:=K5;cases x with
 |non =>
  cases g;let a:k=false:=e;subst a;exact truthy_none (H,I,q,)
 |bl b =>
  cases g;let a:k=b:=e;subst a;exact Gp (H,I,q,)
 |int i =>
  let(t,rfl):=g;let a:k=(i != 0):=e;subst a;exact PySem.P.truthy_int (H,I,q,)
 |str y =>
  let(t,rfl):=g;let(z,a):⇑y<=AY/\k=((⇑y:Int) != 0):=e;subst a;exact PySem.P.truthy_str ∅ (H,I.tok _,q,)
 |byt y =>
  let(t,rfl):=g;let(z,a):y.size<=AY/\k=((y.size:Int) != 0):=e;subst a;exact W.truthy_bytes ∅ (H,I.tok _,q,)
 |ref p =>
  cases g;let a:(∃f,SqL X.K H p f/\k = !f.isEmpty)\/(∃f,SqT X.K H p f/\k = !f.isEmpty)\/∃c,H p=MO (.dK c)/\k = !c.isEmpty:=e;rcases a with⟨f,j,a⟩|⟨f,j,a⟩|⟨c,j,a⟩
  .subst a;let(o,r,n,u):=I.list j;let d:=⇑r;exact wpAny_truthy_list n.isList (by simp only[eg];lia) (H,I.tok _,by rw[qt r];exact q,)
  .subst a;let(o,r,n,u):=I.tuple j;let d:=⇑r;exact truthy_tuple n (by simp only[eg];lia) (H,I.tok _,by rw[qt r];exact q,)
  .subst a;let(u,A,l,r,m):⇑c<=AY/\(p == A1)=MR/\∃l,KV c l/\s.heap.DictOf (nG X.prog X.w) p l:=I.hok p _ j;let d:⇑c=⇑l:=Paired.length r;exact wpAny_truthy_dict A m ∅ (H,I.tok _,by rw[wN r];exact q,)
 |_=>calc(show False from e).elim
def fH(g:PE X a ta)(f:∀b,Ek a X.env b=(do let v ←b;Gf a.pos;holding [v] (truthy v))) :
  PT X a (λσ H Q=>ta σ H λx H'=>∃k,Ec X.K x H' k/\Q k H'):=by
 intro MT s σ H Q I h;calc isTrue_plain (thn (g MT s σ H _ I h) λv c (x,j,i,d,e,)=>Ed MT c σ j x v Q i d e)<|f _
def aN:OpR X (K0 .Add) (λx y H Q=>∃i j,x=.str i/\y=.str j/\⇑i+⇑j<=AY/\Q (.str<|i++j) H):=by
 intro MT s σ H x y v u Q I c b h;let(i,j,rfl,rfl,d,q):=h;let(t,rfl):=c;let(a,rfl):=b;calc add_str (λa e=>(.str<|i++j,H,I.tok _,(_,U,),q,)) d
def Ee:OpR X (K0 .Add) (λx y H Q=>∃i j,x=.byt i/\y=.byt j/\i.size+j.size<=16777216/\Q (.byt<|i++j) H):=by
 intro MT s σ H x y v u Q I c b h;let(i,j,rfl,rfl,d,q):=h;let(t,rfl):=c;let(a,rfl):=b;calc W.KBy.add_bytes d<|λa e=>(.byt<|i++j,H,I.tok _,(_,U,),q,)
def vals1{x:V}{us:M3 zY}(r:Vals [x] us):∃u,us=[u]/\RelV x u:=by
 cases r with
 |cons b a=>cases a;calc(_,U,b,)
def vals2{x y:V}{us:M3 zY}(r:Vals [x,y] us):∃u a,us=[u,a]/\RelV x u/\RelV y a:=by
 cases r with
 |cons e d =>
  cases d with
  |cons c b=>cases b;calc(_,_,U,e,c,)
def l7(b:X.calm=MQ):iM X (.builtin "max") (λxs H Q=>∃i j,xs=[.int i,.int j]/\Q (.int (if j>i then j else i)) H):=by
 intro MT s σ H xs d Q I r h;let(i,j,rfl,q):=h;let(u,c,rfl,(t,rfl),(f,rfl)):=vals2 r;refine max_two_ints (I.ok.hd b) λh' e k=>(_,H,I.kept k,?_,q,)
 by_cases a:j>i
 .rw[MV a,MV a];exact(_,U,)
 .rw[MU a,MU a];calc(_,U,)
def jC(b:X.calm=MQ):iM X (.builtin "min") (λxs H Q=>∃i j,xs=[.int i,.int j]/\Q (.int (if j<i then j else i)) H):=by
 intro MT s σ H xs d Q I r h;let(i,j,rfl,q):=h;let(u,c,rfl,(t,rfl),(f,rfl)):=vals2 r;refine min_two_ints (I.ok.hd b) λh' e k=>(_,H,I.kept k,?_,q,)
 by_cases a:j<i
 .rw[MV a,MV a];exact(_,U,)
 .rw[MU a,MU a];calc(_,U,)
def cF:iM X (.type "str") (λxs H Q=>∃i,xs=[.int i]/\i.natAbs.log2<1920/\Q (.str<|toString i) H):=by
 intro MT s σ H xs b Q I r h;let(i,rfl,a,q):=h;let(u,rfl,t,rfl):=vals1 r;calc PySem.P.str_of_int a (.str _,H,I.tok _,(_,U,),q,)
end
structure wO(h:AU)(x dx C:AE)(mA:Str->Option zY):Prop where
 obj:h.get? x=MO (Nh C dx)
 ns:h.Ns1 dx mA
 ne:dx≠x
def yW{h:AU}{f:AE}{c:Str->Option zY}(n:h.Ns1 f c):∃b,h.get? f=MO b/\∀name,ON name b=MO (c name):=by
 let(o,d,r,i,l,k,_,j):=n;calc(o,i,λname=>?_,);let e:=j name;unfold nsFind findBy at e;rw[←Array.find?_toList]at e;unfold ON;rw[l];dsimp only;split
 .rename_i y q
  rw[q]at e;exact M0 MO e
 .rename_i q
  rw[q]at e;let a:d.toList.any (·.refKey)=false:=by
   rw[ng];intro y g;let(z,t,p):=k y<|Array.mem_toList_iff.mp g;simp[DictEntry.refKey,p]
  let m:¬ d.toList.any (·.refKey)=true:=by rw[a];exact cr
  rw[MU m];calc M0 MO e
def wO.look{h:AU}{x c C:AE}{b:Str->Option zY}(I:wO h x c C b):∃a,W.InstAt h x (Nh C c) C (MO a)/\∀name,ON name a=MO (b name):=by
 let(a,d,e):=yW I.ns;calc(a,(I.obj,U,U,d,),e,)
variable{A:Cm}{dx C f:AE}
section
variable{prog:An}{K:ac}{mA:Str->Option zY}{name:Str}{v:zY}
def get_map{a:Bool}{Q:zY->Ct->Prop}(X:K.In s.heap)(I:wO s.heap x dx C mA)(f:Oh K C name=MQ)(e:OP K C=MQ)
  (g:wT K (.ref C) name=MO MP)(c:mA name=MO v)(b:W.handedIn v=MQ)(h:Q v { s with toks:=s.toks+1 }) :
  D8 (model prog w) A (getAttr (.ref x) name a) Q E s:=by
 let(i,J,d):=I.look;calc W.get_value X J (Os f).1 (W.findObj_own e g U (by rw[d,c])) b h
def Ao{pl:Sem Bool}{Q:zY×M3 zY->Ct->Prop}(X:K.In s.heap)(I:wO s.heap x dx C mA)(a:Oh K C name=MQ)
  (hf:wT K (.ref C) name=MO ↑f)(d:W.isFn K (.ref f)=MQ)(c:mA name=MP)(h:Q (.ref f,[.ref x]) s) :
  D8 (model prog w) A (K6 (.ref x) name pl) Q E s:=by
 let(b,J,e):=I.look;calc W.method_fn X J (Os a).1 (Os a).2 hf (beq_iff_eq.mp d) (by show(ON name b).map (·.isSome)=MO MR;rw[e,c];rfl) h
def Cc{ns:M3 Str}{Q:Unit->Ct->Prop}(X:K.In s.heap)(I:wO s.heap x dx C mA)
  (l:wT K (.ref C) "__setattr__" = MO (MO<|.builtin "object.__setattr__")) (m:W.plainOver K C=MQ)(k:W.takerIn K C name=MO MP)(n:OP K C=MQ)
  (hw:PySem.Within mA ns)(p:⇑ns<=AY)
  (h:∀h',wO h' x dx C (λy=>if y=name then MO v else mA y)->Gc dx s.heap h'->Q () { s with heap:=h',toks:=s.toks+2 }) :
  D8 (model prog w) A (setAttr (.ref x) name v) Q E s:=by
 let(u,J,B):=I.look;calc W.set_plain X J l<|W.osa_open (s:={ s with toks:=s.toks+1 }) (r:=MP) X J m k λb=>?_;let(D,o,g):=W.any_some n;let j:s.heap.get? x=MO (.ref C,MO dx,.plain,#[],):=I.obj;calc zb<|zp<|zb<|zb<|wpAny_loadPart j<|zb<|W.Looks.here (s:={ s with toks:=s.toks+1 }) (W.looks_clsIn X o) ?_;rw[g];calc zp (a:=MO dx)<|zb<|zp<|zb ?_;refine wpAny_nsSet1 (s:={ s with toks:=s.toks+1 }) I.ns λh' d c=>?_
 let(z,q,t,e,f,i):=d.count<|PySem.Within.cons name v hw;refine zb (wpAny_lookBehind e (by rw[f];exact pastItsLine_dict (qu i (by rw[gv];lia))) ?_);calc zp<|h _ ((c.2 _<|FM I.ne).trans I.obj,d,I.ne,) c
def Ap{R:K7->Ct->Prop}{vs:M3 zY}{b:M3 (Str×zY)}(X:K.In s.heap)(c:W.makesIn K C=MQ)
  (hi:wT K (.ref C) "__init__" = MO ↑f) (hf:W.typeIn K (.ref f)=MO (.type "function"))
  (h:K8 (model prog w) (A.under<|.builtin "type.__call__" (.ref C :: vs,b,)) (.call (.ref f) (.ref (↥s+1) :: vs,b,)) (W.InitBack (↥s+1) R)
   { s with heap:=(s.heap.push Go).push (Nh C ↥s) }) :
  K8 (model prog w) A (.call (.ref C) (vs,b,)) R s:=by
 let(i,g,d,t,e):=s;calc W.make_core (W.makes_of X c) (W.looks_findIn X hi) (λa=>W.bind_fn X a hf) (.inl U) h
end
def  bX(f:Str)(v:V):M3 (Str×V)->M3 (Str×V)
 | []=>[(f,v)]
 |(g,x) :: r=>if g=f then(g,v) :: r else(g,x) :: bX f v r
def pI(f g:Str)(v:V):∀fs:M3 (Str×V),(bX f v fs).lookup g=if g=f then MO v else fs.lookup g
 | []=>by
  show M5 g [(f,v)]=_;by_cases h:g=f
  .let a:(g == f)=true:=beq_iff_eq.mpr h;simp only[M5,a,MV h]
  .let a:(g == f)=false:=beq_eq_false_iff_ne.mpr h;simp only[M5,a,MU h]
 |(k,x) :: r=>by
  let c:=pI f g v r;rw[show bX f v ((k,x) :: r)=(if k=f then(k,v) :: r else(k,x) :: bX f v r)from U];by_cases b:k=f
  .rw[MV b];by_cases h:g=k
   .let a:(g == k)=true:=beq_iff_eq.mpr h;simp only[M5,a,MV (h.trans b)]
   .let a:(g == k)=false:=beq_eq_false_iff_ne.mpr h;simp only[M5,a,MU (λe:g=f=>h<|e.trans b.symm)]
  .rw[MU b];by_cases h:g=k
   .let a:(g == k)=true:=beq_iff_eq.mpr h;simp only[M5,a,MU (λe:g=f=>b<|h.symm.trans e)]
   .let a:(g == k)=false:=beq_eq_false_iff_ne.mpr h;simp only[M5,a];calc c
def oP(f:Str)(v:V):∀fs:M3 (Str×V),f∈(bX f v fs).map (·.1)/\∀g,g∈fs.map (·.1)->g∈(bX f v fs).map (·.1)
 | []=>(by simp[bX],λg h=>by simp at h,)
 |(k,x) :: r=>by
  let(c,b):=oP f v r;rw[show bX f v ((k,x) :: r)=(if k=f then(k,v) :: r else(k,x) :: bX f v r)from U];by_cases a:k=f
  .rw[MV a];subst a;exact(by simp,λg h=>~~~h,)
  .rw[MU a];refine(?_,λg h=>?_,)
   .rw[gs];exact eY _ c
   .rw[gs]at h⊢;rcases cZ.mp h with e|e
    .exact cZ.mpr<|.inl e
    .exact eY _<|b g e
def pJ(f:Str)(v:V):∀fs:M3 (Str×V),⇑(bX f v fs)<=⇑fs+1
 | []=>by simp[bX]
 |(k,x) :: r=>by
  let b:=pJ f v r;rw[show bX f v ((k,x) :: r)=(if k=f then(k,v) :: r else(k,x) :: bX f v r)from U];by_cases a:k=f
  .rw[MV a,gv,gv];lia
  .rw[MU a,gv,gv];lia
def rN.some_of{v:V}{o:Option zY}(r:rN (MO v) o):∃u,o=MO u/\RelV v u:=by
 cases o with
 |none=>exact(show False from r).elim
 |some u=>calc(u,U,r,)
def rN.none_of{o:Option zY}(r:rN MP o):o=none:=by
 cases o with
 |none=>rfl
 |some u=>calc(show False from r).elim
def sy{v:V}{u:zY}(r:RelV v u):W.handedIn u=true:=by
 cases v with
 |non=>cases (show u=zY.none from r);rfl
 |bl b=>cases (show u=zY.bool b from r);rfl
 |int i=>obtain⟨t,e⟩:=(show ∃t,u=zY.int i t from r);cases e;rfl
 |str x=>obtain⟨t,e⟩:=(show ∃t,u=zY.str x t from r);cases e;rfl
 |byt b=>obtain⟨t,e⟩:=(show ∃t,u=zY.bytes b t from r);cases e;rfl
 |flt b=>obtain⟨t,e⟩:=(show ∃t,u=zY.float b t from r);cases e;rfl
 |ref a=>cases (show u=zY.ref a from r);rfl
 |ty n=>cases (show u=zY.type n from r);rfl
section
variable{fs fs':M3 (Str×V)}
def qc(c:HOk P w H h)(e:H a=MO (.ins C dx fs)):∃b,wO h a dx C b/\(∀f,rN (fs.lookup f)<|b f)/\PySem.Within b (fs.map (·.1))/\⇑fs<=1000/\H dx=MO (.own a):=by
 let(d,z,ne,g,b,n,r,q):=(show eK P w H h a (.ins C dx fs)from c a _ e);calc(b,(g,n,ne,),r,q,z,d,)
end
structure Cls(K:ac)(C:AE):Prop where
 pg:Oh K C re=MQ
 hd:OP K C=MQ
 po:W.plainOver K C=MQ
 sa:wT K (.ref C) "__setattr__" = MO (MO<|.builtin "object.__setattr__")
def Cls.get{K:ac}{C:AE}(c:Cls K C)(f:Str):Oh K C f=true:=c.pg
def  NoAttr(K:ac)(C:AE)(f:Str):Prop:=wT K (.ref C) f=MO MP
def NoAttr.taker{K:ac}{C:AE}{f:Str}(n:NoAttr K C f):W.takerIn K C f=MO none:=by
 unfold W.takerIn;rw[show wT K (.ref C) f=MO MP from n];rfl
structure Con(K:ac)(C:AE)(f:Str)(v:V)(u:zY):Prop where
 at_:wT K (.ref C) f=MO (MO u)
 rel:RelV v u
 get:Nq K u "__get__" = MO MP
 cp:W.copiedNames.contains f=MR
structure Meth(K:ac)(C:AE)(m:Str)(f:AE):Prop where
 at_:wT K (.ref C) m=MO ↑f
 fn:W.isFn K (.ref f)=MQ
 kp:Nk K (.ref f)=MQ
section
variable{fs:M3 (Str×V)}{f:Str}{v:V}
def wQ{b:Bool}{Q:zY->Ct->Prop}(I:Inv X MT σ H s)(e:H a=MO (.ins C dx fs))(c:Cls X.K C)(n:NoAttr X.K C f)(l:fs.lookup f=MO v)
  (h:∀u s',Inv X MT σ H s'->RelV v u->Q u s'):D8 (model X.prog X.w) A (getAttr (.ref a) f b) Q E s:=by
 let(g,O,r,_,_,_):=qc I.hok e;let(u,i,d):=rN.some_of (v:=v) (o:=g f) (by rw[←l];exact r f);calc get_map I.kIn O (c.get f) c.hd n i (sy d)<|h u _ (I.tok _) d
def jV{m:Str}{g:AE}{pl:Sem Bool}{Q:zY×M3 zY->Ct->Prop}(I:Inv X MT σ H s)(e:H a=MO (.ins C dx fs))(c:Cls X.K C)(k:Meth X.K C m g)(l:fs.lookup m=MP)
  (h:Q (.ref g,[.ref a]) s):D8 (model X.prog X.w) A (K6 (.ref a) m pl) Q E s:=by
 let(b,O,r,_,_,_):=qc I.hok e;let d:b m=none:=rN.none_of (by rw[←l];exact r m);calc Ao I.kIn O (c.get m) k.at_ k.fn d h
def wR{y:V}{u:zY}{Q:Unit->Ct->Prop}(I:Inv X MT σ H s)(e:H a=MO (.ins C dx fs))(c:Cls X.K C)(n:NoAttr X.K C f)(B:⇑fs<1000)(m:RelV y u)
  (h:∀s',Inv X MT σ (upd H a<|.ins C dx<|bX f y fs) s'->Q () s'):D8 (model X.prog X.w) A (setAttr (.ref a) f u) Q E s:=by
 let(j,O,r,i,_,k):=qc I.hok e;let p:⇑(fs.map (·.1))<=AY:=by rw[bQ,K5];lia
 refine Cc I.kIn O c.sa c.po n.taker c.hd i p λh' d l=>h _ ?_
 let hd:∃o,h'.get? dx=MO o:=let ⟨o,_,_,e',_⟩:=d.ns;(o,e',);refine I.write (x:=a) (e:=dx) (by rw[e];exact Nc) (.inr k) (λb q v z=>(l.2 b v).trans z) hd ?_;refine(by rw[ay O.ne];exact k,?_,O.ne,d.obj,_,d.ns,λg=>?_,λg t=>?_,)
 .let:=pJ f y fs;lia
 .show rN ((bX f y fs).lookup g) (if g=f then MO u else j g);rw[pI];by_cases q:g=f
  .rw[MV q,MV q];exact m
  .rw[MU q,MU q];exact r g
 .by_cases q:g=f
  .rw[q];exact(oP f y fs).1
  .refine(oP f y fs).2 g (i g λz=>t ?_);show(if g=f then MO u else j g)=MP;rw[MU q];calc z
def Inv.made(I:Inv X MT σ H s):Inv X MT σ (upd (upd H ↥s<|.own<|↥s+1) (↥s+1)<|.ins C ↥s [])
  { s with heap:=(s.heap.push Go).push (Nh C ↥s) }:=by
 let c:(s.heap.push Go).get? ↥s=MO Go:=ii s.heap U;let h:((s.heap.push Go).push<|Nh C ↥s).get? (↥s+1)=MO (Nh C ↥s):=by
  let:=ii (s.heap.push Go) (o:=Nh C ↥s) U
  rwa [Da]at this
 let g:(s.heap.push Go).Ns ↥s (λ_=>MP):=(Go,#[],_,c,U,(λe f=>MW f (by simp)),λ_=>U,);let i:=I.laid (a:=↥s) (o:=.own<|↥s+1) (h':=s.heap.push Go) (t':=s.toks) (λb u q=>am _ q) (pT _) (_,c,);calc i.laid (a:=↥s+1) (o:=.ins C ↥s []) (t':=s.toks) (λb u q=>am _ q) (Nat.le_of_eq<|Da _ _) ?_;let ne:↥s≠↥s+1:=qo<|so _;calc(by rw[ay ne,af],rE _,ne,h,λ_=>MP,(AU.Ns1.of_empty g).at λo q=>am _ q,λ_=>Nc,λy d=>MW U d,)
def Cd{prog:An}{w:zZ}{a:Env}{e:Ej}{f:Str}{pos:Pos}{s:Ct}{Q:zY->Ct->Prop}(c:K9 e f a (eval e a)=eval e a)
  (h:D8 (model prog w) A (eval e a) (λo b=>D8 (model prog w) A (getAttr o f MQ) Q E b) E s):D8 (model prog w) A (eval (.Attribute e f pos) a) Q E s :=
 Attribute_any_ h (by rw[arm_eval_Attribute,c])
end
inductive Dz(K:ac)(f:Str)(Q:VK)(x:V)(H1:Hp):Prop
 |mk (a C dx fs v:_)(_:x=.ref a)(_:H1 a=MO (.ins C dx fs))(_:Cls K C)(_:NoAttr K C f)(_:fs.lookup f=MO v)(_:Q v H1)
def  FV(K:ac)(ta:TE)(f:Str):TE:=λσ H Q=>ta σ H λx a=>Dz K f Q x a
def  Hz(K:ac)(ta c:TE)(f:Str):TS:=λD σ H=>c σ H λy d=>ta σ d λx b=>∃a C dx fs,x=.ref a/\b a=MO (.ins C dx fs)/\Cls K C/\NoAttr K C f/\⇑fs<1000 /\
 D.nx σ (upd b a<|.ins C dx<|bX f y fs)
variable{o:Ej}
section
variable{value:Ej}{f:Str}{pos' FW:Pos}{tv:TE}
def aP(g:PE X e ta)(i:K9 e f X.env (eval e X.env)=eval e X.env):PE X (.Attribute e f pos) (FV X.K ta f):=by
 intro MT s σ H Q I h;calc Cd i<|thn (g MT s σ H _ I h) λu w (x,p,o,b,a,C,dx,fs,v,j,k,c,n,l,q,)=>?_;subst j;obtain rfl:u=zY.ref a:=b;calc wQ o k c n l λr t m d=>(v,p,m,d,q,)
def cG(m:PE X o ta)(j:PE X value tv)(k:HJ value (MO<|.Attribute o f pos') pos.line X.env=pure MR):PS X (.Assign [.Attribute o f pos'] value pos) (Hz X.K ta tv f):=by
 intro MT s σ H D I h;calc plainObj_wpAny_Assign_Attribute (thn (j MT s σ H _ I h) λu b (y,z,w,d,q,)=>thn (m MT b σ z _ w q) λi B (x,E,v,e,a,C,dx,fs,p,r,c,n,l,g,)=>?_) k;subst p;obtain rfl:i=zY.ref a:=e;calc wR v r c n l d λA t=>(σ,_,t,g,)
end
section
variable{Q:zY->Ct->Prop}{c:zY}{b:Bool}
inductive oQ(K:ac)(H:Hp):V->zY->Prop where
 |non:oQ K H .non (.type "NoneType")
 |bl (x:Bool):oQ K H (.bl x) (.type "bool")
 |int (i:Int):oQ K H (.int i) (.type "int")
 |str (x:Str):oQ K H (.str x) (.type "str")
 |flt (x:UInt64):oQ K H (.flt x) (.type "float")
 |lst {a:AE}{xs:M3 V}(e:H a=MO (.lst xs)):oQ K H (.ref a) (.type "list")
 |frz {a:AE}{o:Obj}{xs:M3 V}(e:H a=MO (.frz o<|.lst xs)):oQ K H (.ref a) (.type "list")
 |tup {a:AE}{xs:M3 V}(e:H a=MO (.tup xs)):oQ K H (.ref a) (.type "tuple")
 |dK {a:AE}{kvs:M3 (Key×V)}(e:H a=MO (.dK kvs)):oQ K H (.ref a) (.type "dict")
 |dT {a:AE}{kvs:M3 (M3 Key×V)}(e:H a=MO (.dT kvs)):oQ K H (.ref a) (.type "dict")
 |ins {a C dx:AE}{fs:M3 (Str×V)}(e:H a=MO (.ins C dx fs))(cl:Cls K C)(ha:wT K (.ref C) "__class__" = MO (MO<|.builtin "object.__class__"))
   (hn:Nq K (.builtin "object.__class__") "__get__" = MO (MO<|.builtin "getset_descriptor.__get__")) (htk:W.takesIn K (.builtin "object.__class__")=MO MQ)
   (hm:W.mroIn K C (.type "object")=MO MQ):oQ K H (.ref a) (.ref C)
def yX{x:V}{u t:zY}(I:Inv X MT σ H s)(d:RelV x u)(ty:oQ X.K H x t)(e:NG X.K t c=MO b)(h:∀k,Q (.bool b) { s with toks:=k }) :
  D8 (model X.prog X.w) A (call (.builtin "isinstance") [u,c]) Q E s:=by
 cases ty with
 |non=>cases (show u=zY.none from d);exact FB W.kitx_none I.kIn Nc e (λz=>nomatch z) h
 |bl y=>cases (show u=zY.bool y from d);exact FB W.kitx_bool I.kIn Nc e (λz=>nomatch z) h
 |int i=>obtain⟨t,q⟩:=(show ∃t,u=zY.int i t from d);cases q;exact FB W.kitx_int I.kIn Nc e (λz=>nomatch z) h
 |str y=>obtain⟨t,q⟩:=(show ∃t,u=zY.str y t from d);cases q;exact FB W.kitx_str I.kIn Nc e (λz=>nomatch z) h
 |flt y=>obtain⟨t,q⟩:=(show ∃t,u=zY.float y t from d);cases q;exact FB W.kitx_float I.kIn Nc e (λz=>nomatch z) h
 | @lst a g ea =>
  cases (show u=zY.ref a from d);let(_,_,n,_,f):=(show eK X.prog X.w H s.heap a (.lst g)from I.hok a _ ea);exact FB W.kitx_list I.kIn (_,f,U,) e (λz=>nomatch z) h
 | @frz a ob g ea =>
  cases (show u=zY.ref a from d);let(_,_,_,n,_,f):=(show eK X.prog X.w H s.heap a (.frz ob<|.lst g)from I.hok a _ ea);exact FB W.kitx_list I.kIn (_,f,U,) e (λz=>nomatch z) h
 | @tup a g ea =>
  cases (show u=zY.ref a from d);let(_,_,_,p):=(show eK X.prog X.w H s.heap a (.tup g)from I.hok a _ ea);let(o,f,j,_):=p;exact FB W.kitx_tuple I.kIn (o,f,j,) e (λz=>nomatch z) h
 | @dK a kvs ea =>
  cases (show u=zY.ref a from d);let(_,_,r,_,p):=(show eK X.prog X.w H s.heap a (.dK kvs)from I.hok a _ ea);let(o,l,m,f,j,_):=p;exact FB W.kitx_dict I.kIn (o,f,j.1,) e (λz=>nomatch z) h
 | @dT a kvs ea =>
  cases (show u=zY.ref a from d);let(_,_,g,_,o,l,m,f,j,_):=(show eK X.prog X.w H s.heap a (.dT kvs)from I.hok a _ ea);exact FB W.kitx_dict I.kIn (o,f,j.1,) e (λz=>nomatch z) h
 | @ins a C dx fs ea cl ha hn htk hm =>
  cases (show u=zY.ref a from d);let(B,O,_):=qc I.hok ea;let(v,J,_):=O.look;calc FB (W.kitx_own (cl.get _) cl.hd ha hn htk hm) I.kIn J e (λz=>nomatch z) h
end
structure dJ(k:Nat)(A:Cm):Prop where
 hd:A.handled=MP
 dp:A.depth+3*k+5<La
 un:A.units+16*k+200<Lb
def dJ.mono{j k:Nat}{A:Cm}(r:dJ k A)(h:j<=k):dJ j A:=(r.hd,by have:=r.dp;lia,by have:=r.un;lia,)
def dJ.deeper{k:Nat}{A:Cm}(r:dJ (k+1) A)(a:Env):dJ k (A.deeper a) :=
 (r.hd,by have:=r.dp;show A.depth+1+3*k+5<_;lia,by have:=r.un;show A.units+3+16*k+200<_;lia,)
def wU{A:Cm}{C:AE}{us:M3 zY}{a:M3 (Str×zY)}:(A.under<|.builtin "type.__call__" (.ref C :: us,a,)).depth=A.depth+1:=by
 first|rfl|simp[Cm.under,Lc.weight,Lc.isCreation,Lc.isGuard,Lc.isCaller,Lc.frames,Lc.isFrame,guardIds]
def wV{A:Cm}{C:AE}{us:M3 zY}{a:M3 (Str×zY)}:(A.under<|.builtin "type.__call__" (.ref C :: us,a,)).units=A.units+1:=by
 first|rfl|simp[Cm.under,Lc.cUnits,Lc.frames,Lc.isFrame]
def dJ.make{k:Nat}{A:Cm}(r:dJ (k+1) A)(C:AE)(us:M3 zY)(a:M3 (Str×zY)):dJ k (A.under<|.builtin "type.__call__" (.ref C :: us,a,)) :=
 (r.hd,by have:=r.dp;rw[wU];lia,by have:=r.un;rw[wV];lia,)
def dJ.depth{k:Nat}{A:Cm}(r:dJ k A):A.depth<La:=by have:=r.dp;lia
def dJ.units{k:Nat}{A:Cm}(r:dJ k A):A.units+64<Lb:=by have:=r.un;lia
def  Cf:TA:=λ_ H Q=>Q [] H
def  FX(ta:TE)(b:TA):TA:=λσ H Q=>ta σ H λx d=>b σ d λa c=>Q (x :: a) c
variable{es:M3 Ej}{t:TA}
def ae:PA X [] Cf:=λ_ _ _ _ H Q I h=>NJ ([],H,I,.nil,h,)
def aa(k:PE X e te)(j:PA X es t)(i:EX (e :: es) X.env=(MR,eval e X.env) :: EX es X.env:=by rfl):PA X (e :: es) (FX te t):=by
 intro pos MT s σ H Q I h;rw[i];show D8 _ _ (spliced ((MR,eval e X.env) :: Ey pos (EX es X.env))) _ _ s;calc Na<|thn (k MT s σ H _ I h) λu b (x,o,m,d,g,)=>?_;calc thn (j pos MT b σ o _ m g) λp q (a,n,l,c,f,)=>(x :: a,n,l,.cons d c,f,)
def  HA(t:TA):TE:=λσ H Q=>t σ H λa b=>⇑a<=AY/\∀p,b p=MP->Q (.ref p) (upd b p<|.tup a)
def  HB(t:TA):TE:=λσ H Q=>t σ H λa b=>⇑a<=AY/\∀p,b p=MP->Q (.ref p) (upd b p<|.lst a)
def bH{x1} (h:PA X es t):PE X (.Tuple es x1 pos) (HA t):=by
 intro MT s σ H Q I i;refine Ld (thn (h pos MT s σ H _ I i) λg a (f,d,c,r,z,q,)=>(by rw[←⇑r];exact z,?_,));let j:d ↥a=none:=c.hok.fresh<|pT _;calc(.ref ↥a,upd d ↥a<|.tup f,c.laid (t':=a.toks) (λb u e=>am _ e) (pT _) ?_,U,q _ j,);calc(z,g,r,(_,ii _ U,U,_,U,),)
def bP(h:PA X es t):PE X (.List es pos) (HB t):=by
 intro MT s σ H Q I i;refine wpAny_List_spliced (thn (h pos MT s σ H _ I i) λg a (f,d,c,r,z,q,)=>(by rw[←⇑r];exact z,?_,));let j:d ↥a=none:=c.hok.fresh<|pT _;calc(.ref ↥a,upd d ↥a<|.lst f,c.laid (t':=a.toks) (λb u e=>am _ e) (pT _) ?_,U,q _ j,);calc(z,g,0,r,ii _ U,)
abbrev Sp:=M3 V->Hp->VK->XK->Prop
abbrev CXT:=M3 Env->Hp->Ct->XK->zY->Ct->Prop
structure wW(P:An)(w:zZ)(K:ac)(mg:Str->Option zY)(base:AU)(A:Cm)(outer:M3 Env)(s:Ct)(H:Hp):Prop where
 frames:A.frames=MO outer
 mod:Mod K mg base
 bs:∀b o,base.get? b=MO o->s.heap.get? b=MO o/\H b=MP
 bsz:base.objs.size<=↥s
 funs:s.heap.FunFrames base outer
 frf:∀b∈frs outer,H b=MP
 hok:HOk P w H s.heap
 bare:AllBare s.gens
def  CE(a:M3 Env)(P:An)(w:zZ)(H:Hp)(s:Ct)(Q:VK)(u:zY)(s':Ct):Prop :=
 ∃v H',s'.os=s.os/\AllBare s'.gens/\Un (frs a) [] H H' s.heap s'.heap/\HOk P w H' s'.heap/\RelV v u/\Q v H'
def  CR(CX:CXT)(a:M3 Env)(P:An)(w:zZ)(H:Hp)(s:Ct)(Q:VK)(E:XK)(r:K7)(s':Ct):Prop :=
 match r with
 | .ok (.ret u)=>CE a P w H s Q u s'
 | .ok _=>False
 | .error e=>CX a H s E e s'
structure aU(P:An)(w:zZ)(K:ac)(mg:Str->Option zY)(base:AU)(CX:CXT)(k:Nat)(f:AE)(fd:Le)(ps:M3 Str)(sp:Sp):Prop where
 len:∀vs H Q E,sp vs H Q E->⇑vs=⇑ps
 run:∀(A:Cm)(outer:M3 Env)(s:Ct)(H:Hp)(args:Args)(us:M3 zY)(vs:M3 V)(Q:VK)(E:XK),dJ k A->wW P w K mg base A outer s H->Lf s fd args (ps.zip us)->Vals vs us->sp vs H Q E ->
  K8 (model P w) A (.call (.ref f) args) (CR CX outer P w H s Q E) s
def aU.mono{P:An}{w:zZ}{K:ac}{d:Str->Option zY}{a:AU}{CX:CXT}{j k:Nat}{f:AE}{e:Le}{ps:M3 Str}{sp:Sp}(F:aU P w K d a CX j f e ps sp)(h:j<=k) :
  aU P w K d a CX k f e ps sp:=(F.len,λA b s H c i g Q E l=>F.run A b s H c i g Q E<|l.mono h,)
def wW.make{P:An}{w:zZ}{K:ac}{c:Str->Option zY}{b:AU}{A:Cm}{a:M3 Env}{s:Ct}{H:Hp}(e:wW P w K c b A a s H)(C:AE)(us:M3 zY)(d:M3 (Str×zY)) :
  wW P w K c b (A.under<|.builtin "type.__call__" (.ref C :: us,d,)) a s H:=(by first|exact e.frames|(simpa[Cm.under,Lc.envs,Lc.isFrame,pushEnvs]using e.frames),e.mod,e.bs,e.bsz,e.funs,e.frf,e.hok,e.bare,)
section
variable{s':Ct}
def Inv.env0(I:Inv X MT σ H s):wW X.prog X.w X.K X.mg X.base X.A X.stack s H :=
 (I.ok.frames,I.ok.mod,I.bs,qu I.ok.bsz I.sz,I.stack,I.stkFree,I.hok,I.bare,)
def Inv.after{Q:VK}{u:zY}(I:Inv X MT σ H s)(h:CE X.stack X.prog X.w H s Q u s'):EP X MT σ Q u s':=by
 let(v,H',os,a,un,e,r,q):=h;let(f,g,d,t,c):=s';obtain rfl:c=s.os:=os;calc(v,H',I.call (h':=f) (g':=g) (d':=d) (t':=t) (ch:=[]) un e a<|λb z=>MW z (by simp),r,q,)
end
def  FY(sp:Sp)(dvs:M3 V)(E:XK)(t:TA):TE:=λσ H Q=>t σ H λa b=>sp (a++dvs) b Q E
def  DA(C:AE)(sp:Sp)(dvs:M3 V)(E:XK)(t:TA):TE:=λσ H Q=>t σ H λb a=>∀x dx,a x=MP->a dx=MP->dx≠x ->
 sp (.ref x :: (b++dvs)) (upd (upd a dx<|.own x) x<|.ins C dx []) (λv c=>v=.non/\Q (.ref x) c) E
def  Binds(K:ac)(b:Le)(ps:M3 Str)(ds:M3 zY):Prop :=
 ∀(s:Ct)(a:M3 zY),K.In s.heap->⇑(a++ds)=⇑ps->Lf s b (a,[],) (ps.zip<|a++ds)
def Binds.all{K:ac}{b:Le}{ps:M3 Str}(h:∀us:M3 zY,⇑us=⇑ps->Lg b (us,[],)=pure (ps.zip us)):Binds K b ps []:=λs us _ a=>by
 rw[hY]at a⊢;calc .of_eq<|h us a
def  Passes(CX:CXT)(X:Cx)(E:XK):Prop:=∀(MT:M3 (AE×Obj))(σ:St)(H:Hp)(s:Ct)(e:zY)(a:Ct),Inv X MT σ H s->CX X.stack H s E e a->X.xe e a
variable{p:Pos}
section
variable{CX:CXT}{k:Nat}{fd:Le}{ps:M3 Str}{sp:Sp}{dvs:M3 V}{ds:M3 zY}{E:XK}{x m:Str}{apos:Pos}
def Aq{MT:M3 (AE×Obj)}{σ:St}{H:Hp}{s:Ct}{Q:VK}{us:M3 zY}{vs:M3 V}(F:aU X.prog X.w X.K X.mg X.base CX k f fd ps sp)(g:dJ k X.A)(l:Binds X.K fd ps ds)(j:Vals dvs ds)(d:Passes CX X E)
  (I:Inv X MT σ H s)(r:Vals vs us)(h:sp (vs++dvs) H Q E):D8 (model X.prog X.w) X.A (call (.ref f) us) (EP X MT σ Q) X.xe s:=by
 let b:Vals (vs++dvs) (us++ds):=r.append j;let i:⇑(us++ds)=⇑ps:=by rw[←⇑b];exact F.len _ _ _ _ h
 calc Lh<|Li (F.run X.A X.stack s H (us,[],) (us++ds) (vs++dvs) Q E g I.env0 (l s us I.kIn i) b h) λr c a=>?_;cases r with
 |error e=>exact d MT σ H s e c I a
 |ok fl =>
  cases fl with
  |ret u=>exact I.after a
  |next=>exact ut a
  |brk=>exact ut a
  |cont=>calc ut a
def Cg(F:aU X.prog X.w X.K X.mg X.base CX k f fd ps sp)(g:dJ k X.A)(l:Gl X x)(i:X.mg x=↑f)(j:Nk X.K (.ref f)=MQ)(n:Binds X.K fd ps ds)(m:Vals dvs ds)(d:Passes CX X E)
  (o:PA X (e :: es) t)(b:(x == ("__debug__" : Str))=false:=by decide) (he:EX (e :: es) X.env=(MR,eval e X.env) :: EX es X.env:=by rfl)(a:(Ey pos<|EX es X.env).any (·.1)=false:=by rfl) :
  PE X (.Call (.Name x p) (e :: es) [] pos) (FY sp dvs E t):=by
 intro MT s σ H Q I h;calc zX<|fY I l i ?_ b;calc GT (h₀:=X.base) I.ok.mod.kin j (thn (o pos MT s σ H _ I h) λv y (u,z,c,r,q,)=>(c.kIn,?_,)) he a;calc Aq F g n m d c r q
structure Mk(K:ac)(C f:AE):Prop where
 makes:W.makesIn K C=MQ
 init:wT K (.ref C) "__init__" = MO ↑f
 fn:W.isFn K (.ref f)=MQ
 kp:Nk K (.ref C)=MQ
def vg{MT:M3 (AE×Obj)}{σ:St}{H:Hp}{s:Ct}{Q:VK}{us:M3 zY}{vs:M3 V}(M:Mk X.K C f)(F:aU X.prog X.w X.K X.mg X.base CX k f fd ps sp)(m:dJ (k+1) X.A)(p:Binds X.K fd ps ds)(o:Vals dvs ds)
  (l:Passes CX X E)(I:Inv X MT σ H s)(r:Vals vs us)
  (h:∀x dx,H x=MP->H dx=MP->dx≠x->sp (.ref x :: (vs++dvs)) (upd (upd H dx<|.own x) x<|.ins C dx []) (λv y=>v=.non/\Q (.ref x) y) E) :
  D8 (model X.prog X.w) X.A (call (.ref C) us) (EP X MT σ Q) X.xe s:=by
 let d:=h (↥s+1) ↥s (I.hok.fresh<|rZ _) (I.hok.fresh<|pT _)<|qo<|so _;let b:=Inv.made (C:=C) I;let c:Vals (O1 (↥s+1) :: (vs++dvs)) (zY.ref (↥s+1) :: (us++ds)):=.cons U<|r.append o;let n:⇑(zY.ref (↥s+1) :: us++ds)=⇑ps:=by
  let e:=⇑c;rw[F.len _ _ _ _ d]at e;exact e.symm
 refine Lh (Ap (f:=f) I.kIn M.makes M.init (beq_iff_eq.mp M.fn) (Li (F.run _ X.stack _ _ (zY.ref (↥s+1) :: us,[],) (zY.ref (↥s+1) :: (us++ds)) _ _ E (m.make C us [])
  (b.env0.make C us []) (p _ (zY.ref (↥s+1) :: us) b.kIn n) c d) λr g a=>?_))
 cases r with
 |error e=>exact l MT σ _ _ e g b a
 |ok fl =>
  cases fl with
  |ret u =>
   let(v,H',t,i,q,j):=b.after a;subst q;exact(i,(O1<|↥s+1,H',t,U,j,),)
  |next=>exact ut a
  |brk=>exact ut a
  |cont=>calc ut a
def Ci(M:Mk X.K C f)(F:aU X.prog X.w X.K X.mg X.base CX k f fd ps sp)(g:dJ (k+1) X.A)(j:Gl X x)(i:X.mg x=↑C)(m:Binds X.K fd ps ds)(l:Vals dvs ds)(d:Passes CX X E)
  (n:PA X (e :: es) t)(b:(x == ("__debug__" : Str))=false:=by decide) (he:EX (e :: es) X.env=(MR,eval e X.env) :: EX es X.env:=by rfl)(a:(Ey pos<|EX es X.env).any (·.1)=false:=by rfl) :
  PE X (.Call (.Name x p) (e :: es) [] pos) (DA C sp dvs E t):=by
 intro MT s σ H Q I h;calc zX<|fY I j i ?_ b;calc GT (h₀:=X.base) I.ok.mod.kin M.kp (thn (n pos MT s σ H _ I h) λu v (o,y,c,r,q,)=>(c.kIn,?_,)) he a;calc vg M F g m l d c r q
def Ar(M:Mk X.K C f)(F:aU X.prog X.w X.K X.mg X.base CX k f fd ps sp)(c:dJ (k+1) X.A)(e:Gl X x)(d:X.mg x=↑C)(i:Binds X.K fd ps ds)(g:Vals dvs ds)(b:Passes CX X E)
  (a:(x == ("__debug__" : Str))=false:=by decide):PE X (.Call (.Name x p) [] [] pos) (DA C sp dvs E Cf):=by
 intro MT s σ H Q I h;calc zX<|fY I e d ?_ a;calc W.callWith_K0 I.kIn M.kp<|vg (us:=[]) M F c i g b I .nil h
end
section
variable{CX:CXT}{k:Nat}{fd:Le}{ps ks:M3 Str}{sp:Sp}{E:XK}{x m:Str}{apos Kn:Pos}{kws:M3 Keyword}{tk:TA}{nm:Option Str}
structure HC(K:ac)(fd:Le)(ps ks:M3 Str)(g:M3 zY->M3 zY->M3 zY)(gV:M3 V->M3 V->M3 V):Prop where
 to:∀(s:Ct)(us ws:M3 zY),K.In s.heap->⇑(g us ws)=⇑ps->Lf s fd (us,ks.zip ws,) (ps.zip<|g us ws)
 rel:∀{vs:M3 V}{us:M3 zY}{zs:M3 V}{ws:M3 zY},Vals vs us->Vals zs ws->Vals (gV vs zs) (g us ws)
variable{g:M3 zY->M3 zY->M3 zY}{gV:M3 V->M3 V->M3 V}
end
structure ar(N P:M3 Str)(sc:Du):Prop where
 kind:sc.kind=.function
 co:sc.isCoroutine=MR
 gen:sc.isGenerator=MR
 nd:N.Nodup
 pre:N.take P.length=P
 par:∀x∈P,sc.names.lookup x=MO .local\/sc.names.lookup x=MO .cell
 nofree:∀y∈sc.names,y.2≠.free
def sD{a:Str->Option Lj}{x:Str}:∀{binds:M3 (Str×zY)}{m:Str->Option zY},(∀v,(x,v) ∉ binds)->Lk a binds m x=m x
 | [],_,_=>rfl
 |(n,v) :: r,m,h=>by
  unfold Lk;rw[sD λw b=>h w (eY _ b)];split
  .let:x≠n:=by rintro rfl;exact h v gb
   simp[this]
  .rfl
def sG{a:Str->Option Lj}{x:Str}:∀{binds:M3 (Str×zY)}{m:Str->Option zY},(∀v,(x,v) ∉ binds)->Ll a binds m x=m x
 | [],_,_=>rfl
 |(n,v) :: r,m,h=>by
  unfold Ll;rw[sG λw b=>h w (eY _ b)];split
  .rfl
  .let:x≠n:=by rintro rfl;exact h v gb
   simp[this]
def sH{a:Str->Option Lj}{x:Str}{v:zY}:∀{P:M3 Str}{vs:M3 zY}{i:Nat}{m:Str->Option zY},P.Nodup->P[i]?=MO x->vs[i]?=MO v->a x=MO .local ->
  Lk a (P.zip vs) m x=MO v
 | [],_,_,_,_,h,_,_=>by simp at h
 |_ :: _,[],_,_,_,_,h,_=>by simp at h
 |p :: P,w :: vs,0,m,nd,h1,h2,hk=>by
  simp at h1 h2;subst h1;subst h2;show Lk a ((p,w) :: P.zip vs) m p=_;unfold Lk;rw[sD λv b=>(gi.mp nd).1 (pb b).1,MV hk];simp
 |p :: P,w :: vs,i+1,m,nd,h1,h2,hk=>by
  show Lk a ((p,w) :: P.zip vs) m x=_;unfold Lk;calc sH (i:=i) (gi.mp nd).2 (~~~h1) (~~~h2) hk
def sI{a:Str->Option Lj}{x:Str}{v:zY}:∀{P:M3 Str}{vs:M3 zY}{i:Nat}{m:Str->Option zY},P.Nodup->P[i]?=MO x->vs[i]?=MO v->a x≠MO .local ->
  Ll a (P.zip vs) m x=MO v
 | [],_,_,_,_,h,_,_=>by simp at h
 |_ :: _,[],_,_,_,_,h,_=>by simp at h
 |p :: P,w :: vs,0,m,nd,h1,h2,hk=>by
  simp at h1 h2;subst h1;subst h2;show Ll a ((p,w) :: P.zip vs) m p=_;unfold Ll;rw[sG λv b=>(gi.mp nd).1 (pb b).1,MU hk];simp
 |p :: P,w :: vs,i+1,m,nd,h1,h2,hk=>by
  show Ll a ((p,w) :: P.zip vs) m x=_;unfold Ll;calc sI (i:=i) (gi.mp nd).2 (~~~h1) (~~~h2) hk
def  start(N:M3 Str)(vs:M3 V):St:=vs.map MO++v6 (N.length-⇑vs) MP
def  bj(CX:CXT)(P:An)(w:zZ)(K:ac)(mg:Str->Option zY)(base:AU)(N:M3 Str)(a:Str)(scope:Du)(f:AE)(c:zY)(A:Cm)(outer:M3 Env)(s:Ct)(H:Hp)(E:XK):Cx where
 prog:=P
 w:=w
 K:=K
 mg:=mg
 base:=base
 A:=A.deeper (envOfC a scope ↥s f c)
 N:=N
 s₀:=s
 H₀:=H
 env:=envOfC a scope ↥s f c
 outer:=outer
 stack:=envOfC a scope ↥s f c :: outer
 ex:=[]
 calm:=MQ
 fn:=λ_=>MQ
 pn:=[]
 xe:=λe d=>D8 (model P w) (A.deeper<|envOfC a scope ↥s f c) (leaving (envOfC a scope ↥s f c) e) (λ_ b=>CX outer H s E e b) (λg b=>CX outer H s E g b) d
def vh{a:Du}{n:Nat}{x:Str}(h:a.names.lookup x=MO .cell):∃c,(Lm n a.names []).lookup x=MO c:=by
 let q:=W.cellsFrom_some a.names n [] (.inl h);calc yo.mp q
def yY{CX:CXT}{P:An}{w:zZ}{K:ac}{G:Str->Option zY}{l:AU}{N ps:M3 Str}{g:Str}{scope:Du}{f:AE}{F:zY}{A:Cm}{d:M3 Env}{s I:Ct}{H:Hp}{E:XK}{us:M3 zY}{vs:M3 V}
  (S:ar N ps scope)(O:A.handled=MP)(m:wW P w K G l A d s H)(X:⇑vs=⇑ps)(r:Vals vs us)
  (x:InCallC s ↥s (Lk (envOfC g scope ↥s f F).kindOf (ps.zip us) λ_=>MP) (Lm (↥s+1) scope.names []) (Ll (envOfC g scope ↥s f F).kindOf (ps.zip us) λ_=>MP) I) :
  Inv (bj CX P w K G l N g scope f F A d s H E) [] (start N vs) H I:=by
 let R:⇑ps<=N.length:=by have:=M0 M6 S.pre;rw[eH]at this;lia
 let(D,T,rfl,L):=x.done;let t:∀b:AE,b ∉ (bj CX P w K G l N g scope f F A d s H E).ex:=λb z=>MW (show b∈([]:M3 AE)from z) (by simp)
 refine((m.mod,S.kind,U,U,pT _,λy z c D j=>?_,λy o=>?_,λy c _ h=>?_,λ_=>O,Cm.frames_deeper m.frames,.inr (U,U,),λb z=>MW z<|t b,m.bs,m.bsz,λb _ _=>t b,λb z=>MW z<|t b,m.funs,m.frf,),
  rfl,m.bare,Un.kept L,(_,x.toInCall.ns,λi y v D j Y=>?_,),λy c h=>(_,x.cell y c h,),m.hok.fresh<|pT _,λy c h=>?_,λp B=>MW (show p∈([]:M3 (AE×Obj))from B) (by simp),m.hok.kept L,?_,)
 .exact name_of_addr x.apart (mem_of_lookup D)<|mem_of_lookup j
 .let o:scope.names.lookup y=MO .cell\/scope.names.lookup y=MO .free:=o;rcases o with o|o
  .exact vh o
  .exact MW U<|S.nofree _<|mem_of_lookup o
 .exact rM<|x.above y c<|mem_of_lookup h
 .let hi:i<⇑vs:=by
   unfold start at j;by_cases hi:i<⇑vs
   .exact hi
   .rw[fV (~~~hi)]at j;rw[KB]at j;split at j <;> cases j
  let Q:vs[i]?=MO v:=by
   unfold start at j;rw[ft (~~~hi),dn]at j;cases e:vs[i]? with
   |none=>rw[e]at j;cases j
   |some a=>rw[e]at j;cases j;rfl
  let(u,J,M):=r.get Q;let B:ps[i]?=MO y:=by
   rw[←S.pre,Nn ∅];exact D
  let C:ps.Nodup:=by rw[←S.pre];exact S.nd.sublist<|NO _ _
  calc(u,M,?_,);rcases S.par y (KJ B)with k|k
  .exact .inl (k,sH C B J k,)
  .let(c,e):=vh (n:=↥s+1) k;calc .inr (.inl k,c,e,?_,);let q:=x.cell y c e;rw[sI C B J (by show scope.names.lookup y≠_;rw[k];decide)]at q;exact q
 .exact m.hok.fresh<|rM<|x.above y c<|mem_of_lookup h
 .unfold start;show _=N.length;rw[dV,bQ,ib];lia
def DB{CX:CXT}{P:An}{w:zZ}{K:ac}{m:Str->Option zY}{base:AU}{k:Nat}{f:AE}{name c:Str}{params:Arguments}{body:M3 E1}{scope:Du}{M kV l L d O oc:zY}{R od:Option AE}
  {C:Array (Option zY)}{N ps:M3 Str}{sp:Sp}(lk:K.lookup f=MO (oc,od,.func<|OC name c params body scope M kV l L R d O,C,))(F:W.codeIn K d c=MQ)(S:ar N ps scope)
  (len:∀vs H Q E,sp vs H Q E->⇑vs=⇑ps)
  (nK:∀(A:Cm)(a:M3 Env)(s:Ct)(H:Hp)(vs:M3 V)(Q:VK)(E:XK),dJ k (A.deeper<|envOfC c scope ↥s f d)->sp vs H Q E ->
   ∃t,PSs (bj CX P w K m base N c scope f d A a s H E) body t/\t { nx:=λ_ H'=>Q .non H',rt:=Q } (start N vs) H) :
  aU P w K m base CX (k+1) f (OC name c params body scope M kV l L R d O) ps sp:=by
 calc(len,λA a s H X Z vs Q E B i hb r j=>?_,);let hl:=len _ _ _ _ j;let T:K.In s.heap:=i.mod.kin.keeps λb o e=>(i.bs b o e).1
 let D:s.heap.NoLimit:=i.mod.nolimit.keeps λb o e=>(i.bs b o e).1
 let Y:∀y∈ps.zip Z,scope.names.lookup y.1=MO .local\/(scope.names.lookup y.1=MO .cell/\((Lm (↥s+1) scope.names []).lookup y.1).isSome=MQ):=λ(n,v,) hy=>by
  rcases S.par n (pb hy).1 with q|q
  .exact .inl q
  .exact .inr (q,W.cellsFrom_some _ _ _<|.inl q,)
 calc codeAny_call_function B.depth (T _ _ lk) U S.co S.gen U (W.codeRec_of T F)<|hb _ _ _ _ ?_;refine wpAny_newFunctionEnv_cells S.kind Y λa0 he G x=>?_
 subst he;calc(D.keeps x.toInCall.keep,codeAny_func ?_,);let(t,ht,hq):=nK A a s H vs Q E (B.deeper _) j;let I:Inv (bj CX P w K m base N c scope f d A a s H E) [] (start N vs) H G:=yY S B.hd i hl r x;refine FC (ht [] G (start N vs) H _ I hq) (λfl p h=>?_) λe p h=>h
 let fin:∀{g:St}{H':Hp}{v:V}{u:zY},Inv (bj CX P w K m base N c scope f d A a s H E) [] g H' p->RelV v u->Q v H'->CE a P w H s Q u p :=
  λ{g H' v u} J z q=>(v,H',J.os,J.bare,J.base,J.hok,z,q,)
 cases fl with
 |ret u =>
  let(v,g,H',J,z,q):=h;exact fin J z q
 |next =>
  let(g,H',J,q):=h;exact fin (v:=V.non) (u:=zY.none) J U q
 |brk =>
  let(_,_,_,q):=h;exact ut q
 |cont =>
  let(_,_,_,q):=h;calc ut q
section
variable{x:Str}{id T:String}{r:M3 V->Hp->VK->Prop}
def  tCB(r:M3 V->Hp->VK->Prop)(t:TA):TE:=λσ H Q=>t σ H λa b=>r a b Q
def av(n:iM X (.builtin id) r)(m:Gl X x)(l:X.mg x=MP)(j:Ce x=MO (.builtin id))(o:PA X (e :: es) t)(k:x ≠ "__name__" := by decide) (b:(x == ("__debug__" : Str))=false:=by decide)
  (he:EX (e :: es) X.env=(MR,eval e X.env) :: EX es X.env:=by rfl)(a:(Ey pos<|EX es X.env).any (·.1)=false:=by rfl):PE X (.Call (.Name x p) (e :: es) [] pos) (tCB r t):=by
 intro MT s σ H Q I h;calc zX<|jS I m l j ?_ k b;calc PyProof.Rows.callWith_builtin1 (thn (o pos MT s σ H _ I h) λd f (c,u,q,g,i,)=>n MT f σ u c d Q q g i) he a
def bg(n:iM X (.type T) r)(m:Gl X x)(l:X.mg x=MP)(j:Ce x=MO (.type T))(o:PA X (e :: es) t)(k:x ≠ "__name__" := by decide) (b:(x == ("__debug__" : Str))=false:=by decide)
  (he:EX (e :: es) X.env=(MR,eval e X.env) :: EX es X.env:=by rfl)(a:(Ey pos<|EX es X.env).any (·.1)=false:=by rfl):PE X (.Call (.Name x p) (e :: es) [] pos) (tCB r t):=by
 intro MT s σ H Q I h;calc zX<|jS I m l j ?_ k b;calc v4 (thn (o pos MT s σ H _ I h) λd f (c,u,q,g,i,)=>n MT f σ u c d Q q g i) he a
end
end _L
open _L.Cx renaming wish→OW,nox→OY
open _L.SqT renaming of→OV
open _L.SqL renaming of→OU
open _L.V renaming int→pi,ref→O1,str→OT
namespace HT
open PySem PyProof.Rows
section
open PySem.SeqAt
open PySem.AutoSeq1 (wpAny_loadPart')
open PySem.MeetsSeq PySem.MeetsSeq2 PySem.MeetsSeq3
end
section
variable{prog:An}{w:zZ}{A:Cm}{E:zY->Ct->Prop}{s:Ct}
def  sIx(n d:Nat):Option Int->Nat
 |none=>d
 |some v=>if v<0 then(v+(n:Int)).toNat else min v.toNat n
def sIx_nat(n d k:Nat):sIx n d (MO (k:Int))=min k n:=by
 show(if (k:Int)<0 then((k:Int)+(n:Int)).toNat else min (k:Int).toNat n)=min k n;rw[MU ∅,vr]
end
end HT
namespace _L
open PySem PySem.Spec PyProof.Rows
abbrev TO:=St->Hp->(Option Int->O0)->Prop
def  PO(X:Cx)(e:Option Ej)(t:TO):Prop :=
 ∀(a:M3 (AE×Obj))(s:Ct)(b:St)(H:Hp)(Q:Option Int->O0),Inv X a b H s->t b H Q ->
  D8 (model X.prog X.w) X.A (evalPart e X.env) (λu d=>∃o c,Inv X a b c d/\Lo u o/\Q o c) X.xe s
def  Cj:TO:=λ_ H Q=>Q MP H
inductive As  (Q:Option Int->O0)(x:V)(H1:Hp):Prop
 |mk (i:_)(_:x=.int i)(_:Q (MO i) H1):As Q x H1
def  FZ(t:TE):TO:=λa H Q=>t a H λx b=>As Q x b
variable{X:Cx}
section
variable{e:Ej}{te:TE}{lo hi:Option Ej}{tl th:TO}{pos p2:Pos}
def nM:PO X MP Cj:=by
 intro a s b H Q I h;rw[Lp];calc zp (MP,H,I,.none,h,)
def iz(h:PE X e te):PO X (MO e) (FZ te):=by
 intro a s b H Q I f;rw[evalPart_some];refine thn (h a s b H _ I f) λu k (x,j,g,c,d,)=>?_
 let(i,rfl,q):=d;let(t,rfl):=c;calc(MO i,j,g,.int i t,q,)
def  SlR(X:Cx)(r:V->Option Int->Option Int->Hp->VK->Prop):Prop :=
 ∀(a:M3 (AE×Obj))(s:Ct)(b:St)(H:Hp)(x:V)(v d c:zY)(lo hi:Option Int)(e:AE)(Q:VK),Inv X a b H s->RelV x v->s.heap.IsSliceOf e d c .none->Lo d lo->Lo c hi->r x lo hi H Q ->
  ∃T f,Lq (.type T) "__getitem__" = pure (MO<|.builtin f)/\s.TypeIs v T/\D8 (model X.prog X.w) X.A (getItem v<|.ref e) (EP X a b Q) X.xe s
def  tSl(r:V->Option Int->Option Int->Hp->VK->Prop)(te:TE)(tl th:TO):TE:=λa H Q=>te a H λx d=>tl a d λl c=>th a c λu b=>r x l u b Q
def iN{r:V->Option Int->Option Int->Hp->VK->Prop}(C:SlR X r)(F:PE X e te)(D:PO X lo tl)(z:PO X hi th):PE X (.Subscript e (.Slice lo hi MP p2) pos) (tSl r te tl th):=by
 intro a s d H Q I h;calc Subscript_<|thn (F a s d H _ I h) λv k (x,O,M,m,p,)=>?_;calc wpAny_Slice<|thn (D a k d O _ M p) λg j (l,N,L,y,o,)=>thn (z a j d N _ L o) λf c (u,i,K,t,n,)=>?_;rw[Lp];calc zp ?_;let J:Inv X a d i { c with heap:=c.heap.push { cls:=.type "slice",data:=.fields #[g,f,.none] } }:=K.kept (t':=c.toks) λb P q=>am _ q
 let(T,R,G,B,E):=C a { c with heap:=c.heap.push { cls:=.type "slice",data:=.fields #[g,f,.none] } } d i x v g f l u ↥c Q J m (AU.IsSliceOf.new ..) y t n;show D8 (model X.prog X.w) X.A (subscriptTail e (.Slice lo hi MP p2) v<|.ref ↥c) (EP X a d Q) X.xe { c with heap:=c.heap.push { cls:=.type "slice",data:=.fields #[g,f,.none] } };calc tail_any (ops:=[.ref ↥c,v]) B G E (by with_unfolding_all rfl)
def  yZ(xs:M3 V)(lo hi:Option Int):M3 V:=(xs.drop<|HT.sIx ⇑xs 0 lo).take<|HT.sIx ⇑xs ⇑xs hi-HT.sIx ⇑xs 0 lo
def vi(xs:M3 V)(lo hi:Option Int):⇑(yZ xs lo hi)<=⇑xs:=by
 unfold yZ;rw[eH,lR];lia
end
def  ixN(n:Nat)(i:Int):Option Nat:=if 0<=i then(if i<n then MO i.toNat else MP)else if -(n:Int)<=i then MO (i+n).toNat else MP
def  atI{a:Type}(xs:M3 a)(i:Int):Option a:=(ixN ⇑xs i).bind λj=>xs[j]?
def yj{n:Nat}{i:Int}{j:Nat}(h:ixN n i=MO j):seqIndex? i n=MO j/\j<n/\-(n:Int)<=i/\i<n:=by
 unfold ixN at h;by_cases b:0<=i
 .rw[MV b]at h;by_cases a:i<n
  .rw[MV a]at h;let e:i.toNat=j:=dL h;exact(by rw[Lr b a,e],∅,∅,a,)
  .rw[MU a]at h;cases h
 .rw[MU b]at h;by_cases a : -(n:Int)<=i
  .rw[MV a]at h;let e:(i+n).toNat=j:=dL h;exact(by rw[seqIndex_neg ∅ a,e],∅,a,∅,)
  .rw[MU a]at h;cases h
def tU{a:Type}{xs:M3 a}{i:Int}{v:a}(h:atI xs i=MO v):∃j,seqIndex? i ⇑xs=MO j/\xs[j]?=MO v/\j<⇑xs/\-(⇑xs:Int)<=i/\i<⇑xs:=by
 unfold atI at h;cases e:ixN ⇑xs i with
 |none=>rw[e]at h;cases h
 |some j =>
  rw[e]at h;let(f,d,c,b):=yj e;calc(j,f,h,d,c,b,)
def aS{a:Type}{xs:M3 a}{j:Nat}{v:a}(h:xs[j]?=MO v):atI xs (j:Int)=MO v:=by
 let b:j<⇑xs:=(KH.mp h).1;let e:ixN ⇑xs (j:Int)=MO j:=by
  unfold ixN;rw[MV ∅,MV ∅];simp
 unfold atI;rw[e];calc h
def lr{a:Type}(xs:M3 a)(v:a):atI (xs++[v]) (-1)=MO v:=by
 let b:⇑(xs++[v])=⇑xs+1:=by simp
 let e:ixN ⇑(xs++[v]) (-1)=MO ⇑xs:=by
  unfold ixN;rw[b,MU ⋯,MV ∅]
  congr 1
  lia
 unfold atI;rw[e];show(xs++[v])[⇑xs]?=MO v;simp
def  Ck(b:Ej):Prop:=∀o i,subscripted b MR o i=operate [o,i] (getItem o i)
def  IxR(X:Cx)(r:R2):Prop :=
 ∀(value a:Ej)(b:M3 (AE×Obj))(s:Ct)(c:St)(H:Hp)(x y:V)(v u:zY)(Q:VK),Inv X b c H s->RelV x v->RelV y u->r x y H Q ->
  subscripted a MR v u=operate [v,u] (getItem v u)->D8 (model X.prog X.w) X.A (subscriptTail value a v u) (EP X b c Q) X.xe s
def  MtR(X:Cx)(e:String)(r:V->M3 V->Hp->VK->Prop):Prop :=
 ∀(a:M3 (AE×Obj))(s:Ct)(b:St)(H:Hp)(x:V)(c:M3 V)(v:zY)(d:M3 zY)(Q:VK),Inv X a b H s->RelV x v->Vals c d->r x c H Q ->
  D8 (model X.prog X.w) X.A (call (.builtin e) (v :: d)) (EP X a b Q) X.xe s
section
variable{a b:Ej}{ta tb:TE}{pos:Pos}
def az{r:R2}(j:IxR X r)(l:PE X a ta)(k:PE X b tb)(i:Ck b):PE X (.Subscript a b pos) (tOp r ta tb):=by
 intro c s d H Q I h;calc Subscript_<|D9 l k I h λv u e x y n m g f q=>j a b c e d n x y v u Q m g f q<|i _ _
inductive Ef(K:ac)(x:V)(y:V)(H:Hp)(Q:VK):Prop
 |mk (p xs i v:_)(_:x=.ref p)(_:y=.int i)(_:SqL K H p xs)(_:atI xs i=MO v)(_:Q v H)
inductive Eg(K:ac)(x:V)(y:V)(H:Hp)(Q:VK):Prop
 |mk (p xs i v:_)(_:x=.ref p)(_:y=.int i)(_:SqT K H p xs)(_:atI xs i=MO v)(_:Q v H)
inductive F4  (x:V)(y:V)(H:Hp)(Q:VK):Prop
 |mk (z i c:_)(_:x=.str z)(_:y=.int i)(_:⇑z<=AY)(_:atI z.cps.toList i=MO c)(_:Q (.str ⟨#[c]⟩) H):F4 x y H Q
def aW:IxR X (Ef X.K):=by
 intro value g a s k H x y v u Q I B A h l;let(p,L,i,z,rfl,rfl,C,E,q):=h;cases B;let(t,rfl):=A;let(f,r,c,M):=I.list C;let(j,b,J,O,G,F):=tU E;let(w,n,e):=r.get J;let D:=⇑r;let N:=mT;let fin:EP X a k Q w s:=(z,H,I,e,q,);by_cases m:0<=i
 .let d:i.toNat=j:=by
   rw[Lr m F]at b;exact dL b
  exact item_listR c.isList m ∅ (by rw[d];simpa using n) fin l
 .let d:(i+(f.toArray.size:Int)).toNat=j:=by
   rw[seqIndex_neg ∅ G]at b;rw[eg,←D];exact dL b
  exact subscriptTail_builtinR (x:=w) c.isList.typeIs Ls.lookup
   (wpAny_getItem_list_neg (Q:=λr o=>r=w/\EP X a k Q r o) c.isList ∅ (by rw[eg] <;> lia) ∅ (by rw[d];simpa using n) (U,fin,)) l
def aM:IxR X (Eg X.K):=by
 intro value c a s d H x y v u Q I k g h l;let(p,E,i,z,rfl,rfl,m,o,q):=h;cases k;let(t,rfl):=g;let(D,r,e,F):=I.tuple m;let(j,B,A,M,L,J):=tU o;let(w,C,b):=r.get A;let n:=⇑r;let G:=mT;let fin:EP X a d Q w s:=(z,H,I,b,q,)
 exact subscriptTail_builtinR (x:=w) e.typeIs slot_tuple_getitem.lookup
  (getItem_tuple (j:=j) (Q:=λr f=>r=w/\EP X a d Q r f) e ∅ ∅ (by rw[eg,←n];exact B) (~~~C) (U,fin,)) l
def tV:IxR X F4:=by
 intro value a d s w H x y v u Q I f e h g;let(z,i,c,rfl,rfl,B,l,q):=h;let(t,rfl):=f;let(A,rfl):=e;let(j,b,o,D,n,m):=tU l;let k:⇑z.cps.toList=⇑z:=by simp[wS]
 rw[k]at b n m;let C:=mT;exact tail_any (Lu s z t) slot_str_getitem.lookup (getItem_str (c:=c) (by
  let r:decide (i < -(2^63:Int))=false:=MY ∅;let p:decide (i ≥ 2^63)=false:=MY ∅;rw[r,p,Db]) (by rw[b];simpa using o) (.str ⟨#[c]⟩,H,I.tok _,(_,U,),q,)) g
def wX(a:M3 zY)(n j:Nat)(u:zY):on (·.setIfInBounds j u) { cls:=.type "list",data:=.seq a.toArray n }={ cls:=.type "list",data:=.seq (a.set j u).toArray n }:=by
 simp[on]
def Inv.lst{b:M3 (AE×Obj)}{c:St}{H:Hp}{s:Ct}{p:AE}{xs:M3 V}(I:Inv X b c H s)(h:H p=MO (.lst xs)) :
  ∃(a:M3 zY)(n:Nat),Vals xs a/\s.heap.get? p=MO { cls:=.type "list",data:=.seq a.toArray n }/\⇑xs<=AY:=by
 let(z,a,n,r,e):=I.hok p _ h;calc(a,n,r,e,z,)
def Inv.lstUpd{a:M3 (AE×Obj)}{g:St}{H:Hp}{s:Ct}{p:AE}{xs ys:M3 V}{c its':M3 zY}{n d:Nat}{f:Obj->Obj}(I:Inv X a g H s)(h:H p=MO (.lst xs))
  (i:s.heap.get? p=MO { cls:=.type "list",data:=.seq c.toArray n }) (hf:f { cls:=.type "list",data:=.seq c.toArray n }={ cls:=.type "list",data:=.seq its'.toArray d }) (r:Vals ys its')(hz:⇑ys<=AY)(t:Nat) :
  Inv X a g (upd H p<|.lst ys) { s with heap:=s.heap.update p f,toks:=t }:=by
 let e:(s.heap.update p f).get? p=MO { cls:=.type "list",data:=.seq its'.toArray d }:=by
  rw[wf f i (by rw[hf] <;> rfl),hf]
 refine I.write (x:=p) (e:=p) (by rw[h];trivial) (.inl U) (λb u j q=>(sK _ _<|FM j).trans q) (_,e,) ?_;calc(hz,its',d,r,e,)
inductive DC  (o:V)(i:V)(v:V)(H:Hp)(Q:(O0)):Prop
 |mk (p xs k j:_)(_:o=.ref p)(_:i=.int k)(_:H p=MO (.lst xs))(_:ixN ⇑xs k=MO j)(_:Q (upd H p<|.lst<|xs.set j v)):DC o i v H Q
def set_list:FK X DC:=by
 intro b s y H o i v F G u Q I B C A h;let(p,z,k,j,rfl,rfl,g,E,q):=h;cases B;let(t,rfl):=C;let(a,n,r,d,D):=I.lst g;let(c,K,m,l):=yj E;let e:=⇑r;let J:=mT;let x:Inv X b y (upd H p<|.lst<|z.set j v) { s with heap:=s.heap.update p (on (·.setIfInBounds j u)) } :=
  I.lstUpd g d (wX a n j u) (r.set A j) (by rw[List.length_set];exact D) s.toks
 by_cases w:0<=k
 .let f:k.toNat=j:=by
   rw[Lr w l]at c;exact dL c
  exact W.ki_setAt d w ∅ (by rw[eg,←e];exact l) (by rw[f];exact(_,x,q,))
 .let f:(k+(a.toArray.size:Int)).toNat=j:=by
   rw[seqIndex_neg ∅ m]at c;rw[eg,←e];exact dL c
  calc W.ki_setBack d ∅ (by rw[eg,←e];exact m) ∅ (by rw[f];exact(_,x,q,))
def tW(lo hi:Option Int)(n:Nat):(Lv lo hi MP n).1=((HT.sIx n 0 lo:Nat):Int)/\(Lv lo hi MP n).2.1=((HT.sIx n n hi:Nat):Int)/\(Lv lo hi MP n).2.2=1:=by
 refine(?_,?_,U,)
 .cases lo with
  |none=>simp[Lv,HT.sIx]
  |some i =>
   simp only[Lv,HT.sIx,yy,show(1:Int)>0 by decide,if_true];by_cases h:i<0
   .simp only[h,if_true] <;> lia
   .simp only[h,if_false] <;> lia
 .cases hi with
  |none=>simp[Lv,HT.sIx]
  |some i =>
   simp only[Lv,HT.sIx,yy,show(1:Int)>0 by decide,if_true];by_cases h:i<0
   .simp only[h,if_true] <;> lia
   .simp only[h,if_false] <;> lia
def rO(a:M3 zY)(lo hi:Option Int):slicePick a.toArray lo hi MP=((a.drop<|HT.sIx ⇑a 0 lo).take<|HT.sIx ⇑a ⇑a hi-HT.sIx ⇑a 0 lo).toArray:=by
 let(d,c,b):=tW lo hi a.toArray.size;unfold slicePick;rw[d,c,b];simp only[sliceRange_one,pick_run,eg] <;> rfl
inductive F5(K:ac)(x:V)(lo:Option Int)(hi:Option Int)(H:Hp)(Q:VK):Prop
 |mk (a xs:_)(_:x=.ref a)(_:SqL K H a xs)(_:∀p,H p=MP->Q (.ref p) (upd H p<|.lst<|yZ xs lo hi))
def yk:SlR X (F5 X.K):=by
 intro f s p H x v u t lo hi w Q I g m j i h;let(a,c,rfl,l,q):=h;cases g;let(n,r,e,k):=I.list l;let d:=⇑r;calc("list",_,Ls.lookup,e.isList.typeIs,?_,);refine wpAny_getItem_list_slice e.isList m j i .none (by simp) ?_ (by rw[eg] <;> lia);rw[rO,←d];calc(.ref ↥s,_,I.laid (t':=s.toks) (o:=.lst<|yZ c lo hi) (λb y q=>am _ q) (pT _) ?_,U,q _<|I.hok.fresh<|pT _,);calc(qu (vi c lo hi) k,_,0,(r.drop<|HT.sIx ⇑c 0 lo).take<|HT.sIx ⇑c ⇑c hi-HT.sIx ⇑c 0 lo,ii _ U,)
def  eM:V->Bool
 | .non=>MQ
 | .bl _=>MQ
 | .int _=>MQ
 | .str _=>MQ
 |_=>MR
def  eqV:V->V->Bool
 | .non,.non=>MQ
 | .bl a,.bl b=>a == b
 | .bl a,.int b=>(if a then 1 else 0) == b
 | .int a,.bl b=>a == (if b then 1 else 0)
 | .int a,.int b=>a == b
 | .str a,.str b=>a == b
 |_,_=>MR
def tX{A:Cm}{s:Ct}{y x:V}{u v:zY}(e:RelV y u)(c:RelV x v)(g:eM y=MQ)(f:eM x=MQ):Nt A s u v (eqV y x):=by
 cases y with
 |non =>
  cases e;cases x with
  |non=>cases c;exact Nl _
  |bl b=>cases c;exact SeqAt.EqAt.none_bool b
  |int b=>obtain⟨t,rfl⟩:=c;exact SeqAt.EqAt.none_int b t
  |str b=>obtain⟨t,rfl⟩:=c;exact SeqAt.EqAt.none_str b t
  |_=>exact MW (show MR=MQ from f) cr
 |bl a =>
  cases e;cases x with
  |non=>cases c;exact SeqAt.EqAt.bool_none a
  |bl b=>cases c;exact SeqAt.EqAt.bool_bool a b
  |int b=>obtain⟨t,rfl⟩:=c;exact SeqAt.EqAt.bool_int a b t
  |str b=>obtain⟨t,rfl⟩:=c;exact SeqAt.EqAt.bool_str a b t
  |_=>exact MW (show MR=MQ from f) cr
 |int a =>
  let(d,rfl):=e;cases x with
  |non=>cases c;exact SeqAt.EqAt.int_none a d
  |bl b=>cases c;exact SeqAt.EqAt.int_bool a d b
  |int b=>obtain⟨t,rfl⟩:=c;exact SeqAt.EqAt.int_int a d b t
  |str b=>obtain⟨t,rfl⟩:=c;exact Oc a d b t
  |_=>exact MW (show MR=MQ from f) cr
 |str a =>
  let(d,rfl):=e;cases x with
  |non=>cases c;exact SeqAt.EqAt.str_none a d
  |bl b=>cases c;exact SeqAt.EqAt.str_bool a d b
  |int b=>obtain⟨t,rfl⟩:=c;exact Ob a d b t
  |str b=>obtain⟨t,rfl⟩:=c;exact SeqAt.EqAt.str_str a d b t
  |_=>exact MW (show MR=MQ from f) cr
 |_=>calc MW (show MR=MQ from g) cr
def  eqU(x:V)(u:zY):Bool:=match u with
 | .none=>eqV .non x
 | .bool b=>eqV (.bl b) x
 | .int i _=>eqV (.int i) x
 | .str z _=>eqV (.str z) x
 |_=>MR
def wY{x y:V}{u:zY}(r:RelV y u)(f:eM y=MQ):eqU x u=eqV y x:=by
 cases y with
 |non=>cases r;rfl
 |bl b=>cases r;rfl
 |int i=>obtain⟨t,rfl⟩:=r;rfl
 |str z=>obtain⟨t,rfl⟩:=r;rfl
 |_=>calc MW (show MR=MQ from f) cr
def nN{x:V}:∀{xs:M3 V}{us:M3 zY},Vals xs us->xs.all eM=MQ->us.any (eqU x)=xs.any λy=>eqV y x
 |_,_,.nil,_=>rfl
 |y :: xs,u :: us,.cons r t,f=>by
  rw[lY,wh]at f;rw[mq,mq,wY r f.1,nN t f.2]
def jD{A:Cm}{s:Ct}{x:V}{v:zY}(b:RelV x v)(c:eM x=MQ):∀{xs:M3 V}{us:M3 zY},Vals xs us->xs.all eM=MQ->∀u∈us,Nt A s u v (eqU x u)
 |_,_,.nil,_=>λu a=>by cases a
 |y :: xs,u :: us,.cons r t,f=>λd a=>by
  rw[lY,wh]at f;rcases cZ.mp a with rfl|a
  .rw[wY r f.1];exact tX r b f.1 c
  .exact jD b c t f.2 d a
def  inV(x:V)(xs:M3 V):Bool:=xs.any λy=>eqV y x
inductive rIn(K:ac)(neg:Bool)(x:V)(y:V)(H:Hp)(Q:VK):Prop
 |mk (p xs:_)(_:y=.ref p)(_:(SqL K H p xs\/SqT K H p xs))(_:eM x=MQ)(_:xs.all eM=MQ)(_:Q (.bl (if neg then !inV x xs else inV x xs)) H)
def sJ:OpR X (K2 .In) (rIn X.K MR):=by
 intro g s k H x y v u Q I e i h;let(p,l,rfl,b,f,fs,q):=h;cases i;rcases b with b|b
 .let(a,r,c,j):=I.list b;calc SeqAt.in_listAt (eqU x) c.isList (λw d=>jD e f r fs w<|~~~d) (.bl _,H,I,U,?_,);rw[show a.toArray.any (eqU x)=a.any (eqU x) by simp,nN r fs];exact q
 .let(a,r,c,j):=I.tuple b;calc SeqAt.in_tupleAt (eqU x) c (λw d=>jD e f r fs w<|~~~d) (.bl _,H,I,U,?_,);rw[show a.toArray.any (eqU x)=a.any (eqU x) by simp,nN r fs];calc q
def nO:OpR X (K2 .NotIn) (rIn X.K MQ):=by
 intro g s k H x y v u Q I e i h;let(p,l,rfl,b,f,fs,q):=h;cases i;rcases b with b|b
 .let(a,r,c,j):=I.list b;calc SeqAt.notIn_listAt (eqU x) c.isList (λw d=>jD e f r fs w<|~~~d) (.bl _,H,I,U,?_,);rw[show a.toArray.any (eqU x)=a.any (eqU x) by simp,nN r fs];exact q
 .let(a,r,c,j):=I.tuple b;calc SeqAt.notIn_tupleAt (eqU x) c (λw d=>jD e f r fs w<|~~~d) (.bl _,H,I,U,?_,);rw[show a.toArray.any (eqU x)=a.any (eqU x) by simp,nN r fs];calc q
def au:iM X (.builtin "len") (λxs H Q=>∃p ys,xs=[.ref p]/\(SqL X.K H p ys\/SqT X.K H p ys)/\Q (.int ⇑ys) H):=by
 intro f s j H xs k Q I r h;let(p,ys,rfl,b,q):=h;let(u,rfl,g):=vals1 r;cases g;let l:=mT;rcases b with b|b
 .let(e,c,d,i):=I.list b;let a:=⇑c;exact Calls.call_len_list d.isList (by simp only[eg] <;> lia) (.int ⇑ys,H,I.tok _,(s.toks+1,by rw[eg,a],),q,)
 .let(e,c,d,i):=I.tuple b;let a:=⇑c;exact len_tuple d (by simp only[eg] <;> lia) (.int ⇑ys,H,I.tok _,(s.toks+1,by rw[eg,a],),q,)
def fz:iM X (.builtin "len") (λxs H Q=>∃z,xs=[.str z]/\⇑z<=AY/\Q (.int ⇑z) H):=by
 intro a s b H xs c Q I r h;let(z,rfl,d,q):=h;let(u,rfl,t,rfl):=vals1 r;let e:=mT;calc len_str ∅ (.int ⇑z,H,I.tok _,(_,U,),q,)
def fA:iM X (.type "list") (λxs H Q=>∃p ys,xs=[.ref p]/\(SqL X.K H p ys\/SqT X.K H p ys)/\∀l,H l=MP->Q (.ref l) (upd H l<|.lst ys)):=by
 intro k s A H xs C Q I r h;let(p,ys,rfl,j,q):=h;let(u,rfl,B):=vals1 r;cases B
 let fin:∀(a:M3 zY),Vals ys a->⇑ys<=AY->∀(c:AU)(f:Nat),(∀b z,s.heap.get? b=MO z->c.get? b=MO z) ->
   c.get? ↥s=MO { cls:=.type "list",dict:=MP,data:=.seq a.toArray f,slots:=#[] }->EP X k A Q (.ref ↥s) { s with heap:=c }:=λa d i c f g e =>
  (.ref ↥s,_,I.laid (t':=s.toks) g (pT _) (show eK X.prog X.w _ c _ (.lst ys) from(i,a,f,d,e,)),U,q _<|I.hok.fresh<|pT _,)
 rcases j with j|j
 .let(a,d,t,i):=I.list j;let m:=⇑d;let(o,v,y,n,x):=t.isList;exact Lw p (.inl U) v y x (λc f g e=>fin a d i c f g e) (by simp only[eg] <;> lia)
 .let(a,d,t,i):=I.tuple j;let m:=⇑d;let(o,v,y,n,x):=t;exact Lw p (.inr U) v y x (λc f g e=>fin a d i c f g e) (by simp only[eg] <;> lia)
def  tyV(K:ac)(T:String)(x:V)(H:Hp):Prop:=match x with
 | .str _=>T = "str"
 | .int _=>T = "int"
 | .ref p=>(T = "list" /\ ∃b,SqL K H p b)\/(T = "tuple" /\ ∃o,K.lookup p=MO o/\o.cls=.type "tuple" /\ o.dict=MP) \/
   (T = "dict" /\ ((∃a,H p=MO (.dK a))\/∃a,H p=MO (.dT a)))\/(T = "set" /\ ∃S n,H p=MO (.set S n))
 |_=>False
def Au{f:M3 (AE×Obj)}{m:St}{H:Hp}{s:Ct}{T:String}{x:V}{v:zY}(I:Inv X f m H s)(r:RelV x v)(ty:tyV X.K T x H) :
  s.TypeIs v T/\∀a,v=.ref a->∃l,s.heap.get? a=MO l/\l.dict=none:=by
 cases x with
 |str z =>
  let(t,rfl):=r;cases (show T = "str" from ty);exact⟨Lu s z t,λ_ e=>nomatch e⟩
 |int i =>
  let(t,rfl):=r;cases (show T = "int" from ty);exact⟨typeIs_int s i t,λ_ e=>nomatch e⟩
 |ref p =>
  cases r;rcases ty with⟨rfl,y,q⟩|⟨rfl,o,b,u,g⟩|⟨rfl,b⟩|⟨rfl,S,n,b⟩
  .let(w,_,k,_):=I.list q;calc(k.isList.typeIs,λa e=>?_,);cases e;let(o,n,e,c,g,_):=k;exact(o,e,g,)
  .refine((o,I.kIn p o b,u,),λa e=>?_,);cases e;exact(o,I.kIn _ o b,g,)
  .let z:∃o,s.heap.get? p=MO o/\o.ExactDict:=by
    rcases b with⟨j,b⟩|⟨j,b⟩
    .let(_,_,_,_,o,_,_,e,d,_):=I.hok p _ b;exact(o,e,d,)
    .let(_,_,_,_,o,_,_,e,d,_):=I.hok p _ b;exact(o,e,d,)
   let(o,e,d):=z;calc((o,e,d.1,),λa h=>?_,);cases h;exact(o,e,d.2.1,)
  .let(o,_,_,_,e,d,_):=I.hok p _ b;calc((o,e,d.1,),λa h=>?_,);cases h;exact(o,e,d.2.1,)
 |_=>calc ut ty
def  HD(K:ac)(T:String)(r:V->M3 V->Hp->VK->Prop)(to:TE):TE:=λb H Q=>to b H λx a=>tyV K T x a/\r x [] a Q
def  tBM(K:ac)(T:String)(r:V->M3 V->Hp->VK->Prop)(to:TE)(t:TA):TE:=λa H Q=>to a H λx b=>tyV K T x b/\t a b λc d=>r x c d Q
variable{o e:Ej}{es:M3 Ej}{to:TE}{t:TA}{name:Str}{apos gy:Pos}{T id:String}{r:V->M3 V->Hp->VK->Prop}
def Eh(k:PlainAttrs T)(b:Slot T name id)(c:typeOf (.builtin id)=pure (.type "method_descriptor")) (hm:MtR X id r)(l:PE X o to)
  (i:K9 o name X.env (eval o X.env)=eval o X.env:=by rfl)(q:(apos.endLine == gy.line)=true:=by rfl):PE X (.Call (.Attribute o name apos) [] [] gy) (HD X.K T r to):=by
 intro a s d H Q I h;calc wpAny_Call_method0_late i q<|thn (l a s d H _ I h) λv g (x,p,f,e,ty,j,)=>?_;let(n,m):=Au f e ty;calc(T,id,k,b,c,n,m,Oj U<|PySem.evalArgs_none<|hm a g d p x [] v [] Q f e .nil j,)
def bx(y:PlainAttrs T)(b:Slot T name id)(d:typeOf (.builtin id)=pure (.type "method_descriptor")) (hm:MtR X id r)(A:PE X o to)(B:PA X (e :: es) t)
  (q:K9 o name X.env (eval o X.env)=eval o X.env:=by rfl)
  (k:((Ey gy<|EX (e :: es) X.env).all (λx=>!x.1) && (Lx gy<|Ly [] X.env).all (λx=>x.1.isSome)
   && decide (⇑(e :: es)+⇑([]:M3 Keyword)+(if ([]:M3 Keyword).isEmpty then 0 else 1)<30))=true:=by rfl)
  (L:(apos.endLine == gy.line)=true:=by rfl)(z:EX (e :: es) X.env=(MR,eval e X.env) :: EX es X.env:=by rfl)(J:(Ey gy<|EX es X.env).any (·.1)=false:=by rfl) :
  PE X (.Call (.Attribute o name apos) (e :: es) [] gy) (tBM X.K T r to t):=by
 intro a s c H Q I h;calc wpAny_Call_method_late q k L U<|thn (A a s c H _ I h) λv n (x,G,i,f,ty,w,)=>?_;let(D,C):=Au i f ty;calc(T,id,y,b,d,D,C,?_,);let g:=B gy a n c G _ i w;rw[z]at g⊢;refine Oj (by show(MR || (Ey gy<|EX es X.env).any (·.1))=MR;rw[J] <;> rfl) (NB ?_);calc thn g λl m (j,F,E,p,u,)=>hm a m c F x j v l Q E f p u
end
def  MtM(X:Cx)(e:String)(r:V->M3 V->Hp->VK->Prop):Prop :=
 ∀(a:M3 (AE×Obj))(s:Ct)(b:St)(H:Hp)(x:V)(c:M3 V)(v:zY)(d:M3 zY)(Q:VK),Inv X a b H s->RelV x v->Vals c d->r x c H Q ->
  D8 (model X.prog X.w) X.A (call (.builtin e) (v :: d)) (EP X a b Q) X.xe s
def Vals.one:∀{x:V}{us:M3 zY},Vals [x] us->∃u,us=[u]/\RelV x u:=vals1
def Vals.two:∀{x y:V}{us:M3 zY},Vals [x,y] us->∃u v,us=[u,v]/\RelV x u/\RelV y v:=vals2
def Vals.zero:∀{us:M3 zY},Vals [] us->us=[]
 |_,.nil=>rfl
def Vals.reverse{xs:M3 V}{us:M3 zY}(h:Vals xs us):Vals xs.reverse us.reverse:=by
 induction h with
 |nil=>exact .nil
 |cons r t a=>rw[OR,OR];calc Vals.append a<|.cons r .nil
section
variable{MT:M3 (AE×Obj)}{σ:St}{H:Hp}{s:Ct}{l b:AE}{xs ys zs:M3 V}
def Inv.lset{a its':M3 zY}{n:Nat}{f:Array zY->Array zY}{t':Nat}(I:Inv X MT σ H s)(g:H l=MO (.lst xs))
  (e:s.heap.get? l=MO { cls:=.type "list",data:=.seq a.toArray n }) (hf:f a.toArray=its'.toArray)(b:Vals ys its')(hz:⇑ys<=AY) :
  Inv X MT σ (upd H l<|.lst ys) { s with heap:=s.heap.update l<|on f,toks:=t' }:=by
 let q:=PySem.IsL.update e f;rw[hf]at q;refine I.write (x:=l) (e:=l) (by rw[g];exact trivial) (.inl U) (λh u d c=>(sK s.heap (on f)<|FM d).trans c) (_,q,) ?_;calc(hz,its',_,b,q,)
def Inv.lnew{a:M3 zY}{t':Nat}(I:Inv X MT σ H s)(b:Vals ys a)(hz:⇑ys<=AY) :
  Inv X MT σ (upd H ↥s<|.lst ys) { s with heap:=s.heap.push { cls:=.type "list",data:=.seq a.toArray },toks:=t' } :=
 I.laid (λ_ _ q=>am _ q) (pT _) (hz,a,0,b,ii _ U,)
def Inv.fresh(I:Inv X MT σ H s):H ↥s=none:=I.hok.fresh<|pT _
def Inv.lstM(I:Inv X MT σ H s)(b:H l=MO (.lst xs)):⇑xs<=AY/\∃(a:M3 zY)(n:Nat),Vals xs a/\⇑xs=⇑a/\s.heap.get? l=MO { cls:=.type "list",data:=.seq a.toArray n }:=by
 let(z,a,n,r,e):=I.hok l _ b;calc(z,a,n,r,⇑r,e,)
def Aw{n:Nat}(h:n<=AY):NC n=false:=by
 unfold NC;calc MY ∅
end
inductive ym  (x:V)(vs:M3 V)(H:Hp)(Q:VK):Prop
 |mk (l xs y:_)(_:x=.ref l)(_:vs=[y])(_:H l=MO (.lst xs))(_:⇑xs<AY)(_:Q .non (upd H l<|.lst<|xs++[y])):ym x vs H Q
def bW:MtM X "list.append" ym:=by
 intro c s i H x k v m Q I d f h;let(l,j,y,rfl,rfl,b,o,q):=h;cases d;let(u,rfl,g):=f.one;let(z,a,n,r,p,e):=I.lstM b;refine Lz F.slot_list_append (_,e,U,) F.entry_list_append (F.args_list_append_2 _ _) (PySem.list_append l a.toArray n u (by rw[eg];lia)) (e,?_,);refine(.non,_,I.lset (its':=a++[u]) b e (by simp) (r.append<|.cons g .nil) ?_,U,q,);rw[dV,hQ];lia
inductive yn  (x:V)(vs:M3 V)(H:Hp)(Q:VK):Prop
 |mk (l b xs zs:_)(_:x=.ref l)(_:vs=[.ref b])(_:H l=MO (.lst xs))(_:H b=MO (.lst zs))(_:⇑xs+⇑zs<=AY)(_:Q .non (upd H l<|.lst<|xs++zs)):yn x vs H Q
def oR:MtM X "list.extend" yn:=by
 intro g s A H x E v G Q I i j h;let(l,b,D,B,rfl,rfl,f,p,J,q):=h;cases i;let(u,rfl,k):=j.one;cases k;let(z,a,n,r,K,e):=I.lstM f;let(C,c,o,m,y,t):=I.lstM p;let d:a.toArray.size+c.toArray.size<=AY:=by rw[eg,eg];lia
 let w:¬ (!a.toArray.isEmpty && NC (a.toArray.size+c.toArray.size))=true:=by
  rw[Aw d,Nf];exact cr
 refine Lz F.slot_list_extend (_,e,U,) F.entry_list_extend (F.args_list_extend_2 _ _)
  (AutoSeq1.list_extend_list_list_0 l a.toArray n b c.toArray o w (by rw[eg];lia) ∅) (e,t,?_,)
 refine(.non,_,I.lset (its':=a++c) f e (by simp) (r.append m) ?_,U,q,);rw[dV];lia
inductive vk  (x:V)(vs:M3 V)(H:Hp)(Q:VK):Prop
 |mk (l xs:_)(_:x=.ref l)(_:vs=[])(_:H l=MO (.lst xs))(_:Q .non (upd H l<|.lst xs.reverse)):vk x vs H Q
def w6:MtM X "list.reverse" vk:=by
 intro d s i H x k v m Q I f g h;let(l,j,rfl,rfl,c,q):=h;cases f;let b:=g.zero;subst b;let(z,a,n,r,o,e):=I.lstM c;refine Lz F.slot_list_reverse (_,e,U,) F.entry_list_reverse (F.args_list_reverse_1 _) (AutoSeq1.list_reverse_list_0 l a.toArray n (by rw[eg];lia)) (e,?_,);refine(.non,_,I.lset (its':=a.reverse) c e (by simp) r.reverse ?_,U,q,);rw[List.length_reverse];lia
inductive F7  (x:V)(y:V)(H:Hp)(Q:VK):Prop
 |mk (l b xs zs:_)(_:x=.ref l)(_:y=.ref b)(_:H l=MO (.lst xs))(_:H b=MO (.lst zs))(_:⇑xs+⇑zs<=AY)(_:∀p,H p=MP->Q (.ref p) (upd H p<|.lst<|xs++zs)):F7 x y H Q
def qv:OpR X (K0 .Add) F7:=by
 intro d s t H x y v u Q I g f h;let(l,b,B,w,rfl,rfl,j,k,D,q):=h;cases g;cases f;let(z,a,n,r,E,e):=I.lstM j;let(A,c,C,i,p,o):=I.lstM k;refine PySem.P.add_list e o ?_ (by rw[eg,eg];lia);let m:a.toArray++c.toArray=(a++c).toArray:=by simp
 rw[m];calc(.ref _,_,I.lnew (t':=s.toks) (r.append i) (by rw[dV];lia),U,q _ I.fresh,)
section
variable{prog:An}{w:zZ}{A:Cm}{E:zY->Ct->Prop}{s:Ct}
end
end _L
namespace Att
open PySem PySem.W PySem.Calls PyProof.Rows
def pU{P:LA}{h:AU}:∀(ns:M3 Int)(vs:M3 zY),WellAll P h vs (ns.map WData.int)->IntsAre vs ns:=by
 intro ns;induction ns with
 |nil =>
  intro vs w;rw[List.map_nil]at w;cases w;exact .nil
 |cons n ns c =>
  intro vs w;rw[gs]at w;cases w with
  |cons a b =>
   cases a;calc .cons _ _<|c _ b
def za{l:OpenLaw}{n:Nat}(t:l.most=MO n){P:LA}{h:AU}{args:M3 WData}{b:M3 zY}
  (k:l.row.toRowW.claim.pre args=MQ)(g:WellAll P h b args) :
  ∃a vs ns,b=[zY.ref a]/\args=[WData.list (ns.map WData.int)]/\h.get? a=MO { cls:=.type "list",data:=.seq vs.toArray }/\IntsAre vs ns/\⇑ns<=n:=by
 let i:WShape.hasAll [] args [.list .int]=true:=(pre_splitW k).1;let j:l.pre.holds [] { args:=args }=true:=(pre_splitW k).2;let(d,r,rfl,w,v):=hasAllW_cons i;obtain rfl:=hasAllW_nil v;let(y,rfl,u):=hasW_list w;let(ns,rfl):=items_int u;let c:⇑ns<=n:=by
  unfold OpenLaw.pre at j;let f:(WTm.not<|.lt (.lit<|.int (n:Int))<|.len<|.arg 0).holds [] { args:=[.list (ns.map .int)] }=true:=by
   let f:=(holds_andW j).1;rw[t]at f;exact f
  let e:=condW_of f<|w_not<|w_lt w_lit<|w_len_list<|w_arg rfl;rw[bQ]at e;refine uO λq=>?_
  let p:(n:Int)<((⇑ns:Nat):Int):=∅
  first
   |(rw[MX p]at e;exact MW e ⋯)
   |(simp at e;lia)
 cases g with
 |cons o m =>
  cases m;cases o with
  |list s x=>calc(_,_,ns,rfl,rfl,s,pU ns _ x,c,)
def zd(l:OpenLaw)(args:M3 WData):l.row.toRowW.claim.post args (.bool MQ) args=true :=
 postW_of (r:=l.row.toRowW) (X:=(MQ == MQ))
  (show WShape.has [] (.bool MQ) .bool=MQ by first|rfl|decide|simp[WShape.has,WShape.arms,WShape.armsAll])
  (show(WTm.eq .res<|.lit<|.bool MQ).value [] { args:=args,res:=MO<|.bool MQ,after:=args }=MO (.bool<|MQ == MQ)from w_eq_bool (w_res rfl) w_lit) rfl
def attach_call{l:OpenLaw}{n:Nat}{q:An}{e:M3 Str}{XP:(Str->Option zY)->AU->Prop}{z:zZ->AU->Prop}{d:DefRec}
  (E:l.most=MO n)(v:d.params.defaults=[])
  (call:∀(w:zZ)(c b:Ct)(k s:Str->Option zY)(i:AE)(o:Obj)(p m g:zY)(a:AE)(vs:M3 zY)(ns:M3 Int),
   Ground q e [] XP w c k s b.heap->z w b.heap ->
   b.heap.get? i=MO o->o.data=.func (docDef d.name d.params d.body d.scope p m g)->b.heap.CodeRec m d.name->k d.name=↑i ->
   b.heap.get? a=MO { cls:=.type "list",data:=.seq vs.toArray }->IntsAre vs ns->⇑ns<=n->b.gens = #[] ->
   K8 (model l.prog w) LB (.call (.ref i) ([.ref a],[],)) (λr s'=>r=.ok (.ret<|.bool MQ)/\OldK b.heap s'.heap/\s'.os=b.os/\AllBare s'.gens) b) :
  WalkO q e XP z l.row.toRowW d [] (λf vs=>PySem.call f vs):=by
 intro w c b k s G Y i o p m g M kV D I x y u H B A R O S P t Q;obtain rfl:M=.none:=Dflts.none y v;obtain rfl:kV=.none:=Dflts.noKw y;let(a,vs,ns,rfl,rfl,N,h,j):=za E O t;calc enter_call<|Li (call w c b k s i o p m g a vs ns G Y D (fd_plain I) x u N h j H) λr s' C=>?_;let(rfl,L,K,J):=C;calc(.inl ⟨.bool MQ,.bool MQ,[],rfl,λ_=>rfl,.bool MQ,zd l _,λ_=>⟨M7,λ_ F=>(nomatch F)⟩⟩,L,K,J,)
section
variable{prog:An}{w:zZ}{A:Cm}{E:zY->Ct->Prop}{s:Ct}{K:Frag}
end
end Att
namespace _L
open PySem PySem.Spec PyProof.Rows
def sM:∀{vs:M3 zY}{ns:M3 Int},IntsAre vs ns->Vals (ns.map pi) vs
 |_,_,.nil=>.nil
 |_,_,.cons n t h=>.cons (t,U,)<|sM h
def  El(H:Hp):Prop:=∀b,H b=MP\/∃o a,H b=MO (.frz o<|.lst a)
def Ax{P:An}{w:zZ}{K:ac}{p G:Str->Option zY}{CX:CXT}{k:Nat}{I a:AE}{Y:Le}{x:Str}{sp:Sp}{c:Ct}{vs:M3 zY}{ns:M3 Int}
  (KX:K.In c.heap)(B:c.heap.Ns B5 p)(f:c.heap.Ns B6 G)(N:∀x:Str,x ≠ "__name__" -> G x=Ce x) (HE:c.heap.NoLimit)(hg:c.gens = #[])
  (E:c.heap.get? a=MO { cls:=.type "list",data:=.seq vs.toArray }) (hi:IntsAre vs ns)(S:⇑ns<=AY)(hr:dJ k LB)
  (F:∀g:AU,K.In g->g.Ns B5 p->aU P w K p g CX k I Y [x] sp)(F8:∀(s:Ct)(u:zY),Lf s Y ([u],[],) [(x,u)])
  (M:∀H:Hp,El H->SqL K H a (ns.map pi)->sp [.ref a] H (λv _=>v=.bl MQ) λ_ _ _=>False)
  (O:∀H e s',CX [] H c (λ_ _ _=>False) e s'->False) :
  K8 (model P w) LB (.call (.ref I) ([.ref a],[],)) (λr s'=>r=.ok (.ret<|.bool MQ)/\OldK c.heap s'.heap/\s'.os=c.os/\AllBare s'.gens) c:=by
 let R:=sM hi;let HF:=⇑hi
 let j:∀H:Hp,El H->SqL K H a (ns.map pi)->HOk P w H c.heap->(∀b,H b≠MP->b=a)->(H a≠MP->K.lookup a=MP) ->
   K8 (model P w) LB (.call (.ref I) ([.ref a],[],)) (λr s'=>r=.ok (.ret<|.bool MQ)/\OldK c.heap s'.heap/\s'.os=c.os/\AllBare s'.gens) c:=by
  intro H T hS A X hK;let Q:∀{b:AE}{o:Obj},c.heap.get? b=MO o->H b=MP->(tQ c.heap H).get? b=MO o:=λe n=>Ab e n
  let L:∀{b:AE}{o:Obj}{t:Array DictEntry}{y:Nat},c.heap.get? b=MO o->o.data=.dict t y->H b=none:=λ{b o t y} e d=>by
   cases q:H b with
   |none=>rfl
   |some u =>
    let J:b=a:=X b (by rw[q];simp);subst J;rw[E]at e;cases e;let d':Data.seq vs.toArray _=Data.dict t y:=d;cases d'
  let i:∀{b:AE}{m:Str->Option zY},c.heap.Ns b m->(tQ c.heap H).Ns b m:=λ{b m} (o,t,y,e,d,r,)=>(o,t,y,Q e<|L e d,d,r,)
  let C:K.In (tQ c.heap H):=λb o e=>Q (KX b o e) (by
   cases q:H b with
   |none=>rfl
   |some u =>
    let J:b=a:=X b (by rw[q];simp);subst J;rw[hK (by rw[q];simp)]at e;cases e)
  let hM:Mod K p (tQ c.heap H):=(C,i B,(G,i f,N,),let ⟨mc,h1,h2⟩:=HE;(mc,i h1,h2,),);let e0:wW P w K p (tQ c.heap H) LB [] c H:=(U,hM,λb o e=>B8 e,Nat.le_of_eq<|yT _ _,trivial,λb f=>MW (show b∈([]:M3 AE)from f) (by simp),A,.of_eq hg,);refine Li ((F _ C<|i B).run LB [] c H ([.ref a],[],) [.ref a] [.ref a] _ _ hr e0 (F8 c<|.ref a) (.cons U .nil) (M H T hS)) λr s' h=>?_
  cases r with
  |error e=>exact(O H e s' h).elim
  |ok fl =>
   cases fl with
   |next=>exact ut h
   |brk=>exact ut h
   |cont=>exact ut h
   |ret u =>
    let(v,H',os,D,un,HG,r',q):=h;let q':v=.bl true:=q;subst q';obtain rfl:u=zY.bool true:=r';calc(U,OldK.of_keep λb o e=>?_,os,D,);cases q:H b with
    |none=>exact un.keep b o e q (by intro z;exact MW (show b∈([]:M3 AE)from z) (by simp)) (by simp)
    |some u =>
     rcases T b with z|⟨ob,xs,z⟩
     .rw[q]at z;cases z
     .let z2:=un.frzs b ob _ z;let(Z,_):=A b _ z;let(e2,_):=HG b _ z2;rw[e]at Z;cases Z;exact e2
 cases hk:K.lookup a with
 |some o =>
  let e:=KX a o hk;rw[E]at e;cases e;refine j (λ_=>MP) (λ_=>.inl U) (.inr (_,vs.toArray,_,hk,U,U,U,by rw[eg,HF];exact S,~~~R,)) (λb u z=>by have l:(MP:Option HO)=MO u:=z;cases l) (λb z=>MW U z) λz=>MW U z
 |none =>
  refine j (λb=>if b=a then MO (.frz { cls:=.type "list",data:=.seq vs.toArray } (.lst<|ns.map pi))else MP) (λb=>?_) (.inl<|.inr ({ cls:=.type "list",data:=.seq vs.toArray },MV U,)) (λb u z=>?_) (λb z=>?_) λ_=>hk
  .by_cases f:b=a
   .exact .inr (_,_,MV f,)
   .exact .inl<|MU f
  .by_cases f:b=a
   .let l:=(MV f).symm.trans z;cases l;subst f;exact(E,by rw[bQ];exact S,vs,_,R,E,)
   .let l:=(MU f).symm.trans z;cases l
  .by_cases f:b=a
   .exact f
   .exact MW (MU f) z
def walk_of{l:W.OpenLaw}{n k:Nat}{q:An}{j:M3 Str}{XP:(Str->Option zY)->AU->Prop}{E:zZ->AU->Prop}{d:DefRec}{K:LA->ac}{CX:zZ->CXT}{sp:zZ->Sp}{x:Str}
  (M:l.most=MO n)(A:n<=AY)(C:d.params.defaults=[])(L:dJ k LB)
  (P:∀(w:zZ)(h:AU),E w h->(K w.params).In h)
  (F:∀(w:zZ)(p:Str->Option zY)(t:AE)(h:AU),(K w.params).In h->h.Ns B5 p->p d.name=↑t ->
   ∃y:Le,(∀(s:Ct)(u:zY),Lf s y ([u],[],) [(x,u)]) /\
    ∀c:AU,(K w.params).In c->c.Ns B5 p->aU l.prog w (K w.params) p c (CX w) k t y [x] (sp w))
  (z:∀(w:zZ)(H:Hp)(a:AE)(ns:M3 Int),⇑ns<=n->El H->SqL (K w.params) H a (ns.map pi)->sp w [.ref a] H (λv _=>v=.bl MQ) λ_ _ _=>False)
  (D:∀(w:zZ)(H:Hp)(s:Ct)(e:zY)(s':Ct),CX w [] H s (λ_ _ _=>False) e s'->False) :
  W.WalkO q j XP E l.row.toRowW d [] (λf vs=>PySem.call f vs):=by
 refine Att.attach_call M C λw J r p mb t o pm cd a0 a vs ns G Y ho hd Z B X m i N=>?_
 let I:=P w _ Y;let(y,O,S):=F w p t _ I G.T.g B;calc Ax I G.T.g G.T.b G.T.builtins G.T.nolimit N X m (qu i A) L S O (λH R Q=>z w H a ns i R Q) λH e s'=>D w H r e s'
def  inClass(s:E1)(j:Nat):E1:=match s with
 | .ClassDef _ _ _ body _ _ _ _ _ _ _=>body.getD j<|.Pass (0,0,0,0,)
 |_=>.Pass (0,0,0,0,)
def  qd(s:E1):Arguments:=match s with
 | .FunctionDef _ a _ _ _ _ _ _ _ _=>a
 |_=>{ posonlyargs:=[],args:=[],vararg:=MP,kwonlyargs:=[],kw_defaults:=[],kwarg:=MP,defaults:=[] }
def  i4(s:E1):M3 E1:=match s with
 | .FunctionDef _ _ b _ _ _ _ _ _ _=>b
 |_=>[]
def  aj(s:E1):Du:=match s with
 | .FunctionDef _ _ _ _ _ _ sc _ _ _=>sc
 |_=>{ kind:=.function,names:=[],isGenerator:=MR,isCoroutine:=MR }
abbrev CX0:CXT:=λ_ _ _ _ _ _=>False
abbrev E0:XK:=λ_ _ _=>False
def bR{X:Cx}:Passes CX0 X E0:=λ_ _ _ _ _ _ _ h=>h.elim
structure Fun(K:ac)(x qual:Str)(st:E1)(f:AE)(fd:Le):Prop where
 ex:∃(oc:zY)(od:Option AE)(kV doc pm:zY)(an:Option AE)(cdv ct:zY)(osl:Array (Option zY)),
  fd=OC x qual (qd st) (i4 st) (aj st) .none kV doc pm an cdv ct/\K.lookup f=MO (oc,od,.func fd,osl,)/\W.codeIn K cdv qual=MQ
 kp:Nk K (.ref f)=MQ
section
variable{P:An}{w:zZ}{K:ac}{mg:Str->Option zY}{base:AU}
def Fun.ok{x b:Str}{st:E1}{f:AE}{i:Le}{N ps:M3 Str}{k:Nat}{sp:Sp}(F:Fun K x b st f i)(S:ar N ps (aj st))(d:∀vs H Q E,sp vs H Q E->⇑vs=⇑ps)
  (j:∀(c:zY)(A:Cm)(a:M3 Env)(s:Ct)(H:Hp)(vs:M3 V)(Q:VK)(E:XK),dJ k (A.deeper<|envOfC b (aj st) ↥s f c)->sp vs H Q E ->
   ∃t,PSs (bj CX0 P w K mg base N b (aj st) f c A a s H E).nox (i4 st) t/\t { nx:=λ_ H'=>Q .non H',rt:=Q } (start N vs) H):aU P w K mg base CX0 (k+1) f i ps sp:=by
 let(u,r,kV,o,p,y,c,v,n,rfl,l,g):=F.ex;refine DB l g S d λA a s H vs Q E m e=>?_
 let(t,h,q):=j c A a s H vs Q E m e;calc(t,h.nox,q,)
def Fun.binds{x a:Str}{st:E1}{f:AE}{i:Le}{ps:M3 Str}(F:Fun K x a st f i)
  (h:∀(kV b d:zY)(g:Option AE)(c e:zY)(us:M3 zY),⇑us=⇑ps->Lg (OC x a (qd st) (i4 st) (aj st) .none kV b d g c e) (us,[],)=pure (ps.zip us)):Binds K i ps []:=by
 let(m,l,kV,b,d,g,c,e,j,rfl,n,k):=F.ex;calc .all<|h kV b d g c e
def fun_mk{x a:Str}{st:E1}{f:AE}{m:zY}{j i:Option AE}{e:Array (Option zY)}{kV d g b h:zY}(l:K.lookup f=MO (m,j,.func<|OC x a (qd st) (i4 st) (aj st) .none kV d g i b h,e,))
  (c:W.codeIn K b a=MQ)(k:Nk K (.ref f)=MQ):Fun K x a st f (OC x a (qd st) (i4 st) (aj st) .none kV d g i b h):=((m,j,kV,d,g,i,b,h,e,U,l,c,),k,)
end
def aD{n:Nat}(h:n<=1000):n<AY:=uk h ⋯
variable{X:Cx}
def pv(i:Nat){x:Str}{pos:Pos}(d:X.N[i]?=MO x:=by rfl)(b:Vis X.env.scope x:=by first|exact bv U|exact pc (bv U)|exact pc (pc U))(c:(x == ("__debug__" : Str))=false:=by decide)
  (a:(x == ("__classdict__" : Str))=false:=by decide):PE X (.Name x pos) (Ac i):=D1 d b c a
def bI{A B:Prop}(h:B):if MR=MQ then A else B:=by
 rw[MU cr];calc h
def eU{A B:Prop}(h:A):if MQ=MQ then A else B:=by
 rw[MV U];calc h
def bK{c A B:Prop} [Decidable c] (b:c->A)(a:¬ c->B):if c then A else B:=by
 by_cases h:c
 .rw[MV h];exact b h
 .rw[MU h];calc a h
def nP{c A B:Prop} [Decidable c] (a:c)(h:B):if (!decide c)=MQ then A else B:=by
 rw[MX a];calc bI h
def  aq(H H':Hp):Prop:=∀b o,H b=MO o->H' b=MO o
def aq.refl(H:Hp):aq H H:=λ_ _ h=>h
def aq.trans{H e d:Hp}(a:aq H e)(b:aq e d):aq H d:=λc o h=>b c o<|a c o h
def aq.free{H H':Hp}(e:aq H H'){l:AE}(h:H' l=Option.none):H l=Option.none:=by
 cases q:H l with
 |none=>rfl
 |some o =>
  rw[e l o q]at h;cases h
def aq.seq{K:ac}{H H':Hp}{a:AE}{xs:M3 V}(e:aq H H')(h:SqL K H a xs):SqL K H' a xs:=by
 rcases h with(h|⟨o,h⟩)|h
 .exact .inl<|.inl<|e _ _ h
 .exact .inl<|.inr (o,e _ _ h,)
 .exact .inr h
abbrev Pr:=Int×Int
def  inR(n:Int)(p:Pr):Bool:=MS (p.1<=n) && decide (n<=p.2)
def  inP(ps:M3 Pr)(n:Int):Bool:=ps.any<|inR n
structure Apart(R:M3 Pr):Prop where
 le:∀p∈R,p.1<=p.2
 gap:R.Pairwise λp q=>p.2+2<=q.1
def dZ(R:M3 Pr)(p:Pr)(n:Int):inP (R++[p]) n=(inP R n || inR n p):=by
 unfold inP;rw[List.any_append];simp
def Apart.snoc{R:M3 Pr}{p:Pr}(h:Apart R)(d:p.1<=p.2)(f:∀r∈R,r.2+2<=p.1):Apart (R++[p]) where
 le:=λq c=>by
  rcases eA.mp c with c|c
  .exact h.le q c
  .let e:q=p:= ~~~c
   rw[e];exact d
 gap:=by
  rw[Oz];calc(h.gap,List.pairwise_singleton _ _,λa i b g=>?_,);let e:b=p:= ~~~g
  rw[e];calc f a i
def Apart.init{R:M3 Pr}{p:Pr}(h:Apart (R++[p])):Apart R/\p.1<=p.2/\∀r∈R,r.2+2<=p.1:=by
 let g:=h.gap;rw[Oz]at g;calc((λq b=>h.le q<|fE _ b,g.1,),h.le p (by simp),λr a=>g.2.2 r a p (by simp),)
structure kO(R qs:M3 Pr):Prop where
 ap:Apart R
 mem:∀n,inP R n=inP qs n
 cov:∀p∈qs,p.1<=p.2->∃r∈R,r.1<=p.1/\p.2<=r.2
 low:∀r∈R,∃q∈qs,r.1=q.1
def kO.nil:kO [] []:=⟨((λp a=>by cases a),M7,),λ_=>U,(λp a=>by cases a),(λr b=>by cases b)⟩
def kO.skip{R qs:M3 Pr}{p:Pr}(h:kO R qs)(d:p.2<p.1):kO R (qs++[p]) where
 ap:=h.ap
 mem:=λn=>by
  rw[dZ,h.mem n];let e:inR n p=false:=by
   unfold inR;rw[wZ];simp only[decide_eq_false_iff_not];lia
  rw[e,Db]
 cov:=λq a b=>by
  rcases eA.mp a with a|a
  .exact h.cov q a b
  .let e:q=p:= ~~~a
   rw[e]at b;lia
 low:=λr c=>by
  let(q,a,e):=h.low r c;calc(q,fE _ a,e,)
def kO.join{R qs:M3 Pr}{l p:Pr}{m:Int}(h:kO (R++[l]) qs)(f:l.1<=p.1)(u:p.1<=l.2+1)(t:p.1<=p.2)(s:m=max l.2 p.2):kO (R++[(l.1,m)]) (qs++[p]):=by
 let(k,v,j):=h.ap.init;let o:l.2<=m/\p.2<=m/\(m=l.2\/m=p.2):=∅
 refine(k.snoc (by show l.1<=m;lia) j,λn=>?_,λq b d=>?_,λr a=>?_,)
 .rw[dZ,dZ,←h.mem n,dZ,Og]
  congr 1
  unfold inR;rw[py];simp only[Bool.or_eq_true,wh,decide_eq_true_eq];lia
 .rcases eA.mp b with b|b
  .let(r,a,c,i):=h.cov q b d;rcases eA.mp a with a|a
   .exact(r,fE _ a,c,i,)
   .let e:r=l:= ~~~a
    subst e;exact((r.1,m),by simp,c,by show q.2<=m;lia,)
  .let e:q=p:= ~~~b
   subst e;exact((l.1,m),by simp,f,by show q.2<=m;lia,)
 .rcases eA.mp a with a|a
  .let(q,b,e):=h.low r<|fE _ a;exact(q,fE _ b,e,)
  .let e:r=(l.1,m):= ~~~a
   let(q,b,g):=h.low l (by simp);calc(q,fE _ b,by rw[e];exact g,)
def kO.add{R qs:M3 Pr}{p:Pr}(h:kO R qs)(g:p.1<=p.2)(f:∀r∈R,r.2+2<=p.1):kO (R++[p]) (qs++[p]):=by
 refine(h.ap.snoc g f,λn=>by rw[dZ,dZ,h.mem n],λq b d=>?_,λr a=>?_,)
 .rcases eA.mp b with b|b
  .let(r,a,c):=h.cov q b d;exact(r,fE _ a,c,)
  .let e:q=p:= ~~~b
   subst e;exact(q,by simp,pr _,pr _,)
 .rcases eA.mp a with a|a
  .let(q,b,e):=h.low r a;exact(q,fE _ b,e,)
  .let e:r=p:= ~~~a
   calc(p,by simp,by rw[e],)
def Apart.last{R:M3 Pr}{l:Pr}(h:Apart (R++[l])){c:Int}(b:l.2+2<=c):∀r∈R++[l],r.2+2<=c:=λr a=>by
 let(g,f,d):=h.init;rcases eA.mp a with a|a
 .let:=d r a;lia
 .let e:r=l:= ~~~a
  rw[e];calc b
def Ay{ps qs:M3 Pr}(h:ps.Perm qs)(n:Int):inP ps n=inP qs n:=by
 unfold inP;rw[py,iv,iv];calc(λ(x,a,e,)=>(x,h.mem_iff.mp a,e,),λ(x,a,e,)=>(x,h.mem_iff.mpr a,e,),)
def kO.perm{R qs ps:M3 Pr}(h:kO R qs)(p:qs.Perm ps):kO R ps:=(h.ap,λn=>(h.mem n).trans<|Ay p n,λq a=>h.cov q<|p.mem_iff.mpr a,λr b=>let ⟨q,a,e⟩:=h.low r b;(q,p.mem_iff.mp a,e,),)
def  Callee(P:An)(w:zZ)(K:ac)(b:Str->Option zY)(a:AU)(k:Nat)(x:Str)(ps:M3 Str)(sp:Sp):Prop :=
 ∃f c,aU P w K b a CX0 k f c ps sp/\Binds K c ps []/\Nk K (.ref f)=MQ/\b x=↑f
def Callee.mono{P:An}{w:zZ}{K:ac}{b:Str->Option zY}{a:AU}{j k:Nat}{x:Str}{ps:M3 Str}{sp:Sp}(C:Callee P w K b a j x ps sp)(h:j<=k):Callee P w K b a k x ps sp:=by
 let(f,c,F,r):=C;calc(f,c,F.mono h,r,)
variable{pos:Pos}
section
variable{k:Nat}{x:Str}{ps:M3 Str}{sp:Sp}{e:Ej}{es:M3 Ej}{t:TA}{p:Pos}
def  tFn(sp:Sp)(t:TA):TE:=λa H Q=>t a H λb c=>sp b c Q E0
def aQ(C:Callee X.prog X.w X.K X.mg X.base k x ps sp)(o:dJ k X.A)(r:Gl X x)(u:PA X (e :: es) t)(j:(x == ("__debug__" : Str))=false:=by decide)
  (he:EX (e :: es) X.env=(MR,eval e X.env) :: EX es X.env:=by rfl)(i:(Ey pos<|EX es X.env).any (·.1)=false:=by rfl):PE X (.Call (.Name x p) (e :: es) [] pos) (tFn sp t):=by
 let(f,y,F,b,n,m):=C;let h:=Cg (E:=E0) (dvs:=[]) (ds:=[]) (p:=p) F o r m n b .nil bR u j he i;intro d s g H Q I q;calc h d s g H Q I ?_;let l:t g H λa c=>sp a c Q E0:=q
 let v:(λ(a:M3 V)(c:Hp)=>sp (a++[]) c Q E0)=λa c=>sp a c Q E0:=by
  funext a c
  rw[hY]
 show t g H λa c=>sp (a++[]) c Q E0
 rw[v];calc l
end
def  a9(t u:TS):TS:=λD c H=>∃M:OZ,t { D with nx:=M } c H/\∀a b,M a b->u D a b
def aw{X:Cx}{st:E1}{rest:M3 E1}{t u:TS}(i:PS X st t)(h:PSs X rest u):PSs X (st :: rest) (a9 t u):=by
 intro c s f H D I (M,a,b,);calc Hl<|thn (i c s f H { D with nx:=M } I a) λfl g q=>?_;cases fl with
 |next=>obtain⟨d,e,j,q⟩:=q;exact h c g d e D j<|b d e q
 |ret v=>exact q
 |brk=>exact q
 |cont=>calc q
inductive EqI(K:ac)(H:Hp):V->V->Bool->Prop where
 |flat {x y:V}(fx:eM x=MQ)(fy:eM y=MQ):EqI K H x y (eqV x y)
 |same (a:AE):EqI K H (.ref a) (.ref a) MQ
 |tup {a b:AE}{xs ys:M3 V}(ha:SqT K H a xs)(hb:SqT K H b ys)(fx:xs.all eM=MQ)(fy:ys.all eM=MQ):EqI K H (.ref a) (.ref b) (MS (⇑xs=⇑ys) && (lc eqV xs ys).all id)
def Az:∀{x:V},eM x=MQ->eqV x x=MQ
 | .non,_=>rfl
 | .bl b,_=>beq_self_eq_true b
 | .int i,_=>beq_self_eq_true i
 | .str z,_=>beq_self_eq_true z
def qw:∀{xs:M3 V},xs.all eM=MQ->(lc eqV xs xs).all id=MQ
 | [],_=>rfl
 |x :: xs,h=>by
  rw[lY,wh]at h;rw[Op,lY,qw h.2,Bool.and_true];calc Az h.1
def mP{f:Nat->Bool}:∀{xs ys:M3 V},(∀j x y,xs[j]?=MO x->ys[j]?=MO y->f j=eqV x y)->(gl<|min ⇑xs ⇑ys).all f=(lc eqV xs ys).all id
 | [],ys,_=>by simp
 |x :: xs,[],_=>by simp
 |x :: xs,y :: ys,h=>by
  let c:=mP (f:=λj=>f<|j+1) (xs:=xs) (ys:=ys) λj a b g e=>h (j+1) a b (~~~g)<|~~~e
  let i:=h 0 x y U U;let d:min ⇑(x :: xs) ⇑(y :: ys)=min ⇑xs ⇑ys+1:=by simp only[gv];lia
  rw[d,List.range_succ_eq_map,lY,Op,lY,List.all_map,i];show(eqV x y && (gl<|min ⇑xs ⇑ys).all (λj=>f<|j+1))=_;rw[c];rfl
section
variable{MT:M3 (AE×Obj)}{σ:St}{H:Hp}{s:Ct}
def EqI.at{A:Cm}{x y:V}{u v:zY}{b:Bool}(e:EqI X.K H x y b)(I:Inv X MT σ H s)(W:A.units+1<Lb)(l:RelV x u)(k:RelV y v):Nt A s u v b:=by
 cases e with
 |flat i m=>exact tX l k i m
 |same a =>
  cases (show u=zY.ref a from l);cases (show v=zY.ref a from k);exact Nl _
 | @tup a b xs ys ha hb i m =>
  cases (show u=zY.ref a from l);cases (show v=zY.ref b from k);by_cases z:a=b
  .subst z;let e:=I.tuple_inj ha hb;subst e;rw[qw i,MX U];exact Nl _
  .let(d,r,p,_):=I.tuple ha;let(c,q,D,_):=I.tuple hb;let F:=⇑r;let E:=⇑q;let M:=Oi (A:=A) (e:=λj=>match d[j]?,xs[j]?,ys[j]? with|_,MO x,MO y=>eqV x y|_,_,_=>MR) (show s.heap.IsTuple a d.toArray from p) (show s.heap.IsTuple b c.toArray from D) ∅ (λj f L=>by
    let J:j<⇑d:= ~~~f
    let G:j<⇑c:= ~~~L
    let o:xs[j]?=MO xs[j]:=KG ∅;let n:ys[j]?=MO ys[j]:=KG ∅;let(w,h,C):=r.get o;let(t,g,B):=q.get n;let Q:d.toArray[j]=w:=by
     have:=KG J;rw[this]at h;simpa using dL h
    let P:c.toArray[j]=t:=by
     have:=KG G;rw[this]at g;simpa using dL g
    rw[Q,P];rw[o,n];let O:eM xs[j]=true:=gX.mp i _<|nL _;let N:eM ys[j]=true:=gX.mp m _<|nL _;exact tX C B O N)
   let f:=M4 z M;let T:((gl<|min d.toArray.size c.toArray.size).all λj=>match d[j]?,xs[j]?,ys[j]? with|_,MO x,MO y=>eqV x y|_,_,_=>MR)=(lc eqV xs ys).all id:=by
    let R:min d.toArray.size c.toArray.size=min ⇑xs ⇑ys:=by simp only[eg];lia
    rw[R];exact mP λj x y h g=>by rw[h,g]
   rw[T]at f;let S:(d.toArray.size == c.toArray.size)=MS (⇑xs=⇑ys):=by
    simp only[eg,←F,←E];exact Bool.beq_eq_decide_eq _ _
   rw[S,Bool.and_comm]at f;calc f
end
inductive vm(K:ac)(neg:Bool)(x:V)(y:V)(H:Hp)(Q:VK):Prop
 |mk (a b xs ys:_)(_:x=.ref a)(_:y=.ref b)(_:SqL K H a xs)(_:SqL K H b ys)(_:((⇑xs≠⇑ys/\Q (.bl neg) H)\/(⇑xs=⇑ys/\∃f:Nat->Bool,(∀j x y,xs[j]?=MO x->ys[j]?=MO y->EqI K H x y (f j))/\Q (.bl (if neg then !(gl ⇑xs).all f else(gl ⇑xs).all f)) H)))
def AA{b:M3 (AE×Obj)}{l:St}{H:Hp}{s:Ct}{A:Cm}{xs ys:M3 V}{a its':M3 zY}{f:Nat->Bool}(I:Inv X b l H s)(u:A.units+1<Lb)(r:Vals xs a)(e:Vals ys its')
  (hf:∀j x y,xs[j]?=MO x->ys[j]?=MO y->EqI X.K H x y (f j)):∀j (k:j<a.toArray.size)(i:j<its'.toArray.size),Nt A s a.toArray[j] its'.toArray[j] (f j):=λj k i=>by
 let t:j<⇑a:= ~~~k
 let q:j<⇑its':= ~~~i
 let B:=⇑r;let z:=⇑e;let d:xs[j]?=MO xs[j]:=KG ∅;let c:ys[j]?=MO ys[j]:=KG ∅;let(n,h,p):=r.get d;let(m,g,o):=e.get c;let w:a.toArray[j]=n:=by
  let:=KG t;rw[this]at h;simpa using dL h
 let v:its'.toArray[j]=m:=by
  let:=KG q;rw[this]at g;simpa using dL g
 rw[w,v];calc(hf j _ _ d c).at I u p o
def qx{k:Nat}(o:dJ k X.A):OpR X (K2 .Eq) (vm X.K MR):=by
 intro i s B H x y v u Q I n m h;let(a,b,l,C,rfl,rfl,z,w,h):=h;cases (show v=zY.ref a from n);cases (show u=zY.ref b from m);let(c,r,p,_):=I.list z;let(j,d,g,_):=I.list w;let E:=⇑r;let D:=⇑d;let F:=o.units;rcases h with⟨G,q⟩|⟨J,f,t,q⟩
 .refine Oa p.isList g.isList (by simp only[eg,bne_iff_ne,ne_eq];lia) ∅ (.bl MR,H,I,U,q,)
 .refine SeqAt.eq_listAt (e:=f) p.isList g.isList (by simp only[eg];lia) ∅ (AA I (by show X.A.units+1+1<Lb;lia) r d t) (.bl _,H,I,U,?_,);rw[show c.toArray.size=⇑l by simp only[eg];lia];calc q
def Em{k:Nat}(o:dJ k X.A):OpR X (K2 .NotEq) (vm X.K MQ):=by
 intro i s C H x y v u Q I n m h;let(a,b,l,D,rfl,rfl,B,z,h):=h;cases (show v=zY.ref a from n);cases (show u=zY.ref b from m);let(c,r,p,_):=I.list B;let(j,d,g,_):=I.list z;let F:=⇑r;let E:=⇑d;let G:=o.units;rcases h with⟨J,q⟩|⟨L,f,t,q⟩
 .refine SeqAt.RcNeAt.lists_lengths p.isList g.isList (by simp only[eg,bne_iff_ne,ne_eq];lia) ∅ X.prog X.w X.xe _ (.bl MQ,H,I,U,q,)
 .refine SeqAt.RcNeAt.lists (e:=f) p.isList g.isList (by simp only[eg];lia) ∅ (AA I (by show X.A.units+1+1<Lb;lia) r d t) X.prog X.w X.xe _ (.bl _,H,I,U,?_,);rw[show c.toArray.size=⇑l by simp only[eg];lia];calc q
def  il(H H':Hp):Prop:=∀b a,H b=MO (.tup a)->H' b=MO (.tup a)
def aq.tups{H H':Hp}(h:aq H H'):il H H':=λb a e=>h b _ e
def il.trans{H g f:Hp}(a:il H g)(b:il g f):il H f:=λc d e=>b c d<|a c d e
def iF{H:Hp}{p:AE}{o:HO}(h:H p=MP):il H (upd H p o):=λb a e=>by rw[ay (bF e h)];calc e
def cx{H:Hp}{p:AE}{o:HO}{ys:M3 V}(h:H p=MO (.lst ys)):il H (upd H p o):=λb a e=>by rw[ay (dM e h (by intro z;cases z))];calc e
def ah{H:Hp}{p:AE}(h:H p=MP)(o:HO):aq H (upd H p o):=λb u q=>by rw[ay (bF q h)];calc q
def aq.upd{H H':Hp}{p:AE}{o:HO}(s:aq H H')(h:H p=MP):aq H (upd H' p o):=λb u q=>by rw[ay (bF q h)];calc s b u q
def  PL(H:Hp):M3 V->M3 (Int×Int)->Prop:=Paired λx p=>∃r,x=.ref r/\H r=MO (.tup [.int p.1,.int p.2])
def PL.mono{H H':Hp}{xs:M3 V}{ps:M3 (Int×Int)}(h:PL H xs ps)(s:il H H'):PL H' xs ps:=Paired.mapP h λ_ _ (r,e,z,)=>(r,e,s r _ z,)
def PL.get{H:Hp}:∀{xs:M3 V}{ps:M3 (Int×Int)}{i:Nat}{x:V},PL H xs ps->xs[i]?=MO x->∃p r,ps[i]?=MO p/\x=.ref r/\H r=MO (.tup [.int p.1,.int p.2])
 |_,_,_,_,.nil,e=>by simp at e
 |_,_,0,_,.cons (b:=b) (r,e1,z,) _,e=>by simp at e;subst e;exact(b,r,U,e1,z,)
 |_,_,i+1,x,.cons _ t,e=>by
  let(p,r,q):=PL.get (i:=i) (x:=x) t<|~~~e;calc(p,r,~~~q.1,q.2,)
def PL.length{H:Hp}{xs:M3 V}{ps:M3 (Int×Int)}(h:PL H xs ps):⇑xs=⇑ps:=Paired.length h
def PL.snoc{H:Hp}{xs:M3 V}{ps:M3 (Int×Int)}{r:AE}{a b:Int}(h:PL H xs ps)(e:H r=MO (.tup [.int a,.int b])):PL H (xs++[.ref r]) (ps++[(a,b)]):=Paired.snoc h (r,U,e,)
def PL.last{H:Hp}{xs:M3 V}{ps:M3 (Int×Int)}(h:PL H xs ps)(f:xs≠[]):∃c r d p,xs=c++[.ref r]/\ps=d++[p]/\PL H c d/\H r=MO (.tup [.int p.1,.int p.2]):=by
 induction h with
 |nil=>exact MW U f
 | @cons a b l1 l2 hd tl ih =>
  cases tl with
  |nil =>
   let(r,e,z):=hd;exact([],r,[],b,by rw[e];rfl,U,.nil,z,)
  | @cons a2 b2 l3 l4 hd2 tl2 =>
   let(c,r,d,p,k,j,i,g):=ih (by simp);calc(a :: c,r,b :: d,p,by rw[k];rfl,by rw[j];rfl,.cons hd i,g,)
def V.int_inj{i j:Int}(h:pi i=pi j):i=j:=by cases h;rfl
def iG{i j:Int}(h:decide (pi i=pi j)=MQ):i=j:=V.int_inj<|MZ h
def iH{i j:Int}(h:¬ decide (pi i=pi j)=MQ):i≠j:=λe=>h<|MX<|M0 pi e
def fZ{p:Prop} [Decidable p] (h:decide p=MQ):p:=MZ h
def ip{p:Prop} [Decidable p] (h:¬ decide p=MQ):¬ p:=λe=>h<|MX e
def d6{X:Cx}{K:ac}(h:X.K=K):IxR X (Ef K):=h ▸ aW
def l8{X:Cx}{K:ac}(h:X.K=K):IxR X (Eg K):=h ▸ aM
def  bq(X:Cx)(N:M3 Str)(scope:Du)(cl:M3 (Str×AE))(b:M3 AE)(C:AE)(a:Ct)(c:Hp):Cx :=
 { prog:=X.prog,w:=X.w,K:=X.K,mg:=X.mg,base:=X.base,A:=X.A,N:=N,s₀:=a,H₀:=c,env:=LC scope cl C X.env,outer:=X.stack,stack:=X.stack,ex:=b,fn:=λ_=>MR,calm:=X.calm,pn:=[],xe:=λ_ _=>False }
def  PIf(X:Cx)(d:M3 Ej)(t:TT):Prop :=
 ∀(a:M3 (AE×Obj))(s:Ct)(b:St)(H:Hp)(Q:Bool->O0),Inv X a b H s->t b H Q ->
  D8 (model X.prog X.w) X.A (forIn d MQ λc r=>if r=MQ then do let ok ←Ek c X.env (eval c X.env);pure (wP ok)else pure (wP r)) (TP X a b Q) X.xe s
def  HH:TT:=λ_ H Q=>Q MQ H
def aX{X:Cx}:PIf X [] HH:=λ_ _ _ H _ I h=>wpAny_tests_nil (H,I,h,)
def tY{X:Cx}{c:Ej}{t:TT}(h:PT X c t):PIf X [c] t:=λa s b H Q I q=>wpAny_tests_one<|h a s b H Q I q
structure vn(X:Cx)(N:M3 Str)(fr:M3 Nat)(scope:Du)(cl:M3 (Str×AE))(x:Str):Prop where
 clos:LD scope X.env=pure cl
 kind:scope.kind=.function
 nocell:∀y∈scope.names,y.2≠.cell
 names:∀y∈scope.names,y.2=.local->scope.names.lookup y.1=MO .local
 hx:scope.names.lookup x=MO .local
 nd:N.Nodup
 n0:N[0]?=MO x
 len:N.length=⇑fr+1
 sub:∀(i:Nat)(y:Str),N[i+1]?=MO y->∃j,fr[i]?=MO j/\X.N[j]?=MO y/\(X.env.kindOf y=MO .cell\/X.env.kindOf y=MO .free)/\((relabel scope X.env).names.lookup y=MO .cell\/(relabel scope X.env).names.lookup y=MO .free)
 cells:∀y c,cl.lookup y=MO c->X.env.cells.lookup y=MO c
 has:∀y,((relabel scope X.env).names.lookup y=MO .cell\/(relabel scope X.env).names.lookup y=MO .free)->∃c,cl.lookup y=MO c
def dN{X:Cx}{scope:Du}{x:Str}(kind:scope.kind=.function)(a:∀y∈scope.names,y.2≠.free)(b:∀y∈scope.names,y.2≠.cell)
  (names:∀y∈scope.names,y.2=.local->scope.names.lookup y.1=MO .local)(f:scope.names.lookup x=MO .local):vn X [x] [] scope [] x:=by
 let g:(relabel scope X.env).names=scope.names:=map_eq_self λy d=>by
  let z:(y.2 == Lj.free)=false:= ~~~a y d
  simp[z]
 let no:∀y,¬ ((relabel scope X.env).names.lookup y=MO .cell\/(relabel scope X.env).names.lookup y=MO .free):=λy h=>by
  rw[g]at h;rcases h with h|h
  .exact b _ (mem_of_lookup h) U
  .exact a _ (mem_of_lookup h) U
 calc(LF a,kind,b,names,f,by simp,U,U,λi y e=>by simp at e,(λy c e=>by cases e),λy h=>MW h<|no y,)
def bc{X:Cx}{N:M3 Str}{fr:M3 Nat}{scope:Du}{cl:M3 (Str×AE)}{x:Str}(b:LD scope X.env=pure cl)(kind:scope.kind=.function)(a:∀y∈scope.names,y.2≠.cell)
  (names:∀y∈scope.names,y.2=.local->scope.names.lookup y.1=MO .local)(m:scope.names.lookup x=MO .local)(g:N.Nodup)(l:N[0]?=MO x)(d:N.length=⇑fr+1)
  (sub:((gl ⇑fr).all λi=>match N[i+1]?,fr[i]? with|some y,MO j=>(X.N[j]? == MO y) && ((X.env.kindOf y == MO .cell) && ((relabel scope X.env).names.lookup y == MO .cell))|_,_=>MR)=MQ)
  (cells:∀p∈cl,X.env.cells.lookup p.1=MO p.2)(f:((relabel scope X.env).names.all λp=>(p.2 != .cell && p.2 != .free) || (cl.lookup p.1).isSome)=MQ):vn X N fr scope cl x:=by
 refine(b,kind,a,names,m,g,l,d,λi y e=>?_,λy c e=>cells _<|mem_of_lookup e,λy h=>?_,)
 .let hi:i<⇑fr:=by have:=(KH.mp e).1;lia
  let z:=gX.mp sub i<|gW.mpr hi;rw[e,KG hi]at z;simp only[wh,beq_iff_eq]at z;exact(_,KG hi,z.1,.inl z.2.1,.inl z.2.2,)
 .let look:∀k,(relabel scope X.env).names.lookup y=MO k->(k=.cell\/k=.free)->∃c,cl.lookup y=MO c:=λk e n=>by
   let z:=gX.mp f _<|mem_of_lookup e;rcases n with rfl|rfl
   .exact yo.mp<|~~~z
   .exact yo.mp<|~~~z
  rcases h with h|h
  .exact look _ h<|.inl U
  .exact look _ h<|.inr U
def  jE(a:St)(fr:M3 Nat)(x:Option V):St:=x :: fr.map λj=>(a[j]?).join
def  tZ(J:It)(fr:M3 Nat)(j:TT)(k:TE)(d:St)(Q:VK)(g:Hp):Prop:=∀D,g D=MP->∃W:Nat->Nat->O0,(∃m,W 0 m<|upd g D<|.lst [])/\∀i m H,W i m H ->
 (J.stop i H/\Q (.ref D) H)\/(J.go i H/\∀x h,J.yld i H x h->j (jE d fr<|MO x) h λb f=>if b=MQ then k (jE d fr<|MO x) f λy e=>∃c,e D=MO (.lst c)/\⇑c<AY/\∃a,a<m/\W (i+1) a (upd e D<|.lst<|c++[y])
  else ∃a,a<m/\W (i+1) a f)
def  DD(b:TI)(fr:M3 Nat)(c:TT)(d:TE):TE:=λa H Q=>b a H λJ e=>tZ J fr c d a Q e
section
variable{prog:An}{w:zZ}{A:Cm}{R:K7->Ct->Prop}{s:Ct}
def qy{f a d:Ej}{e:M3 Ej}{scope:Du}{pos:Pos}{it g:zY}{b:Env}(J:Nat->Ct->Prop)
  (turn:∀n s,J n s->D8 (model prog w) A (KO it) (λr j=>match r with
   |none=>R (.ok .next) j
   |some v=>D8 (model prog w) A (KP a it v) (λ_ p=>D8 (model prog w) A (assign a b v) (λ_ o =>
     D8 (model prog w) A (forIn e MQ λc r=>if r=MQ then do let ok ←Ek c b (eval c b);pure (wP ok)else pure (wP r)) (λok i =>
      if ok=MQ then D8 (model prog w) A (eval f b) (λy l=>D8 (model prog w) A (call (.builtin "list.append") [g,y]) (λ_ k=>∃m,m<n/\J m k) (λ_ _=>False) l) (λ_ _=>False) i
      else ∃m,m<n/\J m i) (λ_ _=>False) o) (λ_ _=>False) p) (λ_ _=>False) j) (λ_ _=>False) s)
  (n:Nat)(h:J n s):K8 (model prog w) A (.compLoop (.ListComp f [(a,d,e,0,)] scope pos) 0 it g b) R s:=by
 calc codeAny_loop U J (λn s u=>?_) n h;show D8 _ A ((compTurn (.ListComp f [(a,d,e,0,)] scope pos) 0 it g b).onRaise (λx=>do LG x b;LH x)) _ _ s;calc wpAny_noted ?_;rw[LJ];calc zb<|KI<|zb<|FC (turn n s u) (λr j t=>?_) λ_ _ z=>z.elim;cases r with
 |none=>exact zp t
 |some v =>
  calc zb<|FC t (λ_ p E=>?_) λ_ _ z=>z.elim;calc zb<|FC E (λ_ o D=>zb<|FC D (λok i q=>?_) λ_ _ z=>z.elim) λ_ _ z=>z.elim;cases ok with
  |false=>exact zp (U,q,)
  |true=>calc zb (zb<|FC q (λy l C=>zb<|FC C (λ_ k B=>zp<|zp (U,B,)) λ_ _ z=>z.elim) λ_ _ z=>z.elim)
end
section
variable{elt iter:Ej}{ifs:M3 Ej}{x:Str}{px:Pos}{scope:Du}{cl:M3 (Str×AE)}{N:M3 Str}{fr:M3 Nat}{tt:TT}{te:TE}
def sO{I:M3 (AE×Obj)}{B:St}{a:Ct}{q:Hp}{it:AE}{g:M3 AE}{tn:Nat->AU->Prop}{J:It}{Q:VK}{E:zY->Ct->Prop}{RR:zY->AE->K7->Ct->Prop}
  (O:vn X N fr scope cl x)(hc:X.calm=MQ)(h:Inv X I B q a)(T:Turn X.prog X.w X.K (.Name x px) J g it tn)(a2:tn 0 a.heap)(M:∀b∈g,mr X I q b)
  (ht:∀g C s H,PIf (bq X N scope cl g C s H) ifs tt)(he:∀g C s H,PE (bq X N scope cl g C s H) elt te)
  (hW:tZ J fr tt te B Q q)
  (fin:∀D C s' H',↥a<=C->H' C=MP->(∃m,s'.heap.Ns C m)->Inv X I B H' s'->Q (.ref D) H'->RR (.ref D) C (.ok .next) s') :
  D8 (model X.prog X.w) X.A (LK []) (λa8 s3=>D8 (model X.prog X.w) X.A (LL scope X.env.globals cl [] X.env.qual MP .none (MO X.env)) (λcenv s4 =>
   K8 (model X.prog X.w) X.A (.compStart (.ListComp elt [(.Name x px,iter,ifs,0,)] scope pos) 0 (.ref it) a8 { cenv with scope:=relabel scope X.env }) (RR a8 cenv.locals) s4) E s3) E a:=by
 refine LM (LO O.nocell (by intro y hy;simp at hy) (λh1 a3 R=>?_) O.kind);dsimp only at a3 R⊢;generalize hG:a.heap.push { cls:=.type "list",dict:=MP,data:=.seq ([]:M3 zY).toArray }=G at a3 R⊢;let hC:G.objs.size=↥a+1:=by rw[←hG,Da]
 let F:∀b o,a.heap.get? b=MO o->h1.get? b=MO o:=λb o e=>R.extBut b o (qo (by rw[hC];exact rJ (bn e))) (am _<|hG ▸ am _ e)
 let AB:h1.get? ↥a=MO { cls:=.type "list",data:=.seq ([]:M3 zY).toArray 0 }:=R.extBut _ _ (qo (by rw[hC];exact so _)) (am _<|hG ▸ ii _ U);let hD:q ↥a=none:=h.fresh;let P:(bq X N scope cl g G.objs.size a q).Ok:=by
  refine(h.ok.mod,O.kind,h.ok.glob,h.ok.blt,by show ↥a<=G.objs.size;rw[hC];exact rZ _,λy z c e1 e2=>h.ok.inj y z c (O.cells y c e1)<|O.cells z c e2,λy hy=>O.has y hy,λy c z=>MW (show MR=MQ from z) cr,h.ok.hd,h.ok.frames,.inl U,
   λb f=>(?_,λy c e=>(M b f).2.2.2.2.1 y c<|O.cells y c e,),h.bs,qu h.ok.bsz h.sz,λb o e f=>?_,λb f z=>?_,h.stack,h.stkFree,)
  .let(o,e,_):=T.obj _ _ a2 b f;show b≠G.objs.size;exact qo (by rw[hC];exact rJ (bn e))
  .rcases(M b f).2.2.2.1 with z|z
   .exact h.ok.noex b o e z
   .exact MW (ri (bn e)<|qu h.ok.bsz z)<|sh _
  .rcases cZ.mp (h.stkSub b z)with z|z
   .exact(M b f).2.1 z
   .exact(M b f).2.2.1 z
 let lu:∀{H':Hp},(∀b∈g,H' b=MP)->∀b∈g,mr (bq X N scope cl g G.objs.size a q) [] H' b:=λhn b f =>
  (hn b f,(P.exf b f).1,P.exfs b f,.inl f,(P.exf b f).2,λp hp=>MW (show p∈([]:M3 (AE×Obj))from hp) (by simp),)
 let I':Inv (bq X N scope cl g G.objs.size a q) [] (jE B fr MP) (upd q ↥a<|.lst []) { a with heap:=h1,toks:=a.toks+⇑([]:M3 (Str×zY)) }:=by
  refine(P,U,h.bare,Un.laid F (pT _) hD,(_,a3,λi y v e1 e2 e3=>?_,),λy c e=>?_,?_,λy c e=>?_,λp hp=>MW (show p∈([]:M3 (AE×Obj))from hp) (by simp),h.hok.laid F (pT _) (rE _,[],0,.nil,AB,),?_,)
  .cases i with
   |zero=>cases e2
   |succ i =>
    let(j,q1,q2,q3,q4):=O.sub i y e1;let S:(B[j]?).join=MO v:=by
     have:(fr.map λj=>(B[j]?).join)[i]?=MO (MO v):=e2;rw[dn,q1]at this;exact dL this
    let e4:B[j]?=MO (MO v):=by
     cases z:B[j]? with
     |none=>rw[z]at S;cases S
     |some t=>rw[z]at S;exact M0 MO S
    let(m,_,hl):=h.loc;let c0:Vis X.env.scope y:=.inr q3;let(u,r,l):=hl j y v q2 e4 c0;calc(u,r,.inr (q4,?_,),);let(c',a6):=O.has y q4;rcases l with⟨k,_⟩|⟨_,c,ec,ic⟩
    .rcases q3 with z|z
     .rw[z]at k;cases k
     .rw[z]at k;cases k
    .let:=O.cells y c' a6;let e':c=c':=dL<|ec.symm.trans this;let(o,ho,hd):=ic;rw[e']at ho;exact(c',a6,o,F c' o ho,hd,)
  .let(v,o,ho,hd):=h.cell y c<|O.cells y c e;exact(v,o,F c o ho,hd,)
  .show upd q ↥a (.lst []) G.objs.size=MP;rw[ay (rG (by rw[hC];exact so _))];exact h.hok.fresh (by rw[hC];exact rZ _)
  .let(v,o,ho,hd):=h.cell y c<|O.cells y c e;rw[ay (qo<|bn ho)];exact h.freeC y c<|O.cells y c e
  .show⇑(jE B fr MP)=N.length;rw[O.len];simp[jE]
 let a5:tn 0 h1:=T.keep _ _ _ a2 λb f o e=>F b o e
 let V:∀s3:Ct,s3={ a with heap:=h1,toks:=a.toks+⇑([]:M3 (Str×zY)) } ->
   K8 (model X.prog X.w) X.A (.compLoop (.ListComp elt [(.Name x px,iter,ifs,0,)] scope pos) 0 (.ref it) (.ref ↥a)<|LC scope cl G.objs.size X.env) (RR (.ref ↥a) G.objs.size) s3:=by
  rintro s3 rfl;let(W,(m0,w0),turn):=hW _ hD
  refine qy (λn s'=>∃i t H',Inv (bq X N scope cl g G.objs.size a q) [] (jE B fr t) H' s'/\tn i s'.heap/\(∀b∈g,H' b=MP)/\W i n H') ?_ m0
   (0,MP,_,I',a5,λb f=>by
    rw[ay (by let(o,e,_):=T.obj _ _ a2 b f;exact qo (bn e))];exact(M b f).1,w0,)
  rintro n s' ⟨i,t,H',I3,a4,a7,w3⟩;rcases turn i n H' w3 with⟨b0,qn⟩|⟨go,step⟩
  .refine thn (T.done (bq X N scope cl g G.objs.size a q) U U U hc i [] s' _ H' _ I3 (lu a7) a4 b0) λr s4 (hr,I4,)=>?_
   subst hr;let(m,Z,_):=I4.loc;refine fin _ _ s4 H' (by rw[hC];exact rZ _) I4.free (m,Z,) (h.call' (ch:=g) I4.os I4.base I4.hok I4.bare λb f=>?_) qn;exact((M b f).2.2.2.1,(M b f).2.1,(M b f).2.2.2.2.1,(M b f).2.2.2.2.2,)
  .refine thn (T.item (bq X N scope cl g G.objs.size a q) U U U hc i [] s' _ H' _ I3 (lu a7) a4 go) λr s4 (u,hr,h4,)=>?_
   subst hr;refine thn h4 λ_ s5 (y,H5,I5,r5,y5,a1,c2,)=>?_
   let c4:=I5.pinned (lu c2)<|T.obj _ _ a1;let lx:(bq X N scope cl g G.objs.size a q).env.scope.names.lookup x=MO .local:=LP O.hx;refine thn (aC (X:=bq X N scope cl g G.objs.size a q) (i:=0) O.nd O.n0 (.inl lx) (.inr lx) _ s5 _ H5 y u (λb4 H'=>b4=jE B fr (MO y)/\H'=H5) c4 r5 (U,U,)) λ_ s6 (c5,H6,I6,e6,c3,)=>?_
   subst e6;subst c3
   let L:∀{a0:St}{H7:Hp}{s7:Ct}{Y:Nat},a0=jE B fr (MO y)->Inv (bq X N scope cl g G.objs.size a q) ([]++jl g s5.heap) a0 H7 s7->Y<n->W (i+1) Y H7 ->
     ∃m,m<n/\∃i t H',Inv (bq X N scope cl g G.objs.size a q) [] (jE B fr t) H' s7/\tn i s7.heap/\(∀b∈g,H' b=MP)/\W i m H':=λ{a0 H7 s7 Y} e7 I7 Z w7=>by
    subst e7;calc(Y,Z,i+1,MO y,H7,I7.unpinned,T.keep _ _ _ a1 λb f o e=>(I7.pin (b,o)<|fq _<|fq _<|dO f e).1,λb f=>?_,w7,);let(o,e,d):=T.obj _ _ a1 b f;exact(I7.pin (b,o)<|fq _<|fq _<|dO f e).2.1
   refine thn (ht g G.objs.size a q _ s6 _ H6 _ I6<|step y H6 y5) λok s7 (H7,I7,q7,)=>?_
   cases ok with
   |false =>
    rw[MU cr]at q7⊢;let(Y,Z,w7):=q7;exact L U I7 Z w7
   |true =>
    rw[MV U]at q7⊢;refine thn (he g G.objs.size a q _ s7 _ H7 _ I7 q7) λu8 s8 (v8,H8,I8,r8,ys,c1,b3,Y,Z,w8,)=>?_
    refine thn (bW (X:=bq X N scope cl g G.objs.size a q) _ s8 _ H8 (.ref ↥a) [v8] _ [u8] (λ_ H9=>W (i+1) Y H9) I8 U (.cons r8 .nil) (_,ys,v8,U,U,c1,b3,w8,)) λ_ s9 (_,H9,I9,_,w9,)=>?_
    exact L U I9 Z w9
 calc LQ (V _ U)<|T.self _ 0 _ _ _ a5<|V _ U
def Inv.left{a:M3 (AE×Obj)}{h g:St}{i s':Ct}{r H':Hp}{C:AE}{h':AU}(f:Inv X a g r i)(q:Inv X a h H' s')(d:↥i<=C)(m:H' C=MP)(j:Gc C s'.heap h'):Inv X a h H' { s' with heap:=h' }:=by
 refine q.turned (t':=s'.toks) (it:=C) (λb o n e=>(j.2 b n).trans e) m (rG<|ri f.lt d) (.inr<|qu f.sz d) (λy c e=>?_) λp k=>?_
 .let(v,o,l,_):=f.cell y c e;exact qo<|ri (bn l) d
 .exact qo<|ri (bn (f.pin p k).1) d
def bZ{i:TI}(hi:PI X (.Name x px) iter i)(O:vn X N fr scope cl x)(r:X.calm=MQ)(k:∀b C s H,PIf (bq X N scope cl b C s H) ifs tt)(p:∀b C s H,PE (bq X N scope cl b C s H) elt te)
  (l:∀v,KZ iter X.env v=pure v:=by intro _;rfl):PE X (.ListComp elt [(.Name x px,iter,ifs,0,)] scope pos) (DD i fr tt te):=by
 intro a s g H Q I h;rw[LR];calc LS (use:=MP) U l O.clos O.kind O.names<|thn (hi a s g H _ I h) λv M z=>thn z λG L y=>?_;let(R,b,K,J,V,e,j,T,c,B,t):=y;subst e;refine sO (RR:=λf C=>LU (model X.prog X.w) X.A X.xe MP (EP X a g Q) f C) O r j T c B k p t λD C P F u n (m,o,) E q=>?_
 calc(m,o,λS d=>(.ref D,F,j.left E u n d,U,q,),)
def i5{E:TI}{i:Nat}{y:Str}{d F:Pos}(hN:X.N.Nodup)(G:X.N[i]?=MO y)(V:Loc X.env.scope y)(hi:PI X (.Name x px) iter E)(O:vn X N fr scope cl x)(Z:X.calm=MQ)
  (K:∀f C s H,PIf (bq X N scope cl f C s H) ifs tt)(Y:∀f C s H,PE (bq X N scope cl f C s H) elt te)(L:∀v,KZ iter X.env v=pure v:=by intro _;rfl)
  (n:HJ (.ListComp elt [(.Name x px,iter,ifs,0,)] scope pos) (MO<|.Name y d) F.line X.env=pure true:=by rfl)(W:X.fn y=MQ\/X.env.scope.names.lookup y=MO .local:=by first|exact .inl U|exact .inr U|assumption) :
  PS X (.Assign [.Name y d] (.ListComp elt [(.Name x px,iter,ifs,0,)] scope pos) F) (Cb (DD E fr tt te)<|sq i):=by
 intro b s B H k I h;rw[LV _ _ _ _ n];calc zb<|KI<|zb ?_;show D8 _ X.A (do let _ ←comprehension (.ListComp elt [⟨.Name x px,iter,ifs,0⟩] scope pos) scope X.env _ (LK []) MR (eval iter X.env) (MO<|assign (.Name y d) X.env)) _ _ s;calc zb<|FC (LS (use:=MO<|assign (.Name y d) X.env) (Q:=λ_ c=>SP X b k .next c) U L O.clos O.kind O.names<|thn (hi b s B H _ I h) λv s1 h1=>thn h1 λa0 s2 h2=>?_) (λ_ c M=>zp<|zp M) λ_ _ z=>z;let(it,f,tn,J,H2,e,g,T,l,f2,hW):=h2;subst e;refine sO (Q:=λv H1=>sq i v B H1 k.nx) (RR:=λu C=>LU (model X.prog X.w) X.A X.xe (MO<|assign (.Name y d) X.env) (λ_ c=>SP X b k .next c) u C) O Z g T l f2 K Y hW λD C c H' j R (m,S,) I' q=>?_
 show D8 _ X.A (assign (.Name y d) X.env<|.ref D) _ _ c;calc Kq<|oM I' hN G V (v:=.ref D) U (λs3 I3 (a,p,ha,)=>?_) W;let t:C≠a:=by
  rcases ha with z|z
  .rw[z];exact rG<|ri g.lt j
  .let(v,o,P,_):=g.cell y a z;exact rG<|ri (bn P) j
 calc(m,S.sameBut p t,λh' r=>(_,H',g.left I3 j R r,q,),)
def  ly(c:AE->Nat->M3 V->O0)(D:AE)(i n:Nat)(d:Hp):Prop:=∃a,a<n-i/\a=n-(i+1)/\i+1<=n/\∃b,c D (i+1) b d
def  b7(c:AE->Nat->M3 V->O0)(D:AE)(i n:Nat):VK:=λy b=>∃a,b D=MO (.lst a)/\⇑a<AY/\ly c D i n (upd b D<|.lst<|a++[y])
def ly.mk{a:AE->Nat->M3 V->O0}{D:AE}{i n:Nat}{b:Hp}{zs:M3 V}(hi:i<n)(h:a D (i+1) zs b):ly a D i n b:=(n-(i+1),∅,U,hi,zs,h,)
def b7.mk{b:AE->Nat->M3 V->O0}{D:AE}{i n:Nat}{a:Hp}{ys:M3 V}{y:V}(hi:i<n)(e:a D=MO (.lst ys))(c:⇑ys<AY)(h:b D (i+1) (ys++[y]) (upd a D<|.lst<|ys++[y])):b7 b D i n y a:=(ys,e,c,.mk hi h,)
def bC{K:ac}{a:AE}{xs:M3 V}{g:St}{d:Hp}{Q:VK}(c:AE->Nat->M3 V->O0)(n:∀D,d D=MP->c D 0 [] (upd d D<|.lst []))
  (l:∀D i ys H,d D=MP->i<=⇑xs->c D i ys H->SqL K H a xs)
  (k:∀D i x ys H,d D=MP->xs[i]?=MO x->c D i ys H->tt (jE g fr<|MO x) H λb j=>if b=MQ then te (jE g fr<|MO x) j (b7 c D i ⇑xs)else ly c D i ⇑xs j)
  (hd:∀D ys H,d D=MP->c D ⇑xs ys H->Q (.ref D) H):tZ (Itl K a) fr tt te g Q d:=by
 intro D f;calc(λi m H=>m=⇑xs-i/\i<=⇑xs/\∃ys,c D i ys H,(_,U,rE _,[],n D f,),?_,);rintro i m H ⟨rfl,hi,ys,p⟩;let q:=l D i ys H f hi p;by_cases h:i<⇑xs
 .refine .inr ((xs,xs[i],q,by simp[h],),λx o y=>?_,);let(e,y):=y;subst e;exact k D i x ys _ f (y xs q) p
 .let e:i=⇑xs:=∅
  subst e;calc .inl ((xs,q,pT _,),hd D ys H f p,)
def cK{lo:Int}{n:Nat}{f:St}{c:Hp}{Q:VK}(a:AE->Nat->M3 V->O0)(k:∀D,c D=MP->a D 0 [] (upd c D<|.lst []))
  (j:∀D i ys H,c D=MP->i<n->a D i ys H->tt (jE f fr<|MO<|.int<|lo+i) H λb h=>if b=MQ then te (jE f fr<|MO<|.int<|lo+i) h (b7 a D i n)else ly a D i n h)
  (hd:∀D ys H,c D=MP->a D n ys H->Q (.ref D) H):tZ (Itr lo n) fr tt te f Q c:=by
 intro D g;calc(λi m H=>m=n-i/\i<=n/\∃ys,a D i ys H,(_,U,rE _,[],k D g,),?_,);rintro i m H ⟨rfl,hi,ys,p⟩;by_cases d:i<n
 .refine .inr (d,λx l y=>?_,);let(e,y):=y;subst e;subst y;exact j D i ys _ g d p
 .let e:i=n:=∅
  subst e;calc .inl (pT _,hd D ys H g p,)
end
structure mU(X:Cx)(N:M3 Str)(k:Nat)(fr:M3 Nat)(scope:Du)(cl:M3 (Str×AE)):Prop where
 clos:LD scope X.env=pure cl
 kind:scope.kind=.function
 nocell:∀y∈scope.names,y.2≠.cell
 names:∀y∈scope.names,y.2=.local->scope.names.lookup y.1=MO .local
 len:N.length=k+⇑fr
 sub:∀(i:Nat)(y:Str),N[k+i]?=MO y->∃j,fr[i]?=MO j/\X.N[j]?=MO y/\(X.env.kindOf y=MO .cell\/X.env.kindOf y=MO .free)/\((relabel scope X.env).names.lookup y=MO .cell\/(relabel scope X.env).names.lookup y=MO .free)
 cells:∀y c,cl.lookup y=MO c->X.env.cells.lookup y=MO c
 has:∀y,((relabel scope X.env).names.lookup y=MO .cell\/(relabel scope X.env).names.lookup y=MO .free)->∃c,cl.lookup y=MO c
def cH{X:Cx}{N:M3 Str}{k:Nat}{scope:Du}(d:N.length=k)(kind:scope.kind=.function)(a:∀y∈scope.names,y.2≠.free)(b:∀y∈scope.names,y.2≠.cell)
  (names:∀y∈scope.names,y.2=.local->scope.names.lookup y.1=MO .local):mU X N k [] scope []:=by
 let g:(relabel scope X.env).names=scope.names:=map_eq_self λy f=>by
  let z:(y.2 == Lj.free)=false:= ~~~a y f
  simp[z]
 let no:∀y,¬ ((relabel scope X.env).names.lookup y=MO .cell\/(relabel scope X.env).names.lookup y=MO .free):=λy h=>by
  rw[g]at h;rcases h with h|h
  .exact b _ (mem_of_lookup h) U
  .exact a _ (mem_of_lookup h) U
 refine(LF a,kind,b,names,by rw[d];rfl,λi y e=>?_,(λy c e=>by cases e),λy h=>MW h<|no y,);let:=(KH.mp e).1;lia
def  dz(a:St)(fr:M3 Nat)(b:St):St:=b++fr.map λj=>(a[j]?).join
def  l9(J:It)(q:TG)(k:Nat)(fr:M3 Nat)(o:TT)(p:TE)(f:St)(Q:VK)(l:Hp):Prop:=∀D,l D=MP->∃W:Nat->Nat->O0,(∃m,W 0 m<|upd l D<|.lst [])/\∀i m H,W i m H ->
 (J.stop i H/\Q (.ref D) H)\/(J.go i H/\∀x n,J.yld i H x n->∀g:St,⇑g=k->q x (dz f fr g) n λa r=>(∃d:St,⇑d=k/\a=dz f fr d)/\o a r λb j=>if b=MQ then p a j λy h=>∃e,h D=MO (.lst e)/\⇑e<AY/\∃c,c<m/\W (i+1) c (upd h D<|.lst<|e++[y])
  else ∃c,c<m/\W (i+1) c j)
def  xa(b:TI)(e:TG)(k:Nat)(fr:M3 Nat)(c:TT)(d:TE):TE:=λa H Q=>b a H λJ f=>l9 J e k fr c d a Q f
section
variable{elt iter tg:Ej}{ifs:M3 Ej}{scope:Du}{cl:M3 (Str×AE)}{N:M3 Str}{k:Nat}{fr:M3 Nat}{gt:TG}{tt:TT}{te:TE}
def qz{I:M3 (AE×Obj)}{B:St}{a:Ct}{q:Hp}{it:AE}{g:M3 AE}{tn:Nat->AU->Prop}{J:It}{Q:VK}{E:zY->Ct->Prop}{RR:zY->AE->K7->Ct->Prop}
  (O:mU X N k fr scope cl)(hc:X.calm=MQ)(h:Inv X I B q a)(T:Turn X.prog X.w X.K tg J g it tn)(a2:tn 0 a.heap)(M:∀b∈g,mr X I q b)
  (ht:∀g C s H,PIf (bq X N scope cl g C s H) ifs tt)(he:∀g C s H,PE (bq X N scope cl g C s H) elt te)
  (hg:∀g C s H,PG (bq X N scope cl g C s H) tg gt)(hW:l9 J gt k fr tt te B Q q)
  (fin:∀D C s' H',↥a<=C->H' C=MP->(∃m,s'.heap.Ns C m)->Inv X I B H' s'->Q (.ref D) H'->RR (.ref D) C (.ok .next) s') :
  D8 (model X.prog X.w) X.A (LK []) (λb3 s3=>D8 (model X.prog X.w) X.A (LL scope X.env.globals cl [] X.env.qual MP .none (MO X.env)) (λcenv s4 =>
   K8 (model X.prog X.w) X.A (.compStart (.ListComp elt [(tg,iter,ifs,0,)] scope pos) 0 (.ref it) b3 { cenv with scope:=relabel scope X.env }) (RR b3 cenv.locals) s4) E s3) E a:=by
 refine LM (LO O.nocell (by intro y hy;simp at hy) (λh1 a3 R=>?_) O.kind);dsimp only at a3 R⊢;generalize hG:a.heap.push { cls:=.type "list",dict:=MP,data:=.seq ([]:M3 zY).toArray }=G at a3 R⊢;let hC:G.objs.size=↥a+1:=by rw[←hG,Da]
 let F:∀b o,a.heap.get? b=MO o->h1.get? b=MO o:=λb o e=>R.extBut b o (qo (by rw[hC];exact rJ (bn e))) (am _<|hG ▸ am _ e)
 let AB:h1.get? ↥a=MO { cls:=.type "list",data:=.seq ([]:M3 zY).toArray 0 }:=R.extBut _ _ (qo (by rw[hC];exact so _)) (am _<|hG ▸ ii _ U);let hD:q ↥a=none:=h.fresh;let P:(bq X N scope cl g G.objs.size a q).Ok:=by
  refine(h.ok.mod,O.kind,h.ok.glob,h.ok.blt,by show ↥a<=G.objs.size;rw[hC];exact rZ _,λy z c e1 e2=>h.ok.inj y z c (O.cells y c e1)<|O.cells z c e2,λy hy=>O.has y hy,λy c z=>MW (show MR=MQ from z) cr,h.ok.hd,h.ok.frames,.inl U,
   λb f=>(?_,λy c e=>(M b f).2.2.2.2.1 y c<|O.cells y c e,),h.bs,qu h.ok.bsz h.sz,λb o e f=>?_,λb f z=>?_,h.stack,h.stkFree,)
  .let(o,e,_):=T.obj _ _ a2 b f;show b≠G.objs.size;exact qo (by rw[hC];exact rJ (bn e))
  .rcases(M b f).2.2.2.1 with z|z
   .exact h.ok.noex b o e z
   .exact MW (ri (bn e)<|qu h.ok.bsz z)<|sh _
  .rcases cZ.mp (h.stkSub b z)with z|z
   .exact(M b f).2.1 z
   .exact(M b f).2.2.1 z
 let lu:∀{H':Hp},(∀b∈g,H' b=MP)->∀b∈g,mr (bq X N scope cl g G.objs.size a q) [] H' b:=λhn b f =>
  (hn b f,(P.exf b f).1,P.exfs b f,.inl f,(P.exf b f).2,λp hp=>MW (show p∈([]:M3 (AE×Obj))from hp) (by simp),)
 let I':Inv (bq X N scope cl g G.objs.size a q) [] (dz B fr<|v6 k MP) (upd q ↥a<|.lst []) { a with heap:=h1,toks:=a.toks+⇑([]:M3 (Str×zY)) }:=by
  refine(P,U,h.bare,Un.laid F (pT _) hD,(_,a3,λi y v e1 e2 e3=>?_,),λy c e=>?_,?_,λy c e=>?_,λp hp=>MW (show p∈([]:M3 (AE×Obj))from hp) (by simp),h.hok.laid F (pT _) (rE _,[],0,.nil,AB,),?_,)
  .by_cases a7:i<k
   .let x:(v6 k MP++fr.map λj=>(B[j]?).join)[i]?=MO (MO v):=e2;rw[ft (by rw[ib];exact a7),KB,MV a7]at x;cases x
   .let(j,q1,q2,q3,q4):=O.sub (i-k) y (by rw[show k+(i-k)=i by lia];exact e1);let x:(B[j]?).join=MO v:=by
     have:(v6 k MP++fr.map λj=>(B[j]?).join)[i]?=MO (MO v):=e2;rw[fV (by rw[ib];lia),ib,dn,q1]at this;exact dL this
    let e4:B[j]?=MO (MO v):=by
     cases z:B[j]? with
     |none=>rw[z]at x;cases x
     |some t=>rw[z]at x;exact M0 MO x
    let(m,_,hl):=h.loc;let c1:Vis X.env.scope y:=.inr q3;let(u,r,l):=hl j y v q2 e4 c1;calc(u,r,.inr (q4,?_,),);let(c',a8):=O.has y q4;rcases l with⟨k,_⟩|⟨_,c,ec,ic⟩
    .rcases q3 with z|z
     .rw[z]at k;cases k
     .rw[z]at k;cases k
    .let:=O.cells y c' a8;let e':c=c':=dL<|ec.symm.trans this;let(o,ho,hd):=ic;rw[e']at ho;exact(c',a8,o,F c' o ho,hd,)
  .let(v,o,ho,hd):=h.cell y c<|O.cells y c e;exact(v,o,F c o ho,hd,)
  .show upd q ↥a (.lst []) G.objs.size=MP;rw[ay (rG (by rw[hC];exact so _))];exact h.hok.fresh (by rw[hC];exact rZ _)
  .let(v,o,ho,hd):=h.cell y c<|O.cells y c e;rw[ay (qo<|bn ho)];exact h.freeC y c<|O.cells y c e
  .show⇑(dz B fr<|v6 k MP)=N.length;rw[O.len];simp[dz]
 let a6:tn 0 h1:=T.keep _ _ _ a2 λb f o e=>F b o e
 let S:∀s3:Ct,s3={ a with heap:=h1,toks:=a.toks+⇑([]:M3 (Str×zY)) } ->
   K8 (model X.prog X.w) X.A (.compLoop (.ListComp elt [(tg,iter,ifs,0,)] scope pos) 0 (.ref it) (.ref ↥a)<|LC scope cl G.objs.size X.env) (RR (.ref ↥a) G.objs.size) s3:=by
  rintro s3 rfl;let(W,(m0,w0),turn):=hW _ hD
  refine qy (λn s'=>∃i V H',V.length=k/\Inv (bq X N scope cl g G.objs.size a q) [] (dz B fr V) H' s'/\tn i s'.heap/\(∀b∈g,H' b=MP)/\W i n H') ?_ m0
   (0,v6 k MP,_,ib,I',a6,λb f=>by
    rw[ay (by let(o,e,_):=T.obj _ _ a2 b f;exact qo (bn e))];exact(M b f).1,w0,)
  rintro n s' ⟨i,V,H',c3,I3,a5,b0,w3⟩;rcases turn i n H' w3 with⟨b4,qn⟩|⟨go,step⟩
  .refine thn (T.done (bq X N scope cl g G.objs.size a q) U U U hc i [] s' _ H' _ I3 (lu b0) a5 b4) λr s4 (hr,I4,)=>?_
   subst hr;let(m,Z,_):=I4.loc;refine fin _ _ s4 H' (by rw[hC];exact rZ _) I4.free (m,Z,) (h.call' (ch:=g) I4.os I4.base I4.hok I4.bare λb f=>?_) qn;exact((M b f).2.2.2.1,(M b f).2.1,(M b f).2.2.2.2.1,(M b f).2.2.2.2.2,)
  .refine thn (T.item (bq X N scope cl g G.objs.size a q) U U U hc i [] s' _ H' _ I3 (lu b0) a5 go) λr s4 (u,hr,h4,)=>?_
   subst hr;refine thn h4 λ_ s5 (y,H5,I5,r5,y5,a1,c4,)=>?_
   let c5:=I5.pinned (lu c4)<|T.obj _ _ a1;refine thn (hg g G.objs.size a q _ s5 _ H5 y u _ c5 r5<|step y H5 y5 V c3) λ_ s6 (c6,H6,I6,(a4,En,e6,),q6,)=>?_
   subst e6
   let L:∀{a0:St}{H7:Hp}{s7:Ct}{Y:Nat},a0=dz B fr a4->Inv (bq X N scope cl g G.objs.size a q) ([]++jl g s5.heap) a0 H7 s7->Y<n->W (i+1) Y H7 ->
     ∃m,m<n/\∃i V H',V.length=k/\Inv (bq X N scope cl g G.objs.size a q) [] (dz B fr V) H' s7/\tn i s7.heap/\(∀b∈g,H' b=MP)/\W i m H':=λ{a0 H7 s7 Y} e7 I7 Z w7=>by
    subst e7;calc(Y,Z,i+1,a4,H7,En,I7.unpinned,T.keep _ _ _ a1 λb f o e=>(I7.pin (b,o)<|fq _<|fq _<|dO f e).1,λb f=>?_,w7,);let(o,e,d):=T.obj _ _ a1 b f;exact(I7.pin (b,o)<|fq _<|fq _<|dO f e).2.1
   refine thn (ht g G.objs.size a q _ s6 _ H6 _ I6 q6) λok s7 (H7,I7,q7,)=>?_
   cases ok with
   |false =>
    rw[MU cr]at q7⊢;let(Y,Z,w7):=q7;exact L U I7 Z w7
   |true =>
    rw[MV U]at q7⊢;refine thn (he g G.objs.size a q _ s7 _ H7 _ I7 q7) λu8 s8 (v8,H8,I8,r8,ys,c2,c0,Y,Z,w8,)=>?_
    refine thn (bW (X:=bq X N scope cl g G.objs.size a q) _ s8 _ H8 (.ref ↥a) [v8] _ [u8] (λ_ H9=>W (i+1) Y H9) I8 U (.cons r8 .nil) (_,ys,v8,U,U,c2,c0,w8,)) λ_ s9 (_,H9,I9,_,w9,)=>?_
    exact L U I9 Z w9
 calc LQ (S _ U)<|T.self _ 0 _ _ _ a6<|S _ U
def d7{i:TI}(hi:PI X tg iter i)(O:mU X N k fr scope cl)(u:X.calm=MQ)(r:∀b C s H,PG (bq X N scope cl b C s H) tg gt)(l:∀b C s H,PIf (bq X N scope cl b C s H) ifs tt)(t:∀b C s H,PE (bq X N scope cl b C s H) elt te)
  (n:∀v,KZ iter X.env v=pure v:=by intro _;rfl):PE X (.ListComp elt [(tg,iter,ifs,0,)] scope pos) (xa i gt k fr tt te):=by
 intro a s g H Q I h;rw[LR];calc LS (use:=MP) U n O.clos O.kind O.names<|thn (hi a s g H _ I h) λv P B=>thn B λK M z=>?_;let(S,b,L,J,W,e,j,T,c,E,x):=z;subst e;refine qz (RR:=λf C=>LU (model X.prog X.w) X.A X.xe MP (EP X a g Q) f C) O u j T c E l t r x λD C R G y o (m,p,) F q=>?_
 calc(m,p,λV d=>(.ref D,G,j.left F y o d,U,q,),)
def b8{K:ac}{a:AE}{xs:M3 V}{j:St}{f:Hp}{Q:VK}(c:AE->Nat->M3 V->O0)(t:∀D,f D=MP->c D 0 [] (upd f D<|.lst []))
  (s:∀D i ys H,f D=MP->i<=⇑xs->c D i ys H->SqL K H a xs)
  (r:∀D i x ys H,f D=MP->xs[i]?=MO x->c D i ys H->∀n:St,⇑n=k->gt x (dz j fr n) H λd u=>(∃g:St,⇑g=k/\d=dz j fr g)/\tt d u λb o=>if b=MQ then te d o (b7 c D i ⇑xs)else ly c D i ⇑xs o)
  (hd:∀D ys H,f D=MP->c D ⇑xs ys H->Q (.ref D) H):l9 (Itl K a) gt k fr tt te j Q f:=by
 intro D h;calc(λi m H=>m=⇑xs-i/\i<=⇑xs/\∃ys,c D i ys H,(_,U,rE _,[],t D h,),?_,);rintro i m H ⟨rfl,hi,ys,p⟩;let q:=s D i ys H h hi p;by_cases l:i<⇑xs
 .refine .inr ((xs,xs[i],q,by simp[l],),λx v y=>?_,);let(e,y):=y;subst e;exact r D i x ys _ h (y xs q) p
 .let e:i=⇑xs:=∅
  subst e;calc .inl ((xs,q,pT _,),hd D ys H h p,)
end
def jF{X:Cx}{K:ac}{a:M3 Ej}{k:Nat}{t:TGs}{n:Nat}{pos:Pos}(e:X.K=K)(d:X.calm=MQ)(h:PGs X a t)(c:⇑(Ik a X.env)=n:=by rfl)(b:(Ik a X.env).findIdx? (·.1)=none:=by rfl):PG X (.Tuple a k pos) (FN K n t):=e ▸ d8 d h c b
end _L
namespace Srt
open PySem PySem.W PyProof.Rows
def  Ok(n:Nat)(lt:Nat->Nat->Bool){b:Type}:KasT b->(b->Prop)->Prop
 | .ret a,Q=>Q a
 | .ask i j k,Q=>i<n/\j<n/\Ok n lt (k<|lt i j) Q
def Ok.mono{n:Nat}{lt:Nat->Nat->Bool}{b:Type}:∀{t:KasT b}{Q c:b->Prop},Ok n lt t Q->(∀a,Q a->c a)->Ok n lt t c
 | .ret _,_,_,h,f=>f _ h
 | .ask _ _ _,_,_,h,f=>(h.1,h.2.1,Ok.mono h.2.2 f,)
def Ok.bind{n:Nat}{lt:Nat->Nat->Bool}{c b:Type}{f:c->KasT b}{Q:b->Prop}:∀{t:KasT c},Ok n lt t (λa=>Ok n lt (f a) Q)->Ok n lt (t.bind f) Q
 | .ret _,h=>h
 | .ask _ _ _,h=>(h.1,h.2.1,Ok.bind h.2.2,)
section
variable{n:Nat}{lt:Nat->Nat->Bool}
abbrev g(p:Array Nat)(i:Nat):Nat:=p.getD i 0
def vo(p:Array Nat)(i:Nat):g p i=(p[i]?).getD 0:=by simp[g,Array.getD_eq_getD_getElem?]
def  Bd(n:Nat)(p:Array Nat):Prop:=0<n/\∀i,g p i<n
def yp{p:Array Nat}{i j:Nat}(a:j<=p.size)(k:Nat):g (kas_rev p i j) k=if i<=k/\k<j then g p (i+j-1-k)else g p k:=by
 rw[vo,vo,vo];unfold kas_rev;rw[getElem?_mirror_all a k];split <;> rfl
def qA{p:Array Nat}{a d:Nat}(b:a<p.size)(c:d<=a)(k:Nat):g (bubble p a d) k=if k=a-d then g p a else if a-d<k/\k<=a then g p (k-1)else g p k:=by
 rw[vo,vo,vo,vo,getElem?_bubble b d c k]
 repeat' split
 all_goals rfl
def qB{p:Array Nat}{i j:Nat}(b:Bd n p)(a:j<=p.size):Bd n (kas_rev p i j):=(b.1,λk=>by
 rw[yp a];split
 .exact b.2 _
 .exact b.2 _,)
def ze{p:Array Nat}{a d:Nat}(b:Bd n p)(f:a<p.size)(g:d<=a):Bd n (bubble p a d):=(b.1,λk=>by
 rw[qA f g];by_cases c:k=a-d
 .rw[MV c];exact b.2 _
 .rw[MU c];by_cases e:a-d<k/\k<=a
  .rw[MV e];exact b.2 _
  .rw[MU e];exact b.2 _,)
def iO(p:Array Nat)(i j:Nat):(kas_rev p i j).size=p.size:=mirror_size _ _ _ _
def nQ(p:Array Nat)(i j:Nat):(kas_rev p i j).Perm p:=mirror_perm _ _ _ _
def  Up(lt:Nat->Nat->Bool)(p:Array Nat)(k:Nat):Prop:=∀i j,i<=j->j<k->lt (g p j) (g p i)=MR
def  Dn(lt:Nat->Nat->Bool)(p:Array Nat)(k:Nat):Prop:=∀i j,i<=j->j<k->lt (g p i) (g p j)=MR
structure Ord(lt:Nat->Nat->Bool):Prop where
 tr:∀a b c,lt b a=MR->lt c b=MR->lt c a=MR
 as:∀a b,lt a b=MQ->lt b a=MR
def Ord.rf{lt:Nat->Nat->Bool}(o:Ord lt)(a:Nat):lt a a=false:=by
 cases h:lt a a with
 |false=>rfl
 |true=>have:=o.as a a h;rw[h]at this;calc this
def Cn(o:Ord lt){p:Array Nat}{k:Nat}(h:Up lt p k)(d:1<=k)(b:lt (g p k) (g p<|k-1)=MR):Up lt p (k+1):=λi j a f=>by
 by_cases e:j=k
 .subst e;by_cases c:i=j
  .subst c;exact o.rf _
  .exact o.tr _ (g p<|j-1) _ (h i (j-1) ∅ ∅) b
 .exact h i j a ∅
def nR(o:Ord lt){p:Array Nat}{k:Nat}(h:Dn lt p k)(d:1<=k)(b:lt (g p<|k-1) (g p k)=MR):Dn lt p (k+1):=λi j a f=>by
 by_cases e:j=k
 .subst e;by_cases c:i=j
  .subst c;exact o.rf _
  .exact o.tr _ (g p<|j-1) _ b<|h i (j-1) ∅ ∅
 .exact h i j a ∅
def Eo(o:Ord lt)(p:Array Nat):Up lt p 1:=λi j c d=>by
 let b:i=0:=∅
 let a:j=0:=∅
 subst b;subst a;calc o.rf _
def zf(p:Array Nat){k:Nat}(a:k<=p.size)(h:Dn lt p k):Up lt (kas_rev p 0 k) k:=λi j c b=>by
 rw[yp a,yp a,MV (rE _,b,),MV (rE _,∅,)];calc h _ _ ∅ ∅
def  Eqs(lt:Nat->Nat->Bool)(p:Array Nat)(a b:Nat):Prop:=∀i j,a<=i->i<b->a<=j->j<b->lt (g p i) (g p j)=MR
def mV(o:Ord lt){p:Array Nat}{a b k:Nat}(l:b<=p.size)(n:b<=k)(e:Eqs lt p a b)(h:Dn lt p k):Dn lt (kas_rev p a b) k:=λi j d f=>by
 let same:∀m,lt (g (kas_rev p a b) m) (g p m)=MR/\lt (g p m) (g (kas_rev p a b) m)=false:=λm=>by
  rw[yp l];by_cases c:a<=m/\m<b
  .rw[MV c];exact(e _ _ ∅ ∅ c.1 c.2,e _ _ c.1 c.2 ∅ ∅,)
  .rw[MU c];exact(o.rf _,o.rf _,)
 calc o.tr _ (g p j) _ (same j).2 (o.tr _ (g p i) _ (h i j d f) (same i).1) |> λz=>z
def Ep(o:Ord lt){p:Array Nat}(b:Bd n p):∀(f k:Nat),1<=k->Up lt p k->Ok n lt (kas_asc p f k) (λm=>k<=m/\m<=k+f/\Up lt p m/\(m<k+f->lt (g p m) (g p<|m-1)=MQ))
 |0,k,h1,h=>(pT _,pT _,h,λz=>MW z<|sh _,)
 |f+1,k,h1,h=>by
  calc(b.2 _,b.2 _,?_,);cases c:lt (p.getD k 0) (p.getD (k-1) 0) with
  |true=>exact(pT _,∅,h,λ_=>c,)
  |false =>
   calc Ok.mono (Ep o b f (k+1) ∅ (Cn o h h1 c)) λm (i,e,d,a,)=>(∅,∅,d,λz=>a ∅,)
def Co(o:Ord lt):∀(f:Nat)(p:Array Nat)(k q:Nat),Bd n p->q+1<=k->k+f<=p.size->Dn lt p k->Eqs lt p (k-(q+1)) k ->
  Ok n lt (kas_desc f p k q) (λr=>r.1.Perm p/\r.1.size=p.size/\Bd n r.1/\k<=r.2.1/\r.2.1<=k+f/\Dn lt r.1 r.2.1/\r.2.2+1<=r.2.1/\Eqs lt r.1 (r.2.1-(r.2.2+1)) r.2.1)
 |0,p,k,q,b,hq,hs,h,e=>(My _,rfl,b,pT _,pT _,h,hq,e,)
 |f+1,p,k,q,b,hq,hs,h,e=>by
  calc(b.2 _,b.2 _,?_,);let one:∀(z:Array Nat),Eqs lt z k (k+1):=λz i j l m a x=>by
   let y:i=k:=∅
   let s:j=k:=∅
   subst y;subst s;exact o.rf _
  cases c:lt (p.getD k 0) (p.getD (k-1) 0) with
  |true =>
   dsimp only;rw[MV rfl];let B:=o.as _ _ c;by_cases w:q>0
   .rw[MV w];let A:k<=p.size:=∅
    let E:Dn lt (kas_rev p (k-(q+1)) k) (k+1):=mV o A ∅ e (nR o h ∅ B);refine Ok.mono (Co o f _ (k+1) 0 (qB b A) ∅ (by rw[iO];lia) E (one _)) λr (l,m,a,x,C,v,u,t,)=>(l.trans<|nQ _ _ _,by rw[m,iO],a,∅,∅,v,u,t,)
   .rw[MU w];refine Ok.mono (Co o f p (k+1) 0 b ∅ ∅ (nR o h ∅ B) (one _)) λr (l,m,a,x,C,v,u,t,)=>(l,m,a,∅,∅,v,u,t,)
  |false =>
   dsimp only;rw[MU cr];calc(b.2 _,b.2 _,?_,);cases d:lt (p.getD (k-1) 0) (p.getD k 0) with
   |true=>exact(My _,rfl,b,pT _,sL _ _,h,hq,e,)
   |false =>
    dsimp only;rw[MU cr];let D:Eqs lt p (k+1-(q+1+1)) (k+1):=λi j l m a x=>by
     have z1:k+1-(q+1+1)=k-(q+1):=∅
     rw[z1]at l a;by_cases y:i=k
     .subst y;by_cases s:j=i
      .subst s;exact o.rf _
      .exact o.tr _ (g p<|i-1) _ (e _ _ ∅ ∅ a ∅) c
     .by_cases s:j=k
      .subst s;exact o.tr _ (g p<|j-1) _ d<|e _ _ l ∅ ∅ ∅
      .exact e _ _ l ∅ a ∅
    calc Ok.mono (Co o f p (k+1) (q+1) b ∅ ∅ (nR o h ∅ d) D) λr (l,m,a,x,C,v,u,t,)=>(l,m,a,∅,∅,v,u,t,)
def DE(o:Ord lt){p:Array Nat}{k a:Nat}(b:Bd n p)(c:1<=k)(f:k<=a)(e:a<=p.size)(h:Dn lt p k) :
  Ok n lt (kas_tail3 k a p) (λr=>r.2.Perm p/\r.2.size=p.size/\Bd n r.2/\1<=r.1/\r.1<=a/\Up lt r.2 r.1):=by
 unfold kas_tail3;calc Ok.bind<|Ok.mono (Ep o (qB b ∅) (a-k) k c<|zf p ∅ h) λm (i,g,d,_,)=>?_;calc(nQ _ _ _,iO _ _ _,qB b ∅,∅,∅,d,)
def F9(o:Ord lt){p:Array Nat}{k a:Nat}(b:Bd n p)(D:1<=k)(C:k<a)(B:a<=p.size)(h:Dn lt p (k+1)) :
  Ok n lt (kas_descPart k a p) (λr=>r.2.Perm p/\r.2.size=p.size/\Bd n r.2/\1<=r.1/\r.1<=a/\Up lt r.2 r.1):=by
 unfold kas_descPart;let one:Eqs lt p (k+1-(0+1)) (k+1):=λi j t s m A=>by
  let y:i=k:=∅
  let x:j=k:=∅
  subst y;subst x;exact o.rf _
 calc Ok.bind<|Ok.mono (Co o (a-(k+1)) p (k+1) 0 b ∅ ∅ h one) λr (t,s,m,A,F,w,E,z,)=>?_;by_cases u:r.2.2>0
 .rw[MV u];let v:r.2.1<=r.1.size:=∅
  refine Ok.mono (DE o (qB m v) ∅ ∅ (by rw[iO];lia) (mV o v (pT _) z w)) λq (l,g,f,e,d,c,)=>(l.trans<|(nQ _ _ _).trans t,by rw[g,iO,s],f,e,d,c,)
 .rw[MU u];calc Ok.mono (DE o m ∅ ∅ ∅ w) λq (l,g,f,e,d,c,)=>(l.trans t,by rw[g,s],f,e,d,c,)
def HI(o:Ord lt){p:Array Nat}{a:Nat}(b:Bd n p)(H:1<=a)(v:a<=p.size) :
  Ok n lt (kas_count a p) (λr=>r.2.Perm p/\r.2.size=p.size/\Bd n r.2/\1<=r.1/\r.1<=a/\Up lt r.2 r.1):=by
 unfold kas_count;calc Ok.bind<|Ok.mono (Ep o b (a-1) 1 (pT _)<|Eo o p) λm (l,I,f,G,)=>?_;by_cases s:m=a
 .subst s;rw[MV (beq_self_eq_true m)];exact(My _,rfl,b,l,pT _,f,)
 .rw[MU (~~~s)];let w:lt (g p m) (g p<|m-1)=true:=G ∅;let u:=o.as _ _ w;by_cases t:m>1
  .rw[MV t];calc(b.2 _,b.2 _,?_,);cases c:lt (p.getD 0 0) (p.getD (m-1) 0) with
   |true=>exact(My _,rfl,b,l,∅,f,)
   |false =>
    dsimp only;rw[MU cr];let d:Eqs lt p 0 m:=λi j _ hi _ h=>o.tr _ (g p<|m-1) _ (f j (m-1) ∅ ∅) (o.tr _ (g p 0) _ c (f 0 i (rE _) hi) |> λz=>z) |> λz=>z
    let k:Dn lt p (m+1):=nR o (λi j q h=>d i j (rE _) ∅ (rE _) h) ∅ u;refine Ok.mono (F9 o (qB b ∅) l ∅ (by rw[iO];lia) (mV o ∅ ∅ d k)) λr (F,E,D,C,B,A,)=>(F.trans<|nQ _ _ _,by rw[E,iO],D,C,B,A,)
  .rw[MU t];let e:m=1:=∅
   subst e;let k:Dn lt p (1+1):=nR o (λi j q h=>by
    let y:i=0:=∅
    let x:j=0:=∅
    subst y;subst x;exact o.rf _) (pT _) u
   calc F9 o b (pT _) ∅ v k
def Er(o:Ord lt){p:Array Nat}{k:Nat}(b:Bd n p)(h:Up lt p k):∀(f l r:Nat),l<=r->r<=k->r-l<=f->(∀i,i<l->lt (g p k) (g p i)=MR)->(∀i,r<=i->i<k->lt (g p k) (g p i)=MQ) ->
  Ok n lt (kas_place p k f l r) (λm=>m<=k/\(∀i,i<m->lt (g p k) (g p i)=MR)/\∀i,m<=i->i<k->lt (g p k) (g p i)=MQ)
 |0,l,r,h1,h2,h3,hl,hr=>(∅,hl,λi j a=>hr i ∅ a,)
 |f+1,l,r,h1,h2,h3,hl,hr=>by
  unfold kas_place;by_cases c:l ≥ r
  .rw[MV c];exact(∅,hl,λi j a=>hr i ∅ a,)
  .rw[MU c];calc(b.2 _,b.2 _,?_,);cases d:lt (p.getD k 0) (p.getD ((l+r) / 2) 0) with
   |true =>
    dsimp only;rw[MV rfl];refine Er o b h f l ((l+r) / 2) ∅ ∅ ∅ hl λi j a=>?_
    cases e:lt (g p k) (g p i) with
    |true=>rfl
    |false =>
     have z:=o.tr _ _ _ (h ((l+r) / 2) i j a) e;rw[d]at z;exact z.symm
   |false =>
    dsimp only;rw[MU cr];calc Er o b h f ((l+r) / 2+1) r ∅ h2 ∅ (λi j=>?_) hr;calc o.tr _ (g p<|(l+r) / 2) _ (h i ((l+r) / 2) ∅ ∅) d
def Ga(o:Ord lt):∀(f:Nat)(p:Array Nat)(k:Nat),Bd n p->k+f<=p.size->Up lt p k->Ok n lt (kas_bin f p k) (λr=>r.Perm p/\r.size=p.size/\Bd n r/\Up lt r (k+f))
 |0,p,k,b,hs,h=>(My _,rfl,b,h,)
 |f+1,p,k,b,hs,h=>by
  unfold kas_bin;calc Ok.bind<|Ok.mono (Er o b h k 0 k (rE _) (pT _) ∅ (λi z=>MW z<|N1 _) λi A m=>MW m ∅) λl (A,m,y,)=>?_;let d:k<p.size:=∅
  let e:k-l<=k:=Nat.sub_le _ _;let t:k-(k-l)=l:=∅
  let up:Up lt (bubble p k<|k-l) (k+1):=λi j q B=>by
   rw[qA d e,qA d e,t];by_cases s:j=l
   .rw[MV s];by_cases a:i=l
    .rw[MV a];exact o.rf _
    .rw[MU a,MU ∅];exact m i ∅
   .rw[MU s];by_cases a:i=l
    .rw[MV a,MV ∅];exact o.as _ _<|y (j-1) ∅ ∅
    .rw[MU a];by_cases g:l<j/\j<=k
     .rw[MV g];by_cases c:l<i/\i<=k
      .rw[MV c];exact h (i-1) (j-1) ∅ ∅
      .rw[MU c];exact h i (j-1) ∅ ∅
     .rw[MU g];by_cases c:l<i/\i<=k
      .exact MW g ∅
      .rw[MU c];exact h i j q ∅
  refine Ok.mono (Ga o f _ (k+1) (ze b d e) (by rw[bubble_size];lia) up) λr (x,w,v,u,)=>(x.trans<|bubble_perm _ _ _,by rw[w,bubble_size],v,?_,)
  let:k+(f+1)=k+1+f:=∅
  rw[this];calc u
def ok_sort(o:Ord lt)(a:1<=n):Ok n lt (kas_sort n) (λr=>r.Perm (Fk<|gl n)/\r.size=n/\Up lt r n):=by
 unfold kas_sort;let b:Bd n (Fk<|gl n):=⟨a,λi=>by
  rw[vo];simp only[List.getElem?_toArray];cases e:(gl n)[i]? with
  |none=>exact a
  |some v =>
   let:=gW.mp<|KJ e;simpa using this⟩
 let l:(Fk<|gl n).size=n:=by simp
 calc Ok.bind<|Ok.mono (HI o b a ∅) λr (g,u,k,t,s,d,)=>?_;by_cases c:r.1<n
 .rw[MV c];let h:max r.1 1=r.1:=∅
  rw[h];refine Ok.mono (Ga o (n-r.1) r.2 r.1 k ∅ d) λq (j,p,m,f,)=>(j.trans g,∅,?_,)
  let:r.1+(n-r.1)=n:=∅
  rw[this]at f;exact f
 .rw[MU c];let e:r.1=n:=∅
  rw[e]at d;calc(g,∅,d,)
end
end Srt
namespace _L
open PySem PySem.Spec PySem.W PyProof.Rows
def  ltP(p q:Int×Int):Bool:=MS (p.1<q.1) || (MS (p.1=q.1) && decide (p.2<q.2))
def Cp(ps:M3 (Int×Int)):Srt.Ord λi j=>ltP (ps.getD i (0,0)) (ps.getD j (0,0)) where
 tr:=λa b c e d=>by
  generalize ps.getD a (0,0)=x at e⊢;generalize ps.getD b (0,0)=y at e d;generalize ps.getD c (0,0)=z at d⊢;simp only[ltP,NF,decide_eq_false_iff_not,wZ]at e d⊢;lia
 as:=λa b h=>by
  generalize ps.getD a (0,0)=x at h⊢;generalize ps.getD b (0,0)=y at h⊢;simp only[ltP,Bool.or_eq_true,decide_eq_true_eq,wh,NF,decide_eq_false_iff_not,wZ]at h⊢;lia
def sR{n:Nat}{lt:Nat->Nat->Bool}{c:Type}{b:Nat->Nat->(Bool->Ct->Prop)->Ct->Prop}{s:Ct}(d:∀i j C,i<n->j<n->C (lt i j) s->b i j C s):∀{t:KasT c}{Q:c->Ct->Prop},Srt.Ok n lt t (λa=>Q a s)->t.kasWp b Q s
 | .ret _,_,h=>h
 | .ask i j _,_,h=>d i j _ h.1 h.2.1<|sR d h.2.2
variable{prog:An}{w:zZ}{A:Cm}{E:zY->Ct->Prop}{s:Ct}
def AF{x y:AE}{a b c d:Int}{k j i g:Tok}{Q:Bool->Ct->Prop}(o:IsTup s.heap x #[.int a k,.int b j])(n:IsTup s.heap y #[.int c i,.int d g])(h:Q (ltP (a,b) (c,d)) s) :
  D8 (model prog w) A (keyLt' (tuples' MQ) (.ref x)<|.ref y) Q E s:=by
 let(v,q,_,B,t):=o;let(u,p,_,z,r):=n;calc kat_lt q t p r ?_;refine kat_cons<|Av<|kat_go (λf=>kat_yes<|kat_cons<|Av<|kat_go (λl=>kat_yes<|kat_nil ?_) λl=>kat_no<|kat_one _ _<|lt_int ?_) λf=>kat_no ?_
 .let z1:a=c:= ~~~f
  let m:b=d:= ~~~l
  let e:ltP (a,b) (c,d)=MS ((#[zY.int a k,zY.int b j]:Array zY).size<(#[zY.int c i,zY.int d g]:Array zY).size):=by
   subst z1;subst m;simp[ltP]
  rw[e]at h;exact h
 .let z1:a=c:= ~~~f
  let e:ltP (a,b) (c,d)=MS (b<d):=by subst z1;simp[ltP]
  rw[e]at h;exact h
 .let z1:a≠c:= ~~~f
  let e:ltP (a,b) (c,d)=MS (a<c):=by simp[ltP,z1]
  rw[e]at h;calc oneLt_int h
def zg{a:AE}{vs:M3 zY}{n:Nat}{G:Array Nat->Prop}{P:PySem.Fin->Ct->Prop}(q:s.heap.get? a=MO (seqObj "list" vs.toArray n)) (x:⇑vs<64)
  (T:2<=⇑vs->∀s':Ct,(∀b o,b≠a->s.heap.get? b=MO o->s'.heap.get? b=MO o)->∀S,D8 (model prog w) A (keyKind' vs.toArray) (fun y B=>(kas_sort ⇑vs).kasWp (kas_ask prog w A y vs) (λp H=>H=s'/\G p) B) S s')
  (h:∀out:Array zY,((⇑vs<2/\out=vs.toArray)\/∃p:Array Nat,p.size=⇑vs/\G p/\out=Fk (p.toList.map λi=>vs.getD i zY.none))->P (.done<|.ret .none) { s with heap:=sortedHeap s.heap a vs out }) :
  D8 (model prog w) A (KY.«list.sort» ([.ref a],[],)) P E s:=by
 let D:a<↥s:=bn q;let I:vs.toArray.size<=AY:=by rw[eg,K5];lia
 rw[list_sort_plain];calc zb<|listItems_at q U<|zb<|listUpdate_at q U ?_ I<|rE _;let(t,l):∃t,(s.heap.update a<|on λ_=>#[]).get? a=MO (seqObj "list" #[] t):=(_,get?_update_seq q<|λ_=>#[],);refine zb (seqEpoch_at l U<|zb<|LW (zb<|LX (zz ?_)<|rE _) (by show ⇑vs<=_;rw[K5];lia));generalize f:({ s with heap:=((s.heap.update a<|on λ_=>#[]).push<|seqObj "tuple" vs.toArray 0).push (seqObj "list" #[] 0) }:Ct)=s6;let d:s6.heap.get? a=MO (seqObj "list" #[] t):=by
  subst f;show(((s.heap.update a<|on λ_=>#[]).push<|seqObj "tuple" vs.toArray 0).push<|seqObj "list" #[] 0).get? a=_;rw[AT _ _ _ (by rw[size_push',wE];exact qo (rJ D)),AT _ _ _ (by rw[wE];exact qo D)];exact l
 let keep:∀b o,b≠a->s.heap.get? b=MO o->s6.heap.get? b=MO o:=λb o L e=>by
  subst f;let m:b<↥s:=bn e;show(((s.heap.update a<|on λ_=>#[]).push<|seqObj "tuple" vs.toArray 0).push<|seqObj "list" #[] 0).get? b=_;rw[AT _ _ _ (by rw[size_push',wE];exact qo (rJ m)),AT _ _ _ (by rw[wE];exact qo m),No _ _ _ _ L];exact e
 let fin:∀out:Array zY,out.size<=AY+1->((⇑vs<2/\out=vs.toArray)\/∃p:Array Nat,p.size=⇑vs/\G p/\out=Fk (p.toList.map λi=>vs.getD i zY.none))->P (.done<|.ret .none) { s6 with heap:=s6.heap.update a (on λ_=>out) }:=λout _ u=>by
  subst f;exact h out u
 show D8 (model prog w) A _ P E s6;dsimp only;by_cases r:⇑vs<2
 .let j:vs.toArray.size<2:=by rw[eg];exact r
  rw[MV j,MV j];calc zb<|zp ?_;rw[StateT.run_pure];calc zb<|zp ?_;dsimp only;let M:(arrOf<|SortSt.mk' general' (vs.toArray.zip vs.toArray) #[] 7 MP).map (·.2)=vs.toArray:=by
   show(vs.toArray.zip vs.toArray).map (·.2)=vs.toArray;apply yi.mp
   rw[Array.toList_map,Array.toList_zip];exact List.map_snd_zip<|pT _
  rw[M];refine zb (seqEpoch_at d U<|zb<|listUpdate_at d U ?_ (rE _) (by rw[eg,K5];lia));simp only[bne_self_eq_false,wq,if_false];exact zp<|fin vs.toArray (by rw[eg,K5];lia) (.inl (r,U,))
 .let j:¬ vs.toArray.size<2:=by rw[eg];exact r
  rw[MU j,MU j];refine zb<|FC (T ∅ s6 keep (λ_ _=>False)) (fun y B J=>?_) λ_ _ z=>z.elim
  refine zb (FC (kat_run (Q:=λc s'=>s'=s6/\failedOf c=MP/\∃p:Array Nat,p.size=⇑vs/\G p/\arrOf c=p.map (kas_item<|vs.toArray.zip vs.toArray)) U ∅ x
   (λp c s' R O N F=>(F.1,N,p,R,F.2,O,)) J) ?_ λ_ _ z=>z)
  rintro⟨⟨⟩,c⟩ s' ⟨rfl,K,p,C,g,v⟩;dsimp only;rw[kat_snds U v,K];let k:(Fk<|p.toList.map λi=>vs.getD i zY.none).size<=AY+1:=by rw[eg,bQ,w5,C,K5];lia
  calc zb<|seqEpoch_at d U<|zb<|listUpdate_at d U ?_ (rE _) k;simp only[bne_self_eq_false,wq,if_false];calc zp<|fin _ k<|.inr (p,C,g,U,)
def vp{l:AE}{vs:M3 zY}{G:Array Nat->Prop}{Q:zY->Ct->Prop}(F:s.heap.IsList l vs.toArray)(t:⇑vs<64)
  (J:2<=⇑vs->∀s':Ct,(∀b o,s.heap.get? b=MO o->s'.heap.get? b=MO o)->∀n,D8 (model prog w) A.in1.in1 (keyKind' vs.toArray) (fun x z=>(kas_sort ⇑vs).kasWp (kas_ask prog w A.in1.in1 x vs) (λp y=>y=s'/\G p) z) n s')
  (h:∀(out:Array zY)(h':AU)(D:AE)(c:Nat),((⇑vs<2/\out=vs.toArray)\/∃p:Array Nat,p.size=⇑vs/\G p/\out=Fk (p.toList.map λi=>vs.getD i zY.none))->↥s<=D ->
   (∀b o,s.heap.get? b=MO o->h'.get? b=MO o)->h'.get? D=MO (seqObj "list" out c)->Q (.ref D) { s with heap:=h' }) :
  D8 (model prog w) A (call (.builtin "sorted") [.ref l]) Q E s:=by
 let K:vs.toArray.size<=AY:=by rw[eg,K5];lia
 calc Calls.call_function_entry kind_sorted plain_sorted entry_sorted (args_sorted1 _) ?_;unfold KY.«sorted»;refine zb (m:=checkCount "sorted" 1 1 _) (zp<|zb<|collect_list F (zb<|LX ?_ (by rw[K5];lia)) (by rw[K5];lia));generalize u:(s.heap.push<|seqObj "list" #[] 0).update ↥s (on (· ++ vs.toArray))=g;let e:g.objs.size=↥s+1:=by rw[←u,wE,size_push']
 let d:(g.push<|seqObj "list" vs.toArray 0).get? (↥s+1)=MO (seqObj "list" vs.toArray 0):=by rw[←e];exact ii _ U
 let keep:∀b o,s.heap.get? b=MO o->(g.push<|seqObj "list" vs.toArray 0).get? b=MO o:=λb o q=>by
  let a:b<↥s:=bn q;rw[AT _ _ _ (by rw[e];exact qo (rJ a)),←u,No _ _ _ _<|qo a,AT _ _ _ (qo a)];exact q
 show D8 _ _ _ _ _ { s with heap:=g.push (seqObj "list" vs.toArray 0) };rw[e];refine zb<|zz<|LY slot_list_sort (_,d,U,) entry_list_sort ?body<|args_list_sort _
 case body =>
  refine zg (s:={ s with heap:=g.push (seqObj "list" vs.toArray 0) }) (G:=G) d t (λH s' B n=>J H s' (λb o q=>B b o (qo<|rJ<|bn q)<|keep b o q) n) λout C=>(_,U,zp (_,U,?_,),)
  let a:↥s+1<(g.push<|seqObj "list" vs.toArray 0).objs.size:=bn d;let(k,r):∃k,((g.push<|seqObj "list" vs.toArray 0).update (↥s+1)<|on λ_=>#[]).get? (↥s+1)=MO (seqObj "list" #[] k):=(_,get?_update_seq d<|λ_=>#[],);let v:∀b,b<(g.push<|seqObj "list" vs.toArray 0).objs.size->((((g.push<|seqObj "list" vs.toArray 0).update (↥s+1)<|on λ_=>#[]).push<|seqObj "tuple" vs.toArray 0).push<|seqObj "list" #[] 0).get? b=((g.push<|seqObj "list" vs.toArray 0).update (↥s+1)<|on λ_=>#[]).get? b:=λb f=>by
   rw[AT _ _ _ (by rw[size_push',wE];exact qo (rJ f)),AT _ _ _ (by rw[wE];exact qo f)]
  let I:((((g.push<|seqObj "list" vs.toArray 0).update (↥s+1)<|on λ_=>#[]).push<|seqObj "tuple" vs.toArray 0).push<|seqObj "list" #[] 0).get? (↥s+1)=MO (seqObj "list" #[] k):=by rw[v _ a];exact r
  calc h out (sortedHeap (g.push<|seqObj "list" vs.toArray 0) (↥s+1) vs out) (↥s+1) _ C (rZ _) (λb o q=>?_)<|get?_update_seq I<|λ_=>out;let f:b<↥s:=bn q;show(AU.update _ _ _).get? b=MO o;let j:b≠↥s+1:=qo<|rJ f;rw[No _ _ _ _ j,v _<|tm (rJ f) a,No _ _ _ _ j];calc keep b o q
def Paired.map_of{c b a:Type}{F:c->b->Prop}{f:a->c}{g:a->b}:∀{l:M3 a},(∀i∈l,F (f i)<|g i)->Paired F (l.map f) (l.map g)
 | [],_=>.nil
 |i :: l,h=>.cons (h i gb)<|Paired.map_of λj d=>h j<|eY _ d
def iP{a:Type}(d:a)(l:M3 a):(gl ⇑l).map (λi=>l.getD i d)=l:=by
 apply List.ext_getElem
 .simp
 .intro i c b;simp only[List.getElem_map,List.getElem_range];simp[iY,b]
variable{X:Cx}
def nU:iM X (.builtin "sorted") (λus H Q=>∃a xs ps,us=[.ref a]/\SqL X.K H a xs/\PL H xs ps/\⇑xs<64 /\
  ∀D ys qs,H D=MP->PL (upd H D<|.lst ys) ys qs->qs.Perm ps->qs.Pairwise (λp q=>ltP q p=MR)->Q (.ref D) (upd H D<|.lst ys)):=by
 intro a0 s σ H us vs Q I r h;let(a,xs,ps,rfl,hq,hP,a1,q):=h;let(u,rfl,rx):=r.one;cases (show u=zY.ref a from rx);let(b,rv,F,hz):=I.list hq;let l1:=⇑rv;let l2:=⇑hP;let tup:∀i,i<⇑b->∃(r:AE)(A y:Tok),b.getD i zY.none=.ref r/\xs.getD i .non=.ref r/\H r=MO (.tup [.int (ps.getD i (0,0)).1,.int (ps.getD i (0,0)).2])/\IsTup s.heap r #[.int (ps.getD i (0,0)).1 A,.int (ps.getD i (0,0)).2 y]:=λi hi=>by
  let S:xs[i]?=MO xs[i]:=KG ∅;let(p,r,f,k,P):=hP.get S;let(u,e4,r4):=rv.get S;rw[k]at r4;cases (show u=zY.ref r from r4);let(_,ti,rt,m):=(show eK X.prog X.w H s.heap r (.tup [.int p.1,.int p.2])from I.hok r _ P);let(u1,u2,rfl,r1,r2):=rt.two;let(A,rfl):=(show ∃t,u1=zY.int p.1 t from r1);let(y,rfl):=(show ∃t,u2=zY.int p.2 t from r2);let ep:ps.getD i (0,0)=p:=by rw[iY,f];rfl
  refine(r,A,y,by rw[iY,e4];rfl,by rw[iY,S,k];rfl,by rw[ep];exact P,by rw[ep];exact m,)
 refine vp (G:=λp=>p.Perm (Fk<|gl ⇑b)/\Srt.Up (λi j=>ltP (ps.getD i (0,0))<|ps.getD j (0,0)) p ⇑b) F.isList ∅ (λh2 B R E'=>?_) λout h' D c ho hD R e=>?_
 .let N:∀{r:AE}{x:Array zY},IsTup s.heap r x->IsTup B.heap r x:=λ(o,e,c,)=>(o,R _ _ e,c,)
  let Es:KatTups B.heap b ((gl ⇑b).map λi=>match (b.getD i zY.none)with | .ref r=>(match B.heap.get? r with|some o=>(match o.data with | .seq x _=>(x[0]?).getD zY.none|_=>zY.none)|none=>zY.none)|_=>zY.none):=by
   let all:∀(l:M3 Nat),(∀i∈l,i<⇑b)->KatTups B.heap (l.map λi=>b.getD i zY.none) (l.map λi=>match (b.getD i zY.none)with | .ref r=>(match B.heap.get? r with|some o=>(match o.data with | .seq x _=>(x[0]?).getD zY.none|_=>zY.none)|none=>zY.none)|_=>zY.none):=by
    intro l;induction l with
    |nil=>intro _;exact KatTups.nil
    |cons i l ih =>
     intro hl;let(r,A,y,f,_,_,m):=tup i<|hl i gb;let(o,O,co,n,d):=N m;rw[gs,gs,f];calc KatTups.cons O co d ?_<|ih λj E=>hl j<|eY _ E;dsimp only;rw[O];dsimp only;rw[d];rfl
   let z:=all (gl ⇑b) λi hi=>gW.mp hi
   rw[iP]at z;exact z
  refine kat_kind (T:=.type "int") Es (by simp;lia) (λv hv=>?_) U ?_
  .let(i,hi,rfl):=ck.mp hv;let(r,A,y,f,_,_,m):=tup i<|gW.mp hi;let(o,O,co,n,d):=N m;rw[f];dsimp only;rw[O];dsimp only;rw[d];exact Looks.of_pure U
  .refine sR (lt:=λi j=>ltP (ps.getD i (0,0))<|ps.getD j (0,0)) (n:=⇑b) (λi j C hi E hC=>?_)<|Srt.Ok.mono (Srt.ok_sort (Cp ps) ∅) λp (b1,_,b3,)=>(U,b1,b3,);let(r,A,y,f,_,_,m):=tup i hi;let(r',t3,t4,Z,_,_,W):=tup j E;show D8 _ _ (keyLt' _ (b.getD i zY.none)<|b.getD j zY.none) _ _ B;rw[f,Z];exact AF (N m) (N W) hC
 ·
  let L:∃(F:M3 Nat),F.Perm (gl ⇑b)/\out=Fk (F.map λi=>b.getD i zY.none)/\(F.map λi=>ps.getD i (0,0)).Pairwise (λp q=>ltP q p=MR):=by
   rcases ho with⟨h2,rfl⟩|⟨p,hp,⟨J,g2⟩,rfl⟩
   .refine(gl ⇑b,.refl _,by rw[iP],?_,);let:⇑b=0\/⇑b=1:=∅
    rcases this with z|z <;> rw[z] <;> simp[jA]
   .refine(p.toList,~~~J.toList,U,?_,);rw[Nj];intro i j hi E Y;simp only[bQ,w5]at hi E;simp only[List.getElem_map,Array.getElem_toList];let z:=g2 i j (rM Y) ∅;let f:Srt.g p i=p[i]:=by simp[Srt.g,Array.getD,hi]
    let k:Srt.g p j=p[j]:=by simp[Srt.g,Array.getD,E]
    rw[f,k]at z;exact z
  let(pl2,J,rfl,g3):=L;let lt:∀i∈pl2,i<⇑b:=λi hi=>gW.mp<|J.mem_iff.mp hi
  let hn:H D=none:=I.hok.fresh hD;let vz:Vals (pl2.map λi=>xs.getD i .non) (pl2.map λi=>b.getD i zY.none):=Paired.map_of λi hi=>by
   let(r,_,_,f,k,_):=tup i<|lt i hi;rw[f,k];rfl
  let M:⇑(pl2.map λi=>xs.getD i V.non)<=AY:=by
   rw[bQ,J.length_eq,jf,K5];lia
  refine(.ref D,upd H D<|.lst<|pl2.map λi=>xs.getD i .non,I.laid (t':=s.toks) R hD (M,_,c,vz,e,),U,q D _ (pl2.map λi=>ps.getD i (0,0)) hn (Paired.map_of λi hi=>?_) ?_ g3,)
  .let(r,_,_,_,k,P,_):=tup i<|lt i hi;exact(r,k,iF hn _ _ P,)
  .let z:=J.map λi=>ps.getD i (0,0)
   rw[←l1,l2,iP]at z;calc z
def gQ(p:Pr)(R:M3 Pr)(n:Int):inP (p :: R) n=(inR n p || inP R n):=by
 unfold inP;rw[mq]
def cP{n:Int}{p:Pr}:inR n p=MQ↔p.1<=n/\n<=p.2:=by
 unfold inR;simp only[wh,decide_eq_true_eq]
def jW{n:Int}{p:Pr}:inR n p=MR↔¬ (p.1<=n/\n<=p.2):=by
 rw[←cP];simp
def yq{n:Int}{R:M3 Pr}:inP R n=MQ↔∃p∈R,p.1<=n/\n<=p.2:=by
 unfold inP;rw[iv];calc(λ(p,h,e,)=>(p,h,cP.mp e,),λ(p,h,e,)=>(p,h,cP.mpr e,),)
def md{n:Int}{R:M3 Pr}(h:∀p∈R,¬ (p.1<=n/\n<=p.2)):inP R n=false:=by
 cases e:inP R n with
 |false=>rfl
 |true=>obtain⟨p,a,z⟩:=yq.mp e;calc MW z<|h p a
def Apart.nil:Apart []:=((λp a=>by cases a),M7,)
def Apart.tail{a:Pr}{A:M3 Pr}(h:Apart (a :: A)):Apart A/\a.1<=a.2/\∀p∈A,a.2+2<=p.1:=by
 let g:=List.pairwise_cons.mp h.gap;calc((λp b=>h.le p<|eY _ b,g.2,),h.le a gb,λp b=>g.1 p b,)
def Apart.behind{a:Pr}{A:M3 Pr}(h:Apart (a :: A)){n:Int}(c:n<=a.2):inP A n=false:=md λp b z=>by
 let:=h.tail.2.2 p b;lia
def Apart.take{R:M3 Pr}(h:Apart R)(i:Nat):Apart (R.take i):=(λp a=>h.le p<|jh a,h.gap.sublist<|NO _ _,)
structure i6(S A B A0 B0:M3 Pr):Prop where
 ap:Apart S
 aA:Apart A
 aB:Apart B
 mem:∀n,(inP A0 n && inP B0 n)=(inP S n || (inP A n && inP B n))
 gap:∀s∈S,(∀p∈A,s.2+2<=p.1)\/(∀p∈B,s.2+2<=p.1)
def i6.start{A B:M3 Pr}(c:Apart A)(b:Apart B):i6 [] A B A B:=⟨Apart.nil,c,b,λn=>by simp[inP],λs a=>by cases a⟩
def i6.fin{S A B b a:M3 Pr}(h:i6 S A B b a)(e:A=[]\/B=[])(n:Int):inP S n=(inP b n && inP a n):=by
 rw[h.mem n];rcases e with e|e <;> rw[e] <;> simp[inP]
def i6.left{S A B k j:M3 Pr}{a b c:Pr}(h:i6 S (a :: A) (b :: B) k j)(r:a.2<b.2)(t:c.1=max a.1 b.1/\c.2=min a.2 b.2) :
  (c.1<=c.2->i6 (S++[c]) A (b :: B) k j)/\(¬ c.1<=c.2->i6 S A (b :: B) k j):=by
 let(o,u,q):=h.aA.tail;let m:∀n,((inR n a || inP A n) && (inR n b || inP B n))=(inR n c || (inP A n && (inR n b || inP B n))):=λn=>by
  let i:inR n c=(inR n a && inR n b):=by
   rw[py,wh,cP,cP,cP];lia
  rw[i];cases e:inR n a with
  |false=>simp
  |true =>
   let z:=cP.mp e;rw[h.aA.behind z.2,h.aB.behind ∅];cases inR n b <;> rfl
 let l:∀s∈S,(∀p∈A,s.2+2<=p.1)\/(∀p∈b :: B,s.2+2<=p.1):=λs d=>by
  rcases h.gap s d with z|z
  .exact .inl λp g=>z p<|eY _ g
  .exact .inr z
 refine(λf=>(h.ap.snoc f λs d=>?_,o,h.aB,λn=>?_,λs d=>?_,),λf=>(h.ap,o,h.aB,λn=>?_,l,),)
 .rcases h.gap s d with z|z
  .let:=z a gb;lia
  .let:=z b gb;lia
 .rw[h.mem n,gQ,gQ,m n,dZ,Og]
 .rcases eA.mp d with d|d
  .exact l s d
  .let e:s=c:= ~~~d
   refine .inl λp g=>?_
   let:=q p g;rw[e];lia
 .let i:inR n c=false:=jW.mpr ∅;rw[h.mem n,gQ,gQ,m n,i,M2]
def i6.right{S A B k j:M3 Pr}{a b c:Pr}(h:i6 S (a :: A) (b :: B) k j)(q:¬ a.2<b.2)(r:c.1=max a.1 b.1/\c.2=min a.2 b.2) :
  (c.1<=c.2->i6 (S++[c]) (a :: A) B k j)/\(¬ c.1<=c.2->i6 S (a :: A) B k j):=by
 let(b1,b2,o):=h.aB.tail;let m:∀n,((inR n a || inP A n) && (inR n b || inP B n))=(inR n c || ((inR n a || inP A n) && inP B n)):=λn=>by
  let i:inR n c=(inR n a && inR n b):=by
   rw[py,wh,cP,cP,cP];lia
  rw[i];cases e:inR n b with
  |false=>simp
  |true =>
   let z:=cP.mp e;rw[h.aB.behind z.2,h.aA.behind ∅];cases inR n a <;> rfl
 let l:∀s∈S,(∀p∈a :: A,s.2+2<=p.1)\/(∀p∈B,s.2+2<=p.1):=λs d=>by
  rcases h.gap s d with z|z
  .exact .inl z
  .exact .inr λp g=>z p<|eY _ g
 refine(λf=>(h.ap.snoc f λs d=>?_,h.aA,b1,λn=>?_,λs d=>?_,),λf=>(h.ap,h.aA,b1,λn=>?_,l,),)
 .rcases h.gap s d with z|z
  .let:=z a gb;lia
  .let:=z b gb;lia
 .rw[h.mem n,gQ,gQ,m n,dZ,Og]
 .rcases eA.mp d with d|d
  .exact l s d
  .let e:s=c:= ~~~d
   refine .inr λp g=>?_
   let:=o p g;rw[e];lia
 .let i:inR n c=false:=jW.mpr ∅;rw[h.mem n,gQ,gQ,m n,i,M2]
structure qC(F T:M3 Pr)(lo hi st:Int):Prop where
 ap:Apart F
 lt:∀s∈F,s.2+2<=st
 rng:∀s∈F,lo<=s.1/\s.2<=hi
 tk:∀p∈T,p.2<st
 fr:st=lo\/∃p∈T,st=p.2+1
 ge:lo<=st
 mem:∀n,lo<=n->n<=hi->n<st->inP F n = !inP T n
def qC.start(lo hi:Int):qC [] [] lo hi lo:=(Apart.nil,(λs a=>by cases a),(λs a=>by cases a),(λs a=>by cases a),.inl U,pr _,λn c _ b=>∅,)
def qC.turn{F T:M3 Pr}{lo hi st st' e:Int}{p:Pr}(h:qC F T lo hi st)(ap:Apart (T++[p]))(D:e=min (p.1-1) hi)(C:st'=max st (p.2+1)) :
  (st<=e->qC (F++[(st,e)]) (T++[p]) lo hi st')/\(¬ st<=e->qC F (T++[p]) lo hi st'):=by
 let(B,A,v):=ap.init;let j:∀n,lo<=n->n<st->inR n p=false:=λn g m=>jW.mpr λz=>by
  rcases h.fr with q|⟨o,r,q⟩
  .lia
  .let:=v o r;lia
 let d:∀q∈T++[p],q.2<st':=λq b=>by
  rcases eA.mp b with b|b
  .let:=h.tk q b;lia
  .let e:q=p:= ~~~b
   rw[e];lia
 let f:st'=lo\/∃q∈T++[p],st'=q.2+1:=by
  by_cases c:p.2+1<=st
  .let u:st'=st:=∅
   rw[u];rcases h.fr with q|⟨o,r,q⟩
   .exact .inl q
   .exact .inr (o,fE _ r,q,)
  .exact .inr (p,by simp,∅,)
 let i:∀n,st<=n->inP T n=false:=λn w=>md λq b z=>by have:=h.tk q b;lia
 let l:∀n,st<=n->inP F n=false:=λn w=>md λq b z=>by have:=h.lt q b;lia
 refine(λk=>(h.ap.snoc k h.lt,λs a=>?_,λs a=>?_,d,f,by have:=h.ge;lia,λn g m x=>?_,),λk=>(h.ap,λs a=>?_,h.rng,d,f,by have:=h.ge;lia,λn g m x=>?_,),)
 .rcases eA.mp a with a | a
  .let:=h.lt s a;lia
  .let t:s=(st,e):= ~~~a
   rw[t];show e+2<=st';lia
 .rcases eA.mp a with a | a
  .exact h.rng s a
  .let t:s=(st,e):= ~~~a
   rw[t];let:=h.ge;exact(by show lo<=st;lia,by show e<=hi;lia,)
 .rw[dZ,dZ];by_cases c:n<st
  .let u:inR n (st,e)=false:=jW.mpr (by show ¬ (st<=n/\n<=e);lia);rw[h.mem n g m c,j n g c,u,Db,Db]
  .rw[l n ∅,i n ∅,M2,M2];clear f d;let y:=h.ge;clear h;rw[py,cP];cases q:inR n p with
   |true=>have z:=cP.mp q;simp;show st<=n->e<n;lia
   |false=>have z:=jW.mp q;simp;show st<=n/\n<=e;lia
 .let:=h.lt s a;lia
 .rw[dZ];by_cases c:n<st
  .rw[h.mem n g m c,j n g c,Db]
  .rw[l n ∅,i n ∅,M2];clear f d h;let q:inR n p=true:=cP.mpr ∅;rw[q];rfl
def qC.fin{F T:M3 Pr}{lo hi st:Int}(h:qC F T lo hi st) :
  (st<=hi->Apart (F++[(st,hi)])/\∀n,inP (F++[(st,hi)]) n=(MS (lo<=n) && decide (n<=hi) && !inP T n))/\(¬ st<=hi->Apart F/\∀n,inP F n=(MS (lo<=n) && decide (n<=hi) && !inP T n)):=by
 let e:∀n,st<=n->inP T n=false:=λn f=>md λq a z=>by have:=h.tk q a;lia
 let j:∀n,st<=n->inP F n=false:=λn f=>md λq a z=>by have:=h.lt q a;lia
 let out:∀n,¬ (lo<=n/\n<=hi)->inP F n=false:=λn f=>md λq a z=>by have:=h.rng q a;lia
 let g:∀n,(MS (lo<=n) && decide (n<=hi))=MS (lo<=n/\n<=hi):=λn=>by simp
 refine(λd=>(h.ap.snoc d h.lt,λn=>?_,),λd=>(h.ap,λn=>?_,),)
 .rw[dZ,g];by_cases c:lo<=n/\n<=hi
  .rw[MX c,Ix];by_cases i:n<st
   .let b:inR n (st,hi)=false:=jW.mpr (by show ¬ (st<=n/\n<=hi);lia);rw[h.mem n c.1 c.2 i,b,Db]
   .let b:inR n (st,hi)=true:=cP.mpr (by show st<=n/\n<=hi;lia);rw[b,e n ∅,Bool.or_true];rfl
  .let b:inR n (st,hi)=false:=jW.mpr (by have:=h.ge;show ¬ (st<=n/\n<=hi);lia);rw[MY c,out n c,b];rfl
 .rw[g];by_cases c:lo<=n/\n<=hi
  .rw[MX c,Ix];exact h.mem n c.1 c.2 ∅
  .rw[MY c,out n c];rfl
def Apart.ends{a z:Pr}{R M:M3 Pr}(h:Apart (a :: R))(e:a :: R=M++[z]){n:Int}(i:inP (a :: R) n=MQ):a.1<=n/\n<=z.2:=by
 let(p,b,q):=yq.mp i;let(r,o,g):=h.tail;let k:a.1<=p.1:=by
  rcases cZ.mp b with z|z
  .rw[z];exact pr _
  .let:=g p z;lia
 let c:=h;rw[e]at c b;let(m,l,f):=c.init;let d:p.2<=z.2:=by
  rcases eA.mp b with y|y
  .let:=f p y;lia
  .let j:p=z:= ~~~y
   rw[j];exact pr _
 lia
structure Walk(ts:M3 (Int×Int×Int)):Prop where
 le:∀t∈ts,t.1<=t.2.1
 nx:∀(i:Nat) a b,ts[i]?=MO a->ts[i+1]?=MO b->b.1=a.2.1+1
def  pcs(msk:Int->Bool)(a:M3 (Int×Int×Int))(n:Int):Bool:=a.any λt=>inR n (t.1,t.2.1) && msk t.2.2
structure Kp(R:M3 Pr)(ts:M3 (Int×Int×Int))(msk:Int->Bool)(i:Nat)(at_:Int):Prop where
 ap:Apart R
 mem:∀n,inP R n=pcs msk (ts.take i) n
 lt:∀r∈R,r.2<at_
 few:2*R.length<=i\/(2*R.length<=i+1/\∃R' l,R=R'++[l]/\l.2=at_-1)
variable{i:Nat}
section
variable{R:M3 Pr}{ts:M3 (Int×Int×Int)}{msk:Int->Bool}{at_:Int}{t:Int×Int×Int}
end
def  ends(R:M3 Pr):M3 Int:=R.flatMap λp=>[p.1,p.2+1]
def nV{R:M3 Pr}{n:Int}:inP R n=MQ↔∃p∈R,p.1<=n/\n<=p.2:=by
 unfold inP;rw[iv];constructor
 .rintro⟨p,a,h⟩;exact(p,a,cP.mp h,)
 .rintro⟨p,a,h⟩;calc(p,a,cP.mpr h,)
def Apart.uniq:∀{A B:M3 Pr},Apart A->Apart B->(∀n,inP A n=inP B n)->A=B
 | [],[],_,_,_=>rfl
 | [],b :: B,_,hB,h=>by
  let:inP (b :: B) b.1=true:=nV.mpr (b,.head _,pr _,hB.tail.2.1,);rw[←h b.1]at this;cases this
 |a :: A,[],hA,_,h=>by
  let:inP (a :: A) a.1=true:=nV.mpr (a,.head _,pr _,hA.tail.2.1,);rw[h a.1]at this;cases this
 |a :: A,b :: B,hA,hB,h=>by
  let(i,v,r):=hA.tail;let(f,u,o):=hB.tail;let m:∀n,(∃p∈a :: A,p.1<=n/\n<=p.2)↔(∃p∈b :: B,p.1<=n/\n<=p.2):=λn=>by rw[←nV,←nV,h n]
  let E:∀p∈a :: A,a.1<=p.1:=λp c=>by
   rcases cZ.mp c with rfl|c
   .exact pr _
   .let:=r p c;lia
  let D:∀p∈b :: B,b.1<=p.1:=λp c=>by
   rcases cZ.mp c with rfl|c
   .exact pr _
   .let:=o p c;lia
  let x:a.1=b.1:=by
   let(p,c,k,j):=(m a.1).mp (a,.head _,pr _,v,);let(q,s,G,F):=(m b.1).mpr (b,.head _,pr _,u,);let:=D p c;let:=E q s;lia
  let w:a.2=b.2:=by
   rcases Int.lt_trichotomy a.2 b.2 with g|g|g
   .let(p,c,k,j):=(m<|a.2+1).mpr (b,.head _,∅,∅,);rcases cZ.mp c with rfl|c
    .lia
    .let:=r p c;lia
   .exact g
   .let(p,c,k,j):=(m<|b.2+1).mp (a,.head _,∅,∅,);rcases cZ.mp c with rfl|c
    .lia
    .let:=o p c;lia
  let e:a=b:=Prod.ext x w;subst e
  congr 1
  refine Apart.uniq i f λn=>?_
  by_cases d:n<=a.2
  .rw[hA.behind d,hB.behind d]
  .let l:=h n;let z:inR n a=false:=wi.mpr λt=>d (cP.mp t).2
   let C:inP (a :: A) n=(inR n a || inP A n):=rfl;let y:inP (a :: B) n=(inR n a || inP B n):=rfl;rw[C,y,z]at l;calc l
def  NeS(W:M3 (Int×Int×Int)):Prop:=∀(j:Nat) a b,W[j]?=MO a->W[j+1]?=MO b->a.2.2≠b.2.2
structure Kj(G ts:M3 (Int×Int×Int))(i:Nat):Prop where
 walk:Walk G
 ne:NeS G
 pcs:∀msk n,pcs msk G n=_L.pcs msk (ts.take i) n
 hd:∀t,ts[0]?=MO t->0<i->∃g,G[0]?=MO g/\g.1=t.1
 lst:∀t,ts[i-1]?=MO t->0<i->∃G' g,G=G'++[g]/\g.2.1=t.2.1/\g.2.2=t.2.2
 len:G.length<=i
 stt:∀g∈G,∃t∈ts,g.2.2=t.2.2
section
variable{G ts:M3 (Int×Int×Int)}{t:Int×Int×Int}
end
def  Its(z:Str):It:=(λi _=>i<z.cps.size,λi H x a=>a=H/\∃c,z.cps[i]?=MO c/\x=.str ⟨#[c]⟩,λi _=>z.cps.size<=i,)
def xb{P:An}{w:zZ}{K:ac}{L:Ej}(z:Str)(t:Tok)(it:AE):Turn P w K L (Its z) [it] it (λi h=>h.IsStrIter it "str_ascii_iterator" z t i) where
 mem:=by simp
 obj:=λi h f b g=>by
  let(o,e,c,d):=f;rw[show b=it by simpa using g];exact⟨o,e,λv q=>by rw[d]at q;cases q⟩
 keep:=λi h m (o,e,r,) k=>(o,k it (by simp) o e,r,)
 item:=by
  intro X u n x J i a s G H E I l f p;subst u n x;let F:i<z.cps.size:=p;let hi:z.cps[i]?=MO z.cps[i]:=xc F;let(D,C,N,B,A,y):=l it (by simp);refine wpAny_pyNext_ascii_item f hi λm j M=>?_
  let Q:Inv X a G H { s with heap:=m,toks:=s.toks+1 }:=I.turned (t':=s.toks+1) (λb o g e=>(M.2 b g).trans e) D C B A y;let(o,e,c,d):=id j;exact(_,U,yd (s:={ s with heap:=m,toks:=s.toks+1 }) e c d ⋯ (.str ⟨#[z.cps[i]]⟩,H,Q,(_,U,),(U,_,hi,U,),j,λb g=>(l b g).1,),)
 done:=by
  intro X u n x J i a s G H E I l f p;subst u n x;let(D,C,N,B,A,y):=l it (by simp);exact wpAny_pyNext_ascii_end (I.ok.hd J) f (~~~(show z.cps.size<=i from p)) λm O=>(U,I.turned (t':=s.toks) (λb o g e=>O b o g e) D C B A y,)
 self:=λ_ _ _ _ _ f h=>wpAny_pyIter_striter_ascii f h
def zh{P:An}{w:zZ}{K:ac}{L:Ej}(z:Str)(t:Tok)(it:AE):Turn P w K L (Its z) [it] it (λi h=>h.IsStrIter it "str_iterator" z t i) where
 mem:=by simp
 obj:=λi h f b g=>by
  let(o,e,c,d):=f;rw[show b=it by simpa using g];exact⟨o,e,λv q=>by rw[d]at q;cases q⟩
 keep:=λi h m (o,e,r,) k=>(o,k it (by simp) o e,r,)
 item:=by
  intro X u n x J i a s G H E I l f p;subst u n x;let F:i<z.cps.size:=p;let hi:z.cps[i]?=MO z.cps[i]:=xc F;let(D,C,N,B,A,y):=l it (by simp);refine wpAny_pyNext_wide_item f hi λm j M=>?_
  let Q:Inv X a G H { s with heap:=m,toks:=s.toks+1 }:=I.turned (t':=s.toks+1) (λb o g e=>(M.2 b g).trans e) D C B A y;let(o,e,c,d):=id j;exact(_,U,yd (s:={ s with heap:=m,toks:=s.toks+1 }) e c d ⋯ (.str ⟨#[z.cps[i]]⟩,H,Q,(_,U,),(U,_,hi,U,),j,λb g=>(l b g).1,),)
 done:=by
  intro X u n x J i a s G H E I l f p;subst u n x;let(D,C,N,B,A,y):=l it (by simp);exact wpAny_pyNext_wide_end (I.ok.hd J) f (~~~(show z.cps.size<=i from p)) λm O=>(U,I.turned (t':=s.toks) (λb o g e=>O b o g e) D C B A y,)
 self:=λ_ _ _ _ _ f h=>wpAny_pyIter_striter_wide f h
variable{tg:Ej}
inductive DF  (R:(It->O0))(x:V)(H1:Hp):Prop
 |mk (z:_)(_:x=.str z)(_:R (Its z) H1):DF R x H1
def  HL(tl:TE):ac->St->Hp->(It->O0)->Prop:=λ_ a H R=>tl a H λx b=>DF R x b
def Et{l:Ej}{tl:TE}(m:PE X l tl):PI X tg l (HL tl X.K):=by
 intro c s i H R I h;refine thn (m c s i H _ I h) λv a (x,g,f,j,k,)=>?_
 let(z,e,q):=k;subst e;let(t,rfl):=j;let d:∀b∈[↥a],mr X c g b:=λb n=>by
  rw[show b=↥a by simpa using n];exact f.fpOk (pT _)<|f.hok.fresh<|pT _
 cases ha:z.cps.all (· < 128) with
 |true=>exact wpAny_pyIter_ascii ha (↥a,[↥a],_,_,g,U,f.kept (t':=a.toks) λb o e=>am _ e,xb z t _,(_,ii _ U,U,U,),d,q,)
 |false=>calc wpAny_pyIter_wide ha (↥a,[↥a],_,_,g,U,f.kept (t':=a.toks) λb o e=>am _ e,zh z t _,(_,ii _ U,U,U,),d,q,)
def Cq{z:Str}{g:TG}{tb:TS}{D:Ends}{a:St}{H:Hp}(b:Nat->OZ)(s:b 0 a H)
  (q:∀i c a H,z.cps.toList[i]?=MO c->b i a H->g (.str ⟨#[c]⟩) a H λd j=>tb { D with nx:=b<|i+1,ct:=b<|i+1,bk:=D.nx } d j)(r:∀a H,b z.cps.size a H->D.nx a H) :
  ∃W:Nat->Nat->OZ,(∃m,W 0 m a H)/\∀i m a H,W i m a H ->
   ((Its z).stop i H/\D.nx a H)\/((Its z).go i H/\∃N:OZ,(∀f H',N f H'->∃k,k<m/\W (i+1) k f H')/\∀x H',(Its z).yld i H x H'->g x a H' λd j=>tb { D with nx:=N,ct:=N,bk:=D.nx } d j):=by
 calc(λi m a H=>m=z.cps.size-i/\i<=z.cps.size/\b i a H,(_,U,rE _,s,),?_,);rintro i m a H ⟨rfl,hi,p⟩;by_cases h:i<z.cps.size
 .refine .inr (h,b<|i+1,λf H' o=>(z.cps.size-(i+1),∅,U,h,o,),λx H' y=>?_,);let(e,c,n,l):=y;subst e;subst l;exact q i c a _ (~~~n) p
 .let e:i=z.cps.size:=∅
  subst e;calc .inl (pT _,r a H p,)
def vq:∀{ys:M3 Str}{us:M3 zY},Vals (ys.map OT) us->StrsAre us ys
 | [],_,.nil=>.nil
 |y :: ys,_,.cons r t=>by
  let(a,rfl):=r;calc .cons y a<|vq t
inductive rJoin(K:ac)(x:V)(vs:M3 V)(H:Hp)(Q:VK):Prop
 |mk (z:Str)(a:AE)(ys:M3 Str)(_:x=.str z)(_:vs=[.ref a])(_:SqL K H a (ys.map OT))(_:⇑z<=64)(_:(ys.map (·.length)).sum+⇑ys*64<=16777216)(_:Q (.str<|io z ys) H)
def eO:MtM X "str.join" (rJoin X.K):=by
 intro b s n H x o v p Q I d e h;let(z,a,c,rfl,rfl,i,l,j,q):=h;let(t,rfl):=d;let(u,rfl,f):=e.one;cases (show u=zY.ref a from f);let(m,r,g,y):=I.list i;calc join_listC g.isList (~~~vq r) l j λw k=>(.str<|io z c,H,I.tok k,(_,U,),q,)
def bA{x:Str}{v:V}{pos:Pos}(a:Gl X x)(h:∃u,X.mg x=MO u/\RelV v u)(b:(x == ("__debug__" : Str))=false:=by decide):PE X (.Name x pos) (tC v):=by
 let(_,m,r):=h;calc fu a m r b
def  sg(g:Str)(c:Nat):Bool:=!(Fa g ⟨#[c]⟩ 0 ⇑g 1).isEmpty
def  jG(z g:Str):Bool:=z.cps.toList.all<|sg g
open PySem.NumText
def sS{v:zY}{o:Option Int}(h:Lo v o):∃p:Option (Int×Tok),v=partValue p/\p.map (·.1)=o:=by
 cases h with
 |none=>exact(MP,U,U,)
 |int i t=>calc(MO (i,t),U,U,)
inductive Gb  (x:V)(lo:Option Int)(hi:Option Int)(H:Hp)(Q:VK):Prop
 |mk (z:_)(_:x=.str z)(_:⇑z<=AY)(_:Q (.str<|GE z lo hi) H):Gb x lo hi H Q
def qD:SlR X Gb:=by
 intro b s m H x v o n lo hi p Q I d i f e h;let(z,rfl,g,q):=h;let(t,rfl):=d;let(l,rfl,k):=sS f;let(u,rfl,j):=sS e;calc("str",_,slot_str_getitem.lookup,Lu s z t,?_,);calc wpAny_getItem_str_slice (l:=l) (u:=u) (st:=MP) i U ?_;unfold sliceMade slicePicked;rw[k,j];unfold GE at q;show Made.post (if ((1:Int) == 1 && ⇑(Od lo hi 1 ⇑z) == ⇑z)=MQ then _ else _) _ _;by_cases c:((1:Int) == 1 && ⇑(Od lo hi 1 ⇑z) == ⇑z)=MQ
 .rw[MV c]at q⊢;exact(.str z,H,I,(_,U,),q,)
 .let a:=Txt.slice_le z lo hi;unfold GE at a;rw[MU c]at q a⊢;calc(qu a g,.str _,H,I.tok _,(_,U,),q,)
def rP:iM X (.type "int") (λxs H Q=>∃z n,xs=[.str z]/\PySem.intText? z=MO n/\⇑z<=640/\Q (.int n) H):=by
 intro a s d H xs e Q I r h;let(z,n,rfl,c,b,q):=h;let(u,rfl,t,rfl):=vals1 r;calc W.KIN.call_text c b (.int n,H,I.tok _,(_,U,),q,)
inductive yr  (x:V)(vs:M3 V)(H:Hp)(Q:VK):Prop
 |mk (z y:Str)(_:x=.str z)(_:vs=[.str y])(_:Q (.bl<|li z y) H):yr x vs H Q
def fI:MtM X "str.startswith" yr:=by
 intro a s e H x f v g Q I b c h;let(z,y,rfl,rfl,q):=h;let(t,rfl):=b;let(u,rfl,d):=c.one;let(i,rfl):=d;calc PySem.SC.startswith (.bl _,H,I,U,q,)
def t6:∀(cs:M3 Nat)(a:Nat),cs.foldl (λb c=>b*10+(c-48)) a=a*10^⇑cs+digitsVal cs
 | [],a=>by simp[digitsVal]
 |c :: cs,a=>by
  let e:digitsVal (c :: cs)=(0*10+(c-48))*10^⇑cs+digitsVal cs:=by
   unfold digitsVal;rw[ig,t6 cs];rfl
  rw[ig,t6 cs,e,gv,Nat.pow_succ];simp only[Nat.add_mul,Nat.mul_assoc,Nat.mul_comm 10,Nat.zero_mul,Ny,Nat.add_assoc]
def mf(c:Nat)(cs:M3 Nat):digitsVal (c :: cs)=(c-48)*10^⇑cs+digitsVal cs:=by
 let e:digitsVal (c :: cs)=(0*10+(c-48))*10^⇑cs+digitsVal cs:=by
  unfold digitsVal;rw[ig,t6 cs];rfl
 rw[e,Nat.zero_mul,Ny]
structure pV(cs:M3 Nat):Prop where
 all:AllDigits cs
 one:⇑cs=1\/∃c r,cs=c :: r/\49<=c
def pV.ne{cs:M3 Nat}(F:pV cs):cs≠[]:=by
 rintro rfl;rcases F.one with h|⟨c,r,h,_⟩ <;> cases h
def pV.short{cs:M3 Nat}(F:pV cs){k:Nat}(b:1<=k)(h:digitsVal cs<10^k):⇑cs<=k:=by
 rcases F.one with e|⟨c,r,rfl,d⟩
 .lia
 .rw[mf]at h;let f:1*10^⇑r<=(c-48)*10^⇑r:=sT _ ∅;let a:10^⇑r<10^k:=∅
  let:=(Nat.pow_lt_pow_iff_right (by decide:1<10)).mp a;rw[gv];lia
def qF{cs:M3 Nat}(h:AllDigits cs):(cs.map N4).map OL=cs:=by
 rw[gw]
 conv=>rhs;rw[←pS cs]
 apply nS
 intro c a;let(d,b):=h c a;let:c=48\/c=49\/c=50\/c=51\/c=52\/c=53\/c=54\/c=55\/c=56\/c=57:=∅
 rcases this with rfl|rfl|rfl|rfl|rfl|rfl|rfl|rfl|rfl|rfl <;> rfl
def pV.digits{cs:M3 Nat}(F:pV cs):Nat.toDigits 10 (digitsVal cs)=cs.map N4:=by
 let a:⇑cs≠0:=λe=>F.ne<|hE.mp e
 calc toDigits_digitsVal (⇑cs-1) cs ∅ F.all ?_;rcases F.one with e|e
 .exact .inl ∅
 .exact .inr e
def  f9(n:Int)(cs:M3 Nat):M3 Nat:=if n<0 then 45 :: cs else cs
def Cr{n:Int}{cs:M3 Nat}(F:pV cs)(h:digitsVal cs=n.natAbs):lm (toString n)=⟨(f9 n cs).toArray⟩:=by
 let a:=F.digits;rw[h]at a;by_cases c:n<0
 .let(m,rfl):∃m,n=OG m:=((-n-1).toNat,∅,);let e:toString (OG m) = "-" ++ String.ofList (Nat.toDigits 10<|m+1):=rfl;rw[L2,e,String.toList_append];unfold f9;rw[MV c];let b:(OG m).natAbs=m+1:=rfl;rw[b]at a;rw[a,dy,show(String.ofList<|cs.map N4).toList=cs.map N4 from String.toList_ofList,qF F.all];rfl
 .let(m,rfl):∃m:Nat,n=(m:Int):=(n.toNat,∅,);let b:((m:Int)).natAbs=m:=rfl;rw[b]at a;let z:=W.KIN.signs_num m;rw[a,qF F.all]at z;unfold f9;rw[MU c,←z]
def Cs{n:Int}{cs:M3 Nat}(F:pV cs)(h:digitsVal cs=n.natAbs)(b:⇑cs<=60):PySem.intText? ⟨(f9 n cs).toArray⟩=MO n:=by
 unfold f9;by_cases a:n<0
 .rw[MV a];let z:=intText_neg (x:=⟨(45 :: cs).toArray⟩) (cs:=cs) U F.all F.ne (by show(45 :: cs).toArray.size<=_;simp;lia);rw[z,h];congr 1;lia
 .rw[MU a];let z:=LZ (x:=⟨cs.toArray⟩) F.all F.ne (by show cs.toArray.size<=_;simp;lia);rw[z];show MO ((digitsVal cs:Nat):Int)=_;rw[h];congr 1;lia
def  vt(h:AU)(e T:AE)(cls:zY)(f:zY×zY)(fl:zY):Prop :=
 ∃b a d c,h.get? e=MO b/\(b.cls=cls/\a[0]?=MO f.1/\a[2]?=MO f.2)/\b.data=.fields a/\a[1]?=↑T/\T≠e/\h.get? T=MO d/\d.data=.fields c/\c[3]?=MO fl
abbrev t7(h:AU)(e T:AE)(a:zY)(b:zY×zY):Prop:=vt h e T a b .none
structure Stp(F X:M3 AE)(h h':AU):Prop where
 keep:∀b o,b ∉ F->b ∉ X->h.get? b=MO o->h'.get? b=MO o
 slot:∀b o,b∈F->h.get? b=MO o->∃sl,h'.get? b=MO { o with slots:=sl }
inductive AG(h:AU)(L e:AE)(cls:zY)(a0:zY×zY):M3 AE->Prop where
 |fresh {oe:Obj}{vs:Array zY}(he:h.get? e=MO oe)(hc:oe.cls=cls)(hd:oe.data=.fields vs)(h1:vs[1]?=MO zY.none)(h0:vs[0]?=MO a0.1)(h2:vs[2]?=MO a0.2):AG h L e cls a0 []
 |fly {T:AE}(x:vt h e T cls a0 .none):AG h L e cls a0 [T]
 |held {T:AE}(x:vt h e T cls a0 (KR L)):AG h L e cls a0 [T]
variable{base:AU}{env:Env}{outer:M3 Env}{oe:Obj}
section
variable{M:D2}{L e T:AE}{vs:Array zY}{a0:zY×zY}{cls fl:zY}{Q:Unit->Ct->Prop}{Ts:M3 AE}
def Stp.refl(F Y:M3 AE)(h:AU):Stp F Y h h:=(λ_ _ _ _ q=>q,λ_ o _ q=>(o.slots,q,),)
def AH{J:Bool}{i:zY}(H:A.frames=MO (env :: outer))(v:s.heap.FunFrames base (env :: outer))(I:env.frame=MO L)(u:s.heap.get? e=MO oe)(k:oe.data=.fields vs)(n:1<vs.size)
  (h:∀h' T r d,Stp (frs (env :: outer)) [e] s.heap h'->h'.get? e=MO (wp (·.setIfInBounds 1 (.ref T)) oe)->s.heap.get? T=MP->T≠e->h'.get? T=MO r->r.data=.fields d->d[3]?=MO (KR L)->Q () { s with heap:=h' }) :
  D8 M A (do let a ←frameOf env;let pl ←entryPlaceOf L J;let b ←N7 i a .none (KR L) .none pl;L0 (.ref e) 1 b) Q E s:=by
 let t:e ∉ frs (env :: outer):=λz=>by
  let(_,K,p,F):=v.mem z;rw[u]at p;cases p;exact F vs k
 calc zb<|wpAny_frameOf_fun H v I λc j=>zb<|wpAny_entryPlaceOf λpl ok=>?_;let x:c.get? e=MO oe:=(j.2.1 e t).trans u;let l:c.objs.size=↥s:=j.1;let m:∀(O:Obj)(d:Array zY),O.data=.fields d->d[3]?=MO (KR L)->D8 M A (L0 (.ref e) 1<|.ref c.objs.size) Q E { s with heap:=c.push O }:=λO d y B=>by
  let w:=am O x;let ne:c.objs.size≠e:=rG<|bn x;let f:∀b,b≠e->((c.push O).update e (wp (·.setIfInBounds 1 (.ref c.objs.size)))).get? b=(c.push O).get? b:=λb g=>sK _ _<|FM g
  refine L1 w k n<|h _ c.objs.size O d (λb o g G q=>?_,λb o g q=>?_,) (wf _ w<|Nz<|Ng k _) (AU.get?_none_of_le (by rw[l];exact pT _)) ne ((f _ ne).trans<|ii c<|Nz y) y B
  .exact(f b λz=>G (by simp[z])).trans (am O<|(j.2.1 b g).trans q)
  .let(C,D):=j.2.2 b o q;exact(C,(f b λz=>t<|z ▸ g).trans<|am O D,)
 unfold N7 newFields;exact zb<|LM (m _ _ U (by rcases ok with rfl|⟨_,_,_,_,_,_,_,rfl⟩ <;> simp)) (ok.sizeOk5 _ _ _ _ _)
def note(N:A.frames=MO (env :: outer))(H:s.heap.FunFrames base (env :: outer))(G:env.frame=MO L)(x:AG s.heap L e cls a0 Ts)
  (h:∀h' j,Stp (frs (env :: outer)) (e :: Ts) s.heap h'->vt h' e j cls a0 (KR L)->(s.heap.get? j=MP\/j∈Ts)->Q () { s with heap:=h' }):D8 M A (LG (.ref e) env) Q E s:=by
 let sz:∀{vs:Array zY}{x:zY},vs[1]?=MO x->1<vs.size:=λz=>(Nb.mp z).1
 let P:∀{oe:Obj}{vs:Array zY}{h':AU}{T:AE}{i:Obj}{f:Array zY},oe.cls=cls->oe.data=.fields vs->1<vs.size->vs[0]?=MO a0.1->vs[2]?=MO a0.2->h'.get? e=MO (wp (·.setIfInBounds 1 (.ref T)) oe)->T≠e->h'.get? T=MO i->i.data=.fields f->f[3]?=MO (KR L)->vt h' e T cls a0 (KR L) :=
  λ{oe vs h' T i f} c d l W V w g v u t=>(_,_,i,f,w,((Obj.cls_mapFields _ _).trans c,by rw[NR ⋯];exact W,by rw[NR ⋯];exact V,),Ng d _,by simp[l],g,v,u,t,)
 unfold LG;simp only[G];cases x with
 | @fresh oe vs he hc hd h1 h0 h2 =>
  calc zb<|L3 he hd h1 ?_;rw[MU ⋯];exact AH N H G he hd (sz h1) λh' T i f D w g v u t F=>h h' T D (P hc hd (sz h1) h0 h2 w v u t F)<|.inl g
 | @fly T x =>
  let(oe,vs,i,f,C,(J,S,R),r,p,I,n,m,B):=x;let a:∀b,b≠T->(s.heap.update T (wp (·.setIfInBounds 3 zY.none))).get? b=s.heap.get? b:=λb k=>sK _ _<|FM k
  let O:∀b o,s.heap.get? b=MO o->(∀vs,o.data≠.fields vs)->b≠T:=λb o q y z=>y f (by rw[z,n]at q;cases q;exact m)
  calc zb<|L3 C r p ?_;rw[MV (show(zY.ref T != zY.none)=MQ by simp)];calc zb<|L3 n m B ?_;rw[MU (show ¬ (zY.none == KR L)=MQ by simp[KR])];calc zb<|L1 n m (Nb.mp B).1 ?_;refine AH (s:={ s with heap:=s.heap.update T (wp (·.setIfInBounds 3 zY.none)) }) N (H.of_keeps λb o q y=>(o,(a b<|O b o q y).trans q,U,)) G ((a e<|FM I).trans C) r (sz p) λh' j Y X D w g v u t F=>?_
  refine h h' j (λb o k K q=>D.keep b o k (λz=>K<|cZ.mpr<|.inl<|~~~z)<|(a b λz=>K (by simp[z])).trans q,λb o k q=>?_,) (P J r (sz p) S R w v u t F) ?_
  .let(_,Z,g,y):=H.mem k;rw[q]at g;cases g;exact D.slot b o k<|(a b<|O b o q y).trans q
  .by_cases z:j=T
   .exact .inr (by simp[z])
   .exact .inl<|(a j z).symm.trans g
 | @held T x =>
  let(oe,vs,i,f,C,J,r,p,I,n,m,B):=id x;calc zb<|L3 C r p ?_;rw[MV (show(zY.ref T != zY.none)=MQ by simp)];calc zb<|L3 n m B ?_;rw[MV (show(KR L == KR L)=MQ by simp)];calc zp<|h s.heap T (Stp.refl _ _ _) x<|.inr (by simp)
def sU{fr:Option AE}{l:M3 Env}(w:s.heap.FunFrames base l)(x:vt s.heap e T cls a0 fl)(h:∀h',Stp (frs l) [e,T] s.heap h'->vt h' e T cls a0 (fr.elim zY.none λf=>KR f)->Q () { s with heap:=h' }):D8 M A (L4 (.ref e) fr) Q E s:=by
 let(oe,vs,y,n,m,t,k,j,i,g,c,r):=x;let sz:3<n.size:=(Nb.mp r).1;let a:∀b,b≠T->(s.heap.update T (wp (·.setIfInBounds 3 (fr.elim zY.none λf=>KR f)))).get? b=s.heap.get? b:=λb d=>sK _ _<|FM d
 unfold L4;calc zb<|L3 m k j ?_;rw[MV (show(zY.ref T != zY.none)=MQ by simp)];refine L1 g c sz (h _ (λb o d v q=>(a b λz=>v (by simp[z])).trans q,λb o d q=>?_,) (oe,vs,_,_,(a e<|FM i).trans m,t,k,j,i,wf _ g<|Nz<|Ng c _,Ng c _,by simp[sz],));let(_,B,p,u):=w.mem d;rw[q]at p;cases p;calc⟨o.slots,(a b λz=>u n (by rw[z,g]at q;cases q;exact c)).trans q⟩
def Stp.then{F Y Z:M3 AE}{h f e:AU}(x:Stp F Y h f)(y:Stp F Z f e)(hz:∀b o,h.get? b=MO o->b∈Z->b∈Y):Stp F Y h e :=
 (λb o a d q=>y.keep b o a (λz=>d<|hz b o q z)<|x.keep b o a d q,λb o a q=>by
  let(j,i):=x.slot b o a q;let(c,g):=y.slot b _ a i;exact(c,g,),)
def Stp.frames{Y:M3 AE}{h a:AU}{l:M3 Env}(x:Stp (frs l) Y h a)(g:h.FunFrames base l):a.FunFrames base l:=by
 let:∀(F:M3 AE)(m:M3 Env),(∀b∈frs m,b∈F)->Stp F Y h a->h.FunFrames base m->a.FunFrames base m:=λF m=>by
  induction m with
  |nil=>intro _ _ z;exact z
  |cons v m f =>
   rintro d x ⟨k,⟨L,o,c,n,j,i⟩,r⟩;let(p,q):=x.slot L o (d L (by unfold frs;rw[jz,c];exact gb)) j;exact(k,(L,_,c,n,q,i,),f (λb e=>d b (by unfold frs at e⊢;rw[jz,c];exact eY _ e)) x r,)
 calc this _ l (λ_ z=>z) x g
def land{E2:zY->Ct->Prop}(l:A.frames=MO (env :: outer))(i:s.heap.FunFrames base (env :: outer))(m:env.frame=MO L)(x:t7 s.heap e T cls a0)
  (h:∀h' c,Stp (frs (env :: outer)) [e,T] s.heap h'->t7 h' e c cls a0->(s.heap.get? c=MP\/c=T)->Q () { s with heap:=h' }):D8 M A (LG (.ref e) env) (λ_ k=>D8 M A (L4 (.ref e) MP) Q E k) E2 s:=by
 refine note l i m (.fly x) λg c f x a=>?_
 let a:s.heap.get? c=MP\/c=T:=a.imp id λz=>~~~z
 exact sU (s:={ s with heap:=g }) (f.frames i) x λn d j=>h n c (f.then d λb o q z=>by
  rcases cZ.mp z with z|z
  .simp[z]
  .rw[show b=c by simpa using z]at q⊢;rcases a with a|a
   .rw[a]at q;cases q
   .simp[a]) j a
def Eu{l:M3 Env}(d:s.heap.FunFrames base l)(x:t7 s.heap e T cls a0)
  (h:∀h' a,Stp (frs l) [e,T] s.heap h'->t7 h' e a cls a0->(s.heap.get? a=MP\/a=T)->Q () { s with heap:=h' }):D8 M A (L4 (.ref e) MP) Q E s :=
 sU d x λh' c b=>h h' T c b<|.inr U
end
variable{P:An}{H:Hp}{h':AU}
section
variable{H':Hp}{h:AU}{a:AE}{o:HO}{F Y fs:M3 AE}
def eK.there(x:eK P w H h a o):∃b,h.get? a=MO b:=by
 cases o with
 |lst d=>obtain⟨_,_,_,_,e⟩:=x;exact(_,e,)
 |tup d=>obtain⟨_,_,_,b,e,_⟩:=x;exact(_,e,)
 |dK c=>obtain⟨_,_,_,_,o,_,_,e,_⟩:=x;exact(_,e,)
 |dT c=>obtain⟨_,_,_,_,o,_,_,e,_⟩:=x;exact(_,e,)
 |set S n=>obtain⟨o,_,_,_,e,_⟩:=x;exact(_,e,)
 |ins C j fs=>obtain⟨_,_,_,e,_⟩:=x;exact(_,e,)
 |own y=>obtain⟨_,e⟩:=x;exact(_,e,)
 |xd fs=>obtain⟨_,⟨_,_,_,e,_⟩,_⟩:=x;exact(_,e,)
 |rng lo hi=>obtain⟨_,_,_,e⟩:=x;exact(_,e,)
 |frz b u=>obtain⟨e,_⟩:=x;exact(_,e,)
 |tbl i=>exact(_,(show h.get? a=MO _ from x),)
 |met f y=>exact(_,(show h.get? a=MO _ from x),)
 |ext g=>obtain⟨_,⟨_,e⟩,_⟩:=x;calc(_,e,)
def HOk.none_of(x:HOk P w H h)(e:h.get? a=MP):H a=none:=by
 cases q:H a with
 |none=>rfl
 |some u =>
  let(b,z):=(x a u q).there;rw[e]at z;cases z
def HOk.stp(x:HOk P w H h)(st:Stp F Y h h')(g:∀b∈F,H b=MP)(f:∀b∈Y,H b=MP):HOk P w H h':=λa o e =>
 (x a o e).stay (λb u c q=>by
  let d:H b≠none:=by
   rcases c with rfl|c
   .rw[e];simp
   .rw[c];simp
  exact st.keep b u (λz=>d<|g b z) (λz=>d<|f b z) q) (λ_ q=>q) λ_ _ q=>q
def Un.stp{k:Hp}{d:AU}(u:Un fs [] k H d h)(st:Stp F Y h h')(r:∀b o,d.get? b=MO o->b∈F->b∈fs)(p:∀b∈fs,b∈F)(m:∀b∈Y,d.get? b=MP):Un fs [] k H d h':=by
 let i:∀b o,d.get? b=MO o->b ∉ Y:=λb o q z=>by rw[m b z]at q;cases q
 refine(λb o q n c a=>st.keep b o (λz=>c<|r b o q z) (i b o q)<|u.keep b o q n c a,λb o q n c a=>?_,u.free,λb o q a=>?_,u.tups,u.frzs,u.tbls,)
 .let(s,f):=u.slot b o q n c a;let(e,g):=st.slot b _ (p b c) f;exact(e,g,)
 .let(l,f):=u.there b o q a;by_cases j:b∈F
  .let(e,g):=st.slot b _ j f;exact(_,g,)
  .exact(_,st.keep b l j (i b o q) f,)
end
def  CX1(P:An)(w:zZ):CXT:=λouter H s E d a=>∃(e T C:AE)(c:zY×zY)(b:Hp),d=.ref e/\a.os=s.os/\AllBare a.gens/\Un (frs outer) [] H b s.heap a.heap/\HOk P w b a.heap /\
 t7 a.heap e T (.ref C) c/\s.heap.get? e=MP/\s.heap.get? T=MP/\b e=MP/\b T=MP/\∃m,(m=MP->c.2=.none)/\E (.ref C) m b
structure dC(X:Cx)(MT:M3 (AE×Obj))(H:Hp)(b:AE):Prop where
 ent:X.s₀.heap.get? b=MP
 unt:H b=MP
 loc:b≠X.env.locals
 cel:∀x c,X.env.cells.lookup x=MO c->c≠b
 pin:∀p∈X.pn++MT,p.1≠b
variable{MT:M3 (AE×Obj)}{σ:St}
section
variable{e T:AE}
def Inv.newAt(I:Inv X MT σ H s)(e:X.ex=[]){b:AE}(a:s.heap.get? b=MP):dC X MT H b:=by
 refine(?_,I.hok.none_of a,?_,?_,?_,)
 .cases q:X.s₀.heap.get? b with
  |none=>rfl
  |some o =>
   let(h,d):=I.base.there b o q (by rw[e];simp);rw[a]at d;cases d
 .rintro rfl;let(m,(o,_,_,q,_),_):=I.loc;rw[a]at q;cases q
 .rintro x c g rfl;let(v,o,q,_):=I.cell x c g;rw[a]at q;cases q
 .rintro p f rfl;let(q,_):=I.pin p f;rw[a]at q;cases q
def Inv.excStep(I:Inv X MT σ H s)(hx:X.ex=[])(st:Stp (frs X.stack) [e,T] s.heap h')(ne:dC X MT H e)(N:dC X MT H T):Inv X MT σ H { s with heap:=h' }:=by
 let j:∀b∈[e,T],dC X MT H b:=λb g=>by
  rcases cZ.mp g with rfl|g
  .exact ne
  .rw[show b=T by simpa using g];exact N
 let E:∀b,b≠X.env.locals->b ∉ X.fs->b ∉ frs X.stack:=λb V S z=>(cZ.mp<|I.stkSub b z).elim V S
 let y:∀b o,X.s₀.heap.get? b=MO o->b ∉ [e,T]:=λb o q z=>by rw[(j b z).ent]at q;cases q
 let C:∀b o,X.s₀.heap.get? b=MO o->b≠X.env.locals:=λb o q=>qo<|ri (bn q) I.ok.above
 let any:∀b o,b ∉ [e,T]->s.heap.get? b=MO o->∃w,h'.get? b=MO { o with slots:=w }:=λb o O q=>by
  by_cases K:b∈frs X.stack
  .exact st.slot b o K q
  .exact(o.slots,st.keep b o K O q,)
 let f:∀x c,X.env.cells.lookup x=MO c->∀v,s.heap.IsCell c v->h'.IsCell c v:=λx c h v (o,P,R,)=>by
  let(w,q):=any c o (λz=>(j c z).cel x c h U) P;exact(_,q,R,)
 refine(I.ok,I.os,I.bare,(λb o q n g a=>?_,λb o q n g a=>?_,I.base.free,λb o q a=>?_,I.base.tups,I.base.frzs,I.base.tbls,),?_,λx c h=>?_,I.free,I.freeC,λp J=>?_,I.hok.stp st I.stkFree<|λb g=>(j b g).unt,I.len,)
 .exact st.keep b o (E b (C b o q) g) (y b o q)<|I.base.keep b o q n g a
 .let(w,B):=I.base.slot b o q n g a;let(t,A):=any b _ (y b o q) B;exact(t,A,)
 .let(o1,B):=I.base.there b o q a;let(t,A):=any b _ (y b o q) B;exact(_,A,)
 .let(m,(M,W,Y,D,r),Q):=I.loc;let(w,q):=any X.env.locals M (λz=>(j _ z).loc U) D;calc(m,(_,W,Y,q,r,),λi x v e1 e2 Z=>?_,);let(u,L,l):=Q i x v e1 e2 Z;calc(u,L,?_,);rcases l with l|⟨k,c,h,z⟩
  .exact .inl l
  .exact .inr (k,c,h,f x c h _ z,)
 .let(v,z):=I.cell x c h;exact(v,f x c h v z,)
 .let(q,n,G,F,d):=I.pin p J;calc(st.keep p.1 p.2 (E p.1 G F) (λz=>(j _ z).pin p J U) q,n,G,F,d,)
end
structure ExcCls(K:ac)(C:AE):Prop where
 ex:∃(bmB bmN:M3 zY)(newId B Bn nid qG inN:String),W.excIn K C bmB newId=MQ/\L5 Bn newId inN bmN/\bmB.contains (zY.type Bn)=MQ/\L5 B nid qG bmB
def ExcCls.value{K:ac}{C:AE}(h:W.excIn K C [.type "ValueError",.type "Exception",.type "BaseException",.type "object"] "ValueError.__new__" = MQ):ExcCls K C :=
 (_,_,_,_,_,_,_,_,h,PySem.F.excBase_ValueError,⋯,PySem.F.excBase_ValueError,)
def ExcCls.obj{K:ac}{C:AE}{h:AU}{a:M3 zY}{newId:String}(b:K.In h)(e:W.excIn K C a newId=MQ):∃bm N nm q bs hdct sn sub ab col dd k0 k1 k2 k3 k5 mN,
   h.get? C=MO (L6 nm q C N bs bm hdct sn sub ab col dd k0 k1 k2 k3 k5 newId)/\h.Ns N mN/\mN "__init__" = MP/\L7 h a bm:=by
 unfold W.excIn at e;split at e
 .rename_i dd cd sl lk
  split at e
  .rename_i C' bm k0 k1 k2 k3 n k5 em es
   simp only[wh,beq_iff_eq,OS]at e;let(((((rfl,rfl),g),f),c),hi):=e;let(nm,bs,j,i,q,hdct,sn,sub,ab,col,k):=cd;dsimp only at em g f c hi;subst em g;let d:sl = #[k0,k1,k2,k3,MO<|zY.builtin n,k5]:=by
    apply yi.mp
    rw[es]
   subst d;exact(bm,i,nm,q,bs,hdct,sn,sub,ab,col,dd,k0,k1,k2,k3,k5,_,b _ _ lk,AU.Ns.of_isNs<|W.isNs_of_in b c,W.nsMap_none_of_in b c hi,W.tail_of_in b f,)
  .cases e
 .cases e
variable{K:ac}{mg:Str->Option zY}{N:M3 Str}{qual:Str}{scope:Du}{f:AE}{cd:zY}{s0:Ct}{H0:Hp}
section
variable{E:XK}
def  Ew(C:AE)(E:XK)(t:TA):TS:=λ_ σ H=>t σ H λa b=>⇑a<=AY/\E (.ref C) MP b
end
def  XP(X:Cx)(MT:M3 (AE×Obj))(σ:St)(d:AE->O0)(b:zY)(s':Ct):Prop :=
 ∃(e T C:AE)(c:zY×zY)(a:Hp),b=.ref e/\Inv X MT σ a s'/\t7 s'.heap e T (.ref C) c/\dC X MT a e/\dC X MT a T/\d C a
def  bM(P:An)(w:zZ)(K:ac)(mg:Str->Option zY)(base:AU)(k:Nat)(x:Str)(ps:M3 Str)(sp:Sp):Prop :=
 ∃f a,aU P w K mg base (CX1 P w) k f a ps sp/\Binds K a ps []/\Nk K (.ref f)=MQ/\mg x=↑f
def bM.mono{P:An}{w:zZ}{K:ac}{mg:Str->Option zY}{base:AU}{j k:Nat}{x:Str}{ps:M3 Str}{sp:Sp}(C:bM P w K mg base j x ps sp)(h:j<=k):bM P w K mg base k x ps sp:=by
 let(f,a,F,r):=C;calc(f,a,F.mono h,r,)
variable{s':Ct}
variable{e:Ej}{x:Str}{ps:M3 Str}{sp:Sp}{es:M3 Ej}{t:TA}{p pos:Pos}
section
variable{k:Nat}
abbrev TSX:=Ends->St->Hp->(AE->O0)->Prop
end
def  sfx(X:Cx)(e:AE)(oe:Obj):Cx:={ X with A:=X.A.mark<|↑e,calm:=MR,pn:=(e,oe) :: X.pn,xe:=λ_ _=>False }
section
variable{e:AE}
def Inv.suite(I:Inv X MT σ H s)(d:s.heap.get? e=MO oe)(b:dC X MT H e)(f:∀v,oe.data≠.cell v)(c:e ∉ X.fs):Inv (sfx X e oe) MT σ H s:=by
 calc((I.ok.mod,I.ok.kind,I.ok.glob,I.ok.blt,I.ok.above,I.ok.inj,I.ok.has,I.ok.cab,λz=>MW z cr,I.ok.frames,I.ok.stk,I.ok.exf,I.ok.bs,I.ok.bsz,I.ok.noex,I.ok.exfs,I.ok.funs,I.ok.frf,),I.os,I.bare,I.base,I.loc,I.cell,I.free,I.freeC,λp a=>?_,I.hok,I.len,);rcases cZ.mp (show p∈(e,oe) :: (X.pn++MT)from a)with rfl|a
 .exact(d,b.unt,b.loc,c,f,)
 .exact I.pin p a
def Inv.unsuite(ok:X.Ok)(I:Inv (sfx X e oe) MT σ H s):Inv X MT σ H s :=
 (ok,I.os,I.bare,I.base,I.loc,I.cell,I.free,I.freeC,λp a=>I.pin p<|eY (e,oe) a,I.hok,I.len,)
def Inv.excObj(I:Inv (sfx X e oe) MT σ H s):s.heap.get? e=MO oe:=(I.pin (e,oe)<|fE _ gb).1
end
variable{st:E1}{np Ex:Pos}
section
variable{b₀:E1}{su:M3 E1}{tb:TSX}{ts:AE->AE->TS}{Tn n:Str}{B:AE}
end
structure jX(K:ac)(C:AE):Prop where
 ga:wT K (.ref C) "__getattribute__" = MO (MO<|.builtin "BaseException.__getattribute__")
 hk:wT K (.ref C) "__getattr__" = MO MP
 cl:wT K (.ref C) "__class__" = MO (MO<|.builtin "object.__class__")
 gt:Nq K (.builtin "object.__class__") "__get__" = MO (MO<|.builtin "getset_descriptor.__get__")
 tk:W.takesIn K (.builtin "object.__class__")=MO MQ
 ob:W.mroIn K C (.type "object")=MO MQ
 be:W.mroIn K C (.type "BaseException")=MO MQ
 me:W.kitCls K (.ref C) (.ref C)=MO MQ
variable{C:AE}
section
variable{e:AE}
def xg{a:AU}(g:a.get? e=MO oe)(c:oe.cls=.ref C){M:D2}:W.Looks M a (typeOf<|.ref e) (.ref C):=λf b d s' k r=>by
 let z:=wpAny_typeOf_ref (M:=M) (A:=f) (E:=d) (Q:=b)<|k _ _ g;rw[c]at z;calc z r
end
section
variable{e:AE}
end
inductive Gg(c:Str)(Q:VK)(x:V)(H1:Hp):Prop
 |mk (z:Str)(_:x=.str z)(_:⇑z<=1000)(_:(∀n∈z.cps.toList,n<16^8))(_:⇑c<=1000)(_:∀z2:Str,Q (.str z2) H1)
def  tFr(c:Str)(a:TE):TE:=λσ H Q=>a σ H λx b=>Gg c Q x b
def len_app(x y:Str):⇑(x++y)=⇑x+⇑y:=by
 show(wv x y).cps.size=x.cps.size+y.cps.size;unfold wv;simp
def vw{a:Ej}{g:TE}{c:Str}{k:Nat}{p l pos:Pos}(w:PE X a g):PE X (.JoinedStr [.FormattedValue a 114 MP p,.Constant (.str c) k l] pos) (tFr c g):=by
 intro MT s σ H Q I h;calc L8<|L9<|Ma<|thn (w MT s σ H _ I h) λv i (x,f,E,o,z,A,N,u,P,q,)=>?_;subst A;let(t,rfl):=o;let O:=Nw z u;let b:∀n,n<=20000->n<=AY:=λn r=>qu r ⋯
 calc Mb (formatField_str (λL d=>?_)<|b _ ∅)<|b _ ∅;let e:∀y:Str,⇑(re++y)=⇑y:=λy=>by rw[len_app];show 0+_=_;lia
 refine(_,_,U,b _ (by rw[e];lia),L9 ?_,);let J:Inv X MT σ f { i with toks:=d }:=E.tok d;refine thn (aV (X:=X) (x:=c) (j:=k) (pos:=l) MT { i with toks:=d } σ f (λv G=>v=.str c/\G=f) J (U,U,)) λv M (y,F,D,m,C,B,)=>?_
 subst C B;let(K,rfl):=m;refine(_,_,U,b _ (by rw[len_app,e];lia),Mc (b _ (by rw[len_app,e];lia),?_,),);calc(.str _,F,D.tok _,(_,U,),q _,)
def pK{P:An}{w:zZ}{X:Cx}:Passes (CX1 P w) X E0:=λ_ _ _ _ _ _ _ h=>by
 let(_,_,_,_,_,_,_,_,_,_,_,_,_,_,_,_,_,q):=h;calc ut q
def  ba(CX:CXT)(P:An)(w:zZ)(K:ac)(mg:Str->Option zY)(base:AU)(k:Nat)(C:AE)(m:Str)(ps:M3 Str)(sp:Sp):Prop :=
 ∃f a,Meth K C m f/\aU P w K mg base CX k f a ps sp/\Binds K a ps []
def  bu(CX:CXT)(P:An)(w:zZ)(K:ac)(mg:Str->Option zY)(base:AU)(k:Nat)(x:Str)(C:AE)(ps:M3 Str)(sp:Sp):Prop :=
 ∃f a,Mk K C f/\aU P w K mg base CX k f a ps sp/\Binds K a ps []/\mg x=↑C
structure Gh(K:ac)(B:AE)(m:Str)(f:AE):Prop where
 sp:Nq K (.ref B) "__getattribute__" = MO (MO<|.builtin "type.__getattribute__")
 rd:W.readsIn K B (.type "type")=MQ
 at_:W.findCls K (.ref B) (.type "type") m=MO (.val<|.ref f)
 kp:Nk K (.ref f)=MQ
def  du(CX:CXT)(P:An)(w:zZ)(K:ac)(mg:Str->Option zY)(base:AU)(k:Nat)(x:Str)(m:Str)(ps:M3 Str)(sp:Sp):Prop :=
 ∃f a B,Gh K B m f/\aU P w K mg base CX k f a ps sp/\Binds K a ps []/\mg x=↑B
variable{CX:CXT}{m:Str}
section
variable{j k:Nat}
def ba.mono(c:ba CX P w K mg base j C m ps sp)(h:j<=k):ba CX P w K mg base k C m ps sp:=by
 let(f,a,M,F,b):=c;calc(f,a,M,F.mono h,b,)
def bu.mono(c:bu CX P w K mg base j x C ps sp)(h:j<=k):bu CX P w K mg base k x C ps sp:=by
 let(f,a,M,F,b):=c;calc(f,a,M,F.mono h,b,)
def du.mono(c:du CX P w K mg base j x m ps sp)(h:j<=k):du CX P w K mg base k x m ps sp:=by
 let(f,a,B,M,F,b):=c;calc(f,a,B,M,F.mono h,b,)
end
inductive Gi(C:AE)(m:Str)(sp:Sp)(t:TA)(σ:St)(Q:VK)(x:V)(H1:Hp):Prop
 |mk (a dx fs:_)(_:x=.ref a)(_:H1 a=MO (.ins C dx fs))(_:fs.lookup m=MP)(_:t σ H1 λvs H2=>sp (x :: vs) H2 Q E0)
def  tMt(C:AE)(m:Str)(sp:Sp)(a:TE)(t:TA):TE:=λσ H Q=>a σ H λx b=>Gi C m sp t σ Q x b
def  tMk(C:AE)(sp:Sp)(t:TA):TE:=λσ H Q=>t σ H λc b=>∀x a,b x=MP->b a=MP->a≠x ->
 sp (.ref x :: c) (upd (upd b a<|.own x) x<|.ins C a []) (λv d=>v=.non/\Q (.ref x) d) E0
variable{fd:Le}{apos:Pos}{o:Ej}{ta:TE}
section
variable{k:Nat}
def zi{MT:M3 (AE×Obj)}{σ:St}{H:Hp}{s:Ct}{Q:VK}{us:M3 zY}{vs:M3 V}{E:XK}(F:aU X.prog X.w X.K X.mg X.base CX k f fd ps sp)(b:dJ k X.A)(c:Binds X.K fd ps [])(a:Passes CX X E)
  (I:Inv X MT σ H s)(r:Vals vs us)(h:sp vs H Q E):D8 (model X.prog X.w) X.A (call (.ref f) us) (EP X MT σ Q) X.xe s :=
 Aq (dvs:=[]) (ds:=[]) F b c .nil a I r (by rw[hY];exact h)
def nW{pl:Sem Bool}(M:ba CX X.prog X.w X.K X.mg X.base k C m ps sp)(z:Passes CX X E0)(c:Cls X.K C)(D:dJ k X.A)(E:PE X o ta)(J:PA X (e :: es) t)
  (b:EX (e :: es) X.env=(MR,eval e X.env) :: EX es X.env:=by rfl)(d:(Ey pos<|EX es X.env).any (·.1)=false:=by rfl)
  (B:eval (.Call (.Attribute o m apos) (e :: es) [] pos) X.env=(do
   let g ←eval o X.env
   Gf apos.atName
   let (f,first) ←holding [g] (K6 g m pl)
   Md pos f first (Ey pos<|EX (e :: es) X.env) (Lx pos<|Ly [] X.env)):=by rfl) :
  PE X (.Call (.Attribute o m apos) (e :: es) [] pos) (tMt C m sp ta t):=by
 let(f,fd,i,F,G):=M;intro MT s σ H Q I h;calc M9 (pl:=pl) (thn (E MT s σ H _ I h) λu p (x,O,n,v,a,R,fs,L,N,l,q,)=>?_) B;subst L;obtain rfl:u=zY.ref a:=v;calc jV n N c i l ?_;calc GT (first:=[.ref a]) (h₀:=X.base) I.ok.mod.kin i.kp (thn (J pos MT p σ O _ n q) λus P (vs,S,j,r,y,)=>(j.kIn,?_,)) b d;calc zi (us:=.ref a :: us) (vs:=.ref a :: vs) F D G z j (.cons U r) y
def i7{pl:Sem Bool}(M:du CX X.prog X.w X.K X.mg X.base k x m ps sp)(l:Passes CX X E0)(o:dJ k X.A)(q:Gl X x)(y:PA X (e :: es) t)(d:(x == ("__debug__" : Str))=false:=by decide)
  (b:EX (e :: es) X.env=(MR,eval e X.env) :: EX es X.env:=by rfl)(c:(Ey pos<|EX es X.env).any (·.1)=false:=by rfl)
  (n:eval (.Call (.Attribute (.Name x np) m apos) (e :: es) [] pos) X.env=(do
   let g ←eval (.Name x np) X.env
   Gf apos.atName
   let (f,first) ←holding [g] (K6 g m pl)
   Md pos f first (Ey pos<|EX (e :: es) X.env) (Lx pos<|Ly [] X.env)):=by rfl) :
  PE X (.Call (.Attribute (.Name x np) m apos) (e :: es) [] pos) (tFn sp t):=by
 let(f,fd,B,a,F,u,p):=M;intro MT s σ H Q I h;calc M9 (pl:=pl) (fY I q p ?_ d) n;calc W.method_cls I.kIn a.sp<|W.cls_value (mc:=.type "type") I.kIn a.rd a.at_ (sy (v:=.ref f) U) ?_;calc GT (first:=[]) (h₀:=X.base) I.ok.mod.kin a.kp (thn (y pos MT _ σ H _ (I.tok _) h) λus z (vs,C,i,r,j,)=>(i.kIn,?_,)) b c;calc zi (us:=us) (vs:=vs) F o u l i r j
def mQ(M:bu CX X.prog X.w X.K X.mg X.base k x C ps sp)(l:Passes CX X E0)(m:dJ (k+1) X.A)(o:Gl X x)(u:PA X (e :: es) t)(i:(x == ("__debug__" : Str))=false:=by decide)
  (he:EX (e :: es) X.env=(MR,eval e X.env) :: EX es X.env:=by rfl)(g:(Ey pos<|EX es X.env).any (·.1)=false:=by rfl) :
  PE X (.Call (.Name x p) (e :: es) [] pos) (tMk C sp t):=by
 let(f,fd,M,F,r,n):=M;let h:=Ci (E:=E0) (dvs:=[]) (ds:=[]) (p:=p) M F m o n r .nil l u i he g;intro MT s σ H Q I q;calc h MT s σ H Q I ?_;let j:t σ H λc b=>∀x a,b x=MP->b a=MP->a≠x->sp (.ref x :: c) (upd (upd b a<|.own x) x<|.ins C a []) (λv d=>v=.non/\Q (.ref x) d) E0:=q
 show t σ H λc b=>∀x a,b x=MP->b a=MP->a≠x->sp (.ref x :: (c++[])) (upd (upd b a<|.own x) x<|.ins C a []) (λv d=>v=.non/\Q (.ref x) d) E0
 let y:(λ(c:M3 V)(b:Hp)=>∀x a,b x=MP->b a=MP->a≠x->sp (.ref x :: (c++[])) (upd (upd b a<|.own x) x<|.ins C a []) (λv d=>v=.non/\Q (.ref x) d) E0)=λc b=>∀x a,b x=MP->b a=MP->a≠x->sp (.ref x :: c) (upd (upd b a<|.own x) x<|.ins C a []) (λv d=>v=.non/\Q (.ref x) d) E0:=by
  funext c b
  rw[hY]
 rw[y];calc j
end
inductive Shw:V->Prop where
 |non:Shw .non
 |bl (b:Bool):Shw (.bl b)
 |int {i:Int}(h:i.natAbs<10^60):Shw (.int i)
 |str {z:Str}(h:⇑z<=1000)(k:∀n∈z.cps.toList,n<16^8):Shw (.str z)
def iQ{n:Int}(h:n.natAbs<10^60):n.natAbs.log2<1920:=by
 by_cases z:n.natAbs=0
 .rw[z];decide
 .let:=(Nat.log2_lt (k:=200) z).mpr<|tm h ⋯;lia
def  HM(c:Str)(ta:TE):TE:=λσ H Q=>ta σ H λx b=>Shw x/\⇑c<=1000/\∀a:Str,Q (.str a) b
def AI{a:Ej}{ta:TE}{c:Str}{k:Nat}{M B pos:Pos}(P:PE X a ta):PE X (.JoinedStr [.FormattedValue a 114 MP M,.Constant (.str c) k B] pos) (HM c ta):=by
 intro MT s σ H Q I h;let f:∀n,n<=20000->n<=AY:=λn O=>qu O ⋯
 calc L8<|L9<|Ma<|thn (P MT s σ H _ I h) λv m (x,g,D,C,L,S,q,)=>?_;let l:∀y:Str,⇑(re++y)=⇑y:=λy=>by rw[len_app];show 0+_=_;lia
 cases L with
 |non =>
  cases (show v=zY.none from C);calc pyReprObj_none<|formatField_str (λF d=>?_) ⋯;calc(_,_,U,⋯,L9 ?_,);let J:Inv X MT σ g { m with toks:=d }:=D.tok d;refine thn (aV (X:=X) (x:=c) (j:=k) (pos:=B) MT { m with toks:=d } σ g (λv A=>v=.str c/\A=g) J (U,U,)) λv G (y,w,u,o,r,p,)=>?_
  subst r p;let(E,rfl):=o;let K:⇑(re++s!"None")=4:=⋯
  refine(_,_,U,f _ (by rw[len_app,K];lia),Mc (f _ (by rw[len_app,K];lia),?_,),);exact(.str _,w,u.tok _,(_,U,),q _,)
 |bl b =>
  cases (show v=zY.bool b from C);let N:⇑(if b then s!"True"else s!"False")<=5:=by cases b <;> decide
  calc pyReprObj_bool<|formatField_str (λF d=>?_)<|f _ ∅;refine(_,_,U,f _ (by rw[l];lia),L9 ?_,);let J:Inv X MT σ g { m with toks:=d }:=D.tok d;refine thn (aV (X:=X) (x:=c) (j:=k) (pos:=B) MT { m with toks:=d } σ g (λv A=>v=.str c/\A=g) J (U,U,)) λv G (y,w,u,o,r,p,)=>?_
  subst r p;let(E,rfl):=o;refine(_,_,U,f _ (by rw[len_app,l];lia),Mc (f _ (by rw[len_app,l];lia),?_,),);exact(.str _,w,u.tok _,(_,U,),q _,)
 | @int i hi =>
  let(t,rfl):=(show ∃t,v=zY.int i t from C);let N:⇑(lm<|toString i)<=61:=by
   let e:⇑(lm<|toString i)=⇑(toString i):=by
    rw[L2];show(List.map OL (toString i).toList).toArray.size=_;rw[eg,bQ];exact Om
   rw[e];exact Me ⋯ hi
  calc pyReprObj_int (iQ hi)<|formatField_str (λF d=>?_)<|f _ ∅;refine(_,_,U,f _ (by rw[l];lia),L9 ?_,);let J:Inv X MT σ g { m with toks:=d }:=D.tok d;refine thn (aV (X:=X) (x:=c) (j:=k) (pos:=B) MT { m with toks:=d } σ g (λv A=>v=.str c/\A=g) J (U,U,)) λv G (y,w,u,o,r,p,)=>?_
  subst r p;let(E,rfl):=o;refine(_,_,U,f _ (by rw[len_app,l];lia),Mc (f _ (by rw[len_app,l];lia),?_,),);exact(.str _,w,u.tok _,(_,U,),q _,)
 | @str z hz hc =>
  let(t,rfl):=(show ∃t,v=zY.str z t from C);let R:=Nw z hc;calc Mb (formatField_str (λF d=>?_)<|f _ ∅)<|f _ ∅;refine(_,_,U,f _ (by rw[l];lia),L9 ?_,);let J:Inv X MT σ g { m with toks:=d }:=D.tok d;refine thn (aV (X:=X) (x:=c) (j:=k) (pos:=B) MT { m with toks:=d } σ g (λv A=>v=.str c/\A=g) J (U,U,)) λv G (y,w,u,o,r,p,)=>?_
  subst r p;let(E,rfl):=o;refine(_,_,U,f _ (by rw[len_app,l];lia),Mc (f _ (by rw[len_app,l];lia),?_,),);calc(.str _,w,u.tok _,(_,U,),q _,)
def ja{X:Cx}{K:ac}{e:Ej}{f:Str}{pos:Pos}{ta:TE}(h:X.K=K)(a:PE X e ta)(b:K9 e f X.env (eval e X.env)=eval e X.env):PE X (.Attribute e f pos) (FV K ta f):=h ▸ aP a b
set_option maxRecDepth 100000
inductive DEq(K:ac)(H:Hp):Nat->V->V->Bool->Prop where
 |flat {n:Nat}{x y:V}(fx:eM x=MQ)(fy:eM y=MQ):DEq K H n x y (eqV x y)
 |same {n:Nat}(a:AE):DEq K H n (.ref a) (.ref a) MQ
 |lst {n:Nat}{a b:AE}{xs ys:M3 V}{f:Nat->Bool}(ne:a≠b)(ha:SqL K H a xs)(hb:SqL K H b ys)(hl:⇑xs=⇑ys)(h:∀(j:Nat)(x y:V),xs[j]?=MO x->ys[j]?=MO y->DEq K H n x y (f j)):DEq K H (n+1) (.ref a) (.ref b) ((gl ⇑xs).all f)
 |lst_ne {n:Nat}{a b:AE}{xs ys:M3 V}(ne:a≠b)(ha:SqL K H a xs)(hb:SqL K H b ys)(hl:⇑xs≠⇑ys):DEq K H (n+1) (.ref a) (.ref b) MR
 |tup {n:Nat}{a b:AE}{xs ys:M3 V}{f:Nat->Bool}(ne:a≠b)(ha:SqT K H a xs)(hb:SqT K H b ys)(h:∀(j:Nat)(x y:V),xs[j]?=MO x->ys[j]?=MO y->DEq K H n x y (f j)):DEq K H (n+1) (.ref a) (.ref b) ((gl<|min ⇑xs ⇑ys).all f && ⇑xs == ⇑ys)
def oS{xs:M3 V}{a:M3 zY}(r:Vals xs a){j:Nat}(h:j<a.toArray.size):∃x,xs[j]?=MO x/\RelV x a.toArray[j]:=by
 let f:j<⇑a:= ~~~h
 let i:=⇑r;let b:xs[j]?=MO xs[j]:=KG ∅;let(d,c,e):=r.get b;let g:a.toArray[j]=d:=by
  let:=KG f;rw[this]at c;simpa using dL c
 calc(xs[j],b,g ▸ e,)
def DEq.at{n:Nat}{x y:V}{b:Bool}(e:DEq X.K H n x y b)(I:Inv X MT σ H s):∀{A:Cm}{u v:zY},A.units+n<Lb->RelV x u->RelV y v->Nt A s u v b:=by
 induction e with
 |flat G F=>intro A u v o i g;exact tX i g G F
 |same a =>
  intro A u v o i g;cases (show u=zY.ref a from i);cases (show v=zY.ref a from g);exact Nl _
 | @lst n a b xs ys f ne ha hb hl h ih =>
  intro A u v o i g;cases (show u=zY.ref a from i);cases (show v=zY.ref b from g);let(d,r,p,_):=I.list ha;let(c,k,l,_):=I.list hb;let E:=⇑r;let D:=⇑k;let m:=SeqAt.RcAt.lists (A:=A) (e:=f) p.isList l.isList (by simp only[eg];lia) ∅ (λj z w=>by
   let(x,C,t):=oS r z;let(y,B,q):=oS k w;exact ih j x y C B (by show A.units+1+n<Lb;lia) t q)
  rw[show d.toArray.size=⇑xs by simp only[eg];lia]at m;exact M4 ne m
 | @lst_ne n a b xs ys ne ha hb hl =>
  intro A u v o i g;cases (show u=zY.ref a from i);cases (show v=zY.ref b from g);let(d,r,p,_):=I.list ha;let(c,k,l,_):=I.list hb;let E:=⇑r;let D:=⇑k;exact M4 ne<|SeqAt.RcAt.lists_lengths p.isList l.isList (by simp only[eg,bne_iff_ne,ne_eq];lia) ∅
 | @tup n a b xs ys f ne ha hb h ih =>
  intro A u v o i g;cases (show u=zY.ref a from i);cases (show v=zY.ref b from g);let(d,r,p,_):=I.tuple ha;let(c,k,l,_):=I.tuple hb;let E:=⇑r;let D:=⇑k;let m:=Oi (A:=A) (e:=f) (show s.heap.IsTuple a d.toArray from p) (show s.heap.IsTuple b c.toArray from l) ∅ (λj z w=>by
   let(x,C,t):=oS r z;let(y,B,q):=oS k w;exact ih j x y C B (by show A.units+1+n<Lb;lia) t q)
  rw[show d.toArray.size=⇑xs by simp only[eg];lia,show c.toArray.size=⇑ys by simp only[eg];lia]at m;calc M4 ne m
inductive AJ(K:ac)(neg:Bool)(x:V)(y:V)(H:Hp)(Q:VK):Prop
 |mk (a b xs ys:_)(_:x=.ref a)(_:y=.ref b)(_:SqL K H a xs)(_:SqL K H b ys)(_:((⇑xs≠⇑ys/\Q (.bl neg) H)\/(⇑xs=⇑ys/\∃f:Nat->Bool,(∀(j:Nat)(x y:V),xs[j]?=MO x->ys[j]?=MO y->DEq K H 60 x y (f j))/\Q (.bl (if neg then !(gl ⇑xs).all f else(gl ⇑xs).all f)) H)))
def Cu{MT:M3 (AE×Obj)}{σ:St}{H:Hp}{s:Ct}{A:Cm}{xs ys:M3 V}{a its':M3 zY}{f:Nat->Bool}(I:Inv X MT σ H s)(h:A.units+60<Lb)(r:Vals xs a)(d:Vals ys its')
  (hf:∀(j:Nat)(x y:V),xs[j]?=MO x->ys[j]?=MO y->DEq X.K H 60 x y (f j)):∀j (c:j<a.toArray.size)(b:j<its'.toArray.size),Nt A s a.toArray[j] its'.toArray[j] (f j):=λj c b=>by
 let(x,k,g):=oS r c;let(y,i,e):=oS d b;calc(hf j x y k i).at I h g e
def Cv{k:Nat}(n:dJ k X.A):OpR X (K2 .Eq) (AJ X.K MR):=by
 intro MT s σ H x y v u Q I m l h;let(a,b,j,z,rfl,rfl,w,t,h):=h;cases (show v=zY.ref a from m);cases (show u=zY.ref b from l);let(c,r,p,_):=I.list w;let(i,d,g,_):=I.list t;let C:=⇑r;let B:=⇑d;let D:=n.units;rcases h with⟨E,q⟩|⟨F,f,o,q⟩
 .refine Oa p.isList g.isList (by simp only[eg,bne_iff_ne,ne_eq];lia) ∅ (.bl MR,H,I,U,q,)
 .refine SeqAt.eq_listAt (e:=f) p.isList g.isList (by simp only[eg];lia) ∅ (Cu I (by show X.A.units+1+60<Lb;lia) r d o) (.bl _,H,I,U,?_,);rw[show c.toArray.size=⇑j by simp only[eg];lia];calc q
section
variable{κ:Type} [DecidableEq κ]
def  cntK(ks:M3 κ):Nat->Nat
 |0=>0
 |i+1=>match ks[i]? with
  |some k=>if k∈ks.take i then cntK ks i else cntK ks i+1
  |none=>cntK ks i
def nZ(ks:M3 κ):∀i,cntK ks i<=i
 |0=>pT _
 |i+1=>by
  let a:=nZ ks i;unfold cntK;split
  .split <;> lia
  .lia
def iI(ks:M3 κ):∀i,i<=⇑ks->(cntK ks i=i↔(ks.take i).Nodup)
 |0,_=>by simp[cntK]
 |i+1,h=>by
  let c:=iI ks i ∅;let le:=nZ ks i;let e:ks[i]?=MO ks[i]:=KG ∅;let g:ks.take (i+1)=ks.take i++[ks[i]]:=by rw[NP,e];rfl
  unfold cntK;rw[e,g,nk];dsimp only;by_cases m:ks[i]∈ks.take i
  .rw[MV m];exact(λz=>MW z ∅,λz=>MW U<|z.2.2 _ m _ (by simp),)
  .rw[MU m];refine(λz=>(c.mp ∅,by simp,λa f b d=>?_,),λz=>by rw[c.mpr z.1],);rw[show b=ks[i] by simpa using d];calc λq=>m<|q ▸ f
variable{knd:KeyKind prog w κ}
def mW{h h':AU}{a:AE}{S:κ->Bool}{n:Nat}(x:h.SetOf knd a S n)(k:∀o,h.get? a=MO o->h'.get? a=MO o):h'.SetOf knd a S n:=by
 let(o,es,c,t,b,r):=x;calc(o,es,c,t,k o b,r,)
def qH{h:AU}{a:AE}{S c:κ->Bool}{n b:Nat}(x:h.SetOf knd a S n)(e:S=c)(d:n=b):h.SetOf knd a c b:=e ▸ d ▸ x
def zj{R:K7->Ct->Prop}{I:AE}{C g:M3 AE}{G:Array D0->Array D0->Prop}{n:Nat}{P:Nat->zY->Prop}{St:Nat->Ct->Prop}(W:WalksS prog w A.in1 I C g G n P St){a:AE}(B:a ∉ C){ks:M3 κ}
  (Q:∀i v,P i v->∃k,ks[i]?=MO k/\knd.is k v=MQ/\v.scannable=MQ)(f:n+1<Mf):∀(d i:Nat)(s:Ct),n=i+d->St i s->s.heap.SetOf knd a (λk=>decide<|k∈ks.take i) (cntK ks i) ->
   (∀s',Moved (a :: g) G s s'->s'.heap.SetOf knd a (λk=>decide<|k∈ks.take n) (cntK ks n)->R (.ok<|.ret .none) s')->K8 (model prog w) A (.builtin "set.update.loop" ([.ref a,.ref I],[],)) R s:=by
 let u:a ∉ g:=λz=>B<|W.sub a z
 intro d;induction d with
 |zero =>
  intro i s e st x fin;rw[show n=i by lia]at W fin;calc Mg (R:=R) (A:=A) Oy ?_;rw[GM (A:=A) Nx _];show D8 (model prog w) A.in1 (KO (.ref I) >>= _) _ _ s;exact zb<|W.done s _ _ st λs' m=>zp<|fin s' (m.mono λb f=>eY a f)<|mW x λo q=>m.heap a o u q
 |succ d O =>
  intro i s e st x fin;calc Mg (R:=R) (A:=A) Oy ?_;rw[GM (A:=A) Nx _];show D8 (model prog w) A.in1 (KO (.ref I) >>= _) _ _ s;calc zb<|W.item i s _ _ ∅ st λv c p h m=>?_;let(k,D,t,L):=Q i v p;let K:=mW x λo q=>m.heap a o u q
  show D8 (model prog w) A.in1 (holding [v] (setAdd a v) >>= _) _ _ c;refine zb<|zz (show D8 (model prog w) A.in1 (setAdd a v) _ _ c from ?_);unfold setAdd;calc zz<|zb<|knd.pyHash t ?_;let le:=nZ ks i;refine wpAny_setAddHashed_of (knd:=knd) (s:={ c with toks:=c.toks+1 }) t L K ∅ λh' r J=>?_
  let S:ks.take (i+1)=ks.take i++[k]:=by rw[NP,D];rfl
  let H:h'.SetOf knd a (λq=>decide<|q∈ks.take (i+1)) (cntK ks<|i+1):=by
   refine qH J (funext λq=>?_) ?_
   .rw[S];by_cases z:q∈ks.take i <;> by_cases y:q=k <;> simp[z,y]
   .show(if decide (k∈ks.take i)=MQ then cntK ks i else cntK ks i+1)=match ks[i]? with|some k=>if k∈ks.take i then cntK ks i else cntK ks i+1|none=>cntK ks i
    rw[D];by_cases z:k∈ks.take i <;> simp[z]
  calc zp (Mh Nx _,O (i+1) { c with heap:=h',toks:=c.toks+1 } ∅ (W.frame (i+1) c h' (c.toks+1) h (rZ _) λb l o q=>(r.2 b λz=>B<|z ▸ l).trans q) H λM N E=>?_,);calc fin M (Moved.trans W.gtrans ((m.mono λb f=>eY a f).then_heap (rZ _) λb o j q=>?_) N) E;calc(r.2 b λz=>j<|z ▸ gb).trans q
abbrev mX(a:Bool):Obj:={ cls:=.type "set",dict:=MP,data:=.set #[] 0 (.fresh 0 0 a) }
def  Filled(knd:KeyKind prog w κ)(s:Ct)(ks:M3 κ)(h':AU):Prop :=
 h'.SetOf knd ↥s (λk=>decide<|k∈ks) (cntK ks ⇑ks)/\∀b o,b<↥s->s.heap.get? b=MO o->h'.get? b=MO o
def AK{l:AE}{items:Array zY}{ks:M3 κ}{a:Bool}(I:A.handled=MP)(G:s.heap.IsList l items)(H:∀(i:Nat)(v:zY),items[i]?=MO v->∃k,ks[i]?=MO k/\knd.is k v=MQ/\v.scannable=MQ)(D:⇑ks=items.size)(J:items.size+1<Mf) :
  K8 (model prog w) A (.call (.builtin "set.__init__") ([.ref ↥s,.ref l],[],)) (wants (λr u=>r=.none/\∃h' p,u={ s with heap:=h',toks:=p }/\Filled knd s ks h') E) { s with heap:=s.heap.push (mX a) }:=by
 let n:(s.heap.push<|mX a).get? ↥s=MO (mX a):=ii s.heap U;let ty:Ct.TypeIs { s with heap:=s.heap.push (mX a) } (.ref ↥s) "set" := (mX a,n,U,);calc codeAny_call_builtin Is.init.plain F.entry_set_init<|check_set_init_1 ty ?_;let((V,P,T,O),g,j,m,h):=G;dsimp only at j h;subst j h;let L:(s.heap.push<|mX a).get? l=MO { cls:=.type "list",dict:=P,data:=.seq items m,slots:=O }:=am _ g;let S:=F.sub_list_set;let R:=F.sub_list_frozenset;let Q:(zY.type "list" == zY.type "dict")=false:=⋯
 let f:(s.heap.push<|mX a).IsList l items:=(_,L,U,m,U,);let lt:l<↥s:=bn g;unfold KY.«set.__init__» KY.Frozenset.updateFrom noKeywords;generalize K:KQ=it
 wp_walk
 subst K;calc KW f<|zb<|Mi ?_;let B:l≠(s.heap.push<|mX a).objs.size:=by rw[Da];exact qo<|rJ lt
 let C:↥s ∉ [(s.heap.push<|mX a).objs.size,l]:=by
  rw[Da];intro z;rcases cZ.mp z with z|z
  .exact MW z<|qo<|so _
  .exact MW (~~~z)<|rG lt
 refine zj (knd:=knd) ((Walks.list (by simp[I]) _ l B items).toS) C (ks:=ks) H J items.size 0 _ (Ny _).symm ((_,ii _ U,U,U,),f.push _,) (qH ((setObjOf_fresh (knd:=knd) a).setOf (am _ n) (by unfold Mf;lia)) (funext λk=>by simp) U) λs' d x=>?_
 let(h',M,N,t,y):=s';obtain rfl:M=s.gens:=d.gens;obtain rfl:N=s.drawn:=d.drawn;obtain rfl:y=s.os:=d.os;refine zp (show D8 (model prog w) _ (ret zY.none) _ _ _ from zp (U,h',t,U,?_,λb o c q=>?_,))
 .rw[←D]at x;exact qH x (funext λk=>by rw[dY]) U
 .refine d.heap b o (λz=>?_)<|am _<|am _ q;rcases cZ.mp z with z|z
  .exact MW z<|qo c
  .let e:b=(s.heap.push<|mX a).objs.size:= ~~~z
   rw[Da]at e;exact MW e (qo<|rJ c)
set_option maxRecDepth 100000 in
def zk{l:AE}{items:Array zY}{ks:M3 κ}{Q:zY->Ct->Prop}(q:A.handled=MP)(o:s.heap.IsList l items)(p:∀(i:Nat)(v:zY),items[i]?=MO v->∃k,ks[i]?=MO k/\knd.is k v=MQ/\v.scannable=MQ)(n:⇑ks=items.size)(t:items.size+1<Mf)
  (h:∀h' d,Filled knd s ks h'->Q (.ref ↥s) { s with heap:=h',toks:=d }):D8 (model prog w) A (call (.type "set") [.ref l]) Q E s:=by
 let(c,tl,mro):=Is.mro;let H:=Is.made;let G:=Is.sub;let D:=Is.notType;let C:=Is.canCreate;let B:=F.typeCall_set_1<|.ref l;refine Lh<|codeAny_of_tree (show D8 (model prog w) _ (callAny (.type "set") _) _ _ _ from zp (Lc.quiet_builtin _<|~~~0,Mg F.entry_type_call ?_,));rw[Cm.under_plain (A:=A) (weight_type_call_type "set" [.ref l] []) U]
 repeat (any_goals (first|assumption|wp_step))
 refine Li (code_set_new_1 (.ref l) (E:=E) (Q₁:=λj g=>∃a,j=.ref ↥s/\g={ s with heap:=s.heap.push (mX a) }) λa=>(a,U,U,)) λr g f=>?_
 cases r with
 |error e=>exact f
 |ok fl =>
  cases fl with
  |ret j =>
   let(a,rfl,rfl):=f;let u:(s.heap.push<|mX a).get? ↥s=MO (mX a):=ii s.heap U;let ty:Ct.TypeIs { s with heap:=s.heap.push (mX a) } (.ref ↥s) "set" := (mX a,u,U,);let b1:=Is.init.lookup;let b2:=Is.init.bind<|.ref ↥s
   repeat (any_goals (first|assumption|wp_step))
   refine Li (AK (E:=E) (knd:=knd) (by simp[q]) o p n t) λm z b=>?_
   cases m with
   |error e=>exact b
   |ok y =>
    cases y with
    |ret r =>
     let(rfl,h',d,rfl,x):=b
     repeat (any_goals (first|assumption|wp_step))
     exact h h' d x
    |_=>exact b.elim
  |_=>calc f.elim
end
def  pW(P:An)(w:zZ)(a:AE)(zs:M3 Str):HO:=.ext λh=>h.SetOf (strKind P w) a (λz=>decide<|z∈zs)<|cntK zs ⇑zs
def sV:∀{zs:M3 Str}{us:M3 zY},Vals (zs.map OT) us->∀(i:Nat)(v:zY),us[i]?=MO v->∃z t,zs[i]?=MO z/\v=.str z t
 | [],_,.nil,i,v,h=>by simp at h
 |z :: zs,_,.cons (t,e,) r,0,v,h=>by simp at h;exact(z,t,U,by rw[←h,e],)
 |z :: zs,_,.cons _ r,i+1,v,h=>by
  let(a,t,c,b):=sV r i v<|~~~h;calc(a,t,~~~c,b,)
def fJ(B:X.calm=MQ):iM X (.type "set") (λxs H Q=>∃(p:AE)(zs:M3 Str),xs=[.ref p]/\SqL X.K H p (zs.map OT)/\⇑zs<=1000/\∀l,H l=MP->Q (.ref l) (upd H l<|pW X.prog X.w l zs)):=by
 intro MT s σ H xs F Q I r h;let(p,zs,rfl,C,G,q):=h;let(u,rfl,n):=r.one;obtain rfl:u=zY.ref p:=n;let(E,d,A,_):=I.list C;let f:=⇑d;rw[bQ]at f;refine zk (knd:=strKind X.prog X.w) (ks:=zs) (I.ok.hd B) A.isList (λi v e=>?_) (~~~f) (by unfold Mf;simp;lia) λh' m x=>?_
 .let(z,t,D,rfl):=sV d i v<|~~~e;exact(z,D,by show zY.isStrOf z (.str z t)=MQ;simp[zY.isStrOf],U,)
 .let(c,j):=x;calc(.ref ↥s,_,I.laid (a:=↥s) (o:=pW X.prog X.w ↥s zs) (h':=h') (t':=m) (λb o q=>j b o (bn q) q) (pT _) ?_,U,q _ I.fresh,);calc(c,?_,λL J y k=>mW y k,);let(o,_,_,_,g,_):=c;calc(o,g,)
def  Cw:zY->Int
 | .int k _=>k
 |_=>0
structure Kr(es:Array (Int×zY))(ks:M3 Int):Prop where
 ent:∀e∈es.toList,e.1=hashInt (Cw e.2)/\∃u,e.2=.int (Cw e.2) u
 nd:(es.toList.map λe=>Cw e.2).Nodup
 mem:∀k,k∈ks↔k∈es.toList.map λe=>Cw e.2
set_option maxRecDepth 100000
set_option maxRecDepth 100000
set_option maxRecDepth 100000
section
variable{Y:M3 AE}
def Inv.excStepY(I:Inv X MT σ H s)(st:Stp (frs X.stack) Y s.heap h')(h:∀b∈Y,dC X MT H b):Inv X MT σ H { s with heap:=h' }:=by
 let D:∀b,b≠X.env.locals->b ∉ X.fs->b ∉ frs X.stack:=λb R Q z=>(cZ.mp<|I.stkSub b z).elim R Q
 let w:∀b o,X.s₀.heap.get? b=MO o->b ∉ Y:=λb o q z=>by rw[(h b z).ent]at q;cases q
 let B:∀b o,X.s₀.heap.get? b=MO o->b≠X.env.locals:=λb o q=>qo<|ri (bn q) I.ok.above
 let any:∀b o,b ∉ Y->s.heap.get? b=MO o->∃t,h'.get? b=MO { o with slots:=t }:=λb o M q=>by
  by_cases J:b∈frs X.stack
  .exact st.slot b o J q
  .exact(o.slots,st.keep b o J M q,)
 let e:∀x c,X.env.cells.lookup x=MO c->∀v,s.heap.IsCell c v->h'.IsCell c v:=λx c f v (o,N,P,)=>by
  let(t,q):=any c o (λz=>(h c z).cel x c f U) N;exact(_,q,P,)
 refine(I.ok,I.os,I.bare,(λb o q n g a=>?_,λb o q n g a=>?_,I.base.free,λb o q a=>?_,I.base.tups,I.base.frzs,I.base.tbls,),?_,λx c f=>?_,I.free,I.freeC,λp G=>?_,I.hok.stp st I.stkFree<|λb g=>(h b g).unt,I.len,)
 .exact st.keep b o (D b (B b o q) g) (w b o q)<|I.base.keep b o q n g a
 .let(t,A):=I.base.slot b o q n g a;let(j,y):=any b _ (w b o q) A;exact(j,y,)
 .let(Z,A):=I.base.there b o q a;let(j,y):=any b _ (w b o q) A;exact(_,y,)
 .let(m,(L,es,S,C,r),O):=I.loc;let(t,q):=any X.env.locals L (λz=>(h _ z).loc U) C;calc(m,(_,es,S,q,r,),λi x v W V T=>?_,);let(u,K,l):=O i x v W V T;calc(u,K,?_,);rcases l with l|⟨k,c,f,z⟩
  .exact .inl l
  .exact .inr (k,c,f,e x c f _ z,)
 .let(v,z):=I.cell x c f;exact(v,e x c f v z,)
 .let(q,n,F,E,d):=I.pin p G;calc(st.keep p.1 p.2 (D p.1 F E) (λz=>(h _ z).pin p G U) q,n,F,E,d,)
end
def  kQ(X:Cx)(L:AE)(E:XK):zY->Ct->Prop:=λf s'=>∃(e C:AE)(c:zY×zY)(d:M3 AE)(MT:M3 (AE×Obj))(σ:St)(a:Hp),f=.ref e/\Inv X MT σ a s'/\AG s'.heap L e (.ref C) c d/\(∀b∈e :: d,dC X MT a b)/\∃m,(m=MP->c.2=.none)/\E (.ref C) m a
def iJ{X:Cx}{L:AE}{E:XK}(a:X.stack=X.env :: X.outer)(c:X.env.frame=MO L)(v:X.ex=[]):KL (model X.prog X.w) X.A X.env (kQ X L E):=by
 rintro R d ⟨e,C,D,S,MT,σ,H,rfl,I,x,f,q⟩;let i:X.A.frames=MO (X.env :: X.outer):=by rw[←a];exact I.ok.frames
 let j:d.heap.FunFrames X.base (X.env :: X.outer):=by rw[←a];exact I.stack
 refine note i j c x λg T st k B=>?_
 rw[←a]at st;let n:=I.excStepY st f;let u:dC X MT H T:=by
  rcases B with z|z
  .exact I.newAt v z
  .exact f T<|eY e z
 let m:∀b∈[e,T],dC X MT H b:=λb y=>by
  rcases cZ.mp y with z|z
  .rw[z];exact f e gb
  .rw[show b=T by simpa using z];exact u
 show D8 (model X.prog X.w) X.A (do
  if (←field (.ref e) 1) == .none then unsupported "frame.own-activation:exception-without-traceback"
  L4 (.ref e) X.env.frame) _ _ { d with heap:=g }
 let(oe,N,P,O,r,M,p,o,K,J,G,F):=id k;calc zb<|L3 (s:={ d with heap:=g }) r p o ?_;rw[MU (show ¬ (zY.ref T == zY.none)=MQ by simp)];show D8 (model X.prog X.w) X.A (L4 (.ref e) X.env.frame) _ _ _;rw[c];refine sU (s:={ d with heap:=g }) (l:=X.stack) n.stack k λQ h t=>?_
 calc(e,C,D,[T],MT,σ,H,U,n.excStepY h m,.held t,m,q,)
section
variable{E:XK}
abbrev cxE(P:An)(w:zZ)(K:ac)(mg:Str->Option zY)(base:AU)(N:M3 Str)(qual:Str)(scope:Du)(f:AE)(cd:zY)(A:Cm)(outer:M3 Env)(s0:Ct)(H0:Hp)(E:XK):Cx :=
 (bj (CX1 P w) P w K mg base N qual scope f cd A outer s0 H0 E).wish (kQ (bj (CX1 P w) P w K mg base N qual scope f cd A outer s0 H0 E) ↥s0 E)
def zm{m:zY}{s:Ct}(h:kQ (bj (CX1 P w) P w K mg base N qual scope f cd A outer s0 H0 E) ↥s0 E m s):(bj (CX1 P w) P w K mg base N qual scope f cd A outer s0 H0 E).xe m s:=by
 let(e,C,v,B,MT,σ,H,rfl,I,x,g,q):=h;let j:(bj (CX1 P w) P w K mg base N qual scope f cd A outer s0 H0 E).A.frames=MO (envOfC qual scope ↥s0 f cd :: outer):=I.ok.frames;let t:(envOfC qual scope ↥s0 f cd).frame=MO ↥s0:=rfl;show D8 (model P w) _ (leaving (envOfC qual scope ↥s0 f cd)<|.ref e) _ _ s;unfold leaving;calc zb<|note j I.stack t x λu T st p r=>?_;let c:=I.excStepY st g;let i:dC (bj (CX1 P w) P w K mg base N qual scope f cd A outer s0 H0 E) MT H T:=by
  rcases r with z|z
  .exact I.newAt U z
  .exact g T<|eY e z
 let ne:=g e gb;let k:∀b∈[e,T],dC (bj (CX1 P w) P w K mg base N qual scope f cd A outer s0 H0 E) MT H b:=λb a=>by
  rcases cZ.mp a with z|z
  .rw[z];exact ne
  .rw[show b=T by simpa using z];exact i
 refine sU (s:={ s with heap:=u }) (l:=envOfC qual scope ↥s0 f cd :: outer) c.stack p λy d n=>?_
 refine(e,T,C,v,H,U,c.os,c.bare,c.base.stp d (λb o q a=>?_) (λb a=>?_)<|λb a=>(k b a).ent,c.hok.stp d c.stkFree<|λb a=>(k b a).unt,n,ne.ent,i.ent,ne.unt,i.unt,q,)
 .rcases cZ.mp (c.stkSub b a)with z|z
  .exact MW (ri (bn q) c.ok.above) (by rw[z];exact sh _)
  .exact z
 .show b∈frs (envOfC qual scope ↥s0 f cd :: outer);unfold frs;rw[jz];calc eY _ a
def PSs.leaves{st:M3 E1}{t:TS}(h:PSs (cxE P w K mg base N qual scope f cd A outer s0 H0 E) st t):PSs (bj (CX1 P w) P w K mg base N qual scope f cd A outer s0 H0 E) st t:=λMT s σ H D I a =>
 FC (h MT s σ H D (I.wish _) a) (λ_ _ q=>q.unwish) λ_ _ z=>zm z
def Fun.okE{x:Str}{st:E1}{fd:Le}{ps:M3 Str}{k:Nat}{sp:Sp}(F:Fun K x qual st f fd)(S:ar N ps (aj st))(b:∀vs H Q E,sp vs H Q E->⇑vs=⇑ps)
  (e:∀(a:zY)(A:Cm)(outer:M3 Env)(s:Ct)(H:Hp)(vs:M3 V)(Q:VK)(E:XK),dJ k (A.deeper<|envOfC qual (aj st) ↥s f a)->sp vs H Q E ->
   ∃t,PSs (cxE P w K mg base N qual (aj st) f a A outer s H E) (i4 st) t/\t { nx:=λ_ H'=>Q .non H',rt:=Q } (start N vs) H):aU P w K mg base (CX1 P w) (k+1) f fd ps sp:=by
 let(o,n,kV,l,m,r,a,p,j,rfl,g,d):=F.ex;refine DB g d S b λA outer s H vs Q E i c=>?_
 let(t,h,q):=e a A outer s H vs Q E i c;calc(t,h.leaves,q,)
def dc{x:Str}{C:AE}{np c pos:Pos}{a:Ej}{es:M3 Ej}{t:TA}(X:ExcCls K C)(R:A.handled=MP)(Q:Gl (cxE P w K mg base N qual scope f cd A outer s0 H0 E) x)(M:mg x=↑C)
  (T:PA (cxE P w K mg base N qual scope f cd A outer s0 H0 E) (a :: es) t)(j:(x == ("__debug__" : Str))=false:=by decide)
  (he:EX (a :: es) (envOfC qual scope ↥s0 f cd)=(MR,eval a<|envOfC qual scope ↥s0 f cd) :: EX es (envOfC qual scope ↥s0 f cd):=by rfl)
  (g:(Ey c<|EX es<|envOfC qual scope ↥s0 f cd).any (·.1)=false:=by rfl) :
  PS (cxE P w K mg base N qual scope f cd A outer s0 H0 E) (.Raise (MO<|.Call (.Name x np) (a :: es) [] c) MP pos) (Ew C E t):=by
 intro MT s σ H D I h;let(a3,a2,l,B,Bn,a0,qG,a1,L,F1,F2,p):=X.ex;let(bm,Z,nm,q,bs,hdct,sn,sub,ab,col,dd,k0,k1,k2,k3,k5,mN,G,F,y,n):=ExcCls.obj I.ok.mod.kin L;refine wpAny_Raise_call_subU (C:=C) (nm:=nm) (q:=q) (N:=Z) (bs:=bs) (bm:=bm) (hdct:=hdct) (sn:=sn) (sub:=sub) (ab:=ab) (col:=col) (dd:=dd) (k0:=k0) (k1:=k1) (k2:=k2) (k3:=k3) (k5:=k5) F1 F2 p (L7.hasType n p.hasBase) R (by
  show(Ey c<|EX (a :: es)<|envOfC qual scope ↥s0 f cd).any (·.1)=MR;rw[he];show(MR || (Ey c<|EX es<|envOfC qual scope ↥s0 f cd).any (·.1))=MR;rw[g];rfl) (mN:=mN) y (fY I Q M (U,?_,) j)
 show D8 _ _ (Mj (.ref C) MQ (Ey c<|EX (a :: es)<|envOfC qual scope ↥s0 f cd) []) _ _ s;rw[he];calc NB ?_;let z:D8 (model P w) (cxE P w K mg base N qual scope f cd A outer s0 H0 E).A (spliced<|Ey c<|EX (a :: es)<|envOfC qual scope ↥s0 f cd) _ _ s:=T c MT s σ H _ I h;rw[he]at z;refine thn z λus u (vs,H2,d,r,O,v,)=>(U,by rw[←⇑r];exact O,?_,)
 refine(d.bk C _ G,?_,n.keeps d.bk,λh' e m=>?_,)
 .let(o,k,Y,W,V):=F;exact(o,k,Y,d.bk _ _ W,V,)
 .let J:=d.unwish;let(t',i,_,_):=m.there;calc(e,C,(.ref t',.none),[],MT,σ,H2,U,J.kept (t':=u.toks) m.keeps,.fresh i U U U U U,λb S=>?_,MP,λ_=>U,v,);rw[show b=e by simpa using S];calc J.newAt U m.new
def jH:Passes (CX1 P w) (cxE P w K mg base N qual scope f cd A outer s0 H0 E) E:=λMT σ H s p s' I h=>by
 let(e,T,C,n,o,rfl,i,d,un,g,x,ne,j,k,m,q):=h;let J:=(I.unwish).call' (ch:=[]) i un g d λb z=>MW z (by simp)
 let a:=(I.unwish).newAt U ne;let c:=(I.unwish).newAt U j;calc(e,C,n,[T],MT,σ,o,U,J,.fly x,λb l=>?_,q,);rcases cZ.mp l with z|z
 .rw[z];exact(a.ent,k,a.loc,a.cel,a.pin,)
 .rw[show b=T by simpa using z];calc(c.ent,m,c.loc,c.cel,c.pin,)
end
inductive AL(K:ac)(x:V)(vs:M3 V)(H:Hp)(Q:VK):Prop
 |mk (p:AE)(xs:M3 V)(y z:V)(j:Nat)(_:x=.ref p)(_:vs=[y])(_:SqL K H p xs)(_:eM y=MQ)(_:xs.all eM=MQ)(_:xs[j]?=MO z)(_:eqV z y=MQ)(_:(∀(m:Nat)(u:V),m<j->xs[m]?=MO u->eqV u y=MR))(_:Q (.int j) H)
def AM:MtM X "list.index" (AL X.K):=by
 intro MT s σ H x vs v us Q I D E h;let(p,b,y,z,j,rfl,rfl,P,S,fs,g,L,k,q):=h;obtain rfl:v=zY.ref p:=D;let(u,rfl,G):=E.one;let(a,r,J,i):=I.list P;let N:=⇑r;let O:j<⇑b:=(KH.mp g).1;let Z:⇑b<2^62:=uk i ⋯;let((c1,Y,c3,W),o,B,n,A):=J.isList;dsimp only at B A;subst B A;let c:∀(m:Nat)(d:m<a.toArray.size)(w:V),b[m]?=MO w->eM w=MQ->eqU y a.toArray[m]=eqV w y:=λm d w e f=>by
  let(t,C,T):=r.get e;let:a.toArray[m]=t:=by
   let R:a[m]?=MO a.toArray[m]:=by
    let:m<⇑a:= ~~~d
    simp
   rw[R]at C;exact dL C
  rw[this];exact wY T f
 let fl:∀(m:Nat)(w:V),b[m]?=MO w->eM w=true:=λm w e=>gX.mp fs w<|KJ e
 refine Lz PySem.F.slot_list_index (_,o,U,) PySem.F.entry_list_index (PySem.F.args_list_index_2 _ _) (SeqAt.list_indexAt p a.toArray n Y W u (eqU y) j (by simpa[←N]using O) ∅ ?_ λm d l=>?_) (o,λt M=>jD G S r fs t<|~~~M,(.int j,H,I.tok _,(_,U,),q,),)
 .rw[c j _ z g (fl j z g)];exact L
 .let e:b[m]?=MO b[m]:=KG ∅;rw[c m d _ e (fl m _ e)];calc k m _ l e
def fK:iM X (.builtin "len") (λxs H Q=>∃(l:AE)(zs:M3 Str),xs=[.ref l]/\H l=MO (pW X.prog X.w l zs)/\⇑zs<=1000/\Q (.int ((cntK zs ⇑zs:Nat):Int)) H):=by
 intro MT s σ H xs i Q I r h;let(l,zs,rfl,e,j,q):=h;let(u,rfl,b):=r.one;obtain rfl:u=zY.ref l:=b;let((o,es,k,t,g,f,d,_,_,_,c,a),_,_):=I.hok l _ e;let le:=nZ zs ⇑zs;refine call_len_set g f d c (by rw[a];lia) (.int _,H,I.tok _,(_,U,),?_,);rw[a];calc q
def  HN(sp:Sp)(E:XK)(t:TA):TE:=λσ H Q=>t σ H λa b=>sp a b Q E
inductive DG(C:AE)(m:Str)(sp:Sp)(E:XK)(t:TA)(σ:St)(Q:VK)(x:V)(H1:Hp):Prop
 |mk (a dx fs:_)(_:x=.ref a)(_:H1 a=MO (.ins C dx fs))(_:fs.lookup m=MP)(_:t σ H1 λvs H2=>sp (x :: vs) H2 Q E)
def  HP(C:AE)(m:Str)(sp:Sp)(E:XK)(ta:TE)(t:TA):TE:=λσ H Q=>ta σ H λx a=>DG C m sp E t σ Q x a
section
variable{k:Nat}{E:XK}
def eV(M:bM X.prog X.w X.K X.mg X.base k x ps sp)(i:Passes (CX1 X.prog X.w) X E)(j:dJ k X.A)(m:Gl X x)(n:PA X (e :: es) t)(c:(x == ("__debug__" : Str))=false:=by decide)
  (he:EX (e :: es) X.env=(MR,eval e X.env) :: EX es X.env:=by rfl)(a:(Ey pos<|EX es X.env).any (·.1)=false:=by rfl):PE X (.Call (.Name x p) (e :: es) [] pos) (HN sp E t):=by
 let(f,fd,F,b,g,l):=M;intro MT s σ H Q I h;calc zX<|fY I m l ?_ c;calc GT (h₀:=X.base) I.ok.mod.kin g (thn (n pos MT s σ H _ I h) λu v (o,y,d,r,q,)=>(d.kIn,zi F j b i d r q,)) he a
def AN{CX:CXT}{pl:Sem Bool}(M:ba CX X.prog X.w X.K X.mg X.base k C m ps sp)(z:Passes CX X E)(c:Cls X.K C)(D:dJ k X.A)(G:PE X o ta)(L:PA X (e :: es) t)
  (b:EX (e :: es) X.env=(MR,eval e X.env) :: EX es X.env:=by rfl)(d:(Ey pos<|EX es X.env).any (·.1)=false:=by rfl)
  (B:eval (.Call (.Attribute o m apos) (e :: es) [] pos) X.env=(do
   let g ←eval o X.env
   Gf apos.atName
   let (f,first) ←holding [g] (K6 g m pl)
   Md pos f first (Ey pos<|EX (e :: es) X.env) (Lx pos<|Ly [] X.env)):=by rfl) :
  PE X (.Call (.Attribute o m apos) (e :: es) [] pos) (HP C m sp E ta t):=by
 let(f,fd,i,F,J):=M;intro MT s σ H Q I h;calc M9 (pl:=pl) (thn (G MT s σ H _ I h) λu p (x,P,n,v,a,S,fs,N,O,l,q,)=>?_) B;subst N;obtain rfl:u=zY.ref a:=v;calc jV n O c i l<|GT (first:=[.ref a]) (h₀:=X.base) I.ok.mod.kin i.kp (thn (L pos MT p σ P _ n q) λus R (vs,T,j,r,y,)=>(j.kIn,zi (us:=.ref a :: us) (vs:=.ref a :: vs) F D J z j (.cons U r) y,)) b d
end
variable{q:Str}
def rQ:entryFor table "proto.unchain" = MO KY.«proto.unchain»:=Ml (by kernel_rfl)
def t9{s:Ct}{e v:zY}{a:AE}{o:Obj}{vs:Array zY}{Q:zY->Ct->Prop}(b:s.heap.get? a=MO o)(c:o.data=.fields vs)(d:vs[2]?=MO .none)(h:Q .none s) :
  D8 (model prog w) A (runValue<|.builtin "proto.unchain" ([e,.ref a,v,.bool MR],[],)) Q E s:=by
 calc Mi<|Mg rQ ?_;unfold KY.«proto.unchain»;calc zb<|L3 b c d ?_;rw[MV ⋯];calc zp h
def qI{d:Type}{s:Ct}{e a:AE}{oe o:Obj}{f vs:Array zY}{Q:d->Ct->Prop}(i:A.handled=↑a)(ne:a≠e)(g:s.heap.get? a=MO o)(j:o.data=.fields vs)(k:vs[2]?=MO .none)
  (he:s.heap.get? e=MO oe)(c:oe.data=.fields f)(b:2<f.size)(h:E (.ref e) { s with heap:=s.heap.update e (wp (·.setIfInBounds 2 (.ref a))) }):D8 (model prog w) A (raiseNew (.ref e):Sem d) Q E s:=by
 unfold raiseNew;calc zb<|wpAny_handled ?_;rw[i];dsimp only;rw[MV (~~~ne)];calc zb<|zz<|t9 g j k ?_;calc zb ?_;show D8 _ _ (L0 (.ref e) 2<|.ref a) _ _ _;calc L1 he c b<|wpAny_throw h
section
variable{nm:Str}{N:AE}{bs bm:M3 zY}{hdct:Bool}{sn:M3 Str}{sub:M3 zY}{ab:Bool}{col:Option Bool}{dd:Option AE}{k0 k1 k2 k3 k5:Option zY}{newId:String}
def xh{s:Ct}{x c:Sem zY}{a:AE}{Q:Flow->Ct->Prop}(y:bm.contains (.type "BaseException")=MQ) (B:A.handled=↑a)(F:∀{M:D2}{A:Cm}{E:zY->Ct->Prop}{Q:zY->Ct->Prop}{s:Ct},Q .none s->D8 M A c Q E s)
  (h:D8 (model prog w) A x (λv j=>∃e t o vs,v=.ref e/\j.heap.get? C=MO (L6 nm q C N bs bm hdct sn sub ab col dd k0 k1 k2 k3 k5 newId) /\
   j.heap.get? e=MO { cls:=.ref C,data:=.fields #[.ref t,.none,.none,.none,.bool MR,.none] }/\a≠e/\j.heap.get? a=MO o/\o.data=.fields vs/\vs[2]?=MO .none /\
   ∀h',(∀b,b≠e->h'.get? b=j.heap.get? b)->h'.get? e=MO { cls:=.ref C,data:=.fields #[.ref t,.none,.ref a,.none,.bool MQ,.none] }->E (.ref e) { j with heap:=h' }) E s) :
  D8 (model prog w) A (raiseStmt env (MO x)<|MO c) Q E s:=by
 let p:(zY.ref C :: bm).contains (.type "BaseException")=true:=by rw[OK,y,Bool.or_true]
 unfold raiseStmt;calc zb<|FC h (λv j I=>?_) λ_ _ x=>x;let(e,t,o,vs,rfl,m,k,ne,r,D,H,u):=I;calc zb<|zz<|F<|zb<|zp ?_;let(n,g,d,J,K):=j;dsimp only at m k r u
 repeat (first|with_reducible refine Mm k ?_|with_reducible refine Mm m ?_|(with_reducible calc wpAny_isSubtype_exc m ?_;rw[p])|wp_step)
 let z:C≠e:=by
  rintro rfl;rw[m]at k;cases k
 let f:∀b,b≠e->((n.update e<|wp λx=>x.setIfInBounds 3 zY.none).update e<|wp λx=>x.setIfInBounds 4<|zY.bool MQ).get? b=n.get? b:=λb l=>(sK _ _<|FM l).trans<|sK _ _<|FM l
 let own:((n.update e<|wp λx=>x.setIfInBounds 3 zY.none).update e<|wp λx=>x.setIfInBounds 4<|zY.bool MQ).get? e=MO { cls:=.ref C,data:=.fields #[.ref t,.none,.none,.none,.bool MQ,.none] } :=
  wf _ (wf _ k U) U
 generalize ((n.update e<|wp λx=>x.setIfInBounds 3 zY.none).update e<|wp λx=>x.setIfInBounds 4<|zY.bool MQ)=G at f own⊢;calc Mm ((f C z).trans m) ?_;calc zp ?_;calc wpAny_ite_true U<|zp<|zb ?_;unfold L4;calc zb<|L3 (i:=1) own U U ?_;calc wpAny_ite_false U<|zp ?_;refine qI B ne ((f a ne).trans r) D H own U (by show 2<6;decide) ?_;calc u _ (λb l=>(sK _ _<|FM l).trans<|f b l)<|wf _ own U
end
section
variable{nm:Str}{N:AE}{bs bm bmB:M3 zY}{hdct:Bool}{sn:M3 Str}{sub:M3 zY}{ab:Bool}{col:Option Bool}{dd:Option AE}{k0 k1 k2 k3 k5:Option zY}{B Bn newId nid qG inN:String}{bmN:M3 zY}
def pX{s:Ct}(Z:L5 Bn newId inN bmN)(Y:bmB.contains (.type Bn)=MQ)(X:L5 B nid qG bmB){mN:Str->Option zY}{x:Str}{np n G pos:Pos}{L:Nat}{a:AE}{c:M3 Ej}{Q:Flow->Ct->Prop}
  (K:bm.contains (.type "BaseException")=MQ) (R:A.handled=↑a)(p:(Ey n<|EX c env).any (·.1)=MR)(r:mN "__init__" = MP)
  (h:D8 (model prog w) A (eval (.Name x np) env) (λf u=>f=.ref C/\D8 (model prog w) A (Mj (.ref C) MQ (Ey n<|EX c env) [])
   (λus i=>us.kw=[]/\⇑us.pos<=AY/\(i.heap.get? C=MO (L6 nm q C N bs bm hdct sn sub ab col dd k0 k1 k2 k3 k5 newId)/\i.heap.Ns N mN/\L7 i.heap bmB bm)/\∃o vs,i.heap.get? a=MO o/\o.data=.fields vs/\vs[2]?=MO .none /\
    ∀g e t,AU.MadeExcOf i.heap g e (.ref C) us.pos->g.get? e=MO { cls:=.ref C,data:=.fields #[.ref t,.none,.none,.none,.bool MR,.none] }->∀h',(∀b,b≠e->h'.get? b=g.get? b)->h'.get? e=MO { cls:=.ref C,data:=.fields #[.ref t,.none,.ref a,.none,.bool MQ,.none] }->E (.ref e) { i with heap:=h' }) E u) E s) :
  D8 (model prog w) A (exec (.Raise (MO<|.Call (.Name x np) c [] n) (MO<|.Constant .none L G) pos) env) Q E s:=by
 rw[arm_exec_Raise];calc zb<|KI ?_;calc xh (C:=C) (nm:=nm) (q:=q) (N:=N) (bs:=bs) (bm:=bm) (hdct:=hdct) (sn:=sn) (sub:=sub) (ab:=ab) (col:=col) (dd:=dd) (k0:=k0) (k1:=k1) (k2:=k2) (k3:=k3) (k5:=k5) (newId:=newId) K R (λz=>zb<|Constant_none<|zb<|KI<|zp z) ?_;calc zb<|FC (wpAny_Call_ofName<|FC h (λf u m=>?_) λ_ _ z=>z) (λv s3 W=>zb<|KI<|zp W) λ_ _ z=>z;let(rfl,m):=m;unfold Md;calc zb<|zz<|FC m (λus i k=>zb<|KI ?_) λ_ _ z=>z;let(up,J):=us;let(P,O,(l,M,T),o,vs,F,S,k,V):=k;obtain rfl:J=[]:=P;let(D,g,d,tk,os):=i;simp only[p];calc zb<|wpAny_keeperOf_exc l ?_;calc zb<|wpAny_call_exc_subU (hrest:=O) Z Y X T l M r λh' e j=>zb<|zz<|wpAny_point<|zp ?_;let(t,y,_,_):=j.there;calc(e,t,o,vs,U,j.keeps _ _ l,y,λz=>?_,j.keeps _ _ F,S,k,λk I H=>V h' e t j y k I H,);let:=j.new;rw[←z]at this;calc MW (show D.get? a=MP from this) (by rw[show D.get? a=MO o from F];exact nofun)
end
def xj{X:Cx}{L:AE}{E:XK}{A':Cm}(D:A'.frames=X.A.frames)(a:X.stack=X.env :: X.outer)(c:X.env.frame=MO L)(v:X.ex=[]):PassesOwnAt (model X.prog X.w) A' X.A X.env (kQ X L E):=by
 rintro S d ⟨e,C,F,V,MT,σ,H,rfl,I,x,f,q⟩;let i:A'.frames=MO (X.env :: X.outer):=by rw[D,←a];exact I.ok.frames
 let j:d.heap.FunFrames X.base (X.env :: X.outer):=by rw[←a];exact I.stack
 refine note i j c x λg T st k B=>?_
 rw[←a]at st;let n:=I.excStepY st f;let u:dC X MT H T:=by
  rcases B with z|z
  .exact I.newAt v z
  .exact f T<|eY e z
 let m:∀b∈[e,T],dC X MT H b:=λb y=>by
  rcases cZ.mp y with z|z
  .rw[z];exact f e gb
  .rw[show b=T by simpa using z];exact u
 show D8 (model X.prog X.w) X.A (do
  if (←field (.ref e) 1) == .none then unsupported "frame.own-activation:exception-without-traceback"
  L4 (.ref e) X.env.frame) _ _ { d with heap:=g }
 let(oe,O,Q,P,r,N,p,o,M,K,J,G):=id k;calc zb<|L3 (s:={ d with heap:=g }) r p o ?_;rw[MU (show ¬ (zY.ref T == zY.none)=MQ by simp)];show D8 (model X.prog X.w) X.A (L4 (.ref e) X.env.frame) _ _ _;rw[c];refine sU (s:={ d with heap:=g }) (l:=X.stack) n.stack k λR h t=>?_
 calc(e,C,F,[T],MT,σ,H,U,n.excStepY h m,.held t,m,q,)
def  EF(K:ac)(b1 b2 C:AE)(E:XK)(ta:TA)(σ:St):XK:=λd m a=>m=MP/\∃b,d=.ref b/\OQ K (.ref b) [.ref b1,.ref b2]=MO MQ/\∀tp,a tp=MP->ta σ (upd a tp<|.tup [.ref b1,.ref b2]) λc e=>⇑c<=AY/\∀m,E (.ref C) m e
def  Gj(sp:Sp)(t:TA)(K:ac)(b1 b2 C:AE)(E:XK)(ta:TA):TS:=λD σ H=>t σ H λa b=>sp a b D.rt<|EF K b1 b2 C E ta σ
def Inv.afterF{X:Cx}{MT:M3 (AE×Obj)}{σ:St}{H:Hp}{s s':Ct}{E:XK}{g:zY}(I:Inv X MT σ H s)(f:X.ex=[])(h:CX1 X.prog X.w X.stack H s E g s') :
  ∃(e T C:AE)(a:zY×zY)(H':Hp),g=.ref e/\Inv X MT σ H' s'/\t7 s'.heap e T (.ref C) a/\dC X MT H' e/\dC X MT H' T/\∃m,(m=MP->a.2=.none)/\E (.ref C) m H':=by
 let(e,T,C,a,H',rfl,i,c,un,d,x,ne,j,k,l,q):=h;let u:=I.newAt f ne;let v:=I.newAt f j;calc(e,T,C,a,H',U,I.call' (ch:=[]) i un d c λb z=>MW z (by simp),x,(u.ent,k,u.loc,u.cel,u.pin,),(v.ent,l,v.loc,v.cel,v.pin,),q,)
section
variable{Y:Cx}{E:XK}{k:Nat}{n1 n2 cn:Str}{a₀:Ej}{as:M3 Ej}{ta:TA}{b1 b2:AE}{Gk np1 np2 FW gy xi HQ xl:Pos}{x1 kd:Nat}
def Cy(c8:bM Y.prog Y.w Y.K Y.mg Y.base k x ps sp)(hr:dJ k Y.A)(hx:Y.ex=[])(P:Y.stack=Y.env :: Y.outer)(a0:Y.env.frame=MO Y.env.locals)(hg:Gl Y x)(ha:PA Y.nox (e :: es) t)
  (g1:Gl Y n1)(m1:Y.mg n1=↑b1)(g2:Gl Y n2)(m2:Y.mg n2=↑b2)(XC:ExcCls Y.K C)(gC:Gl Y cn)(mC:Y.mg cn=↑C)(hA:∀e oe,PA (sfx (Y.wish<|kQ Y Y.env.locals E) e oe) (a₀ :: as) ta)
  (c2:(x == ("__debug__" : Str))=false:=by decide) (c3:(n1 == ("__debug__" : Str))=false:=by decide) (hd2:(n2 == ("__debug__" : Str))=false:=by decide) (c1:(cn == ("__debug__" : Str))=false:=by decide)
  (he:EX (e :: es) Y.env=(MR,eval e Y.env) :: EX es Y.env:=by rfl)(b3:(Ey pos<|EX es Y.env).any (·.1)=false:=by rfl)
  (a1:EX (a₀ :: as) Y.env=(MR,eval a₀ Y.env) :: EX as Y.env:=by rfl)(HR:(Ey gy<|EX as Y.env).any (·.1)=false:=by rfl) :
  PS (Y.wish<|kQ Y Y.env.locals E) (.Try [.Return (MO<|.Call (.Name x p) (e :: es) [] pos) Gk] [.ExceptHandler (MO<|.Tuple [.Name n1 np1,.Name n2 np2] x1 FW) MP [.Raise (MO<|.Call (.Name cn np) (a₀ :: as) [] gy) (MO<|.Constant .none kd xi) HQ] Ex] [] [] xl) (Gj sp t Y.K b1 b2 C E ta):=by
 intro MT s σ H D I h;let I0:Inv Y MT σ H s:=I.unwish;refine wpAny_Try_except ?_
 let b0:D8 (model Y.prog Y.w) Y.A (exec (.Return (MO<|.Call (.Name x p) (e :: es) [] pos) Gk) Y.env) (SP Y MT D) (λev i=>∃(e T C0:AE)(a:zY×zY)(H2:Hp),ev=.ref e/\Inv Y MT σ H2 i/\t7 i.heap e T (.ref C0) a/\a.2=.none/\dC Y MT H2 e/\dC Y MT H2 T/\OQ Y.K (.ref C0) [.ref b1,.ref b2]=MO MQ /\
   ∀tp,H2 tp=MP->ta σ (upd H2 tp<|.tup [.ref b1,.ref b2]) λQ H3=>Q.length<=AY/\∀m,E (.ref C) m H3) s:=by
  let(f,fd,F,b,kk,m):=c8;calc HK<|zX<|fY I0 hg m ?_ c2;calc GT (h₀:=Y.base) I0.ok.mod.kin kk (FC (ha pos MT s σ H _ (I0.wish _) h) (λQ i (Z,L,I1,r,q,)=>(I1.kIn,?_,)) λ_ _ z=>ut z) he b3;let J:Inv Y MT σ L i:=I1.unwish;let hl:Q.length=⇑ps:=by rw[←⇑r];exact F.len _ _ _ _ q
  let bt:Lf i fd ⟨Q,[]⟩ (ps.zip Q):=by
   let z:=b i Q J.kIn (by rw[hY];exact hl);rw[hY]at z;exact z
  calc Lh<|Li (F.run Y.A Y.stack i L (Q,[],) Q Z _ _ hr J.env0 bt r q) λr s' hq=>?_;cases r with
  |error ev =>
   let(e,T,C0,a,M,rfl,J',x,ne,nT,m,hm,rfl,e3,ec,q1,q2):=J.afterF (E:=EF Y.K b1 b2 C E ta σ) hx hq;cases ec;exact(e,T,C0,a,M,U,J',x,hm U,ne,nT,q1,q2,)
  |ok fl =>
   cases fl with
   |ret u =>
    let(v,M,S,r',G):=J.after hq;exact(v,σ,M,S,r',G,)
   |next=>exact ut hq
   |brk=>exact ut hq
   |cont=>exact ut hq
 refine Hl<|FC b0 (λf i q=>?_) λev i q=>?_
 .let q:=(show SP Y MT D f i from q);cases f with
  |next=>obtain⟨j,M,S,G⟩:=q;exact Gw<|Gw (j,M,S.wish _,G,)
  |ret v=>obtain⟨y,j,M,S,r,G⟩:=q;exact(y,j,M,S.wish _,r,G,)
  |brk=>obtain⟨j,M,S,G⟩:=q;exact(j,M,S.wish _,G,)
  |cont=>obtain⟨j,M,S,G⟩:=q;exact(j,M,S.wish _,G,)
 let(e,T,C0,a,L,rfl,I1,x,h2,ne,nT,c0,q):=q;let c5:Y.A.frames=MO (Y.env :: Y.outer):=by rw[←P];exact I1.ok.frames
 let c6:i.heap.FunFrames Y.base (Y.env :: Y.outer):=by rw[←P];exact I1.stack
 refine land c5 c6 a0 x λc T2 a3 x2 c4=>?_
 rw[←P]at a3;let I2:=I1.excStep hx a3 ne nT;let a8:dC Y MT L T2:=by
  rcases c4 with z|z
  .exact I1.newAt hx z
  .rw[z];exact nT
 let DH:∀{b:AE}{o:Obj}{Z:Array zY}{hh:AU},hh.FunFrames Y.base Y.stack->hh.get? b=MO o->o.data=.fields Z->b ∉ Y.fs:=λ{b o Z hh} ff g d z=>by
  let z':b∈frs Y.stack:=by rw[P];unfold frs;rw[jz,a0];exact eY _ z
  let(_,o2,g2,nf):=ff.mem z';rw[g]at g2;cases g2;exact nf Z d
 let(oe,Z,oT,a2,y1,(y2,d0,_),y3,y4,y5,y6,y7,y8):=id x2;let S2:Inv (sfx (Y.wish<|kQ Y Y.env.locals E) e oe) MT σ L { i with heap:=c }:=(I2.wish _).suite y1 (ne.ent,ne.unt,ne.loc,ne.cel,ne.pin,) (λv z=>by rw[y3]at z;cases z) (DH I2.stack y1 y3);refine wpAny_handleBy_cons ?_ (by intro z;cases z);calc codeAny_handlers_test<|Ld ?_;show D8 _ _ (spliced ((MR,eval (.Name n1 np1) Y.env) :: (MR,eval (.Name n2 np2) Y.env) :: [])) _ _ _;calc Na<|fY (X:=sfx (Y.wish<|kQ Y Y.env.locals E) e oe) S2 g1 m1 (Na<|fY (X:=sfx (Y.wish<|kQ Y Y.env.locals E) e oe) S2 g2 m2 (NJ ?_) hd2) c3;refine(by show 2<=AY;decide,?_,);let hf:L c.objs.size=none:=S2.hok.fresh<|pT _;let r3:Vals [O1 b1,O1 b2] [zY.ref b1,zY.ref b2]:=.cons U<|.cons U .nil;let S4:Inv (sfx (Y.wish<|kQ Y Y.env.locals E) e oe) MT σ (upd L c.objs.size<|.tup [.ref b1,.ref b2]) { i with heap:=c.push { cls:=.type "tuple",data:=.seq [zY.ref b1,zY.ref b2].toArray } } :=
  S2.laid (t':=i.toks) (λb u e=>am _ e) (pT _) (by show 2<=AY;decide,_,r3,(_,ii _ U,U,_,U,),)
 calc W.exm_tup2 (h:=c.push { cls:=.type "tuple",data:=.seq [zY.ref b1,zY.ref b2].toArray }) S4.kIn (xg S4.excObj y2) (ii _ U) c0 _ _ _ _ (λb o g=>g) ?_;rw[MV U];let I4:Inv Y MT σ (upd L c.objs.size<|.tup [.ref b1,.ref b2]) { i with heap:=c.push { cls:=.type "tuple",data:=.seq [zY.ref b1,zY.ref b2].toArray } }:=(S4.unsuite I.ok).unwish;let q:=q c.objs.size hf;let x4:t7 (c.push { cls:=.type "tuple",data:=.seq [zY.ref b1,zY.ref b2].toArray }) e T2 (.ref C0) a:=by
  let(oe,Z,oT,a2,y1,y2,y3,y4,y5,y6,y7,y8):=x2;exact(oe,Z,oT,a2,am _ y1,y2,y3,y4,y5,am _ y6,y7,y8,)
 let fresh:∀b,dC Y MT L b->(∃o,c.get? b=MO o)->dC Y MT (upd L c.objs.size<|.tup [.ref b1,.ref b2]) b:=λb z (o,R,)=>(z.ent,(ay<|qo<|bn R).trans z.unt,z.loc,z.cel,z.pin,)
 let n:=fresh e ne (_,y1,);let a4:=fresh T2 a8 (_,y6,);generalize upd L c.objs.size (.tup [.ref b1,.ref b2])=H4 at S4 I4 q n a4;generalize c.push { cls:=.type "tuple",data:=.seq [zY.ref b1,zY.ref b2].toArray }=hp4 at S4 I4 x4⊢;calc codeAny_handlers_suite ?_;refine Eu (s:={ i with heap:=hp4 }) (l:=Y.stack) I4.stack x4 λb4 T3 a7 x3 e0=>?_
 let I3:=I4.excStep hx a7 n a4;let(O,a5,d3,d2,z1,(z2,_,zc),z3,z4,z5,z6,z7,z8):=id x3;rw[h2]at zc;let S3:Inv (sfx (Y.wish<|kQ Y Y.env.locals E) e O) MT σ H4 { i with heap:=b4 }:=(I3.wish _).suite z1 (n.ent,n.unt,n.loc,n.cel,n.pin,) (λv z=>by rw[z3]at z;cases z) (DH I3.stack z1 z3);calc Hl ?_;let(e2,e1,c9,B,Bn,d4,qG,d5,hX,F1,F2,F3):=XC.ex;let(bm,N',nm,G,bs,hdct,sn,sub,ab,col,dd,k0,k1,k2,k3,k5,mN,o1,o2,o3,o4):=ExcCls.obj I3.ok.mod.kin hX;refine pX (C:=C) (nm:=nm) (q:=G) (N:=N') (bs:=bs) (bm:=bm) (hdct:=hdct) (sn:=sn) (sub:=sub) (ab:=ab) (col:=col) (dd:=dd) (k0:=k0) (k1:=k1) (k2:=k2) (k3:=k3) (k5:=k5) (a:=e) F1 F2 F3 (L7.hasType o4 F3.hasBase) U (by
  rw[a1];show(MR || (Ey gy<|EX as Y.env).any (·.1))=MR;rw[HR];rfl) (mN:=mN) o3 (fY (X:=sfx (Y.wish<|kQ Y Y.env.locals E) e O) S3 gC mC (U,?_,) c1)
 show D8 _ _ (Mj (.ref C) MQ (Ey gy<|EX (a₀ :: as) Y.env) []) _ _ _;rw[a1];calc NB ?_;let z:=hA e O gy MT _ σ H4 _ S3 q;let z:D8 (model Y.prog Y.w) (sfx (Y.wish<|kQ Y Y.env.locals E) e O).A (spliced<|Ey gy<|EX (a₀ :: as) Y.env) _ _ _:=z;rw[a1]at z;refine FC z (λQ s5 (d1,H5,S5,r5,hl,q5,)=>?_) λ_ _ z=>ut z
 let I5:Inv Y MT σ H5 s5:=(S5.unsuite I.ok).unwish;refine(U,by rw[←⇑r5];exact hl,(I5.bk C _ o1,?_,o4.keeps I5.bk,),O,a5,S5.excObj,z3,zc,λg e5 t5 hm h5 h6 w1 w2=>?_,)
 .let(o,c7,ep,u1,u2):=o2;exact(o,c7,ep,I5.bk _ _ u1,u2,)
 calc xj (A':=Y.A.mark<|↑e) U P a0 hx _ _ ?_;let n5:dC Y MT H5 e5:=I5.newAt hx hm.new;let I6:Inv Y MT σ H5 { s5 with heap:=g }:=I5.kept (t':=s5.toks) hm.keeps;let a6:Stp (frs Y.stack) [e5] g h6:=⟨λb o _ R u=>(w1 b<|~~~R).trans u,λb o R u=>by
  let(_,o2,u2,nf):=I6.stack.mem R;let nb:b≠e5:=λz=>by
   rw[z,show g.get? e5=_ from h5]at u2;cases u2;exact nf _ U
  exact(o.slots,(w1 b nb).trans u,)⟩
 calc(e5,C,(.ref t5,.ref e),[],MT,σ,H5,U,I6.excStepY a6 (λb R=>by rw[show b=e5 by simpa using R];exact n5),.fresh w2 U U U U U,λb R=>by rw[show b=e5 by simpa using R];exact n5,MO 0,nofun,q5 _,)
end
open PySem.Builtin PySem.Builtin.Str
def yt:∀{l:M3 (Str×Tok)}{zs:M3 Str},l.map (·.1)=zs->Vals (zs.map OT) (Mn l)
 | [],_,rfl=>.nil
 |p :: l,_,rfl=>.cons (p.2,U,)<|yt (l:=l) U
def zo(z y:Str)(hz:⇑z+2<=AY):⇑(jp z y)<=AY:=by
 unfold jp;split
 .show 1<=AY;lia
 .split
  .show 1<=AY;lia
  .let a:=N8 z y 0 ⇑z<|⇑z+1;rw[Mo];lia
inductive AO  (x:V)(vs:M3 V)(H:Hp)(Q:VK):Prop
 |mk (z y:Str)(_:x=.str z)(_:vs=[.str y])(_:(⇑y == 0)=MR)(_:⇑z+2<=AY)(_:∀l,H l=MP->Q (.ref l) (upd H l<|.lst<|(jp z y).map OT)):AO x vs H Q
def lC:MtM X "str.split" AO:=by
 intro MT s σ H x w v A Q I i j h;let(z,y,rfl,rfl,d,p,q):=h;let(t,rfl):=i;let(B,rfl,m):=j.one;let(u,rfl):=m;let fin:∀(l:M3 (Str×Tok))(k:Nat),l.map (·.1)=jp z y->EP X MT σ Q (.ref ↥s) { s with heap:=s.heap.push { cls:=.type "list",data:=.seq (Mn l).toArray },toks:=k }:=λl k e =>
  (.ref ↥s,_,I.laid (a:=↥s) (o:=.lst<|(jp z y).map OT) (t':=k) (λb o g=>am _ g) (pT _) (by rw[bQ];exact zo z y p,Mn l,0,yt e,ii _ U,),U,q _ I.fresh,)
 let r:⇑(partsBetween z (occurrences z y 0 ⇑z<|⇑z+1) ⇑y)<=AY:=by
  let:=N8 z y 0 ⇑z<|⇑z+1;rw[Mo];lia
 cases h1:(MS (⇑z<⇑y) || decide (ul z<ul y)) with
 |true=>exact Lz PySem.F.slot_str_split (Lu _ _ _) PySem.F.entry_str_split (PySem.F.args_str_split_2 _ _) (meets_str_split_cannot_occur z y t u h1) (fin [(z,t)] s.toks (by unfold jp;rw[MV h1];rfl))
 |false =>
  let c:¬ (MS (⇑z<⇑y) || decide (ul z<ul y))=true:=by rw[h1];exact cr
  cases hf:(occurrences z y 0 ⇑z<|⇑z+1).isEmpty with
  |true=>exact Lz PySem.F.slot_str_split (Lu _ _ _) PySem.F.entry_str_split (PySem.F.args_str_split_2 _ _) (meets_str_split_not_found z y t u h1 d hf) (fin [(z,t)] s.toks (by unfold jp;rw[MU c,MV hf];rfl))
  |false =>
   let n:¬ (occurrences z y 0 ⇑z<|⇑z+1).isEmpty=true:=by rw[hf];exact cr
   calc Lz PySem.F.slot_str_split (Lu _ _ _) PySem.F.entry_str_split (PySem.F.args_str_split_2 _ _) (meets_str_split_sep z y t u h1 d hf ∅ r) ?_;let f:=fin (numbered s.toks<|partsBetween z (occurrences z y 0 ⇑z<|⇑z+1) ⇑y) (s.toks+⇑(partsBetween z (occurrences z y 0 ⇑z<|⇑z+1) ⇑y)) (by rw[numbered_texts];unfold jp;rw[MU c,MU n]);rw[←strsFrom_eq]at f;calc f
inductive DI  (x:V)(vs:M3 V)(H:Hp)(Q:VK):Prop
 |mk (z y:Str)(_:x=.str z)(_:vs=[.str y])(_:(⇑y == 0)=MR)(_:⇑z<=AY)(_:∀p,H p=MP->Q (.ref p) (upd H p<|.tup [.str (db z y).1,.str (db z y).2.1,.str (db z y).2.2])):DI x vs H Q
def fB:MtM X "str.partition" DI:=by
 intro MT s σ H x n v w Q I e f h;let(z,y,rfl,rfl,m,l,q):=h;let(t,rfl):=e;let(A,rfl,j):=f.one;let(u,rfl):=j;let fin:∀(a b c:Str)(ta tb d:Tok)(k:Nat),(∀p,H p=MP->Q (.ref p) (upd H p<|.tup [.str a,.str b,.str c]))->EP X MT σ Q (.ref ↥s) { s with heap:=s.heap.push { cls:=.type "tuple",data:=.seq [.str a ta,.str b tb,.str c d].toArray },toks:=k }:=λa b c ta tb d k q =>
  (.ref ↥s,_,I.laid (a:=↥s) (o:=.tup [.str a,.str b,.str c]) (t':=k) (λb o g=>am _ g) (pT _) ((by show 3<=AY;decide),[.str a ta,.str b tb,.str c d],.cons (_,U,)<|.cons (_,U,)<|.cons (_,U,) .nil,(_,ii _ U,U,_,U,),),U,q _ I.fresh,)
 calc Lz PySem.F.slot_str_partition (Lu _ _ _) PySem.F.entry_str_partition (PySem.F.args_str_partition_2 _ _) (meets_str_partition z y t u m l) ?_;unfold db at q
 revert q
 cases occurrences z y 0 ⇑z 1 with
 |nil=>intro q;exact fin _ _ _ _ _ _ _ q
 |cons i r=>intro q;exact fin _ _ _ _ _ _ _ q
open PySem.StrLaws
def mh(s sub:Str)(hi b:Nat):∀(l:M3 Nat)(st:Array Nat×Nat)(c:Nat),c∈st.fst.toList->c∈(forIn l st<|occBody s sub hi b).run.fst.toList
 | [],_,_,h=>h
 |a :: l,st,c,h=>by
  rw[nq];unfold occBody;split
  .exact mh s sub hi b l _ c (by rw[xf];exact fE _ h)
  .exact mh s sub hi b l _ c h
def ua(s sub:Str)(hi b:Nat)(d:hi<b):∀(m a:Nat)(st:Array Nat×Nat),st.fst.size<=a->a+m<=hi+1->∀i,a<=i->i<a+m->st.snd<=i->At s sub hi i ->
  ∃c∈(forIn (Nm a m) st<|occBody s sub hi b).run.fst.toList,c<=i/\i<c+⇑sub\/(c<=i/\i<=c)
 |0,a,st,_,_,i,h1,h2,_,_=>MW h2 ∅
 |m+1,a,st,hs,ha,i,h1,h2,h3,h4=>by
  rw[List.range'_succ,nq];unfold occBody;split
  .rename_i hc
   by_cases e:i=a
   .refine(a,mh s sub hi b _ _ a (by rw[xf];exact fq _ (by simp)),.inr (∅,∅,),)
   .by_cases f:i<a+⇑sub
    .exact(a,mh s sub hi b _ _ a (by rw[xf];exact fq _ (by simp)),.inl (∅,f,),)
    .exact ua s sub hi b d m (a+1) (st.fst.push a,a+⇑sub) (by simp;lia) ∅ i ∅ ∅ (by show a+⇑sub<=i;lia) h4
  .rename_i hc
   by_cases e:i=a
   .subst e;exact MW (((∅,h3,),h4.1,),h4.2,) hc
   .exact ua s sub hi b d m (a+1) st ∅ ∅ i ∅ ∅ h3 h4
def sW{s sub:Str}{hi:Nat}:∀{a:Nat}{b:M3 Nat}{f:Nat},ChainTo s sub hi a b f->∀c∈b,a<=c
 |a,[],f,h,c,hc=>by cases hc
 |a,d :: r,f,h,c,hc=>by
  rcases cZ.mp hc with e|e
  .rw[e];exact h.1
  .let:=sW h.2.2 c e;let:=h.1;lia
def AQ(x y:Str){a c j:Nat}(d:c<=⇑x)(b:a+j+⇑y<=c):subAt (strSub x a c) y j=subAt x y (a+j):=by
 rw[subAt_eq,subAt_eq,strSub_toList]
 congr 1
 rw[List.drop_take,List.drop_drop,List.take_take]
 congr 1
 lia
def len_sub(x:Str){a c:Nat}(b:c<=⇑x):⇑(strSub x a c)=c-a:=by
 show(strSub x a c).cps.size=c-a;rw[←w5,strSub_toList,eH,lR,w5];let:x.cps.size=⇑x:=rfl;lia
def pL(x y:Str)(n:1<=⇑y):∀(k:M3 Nat)(a f:Nat),ChainTo x y ⇑x a k f->(∀i,a<=i->At x y ⇑x i->∃c∈k,c<=i/\(i<c+⇑y\/i<=c))->a<=⇑x ->
  ∀p∈partsFrom x ⇑y a k,∀j,j+⇑y<=⇑p->subAt p y j=MR
 | [],a,f,h,cov,ha,p,g,j,hj=>by
  let e:p=strSub x a ⇑x:=by simpa[partsFrom]using g
  subst e;rw[len_sub x (pT _)]at hj;rw[AQ x y (pT _) ∅];cases q:subAt x y (a+j) with
  |false=>rfl
  |true =>
   let(c,o,_):=cov (a+j) ∅ (∅,q,);cases o
 |c :: r,a,f,h,cov,ha,p,g,j,hj=>by
  let u:=h.1;let t:=h.2.1.1;rcases cZ.mp (show p∈strSub x a c :: partsFrom x ⇑y (c+⇑y) r from g)with e|g
  .subst e;rw[len_sub x ∅]at hj;rw[AQ x y (c:=c) ∅ ∅];cases q:subAt x y (a+j) with
   |false=>rfl
   |true =>
    let(d,b,m,_):=cov (a+j) ∅ (∅,q,);rcases cZ.mp b with e|b
    .lia
    .let:=sW h.2.2 d b;lia
  .refine pL x y n r (c+⇑y) f h.2.2 (λi hi l=>?_) ∅ p g j hj;let(d,b,m,s):=cov i ∅ l;rcases cZ.mp b with e|b
   .lia
   .exact(d,b,m,s,)
def pM(x y:Str)(m:1<=⇑y)(n:decide (ul x<ul y)=MR):∀p∈jp x y,∀j,j+⇑y<=⇑p->subAt p y j=false:=by
 intro p a j l;let b:∀i,0<=i->At x y ⇑x i->∃c∈occurrences x y 0 ⇑x (⇑x+1),c<=i/\(i<c+⇑y\/i<=c):=λi _ d=>by
  rw[occ_eq];let s:=d.1;let(c,k,h):=ua x y ⇑x (⇑x+1) (so _) (⇑x+1-0) 0 (#[],0) (pT _) ∅ i (rE _) ∅ (rE _) d;exact(c,k,∅,∅,)
 let(f,r):=occ_chain x y<|⇑x+1;let g:=pL x y m _ 0 f r b<|rE _;unfold jp at a;split at a
 .rename_i h1
  rw[n,Db,decide_eq_true_eq]at h1;let e:p=x:= ~~~a
  rw[e]at l;lia
 .split at a
  .rename_i h2
   let e:p=x:= ~~~a
   subst e;let o:occurrences p y 0 ⇑p (⇑p+1)=[]:=List.isEmpty_iff.mp h2;cases q:subAt p y j with
   |false=>rfl
   |true =>
    let(c,k,_):=b j (rE _) (l,q,);rw[o]at k;cases k
  .rw[partsBetween_eq]at a;calc g p a j l
def  tl(z:Str):M3 Nat:=z.cps.toList
def cL(a b:Str):tl (a++b)=tl a++tl b:=by
 unfold tl;rw[Str.cps_append,OB]
def gZ{a b:Str}(h:tl a=tl b):a=b:=by
 cases a with
 |mk x =>
  cases b with
  |mk y =>
   let:x=y:=yi.mp h;rw[this]
def bw(z:Str):⇑(tl z)=⇑z:=by unfold tl;rw[w5];rfl
def iA(m:Str)(zs:M3 Str):io m zs=kt m zs:=glued_eq_join m zs
def join_cons(m x y:Str)(r:M3 Str):kt m (x :: y :: r)=x++m++kt m (y :: r):=rfl
def cQ(m x y:Str)(r:M3 Str):tl (kt m (x :: y :: r))=tl x++(tl m++tl (kt m (y :: r))):=by rw[join_cons,cL,cL,gB]
def qJ(c:Nat)(m:Str):∀zs:M3 Str,(tl<|kt m zs).count c=(zs.map λz=>(tl z).count c).sum+(⇑zs-1)*(tl m).count c
 | []=>by show(tl re).count c=_;simp[tl,re]
 | [x]=>by show(tl x).count c=_;simp
 |x :: y :: r=>by
  rw[cQ,jN,jN,qJ c m (y :: r)];simp only[gs,pR,gv];let:⇑r+1+1-1=(⇑r+1-1)+1:=∅
  rw[this,u3];lia
def  mk2:Str:=s!", "
def mY:tl mk2=[44,32]:=rfl
def sX:∀{W P:M3 Str},W≠[]->P≠[]->(∀w∈W,44 ∉ tl w)->(∀p∈P,∀j,(tl p)[j]?=MO 44->(tl p)[j+1]?≠MO 32)->tl (kt mk2 P)=tl (kt mk2 W)->P=W
 | [],_,h,_,_,_,_=>MW U h
 |_,[],_,h,_,_,_=>MW U h
 | [w],[p],_,_,_,_,e=>by
  let e:tl p=tl w:=e;rw[gZ e]
 | [w],p :: d :: P,_,_,hw,_,e=>by
  let e:tl (kt mk2 (p :: d :: P))=tl w:=e;rw[cQ,mY]at e;let:44∈tl w:=by rw[←e];simp
  exact MW this<|hw w (by simp)
 |w :: c :: W,[p],_,_,_,hp,e=>by
  let e:tl p=tl (kt mk2 (w :: c :: W)):=e;rw[cQ,mY]at e;let a:(tl p)[⇑(tl w)]?=MO 44:=by rw[e];simp
  let b:(tl p)[⇑(tl w)+1]?=MO 32:=by
   rw[e,fV ∅];rw[show⇑(tl w)+1-⇑(tl w)=1 by lia];rfl
  exact MW b<|hp p (by simp) _ a
 |w :: c :: W,p :: d :: P,_,_,hw,hp,e=>by
  rw[cQ,cQ,mY]at e;let k:⇑(tl p)=⇑(tl w):=by
   rcases uM ⇑(tl p) ⇑(tl w) with g|g|g
   .let a:(tl p++([44,32]++tl (kt mk2 (d :: P))))[⇑(tl p)]?=MO 44:=by simp
    rw[e,ft g]at a;exact MW (KJ a)<|hw w (by simp)
   .exact g
   .let a:(tl w++([44,32]++tl (kt mk2 (c :: W))))[⇑(tl w)]?=MO 44:=by simp
    let b:(tl w++([44,32]++tl (kt mk2 (c :: W))))[⇑(tl w)+1]?=MO 32:=by
     rw[fV ∅,show⇑(tl w)+1-⇑(tl w)=1 by lia];rfl
    rw[←e]at a b;rw[ft g]at a;by_cases l:⇑(tl w)+1<⇑(tl p)
    .rw[ft l]at b;exact MW b<|hp p (by simp) _ a
    .rw[fV ∅,show⇑(tl w)+1-⇑(tl p)=0 by lia]at b;cases b
  let i:=mu e k;let m:tl (kt mk2 (d :: P))=tl (kt mk2 (c :: W)):=by
   let:=i.2;exact(mu this U).2
  rw[gZ i.1,sX (by simp) (by simp) (λz f=>hw z<|eY _ f) (λz f=>hp z<|eY _ f) m]
def vx(x:Str):jp x mk2≠[]:=by
 unfold jp;split
 .simp
 .split
  .simp
  .intro h;let:=M0 M6 h;rw[Mo]at this;simp at this
def Gm(x:Str):decide (ul x<ul mk2)=false:=by
 let a:ul mk2=1:= ~~~0
 rw[a];unfold ul;split
 .rfl
 .split <;> rfl
def pN(x:Str):∀p∈jp x mk2,∀j,(tl p)[j]?=MO 44->(tl p)[j+1]?≠MO 32:=λp d j g a=>by
 let f:=(KH.mp a).1;rw[bw]at f;let:=pM x mk2 ⋯ (Gm x) p d j (by show j+2<=⇑p;lia);rw[subAt_eq]at this;let e:(p.cps.toList.drop j).take ⇑mk2=mk2.cps.toList:=by
  let i:=KH.mp g;let h:=KH.mp a;let(c,l):=i;let(b,k):=h;show((tl p).drop j).take 2=[44,32];rw[nt c,nt b,l,k];rfl
 rw[e]at this;simp at this
def qK{W:M3 Str}(h:W≠[])(a:∀w∈W,44 ∉ tl w):jp (io mk2 W) mk2=W:=by
 calc sX h (vx _) a (pN _) ?_;rw[join_split,iA]
def  Ltr(z:Str):Prop:=∀c∈tl z,97<=c/\c<=122
def Ltr.no{z:Str}(h:Ltr z){c:Nat}(a:c<97):(tl z).count c=0:=ny.mpr λm=>by have:=h c m;lia
def AS{zs:M3 Str}{c:Nat}(h:∀z∈zs,(tl z).count c=0):(zs.map λz=>(tl z).count c).sum=0:=by
 induction zs with
 |nil=>rfl
 |cons z zs a=>rw[gs,pR,h z (by simp),a λw b=>h w (by simp[b])]
def  bD:Str:=s!".."
def ub:tl bD=[46,46]:=rfl
def uc{a b:Str}:(!(occurrences (a++bD++b) bD 0 ⇑(a++bD++b) 1).isEmpty)=true:=by
 rcases occ_head (a++bD++b) bD 1 (pT _) with⟨_,h⟩|⟨i,r,e,_⟩
 .let c:⇑(a++bD++b)=⇑a+2+⇑b:=by rw[Str.length_append,Str.length_append];rfl
  refine MW (?_,?_,)<|h ⇑a
  .show ⇑a+2<=_;rw[c];lia
  .rw[subAt_eq];show(((tl<|a++bD++b).drop ⇑a).take 2 == tl bD)=MQ;rw[cL,cL,gB,←bw a,nX,ub];rfl
 .rw[e];rfl
def vy{t:Str}(h:(tl t).count 46<=1):(!(occurrences t bD 0 ⇑t 1).isEmpty)=false:=by
 rcases occ_head t bD 1 (pT _) with⟨e,_⟩|⟨i,r,e,a,_⟩
 .rw[e];rfl
 .exfalso;let b:=a.2;rw[subAt_eq]at b;let c:((tl t).drop i).take 2=[46,46]:=eq_of_beq b;let g:(tl t).count 46=((tl t).take i).count 46+((tl t).drop i).count 46:=by rw[←jN,kC]
  let d:((tl t).drop i).count 46=(((tl t).drop i).take 2).count 46+(((tl t).drop i).drop 2).count 46:=by rw[←jN,kC]
  rw[c]at d;let f:([46,46]:M3 Nat).count 46=2:=rfl;lia
def yu{t:Str}(h:(!(occurrences t bD 0 ⇑t 1).isEmpty)=MQ):tl t=tl (db t bD).1++([46,46]++tl (db t bD).2.2):=by
 rcases occ_head t bD 1 (pT _) with⟨e,_⟩|⟨i,r,e,a,_⟩
 .rw[e]at h;cases h
 .unfold db;rw[e];let j:=a.1;let b:=a.2;rw[subAt_eq]at b;let c:((tl t).drop i).take 2=[46,46]:=eq_of_beq b;let g:⇑(tl t)=⇑t:=bw t;show tl t=tl (strSub t 0 i)++([46,46]++tl (strSub t (i+2) ⇑t));let f:tl (strSub t 0 i)=(tl t).take i:=by
   show(strSub t 0 i).cps.toList=_;rw[strSub_toList];rfl
  let d:tl (strSub t (i+2) ⇑t)=(tl t).drop (i+2):=by
   show(strSub t (i+2) ⇑t).cps.toList=_;rw[strSub_toList];exact kU (by rw[lR];show⇑(tl t)-_<=_;lia)
  rw[f,d,←c]
  conv=>lhs;rw[←kC i (tl t),←kC 2 ((tl t).drop i)]
  rw[List.drop_drop]
def zq{a b c d:M3 Nat}(h:a++([46,46]++b)=c++([46,46]++d))(i:46 ∉ a)(l:46 ∉ b):a=c/\b=d:=by
 let k:(a++([46,46]++b)).count 46=(c++([46,46]++d)).count 46:=by rw[h]
 rw[jN,jN,jN,jN,ny.mpr i,ny.mpr l]at k;let m:46 ∉ c:=ny.mp ∅;let j:⇑a=⇑c:=by
  rcases uM ⇑a ⇑c with g|g|g
  .let f:(a++([46,46]++b))[⇑a]?=MO 46:=by simp
   rw[h,ft g]at f;exact MW (KJ f) m
  .exact g
  .let f:(c++([46,46]++d))[⇑c]?=MO 46:=by simp
   rw[←h,ft g]at f;exact MW (KJ f) i
 let e:=mu h j;calc(e.1,(mu e.2 U).2,)
section
variable{M:D2}
def Gn{e:Ej}{scope:Du}{pos:Pos}{q first:Sem zY}{g:Mp}{G:M3 Mp}{cl:M3 (Str×AE)}{Q:zY->Ct->Prop}
  (d:clausesOf e=g :: G)(v:∀x,KZ g.iter env x=pure x)(H:LD scope env=pure cl)
  (i:scope.kind=.function)(I:∀x∈scope.names,x.2=.local->scope.names.lookup x.1=MO .local)
  (h:D8 M A first (λx n=>D8 M A (KQ x) (λit l=>D8 M A q (λb k =>
   D8 M A (LL scope env.globals cl [] env.qual MP .none (MO env)) (λcenv j =>
    K8 M A (.compStart e 0 it b { cenv with scope:=relabel scope env }) (λr s'=>∃m,s'.heap.Ns cenv.locals m/\∀h',Gc cenv.locals s'.heap h' ->
     match r with | .ok _=>Q b { s' with heap:=h' } | .error x=>D8 M A (passOn "comprehension.variables-let-go" x { cenv with scope:=relabel scope env }:Sem zY) (λ_ _=>False) E { s' with heap:=h' }) j) E k) E l) E n) E s) :
  D8 M A (comprehension e scope env pos q MR first) Q E s:=by
 unfold comprehension;rw[H,d];calc zb<|FC h (λx n F=>zb<|KI<|zb<|wpAny_of_eq (v x)<|zb<|zz<|FC F (λit l D=>?_) λ_ _ z=>z) λ_ _ z=>z;calc wpAny_standIf<|zb<|FC D (λb k C=>zb<|zp<|zb<|FC C (λcenv j B=>?_) λ_ _ z=>z) λ_ _ z=>z;dsimp only;let o:∀x∈(scope.names.filter λx=>(x.2 == .local || x.2 == .cell) && x.1 != (".0" : Str)).reverse,x.2=.local->Env.kindOf { cenv with scope:=relabel scope env } x.1=MO .local :=
  λx u w=>LP<|I x (mH.mp<|List.mem_reverse.mp u).1 w
 calc zz<|zb<|Mq<|zz<|wpAny_run<|Li B λr s' c=>?_;let(m,p,c):=c;cases r with
 |ok f=>exact zb (zz<|Mr (cenv:={ cenv with scope:=relabel scope env }) i _ s' m o p λh' t _ a=>zp<|c h' a)
 |error x=>calc zb (zz<|Mr (cenv:={ cenv with scope:=relabel scope env }) i _ s' m o p λh' t _ a=>FC (c h' a) (λ_ _ f=>f.elim) λ_ _ y=>y)
end
section
variable{R:K7->Ct->Prop}
def vA{e a b:Ej}{d:M3 Ej}{scope:Du}{pos:Pos}{it f:zY}{env:Env}(B:zY->Ct->Prop)(C:∀g s',B g s'->Ms (model prog w) A env (λx k=>R (.error x) k) g s')(J:Nat->Ct->Prop)
  (turn:∀n s,J n s->D8 (model prog w) A (KO it) (λr j=>match r with
   |none=>R (.ok .next) j
   |some v=>D8 (model prog w) A (KP a it v) (λ_ q=>D8 (model prog w) A (assign a env v) (λ_ p =>
     D8 (model prog w) A (forIn d MQ λc r=>if r=MQ then do let ok ←Ek c env (eval c env);pure (wP ok)else pure (wP r)) (λok i =>
      if ok=MQ then D8 (model prog w) A (eval e env) (λy o=>D8 (model prog w) A (call (.builtin "list.append") [f,y]) (λ_ l=>∃m,m<n/\J m l) (λ_ _=>False) o) B i
      else ∃m,m<n/\J m i) (λ_ _=>False) p) (λ_ _=>False) q) (λ_ _=>False) j) (λ_ _=>False) s)
  (n:Nat)(h:J n s):K8 (model prog w) A (.compLoop (.ListComp e [(a,b,d,0,)] scope pos) 0 it f env) R s:=by
 calc codeAny_loop U J (λn s D=>?_) n h;show D8 _ A ((compTurn (.ListComp e [(a,b,d,0,)] scope pos) 0 it f env).onRaise (λx=>do LG x env;LH x)) _ _ s;calc wpAny_noted ?_;rw[LJ];calc zb<|KI<|zb<|FC (turn n s D) (λr j u=>?_) λ_ _ z=>z.elim;cases r with
 |none=>exact zp u
 |some v =>
  calc zb<|FC u (λ_ q H=>?_) λ_ _ z=>z.elim;calc zb<|FC H (λ_ p G=>zb<|FC G (λok i t=>?_) λ_ _ z=>z.elim) λ_ _ z=>z.elim;cases ok with
  |false=>exact zp (U,t,)
  |true=>calc zb (zb<|FC t (λy o F=>zb<|FC F (λ_ l E=>zp<|zp (U,E,)) λ_ _ z=>z.elim) λg s' z=>C g s' z)
end
def  mZ(X:Cx)(N:M3 Str)(scope:Du)(cl:M3 (Str×AE))(b:M3 AE)(C:AE)(a:Ct)(c:Hp)(pl:M3 (AE×Obj)):Cx:={ bq X N scope cl b C a c with pn:=pl }
def  xm(X:Cx)(N:M3 Str)(scope:Du)(cl:M3 (Str×AE))(L:AE)(E:XK)(b:M3 AE)(C:AE)(a:Ct)(c:Hp)(pl:M3 (AE×Obj)):Cx:=(mZ X N scope cl b C a c pl).wish<|kQ (mZ X N scope cl b C a c pl) L E
def  Ez(X:Cx)(N:M3 Str)(scope:Du)(cl:M3 (Str×AE))(L:AE)(E:XK)(c:M3 AE)(C:AE)(d:Ct)(f:Hp):zY->Ct->Prop:=λe s'=>∃a,(∀b∈c,∃o,(b,o)∈a)/\kQ (mZ X N scope cl c C d f a) L E e s'
variable{cl:M3 (Str×AE)}
section
variable{fp:M3 AE}{s2:Ct}{H2:Hp}{pl:M3 (AE×Obj)}
def Inv.topn(I:Inv (bq X N scope cl fp C s2 H2) ([]++pl) σ H s):Inv (mZ X N scope cl fp C s2 H2 pl) [] σ H s :=
 ((I.ok.mod,I.ok.kind,I.ok.glob,I.ok.blt,I.ok.above,I.ok.inj,I.ok.has,I.ok.cab,I.ok.hd,I.ok.frames,I.ok.stk,I.ok.exf,I.ok.bs,I.ok.bsz,I.ok.noex,I.ok.exfs,I.ok.funs,I.ok.frf,),I.os,I.bare,I.base,I.loc,I.cell,I.free,I.freeC,λp a=>I.pin p<|fq _<|fq _<|(eA.mp a).elim (λz=>z) λz=>(List.not_mem_nil z).elim,I.hok,I.len,)
def Inv.ofpn(I:Inv (mZ X N scope cl fp C s2 H2 pl) [] σ H s):Inv (bq X N scope cl fp C s2 H2) ([]++pl) σ H s :=
 ((I.ok.mod,I.ok.kind,I.ok.glob,I.ok.blt,I.ok.above,I.ok.inj,I.ok.has,I.ok.cab,I.ok.hd,I.ok.frames,I.ok.stk,I.ok.exf,I.ok.bs,I.ok.bsz,I.ok.noex,I.ok.exfs,I.ok.funs,I.ok.frf,),I.os,I.bare,I.base,I.loc,I.cell,I.free,I.freeC,λp a=>I.pin p<|fE _<|(eA.mp a).elim (λz=>by cases z) λz=>(eA.mp z).elim (λz=>by cases z) λz=>z,I.hok,I.len,)
end
def Inv.newAtP(I:Inv X MT σ H s)(f:∀b∈X.ex,∃o,(b,o)∈X.pn){b:AE}(a:s.heap.get? b=MP):dC X MT H b:=by
 refine(?_,I.hok.none_of a,?_,?_,?_,)
 .cases q:X.s₀.heap.get? b with
  |none=>rfl
  |some o =>
   let(k,d):=I.base.there b o q (λh=>by
    let(e,j):=f b h;let:=(I.pin (b,e)<|fE _ j).1;rw[a]at this;cases this)
   rw[a]at d;cases d
 .rintro rfl;let(m,(o,_,_,q,_),_):=I.loc;rw[a]at q;cases q
 .rintro x c i rfl;let(v,o,q,_):=I.cell x c i;rw[a]at q;cases q
 .rintro p g rfl;let(q,_):=I.pin p g;rw[a]at q;cases q
section
variable{fp:M3 AE}{s2:Ct}{H2:Hp}{pl:M3 (AE×Obj)}{L:AE}{E:XK}
def Gq(d:∀b∈fp,∃o,(b,o)∈pl):Passes (CX1 X.prog X.w) (xm X N scope cl L E fp C s2 H2 pl) E:=λMT σ H s t s' I h=>by
 let(e,T,r,n,p,rfl,i,f,un,g,x,ne,j,k,m,q):=h;let J:=(I.unwish).call' (ch:=[]) i un g f λb z=>MW z (by simp)
 let a:=(I.unwish).newAtP d ne;let c:=(I.unwish).newAtP d j;calc(e,r,n,[T],MT,σ,p,U,J,.fly x,λb l=>?_,q,);rcases cZ.mp l with z|z
 .rw[z];exact(a.ent,k,a.loc,a.cel,a.pin,)
 .rw[show b=T by simpa using z];calc(c.ent,m,c.loc,c.cel,c.pin,)
def zr{x:zY}{a:AE}:LG x (LC scope cl a X.env)=LG x X.env:=rfl
end
variable{elt iter:Ej}{ifs:M3 Ej}{fr:M3 Nat}{gt:TG}{tt:TT}{te:TE}
section
variable{k:Nat}
def vB{MT:M3 (AE×Obj)}{σ:St}{a:Ct}{q:Hp}{it:AE}{f:M3 AE}{tn:Nat->AU->Prop}{J:It}{Q:VK}{E:zY->Ct->Prop}{RR:zY->Env->K7->Ct->Prop}{L:AE}{E2:XK}
  (O:mU X N k fr scope cl)(hc:X.calm=MQ)(h:Inv X MT σ q a)(T:Turn X.prog X.w X.K tg J f it tn)(a1:tn 0 a.heap)(M:∀b∈f,mr X MT q b)
  (ht:∀f C s H,PIf (bq X N scope cl f C s H) ifs tt)(he:∀f C s H pl,(∀b∈f,∃o,(b,o)∈pl)->PE (xm X N scope cl L E2 f C s H pl) elt te)
  (hg:∀f C s H,PG (bq X N scope cl f C s H) tg gt)(hW:l9 J gt k fr tt te σ Q q)
  (fin:∀D C s' H',↥a<=C->H' C=MP->(∃m,s'.heap.Ns C m)->Inv X MT σ H' s'->Q (.ref D) H'->RR (.ref D) (LC scope cl C X.env) (.ok .next) s')
  (HS:∀D C ev s',↥a<=C->Ez X N scope cl L E2 f C a q ev s'->Ms (model X.prog X.w) X.A (LC scope cl C X.env) (λx c2=>RR (.ref D) (LC scope cl C X.env) (.error x) c2) ev s') :
  D8 (model X.prog X.w) X.A (LK []) (λb3 s3=>D8 (model X.prog X.w) X.A (LL scope X.env.globals cl [] X.env.qual MP .none (MO X.env)) (λcenv s4 =>
   K8 (model X.prog X.w) X.A (.compStart (.ListComp elt [(tg,iter,ifs,0,)] scope pos) 0 (.ref it) b3 { cenv with scope:=relabel scope X.env }) (RR b3 { cenv with scope:=relabel scope X.env }) s4) E s3) E a:=by
 refine LM (LO O.nocell (by intro y hy;simp at hy) (λh1 a2 S=>?_) O.kind);dsimp only at a2 S⊢;generalize hG:a.heap.push { cls:=.type "list",dict:=MP,data:=.seq ([]:M3 zY).toArray }=G at a2 S⊢;let V:G.objs.size=↥a+1:=by rw[←hG,Da]
 let F:∀b o,a.heap.get? b=MO o->h1.get? b=MO o:=λb o e=>S.extBut b o (qo (by rw[V];exact rJ (bn e))) (am _<|hG ▸ am _ e)
 let AB:h1.get? ↥a=MO { cls:=.type "list",data:=.seq ([]:M3 zY).toArray 0 }:=S.extBut _ _ (qo (by rw[V];exact so _)) (am _<|hG ▸ ii _ U);let hD:q ↥a=none:=h.fresh;let R:(bq X N scope cl f G.objs.size a q).Ok:=by
  refine(h.ok.mod,O.kind,h.ok.glob,h.ok.blt,by show ↥a<=G.objs.size;rw[V];exact rZ _,λy z c e1 e2=>h.ok.inj y z c (O.cells y c e1)<|O.cells z c e2,λy hy=>O.has y hy,λy c z=>MW (show MR=MQ from z) cr,h.ok.hd,h.ok.frames,.inl U,
   λb g=>(?_,λy c e=>(M b g).2.2.2.2.1 y c<|O.cells y c e,),h.bs,qu h.ok.bsz h.sz,λb o e g=>?_,λb g z=>?_,h.stack,h.stkFree,)
  .let(o,e,_):=T.obj _ _ a1 b g;show b≠G.objs.size;exact qo (by rw[V];exact rJ (bn e))
  .rcases(M b g).2.2.2.1 with z|z
   .exact h.ok.noex b o e z
   .exact MW (ri (bn e)<|qu h.ok.bsz z)<|sh _
  .rcases cZ.mp (h.stkSub b z)with z|z
   .exact(M b g).2.1 z
   .exact(M b g).2.2.1 z
 let lu:∀{H':Hp},(∀b∈f,H' b=MP)->∀b∈f,mr (bq X N scope cl f G.objs.size a q) [] H' b:=λhn b g =>
  (hn b g,(R.exf b g).1,R.exfs b g,.inl g,(R.exf b g).2,λp hp=>MW (show p∈([]:M3 (AE×Obj))from hp) (by simp),)
 let I':Inv (bq X N scope cl f G.objs.size a q) [] (dz σ fr<|v6 k MP) (upd q ↥a<|.lst []) { a with heap:=h1,toks:=a.toks+⇑([]:M3 (Str×zY)) }:=by
  refine(R,U,h.bare,Un.laid F (pT _) hD,(_,a2,λi y v e1 e2 e3=>?_,),λy c e=>?_,?_,λy c e=>?_,λp hp=>MW (show p∈([]:M3 (AE×Obj))from hp) (by simp),h.hok.laid F (pT _) (rE _,[],0,.nil,AB,),?_,)
  .by_cases a7:i<k
   .let B:(v6 k MP++fr.map λj=>(σ[j]?).join)[i]?=MO (MO v):=e2;rw[ft (by rw[ib];exact a7),KB,MV a7]at B;cases B
   .let(j,q1,q2,q3,q4):=O.sub (i-k) y (by rw[show k+(i-k)=i by lia];exact e1);let B:(σ[j]?).join=MO v:=by
     have:(v6 k MP++fr.map λj=>(σ[j]?).join)[i]?=MO (MO v):=e2;rw[fV (by rw[ib];lia),ib,dn,q1]at this;exact dL this
    let e4:σ[j]?=MO (MO v):=by
     cases z:σ[j]? with
     |none=>rw[z]at B;cases B
     |some t=>rw[z]at B;exact M0 MO B
    let(m,_,hl):=h.loc;let c1:Vis X.env.scope y:=.inr q3;let(u,r,l):=hl j y v q2 e4 c1;calc(u,r,.inr (q4,?_,),);let(c',a8):=O.has y q4;rcases l with⟨k,_⟩|⟨_,c,ec,ic⟩
    .rcases q3 with z|z
     .rw[z]at k;cases k
     .rw[z]at k;cases k
    .let:=O.cells y c' a8;let e':c=c':=dL<|ec.symm.trans this;let(o,ho,hd):=ic;rw[e']at ho;exact(c',a8,o,F c' o ho,hd,)
  .let(v,o,ho,hd):=h.cell y c<|O.cells y c e;exact(v,o,F c o ho,hd,)
  .show upd q ↥a (.lst []) G.objs.size=MP;rw[ay (rG (by rw[V];exact so _))];exact h.hok.fresh (by rw[V];exact rZ _)
  .let(v,o,ho,hd):=h.cell y c<|O.cells y c e;rw[ay (qo<|bn ho)];exact h.freeC y c<|O.cells y c e
  .show⇑(dz σ fr<|v6 k MP)=N.length;rw[O.len];simp[dz]
 let a5:tn 0 h1:=T.keep _ _ _ a1 λb g o e=>F b o e
 let Y:∀s3:Ct,s3={ a with heap:=h1,toks:=a.toks+⇑([]:M3 (Str×zY)) } ->
   K8 (model X.prog X.w) X.A (.compLoop (.ListComp elt [(tg,iter,ifs,0,)] scope pos) 0 (.ref it) (.ref ↥a)<|LC scope cl G.objs.size X.env) (RR (.ref ↥a)<|LC scope cl G.objs.size X.env) s3:=by
  rintro s3 rfl;let(W,(m0,w0),turn):=hW _ hD
  refine vA (Ez X N scope cl L E2 f G.objs.size a q) (λev s9 z=>HS _ _ ev s9 (by rw[V];exact rZ _) z) (λn s'=>∃i Z H',Z.length=k/\Inv (bq X N scope cl f G.objs.size a q) [] (dz σ fr Z) H' s'/\tn i s'.heap/\(∀b∈f,H' b=MP)/\W i n H') ?_ m0
   (0,v6 k MP,_,ib,I',a5,λb g=>by
    rw[ay (by let(o,e,_):=T.obj _ _ a1 b g;exact qo (bn e))];exact(M b g).1,w0,)
  rintro n s' ⟨i,Z,H',c4,I3,a4,b0,w3⟩;rcases turn i n H' w3 with⟨b4,qn⟩|⟨go,step⟩
  .refine thn (T.done (bq X N scope cl f G.objs.size a q) U U U hc i [] s' _ H' _ I3 (lu b0) a4 b4) λr s4 (hr,I4,)=>?_
   subst hr;let(m,hm,_):=I4.loc;refine fin _ _ s4 H' (by rw[V];exact rZ _) I4.free (m,hm,) (h.call' (ch:=f) I4.os I4.base I4.hok I4.bare λb g=>?_) qn;exact((M b g).2.2.2.1,(M b g).2.1,(M b g).2.2.2.2.1,(M b g).2.2.2.2.2,)
  .refine thn (T.item (bq X N scope cl f G.objs.size a q) U U U hc i [] s' _ H' _ I3 (lu b0) a4 go) λr s4 (u,hr,h4,)=>?_
   subst hr;refine thn h4 λ_ s5 (y,H5,I5,r5,y5,P,c5,)=>?_
   let c6:=I5.pinned (lu c5)<|T.obj _ _ P;refine thn (hg f G.objs.size a q _ s5 _ H5 y u _ c6 r5<|step y H5 y5 Z c4) λ_ s6 (c7,H6,I6,(a3,En,e6,),q6,)=>?_
   subst e6
   let I:∀{a0:St}{H7:Hp}{s7:Ct}{m':Nat},a0=dz σ fr a3->Inv (bq X N scope cl f G.objs.size a q) ([]++jl f s5.heap) a0 H7 s7->m'<n->W (i+1) m' H7 ->
     ∃m,m<n/\∃i Z H',Z.length=k/\Inv (bq X N scope cl f G.objs.size a q) [] (dz σ fr Z) H' s7/\tn i s7.heap/\(∀b∈f,H' b=MP)/\W i m H':=λ{a0 H7 s7 m'} e7 I7 hm w7=>by
    subst e7;calc(m',hm,i+1,a3,H7,En,I7.unpinned,T.keep _ _ _ P λb g o e=>(I7.pin (b,o)<|fq _<|fq _<|dO g e).1,λb g=>?_,w7,);let(o,e,d):=T.obj _ _ P b g;exact(I7.pin (b,o)<|fq _<|fq _<|dO g e).2.1
   refine thn (ht f G.objs.size a q _ s6 _ H6 _ I6 q6) λok s7 (H7,I7,q7,)=>?_
   cases ok with
   |false =>
    rw[MU cr]at q7⊢;let(m',hm,w7):=q7;exact I U I7 hm w7
   |true =>
    rw[MV U]at q7⊢;let a6:∀b∈f,∃o,(b,o)∈jl f s5.heap:=λb g=>by
     let(o,e,_):=T.obj _ _ P b g;exact(o,dO g e,)
    refine FC (he f G.objs.size a q (jl f s5.heap) a6 [] s7 _ H7 _ ((I7.topn).wish _) q7) (λu8 s8 (v8,H8,I8,r8,ys,c3,c0,m',hm,w8,)=>?_) λev s9 z=>(jl f s5.heap,a6,z,)
    let I8:=(I8.unwish).ofpn;refine thn (bW (X:=bq X N scope cl f G.objs.size a q) _ s8 _ H8 (.ref ↥a) [v8] _ [u8] (λ_ H9=>W (i+1) m' H9) I8 U (.cons r8 .nil) (_,ys,v8,U,U,c3,c0,w8,)) λ_ s9 (_,H9,I9,_,w9,)=>?_
    exact I U I9 hm w9
 calc LQ (Y _ U)<|T.self _ 0 _ _ _ a5<|Y _ U
def EA{MT:M3 (AE×Obj)}{σ:St}{n:Hp}{i s':Ct}{j:M3 AE}{C L:AE}{E:XK}{k:zY}{RR:K7->Ct->Prop}(f:X.stack=X.env :: X.outer)(r:X.env.frame=MO L)(G:X.ex=[])(D:∀k s',kQ X L E k s'->X.xe k s')
  (v:Inv X MT σ n i)(t:∀b∈j,mr X MT n b)(hC:↥i<=C)(z:Ez X N scope cl L E j C i n k s')
  (hR:∀x c,(∃m,c.heap.Ns C m/\∀h',Gc C c.heap h'->D8 (model X.prog X.w) X.A (passOn "comprehension.variables-let-go" x (LC scope cl C X.env):Sem zY) (λ_ _=>False) X.xe { c with heap:=h' })->RR (.error x) c) :
  Ms (model X.prog X.w) X.A (LC scope cl C X.env) (λx c=>RR (.error x) c) k s':=by
 let(P,F,e,Y,V,Ts,pz,a1,o,rfl,I,x,u,q):=z;let H:X.A.frames=MO (X.env :: X.outer):=by rw[←f];exact I.ok.frames
 let J:s'.heap.FunFrames X.base (X.env :: X.outer):=by rw[←f];exact I.stack
 unfold Ms;rw[zr];refine note H J r x λh2 T st x2 hT=>?_
 rw[←f]at st;let h:=I.excStepY st u;let S:dC (mZ X N scope cl j C i n P) pz o T:=by
  rcases hT with z|z
  .exact I.newAtP F z
  .exact u T<|eY e z
 let ne:=u e gb;let I4:Inv X MT σ o { s' with heap:=h2 }:=v.call' (ch:=j) h.os h.base h.hok h.bare λb g=>((t b g).2.2.2.1,(t b g).2.1,(t b g).2.2.2.2.1,(t b g).2.2.2.2.2,)
 let(m,hm,_):=h.loc;calc hR _ _ (m,hm,λh' d=>?_,);let W:=v.left I4 hC h.free d;let p:e≠C:=ne.loc;let B:T≠C:=S.loc;let(oe,vs,oT,ts,O,y2,M,K,y5,y6,y7,Z):=id x2;let x3:vt h' e T (.ref Y) V (KR L):=(oe,vs,oT,ts,(d.2 e p).trans O,y2,M,K,y5,(d.2 T B).trans y6,y7,Z,);let R:∀b∈[e,T],dC X MT o b:=λb g=>by
  let Q:dC (mZ X N scope cl j C i n P) pz o b:=by
   rcases cZ.mp g with z|z
   .rw[z];exact ne
   .rw[show b=T by simpa using z];exact S
  let a:=v.newAt G (b:=b) Q.ent;exact(a.ent,Q.unt,a.loc,a.cel,a.pin,)
 unfold PySem.passOn;calc zb<|L3 (s:={ s' with heap:=h' }) ((d.2 e p).trans O) M K ?_;rw[MU (show ¬ (zY.ref T == zY.none)=MQ by simp)];show D8 (model X.prog X.w) X.A (L4 (.ref e) X.env.frame >>= λ_=>(throw (.ref e):Sem zY)) _ _ _;rw[r];calc zb<|sU (s:={ s' with heap:=h' }) (l:=X.stack) W.stack x3 λh3 y x4=>?_;calc wpAny_throw<|D _ _ (e,Y,V,[T],MT,σ,o,U,W.excStepY y R,.held x4,R,q,)
def zt{B:TI}{L:AE}{E:XK}(n:X.stack=X.env :: X.outer)(t:X.env.frame=MO L)(u:X.ex=[])(l:∀g s',kQ X L E g s'->X.xe g s')(hi:PI X tg iter B)(O:mU X N k fr scope cl)(S:X.calm=MQ)(R:∀d C s H,PG (bq X N scope cl d C s H) tg gt)(G:∀d C s H,PIf (bq X N scope cl d C s H) ifs tt)
  (he:∀d C s H pl,(∀b∈d,∃o,(b,o)∈pl)->PE (xm X N scope cl L E d C s H pl) elt te)
  (K:∀v,KZ iter X.env v=pure v:=by intro _;rfl):PE X (.ListComp elt [(tg,iter,ifs,0,)] scope pos) (xa B gt k fr tt te):=by
 intro MT s σ H Q I h;rw[LR];calc Gn U K O.clos O.kind O.names<|thn (hi MT s σ H _ I h) λv s1 Y=>thn Y λa0 s2 W=>?_;let(it,d,tn,J,H2,e,i,T,j,F,V):=W;subst e;refine vB (RR:=λy c r s'=>∃m,s'.heap.Ns c.locals m/\∀h',Gc c.locals s'.heap h'->match r with | .ok _=>EP X MT σ Q y { s' with heap:=h' } | .error x=>D8 (model X.prog X.w) X.A (passOn "comprehension.variables-let-go" x c:Sem zY) (λ_ _=>False) X.xe { s' with heap:=h' }) O S i T j F G he R V (λD C s' H' f M (m,P,) Z q=>?_) λD C g s' f z=>?_
 .exact(m,P,λh' p=>(.ref D,H',i.left Z f M p,U,q,),)
 .exact EA (RR:=λr a=>∃m,a.heap.Ns C m/\∀h',Gc C a.heap h'->match r with | .ok _=>EP X MT σ Q (.ref D) { a with heap:=h' } | .error x=>D8 (model X.prog X.w) X.A (passOn "comprehension.variables-let-go" x (LC scope cl C X.env):Sem zY) (λ_ _=>False) X.xe { a with heap:=h' }) n t u l i F f z λx a h=>h
end
section
variable{E:XK}
def EB:∀d s',kQ (cxE P w K mg base N qual scope f cd A outer s0 H0 E) ↥s0 E d s'->(cxE P w K mg base N qual scope f cd A outer s0 H0 E).xe d s':=by
 rintro d s' ⟨e,C,g,h,MT,σ,i,rfl,I,x,a,q⟩;calc(e,C,g,h,MT,σ,i,U,I.unwish,x,λb c=>((a b c).ent,(a b c).unt,(a b c).loc,(a b c).cel,(a b c).pin,),q,)
end
def  TyG(K:ac)(H:Hp)(x:V)(t:zY):Prop:=oQ K H x t\/∃a b,x=.ref a/\SqT K H a b/\t=.type "tuple"
inductive ClV:V->zY->Prop where
 |ty (T:String):ClV (.ty T) (.type T)
 |ref (C:AE):ClV (.ref C) (.ref C)
def b9:iM X (.builtin "isinstance") (λxs H Q=>∃x c d t b,xs=[x,c]/\ClV c d/\TyG X.K H x t/\NG X.K t d=MO b/\Q (.bl b) H):=by
 intro MT s σ H xs v Q I r h;let(x,c,d,t,b,rfl,i,ty,e,q):=h;cases r with
 |cons g j =>
  cases j with
  | @cons _ cu _ _ ry r3 =>
   cases r3;let n:cu=d:=by cases i <;> exact ry
   subst n;rcases ty with ty|⟨a,u,rfl,k,rfl⟩
   .exact yX I g ty e λf=>(.bl b,H,I.tok f,U,q,)
   .cases (show _=zY.ref a from g);let(p,r,(o,m,l,_),_):=I.tuple k;calc FB W.kitx_tuple I.kIn (o,m,l,) e (λz=>nomatch z) λf=>(.bl b,H,I.tok f,U,q,)
structure oU(K:ac)(C:AE):Prop where
 cl:Cls K C
 ha:wT K (.ref C) "__class__" = MO (MO<|.builtin "object.__class__")
 hn:Nq K (.builtin "object.__class__") "__get__" = MO (MO<|.builtin "getset_descriptor.__get__")
 tk:W.takesIn K (.builtin "object.__class__")=MO MQ
 hm:W.mroIn K C (.type "object")=MO MQ
def oU.ty{K:ac}{C:AE}(h:oU K C){H:Hp}{a b:AE}{fs:M3 (Str×V)}(e:H a=MO (.ins C b fs)):TyG K H (.ref a) (.ref C):=.inl<|.ins e h.cl h.ha h.hn h.tk h.hm
def  AV(CX:CXT)(P:An)(w:zZ)(K:ac)(mg:Str->Option zY)(base:AU)(k:Nat)(m:Str)(ps:M3 Str)(cs:M3 (AE×Sp)):Prop :=
 ∀p∈cs,ba CX P w K mg base k p.1 m ps p.2/\Cls K p.1
variable{cs:M3 (AE×Sp)}
section
variable{k:Nat}
def vC:AV CX P w K mg base k m ps []:=λ_ h=>nomatch h
def mw(M:ba CX P w K mg base k C m ps sp)(c:Cls K C)(r:AV CX P w K mg base k m ps cs):AV CX P w K mg base k m ps ((C,sp) :: cs):=λp h=>by
 rcases cZ.mp h with rfl|h
 .exact(M,c,)
 .exact r p h
end
inductive DJ(cs:M3 (AE×Sp))(m:Str)(t:TA)(σ:St)(Q:VK)(x:V)(H1:Hp):Prop
 |mk (a p dx fs:_)(_:x=.ref a)(_:p∈cs)(_:H1 a=MO (.ins p.1 dx fs))(_:fs.lookup m=MP)(_:t σ H1 λvs H2=>p.2 (x :: vs) H2 Q E0):DJ cs m t σ Q x H1
def  Gr(cs:M3 (AE×Sp))(m:Str)(ta:TE)(t:TA):TE:=λσ H Q=>ta σ H λx a=>DJ cs m t σ Q x a
section
variable{k:Nat}
def xn{pl:Sem Bool}(M:AV CX X.prog X.w X.K X.mg X.base k m ps cs)(B:Passes CX X E0)(D:dJ k X.A)(G:PE X o ta)(L:PA X (e :: es) t)
  (b:EX (e :: es) X.env=(MR,eval e X.env) :: EX es X.env:=by rfl)(d:(Ey pos<|EX es X.env).any (·.1)=false:=by rfl)
  (C:eval (.Call (.Attribute o m apos) (e :: es) [] pos) X.env=(do
   let g ←eval o X.env
   Gf apos.atName
   let (f,first) ←holding [g] (K6 g m pl)
   Md pos f first (Ey pos<|EX (e :: es) X.env) (Lx pos<|Ly [] X.env)):=by rfl) :
  PE X (.Call (.Attribute o m apos) (e :: es) [] pos) (Gr cs m ta t):=by
 intro MT s σ H Q I h;calc M9 (pl:=pl) (thn (G MT s σ H _ I h) λu v (x,P,n,y,a,p,S,fs,N,E,O,l,q,)=>?_) C;let((f,fd,i,F,J),c):=M p E;subst N;obtain rfl:u=zY.ref a:=y;calc jV n O c i l ?_;calc GT (first:=[.ref a]) (h₀:=X.base) I.ok.mod.kin i.kp (thn (L pos MT v σ P _ n q) λus R (vs,T,j,r,z,)=>(j.kIn,?_,)) b d;calc zi (us:=.ref a :: us) (vs:=.ref a :: vs) F D J B j (.cons U r) z
def n6{pl:Sem Bool}(M:AV CX X.prog X.w X.K X.mg X.base k m ps cs)(i:Passes CX X E0)(n:dJ k X.A)(t:PE X o ta)
  (j:eval (.Call (.Attribute o m apos) [] [] pos) X.env=(do
   let d ←eval o X.env
   Gf apos.atName
   let (f,first) ←holding [d] (K6 d m pl)
   Md pos f first (Ey pos<|EX [] X.env) (Lx pos<|Ly [] X.env)):=by rfl) :
  PE X (.Call (.Attribute o m apos) [] [] pos) (Gr cs m ta Cf):=by
 intro MT s σ H Q I h;calc M9 (pl:=pl) (thn (t MT s σ H _ I h) λu B (x,D,b,g,a,p,C,fs,y,r,z,l,q,)=>?_) j;let((f,fd,e,F,v),c):=M p r;subst y;obtain rfl:u=zY.ref a:=g;calc jV b z c e l ?_;calc W.callWith_K0 (first:=[.ref a]) b.kIn e.kp<|zi (us:=[.ref a]) (vs:=[.ref a]) F n v i b (.cons U .nil) q
def oV(M:bu CX X.prog X.w X.K X.mg X.base k x C ps sp)(b:Passes CX X E0)(c:dJ (k+1) X.A)(e:Gl X x)(a:(x == ("__debug__" : Str))=false:=by decide) :
  PE X (.Call (.Name x p) [] [] pos) (tMk C sp Cf):=by
 let(f,fd,M,F,g,d):=M;let h:=Ar (E:=E0) (dvs:=[]) (ds:=[]) (p:=p) (pos:=pos) M F c e d g .nil b a;intro MT s σ H Q I q;calc h MT s σ H Q I q
end
def sY{c A B:Prop} [Decidable c] (a:c)(h:A):if decide c=MQ then A else B:=by rw[MV (MX a)];calc h
def jb{c A B:Prop} [Decidable c] (a:¬ c)(h:B):if decide c=MQ then A else B:=by rw[MU (by rw[MY a];decide)];calc h
def ls0{P:M3 zY->Prop}(h:P []):∀us:M3 zY,⇑us=0->P us:=λus e=>by
 cases us
 .exact h
 .cases e
def lsS{P:M3 zY->Prop}{n:Nat}(h:∀a us,⇑us=n->P (a :: us)):∀us:M3 zY,⇑us=n+1->P us:=λus e=>by
 cases us
 .cases e
 .exact h _ _<|Nat.succ.inj e
def ls1{P:M3 zY->Prop}(h:∀a,P [a]):∀us:M3 zY,⇑us=1->P us:=lsS λa=>ls0 (P:=λv=>P (a :: v))<|h a
def ls2{P:M3 zY->Prop}(h:∀a b,P [a,b]):∀us:M3 zY,⇑us=2->P us:=lsS λa=>ls1 (P:=λv=>P (a :: v))<|h a
def ls3{P:M3 zY->Prop}(h:∀a b c,P [a,b,c]):∀us:M3 zY,⇑us=3->P us:=lsS λa=>ls2 (P:=λv=>P (a :: v))<|h a
def ls4{P:M3 zY->Prop}(h:∀a b c d,P [a,b,c,d]):∀us:M3 zY,⇑us=4->P us:=lsS λa=>ls3 (P:=λv=>P (a :: v))<|h a
def ls5{P:M3 zY->Prop}(h:∀a b c d e,P [a,b,c,d,e]):∀us:M3 zY,⇑us=5->P us:=lsS λa=>ls4 (P:=λv=>P (a :: v))<|h a
def ls6{P:M3 zY->Prop}(h:∀a b c d e f,P [a,b,c,d,e,f]):∀us:M3 zY,⇑us=6->P us:=lsS λa=>ls5 (P:=λv=>P (a :: v))<|h a
def ls7{P:M3 zY->Prop}(h:∀a b c d e f g,P [a,b,c,d,e,f,g]):∀us:M3 zY,⇑us=7->P us:=lsS λa=>ls6 (P:=λv=>P (a :: v))<|h a
def lb1{fd:Le}{ps:M3 Str}(h:∀a,Lg fd ([a],[],)=pure (ps.zip [a])):∀us:M3 zY,⇑us=1->Lg fd (us,[],)=pure (ps.zip us):=ls1 (P:=λus=>Lg fd (us,[],)=pure (ps.zip us)) h
def lb2{fd:Le}{ps:M3 Str}(h:∀a b,Lg fd ([a,b],[],)=pure (ps.zip [a,b])):∀us:M3 zY,⇑us=2->Lg fd (us,[],)=pure (ps.zip us):=ls2 (P:=λus=>Lg fd (us,[],)=pure (ps.zip us)) h
def lb3{fd:Le}{ps:M3 Str}(h:∀a b c,Lg fd ([a,b,c],[],)=pure (ps.zip [a,b,c])):∀us:M3 zY,⇑us=3->Lg fd (us,[],)=pure (ps.zip us):=ls3 (P:=λus=>Lg fd (us,[],)=pure (ps.zip us)) h
def lb4{fd:Le}{ps:M3 Str}(h:∀a b c d,Lg fd ([a,b,c,d],[],)=pure (ps.zip [a,b,c,d])):∀us:M3 zY,⇑us=4->Lg fd (us,[],)=pure (ps.zip us):=ls4 (P:=λus=>Lg fd (us,[],)=pure (ps.zip us)) h
def lb5{fd:Le}{ps:M3 Str}(h:∀a b c d e,Lg fd ([a,b,c,d,e],[],)=pure (ps.zip [a,b,c,d,e])):∀us:M3 zY,⇑us=5->Lg fd (us,[],)=pure (ps.zip us):=ls5 (P:=λus=>Lg fd (us,[],)=pure (ps.zip us)) h
def lb7{fd:Le}{ps:M3 Str}(h:∀a b c d e f g,Lg fd ([a,b,c,d,e,f,g],[],)=pure (ps.zip [a,b,c,d,e,f,g])):∀us:M3 zY,⇑us=7->Lg fd (us,[],)=pure (ps.zip us):=ls7 (P:=λus=>Lg fd (us,[],)=pure (ps.zip us)) h
section
variable{j k:Nat}
def fsc{P:M3 Str}{f:Du}(a:f.kind=.function:=by rfl)(b:f.isCoroutine=false:=by rfl)(c:f.isGenerator=false:=by rfl)(d:N.Nodup:=by decide+kernel)(e:N.take P.length=P:=by rfl)(g:∀x∈P,f.names.lookup x=MO .local\/f.names.lookup x=MO .cell:=by decide+kernel)(h:∀y∈f.names,y.2≠.free:=by decide+kernel):ar N P f:=(a,b,c,d,e,g,h,)
def Fun.okA(F:Fun K x q st f fd)(S:ar N ps (aj st))(c:∀(a:zY)(A:Cm)(outer:M3 Env)(s:Ct)(H:Hp)(vs:M3 V)(Q:VK)(E:XK),dJ k (A.deeper<|envOfC q (aj st) ↥s f a)->sp vs H Q E->∃t,PSs (bj CX0 P w K mg base N q (aj st) f a A outer s H E).nox (i4 st) t/\t { nx:=λ_ H'=>Q .non H',rt:=Q } (start N vs) H)(b:∀vs H Q E,sp vs H Q E->⇑vs=⇑ps:=by intro vs H Q E h;cases h;subst_vars;rfl):aU P w K mg base CX0 (k+1) f fd ps sp:=F.ok S b c
def Fun.okEA(F:Fun K x q st f fd)(S:ar N ps (aj st))(c:∀(a:zY)(A:Cm)(outer:M3 Env)(s:Ct)(H:Hp)(vs:M3 V)(Q:VK)(E:XK),dJ k (A.deeper<|envOfC q (aj st) ↥s f a)->sp vs H Q E->∃t,PSs (cxE P w K mg base N q (aj st) f a A outer s H E) (i4 st) t/\t { nx:=λ_ H'=>Q .non H',rt:=Q } (start N vs) H)(b:∀vs H Q E,sp vs H Q E->⇑vs=⇑ps:=by intro vs H Q E h;cases h;subst_vars;rfl):aU P w K mg base (CX1 P w) (k+1) f fd ps sp:=F.okE S b c
def Callee.up(c:Callee P w K mg base j x ps sp)(h:j<=k:=by decide):Callee P w K mg base k x ps sp:=c.mono h
def bM.up(c:bM P w K mg base j x ps sp)(h:j<=k:=by decide):bM P w K mg base k x ps sp:=c.mono h
def ba.up(c:ba CX P w K mg base j C m ps sp)(h:j<=k:=by decide):ba CX P w K mg base k C m ps sp:=c.mono h
def bu.up(c:bu CX P w K mg base j x C ps sp)(h:j<=k:=by decide):bu CX P w K mg base k x C ps sp:=c.mono h
def du.up(c:du CX P w K mg base j x m ps sp)(h:j<=k:=by decide):du CX P w K mg base k x m ps sp:=c.mono h
inductive GF(K:ac)(x q:Str)(st:E1):Prop
 |mk {f:AE}{fd:Le}(a:ls K B5 x=MO ↑f)(F:Fun K q q st f fd)
inductive MF(K:ac)(C:AE)(x q:Str)(st:E1):Prop
 |mk {f:AE}{fd:Le}(a:wT K (.ref C) x=MO ↑f)(i:W.isFn K (.ref f)=MQ)(F:Fun K x q st f fd)
inductive KF(K:ac)(C:AE)(x q:Str)(st:E1):Prop
 |mk {f:AE}{fd:Le}(a:wT K (.ref C) "__init__" = MO ↑f) (i:W.isFn K (.ref f)=MQ)(m:W.makesIn K C=MQ)(k:Nk K (.ref C)=MQ)(n:ls K B5 x=MO ↑C)(F:Fun K "__init__" q st f fd)
inductive BF(K:ac)(C:AE)(x m q:Str)(st:E1):Prop
 |mk {f:AE}{fd:Le}(s:Nq K (.ref C) "__getattribute__" = MO (MO<|.builtin "type.__getattribute__")) (r:W.readsIn K C (.type "type")=MQ) (a:W.findCls K (.ref C) (.type "type") m=MO (.val<|.ref f)) (n:ls K B5 x=MO ↑C)(F:Fun K m q st f fd)
inductive Zb(P:An)(w:zZ)(K:ac)(mg:Str->Option zY)(base:AU):Prop
 |mk {h:AU}(X:K.In h)(G:h.Ns B5 mg)
def Zb.g(Z:Zb P w K mg base){v:zY}(e:ls K B5 x=MO (MO v)):mg x=MO v:=by cases Z with|mk X G=>calc pp X G e
def mkC(Z:Zb P w K mg base)(h:GF K x q st)(O:∀{f:AE}{fd:Le},Fun K q q st f fd->aU P w K mg base CX0 k f fd ps sp)(b:∀{f:AE}{fd:Le},Fun K q q st f fd->Binds K fd ps []:=by trivial):Callee P w K mg base k x ps sp:=by
 cases h with|mk a F=>calc(_,_,O F,b F,F.kp,Z.g a,)
def mkX(Z:Zb P w K mg base)(h:GF K x q st)(O:∀{f:AE}{fd:Le},Fun K q q st f fd->aU P w K mg base (CX1 P w) k f fd ps sp)(b:∀{f:AE}{fd:Le},Fun K q q st f fd->Binds K fd ps []:=by trivial):bM P w K mg base k x ps sp:=by
 cases h with|mk a F=>calc(_,_,O F,b F,F.kp,Z.g a,)
def mkM(_:Zb P w K mg base)(h:MF K C m q st)(O:∀{f:AE}{fd:Le},Fun K m q st f fd->aU P w K mg base CX k f fd ps sp)(b:∀{f:AE}{fd:Le},Fun K m q st f fd->Binds K fd ps []:=by trivial):ba CX P w K mg base k C m ps sp:=by
 cases h with|mk a i F=>calc(_,_,(a,i,F.kp,),O F,b F,)
def mkK(Z:Zb P w K mg base)(h:KF K C x q st)(O:∀{f:AE}{fd:Le},Fun K "__init__" q st f fd->aU P w K mg base CX k f fd ps sp) (b:∀{f:AE}{fd:Le},Fun K "__init__" q st f fd->Binds K fd ps []:=by trivial):bu CX P w K mg base k x C ps sp:=by
 cases h with|mk a i m k n F=>calc(_,_,(m,a,i,k,),O F,b F,Z.g n,)
def mkB(Z:Zb P w K mg base)(h:BF K C x m q st)(O:∀{f:AE}{fd:Le},Fun K m q st f fd->aU P w K mg base CX k f fd ps sp)(b:∀{f:AE}{fd:Le},Fun K m q st f fd->Binds K fd ps []:=by trivial):du CX P w K mg base k x m ps sp:=by
 cases h with|mk s r a n F=>calc(_,_,_,(s,r,a,F.kp,),O F,b F,Z.g n,)
def gv_mk{v:V}{u:zY}(a:ls K B5 x=MO (MO u))(r:RelV v u):∃u,ls K B5 x=MO (MO u)/\RelV v u:=(u,a,r,)
end
section
variable{k:Nat}{E:XK}
end
def Inv.turnedPair{ch:M3 AE}{T:AE}{x y:V}{u v:zY}(I:Inv X MT σ H s)(h:∀b∈ch,mr X MT H b)(k:∀b o,b ∉ ch->s.heap.get? b=MO o->h'.get? b=MO o)
  (A:s.heap.get? T=MP)(D:H T=MP)(E:Mt h' T u v)(t:RelV x u)(p:RelV y v):Inv X MT σ (upd H T<|.tup [x,y]) { s with heap:=h' }:=by
 let out:∀b u,H b=MO u->b ∉ ch:=λb u e z=>by
  let f:=(h b z).1;rw[f]at e;cases e
 let j:∀{b o},s.heap.get? b=MO o->b≠T:=λe z=>by rw[z,A]at e;cases e
 let a:∀{b u},H b=MO u->b≠T:=λe z=>by rw[z,D]at e;cases e
 let J:=Inv.step (H':=upd H T<|.tup [x,y]) (h':=h') (g':=s.gens) (d':=s.drawn) (t':=s.toks) (ch:=ch) I
  (λb g=>by let(_,i,_,K,G,F):=h b g;exact(K,i,G,F,))
  (λb o _ _ d e _=>k b o d e)
  (λb o _ _ d e _=>(o.slots,k b o d e,))
  (λb o _ e n=>by rw[ay (j e)];exact n)
  (λb o d e=>(o,k b o d e,))
  (λb l e=>by rw[ay (a e)];exact e)
  (λb o w e=>by rw[ay (a e)];exact e)
  (λb ps e=>(#[],by rw[ay (a e),e];simp,))
  (λm C=>by
   let(o,es,L,B,r):=C;calc(o,es,L,k _ o (λz=>?_) B,r,);let(_,i,_):=h _ z;exact i U)
  (λb w e=>by
   by_cases g:b=T
   .subst g;rw[af]at e;cases e;exact(by show 2<=AY;decide,[u,v],.cons t<|.cons p .nil,_,E,U,_,U,)
   .rw[ay g]at e;refine(I.hok b w e).stay (λc z d q=>k c z ?_ q) (λc q=>?_) λc l q=>?_
    .rcases d with z|z
     .rw[z];exact out b w e
     .exact out c _ z
    .rw[ay (a q)];exact q
    .rw[ay (a q)];exact q)
  I.bare
 calc J
def Inv.turnedL{ch:M3 AE}(I:Inv X MT σ H s)(d:∀b∈ch,mr X MT H b)(k:∀b o,b ∉ ch->s.heap.get? b=MO o->h'.get? b=MO o):Inv X MT σ H { s with heap:=h' }:=by
 let out:∀b u,H b=MO u->b ∉ ch:=λb u e z=>by
  let f:=(d b z).1;rw[f]at e;cases e
 let J:=Inv.step (H':=H) (h':=h') (g':=s.gens) (d':=s.drawn) (t':=s.toks) (ch:=ch) I
  (λb l=>by let(_,g,_,v,t,p):=d b l;exact(v,g,t,p,))
  (λb o _ _ a e _=>k b o a e)
  (λb o _ _ a e _=>(o.slots,k b o a e,))
  (λb o _ _ n=>n)
  (λb o a e=>(o,k b o a e,))
  (λb h e=>e) (λb o w e=>e) (λb ps e=>(#[],by rw[e];simp,))
  (λm j=>by
   let(o,es,x,i,r):=j;calc(o,es,x,k _ o (λz=>?_) i,r,);let(_,g,_):=d _ z;exact g U)
  (λb w e=>by
   refine(I.hok b w e).stay (λc z a q=>k c z ?_ q) (λc q=>q) λc h q=>q
   rcases a with z|z
   .rw[z];exact out b w e
   .exact out c _ z)
  I.bare
 calc J
def  Itz(K:ac)(a b:AE):It :=
 (λi H=>∃d c x y,SqL K H a d/\SqL K H b c/\d[i]?=MO x/\c[i]?=MO y,
 λi H v e=>∃T,H T=MP/\v=.ref T/\∀d c x y,SqL K H a d->SqL K H b c->d[i]?=MO x->c[i]?=MO y->e=upd H T (.tup [x,y]),
 λi H=>∃d c,SqL K H a d/\SqL K H b c/\(⇑d<=i\/⇑c<=i),)
def  DK(z TI TO d c a b:AE)(i:Nat)(h:AU):Prop:=IsZip h z TI TO .none/\Mt h TI (.ref d) (.ref c)/\(∃p q,Mt h TO p q)/\h.IsListIter d a i/\h.IsListIter c b i
def AW{P:An}{w:zZ}{K:ac}{t:M3 Ej} {x1} {tp:Pos}{z TI TO r n a b:AE}(D:Mu z TI TO r n a b) :
  Turn P w K (.Tuple t x1 tp) (Itz K a b) [z,TI,TO,r,n] z (DK z TI TO r n a b) where
 mem:=by simp
 obj:=λi h st c d=>by
  let(m,f,(p,q,l),(o4,j,_,d4),(o5,g,_,d5)):=st;simp only[cZ,gx,or_false]at d;rcases d with rfl|rfl|rfl|rfl|rfl
  .exact⟨_,m,λv q=>nomatch q⟩
  .exact⟨_,f,λv q=>nomatch q⟩
  .exact⟨_,l,λv q=>nomatch q⟩
  .exact⟨_,j,λv q=>by rw[d4]at q;cases q⟩
  .exact⟨_,g,λv q=>by rw[d5]at q;cases q⟩
 keep:=λi h h' st k=>by
  let(m,f,(p,q,l),j,g):=st;exact(k z (by simp) _ m,k TI (by simp) _ f,(p,q,k TO (by simp) _ l,),j.at λo e=>k r (by simp) o e,g.at λo e=>k n (by simp) o e,)
 item:=by
  intro X Q M R d i MT s σ H E I C st O;subst Q M R;let(xs,ys,x,y,B,A,ex,ey):=O;let(m,f,(p,q,l),j,g):=st;let(us,G,L,_):=I.list B;let(vs,F,pv,_):=I.list A;let(u,eu,r1):=G.get ex;let(v,ev,r2):=F.get ey;refine Mv D m f l j g L.isList pv.isList (x:=u) (y:=v) (~~~eu) (~~~ev) λh1 a1 a2 a3 a4 a5 a6 a7=>?_
  calc(_,U,wpAny_letOwnedTupleGo_zip (s:={ s with heap:=h1 }) a1 λS b1 b2=>?_,);let nT:s.heap.get? ↥s=none:=by
   cases q:s.heap.get? ↥s with
   |none=>rfl
   |some o=>exact MW (bn q) (sh _)
  let hT:H ↥s=none:=I.hok.fresh<|pT _;let nz:↥s≠z:=rG<|bn m;let kk:∀c o,c ∉ [z,TO,r,n]->s.heap.get? c=MO o->S.get? c=MO o:=λc o d e=>by
   simp only[cZ,gx,or_false,not_or]at d;exact b2.extBut _ _ d.1<|a7 c o d.1 d.2.1 d.2.2.1 d.2.2.2 e
  let J:=I.turnedPair (h':=S) (ch:=[z,TO,r,n]) (T:=↥s) (x:=x) (y:=y) (u:=u) (v:=v) (λc d=>C c (by simp at d⊢;rcases d with e|e|e|e <;> simp[e])) kk nT hT (b2.extBut _ _ nz a5) r1 r2;refine(.ref ↥s,upd H ↥s<|.tup [x,y],J,U,(_,hT,U,λb0 a8 x' y' q1 q2 Y V=>?_,),(b1,b2.extBut _ _ D.TIz<|a7 TI _ D.TIz D.TITO D.TIi1 D.TIi2 f,(_,_,b2.extBut _ _ D.TOz a2,),a3.extBut b2.extBut D.i1z,a4.extBut b2.extBut D.i2z,),λc d=>?_,)
  .rw[I.list_inj q1 B]at Y;rw[I.list_inj q2 A]at V;rw[ex]at Y;rw[ey]at V;cases Y;cases V;rfl
  .let h0:=(C c d).1;let:c≠↥s:=by
    let(o4,a0,_):=j;let(o5,Z,_):=g;simp only[cZ,gx,or_false]at d;rcases d with rfl|rfl|rfl|rfl|rfl
    .exact nz.symm
    .exact qo<|bn f
    .exact qo<|bn l
    .exact qo<|bn a0
    .exact qo<|bn Z
   rw[ay this];exact h0
 done:=by
  intro X Q M R d i MT s σ H E I C st O;subst Q M R;let(xs,ys,B,A,N):=O;let(m,f,(p,q,l),j,g):=st;let(us,G,L,_):=I.list B;let(vs,F,pv,_):=I.list A;let l1:=G.length;let l2:=F.length;refine Mw (I.ok.hd d) D m f l j g L.isList pv.isList ?_ λS k=>⟨U,I.turnedL (ch:=[z,TO,r,n]) (λc d=>C c (by simp at d⊢;rcases d with e|e|e|e <;> simp[e])) λc o d e=>?_⟩
  .rcases N with N|N
   .exact .inl (by simp;lia)
   .exact .inr (by simp;lia)
  .simp only[cZ,gx,or_false,not_or]at d;exact k c o d.1 d.2.1 d.2.2.1 d.2.2.2 e
 self:=λ_ _ _ _ _ st h=>Mx st.1 h
inductive DL(K:ac)(R:It->O0)(vs:M3 V)(H1:Hp):Prop
 |mk (a b:_)(_:vs=[.ref a,.ref b])(_:(∃xs,SqL K H1 a xs))(_:(∃ys,SqL K H1 b ys))(_:R (Itz K a b) H1)
def  HU(K:ac)(ta:TA):TI:=λσ H R=>ta σ H λa b=>DL K R a b
def ud{k e:Ej}{ta:TA}{p pos:Pos}{j:M3 Ej} {x1} {tp:Pos}(L:Gl X "zip") (hm:X.mg "zip" = MP) (M:PA X [k,e] ta)
  (J:EX [k,e] X.env=[(MR,eval k X.env),(MR,eval e X.env)]:=by rfl)(g:EX [e] X.env=[(MR,eval e X.env)]:=by rfl) :
  PI X (.Tuple j x1 tp) (.Call (.Name "zip" p) [k,e] [] pos) (HU X.K ta):=by
 intro MT s σ H R I h;refine Call_ (jS I L hm NW<|v4 (thn (M pos MT s σ H _ I h) λA d (z,P,f,D,G,)=>?_) (by rw[J,g]) (by rw[g];rfl));let(a,b,rfl,(T,F),(S,E),q):=G;let(u,v,rfl,C,B):=D.two;cases (show u=zY.ref a from C);cases (show v=zY.ref b from B);let(A,_,l,_):=f.list F;let(z,_,pv,_):=f.list E;let(W,O,_):=id l.isList;let(V,N,_):=id pv.isList;let n:a<↥d:=bn O;let m:b<↥d:=bn N;refine call_zip_2 l.isList pv.isList λh' z1 y x w t Q r=>?_
 calc Mx (s:={ d with heap:=h' }) z1 ?_;refine(↥d+4,[↥d+4,↥d+2,↥d+3,↥d,↥d+1],DK (↥d+4) (↥d+2) (↥d+3) ↥d (↥d+1) a b,Itz X.K a b,P,U,f.kept (t':=d.toks) r,AW ?_,(z1,y,(_,_,x,),w,t,),λc o=>?_,q,)
 .refine(?_,?_,?_,?_,?_,?_,?_,?_,?_,?_,?_,?_,?_,?_,?_,?_,?_,?_,) <;> first|exact qo ∅|exact rG ∅|exact qo n|exact qo m|exact qo (ri n<|sL _ _)|exact qo (ri m<|sL _ _)
 .let i:↥d<=c:=by
   simp only[cZ,gx,or_false]at o;rcases o with rfl|rfl|rfl|rfl|rfl <;> lia
  calc f.fpOk i<|f.hok.fresh i
def yv{K:ac}{a b:AE}{xs ys:M3 V}{g:TG}{tb:TS}{D:Ends}{σ:St}{H:Hp}(c:Nat->OZ)(w:c 0 σ H)(t:∀i σ H,c i σ H->SqL K H a xs/\SqL K H b ys)
  (s:∀i x y σ H T,xs[i]?=MO x->ys[i]?=MO y->c i σ H->H T=MP->g (.ref T) σ (upd H T<|.tup [x,y]) λd n=>tb { D with nx:=c<|i+1,ct:=c<|i+1,bk:=D.nx } d n)
  (hd:∀σ H,c (min ⇑xs ⇑ys) σ H->D.nx σ H) :
  ∃W:Nat->Nat->OZ,(∃m,W 0 m σ H)/\∀i m σ H,W i m σ H ->
   ((Itz K a b).stop i H/\D.nx σ H)\/((Itz K a b).go i H/\∃N:OZ,(∀f H',N f H'->∃o,o<m/\W (i+1) o f H')/\∀x H',(Itz K a b).yld i H x H'->g x σ H' λd n=>tb { D with nx:=N,ct:=N,bk:=D.nx } d n):=by
 refine(λi m σ H=>m=min ⇑xs ⇑ys-i/\i<=min ⇑xs ⇑ys/\c i σ H,(min ⇑xs ⇑ys,by simp,rE _,w,),?_,);rintro i m σ H ⟨rfl,hi,p⟩;let(j,h):=t i σ H p;by_cases lt:i<min ⇑xs ⇑ys
 .let l:xs[i]?=MO xs[i]:=KG ∅;let k:ys[i]?=MO ys[i]:=KG ∅;refine .inr ((xs,ys,_,_,j,h,l,k,),c<|i+1,λf H' r=>(_,?_,U,lt,r,),λv H' q=>?_,)
  .lia
  .let(T,u,rfl,e):=q;rw[e xs ys _ _ j h l k];exact s i _ _ σ H T l k p u
 .let e:i=min ⇑xs ⇑ys:=∅
  subst e;calc .inl ((xs,ys,j,h,∅,),hd σ H p,)
def mR{X:Cx}{K:ac}(h:X.K=K):iM X (.type "list") (λxs H Q=>∃p ys,xs=[.ref p]/\(SqL K H p ys\/SqT K H p ys)/\∀l,H l=MP->Q (.ref l) (upd H l<|.lst ys)):=h ▸ fA
set_option maxRecDepth 100000
abbrev m4(h:AU)(z TI TO a:AE)(b:Bool):Prop :=
 h.get? z=MO { cls:=.type "zip",dict:=MP,data:=.fields #[KR a,.bool b,.bool MR,.ref TI,.ref TO],slots:=#[] }
def n8{a:AE}{Q:Option Obj->Ct->Prop}(h:Q (s.heap.get? a) s):D8 (model prog w) A (loadIfAlive a) Q E s:=λ_ _ _=>h
def sZ{z TI TO a:AE}{b:Bool}{o:Obj}{Q:Bool->Ct->Prop}(hz:m4 s.heap z TI TO a b)(d:s.heap.get? a=MO o)
  (h:∀h',m4 h' z TI TO a MQ->Gc z s.heap h'->Q MR { s with heap:=h' }):D8 (model prog w) A (xL<|.ref z) Q E s:=by
 unfold xL;calc zb<|L3 hz U (x:=KR a) U ?_;show D8 _ _ (loadIfAlive ((a:Int).toNat) >>= _) _ _ _;calc zb<|n8 ?_;rw[vr,d];simp only[Option.isNone_some,wq,if_false];calc zb<|L3 hz U (x:=.bool b) U ?_;cases b with
 |true =>
  rw[MU (by simp)];calc zp ?_;let e:s={ s with heap:=s.heap }:=by cases s;rfl
  rw[e];exact h s.heap hz<|AU.SameBut.refl z s.heap
 |false =>
  rw[MV ⋯];refine zb (wpAny_setField_rec hz (by simp) λf g c=>?_);calc zp<|h f g c
def zw{z TI TO u i p q t:AE}{W:Bool}{k1 k2:Nat}{xs ys:Array zY}{x y a b:zY}{o:Obj}{Q:Option zY->Ct->Prop}(D:Mu z TI TO i p q t)
  (hz:m4 s.heap z TI TO u W)(G:s.heap.get? u=MO o)(C:Mt s.heap TI (.ref i) (.ref p))(X:Mt s.heap TO a b)
  (R:s.heap.IsListIter i q k1)(P:s.heap.IsListIter p t k2)(B:s.heap.IsList q xs)(v:s.heap.IsList t ys)(N:xs[k1]?=MO x)(M:ys[k2]?=MO y)
  (O:∀h',m4 h' z TI TO u MQ->h'.IsListIter i q (k1+1)->h'.IsListIter p t (k2+1)->Mt h' ↥s x y->h'.objs.size=↥s+1 ->
   (∀c o,c≠z->c≠i->c≠p->s.heap.get? c=MO o->h'.get? c=MO o)->Q (MO<|.ref ↥s) { s with heap:=h' }) :
  D8 (model prog w) A (KO<|.ref z) Q E s:=by
 let H:s.TypeIs (.ref z) "zip" := (_,hz,U,);unfold KO;calc zb<|Mq<|Mz (name:=s!"__next__") H ND<|LY ND H F.entry_zip_next ?_<|F.args_zip_next_1 _;show D8 _ _ (field (.ref z) 2 >>= _) _ _ _;calc zb<|L3 hz U (x:=.bool MR) U ?_;show D8 _ _ (field (.ref z) 3 >>= _) _ _ _;calc zb<|L3 hz U (x:=.ref TI) U ?_;calc zb<|MA C U ?_;show D8 _ _ (xL (.ref z) >>= _) _ _ _;calc zb<|sZ hz G λK k d=>?_;simp only[wq,if_false];calc zb ?_;rw[←OH];simp only[nq,List.forIn_nil];calc zb<|zb<|zz ?_;show D8 _ _ (IR (.ref i) >>= _) _ _ _;calc zb<|MB (R.extBut d.extBut D.i1z) (B.extBut d.extBut D.l1z) N λJ n g=>zp ?_;calc zp ?_;dsimp only;calc zb<|zb<|zz ?_;show D8 _ _ (IR (.ref p) >>= _) _ _ _;calc zb<|MB ((P.extBut d.extBut D.i2z).extBut g.extBut D.i12.symm) ((v.extBut d.extBut D.l2z).extBut g.extBut D.l2i1) M λf l h=>zp ?_;calc zp ?_;dsimp only;calc zp ?_;refine zb (LW ?_ (by show 2<=AY;decide));let r:f.objs.size=↥s:=by rw[h.1,g.1,d.1]
 calc zp (_,U,zp ?_,);show Q ↑f.objs.size _;let j:m4 f z TI TO u true:=h.extBut _ _ D.i2z.symm<|g.extBut _ _ D.i1z.symm k;let m:f.IsListIter i q (k1+1):=n.extBut h.extBut D.i12;let I:(f.push { cls:=.type "tuple",data:=.seq #[x,y] }).get? f.objs.size=MO { cls:=.type "tuple",data:=.seq #[x,y] }:=ii _ U;let L:(f.push { cls:=.type "tuple",data:=.seq #[x,y] }).objs.size=↥s+1:=by rw[Da,r]
 rw[r]at I⊢;calc O _ (am _ j) (m.at λo e=>am _ e) (l.at λo e=>am _ e) I L λc o V T S e=>am _<|h.extBut _ _ S<|g.extBut _ _ T<|d.extBut _ _ V e
def AX{z TI TO N j i p n:AE}{W:Bool}{k1 k2:Nat}{xs ys:Array zY}{a b:zY}{o:Obj}{Q:Option zY->Ct->Prop}(J:A.handled=MP)(D:Mu z TI TO j i p n)
  (hz:m4 s.heap z TI TO N W)(G:s.heap.get? N=MO o)(C:Mt s.heap TI (.ref j) (.ref i))(Y:Mt s.heap TO a b)
  (L:s.heap.IsListIter j p k1)(V:s.heap.IsListIter i n k2)(l:s.heap.IsList p xs)(y:s.heap.IsList n ys)(X:xs[k1]?=MP\/ys[k2]?=MP)
  (S:∀h',(∀c o,c≠z->c≠j->c≠i->s.heap.get? c=MO o->h'.get? c=MO o)->Q MP { s with heap:=h' }) :
  D8 (model prog w) A (KO<|.ref z) Q E s:=by
 let K:s.TypeIs (.ref z) "zip" := (_,hz,U,);unfold KO;calc zb<|Mq<|Mz (name:=s!"__next__") K ND<|LY ND K F.entry_zip_next ?_<|F.args_zip_next_1 _;show D8 _ _ (field (.ref z) 2 >>= _) _ _ _;calc zb<|L3 hz U (x:=.bool MR) U ?_;show D8 _ _ (field (.ref z) 3 >>= _) _ _ _;calc zb<|L3 hz U (x:=.ref TI) U ?_;calc zb<|MA C U ?_;show D8 _ _ (xL (.ref z) >>= _) _ _ _;calc zb<|sZ hz G λP H d=>?_;simp only[wq,if_false];calc zb ?_;rw[←OH];simp only[nq,List.forIn_nil];calc zb<|zb<|zz ?_;show D8 _ _ (IR (.ref j) >>= _) _ _ _
 let fin:∀h' e,(∀c o,c≠z->c≠j->c≠i->s.heap.get? c=MO o->h'.get? c=MO o)->(∃o,h'.get? e=MO o/\o.cls=.type "StopIteration") ->
   D8 (model prog w) A (do if ←isInstance (.ref e) (.type "StopIteration")then pure MP else throw (.ref e)) Q E { s with heap:=h' }:=λh' e k (oe,v,B,)=>by
  calc zb<|wpAny_isInstance (T := "StopIteration") (b:=MQ) (oe,v,B,) isSubtype_stop ?_;exact zp<|S _ k
 cases hx:xs[k1]? with
 |none =>
  calc zb<|MC J (L.extBut d.extBut D.i1z) (l.extBut d.extBut D.l1z) hx λm e f r=>?_;exact fin _ _ (λc o u t M q=>f _ _ t<|d.extBut _ _ u q) r
 |some x =>
  let R:ys[k2]?=none:=by rcases X with h|h;rw[hx]at h;cases h;exact h
  calc zb<|MB (L.extBut d.extBut D.i1z) (l.extBut d.extBut D.l1z) hx λm I f=>zp ?_;calc zp ?_;dsimp only;calc zb<|zb<|zz ?_;show D8 _ _ (IR (.ref i) >>= _) _ _ _;calc zb<|MC J ((V.extBut d.extBut D.i2z).extBut f.extBut D.i12.symm) ((y.extBut d.extBut D.l2z).extBut f.extBut D.l2i1) R λO e g r=>?_;calc fin _ _ (λc o u t M q=>g _ _ M<|f.extBut _ _ t<|d.extBut _ _ u q) r
section
variable{R:K7->Ct->Prop}
def neA{a T:AE}{N:Nat}(h:a<N)(h':N<=T):T≠a:=rG<|ri h h'
def  DM(h:AU)(z TI TO:AE)(N:Nat)(i:Nat):Prop:=(i=0/\IsZip h z TI TO .none)\/∃a b o,N<=a/\a≠z/\m4 h z TI TO a b/\h.get? a=MO o/\o.cls=.type "tuple"
def xo{z TI TO B v K J S:AE}{xs ys:Array zY}{res:zY}(hh:A.handled=MP)(D:Mu z TI TO B v K J)(N:Nat)(hz:z<N)(c4:TI<N)(a8:TO<N)(V:B<N)(Q:v<N)(c3:K<N)(c2:J<N)(hS:S<N)
  (m:S≠z/\S≠TI/\S≠TO/\S≠B/\S≠v/\S≠K/\S≠J)(hn:min xs.size ys.size<=AY) :
  ∀(d i:Nat)(s:Ct)(l:Array zY)(c:Nat)(I:M3 AE),min xs.size ys.size=i+d->N<=↥s->DM s.heap z TI TO N i->Mt s.heap TI (.ref B) (.ref v)->(∃a b,Mt s.heap TO a b) ->
   s.heap.IsListIter B K i->s.heap.IsListIter v J i->s.heap.IsList K xs->s.heap.IsList J ys->s.heap.get? S=MO { cls:=.type "list",dict:=MP,data:=.seq l c,slots:=#[] } ->
   l.toList=I.map zY.ref->I.length=i->I.Nodup->(∀(j:Nat)(T:AE),I[j]?=MO T->N<=T/\∃x y,xs[j]?=MO x/\ys[j]?=MO y/\Mt s.heap T x y) ->
   (∀(h':AU)(CA:Array zY)(X:Nat)(n:M3 AE),(∀b o,b<N->b≠S->b≠z->b≠TO->b≠B->b≠v->s.heap.get? b=MO o->h'.get? b=MO o)->h'.get? S=MO { cls:=.type "list",dict:=MP,data:=.seq CA X,slots:=#[] } ->
    CA.toList=n.map zY.ref->⇑n=min xs.size ys.size->n.Nodup->(∀(j:Nat)(T:AE),n[j]?=MO T->N<=T/\∃x y,xs[j]?=MO x/\ys[j]?=MO y/\Mt h' T x y)->R (.ok<|.ret res) { s with heap:=h' }) ->
   K8 (model prog w) A (.builtin "list.extend.loop" ([.ref S,.ref z,res],[],)) R s:=by
 intro d;induction d with
 |zero =>
  intro i s l c I e hN r W (a,b,p2,) t1 t2 q1 q2 g ea el nd hts fin;calc Mg F.entry_extend_loop ?_;rw[GM Nd _];show D8 _ A.in1 (KO (.ref z) >>= _) _ _ s;let Cz:xs[i]?=MP\/ys[i]?=none:=by
   by_cases hx:xs.size<=i
   .exact .inl<|Ol hx
   .exact .inr<|Ol ∅
  let O:∀h',(∀b o,b≠z->b≠TO->b≠B->b≠v->s.heap.get? b=MO o->h'.get? b=MO o)->R (.ok<|.ret res) { s with heap:=h' }:=λh' k=>by
   refine fin h' l c I (λb o _ _ b1 b2 M L q=>k b o b1 b2 M L q) (k S _ m.1 m.2.2.1 m.2.2.2.1 m.2.2.2.2.1 g) ea ∅ nd λj T C=>?_
   let(h,x,y,P,G,E):=hts j T C;exact(h,x,y,P,G,k T _ (neA hz h) (neA a8 h) (neA V h) (neA Q h) E,)
  rcases r with⟨_,r⟩|⟨Z,bb,o,H,_,r,gT,_⟩
  .exact zb<|Mw (by simp[hh]) D r W p2 t1 t2 q1 q2 Cz λh' k=>zp<|O h' k
  .exact zb<|AX (by simp[hh]) D r gT W p2 t1 t2 q1 q2 Cz λh' k=>zp<|O h' λb o b1 _ M L q=>k b o b1 M L q
 |succ d ih =>
  intro i s l c I e hN r W (a,b,p2,) t1 t2 q1 q2 g ea el nd hts fin;let ix:i<xs.size:=∅
  let iy:i<ys.size:=∅
  calc Mg F.entry_extend_loop ?_;rw[GM Nd _];show D8 _ A.in1 (KO (.ref z) >>= _) _ _ s;let a0:l.size=i:=by rw[←w5,ea,bQ,el]
  let go:∀h',DM h' z TI TO N (i+1)->(∃a b,Mt h' TO a b)->h'.IsListIter B K (i+1)->h'.IsListIter v J (i+1)->Mt h' ↥s xs[i] ys[i]->h'.objs.size=↥s+1 ->
    (∀b o,b≠z->b≠TO->b≠B->b≠v->s.heap.get? b=MO o->h'.get? b=MO o) ->
    D8 (model prog w) A.in1 (MD S (·.push (.ref ↥s)) >>= λ_=>again<|.builtin "list.extend.loop" ([.ref S,.ref z,res],[],))
     (λfin s'=>match fin with | .done f=>R (.ok f) s' | .again X=>X.quiet=MQ/\K8 (model prog w) A X R s') (λe s'=>R (.error e) s') { s with heap:=h' }:=λh' z1 z2 z3 z4 z5 z6 k=>by
   let gS:h'.get? S=MO { cls:=.type "list",dict:=MP,data:=.seq l c,slots:=#[] }:=k S _ m.1 m.2.2.1 m.2.2.2.1 m.2.2.2.2.1 g;refine zb (ME gS U ?_ (by rw[a0];lia) (by show(l.push _).size<=AY+1;rw[Array.size_push,a0];lia));let gU:=wf (on (·.push (zY.ref ↥s))) gS U;generalize hH:h'.update S (on (·.push (zY.ref ↥s)))=h2 at gU⊢;let sb:Gc S h' h2:=hH ▸ AU.SameBut.update ..;let p:∀b o,b≠S->h'.get? b=MO o->h2.get? b=MO o:=λb o hb q=>(sb.2 b hb).trans q
   let c0:h2.objs.size=↥s+1:=by rw[sb.1,z6]
   refine zp (Mh Nd _,ih (i+1) { s with heap:=h2 } (l.push<|.ref ↥s) _ (I++[↥s]) ∅ (by rw[c0];lia) ?_ (p TI _ m.2.1.symm<|k TI _ D.TIz D.TITO D.TIi1 D.TIi2 W) ?_ (z3.at λo q=>p B o m.2.2.2.1.symm q) (z4.at λo q=>p v o m.2.2.2.2.1.symm q)
    ((q1.at λo q=>k K o D.l1z D.l1TO D.l1i1 D.l1i2 q).at λo q=>p K o m.2.2.2.2.2.1.symm q) ((q2.at λo q=>k J o D.l2z D.l2TO D.l2i1 D.l2i2 q).at λo q=>p J o m.2.2.2.2.2.2.symm q) gU (by rw[xf,ea,dy];rfl) (by simp[el]) ?_ (λj T C=>?_) λh3 CA X n k3 g3 e3 l3 n3 f3=>?_,)
   .rcases z1 with⟨z',_⟩|⟨Z,bb,o,h,P,G,E,Y⟩
    .exact MW z' ∅
    .exact .inr (Z,bb,o,h,P,p z _ m.1.symm G,p Z _ (neA hS h) E,Y,)
   .let(a',b',q):=z2;exact(a',b',p TO _ m.2.2.1.symm q,)
   .rw[nk];refine(nd,by simp,λt ht u hu=>?_,);let eu:u=↥s:= ~~~hu
    let(j,C):=Ou.mp ht;let(_,x,y,_,_,gp):=hts j t C;let:=bn gp;exact λq=>sh _ (by rw[q,eu]at this;exact this)
   .rw[List.getElem?_append]at C;split at C
    .let(h,x,y,P,G,E):=hts j T C;exact(h,x,y,P,G,p T _ (neA hS h)<|k T _ (neA hz h) (neA a8 h) (neA V h) (neA Q h) E,)
    .rename_i hlt
     have c1:j=i:=by
      let(q,_):=KH.mp C;simp at q;lia
     subst c1;rw[el,ve]at C;let eT:↥s=T:= ~~~C
     subst eT;exact(hN,xs[j],ys[j],xc ix,xc iy,p _ _ (neA hS hN) z5,)
   .exact fin h3 CA X n (λb o b0 bS b1 b2 M L q=>k3 b o b0 bS b1 b2 M L<|p b o bS<|k b o b1 b2 M L q) g3 e3 l3 n3 f3
  rcases r with⟨_,r⟩|⟨Z,bb,o,H,Gs,r,gT,cT⟩
  .refine zb<|Mv D r W p2 t1 t2 q1 q2 (x:=xs[i]) (y:=ys[i]) (xc ix) (xc iy) λh' h P G E Y a6 a7=>?_;exact go h' (.inr (↥s,MR,_,hN,rG<|ri hz hN,h,Y,U,)) (_,_,P,) G E Y a6 a7
  .refine zb<|zw D r gT W p2 t1 t2 q1 q2 (x:=xs[i]) (y:=ys[i]) (xc ix) (xc iy) λh' h G E Y a6 a7=>?_;calc go h' (.inr (Z,MQ,o,H,Gs,h,a7 Z o Gs (neA V H) (neA Q H) gT,cT,)) (_,_,a7 TO _ D.TOz D.TOi1 D.TOi2 p2,) G E Y a6 λb o b1 _ M L q=>a7 b o b1 M L q
end
set_option maxRecDepth 100000
def xp:Lq (.type "zip") "__len__" = pure none:=by rw[MG,MH];kernel_rfl
def vD:Lq (.type "zip") "__length_hint__" = pure none:=by rw[MG,MH];kernel_rfl
def rR{z TI TO n m J I:AE}{xs ys:Array zY}{Q:zY->Ct->Prop}(hh:A.handled=MP)(D:Mu z TI TO n m J I)(H:IsZip s.heap z TI TO .none)(W:Mt s.heap TI (.ref n) (.ref m))(V:Mt s.heap TO .none .none)
  (t1:s.heap.IsListIter n J 0)(P:s.heap.IsListIter m I 0)(S:s.heap.IsList J xs)(R:s.heap.IsList I ys)(hn:min xs.size ys.size<=AY)
  (h:∀(h':AU)(i:Array zY)(c:Nat)(l:M3 AE),(∀b o,b≠z->b≠TO->b≠n->b≠m->s.heap.get? b=MO o->h'.get? b=MO o)->h'.get? ↥s=MO { cls:=.type "list",dict:=MP,data:=.seq i c,slots:=#[] } ->
   i.toList=l.map zY.ref->⇑l=min xs.size ys.size->l.Nodup->(∀(j:Nat)(T:AE),l[j]?=MO T->↥s+1<=T/\∃x y,xs[j]?=MO x/\ys[j]?=MO y/\Mt h' T x y)->Q (.ref ↥s) { s with heap:=h' }) :
  D8 (model prog w) A (call (.type "list") [.ref z]) Q E s:=by
 let M:z<↥s:=bn H;let C:TI<↥s:=bn W;let B:TO<↥s:=bn V;let v:n<↥s:=let ⟨_,e,_⟩:=t1;bn e;let u:m<↥s:=let ⟨_,e,_⟩:=P;bn e;let t:J<↥s:=let ⟨_,e,_⟩:=S;bn e;let r:I<↥s:=let ⟨_,e,_⟩:=R;bn e
 refine MI (Q₁:=λobj k=>obj=.ref ↥s/\k={ s with heap:=s.heap.push { cls:=.type "list",data:=.seq #[] } }) F.called_list (F.typeCall_list_1 _) F.entry_list_init
  (code_list_new _ (U,U,)) λobj k G=>?_
 let(rfl,rfl):=G;let L:(s.heap.push { cls:=.type "list",data:=.seq #[] }).get? ↥s=MO { cls:=.type "list",data:=.seq #[] }:=ii _ U;calc((_,L,U,),F.args_list_init_2 _ _,?_,);show D8 _ _ (do let O ←Ox (.ref ↥s);KY.List.listUpdate (.ref ↥s) (λ_=>#[]);letGo O.toList.reverse;Np (.ref ↥s) (.ref z) .none) _ _ _;calc zb ?_;unfold Ox;calc zb<|MA L U<|zp ?_;show D8 _ _ (MD ↥s (λ_=>#[]) >>= λ_=>letGo (#[]:Array zY).toList.reverse >>= λ_=>Np (.ref ↥s) (.ref z) .none) _ _ _;calc zb<|ME L U ?_;let a:=wf (on<|λ_=>(#[]:Array zY)) L U;calc zb<|wpAny_letGo ?_;let K:∀b o,s.heap.get? b=MO o->((s.heap.push { cls:=.type "list",data:=.seq #[] }).update ↥s<|on<|λ_=>(#[]:Array zY)).get? b=MO o:=λb o e =>
  (sK _ _<|rG<|bn e).trans (am _ e)
 let q:((s.heap.push { cls:=.type "list",data:=.seq #[] }).update ↥s<|on<|λ_=>(#[]:Array zY)).objs.size=↥s+1:=by rw[wE,Da]
 generalize (s.heap.push { cls:=.type "list",data:=.seq #[] }).update ↥s (on<|λ_=>(#[]:Array zY))=hA at a K q⊢;let N:Ct.TypeIs { s with heap:=hA } (.ref z) "zip" := (_,K _ _ H,U,);unfold Np;calc zb<|MJ N ?_;let h1:Oo (.ref ↥s) (.ref z)=false:=by simp[Oo];exact rG M
 let h2:(zY.type "zip" == zY.type "list")=false:=⋯
 let h3:(zY.type "zip" == zY.type "tuple")=false:=⋯
 simp only[h1,h2,h3,Db,wq,if_false];calc zb<|Mx (s:={ s with heap:=hA }) (K _ _ H) ?_;calc zb<|zz ?_;unfold KY.List.listLengthHint;calc zb<|MK N xp ?_;show D8 _ _ (specialOf (zY.ref z) s!"__length_hint__" >>= _) _ _ _;calc zb<|MK N vD ?_;calc zp ?_;show D8 _ _ (rule "list.extend.makes-room" >>= λ_=>KY.List.listTouch (.ref ↥s) >>= λ_ =>
  again (.builtin "list.extend.loop" ([.ref ↥s,.ref z,.none],[],))) _ _ _
 calc zb<|wpAny_rule ?_;calc zb ?_;show D8 _ _ (MD ↥s (·.push .none) >>= λ_=>MD ↥s (·.pop)) _ _ _;calc zb<|ME (s:={ s with heap:=hA }) a U ?_;let f:=wf (on (·.push zY.none)) a U;refine ME (hz:=by seq_fits) f U ?_;let d:=wf (on (·.pop)) f U;let g:∀b o,s.heap.get? b=MO o->((hA.update ↥s (on (·.push zY.none))).update ↥s (on (·.pop))).get? b=MO o :=
  λb o e=>(sK _ _<|rG<|bn e).trans<|(sK _ _<|rG<|bn e).trans<|K b o e
 let p:((hA.update ↥s (on (·.push zY.none))).update ↥s (on (·.pop))).objs.size=↥s+1:=by rw[wE,wE,q]
 generalize (hA.update ↥s (on (·.push zY.none))).update ↥s (on (·.pop))=hB at d g p⊢
 refine zp (Mh Nd _,xo (by simp[hh]) D (↥s+1) (rJ M) (rJ C) (rJ B) (rJ v) (rJ u) (rJ t) (rJ r) (so _)
  (rG M,rG C,rG B,rG v,rG u,rG t,rG r,) hn (min xs.size ys.size) 0 { s with heap:=hB } #[] _ [] (Ny _).symm (by rw[p];exact pT _)
  (.inl (U,g _ _ H,)) (g _ _ W) (_,_,g _ _ V,) (t1.at λo e=>g _ _ e) (P.at λo e=>g _ _ e) (S.at λo e=>g _ _ e) (R.at λo e=>g _ _ e) d U U mD (λj T hj=>by simp at hj) λh' i c l Z g3 e3 Y X f3=>?_,)
 exact(U,h h' i c l (λb o b1 b2 b3 b4 e=>Z b o (rJ<|bn e) (qo<|bn e) b1 b2 b3 b4<|g b o e) g3 e3 Y X f3,)
set_option maxRecDepth 100000
section
variable{H':Hp}
def Inv.grow{s':Ct}(I:Inv X MT σ H s)(k:∀b o,s.heap.get? b=MO o->s'.heap.get? b=MO o)(l:s'.gens=s.gens)(d:s'.os=s.os)(a:∀b,b<↥s->H' b=H b)
  (t:∀b u,↥s<=b->H' b=MO u->eK X.prog X.w H' s'.heap b u):Inv X MT σ H' s':=by
 let(h',g',d',t',h):=s';obtain rfl:g'=s.gens:=l;obtain rfl:h=s.os:=d;let lt:∀{b u},H b=MO u->b<↥s:=λ{b u} e=>by
  rcases tN b ↥s with z|z
  .exact z
  .rw[I.hok.fresh z]at e;cases e
 let same:∀{b u},H b=MO u->H' b=MO u:=λe=>by rw[a _ (lt e)];exact e
 exact I.step (h':=h') (g':=s.gens) (d':=d') (t':=t') (ch:=[]) (λ_ z=>nomatch z) (λb o _ _ _ e _=>k b o e) (λb o _ _ _ e _=>(o.slots,k b o e,))
  (λb o _ e n=>by rw[a _ (bn e)];exact n) (λb o _ e=>(o,k b o e,)) (λb f e=>same e) (λb o u e=>same e) (λb ps e=>(#[],by rw[same e];simp,))
  (λm j=>by
   let(o,es,p,i,r):=j;exact(o,es,p,k _ o i,r,))
  (λb u e=>by
   rcases tN b ↥s with z|z
   .rw[a _ z]at e;exact(I.hok b u e).stay (λc g _ q=>k c g q) (λc q=>same q) λc f q=>same q
   .exact t b u z e)
  I.bare
end
inductive Gu(K:ac)(Q:VK)(vs:M3 V)(H1:Hp):Prop
 |mk (a b xs ys:_)(_:vs=[.ref a,.ref b])(_:SqL K H1 a xs)(_:SqL K H1 b ys)(_:∀(D:AE)(ts:M3 AE)(H2:Hp),⇑ts=min ⇑xs ⇑ys->(∀c o,H1 c=MO o->H2 c=MO o)->H1 D=MP->H2 D=MO (.lst<|ts.map O1) ->
  (∀(j:Nat)(x y:V),xs[j]?=MO x->ys[j]?=MO y->∃T,ts[j]?=MO T/\H1 T=MP/\H2 T=MO (.tup [x,y]))->Q (.ref D) H2):Gu K Q vs H1
def  tLZ(K:ac)(ta:TA):TE:=λσ H Q=>ta σ H λa b=>Gu K Q a b
def ltA{c n:Nat}(h:c<n)(k:Nat):c≠n+k:=qo<|ri h<|sL _ _
def  lD(xs ys:M3 V)(a:M3 AE)(b:AE):Option HO :=
 match a.idxOf? b with
 |some j=>match xs[j]?,ys[j]? with
  |some x,MO y=>MO<|.tup [x,y]
  |_,_=>MP
 |none=>MP
def xq{J C:Ej}{ta:TA}{p1 p2 CB Z:Pos}(a6:X.calm=MQ)(hg:Gl X "list") (hm:X.mg "list" = MP) (a5:Gl X "zip") (a4:X.mg "zip" = MP) (ha:PA X [J,C] ta)
  (hs:EX [J,C] X.env=[(MR,eval J X.env),(MR,eval C X.env)]:=by rfl)(M:EX [C] X.env=[(MR,eval C X.env)]:=by rfl) :
  PE X (.Call (.Name "list" p1) [.Call (.Name "zip" p2) [J,C] [] Z] [] CB) (tLZ X.K ta):=by
 intro MT s σ H Q I h;calc zX<|jS I hg hm wn ?_;calc v4 ?_ U U;show D8 _ _ (spliced ((MR,eval (.Call (.Name "zip" p2) [J,C] [] Z) X.env) :: Ey CB (EX [] X.env))) _ _ s;calc Na ?_;calc zX<|jS I a5 a4 NW ?_;refine v4 (thn (ha Z MT s σ H _ I h) λus f (vs,S,B,r1,q1,)=>?_) (by rw[hs,M]) (by rw[M];rfl);let(a,b,p,n,rfl,qa,qb,q):=q1;let(u,v,rfl,ru,rv):=r1.two;cases (show u=zY.ref a from ru);cases (show v=zY.ref b from rv);let(us,vu,pu,zu):=B.list qa;let(vs,vv,pv,zv):=B.list qb;let(oa,ea,_):=id pu.isList;let(ob,eb,_):=id pv.isList;let la:a<↥f:=bn ea;let lb:b<↥f:=bn eb;let l1:=⇑vu;let l2:=⇑vv;refine call_zip_2 pu.isList pv.isList λh' z1 z2 z3 z4 z5 z6 Y=>?_
 calc NJ ?_;let D:Mu (↥f+4) (↥f+2) (↥f+3) ↥f (↥f+1) a b:=by
  calc(?_,?_,?_,?_,?_,?_,?_,?_,?_,?_,?_,?_,?_,?_,?_,?_,?_,?_,) <;> first|exact qo ∅|exact rG ∅|exact qo la|exact qo lb|exact qo (ri la<|sL _ _)|exact qo (ri lb<|sL _ _)
 refine rR (s:={ f with heap:=h' }) (B.ok.hd a6) D z1 z2 z3 z4 z5 (pu.isList.at λo e=>Y _ _ e) (pv.isList.at λo e=>Y _ _ e) (by simp;lia) λh2 b3 c d k3 g3 e3 n3 nd R=>?_
 let a3:Ct.heap { f with heap:=h' }=h':=rfl;rw[a3]at g3 R k3;rw[z6]at g3 R;let kp:∀c o,f.heap.get? c=MO o->h2.get? c=MO o:=λc o e=>by
  let:=bn e;exact k3 c o (ltA this _) (ltA this _) (qo this) (ltA this _)<|Y c o e
 let N:⇑d=min ⇑p ⇑n:=by rw[n3];simp;lia
 let F:∀(j:Nat)(T:AE),d[j]?=MO T->d.idxOf? T=MO j:=λj T w=>by
  let(G,ej):=KH.mp w;rw[List.idxOf?,NK];refine(G,by simp[ej],λi hi=>?_,);let:d[i]≠d[j]:=λq=>by
   let:=(List.getElem_inj nd).mp q;lia
  simpa[←ej]using this
 let L:∀(T:AE)(j:Nat),d.idxOf? T=MO j->d[j]?=MO T:=λT j w=>by
  rw[List.idxOf?,NK]at w;let(G,e,_):=w;rw[KG G];simpa using e
 let E:∀(T:AE)(j:Nat),d.idxOf? T=MO j->↥f+6<=T:=λT j w=>by
  let(a1,_):=R j T<|L T j w;lia
 show EP X MT σ Q _ _;rw[show(Ct.heap { f with heap:=h' }).objs.size=↥f+5 from z6];generalize m:(λ(b:AE)=>if b=↥f+5 then MO (HO.lst<|d.map O1)else match lD p n d b with|some o=>MO o|none=>S b)=H2;let hD:H2 (↥f+5)=MO (.lst<|d.map O1):=by rw[←m];exact MV U
 let hO:∀c,c<↥f->H2 c=S c:=λc hc=>by
  rw[←m];show(if c=↥f+5 then _ else _)=_;rw[MU (ltA hc 5)];let:lD p n d c=none:=by
   unfold lD;cases e:d.idxOf? c with
   |none=>rfl
   |some j=>exact MW (ri hc<|qu (sL _ 6)<|E c j e) (sh _)
  rw[this]
 let hT:∀(j:Nat)(x y:V)(T:AE),p[j]?=MO x->n[j]?=MO y->d[j]?=MO T->H2 T=MO (.tup [x,y]):=λj x y T l A g=>by
  let:=E T j<|F j T g;rw[←m];show(if T=↥f+5 then _ else _)=_;rw[MU (rG<|ri (so _) this)];let:lD p n d T=MO (.tup [x,y]):=by unfold lD;rw[F j T g];dsimp only;rw[l,A]
  rw[this]
 refine(.ref<|↥f+5,H2,B.grow (s':={ f with heap:=h2 }) kp U U hO (λb u hb k=>?_),U,q _ d H2 N (λc o e=>?_) (B.hok.fresh<|sL _ _) hD λj x y l A=>?_,)
 .rw[←m]at k;replace k:(if b=↥f+5 then MO (HO.lst<|d.map O1)else match lD p n d b with|some o=>MO o|none=>S b)=MO u:=k
  by_cases W:b=↥f+5
  .rw[MV W]at k;cases k;subst W;let rv:∀d:M3 AE,Vals (d.map O1) (d.map zY.ref):=λd=>by
    induction d with
    |nil=>exact .nil
    |cons t r ih=>exact .cons U ih
   refine(by rw[bQ,N];lia,d.map zY.ref,c,rv d,?_,);rw[←e3];exact g3
  .rw[MU W]at k;cases g:lD p n d b with
   |none=>rw[g]at k;replace k:S b=MO u:=k;rw[B.hok.fresh hb]at k;cases k
   |some o =>
    rw[g]at k;cases k;unfold lD at g;cases ei:d.idxOf? b with
    |none=>rw[ei]at g;cases g
    |some j =>
     rw[ei]at g;dsimp only at g;cases l:p[j]? with
     |none=>rw[l]at g;cases g
     |some x =>
      cases A:n[j]? with
      |none=>rw[l,A]at g;cases g
      |some y =>
       rw[l,A]at g;cases g;let(_,x',y',fx,fy,gp):=R j b<|L b j ei;let(u1,a8,a2):=vu.get l;let(v1,a7,a0):=vv.get A;let P:us[j]?=MO x':= ~~~fx
       have O:vs[j]?=MO y':= ~~~fy
       rw[a8]at P;rw[a7]at O;cases P;cases O;exact(by show 2<=AY;decide,[x',y'],.cons a2<|.cons a0 .nil,_,gp,U,_,U,)
 .let:c<↥f:=by
   rcases tN c ↥f with z|z
   .exact z
   .rw[B.hok.fresh z]at e;cases e
  rw[hO c this];exact e
 .let w:j<⇑d:=by
   let(h1,_):=KH.mp l;let(b0,_):=KH.mp A;lia
  let g:d[j]?=MO d[j]:=KG w;calc(d[j],g,B.hok.fresh<|qu (sL _ 6)<|E _ j<|F j _ g,hT j x y _ l A g,)
def  Ite(K:ac)(a:AE):It :=
 (λi H=>∃b x,SqL K H a b/\b[i]?=MO x,
 λi H v c=>∃T,H T=MP/\v=.ref T/\∀b x,SqL K H a b->b[i]?=MO x->c=upd H T (.tup [.int i,x]),
 λi H=>∃b,SqL K H a b/\⇑b<=i,)
def  AZ(e it a:AE)(i:Nat)(h:AU):Prop:=(∃b,IsEnum h e it i b)/\h.IsListIter it a i
def zy{P:An}{w:zZ}{K:ac}{m:M3 Ej} {x1} {tp:Pos}{e it a:AE}(l:e≠it) :
  Turn P w K (.Tuple m x1 tp) (Ite K a) [e,it] e (AZ e it a) where
 mem:=by simp
 obj:=λi h st c b=>by
  let((d,j),(V,f,_,d2)):=st;simp only[cZ,gx,or_false]at b;rcases b with rfl|rfl
  .exact⟨_,j,λv q=>nomatch q⟩
  .exact⟨_,f,λv q=>by rw[d2]at q;cases q⟩
 keep:=λi h h' st k=>by
  let((d,j),f):=st;exact((d,k e (by simp) _ j,),f.at λo q=>k it (by simp) o q,)
 item:=by
  intro X B z C b i MT s σ H E I p st A;subst B z C;let(O,x,n,M):=A;let((d,j),f):=st;let(Q,r,t,_):=I.list n;let(u,eu,R):=r.get M;refine wpAny_pyNext_enum_item j f t.isList (x:=u) (~~~eu) l λh1 a1 a2 a3 a4 a5=>?_
  calc(_,U,wpAny_letOwnedTupleGo_enum (s:={ s with heap:=h1,toks:=s.toks+1 }) a1 λD b1 b2=>?_,);let Y:s.heap.get? ↥s=none:=by
   cases q:s.heap.get? ↥s with
   |none=>rfl
   |some o=>exact MW (bn q) (sh _)
  let L:H ↥s=none:=I.hok.fresh<|pT _;let G:↥s≠e:=rG<|bn j;let Z:∀c o,c ∉ [e,it]->s.heap.get? c=MO o->D.get? c=MO o:=λc o b q=>by
   simp only[cZ,gx,or_false,not_or]at b;exact b2.extBut _ _ b.1<|a5 c o b.1 b.2 q
  let J:=I.turnedPair (h':=D) (ch:=[e,it]) (T:=↥s) (x:=.int i) (y:=x) (u:=.int i s.toks) (v:=u) (λc b=>p c (by simp at b⊢;rcases b with q|q <;> simp[q])) Z Y L (b2.extBut _ _ G a3) (_,U,) R;refine(.ref ↥s,upd H ↥s<|.tup [.int i,x],J.tok _,U,(_,L,U,λa0 x' S N=>?_,),((_,b1,),a2.extBut b2.extBut l.symm,),λc b=>?_,)
  .rw[I.list_inj S n,M]at N;cases N;rfl
  .let h0:=(p c b).1;let:c≠↥s:=by
    let(V,F,_):=f;simp only[cZ,gx,or_false]at b;rcases b with rfl|rfl
    .exact G.symm
    .exact qo<|bn F
   rw[ay this];exact h0
 done:=by
  intro X B z C b i MT s σ H E I p st A;subst B z C;let(O,n,hl):=A;let((d,j),f):=st;let(Q,r,t,_):=I.list n;let l1:=⇑r;refine wpAny_pyNext_enum_end (I.ok.hd b) j f t.isList (by simp;lia) λD k=>⟨U,I.turnedL (ch:=[e,it]) (λc b=>p c (by simp at b⊢;rcases b with q|q <;> simp[q])) λc o b q=>?_⟩
  simp only[cZ,gx,or_false,not_or]at b;exact k c o b.2 q
 self:=λ_ _ _ _ _ st h=>let ⟨⟨_,g⟩,_⟩:=st;ML g h
inductive A2(K:ac)(R:It->O0)(vs:M3 V)(H1:Hp):Prop
 |mk (a:_)(_:vs=[.ref a])(_:(∃xs,SqL K H1 a xs))(_:R (Ite K a) H1)
def  Gv(K:ac)(ta:TA):TI:=λσ H R=>ta σ H λa b=>A2 K R a b
def CC{f:Ej}{ta:TA}{p pos:Pos}{e:M3 Ej} {x1} {tp:Pos}(w:Gl X "enumerate") (hm:X.mg "enumerate" = MP) (x:PA X [f] ta)
  (v:EX [f] X.env=[(MR,eval f X.env)]:=by rfl) :
  PI X (.Tuple e x1 tp) (.Call (.Name "enumerate" p) [f] [] pos) (Gv X.K ta):=by
 intro MT s σ H R I h;refine Call_ (jS I w hm PyProof.Rows.boot_enumerate<|v4 (thn (x pos MT s σ H _ I h) λl b (B,y,g,n,r,)=>?_) (by rw[v];rfl) U);let(a,rfl,(A,o),q):=r;let(u,rfl,m):=n.one;cases (show u=zY.ref a from m);let(l,_,t,_):=g.list o;refine call_enumerate_list t.isList λh' z1 k z j=>?_
 calc ML (s:={ b with heap:=h' }) z1 ?_;calc(↥b+1,[↥b+1,↥b],AZ (↥b+1) ↥b a,Ite X.K a,y,U,g.kept (t':=b.toks) j,zy<|rG<|so _,((_,z1,),k,),λc i=>?_,q,);let d:↥b<=c:=by
  simp only[cZ,gx,or_false]at i;rcases i with rfl|rfl
  .exact rZ _
  .exact pT _
 calc g.fpOk d<|g.hok.fresh d
section
variable{k:Nat}
def xr{K:ac}{a:AE}{xs:M3 V}{σ:St}{f:Hp}{Q:VK}(c:AE->Nat->M3 V->O0)(u:∀D,f D=MP->c D 0 [] (upd f D<|.lst []))
  (s:∀D i ys H,f D=MP->i<=⇑xs->c D i ys H->SqL K H a xs)
  (r:∀D i x ys H T,f D=MP->xs[i]?=MO x->c D i ys H->H T=MP->∀n:St,⇑n=k->gt (.ref T) (dz σ fr n) (upd H T<|.tup [.int i,x]) λd v=>(∃g:St,⇑g=k/\d=dz σ fr g)/\tt d v λb o=>if b=MQ then te d o (b7 c D i ⇑xs)else ly c D i ⇑xs o)
  (hd:∀D ys H,f D=MP->c D ⇑xs ys H->Q (.ref D) H):l9 (Ite K a) gt k fr tt te σ Q f:=by
 intro D h;calc(λi m H=>m=⇑xs-i/\i<=⇑xs/\∃ys,c D i ys H,(_,U,rE _,[],u D h,),?_,);rintro i m H ⟨rfl,hi,ys,p⟩;let q:=s D i ys H h hi p;by_cases l:i<⇑xs
 .let j:xs[i]?=MO xs[i]:=KG l;calc .inr ((xs,xs[i],q,j,),λx w y=>?_,);let(T,t,rfl,e):=y;rw[e xs _ q j];exact r D i _ ys _ T h j p t
 .let e:i=⇑xs:=∅
  subst e;calc .inl ((xs,q,pT _,),hd D ys H h p,)
def tf{K:ac}{a b:AE}{xs ys:M3 V}{σ:St}{f:Hp}{Q:VK}(c:AE->Nat->M3 V->O0)(v:∀D,f D=MP->c D 0 [] (upd f D<|.lst []))
  (t:∀D i zs H,f D=MP->i<=min ⇑xs ⇑ys->c D i zs H->SqL K H a xs/\SqL K H b ys)
  (s:∀D i x y zs H T,f D=MP->xs[i]?=MO x->ys[i]?=MO y->c D i zs H->H T=MP->∀q:St,⇑q=k->gt (.ref T) (dz σ fr q) (upd H T<|.tup [x,y]) λd w=>(∃g:St,⇑g=k/\d=dz σ fr g)/\tt d w λb r=>if b=MQ then te d r (b7 c D i<|min ⇑xs ⇑ys)else ly c D i (min ⇑xs ⇑ys) r)
  (hd:∀D zs H,f D=MP->c D (min ⇑xs ⇑ys) zs H->Q (.ref D) H):l9 (Itz K a b) gt k fr tt te σ Q f:=by
 intro D h;calc(λi m H=>m=min ⇑xs ⇑ys-i/\i<=min ⇑xs ⇑ys/\∃zs,c D i zs H,(_,U,rE _,[],v D h,),?_,);rintro i m H ⟨rfl,hi,zs,p⟩;let(l,j):=t D i zs H h hi p;by_cases z:i<min ⇑xs ⇑ys
 .let o:xs[i]?=MO xs[i]:=KG ∅;let n:ys[i]?=MO ys[i]:=KG ∅;calc .inr ((xs,ys,xs[i],ys[i],l,j,o,n,),λx A y=>?_,);let(T,u,rfl,e):=y;rw[e xs ys _ _ l j o n];exact s D i _ _ zs _ T h o n p u
 .let e:i=min ⇑xs ⇑ys:=∅
  subst e;calc .inl ((xs,ys,l,j,∅,),hd D zs H h p,)
end
def eW{X:Cx}{N:M3 Str}{k:Nat}{fr:M3 Nat}{scope:Du}{cl:M3 (Str×AE)}(b:LD scope X.env=pure cl)(kind:scope.kind=.function)(a:∀y∈scope.names,y.2≠.cell)
  (names:∀y∈scope.names,y.2=.local->scope.names.lookup y.1=MO .local)(d:N.length=k+⇑fr)
  (sub:((gl ⇑fr).all λi=>match N[k+i]?,fr[i]? with|some y,MO j=>(X.N[j]? == MO y) && ((X.env.kindOf y == MO .cell) && ((relabel scope X.env).names.lookup y == MO .cell))|_,_=>MR)=MQ)
  (cells:∀p∈cl,X.env.cells.lookup p.1=MO p.2)(f:((relabel scope X.env).names.all λp=>(p.2 != .cell && p.2 != .free) || (cl.lookup p.1).isSome)=MQ):mU X N k fr scope cl:=by
 refine(b,kind,a,names,d,λi y e=>?_,λy c e=>cells _<|mem_of_lookup e,λy h=>?_,)
 .let hi:i<⇑fr:=by have:=(KH.mp e).1;lia
  let z:=gX.mp sub i<|gW.mpr hi;rw[e,KG hi]at z;simp only[wh,beq_iff_eq]at z;exact(_,KG hi,z.1,.inl z.2.1,.inl z.2.2,)
 .let look:∀k,(relabel scope X.env).names.lookup y=MO k->(k=.cell\/k=.free)->∃c,cl.lookup y=MO c:=λk e g=>by
   let z:=gX.mp f _<|mem_of_lookup e;rcases g with rfl|rfl
   .exact yo.mp<|~~~z
   .exact yo.mp<|~~~z
  rcases h with h|h
  .exact look _ h<|.inl U
  .exact look _ h<|.inr U
def zA{K:ac}(e:X.K=K){a:Ej}{ta:TE}(d:PE X a ta)(c:∀b,Ek a X.env b=(do let v ←b;Gf a.pos;holding [v] (truthy v)):=by intro _;rfl) :
  PT X a (λσ H Q=>ta σ H λx H'=>∃k,Ec K x H' k/\Q k H'):=e ▸ fH d c
section
variable{k:Nat}
def qL{u:TI}{i:Nat}{y:Str}{b x:Pos}(hN:X.N.Nodup)(B:X.N[i]?=MO y)(P:Loc X.env.scope y)(hi:PI X tg iter u)(O:mU X N k fr scope cl)(W:X.calm=MQ)(R:∀c C s H,PG (bq X N scope cl c C s H) tg gt)
  (E:∀c C s H,PIf (bq X N scope cl c C s H) ifs tt)(V:∀c C s H,PE (bq X N scope cl c C s H) elt te)(F:∀v,KZ iter X.env v=pure v:=by intro _;rfl)
  (l:HJ (.ListComp elt [(tg,iter,ifs,0,)] scope pos) (MO<|.Name y b) x.line X.env=pure true:=by rfl)(S:X.fn y=MQ\/X.env.scope.names.lookup y=MO .local:=by first|exact .inl U|exact .inr U|assumption) :
  PS X (.Assign [.Name y b] (.ListComp elt [(tg,iter,ifs,0,)] scope pos) x) (Cb (xa u gt k fr tt te)<|sq i):=by
 intro MT s σ H g I h;rw[LV _ _ _ _ l];calc zb<|KI<|zb ?_;show D8 _ X.A (do let _ ←comprehension (.ListComp elt [⟨tg,iter,ifs,0⟩] scope pos) scope X.env _ (LK []) MR (eval iter X.env) (MO<|assign (.Name y b) X.env)) _ _ s;calc zb<|FC (LS (use:=MO<|assign (.Name y b) X.env) (Q:=λ_ s'=>SP X MT g .next s') U F O.clos O.kind O.names<|thn (hi MT s σ H _ I h) λv s1 h1=>thn h1 λa0 s2 h2=>?_) (λ_ s' G=>zp<|zp G) λ_ _ z=>z;let(it,c,tn,J,H2,e,d,T,j,f2,Z):=h2;subst e;refine qz (Q:=λv H1=>sq i v σ H1 g.nx) (RR:=λt C=>LU (model X.prog X.w) X.A X.xe (MO<|assign (.Name y b) X.env) (λ_ s'=>SP X MT g .next s') t C) O W d T j f2 E V R Z λD C s' H' f L (m,M,) I' q=>?_
 show D8 _ X.A (assign (.Name y b) X.env<|.ref D) _ _ s';calc Kq<|oM I' hN B P (v:=.ref D) U (λs3 I3 (a,n,Y,)=>?_) S;let r:C≠a:=by
  rcases Y with z|z
  .rw[z];exact rG<|ri d.lt f
  .let(v,o,K,_):=d.cell y a z;exact rG<|ri (bn K) f
 calc(m,M.sameBut n r,λh' p=>(_,H',d.left I3 f L p,q,),)
end
set_option maxRecDepth 100000
def ue:Lq (.type "list") "keys" = pure none:=by rw[MG,MH];kernel_rfl
def zB{a:AE}{items:Array zY}{Q:Option zY->Ct->Prop}(x:s.heap.IsList a items)(l:∀o,s.heap.get? a=MO o->o.dict=MP)(y:A.handled=MP)
  (h:∀h' m,(∀b o,s.heap.get? b=MO o->h'.get? b=MO o)->Q MP { s with heap:=h',toks:=m }) :
  D8 (model prog w) A (getAttr? (.ref a) "keys") Q E s:=by
 let(o,j,p,k,r):=x;let n:=l o j;let(c,z,B,t):=o;simp only at p r n;subst p r n;let(v,g,d,m,u):=s;let q:∀f,(⟨v,g,d,f,u⟩:Ct).TypeIs (.ref a) "list" := λ_=>(_,j,U,)
 let K:=sub_AttributeError;let J:=Nu.lookup;let I:=Nu.bind<|.ref a;let H:=am_list_getattr_none;unfold getAttr? getAttrBy? getAttrBy
 repeat (any_goals (first|assumption|exact q _|((with_reducible show D8 _ _ (call (zY.builtin "list.__getattribute__") _ _) _ _ _);refine Lz Nu (q _) am_entry_list_getattribute (F.args_list_getattribute_2 _ _) (meets_getattribute_miss_list a _ k t "keys" _ ue ⋯ ⋯) (j,y,λh' f e i=>?_,))|wp_step))
 let(D,C,G):=i.there;show D8 _ _ (MM _ _ _ _ _ _ _) _ _ _;unfold MM
 repeat (any_goals (first|assumption|wp_step))
 calc h _ _ i.of.keeps
def eP:plainId "dict.update.loop" = true:= ~~~0
def jc:entryFor table "dict.update.loop" = MO KY.«dict.update.loop»:=Ml (by kernel_rfl)
def oW{q:Type} [DecidableEq q] {knd:KeyKind prog w q}{d I ax:AE}{items:Array zY}{ps:M3 (q×zY)}{res:zY}(hh:A.handled=MP)(hI:I≠ax)(m:d≠I)(L:d≠ax)(a1:⇑ps=items.size) :
  ∀(k i:Nat)(s:Ct)(a:M3 (q×zY))(C:Tok)(R:K7->Ct->Prop),items.size-i=k->i<=items.size->s.heap.IsListIter I ax i->s.heap.IsList ax items->s.heap.DictOf knd d a ->
   (∀(j:Nat)(p:q×zY),ps[j]?=MO p->∃(t:AE)(o:Obj)(n:Nat)(c:zY),items[j]?=↑t/\s.heap.get? t=MO o/\o.cls=.type "tuple" /\ o.data=.seq #[c,p.2] n/\knd.is p.1 c=MQ/\t≠I/\t≠d) ->
   ⇑a+k<=AY ->
   (∀h' B,h'.DictOf knd d (merged a<|ps.drop i)->(∀b o,b≠I->b≠d->s.heap.get? b=MO o->h'.get? b=MO o)->R (.ok<|.ret res) { s with heap:=h',toks:=B }) ->
   K8 (model prog w) A (.builtin "dict.update.loop" ([.ref d,.ref I,.int (i:Int) C,res],[],)) R s:=by
 intro k;induction k with
 |zero =>
  intro i s a C R hk hi h z E F J G;let K:i=items.size:=∅
  calc Mg jc ?_;rw[GM eP _];unfold KY.«dict.update.loop»;show D8 _ A.in1 (KO (.ref I) >>= _) _ _ s;refine zb (KU (by simp[hh]) h z (by simp[K]) λh' u=>?_);show D8 _ A.in1 (KY.Dict.addKeywords d [] >>= _) _ _ _;calc zb<|zp<|zp ?_;let e:ps.drop i=[]:=List.drop_of_length_le ∅;refine G h' _ ?_ λb o hb _ e=>u b o hb e
  rw[e];exact E.extBut u m
 |succ k Z =>
  intro i s a C R hk hi h z E F J G;let a2:i<items.size:=∅
  let ep:=KG (l:=ps) (i:=i) ∅;let(t,o,n,c,e1,e2,e3,e4,e5,e6,e7):=F i _ ep;calc Mg jc ?_;rw[GM eP _];unfold KY.«dict.update.loop»;show D8 _ A.in1 (KO (.ref I) >>= _) _ _ s;calc zb<|KS h z e1 λh' HV g=>?_;let v:h'.get? t=MO o:=(g.2 t e6).trans e2;calc zb<|zz ?_;calc zb<|wpAny_tryCatch ?_;unfold KY.Dict.pairItems;calc zb<|MJ (T := "tuple") (o,v,e3,) ?_;rw[MV ⋯];calc zb<|MA v e4<|zp ?_;show D8 _ _ (holding [c,(ps[i]).2] (dictSet d c (ps[i]).2)) _ _ _;calc zz ?_;let O:h'.DictOf knd d a:=E.extBut g.extBut m;calc wpAny_dictSet_pairs e5 O (λV N r=>?_) ∅;let D:∀b f,b≠I->b≠d->s.heap.get? b=MO f->V.get? b=MO f:=λb f y x e=>(r.2 b x).trans<|(g.2 b y).trans e
  let a0:⇑(stored a (ps[i]).1 (ps[i]).2)<=⇑a+1:=by
   unfold stored;split
   .rw[bQ];lia
   .rw[dV];simp
  let P:ps.drop i=ps[i] :: ps.drop (i+1):=nt ∅;calc zp (Mh eP _,?_,);let go:=Z (i+1) { s with heap:=V,toks:=s.toks+1 } (stored a (ps[i]).1 (ps[i]).2) 0 R ∅ ∅ (HV.at λf e=>(r.2 I m.symm).trans e) (z.at λf e=>D ax f hI.symm L.symm e) N (λj p ej=>?_) ∅ (λh3 B M H=>?_)
  .exact go
  .let(Q,S,Y,HW,f1,f2,f3,f4,f5,X,W):=F j p ej;exact(Q,S,Y,HW,f1,D Q S X W f2,f3,f4,f5,X,W,)
  .refine G h3 B ?_ λb f y x e=>H b f y x<|D b f y x e
   rw[P];calc M
def pY{q:Type} [DecidableEq q] {knd:KeyKind prog w q}{ax:AE}{items:Array zY}{ps:M3 (q×zY)}{Q:zY->Ct->Prop}(O:A.handled=MP)(v:s.heap.IsList ax items)(K:∀o,s.heap.get? ax=MO o->o.dict=MP)(H:⇑ps=items.size)(G:items.size<=AY)(J:(ps.map (·.1)).Nodup)
  (V:∀(j:Nat)(p:q×zY),ps[j]?=MO p->∃(t:AE)(o:Obj)(n:Nat)(c:zY),items[j]?=↑t/\s.heap.get? t=MO o/\o.cls=.type "tuple" /\ o.data=.seq #[c,p.2] n/\knd.is p.1 c=MQ)
  (W:∀h' x,h'.DictOf knd ↥s ps->(∀b o,s.heap.get? b=MO o->h'.get? b=MO o)->Q (.ref ↥s) { s with heap:=h',toks:=x }) :
  D8 (model prog w) A (call (.type "dict") [.ref ax]) Q E s:=by
 calc MI (Q₁:=λobj f=>obj=.ref ↥s/\f={ s with heap:=s.heap.push { cls:=.type "dict",data:=.dict #[] } }) F.kt_called_dict (F.kt_typeCall_dict_1 _) F.entry_dict_init (kt_code_dict_new _ (U,U,)) ?_;rintro obj f ⟨rfl,rfl⟩;let C:(s.heap.push { cls:=.type "dict",data:=.dict #[] }).DictOf knd ↥s []:=AU.DictOf.new s.heap;let z:∀b o,s.heap.get? b=MO o->(s.heap.push { cls:=.type "dict",data:=.dict #[] }).get? b=MO o:=λb o e=>am _ e
 let k:=v.at λo e=>z ax o e
 calc(C.typeIs,F.args_dict_init_2 _ _,?_,);unfold KY.«dict.__init__»;calc zb ?_;unfold KY.Dict.selfAndRest;calc zb<|wpAny_notOrdered_dict C.typeIs ?_;show D8 _ _ (pure (↥s,[zY.ref ax])) _ _ _;calc zp ?_;show D8 _ _ (Ot "dict.__init__" ↥s (.ref ax) [] .none) _ _ _;unfold Ot;calc zb<|MJ k.typeIs ?_;rw[MV ⋯];let h:ax<↥s:=by let(o,e,_):=id v;exact bn e
 let HX:∀o,(s.heap.push { cls:=.type "dict",data:=.dict #[] }).get? ax=MO o->o.dict=none:=λo e=>by
  let(M,S,_):=id v;let e2:=z ax M S;rw[e2]at e;let e3:=dL e;rw[←e3];exact K M S
 refine zb (zB (s:={ s with heap:=s.heap.push { cls:=.type "dict",data:=.dict #[] } }) k HX (by simp[O]) λa g N=>?_);rw[MV (by rfl)];calc zb<|wpAny_rule ?_;let k01:∀b o,s.heap.get? b=MO o->a.get? b=MO o:=λb o e=>N b o<|z b o e
 let i:a.IsList ax items:=v.at λo e=>k01 ax o e
 calc zb<|KW (s:={ s with heap:=a,toks:=g }) i ?_;let y:∀b o,a.get? b=MO o->(a.push { cls:=.type "list_iterator",data:=.fields #[.ref ax,.int 0 0] }).get? b=MO o:=λb o e=>am _ e
 let eI:(a.push { cls:=.type "list_iterator",data:=.fields #[.ref ax,.int 0 0] }).get? a.objs.size=MO { cls:=.type "list_iterator",data:=.fields #[.ref ax,.int 0 0] }:=ii _ U;let l:a.DictOf knd ↥s []:=by
  let(o,es,R,B,r):=C;exact(o,es,R,N _ _ B,r,)
 let L:(a.push { cls:=.type "list_iterator",data:=.fields #[.ref ax,.int 0 0] }).DictOf knd ↥s []:=l.push _;let u:↥s<a.objs.size:=by let(o,es,R,B,_):=l;exact bn B
 let D:ax<a.objs.size:=tm h u;calc zp (Mh eP _,?_,);refine oW (prog:=prog) (w:=w) (knd:=knd) (d:=↥s) (I:=a.objs.size) (ax:=ax) (items:=items) (ps:=ps) (res:=.none) (by simp[O]) (rG D) (qo u) (rG h) H items.size 0 { s with heap:=a.push { cls:=.type "list_iterator",data:=.fields #[.ref ax,.int 0 0] },toks:=g } [] 0 _ ∅ (rE _) (_,eI,U,U,) (i.at λo e=>y ax o e) L (λj p ej=>?_) (~~~G) (λh' x m T=>?_)
 .let(t,o,n,c,f1,P,Z,Y,X):=V j p ej;let lt:=bn P;exact(t,o,n,c,f1,y _ _<|k01 _ _ P,Z,Y,X,qo<|tm lt u,qo lt,)
 .rw[nC,merged_nil_of_nodup ps J]at m;calc(U,W h' x m λb o e=>T b o (qo<|tm (bn e) u) (qo<|bn e)<|y _ _<|k01 _ _ e,)
def tj{b a:Type}{R:b->a->Prop}:∀{xs:M3 b}{ys:M3 a},⇑xs=⇑ys->(∀(j:Nat)(x:b)(y:a),xs[j]?=MO x->ys[j]?=MO y->R x y)->Paired R xs ys
 | [],[],_,_=>.nil
 |x :: xs,y :: ys,hl,h=>.cons (h 0 x y U U)<|tj (~~~hl) λj d c e f=>h (j+1) d c (~~~e)<|~~~f
 | [],_ :: _,hl,_=>by simp at hl
 |_ :: _,[],hl,_=>by simp at hl
def qe{c:Type}{P:Nat->c->Prop}:∀n:Nat,(∀j,j<n->∃a,P j a)->∃l:M3 c,⇑l=n/\∀(j:Nat)(a:c),l[j]?=MO a->P j a
 |0,_=>([],U,λj a e=>by simp at e,)
 |n+1,h=>by
  let(l,d,g):=qe n λj f=>h j ∅
  let(a,i):=h n ∅;refine(l++[a],by simp[d],λj b e=>?_,);by_cases f:j<⇑l
  .rw[ft f]at e;exact g j b e
  .let:j=n:=by have:=(KH.mp e).1;simp at this;lia
   subst this;rw[fV ∅,d,ve]at e;cases e;calc i
def  kvT(a:M3 (Str×V)):M3 (Key×V):=a.map λp=>(Do p.1,p.2)
def CD{a:M3 (Str×V)}{j:Nat}{x:Key×V}(e:(kvT a)[j]?=MO x):∃p,a[j]?=MO p/\x=(Do p.1,p.2):=by
 unfold kvT at e;rw[dn]at e;cases q:a[j]? with
 |none=>rw[q]at e;cases e
 |some p=>rw[q]at e;cases e;calc(p,U,U,)
def yw:∀{a:M3 (Str×V)}{vs:M3 (Key×zY)}{k:Str}{v:V},KV (kvT a) vs->a.lookup k=MO v->∃u,valueAt vs (Do k:Key)=MO u/\RelV v u
 | [],_,_,_,_,e=>by cases e
 |(k0,v0) :: a,vs,k,v,r,e=>by
  unfold KV at r;cases r with
  | @cons p q ps qs h t =>
   let(b,g):=h;let b:(Do k0:Key)=q.1:=b;by_cases c:k=k0
   .subst c;rw[mE,beq_self_eq_true]at e;cases e;calc(q.2,?_,g,);unfold valueAt;rw[List.find?_cons_of_pos (by simp[b])];rfl
   .let e:a.lookup k=MO v:=by
     rw[mE,beq_eq_false_iff_ne.mpr c]at e;exact e
    let(u,f,i):=yw (vs:=qs) t e;calc(u,?_,i,);let d:¬ (q.1=(Do k:Key)):=λz=>c (by rw[←b]at z;injection z with z;exact z.symm)
    unfold valueAt at f⊢;rw[List.find?_cons_of_neg (~~~d)];calc f
def CF{MT:M3 (AE×Obj)}{σ:St}{H:Hp}{s:Ct}(I:Inv X MT σ H s):(↥s == A1)=false:=by
 let h:B5<↥s:=(I.mod.glob.keeps I.bk).lt;let a:A1<↥s:=tm ⋯ h;calc beq_eq_false_iff_ne.mpr<|rG a
def qM(J:X.calm=MQ):iM X (.type "dict") (λxs H Q=>∃(l:AE)(us:M3 V)(c:M3 (Str×V)),xs=[.ref l]/\H l=MO (.lst us)/\⇑us=⇑c/\(∀(j:Nat)(p:Str×V),c[j]?=MO p->∃t:AE,us[j]?=↑t/\H t=MO (.tup [.str p.1,p.2]))/\(c.map (·.1)).Nodup/\∀p,H p=MP->Q (.ref p) (upd H p<|.dK<|kvT c)):=by
 intro MT s σ H xs a0 Q I r h;let(l,us,c,rfl,el,N,ht,A,q):=h;let(u,rfl,Y):=vals1 r;cases Y;let(k,n,L,R,M):=I.lst el;let B:=L.length;let(ps,v,i):=qe (P:=λj (a:Key×zY)=>∃(p:Str×V)(t:AE)(o:Obj)(m:Nat)(d:zY),c[j]?=MO p/\a.1=Do p.1/\k[j]?=↑t/\RelV p.2 a.2/\s.heap.get? t=MO o/\o.cls=.type "tuple" /\ o.data=.seq #[d,a.2] m/\RelV (.str p.1) d) ⇑c λj hj=>by
  let O:=KG hj;let(t,g,f):=ht j _ O;let(S,E,D):=L.get g;cases (show S=zY.ref t from D);let(_,C,G,o,ho,hc,m,hd):=I.hok t _ f;let(d,rest,rfl,rk,Z):∃d rest,C=d :: rest/\RelV (.str c[j].1) d/\Vals [c[j].2] rest:=by
   cases G with
   |cons a b=>exact(_,_,U,a,b,)
  let(T,rfl,F):=vals1 Z;exact((Do c[j].1,T),c[j],t,o,m,d,O,U,E,F,ho,hc,~~~hd,rk,)
 let pO:ps.map (·.1)=c.map λp=>(Do p.1:Key):=by
  refine ik λj=>?_
  rw[dn,dn];cases e:ps[j]? with
  |none =>
   let:c[j]?=none:=by rw[AC]at e⊢;lia
   rw[this];rfl
  |some a =>
   let(p,t,o,m,d,g,f,_):=i j a e;rw[g];show MO a.1=MO (Do p.1);rw[f]
 refine pY (knd:=nG X.prog X.w) (items:=k.toArray) (ps:=ps) (I.ok.hd J) (_,R,U,n,U,) (λo e=>by rw[R]at e;cases e;rfl) (by rw[eg,v,←N,B]) (by rw[eg,←B];exact M) ?_ (λj a ea=>?_) λh' W hd kp=>?_
 .rw[pO,show(c.map λp=>(Do p.1:Key))=(c.map (·.1)).map λz=>(Do z:Key) by rw[gw];rfl];rw[FS]at A⊢;rw[NQ];exact A.imp λ{a b} K z=>K (by injection z)
 .let(p,t,o,m,d,g,f,E,D,e5,e6,e7,e8):=i j a ea;calc(t,o,m,d,~~~E,e5,e6,e7,?_,);rw[f];let(tt,rfl):=(show ∃tt,d=zY.str p.1 tt from e8);exact pH X.prog X.w p.1 tt
 .refine(.ref ↥s,_,I.laid (h':=h') (t':=W) (o:=.dK<|kvT c) kp (pT _) (by unfold kvT;rw[bQ,←N];exact M,CF I,ps,tj (by unfold kvT;rw[bQ,v]) λj x y ex ey=>?_,hd,),U,q _<|I.hok.fresh<|pT _,);let(p,ep,rfl):=CD ex;let(p',t,o,m,d,g,f,E,D,_):=i j y ey;rw[ep]at g;cases g;calc(f.symm,D,)
inductive EC  (x:V)(y:V)(H:Hp)(Q:VK):Prop
 |mk (a:AE)(kvs:M3 (Str×V))(k:Str)(v:V)(_:x=.ref a)(_:y=.str k)(_:H a=MO (.dK<|kvT kvs))(_:kvs.lookup k=MO v)(_:Q v H):EC x y H Q
def og:IxR X EC:=by
 intro value e MT s σ H x y v u Q I i g h j;let(a,d,k,z,rfl,rfl,n,m,q):=h;cases i;let(t,rfl):=g;let(_,_,p,c,f):=(show eK X.prog X.w H s.heap a (.dK<|kvT d)from I.hok a _ n);let(o,l,b):=yw c m;calc PyProof.Rows.tail_any f.mapOf.typeIs slot_dict_getitem.lookup (wpAny_getItem_of (pH X.prog X.w k t) f.mapOf l (z,H,I.tok _,b,q,)) j
def xt{X:Cx}{K:ac}(h:X.K=K):OpR X (K2 .In) (rIn K MR):=h ▸ sJ
def ED{a:Ej}{ta:TE}{c e:Str}{k u:Nat}{D r p pos:Pos}(G:PE X a ta):PE X (.JoinedStr [.Constant (.str c) k r,.FormattedValue a 114 MP D,.Constant (.str e) u p] pos) (λσ H Q=>⇑c<=1000/\tFr e ta σ H Q):=by
 intro MT s σ H Q I h;let b:∀n,n<=20000->n<=AY:=λn E=>qu E ⋯
 let d:∀y:Str,⇑(re++y)=⇑y:=λy=>by rw[len_app];show 0+_=_;lia
 let(R,h):=h;calc L8<|L9 ?_;refine thn (aV (X:=X) (x:=c) (j:=k) (pos:=r) MT s σ H (λv m=>v=.str c/\m=H) I (U,U,)) λv w (y,P,M,B,i,g,)=>?_
 subst i g;let(T,rfl):=B;refine(_,_,U,b _ (by rw[d];lia),L9<|Ma<|thn (G MT w σ P _ M h) λv o (x,l,N,C,z,K,Y,F,hl,q,)=>?_,);subst K;let(t,rfl):=C;let Z:=Nw z F;calc Mb (formatField_str (λV f=>?_)<|b _ ∅)<|b _ ∅;refine(_,_,U,b _ (by rw[len_app,d];lia),L9 ?_,);let J:Inv X MT σ l { o with toks:=f }:=N.tok f;refine thn (aV (X:=X) (x:=e) (j:=u) (pos:=p) MT { o with toks:=f } σ l (λv m=>v=.str e/\m=l) J (U,U,)) λv W (y,O,L,A,i,g,)=>?_
 subst i g;let(S,rfl):=A;refine(_,_,U,b _ (by rw[len_app,len_app,d];lia),Mc (b _ (by rw[len_app,len_app,d];lia),?_,),);calc(.str _,O,L.tok _,(_,U,),q _,)
def  rpt(z y:Str):Str×Str×Str:=match lastOccurrence z y 0 ⇑z with
 |some i=>(strSub z 0 i,y,strSub z (i+⇑y) ⇑z)
 |none=>(re,re,z)
inductive A4  (x:V)(vs:M3 V)(H:Hp)(Q:VK):Prop
 |mk (z y:Str)(_:x=.str z)(_:vs=[.str y])(_:(⇑y == 0)=MR)(_:⇑z<=AY)(_:∀p,H p=MP->Q (.ref p) (upd H p<|.tup [.str (rpt z y).1,.str (rpt z y).2.1,.str (rpt z y).2.2])):A4 x vs H Q
def rS:MtM X "str.rpartition" A4:=by
 intro MT s σ H x n v r Q I e f h;let(z,y,rfl,rfl,m,l,q):=h;let(t,rfl):=e;let(w,rfl,j):=f.one;let(u,rfl):=j;let fin:∀(a b c:Str)(ta tb d:Tok)(k:Nat),(∀p,H p=MP->Q (.ref p) (upd H p<|.tup [.str a,.str b,.str c]))->EP X MT σ Q (.ref ↥s) { s with heap:=s.heap.push { cls:=.type "tuple",data:=.seq [.str a ta,.str b tb,.str c d].toArray },toks:=k }:=λa b c ta tb d k q =>
  (.ref ↥s,_,I.laid (a:=↥s) (o:=.tup [.str a,.str b,.str c]) (t':=k) (λb o g=>am _ g) (pT _) ((by show 3<=AY;decide),[.str a ta,.str b tb,.str c d],.cons (_,U,)<|.cons (_,U,)<|.cons (_,U,) .nil,(_,ii _ U,U,_,U,),),U,q _ I.fresh,)
 calc Lz PySem.F.slot_str_rpartition (Lu _ _ _) PySem.F.entry_str_rpartition (PySem.F.args_str_rpartition_2 _ _) (meets_str_rpartition z y t u m l) ?_;unfold rpt at q
 revert q
 cases lastOccurrence z y 0 ⇑z with
 |none=>intro q;exact fin _ _ _ _ _ _ _ q
 |some i=>intro q;calc fin _ _ _ _ _ _ _ q
def oh{K:ac}(_:X.K=K):IxR X EC:=og
def vE{K:ac}{b a:Ej}{ta:TA}{i h n g:Pos}(m:X.K=K)(f:X.calm=MQ)(k:Gl X "list") (hm:X.mg "list" = MP) (e:Gl X "zip") (d:X.mg "zip" = MP) (l:PA X [b,a] ta)
  (j:EX [b,a] X.env=[(MR,eval b X.env),(MR,eval a X.env)]:=by rfl)(c:EX [a] X.env=[(MR,eval a X.env)]:=by rfl) :
  PE X (.Call (.Name "list" i) [.Call (.Name "zip" h) [b,a] [] g] [] n) (tLZ K ta):=by
 subst m;calc xq f k hm e d l j c
def uf{p m:Str}{a b:M3 Nat}(h:tl p=a++(tl m++b)):subAt p m ⇑a=true:=by
 rw[subAt_eq];show(((tl p).drop ⇑a).take ⇑m == tl m)=MQ;rw[h,nX,←bw m,nY];calc beq_self_eq_true _
def yx{t m:Str}{j i v:Nat}(h:subAt t m j=MQ)(e:(tl m)[i]?=MO v):(tl t)[j+i]?=MO v:=by
 rw[subAt_eq]at h;let a:((tl t).drop j).take ⇑m=tl m:=eq_of_beq h;let hi:i<⇑m:=by rw[←bw];exact(KH.mp e).1
 rw[←a,Nn hi,ox]at e;calc e
def qf{a m b:Str}:strSub (a++m++b) 0 ⇑a=a/\strSub (a++m++b) (⇑a+⇑m) ⇑(a++m++b)=b:=by
 let e:tl (a++m++b)=tl a++(tl m++tl b):=by rw[cL,cL,gB]
 constructor
 .refine gZ ?_;show(strSub _ 0 ⇑a).cps.toList=_;rw[strSub_toList];show((tl<|a++m++b).drop 0).take (⇑a-0)=tl a;rw[nC,Nat.sub_zero,e,←bw a,nY]
 .refine gZ ?_;show(strSub _ _ _).cps.toList=_;rw[strSub_toList];show((tl<|a++m++b).drop _).take _=tl b;rw[e,←gB,show ⇑a+⇑m=⇑(tl a++tl m) by rw[dV,bw,bw],nX];calc kU ?_;let:=bw<|a++m++b;rw[e,dV,dV]at this;rw[dV];lia
def CG{a m b:Str}(h:∀j,j<⇑a->subAt (a++m++b) m j=MR):db (a++m++b) m=(a,m,b):=by
 let e:tl (a++m++b)=tl a++(tl m++tl b):=by rw[cL,cL,gB]
 let c:At (a++m++b) m ⇑(a++m++b) ⇑a:=(by rw[←bw (a++m++b),e,dV,dV,bw,bw];lia,by rw[←bw a];exact uf e,);rcases occ_head (a++m++b) m 1 (pT _) with⟨_,g⟩|⟨i,r,k,f,d⟩
 .exact MW c<|g _
 .let hi:i=⇑a:=by
   rcases uM i ⇑a with z|z|z
   .let:=h i z;rw[f.2]at this;cases this
   .exact z
   .exact MW c<|d _ z
  subst hi;unfold db;rw[k];show(strSub _ 0 ⇑a,m,strSub _ (⇑a+⇑m) _)=_;rw[qf.1,qf.2]
def lE{a m b:Str}{m0 m1:M3 Nat}{v:Nat}(d:tl m=m0++v :: m1)(e:v ∉ tl a)(f:v ∉ m0):db (a++m++b) m=(a,m,b):=by
 refine CG λj h=>?_
 cases hs:subAt (a++m++b) m j with
 |false=>rfl
 |true =>
  exfalso;let g:=yx (i:=⇑m0) (v:=v) hs (by rw[d];simp);rw[cL,cL,gB]at g;by_cases c:j+⇑m0<⇑(tl a)
  .rw[ft c]at g;exact e<|KJ g
  .rw[fV (uO c),d,gB,ft (by rw[bw];rw[bw]at c;lia)]at g;calc f<|KJ g
def yz{c:Nat->Bool}:∀(l:M3 Nat)(o:Option Nat),(∀x∈l,c x=MR)->l.foldl (λo i=>if c i=MQ then MO i else o) o=o
 | [],_,_=>rfl
 |x :: l,o,h=>by
  rw[ig,h x<|.head _,MU ⋯];calc yz l o λy a=>h y<|.tail _ a
def CH{s m:Str}{i:Nat}(n:i+⇑m<=⇑s)(h:subAt s m i=MQ)(f:∀j,i<j->j+⇑m<=⇑s->subAt s m j=MR):lastOccurrence s m 0 ⇑s=MO i:=by
 let e:lastOccurrence s m 0 ⇑s=(Nm 0<|⇑s+1).foldl (λo i=>if (MS (i+⇑m<=⇑s) && subAt s m i)=MQ then MO i else o) none:=by
  unfold lastOccurrence;simp only[Std.Legacy.Range.forIn_eq_forIn_range',Std.Legacy.Range.size];let k:∀(l:M3 Nat)(o:Option Nat),(forIn (m:=Id) l o λi r=>if (MS (i+⇑m<=⇑s) && subAt s m i)=MQ then(pure (wP<|MO i):Id _)else pure (wP r)).run=l.foldl (λo i=>if (MS (i+⇑m<=⇑s) && subAt s m i)=MQ then MO i else o) o:=by
   intro l;induction l with
   |nil=>intro o;rfl
   |cons x l a =>
    intro o;rw[nq,ig];by_cases g:(MS (x+⇑m<=⇑s) && subAt s m x)=MQ
    .rw[MV g,MV g];exact a _
    .rw[MU g,MU g];exact a _
  simpa using k (Nm 0<|⇑s+1) MP
 let b:Nm 0 (⇑s+1)=Nm 0 i++i :: Nm (i+1) (⇑s-i):=by
  let c:⇑s+1=i+(⇑s-i+1):=∅
  rw[c,←List.range'_append_1,List.range'_succ,Ny]
 rw[e,b,lQ,ig,MV (by rw[h,Bool.and_true];exact MX n)];refine yz _ _ λj d=>?_
 let(q,p):=List.mem_range'_1.mp d;by_cases g:j+⇑m<=⇑s
 .rw[f j ∅ g,Nf]
 .rw[MY g,ww]
def CI{a m b:Str}{m0:M3 Nat}{v:Nat}(c:tl m=m0++[v])(f:v ∉ tl b):rpt (a++m++b) m=(a,m,b):=by
 let e:tl (a++m++b)=tl a++(tl m++tl b):=by rw[cL,cL,gB]
 let d:lastOccurrence (a++m++b) m 0 ⇑(a++m++b)=MO ⇑a:=by
  refine CH (by rw[←bw (a++m++b),e,dV,dV,bw,bw];lia) (by rw[←bw a];exact uf e) λj k _=>?_
  cases hs:subAt (a++m++b) m j with
  |false=>rfl
  |true =>
   exfalso;let g:=yx (i:=⇑m0) (v:=v) hs (by rw[c];simp);let h:⇑(tl m)=⇑m0+1:=by rw[c];simp
   rw[e,fV (by rw[bw];lia),fV (by rw[bw a];lia)]at g;exact f<|KJ g
 unfold rpt;rw[d];show(strSub _ 0 ⇑a,m,strSub _ (⇑a+⇑m) _)=_;rw[qf.1,qf.2]
def A8{m:Str}{m0 m1:M3 Nat}{v:Nat}(d:tl m=m0++v :: m1)(c:v ∉ m0){w:Str}{W:M3 Str}(a:v ∉ tl w){k:Nat}(f:k<⇑m0):(tl<|kt m (w :: W))[k]?≠MO v:=λg=>by
 cases W with
 |nil =>
  let g:(tl w)[k]?=MO v:=g;exact a<|KJ g
 |cons e W =>
  rw[cQ]at g;by_cases b:k<⇑(tl w)
  .rw[ft b]at g;exact a<|KJ g
  .rw[fV (uO b),d,gB,ft ∅]at g;calc c<|KJ g
def qN{m:Str}{m0 m1:M3 Nat}{v:Nat}(d:tl m=m0++v :: m1)(k:v ∉ m0)(q:v ∉ m1):∀{W P:M3 Str},W≠[]->P≠[]->(∀w∈W,v ∉ tl w)->(∀p∈P,∀a b,tl p≠a++(tl m++b))->tl (kt m P)=tl (kt m W)->P=W
 | [],_,h,_,_,_,_=>MW U h
 |_,[],_,h,_,_,_=>MW U h
 | [w],[p],_,_,_,_,e=>by
  let e:tl p=tl w:=e;rw[gZ e]
 | [w],p :: j :: P,_,_,hw,_,e=>by
  let e:tl (kt m (p :: j :: P))=tl w:=e;rw[cQ]at e;let:v∈tl w:=by rw[←e,d];simp
  exact MW this<|hw w (by simp)
 |w :: i :: W,[p],_,_,_,hp,e=>by
  let e:tl p=tl (kt m (w :: i :: W)):=e;rw[cQ]at e;exact MW e<|hp p (by simp) _ _
 |w :: i :: W,p :: j :: P,_,_,hw,hp,e=>by
  rw[cQ,cQ]at e;let y:⇑(tl m)=⇑m0+1+⇑m1:=by rw[d];simp;lia
  let f:∀(a b:M3 Nat),(a++(tl m++b))[⇑a+⇑m0]?=MO v:=λa b=>by
   rw[fV ∅,show ⇑a+⇑m0-⇑a=⇑m0 by lia,d];simp
  let s:⇑(tl p)=⇑(tl w):=by
   rcases uM ⇑(tl p) ⇑(tl w) with g|g|g
   .exfalso;let c:=f (tl p)<|tl<|kt m (j :: P);rw[e]at c;by_cases o:⇑(tl p)+⇑m0<⇑(tl w)
    .rw[ft o]at c;exact hw w (by simp) (KJ c)
    .rw[fV ∅,d,gB,ft ∅]at c;exact k<|KJ c
   .exact g
   .exfalso;by_cases o:⇑(tl p)<=⇑(tl w)+⇑m0
    .let c:=f (tl w)<|tl<|kt m (i :: W);rw[←e,fV ∅,d,gB,ft ∅]at c;exact k<|KJ c
    .by_cases u:⇑(tl w)+⇑(tl m)<=⇑(tl p)
     .refine hp p (by simp) (tl w) ((tl p).drop<|⇑(tl w)+⇑(tl m)) ?_;let l:=M0 (List.take<|⇑(tl w)+⇑(tl m)) e;rw[NY u,←gB,←dV,nY]at l
      conv=>lhs;rw[←kC (⇑(tl w)+⇑(tl m)) (tl p),←dV,l]
      rw[gB,dV]
     .let c:=f (tl p)<|tl<|kt m (j :: P);rw[e,fV ∅]at c;by_cases t:⇑(tl p)+⇑m0-⇑(tl w)<⇑(tl m)
      .rw[ft t,d,fV ∅,show⇑(tl p)+⇑m0-⇑(tl w)-⇑m0=(⇑(tl p)-⇑(tl w)-1)+1 by lia,List.getElem?_cons_succ]at c;exact q<|KJ c
      .rw[fV ∅]at c;exact A8 d k (hw i (by simp)) ∅ c
  let r:=mu e s;let l:tl (kt m (j :: P))=tl (kt m (i :: W)):=Nr r.2;rw[gZ r.1,qN d k q (W:=i :: W) (P:=j :: P) (by simp) (by simp) (λx n=>hw x<|.tail _ n) (λx n=>hp x<|.tail _ n) l]
def zC(x m:Str):jp x m≠[]:=by
 unfold jp;split
 .simp
 .split
  .simp
  .intro h;let:=M0 M6 h;rw[Mo]at this;simp at this
def Gx{m:Str}(a:ul m=1)(x:Str):decide (ul x<ul m)=false:=by
 rw[a];unfold ul;split
 .rfl
 .split <;> rfl
def tq{m:Str}{m0 m1:M3 Nat}{v:Nat}(c:tl m=m0++v :: m1)(k:v ∉ m0)(j:v ∉ m1)(i:ul m=1){W:M3 Str}(h:W≠[])(d:∀w∈W,v ∉ tl w):jp (io m W) m=W:=by
 let g:1<=⇑m:=by rw[←bw,c];simp;lia
 refine qN c k j h (zC _ _) d (λp f a b e=>?_) (by rw[join_split,iA]);let:=pM _ m g (Gx i _) p f ⇑a (by rw[←bw p,e,dV,dV,bw];lia);rw[uf e]at this;cases this
def A9{X:Cx}{K:ac}{tg l:Ej}{tl:TE}(h:X.K=K)(a:PE X l tl):PI X tg l (Dx K tl):=h ▸ aR a
structure HY(X:Cx)(N:M3 Str)(k:Nat)(fr:M3 Nat)(scope:Du)(cl:M3 (Str×AE)):Prop where
 clos:LD scope X.env=pure cl
 kind:scope.kind=.function
 names:∀y∈scope.names,y.2=.local->scope.names.lookup y.1=MO .local
 len:N.length=k+⇑fr
 sub:∀(i:Nat)(y:Str),N[k+i]?=MO y->∃j,fr[i]?=MO j/\X.N[j]?=MO y/\(X.env.kindOf y=MO .cell\/X.env.kindOf y=MO .free)/\((relabel scope X.env).names.lookup y=MO .cell\/(relabel scope X.env).names.lookup y=MO .free)/\∃c,cl.lookup y=MO c/\∀C:AE,(Lm (C+1) scope.names cl).lookup y=MO c
 cells:∀y c,cl.lookup y=MO c->X.env.cells.lookup y=MO c
 has:∀(C:AE)(y:Str),((relabel scope X.env).names.lookup y=MO .cell\/(relabel scope X.env).names.lookup y=MO .free)->∃c,(Lm (C+1) scope.names cl).lookup y=MO c
section
variable{k:Nat}
end
section
variable{b₀:E1}{su:M3 E1}{tb:TSX}{ts:AE->AE->TS}{Tn:Str}{B:AE}
end
end _L
set_option Elab.async false
set_option maxRecDepth 100000
set_option linter.all false
open Lean Parser.Tactic in
local macro_rules(kind:=Lean.Parser.Tactic.obtain)|s=>do
 let p:=s[1][0]
 if p[0][0].getKind==``rcasesPat.tuple&&p[0][0][1].getNumArgs>3&&s[2].isNone then `(tactic|(show let G:Prop:=_;G;intro G;rcases $(⟨s[3][1][0]⟩):term with $(⟨p⟩):rcasesPatMed<;>(unfold G;clear G))) else Macro.throwUnsupported
open Lean Parser.Tactic in
local macro_rules(kind:=Lean.Parser.Tactic.rintro)|s=>do
 let a:=s[1].getArgs
 let n:=Syntax.node .none
 let some i:=a.findIdx? λp=>p[0].getKind==``rcasesPat.tuple&&p[0][1].getNumArgs>3|Macro.throwUnsupported
 let f:=λx:Array Syntax=>n s.getKind #[s[0],n `null x,s[2]]
 let m←`(tactic|(intro h;obtain $(⟨n ``rcasesPatMed #[n `null #[a[i]![0]]]⟩):rcasesPatMed := h))
 let m←if i=0 then pure m else `(tactic|($(⟨f a[:i]⟩);$m))
 if i+1=a.size then pure m else `(tactic|($m;$(⟨f a[i+1:]⟩)))
namespace _M
open PySem _L
inductive E2{α0 α1:Type}(p:α0->α1->Prop):Prop
 |mk (x0:α0)(x1:α1)(h:p x0 x1):E2 p
inductive E3{α0 α1 α2:Type}(p:α0->α1->α2->Prop):Prop
 |mk (x0:α0)(x1:α1)(x2:α2)(h:p x0 x1 x2):E3 p
inductive E4{α0 α1 α2 α3:Type}(p:α0->α1->α2->α3->Prop):Prop
 |mk (x0:α0)(x1:α1)(x2:α2)(x3:α3)(h:p x0 x1 x2 x3):E4 p
inductive E5{α0 α1 α2 α3 α4:Type}(p:α0->α1->α2->α3->α4->Prop):Prop
 |mk (x0:α0)(x1:α1)(x2:α2)(x3:α3)(x4:α4)(h:p x0 x1 x2 x3 x4):E5 p
inductive E6{α0 α1 α2 α3 α4 α5:Type}(p:α0->α1->α2->α3->α4->α5->Prop):Prop
 |mk (x0:α0)(x1:α1)(x2:α2)(x3:α3)(x4:α4)(x5:α5)(h:p x0 x1 x2 x3 x4 x5):E6 p
inductive E7{α0 α1 α2 α3 α4 α5 α6:Type}(p:α0->α1->α2->α3->α4->α5->α6->Prop):Prop
 |mk (x0:α0)(x1:α1)(x2:α2)(x3:α3)(x4:α4)(x5:α5)(x6:α6)(h:p x0 x1 x2 x3 x4 x5 x6):E7 p
inductive A3(p0 p1 p2:Prop):Prop
 |mk (h0:p0)(h1:p1)(h2:p2)
inductive A5(p0 p1 p2 p3 p4:Prop):Prop
 |mk (h0:p0)(h1:p1)(h2:p2)(h3:p3)(h4:p4)
inductive A6(p0 p1 p2 p3 p4 p5:Prop):Prop
 |mk (h0:p0)(h1:p1)(h2:p2)(h3:p3)(h4:p4)(h5:p5)
inductive A7(p0 p1 p2 p3 p4 p5 p6:Prop):Prop
 |mk (h0:p0)(h1:p1)(h2:p2)(h3:p3)(h4:p4)(h5:p5)(h6:p6)
def  top(i:Nat):E1:=PySem.Challenge.pw_rowjudge_k78_whole_written_and_read.main.body.getD i<|.Pass (0,0,0,0,)
abbrev Y36:E1:=top 20
abbrev Y49:E1:=top 21
abbrev Y47:E1:=top 22
abbrev Y73:E1:=top 23
abbrev Y74:E1:=top 24
abbrev Y48:E1:=top 25
abbrev Y35:E1:=top 29
abbrev Y78:E1:=top 30
abbrev Y79:E1:=top 31
abbrev Y85:E1:=top 36
abbrev Y90:E1:=top 38
abbrev Y88:E1:=top 40
abbrev Y94:E1:=top 41
abbrev Y72:E1:=top 42
abbrev EE:E1:=top 44
abbrev Y37:E1:=top 45
abbrev EG:E1:=top 46
abbrev Y45:E1:=top 47
abbrev Y77:E1:=top 52
abbrev Y82:E1:=top 53
abbrev Y80:E1:=top 54
abbrev Y81:E1:=top 55
abbrev Y39:E1:=top 56
abbrev EH:E1:=top 57
abbrev EI:E1:=top 58
abbrev EJ:E1:=top 59
abbrev Y83:E1:=top 60
abbrev EK:E1:=top 61
abbrev EL:E1:=top 70
abbrev Y92:E1:=top 75
abbrev Y87:E1:=top 77
abbrev Y96:E1:=top 79
abbrev Y95:E1:=top 80
abbrev Y75:E1:=top 81
abbrev Y76:E1:=top 92
abbrev EM:E1:=top 93
abbrev Y43:E1:=top 94
abbrev Y42:E1:=top 95
abbrev Y98:E1:=top 96
abbrev Y41:E1:=top 97
abbrev Y86:E1:=top 98
abbrev Y91:E1:=top 100
abbrev Y84:E1:=top 102
abbrev Y89:E1:=top 103
abbrev Y38:E1:=top 104
abbrev Y97:E1:=top 105
abbrev Y93:E1:=top 106
abbrev Y40:E1:=top 107
abbrev Y71:E1:=top 108
abbrev EN:E1:=top 109
abbrev Y46:E1:=top 110
abbrev Y99:E1:=top 111
abbrev Y44:E1:=top 112
abbrev Y51:E1:=top 114
abbrev Y70:E1:=top 115
abbrev Y53:E1:=top 116
abbrev Y61:E1:=top 117
abbrev Y66:E1:=top 118
abbrev Y62:E1:=top 119
abbrev Y52:E1:=top 120
abbrev Y59:E1:=top 121
abbrev Y67:E1:=top 122
abbrev Y55:E1:=top 123
abbrev Y54:E1:=top 124
abbrev Y60:E1:=top 125
abbrev Y56:E1:=top 126
abbrev Y68:E1:=top 127
abbrev Y57:E1:=top 128
abbrev Y69:E1:=top 129
abbrev Y64:E1:=top 130
abbrev Y65:E1:=top 131
abbrev Y63:E1:=top 132
abbrev Y58:E1:=top 133
abbrev Y0:E1:=inClass (top 35) 0
abbrev Y20:E1:=inClass (top 27) 4
abbrev Y34:E1:=inClass (top 28) 4
abbrev Y9:E1:=inClass (top 26) 7
abbrev Y19:E1:=inClass (top 27) 3
abbrev Y5:E1:=inClass (top 26) 5
abbrev Y10:E1:=inClass (top 26) 7
abbrev Y33:E1:=inClass (top 28) 3
abbrev Y6:E1:=inClass (top 26) 5
abbrev Y7:E1:=inClass (top 26) 9
abbrev Y8:E1:=inClass (top 26) 9
abbrev Y11:E1:=inClass (top 91) 0
abbrev Y12:E1:=inClass (top 64) 0
abbrev Y24:E1:=inClass (top 63) 0
abbrev Y21:E1:=inClass (top 65) 0
abbrev Y28:E1:=inClass (top 63) 0
abbrev Y14:E1:=inClass (top 66) 0
abbrev Y26:E1:=inClass (top 63) 0
abbrev Y15:E1:=inClass (top 67) 0
abbrev Y27:E1:=inClass (top 63) 0
abbrev Y13:E1:=inClass (top 68) 0
abbrev Y25:E1:=inClass (top 63) 0
abbrev Y22:E1:=inClass (top 69) 0
abbrev Y29:E1:=inClass (top 63) 0
abbrev Y3:E1:=inClass (top 26) 6
abbrev Y18:E1:=inClass (top 27) 2
abbrev Y17:E1:=inClass (top 27) 1
abbrev Y4:E1:=inClass (top 26) 6
abbrev Y32:E1:=inClass (top 28) 2
abbrev Y31:E1:=inClass (top 28) 1
abbrev Y23:E1:=inClass (top 74) 0
abbrev Y30:E1:=inClass (top 28) 0
abbrev Y2:E1:=inClass (top 26) 0
abbrev Y16:E1:=inClass (top 27) 0
abbrev Y1:E1:=inClass (top 26) 0
abbrev Y50:E1:=top 134
def Z36:ar ["text","signs","sign"] ["text","signs"] (aj Y36):=fsc
def Z49:ar ["text"] ["text"] (aj Y49):=fsc
def Z47:ar ["text","figures"] ["text"] (aj Y47):=fsc
def Z73:ar ["text"] ["text"] (aj Y73):=fsc
def Z74:ar ["number"] ["number"] (aj Y74):=fsc
def Z48:ar ["value"] ["value"] (aj Y48):=fsc
def Z35:ar ["one","other"] ["one","other"] (aj Y35):=fsc
def Z78:ar ["text"] ["text"] (aj Y78):=fsc
def Z79:ar ["text","ends","low","high"] ["text"] (aj Y79):=fsc
def Z85:ar ["facts","tables"] ["facts","tables"] (aj Y85):=fsc
def Z90:ar ["facts","tables","name","domain","names","table"] ["facts","tables"] (aj Y90):=fsc
def Z88:ar ["facts","tables","due","table","name","domain"] ["facts","tables"] (aj Y88):=fsc
def Z94:ar ["tables","left","names","waiting"] ["tables"] (aj Y94):=fsc
def Z72:ar ["table","names"] ["table","names"] (aj Y72):=fsc
def CJ:ar ["pairs","spans","low","high"] ["pairs"] (aj EE):=fsc
def Z37:ar ["ones","others","shared","at_one","at_other","one","other","low","high"] ["ones","others"] (aj Y37):=fsc
def HZ:ar ["ones","others"] ["ones","others"] (aj EG):=fsc
def Z45:ar ["spans","low","high","free","start","first","last","end"] ["spans","low","high"] (aj Y45):=fsc
def Z77:ar ["domain","text"] ["domain","text"] (aj Y77):=fsc
def Z82:ar ["domain","text"] ["domain","text"] (aj Y82):=fsc
def Z80:ar ["domain","part","code"] ["domain","part"] (aj Y80):=fsc
def Z81:ar ["domain","part","ends","low","high"] ["domain","part"] (aj Y81):=fsc
def Z39:ar ["domain","text"] ["domain","text"] (aj Y39):=fsc
def Ia:ar ["domain","spans"] ["domain","spans"] (aj EH):=fsc
def CK:ar ["domain","spans","words","low","high"] ["domain","spans"] (aj EI):=fsc
def Ib:ar ["domain","low","high"] ["domain","low","high"] (aj EJ):=fsc
def Z83:ar ["domain","text"] ["domain","text"] (aj Y83):=fsc
def Ic:ar ["domain","code"] ["domain","code"] (aj EK):=fsc
def Gy:ar ["name","way"] ["name"] (aj EL):=fsc
def Z92:ar ["names","name"] ["names"] (aj Y92):=fsc
def Z87:ar ["names","rows"] ["names","rows"] (aj Y87):=fsc
def Z96:ar ["way","outcome"] ["way","outcome"] (aj Y96):=fsc
def Z95:ar ["domains","outcome","cells","code","domain","spans","low","high"] ["domains","outcome","cells","code"] (aj Y95):=fsc
def Z75:ar ["cells","code"] ["cells","code"] (aj Y75):=fsc
def Z76:ar ["text","lines","facts","drafts","line","named","domains","draft","cells","codes","tables"] ["text"] (aj Y76):=fsc
def Ie:ar ["line","facts","drafts"] ["line","facts","drafts"] (aj EM):=fsc
def Z43:ar ["text","parts"] ["text"] (aj Y43):=fsc
def Z42:ar ["text","named","columns","ending"] ["text"] (aj Y42):=fsc
def Z98:ar ["text","parts"] ["text"] (aj Y98):=fsc
def Z41:ar ["parts"] ["parts"] (aj Y41):=fsc
def Z86:ar ["facts","drafts","draft"] ["facts","drafts"] (aj Y86):=fsc
def Z91:ar ["facts","drafts","names","name","draft"] ["facts","drafts"] (aj Y91):=fsc
def Z84:ar ["draft","names","name"] ["draft","names"] (aj Y84):=fsc
def Z89:ar ["draft","fields","value"] ["draft"] (aj Y89):=fsc
def Z38:ar ["draft","domains"] ["draft","domains"] (aj Y38):=fsc
def Z97:ar ["draft","domains","fields"] ["draft","domains","fields"] (aj Y97):=fsc
def Z93:ar ["draft","outcome","fields","value"] ["draft","outcome"] (aj Y93):=fsc
def Z40:ar ["draft","outcome"] ["draft","outcome"] (aj Y40):=fsc
def Z71:ar ["draft","domains","rows","columns"] ["draft","domains","rows"] (aj Y71):=fsc
def EO:ar ["book","lines","table"] ["book"] (aj EN):=fsc
def Z46:ar ["table","columns"] ["table"] (aj Y46):=fsc
def Z99:ar ["table","k","row"] ["table","k"] (aj Y99):=fsc
def Z44:ar ["domains","cells"] ["domains","cells"] (aj Y44):=fsc
def Z51:ar ["script","k"] ["script","k"] (aj Y51):=fsc
def Z70:ar ["cell","count","letters","head","tail"] ["cell","count"] (aj Y70):=fsc
def Z53:ar ["cell","low","width","words"] ["cell"] (aj Y53):=fsc
def Z61:ar ["domain","cell","width"] ["domain","cell"] (aj Y61):=fsc
def Z66:ar ["kind","one","two","domain","parts"] ["kind","one","two","domain"] (aj Y66):=fsc
def Z62:ar ["columns","domains","pools","own","cell","number","parts","k","one","two"] ["columns","domains","pools","own","cell"] (aj Y62):=fsc
def Z52:ar ["script","facts","total","domains","pools","tables","own","cell","columns","way","k","table"] ["script"] (aj Y52):=fsc
def Z59:ar ["domain"] ["domain"] (aj Y59):=fsc
def Z67:ar ["plan","k","names","domains","tables","own","columns","rows","heads","taken"] ["plan","k"] (aj Y67):=fsc
def Z55:ar ["plan","names","domains","tables"] ["plan"] (aj Y55):=fsc
def Z54:ar ["domain"] ["domain"] (aj Y54):=fsc
def Z60:ar ["domain","pair"] ["domain","pair"] (aj Y60):=fsc
def Z56:ar ["domain","spans"] ["domain","spans"] (aj Y56):=fsc
def Z68:ar ["domain","code"] ["domain","code"] (aj Y68):=fsc
def Z57:ar ["plan","k","names","domains","tables","own","heads","tail"] ["plan","k"] (aj Y57):=fsc
def Z69:ar ["plan","k","row","names","domains","tables","columns","fields","own"] ["plan","k","row"] (aj Y69):=fsc
def Z64:ar ["found","domain"] ["found","domain"] (aj Y64):=fsc
def Z65:ar ["found","plan","k","names","domains","tables","columns","own","j"] ["found","plan","k"] (aj Y65):=fsc
def Z63:ar ["found","plan","order","names","domains","tables","first","k"] ["found","plan","order"] (aj Y63):=fsc
def Z58:ar ["plan","order","names","domains","tables","lines","k"] ["plan","order"] (aj Y58):=fsc
def Z0:ar ["self","facts","tables"] ["self","facts","tables"] (aj Y0):=fsc
def Z20:ar ["self"] ["self"] (aj Y20):=fsc
def Z34:ar ["self"] ["self"] (aj Y34):=fsc
def Z9:ar ["self","code"] ["self","code"] (aj Y9):=fsc
def Z19:ar ["self","code"] ["self","code"] (aj Y19):=fsc
def Z5:ar ["self","value"] ["self","value"] (aj Y5):=fsc
def Z10:ar ["self","code"] ["self","code"] (aj Y10):=fsc
def Z33:ar ["self","code"] ["self","code"] (aj Y33):=fsc
def Z6:ar ["self","value"] ["self","value"] (aj Y6):=fsc
def Z7:ar ["self"] ["self"] (aj Y7):=fsc
def Z8:ar ["self"] ["self"] (aj Y8):=fsc
def Z11:ar ["self","name","columns","domain","way"] ["self","name","columns","domain","way"] (aj Y11):=fsc
def Z12:ar ["self"] ["self"] (aj Y12):=fsc
def Z24:ar ["self","called"] ["self","called"] (aj Y24):=fsc
def Z21:ar ["self"] ["self"] (aj Y21):=fsc
def Z28:ar ["self","called"] ["self","called"] (aj Y28):=fsc
def Z14:ar ["self"] ["self"] (aj Y14):=fsc
def Z26:ar ["self","called"] ["self","called"] (aj Y26):=fsc
def Z15:ar ["self"] ["self"] (aj Y15):=fsc
def Z27:ar ["self","called"] ["self","called"] (aj Y27):=fsc
def Z13:ar ["self"] ["self"] (aj Y13):=fsc
def Z25:ar ["self","called"] ["self","called"] (aj Y25):=fsc
def Z22:ar ["self"] ["self"] (aj Y22):=fsc
def Z29:ar ["self","called"] ["self","called"] (aj Y29):=fsc
def Z3:ar ["self","value"] ["self","value"] (aj Y3):=fsc
def Z18:ar ["self","value"] ["self","value"] (aj Y18):=fsc
def Z17:ar ["self","value"] ["self","value"] (aj Y17):=fsc
def Z4:ar ["self","value"] ["self","value"] (aj Y4):=fsc
def Z32:ar ["self","value"] ["self","value"] (aj Y32):=fsc
def Z31:ar ["self","value"] ["self","value"] (aj Y31):=fsc
def Z23:ar ["self","name","names","domains","outcome","way","rows","cells","code"] ["self","name","names","domains","outcome","way","rows"] (aj Y23):=fsc
def Z30:ar ["self","words","word"] ["self","words"] (aj Y30):=fsc
def Z2:ar ["self","low","high"] ["self","low","high"] (aj Y2):=fsc
def Z16:ar ["self","low","high"] ["self","low","high"] (aj Y16):=fsc
def Z1:ar ["self","low","high"] ["self","low","high"] (aj Y1):=fsc
def Z50:ar ["script","plan","order","book","text","found"] ["script"] (aj Y50):=fsc
structure AD where (a b c d e f g h i j k l m n o p q r s t u v:AE)
structure Bk(K:ac)(Y:AD):Prop where
 n_TableError:ls K B5 "TableError" = MO ↑Y.a
 n_BadNumber:ls K B5 "BadNumber" = MO ↑Y.b
 n_BadDomain:ls K B5 "BadDomain" = MO ↑Y.c
 n_BadCell:ls K B5 "BadCell" = MO ↑Y.d
 n_Outside:ls K B5 "Outside" = MO ↑Y.e
 n_TooMany:ls K B5 "TooMany" = MO ↑Y.f
 n_BadName:ls K B5 "BadName" = MO ↑Y.g
 n_Unlike:ls K B5 "Unlike" = MO ↑Y.h
 n_Ring:ls K B5 "Ring" = MO ↑Y.i
 n_Way:ls K B5 "Way" = MO ↑Y.j
 n_First:ls K B5 "First" = MO ↑Y.k
 n_Only:ls K B5 "Only" = MO ↑Y.l
 n_Like:ls K B5 "Like" = MO ↑Y.m
 n_Low:ls K B5 "Low" = MO ↑Y.n
 n_High:ls K B5 "High" = MO ↑Y.o
 n_Sum:ls K B5 "Sum" = MO ↑Y.p
 n_Domain:ls K B5 "Domain" = MO ↑Y.q
 n_Numbers:ls K B5 "Numbers" = MO ↑Y.r
 n_Words:ls K B5 "Words" = MO ↑Y.s
 n_Table:ls K B5 "Table" = MO ↑Y.t
 n_Book:ls K B5 "Book" = MO ↑Y.u
 n_Draft:ls K B5 "Draft" = MO ↑Y.v
 x_BadNumber:ExcCls K Y.b
 x_BadCell:ExcCls K Y.d
 x_Outside:ExcCls K Y.e
 x_TooMany:ExcCls K Y.f
 x_BadName:ExcCls K Y.g
 x_Unlike:ExcCls K Y.h
 x_Ring:ExcCls K Y.i
 l_BadNumber:jX K Y.b
 l_BadCell:jX K Y.d
 l_Outside:jX K Y.e
 l_TooMany:jX K Y.f
 l_BadName:jX K Y.g
 l_Unlike:jX K Y.h
 l_Ring:jX K Y.i
 k_First:Cls K Y.k
 k_Only:Cls K Y.l
 k_Like:Cls K Y.m
 k_Low:Cls K Y.n
 k_High:Cls K Y.o
 k_Sum:Cls K Y.p
 k_Numbers:Cls K Y.r
 k_Words:Cls K Y.s
 k_Table:Cls K Y.t
 k_Book:Cls K Y.u
 k_Draft:Cls K Y.v
 t_First:oU K Y.k
 t_Only:oU K Y.l
 t_Like:oU K Y.m
 t_Low:oU K Y.n
 t_High:oU K Y.o
 t_Sum:oU K Y.p
 t_Numbers:oU K Y.r
 t_Words:oU K Y.s
 t_Table:oU K Y.t
 t_Book:oU K Y.u
 t_Draft:oU K Y.v
 na_First_called:NoAttr K Y.k "called"
 na_Only_called:NoAttr K Y.l "called"
 na_Like_called:NoAttr K Y.m "called"
 na_Low_called:NoAttr K Y.n "called"
 na_High_called:NoAttr K Y.o "called"
 na_Sum_called:NoAttr K Y.p "called"
 na_Numbers_low:NoAttr K Y.r "low"
 na_Numbers_high:NoAttr K Y.r "high"
 na_Numbers_words:NoAttr K Y.r "words"
 na_Words_low:NoAttr K Y.s "low"
 na_Words_high:NoAttr K Y.s "high"
 na_Words_words:NoAttr K Y.s "words"
 na_Table_name:NoAttr K Y.t "name"
 na_Table_names:NoAttr K Y.t "names"
 na_Table_domains:NoAttr K Y.t "domains"
 na_Table_outcome:NoAttr K Y.t "outcome"
 na_Table_way:NoAttr K Y.t "way"
 na_Table_rows:NoAttr K Y.t "rows"
 na_Book_facts:NoAttr K Y.u "facts"
 na_Book_tables:NoAttr K Y.u "tables"
 na_Draft_name:NoAttr K Y.v "name"
 na_Draft_columns:NoAttr K Y.v "columns"
 na_Draft_domain:NoAttr K Y.v "domain"
 na_Draft_way:NoAttr K Y.v "way"
 na_Draft_rows:NoAttr K Y.v "rows"
 f_nn:NG K (.ref Y.r) (.ref Y.r)=MO MQ
 f_wn:NG K (.ref Y.s) (.ref Y.r)=MO MR
 f_ww:NG K (.ref Y.s) (.ref Y.s)=MO MQ
 f_tt:NG K (.ref Y.t) (.ref Y.t)=MO MQ
 f_nw:NG K (.ref Y.r) (.ref Y.s)=MO MR
 f_x1:OQ K (.ref Y.b) [.ref Y.b,.ref Y.e]=MO MQ
 f_x2:OQ K (.ref Y.e) [.ref Y.b,.ref Y.e]=MO MQ
structure Bl(K:ac)(mg:Str->Option zY)(Y:AD):Prop extends Bk K Y where
 TableError_:mg "TableError" = ↑Y.a
 BadNumber_:mg "BadNumber" = ↑Y.b
 BadDomain_:mg "BadDomain" = ↑Y.c
 BadCell_:mg "BadCell" = ↑Y.d
 Outside_:mg "Outside" = ↑Y.e
 TooMany_:mg "TooMany" = ↑Y.f
 BadName_:mg "BadName" = ↑Y.g
 Unlike_:mg "Unlike" = ↑Y.h
 Ring_:mg "Ring" = ↑Y.i
 Way_:mg "Way" = ↑Y.j
 First_:mg "First" = ↑Y.k
 Only_:mg "Only" = ↑Y.l
 Like_:mg "Like" = ↑Y.m
 Low_:mg "Low" = ↑Y.n
 High_:mg "High" = ↑Y.o
 Sum_:mg "Sum" = ↑Y.p
 Domain_:mg "Domain" = ↑Y.q
 Numbers_:mg "Numbers" = ↑Y.r
 Words_:mg "Words" = ↑Y.s
 Table_:mg "Table" = ↑Y.t
 Book_:mg "Book" = ↑Y.u
 Draft_:mg "Draft" = ↑Y.v
 len_:mg "len" = MP
 int_:mg "int" = MP
 str_:mg "str" = MP
 isinstance_:mg "isinstance" = MP
 bool_:mg "bool" = MP
 set_:mg "set" = MP
 dict_:mg "dict" = MP
 zip_:mg "zip" = MP
 sorted_:mg "sorted" = MP
 max_:mg "max" = MP
 min_:mg "min" = MP
 list_:mg "list" = MP
 enumerate_:mg "enumerate" = MP
 range_:mg "range" = MP
 MOST_SIGNS_:∃u,mg "MOST_SIGNS" = MO u/\RelV (pi 12) u
 SMALL_LETTERS_:∃u,mg "SMALL_LETTERS" = MO u/\RelV (OT "abcdefghijklmnopqrstuvwxyz") u
 MOST_FIGURES_:∃u,mg "MOST_FIGURES" = MO u/\RelV (pi 60) u
 FIGURES_:∃u,mg "FIGURES" = MO u/\RelV (OT "0123456789") u
 MOST_FACTS_:∃u,mg "MOST_FACTS" = MO u/\RelV (pi 20) u
 MOST_TABLES_:∃u,mg "MOST_TABLES" = MO u/\RelV (pi 30) u
 NOT_:∃u,mg "NOT" = MO u/\RelV (OT "not ") u
 ALL_:∃u,mg "ALL" = MO u/\RelV (OT "-") u
 UP_TO_:∃u,mg "UP_TO" = MO u/\RelV (OT "..") u
 MOST_ROWS_:∃u,mg "MOST_ROWS" = MO u/\RelV (pi 200) u
 MOST_COLUMNS_:∃u,mg "MOST_COLUMNS" = MO u/\RelV (pi 4) u
 FACT_:∃u,mg "FACT" = MO u/\RelV (OT "fact ") u
 TABLE_:∃u,mg "TABLE" = MO u/\RelV (OT "table ") u
 WHEN_:∃u,mg "WHEN" = MO u/\RelV (OT "when ") u
 NAMED_:∃u,mg "NAMED" = MO u/\RelV (OT ": ") u
 TO_:∃u,mg "TO" = MO u/\RelV (OT " -> ") u
 BY_:∃u,mg "BY" = MO u/\RelV (OT " by ") u
 BETWEEN_NAMES_:∃u,mg "BETWEEN_NAMES" = MO u/\RelV (OT ", ") u
 BETWEEN_FIELDS_:∃u,mg "BETWEEN_FIELDS" = MO u/\RelV (OT " | ") u
 MOST_WORDS_:∃u,mg "MOST_WORDS" = MO u/\RelV (pi 40) u
def p10(n:Nat):(0:Int)<10^n:=Int.pow_pos ⋯
def z0(a b:Int):atI [pi a,pi b] 0=MO (pi a):=rfl
def z1(a b:Int):atI [pi a,pi b] 1=MO (pi b):=rfl
def d9{H:Hp}{r:AE}{o:HO}{b:AE}{u:HO}(h:H r=MO u)(n:H b=MP):upd H b o r=MO u:=by rw[ay (bF h n)];calc h
def Ba{n:Nat}(h:0<n):ixN n (-1)=MO (n-1):=by
 unfold ixN;rw[MU ⋯,MV ∅]
 congr 1
 lia
def Bb{a:Type}(l:M3 a)(x y:a):(l++[x]).set (⇑(l++[x])-1) y=l++[y]:=by
 let e:⇑(l++[x])-1=⇑l:=by simp
 rw[e,List.set_append_right _ _<|pT _,ve];rfl
def take_snoc{a:Type}{l:M3 a}{i:Nat}{x:a}(e:l[i]?=MO x):l.take (i+1)=l.take i++[x]:=by rw[NP,e];rfl
def zD{qs:M3 (Int×Int)}(h:qs.Pairwise λp q=>ltP q p=MR){i:Nat}{p:Int×Int}(e:qs[i]?=MO p):∀q∈qs.take i,q.1<=p.1:=λq a=>by
 let(hi,rfl):=KH.mp e;let(j,b,rfl):=List.mem_take_iff_getElem.mp a;let z:=Nj.mp h j i ∅ hi ∅;simp only[ltP,NF,decide_eq_false_iff_not]at z;lia
def  lets:Str := "abcdefghijklmnopqrstuvwxyz"
def  isw(z:Str):Bool:=MS ((1:Int)<=((⇑z:Nat):Int)) && (MS (((⇑z:Nat):Int)<=12) && (!MS (OT z=OT "not") && jG z lets))
def ER{l:M3 Nat}{i:Nat}{c:Nat}{p:Nat->Bool}(e:l[i]?=MO c)(h:p c=MR):l.all p=false:=by
 cases q:l.all p with
 |false=>rfl
 |true=>rw[gX.mp q c (KJ e)]at h;cases h
def all_succ{l:M3 Nat}{i:Nat}{c:Nat}{p:Nat->Bool}(e:l[i]?=MO c)(h:p c=MQ)(a:(l.take i).all p=MQ):(l.take<|i+1).all p=true:=by
 rw[take_snoc e,List.all_append,a];simp[h]
def Bc{z g:Str}(h:(z.cps.toList.take z.cps.size).all (sg g)=MQ):jG z g=true:=by
 let e:z.cps.toList.take z.cps.size=z.cps.toList:=by rw[←w5];exact dY
 rw[e]at h;calc h
def ES{g:Str}{c:Nat}(h:(!(!(Fa g ⟨#[c]⟩ 0 ⇑g 1).isEmpty))=MQ):sg g c=false:=by unfold sg;simpa using h
def Gz{g:Str}{c:Nat}(h:¬ (!(!(Fa g ⟨#[c]⟩ 0 ⇑g 1).isEmpty))=MQ):sg g c=true:=by unfold sg;simpa using h
def big{n:Nat}(h:n<=1000):n<=AY:=rM<|aD h
def  mkd(C:AE)(H:Hp)(x a:AE)(lo hi:Int):Hp:=upd (upd H x<|.ins C a [("low",.int lo)]) x<|.ins C a [("low",.int lo),("high",.int hi)]
def put2(v u:V):bX s!"high" u [(s!"low",v)]=[(s!"low",v),(s!"high",u)]:=by
 unfold bX bX;rw[MU ⋯]
def put3(v u t:V):bX s!"words" t [(s!"low",v),(s!"high",u)]=[(s!"low",v),(s!"high",u),(s!"words",t)]:=by
 unfold bX bX bX;rw[MU ⋯,MU ⋯]
def  hiW(zs:M3 Str):Int:=((⇑zs:Nat):Int)-1
structure Good(zs:M3 Str):Prop where
 some_:1<=⇑zs
 few:⇑zs<=40
 words:∀z∈zs,isw z=MQ
 once:zs.Nodup
def jI(zs:M3 Str):(zs.map OT).all eM=true:=by
 rw[List.all_map];calc gX.mpr λ_ _=>U
def cg{zs:M3 Str}{i:Nat}{x:V}(e:(zs.map OT)[i]?=MO x):∃z,x=.str z/\zs[i]?=MO z:=by
 rw[dn]at e;cases q:zs[i]? with
 |none=>rw[q]at e;cases e
 |some z=>rw[q]at e;cases e;calc(z,U,U,)
def fL{zs:M3 Str}{i:Nat}{z:Str}(e:zs[i]?=MO z):(zs.map OT)[i]?=MO (.str z):=by rw[dn,e];rfl
def  six:M3 Str:=[s!"first",s!"only",s!"like",s!"low",s!"high",s!"sum"]
def  WyN(C:AE)(H:Hp)(x:AE)(z:Str):Prop:=∃a,H x=MO (.ins C a [("called",.str z)])
def WyN.same{C:AE}{H H':Hp}{x:AE}{z:Str}(h:WyN C H x z)(s:aq H H'):WyN C H' x z:=by let(a,e):=h;calc(a,s _ _ e,)
def  zE(C:AE)(z:Str):Sp:=λb H Q _=>∃(x a:AE),b=[.ref x]/\H x=MO (.ins C a [])/\Q .non (upd H x<|.ins C a [("called",.str z)])
def eX:2<=AY:=⋯
def  cl6(a b c d e f:AE):M3 AE:=[a,b,c,d,e,f]
def  ET(C:AE)(H:Hp)(a:AE)(lo hi:Int):Prop:=∃b fs,H a=MO (.ins C b fs)/\fs.lookup s!"low"=MO (.int lo)/\fs.lookup s!"high"=MO (.int hi)/\fs.lookup s!"has_code"=MP
def  Dom(cN cW:AE)(H:Hp)(a:AE)(b:Int×Int):Prop:=∃C,(C=cN\/C=cW)/\ET C H a b.1 b.2
def Dom.same{cN cW:AE}{H H':Hp}{a:AE}{b:Int×Int}(h:Dom cN cW H a b)(s:aq H H'):Dom cN cW H' a b:=by let(C,c,d,fs,e,r):=h;calc(C,c,d,fs,s _ _ e,r,)
def  ak{b:Type}(xs:M3 V)(c:M3 b)(P:AE->b->Prop):Prop:=⇑xs=⇑c/\∀(j:Nat)(a:b),c[j]?=MO a->∃r,xs[j]?=↑r/\P r a
def ak.mono{b:Type}{xs:M3 V}{c:M3 b}{P Q:AE->b->Prop}(h:ak xs c P)(k:∀r a,P r a->Q r a):ak xs c Q:=(h.1,λj a e=>let ⟨r,e1,p⟩:=h.2 j a e;(r,e1,k r a p,),)
def ak.nil{b:Type}{P:AE->b->Prop}:ak [] [] P:=(U,(λj a e=>by simp at e),)
def ak.snoc{d:Type}{xs:M3 V}{c:M3 d}{P:AE->d->Prop}{r:AE}{a:d}(h:ak xs c P)(p:P r a):ak (xs++[.ref r]) (c++[a]) P:=by
 refine(by simp[h.1],λj b e=>?_,);by_cases g:j<⇑c
 .rw[ft g]at e;let(i,k,q):=h.2 j b e;exact(i,by rw[ft (by rw[h.1];exact g)];exact k,q,)
 .let f:j=⇑c:=by
   let:=(KH.mp e).1;simp at this;lia
  subst f;simp at e;subst e;calc(r,by rw[←h.1];simp,p,)
def ak.get{c:Type}{xs:M3 V}{b:M3 c}{P:AE->c->Prop}(h:ak xs b P){j:Nat}{x:V}(e:xs[j]?=MO x):∃r a,x=.ref r/\b[j]?=MO a/\P r a:=by
 let g:=(KH.mp e).1;let d:=KG (l:=b) (i:=j) (by rw[←h.1];exact g);let(r,f,p):=h.2 j _ d;rw[e]at f;cases f;calc(r,_,U,d,p,)
abbrev Prs:=List<|Int×Int
def  SpA(N:AE->Prop)(H:Hp)(l:AE)(ps:Prs):Prop:=N l/\∃a,H l=MO (.lst a)/\PL H a ps
def  CL(N:AE->Prop)(H:Hp)(xs:M3 V)(pss:M3 Prs):Prop:=ak xs pss<|SpA N H
abbrev Rw:=M3 Prs×Int
def  iR(N:AE->Prop)(H:Hp)(r:AE)(a:Rw):Prop:=∃b c,H r=MO (.tup [.ref b,.int a.2])/\N b/\H b=MO (.lst c)/\CL N H c a.1
def  RL(N:AE->Prop)(H:Hp)(xs:M3 V)(a:M3 Rw):Prop:=ak xs a<|iR N H
def SpA.same{N:AE->Prop}{H H':Hp}{l:AE}{ps:Prs}(h:SpA N H l ps)(s:aq H H'):SpA N H' l ps:=by let(n,a,e,p):=h;calc(n,a,s _ _ e,p.mono s.tups,)
def CL.same{N:AE->Prop}{H H':Hp}{xs:M3 V}{pss:M3 Prs}(h:CL N H xs pss)(s:aq H H'):CL N H' xs pss:=ak.mono h λ_ _ p=>p.same s
def iR.same{N:AE->Prop}{H H':Hp}{r:AE}{w:Rw}(h:iR N H r w)(s:aq H H'):iR N H' r w:=by let(b,a,e,n,f,c):=h;calc(b,a,s _ _ e,n,s _ _ f,c.same s,)
def RL.same{N:AE->Prop}{H H':Hp}{xs:M3 V}{a:M3 Rw}(h:RL N H xs a)(s:aq H H'):RL N H' xs a:=ak.mono h λ_ _ p=>p.same s
abbrev NT:AE->Prop:=λ_=>True
def SpA.any{N:AE->Prop}{H:Hp}{l:AE}{ps:Prs}(h:SpA N H l ps):SpA NT H l ps:=(trivial,h.2,)
def CL.any{N:AE->Prop}{H:Hp}{xs:M3 V}{pss:M3 Prs}(h:CL N H xs pss):CL NT H xs pss:=ak.mono h λ_ _ p=>p.any
def iR.any{N:AE->Prop}{H:Hp}{r:AE}{w:Rw}(h:iR N H r w):iR NT H r w:=by let(b,a,e,_,f,c):=h;calc(b,a,e,trivial,f,c.any,)
def RL.any{N:AE->Prop}{H:Hp}{xs:M3 V}{a:M3 Rw}(h:RL N H xs a):RL NT H xs a:=ak.mono h λ_ _ p=>p.any
def SpA.wk{N b:AE->Prop}{H:Hp}{l:AE}{ps:Prs}(h:SpA N H l ps)(k:∀a,N a->b a):SpA b H l ps:=(k _ h.1,h.2,)
def CL.wk{N b:AE->Prop}{H:Hp}{xs:M3 V}{pss:M3 Prs}(h:CL N H xs pss)(k:∀a,N a->b a):CL b H xs pss:=ak.mono h λ_ _ p=>p.wk k
def iR.wk{N b:AE->Prop}{H:Hp}{r:AE}{w:Rw}(h:iR N H r w)(k:∀a,N a->b a):iR b H r w:=by let(g,d,e,n,f,c):=h;calc(g,d,e,k _ n,f,c.wk k,)
def SpA.updN{N:AE->Prop}{D:AE}{H:Hp}{l:AE}{ps:Prs}{zs:M3 V}{o:HO}(h:SpA N H l ps)(n:¬ N D)(e:H D=MO (.lst zs)):SpA N (upd H D o) l ps:=by
 let(m,a,f,p):=h;calc(m,a,(ay<|λz=>n (by rw[←z];exact m)).trans f,p.mono<|cx e,)
def CL.updN{N:AE->Prop}{D:AE}{H:Hp}{xs:M3 V}{pss:M3 Prs}{zs:M3 V}{o:HO}(h:CL N H xs pss)(n:¬ N D)(e:H D=MO (.lst zs)):CL N (upd H D o) xs pss:=ak.mono h λ_ _ p=>p.updN n e
def iR.updN{N:AE->Prop}{D:AE}{H:Hp}{r:AE}{w:Rw}{zs:M3 V}{o:HO}(h:iR N H r w)(n:¬ N D)(e:H D=MO (.lst zs)):iR N (upd H D o) r w:=by
 let(b,a,f,m,g,c):=h;calc(b,a,(ay<|dM f e (by intro z;cases z)).trans f,m,(ay<|λz=>n (by rw[←z];exact m)).trans g,c.updN n e,)
def RL.updN{N:AE->Prop}{D:AE}{H:Hp}{xs:M3 V}{a:M3 Rw}{zs:M3 V}{o:HO}(h:RL N H xs a)(n:¬ N D)(e:H D=MO (.lst zs)):RL N (upd H D o) xs a:=ak.mono h λ_ _ p=>p.updN n e
def  Fr(H:Hp)(D:AE):AE->Prop:=λa=>H a=MP/\a≠D
def Fr.out{H:Hp}{D:AE}:¬ Fr H D D:=λh=>h.2 U
structure Kk(b:Int×Int)(zs:M3 Str):Prop where
 le:b.1<=b.2
 ws:zs≠[]->Good zs/\b=(0,hiW zs)
structure pP(bs:Prs)(o:Int×Int)(w:Rw):Prop where
 len:⇑w.1=⇑bs
 inn:∀(j:Nat)(ps:Prs)(b:Int×Int),w.1[j]?=MO ps->bs[j]?=MO b->∀p∈ps,b.1<=p.1/\p.2<=b.2
 lo:o.1<=w.2
 hi:w.2<=o.2
def  Ig(pss:M3 Prs)(cs:M3 Int):Bool:=(gl ⇑cs).all λj=>inP (pss.getD j [])<|cs.getD j 0
def pf1(b a:V):bX s!"names" a [(s!"name",b)]=[(s!"name",b),(s!"names",a)]:=by
 unfold bX bX;rw[MU ⋯]
def pf2(c b a:V):bX s!"domains" a [(s!"name",c),(s!"names",b)]=[(s!"name",c),(s!"names",b),(s!"domains",a)]:=by
 unfold bX bX bX;rw[MU ⋯,MU ⋯]
def pf3(d c b a:V):bX s!"outcome" a [(s!"name",d),(s!"names",c),(s!"domains",b)]=[(s!"name",d),(s!"names",c),(s!"domains",b),(s!"outcome",a)]:=by
 unfold bX bX bX bX;rw[MU ⋯,MU ⋯,MU ⋯]
def pf4(e d c b a:V):bX s!"way" a [(s!"name",e),(s!"names",d),(s!"domains",c),(s!"outcome",b)]=[(s!"name",e),(s!"names",d),(s!"domains",c),(s!"outcome",b),(s!"way",a)]:=by
 unfold bX bX bX bX bX;rw[MU ⋯,MU ⋯,MU ⋯,MU ⋯]
def pf5(f e d c b a:V):bX s!"rows" a [(s!"name",f),(s!"names",e),(s!"domains",d),(s!"outcome",c),(s!"way",b)]=[(s!"name",f),(s!"names",e),(s!"domains",d),(s!"outcome",c),(s!"way",b),(s!"rows",a)]:=by
 unfold bX bX bX bX bX bX;rw[MU ⋯,MU ⋯,MU ⋯,MU ⋯,MU ⋯]
def  hide(H:Hp)(x:AE):Hp:=λb=>if b=x then MP else H b
def cz{H:Hp}{x b:AE}{o:HO}(e:H b=MO o)(n:b≠x):hide H x b=MO o:=by unfold hide;rw[MU n];calc e
def tu{H H':Hp}{x:AE}(k:∀b o,b≠x->H b=MO o->H' b=MO o):aq (hide H x) H':=λb o e=>by
 unfold hide at e;by_cases h:b=x
 .rw[MV h]at e;cases e
 .rw[MU h]at e;calc k b o h e
def PL.hide{H:Hp}{x C c:AE}{fs:M3 (Str×V)}(a:H x=MO (.ins C c fs)){ys:M3 V}{ps:Prs}(h:PL H ys ps):PL (hide H x) ys ps :=
 h.mono λb d e=>cz e<|dM e a (by intro z;cases z)
def RL.hide{H:Hp}{x C i:AE}{fs:M3 (Str×V)}(b:H x=MO (.ins C i fs)){xs:M3 V}{a:M3 Rw}(h:RL NT H xs a):RL NT (_M.hide H x) xs a :=
 ak.mono h λr w (k,j,e,_,f,c,)=>⟨k,j,cz e<|dM e b (by intro z;cases z),trivial,cz f<|dM f b (by intro z;cases z),ak.mono c λl m (_,d,g,p,)=>(trivial,d,cz g<|dM g b (by intro z;cases z),PL.hide b p,)⟩
def  wcs(c k:Int):M3 Nat:=v6 (c / 26%6).toNat (97+(c%26).toNat)++([97+(k / 7%7).toNat,97+(k%7).toNat]++v6 (k%5).toNat (97+(c / 156%26).toNat))
def  wd(c k:Int):Str:=⟨(wcs c k).toArray⟩
def EU{c:Nat}(h:97<=c/\c<=122):sg lets c=true:=by
 let:∀d:Nat,d<26->sg lets (97+d)=true:= ~~~0
 let z:=this (c-97) ∅;rw[show 97+(c-97)=c by lia]at z;calc z
def ug{s:Str}{n:Nat}(h:s.cps.toList=(gl n).map (97 + ·)){k:Int}(c:0<=k)(b:k<n):atI s.cps.toList k=MO (97+k.toNat):=by
 let a:k.toNat<n:=∅
 let z:s.cps.toList[k.toNat]?=MO (97+k.toNat):=by rw[h,dn,oy a];rfl
 let q:=aS z;rw[show((k.toNat:Nat):Int)=k by lia]at q;calc q
def Be:s!"abcdefghijklmnopqrstuvwxyz".cps.toList=(gl 26).map (97 + ·):= ~~~0
abbrev SI:=Str×Int
def  tp(p:SI):M3 V:=[.str p.1,.int p.2]
def  msk(f:Nat->Bool):Nat->Nat
 |0=>0
 |n+1=>(if f n then 2^n else 0)+msk f n
def  fl(a:M3 Rw)(cs:M3 Int):M3 Int:=(a.filter λw=>Ig w.1 cs).map (·.2)
def yA{K:ac}{H:Hp}{n:Nat}{a b:AE}{xs ys:M3 V}(g:SqL K H a xs)(d:SqL K H b ys)(c:⇑xs=⇑ys)(h:∀(j:Nat)(x y:V),xs[j]?=MO x->ys[j]?=MO y->DEq K H n x y MQ):DEq K H (n+1) (.ref a) (.ref b) true:=by
 by_cases e:a=b
 .subst e;exact .same a
 .let:=DEq.lst (f:=λ_=>MQ) e g d c h;rw[show(gl ⇑xs).all (λ_=>MQ)=MQ by simp]at this;calc this
def yB{K:ac}{H:Hp}{n:Nat}{a b:AE}{xs ys:M3 V}(g:SqT K H a xs)(d:SqT K H b ys)(c:⇑xs=⇑ys)(h:∀(j:Nat)(x y:V),xs[j]?=MO x->ys[j]?=MO y->DEq K H n x y MQ):DEq K H (n+1) (.ref a) (.ref b) true:=by
 by_cases e:a=b
 .subst e;exact .same a
 .let:=DEq.tup (f:=λ_=>MQ) e g d h;rw[show((gl<|min ⇑xs ⇑ys).all (λ_=>MQ) && ⇑xs == ⇑ys)=MQ by simp[c]]at this;calc this
def uh{K:ac}{H:Hp}{n:Nat}(i:Int):DEq K H n (.int i) (.int i) true:=by
 let:=DEq.flat (K:=K) (H:=H) (n:=n) (x:=.int i) (y:=.int i) U U;rw[show eqV (.int i) (.int i)=MQ by simp[eqV]]at this;calc this
def EV{K:ac}{H:Hp}{n:Nat}{xs ys:M3 V}{ps:Prs}(h:PL H xs ps)(h':PL H ys ps)(j:Nat)(x y:V)(i:xs[j]?=MO x)(g:ys[j]?=MO y):DEq K H (n+1) x y true:=by
 let(u,r,f,rfl,e):=h.get i;let(k,l,b,rfl,d):=h'.get g;rw[f]at b;cases b;refine yB (OV e) (OV d) U λj x y a c=>?_
 rw[a]at c;cases c
 match j,a with
 |0,a=>cases a;exact uh _
 |1,a=>cases a;exact uh _
 |j+2,a=>simp at a
def CM{K:ac}{H:Hp}{r k:AE}{w:Rw}(h:iR NT H r w)(h':iR NT H k w):DEq K H 60 (.ref r) (.ref k) true:=by
 let(I,G,q,_,p,o):=h;let(C,B,g,_,f,d):=h';refine yB (n:=59) (OV q) (OV g) U λj x y a b=>?_
 match j,a,b with
 |0,a,b =>
  cases a;cases b;refine yA (n:=58) (OU p) (OU f) (by rw[o.1,d.1]) λj x y t s=>?_
  let(l,E,rfl,u,_,D,v,m):=ak.get o t;let(F,A,rfl,e,_,z,i,c):=ak.get d s;rw[u]at e;cases e;exact yA (n:=57) (OU v) (OU i) (by rw[⇑m,⇑c]) (EV (n:=56) m c)
 |1,a,b=>cases a;cases b;exact uh _
 |j+2,a,b=>simp at a
def zF{K:ac}{H:Hp}{Q:VK}{a b:AE}{xs ys:M3 V}(e:SqL K H a xs)(d:SqL K H b ys)(c:⇑xs=⇑ys)(h:∀(j:Nat)(x y:V),xs[j]?=MO x->ys[j]?=MO y->DEq K H 60 x y MQ)(q:Q (.bl MQ) H):AJ K MR (.ref a) (.ref b) H Q:=by
 calc(a,b,xs,ys,U,U,e,d,.inr (c,λ_=>MQ,h,?_,),);rw[show(gl ⇑xs).all (λ_=>MQ)=MQ by simp];calc q
def Bf{K:ac}{H:Hp}{xs ys:M3 V}{a:M3 Rw}(h:RL NT H xs a)(h':RL NT H ys a)(j:Nat)(x y:V)(g:xs[j]?=MO x)(f:ys[j]?=MO y):DEq K H 60 x y true:=by
 let(r,w,rfl,e,d):=ak.get h g;let(k,i,rfl,b,c):=ak.get h' f;rw[e]at b;cases b;calc CM d c
structure Col where
 prs:Prs
 w:Bool
 sd:Int
structure Ch(ps:Prs):Prop where
 le:∀(i:Nat)(p:Int×Int),ps[i]?=MO p->p.1<=p.2
 nxt:∀(i:Nat)(p q:Int×Int),ps[i]?=MO p->ps[i+1]?=MO q->q.1=p.2+1
structure Kl(c:Col):Prop where
 some_:1<=⇑c.prs
 few:⇑c.prs<=6
 ch:Ch c.prs
 w0:c.w=MQ->∀p,c.prs[0]?=MO p->p.1=0
 wl:c.w=MQ->∀(i:Nat)(p:Int×Int),c.prs[i]?=MO p->p.2<40
def  Col.lo(c:Col):Int:=(c.prs.headD (0,0)).1
def  Col.hi(c:Col):Int:=(c.prs.getLastD (0,0)).2
def  Col.b(c:Col):Int×Int:=(c.lo,c.hi)
structure Srt(ps:Prs):Prop where
 le:∀(i:Nat)(p:Int×Int),ps[i]?=MO p->p.1<=p.2
 lt:∀(i j:Nat)(p q:Int×Int),i<j->ps[i]?=MO p->ps[j]?=MO q->p.2<q.1
structure Ih(prs:Prs)(b n:Nat)(ps:Prs):Prop where
 srt:Srt ps
 iff:∀x:Int,inP ps x=MQ↔∃(k:Nat)(p:Int×Int),k<n/\prs[k]?=MO p/\b.testBit k=MQ/\p.1<=x/\x<=p.2
def  mrg(a:Prs)(b:Nat):Nat->Prs
 |0=>[]
 |n+1=>if b.testBit n then(if (MS (0<n) && b.testBit (n-1)) then(mrg a b n).dropLast++[(((mrg a b n).getLastD (0,0)).1,(a.getD n (0,0)).2)]else mrg a b n++[a.getD n (0,0)])else mrg a b n
abbrev BW:=M3 Nat×Int
def  vN(bs:M3 Nat):M3 V:=bs.map λb:Nat=>pi (b:Int)
def jm(bs:M3 Nat):⇑(vN bs)=⇑bs:=by unfold vN;rw[bQ]
def Bg{bs:M3 Nat}{j b:Nat}(e:bs[j]?=MO b):(vN bs)[j]?=MO (.int (b:Int)):=by unfold vN;rw[dn,e];rfl
def qO{bs:M3 Nat}{j:Nat}{x:V}(e:(vN bs)[j]?=MO x):∃b:Nat,x=.int (b:Int)/\bs[j]?=MO b:=by
 unfold vN at e;rw[dn]at e;cases q:bs[j]? with
 |none=>rw[q]at e;cases e
 |some b=>rw[q]at e;cases e;calc(b,U,U,)
structure Km(cs:M3 Col)(o:Col)(w:BW):Prop where
 len:⇑w.1=⇑cs
 lt:∀(j b:Nat)(c:Col),w.1[j]?=MO b->cs[j]?=MO c->b<2^⇑c.prs
 lo:o.lo<=w.2
 hi:w.2<=o.hi
structure Ks(cs:M3 Col)(w:BW)(x:Rw):Prop where
 code:x.2=w.2
 len:⇑x.1=⇑cs
 sp:∀(j:Nat)(ps:Prs)(c:Col)(b:Nat),x.1[j]?=MO ps->cs[j]?=MO c->w.1[j]?=MO b->Ih c.prs b ⇑c.prs ps
 is:∀(j:Nat)(ps:Prs)(c:Col)(b:Nat),x.1[j]?=MO ps->cs[j]?=MO c->w.1[j]?=MO b->ps=mrg c.prs b ⇑c.prs
def  grow(a:M3 (M3 Nat))(n:Nat):M3 (M3 Nat):=a.flatMap λp=>(gl n).map λk=>p++[k]
def  prm{a:Type}(os:M3 Nat)(xs:M3 a):M3 a:=os.filterMap (xs[·]?)
structure Pm(os:M3 Nat)(n:Nat):Prop where
 len:⇑os=n
 lt:∀k∈os,k<n
 nd:os.Nodup
 all:∀k,k<n->k∈os
def vF{a:Type}{o:Nat}{os:M3 Nat}{xs:M3 a}(h:o<⇑xs):prm (o :: os) xs=xs[o] :: prm os xs:=by
 unfold prm;rw[jz,KG h]
def bT{b:Type}:∀{os:M3 Nat}{xs:M3 b},(∀k∈os,k<⇑xs)->⇑(prm os xs)=⇑os/\∀(j k:Nat),os[j]?=MO k->(prm os xs)[j]?=xs[k]?
 | [],xs,_=>(U,λj k e=>by simp at e,)
 |o :: os,xs,h=>by
  let(g,d):=bT (os:=os) (xs:=xs) λk c=>h k<|eY _ c
  let a:=h o gb;rw[vF a];refine(by rw[gv,gv,g],λj k f=>?_,)
  match j,f with
  |0,f =>
   let:o=k:= ~~~f
   subst this;rw[KG a];rfl
  |j+1,f=>calc d j k (~~~f)
def oi{a:Type}{os:M3 Nat}{k:Nat}{xs:M3 a}{x:a}(e:xs[k]?=MO x):prm (os++[k]) xs=prm os xs++[x]:=by
 unfold prm;rw[Ov];simp[e]
def yC{a b:Type}(f:a->b)(os:M3 Nat)(xs:M3 a):prm os (xs.map f)=(prm os xs).map f:=by
 unfold prm;rw[List.map_filterMap]
 congr 1
 funext k
 rw[dn]
def ui{a:Type}{os:M3 Nat}{xs:M3 a}{x:a}(h:x∈prm os xs):x∈xs:=by
 unfold prm at h;let(k,_,e):=nF.mp h;calc KJ e
def qP{a:Type}{xs:M3 a}(h:xs.Nodup){i j:Nat}{x:a}(e:xs[i]?=MO x)(f:xs[j]?=MO x):i=j:=by
 let(hi,d):=KH.mp e;let(b,c):=KH.mp f;let p:=Nj.mp<|FS.mp h;rcases uM i j with q|q|q
 .exact MW (d.trans c.symm)<|p i j hi b q
 .exact q
 .exact MW (c.trans d.symm)<|p j i b hi q
def tw{g:Type}{os:M3 Nat}{xs:M3 g}(a:os.Nodup)(i:xs.Nodup)(d:∀k∈os,k<⇑xs):(prm os xs).Nodup:=by
 induction os with
 |nil=>exact mD
 |cons o os h =>
  rw[gi]at a;let hi:=h a.2 λk b=>d k<|eY _ b
  let e:=d o gb;rw[vF e,gi];calc(λc=>?_,hi,);unfold prm at c;let(k,b,f):=nF.mp c;let:k=o:=qP i f<|KG e;subst this;calc a.1 b
def  TF(j:AE)(H:Hp)(t:AE)(nm f:Str)(g:AE)(zs:M3 Str)(i:M3 V)(b:M3 Rw):Prop:=∃(c h d e:AE)(fs:M3 (Str×V))(a:M3 V),H t=MO (.ins j h fs)/\fs.lookup s!"rows"=↑c/\fs.lookup s!"name"=MO (.str nm)/\fs.lookup s!"way"=MO (.str f)/\fs.lookup s!"outcome"=↑g/\fs.lookup s!"names"=↑d/\fs.lookup s!"domains"=↑e/\H d=MO (.lst<|zs.map OT)/\H e=MO (.lst i)/\H c=MO (.lst a)/\RL NT H a b/\⇑a<=200
def TF.same{g:AE}{H H':Hp}{t:AE}{nm d:Str}{e:AE}{zs:M3 Str}{f:M3 V}{a:M3 Rw}(h:TF g H t nm d e zs f a)(s:aq H H'):TF g H' t nm d e zs f a:=by
 let(j,x,k,y,fs,i,w,v,u,q,p,o,n,m,l,c,b,r):=h;calc(j,x,k,y,fs,i,s _ _ w,v,u,q,p,o,n,s _ _ m,s _ _ l,s _ _ c,b.same s,r,)
structure TOk(cN cW:AE)(H:Hp)(nm wy:Str)(ou:AE)(zs:M3 Str)(dv:M3 V)(rws:M3 Rw)(bs:Prs)(o:Int×Int):Prop where
 words:∀z∈nm :: zs,isw z=MQ
 once:(nm :: zs).Nodup
 one:1<=⇑zs
 four:⇑zs<=4
 way:wy∈six
 sum:wy=s!"sum" -> ∃dx fs,H ou=MO (.ins cN dx fs)
 doms:ak dv bs (Dom cN cW H)
 out:Dom cN cW H ou o
 len:⇑bs=⇑zs
 rows:∀w∈rws,pP bs o w
 few:⇑rws<=200
def qQ{H:Hp}{D:AE}{o:HO}:hide (upd H D o) D=hide H D:=by
 funext b
 unfold hide;by_cases h:b=D
 .rw[MV h,MV h]
 .rw[MU h,MU h,ay h]
def iK{H H':Hp}{D:AE}(s:aq H H'):aq (hide H D) (hide H' D):=λb o e=>by
 unfold hide at e⊢;by_cases h:b=D
 .rw[MV h]at e;cases e
 .rw[MU h]at e⊢;calc s b o e
def qg(H:Hp)(D:AE):aq (hide H D) H:=λb o e=>by
 unfold hide at e;by_cases h:b=D
 .rw[MV h]at e;cases e
 .rw[MU h]at e;calc e
def  my(C:AE)(H:Hp)(a:AE)(zs:M3 Str):Prop:=∃b l,H a=MO (.ins C b [("low",.int 0),("high",.int<|hiW zs),("words",.ref l)])/\H l=MO (.lst<|zs.map OT)
def  hU(C:AE)(H:Hp)(a:AE)(lo hi:Int):Prop:=∃b,H a=MO (.ins C b [("low",.int lo),("high",.int hi)])
def my.same{C:AE}{H H':Hp}{a:AE}{zs:M3 Str}(h:my C H a zs)(s:aq H H'):my C H' a zs:=by let(b,l,e,f):=h;calc(b,l,s _ _ e,s _ _ f,)
def hU.same{C:AE}{H H':Hp}{a:AE}{lo hi:Int}(h:hU C H a lo hi)(s:aq H H'):hU C H' a lo hi:=by let(b,e):=h;calc(b,s _ _ e,)
def  bnd(i:Int):Prop:=i.natAbs<10^60
def  DN(cN cW:AE)(H:Hp)(d:AE)(c:Int)(z:Str):Prop :=
 (∃lo hi,hU cN H d lo hi/\lo<=c/\c<=hi/\bnd c/\z=toString c)\/∃a,my cW H d a/\0<=c/\a[c.toNat]?=MO z
def Bh{l:M3 Nat}(j:1<=⇑l)(i:⇑l<=12)(f:∀x∈l,97<=x/\x<=122)(d:l≠[110,111,116]):isw ⟨l.toArray⟩=true:=by
 let c:jG ⟨l.toArray⟩ lets=true:=by
  unfold jG;rw[gX];intro x a;exact EU<|f x<|~~~a
 let b:¬ (OT ⟨l.toArray⟩=OT s!"not"):=λh=>by
  injection h with h;let e:s!"not" = ⟨[110,111,116].toArray⟩:= ~~~0
  rw[e]at h;injection h with h;exact d<|~~~M0 NN h
 let g:⇑(⟨l.toArray⟩:Str)=⇑l:=by simp[wS]
 unfold isw;rw[c,MX (show(1:Int)<=((⇑(⟨l.toArray⟩:Str):Nat):Int) by lia),MX (show((⇑(⟨l.toArray⟩:Str):Nat):Int)<=12 by lia)];show(MQ && (MQ && (!MS (OT ⟨l.toArray⟩=OT s!"not") && MQ)))=MQ;rw[MY b];rfl
def  pz(t:Int):M3 Nat:=[122,117,118].take t.toNat
def iQ{i:Int}(h:bnd i):i.natAbs.log2<1920:=by
 by_cases a:i.natAbs=0
 .rw[a];decide
 .refine(Nat.log2_lt a).mpr ?_;let k:(10^60:Nat)<=2^200:=⋯
  let b:(2:Nat)^200<=2^1920:=OD ⋯ ⋯;unfold bnd at h;calc ri h<|qu k b
def len_num{i:Int}(h:bnd i):⇑(lm<|toString i)<=61:=by
 let e:⇑(lm<|toString i)=⇑(toString i):=by
  rw[L2];show(List.map OL (toString i).toList).toArray.size=_;rw[eg,bQ];exact Om
 rw[e];calc Me ⋯ h
def GA{k:Int}(b:0<=k)(a:k<40):bnd k:=by
 unfold bnd;let e:(40:Nat)<=10^60:=⋯
 generalize (10^60:Nat)=W at e⊢;lia
abbrev Dk:=Option (M3 Str)×Int×Int
def  cS(cN cW:AE)(H:Hp)(d:AE)(k:Dk):Prop:=match k.1 with
 |none=>hU cN H d k.2.1 k.2.2
 |some a=>my cW H d a/\k.2.1=0/\k.2.2=hiW a/\Good a
def cS.same{cN cW:AE}{H H':Hp}{d:AE}{k:Dk}(h:cS cN cW H d k)(s:aq H H'):cS cN cW H' d k:=by
 let(w,lo,hi):=k;cases w with
 |none=>exact hU.same h s
 |some a=>calc(h.1.same s,h.2,)
def  oX(zs:M3 Str)(lo hi:Option Int):M3 Str:=(zs.drop<|HT.sIx ⇑zs 0 lo).take<|HT.sIx ⇑zs ⇑zs hi-HT.sIx ⇑zs 0 lo
def vG(zs:M3 Str)(lo hi:Option Int):yZ (zs.map OT) lo hi=(oX zs lo hi).map OT:=by
 unfold yZ oX;rw[bQ,List.map_take,List.map_drop]
def oj(zs:M3 Str)(lo hi:Option Int):⇑(oX zs lo hi)<=⇑zs:=by
 unfold oX;rw[eH,lR];lia
def om{zs:M3 Str}{lo hi:Option Int}{z:Str}(h:z∈oX zs lo hi):z∈zs:=List.mem_of_mem_drop<|jh h
structure EW(k:Dk)(p:Pr):Prop where
 lo:k.2.1<=p.1
 le:p.1<=p.2
 hi:p.2<=k.2.2
 b1:bnd p.1
 b2:bnd p.2
def  GdK(k:Dk):Prop:=match k.1 with
 |none=>True
 |some a=>Good a
def  kR(N:AE->Prop)(cN cW:AE)(H:Hp)(d:AE)(k:Dk):Prop:=match k.1 with
 |none=>hU cN H d k.2.1 k.2.2
 |some a=>(∃b l,N l/\H d=MO (.ins cW b [("low",.int 0),("high",.int<|hiW a),("words",.ref l)])/\H l=MO (.lst<|a.map OT))/\k.2.1=0/\k.2.2=hiW a/\Good a
def kR.dom{N:AE->Prop}{cN cW:AE}{H:Hp}{d:AE}{k:Dk}(h:kR N cN cW H d k):cS cN cW H d k:=by
 let(w,lo,hi):=k;cases w with
 |none=>exact h
 |some b=>obtain⟨⟨a,l,_,e,f⟩,r⟩:=h;calc((a,l,e,f,),r,)
def kR.same{N:AE->Prop}{cN cW:AE}{H H':Hp}{d:AE}{k:Dk}(h:kR N cN cW H d k)(s:aq H H'):kR N cN cW H' d k:=by
 let(w,lo,hi):=k;cases w with
 |none=>exact hU.same h s
 |some b=>obtain⟨⟨a,l,n,e,f⟩,r⟩:=h;calc((a,l,n,s _ _ e,s _ _ f,),r,)
def kR.upd{N:AE->Prop}{cN cW:AE}{H:Hp}{d D:AE}{k:Dk}{o:HO}{zs:M3 V}(h:kR N cN cW H d k)(n:¬ N D)(e:H D=MO (.lst zs)):kR N cN cW (upd H D o) d k:=by
 let(w,lo,hi):=k;cases w with
 |none =>
  let(a,f):=h;exact⟨a,(ay<|dM f e (by intro z;cases z)).trans f⟩
 |some b =>
  let((a,l,m,f,g),r):=h;calc((a,l,m,(ay<|dM f e (by intro z;cases z)).trans f,(ay<|λ(z:l=D)=>n (by rw[←z];exact m)).trans g,),r,)
def df{z:Str}(h:isw z=MQ):⇑z<=12:=by
 unfold isw at h;simp only[wh,decide_eq_true_eq]at h;lia
def Bi{zs:M3 Str}{m:Nat}(h:∀z∈zs,⇑z<=m):(zs.map (·.length)).sum<=⇑zs*m:=by
 induction zs with
 |nil=>simp
 |cons z zs a =>
  let d:=h z (by simp);let c:=a λy b=>h y<|eY _ b
  rw[gs,pR,gv,u3];lia
def fC{zs:M3 Str}{m n:Nat}(h:∀z∈zs,⇑z<=m)(a:⇑zs<=n)(b:n*m+n*64<=16777216):(zs.map (·.length)).sum+⇑zs*64<=16777216:=by
 let e:=Bi h;let d:⇑zs*m<=n*m:=sT m a;let c:⇑zs*64<=n*64:=sT 64 a;lia
def  pairEq(p q:Pr):Bool:=eqV (.int p.1) (.int q.1) && eqV (.int p.2) (.int q.2)
def xu(p q:Pr):pairEq p q=MS (p=q):=by
 let(a,b):=p;let(c,d):=q;unfold pairEq eqV;by_cases e:a=c
 .by_cases f:b=d
  .subst e f;simp
  .simp[e,f]
 .simp[e]
def Bj{K:ac}{H:Hp}{Q:VK}{a b t u:AE}{p q:Pr}(k:SqL K H a [.ref t])(i:SqL K H b [.ref u])(g:H t=MO (.tup [.int p.1,.int p.2]))(f:H u=MO (.tup [.int q.1,.int q.2]))(h:Q (.bl<|MS<|p=q) H):vm K MR (.ref a) (.ref b) H Q:=by
 refine(a,b,_,_,U,U,k,i,.inr (U,λ_=>pairEq p q,λj x y c d=>?_,?_,),)
 .match j,c,d with
  |0,c,d =>
   cases c;cases d;let:=EqI.tup (K:=K) (OV g) (OV f) U U;let e:(MS (⇑([pi p.1,.int p.2]:M3 V)=⇑([pi q.1,.int q.2]:M3 V)) && (lc eqV [pi p.1,.int p.2] [pi q.1,.int q.2]).all id)=pairEq p q:=by
    unfold pairEq;simp
   rw[e]at this;exact this
  |j+1,c,d=>simp at c
 .show Q (.bl<|(gl 1).all λ_=>pairEq p q) H;let e:((gl 1).all λ_=>pairEq p q)=MS (p=q):=by rw[←xu];simp[jA]
  rw[e];calc h
def  shN(lo hi:Int)(p:Pr):Str:=if p.1=p.2 then lm (toString p.1)else if p.1=lo then s!".." ++ lm (toString p.2)else if p.2=hi then lm (toString p.1)++s!".." else lm (toString p.1)++s!".." ++ lm (toString p.2)
def iq:s!"..".length=2:= ~~~0
def aK(a b:Str):⇑(a++b)=⇑a+⇑b:=by
 show⇑(wv a b)=_;unfold wv wS;simp
def yD{lo hi:Int}{p:Pr}(d:bnd p.1)(c:bnd p.2):⇑(shN lo hi p)<=200:=by
 let a:=len_num d;let b:=len_num c;unfold shN;split
 .lia
 .split
  .rw[aK,iq];lia
  .split
   .rw[aK,iq];lia
   .rw[aK,aK,iq];lia
def  hcs(c:Int):M3 Nat:=(gl (c%6).toNat).map λj:Nat=>97+(c / (3*(0+(j:Int))+1)%13).toNat
def  tcs(c:Int):M3 Nat:=(gl (c / 7%6).toNat).map λj:Nat=>97+(c / (5*(0+(j:Int))+2)%13).toNat
def  lwc(c k:Int):M3 Nat:=hcs c++([97+((c / 11+3*k)%26).toNat]++tcs c)
def  lw(c k:Int):Str:=⟨(lwc c k).toArray⟩
def  lws(c:Int)(n:Nat):M3 Str:=(gl n).map λj:Nat=>lw c<|0+(j:Int)
def Bm(c:Int)(n:Nat):lws c (n+1)=lws c n++[lw c (0+(n:Int))]:=by unfold lws;rw[jA,dy];rfl
def mi(c:Int)(n:Nat):⇑(lws c n)=n:=by unfold lws;simp
def jY{c k:Int}{x:Nat}(h:x∈lwc c k):(97<=x/\x<=109)\/x=97+((c / 11+3*k)%26).toNat:=by
 unfold lwc at h;rcases eA.mp h with h|h
 .unfold hcs at h;let(j,_,rfl):=ck.mp h;let:=v3 (c / (3*(0+(j:Int))+1)) (show(0:Int)<13 by decide);lia
 .rcases eA.mp h with h|h
  .exact .inr<|~~~h
  .unfold tcs at h;let(j,_,rfl):=ck.mp h;let:=v3 (c / (5*(0+(j:Int))+2)) (show(0:Int)<13 by decide);lia
def qh(c:Int):⇑(hcs c)<=5:=by
 unfold hcs;rw[bQ,jf];let:=v3 c (show(0:Int)<6 by decide);lia
def qi(c:Int):⇑(tcs c)<=5:=by
 unfold tcs;rw[bQ,jf];let:=v3 (c / 7) (show(0:Int)<6 by decide);lia
def Bo(c k:Int):isw (lw c k)=true:=by
 let g:=qh c;let f:=qi c;let e:=v3 (c / 11+3*k) (show(0:Int)<26 by decide);refine Bh (by unfold lwc;simp;lia) (by unfold lwc;simp;lia) (λx d=>?_) (λh=>?_)
 .rcases jY d with d|d <;> lia
 .let a:(110:Nat)∈lwc c k:=by rw[h];simp
  let b:(111:Nat)∈lwc c k:=by rw[h];simp
  rcases jY a with a|a
  .lia
  .rcases jY b with b|b <;> lia
def EY{c k a:Int}(h:0<=k)(g:k<8)(f:0<=a)(b:a<8)(e:lw c k=lw c a):k=a:=by
 unfold lw at e;injection e with e;let e:lwc c k=lwc c a:= ~~~M0 NN e
 unfold lwc at e;let e:=Nr e;injection e with j i;let:=vl (c / 11+3*k) (show(26:Int)≠0 by decide);let:=vl (c / 11+3*a) (show(26:Int)≠0 by decide);generalize c / 11=d at *
 lia
def tD{c:Int}{n:Nat}(h:n<=8):(lws c n).Nodup:=by
 unfold lws;rw[FS,NQ];calc NM (R:=λa b=>a≠b) (λ{a b} f d g e=>?_) List.nodup_range;let f:=gW.mp f;let d:=gW.mp d;let:=EY ∅ ∅ ∅ ∅ e;lia
def yE{c:Int}{n:Nat}{z:Str}(hz:z∈lws c n):isw z=true:=by
 unfold lws at hz;let(j,_,rfl):=ck.mp hz;calc Bo _ _
def Bp{c:Int}{n:Nat}(d:1<=n)(b:n<=8):Good (lws c n):=(by rw[mi];exact d,by rw[mi];lia,λz a=>yE a,tD b,)
def qR:∀xs:M3 Nat,io s!"" (xs.map λx=>(⟨#[x]⟩:Str))=⟨xs.toArray⟩:=λxs=>by
 rw[show io s!"" (xs.map λx=>(⟨#[x]⟩:Str))=s!"".join (xs.map λx=>(⟨#[x]⟩:Str))from N9 _ _];let c:s!"" = re:= ~~~0
 rw[c];induction xs with
 |nil=>rfl
 |cons x xs b =>
  cases xs with
  |nil=>rfl
  |cons y a =>
   show(⟨#[x]⟩:Str)++re++kt re ((y :: a).map λx=>(⟨#[x]⟩:Str))=_;rw[b];show wv (wv _ _) _=_;unfold wv re;simp
def vH(xs:M3 Nat)(h:⇑xs<=5):((xs.map λx=>(⟨#[x]⟩:Str)).map (·.length)).sum+⇑(xs.map λx=>(⟨#[x]⟩:Str))*64<=16777216 :=
 fC (m:=1) (n:=5) (λz a=>by let(x,_,rfl):=ck.mp a;exact pT 1) (by rw[bQ];exact h) ⋯
structure PD where
 lo:Int
 hi:Int
 ws:M3 Str
def  PDA(N:AE->Prop)(H:Hp)(r:AE)(p:PD):Prop:=∃l:AE,N r/\N l/\H r=MO (.tup [.int p.lo,.int p.hi,.ref l])/\H l=MO (.lst<|p.ws.map OT)
def PDA.same{N:AE->Prop}{H H':Hp}{r:AE}{p:PD}(h:PDA N H r p)(s:aq H H'):PDA N H' r p:=by let(l,n,m,e,f):=h;calc(l,n,m,s _ _ e,s _ _ f,)
def PDA.wk{N a:AE->Prop}{H:Hp}{r:AE}{p:PD}(h:PDA N H r p)(w:∀x,N x->a x):PDA a H r p:=by let(l,n,m,e,f):=h;calc(l,w _ n,w _ m,e,f,)
def  PD.k(p:PD):Dk:=(if p.ws=[]then MP else MO p.ws,p.lo,p.hi)
structure iS(p:PD):Prop where
 le:p.lo<=p.hi
 wd:p.ws≠[]->Good p.ws/\p.lo=0/\p.hi=hiW p.ws
 bd:∀x:Int,p.lo<=x->x<=p.hi->bnd x
def p30:(10:Int)^(30:Int).toNat=((10^30:Nat):Int):=⋯
def p29:(10:Int)^(29:Int).toNat=((10^29:Nat):Int):=⋯
def GB{x:Int}(b : -((10^31:Nat):Int)<=x)(a:x<=((10^31:Nat):Int)):bnd x:=by
 unfold bnd;let k:(10^31:Nat)<10^60:=⋯
 generalize (10^31:Nat)=A at b a k;generalize (10^60:Nat)=W at k⊢;lia
def m5{i j:Int}(h:0<j)(a:j<1000):FT i j:=(h,∅,)
def pl1{H:Hp}{t l:AE}{a b:Int}(d:H t=MP)(c:upd H t (.tup [.int a,.int b]) l=MP):aq H (upd (upd H t<|.tup [.int a,.int b]) l<|.lst [.ref t])/\upd (upd H t<|.tup [.int a,.int b]) l (.lst [.ref t]) l=MO (.lst [.ref t])/\PL (upd (upd H t<|.tup [.int a,.int b]) l<|.lst [.ref t]) [.ref t] [(a,b)] :=
 ((ah d _).trans<|ah c _,af,.cons (t,U,ah c _ _ _ af,) .nil,)
def pl2{H:Hp}{t u l:AE}{a b c d:Int}(g:H t=MP)(f:upd H t (.tup [.int a,.int b]) u=MP)(e:upd (upd H t<|.tup [.int a,.int b]) u (.tup [.int c,.int d]) l=MP):aq H (upd (upd (upd H t<|.tup [.int a,.int b]) u<|.tup [.int c,.int d]) l<|.lst [.ref t,.ref u])/\upd (upd (upd H t<|.tup [.int a,.int b]) u<|.tup [.int c,.int d]) l (.lst [.ref t,.ref u]) l=MO (.lst [.ref t,.ref u])/\PL (upd (upd (upd H t<|.tup [.int a,.int b]) u<|.tup [.int c,.int d]) l<|.lst [.ref t,.ref u]) [.ref t,.ref u] [(a,b),(c,d)] :=
 (((ah g _).trans<|ah f _).trans<|ah e _,af,.cons (t,U,ah e _ _ _<|ah f _ _ _ af,)<|.cons (u,U,ah e _ _ _ af,) .nil,)
def  PoA(N:AE->Prop)(H:Hp)(a:AE)(p:PD):Prop:=N a/\∃b:M3 Int,H a=MO (.lst<|b.map pi)/\⇑b=3/\∀x∈b,p.lo<=x/\x<=p.hi
def PoA.same{N:AE->Prop}{H H':Hp}{a:AE}{p:PD}(h:PoA N H a p)(s:aq H H'):PoA N H' a p:=by let(n,b,e,r):=h;calc(n,b,s _ _ e,r,)
def PoA.pick{N:AE->Prop}{H:Hp}{a:AE}{p:PD}(h:PoA N H a p){K:ac}(m:Int):∃xs x,SqL K H a xs/\atI xs (m%3)=MO (.int x)/\p.lo<=x/\x<=p.hi:=by
 let(_,xs,e,j,f):=h;let c:=vl m (show(3:Int)≠0 by decide);let i:=v3 m (show(0:Int)<3 by decide);let(k,g):∃k:Nat,m%3=(k:Int):=(_,(wa c).symm,);let d:k<⇑xs:=∅
 let b:=KG d;calc(_,xs[k],OU e,?_,f _<|KJ b,);rw[g];calc aS (by rw[dn,b];rfl)
structure uj(ds:M3 PD)(cols:M3 Nat)(ow:Nat)(w:Rw):Prop where
 len:⇑w.1=⇑cols
 inn:∀(j k:Nat)(ps:Prs)(p:PD),w.1[j]?=MO ps->cols[j]?=MO k->ds[k]?=MO p->∀x∈ps,p.lo<=x.1/\x.1<=x.2/\x.2<=p.hi
 few:∀ps∈w.1,⇑ps<=2
 code:∀p,ds[ow]?=MO p->p.lo<=w.2/\w.2<=p.hi
 ap:∀ps∈w.1,Apart ps
def PDA.updN{N:AE->Prop}{H:Hp}{r D:AE}{p:PD}{zs:M3 V}{o:HO}(h:PDA N H r p)(n:¬ N D)(e:H D=MO (.lst zs)):PDA N (upd H D o) r p:=by
 let(l,b,a,f,g):=h;calc(l,b,a,(ay<|dM f e (by intro z;cases z)).trans f,(ay<|λ(z:l=D)=>n (by rw[←z];exact a)).trans g,)
def PoA.updN{N:AE->Prop}{H:Hp}{r D:AE}{p:PD}{o:HO}(h:PoA N H r p)(n:¬ N D):PoA N (upd H D o) r p:=by
 let(a,b,f,g):=h;calc(a,b,(ay<|λ(z:r=D)=>n (by rw[←z];exact a)).trans f,g,)
def PoA.any{N:AE->Prop}{H:Hp}{r:AE}{p:PD}(h:PoA N H r p):PoA NT H r p:=(trivial,h.2,)
def  hideL(H:Hp)(F:M3 AE):Hp:=λb=>if b∈F then MP else H b
def dg{H:Hp}{F:M3 AE}{b:AE}{o:HO}(e:H b=MO o)(n:b ∉ F):hideL H F b=MO o:=by unfold hideL;rw[MU n];calc e
def fb(H:Hp)(F:M3 AE):aq (hideL H F) H:=λb o e=>by
 unfold hideL at e;by_cases h:b∈F
 .rw[MV h]at e;cases e
 .rw[MU h]at e;calc e
def iT{H H':Hp}{F:M3 AE}(s:aq H H'):aq (hideL H F) (hideL H' F):=λb o e=>by
 by_cases h:b∈F
 .unfold hideL at e;rw[MV h]at e;cases e
 .exact dg (s b o<|fb H F b o e) h
def jJ{H:Hp}{F:M3 AE}{D:AE}{o:HO}(h:D∈F):hideL (upd H D o) F=hideL H F:=by
 funext b
 unfold hideL;by_cases a:b∈F
 .rw[MV a,MV a]
 .rw[MU a,MU a];calc ay λz=>a (by rw[z];exact h)
def xv{H H':Hp}{F:M3 AE}(s:aq H H')(n:∀D∈F,H D=MP):aq H (hideL H' F):=λb o e=>dg (s b o e) λa=>by rw[n b a]at e;cases e
def qS{H:Hp}{F:M3 AE}(c:∀D∈F,∃zs,H D=MO (.lst zs)):il H (hideL H F):=λb t e=>dg e λa=>by
 let(zs,d):=c b a;rw[d]at e;cases e
def iR.hideL{H d:Hp}{F:M3 AE}{r:AE}{w:Rw}(h:iR (λa=>H a=MP) d r w)(k:∀D∈F,∃zs,H D=MO (.lst zs))(s:aq H d):iR NT (_M.hideL d F) r w:=by
 let(v,u,e,n,f,c):=h;let b:∀D∈F,∃zs,d D=MO (.lst zs):=λD t=>let ⟨zs,i⟩:=k D t;(zs,s _ _ i,)
 let out:∀x,H x=MP->x ∉ F:=λx j q=>by let(zs,i):=k x q;rw[i]at j;cases j
 calc(v,u,qS b _ _ e,trivial,dg f<|out _ n,ak.mono c λl y h=>?_,);let(p,m,g,o):=h;calc(trivial,m,dg g<|out _ p,o.mono<|qS b,)
def  TT(H:Hp)(r:AE)(t:(M3 Nat×Str)×AE):Prop:=∃a:AE,H r=MO (.tup [.ref a,.str t.1.2,.ref t.2])/\H a=MO (.lst<|vN t.1.1)
def TT.same{H H':Hp}{r:AE}{t:(M3 Nat×Str)×AE}(h:TT H r t)(s:aq H H'):TT H' r t:=by let(a,e,f):=h;calc(a,s _ _ e,s _ _ f,)
structure EZ(fN:Nat)(ds:M3 PD)(j:Nat)(t:M3 Nat×Str):Prop where
 some_:1<=⇑t.1
 few:⇑t.1<=3
 lt:∀k∈t.1,k<fN+j
 nd:t.1.Nodup
 way:t.2∈six
 sum:t.2=s!"sum" -> ∀p,ds[fN+j]?=MO p->p.ws=[]
def  clm(c:Int)(ow:Nat)(m:Nat):M3 Nat:=(gl m).map λj:Nat=>((c / 3+(0+(j:Int)))%(ow:Int)).toNat
def E8{c:Int}{ow m:Nat}(h:1<=ow):∀k∈clm c ow m,k<ow:=λk a=>by
 unfold clm at a;let(j,_,rfl):=ck.mp a;let b:=v3 (c / 3+(0+(j:Int))) (show(0:Int)<(ow:Int) by lia);let d:=vl (c / 3+(0+(j:Int))) (show(ow:Int)≠0 by lia);lia
def zG{x i j n:Int}(k:0<=i)(g:i<n)(f:0<=j)(d:j<n)(e:(x+i)%n=(x+j)%n):i=j:=by
 let c:∀a b:Int,0<=a->a<n->0<=b->b<n->b<=a->(x+a)%n=(x+b)%n->a=b:=λa b p o m b1 l e=>by
  let h:=Int.emod_eq_emod_iff_emod_sub_eq_zero.mp e;rw[show x+a-(x+b)=a-b by lia,Int.emod_eq_of_lt ∅ ∅]at h;lia
 by_cases h:j<=i
 .exact c i j k g f d h e
 .exact(c j i f d k g ∅ e.symm).symm
def E9{c:Int}{ow m:Nat}(h:1<=ow)(k:m<=ow):(clm c ow m).Nodup:=by
 unfold clm;rw[FS,NQ];calc NM (R:=λa b=>a≠b) (λ{a b} f d g e=>?_) List.nodup_range;let f:=gW.mp f;let d:=gW.mp d;let o:=vl (c / 3+(0+(a:Int))) (show(ow:Int)≠0 by lia);let l:=vl (c / 3+(0+(b:Int))) (show(ow:Int)≠0 by lia);let:=zG (x:=c / 3) (i:=0+(a:Int)) (j:=0+(b:Int)) (n:=(ow:Int)) ∅ ∅ ∅ ∅ ∅;lia
def um(c:Int)(ow m:Nat):⇑(clm c ow m)=m:=by unfold clm;simp
def Bq(c:Int)(ow m:Nat):vN (clm c ow<|m+1)=vN (clm c ow m)++[.int ((((c / 3+(0+(m:Int)))%(ow:Int)).toNat:Nat):Int)]:=by
 unfold clm vN;rw[jA,dy,dy];rfl
structure PT where
 cols:M3 Nat
 way:Str
 rows:M3 Rw
def  PTA(H:Hp)(r:AE)(t:PT):Prop:=∃(c b:AE)(a:M3 V),H r=MO (.tup [.ref c,.str t.way,.ref b])/\H c=MO (.lst<|vN t.cols)/\H b=MO (.lst a)/\RL NT H a t.rows
def PTA.same{H H':Hp}{r:AE}{t:PT}(h:PTA H r t)(s:aq H H'):PTA H' r t:=by let(c,b,a,e,f,g,k):=h;calc(c,b,a,s _ _ e,s _ _ f,s _ _ g,k.same s,)
structure Ii(fN:Nat)(ds:M3 PD)(j:Nat)(t:PT):Prop where
 ok:EZ fN ds j (t.cols,t.way)
 rows:∀w∈t.rows,uj ds t.cols (fN+j) w
 few:⇑t.rows<=200
def  PlA(H:Hp)(r:AE)(zs:M3 Str)(ds:M3 PD)(f:M3 PT):Prop:=∃(c e a:AE)(d b:M3 V),H r=MO (.tup [.ref c,.ref e,.ref a])/\H c=MO (.lst<|zs.map OT)/\H e=MO (.lst d)/\ak d ds (PDA NT H)/\H a=MO (.lst b)/\ak b f (PTA H)
def PlA.same{H H':Hp}{r:AE}{zs:M3 Str}{ds:M3 PD}{b:M3 PT}(h:PlA H r zs ds b)(s:aq H H'):PlA H' r zs ds b:=by
 let(d,m,a,l,c,k,j,i,f,g,e):=h;calc(d,m,a,l,c,s _ _ k,s _ _ j,s _ _ i,ak.mono f<|λ_ _ p=>p.same s,s _ _ g,ak.mono e λ_ _ p=>p.same s,)
structure fM(zs:M3 Str)(ds:M3 PD)(ts:M3 PT)(fN:Nat):Prop where
 words:∀z∈zs,isw z=MQ
 nd:zs.Nodup
 len:⇑zs=⇑ds
 n7:⇑ds<=7
 tab:fN+⇑ts=⇑ds
 some_:1<=⇑ts
 doms:∀p∈ds,iS p
 tabs:∀(j:Nat)(t:PT),ts[j]?=MO t->Ii fN ds j t
def oY{H c:Hp}{F d:M3 AE}(h:∀b o,b ∉ F->H b=MO o->c b=MO o/\b ∉ d):aq (hideL H F) (hideL c d):=λb o e=>by
 by_cases a:b∈F
 .unfold hideL at e;rw[MV a]at e;cases e
 .let(g,f):=h b o a<|fb H F b o e;calc dg g f
def  rls(a:M3 ((M3 Nat×Str)×AE)):M3 AE:=a.map (·.2)
def Br(a:M3 ((M3 Nat×Str)×AE))(t:(M3 Nat×Str)×AE):rls (a++[t])=rls a++[t.2]:=by unfold rls;rw[dy];rfl
def CN{c:Int}{ow:Nat}(a:1<=ow):∃m:Nat,(if (ow:Int)<1+c%3 then(ow:Int)else 1+c%3)=(m:Int)/\1<=m/\m<=3/\m<=ow:=by
 let d:=vl c (show(3:Int)≠0 by decide);let b:=v3 c (show(0:Int)<3 by decide);calc((if (ow:Int)<1+c%3 then(ow:Int)else 1+c%3).toNat,?_,?_,?_,?_,) <;> split <;> lia
def qj{a:M3 ((M3 Nat×Str)×AE)}{j:Nat}{t:(M3 Nat×Str)×AE}(e:a[j]?=MO t):(rls a)[j]?=MO t.2:=by unfold rls;rw[dn,e];rfl
def qk{a:M3 ((M3 Nat×Str)×AE)}{j:Nat}{t:(M3 Nat×Str)×AE}(e:a[j]?=MO t):t.2∈rls a:=KJ<|qj e
def  mkT(t:(M3 Nat×Str)×AE)(a:M3 Rw):PT:=(t.1.1,t.1.2,a,)
def  RwI(H:Hp)(F:M3 AE)(fN:Nat)(ds:M3 PD)(d:M3 ((M3 Nat×Str)×AE))(a:M3 (M3 Rw))(n:Nat):Prop:=⇑a=⇑d/\∀(j:Nat)(t:(M3 Nat×Str)×AE)(b:M3 Rw),d[j]?=MO t->a[j]?=MO b->(∃c,H t.2=MO (.lst c)/\RL NT (hideL H F) c b)/\(∀w∈b,uj ds t.1.1 (fN+j) w)/\⇑b<=n
def RwI.grow{H e:Hp}{fN n d:Nat}{ds:M3 PD}{b:M3 ((M3 Nat×Str)×AE)}{c:M3 (M3 Rw)}{t:(M3 Nat×Str)×AE}{f:M3 Rw}{zs:M3 V}{r:AE}{w:Rw}(h:RwI H (rls b) fN ds b c n)(q:(rls b).Nodup)(s:aq H e)(g:b[d]?=MO t)(v:c[d]?=MO f)(I:H t.2=MO (.lst zs))(hz:RL NT (hideL H<|rls b) zs f)(A:iR NT (hideL e<|rls b) r w)(C:uj ds t.1.1 (fN+d) w):RwI (upd e t.2<|.lst<|zs++[.ref r]) (rls b) fN ds b (c.set d<|f++[w]) (n+1):=by
 refine(by rw[List.length_set];exact h.1,λj y p k i=>?_,);let B:hideL (upd e t.2<|.lst<|zs++[.ref r]) (rls b)=hideL e (rls b):=jJ<|qk g;rw[B];by_cases l:d=j
 .subst l;rw[g]at k;cases k;rw[Nv (KH.mp v).1]at i;cases i;let(_,m,D):=h.2 d t f g v;refine((_,af,ak.snoc (hz.same<|iT s) A,),λu a=>?_,by rw[dV,hQ];lia,);rcases eA.mp a with a | a
  .exact m u a
  .rw[show u=w by simpa using a];exact C
 .rw[NE l]at i;let((o,F,E),m,D):=h.2 j y p k i;calc((o,(ay λz=>?_).trans<|s _ _ F,E.same<|iT s,),m,∅,);let x:=qj k;let G:=qj g;rw[z]at x;calc l<|qP q G x
abbrev ofS:=lm
def iU(a b c:Str):a++b++c=a++(b++c):=by
 show wv (wv a b) c=wv a (wv b c);unfold wv;simp[OJ]
def tE{sep:Str}:∀{A B:M3 Str},A≠[]->B≠[]->kt sep (A++B)=kt sep A++sep++kt sep B
 | [],_,h,_=>MW U h
 | [x],b :: B,_,_=>rfl
 | [_],[],_,h=>MW U h
 |x :: y :: A,B,_,hB=>by
  let a:=tE (sep:=sep) (A:=y :: A) (B:=B) (by simp) hB;show x++sep++kt sep ((y :: A)++B)=(x++sep++kt sep (y :: A))++sep++kt sep B;rw[a];simp only[iU]
def yF{sep:Str}:∀{L:M3 (M3 Str)},(∀l∈L,l≠[])->kt sep L.flatten=kt sep (L.map<|kt sep)
 | [],_=>rfl
 | [l],h=>by rw[ji,List.flatten_nil,hY];rfl
 |l :: m :: L,h=>by
  let b:=yF (sep:=sep) (L:=m :: L) λx c=>h x<|eY _ c
  let a:(m :: L).flatten≠[]:=λe=>by
   let d:=h m (by simp);rw[ji]at e;exact d (Oq.mp e).1
  rw[ji,tE (h l (by simp)) a,b];rfl
def oo(sep:Str)(zs:M3 Str):io sep zs=kt sep zs:=N9 _ _
def CP{zs:M3 Str}{p:Pr}(i:0<=p.1)(h:p.1<=p.2)(g:p.2<=hiW zs):oX zs (MO p.1) (MO<|p.2+1)≠[]:=λe=>by
 let c:=M0 M6 e;unfold oX hiW at *
 let(a,f):∃a:Nat,p.1=(a:Int):=(p.1.toNat,∅,);let(b,d):∃b:Nat,p.2=(b:Int):=(p.2.toNat,∅,);rw[f,d,show(b:Int)+1=((b+1:Nat):Int) by lia,HT.sIx_nat,HT.sIx_nat,eH,lR]at c;simp at c;lia
def  rT(zs:M3 Str)(p:Pr):M3 Str:=oX zs (MO p.1)<|MO<|p.2+1
def  qT(k:Dk)(p:Pr):Str:=match k.1 with
 |some a=>io (ofS ", ")<|rT a p
 |none=>shN k.2.1 k.2.2 p
def  bh(k:Dk)(ps:Prs):Str:=if ps=[]then ofS "not -" else if ps=[k.2]then ofS "-" else io (ofS ", ") (ps.map<|qT k)
def  dh(k:Dk):Str:=match k.1 with
 |some a=>io (ofS ", ") a
 |none=>lm (toString k.2.1)++ofS ".." ++ lm (toString k.2.2)
structure gD(k:Dk)(ps:Prs):Prop where
 few:⇑ps<=2
 inn:∀p∈ps,EW k p
 gd:GdK k
 w0:∀zs,k.1=MO zs->k.2=(0,hiW zs)
def pQ{zs:M3 Str}{b:Pr}{ps:Prs}(ok:gD (MO zs,b) ps):io (ofS ", ") (ps.map<|qT (MO zs,b))=io (ofS ", ") (ps.map<|rT zs).flatten:=by
 let e:=ok.w0 zs U;rw[oo,oo,yF,gw]
 .congr 1
  apply nS
  intro p _;exact oo _ _
 .intro l d;let(p,c,rfl):=ck.mp d;let h:=ok.inn p c;let a:b=(0,hiW zs):=e;calc CP (by have:=h.lo;rw[a]at this;exact this) h.le (by have:=h.hi;rw[a]at this;exact this)
def qU{zs:M3 Str}{ps:Prs}{z:Str}(h:z∈(ps.map<|rT zs).flatten):z∈zs:=by
 let(l,b,a):=oD.mp h;let(p,_,rfl):=ck.mp b;calc om a
def qV(zs:M3 Str):∀ps:Prs,⇑((ps.map<|rT zs).flatten)<=⇑ps*⇑zs
 | []=>by simp
 |p :: ps=>by
  let b:=oj zs (MO p.1)<|MO<|p.2+1;let a:=qV zs ps;rw[gs,ji,dV,gv,u3];unfold rT at a⊢;lia
def lF{sep:Str}{zs:M3 Str}{m n:Nat}(a:⇑sep<=3)(h:∀z∈zs,⇑z<=m)(b:⇑zs<=n):⇑(io sep zs)<=n*(m+3):=by
 let f:=StrLaws.join_length_le sep zs;rw[oo];let e:=Bi h;let d:⇑zs*⇑sep<=⇑zs*3:=Nat.mul_le_mul_left _ a;let c:⇑zs*(m+3)<=n*(m+3):=sT _ b;rw[Nat.mul_add]at c;lia
def oZ{k:Dk}{p:Pr}(ok:EW k p)(a:GdK k):⇑(qT k p)<=600:=by
 let(w,lo,hi):=k;cases w with
 |none=>exact qu (yD ok.b1 ok.b2) ⋯
 |some zs =>
  let a:Good zs:=a;let:=lF (sep:=ofS ", ") (zs:=rT zs p) (m:=12) (n:=40) (~~~0) (λz b=>df<|a.words z<|om b)<|qu (oj ..) a.few;calc this
def jZ{k:Dk}{ps:Prs}(ok:gD k ps):⇑(bh k ps)<=1206:=by
 unfold bh;split
 .exact qu (show⇑(ofS "not -")<=5 by decide+kernel) ⋯
 .split
  .exact qu (show⇑(ofS "-")<=5 by decide+kernel) ⋯
  .exact lF (m:=600) (n:=2) (~~~0) (λz a=>by
    let(p,b,rfl):=ck.mp a;exact oZ (ok.inn p b) ok.gd) (by rw[bQ];exact ok.few)
def mj{k:Dk}(c:GdK k)(b1:bnd k.2.1)(b2:bnd k.2.2):⇑(dh k)<=600:=by
 let(w,lo,hi):=k;cases w with
 |none =>
  let a:=len_num b1;let b:=len_num b2;show⇑(lm (toString lo)++ofS ".." ++ lm (toString hi))<=600;rw[aK,aK,iq];let a:⇑(lm<|toString lo)<=61:=a;let b:⇑(lm<|toString hi)<=61:=b;lia
 |some d =>
  let c:Good d:=c;calc lF (m:=12) (n:=40) (~~~0) (λz e=>df<|c.words z e) c.few
def o6{K:ac}{H:Hp}{Q:VK}{a b u:AE}{c:M3 V}{ps:Prs}{q:Pr}(i:SqL K H a c)(d:PL H c ps)(l:SqL K H b [.ref u])(m:H u=MO (.tup [.int q.1,.int q.2]))(h:Q (.bl<|MS<|ps=[q]) H):vm K MR (.ref a) (.ref b) H Q:=by
 let g:=⇑d;by_cases j:⇑ps=1
 .match ps,j,d,h with
  | [p],_,d,h =>
   let(x,f):∃x,c[0]?=MO x:=(_,KG (by rw[g];exact Nat.one_pos),);let(r,t,o,rfl,n):=d.get f;cases o;let k:c=[.ref t]:=by
    match c,g,f with
    | [y],_,f=>cases f;rfl
   rw[k]at i;calc Bj i l n m ?_;let e:decide (p=q)=MS ([p]=[q]):=by
    rw[py,M1,M1];constructor
    .intro z;rw[z]
    .intro z;injection z
   rw[e];exact h
 .let e:decide (ps=[q])=false:=MY λz=>j (by rw[z];rfl)
  rw[e]at h;calc(a,b,_,_,U,U,i,l,.inl (by rw[g];exact j,h,),)
def CQ{K:ac}{H:Hp}{Q:VK}{a b:AE}{c:M3 V}(g:SqL K H a c)(f:SqL K H b [])(h:Q (.bl<|MS<|c=[]) H):vm K MR (.ref a) (.ref b) H Q:=by
 by_cases d:c=[]
 .subst d;exact(a,b,_,_,U,U,g,f,.inr (U,λ_=>MQ,(λj x y e=>by simp at e),h,),)
 .rw[MY d]at h;calc(a,b,_,_,U,U,g,f,.inl (λz=>d<|hE.mp z,h,),)
def iS.gd{p:PD}(ok:iS p):GdK p.k:=by
 unfold PD.k;by_cases h:p.ws=[]
 .rw[MV h];trivial
 .rw[MU h];calc(ok.wd h).1
def iS.b1{p:PD}(ok:iS p):bnd p.k.2.1:=ok.bd _ (pr _) ok.le
def iS.b2{p:PD}(ok:iS p):bnd p.k.2.2:=ok.bd _ ok.le<|pr _
def iS.cell{p:PD}(ok:iS p){ps:Prs}(g:⇑ps<=2)(i:∀x∈ps,p.lo<=x.1/\x.1<=x.2/\x.2<=p.hi):gD p.k ps:=by
 refine(g,λx f=>?_,ok.gd,λl e=>?_,)
 .let(d,j,c):=i x f;exact(d,j,c,ok.bd _ d ∅,ok.bd _ ∅ c,)
 .unfold PD.k at e⊢;by_cases h:p.ws=[]
  .rw[MV h]at e;cases e
  .rw[MU h]at e;cases e;let(_,a,b):=ok.wd h;show(p.lo,p.hi)=(0,hiW p.ws);rw[a,b]
def PD.k_none{p:PD}(h:p.ws=[]):p.k=(MP,p.lo,p.hi):=by unfold PD.k;rw[MV h]
def PD.k_some{p:PD}(h:p.ws≠[]):p.k=(MO p.ws,p.lo,p.hi):=by unfold PD.k;rw[MU h]
def cS.dom{cN cW:AE}{H:Hp}{d:AE}{k:Dk}(h:cS cN cW H d k):Dom cN cW H d k.2:=by
 let(w,lo,hi):=k;cases w with
 |none=>obtain⟨c,e⟩:=h;exact(cN,.inl U,c,_,e,U,U,U,)
 |some f =>
  let((c,l,e,_),b,a,_):=h;let b:lo=0:=b;let a:hi=hiW f:=a;subst b a;calc(cW,.inr U,c,_,e,U,U,U,)
def qW(k:Dk):bh k []=ofS "not -" := by unfold bh;rw[MV U]
def m6{k:Dk}{ps:Prs}(h:ps=[k.2]):bh k ps=ofS "-" := by unfold bh;rw[MU (by rw[h];simp),MV h]
def j0{k:Dk}{ps:Prs}(a:ps≠[])(h:ps≠[k.2]):bh k ps=io (ofS ", ") (ps.map<|qT k):=by unfold bh;rw[MU a,MU h]
def CS:s!"not " ++ s!"-" = ofS "not -" := by decide+kernel
def uo{H:Hp}{a:M3 V}{ps:Prs}(h:PL H a ps):a=[]↔ps=[]:=by
 let:=⇑h;constructor
 .intro z;subst z;exact hE.mp this.symm
 .intro z;subst z;calc hE.mp this
def  oq(k:Dk)(c:Int):Str:=match k.1 with
 |some a=>a.getD c.toNat re
 |none=>lm<|toString c
def xw{cN cW:AE}{H:Hp}{d:AE}{k:Dk}{c:Int}(h:cS cN cW H d k)(e:k.2.1<=c)(b:c<=k.2.2)(j:bnd c):DN cN cW H d c (oq k c):=by
 let(w,lo,hi):=k;cases w with
 |none=>exact .inl (lo,hi,h,e,b,j,U,)
 |some a =>
  let(l,g,f,m):=h;let g:lo=0:=g;let f:hi=hiW a:=f;let e:lo<=c:=e;let b:c<=hi:=b;unfold hiW at f;let i:c.toNat<⇑a:=∅
  calc .inr (a,l,∅,?_,);show a[c.toNat]?=MO (a.getD c.toNat re);rw[iY,KG i];rfl
def vI{p:PD}{c:Int}(ok:iS p)(f:p.lo<=c)(e:c<=p.hi):⇑(oq p.k c)<=61:=by
 by_cases a:p.ws=[]
 .rw[PD.k_none a];exact len_num<|ok.bd c f e
 .rw[PD.k_some a];let(d,h,g):=ok.wd a;unfold hiW at g;let b:c.toNat<⇑p.ws:=∅
  show⇑(p.ws.getD c.toNat re)<=61;rw[iY,KG b];calc qu (df<|d.words _<|nL b) ⋯
def  ir(nm:Str)(zs:M3 Str)(k:Dk)(a:Str):Str:=ofS "table " ++ nm++ofS ": " ++ io (ofS ", ") zs++ofS " -> " ++ dh k++ofS " by " ++ a
def  o7(ks:M3 Dk)(w:Rw)(a:Dk):Str:=ofS "when " ++ io (ofS " | ") (lc bh ks w.1)++ofS " -> " ++ oq a w.2
def dP:s!"table ".length=6:= ~~~0
def fQ:s!": ".length=2:= ~~~0
def m7:s!" -> ".length=4:= ~~~0
def xx:s!" by ".length=4:= ~~~0
def m8:s!"when ".length=5:= ~~~0
def fX{n:Nat}(h:n<=100000):n<=AY:=by rw[K5];calc qu h ⋯
def xy{ks:M3 Dk}{pss:M3 Prs}(c:⇑pss<=6)(ok:∀(j:Nat)(k:Dk)(ps:Prs),ks[j]?=MO k->pss[j]?=MO ps->gD k ps):⇑(io (ofS " | ")<|lc bh ks pss)<=7254:=by
 refine lF (m:=1206) (n:=6) (~~~0) (λz b=>?_) (by rw[kP];lia);let(j,a):=gu b;rw[mF]at a;cases e3:ks[j]? with
 |none=>rw[e3]at a;cases a
 |some k =>
  cases e4:pss[j]? with
  |none=>rw[e3,e4]at a;cases a
  |some p =>
   rw[e3,e4]at a;let a:MO (bh k p)=MO z:=a;cases a;calc jZ<|ok j k p e3 e4
def fM.own{zs:M3 Str}{ds:M3 PD}{a:M3 PT}{fN:Nat}(h:fM zs ds a fN){k:Nat}{t:PT}(e:a[k]?=MO t):fN+k<⇑ds:=by
 let:=(KH.mp e).1;let:=h.tab;lia
def fM.lt{zs:M3 Str}{ds:M3 PD}{a:M3 PT}{fN:Nat}(h:fM zs ds a fN){k:Nat}{t:PT}(e:a[k]?=MO t):∀j∈t.cols,j<⇑ds:=λj b=>by
 let d:=(h.tabs k t e).ok.lt j b;let c:=h.own e;lia
def fM.rows{zs:M3 Str}{ds:M3 PD}{n:M3 PT}{fN:Nat}(h:fM zs ds n fN){k:Nat}{t:PT}(e:n[k]?=MO t){a:PD}(v:ds[fN+k]?=MO a):∀w∈t.rows,pP (prm t.cols<|ds.map λp=>(p.lo,p.hi)) (a.lo,a.hi) w:=λw s=>by
 let f:=(h.tabs k t e).rows w s;let lt:=h.lt e;let m:∀j∈t.cols,j<⇑(ds.map λp=>(p.lo,p.hi)):=λj d=>by rw[bQ];exact lt j d
 let g:=bT (os:=t.cols) (xs:=ds.map λp=>(p.lo,p.hi)) m;let c:=f.code a v;refine(by rw[f.len,g.1],λj r b q l p u=>?_,c.1,c.2,);let d:j<⇑t.cols:=by rw[←f.len];exact(KH.mp q).1
 let i:=KG d;rw[g.2 j _ i,dn]at l;let o:=KG<|lt _<|KJ i;rw[o]at l;cases l;let:=f.inn j _ r _ q i o p u;calc(this.1,this.2.2,)
def fM.cells{zs:M3 Str}{ds:M3 PD}{m:M3 PT}{fN:Nat}(h:fM zs ds m fN){k:Nat}{t:PT}(e:m[k]?=MO t){w:Rw}(o:w∈t.rows):∀(j:Nat)(a:Dk)(ps:Prs),(prm t.cols<|ds.map PD.k)[j]?=MO a->w.1[j]?=MO ps->gD a ps:=λj a ps n i=>by
 let f:=(h.tabs k t e).rows w o;let lt:=h.lt e;let l:∀j∈t.cols,j<⇑(ds.map PD.k):=λj b=>by rw[bQ];exact lt j b
 let g:=bT (os:=t.cols) (xs:=ds.map PD.k) l;let b:j<⇑t.cols:=by rw[←f.len];exact(KH.mp i).1
 let d:=KG b;let c:=KG<|lt _<|KJ d;rw[g.2 j _ d,dn,c]at n;cases n;calc(h.doms _<|KJ c).cell (f.few ps<|KJ i) (f.inn j _ ps _ i d c)
def ml{H:Hp}{D:AE}{zs:M3 V}(e:H D=MO (.lst zs)):il H (hide H D):=λb t f=>cz f<|dM f e (by intro z;cases z)
def zH{a:Type}{os:M3 Nat}{o:Nat}{xs:M3 a}{x:a}(e:xs[o]?=MO x):prm (os++[o]) xs=prm os xs++[x]:=by
 unfold prm;rw[Ov];simp[e]
def kR.wk{N a:AE->Prop}{cN cW:AE}{H:Hp}{d:AE}{k:Dk}(h:kR N cN cW H d k)(w:∀x,N x->a x):kR a cN cW H d k:=by
 let(b,lo,hi):=k;cases b with
 |none=>exact h
 |some g=>obtain⟨⟨c,l,n,e,f⟩,r⟩:=h;calc((c,l,w _ n,e,f,),r,)
def zI(nm:Str)(zs:M3 Str)(k:Dk)(a:Str):s!"table " ++ nm++s!": " ++ io s!", " zs++(s!" -> " ++ dh k++s!" by " ++ a)=ir nm zs k a:=by
 unfold ir;simp only[iU]
def fM.nm12{zs:M3 Str}{ds:M3 PD}{a:M3 PT}{fN:Nat}(h:fM zs ds a fN){z:Str}(hz:z∈zs):⇑z<=12:=df<|h.words z hz
def DO{z:Str}(h:z∈six):⇑z<=12:=by
 unfold six at h;simp only[cZ,gx,or_false]at h;rcases h with rfl|rfl|rfl|rfl|rfl|rfl <;> decide+kernel
def qX(z:Str)(ns:M3 Str):inV (.str z) (ns.map OT)=ns.contains z:=by
 unfold inV;induction ns with
 |nil=>rfl
 |cons n ns a =>
  rw[gs,mq,OK,a]
  congr 1
  show(n == z)=(z == n);rw[py,beq_iff_eq,beq_iff_eq];calc(Eq.symm,Eq.symm,)
def  TbA(f cN cW:AE)(H:Hp)(zs:M3 Str)(ds:M3 PD)(e:M3 PT)(fN:Nat)(a:AE)(k:Nat):Prop:=∃(t:PT)(nm:Str)(b:PD)(c:AE)(d:M3 V),e[k]?=MO t/\zs[fN+k]?=MO nm/\ds[fN+k]?=MO b/\TF f H a nm t.way c (prm t.cols zs) d t.rows/\ak d (prm t.cols<|ds.map PD.k) (cS cN cW H)/\cS cN cW H c b.k
def  FcA(cN cW:AE)(H:Hp)(zs:M3 Str)(ds:M3 PD)(r:AE)(k:Nat):Prop:=∃(nm:Str)(a:PD)(d:AE),zs[k]?=MO nm/\ds[k]?=MO a/\H r=MO (.tup [.str nm,.ref d])/\cS cN cW H d a.k
structure BkI(cT cN cW:AE)(H:Hp)(zs:M3 Str)(ds:M3 PD)(ts:M3 PT)(fN:Nat)(fv mv:M3 V)(L:M3 Nat):Prop where
 ok:fM zs ds ts fN
 facts:ak fv (gl fN) (FcA cN cW H zs ds)
 tabs:ak mv L (TbA cT cN cW H zs ds ts fN)
 lt:∀k∈L,k<⇑ts
 nd:L.Nodup
 len:L.length=⇑ts
 all:∀k,k<⇑ts->k∈L
section
variable{cT cN cW:AE}{H:Hp}{zs:M3 Str}{ds:M3 PD}{ts:M3 PT}{fN:Nat}{fv mv:M3 V}{L:M3 Nat}
end
def  FcN(N:AE->Prop)(cN cW:AE)(H:Hp)(zs:M3 Str)(ds:M3 PD)(r:AE)(k:Nat):Prop:=∃(nm:Str)(a:PD)(d:AE),zs[k]?=MO nm/\ds[k]?=MO a/\H r=MO (.tup [.str nm,.ref d])/\kR N cN cW H d a.k
def FcN.same{N:AE->Prop}{cN cW:AE}{H H':Hp}{zs:M3 Str}{ds:M3 PD}{r:AE}{k:Nat}(h:FcN N cN cW H zs ds r k)(s:aq H H'):FcN N cN cW H' zs ds r k:=by
 let(nm,a,d,f,e,c,b):=h;calc(nm,a,d,f,e,s _ _ c,b.same s,)
def FcN.upd{N:AE->Prop}{cN cW:AE}{H:Hp}{zs:M3 Str}{ds:M3 PD}{r D:AE}{k:Nat}{o:HO}{ys:M3 V}(h:FcN N cN cW H zs ds r k)(n:¬ N D)(e:H D=MO (.lst ys)):FcN N cN cW (_L.upd H D o) zs ds r k:=by
 let(nm,b,d,g,f,a,c):=h;calc(nm,b,d,g,f,(ay<|dM a e (by intro z;cases z)).trans a,c.upd n e,)
def FcN.fc{N:AE->Prop}{cN cW:AE}{H:Hp}{zs:M3 Str}{ds:M3 PD}{r:AE}{k:Nat}(h:FcN N cN cW H zs ds r k):FcA cN cW H zs ds r k:=by
 let(nm,a,d,f,e,c,b):=h;calc(nm,a,d,f,e,c,b.dom,)
section
variable{cT cN cW:AE}{H:Hp}{zs:M3 Str}{ds:M3 PD}{ts:M3 PT}{fN:Nat}{fv mv:M3 V}{L:M3 Nat}
def yG{a:M3 (Str×V)}(c:(a.map (·.1)).Nodup):∀{j:Nat}{k:Str}{v:V},a[j]?=MO (k,v)->a.lookup k=MO v:=by
 induction a with
 |nil=>intro j k v e;simp at e
 |cons p a f =>
  intro j k v e;let(d,h):=p;rw[gs]at c;let b:=gi.mp c;cases j with
  |zero =>
   cases e;rw[mE,beq_self_eq_true]
  |succ j =>
   let e:a[j]?=MO (k,v):= ~~~e
   let g:k≠d:=λz=>b.1<|ck.mpr ((k,v),KJ e,z,)
   rw[mE,beq_eq_false_iff_ne.mpr g];calc f b.2 e
end
def  SmB(z:Str):Prop:=⇑z<=1000/\∀n∈z.cps.toList,n<16^8
def  BkA(e:AE)(H:Hp)(b:AE)(c:M3 V):Prop:=∃(d:AE)(fs:M3 (Str×V))(a:AE),H b=MO (.ins e d fs)/\fs.lookup s!"tables"=↑a/\H a=MO (.lst c)
structure BkT(cT cN cW cB:AE)(H:Hp)(b:AE)(zs:M3 Str)(ds:M3 PD)(ts:M3 PT)(fN:Nat)(mv:M3 V)(L:M3 Nat):Prop where
 bk:BkA cB H b mv
 ok:fM zs ds ts fN
 tabs:ak mv L (TbA cT cN cW H zs ds ts fN)
 lt:∀k∈L,k<⇑ts
 few:L.length<=7
def Bs{c:Int}{n:Nat}:∀z∈lws c n,∀y∈lws c n,⇑z=⇑y:=λz a y b=>by
 let(i,_,rfl):=ck.mp a;let(j,_,rfl):=ck.mp b;show(lwc c _).toArray.size=(lwc c _).toArray.size;unfold lwc;simp
def jK{H H':Hp}{x a:AE}{o:HO}(k:∀b o,b≠x->H b=MO o->H' b=MO o)(c:H' x=MO o)(h:H' a=MP):H a=none:=by
 cases e:H a with
 |none=>rfl
 |some u =>
  let n:a≠x:=λz=>by rw[z,c]at h;cases h
  rw[k a u n e]at h;cases h
def RL.hideN{N:AE->Prop}{H:Hp}{x C i:AE}{fs:M3 (Str×V)}(b:H x=MO (.ins C i fs)){xs:M3 V}{a:M3 Rw}(h:RL N H xs a):RL N (_M.hide H x) xs a :=
 ak.mono h λr w (k,j,e,n,f,c,)=>⟨k,j,cz e<|dM e b (by intro z;cases z),n,cz f<|dM f b (by intro z;cases z),ak.mono c λl o (m,d,g,p,)=>(m,d,cz g<|dM g b (by intro z;cases z),PL.hide b p,)⟩
def  TbN(N:AE->Prop)(l cN cW:AE)(H:Hp)(zs:M3 Str)(ds:M3 PD)(i:M3 PT)(fN:Nat)(a:AE)(k:Nat):Prop:=∃(t:PT)(nm:Str)(f:PD)(g:AE)(h:M3 V)(c j d e:AE)(fs:M3 (Str×V))(b:M3 V),i[k]?=MO t/\zs[fN+k]?=MO nm/\ds[fN+k]?=MO f/\H a=MO (.ins l j fs)/\fs.lookup s!"rows"=↑c/\fs.lookup s!"name"=MO (.str nm)/\fs.lookup s!"way"=MO (.str t.way)/\fs.lookup s!"outcome"=↑g/\fs.lookup s!"names"=↑d/\fs.lookup s!"domains"=↑e/\N d/\N e/\N c/\H d=MO (.lst<|(prm t.cols zs).map OT)/\H e=MO (.lst h)/\H c=MO (.lst b)/\RL N H b t.rows/\⇑b<=200/\ak h (prm t.cols<|ds.map PD.k) (kR N cN cW H)/\kR N cN cW H g f.k
section
variable{N N':AE->Prop}{cT cN cW:AE}{H H':Hp}{zs:M3 Str}{ds:M3 PD}{ts:M3 PT}{fN:Nat}{a:AE}{k:Nat}
def TbN.tb(h:TbN N cT cN cW H zs ds ts fN a k):TbA cT cN cW H zs ds ts fN a k:=by
 let(t,nm,n,o,C,m,B,q,D,fs,l,A,z,y,x,w,v,u,s,r,j,_,_,_,i,g,f,e,d,c,b):=h;calc(t,nm,n,o,C,A,z,y,(m,B,q,D,fs,l,x,w,v,u,s,r,j,i,g,f,e.any,d,),ak.mono c<|λ_ _ p=>p.dom,b.dom,)
def TbN.same(h:TbN N cT cN cW H zs ds ts fN a k)(s:aq H H'):TbN N cT cN cW H' zs ds ts fN a k:=by
 let(t,nm,n,o,G,m,F,q,I,fs,l,E,D,C,B,A,z,y,x,w,j,v,u,r,i,g,f,e,d,c,b):=h;calc(t,nm,n,o,G,m,F,q,I,fs,l,E,D,C,s _ _ B,A,z,y,x,w,j,v,u,r,s _ _ i,s _ _ g,s _ _ f,e.same s,d,ak.mono c<|λ_ _ p=>p.same s,b.same s,)
def TbN.wk(h:TbN N cT cN cW H zs ds ts fN a k)(w:∀x,N x->N' x):TbN N' cT cN cW H zs ds ts fN a k:=by
 let(t,nm,n,o,I,m,G,q,J,fs,l,F,E,D,C,B,A,z,y,v,j,u,s,r,i,g,f,e,d,c,b):=h;calc(t,nm,n,o,I,m,G,q,J,fs,l,F,E,D,C,B,A,z,y,v,j,w _ u,w _ s,w _ r,i,g,f,ak.mono e<|λ_ _ p=>p.wk w,d,ak.mono c<|λ_ _ p=>p.wk w,b.wk w,)
def TbN.upd{D:AE}{v:M3 V}{o:HO}(h:TbN N cT cN cW H zs ds ts fN a k)(n:¬ N D)(e:H D=MO (.lst v)):TbN N cT cN cW (_L.upd H D o) zs ds ts fN a k:=by
 let(t,nm,y,A,P,x,O,B,Q,fs,w,M,L,K,u,J,I,G,F,E,m,s,r,q,l,j,i,g,f,d,c):=h;let ne:∀{b:AE},N b->b≠D:=λC z=>n<|z ▸ C
 calc(t,nm,y,A,P,x,O,B,Q,fs,w,M,L,K,(ay<|dM u e (by intro z;cases z)).trans u,J,I,G,F,E,m,s,r,q,(ay<|ne s).trans l,(ay<|ne r).trans j,(ay<|ne q).trans i,g.updN n e,f,ak.mono d<|λ_ _ p=>p.upd n e,c.upd n e,)
end
def Fb{c:Int}{n:Nat}:∀z∈lws c n,SmB z:=λz b=>by
 let(i,_,rfl):=ck.mp b;calc(qu (df<|Bo c _) ⋯,λx a=>?_,);let a:x∈lwc c (0+(i:Int)):=by simpa[lw]using a
 let e:=vl (c / 11+3*(0+(i:Int))) (show(26:Int)≠0 by decide);let d:=v3 (c / 11+3*(0+(i:Int))) (show(0:Int)<26 by decide);show x<4294967296;rcases jY a with h|h <;> lia
def tF{K:ac}{H:Hp}{Q:VK}{a b:AE}{xs ys:M3 Str}{r:Bool}(i:SqL K H a (xs.map OT))(g:SqL K H b (ys.map OT))(f:r=MQ↔xs=ys)(q:Q (.bl r) H):vm K MR (.ref a) (.ref b) H Q:=by
 by_cases c:⇑xs=⇑ys
 .refine(a,b,_,_,U,U,i,g,.inr (by rw[bQ,bQ];exact c,λj=>decide<|xs[j]?=ys[j]?,λj x y s p=>?_,?_,),)
  .let(z,rfl,o):=cg s;let(d,rfl,n):=cg p;let k:=EqI.flat (K:=K) (H:=H) (x:=OT z) (y:=OT d) U U;let m:eqV (OT z) (OT d)=MS (xs[j]?=ys[j]?):=by
    rw[o,n,py];simp[eqV]
   rw[m]at k;exact k
  .let e:(gl ⇑(xs.map OT)).all (λj=>decide<|xs[j]?=ys[j]?)=r:=by
    rw[py,f,gX];constructor
    .intro h;apply ik
     intro j;by_cases l:j<⇑xs
     .exact MZ<|h j<|gW.mpr (by rw[bQ];exact l)
     .rw[ia ∅,ia ∅]
    .intro h j _;rw[h];exact MX U
   rw[MU cr,e];exact q
 .let e:r=false:=by
   rw[wi];intro z;exact c (by rw[f.mp z])
  rw[e]at q;calc(a,b,_,_,U,U,i,g,.inl (by rw[bQ,bQ];exact c,q,),)
def  LtM(z:Str):Prop:=⇑z<=11/\∀x:Nat,97<=x->x<=122->isw (z++(⟨#[x]⟩:Str))=MQ
def Bt{c:Int}{n:Nat}:∀z∈lws c n,LtM z:=λz g=>by
 let(i,_,rfl):=ck.mp g;generalize (0+(i:Int))=k;let q:=qh c;let p:=qi c;let o:=vl (c / 11+3*k) (show(26:Int)≠0 by decide);let m:=v3 (c / 11+3*k) (show(0:Int)<26 by decide);refine(by show(lwc c k).toArray.size<=11;unfold lwc;simp;lia,λx l j=>?_,);let e:(lw c k:Str)++(⟨#[x]⟩:Str)=⟨(lwc c k++[x]).toArray⟩:=by
  show wv _ _=_;unfold wv lw;simp
 rw[e];refine Bh (by simp) (by unfold lwc;simp;lia) (λy d=>?_) (λh=>?_)
 .rcases eA.mp d with d|d
  .rcases jY d with d|d <;> lia
  .let:=hJ.mp d;lia
 .let f:lwc c k=[110,111]:=(List.append_inj' (s₂:=[110,111]) (t₂:=[116]) h U).1;let a:(110:Nat)∈lwc c k:=by rw[f];simp
  let b:(111:Nat)∈lwc c k:=by rw[f];simp
  rcases jY a with a|a
  .lia
  .rcases jY b with b|b <;> lia
def  lkD(k a:Dk):Bool:=match k.1,a.1 with
 |none,MP=>decide<|k.2=a.2
 |some zs,MO zs'=>decide<|zs=zs'
 |_,_=>MR
def vJ(k:Dk):lkD k k=true:=by
 let(w,p):=k;cases w <;> simp[lkD]
structure BT where
 nm:Str
 cs:M3 Str
 ks:M3 Dk
 o:Dk
 way:Str
 rws:M3 Rw
def  TbG(d cN cW:AE)(H:Hp)(a:AE)(t:BT):Prop:=∃(b:AE)(c:M3 V),TF d H a t.nm t.way b t.cs c t.rws/\ak c t.ks (cS cN cW H)/\cS cN cW H b t.o
def TbG.same{b cN cW:AE}{H H':Hp}{a:AE}{t:BT}(h:TbG b cN cW H a t)(s:aq H H'):TbG b cN cW H' a t:=by
 let(c,g,f,e,d):=h;calc(c,g,f.same s,ak.mono e<|λ_ _ p=>p.same s,d.same s,)
abbrev Fc:=Str×Dk
def  FcG(cN cW:AE)(H:Hp)(r:AE)(f:Fc):Prop:=∃d:AE,H r=MO (.tup [.str f.1,.ref d])/\cS cN cW H d f.2
def FcG.same{cN cW:AE}{H H':Hp}{r:AE}{f:Fc}(h:FcG cN cW H r f)(s:aq H H'):FcG cN cW H' r f:=by
 let(d,b,a):=h;calc(d,s _ _ b,a.same s,)
def  bN(fs:M3 Fc)(a:M3 BT):M3 Str:=fs.map (·.1)++a.map BT.nm
structure vK(fs:M3 Fc)(ts:M3 BT):Prop where
 w:∀f∈fs,isw f.1=MQ
 nd:(bN fs ts).Nodup
 al:∀t∈ts,∀c∈t.cs,c∈bN fs ts
def  fO(fs:M3 Fc)(a:M3 BT):M3 Fc:=fs++a.map λt=>(t.nm,t.o)
def  xA(fs:M3 Fc)(a:M3 BT):Prop:=∀t∈a,∀(i:Nat)(c:Str)(k b:Dk),t.cs[i]?=MO c->t.ks[i]?=MO k->(c,b)∈fO fs a->lkD k b=MQ
def  Sml(z:Str):Prop:=⇑z<=100/\∀n∈z.cps.toList,n<16^8
structure BkG(cT cN cW:AE)(H:Hp)(fv mv:M3 V)(fs:M3 Fc)(ts:M3 BT):Prop where
 facts:ak fv fs (FcG cN cW H)
 tabs:ak mv ts (TbG cT cN cW H)
 sf:∀f∈fs,Sml f.1
 st:∀t∈ts,(∀c∈t.cs,Sml c)/\⇑t.cs<=4/\⇑t.ks=⇑t.cs
 few:⇑fs<=100/\⇑ts<=100
def BkG.same{d cN cW:AE}{H H':Hp}{c b:M3 V}{fs:M3 Fc}{a:M3 BT}(h:BkG d cN cW H c b fs a)(s:aq H H'):BkG d cN cW H' c b fs a :=
 (ak.mono h.facts<|λ_ _ p=>p.same s,ak.mono h.tabs<|λ_ _ p=>p.same s,h.sf,h.st,h.few,)
def  xB(a:M3 BT):Prop:=∃b:Str->Nat,∀t∈a,∀c∈t.cs,c∈a.map BT.nm->b c<b t.nm
def  Fd(a:M3 BT):Prop:=∃S:M3 Str,(∃t∈a,t.nm∈S)/\(∀t∈a,t.nm∈S->∃c∈t.cs,c∈S)/\∀c∈S,c∈a.map BT.nm
def  wtg(ns:M3 Str)(t:BT):Bool:=t.cs.any λc=>ns.contains c
def mm{b:Type}{P:b->Prop}{xs:M3 b}{i:Nat}{x:b}(e:xs[i]?=MO x)(h:∀z∈xs.take i,P z)(c:P x):∀z∈xs.take (i+1),P z:=λz a=>by
 rw[take_snoc e]at a;rcases eA.mp a with a|a
 .exact h z a
 .rw[hJ.mp a];calc c
def zJ{a:Type}{xs:M3 a}{i:Nat}{x:a}{p:a->Bool}(e:xs[i]?=MO x):(xs.take<|i+1).filter p=(xs.take i).filter p++(if p x then[x] else[]):=by
 rw[take_snoc e,oJ]
 congr 1
 cases h:p x with
 |true=>rw[KM h,mG];rfl
 |false=>rw[KT (by rw[h];exact cr),mG];rfl
def zK{t:BT}{ns:M3 Str}:(!(t.cs.filter λz=>ns.contains z).isEmpty)=wtg ns t:=by
 unfold wtg;induction t.cs with
 |nil=>rfl
 |cons c cs a =>
  cases h:ns.contains c with
  |true=>rw[KM h,mq,h];rfl
  |false=>rw[KT (by rw[h];exact cr),mq,h,a];rfl
def Bu{b:Type}(f:b->Nat):∀{L:M3 b},L≠[]->∃k∈L,∀j∈L,f k<=f j
 | [],h=>MW U h
 | [x],_=>(x,by simp,λj a=>by rw[show j=x by simpa using a];exact pT _,)
 |x :: y :: r,_=>by
  let(k,d,c):=Bu f (L:=y :: r) (by simp);by_cases h:f x<=f k
  .refine(x,by simp,λj a=>?_,);rcases cZ.mp a with rfl|a
   .exact pT _
   .exact qu h<|c j a
  .refine(k,eY _ d,λj a=>?_,);rcases cZ.mp a with rfl|a
   .lia
   .exact c j a
def Bv{b L:M3 BT}(h:xB b)(e:∀t∈L,t∈b)(n:L≠[]):⇑(L.filter<|wtg<|L.map BT.nm)<L.length:=by
 let(g,j):=h;let(k,f,l):=Bu (λt:BT=>g t.nm) n;let i:wtg (L.map BT.nm) k=false:=by
  unfold wtg;rw[ng];intro c m a;let a:c∈L.map BT.nm:= ~~~a
  let(t,d,rfl):=ck.mp a;let o:=j k (e k f) _ m<|ck.mpr (t,e t d,U,);let p:=l t d;lia
 let o:=oK (wtg<|L.map BT.nm) L;by_cases h:⇑(L.filter<|wtg<|L.map BT.nm)=L.length
 .let:=List.length_filter_eq_length_iff.mp h k f;rw[i]at this;cases this
 .lia
def  Ij(cN cW:AE)(H:Hp)(fs:M3 Fc)(b:M3 BT)(a:M3 (Str×V)):Prop:=∀(z:Str),z∈bN fs b->∃(d:AE)(k:Dk),a.lookup z=↑d/\(z,k)∈fO fs b/\cS cN cW H d k
def tG(fs:M3 Fc)(a:M3 BT):(fO fs a).map (·.1)=bN fs a:=by
 unfold fO bN;rw[dy,gw];rfl
def CT{fs:M3 Fc}{a:M3 BT}(d:(bN fs a).Nodup){z:Str}{k c:Dk}(h:(z,k)∈fO fs a)(h':(z,c)∈fO fs a):k=c:=by
 rw[←tG]at d;let(i,e):=gu h;let(j,b):=gu h';let g:((fO fs a).map (·.1))[i]?=MO z:=by rw[dn,e];rfl
 let f:((fO fs a).map (·.1))[j]?=MO z:=by rw[dn,b];rfl
 let:=qP d g f;subst this;rw[e]at b;cases b;rfl
def ak.appL{d:Type}{xs ys:M3 V}{c bs:M3 d}{P:AE->d->Prop}(h:ak xs c P)(h':ak ys bs P):ak (xs++ys) (c++bs) P:=by
 refine(by rw[dV,dV,h.1,h'.1],λj a e=>?_,);by_cases f:j<⇑c
 .rw[ft f]at e;let(r,b,p):=h.2 j a e;exact(r,by rw[ft (by rw[h.1];exact f)];exact b,p,)
 .rw[fV ∅]at e;let(r,b,p):=h'.2 _ a e;calc(r,by rw[fV (by rw[h.1];lia),h.1];exact b,p,)
def  akq(fN:Nat)(a:M3 Nat):M3 Nat:=(a.filter λc=>decide<|fN<=c).map λc=>c-fN
def  akP(a:M3 PT)(fN:Nat):M3 Nat:=a.flatMap λt=>akq fN t.cols
abbrev k01:Dk:=(MP,0,1)
def  ltr(i:Nat):Str:=⟨#[97+i]⟩
def  fsP(zs:M3 Str)(ds:M3 PD)(fN:Nat):M3 Fc:=(gl fN).map λk=>(zs.getD k re,(ds.map PD.k).getD k k01)
def  btP(zs:M3 Str)(ds:M3 PD)(fN:Nat)(k:Nat)(t:PT):BT:=(zs.getD (fN+k) re,prm t.cols zs,prm t.cols<|ds.map PD.k,(ds.map PD.k).getD (fN+k) k01,t.way,t.rows,)
def  tsP(zs:M3 Str)(ds:M3 PD)(a:M3 PT)(fN:Nat):M3 BT:=a.mapIdx<|btP zs ds fN
def j3{a:Type}{xs:M3 a}{i:Nat}{x d:a}(e:xs[i]?=MO x):xs.getD i d=x:=by rw[iY,e];rfl
def ot{ds:M3 PD}{i:Nat}{p:PD}(e:ds[i]?=MO p):(ds.map PD.k).getD i k01=p.k:=j3 (by rw[dn,e];rfl)
def o8{zs:M3 Str}{ds:M3 PD}{fN j:Nat}{z:Str}{p:PD}(a:j<fN)(c:zs[j]?=MO z)(b:ds[j]?=MO p):(fsP zs ds fN)[j]?=MO (z,p.k):=by
 unfold fsP;rw[dn,oy a];show MO (zs.getD j re,(ds.map PD.k).getD j k01)=_;rw[j3 c,ot b]
def gL(zs:M3 Str)(ds:M3 PD)(fN:Nat):⇑(fsP zs ds fN)=fN:=by unfold fsP;rw[bQ,jf]
def j4(zs:M3 Str)(ds:M3 PD)(a:M3 PT)(fN:Nat):⇑(tsP zs ds a fN)=⇑a:=by unfold tsP;rw[List.length_mapIdx]
def qY{zs:M3 Str}{ds:M3 PD}{a:M3 PT}{fN k:Nat}{t:PT}(e:a[k]?=MO t):(tsP zs ds a fN)[k]?=MO (btP zs ds fN k t):=by unfold tsP;rw[OA,e];rfl
def Bw{zs:M3 Str}{ds:M3 PD}{a:M3 PT}{fN k:Nat}{b:BT}(e:(tsP zs ds a fN)[k]?=MO b):∃t,a[k]?=MO t/\b=btP zs ds fN k t:=by
 unfold tsP at e;rw[OA]at e;cases h:a[k]? with
 |none=>rw[h]at e;cases e
 |some t=>rw[h]at e;cases e;calc(t,U,U,)
def GC{cN cW:AE}{H:Hp}{zs:M3 Str}{ds:M3 PD}{fN:Nat}{b:M3 V}(h:ak b (gl fN) (FcA cN cW H zs ds)):ak b (fsP zs ds fN) (FcG cN cW H):=by
 refine(by rw[gL,h.1,jf],λj f e=>?_,);let a:=(KH.mp e).1;rw[gL]at a;let(r,l,nm,m,d,k,i,g,c):=h.2 j j<|oy a;rw[o8 a k i]at e;cases e;calc(r,l,d,g,c,)
structure TbV(t:BT):Prop where
 w:∀z∈t.nm :: t.cs,isw z=MQ
 nd:(t.nm :: t.cs).Nodup
 c1:1<=⇑t.cs
 c4:⇑t.cs<=4
 kl:⇑t.ks=⇑t.cs
 way:t.way∈six
 sum:t.way=s!"sum" -> t.o.1=MP
 rws:∀w∈t.rws,pP (t.ks.map (·.2)) t.o.2 w
 few:⇑t.rws<=200
def Bx{N:AE->Prop}{H:Hp}{D:AE}{d:M3 V}(b:H D=MO (.lst d))(n:¬ N D){xs:M3 V}{a:M3 Rw}(h:RL N H xs a):RL NT (hide H D) xs a :=
 ak.mono h λ_ _ (l,k,e,m,f,c,)=>(l,k,ml b _ _ e,trivial,cz f<|λz=>n<|z ▸ m,ak.mono c λ_ _ (j,i,g,p,)=>(trivial,i,cz g<|λz=>n<|z ▸ j,p.mono<|ml b,),)
section
variable{zs:M3 Str}{ds:M3 PD}{pts:M3 PT}{fN:Nat}
def Fe(ok:fM zs ds pts fN):(fsP zs ds fN).map (·.1)=zs.take fN:=by
 let e:=ok.len;let d:=ok.tab;refine ik λj=>?_
 rw[dn,NH];by_cases a:j<fN
 .let b:=KG (l:=zs) (i:=j) ∅;let c:=KG (l:=ds) (i:=j) ∅;rw[o8 a b c,MV a,b];rfl
 .rw[MU a,ia (by rw[gL];lia)];rfl
def Ff(ok:fM zs ds pts fN):(tsP zs ds pts fN).map BT.nm=zs.drop fN:=by
 let d:=ok.len;let c:=ok.tab;refine ik λj=>?_
 rw[dn,ox];by_cases b:j<⇑pts
 .let a:=KG (l:=zs) (i:=fN+j) ∅;rw[qY (KG b),a];show MO (zs.getD (fN+j) re)=_;rw[j3 a]
 .rw[ia (by rw[j4];lia),ia ∅];rfl
structure ClT(zs:M3 Str)(ds:M3 PD)(pts:M3 PT)(k:Nat)(t:BT):Prop where
 ex:∃pt:PT,pts[k]?=MO pt/\t.cs=prm pt.cols zs/\t.ks=prm pt.cols (ds.map PD.k)
def ClT.col(ok:fM zs ds pts fN){k:Nat}{t:BT}(h:ClT zs ds pts k t){i:Nat}{c:Str}{q:Dk}(e:t.cs[i]?=MO c)(d:t.ks[i]?=MO q):∃(j:Nat)(p:PD),j<fN+k/\zs[j]?=MO c/\ds[j]?=MO p/\q=p.k:=by
 let(pt,n,s,r):=h.ex;let a:=ok.lt n;let l:=ok.len;let m:=bT (os:=pt.cols) (xs:=zs) λj g=>by rw[l];exact a j g
 let u:=bT (os:=pt.cols) (xs:=ds.map PD.k) λj g=>by rw[bQ];exact a j g
 rw[s]at e;rw[r]at d;let hi:i<⇑pt.cols:=by rw[←m.1];exact(KH.mp e).1
 let b:=KG hi;let f:=KJ b;generalize pt.cols[i]=j at b f;rw[m.2 i j b]at e;rw[u.2 i j b,dn]at d;let o:=KG<|a j f;rw[o]at d;cases d;calc(j,_,(ok.tabs k pt n).ok.lt j f,e,o,U,)
def ClT.mem(ok:fM zs ds pts fN){k:Nat}{t:BT}(h:ClT zs ds pts k t){c:Str}(f:c∈t.cs):∃j,j<fN+k/\zs[j]?=MO c:=by
 let(i,e):=gu f;let(pt,r,n,m):=h.ex;let a:=ok.lt r;let d:=ok.len;let o:=bT (os:=pt.cols) (xs:=zs) λj b=>by rw[d];exact a j b
 let q:=bT (os:=pt.cols) (xs:=ds.map PD.k) λj b=>by rw[bQ];exact a j b
 let hi:i<⇑t.ks:=by
  let:=(KH.mp e).1;rw[n,o.1]at this;rw[m,q.1];exact this
 let(j,p,l,g,_):=h.col ok e<|KG hi;calc(j,l,g,)
structure NrI(zs:M3 Str)(ds:M3 PD)(pts:M3 PT)(fN:Nat)(fs:M3 Fc)(ts:M3 BT):Prop where
 pm:∃E:M3 Str,E.Nodup/\(∀e∈E,e ∉ zs/\isw e=MQ)/\(bN fs ts).Perm (zs++E)
 fx:∀f∈fs,(∃j p,j<fN/\zs[j]?=MO f.1/\ds[j]?=MO p/\f.2=p.k)\/(f.1 ∉ zs/\isw f.1=MQ)
 nm:∀t∈ts,(∃k,zs[fN+k]?=MO t.nm/\k<⇑pts/\ClT zs ds pts k t)\/t.nm ∉ zs
 t0:∃t∈ts,ClT zs ds pts 0 t
end
section
variable{zs:M3 Str}{ds:M3 PD}{pts:M3 PT}{fN:Nat}
def Fg(k:Nat){t:PT}(a:pts[k]?=MO t):ClT zs ds pts k (btP zs ds fN k t):=(t,a,U,U,)
def ql(ok:fM zs ds pts fN){b:BT}(h:b∈tsP zs ds pts fN):∃k t,pts[k]?=MO t/\k<⇑pts/\b=btP zs ds fN k t/\zs[fN+k]?=MO b.nm/\ClT zs ds pts k b:=by
 let(k,e):=gu h;let(t,a,rfl):=Bw e;let d:=(KH.mp a).1;let g:=ok.len;let f:=ok.tab;let c:=KG (l:=zs) (i:=fN+k) ∅;calc(k,t,a,d,U,?_,Fg k a,);rw[c];show _=MO (zs.getD (fN+k) re);rw[j3 c]
def CU(ok:fM zs ds pts fN){f:Fc}(h:f∈fsP zs ds fN):∃j p,j<fN/\zs[j]?=MO f.1/\ds[j]?=MO p/\f.2=p.k:=by
 let(j,b):=gu h;let a:=(KH.mp b).1;rw[gL]at a;let g:=ok.len;let e:=ok.tab;let d:=KG (l:=zs) (i:=j) ∅;let c:=KG (l:=ds) (i:=j) ∅;rw[o8 a d c]at b;cases b;calc(j,_,a,d,c,U,)
def DP(ok:fM zs ds pts fN){b:BT}(h:b∈tsP zs ds pts fN){k:Nat}(e:zs[fN+k]?=MO b.nm):∃p,ds[fN+k]?=MO p/\b.o=p.k:=by
 let(c,t,j,f,rfl,d,_):=ql ok h;let:=qP ok.nd e d;let:k=c:=∅
 subst this;let g:=ok.tab;let a:=KG (l:=ds) (i:=fN+k) ∅;calc(_,a,ot a,)
def By(ok:fM zs ds pts fN){j:Nat}{z:Str}(e:zs[j]?=MO z):zs.idxOf z=j:=by
 let b:=KJ e;let a:=Oe.mpr b;let c:zs[zs.idxOf z]?=MO z:=by rw[KG a,List.getElem_idxOf a]
 calc qP ok.nd c e
def GD(ok:fM zs ds pts fN){f:M3 BT}(h:∀t∈f,(t∈tsP zs ds pts fN)\/(t.nm ∉ zs/\∃k,ClT zs ds pts k t)):xB f:=by
 calc(λz=>zs.idxOf z,λt l c i _=>?_,);rcases h t l with a|⟨a,k,m⟩
 .let(k,pt,_,n,rfl,e,d):=ql ok a;let(j,g,b):=d.mem ok i;show zs.idxOf c<zs.idxOf (btP zs ds fN k pt).nm;rw[By ok b,By ok e];exact g
 .let(j,g,b):=m.mem ok i;show zs.idxOf c<zs.idxOf t.nm;rw[List.idxOf_eq_length a];calc Oe.mpr<|KJ b
structure WdR(zs:M3 Str)(ds:M3 PD)(pts:M3 PT)(fN:Nat)(kd:Int)(fs:M3 Fc)(ts:M3 BT):Prop where
 nr:NrI zs ds pts fN fs ts
 bad:kd=11->¬ vK fs ts
 good:kd≠11->vK fs ts
 un:kd=13\/(kd=8/\akP pts fN≠[])->¬ xA fs ts
 dm:kd≠11->kd≠13->¬ (kd=8/\akP pts fN≠[])->xA fs ts
 st:kd=12->Fd ts
 rk:kd≠11->kd≠12->kd≠13->¬ (kd=8/\akP pts fN≠[])->xB ts
 len:⇑fs<=20/\⇑ts<=30/\1<=⇑ts
end
section
variable{un:Str}{pu:PD}{fs fs':M3 Fc}{ts ts':M3 BT}{kd:Int}
end
section
variable{un:Str}{pu:PD}{fs0 fs fs':M3 Fc}{ts0 ts ts':M3 BT}{k0 k1 kk:Int}{i:Nat}
end
structure Sm(n:Nat)(z:Str):Prop where
 len:⇑z<=n
 low:∀c∈z.cps.toList,c<16^8
def Fh(s:String):∀c∈(lm s).cps.toList,c<16^8:=λc a=>by
 rw[L2]at a;simp only[ck]at a;let(b,_,rfl):=a;calc b.val.toNat_lt
def Sm.of(s:String){n:Nat}(h:⇑(lm s)<=n):Sm n (lm s):=(h,Fh s,)
def  Pl:V->Prop
 | .non=>True
 | .bl _=>True
 | .int _=>True
 | .str _=>True
 |_=>False
def Bz{v:V}(h:Shw v):Pl v:=by cases h <;> trivial
def  isI:V->Bool
 | .int _=>MQ
 |_=>MR
def  Fi(C:AE)(H:Hp)(x a:AE)(lo hi:Int):Hp:=upd (upd H x<|.ins C a [("low",.int lo)]) x<|.ins C a [("low",.int lo),("high",.int hi)]
def BA{C:AE}{H:Hp}{x a:AE}(lo hi:Int)(b:H x=MP)(c:H a=MP)(d:a≠x):aq H (Fi C (upd (upd H a<|.own x) x<|.ins C a []) x a lo hi):=by
 unfold Fi;calc((((ah c _).upd b).upd b).upd b)
def  inW(zs:M3 Str):V->Bool
 | .str z=>decide<|z∈zs
 |_=>MR
def CV{v:V}(h:Pl v):eM v=true:=by cases v <;> first|rfl|calc h.elim
def GG(zs:M3 Str)(v:V)(h:Pl v):inV v (zs.map OT)=inW zs v:=by
 unfold inV inW;rw[List.any_map];cases v with
 |str z =>
  rw[py,iv,M1];constructor
  .rintro⟨y,c,e⟩;let:y=z:=by simpa[eqV]using e
   rw[←this];exact c
  .intro a;exact(z,a,by simp[eqV],)
 |non=>exact ng.mpr λy _=>by simp[eqV]
 |bl b=>exact ng.mpr λy _=>by simp[eqV]
 |int i=>exact ng.mpr λy _=>by simp[eqV]
 |_=>calc h.elim
def  inB(lo hi:Int):V->Bool
 | .int i=>decide (lo<=i) && decide (i<=hi)
 |_=>MR
def  mS(zs:M3 Str)(z:Str)(j:Nat):Prop:=zs[j]?=MO z/\∀(m:Nat)(u:Str),m<j->zs[m]?=MO u->u≠z
def qZ:∀{zs:M3 Str}{z:Str},z∈zs->∃j,mS zs z j
 |y :: zs,z,h=>by
  by_cases e:y=z
  .exact(0,by simp[e],λm u b=>MW b<|N1 m,)
  .let f:z∈zs:=by
    rcases cZ.mp h with q|q
    .exact MW q.symm e
    .exact q
   let(j,d,c):=qZ f;calc(j+1,~~~d,λm u b a=>?_,);cases m with
   |zero =>
    let:y=u:= ~~~a
    rw[←this];exact e
   |succ m=>calc c m u ∅ (~~~a)
def mS.of_nodup{zs:M3 Str}{z:Str}{j:Nat}(h:zs.Nodup)(e:zs[j]?=MO z):mS zs z j:=by
 calc(e,λm u b a q=>?_,);subst q;let:=nH h a e;lia
def CW(C:AE)(H:Hp)(x a:AE)(lo hi:Int):hU C (Fi C H x a lo hi) x lo hi:=(a,af,)
structure Two(C:AE)(H:Hp)(e d:AE)(t0 t1 x0 x1:AE)(p0 p1:Int×Int):Prop where
 ends:H e=MO (.lst [.ref t0,.ref t1])
 doms:H d=MO (.lst [.ref x0,.ref x1])
 e0:H t0=MO (.tup [.int p0.1,.int p0.2])
 e1:H t1=MO (.tup [.int p1.1,.int p1.2])
 d0:hU C H x0 p0.1 p0.2
 d1:hU C H x1 p1.1 p1.2
structure Gd(p:Int×Int):Prop where
 le:p.1<=p.2
 lo:bnd p.1
 hi:bnd p.2
def  ten:Str := "0123456789"
def  cw(z:Str):Str:=if li z "-" = MQ then GE z (MO 1) MP else z
def  isn(z:Str):Bool:=MS (OT z=OT "0") || (MS ((1:Int)<=((⇑(cw z):Nat):Int)) && (MS (((⇑(cw z):Nat):Int)<=60) && (!MS (OT ⟨#[(cw z).cps.toList.headD 0]⟩=OT "0") && jG (cw z) ten)))
def BB(z:Str):⇑(cw z)<=⇑z:=by
 unfold cw;by_cases h:li z "-" = MQ
 .rw[MV h];exact Txt.slice_le _ _ _
 .rw[MU h];calc pT _
def CY{z:Str}(h:1<=⇑z):atI z.cps.toList 0=MO (z.cps.toList.headD 0):=by
 let e:⇑z.cps.toList=⇑z:=by simp[wS]
 cases hc:z.cps.toList with
 |nil=>rw[hc]at e;simp at e;lia
 |cons c r=>calc aS (j:=0) (show(c :: r)[0]?=MO c from U)
def Fj{c:Nat}(h:48<=c/\c<=57):sg ten c=true:=by
 let:c=48\/c=49\/c=50\/c=51\/c=52\/c=53\/c=54\/c=55\/c=56\/c=57:=∅
 rcases this with rfl|rfl|rfl|rfl|rfl|rfl|rfl|rfl|rfl|rfl <;> decide+kernel
def xC{c:Nat}{cs:M3 Nat}:GE ⟨(c :: cs).toArray⟩ (MO 1) MP=⟨cs.toArray⟩:=by
 let h:=N6 (x:=⟨(c :: cs).toArray⟩) (i:=1) (⋯,by simp;lia,);let e:GE ⟨(c :: cs).toArray⟩ (MO 1) MP=Ow ⟨(c :: cs).toArray⟩ (MO 1) none:=rfl;rw[e,h];simp
def gc{c:Nat}{cs:M3 Nat}:li ⟨(c :: cs).toArray⟩ "-" = (c == 45):=by
 let e:s!"-"=⟨#[45]⟩:= ~~~0
 show li ⟨(c :: cs).toArray⟩ s!"-"=_;rw[e];unfold li KY.Str.subAt;simp[wS,List.extract_toArray]
def  di(z:Str):Int:=if li z "-" = MQ then -((PySem.NumText.digitsVal (cw z).cps.toList:Nat):Int) else((PySem.NumText.digitsVal (cw z).cps.toList:Nat):Int)
def CZ{c:Nat}:sg ten c=MS (48<=c/\c<=57):=by
 unfold sg;rw[PySem.StrLaws.found_one];let e:ten.cps.toList=[48,49,50,51,52,53,54,55,56,57]:= ~~~0
 rw[e];apply decide_eq_decide.mpr
 simp only[cZ,gx,or_false];omega
def tH{z:Str}(h:jG z ten=MQ):PySem.NumText.AllDigits z.cps.toList:=λc a=>by
 let:=gX.mp h c a;rw[CZ]at this;calc MZ this
def C3(z:Str):z=⟨z.cps.toList.toArray⟩:=by simp
def yH(z:Str):isn z=(MS ((1:Int)<=((⇑(cw z):Nat):Int)) && (MS (((⇑(cw z):Nat):Int)<=60) && (!(MS (OT ⟨#[(cw z).cps.toList.headD 0]⟩=OT "0") && !MS (OT z=OT "0")) && jG (cw z) ten))):=by
 unfold isn;by_cases h:OT z=OT s!"0"
 .let a:z=s!"0" := by injection h
  subst a;decide+kernel
 .rw[MY h];simp
def BC{z:Str}(h:isn z=MQ)(l:⇑z<=600):PySem.intText? z=MO (di z):=by
 rw[yH]at h;simp only[wh,decide_eq_true_eq]at h;let(o,n,m,i):=h;let f:=tH i;let ne:(cw z).cps.toList≠[]:=λe=>by
  let:(cw z).cps.toList.length=⇑(cw z):=by simp[wS]
  rw[e]at this;simp at this;lia
 unfold di;by_cases b:li z "-" = MQ
 .rw[MV b];let j:z.cps.toList=45 :: (cw z).cps.toList:=by
   let g:∀a:M3 Nat,li ⟨a.toArray⟩ "-" = MQ->a=45 :: (cw ⟨a.toArray⟩).cps.toList:=λa d=>by
    cases a with
    |nil=>exact MW d (~~~0)
    |cons c r =>
     unfold cw;rw[MV d,xC];rw[gc]at d;let:c=45:= ~~~d
     rw[this]
   let:=g z.cps.toList (by rw[←C3];exact b);rw[←C3]at this;exact this
  exact intText_neg j f ne ∅
 .rw[MU b];let k:cw z=z:=by unfold cw;rw[MU b]
  rw[k]at f ne⊢;calc LZ f ne ∅
def C4{n:Int}{cs:M3 Nat}(F:pV cs)(j:PySem.NumText.digitsVal cs=n.natAbs)(q:⇑cs<=60):isn ⟨(f9 n cs).toArray⟩=true:=by
 let(c,r,rfl):∃c r,cs=c :: r:=by
  cases cs with
  |nil=>exact MW U F.ne
  |cons c r=>exact(c,r,U,)
 let w:=F.all c gb;let t:jG ⟨(c :: r).toArray⟩ ten=true:=by
  unfold jG;rw[gX];intro x p;exact Fj<|F.all x<|~~~p
 let a:∀(d:cw ⟨(f9 n (c :: r)).toArray⟩=⟨(c :: r).toArray⟩),49<=c->isn ⟨(f9 n (c :: r)).toArray⟩=true:=λd u=>by
  unfold isn;rw[d,t];let o:(⇑(⟨(c :: r).toArray⟩:Str):Int)=((⇑r+1:Nat):Int):=by simp[wS]
  rw[o];let h:s!"0"=⟨#[48]⟩:= ~~~0
  let m:¬ (OT ⟨#[c]⟩=OT s!"0"):=by
   rw[h];intro z;injection z with z;injection z with z;injection z with z;injection z with z;lia
  let v:⇑r+1<=60:= ~~~q
  rw[MX (show(1:Int)<=((⇑r+1:Nat):Int) by lia),MX (show((⇑r+1:Nat):Int)<=60 by lia)];show(_ || (MQ && (MQ && (!MS (OT ⟨#[c]⟩=OT s!"0") && MQ))))=MQ;rw[MY m];simp
 by_cases k:n<0
 .let e:f9 n (c :: r)=45 :: c :: r:=by unfold f9;rw[MV k]
  let d:cw ⟨(f9 n (c :: r)).toArray⟩=⟨(c :: r).toArray⟩:=by
   unfold cw;rw[e,gc,MV ⋯,xC]
  calc a d ?_;rcases F.one with b|⟨s,l,b,g⟩
  .let f:r=[]:= ~~~b
   subst f;rw[mf]at j;simp[PySem.NumText.digitsVal]at j;lia
  .cases b;exact g
 .let e:f9 n (c :: r)=c :: r:=by unfold f9;rw[MU k]
  rcases F.one with b|⟨s,l,b,g⟩
  .let f:r=[]:= ~~~b
   subst f;by_cases i:c=48
   .subst i;let h:s!"0"=⟨#[48]⟩:= ~~~0
    unfold isn;rw[e];rw[MX (show OT ⟨[48].toArray⟩=OT s!"0" by rw[h])];rfl
   .refine a ?_ ∅;unfold cw;rw[e,gc,MU (by simp;lia)]
  .cases b;calc a ?_ g;unfold cw;rw[e,gc,MU (by simp;lia)]
def C5(m:Nat):∃cs:M3 Nat,pV cs/\PySem.NumText.digitsVal cs=m:=by
 induction m using Nat.strongRecOn with
 |_ m d =>
  by_cases h:m<10
  .refine([48+m],(λc a=>?_,.inl U,),?_,)
   .rw[show c=48+m by simpa using a];lia
   .rw[mf];simp[PySem.NumText.digitsVal]
  .let(cs,F,b):=d (m / 10) ∅;refine(cs++[48+m%10],(λc a=>?_,.inr ?_,),?_,)
   .rcases eA.mp a with a|a
    .exact F.all c a
    .rw[show c=48+m%10 by simpa using a];lia
   .rcases F.one with e|⟨c,r,rfl,a⟩
    .match cs,e with
     | [c],_ =>
      calc(c,[48+m%10],U,?_,);rw[mf]at b;simp[PySem.NumText.digitsVal]at b;lia
    .exact(c,r++[48+m%10],U,a,)
   .unfold PySem.NumText.digitsVal at b⊢;rw[lQ,b];simp;lia
def j5{n:Int}(h:bnd n):isn (lm<|toString n)=MQ/\di (lm<|toString n)=n:=by
 let(f,F,a):=C5 n.natAbs;let b:=F.short (k:=60) ⋯ (by rw[a];exact h);let d:=Cr F a;let hi:isn (lm<|toString n)=true:=by rw[d];exact C4 F a b
 calc(hi,?_,);let e:=BC hi<|qu (len_num h) ⋯;let c:PySem.intText? (lm<|toString n)=MO n:=by rw[d];exact Cs F a b
 rw[e]at c;calc dL c
def DQ:∀{cs:M3 Nat},PySem.NumText.AllDigits cs->PySem.NumText.digitsVal cs<10^⇑cs
 | [],_=>⋯
 |c :: r,h=>by
  let e:=h c (by simp);let d:=DQ (cs:=r) λx a=>h x<|eY _ a
  rw[mf,gv,Nat.pow_succ];let b:(c-48)*10^⇑r<=9*10^⇑r:=sT _ ∅;lia
def o9{z:Str}(h:isn z=MQ):pV (cw z).cps.toList/\(cw z).cps.toList.length<=60/\tl z=f9 (di z) (cw z).cps.toList/\PySem.NumText.digitsVal (cw z).cps.toList=(di z).natAbs:=by
 let y:=h;rw[yH]at h;simp only[wh,decide_eq_true_eq,OS,wZ,Bool.not_eq_false']at h;let(x,w,i,q):=h;let p:=tH q;let d:(cw z).cps.toList.length=⇑(cw z):=by simp[wS]
 let(c,r,a):∃c r,(cw z).cps.toList=c :: r:=by
  cases hh:(cw z).cps.toList with
  |nil=>rw[hh]at d;simp at d;lia
  |cons c r=>exact(c,r,U,)
 let g:=p c (by rw[a];simp);let k:z≠s!"0" -> c≠48:=λf e=>by
  rcases i with i|i
  .let:OT ⟨#[(cw z).cps.toList.headD 0]⟩=OT s!"0":=by
    rw[a,e];rfl
   exact MW this<|of_decide_eq_false i
  .let:=i;exact f (by injection this)
 let F:pV (cw z).cps.toList:=by
  calc(p,?_,);by_cases f:z=s!"0"
  .left
   subst f;decide+kernel
  .right
   exact(c,r,a,by have:=k f;lia,)
 let m:li z "-" = MQ->0<PySem.NumText.digitsVal (cw z).cps.toList:=λb=>by
  let f:z≠s!"0" := λe=>by rw[e]at b;exact MW b<|~~~0
  let:=k f;rw[a,mf];let v:1*10^⇑r<=(c-48)*10^⇑r:=sT _ ∅;let u:0<10^⇑r:=Nat.pow_pos ⋯;lia
 refine(F,∅,?_,?_,)
 .by_cases b:li z "-" = MQ
  .let l:∀j:M3 Nat,li ⟨j.toArray⟩ "-" = MQ->j=45 :: (cw ⟨j.toArray⟩).cps.toList:=λj g=>by
    cases j with
    |nil=>exact MW g (~~~0)
    |cons c r =>
     unfold cw;rw[MV g,xC];rw[gc]at g;let:c=45:= ~~~g
     rw[this]
   let o:=l z.cps.toList (by rw[←C3];exact b);rw[←C3]at o;let t:di z<0:=by
    unfold di;rw[MV b];let:=m b;lia
   unfold f9;rw[MV t];exact o
  .let s:cw z=z:=by unfold cw;rw[MU b]
   let n:¬ di z<0:=by
    unfold di;rw[MU b];lia
   unfold f9;rw[MU n,s];rfl
 .unfold di;split <;> lia
def zL{z:Str}(h:isn z=MQ):46 ∉ tl z:=λm=>by
 let(F,_,e,_):=o9 h;rw[e]at m;unfold f9 at m;let no:∀c∈(cw z).cps.toList,c≠46:=λc a z=>by have:=F.all c a;lia
 split at m
 .rcases cZ.mp m with m|m
  .exact MW m ⋯
  .exact no _ m U
 .exact no _ m U
def C6{z:Str}(h:isn z=MQ):bnd (di z):=by
 let(F,l,_,d):=o9 h;unfold bnd;rw[←d];calc ri (DQ F.all)<|OD ⋯ l
def gM{z:Str}(h:isw z=MQ):Ltr z/\tl z≠[]:=by
 unfold isw at h;simp only[wh,decide_eq_true_eq]at h;let(f,_,_,d):=h;refine(λc b=>?_,λe=>by have:=bw z;rw[e]at this;simp at this;lia,);let:=gX.mp d c b;unfold sg at this;rw[PySem.StrLaws.found_one]at this;let m:=MZ this;let e:lets.cps.toList=(gl 26).map (97 + ·):= ~~~0
 rw[e]at m;let(k,a,rfl):=ck.mp m;let:=gW.mp a;lia
def vL(m:Str)(k:Nat):∀{P:M3 Str},(∀p∈P,⇑(tl p)<=k)->⇑(tl<|kt m P)<=P.length*(k+⇑(tl m))
 | [],_=>rE _
 | [x],h=>by
  let:=h x (by simp);show⇑(tl x)<=1*_;lia
 |x :: y :: r,h=>by
  let c:=h x (by simp);let b:=vL m k (P:=y :: r) λp a=>h p<|eY _ a
  rw[cQ,dV,dV,gv,u3];lia
def  inD(z:Str):Bool:=!(Fa z bD 0 ⇑z 1).isEmpty
def C7{n:Nat}{z:Str}(h:Sm n z)(d:inD z=MQ):Sm n (db z bD).1/\Sm n (db z bD).2.2:=by
 let e:=yu d;let b:=h.len;rw[←bw,e,dV,dV]at b;refine((by rw[←bw];lia,λc a=>h.low c ?_,),(by rw[←bw];lia,λc a=>h.low c ?_,),)
 .show c∈tl z;rw[e];exact fE _ a
 .show c∈tl z;rw[e];calc fq _<|fq _ a
abbrev Dm:=Sum (Int×Int)<|M3 Str
def  jn(cN cW:AE)(H:Hp)(a:AE):Dm->Prop
 | .inl p=>hU cN H a p.1 p.2
 | .inr zs=>my cW H a zs
def jn.same{cN cW:AE}{H H':Hp}{a:AE}{d:Dm}(h:jn cN cW H a d)(s:aq H H'):jn cN cW H' a d:=by
 cases d with
 |inl p=>exact hU.same h s
 |inr b=>calc my.same h s
def oz{C:AE}{H H':Hp}{x a:AE}(d:H x=MP)(c:H a=MP)(e:∀b o,b≠x->upd (upd H a<|.own x) x (.ins C a []) b=MO o->H' b=MO o):aq H H':=λb o h=>e b o (bF h d)<|((ah c<|.own x).upd d) b o h
def BD{C:AE}{H:Hp}{x a p:AE}{o:HO}(c:H x=MP)(b:H a=MP)(h:H p=MO o):upd (upd H a<|.own x) x (.ins C a []) p=MO o:=((ah b<|.own x).upd c:aq H _) _ _ h
def  fT:Dm->Int×Int
 | .inl p=>p
 | .inr zs=>(0,hiW zs)
def  rV:M3 Str->Str->Option Nat
 | [],_=>MP
 |y :: ys,z=>if y=z then MO 0 else(rV ys z).map (· + 1)
def gE:∀{zs:M3 Str}{z:Str}{j:Nat},mS zs z j->rV zs z=MO j
 | [],z,j,h=>by cases h.1
 |y :: ys,z,0,h=>by
  let:y=z:= ~~~h.1
  unfold rV;rw[MV this]
 |y :: ys,z,j+1,h=>by
  let ne:y≠z:=h.2 0 y ∅ U;let:=gE (zs:=ys) (z:=z) (j:=j) (~~~h.1,λm u a e=>h.2 (m+1) u ∅ (~~~e),);unfold rV;rw[MU ne,this];rfl
def pe:∀{zs:M3 Str}{z:Str},z ∉ zs->rV zs z=MP
 | [],z,h=>rfl
 |y :: ys,z,h=>by
  unfold rV;rw[MU (λe=>h (by simp[e])),pe (λe=>h<|eY _ e)];rfl
def  codeOf:Dm->Str->Option Int
 | .inl p,z=>if isn z=MQ/\p.1<=di z/\di z<=p.2 then MO (di z)else MP
 | .inr zs,z=>(rV zs z).map λj=>(j:Int)
def  endOf(p:Int×Int)(c:Int)(z:Str):Option Int:=if ((⇑z:Int) != 0)=MQ then codeOf (.inl p) z else MO c
def  gg(p:Int×Int)(z:Str):Option (Int×Int):=if z=bD then MP else
 match endOf p p.1 (db z bD).1,endOf p p.2 (db z bD).2.2 with
 |some l,MO h=>if l>h then MP else MO (l,h)
 |_,_=>MP
def  cV:Dm->Str->Option (Int×Int)
 | .inl p,z=>if inD z=MQ then gg p z else(codeOf (.inl p) z).map λc=>(c,c)
 | .inr zs,z=>(codeOf (.inr zs) z).map λc=>(c,c)
def  jo(f:Str->Option (Int×Int)):M3 Str->Option Prs
 | []=>MO []
 |z :: r=>match f z,jo f r with
  |some p,MO ps=>MO (p :: ps)
  |_,_=>MP
def  partsOf(d:Dm)(z:Str):Option Prs:=if z=s!"-" then MO [fT d]else jo (cV d) (jp z mk2)
def oA{zs:M3 Str}{z:Str}:codeOf (.inr zs) z=(rV zs z).map λj=>(j:Int):=by unfold codeOf;rfl
def qm{lo hi v:Int}:inB lo hi (.int v)=MQ↔lo<=v/\v<=hi:=by
 show(MS (lo<=v) && decide (v<=hi))=MQ↔_;simp
def uq{p:Int×Int}{z:Str}(b:isn z=MQ)(a:inB p.1 p.2 (.int<|di z)=MQ):codeOf (.inl p) z=MO (di z):=MV (b,qm.mp a,)
def q8{p:Int×Int}{z:Str}(h:¬ (isn z=MQ/\inB p.1 p.2 (.int<|di z)=MQ)):codeOf (.inl p) z=none:=MU λg=>h (g.1,qm.mpr g.2,)
def q9{p:Int×Int}{z:Str}(h:endOf p p.1 (db z bD).1=MP\/endOf p p.2 (db z bD).2.2=MP):gg p z=none:=by
 unfold gg;split
 .rfl
 .rcases h with h|h
  .rw[h]
  .rw[h];cases endOf p p.1 (db z bD).1 <;> rfl
def rg{p:Int×Int}{z:Str}{l h:Int}(hz:z≠bD)(b:endOf p p.1 (db z bD).1=MO l)(a:endOf p p.2 (db z bD).2.2=MO h):gg p z=if l>h then MP else MO (l,h):=by
 unfold gg;rw[MU hz,b,a]
def pf{p:Int×Int}{c:Int}{z:Str}(h:¬ ((⇑z:Int) != 0)=MQ):endOf p c z=MO c:=MU h
def lG{p:Int×Int}{c:Int}{z:Str}(h:((⇑z:Int) != 0)=MQ):endOf p c z=codeOf (.inl p) z:=MV h
def tI{f:Str->Option (Int×Int)}:∀{zs:M3 Str}{i:Nat}{z:Str},zs[i]?=MO z->f z=MP->jo f zs=MP
 | [],i,z,e,h=>by cases e
 |y :: ys,0,z,e,h=>by
  let:y=z:= ~~~e
  subst this;unfold jo;rw[h]
 |y :: ys,i+1,z,e,h=>by
  unfold jo;rw[tI (zs:=ys) (i:=i) (~~~e) h];cases f y <;> rfl
def tJ{f:Str->Option (Int×Int)}:∀{zs:M3 Str}{ps:Prs}{z:Str}{p:Int×Int},jo f zs=MO ps->f z=MO p->jo f (zs++[z])=MO (ps++[p])
 | [],ps,z,p,h,e=>by
  cases h;simp[jo,e]
 |y :: ys,ps,z,p,h,e=>by
  unfold jo at h;cases h1:f y with
  |none=>rw[h1]at h;cases h
  |some q =>
   cases h2:jo f ys with
   |none=>rw[h1,h2]at h;cases h
   |some qs =>
    rw[h1,h2]at h;cases h;let:=tJ (zs:=ys) (z:=z) h2 e;show jo f (y :: (ys++[z]))=_;unfold jo;rw[h1,this];rfl
def GH(z:Str)(h:Sm 600 z):⇑z<=AY:=big (by have:=h.len;lia)
def yI(z:Str):(((⇑z:Nat):Int) != 0)=MQ\/(((⇑z:Nat):Int) != 0)=false:=by
 cases h:(((⇑z:Nat):Int) != 0)
 .exact .inr U
 .exact .inl U
def j6{p:Int×Int}{z:Str}(h:inD z=MQ):cV (.inl p) z=gg p z:=by unfold cV;calc MV h
def ph{p:Int×Int}{z:Str}(h:¬ inD z=MQ):cV (.inl p) z=(codeOf (.inl p) z).map λc=>(c,c):=by unfold cV;calc MU h
def vM{zs:M3 Str}{z:Str}:cV (.inr zs) z=(codeOf (.inr zs) z).map λc=>(c,c):=by unfold cV;rfl
def BE{p:Int×Int}(h:p.1<=p.2):Apart [p]:=Apart.nil.snoc h λr a=>by cases a
def tK{H:Hp}{t l:AE}{x y:V}(b:H t=MP)(a:upd H t (.tup [x,y]) l=MP):upd (upd H t<|.tup [x,y]) l (.lst [.ref t]) t=MO (.tup [x,y]):=(ay<|bF af a).trans af
def  Cln(z:Str):Prop:=∀j,(tl z)[j]?=MO 44->(tl z)[j+1]?≠MO 32
def yJ{p w a b:M3 Nat}(f:∀j,p[j]?=MO 44->p[j+1]?≠MO 32)(h:p++([44,32]++a)=w++([44,32]++b)):⇑p<=⇑w:=by
 rcases tN ⇑w ⇑p with g|g
 .exfalso;let e:(w++([44,32]++b))[⇑w]?=MO 44:=by simp
  let c:(w++([44,32]++b))[⇑w+1]?=MO 32:=by
   rw[fV ∅,show ⇑w+1-⇑w=1 by lia];rfl
  rw[←h]at e c;rw[ft g]at e;rcases tN (⇑w+1) ⇑p with d|d
  .rw[ft d]at c;exact f _ e c
  .rw[fV d,show ⇑w+1-⇑p=0 by lia]at c;cases c
 .exact g
def rh:∀{W P:M3 Str},W≠[]->P≠[]->(∀w∈W,Cln w)->(∀p∈P,Cln p)->tl (kt mk2 P)=tl (kt mk2 W)->P=W
 | [],_,h,_,_,_,_=>MW U h
 |_,[],_,h,_,_,_=>MW U h
 | [w],[p],_,_,_,_,e=>by
  let e:tl p=tl w:=e;rw[gZ e]
 | [w],p :: p2 :: P,_,_,hw,_,e=>by
  let e:tl (kt mk2 (p :: p2 :: P))=tl w:=e;rw[cQ,mY]at e;let c:(tl w)[⇑(tl p)]?=MO 44:=by rw[←e];simp
  let b:(tl w)[⇑(tl p)+1]?=MO 32:=by
   rw[←e,fV ∅,show⇑(tl p)+1-⇑(tl p)=1 by lia];rfl
  exact MW b<|hw w (by simp) _ c
 |w :: w2 :: W,[p],_,_,_,hp,e=>by
  let e:tl p=tl (kt mk2 (w :: w2 :: W)):=e;rw[cQ,mY]at e;let c:(tl p)[⇑(tl w)]?=MO 44:=by rw[e];simp
  let b:(tl p)[⇑(tl w)+1]?=MO 32:=by
   rw[e,fV ∅,show⇑(tl w)+1-⇑(tl w)=1 by lia];rfl
  exact MW b<|hp p (by simp) _ c
 |w :: w2 :: W,p :: p2 :: P,_,_,hw,hp,e=>by
  rw[cQ,cQ,mY]at e;let f:=yJ (hp p (by simp)) e;let d:=yJ (hw w (by simp)) e.symm;let(j,i):=mu e<|Nat.le_antisymm f d;let g:=Nr i;let:=rh (W:=w2 :: W) (P:=p2 :: P) (by simp) (by simp) (λx a=>hw x<|eY _ a) (λx a=>hp x<|eY _ a) g;rw[gZ j,this]
def gR{W:M3 Str}(h:W≠[])(a:∀w∈W,Cln w):jp (io mk2 W) mk2=W:=by
 calc rh h (vx _) a (pN _) ?_;rw[StrLaws.join_split,iA]
def Cln.of_no{z:Str}(h:44 ∉ tl z):Cln z:=λj e=>MW (KJ e) h
def  mz:Str:=s!"-"
def xD{d:Dm}{W:M3 Str}(h:W≠[])(a:∀w∈W,Cln w)(c:W≠[mz]):partsOf d (io mk2 W)=jo (cV d) W:=by
 unfold partsOf;rw[MU,gR h a];intro e;let b:=gR h a;rw[e]at b;calc c<|b.symm.trans ?_;calc gR (W:=[mz]) (by simp) (λw a=>by rw[show w=mz by simpa using a];exact Cln.of_no (~~~0))
def tL{d:Dm}:partsOf d mz=MO [fT d]:=by unfold partsOf;calc MV U
def  vO:Str:=s!"not "
def yK:tl vO=[110,111,116,32]:= ~~~0
def vP(z y:Str):li z y=MQ↔(tl z).take ⇑(tl y)=tl y:=by
 unfold li
 rw[NI,wh,M1,beq_iff_eq,nC,bw];constructor
 .exact λh=>h.2
 .intro h;calc(?_,h,);let:=M0 M6 h;rw[eH,bw,bw]at this;lia
def zM{p:Str}{r:M3 Str}(h:(tl p).take 4≠tl vO):li (io mk2 (p :: r)) vO=false:=by
 rw[wi];intro g;rw[vP,iA]at g;let c:⇑(tl vO)=4:= ~~~0
 rw[c]at g
 match r with
 | []=>exact h g
 |q :: r =>
  rw[cQ,mY]at g;by_cases b:4<=⇑(tl p)
  .rw[NY b]at g;exact h g
  .let a:(List.take 4<|tl p++([44,32]++tl (kt mk2 (q :: r))))[⇑(tl p)]?=MO 44:=by
    rw[Nn ∅];simp
   rw[g]at a;let:∀i,i<4->(tl vO)[i]?≠MO 44:= ~~~0
   calc this _ ∅ a
abbrev jL(n:Int):Str:=lm<|toString n
def gF{n:Int}(h:bnd n):(∀c∈tl (jL n),c=45\/(48<=c/\c<=57))/\tl (jL n)≠[]:=by
 let(F,l,e,d):=o9 (j5 h).1;let b:=F.ne;refine(λc a=>?_,λz=>?_,)
 .rw[e]at a;unfold f9 at a;split at a
  .rcases cZ.mp a with a|a
   .exact .inl a
   .exact .inr<|F.all c a
  .exact .inr<|F.all c a
 .rw[e]at z;unfold f9 at z;split at z
  .cases z
  .exact b z
def zN{d c:Str}(g:46 ∉ tl d)(f:46 ∉ tl c):(db (d++bD++c) bD).1=d/\(db (d++bD++c) bD).2.2=c:=by
 let e:=yu (t:=d++bD++c) uc;let h:tl (d++bD++c)=tl d++([46,46]++tl c):=by rw[cL,cL,ub,gB]
 rw[h]at e;let(a,b):=zq e g f;calc((gZ a).symm,(gZ b).symm,)
def BG{z:Str}:((⇑z:Int) != 0)=MQ↔tl z≠[]:=by
 rw[bne_iff_ne];let:=bw z;constructor
 .intro h e;rw[e]at this;simp at this;lia
 .intro h e;calc h<|hE.mp ∅
def qp{p:Int×Int}{c n:Int}(d:bnd n)(f:p.1<=n)(e:n<=p.2):endOf p c (jL n)=MO n:=by
 let(a,b):=j5 d;rw[lG (BG.mpr (gF d).2),uq a (by rw[b];exact qm.mpr (f,e,)),b]
def vQ{p:Int×Int}{n:Int}(c:bnd n)(e:p.1<=n)(d:n<=p.2):codeOf (.inl p) (jL n)=MO n:=by
 let(a,b):=j5 c;rw[uq a (by rw[b];exact qm.mpr (e,d,)),b]
def  emp:Str:=s!""
def ur:tl emp=[]:= ~~~0
def yL{p:Int×Int}{c:Int}:endOf p c emp=MO c:=by
 refine pf λh=>?_
 calc(BG.mp h) ur
def m9{p:Int×Int}{d c:Str}{l h:Int}(i:46 ∉ tl d)(g:46 ∉ tl c)(f:tl d≠[]\/tl c≠[])(E0:endOf p p.1 d=MO l)(j:endOf p p.2 c=MO h):gg p (d++bD++c)=if l>h then MP else MO (l,h):=by
 let(a,b):=zN i g;refine rg (λe=>?_) (by rw[a];exact E0) (by rw[b];exact j);let:=M0 (λz=>⇑(tl z)) e;simp only[cL,ub,dV,gv,List.length_nil]at this;rcases f with z|z
 .exact z<|hE.mp ∅
 .exact z<|hE.mp ∅
def iL{n:Int}(h:bnd n):46 ∉ tl (jL n):=zL (j5 h).1
def tM:46 ∉ tl emp:=by rw[ur];simp
def C8(z:Str):emp++z=z:=gZ (by rw[cL,ur];rfl)
def C9(z:Str):z++emp=z:=gZ (by rw[cL,ur,hY])
def uu{b a:Str}:inD (b++bD++a)=true:=uc
def Fl{n:Int}(h:bnd n):¬ inD (jL n)=true:=by
 let:=vy (t:=jL n) (by rw[ny.mpr (iL h)];decide);unfold inD;rw[this];decide
def BH{p r:Int×Int}(b1:bnd r.1)(b2:bnd r.2)(b:p.1<=r.1)(d:r.1<=r.2)(c:r.2<=p.2):cV (.inl p) (shN p.1 p.2 r)=MO r:=by
 let fin:(if r.1>r.2 then MP else MO (r.1,r.2))=MO r:=MU ∅;unfold shN;split
 .rename_i e
  rw[ph (Fl b1),vQ b1 b ∅];show MO (r.1,r.1)=MO r;rw[show(r.1,r.1)=r from Prod.ext U e]
 .split
  .rename_i e
   let a:s!".." ++ jL r.2=emp++bD++jL r.2:=by rw[C8];rfl
   rw[a,j6 uu,m9 tM (iL b2) (.inr (gF b2).2) yL<|qp b2 ∅ c,←e];exact fin
  .split
   .rename_i e
    let a:jL r.1++s!".." = jL r.1++bD++emp:=by rw[C9];rfl
    rw[a,j6 uu,m9 (iL b1) tM (.inl (gF b1).2) (qp b1 b ∅) yL,←e];exact fin
   .let a:jL r.1++s!".." ++ jL r.2=jL r.1++bD++jL r.2:=rfl;rw[a,j6 uu,m9 (iL b1) (iL b2) (.inl (gF b1).2) (qp b1 b ∅) (qp b2 ∅ c)];calc fin
def pj{lo hi:Int}{r:Int×Int}(b1:bnd r.1)(b2:bnd r.2):∀c∈tl (shN lo hi r),c=45\/c=46\/(48<=c/\c<=57):=by
 let k:∀n:Int,bnd n->∀c∈tl (jL n),c=45\/c=46\/(48<=c/\c<=57):=λn h c a=>by
  rcases(gF h).1 c a with z|z
  .exact .inl z
  .exact .inr<|.inr z
 let d:∀c∈tl s!"..",c=45\/c=46\/(48<=c/\c<=57):= ~~~0
 unfold shN;intro c a;split at a
 .exact k _ b1 c a
 .split at a
  .rw[cL]at a;exact(eA.mp a).elim (d c) (k _ b2 c)
  .split at a
   .rw[cL]at a;exact(eA.mp a).elim (k _ b1 c) (d c)
   .rw[cL,cL]at a;rcases eA.mp a with a|a
    .exact(eA.mp a).elim (k _ b1 c) (d c)
    .exact k _ b2 c a
def Dc{z:Str}(h:110 ∉ tl z):(tl z).take 4≠tl vO:=λe=>h<|jh (i:=4) (by rw[e,yK];simp)
def BI{p:Int×Int}:cV (.inl p) mz=none:=by
 rw[ph (~~~0),q8 λg=>MW g.1 (~~~0)];rfl
def rj{a:Type}{F:Str->Option (Int×Int)}{f:a->Str}{g:a->Int×Int}:∀{l:M3 a},(∀x∈l,F (f x)=MO (g x))->jo F (l.map f)=MO (l.map g)
 | [],_=>rfl
 |x :: l,h=>by
  rw[gs];unfold jo;rw[h x (by simp),rj λy b=>h y (eY _ b)];rfl
def  uv(zs:M3 Str)(w:Str):Int:=(((rV zs w).getD 0:Nat):Int)
def yM{zs:M3 Str}(a:zs.Nodup){j:Nat}{w:Str}(e:zs[j]?=MO w):uv zs w=j:=by
 unfold uv;rw[gE (mS.of_nodup a e)];rfl
def zO{zs:M3 Str}{w:Str}(h:w∈zs):cV (.inr zs) w=MO (uv zs w,uv zs w):=by
 let(j,a):=qZ h;rw[vM,oA];unfold uv;rw[gE a];rfl
def xE{zs a:M3 Str}(h:∀w∈a,w∈zs):jo (cV<|.inr zs) a=MO (a.map λw=>(uv zs w,uv zs w)):=by
 let:=rj (F:=cV<|.inr zs) (f:=λw=>w) (g:=λw=>(uv zs w,uv zs w)) (l:=a) λw b=>zO<|h w b
 rw[List.map_id']at this;calc this
def rm{z:Str}(h:Ltr z):44 ∉ tl z:=λm=>by have:=h _ m;lia
def Dd{b:Type}{l:M3 b}{f:b->Int}{n:Int}:inP (l.map λx=>(f x,f x)) n=MQ↔∃x∈l,f x=n:=by
 unfold inP;rw[List.any_map,iv];constructor
 .rintro⟨x,a,h⟩;calc(x,a,?_,);simp[inR]at h;lia
 .rintro⟨x,a,h⟩;calc(x,a,?_,);simp[inR];lia
def  oB(zs:M3 Str)(p:Int×Int):M3 Str:=oX zs (MO p.1)<|MO<|p.2+1
def yN{zs:M3 Str}{p:Int×Int}(e:0<=p.1)(d:p.1<=p.2)(a:p.2<=hiW zs):oB zs p=(zs.drop p.1.toNat).take (p.2-p.1+1).toNat:=by
 unfold hiW at a;let c:HT.sIx ⇑zs 0 (MO p.1)=p.1.toNat:=by
  simp only[HT.sIx];split <;> lia
 let b:HT.sIx ⇑zs ⇑zs (MO<|p.2+1)=(p.2+1).toNat:=by
  simp only[HT.sIx];split <;> lia
 unfold oB oX;rw[c,b]
 congr 1
 lia
def vR{zs:M3 Str}{p:Int×Int}(c:0<=p.1)(b:p.1<=p.2)(a:p.2<=hiW zs):⇑(oB zs p)=(p.2-p.1+1).toNat:=by
 rw[yN c b a,eH,lR];unfold hiW at a;lia
def yO{zs:M3 Str}{p:Int×Int}{w:Str}(f:0<=p.1)(d:p.1<=p.2)(c:p.2<=hiW zs):w∈oB zs p↔∃j:Nat,p.1<=j/\(j:Int)<=p.2/\zs[j]?=MO w:=by
 rw[yN f d c,Ou];constructor
 .rintro⟨i,e⟩;rw[NH]at e;split at e
  .rw[ox]at e;exact(p.1.toNat+i,∅,∅,e,)
  .cases e
 .rintro⟨j,a,b,e⟩;calc(j-p.1.toNat,?_,);rw[NH,MV ∅,ox,show p.1.toNat+(j-p.1.toNat)=j by lia];calc e
structure COk(d:Dm)(ps:Prs):Prop where
 ap:Apart ps
 inn:∀p∈ps,(fT d).1<=p.1/\p.2<=(fT d).2
 few:⇑ps<=62
def COk.le{d:Dm}{ps:Prs}(h:COk d ps){p:Int×Int}(a:p∈ps):p.1<=p.2:=h.ap.le p a
structure DOk(d:Dm):Prop where
 le:(fT d).1<=(fT d).2
 b1:bnd (fT d).1
 b2:bnd (fT d).2
 gd:∀zs,d=.inr zs->Good zs
def  De:Dm->Prs->M3 Str
 | .inl p,ps=>ps.map<|shN p.1 p.2
 | .inr zs,ps=>(ps.map<|oB zs).flatten
def  vS(d:Dm)(ps:Prs):Str:=if ps=[]then s!"not -" else if ps=[fT d]then mz else io mk2 (De d ps)
def oC{a b c:Int}(e:bnd a)(d:bnd b)(l:a<=c)(u:c<=b):bnd c:=by
 unfold bnd at *
 lia
def yP{zs:M3 Str}:∀{ps:Prs},Apart ps->(∀p∈ps,0<=p.1/\p.2<=hiW zs)->∀lo:Int,(∀p∈ps,lo<=p.1)->0<=lo->lo<=hiW zs+1->(((ps.map<|oB zs).flatten.length:Nat):Int)<=hiW zs+1-lo
 | [],_,_,lo,_,_,h2=>by simp;lia
 |p :: ps,ap,hin,lo,hlo,h0,h2=>by
  let(c,le,b):=ap.tail;let d:=hin p (by simp);let f:=hlo p (by simp);let g:=yP c (λq a=>hin q<|eY _ a) (p.2+1) (λq a=>by have:=b q a;lia) ∅ ∅;let e:=vR (zs:=zs) d.1 le d.2;rw[gs,ji,dV,e];lia
def Fm{lo hi:Int}{r:Int×Int}(b1:bnd r.1)(b2:bnd r.2):Sm 600 (shN lo hi r) :=
 ⟨qu (yD b1 b2) ⋯,λc a=>by
  let:c<=57:=by rcases pj b1 b2 c a with z|z|z <;> lia
  exact uk this ⋯⟩
def BJ{z:Str}(h:isw z=MQ):Sm 600 z :=
 (qu (df h) ⋯,λc a=>uk ((gM h).1 c a).2 ⋯,)
structure Rd(d:Dm)(ps:Prs)(t:Str):Prop where
 st:li t vO=MR
 len:⇑t<=100000
 sm:∀u∈jp t mk2,Sm 600 u
 few:⇑(jp t mk2)<64
 rd:∃qs,partsOf d t=MO qs/\∀n,inP qs n=inP ps n
def vT{d:Dm}{ps qs:Prs}{W:M3 Str}(h:W≠[])(g:∀w∈W,44 ∉ tl w)(l:W≠[mz])(k:∀w∈W,(tl w).take 4≠tl vO)(c:∀w∈W,Sm 600 w)(a:W.length<64)(i:jo (cV d) W=MO qs)(hi:∀n,inP qs n=inP ps n):Rd d ps (io mk2 W):=by
 let f:∀w∈W,Cln w:=λw b=>Cln.of_no<|g w b
 let e:=gR h f;refine(?_,?_,by rw[e];exact c,by rw[e];exact a,qs,by rw[xD h f l];exact i,hi,)
 .cases W with
  |nil=>exact MW U h
  |cons p r=>exact zM (k p (by simp))
 .rw[iA,←bw];let m:=vL mk2 600 (P:=W) λp j=>by rw[bw];exact(c p j).len
  calc qu m<|qu (sT _<|rM a) ⋯
def BK{d:Dm}:Rd d [fT d] mz :=
 let a:jp mz mk2=[mz]:=gR (W:=[mz]) (by simp) (λw b=>by rw[show w=mz by simpa using b];exact Cln.of_no (~~~0))
 (~~~0,~~~0,by rw[a];intro u c;rw[show u=mz by simpa using c];exact Sm.of _ (~~~0),by rw[a];decide,[fT d],tL,λ_=>U,)
def Df{d:Dm}{ps:Prs}(ok:DOk d)(f:COk d ps)(s:ps≠[]):Rd d ps (vS d ps):=by
 unfold vS;rw[MU s];split
 .rename_i e
  rw[e];exact BK
 rename_i nw
 let u:∀p∈ps,bnd p.1/\bnd p.2:=λp q=>by
  let x:=f.inn p q;let v:=f.le q;exact(oC ok.b1 ok.b2 x.1 ∅,oC ok.b1 ok.b2 ∅ x.2,)
 cases d with
 |inl p =>
  show Rd _ ps (io mk2<|ps.map<|shN p.1 p.2);let o:∀r∈ps,p.1<=r.1/\r.2<=p.2:=λr k=>f.inn r k
  let t:jo (cV<|.inl p) (ps.map<|shN p.1 p.2)=MO (ps.map id):=rj λr k=>BH (u r k).1 (u r k).2 (o r k).1 (f.le k) (o r k).2
  rw[pS]at t;let mem:∀w∈ps.map (shN p.1 p.2),∃r∈ps,w=shN p.1 p.2 r:=λw g=>by
   let(r,k,e):=ck.mp g;exact(r,k,e.symm,)
  let y:∀w∈ps.map (shN p.1 p.2),∀c∈tl w,c=45\/c=46\/(48<=c/\c<=57):=λw g=>by
   let(r,k,rfl):=mem w g;exact pj (u r k).1 (u r k).2
  refine vT (qs:=ps) (~~~s) (λw g m=>by rcases y w g _ m with z|z|z <;> lia) (λe=>?_) (λw g=>Dc λm=>by rcases y w g _ m with z|z|z <;> lia) (λw g=>?_) (by rw[bQ];let:=f.few;lia) t λ_=>U
  .rw[e]at t;unfold jo at t;rw[BI]at t;cases t
  .let(r,k,rfl):=mem w g;exact Fm (u r k).1 (u r k).2
 |inr zs =>
  let gd:=ok.gd zs U;let o:∀r∈ps,0<=r.1/\r.2<=hiW zs:=λr k=>f.inn r k
  show Rd _ ps (io mk2 (ps.map<|oB zs).flatten);let wd:∀w∈(ps.map<|oB zs).flatten,isw w=true:=λw g=>gd.words w<|qU g
  let B:=yP f.ap o 0 (λp q=>(o p q).1) ⋯ (by have:=gd.some_;unfold hiW;lia);let F:=gd.few;unfold hiW at B;refine vT (λe=>?_) (λw g=>rm (gM<|wd w g).1) (λe=>?_) (λw g e=>?_) (λw g=>BJ<|wd w g) ∅ (xE λw g=>qU g) λn=>?_
  .cases ps with
   |nil=>exact s U
   |cons r ps =>
    let k:=o r (by simp);let A:=vR (zs:=zs) k.1 (f.le (by simp)) k.2;let:=f.le (p:=r) (by simp);rw[gs,ji]at e;rw[(Oq.mp e).1]at A;simp at A;lia
  .let:=wd mz (by rw[e];simp);exact MW this<|~~~0
  .let:(32:Nat)∈tl w:=jh (i:=4) (by rw[e,yK];simp);let:=(gM<|wd w g).1 _ this;lia
  .rw[py,Dd];constructor
   .rintro⟨w,g,e⟩;let(l,D,C):=oD.mp g;let(p,q,rfl):=ck.mp D;let(j,a,b,E):=(yO (o p q).1 (f.le q) (o p q).2).mp C;rw[yM gd.once E]at e;exact iv.mpr (p,q,by simp[inR];lia,)
   .intro h;let(p,q,v):=iv.mp h;simp[inR]at v;let hi:=o p q;let:n.toNat<⇑zs:=by unfold hiW at hi;lia
    calc(zs[n.toNat],oD.mpr (oB zs p,ck.mpr (p,q,U,),(yO hi.1 (f.le q) hi.2).mpr (n.toNat,∅,∅,KG this,),),?_,);rw[yM gd.once (KG this)];lia
structure Oth(R S:Prs)(lo at_:Int)(i:Nat):Prop where
 ap:Apart S
 le:lo<=at_
 low:∀s∈S,s.2+2<=at_
 ahead:∀j p,i<=j->R[j]?=MO p->at_<=p.1
 gone:∀q∈R.take i,q.2<at_
 mem:∀n,inP S n=MQ↔lo<=n/\n<at_/\inP (R.take i) n=MR
structure Spi(lo hi:Int)(R:Prs)(o:Option Int)(ms:M3 Int)(i:Nat):Prop where
 ap:Apart R
 inn:∀p∈R,lo<=p.1/\p.2<=hi
 len:R.length<=i
 st:∀s,o=MO s->lo<=s/\(∀p∈R,p.2+2<=s)/\∀m∈ms.drop i,s<=m
def iu{n:Nat}(h:n<=100000):n<=AY:=qu h ⋯
def  SP:Str:=s!" "
def  CO:Str:=s!": "
def  AR:Str:=s!" -> "
def  BY:Str:=s!" by "
def  BR:Str:=s!" | "
def  DrO(C:AE)(H:Hp)(x:AE)(n:Str)(cs:M3 Str)(d w:Str)(b:AE):Prop:=∃(c a:AE),H x=MO (.ins C c [("name",.str n),("columns",.ref a),("domain",.str d),("way",.str w),("rows",.ref b)])/\H a=MO (.lst<|cs.map OT)
def BL{C x b a:AE}{H:Hp}{f:M3 (Str×V)}(h:upd (upd H b<|.own x) x (.ins C b f) a=MP):H a=none:=by
 by_cases d:a=x
 .rw[d,af]at h;cases h
 .rw[ay d]at h;by_cases c:a=b
  .rw[c,af]at h;cases h
  .rw[ay c]at h;calc h
structure Dw where
 nm:Str
 cs:M3 Str
 dm:Str
 wy:Str
 rws:M3 (M3 Str×Str)
inductive Ln where
 |fact (n d:Str)
 |tab (n:Str)(cs:M3 Str)(d w:Str)
 |row (fs:M3 Str)(v:Str)
def  Dw.add(d:Dw)(r:M3 Str×Str):Dw:={ d with rws:=d.rws++[r] }
def  ap:M3 (Str×Str)×M3 Dw->Ln->M3 (Str×Str)×M3 Dw
 |(fs,ds),.fact n d=>(fs++[(n,d)],ds)
 |(fs,ds),.tab n cs d w=>(fs,ds++[(n,cs,d,w,[],)])
 |(fs,ds),.row f v=>(fs,match ds.getLast? with
  |some d=>ds.dropLast++[d.add (f,v)]
  |none=>[])
def  zP(z:Str):Ln->Prop
 | .fact n d=>∃y,z=s!"fact " ++ y/\db y SP=(n,SP,d)
 | .tab n cs d w=>∃y r c u,z=s!"table " ++ y/\db y CO=(n,CO,r)/\⇑r<=10000/\db r AR=(c,AR,u)/\⇑c<=10000/\⇑u<=10000/\rpt u BY=(d,BY,w)/\jp c mk2=cs
 | .row f v=>∃y c,z=s!"when " ++ y/\db y AR=(c,AR,v)/\⇑c<=10000/\jp c BR=f
def  mtA(a b:AE)(ds:M3 (Dw×AE)):M3 AE:=a :: b :: ds.map (·.2)
def  FpA(H:Hp)(t:AE)(f:Str×Str):Prop:=H t=MO (.tup [.str f.1,.str f.2])
def  DrA(C:AE)(H:Hp)(x:AE)(d:Dw×AE):Prop:=DrO C H x d.1.nm d.1.cs d.1.dm d.1.wy d.2
def  RpA(H:Hp)(t:AE)(r:M3 Str×Str):Prop:=∃l,H t=MO (.tup [.ref l,.str r.2])/\H l=MO (.lst<|r.1.map OT)
structure LI(C fa da:AE)(H:Hp)(fs:M3 (Str×Str))(ds:M3 (Dw×AE)):Prop where
 nd:(mtA fa da ds).Nodup
 f:∃fv,H fa=MO (.lst fv)/\ak fv fs (FpA<|hideL H<|mtA fa da ds)
 d:∃dv,H da=MO (.lst dv)/\ak dv ds (DrA C<|hideL H<|mtA fa da ds)
 r:∀d∈ds,∃rv,H d.2=MO (.lst rv)/\ak rv d.1.rws (RpA<|hideL H<|mtA fa da ds)
def FpA.same{H H':Hp}{t:AE}{f:Str×Str}(h:FpA H t f)(s:aq H H'):FpA H' t f:=s _ _ h
def DrA.same{C:AE}{H H':Hp}{x:AE}{d:Dw×AE}(h:DrA C H x d)(s:aq H H'):DrA C H' x d:=by
 let(c,e,b,a):=h;calc(c,e,s _ _ b,s _ _ a,)
def RpA.same{H H':Hp}{t:AE}{r:M3 Str×Str}(h:RpA H t r)(s:aq H H'):RpA H' t r:=by
 let(l,b,a):=h;calc(l,s _ _ b,s _ _ a,)
def LI.fact{C a b t:AE}{H H':Hp}{fs:M3 (Str×Str)}{ds:M3 (Dw×AE)}{j:M3 V}{n d:Str}(h:LI C a b H fs ds)(s:aq H H')(c:H t=MP)(B:H' t=MO (.tup [.str n,.str d]))(o:H a=MO (.lst j)) :
  LI C a b (upd H' a<|.lst<|j++[.ref t]) (fs++[(n,d)]) ds:=by
 let(_,D,rf):=h.f;cases D.symm.trans o;let(E,q,w):=h.d;let nd:=h.nd;let A:a∈mtA a b ds:=.head _;let k:hideL (upd H' a<|.lst<|j++[.ref t]) (mtA a b ds)=hideL H' (mtA a b ds):=jJ A;let i:aq (hideL H<|mtA a b ds) (hideL H'<|mtA a b ds):=iT s;let z:b≠a:=λe=>(gi.mp nd).1 (by rw[e];exact .head _)
 let u:t ∉ mtA a b ds:=λe=>by
  rcases cZ.mp e with rfl|e
  .rw[o]at c;cases c
  .rcases cZ.mp e with rfl|e
   .rw[q]at c;cases c
   .let(x,g,rfl):=ck.mp e;let(m,l,_):=h.r x g;rw[l]at c;cases c
 refine(nd,(_,af,?_,),(E,(ay z).trans<|s _ _ q,?_,),λx g=>?_,)
 .rw[k];exact(ak.mono rf λ_ _ p=>p.same i).snoc (dg B u)
 .rw[k];exact ak.mono w λ_ _ p=>p.same i
 .let(m,l,v):=h.r x g;let y:x.2≠a:=λe=>(gi.mp nd).1<|.tail _<|ck.mpr (x,g,e,)
  calc(m,(ay y).trans<|s _ _ l,by rw[k];exact ak.mono v λ_ _ p=>p.same i,)
def LI.mem{C a c b:AE}{H:Hp}{fs:M3 (Str×Str)}{ds:M3 (Dw×AE)}(h:LI C a c H fs ds)(i:b∈mtA a c ds):∃zs,H b=MO (.lst zs):=by
 rcases cZ.mp i with rfl|e
 .let(_,e,_):=h.f;exact(_,e,)
 .rcases cZ.mp e with rfl|e
  .let(_,e,_):=h.d;exact(_,e,)
  .let(x,g,rfl):=ck.mp e;let(k,j,_):=h.r x g;calc(_,j,)
def LI.new{C a c b:AE}{H:Hp}{fs:M3 (Str×Str)}{ds:M3 (Dw×AE)}(h:LI C a c H fs ds)(d:H b=MP):b ∉ mtA a c ds:=λe=>by
 let(_,e):=h.mem e;rw[d]at e;cases e
def LI.tab{C i c x g:AE}{H H':Hp}{fs:M3 (Str×Str)}{ds:M3 (Dw×AE)}{v:M3 V}{n d w:Str}{cs:M3 Str}(h:LI C i c H fs ds)(s:aq H H')(O:H x=MP)(D:H g=MP)(X:DrO C H' x n cs d w g)(G:H' g=MO (.lst []))(Y:H c=MO (.lst v))
  (fr:∀q cl,H' x=MO (.ins C q [("name",.str n),("columns",.ref cl),("domain",.str d),("way",.str w),("rows",.ref g)])->H' cl=MO (.lst<|cs.map OT)->H cl=MP/\cl≠g) :
  LI C i c (upd H' c<|.lst<|v++[.ref x]) fs (ds++[((n,cs,d,w,[],),g)]):=by
 let(S,e1,rf):=h.f;let(_,e2,K):=h.d;cases e2.symm.trans Y;let nd:=h.nd;let m:mtA i c (ds++[((⟨n,cs,d,w,[]⟩:Dw),g)])=mtA i c ds++[g]:=by simp[mtA]
 let B:=h.new D;let A:(mtA i c ds++[g]).Nodup:=by
  rw[nk];exact(nd,gi.mpr (gx,mD,),λa R b j e=>B (by rw[hJ.mp j]at e;rw[←e];exact R),)
 let Q:c∈mtA i c ds++[g]:=fE _<|.tail _<|.head _;let u:hideL (upd H' c<|.lst<|v++[.ref x]) (mtA i c ds++[g])=hideL H' (mtA i c ds++[g]):=jJ Q;let t:aq (hideL H<|mtA i c ds) (hideL H'<|mtA i c ds++[g]):=oY λb o N e=>⟨s _ _ e,λj=>by
  rcases eA.mp j with j|j
  .exact N j
  .rw[hJ.mp j,D]at e;cases e⟩
 let M:i≠c:=λe=>(gi.mp nd).1 (by rw[e];exact .head _)
 let z:g≠c:=λe=>B (by rw[e];exact .tail _ (.head _))
 let F:∀b,H b=MP->b≠g->b ∉ mtA i c ds++[g]:=λb j P e=>by
  rcases eA.mp e with e|e
  .exact h.new j e
  .exact P<|hJ.mp e
 refine(by rw[m];exact A,(S,(ay M).trans<|s _ _ e1,?_,),(_,af,?_,),λy k=>?_,)
 .rw[m,u];exact ak.mono rf λ_ _ p=>p.same t
 .rw[m,u];let(q,cl,l,E):=X;let(W,T):=fr q cl l E;exact(ak.mono K λ_ _ p=>p.same t).snoc (q,cl,dg l (F _ O λe=>by rw[e,G]at l;cases l),dg E<|F _ W T,)
 .rw[m,u];rcases eA.mp k with k|k
  .let(I,Z,J):=h.r y k;let L:y.2≠c:=λe=>(gi.mp (gi.mp nd).2).1<|ck.mpr (y,k,e,)
   exact(I,(ay L).trans<|s _ _ Z,ak.mono J λ_ _ p=>p.same t,)
  .rw[hJ.mp k];calc([],(ay z).trans G,ak.nil,)
def LI.row{C a b t l:AE}{H H':Hp}{fs:M3 (Str×Str)}{ds:M3 (Dw×AE)}{d:Dw×AE}{q:M3 V}{f:M3 Str}{v:Str}(h:LI C a b H fs (ds++[d]))(s:aq H H')(L:H t=MP)(N:H l=MP)(P:H' t=MO (.tup [.ref l,.str v]))(R:H' l=MO (.lst<|f.map OT))(Q:H d.2=MO (.lst q)) :
  LI C a b (upd H' d.2<|.lst<|q++[.ref t]) fs (ds++[(d.1.add (f,v),d.2)]):=by
 let(O,i,rf):=h.f;let(T,S,G):=h.d;let nd:=h.nd;let o:mtA a b (ds++[(d.1.add (f,v),d.2)])=mtA a b (ds++[d]):=by simp[mtA]
 let m:d∈ds++[d]:=fq _<|.head _;let M:d.2∈mtA a b (ds++[d]):=.tail _<|.tail _<|ck.mpr (d,m,U,);let z:hideL (upd H' d.2<|.lst<|q++[.ref t]) (mtA a b<|ds++[d])=hideL H' (mtA a b<|ds++[d]):=jJ M;let g:aq (hideL H<|mtA a b<|ds++[d]) (hideL H'<|mtA a b<|ds++[d]):=iT s;let K:a≠d.2:=λe=>(gi.mp nd).1 (by rw[e];exact .tail _ (ck.mpr (d,m,U,)))
 let D:b≠d.2:=λe=>(gi.mp (gi.mp nd).2).1 (by rw[e];exact ck.mpr (d,m,U,))
 let F:((ds++[d]).map (·.2)).Nodup:=(gi.mp (gi.mp nd).2).2;rw[dy,nk]at F;refine(by rw[o];exact nd,(O,(ay K).trans<|s _ _ i,?_,),(T,(ay D).trans<|s _ _ S,?_,),λy c=>?_,)
 .rw[o,z];exact ak.mono rf λ_ _ p=>p.same g
 .rw[o,z];let(I,E):=G;refine(by rw[I];simp,λj x e=>?_,);by_cases w:j<⇑ds
  .rw[ft w]at e;let(r,i,p):=E j x (by rw[ft w];exact e);exact(r,i,p.same g,)
  .let k:=uO w;rw[fV k]at e;cases hk:j-⇑ds with
   |zero =>
    rw[hk]at e;cases e;let(r,i,p):=E j d (by rw[fV k,hk];rfl);exact(r,i,DrA.same p g,)
   |succ n=>rw[hk]at e;cases e
 .rw[o,z];rcases eA.mp c with c|c
  .let(B,A,u):=h.r y<|fE _ c;let J:y.2≠d.2:=λe=>F.2.2 _ (ck.mpr (y,c,U,)) _ (ck.mpr (d,.head _,U,)) e
   exact(B,(ay J).trans<|s _ _ A,ak.mono u λ_ _ p=>p.same g,)
  .rw[hJ.mp c];let(_,A,u):=h.r d m;cases A.symm.trans Q;calc(_,af,(ak.mono u λ_ _ p=>p.same g).snoc (l,dg P<|h.new L,dg R<|h.new N,),)
def oE(p y:Str):(p++y).cps.toList=p.cps.toList++y.cps.toList:=by
 show(p.cps++y.cps).toList=_;rw[OB]
def qq(p y:Str):⇑(p++y)=⇑p+⇑y:=by
 show(p.cps++y.cps).size=_;rw[Array.size_append];rfl
def xF(p y:Str):li (p++y) p=true:=by
 unfold li
 rw[NI,oE,qq];let e:⇑p=⇑p.cps.toList:=by simp[wS]
 rw[nC,e,nY];simp
def BM{z q:Str}{c d:Nat}{r s:M3 Nat}(a:q.cps.toList=c :: r)(b:z.cps.toList=d :: s)(n:d≠c):li z q=false:=by
 let e:⇑q=⇑r+1:=by
  let:⇑q=⇑q.cps.toList:=by simp[wS]
  rw[this,a];rfl
 unfold li
 rw[NI,b,nC,e,OF,a];simp[n]
def xG(p y:Str):GE (p++y) (MO (⇑p:Int)) MP=y:=by
 let e:⇑p=⇑p.cps.toList:=by simp[wS]
 let h:=N6 (x:=p++y) (i:=(⇑p:Int)) (∅,by rw[oE,dV,e];lia,);let a:GE (p++y) (MO (⇑p:Int)) MP=Ow (p++y) (MO (⇑p:Int)) none:=rfl;rw[a,h,oE,e,vr,nX,dV,show(((⇑p.cps.toList+⇑y.cps.toList:Nat):Int)-(⇑p.cps.toList:Int)).toNat=⇑y.cps.toList by lia,dY]
def  DrG(C:AE)(H:Hp)(x:AE)(d:Dw):Prop:=∃(b:AE)(a:M3 V),DrO C H x d.nm d.cs d.dm d.wy b/\H b=MO (.lst a)/\ak a d.rws (RpA H)
def DrG.same{C:AE}{H H':Hp}{x:AE}{d:Dw}(h:DrG C H x d)(s:aq H H'):DrG C H' x d:=by
 let(b,a,(i,j,g,f),e,c):=h;calc(b,a,(i,j,s _ _ g,s _ _ f,),s _ _ e,ak.mono c λ_ _ p=>p.same s,)
def LI.fin{C g i:AE}{H:Hp}{fs:M3 (Str×Str)}{ds:M3 (Dw×AE)}(h:LI C g i H fs ds):∃a b,H g=MO (.lst a)/\ak a fs (FpA H)/\H i=MO (.lst b)/\ak b (ds.map (·.1)) (DrG C H):=by
 let(a,q,rf):=h.f;let(b,o,c):=h.d;refine(a,b,q,ak.mono rf λ_ _ p=>p.same<|fb _ _,o,by rw[c.1,bQ],λj d e=>?_,);rw[dn]at e;cases hj:ds[j]? with
 |none=>rw[hj]at e;cases e
 |some x =>
  rw[hj]at e;cases e;let(r,m,p):=c.2 j x hj;let(k,n,l):=h.r x<|KJ hj;calc(r,m,x.2,k,p.same<|fb _ _,n,ak.mono l λ_ _ p=>p.same<|fb _ _,)
structure BN(zs:M3 Str)(d:Dw):Prop where
 c4:⇑d.cs<=4
 r200:⇑d.rws<=200
 cin:∀c∈d.cs,c∈zs/\c≠d.nm
 cnd:d.cs.Nodup
 rl:∀r∈d.rws,⇑r.1=⇑d.cs
 sm:∀c∈d.cs,Sml c
 nsm:Sml d.nm
def  DcD(cN cW:AE)(H:Hp)(b:AE)(dom:Str->Option Dm):Prop:=∃a:M3 (Str×V),H b=MO (.dK<|kvT a)/\∀z k,dom z=MO k->∃x:AE,a.lookup z=↑x/\jn cN cW H x k
def DcD.same{cN cW:AE}{H H':Hp}{b:AE}{dom:Str->Option Dm}(h:DcD cN cW H b dom)(s:aq H H'):DcD cN cW H' b dom:=by
 let(a,g,f):=h;calc(a,s _ _ g,λz k e=>?_,);let(x,d,c):=f z k e;calc(x,d,c.same s,)
def Dg{p:Int×Int}{z:Str}{c:Int}(h:codeOf (.inl p) z=MO c):isn z=MQ/\p.1<=di z/\di z<=p.2/\di z=c:=by
 let e:codeOf (.inl p) z=(if isn z=MQ/\p.1<=di z/\di z<=p.2 then MO (di z)else MP):=rfl;rw[e]at h;by_cases g:isn z=MQ/\p.1<=di z/\di z<=p.2
 .rw[MV g]at h;exact(g.1,g.2.1,g.2.2,dL h,)
 .rw[MU g]at h;cases h
def BO{zs:M3 Str}{z:Str}{c:Int}(h:codeOf (.inr zs) z=MO c):z∈zs/\∀j:Nat,mS zs z j->(j:Int)=c:=by
 rw[oA]at h;refine(Classical.byContradiction (λg=>by rw[pe g]at h;cases h),λj a=>?_,);rw[gE a]at h;calc dL h
def  RdC(d:Dm)(z:Str)(R:Prs):Prop:=(fT d).1<=(fT d).2/\⇑z+2<=AY/\∃(y:Str)(b:Bool)(a:Prs),li z s!"not "=b/\y=(if b=MQ then GE z (MO 4) MP else z)/\⇑y+2<=AY/\(∀u∈jp y mk2,Sm 600 u)/\⇑(jp y mk2)<64/\partsOf d y=MO a/\Apart R/\∀n,inP R n=if b=MQ then(inR n (fT d) && !inP a n)else inP a n
def  dkm:Dm->Dk
 | .inl p=>(MP,p.1,p.2)
 | .inr zs=>(MO zs,0,hiW zs)
def xH{cN cW:AE}{H:Hp}{x:AE}{k:Dm}(h:jn cN cW H x k)(a:∀zs,k=.inr zs->Good zs):cS cN cW H x (dkm k):=by
 cases k with
 |inl p=>exact h
 |inr zs=>calc(h,U,U,a zs U,)
def  CcA(N:AE->Prop)(H:Hp)(a:AE)(b:M3 Prs):Prop:=N a/\∃c,H a=MO (.lst c)/\CL N H c b
def CcA.same{N:AE->Prop}{H H':Hp}{a:AE}{b:M3 Prs}(h:CcA N H a b)(s:aq H H'):CcA N H' a b:=by
 let(f,c,e,d):=h;calc(f,c,s _ _ e,d.same s,)
def CcA.wk{N c:AE->Prop}{H:Hp}{a:AE}{b:M3 Prs}(h:CcA N H a b)(k:∀a,N a->c a):CcA c H a b:=by
 let(g,d,f,e):=h;calc(k _ g,d,f,e.wk k,)
def CcA.updN{N:AE->Prop}{D:AE}{H:Hp}{a:AE}{b:M3 Prs}{zs:M3 V}{o:HO}(h:CcA N H a b)(n:¬ N D)(e:H D=MO (.lst zs)):CcA N (upd H D o) a b:=by
 let(c,d,i,g):=h;let f:a≠D:=λz=>n (by rw[←z];exact c)
 calc(c,d,(ay f).trans i,g.updN n e,)
def  CrA(N:AE->Prop)(H:Hp)(a:AE)(c:M3 (M3 Prs)):Prop:=N a/\∃b,H a=MO (.lst b)/\ak b c (CcA N H)
def CrA.same{N:AE->Prop}{H H':Hp}{a:AE}{b:M3 (M3 Prs)}(h:CrA N H a b)(s:aq H H'):CrA N H' a b:=by
 let(f,c,e,d):=h;calc(f,c,s _ _ e,ak.mono d λ_ _ p=>p.same s,)
def CrA.wk{N c:AE->Prop}{H:Hp}{a:AE}{b:M3 (M3 Prs)}(h:CrA N H a b)(k:∀a,N a->c a):CrA c H a b:=by
 let(g,d,f,e):=h;calc(k _ g,d,f,ak.mono e λ_ _ p=>p.wk k,)
def CrA.updN{N:AE->Prop}{D:AE}{H:Hp}{a:AE}{c:M3 (M3 Prs)}{zs:M3 V}{o:HO}(h:CrA N H a c)(n:¬ N D)(e:H D=MO (.lst zs)):CrA N (upd H D o) a c:=by
 let(b,d,i,g):=h;let f:a≠D:=λz=>n (by rw[←z];exact b)
 calc(b,d,(ay f).trans i,ak.mono g λ_ _ p=>p.updN n e,)
def  TbW(j cN cW:AE)(H H':Hp)(t:AE)(b:BT):Prop:=∃(g:AE)(h:M3 V)(d i e f:AE)(fs:M3 (Str×V))(c:M3 V),H' t=MO (.ins j i fs)/\fs.lookup s!"rows"=↑d/\fs.lookup s!"name"=MO (.str b.nm)/\fs.lookup s!"way"=MO (.str b.way)/\fs.lookup s!"outcome"=↑g/\fs.lookup s!"names"=↑e/\fs.lookup s!"domains"=↑f/\H e=MP/\H f=MP/\H d=MP/\H' e=MO (.lst<|b.cs.map OT)/\H' f=MO (.lst h)/\H' d=MO (.lst c)/\RL (λa=>H a=MP) H' c b.rws/\⇑c<=200/\ak h b.ks (cS cN cW H)/\cS cN cW H g b.o
def  NL:Str:=s!"\n"
abbrev rdb(lns:M3 Ln):M3 (Str×Str)×M3 Dw:=lns.foldl ap ([],[])
structure BP(zs:M3 Str)(lns:M3 Ln):Prop where
 len:⇑lns=⇑zs
 ok:∀(i:Nat) z ln,zs[i]?=MO z→lns[i]?=MO ln→zP z ln∧⇑z≤10000
 row:∀(i:Nat) f v,lns[i]?=MO (.row f v)→(rdb<|lns.take i).2≠[]
 few:∀i:Nat,(rdb<|lns.take i).1.length≤1000∧(rdb<|lns.take i).2.length≤1000∧∀d∈(rdb<|lns.take i).2,⇑d.rws≤1000
def BQ{lns:M3 Ln}{i:Nat}{a:Ln}(e:lns[i]?=MO a):rdb (lns.take<|i+1)=ap (rdb<|lns.take i) a:=by
 unfold rdb;rw[take_snoc e,lQ];rfl
def LI.start{C a b:AE}{H:Hp}(n:a≠b)(f:H a=MO (.lst []))(e:H b=MO (.lst [])):LI C a b H [] [] :=
 (gi.mpr (λh=>n<|hJ.mp h,gi.mpr (gx,mD,),),([],f,ak.nil,),([],e,ak.nil,),λd c=>MW c gx,)
def  RdD(z:Str):Dm→Prop
 | .inl p=>inD z=MQ∧∃a b,db z bD=(a,bD,b)∧Sm 600 a∧Sm 600 b∧isn a=MQ∧isn b=MQ∧di a≤di b∧p=(di a,di b)
 | .inr zs=>inD z=MR∧jp z mk2=zs∧Good zs
structure Fn(fs:M3 (Str×Str))(ds:M3 Dw)(dom:Str→Option Dm)(ccs:M3 (List<|M3 Prs))(cds:M3 (M3 Int)):Prop where
 f20:⇑fs≤20
 d30:⇑ds≤30
 wd:∀z∈fs.map (·.1)++ds.map Dw.nm,isw z=MQ
 nd:(fs.map (·.1)++ds.map Dw.nm).Nodup
 dw:∀d∈ds,BN (fs.map (·.1)++ds.map Dw.nm) d
 rd:∀p∈fs++ds.map (λd=>(d.nm,d.dm)),⇑p.2≤1000∧∃k,dom p.1=MO k∧RdD p.2 k
 dm:∀z k,dom z=MO k→z∈fs.map (·.1)++ds.map Dw.nm
 gd:∀z zs,dom z=MO (.inr zs)→Good zs
 cl:⇑ccs=⇑ds
 cel:∀(i:Nat) d,ds[i]?=MO d→∃cc,ccs[i]?=MO cc∧⇑cc=⇑d.rws∧∀(i:Nat) r,d.rws[i]?=MO r→⇑r.1=⇑d.cs∧∃css,cc[i]?=MO css∧⇑css=⇑d.cs∧∀(j:Nat) c f,d.cs[j]?=MO c→r.1[j]?=MO f→∃k R,dom c=MO k∧css[j]?=MO R∧RdC k f R
 num:∀d∈ds,∀p,dom d.nm=MO (.inl p)→∀r∈d.rws,Sm 600 r.2∧isn r.2=MQ
 dl:⇑cds=⇑ds
 cod:∀(i:Nat) d k,ds[i]?=MO d→dom d.nm=MO k→∃cs,cds[i]?=MO cs∧⇑cs=⇑d.rws∧∀(j:Nat) r,d.rws[j]?=MO r→∃c,cs[j]?=MO c∧Sm 600 r.2∧bnd c∧codeOf k r.2=MO c
 wy:∀d∈ds,d.wy∈six∧(d.wy=s!"sum" → ∃p,dom d.nm=MO (.inl p))
def jn.hideD{cN cW D x:AE}{H:Hp}{ys:M3 V}{k:Dm}(h:jn cN cW H x k)(c:H D=MO (.lst ys))(f:∀y∈ys,∃r,y=.ref r)(i:∀zs,k=.inr zs→Good zs):jn cN cW (hide H D) x k:=by
 cases k with
 |inl p =>
  let(d,e):=h;exact⟨d,cz e λz=>by rw[z,c]at e;cases e⟩
 |inr zs =>
  let(d,l,e,b):=h;refine(d,l,cz e (λz=>by rw[z,c]at e;cases e),cz b λz=>?_,);rw[z,c]at b;let g:=(i zs U).some_;cases zs with
  |nil=>simp at g
  |cons a zs =>
   cases b;let(r,e):=f (.str a)<|.head _;cases e
def ak.refs{b:Type}{xs:M3 V}{f:M3 b}{P:AE→b→Prop}(h:ak xs f P):∀y∈xs,∃r,y=.ref r:=λy c=>by
 let(j,e):=gu c;let(r,a,d,_):=ak.get h e;calc(r,d,)
def  dkD(dom:Str→Option Dm)(z:Str):Dk:=(dom z).elim (MP,0,0) dkm
def oF{dom:Str→Option Dm}{z:Str}{k:Dm}(h:dom z=MO k):dkD dom z=dkm k:=by unfold dkD;rw[h];rfl
def cS.hideD{cN cW D x:AE}{H:Hp}{ys:M3 V}{k:Dk}(h:cS cN cW H x k)(c:H D=MO (.lst ys))(b:∀y∈ys,∃r,y=.ref r):cS cN cW (hide H D) x k:=by
 let(w,lo,hi):=k;cases w with
 |none=>exact jn.hideD (cW:=cW) (k:=.inl (lo,hi)) h c b λa z=>by cases z
 |some a=>calc(jn.hideD (cN:=cN) (k:=.inr a) h.1 c b λd z=>by cases z;exact h.2.2.2,h.2,)
def TbW.hideD{o cN cW D t:AE}{H H':Hp}{ys:M3 V}{b:BT}(h:TbW o cN cW H H' t b)(s:aq H H')(f:H D=MO (.lst ys))(m:∀y∈ys,∃r,y=.ref r):TbG o cN cW (hide H' D) t b:=by
 let(v,N,u,M,w,O,fs,q,n,L,K,J,I,G,F,B,A,x,E,C,l,k,j,i,g):=h;let c:=s _ _ f;let d:∀a,H a=MP→a≠D:=λa e z=>by rw[z,f]at e;cases e
 calc(v,N,(u,M,w,O,fs,q,cz n<|dM n c (by intro z;cases z),L,K,J,I,G,F,cz E<|d _ B,cz C<|d _ A,cz l<|d _ x,Bx c (λz=>d _ z U) k,j,),ak.mono i λ_ _ p=>(p.hideD f m).same<|iK s,(g.hideD f m).same<|iK s,)
structure RbT(fs:M3 (Str×Str))(ds:M3 Dw)(dom:Str→Option Dm)(ccs:M3 (List<|M3 Prs))(cds:M3 (M3 Int))(fcs:M3 Fc)(bts:M3 BT):Prop where
 fc:fcs=fs.map λp=>(p.1,dkD dom p.1)
 cc:ccs=bts.map λb=>b.rws.map (·.1)
 cd:cds=bts.map λb=>b.rws.map (·.2)
 bt:∀(i:Nat) d,ds[i]?=MO d→∃rws,bts[i]?=MO (d.nm,d.cs,d.cs.map<|dkD dom,dkD dom d.nm,d.wy,rws,)
 c1:∀d∈ds,1≤⇑d.cs
 ro:∀b∈bts,∀w∈b.rws,pP (b.ks.map (·.2)) b.o.2 w
 rk:xB bts
def oG{z:Str}(h:isw z=MQ):Sml z:=by
 let c:=df h;calc(∅,λn a=>?_,);let b:=(gM h).1 n a;lia
def cS.keep{cN cW j i x d:AE}{H H':Hp}{k:Dk}(h:cS cN cW H d k)(c:H x=MO (.ins j i []))(a:∀b o,b≠x→H b=MO o→H' b=MO o):cS cN cW H' d k:=by
 let(w,lo,hi):=k;cases w with
 |none =>
  let(g,e):=h;exact⟨g,a _ _ (λz=>by rw[z,c]at e;cases e) e⟩
 |some m =>
  let((g,l,e,f),r):=h;calc(⟨g,l,a _ _ (λz=>by rw[z,c]at e;cases e) e,a _ _ (λz=>by rw[z,c]at f;cases f) f⟩,r,)
def  BkO(g f cN cW:AE)(H:Hp)(x:AE)(a:M3 Fc)(bts:M3 BT):Prop:=∃(e:AE)(fl:M3 (Str×V))(c fc:AE)(b d:M3 V),H x=MO (.ins g e fl)∧fl.lookup s!"tables"=↑c∧fl.lookup s!"facts"=↑fc∧H c=MO (.lst b)∧H fc=MO (.lst d)∧ak d a (FcG cN cW H)∧ak b bts (TbG f cN cW H)
def BkO.same{c b cN cW:AE}{H H':Hp}{x:AE}{a:M3 Fc}{bts:M3 BT}(h:BkO c b cN cW H x a bts)(s:aq H H'):BkO c b cN cW H' x a bts:=by
 let(o,fl,e,fc,d,n,m,l,k,j,i,g,f):=h;calc(o,fl,e,fc,d,n,s _ _ m,l,k,s _ _ j,s _ _ i,ak.mono g λ_ _ p=>p.same s,ak.mono f λ_ _ p=>p.same s,)
def  SPJ(p:PD)(G:Prop)(H H':Hp)(pl:AE):Prop:=aq H H'∧∃(b:M3 V)(a:Prs),H' pl=MO (.lst b)∧PL H' b a∧(∀x∈a,p.lo≤x.1∧x.2≤p.hi)∧⇑a≤2∧(G∨a.Pairwise λx y=>x.2+2≤y.1)
def SPJ.of{p:PD}{G a:Prop}{H H':Hp}{pl:AE}(h:SPJ p G H H' pl)(g:G→a):SPJ p a H H' pl:=by
 let(s,b,c,j,i,f,e,d):=h;calc(s,b,c,j,i,f,e,d.imp_left g,)
def SPJ.one{p:PD}{G:Prop}{H d c:Hp}{l t:AE}{a b:Int}(s:aq H d)(h:aq d c∧c l=MO (.lst [.ref t])∧PL c [.ref t] [(a,b)])(g:p.lo≤a)(f:b≤p.hi):SPJ p G H c l :=
 (s.trans h.1,_,_,h.2.1,h.2.2,(λx e=>by rw[show x=(a,b) by simpa using e];exact(g,f,)),by simp,.inr (by simp),)
def SPJ.two{p:PD}{G:Prop}{H i e:Hp}{l t u:AE}{a b c d:Int}(s:aq H i)(h:aq i e∧e l=MO (.lst [.ref t,.ref u])∧PL e [.ref t,.ref u] [(a,b),(c,d)])(n:p.lo≤a)(m:b≤p.hi)(k:p.lo≤c)(j:d≤p.hi)(g:G∨b+2≤c):SPJ p G H e l :=
 (s.trans h.1,_,_,h.2.1,h.2.2,(λx f=>by
  rcases cZ.mp f with rfl|f
  .exact(n,m,)
  .rw[show x=(c,d) by simpa using f];exact(k,j,)),by simp,g.imp_right λg=>~~~g,)
def  PlC(c:Nat):Prop:=c=32∨c=44∨c=45∨c=46∨(48≤c∧c≤57)∨(97≤c∧c≤122)
def  PlT(z:Str):Prop:=∀c∈tl z,PlC c
def PlT.no{z:Str}(h:PlT z){c:Nat}(n:¬ PlC c):c ∉ tl z:=λm=>n<|h c m
def PlT.app{a b:Str}(h:PlT a)(k:PlT b):PlT (a++b):=λc d=>by
 rw[cL]at d;rcases eA.mp d with m|m
 .exact h c m
 .exact k c m
def PlT.ltr{z:Str}(h:Ltr z):PlT z:=λc a=>.inr<|.inr<|.inr<|.inr<|.inr<|h c a
def PlT.isw{z:Str}(h:isw z=MQ):PlT z:=.ltr (gM h).1
def PlT.num{n:Int}(h:bnd n):PlT (jL n):=λc a=>by
 rcases(gF h).1 c a with z|z
 .exact .inr<|.inr<|.inl z
 .exact .inr<|.inr<|.inr<|.inr<|.inl z
def rp{P:Nat→Prop}{m:Str}(b:∀c∈tl m,P c):∀{W:M3 Str},(∀w∈W,∀c∈tl w,P c)→∀c∈tl (kt m W),P c
 | [],_,c,a=>by
  let a:c∈tl re:=a;simp[tl,re]at a
 | [w],h,c,a=>h w (.head _) c a
 |w :: w2 :: W,h,c,a=>by
  rw[cQ]at a;rcases eA.mp a with g|g
  .exact h w (.head _) c g
  .rcases eA.mp g with g|g
   .exact b c g
   .exact rp b (λx d=>h x<|.tail _ d) c g
def PlT.join{m:Str}(a:PlT m){W:M3 Str}(h:∀w∈W,PlT w):PlT (io m W):=by
 rw[iA];calc rp a h
def uw:PlT mk2:=λc a=>by
 let a:c∈[44,32]:=a;rcases cZ.mp a with rfl|a
 .exact .inr<|.inl U
 .rw[hJ.mp a];calc .inl U
structure jq(k:Dk):Prop where
 le:k.2.1≤k.2.2
 b1:bnd k.2.1
 b2:bnd k.2.2
 wd:∀zs,k.1=MO zs→Good zs∧k.2=(0,hiW zs)
def  dmk:Dk→Dm
 |(MP,p)=>.inl p
 |(MO zs,_)=>.inr zs
def ux{k:Dk}(ok:jq k):dkm (dmk k)=k:=by
 let(w,p):=k;cases w with
 |none=>rfl
 |some a=>have:=(ok.wd a U).2;let e:p=(0,hiW a):=this;rw[e];rfl
def rq{k:Dk}(ok:jq k):fT (dmk k)=k.2:=by
 let(w,p):=k;cases w with
 |none=>rfl
 |some a=>have:=(ok.wd a U).2;let e:p=(0,hiW a):=this;rw[e];rfl
def jq.dok{k:Dk}(ok:jq k):DOk (dmk k):=by
 let e:=rq ok;refine(by rw[e];exact ok.le,by rw[e];exact ok.b1,by rw[e];exact ok.b2,λa h=>?_,);let(w,p):=k;cases w with
 |none=>cases h
 |some b =>
  cases h;calc(ok.wd _ U).1
def jq.gd{k:Dk}(ok:jq k):GdK k:=by
 let(w,p):=k;cases w with
 |none=>trivial
 |some a=>calc(ok.wd a U).1
def xI{n:Int}(h:bnd n):Sm 600 (jL n):=⟨qu (len_num h) ⋯,λc a=>by
 let:c≤57:=by rcases(gF h).1 c a with z|z <;> lia
 exact uk this ⋯⟩
def GI{k:Dk}(ok:jq k):RdD (dh k) (dmk k):=by
 let(w,lo,hi):=k;cases w with
 |none =>
  let b1:bnd lo:=ok.b1;let b2:bnd hi:=ok.b2;let(g,d):=j5 b1;let(f,c):=j5 b2;refine(uc,jL lo,jL hi,lE (m0:=[]) (v:=46) (m1:=[46]) U (iL b1) (by simp),xI b1,xI b2,g,f,?_,?_,)
  .rw[d,c];exact ok.le
  .rw[d,c]
 |some a =>
  let gd:=(ok.wd a U).1;let b:a≠[]:=λe=>by have:=gd.some_;rw[e]at this;simp at this
  calc(?_,qK b λw i=>rm (gM<|gd.words w i).1,gd,);calc vy ?_;let:(tl<|io (ofS ", ") a).count 46=0:=by
   rw[iA,qJ,AS λz h=>(gM<|gd.words z h).1.no ⋯];show 0+(⇑a-1)*([44,32]:M3 Nat).count 46=0;simp
  show(tl<|io (ofS ", ") a).count 46≤1;lia
def DR{k:Dk}(ok:jq k):PlT (dh k):=by
 let(w,lo,hi):=k;cases w with
 |none =>
  calc((PlT.num ok.b1).app λc a=>?_).app (PlT.num ok.b2);let a:c∈[46,46]:=a;exact .inr<|.inr<|.inr<|.inl<|~~~a
 |some b=>calc PlT.join uw λw d=>.isw<|(ok.wd b U).1.words w d
def uy{k:Dk}(ok:jq k):⇑(dh k)≤600:=mj ok.gd ok.b1 ok.b2
def xJ{k:Dk}{c:Int}(ok:jq k)(f:k.2.1≤c)(d:c≤k.2.2):codeOf (dmk k) (oq k c)=MO c∧Sm 600 (oq k c)∧bnd c∧PlT (oq k c)∧(k.1=MP→isn (oq k c)=MQ):=by
 let b:=oC ok.b1 ok.b2 f d;let(w,lo,hi):=k;cases w with
 |none=>exact(vQ b f d,xI b,b,PlT.num b,λ_=>(j5 b).1,)
 |some a =>
  let(gd,e):=ok.wd a U;let e:(lo,hi)=(0,hiW a):=e;cases e;let f:0≤c:=f;let d:c≤hiW a:=d;unfold hiW at d;let l:c.toNat<⇑a:=∅
  let i:=KG l;let p:oq (MO a,0,hiW a) c=a[c.toNat]:=by
   show a.getD c.toNat re=_;rw[iY,i];rfl
  let g:a[c.toNat]∈a:=nL l;rw[p];refine⟨?_,BJ<|gd.words _ g,b,.isw<|gd.words _ g,λh=>by cases h⟩;show(rV a a[c.toNat]).map (λj=>(j:Int))=MO c;let o:mS a a[c.toNat] c.toNat:=(i,λm u g n e=>by
   rw[e]at n;let:=nH gd.once n i;lia,)
  rw[gE o];show MO ((c.toNat:Nat):Int)=MO c;rw[wa f]
def Fo{k:Dk}{ps:Prs}(ok:jq k)(d:COk (dmk k) ps)(i:gD k ps):RdC (dmk k) (bh k ps) ps∧PlT (bh k ps):=by
 let f:=ok.dok;by_cases a:ps=[]
 .subst a;let R:Rd (dmk k) [fT (dmk k)] mz:=BK;let t:bh k []=s!"not -" := U;rw[t];refine((f.le,iu<|~~~0,mz,MQ,[fT (dmk k)],~~~0,~~~0,iu<|~~~0,R.sm,R.few,tL,.nil,λn=>?_,),λc b=>?_,)
  .rw[MV U];show MR=(inR n _ && !inP [_] n);cases h:inR n (fT<|dmk k) <;> simp[inP,h]
  .let b:c∈[110,111,116,32,45]:=b;simp only[cZ,gx,or_false]at b;unfold PlC;lia
 let g:bh k ps=vS (dmk k) ps:=by
  unfold bh vS;rw[MU a,MU a,rq ok];by_cases h:ps=[k.2]
  .rw[MV h,MV h];rfl
  .rw[MU h,MU h];let(w,p):=k;cases w with
   |none=>rfl
   |some j=>rw[pQ i];rfl
 let R:=Df f d a;let(r,q,m):=R.rd;let l:=jZ i;rw[g]at l;rw[g];calc((f.le,iu ∅,vS (dmk k) ps,MR,r,R.st,U,iu ∅,R.sm,R.few,q,d.ap,λn=>(m n).symm,),?_,);rw[←g];unfold bh;rw[MU a];split
 .intro c b;let b:c∈[45]:=b;rw[hJ.mp b];exact .inr<|.inr<|.inl U
 .refine PlT.join uw λw e=>?_
  let(p,s,rfl):=ck.mp e;let(w,lo,hi):=k;cases w with
  |none =>
   let o:=i.inn p s;intro c b;let:=pj o.b1 o.b2 c b;unfold PlC;lia
  |some j=>calc PlT.join uw λw e=>.isw<|(ok.wd j U).1.words w<|om e
def  eQ(f:Fc):Str:=ofS "fact " ++ f.1++ofS " " ++ dh f.2
def  vU(b:BT)(w:Rw):Ln:=.row (lc bh b.ks w.1)<|oq b.o w.2
def  uz(b:BT):M3 Ln:=.tab b.nm b.cs (dh b.o) b.way :: b.rws.map (vU b)
def  rz(b:BT):M3 Str:=ir b.nm b.cs b.o b.way :: b.rws.map λw=>o7 b.ks w b.o
def  xK(f:Fc):Ln:=.fact f.1<|dh f.2
def  rW(a:M3 Fc)(bts:M3 BT):M3 Ln:=a.map xK++(bts.map uz).flatten
def  dt(a:M3 Fc)(bts:M3 BT):M3 Str:=a.map eQ++(bts.map rz).flatten
def  dwB(b:BT):Dw:=(b.nm,b.cs,dh b.o,b.way,b.rws.map λw=>(lc bh b.ks w.1,oq b.o w.2),)
structure Il(fcs:M3 Fc)(bts:M3 BT)(b:BT):Prop where
 c1:1≤⇑b.cs
 c4:⇑b.cs≤4
 cnd:b.cs.Nodup
 cne:b.nm ∉ b.cs
 kl:⇑b.ks=⇑b.cs
 kk:∀(j:Nat)(c:Str)(k:Dk),b.cs[j]?=MO c→b.ks[j]?=MO k→(c,k)∈fO fcs bts
 way:b.way∈six
 sum:b.way=s!"sum" → b.o.1=MP
 r200:⇑b.rws≤200
 row:∀w∈b.rws,pP (b.ks.map (·.2)) b.o.2 w
 cel:∀w∈b.rws,∀(j:Nat)(k:Dk)(ps:Prs),b.ks[j]?=MO k→w.1[j]?=MO ps→gD k ps∧Apart ps
structure BOk(fcs:M3 Fc)(bts:M3 BT):Prop where
 f20:⇑fcs≤20
 b30:⇑bts≤30
 wd:∀z∈bN fcs bts,isw z=MQ
 nd:(bN fcs bts).Nodup
 dk:∀f∈fO fcs bts,jq f.2
 bt:∀b∈bts,Il fcs bts b
 rk:xB bts
def nc:∀(a:M3 Fc)(fs:M3 (Str×Str))(ds:M3 Dw),(a.map xK).foldl ap (fs,ds)=(fs++a.map (λf=>(f.1,dh f.2)),ds)
 | [],fs,ds=>by simp
 |f :: a,fs,ds=>by
  rw[gs,ig];show(a.map xK).foldl ap (fs++[(f.1,dh f.2)],ds)=_;rw[nc a];simp
def BS(fs:M3 (Str×Str))(ds:M3 Dw)(d:Dw)(f:M3 Str)(v:Str):ap (fs,ds++[d]) (.row f v)=(fs,ds++[d.add (f,v)]):=by
 simp[ap]
def tO(b:BT):∀(rws:M3 Rw)(fs:M3 (Str×Str))(ds:M3 Dw)(d:Dw),(rws.map<|vU b).foldl ap (fs,ds++[d])=(fs,ds++[{ d with rws:=d.rws++rws.map λw=>(lc bh b.ks w.1,oq b.o w.2) }])
 | [],fs,ds,d=>by simp
 |w :: rws,fs,ds,d=>by
  rw[gs,ig];unfold vU;rw[BS];let:=tO b rws fs ds<|d.add (lc bh b.ks w.1,oq b.o w.2);unfold vU at this;rw[this];simp[Dw.add]
def tP:∀(bts:M3 BT)(fs:M3 (Str×Str))(ds:M3 Dw),((bts.map uz).flatten).foldl ap (fs,ds)=(fs,ds++bts.map dwB)
 | [],fs,ds=>by simp
 |b :: bts,fs,ds=>by
  rw[gs,ji,lQ];let e:(uz b).foldl ap (fs,ds)=(fs,ds++[dwB b]):=by
   unfold uz;rw[ig];show(b.rws.map<|vU b).foldl ap (fs,ds++[(b.nm,b.cs,dh b.o,b.way,[],)])=_;rw[tO];rfl
  rw[e,tP bts];simp
def uB(a:M3 Fc)(bts:M3 BT):rdb (rW a bts)=(a.map<|λf=>(f.1,dh f.2),bts.map dwB):=by
 unfold rdb rW;rw[lQ,nc,tP];rfl
structure LeS(s s':M3 (Str×Str)×M3 Dw):Prop where
 f:⇑s.1≤⇑s'.1
 d:⇑s.2≤⇑s'.2
 r:∀(j:Nat)(d:Dw),s.2[j]?=MO d→∃d',s'.2[j]?=MO d'∧⇑d.rws≤⇑d'.rws
def LeS.refl(s:M3 (Str×Str)×M3 Dw):LeS s s:=(pT _,pT _,λ_ d e=>(d,e,pT _,),)
def LeS.trans{s t u:M3 (Str×Str)×M3 Dw}(h:LeS s t)(k:LeS t u):LeS s u:=(qu h.f k.f,qu h.d k.d,λj d e=>by
 let(l,g,b):=h.r j d e;let(i,c,a):=k.r j l g;exact(i,c,qu b a,),)
def LeS.ap(s:M3 (Str×Str)×M3 Dw)(g:Ln):LeS s (ap s g):=by
 let(fs,b):=s;cases g with
 |fact n d=>exact(by show ⇑fs≤⇑(fs++[_]);simp,pT _,λ_ d e=>(d,e,pT _,),)
 |tab n l d w=>exact(pT _,by show ⇑b≤⇑(b++[_]);simp,λj d e=>(d,by
   show(b++[_])[j]?=_;let e:b[j]?=MO d:=e;rw[ft (KH.mp e).1];exact e,pT _,),)
 |row f v =>
  by_cases i:b=[]
  .subst i;exact(pT _,pT _,λj d e=>by simp at e,)
  .let(a,c,rfl):∃a c,b=a++[c]:=(b.dropLast,b.getLast i,(M8 _).symm,);rw[BS];refine(pT _,by simp,λj d e=>?_,);let e:(a++[c])[j]?=MO d:=e;by_cases h:j<⇑a
   .rw[ft h]at e;exact(d,by show(a++[_])[j]?=_;rw[ft h];exact e,pT _,)
   .let k:=(KH.mp e).1;rw[dV,hQ]at k;obtain rfl:j=⇑a:=∅
    let:c=d:= ~~~e
    subst this;calc(c.add (f,v),by simp,by simp[Dw.add],)
def LeS.fold:∀(l:M3 Ln)(s:M3 (Str×Str)×M3 Dw),LeS s (l.foldl _M.ap s)
 | [],s=>LeS.refl s
 |ln :: l,s=>(LeS.ap s ln).trans<|LeS.fold l _
def LeS.pre(lns:M3 Ln)(i:Nat):LeS (rdb<|lns.take i) (rdb lns):=by
 conv=>rhs;unfold rdb;rw[←kC i lns,lQ]
 calc LeS.fold _ _
def xM{a:M3 Fc}{bts:M3 BT}{i:Nat}{f:M3 Str}{v:Str}(h:(rW a bts)[i]?=MO (.row f v)):(rdb<|(rW a bts).take i).2≠[]:=by
 unfold rW at h⊢;let hi:⇑a≤i:=by
  rcases tN i ⇑a with g|g
  .rw[ft (by rw[bQ];exact g),dn]at h;cases e:a[i]? with
   |none=>rw[e]at h;cases h
   |some x=>rw[e]at h;cases h
  .exact g
 cases bts with
 |nil=>rw[fV (by rw[bQ];exact hi)]at h;simp at h
 |cons b bts =>
  rw[gs,ji]at h⊢;unfold uz at h⊢;rw[fV (by rw[bQ];exact hi),bQ]at h;cases hk:i-⇑a with
  |zero=>rw[hk]at h;cases h
  |succ n =>
   let j:i=⇑(a.map xK)+(n+1):=by rw[bQ];lia
   rw[j,List.take_length_add_append,List.cons_append,OF];let c:=(LeS.fold ((b.rws.map (vU b)++(bts.map uz).flatten).take n)<|ap ((a.map xK).foldl ap ([],[]))<|.tab b.nm b.cs (dh b.o) b.way).d;intro z;unfold rdb at z;rw[lQ,ig]at z;rw[nc]at z c;unfold uz at c;rw[z]at c;simp[ap]at c
def Dh:∀z∈six,32 ∉ tl z∧10 ∉ tl z∧⇑z≤5:= ~~~0
def kb:s!"fact ".length=5:= ~~~0
def zQ:s!" ".length=1:= ~~~0
def Di{f:Fc}(b:isw f.1=MQ)(ok:jq f.2):zP (eQ f) (xK f)∧⇑(eQ f)≤10000∧10 ∉ tl (eQ f):=by
 let e:=uy ok;let d:=df b;refine((f.1++SP++dh f.2,?_,?_,),?_,?_,)
 .unfold eQ;rw[iU,iU,iU];rfl
 .exact lE (m0:=[]) (v:=32) (m1:=[]) U (λm=>by have:=(gM b).1 _ m;lia) (by simp)
 .unfold eQ;rw[aK,aK,aK,kb,zQ];lia
 .unfold eQ;refine PlT.no ?_ (by unfold PlC;lia);refine PlT.app (PlT.app (PlT.app ?_<|PlT.isw b) ?_)<|DR ok
  .intro c a;let a:c∈[102,97,99,116,32]:=a;simp only[cZ,gx,or_false]at a;unfold PlC;lia
  .intro c a;let a:c∈[32]:=a;rw[hJ.mp a];calc .inl U
def jr{a b:Str}(h:10 ∉ tl a)(k:10 ∉ tl b):10 ∉ tl (a++b):=λm=>by
 rw[cL]at m;rcases eA.mp m with m|m
 .exact h m
 .exact k m
def yQ{z:Str}(h:PlT z):10 ∉ tl z:=h.no (by unfold PlC;lia)
def Fp{b:BT}(a:isw b.nm=MQ)(g:∀c∈b.cs,isw c=MQ)(j:1≤⇑b.cs)(r:⇑b.cs≤4)(ok:jq b.o)(p:b.way∈six):zP (ir b.nm b.cs b.o b.way) (.tab b.nm b.cs (dh b.o) b.way)∧⇑(ir b.nm b.cs b.o b.way)≤10000∧10 ∉ tl (ir b.nm b.cs b.o b.way):=by
 let u:=uy ok;let t:=df a;let(n,l,s):=Dh b.way p;let i:b.cs≠[]:=λe=>by rw[e]at j;simp at j
 let k:PlT (io mk2 b.cs):=PlT.join uw λw a=>.isw<|g w a
 let x:⇑(io mk2 b.cs)≤4*(12+3):=lF (~~~0) (λz q=>df<|g z q) r;let e:ir b.nm b.cs b.o b.way=s!"table " ++ (b.nm++CO++(io mk2 b.cs++AR++(dh b.o++BY++b.way))):=by
  unfold ir;simp only[iU];rfl
 let h:CO.length=2:= ~~~0
 let f:AR.length=4:= ~~~0
 let d:BY.length=4:= ~~~0
 rw[e];refine((_,_,_,_,U,lE (m0:=[]) (v:=58) (m1:=[32]) U (λm=>by have:=(gM a).1 _ m;lia) (by simp),?_,lE (m0:=[32,45]) (v:=62) (m1:=[32]) U (k.no (by unfold PlC;lia)) ⋯,?_,?_,CI (m0:=[32,98,121]) (v:=32) U n,qK i λw a=>rm (gM<|g w a).1,),?_,?_,)
 .rw[aK,aK,aK,aK,f,d];lia
 .lia
 .rw[aK,aK,d];lia
 .rw[aK,aK,aK,aK,aK,aK,aK,dP,h,f,d];lia
 .refine jr (~~~0)<|jr (jr (yQ<|.isw a)<|~~~0)<|jr (jr (yQ k)<|~~~0)<|jr (jr (yQ<|DR ok)<|~~~0) l
def zip_get{c b a:Type}{f:c→b→a}{xs:M3 c}{ys:M3 b}{j:Nat}{z:a}(h:(lc f xs ys)[j]?=MO z):∃x y,xs[j]?=MO x∧ys[j]?=MO y∧z=f x y:=by
 rw[mF]at h;cases e3:xs[j]? with
 |none=>rw[e3]at h;cases h
 |some k =>
  cases e4:ys[j]? with
  |none=>rw[e3,e4]at h;cases h
  |some p =>
   rw[e3,e4]at h;calc(k,p,U,U,(dL h).symm,)
structure WOk(b:BT)(w:Rw):Prop where
 dk:∀k∈b.ks,jq k
 len:⇑w.1=⇑b.ks
 k1:1≤⇑b.ks
 k4:⇑b.ks≤4
 cel:∀(j:Nat)(k:Dk)(ps:Prs),b.ks[j]?=MO k→w.1[j]?=MO ps→gD k ps∧Apart ps
 od:jq b.o
 lo:b.o.2.1≤w.2
 hi:w.2≤b.o.2.2
def COk.of{k:Dk}{ps:Prs}(ok:jq k)(c:gD k ps)(ap:Apart ps):COk (dmk k) ps :=
 (ap,λp a=>by rw[rq ok];exact((c.inn p a).lo,(c.inn p a).hi,),qu c.few ⋯,)
def WOk.fld{b:BT}{w:Rw}(ok:WOk b w){j:Nat}{k:Dk}{ps:Prs}(e:b.ks[j]?=MO k)(f:w.1[j]?=MO ps):RdC (dmk k) (bh k ps) ps∧PlT (bh k ps):=by
 let(c,a):=ok.cel j k ps e f;let d:=ok.dk k<|KJ e;calc Fo d (COk.of d c a) c
def Fq{b:BT}{w:Rw}(ok:WOk b w):zP (o7 b.ks w b.o) (vU b w)∧⇑(o7 b.ks w b.o)≤10000∧10 ∉ tl (o7 b.ks w b.o):=by
 let(C,s,B,r,_):=xJ ok.od ok.lo ok.hi;let fl:⇑(io (ofS " | ")<|lc bh b.ks w.1)≤7254:=xy (by rw[ok.len];let:=ok.k4;lia) λj k n g f=>(ok.cel j k n g f).1
 let A:=s.len;let p:∀z∈lc bh b.ks w.1,PlT z:=λz d=>by
  let(j,y):=gu d;let(k,n,g,f,rfl):=zip_get y;exact(ok.fld g f).2
 let l:lc bh b.ks w.1≠[]:=λe=>by
  let h:=M0 M6 e;rw[kP,ok.len,u7]at h;let h:⇑b.ks=0:=h;let:=ok.k1;lia
 let q:∀c:Nat,c≠124→¬ PlC c→c ∉ tl (io BR<|lc bh b.ks w.1):=λc u t m=>by
  rw[iA]at m;let:=rp (P:=λx=>PlC x∨x=124) (m:=BR) (λx a=>by
   let a:x∈[32,124,32]:=a;simp only[cZ,gx,or_false]at a;rcases a with rfl|rfl|rfl
   .exact .inl<|.inl U
   .exact .inr U
   .exact .inl (.inl U)) (λz d x a=>.inl<|p z d x a) c m
  rcases this with z|z
  .exact t z
  .exact u z
 let e:o7 b.ks w b.o=s!"when " ++ (io BR (lc bh b.ks w.1)++AR++oq b.o w.2):=by
  unfold o7;simp only[iU];rfl
 let i:AR.length=4:= ~~~0
 let fl:⇑(io BR<|lc bh b.ks w.1)≤7254:=fl;rw[e];refine((_,_,U,lE (m0:=[32,45]) (v:=62) (m1:=[32]) U (q 62 ⋯ (by unfold PlC;lia)) ⋯,∅,tq (m0:=[32]) (v:=124) (m1:=[32]) U ⋯ ⋯ (~~~0) l λz d=>(p z d).no (by unfold PlC;lia),),?_,?_,)
 .rw[aK,aK,aK,m8,i];lia
 .exact jr (~~~0)<|jr (jr (q 10 ⋯ (by unfold PlC;lia)) (~~~0)) (yQ r)
def xN(a:M3 Fc)(bts:M3 BT):(fO a bts).map (·.1)=bN a bts:=by
 unfold fO bN;rw[dy,gw];rfl
def BU{c:Type}:∀{L:M3 (Str×c)}{z:Str}{a:c},(L.map (·.1)).Nodup→(z,a)∈L→L.lookup z=MO a
 |(y,b) :: L,z,a,nd,h=>by
  rw[mE];rcases cZ.mp h with e|e
  .cases e;simp
  .let d:z≠y:=λf=>by
    subst f;exact(gi.mp nd).1 (ck.mpr (_,e,U,))
   rw[show(z == y)=MR by simpa using d];calc BU (gi.mp nd).2 e
def BV{c:Type}:∀{L:M3 (Str×c)}{z:Str}{a:c},L.lookup z=MO a→(z,a)∈L
 |(y,b) :: L,z,a,h=>by
  rw[mE]at h;by_cases e:(z == y)=MQ
  .rw[e]at h;cases h;rw[eq_of_beq e];exact .head _
  .rw[Bool.not_eq_true]at e;rw[e]at h;exact .tail _<|BV h
 | [],_,_,h=>by cases h
def  mB(a:M3 Fc)(bts:M3 BT)(z:Str):Option Dm:=((fO a bts).lookup z).map dmk
section
variable{fcs:M3 Fc}{bts:M3 BT}
def BOk.dom(ok:BOk fcs bts){z:Str}{k:Dk}(h:(z,k)∈fO fcs bts):mB fcs bts z=MO (dmk k):=by
 unfold mB;rw[BU (by rw[xN];exact ok.nd) h];rfl
def BOk.dkD(ok:BOk fcs bts){z:Str}{k:Dk}(h:(z,k)∈fO fcs bts):dkD (mB fcs bts) z=k:=by
 rw[oF (ok.dom h),ux (ok.dk _ h)]
def BOk.own{b:BT}(a:b∈bts):(b.nm,b.o)∈fO fcs bts:=fq _<|ck.mpr (b,a,U,)
def BX{z:Str}{k:Dm}(h:mB fcs bts z=MO k):∃a,(z,a)∈fO fcs bts∧k=dmk a:=by
 unfold mB at h;cases e:(fO fcs bts).lookup z with
 |none=>rw[e]at h;cases h
 |some a=>rw[e]at h;cases h;calc(a,BV e,U,)
def BOk.ofk(ok:BOk fcs bts){b:BT}(e:b∈bts):∀k∈b.ks,jq k:=λk c=>by
 let(j,a):=gu c;let B:=ok.bt b e;let d:j<⇑b.cs:=by rw[←B.kl];exact(KH.mp a).1
 calc ok.dk _<|B.kk j _ k (KG d) a
def BOk.wok(ok:BOk fcs bts){b:BT}(a:b∈bts){w:Rw}(c:w∈b.rws):WOk b w:=by
 let B:=ok.bt b a;let R:=B.row w c;calc(ok.ofk a,by rw[R.len,bQ],by rw[B.kl];exact B.c1,by rw[B.kl];exact B.c4,B.cel w c,ok.dk _<|BOk.own a,R.lo,R.hi,)
def BOk.cin(ok:BOk fcs bts){b:BT}(f:b∈bts){c:Str}(e:c∈b.cs):c∈bN fcs bts:=by
 let B:=ok.bt b f;let(j,a):=gu e;let d:j<⇑b.ks:=by rw[B.kl];exact(KH.mp a).1
 let:=B.kk j c _ a<|KG d;rw[←xN];calc ck.mpr (_,this,U,)
def  BZ(b:BT):M3 (Str×Ln):=(ir b.nm b.cs b.o b.way,.tab b.nm b.cs (dh b.o) b.way) :: b.rws.map λw=>(o7 b.ks w b.o,vU b w)
def  zR(fcs:M3 Fc)(bts:M3 BT):M3 (Str×Ln):=fcs.map (λf=>(eQ f,xK f))++(bts.map BZ).flatten
def rA:(zR fcs bts).map (·.1)=dt fcs bts:=by
 unfold zR dt;rw[dy,gw,List.map_flatten,gw]
 congr 2
 apply nS
 intro b _;show(BZ b).map (·.1)=rz b;unfold BZ rz;rw[gs,gw];rfl
def B1:(zR fcs bts).map (·.2)=rW fcs bts:=by
 unfold zR rW;rw[dy,gw,List.map_flatten,gw]
 congr 2
 apply nS
 intro b _;show(BZ b).map (·.2)=uz b;unfold BZ uz;rw[gs,gw];rfl
def BOk.lines(ok:BOk fcs bts):∀p∈zR fcs bts,zP p.1 p.2∧⇑p.1≤10000∧10 ∉ tl p.1:=λp d=>by
 rcases eA.mp d with h|h
 .let(f,g,rfl):=ck.mp h;exact Di (ok.wd f.1<|fE _<|ck.mpr (f,g,U,))<|ok.dk f<|fE _ g
 .let(l,j,d):=oD.mp h;let(b,a,rfl):=ck.mp j;let B:=ok.bt b a;rcases cZ.mp d with e|h
  .rw[e];exact Fp (ok.wd b.nm<|fq _<|ck.mpr (b,a,U,)) (λc k=>ok.wd c<|ok.cin a k) B.c1 B.c4 (ok.dk _<|BOk.own a) B.way
  .let(w,i,rfl):=ck.mp h;calc Fq<|ok.wok a i
def BOk.lns(ok:BOk fcs bts):BP (dt fcs bts) (rW fcs bts):=by
 refine(by rw[←rA,←B1,bQ,bQ],λi z s a h=>?_,λi f v e=>xM e,λi=>?_,)
 .rw[←rA,dn]at a;rw[←B1,dn]at h;cases e:(zR fcs bts)[i]? with
  |none=>rw[e]at a;cases a
  |some p =>
   rw[e]at a h;cases a;cases h;let:=ok.lines p<|KJ e;exact(this.1,this.2.1,)
 .let L:=LeS.pre (rW fcs bts) i;let q:=ok.f20;let o:=ok.b30;let e:=uB fcs bts;let c:=L.f;let g:=L.d;let l:=L.r;rw[e]at c g l;let c:_≤⇑(fcs.map λf=>(f.1,dh f.2)):=c;let g:_≤⇑(bts.map dwB):=g;rw[bQ]at c g;calc(∅,∅,λd k=>?_,);let(j,n):=gu k;let(u,a,h):=l j d n;let(b,m,rfl):=ck.mp<|KJ a;let:=(ok.bt b m).r200;let t:(dwB b).rws.length=⇑b.rws:=by unfold dwB;exact bQ _
  lia
def BOk.split(ok:BOk fcs bts)(a:dt fcs bts≠[]):jp (io NL<|dt fcs bts) NL=dt fcs bts:=by
 refine tq (m0:=[]) (v:=10) (m1:=[]) U (by simp) (by simp) (~~~0) a λz b=>?_
 rw[←rA]at b;let(p,c,rfl):=ck.mp b;calc(ok.lines p c).2.2
def rB{b a:Type}{f:b→a}{xs:M3 b}{i:Nat}{y:a}(h:(xs.map f)[i]?=MO y):∃x,xs[i]?=MO x∧y=f x:=by
 rw[dn]at h;cases e:xs[i]? with
 |none=>rw[e]at h;cases h
 |some x=>rw[e]at h;calc(x,U,(dL h).symm,)
def  ccB(bts:M3 BT):M3 (List<|M3 Prs):=bts.map λb=>b.rws.map (·.1)
def  cdB(bts:M3 BT):M3 (M3 Int):=bts.map λb=>b.rws.map (·.2)
def BOk.rb(ok:BOk fcs bts):Fn (fcs.map λf=>(f.1,dh f.2)) (bts.map dwB) (mB fcs bts) (ccB bts) (cdB bts):=by
 let n:(fcs.map λf=>(f.1,dh f.2)).map (·.1)++(bts.map dwB).map Dw.nm=bN fcs bts:=by
  unfold bN;rw[gw,gw];rfl
 refine(by rw[bQ];exact ok.f20,by rw[bQ];exact ok.b30,by rw[n];exact ok.wd,by rw[n];exact ok.nd,?dw,?rd,?dm,?gd,by unfold ccB;rw[bQ,bQ],?cel,?num,by unfold cdB;rw[bQ,bQ],?cod,?wy,)
 case dw =>
  rw[n];intro d g;let(b,a,rfl):=ck.mp g;let B:=ok.bt b a;refine(B.c4,by show⇑(b.rws.map _)≤200;rw[bQ];exact B.r200,λc t=>(ok.cin a t,λe=>B.cne (by have e:c=b.nm:=e;rw[←e];exact t),),B.cnd,λr y=>?_,λc t=>oG<|ok.wd c<|ok.cin a t,oG<|ok.wd b.nm<|fq _<|ck.mpr (b,a,U,),);let(w,v,rfl):=ck.mp y;show⇑(lc bh b.ks w.1)=⇑b.cs;rw[kP,(ok.wok a v).len,u7,B.kl]
 case rd =>
  intro p O;let:∃f∈fO fcs bts,p=(f.1,dh f.2):=by
   rcases eA.mp O with h|h
   .let(f,s,e):=ck.mp h;exact(f,fE _ s,e.symm,)
   .let(d,g,e):=ck.mp h;let(b,a,E):=ck.mp g;calc((b.nm,b.o),BOk.own a,?_,);rw[←e,←E];rfl
  let(f,s,rfl):=this;let d:=ok.dk f s;exact(qu (uy d) ⋯,_,ok.dom (k:=f.2) s,GI d,)
 case dm =>
  intro z k h;let(N,A,_):=BX h;rw[n,←xN];exact ck.mpr (_,A,U,)
 case gd =>
  intro z F h;let(N,A,e):=BX h;exact(ok.dk _ A).dok.gd F e.symm
 case cel =>
  intro i d D;let(b,m,rfl):=rB D;let a:=KJ m;let B:=ok.bt b a;refine(b.rws.map (·.1),by unfold ccB;rw[dn,m];rfl,by rw[bQ];exact(bQ _).symm,λi r C=>?_,);let(w,l,rfl):=rB C;let W:=ok.wok a<|KJ l;let P:⇑(lc bh b.ks w.1)=⇑b.cs:=by rw[kP,W.len,u7,B.kl]
  refine(P,w.1,by rw[dn,l];rfl,by show ⇑w.1=⇑b.cs;rw[W.len,B.kl],λj c f Q E=>?_,);let(k,M,K,J,rfl):=zip_get E;exact(dmk k,M,ok.dom<|B.kk j c k Q K,J,(W.fld K J).1,)
 case num =>
  intro d g p h r y;let(b,a,rfl):=ck.mp g;let(w,v,rfl):=ck.mp y;let W:=ok.wok a v;let(I,u,H,L,G):=xJ W.od W.lo W.hi;calc(u,G ?_,);let h:mB fcs bts b.nm=MO (.inl p):=h;rw[ok.dom (BOk.own a)]at h;generalize b.o=k at h;let(x,q):=k;cases x with
  |none=>rfl
  |some F=>cases h
 case cod =>
  intro i d k D h;let(b,m,rfl):=rB D;let a:=KJ m;let h:mB fcs bts b.nm=MO k:=h;rw[ok.dom (BOk.own a)]at h;cases h;refine(b.rws.map (·.2),by unfold cdB;rw[dn,m];rfl,by rw[bQ];exact(bQ _).symm,λj r C=>?_,);let(w,l,rfl):=rB C;let W:=ok.wok a<|KJ l;let(I,u,H,L,G):=xJ W.od W.lo W.hi;exact(w.2,by rw[dn,l];rfl,u,H,I,)
 case wy =>
  intro d g;let(b,a,rfl):=ck.mp g;let B:=ok.bt b a;calc(B.way,λe=>?_,);let h:=B.sum e;calc(b.o.2,?_,);show mB fcs bts b.nm=_;rw[ok.dom (BOk.own a)];generalize b.o=k at h;let(x,q):=k;cases h;rfl
def BOk.rt(ok:BOk fcs bts):RbT (fcs.map λf=>(f.1,dh f.2)) (bts.map dwB) (mB fcs bts) (ccB bts) (cdB bts) fcs bts:=by
 refine(?_,U,U,λi d n=>?_,λd m=>?_,λb a=>(ok.bt b a).row,ok.rk,)
 .rw[gw];refine ik λi=>?_
  rw[dn];cases e:fcs[i]? with
  |none=>rfl
  |some f =>
   let:=ok.dkD (z:=f.1) (k:=f.2)<|fE _<|KJ e;show MO f=MO (f.1,_M.dkD (mB fcs bts) f.1);rw[this]
 .let(b,h,rfl):=rB n;let a:=KJ h;let B:=ok.bt b a;calc(b.rws,?_,);rw[h];let o:b.cs.map (_M.dkD<|mB fcs bts)=b.ks:=by
   refine ik λj=>?_
   rw[dn];cases e:b.cs[j]? with
   |none =>
    let:⇑b.cs≤j:=by rw[AC]at e;exact e
    rw[ia (by rw[B.kl];exact this)];rfl
   |some c =>
    let l:j<⇑b.ks:=by rw[B.kl];exact(KH.mp e).1
    let g:=KG l;rw[g];show MO (_M.dkD (mB fcs bts) c)=_;rw[ok.dkD (B.kk j c _ e g)]
  show MO b=MO (b.nm,b.cs,b.cs.map<|_M.dkD<|mB fcs bts,_M.dkD (mB fcs bts) b.nm,b.way,b.rws,);rw[o,ok.dkD (BOk.own a)]
 .let(b,a,rfl):=ck.mp m;calc(ok.bt b a).c1
end
def vV{n:Nat}(h:n<100000):n<AY:=ri h ⋯
def uC:∀{bts:M3 BT},(∀b∈bts,⇑b.rws≤200)→⇑((bts.map rz).flatten)≤⇑bts*201
 | [],_=>by simp
 |b :: bts,h=>by
  let e:=uC (bts:=bts) λx a=>h x<|.tail _ a
  let d:=h b<|.head _;rw[gs,ji,dV,gv];let c:⇑(rz b)=⇑b.rws+1:=by unfold rz;simp
  lia
def B2{zs:M3 Str}{ds:M3 PD}{fN k:Nat}{t:PT}{nm:Str}{a:PD}(c:zs[fN+k]?=MO nm)(b:ds[fN+k]?=MO a):btP zs ds fN k t=(nm,prm t.cols zs,prm t.cols<|ds.map PD.k,a.k,t.way,t.rows,):=by
 unfold btP;rw[j3 c,ot b]
def zS{K:ac}{H:Hp}{Q:VK}{a b:AE}{xs:M3 Str}(f:SqL K H a (xs.map OT))(e:SqL K H b (xs.map OT))(q:Q (.bl MR) H):vm K MQ (.ref a) (.ref b) H Q:=by
 refine(a,b,_,_,U,U,f,e,.inr (U,λ_=>MQ,λj x y k i=>?_,?_,),)
 .let(z,rfl,h):=cg k;let(d,rfl,g):=cg i;obtain rfl:z=d:=dL<|h.symm.trans g;let c:=EqI.flat (K:=K) (H:=H) (x:=OT z) (y:=OT z) U U;rw[show eqV (OT z) (OT z)=MQ by simp[eqV]]at c;exact c
 .rw[MV U,show(gl ⇑(xs.map OT)).all (λ_=>MQ)=MQ by simp];calc q
def GJ{p:PD}(h:iS p):jq p.k:=by
 calc(h.le,h.bd _ (pr _) h.le,h.bd _ h.le<|pr _,λc e=>?_,);let e:(if p.ws=[]then MP else MO p.ws)=MO c:=e;by_cases z:p.ws=[]
 .rw[MV z]at e;cases e
 .rw[MU z]at e;cases e;let(g,a,b):=h.wd z;calc(g,by show(p.lo,p.hi)=_;rw[a,b],)
def vW{zs:M3 Str}{ds:M3 PD}{d:M3 PT}{fN:Nat}(ok:fM zs ds d fN){bts:M3 BT}(i:bts.Perm (tsP zs ds d fN)):BOk (fsP zs ds fN) bts:=by
 let N:=ok.len;let h2:=ok.tab;let Z:=ok.n7;let q:(bN (fsP zs ds fN) bts).Perm zs:=by
  unfold bN;calc(N3 _<|i.map BT.nm).trans ?_;rw[Fe ok,Ff ok,kC]
 let H:∀f,f∈fO (fsP zs ds fN) bts↔f∈fO (fsP zs ds fN) (tsP zs ds d fN):=λf=>by
  unfold fO;exact(N3 _<|i.map _).mem_iff
 let D:∀(j:Nat)(z:Str)(p:PD),zs[j]?=MO z→ds[j]?=MO p→(z,p.k)∈fO (fsP zs ds fN) bts:=λj z p g a=>by
  rw[H];by_cases l:j<fN
  .exact fE _<|KJ<|o8 l g a
  .let(k,rfl):∃k,j=fN+k:=(j-fN,∅,);let F:k<⇑d:=by have:=(KH.mp a).1;lia
   let m:=KG F;calc fq _<|ck.mpr (_,KJ<|qY (zs:=zs) (ds:=ds) (fN:=fN) m,?_,);show(zs.getD (fN+k) re,(ds.map PD.k).getD (fN+k) k01)=_;rw[j3 g,ot a]
 let C:∀f∈fO (fsP zs ds fN) bts,∃p∈ds,f.2=p.k:=λf v=>by
  rw[H]at v;rcases eA.mp v with h|h
  .let(j,p,_,_,e,a):=CU ok h;exact(p,KJ e,a,)
  .let(b,x,rfl):=ck.mp h;let(k,t,_,_,_,e,_):=ql ok x;let(p,g,a):=DP ok x e;exact(p,KJ g,a,)
 refine(by rw[gL];lia,by rw[i.length_eq,j4];lia,λz K=>ok.words z<|q.mem_iff.mp K,q.nodup_iff.mpr ok.nd,λf v=>?_,λb x=>?_,GD ok λt L=>.inl<|i.mem_iff.mp L,)
 .let(p,i,e):=C f v;rw[e];exact GJ<|ok.doms p i
 .let r:=i.mem_iff.mp x;let(k,t,m,F,rfl,e,o):=ql ok r;let T:=ok.tabs k t m;let lt:=ok.lt m;let n:∀j∈t.cols,j<⇑zs:=λj l=>by rw[N];exact lt j l
  let B:∀j∈t.cols,j<⇑(ds.map PD.k):=λj l=>by rw[bQ];exact lt j l
  let O:=bT (os:=t.cols) (xs:=zs) n;let P:=bT (os:=t.cols) (xs:=ds.map PD.k) B;let(y,s,G):=DP ok r e;let A:(btP zs ds fN k t).cs.length=⇑t.cols:=O.1;let I:(btP zs ds fN k t).ks.length=⇑t.cols:=P.1;let Y:⇑t.cols≤3:=T.ok.few;refine(by rw[A];exact T.ok.some_,by rw[A];lia,tw T.ok.nd ok.nd n,λM=>?ne,by rw[A,I],λj c kk g a=>?kk,T.ok.way,λV=>?sum,T.few,λw u=>?row,λw u j kk E g a=>?cel,)
  case ne =>
   let(j,l,W):=o.mem ok M;let:=qP ok.nd W e;lia
  case kk =>
   let(J,p,_,S,Q,rfl):=o.col ok g a;exact D J c p S Q
  case sum =>
   rw[G];let:=T.ok.sum V y s;show(if y.ws=[]then MP else MO y.ws)=MP;rw[MV this]
  case row =>
   let R:=ok.rows m s w u;rw[G];let X:(btP zs ds fN k t).ks.map (·.2)=prm t.cols (ds.map λp=>(p.lo,p.hi)):=by
    show(prm t.cols<|ds.map PD.k).map (·.2)=_;rw[←yC,gw];rfl
   rw[X];exact R
  case cel=>calc(ok.cells m u j kk E g a,(T.rows w u).ap E<|KJ a,)
def Dl{a:Type}(xs:M3 a):prm (gl ⇑xs) xs=xs:=by
 let h:=bT (os:=gl ⇑xs) (xs:=xs) λk b=>gW.mp b
 refine ik λi=>?_
 by_cases hi:i<⇑xs
 .rw[h.2 i i (oy hi)]
 .rw[ia (by rw[h.1,jf];lia),ia ∅]
def B3{a:Type}{os:M3 Nat}{xs:M3 a}(h:os.Perm (gl ⇑xs)):(prm os xs).Perm xs:=by
 let:=h.filterMap (xs[·]?);rw[show(gl ⇑xs).filterMap (xs[·]?)=prm (gl ⇑xs) xs from U,Dl]at this;calc this
def Dp{m w:Str}{W:M3 Str}:⇑w≤⇑(kt m (w :: W)):=by
 cases W with
 |nil=>exact pT _
 |cons a W=>rw[←bw (kt _ _),cQ,dV,bw];lia
def BOk.txt{a:M3 Fc}{bts:M3 BT}(ok:BOk a bts)(g:a≠[])(c:⇑(dt a bts)≤1407):(((dt a bts).map (·.length)).sum+⇑(dt a bts)*64≤16777216)∧⇑(io NL<|dt a bts)≠0∧⇑(io NL<|dt a bts)+2≤AY∧jp (io NL<|dt a bts) NL=dt a bts:=by
 let b:∀z∈dt a bts,⇑z≤10000:=λz b=>by
  rw[←rA]at b;let(p,d,rfl):=ck.mp b;exact(ok.lines p d).2.1
 let i:=lF (sep:=NL) (~~~0) b c;let(f,fs,rfl):∃f fs,a=f :: fs:=by
  cases a with
  |nil=>exact MW U g
  |cons f fs=>exact(f,fs,U,)
 let e:dt (f :: fs) bts=eQ f :: (fs.map eQ++(bts.map rz).flatten):=rfl;refine(fC b c ⋯,λh=>?_,by rw[K5];lia,ok.split (by rw[e];simp),);rw[e,iA]at h;let k:=Dp (m:=NL) (w:=eQ f) (W:=fs.map eQ++(bts.map rz).flatten);let j:5≤⇑(eQ f):=by unfold eQ;rw[aK,aK,aK,kb];lia
 lia
def B4{zs:M3 Str}{ds:M3 PD}{a:M3 PT}{fN:Nat}(ok:fM zs ds a fN){bts:M3 BT}(c:bts.Perm (tsP zs ds a fN)):⇑(dt (fsP zs ds fN) bts)≤1407:=by
 let B:=vW ok c;let f:=ok.tab;let e:=ok.n7;let L:=uC λb d=>(B.bt b d).r200
 let d:⇑bts=⇑a:=by rw[c.length_eq,j4]
 unfold dt;rw[dV,bQ,gL];lia
def BOk.read{a:M3 Fc}{bts:M3 BT}(ok:BOk a bts)(j:a≠[])(i:⇑(dt a bts)≤1407):∃(L:M3 Str)(b:M3 Ln)(dom:Str→Option Dm)(d:M3 (List<|M3 Prs))(c:M3 (M3 Int)),dt a bts=L∧((L.map (·.length)).sum+L.length*64≤16777216)∧⇑(io NL L)≠0∧⇑(io NL L)+2≤AY∧jp (io NL L) NL=L∧BP L b∧Fn (rdb b).1 (rdb b).2 dom d c∧RbT (rdb b).1 (rdb b).2 dom d c a bts:=by
 let(h,g,f,e):=ok.txt j i;refine(_,rW a bts,mB a bts,ccB bts,cdB bts,U,h,g,f,e,ok.lns,?_,?_,)
 .rw[uB];exact ok.rb
 .rw[uB];calc ok.rt
def oH:BOk [] []:=⟨⋯,⋯,(λz a=>by cases a),mD,(λf d=>by cases d),(λb e=>by cases e),⟨λ_=>0,λt c=>by cases c⟩⟩
def jq.pd{k:Dk}(ok:jq k):∃p:PD,p.k=k∧iS p:=by
 let(w,lo,hi):=k;let b1:bnd lo:=ok.b1;let b2:bnd hi:=ok.b2;cases w with
 |none=>exact((lo,hi,[],),PD.k_none U,ok.le,λh=>MW U h,λx c b=>oC b1 b2 c b,)
 |some a =>
  let(gd,e):=ok.wd a U;let d:a≠[]:=λe=>by have:=gd.some_;rw[e]at this;simp at this
  let e:(lo,hi)=(0,hiW a):=e;calc((lo,hi,a,),PD.k_some d,ok.le,λ_=>(gd,M0 (·.1) e,M0 (·.2) e,),λx c b=>oC b1 b2 c b,)
section
variable{fcs:M3 Fc}{bts:M3 BT}
def BOk.sum(ok:BOk fcs bts){L:M3 Str}(h:∀z∈L,z∈dt fcs bts)(c:L.length≤1407):(L.map (·.length)).sum+L.length*64≤16777216:=by
 calc fC (m:=10000) (n:=1407) (λz a=>?_) c ⋯;let a:=h z a;rw[←rA]at a;let(p,b,rfl):=ck.mp a;calc(ok.lines p b).2.1
def BOk.nm(ok:BOk fcs bts):vK fcs bts:=(λf b=>ok.wd _<|fE _<|ck.mpr (f,b,U,),ok.nd,λt a c d=>ok.cin a d,)
def BOk.dm(ok:BOk fcs bts):xA fcs bts:=λt h i c k b l j g=>by
 let f:=(ok.bt t h).kk i c k l j;let d:=ok.dom f;rw[ok.dom g]at d;let a:=M0 (Option.map dkm) d;let a:MO (dkm<|dmk b)=MO (dkm<|dmk k):=a;rw[ux (ok.dk _ f),ux (ok.dk _ g)]at a;let e:b=k:=dL a;rw[e];calc vJ _
def BOk.bkg{e cN cW:AE}{H:Hp}{d b:M3 V}(ok:BOk fcs bts)(j:ak d fcs (FcG cN cW H))(i:ak b bts (TbG e cN cW H)):BkG e cN cW H d b fcs bts:=by
 refine(j,i,λf g=>oG<|ok.nm.w f g,λt a=>(λc h=>oG<|ok.wd c<|ok.cin a h,(ok.bt t a).c4,(ok.bt t a).kl,),?_,?_,)
 .let:=ok.f20;lia
 .let:=ok.b30;lia
def zT(b:BT):dt fcs (bts++[b])=dt fcs bts++rz b:=by
 unfold dt;rw[dy,pa,←gB];simp
def Dq{i:Nat}:⇑(dt fcs<|bts.take i)≤⇑(dt fcs bts):=by
 conv=>rhs;rw[←kC i bts]
 unfold dt;rw[dy,pa,dV,dV,dV];lia
end
def Fs{b cN cW:AE}{H:Hp}{zs:M3 Str}{ds:M3 PD}{a:M3 PT}{fN k:Nat}{t:PT}{r:AE}(l:a[k]?=MO t)(h:TbA b cN cW H zs ds a fN r k):TbG b cN cW H r (btP zs ds fN k t):=by
 let(n,nm,o,c,m,d,j,i,g,f,e):=h;rw[l]at d;cases d;refine(c,m,?_,f,?_,)
 .show TF b H r (zs.getD (fN+k) re) _ _ _ _ _;rw[j3 j];exact g
 .show cS cN cW H c ((ds.map PD.k).getD (fN+k) k01);rw[ot i];calc e
def Ft{l cN cW:AE}{H:Hp}{zs:M3 Str}{ds:M3 PD}{a:M3 PT}{fN:Nat}{os:M3 Nat}{g:M3 V}(c:∀k∈os,k<⇑a)(h:ak g os (TbA l cN cW H zs ds a fN)):ak g (prm os<|tsP zs ds a fN) (TbG l cN cW H):=by
 let f:=bT (os:=os) (xs:=tsP zs ds a fN) λk m=>by rw[j4];exact c k m
 refine(by rw[f.1,h.1],λj b e=>?_,);let n:j<⇑os:=by rw[←f.1];exact(KH.mp e).1
 let d:=KG n;generalize os[j]=k at d;let i:=KG<|c k<|KJ d;rw[f.2 j k d,qY i]at e;cases e;let(r,p,o):=h.2 j k d;calc(r,p,Fs i o,)
section
end
open Lean in
set_option hygiene false in
local macro_rules(kind:=Lean.Parser.Command.declaration)|s=>do
 let d:=s[1]
 if d.getKind==``Lean.Parser.Command.inductive&&d[2][0].getNumArgs==0&&d[2][1].getNumArgs==0 then
  let t←`(inductive A(K:ac)(Y:AD)(vs:M3 V)(H:Hp)(Q:VK)(e_:XK):Prop)
  return s.setArg 1 (d.setArg 2 t.raw[1][2])
 Macro.throwUnsupported
inductive iB
 |mk (z g:Str)(_:vs=[.str z,.str g])(_:Q (.bl<|jG z g) H)
inductive fe
 |mk (c:Int)(_:vs=[.int c])(_:bnd c)(_:Q (.str<|toString c) H)
inductive jd
 |mk (v:V)(_:vs=[v])(_:Pl v)(_:Q (.bl<|isI v) H)
inductive rC
 |mk (a b:AE)(k k':Dk)(_:vs=[.ref a,.ref b])(_:cS Y.r Y.s H a k)(_:cS Y.r Y.s H b k')(_:Q (.bl<|lkD k k') H)
inductive dQ(K:ac)(Y:AD)(vs:M3 V)(H:Hp)(Q:VK)(E:XK):Prop
 |mk (fa ma:AE)(fv mv:M3 V)(_:vs=[.ref fa,.ref ma])(_:H fa=MO (.lst fv))(_:H ma=MO (.lst mv))(_:((⇑fv≤20∧⇑mv≤30)→Q .non H))(_:(¬ (⇑fv≤20∧⇑mv≤30)→E (.ref Y.f) MP H))
inductive iV
 |mk (t na ou:AE)(nm wy:Str)(zs ns:M3 Str)(dv:M3 V)(rws:M3 Rw)(_:vs=[.ref t,.ref na])(_:TF Y.t H t nm wy ou zs dv rws)(_:H na=MO (.lst<|ns.map OT))(_:⇑zs≤100)(_:∀(l:AE)(H':Hp),aq H H'→H l=MP→H' l=MO (.lst<|(zs.filter λz=>ns.contains z).map OT)→Q (.ref l) H')
inductive uD
 |mk (a:AE)(xs:M3 V)(ps:M3 (Int×Int))(_:vs=[.ref a])(_:SqL K H a xs)(_:PL H xs ps)(_:⇑xs<64)(_:∀(r:AE)(H':Hp)(ys:M3 V)(R:M3 (Int×Int)),aq H H'→H r=MP→H' r=MO (.lst ys)→PL H' ys R→kO R ps→⇑ys≤⇑xs→Q (.ref r) H')
inductive uE
 |mk (a b:AE)(xs ys:M3 V)(A B:M3 (Int×Int))(_:vs=[.ref a,.ref b])(_:SqL K H a xs)(_:SqL K H b ys)(_:PL H xs A)(_:PL H ys B)(_:Apart A)(_:Apart B)(_:⇑xs+⇑ys≤900)(_:∀(r:AE)(H':Hp)(zs:M3 V)(R:M3 (Int×Int)),aq H H'→H r=MP→H' r=MO (.lst zs)→PL H' zs R→Apart R→(∀n,inP R n=(inP A n && inP B n))→⇑zs≤⇑xs+⇑ys→Q (.ref r) H')
inductive uF
 |mk (a:AE)(xs:M3 V)(T:M3 (Int×Int))(lo hi:Int)(_:vs=[.ref a,.int lo,.int hi])(_:SqL K H a xs)(_:PL H xs T)(_:Apart T)(_:⇑xs≤450)(_:∀(r:AE)(H':Hp)(zs:M3 V)(F:M3 (Int×Int)),aq H H'→H r=MP→H' r=MO (.lst zs)→PL H' zs F→Apart F→(∀n,inP F n=(MS (lo≤n) && decide (n≤hi) && !inP T n))→⇑zs≤⇑xs+1→Q (.ref r) H')
inductive lH
 |mk (d l:AE)(zs:M3 Str)(ts:M3 V)(ps:Prs)(_:vs=[.ref d,.ref l])(_:my Y.s H d zs)(_:⇑zs≤40)(_:H l=MO (.lst ts))(_:PL H ts ps)(_:⇑ps≤2)(_:∀(w:AE)(H':Hp),aq H H'→H' w=MO (.lst<|(ps.map<|rT zs).flatten.map OT)→Q (.ref w) H')
inductive dD
 |mk (p r:AE)(xs ys:M3 V)(_:vs=[.ref p,.ref r])(_:SqL K H p xs)(_:SqL K H r ys)(_:1≤⇑xs)(_:⇑xs≤4)(_:⇑ys≤200)(_:Q .non H)
inductive nh
 |mk (cl:AE)(xs:M3 V)(w:Rw)(_:vs=[.ref cl,.int w.2])(_:H cl=MO (.lst xs))(_:CL NT H xs w.1)(_:⇑w.1≤100)(_:∀(r:AE)(H':Hp),aq H H'→H r=MP→iR (λa=>H a=MP) H' r w→Q (.ref r) H')
inductive rD
 |mk (p:AE)(a b c:Str)(_:vs=[.ref p])(_:H p=MO (.tup [.str a,.str b,.str c]))(_:⇑b≤AY)(_:⇑b≠0)(_:Q (.ref p) H)
inductive dj
 |mk (fa da:AE)(fv dv:M3 V)(ds:M3 Dw)(zs:M3 Str)(_:vs=[.ref fa,.ref da])(_:H fa=MO (.lst fv))(_:H da=MO (.lst dv))(_:⇑fv≤20)(_:⇑dv≤30)(_:ak dv ds (DrG Y.v H))(_:(∀d∈ds,BN zs d))(_:Q .non H)
inductive gh
 |mk (x na:AE)(d:Dw)(zs:M3 Str)(_:vs=[.ref x,.ref na])(_:DrG Y.v H x d)(_:BN zs d)(_:H na=MO (.lst<|zs.map OT))(_:⇑zs≤100)(_:∀H',aq H H'→Q .non H')
inductive gG
 |mk (x:AE)(d:Dw)(zs:M3 Str)(_:vs=[.ref x])(_:DrG Y.v H x d)(_:BN zs d)(_:Q .non H)
inductive mn
 |mk (a:AE)(ns:M3 Int)(k:Int)(_:vs=[.ref a,.int k])(_:SqL K H a (ns.map pi))(_:0≤k)(_:∀r:Int,Q (.int r) H)
inductive iC
 |mk (c:Int)(n:Nat)(_:vs=[.int c,.int (n:Int)])(_:n≤40)(_:∀(l:AE)(H':Hp),aq H H'→H l=MP→H' l=MO (.lst<|(lws c n).map OT)→Q (.ref l) H')
inductive lI
 |mk (r:AE)(p:PD)(c:Int)(_:vs=[.ref r,.int c])(_:PDA NT H r p)(_:iS p)(_:∀(l:AE)(xs:M3 Int)(H':Hp),aq H H'→H l=MP→H' l=MO (.lst<|xs.map pi)→⇑xs=3→(∀x∈xs,p.lo≤x∧x≤p.hi)→Q (.ref l) H')
inductive kc
 |mk (kd one two:Int)(r:AE)(p:PD)(_:vs=[.int kd,.int one,.int two,.ref r])(_:PDA NT H r p)(_:p.lo≤one)(_:one≤two)(_:two≤p.hi)(_:∀(l:AE)(ps:Prs)(H':Hp),aq H H'→SpA (λa=>H a=MP) H' l ps→(∀x∈ps,p.lo≤x.1∧x.1≤x.2∧x.2≤p.hi)→⇑ps≤2→Apart ps→Q (.ref l) H')
inductive dR
 |mk (r:AE)(p:PD)(_:vs=[.ref r])(_:PDA NT H r p)(_:iS p)(_:Q (.str<|dh p.k) H)
inductive gH
 |mk (r t:AE)(p:PD)(x:Pr)(_:vs=[.ref r,.ref t])(_:PDA NT H r p)(_:iS p)(_:H t=MO (.tup [.int x.1,.int x.2]))(_:EW p.k x)(_:∀H',aq H H'→Q (.str<|qT p.k x) H')
inductive ke
 |mk (r:AE)(p:PD)(c:Int)(_:vs=[.ref r,.int c])(_:PDA NT H r p)(_:iS p)(_:p.lo≤c)(_:c≤p.hi)(_:Q (.str<|oq p.k c) H)
inductive dS
 |mk (x r:AE)(k:Dk)(p:PD)(_:vs=[.ref x,.ref r])(_:cS Y.r Y.s H x k)(_:PDA NT H r p)(_:k=p.k)(_:Q (.bl MQ) H)
inductive cI
 |mk (a:AE)(zs:M3 Str)(b:Pr)(_:vs=[.ref a])(_:my Y.s H a zs)(_:Good zs)(_:Q (.str<|dh (MO zs,b)) H)
inductive cJ
 |mk (a:AE)(c:Int)(_:vs=[.ref a,.int c])(_:Q (.int c) H)
inductive dE
 |mk (a:AE)(zs:M3 Str)(c:Int)(z:Str)(_:vs=[.ref a,.int c])(_:my Y.s H a zs)(_:0≤c)(_:zs[c.toNat]?=MO z)(_:Q (.str z) H)
inductive bL
 |mk (a:AE)(lo hi:Int)(_:vs=[.ref a])(_:hU Y.r H a lo hi)(_:∀(l t:AE)(H':Hp),aq H H'→H l=MP→H' l=MO (.lst [.ref t])→H' t=MO (.tup [.int lo,.int hi])→Q (.ref l) H')
inductive b5
 |mk (a:AE)(zs:M3 Str)(_:vs=[.ref a])(_:my Y.s H a zs)(_:∀(l t:AE)(H':Hp),aq H H'→H l=MP→H' l=MO (.lst [.ref t])→H' t=MO (.tup [.int 0,.int (hiW zs)])→Q (.ref l) H')
inductive dF
 |mk (x dx cl:AE)(n d w:Str)(_:vs=[.ref x,.str n,.ref cl,.str d,.str w])(_:H x=MO (.ins Y.v dx []))(_:∀(l:AE)(H':Hp),H l=MP→H' l=MO (.lst [])→H' x=MO (.ins Y.v dx [("name",.str n),("columns",.ref cl),("domain",.str d),("way",.str w),("rows",.ref l)])→(∀b o,b≠x→H b=MO o→H' b=MO o)→Q .non H')
inductive ee
 |mk (x dx:AE)(z:Str)(_:vs=[.ref x,.str z])(_:H x=MO (.ins Y.k dx []))(_:Q .non (upd H x<|.ins Y.k dx [("called",.str z)]))
inductive fg
 |mk (x dx:AE)(z:Str)(_:vs=[.ref x,.str z])(_:H x=MO (.ins Y.l dx []))(_:Q .non (upd H x<|.ins Y.l dx [("called",.str z)]))
inductive fh
 |mk (x dx:AE)(z:Str)(_:vs=[.ref x,.str z])(_:H x=MO (.ins Y.m dx []))(_:Q .non (upd H x<|.ins Y.m dx [("called",.str z)]))
inductive fF
 |mk (x dx:AE)(z:Str)(_:vs=[.ref x,.str z])(_:H x=MO (.ins Y.n dx []))(_:Q .non (upd H x<|.ins Y.n dx [("called",.str z)]))
inductive fi
 |mk (x dx:AE)(z:Str)(_:vs=[.ref x,.str z])(_:H x=MO (.ins Y.o dx []))(_:Q .non (upd H x<|.ins Y.o dx [("called",.str z)]))
inductive fG
 |mk (x dx:AE)(z:Str)(_:vs=[.ref x,.str z])(_:H x=MO (.ins Y.p dx []))(_:Q .non (upd H x<|.ins Y.p dx [("called",.str z)]))
inductive cm
 |mk (a:AE)(v:V)(_:vs=[.ref a,v])(_:Q v H)
inductive cX
 |mk (a:AE)(zs:M3 Str)(z:Str)(j:Nat)(_:vs=[.ref a,.str z])(_:my Y.s H a zs)(_:mS zs z j)(_:Q (.int j) H)
inductive fj
 |mk (a:AE)(zs:M3 Str)(v:V)(_:vs=[.ref a,v])(_:my Y.s H a zs)(_:Pl v)(_:Q (.bl<|inW zs v) H)
inductive dq
 |mk (x dx:AE)(lo hi:Int)(_:vs=[.ref x,.int lo,.int hi])(_:H x=MO (.ins Y.s dx []))(_:Q .non (mkd Y.s H x dx lo hi))
inductive cM
 |mk (x dx:AE)(lo hi:Int)(_:vs=[.ref x,.int lo,.int hi])(_:H x=MO (.ins Y.r dx []))(_:Q .non (mkd Y.r H x dx lo hi))
inductive gI
 |mk (z:Str)(_:vs=[.str z])(_:⇑z≤1000)(_:Q (.bl<|isw z) H)
inductive iD
 |mk (z:Str)(_:vs=[.str z])(_:⇑z≤1000)(_:Q (.bl<|isn z) H)
inductive gj(K:ac)(Y:AD)(vs:M3 V)(H:Hp)(Q:VK)(E:XK):Prop
 |mk (fa ma:AE)(fv mv:M3 V)(fs:M3 Fc)(ts:M3 BT)(_:vs=[.ref fa,.ref ma])(_:H fa=MO (.lst fv))(_:H ma=MO (.lst mv))(_:BkG Y.t Y.r Y.s H fv mv fs ts)(_:vK fs ts)(_:(xA fs ts→∀H',aq H H'→Q .non H'))(_:(¬ xA fs ts→∀H',aq H H'→E (.ref Y.h) MP H'))
inductive hV(K:ac)(Y:AD)(vs:M3 V)(H:Hp)(Q:VK)(E:XK):Prop
 |mk (ma:AE)(mv:M3 V)(ts:M3 BT)(_:vs=[.ref ma])(_:H ma=MO (.lst mv))(_:ak mv ts (TbG Y.t Y.r Y.s H))(_:⇑ts≤100)(_:(∀t∈ts,⇑t.cs≤4))(_:((xB ts∧∀H',aq H H'→Q .non H')∨(Fd ts∧∀H',aq H H'→E (.ref Y.i) MP H')))
inductive kf
 |mk (a b:AE)(xs ys:M3 V)(A B:M3 (Int×Int))(_:vs=[.ref a,.ref b])(_:SqL K H a xs)(_:SqL K H b ys)(_:PL H xs A)(_:PL H ys B)(_:Apart A)(_:Apart B)(_:⇑xs≤450)(_:⇑ys≤449)(_:∀(r:AE)(H':Hp)(zs:M3 V)(R:M3 (Int×Int)),aq H H'→H r=MP→H' r=MO (.lst zs)→PL H' zs R→Apart R→(∀n,inP R n=(inP A n && !inP B n))→⇑zs≤⇑xs+(⇑ys+1)→Q (.ref r) H')
inductive js
 |mk (d:AE)(lo hi:Int)(p:Pr)(_:vs=[.ref d,.int p.1,.int p.2])(_:hU Y.r H d lo hi)(_:bnd p.1)(_:bnd p.2)(_:Q (.str<|shN lo hi p) H)
inductive jt
 |mk (z a b c:Str)(_:vs=[.str z])(_:⇑z≤AY)(_:db z SP=(a,b,c))(_:⇑b≤AY)(_:⇑b≠0)(_:∀(t:AE)(H':Hp),aq H H'→H t=MP→H' t=MO (.tup [.str a,.str c])→Q (.ref t) H')
inductive kg
 |mk (z a b c:Str)(fs:M3 Str)(_:vs=[.str z])(_:⇑z+2≤AY)(_:db z AR=(a,b,c))(_:⇑b≤AY)(_:⇑b≠0)(_:⇑a+2≤AY)(_:jp a BR=fs)(_:∀(t l:AE)(H':Hp),aq H H'→H t=MP→H l=MP→H' t=MO (.tup [.ref l,.str c])→H' l=MO (.lst<|fs.map OT)→Q (.ref t) H')
inductive ju
 |mk (c:Int)(_:vs=[.int c])(_:∀(r:AE)(p:PD)(H':Hp),aq H H'→PDA (λa=>H a=MP) H' r p→iS p→Q (.ref r) H')
inductive ni
 |mk (cl dl pl:AE)(ow:Nat)(c:Int)(cols:M3 Nat)(dv pvs:M3 V)(ds:M3 PD)(_:vs=[.ref cl,.ref dl,.ref pl,.int (ow:Int),.int c])(_:H cl=MO (.lst<|vN cols))(_:H dl=MO (.lst dv))(_:ak dv ds (PDA NT H))(_:H pl=MO (.lst pvs))(_:ak pvs ds (PoA NT H))(_:(∀k∈cols,k<⇑ds))(_:ow<⇑ds)(_:⇑cols≤10)(_:∀(r:AE)(w:Rw)(H':Hp),aq H H'→iR (λa=>H a=MP) H' r w→uj ds cols ow w→Q (.ref r) H')
inductive kh
 |mk (r l:AE)(p:PD)(ts:M3 V)(ps:Prs)(_:vs=[.ref r,.ref l])(_:PDA NT H r p)(_:iS p)(_:H l=MO (.lst ts))(_:PL H ts ps)(_:gD p.k ps)(_:∀H',aq H H'→Q (.str<|bh p.k ps) H')
inductive lJ
 |mk (r:AE)(k:Nat)(zs:M3 Str)(ds:M3 PD)(ts:M3 PT)(fN:Nat)(t:PT)(nm:Str)(po:PD)(_:vs=[.ref r,.int (k:Int)])(_:PlA H r zs ds ts)(_:fM zs ds ts fN)(_:ts[k]?=MO t)(_:zs[fN+k]?=MO nm)(_:ds[fN+k]?=MO po)(_:∀H',aq H H'→Q (.str<|ir nm (prm t.cols zs) po.k t.way) H')
inductive gm
 |mk (x r:AE)(k:Nat)(zs:M3 Str)(ds:M3 PD)(ts:M3 PT)(fN:Nat)(t:PT)(_:vs=[.ref x,.ref r,.int (k:Int)])(_:PlA H r zs ds ts)(_:fM zs ds ts fN)(_:ts[k]?=MO t)(_:TbG Y.t Y.r Y.s H x (btP zs ds fN k t))(_:∀H',aq H H'→Q (.bl MQ) H')
inductive bU
 |mk (a:AE)(lo hi:Int)(_:vs=[.ref a])(_:hU Y.r H a lo hi)(_:bnd lo)(_:bnd hi)(_:Q (.str<|dh (MP,lo,hi)) H)
inductive bz
 |mk (a:AE)(b:Int×Int)(v:V)(_:vs=[.ref a,v])(_:ET Y.r H a b.1 b.2)(_:Pl v)(_:Q (.bl<|inB b.1 b.2 v) H)
inductive cb
 |mk (a:AE)(b:Int×Int)(v:V)(_:vs=[.ref a,v])(_:ET Y.s H a b.1 b.2)(_:Pl v)(_:Q (.bl<|inB b.1 b.2 v) H)
def  J0(K:ac)(Y:AD):Sp:=zE Y.k s!"first"
def  J4(K:ac)(Y:AD):Sp:=zE Y.l s!"only"
def  J2(K:ac)(Y:AD):Sp:=zE Y.m s!"like"
def  J3(K:ac)(Y:AD):Sp:=zE Y.n s!"low"
def  J1(K:ac)(Y:AD):Sp:=zE Y.o s!"high"
def  J5(K:ac)(Y:AD):Sp:=zE Y.p s!"sum"
inductive fk(K:ac)(Y:AD)(vs:M3 V)(H:Hp)(Q:VK)(E:XK):Prop
 |mk (a:AE)(zs:M3 Str)(v:V)(_:vs=[.ref a,v])(_:my Y.s H a zs)(_:Shw v)(_:(∀(z:Str)(j:Nat),v=.str z→mS zs z j→Q (.int j) H))(_:(inW zs v=MR→E (.ref Y.e) MP H))
inductive bO
 |mk (x dx:AE)(lo hi:Int)(_:vs=[.ref x,.int lo,.int hi])(_:H x=MO (.ins Y.r dx []))(_:lo≤hi)(_:Q .non (mkd Y.r H x dx lo hi))
inductive gn(K:ac)(Y:AD)(vs:M3 V)(H:Hp)(Q:VK)(E:XK):Prop
 |mk (z:Str)(_:vs=[.str z])(_:Sm 600 z)(_:(isn z=MQ→Q (.int<|di z) H))(_:(isn z=MR→E (.ref Y.b) MP H))
inductive eB(K:ac)(Y:AD)(vs:M3 V)(H:Hp)(Q:VK)(E:XK):Prop
 |mk (fa ma:AE)(fv mv:M3 V)(fs:M3 Fc)(ts:M3 BT)(_:vs=[.ref fa,.ref ma])(_:H fa=MO (.lst fv))(_:H ma=MO (.lst mv))(_:BkG Y.t Y.r Y.s H fv mv fs ts)(_:(vK fs ts→∀H',aq H H'→Q .non H'))(_:(¬ vK fs ts→∀H',aq H H'→E (.ref Y.g) MP H'))
inductive ki
 |mk (d l:AE)(k:Dk)(ts:M3 V)(ps:Prs)(_:vs=[.ref d,.ref l])(_:cS Y.r Y.s H d k)(_:H l=MO (.lst ts))(_:PL H ts ps)(_:gD k ps)(_:∀H',aq H H'→Q (.str<|bh k ps) H')
inductive dU
 |mk (p:AE)(zs:M3 Str)(_:vs=[.ref p])(_:SqL K H p (zs.map OT))(_:(∀z∈zs,isw z=MQ))(_:zs.Nodup)(_:⇑zs≤100)(_:∀H',aq H H'→Q .non H')
inductive jv
 |mk (dl ou cl:AE)(dv xs:M3 V)(bs:Prs)(o:Int×Int)(w:Rw)(_:vs=[.ref dl,.ref ou,.ref cl,.int w.2])(_:SqL K H dl dv)(_:ak dv bs (Dom Y.r Y.s H))(_:Dom Y.r Y.s H ou o)(_:H cl=MO (.lst xs))(_:CL NT H xs w.1)(_:pP bs o w)(_:∀H',aq H H'→Q .non H')
inductive nj
 |mk (z n m r cs t y d b w:Str)(fs:M3 Str)(_:vs=[.str z])(_:⇑z+2≤AY)(_:db z CO=(n,m,r))(_:⇑r≤AY)(_:⇑m≤AY)(_:⇑m≠0)(_:db r AR=(cs,t,y))(_:⇑y≤AY)(_:⇑t≤AY)(_:⇑t≠0)(_:rpt y BY=(d,b,w))(_:⇑b≤AY)(_:⇑b≠0)(_:⇑cs+2≤AY)(_:jp cs mk2=fs)(_:∀(x rl:AE)(H':Hp),aq H H'→H x=MP→H rl=MP→DrO Y.v H' x n fs d w rl→H' rl=MO (.lst [])→(∀dx cl,H' x=MO (.ins Y.v dx [("name",.str n),("columns",.ref cl),("domain",.str d),("way",.str w),("rows",.ref rl)])→H' cl=MO (.lst<|fs.map OT)→H cl=MP∧cl≠rl)→Q (.ref x) H')
inductive dG
 |mk (fa da:AE)(fv dv:M3 V)(fs:M3 (Str×Str))(ds:M3 Dw)(_:vs=[.ref fa,.ref da])(_:H fa=MO (.lst fv))(_:H da=MO (.lst dv))(_:⇑fs≤20)(_:⇑ds≤30)(_:ak fv fs (FpA H))(_:ak dv ds (DrG Y.v H))(_:(∀z∈fs.map (·.1)++ds.map Dw.nm,isw z=MQ))(_:(fs.map (·.1)++ds.map Dw.nm).Nodup)(_:(∀d∈ds,BN (fs.map (·.1)++ds.map Dw.nm) d))(_:∀H',aq H H'→Q .non H')
inductive kj
 |mk (t ou:AE)(nm wy:Str)(zs:M3 Str)(dv:M3 V)(rws:M3 Rw)(p:PD)(_:vs=[.ref t])(_:TF Y.t H t nm wy ou zs dv rws)(_:cS Y.r Y.s H ou p.k)(_:iS p)(_:⇑nm≤12)(_:⇑wy≤12)(_:(∀z∈zs,⇑z≤12))(_:⇑zs≤4)(_:Q (.str<|ir nm zs p.k wy) H)
inductive lK
 |mk (a:AE)(ns:M3 Int)(_:vs=[.ref a])(_:SqL K H a (ns.map pi))(_:∀(r:AE)(zs:M3 Str)(ds:M3 PD)(ts:M3 PT)(fN:Nat)(H':Hp),aq H H'→PlA H' r zs ds ts→fM zs ds ts fN→1≤fN→(∀z∈zs,∀y∈zs,⇑z=⇑y)→(∀z∈zs,SmB z)→(∀z∈zs,LtM z)→2≤⇑zs→Q (.ref r) H')
inductive lL
 |mk (r ro:AE)(k:Nat)(zs:M3 Str)(ds:M3 PD)(ts:M3 PT)(fN:Nat)(t:PT)(po:PD)(w:Rw)(_:vs=[.ref r,.int (k:Int),.ref ro])(_:PlA H r zs ds ts)(_:fM zs ds ts fN)(_:ts[k]?=MO t)(_:ds[fN+k]?=MO po)(_:iR NT H ro w)(_:w∈t.rows)(_:∀H',aq H H'→Q (.str<|o7 (prm t.cols<|ds.map PD.k) w po.k) H')
inductive gJ
 |mk (x r ol:AE)(zs:M3 Str)(ds:M3 PD)(ts:M3 PT)(fN:Nat)(os:M3 Nat)(_:vs=[.ref x,.ref r,.ref ol])(_:PlA H r zs ds ts)(_:fM zs ds ts fN)(_:H ol=MO (.lst<|vN os))(_:(∀k∈os,k<⇑ts))(_:⇑os≤10)(_:BkO Y.u Y.t Y.r Y.s H x (fsP zs ds fN) (prm os<|tsP zs ds ts fN))(_:∀H',aq H H'→Q (.bl MQ) H')
inductive dH
 |mk (a:AE)(lo hi c:Int)(_:vs=[.ref a,.int c])(_:hU Y.r H a lo hi)(_:lo≤c)(_:c≤hi)(_:Q (.int c) H)
inductive eG
 |mk (a:AE)(zs:M3 Str)(c:Int)(z:Str)(_:vs=[.ref a,.int c])(_:my Y.s H a zs)(_:0≤c)(_:zs[c.toNat]?=MO z)(_:Q (.str z) H)
inductive dr
 |mk (a:AE)(lo hi:Int)(v:V)(_:vs=[.ref a,v])(_:hU Y.r H a lo hi)(_:Pl v)(_:Q (.bl<|inB lo hi v) H)
inductive cA
 |mk (x dx p:AE)(zs:M3 Str)(_:vs=[.ref x,.ref p])(_:H x=MO (.ins Y.s dx []))(_:H p=MO (.lst<|zs.map OT))(_:Good zs)(_:∀(H':Hp)(l:AE),(∀b o,b≠x→H b=MO o→H' b=MO o)→H' x=MO (.ins Y.s dx [("low",.int 0),("high",.int<|hiW zs),("words",.ref l)])→H' l=MO (.lst<|zs.map OT)→H l=MP→Q .non H')
inductive ie
 |mk (z a b:Str)(_:vs=[.str z])(_:⇑z≤1000)(_:db z bD=(a,bD,b))(_:Sm 600 a)(_:Sm 600 b)(_:isn a=MQ)(_:isn b=MQ)(_:di a≤di b)(_:∀(x:AE)(H':Hp),aq H H'→H x=MP→hU Y.r H' x (di a) (di b)→Q (.ref x) H')
inductive jw
 |mk (d:AE)(c:Int)(z:Str)(_:vs=[.ref d,.int c])(_:DN Y.r Y.s H d c z)(_:Q (.str z) H)
inductive pk
 |mk (z:Str)(_:vs=[.str z])(_:z∈six)(_:(∀i:Nat,six[i]?=MO z→∀(x C:AE)(H':Hp),aq H H'→(cl6 Y.k Y.l Y.m Y.n Y.o Y.p)[i]?=MO C→WyN C H' x z→Q (.ref x) H'))
inductive km
 |mk (fa da:AE)(z:Str)(fs:M3 (Str×Str))(ds:M3 (Dw×AE))(ln:Ln)(_:vs=[.str z,.ref fa,.ref da])(_:LI Y.v fa da H fs ds)(_:⇑z≤10000)(_:⇑fs≤1000)(_:⇑ds≤1000)(_:(∀d∈ds,⇑d.1.rws≤1000))(_:zP z ln)(_:((∃f v,ln=.row f v)→ds≠[]))(_:∀(H':Hp)(ds':M3 (Dw×AE)),(ap (fs,ds.map (·.1)) ln).2=ds'.map (·.1)→LI Y.v fa da H' (ap (fs,ds.map (·.1)) ln).1 ds'→(∀b o,b ∉ mtA fa da ds→H b=MO o→H' b=MO o∧b ∉ mtA fa da ds')→Q .non H')
inductive gq
 |mk (x ou:AE)(d:Dw)(k:Dm)(_:vs=[.ref x,.ref ou])(_:DrG Y.v H x d)(_:jn Y.r Y.s H ou k)(_:(∀p,k=.inl p→∀r∈d.rws,Sm 600 r.2∧isn r.2=MQ))(_:Q .non H)
inductive iW
 |mk (dl cl:AE)(dv cv:M3 V)(ks:M3 Dk)(pss:M3 Prs)(_:vs=[.ref dl,.ref cl])(_:H dl=MO (.lst dv))(_:ak dv ks (cS Y.r Y.s H))(_:H cl=MO (.lst cv))(_:CL NT H cv pss)(_:⇑ks=⇑pss)(_:⇑pss≤6)(_:(∀(j:Nat)(k:Dk)(ps:Prs),ks[j]?=MO k→pss[j]?=MO ps→gD k ps))(_:∀H',aq H H'→Q (.str<|io (ofS " | ")<|lc bh ks pss) H')
inductive kn
 |mk (r ol:AE)(zs:M3 Str)(ds:M3 PD)(ts:M3 PT)(fN:Nat)(os:M3 Nat)(fcs:M3 Fc)(bts:M3 BT)(_:vs=[.ref r,.ref ol])(_:PlA H r zs ds ts)(_:fM zs ds ts fN)(_:H ol=MO (.lst<|vN os))(_:(∀k∈os,k<⇑ts))(_:⇑os≤10)(_:fcs=fsP zs ds fN)(_:bts=prm os (tsP zs ds ts fN))(_:∀(l:AE)(H':Hp),aq H H'→H l=MP→H' l=MO (.lst<|(dt fcs bts).map OT)→Q (.ref l) H')
inductive cR(K:ac)(Y:AD)(vs:M3 V)(H:Hp)(Q:VK)(E:XK):Prop
 |mk (x dx fa ma:AE)(fv mv:M3 V)(fs:M3 Fc)(ts:M3 BT)(_:vs=[.ref x,.ref fa,.ref ma])(_:H x=MO (.ins Y.u dx []))(_:H fa=MO (.lst fv))(_:H ma=MO (.lst mv))(_:BkG Y.t Y.r Y.s H fv mv fs ts)(_:((¬ (⇑fs≤20∧⇑ts≤30)∧∀H',aq H H'→E (.ref Y.f) MP H')∨((⇑fs≤20∧⇑ts≤30)∧((¬ vK fs ts∧∀H',aq H H'→E (.ref Y.g) MP H')∨(vK fs ts∧((¬ xA fs ts∧∀H',aq H H'→E (.ref Y.h) MP H')∨(xA fs ts∧((Fd ts∧∀H',aq H H'→E (.ref Y.i) MP H')∨(xB ts∧∀(H':Hp)(fl:M3 (Str×V))(ta fc:AE)(fw:M3 V),(∀b o,b≠x→H b=MO o→H' b=MO o)→H' x=MO (.ins Y.u dx fl)→fl.lookup s!"tables"=↑ta→fl.lookup s!"facts"=↑fc→H ta=MP→H fc=MP→H' ta=MO (.lst mv)→H' fc=MO (.lst fw)→ak fw fs (λp f=>∃d:AE,H' p=MO (.tup [.str f.1,.ref d])∧cS Y.r Y.s H d f.2)→Q .non H')))))))))
inductive dW(K:ac)(Y:AD)(vs:M3 V)(H:Hp)(Q:VK)(E:XK):Prop
 |mk (a:AE)(lo hi:Int)(v:V)(_:vs=[.ref a,v])(_:hU Y.r H a lo hi)(_:Shw v)(_:(inB lo hi v=MQ→Q v H))(_:(inB lo hi v=MR→E (.ref Y.e) MP H))
inductive iX
 |mk (z:Str)(d:Dm)(_:vs=[.str z])(_:⇑z≤1000)(_:(match d with
 | .inl p=>inD z=MQ∧∃a b,db z bD=(a,bD,b)∧Sm 600 a∧Sm 600 b∧isn a=MQ∧isn b=MQ∧di a≤di b∧p=(di a,di b)
 | .inr zs=>inD z=MR∧jp z mk2=zs∧Good zs)) (_:∀(x:AE)(H':Hp),aq H H'→H x=MP→jn Y.r Y.s H' x d→Q (.ref x) H'):iX K Y vs H Q e_
inductive gN(K:ac)(Y:AD)(vs:M3 V)(H:Hp)(Q:VK)(E:XK):Prop
 |mk (d:AE)(z:Str)(_:vs=[.ref d,.str z])(_:Sm 600 z)(_:((∃lo hi,hU Y.r H d lo hi∧(isn z=MQ→bnd (di z))∧(isn z=MQ→inB lo hi (.int<|di z)=MQ→Q (.int<|di z) H)∧(isn z=MQ→inB lo hi (.int<|di z)=MR→E (.ref Y.e) MP H)∧(isn z=MR→E (.ref Y.b) MP H))∨∃zs:M3 Str,my Y.s H d zs∧(∀j:Nat,mS zs z j→Q (.int j) H)∧(inW zs (.str z)=MR→E (.ref Y.e) MP H)))
inductive gO
 |mk (z:Str)(ou:AE)(_:vs=[.str z,.ref ou])(_:z∈six)(_:(z=s!"sum" → ∃dx fs,H ou=MO (.ins Y.r dx fs))) (_:∀H',aq H H'→Q .non H')
inductive lM
 |mk (t ou:AE)(j:Nat)(nm wy:Str)(zs:M3 Str)(dv:M3 V)(rws:M3 Rw)(w:Rw)(ks:M3 Dk)(p:PD)(_:vs=[.ref t,.int (j:Int)])(_:TF Y.t H t nm wy ou zs dv rws)(_:rws[j]?=MO w)(_:ak dv ks (cS Y.r Y.s H))(_:cS Y.r Y.s H ou p.k)(_:iS p)(_:p.lo≤w.2)(_:w.2≤p.hi)(_:⇑ks=⇑w.1)(_:⇑w.1≤6)(_:(∀(j:Nat)(k:Dk)(ps:Prs),ks[j]?=MO k→w.1[j]?=MO ps→gD k ps))(_:∀H',aq H H'→Q (.str<|o7 ks w p.k) H')
inductive je
 |mk (r:AE)(p:PD)(_:vs=[.ref r])(_:PDA NT H r p)(_:iS p)(_:∀(a:AE)(H':Hp),aq H H'→kR (λx=>H x=MP) Y.r Y.s H' a p.k→Q (.ref a) H')
inductive fR(K:ac)(Y:AD)(vs:M3 V)(H:Hp)(Q:VK)(E:XK):Prop
 |mk (a:AE)(d:Dm)(z:Str)(_:vs=[.ref a,.str z])(_:jn Y.r Y.s H a d)(_:Sm 600 z)(_:(∀c,codeOf d z=MO c→Q (.int c) H))(_:(codeOf d z=MP→∀(H':Hp)(m:Option AE),aq H H'→E (.ref Y.d) m H'))
inductive lN
 |mk (x ou:AE)(d:Dw)(k:Dm)(cs:M3 Int)(_:vs=[.ref x,.ref ou])(_:DrG Y.v H x d)(_:jn Y.r Y.s H ou k)(_:⇑d.rws≤200)(_:⇑cs=⇑d.rws)(_:(∀(j:Nat) r,d.rws[j]?=MO r→∃c,cs[j]?=MO c∧Sm 600 r.2∧bnd c∧codeOf k r.2=MO c))(_:∀(l:AE)(H':Hp),aq H H'→H l=MP→H' l=MO (.lst<|cs.map pi)→Q (.ref l) H')
inductive kq
 |mk (x:AE)(fcs:M3 Fc)(bts:M3 BT)(_:vs=[.ref x])(_:BkO Y.u Y.t Y.r Y.s H x fcs bts)(_:BOk fcs bts)(_:⇑(dt fcs bts)≤1407)(_:∀H',aq H H'→Q (.str<|io NL<|dt fcs bts) H')
inductive kr
 |mk (r:AE)(zs:M3 Str)(ds:M3 PD)(ts:M3 PT)(fN:Nat)(_:vs=[.ref r])(_:PlA H r zs ds ts)(_:fM zs ds ts fN)(_:∀(l:AE)(fv:M3 V)(H':Hp),aq H H'→H' l=MO (.lst fv)→ak fv (gl fN) (FcA Y.r Y.s H' zs ds)→Q (.ref l) H')
inductive cC
 |mk (x dx na dl ou rl:AE)(nm wy:Str)(zs:M3 Str)(dv rx:M3 V)(bs:Prs)(o:Int×Int)(rws:M3 Rw)(_:vs=[.ref x,.str nm,.ref na,.ref dl,.ref ou,.str wy,.ref rl])(_:H x=MO (.ins Y.t dx []))(_:H na=MO (.lst<|zs.map OT))(_:(∀z∈nm :: zs,isw z=MQ))(_:(nm :: zs).Nodup)(_:1≤⇑zs)(_:⇑zs≤4)(_:wy∈six)(_:(wy=s!"sum" → ∃dx fs,H ou=MO (.ins Y.r dx fs))) (_:H dl=MO (.lst dv))(_:ak dv bs (Dom Y.r Y.s H))(_:Dom Y.r Y.s H ou o)(_:H rl=MO (.lst rx))(_:RL NT H rx rws)(_:⇑rx≤200)(_:⇑bs≤4)(_:(∀w∈rws,pP bs o w))(_:∀(H':Hp)(fs:M3 (Str×V))(rl':AE)(xs':M3 V),(∀b o,b≠x→H b=MO o→H' b=MO o)→H' x=MO (.ins Y.t dx fs)→fs.lookup s!"rows"=↑rl'→fs.lookup s!"way"=MO (.str wy)→fs.lookup s!"outcome"=↑ou→fs.lookup s!"name"=MO (.str nm)→(∃na' dl':AE,H na'=MP∧H dl'=MP∧fs.lookup s!"names"=↑na'∧fs.lookup s!"domains"=↑dl'∧H' na'=MO (.lst<|zs.map OT)∧H' dl'=MO (.lst dv))→H rl'=MP→H' rl'=MO (.lst xs')→RL (λa=>H a=MP) H' xs' rws→Q .non H')
inductive jx(K:ac)(Y:AD)(vs:M3 V)(H:Hp)(Q:VK)(E:XK):Prop
 |mk (a:AE)(p:Int×Int)(z:Str)(_:vs=[.ref a,.str z])(_:hU Y.r H a p.1 p.2)(_:Sm 600 z)(_:inD z=MQ)(_:(∀r,gg p z=MO r→∀(t:AE)(H':Hp),aq H H'→H' t=MO (.tup [.int r.1,.int r.2])→Q (.ref t) H'))(_:(gg p z=MP→∀(H':Hp)(m:Option AE),aq H H'→E (.ref Y.d) m H'))
inductive ku(K:ac)(Y:AD)(vs:M3 V)(H:Hp)(Q:VK)(E:XK):Prop
 |mk (a:AE)(d:Dm)(z:Str)(_:vs=[.ref a,.str z])(_:jn Y.r Y.s H a d)(_:Sm 600 z)(_:(∀r,cV d z=MO r→∀(t:AE)(H':Hp),aq H H'→H' t=MO (.tup [.int r.1,.int r.2])→Q (.ref t) H'))(_:(cV d z=MP→∀(H':Hp)(m:Option AE),aq H H'→E (.ref Y.d) m H'))
inductive jy
 |mk (x da rl:AE)(d:Dw)(dom:Str→Option Dm)(rx:M3 V)(rws:M3 Rw)(ks:M3 Dk)(ko:Dm)(_:vs=[.ref x,.ref da,.ref rl])(_:DrG Y.v H x d)(_:DcD Y.r Y.s H da dom)(_:(∀z zs,dom z=MO (.inr zs)→Good zs))(_:(∀z∈d.nm :: d.cs,isw z=MQ))(_:(d.nm :: d.cs).Nodup)(_:1≤⇑d.cs)(_:⇑d.cs≤4)(_:d.wy∈six)(_:(d.wy=s!"sum" → ∃p,ko=.inl p)) (_:dom d.nm=MO ko)(_:⇑ks=⇑d.cs)(_:(∀(j:Nat) c,d.cs[j]?=MO c→∃k,dom c=MO k∧ks[j]?=MO (dkm k)))(_:H rl=MO (.lst rx))(_:RL NT H rx rws)(_:⇑rx≤200)(_:(∀w∈rws,pP (ks.map (·.2)) (dkm ko).2 w))(_:∀(t:AE)(H':Hp),aq H H'→H t=MP→TbW Y.t Y.r Y.s H H' t (d.nm,d.cs,ks,dkm ko,d.wy,rws,)→Q (.ref t) H')
inductive kx
 |mk (r:AE)(k:Nat)(zs:M3 Str)(ds:M3 PD)(ts:M3 PT)(fN:Nat)(t:PT)(nm:Str)(po:PD)(_:vs=[.ref r,.int (k:Int)])(_:PlA H r zs ds ts)(_:fM zs ds ts fN)(_:ts[k]?=MO t)(_:zs[fN+k]?=MO nm)(_:ds[fN+k]?=MO po)(_:∀(x:AE)(H':Hp),aq H H'→TbN (λa=>H a=MP) Y.t Y.r Y.s H' zs ds ts fN x k→Q (.ref x) H')
inductive lO(K:ac)(Y:AD)(vs:M3 V)(H:Hp)(Q:VK)(E:XK):Prop
 |mk (a:AE)(d:Dm)(z:Str)(_:vs=[.ref a,.str z])(_:jn Y.r Y.s H a d)(_:(fT d).1≤(fT d).2)(_:⇑z+2≤AY)(_:(∀y∈jp z mk2,Sm 600 y))(_:⇑(jp z mk2)<64)(_:(∀ps,partsOf d z=MO ps→∀(l:AE)(H':Hp)(ys:M3 V)(R:Prs),aq H H'→H l=MP→H' l=MO (.lst ys)→PL H' ys R→Apart R→(∀n,inP R n=inP ps n)→⇑ys≤64→Q (.ref l) H'))(_:(partsOf d z=MP→∀(H':Hp)(m:Option AE),aq H H'→E (.ref Y.d) m H'))
inductive ky(K:ac)(Y:AD)(vs:M3 V)(H:Hp)(Q:VK)(E:XK):Prop
 |mk (a:AE)(d:Dm)(z y:Str)(b:Bool)(_:vs=[.ref a,.str z])(_:jn Y.r Y.s H a d)(_:(fT d).1≤(fT d).2)(_:⇑z+2≤AY)(_:li z s!"not "=b) (_:y=(if b=MQ then GE z (MO 4) MP else z))(_:⇑y+2≤AY)(_:(∀u∈jp y mk2,Sm 600 u))(_:⇑(jp y mk2)<64)(_:(∀ps,partsOf d y=MO ps→∀(l:AE)(H':Hp)(ys:M3 V)(R:Prs),aq H H'→H l=MP→H' l=MO (.lst ys)→PL H' ys R→Apart R→(∀n,inP R n=if b=MQ then(inR n (fT d) && !inP ps n)else inP ps n)→⇑ys≤66→Q (.ref l) H'))(_:(partsOf d y=MP→∀(H':Hp)(m:Option AE),aq H H'→E (.ref Y.d) m H'))
inductive kz
 |mk (x da fl:AE)(d:Dw)(dom:Str→Option Dm)(fs:M3 Str)(css:M3 Prs)(_:vs=[.ref x,.ref da,.ref fl])(_:DrG Y.v H x d)(_:DcD Y.r Y.s H da dom)(_:H fl=MO (.lst<|fs.map OT))(_:⇑d.cs≤4)(_:⇑fs=⇑d.cs)(_:⇑css=⇑d.cs)(_:(∀(j:Nat) c f,d.cs[j]?=MO c→fs[j]?=MO f→∃k R,dom c=MO k∧css[j]?=MO R∧RdC k f R))(_:∀(l:AE)(H':Hp)(xs:M3 V),aq H H'→H l=MP→H' l=MO (.lst xs)→CL (λa=>H a=MP) H' xs css→Q (.ref l) H')
inductive lP
 |mk (x da:AE)(d:Dw)(dom:Str→Option Dm)(cc:M3 (M3 Prs))(_:vs=[.ref x,.ref da])(_:DrG Y.v H x d)(_:DcD Y.r Y.s H da dom)(_:⇑d.cs≤4)(_:⇑d.rws≤200)(_:⇑cc=⇑d.rws)(_:(∀(i:Nat) r,d.rws[i]?=MO r→⇑r.1=⇑d.cs∧∃css,cc[i]?=MO css∧⇑css=⇑d.cs∧∀(j:Nat) c f,d.cs[j]?=MO c→r.1[j]?=MO f→∃k R,dom c=MO k∧css[j]?=MO R∧RdC k f R))(_:∀(l:AE)(H':Hp)(xs:M3 V),aq H H'→H l=MP→H' l=MO (.lst xs)→ak xs cc (CcA (λa=>H a=MP) H')→Q (.ref l) H')
inductive kA
 |mk (z:Str)(zs:M3 Str)(lns:M3 Ln)(_:vs=[.str z])(_:(⇑z=0∧zs=[]∨⇑z≠0∧⇑z+2≤AY∧jp z NL=zs))(_:BP zs lns)(_:(∃dom ccs cds fcs bts,Fn (rdb lns).1 (rdb lns).2 dom ccs cds∧RbT (rdb lns).1 (rdb lns).2 dom ccs cds fcs bts∧∀(x:AE)(H':Hp),aq H H'→H x=MP→BkO Y.u Y.t Y.r Y.s H' x fcs bts→Q (.ref x) H'))
def  J6(K:ac):Sp:=λc H Q _=>∃(a:AE)(b:M3 Int),c=[.ref a]∧SqL K H a (b.map pi)∧⇑b≤63∧∀d,Q (.bl MQ) d
section
variable{P:An}{w:zZ}{K:ac}{mg:Str→Option zY}{base:AU}{f:AE}{fd:Le}{Y:AD}
set_option hygiene false in
local macro_rules|`(⟨⟩)=>`(Callee P w K mg base)
set_option hygiene false in
local macro_rules|`(())=>`(aU P w K mg base CX0)
def Im(F:Fun K "all_among" "all_among" Y36 f fd)(bl:Bl K mg Y):() 1 f fd ["text","signs"] (iB K Y):=by
 refine F.okA Z36 λr A m s H t Q E u h=>?_
 let(z,g,rfl,q):=h
 refine(_,(ao (bB tz U (Et<|pv 0) (aC (i:=2) Z36.nd U<|bv U)
  (ag (aT (aJ tT (pv 2) (pv 1) (by with_unfolding_all rfl))
  (ag<|aE kN)
  aG)))
  (ag<|aE kN)),?_,)
 dsimp only[bj,OY,OW];show(let o:TS:=_;aZ _ o _ _ _);intro _;refine(z,U,(let p:Nat→St→Hp→Prop:=λi a l=>(∃k:Option V,a=[MO (.str z),MO<|.str g,k])∧l=H∧(z.cps.toList.take i).all (sg g)=MQ;Cq p ((_,U,),U,U,) (λi c a l e h=>?_) (λa l h=>?_)),)
 .let((k,rfl),j,b):=h;rw[j];calc(_,_,U,U,_,U,?_,);refine bK (λd=>?_)<|λd=>?_
  .let n:jG z g=false:=ER e<|ES d;rw[n]at q;exact q
  .exact((_,U,),U,all_succ e (Gz d) b,)
 .let((k,rfl),j,b):=h;rw[j];rw[Bc b]at q;calc q
def Io(F:Fun K "number_text" "number_text" Y74 f fd)(bl:Bl K mg Y):() 1 f fd ["number"] (fe K Y):=by
 refine F.okA Z74 λd A a s H e Q E g h=>?_
 let(c,rfl,b,q):=h;calc(_,(ag<|aE<|bg cF U bl.str_ ss<|aa (pv 0) ae),?_,);calc(c,U,iQ b,q,)
def Ip(F:Fun K "is_whole" "is_whole" Y48 f fd)(bl:Bl K mg Y):() 1 f fd ["value"] (jd K Y):=by
 refine F.okA Z48 λd A a s H e Q E g h=>?_
 let(v,rfl,c,q):=h;calc(_,(ag<|aE<|gY (av b9 U bl.isinstance_ im<|aa (pv 0)<|aa (tR (v:=.ty "int") U bl.int_ NX U) ae)<|jU<|D3<|av b9 U bl.isinstance_ im<|aa (pv 0)<|aa (tR (v:=.ty "bool") U bl.bool_ PyProof.Rows.boot_bool U) ae),?_,);cases v with
 |non=>exact(_,_,_,_,MR,U,.ty _,.inl<|.non,(by first|rfl|with_unfolding_all rfl|decide+kernel),_,U,bI q,)
 |bl b=>exact(_,_,_,_,MQ,U,.ty _,.inl<|.bl _,(by first|rfl|with_unfolding_all rfl|decide+kernel),_,U,eU (_,_,_,_,MQ,U,.ty _,.inl<|.bl _,(by first|rfl|with_unfolding_all rfl|decide+kernel),_,U,q,),)
 |int i=>exact(_,_,_,_,MQ,U,.ty _,.inl<|.int _,(by first|rfl|with_unfolding_all rfl|decide+kernel),_,U,eU (_,_,_,_,MR,U,.ty _,.inl<|.int _,(by first|rfl|with_unfolding_all rfl|decide+kernel),_,U,q,),)
 |str z=>exact(_,_,_,_,MR,U,.ty _,.inl<|.str _,(by first|rfl|with_unfolding_all rfl|decide+kernel),_,U,bI q,)
 |_=>calc c.elim
def Iq(F:Fun K "alike" "alike" Y35 f fd)(bl:Bl K mg Y):() 1 f fd ["one","other"] (rC K Y):=by
 refine F.okA Z35 λO A o s H R Q E J h=>?_
 let(a,b,k,I,rfl,t,n,q):=h
 refine(_,(ao (aT (PW.pt<|jT (bG<|av b9 U bl.isinstance_ im<|aa (pv 0)<|aa (fu (v:=.ref Y.r) U bl.Numbers_ U) ae)<|iw<|bG<|av b9 U bl.isinstance_ im<|aa (pv 1)<|aa (fu (v:=.ref Y.r) U bl.Numbers_ U) ae)
  (ag<|aE<|gY (fP cU (aP (pv 0) U) (aP (pv 1) U)<|aO _)<|jU<|fP cU (aP (pv 0) U) (aP (pv 1) U)<|aO _)
  aG)
  (ao (aT (PW.pt<|jT (bG<|av b9 U bl.isinstance_ im<|aa (pv 0)<|aa (fu (v:=.ref Y.s) U bl.Words_ U) ae)<|iw<|bG<|av b9 U bl.isinstance_ im<|aa (pv 1)<|aa (fu (v:=.ref Y.s) U bl.Words_ U) ae)
  (ag<|aE<|fP (qx J) (aP (pv 0) U) (aP (pv 1) U)<|aO _)
  aG)
  (ag<|aE kN))),?_,)
 dsimp only[bj,OY,OW];show(let B:TS:=_;let C:TS:=aZ _ B;aZ _ C _ _ _);intro _ _;let(w,lo,hi):=k;let(p,i,c):=I;cases w with
 |none =>
  let(N,e):=t;calc(_,_,_,_,MQ,U,.ref _,bl.t_Numbers.ty e,bl.f_nn,_,U,eU ?_,);cases p with
  |none =>
   let(j,d):=n;calc(_,_,_,_,MQ,U,.ref _,bl.t_Numbers.ty d,bl.f_nn,_,U,eU ?_,);calc(a,_,_,_,_,U,e,bl.k_Numbers,bl.na_Numbers_low,U,b,_,_,_,_,U,d,bl.k_Numbers,bl.na_Numbers_low,U,U,_,U,?_,);by_cases g:lo=i
   .subst g;calc sY U (a,_,_,_,_,U,e,bl.k_Numbers,bl.na_Numbers_high,U,b,_,_,_,_,U,d,bl.k_Numbers,bl.na_Numbers_high,U,U,?_,);let M:decide (pi hi=pi c)=lkD (MP,lo,hi) (MP,lo,c):=by
     show _=MS ((lo,hi)=(lo,c));rw[py,M1,M1];exact(λz=>by injection z with z;rw[z],λz=>by injection z with _ z;rw[z],)
    let D:Q (.bl<|MS<|pi hi=pi c) H:=by rw[M];exact q
    exact D
   .refine bK (λu=>MW (V.int.inj<|MZ u) g)<|λu=>?_;let L:lkD (MP,lo,hi) (MP,i,c)=false:=by
     show decide ((lo,hi)=(i,c))=MR;exact MY λz=>g (by injection z)
    rw[L]at q;exact q
  |some m =>
   let((j,G,d,x),_):=n;calc(_,_,_,_,MR,U,.ref _,bl.t_Words.ty d,bl.f_wn,_,U,bI ?_,);exact(_,_,_,_,MR,U,.ref _,bl.t_Numbers.ty e,bl.f_nw,_,U,bI<|bI q,)
 |some y =>
  let((N,l,e,f),_):=t;calc(_,_,_,_,MR,U,.ref _,bl.t_Words.ty e,bl.f_wn,_,U,bI<|bI ?_,);calc(_,_,_,_,MQ,U,.ref _,bl.t_Words.ty e,bl.f_ww,_,U,eU ?_,);cases p with
  |none =>
   let(j,d):=n;exact(_,_,_,_,MR,U,.ref _,bl.t_Numbers.ty d,bl.f_nw,_,U,bI q,)
  |some m =>
   let((j,G,d,x),_):=n;calc(_,_,_,_,MQ,U,.ref _,bl.t_Words.ty d,bl.f_ww,_,U,eU ?_,);calc(a,_,_,_,_,U,e,bl.k_Words,bl.na_Words_words,U,b,_,_,_,_,U,d,bl.k_Words,bl.na_Words_words,U,?_,);calc tF (OU f) (OU x) (by show decide (y=m)=MQ↔_;rw[M1]) q
def Ir(F:Fun K "refuse_counts" "refuse_counts" Y85 f fd)(bl:Bl K mg Y)  : aU P w K mg base (CX1 P w) 1 f fd ["facts","tables"] (dQ K Y):=by
 refine F.okEA Z85 λo A c s H p Q E e h=>?_
 let(l,j,t,r,rfl,n,m,q,d):=h
 refine(_,(ao (aT (aJ gP (av au U bl.len_ MN<|aa (pv 0) ae) (bA U bl.MOST_FACTS_)<|aO _)
  (ag<|dc bl.x_TooMany e.hd U bl.TooMany_<|aa aV ae)
  aG)
  (ag (aT (aJ gP (av au U bl.len_ MN<|aa (pv 1) ae) (bA U bl.MOST_TABLES_)<|aO _)
  (ag<|dc bl.x_TooMany e.hd U bl.TooMany_<|aa aV ae)
  aG))),?_,)
 dsimp only[bj,OY,OW];show(let i:TS:=_;aZ _ i _ _ _);intro _;refine(l,_,U,.inl<|OU n,_,_,U,U,_,U,bK (λg=>?_)<|λg=>?_,)
 .let k:=fZ g;exact((by show 1≤AY;decide),d ∅,)
 let k:=ip g;refine(j,_,U,.inl<|OU m,_,_,U,U,_,U,bK (λa=>?_)<|λa=>?_,)
 .let b:=fZ a;exact((by show 1≤AY;decide),d ∅,)
 .let b:=ip a;calc q ∅
def Iu(F:Fun K "named_among" "named_among" Y72 f fd)(bl:Bl K mg Y):() 1 f fd ["table","names"] (iV K Y):=by
 refine F.okA Z72 λL A p s H O Q E W h=>?_
 let(t,r,S,nm,M,zs,a,dv,C,rfl,(R,dx,m,dl,fs,xs,u,f1,f2,f3,f4,v,Z,k,J,I,X,T),o,Iv,q):=h;refine(_,(ag<|aE<|bZ (aR<|aP (pv 0) U) (bc (N:=["name","names"]) (fr:=[1]) (cl:=[("names",↥s+1)]) U U (~~~0) (~~~0) U (~~~0) U U U (eN.mpr (U,fW _,)) U) U (λ_ _ _ _=>(tY<|aJ (xt (K:=K) U) (pv 0) (pv 1) (by with_unfolding_all rfl))) (λ_ _ _ _=>(pv 0))),?_,);let n:⇑(zs.map OT)=⇑zs:=bQ _;refine(t,_,_,_,_,U,u,bl.k_Table,bl.na_Table_names,v,m,U,(_,OU k,),(let B:AE→Nat→M3 V→Hp→Prop:=λD i d c=>aq H c∧c D=MO (.lst d)∧d=((zs.take i).filter λz=>a.contains z).map OT;bC (xs:=zs.map OT) B (λD b=>(ah b _,af,U,)) (λD i d c b _ h=>OU<|h.1 _ _ k) (λD i y d c b e h=>?_) (λD d c b h=>?_)),)
 .let(g,j,rfl):=h;let(z,rfl,x):=cg e;let hi:i<⇑(zs.map OT):=(KH.mp e).1;let G:⇑((zs.take i).filter λz=>a.contains z)≤i:=qu (oK ..) (by rw[eH];lia);calc(r,_,U,.inl<|OU<|g _ _ o,U,jI a,_,U,?_,);rw[show(if MR=MQ then !inV (OT z) (a.map OT)else inV (OT z) (a.map OT))=a.contains z by rw[MU cr,qX]];let l:((zs.take<|i+1).filter λz=>a.contains z)=((zs.take i).filter λz=>a.contains z)++(if a.contains z then[z] else[]):=by
   rw[take_snoc x,oJ]
   congr 1
   cases h:a.contains z with
   |true=>rw[KM h,mG];rfl
   |false=>rw[KT (by rw[h];exact cr),mG];rfl
  cases hc:a.contains z with
  |true =>
   rw[hc]at l;refine eU (b7.mk hi j (aD (by rw[bQ];lia)) (g.upd b,af,?_,));rw[l,dy];rfl
  |false =>
   rw[hc]at l;calc bI<|ly.mk (zs:=((zs.take i).filter λz=>a.contains z).map OT) hi (g,j,?_,);rw[l];simp
 .let(g,j,rfl):=h;rw[n,dY]at j;calc q D c g b j
def GK(F:Fun K "tidy" "tidy" EE f fd)(bl:Bl K mg Y):() 1 f fd ["pairs"] (uD K Y):=by
 refine F.okA CJ λa8 A a6 s H vs Q E hr h=>?_
 let(a,xs,ps,rfl,hS,hP,a5,q):=h
 refine(_,(ao (aL (i:=1) CJ.nd U (bv U)<|bP ae)
  (ao (bB tz U (aR<|av nU U bl.sorted_ PyProof.Rows.boot_sorted<|aa (pv 0) ae) (d8 U<|aI (aC (i:=2) CJ.nd U<|bv U)<|aI (aC (i:=3) CJ.nd U<|bv U) br)
  (ao (aT (aJ gP (pv 2) (pv 3)<|aO _)
  (ag u9)
  aG)
  (ag (aT (PW.pt<|jT (fH (pv 1) (by intro _;rfl)) (iw<|aJ gA (pv 2) (aH bY (az aM (az aW (pv 1) (sv oO ai)<|λ_ _=>U) ai<|λ_ _=>U) ai)<|aO _))
  (ag<|lp (bH<|aa (az aM (az aW (pv 1) (sv oO ai)<|λ_ _=>U) ai<|λ_ _=>U)<|aa (av (l7 U) U bl.max_ IN<|aa (az aM (az aW (pv 1) (sv oO ai)<|λ_ _=>U) ai<|λ_ _=>U)<|aa (pv 3) ae) ae)<|D6 (pv 1) (sv oO ai) set_list)
  (ag<|aY<|bx PySem.F.plainAttrs_list PySem.F.slot_list_append PySem.F.type_list_append bW (pv 1)<|aa (bH<|aa (pv 2)<|aa (pv 3) ae) ae)))))
  (ag<|aE<|pv 1))),?_,)
 dsimp only[bj,OY,OW];show(let r2:TS:=_;let r1:TS:=aZ _ r2;aZ _ r1 _ _ _);intro _ _;refine((by show 0≤AY;decide),λb v=>?_,);let X:aq H (upd H b<|.lst []):=ah v _;calc(a,xs,ps,U,X.seq hS,hP.mono X.tups,a5,λD z Z hD hZ DS GL=>?_,);let eD:H D=none:=X.free hD;let T:b≠D:=bF af hD;let a7:⇑z=⇑xs:=by rw[⇑hZ,DS.length_eq,←⇑hP]
 refine⟨D,U,(_,OU af,),bp (xs:=z) (λi W g=>∃(O N:Option V)(j:M3 V)(R:M3 (Int×Int)),W=[↑a,↑b,O,N]∧aq H g∧g D=MO (.lst z)∧g b=MO (.lst j)∧PL g j R∧PL g z Z∧kO R (Z.take i)∧⇑j≤i)
  (MP,MP,[],[],U,X.trans<|ah hD _,af,d9 af hD,.nil,hZ,kO.nil,rE _,)
  (λi W g _ h=>by let(_,_,_,_,_,_,e,_):=h;exact OU e) (λi x W g e h=>?_) (λW g h=>?_)⟩
 .let(O,N,j,R,rfl,L,eZ,m,I,n,y,hl):=h;let(p,r,e1,rfl,a0):=n.get e;let a2:=zD GL e1;let hi:i<⇑z:=(KH.mp e).1;calc(r,_,U,OV a0,U,_,_,U,_,_,U,U,?_,);calc(_,_,U,U,_,U,?_,);refine bK (λc=>?_)<|λc=>?_
  .let c':p.2<p.1:=fZ c;exact(_,_,j,R,U,L,eZ,m,I,n,by rw[take_snoc e1];exact y.skip c',∅,)
  let c':p.1≤p.2:=Int.not_lt.mp<|ip c
  let S:(∀r0∈R,r0.2+2≤p.1)→∀t,g t=MP→∃(O N:Option V)(B:M3 V)(R2:M3 (Int×Int)),[MO (O1 a),MO<|O1 b,MO<|pi p.1,MO (pi p.2)]=[↑a,↑b,O,N]∧aq H (upd (upd g t<|.tup [.int p.1,.int p.2]) b<|.lst<|j++[.ref t])∧upd (upd g t<|.tup [.int p.1,.int p.2]) b (.lst<|j++[.ref t]) D=MO (.lst z) ∧
    upd (upd g t<|.tup [.int p.1,.int p.2]) b (.lst<|j++[.ref t]) b=MO (.lst B)∧PL (upd (upd g t<|.tup [.int p.1,.int p.2]) b<|.lst<|j++[.ref t]) B R2∧PL (upd (upd g t<|.tup [.int p.1,.int p.2]) b<|.lst<|j++[.ref t]) z Z∧kO R2 (Z.take<|i+1)∧B.length≤i+1:=λIw t k=>by
   let J:upd g t (.tup [.int p.1,.int p.2]) b=MO (.lst j):=d9 m k;let u:il g (upd (upd g t<|.tup [.int p.1,.int p.2]) b<|.lst<|j++[.ref t]):=(iF k).trans<|cx J;refine(_,_,j++[.ref t],R++[p],U,(L.trans<|ah k _).upd v,by rw[ay T.symm];exact d9 eZ k,af,(I.mono u).snoc<|cx J _ _ af,n.mono u,by rw[take_snoc e1];exact y.add c' Iw,?_,);rw[dV,hQ];lia
  calc(!j.isEmpty,.inl (j,OU m,U,),?_,);by_cases G:j=[]
  .let hR:R=[]:=by
    let:=I.length;rw[G]at this;exact NZ this.symm
   let eE:(!j.isEmpty)=false:=by rw[G];rfl
   rw[eE];calc bI<|bI ?_;refine(.inl (U,_,OU m,),(by show 2≤AY;decide),λt k=>?_,);calc(b,j,_,U,U,d9 m k,aD ∅,?_,);exact S (by rw[hR];intro r0 h0;cases h0) t k
  .let(o,M,R',l,rfl,rfl,a4,C):=PL.last I G;let eE:(!(o++[O1 M]).isEmpty)=true:=by cases o <;> rfl
   rw[eE];calc eU ?_;calc(_,U,b,_,_,_,U,U,OU m,lr _ _,M,_,_,_,U,U,OV C,z1 _ _,_,_,U,U,_,_,U,U,_,U,?_,);refine bK (λd=>?_)<|λd=>?_
   .let d':p.1≤l.2+1:=fZ d;let a3:l.1≤p.1:=by
     let(q0,a1,e0):=y.low l (by simp);rw[e0];exact a2 q0 a1
    refine(_,U,b,_,_,_,U,U,OU m,lr _ _,M,_,_,_,U,U,OV C,z0 _ _,_,U,b,_,_,_,U,U,OU m,lr _ _,M,_,_,_,U,U,OV C,z1 _ _,_,_,U,(by show 2≤AY;decide),λt k=>?_,);let J:upd g t (.tup [.int l.1,.int (if p.2>l.2 then p.2 else l.2)]) b=MO (.lst<|o++[.ref M]):=d9 m k;refine(_,U,b,_,_,_,U,U,J,Ba (by simp),?_,);rw[Bb];let u:il g (upd (upd g t<|.tup [.int l.1,.int (if p.2>l.2 then p.2 else l.2)]) b (.lst<|o++[.ref t])):=(iF k).trans<|cx J;refine(_,_,o++[.ref t],R'++[(l.1,if p.2>l.2 then p.2 else l.2)],U,(L.trans<|ah k _).upd v,by rw[ay T.symm];exact d9 eZ k,af,(a4.mono u).snoc<|cx J _ _ af,n.mono u,?_,?_,)
    .rw[take_snoc e1];exact y.join a3 d' c' (by split <;> lia)
    .rw[dV,hQ]at hl⊢;lia
   .let d':¬ p.1≤l.2+1:=ip d;refine(.inl (U,_,OU m,),(by show 2≤AY;decide),λt k=>?_,);calc(b,_,_,U,U,d9 m k,aD ∅,?_,);exact S (y.ap.last ∅) t k
 .let(O,N,j,R,rfl,L,eZ,m,I,n,y,hl):=h;rw[⇑n,dY]at y;calc(q b g j R L v m I (y.perm DS) ∅)
def Iy(F:Fun K "both" "both" Y37 f fd)(bl:Bl K mg Y):() 1 f fd ["ones","others"] (uE K Y):=by
 refine F.okA Z37 λa8 A a5 s H vs Q E hr h=>?_
 let(a,b,M,L,y,x,rfl,hA,hB,PA,PB,aA,aB,hl,q):=h
 refine(_,(ao (aL (i:=2) Z37.nd U (bv U)<|bP ae)
  (ao (aL (i:=3) Z37.nd U (bv U) ai)
  (ao (aL (i:=4) Z37.nd U (bv U) ai)
  (ao (vc tz (PW.pt<|jT (aJ mO (pv 3) (av au U bl.len_ MN<|aa (pv 0) ae)<|aO _)<|iw<|aJ mO (pv 4) (av au U bl.len_ MN<|aa (pv 1) ae)<|aO _)
  (ao (aL (i:=5) Z37.nd U (bv U)<|az aW (pv 0) (pv 3)<|λ_ _=>U)
  (ao (aL (i:=6) Z37.nd U (bv U)<|az aW (pv 1) (pv 4)<|λ_ _=>U)
  (ao (aL (i:=7) Z37.nd U (bv U)<|av (l7 U) U bl.max_ IN<|aa (az aM (pv 5) ai<|λ_ _=>U)<|aa (az aM (pv 6) ai<|λ_ _=>U) ae)
  (ao (aL (i:=8) Z37.nd U (bv U)<|av (jC U) U bl.min_ EQ<|aa (az aM (pv 5) ai<|λ_ _=>U)<|aa (az aM (pv 6) ai<|λ_ _=>U) ae)
  (aw (aT (aJ gA (pv 7) (pv 8)<|aO _)
  (ag<|aY<|bx PySem.F.plainAttrs_list PySem.F.slot_list_append PySem.F.type_list_append bW (pv 2)<|aa (bH<|aa (pv 7)<|aa (pv 8) ae) ae)
  aG)
  (ag (aT (aJ mO (az aM (pv 5) ai<|λ_ _=>U) (az aM (pv 6) ai<|λ_ _=>U)<|aO _)
  (ag<|Af (i:=3) Z37.nd U (bv U) ai Ag)
  (ag<|Af (i:=4) Z37.nd U (bv U) ai Ag)))))))))
  (ag<|aE<|pv 2))))),?_,)
 dsimp only[bj,OY,OW];show(let r4:TS:=_;let r3:TS:=aZ _ r4;let r2:TS:=aZ _ r3;let r1:TS:=aZ _ r2;aZ _ r1 _ _ _);intro _ _ _ _;refine((by show 0≤AY;decide),λu G=>?_,);let s0:aq H (upd H u<|.lst []):=ah G _;let lA:=PA.length;let lB:=PB.length
 refine(let I_:Nat→St→Hp→Prop:=λm σ v=>∃(i j:Nat)(c5 c6 c7 c8:Option V)(r:M3 V)(S:M3 (Int×Int)),σ=[↑a,↑b,↑u,MO<|.int i,MO<|.int j,c5,c6,c7,c8]∧aq H v∧v u=MO (.lst r)∧PL v r S∧i6 S (y.drop i) (x.drop j) y x∧i≤⇑y∧j≤⇑x∧⇑r≤i+j∧m=(⇑y-i)+(⇑x-j);(I_,
  (_,0,0,MP,MP,MP,MP,[],[],U,s0,af,.nil,i6.start aA aB,rE _,rE _,rE _,U,),?_,))
 rintro m σ v ⟨i,j,c5,c6,c7,c8,r,S,rfl,B,eS,hP,N,hi,hj,hz,hm⟩;let Z:=B.seq hA;let X:=B.seq hB;let a4:=PA.mono B.tups;let a3:=PB.mono B.tups;let z:(i=⇑y∨j=⇑x)→Q (.ref u) v:=λe=>q u v r S B G eS hP N.ap (N.fin (by
  rcases e with e|e
  .exact .inl (by rw[e];exact List.drop_length)
  .exact .inr (by rw[e];exact List.drop_length))) ∅
 calc(a,_,U,.inl<|Z,_,_,U,U,_,U,?_,);refine bK (λc=>?_)<|λc=>?_
 .let ci:i<⇑y:=by have:(i:Int)<((M.length:Nat):Int):=fZ c;lia
  calc(b,_,U,.inl<|X,_,_,U,U,_,U,?_,);refine bK (λd=>?_)<|λd=>?_
  .let cj:j<⇑x:=by have:(j:Int)<((L.length:Nat):Int):=fZ d;lia
   let ex:M[i]?=MO M[i]:=KG ∅;let ey:L[j]?=MO L[j]:=KG ∅;let(k,I,f1,f2,f3):=a4.get ex;let(g,rb,g1,g2,g3):=a3.get ey;let va:atI M (i:Int)=↑I:=by rw[←f2];exact aS ex
   let vb:atI L (j:Int)=↑rb:=by rw[←g2];exact aS ey
   let dA:y.drop i=k :: y.drop (i+1):=by
    let(p,o):=KH.mp f1;rw[nt p,o]
   let dB:x.drop j=g :: x.drop (j+1):=by
    let(p,o):=KH.mp g1;rw[nt p,o]
   rw[dA,dB]at N;let hc:((if g.1>k.1 then g.1 else k.1),(if g.2<k.2 then g.2 else k.2)).1=max k.1 g.1∧((if g.1>k.1 then g.1 else k.1),(if g.2<k.2 then g.2 else k.2)).2=min k.2 g.2:=by
    constructor
    .show(if g.1>k.1 then g.1 else k.1)=_;split <;> lia
    .show(if g.2<k.2 then g.2 else k.2)=_;split <;> lia
   generalize a1:(if g.1>k.1 then g.1 else k.1)=cl at hc;generalize a2:(if g.2<k.2 then g.2 else k.2)=ch at hc;calc(_,λO C w=>w,?_,);calc(a,_,_,_,U,U,Z,va,?_,);calc(b,_,_,_,U,U,X,vb,?_,);calc(I,_,_,_,U,U,OV f3,z0 _ _,rb,_,_,_,U,U,OV g3,z0 _ _,_,_,U,?_,);rw[a1];calc(I,_,_,_,U,U,OV f3,z1 _ _,rb,_,_,_,U,U,OV g3,z1 _ _,_,_,U,?_,);rw[a2]
   refine(let I_:St→Hp→Prop:=λO C=>O=[↑a,↑b,↑u,MO<|.int i,MO<|.int j,↑I,↑rb,MO<|.int cl,MO (.int ch)]∧aq H C∧C I=MO (.tup [.int k.1,.int k.2])∧C rb=MO (.tup [.int g.1,.int g.2])∧∃n J,C u=MO (.lst n)∧PL C n J∧⇑n≤i+j+1 ∧
    ((cl≤ch∧J=S++[(cl,ch)])∨(¬ cl≤ch∧J=S));(I_,?_,?_,))
   .refine(_,_,U,U,_,U,?_,);refine bK (λe=>?_)<|λe=>?_
    .refine(.inl (U,_,OU eS,),(by show 2≤AY;decide),λt ht=>?_,);let e3:upd v t (.tup [.int cl,.int ch]) u=MO (.lst r):=d9 eS ht;calc(u,r,_,U,U,e3,aD ∅,?_,);let D:il v (upd (upd v t<|.tup [.int cl,.int ch]) u<|.lst<|r++[.ref t]):=(iF ht).trans<|cx e3;exact(U,(B.trans<|ah ht _).upd G,D _ _ f3,D _ _ g3,r++[.ref t],S++[(cl,ch)],af,(hP.mono D).snoc<|cx e3 _ _ af,by rw[dV,hQ];lia,.inl (fZ e,U,),)
    .exact(U,B,f3,g3,r,S,eS,hP,∅,.inr (ip e,U,),)
   rintro a6 C ⟨rfl,R,f4,g4,n,J,a0,W,a7,T⟩;calc(I,_,_,_,U,U,OV f4,z1 _ _,rb,_,_,_,U,U,OV g4,z1 _ _,_,_,U,U,_,U,?_,);refine bK (λe=>?_)<|λe=>?_
   .refine(_,U,_,_,U,U,?_,);let l:=N.left (fZ e) hc;rw[←dB]at l;refine(_,?_,i+1,j,_,_,_,_,n,J,U,R,a0,W,?_,ci,hj,∅,U,)
    .lia
    .rcases T with⟨p,o⟩|⟨p,o⟩
     .rw[o];exact l.1 p
     .rw[o];exact l.2 p
   .refine(_,U,_,_,U,U,?_,);let l:=N.right (ip e) hc;rw[←dA]at l;refine(_,?_,i,j+1,_,_,_,_,n,J,U,R,a0,W,?_,hi,cj,∅,U,)
    .lia
    .rcases T with⟨p,o⟩|⟨p,o⟩
     .rw[o];exact l.1 p
     .rw[o];exact l.2 p
  .let cj:j=⇑x:=by have:¬ (j:Int)<((L.length:Nat):Int):=ip d;lia
   exact(z<|.inr cj)
 .let ci:i=⇑y:=by have:¬ (i:Int)<((M.length:Nat):Int):=ip c;lia
  calc bI<|z<|.inl ci
def Iz(F:Fun K "gaps" "gaps" Y45 f fd)(bl:Bl K mg Y):() 1 f fd ["spans","low","high"] (uF K Y):=by
 refine F.okA Z45 λa6 A a3 s H vs Q E hr h=>?_
 let(a,xs,N,lo,hi,rfl,hS,hP,ap,hl,q):=h
 refine(_,(ao (aL (i:=3) Z45.nd U (bv U)<|bP ae)
  (ao (aL (i:=4) Z45.nd U (bv U)<|pv 1)
  (ao (bB tz U (aR<|pv 0) (d8 U<|aI (aC (i:=5) Z45.nd U<|bv U)<|aI (aC (i:=6) Z45.nd U<|bv U) br)
  (ao (aL (i:=7) Z45.nd U (bv U)<|av (jC U) U bl.min_ EQ<|aa (aH fS (pv 5) ai)<|aa (pv 2) ae)
  (aw (aT (aJ gA (pv 4) (pv 7)<|aO _)
  (ag<|aY<|bx PySem.F.plainAttrs_list PySem.F.slot_list_append PySem.F.type_list_append bW (pv 3)<|aa (bH<|aa (pv 4)<|aa (pv 7) ae) ae)
  aG)
  (ag<|aL (i:=4) Z45.nd U (bv U)<|av (l7 U) U bl.max_ IN<|aa (pv 4)<|aa (aH bY (pv 6) ai) ae))))
  (ao (aT (aJ gA (pv 4) (pv 2)<|aO _)
  (ag<|aY<|bx PySem.F.plainAttrs_list PySem.F.slot_list_append PySem.F.type_list_append bW (pv 3)<|aa (bH<|aa (pv 4)<|aa (pv 2) ae) ae)
  aG)
  (ag<|aE<|pv 3))))),?_,)
 dsimp only[bj,OY,OW];show(let r4:TS:=_;let r3:TS:=aZ _ r4;let r2:TS:=aZ _ r3;let r1:TS:=aZ _ r2;aZ _ r1 _ _ _);intro _ _ _ _;refine((by show 0≤AY;decide),λg l=>?_,);let s0:aq H (upd H g<|.lst []):=ah l _;refine ?_
 refine⟨a,U,(_,s0.seq hS,),(let O:Nat→St→Hp→Prop:=λi C j=>∃(b:Int)(M L J:Option V)(d:M3 V)(F:M3 (Int×Int)),C=[↑a,MO<|.int lo,MO<|.int hi,↑g,MO<|.int b,M,L,J]∧aq H j∧j g=MO (.lst d)∧PL j d F∧qC F (N.take i) lo hi b∧⇑d≤i;bp (xs:=xs) O)
  (lo,MP,MP,MP,[],[],U,s0,af,.nil,qC.start lo hi,rE _,)
  (λi C j _ h=>by let(_,_,_,_,_,_,_,m,_):=h;exact m.seq hS) (λi x C j e h=>?_) (λC j h=>?_)⟩
 .let(b,M,L,J,d,B,rfl,m,o,y,D,hz):=h;let(p,r,e1,rfl,X):=(hP.mono m.tups).get e;let a5:i<⇑xs:=(KH.mp e).1;calc(r,_,U,OV X,U,_,_,U,_,_,U,U,?_,);calc(_,_,U,U,_,_,U,?_,);let tk:=take_snoc e1;let a2:Apart (N.take i++[p]):=by rw[←tk];exact ap.take _
  generalize he:(if hi<p.1-1 then hi else p.1-1)=en;let Z:en=min (p.1-1) hi:=by rw[←he];split <;> lia
  let W:(if p.2+1>b then p.2+1 else b)=max b (p.2+1):=by split <;> lia
  let gt:=D.turn (st':=if p.2+1>b then p.2+1 else b) (e:=en) a2 Z W;refine(let O:St→Hp→Prop:=λR G=>R=[↑a,MO<|.int lo,MO<|.int hi,↑g,MO<|.int b,MO<|.int p.1,MO<|.int p.2,MO (.int en)]∧aq H G∧∃k I,G g=MO (.lst k)∧PL G k I∧⇑k≤i+1∧qC I (N.take i++[p]) lo hi (if p.2+1>b then p.2+1 else b);(O,?_,?_,))
  .refine(_,_,U,U,_,U,?_,);refine bK (λc=>?_)<|λc=>?_
   .refine(.inl (U,_,OU o,),(by show 2≤AY;decide),λt n=>?_,);let u:upd j t (.tup [.int b,.int en]) g=MO (.lst d):=d9 o n;calc(g,d,_,U,U,u,aD ∅,?_,);let v:il j (upd (upd j t<|.tup [.int b,.int en]) g<|.lst<|d++[.ref t]):=(iF n).trans<|cx u;exact(U,(m.trans<|ah n _).upd l,d++[.ref t],B++[(b,en)],af,(y.mono v).snoc<|cx u _ _ af,by rw[dV,hQ];lia,gt.1<|fZ c,)
   .exact(U,m,d,B,o,y,∅,gt.2<|ip c,)
  rintro a4 G ⟨rfl,S,k,I,a1,a0,T,g2⟩;calc(_,_,U,U,_,_,U,?_,);exact(_,_,_,_,k,I,U,S,a1,a0,by rw[tk];exact g2,T,)
 .let(b,M,L,J,d,B,rfl,m,o,y,D,hz):=h;rw[⇑hP,dY]at D;let gf:=D.fin;calc(_,_,U,U,_,U,?_,);refine bK (λc=>?_)<|λc=>?_
  .refine(.inl (U,_,OU o,),(by show 2≤AY;decide),λt n=>?_,);let u:upd j t (.tup [.int b,.int hi]) g=MO (.lst d):=d9 o n;calc(g,d,_,U,U,u,aD ∅,?_,);let v:il j (upd (upd j t<|.tup [.int b,.int hi]) g<|.lst<|d++[.ref t]):=(iF n).trans<|cx u;let z:=gf.1<|fZ c;exact(q g _ (d++[.ref t]) (B++[(b,hi)]) ((m.trans<|ah n _).upd l) l af ((y.mono v).snoc<|cx u _ _ af) z.1 z.2 (by rw[dV,hQ];lia))
  .let z:=gf.2<|ip c;calc(q g j d B m l o y z.1 z.2 ∅)
def GN(F:Fun K "words_of" "words_of" EI f fd)(bl:Bl K mg Y):() 1 f fd ["domain","spans"] (lH K Y):=by
 refine F.okA CK λa0 A B s H vs Q E hr h=>?_
 let(d,l,b,N,j,rfl,(dx,M,S,v),z,J,G,h2,q):=h
 refine(_,(ao (aL (i:=2) CK.nd U (bv U)<|bP ae)
  (ao (bB tz U (aR<|pv 1) (d8 U<|aI (aC (i:=3) CK.nd U<|bv U)<|aI (aC (i:=4) CK.nd U<|bv U) br)
  (ag<|aY<|bx PySem.F.plainAttrs_list PySem.F.slot_list_extend PySem.F.type_list_extend oR (pv 2)<|aa (iN yk (aP (pv 0) U) (iz<|pv 3)<|iz<|aH bY (pv 4) ai) ae))
  (ag<|aE<|pv 2))),?_,)
 dsimp only[bj,OY,OW];show(let O:TS:=_;let R:TS:=aZ _ O;aZ _ R _ _ _);intro _ _;let x:=G.length;refine((by show 0≤AY;decide),λw C=>?_,);let o:aq H (upd H w<|.lst []):=ah C _;let L:upd H w (.lst []) w=MO (.lst []):=af;generalize upd H w (.lst [])=H0 at o L⊢;refine(l,U,(_,OU<|o _ _ J,),(let X:Nat→St→Hp→Prop:=λi n a=>aq H a∧E2 λu r:Option V=>a w=MO (.lst<|((j.take i).map<|rT b).flatten.map OT)∧n=[↑d,↑l,↑w,u,r];bp (xs:=N) X (o,_,_,L,U,) (λi n a _ h=>OU<|h.1 _ _ J) (λi y n a e h=>?_) (λn a h=>?_)),)
 .let(g,u,r,k,rfl):=h;let(p,t,I,rfl,T):=G.get e;let hi:i<⇑j:=(KH.mp I).1;let Z:=oj b (MO p.1)<|MO<|p.2+1;let m:=qV b<|j.take i;rw[eH]at m;let Kt:⇑(((j.take i).map<|rT b).flatten)≤80:=qu m (qu (Nat.mul_le_mul (show min i ⇑j≤2 by lia) z) ⋯);calc(t,_,U,OV<|g _ _ T,U,_,_,U,_,_,U,U,?_,);calc(.inl (U,_,OU k,),d,_,_,_,_,U,g _ _ S,bl.k_Words,bl.na_Words_words,U,_,U,_,_,U,U,_,U,M,_,U,OU<|g _ _ v,λc D=>?_,);rw[vG];let W:upd a c (.lst<|(oX b (MO p.1)<|MO<|p.2+1).map OT) c=MO (.lst<|(oX b (MO p.1)<|MO<|p.2+1).map OT):=af;refine(w,c,_,_,U,U,d9 k D,W,(by rw[bQ,bQ];exact rM (aD ∅)),(g.trans<|ah D _).upd C,_,_,?_,U,);rw[af,take_snoc I,dy,pa,dy];simp[rT]
 .let(g,u,r,k,rfl):=h;rw[x,dY]at k;calc(q w a g k)
def IA(F:Fun K "refuse_counts" "refuse_counts" Y87 f fd)(bl:Bl K mg Y):() 1 f fd ["names","rows"] (dD K Y):=by
 refine F.okA Z87 λg A a s H j Q E l h=>?_
 let(p,r,b,i,rfl,e,d,n,m,k,q):=h
 refine(_,(ao (aT (cE<|vf gA gA ai (av au U bl.len_ MN<|aa (pv 0) ae)<|bA U bl.MOST_COLUMNS_)
  (ag bo)
  aG)
  (ag (aT (aJ gP (av au U bl.len_ MN<|aa (pv 1) ae) (bA U bl.MOST_ROWS_)<|aO _)
  (ag bo)
  aG))),?_,)
 dsimp only[bj,OY,OW];show(let c:TS:=_;aZ _ c _ _ _);intro _;calc(p,_,U,.inl<|e,_,_,U,U,_,U,sY ∅ ?_,);calc(_,_,U,U,_,U,?_,);rw[MX (show((⇑b:Nat):Int)≤4 by lia)];calc bI ?_;calc(r,_,U,.inl<|d,_,_,U,U,_,U,jb ∅ q,)
def IB(F:Fun K "own_row" "own_row" Y75 f fd)(bl:Bl K mg Y):() 1 f fd ["cells","code"] (nh K Y):=by
 refine F.okA Z75 λV A B s H W Q E Z h=>?_
 let(T,xs,I,rfl,C,u,Iv,q):=h;refine(_,(ag<|aE<|bH<|aa (bZ (aR<|pv 0) (dN U (~~~0) (~~~0) (~~~0) U) U (λ_ _ _ _=>aX)<|λ_ _ _ _=>(bg (mR (K:=K) U) U bl.list_ wn<|aa (pv 0) ae))<|aa (pv 1) ae),?_,)
 refine(T,U,(_,OU C,),bC (xs:=xs) (λD i g d=>aq H d∧d D=MO (.lst g)∧CL (Fr H D) d g (I.1.take i))
  (λD m=>(ah m _,af,ak.nil,)) (λD i g d m _ h=>OU<|h.1 _ _ C) (λD i x g d m e h=>?_) (λD g d m h=>?_),)
 .let(k,v,t):=h;let(l,X,rfl,R,N):=ak.get u e;let(_,n,S,M):=N.same k;let hi:i<⇑xs:=(KH.mp e).1;let y:⇑g<AY:=by
   let O:=t.1;rw[eH]at O;exact aD ∅
  calc(l,_,U,.inl<|OU S,λp c=>?_,);let o:=ah c<|.lst n;let G:upd d p (.lst n) p=MO (.lst n):=af;let j:=o _ _ v;generalize upd d p (.lst n)=H2 at o G j⊢;let L:H p=none:=k.free c;let J:p≠D:=λz=>by rw[z,v]at c;cases c
  calc b7.mk hi j y ((k.trans o).upd m,af,?_,);rw[take_snoc R];exact CL.updN (ak.snoc (t.same o) ((L,J,),n,G,M.mono o.tups,)) Fr.out j
 .let(k,v,t):=h;rw[u.1,dY]at t;calc(eX,λr b=>q r _ (k.trans<|ah b _) (k.free b) (D,g,af,m,ah b _ _ _ v,?_,),);calc(t.same<|ah b _).wk λa h=>h.1
def IC(F:Fun K "cut" "cut" Y41 f fd)(bl:Bl K mg Y):() 1 f fd ["parts"] (rD K Y):=by
 refine F.okA Z41 λk A d s H l Q E m h=>?_
 let(p,a,b,c,rfl,g,i,j,q):=h
 refine(_,(ao (aT (cE<|fH (az aM (pv 0) ai<|λ_ _=>U) (by intro _;rfl))
  (ag bo)
  aG)
  (ag<|aE<|pv 0)),?_,)
 dsimp only[bj,OY,OW];show(let e:TS:=_;aZ _ e _ _ _);intro _;calc(p,_,_,_,U,U,OV g,U,MQ,(i,~~~j,),bI q,)
def ID(F:Fun K "refuse_counts" "refuse_counts" Y86 f fd)(bl:Bl K mg Y):() 1 f fd ["facts","drafts"] (dj K Y):=by
 refine F.okA Z86 λJ A k s H M Q E W h=>?_
 let(m,g,fv,D,ds,L,rfl,j,a,X,Z,r,ok,q):=h
 refine(_,(ao (aT (PW.pt<|lh (aJ gP (av au U bl.len_ MN<|aa (pv 0) ae) (bA U bl.MOST_FACTS_)<|aO _)<|jk<|aJ gP (av au U bl.len_ MN<|aa (pv 1) ae) (bA U bl.MOST_TABLES_)<|aO _)
  (ag bo)
  aG)
  (ag (bB tz U (aR<|pv 1) (aC (i:=2) Z86.nd U<|bv U)
  (ag (aT (PW.pt<|lh (aJ gP (av au U bl.len_ MN<|aa (aP (pv 2) U) ae) (bA U bl.MOST_COLUMNS_)<|aO _)<|jk<|aJ gP (av au U bl.len_ MN<|aa (aP (pv 2) U) ae) (bA U bl.MOST_ROWS_)<|aO _)
  (ag bo)
  aG))))),?_,)
 dsimp only[bj,OY,OW];show(let t:TS:=_;aZ _ t _ _ _);intro _;calc(m,_,U,.inl<|OU j,_,_,U,U,_,U,jb ∅ (g,_,U,.inl<|OU a,_,_,U,U,_,U,jb ∅ ?_,),);refine(g,U,(_,OU a,),(let I:Nat→St→Hp→Prop:=λi b c=>c=H∧∃n:Option V,b=[↑m,↑g,n];bp (xs:=D) I (U,_,U,) (λi b c _ h=>by rw[h.1];exact OU a) (λi y b c e h=>?_) (λb c h=>by rw[h.1];exact q)),);let(C,n,rfl):=h;rw[C];let(x,d,rfl,B,p,N,(dx,G,l,z),v,u):=ak.get r e;let o:=ok d<|KJ B;let R:=o.c4;let O:=o.r200;let T:⇑(d.cs.map OT)=⇑d.cs:=bQ _;let S:=u.1;calc(x,_,_,_,_,U,l,bl.k_Draft,bl.na_Draft_columns,U,G,_,U,.inl<|OU z,_,_,U,U,_,U,jb ∅ (x,_,_,_,_,U,l,bl.k_Draft,bl.na_Draft_rows,U,p,_,U,.inl<|OU v,_,_,U,U,_,U,jb ∅ (U,_,U,),),)
def IE(F:Fun K "refuse_columns" "refuse_columns" Y84 f fd)(bl:Bl K mg Y):() 1 f fd ["draft","names"] (gh K Y):=by
 refine F.okA Z84 λR A u s H S Q E Z h=>?_
 let(x,n,d,v,rfl,(W,T,(dx,o,m,k),g3,g4),ok,t,O,q):=h
 refine(_,(aw (bB tz U (aR<|aP (pv 0) U) (aC (i:=2) Z84.nd U<|bv U)
  (ag (aT (PW.pt<|lh (aJ nO (pv 2) (pv 1) (by with_unfolding_all rfl)) (jk<|aJ cU (pv 2) (aP (pv 0) U)<|aO _))
  (ag bo)
  aG)))
  (ag (aT (aJ mO (av fK U bl.len_ MN<|aa (bg (fJ U) U bl.set_ Ev<|aa (aP (pv 0) U) ae) ae) (av au U bl.len_ MN<|aa (aP (pv 0) U) ae)<|aO _)
  (ag bo)
  aG))),?_,)
 dsimp only[bj,OY,OW];show(let C:TS:=_;a9 _ C _ _ _);intro _;let I:⇑(d.cs.map OT)=⇑d.cs:=bQ _;let X:=ok.c4;refine(let p:St→Hp→Prop:=λr b=>b=H∧∃c:Option V,r=[↑x,↑n,c];(p,?_,?_,))
 .refine(x,_,_,_,_,U,m,bl.k_Draft,bl.na_Draft_columns,U,o,U,(_,OU k,),(let p:Nat→St→Hp→Prop:=λi j b=>b=H∧∃c:Option V,j=[↑x,↑n,c];bp (xs:=d.cs.map OT) p (U,_,U,) (λi j b _ h=>by rw[h.1];exact OU k) (λi y j b e h=>?_) (λj b h=>h)),);let(M,c,rfl):=h;rw[M];let(z,rfl,J):=cg e;let(G,D):=ok.cin z<|KJ J;calc(n,_,U,.inl<|OU t,U,jI _,_,U,?_,);rw[show(if MQ=MQ then !inV (OT z) (v.map OT)else inV (OT z) (v.map OT))=MR by rw[MV U,qX];simpa using G];exact bI (x,_,_,_,_,U,m,bl.k_Draft,bl.na_Draft_name,U,U,_,U,bK (λg=>MW (~~~g) D)<|λ_=>(U,_,U,),)
 rintro N H2 ⟨L,c,rfl⟩;rw[L];calc(x,_,_,_,_,U,m,bl.k_Draft,bl.na_Draft_columns,U,o,d.cs,U,OU k,∅,λl a=>(l,d.cs,U,af,∅,x,_,_,_,_,U,(ah a _ _ _ m),bl.k_Draft,bl.na_Draft_columns,U,o,_,U,.inl<|OU<|ah a _ _ _ k,_,_,U,U,_,U,?_,),);let B:=iI d.cs ⇑d.cs<|pT _;rw[dY]at B;calc jb (by rw[I,B.mpr ok.cnd];lia) (q _<|ah a _)
def IF(F:Fun K "refuse_fields" "refuse_fields" Y89 f fd)(bl:Bl K mg Y):() 1 f fd ["draft"] (gG K Y):=by
 refine F.okA Z89 λI A c s H L Q E M h=>?_
 let(x,d,J,rfl,(rl,n,(N,D,j,z),g,v),ok,q):=h
 refine(_,(ag (bB tz U (aR<|aP (pv 0) U) (d8 U<|aI (aC (i:=1) Z89.nd U<|bv U)<|aI (aC (i:=2) Z89.nd U<|bv U) br)
  (ag (aT (aJ lq (av au U bl.len_ MN<|aa (pv 1) ae) (av au U bl.len_ MN<|aa (aP (pv 0) U) ae)<|aO _)
  (ag bo)
  aG)))),?_,)
 refine(x,_,_,_,_,U,j,bl.k_Draft,bl.na_Draft_rows,U,rl,U,(_,OU g,),(let G:Nat→St→Hp→Prop:=λi a b=>b=H∧E2 λm k:Option V=>a=[↑x,m,k];bp (xs:=n) G (U,_,_,U,) (λi a b _ h=>by rw[h.1];exact OU g) (λi y a b e h=>?_) (λa b h=>by rw[h.1];exact q)),);let(C,m,k,rfl):=h;rw[C];let(t,r,rfl,B,l,u,p):=ak.get v e;let o:=ok.rl r<|KJ B;calc(t,_,U,OV u,U,_,_,U,_,_,U,U,?_,);calc(l,_,U,.inl<|OU p,x,_,_,_,_,U,j,bl.k_Draft,bl.na_Draft_columns,U,D,_,U,.inl<|OU z,U,_,U,nP (by rw[bQ,bQ,o]) (U,_,_,U,),)
def IG(F:Fun K "_law_at" "_law_at" Y51 f fd)(bl:Bl K mg Y):() 1 f fd ["script","k"] (mn K Y):=by
 refine F.okA Z51 λm A d s H n Q E o h=>?_
 let(a,b,k,rfl,e,p,q):=h
 refine(_,(ao (aT (aJ mO (pv 1) (av au U bl.len_ MN<|aa (pv 0) ae)<|aO _)
  (ag<|aE<|az aW (pv 0) (pv 1)<|λ_ _=>U)
  aG)
  (ag<|aE ai)),?_,)
 dsimp only[bj,OY,OW];show(let g:TS:=_;aZ _ g _ _ _);intro _;calc(a,_,U,.inl e,_,_,U,U,_,U,?_,);refine bK (λc=>?_)<|λc=>?_
 .let l:k<((⇑(b.map pi):Nat):Int):=fZ c;rw[bQ]at l;let j:k.toNat<⇑b:=∅
  let i:atI (b.map pi) k=MO (.int b[k.toNat]):=by
   let z:atI (b.map pi) ((k.toNat:Nat):Int)=MO (.int b[k.toNat]):=aS (by rw[dn,KG j];rfl);rw[show((k.toNat:Nat):Int)=k by lia]at z;exact z
  exact(a,_,_,_,U,U,e,i,q _,)
 .exact q 0
def IH(F:Fun K "_law_words" "_law_words" Y70 f fd)(bl:Bl K mg Y):() 1 f fd ["cell","count"] (iC K Y):=by
 refine F.okA Z70 λS A u s H T Q E Z h=>?_
 let(c,n,rfl,R,q):=h
 refine(_,(ao (aL (i:=2) Z70.nd U (pc U) aV)
  (aw (aL (i:=3) Z70.nd U (pc U)<|bx PySem.F.plainAttrs_str PySem.F.slot_str_join PySem.F.type_str_join eO aV<|aa (bZ (b6 U bl.range_<|aa (aH cD (pv 0) ai) ae) (bc (N:=["j","cell","letters"]) (fr:=[0,2]) (cl:=[("letters",↥s+1+1),("cell",↥s+1)]) U U (~~~0) (~~~0) U (~~~0) U U U (eN.mpr (U,eN.mpr (U,fW _,),)) U) U (λ_ _ _ _=>aX)<|λ_ _ _ _=>(az tV (pv 2) (aH cD (aH cO (pv 1)<|aH bY (aH oN ai<|pv 0) ai) ai)<|λ_ _=>U)) ae)
  (aw (aL (i:=4) Z70.nd U (pc U)<|bx PySem.F.plainAttrs_str PySem.F.slot_str_join PySem.F.type_str_join eO aV<|aa (bZ (b6 U bl.range_<|aa (aH cD (aH cO (pv 0) ai) ai) ae) (bc (N:=["j","cell","letters"]) (fr:=[0,2]) (cl:=[("letters",↥s+1+1),("cell",↥s+1)]) U U (~~~0) (~~~0) U (~~~0) U U U (eN.mpr (U,eN.mpr (U,fW _,),)) U) U (λ_ _ _ _=>aX)<|λ_ _ _ _=>(az tV (pv 2) (aH cD (aH cO (pv 1)<|aH bY (aH oN ai<|pv 0) ai) ai)<|λ_ _=>U)) ae)
  (ag<|aE<|bZ (b6 U bl.range_<|aa (pv 1) ae) (bc (N:=["k","cell","letters","head","tail"]) (fr:=[0,2,3,4]) (cl:=[("tail",↥s+1+1+1+1),("letters",↥s+1+1),("head",↥s+1+1+1),("cell",↥s+1)]) U U (~~~0) (~~~0) U (~~~0) U U U (eN.mpr (U,eN.mpr (U,eN.mpr (U,eN.mpr (U,fW _,),),),)) U) U (λ_ _ _ _=>aX)<|λ_ _ _ _=>(aH aN (aH aN (pv 3)<|az tV (pv 2) (aH cD (aH bY (aH cO (pv 1) ai)<|aH oN ai<|pv 0) ai)<|λ_ _=>U)<|pv 4))))),?_,)
 dsimp only[bj,OY,OW];show(let C:TS:=_;let G:TS:=a9 _ C;let I:TS:=a9 _ G;aZ _ I _ _ _);intro _ _ _;let c0:=vl c (show(6:Int)≠0 by decide);let c1:=v3 c (show(0:Int)<6 by decide);let d0:=vl (c / 7) (show(6:Int)≠0 by decide);let d1:=v3 (c / 7) (show(0:Int)<6 by decide);refine(let k:St→Hp→Prop:=λl a=>aq H a∧l=[MO (.int c),MO<|.int (n:Int),MO<|.str s!"abcdefghijklmnopqrstuvwxyz",MO<|.str ⟨(hcs c).toArray⟩,MP];(k,?_,?_,))
 .refine(U,_,_,U,U,(by show(0:Int)<6;decide),_,U,(by show -(2^62)≤c%6;lia),(by show c%6<2^62;lia),(let k:AE→Nat→M3 V→Hp→Prop:=λD i d a=>aq H a∧a D=MO (.lst d)∧d=(((gl i).map λj:Nat=>97+(c / (3*(0+(j:Int))+1)%13).toNat).map λx=>(⟨#[x]⟩:Str)).map OT;cK k (λD b=>(ah b _,af,U,)) (λD i d a b hi h=>?_) (λD d a b h=>?_)),)
  .let(g,e,rfl):=h;let m:=vl (c / (3*(0+(i:Int))+1)) (show(13:Int)≠0 by decide);let t:=v3 (c / (3*(0+(i:Int))+1)) (show(0:Int)<13 by decide);refine(_,_,U,U,.inl (⋯,⋯,),_,_,U,U,_,_,U,U,m5 ∅ ∅,_,_,U,U,(by show(0:Int)<13;decide),_,_,_,U,U,⋯,ug Be m ∅,b7.mk hi e (aD (by simp;lia)) (g.upd b,af,?_,),);rw[jA,dy,dy,dy];rfl
  .let(g,e,rfl):=h;let p:=qh c;let r:((gl (c%6).toNat).map λj:Nat=>97+(c / (3*(0+(j:Int))+1)%13).toNat)=hcs c:=rfl;rw[r]at e;calc(_,D,_,U,U,OU e,(~~~0),vH _ p,g,?_,);rw[qR];rfl
 rintro O y ⟨B,rfl⟩;refine(let k:St→Hp→Prop:=λl a=>aq y a∧l=[MO (.int c),MO<|.int (n:Int),MO<|.str s!"abcdefghijklmnopqrstuvwxyz",MO<|.str ⟨(hcs c).toArray⟩,MO (.str ⟨(tcs c).toArray⟩)];(k,?_,?_,))
 .refine(U,_,_,U,U,(⋯,⋯,),_,_,U,U,(by show(0:Int)<6;decide),_,U,(by show -(2^62)≤c / 7%6;lia),(by show c / 7%6<2^62;lia),(let k:AE→Nat→M3 V→Hp→Prop:=λD i d a=>aq y a∧a D=MO (.lst d)∧d=(((gl i).map λj:Nat=>97+(c / (5*(0+(j:Int))+2)%13).toNat).map λx=>(⟨#[x]⟩:Str)).map OT;cK k (λD b=>(ah b _,af,U,)) (λD i d a b hi h=>?_) (λD d a b h=>?_)),)
  .let(g,e,rfl):=h;let m:=vl (c / (5*(0+(i:Int))+2)) (show(13:Int)≠0 by decide);let t:=v3 (c / (5*(0+(i:Int))+2)) (show(0:Int)<13 by decide);refine(_,_,U,U,.inl (⋯,⋯,),_,_,U,U,_,_,U,U,m5 ∅ ∅,_,_,U,U,(by show(0:Int)<13;decide),_,_,_,U,U,⋯,ug Be m ∅,b7.mk hi e (aD (by simp;lia)) (g.upd b,af,?_,),);rw[jA,dy,dy,dy];rfl
  .let(g,e,rfl):=h;let p:=qi c;let r:((gl (c / 7%6).toNat).map λj:Nat=>97+(c / (5*(0+(j:Int))+2)%13).toNat)=tcs c:=rfl;rw[r]at e;calc(_,D,_,U,U,OU e,(~~~0),vH _ p,g,?_,);rw[qR];rfl
 rintro M L ⟨z,rfl⟩;let o:=B.trans z;let X:⇑(⟨(hcs c).toArray⟩:Str)≤5:=by have:=qh c;simpa[wS]using this
 let W:⇑(⟨(tcs c).toArray⟩:Str)≤5:=by have:=qi c;simpa[wS]using this
 let v:∀x:Nat,⇑(⟨#[x]⟩:Str)=1:=λ_=>U
 refine(_,U,∅,∅,(let k:AE→Nat→M3 V→Hp→Prop:=λD i d a=>aq L a∧a D=MO (.lst d)∧d=(lws c i).map OT;cK k (λD b=>(ah b _,af,U,)) (λD i d a b hi h=>?_) (λD d a b h=>?_)),)
 .let(g,e,rfl):=h;let m:=vl (c / 11+3*(0+(i:Int))) (show(26:Int)≠0 by decide);let t:=v3 (c / 11+3*(0+(i:Int))) (show(0:Int)<26 by decide);let J:(⟨(hcs c).toArray⟩:Str)++(⟨#[97+((c / 11+3*(0+(i:Int)))%26).toNat]⟩:Str)++(⟨(tcs c).toArray⟩:Str)=lw c (0+(i:Int)):=by
   show wv (wv _ _) _=_;unfold wv lw lwc;simp
  refine(_,_,U,U,(⋯,⋯,),_,_,U,U,.inl (⋯,⋯,),_,_,U,U,_,_,U,U,(by show(0:Int)<26;decide),_,_,_,U,U,⋯,ug Be m t,_,_,U,U,big (by rw[v];lia),_,_,U,U,big (by rw[aK,v];lia),?_,);rw[J];refine b7.mk hi e (aD (by rw[bQ,mi];lia)) (g.upd b,af,?_,);rw[Bm,dy];rfl
 .let(g,e,rfl):=h;rw[vr]at e;calc q D a (o.trans g) (o.free b) e
def II(F:Fun K "_law_pool" "_law_pool" Y61 f fd)(bl:Bl K mg Y):() 1 f fd ["domain","cell"] (lI K Y):=by
 refine F.okA Z61 λL A v s H O Q E R h=>?_
 let(r,p,c,rfl,(M,_,_,t,J),ok,q):=h
 refine(_,(ao (aL (i:=2) Z61.nd U (pc U)<|aH bY (aH fS (az aM (pv 0) ai<|λ_ _=>U)<|az aM (pv 0) ai<|λ_ _=>U) ai)
  (ag<|aE<|bZ (b6 U bl.range_<|aa ai ae) (bc (N:=["j","domain","cell","width"]) (fr:=[0,1,2]) (cl:=[("width",↥s+1+1+1),("domain",↥s+1),("cell",↥s+1+1)]) U U (~~~0) (~~~0) U (~~~0) U U U (eN.mpr (U,eN.mpr (U,eN.mpr (U,fW _,),),)) U) U (λ_ _ _ _=>aX)<|λ_ _ _ _=>(aH bY (az (l8 (K:=K) U) (pv 1) ai<|λ_ _=>U)<|aH cD (aH bY (aH cO (pv 2)<|aH bY (aH oN ai<|pv 0) ai)<|aH oN (pv 0)<|pv 2)<|pv 3))),?_,)
 dsimp only[bj,OY,OW];show(let y:TS:=_;aZ _ y _ _ _);intro _;let G:=ok.le;calc(r,_,_,_,U,U,OV t,U,r,_,_,_,U,U,OV t,U,_,_,U,U,_,_,U,U,?_,);let n:0<p.hi-p.lo+1:=∅
 refine⟨_,U,⋯,⋯,(let C:AE→Nat→M3 V→Hp→Prop:=λD i k j=>aq H j∧j D=MO (.lst k)∧∃b:M3 Int,k=b.map pi∧⇑b=i∧∀x∈b,p.lo≤x∧x≤p.hi;cK C (λD g=>⟨ah g _,af,[],U,U,(λx d=>by cases d)⟩) (λD i k j g hi h=>?_) (λD k j g h=>?_))⟩
 .let(l,u,b,rfl,o,d):=h;let I:i<3:=hi;let B:=vl (c / (3*(0+(i:Int))+1)+(0+(i:Int))*c)<|NU n;let z:=v3 (c / (3*(0+(i:Int))+1)+(0+(i:Int))*c) n;refine(r,_,_,_,U,U,OV<|l _ _ t,U,_,_,U,U,.inl (⋯,⋯,),_,_,U,U,_,_,U,U,m5 ∅ ∅,_,_,U,U,.inl (∅,∅,),_,_,U,U,_,_,U,U,n,_,_,U,U,b7.mk hi u (aD (by rw[bQ];lia)) (l.upd g,af,b++[_],by rw[dy];rfl,by rw[dV,o];rfl,λx a=>?_,),);rcases eA.mp a with a | a
  .exact d x a
  .let e:x=p.lo+(c / (3*(0+(i:Int))+1)+(0+(i:Int))*c)%(p.hi-p.lo+1):= ~~~a
   generalize (c / (3*(0+(i:Int))+1)+(0+(i:Int))*c)%(p.hi-p.lo+1)=m at B z e;lia
 .let(l,u,b,rfl,o,d):=h;calc q D b j l g u o d
def IJ(F:Fun K "_law_spans" "_law_spans" Y66 f fd)(bl:Bl K mg Y):() 1 f fd ["kind","one","two","domain"] (kc K Y):=by
 refine F.okA Z66 λb4 A a0 s H vs Q E hr h=>?_
 let(B,one,two,r,p,rfl,(wl,_,_,S,b3),h1,h2,h3,q):=h
 refine(_,(aw (aL (i:=4) Z66.nd U (bv U)<|bP<|aa (bH<|aa (az aM (pv 3) ai<|λ_ _=>U)<|aa (az aM (pv 3) ai<|λ_ _=>U) ae) ae)
  (aw (aT (aJ cU (pv 0) ai<|aO _)
  (ag<|aL (i:=4) Z66.nd U (bv U)<|bP<|aa (bH<|aa (pv 1)<|aa (pv 2) ae) ae)
  aG)
  (aw (aT (aJ cU (pv 0) ai<|aO _)
  (ag<|aL (i:=4) Z66.nd U (bv U)<|bP<|aa (bH<|aa (pv 1)<|aa (pv 1) ae) ae)
  aG)
  (aw (aT (aJ cU (pv 0) ai<|aO _)
  (ag<|aL (i:=4) Z66.nd U (bv U)<|bP<|aa (bH<|aa (az aM (pv 3) ai<|λ_ _=>U)<|aa (aH fS (pv 1) ai) ae)<|aa (bH<|aa (aH bY (pv 2) ai)<|aa (az aM (pv 3) ai<|λ_ _=>U) ae) ae)
  aG)
  (aw (aT (aJ cU (pv 0) ai<|aO _)
  (ag<|aL (i:=4) Z66.nd U (bv U)<|bP<|aa (bH<|aa (pv 1)<|aa (pv 1) ae)<|aa (bH<|aa (pv 2)<|aa (pv 2) ae) ae)
  aG)
  (aw (aT (PW.pt<|jT (aJ cU (pv 0) ai<|aO _)<|iw<|aJ gA (pv 2) (aH bY (pv 1) ai)<|aO _)
  (ag<|aL (i:=4) Z66.nd U (bv U)<|bP<|aa (bH<|aa (pv 1)<|aa (pv 2) ae) ae)
  aG)
  (aw (aT (aJ cU (pv 0) ai<|aO _)
  (ag<|aL (i:=4) Z66.nd U (bv U)<|bP ae)
  aG)
  (ag<|aE<|bZ (aR<|pv 4) (dN U (~~~0) (~~~0) (~~~0) U) U (λ_ _ _ _=>(tY<|aJ gA (az (l8 (K:=K) U) (pv 0) ai<|λ_ _=>U) (az (l8 (K:=K) U) (pv 0) ai<|λ_ _=>U)<|aO _))<|λ_ _ _ _=>(pv 0))))))))),?_,)
 dsimp only[bj,OY,OW];show(let r7:TS:=_;let r6:TS:=a9 _ r7;let r5:TS:=a9 _ r6;let r4:TS:=a9 _ r5;let r3:TS:=a9 _ r4;let r2:TS:=a9 _ r3;let r1:TS:=a9 _ r2;a9 _ r1 _ _ _);intro _ _ _ _ _ _ _;refine(let k:St→Hp→Prop:=λb d=>∃a,SPJ p False H d a∧b=[MO (.int B),MO<|.int one,MO<|.int two,↑r,↑a];(k,(r,_,_,_,U,U,OV S,U,r,_,_,_,U,U,OV S,U,eX,λt o=>((by show 1≤AY;decide),λl n=>(l,SPJ.one (aq.refl H) (pl1 o n) (pr _)<|pr _,U,),),),?_,));rintro a7 H1 ⟨a,c,rfl⟩;refine(let k:St→Hp→Prop:=λb d=>∃a,SPJ p False H d a∧b=[MO (.int B),MO<|.int one,MO<|.int two,↑r,↑a];(k,?_,?_,))
 .refine(U,_,U,bK (λ_=>?_)<|λ_=>(a,c,U,),);let m:=c.1;exact(eX,λt o=>((by show 1≤AY;decide),λl n=>(l,SPJ.one m (pl1 o n) ∅ ∅,U,),),)
 clear c a;rintro a6 H2 ⟨a,c,rfl⟩;refine(let k:St→Hp→Prop:=λb d=>∃a,SPJ p False H d a∧b=[MO (.int B),MO<|.int one,MO<|.int two,↑r,↑a];(k,?_,?_,))
 .refine(U,_,U,bK (λ_=>?_)<|λ_=>(a,c,U,),);let m:=c.1;exact(eX,λt o=>((by show 1≤AY;decide),λl n=>(l,SPJ.one m (pl1 o n) ∅ ∅,U,),),)
 clear c a;rintro a5 H3 ⟨a,c,rfl⟩;refine(let k:St→Hp→Prop:=λb d=>∃a,SPJ p False H d a∧b=[MO (.int B),MO<|.int one,MO<|.int two,↑r,↑a];(k,?_,?_,))
 .refine(U,_,U,bK (λ_=>?_)<|λ_=>(a,c,U,),);let m:=c.1;refine(r,_,_,_,U,U,OV<|m _ _ S,U,_,_,U,U,eX,λt o=>(_,_,U,U,r,_,_,_,U,U,OV<|((m.trans<|ah o _) _ _ S),U,eX,λu T=>((by show 2≤AY;decide),λl n=>(l,SPJ.two m (pl2 o T n) (pr _) ∅ ∅ (pr _) (.inr ∅),U,),),),)
 clear c a;rintro a4 H4 ⟨a,c,rfl⟩;refine(let k:St→Hp→Prop:=λb d=>∃a,SPJ p (B=4∧two≤one+1) H d a∧b=[MO (.int B),MO<|.int one,MO<|.int two,↑r,↑a];(k,?_,?_,))
 .refine(U,_,U,bK (λN=>?_)<|λ_=>(a,c.of<|λh=>h.elim,U,),);let m:=c.1;let N:B=4:= ~~~N
  refine(eX,λt o=>(eX,λu T=>((by show 2≤AY;decide),λl n=>(l,SPJ.two m (pl2 o T n) h1 ∅ ∅ h3 ∅,U,),),),)
 clear c a;rintro a3 H5 ⟨a,c,rfl⟩;refine(let k:St→Hp→Prop:=λb d=>∃a,SPJ p False H d a∧b=[MO (.int B),MO<|.int one,MO<|.int two,↑r,↑a];(k,?_,?_,))
 .refine(U,_,U,bK (λN=>?_)<|λN=>?_,)
  .refine(_,_,U,U,_,_,U,U,_,U,bK (λ_=>?_)<|λg5=>(a,c.of<|λh=>g5<|~~~h.2,U,),);let m:=c.1;exact(eX,λt o=>((by show 1≤AY;decide),λl n=>(l,SPJ.one m (pl1 o n) h1 h3,U,),),)
  .exact(a,c.of<|λh=>N<|~~~h.1,U,)
 clear c a;rintro a2 H6 ⟨a,c,rfl⟩;refine(let k:St→Hp→Prop:=λb d=>∃a,SPJ p False H d a∧b=[MO (.int B),MO<|.int one,MO<|.int two,↑r,↑a];(k,?_,?_,))
 .refine(U,_,U,bK (λ_=>?_)<|λ_=>(a,c,U,),);let m:=c.1;exact⟨(by show 0≤AY;decide),λl n=>(l,(m.trans<|ah n _,[],[],af,.nil,(λx M=>by cases M),by simp,.inr M7,),U,)⟩
 clear c a;rintro a1 H7 ⟨a,c,rfl⟩;let(s7,ts,ps,R,hP,hb,b0,W):=c;let W:=W.resolve_left id;let a8:=⇑hP;refine⟨a,U,(_,OU R,),(let k:AE→Nat→M3 V→Hp→Prop:=λD i zs d=>aq H7 d∧d D=MO (.lst zs)∧∃j:Prs,PL d zs j∧(∀x∈j,p.lo≤x.1∧x.1≤x.2∧x.2≤p.hi)∧⇑j≤i∧j=(ps.take i).filter λx=>decide<|x.1≤x.2;bC (xs:=ts) k (λD I=>(ah I _,af,[],.nil,(λx M=>by cases M),rE _,U,)) (λD i zs d I _ h=>OU<|h.1 _ _ R) (λD i y zs d I e h=>?_) (λD zs d I h=>?_))⟩
 .let(J,O,j,z,v,Z,C):=h;let(x,t,X,rfl,et):=hP.get e;let hi:i<⇑ts:=(KH.mp e).1;let G:=J _ _ et;calc(t,_,_,_,U,U,OV G,U,t,_,_,_,U,U,OV G,U,_,_,U,U,_,U,?_,);refine bK (λg=>?_)<|λg=>?_
  .let g':x.1≤x.2:=fZ g;let st:il d (upd d D<|.lst<|zs++[.ref t]):=cx O;refine(b7.mk hi O (aD (by have:=⇑z;lia)) (J.upd I,af,j++[x],(z.mono st).snoc<|st _ _ G,λy L=>?_,by rw[dV,hQ];lia,by rw[take_snoc X,oJ,C,KM<|~~~g',mG],));rcases eA.mp L with L|L
   .exact v y L
   .rw[show y=x by simpa using L];let:=hb x<|KJ X;lia
  .exact ly.mk (zs:=zs) hi (J,O,j,z,v,∅,by rw[take_snoc X,oJ,C,KT<|~~~g,mG,hY],)
 .let(J,O,j,z,v,Z,C):=h;let s:=s7.trans J;calc q D j d s (s7.free I,zs,O,z,) v ∅ (λx M=>(v x M).2.1,C ▸ W.sublist (List.filter_sublist.trans<|NO _ _),)
def IK(F:Fun K "_law_domain_text" "_law_domain_text" Y54 f fd)(bl:Bl K mg Y):() 1 f fd ["domain"] (dR K Y):=by
 refine F.okA Z54 λt A e s H u Q E y h=>?_
 let(r,p,rfl,(i,_,_,c,b),ok,q):=h
 refine(_,(ao (aT (aJ gP (av au U bl.len_ MN<|aa (az aM (pv 0) ai<|λ_ _=>U) ae) ai<|aO _)
  (ag<|aE<|bx PySem.F.plainAttrs_str PySem.F.slot_str_join PySem.F.type_str_join eO aV<|aa (az aM (pv 0) ai<|λ_ _=>U) ae)
  aG)
  (ag<|aE<|aH aN (aH aN (bg cF U bl.str_ ss<|aa (az aM (pv 0) ai<|λ_ _=>U) ae) aV)<|bg cF U bl.str_ ss<|aa (az aM (pv 0) ai<|λ_ _=>U) ae)),?_,)
 dsimp only[bj,OY,OW];show(let k:TS:=_;aZ _ k _ _ _);intro _;let d:⇑(p.ws.map OT)=⇑p.ws:=bQ _;calc(r,_,_,_,U,U,OV c,U,i,_,U,.inl<|OU b,_,_,U,U,_,U,?_,);refine bK (λg=>?_)<|λg=>?_
 .let a:p.ws≠[]:=λz=>by
   let:=MZ g;rw[z]at this;exact MW this ⋯
  let(j,C,B):=ok.wd a;rw[PD.k_some a]at q;exact(U,r,_,_,_,U,U,OV c,U,_,i,_,U,U,OU b,(~~~0),fC (m:=12) (n:=40) (λz l=>df<|j.words z l) j.few ⋯,q,)
 .let o:p.ws=[]:=by
   let:¬ ((0:Int)<((⇑(p.ws.map OT):Nat):Int)):=λh=>g<|MX h
   rw[d]at this;exact hE.mp ∅
  let b1:bnd p.lo:=ok.b1;let b2:bnd p.hi:=ok.b2;rw[PD.k_none o]at q;let x:=len_num b1;let v:=len_num b2;calc(r,_,_,_,U,U,OV c,U,p.lo,U,iQ b1,_,_,U,U,big (by rw[iq];lia),r,_,_,_,U,U,OV c,U,p.hi,U,iQ b2,_,_,U,U,big (by rw[aK,iq];lia),q,)
def IL(F:Fun K "_law_part_text" "_law_part_text" Y60 f fd)(bl:Bl K mg Y):() 1 f fd ["domain","pair"] (gH K Y):=by
 refine F.okA Z60 λJ A l s H L Q E O h=>?_
 let(r,t,p,x,rfl,(o,_,_,i,e),ok,b,a,q):=h
 refine(_,(ao (aT (aJ gP (av au U bl.len_ MN<|aa (az aM (pv 0) ai<|λ_ _=>U) ae) ai<|aO _)
  (ag<|aE<|bx PySem.F.plainAttrs_str PySem.F.slot_str_join PySem.F.type_str_join eO aV<|aa (iN yk (az aM (pv 0) ai<|λ_ _=>U) (iz<|az aM (pv 1) ai<|λ_ _=>U)<|iz<|aH bY (az aM (pv 1) ai<|λ_ _=>U) ai) ae)
  aG)
  (ao (aT (aJ cU (az aM (pv 1) ai<|λ_ _=>U) (az aM (pv 1) ai<|λ_ _=>U)<|aO _)
  (ag<|aE<|bg cF U bl.str_ ss<|aa (az aM (pv 1) ai<|λ_ _=>U) ae)
  aG)
  (ao (aT (aJ cU (az aM (pv 1) ai<|λ_ _=>U) (az aM (pv 0) ai<|λ_ _=>U)<|aO _)
  (ag<|aE<|aH aN aV<|bg cF U bl.str_ ss<|aa (az aM (pv 1) ai<|λ_ _=>U) ae)
  aG)
  (ao (aT (aJ cU (az aM (pv 1) ai<|λ_ _=>U) (az aM (pv 0) ai<|λ_ _=>U)<|aO _)
  (ag<|aE<|aH aN (bg cF U bl.str_ ss<|aa (az aM (pv 1) ai<|λ_ _=>U) ae) aV)
  aG)
  (ag<|aE<|aH aN (aH aN (bg cF U bl.str_ ss<|aa (az aM (pv 1) ai<|λ_ _=>U) ae) aV)<|bg cF U bl.str_ ss<|aa (az aM (pv 1) ai<|λ_ _=>U) ae))))),?_,)
 dsimp only[bj,OY,OW];show(let v:TS:=_;let y:TS:=aZ _ v;let B:TS:=aZ _ y;let C:TS:=aZ _ B;aZ _ C _ _ _);intro _ _ _ _;let j:⇑(p.ws.map OT)=⇑p.ws:=bQ _;let N:=len_num a.b1;let M:=len_num a.b2;calc(r,_,_,_,U,U,OV i,U,o,_,U,.inl<|OU e,_,_,U,U,_,U,?_,);refine bK (λg=>?_)<|λg=>?_
 .let d:p.ws≠[]:=λz=>by
   let:=MZ g;rw[z]at this;exact MW this ⋯
  let(u,S,R):=ok.wd d;calc(U,r,_,_,_,U,U,OV i,U,t,_,_,_,U,U,OV b,U,_,U,t,_,_,_,U,U,OV b,U,_,_,U,U,_,U,o,_,U,OU e,λc I=>?_,);rw[vG];let k:=oj p.ws (MO x.1)<|MO<|x.2+1;let:=q _<|ah I<|.lst<|(oX p.ws (MO x.1)<|MO<|x.2+1).map OT;rw[PD.k_some d]at this;exact(_,c,_,U,U,OU af,(~~~0),fC (m:=12) (n:=40) (λz D=>df<|u.words z<|om D) (qu k u.few) ⋯,this,)
 .let G:p.ws=[]:=by
   let:¬ ((0:Int)<((⇑(p.ws.map OT):Nat):Int)):=λh=>g<|MX h
   rw[j]at this;exact hE.mp ∅
  let q:=q H<|aq.refl H;rw[PD.k_none G]at q;let q:Q (.str<|shN p.lo p.hi x) H:=q;unfold shN at q;calc(t,_,_,_,U,U,OV b,U,t,_,_,_,U,U,OV b,U,U,_,U,?_,);refine bK (λg=>?_)<|λg=>?_
  .rw[MV (iG g)]at q;exact(t,_,_,_,U,U,OV b,U,x.1,U,iQ a.b1,q,)
  rw[MU (iH g)]at q;calc(t,_,_,_,U,U,OV b,U,r,_,_,_,U,U,OV i,U,U,_,U,?_,);refine bK (λg=>?_)<|λg=>?_
  .rw[MV (iG g)]at q;exact(t,_,_,_,U,U,OV b,U,x.2,U,iQ a.b2,_,_,U,U,big (by rw[iq];lia),q,)
  rw[MU (iH g)]at q;calc(t,_,_,_,U,U,OV b,U,r,_,_,_,U,U,OV i,U,U,_,U,?_,);refine bK (λg=>?_)<|λg=>?_
  .rw[MV (iG g)]at q;exact(t,_,_,_,U,U,OV b,U,x.1,U,iQ a.b1,_,_,U,U,big (by rw[iq];lia),q,)
  rw[MU (iH g)]at q;calc(t,_,_,_,U,U,OV b,U,x.1,U,iQ a.b1,_,_,U,U,big (by rw[iq];lia),t,_,_,_,U,U,OV b,U,x.2,U,iQ a.b2,_,_,U,U,big (by rw[aK,iq];lia),q,)
def IM(F:Fun K "_law_value" "_law_value" Y68 f fd)(bl:Bl K mg Y):() 1 f fd ["domain","code"] (ke K Y):=by
 refine F.okA Z68 λv A e s H x Q E y h=>?_
 let(r,p,c,rfl,(i,_,_,k,b),ok,u,t,q):=h
 refine(_,(ao (aT (aJ gP (av au U bl.len_ MN<|aa (az aM (pv 0) ai<|λ_ _=>U) ae) ai<|aO _)
  (ag<|aE<|az aW (az aM (pv 0) ai<|λ_ _=>U) (pv 1)<|λ_ _=>U)
  aG)
  (ag<|aE<|bg cF U bl.str_ ss<|aa (pv 1) ae)),?_,)
 dsimp only[bj,OY,OW];show(let l:TS:=_;aZ _ l _ _ _);intro _;let d:⇑(p.ws.map OT)=⇑p.ws:=bQ _;calc(r,_,_,_,U,U,OV k,U,i,_,U,.inl<|OU b,_,_,U,U,_,U,?_,);refine bK (λg=>?_)<|λg=>?_
 .let a:p.ws≠[]:=λz=>by
   let:=MZ g;rw[z]at this;exact MW this ⋯
  let(B,C,o):=ok.wd a;unfold hiW at o;let j:c.toNat<⇑p.ws:=∅
  rw[PD.k_some a]at q;let q:Q (.str<|p.ws.getD c.toNat re) H:=q;rw[iY,KG j]at q;let m:atI (p.ws.map OT) c=MO (.str p.ws[c.toNat]):=by
   let z:atI (p.ws.map OT) ((c.toNat:Nat):Int)=MO (.str p.ws[c.toNat]):=aS (by rw[dn,KG j];rfl);rw[show((c.toNat:Nat):Int)=c by lia]at z;exact z
  exact(r,_,_,_,U,U,OV k,U,i,_,_,_,U,U,OU b,m,q,)
 .let n:p.ws=[]:=by
   let:¬ ((0:Int)<((⇑(p.ws.map OT):Nat):Int)):=λh=>g<|MX h
   rw[d]at this;exact hE.mp ∅
  rw[PD.k_none n]at q;calc(c,U,iQ<|ok.bd c u t,q,)
def IP(F:Fun K "_law_same_domain" "_law_same_domain" Y64 f fd)(bl:Bl K mg Y):() 1 f fd ["found","domain"] (dS K Y):=by
 refine F.okA Z64 λB A j s H C Q E u h=>?_
 let(x,r,k,p,rfl,m,(n,_,_,d,c),b,q):=h
 refine(_,(ao (aT (aJ gP (av au U bl.len_ MN<|aa (az aM (pv 1) ai<|λ_ _=>U) ae) ai<|aO _)
  (ag<|aE<|gY (av b9 U bl.isinstance_ im<|aa (pv 0)<|aa (fu (v:=.ref Y.s) U bl.Words_ U) ae)<|jU<|fP (qx u) (aP (pv 0) U) (az aM (pv 1) ai<|λ_ _=>U)<|aO _)
  aG)
  (ag<|aE<|gY (av b9 U bl.isinstance_ im<|aa (pv 0)<|aa (fu (v:=.ref Y.r) U bl.Numbers_ U) ae)<|gY (fP cU (aP (pv 0) U) (az aM (pv 1) ai<|λ_ _=>U)<|aO _)<|jU<|fP cU (aP (pv 0) U) (az aM (pv 1) ai<|λ_ _=>U)<|aO _)),?_,)
 dsimp only[bj,OY,OW];show(let o:TS:=_;aZ _ o _ _ _);intro _;let i:⇑(p.ws.map OT)=⇑p.ws:=bQ _;calc(r,_,_,_,U,U,OV d,U,n,_,U,.inl<|OU c,_,_,U,U,_,U,?_,);refine bK (λg=>?_)<|λg=>?_
 .let a:p.ws≠[]:=λz=>by
   let:=MZ g;rw[z]at this;exact MW this ⋯
  let b:k=(MO p.ws,p.lo,p.hi):=by rw[b];unfold PD.k;rw[MU a]
  subst b;let((y,l,e,f),_):=m;calc(_,_,_,_,MQ,U,.ref _,bl.t_Words.ty e,bl.f_ww,_,U,eU ?_,);calc(x,_,_,_,_,U,e,bl.k_Words,bl.na_Words_words,U,r,_,_,_,U,U,OV d,U,?_,);exact tF (OU f) (OU c) (by simp) q
 .let a:p.ws=[]:=by
   by_cases z:p.ws=[]
   .exact z
   .let:0<⇑p.ws:=List.length_pos_iff.mpr z;exact MW (by rw[i];exact MX ∅) g
  let b:k=(MP,p.lo,p.hi):=by rw[b];unfold PD.k;rw[MV a]
  subst b;let(y,e):=m;calc(_,_,_,_,MQ,U,.ref _,bl.t_Numbers.ty e,bl.f_nn,_,U,eU ?_,);calc(x,_,_,_,_,U,e,bl.k_Numbers,bl.na_Numbers_low,U,r,_,_,_,U,U,OV d,U,U,_,U,sY U ?_,);calc(x,_,_,_,_,U,e,bl.k_Numbers,bl.na_Numbers_high,U,r,_,_,_,U,U,OV d,U,U,?_,);let t:Q (.bl<|MS<|pi p.hi=pi p.hi) H:=by rw[MX U];exact q
  calc t
def IQ(F:Fun K "written" "Words.written" Y34 f fd)(bl:Bl K mg Y):() 1 f fd ["self"] (cI K Y):=by
 refine F.okA Z34 λk A d s H o Q E p h=>?_
 let(a,l,b,rfl,(r,g,j,c),e,q):=h;calc(_,(ag<|aE<|bx PySem.F.plainAttrs_str PySem.F.slot_str_join PySem.F.type_str_join eO aV<|aa (aP (pv 0) U) ae),?_,);calc(U,a,_,_,_,_,U,j,bl.k_Words,bl.na_Words_words,U,_,g,_,U,U,OU c,(~~~0),fC (m:=12) (n:=40) (λz i=>df<|e.words z i) e.few ⋯,q,)
def IS(F:Fun K "value_at" "Numbers.value_at" Y19 f fd)(bl:Bl K mg Y):() 1 f fd ["self","code"] (cJ K Y):=by
 refine F.okA Z19 λd A b s H e Q E g h=>?_
 let(a,c,rfl,q):=h;calc(_,(ag<|aE<|pv 1),?_,);calc q
def IT(F:Fun K "value_at" "Words.value_at" Y33 f fd)(bl:Bl K mg Y):() 1 f fd ["self","code"] (dE K Y):=by
 refine F.okA Z33 λk A b s H m Q E n h=>?_
 let(a,d,c,z,rfl,(p,l,j,i),o,g,q):=h;calc(_,(ag<|aE<|az aW (aP (pv 0) U) (pv 1)<|λ_ _=>U),?_,);let e:atI (d.map OT) c=MO (.str z):=by
  let q:atI (d.map OT) ((c.toNat:Nat):Int)=MO (.str z):=aS (by rw[dn,g];rfl);rw[show((c.toNat:Nat):Int)=c by lia]at q;exact q
 calc(a,_,_,_,_,U,j,bl.k_Words,bl.na_Words_words,U,l,_,_,_,U,U,OU i,e,q,)
def O_7(F:Fun K "whole" "Domain.whole" Y7 f fd)(bl:Bl K mg Y):() 1 f fd ["self"] (bL K Y):=by
 refine F.okA Z7 λg A d s H i Q E j h=>?_
 let(a,lo,hi,rfl,(k,e),q):=h;calc(_,(ag<|aE<|bP<|aa (bH<|aa (aP (pv 0) U)<|aa (aP (pv 0) U) ae) ae),?_,);refine(a,_,_,_,_,U,e,bl.k_Numbers,bl.na_Numbers_low,U,a,_,_,_,_,U,e,bl.k_Numbers,bl.na_Numbers_high,U,(by show 2≤AY;decide),λt b=>((by show 1≤AY;decide),λl c=>?_,),);calc q l t _ ((ah b _).trans<|ah c _) ((ah b _).free c) af<|tK b c
def O_8(F:Fun K "whole" "Domain.whole" Y8 f fd)(bl:Bl K mg Y):() 1 f fd ["self"] (b5 K Y):=by
 refine F.okA Z8 λg A d s H k Q E m h=>?_
 let(a,i,rfl,(n,j,e,_),q):=h;calc(_,(ag<|aE<|bP<|aa (bH<|aa (aP (pv 0) U)<|aa (aP (pv 0) U) ae) ae),?_,);refine(a,_,_,_,_,U,e,bl.k_Words,bl.na_Words_low,U,a,_,_,_,_,U,e,bl.k_Words,bl.na_Words_high,U,(by show 2≤AY;decide),λt b=>((by show 1≤AY;decide),λl c=>?_,),);calc q l t _ ((ah b _).trans<|ah c _) ((ah b _).free c) af<|tK b c
def IU(F:Fun K "__init__" "Draft.__init__" Y11 f fd)(bl:Bl K mg Y):() 1 f fd ["self","name","columns","domain","way"] (dF K Y):=by
 refine F.okA Z11 λu A j s H v Q E y h=>?_
 let(x,g,B,n,d,w,rfl,t,q):=h
 refine(_,(ao (cG (pv 0) (pv 1) U)
  (ao (cG (pv 0) (pv 2) U)
  (ao (cG (pv 0) (pv 3) U)
  (ao (cG (pv 0) (pv 4) U)
  (ag<|cG (pv 0) (bP ae) U))))),?_,)
 dsimp only[bj,OY,OW];show(let k:TS:=_;let m:TS:=aZ _ k;let p:TS:=aZ _ m;let r:TS:=aZ _ p;aZ _ r _ _ _);intro _ _ _ _;refine(x,_,g,_,U,t,bl.k_Draft,bl.na_Draft_name,(by show 0<1000;decide),?_,);refine(x,_,g,_,U,af,bl.k_Draft,bl.na_Draft_columns,(by show 1<1000;decide),?_,);refine(x,_,g,_,U,af,bl.k_Draft,bl.na_Draft_domain,(by show 2<1000;decide),?_,);refine(x,_,g,_,U,af,bl.k_Draft,bl.na_Draft_way,(by show 3<1000;decide),?_,);refine((by show 0≤AY;decide),λl i=>?_,);let a:l≠x:=λz=>by rw[z,af]at i;cases i
 let fl:H l=none:=by rw[ay a,ay a,ay a,ay a]at i;exact i
 refine(x,_,g,_,U,(ay<|FM a).trans af,bl.k_Draft,bl.na_Draft_rows,(by show 4<1000;decide),?_,);calc q l _ fl ((ay a).trans af) af<|λb o c e=>(ay c).trans<|(ay (λz=>by rw[z,fl]at e;cases e)).trans ((ay c).trans<|(ay c).trans<|(ay c).trans<|(ay c).trans e)
def IV(F:Fun K "__init__" "Way.__init__" Y24 f fd)(bl:Bl K mg Y):() 1 f fd ["self","called"] (ee K Y):=by
 refine F.okA Z24 λd A a s H e Q E g h=>?_
 let(x,c,z,rfl,b,q):=h;calc(_,(ag<|cG (pv 0) (pv 1) U),?_,);calc(x,_,c,_,U,b,bl.k_First,bl.na_First_called,(by show 0<1000;decide),q,)
def IW(F:Fun K "__init__" "Way.__init__" Y28 f fd)(bl:Bl K mg Y):() 1 f fd ["self","called"] (fg K Y):=by
 refine F.okA Z28 λd A a s H e Q E g h=>?_
 let(x,c,z,rfl,b,q):=h;calc(_,(ag<|cG (pv 0) (pv 1) U),?_,);calc(x,_,c,_,U,b,bl.k_Only,bl.na_Only_called,(by show 0<1000;decide),q,)
def IX(F:Fun K "__init__" "Way.__init__" Y26 f fd)(bl:Bl K mg Y):() 1 f fd ["self","called"] (fh K Y):=by
 refine F.okA Z26 λd A a s H e Q E g h=>?_
 let(x,c,z,rfl,b,q):=h;calc(_,(ag<|cG (pv 0) (pv 1) U),?_,);calc(x,_,c,_,U,b,bl.k_Like,bl.na_Like_called,(by show 0<1000;decide),q,)
def IY(F:Fun K "__init__" "Way.__init__" Y27 f fd)(bl:Bl K mg Y):() 1 f fd ["self","called"] (fF K Y):=by
 refine F.okA Z27 λd A a s H e Q E g h=>?_
 let(x,c,z,rfl,b,q):=h;calc(_,(ag<|cG (pv 0) (pv 1) U),?_,);calc(x,_,c,_,U,b,bl.k_Low,bl.na_Low_called,(by show 0<1000;decide),q,)
def IZ(F:Fun K "__init__" "Way.__init__" Y25 f fd)(bl:Bl K mg Y):() 1 f fd ["self","called"] (fi K Y):=by
 refine F.okA Z25 λd A a s H e Q E g h=>?_
 let(x,c,z,rfl,b,q):=h;calc(_,(ag<|cG (pv 0) (pv 1) U),?_,);calc(x,_,c,_,U,b,bl.k_High,bl.na_High_called,(by show 0<1000;decide),q,)
def Ja(F:Fun K "__init__" "Way.__init__" Y29 f fd)(bl:Bl K mg Y):() 1 f fd ["self","called"] (fG K Y):=by
 refine F.okA Z29 λd A a s H e Q E g h=>?_
 let(x,c,z,rfl,b,q):=h;calc(_,(ag<|cG (pv 0) (pv 1) U),?_,);calc(x,_,c,_,U,b,bl.k_Sum,bl.na_Sum_called,(by show 0<1000;decide),q,)
def Jb(F:Fun K "borne_code" "Numbers.borne_code" Y18 f fd)(bl:Bl K mg Y):() 1 f fd ["self","value"] (cm K Y):=by
 refine F.okA Z18 λc A b s H d Q E e h=>?_
 let(a,v,rfl,q):=h;calc(_,(ag<|aE<|pv 1),?_,);calc q
def Jc(F:Fun K "borne_code" "Words.borne_code" Y32 f fd)(bl:Bl K mg Y):() 1 f fd ["self","value"] (cX K Y):=by
 refine F.okA Z32 λn A b s H o Q E p h=>?_
 let(a,g,z,j,rfl,(r,lw,l,c),d,q):=h;calc(_,(ag<|aE<|bx PySem.F.plainAttrs_list PySem.F.slot_list_index PySem.F.type_list_index AM (aP (pv 0) U)<|aa (pv 1) ae),?_,);refine(a,_,_,_,_,U,l,bl.k_Words,bl.na_Words_words,U,.inl (U,_,OU c,),lw,_,_,.str z,j,U,U,OU c,U,jI g,fL d.1,by simp[eqV],λm u k i=>?_,q,);let(y,rfl,e):=cg i;let:=d.2 m y k e;simp[eqV,this]
def Jd(F:Fun K "bears" "Words.bears" Y31 f fd)(bl:Bl K mg Y):() 1 f fd ["self","value"] (fj K Y):=by
 refine F.okA Z31 λi A b s H j Q E k h=>?_
 let(a,c,v,rfl,(l,lw,g,e),d,q):=h;refine(_,(ag<|aE<|fP sJ (pv 1) (aP (pv 0) U) (by with_unfolding_all rfl)),?_,);calc(a,_,_,_,_,U,g,bl.k_Words,bl.na_Words_words,U,lw,_,U,.inl<|OU e,CV d,jI c,?_,);show Q (.bl<|inV v<|c.map OT) H;rw[GG _ _ d];calc q
def O_2(F:Fun K "__init__" "Domain.__init__" Y2 f fd)(bl:Bl K mg Y):() 1 f fd ["self","low","high"] (dq K Y):=by
 refine F.okA Z2 λe A b s H g Q E i h=>?_
 let(x,a,lo,hi,rfl,d,q):=h
 refine(_,(ao (cG (pv 0) (pv 1) U)
  (ag<|cG (pv 0) (pv 2) U)),?_,)
 dsimp only[bj,OY,OW];show(let c:TS:=_;aZ _ c _ _ _);intro _;refine(x,_,a,_,U,d,bl.k_Words,bl.na_Words_low,(by show 0<1000;decide),x,_,a,_,U,af,bl.k_Words,bl.na_Words_high,(by show 1<1000;decide),?_,);show Q .non (upd (upd H x<|.ins Y.s a [("low",.int lo)]) x<|.ins Y.s a<|bX "high" (.int hi) [("low",.int lo)]);rw[put2];calc q
def O_1(F:Fun K "__init__" "Domain.__init__" Y1 f fd)(bl:Bl K mg Y):() 1 f fd ["self","low","high"] (cM K Y):=by
 refine F.okA Z1 λe A b s H g Q E i h=>?_
 let(x,a,lo,hi,rfl,d,q):=h
 refine(_,(ao (cG (pv 0) (pv 1) U)
  (ag<|cG (pv 0) (pv 2) U)),?_,)
 dsimp only[bj,OY,OW];show(let c:TS:=_;aZ _ c _ _ _);intro _;refine(x,_,a,_,U,d,bl.k_Numbers,bl.na_Numbers_low,(by show 0<1000;decide),x,_,a,_,U,af,bl.k_Numbers,bl.na_Numbers_high,(by show 1<1000;decide),?_,);show Q .non (upd (upd H x<|.ins Y.r a [("low",.int lo)]) x<|.ins Y.r a<|bX "high" (.int hi) [("low",.int lo)]);rw[put2];calc q
def Je(F:Fun K "is_word" "is_word" Y49 f fd)(bl:Bl K mg Y)(g:⟨⟩ 1 "all_among" ["text","signs"] (iB K Y)):() 2 f fd ["text"] (gI K Y):=by
 refine F.okA Z49 λk A d s H l Q E j h=>?_
 let(z,rfl,i,q):=h;calc(_,(ag<|aE<|gY (nJ gA gA ai (av fz U bl.len_ MN<|aa (pv 0) ae)<|bA U bl.MOST_SIGNS_)<|gY (fP lq (pv 0) aV<|aO _)<|jU<|aQ g j U<|aa (pv 0)<|aa (bA U bl.SMALL_LETTERS_) ae),?_,);calc(_,U,big i,_,_,U,U,_,U,?_,);refine bK (λc=>?_)<|λc=>?_
 .refine(_,_,U,U,_,U,?_,);refine bK (λb=>?_)<|λb=>?_
  .refine(U,_,U,?_,);refine bK (λa=>?_)<|λa=>?_
   .refine(z,lets,U,?_,);let e:isw z=jG z lets:=by unfold isw;rw[c,b,a];rfl
    rw[e]at q;exact q
   .let e:isw z=false:=by unfold isw;rw[wi.mpr a,ww,Nf,Nf]
    rw[e]at q;exact q
  .let e:isw z=false:=by unfold isw;rw[wi.mpr b,ww,Nf]
   rw[e]at q;exact q
 .let e:isw z=false:=by unfold isw;rw[wi.mpr c,ww]
  rw[e]at q;calc(_,U,bI q,)
def Jf(F:Fun K "is_number" "is_number" Y47 f fd)(bl:Bl K mg Y)(r:⟨⟩ 1 "all_among" ["text","signs"] (iB K Y)):() 2 f fd ["text"] (iD K Y):=by
 refine F.okA Z47 λx A k s H y Q E t h=>?_
 let(z,rfl,l,q):=h
 refine(_,(ao (aT (aJ cU (pv 0) aV<|aO _)
  (ag<|aE kN)
  aG)
  (aw (aL (i:=1) Z47.nd U (bv U)<|nI (bG<|bx PySem.F.plainAttrs_str PySem.F.slot_str_startswith PySem.F.type_str_startswith fI (pv 0)<|aa aV ae) (iN qD (pv 0) (iz ai) nM)<|pv 0)
  (ag<|aE<|gY (nJ gA gA ai (av fz U bl.len_ MN<|aa (pv 1) ae)<|bA U bl.MOST_FIGURES_)<|gY (fP lq (az tV (pv 1) ai<|λ_ _=>U) aV<|aO _)<|jU<|aQ r t U<|aa (pv 1)<|aa (bA U bl.FIGURES_) ae))),?_,)
 dsimp only[bj,OY,OW];show(let n:TS:=_;let o:TS:=a9 _ n;aZ _ o _ _ _);intro _ _;calc(U,_,U,?_,);refine bK (λg=>?_)<|λg=>?_
 .let e:isn z=true:=by unfold isn;rw[g];rfl
  rw[e]at q;exact q
 refine(λj m=>j=[MO (.str z),MO (.str<|cw z)]∧m=H,?_,?_,)
 .refine(U,_,_,U,U,_,U,?_,);refine bK (λa=>?_)<|λa=>?_
  .let e:cw z=GE z (MO 1) none:=by unfold cw;rw[MV a]
   rw[e];exact(_,U,_,U,big l,U,U,)
  .let e:cw z=z:=by unfold cw;rw[MU a]
   rw[e];exact(U,U,)
 rintro v m ⟨rfl,u⟩;rw[u];let b:⇑(cw z)≤1000:=qu (BB z) l;let p:isn z=(MS ((1:Int)≤((⇑(cw z):Nat):Int)) && (MS (((⇑(cw z):Nat):Int)≤60) && (!MS (OT ⟨#[(cw z).cps.toList.headD 0]⟩=OT "0") && jG (cw z) ten))):=by
  unfold isn;rw[wi.mpr g,M2]
 rw[p]at q;generalize cw z=f at q b⊢;calc(_,U,big b,_,_,U,U,_,U,?_,);refine bK (λa=>?_)<|λa=>?_
 .let B:(1:Int)≤((⇑f:Nat):Int):=fZ a;rw[a,Ix]at q;calc(_,_,U,U,_,U,?_,);refine bK (λd=>?_)<|λd=>?_
  .rw[d,Ix]at q;calc(_,_,_,U,U,big b,CY ∅,U,_,U,?_,);refine bK (λc=>?_)<|λc=>?_
   .rw[c,Ix]at q;exact(f,ten,U,q,)
   .rw[wi.mpr c,ww]at q;exact q
  .rw[wi.mpr d,ww]at q;exact q
 .rw[wi.mpr a,ww]at q;calc(_,U,bI q,)
def Jg(F:Fun K "refuse_domains" "refuse_domains" Y88 f fd)(bl:Bl K mg Y)(Dr:⟨⟩ 1 "alike" ["one","other"] (rC K Y)):aU P w K mg base (CX1 P w) 2 f fd ["facts","tables"] (gj K Y):=by
 refine F.okEA Z88 λe8 A d2 s H vs Q E hr h=>?_
 let(fa,ma,W,mv,fs,m,rfl,d0,L,S,hN,q,qE):=h
 refine(_,(aw (aL (i:=2) Z88.nd U (bv U)<|bg (qM U) U bl.dict_ NV<|aa (aH qv (pv 0)<|bZ (aR<|pv 1) (dN U (~~~0) (~~~0) (~~~0) U) U (λ_ _ _ _=>aX)<|λ_ _ _ _=>(bH<|aa (ja (K:=K) U (pv 0) U)<|aa (ja (K:=K) U (pv 0) U) ae)) ae)
  (ag (bB (iJ U U U) U (aR<|pv 1) (aC (i:=3) Z88.nd U<|bv U)
  (ag (bB (iJ U U U) U (ud U bl.zip_<|aa (aP (pv 3) U)<|aa (aP (pv 3) U) ae) (d8 U<|aI (aC (i:=4) Z88.nd U<|bv U)<|aI (aC (i:=5) Z88.nd U<|bv U) br)
  (ag (aT (cE<|bG<|aQ Dr hr U<|aa (pv 5)<|aa (az og (pv 2) (pv 4)<|λ_ _=>U) ae)
  (ag<|dc bl.x_Unlike hr.hd U bl.Unlike_<|aa (ED<|pv 4) ae)
  aG))))))),?_,)
 dsimp only[bj,OY,OW];show(let r1:TS:=_;a9 _ r1 _ _ _);intro _;let(b1,b2):=S.few;let c0:W.length=⇑fs:=S.facts.1;let a2:⇑mv=⇑m:=S.tabs.1;refine(let I_:St→Hp→Prop:=λa8 l=>aq H l∧E2 λ(N:AE)(b:M3 (Str×V))=>A3 (l N=MO (.dK<|kvT b)) (Ij Y.r Y.s l fs m b)<|a8=[↑fa,↑ma,↑N,MP,MP,MP];(I_,?_,?_,))
 .refine(ma,U,(_,OU L,),bC (xs:=mv) (λD i ys l=>aq H l∧l D=MO (.lst ys)∧ak ys (m.take i) (λp t=>∃d:AE,l p=MO (.tup [.str t.nm,.ref d])∧cS Y.r Y.s H d t.o)) (λD hD=>(ah hD _,af,ak.nil,)) (λD i ys l hD _ h=>OU<|h.1 _ _ L) (λD i y ys l hD e h=>?_)<|λD ys l hD h=>?_,)
  .let(B,eD,hy):=h;let(t_,t,rfl,I,ou,dv,g4,g5,g6):=ak.get S.tabs e;let(rl,dx,na,dl,c8,xs,R,f1,f2,f3,f4,f5,f6,Z,a0,c9,hR,kS):=g4;let hi:i<⇑mv:=(KH.mp e).1;calc(t_,_,_,_,_,U,B _ _ R,bl.k_Table,bl.na_Table_name,f2,t_,_,_,_,_,U,B _ _ R,bl.k_Table,bl.na_Table_outcome,f4,eX,λp hp=>?_,);let u:=ah hp<|.tup [.str t.nm,.ref ou];let ep:upd l p (.tup [.str t.nm,.ref ou]) p=MO (.tup [.str t.nm,.ref ou]):=af;generalize upd l p (.tup [.str t.nm,.ref ou])=v at u ep⊢;let a7:=u _ _ eD;let a1:=hy.1;rw[eH]at a1;calc b7.mk hi a7 (aD ∅) ((B.trans u).upd hD,af,?_,);rw[take_snoc I];let O:ak (ys++[.ref p]) (m.take i++[t]) (λp t=>∃d:AE,v p=MO (.tup [.str t.nm,.ref d])∧cS Y.r Y.s H d t.o):=ak.snoc (ak.mono hy λ_ _ (d,h1,h2,)=>(d,u _ _ h1,h2,)) (ou,ep,g6,);exact ak.mono O λ_ _ (d,h1,h2,)=>(d,(ay<|dM h1 a7 (by intro z;cases z)).trans h1,h2,)
  .let(B,eD,hy):=h;rw[a2,dY]at hy;let a1:=hy.1;calc(fa,D,_,_,U,U,B _ _ d0,eD,rM<|aD ∅,λp hp=>?_,);let u:=ah hp<|.lst<|W++ys;let ep:upd l p (.lst<|W++ys) p=MO (.lst<|W++ys):=af;generalize upd l p (.lst<|W++ys)=v at u ep⊢;let G:=B.trans u;let e7:⇑(fO fs m)=⇑fs+⇑m:=by unfold fO;rw[dV,bQ]
   let(b,a3,X):=qe (P:=λj (a:Str×V)=>∃(t:AE)(d:AE)(k:Dk),(W++ys)[j]?=↑t∧v t=MO (.tup [.str a.1,.ref d])∧a.2=.ref d∧(fO fs m)[j]?=MO (a.1,k)∧cS Y.r Y.s v d k) (⇑fs+⇑m) λj hj=>by
    by_cases a4:j<⇑fs
    .let ef:=KG a4;let(r,er,d,h3,h4):=S.facts.2 j _ ef;refine((fs[j].1,.ref d),r,d,fs[j].2,by rw[ft ∅];exact er,G _ _ h3,U,?_,h4.same G,);unfold fO;rw[ft a4];exact ef
    .let b3:j-⇑fs<⇑m:=∅
     have I:=KG b3;let(r,er,d,h3,h4):=hy.2 _ _ I;refine((m[j-⇑fs].nm,.ref d),r,d,m[j-⇑fs].o,by rw[fV ∅,c0];exact er,u _ _ h3,U,?_,h4.same G,);unfold fO;rw[fV ∅,dn,I];rfl
   let pO:b.map (·.1)=bN fs m:=by
    rw[←tG];refine ik λj=>?_
    rw[dn,dn];cases e:b[j]? with
    |none =>
     have e6:⇑b≤j:=by rw[AC]at e;exact e
     rw[ia ∅];rfl
    |some a =>
     let(t,d,k,_,_,_,e4,_):=X j a e;rw[e4];rfl
   refine(p,W++ys,b,U,ep,by rw[dV,a3];lia,λj a ea=>?_,by rw[pO];exact hN.nd,λN c1=>?_,)
   .let(t,d,k,J,M,e3,_):=X j a ea;exact(t,J,by rw[e3];exact M,)
   .let u2:=ah c1<|.dK<|kvT b;calc(G.trans u2,N,b,af,λz O=>?_,U,);rw[←pO]at O;let(a,ha,rfl):=ck.mp O;let(i,ei):=gu ha;let(t,d,k,J,M,e3,e4,e5):=X i a ei;calc(d,k,?_,KJ e4,e5.same u2,);rw[←e3];exact yG (by rw[pO];exact hN.nd) ei
 rintro d3 H1 ⟨s1,N,b,d1,Dj,rfl⟩;refine(ma,U,(_,OU<|s1 _ _ L,),bp (xs:=mv) (λi C l=>aq H1 l∧(∀t∈m.take i,∀(i:Nat)(c:Str)(k n:Dk),t.cs[i]?=MO c→t.ks[i]?=MO k→(c,n)∈fO fs m→lkD k n=MQ)∧E3 λc3 c4 c5:Option V=>C=[↑fa,↑ma,↑N,c3,c4,c5]) (aq.refl _,(λt R=>by simp at R),_,_,_,U,) (λi C l _ h=>OU<|h.1 _ _<|s1 _ _ L) (λi y C l e h=>?_) (λC l h=>by rw[a2,dY]at h;exact q h.2.1 l (s1.trans h.1)),);let(B,c7,c3,c4,c5,rfl):=h;let(t_,t,rfl,I,ou,dv,g4,g5,g6):=ak.get S.tabs e;let(rl,dx,na,dl,c8,xs,R,f1,f2,f3,f4,f5,f6,Z,a0,c9,hR,kS):=g4;let(b0,h4,a3):=S.st t<|KJ I;let Jh:⇑dv=⇑t.ks:=g5.1;let sA:=s1.trans B;refine(t_,_,_,_,_,U,sA _ _ R,bl.k_Table,bl.na_Table_names,f5,t_,_,_,_,_,U,sA _ _ R,bl.k_Table,bl.na_Table_domains,f6,na,dl,U,(_,OU<|sA _ _ Z,),(_,OU<|sA _ _ a0,),yv (xs:=t.cs.map OT) (ys:=dv) (λi C v=>aq l v∧(∀(j:Nat)(c:Str)(k n:Dk),j<i→t.cs[j]?=MO c→t.ks[j]?=MO k→(c,n)∈fO fs m→lkD k n=MQ)∧E2 λc4 c5:Option V=>C=[↑fa,↑ma,↑N,↑t_,c4,c5]) (aq.refl _,(λj c k n hj=>∅),_,_,U,) (λi C v h=>(OU<|(sA.trans h.1) _ _ Z,OU<|(sA.trans h.1) _ _ a0,)) (λi x y C v T ex ey h hT=>?_)<|λC v h=>?_,)
 .let(G,hc,d4,d5,rfl):=h;let(z,rfl,ez):=cg ex;let(a,kk,rfl,a6,ha):=ak.get g5 ey;let(d,k,c6,a5,c2):=Dj z<|hN.al t (KJ I) z<|KJ ez;let O:=b0 z<|KJ ez;let e0:=O.1;let u:=ah hT<|.tup [.str z,.ref a];let eT:upd v T (.tup [.str z,.ref a]) T=MO (.tup [.str z,.ref a]):=af;generalize upd v T (.tup [.str z,.ref a])=H3 at u eT⊢;let sB:=(B.trans G).trans u;calc(T,_,U,OV eT,U,_,_,U,_,_,U,U,?_,);calc(N,b,z,.ref d,U,U,sB _ _ d1,c6,a,d,kk,k,U,(ha.same s1).same sB,c2.same sB,_,U,?_,);cases hl:lkD kk k with
  |true =>
   calc bI (G.trans u,(λj c k1 k2 hj J M e3=>?_),_,_,U,);by_cases b4:j<i
   .exact hc j c k1 k2 b4 J M e3
   .let:j=i:=∅
    subst this;rw[ez]at J;rw[a6]at M;cases J;cases M;rw[CT hN.nd e3 a5];exact hl
  |false=>exact eU ⟨(~~~0),z,U,∅,O.2,(~~~0),λz2=>⟨(by show 1≤AY;decide),qE (λg=>by have:=g t (KJ I) i z kk k ez a6 a5;rw[hl]at this;cases this) H3 (s1.trans sB)⟩⟩
 .let(G,hc,c4,c5,M):=h;calc(B.trans G,mm (P:=λt:BT=>∀(i:Nat)(c:Str)(k n:Dk),t.cs[i]?=MO c→t.ks[i]?=MO k→(c,n)∈fO fs m→lkD k n=MQ) I c7<|λj c k n J=>hc j c k n ?_ J,_,c4,c5,M,);let:=(KH.mp J).1;rw[bQ,Jh];lia
def GO(F:Fun K "refuse_rings" "refuse_rings" Y94 f fd)(bl:Bl K mg Y)(rX:⟨⟩ 1 "named_among" ["table","names"] (iV K Y)):aU P w K mg base (CX1 P w) 2 f fd ["tables"] (hV K Y):=by
 refine F.okEA Z94 λc8 A a7 s H vs Q E hr h=>?_
 let(ma,mv,D,rfl,a5,hm,h7,h4,q):=h
 refine(_,(ao (aL (i:=1) Z94.nd U (bv U)<|pv 0)
  (ag (vc (iJ U U U) (fH (pv 1) (by intro _;rfl))
  (aw (aL (i:=2) Z94.nd U (pc U)<|bZ (aR<|pv 1) (dN U (~~~0) (~~~0) (~~~0) U) U (λ_ _ _ _=>aX)<|λ_ _ _ _=>(ja (K:=K) U (pv 0) U))
  (aw (i5 (i:=3) Z94.nd U (bv U) (aR<|pv 1) (bc (N:=["table","names"]) (fr:=[2]) (cl:=[("names",↥s+1)]) U U (~~~0) (~~~0) U (~~~0) U U U (eN.mpr (U,fW _,)) U) U (λ_ _ _ _=>(tY<|zA (K:=K) U<|aQ rX hr U<|aa (pv 0)<|aa (pv 1) ae))<|λ_ _ _ _=>(pv 0))
  (ao (aT (aJ cU (av au U bl.len_ MN<|aa (pv 3) ae) (av au U bl.len_ MN<|aa (pv 1) ae)<|aO _)
  (ag<|dc bl.x_Ring hr.hd U bl.Ring_<|aa aV ae)
  aG)
  (ag<|aL (i:=1) Z94.nd U (bv U)<|pv 3))))))),?_,)
 dsimp only[bj,OY,OW];show(let r1:TS:=_;aZ _ r1 _ _ _);intro _;calc ?_;calc(let G:Nat→St→Hp→Prop:=λm σ x=>aq H x∧∃(u:AE)(j:M3 V)(L:M3 BT)(c2 c3:Option V),x u=MO (.lst j)∧ak j L (TbG Y.t Y.r Y.s H)∧(∀t∈L,t∈D)∧L.length=m∧m≤100∧(∀S:M3 Str,(∀t∈D,t.nm∈S→∃c∈t.cs,c∈S)→(∀c∈S,c∈D.map BT.nm)→∀t∈D,t.nm∈S→t∈L)∧σ=[↑ma,↑u,c2,c3];(G,(_,aq.refl _,ma,mv,D,_,_,a5,hm,(λ_ h=>h),U,h7,(λ_ _ _ _ h _=>h),U,),?_,));rintro m σ H1 ⟨s1,u,j,b,c2,c3,d,hv,t8,a8,c0,T,rfl⟩;let I:⇑j=⇑b:=hv.1;by_cases J:b=[]
 .let a6:j=[]:=hE.mp (by rw[I,J];rfl);subst a6;calc(MR,.inl (_,OU d,U,),bI ?_,);rcases q with⟨_,q⟩|⟨⟨S,⟨t,ht,hS⟩,h1,h2⟩,_⟩
  .exact q H1 s1
  .let:=T S h1 h2 t ht hS;rw[J]at this;cases this
 let hb:(!j.isEmpty)=true:=by
  cases j with
  |nil=>exact MW (hE.mp I.symm) J
  |cons=>rfl
 calc⟨MQ,.inl (_,OU d,hb.symm,),eU (λB x=>∃m',m'<m∧aq H x∧∃(u:AE)(j:M3 V)(L:M3 BT)(c2 c3:Option V),x u=MO (.lst j)∧ak j L (TbG Y.t Y.r Y.s H)∧(∀t∈L,t∈D)∧L.length=m'∧m'≤100∧(∀S:M3 Str,(∀t∈D,t.nm∈S→∃c∈t.cs,c∈S)→(∀c∈S,c∈D.map BT.nm)→∀t∈D,t.nm∈S→t∈L)∧B=[↑ma,↑u,c2,c3],λ_ _ h=>h,?_,)⟩;refine(let G:St→Hp→Prop:=λB x=>aq H1 x∧∃na:AE,x na=MO (.lst<|(b.map BT.nm).map OT)∧B=[↑ma,↑u,↑na,c3];(G,?_,?_,))
 .refine(u,U,(_,OU d,),(let G:AE→Nat→M3 V→Hp→Prop:=λo i n M=>aq H1 M∧M o=MO (.lst n)∧n=((b.take i).map BT.nm).map OT;bC (xs:=j) G (λo a=>(ah a _,af,U,)) (λo i n M a _ h=>OU<|h.1 _ _ d) (λo i y n M a e h=>?_) (λo n M a h=>?_)),)
  .let(C,g,rfl):=h;let(t_,t,rfl,ek,ou,dv,g4,g5,g6):=ak.get hv e;let(rl,dx,na,dl,fs,xs,ht,f1,f2,f3,f4,f5,f6,a1,c7,c6,hR,kS):=g4;let hi:i<⇑j:=(KH.mp e).1;refine(t_,_,_,_,_,U,(s1.trans C) _ _ ht,bl.k_Table,bl.na_Table_name,f2,b7.mk hi g (aD (by rw[bQ,bQ,eH];lia)) (C.upd a,af,?_,),);rw[take_snoc ek,dy,dy];rfl
  .let(C,g,rfl):=h;rw[I,dY]at g;exact(C,o,g,U,)
 rintro b3 M ⟨C,na,a1,rfl⟩;let R:=s1.trans C;refine(let G:St→Hp→Prop:=λB x=>aq M x∧∃(Z:AE)(X:M3 V),x Z=MO (.lst X)∧ak X (b.filter<|wtg<|b.map BT.nm) (TbG Y.t Y.r Y.s H)∧B=[↑ma,↑u,↑na,↑Z];(G,?_,?_,))
 .refine(u,U,(_,OU<|C _ _ d,),(let G:AE→Nat→M3 V→Hp→Prop:=λo i n O=>aq M O∧O o=MO (.lst n)∧ak n ((b.take i).filter<|wtg<|b.map BT.nm) (TbG Y.t Y.r Y.s H);bC (xs:=j) G (λo a=>(ah a _,af,ak.nil,)) (λo i n O a _ h=>OU<|(C.trans h.1) _ _ d) (λo i y n O a e h=>?_) (λo n O a h=>?_)),)
  .let(v,g,hy):=h;let(t_,t,rfl,ek,hT):=ak.get hv e;let(ou,dv,g4,g5,g6):=id hT;let hi:i<⇑j:=(KH.mp e).1;let sA:=R.trans v;let c5:=h4 t<|t8 t<|KJ ek;calc(t_,na,ou,t.nm,t.way,t.cs,b.map BT.nm,dv,t.rws,U,g4.same sA,v _ _ a1,∅,λl H4 s4 nl el=>?_,);let hw:=zK (t:=t) (ns:=b.map BT.nm);let a2:=s4 _ _ g;let c4:⇑((b.take i).filter<|wtg<|b.map BT.nm)≤i:=qu (oK ..) (by rw[eH];lia);let hf:=zJ (p:=wtg<|b.map BT.nm) ek;refine(wtg (b.map BT.nm) t,.inl (_,OU el,?_,),?_,)
   .rw[←hw];cases t.cs.filter λz=>(b.map BT.nm).contains z <;> rfl
   cases hc:wtg (b.map BT.nm) t with
   |true =>
    rw[hc]at hf;refine eU (b7.mk hi a2 (aD (by rw[hy.1];lia)) ((v.trans s4).upd a,af,?_,));rw[hf];exact ak.snoc hy hT
   |false =>
    rw[hc]at hf;calc bI<|ly.mk (zs:=n) hi (v.trans s4,a2,?_,);rw[hf];simpa using hy
  .let(v,g,hy):=h;rw[I,dY]at hy;exact(v,o,n,g,hy,U,)
 rintro b0 O ⟨v,Z,X,W,hw,rfl⟩;let b4:X.length=⇑(b.filter<|wtg<|b.map BT.nm):=hw.1;let c1:=oK (wtg<|b.map BT.nm) b;by_cases a4:X.length=⇑j
 .refine(Z,_,U,.inl<|OU W,u,_,U,.inl<|OU<|v _ _<|C _ _ d,U,_,U,sY (by rw[a4]) ?_,);rcases q with⟨hr,_⟩|⟨_,qE⟩
  .let:=Bv hr t8 J;lia
  .exact((by show 1≤AY;decide),qE O<|R.trans v,)
 .refine(Z,_,U,.inl<|OU W,u,_,U,.inl<|OU<|v _ _<|C _ _ d,U,_,U,jb (λz=>by injection z with z;lia) ?_,);calc(_,∅,R.trans v,Z,X,_,_,_,W,hw,(λk hk=>t8 k (mH.mp hk).1),U,∅,(λS h1 h2 t ht hS=>mH.mpr (T S h1 h2 t ht hS,?_,)),U,);let(c,hc,a0):=h1 t ht hS;let(t',a3,rfl):=ck.mp<|h2 c a0;unfold wtg;rw[iv];calc(_,hc,by simpa using(t',T S h1 h2 t' a3 a0,U,),)
def GP(F:Fun K "without" "without" EG f fd)(bl:Bl K mg Y)(Fu:⟨⟩ 1 "both" ["ones","others"] (uE K Y))(Fv:⟨⟩ 1 "gaps" ["spans","low","high"] (uF K Y)):() 2 f fd ["ones","others"] (kf K Y):=by
 refine F.okA HZ λa4 A G s H vs Q E N h=>?_
 let(a,b,c,o,e,B0,rfl,m,hB,PA,PB,T,aB,a3,a2,q):=h
 refine(_,(ao (aT (cE<|fH (pv 0) (by intro _;rfl))
  (ag<|aE<|bP ae)
  aG)
  (ag<|aE<|aQ Fu N U<|aa (pv 0)<|aa (aQ Fv N U<|aa (pv 1)<|aa (az aM (az aW (pv 0) ai<|λ_ _=>U) ai<|λ_ _=>U)<|aa (az aM (az aW (pv 0) (sv oO ai)<|λ_ _=>U) ai<|λ_ _=>U) ae) ae)),?_,)
 dsimp only[bj,OY,OW];show(let p:TS:=_;aZ _ p _ _ _);intro _;calc(!c.isEmpty,.inl (c,m,U,),?_,);by_cases d:c=[]
 .let t:(!c.isEmpty)=false:=by rw[d];rfl
  rw[t];refine((by show 0≤AY;decide),λr g=>?_,);let u:e=[]:=by
   let:=PA.length;rw[d]at this;exact NZ this.symm
  exact q r _ [] [] (ah g _) g af .nil Apart.nil (λn=>by rw[u];rfl) (rE _)
 .let t:(!c.isEmpty)=true:=by cases c with|nil=>exact MW U d|cons _ _=>rfl
  rw[t];calc bI ?_;let(a0,I,A',l,ex,u,a5,v):=PL.last PA d;let(L,J,O,f2,f3):=PA.get (i:=0) (x:=c[0]'(by cases c with|nil=>exact MW U d|cons _ _=>simp)) (KG _);let v0:atI c 0=↑J:=by rw[←f2];exact aS (j:=0)<|KG _
  let Z:atI c (-1)=↑I:=by rw[ex];exact lr _ _
  calc(a,_,_,_,U,U,m,v0,J,_,_,_,U,U,OV f3,z0 _ _,_,U,a,_,_,_,U,U,m,Z,I,_,_,_,U,U,OV v,z1 _ _,?_,);calc(b,o,B0,L.1,l.2,U,hB,PB,aB,∅,λp H1 W F1 k a1 e1 P1 D Ji l1=>?_,);calc(a,p,c,W,e,F1,U,k.seq m,OU e1,PA.mono k.tups,P1,T,D,∅,λr2 H2 X R s2 B e2 P2 C Jj l2=>?_,);calc q r2 H2 X R (k.trans s2) (k.free B) e2 P2 C (λn=>?_) ∅;rw[Jj n,Ji n];cases z:inP e n with
  |false=>rfl
  |true =>
   let(V,rfl):∃V,e=L :: V:=by
    cases e with
    |nil=>cases O
    |cons y o=>cases O;exact(o,U,)
   let S:=T.ends (M:=A') (z:=l) u z;rw[MX S.1,MX S.2];rfl
def GQ(F:Fun K "show_range" "show_range" EJ f fd)(bl:Bl K mg Y)(b:⟨⟩ 1 "number_text" ["number"] (fe K Y)):() 2 f fd ["domain","low","high"] (js K Y):=by
 refine F.okA Ib λl A c s H m Q E a h=>?_
 let(d,lo,hi,p,rfl,(r,e),b1,b2,q):=h
 refine(_,(ao (aT (aJ cU (pv 1) (pv 2)<|aO _)
  (ag<|aE<|aQ b a U<|aa (pv 1) ae)
  aG)
  (ao (aT (aJ cU (pv 1) (aP (pv 0) U)<|aO _)
  (ag<|aE<|aH aN (bA U bl.UP_TO_)<|aQ b a U<|aa (pv 2) ae)
  aG)
  (ao (aT (aJ cU (pv 2) (aP (pv 0) U)<|aO _)
  (ag<|aE<|aH aN (aQ b a U<|aa (pv 1) ae)<|bA U bl.UP_TO_)
  aG)
  (ag<|aE<|aH aN (aH aN (aQ b a U<|aa (pv 1) ae)<|bA U bl.UP_TO_)<|aQ b a U<|aa (pv 2) ae)))),?_,)
 dsimp only[bj,OY,OW];show(let i:TS:=_;let j:TS:=aZ _ i;let k:TS:=aZ _ j;aZ _ k _ _ _);intro _ _ _;let o:=len_num b1;let n:=len_num b2;unfold shN at q;calc(U,_,U,?_,);refine bK (λg=>?_)<|λg=>?_
 .rw[MV (iG g)]at q;exact(p.1,U,b1,q,)
 rw[MU (iH g)]at q;calc(d,_,_,_,_,U,e,bl.k_Numbers,bl.na_Numbers_low,U,U,_,U,?_,);refine bK (λg=>?_)<|λg=>?_
 .rw[MV (iG g)]at q;exact(p.2,U,b2,_,_,U,U,big (by rw[iq];lia),q,)
 rw[MU (iH g)]at q;calc(d,_,_,_,_,U,e,bl.k_Numbers,bl.na_Numbers_high,U,U,_,U,?_,);refine bK (λg=>?_)<|λg=>?_
 .rw[MV (iG g)]at q;exact(p.1,U,b1,_,_,U,U,big (by rw[iq];lia),q,)
 rw[MU (iH g)]at q;calc(p.1,U,b1,_,_,U,U,big (by rw[iq];lia),p.2,U,b2,_,_,U,U,big (by rw[aK,iq];lia),q,)
def Jk(F:Fun K "fact_parts" "fact_parts" Y43 f fd)(bl:Bl K mg Y)(l:⟨⟩ 1 "cut" ["parts"] (rD K Y)):() 2 f fd ["text"] (jt K Y):=by
 refine F.okA Z43 λv A k s H x Q E d h=>?_
 let(z,a,b,c,rfl,n,p,j,u,q):=h
 refine(_,(ao (aL (i:=1) Z43.nd U (bv U)<|aQ l d U<|aa (bx PySem.F.plainAttrs_str PySem.F.slot_str_partition PySem.F.type_str_partition fB (pv 0)<|aa aV ae) ae)
  (ag<|aE<|bH<|aa (az aM (pv 1) ai<|λ_ _=>U)<|aa (az aM (pv 1) ai<|λ_ _=>U) ae)),?_,)
 dsimp only[bj,OY,OW];show(let m:TS:=_;aZ _ m _ _ _);intro _;calc(U,z,SP,U,U,⋯,n,λt o=>?_,);rw[p];let e:upd H t (.tup [.str a,.str b,.str c]) t=MO (.tup [.str a,.str b,.str c]):=af;let g:=ah o<|.tup [.str a,.str b,.str c];generalize upd H t (.tup [.str a,.str b,.str c])=H1 at e g⊢;calc(t,a,b,c,U,e,j,u,?_,);refine(t,_,_,_,U,U,OV e,U,t,_,_,_,U,U,OV e,U,(by show 2≤AY;decide),λr d=>?_,);calc q r _ (g.trans<|ah d _) (g.free d) af
def GR(F:Fun K "row_parts" "row_parts" Y98 f fd)(bl:Bl K mg Y)(p:⟨⟩ 1 "cut" ["parts"] (rD K Y)):() 2 f fd ["text"] (kg K Y):=by
 refine F.okA Z98 λD A m s H G Q E d h=>?_
 let(z,a,b,c,fs,rfl,I,x,k,B,C,y,q):=h
 refine(_,(ao (aL (i:=1) Z98.nd U (bv U)<|aQ p d U<|aa (bx PySem.F.plainAttrs_str PySem.F.slot_str_partition PySem.F.type_str_partition fB (pv 0)<|aa (bA U bl.TO_) ae) ae)
  (ag<|aE<|bH<|aa (bx PySem.F.plainAttrs_str PySem.F.slot_str_split PySem.F.type_str_split lC (az aM (pv 1) ai<|λ_ _=>U)<|aa (bA U bl.BETWEEN_FIELDS_) ae)<|aa (az aM (pv 1) ai<|λ_ _=>U) ae)),?_,)
 dsimp only[bj,OY,OW];show(let u:TS:=_;aZ _ u _ _ _);intro _;calc(U,z,AR,U,U,⋯,∅,λt v=>?_,);rw[x];let j:upd H t (.tup [.str a,.str b,.str c]) t=MO (.tup [.str a,.str b,.str c]):=af;let e:=ah v<|.tup [.str a,.str b,.str c];generalize upd H t (.tup [.str a,.str b,.str c])=H1 at j e⊢;calc(t,a,b,c,U,j,k,B,?_,);calc(t,_,_,_,U,U,OV j,U,U,a,BR,U,U,⋯,C,λl n=>?_,);rw[y];let o:upd H1 l (.lst<|fs.map OT) l=MO (.lst<|fs.map OT):=af;let g:=ah n<|.lst<|fs.map OT;let fl:=e.free n;generalize upd H1 l (.lst<|fs.map OT)=H2 at o g⊢;refine(t,_,_,_,U,U,OV<|g _ _ j,U,(by show 2≤AY;decide),λr d=>?_,);calc q r l _ ((e.trans g).trans<|ah d _) ((e.trans g).free d) fl af<|ah d _ _ _ o
def Jl(F:Fun K "_law_domain" "_law_domain" Y53 f fd)(bl:Bl K mg Y)(N:⟨⟩ 1 "_law_words" ["cell","count"] (iC K Y)):() 2 f fd ["cell"] (ju K Y):=by
 refine F.okA Z53 λa0 A v s H vs Q E e h=>?_
 let(c,rfl,q):=h
 refine(_,(aw (aL (i:=1) Z53.nd U (bv U)<|aH fS (aH cD (aH cO (pv 0) ai)<|aH tS ai ai)<|aH oN ai<|aH tS ai ai)
  (aw (aL (i:=2) Z53.nd U (bv U)<|aH cD (aH cO (pv 0) ai)<|aH tS ai ai)
  (ao (aT (aJ cU (aH cD (pv 0) ai) ai<|aO _)
  (ao (aL (i:=3) Z53.nd U (bv U)<|aQ N e U<|aa (aH cO (pv 0) ai)<|aa (aH bY ai<|aH cD (aH cO (pv 0) ai) ai) ae)
  (ag<|aE<|bH<|aa ai<|aa (aH fS (av au U bl.len_ MN<|aa (pv 3) ae) ai)<|aa (pv 3) ae))
  aG)
  (aw (aT (aJ cU (aH cD (pv 0) ai) ai<|aO _)
  (ag<|aL (i:=2) Z53.nd U (bv U)<|aH cD (aH cO (pv 0) ai) ai)
  aG)
  (ag<|aE<|bH<|aa (pv 1)<|aa (aH bY (pv 1)<|pv 2)<|aa (bP ae) ae))))),?_,)
 dsimp only[bj,OY,OW];show(let G:TS:=_;let I:TS:=a9 _ G;let J:TS:=aZ _ I;let L:TS:=a9 _ J;a9 _ L _ _ _);intro _ _ _ _;let k1:(10^30:Nat)*10=10^31:=⋯
 let k2:(10^29:Nat)*100=10^31:=⋯
 let k3:(1000:Nat)≤10^31:=⋯
 refine(let g:St→Hp→Prop:=λd j=>j=H∧∃lo:Int,A3 (-(5*((10^29:Nat):Int))≤lo) (lo<((10^30:Nat):Int)) (d=[MO (.int c),MO<|.int lo,MP,MP]);(g,?_,?_,))
 .let b:=vl (c / 3)<|NU<|p10 (30:Int).toNat;let a:=v3 (c / 3)<|p10 (30:Int).toNat;refine(_,_,U,U,(⋯,⋯,),_,_,U,U,(⋯,⋯,⋯,),_,_,U,U,p10 _,_,_,U,U,(⋯,⋯,⋯,),_,_,U,U,.inl (⋯,⋯,),_,_,U,U,U,_,?_,?_,U,)
  .rw[p30]at b a⊢;rw[p29];generalize ((10^30:Nat):Int)=A at b a⊢;generalize ((10^29:Nat):Int)=B at *
   lia
  .rw[p30]at b a⊢;rw[p29];let:(0:Int)≤((10^29:Nat):Int):=Int.natCast_nonneg _;generalize ((10^30:Nat):Int)=A at b a⊢;generalize ((10^29:Nat):Int)=B at *
   lia
 rintro Z T ⟨rfl,lo,g0,g1,rfl⟩;refine(let g:St→Hp→Prop:=λd j=>j=T∧∃w:Int,A3 (0≤w) (w<((10^30:Nat):Int)) (d=[MO (.int c),MO<|.int lo,MO<|.int w,MP]);(g,?_,?_,))
 .let b:=vl (c / 7)<|NU<|p10 (30:Int).toNat;let a:=v3 (c / 7)<|p10 (30:Int).toNat;calc(_,_,U,U,(⋯,⋯,),_,_,U,U,(⋯,⋯,⋯,),_,_,U,U,p10 _,U,_,b,?_,U,);rw[p30]at a⊢;exact a
 rintro X S ⟨rfl,w,o,m,rfl⟩;refine(_,_,U,U,(by show(0:Int)<3;decide),U,_,U,?_,);refine bK (λ_=>?_)<|λ_=>?_
 .let y0:=vl (c / 3) (show(6:Int)≠0 by decide);let y1:=v3 (c / 3) (show(0:Int)<6 by decide);let(n,R):∃n:Nat,1+c / 3%6=(n:Int):=(_,(wa ∅).symm,);refine(_,_,U,U,(⋯,⋯,),_,_,U,U,(⋯,⋯,),_,_,U,U,(by show(0:Int)<6;decide),_,_,U,U,c / 18,n,by rw[←R],∅,λl u y M t=>?_,);let z:=Bp (c:=c / 18) (n:=n) ∅ ∅;let k:=mi (c / 18) n;generalize lws (c / 18) n=zs at t z k;let O:⇑(zs.map OT)=⇑zs:=bQ _;refine(l,_,U,.inl<|OU t,_,_,U,U,(by show 3≤AY;decide),λr e=>?_,);refine q r (0,(⇑(zs.map OT):Int)-1,zs,) _ (y.trans<|ah e _) (l,y.free e,M,af,ah e _ _ _ t,) (by show(0:Int)≤(⇑(zs.map OT):Int)-1;lia,λ_=>(z,U,by show(⇑(zs.map OT):Int)-1=hiW zs;unfold hiW;rw[O],),λx b a=>?_,);let b:0≤x:=b;let a:x≤(⇑(zs.map OT):Int)-1:=a;exact GA b ∅
 refine(let g:St→Hp→Prop:=λd j=>j=S∧∃w:Int,A3 (0≤w) (w<((10^30:Nat):Int)) (d=[MO (.int c),MO<|.int lo,MO<|.int w,MP]);(g,?_,?_,))
 .refine(_,_,U,U,(by show(0:Int)<3;decide),U,_,U,?_,);calc bK (λ_=>?_)<|λ_=>(U,w,o,m,U,);let b:=vl (c / 7) (show(9:Int)≠0 by decide);let a:=v3 (c / 7) (show(0:Int)<9 by decide);refine(_,_,U,U,(⋯,⋯,),_,_,U,U,(by show(0:Int)<9;decide),U,_,b,?_,U,);let:(9:Int)≤((10^30:Nat):Int):=⋯
  exact Int.lt_of_lt_of_le a this
 clear o m w;rintro W u ⟨rfl,w,o,m,rfl⟩;refine(_,_,U,U,(by show 0≤AY;decide),λl k=>?_,);let p:=ah k<|.lst [];let D:upd u l (.lst []) l=MO (.lst []):=af;generalize upd u l (.lst [])=H4 at p D⊢;refine((by show 3≤AY;decide),λr e=>?_,);refine q r (lo,lo+w,[],) _ (p.trans<|ah e _) (l,p.free e,k,af,ah e _ _ _ D,) (by show lo≤lo+w;lia,λh=>MW U h,λx b a=>?_,);let b:lo≤x:=b;let a:x≤lo+w:=a;refine GB ?_ ?_
 .generalize (10^30:Nat)=A at *
  generalize (10^29:Nat)=B at *
  generalize (10^31:Nat)=C at *
  lia
 .generalize (10^30:Nat)=A at *
  generalize (10^29:Nat)=B at *
  generalize (10^31:Nat)=C at *
  lia
def Jm(F:Fun K "_law_row" "_law_row" Y62 f fd)(bl:Bl K mg Y)(uG:⟨⟩ 1 "_law_spans" ["kind","one","two","domain"] (kc K Y)):() 2 f fd ["columns","domains","pools","own","cell"] (ni K Y):=by
 refine F.okA Z62 λe4 A d0 s H vs Q E hr h=>?_
 let(W,T,I,O,c,o,dv,e0,ds,rfl,b0,c4,c3,a0,a7,c0,a8,e3,q):=h
 refine(_,(aw (aL (i:=5) Z62.nd U (bv U)<|aH cD (pv 4)<|aH tS ai ai)
  (aw (aL (i:=6) Z62.nd U (bv U)<|bP ae)
  (aw (bB tz U (aR<|pv 0) (aC (i:=7) Z62.nd U<|bv U)
  (aw (aL (i:=8) Z62.nd U (bv U)<|az aW (az aW (pv 2) (pv 7)<|λ_ _=>U) (aH cD (pv 5) ai)<|λ_ _=>U)
  (aw (aL (i:=9) Z62.nd U (bv U)<|az aW (az aW (pv 2) (pv 7)<|λ_ _=>U) (aH cD (aH cO (pv 5) ai) ai)<|λ_ _=>U)
  (ao (aY<|bx PySem.F.plainAttrs_list PySem.F.slot_list_append PySem.F.type_list_append bW (pv 6)<|aa (aQ uG hr U<|aa (aH cD (aH cO (pv 5) ai) ai)<|aa (av (jC U) U bl.min_ EQ<|aa (pv 8)<|aa (pv 9) ae)<|aa (av (l7 U) U bl.max_ IN<|aa (pv 8)<|aa (pv 9) ae)<|aa (az aW (pv 1) (pv 7)<|λ_ _=>U) ae) ae)
  (ag<|aL (i:=5) Z62.nd U (bv U)<|aH cO (pv 5) ai)))))
  (ag<|aE<|bH<|aa (pv 6)<|aa (az aW (az aW (pv 2) (pv 3)<|λ_ _=>U) (aH cD (pv 5) ai)<|λ_ _=>U) ae)))),?_,)
 dsimp only[bj,OY,OW];show(let r3:TS:=_;let r2:TS:=a9 _ r3;let r1:TS:=a9 _ r2;a9 _ r1 _ _ _);intro _ _ _;calc(let C:St→Hp→Prop:=λg t=>t=H∧∃n:Int,g=[↑W,↑T,↑I,MO<|.int (O:Int),MO<|.int c,MO<|.int n,MP,MP,MP,MP];(C,(_,_,U,U,(⋯,⋯,⋯,),_,_,U,U,p10 _,U,_,U,),?_,));rintro d5 Z ⟨rfl,n,rfl⟩;refine(let C:St→Hp→Prop:=λg t=>aq Z t∧∃m:AE,A3 (Z m=MP) (t m=MO (.lst [])) (g=[↑W,↑T,↑I,MO<|.int (O:Int),MO<|.int c,MO<|.int n,↑m,MP,MP,MP]);(C,((by show 0≤AY;decide),λl J=>(ah J _,l,J,af,U,),),?_,));rintro d4 H2 ⟨s2,m,a5,c6,rfl⟩;refine(let C:St→Hp→Prop:=λg t=>aq Z t∧E6 λ(B:M3 V)(b:M3 Prs)(n:Int)(c7 c8 X:Option V)=>A6 (t m=MO (.lst B)) (CL (Fr Z m) t B b) (⇑b=⇑o) (∀(j k:Nat)(d:Prs)(p:PD),b[j]?=MO d→o[j]?=MO k→ds[k]?=MO p→∀x∈d,p.lo≤x.1∧x.1≤x.2∧x.2≤p.hi) (∀d∈b,⇑d≤2∧Apart d)<|g=[↑W,↑T,↑I,MO<|.int (O:Int),MO<|.int c,MO<|.int n,↑m,c7,c8,X];(C,?_,?_,))
 .refine⟨W,U,(_,OU<|s2 _ _ b0,),(let C:Nat→St→Hp→Prop:=λi σ t=>aq Z t∧E6 λ(B:M3 V)(b:M3 Prs)(n:Int)(c7 c8 X:Option V)=>A6 (t m=MO (.lst B)) (CL (Fr Z m) t B b) (⇑b=i) (∀(j k:Nat)(d:Prs)(p:PD),b[j]?=MO d→o[j]?=MO k→ds[k]?=MO p→∀x∈d,p.lo≤x.1∧x.1≤x.2∧x.2≤p.hi) (∀d∈b,⇑d≤2∧Apart d)<|σ=[↑W,↑T,↑I,MO<|.int (O:Int),MO<|.int c,MO<|.int n,↑m,c7,c8,X];bp (xs:=vN o) C (s2,[],[],n,_,_,_,c6,ak.nil,U,(λj k d p e=>by simp at e),(λd h=>by cases h),U,) (λi σ t _ h=>OU<|h.1 _ _ b0) (λi y σ t ey hh=>?_) (λσ t hh=>?_))⟩
  .let(G,B,b,n,c7,c8,X,R,hz,J,D,vj,rfl):=hh;let(k,rfl,ek):=qO ey;let hk:=c0 k<|KJ ek;let hi:i<⇑o:=(KH.mp ek).1;let S:=KG hk;let(a4,e1,v):=a7.2 k _ S;let(da,e2,M):=c3.2 k _ S;generalize ds[k]=p at S v M;let v:=v.same G;let M:=M.same G;refine(let C:St→Hp→Prop:=λg a3=>a3=t∧∃one:Int,A3 (p.lo≤one) (one≤p.hi) (g=[↑W,↑T,↑I,MO<|.int (O:Int),MO<|.int c,MO<|.int n,↑m,MO<|.int (k:Int),MO<|.int one,X]);(C,?_,?_,))
   .let(xs,x,q1,q2,q3,q4):=v.pick (K:=K) n;exact(I,_,_,_,U,U,OU<|G _ _ a0,aS e1,_,_,U,U,(by show(0:Int)<3;decide),a4,_,_,_,U,U,q1,q2,U,x,q3,q4,U,)
   rintro d3 H3 ⟨rfl,one,a1,a2,rfl⟩;refine(let C:St→Hp→Prop:=λg a3=>a3=H3∧∃two:Int,A3 (p.lo≤two) (two≤p.hi) (g=[↑W,↑T,↑I,MO<|.int (O:Int),MO<|.int c,MO<|.int n,↑m,MO<|.int (k:Int),MO<|.int one,MO (.int two)]);(C,?_,?_,))
   .let(xs,x,q1,q2,q3,q4):=v.pick (K:=K)<|n / 3;exact(I,_,_,_,U,U,OU<|G _ _ a0,aS e1,_,_,U,U,(⋯,⋯,),_,_,U,U,(by show(0:Int)<3;decide),a4,_,_,_,U,U,q1,q2,U,x,q3,q4,U,)
   rintro d2 H4 ⟨rfl,two,b1,b2,rfl⟩;refine(.inl (U,_,OU R,),_,_,U,U,(⋯,⋯,),_,_,U,U,(by show(0:Int)<6;decide),_,_,U,_,_,U,T,_,_,_,U,U,OU<|G _ _ c4,aS e2,_,_,_,da,p,U,M,?_,?_,?_,λl d H5 N a6 hb c1 c5=>?_,)
   .split <;> lia
   .split <;> split <;> lia
   .split <;> lia
   let b3:=N _ _ R;let n4:H4 l=none:=a6.1;let nl:l≠m:=λz=>by rw[z,R]at n4;cases n4
   let b4:CL (Fr Z m) H5 (B++[.ref l]) (b++[d]):=ak.snoc (hz.same N) ((G.free n4,nl,),a6.2,);refine(m,_,_,U,U,b3,aD (by rw[hz.1];lia),_,_,U,U,(⋯,⋯,),(G.trans N).upd a5,B++[.ref l],b++[d],_,_,_,_,af,b4.updN Fr.out b3,by rw[dV,J];rfl,λj k' L p' f1 f2 f3=>?_,λL h'=>?_,U,)
   .by_cases hj:j<⇑b
    .rw[ft hj]at f1;exact D j k' L p' f1 f2 f3
    .let c2:j=⇑b:=by have:=(KH.mp f1).1;simp at this;lia
     subst c2;simp at f1;subst f1;rw[J,ek]at f2;cases f2;rw[S]at f3;cases f3;exact hb
   .rcases eA.mp h' with h' | h'
    .exact vj L h'
    .rw[show L=d by simpa using h'];exact(c1,c5,)
  .let(G,B,b,n,c7,c8,X,R,hz,J,D,vj,rfl):=hh;exact(G,B,b,n,_,_,_,R,hz,by rw[J,jm],D,vj,U,)
 rintro d1 H5 ⟨N,B,b,n,c7,c8,X,R,hz,J,D,vj,rfl⟩;let(po,e1,v):=a7.2 O _<|KG a8;let(xs,x,q1,q2,q3,q4):=(v.same N).pick (K:=K) n;refine(I,_,_,_,U,U,OU<|N _ _ a0,aS e1,_,_,U,U,(by show(0:Int)<3;decide),po,_,_,_,U,U,q1,q2,eX,λr hr=>?_,);let u:=ah hr<|.tup [.ref m,.int x];calc q r (b,x) _ (N.trans u) (m,B,af,a5,u _ _ R,(hz.same u).wk λa h=>h.1,) (J,D,λd h=>(vj d h).1,(λp S=>by rw[KG a8]at S;cases S;exact(q3,q4,)),λd h=>(vj d h).2,)
def Jn(F:Fun K "_law_field" "_law_field" Y56 f fd)(bl:Bl K mg Y)(pq:⟨⟩ 1 "_law_part_text" ["domain","pair"] (gH K Y)):() 2 f fd ["domain","spans"] (kh K Y):=by
 refine F.okA Z56 λa1 A X s H vs Q E L h=>?_
 let(r,l,p,ts,J,rfl,hp,M,G,u,ok,q):=h
 refine(_,(ao (aT (aJ (qx L) (pv 1) (bP ae)<|aO _)
  (ag<|aE aV)
  aG)
  (ao (aT (aJ (qx L) (pv 1) (bP<|aa (bH<|aa (az aM (pv 0) ai<|λ_ _=>U)<|aa (az aM (pv 0) ai<|λ_ _=>U) ae) ae)<|aO _)
  (ag<|aE aV)
  aG)
  (ag<|aE<|bx PySem.F.plainAttrs_str PySem.F.slot_str_join PySem.F.type_str_join eO aV<|aa (bZ (aR<|pv 1) (bc (N:=["pair","domain"]) (fr:=[0]) (cl:=[("domain",↥s+1)]) U U (~~~0) (~~~0) U (~~~0) U U U (eN.mpr (U,fW _,)) U) U (λ_ _ _ _=>aX)<|λ_ _ _ _=>(aQ pq L U<|aa (pv 1)<|aa (pv 0) ae)) ae))),?_,)
 dsimp only[bj,OY,OW];show(let r2:TS:=_;let r1:TS:=aZ _ r2;aZ _ r1 _ _ _);intro _ _;let O:=⇑u;let(wl,_,_,er,a0):=id hp;refine((by show 0≤AY;decide),λb hb=>?_,);let j:=ah hb<|.lst [];let eb:upd H b (.lst []) b=MO (.lst []):=af;generalize upd H b (.lst [])=H1 at j eb⊢;calc CQ (OU<|j _ _ G) (OU eb) (_,U,?_,);refine bK (λg=>?_)<|λg=>?_
 .let:=q H1 j;rw[show J=[] from(uo u).mp (MZ g),qW]at this;exact this
 let S:J≠[]:=λz=>g<|MX<|(uo u).mpr z
 let B:=j _ _ er;refine(r,_,_,_,U,U,OV B,U,r,_,_,_,U,U,OV B,U,eX,λo R=>((by show 1≤AY;decide),λl2 v=>?_,),);let(Z,e2,W):=pl1 R v;let y:upd (upd H1 o<|.tup [.int p.lo,.int p.hi]) l2 (.lst [.ref o]) o=MO (.tup [.int p.lo,.int p.hi]):=ah v _ _ _ af;generalize upd (upd H1 o<|.tup [.int p.lo,.int p.hi]) l2 (.lst [.ref o])=H2 at Z e2 W y⊢;let d:=j.trans Z;calc o6 (q:=(p.lo,p.hi)) (OU<|d _ _ G) (u.mono d.tups) (OU e2) y (_,U,?_,);let ek:p.k.2=(p.lo,p.hi):=rfl;refine bK (λg=>?_)<|λg=>?_
 .let:=q H2 d;rw[m6 (k:=p.k) (by rw[ek];exact fZ g)]at this;exact this
 let q':=λc s'=>q c s'
 rw[j0 S (by rw[ek];exact ip g)]at q';refine(U,l,U,(_,OU<|d _ _ G,),(let I_:AE→Nat→M3 V→Hp→Prop:=λD i e c=>aq H2 c∧c D=MO (.lst e)∧e=((J.take i).map<|qT p.k).map OT;bC (xs:=ts) I_ (λD a=>(ah a _,af,U,)) (λD i e c a _ h=>OU<|(d.trans h.1) _ _ G) (λD i x e c a ex h=>?_) (λD e c a h=>?_)),)
 .let(C,I,rfl):=h;let(x,t,ep,rfl,et):=u.get ex;let T:i<⇑ts:=(KH.mp ex).1;let sA:=d.trans C;let h2:=ok.few;refine(r,t,p,x,U,hp.same sA,M,sA _ _ et,ok.inn x<|KJ ep,λH3 s3=>b7.mk T (s3 _ _ I) (aD (by simp;lia)) ((C.trans s3).upd a,af,?_,),);rw[take_snoc ep,dy,dy];rfl
 .let(C,I,rfl):=h;rw[O,dY]at I;refine(_,D,_,U,U,OU I,(~~~0),fC (m:=600) (n:=2) (λz hz=>?_) (by rw[bQ];exact ok.few) ⋯,q' c<|d.trans C,);let(x,hx,rfl):=ck.mp hz;calc oZ (ok.inn x hx) ok.gd
def Jo(F:Fun K "_law_head" "_law_head" Y57 f fd)(bl:Bl K mg Y)(fU:⟨⟩ 1 "_law_domain_text" ["domain"] (dR K Y)):() 2 f fd ["plan","k"] (lJ K Y):=by
 refine F.okA Z57 λc5 A a7 s H vs Q E hr h=>?_
 let(r,k,zs,ds,ts,G,t,nm,W,rfl,a5,ok,X,S,R,q):=h
 refine(_,(aw (lp (pv 0)<|d8 U<|aI (aC (i:=2) Z57.nd U<|pc U)<|aI (aC (i:=3) Z57.nd U<|bv U)<|aI (aC (i:=4) Z57.nd U<|bv U) br)
  (aw (aL (i:=5) Z57.nd U (bv U)<|aH bY (aH fS (av au U bl.len_ MN<|aa (pv 2) ae)<|av au U bl.len_ MN<|aa (pv 4) ae)<|pv 1)
  (aw (aL (i:=6) Z57.nd U (bv U)<|bx PySem.F.plainAttrs_str PySem.F.slot_str_join PySem.F.type_str_join eO aV<|aa (bZ (aR<|az aM (az aW (pv 4) (pv 1)<|λ_ _=>U) ai<|λ_ _=>U) (bc (N:=["j","names"]) (fr:=[2]) (cl:=[("names",↥s+1)]) U U (~~~0) (~~~0) U (~~~0) U U U (eN.mpr (U,fW _,)) U) U (λ_ _ _ _=>aX)<|λ_ _ _ _=>(az (d6 (K:=K) U) (pv 1) (pv 0)<|λ_ _=>U)) ae)
  (aw (aL (i:=7) Z57.nd U (bv U)<|aH aN (aH aN (aH aN aV<|aQ fU hr U<|aa (az aW (pv 3) (pv 5)<|λ_ _=>U) ae) aV)<|az aM (az aW (pv 4) (pv 1)<|λ_ _=>U) ai<|λ_ _=>U)
  (ag<|aE<|aH aN (aH aN (aH aN (aH aN aV<|az aW (pv 2) (pv 5)<|λ_ _=>U) aV)<|pv 6)<|pv 7))))),?_,)
 dsimp only[bj,OY,OW];show(let r4:TS:=_;let r3:TS:=a9 _ r4;let r2:TS:=a9 _ r3;let r1:TS:=a9 _ r2;a9 _ r1 _ _ _);intro _ _ _ _;let(o,I,b,dv,tv,er,v,a6,a4,u,M):=id a5;let(ta,O,cl,rl,rx,g1,g2,g3,g4):=M.2 k t X;let c1:⇑(zs.map OT)=⇑zs:=bQ _;let a3:=ok.len;let c3:=ok.tab;let c2:⇑tv=⇑ts:=M.1;let h7:=ok.n7;let tok:=ok.tabs k t X;let a2:=ok.lt X;let GS:=ok.own X;let c4:⇑t.cols≤3:=tok.ok.few;let a0:⇑(vN t.cols)=⇑t.cols:=jm _;let p:∀j∈t.cols,j<⇑zs:=λj hj=>by rw[a3];exact a2 j hj
 let gz:=bT (os:=t.cols) (xs:=zs) p;let g:=ok.doms W<|KJ R;let J:∀z∈prm t.cols zs,⇑z≤12:=λz hz=>ok.nm12<|ui hz
 calc(let d:St→Hp→Prop:=λa c=>c=H∧a=[↑r,MO<|.int (k:Int),↑o,↑I,↑b,MP,MP,MP];(d,(r,_,U,OV er,U,_,_,U,_,_,U,_,_,U,U,U,U,),?_,));rintro b4 H1 ⟨rfl,rfl⟩;refine(let d:St→Hp→Prop:=λa c=>c=H1∧a=[↑r,MO<|.int (k:Int),↑o,↑I,↑b,MO<|.int ((G+k:Nat):Int),MP,MP];(d,(o,_,U,.inl<|OU v,b,_,U,.inl<|OU u,_,_,U,U,_,_,U,U,U,?_,),?_,))
 .rw[show((G+k:Nat):Int)=((⇑(zs.map OT):Nat):Int)-((⇑tv:Nat):Int)+(k:Int) by lia];rfl
 rintro b3 H2 ⟨rfl,rfl⟩;refine(let d:St→Hp→Prop:=λa c=>aq H2 c∧a=[↑r,MO<|.int (k:Int),↑o,↑I,↑b,MO<|.int ((G+k:Nat):Int),MO<|.str<|io s!", " (prm t.cols zs),MP];(d,?_,?_,))
 .refine(U,b,_,_,_,U,U,OU u,aS O,ta,_,_,_,U,U,OV g1,U,cl,U,(_,OU g2,),(let d:AE→Nat→M3 V→Hp→Prop:=λD i B c=>aq H2 c∧c D=MO (.lst B)∧B=(prm (t.cols.take i) zs).map OT;bC (xs:=vN t.cols) d (λD C=>(ah C _,af,U,)) (λD i B c C _ h=>OU<|h.1 _ _ g2) (λD i y B c C e h=>?_) (λD B c C h=>?_)),)
  .let(T,Z,rfl):=h;let(j,rfl,ej):=qO e;let ez:=KG (l:=zs) (i:=j)<|p j<|KJ ej;let hi:i<⇑(vN t.cols):=(KH.mp e).1;refine(o,_,_,_,U,U,OU<|T _ _ v,aS<|fL ez,b7.mk hi Z (aD ?_) (T.upd C,af,?_,),)
   .rw[bQ,(bT (os:=t.cols.take i) (xs:=zs) λj hj=>p j<|jh hj).1,eH];lia
   .rw[take_snoc ej,oi ez,dy];rfl
  .let(T,Z,rfl):=h;rw[a0,dY]at Z;exact(_,D,_,U,U,OU Z,(~~~0),fC (m:=12) (n:=4) J (by rw[gz.1];lia) ⋯,T,U,)
 rintro b0 H3 ⟨x,rfl⟩;let(da,e2,a1):=a4.2 (G+k) W R;let lw:=mj g.gd g.b1 g.b2;let L:=DO tok.ok.way;let L:⇑t.way≤12:=L;let c0:=ok.nm12<|KJ S;let lj:=lF (sep:=ofS ", ") (zs:=prm t.cols zs) (m:=12) (n:=4) (~~~0) J (by rw[gz.1];lia);let lj:⇑(io s!", " (prm t.cols zs))≤60:=lj;refine(let d:St→Hp→Prop:=λa c=>c=H3∧a=[↑r,MO<|.int (k:Int),↑o,↑I,↑b,MO<|.int ((G+k:Nat):Int),MO<|.str<|io s!", " (prm t.cols zs),MO (.str<|s!" -> " ++ dh W.k++s!" by " ++ t.way)];(d,(I,_,_,_,U,U,OU<|x _ _ a6,aS e2,da,W,U,a1.same x,g,_,_,U,U,fX (by rw[m7];lia),_,_,U,U,fX (by rw[aK,m7,xx];lia),b,_,_,_,U,U,OU<|x _ _ u,aS O,ta,_,_,_,U,U,OV<|x _ _ g1,U,_,_,U,U,fX (by rw[aK,aK,m7,xx];lia),U,U,),?_,));rintro a8 H4 ⟨rfl,rfl⟩;let:=q H4 x;rw[←zI]at this;calc(o,_,_,_,U,U,OU<|x _ _ v,aS<|fL S,_,_,U,U,fX (by rw[dP];lia),_,_,U,U,fX (by rw[aK,dP,fQ];lia),_,_,U,U,fX (by rw[aK,aK,dP,fQ];lia),_,_,U,U,fX (by rw[aK,aK,aK,aK,aK,aK,dP,fQ,m7,xx];lia),this,)
def Jp(F:Fun K "_law_same_table" "_law_same_table" Y65 f fd)(bl:Bl K mg Y)(dX:⟨⟩ 1 "_law_same_domain" ["found","domain"] (dS K Y)):() 2 f fd ["found","plan","k"] (gm K Y):=by
 refine F.okA Z65 λe7 A c5 s H vs Q E hr h=>?_
 let(x,r,k,n,I,ts,o,t,rfl,c1,ok,et,hT,q):=h
 refine(_,(aw (lp (pv 1)<|d8 U<|aI (aC (i:=3) Z65.nd U<|pc U)<|aI (aC (i:=4) Z65.nd U<|bv U)<|aI (aC (i:=5) Z65.nd U<|bv U) br)
  (aw (aL (i:=6) Z65.nd U (bv U)<|az aM (az aW (pv 5) (pv 2)<|λ_ _=>U) ai<|λ_ _=>U)
  (aw (aL (i:=7) Z65.nd U (bv U)<|aH bY (aH fS (av au U bl.len_ MN<|aa (pv 3) ae)<|av au U bl.len_ MN<|aa (pv 5) ae)<|pv 2)
  (aw (aT (PW.pt<|lh (aJ lq (aP (pv 0) U) (az aW (pv 3) (pv 7)<|λ_ _=>U)<|aO _)<|lh (aJ (Em hr) (aP (pv 0) U) (bZ (aR<|pv 6) (bc (N:=["j","names"]) (fr:=[3]) (cl:=[("names",↥s+1)]) U U (~~~0) (~~~0) U (~~~0) U U U (eN.mpr (U,fW _,)) U) U (λ_ _ _ _=>aX)<|λ_ _ _ _=>(az (d6 (K:=K) U) (pv 1) (pv 0)<|λ_ _=>U))<|aO _)<|jk<|aJ lq (aP (pv 0) U) (az aM (az aW (pv 5) (pv 2)<|λ_ _=>U) ai<|λ_ _=>U)<|aO _)
  (ag<|aE kN)
  aG)
  (aw (aT (PW.pt<|lh (aJ lq (av au U bl.len_ MN<|aa (aP (pv 0) U) ae) (av au U bl.len_ MN<|aa (pv 6) ae)<|aO _)<|jk<|cE<|bG<|aQ dX hr U<|aa (aP (pv 0) U)<|aa (az aW (pv 4) (pv 7)<|λ_ _=>U) ae)
  (ag<|aE kN)
  aG)
  (aw (bB tz U (b6 U bl.range_<|aa (av au U bl.len_ MN<|aa (pv 6) ae) ae) (aC (i:=8) Z65.nd U<|bv U)
  (ag (aT (cE<|bG<|aQ dX hr U<|aa (az aW (aP (pv 0) U) (pv 8)<|λ_ _=>U)<|aa (az aW (pv 4) (az aW (pv 6) (pv 8)<|λ_ _=>U)<|λ_ _=>U) ae)
  (ag<|aE kN)
  aG)))
  (ag<|aE<|fP (Cv hr) (aP (pv 0) U) (az aM (az aW (pv 5) (pv 2)<|λ_ _=>U) ai<|λ_ _=>U)<|aO _))))))),?_,)
 dsimp only[bj,OY,OW];show(let r6:TS:=_;let r5:TS:=a9 _ r6;let r4:TS:=a9 _ r5;let r3:TS:=a9 _ r4;let r2:TS:=a9 _ r3;let r1:TS:=a9 _ r2;a9 _ r1 _ _ _);intro _ _ _ _ _ _;let(p,u,b,dv,tv,er,T,a5,a2,B,a1):=id c1;let(ta,S,cl,rl,rx,g1,g2,g3,g4):=a1.2 k t et;let d4:⇑(n.map OT)=⇑n:=bQ _;let b4:=ok.len;let e1:=ok.tab;let d5:⇑tv=⇑ts:=a1.1;let tok:=ok.tabs k t et;let O:=ok.lt et;let e5:⇑t.cols≤3:=tok.ok.few;let M:⇑(vN t.cols)=⇑t.cols:=jm _;let GS:=ok.own et;let ez:=KG (l:=n) (i:=o+k) ∅;let ed:=KG (l:=I) (i:=o+k) ∅;generalize n[o+k]=nm at ez;generalize I[o+k]=po at ed;rw[B2 ez ed]at hT;let(ou,J,(d3,dx,na,a0,fs,xs,G,h2,h3,h4,h5,h6,h7,h8,h9,c2,z,e6),v,R):=hT;let h3:fs.lookup s!"name"=MO (.str nm):=h3;let h4:fs.lookup s!"way"=MO (.str t.way):=h4;let h8:H na=MO (.lst<|(prm t.cols n).map OT):=h8;let z:RL NT H xs t.rows:=z;let v:ak J (prm t.cols<|I.map PD.k) (cS Y.r Y.s H):=v;let R:cS Y.r Y.s H ou po.k:=R;let L:∀j∈t.cols,j<⇑n:=λj X=>by rw[b4];exact O j X
 let a6:∀j∈t.cols,j<⇑(I.map PD.k):=λj X=>by rw[bQ];exact O j X
 let gz:=bT (os:=t.cols) (xs:=n) L;let gk:=bT (os:=t.cols) (xs:=I.map PD.k) a6;let c0:J.length=⇑t.cols:=by rw[v.1,gk.1]
 calc(let m:St→Hp→Prop:=λa g=>g=H∧a=[↑x,↑r,MO<|.int (k:Int),↑p,↑u,↑b,MP,MP,MP];(m,(r,_,U,OV er,U,_,_,U,_,_,U,_,_,U,U,U,U,),?_,));rintro d2 H1 ⟨rfl,rfl⟩;calc(let m:St→Hp→Prop:=λa g=>g=H1∧a=[↑x,↑r,MO<|.int (k:Int),↑p,↑u,↑b,↑cl,MP,MP];(m,(b,_,_,_,U,U,OU B,aS S,ta,_,_,_,U,U,OV g1,U,U,U,),?_,));rintro d1 H2 ⟨rfl,rfl⟩;refine(let m:St→Hp→Prop:=λa g=>g=H2∧a=[↑x,↑r,MO<|.int (k:Int),↑p,↑u,↑b,↑cl,MO<|.int ((o+k:Nat):Int),MP];(m,(p,_,U,.inl<|OU T,b,_,U,.inl<|OU B,_,_,U,U,_,_,U,U,U,?_,),?_,))
 .rw[show((o+k:Nat):Int)=((⇑(n.map OT):Nat):Int)-((⇑tv:Nat):Int)+(k:Int) by lia];rfl
 rintro d0 H3 ⟨rfl,rfl⟩;refine(let m:St→Hp→Prop:=λa g=>aq H3 g∧a=[↑x,↑r,MO<|.int (k:Int),↑p,↑u,↑b,↑cl,MO<|.int ((o+k:Nat):Int),MP];(m,?_,?_,))
 .refine(x,_,_,_,_,U,G,bl.k_Table,bl.na_Table_name,h3,p,_,_,_,U,U,OU T,aS<|fL ez,U,_,U,nP U ?_,);refine(x,_,_,_,_,U,G,bl.k_Table,bl.na_Table_names,h6,cl,U,(_,OU g2,),(let m:AE→Nat→M3 V→Hp→Prop:=λD i W g=>aq H3 g∧g D=MO (.lst W)∧W=(prm (t.cols.take i) n).map OT;bC (xs:=vN t.cols) m (λD Z=>(ah Z _,af,U,)) (λD i W g Z _ h=>OU<|h.1 _ _ g2) (λD i y W g Z e h=>?_) (λD W g Z h=>?_)),)
  .let(C,eD,rfl):=h;let(j,rfl,ej):=qO e;let a3:=KG (l:=n) (i:=j)<|L j<|KJ ej;let hi:i<⇑(vN t.cols):=(KH.mp e).1;refine(p,_,_,_,U,U,OU<|C _ _ T,aS<|fL a3,b7.mk hi eD (aD ?_) (C.upd Z,af,?_,),)
   .rw[bQ,(bT (os:=t.cols.take i) (xs:=n) λj X=>L j<|jh X).1,eH];lia
   .rw[take_snoc ej,oi a3,dy];rfl
  .let(C,eD,rfl):=h;rw[M,dY]at eD;calc zS (OU<|C _ _ h8) (OU eD) (_,U,bI ?_,);exact(x,_,_,_,_,U,C _ _ G,bl.k_Table,bl.na_Table_way,h4,b,_,_,_,U,U,OU<|C _ _ B,aS S,ta,_,_,_,U,U,OV<|C _ _ g1,U,U,_,U,nP U (C,U,),)
 rintro c9 H4 ⟨d,rfl⟩;let(oa,c3,b0):=a2.2 (o+k) po ed;refine(let m:St→Hp→Prop:=λa g=>g=H4∧a=[↑x,↑r,MO<|.int (k:Int),↑p,↑u,↑b,↑cl,MO<|.int ((o+k:Nat):Int),MP];(m,?_,?_,))
 .refine(x,_,_,_,_,U,d _ _ G,bl.k_Table,bl.na_Table_domains,h7,a0,_,U,.inl<|OU<|d _ _ h9,cl,_,U,.inl<|OU<|d _ _ g2,U,_,U,nP (by rw[c0,M]) ?_,);exact(x,_,_,_,_,U,d _ _ G,bl.k_Table,bl.na_Table_outcome,h5,u,_,_,_,U,U,OU<|d _ _ a5,aS c3,ou,oa,_,po,U,R.same d,b0.same d,U,_,U,bI (U,U,),)
 rintro c7 H5 ⟨rfl,rfl⟩;refine(let m:St→Hp→Prop:=λa g=>g=H5∧∃c8:Option V,a=[↑x,↑r,MO<|.int (k:Int),↑p,↑u,↑b,↑cl,MO<|.int ((o+k:Nat):Int),c8];(m,?_,?_,))
 .refine(cl,_,U,.inl<|OU<|d _ _ g2,_,U,∅,∅,(let m:Nat→St→Hp→Prop:=λi σ g=>g=H5∧∃c8:Option V,σ=[↑x,↑r,MO<|.int (k:Int),↑p,↑u,↑b,↑cl,MO<|.int ((o+k:Nat):Int),c8];iE m (U,_,U,) (λi σ g hi h=>?_) (λσ g h=>h)),);let(e0,c8,rfl):=h;rw[e0];rw[vr,M]at hi;let ec:=KG hi;generalize t.cols[i]=c at ec;let(pd,a4):∃pd,I[c]?=MO pd:=(_,KG<|O _<|KJ ec,);let(da,e2,b3):=a2.2 c _ a4;let c4:(prm t.cols<|I.map PD.k)[i]?=MO pd.k:=by rw[gk.2 i c ec,dn,a4];rfl
  let(td,e3,e4):=v.2 i _ c4;let a8:atI (vN t.cols) (0+(i:Int))=MO (.int (c:Int)):=by rw[v5];exact aS<|Bg ec
  let a7:atI J (0+(i:Int))=↑td:=by rw[v5];exact aS e3
  exact(x,_,_,_,_,U,d _ _ G,bl.k_Table,bl.na_Table_domains,h7,a0,_,_,_,U,U,OU<|d _ _ h9,a7,cl,_,_,_,U,U,OU<|d _ _ g2,a8,u,_,_,_,U,U,OU<|d _ _ a5,aS e2,td,da,_,pd,U,e4.same d,b3.same d,U,_,U,bI (U,_,U,),)
 rintro c6 H6 ⟨rfl,c8,rfl⟩;calc(x,_,_,_,_,U,d _ _ G,bl.k_Table,bl.na_Table_rows,h2,b,_,_,_,U,U,OU<|d _ _ B,aS S,ta,_,_,_,U,U,OV<|d _ _ g1,U,?_,);calc zF (OU<|d _ _ c2) (OU<|d _ _ g3) (by rw[z.1,g4.1]) (Bf (z.same d)<|g4.same d) (q H6 d)
def Jq(F:Fun K "written" "Numbers.written" Y20 f fd)(bl:Bl K mg Y)(e:⟨⟩ 1 "number_text" ["number"] (fe K Y)):() 2 f fd ["self"] (bU K Y):=by
 refine F.okA Z20 λg A b s H i Q E c h=>?_
 let(a,lo,hi,rfl,(l,d),b1,b2,q):=h;calc(_,(ag<|aE<|aH aN (aH aN (aQ e c U<|aa (aP (pv 0) U) ae) aV)<|aQ e c U<|aa (aP (pv 0) U) ae),?_,);let k:=len_num b1;let j:=len_num b2;calc(a,_,_,_,_,U,d,bl.k_Numbers,bl.na_Numbers_low,U,lo,U,b1,_,_,U,U,big (by rw[iq];lia),a,_,_,_,_,U,d,bl.k_Numbers,bl.na_Numbers_high,U,hi,U,b2,_,_,U,U,big (by rw[aK,iq];lia),q,)
def O_5(F:Fun K "has_code" "Domain.has_code" Y5 f fd)(bl:Bl K mg Y)(j:⟨⟩ 1 "is_whole" ["value"] (jd K Y)):() 2 f fd ["self","value"] (bz K Y):=by
 refine F.okA Z5 λn A c s H o Q E k h=>?_
 let(a,b,v,rfl,(p,fs,e,l,m,_),d,q):=h;calc(_,(ag<|aE<|gY (aQ j k U<|aa (pv 1) ae)<|jU<|nJ gA gA (aP (pv 0) U) (pv 1)<|aP (pv 0) U),?_,);calc(v,U,d,_,U,?_,);cases v with
 |int i =>
  calc eU (a,_,_,_,_,U,e,bl.k_Numbers,bl.na_Numbers_low,l,_,_,U,U,_,U,?_,);let q:Q (.bl<|MS (b.1≤i) && decide (i≤b.2)) H:=q;refine bK (λg=>?_)<|λg=>?_
  .rw[g,Ix]at q;exact(a,_,_,_,_,U,e,bl.k_Numbers,bl.na_Numbers_high,m,_,_,U,U,q,)
  .rw[wi.mpr g,ww]at q;exact q
 |non=>exact bI q
 |bl b=>exact bI q
 |str z=>exact bI q
 |_=>calc d.elim
def O_6(F:Fun K "has_code" "Domain.has_code" Y6 f fd)(bl:Bl K mg Y)(j:⟨⟩ 1 "is_whole" ["value"] (jd K Y)):() 2 f fd ["self","value"] (cb K Y):=by
 refine F.okA Z6 λn A c s H o Q E k h=>?_
 let(a,b,v,rfl,(p,fs,e,l,m,_),d,q):=h;calc(_,(ag<|aE<|gY (aQ j k U<|aa (pv 1) ae)<|jU<|nJ gA gA (aP (pv 0) U) (pv 1)<|aP (pv 0) U),?_,);calc(v,U,d,_,U,?_,);cases v with
 |int i =>
  calc eU (a,_,_,_,_,U,e,bl.k_Words,bl.na_Words_low,l,_,_,U,U,_,U,?_,);let q:Q (.bl<|MS (b.1≤i) && decide (i≤b.2)) H:=q;refine bK (λg=>?_)<|λg=>?_
  .rw[g,Ix]at q;exact(a,_,_,_,_,U,e,bl.k_Words,bl.na_Words_high,m,_,_,U,U,q,)
  .rw[wi.mpr g,ww]at q;exact q
 |non=>exact bI q
 |bl b=>exact bI q
 |str z=>exact bI q
 |_=>calc d.elim
def Jr(F:Fun K "__init__" "First.__init__" Y12 f fd)(bl:Bl K mg Y)(e:du CX0 P w K mg base 1 "Way" "__init__" ["self","called"] (ee K Y)):() 2 f fd ["self"] (J0 K Y):=by
 refine F.ok Z12 (λd H Q E h=>?_)<|λi A a s H d Q E g h=>?_
 .let(x,c,rfl,b,q):=h;rfl
 let(x,c,rfl,b,q):=h;calc(_,(ag<|aY<|i7 e bR g U<|aa (pv 0)<|aa aV ae),?_,);calc(x,c,_,U,b,q,)
def Js(F:Fun K "__init__" "Only.__init__" Y21 f fd)(bl:Bl K mg Y)(e:du CX0 P w K mg base 1 "Way" "__init__" ["self","called"] (fg K Y)):() 2 f fd ["self"] (J4 K Y):=by
 refine F.ok Z21 (λd H Q E h=>?_)<|λi A a s H d Q E g h=>?_
 .let(x,c,rfl,b,q):=h;rfl
 let(x,c,rfl,b,q):=h;calc(_,(ag<|aY<|i7 e bR g U<|aa (pv 0)<|aa aV ae),?_,);calc(x,c,_,U,b,q,)
def Jt(F:Fun K "__init__" "Like.__init__" Y14 f fd)(bl:Bl K mg Y)(e:du CX0 P w K mg base 1 "Way" "__init__" ["self","called"] (fh K Y)):() 2 f fd ["self"] (J2 K Y):=by
 refine F.ok Z14 (λd H Q E h=>?_)<|λi A a s H d Q E g h=>?_
 .let(x,c,rfl,b,q):=h;rfl
 let(x,c,rfl,b,q):=h;calc(_,(ag<|aY<|i7 e bR g U<|aa (pv 0)<|aa aV ae),?_,);calc(x,c,_,U,b,q,)
def Ju(F:Fun K "__init__" "Low.__init__" Y15 f fd)(bl:Bl K mg Y)(e:du CX0 P w K mg base 1 "Way" "__init__" ["self","called"] (fF K Y)):() 2 f fd ["self"] (J3 K Y):=by
 refine F.ok Z15 (λd H Q E h=>?_)<|λi A a s H d Q E g h=>?_
 .let(x,c,rfl,b,q):=h;rfl
 let(x,c,rfl,b,q):=h;calc(_,(ag<|aY<|i7 e bR g U<|aa (pv 0)<|aa aV ae),?_,);calc(x,c,_,U,b,q,)
def Jv(F:Fun K "__init__" "High.__init__" Y13 f fd)(bl:Bl K mg Y)(e:du CX0 P w K mg base 1 "Way" "__init__" ["self","called"] (fi K Y)):() 2 f fd ["self"] (J1 K Y):=by
 refine F.ok Z13 (λd H Q E h=>?_)<|λi A a s H d Q E g h=>?_
 .let(x,c,rfl,b,q):=h;rfl
 let(x,c,rfl,b,q):=h;calc(_,(ag<|aY<|i7 e bR g U<|aa (pv 0)<|aa aV ae),?_,);calc(x,c,_,U,b,q,)
def Jw(F:Fun K "__init__" "Sum.__init__" Y22 f fd)(bl:Bl K mg Y)(e:du CX0 P w K mg base 1 "Way" "__init__" ["self","called"] (fG K Y)):() 2 f fd ["self"] (J5 K Y):=by
 refine F.ok Z22 (λd H Q E h=>?_)<|λi A a s H d Q E g h=>?_
 .let(x,c,rfl,b,q):=h;rfl
 let(x,c,rfl,b,q):=h;calc(_,(ag<|aY<|i7 e bR g U<|aa (pv 0)<|aa aV ae),?_,);calc(x,c,_,U,b,q,)
def O_4(F:Fun K "code" "Domain.code" Y4 f fd)(bl:Bl K mg Y)(o:ba CX0 P w K mg base 1 Y.s "borne_code" ["self","value"] (cX K Y))(n:ba CX0 P w K mg base 1 Y.s "bears" ["self","value"] (fj K Y)):aU P w K mg base (CX1 P w) 2 f fd ["self","value"] (fk K Y):=by
 refine F.okEA Z4 λr A e s H u Q E c h=>?_
 let(a,b,v,rfl,d,g,q,m):=h
 refine(_,(ao (aT (cE<|bG<|nW n bR bl.k_Words c (pv 0)<|aa (pv 1) ae)
  (ag<|dc bl.x_Outside c.hd U bl.Outside_<|aa (AI<|pv 1) ae)
  aG)
  (ag<|aE<|nW o bR bl.k_Words c (pv 0)<|aa (pv 1) ae)),?_,)
 show(let l:TS:=_;aZ _ l _ _ _);intro _;let(y,lw,k,x):=id d;calc(a,_,_,U,k,U,a,b,v,U,d,Bz g,_,U,?_,);cases hb:inW b v with
 |true =>
  let(z,rfl,p):∃z,v=.str z∧z∈b:=by
   cases v with
   |str z=>exact(z,U,MZ hb,)
   |_=>cases hb
  let(j,i):=qZ p;exact bI (a,_,_,U,k,U,a,b,z,j,U,d,i,q z j U i,)
 |false=>calc eU (g,(~~~0),λt=>((by show 1≤AY;decide),m hb,),)
def Jx(F:Fun K "__init__" "Numbers.__init__" Y16 f fd)(bl:Bl K mg Y)(c:du CX0 P w K mg base 1 "Domain" "__init__" ["self","low","high"] (cM K Y)):() 2 f fd ["self","low","high"] (bO K Y):=by
 refine F.okA Z16 λj A a s H k Q E e h=>?_
 let(x,g,lo,hi,rfl,d,i,q):=h
 refine(_,(ao (aT (aJ gP (pv 1) (pv 2)<|aO _)
  (ag bo)
  aG)
  (ag<|aY<|i7 c bR e U<|aa (pv 0)<|aa (pv 1)<|aa (pv 2) ae)),?_,)
 show(let b:TS:=_;aZ _ b _ _ _);intro _;calc(_,_,U,U,_,U,jb ∅ (x,g,lo,hi,U,d,q,),)
def Jy(F:Fun K "number_of" "number_of" Y73 f fd)(bl:Bl K mg Y)(g:⟨⟩ 2 "is_number" ["text"] (iD K Y)):aU P w K mg base (CX1 P w) 3 f fd ["text"] (gn K Y):=by
 refine F.okEA Z73 λj A a s H l Q E c h=>?_
 let(z,rfl,b,q,e):=h
 refine(_,(ao (aT (cE<|bG<|aQ g c U<|aa (pv 0) ae)
  (ag<|dc bl.x_BadNumber c.hd U bl.BadNumber_<|aa (vw<|pv 0) ae)
  aG)
  (ag<|aE<|bg rP U bl.int_ NX<|aa (pv 0) ae)),?_,)
 show(let d:TS:=_;aZ _ d _ _ _);intro _;let i:=b.len;calc(z,U,∅,_,U,?_,);cases hi:isn z with
 |true=>exact bI (z,_,U,BC hi ∅,∅,q hi,)
 |false=>calc eU (z,U,∅,b.low,(~~~0),λk=>((by show 1≤AY;decide),e hi,),)
def Jz(F:Fun K "refuse_names" "refuse_names" Y90 f fd)(bl:Bl K mg Y)(gK:⟨⟩ 2 "is_word" ["text"] (gI K Y)):aU P w K mg base (CX1 P w) 3 f fd ["facts","tables"] (eB K Y):=by
 refine F.okEA Z90 λd1 A c6 s H vs Q E hr h=>?_
 let(T,S,fv,mv,fs,a,rfl,J,I,C,q,qE):=h
 refine(_,(aw (bB (iJ U U U) U (aR<|pv 0) (d8 U<|aI (aC (i:=2) Z90.nd U<|bv U)<|aI (aC (i:=3) Z90.nd U<|bv U) br)
  (ag (aT (cE<|bG<|aQ gK hr U<|aa (pv 2) ae)
  (ag<|dc bl.x_BadName hr.hd U bl.BadName_<|aa (vw<|pv 2) ae)
  aG)))
  (aw (aL (i:=4) Z90.nd U (bv U)<|aH qv (d7 (aR<|pv 0) (cH (N:=["name","domain"]) (k:=2) U U (~~~0) (~~~0)<|~~~0) U (λ_ _ _ _=>(jF (K:=K) (n:=2) U U<|aI (aC (i:=0) (show(["name","domain"]:M3 Str).Nodup by decide+kernel) U (bv U) (pc U)) (aI (aC (i:=1) (show(["name","domain"]:M3 Str).Nodup by decide+kernel) U (bv U) (pc U)) br))) (λ_ _ _ _=>aX) (λ_ _ _ _=>(pv 0))) (bZ (aR<|pv 1) (dN U (~~~0) (~~~0) (~~~0) U) U (λ_ _ _ _=>aX)<|λ_ _ _ _=>(ja (K:=K) U (pv 0) U)))
  (ao (aT (aJ mO (av fK U bl.len_ MN<|aa (bg (fJ U) U bl.set_ Ev<|aa (pv 4) ae) ae) (av au U bl.len_ MN<|aa (pv 4) ae)<|aO _)
  (ag<|dc bl.x_BadName hr.hd U bl.BadName_<|aa aV ae)
  aG)
  (ag (bB (iJ U U U) U (aR<|pv 1) (aC (i:=5) Z90.nd U<|bv U)
  (ag (bB (iJ U U U) U (aR<|aP (pv 5) U) (aC (i:=2) Z90.nd U<|bv U)
  (ag (aT (aJ nO (pv 2) (pv 4) (by with_unfolding_all rfl))
  (ag<|dc bl.x_BadName hr.hd U bl.BadName_<|aa (vw<|pv 2) ae)
  aG))))))))),?_,)
 dsimp only[bj,OY,OW];show(let r3:TS:=_;let r2:TS:=aZ _ r3;let r1:TS:=a9 _ r2;a9 _ r1 _ _ _);intro _ _ _;let(b1,b2):=C.few;let a3:⇑fv=⇑fs:=C.facts.1;let a2:⇑mv=⇑a:=C.tabs.1;refine(let I_:St→Hp→Prop:=λW b=>b=H∧(∀f∈fs,isw f.1=MQ)∧E2 λB M:Option V=>W=[↑T,↑S,B,M,MP,MP];(I_,?_,?_,))
 .refine(T,U,(_,OU J,),bp (xs:=fv) (λi j b=>b=H∧(∀f∈fs.take i,isw f.1=MQ)∧E2 λB M:Option V=>j=[↑T,↑S,B,M,MP,MP]) (U,(λf hf=>by simp at hf),_,_,U,) (λi j b _ h=>by rw[h.1];exact OU J) (λi y j b e h=>?_) (λj b h=>by rw[a3,dY]at h;exact h),);let(e0,ha,B,M,rfl):=h;rw[e0];let(r,f,rfl,o,d,h3,h4):=ak.get C.facts e;let hz:=C.sf f<|KJ o;let a5:=hz.1;calc(r,_,U,OV h3,U,_,_,U,_,_,U,U,?_,);calc(f.1,U,∅,_,U,?_,);cases hw:isw f.1 with
  |true=>exact bI (U,mm (P:=λf:Fc=>isw f.1=MQ) o ha hw,_,_,U,)
  |false=>exact eU ⟨f.1,U,∅,hz.2,(~~~0),λz2=>⟨(by show 1≤AY;decide),qE (λg=>by rw[g.w f (KJ o)]at hw;cases hw) H (aq.refl H)⟩⟩
 rintro c8 H1 ⟨e1,a6,B,M,rfl⟩;rw[e1];clear e1;refine(let I_:St→Hp→Prop:=λW b=>aq H b∧∃x:AE,b x=MO (.lst<|(bN fs a).map OT)∧W=[↑T,↑S,B,M,↑x,MP];(I_,?_,?_,))
 .refine(T,U,(_,OU J,),b8 (xs:=fv) (λD i m b=>aq H b∧b D=MO (.lst m)∧m=((fs.take i).map (·.1)).map OT) (λD hD=>(ah hD _,af,U,)) (λD i m b hD _ h=>OU<|h.1 _ _ J) (λD i y m b hD e h a0 a7=>?_)<|λD m b hD h=>?_,)
  .let(O,eD,rfl):=h;let(r,f,rfl,o,d,h3,h4):=ak.get C.facts e;let hi:i<⇑fv:=(KH.mp e).1;let(t0,t1,rfl):∃t0 t1,a0=[t0,t1]:=by
    match a0,a7 with
    | [t0,t1],_=>exact(t0,t1,U,)
   calc(r,_,U,OV<|O _ _ h3,U,_,_,U,_,_,U,U,([MO (.str f.1),↑d],U,U,),?_,);refine(b7.mk ∅ eD (aD (by rw[bQ,bQ,eH];lia)) (O.upd hD,af,?_,));rw[take_snoc o,dy,dy];rfl
  .let(O,eD,rfl):=h;rw[a3,dY]at eD;refine(S,U,(_,OU<|O _ _ I,),bC (xs:=mv) (λZ i m u=>aq b u∧u Z=MO (.lst m)∧m=((a.take i).map BT.nm).map OT) (λZ v=>(ah v _,af,U,)) (λZ i m u v _ h=>OU<|h.1 _ _<|O _ _ I) (λZ i y m u v e h=>?_)<|λZ m u v h=>?_,)
   .let(R,L,rfl):=h;let(t_,t,rfl,o,ou,dv,g4,g5,g6):=ak.get C.tabs e;let(rl,dx,x,dl,c0,xs,ht,f1,f2,f3,f4,f5,f6,G,c4,c1,hR,kS):=g4;let hi:i<⇑mv:=(KH.mp e).1;let sA:=O.trans R;refine(t_,_,_,_,_,U,sA _ _ ht,bl.k_Table,bl.na_Table_name,f2,b7.mk hi L (aD (by rw[bQ,bQ,eH];lia)) (R.upd v,af,?_,),);rw[take_snoc o,dy,dy];rfl
   .let(R,L,rfl):=h;rw[a2,dY]at L;refine(D,Z,_,_,U,U,R _ _ eD,L,rM<|aD (by simp only[bQ];lia),λp hp=>((O.trans R).trans<|ah hp _,p,?_,U,),);rw[af];unfold bN;rw[dy]
 rintro c7 u ⟨R,x,G,rfl⟩;let c9:⇑(bN fs a)≤200:=by unfold bN;rw[dV,bQ,bQ];lia
 let a1:⇑((bN fs a).map OT)=⇑(bN fs a):=bQ _;calc(x,bN fs a,U,OU G,∅,λl X=>(l,bN fs a,U,af,∅,x,_,U,.inl<|OU<|ah X _ _ _ G,_,_,U,U,_,U,?_,),);let cf:=iI (bN fs a) ⇑(bN fs a)<|pT _;rw[dY]at cf;let s3:=R.trans<|ah X<|pW P w l<|bN fs a;let JA:=ah X (pW P w l<|bN fs a) _ _ G;refine bK (λg=>?_)<|λg=>?_
 .let g':=fZ g;rw[a1]at g';exact((by show 1≤AY;decide),qE (λgd=>by have:=cf.mpr gd.nd;lia) _ s3,)
 let g':=ip g;rw[a1]at g';let b0:(bN fs a).Nodup:=cf.mp (by have:=nZ (bN fs a) ⇑(bN fs a);lia);refine(S,U,(_,OU<|s3 _ _ I,),bp (xs:=mv) (λi j b=>aq H b∧b x=MO (.lst<|(bN fs a).map OT)∧(∀t∈a.take i,∀c∈t.cs,c∈bN fs a)∧E2 λB c5:Option V=>j=[↑T,↑S,B,M,↑x,c5]) (s3,JA,(λt ht=>by simp at ht),_,_,U,) (λi j b _ h=>OU<|h.1 _ _ I) (λi y j b e h=>?_) (λj b h=>by rw[a2,dY]at h;exact q (a6,b0,h.2.2.1,) b h.1),);let(s4,GU,b4,d2,d5,rfl):=h;let(t_,t,rfl,o,ou,dv,g4,g5,g6):=ak.get C.tabs e;let(rl,dx,a4,dl,c0,xs,ht,f1,f2,f3,f4,f5,f6,GV,c4,c1,hR,kS):=g4;let(a8,h4,_):=C.st t<|KJ o;let b3:⇑(t.cs.map OT)=⇑t.cs:=bQ _;refine(t_,_,_,_,_,U,s4 _ _ ht,bl.k_Table,bl.na_Table_names,f5,a4,U,(_,OU<|s4 _ _ GV,),bp (xs:=t.cs.map OT) (λi j u=>u=b∧(∀c∈t.cs.take i,c∈bN fs a)∧∃B:Option V,j=[↑T,↑S,B,M,↑x,↑t_]) (U,(λc hc=>by simp at hc),_,U,) (λi j u _ h=>by rw[h.1];exact OU (s4 _ _ GV)) (λi y j u e h=>?_) (λj u h=>by rw[b3,dY]at h;let(h1,h2,c,e):=h;rw[h1];exact(s4,GU,mm (P:=λt:BT=>∀c∈t.cs,c∈bN fs a) o b4 h2,c,_,e,)),);let(e0,hc,d0,rfl):=h;rw[e0];let(z,rfl,ez):=cg e;let hz:=a8 z<|KJ ez;let a5:=hz.1;calc(x,_,U,.inl<|OU GU,U,jI _,_,U,?_,);rw[show(if MQ=MQ then !inV (OT z) ((bN fs a).map OT)else inV (OT z) ((bN fs a).map OT)) = !(bN fs a).contains z by rw[MV U,qX]];cases hm:(bN fs a).contains z with
 |true=>exact bI (U,mm (P:=λc=>c∈bN fs a) ez hc<|~~~hm,_,U,)
 |false=>calc eU ⟨z,U,∅,hz.2,(~~~0),λz2=>⟨(by show 1≤AY;decide),qE (λg=>by have:=g.al t (KJ o) z<|KJ ez;rw[show(bN fs a).contains z=MQ by simpa using this]at hm;cases hm) b s4⟩⟩
def GW(F:Fun K "show_cell" "show_cell" EH f fd)(bl:Bl K mg Y)(bV:ba CX0 P w K mg base 2 Y.r "whole" ["self"] (bL K Y))(cq:ba CX0 P w K mg base 2 Y.s "whole" ["self"] (b5 K Y))(xO:⟨⟩ 2 "words_of" ["domain","spans"] (lH K Y))(uH:⟨⟩ 2 "show_range" ["domain","low","high"] (js K Y)):() 3 f fd ["domain","spans"] (ki K Y):=by
 refine F.okA Ia λa6 A a4 s H vs Q E S h=>?_
 let(d,l,k,o,R,rfl,T,y,u,ok,q):=h
 refine(_,(ao (aT (cE<|fH (pv 1) (by intro _;rfl))
  (ag<|aE<|aH aN (bA U bl.NOT_)<|bA U bl.ALL_)
  aG)
  (ao (aT (aJ (qx S) (pv 1) (n6 (mw bV bl.k_Numbers<|mw cq bl.k_Words vC) bR S<|pv 0)<|aO _)
  (ag<|aE<|bA U bl.ALL_)
  aG)
  (ao (aT (bG<|av b9 U bl.isinstance_ im<|aa (pv 0)<|aa (fu (v:=.ref Y.s) U bl.Words_ U) ae)
  (ag<|aE<|bx PySem.F.plainAttrs_str PySem.F.slot_str_join PySem.F.type_str_join eO aV<|aa (aQ xO S U<|aa (pv 0)<|aa (pv 1) ae) ae)
  aG)
  (ag<|aE<|bx PySem.F.plainAttrs_str PySem.F.slot_str_join PySem.F.type_str_join eO aV<|aa (d7 (aR<|pv 1) (eW (N:=["low","high","domain"]) (k:=2) (fr:=[0]) (cl:=[("domain",↥s+1)]) U U (~~~0) (~~~0) U U (eN.mpr (U,fW _,)) U) U (λ_ _ _ _=>(jF (K:=K) (n:=2) U U<|aI (aC (i:=0) (show(["low","high","domain"]:M3 Str).Nodup by decide+kernel) U (bv U) (pc U)) (aI (aC (i:=1) (show(["low","high","domain"]:M3 Str).Nodup by decide+kernel) U (bv U) (pc U)) br))) (λ_ _ _ _=>aX) (λ_ _ _ _=>(aQ uH S U<|aa (pv 2)<|aa (pv 0)<|aa (pv 1) ae))) ae)))),?_,)
 dsimp only[bj,OY,OW];show(let r3:TS:=_;let r2:TS:=aZ _ r3;let r1:TS:=aZ _ r2;aZ _ r1 _ _ _);intro _ _ _;let a1:=⇑u;by_cases c:R=[]
 .let a3:=(uo u).mpr c;subst a3 c;let:=q H<|aq.refl H;rw[qW,←CS]at this;exact(MR,.inl (_,OU y,U,),eU (_,_,U,U,(~~~0),this,),)
 let I:o≠[]:=λz=>c<|(uo u).mp z
 let tb:(!o.isEmpty)=true:=by cases o with|nil=>exact MW U I|cons=>rfl
 refine(MQ,.inl (_,OU y,?_,),bI ?_,)
 .cases o with
  |nil=>exact MW U I
  |cons=>rfl
 let(w,lo,hi):=k;cases w with
 |none =>
  let(dx,C):=id T;calc(d,_,dx,_,U,.head _,C,U,d,lo,hi,U,T,λl2 t2 H2 a _ e2 f2=>?_,);calc o6 (q:=(lo,hi)) (OU<|a _ _ y) (u.mono a.tups) (OU e2) f2 (_,U,?_,);refine bK (λg=>?_)<|λg=>?_
  .let:=q H2 a;rw[m6 (k:=(MP,lo,hi)) (fZ g)]at this;exact this
  .let B:=λj s'=>q j s'
   rw[j0 c (ip g)]at B;calc(_,_,_,_,MR,U,.ref _,bl.t_Numbers.ty<|a _ _ C,bl.f_nw,_,U,bI ?_,);refine(U,l,U,(_,OU<|a _ _ y,),(let I_:AE→Nat→M3 V→Hp→Prop:=λD i b j=>aq H2 j∧j D=MO (.lst b)∧b=((R.take i).map<|qT (MP,lo,hi)).map OT;b8 (xs:=o) I_ (λD e=>(ah e _,af,U,)) (λD i b j e _ h=>OU<|(a.trans h.1) _ _ y) (λD i x b j e ex h G a0=>?_) (λD b j e h=>?_)),)
   .let(O,W,rfl):=h;let(p,t,ep,rfl,et):=u.get ex;let a2:i<⇑o:=(KH.mp ex).1;let sA:=a.trans O;let J:=ok.inn p<|KJ ep;let h2:=ok.few;let(M,L,rfl):∃M L,G=[M,L]:=by
     match G,a0 with
     | [M,L],_=>exact(M,L,U,)
    calc(t,_,U,OV<|sA _ _ et,U,_,_,U,_,_,U,U,([MO (.int p.1),MO (.int p.2)],U,U,),?_,);refine(d,lo,hi,p,U,hU.same T sA,J.b1,J.b2,b7.mk a2 W (aD (by simp;lia)) (O.upd e,af,?_,),);rw[take_snoc ep,dy,dy];rfl
   .let(O,W,rfl):=h;rw[a1,dY]at W;refine(_,D,_,U,U,OU W,(~~~0),fC (m:=600) (n:=2) (λz hz=>?_) (by rw[bQ];exact ok.few) ⋯,B j<|a.trans O,);let(p,hp,rfl):=ck.mp hz;exact oZ (ok.inn p hp) ok.gd
 |some b =>
  let(hW,Z,X,hg):=id T;let Z:lo=0:=Z;let X:hi=hiW b:=X;let(dx,wl,C,a5):=id hW;calc(d,_,dx,_,U,.tail _<|.head _,C,U,d,b,U,hW,λl2 t2 H2 a _ e2 f2=>?_,);calc o6 (q:=(0,hiW b)) (OU<|a _ _ y) (u.mono a.tups) (OU e2) f2 (_,U,?_,);refine bK (λg=>?_)<|λg=>?_
  .let:=q H2 a;rw[m6 (k:=(MO b,lo,hi)) (by rw[Z,X];exact fZ g)]at this;exact this
  .let B:=λj s'=>q j s'
   rw[j0 c (by rw[Z,X];exact ip g),pQ ok]at B;calc(_,_,_,_,MQ,U,.ref _,bl.t_Words.ty<|a _ _ C,bl.f_ww,_,U,eU ?_,);calc(U,d,l,b,o,R,U,hW.same a,hg.few,a _ _ y,u.mono a.tups,ok.few,λw3 H3 s3 e3=>?_,);calc(_,w3,_,U,U,OU e3,(~~~0),fC (m:=12) (n:=80) (λz hz=>df<|hg.words z<|qU hz) (qu (qV b R)<|qu (Nat.mul_le_mul ok.few hg.few) ⋯) ⋯,B H3<|a.trans s3,)
def JB(F:Fun K "refuse_names" "refuse_names" Y92 f fd)(bl:Bl K mg Y)(G:⟨⟩ 2 "is_word" ["text"] (gI K Y)):() 3 f fd ["names"] (dU K Y):=by
 refine F.okA Z92 λN A t s H O Q E C h=>?_
 let(p,a,rfl,n,B,D,R,q):=h
 refine(_,(aw (bB tz U (aR<|pv 0) (aC (i:=1) Z92.nd U<|bv U)
  (ag (aT (cE<|bG<|aQ G C U<|aa (pv 1) ae)
  (ag bo)
  aG)))
  (ag (aT (aJ mO (av fK U bl.len_ MN<|aa (bg (fJ U) U bl.set_ Ev<|aa (pv 0) ae) ae) (av au U bl.len_ MN<|aa (pv 0) ae)<|aO _)
  (ag bo)
  aG))),?_,)
 dsimp only[bj,OY,OW];show(let v:TS:=_;a9 _ v _ _ _);intro _;let k:⇑(a.map OT)=⇑a:=bQ _;refine(let o:St→Hp→Prop:=λr b=>b=H∧∃c:Option V,r=[↑p,c];(o,?_,?_,))
 .refine(p,U,(_,n,),(let o:Nat→St→Hp→Prop:=λi m b=>b=H∧∃c:Option V,m=[↑p,c];bp (xs:=a.map OT) o (U,_,U,) (λi m b _ h=>by rw[h.1];exact n) (λi y m b e h=>?_) (λm b h=>h)),);let(L,c,rfl):=h;rw[L];let(z,rfl,I):=cg e;let d:=B z<|KJ I;let x:⇑z≤1000:=by
   let g:=d;unfold isw at g;simp only[wh,decide_eq_true_eq]at g;lia
  calc(z,U,x,_,U,?_,);rw[d];exact bI (U,_,U,)
 rintro M S ⟨J,c,rfl⟩;rw[J];calc(p,a,U,n,∅,λl j=>(l,a,U,af,∅,p,_,U,.inl<|(ah j _).seq n,_,_,U,U,_,U,?_,),);let u:=iI a ⇑a<|pT _;rw[dY]at u;calc jb (by rw[k,u.mpr D];lia) (q _<|ah j _)
def GX(F:Fun K "refuse_row" "refuse_row" Y95 f fd)(bl:Bl K mg Y)(bE:ba CX0 P w K mg base 2 Y.r "has_code" ["self","value"] (bz K Y))(dI:ba CX0 P w K mg base 2 Y.s "has_code" ["self","value"] (cb K Y)):() 3 f fd ["domains","outcome","cells","code"] (jv K Y):=by
 refine F.okA Z95 λa4 A a2 s H vs Q E hr h=>?_
 let(v,n,z,dv,xs,bs,o,m,rfl,R,I,hO,S,J,ok,q):=h
 refine(_,(ao (aT (aJ lq (av au U bl.len_ MN<|aa (pv 2) ae) (av au U bl.len_ MN<|aa (pv 0) ae)<|aO _)
  (ag bo)
  aG)
  (aw (bB tz U (ud U bl.zip_<|aa (pv 0)<|aa (pv 2) ae) (d8 U<|aI (aC (i:=4) Z95.nd U<|bv U)<|aI (aC (i:=5) Z95.nd U<|bv U) br)
  (ag (bB tz U (aR<|pv 5) (d8 U<|aI (aC (i:=6) Z95.nd U<|bv U)<|aI (aC (i:=7) Z95.nd U<|bv U) br)
  (ag (aT (PW.pt<|lh (aJ mO (pv 6) (aP (pv 4) U)<|aO _)<|jk<|aJ gP (pv 7) (aP (pv 4) U)<|aO _)
  (ag bo)
  aG)))))
  (ag (aT (cE<|bG<|xn (mw bE bl.k_Numbers<|mw dI bl.k_Words vC) bR hr (pv 1)<|aa (pv 3) ae)
  (ag bo)
  aG)))),?_,)
 dsimp only[bj,OY,OW];show(let r2:TS:=_;let r1:TS:=a9 _ r2;aZ _ r1 _ _ _);intro _ _;let a1:∀(C:AE),(C=Y.r∨C=Y.s)→Cls K C∧NoAttr K C s!"low"∧NoAttr K C s!"high":=λC h=>by
  rcases h with rfl|rfl
  .exact(bl.k_Numbers,bl.na_Numbers_low,bl.na_Numbers_high,)
  .exact(bl.k_Words,bl.na_Words_low,bl.na_Words_high,)
 let L:⇑xs=⇑dv:=by rw[J.1,ok.len,I.1]
 refine(z,_,U,.inl<|OU S,v,_,U,.inl<|R,U,_,U,nP (by rw[L]) ?_,);refine(let G:St→Hp→Prop:=λZ c=>aq H c∧E4 λD B k g:Option V=>Z=[↑v,↑n,↑z,MO<|.int m.2,D,B,k,g];(G,?_,?_,))
 .refine(v,z,U,(_,R,),(_,OU S,),(let G:Nat→St→Hp→Prop:=λi d c=>aq H c∧E4 λD B k g:Option V=>d=[↑v,↑n,↑z,MO<|.int m.2,D,B,k,g];yv (xs:=dv) (ys:=xs) G (aq.refl _,_,_,_,_,U,) (λi d c h=>(h.1.seq R,OU<|h.1 _ _ S,)) (λi x y d c T ex ey h hT=>?_) (λd c h=>h)),);let(sm,D,B,k,g,rfl):=h;let M:=sm.trans<|ah hT<|.tup [x,y];let eT:upd c T (.tup [x,y]) T=MO (.tup [x,y]):=af;generalize upd c T (.tup [x,y])=H2 at M eT⊢;let(a,b,rfl,eb,hb):=I.get ex;let(l,ps,rfl,ep,hl):=ak.get J ey;let(C,t,X,fs,u,f1,f2,_):=hb.same M;let(k1,k2,k3):=a1 C t;let(_,ys,el,hp):=hl.same M;calc(T,_,U,OV eT,U,_,_,U,_,_,U,U,?_,);refine(l,U,(_,OU el,),(let G:Nat→St→Hp→Prop:=λj d c=>c=H2∧E2 λk g:Option V=>d=[↑v,↑n,↑z,MO<|.int m.2,↑a,↑l,k,g];bp (xs:=ys) G (U,_,_,U,) (λj d c _ h=>by rw[h.1];exact OU el) (λj y d c e h=>?_) (λd c h=>?_)),)
  .let(W,k,g,rfl):=h;rw[W];let(p,r,e1,rfl,a0):=hp.get e;let(i1,i2):=ok.inn i ps b ep eb p<|KJ e1;calc(r,_,U,OV a0,U,_,_,U,_,_,U,U,?_,);calc(a,_,_,_,_,U,u,k1,k2,f1,_,_,U,U,_,U,jb ∅ ?_,);exact(a,_,_,_,_,U,u,k1,k3,f2,_,_,U,U,_,U,jb ∅ (U,_,_,U,),)
  .let(W,k,g,rfl):=h;rw[W];exact(M,_,_,_,_,U,)
 rintro a3 H3 ⟨N,D,B,k,g,rfl⟩;let(C,t,O):=hO.same N;let(X,fs,u,f1,f2,f3):=id O;rcases t with rfl|rfl
 .exact(n,_,X,fs,U,.head _,u,f3,n,o,.int m.2,U,O,trivial,by rw[show inB o.1 o.2 (.int m.2)=MQ by simp[inB,ok.lo,ok.hi]];exact(_,U,bI<|q _ N,),)
 .exact(n,_,X,fs,U,.tail _<|.head _,u,f3,n,o,.int m.2,U,O,trivial,by rw[show inB o.1 o.2 (.int m.2)=MQ by simp[inB,ok.lo,ok.hi]];exact(_,U,bI<|q _ N,),)
def JC(F:Fun K "drafted" "drafted" Y42 f fd)(bl:Bl K mg Y)(M:⟨⟩ 2 "cut" ["parts"] (rD K Y))(g:bu CX0 P w K mg base 1 "Draft" Y.v ["self","name","columns","domain","way"] (dF K Y)):() 3 f fd ["text"] (nj K Y):=by
 refine F.okA Z42 λa3 A Z s H vs Q E G h=>?_
 let(z,n,m,r,j,t,y,d,b,k,fs,rfl,hz,h1,T,hm,W,h2,hy,ht,S,h3,hb,X,hc,hf,q):=h
 refine(_,(ao (aL (i:=1) Z42.nd U (bv U)<|aQ M G U<|aa (bx PySem.F.plainAttrs_str PySem.F.slot_str_partition PySem.F.type_str_partition fB (pv 0)<|aa (bA U bl.NAMED_) ae) ae)
  (ao (aL (i:=2) Z42.nd U (bv U)<|aQ M G U<|aa (bx PySem.F.plainAttrs_str PySem.F.slot_str_partition PySem.F.type_str_partition fB (az aM (pv 1) ai<|λ_ _=>U)<|aa (bA U bl.TO_) ae) ae)
  (ao (aL (i:=3) Z42.nd U (bv U)<|aQ M G U<|aa (bx PySem.F.plainAttrs_str PySem.F.slot_str_rpartition PySem.F.type_str_rpartition rS (az aM (pv 2) ai<|λ_ _=>U)<|aa (bA U bl.BY_) ae) ae)
  (ag<|aE<|mQ g bR G U<|aa (az aM (pv 1) ai<|λ_ _=>U)<|aa (bx PySem.F.plainAttrs_str PySem.F.slot_str_split PySem.F.type_str_split lC (az aM (pv 2) ai<|λ_ _=>U)<|aa (bA U bl.BETWEEN_NAMES_) ae)<|aa (az aM (pv 3) ai<|λ_ _=>U)<|aa (az aM (pv 3) ai<|λ_ _=>U) ae)))),?_,)
 dsimp only[bj,OY,OW];show(let r3:TS:=_;let r2:TS:=aZ _ r3;let r1:TS:=aZ _ r2;aZ _ r1 _ _ _);intro _ _ _;calc(U,z,CO,U,U,⋯,∅,λu R=>?_,);rw[h1];let a:upd H u (.tup [.str n,.str m,.str r]) u=MO (.tup [.str n,.str m,.str r]):=af;let s1:=ah R<|.tup [.str n,.str m,.str r];generalize upd H u (.tup [.str n,.str m,.str r])=H1 at a s1⊢;calc(u,n,m,r,U,a,hm,W,?_,);calc(u,_,_,_,U,U,OV a,U,U,r,AR,U,U,⋯,T,λp B=>?_,);rw[h2];let e:upd H1 p (.tup [.str j,.str t,.str y]) p=MO (.tup [.str j,.str t,.str y]):=af;let s2:=s1.trans<|ah B<|.tup [.str j,.str t,.str y];let a:=ah B (.tup [.str j,.str t,.str y]) _ _ a;generalize upd H1 p (.tup [.str j,.str t,.str y])=H2 at a e s2⊢;calc(p,j,t,y,U,e,ht,S,?_,);calc(p,_,_,_,U,U,OV e,U,U,y,BY,U,U,⋯,hy,λo e3=>?_,);rw[h3];let J:=ah e3<|.tup [.str d,.str b,.str k];let c:upd H2 o (.tup [.str d,.str b,.str k]) o=MO (.tup [.str d,.str b,.str k]):=af;let L:=s2.trans J;let a:=J _ _ a;let e:=J _ _ e;generalize upd H2 o (.tup [.str d,.str b,.str k])=H3 at a e c L⊢;calc(o,d,b,k,U,c,hb,X,?_,);calc(u,_,_,_,U,U,OV a,U,p,_,_,_,U,U,OV e,U,U,j,mk2,U,U,⋯,hc,λl hl=>?_,);rw[hf];let u4:=ah hl<|.lst<|fs.map OT;let O:upd H3 l (.lst<|fs.map OT) l=MO (.lst<|fs.map OT):=af;let D:=L.trans u4;let c:=u4 _ _ c;generalize upd H3 l (.lst<|fs.map OT)=H4 at O c D⊢;calc(o,_,_,_,U,U,OV c,U,o,_,_,_,U,U,OV c,U,λx dx N C a0=>?_,);calc(x,dx,l,n,d,k,U,af,λrl H' I R B kp=>(U,?_,),);let sN:=oz N C kp;exact q x rl H' (D.trans sN) (D.free N) (D.free<|BL I) (dx,l,B,sN _ _ O,) R λa1 a2 z1 _=>by
  rw[B]at z1;cases z1;calc⟨L.free hl,λz=>by rw[←z]at I;rw[BD N C O]at I;cases I⟩
def JD(F:Fun K "refuse_names" "refuse_names" Y91 f fd)(bl:Bl K mg Y)(pw:⟨⟩ 2 "refuse_columns" ["draft","names"] (gh K Y))(gK:⟨⟩ 2 "is_word" ["text"] (gI K Y)):() 3 f fd ["facts","drafts"] (dG K Y):=by
 refine F.okA Z91 λc2 A b0 s H vs Q E hr h=>?_
 let(S,R,fv,dv,fs,C,rfl,a3,J,hf,hd,rf,rd,hw,a6,ok,q):=h
 refine(_,(aw (aL (i:=2) Z91.nd U (bv U)<|aH qv (d7 (aR<|pv 0) (cH (N:=["name","domain"]) (k:=2) U U (~~~0) (~~~0)<|~~~0) U (λ_ _ _ _=>(jF (K:=K) (n:=2) U U<|aI (aC (i:=0) (show(["name","domain"]:M3 Str).Nodup by decide+kernel) U (bv U) (pc U)) (aI (aC (i:=1) (show(["name","domain"]:M3 Str).Nodup by decide+kernel) U (bv U) (pc U)) br))) (λ_ _ _ _=>aX) (λ_ _ _ _=>(pv 0))) (bZ (aR<|pv 1) (dN U (~~~0) (~~~0) (~~~0) U) U (λ_ _ _ _=>aX)<|λ_ _ _ _=>(ja (K:=K) U (pv 0) U)))
  (aw (bB tz U (aR<|pv 2) (aC (i:=3) Z91.nd U<|bv U)
  (ag (aT (cE<|bG<|aQ gK hr U<|aa (pv 3) ae)
  (ag bo)
  aG)))
  (aw (aT (aJ mO (av fK U bl.len_ MN<|aa (bg (fJ U) U bl.set_ Ev<|aa (pv 2) ae) ae) (av au U bl.len_ MN<|aa (pv 2) ae)<|aO _)
  (ag bo)
  aG)
  (ag (bB tz U (aR<|pv 1) (aC (i:=4) Z91.nd U<|bv U)
  (ag<|aY<|aQ pw hr U<|aa (pv 4)<|aa (pv 2) ae)))))),?_,)
 dsimp only[bj,OY,OW];show(let r3:TS:=_;let r2:TS:=a9 _ r3;let r1:TS:=a9 _ r2;a9 _ r1 _ _ _);intro _ _ _;let a7:⇑fv=⇑fs:=rf.1;let a8:⇑dv=C.length:=rd.1;let c1:⇑(fs.map (·.1)++C.map Dw.nm)≤50:=by rw[dV,bQ,bQ];lia
 let a5:⇑((fs.map (·.1)++C.map Dw.nm).map OT)=⇑(fs.map (·.1)++C.map Dw.nm):=bQ _;refine(let b:St→Hp→Prop:=λo a=>aq H a∧E3 λ(m:AE)(v M:Option V)=>a m=MO (.lst ((fs.map (·.1)++C.map Dw.nm).map OT))∧o=[↑S,↑R,↑m,v,M];(b,?_,?_,))
 .refine(S,U,(_,OU a3,),(let b:AE→Nat→M3 V→Hp→Prop:=λD i c a=>aq H a∧a D=MO (.lst c)∧c=((fs.take i).map (·.1)).map OT;b8 (xs:=fv) b (λD W=>(ah W _,af,U,)) (λD i c a W _ h=>OU<|h.1 _ _ a3) (λD i y c a W e h Z a4=>?_) (λD c a W h=>?_)),)
  .let(j,eD,rfl):=h;let(r,f_,rfl,X,h3):=ak.get rf e;let hi:i<⇑fv:=(KH.mp e).1;let(t0,t1,rfl):∃t0 t1,Z=[t0,t1]:=by
    match Z,a4 with
    | [t0,t1],_=>exact(t0,t1,U,)
   calc(r,_,U,OV<|j _ _ h3,U,_,_,U,_,_,U,U,([MO (.str f_.1),MO (.str f_.2)],U,U,),?_,);refine(b7.mk ∅ eD (aD (by rw[bQ,bQ,eH];lia)) (j.upd W,af,?_,));rw[take_snoc X,dy,dy];rfl
  .let(j,eD,rfl):=h;rw[a7,dY]at eD;refine(R,U,(_,OU<|j _ _ J,),(let b:AE→Nat→M3 V→Hp→Prop:=λT i c G=>aq a G∧G T=MO (.lst c)∧c=((C.take i).map Dw.nm).map OT;bC (xs:=dv) b (λT t=>(ah t _,af,U,)) (λT i c G t _ h=>OU<|h.1 _ _<|j _ _ J) (λT i y c G t e h=>?_) (λT c G t h=>?_)),)
   .let(O,L,rfl):=h;let(x,d,rfl,X,rl,rv,(dx,cl,g1,g2),g3,g4):=ak.get rd e;let hi:i<⇑dv:=(KH.mp e).1;let sA:=j.trans O;refine(x,_,_,_,_,U,(sA _ _ g1),bl.k_Draft,bl.na_Draft_name,U,b7.mk hi L (aD (by rw[bQ,bQ,eH];lia)) (O.upd t,af,?_,),);rw[take_snoc X,dy,dy];rfl
   .let(O,L,rfl):=h;rw[a8,dY]at L;refine(D,T,_,_,U,U,O _ _ eD,L,rM<|aD (by simp only[bQ];lia),λp hp=>((j.trans O).trans<|ah hp _,p,_,_,?_,U,),);rw[af,dy]
 rintro c0 G ⟨O,m,v,M,u,rfl⟩;refine(let b:St→Hp→Prop:=λo a=>a=G∧∃v:Option V,o=[↑S,↑R,↑m,v,M];(b,?_,?_,))
 .refine(m,U,(_,OU u,),(let b:Nat→St→Hp→Prop:=λi B a=>a=G∧∃v:Option V,B=[↑S,↑R,↑m,v,M];bp (xs:=(fs.map (·.1)++C.map Dw.nm).map OT) b (U,_,U,) (λi B a _ h=>by rw[h.1];exact OU u) (λi y B a e h=>?_) (λB a h=>h)),);let(e0,v,rfl):=h;rw[e0];let(z,rfl,ez):=cg e;let a0:=hw z<|KJ ez;let hz:⇑z≤1000:=by
   let a1:=a0;unfold isw at a1;simp only[wh,decide_eq_true_eq]at a1;lia
  calc(z,U,hz,_,U,?_,);rw[a0];exact bI (U,_,U,)
 rintro b4 H3 ⟨e3,v,rfl⟩;rw[e3];clear e3;refine(let b:St→Hp→Prop:=λo a=>aq G a∧o=[↑S,↑R,↑m,v,M];(b,?_,?_,))
 .refine(m,_,U,OU u,∅,λl a2=>(l,_,U,af,∅,m,_,U,.inl<|OU<|ah a2 _ _ _ u,_,_,U,U,_,U,?_,),);let cf:=iI (fs.map (·.1)++C.map Dw.nm) ⇑(fs.map (·.1)++C.map Dw.nm)<|pT _;rw[dY]at cf;exact jb (by rw[a5,cf.mpr a6];lia) (ah a2 _,U,)
 rintro b3 H4 ⟨s4,rfl⟩;let I:=O.trans s4;calc(R,U,(_,OU<|I _ _ J,),(let b:Nat→St→Hp→Prop:=λi B a=>aq H4 a∧∃M:Option V,B=[↑S,↑R,↑m,v,M];bp (xs:=dv) b (aq.refl _,_,U,) (λi B a _ h=>OU<|h.1 _ _<|I _ _ J) (λi y B a e h=>?_) (λB a h=>q a<|I.trans h.1)),);let(j,M,rfl):=h;let(x,d,rfl,X,g):=ak.get rd e;let sA:=I.trans j;calc(x,m,d,_,U,g.same sA,ok d<|KJ X,j _ _<|s4 _ _ u,∅,λH5 s5=>(j.trans s5,_,U,),)
def JE(F:Fun K "head_text" "head_text" Y46 f fd)(bl:Bl K mg Y)(M:ba CX0 P w K mg base 2 Y.r "written" ["self"] (bU K Y))(L:ba CX0 P w K mg base 2 Y.s "written" ["self"] (cI K Y)):() 3 f fd ["table"] (kj K Y):=by
 refine F.okA Z46 λZ A l s H vs Q E C h=>?_
 let(t,d,nm,wy,zs,dv,S,p,rfl,(rl,dx,z,dl,fs,xs,b,f1,J,x,I,G,f6,k,X,W,hR,kS),c,ok,l1,l2,u,o,q):=h
 refine(_,(aw (aL (i:=1) Z46.nd U (bv U)<|bx PySem.F.plainAttrs_str PySem.F.slot_str_join PySem.F.type_str_join eO (bA U bl.BETWEEN_NAMES_)<|aa (aP (pv 0) U) ae)
  (ag<|aE<|aH aN (aH aN (aH aN (aH aN (aH aN (aH aN (aH aN (bA U bl.TABLE_)<|aP (pv 0) U)<|bA U bl.NAMED_)<|pv 1)<|bA U bl.TO_)<|n6 (mw M bl.k_Numbers<|mw L bl.k_Words vC) bR C<|aP (pv 0) U)<|bA U bl.BY_)<|aP (pv 0) U)),?_,)
 dsimp only[bj,OY,OW];show(let y:TS:=_;a9 _ y _ _ _);intro _;let B:=lF (sep:=ofS ", ") (zs:=zs) (m:=12) (n:=4) (~~~0) u o;let lw:=mj ok.gd ok.b1 ok.b2;unfold ir at q;let T:⇑(io s!", " zs)≤60:=B;calc(let N:St→Hp→Prop:=λj O=>O=H∧j=[↑t,MO (.str<|io s!", " zs)];(N,(U,t,_,_,_,_,U,b,bl.k_Table,bl.na_Table_names,G,_,z,_,U,U,OU k,(~~~0),fC (m:=12) (n:=4) u o ⋯,U,U,),?_,));rintro R H1 ⟨rfl,rfl⟩;refine(t,_,_,_,_,U,b,bl.k_Table,bl.na_Table_name,J,_,_,U,U,fX (by rw[dP];lia),_,_,U,U,fX (by rw[aK,dP,fQ];lia),_,_,U,U,fX (by rw[aK,aK,dP,fQ];lia),_,_,U,U,fX (by rw[aK,aK,aK,dP,fQ,m7];lia),t,_,_,_,_,U,b,bl.k_Table,bl.na_Table_outcome,I,?_,);by_cases e:p.ws=[]
 .let b1:bnd p.lo:=ok.b1;let b2:bnd p.hi:=ok.b2;rw[PD.k_none e]at c q lw;let(a,g):=id c;refine(d,_,a,_,U,.head _,g,U,d,p.lo,p.hi,U,c,b1,b2,_,_,U,U,fX (by rw[aK,aK,aK,aK,dP,fQ,m7];lia),_,_,U,U,fX (by rw[aK,aK,aK,aK,aK,dP,fQ,m7,xx];lia),t,_,_,_,_,U,b,bl.k_Table,bl.na_Table_way,x,_,_,U,U,fX (by rw[aK,aK,aK,aK,aK,aK,dP,fQ,m7,xx];lia),q,)
 .let(D,e0,e1):=ok.wd e;rw[PD.k_some e]at c q lw;let(v,_):=id c;let(a,wl,g,V):=id v;calc(d,_,a,_,U,.tail _<|.head _,g,U,d,p.ws,(p.lo,p.hi),U,v,D,_,_,U,U,fX (by rw[aK,aK,aK,aK,dP,fQ,m7];lia),_,_,U,U,fX (by rw[aK,aK,aK,aK,aK,dP,fQ,m7,xx];lia),t,_,_,_,_,U,b,bl.k_Table,bl.na_Table_way,x,_,_,U,U,fX (by rw[aK,aK,aK,aK,aK,aK,dP,fQ,m7,xx];lia),q,)
def JF(F:Fun K "_law_book" "_law_book" Y52 f fd)(bl:Bl K mg Y)(rY:⟨⟩ 2 "_law_domain" ["cell"] (ju K Y))(vX:⟨⟩ 2 "_law_pool" ["domain","cell"] (lI K Y))(fD:⟨⟩ 2 "_law_at" ["script","k"] (mn K Y))(kB:⟨⟩ 2 "_law_words" ["cell","count"] (iC K Y))(xP:⟨⟩ 2 "_law_row" ["columns","domains","pools","own","cell"] (ni K Y)):() 3 f fd ["script"] (lK K Y):=by
 refine F.okA Z52 λo1 A l1 s H vs Q E hr h=>?_
 let(a,ns,rfl,hS,q):=h
 refine(_,(aw (aL (i:=1) Z52.nd U (bv U)<|aH bY ai<|aH cD (aQ fD hr U<|aa (pv 0)<|aa ai ae) ai)
  (aw (aL (i:=2) Z52.nd U (bv U)<|aH bY (aH bY (pv 1) ai)<|aH cD (aH cO (aQ fD hr U<|aa (pv 0)<|aa ai ae) ai) ai)
  (aw (aL (i:=3) Z52.nd U (pc U)<|bZ (b6 U bl.range_<|aa (pv 2) ae) (bc (N:=["k","script"]) (fr:=[0]) (cl:=[("script",↥s+1)]) U U (~~~0) (~~~0) U (~~~0) U U U (eN.mpr (U,fW _,)) U) U (λ_ _ _ _=>aX)<|λ_ _ _ _=>(aQ rY hr U<|aa (aQ fD hr U<|aa (pv 1)<|aa (aH bY ai<|pv 0) ae) ae))
  (aw (i5 (i:=4) Z52.nd U (bv U) (b6 U bl.range_<|aa (pv 2) ae) (bc (N:=["k","script","domains"]) (fr:=[0,3]) (cl:=[("script",↥s+1),("domains",↥s+1+1)]) U U (~~~0) (~~~0) U (~~~0) U U U (eN.mpr (U,eN.mpr (U,fW _,),)) U) U (λ_ _ _ _=>aX)<|λ_ _ _ _=>(aQ vX hr U<|aa (az (d6 (K:=K) U) (pv 2) (pv 0)<|λ_ _=>U)<|aa (aQ fD hr U<|aa (pv 1)<|aa (aH bY ai<|pv 0) ae) ae))
  (aw (aL (i:=5) Z52.nd U (bv U)<|bP ae)
  (aw (bB tz U (sr U bl.range_<|aa (pv 1)<|aa (pv 2) ae) (aC (i:=6) Z52.nd U<|pc U)
  (aw (aL (i:=7) Z52.nd U (pc U)<|aQ fD hr U<|aa (pv 0)<|aa (aH fS (aH bY ai<|pv 6)<|pv 1) ae)
  (aw (i5 (i:=8) Z52.nd U (bv U) (b6 U bl.range_<|aa (av (jC U) U bl.min_ EQ<|aa (aH bY ai<|aH cD (pv 7) ai)<|aa (pv 6) ae) ae) (bc (N:=["j","own","cell"]) (fr:=[6,7]) (cl:=[("own",↥s+1+1+1),("cell",↥s+1+1+1+1)]) U U (~~~0) (~~~0) U (~~~0) U U U (eN.mpr (U,eN.mpr (U,fW _,),)) U) U (λ_ _ _ _=>aX)<|λ_ _ _ _=>(aH cD (aH bY (aH cO (pv 2) ai)<|pv 0)<|pv 1))
  (aw (aL (i:=9) Z52.nd U (bv U)<|az aW (bP<|aa aV<|aa aV<|aa aV<|aa aV<|aa aV<|aa aV ae) (aH cD (aH cO (pv 7) ai) ai)<|λ_ _=>U)
  (aw (aT (PW.pt<|jT (aJ cU (pv 9) aV<|aO _)<|iw<|aJ gP (av au U bl.len_ MN<|aa (az aM (az aW (pv 3) (pv 6)<|λ_ _=>U) ai<|λ_ _=>U) ae) ai<|aO _)
  (ag<|aL (i:=9) Z52.nd U (bv U) aV)
  aG)
  (ag<|aY<|bx PySem.F.plainAttrs_list PySem.F.slot_list_append PySem.F.type_list_append bW (pv 5)<|aa (bH<|aa (pv 8)<|aa (pv 9)<|aa (bP ae) ae) ae))))))
  (aw (bB tz U (sr U bl.range_<|aa ai<|aa (av (jC U) U bl.min_ EQ<|aa (av au U bl.len_ MN<|aa (pv 0) ae)<|aa ai ae) ae) (aC (i:=10) Z52.nd U<|bv U)
  (aw (aL (i:=6) Z52.nd U (pc U)<|aH bY (pv 1)<|aH cD (pv 10)<|av au U bl.len_ MN<|aa (pv 5) ae)
  (aw (aL (i:=11) Z52.nd U (bv U)<|az aW (pv 5) (aH fS (pv 6)<|pv 1)<|λ_ _=>U)
  (ag<|aY<|bx PySem.F.plainAttrs_list PySem.F.slot_list_append PySem.F.type_list_append bW (az aM (pv 11) ai<|λ_ _=>U)<|aa (aQ xP hr U<|aa (az aM (pv 11) ai<|λ_ _=>U)<|aa (pv 3)<|aa (pv 4)<|aa (pv 6)<|aa (az aW (pv 0) (pv 10)<|λ_ _=>U) ae) ae))))
  (ag<|aE<|bH<|aa (aQ kB hr U<|aa (aQ fD hr U<|aa (pv 0)<|aa ai ae)<|aa (pv 2) ae)<|aa (pv 3)<|aa (pv 5) ae)))))))),?_,)
 dsimp only[bj,OY,OW];show(let r7:TS:=_;let r6:TS:=a9 _ r7;let r5:TS:=a9 _ r6;let r4:TS:=a9 _ r5;let r3:TS:=a9 _ r4;let r2:TS:=a9 _ r3;let r1:TS:=a9 _ r2;a9 _ r1 _ _ _);intro _ _ _ _ _ _ _;refine(let G:St→Hp→Prop:=λn v=>v=H∧∃C:Nat,A3 (1≤C) (C≤3) (n=[↑a,MO<|.int (C:Int),MP,MP,MP,MP,MP,MP,MP,MP,MP,MP]);(G,(a,ns,0,U,hS,pr _,λr=>(_,_,U,U,(by show(0:Int)<3;decide),_,_,U,U,U,(1+r%3).toNat,?_,?_,?_,),),?_,))
 .let:=vl r (show(3:Int)≠0 by decide);lia
 .let:=v3 r (show(0:Int)<3 by decide);lia
 .rw[wa (by have:=vl r (show(3:Int)≠0 by decide);lia)];rfl
 rintro n2 H1 ⟨rfl,C,j9,o0,rfl⟩;refine(let G:St→Hp→Prop:=λn v=>v=H1∧∃R:Nat,A3 (C<R) (R≤C+4) (n=[↑a,MO<|.int (C:Int),MO<|.int (R:Int),MP,MP,MP,MP,MP,MP,MP,MP,MP]);(G,(_,_,U,U,a,ns,0,U,hS,pr _,λr=>(_,_,U,U,(⋯,⋯,),_,_,U,U,(by show(0:Int)<4;decide),_,_,U,U,U,((C:Int)+1+r / 3%4).toNat,?_,?_,?_,),),?_,))
 .let:=vl (r / 3) (show(4:Int)≠0 by decide);lia
 .let:=v3 (r / 3) (show(0:Int)<4 by decide);lia
 .rw[wa (by have:=vl (r / 3) (show(4:Int)≠0 by decide);lia)];rfl
 rintro n1 H2 ⟨rfl,R,n7,n5,rfl⟩;refine(let G:St→Hp→Prop:=λn v=>aq H2 v∧E3 λ(W:AE)(dv:M3 V)(O:M3 PD)=>A5 (v W=MO (.lst dv)) (ak dv O<|PDA NT v) (O.length=R) (∀p∈O,iS p)<|n=[↑a,MO<|.int (C:Int),MO<|.int (R:Int),↑W,MP,MP,MP,MP,MP,MP,MP,MP];(G,?_,?_,))
 .refine⟨_,U,∅,∅,(let G:AE→Nat→M3 V→Hp→Prop:=λD i J v=>aq H2 v∧v D=MO (.lst J)∧∃O:M3 PD,ak J O (PDA (· ≠ D) v)∧O.length=i∧∀p∈O,iS p;cK G (λD hD=>⟨ah hD _,af,[],ak.nil,U,(λp hp=>by cases hp)⟩) (λD i J v hD hi X=>?_) (λD J v hD X=>?_))⟩
  .let(S,eD,O,hz,hl,d5):=X;refine(_,_,U,U,a,ns,_,U,S.seq hS,(by show 0≤2+(0+(i:Int));lia),λr=>(r,U,λl p H3 s3 hp ok=>?_,),);let g9:=s3 _ _ eD;let i9:PDA (· ≠ D) H3 l p:=hp.wk λx hx z=>by rw[z,eD]at hx;cases hx
   let d3:ak (J++[.ref l]) (O++[p]) (PDA (· ≠ D) H3):=ak.snoc (ak.mono hz λ_ _ p=>p.same s3) i9;refine b7.mk hi g9 (aD (by have:=hz.1;lia)) ((S.trans s3).upd hD,af,O++[p],ak.mono d3 λ_ _ p=>p.updN (λz=>z U) g9,by rw[dV,hl];rfl,λp' b0=>?_,);rcases eA.mp b0 with b0 | b0
   .exact d5 p' b0
   .rw[show p'=p by simpa using b0];exact ok
  .let(S,eD,O,hz,hl,d5):=X;rw[vr]at hl;exact(S,D,J,O,eD,ak.mono hz<|λ_ _ p=>p.wk λ_ _=>trivial,hl,d5,U,)
 rintro n0 H3 ⟨s3,W,dv,O,c4,c3,g3,GY,rfl⟩;refine(let G:St→Hp→Prop:=λn v=>aq H3 v∧E2 λ(po:AE)(c1:M3 V)=>A3 (v po=MO (.lst c1)) (ak c1 O<|PoA NT v)<|n=[↑a,MO<|.int (C:Int),MO<|.int (R:Int),↑W,↑po,MP,MP,MP,MP,MP,MP,MP];(G,?_,?_,))
 .refine(_,U,∅,∅,(let G:AE→Nat→M3 V→Hp→Prop:=λD i J v=>aq H3 v∧v D=MO (.lst J)∧ak J (O.take i) (PoA (· ≠ D) v);cK G (λD hD=>(ah hD _,af,ak.nil,)) (λD i J v hD hi X=>?_) (λD J v hD X=>?_)),)
  .let(S,eD,hz):=X;rw[vr]at hi;let ep:=KG (l:=O) (i:=i) ∅;let(da,Z,a8):=c3.2 i _ ep;generalize O[i]=p at ep a8;let ix:atI dv (0+(i:Int))=↑da:=by rw[v5];exact aS Z
   refine(W,_,_,_,U,U,OU<|S _ _ c4,ix,_,_,U,U,a,ns,_,U,(s3.trans S).seq hS,(by show 0≤9+(0+(i:Int));lia),λr=>(da,p,r,U,a8.same S,GY p<|KJ ep,λl xs H4 s4 nl el hl hx=>?_,),);let k9:=s4 _ _ eD;let nD:l≠D:=λz=>by rw[z,eD]at nl;cases nl
   let d3:ak (J++[.ref l]) (O.take i++[p]) (PoA (· ≠ D) H4):=ak.snoc (ak.mono hz λ_ _ p=>p.same s4) (nD,xs,el,hl,hx,);refine b7.mk (by rw[vr];exact hi) k9 (aD (by have:=hz.1;rw[eH]at this;lia)) ((S.trans s4).upd hD,af,?_,);rw[take_snoc ep];exact ak.mono d3 λ_ _ p=>p.updN λz=>z U
  .let(S,eD,hz):=X;rw[vr,←g3,dY]at hz;exact(S,D,J,eD,ak.mono hz<|λ_ _ p=>p.any,U,)
 rintro m2 H4 ⟨s4,po,c1,k6,i3,rfl⟩;let a1:=s3.trans s4;refine(let G:St→Hp→Prop:=λn v=>aq H4 v∧∃tb:AE,A3 (H4 tb=MP) (v tb=MO (.lst [])) (n=[↑a,MO<|.int (C:Int),MO<|.int (R:Int),↑W,↑po,↑tb,MP,MP,MP,MP,MP,MP]);(G,((by show 0≤AY;decide),λl hl=>(ah hl _,l,hl,af,U,),),?_,));rintro m0 H5 ⟨s5,tb,h8,k4,rfl⟩;let n3:=a1.trans s5;refine(let G:St→Hp→Prop:=λn v=>aq H4 v∧E6 λ(T:M3 V)(d:M3 ((M3 Nat×Str)×AE))(c6 c7 c8 c9:Option V)=>A7 (v tb=MO (.lst T)) (ak T d<|TT<|hideL v (tb :: rls d)) (⇑d=R-C) ((rls d).Nodup) (∀x∈rls d,H4 x=MP∧x≠tb∧v x=MO (.lst [])) (∀(j:Nat)(t:(M3 Nat×Str)×AE),d[j]?=MO t→EZ C O j t.1)<|n=[↑a,MO<|.int (C:Int),MO<|.int (R:Int),↑W,↑po,↑tb,c6,c7,c8,c9,MP,MP];(G,?_,?_,))
 .refine⟨_,_,U,(∅,∅,∅,∅,),(let G:Nat→St→Hp→Prop:=λi σ v=>aq H4 v∧E6 λ(T:M3 V)(d:M3 ((M3 Nat×Str)×AE))(c6 c7 c8 c9:Option V)=>A7 (v tb=MO (.lst T)) (ak T d<|TT<|hideL v (tb :: rls d)) (⇑d=i) ((rls d).Nodup) (∀x∈rls d,H4 x=MP∧x≠tb∧v x=MO (.lst [])) (∀(j:Nat)(t:(M3 Nat×Str)×AE),d[j]?=MO t→EZ C O j t.1)<|σ=[↑a,MO<|.int (C:Int),MO<|.int (R:Int),↑W,↑po,↑tb,c6,c7,c8,c9,MP,MP];iE G (s5,[],[],_,_,_,_,k4,ak.nil,U,mD,(λx hx=>by cases hx),(λj t e=>by simp at e),U,) (λi σ v hi X=>?_) (λσ v X=>?_))⟩
  .let(S,T,d,c6,c7,c8,c9,a4,a7,f7,e0,a3,Ds,rfl):=X;let j7:i<R-C:=∅
   let(ow,j1):∃ow:Nat,(C:Int)+(i:Int)=(ow:Int):=(C+i,∅,);let Ku:ow=C+i:=∅
   rw[j1];refine(let G:St→Hp→Prop:=λn I=>I=v∧∃c:Int,n=[↑a,MO<|.int (C:Int),MO<|.int (R:Int),↑W,↑po,↑tb,MO<|.int (ow:Int),MO<|.int c,c8,c9,MP,MP];(G,(_,_,U,U,_,_,U,U,a,ns,_,U,(a1.trans S).seq hS,(by show 0≤16+(ow:Int)-(C:Int);lia),λr=>(U,r,U,),),?_,));rintro h4 Ha ⟨rfl,c,rfl⟩;let(m,em,m1,m3,mo):=CN (c:=c) (ow:=ow) ∅;refine(let G:St→Hp→Prop:=λn I=>aq Ha I∧∃cl:AE,A3 (Ha cl=MP) (I cl=MO (.lst<|vN<|clm c ow m)) (n=[↑a,MO<|.int (C:Int),MO<|.int (R:Int),↑W,↑po,↑tb,MO<|.int (ow:Int),MO<|.int c,↑cl,c9,MP,MP]);(G,?_,?_,))
   .refine(_,_,U,U,(by show(0:Int)<3;decide),_,_,U,U,_,_,U,_,U,(by rw[em];lia),(by rw[em];lia),(let G:AE→Nat→M3 V→Hp→Prop:=λD i J I=>aq Ha I∧I D=MO (.lst J)∧J=vN (clm c ow i);cK G (λD hD=>(ah hD _,af,U,)) (λD i J I hD hi X=>?_) (λD J I hD X=>?_)),)
    .let(c5,eD,rfl):=X;rw[em,vr]at hi;let v0:=vl (c / 3+(0+(i:Int))) (show(ow:Int)≠0 by lia);refine(_,_,U,U,(⋯,⋯,),_,_,U,U,_,_,U,U,(by show(0:Int)<(ow:Int);lia),b7.mk (by rw[em,vr];exact hi) eD (aD (by rw[jm,um];lia)) (c5.upd hD,af,?_,),);rw[Bq,wa v0]
    .let(c5,eD,rfl):=X;rw[em,vr]at eD;exact(c5,D,hD,eD,U,)
   rintro h0 Hb ⟨sb,cl,f5,g8,rfl⟩;refine(let G:St→Hp→Prop:=λn I=>aq Hb I∧∃wy:Str,wy∈six∧n=[↑a,MO<|.int (C:Int),MO<|.int (R:Int),↑W,↑po,↑tb,MO<|.int (ow:Int),MO<|.int c,↑cl,MO<|.str wy,MP,MP];(G,?_,?_,))
   .refine((by show 6≤AY;decide),λp6 i8=>?_,);let w0:=vl (c / 50) (show(6:Int)≠0 by decide);let w1:=v3 (c / 50) (show(0:Int)<6 by decide);let(k,ek):∃k:Nat,c / 50%6=(k:Int):=(_,(wa w0).symm,);let hk:k<⇑six:=by show k<6;lia
    let e6:=KG hk;let ex:atI [OT s!"first",.str s!"only",.str s!"like",.str s!"low",.str s!"high",.str s!"sum"] (c / 50%6)=MO (.str six[k]):=by
     rw[ek];exact aS (xs:=six.map OT) (by rw[dn,e6];rfl)
    exact(_,_,U,U,(⋯,⋯,),_,_,U,U,(by show(0:Int)<6;decide),p6,_,_,_,U,U,OU af,ex,ah i8 _,_,KJ e6,U,)
   rintro l4 Hc ⟨sc,e7,f6,rfl⟩;let b4:=sb.trans sc;let ep:=KG (l:=O) (i:=ow) ∅;let(da,Z,a8):=c3.2 ow _ ep;generalize O[ow]=p at ep a8;let f0:=(s4.trans S).trans b4;let(wl,_,_,f1,f2):=a8.same f0;refine(let G:St→Hp→Prop:=λn I=>I=Hc∧∃wy:Str,A3 (wy∈six) (wy=s!"sum" → p.ws=[]) (n=[↑a,MO<|.int (C:Int),MO<|.int (R:Int),↑W,↑po,↑tb,MO<|.int (ow:Int),MO<|.int c,↑cl,MO<|.str wy,MP,MP]);(G,?_,?_,))
   .refine(U,_,U,?_,);refine bK (λg=>?_)<|λg=>?_
    .refine(W,_,_,_,U,U,OU<|f0 _ _ c4,aS Z,da,_,_,_,U,U,OV f1,U,wl,_,U,.inl<|OU f2,_,_,U,U,_,U,?_,);refine bK (λg2=>?_)<|λg2=>?_
     .exact(U,s!"high",by unfold six;simp,(λz=>MW z<|~~~0),U,)
     .refine(U,e7,f6,λ_=>?_,U,);let:¬ ((0:Int)<((⇑(p.ws.map OT):Nat):Int)):=λh=>g2<|MX h
      rw[bQ]at this;exact hE.mp ∅
    .refine(U,e7,f6,λz=>MW ?_ g,U,);rw[z];exact MX U
   rintro l3 Hd ⟨rfl,wy,i2,Fw,rfl⟩;let k3:=b4 _ _ a4;refine(.inl (U,_,OU k3,),(by show 0≤AY;decide),λx hx=>?_,);let u1:=ah hx<|.lst [];let ex:upd Hd x (.lst []) x=MO (.lst []):=af;generalize upd Hd x (.lst [])=He at u1 ex⊢;refine((by show 3≤AY;decide),λr hr=>?_,);let u2:=ah hr<|.tup [.ref cl,.str wy,.ref x];let er:upd He r (.tup [.ref cl,.str wy,.ref x]) r=MO (.tup [.ref cl,.str wy,.ref x]):=af;generalize upd He r (.tup [.ref cl,.str wy,.ref x])=Hf at u2 er⊢;let a6:=(b4.trans u1).trans u2;let k2:=a6 _ _ a4;refine(tb,_,_,U,U,k2,aD (by have:=a7.1;lia),?_,);let a2:Ha x=none:=b4.free hx;let h7:H4 x=none:=S.free a2;let f3:x≠tb:=λz=>by rw[z,a4]at a2;cases a2
   let l0:cl≠x:=λz=>by rw[←z,sc _ _ g8]at hx;cases hx
   let d1:∀b∈tb :: rls d,∃J,Ha b=MO (.lst J):=λb hb=>by
    rcases cZ.mp hb with rfl|hb
    .exact(_,a4,)
    .exact(_,(a3 b hb).2.2,)
   let GZ:cl ∉ tb :: rls d:=λhm=>by let(J,e):=d1 cl hm;rw[e]at f5;cases f5
   let h6:x ∉ tb :: rls d:=λhm=>by let(J,e):=d1 x hm;rw[e]at a2;cases a2
   let f4:r ∉ tb :: rls d:=λhm=>by let(J,e):=d1 r hm;let:=a6 _ _ e;rw[er]at this;cases this
   let i0:r≠x:=λz=>by have:=u2 _ _ ex;rw[←z,er]at this;cases this
   let eF:rls (d++[((clm c ow m,wy),x)])=rls d++[x]:=Br ..;let d2:∀b,b ∉ tb :: rls d→b≠x→b ∉ tb :: (rls d++[x]):=λb h1 h2 hm=>by
    rcases cZ.mp hm with z|hm
    .exact h1 (by rw[z];exact gb)
    .rcases eA.mp hm with hm|hm
     .exact h1<|eY _ hm
     .exact h2<|~~~hm
   let gr:aq (hideL Ha (tb :: rls d)) (hideL (upd Hf tb<|.lst<|T++[.ref r]) (tb :: (rls d++[x]))):=oY λb o hb e=>by
    refine((ay λz=>hb (by rw[z];exact gb)).trans (a6 _ _ e),d2 b hb λz=>?_,);rw[z,a2]at e;cases e
   let hT:TT (hideL (upd Hf tb<|.lst<|T++[.ref r]) (tb :: (rls d++[x]))) r ((clm c ow m,wy),x):=by
    refine(cl,dg ((ay λz=>f4 (by rw[z];exact gb)).trans er) (d2 r f4 i0),dg ((ay λz=>GZ (by rw[z];exact gb)).trans (u2 _ _<|u1 _ _<|sc _ _ g8)) (d2 cl GZ l0),)
   refine((S.trans a6).upd h8,T++[.ref r],d++[((clm c ow m,wy),x)],_,_,_,_,af,?_,by rw[dV,f7];rfl,?_,λy hy=>?_,λj t e=>?_,U,)
   .rw[eF];exact ak.snoc (ak.mono a7 λ_ _ p=>p.same gr) hT
   .rw[eF];refine nk.mpr (e0,by simp,λy hy z hz=>?_,);rw[show z=x by simpa using hz];exact λe=>h6 (by rw[←e];exact eY _ hy)
   .rw[eF]at hy;rcases eA.mp hy with hy|hy
    .let(y1,y2,y3):=a3 y hy;exact(y1,y2,(ay y2).trans<|a6 _ _ y3,)
    .rw[show y=x by simpa using hy];exact(h7,f3,(ay f3).trans<|u2 _ _ ex,)
   .by_cases hj:j<⇑d
    .rw[ft hj]at e;exact Ds j t e
    .let j2:j=⇑d:=by have:=(KH.mp e).1;simp at this;lia
     subst j2;simp at e;subst e;let eo:C+⇑d=ow:=∅
     refine(by show 1≤⇑(clm c ow m);rw[um];exact m1,by show⇑(clm c ow m)≤3;rw[um];exact m3,λk hk=>?_,E9 ∅ mo,i2,λz p' g7=>?_,)
     .rw[eo];exact E8 ∅ k hk
     .rw[eo,ep]at g7;cases g7;exact Fw z
  .let(S,T,d,c6,c7,c8,c9,r):=X;rw[show((R:Int)-(C:Int)).toNat=R-C by lia]at r;exact(S,T,d,c6,c7,c8,c9,r,)
 rintro l6 H6 ⟨s6,T,d,c6,c7,c8,c9,a4,a7,f7,e0,a3,Ds,rfl⟩;let g4:∀x∈rls d,H4 x=none:=λx hx=>(a3 x hx).1
 let e3:aq H4 (hideL H6<|rls d):=xv s6 g4;let h9:tb ∉ rls d:=λhm=>(a3 tb hm).2.1 U
 let e4:hideL H6 (rls d) tb=MO (.lst T):=dg a4 h9;let d4:ak T d (TT<|hideL H6<|rls d):=ak.mono a7 λ_ _ p=>p.same<|oY λb o hb e=>(e,λhm=>hb<|eY _ hm,)
 generalize hB:hideL H6 (rls d)=B at e3 e4 d4;let n9:1≤⇑d:=∅
 let JG:T.length=⇑d:=a7.1;refine(let G:St→Hp→Prop:=λn v=>aq H4 v∧aq B (hideL v<|rls d)∧E7 λ(M:M3 (M3 Rw))(c6 c7 c8 c9 a5 a0:Option V)=>RwI v (rls d) C O d M 120∧n=[↑a,MO<|.int (C:Int),MO<|.int (R:Int),↑W,↑po,↑tb,c6,c7,c8,c9,a5,a0];(G,?_,?_,))
 .let(mx,e5,Kv,Kw):∃mx:Int,(if (122:Int)<((⇑(ns.map pi):Nat):Int) then(122:Int) else((⇑(ns.map pi):Nat):Int))=mx∧mx≤122∧mx≤(⇑ns:Int):=by
   calc(_,U,?_,?_,) <;> rw[bQ] <;> split <;> lia
  let Kx:0≤mx:=by rw[←e5];split <;> lia
  refine(a,_,U,.inl<|(a1.trans s6).seq hS,_,_,U,_,_,U,(by rw[e5];exact(⋯,⋯,∅,∅,)),?_,);rw[e5];refine(let G:Nat→St→Hp→Prop:=λi σ v=>aq H4 v∧aq B (hideL v<|rls d)∧E7 λ(M:M3 (M3 Rw))(c6 c7 c8 c9 a5 a0:Option V)=>RwI v (rls d) C O d M i∧σ=[↑a,MO<|.int (C:Int),MO<|.int (R:Int),↑W,↑po,↑tb,c6,c7,c8,c9,a5,a0];iE G (s6,by rw[hB];exact aq.refl B,v6 ⇑d [],_,_,_,_,_,_,(by rw[ib],λj t rs e1 Z=>?_,),U,) (λi σ v hi X=>?_) (λσ v X=>?_))
  .rw[KB]at Z;split at Z
   .cases Z;exact(([],(a3 t.2<|qk e1).2.2,ak.nil,),(λw hw=>by cases hw),rE _,)
   .cases Z
  .let(S,sB,M,c6,c7,c8,c9,a5,a0,L,rfl):=X;let j7:i<(mx-2).toNat:=hi;let G0:=fb _ _ _ _<|sB _ _ e4;let xi:(0:Int)<((T.length:Nat):Int):=∅
   let(jj,k8):∃jj:Nat,(2+(i:Int))%((T.length:Nat):Int)=(jj:Int):=(_,(wa<|vl _<|NU xi).symm,);let g0:jj<⇑d:=by have:=v3 (2+(i:Int)) xi;lia
   let et:=KG g0;let(r,er,hT):=d4.2 jj _ et;let(rs,g6):∃rs,M[jj]?=MO rs:=(_,KG (by rw[L.1];exact g0),);generalize d[jj]=t at et hT;let k0:=(hT.same sB).same<|fb _ _;let(cl,g1,g2):=k0;let((J,ez,c2),Ky,l2):=L.2 jj t rs et g6;let tok:=Ds jj t et;refine(let G:St→Hp→Prop:=λn I=>I=v∧n=[↑a,MO<|.int (C:Int),MO<|.int (R:Int),↑W,↑po,↑tb,MO<|.int ((C+jj:Nat):Int),c7,c8,c9,MO<|.int<|2+(i:Int),a0];(G,(tb,_,U,.inl<|OU G0,_,_,U,U,xi,_,_,U,U,U,?_,),?_,))
   .rw[show((C+jj:Nat):Int)=(C:Int)+(2+(i:Int))%((T.length:Nat):Int) by rw[k8];lia];rfl
   rintro h4 Ha ⟨rfl,rfl⟩;let ix:atI T (((C+jj:Nat):Int)-(C:Int))=↑r:=by
    rw[show((C+jj:Nat):Int)-(C:Int)=(jj:Int) by lia];exact aS er
   calc(let G:St→Hp→Prop:=λn I=>I=Ha∧n=[↑a,MO<|.int (C:Int),MO<|.int (R:Int),↑W,↑po,↑tb,MO<|.int ((C+jj:Nat):Int),c7,c8,c9,MO<|.int<|2+(i:Int),↑r];(G,(_,_,U,U,tb,_,_,_,U,U,OU G0,ix,U,U,),?_,));rintro h0 Hb ⟨rfl,rfl⟩;let c0:=e3.trans<|sB.trans<|fb _ _;let hk:2+i<⇑ns:=∅
   let es:=KG hk;let i1:atI (ns.map pi) (2+(i:Int))=MO (.int ns[2+i]):=by
    rw[show 2+(i:Int)=((2+i:Nat):Int) by lia];exact aS (by rw[dn,es];rfl)
   refine(r,_,_,_,U,U,OV g1,U,.inl (U,_,OU ez,),r,_,_,_,U,U,OV g1,U,a,_,_,_,U,U,(a1.trans S).seq hS,i1,cl,W,po,C+jj,_,t.1.1,dv,c1,O,U,g2,c0 _ _<|s4 _ _ c4,ak.mono c3<|λ_ _ p=>p.same<|s4.trans c0,c0 _ _ k6,ak.mono i3<|λ_ _ p=>p.same c0,(λk hk=>by have:=tok.lt k hk;lia),∅,by have:=tok.few;lia,λr2 w p0 s2 uI j8=>?_,);let k1:∀D∈rls d,∃J,Hb D=MO (.lst J):=λD hD=>by
    let(j,ej):=gu hD;let f8:j<⇑d:=by have:=(KH.mp ej).1;unfold rls at this;rwa [bQ]at this
    let g5:=KG f8;let k5:=KG (l:=M) (i:=j) (by rw[L.1];exact f8);let((h5,f1,_),_):=L.2 j _ _ g5 k5;let:=qj g5;rw[ej]at this;cases this;exact(h5,f1,)
   let G1:=uI.hideL k1 s2;let n4:J.length=⇑rs:=c2.1;calc(t.2,_,_,U,U,s2 _ _ ez,aD ∅,(S.trans s2).upd<|g4 _<|qk et,?_,M.set jj<|rs++[w],_,_,_,_,_,_,L.grow e0 s2 et g6 ez c2 G1 j8,U,);rw[jJ (qk et)];exact sB.trans<|iT s2
  .let(S,sB,M,c6,c7,c8,c9,a5,a0,L,rfl):=X;exact(S,sB,M,_,_,_,_,_,_,(L.1,λj t rs e1 Z=>let ⟨b1,b2,b3⟩:=L.2 j t rs e1 Z;(b1,b2,∅,),),U,)
 rintro l5 H7 ⟨s7,sB,M,o5,o4,o3,o2,a5,a0,L,rfl⟩;let d0:=sB.trans<|fb H7<|rls d;let e9:=e3.trans d0;refine(a,ns,1,U,(a1.trans s7).seq hS,⋯,λc=>(c,R,U,∅,λnl H8 s8 _ k7=>((by show 3≤AY;decide),λr hr=>?_,),),);let u:=ah hr<|.tup [.ref nl,.ref W,.ref tb];let sE:=s8.trans u;let e8:=e9.trans sE;refine q r (lws c R) O (lc mkT d M) C _ ((a1.trans e9).trans sE) (nl,W,tb,dv,T,af,u _ _ k7,e8 _ _<|s4 _ _ c4,ak.mono c3<|λ_ _ p=>p.same<|s4.trans e8,sE _ _<|d0 _ _ e4,?_,) ((λz hz=>yE hz),tD ∅,by rw[mi,g3],∅,?_,?_,GY,λj t e=>?_,) j9 Bs Fb Bt (by rw[mi];lia)
 .refine(by rw[kP,L.1,JG];lia,λj t e=>?_,);rw[mF]at e;cases e1:d[j]? with
  |none=>rw[e1]at e;cases e
  |some t0 =>
   cases Z:M[j]? with
   |none=>rw[e1,Z]at e;cases e
   |some rs =>
    rw[e1,Z]at e;let e:MO (mkT t0 rs)=MO t:=e;cases e;let(r',er,hT):=d4.2 j _ e1;let((J,ez,c2),_):=L.2 j _ _ e1 Z;let(cl,g1,g2):=hT.same d0;exact(r',er,cl,t0.2,J,sE _ _ g1,sE _ _ g2,sE _ _ ez,(c2.same<|fb _ _).same sE,)
 .rw[kP,L.1];lia
 .rw[kP,L.1];lia
 .rw[mF]at e;cases e1:d[j]? with
  |none=>rw[e1]at e;cases e
  |some t0 =>
   cases Z:M[j]? with
   |none=>rw[e1,Z]at e;cases e
   |some rs =>
    rw[e1,Z]at e;let e:MO (mkT t0 rs)=MO t:=e;cases e;let(_,h2,h3):=L.2 j _ _ e1 Z;calc(Ds j t0 e1,h2,by show ⇑rs≤200;lia,)
def JH(F:Fun K "_law_when" "_law_when" Y69 f fd)(bl:Bl K mg Y)(uJ:⟨⟩ 2 "_law_field" ["domain","spans"] (kh K Y))(uK:⟨⟩ 2 "_law_value" ["domain","code"] (ke K Y)):() 3 f fd ["plan","k","row"] (lL K Y):=by
 refine F.okA Z69 λd0 A b4 s H vs Q E hr h=>?_
 let(r,G,k,zs,u,ts,fN,t,po,w,rfl,a7,ok,et,C,(ce,cv,f1,_,f2,f3),hw,q):=h
 refine(_,(aw (lp (pv 0)<|d8 U<|aI (aC (i:=3) Z69.nd U<|bv U)<|aI (aC (i:=4) Z69.nd U<|pc U)<|aI (aC (i:=5) Z69.nd U<|bv U) br)
  (aw (aL (i:=6) Z69.nd U (pc U)<|az aM (az aW (pv 5) (pv 1)<|λ_ _=>U) ai<|λ_ _=>U)
  (aw (i5 (i:=7) Z69.nd U (bv U) (b6 U bl.range_<|aa (av au U bl.len_ MN<|aa (pv 6) ae) ae) (bc (N:=["j","row","domains","columns"]) (fr:=[2,4,6]) (cl:=[("row",↥s+1),("domains",↥s+1+1),("columns",↥s+1+1+1)]) U U (~~~0) (~~~0) U (~~~0) U U U (eN.mpr (U,eN.mpr (U,eN.mpr (U,fW _,),),)) U) U (λ_ _ _ _=>aX)<|λ_ _ _ _=>(aQ uJ hr U<|aa (az (d6 (K:=K) U) (pv 2) (az (d6 (K:=K) U) (pv 3) (pv 0)<|λ_ _=>U)<|λ_ _=>U)<|aa (az (d6 (K:=K) U) (az (l8 (K:=K) U) (pv 1) ai<|λ_ _=>U) (pv 0)<|λ_ _=>U) ae))
  (aw (aL (i:=8) Z69.nd U (bv U)<|aH bY (aH fS (av au U bl.len_ MN<|aa (pv 3) ae)<|av au U bl.len_ MN<|aa (pv 5) ae)<|pv 1)
  (ag<|aE<|aH aN (aH aN (aH aN aV<|bx PySem.F.plainAttrs_str PySem.F.slot_str_join PySem.F.type_str_join eO aV<|aa (pv 7) ae) aV)<|aQ uK hr U<|aa (az aW (pv 4) (pv 8)<|λ_ _=>U)<|aa (az aM (pv 2) ai<|λ_ _=>U) ae))))),?_,)
 dsimp only[bj,OY,OW];show(let r4:TS:=_;let r3:TS:=a9 _ r4;let r2:TS:=a9 _ r3;let r1:TS:=a9 _ r2;a9 _ r1 _ _ _);intro _ _ _ _;let(L,J,d,dv,tv,er,b0,a0,T,X,R):=id a7;let(ta,a8,cl,rl,rx,g1,g2,g3,g4):=R.2 k t et;let c4:⇑(zs.map OT)=⇑zs:=bQ _;let c8:=ok.len;let c7:=ok.tab;let c6:⇑tv=⇑ts:=R.1;let tok:=ok.tabs k t et;let S:=ok.lt et;let c9:⇑t.cols≤3:=tok.ok.few;let x:⇑(vN t.cols)=⇑t.cols:=jm _;let W:=tok.rows w hw;let c5:⇑w.1=⇑t.cols:=W.len;let Kz:⇑cv=⇑w.1:=f3.1;let O:=ok.doms po<|KJ C;let lg:=ok.cells et hw;let a2:∀j∈t.cols,j<⇑(u.map PD.k):=λj e=>by rw[bQ];exact S j e
 let gk:=bT (os:=t.cols) (xs:=u.map PD.k) a2;let lz:=xy (ks:=prm t.cols<|u.map PD.k) (pss:=w.1) ∅ lg;let lz:⇑(io s!" | " (lc bh (prm t.cols<|u.map PD.k) w.1))≤7254:=lz;let yR:=W.code po C;let lv:=vI O yR.1 yR.2;calc(let v:St→Hp→Prop:=λa b=>b=H∧a=[↑r,MO<|.int (k:Int),↑G,↑L,↑J,↑d,MP,MP,MP];(v,(r,_,U,OV er,U,_,_,U,_,_,U,_,_,U,U,U,U,),?_,));rintro c3 H1 ⟨rfl,rfl⟩;calc(let v:St→Hp→Prop:=λa b=>b=H1∧a=[↑r,MO<|.int (k:Int),↑G,↑L,↑J,↑d,↑cl,MP,MP];(v,(d,_,_,_,U,U,OU X,aS a8,ta,_,_,_,U,U,OV g1,U,U,U,),?_,));rintro c2 H2 ⟨rfl,rfl⟩;refine(let v:St→Hp→Prop:=λa b=>aq H2 b∧∃M:AE,b M=MO (.lst<|(lc bh (prm t.cols<|u.map PD.k) w.1).map OT)∧a=[↑r,MO<|.int (k:Int),↑G,↑L,↑J,↑d,↑cl,↑M,MP];(v,?_,?_,))
 .refine(cl,_,U,.inl<|OU g2,_,U,∅,∅,(let v:AE→Nat→M3 V→Hp→Prop:=λD i ys b=>aq H2 b∧b D=MO (.lst ys)∧ys=(lc bh ((prm t.cols<|u.map PD.k).take i)<|w.1.take i).map OT;cK v (λD hD=>(ah hD _,af,U,)) (λD i ys b hD hi h=>?_) (λD ys b hD h=>?_)),)
  .let(g,eD,rfl):=h;rw[vr,x]at hi;let ec:=KG hi;generalize t.cols[i]=c at ec;let(pd,ed):∃pd,u[c]?=MO pd:=(_,KG<|S _<|KJ ec,);let(da,e2,y):=T.2 c _ ed;let a1:=ok.doms _<|KJ ed;let B:=KG (l:=w.1) (i:=i) ∅;let(l,el,_,yl,I,a5):=f3.2 i _ B;let Z:(prm t.cols<|u.map PD.k)[i]?=MO pd.k:=by rw[gk.2 i c ec,dn,ed];rfl
   let a6:=lg i _ _ Z B;let a4:atI (vN t.cols) (0+(i:Int))=MO (.int (c:Int)):=by rw[v5];exact aS<|Bg ec
   let a3:atI cv (0+(i:Int))=↑l:=by rw[v5];exact aS el
   refine(cl,_,_,_,U,U,OU<|g _ _ g2,a4,J,_,_,_,U,U,OU<|g _ _ a0,aS e2,G,_,_,_,U,U,OV<|g _ _ f1,U,ce,_,_,_,U,U,OU<|g _ _ f2,a3,da,l,_,yl,_,U,y.same g,a1,g _ _ I,a5.mono g.tups,a6,λH3 o=>b7.mk (by rw[vr,x];exact hi) (o _ _ eD) (aD (by simp;lia)) ((g.trans o).upd hD,af,?_,),);rw[take_snoc Z,take_snoc B,OE (by rw[eH,eH,gk.1];lia),dy];rfl
  .let(g,eD,rfl):=h;rw[vr,x,kU (by rw[gk.1];exact pT _),kU ∅]at eD;exact(g,D,eD,U,)
 rintro c1 H3 ⟨o,M,b3,rfl⟩;refine(let v:St→Hp→Prop:=λa b=>b=H3∧a=[↑r,MO<|.int (k:Int),↑G,↑L,↑J,↑d,↑cl,↑M,MO (.int ((fN+k:Nat):Int))];(v,(L,_,U,.inl<|OU<|o _ _ b0,d,_,U,.inl<|OU<|o _ _ X,_,_,U,U,_,_,U,U,U,?_,),?_,))
 .rw[show((fN+k:Nat):Int)=((⇑(zs.map OT):Nat):Int)-((⇑tv:Nat):Int)+(k:Int) by lia];rfl
 rintro c0 H4 ⟨rfl,rfl⟩;let(da,e2,y):=T.2 (fN+k) po C;let:=q H4 o;unfold o7 at this;refine(U,_,M,_,U,U,OU b3,(~~~0),fC (m:=1206) (n:=6) (λz hz=>?_) (by rw[kP];lia) ⋯,_,_,U,U,fX (by rw[m8];lia),_,_,U,U,fX (by rw[aK,m8,m7];lia),J,_,_,_,U,U,OU<|o _ _ a0,aS e2,G,_,_,_,U,U,OV<|o _ _ f1,U,da,po,w.2,U,y.same o,O,yR.1,yR.2,_,_,U,U,fX (by rw[aK,aK,m8,m7];lia),this,);let(j,e):=gu hz;rw[mF]at e;cases I:(prm t.cols<|u.map PD.k)[j]? with
 |none=>rw[I]at e;cases e
 |some kk =>
  cases e4:w.1[j]? with
  |none=>rw[I,e4]at e;cases e
  |some p =>
   rw[I,e4]at e;let e:MO (bh kk p)=MO z:=e;cases e;calc jZ<|lg j kk p I e4
def JI(F:Fun K "_law_same_book" "_law_same_book" Y63 f fd)(bl:Bl K mg Y)(oI:⟨⟩ 2 "_law_same_table" ["found","plan","k"] (gm K Y))(dX:⟨⟩ 2 "_law_same_domain" ["found","domain"] (dS K Y)):() 3 f fd ["found","plan","order"] (gJ K Y):=by
 refine F.okA Z63 λd2 A b4 s H vs Q E hr h=>?_
 let(x,r,m,j,B,C,e,os,rfl,L,ok,v,J,d1,hB,q):=h
 refine(_,(aw (lp (pv 1)<|d8 U<|aI (aC (i:=3) Z63.nd U<|bv U)<|aI (aC (i:=4) Z63.nd U<|bv U)<|aI (aC (i:=5) Z63.nd U<|bv U) br)
  (aw (aL (i:=6) Z63.nd U (bv U)<|aH fS (av au U bl.len_ MN<|aa (pv 3) ae)<|av au U bl.len_ MN<|aa (pv 5) ae)
  (aw (aT (PW.pt<|lh (aJ lq (av au U bl.len_ MN<|aa (aP (pv 0) U) ae) (pv 6)<|aO _)<|jk<|aJ lq (av au U bl.len_ MN<|aa (aP (pv 0) U) ae) (av au U bl.len_ MN<|aa (pv 2) ae)<|aO _)
  (ag<|aE kN)
  aG)
  (aw (bB tz U (b6 U bl.range_<|aa (pv 6) ae) (aC (i:=7) Z63.nd U<|bv U)
  (ag (aT (PW.pt<|lh (aJ lq (az aM (az aW (aP (pv 0) U) (pv 7)<|λ_ _=>U) ai<|λ_ _=>U) (az aW (pv 3) (pv 7)<|λ_ _=>U)<|aO _)<|jk<|cE<|bG<|aQ dX hr U<|aa (az aM (az aW (aP (pv 0) U) (pv 7)<|λ_ _=>U) ai<|λ_ _=>U)<|aa (az aW (pv 4) (pv 7)<|λ_ _=>U) ae)
  (ag<|aE kN)
  aG)))
  (aw (bB tz U (b6 U bl.range_<|aa (av au U bl.len_ MN<|aa (pv 2) ae) ae) (aC (i:=7) Z63.nd U<|bv U)
  (ag (aT (cE<|bG<|aQ oI hr U<|aa (az aW (aP (pv 0) U) (pv 7)<|λ_ _=>U)<|aa (pv 1)<|aa (az aW (pv 2) (pv 7)<|λ_ _=>U) ae)
  (ag<|aE kN)
  aG)))
  (ag<|aE kN)))))),?_,)
 dsimp only[bj,OY,OW];show(let r5:TS:=_;let r4:TS:=a9 _ r5;let r3:TS:=a9 _ r4;let r2:TS:=a9 _ r3;let r1:TS:=a9 _ r2;a9 _ r1 _ _ _);intro _ _ _ _ _;let(n,o,c,dv,tv,er,M,b3,a7,b0,a4):=id L;let(dx,fl,bt,fc,N,fw,D,h2,X,h4,W,h6,h7):=hB;let c5:⇑(j.map OT)=⇑j:=bQ _;let d0:=ok.len;let c9:=ok.tab;let c6:⇑tv=C.length:=a4.1;let I:⇑(vN os)=⇑os:=jm _;let c8:=ok.n7;let a6:⇑fw=e:=by rw[h6.1,gL]
 let gt:=bT (os:=os) (xs:=tsP j B C e) λk T=>by rw[j4];exact J k T
 let a8:N.length=⇑os:=by rw[h7.1,gt.1]
 calc(let d:St→Hp→Prop:=λa b=>b=H∧a=[↑x,↑r,↑m,↑n,↑o,↑c,MP,MP];(d,(r,_,U,OV er,U,_,_,U,_,_,U,_,_,U,U,U,U,),?_,));rintro c4 H1 ⟨rfl,rfl⟩;refine(let d:St→Hp→Prop:=λa b=>b=H1∧a=[↑x,↑r,↑m,↑n,↑o,↑c,MO<|.int (e:Int),MP];(d,(n,_,U,.inl<|OU M,c,_,U,.inl<|OU b0,_,_,U,U,U,?_,),?_,))
 .rw[show((e:Nat):Int)=((⇑(j.map OT):Nat):Int)-((⇑tv:Nat):Int) by lia];rfl
 rintro c3 H2 ⟨rfl,rfl⟩;refine(let d:St→Hp→Prop:=λa b=>b=H2∧a=[↑x,↑r,↑m,↑n,↑o,↑c,MO<|.int (e:Int),MP];(d,?_,?_,))
 .refine(x,_,_,_,_,U,D,bl.k_Book,bl.na_Book_facts,X,fc,_,U,.inl<|OU W,U,_,U,nP (by rw[a6]) ?_,);exact(x,_,_,_,_,U,D,bl.k_Book,bl.na_Book_tables,h2,bt,_,U,.inl<|OU h4,m,_,U,.inl<|OU v,U,_,U,nP (by rw[a8,I]) (U,U,),)
 rintro c2 H3 ⟨rfl,rfl⟩;refine(let d:St→Hp→Prop:=λa b=>b=H3∧∃g:Option V,a=[↑x,↑r,↑m,↑n,↑o,↑c,MO<|.int (e:Int),g];(d,?_,?_,))
 .refine(_,U,∅,∅,(let d:Nat→St→Hp→Prop:=λi u b=>b=H3∧∃g:Option V,u=[↑x,↑r,↑m,↑n,↑o,↑c,MO<|.int (e:Int),g];iE d (U,_,U,) (λi u b hi h=>?_) (λu b h=>h)),);let(e0,g,rfl):=h;rw[e0];rw[vr]at hi;let Z:=KG (l:=j) (i:=i) ∅;let ed:=KG (l:=B) (i:=i) ∅;generalize j[i]=z at Z;generalize B[i]=p at ed;let(da,e2,a5):=a7.2 i p ed;let(tp,e3,td,R,e5):=h6.2 i _<|o8 hi Z ed;let a0:atI (j.map OT) (0+(i:Int))=MO (.str z):=by rw[v5];exact aS<|fL Z
  let a3:atI dv (0+(i:Int))=↑da:=by rw[v5];exact aS e2
  let G:atI fw (0+(i:Int))=↑tp:=by rw[v5];exact aS e3
  calc(x,_,_,_,_,U,D,bl.k_Book,bl.na_Book_facts,X,fc,_,_,_,U,U,OU W,G,tp,_,_,_,U,U,OV R,U,n,_,_,_,U,U,OU M,a0,U,_,U,nP U ?_,);exact(x,_,_,_,_,U,D,bl.k_Book,bl.na_Book_facts,X,fc,_,_,_,U,U,OU W,G,tp,_,_,_,U,U,OV R,U,o,_,_,_,U,U,OU b3,a3,td,da,_,p,U,e5,a5,U,_,U,bI (U,_,U,),)
 rintro c1 H4 ⟨rfl,g,rfl⟩;refine(let d:St→Hp→Prop:=λa b=>aq H4 b∧∃g:Option V,a=[↑x,↑r,↑m,↑n,↑o,↑c,MO<|.int (e:Int),g];(d,?_,?_,))
 .refine(m,_,U,.inl<|OU v,_,U,∅,∅,(let d:Nat→St→Hp→Prop:=λi u b=>aq H4 b∧∃g:Option V,u=[↑x,↑r,↑m,↑n,↑o,↑c,MO<|.int (e:Int),g];iE d (aq.refl _,_,U,) (λi u b hi h=>?_) (λu b h=>h)),);let(y,g,rfl):=h;rw[vr,I]at hi;let O:=KG hi;generalize os[i]=k at O;let T:=J k<|KJ O;let et:=KG T;generalize C[k]=t at et;let eb:(prm os<|tsP j B C e)[i]?=MO (btP j B e k t):=by rw[gt.2 i k O,qY et]
  let(ta,e3,R):=h7.2 i _ eb;let a2:atI (vN os) (0+(i:Int))=MO (.int (k:Int)):=by rw[v5];exact aS<|Bg O
  let a1:atI N (0+(i:Int))=↑ta:=by rw[v5];exact aS e3
  exact(x,_,_,_,_,U,y _ _ D,bl.k_Book,bl.na_Book_tables,h2,bt,_,_,_,U,U,OU<|y _ _ h4,a1,m,_,_,_,U,U,OU<|y _ _ v,a2,ta,r,k,j,B,C,e,t,U,L.same y,ok,et,R.same y,λH5 S=>(_,U,bI (y.trans S,_,U,),),)
 rintro c0 H5 ⟨S,g,rfl⟩;calc q H5 S
def O_9(F:Fun K "worth" "Domain.worth" Y9 f fd)(bl:Bl K mg Y)(i:ba CX0 P w K mg base 2 Y.r "value_at" ["self","code"] (cJ K Y))(m:ba CX0 P w K mg base 2 Y.r "has_code" ["self","value"] (bz K Y)):() 3 f fd ["self","code"] (dH K Y):=by
 refine F.okA Z9 λn A d s H o Q E e h=>?_
 let(a,lo,hi,c,rfl,(l,b),k,j,q):=h
 refine(_,(ao (aT (cE<|bG<|nW m bR bl.k_Numbers e (pv 0)<|aa (pv 1) ae)
  (ag bo)
  aG)
  (ag<|aE<|nW i bR bl.k_Numbers e (pv 0)<|aa (pv 1) ae)),?_,)
 show(let g:TS:=_;aZ _ g _ _ _);intro _;calc(a,_,_,U,b,U,a,(lo,hi),.int c,U,(l,_,b,U,U,U,),trivial,?_,);rw[show inB ((lo,hi).1) ((lo,hi).2) (.int c)=MQ by(show(MS (lo≤c) && decide (c≤hi))=MQ;rw[MX k,MX j];rfl)];calc(_,U,bI ?_,);calc(a,_,_,U,b,U,a,c,U,q,)
def JJ(F:Fun K "worth" "Domain.worth" Y10 f fd)(bl:Bl K mg Y)(n:ba CX0 P w K mg base 2 Y.s "value_at" ["self","code"] (dE K Y))(t:ba CX0 P w K mg base 2 Y.s "has_code" ["self","value"] (cb K Y)):() 3 f fd ["self","code"] (eG K Y):=by
 refine F.okA Z10 λv A e s H x Q E i h=>?_
 let(a,b,c,z,rfl,j,k,g,q):=h
 refine(_,(ao (aT (cE<|bG<|nW t bR bl.k_Words i (pv 0)<|aa (pv 1) ae)
  (ag bo)
  aG)
  (ag<|aE<|nW n bR bl.k_Words i (pv 0)<|aa (pv 1) ae)),?_,)
 show(let m:TS:=_;aZ _ m _ _ _);intro _;let(r,l,d,y):=id j;let u:=(KH.mp g).1;calc(a,_,_,U,d,U,a,(0,hiW b),.int c,U,(r,_,d,U,U,U,),trivial,?_,);let p:=k;let o:c≤hiW b:=by unfold hiW;lia
 rw[show inB ((0,hiW b).1) ((0,hiW b).2) (.int c)=MQ by(show(MS (0≤c) && decide (c≤hiW b))=MQ;rw[MX p,MX o];rfl)];calc(_,U,bI ?_,);calc(a,_,_,U,d,U,a,b,c,z,U,j,k,g,q,)
def JK(F:Fun K "bears" "Numbers.bears" Y17 f fd)(bl:Bl K mg Y)(i:ba CX0 P w K mg base 2 Y.r "has_code" ["self","value"] (bz K Y)):() 3 f fd ["self","value"] (dr K Y):=by
 refine F.okA Z17 λj A b s H k Q E e h=>?_
 let(a,lo,hi,v,rfl,(g,c),d,q):=h;calc(_,(ag<|aE<|nW i bR bl.k_Numbers e (pv 0)<|aa (pv 1) ae),?_,);calc(a,_,_,U,c,U,a,(lo,hi),v,U,(g,_,c,U,U,U,),d,q,)
def JL(F:Fun K "__init__" "Words.__init__" Y30 f fd)(bl:Bl K mg Y)(jM:du CX0 P w K mg base 2 "Domain" "__init__" ["self","low","high"] (dq K Y))(gK:⟨⟩ 2 "is_word" ["text"] (gI K Y)):() 3 f fd ["self","words"] (cA K Y):=by
 refine F.okA Z30 λa2 A S s H vs Q E Z h=>?_
 let(x,g,p,a,rfl,W,J,D,q):=h
 refine(_,(ao (aT (cE<|vf gA gA ai (av au U bl.len_ MN<|aa (pv 1) ae)<|bA U bl.MOST_WORDS_)
  (ag bo)
  aG)
  (aw (bB tz U (aR<|pv 1) (aC (i:=2) Z30.nd U<|bv U)
  (ag (aT (cE<|bG<|aQ gK Z U<|aa (pv 2) ae)
  (ag bo)
  aG)))
  (ao (aT (aJ mO (av fK U bl.len_ MN<|aa (bg (fJ U) U bl.set_ Ev<|aa (pv 1) ae) ae) (av au U bl.len_ MN<|aa (pv 1) ae)<|aO _)
  (ag bo)
  aG)
  (ao (aY<|i7 jM bR Z U<|aa (pv 0)<|aa ai<|aa (aH fS (av au U bl.len_ MN<|aa (pv 1) ae) ai) ae)
  (ag<|cG (pv 0) (bg fA U bl.list_ wn<|aa (pv 1) ae) U))))),?_,)
 dsimp only[bj,OY,OW];show(let r4:TS:=_;let r3:TS:=aZ _ r4;let r2:TS:=aZ _ r3;let r1:TS:=a9 _ r2;aZ _ r1 _ _ _);intro _ _ _ _;let r:SqL K H p (a.map OT):=OU J;let v:p≠x:=dM J W (by intro z;cases z);let c:⇑(a.map OT)=⇑a:=bQ _;let h1:=D.some_;let a1:=D.few;refine(p,_,U,.inl r,_,_,U,U,_,U,sY (by rw[c];lia) ?_,);calc(_,_,U,U,_,U,?_,);rw[MX (show((⇑(a.map OT):Nat):Int)≤40 by rw[c];lia)];calc bI ?_;refine(let N:St→Hp→Prop:=λO m=>m=H∧∃t:Option V,O=[↑x,↑p,t];(N,?_,?_,))
 .refine(p,U,(_,r,),(let N:Nat→St→Hp→Prop:=λi C m=>m=H∧∃t:Option V,C=[↑x,↑p,t];bp (xs:=a.map OT) N (U,_,U,) (λi C m _ h=>by rw[h.1];exact r) (λi y C m e h=>?_) (λC m h=>h)),);let(e0,t,rfl):=h;rw[e0];let(z,rfl,ez):=cg e;let X:=D.words z<|KJ ez;let hz:⇑z≤1000:=by
   let u:=X;unfold isw at u;simp only[wh,decide_eq_true_eq]at u;lia
  calc(z,U,hz,_,U,?_,);rw[X];exact bI (U,_,U,)
 rintro a0 H2 ⟨G,t,rfl⟩;rw[G];calc(p,a,U,r,∅,λl hl=>(l,a,U,af,∅,p,_,U,.inl<|(ah hl _).seq r,_,_,U,U,_,U,?_,),);let I:=ah hl<|pW P w l a;let cf:=iI a ⇑a<|pT _;rw[dY]at cf;refine jb (by rw[c,cf.mpr D.once];lia) ?_;let R:=I _ _ W;let B:=I _ _ J;calc(p,_,U,.inl<|OU B,_,_,U,U,x,g,0,_,U,R,?_,);let M:mkd Y.s (upd H l<|pW P w l a) x g 0 (((⇑(a.map OT):Nat):Int)-1) x=MO (.ins Y.s g [("low",.int 0),("high",.int<|((⇑(a.map OT):Nat):Int)-1)]):=af;let G:mkd Y.s (upd H l<|pW P w l a) x g 0 (((⇑(a.map OT):Nat):Int)-1) p=MO (.lst<|a.map OT):=by unfold mkd;rw[ay v,ay v];exact B
 let L:∀b o,b≠x→H b=MO o→mkd Y.s (upd H l<|pW P w l a) x g 0 (((⇑(a.map OT):Nat):Int)-1) b=MO o:=λb o n h=>by unfold mkd;rw[ay n,ay n];exact I b o h
 let eh:((⇑(a.map OT):Nat):Int)-1=hiW a:=by rw[c];rfl
 refine(p,_,U,.inl<|OU G,λj k=>(x,_,g,_,U,d9 M k,bl.k_Words,bl.na_Words_words,(by show 2<1000;decide),?_,),);show Q .non (upd (upd (mkd Y.s (upd H l<|pW P w l a) x g 0<|((⇑(a.map OT):Nat):Int)-1) j<|.lst<|a.map OT) x<|.ins Y.s g<|bX s!"words" (.ref j) [(s!"low",.int 0),(s!"high",.int<|((⇑(a.map OT):Nat):Int)-1)]);rw[put3];let d:mkd Y.s (upd H l<|pW P w l a) x g 0 (((⇑(a.map OT):Nat):Int)-1) j=none:=k;clear k;generalize mkd Y.s (upd H l<|pW P w l a) x g 0 (((⇑(a.map OT):Nat):Int)-1)=H2 at M G L d⊢;rw[eh];let T:j≠x:=(bF M d).symm;calc q _ j (λb o n h=>(ay n).trans<|d9 (L b o n h) d) af ((ay T).trans af) (by cases q_:H j with|none=>rfl|some o=>rw[L j o T q_]at d;cases d)
def JM(F:Fun K "read_numbers" "read_numbers" Y79 f fd)(bl:Bl K mg Y)(c:bu CX0 P w K mg base 2 "Numbers" Y.r ["self","low","high"] (bO K Y))(B:bM P w K mg base 3 "number_of" ["text"] (gn K Y))(p:⟨⟩ 3 "is_number" ["text"] (iD K Y)):() 4 f fd ["text"] (ie K Y):=by
 refine F.okA Z79 λO A m s H R Q E d h=>?_
 let(z,a,b,rfl,V,N,o,n,v,u,k,q):=h
 refine(_,(ao (aL (i:=1) Z79.nd U (bv U)<|bx PySem.F.plainAttrs_str PySem.F.slot_str_partition PySem.F.type_str_partition fB (pv 0)<|aa aV ae)
  (ao (aL (i:=2) Z79.nd U (bv U)<|az aM (pv 1) ai<|λ_ _=>U)
  (ao (aL (i:=3) Z79.nd U (bv U)<|az aM (pv 1) ai<|λ_ _=>U)
  (ao (aT (PW.pt<|lh (cE<|bG<|aQ p d U<|aa (pv 2) ae)<|jk<|cE<|bG<|aQ p d U<|aa (pv 3) ae)
  (ag bo)
  aG)
  (ag<|aE<|mQ c bR d U<|aa (eV B pK d U<|aa (pv 2) ae)<|aa (eV B pK d U<|aa (pv 3) ae) ae))))),?_,)
 dsimp only[bj,OY,OW];show(let G:TS:=_;let I:TS:=aZ _ G;let J:TS:=aZ _ I;let L:TS:=aZ _ J;aZ _ L _ _ _);intro _ _ _ _;let T:=o.len;let S:=n.len;calc(U,z,bD,U,U,⋯,iu ∅,λt M=>?_,);rw[N];let g:upd H t (.tup [.str a,.str bD,.str b]) t=MO (.tup [.str a,.str bD,.str b]):=af;let e:=ah M<|.tup [.str a,.str bD,.str b];generalize upd H t (.tup [.str a,.str bD,.str b])=H1 at g e⊢;calc(t,_,_,_,U,U,OV g,U,?_,);calc(t,_,_,_,U,U,OV g,U,?_,);calc(_,U,∅,_,U,?_,);rw[v];calc bI (_,U,∅,_,U,?_,);rw[u];refine bI ⟨a,U,o,λ_=>⟨b,U,n,λ_=>?_,λh=>by rw[u]at h;cases h⟩,λh=>by rw[v]at h;cases h⟩;intro x D y l j;calc(x,D,_,_,U,af,k,U,?_,);calc q x _ (e.trans<|BA (C:=Y.r) _ _ y l j) (e.free y)<|CW Y.r _ x D _ _
def G2(F:Fun K "show_value" "show_value" EK f fd)(bl:Bl K mg Y)(C:⟨⟩ 3 "number_text" ["number"] (fe K Y))(m:ba CX0 P w K mg base 3 Y.r "worth" ["self","code"] (dH K Y))(n:ba CX0 P w K mg base 3 Y.s "worth" ["self","code"] (eG K Y)):() 4 f fd ["domain","code"] (jw K Y):=by
 refine F.okA Ic λD A i s H G Q E b h=>?_
 let(d,c,z,rfl,g,q):=h
 refine(_,(ao (aT (bG<|av b9 U bl.isinstance_ im<|aa (pv 0)<|aa (fu (v:=.ref Y.s) U bl.Words_ U) ae)
  (ag<|aE<|xn (mw m bl.k_Numbers<|mw n bl.k_Words vC) bR b (pv 0)<|aa (pv 1) ae)
  aG)
  (ag<|aE<|aQ C b U<|aa (xn (mw m bl.k_Numbers<|mw n bl.k_Words vC) bR b (pv 0)<|aa (pv 1) ae) ae)),?_,)
 dsimp only[bj,OY,OW];show(let p:TS:=_;aZ _ p _ _ _);intro _;rcases g with⟨lo,hi,k,y,x,u,rfl⟩|⟨o,j,B,t⟩
 .let(e,a):=id k;calc(_,_,_,_,MR,U,.ref _,bl.t_Numbers.ty a,bl.f_nw,_,U,bI ?_,);refine(d,_,e,_,U,.head _,a,U,d,lo,hi,c,U,k,y,x,c,U,u,q,)
 .let(e,l,a,I):=id j;calc(_,_,_,_,MQ,U,.ref _,bl.t_Words.ty a,bl.f_ww,_,U,eU ?_,);calc(d,_,e,_,U,.tail _<|.head _,a,U,d,o,c,z,U,j,B,t,q,)
def G3(F:Fun K "way_by" "way_by" EL f fd)(bl:Bl K mg Y)(k_First:bu CX0 P w K mg base 2 "First" Y.k ["self"] (J0 K Y))(k_Only:bu CX0 P w K mg base 2 "Only" Y.l ["self"] (J4 K Y))(k_Like:bu CX0 P w K mg base 2 "Like" Y.m ["self"] (J2 K Y))(k_Low:bu CX0 P w K mg base 2 "Low" Y.n ["self"] (J3 K Y))(k_High:bu CX0 P w K mg base 2 "High" Y.o ["self"] (J1 K Y))(k_Sum:bu CX0 P w K mg base 2 "Sum" Y.p ["self"] (J5 K Y)):() 4 f fd ["name"] (pk K Y):=by
 refine F.okA Gy λa3 A a2 s H vs Q E hr h=>?_
 let(z,rfl,hz,q):=h
 refine(_,(ao (bB tz U (aR<|bP<|aa (oV k_First bR hr U)<|aa (oV k_Only bR hr U)<|aa (oV k_Like bR hr U)<|aa (oV k_Low bR hr U)<|aa (oV k_High bR hr U)<|aa (oV k_Sum bR hr U) ae) (aC (i:=1) Gy.nd U<|bv U)
  (ag (aT (aJ cU (aP (pv 1) U) (pv 0)<|aO _)
  (ag<|aE<|pv 1)
  aG)))
  (ag bo)),?_,)
 dsimp only[bj,OY,OW];show(let r1:TS:=_;aZ _ r1 _ _ _);intro _;refine λD R c b d=>(D,R,U,af,U,?_,)
 let t0:aq H (upd (upd (upd H R<|.own D) D<|.ins Y.k R []) D<|.ins Y.k R [("called",.str s!"first")]):=((ah b _).upd c).upd c;let G:WyN Y.k (upd (upd (upd H R<|.own D) D<|.ins Y.k R []) D<|.ins Y.k R [("called",.str s!"first")]) D s!"first":=(R,af,);generalize upd (upd (upd H R<|.own D) D<|.ins Y.k R []) D (.ins Y.k R [("called",.str s!"first")])=H0 at t0 G⊢;clear c b d;refine λB O c b d=>(B,O,U,af,U,?_,)
 let t1:aq H0 (upd (upd (upd H0 O<|.own B) B<|.ins Y.l O []) B<|.ins Y.l O [("called",.str s!"only")]):=((ah b _).upd c).upd c;let I:WyN Y.l (upd (upd (upd H0 O<|.own B) B<|.ins Y.l O []) B<|.ins Y.l O [("called",.str s!"only")]) B s!"only":=(O,af,);generalize upd (upd (upd H0 O<|.own B) B<|.ins Y.l O []) B (.ins Y.l O [("called",.str s!"only")])=H1 at t1 I⊢;clear c b d;let G:=G.same t1;refine λv N c b d=>(v,N,U,af,U,?_,)
 let t2:aq H1 (upd (upd (upd H1 N<|.own v) v<|.ins Y.m N []) v<|.ins Y.m N [("called",.str s!"like")]):=((ah b _).upd c).upd c;let S:WyN Y.m (upd (upd (upd H1 N<|.own v) v<|.ins Y.m N []) v<|.ins Y.m N [("called",.str s!"like")]) v s!"like":=(N,af,);generalize upd (upd (upd H1 N<|.own v) v<|.ins Y.m N []) v (.ins Y.m N [("called",.str s!"like")])=H2 at t2 S⊢;clear c b d;let G:=G.same t2;let I:=I.same t2;refine λu M c b d=>(u,M,U,af,U,?_,)
 let t3:aq H2 (upd (upd (upd H2 M<|.own u) u<|.ins Y.n M []) u<|.ins Y.n M [("called",.str s!"low")]):=((ah b _).upd c).upd c;let T:WyN Y.n (upd (upd (upd H2 M<|.own u) u<|.ins Y.n M []) u<|.ins Y.n M [("called",.str s!"low")]) u s!"low":=(M,af,);generalize upd (upd (upd H2 M<|.own u) u<|.ins Y.n M []) u (.ins Y.n M [("called",.str s!"low")])=H3 at t3 T⊢;clear c b d;let G:=G.same t3;let I:=I.same t3;let S:=S.same t3;refine λt L c b d=>(t,L,U,af,U,?_,)
 let t4:aq H3 (upd (upd (upd H3 L<|.own t) t<|.ins Y.o L []) t<|.ins Y.o L [("called",.str s!"high")]):=((ah b _).upd c).upd c;let y4:WyN Y.o (upd (upd (upd H3 L<|.own t) t<|.ins Y.o L []) t<|.ins Y.o L [("called",.str s!"high")]) t s!"high":=(L,af,);generalize upd (upd (upd H3 L<|.own t) t<|.ins Y.o L []) t (.ins Y.o L [("called",.str s!"high")])=H4 at t4 y4⊢;clear c b d;let G:=G.same t4;let I:=I.same t4;let S:=S.same t4;let T:=T.same t4;refine λr J c b d=>(r,J,U,af,U,?_,)
 let X:aq H4 (upd (upd (upd H4 J<|.own r) r<|.ins Y.p J []) r<|.ins Y.p J [("called",.str s!"sum")]):=((ah b _).upd c).upd c;let y5:WyN Y.p (upd (upd (upd H4 J<|.own r) r<|.ins Y.p J []) r<|.ins Y.p J [("called",.str s!"sum")]) r s!"sum":=(J,af,);generalize upd (upd (upd H4 J<|.own r) r<|.ins Y.p J []) r (.ins Y.p J [("called",.str s!"sum")])=H5 at X y5⊢;clear c b d;let G:=G.same X;let I:=I.same X;let S:=S.same X;let T:=T.same X;let y4:=y4.same X;let s5:aq H H5:=((((t0.trans t1).trans t2).trans t3).trans t4).trans X;refine((by show 6≤AY;decide),λl hl=>?_,);let W:aq H5 (upd H5 l<|.lst [O1 D,.ref B,.ref v,.ref u,.ref t,.ref r]):=ah hl _;let el:upd H5 l (.lst [O1 D,.ref B,.ref v,.ref u,.ref t,.ref r]) l=MO (.lst [O1 D,.ref B,.ref v,.ref u,.ref t,.ref r]):=af;generalize upd H5 l (.lst [O1 D,.ref B,.ref v,.ref u,.ref t,.ref r])=H6 at W el⊢;let G:=G.same W;let I:=I.same W;let S:=S.same W;let T:=T.same W;let y4:=y4.same W;let y5:=y5.same W;let sA:=s5.trans W;let a0:∀(i:Nat)(x:V),[O1 D,.ref B,.ref v,.ref u,.ref t,.ref r][i]?=MO x→∃(a C:AE)(y:Str),x=.ref a∧(cl6 Y.k Y.l Y.m Y.n Y.o Y.p)[i]?=MO C∧six[i]?=MO y∧WyN C H6 a y∧Cls K C∧NoAttr K C s!"called":=λi x e=>by
  match i,e with
  |0,e=>cases e;exact(D,Y.k,_,U,U,U,G,bl.k_First,bl.na_First_called,)
  |1,e=>cases e;exact(B,Y.l,_,U,U,U,I,bl.k_Only,bl.na_Only_called,)
  |2,e=>cases e;exact(v,Y.m,_,U,U,U,S,bl.k_Like,bl.na_Like_called,)
  |3,e=>cases e;exact(u,Y.n,_,U,U,U,T,bl.k_Low,bl.na_Low_called,)
  |4,e=>cases e;exact(t,Y.o,_,U,U,U,y4,bl.k_High,bl.na_High_called,)
  |5,e=>cases e;exact(r,Y.p,_,U,U,U,y5,bl.k_Sum,bl.na_Sum_called,)
  |n+6,e=>simp at e
 refine(l,U,(_,OU el,),(let I_:Nat→St→Hp→Prop:=λi σ H'=>(∃c1:Option V,σ=[MO (.str z),c1])∧H'=H6∧∀j:Nat,j<i→six[j]?≠MO z;bp (xs:=[O1 D,.ref B,.ref v,.ref u,.ref t,.ref r]) I_ ((_,U,),U,(λj h=>MW h<|N1 j),) (λi σ H' _ h=>by rw[h.2.1];exact OU el) (λi x σ H' e h=>?_) (λσ H' h=>?_)),)
 .let((c1,rfl),e0,Z):=h;rw[e0];let(a,C,y,rfl,eC,ey,(dx,ha),hc,hn):=a0 i x e;calc(a,_,_,_,_,U,ha,hc,hn,U,U,_,U,?_,);refine bK (λg=>?_)<|λg=>?_
  .let g':OT y=OT z:=fZ g;injection g' with g';subst g';exact(q i ey a C H6 sA eC (dx,ha,))
  .refine((_,U,),U,λj hj=>?_,);by_cases a1:j<i
   .exact Z j a1
   .let:j=i:=∅
    subst this;rw[ey];intro q2;exact(ip g) (by injection q2 with q2;rw[q2])
 .let((c1,rfl),e0,Z):=h;rw[e0];let(j,hj,ej):=List.getElem_of_mem hz;calc MW (by rw[KG hj,ej]) (Z j hj)
def G4(F:Fun K "take_line" "take_line" EM f fd)(bl:Bl K mg Y)(uL:⟨⟩ 3 "fact_parts" ["text"] (jt K Y))(zU:⟨⟩ 3 "drafted" ["text"] (nj K Y))(vY:⟨⟩ 3 "row_parts" ["text"] (kg K Y)):() 4 f fd ["line","facts","drafts"] (km K Y):=by
 refine F.okA Ie λa4 A a2 s H vs Q E X h=>?_
 let(J,I,z,fs,m,ln,rfl,p,V,hf,hd,a0,C,uI,q):=h
 refine(_,(ag (aT (bG<|bx PySem.F.plainAttrs_str PySem.F.slot_str_startswith PySem.F.type_str_startswith fI (pv 0)<|aa (bA U bl.FACT_) ae)
  (ag<|aY<|bx PySem.F.plainAttrs_list PySem.F.slot_list_append PySem.F.type_list_append bW (pv 1)<|aa (aQ uL X U<|aa (iN qD (pv 0) (iz<|av fz U bl.len_ MN<|aa (bA U bl.FACT_) ae) nM) ae) ae)
  (ag (aT (bG<|bx PySem.F.plainAttrs_str PySem.F.slot_str_startswith PySem.F.type_str_startswith fI (pv 0)<|aa (bA U bl.TABLE_) ae)
  (ag<|aY<|bx PySem.F.plainAttrs_list PySem.F.slot_list_append PySem.F.type_list_append bW (pv 2)<|aa (aQ zU X U<|aa (iN qD (pv 0) (iz<|av fz U bl.len_ MN<|aa (bA U bl.TABLE_) ae) nM) ae) ae)
  (ag (aT (PW.pt<|jT (bG<|bx PySem.F.plainAttrs_str PySem.F.slot_str_startswith PySem.F.type_str_startswith fI (pv 0)<|aa (bA U bl.WHEN_) ae)<|iw<|fH (pv 2) (by intro _;rfl))
  (ag<|aY<|bx PySem.F.plainAttrs_list PySem.F.slot_list_append PySem.F.type_list_append bW (aP (az aW (pv 2) (sv oO ai)<|λ_ _=>U) U)<|aa (aQ vY X U<|aa (iN qD (pv 0) (iz<|av fz U bl.len_ MN<|aa (bA U bl.WHEN_) ae) nM) ae) ae)
  (ag bo))))))),?_,)
 cases ln with
 |fact n d =>
  let(y,rfl,hp):=C;calc(U,_,s!"fact ",U,U,?_,);rw[xF];let(fv,ef,rf):=id p.f;let a3:⇑fv=⇑fs:=rf.1;let M:⇑y≤10000:=by rw[qq]at V;lia
  calc(_,U,eU (.inl (U,_,OU ef,),_,U,⋯,_,U,_,U,iu ∅,?_,),);rw[xG];calc(y,n,SP,d,U,iu ∅,hp,⋯,⋯,λt H' i W et=>?_,);calc(J,_,_,U,U,i _ _ ef,aD ∅,?_,);exact q _ m U (p.fact i W et ef) λb o k e=>((ay λz=>k (by rw[z];exact .head _)).trans (i _ _ e),k,)
 |tab n cs d S =>
  let(y,r,c,u,rfl,h1,a1,Z,hc,hu,h3,h4):=C;calc(U,_,s!"fact ",U,U,?_,);rw[BM (z:=s!"table " ++ y) (q:=s!"fact ") (c:=102) (d:=116) (r:=[97,99,116,32]) (s:=[97,98,108,101,32]++y.cps.toList) (~~~0) (by rw[oE,show s!"table ".cps.toList=116 :: [97,98,108,101,32] by decide+kernel];rfl) ⋯];calc(_,U,bI (U,_,s!"table ",U,U,?_,),);rw[xF];let(B,G,O):=id p.d;let j:B.length=⇑m:=O.1;let M:⇑y≤10000:=by rw[qq]at V;lia
  calc(_,U,eU (.inl (U,_,OU G,),_,U,⋯,_,U,_,U,iu ∅,?_,),);rw[xG];calc(y,n,CO,r,c,AR,u,d,BY,S,cs,U,iu ∅,h1,iu ∅,⋯,⋯,Z,iu ∅,⋯,⋯,h3,⋯,⋯,iu ∅,h4,λx T H' i hx R ex L fr=>?_,);calc(I,_,_,U,U,i _ _ G,aD ∅,?_,);refine q _ (m++[(((n,cs,d,S,[],):Dw),T)]) (by simp[ap]) (p.tab i hx R ex L G fr) λb o k e=>((ay λz=>k (by rw[z];exact .tail _ (.head _))).trans (i _ _ e),λD=>?_,)
  rw[show mtA J I (m++[(((n,cs,d,S,[],):Dw),T)])=mtA J I m++[T] by simp[mtA]]at D;rcases eA.mp D with D|D
  .exact k D
  .rw[hJ.mp D,R]at e;cases e
 |row f v =>
  let(y,c,rfl,h1,hc,Z):=C;let ew:(s!"when " ++ y).cps.toList=119 :: ([104,101,110,32]++y.cps.toList):=by rw[oE,show s!"when ".cps.toList=119 :: [104,101,110,32] by decide+kernel];rfl
  let(a,g,rfl):∃a g,m=a++[g]:=(m.dropLast,m.getLast<|uI (f,v,U,),(M8 _).symm,);calc(U,_,s!"fact ",U,U,?_,);rw[BM (c:=102) (d:=119) (r:=[97,99,116,32]) (~~~0) ew ⋯];calc(_,U,bI (U,_,s!"table ",U,U,?_,),);rw[BM (c:=116) (d:=119) (r:=[97,98,108,101,32]) (~~~0) ew ⋯];calc(_,U,bI (U,_,s!"when ",U,U,?_,),);rw[xF];let(B,G,O):=id p.d;let j:B.length=⇑a+1:=by rw[O.1];simp
  let M:⇑y≤10000:=by rw[qq]at V;lia
  refine(_,U,eU (MQ,.inl (_,OU G,?_,),eU ?_,),)
  .cases B with
   |nil=>simp at j
   |cons=>rfl
  let(x,ex,px):=O.2 ⇑a g (by simp);let(rv,L,rr):=p.r g<|fq _<|.head _;let a1:⇑rv≤1000:=by rw[rr.1];exact a0 g<|fq _<|.head _
  let(dx,cl,g1,g2):=px.same<|fb _ _;let N:B≠[]:=λz=>by rw[z]at j;simp at j
  let e9:atI B (-1)=↑x:=by
   let e8:B.getLast N=.ref x:=by
    let(_,e):=KH.mp ex;rw[List.getLast_eq_getElem,←e];congr 1;lia
   rw[←M8 N,e8];exact lr _ _
  calc(_,U,I,_,_,_,U,U,OU G,e9,x,_,_,_,_,U,g1,bl.k_Draft,bl.na_Draft_rows,U,.inl (U,_,OU L,),_,U,⋯,_,U,_,U,iu ∅,?_,);rw[xG];calc(y,c,AR,v,f,U,iu ∅,h1,⋯,⋯,iu ∅,Z,λt l H' i W R et el=>?_,);calc(g.2,_,_,U,U,i _ _ L,aD ∅,?_,);let em:mtA J I (a++[(g.1.add (f,v),g.2)])=mtA J I (a++[g]):=by simp[mtA]
  calc q _ (a++[(g.1.add (f,v),g.2)]) (by simp[ap]) (p.row i W R et el L) λb o k e=>((ay λz=>k (by rw[z];exact .tail _ (.tail _<|ck.mpr (g,fq _<|.head _,U,)))).trans (i _ _ e),by rw[em];exact k,)
def JN(F:Fun K "refuse_numbers" "refuse_numbers" Y93 f fd)(bl:Bl K mg Y)(R:bM P w K mg base 3 "number_of" ["text"] (gn K Y)):() 4 f fd ["draft","outcome"] (gq K Y):=by
 refine F.okA Z93 λX A j s H vs Q E L h=>?_
 let(x,G,d,k,rfl,(C,B,(dx,cl,O,g2),o,N),m,M,q):=h
 refine(_,(ao (aT (bG<|av b9 U bl.isinstance_ im<|aa (pv 1)<|aa (fu (v:=.ref Y.s) U bl.Words_ U) ae)
  (ag Ca)
  aG)
  (ag (bB tz U (aR<|aP (pv 0) U) (d8 U<|aI (aC (i:=2) Z93.nd U<|bv U)<|aI (aC (i:=3) Z93.nd U<|bv U) br)
  (ag<|aY<|eV R pK L U<|aa (pv 3) ae)))),?_,)
 dsimp only[bj,OY,OW];show(let D:TS:=_;aZ _ D _ _ _);intro _;cases k with
 |inr Z =>
  let(g,l2,c,n):=m;exact(_,_,_,_,MQ,U,.ref _,bl.t_Words.ty c,bl.f_ww,_,U,eU q,)
 |inl p =>
  let(g,c):=m;calc(_,_,_,_,MR,U,.ref _,bl.t_Numbers.ty c,bl.f_nw,_,U,bI ?_,);refine(x,_,_,_,_,U,O,bl.k_Draft,bl.na_Draft_rows,U,C,U,(_,OU o,),(let W:Nat→St→Hp→Prop:=λi a b=>b=H∧E2 λz u:Option V=>a=[↑x,↑G,z,u];bp (xs:=B) W (U,_,_,U,) (λi a b _ h=>by rw[h.1];exact OU o) (λi y a b e h=>?_) (λa b h=>by rw[h.1];exact q)),);let(T,z,u,rfl):=h;rw[T];let(t,r,rfl,S,l,n,h3):=ak.get N e;let(J,I):=M p U r<|KJ S;calc(t,_,U,OV n,U,_,_,U,_,_,U,U,?_,);calc⟨r.2,U,J,λ_=>(U,_,_,U,),λh=>by rw[I]at h;cases h⟩
def JO(F:Fun K "fields_text" "fields_text" Y44 f fd)(bl:Bl K mg Y)(vZ:⟨⟩ 3 "show_cell" ["domain","spans"] (ki K Y)):() 4 f fd ["domains","cells"] (iW K Y):=by
 refine F.okA Z44 λa0 A X s H vs Q E hr h=>?_
 let(dl,cl,L,M,o,c,rfl,v,t,B,u,hl,h6,ok,q):=h;refine(_,(ag<|aE<|bx PySem.F.plainAttrs_str PySem.F.slot_str_join PySem.F.type_str_join eO (bA U bl.BETWEEN_FIELDS_)<|aa (d7 (ud U bl.zip_<|aa (pv 0)<|aa (pv 1) ae) (cH (N:=["domain","spans"]) (k:=2) U U (~~~0) (~~~0)<|~~~0) U (λ_ _ _ _=>(jF (K:=K) (n:=2) U U<|aI (aC (i:=0) (show(["domain","spans"]:M3 Str).Nodup by decide+kernel) U (bv U) (pc U)) (aI (aC (i:=1) (show(["domain","spans"]:M3 Str).Nodup by decide+kernel) U (bv U) (pc U)) br))) (λ_ _ _ _=>aX) (λ_ _ _ _=>(aQ vZ hr U<|aa (pv 0)<|aa (pv 1) ae))) ae),?_,);let hd:L.length=⇑o:=t.1;let hc:M.length=⇑c:=u.1;refine(U,dl,cl,U,(_,OU v,),(_,OU B,),(let I_:AE→Nat→M3 V→Hp→Prop:=λD i e b=>aq H b∧b D=MO (.lst e)∧e=(lc bh (o.take i)<|c.take i).map OT;tf (xs:=L) (ys:=M) I_ (λD r=>(ah r _,af,U,)) (λD i e b r _ h=>(OU<|h.1 _ _ v,OU<|h.1 _ _ B,)) (λD i x y e b T r ex ey h hT Z S=>?_) (λD e b r h=>?_)),)
 .let(O,J,rfl):=h;let(d,k,rfl,ek,hk):=t.get ex;let(l,p,rfl,R,_,ys,el,W):=ak.get u ey;let hi:i<⇑c:=(KH.mp R).1;let g:=O.trans<|ah hT<|.tup [.ref d,.ref l];let eT:upd b T (.tup [.ref d,.ref l]) T=MO (.tup [.ref d,.ref l]):=af;let C:=(ah hT<|.tup [.ref d,.ref l]) _ _ J;generalize upd b T (.tup [.ref d,.ref l])=H2 at g eT C⊢;let(I,G,rfl):∃I G,Z=[I,G]:=by
   match Z,S with
   | [I,G],_=>exact(I,G,U,)
  calc(T,_,U,OV eT,U,_,_,U,_,_,U,U,([↑d,↑l],U,U,),?_,);calc(d,l,k,ys,p,U,hk.same g,g _ _ el,W.mono g.tups,ok i k p ek R,λH3 s3=>?_,);refine b7.mk ∅ (s3 _ _ C) (aD (by simp;lia)) ((g.trans s3).upd r,af,?_,);rw[take_snoc ek,take_snoc R,OE (by rw[eH,eH];lia),dy];rfl
 .let(O,J,rfl):=h;let e1:o.take (min L.length M.length)=o:=kU ∅;let e2:c.take (min L.length M.length)=c:=kU ∅;rw[e1,e2]at J;refine(_,D,_,U,U,OU J,(~~~0),fC (m:=1206) (n:=6) (λz hz=>?_) (by simp;lia) ⋯,q b O,);let(j,a):=gu hz;rw[mF]at a;cases e3:o[j]? with
  |none=>rw[e3]at a;cases a
  |some k =>
   cases e4:c[j]? with
   |none=>rw[e3,e4]at a;cases a
   |some p =>
    rw[e3,e4]at a;let a:MO (bh k p)=MO z:=a;cases a;calc jZ<|ok j k p e3 e4
def JP(F:Fun K "_law_lines" "_law_lines" Y58 f fd)(bl:Bl K mg Y)(v7:⟨⟩ 3 "_law_head" ["plan","k"] (lJ K Y))(fU:⟨⟩ 3 "_law_domain_text" ["domain"] (dR K Y))(v9:⟨⟩ 3 "_law_when" ["plan","k","row"] (lL K Y)):() 4 f fd ["plan","order"] (kn K Y):=by
 refine F.okA Z58 λe9 A d2 s H vs Q E hr h=>?_
 let(r,W,c,u,B,n,os,d,d1,rfl,a0,ok,a7,a4,e8,Z,c5,q):=h
 refine(_,(aw (lp (pv 0)<|d8 U<|aI (aC (i:=2) Z58.nd U<|bv U)<|aI (aC (i:=3) Z58.nd U<|bv U)<|aI (aC (i:=4) Z58.nd U<|bv U) br)
  (aw (aL (i:=5) Z58.nd U (bv U)<|bP ae)
  (aw (bB tz U (b6 U bl.range_<|aa (aH fS (av au U bl.len_ MN<|aa (pv 2) ae)<|av au U bl.len_ MN<|aa (pv 4) ae) ae) (aC (i:=6) Z58.nd U<|pc U)
  (ag<|aY<|bx PySem.F.plainAttrs_list PySem.F.slot_list_append PySem.F.type_list_append bW (pv 5)<|aa (aH aN (aH aN (aH aN aV<|az aW (pv 2) (pv 6)<|λ_ _=>U) aV)<|aQ fU hr U<|aa (az aW (pv 3) (pv 6)<|λ_ _=>U) ae) ae))
  (aw (bB tz U (aR<|pv 1) (aC (i:=6) Z58.nd U<|pc U)
  (ao (aY<|bx PySem.F.plainAttrs_list PySem.F.slot_list_append PySem.F.type_list_append bW (pv 5)<|aa (aQ v7 hr U<|aa (pv 0)<|aa (pv 6) ae) ae)
  (ag<|aY<|bx PySem.F.plainAttrs_list PySem.F.slot_list_extend PySem.F.type_list_extend oR (pv 5)<|aa (bZ (aR<|az aM (az aW (pv 4) (pv 6)<|λ_ _=>U) ai<|λ_ _=>U) (bc (N:=["row","plan","k"]) (fr:=[0,6]) (cl:=[("plan",↥s+1),("k",↥s+1+1)]) U U (~~~0) (~~~0) U (~~~0) U U U (eN.mpr (U,eN.mpr (U,fW _,),)) U) U (λ_ _ _ _=>aX)<|λ_ _ _ _=>(aQ v9 hr U<|aa (pv 1)<|aa (pv 2)<|aa (pv 0) ae)) ae)))
  (ag<|aE<|pv 5))))),?_,)
 dsimp only[bj,OY,OW];show(let r4:TS:=_;let r3:TS:=a9 _ r4;let r2:TS:=a9 _ r3;let r1:TS:=a9 _ r2;a9 _ r1 _ _ _);intro _ _ _ _;let(O,X,m,dv,tv,er,a8,d0,c4,a6,a3):=id a0;let e3:⇑(c.map OT)=⇑c:=bQ _;let e6:=ok.len;let e5:=ok.tab;let h7:=ok.n7;let e4:⇑tv=B.length:=a3.1;let hr:∀(k:Nat)(t:PT),B[k]?=MO t→⇑t.rows≤200:=λk t e=>(ok.tabs k t e).few
 calc(let G:St→Hp→Prop:=λx a=>a=H∧x=[↑r,↑W,↑O,↑X,↑m,MP,MP];(G,(r,_,U,OV er,U,_,_,U,_,_,U,_,_,U,U,U,U,),?_,));rintro e0 H1 ⟨rfl,rfl⟩;refine(let G:St→Hp→Prop:=λx a=>aq H1 a∧∃l:AE,A3 (H1 l=MP) (a l=MO (.lst [])) (x=[↑r,↑W,↑O,↑X,↑m,↑l,MP]);(G,((by show 0≤AY;decide),λl hl=>(ah hl _,l,hl,af,U,),),?_,));rintro d5 H2 ⟨s2,l,fl,C,rfl⟩;let a5:(((⇑(c.map OT):Nat):Int)-((⇑tv:Nat):Int)).toNat=n:=∅
 refine(let G:St→Hp→Prop:=λx a=>aq H1 a∧∃v:Option V,a l=MO (.lst<|(d.map eQ).map OT)∧x=[↑r,↑W,↑O,↑X,↑m,↑l,v];(G,?_,?_,))
 .refine(O,_,U,.inl<|OU<|s2 _ _ a8,m,_,U,.inl<|OU<|s2 _ _ a6,_,_,U,U,_,U,∅,∅,(let G:Nat→St→Hp→Prop:=λi M a=>aq H1 a∧∃v:Option V,a l=MO (.lst<|((d.take i).map eQ).map OT)∧M=[↑r,↑W,↑O,↑X,↑m,↑l,v];iE G (s2,_,C,U,) (λi M a hi h=>?_) (λM a h=>?_)),)
  .let(I,v,C,rfl):=h;rw[a5]at hi;let R:=KG (l:=c) (i:=i) ∅;let J:=KG (l:=u) (i:=i) ∅;generalize c[i]=z at R;generalize u[i]=p at J;let(da,e2,c1):=c4.2 i p J;let L:=ok.doms p<|KJ J;let lw:=mj L.gd L.b1 L.b2;let e1:=ok.nm12<|KJ R;let c9:d[i]?=MO (z,p.k):=by rw[Z];exact o8 hi R J
   let b0:atI (c.map OT) (0+(i:Int))=MO (.str z):=by rw[v5];exact aS<|fL R
   let b3:atI dv (0+(i:Int))=↑da:=by rw[v5];exact aS e2
   refine(.inl (U,_,OU C,),O,_,_,_,U,U,OU<|I _ _ a8,b0,_,_,U,U,fX (by rw[kb];lia),_,_,U,U,fX (by rw[aK,kb,zQ];lia),X,_,_,_,U,U,OU<|I _ _ d0,b3,da,p,U,c1.same I,L,_,_,U,U,fX (by rw[aK,aK,kb,zQ];lia),l,_,_,U,U,C,vV (by simp;lia),I.upd fl,_,?_,U,);rw[af,take_snoc c9,dy,dy];rfl
  .let(I,v,C,rfl):=h;rw[a5,kU (by rw[Z,gL];exact pT _)]at C;exact(I,v,C,U,)
 rintro d4 H3 ⟨s3,v,c8,rfl⟩;let c2:⇑(vN os)=⇑os:=jm _;let c0:∀{j:Nat},⇑(prm (os.take j)<|tsP c u B n)≤10:=λ{j}=>by
  rw[(bT (os:=os.take j) (xs:=tsP c u B n) λk hk=>by rw[j4];exact a4 k (jh hk)).1,eH];lia
 let kS:∀{j:Nat},∀b∈prm (os.take j) (tsP c u B n),⇑b.rws≤200:=λ{j} b hb=>by
  let(k,ek):=gu<|ui hb;let(t,S,rfl):=Bw ek;exact hr k t S
 let c3:∀{j:Nat},⇑((dt d<|prm (os.take j)<|tsP c u B n).map OT)≤2020:=λ{j}=>by
  let h1:=uC<|kS (j:=j);let h2:=c0 (j:=j);unfold dt;rw[bQ,dV,bQ,Z,gL];lia
 refine(let G:St→Hp→Prop:=λx a=>aq H1 a∧∃v:Option V,a l=MO (.lst<|(dt d d1).map OT)∧x=[↑r,↑W,↑O,↑X,↑m,↑l,v];(G,?_,?_,))
 .refine(W,U,(_,OU<|s3 _ _ a7,),(let G:Nat→St→Hp→Prop:=λi M a=>aq H1 a∧∃v:Option V,a l=MO (.lst<|(dt d<|prm (os.take i)<|tsP c u B n).map OT)∧M=[↑r,↑W,↑O,↑X,↑m,↑l,v];bp (xs:=vN os) G (s3,_,?_,U,) (λi M a _ h=>OU<|h.1 _ _ a7) (λi y M a e h=>?_) (λM a h=>?_)),)
  .rw[c8];show _=MO (HO.lst<|(d.map eQ++[]).map OT);rw[hY]
  .let(I,v,C,rfl):=h;let(k,rfl,ek):=qO e;let hk:=a4 k<|KJ ek;let S:=KG hk;generalize B[k]=t at S;let R:=KG (l:=c) (i:=n+k) ∅;let J:=KG (l:=u) (i:=n+k) ∅;generalize c[n+k]=nm at R;generalize u[n+k]=po at J;let(ta,c7,cl,rl,rx,g1,g2,g3,g4):=a3.2 k t S;let b4:⇑rx=⇑t.rows:=g4.1;let e7:=hr k t S;let hL:=c3 (j:=i);calc(.inl (U,_,OU C,),r,k,c,u,B,n,t,nm,po,U,a0.same I,ok,S,R,J,λH4 s4=>?_,);let a2:=s4 _ _ C;let sA:=I.trans s4;calc(l,_,_,U,U,a2,vV ∅,?_,);let T:=sA.upd (o:=HO.lst<|(dt d<|prm (os.take i)<|tsP c u B n).map OT++[.str (ir nm (prm t.cols c) po.k t.way)]) fl;let a1:upd H4 l (HO.lst<|(dt d<|prm (os.take i)<|tsP c u B n).map OT++[.str (ir nm (prm t.cols c) po.k t.way)]) l=_:=af;generalize upd H4 l (HO.lst<|(dt d<|prm (os.take i)<|tsP c u B n).map OT++[.str (ir nm (prm t.cols c) po.k t.way)])=H5 at T a1⊢;refine(.inl (U,_,OU a1,),m,_,_,_,U,U,OU<|T _ _ a6,aS c7,ta,_,_,_,U,U,OV<|T _ _ g1,U,rl,U,(_,OU<|T _ _ g3,),(let G:AE→Nat→M3 V→Hp→Prop:=λD i ys a=>aq H5 a∧a D=MO (.lst ys)∧ys=((t.rows.take i).map λw=>o7 (prm t.cols<|u.map PD.k) w po.k).map OT;bC (xs:=rx) G (λD hD=>(ah hD _,af,U,)) (λD i ys a hD _ h=>OU<|h.1 _ _<|T _ _ g3) (λD i y ys a hD e h=>?_) (λD ys a hD h=>?_)),)
   .let(s6,eD,rfl):=h;let(ro,w_,rfl,ew,g):=ak.get g4 e;let hi:i<⇑rx:=(KH.mp e).1;let sC:=T.trans s6;refine(r,ro,k,c,u,B,n,t,po,w_,U,a0.same sC,ok,S,J,g.same sC,KJ ew,λH7 s7=>b7.mk hi (s7 _ _ eD) (aD (by rw[bQ,bQ,eH];lia)) ((s6.trans s7).upd hD,af,?_,),);rw[take_snoc ew,dy,dy];rfl
   .let(s6,eD,rfl):=h;rw[b4,dY]at eD;refine(l,D,_,_,U,U,s6 _ _ a1,eD,rM<|vV (by simp only[dV,bQ,hQ]at hL⊢;lia),(T.trans s6).upd fl,_,?_,U,);rw[af,take_snoc ek,oi<|qY S,B2 R J]
    congr 2
    unfold dt;rw[dy (l₂:=[_]),pa];simp[rz]
  .let(I,v,C,rfl):=h;rw[c2,dY,←c5]at C;exact(I,v,C,U,)
 rintro d3 H4 ⟨s4,v,a2,rfl⟩;calc(q l H4 s4 fl a2)
def O_0(F:Fun K "__init__" "Book.__init__" Y0 f fd)(bl:Bl K mg Y)(kT:bM P w K mg base 3 "refuse_counts_books" ["facts","tables"] (dQ K Y))(lS:bM P w K mg base 3 "refuse_names_books" ["facts","tables"] (eB K Y))(pA:bM P w K mg base 3 "refuse_domains" ["facts","tables"] (gj K Y))(rF:bM P w K mg base 3 "refuse_rings" ["tables"] (hV K Y)):aU P w K mg base (CX1 P w) 4 f fd ["self","facts","tables"] (cR K Y):=by
 refine F.okEA Z0 λc3 A c0 s H vs Q E hr h=>?_
 let(x,m,fa,O,W,v,fs,ts,rfl,hx,J,j,G,q):=h
 refine(_,(ao (aY<|eV kT jH hr U<|aa (pv 1)<|aa (pv 2) ae)
  (ao (aY<|eV lS jH hr U<|aa (pv 1)<|aa (pv 2) ae)
  (ao (aY<|eV pA jH hr U<|aa (pv 1)<|aa (pv 2) ae)
  (ao (aY<|eV rF jH hr U<|aa (pv 2) ae)
  (ao (cG (pv 0) (d7 (aR<|pv 1) (cH (N:=["name","domain"]) (k:=2) U U (~~~0) (~~~0)<|~~~0) U (λ_ _ _ _=>(jF (K:=K) (n:=2) U U<|aI (aC (i:=0) (show(["name","domain"]:M3 Str).Nodup by decide+kernel) U (bv U) (pc U)) (aI (aC (i:=1) (show(["name","domain"]:M3 Str).Nodup by decide+kernel) U (bv U) (pc U)) br))) (λ_ _ _ _=>aX) (λ_ _ _ _=>(bH<|aa (pv 0)<|aa (pv 1) ae))) U)
  (ag<|cG (pv 0) (bg fA U bl.list_ wn<|aa (pv 2) ae) U)))))),?_,)
 dsimp only[bj,OY,OW];show(let r5:TS:=_;let r4:TS:=aZ _ r5;let r3:TS:=aZ _ r4;let r2:TS:=aZ _ r3;let r1:TS:=aZ _ r2;aZ _ r1 _ _ _);intro _ _ _ _ _;let(b1,b2):=G.few;let b3:W.length=⇑fs:=G.facts.1;let c1:⇑v=⇑ts:=G.tabs.1;refine(fa,O,W,v,U,J,j,λR=>?_,λR=>?_,)
 rotate_left
 .rcases q with⟨_,q⟩|⟨h,_⟩
  .exact q H<|aq.refl H
  .exact MW ∅ R
 rcases q with⟨h,_⟩|⟨_,q⟩
 .exact MW ∅ h
 refine(fa,O,W,v,fs,ts,U,J,j,G,λhN H1 M=>?_,λhN H1 M=>?_,)
 rotate_left
 .rcases q with⟨_,q⟩|⟨h,_⟩
  .exact q H1 M
  .exact MW h hN
 rcases q with⟨h,_⟩|⟨_,q⟩
 .exact MW hN h
 refine(fa,O,W,v,fs,ts,U,M _ _ J,M _ _ j,G.same M,hN,λl H2 s2=>?_,λl H2 s2=>?_,)
 rotate_left
 .rcases q with⟨_,q⟩|⟨h,_⟩
  .exact q H2<|M.trans s2
  .exact MW h l
 rcases q with⟨h,_⟩|⟨_,q⟩
 .exact MW l h
 let I:=M.trans s2;calc(O,v,ts,U,I _ _ j,(G.same I).tabs,b2,(λt ht=>(G.st t ht).2.1),?_,);rcases q with⟨h,q⟩|⟨h,q⟩
 .exact .inr (h,λH3 s3=>q H3<|I.trans s3,)
 calc .inl (h,λH3 s3=>?_,);let g:=I.trans s3;let G5:=g _ _ J;let c2:=G.same g;refine(fa,U,(_,OU G5,),(let I_:AE→Nat→M3 V→Hp→Prop:=λD i C a=>aq H3 a∧a D=MO (.lst C)∧ak C (fs.take i) (λp f=>∃d:AE,a p=MO (.tup [.str f.1,.ref d])∧cS Y.r Y.s H d f.2);b8 (xs:=W) I_ (λD l=>(ah l _,af,ak.nil,)) (λD i C a l _ h=>OU<|h.1 _ _ G5) (λD i y C a l e h a0 a8=>?_) (λD C a l h=>?_)),)
 .let(L,eD,Z):=h;let(r,f,rfl,ek,d,g0,g2):=ak.get G.facts e;let g1:=g _ _ g0;let hi:i<W.length:=(KH.mp e).1;let(t0,t1,rfl):∃t0 t1,a0=[t0,t1]:=by
   match a0,a8 with
   | [t0,t1],_=>exact(t0,t1,U,)
  calc(r,_,U,OV<|L _ _ g1,U,_,_,U,_,_,U,U,([MO (.str f.1),↑d],U,U,),?_,);refine((by show 2≤AY;decide),λtp b0=>?_,);let u:=ah b0<|.tup [.str f.1,.ref d];let ep:upd a tp (.tup [.str f.1,.ref d]) tp=MO (.tup [.str f.1,.ref d]):=af;generalize upd a tp (.tup [.str f.1,.ref d])=H4 at u ep⊢;let a3:=u _ _ eD;let a7:=Z.1;rw[eH]at a7;calc b7.mk hi a3 (aD ∅) ((L.trans u).upd l,af,?_,);rw[take_snoc ek];let hz:ak (C++[.ref tp]) (fs.take i++[f]) (λp (f:Fc)=>∃d:AE,H4 p=MO (.tup [.str f.1,.ref d])∧cS Y.r Y.s H d f.2):=ak.snoc (ak.mono Z λ_ _ (d,B,S,)=>(d,u _ _ B,S,)) (d,ep,g2,);exact ak.mono hz λ_ _ (d,B,S,)=>(d,(ay<|dM B a3 (by intro z;cases z)).trans B,S,)
 .let(L,eD,Z):=h;rw[b3,dY]at Z;let T:H3 x=MO (.ins Y.u m []):=g _ _ hx;refine(x,_,m,_,U,L _ _ T,bl.k_Book,bl.na_Book_facts,(by show 0<1000;decide),?_,);let a1:D≠x:=λz=>by rw[z,T]at l;cases l
  let a5:O≠x:=λz=>by rw[z,hx]at j;cases j
  let g1:upd a x (.ins Y.u m<|bX s!"facts" (O1 D) [])=upd a x (.ins Y.u m [(s!"facts",O1 D)]):=rfl;rw[g1];let e2:upd a x (.ins Y.u m [(s!"facts",O1 D)]) O=MO (.lst v):=(ay a5).trans<|L _ _<|g _ _ j;let a4:upd a x (.ins Y.u m [(s!"facts",O1 D)]) D=MO (.lst C):=(ay a1).trans eD;let a2:ak C fs (λp f=>∃d:AE,upd a x (.ins Y.u m [(s!"facts",O1 D)]) p=MO (.tup [.str f.1,.ref d])∧cS Y.r Y.s H d f.2):=ak.mono Z λ_ _ (d,B,S,)=>(d,(ay<|dM B (L _ _ T) (by intro z;cases z)).trans B,S,)
  let X:upd a x (.ins Y.u m [(s!"facts",O1 D)]) x=MO (.ins Y.u m [(s!"facts",O1 D)]):=af;let k2:∀b o,b≠x→H b=MO o→upd a x (.ins Y.u m [(s!"facts",O1 D)]) b=MO o:=λb o hb e=>(ay hb).trans<|L _ _<|g _ _ e
  generalize upd a x (.ins Y.u m [(s!"facts",O1 D)])=H4 at e2 a4 a2 X k2⊢;calc(O,v,U,.inl<|OU e2,λc R=>?_,);let u:=ah R<|.lst v;let ec:upd H4 c (.lst v) c=MO (.lst v):=af;let b4:H c=none:=jK k2 X R;generalize upd H4 c (.lst v)=H5 at u ec⊢;refine(x,_,m,_,U,u _ _ X,bl.k_Book,bl.na_Book_tables,(by show 1<1000;decide),?_,);let a6:c≠x:=λz=>by rw[z,X]at R;cases R
  calc q _ _ c D C (λb o hb e=>(ay hb).trans<|u _ _<|k2 b o hb e) af U U b4 (g.free l) ((ay a6).trans ec) ((ay a1).trans<|u _ _ a4)<|ak.mono a2 λ_ _ (d,B,S,)=>(d,(ay<|dM (u _ _ B) (u _ _ X) (by intro z;cases z)).trans (u _ _ B),S,)
def O_3(F:Fun K "code" "Domain.code" Y3 f fd)(bl:Bl K mg Y)(k:ba CX0 P w K mg base 3 Y.r "borne_code" ["self","value"] (cm K Y))(j:ba CX0 P w K mg base 3 Y.r "bears" ["self","value"] (dr K Y)):aU P w K mg base (CX1 P w) 4 f fd ["self","value"] (dW K Y):=by
 refine F.okEA Z3 λm A d s H o Q E b h=>?_
 let(a,lo,hi,v,rfl,(l,c),e,q,i):=h
 refine(_,(ao (aT (cE<|bG<|nW j bR bl.k_Numbers b (pv 0)<|aa (pv 1) ae)
  (ag<|dc bl.x_Outside b.hd U bl.Outside_<|aa (AI<|pv 1) ae)
  aG)
  (ag<|aE<|nW k bR bl.k_Numbers b (pv 0)<|aa (pv 1) ae)),?_,)
 show(let g:TS:=_;aZ _ g _ _ _);intro _;calc(a,_,_,U,c,U,a,lo,hi,v,U,(l,c,),Bz e,_,U,?_,);cases hb:inB lo hi v with
 |true=>exact bI (a,_,_,U,c,U,a,v,U,q hb,)
 |false=>calc eU (e,(~~~0),λn=>((by show 1≤AY;decide),i hb,),)
def JQ(F:Fun K "read_domain" "read_domain" Y78 f fd)(bl:Bl K mg Y)(c:bu CX0 P w K mg base 3 "Words" Y.s ["self","words"] (cA K Y))(B:⟨⟩ 4 "read_numbers" ["text"] (ie K Y)):() 5 f fd ["text"] (iX K Y):=by
 refine F.okA Z78 λa0 A o s H vs Q E r h=>?_
 let(z,d,rfl,G,t,q):=h
 refine(_,(ao (aT (aJ sx aV (pv 0) (by with_unfolding_all rfl))
  (ag<|aE<|aQ B r U<|aa (pv 0) ae)
  aG)
  (ag<|aE<|mQ c bR r U<|aa (bx PySem.F.plainAttrs_str PySem.F.slot_str_split PySem.F.type_str_split lC (pv 0)<|aa aV ae) ae)),?_,)
 dsimp only[bj,OY,OW];show(let C:TS:=_;aZ _ C _ _ _);intro _;cases d with
 |inl p =>
  let(hi,a,b,n,m,O,N,M,L,rfl):=t;calc(_,_,U,U,_,U,bK (λ_=>?_)<|λg=>MW hi g,);exact(z,a,b,U,G,n,m,O,N,M,L,λx X y i J=>q x X y i J,)
 |inr j =>
  let(hi,n,m):=t;calc(_,_,U,U,_,U,bK (λg=>MW (g.symm.trans hi) ⋯)<|λ_=>?_,);calc(U,z,mk2,U,U,⋯,iu ∅,λl I x v i e Z=>?_,);rw[n]at i e⊢;let u:upd H l (.lst<|j.map OT) l=MO (.lst<|j.map OT):=af;let k:=ah I<|.lst<|j.map OT;generalize upd H l (.lst<|j.map OT)=H1 at u k i e⊢;calc(x,v,l,j,U,af,BD i e u,m,λW D T S R f4=>(U,?_,),);calc q x W (k.trans<|oz i e T) (k.free i) (v,D,S,R,)
def JR(F:Fun K "read_value" "read_value" Y83 f fd)(bl:Bl K mg Y)(y:ba (CX1 P w) P w K mg base 4 Y.r "code" ["self","value"] (dW K Y))(x:ba (CX1 P w) P w K mg base 4 Y.s "code" ["self","value"] (fk K Y))(C:bM P w K mg base 4 "number_of" ["text"] (gn K Y)):aU P w K mg base (CX1 P w) 5 f fd ["domain","text"] (gN K Y):=by
 refine F.okEA Z83 λJ A m s H M Q E g h=>?_
 let(d,z,rfl,e,i):=h
 refine(_,(ao (aT (bG<|av b9 U bl.isinstance_ im<|aa (pv 0)<|aa (fu (v:=.ref Y.s) U bl.Words_ U) ae)
  (ag<|aE<|AN x jH bl.k_Words g (pv 0)<|aa (pv 1) ae)
  aG)
  (ag<|aE<|AN y jH bl.k_Numbers g (pv 0)<|aa (eV C jH g U<|aa (pv 1) ae) ae)),?_,)
 dsimp only[bj,OY,OW];show(let t:TS:=_;aZ _ t _ _ _);intro _;let I:=e.len;rcases i with⟨lo,hi,o,k,q,c,u⟩|⟨p,n,q,c⟩
 .let(G,b):=id o;calc(_,_,_,_,MR,U,.ref _,bl.t_Numbers.ty b,bl.f_nw,_,U,bI ?_,);exact(d,_,_,U,b,U,z,U,e,λa=>(d,lo,hi,.int<|di z,U,o,.int<|k a,q a,c a,),u,)
 .let(G,l,b,N):=id n;calc(_,_,_,_,MQ,U,.ref _,bl.t_Words.ty b,bl.f_ww,_,U,eU ?_,);calc(d,_,_,U,b,U,d,p,.str z,U,n,.str ∅ e.low,(λL j D B=>by cases D;exact q j B),c,)
def G6(F:Fun K "refuse_way" "refuse_way" Y96 f fd)(bl:Bl K mg Y)(r:⟨⟩ 4 "way_by" ["name"] (pk K Y)):() 5 f fd ["way","outcome"] (gO K Y):=by
 refine F.okA Z96 λt A g s H u Q E o h=>?_
 let(z,y,rfl,k,d,q):=h
 refine(_,(ag (aT (PW.pt<|jT (aJ cU (aP (aQ r o U<|aa (pv 0) ae) U) aV<|aO _)<|iw<|bG<|av b9 U bl.isinstance_ im<|aa (pv 1)<|aa (fu (v:=.ref Y.s) U bl.Words_ U) ae)
  (ag bo)
  aG)),?_,)
 calc(z,U,k,λi B x C I b a m=>?_,);let j:Cls K C∧NoAttr K C s!"called":=by
  match i,a with
  |0,a=>cases a;exact(bl.k_First,bl.na_First_called,)
  |1,a=>cases a;exact(bl.k_Only,bl.na_Only_called,)
  |2,a=>cases a;exact(bl.k_Like,bl.na_Like_called,)
  |3,a=>cases a;exact(bl.k_Low,bl.na_Low_called,)
  |4,a=>cases a;exact(bl.k_High,bl.na_High_called,)
  |5,a=>cases a;exact(bl.k_Sum,bl.na_Sum_called,)
  |n+6,a=>simp[cl6]at a
 let(G,l):=m;calc(x,_,_,_,_,U,l,j.1,j.2,U,U,_,U,?_,);by_cases c:z=s!"sum"
 .let(D,fs,p):=d c;exact sY (by rw[c]) (_,_,_,_,MR,U,.ref _,bl.t_Numbers.ty<|b _ _ p,bl.f_nw,_,U,bI<|q _ b,)
 .exact jb (λe=>by injection e with e;exact c e) (bI<|q _ b)
def G7(F:Fun K "row_text" "row_text" Y99 f fd)(bl:Bl K mg Y)(C:⟨⟩ 4 "show_value" ["domain","code"] (jw K Y))(G:⟨⟩ 4 "fields_text" ["domains","cells"] (iW K Y)):() 5 f fd ["table","k"] (lM K Y):=by
 refine F.okA Z99 λa3 A o s H vs Q E y h=>?_
 let(t,J,j,nm,wy,zs,X,a1,w,x,p,rfl,(D,dx,na,Z,fs,xs,b,T,f2,f3,S,f5,R,a2,n,m,L,kS),V,k,M,ok,d,c,g,z,v,q):=h
 refine(_,(aw (aL (i:=2) Z99.nd U (bv U)<|az aW (aP (pv 0) U) (pv 1)<|λ_ _=>U)
  (ag<|aE<|aH aN (aH aN (aH aN (bA U bl.WHEN_)<|aQ G y U<|aa (aP (pv 0) U)<|aa (az aM (pv 2) ai<|λ_ _=>U) ae)<|bA U bl.TO_)<|aQ C y U<|aa (aP (pv 0) U)<|aa (az aM (pv 2) ai<|λ_ _=>U) ae)),?_,)
 dsimp only[bj,OY,OW];show(let I:TS:=_;a9 _ I _ _ _);intro _;let(r,W,ce,cv,B,_,O,N):=L.2 j w V;let u:=xy z v;let u:⇑(io s!" | " (lc bh x w.1))≤7254:=u;let lv:=vI ok d c;calc(let I_:St→Hp→Prop:=λe H'=>H'=H∧e=[↑t,MO<|.int (j:Int),↑r];(I_,(t,_,_,_,_,U,b,bl.k_Table,bl.na_Table_rows,T,D,_,_,_,U,U,OU m,aS W,U,U,),?_,));rintro a0 H1 ⟨rfl,rfl⟩;calc(t,_,_,_,_,U,b,bl.k_Table,bl.na_Table_domains,R,r,_,_,_,U,U,OV B,U,Z,ce,X,cv,x,w.1,U,n,k,O,N,g,z,v,λH2 a=>?_,);let l:=M.same a;let:=q H2 a;unfold o7 at this;calc(_,_,U,U,fX (by rw[m8];lia),_,_,U,U,fX (by rw[aK,m8,m7];lia),t,_,_,_,_,U,a _ _ b,bl.k_Table,bl.na_Table_outcome,S,r,_,_,_,U,U,OV<|a _ _ B,U,J,w.2,_,U,xw l d c<|ok.bd _ d c,_,_,U,U,fX (by rw[aK,aK,m8,m7];lia),this,)
def JS(F:Fun K "_law_made" "_law_made" Y59 f fd)(bl:Bl K mg Y)(a:bu CX0 P w K mg base 3 "Numbers" Y.r ["self","low","high"] (bO K Y))(d:bu CX0 P w K mg base 3 "Words" Y.s ["self","words"] (cA K Y)):() 5 f fd ["domain"] (je K Y):=by
 refine F.okA Z59 λZ A y s H vs Q E C h=>?_
 let(r,p,rfl,(B,_,_,t,m),ok,q):=h
 refine(_,(ao (aT (aJ gP (av au U bl.len_ MN<|aa (az aM (pv 0) ai<|λ_ _=>U) ae) ai<|aO _)
  (ag<|aE<|mQ d bR C U<|aa (bg fA U bl.list_ wn<|aa (az aM (pv 0) ai<|λ_ _=>U) ae) ae)
  aG)
  (ag<|aE<|mQ a bR C U<|aa (az aM (pv 0) ai<|λ_ _=>U)<|aa (az aM (pv 0) ai<|λ_ _=>U) ae)),?_,)
 dsimp only[bj,OY,OW];show(let I:TS:=_;aZ _ I _ _ _);intro _;let v:⇑(p.ws.map OT)=⇑p.ws:=bQ _;calc(r,_,_,_,U,U,OV t,U,B,_,U,.inl<|OU m,_,_,U,U,_,U,?_,);refine bK (λg=>?_)<|λg=>?_
 .let j:p.ws≠[]:=λz=>by
   let:=MZ g;rw[z]at this;exact MW this ⋯
  let(D,W,T):=ok.wd j;calc(r,_,_,_,U,U,OV t,U,B,_,U,.inl<|OU m,λc S=>?_,);let n:=ah S<|.lst<|p.ws.map OT;let G:upd H c (.lst<|p.ws.map OT) c=MO (.lst<|p.ws.map OT):=af;generalize upd H c (.lst<|p.ws.map OT)=H1 at n G⊢;intro x i l k KA;let u:aq H1 (upd (upd H1 i<|.own x) x<|.ins Y.s i []):=(ah k _).upd l;calc(x,i,c,p.ws,U,af,u _ _ G,D,λX J O N M L=>(U,q x X (λb o e=>O b o (bF (n _ _ e) l)<|u _ _<|n _ _ e) ?_,),);rw[PD.k_some j];exact((i,J,n.free<|u.free L,N,M,),W,T,D,)
 .let R:p.ws=[]:=by
   let:¬ ((0:Int)<((⇑(p.ws.map OT):Nat):Int)):=λh=>g<|MX h
   rw[v]at this;exact hE.mp ∅
  refine(r,_,_,_,U,U,OV t,U,r,_,_,_,U,U,OV t,U,λx i l k j=>(x,i,p.lo,p.hi,U,af,ok.le,U,q x _ ?_ ?_,),)
  .unfold mkd;exact(((ah k _).upd l).upd l).upd l
  .rw[PD.k_none R];calc(i,af,)
def JT(F:Fun K "code_in_cell" "code_in_cell" Y39 f fd)(bl:Bl K mg Y)(t:bM P w K mg base 5 "read_value" ["domain","text"] (gN K Y)):aU P w K mg base (CX1 P w) 6 f fd ["domain","text"] (fR K Y):=by
 refine F.okEA Z39 λy A l s H B Q E u h=>?_
 let(a,d,z,rfl,o,e,q,i):=h;calc(_,(ag<|Cy t u U U U U (aa (pv 0)<|aa (pv 1) ae) U bl.BadNumber_ U bl.Outside_ bl.x_BadCell U bl.BadCell_<|λ_ _=>(aa (vw<|pv 1) ae)),?_,);let x:=e.len;calc(a,z,U,e,?_,);cases d with
 |inl p =>
  refine .inl (p.1,p.2,o,C6,λc k=>q _<|uq c k,λc k=>(U,_,U,bl.f_x2,λtp b=>?_,),λc=>(U,_,U,bl.f_x1,λtp b=>?_,),)
  .exact⟨z,U,∅,e.low,(~~~0),λn=>⟨(by show 1≤AY;decide),λm=>i (q8 λg=>by rw[k]at g;cases g.2) _ m (ah b _)⟩⟩
  .exact⟨z,U,∅,e.low,(~~~0),λn=>⟨(by show 1≤AY;decide),λm=>i (q8 λg=>by rw[c]at g;cases g.1) _ m (ah b _)⟩⟩
 |inr r =>
  refine .inr (r,o,λj v=>q _ ?_,λc=>(U,_,U,bl.f_x2,λtp b=>?_,),)
  .rw[oA,gE v];rfl
  .refine(z,U,∅,e.low,(~~~0),λn=>((by show 1≤AY;decide),λm=>i ?_ _ m<|ah b _,),);rw[oA,pe (of_decide_eq_false c)];rfl
def JU(F:Fun K "codes_of" "codes_of" Y40 f fd)(bl:Bl K mg Y)(kD:bM P w K mg base 5 "read_value" ["domain","text"] (gN K Y)):() 6 f fd ["draft","outcome"] (lN K Y):=by
 refine F.okA Z40 λa0 A O s H vs Q E hr h=>?_
 let(x,ou,d,k,Z,rfl,(rl,C,(dx,cl,g1,g2),X,W),T,kS,M,hc,q):=h;refine(_,(ag<|aE<|d7 (aR<|aP (pv 0) U) (eW (N:=["fields","value","outcome"]) (k:=2) (fr:=[1]) (cl:=[("outcome",↥s+1)]) U U (~~~0) (~~~0) U U (eN.mpr (U,fW _,)) U) U (λ_ _ _ _=>(jF (K:=K) (n:=2) U U<|aI (aC (i:=0) (show(["fields","value","outcome"]:M3 Str).Nodup by decide+kernel) U (bv U) (pc U)) (aI (aC (i:=1) (show(["fields","value","outcome"]:M3 Str).Nodup by decide+kernel) U (bv U) (pc U)) br))) (λ_ _ _ _=>aX) (λ_ _ _ _=>(eV kD pK hr U<|aa (pv 2)<|aa (pv 1) ae))),?_,);let L:=W.1;refine(x,_,_,_,_,U,g1,bl.k_Draft,bl.na_Draft_rows,U,rl,U,(_,OU X,),(let I_:AE→Nat→M3 V→Hp→Prop:=λD i b a=>aq H a∧a D=MO (.lst b)∧b=(Z.take i).map pi;b8 (xs:=C) I_ (λD m=>(ah m _,af,U,)) (λD i b a m _ h=>OU<|h.1 _ _ X) (λD i y b a m e h o J=>?_) (λD b a m h=>?_)),)
 .let(g,z,rfl):=h;let(t,r,rfl,ek,l,h2,h3):=ak.get W e;let(c,ec,o1,o2,R):=hc i r ek;let hi:i<C.length:=(KH.mp e).1;let(v,u,rfl):∃v u,o=[v,u]:=by
   match o,J with
   | [v,u],_=>exact(v,u,U,)
  calc(t,_,U,OV<|g _ _ h2,U,_,_,U,_,_,U,U,([↑l,MO (.str r.2)],U,U,),?_,);let fin:b7 (λD i b a=>aq H a∧a D=MO (.lst b)∧b=(Z.take i).map pi) D i C.length (.int c) a:=b7.mk hi z (aD (by rw[bQ,eH];lia)) (g.upd m,af,by rw[take_snoc ec,dy];rfl,);calc(ou,r.2,U,o1,?_,);cases k with
  |inl p =>
   let(I,G,n3,S):=Dg R;refine .inl ⟨p.1,p.2,jn.same (d:=.inl p) T g,λ_=>by rw[S];exact o2,λ_ _=>by rw[S];exact fin,λ_ h=>?_,λh=>by rw[I]at h;cases h⟩;rw[show inB p.1 p.2 (.int<|di r.2)=MQ by simp[inB,G,n3]]at h;cases h
  |inr B =>
   let(I,G):=BO R;refine .inr (B,jn.same (d:=.inr B) T g,λj hj=>by rw[G j hj];exact fin,λh=>?_,);rw[show inW B (.str r.2)=MQ by simp[inW,I]]at h;cases h
 .let(g,z,rfl):=h;rw[L,←M,dY]at z;calc q D a g m z
def G8(F:Fun K "show_book" "show_book" EN f fd)(bl:Bl K mg Y)(cY:ba CX0 P w K mg base 5 Y.r "written" ["self"] (bU K Y))(eJ:ba CX0 P w K mg base 5 Y.s "written" ["self"] (cI K Y))(wb:⟨⟩ 5 "head_text" ["table"] (kj K Y))(xQ:⟨⟩ 5 "row_text" ["table","k"] (lM K Y)):() 6 f fd ["book"] (kq K Y):=by
 refine F.okA EO λd4 A c5 s H vs Q E hr h=>?_
 let(x,a,G,rfl,hB,ok,hl,q):=h
 refine(_,(aw (qL (i:=1) EO.nd U (bv U) (aR<|aP (pv 0) U) (cH (N:=["name","domain"]) (k:=2) U U (~~~0) (~~~0)<|~~~0) U (λ_ _ _ _=>(jF (K:=K) (n:=2) U U<|aI (aC (i:=0) (show(["name","domain"]:M3 Str).Nodup by decide+kernel) U (bv U) (pc U)) (aI (aC (i:=1) (show(["name","domain"]:M3 Str).Nodup by decide+kernel) U (bv U) (pc U)) br))) (λ_ _ _ _=>aX) (λ_ _ _ _=>(aH aN (aH aN (aH aN (bA U bl.FACT_)<|pv 0) aV)<|n6 (mw cY bl.k_Numbers<|mw eJ bl.k_Words vC) bR hr<|pv 1)))
  (aw (bB tz U (aR<|aP (pv 0) U) (aC (i:=2) EO.nd U<|pc U)
  (aw (aY<|bx PySem.F.plainAttrs_list PySem.F.slot_list_append PySem.F.type_list_append bW (pv 1)<|aa (aQ wb hr U<|aa (pv 2) ae) ae)
  (ag<|aY<|bx PySem.F.plainAttrs_list PySem.F.slot_list_extend PySem.F.type_list_extend oR (pv 1)<|aa (bZ (b6 U bl.range_<|aa (av au U bl.len_ MN<|aa (aP (pv 2) U) ae) ae) (bc (N:=["k","table"]) (fr:=[2]) (cl:=[("table",↥s+1)]) U U (~~~0) (~~~0) U (~~~0) U U U (eN.mpr (U,fW _,)) U) U (λ_ _ _ _=>aX)<|λ_ _ _ _=>(aQ xQ hr U<|aa (pv 1)<|aa (pv 0) ae)) ae)))
  (ag<|aE<|bx PySem.F.plainAttrs_str PySem.F.slot_str_join PySem.F.type_str_join eO aV<|aa (pv 1) ae))),?_,)
 dsimp only[bj,OY,OW];show(let r2:TS:=_;let r1:TS:=a9 _ r2;a9 _ r1 _ _ _);intro _ _;let(dx,bf,bt,fc,tv,fw,h1,h2,h3,h4,h5,h6,h7):=hB;let d1:=ok.f20;let d0:=ok.b30;let b4:⇑fw=⇑a:=h6.1;let b0:⇑tv=G.length:=h7.1;refine(let v:St→Hp→Prop:=λC c=>aq H c∧∃l:AE,A3 (H l=MP) (c l=MO (.lst<|(a.map eQ).map OT)) (C=[↑x,↑l,MP]);(v,(x,_,_,_,_,U,h1,bl.k_Book,bl.na_Book_facts,h3,fc,U,(_,OU h5,),(let v:AE→Nat→M3 V→Hp→Prop:=λD i I c=>aq H c∧c D=MO (.lst I)∧I=((a.take i).map eQ).map OT;b8 (xs:=fw) v (λD m=>(ah m _,af,U,)) (λD i I c m _ h=>OU<|h.1 _ _ h5) (λD i y I c m e h a2 a8=>?_) (λD I c m h=>?_)),),?_,))
 .let(g,J,rfl):=h;let(r,f,rfl,ef,d,g1,O):=ak.get h6 e;let hi:i<⇑fw:=(KH.mp e).1;let(t0,t1,rfl):∃t0 t1,a2=[t0,t1]:=by
   match a2,a8 with
   | [t0,t1],_=>exact(t0,t1,U,)
  let fm:=KJ ef;let L:=ok.dk f<|fE _ fm;let ln:=df<|ok.nm.w f fm;let lw:=uy L;let fin:∀n,n≤12→n+600≤100000:=λn h=>∅
  let O:=O.same g;let(nm,k):=f;let hy:((a.take i).map eQ).map OT++[.str (eQ (nm,k))]=((a.take<|i+1).map eQ).map OT:=by rw[take_snoc ef,dy,dy];rfl
  let lf:⇑(((a.take i).map eQ).map OT)<1000:=by rw[bQ,bQ,eH];lia
  let ln:⇑nm≤12:=ln;let lw:⇑(dh k)≤600:=lw;calc(r,_,U,OV<|g _ _ g1,U,_,_,U,_,_,U,U,([MO (.str nm),↑d],U,U,),?_,);refine(_,_,U,U,fX (by rw[kb];lia),_,_,U,U,fX (by rw[aK,kb,zQ];lia),?_,);let(w,lo,a4):=k;cases w with
  |none =>
   let(X,ha):=id O;exact(d,_,X,_,U,.head _,ha,U,d,lo,a4,U,O,L.b1,L.b2,_,_,U,U,fX (by rw[aK,aK,kb,zQ];lia),b7.mk hi J (aD<|rM lf) (g.upd m,af,hy,),)
  |some zs =>
   let(hW,_):=id O;let(X,wl,ha,c9):=id hW;exact(d,_,X,_,U,.tail _<|.head _,ha,U,d,zs,(lo,a4),U,hW,(L.wd zs U).1,_,_,U,U,fX (by rw[aK,aK,kb,zQ];lia),b7.mk hi J (aD<|rM lf) (g.upd m,af,hy,),)
 .let(g,J,rfl):=h;rw[b4,dY]at J;exact(g,D,m,J,U,)
 rintro c8 H1 ⟨s1,l,fl,u,rfl⟩;refine(let v:St→Hp→Prop:=λC c=>aq H c∧∃R:Option V,c l=MO (.lst<|(dt a G).map OT)∧C=[↑x,↑l,R];(v,(x,_,_,_,_,U,s1 _ _ h1,bl.k_Book,bl.na_Book_tables,h2,bt,U,(_,OU<|s1 _ _ h4,),(let v:Nat→St→Hp→Prop:=λi σ c=>aq H c∧∃R:Option V,c l=MO (.lst<|(dt a<|G.take i).map OT)∧σ=[↑x,↑l,R];bp (xs:=tv) v (s1,_,?_,U,) (λi σ c _ h=>OU<|h.1 _ _ h4) (λi y σ c e h=>?_) (λσ c h=>?_)),),?_,))
 .rw[u];show _=MO (HO.lst<|(a.map eQ++[]).map OT);rw[hY]
 .let(g,R,u,rfl):=h;let(t,b,rfl,eb,hT):=ak.get h7 e;let bm:=KJ eb;let B:=ok.bt b bm;let(p,Z,a3):=(ok.dk _<|BOk.own bm).pd;let Z:p.k=b.o:=Z;let a7:=df<|ok.wd b.nm<|fq _<|ck.mpr (b,bm,U,);let hr:=B.r200;let hL:⇑(dt a<|G.take i)≤1407:=qu Dq hl;let(ou,dv,hF,b3,T):=hT;rw[←Z]at T;refine(let v:St→Hp→Prop:=λC a6=>aq H a6∧a6 l=MO (.lst<|(dt a (G.take i)++[ir b.nm b.cs b.o b.way]).map OT)∧C=[↑x,↑l,↑t];(v,(.inl (U,_,OU u,),t,ou,b.nm,b.way,b.cs,dv,b.rws,p,U,hF.same g,T.same g,a3,a7,DO B.way,(λz hz=>df<|ok.wd z<|ok.cin bm hz),B.c4,l,_,_,U,U,u,vV (by rw[bQ];lia),g.upd fl,?_,U,),?_,))
  .rw[af,Z,dy];rfl
  clear u g;rintro c7 H2 ⟨s2,u,rfl⟩;let a5:=hF.same s2;let(rl,d3,na,dl,fs,xs,g1,O,g3,g4,g5,g6,g7,g8,g9,c1,c0,d2):=id a5;let S:⇑xs=⇑b.rws:=c0.1;refine(.inl (U,_,OU u,),t,_,_,_,_,U,g1,bl.k_Table,bl.na_Table_rows,O,rl,_,U,.inl<|OU c1,_,U,∅,∅,(let v:AE→Nat→M3 V→Hp→Prop:=λD i I c=>aq H2 c∧c D=MO (.lst I)∧I=((b.rws.take i).map λw=>o7 b.ks w b.o).map OT;cK v (λD m=>(ah m _,af,U,)) (λD j I c m hj h=>?_) (λD I c m h=>?_)),)
  .let(M,J,rfl):=h;rw[vr,S]at hj;let ew:=KG hj;generalize b.rws[j]=w at ew;let W:=ok.wok bm<|KJ ew;let w4:=W.k4;let wl:=W.len;let a0:=W.lo;let a1:=W.hi;rw[←Z]at a0 a1;refine(t,ou,j,b.nm,b.way,b.cs,dv,b.rws,w,b.ks,p,by rw[v5],a5.same M,ew,ak.mono b3<|λ_ _ p=>p.same<|s2.trans M,T.same<|s2.trans M,a3,a0,a1,wl.symm,∅,λj k ps e1 e2=>(W.cel j k ps e1 e2).1,λH7 s7=>b7.mk (by rw[vr,S];exact hj) (s7 _ _ J) (aD (by rw[bQ,bQ,eH];lia)) ((M.trans s7).upd m,af,?_,),);rw[take_snoc ew,dy,dy,Z];rfl
  .let(M,J,rfl):=h;rw[vr,S,dY]at J;refine(l,D,_,_,U,U,M _ _ u,J,rM<|vV (by simp only[dV,bQ,hQ];lia),(s2.trans M).upd fl,_,?_,U,);rw[af,take_snoc eb,zT]
   congr 2
   rw[dy,dy (l₂:=rz b),gB];rfl
 .let(g,R,u,rfl):=h;rw[b0,dY]at u;exact(g,R,u,U,)
 rintro c6 H3 ⟨s3,R,c3,rfl⟩;calc(U,_,l,_,U,U,OU c3,(~~~0),ok.sum (λz h=>h) hl,q H3 s3,)
def JV(F:Fun K "_law_facts" "_law_facts" Y55 f fd)(bl:Bl K mg Y)(jg:⟨⟩ 5 "_law_made" ["domain"] (je K Y)):() 6 f fd ["plan"] (kr K Y):=by
 refine F.okA Z55 λb3 A a4 s H vs Q E hr h=>?_
 let(r,c,C,ts,fN,rfl,a1,ok,q):=h
 refine(_,(aw (lp (pv 0)<|d8 U<|aI (aC (i:=1) Z55.nd U<|pc U)<|aI (aC (i:=2) Z55.nd U<|pc U)<|aI (aC (i:=3) Z55.nd U<|bv U) br)
  (ag<|aE<|bZ (b6 U bl.range_<|aa (aH fS (av au U bl.len_ MN<|aa (pv 1) ae)<|av au U bl.len_ MN<|aa (pv 3) ae) ae) (bc (N:=["k","names","domains"]) (fr:=[1,2]) (cl:=[("names",↥s+1),("domains",↥s+1+1)]) U U (~~~0) (~~~0) U (~~~0) U U U (eN.mpr (U,eN.mpr (U,fW _,),)) U) U (λ_ _ _ _=>aX)<|λ_ _ _ _=>(bH<|aa (az (d6 (K:=K) U) (pv 1) (pv 0)<|λ_ _=>U)<|aa (aQ jg hr U<|aa (az (d6 (K:=K) U) (pv 2) (pv 0)<|λ_ _=>U) ae) ae))),?_,)
 dsimp only[bj,OY,OW];show(let r1:TS:=_;a9 _ r1 _ _ _);intro _;let(J,dl,m,dv,tv,er,t,a3,a0,a2,X):=id a1;let a6:⇑(c.map OT)=⇑c:=bQ _;let b0:=ok.len;let a8:=ok.tab;let h7:=ok.n7;let a7:⇑tv=⇑ts:=X.1;calc(let M:St→Hp→Prop:=λR d=>d=H∧R=[↑r,↑J,↑dl,↑m];(M,(r,_,U,OV er,U,_,_,U,_,_,U,_,_,U,U,U,U,),?_,));rintro a5 O ⟨rfl,rfl⟩;let k:((⇑(c.map OT):Nat):Int)-((⇑tv:Nat):Int)=(fN:Int):=∅
 refine(J,_,U,.inl<|OU t,m,_,U,.inl<|OU a2,_,_,U,U,_,U,(by rw[k];lia),(by rw[k];lia),(let M:AE→Nat→M3 V→Hp→Prop:=λD i g d=>aq O d∧d D=MO (.lst g)∧ak g (gl i) (FcN (Fr O D) Y.r Y.s d c C);cK M (λD v=>(ah v _,af,ak.nil,)) (λD i g d v hi h=>?_) (λD g d v h=>?_)),)
 .let(e,B,j):=h;rw[k,vr]at hi;let L:=KG (l:=c) (i:=i) ∅;let y:=KG (l:=C) (i:=i) ∅;let(da,e2,o):=a0.2 i _ y;let n:=ok.doms _<|KJ y;generalize C[i]=p at y o n;generalize c[i]=nm at L;let T:atI (c.map OT) (0+(i:Int))=MO (.str nm):=by rw[v5];exact aS<|fL L
  let S:atI dv (0+(i:Int))=↑da:=by rw[v5];exact aS e2
  calc(J,_,_,_,U,U,OU<|e _ _ t,T,dl,_,_,_,U,U,OU<|e _ _ a3,S,da,p,U,o.same e,n,λx H6 s6 hx=>(eX,λb Z=>?_,),);let G:=ah Z<|.tup [.str nm,.ref x];let eT:upd H6 b (.tup [.str nm,.ref x]) b=MO (.tup [.str nm,.ref x]):=af;generalize upd H6 b (.tup [.str nm,.ref x])=H7 at G eT⊢;let I:=s6.trans G;let u:=I _ _ B;let W:ak (g++[.ref b]) (gl i++[i]) (FcN (Fr O D) Y.r Y.s H7 c C):=ak.snoc (ak.mono j λ_ _ p=>p.same I) ⟨nm,p,x,L,y,eT,(hx.wk λa h=>⟨e.free h,λz=>by rw[z,B]at h;cases h⟩).same G⟩;refine b7.mk (by rw[k,vr];exact hi) u (aD (by rw[j.1,jf];lia)) ((e.trans I).upd v,af,?_,);rw[jA];exact ak.mono W λ_ _ p=>p.upd Fr.out u
 .let(e,B,j):=h;rw[k,vr]at j;calc q D g d e B<|ak.mono j λ_ _ p=>p.fc
def JW(F:Fun K "__init__" "Table.__init__" Y23 f fd)(bl:Bl K mg Y)(kW:⟨⟩ 5 "refuse_names_tables" ["names"] (dU K Y))(kE:⟨⟩ 5 "refuse_counts_tables" ["names","rows"] (dD K Y))(kF:⟨⟩ 5 "refuse_way" ["way","outcome"] (gO K Y))(uN:⟨⟩ 5 "refuse_row" ["domains","outcome","cells","code"] (jv K Y))(zV:⟨⟩ 5 "own_row" ["cells","code"] (nh K Y)):() 6 f fd ["self","name","names","domains","outcome","way","rows"] (cC K Y):=by
 refine F.okA Z23 λe3 A d2 s H vs Q E hr h=>?_
 let(x,d,na,dl,l,rl,nm,B,j,L,rx,bs,o,a1,rfl,hx,W,hw,c3,h1,h4,b4,c0,a0,c6,c2,R,hR,kS,e0,a4,q):=h
 refine(_,(ao (aY<|aQ kW hr U<|aa (aH qv (bP<|aa (pv 1) ae)<|pv 2) ae)
  (ao (aY<|aQ kE hr U<|aa (pv 2)<|aa (pv 6) ae)
  (ao (aY<|aQ kF hr U<|aa (pv 5)<|aa (pv 4) ae)
  (aw (bB tz U (aR<|pv 6) (d8 U<|aI (aC (i:=7) Z23.nd U<|bv U)<|aI (aC (i:=8) Z23.nd U<|bv U) br)
  (ag<|aY<|aQ uN hr U<|aa (pv 3)<|aa (pv 4)<|aa (pv 7)<|aa (pv 8) ae))
  (ao (cG (pv 0) (pv 1) U)
  (ao (cG (pv 0) (bg fA U bl.list_ wn<|aa (pv 2) ae) U)
  (ao (cG (pv 0) (bg fA U bl.list_ wn<|aa (pv 3) ae) U)
  (ao (cG (pv 0) (pv 4) U)
  (ao (cG (pv 0) (pv 5) U)
  (ag<|cG (pv 0) (d7 (aR<|pv 6) (cH (N:=["cells","code"]) (k:=2) U U (~~~0) (~~~0)<|~~~0) U (λ_ _ _ _=>(jF (K:=K) (n:=2) U U<|aI (aC (i:=0) (show(["cells","code"]:M3 Str).Nodup by decide+kernel) U (bv U) (pc U)) (aI (aC (i:=1) (show(["cells","code"]:M3 Str).Nodup by decide+kernel) U (bv U) (pc U)) br))) (λ_ _ _ _=>aX) (λ_ _ _ _=>(aQ zV hr U<|aa (pv 0)<|aa (pv 1) ae))) U)))))))))),?_,)
 dsimp only[bj,OY,OW];show(let r9:TS:=_;let r8:TS:=aZ _ r9;let r7:TS:=aZ _ r8;let r6:TS:=aZ _ r7;let r5:TS:=aZ _ r6;let r4:TS:=aZ _ r5;let r3:TS:=a9 _ r4;let r2:TS:=aZ _ r3;let r1:TS:=aZ _ r2;aZ _ r1 _ _ _);intro _ _ _ _ _ _ _ _ _;let Z:⇑(j.map OT)=⇑j:=bQ _;refine((by show 1≤AY;decide),λl1 c5=>?_,);let s1:=ah c5<|.lst [.str nm];let e1:upd H l1 (.lst [.str nm]) l1=MO (.lst [.str nm]):=af;generalize upd H l1 (.lst [.str nm])=H1 at s1 e1⊢;refine(l1,na,_,_,U,U,e1,s1 _ _ W,(by rw[Z];show 1+⇑j≤AY;exact big ∅),λl2 c4=>?_,);let s2:=s1.trans<|ah c4<|.lst<|[OT nm]++j.map OT;let e2:upd H1 l2 (.lst<|[OT nm]++j.map OT) l2=MO (.lst<|(nm :: j).map OT):=af;generalize upd H1 l2 (.lst<|[OT nm]++j.map OT)=H2 at s2 e2⊢;refine(l2,nm :: j,U,OU e2,hw,c3,by rw[gv];lia,λH3 t3=>?_,);let s3:=s2.trans t3;refine(na,rl,_,_,U,OU<|s3 _ _ W,OU<|s3 _ _ R,by rw[Z];exact h1,by rw[Z];exact h4,kS,?_,);calc(B,l,U,b4,(λz=>let ⟨dx',fs',e'⟩:=c0 z;(dx',fs',s3 _ _ e',)),λH4 t4=>?_,);let s4:=s3.trans t4;refine(let I_:St→Hp→Prop:=λa7 v=>aq H v∧E2 λc7 c8:Option V=>a7=[↑x,MO<|.str nm,↑na,↑dl,↑l,MO<|.str B,↑rl,c7,c8];(I_,?_,?_,))
 .refine(rl,U,(_,OU<|s4 _ _ R,),(let I_:Nat→St→Hp→Prop:=λi σ v=>aq H v∧E2 λc7 c8:Option V=>σ=[↑x,MO<|.str nm,↑na,↑dl,↑l,MO<|.str B,↑rl,c7,c8];bp (xs:=rx) I_ (s4,_,_,U,) (λi σ v _ h=>OU<|h.1 _ _ R) (λi y σ v e h=>?_) (λσ v h=>h)),);let(u,c7,c8,rfl):=h;let(r,w_,rfl,ew,ce,cv,g1,_,g2,g3):=ak.get (hR.same u) e;calc(r,_,U,OV g1,U,_,_,U,_,_,U,U,?_,);exact(dl,l,ce,L,cv,bs,o,w_,U,OU<|u _ _ a0,ak.mono c6 λ_ _ p=>p.same u,c2.same u,g2,g3,a4 w_<|KJ ew,λH2 t2=>(u.trans t2,_,_,U,),)
 rintro d3 M ⟨J,c7,c8,rfl⟩;let x5:=J _ _ hx;let b0:na≠x:=dM W hx (by intro z;cases z);let d0:dl≠x:=dM a0 hx (by intro z;cases z);let a8:rl≠x:=dM R hx (by intro z;cases z);let k5:∀b o,b≠x→H b=MO o→M b=MO o:=λb o _ e=>J b o e
 let R5:=RL.hide x5<|hR.same J;refine(x,_,d,_,U,x5,bl.k_Table,bl.na_Table_name,(by show 0<1000;decide),?_,);let k6:∀b o,b≠x→M b=MO o→upd M x (.ins Y.t d [(s!"name",.str nm)]) b=MO o:=λb o m e=>(ay m).trans e
 let x6:upd M x (.ins Y.t d [(s!"name",.str nm)]) x=MO (.ins Y.t d [(s!"name",.str nm)]):=af;let g6:upd M x (.ins Y.t d<|bX s!"name" (.str nm) [])=upd M x (.ins Y.t d [(s!"name",.str nm)]):=rfl;rw[g6];clear g6;generalize upd M x (.ins Y.t d [(s!"name",.str nm)])=H6 at k6 x6⊢;refine(na,_,U,.inl<|OU<|k6 _ _ b0<|J _ _ W,λc S=>(x,_,d,_,U,d9 x6 S,bl.k_Table,bl.na_Table_names,(by show 1<1000;decide),?_,),);let g7:upd (upd H6 c<|.lst<|j.map OT) x (.ins Y.t d<|bX s!"names" (O1 c) [(s!"name",OT nm)])=upd (upd H6 c<|.lst<|j.map OT) x (.ins Y.t d [(s!"name",OT nm),(s!"names",O1 c)]):=by rw[pf1]
 rw[g7];clear g7;let k7:∀b o,b≠x→M b=MO o→upd (upd H6 c<|.lst<|j.map OT) x (.ins Y.t d [(s!"name",OT nm),(s!"names",O1 c)]) b=MO o:=λb o m e=>(ay m).trans<|d9 (k6 b o m e) S
 let x7:upd (upd H6 c<|.lst<|j.map OT) x (.ins Y.t d [(s!"name",OT nm),(s!"names",O1 c)]) x=MO (.ins Y.t d [(s!"name",OT nm),(s!"names",O1 c)]):=af;let O:c≠x:=λz=>by rw[z,x6]at S;cases S
 let j7:upd (upd H6 c<|.lst<|j.map OT) x (.ins Y.t d [(s!"name",OT nm),(s!"names",O1 c)]) c=MO (.lst<|j.map OT):=(ay O).trans af;generalize upd (upd H6 c<|.lst<|j.map OT) x (.ins Y.t d [(s!"name",OT nm),(s!"names",O1 c)])=H7 at k7 x7 j7⊢;refine(dl,_,U,.inl<|OU<|k7 _ _ d0<|J _ _ a0,λg I=>(x,_,d,_,U,d9 x7 I,bl.k_Table,bl.na_Table_domains,(by show 2<1000;decide),?_,),);let g8:upd (upd H7 g<|.lst L) x (.ins Y.t d<|bX s!"domains" (O1 g) [(s!"name",OT nm),(s!"names",O1 c)])=upd (upd H7 g<|.lst L) x (.ins Y.t d [(s!"name",OT nm),(s!"names",O1 c),(s!"domains",O1 g)]):=by rw[pf2]
 rw[g8];clear g8;let k8:∀b o,b≠x→M b=MO o→upd (upd H7 g<|.lst L) x (.ins Y.t d [(s!"name",OT nm),(s!"names",O1 c),(s!"domains",O1 g)]) b=MO o:=λb o m e=>(ay m).trans<|d9 (k7 b o m e) I
 let x8:upd (upd H7 g<|.lst L) x (.ins Y.t d [(s!"name",OT nm),(s!"names",O1 c),(s!"domains",O1 g)]) x=MO (.ins Y.t d [(s!"name",OT nm),(s!"names",O1 c),(s!"domains",O1 g)]):=af;let T:g≠x:=λz=>by rw[z,x7]at I;cases I
 let j8:upd (upd H7 g<|.lst L) x (.ins Y.t d [(s!"name",OT nm),(s!"names",O1 c),(s!"domains",O1 g)]) c=MO (.lst<|j.map OT):=(ay O).trans<|d9 j7 I;let i8:upd (upd H7 g<|.lst L) x (.ins Y.t d [(s!"name",OT nm),(s!"names",O1 c),(s!"domains",O1 g)]) g=MO (.lst L):=(ay T).trans af;generalize upd (upd H7 g<|.lst L) x (.ins Y.t d [(s!"name",OT nm),(s!"names",O1 c),(s!"domains",O1 g)])=H8 at k8 x8 j8 i8⊢;refine(x,_,d,_,U,x8,bl.k_Table,bl.na_Table_outcome,(by show 3<1000;decide),?_,);let g9:upd H8 x (.ins Y.t d<|bX s!"outcome" (O1 l) [(s!"name",OT nm),(s!"names",O1 c),(s!"domains",O1 g)])=upd H8 x (.ins Y.t d [(s!"name",OT nm),(s!"names",O1 c),(s!"domains",O1 g),(s!"outcome",O1 l)]):=by rw[pf3]
 rw[g9];clear g9;let k9:∀b o,b≠x→M b=MO o→upd H8 x (.ins Y.t d [(s!"name",OT nm),(s!"names",O1 c),(s!"domains",O1 g),(s!"outcome",O1 l)]) b=MO o:=λb o m e=>(ay m).trans<|k8 b o m e
 let x9:upd H8 x (.ins Y.t d [(s!"name",OT nm),(s!"names",O1 c),(s!"domains",O1 g),(s!"outcome",O1 l)]) x=MO (.ins Y.t d [(s!"name",OT nm),(s!"names",O1 c),(s!"domains",O1 g),(s!"outcome",O1 l)]):=af;let j9:upd H8 x (.ins Y.t d [(s!"name",OT nm),(s!"names",O1 c),(s!"domains",O1 g),(s!"outcome",O1 l)]) c=MO (.lst<|j.map OT):=(ay O).trans j8;let i9:upd H8 x (.ins Y.t d [(s!"name",OT nm),(s!"names",O1 c),(s!"domains",O1 g),(s!"outcome",O1 l)]) g=MO (.lst L):=(ay T).trans i8;generalize upd H8 x (.ins Y.t d [(s!"name",OT nm),(s!"names",O1 c),(s!"domains",O1 g),(s!"outcome",O1 l)])=H9 at k9 x9 j9 i9⊢;refine(x,_,d,_,U,x9,bl.k_Table,bl.na_Table_way,(by show 4<1000;decide),?_,);let a5:upd H9 x (.ins Y.t d<|bX s!"way" (OT B) [(s!"name",OT nm),(s!"names",O1 c),(s!"domains",O1 g),(s!"outcome",O1 l)])=upd H9 x (.ins Y.t d [(s!"name",OT nm),(s!"names",O1 c),(s!"domains",O1 g),(s!"outcome",O1 l),(s!"way",OT B)]):=by rw[pf4]
 rw[a5];clear a5;let G:∀b o,b≠x→M b=MO o→upd H9 x (.ins Y.t d [(s!"name",OT nm),(s!"names",O1 c),(s!"domains",O1 g),(s!"outcome",O1 l),(s!"way",OT B)]) b=MO o:=λb o m e=>(ay m).trans<|k9 b o m e
 let C:upd H9 x (.ins Y.t d [(s!"name",OT nm),(s!"names",O1 c),(s!"domains",O1 g),(s!"outcome",O1 l),(s!"way",OT B)]) x=MO (.ins Y.t d [(s!"name",OT nm),(s!"names",O1 c),(s!"domains",O1 g),(s!"outcome",O1 l),(s!"way",OT B)]):=af;let a2:upd H9 x (.ins Y.t d [(s!"name",OT nm),(s!"names",O1 c),(s!"domains",O1 g),(s!"outcome",O1 l),(s!"way",OT B)]) c=MO (.lst<|j.map OT):=(ay O).trans j9;let a3:upd H9 x (.ins Y.t d [(s!"name",OT nm),(s!"names",O1 c),(s!"domains",O1 g),(s!"outcome",O1 l),(s!"way",OT B)]) g=MO (.lst L):=(ay T).trans i9;generalize upd H9 x (.ins Y.t d [(s!"name",OT nm),(s!"names",O1 c),(s!"domains",O1 g),(s!"outcome",O1 l),(s!"way",OT B)])=H10 at G C a2 a3⊢;let d1:RL NT H10 rx a1:=RL.same R5<|tu G;let DT:=G _ _ a8<|J _ _ R
 refine(rl,U,(_,OU DT,),(let I_:AE→Nat→M3 V→Hp→Prop:=λD i j v=>aq H10 v∧v D=MO (.lst j)∧RL (Fr H10 D) v j (a1.take i);b8 (xs:=rx) I_)
  (λD X=>(ah X _,af,ak.nil,)) (λD i j v X _ h=>OU<|h.1 _ _ DT) (λD i y j v X e h ts c1=>?_) (λD j v X h=>?_),)
 .let(u,eD,hz):=h;let(r,w_,rfl,ew,ce,cv,g1,_,g2,g3):=ak.get (d1.same u) e;let hi:i<⇑rx:=(KH.mp e).1;let(t0,t1,rfl):∃t0 t1,ts=[t0,t1]:=by
   match ts,c1 with
   | [t0,t1],_=>exact(t0,t1,U,)
  calc(r,_,U,OV g1,U,_,_,U,_,_,U,U,([↑ce,MO (.int w_.2)],U,U,),?_,);refine(ce,cv,w_,U,g2,g3,by rw[(a4 w_<|KJ ew).len];lia,λr2 H2 t2 d4 uI=>?_,);let a6:=t2 _ _ eD;let d5:⇑j≤200:=by
   let:=hz.1;rw[eH]at this;lia
  calc b7.mk hi a6 (aD ∅) ((u.trans t2).upd X,af,?_,);rw[take_snoc ew];exact RL.updN (ak.snoc (hz.same t2)<|uI.wk λa h=>⟨u.free h,λz=>by rw[z,eD]at h;cases h⟩) Fr.out a6
 .let(u,eD,hz):=h;rw[hR.1,dY]at hz;refine(x,_,d,_,U,u _ _ C,bl.k_Table,bl.na_Table_rows,(by show 5<1000;decide),?_,);let c9:upd v x (.ins Y.t d<|bX s!"rows" (O1 D) [(s!"name",OT nm),(s!"names",O1 c),(s!"domains",O1 g),(s!"outcome",O1 l),(s!"way",OT B)])=upd v x (.ins Y.t d [(s!"name",OT nm),(s!"names",O1 c),(s!"domains",O1 g),(s!"outcome",O1 l),(s!"way",OT B),(s!"rows",O1 D)]):=by rw[pf5]
  rw[c9];let b3:D≠x:=λz=>by rw[z,C]at X;cases X
  calc q _ _ D j (λb o m e=>(ay m).trans<|u _ _<|G b o m<|J _ _ e) af U U U U (c,g,J.free<|jK k6 x6 S,J.free<|jK k7 x7 I,U,U,(ay O).trans<|u _ _ a2,(ay T).trans<|u _ _ a3,) (J.free<|jK G C X) ((ay b3).trans eD) ?_;calc RL.same (RL.hideN (u _ _ C)<|ak.mono hz λ_ _ p=>p.wk λa h=>J.free<|jK G C h.1)<|tu λb o m e=>(ay m).trans e
def JX(F:Fun K "read_range" "read_range" Y81 f fd)(bl:Bl K mg Y)(N:bM P w K mg base 6 "code_in_cell" ["domain","text"] (fR K Y)):aU P w K mg base (CX1 P w) 7 f fd ["domain","part"] (jx K Y):=by
 refine F.okEA Z81 λa3 A G s H vs Q E j h=>?_
 let(a,p,z,rfl,B,y,hd,q,r):=h
 refine(_,(ao (aL (i:=2) Z81.nd U (bv U)<|bx PySem.F.plainAttrs_str PySem.F.slot_str_partition PySem.F.type_str_partition fB (pv 1)<|aa (bA U bl.UP_TO_) ae)
  (ao (aT (aJ cU (pv 1) (bA U bl.UP_TO_)<|aO _)
  (ag<|dc bl.x_BadCell j.hd U bl.BadCell_<|aa aV ae)
  aG)
  (aw (aL (i:=3) Z81.nd U (bv U)<|nI (fH (az aM (pv 2) ai<|λ_ _=>U) (by intro _;rfl)) (eV N jH j U<|aa (pv 0)<|aa (az aM (pv 2) ai<|λ_ _=>U) ae) (aP (pv 0) U))
  (aw (aL (i:=4) Z81.nd U (bv U)<|nI (fH (az aM (pv 2) ai<|λ_ _=>U) (by intro _;rfl)) (eV N jH j U<|aa (pv 0)<|aa (az aM (pv 2) ai<|λ_ _=>U) ae) (aP (pv 0) U))
  (ao (aT (aJ gP (pv 3) (pv 4)<|aO _)
  (ag<|dc bl.x_BadCell j.hd U bl.BadCell_<|aa (vw<|pv 1) ae)
  aG)
  (ag<|aE<|bH<|aa (pv 3)<|aa (pv 4) ae)))))),?_,)
 dsimp only[bj,OY,OW];show(let O:TS:=_;let R:TS:=aZ _ O;let S:TS:=a9 _ R;let T:TS:=a9 _ S;let V:TS:=aZ _ T;aZ _ V _ _ _);intro _ _ _ _ _;let(dx,M):=id B;let(L,J):=C7 y hd;let a2:=y.len;calc(U,z,bD,U,U,⋯,big ∅,λt X=>?_,);let v:upd H t (.tup [.str (db z bD).1,.str (db z bD).2.1,.str (db z bD).2.2]) t=MO (.tup [.str (db z bD).1,.str (db z bD).2.1,.str (db z bD).2.2]):=af;let d:=ah X<|.tup [.str (db z bD).1,.str (db z bD).2.1,.str (db z bD).2.2];generalize upd H t (.tup [.str (db z bD).1,.str (db z bD).2.1,.str (db z bD).2.2])=H1 at v d⊢;refine(U,_,U,bK (λg=>?_)<|λg=>?_,)
 .let e:z=bD:=by have:=MZ g;injection this
  exact((by show 1≤AY;decide),r (by unfold gg;rw[MV e]) _ _ d,)
 let ne:z≠bD:=λe=>g (by rw[e];exact MX U)
 refine(let C:St→Hp→Prop:=λl n=>aq H1 n∧∃c:Int,endOf p p.1 (db z bD).1=MO c∧l=[↑a,MO<|.str z,↑t,MO<|.int c,MP];(C,?_,?_,))
 .refine(t,_,_,_,U,U,OV v,U,_,(GH _ L,U,),?_,);rcases yI (db z bD).1 with e|e
  .rw[e];calc eU (t,_,_,_,U,U,OV v,U,a,.inl p,_,U,hU.same B d,L,λc k=>?_,λk n m x=>r (q9<|.inl<|(lG e).trans k) _ m<|d.trans x,);exact(aq.refl _,c,(lG e).trans k,U,)
  .rw[e];calc bI (a,_,_,_,_,U,d _ _ M,bl.k_Numbers,bl.na_Numbers_low,U,?_,);exact(aq.refl _,p.1,pf (by rw[e];decide),U,)
 rintro a1 H2 ⟨b,c,k,rfl⟩;let o:=b _ _ v;refine(let C:St→Hp→Prop:=λl n=>aq H2 n∧∃e:Int,endOf p p.2 (db z bD).2.2=MO e∧l=[↑a,MO<|.str z,↑t,MO<|.int c,MO (.int e)];(C,?_,?_,))
 .refine(t,_,_,_,U,U,OV o,U,_,(GH _ J,U,),?_,);rcases yI (db z bD).2.2 with e|e
  .rw[e];calc eU (t,_,_,_,U,U,OV o,U,a,.inl p,_,U,hU.same B<|d.trans b,J,λc k=>?_,λk n m x=>r (q9<|.inr<|(lG e).trans k) _ m<|(d.trans b).trans x,);exact(aq.refl _,c,(lG e).trans k,U,)
  .rw[e];calc bI (a,_,_,_,_,U,b _ _<|d _ _ M,bl.k_Numbers,bl.na_Numbers_high,U,?_,);exact(aq.refl _,p.2,pf (by rw[e];decide),U,)
 rintro a0 H3 ⟨D,e,Z,rfl⟩;let I:=(d.trans b).trans D;let j:=rg ne k Z;refine(_,_,U,U,_,U,bK (λg=>?_)<|λg=>?_,)
 .rw[MV (fZ g)]at j;exact(z,U,∅,y.low,(~~~0),λz2=>((by show 1≤AY;decide),r j _ _ I,),)
 .rw[MU (ip g)]at j;calc((by show 2≤AY;decide),λu W=>q _ j u _ (I.trans<|ah W _) af,)
def JY(F:Fun K "read_part" "read_part" Y80 f fd)(bl:Bl K mg Y)(C:bM P w K mg base 7 "code_in_cell" ["domain","text"] (fR K Y))(x:bM P w K mg base 7 "read_range" ["domain","part"] (jx K Y)):aU P w K mg base (CX1 P w) 8 f fd ["domain","part"] (ku K Y):=by
 refine F.okEA Z80 λG A r s H I Q E t h=>?_
 let(a,d,z,rfl,j,n,q,e):=h
 refine(_,(ao (aT (PW.pt<|jT (aJ sx (bA U bl.UP_TO_) (pv 1) (by with_unfolding_all rfl)) (iw<|cE<|bG<|av b9 U bl.isinstance_ im<|aa (pv 0)<|aa (fu (v:=.ref Y.s) U bl.Words_ U) ae))
  (ag<|aE<|eV x jH t U<|aa (pv 0)<|aa (pv 1) ae)
  aG)
  (ao (aL (i:=2) Z80.nd U (bv U)<|eV C jH t U<|aa (pv 0)<|aa (pv 1) ae)
  (ag<|aE<|bH<|aa (pv 2)<|aa (pv 2) ae))),?_,)
 dsimp only[bj,OY,OW];show(let y:TS:=_;let B:TS:=aZ _ y;aZ _ B _ _ _);intro _ _;cases d with
 |inl p =>
  let(D,o):=id j;refine(_,_,U,U,_,U,bK (λg=>?_)<|λg=>?_,)
  .let l:cV (.inl p) z=gg p z:=j6 g;rw[l]at q e;calc(_,_,_,_,MR,U,.ref _,bl.t_Numbers.ty o,bl.f_nw,_,U,eU ?_,);exact(a,p,z,U,j,n,g,q,e,)
  .let l:cV (.inl p) z=(codeOf (.inl p) z).map λc=>(c,c):=ph g
   rw[l]at q e;refine bI (a,.inl p,z,U,j,n,λc b=>?_,λb=>e (by rw[b];rfl),);exact((by show 2≤AY;decide),λu k=>q (c,c) (by rw[b];rfl) u _ (ah k _) af,)
 |inr m =>
  let(D,lw,o,J):=id j;let l:cV (.inr m) z=(codeOf (.inr m) z).map λc=>(c,c):=vM
  rw[l]at q e;refine(_,_,U,U,_,U,bK (λg=>?_)<|λg=>?_,)
  .refine(_,_,_,_,MQ,U,.ref _,bl.t_Words.ty o,bl.f_ww,_,U,bI ?_,);refine(a,.inr m,z,U,j,n,λc b=>?_,λb=>e (by rw[b];rfl),);exact((by show 2≤AY;decide),λu k=>q (c,c) (by rw[b];rfl) u _ (ah k _) af,)
  .refine bI (a,.inr m,z,U,j,n,λc b=>?_,λb=>e (by rw[b];rfl),);calc((by show 2≤AY;decide),λu k=>q (c,c) (by rw[b];rfl) u _ (ah k _) af,)
def JZ(F:Fun K "made_table" "made_table" Y71 f fd)(bl:Bl K mg Y)(m:bu CX0 P w K mg base 6 "Table" Y.t ["self","name","names","domains","outcome","way","rows"] (cC K Y)):() 8 f fd ["draft","domains","rows"] (jy K Y):=by
 refine F.okA Z71 λd3 A c9 s H vs Q E hr h=>?_
 let(x,da,rl,d,dom,rx,a3,ks,ko,rfl,(d1,rv,(dx,cl,L,g2),g3,g4),Z,X,hw,c3,h1,h4,c1,Fw,W,c5,c4,c6,hR,kS,uI,q):=h
 refine(_,(aw (i5 (i:=3) Z71.nd U (bv U) (aR<|aP (pv 0) U) (bc (N:=["name","domains"]) (fr:=[1]) (cl:=[("domains",↥s+1)]) U U (~~~0) (~~~0) U (~~~0) U U U (eN.mpr (U,fW _,)) U) U (λ_ _ _ _=>aX)<|λ_ _ _ _=>(az (oh (K:=K) U) (pv 1) (pv 0)<|λ_ _=>U))
  (ag<|aE<|mQ m bR hr U<|aa (aP (pv 0) U)<|aa (aP (pv 0) U)<|aa (pv 3)<|aa (az og (pv 1) (aP (pv 0) U)<|λ_ _=>U)<|aa (aP (pv 0) U)<|aa (pv 2) ae)),?_,)
 dsimp only[bj,OY,OW];show(let r1:TS:=_;a9 _ r1 _ _ _);intro _;let l1:⇑(d.cs.map OT)=⇑d.cs:=bQ _;refine(let I_:St→Hp→Prop:=λa0 l=>aq H l∧E2 λ(D:AE)(S:M3 V)=>A3 (l D=MO (.lst S)) (ak S ks<|cS Y.r Y.s H)<|a0=[↑x,↑da,↑rl,↑D];(I_,?_,?_,))
 .refine(x,_,_,_,_,U,L,bl.k_Draft,bl.na_Draft_columns,U,cl,U,(_,OU g2,),(let I_:AE→Nat→M3 V→Hp→Prop:=λD i G l=>aq H l∧l D=MO (.lst G)∧ak G (ks.take i) (cS Y.r Y.s H);bC (xs:=d.cs.map OT) I_ (λD J=>(ah J _,af,ak.nil,)) (λD i G l J _ h=>OU<|h.1 _ _ g2) (λD i y G l J e h=>?_) (λD G l J h=>?_)),)
  .let(sm,R,I):=h;let(c,rfl,M):=cg e;let(k,e1,e2):=c4 i c M;let hi:i<⇑(d.cs.map OT):=(KH.mp e).1;let(o,C,v):=id Z;let(xk,e3,e4):=v c k e1;refine(da,o,c,_,U,U,sm _ _ C,e3,b7.mk hi R (aD (by have:=I.1;rw[eH]at this;lia)) (sm.upd J,af,?_,),);rw[take_snoc e2];exact ak.snoc I<|xH e4 λzs z=>X c zs (by rw[e1,z])
  .let(sm,R,I):=h;rw[l1,←c5,dY]at I;exact(sm,D,G,R,I,U,)
 rintro d0 H1 ⟨n,D,S,R,B,rfl⟩;let(o,C,v):=id Z;let(ou,e3,e4):=v d.nm ko W;let T:cS Y.r Y.s H ou (dkm ko):=xH e4 λzs z=>X d.nm zs (by rw[W,z])
 calc(x,_,_,_,_,U,(n _ _ L),bl.k_Draft,bl.na_Draft_name,U,x,_,_,_,_,U,(n _ _ L),bl.k_Draft,bl.na_Draft_columns,U,x,_,_,_,_,U,(n _ _ L),bl.k_Draft,bl.na_Draft_name,U,da,o,d.nm,_,U,U,n _ _ C,e3,x,_,_,_,_,U,(n _ _ L),bl.k_Draft,bl.na_Draft_way,U,λt tx ht c2 d2=>?_,);let s2:aq H1 (upd (upd H1 tx<|.own t) t<|.ins Y.t tx []):=(ah c2 _).upd ht;let g:=n.trans s2;refine(t,tx,cl,D,ou,rl,d.nm,d.wy,d.cs,S,rx,ks.map (·.2),(dkm ko).2,a3,U,af,g _ _ g2,hw,c3,h1,h4,c1,λz=>?_,s2 _ _ R,?_,(T.same g).dom,g _ _ c6,hR.same g,kS,by rw[bQ];lia,uI,λl fs a4 a1 k1 k2 k3 c0 b4 b3 (a5,c8,fn,fd,b0,a8,a7,a6,) fr k4 k5=>?_,)
 .let(p,rfl):=Fw z;let(c7,e):=e4;exact(c7,_,g _ _ e,)
 .refine(by rw[bQ];exact B.1,λj b O=>?_,);rw[dn]at O;cases M:ks[j]? with
  |none=>rw[M]at O;cases O
  |some kk =>
   rw[M]at O;cases O;let(r1,e1,p1):=B.2 j kk M;exact(r1,e1,(p1.same g).dom,)
 .let s3:aq H1 l:=λb u e=>k1 b u (bF e ht)<|s2 _ _ e
  let a2:=n.trans s3;calc(U,q t l a2 (n.free ht) (ou,S,a4,tx,a5,c8,fs,a1,k2,k3,b3,c0,b4,b0,a8,g.free fn,g.free fd,g.free fr,a7,a6,k4,ak.mono k5<|λ_ _ p=>p.wk λa h=>g.free h,by rw[k5.1,←hR.1];exact kS,B,T,),)
def J7(F:Fun K "_law_table" "_law_table" Y67 f fd)(bl:Bl K mg Y)(a2:bu CX0 P w K mg base 6 "Table" Y.t ["self","name","names","domains","outcome","way","rows"] (cC K Y))(jg:⟨⟩ 7 "_law_made" ["domain"] (je K Y)):() 8 f fd ["plan","k"] (kx K Y):=by
 refine F.okA Z67 λj9 A h4 s H vs Q E hr h=>?_
 let(r,k,T,S,ts,fN,t,nm,po,rfl,g6,ok,et,a7,a1,q):=h
 refine(_,(aw (lp (pv 0)<|d8 U<|aI (aC (i:=2) Z67.nd U<|pc U)<|aI (aC (i:=3) Z67.nd U<|pc U)<|aI (aC (i:=4) Z67.nd U<|bv U) br)
  (aw (aL (i:=5) Z67.nd U (bv U)<|aH bY (aH fS (av au U bl.len_ MN<|aa (pv 2) ae)<|av au U bl.len_ MN<|aa (pv 4) ae)<|pv 1)
  (aw (aL (i:=6) Z67.nd U (bv U)<|az aM (az aW (pv 4) (pv 1)<|λ_ _=>U) ai<|λ_ _=>U)
  (aw (qL (i:=7) Z67.nd U (bv U) (aR<|az aM (az aW (pv 4) (pv 1)<|λ_ _=>U) ai<|λ_ _=>U) (cH (N:=["row"]) (k:=1) U U (~~~0) (~~~0)<|~~~0) U (λ_ C1 _ _=>(aC (i:=0) (show(["row"]:M3 Str).Nodup by decide+kernel) U (bv U) (pc U))) (λ_ C1 _ _=>aX) (λ_ C1 _ _=>(bH<|aa (d7 (A9 (K:=K) U<|az (l8 (K:=K) U) (pv 0) ai<|λ_ _=>U) (cH (N:=["spans"]) (k:=1) U U (~~~0) (~~~0)<|~~~0) U (λ_ C2 _ _=>(aC (i:=0) (show(["spans"]:M3 Str).Nodup by decide+kernel) U (bv U) (pc U))) (λ_ C2 _ _=>aX) (λ_ C2 _ _=>(bg (mR (K:=K) U) U bl.list_ wn<|aa (pv 0) ae))) (aa (az (l8 (K:=K) U) (pv 0) ai<|λ_ _=>U) ae))))
  (aw (i5 (i:=8) Z67.nd U (bv U) (aR<|pv 6) (bc (N:=["j","names"]) (fr:=[2]) (cl:=[("names",↥s+1)]) U U (~~~0) (~~~0) U (~~~0) U U U (eN.mpr (U,fW _,)) U) U (λ_ _ _ _=>aX)<|λ_ _ _ _=>(az (d6 (K:=K) U) (pv 1) (pv 0)<|λ_ _=>U))
  (aw (i5 (i:=9) Z67.nd U (bv U) (aR<|pv 6) (bc (N:=["j","domains"]) (fr:=[3]) (cl:=[("domains",↥s+1+1)]) U U (~~~0) (~~~0) U (~~~0) U U U (eN.mpr (U,fW _,)) U) U (λ_ _ _ _=>aX)<|λ_ _ _ _=>(aQ jg hr U<|aa (az (d6 (K:=K) U) (pv 1) (pv 0)<|λ_ _=>U) ae))
  (ag<|aE<|mQ a2 bR hr U<|aa (az aW (pv 2) (pv 5)<|λ_ _=>U)<|aa (pv 8)<|aa (pv 9)<|aa (aQ jg hr U<|aa (az aW (pv 3) (pv 5)<|λ_ _=>U) ae)<|aa (az aM (az aW (pv 4) (pv 1)<|λ_ _=>U) ai<|λ_ _=>U)<|aa (pv 7) ae))))))),?_,)
 dsimp only[bj,OY,OW];show(let r6:TS:=_;let r5:TS:=a9 _ r6;let r4:TS:=a9 _ r5;let r3:TS:=a9 _ r4;let r2:TS:=a9 _ r3;let r1:TS:=a9 _ r2;a9 _ r1 _ _ _);intro _ _ _ _ _ _;let(nl,dl,g,dv,tv,er,c1,d1,d0,a6,c7):=id g6;let(ta,c0,cl,rl,rx,g1,g2,g3,g4):=c7.2 k t et;let i3:⇑(T.map OT)=T.length:=bQ _;let c9:=ok.len;let j7:=ok.tab;let i9:⇑tv=⇑ts:=c7.1;let h7:=ok.n7;let tok:=ok.tabs k t et;let O:=ok.lt et;let GS:=ok.own et;let j8:⇑t.cols≤3:=tok.ok.few;let g5:1≤⇑t.cols:=tok.ok.some_;let DU:=tok.few;let c6:⇑(vN t.cols)=⇑t.cols:=jm _;calc(let o:St→Hp→Prop:=λd c=>c=H∧d=[↑r,MO<|.int (k:Int),↑nl,↑dl,↑g,MP,MP,MP,MP,MP];(o,(r,_,U,OV er,U,_,_,U,_,_,U,_,_,U,U,U,U,),?_,));rintro i2 H1 ⟨rfl,rfl⟩;refine(let o:St→Hp→Prop:=λd c=>c=H1∧d=[↑r,MO<|.int (k:Int),↑nl,↑dl,↑g,MO<|.int ((fN+k:Nat):Int),MP,MP,MP,MP];(o,(nl,_,U,.inl<|OU c1,g,_,U,.inl<|OU a6,_,_,U,U,_,_,U,U,U,?_,),?_,))
 .rw[show((fN+k:Nat):Int)=((⇑(T.map OT):Nat):Int)-((⇑tv:Nat):Int)+(k:Int) by lia];rfl
 rintro i1 H2 ⟨rfl,rfl⟩;calc(let o:St→Hp→Prop:=λd c=>c=H2∧d=[↑r,MO<|.int (k:Int),↑nl,↑dl,↑g,MO<|.int ((fN+k:Nat):Int),↑cl,MP,MP,MP];(o,(g,_,_,_,U,U,OU a6,aS c0,ta,_,_,_,U,U,OV g1,U,U,U,),?_,));rintro i0 H3 ⟨rfl,rfl⟩;refine(let o:St→Hp→Prop:=λd c=>aq H3 c∧E2 λ(ro:AE)(zx:M3 V)=>A3 (c ro=MO (.lst zx)) (RL NT c zx t.rows)<|d=[↑r,MO<|.int (k:Int),↑nl,↑dl,↑g,MO<|.int ((fN+k:Nat):Int),↑cl,↑ro,MP,MP];(o,?_,?_,))
 .refine(g,_,_,_,U,U,OU a6,aS c0,ta,_,_,_,U,U,OV g1,U,rl,U,(_,OU g3,),(let o:AE→Nat→M3 V→Hp→Prop:=λD i m c=>aq H3 c∧c D=MO (.lst m)∧RL NT (hide c D) m (t.rows.take i);b8 (xs:=rx) o (λD v=>(ah v _,af,ak.nil,)) (λD i m c v _ h=>OU<|h.1 _ _ g3) (λD i y m c v e h c2 f7=>?_) (λD m c v h=>?_)),)
  .let(n,C,B):=h;let(r0,w,rfl,ew,ce,cs,f1,_,f2,f3):=ak.get g4 e;let hi:i<⇑rx:=(KH.mp e).1;let j1:⇑rx=⇑t.rows:=g4.1;let(u0,rfl):∃u0,c2=[u0]:=by
    match c2,f7 with
    | [u0],_=>exact(u0,U,)
   let g7:=tok.rows w<|KJ ew;let J8:⇑cs=⇑w.1:=f3.1;let i8:=g7.len;calc(([↑r0],U,U,),?_,);refine(r0,_,_,_,U,U,OV<|n _ _ f1,U,ce,U,(_,OU<|n _ _ f2,),(let o:AE→Nat→M3 V→Hp→Prop:=λJ j ws L=>aq c L∧L J=MO (.lst ws)∧CL (Fr c J) L ws (w.1.take j);b8 (xs:=cs) o (λJ G=>(ah G _,af,ak.nil,)) (λJ j ws L G _ h=>OU<|h.1 _ _<|n _ _ f2) (λJ j y2 ws L G e2 h c3 J9=>?_) (λJ ws L G h=>?_)),)
   .let(W,a8,hw):=h;let(l,ps,rfl,g9,_,yl,el,b3):=ak.get f3 e2;let I:j<⇑cs:=(KH.mp e2).1;let(v0,rfl):∃v0,c3=[v0]:=by
     match c3,J9 with
     | [v0],_=>exact(v0,U,)
    let sA:=n.trans W;calc(([↑l],U,U,),l,_,U,.inl<|OU<|sA _ _ el,λp hp=>?_,);let u1:=ah hp<|.lst yl;let ep:upd L p (.lst yl) p=MO (.lst yl):=af;let b0:p≠J:=λz=>by rw[z,a8]at hp;cases hp
    let f8:c p=none:=W.free hp;generalize upd L p (.lst yl)=H5 at u1 ep⊢;let R:=u1 _ _ a8;let f5:CL (Fr c J) H5 (ws++[.ref p]) (w.1.take j++[ps]):=ak.snoc (hw.same u1) ((f8,b0,),yl,ep,b3.mono (sA.trans u1).tups,);refine b7.mk I R (aD (by have:=hw.1;rw[eH]at this;lia)) ((W.trans u1).upd G,af,?_,);rw[take_snoc g9];exact f5.updN Fr.out R
   .let(W,a8,hw):=h;rw[J8,dY]at hw;let b0:J≠D:=λz=>by rw[z,C]at G;cases G
    calc(r0,_,_,_,U,U,OV<|(n.trans W) _ _ f1,U,eX,λa3 f6=>?_,);let u5:=ah f6<|.tup [.ref J,.int w.2];let eT:upd L a3 (.tup [.ref J,.int w.2]) a3=MO (.tup [.ref J,.int w.2]):=af;generalize upd L a3 (.tup [.ref J,.int w.2])=H5 at u5 eT⊢;let uA:=W.trans u5;let R:=uA _ _ C;let uI:iR NT (hide H5 D) a3 w:=⟨J,ws,ml R _ _ eT,trivial,cz (u5 _ _ a8) b0,ak.mono (hw.same u5) λl ps ((n1,_,),yl,el,b3,)=>(trivial,yl,cz el (λz=>by rw[z,C]at n1;cases n1),b3.mono<|ml R,)⟩;refine b7.mk hi R (aD (by have:=B.1;rw[eH]at this;lia)) ((n.trans uA).upd v,af,?_,);rw[qQ,take_snoc ew];exact ak.snoc (ak.mono B λ_ _ p=>p.same<|iK uA) uI
  .let(n,C,B):=h;rw[g4.1,dY]at B;exact(n,D,m,C,ak.mono B<|λ_ _ p=>p.same<|qg c D,U,)
 rintro h8 L ⟨W,ro,zx,g8,c8,rfl⟩;refine(let o:St→Hp→Prop:=λd c=>aq L c∧∃ha:AE,c ha=MO (.lst<|(prm t.cols T).map OT)∧d=[↑r,MO<|.int (k:Int),↑nl,↑dl,↑g,MO<|.int ((fN+k:Nat):Int),↑cl,↑ro,↑ha,MP];(o,?_,?_,))
 .refine(cl,U,(_,OU<|W _ _ g2,),(let o:AE→Nat→M3 V→Hp→Prop:=λD i m c=>aq L c∧c D=MO (.lst m)∧m=(prm (t.cols.take i) T).map OT;bC (xs:=vN t.cols) o (λD v=>(ah v _,af,U,)) (λD i m c v _ h=>OU<|h.1 _ _<|W _ _ g2) (λD i y m c v e h=>?_) (λD m c v h=>?_)),)
  .let(n,C,rfl):=h;let(j,rfl,ej):=qO e;let I:=O j<|KJ ej;let ez:=KG (l:=T) (i:=j) ∅;let hi:i<⇑(vN t.cols):=(KH.mp e).1;refine(nl,_,_,_,U,U,OU<|(W.trans n) _ _ c1,aS<|fL ez,b7.mk hi C (aD ?_) (n.upd v,af,?_,),)
   .rw[bQ,(bT (os:=t.cols.take i) (xs:=T) λj I=>by rw[c9];exact O j (jh I)).1,eH];lia
   .rw[take_snoc ej,oi ez,dy];rfl
  .let(n,C,rfl):=h;rw[c6,dY]at C;exact(n,D,C,U,)
 rintro h6 H5 ⟨s5,ha,h1,rfl⟩;let a0:=W.trans s5;refine(let o:St→Hp→Prop:=λd c=>aq H5 c∧E2 λ(ka:AE)(kv:M3 V)=>A3 (c ka=MO (.lst kv)) (ak kv (prm t.cols<|S.map PD.k)<|kR (λa=>H5 a=MP) Y.r Y.s c)<|d=[↑r,MO<|.int (k:Int),↑nl,↑dl,↑g,MO<|.int ((fN+k:Nat):Int),↑cl,↑ro,↑ha,↑ka];(o,?_,?_,))
 .refine(cl,U,(_,OU<|a0 _ _ g2,),(let o:AE→Nat→M3 V→Hp→Prop:=λD i m c=>aq H5 c∧c D=MO (.lst m)∧ak m (prm (t.cols.take i)<|S.map PD.k) (kR (Fr H5 D) Y.r Y.s c);bC (xs:=vN t.cols) o (λD v=>(ah v _,af,ak.nil,)) (λD i m c v _ h=>OU<|h.1 _ _<|a0 _ _ g2) (λD i y m c v e h=>?_) (λD m c v h=>?_)),)
  .let(n,C,B):=h;let(j,rfl,ej):=qO e;let I:=O j<|KJ ej;let ed:=KG (l:=S) (i:=j) I;let(da,e2,a5):=d0.2 j _ ed;let c4:=ok.doms _<|KJ ed;generalize S[j]=p at ed a5 c4;let hi:i<⇑(vN t.cols):=(KH.mp e).1;let sA:=a0.trans n;let ez:(S.map PD.k)[j]?=MO p.k:=by rw[dn,ed];rfl
   calc(dl,_,_,_,U,U,OU<|sA _ _ d1,aS e2,da,p,U,a5.same sA,c4,λx H6 s6 hx=>?_,);let d2:=s6 _ _ C;let f4:ak (m++[.ref x]) (prm (t.cols.take i) (S.map PD.k)++[p.k]) (kR (Fr H5 D) Y.r Y.s H6):=ak.snoc (ak.mono B λ_ _ p=>p.same s6) (hx.wk λa h=>⟨n.free h,λz=>by rw[z,C]at h;cases h⟩);refine b7.mk hi d2 (aD ?_) ((n.trans s6).upd v,af,?_,)
   .rw[B.1,(bT (os:=t.cols.take i) (xs:=S.map PD.k) λj I=>by rw[bQ];exact O j (jh I)).1,eH];lia
   .rw[take_snoc ej,zH ez];exact ak.mono f4 λ_ _ p=>p.upd Fr.out d2
  .let(n,C,B):=h;rw[c6,dY]at B;exact(n,D,m,C,ak.mono B<|λ_ _ p=>p.wk λa h=>h.1,U,)
 rintro h5 H6 ⟨s6,ka,kv,h0,b4,rfl⟩;let Z:=a0.trans s6;let(da,e2,a5):=d0.2 (fN+k) po a1;let d5:=ok.doms po<|KJ a1;calc(nl,_,_,_,U,U,OU<|Z _ _ c1,aS<|fL a7,dl,_,_,_,U,U,OU<|Z _ _ d1,aS e2,da,po,U,a5.same Z,d5,λou H7 s7 M=>?_,);let a4:=Z.trans s7;let Ka:=M;let M:=M.dom;calc(g,_,_,_,U,U,OU<|a4 _ _ a6,aS c0,ta,_,_,_,U,U,OV<|a4 _ _ g1,U,λx dx hx g0 j2=>?_,);let s8:aq H7 (upd (upd H7 dx<|.own x) x<|.ins Y.t dx []):=(ah g0 _).upd hx;let X:=s7.trans s8;let c5:∀j∈t.cols,j<T.length:=λj I=>by rw[c9];exact O j I
 let gz:=bT (os:=t.cols) (xs:=T) c5;let e0:nm ∉ prm t.cols T:=λhm=>by
  let(j,ej):=gu hm;let I:j<⇑t.cols:=by rw[←gz.1];exact(KH.mp ej).1
  let ec:=KG I;rw[gz.2 j _ ec]at ej;let:=qP ok.nd ej a7;let h9:=tok.ok.lt _<|KJ ec;lia
 refine(x,dx,ha,ka,ou,ro,nm,t.way,prm t.cols T,kv,zx,prm t.cols<|S.map λp=>(p.lo,p.hi),(po.lo,po.hi),t.rows,U,af,X _ _<|s6 _ _ h1,?_,gi.mpr (e0,tw tok.ok.nd ok.nd c5,),by rw[gz.1];exact g5,by rw[gz.1];lia,tok.ok.way,λz=>?_,X _ _ h0,?_,?_,X _ _<|(s5.trans s6) _ _ g8,c8.same<|(s5.trans s6).trans X,by rw[c8.1];exact DU,?_,ok.rows et a1,λc fs d4 d3 k1 k2 k3 f0 e9 e8 (e3,h3,fn,fd,e7,e6,e5,e4,) fr k4 k5=>?_,)
 .intro z B;rcases cZ.mp B with rfl|B
  .exact ok.words _<|KJ a7
  .exact ok.words z<|ui B
 .let he:=tok.ok.sum z po a1;rw[PD.k_none he]at M;let(h2,e):=M;exact(h2,_,s8 _ _ e,)
 .let e:prm t.cols (S.map λp=>(p.lo,p.hi))=(prm t.cols<|S.map PD.k).map (·.2):=by
   rw[←yC,gw];rfl
  rw[e];refine(by rw[bQ];exact b4.1,λj b eb=>?_,);rw[dn]at eb;cases ec:(prm t.cols<|S.map PD.k)[j]? with
  |none=>rw[ec]at eb;cases eb
  |some kk =>
   rw[ec]at eb;cases eb;let(r1,e1,p1):=b4.2 j kk ec;exact(r1,e1,(p1.dom.same X).dom,)
 .exact(M.same s8).dom
 .rw[(bT (os:=t.cols) (xs:=S.map λp=>(p.lo,p.hi)) λj I=>by rw[bQ];exact O j I).1];lia
 .let s9:aq H7 c:=λb u e=>k1 b u (bF e hx)<|s8 _ _ e
  let sF:∀{a:AE},upd (upd H7 dx<|.own x) x (.ins Y.t dx []) a=MP→H3 a=none:=λh=>(a4.trans s8).free h
  calc(U,q x c (a4.trans s9) (t,nm,po,ou,kv,d4,dx,e3,h3,fs,d3,et,a7,a1,k2,k3,e8,f0,e9,e7,e6,sF fn,sF fd,sF fr,e5,e4,k4,ak.mono k5<|λ_ _ p=>p.wk λa h=>sF h,by rw[k5.1];exact DU,ak.mono b4<|λ_ _ p=>(p.same<|s7.trans s9).wk λa h=>a0.free h,(Ka.same s9).wk λa h=>Z.free h,),)
def Kb(F:Fun K "read_set" "read_set" Y82 f fd)(bl:Bl K mg Y)(Fx:⟨⟩ 8 "tidy" ["pairs"] (uD K Y))(bV:ba CX0 P w K mg base 8 Y.r "whole" ["self"] (bL K Y))(cq:ba CX0 P w K mg base 8 Y.s "whole" ["self"] (b5 K Y))(wc:bM P w K mg base 8 "read_part" ["domain","part"] (ku K Y)):aU P w K mg base (CX1 P w) 9 f fd ["domain","text"] (lO K Y):=by
 refine F.okEA Z82 λb0 A a7 s H vs Q E o h=>?_
 let(a,d,z,rfl,O,a4,a1,T,a6,q,qE):=h
 refine(_,(ao (aT (aJ cU (pv 1) (bA U bl.ALL_)<|aO _)
  (ag<|aE<|n6 (mw bV bl.k_Numbers<|mw cq bl.k_Words vC) bR o<|pv 0)
  aG)
  (ag<|aE<|aQ Fx o U<|aa (zt U U U EB (aR<|bx PySem.F.plainAttrs_str PySem.F.slot_str_split PySem.F.type_str_split lC (pv 1)<|aa aV ae) (eW (N:=["part","domain"]) (k:=1) (fr:=[0]) (cl:=[("domain",↥s+1)]) U U (~~~0) (~~~0) U U (eN.mpr (U,fW _,)) U) U (λ_ _ _ _=>(aC (i:=0) (show(["part","domain"]:M3 Str).Nodup by decide+kernel) U (bv U) (pc U))) (λ_ _ _ _=>aX) (λ_ _ _ _ _ a3=>(eV wc (Gq a3) o U<|aa (pv 1)<|aa (pv 0) ae))) ae)),?_,)
 dsimp only[bj,OY,OW];show(let r1:TS:=_;aZ _ r1 _ _ _);intro _;refine(U,_,U,bK (λg=>?_)<|λg=>?_,)
 .let e:z=s!"-" := by have:=MZ g;injection this
  let ep:partsOf d z=MO [fT d]:=by unfold partsOf;rw[MV e]
  let fin:∀(l t:AE)(b:Hp),aq H b→H l=MP→b l=MO (.lst [.ref t])→b t=MO (.tup [.int (fT d).1,.int (fT d).2])→Q (.ref l) b:=λl t b M G j I=>q _ ep l b [.ref t] [fT d] M G j (.cons (t,U,I,) .nil) (BE a4) (λ_=>U) (by show 1≤64;decide)
  cases d with
  |inl p =>
   let(dx,ha):=id O;exact(a,_,dx,_,U,.head _,ha,U,a,p.1,p.2,U,O,λl t b M G j I=>fin l t b M G j I,)
  |inr u =>
   let(dx,lw,ha,hw):=id O;exact(a,_,dx,_,U,.tail _<|.head _,ha,U,a,u,U,O,λl t b M G j I=>fin l t b M G j I,)
 .let ne:z≠s!"-" := λe=>g (by rw[e];exact MX U)
  let ep:partsOf d z=jo (cV d) (jp z mk2):=by unfold partsOf;rw[MU ne]
  rw[ep]at q qE;calc(U,z,mk2,U,U,⋯,a1,λl G=>?_,);let j:upd H l (.lst<|(jp z mk2).map OT) l=MO (.lst<|(jp z mk2).map OT):=af;let L:=ah G<|.lst<|(jp z mk2).map OT;generalize jp z mk2=u at j L T a6 q qE⊢;generalize upd H l (.lst<|u.map OT)=H1 at j L⊢;let v:⇑(u.map OT)=⇑u:=bQ _;refine(l,U,(_,OU j,),(let I_:AE→Nat→M3 V→Hp→Prop:=λD i B b=>aq H1 b∧b D=MO (.lst B)∧∃C:Prs,jo (cV d) (u.take i)=MO C∧PL b B C∧B.length=i;b8 (xs:=u.map OT) I_ (λD c=>(ah c _,af,[],U,.nil,U,)) (λD i B b c _ h=>OU<|h.1 _ _ j) (λD i x B b c ex h ts a2=>?_) (λD B b c h=>?_)),)
  .let(J,S,C,ap,hP,W):=h;let(y,rfl,ey):=cg ex;let a5:i<⇑(u.map OT):=(KH.mp ex).1;let(X,rfl):∃X,ts=[X]:=by
    match ts,a2 with
    | [X],_=>exact(X,U,)
   calc(([MO (.str y)],U,U,),?_,);calc(a,d,y,U,O.same<|L.trans J,T y<|KJ ey,λr o t Z n I=>?_,λo Z m n=>qE (tI ey o) Z m<|(L.trans J).trans n,);refine b7.mk a5 (n _ _ S) (aD ∅) ((J.trans n).upd c,af,C++[r],by rw[take_snoc ey];exact tJ ap o,?_,by rw[dV,hQ];lia,);exact((hP.mono n.tups).mono<|cx<|n _ _ S).snoc (cx (n _ _ S) _ _ I)
  .let(J,S,C,ap,hP,W):=h;rw[v,dY]at ap;rw[v]at W;calc(D,B,C,U,OU S,hP,∅,λr Z a0 R n o er hR ti a8=>?_,);calc q C ap r Z a0 R ((L.trans J).trans n) ((L.trans J).free o) er hR ti.ap ti.mem ∅
def Kc(F:Fun K "read_cell" "read_cell" Y77 f fd)(bl:Bl K mg Y)(rH:bM P w K mg base 9 "read_set" ["domain","text"] (lO K Y))(zW:⟨⟩ 9 "without" ["ones","others"] (kf K Y))(bV:ba CX0 P w K mg base 9 Y.r "whole" ["self"] (bL K Y))(cq:ba CX0 P w K mg base 9 Y.s "whole" ["self"] (b5 K Y)):aU P w K mg base (CX1 P w) 10 f fd ["domain","text"] (ky K Y):=by
 refine F.okEA Z77 λa7 A a5 s H vs Q E D h=>?_
 let(a,d,z,y,b,rfl,x,k,a0,hb,u,M,j,c,q,O):=h
 refine(_,(ao (aT (bG<|bx PySem.F.plainAttrs_str PySem.F.slot_str_startswith PySem.F.type_str_startswith fI (pv 1)<|aa (bA U bl.NOT_) ae)
  (ag<|aE<|aQ zW D U<|aa (n6 (mw bV bl.k_Numbers<|mw cq bl.k_Words vC) bR D<|pv 0)<|aa (eV rH jH D U<|aa (pv 0)<|aa (iN qD (pv 1) (iz<|av fz U bl.len_ MN<|aa (bA U bl.NOT_) ae) nM) ae) ae)
  aG)
  (ag<|aE<|eV rH jH D U<|aa (pv 0)<|aa (pv 1) ae)),?_,)
 dsimp only[bj,OY,OW];show(let r1:TS:=_;aZ _ r1 _ _ _);intro _;calc(U,z,_,U,U,_,U,?_,);cases b with
 |false =>
  rw[MU cr]at u;rw[hb];refine bI (a,d,z,U,x,k,a0,(by rw[u]at j;exact j),(by rw[u]at c;exact c),λC J l H' v R S G B X ap T a3=>?_,(by rw[u]at O;exact O),);rw[u]at q;exact q C J l H' v R S G B X ap (λn=>T n) ∅
 |true =>
  rw[MV U]at u;rw[hb];let fin:∀(l t:AE)(g:Hp),aq H g→H l=MP→g l=MO (.lst [.ref t])→g t=MO (.tup [.int (fT d).1,.int (fT d).2])→∀C,partsOf d y=MO C→∀(I:AE)(i:Hp)(v:M3 V)(R:Prs),aq g i→g I=MP→i I=MO (.lst v)→PL i v R→Apart R→(∀n,inP R n=inP C n)→⇑v≤64→kf K Y [.ref l,.ref I] i Q E0:=λl t g e G B L C a1 I i v R o a3 a4 X ap T c=>by
   refine(l,I,[.ref t],v,[fT d],R,U,OU<|o _ _ B,OU a4,.cons (t,U,o _ _ L,) .nil,X,BE k,ap,(by show 1≤450;decide),∅,λr H' N F S D er hF aF a2 a6=>?_,);refine q C a1 r H' N F ((e.trans o).trans S) ((e.trans o).free D) er hF aF (λn=>?_) ?_
   .rw[MV U,a2,T];show((inR n (fT d) || false) && _)=_;rw[Db]
   .let:⇑([O1 t]:M3 V)=1:=rfl;lia
  calc eU ?_;cases d with
  |inl p =>
   let(Z,W):=id x;calc(a,_,Z,_,U,.head _,W,U,a,p.1,p.2,U,x,λl t g e G B L=>?_,);calc(_,U,(~~~0),_,U,_,U,∅,a,.inl p,y,?_,x.same e,k,M,j,c,fin l t g e G B L,λJ i m o=>O J i m<|e.trans o,);rw[u];rfl
  |inr N =>
   let(Z,lw,W,hw):=id x;calc(a,_,Z,_,U,.tail _<|.head _,W,U,a,N,U,x,λl t g e G B L=>?_,);calc(_,U,(~~~0),_,U,_,U,∅,a,.inr N,y,?_,x.same e,k,M,j,c,fin l t g e G B L,λJ i m o=>O J i m<|e.trans o,);rw[u];rfl
def G9(F:Fun K "row_cells" "row_cells" Y97 f fd)(bl:Bl K mg Y)(we:bM P w K mg base 10 "read_cell" ["domain","text"] (ky K Y)):() 11 f fd ["draft","domains","fields"] (kz K Y):=by
 refine F.okA Z97 λb0 A a6 s H vs Q E hr h=>?_
 let(x,da,fl,d,dom,fs,v,rfl,(rl,rv,(dx,cl,g1,g2),g3,g4),a3,r,h4,a7,a8,hc,q):=h;refine(_,(ag<|aE<|d7 (ud U bl.zip_<|aa (aP (pv 0) U)<|aa (pv 2) ae) (eW (N:=["name","field","domains"]) (k:=2) (fr:=[1]) (cl:=[("domains",↥s+1)]) U U (~~~0) (~~~0) U U (eN.mpr (U,fW _,)) U) U (λ_ _ _ _=>(jF (K:=K) (n:=2) U U<|aI (aC (i:=0) (show(["name","field","domains"]:M3 Str).Nodup by decide+kernel) U (bv U) (pc U)) (aI (aC (i:=1) (show(["name","field","domains"]:M3 Str).Nodup by decide+kernel) U (bv U) (pc U)) br))) (λ_ _ _ _=>aX) (λ_ _ _ _=>(eV we pK hr U<|aa (az (oh (K:=K) U) (pv 2) (pv 0)<|λ_ _=>U)<|aa (pv 1) ae))),?_,);let l1:⇑(d.cs.map OT)=⇑d.cs:=bQ _;let l2:⇑(fs.map OT)=⇑fs:=bQ _;refine(x,_,_,_,_,U,g1,bl.k_Draft,bl.na_Draft_columns,U,cl,fl,U,(_,OU g2,),(_,OU r,),(let I_:AE→Nat→M3 V→Hp→Prop:=λD i ys e=>aq H e∧e D=MO (.lst ys)∧CL (Fr H D) e ys (v.take i);tf (xs:=d.cs.map OT) (ys:=fs.map OT) I_ (λD m=>(ah m _,af,ak.nil,)) (λD i I e m _ h=>(OU<|h.1 _ _ g2,OU<|h.1 _ _ r,)) (λD i x_ y_ I e T m ex ey h hT p a0=>?_) (λD I e m h=>?_)),)
 .let(J,G,o):=h;let(c,rfl,ec):=cg ex;let(j,rfl,ef):=cg ey;let(k,R,ek,eR,a1,Z,y,b,ps,h1,h2,h3,h5,h6,h7,h8,h9):=hc i c j ec ef;let hi:i<⇑d.cs:=(KH.mp ec).1;let hm:min ⇑(d.cs.map OT) ⇑(fs.map OT)=⇑d.cs:=∅
  let(C,B,rfl):∃C B,p=[C,B]:=by
   match p,a0 with
   | [C,B],_=>exact(C,B,U,)
  let u:=ah hT<|.tup [.str c,.str j];let eT:upd e T (.tup [.str c,.str j]) T=MO (.tup [.str c,.str j]):=af;generalize upd e T (.tup [.str c,.str j])=H2 at u eT⊢;let M:=J.trans u;let(X,a4,a2):=a3.same M;let(xk,e1,e2):=a2 c k ek;calc(T,_,U,OV eT,U,_,_,U,_,_,U,U,([MO (.str c),MO (.str j)],U,U,),?_,);refine⟨da,X,c,_,U,U,a4,e1,xk,k,j,y,b,U,e2,a1,Z,h1,h2,h3,h5,h6,λS ep l H3 ys R' L O el hR ap hn hy=>?_,λg=>by rw[h7]at g;cases g⟩;let a5:S=ps:=dL<|ep.symm.trans h7;obtain rfl:R'=R:=Apart.uniq ap h8 λn=>by rw[hn n,h9 n,a5]
  let t:=L _ _<|u _ _ G;let W:l≠D:=λz=>by rw[z,u _ _ G]at O;cases O
  refine b7.mk (by rw[hm];exact hi) t (aD (by have:=o.1;rw[eH]at this;lia)) ((M.trans L).upd m,af,?_,);rw[take_snoc eR];exact CL.updN (ak.snoc (o.same<|u.trans L) ((M.free O,W,),ys,el,hR,)) Fr.out t
 .let(J,G,o):=h;rw[show min ⇑(d.cs.map OT) ⇑(fs.map OT)=⇑v by lia,dY]at o;calc q D e I J m G<|o.wk λa h=>h.1
def Kd(F:Fun K "cells_of" "cells_of" Y38 f fd)(bl:Bl K mg Y)(wg:⟨⟩ 11 "row_cells" ["draft","domains","fields"] (kz K Y)):() 12 f fd ["draft","domains"] (lP K Y):=by
 refine F.okA Z38 λa0 A W s H vs Q E hr h=>?_
 let(x,da,d,dom,cc,rfl,hg,R,h4,kS,S,hc,q):=h;refine(_,(ag<|aE<|d7 (aR<|aP (pv 0) U) (eW (N:=["fields","value","draft","domains"]) (k:=2) (fr:=[0,1]) (cl:=[("draft",↥s+1),("domains",↥s+1+1)]) U U (~~~0) (~~~0) U U (eN.mpr (U,eN.mpr (U,fW _,),)) U) U (λ_ _ _ _=>(jF (K:=K) (n:=2) U U<|aI (aC (i:=0) (show(["fields","value","draft","domains"]:M3 Str).Nodup by decide+kernel) U (bv U) (pc U)) (aI (aC (i:=1) (show(["fields","value","draft","domains"]:M3 Str).Nodup by decide+kernel) U (bv U) (pc U)) br))) (λ_ _ _ _=>aX) (λ_ _ _ _=>(aQ wg hr U<|aa (pv 2)<|aa (pv 3)<|aa (pv 0) ae))),?_,);let(rl,X,(dx,cl,g1,g2),g3,g4):=id hg;let O:=g4.1;refine(x,_,_,_,_,U,g1,bl.k_Draft,bl.na_Draft_rows,U,rl,U,(_,OU g3,),(let I_:AE→Nat→M3 V→Hp→Prop:=λD i c g=>aq H g∧g D=MO (.lst c)∧ak c (cc.take i) (CcA (Fr H D) g);b8 (xs:=X) I_ (λD m=>(ah m _,af,ak.nil,)) (λD i c g m _ h=>OU<|h.1 _ _ g3) (λD i y c g m e h v M=>?_) (λD c g m h=>?_)),)
 .let(b,u,o):=h;let(t,r,rfl,ek,l,h2,h3):=ak.get g4 e;let(o1,C,ec,o2,o3):=hc i r ek;let hi:i<X.length:=(KH.mp e).1;let(I,G,rfl):∃I G,v=[I,G]:=by
   match v,M with
   | [I,G],_=>exact(I,G,U,)
  calc(t,_,U,OV<|b _ _ h2,U,_,_,U,_,_,U,U,([↑l,MO (.str r.2)],U,U,),?_,);calc(x,da,l,d,dom,r.1,C,U,hg.same b,R.same b,b _ _ h3,h4,o1,o2,o3,λZ H2 xs J j T hC=>?_,);let B:=J _ _ u;let nl:Z≠D:=λz=>by rw[z,u]at j;cases j
  refine b7.mk hi B (aD (by have:=o.1;rw[eH]at this;lia)) ((b.trans J).upd m,af,?_,);rw[take_snoc ec];let L:ak (c++[.ref Z]) (cc.take i++[C]) (CcA (Fr H D) H2):=ak.snoc (ak.mono o λ_ _ p=>p.same J) ⟨(b.free j,nl,),xs,T,hC.wk λa h=>⟨b.free h,λz=>by rw[z,u]at h;cases h⟩⟩;exact ak.mono L λ_ _ p=>p.updN Fr.out B
 .let(b,u,o):=h;rw[O,←S,dY]at o;calc q D g c b m u<|ak.mono o λ_ _ p=>p.wk λa h=>h.1
def Ke(F:Fun K "read_book" "read_book" Y76 f fd)(bl:Bl K mg Y)(jO:⟨⟩ 12 "refuse_counts_reading" ["facts","drafts"] (dj K Y))(kG:⟨⟩ 12 "refuse_names_reading" ["facts","drafts"] (dG K Y))(e6:bu (CX1 P w) P w K mg base 11 "Book" Y.u ["self","facts","tables"] (cR K Y))(wj:⟨⟩ 12 "take_line" ["line","facts","drafts"] (km K Y))(kF:⟨⟩ 12 "refuse_way" ["way","outcome"] (gO K Y))(pZ:⟨⟩ 12 "refuse_fields" ["draft"] (gG K Y))(xR:⟨⟩ 12 "cells_of" ["draft","domains"] (lP K Y))(pB:⟨⟩ 12 "refuse_numbers" ["draft","outcome"] (gq K Y))(xS:⟨⟩ 12 "codes_of" ["draft","outcome"] (lN K Y))(uP:⟨⟩ 12 "made_table" ["draft","domains","rows"] (jy K Y))(se:⟨⟩ 12 "read_domain" ["text"] (iX K Y)):() 13 f fd ["text"] (kA K Y):=by
 refine F.okA Z76 λq7 A n4 s H vs Q E hr h=>?_
 let(z,zs,lns,rfl,hz,hL,dom,c8,f7,a7,b0,ok,rb,q):=h
 refine(_,(aw (aL (i:=1) Z76.nd U (bv U)<|nI (fH (pv 0) (by intro _;rfl)) (bx PySem.F.plainAttrs_str PySem.F.slot_str_split PySem.F.type_str_split lC (pv 0)<|aa aV ae) (bP ae))
  (aw (aL (i:=2) Z76.nd U (bv U)<|bP ae)
  (aw (aL (i:=3) Z76.nd U (bv U)<|bP ae)
  (aw (bB tz U (aR<|pv 1) (aC (i:=4) Z76.nd U<|bv U)
  (ag<|aY<|aQ wj hr U<|aa (pv 4)<|aa (pv 2)<|aa (pv 3) ae))
  (aw (aY<|aQ jO hr U<|aa (pv 2)<|aa (pv 3) ae)
  (aw (aY<|aQ kG hr U<|aa (pv 2)<|aa (pv 3) ae)
  (aw (aL (i:=5) Z76.nd U (bv U)<|aH qv (pv 2)<|bZ (aR<|pv 3) (dN U (~~~0) (~~~0) (~~~0) U) U (λ_ _ _ _=>aX)<|λ_ _ _ _=>(bH<|aa (ja (K:=K) U (pv 0) U)<|aa (ja (K:=K) U (pv 0) U) ae))
  (aw (aL (i:=6) Z76.nd U (pc U)<|bg (qM U) U bl.dict_ NV<|aa (d7 (aR<|pv 5) (cH (N:=["name","domain"]) (k:=2) U U (~~~0) (~~~0)<|~~~0) U (λ_ _ _ _=>(jF (K:=K) (n:=2) U U<|aI (aC (i:=0) (show(["name","domain"]:M3 Str).Nodup by decide+kernel) U (bv U) (pc U)) (aI (aC (i:=1) (show(["name","domain"]:M3 Str).Nodup by decide+kernel) U (bv U) (pc U)) br))) (λ_ _ _ _=>aX) (λ_ _ _ _=>(bH<|aa (pv 0)<|aa (aQ se hr U<|aa (pv 1) ae) ae))) ae)
  (aw (bB tz U (aR<|pv 3) (aC (i:=7) Z76.nd U<|bv U)
  (ag<|aY<|aQ kF hr U<|aa (aP (pv 7) U)<|aa (az og (pv 6) (aP (pv 7) U)<|λ_ _=>U) ae))
  (aw (bB tz U (aR<|pv 3) (aC (i:=7) Z76.nd U<|bv U)
  (ag<|aY<|aQ pZ hr U<|aa (pv 7) ae))
  (aw (aL (i:=8) Z76.nd U (pc U)<|bZ (aR<|pv 3) (bc (N:=["draft","domains"]) (fr:=[6]) (cl:=[("domains",↥s+1)]) U U (~~~0) (~~~0) U (~~~0) U U U (eN.mpr (U,fW _,)) U) U (λ_ _ _ _=>aX)<|λ_ _ _ _=>(aQ xR hr U<|aa (pv 0)<|aa (pv 1) ae))
  (aw (bB tz U (aR<|pv 3) (aC (i:=7) Z76.nd U<|bv U)
  (ag<|aY<|aQ pB hr U<|aa (pv 7)<|aa (az og (pv 6) (aP (pv 7) U)<|λ_ _=>U) ae))
  (aw (aL (i:=9) Z76.nd U (pc U)<|bZ (aR<|pv 3) (bc (N:=["draft","domains"]) (fr:=[6]) (cl:=[("domains",↥s+1)]) U U (~~~0) (~~~0) U (~~~0) U U U (eN.mpr (U,fW _,)) U) U (λ_ _ _ _=>aX)<|λ_ _ _ _=>(aQ xS hr U<|aa (pv 0)<|aa (az (oh (K:=K) U) (pv 1) (ja (K:=K) U (pv 0) U)<|λ_ _=>U) ae))
  (aw (qL (i:=10) Z76.nd U (bv U) (CC U bl.enumerate_<|aa (pv 3) ae) (eW (N:=["k","draft","domains","cells","codes"]) (k:=2) (fr:=[6,8,9]) (cl:=[("domains",↥s+1),("codes",↥s+1+1+1),("cells",↥s+1+1)]) U U (~~~0) (~~~0) U U (eN.mpr (U,eN.mpr (U,eN.mpr (U,fW _,),),)) U) U (λ_ _ _ _=>(jF (K:=K) (n:=2) U U<|aI (aC (i:=0) (show(["k","draft","domains","cells","codes"]:M3 Str).Nodup by decide+kernel) U (bv U) (pc U)) (aI (aC (i:=1) (show(["k","draft","domains","cells","codes"]:M3 Str).Nodup by decide+kernel) U (bv U) (pc U)) br))) (λ_ _ _ _=>aX) (λ_ _ _ _=>(aQ uP hr U<|aa (pv 1)<|aa (pv 2)<|aa (vE (K:=K) U U U bl.list_ U bl.zip_<|aa (az (d6 (K:=K) U) (pv 3) (pv 0)<|λ_ _=>U)<|aa (az (d6 (K:=K) U) (pv 4) (pv 0)<|λ_ _=>U) ae) ae)))
  (ag<|aE<|mQ e6 pK hr U<|aa (d7 (aR<|pv 2) (eW (N:=["name","domain","domains"]) (k:=2) (fr:=[6]) (cl:=[("domains",↥s+1)]) U U (~~~0) (~~~0) U U (eN.mpr (U,fW _,)) U) U (λ_ _ _ _=>(jF (K:=K) (n:=2) U U<|aI (aC (i:=0) (show(["name","domain","domains"]:M3 Str).Nodup by decide+kernel) U (bv U) (pc U)) (aI (aC (i:=1) (show(["name","domain","domains"]:M3 Str).Nodup by decide+kernel) U (bv U) (pc U)) br))) (λ_ _ _ _=>aX) (λ_ _ _ _=>(bH<|aa (pv 0)<|aa (az (oh (K:=K) U) (pv 2) (pv 0)<|λ_ _=>U) ae))) (aa (pv 10) ae)))))))))))))))),?_,)
 dsimp only[bj,OY,OW];show(let j2:TS:=_;let j7:TS:=a9 _ j2;let j8:TS:=a9 _ j7;let j9:TS:=a9 _ j8;let k0:TS:=a9 _ j9;let r9:TS:=a9 _ k0;let r8:TS:=a9 _ r9;let r7:TS:=a9 _ r8;let r6:TS:=a9 _ r7;let r5:TS:=a9 _ r6;let r4:TS:=a9 _ r5;let r3:TS:=a9 _ r4;let r2:TS:=a9 _ r3;let r1:TS:=a9 _ r2;a9 _ r1 _ _ _);intro _ _ _ _ _ _ _ _ _ _ _ _ _ _;refine(let C:St→Hp→Prop:=λB m=>aq H m∧∃ll:AE,A3 (H ll=MP) (m ll=MO (.lst<|zs.map OT)) (B=[MO (.str z),↑ll,MP,MP,MP,MP,MP,MP,MP,MP,MP]);(C,?_,?_,))
 .rcases hz with⟨h0,rfl⟩|⟨h0,h1,rfl⟩
  .refine(MR,(by rw[h0];exact rE _,by simp[h0],),bI ((by show 0≤AY;decide),λl hl=>(ah hl _,l,hl,af,U,),),)
  .refine(MQ,(∅,~~~h0,),eU (U,z,NL,U,U,⋯,h1,λl hl=>(ah hl _,l,hl,af,U,),),)
 rintro p7 H1 ⟨s1,ll,fl,f4,rfl⟩;refine(let C:St→Hp→Prop:=λB m=>aq H1 m∧∃X:AE,A3 (H1 X=MP) (m X=MO (.lst [])) (B=[MO (.str z),↑ll,↑X,MP,MP,MP,MP,MP,MP,MP,MP]);(C,?_,?_,))
 .exact((by show 0≤AY;decide),λl hl=>(ah hl _,l,hl,af,U,),)
 rintro p6 H2 ⟨s2,X,d4,f5,rfl⟩;refine(let C:St→Hp→Prop:=λB m=>aq H2 m∧∃O:AE,A3 (H2 O=MP) (m O=MO (.lst [])) (B=[MO (.str z),↑ll,↑X,↑O,MP,MP,MP,MP,MP,MP,MP]);(C,?_,?_,))
 .exact((by show 0≤AY;decide),λl hl=>(ah hl _,l,hl,af,U,),)
 rintro p5 H3 ⟨s3,O,c6,n0,rfl⟩;let c2:=s1.trans<|s2.trans s3;let k2:X≠O:=λe=>by rw[e,c6]at f5;cases f5
 let Hg:=s3 _ _<|s2 _ _ f4;refine(let C:St→Hp→Prop:=λB m=>aq H m∧E2 λ(J:M3 (Dw×AE))(c4:Option V)=>A3 (LI Y.v X O m (rdb lns).1 J) (J.map (·.1)=(rdb lns).2)<|B=[MO (.str z),↑ll,↑X,↑O,c4,MP,MP,MP,MP,MP,MP];(C,?_,?_,))
 .refine(ll,U,(_,OU Hg,),(let C:Nat→St→Hp→Prop:=λi σ m=>aq H m∧E2 λ(J:M3 (Dw×AE))(c4:Option V)=>A6 (LI Y.v X O m (rdb<|lns.take i).1 J) (J.map (·.1)=(rdb<|lns.take i).2) (∀b o,H b=MO o→b ∉ mtA X O J) (m ll=MO (.lst<|zs.map OT)) (ll ∉ mtA X O J)<|σ=[MO (.str z),↑ll,↑X,↑O,c4,MP,MP,MP,MP,MP,MP];bp (xs:=zs.map OT) C (c2,[],MP,LI.start k2 (s3 _ _ f5) n0,U,?_,Hg,?_,U,) (λi σ m _ h=>by let(_,_,_,_,_,_,h,_):=h;exact OU h) (λi y σ m e h=>?_) (λσ m h=>?_)),)
  .intro b o e hb;rcases cZ.mp hb with rfl|hb
   .rw[s1 _ _ e]at d4;cases d4
   .obtain rfl:=hJ.mp hb;rw[(s1.trans s2) _ _ e]at c6;cases c6
  .intro hb;rcases cZ.mp hb with hb|hb
   .rw[←hb,f4]at d4;cases d4
   .rw[←hJ.mp hb,s2 _ _ f4]at c6;cases c6
  .let(sm,J,c4,hI,hm,hb,el,nl,rfl):=h;let(zl,rfl,ez):=cg e;let hi:i<⇑lns:=by rw[hL.len];exact(KH.mp ez).1
   let d5:=KG hi;generalize lns[i]=ln at d5;let(o1,o2):=hL.ok i zl ln ez d5;let(w1,w2,w3):=hL.few i;let m1:(rdb<|lns.take i)=((rdb<|lns.take i).1,J.map (·.1)):=by rw[hm]
   refine(X,O,zl,(rdb<|lns.take i).1,J,ln,U,hI,o2,w1,by rw[←bQ (f:=(·.1)),hm];exact w2,λd hd=>w3 d.1 (by rw[←hm];exact ck.mpr (d,hd,U,)),o1,λg=>?_,λH5 n3 e1 e2 kp=>?_,)
   .let(f_,v_,rfl):=g;intro hd;calc hL.row i f_ v_ d5 ?_;rw[←hm,hd];rfl
   .rw[←m1]at e1 e2;rw[←BQ d5]at e1 e2;exact(λb o e=>(kp b o (hb b o e)<|sm _ _ e).1,n3,_,e2,e1.symm,λb o e=>(kp b o (hb b o e)<|sm _ _ e).2,(kp _ _ nl el).1,(kp _ _ nl el).2,U,)
  .let(sm,J,c4,hI,hm,_,_,_,rfl):=h;rw[bQ,←hL.len,dY]at hI hm;exact(sm,J,c4,hI,hm,U,)
 rintro p4 H4 ⟨s4,q6,c4,hI,hm,rfl⟩;let(fv,dv,ef,rf,Z,rd):=hI.fin;rw[hm]at rd;clear hm hI;generalize (rdb lns).1=fs at rf ok rb;generalize (rdb lns).2=J at rd ok rb;let k8:=rf.1;let d3:=rd.1;let b1:=ok.f20;let b2:=ok.d30;refine(let C:St→Hp→Prop:=λB m=>m=H4∧B=[MO (.str z),↑ll,↑X,↑O,c4,MP,MP,MP,MP,MP,MP];(C,?_,?_,))
 .exact(X,O,fv,dv,J,_,U,ef,Z,∅,∅,rd,ok.dw,U,U,)
 rintro p3 H5 ⟨e5,rfl⟩;rw[e5];clear e5;refine(let C:St→Hp→Prop:=λB m=>aq H4 m∧B=[MO (.str z),↑ll,↑X,↑O,c4,MP,MP,MP,MP,MP,MP];(C,?_,?_,))
 .exact(X,O,fv,dv,fs,J,U,ef,Z,b1,b2,rf,rd,ok.wd,ok.nd,ok.dw,λm s=>(s,U,),)
 rintro p2 H6 ⟨s6,rfl⟩;let ef:=s6 _ _ ef;let Z:=s6 _ _ Z;let rf:ak fv fs (FpA H6):=ak.mono rf λ_ _ p=>p.same s6
 let rd:ak dv J (DrG Y.v H6):=ak.mono rd λ_ _ p=>p.same s6
 let g6:=s4.trans s6;clear s6;refine(let C:St→Hp→Prop:=λB m=>aq H6 m∧E2 λ(na:AE)(nv:M3 V)=>A3 (m na=MO (.lst nv)) (ak nv (fs++J.map λd=>(d.nm,d.dm))<|FpA m)<|B=[MO (.str z),↑ll,↑X,↑O,c4,↑na,MP,MP,MP,MP,MP];(C,?_,?_,))
 .refine(O,U,(_,OU Z,),(let C:AE→Nat→M3 V→Hp→Prop:=λD i G m=>aq H6 m∧m D=MO (.lst G)∧ak G ((J.take i).map λd=>(d.nm,d.dm)) (FpA m);bC (xs:=dv) C (λD M=>(ah M _,af,ak.nil,)) (λD i G m M _ h=>OU<|h.1 _ _ Z) (λD i y G m M e h=>?_) (λD G m M h=>?_)),)
  .let(sm,eD,I):=h;let(x,d,rfl,S,rl,rv,(dx,cl,g1,g2),g3,g4):=ak.get rd e;let hi:i<⇑dv:=(KH.mp e).1;calc(x,_,_,_,_,U,(sm _ _ g1),bl.k_Draft,bl.na_Draft_name,U,x,_,_,_,_,U,(sm _ _ g1),bl.k_Draft,bl.na_Draft_domain,U,eX,λp hp=>?_,);let u:=ah hp<|.tup [.str d.nm,.str d.dm];let ep:upd m p (.tup [.str d.nm,.str d.dm]) p=MO (.tup [.str d.nm,.str d.dm]):=af;generalize upd m p (.tup [.str d.nm,.str d.dm])=H7 at u ep⊢;let a8:=u _ _ eD;let a0:=I.1;rw[bQ,eH]at a0;calc b7.mk hi a8 (aD ∅) ((sm.trans u).upd M,af,?_,);rw[take_snoc S,dy];let c3:ak (G++[.ref p]) (((J.take i).map λd=>(d.nm,d.dm))++[(d.nm,d.dm)]) (FpA H7):=ak.snoc (ak.mono I λ_ _ q=>q.same u) ep;exact ak.mono c3 λ_ _ q=>(ay<|dM q a8 (by intro z;cases z)).trans q
  .let(sm,eD,I):=h;rw[d3,dY]at I;let a0:=I.1;rw[bQ]at a0;calc(X,D,_,_,U,U,sm _ _ ef,eD,rM<|aD ∅,λp hp=>(sm.trans<|ah hp _,p,_,af,?_,U,),);exact ak.appL (ak.mono rf λ_ _ q=>q.same<|sm.trans<|ah hp _)<|ak.mono I λ_ _ q=>q.same<|ah hp _
 rintro p1 H7 ⟨s7,na,nv,en,rn,rfl⟩;let h4:=rn.1;let k5:⇑(fs++J.map λd=>(d.nm,d.dm))=⇑fs+J.length:=by rw[dV,bQ]
 let f3:(fs++J.map λd=>(d.nm,d.dm)).map (·.1)=fs.map (·.1)++J.map Dw.nm:=by rw[dy,gw];rfl
 let g9:=ok.rd;generalize (fs++J.map λd=>(d.nm,d.dm))=L at rn h4 k5 f3 g9;refine(let C:St→Hp→Prop:=λB m=>aq H7 m∧∃dd:AE,DcD Y.r Y.s m dd dom∧B=[MO (.str z),↑ll,↑X,↑O,c4,↑na,↑dd,MP,MP,MP,MP];(C,?_,?_,))
 .refine⟨na,U,(_,OU en,),(let C:AE→Nat→M3 V→Hp→Prop:=λD i G m=>aq H7 m∧m D=MO (.lst G)∧ak G (L.take i) (λt p=>∃(x:AE)(k:Dm),hide m D t=MO (.tup [.str p.1,.ref x])∧dom p.1=MO k∧jn Y.r Y.s (hide m D) x k);b8 (xs:=nv) C (λD M=>(ah M _,af,ak.nil,)) (λD i G m M _ h=>OU<|h.1 _ _ en) (λD i y G m M e h a4 c5=>?_) (λD G m M h=>?_))⟩
  .let(sm,eD,I):=h;let(r,p,rfl,S,g):=ak.get rn e;let hi:i<⇑nv:=(KH.mp e).1;let(t0,t1,rfl):∃t0 t1,a4=[t0,t1]:=by
    match a4,c5 with
    | [t0,t1],_=>exact(t0,t1,U,)
   let(o1,k,o2,o3):=g9 p<|KJ S;calc(r,_,U,OV<|sm _ _ g,U,_,_,U,_,_,U,U,([MO (.str p.1),MO (.str p.2)],U,U,),?_,);refine(p.2,k,U,o1,by cases k <;> exact o3,λx H8 s8 hx l1=>(eX,λt ht=>?_,),);let u:=ah ht<|.tup [.str p.1,.ref x];let et:upd H8 t (.tup [.str p.1,.ref x]) t=MO (.tup [.str p.1,.ref x]):=af;generalize upd H8 t (.tup [.str p.1,.ref x])=H9 at u et⊢;let s9:=s8.trans u;let i0:=s9 _ _ eD;let k1:t≠D:=λz=>by rw[z,s8 _ _ eD]at ht;cases ht
   let a0:=I.1;rw[eH]at a0;calc b7.mk hi i0 (aD ∅) ((sm.trans s9).upd M,af,?_,);rw[take_snoc S,qQ];refine ak.snoc (ak.mono I λa b q=>?_) (x,k,cz et k1,o2,(l1.same u).hideD i0 I.refs λzs z=>ok.gd p.1 zs (by rw[o2,z]),);let(x',k',q1,q2,q3):=q;exact(x',k',iK s9 _ _ q1,q2,q3.same<|iK s9,)
  .let(sm,eD,I):=h;rw[h4,dY]at I;let(W,k6,a3):=qe (P:=λj (a:Str×V)=>∃(t x:AE)(k:Dm)(p:Str×Str),G[j]?=↑t∧L[j]?=MO p∧a=(p.1,.ref x)∧m t=MO (.tup [.str p.1,.ref x])∧dom p.1=MO k∧jn Y.r Y.s m x k) L.length λj hj=>by
    let ep:=KG hj;let(t,e1,x,k,e2,e3,e4):=I.2 j _ ep;exact((L[j].1,.ref x),t,x,k,L[j],e1,ep,U,qg _ _ _ _ e2,e3,e4.same<|qg _ _,)
   let pO:W.map (·.1)=L.map (·.1):=by
    refine ik λj=>?_
    rw[dn,dn];cases e:W[j]? with
    |none =>
     have q0:W.length≤j:=by rw[AC]at e;exact e
     rw[ia ∅];rfl
    |some a =>
     let(t,x,k,p,_,e4,rfl,_):=a3 j a e;rw[e4];rfl
   let h5:(W.map (·.1)).Nodup:=by rw[pO,f3];exact ok.nd
   refine(D,G,W,U,eD,by rw[k6,I.1],λj a ea=>?_,h5,λdd R=>?_,)
   .let(t,x,k,p,e1,e2,rfl,e3,_):=a3 j a ea;exact(t,e1,e3,)
   .let u2:=ah R<|.dK<|kvT W;calc(sm.trans u2,dd,(W,af,λz k hz=>?_,),U,);let hm:=ok.dm z k hz;rw[←f3,←pO]at hm;let(a,ha,rfl):=ck.mp hm;let(i,ei):=gu ha;let(t,x,k',p,e1,e2,rfl,e3,e4,e5):=a3 i a ei;let hz:dom p.1=MO k:=hz;obtain rfl:k'=k:=dL<|e4.symm.trans hz;exact(x,yG h5 ei,e5.same u2,)
 rintro p0 H8 ⟨s8,dd,R,rfl⟩;let b3:=s7.trans s8;let ef:=b3 _ _ ef;let Z:=b3 _ _ Z;let rf:ak fv fs (FpA H8):=ak.mono rf λ_ _ p=>p.same b3
 let rd:ak dv J (DrG Y.v H8):=ak.mono rd λ_ _ p=>p.same b3
 let g5:=g6.trans b3;clear s7 s8 b3 rn en g6;let own:∀d∈J,∃k,dom d.nm=MO k:=λd hd=>by
  let(_,k,e,_):=ok.rd (d.nm,d.dm)<|fq _<|ck.mpr (d,hd,U,);exact(k,e,)
 refine(let C:St→Hp→Prop:=λB m=>aq H8 m∧∃c7:Option V,B=[MO (.str z),↑ll,↑X,↑O,c4,↑na,↑dd,c7,MP,MP,MP];(C,?_,?_,))
 .refine(O,U,(_,OU Z,),(let C:Nat→St→Hp→Prop:=λi σ m=>aq H8 m∧∃c7:Option V,σ=[MO (.str z),↑ll,↑X,↑O,c4,↑na,↑dd,c7,MP,MP,MP];bp (xs:=dv) C (aq.refl _,_,U,) (λi σ m _ h=>OU<|h.1 _ _ Z) (λi y σ m e h=>?_) (λσ m h=>h)),);let(sm,c7,rfl):=h;let(x,d,rfl,S,rl,rv,(dx,cl,g1,g2),g3,g4):=ak.get rd e;let(k,hk):=own d<|KJ S;let(w1,w2):=ok.wy d<|KJ S;let(W,a6,a3):=R.same sm;let(ou,e3,e4):=a3 d.nm k hk;calc(x,_,_,_,_,U,(sm _ _ g1),bl.k_Draft,bl.na_Draft_way,U,x,_,_,_,_,U,(sm _ _ g1),bl.k_Draft,bl.na_Draft_name,U,dd,W,d.nm,_,U,U,a6,e3,d.wy,ou,U,w1,λg=>?_,λm s=>(sm.trans s,_,U,),);let(p,hp):=w2 g;obtain rfl:k=.inl p:=dL<|hk.symm.trans hp;let(n2,e):=e4;exact(n2,_,e,)
 rintro o5 H9 ⟨s9,c7,rfl⟩;let ef:=s9 _ _ ef;let Z:=s9 _ _ Z;let rf:ak fv fs (FpA H9):=ak.mono rf λ_ _ p=>p.same s9
 let rd:ak dv J (DrG Y.v H9):=ak.mono rd λ_ _ p=>p.same s9
 let R:=R.same s9;let g0:=g5.trans s9;clear s9 g5;refine(let C:St→Hp→Prop:=λB m=>m=H9∧∃c7:Option V,B=[MO (.str z),↑ll,↑X,↑O,c4,↑na,↑dd,c7,MP,MP,MP];(C,?_,?_,))
 .refine(O,U,(_,OU Z,),(let C:Nat→St→Hp→Prop:=λi σ m=>m=H9∧∃c7:Option V,σ=[MO (.str z),↑ll,↑X,↑O,c4,↑na,↑dd,c7,MP,MP,MP];bp (xs:=dv) C (U,_,U,) (λi σ m _ h=>by rw[h.1];exact OU Z) (λi y σ m e h=>?_) (λσ m h=>h)),);let(e0,c7,rfl):=h;rw[e0];let(x,d,rfl,S,g):=ak.get rd e;exact(x,d,_,U,g,ok.dw d<|KJ S,U,_,U,)
 rintro o4 t2 ⟨i3,c7,rfl⟩;rw[i3];clear i3;refine(let C:St→Hp→Prop:=λB m=>aq H9 m∧E2 λ(ca:AE)(cv:M3 V)=>A3 (m ca=MO (.lst cv)) (ak cv c8<|CrA NT m)<|B=[MO (.str z),↑ll,↑X,↑O,c4,↑na,↑dd,c7,↑ca,MP,MP];(C,?_,?_,))
 .refine(O,U,(_,OU Z,),(let C:AE→Nat→M3 V→Hp→Prop:=λD i G m=>aq H9 m∧m D=MO (.lst G)∧ak G (c8.take i) (CrA (Fr H9 D) m);bC (xs:=dv) C (λD M=>(ah M _,af,ak.nil,)) (λD i G m M _ h=>OU<|h.1 _ _ Z) (λD i y G m M e h=>?_) (λD G m M h=>?_)),)
  .let(sm,eD,I):=h;let(x,d,rfl,S,g):=ak.get rd e;let hi:i<⇑dv:=(KH.mp e).1;let dw:=ok.dw d<|KJ S;let(cc,ec,o1,o2):=ok.cel i d S;calc(x,dd,d,dom,cc,U,g.same sm,R.same sm,dw.c4,dw.r200,o1,o2,λl a5 xs a2 hl el hC=>?_,);let a8:=a2 _ _ eD;let nl:l≠D:=λz=>by rw[z,eD]at hl;cases hl
   let a0:=I.1;rw[eH]at a0;calc b7.mk hi a8 (aD ∅) ((sm.trans a2).upd M,af,?_,);rw[take_snoc ec];let c3:ak (G++[.ref l]) (c8.take i++[cc]) (CrA (Fr H9 D) a5):=ak.snoc (ak.mono I λ_ _ p=>p.same a2) ⟨(sm.free hl,nl,),xs,el,ak.mono hC λ_ _ p=>p.wk λa h=>⟨sm.free h,λz=>by rw[z,eD]at h;cases h⟩⟩;exact ak.mono c3 λ_ _ p=>p.updN Fr.out a8
  .let(sm,eD,I):=h;rw[d3,←ok.cl,dY]at I;exact(sm,D,G,eD,ak.mono I λ_ _ p=>p.wk λ_ _=>trivial,U,)
 rintro o0 a5 ⟨a2,ca,cv,f6,e8,rfl⟩;let ef:=a2 _ _ ef;let Z:=a2 _ _ Z;let rf:ak fv fs (FpA a5):=ak.mono rf λ_ _ p=>p.same a2
 let rd:ak dv J (DrG Y.v a5):=ak.mono rd λ_ _ p=>p.same a2
 let R:=R.same a2;let Hh:=g0.trans a2;clear a2 g0;refine(let C:St→Hp→Prop:=λB m=>m=a5∧∃c7:Option V,B=[MO (.str z),↑ll,↑X,↑O,c4,↑na,↑dd,c7,↑ca,MP,MP];(C,?_,?_,))
 .refine(O,U,(_,OU Z,),(let C:Nat→St→Hp→Prop:=λi σ m=>m=a5∧∃c7:Option V,σ=[MO (.str z),↑ll,↑X,↑O,c4,↑na,↑dd,c7,↑ca,MP,MP];bp (xs:=dv) C (U,_,U,) (λi σ m _ h=>by rw[h.1];exact OU Z) (λi y σ m e h=>?_) (λσ m h=>h)),);let(e0,c7,rfl):=h;rw[e0];let(x,d,rfl,S,g):=ak.get rd e;let(rl,rv,(dx,cl,g1,g2),g3,g4):=id g;let(k,hk):=own d<|KJ S;let(W,a6,a3):=id R;let(ou,e3,e4):=a3 d.nm k hk;exact(x,_,_,_,_,U,g1,bl.k_Draft,bl.na_Draft_name,U,dd,W,d.nm,_,U,U,a6,e3,x,ou,d,k,U,g,e4,λp hp=>ok.num d (KJ S) p (by rw[hk,hp]),U,_,U,)
 rintro n9 s5 ⟨i2,c7,rfl⟩;rw[i2];clear i2;refine(let C:St→Hp→Prop:=λB m=>aq a5 m∧E2 λ(oa:AE)(ov:M3 V)=>A3 (m oa=MO (.lst ov)) (ak ov f7<|λa cs=>m a=MO (.lst<|cs.map pi))<|B=[MO (.str z),↑ll,↑X,↑O,c4,↑na,↑dd,c7,↑ca,↑oa,MP];(C,?_,?_,))
 .refine(O,U,(_,OU Z,),(let C:AE→Nat→M3 V→Hp→Prop:=λD i G m=>aq a5 m∧m D=MO (.lst G)∧ak G (f7.take i) (λa cs=>a≠D∧m a=MO (.lst<|cs.map pi));bC (xs:=dv) C (λD M=>(ah M _,af,ak.nil,)) (λD i G m M _ h=>OU<|h.1 _ _ Z) (λD i y G m M e h=>?_) (λD G m M h=>?_)),)
  .let(sm,eD,I):=h;let(x,d,rfl,S,g):=ak.get rd e;let(rl,rv,(dx,cl,g1,g2),g3,g4):=g.same sm;let hi:i<⇑dv:=(KH.mp e).1;let dw:=ok.dw d<|KJ S;let(k,hk):=own d<|KJ S;let(cs,ec,o1,o2):=ok.cod i d k S hk;let(W,a6,a3):=R.same sm;let(ou,e3,e4):=a3 d.nm k hk;calc(x,_,_,_,_,U,g1,bl.k_Draft,bl.na_Draft_name,U,dd,W,d.nm,_,U,U,a6,e3,x,ou,d,k,cs,U,g.same sm,e4,dw.r200,o1,o2,λl c0 c2 hl el=>?_,);let a8:=c2 _ _ eD;let nl:l≠D:=λz=>by rw[z,eD]at hl;cases hl
   let a0:=I.1;rw[eH]at a0;calc b7.mk hi a8 (aD ∅) ((sm.trans c2).upd M,af,?_,);rw[take_snoc ec];exact ak.snoc (ak.mono I λ_ _ p=>(p.1,(ay p.1).trans<|c2 _ _ p.2,)) (nl,(ay nl).trans el,)
  .let(sm,eD,I):=h;rw[d3,←ok.dl,dY]at I;exact(sm,D,G,eD,ak.mono I λ_ _ p=>p.2,U,)
 rintro n7 c0 ⟨uQ,oa,ov,m0,j1,rfl⟩;let ef:=uQ _ _ ef;let Z:=uQ _ _ Z;let rf:ak fv fs (FpA c0):=ak.mono rf λ_ _ p=>p.same uQ
 let rd:ak dv J (DrG Y.v c0):=ak.mono rd λ_ _ p=>p.same uQ
 let R:=R.same uQ;let f6:=uQ _ _ f6;let e8:ak cv c8 (CrA NT c0):=ak.mono e8 λ_ _ p=>p.same uQ
 let Hi:=Hh.trans uQ;clear uQ Hh;let DV:∀z∈fs.map (·.1)++J.map Dw.nm,∃k,dom z=MO k:=λz hz=>by
  rcases eA.mp hz with h|h
  .let(p,hp,rfl):=ck.mp h;let(_,k,e,_):=ok.rd p<|fE _ hp;exact(k,e,)
  .let(d,hd,rfl):=ck.mp h;exact own d hd
 let h8:⇑b0=J.length:=by rw[←ok.cl,rb.cc,bQ]
 refine(let C:St→Hp→Prop:=λB m=>aq c0 m∧E4 λ(ta:AE)(tv:M3 V)(c4 c7:Option V)=>A3 (m ta=MO (.lst tv)) (ak tv b0<|TbG Y.t Y.r Y.s m)<|B=[MO (.str z),↑ll,↑X,↑O,c4,↑na,↑dd,c7,↑ca,↑oa,↑ta];(C,?_,?_,))
 .refine(O,U,(_,OU Z,),(let C:AE→Nat→M3 V→Hp→Prop:=λD i G m=>aq c0 m∧m D=MO (.lst G)∧ak G (b0.take i) (TbG Y.t Y.r Y.s<|hide m D);xr (xs:=dv) C (λD M=>(ah M _,af,ak.nil,)) (λD i G m M _ h=>OU<|h.1 _ _ Z) (λD i y G m T M e h hT a4 c5=>?_) (λD G m M h=>?_)),)
  .let(sm,eD,I):=h;let(x,d,rfl,S,g):=ak.get rd e;let hi:i<⇑dv:=(KH.mp e).1;let dw:=ok.dw d<|KJ S;let(t0,t1,rfl):∃t0 t1,a4=[t0,t1]:=by
    match a4,c5 with
    | [t0,t1],_=>exact(t0,t1,U,)
   let u:=ah hT<|.tup [.int i,.ref x];let eT:upd m T (.tup [.int i,.ref x]) T=MO (.tup [.int i,.ref x]):=af;generalize upd m T (.tup [.int i,.ref x])=c9 at u eT⊢;let a1:=sm.trans u;let Kf:=u _ _ eD;let(rws,eb):=rb.bt i d S;let h9:c8[i]?=MO (rws.map (·.1)):=by rw[rb.cc,dn,eb];rfl
   let n1:f7[i]?=MO (rws.map (·.2)):=by rw[rb.cd,dn,eb];rfl
   let(ra,l6,_,rx,l4,g8):=e8.2 i _ h9;let(rc,l5,Kg):=j1.2 i _ n1;calc(T,_,U,OV eT,U,_,_,U,_,_,U,U,([MO (.int i),↑x],U,U,),?_,);calc(ca,_,_,_,U,U,OU<|a1 _ _ f6,(aS l6),oa,_,_,_,U,U,OU<|a1 _ _ m0,(aS l5),ra,rc,_,_,U,OU<|a1 _ _ l4,OU<|a1 _ _ Kg,λL ts f8 e9 e7 KC eL k3=>?_,);let sA:=a1.trans e7;let(ko,f0):=own d<|KJ S;let h3:=g8.1;rw[bQ]at h3;let e9:⇑ts=⇑rws:=by rw[e9,bQ,bQ,h3,u7]
   let hR:RL NT f8 (ts.map O1) rws:=by
    refine(by rw[bQ,e9],λj w ew=>?_,);let(c,e1,_,cy,e2,e3):=g8.2 j w.1 (by rw[dn,ew];rfl);let(T2,e4,_,e5):=k3 j (.ref c) (.int w.2) e1 (by rw[dn,dn,ew];rfl);exact(T2,by rw[dn,e4];rfl,c,cy,e5,trivial,sA _ _ e2,e3.same sA,)
   let p9:⇑rws=⇑d.rws:=by
    let(cc,ec,o1,_):=ok.cel i d S;rw[h9]at ec;cases ec;rw[←o1,bQ]
   let kS:=dw.r200;let(w1,w2):=ok.wy d<|KJ S;rw[oF f0]at eb;refine(x,dd,L,d,dom,ts.map O1,rws,d.cs.map<|dkD dom,ko,U,g.same sA,R.same sA,ok.gd,λz hz=>?_,gi.mpr (λh=>(dw.cin _ h).2 U,dw.cnd,),rb.c1 d<|KJ S,dw.c4,w1,λg=>?_,f0,bQ _,λj c ec=>?_,eL,hR,by rw[bQ];lia,rb.ro _<|KJ eb,λt i8 d0 ht l0=>?_,)
   .rcases cZ.mp hz with rfl|hz
    .exact ok.wd _<|fq _<|ck.mpr (d,KJ S,U,)
    .exact ok.wd _ (dw.cin z hz).1
   .let(p,hp):=w2 g;exact(p,dL<|f0.symm.trans hp,)
   .let(k,hk):=DV c (dw.cin c<|KJ ec).1;exact(k,hk,by rw[dn,ec,←oF hk];rfl,)
   .let Hj:=e7 _ _ Kf;let a0:=I.1;rw[eH]at a0;calc b7.mk hi (d0 _ _ Hj) (aD ∅) ((sA.trans d0).upd M,af,?_,);rw[take_snoc eb,qQ];exact ak.snoc (ak.mono I λ_ _ p=>p.same<|iK<|(u.trans e7).trans d0)<|l0.hideD d0 Hj I.refs
  .let(sm,eD,I):=h;rw[d3,←h8,dY]at I;exact(sm,D,G,_,_,eD,ak.mono I λ_ _ p=>p.same<|qg _ _,U,)
 rintro n5 c9 ⟨a1,ta,tv,s0,r0,l3,g7,rfl⟩;let ef:=a1 _ _ ef;let rf:ak fv fs (FpA c9):=ak.mono rf λ_ _ p=>p.same a1
 let R:=R.same a1;let(W,a6,a3):=id R;let b4:=rb.fc;let Kh:⇑a7=⇑fs:=by rw[b4,bQ]
 refine(X,U,(_,OU ef,),(let C:AE→Nat→M3 V→Hp→Prop:=λD i G m=>aq c9 m∧m D=MO (.lst G)∧ak G (a7.take i) (λp f=>∃d:AE,m p=MO (.tup [.str f.1,.ref d])∧cS Y.r Y.s c9 d f.2);b8 (xs:=fv) C (λD M=>(ah M _,af,ak.nil,)) (λD i G m M _ h=>OU<|h.1 _ _ ef) (λD i y G m M e h a4 c5=>?_) (λD G m M h=>?_)),)
 .let(sm,eD,I):=h;let(r,f,rfl,S,g):=ak.get rf e;let hi:i<⇑fv:=(KH.mp e).1;let(t0,t1,rfl):∃t0 t1,a4=[t0,t1]:=by
   match a4,c5 with
   | [t0,t1],_=>exact(t0,t1,U,)
  let(k,hk):=DV f.1<|fE _<|ck.mpr (f,KJ S,U,);let(dk,e3,e4):=a3 f.1 k hk;calc(r,_,U,OV<|sm _ _ g,U,_,_,U,_,_,U,U,([MO (.str f.1),MO (.str f.2)],U,U,),?_,);calc(dd,W,f.1,_,U,U,sm _ _ a6,e3,eX,λtp k4=>?_,);let u:=ah k4<|.tup [.str f.1,.ref dk];let ep:upd m tp (.tup [.str f.1,.ref dk]) tp=MO (.tup [.str f.1,.ref dk]):=af;generalize upd m tp (.tup [.str f.1,.ref dk])=f8 at u ep⊢;let i1:=u _ _ eD;let a0:=I.1;rw[eH]at a0;let m3:a7[i]?=MO (f.1,dkm k):=by rw[b4,dn,S,←oF hk];rfl
  calc b7.mk hi i1 (aD ∅) ((sm.trans u).upd M,af,?_,);rw[take_snoc m3];let c3:ak (G++[.ref tp]) (a7.take i++[(f.1,dkm k)]) (λp (f:Fc)=>∃d:AE,f8 p=MO (.tup [.str f.1,.ref d])∧cS Y.r Y.s c9 d f.2):=ak.snoc (ak.mono I λ_ _ (d,h1,h2,)=>(d,u _ _ h1,h2,)) (dk,ep,xH e4 λzs z=>ok.gd f.1 zs (by rw[hk,z]),);exact ak.mono c3 λ_ _ (d,h1,h2,)=>(d,(ay<|dM h1 i1 (by intro z;cases z)).trans h1,h2,)
 .let(sm,eD,I):=h;rw[k8,←Kh,dY]at I;calc(λx dx hx h6 p8=>?_);let s2:aq m (upd (upd m dx<|.own x) x<|.ins Y.u dx []):=(ah h6 _).upd hx;let d1:∀b∈b0,∃d∈J,∃rws,b=(d.nm,d.cs,d.cs.map<|dkD dom,dkD dom d.nm,d.wy,rws,):=λb hb=>by
   let(i,hi):=gu hb;let k7:i<J.length:=by rw[←h8];exact(KH.mp hi).1
   let Z:=KG k7;let(rws,e):=rb.bt i _ Z;exact(_,KJ Z,rws,dL<|hi.symm.trans e,)
  let h7:bN a7 b0=fs.map (·.1)++J.map Dw.nm:=by
   unfold bN;rw[b4,gw]
   congr 1
   refine ik λi=>?_
   rw[dn,dn];cases e:J[i]? with
   |none =>
    let q4:J.length≤i:=by rw[AC]at e;exact e
    rw[ia ∅];rfl
   |some d =>
    let(rws,e2):=rb.bt i d e;rw[e2];rfl
  let hB:BkG Y.t Y.r Y.s (upd (upd m dx<|.own x) x<|.ins Y.u dx []) G tv a7 b0:=by
   refine(ak.mono I λ_ _ (d,h1,h2,)=>(d,s2 _ _ h1,h2.same<|sm.trans s2,),ak.mono g7 λ_ _ p=>p.same<|sm.trans s2,λf hf=>?_,λb hb=>?_,∅,∅,)
   .rw[b4]at hf;let(p,hp,rfl):=ck.mp hf;exact oG<|ok.wd _<|fE _<|ck.mpr (p,hp,U,)
   .let(d,hd,rws,rfl):=d1 b hb;let dw:=ok.dw d hd;exact(dw.sm,dw.c4,bQ _,)
  refine(x,dx,D,ta,G,tv,a7,b0,U,af,s2 _ _ eD,s2 _ _<|sm _ _ l3,hB,.inr ((∅,∅,),.inr ((λf hf=>?_,by rw[h7];exact ok.nd,λb hb c hc=>?_,),.inr (λb hb i c k k' e1 e2 e3=>?_,.inr (rb.rk,λi8 fl i9 fc l2 kp e1 e2 e3 f1 f2 g1 g2 g3=>(U,?_,),),),),),)
  .rw[b4]at hf;let(p,hp,rfl):=ck.mp hf;exact ok.wd _<|fE _<|ck.mpr (p,hp,U,)
  .let(d,hd,rws,rfl):=d1 b hb;rw[h7];exact((ok.dw d hd).cin c hc).1
  .let(d,hd,rws,rfl):=d1 b hb;let S:k=dkD dom c:=by
    rw[dn,e1]at e2;exact(dL e2).symm
   let m2:k'=dkD dom c:=by
    rcases eA.mp e3 with h|h
    .rw[b4]at h;let(p,hp,e):=ck.mp h;cases e;rfl
    .let(b2,k9,e):=ck.mp h;let(d2,q5,KD,rfl):=d1 b2 k9;cases e;rfl
   rw[S,m2];exact vJ _
  .let sN:=oz hx h6 kp;let sB:=sm.trans sN;calc q x i8 ((Hi.trans a1).trans sB) (((Hi.trans a1).trans sm).free hx) (dx,fl,i9,fc,tv,l2,e1,e2,e3,g1,g2,ak.mono g3 λp f (d,h1,h2,)=>(d,h1,h2.keep af kp,),ak.mono g7 λ_ _ p=>p.same sB,)
def Ki(F:Fun K "law" "law" Y50 f fd)(bl:Bl K mg Y)(wm:⟨⟩ 13 "_law_book" ["script"] (lK K Y))(O:bu (CX1 P w) P w K mg base 12 "Book" Y.u ["self","facts","tables"] (cR K Y))(lT:⟨⟩ 13 "show_book" ["book"] (kq K Y))(wo:⟨⟩ 13 "read_book" ["text"] (kA K Y))(uR:⟨⟩ 13 "_law_facts" ["plan"] (kr K Y))(pC:⟨⟩ 13 "_law_same_book" ["found","plan","order"] (gJ K Y))(uS:⟨⟩ 13 "_law_table" ["plan","k"] (kx K Y))(fD:⟨⟩ 13 "_law_at" ["script","k"] (mn K Y))(uT:⟨⟩ 13 "_law_lines" ["plan","order"] (kn K Y)):() 14 f fd ["script"] (J6 K):=by
 refine F.ok Z50 (λvs H Q E h=>?_)<|λf5 A d1 s H vs Q E R h=>?_
 .let(a,ns,rfl,hS,c3,q):=h;rfl
 let(a,ns,rfl,hS,c3,q):=h
 refine(_,(aw (aT (aJ cU (aH cD (aH cO (aQ fD R U<|aa (pv 0)<|aa ai ae) ai) ai) ai<|aO _)
  (ag<|aE<|fP cU (aQ lT R U<|aa (mQ O pK R U<|aa (bP ae)<|aa (bP ae) ae) ae) aV<|aO _)
  aG)
  (aw (aL (i:=1) Z50.nd U (pc U)<|aQ wm R U<|aa (pv 0) ae)
  (aw (i5 (i:=2) Z50.nd U (bv U) (b6 U bl.range_<|aa (av au U bl.len_ MN<|aa (az aM (pv 1) ai<|λ_ _=>U) ae) ae) (dN U (~~~0) (~~~0) (~~~0) U) U (λ_ _ _ _=>aX)<|λ_ _ _ _=>(pv 0))
  (aw (aT (aJ cU (aH cD (aH cO (aQ fD R U<|aa (pv 0)<|aa ai ae) ai) ai) ai<|aO _)
  (ag<|aY<|Eh PySem.F.plainAttrs_list PySem.F.slot_list_reverse PySem.F.type_list_reverse w6<|pv 2)
  aG)
  (aw (aL (i:=3) Z50.nd U (bv U)<|mQ O pK R U<|aa (aQ uR R U<|aa (pv 1) ae)<|aa (bZ (aR<|pv 2) (bc (N:=["k","plan"]) (fr:=[1]) (cl:=[("plan",↥s+1)]) U U (~~~0) (~~~0) U (~~~0) U U U (eN.mpr (U,fW _,)) U) U (λ_ _ _ _=>aX)<|λ_ _ _ _=>(aQ uS R U<|aa (pv 1)<|aa (pv 0) ae)) ae)
  (aw (aL (i:=4) Z50.nd U (bv U)<|aQ lT R U<|aa (pv 3) ae)
  (aw (aT (PW.pt<|lh (cE<|bG<|av b9 U bl.isinstance_ im<|aa (pv 4)<|aa (tR (v:=.ty "str") U bl.str_ ss U) ae)<|jk<|aJ lq (pv 4) (bx PySem.F.plainAttrs_str PySem.F.slot_str_join PySem.F.type_str_join eO aV<|aa (aQ uT R U<|aa (pv 1)<|aa (pv 2) ae) ae)<|aO _)
  (ag<|aE kN)
  aG)
  (aw (aL (i:=5) Z50.nd U (bv U)<|aQ wo R U<|aa (pv 4) ae)
  (ag<|aE<|gY (aQ pC R U<|aa (pv 5)<|aa (pv 1)<|aa (pv 2) ae)<|jU<|fP cU (aQ lT R U<|aa (pv 5) ae) (pv 4)<|aO _))))))))),?_,)
 dsimp only[bj,OY,OW];show(let r8:TS:=_;let r7:TS:=a9 _ r8;let r6:TS:=a9 _ r7;let r5:TS:=a9 _ r6;let r4:TS:=a9 _ r5;let r3:TS:=a9 _ r4;let r2:TS:=a9 _ r3;let r1:TS:=a9 _ r2;a9 _ r1 _ _ _);intro _ _ _ _ _ _ _ _;refine(let G:St→Hp→Prop:=λj g=>g=H∧j=[↑a,MP,MP,MP,MP,MP];(G,(a,ns,0,U,hS,pr _,λc=>(_,_,U,U,(⋯,⋯,),_,_,U,U,(by show(0:Int)<7;decide),U,_,U,bK (λ_=>?_)<|λ_=>(U,U,),),),?_,))
 .refine((by show 0≤AY;decide),λl hl=>((by show 0≤AY;decide),λm hm x dx hx X b3=>?_,),);let T:=(ah hl<|HO.lst []).trans<|ah hm<|HO.lst [];let e0:upd (upd H l<|.lst []) m (.lst []) l=MO (.lst []):=ah hm _ _ _ af;let e1:upd (upd H l<|.lst []) m (.lst []) m=MO (.lst []):=af;generalize upd (upd H l<|.lst []) m (.lst [])=H1 at hx X T e0 e1⊢;let s2:aq H1 (upd (upd H1 dx<|.own x) x<|.ins Y.u dx []):=(ah X _).upd hx;calc(x,dx,l,m,[],[],[],[],U,af,s2 _ _ e0,s2 _ _ e1,oH.bkg ak.nil ak.nil,.inr ((⋯,⋯,),.inr (oH.nm,.inr (oH.dm,.inr (oH.rk,λd0 fl a1 fc a4 kp e1 e2 e3 f1 f2 g1 g2 g3=>(U,x,[],[],U,(dx,fl,a1,fc,[],a4,e1,e2,e3,g1,g2,ak.mono g3 λp f (d,h1,h2,)=>(d,h1,h2.keep af kp,),ak.nil,),oH,rE _,λg _=>(U,?_,),),),),),),);exact q g
 rintro e7 H1 ⟨rfl,rfl⟩;calc(let G:St→Hp→Prop:=λj g=>E5 λ(r:AE)(B:M3 Str)(C:M3 PD)(n:M3 PT)(o:Nat)=>A5 (aq H1 g) (PlA g r B C n) (fM B C n o) (1≤o)<|j=[↑a,↑r,MP,MP,MP,MP];(G,(a,ns,U,hS,λr B C n o g s h1 h2 h3 _ _ _ _=>(r,B,C,n,o,s,h1,h2,h3,U,),),?_,));rintro e6 H3 ⟨r,B,C,n,o,s3,Z,ok,e9,rfl⟩;let(nl,dl,b0,dv,tv,er,f3,f4,f0,c4,b4):=id Z;let c0:⇑tv=⇑n:=b4.1;let h7:=ok.n7;let h2:=ok.tab;let e8:=ok.len;refine(let G:St→Hp→Prop:=λj g=>aq H3 g∧∃M:AE,A3 (H3 M=MP) (g M=MO (.lst<|vN<|gl ⇑n)) (j=[↑a,↑r,↑M,MP,MP,MP]);(G,(r,_,_,_,U,U,OV er,U,b0,_,U,.inl<|OU c4,_,U,∅,∅,(let G:AE→Nat→M3 V→Hp→Prop:=λD i S g=>aq H3 g∧g D=MO (.lst S)∧S=vN (gl i);cK G (λD W=>(ah W _,af,U,)) (λD i S g W hi h=>?_) (λD S g W h=>?_)),),?_,))
 .let(T,eD,rfl):=h;refine(b7.mk ∅ eD (aD (by rw[jm,jf];lia)) (T.upd W,af,?_,));rw[jA];unfold vN;rw[dy,v5];rfl
 .let(T,eD,rfl):=h;rw[vr,c0]at eD;exact(T,D,W,eD,U,)
 rintro e5 H4 ⟨s4,M,fo,eo,rfl⟩;refine(let G:St→Hp→Prop:=λj g=>aq H3 g∧∃J:M3 Nat,A3 (J.Perm<|gl ⇑n) (g M=MO (.lst<|vN J)) (j=[↑a,↑r,↑M,MP,MP,MP]);(G,(a,ns,0,U,s4.seq<|s3.seq hS,pr _,λc=>(_,_,U,U,(⋯,⋯,),_,_,U,U,(by show(0:Int)<2;decide),U,_,U,bK (λ_=>(.inl (U,_,OU eo,),M,_,U,U,eo,s4.upd fo,(gl ⇑n).reverse,List.reverse_perm _,?_,U,))<|λ_=>(s4,_,List.Perm.refl _,eo,U,),),),?_,))
 .rw[af];unfold vN;rw[List.map_reverse]
 clear eo s4;rintro e4 H5 ⟨s5,J,a2,eo,rfl⟩;let a0:∀k∈J,k<⇑n:=λk hk=>gW.mp<|a2.mem_iff.mp hk
 let a7:J.length≤10:=by rw[a2.length_eq,jf];lia
 let hp:(prm J<|tsP B C n o).Perm (tsP B C n o):=B3 (by rw[j4];exact a2);let I:=vW ok hp;let a3:=B4 ok hp;let(L,LN,dom,c9,c8,hL,t1,t2,t3,t4,l1,l2,l3):=I.read (λe=>by have:=M0 M6 e;rw[gL]at this;simp at this;lia) a3;refine(let G:St→Hp→Prop:=λj g=>aq H5 g∧∃x:AE,BkO Y.u Y.t Y.r Y.s g x (fsP B C o) (prm J<|tsP B C n o)∧j=[↑a,↑r,↑M,↑x,MP,MP];(G,(r,B,C,n,o,U,Z.same s5,ok,λfa fv H6 s6 c7 c2=>(M,U,(_,OU<|s6 _ _ eo,),(let G:AE→Nat→M3 V→Hp→Prop:=λD i S g=>aq H6 g∧g D=MO (.lst S)∧ak S (J.take i) (TbN (Fr H6 D) Y.t Y.r Y.s g B C n o);bC (xs:=vN J) G (λD W=>(ah W _,af,ak.nil,)) (λD i S g W _ h=>OU<|h.1 _ _<|s6 _ _ eo) (λD i y S g W e h=>?_) (λD S g W h=>?_)),),),?_,))
 .let(T,eD,hy):=h;let(k,rfl,ek):=qO e;let hi:i<⇑(vN J):=(KH.mp e).1;let c1:=a0 k<|KJ ek;let et:=KG c1;generalize n[k]=t at et;let hk:=(KH.mp et).1;let c6:=KG (l:=B) (i:=o+k) ∅;let c5:=KG (l:=C) (i:=o+k) ∅;calc(r,k,B,C,n,o,t,_,_,U,Z.same<|(s5.trans s6).trans T,ok,et,c6,c5,λx H7 s7 hx=>?_,);let a8:=s7 _ _ eD;refine b7.mk hi a8 (aD (by rw[hy.1,eH];lia)) ((T.trans s7).upd W,af,?_,);rw[take_snoc ek];exact ak.mono (ak.snoc (ak.mono hy λ_ _ p=>p.same s7)<|hx.wk λb h=>⟨T.free h,λz=>by rw[z,eD]at h;cases h⟩) λ_ _ p=>p.upd Fr.out a8
 .let(T,eD,hy):=h;rw[jm,dY]at hy;intro x dx hx X b3;let s2:aq g (upd (upd g dx<|.own x) x<|.ins Y.u dx []):=(ah X _).upd hx;let rf:=GC c2;let rt:=Ft a0<|ak.mono hy λ_ _ p=>p.tb;let sA:=T.trans s2;calc(x,dx,fa,D,fv,S,_,_,U,af,sA _ _ c7,s2 _ _ eD,I.bkg (ak.mono rf λ_ _ p=>p.same sA)<|ak.mono rt λ_ _ p=>p.same s2,.inr ((I.f20,I.b30,),.inr (I.nm,.inr (I.dm,.inr (I.rk,λd0 fl a1 fc a4 kp e1 e2 e3 f1 f2 g1 g2 g3=>(U,?_,),),),),),);let sN:=oz hx X kp;exact((s6.trans T).trans sN,x,(dx,fl,a1,fc,S,a4,e1,e2,e3,g1,g2,ak.mono g3 λp f (d,h1,h2,)=>(d,h1,h2.keep af kp,),ak.mono rt λ_ _ p=>p.same sN,),U,)
 rintro d5 H6 ⟨s6,x,hB,rfl⟩;refine(let G:St→Hp→Prop:=λj g=>aq H6 g∧j=[↑a,↑r,↑M,↑x,MO<|.str<|io NL L,MP];(G,(x,_,_,U,hB,I,a3,λg s=>?_,),?_,))
 .rw[hL];exact(s,U,)
 rintro d4 H7 ⟨s7,rfl⟩;let sP:=(s5.trans s6).trans s7;refine(let G:St→Hp→Prop:=λj g=>aq H7 g∧j=[↑a,↑r,↑M,↑x,MO<|.str<|io NL L,MP];(G,(_,_,_,_,MQ,U,.ty _,.inl<|.str _,(by first|rfl|with_unfolding_all rfl|decide+kernel),_,U,bI (U,r,M,B,C,n,o,J,_,_,U,Z.same sP,ok,(s6.trans s7) _ _ eo,a0,a7,U,U,λl g s _ el=>?_,),),?_,))
 .rw[hL]at el;exact(_,l,_,U,U,OU el,(~~~0),t1,U,_,U,nP U (s,U,),)
 rintro d3 H8 ⟨s8,rfl⟩;calc(let G:St→Hp→Prop:=λj g=>aq H8 g∧∃x':AE,BkO Y.u Y.t Y.r Y.s g x' (fsP B C o) (prm J<|tsP B C n o)∧j=[↑a,↑r,↑M,↑x,MO<|.str<|io NL L,↑x'];(G,(_,_,LN,U,.inr (t2,t3,t4,),l1,dom,c9,c8,_,_,l2,l3,λx a5 s' _ h=>(s',x,h,U,),),?_,));rintro d2 H9 ⟨s9,x',a6,rfl⟩;let sQ:=s8.trans s9;calc(x',r,M,B,C,n,o,J,U,Z.same<|sP.trans sQ,ok,((s6.trans s7).trans sQ) _ _ eo,a0,a7,a6,λg s=>(_,U,eU (x',_,_,U,a6.same s,I,a3,λa5 _=>(U,?_,),),),);let q':Q (.bl<|MS<|OT (io NL<|dt (fsP B C o)<|prm J<|tsP B C n o)=OT (io NL L)) a5:=by rw[hL,MX U];exact q a5
 calc q'
end
structure FF(K:ac)(Y:AD):Prop where
 (h0:GF K "all_among" "all_among" Y36)
 (h1:GF K "is_word" "is_word" Y49)
 (h2:GF K "is_number" "is_number" Y47)
 (h3:GF K "number_of" "number_of" Y73)
 (h4:GF K "number_text" "number_text" Y74)
 (h5:GF K "is_whole" "is_whole" Y48)
 (h6:GF K "alike" "alike" Y35)
 (h7:GF K "read_domain" "read_domain" Y78)
 (h8:GF K "read_numbers" "read_numbers" Y79)
 (h9:GF K "refuse_counts_books" "refuse_counts" Y85)
 (h10:GF K "refuse_names_books" "refuse_names" Y90)
 (h11:GF K "refuse_domains" "refuse_domains" Y88)
 (h12:GF K "refuse_rings" "refuse_rings" Y94)
 (h13:GF K "named_among" "named_among" Y72)
 (h14:GF K "tidy" "tidy" EE)
 (h15:GF K "both" "both" Y37)
 (h16:GF K "without" "without" EG)
 (h17:GF K "gaps" "gaps" Y45)
 (h18:GF K "read_cell" "read_cell" Y77)
 (h19:GF K "read_set" "read_set" Y82)
 (h20:GF K "read_part" "read_part" Y80)
 (h21:GF K "read_range" "read_range" Y81)
 (h22:GF K "code_in_cell" "code_in_cell" Y39)
 (h23:GF K "show_cell" "show_cell" EH)
 (h24:GF K "words_of" "words_of" EI)
 (h25:GF K "show_range" "show_range" EJ)
 (h26:GF K "read_value" "read_value" Y83)
 (h27:GF K "show_value" "show_value" EK)
 (h28:GF K "way_by" "way_by" EL)
 (h29:GF K "refuse_names_tables" "refuse_names" Y92)
 (h30:GF K "refuse_counts_tables" "refuse_counts" Y87)
 (h31:GF K "refuse_way" "refuse_way" Y96)
 (h32:GF K "refuse_row" "refuse_row" Y95)
 (h33:GF K "own_row" "own_row" Y75)
 (h34:GF K "read_book" "read_book" Y76)
 (h35:GF K "take_line" "take_line" EM)
 (h36:GF K "fact_parts" "fact_parts" Y43)
 (h37:GF K "drafted" "drafted" Y42)
 (h38:GF K "row_parts" "row_parts" Y98)
 (h39:GF K "cut" "cut" Y41)
 (h40:GF K "refuse_counts_reading" "refuse_counts" Y86)
 (h41:GF K "refuse_names_reading" "refuse_names" Y91)
 (h42:GF K "refuse_columns" "refuse_columns" Y84)
 (h43:GF K "refuse_fields" "refuse_fields" Y89)
 (h44:GF K "cells_of" "cells_of" Y38)
 (h45:GF K "row_cells" "row_cells" Y97)
 (h46:GF K "refuse_numbers" "refuse_numbers" Y93)
 (h47:GF K "codes_of" "codes_of" Y40)
 (h48:GF K "made_table" "made_table" Y71)
 (h49:GF K "show_book" "show_book" EN)
 (h50:GF K "head_text" "head_text" Y46)
 (h51:GF K "row_text" "row_text" Y99)
 (h52:GF K "fields_text" "fields_text" Y44)
 (h53:GF K "_law_at" "_law_at" Y51)
 (h54:GF K "_law_words" "_law_words" Y70)
 (h55:GF K "_law_domain" "_law_domain" Y53)
 (h56:GF K "_law_pool" "_law_pool" Y61)
 (h57:GF K "_law_spans" "_law_spans" Y66)
 (h58:GF K "_law_row" "_law_row" Y62)
 (h59:GF K "_law_book" "_law_book" Y52)
 (h60:GF K "_law_made" "_law_made" Y59)
 (h61:GF K "_law_table" "_law_table" Y67)
 (h62:GF K "_law_facts" "_law_facts" Y55)
 (h63:GF K "_law_domain_text" "_law_domain_text" Y54)
 (h64:GF K "_law_part_text" "_law_part_text" Y60)
 (h65:GF K "_law_field" "_law_field" Y56)
 (h66:GF K "_law_value" "_law_value" Y68)
 (h67:GF K "_law_head" "_law_head" Y57)
 (h68:GF K "_law_when" "_law_when" Y69)
 (h69:GF K "_law_same_domain" "_law_same_domain" Y64)
 (h70:GF K "_law_same_table" "_law_same_table" Y65)
 (h71:GF K "_law_same_book" "_law_same_book" Y63)
 (h72:GF K "_law_lines" "_law_lines" Y58)
 (h108:GF K "law" "law" Y50)
 (m74:MF K Y.r "written" "Numbers.written" Y20)
 (m75:MF K Y.s "written" "Words.written" Y34)
 (m76:MF K Y.r "worth" "Domain.worth" Y9)
 (m77:MF K Y.r "value_at" "Numbers.value_at" Y19)
 (m78:MF K Y.r "has_code" "Domain.has_code" Y5)
 (m79:MF K Y.s "worth" "Domain.worth" Y10)
 (m80:MF K Y.s "value_at" "Words.value_at" Y33)
 (m81:MF K Y.s "has_code" "Domain.has_code" Y6)
 (m82:MF K Y.r "whole" "Domain.whole" Y7)
 (m83:MF K Y.s "whole" "Domain.whole" Y8)
 (m97:MF K Y.r "code" "Domain.code" Y3)
 (m98:MF K Y.r "borne_code" "Numbers.borne_code" Y18)
 (m99:MF K Y.r "bears" "Numbers.bears" Y17)
 (m100:MF K Y.s "code" "Domain.code" Y4)
 (m101:MF K Y.s "borne_code" "Words.borne_code" Y32)
 (m102:MF K Y.s "bears" "Words.bears" Y31)
 (k73:KF K Y.u "Book" "Book.__init__" Y0)
 (k84:KF K Y.v "Draft" "Draft.__init__" Y11)
 (k85:KF K Y.k "First" "First.__init__" Y12)
 (k87:KF K Y.l "Only" "Only.__init__" Y21)
 (k89:KF K Y.m "Like" "Like.__init__" Y14)
 (k91:KF K Y.n "Low" "Low.__init__" Y15)
 (k93:KF K Y.o "High" "High.__init__" Y13)
 (k95:KF K Y.p "Sum" "Sum.__init__" Y22)
 (k103:KF K Y.t "Table" "Table.__init__" Y23)
 (k104:KF K Y.s "Words" "Words.__init__" Y30)
 (k106:KF K Y.r "Numbers" "Numbers.__init__" Y16)
 (b86:BF K Y.j "Way" "__init__" "Way.__init__" Y24)
 (b88:BF K Y.j "Way" "__init__" "Way.__init__" Y28)
 (b90:BF K Y.j "Way" "__init__" "Way.__init__" Y26)
 (b92:BF K Y.j "Way" "__init__" "Way.__init__" Y27)
 (b94:BF K Y.j "Way" "__init__" "Way.__init__" Y25)
 (b96:BF K Y.j "Way" "__init__" "Way.__init__" Y29)
 (b105:BF K Y.q "Domain" "__init__" "Domain.__init__" Y2)
 (b107:BF K Y.q "Domain" "__init__" "Domain.__init__" Y1)
 (z0:ls K B5 "len" = MO MP)
 (z1:ls K B5 "int" = MO MP)
 (z2:ls K B5 "str" = MO MP)
 (z3:ls K B5 "isinstance" = MO MP)
 (z4:ls K B5 "bool" = MO MP)
 (z5:ls K B5 "set" = MO MP)
 (z6:ls K B5 "dict" = MO MP)
 (z7:ls K B5 "zip" = MO MP)
 (z8:ls K B5 "sorted" = MO MP)
 (z9:ls K B5 "max" = MO MP)
 (z10:ls K B5 "min" = MO MP)
 (z11:ls K B5 "list" = MO MP)
 (z12:ls K B5 "enumerate" = MO MP)
 (z13:ls K B5 "range" = MO MP)
 (y0:∃u,ls K B5 "MOST_SIGNS" = MO (MO u)∧RelV (pi 12) u)
 (y1:∃u,ls K B5 "SMALL_LETTERS" = MO (MO u)∧RelV (OT "abcdefghijklmnopqrstuvwxyz") u)
 (y2:∃u,ls K B5 "MOST_FIGURES" = MO (MO u)∧RelV (pi 60) u)
 (y3:∃u,ls K B5 "FIGURES" = MO (MO u)∧RelV (OT "0123456789") u)
 (y4:∃u,ls K B5 "MOST_FACTS" = MO (MO u)∧RelV (pi 20) u)
 (y5:∃u,ls K B5 "MOST_TABLES" = MO (MO u)∧RelV (pi 30) u)
 (y6:∃u,ls K B5 "NOT" = MO (MO u)∧RelV (OT "not ") u)
 (y7:∃u,ls K B5 "ALL" = MO (MO u)∧RelV (OT "-") u)
 (y8:∃u,ls K B5 "UP_TO" = MO (MO u)∧RelV (OT "..") u)
 (y9:∃u,ls K B5 "MOST_ROWS" = MO (MO u)∧RelV (pi 200) u)
 (y10:∃u,ls K B5 "MOST_COLUMNS" = MO (MO u)∧RelV (pi 4) u)
 (y11:∃u,ls K B5 "FACT" = MO (MO u)∧RelV (OT "fact ") u)
 (y12:∃u,ls K B5 "TABLE" = MO (MO u)∧RelV (OT "table ") u)
 (y13:∃u,ls K B5 "WHEN" = MO (MO u)∧RelV (OT "when ") u)
 (y14:∃u,ls K B5 "NAMED" = MO (MO u)∧RelV (OT ": ") u)
 (y15:∃u,ls K B5 "TO" = MO (MO u)∧RelV (OT " -> ") u)
 (y16:∃u,ls K B5 "BY" = MO (MO u)∧RelV (OT " by ") u)
 (y17:∃u,ls K B5 "BETWEEN_NAMES" = MO (MO u)∧RelV (OT ", ") u)
 (y18:∃u,ls K B5 "BETWEEN_FIELDS" = MO (MO u)∧RelV (OT " | ") u)
 (y19:∃u,ls K B5 "MOST_WORDS" = MO (MO u)∧RelV (pi 40) u)
local macro_rules|`(tactic|trivial)=>`(tactic|exact λF=>F.binds λ_ _ _ _ _ _=>by first|exact _L.lb0 rfl|exact _L.lb1 λ_=>U|exact _L.lb2 λ_ _=>U|exact _L.lb3 λ_ _ _=>U|exact _L.lb4 λ_ _ _ _=>U|exact _L.lb5 λ_ _ _ _ _=>U|exact _L.lb6 λ_ _ _ _ _ _=>U|exact _L.lb7 λ_ _ _ _ _ _ _=>U|exact _L.lb8 λ_ _ _ _ _ _ _ _=>U|exact _L.lb9 λ_ _ _ _ _ _ _ _ _=>U)
def all_mk{l:W.OpenLaw}{w:zZ}{K:ac}{h:AU}{d:Str→Option zY}{Q:AE}{Y:AD}(X:K.In h)(G:h.Ns B5 d)(p:d "law" = ↑Q) (b:Bk K Y)(u:FF K Y)
  : ∃g:Le,(∀(s:Ct)(v:zY),Lf s g ([v],[],) [("script",v)])∧∀c:AU,K.In c→c.Ns B5 d→aU l.prog w K d c CX0 14 Q g ["script"] (J6 K):=by
 cases u.h108 with | @mk _ g a F =>
 cases p.symm.trans (pp X G a);let bl:Bl K d Y:=(b,pp X G b.n_TableError,pp X G b.n_BadNumber,pp X G b.n_BadDomain,pp X G b.n_BadCell,pp X G b.n_Outside,pp X G b.n_TooMany,pp X G b.n_BadName,pp X G b.n_Unlike,pp X G b.n_Ring,pp X G b.n_Way,pp X G b.n_First,pp X G b.n_Only,pp X G b.n_Like,pp X G b.n_Low,pp X G b.n_High,pp X G b.n_Sum,pp X G b.n_Domain,pp X G b.n_Numbers,pp X G b.n_Words,pp X G b.n_Table,pp X G b.n_Book,pp X G b.n_Draft,wr X G u.z0,wr X G u.z1,wr X G u.z2,wr X G u.z3,wr X G u.z4,wr X G u.z5,wr X G u.z6,wr X G u.z7,wr X G u.z8,wr X G u.z9,wr X G u.z10,wr X G u.z11,wr X G u.z12,wr X G u.z13,(let ⟨_,y,x⟩:=u.y0;(_,pp X G y,x,)),(let ⟨_,y,x⟩:=u.y1;(_,pp X G y,x,)),(let ⟨_,y,x⟩:=u.y2;(_,pp X G y,x,)),(let ⟨_,y,x⟩:=u.y3;(_,pp X G y,x,)),(let ⟨_,y,x⟩:=u.y4;(_,pp X G y,x,)),(let ⟨_,y,x⟩:=u.y5;(_,pp X G y,x,)),(let ⟨_,y,x⟩:=u.y6;(_,pp X G y,x,)),(let ⟨_,y,x⟩:=u.y7;(_,pp X G y,x,)),(let ⟨_,y,x⟩:=u.y8;(_,pp X G y,x,)),(let ⟨_,y,x⟩:=u.y9;(_,pp X G y,x,)),(let ⟨_,y,x⟩:=u.y10;(_,pp X G y,x,)),(let ⟨_,y,x⟩:=u.y11;(_,pp X G y,x,)),(let ⟨_,y,x⟩:=u.y12;(_,pp X G y,x,)),(let ⟨_,y,x⟩:=u.y13;(_,pp X G y,x,)),(let ⟨_,y,x⟩:=u.y14;(_,pp X G y,x,)),(let ⟨_,y,x⟩:=u.y15;(_,pp X G y,x,)),(let ⟨_,y,x⟩:=u.y16;(_,pp X G y,x,)),(let ⟨_,y,x⟩:=u.y17;(_,pp X G y,x,)),(let ⟨_,y,x⟩:=u.y18;(_,pp X G y,x,)),(let ⟨_,y,x⟩:=u.y19;(_,pp X G y,x,)),);refine(g,λs v=>by let(_,_,_,_,_,_,_,_,_,e,_,_):=F.ex;rw[e];exact .of_eq U,λc _ _=>?_,);let z:Zb l.prog w K d c:=(X,G,);let C:=mkC z u.h0 λF=>Im F bl
 let j:=mkC z u.h4 λF=>Io F bl
 let t:=mkC z u.h5 λF=>Ip F bl
 let Dt:=mkC z u.h6 λF=>Iq F bl
 let kX:=mkX z u.h9 λF=>Ir F bl
 let si:=mkC z u.h13 λF=>Iu F bl
 let Fy:=mkC z u.h14 λF=>GK F bl
 let Fz:=mkC z u.h15 λF=>Iy F bl
 let FA:=mkC z u.h17 λF=>Iz F bl
 let xT:=mkC z u.h24 λF=>GN F bl
 let kH:=mkC z u.h30 λF=>IA F bl
 let Z:=mkC z u.h33 λF=>IB F bl
 let o:=mkC z u.h39 λF=>IC F bl
 let jP:=mkC z u.h40 λF=>ID F bl
 let pD:=mkC z u.h42 λF=>IE F bl
 let p7:=mkC z u.h43 λF=>IF F bl
 let q:=mkC z u.h53 λF=>IG F bl
 let B:=mkC z u.h54 λF=>IH F bl
 let xU:=mkC z u.h56 λF=>II F bl
 let wt:=mkC z u.h57 λF=>IJ F bl
 let J:=mkC z u.h63 λF=>IK F bl
 let p8:=mkC z u.h64 λF=>IL F bl
 let wu:=mkC z u.h66 λF=>IM F bl
 let I:=mkC z u.h69 λF=>IP F bl
 let O:=mkM z u.m75 λF=>IQ F bl
 let iZ:=mkM z u.m77 λF=>IS F bl
 let kI:=mkM z u.m80 λF=>IT F bl
 let m:=mkM z u.m82 λF=>O_7 F bl
 let k:=mkM z u.m83 λF=>O_8 F bl
 let kJ:=mkK z u.k84 λF=>IU F bl
 let lU:=mkB z u.b86 λF=>IV F bl
 let mI:=mkB z u.b88 λF=>IW F bl
 let mJ:=mkB z u.b90 λF=>IX F bl
 let nu:=mkB z u.b92 λF=>IY F bl
 let mK:=mkB z u.b94 λF=>IZ F bl
 let nA:=mkB z u.b96 λF=>Ja F bl
 let ij:=mkM z u.m98 λF=>Jb F bl
 let jB:=mkM z u.m101 λF=>Jc F bl
 let mL:=mkM z u.m102 λF=>Jd F bl
 let jQ:=mkB z u.b105 λF=>O_2 F bl
 let i3:=mkB z u.b107 λF=>O_1 F bl
 let f:=mkC z u.h1 λF=>Je F bl C.up
 let A:=mkC z u.h2 λF=>Jf F bl C.up
 let pE:=mkX z u.h11 λF=>Jg F bl Dt.up
 let rK:=mkX z u.h12 λF=>GO F bl si.up
 let V:=mkC z u.h16 λF=>GP F bl Fz.up FA.up
 let uU:=mkC z u.h25 λF=>GQ F bl j.up
 let uV:=mkC z u.h36 λF=>Jk F bl o.up
 let wx:=mkC z u.h38 λF=>GR F bl o.up
 let uW:=mkC z u.h55 λF=>Jl F bl B.up
 let T:=mkC z u.h58 λF=>Jm F bl wt.up
 let wz:=mkC z u.h65 λF=>Jn F bl p8.up
 let xV:=mkC z u.h67 λF=>Jo F bl J.up
 let pF:=mkC z u.h70 λF=>Jp F bl I.up
 let S:=mkM z u.m74 λF=>Jq F bl j.up
 let n:=mkM z u.m78 λF=>O_5 F bl t.up
 let R:=mkM z u.m81 λF=>O_6 F bl t.up
 let kK:=mkK z u.k85 λF=>Jr F bl lU.up
 let lV:=mkK z u.k87 λF=>Js F bl mI.up
 let lW:=mkK z u.k89 λF=>Jt F bl mJ.up
 let nB:=mkK z u.k91 λF=>Ju F bl nu.up
 let lX:=mkK z u.k93 λF=>Jv F bl mK.up
 let nE:=mkK z u.k95 λF=>Jw F bl nA.up
 let mM:=mkM z u.m100 λF=>O_4 F bl jB.up mL.up
 let P:=mkK z u.k106 λF=>Jx F bl i3.up
 let i:=mkX z u.h3 λF=>Jy F bl A.up
 let lZ:=mkX z u.h10 λF=>Jz F bl f.up
 let wA:=mkC z u.h23 λF=>GW F bl m.up k.up xT.up uU.up
 let kY:=mkC z u.h29 λF=>JB F bl f.up
 let uX:=mkC z u.h32 λF=>GX F bl n.up R.up
 let Aa:=mkC z u.h37 λF=>JC F bl o.up kJ.up
 let kL:=mkC z u.h41 λF=>JD F bl pD.up f.up
 let wB:=mkC z u.h50 λF=>JE F bl S.up O.up
 let xW:=mkC z u.h59 λF=>JF F bl uW.up xU.up q.up B.up T.up
 let xX:=mkC z u.h68 λF=>JH F bl wz.up wu.up
 let p9:=mkC z u.h71 λF=>JI F bl pF.up I.up
 let kM:=mkM z u.m76 λF=>O_9 F bl iZ.up n.up
 let l5:=mkM z u.m79 λF=>JJ F bl kI.up R.up
 let jR:=mkM z u.m99 λF=>JK F bl n.up
 let M:=mkK z u.k104 λF=>JL F bl jQ.up f.up
 let rL:=mkC z u.h8 λF=>JM F bl P.up i.up A.up
 let uY:=mkC z u.h27 λF=>G2 F bl j.up kM.up l5.up
 let B7:=mkC z u.h28 λF=>G3 F bl kK.up lV.up lW.up nB.up lX.up nE.up
 let wC:=mkC z u.h35 λF=>G4 F bl uV.up Aa.up wx.up
 let pG:=mkC z u.h46 λF=>JN F bl i.up
 let sj:=mkC z u.h52 λF=>JO F bl wA.up
 let wD:=mkC z u.h72 λF=>JP F bl xV.up J.up xX.up
 let N:=mkK z u.k73 λF=>O_0 F bl kX.up lZ.up pE.up rK.up
 let kZ:=mkM z u.m97 λF=>O_3 F bl ij.up jR.up
 let sk:=mkC z u.h7 λF=>JQ F bl M.up rL.up
 let E:=mkX z u.h26 λF=>JR F bl kZ.up mM.up i.up
 let D:=mkC z u.h31 λF=>G6 F bl B7.up
 let xY:=mkC z u.h51 λF=>G7 F bl uY.up sj.up
 let r:=mkC z u.h60 λF=>JS F bl P.up M.up
 let H:=mkX z u.h22 λF=>JT F bl E.up
 let xZ:=mkC z u.h47 λF=>JU F bl E.up
 let wF:=mkC z u.h49 λF=>G8 F bl S.up O.up wB.up xY.up
 let wG:=mkC z u.h62 λF=>JV F bl r.up
 let L:=mkK z u.k103 λF=>JW F bl kY.up kH.up D.up uX.up Z.up
 let uZ:=mkX z u.h21 λF=>JX F bl H.up
 let wH:=mkX z u.h20 λF=>JY F bl H.up uZ.up
 let u6:=mkC z u.h48 λF=>JZ F bl L.up
 let wI:=mkC z u.h61 λF=>J7 F bl L.up r.up
 let ya:=mkX z u.h19 λF=>Kb F bl Fy.up m.up k.up wH.up
 let wJ:=mkX z u.h18 λF=>Kc F bl ya.up V.up m.up k.up
 let wK:=mkC z u.h45 λF=>G9 F bl wJ.up
 let yb:=mkC z u.h44 λF=>Kd F bl wK.up
 let wL:=mkC z u.h34 λF=>Ke F bl jP.up kL.up N.up wC.up D.up p7.up yb.up pG.up xZ.up u6.up sk.up
 calc Ki F bl xW.up N.up wF.up wL.up wG.up p9.up wI.up q.up wD.up
def walk{l:W.OpenLaw}{q:An}{c:M3 Str}{XP:(Str→Option zY)→AU→Prop}{m:zZ→AU→Prop}{d:DefRec}{K:LA→ac}(p:l.most=MO 63)(g:d.params.defaults=[])
  (t:∀(w:zZ)(h:AU),m w h→(K w.params).In h)
  (F:∀(w:zZ)(e:Str→Option zY)(j:AE)(h:AU),(K w.params).In h→h.Ns B5 e→e d.name=↑j →
   ∃i:Le,(∀(s:Ct)(u:zY),Lf s i ([u],[],) [("script",u)])∧∀b:AU,(K w.params).In b→b.Ns B5 e→aU l.prog w (K w.params) e b CX0 14 j i ["script"] (J6<|K w.params)) :
  W.WalkO q c XP m l.row.toRowW d [] (λf vs=>PySem.call f vs) :=
 _L.walk_of (n:=63) (k:=14) (x := "script") (CX:=λ_=>CX0) (sp:=λw=>J6<|K w.params) p ⋯ g (U,⋯,⋯,) t F (λ_ _ a o r _ v=>(a,o,U,v,r,λ_=>U,)) λ_ _ _ _ _ z=>z
end _M
set_option genSizeOf false in
set_option genInjectivity false in
open Lean in
set_option hygiene false in
local macro_rules(kind:=Lean.Parser.Command.declaration)|s=>do
 let some t:=(s.find? (·.isStrLit?.isSome)).bind (·.isStrLit?)|Macro.throwUnsupported
 if s[1].getKind != ``Lean.Parser.Command.structure then Macro.throwUnsupported
 let(_,_,a):=t.foldl (λ(k,n,a) c=>let n:=n*91+c.toNat-(if c.toNat>92 then 36 else 35);if k==9 then (0,0,a.push (mkIdent (.mkSimple ("tw"++toString n)))) else (k+1,n,a)) (0,0,(#[]:Array Ident))
 `(structure PySem.W.Fast:Prop where ($a* : True))
structure A:Prop where(x:True:="+0DUqe+UQT1Qx9L^aQsD*/CgO]ZgoF(Hy]JDBOlA,ik$W):w~DJ9L@FWYQk<<WB/-A:r6.-9(7H5D*7e=:KXtvaXVxA[r.DT3EK]==0olL&Y,z;t#=9L3&gA=}Tv-T8|@2<*J`D|jAhUDSH}G{{TyaFTDR#d~P9=,>o0m$?-n50?-=b@6zJ.Ivy|.<)j,:':&>|g5fDX3bL(,iVV[o?2>YBS7jrH1tse#O&2Bu88ST_I$yk{4H#[T.OaBp)V@Wph$y&R7341%]@+(c=.@$F'P~x-$Lv)Y|mwm.LE+j#b5w}^284FL5/oLG$9b8T8OU)hB3K}FcRj:i.6bi=GC|leC`:B17n-qK,CWK_3%Cnp<O$[u.7#.OIs~GDWZW3U50.YknOMkU(]+F43N4(m;<n_S=)yGr(g2xe:XpEkB9%#C69{H/:|2`g0A{;8)3eFm&]<jVB2cclJ54-2C4*n9>$i{3J(:qfD{3'43,I)?83MK2B4Jp*]A7*7E]C&d@45T>EEGv<?vqM)9wd7WtqQd)Gw?a(flRGD#VYmWG,#{)D<2K#u&'`vCe*#IiI7@m>f_<XTTp5<@Ef;/j{-yU99YM]:~I(H7mV*eb^x>b)a]I0E'%dg4U%CMz66=N<]D@^4JVR|;1Xt7y&*6'E$[@z:.Doq1Gh#4(7[`39z[OdMrb}TL+e=qYPFvD7B1f+{0@,@LkbyN.3%|b>Z$i.N%vl3MMK~y[riAT%qB@3nhs?iBTn%5EeH|sEQ1>j5Ce8%-U0#ABDnxgJ7Qh4]m{$F(f]X=j|YNM4rK*47u^^~#VnAQwi[082YTjQKu}s+3'lKIN8S&58'Q}Jn`MF&(gn4q,,#.GLgNozz;J6F8*~1yZGtr;B1y>P/ss97+oVh)d2Zdl'<7}:w%*ZN/?kTg2`cGS$&ZWo<Dr[d'i,1sNCosX'B8xC$7xuw=Fi%48>+G?BePD|#j^k*@3flKK]v+|=rTY8FECZ}6`K&3c&|c5)wpEN%N#~0)kJ1Hg',T;=tOqjd;72dJvs&z3^4cX8vD6_I3h.):M+&n>kZy6%Lx#9rU(b[.)m,R:l2gRMfvj<'h3/j.7p?^t@Rq8?{wIkI~~SI=#iehs_Rk=@S{%Ehl-')1iCv3_:7js%c>]hMcc3IDkOKyuhI,}&pZy{Y')>8-v%/MM.9]Z1Lol$mkHcQ2oT(yg4?XT*9OO#Hs/,@GIqi83vWBk0_Y%RQ[:8kM3d5SlJJ8)5@kw*sd:JU29re0$?1Ji2;i_;Tq~1$JuT;xq2{<92|$xUXZ#Cb(C@w,+MO3'=xm*9IqVPv9VZEXA+(SIAJhJ2b+,.q3Ou}nMkgc@)n2Ngjq_._I~UJ^[R;;+*PI$S*RuHAMK.y2@TB).@EuqnEz?8G&:P=.F:A'$(*lcN:4dbm7ov{^7~@Qc?,VR}u'=9j45m4aN3<W;FsN4tafdlDHKlM-5Hvr[K~'y1u9R]d89dWvc^v$:=V<S(7$=i[;,jh2'lp?[J)<<+x$x)4%U,Cww+dPj8^0^d.+x:q&|>RpA0t|R<GJJ@7Z{v2>E^npqp_;S2(Qdgm_`9I7<E-XbOg(V%a;:z}fF9Y@On:sR5(L:A4IQGbxg/I-{wJ]~w,($0Bu>:M@L^w4Z=d-iz>u>CNBNg0^ROV3%:N[0Lo|/?e7Tf$4nZ7JOC58~E46L./<|OJLH{$)[Q8,B-dZ2$#RTcd#91+#kHhcY2xLT=;lGxD%2w^/dU.JFd3R'2oC,A|DBO[K<B4(Pv_<(Mz>ESCVniQ?thW2WU'b]G:T`^slg[y:R~{Sn.NRa;1jJ&aD<;57Z2b3i1Wr)/[30coABXp&d'?#+;hoRF)A%v9>m43M,kMQ^B^TY%rX62bt;GS*F{{laa[=E5zmwH$Q)aY@h|IV5vn1{8Ni#/RaWHs/QI,sn-0Mm&v}EyaebGX4ae#]>+Wx~KENkToR3f3:1,A#y>2}e=+qzi'L*=f&?rmh<dfpu8u)Q:6,mtO4H#:?6J=tDEnb?,mC&f^D4T-8'{Lb@KhX%*]:PIY([L%9n)hFx6|ui8yx<qBGvkc$^*U$x+>:654&I3e7kN~>[U_AW:G&djr>A1R.g2+,?T(ijIVeRW{m%o-D(X$&BYqtO4.;F5^JP^M=Tz)+&OWI3I}}T9(rp%^5EThXm^<L%?In'e;uawn&Qh=.KR|FB2_a[9OXYp;'ku3_4&A&jI;4{?IK&gS+Bk1MOk<;1G#Si1.JD9f<Pj/cbyEkv)Z;e+L]bAm@'W})Zs&S0,&%>~xm*[5-G0cD3{||8/8P-]N5}n}*:3~Lr^U3;L{23D:Me@r:,biVf<Ed_/u6>)Iz{@d+UAa|g)y;iEJYTV,4~cV6wVdu:0gT],zSxHvk.pBGG-1lja-gH9|(yhmR)tW29+&4:CiExA3N)4z%l`<2sw>>Cz{b73A774m9uj8*J3|3TJ6VM(k)FmWj'-^*%E'moRx[f0q9$?$sHk;(FLb>EDt;80tvV*KK,X#2<pT@M>hr-($nFx/6Hw+BK]=wH7E$9JI.1|OKMm.(&]G*#QH6sK*ahODE>7Q'{7I$.[?M>C[{#|);^Ge5T_2pzW%+C0%k}DMzi%aA66,%l,|=RD~:^m@J9y$1RFbU/J0K`$b{j@luvd`$8(GG+W=H^Fph>^EZ{vD#sG$b:.>k/5F7Lu2cdm}/>*$_X&cnf&V$86{UIy:$NClAY]O4|&y][?:}Y|p@BN>f<,+ckLp_jr.6Y&bHAMK(^P(4F<lQ)/EiLl~FEf*$v6q[cE8c6a@Dx,:%GseO+,j]v7keMyoZ_C{5Dta0YB#Ph%I^NYImsN{ED/POx|.p{DZ.V<Z>xv#%g&N(Tmr'3IC),/m;/<>Gr-JeJMf`B92~ghklSB=6f`DcU&Svt('C8[djc#F$t]5C`rV#g$mt&Z^cX*OI~RmI6yTU{?V-/$HUJ^54TC7?XU)6W;^DZOX&9CS.?MWN/fCtC;geY<Dt+G+'xGa4Cr-^#H%D:>iRBy);&K`x3*raJ&Stb.*Bz|4=I*Wbl`.n?3:A)iN'ri,MSRb=K1<R:H+];04,v7E%K=v9~k{Lx9'5$EhgB/a3e*@7,R^N2@-%l[nG2P~-M7B{oz4_`BI[bJj+:l#J,hLRXKi.F-wm*f-GqZP1LFD;<8(Km2XZ#zD[|2B(=b4fq52PD2tHArBPxjx6?mjZ=_gRH(I1|asGMs{1=oY_5+n'<@;[MB?Dl*K0MTiM~#{mT=bQqi|9]T**Z1+8rXY'%8*UCcxU<n0.Tndjy#:MI-^:V6(X0wA1S]eq,tb[?>,5P0$m+:iDFXbH,~J_F1j#~@&DrMQDmkrJh9OhECj]hupOb9E'Xtl[V3`qN&`ZMYURh'AJeSn|Ga(e&+nG9AqJ+2E?sQVa$LD`5)T'~eqJ8|U%Dv2DGK}QNF1Mnq}iV[NBGL<s<dEJ(HbEDTZ%L`kGJD9$xRVm=7A?iiCb@m'7c$[R}D(~g(yd#V`giUB59Vu}plRD./r.B>nG7Wx9Z9XIZBqh&>F#h>[]D,v4MU;n[mV<#0``]]_Jf?d?lL3Ac?i9#(SC/R%n-uJAgp'{Rjht:K^eDBxl.B2#ZB=ZR~%rhCwjD9w27+oBr^bNe;SlJ6wMY+gB+8o8r+5m.cfT+9bqnB2^r-e5d09XO7^>7@~sm>^Q')&=Q1%o8nz`6&Qb#8#2p994*r~Bn>[1.B]%GGvR._G(Zm,UDgqGK3+C^JM>u&gH)5R'0nwegIEQO&gB[-_#/qlVmd`2k)69fBGuPGR-LTq2+uQYT@IdM=>=L1TAa<QwgNc/g<2Ro)fo:e^,R~=xn3yir<BR*p$)8$A5%+X0{6??)9}PCVD{rR4;rX?uEfIDk#KkUN3-L~S5K):vY^+?i=*?sjeO0IM?t8#`i/VxSKHhXE$9mHI3jjF$v^}]E?$k/,60'*uGgGTjZsRRe@qt9t/V)'AFtF?v7C#|y7>YPJF9W4^9?g76FJMR<4;bh3i|c:0AW,?[BZ$-'*L`]J>+5GD<T</Y)$sE_F+bg=1~C$`>rITfM{d`(8C]Mh;@3O'0B:Dq~7cQ1DmXJgm{[Bi:%HxG5L5x~F&XE`AT7/f#X2yixRqJ'5SQ15;YW~C79@v$LBe^H5&{U5_^O#]#lLC35,~b8H5-KDrLo)IFiW*>>w[;L7_nhm}Ztjs,~X'C2d.^27Td3gpV4}U%(,Vr_IF%PK)y^J4~C#>6G5{d}y<[dFGd8K~GZ~^(#T%~`p4f=+nn~spFpKl@yN(PPX0ws9)+UZ(~SdWHyht1RQUQ.C4O^ail'5xMGR>wg=v.AK|%1@aBN429m_jPJM3EoD/[,yU)LAHL.0r[ak|fVLF>CMkgckq5`:ef.<zY`:VI0LCxsFf'cs$_c^^#S0q}W-1?uD{F1aOIHk*8kBAnY{ookfF3p'=<NA>hJ)mcEs+,Bk=MyJ|$b%ik>3FQDN_R+<BB&O)u0&$2..m+e5(5E8H3BawVqdzSJ/qt2ZS`--.>{dpq2s%W|3UU*,?@8U::m:HJAM;^%6v_bi^.}o:=(+:VA>:R@I3VIy_V00&>X}FI-1H7u@_OeX^dpf1He}kAvR+]J5WnJO/k5t75x:VOQ/ZUS3@6*Bz&I}H/Y.ab9kNI@0OX{9F;Sxz@{+hCn&$[S@VkX=;X'T@ABcrE#7DYd:biG@gAY$b<U0-4@T[w^/29l#AE`doDBlb/HT51z*[A(o]y''V0s~Ev80]bK=>rth.N`{B&9gW]M-R)<,h<GCuD*rRI`/I&^'bd6(Rym@:oWk_JnFz1jZw-I07%(72;PS@#cIcX7*XSo)-XDMMPVIBHjT8N_/crxITkSAsXYIg&:gU`4VJh)'Z?A-0FpgE/&DE'FM2uR,'(x}jd@Y>=clWQrjx_`.-NWhvmG}uG]C7U&9dAn,Kx$4HoKMO4mH*;Q,VZp2%RQ/D`dm''xL^D/Gt~3%7;$7,i@I:AA)h#Of<#82V-7$e/vB)(wbEdUMCGBF4k_V&J2vF27-B4DjoTf.|r}f`6[03*fP%o:Q<({67AT1M`.3*;2vJ6:p{OW8A3X90yNe$'L@~7m_MfD=_|{_VI+h~8xC&>V2*%1B48u/:;d9#=UeMD53WPm@5H:;g$8X|7@l2hy+xWl9`^P9)EAhJIMZjtu4_rx/K9jq+*m%0.#Fb%k/FHc5[Cy)5UG~j#FUtvJL:Sk.CIo9wCXy'93ae)jAj`]0f=WVitiM-+#FVkZlt].F6Q@P;X*3F/L83aewC}J&_4J2jXR9k)IaO37|4So8rA;}I:E29<PcqC7Tdc&*ee[V5V#`K>G%Yi{&}^x6B6x2{@S4T&RQ*Du;iWR*_.}<w1N<X>6e$><6WV*(.@1gzT;m&Iqyw)dq13`BI,,KX_Jo36b>_4>8.ui=)M?]`rSzNLR[3qx'4BGKH7=~b9(Y+$rpPu8y@wi?2Iz<m8I/&J/dun[,=StECpy'Ce87MHMmTpE{iP-2Ib.eRoRbt9H=6Dm8o`u9g>bl5lG>LIaK8u1#TL_J}EzdB{7R69:.I*h]J#5M2l/Z`&TiT2}@rg~iQEBIEM73R3p3WLHQKRDiUGOC=lyEoMz'86`F^:#>SuwAh<`u>40wBDR(EsF*:V)'a9a9)958[9qLgX9[Gn>@j,TNYvxRc9#0y0l_8ZZ=uG)p7R>H8A%)fu/cuVMCw;Lx5~O7P0{R%{iDtb4C4@`sdB1)WJ93e>:i7I*$mocJ1t]F{-$vhHX;bGE4|BAU#Ub47=-O+yb?fN~;B2EAU'~?Y#?>-pmN1e;+mgCp]1Vt,F-^ftXOXF:LMIo]j8O-/L(5$Qx^T^YMuYE1U&pnt%>u%|YXU)J4~<A]jRxQU3o)*2#x3/^2tTMoq)F7b2njlg5XG{A+I<K/v6sr)K<@$5]*e0`>k;%vv:_y&)lfA;5qiGu&m?QiV3smi/b>9:-`(6+0$T/Dgx@?r#yaBFOj5}6@h^%Pj-Y<'%i,WhVoHPI1sr[bw=S;jD`S-:>F<^I-99zLBb~AX+54>j[Lqw3Cqzwrb[e=~Juf)S_M~]k>8yY']nYh))7&}JSGVjp)#sZMPKyb6=3g9m@zn}S+jmEi.lp[/7-p*nkqd%e%Etwyud}ic==hd]mC=Xk>U5j4y+uDw7cE1vBvsC5&W4[4=QCT45?*j;hP:`T45h>$=qt$KJ|9n2:uZ[vEBDIl;,OqV$1qEw-zQS|85V2}5F_#ZIIao`8PX</4Wp'w+v),KE4dYk]bg=.)+fhRei'#>KiCYV+BSW53s,'@z+Qxl.S=CW]2Iw$<^P&P-cQEK@A#}n^.*w|=aQ?J+aNvI/ZP[}KLqux&gEL;x'wZF;`rJb>(Xb=:Jor+?ZVjv&S-ez4Z7:)GdwM#Li08V?pz%%|[3hU;9#o|W&[Zq%T?eh/Z@4SDh1.2j$zYy;*E73.))JNLq@-C<r*;SADkE0?7AW%L:-jVN8-&NCnVL[q`&+[.[W.fLShgV&-N.ipx>?EMC%Jz`Ko8a*9,7YK5ZP0JSFx[[p2Y3E`2U$Xga%JHF-=FrpJtH,]iqJsR:]6BMn9B;E;=m,$zSkF[KX^&xz:YPf3Xn.1AR|rkv'A2/7u6ZgNZq+0WB2s9n@##`iHTrW/:.#H_`XnIGDAHE_Ckawf:jI?WyKm8K2-9BRAW?aJ>;0GL(,&kEf?5F9GA+=Lwu3Wu:#(.##I;0%#IvH2Cn+hYd6J}XoqK9}NL%;2QR>BsD}pSv`#2o}eL(JvT37nlh]oJxh:B#_.PB~(zlMoQOa-m7u[A1;+`=56&KE8bM;+`_EKD8(,7w:Jr(L8)v+`n(^{7&[U4c87G-4v+O~:cUWK7)|a~XQe;X$te/(7A}dH+<1]]L0}OTFh1{UrC~)'-I|QG2&z{DEWI*l}xT3[#sV;I9<ds.LPid%$jZfO$_2YpJ~}5]55CX7co<518LZ:;A88dW'-k^xr}:QG#Q,Bmv{rEd/PXATV.5ofEaxt`~oXz/C`pxW2Bkw#APV{oh*4bM%<6F'zE?SoIXKVqNqQcB2|}x,ms/4@%KOGKaES#@+CDnym]b0hDiDsPK^A'=5;7KXd$n^C7m1HhSxg2t2G=PrgP6>'50'66H8_X/?m^lme>5y'G'WtQITT{9?&p9,CCGOC5n?nSO+V4k2oS4y?WXh|;W3;jt`:hw%g%.|BICio:3$F5iX6KX")
open PySem PySem.W PyProof.Rows
set_option maxRecDepth 100000 in
set_option maxHeartbeats 0 in
theorem PySem.Challenge.cw_rowjudge_k78_whole_written_and_read_holds : PySem.Challenge.rw_rowjudge_k78_whole_written_and_read.Holds := by
 w_on;o_law;k_head;(case hw=>w_witness2)
 k_fill
 refine _M.walk (l:=PySem.Challenge.rw_rowjudge_k78_whole_written_and_read) rfl rfl (λw h Y=>PySem.W.kIn_of Y) ?F
 case F =>
  intro w mg fa h KX G hmg;refine' _M.all_mk (Y:=.mk ..) KX G hmg ?b ?u
  case b =>
   constructor
   all_goals try dsimp only
   iterate 22 (k_is)
   iterate 7 (exact _L.ExcCls.value (by first|rfl|with_unfolding_all rfl))
   iterate 7 (constructor <;> first|k_is|rfl|with_unfolding_all rfl)
   iterate 11 (constructor <;> first|k_is|rfl|with_unfolding_all rfl)
   iterate 11 (refine'((?_,?_,?_,?_,),?_,?_,?_,?_,) <;> first|k_is|rfl|with_unfolding_all rfl)
   iterate 25 (delta _L.NoAttr;k_is)
   iterate 7 (first|k_is|rfl|with_unfolding_all rfl)
  case u =>
   constructor
   all_goals try dsimp only
   iterate 74 (refine' _L.GF.mk ?a1 (_L.fun_mk ?l ?c ?k);(case a1=>k_is);(case l=>k_is);(case c=>k_is);(case k=>k_is))
   iterate 16 (refine' _L.MF.mk ?a1 ?a2 (_L.fun_mk ?l ?c ?k);(case a1=>k_is);(case a2=>k_is);(case l=>k_is);(case c=>k_is);(case k=>k_is))
   iterate 11 (refine' _L.KF.mk ?a1 ?a2 ?a3 ?a4 ?a5 (_L.fun_mk ?l ?c ?k);(case a1=>k_is);(case a2=>k_is);(case a3=>k_is);(case a4=>k_is);(case a5=>k_is);(case l=>k_is);(case c=>k_is);(case k=>k_is))
   iterate 8 (refine' _L.BF.mk ?a1 ?a2 ?a3 ?a4 (_L.fun_mk ?l ?c ?k);(case a1=>k_is);(case a2=>k_is);(case a3=>k_is);(case a4=>k_is);(case l=>k_is);(case c=>k_is);(case k=>k_is))
   iterate 14 (k_is)
   iterate 20 (refine' _L.gv_mk ?a1 ?a2;(case a1=>k_is);(case a2=>exact(_,rfl,)))
