import PyProof.Rows.All
import Wide.All
import OpenK.AllK
import Wide.FinOn
import Lean
import PyProof.EqAt
import PyProof.EqKinds
import PyProof.TupleCall
import KE.KIntText
import PyProof.NeKinds
import KE.KTryMore
import KE.KIsAll
import PyProof.ZipIter
import KE.KRevIter
import PyProof.CollectIter
import PyProof.FactsAll.range_2
import PyProof.FactsAll.range_iterator_1
import KE.KNest
import KE.KLam
import PySem.Challenge.RW_rowjudge_k49_refused
open List renaming length_map→af,mem_cons→ax,length_append→cb,mem_cons_self→cF,size_toArray→cM,mem_map→cU,mem_cons_of_mem→dz,length_singleton→dV,getD_eq_getElem?_getD→en,map_append→eN,mem_singleton→eO,getElem?_map→fi,take_length→fo,forall_mem_cons→gg,mem_append→gz,length_cons→gE,mem_range→hE,length_take→hZ,append_assoc→ia,append_nil→ik,getElem?_append_left→iv,forall_mem_nil→iF,map_cons→iO,not_mem_nil→ja,mem_append_right→jd,all_eq_true→jF,length_range→jG,length_zipWith→jO,length_drop→jP,take_append_drop→kb,getElem?_append_right→kc,mem_iff_getElem→ke,range_succ→kF,mem_filter→kS,take_of_length_le→kW,getElem?_of_mem→kY,find?_cons_of_pos→kZ,find?_cons_of_neg→lg,filterMap_cons→lh,mem_append_left→lj,getElem?_eq_none→ll,cons_append→lp,nodup_cons→lz,take_add_one→lJ,pairwise_iff_getElem→lX,filter_cons_of_neg→lY,getElem?_zipWith→ml,take_sublist→mu,map_nil→nk,all_cons→ny,range_succ_eq_map→nE,pairwise_cons→nF,pairwise_append→nL,pairwise_lt_range→nS,drop_drop→nY,filter_append→n7,filter_cons_of_pos→ov,length_filter_le→oD,length_replicate→o3,any_eq_true→pA,nodup_append→pM,mem_of_mem_drop→pU,ext_getElem?→pV,map_fst_zip→pW,getElem?_zip_eq_some→pY,of_mem_zip→qd,mem_flatMap→qh,drop_sublist→q0,mem_of_mem_take→q5,take_take→ri,drop_zero→ro,drop_left→rr,getElem?_take→rK,map_map→rL,getElem?_drop→sk,pairwise_map→sr,getElem_inj→sX,nodup_nil→sY,merge_right→tu,foldl_cons→tV,nil_append→t5,sum_cons→uK
open Nat renaming le_refl→uN,ne_of_lt→uR,le_trans→uU,lt_of_lt_of_le→u7,zero_le→ve,le_of_lt→vl,ne_of_gt→vo,lt_succ_of_lt→vr,le_add_right→vz,le_succ→v3,lt_irrefl→v5,lt_succ_self→wm,lt_of_le_of_ne→wq,lt_of_le_of_lt→wu,zero_add→wz,le_of_eq→w1,add_sub_cancel'→w4,one_pos→w5,sub_le→xc,min_eq_left→xy,le_of_lt_succ→ye,mod_lt→yf,add_le_add_left→yh,lt_of_succ_lt→yl,zero_lt_of_lt→yC,add_assoc→yE,le_sub_one_of_lt→yF,sub_lt→yG,pos_of_ne_zero→yH,lt_of_not_le→zb,not_lt_zero→zm,le_of_succ_le→zz,lt_or_ge→AA,succ_le_succ→AQ,lt_or_eq_of_le→Bf,le_of_not_lt→Bo,le_add_left→Ci,le_min→Cu,le_antisymm→Cw,succ_pos→C3,sub_self→Dj,zero_max→Dy
open Array renaming length_toList→D0,getElem_mem→Ef,getElem?_eq_getElem→Eg,toList_append→Er,toList_push→EL,getElem?_toList→EM,mem_toList_iff→EN,toList_extract→ET
open Bool renaming eq_false_iff→EU,and_eq_true→EY,false_eq_true→EZ
open Int renaming toNat_natCast→FG,not_lt→FY,emod_nonneg→Gm,natCast_nonneg→Gn,emod_lt_of_pos→Gv
open Option renaming isSome_iff_exists→Gz,map_eq_some_iff→GB,getD_none→GJ
open PySem renaming wpAny_bind→GS,wpAny_pure→GU,wpAny_holding→GV,wpAny_Call_Name_kw→GW,Value→I1,World→Je,Program→Jl,Addr→Jr,Heap→JD,sizeLine→JR,sysModules→JS,intKind→JT,mainGlobals→JU,builtinsNs→JV,bootBuiltins→JW,Around→JX,Shared→JY,Scope→JZ,GenState→Ka,Model→Kb,wpAny→Kc,storeName→Kd,Expr→Ke,isTrue→Kf,backTo→Kg,starEach→Kh,Stmt→Ki,wpAny_mono→Kj,wpAny_Name→Kk,wpAny_loadName_local→Kl,wpAny_loadName_cell→Km,standAt→Kn,wpAny_truthy_bool→Ko,wpAny_execs_nil→Kp,wpAny_execs_cons→Kq,swapsWith→Kr,wpAny_Expr_any→Ks,assignEach→Kt,Operator→Ku,wpAny_assign_Name→Kv,wpAny_standAt→Kw,PassesOwn→Ky,wpAny_passesOwn→Kz,pyNext→KA,letOwnedTupleGo→KC,pyIter→KD,rawInt→KG,wpAny_pyNext_list_item→KH,wpAny_pyIter_listiter→KI,IsRangeIter→KJ,Walks→KL,wpAny_pyNext_range_end→KN,wpAny_pyIter_rangeiter→KO,wpAny_pyIter_list→KP,wpAny_pyIter_range→KQ,Builtin→KR,foldedSetIterable→KS,binaryOp→KU,intBits_le_64→KW,compareOp→KY,CmpOp→KZ,behindInMarks→K0,sizeLine_eq→K1,getMethod→K2,Result→K3,codeAny→K4,attributeBase→K5,recursionLimit→K6,cLine→K7,Code→K8,FuncData→K9,BindsTo→La,bindArgs→Lb,wpAny_call→Lc,codeAny_mono→Ld,NameKind→Le,bindL→Lf,bindC→Lg,cellsFrom→Lh,Arguments→Li,concat_meets→Lj,noFill_tuple_add→Lk,seq_tuple_add→Ll,evalPart_none→Lm,typeLookup→Ln,seqIndex_of→Lo,slot_list_getitem→Lp,sliceBounds→Lq,call_list_seq→Ls,typeOf→Lu,backToKw→Lv,keywordEach→Lw,Params→Lx,callerA→Ly,compEnvC→Lz,closureFor→LA,closureFor_none→LB,noteFrame→LC,newList→LD,newFunctionEnv→LF,wpAny_newObj_type→LG,wpAny_newFunctionEnv→LH,codeAny_compStart_list→LI,eval_ListComp→LJ,wpAny_comprehension_free→LK,compPost→LL,exec_Assign_Name_used→LM,setField→LN,wpAny_setField→LO,wpAny_field→LP,setFlight→LQ,wpAny_typeOf_ref→LR,codeAny_call_builtin→LS,wpAny_ite_false→LU,codeAny_builtin→LW,checkBuiltinCall→LX,argsOk→LY,wpAny_of_eq→LZ,wpAny_attempt→L0,wpAny_ite_true→L1,slotArgs→L3,wpAny_rule→L4,callWith→L5,WalksS→L6,scanBound→L7,Moved→L8,setAdd→L9,plainId_quiet→Ma,check_set_init_1→Mb,wpAny_runValue→Mc,codeAny_of_tree→Md,weight_type_call_type→Me,SetTable→Mf,layNew→Mg,relayAll→Mh,pickOrder→Mi,intKind_is→Mj,wpAny_storeSet_of→Ml,fits_of_scanBound→Mm,wpAny_setState_of→Mn,wpAny_askSetting→Mo,typeLookup_type→Mp,builtinLookup_eq_fast→Mq,isSubtype_type→Mr,entryFor→Mt,entryFor_of_fast→Mu,entryFor_alias→Mv,drawOrder→Mw,setNext→Mx,wpAny_callSpecial?_slot→Mz,wpAny_call_entry→MA,wpAny_fieldsOf→MB,wpAny_setEntries_of→MC,wpAny_setField_rec→MD,newExc→ME,newTuple→MG,firstArgMember→MH,raiseNew→MI,wpAny_handled→MJ,wpAny_throw→MK,wpAny_isInstance→ML,isSubtype_stop→MM,wpAny_seqItems→MN,wpAny_pyIter_slot→MO,Setting→MP,setsByText→MQ,wpAny_newTuple→MR,wpAny_setEpoch_of→MS,wpAny_typeOf→MT,wpAny_specialOf→MU,updateSeq→MV,wpAny_updateSeq→MW,intItems→MX,numAt_eq→MY,IsPair→MZ,ZipApart→M0,wpAny_pyNext_zip_item→M1,wpAny_pyNext_zip_end→M3,wpAny_pyIter_zip→M4,wpAny_nextOf_list_item→M5,wpAny_nextOf_list_end→M6,wpAny_newList→M7,wpAny_pyIter_enum→M8,codeAmong→M9,slot_listiter_next→Na,boot_len→Nb
open Option renaming some→Nc,none→Nd
open Bool renaming true→Nf,false→Ng
open Decidable renaming decide→Nh
open PySem.W renaming Frag→am,tabIn→kt,nsIn→li,kla_obj→lm,mg_none_of→rc,mg_of→rs,kitOne→sB,findIn→xz,kia_one→Do,callWith_K→EQ,keepIn→GE,emptyDict→GT,instObj→NR,CodeHd→NV,specialIn→NY,looks_findIn→Op,mroIn→OH,methodCall_KW→OU,plainGet→O9,fnOf→Pa,envX→Pb,plainGet_of→Ph,methodObj→PX,lookIn→PY,hasDictIn→PZ,codeIn→P0
open PySem.Heap renaming get?_push_of_some→bd,lt_size→bi,get?_push_size→ci,get?_update_other→ls,size_push→lv,get?_update_self→lw,size_update→wP,SameBut→wS,get?_push_ne→L2,get?_none_of_le→Ou,get?_update_ne→OF,ExtBut→Pj
open Option.some renaming inj→bn
open Or renaming inl→bv,inr→v6
open Bool renaming false_ne_true→cr,eq_iff_iff→lc,and_false→FB,true_and→FS,false_and→Gc,or_false→O7,and_true→O8
open List renaming range→db,zipWith→im,length→sK,eq_nil_of_length_eq_zero→wr,lookup→Da,replicate→Fk,getElem?_eq_none_iff→Ix,drop_eq_getElem_cons→IN,getElem?_take_of_lt→KB,pairwise_singleton→M2,findIdx?_eq_some_iff_getElem→Nu,getElem?_set_self→Nw,getElem_mem→NB,lookup_eq_none_iff→NZ,length_eq_zero_iff→N0,zipWith_cons_cons→N5,eq_nil_or_concat→N9,concat_eq_append→Oa,getElem?_set_ne→Og,reverse_append→Oj,getElem_of_mem→Ol,getElem?_range→Om,flatMap_append→Oo,getElem_take→Ow,getElem_drop→Ox,flatMap_cons→Oy,drop_append_of_le_length→OK,length_eraseIdx_of_lt→OS,getElem?_replicate→Pc,flatMap_singleton→Pe,drop_of_length_le→Pg,set_append_right→Pm,getLast?_concat→Pv,map_congr_left→Pz,flatten_append→PC,mem_filterMap→PU
open PyProof.Rows renaming boot_isinstance→dL,callWith_type1→mo,boot_int→tz,boot_list→Ev,boot_set→Fa,recsOf→Nx,boot_min→NS,boot_max→NU,boot_sorted→Ov,bitAnd_pp→OG,boot_zip→OI,boot_sum→OJ
open PySem.Value renaming ref→io,none→pr,type→zn,str→OL,bool→OV,int→O2
open PySem.Obj renaming mapSeq→kw,mapFields→KM,data_mapFields→NQ,isFreed_of_fields→Ob,putSet→Oq
open False renaming elim→lf
open List.cons renaming inj→ln,injEq→Pw
open PySem.SetTable renaming below→o0,grown→Oh
open Int renaming le_refl→pc,le_trans→Db,lt_of_lt_of_le→No,zero_add→NK,le_of_lt→OE,natCast_mul→OP,fdiv_eq_ediv_of_nonneg→O1,ne_of_lt→Pn,lt_of_le_of_lt→P4
open PySem.F renaming called_set→re,plain_extend_loop→KT,slot_zip_next→Of,sub_list_frozenset→P2
open PySem.Builtin.Range renaming rangeSize→v4,rangeFitsLong→OR,small→PM
open PySem.PassesOwn renaming never→wn
open PySem.Around renaming under_plainId→wp
open PyProof.Rows.F renaming plain_set_update_loop→ww,entry_set_update_loop→Nv
open PySem.Heap.SameBut renaming update→wE,refl→Pi
open PySem.Builtin.SmallTypes renaming ownedTupleIsFree→AC,nextOf→My
open PySem.Builtin.List renaming listExtendWith→FM,listSameRef→NC,listTooLong→Oc,listLengthHint→OX,listTouch→Pp,listItems→Pq
open PySem.SeqAt.EqAt renaming of_refs→Go,same→NW,str_int→O5,int_str→O6
open Ne renaming symm→IR
open Nat renaming testBit_lt_two_pow→Ny,sub_one_lt_of_le→NE,add_lt_add_left→NI,sub_pos_of_lt→NX,exists_eq_add_of_le→N1,not_lt→N6,eq_zero_of_not_pos→N7,le_succ_of_le→OD,mod_two_eq_zero_or_one→O0,le_of_succ_le_succ→Pl,le_of_sub_eq_zero→Ps,add_lt_of_lt_sub'→Pt,add_le_of_le_sub'→Pu,pow_le_pow_right→Py,sub_le_sub_left→PR,sub_add_cancel→P3
open PySem.SetTable.below renaming go→Nz
open ForInStep renaming yield→NA
open PySem.Builtin.Getset_descriptor renaming descrCheckInstance→ND,descrOwnerAndName→NF,descrNameAndClass→PN,descrGetter→PP,descrGetArgs→PQ
open PySem.Builtin.Str renaming occurrences→NG
open PySem.SeqAt renaming EqAt→NJ,eq_list_lengthsAt→O4,eq_tupleAt→P1
open Array renaming perm_iff_toList_perm→NL,getElem?_eq_some_iff→NM,getElem?_eq_none→N2,getElem?_setIfInBounds_ne→Oz,toList_setIfInBounds→OQ,toList→Pd,toList_reverse→Po,getD→PD,forIn_toList→PH,toList_map→P5,toList_inj→P6
open True renaming intro→NO
open Sum.inr renaming inj→NP
open PySem.Shared renaming TypeIs→N4
open List.Pairwise renaming nil→N8,imp_of_mem→Os,imp→OT
open PySem.SeqAt.RcAt renaming tuples→Od
open PyProof.Rows.SortSt renaming mk'→Oi
open Sum.inl renaming inj→Ot
open Sum renaming inr→OA,inl→OB
open PySem.Builtin.Frozenset renaming updateFrom→OC
open PySem.Code renaming quiet_builtin→OM
open PySem.SeqAt.RcNeAt renaming tuples→ON
open PySem.Calls renaming Name_function_global→OO,evalArgs_plain→Pk,spliced_cons→Px,spliced_nil→PJ
open PySem.EntryCells renaming newEntry→OW
open PyProof renaming noPylong_small→OY
open PySem.SetTable.probe renaming go→O3
set_option Elab.async false
set_option linter.all false
set_option maxRecDepth 100000
set_option maxHeartbeats 4000000
set_option bootstrap.genMatcherCode false
set_option compiler.extract_closed false
local macro_rules(kind:=Lean.Parser.Term.tuple)|s=>do
 let a:=s[1][2].getArgs;let n:=Lean.Syntax.node .none
 if a.size%2==0&&a.size>0 then return n `Lean.Parser.Term.anonymousCtor #[.atom .none "⟨",n `null (#[s[1][0],s[1][1]]++a.pop),.atom .none "⟩"]
 Lean.Macro.throwUnsupported
local macro_rules|`(↑$x)=>`(some (.ref $x))
local macro_rules|`(⇑$x)=>`(($x).length)
local macro_rules|`(↥$x)=>`(($x).heap.objs.size)
local macro_rules|`(term|∅)=>`(by first|lia|(dsimp only;lia))
local macro_rules|`(term|⋯)=>`(by decide)
local macro_rules|`(~~~$x)=>`(by simpa using $x)
local macro_rules|`(~~~0)=>`(by decide+kernel)
abbrev Nt:=@List
open Lean in
local macro_rules|`(tactic|let $d:letDecl)=>do
 let p:=d.raw[0]
 if p.isOfKind `Lean.Parser.Term.letPatDecl then
  let n:=Syntax.node .none
  let g:=λe:Array Syntax=>n `Lean.Parser.Tactic.rcasesPat.tuple #[.atom .none "⟨",n `null (e.mapIdx λj p=>if j%2==1 then p else n `Lean.Parser.Tactic.rcasesPatLo #[n `Lean.Parser.Tactic.rcasesPatMed #[n `null #[p]],n `null #[]]),.atom .none "⟩"]
  let q:=p[0].rewriteBottomUp λs=>match s with|.ident ..=>n `Lean.Parser.Tactic.rcasesPat.one #[s]|.node i k a=>if k==`Lean.Parser.Term.hole then n `Lean.Parser.Tactic.rcasesPat.ignore a else if k==`Lean.Parser.Term.anonymousCtor then g a[1]!.getArgs else if k==`Lean.Parser.Term.tuple then g (#[a[1]![0],a[1]![1]]++a[1]![2].getArgs) else s|_=>s
  return n `Lean.Parser.Tactic.obtain #[.atom .none "obtain",n `null #[n `Lean.Parser.Tactic.rcasesPatMed #[n `null #[q]]],n `null p[2][0].getArgs,n `null #[.atom .none ":=",n `null #[p[4]]]]
 else `(tactic|have $d:letDecl)
local macro_rules|`(tactic|calc $x:term)=>`(tactic|refine $x)
open Lean in
local macro_rules(kind:=Lean.Parser.Command.declaration)|s=>do
 let k:=s[1].getKind
 if s[0][1].isNone&&s[0][4].isNone&&(k==``Lean.Parser.Command.definition||k==``Lean.Parser.Command.abbrev||k==``Lean.Parser.Command.instance) then return s.setArg 0 (s[0].setArg 4 (.node .none `null #[.node .none ``Lean.Parser.Command.noncomputable #[.atom .none "noncomputable"]]))
 Macro.throwUnsupported
open Lean in
local macro_rules(kind:=Lean.Parser.Command.declaration)|s=>do
 let d:=s[1]
 if d.getKind==``Lean.Parser.Command.definition then
  if let SourceInfo.original _ _ t _:=d[0].getHeadInfo then
   if t.toString.length==1 then
    let n:=Syntax.node .none
    return s.setArg 1 (n ``Lean.Parser.Command.theorem #[.atom .none "theorem",d[1],n ``Lean.Parser.Command.declSig #[d[2][0],d[2][1][0]],d[3]])
 Macro.throwUnsupported
abbrev Nj:=@if_neg
abbrev Nk:=@if_pos
abbrev Nl:=@absurd
abbrev Nm:=@decide_eq_true
abbrev Nn:=@decide_eq_false
abbrev Np:=@of_decide_eq_true
abbrev Nq:=@congrArg
abbrev Nr:=@decide_eq_true_iff
local macro_rules|`(term|s!$x)=>do
 let some t:=x.raw.getArgs[0]? | Lean.Macro.throwUnsupported
 let some v:=t.isInterpolatedStrLit? | Lean.Macro.throwUnsupported
 `(PySem.Str.ofString $(Lean.quote v))
def JO{α:Type _}{l:Nt α}(h:i<⇑l):l[i]?=Nc l[i]:=List.getElem?_eq_getElem h
def JP{α:Type _}{a:α}{l:Nt α}{i:Nat}:l[i]?=Nc a ↔ ∃h:i<⇑l, l[i]=a:=List.getElem?_eq_some_iff
def JQ{α:Type _}{l:Nt α}{i:Nat}{a:α}(e:l[i]?=Nc a):a∈l:=List.mem_of_getElem? e
namespace _L
def U{α:Sort _}{a:α}:a=a:=rfl
open PySem PySem.Spec PyProof.Rows
abbrev Key:=Sum Int Str
def  Cg:Key->I1->Bool
 | .inl k,v=>I1.isInt k v
 | .inr x,v=>I1.isStrOf x v
def  FX(w:Je):Key->Int
 | .inl k=>hashInt k
 | .inr x=>hashStr w x
def cw:∀{k:Key}{v:I1},Cg k v=Nf->(∃i t,k=OB i/\v=O2 i t)\/(∃x t,k=OA x/\v=OL x t)
 | .inl i,v,h=>by
  let(t,e):=I1.isInt_shape (k:=i) (v:=v) h;exact .inl (i,t,U,e,)
 | .inr x,v,h=>by
  let(t,e):=I1.isStrOf_shape (x:=x) (v:=v) h;calc .inr (x,t,U,e,)
def CS(a b:Int):decide ((OB a:Key)=OB b)=(a == b):=by
 by_cases e:a=b
 .subst e;simp
 .let h:¬ (OB a:Key)=OB b:=λq=>e<|Ot q
  rw[Nn h];calc(beq_eq_false_iff_ne.mpr e).symm
def CT(a b:Str):decide ((OA a:Key)=OA b)=Nh (a=b):=by
 by_cases e:a=b
 .subst e;simp
 .let h:¬ (OA a:Key)=OA b:=λq=>e<|NP q
  rw[Nn h,Nn e]
def CU(a:Int)(b:Str):decide ((OB a:Key)=OA b)=false:=Nn<|λq=>nomatch q
def CW(a:Str)(b:Int):decide ((OA a:Key)=OB b)=false:=Nn<|λq=>nomatch q
def  rM(prog:Jl)(w:Je):PySem.KeyKind prog w Key where
 is:=Cg
 hash:=FX w
 inj:=λv a b l f=>by
  rcases cw l with⟨i,t,rfl,rfl⟩|⟨x,t,rfl,rfl⟩
  .rcases cw f with⟨j,u,rfl,e⟩|⟨y,u,rfl,e⟩
   .injection e with c _;rw[c]
   .exact nomatch e
  .rcases cw f with⟨j,u,rfl,e⟩|⟨y,u,rfl,e⟩
   .exact nomatch e
   .injection e with c _;rw[c]
 byValue:=λk v h=>by
  rcases cw h with⟨i,t,rfl,rfl⟩|⟨x,t,rfl,rfl⟩ <;> rfl
 pyHash:=λd h=>by
  rcases cw d with⟨i,t,rfl,rfl⟩|⟨x,t,rfl,rfl⟩
  .exact wpAny_pyHash_int h
  .exact wpAny_pyHash_str h
 eqBool:=λg d h=>by
  rcases cw g with⟨i,t,rfl,rfl⟩|⟨x,t,rfl,rfl⟩
  .rcases cw d with⟨j,u,rfl,rfl⟩|⟨y,u,rfl,rfl⟩
   .rw[CS]at h;exact wpAny_eqBool_int h
   .rw[CU]at h;exact O6 i t y u _ _ _ _ h
  .rcases cw d with⟨j,u,rfl,rfl⟩|⟨y,u,rfl,rfl⟩
   .rw[CW]at h;exact O5 x t j u _ _ _ _ h
   .rw[CT]at h;exact wpAny_eqBool_str h
 «strs»:=λk x t v h=>by
  rcases cw h with⟨i,u,rfl,e⟩|⟨y,u,rfl,e⟩
  .exact nomatch e
  .injection e with c _;subst c;cases v <;> rfl
inductive V where
 |non|bl (b:Bool)|int (i:Int)|str (x:Str)|byt (b:Array UInt8)|flt (b:UInt64)|ref (a:Jr)|ty (n:String)
 deriving DecidableEq
open V renaming int→pi,ref→Qf,str→Qe
def  RelV:V->I1->Prop
 | .non,u=>u=pr
 | .bl b,u=>u=OV b
 | .int i,u=>∃t,u=O2 i t
 | .str x,u=>∃t,u=OL x t
 | .byt b,u=>∃t,u=I1.bytes b t
 | .flt b,u=>∃t,u=I1.float b t
 | .ref a,u=>u=io a
 | .ty n,u=>u=zn n
abbrev Vals:Nt V->Nt I1->Prop:=Paired RelV
def Vals.length(r:Vals xs us):⇑xs=⇑us:=Paired.length r
def Vals.get:∀{xs:Nt V}{us:Nt I1}{i:Nat}{x:V},Vals xs us->xs[i]?=Nc x->∃u,us[i]?=Nc u/\RelV x u
 |_,_,_,_,.nil,e=>by simp at e
 |_,_,0,_,.cons r _,e=>by simp at e;subst e;exact(_,U,r,)
 |_,_,i+1,x,.cons _ t,e=>by
  let(u,b,a):=Vals.get (i:=i) (x:=x) t<|~~~e;calc(u,~~~b,a,)
def Vals.set(r:RelV x u):∀{xs:Nt V}{us:Nt I1}(i:Nat),Vals xs us->Vals (xs.set i x) (us.set i u)
 |_,_,_,.nil=>.nil
 |_,_,0,.cons _ t=>.cons r t
 |_,_,i+1,.cons q t=>.cons q<|Vals.set r i t
def Vals.append:∀{xs ys:Nt V}{us ws:Nt I1},Vals xs us->Vals ys ws->Vals (xs++ys) (us++ws)
 |_,_,_,_,.nil,s=>s
 |_,_,_,_,.cons r t,s=>.cons r<|Vals.append t s
def Vals.take:∀{xs:Nt V}{us:Nt I1}(n:Nat),Vals xs us->Vals (xs.take n) (us.take n)
 |_,_,0,_=>.nil
 |_,_,_+1,.nil=>.nil
 |_,_,n+1,.cons r t=>.cons r<|Vals.take n t
def Vals.drop:∀{xs:Nt V}{us:Nt I1}(n:Nat),Vals xs us->Vals (xs.drop n) (us.drop n)
 |_,_,0,r=>r
 |_,_,_+1,.nil=>.nil
 |_,_,n+1,.cons _ t=>Vals.drop n t
def  qf:Option V->Option I1->Prop
 |some v,Nc u=>RelV v u
 |none,Nd=>True
 |_,_=>False
def  KV{a:Type}:Nt (a×V)->Nt (a×I1)->Prop:=Paired λ(p:a×V)(q:a×I1)=>p.1=q.1/\RelV p.2 q.2
def  kV:Key->V
 | .inl i=>.int i
 | .inr x=>.str x
inductive HO where
 |lst (xs:Nt V)
 |tup (xs:Nt V)
 |dK (kvs:Nt (Key×V))|dT (kvs:Nt (Nt Key×V))
 |set (S:Int->Bool)(n:Nat)
 |ins (C dx:Jr)(fs:Nt (Str×V))
 |own (x:Jr)
 |xd (fs:Nt (Str×V))
 |met (f x:Jr)
 |rng (lo hi:Int)
 |frz (o:Obj)(u:HO)
 |tbl (ps:Array I1)
 |ext (φ:JD->Prop)
abbrev Hp:=Jr->Option HO
def  upd(H:Hp)(a:Jr)(o:HO):Hp:=λb=>if b=a then Nc o else H b
def ae:upd H a o a=Nc o:=by unfold upd;rw[Nk U]
def aw(h:b≠a):upd H a o b=H b:=by unfold upd;rw[Nj h]
def AV:upd (upd H a o) a u=upd H a u:=by
 funext b;unfold upd;split <;> rfl
def kl{H:Hp}(h:H a=Nc o)(h':H b=Nc u)(d:o≠u):a≠b:=by
 intro e;subst e;rw[h]at h';calc d<|bn h'
def aW{H:Hp}(h:H a=Nc o)(h':H b=Nd):a≠b:=by
 intro e;subst e;rw[h]at h';cases h'
section
variable(P:Jl)(w:Je)
def  cS(H:Hp)(h:JD)(a:Jr):HO->Prop
 | .lst xs=>⇑xs<=JR/\∃(b:Nt I1)(n:Nat),Vals xs b/\h.get? a=Nc { cls:=.type "list",data:=.seq b.toArray n }
 | .tup xs=>⇑xs<=JR/\∃b:Nt I1,Vals xs b/\IsTup h a b.toArray
 | .dK kvs=>⇑kvs<=JR/\(a == JS)=Ng/\∃vs,KV kvs vs/\h.DictOf (rM P w) a vs
 | .dT kvs=>⇑kvs<=JR/\(a == JS)=Ng/\∃xs:Nt (Nt Key×Jr×I1),
   Paired (λ(p:Nt Key×V)(q:Nt Key×Jr×I1)=>p.1=q.1/\H q.2.1=Nc (.tup<|p.1.map kV)/\RelV p.2 q.2.2) kvs xs /\
   ∃o g i,h.get? a=Nc o/\o.ExactDict/\o.data=.dict g i/\g.toList=xs.map (entryOfKey<|tupleKind<|rM P w)/\(xs.map (·.1)).Nodup
 | .set S n=>h.SetOf (JT P w) a S n
 | .ins C dx fs=>H dx=Nc (.own a)/\⇑fs<=1000/\dx≠a/\h.get? a=Nc (NR C dx) /\
   ∃c,h.Ns1 dx c/\(∀f,qf (fs.lookup f)<|c f)/\PySem.Within c (fs.map (·.1))
 | .own _=>∃o,h.get? a=Nc o
 | .xd fs=>∃c,h.Ns1 a c/\∀f,qf (fs.lookup f) (c f)
 | .rng lo hi=>∃t u v,h.get? a=Nc { cls:=.type "range",data:=.fields #[.int lo t,.int hi u,.int 1 v] }
 | .frz o u=>h.get? a=Nc o/\cS H h a u
 | .tbl ps=>h.get? a=Nc { cls:=.none,data:=.fields ps }
 | .met f x=>h.get? a=Nc (PX (.ref f)<|.ref x)
 | .ext φ=>φ h/\(∃o,h.get? a=Nc o)/\∀e d:JD,φ e->(∀o,e.get? a=Nc o->d.get? a=Nc o)->φ d
def  HOk(H:Hp)(h:JD):Prop:=∀a o,H a=Nc o->cS P w H h a o
end
variable{P:Jl}{w:Je}{H H':Hp}{h h':JD}{a:Jr}
section
variable{o:HO}
def cS.lt(x:cS P w H h a o):a<h.objs.size:=by
 cases o with
 |lst c=>obtain⟨_,_,_,_,e⟩:=x;exact bi e
 |tup c=>obtain⟨_,_,_,p⟩:=x;exact p.lt
 |dK b=>obtain⟨_,_,_,_,o,_,_,e,_⟩:=x;exact bi e
 |dT b=>obtain⟨_,_,_,_,o,_,_,e,_⟩:=x;exact bi e
 |set S n=>obtain⟨o,_,_,_,e,_⟩:=x;exact bi e
 |ins C j fs=>obtain⟨_,_,_,e,_⟩:=x;exact bi e
 |own y=>obtain⟨_,e⟩:=x;exact bi e
 |xd fs=>obtain⟨_,⟨_,_,_,e,_⟩,_⟩:=x;exact bi e
 |rng lo hi=>obtain⟨_,_,_,e⟩:=x;exact bi e
 |frz i u=>obtain⟨e,_⟩:=x;exact bi e
 |tbl g=>exact bi (show h.get? a=Nc _ from x)
 |met f y=>exact bi (show h.get? a=Nc _ from x)
 |ext d=>obtain⟨_,⟨_,e⟩,_⟩:=x;calc bi e
def Paired.mapP{α c:Type}{F G:α->c->Prop}:∀{l₁:Nt α}{l₂:Nt c},Paired F l₁ l₂->(∀a b,F a b->G a b)->Paired G l₁ l₂
 |_,_,.nil,_=>.nil
 |_,_,.cons r t,f=>.cons (f _ _ r)<|Paired.mapP t f
def cS.stay(x:cS P w H h a o)(k:∀b u,(b=a\/H b=Nc (.own a))->h.get? b=Nc u->h'.get? b=Nc u)
  (J:∀b,H b=Nc (.own a)->H' b=Nc (.own a))(I:∀b xs,H b=Nc (.tup xs)->H' b=Nc (.tup xs)):cS P w H' h' a o:=by
 induction o with
 |lst xs=>obtain⟨z,l,n,r,e⟩:=x;exact(z,l,n,r,k _ _ (.inl U) e,)
 |tup xs=>obtain⟨z,l,r,g,e,c⟩:=x;exact(z,l,r,g,k _ _ (.inl U) e,c,)
 |dK A=>obtain⟨z,y,E,r,g,i,j,e,c⟩:=x;exact(z,y,E,r,g,i,j,k _ _ (.inl U) e,c,)
 |dT A =>
  let(z,y,xs,r,g,i,j,e,c):=x;exact(z,y,xs,Paired.mapP r λp q z=>(z.1,I _ _ z.2.1,z.2.2,),g,i,j,k _ _ (.inl U) e,c,)
 |set S n=>obtain⟨g,i,j,t,e,c⟩:=x;exact(g,i,j,t,k _ _ (.inl U) e,c,)
 |ins C M fs =>
  let(d,z,F,e,s,(m,i,j,K,c),r):=x;exact(J _ d,z,F,k _ _ (.inl U) e,s,(m,i,j,k _ _ (.inr d) K,c,),r,)
 |own y=>obtain⟨g,e⟩:=x;exact(g,k _ _ (.inl U) e,)
 |xd fs=>obtain⟨s,⟨m,i,j,e,c⟩,r⟩:=x;exact(s,(m,i,j,k _ _ (.inl U) e,c,),r,)
 |rng lo hi=>obtain⟨t,u,v,e⟩:=x;exact(t,u,v,k _ _ (.inl U) e,)
 |frz g u G=>obtain⟨e,q⟩:=x;exact(k _ _ (.inl U) e,G q,)
 |tbl D =>
  let e:h.get? a=Nc { cls:=.none,data:=.fields D }:=x;show h'.get? a=Nc { cls:=.none,data:=.fields D };exact k a _ (.inl U) e
 |met f y =>
  let e:h.get? a=Nc (PX (.ref f)<|.ref y):=x;show h'.get? a=Nc (PX (.ref f)<|.ref y);exact k a _ (.inl U) e
 |ext L=>obtain⟨p,⟨o,e⟩,B⟩:=x;calc(B _ _ p λo q=>k _ _ (.inl U) q,(o,k _ _ (.inl U) e,),B,)
def HOk.lt(x:HOk P w H h)(e:H a=Nc o):a<h.objs.size:=(x a o e).lt
def HOk.fresh(x:HOk P w H h)(e:h.objs.size<=a):H a=none:=by
 cases q:H a with
 |none=>rfl
 |some u=>calc Nl (u7 (x.lt q) e) (v5 _)
def HOk.kept(x:HOk P w H h)(k:∀b u,h.get? b=Nc u->h'.get? b=Nc u):HOk P w H h':=λa o e =>
 (x a o e).stay (λb u _ q=>k b u q) (λ_ q=>q) λ_ _ q=>q
def HOk.laid(x:HOk P w H h)(k:∀b u,h.get? b=Nc u->h'.get? b=Nc u)(g:h.objs.size<=a)(new:cS P w (upd H a o) h' a o):HOk P w (upd H a o) h':=λb u e=>by
 let d:=x.fresh g;by_cases f:b=a
 .subst f;rw[ae]at e;cases e;exact new
 .rw[aw f]at e;exact(x b u e).stay (λc v _ q=>k c v q) (λc q=>by rw[aw (aW q d)];exact q) λc i q=>by rw[aw (aW q d)];calc q
end
def  Rd(H:Hp)(a:Jr)(u:HO):Prop:=H a=Nc u\/∃o,H a=Nc (.frz o u)
def Rd.ok(r:Rd H a u)(x:HOk P w H h):cS P w H h a u:=by
 rcases r with r|⟨o,r⟩
 .exact x a u r
 .let(_,q):=x a _ r;calc q
def  Mut:Option HO->Prop
 |some (.lst _)=>True
 |some (.dK _)=>True
 |some (.dT _)=>True
 |some (.set _ _)=>True
 |some (.ins _ _ _)=>True
 |some (.ext _)=>True
 |_=>False
variable{x:Jr}
section
variable{e:Jr}{o':HO}
def HOk.write(ok:HOk P w H h)(f:Mut (H x))(m:e=x\/H e=Nc (.own x))(k:∀b u,b≠e->h.get? b=Nc u->h'.get? b=Nc u)(j:∃u,h'.get? e=Nc u)
  (new:cS P w (upd H x o') h' x o'):HOk P w (upd H x o') h':=λb u q=>by
 let n:∀c y,H c=Nc (.own y)->c≠x:=λc y r z=>by subst z;rw[r]at f;exact f
 let p:∀c d,H c=Nc (.tup d)->c≠x:=λc d r z=>by subst z;rw[r]at f;exact f
 by_cases i:b=x
 .subst i;rw[ae]at q;cases q;exact new
 .rw[aw i]at q;by_cases a:b=e
  .let l:H b=Nc (.own x):=by
    rcases m with z|z
    .exact Nl (a.trans z) i
    .rw[a];exact z
   rw[q]at l;cases l;let(v,o):=j;exact(v,by rw[a];exact o,)
  .refine(ok b u q).stay (λc v g r=>k c v ?_ r) (λc r=>by rw[aw (n c b r)];exact r) λc d r=>by rw[aw (p c d r)];exact r
   rcases g with rfl|g
   .exact a
   .rintro rfl;rcases m with z|z
    .exact n c b g z
    .rw[g]at z;cases z;calc i U
end
structure Un(fs ex:Nt Jr)(H H':Hp)(h h':JD):Prop where
 keep:∀b o,h.get? b=Nc o->H b=Nd->b ∉ fs->b ∉ ex->h'.get? b=Nc o
 slot:∀b o,h.get? b=Nc o->H b=Nd->b∈fs->b ∉ ex->∃sl,h'.get? b=Nc { o with slots:=sl }
 free:∀b o,h.get? b=Nc o->H b=Nd->b ∉ ex->H' b=Nd
 there:∀b o,h.get? b=Nc o->b ∉ ex->∃o',h'.get? b=Nc o'
 tups:∀b xs,H b=Nc (.tup xs)->H' b=Nc (.tup xs)
 frzs:∀b o u,H b=Nc (.frz o u)->H' b=Nc (.frz o u)
 tbls:∀b ps,H b=Nc (.tbl ps)->∃more,H' b=Nc (.tbl<|ps++more)
section
variable{fs fs' ex ex':Nt Jr}{H1 H2:Hp}{h1 h2:JD}{e:Jr}{o:HO}
def Un.any(u:Un fs ex H H1 h h1){a:Obj}(q:h.get? b=Nc a)(n:H b=Nd)(c:b ∉ ex):∃e,h1.get? b=Nc { a with slots:=e }:=by
 by_cases d:b∈fs
 .exact u.slot b a q n d c
 .exact(a.slots,u.keep b a q n d c,)
def Un.kept(k:∀b u,h.get? b=Nc u->h'.get? b=Nc u):Un fs ex H H h h' :=
 (λb a q _ _ _=>k b a q,λb a q _ _ _=>(a.slots,k b a q,),λ_ _ _ n _=>n,λb a q _=>(a,k b a q,),λ_ _ q=>q,λ_ _ _ q=>q,λ_ c q=>(#[],by rw[q];simp,),)
def Un.refl:Un fs ex H H h h:=Un.kept λ_ _ q=>q
def Un.laid(k:∀b u,h.get? b=Nc u->h'.get? b=Nc u)(e:h.objs.size<=a)(c:H a=Nd):Un fs ex H (upd H a o) h h' where
 keep:=λb u q _ _ _=>k b u q
 slot:=λb u q _ _ _=>(u.slots,k b u q,)
 free:=λb u q n _=>by rw[aw (uR<|u7 (bi q) e)];exact n
 there:=λb u q _=>(u,k b u q,)
 tups:=λb d q=>by rw[aw (aW q c)];exact q
 frzs:=λb u d q=>by rw[aw (aW q c)];exact q
 tbls:=λb f q=>(#[],by rw[aw (aW q c),q];simp,)
def Un.write(c:Mut (H x))(m:e=x\/H e=Nc (.own x))(k:∀b u,b≠e->h.get? b=Nc u->h'.get? b=Nc u)(f:∃u,h'.get? e=Nc u):Un fs ex H (upd H x o) h h':=by
 let g:∀b,H b=Nd->b≠x:=λb n z=>by subst z;rw[n]at c;exact c
 let i:∀b,H b=Nd->b≠e:=λb n z=>by
  subst z;rcases m with r|r
  .exact g b n r
  .rw[n]at r;cases r
 let d:∀b u,H b=Nc u->¬ Mut (Nc u)->b≠x:=λb u q l z=>by subst z;rw[q]at c;exact l c
 refine(λb u q n _ _=>k b u (i b n) q,λb u q n _ _=>(u.slots,k b u (i b n) q,),λb u q n _=>by rw[aw (g b n)];exact n,λb u q _=>?_,
  λb j q=>by rw[aw (d b _ q λz=>z)];exact q,λb u j q=>by rw[aw (d b _ q λz=>z)];exact q,λb p q=>(#[],by rw[aw (d b _ q λz=>z),q];simp,),)
 by_cases a:b=e
 .subst a;exact f
 .exact(u,k b u a q,)
end
def  trk(h:JD)(H:Hp):Nt Jr:=(db h.objs.size).filter λa=>(H a).isSome
def  oo(h:JD)(H:Hp):JD:=W.hideAll h<|trk h H
def xA(h:JD)(H:Hp):(oo h H).objs.size=h.objs.size:=W.hideAll_size _ _
def yI(e:h.get? b=Nc o)(n:H b=Nd):(oo h H).get? b=Nc o :=
 W.hideAll_get _ e λa=>by
  let q:(H b).isSome=true:=(kS.mp a).2;rw[n]at q;simp at q
def AW(e:(oo h H).get? b=Nc o):h.get? b=Nc o/\H b=none:=by
 let a:h.get? b=Nc o:=W.of_hideAll (trk h H) e;calc(a,?_,);cases q:H b with
 |none=>rfl
 |some x =>
  let c:b∈trk h H:=kS.mpr (hE.mpr<|bi a,by simp[q],);let z:(oo h H).get? b=none:=W.hideAll_none (trk h H) c;rw[z]at e;cases e
def  AX(g h:JD)(L:Jr):Nt (Jr×Obj):=(db h.objs.size).filterMap λa=>if a=L\/(g.get? a).isSome=Nf then Nd else(h.get? a).map λo=>(a,o)
def  rest(g h:JD)(L d:Jr):Nt (Jr×Obj):=(AX g h L).filter λp=>decide<|p.1≠d
structure Mod(K:am)(mg:Str->Option I1)(base:JD):Prop where
 kin:K.In base
 glob:base.Ns JU mg
 blt:∃mb,base.Ns JV mb/\∀x:Str,x ≠ "__name__" -> mb x=JW x
 nolimit:base.NoLimit
structure Cx where
 prog:Jl
 w:Je
 K:am
 mg:Str->Option I1
 base:JD
 A:JX
 N:Nt Str
 s₀:JY
 H₀:Hp
 env:Env
 outer:Nt Env
 stack:Nt Env
 ex:Nt Jr
 fn:Str->Bool
 calm:Bool
 pn:Nt (Jr×Obj)
 xe:I1->JY->Prop
def  frs(l:Nt Env):Nt Jr:=l.filterMap (·.frame)
abbrev Cx.fs(X:Cx):Nt Jr:=frs X.outer
def  Vis(a:JZ)(x:Str):Prop:=a.names.lookup x=Nc .local\/a.names.lookup x=Nc .cell\/a.names.lookup x=Nc .free
def  Loc(a:JZ)(x:Str):Prop:=a.names.lookup x=Nc .local\/a.names.lookup x=Nc .cell
def  Look(a:Env)(h:JD)(m:Str->Option I1)(x:Str)(u:I1):Prop :=
 (a.kindOf x=Nc .local/\m x=Nc u)\/((a.kindOf x=Nc .cell\/a.kindOf x=Nc .free)/\∃c,a.cells.lookup x=Nc c/\h.IsCell c (Nc u))
structure Cx.Ok(X:Cx):Prop where
 mod:Mod X.K X.mg X.base
 kind:X.env.scope.kind=.function
 glob:X.env.globals=JU
 blt:X.env.builtins=JV
 above:X.s₀.heap.objs.size<=X.env.locals
 inj:∀x y c,X.env.cells.lookup x=Nc c->X.env.cells.lookup y=Nc c->x=y
 has:∀x,(X.env.kindOf x=Nc .cell\/X.env.kindOf x=Nc .free)->∃c,X.env.cells.lookup x=Nc c
 cab:∀x c,X.fn x=Nf->X.env.cells.lookup x=Nc c->X.s₀.heap.objs.size<=c
 hd:X.calm=Nf->X.A.handled=Nd
 frames:X.A.frames=Nc X.stack
 stk:X.stack=X.outer\/(X.stack=X.env :: X.outer/\X.env.frame=Nc X.env.locals)
 exf:∀b∈X.ex,b≠X.env.locals/\∀x c,X.env.cells.lookup x=Nc c->c≠b
 bs:∀b o,X.base.get? b=Nc o->X.s₀.heap.get? b=Nc o/\X.H₀ b=Nd
 bsz:X.base.objs.size<=X.s₀.heap.objs.size
 noex:∀b o,X.base.get? b=Nc o->b ∉ X.ex
 exfs:∀b∈X.ex,b ∉ X.fs
 funs:X.s₀.heap.FunFrames X.base X.outer
 frf:∀b∈X.fs,X.H₀ b=Nd
structure Inv(X:Cx)(Ni:Nt (Jr×Obj))(σ:Nt (Option V))(H:Hp)(s:JY):Prop where
 ok:X.Ok
 os:s.os=X.s₀.os
 bare:AllBare s.gens
 base:Un X.fs X.ex X.H₀ H X.s₀.heap s.heap
 loc:∃m,s.heap.Ns X.env.locals m/\∀(i:Nat)(x:Str)(v:V),X.N[i]?=Nc x->σ[i]?=Nc (Nc v)->Vis X.env.scope x->∃u,RelV v u/\Look X.env s.heap m x u
 cell:∀x c,X.env.cells.lookup x=Nc c->∃v,s.heap.IsCell c v
 free:H X.env.locals=Nd
 freeC:∀x c,X.env.cells.lookup x=Nc c->H c=Nd
 pin:∀p∈X.pn++Ni,s.heap.get? p.1=Nc p.2/\H p.1=Nd/\p.1≠X.env.locals/\p.1 ∉ X.fs/\∀v,p.2.data≠.cell v
 hok:HOk X.prog X.w H s.heap
 len:σ.length=X.N.length
variable{X:Cx}{Ni:Nt (Jr×Obj)}{s:JY}
section
variable{σ:Nt (Option V)}
def Cx.Ok.nofr(ok:X.Ok)(e:X.base.get? b=Nc o):b ∉ X.fs:=λa=>by
 let:=(ok.funs.mem a).1;rw[e]at this;cases this
def Inv.bs(I:Inv X Ni σ H s):∀b o,X.base.get? b=Nc o->s.heap.get? b=Nc o/\H b=none:=λb o e =>
 (I.base.keep b o (I.ok.bs b o e).1 (I.ok.bs b o e).2 (I.ok.nofr e)<|I.ok.noex b o e,I.base.free b o (I.ok.bs b o e).1 (I.ok.bs b o e).2<|I.ok.noex b o e,)
def Inv.bk(I:Inv X Ni σ H s):∀b o,X.base.get? b=Nc o->s.heap.get? b=Nc o:=λb o e=>(I.bs b o e).1
def Inv.mod(I:Inv X Ni σ H s):Mod X.K X.mg X.base:=I.ok.mod
def Inv.kIn(I:Inv X Ni σ H s):X.K.In s.heap:=I.ok.mod.kin.keeps I.bk
def Inv.lt(I:Inv X Ni σ H s):X.env.locals<↥s:=by let(_,a,_):=I.loc;calc a.lt
def Inv.sz(I:Inv X Ni σ H s):X.s₀.heap.objs.size<=↥s:=uU I.ok.above<|vl I.lt
def Inv.nofs(I:Inv X Ni σ H s)(h:↥s<=a):a ∉ X.fs:=λc=>by
 let(_,o,b,_):=I.ok.funs.mem c;calc Nl (u7 (bi b)<|uU I.sz h)<|v5 _
def Inv.cne(I:Inv X Ni σ H s):∀x c,X.env.cells.lookup x=Nc c->c≠X.env.locals:=λx c e z=>by
 let(v,o,d,hd):=I.cell x c e;let(m,(f,g,h,a,b,_),_):=I.loc;rw[z,a]at d;cases d;rw[b]at hd;cases hd
def Inv.funs(I:Inv X Ni σ H s):s.heap.FunFrames X.base X.outer:=by
 let all:∀(l:Nt Env),(∀b∈frs l,b∈X.fs)->X.s₀.heap.FunFrames X.base l->s.heap.FunFrames X.base l:=by
  intro l;induction l with
  |nil=>intro _ _;trivial
  |cons n r g =>
   intro f k;let(m,(L,o,a,j,i,hd),h):=k;let d:L∈X.fs:=f L (by unfold frs;rw[lh,a];exact cF);let(p,e):=I.base.slot L o i (I.ok.frf L d) d λz=>I.ok.exfs L z d
   exact(m,(L,_,a,j,e,hd,),g (λb c=>f b (by unfold frs;rw[lh,a];exact dz _ c)) h,)
 calc all X.outer (λ_ c=>c) I.ok.funs
def Inv.stack(I:Inv X Ni σ H s):s.heap.FunFrames X.base X.stack:=by
 rcases I.ok.stk with e|⟨e,b⟩
 .rw[e];exact I.funs
 .rw[e];let(m,a,_):=I.loc;refine .cons (by rw[I.ok.kind];decide) b a ?_ I.funs;calc Ou<|uU I.ok.bsz I.ok.above
def Inv.stkSub(I:Inv X Ni σ H s):∀b∈frs X.stack,b∈X.env.locals :: X.fs:=λb a=>by
 rcases I.ok.stk with e|⟨e,c⟩
 .rw[e]at a;exact dz _ a
 .rw[e]at a;unfold frs at a;rw[lh,c]at a;calc a
def Inv.stkFree(I:Inv X Ni σ H s):∀b∈frs X.stack,H b=none:=λb a=>by
 rcases ax.mp (I.stkSub b a)with e|a
 .rw[e];exact I.free
 .let(_,o,c,_):=I.ok.funs.mem a;calc I.base.free b o c (I.ok.frf b a) λz=>I.ok.exfs b z a
def Inv.step{d':Drawn}{ch:Nt Jr}(I:Inv X Ni σ H s)
  (g:∀b∈ch,(b∈X.ex\/X.s₀.heap.objs.size<=b)/\b≠X.env.locals/\(∀x c,X.env.cells.lookup x=Nc c->c≠b)/\∀p∈X.pn++Ni,p.1≠b)
  (keep:∀b o,b≠X.env.locals->b ∉ X.fs->b ∉ ch->s.heap.get? b=Nc o->H b=Nd->h'.get? b=Nc o)
  (slot:∀b o,b≠X.env.locals->b∈X.fs->b ∉ ch->s.heap.get? b=Nc o->H b=Nd->∃F,h'.get? b=Nc { o with slots:=F })(free:∀b o,b ∉ ch->s.heap.get? b=Nc o->H b=Nd->H' b=Nd)
  (there:∀b o,b ∉ ch->s.heap.get? b=Nc o->∃B,h'.get? b=Nc B)
  (tups:∀b xs,H b=Nc (.tup xs)->H' b=Nc (.tup xs))(frzs:∀b o u,H b=Nc (.frz o u)->H' b=Nc (.frz o u))(tbls:∀b ps,H b=Nc (.tbl ps)->∃E,H' b=Nc (.tbl<|ps++E))
  (ns:∀m,s.heap.Ns X.env.locals m->h'.Ns X.env.locals m)(hok:HOk X.prog X.w H' h')(R:AllBare g') :
  Inv X Ni σ H' { s with heap:=h',gens:=g',drawn:=d',toks:=t' }:=by
 let D:∀b o,X.s₀.heap.get? b=Nc o->b≠X.env.locals:=λb o e=>uR<|u7 (bi e) I.ok.above
 let t:∀b o,X.s₀.heap.get? b=Nc o->b ∉ X.ex->b ∉ ch:=λb o e a y=>by
  rcases(g b y).1 with z|z
  .exact a z
  .exact Nl (u7 (bi e) z)<|v5 _
 let h:∀x c,X.env.cells.lookup x=Nc c->∀v,s.heap.IsCell c v->h'.IsCell c v:=λx c e v (o,A,hd,)=>by
  let f:c ∉ ch:=λz=>(g c z).2.2.1 x c e U
  by_cases M:c∈X.fs
  .let(F,q):=slot c o (I.cne x c e) M f A<|I.freeC x c e;exact(_,q,hd,)
  .exact(o,keep c o (I.cne x c e) M f A<|I.freeC x c e,hd,)
 refine(I.ok,I.os,R,(λb o e n y a=>?_,λb o e n y a=>?_,λb o e n a=>?_,λb o e a=>?_,λb xs e=>tups b xs<|I.base.tups b xs e,λb o xs e=>frzs b o xs<|I.base.frzs b o xs e,λb ps e=>?_,),?_,λx c e=>?_,?_,λx c e=>?_,λp L=>?_,hok,I.len,)
 .exact keep b o (D b o e) y (t b o e a) (I.base.keep b o e n y a)<|I.base.free b o e n a
 .let(F,j):=I.base.slot b o e n y a;let(G,C):=slot b _ (D b o e) y (t b o e a) j<|I.base.free b o e n a;exact(G,C,)
 .let(B,j):=I.base.there b o e a;exact free b B (t b o e a) j<|I.base.free b o e n a
 .let(B,j):=I.base.there b o e a;exact there b B (t b o e a) j
 .let(O,j):=I.base.tbls b ps e;let(N,C):=tbls b _ j;exact(O++N,by rw[C,Array.append_assoc],)
 .let(m,P,Q):=I.loc;calc(m,ns m P,λi x v j C S=>?_,);let(u,r,l):=Q i x v j C S;calc(u,r,?_,);rcases l with l|⟨k,c,e,z⟩
  .exact .inl l
  .exact .inr (k,c,e,h x c e _ z,)
 .let(v,z):=I.cell x c e;exact(v,h x c e v z,)
 .let(m,(o,_,_,A,_),_):=I.loc;exact free _ o (λz=>(g _ z).2.1 U) A I.free
 .let(v,o,A,hd):=I.cell x c e;exact free c o (λz=>(g c z).2.2.1 x c e U) A<|I.freeC x c e
 .let(e,n,K,J,d):=I.pin p L;let f:p.1 ∉ ch:=λz=>(g p.1 z).2.2.2 p L U
  calc(keep p.1 p.2 K J f e n,free p.1 p.2 f e n,K,J,d,)
def Inv.un(I:Inv X Ni σ H s)(u:Un X.fs [] H H' s.heap h')(hok:HOk X.prog X.w H' h'):Inv X Ni σ H' { s with heap:=h',toks:=t' }:=by
 let(m,(o,q,t,g,r),_):=id I.loc;let(k,j):=u.any g I.free (by simp);exact I.step (g':=s.gens) (d':=s.drawn) (ch:=[]) (λ_ z=>nomatch z) (λb o _ c _ e n=>u.keep b o e n c (by simp)) (λb o _ c _ e n=>u.slot b o e n c (by simp)) (λb o _ e n=>u.free b o e n (by simp)) (λb o _ e=>u.there b o e (by simp)) u.tups u.frzs u.tbls (λp i=>by
  let(l,d,f,a,h):=i;rw[g]at a;cases a;exact(_,d,f,j,h,)) hok I.bare
def Inv.call(I:Inv X Ni σ H s)(u:Un (frs X.stack) ch H H' s.heap h')(hok:HOk X.prog X.w H' h')(q:AllBare g')
  (f:∀b∈ch,(b∈X.ex\/X.s₀.heap.objs.size<=b)/\b≠X.env.locals/\(∀x c,X.env.cells.lookup x=Nc c->c≠b)/\∀p∈X.pn++Ni,p.1≠b) :
  Inv X Ni σ H' { s with heap:=h',gens:=g',drawn:=d',toks:=t' }:=by
 let(m,(o,B,C,j,r),_):=id I.loc;let(v,g):=u.any j I.free λz=>(f _ z).2.1 U
 exact I.step (ch:=ch) f (λb o g t a e n=>u.keep b o e n (λz=>(ax.mp<|I.stkSub b z).elim g t) a) (λb o _ _ a e n=>u.any e n a) (λb o a e n=>u.free b o e n a) (λb o a e=>u.there b o e a) u.tups u.frzs u.tbls (λA l=>by
  let(y,h,i,d,k):=l;rw[j]at d;cases d;exact(_,h,i,g,k,)) hok q
def Inv.turned(I:Inv X Ni σ H s)(k:∀b o,b≠it->s.heap.get? b=Nc o->h'.get? b=Nc o)(h:H it=Nd)(f:it≠X.env.locals)
  (w:it∈X.ex\/X.s₀.heap.objs.size<=it)(t:∀x c,X.env.cells.lookup x=Nc c->c≠it)(l:∀p∈X.pn++Ni,p.1≠it):Inv X Ni σ H { s with heap:=h',toks:=t' }:=by
 let d:∀b u,H b=Nc u->b≠it:=λb u e z=>by rw[z,h]at e;cases e
 refine I.step (g':=s.gens) (d':=s.drawn) (ch:=[it]) (λb j=>?_) (λb o _ _ a e _=>k b o (λz=>a (by simp[z])) e) (λb o _ _ a e _=>(o.slots,k b o (λz=>a (by simp[z])) e,)) (λ_ _ _ _ n=>n)
  (λb o a e=>(o,k b o (λz=>a (by simp[z])) e,)) (λ_ _ e=>e) (λ_ _ _ e=>e) (λb B e=>(#[],by rw[e];simp,)) (λm i=>?_) (λb u e=>?_) I.bare
 .let e:b=it:= ~~~j
  subst e;exact(w,f,t,l,)
 .let(o,y,A,g,r):=i;exact(o,y,A,k _ o (IR f) g,r,)
 .refine(I.hok b u e).stay (λc v a q=>k c v ?_ q) (λ_ q=>q) λ_ _ q=>q
  rcases a with z|z
  .rw[z];exact d b u e
  .exact d c _ z
def Inv.tok(I:Inv X Ni σ H s)(t:Nat):Inv X Ni σ H { s with toks:=t }:=I.un (h':=s.heap) (t':=t) Un.refl I.hok
def Inv.kept(I:Inv X Ni σ H s)(k:∀b u,s.heap.get? b=Nc u->h'.get? b=Nc u):Inv X Ni σ H { s with heap:=h',toks:=t' }:=I.un (Un.kept k)<|I.hok.kept k
def Inv.laid(I:Inv X Ni σ H s)(k:∀b u,s.heap.get? b=Nc u->h'.get? b=Nc u)(c:↥s<=a)(new:cS X.prog X.w (upd H a o) h' a o) :
  Inv X Ni σ (upd H a o) { s with heap:=h',toks:=t' }:=I.un (Un.laid k c<|I.hok.fresh c)<|I.hok.laid k c new
def Inv.write(I:Inv X Ni σ H s)(c:Mut (H x))(d:e=x\/H e=Nc (.own x))(k:∀b u,b≠e->s.heap.get? b=Nc u->h'.get? b=Nc u)(a:∃u,h'.get? e=Nc u)
  (new:cS X.prog X.w (upd H x o) h' x o):Inv X Ni σ (upd H x o) { s with heap:=h',toks:=t' }:=I.un (Un.write c d k a)<|I.hok.write c d k a new
def Inv.pins_of{a:Nt (Jr×Obj)}(I:Inv X Ni σ H s)(h:∀p∈a,s.heap.get? p.1=Nc p.2/\H p.1=Nd/\p.1≠X.env.locals/\p.1 ∉ X.fs/\∀v,p.2.data≠.cell v):Inv X a σ H s :=
 (I.ok,I.os,I.bare,I.base,I.loc,I.cell,I.free,I.freeC,λp b=>(gz.mp b).elim (λz=>I.pin p<|lj _ z)<|h p,I.hok,I.len,)
def jk{N:Nt Str}(c:N.Nodup){i j:Nat}{x:Str}(a:N[i]?=Nc x)(b:N[j]?=Nc x):i=j:=by
 let(g,e):=JP.mp a;let(f,d):=JP.mp b;calc(sX c).mp (e.trans d.symm)
def mC{x:Str}{v:V}{u:I1}{Q:Unit->JY->Prop}(I:Inv X Ni σ H s)(hN:X.N.Nodup)(hi:X.N[i]?=Nc x)(B:Loc X.env.scope x)(r:RelV v u)
  (h:∀s',Inv X Ni (σ.set i<|Nc v) H s'->(∃a,wS a s.heap s'.heap/\(a=X.env.locals\/X.env.cells.lookup x=Nc a))->Q () s')(hf:X.fn x=Nf\/X.env.scope.names.lookup x=Nc .local:=by first|exact .inl U|exact .inr U|assumption):Kc M A (Kd X.env x u) Q E s:=by
 let(m,hn,hl):=id I.loc;let CY:(X.env.scope.kind == .class || (X.env.scope.kind == .module && X.env.locals != X.env.globals))=false:=by rw[I.ok.kind];rfl
 let F:i<σ.length:=by rw[I.len];exact(JP.mp hi).1
 let cne:=I.cne;let l:∀{a:Jr}{h':JD},(∃o,s.heap.get? a=Nc o/\H a=Nd)->wS a s.heap h'->HOk X.prog X.w H h':=λ{a h'} ha f b ob e=>by
  let(_,_,wB):=ha;refine(I.hok b ob e).stay (λc R t q=>(f.2 c ?_).trans q) (λ_ q=>q) λ_ _ q=>q
  rintro rfl;rcases t with rfl|t
  .rw[wB]at e;cases e
  .rw[wB]at t;cases t
 rcases B with D|D
 .refine wpAny_storeName_local D hn (λh' a1 f=>?_) CY;let(oL,_,_,a0,_):=id hn;refine h _ (I.ok,I.os,I.bare,(λb o e n J B=>?_,λb o e n J B=>?_,I.base.free,λb o e B=>?_,I.base.tups,I.base.frzs,I.base.tbls,),(_,a1,λj y W g C e3=>?_,),λy c e=>?_,I.free,I.freeC,λp hp=>?_,l (oL,a0,I.free,) f,~~~I.len,) (_,f,.inl U,)
  .exact(f.2 b<|uR<|u7 (bi e) I.ok.above).trans (I.base.keep b o e n J B)
  .let(Z,g):=I.base.slot b o e n J B;exact(Z,(f.2 b<|uR<|u7 (bi e) I.ok.above).trans g,)
  .let(o',g):=I.base.there b o e B;exact(o',(f.2 b<|uR<|u7 (bi e) I.ok.above).trans g,)
  .by_cases G:j=i
   .subst G;rw[hi]at g;cases g;rw[Nw F]at C;cases C;exact(u,r,.inl (D,by simp,),)
   .rw[Og (IR G)]at C;let(Y,r',q):=hl j y W g C e3;calc(Y,r',?_,);rcases q with⟨k,e⟩|⟨k,c,e,z⟩
    .refine .inl (k,?_,);let:y≠x:=λe=>G<|jk hN g<|e ▸ hi
     simp[this,e]
    .exact .inr (k,c,e,z.sameBut f<|cne y c e,)
  .let(R,z):=I.cell y c e;exact(R,z.sameBut f<|cne y c e,)
  .let(e,n,S,nf,d):=I.pin p hp;exact((f.2 p.1 S).trans e,n,S,nf,d,)
 .let K:X.fn x=true:=by
   rcases hf with z|z
   .exact z
   .rw[z]at D;cases D
  let(c,t):=I.ok.has x<|.inl D;let(R,z):=I.cell x c t;calc wpAny_storeName_cell I.ok.kind D t z<|λh' P f=>?_;let(oc,L,FZ):=id z;refine h { s with heap:=h' } (I.ok,I.os,I.bare,(λb o e n J B=>?_,λb o e n J B=>?_,I.base.free,λb o e B=>?_,I.base.tups,I.base.frzs,I.base.tbls,),(m,hn.sameBut f<|IR<|cne x c t,λj y W g C e3=>?_,),λy T e=>?_,I.free,I.freeC,λp hp=>?_,l (oc,L,I.freeC x c t,) f,~~~I.len,) (c,f,.inr t,)
  .exact(f.2 b<|uR<|u7 (bi e)<|I.ok.cab x c K t).trans (I.base.keep b o e n J B)
  .let(Z,g):=I.base.slot b o e n J B;exact(Z,(f.2 b<|uR<|u7 (bi e)<|I.ok.cab x c K t).trans g,)
  .let(o',g):=I.base.there b o e B;exact(o',(f.2 b<|uR<|u7 (bi e)<|I.ok.cab x c K t).trans g,)
  .by_cases G:j=i
   .subst G;rw[hi]at g;cases g;rw[Nw F]at C;cases C;exact(u,r,.inr (.inl D,c,t,P,),)
   .rw[Og (IR G)]at C;let(Y,r',q):=hl j y W g C e3;calc(Y,r',?_,);rcases q with q|⟨k,T,e,z'⟩
    .exact .inl q
    .refine .inr (k,T,e,z'.sameBut f ?_,);rintro rfl;exact G<|jk hN g<|I.ok.inj _ _ _ e t ▸ hi
  .by_cases O:T=c
   .subst O;exact(_,P,)
   .let(w2,z2):=I.cell y T e;exact(w2,z2.sameBut f O,)
  .let(e,n,S,nf,d):=I.pin p hp;calc((f.2 p.1 ?_).trans e,n,S,nf,d,);intro q;rw[q,L]at e;let q':oc=p.2:=bn e;calc d R (by rw[←q'];exact FZ)
def jl{x:Str}{v:V}{u:I1}{Q:Unit->JY->Prop}(I:Inv X Ni σ H s)(c:X.N.Nodup)(hi:X.N[i]?=Nc x)(a:Loc X.env.scope x)(r:RelV v u)
  (h:∀s',Inv X Ni (σ.set i<|Nc v) H s'->Q () s')(b:X.fn x=Nf\/X.env.scope.names.lookup x=Nc .local:=by first|exact .inl U|exact .inr U|assumption):Kc M A (Kd X.env x u) Q E s :=
 mC I c hi a r (λs' d _=>h s' d) b
def Inv.call'(I:Inv X Ni σ H s)(f:s'.os=s.os)(u:Un (frs X.stack) ch H H' s.heap s'.heap)(hok:HOk X.prog X.w H' s'.heap)(g:AllBare s'.gens)
  (a:∀b∈ch,(b∈X.ex\/X.s₀.heap.objs.size<=b)/\b≠X.env.locals/\(∀x c,X.env.cells.lookup x=Nc c->c≠b)/\∀p∈X.pn++Ni,p.1≠b):Inv X Ni σ H' s':=by
 let(h',g',d',t',d):=s';let e:d=s.os:=f;subst e;calc I.call (g':=g') (t':=t') (d':=d') u hok g a
end
abbrev XK:=I1->Option Jr->Hp->Prop
abbrev St:=List<|Option V
abbrev VK:=V->Hp->Prop
abbrev TE:=St->Hp->VK->Prop
abbrev TT:=St->Hp->(Bool->Hp->Prop)->Prop
abbrev Qc:=St->Hp->Prop
abbrev Qd:=Hp->Prop
abbrev TA:=St->Hp->(Nt V->Qd)->Prop
structure Ends where
 nx:Qc
 rt:VK
 bk:Qc:=λ_ _=>False
 ct:Qc:=λ_ _=>False
abbrev TS:=Ends->Qc
inductive EP(X:Cx)(Ni:Nt (Jr×Obj))(σ:St)(Q:VK)(u:I1)(s':JY):Prop
 |mk (v:V)(H':Hp)(_:Inv X Ni σ H' s')(_:RelV v u)(_:Q v H'):EP X Ni σ Q u s'
def  TP(X:Cx)(Ni:Nt (Jr×Obj))(a:St)(Q:Bool->Qd)(b:Bool)(s':JY):Prop:=∃H',Inv X Ni a H' s'/\Q b H'
inductive AP(X:Cx)(Ni:Nt (Jr×Obj))(σ:St)(Q:Nt V->Qd)(us:Nt I1)(s':JY):Prop
 |mk (vs:Nt V)(H':Hp)(_:Inv X Ni σ H' s')(_:Vals vs us)(_:Q vs H'):AP X Ni σ Q us s'
def  SP(X:Cx)(Ni:Nt (Jr×Obj))(D:Ends)(f:Flow)(s':JY):Prop :=
 match f with
 | .next=>∃a H',Inv X Ni a H' s'/\D.nx a H'
 | .brk=>∃a H',Inv X Ni a H' s'/\D.bk a H'
 | .cont=>∃a H',Inv X Ni a H' s'/\D.ct a H'
 | .ret u=>∃v a H',Inv X Ni a H' s'/\RelV v u/\D.rt v H'
def  PE(X:Cx)(e:Ke)(t:TE):Prop :=
 ∀(Ni:Nt (Jr×Obj))(s:JY)(a:St)(H:Hp)(Q:VK),Inv X Ni a H s->t a H Q->Kc (model X.prog X.w) X.A (eval e X.env) (EP X Ni a Q) X.xe s
def  PT(X:Cx)(e:Ke)(t:TT):Prop :=
 ∀(Ni:Nt (Jr×Obj))(s:JY)(a:St)(H:Hp)(Q:Bool->Qd),Inv X Ni a H s->t a H Q->Kc (model X.prog X.w) X.A (Kf e X.env<|eval e X.env) (TP X Ni a Q) X.xe s
def  PW(X:Cx)(e:Ke)(t:TT):Prop :=
 ∀(a:Sem I1)(Ni:Nt (Jr×Obj))(s:JY)(b:St)(H:Hp)(Q:Bool->Qd),Inv X Ni b H s->t b H Q->Kc (model X.prog X.w) X.A (Kf e X.env a) (TP X Ni b Q) X.xe s
def PW.pt(h:PW X e t):PT X e t:=h _
def  PA(X:Cx)(c:Nt Ke)(t:TA):Prop :=
 ∀(b:Pos)(Ni:Nt (Jr×Obj))(s:JY)(a:St)(H:Hp)(Q:Nt V->Qd),Inv X Ni a H s->t a H Q->Kc (model X.prog X.w) X.A (spliced<|Kg b<|Kh c X.env) (AP X Ni a Q) X.xe s
def  PS(X:Cx)(st:Ki)(t:TS):Prop :=
 ∀(Ni:Nt (Jr×Obj))(s:JY)(a:St)(H:Hp)(D:Ends),Inv X Ni a H s->t D a H->Kc (model X.prog X.w) X.A (exec st X.env) (SP X Ni D) X.xe s
def  PSs(X:Cx)(st:Nt Ki)(t:TS):Prop :=
 ∀(Ni:Nt (Jr×Obj))(s:JY)(a:St)(H:Hp)(D:Ends),Inv X Ni a H s->t D a H->Kc (model X.prog X.w) X.A (execs st X.env) (SP X Ni D) X.xe s
def thn{α:Type}{t:Sem α}{Q b:α->JY->Prop}{M:Kb}{A:JX}{E:I1->JY->Prop}{s:JY}(h:Kc M A t Q E s)(c:∀a s,Q a s->b a s):Kc M A t b E s:=Kj h c λ_ _ x=>x
variable{ta tb:TE}{pos:Pos}
section
def  qg(i:Nat)(a:St)(H:Hp)(Q:VK):Prop:=(a[i]?).join.elim False λv=>Q v H
def qg.to{i:Nat}{a:St}(h:qg i a H Q):∃v,a[i]?=Nc (Nc v)/\Q v H:=by
 unfold qg at h;cases e:a[i]? with
 |none=>rw[e]at h;exact lf h
 |some o =>
  cases o with
  |none=>rw[e]at h;exact lf h
  |some v=>rw[e]at h;calc(v,U,h,)
def qg.of{i:Nat}{a:St}{H:Hp}{Q:VK}{v:V}(e:a[i]?=Nc (Nc v))(h:Q v H):qg i a H Q:=by unfold qg;rw[e];calc h
def  tC(v:V):TE:=λ_ H Q=>Q v H
def uX{x:Str}{pos:Pos}(p:X.N[i]?=Nc x)(j:Vis X.env.scope x)(hd:(x == ("__debug__" : Str))=false:=by decide) (b:(x == ("__classdict__" : Str))=false:=by decide):PE X (.Name x pos) (qg i):=by
 intro Ni s g H Q I h;let(v,e,h):=h.to;let(m,k,o):=I.loc;let(u,r,l):=o i x v p e j;let fin:EP X Ni g Q u s:=(v,H,I,r,h,);rcases l with⟨a,n⟩|⟨a,c,f,d⟩
 .exact Kk (Kl I.ok.kind a k n fin) hd
 .rcases a with a|a
  .exact Kk (Km I.ok.kind a f d fin) hd
  .exact Kk (wpAny_loadName_free I.ok.kind a f d fin b) hd
def aj{i j pos}:PE X (.Constant (.int i) j pos) (tC<|.int i):=λ_ _ _ H _ I h=>wpAny_Constant_int (.int i,H,I.tok _,(_,U,),h,)
def fQ{b j pos}:PE X (.Constant (.bool b) j pos) (tC<|.bl b):=λ_ _ _ H _ I h=>Constant_bool (.bl b,H,I,U,h,)
def rN{j pos}:PE X (.Constant .none j pos) (tC .non):=λ_ _ _ H _ I h=>Constant_none (.non,H,I,U,h,)
def aR{x j pos}:PE X (.Constant (.str x) j pos) (tC<|.str x):=λ_ _ _ H _ I h=>Calls.Constant_str (.str x,H,I.tok _,(_,U,),h,)
def  Gl(X:Cx)(x:Str):Prop:=X.env.kindOf x=Nc .globalImplicit
def dM{E:I1->JY->Prop}{Ni:Nt (Jr×Obj)}{s:JY}{a:St}{H:Hp}{x:Str}{u:I1}{pos:Pos}{Q:I1->JY->Prop}(I:Inv X Ni a H s)(c:Gl X x)(b:X.mg x=Nc u)(h:Q u s)
  (hd:(x == ("__debug__" : Str))=false:=by decide):Kc (model X.prog X.w) X.A (eval (.Name x pos) X.env) Q E s :=
 OO I.ok.kind c (Calls.loadGlobal_global (by rw[I.ok.glob];exact I.mod.glob.keeps I.bk) b h) hd
def iP{E:I1->JY->Prop}{Ni:Nt (Jr×Obj)}{s:JY}{a:St}{H:Hp}{x:Str}{u:I1}{pos:Pos}{Q:I1->JY->Prop}(I:Inv X Ni a H s)(e:Gl X x)(d:X.mg x=Nd)(b:JW x=Nc u)(h:Q u s)
  (c:x ≠ "__name__" := by decide) (hd:(x == ("__debug__" : Str))=false:=by decide):Kc (model X.prog X.w) X.A (eval (.Name x pos) X.env) Q E s:=by
 let(i,g,f):=I.mod.blt;calc OO I.ok.kind e (Calls.loadGlobal_builtin (by rw[I.ok.glob];exact I.mod.glob.keeps I.bk) d (by rw[I.ok.blt];exact g.keeps I.bk) ((f x c).trans b) h) hd
def bB{x:Str}{v:V}(b:Gl X x)(a:X.mg x=Nc u)(r:RelV v u)(hd:(x == ("__debug__" : Str))=false:=by decide):PE X (.Name x pos) (tC v) :=
 λ_ _ _ H _ I h=>dM I b a (v,H,I,r,h,) hd
def rO{x:Str}{v:V}(d:Gl X x)(c:X.mg x=Nd)(a:JW x=Nc u)(r:RelV v u)(b:x ≠ "__name__" := by decide) (hd:(x == ("__debug__" : Str))=false:=by decide):PE X (.Name x pos) (tC v) :=
 λ_ _ _ H _ I h=>iP I d c a (v,H,I,r,h,) b hd
variable{a b:Ke}
inductive tBq  (Q:Bool->Qd)(x:V)(H1:Hp):Prop
 |mk (c:_)(_:x=.bl c)(_:Q c H1):tBq Q x H1
def  tB(t:TE):TT:=λa H Q=>t a H λx b=>tBq Q x b
def cA(h:PE X e t)(i:∀a,Kf e X.env a=(do let v ←a;Kn e.pos;holding [v] (truthy v)):=by intro _;rfl):PT X e (tB t):=by
 intro Ni s b H Q I g;calc isTrue_plain (thn (h Ni s b H _ I g) λv l (x,k,j,c,f,)=>?_)<|i _;let(d,rfl,q):=f;cases c;calc Ko (k,j,q,)
variable{tA tB':TT}{rest:Nt Ke}
def  F0(t u:TT):TT:=λa H Q=>t a H λc b=>if c=Nf then u a b Q else Q Ng b
def  tOr(t u:TT):TT:=λa H Q=>t a H λc b=>if c=Nf then Q Nf b else u a b Q
def  F4(t:TT):TT:=λa H Q=>t a H λc b=>Q (!c) b
def gI(d:PT X a tA):PW X (.BoolOp .And [a] pos) tA:=by
 intro f Ni s b H Q I h;calc isTrue_and<|thn (d Ni s b H Q I h) λc g e=>?_;cases c with
 |true=>exact isTrue_and_nil e
 |false=>calc e
def yJ(d:PT X a tA):PW X (.BoolOp .Or [a] pos) tA:=by
 intro f Ni s b H Q I h;calc isTrue_or<|thn (d Ni s b H Q I h) λc g e=>?_;cases c with
 |false=>exact isTrue_or_nil e
 |true=>calc e
def jm(l:PT X a tA)(k:PW X (.BoolOp .And (b :: rest) pos) tB'):PW X (.BoolOp .And (a :: b :: rest) pos) (F0 tA tB'):=by
 intro i Ni s d H Q I h;calc isTrue_and<|thn (l Ni s d H _ I h) λc j (g,f,e,)=>?_;cases c with
 |true=>exact k i Ni j d g Q f e
 |false=>calc(g,f,e,)
def yK(l:PT X a tA)(k:PW X (.BoolOp .Or (b :: rest) pos) tB'):PW X (.BoolOp .Or (a :: b :: rest) pos) (tOr tA tB'):=by
 intro i Ni s d H Q I h;calc isTrue_or<|thn (l Ni s d H _ I h) λc j (g,f,e,)=>?_;cases c with
 |true=>exact(g,f,e,)
 |false=>calc k i Ni j d g Q f e
def dB(d:PT X a tA):PT X (.UnaryOp .Not a pos) (F4 tA):=by
 intro Ni s b H Q I h;calc isTrue_not<|d Ni s b H (λc e=>Q (!c) e) I h
inductive yL(tb:TE)(σ:St)(Q:VK)(x:V)(H1:Hp):Prop
 |mk (c:_)(_:x=.bl c)(_:if c=Nf then tb σ H1 Q else Q (.bl Ng) H1)
def  Es(ta tb:TE):TE:=λa H Q=>ta a H λx b=>yL tb a Q x b
inductive Cj(tb:TE)(σ:St)(Q:VK)(x:V)(H1:Hp):Prop
 |mk (c:_)(_:x=.bl c)(_:if c=Nf then Q (.bl Nf) H1 else tb σ H1 Q)
def  F5(ta tb:TE):TE:=λa H Q=>ta a H λx b=>Cj tb a Q x b
inductive yM  (Q:VK)(x:V)(H1:Hp):Prop
 |mk (c:_)(_:x=.bl c)(_:Q (.bl<|!c) H1):yM Q x H1
def  Et(ta:TE):TE:=λa H Q=>ta a H λx b=>yM Q x b
def fR{op}(h:PE X a t):PE X (.BoolOp op [a] pos) t:=λNi s b H Q I c=>BoolOp_one<|h Ni s b H Q I c
def fS(l:PE X a ta)(k:PE X (.BoolOp .And (b :: rest) pos) tb):PE X (.BoolOp .And (a :: b :: rest) pos) (Es ta tb):=by
 intro Ni s e H Q I h;calc BoolOp_and<|thn (l Ni s e H _ I h) λv i (x,g,f,j,d,)=>?_;let(c,rfl,d):=d;cases j;calc Ko ?_;cases c with
 |true=>exact k Ni i e g Q f d
 |false=>calc(.bl Ng,g,f,U,d,)
def Ck(l:PE X a ta)(k:PE X (.BoolOp .Or (b :: rest) pos) tb):PE X (.BoolOp .Or (a :: b :: rest) pos) (F5 ta tb):=by
 intro Ni s e H Q I h;calc BoolOp_or<|thn (l Ni s e H _ I h) λv i (x,g,f,j,d,)=>?_;let(c,rfl,d):=d;cases j;calc Ko ?_;cases c with
 |false=>exact k Ni i e g Q f d
 |true=>calc(.bl Nf,g,f,U,d,)
def CZ(f:PE X a ta):PE X (.UnaryOp .Not a pos) (Et ta):=by
 intro Ni s d H Q I h;calc UnaryOp_<|thn (f Ni s d H _ I h) λv j (x,i,g,e,b,)=>?_;let(c,rfl,b):=b;cases e;calc not_of<|Ko (.bl<|!c,i,g,U,b,)
def  tIf(t:TT)(ta tb:TE):TE:=λa H Q=>t a H λc b=>if c=Nf then ta a b Q else tb a b Q
def ij(k:PT X c tA)(m:PE X a ta)(l:PE X b tb):PE X (.IfExp c a b pos) (tIf tA ta tb):=by
 intro Ni s e H Q I h;calc wpAny_IfExp<|thn (k Ni s e H _ I h) λd f (j,i,g,)=>?_;cases d with
 |true=>exact m Ni f e j Q i g
 |false=>calc l Ni f e j Q i g
end
def  SqL(K:am)(H:Hp)(a:Jr)(xs:Nt V):Prop :=
 Rd H a (.lst xs) \/
  ∃(o:Obj)(b:Array I1)(n:Nat),K.lookup a=Nc o/\o.cls=.type "list" /\ o.dict=Nd/\o.data=.seq b n/\b.size<=JR/\Vals xs b.toList
def  SqT(K:am)(H:Hp)(a:Jr)(xs:Nt V):Prop :=
 Rd H a (.tup xs) \/
  ∃(o:Obj)(b:Array I1)(n:Nat),K.lookup a=Nc o/\o.cls=.type "tuple" /\ o.data=.seq b n/\b.size<=JR/\Vals xs b.toList
def  F6:I1->Option V
 | .none=>Nc .non
 | .bool b=>Nc<|.bl b
 | .int i _=>Nc<|.int i
 | .str x _=>Nc<|.str x
 | .bytes b _=>Nc<|.byt b
 | .float b _=>Nc<|.flt b
 | .ref a=>↑a
 | .type n=>Nc<|.ty n
 |_=>Nd
def RelV.abs{x:V}(r:RelV x u):F6 u=Nc x:=by
 cases x with
 |non=>cases r;rfl
 |bl _=>cases r;rfl
 |int _=>obtain⟨t,rfl⟩:=r;rfl
 |str _=>obtain⟨t,rfl⟩:=r;rfl
 |byt _=>obtain⟨t,rfl⟩:=r;rfl
 |flt _=>obtain⟨t,rfl⟩:=r;rfl
 |ref _=>cases r;rfl
 |ty _=>cases r;rfl
def RelV.inj{x y:V}{u:I1}(r:RelV x u)(q:RelV y u):x=y:=bn<|r.abs.symm.trans q.abs
def Vals.inj:∀{xs ys:Nt V}{us:Nt I1},Vals xs us->Vals ys us->xs=ys
 |_,_,_,.nil,.nil=>rfl
 |_,_,_,.cons r t,.cons r' t'=>by rw[r.inj r',Vals.inj t t']
variable{σ:St}
section
variable{xs ys:Nt V}
def SqL.of{K:am}(h:H a=Nc (.lst xs)):SqL K H a xs:=.inl<|.inl h
def SqT.of{K:am}(h:H a=Nc (.tup xs)):SqT K H a xs:=.inl<|.inl h
def Inv.list(I:Inv X Ni σ H s)(h:SqL X.K H a xs):∃b:Nt I1,Vals xs b/\PlainL s.heap a b.toArray/\⇑xs<=JR:=by
 rcases h with h|⟨o,b,n,d,f,hd,c,g,r⟩
 .let(z,b,n,r,e):=h.ok I.hok;exact(b,r,(_,n,e,U,U,U,),z,)
 .refine(b.toList,r,(o,n,I.kIn a o d,f,hd,~~~c,),?_,);let e:=⇑r;simp only[D0]at e;lia
def Inv.tuple(I:Inv X Ni σ H s)(h:SqT X.K H a xs):∃b:Nt I1,Vals xs b/\IsTup s.heap a b.toArray/\⇑xs<=JR:=by
 rcases h with h|⟨o,b,n,d,f,c,g,r⟩
 .let(z,b,r,p):=h.ok I.hok;exact(b,r,p,z,)
 .refine(b.toList,r,(o,I.kIn a o d,f,n,~~~c,),?_,);let e:=⇑r;simp only[D0]at e;lia
def Inv.list_inj(I:Inv X Ni σ H s)(h:SqL X.K H a xs)(h':SqL X.K H a ys):xs=ys:=by
 let(c,r,(o,n,e,_,_,d),_):=I.list h;let(b,i,(k,l,f,_,_,g),_):=I.list h';rw[e]at f;cases f;rw[d]at g;injection g with j _;let:c=b:= ~~~Nq Pd j
 subst this;calc r.inj i
def Inv.tuple_inj(I:Inv X Ni σ H s)(h:SqT X.K H a xs)(h':SqT X.K H a ys):xs=ys:=by
 let(c,r,(o,e,_,n,d),_):=I.tuple h;let(b,i,(k,f,_,l,g),_):=I.tuple h';rw[e]at f;cases f;rw[d]at g;injection g with j _;let:c=b:= ~~~Nq Pd j
 subst this;calc r.inj i
end
open SqT renaming of→P9
open SqL renaming of→P8
abbrev Cx.wish(X:Cx)(E:I1->JY->Prop):Cx:={ X with xe:=E }
abbrev Cx.nox(X:Cx):Cx:=X.wish λ_ _=>False
open Cx renaming wish→Qa,nox→Qb
def Cx.Ok.wish(ok:X.Ok)(E:I1->JY->Prop):(X.wish E).Ok :=
 (ok.mod,ok.kind,ok.glob,ok.blt,ok.above,ok.inj,ok.has,ok.cab,ok.hd,ok.frames,ok.stk,ok.exf,ok.bs,ok.bsz,ok.noex,ok.exfs,ok.funs,ok.frf,)
def Cx.Ok.unwish(ok:(X.wish E).Ok):X.Ok :=
 (ok.mod,ok.kind,ok.glob,ok.blt,ok.above,ok.inj,ok.has,ok.cab,ok.hd,ok.frames,ok.stk,ok.exf,ok.bs,ok.bsz,ok.noex,ok.exfs,ok.funs,ok.frf,)
variable{E:I1->JY->Prop}
def Inv.wish(I:Inv X Ni σ H s)(E:I1->JY->Prop):Inv (X.wish E) Ni σ H s:=(I.ok.wish E,I.os,I.bare,I.base,I.loc,I.cell,I.free,I.freeC,I.pin,I.hok,I.len,)
def Inv.unwish(I:Inv (X.wish E) Ni σ H s):Inv X Ni σ H s:=(I.ok.unwish,I.os,I.bare,I.base,I.loc,I.cell,I.free,I.freeC,I.pin,I.hok,I.len,)
def SP.unwish(h:SP (X.wish E) Ni D f s'):SP X Ni D f s':=by
 cases f with
 |next=>obtain⟨a,H',I,q⟩:=h;exact(a,H',I.unwish,q,)
 |brk=>obtain⟨a,H',I,q⟩:=h;exact(a,H',I.unwish,q,)
 |cont=>obtain⟨a,H',I,q⟩:=h;exact(a,H',I.unwish,q,)
 |ret u=>obtain⟨v,a,H',I,r,q⟩:=h;calc(v,a,H',I.unwish,r,q,)
def PE.nox(h:PE X.nox e t):PE X e t:=λNi s σ H Q I a =>
 Kj (h Ni s σ H Q (I.wish _) a) (λ_ _ (v,H',b,r,q,)=>(v,H',b.unwish,r,q,)) λ_ _ z=>lf z
def PSs.nox{st:Nt Ki}(h:PSs X.nox st t):PSs X st t:=λNi s σ H D I a =>
 Kj (h Ni s σ H D (I.wish _) a) (λ_ _ q=>q.unwish) λ_ _ z=>lf z
variable{e:Ke}{te:TE}
section
variable{st:Ki}{rest:Nt Ki}{t u:TS}
def  Eu:TS:=λD σ H=>D.nx σ H
def  aX(t u:TS):TS:=λD σ H=>t { D with nx:=u D } σ H
def aD:PSs X [] Eu:=λ_ _ σ H _ I h=>Kp (σ,H,I,h,)
def aq(d:PS X st t)(c:PSs X rest u):PSs X (st :: rest) (aX t u):=by
 intro Ni s σ H D I h;calc Kq<|thn (d Ni s σ H { D with nx:=u D } I h) λf b q=>?_;cases f with
 |next =>
  let(a,H',e,q):=q;exact c Ni b a H' D e q
 |ret v=>exact q
 |brk=>exact q
 |cont=>calc q
def ak(a:PS X st t):PSs X [st] t:=by
 intro Ni s σ H D I h;calc Kq<|thn (a Ni s σ H D I h) λf b q=>?_;cases f with
 |next=>exact Kp q
 |ret v=>exact q
 |brk=>exact q
 |cont=>calc q
def Inv.quiet(I:Inv X Ni σ H s):interactive X.env=false:=by simp[interactive,I.ok.kind]
def  Ew(te:TE):TS:=λD σ H=>te σ H λ_ a=>D.nx σ a
def bq(c:PE X e te)(b:Kr e Nd pos.line X.env=pure false:=by rfl):PS X (.Expr e pos) (Ew te):=by
 intro Ni s σ H D I h;calc Ks (thn (c Ni s σ H _ I h) λv g (x,f,d,i,a,)=>(σ,f,d,a,)) I.quiet b
def  F7(te:TE):TS:=λD σ H=>te σ H D.rt
def av(c:PE X e te):PS X (.Return (Nc e) pos) (F7 te):=by
 intro Ni s σ H D I h;calc wpAny_Return_some<|thn (c Ni s σ H _ I h) λv g (x,f,d,a,b,)=>(x,σ,f,d,a,b,)
def  F8(c:TT)(t u:TS):TS:=λD σ H=>c σ H λb a=>if b=Nf then t D σ a else u D σ a
def aS{a b:Nt Ki}{e:TT}(k:PT X c e)(m:PSs X a t)(l:PSs X b u):PS X (.If c a b pos) (F8 e t u):=by
 intro Ni s σ H D I h;calc wpAny_If<|thn (k Ni s σ H _ I h) λd f (j,i,g,)=>?_;cases d with
 |true=>exact m Ni f σ j D i g
 |false=>calc l Ni f σ j D i g
def  C0:TS:=λ_ _ _=>False
def cI:PS X st C0:=λ_ _ _ _ _ _ h=>h.elim
end
abbrev TG:=V->St->Hp->(Qc)->Prop
abbrev TGs:=Nt V->St->Hp->(Qc)->Prop
def  PG(X:Cx)(a:Ke)(t:TG):Prop :=
 ∀(Ni:Nt (Jr×Obj))(s:JY)(σ:St)(H:Hp)(v:V)(u:I1)(Q:Qc),Inv X Ni σ H s->RelV v u->t v σ H Q ->
  Kc (model X.prog X.w) X.A (assign a X.env u) (λ_ c=>∃b H',Inv X Ni b H' c/\Q b H') X.xe s
def  PGs(X:Cx)(ts:Nt Ke)(t:TGs):Prop :=
 ∀(Ni:Nt (Jr×Obj))(s:JY)(σ:St)(H:Hp)(b:Nt V)(c:Nt I1)(Q:Qc),Inv X Ni σ H s->Vals b c->t b σ H Q ->
  Kc (model X.prog X.w) X.A (assignInOrder ((Kt ts X.env).map (·.2)) c) (λ_ d=>∃a H',Inv X Ni a H' d/\Q a H') X.xe s
abbrev C1:=V->V->V->Hp->(Qd)->Prop
def  Ex(X:Cx)(t:C1):Prop :=
 ∀(Ni:Nt (Jr×Obj))(s:JY)(σ:St)(H:Hp)(o i v:V)(a b u:I1)(Q:Qd),Inv X Ni σ H s->RelV o a->RelV i b->RelV v u->t o i v H Q ->
  Kc (model X.prog X.w) X.A (setItem a b u) (λ_ c=>∃H',Inv X Ni σ H' c/\Q H') X.xe s
abbrev TIp:=V->V->Hp->VK->Prop
def  PIp(X:Cx)(a:Ku)(t:TIp):Prop :=
 ∀(Ni:Nt (Jr×Obj))(s:JY)(σ:St)(H:Hp)(x y:V)(v u:I1)(Q:VK),Inv X Ni σ H s->RelV x v->RelV y u->t x y H Q ->
  Kc (model X.prog X.w) X.A (inplaceOp a v u) (EP X Ni σ Q) X.xe s
def  qN(i:Nat):TG:=λv σ H Q=>Q (σ.set i<|Nc v) H
def aE{x:Str}(c:X.N.Nodup)(hi:X.N[i]?=Nc x)(a:Loc X.env.scope x)(b:X.fn x=Nf\/X.env.scope.names.lookup x=Nc .local:=by first|exact .inl U|exact .inr U|assumption):PG X (.Name x pos) (qN i):=by
 intro Ni s σ H v u Q I r h;calc Kv<|jl I c hi a r (λe d=>(_,H,d,h,)) b
def  F9:TGs:=λa σ H Q=>a=[]/\Q σ H
def  Ey(t:TG)(u:TGs):TGs:=λb σ H Q=>∃v r,b=v :: r/\t v σ H λa H'=>u r a H' Q
def bI:PGs X [] F9:=by
 intro Ni s σ H a b Q I r h;let(e,h):=h;subst e;cases r;calc assignInOrder_nil (σ,H,I,h,)
def aF{e:Ke}{a:Nt Ke}(j:PG X e t)(i:PGs X a u)
  (g:(Kt (e :: a) X.env).map (·.2)=assign e X.env :: (Kt a X.env).map (·.2):=by rfl):PGs X (e :: a) (Ey t u):=by
 intro Ni s σ H n p Q I r h;let(v,o,k,h):=h;subst k;cases r with
 |cons r d =>
  rw[g];calc assignInOrder_cons<|thn (j Ni s σ H _ _ _ I r h) λ_ c (b,m,l,f,)=>?_;calc i Ni c b m _ _ Q l d f
def  Ez(K:am)(n:Nat)(t:TGs):TG:=λv σ H Q=>∃a b,v=.ref a/\SqT K H a b/\⇑b=n/\t b σ H Q
def fA{c:Nt Ke}{k:Nat}{t:TGs}{n:Nat}(w:X.calm=Nf)(h:PGs X c t)
  (p:⇑(Kt c X.env)=n:=by rfl)(f:(Kt c X.env).findIdx? (·.1)=none:=by rfl):PG X (.Tuple c k pos) (Ez X.K n t):=by
 intro Ni s σ H v u Q I r d;let(a,i,x,m,q,d):=d;subst x;cases r;let(z,g,l,A):=I.tuple m;refine assign_Tuple_tuple (I.ok.hd w) l (by simp[p,←q,⇑g]) f λh' j=>?_
 let y:Inv X Ni σ H { s with heap:=h' }:=I.kept (t':=s.toks) λb o e=>j b o (uR<|bi e) e
 calc h Ni _ σ H i _ Q y (~~~g) d
def  Ga(to ti:TE)(t:C1):TG:=λv σ H Q=>to σ H λo c=>ti σ c λi b=>t o i v b λa=>Q σ a
def kG(l:PE X o to)(hi:PE X i ti)(k:Ex X t)
  (m:∀v,assign (.Subscript o i pos) X.env v=(do
   let a ←holding [v] (eval o X.env)
   let b ←holding [v,a] (eval i X.env)
   Kn pos
   holding [v,a,b] (setItem a b v)
   release [v,a,b] []):=by intro _;rfl):PG X (.Subscript o i pos) (Ga to ti t):=by
 intro Ni s σ H v u Q I r h;rw[m];calc GS<|GV<|thn (l Ni s σ H _ I h) λa c (x,A,q,e,j,)=>?_;calc GS<|GV<|thn (hi Ni c σ A _ q j) λb s2 (y,z,p,d,g,)=>?_;calc GS<|Kw<|GS<|GV<|thn (k Ni s2 σ z x y v a b u _ p e d r g) λ_ B (w,n,f,)=>?_;calc wpAny_release (σ,w,n,f,)
def  AY(te:TE)(g:TG):TS:=λD σ H=>te σ H λx a=>g x σ a D.nx
def jn{a e:Ke}(k:PE X e te)(j:PG X a g)(i:swapsWithSole [a] e pos.line X.env=pure false:=by rfl)(f:swappedStores [a] e X.env=pure none:=by rfl)
  (l:(Kt [a] X.env).map (·.2)=[assign a X.env]:=by rfl):PS X (.Assign [a] e pos) (AY te g):=by
 intro Ni s σ H D I h;calc wpAny_Assign_stores (thn (k Ni s σ H _ I h) λv b (x,n,m,c,d,)=>?_) i f;rw[l];calc thn (j Ni b σ n x v _ m c d) λ_ s2 q=>q
def aK{i:Nat}{x:Str}{e:Ke}{te:TE}{a:Pos}(k:X.N.Nodup)(hi:X.N[i]?=Nc x)(d:Loc X.env.scope x)(j:PE X e te)(f:Kr e (Nc<|.Name x a) pos.line X.env=pure false:=by rfl)(g:X.fn x=Nf\/X.env.scope.names.lookup x=Nc .local:=by first|exact .inl U|exact .inr U|assumption) :
  PS X (.Assign [.Name x a] e pos) (AY te<|qN i):=by
 intro Ni s σ H D I h;calc wpAny_Assign_Name (thn (j Ni s σ H _ I h) λv o (y,n,m,b,c,)=>?_) f;calc jl m k hi d b (λs2 l=>(_,n,l,c,)) g
inductive EA(i:Nat)(te:TE)(ti:TIp)(D:Ends)(σ:St)(H:Hp):Prop
 |mk (x:_)(_:σ[i]?=Nc (Nc x))(_:te σ H λy H1=>ti x y H1 λz H2=>D.nx (σ.set i<|Nc z) H2)
def uY{i:Nat}{x:Str}{e:Ke}(P:X.N.Nodup)(hi:X.N[i]?=Nc x)(j:Loc X.env.scope x)(M:PE X e te)(F:PIp X g ti)(L:X.fn x=Nf\/X.env.scope.names.lookup x=Nc .local:=by first|exact .inl U|exact .inr U|assumption) :
  PS X (.AugAssign (.Name x f) g e pos) (EA i te ti):=by
 intro Ni s σ H D I h;let(v,Q,h):=h;let(m,G,K):=I.loc;let n:Vis X.env.scope x:=by rcases j with k|k;calc .inl k;exact .inr<|.inl k
 let(u,r,l):=K i x v hi Q n;calc wpAny_AugAssign_Name ?_;let o:Kc (model X.prog X.w) X.A (eval e X.env) (λw d=>Kc (model X.prog X.w) X.A (inplaceOp g u w) (λr b=>Kc (model X.prog X.w) X.A (Kd X.env x r) (λ_=>SP X Ni D .next) X.xe b) X.xe d) X.xe s:=by
  refine thn (M Ni s σ H _ I h) λw p (y,W,T,t,C,)=>?_
  refine thn (F Ni p σ W v y u w _ T r t C) λz s2 (Y,V,S,q,B,)=>?_
  exact jl S P hi j q (λZ R=>(_,V,R,B,)) L
 rcases l with⟨a,J⟩|⟨a,c,O,E⟩
 .exact Kl I.ok.kind a G J o
 .rcases a with a|a
  .exact Km I.ok.kind a O E o
  .rcases j with k|k
   .let:X.env.scope.names.lookup x=Nc .free:=a;rw[k]at this;cases this
   .let:X.env.scope.names.lookup x=Nc .free:=a;rw[k]at this;cases this
def  ipI(f:Int->Int->Int):TIp:=λx y H Q=>∃i j,x=.int i/\y=.int j/\Q (.int<|f i j) H
def yN:PIp X .Add (ipI λi j=>i+j):=by
 intro Ni s σ H x y v u Q I b a h;let(i,j,d,c,q):=h;subst d;subst c;let(t,rfl):=b;let(e,rfl):=a;calc iadd_int (.int _,H,I.tok _,(_,U,),q,)
def  C2(c:TT)(tb:TS):TS:=λD σ H=>∃W:Nat->Qc,(∃m,W m σ H)/\∀m σ H,W m σ H ->
 c σ H λb e=>if b=Nf then ∃N:Qc,(∀a H',N a H'->∃d,d<m/\W d a H')/\tb { D with nx:=N,ct:=N,bk:=D.nx } σ e else D.nx σ e
def yO{q:TT}{tb:TS}(r:Ky (model X.prog X.w) X.A X.env X.xe)(G:PT X c q)(J:PSs X body tb):PS X (.While c body [] pos) (C2 q tb):=by
 intro Ni s σ H D I h;let(W,(F,B),i):=h;calc wpAny_While<|codeAny_whileLoop (λn E=>∃g H',Inv X Ni g H' E/\W n g H') ?_ F (σ,H,I,B,);rintro n C ⟨d,y,K,z⟩;calc Kz r<|thn (G Ni C d y _ K<|i n d y z) λb s2 (x,u,k,)=>?_;cases b with
 |true =>
  let(N,t,k):=k;rw[Nk U];calc Kz r<|thn (J Ni s2 d x _ u k) λf L j=>?_;cases f with
  |next =>
   let(a,e,p,l):=j;let(m,o,w3):=t a e l;exact(m,o,a,e,p,w3,)
  |cont =>
   let(a,e,p,l):=j;let(m,o,w3):=t a e l;exact(m,o,a,e,p,w3,)
  |brk=>exact j
  |ret v=>exact j
 |false =>
  rw[Nj cr];calc Kp (d,x,u,k,)
structure It where
 go:Nat->Qd
 yld:Nat->Hp->V->Qd
 stop:Nat->Qd
def  mD(X:Cx)(Ni:Nt (Jr×Obj))(H:Hp)(b:Jr):Prop :=
 H b=Nd/\b≠X.env.locals/\b ∉ X.fs/\(b∈X.ex\/X.s₀.heap.objs.size<=b)/\(∀x c,X.env.cells.lookup x=Nc c->c≠b)/\∀p∈X.pn++Ni,p.1≠b
def Inv.fpOk{X:Cx}{Ni:Nt (Jr×Obj)}{σ:St}{H H':Hp}{s:JY}{b:Jr}(I:Inv X Ni σ H s)(a:↥s<=b)(f:H' b=Nd):mD X Ni H' b:=by
 refine(f,vo<|u7 I.lt a,I.nofs a,.inr<|uU I.sz a,λx c e z=>?_,λp d z=>?_,)
 .let(v,q):=I.cell x c e;exact Nl (u7 q.lt (by rw[z];exact a)) (v5 _)
 .exact Nl (u7 (bi (I.pin p d).1) (by rw[z];exact a)) (v5 _)
structure Turn(P:Jl)(w:Je)(K:am)(tg:Ke)(J:It)(fp:Nt Jr)(it:Jr)(tn:Nat->JD->Prop):Prop where
 mem:it∈fp
 obj:∀i h,tn i h->∀b∈fp,∃o,h.get? b=Nc o/\∀v,o.data≠.cell v
 keep:∀i h h',tn i h->(∀b∈fp,∀o,h.get? b=Nc o->h'.get? b=Nc o)->tn i h'
 item:∀(X:Cx),X.prog=P->X.w=w->X.K=K->X.calm=Nf->∀(i:Nat)(Ni:Nt (Jr×Obj))(s:JY)(σ:St)(H:Hp)(E:I1->JY->Prop),Inv X Ni σ H s->(∀b∈fp,mD X Ni H b)->tn i s.heap->J.go i H ->
  Kc (model P w) X.A (KA<|.ref it) (λr s1=>∃u,r=Nc u /\
   Kc (model P w) X.A (KC tg (.ref it) u) (λ_ s2=>∃x H',Inv X Ni σ H' s2/\RelV x u/\J.yld i H x H'/\tn (i+1) s2.heap/\∀b∈fp,H' b=Nd) E s1) E s
 done:∀(X:Cx),X.prog=P->X.w=w->X.K=K->X.calm=Nf->∀(i:Nat)(Ni:Nt (Jr×Obj))(s:JY)(σ:St)(H:Hp)(E:I1->JY->Prop),Inv X Ni σ H s->(∀b∈fp,mD X Ni H b)->tn i s.heap->J.stop i H ->
  Kc (model P w) X.A (KA<|.ref it) (λr s1=>r=Nd/\Inv X Ni σ H s1) E s
 self:∀(A:JX)(i:Nat)(s:JY)(Q:I1->JY->Prop)(E:I1->JY->Prop),tn i s.heap->Q (.ref it) s->Kc (model P w) A (KD<|.ref it) Q E s
abbrev TI:=St->Hp->(It->Qd)->Prop
def  PIE(X:Cx)(Ni:Nt (Jr×Obj))(σ:St)(e:Ke)(R:It->Qd)(a:I1)(s2:JY):Prop :=
 ∃(it:Jr)(d:Nt Jr)(c:Nat->JD->Prop)(J:It)(H':Hp),a=.ref it/\Inv X Ni σ H' s2/\Turn X.prog X.w X.K e J d it c/\c 0 s2.heap/\(∀b∈d,mD X Ni H' b)/\R J H'
def  PI(X:Cx)(c a:Ke)(b:TI):Prop :=
 ∀(Ni:Nt (Jr×Obj))(s:JY)(σ:St)(H:Hp)(R:It->Qd),Inv X Ni σ H s->b σ H R ->
  Kc (model X.prog X.w) X.A (eval a X.env) (λv d=>Kc (model X.prog X.w) X.A (KD v) (PIE X Ni σ c R) X.xe d) X.xe s
def qO(c:s.heap.get? it=Nc o)(e:o.cls=.type n)(hd:o.data=.fields vs)
  (d:["enumerate","zip","dict_itemiterator","dict_reverseitemiterator","odict_iterator","itertools.zip_longest","itertools.pairwise"].contains n=Ng) (a:Q () s):Kc M A (KC b (.ref it) u) Q E s:=by
 unfold KC
 cases b <;> first
  |exact GU a
  |(cases u <;> first
    |exact GU a
    |(calc GS (wpAny_load c ?_);rw[e,hd];show Kc M A (if (["enumerate","zip","dict_itemiterator","dict_reverseitemiterator","odict_iterator","itertools.zip_longest","itertools.pairwise"].contains n && vs[0]? == Nc (KG _))=Nf then _ else _) Q E s;rw[Nj (by intro h;rw[d,Gc]at h;cases h)];exact GU a))
def  Itl(K:am)(a:Jr):It :=
 (λi H=>∃b x,SqL K H a b/\b[i]?=Nc x,λi H x H'=>H'=H/\∀b,SqL K H a b->b[i]?=Nc x,λi H=>∃b,SqL K H a b/\⇑b<=i,)
def  Itt(K:am)(a:Jr):It :=
 (λi H=>∃b x,SqT K H a b/\b[i]?=Nc x,λi H x H'=>H'=H/\∀b,SqT K H a b->b[i]?=Nc x,λi H=>∃b,SqT K H a b/\⇑b<=i,)
def  Itr(lo:Int)(n:Nat):It:=(λi _=>i<n,λi H x H'=>H'=H/\x=.int (lo+i),λi _=>n<=i,)
def xB{K:am}{N:Ke}(a it:Jr):Turn P w K N (Itl K a) [it] it (λi h=>h.IsListIter it a i) where
 mem:=by simp
 obj:=λi h f b g=>by
  let e:b=it:= ~~~g
  subst e;let(o,e,c,d):=f;exact⟨o,e,λv z=>by rw[d]at z;cases z⟩
 keep:=λi h h' f k=>f.at λo e=>k it (by simp) o e
 item:=by
  intro X y r A L i Ni s σ H E I m f t;subst y r A;let(M,x,l,q):=t;let(J,n,p,Q):=I.list l;let(u,S,O):=n.get q;let(G,F,T,D,C,B):=m it (by simp);refine KH f p.isList (x:=u) (~~~S) λh' j sb=>?_
  let Y:Inv X Ni σ H { s with heap:=h' }:=I.turned (t':=s.toks) (λb o g e=>(sb.2 b g).trans e) G F D C B;let(o,e,c,d):=id j;exact(u,U,qO (s:={ s with heap:=h' }) e c d ⋯ (x,H,Y,O,(U,λZ R=>by rw[I.list_inj R l];exact q,),j,λb g=>(m b g).1,),)
 done:=by
  intro X y r A L i Ni s σ H E I m f t;subst y r A;let(M,l,q):=t;let(J,n,p,Q):=I.list l;let(G,F,T,D,C,B):=m it (by simp);let hl:=⇑n;exact wpAny_pyNext_list_end (I.ok.hd L) f p.isList (by simp;lia) λh' V=>(U,I.turned (t':=s.toks) (λb o g e=>V b o g e) G F D C B,)
 self:=λ_ _ _ _ _ f h=>KI f h
def uZ{K:am}{N:Ke}(a it:Jr):Turn P w K N (Itt K a) [it] it (λi h=>h.IsTupleIter it a i) where
 mem:=by simp
 obj:=λi h f b g=>by
  let e:b=it:= ~~~g
  subst e;let(o,e,c,d):=f;exact⟨o,e,λv z=>by rw[d]at z;cases z⟩
 keep:=λi h h' f k=>f.at λo e=>k it (by simp) o e
 item:=by
  intro X A t B L i Ni s σ H E I n f y;subst A t B;let(M,x,m,r):=y;let(j,q,p,Q):=I.tuple m;let(u,S,O):=q.get r;let(J,G,T,F,D,C):=n it (by simp);refine wpAny_pyNext_tuple_item f (show s.heap.IsTuple a j.toArray from p) (x:=u) (~~~S) λh' l sb=>?_
  let Y:Inv X Ni σ H { s with heap:=h' }:=I.turned (t':=s.toks) (λb o g e=>(sb.2 b g).trans e) J G F D C;let(o,e,c,d):=id l;exact(u,U,qO (s:={ s with heap:=h' }) e c d ⋯ (x,H,Y,O,(U,λZ R=>by rw[I.tuple_inj R m];exact r,),l,λb g=>(n b g).1,),)
 done:=by
  intro X A t B L i Ni s σ H E I n f y;subst A t B;let(M,m,r):=y;let(j,q,p,Q):=I.tuple m;let(J,G,T,F,D,C):=n it (by simp);let hl:=⇑q;exact wpAny_pyNext_tuple_end (I.ok.hd L) f (show s.heap.IsTuple a j.toArray from p) (by simp;lia) λh' V=>(U,I.turned (t':=s.toks) (λb o g e=>V b o g e) J G F D C,)
 self:=λ_ _ _ _ _ f h=>wpAny_pyIter_tupleiter f h
def vb{K:am}{C:Ke}(it:Jr)(lo:Int)(n:Nat):Turn P w K C (Itr lo n) [it] it (λi h=>KJ h it (lo+(i:Nat)*1) ((n:Int)-(i:Nat)) 1) where
 mem:=by simp
 obj:=λi h a b c=>by
  let e:b=it:= ~~~c
  subst e;exact⟨_,a,λv z=>by
   let B:Data.fields _=Data.cell v:=z;cases B⟩
 keep:=λi h h' a k=>k it (by simp) _ a
 item:=by
  intro X m g p l i Ni s σ H E I f a j;subst m g p;let(y,x,G,u,r,q):=f it (by simp);let W:=KL.range (prog:=X.prog) (w:=X.w) (I.ok.hd l) it lo 1 n;refine W.item i s _ _ j a λv h' A F d D=>?_
  let(t,rfl):=F;let L:Inv X Ni σ H { s with heap:=h',toks:=A }:=I.turned (λb o c e=>D b o (~~~c) e) y x u r q;calc(_,U,qO (s:={ s with heap:=h',toks:=A }) (n := "range_iterator") d U U ⋯ (.int<|lo+i,H,L,(t,?_,),(U,U,),d,λb c=>(f b c).1,),);rw[Int.mul_one]
 done:=by
  intro X m g p l i Ni s σ H E I f a j;subst m g p;let(y,x,G,u,r,q):=f it (by simp);exact KN (I.ok.hd l) a (by have:n<=i:=j;lia) λh' J=>(U,I.turned (t':=s.toks) (λb o c e=>J b o c e) y x u r q,)
 self:=λ_ _ _ _ _ a h=>KO a h
section
variable{tg:Ke}
inductive yP(K:am)(R:It->Qd)(x:V)(H1:Hp):Prop
 |mk (a:_)(_:x=.ref a)(_:(∃xs,SqL K H1 a xs))(_:R (Itl K a) H1)
def  EB(K:am)(tl:TE):TI:=λσ H R=>tl σ H λx a=>yP K R x a
inductive Cm(K:am)(R:It->Qd)(x:V)(H1:Hp):Prop
 |mk (a:_)(_:x=.ref a)(_:(∃xs,SqT K H1 a xs))(_:R (Itt K a) H1)
def  Gb(K:am)(tl:TE):TI:=λσ H R=>tl σ H λx a=>Cm K R x a
def bw(j:PE X l tl):PI X tg l (EB X.K tl):=by
 intro Ni s σ H R I h;refine thn (j Ni s σ H _ I h) λv c (x,m,d,f,g,)=>?_
 let(a,e,(r,i),q):=g;subst e;cases f;let(n,t,p,u):=d.list i;calc KP p.isList ?_;calc(↥c,[↥c],_,_,m,U,d.kept (t':=c.toks) λb o e=>bd _ e,xB a _,(_,ci _ U,U,U,),λb k=>?_,q,);let e:b=↥c:= ~~~k
 subst e;calc d.fpOk (uN _)<|d.hok.fresh<|uN _
def vc(k:PE X l tl):PI X tg l (Gb X.K tl):=by
 intro Ni s σ H R I h;refine thn (k Ni s σ H _ I h) λv c (x,n,d,g,i,)=>?_
 let(a,e,(r,j),q):=i;subst e;cases g;let(f,t,p,u):=d.tuple j;refine wpAny_pyIter_tuple (show c.heap.IsTuple a f.toArray from p) ?_;calc(↥c,[↥c],_,_,n,U,d.kept (t':=c.toks) λb o e=>bd _ e,uZ a _,(_,ci _ U,U,U,),λb m=>?_,q,);let e:b=↥c:= ~~~m
 subst e;calc d.fpOk (uN _)<|d.hok.fresh<|uN _
def yQ{R:It->Qd}{E:I1->JY->Prop}{lo hi:Int}{t u v:Tok}{a:Nat}(I:Inv X Ni σ H s)(i : -(2^62)<=lo)(h:lo<2^62)(g : -(2^62)<=hi)(f:hi<2^62)
  (q:R (Itr lo (hi-lo).toNat) H):Kc (model X.prog X.w) X.A (KD<|.ref ↥s) (PIE X Ni σ tg R) E { s with heap:=s.heap.push { cls:=.type "range",data:=.fields #[.int lo t,.int hi u,.int 1 v] },toks:=a }:=by
 calc KQ (IsRange.new ..) (small_one i h g f) ?_;let c:Inv X Ni σ H { s with heap:=s.heap.push { cls:=.type "range",data:=.fields #[.int lo t,.int hi u,.int 1 v] },toks:=a }:=I.kept λb o e=>bd _ e
 refine((s.heap.push { cls:=.type "range",data:=.fields #[.int lo t,.int hi u,.int 1 v] }).objs.size,[(s.heap.push { cls:=.type "range",data:=.fields #[.int lo t,.int hi u,.int 1 v] }).objs.size],_,_,H,U,
  c.kept (t':=a) λb o e=>bd _ e,vb _ lo (hi-lo).toNat,?_,λb d=>?_,q,)
 .let k:lo+((0:Nat):Int)*1=lo:=by simp
  let j:(((hi-lo).toNat:Nat):Int)-((0:Nat):Int)=v4 lo hi 1:=by rw[rangeSize_one];split <;> lia
  show KJ _ _ (lo+((0:Nat):Int)*1) ((((hi-lo).toNat:Nat):Int)-((0:Nat):Int)) 1;rw[k,j];exact ci _ U
 .let e:b=(s.heap.push { cls:=.type "range",data:=.fields #[.int lo t,.int hi u,.int 1 v] }).objs.size:= ~~~d
  subst e;calc c.fpOk (uN _)<|c.hok.fresh<|uN _
inductive yR  (R:It->Qd)(vs:Nt V)(H1:Hp):Prop
 |mk (j:Int)(_:vs=[.int j])(_ : -(2^62)<=j)(_:j<2^62)(_:R (Itr 0 j.toNat) H1):yR R vs H1
def  EC(ta:TA):TI:=λσ H R=>ta σ H λa b=>yR R a b
def d9{a:Ke}{ta:TA}{p pos:Pos}(i:Gl X "range") (hm:X.mg "range" = Nd) (k:PA X [a] ta)(g:Kh [a] X.env=[(Ng,eval a X.env)]:=by rfl):PI X tg (.Call (.Name "range" p) [a] [] pos) (EC ta):=by
 intro Ni s σ H R I h;calc Call_<|iP I i hm boot_range<|mo (thn (k pos Ni s σ H _ I h) λn o (m,u,l,d,b,)=>?_) g U;let(j,e,b,f,q):=b;subst e;cases d with
 |cons r c =>
  cases c;let(t,rfl):=r;calc call_range_1<|yQ l ∅ ∅ b f (~~~q)
def  Gd(d:TI)(g:TG)(tb:TS):TS:=λD σ H=>d σ H λJ f=>∃W:Nat->Nat->Qc,(∃m,W 0 m σ f)/\∀i m σ H,W i m σ H ->
 (J.stop i H/\D.nx σ H)\/(J.go i H/\∃N:Qc,(∀a H',N a H'->∃c,c<m/\W (i+1) c a H')/\∀x H',J.yld i H x H'->g x σ H' λb e=>tb { D with nx:=N,ct:=N,bk:=D.nx } b e)
def  mE(a:Nt Jr)(h:JD):Nt (Jr×Obj):=a.filterMap λb=>(h.get? b).map λo=>(b,o)
def eR{a:Nt Jr}{h:JD}(c:b∈a)(e:h.get? b=Nc o):(b,o)∈mE a h:=PU.mpr (b,c,by rw[e];rfl,)
def xC{a:Nt Jr}(c:p∈mE a h):p.1∈a/\h.get? p.1=Nc p.2:=by
 let(b,d,e):=PU.mp c;cases q:h.get? b with
 |none=>rw[q]at e;cases e
 |some o =>
  rw[q]at e;let f:(b,o)=p:=bn e;subst f;calc(d,q,)
def Inv.pinned{H:Hp}{s:JY}{a:Nt Jr}(I:Inv X Ni σ H s)(i:∀b∈a,mD X Ni H b)(h:∀b∈a,∃o,s.heap.get? b=Nc o/\∀v,o.data≠.cell v):Inv X (Ni++mE a s.heap) σ H s :=
 I.pins_of λp g=>(gz.mp g).elim (λz=>I.pin p<|jd _ z) λz=>by
  let(c,e):=xC z;let(l,k,j,_):=i p.1 c;let(o,f,d):=h p.1 c;rw[e]at f;cases f;calc(e,l,k,j,d,)
def Inv.unpinned(I:Inv X (Ni++pl) σ H s):Inv X Ni σ H s:=I.pins_of λp a=>I.pin p<|jd _<|lj _ a
def cJ{q:Ke}{body:Nt Ki}{V:TI}{g:TG}{tb:TS}{pos:Pos}(B:Ky (model X.prog X.w) X.A X.env X.xe)(hc:X.calm=Nf)(hi:PI X tg q V)(hg:PG X tg g)(c:PSs X body tb)
  (hs:∀x,KS q X.env x=pure x:=by intro _;rfl):PS X (.For tg q body [] pos) (Gd V g tb):=by
 intro Ni s σ H D I h;calc wpAny_For (thn (hi Ni s σ H _ I h) λv s1 h1=>thn h1 λa0 s2 h2=>?_) hs;let(it,C,Y,J,H2,e,I2,T,Q,f2,W,(m0,w0),G):=h2;subst e;let O:∀{H':Hp},(∀b∈C,H' b=Nd)->∀b∈C,mD X Ni H' b:=λhn b c=>(hn b c,(f2 b c).2,)
 calc codeAny_forLoop_any (λn s'=>∃i p H',Inv X Ni p H' s'/\Y i s'.heap/\(∀b∈C,H' b=Nd)/\W i n p H') ?_ m0 (0,σ,H2,I2,Q,λb c=>(f2 b c).1,w0,);rintro n s3 ⟨i,l,K,I3,E,F,w3⟩;rcases G i n l K w3 with⟨stop,qn⟩|⟨go,N,hN,step⟩
 .refine Kz B<|thn (T.done X U U U hc i Ni s3 l K X.xe I3 (O F) E stop) λr s4 (M,I4,)=>?_;subst M;exact Kp (l,K,I4,qn,)
 .refine Kz B<|thn (T.item X U U U hc i Ni s3 l K X.xe I3 (O F) E go) λr s4 (u,M,h4,)=>?_;subst M;calc Kz B<|thn h4 λ_ Z (x,H5,I5,r5,y5,y,R,)=>?_;let S:=I5.pinned (O R)<|T.obj _ _ y;calc Kz B<|thn (hg _ Z l H5 x u _ S r5<|step x H5 y5) λ_ s6 (P,H6,I6,q6,)=>?_;calc Kz B<|thn (c _ s6 P H6 _ I6 q6) λf L t=>?_;let again:∀{a:St}{k:Hp},Inv X (Ni++mE C Z.heap) a k L->N a k->∃m,m<n/\∃i p H',Inv X Ni p H' L/\Y i L.heap/\(∀b∈C,H' b=Nd)/\W i m p H':=λ{a k} j z=>by
   let(m',hm,w7):=hN a k z;calc(m',hm,i+1,a,k,j.unpinned,T.keep _ _ _ y λb c o e=>(j.pin (b,o)<|jd _<|jd _<|eR c e).1,λb c=>?_,w7,);let(o,e,d):=T.obj _ _ y b c;exact(j.pin (b,o)<|jd _<|jd _<|eR c e).2.1
  cases f with
  |next=>obtain⟨a,k,j,z⟩:=t;exact again j z
  |cont=>obtain⟨a,k,j,z⟩:=t;exact again j z
  |brk=>obtain⟨a,k,j,t⟩:=t;exact(a,k,j.unpinned,t,)
  |ret v=>obtain⟨x7,a,k,j,r7,t⟩:=t;calc(x7,a,k,j.unpinned,r7,t,)
end
def cO{K:am}{a:Jr}{xs:Nt V}{g:TG}{tb:TS}{D:Ends}{σ:St}{H:Hp}(b:Nat->Qc)(o:b 0 σ H)(n:∀i σ H,i<=⇑xs->b i σ H->SqL K H a xs)
  (l:∀i x σ H,xs[i]?=Nc x->b i σ H->g x σ H λc h=>tb { D with nx:=b<|i+1,ct:=b<|i+1,bk:=D.nx } c h)(hd:∀σ H,b ⇑xs σ H->D.nx σ H) :
  ∃W:Nat->Nat->Qc,(∃m,W 0 m σ H)/\∀i m σ H,W i m σ H ->
   ((Itl K a).stop i H/\D.nx σ H)\/((Itl K a).go i H/\∃N:Qc,(∀d H',N d H'->∃j,j<m/\W (i+1) j d H')/\∀x H',(Itl K a).yld i H x H'->g x σ H' λc h=>tb { D with nx:=N,ct:=N,bk:=D.nx } c h):=by
 refine(λi m σ H=>m=⇑xs-i/\i<=⇑xs/\b i σ H,(⇑xs,by simp,ve _,o,),?_,);rintro i m σ H ⟨rfl,hi,p⟩;let q:=n i σ H hi p;by_cases f:i<⇑xs
 .refine .inr ((xs,xs[i],q,by simp[f],),b<|i+1,λd H' k=>(⇑xs-(i+1),∅,U,f,k,),λx H' y=>?_,);let(e,y):=y;subst e;exact l i x σ _ (y xs q) p
 .let e:i=⇑xs:=∅
  subst e;calc .inl ((xs,q,uN _,),hd σ H p,)
def AZ{K:am}{a:Jr}{xs:Nt V}{g:TG}{tb:TS}{D:Ends}{σ:St}{H:Hp}(b:Nat->Qc)(o:b 0 σ H)(n:∀i σ H,i<=⇑xs->b i σ H->SqT K H a xs)
  (l:∀i x σ H,xs[i]?=Nc x->b i σ H->g x σ H λc h=>tb { D with nx:=b<|i+1,ct:=b<|i+1,bk:=D.nx } c h)(hd:∀σ H,b ⇑xs σ H->D.nx σ H) :
  ∃W:Nat->Nat->Qc,(∃m,W 0 m σ H)/\∀i m σ H,W i m σ H ->
   ((Itt K a).stop i H/\D.nx σ H)\/((Itt K a).go i H/\∃N:Qc,(∀d H',N d H'->∃j,j<m/\W (i+1) j d H')/\∀x H',(Itt K a).yld i H x H'->g x σ H' λc h=>tb { D with nx:=N,ct:=N,bk:=D.nx } c h):=by
 refine(λi m σ H=>m=⇑xs-i/\i<=⇑xs/\b i σ H,(⇑xs,by simp,ve _,o,),?_,);rintro i m σ H ⟨rfl,hi,p⟩;let q:=n i σ H hi p;by_cases f:i<⇑xs
 .refine .inr ((xs,xs[i],q,by simp[f],),b<|i+1,λd H' k=>(⇑xs-(i+1),∅,U,f,k,),λx H' y=>?_,);let(e,y):=y;subst e;exact l i x σ _ (y xs q) p
 .let e:i=⇑xs:=∅
  subst e;calc .inl ((xs,q,uN _,),hd σ H p,)
def mF{lo:Int}{n:Nat}{g:TG}{tb:TS}{D:Ends}{σ:St}{H:Hp}(a:Nat->Qc)(l:a 0 σ H)
  (k:∀i σ H,i<n->a i σ H->g (.int<|lo+i) σ H λb f=>tb { D with nx:=a<|i+1,ct:=a<|i+1,bk:=D.nx } b f)(hd:∀σ H,a n σ H->D.nx σ H) :
  ∃W:Nat->Nat->Qc,(∃m,W 0 m σ H)/\∀i m σ H,W i m σ H ->
   ((Itr lo n).stop i H/\D.nx σ H)\/((Itr lo n).go i H/\∃N:Qc,(∀c H',N c H'->∃h,h<m/\W (i+1) h c H')/\∀x H',(Itr lo n).yld i H x H'->g x σ H' λb f=>tb { D with nx:=N,ct:=N,bk:=D.nx } b f):=by
 refine(λi m σ H=>m=n-i/\i<=n/\a i σ H,(n,by simp,ve _,l,),?_,);rintro i m σ H ⟨rfl,hi,p⟩;by_cases d:i<n
 .refine .inr (d,a<|i+1,λc H' j=>(n-(i+1),∅,U,d,j,),λx H' y=>?_,);let(e,y):=y;subst e y;exact k i σ _ d p
 .let e:i=n:=∅
  subst e;calc .inl (uN _,hd σ H p,)
abbrev R2:=V->V->Hp->VK->Prop
def  OpR(X:Cx)(f:I1->I1->Sem I1)(r:R2):Prop :=
 ∀(Ni:Nt (Jr×Obj))(s:JY)(σ:St)(H:Hp)(x y:V)(v u:I1)(Q:VK),Inv X Ni σ H s->RelV x v->RelV y u->r x y H Q ->
  Kc (model X.prog X.w) X.A (f v u) (EP X Ni σ Q) X.xe s
def  UnR(X:Cx)(f:I1->Sem I1)(r:V->Hp->VK->Prop):Prop :=
 ∀(Ni:Nt (Jr×Obj))(s:JY)(σ:St)(H:Hp)(x:V)(v:I1)(Q:VK),Inv X Ni σ H s->RelV x v->r x H Q ->
  Kc (model X.prog X.w) X.A (f v) (EP X Ni σ Q) X.xe s
def  dq(X:Cx)(f:I1)(r:Nt V->Hp->VK->Prop):Prop :=
 ∀(Ni:Nt (Jr×Obj))(s:JY)(σ:St)(H:Hp)(a:Nt V)(b:Nt I1)(Q:VK),Inv X Ni σ H s->Vals a b->r a H Q ->
  Kc (model X.prog X.w) X.A (call f b) (EP X Ni σ Q) X.xe s
def  Ge(X:Cx)(r:V->Hp->(Bool->Qd)->Prop):Prop :=
 ∀(Ni:Nt (Jr×Obj))(s:JY)(σ:St)(H:Hp)(x:V)(v:I1)(Q:Bool->Qd),Inv X Ni σ H s->RelV x v->r x H Q ->
  Kc (model X.prog X.w) X.A (truthy v) (TP X Ni σ Q) X.xe s
def  tOp(r:R2)(ta tb:TE):TE:=λσ H Q=>ta σ H λx b=>tb σ b λy a=>r x y a Q
def  tUn(r:V->Hp->VK->Prop)(ta:TE):TE:=λσ H Q=>ta σ H λx a=>r x a Q
inductive rI(C:Int->Int->Prop)(g:Int->Int->V)(x:V)(y:V)(H:Hp)(Q:VK):Prop
 |mk (i j:_)(_:x=.int i)(_:y=.int j)(_:C i j)(_:Q (g i j) H)
inductive rI0(g:Int->Int->V)(x:V)(y:V)(H:Hp)(Q:VK):Prop
 |mk (i j:_)(_:x=.int i)(_:y=.int j)(_:Q (g i j) H)
inductive rU(g:Int->V)(x:V)(H:Hp)(Q:VK):Prop
 |mk (i:_)(_:x=.int i)(_:Q (g i) H)
section
variable{a b c:Ke}{tc:TE}
def C4(o:PE X a ta)(n:PE X b tb){H:Hp}{R:V->V->Qd}(I:Inv X Ni σ H s)
  (h:ta σ H λx g=>tb σ g λy c=>R x y c){Q:I1->JY->Prop}{f:I1->I1->Sem I1}
  (hf:∀v u s2 x y c,Inv X Ni σ c s2->RelV x v->RelV y u->R x y c->Kc (model X.prog X.w) X.A (f v u) Q X.xe s2) :
  Kc (model X.prog X.w) X.A (eval a X.env) (λv e=>Kc (model X.prog X.w) X.A (eval b X.env) (λu d=>Kc (model X.prog X.w) X.A (f v u) Q X.xe d) X.xe e) X.xe s:=by
 refine thn (o Ni s σ H _ I h) λv i (x,g,q,k,m,)=>?_
 refine thn (n Ni i σ g _ q m) λu s2 (y,c,p,j,l,)=>?_
 calc hf v u s2 x y c p k j l
def az{c:Ku}(f:OpR X (KU c) r)(i:PE X a ta)(g:PE X b tb):PE X (.BinOp a c b pos) (tOp r ta tb):=by
 intro Ni s σ H Q I h;calc wpAny_BinOp<|C4 i g I h λv u s2 x y k j e d q=>f Ni s2 σ k x y v u Q j e d q
def nq{b:UnaryOp}(f:UnR X (unaryOp b) r)(g:PE X a ta):PE X (.UnaryOp b a pos) (tUn r ta):=by
 intro Ni s σ H Q I h;calc UnaryOp_<|thn (g Ni s σ H _ I h) λv c (x,j,i,d,e,)=>f Ni c σ j x v Q i d e
def opI{C:Int->Int->Prop}{g:Int->Int->Int}
  (rule:∀(i j:Int)(t u:Tok)(s:JY)(Q:I1->JY->Prop)(E:I1->JY->Prop),C i j->Q (.int (g i j) s.toks) { s with toks:=s.toks+1 }->Kc (model X.prog X.w) X.A (f (.int i t)<|.int j u) Q E s) :
  OpR X f (rI C λi j=>.int<|g i j):=by
 intro Ni s σ H x y v u Q I c b h;let(i,j,rfl,rfl,d,q):=h;let(t,rfl):=c;let(a,rfl):=b;calc rule i j t a s _ _ d (.int<|g i j,H,I.tok _,(_,U,),q,)
def C5{g:Int->Int->Int}
  (rule:∀(i j:Int)(t u:Tok)(s:JY)(Q:I1->JY->Prop)(E:I1->JY->Prop),Q (.int (g i j) s.toks) { s with toks:=s.toks+1 }->Kc (model X.prog X.w) X.A (f (.int i t)<|.int j u) Q E s) :
  OpR X f (rI0 λi j=>.int<|g i j):=by
 intro Ni s σ H x y v u Q I c b h;let(i,j,rfl,rfl,q):=h;let(t,rfl):=c;let(a,rfl):=b;calc rule i j t a s _ _ (.int<|g i j,H,I.tok _,(_,U,),q,)
def C6{g:Int->Int->Bool}
  (rule:∀(i j:Int)(t u:Tok)(s:JY)(Q:I1->JY->Prop)(E:I1->JY->Prop),Q (.bool<|g i j) s->Kc (model X.prog X.w) X.A (f (.int i t)<|.int j u) Q E s) :
  OpR X f (rI0 λi j=>.bl<|g i j):=by
 intro Ni s σ H x y v u Q I c b h;let(i,j,rfl,rfl,q):=h;let(t,rfl):=c;let(a,rfl):=b;calc rule i j t a s _ _ (.bl<|g i j,H,I,U,q,)
def  Gf(i j:Int):Prop:=0<j/\j<1073741824
def  ED(i j:Int):Prop:=0<=j/\j<=1000000/\i.natAbs<2^64
def  yS(i j:Int):Prop:=(-(2^64)<i/\i<2^64)\/(-(2^64)<j/\j<2^64)
def yS.ok(h:yS i j):IntMulOk i j:=by
 rcases h with⟨b,a⟩|⟨b,a⟩
 .exact .of_left<|KW b a
 .exact .of_right<|KW b a
def vd(k:Nat):(0:Int)<=2^k:=by
 rw[two_pow_cast];calc Gn _
def bA:OpR X (KU .Add) (rI0 λi j=>.int<|i+j):=C5 λ_ _ _ _ _ _ _ q=>add_int q
def eS:OpR X (KU .Sub) (rI0 λi j=>.int<|i-j):=C5 λ_ _ _ _ _ _ _ q=>sub_int q
def dC:OpR X (KU .Mult) (rI yS λi j=>.int<|i*j):=opI λ_ _ _ _ _ _ _ a q=>mul_int q a.ok
def gJ:OpR X (KU .FloorDiv) (rI Gf λi j=>.int<|i / j):=opI λi j _ _ _ _ _ a q=>by
 let c:(0:Int)<j:=a.1;let b:j<1073741824:=a.2;calc floordiv_int ∅ (by rw[O1 i ∅];exact q) (.inl<|OY ∅)
def bW:OpR X (KU .Mod) (rI (λ_ j=>0<j) λi j=>.int<|i%j):=opI λi j _ _ _ _ _ a q=>by
 let b:(0:Int)<j:=a;calc mod_int' ∅ (by rw[Int.fmod_eq_emod_of_nonneg i ∅];exact q)
def rP:OpR X (KU .Pow) (rI ED λi j=>.int<|i^j.toNat):=opI λ_ _ _ _ _ _ _ a q=>pow_int_small a.1 a.2.1 a.2.2 q
def yT:OpR X (KU .LShift) (rI ED λi j=>.int<|i*2^j.toNat):=opI λ_ _ _ _ _ _ _ a q=>lshift_int_small a.1 a.2.1 a.2.2 q
def C7:OpR X (KU .RShift) (rI (λ_ j=>0<=j) λi j=>.int<|i / 2^j.toNat):=opI λi j _ _ _ _ _ a q =>
 rshift_int a (by rw[O1 i (vd _)];exact q)
def yU:OpR X (KU .BitAnd) (rI0 λi j=>.int<|KR.bitAnd i j):=C5 λ_ _ _ _ _ _ _ q=>and_int q
def unI{g:Int->Int}
  (rule:∀(i:Int)(t:Tok)(s:JY)(Q:I1->JY->Prop)(E:I1->JY->Prop),Q (.int (g i) s.toks) { s with toks:=s.toks+1 }->Kc (model X.prog X.w) X.A (f<|.int i t) Q E s) :
  UnR X f (rU λi=>.int<|g i):=by
 intro Ni s σ H x v Q I a h;let(i,rfl,q):=h;let(t,rfl):=a;calc rule i t s _ _ (.int<|g i,H,I.tok _,(_,U,),q,)
def jo:UnR X (unaryOp .USub) (rU λi=>.int<|-i):=unI λ_ _ _ _ _ q=>neg_int q
end
def  EE:V->V->Bool
 | .non,.non=>Nf | .non,.int _=>Nf | .int _,.non=>Nf | .non,.bl _=>Nf | .bl _,.non=>Nf | .non,.str _=>Nf | .str _,.non=>Nf
 | .int _,.int _=>Nf | .bl _,.bl _=>Nf | .str _,.str _=>Nf | .byt _,.byt _=>Nf
 | .int _,.str _=>Nf | .str _,.int _=>Nf | .bl _,.str _=>Nf | .str _,.bl _=>Nf
 |_,_=>Ng
def  rEq:R2:=λx y H Q=>EE x y=Nf/\Q (.bl<|Nh<|x=y) H
def  rNe:R2:=λx y H Q=>EE x y=Nf/\Q (.bl<|!Nh (x=y)) H
def wC:decide (pi i=pi j)=(i == j):=by
 rw[lc];simp
def yV:decide (V.bl i=V.bl j)=(i == j):=by
 rw[lc];simp
def wD:decide (Qe i=Qe j)=(i == j):=by
 rw[lc];simp
def wF:decide (V.byt i=V.byt j)=(i.toList == j.toList):=by
 rw[lc];cases i;cases j;simp
section
variable{a b c:Ke}{tc:TE}
def bp{s:JY}{Q:VK}{k a:Bool}(I:Inv X Ni σ H s)(q:Q (.bl k) H)(e:k=a):EP X Ni σ Q (.bool a) s:=by
 subst e;calc(.bl k,H,I,U,q,)
def bK:OpR X (KY .Eq) rEq:=by
 intro Ni s σ H x y v u Q I d a h;let(c,q):=h;cases x with
 |non =>
  cases d;cases y with
  |non=>cases a;exact PySem.EqNone.eq_none_none<|bp I q (by simp)
  |bl j=>cases a;exact PySem.EqNone.eq_none_bool<|bp I q (by simp)
  |int j=>obtain⟨b,rfl⟩:=a;exact PySem.EqNone.eq_none_int<|bp I q (by simp)
  |str j=>obtain⟨b,rfl⟩:=a;exact PySem.EqNone.eq_none_str<|bp I q (by simp)
  |_=>exact Nl (show Ng=Nf from c) cr
 |bl i =>
  cases d;cases y with
  |non=>cases a;exact PySem.EqNone.eq_bool_none<|bp I q (by simp)
  |bl j=>cases a;exact eq_bool<|bp I q yV
  |str j=>obtain⟨b,rfl⟩:=a;exact PySem.EqMixed.eq_bool_str<|bp I q (by simp)
  |_=>exact Nl (show Ng=Nf from c) cr
 |int i =>
  let(t,rfl):=d;cases y with
  |non=>cases a;exact PySem.EqNone.eq_int_none<|bp I q (by simp)
  |int j=>obtain⟨b,rfl⟩:=a;exact eq_int<|bp I q wC
  |str j=>obtain⟨b,rfl⟩:=a;exact PySem.EqMixed.eq_int_str<|bp I q (by simp)
  |_=>exact Nl (show Ng=Nf from c) cr
 |str i =>
  let(t,rfl):=d;cases y with
  |non=>cases a;exact PySem.EqNone.eq_str_none<|bp I q (by simp)
  |bl j=>cases a;exact PySem.EqMixed.eq_str_bool<|bp I q (by simp)
  |int j=>obtain⟨b,rfl⟩:=a;exact PySem.EqMixed.eq_str_int<|bp I q (by simp)
  |str j=>obtain⟨b,rfl⟩:=a;exact eq_str<|bp I q wD
  |_=>exact Nl (show Ng=Nf from c) cr
 |byt i =>
  let(t,rfl):=d;cases y with
  |byt j=>obtain⟨b,rfl⟩:=a;exact W.eq_bytes<|bp I q wF
  |_=>exact Nl (show Ng=Nf from c) cr
 |_=>cases y <;> calc Nl (show Ng=Nf from c) cr
def km:OpR X (KY .NotEq) rNe:=by
 intro Ni s σ H x y v u Q I d a h;let(c,q):=h;cases x with
 |non =>
  cases d;cases y with
  |non=>cases a;exact PySem.EqNone.ne_none_none<|bp I q (by simp)
  |bl j=>cases a;exact PySem.EqNone.ne_none_bool<|bp I q (by simp)
  |int j=>obtain⟨b,rfl⟩:=a;exact PySem.EqNone.ne_none_int<|bp I q (by simp)
  |str j=>obtain⟨b,rfl⟩:=a;exact PySem.EqNone.ne_none_str<|bp I q (by simp)
  |_=>exact Nl (show Ng=Nf from c) cr
 |bl i =>
  cases d;cases y with
  |non=>cases a;exact PySem.EqNone.ne_bool_none<|bp I q (by simp)
  |bl j=>cases a;exact ne_bool<|bp I q<|Nq not yV
  |str j=>obtain⟨b,rfl⟩:=a;exact PySem.EqMixed.ne_bool_str<|bp I q (by simp)
  |_=>exact Nl (show Ng=Nf from c) cr
 |int i =>
  let(t,rfl):=d;cases y with
  |non=>cases a;exact PySem.EqNone.ne_int_none<|bp I q (by simp)
  |int j=>obtain⟨b,rfl⟩:=a;exact ne_int<|bp I q<|Nq not wC
  |str j=>obtain⟨b,rfl⟩:=a;exact PySem.EqMixed.ne_int_str<|bp I q (by simp)
  |_=>exact Nl (show Ng=Nf from c) cr
 |str i =>
  let(t,rfl):=d;cases y with
  |non=>cases a;exact PySem.EqNone.ne_str_none<|bp I q (by simp)
  |bl j=>cases a;exact PySem.EqMixed.ne_str_bool<|bp I q (by simp)
  |int j=>obtain⟨b,rfl⟩:=a;exact PySem.EqMixed.ne_str_int<|bp I q (by simp)
  |str j=>obtain⟨b,rfl⟩:=a;exact ne_str<|bp I q<|Nq not wD
  |_=>exact Nl (show Ng=Nf from c) cr
 |byt i =>
  let(t,rfl):=d;cases y with
  |byt j=>obtain⟨b,rfl⟩:=a;exact W.ne_bytes<|bp I q<|Nq not wF
  |_=>exact Nl (show Ng=Nf from c) cr
 |_=>cases y <;> calc Nl (show Ng=Nf from c) cr
def oq:OpR X (KY .Lt) (rI0 λi j=>.bl<|Nh<|i<j):=C6 λ_ _ _ _ _ _ _ q=>lt_int q
def gL:OpR X (KY .LtE) (rI0 λi j=>.bl<|Nh<|i<=j):=C6 λ_ _ _ _ _ _ _ q=>le_int q
def lK:OpR X (KY .Gt) (rI0 λi j=>.bl<|Nh<|j<i):=C6 λ_ _ _ _ _ _ _ q=>gt_int q
def yW:OpR X (KY .Is) (λx y H Q=>y=.non/\Q (.bl<|Nh<|x=.non) H):=by
 intro Ni s σ H x y v u Q I a b h;let(rfl,q):=h;cases b;refine is_none_gen<|bp I q ?_
 cases x <;> first
  |(cases a;rfl)
  |(obtain⟨t,rfl⟩:=a;rfl)
def rQ:OpR X (KY .NotIn) (λx y H Q=>∃i j,x=.str i/\y=.str j/\Q (.bl<|!(!(NG j i 0 ⇑j 1).isEmpty)) H):=by
 intro Ni s σ H x y v u Q I b a h;let(i,j,rfl,rfl,q):=h;let(t,rfl):=b;let(c,rfl):=a;calc notIn_str<|bp I q U
def aI(b:Ke){a:KZ}(h:a≠.In:=by decide)(c:a≠.NotIn:=by decide):K0 a b=false:=by
 let e:(a == KZ.In)=false:=by cases a <;> first|rfl|exact Nl U h
 let d:(a == KZ.NotIn)=false:=by cases a <;> first|rfl|exact Nl U c
 cases b <;> simp[K0,e,d]
def bL{c:KZ}(f:OpR X (KY c) r)(j:PE X a ta)(i:PE X b tb)(g:K0 c b=Ng):PE X (.Compare a [c] [b] pos) (tOp r ta tb):=by
 intro Ni s σ H Q I h;calc wpAny_Compare1 (C4 j i I h λv u s2 x y l k e d q=>f Ni s2 σ l x y v u Q k e d q) g
inductive yX  (Q:Bool->Qd)(x:V)(H':Hp):Prop
 |mk (k:_)(_:x=.bl k)(_:Q k H'):yX Q x H'
def  Cn(t:TE):TT:=λσ H Q=>t σ H λx H'=>yX Q x H'
def aO(o:OpR X (KY d) r)(t:PE X a ta)(q:PE X b tb)(p:K0 d b=Ng):PT X (.Compare a [d] [b] pos) (Cn<|tOp r ta tb):=by
 intro Ni s σ H Q I h;refine wpAny_isTrue_Compare1 (thn (t Ni s σ H _ I h) λv f (x,E,B,j,n,)=>thn (q Ni f σ E _ B n) λu s2 (y,D,A,i,m,) =>
  thn (o Ni s2 σ D x y v u _ A j i m) λc F (z,C,w,g,k,e,l,)=>?_) p
 subst e;cases g;calc Ko (C,w,l,)
inductive wG(r':R2)(tc:TE)(σ:St)(Q:VK)(y:V)(z:V)(H3:Hp):Prop
 |mk (k:_)(_:z=.bl k)(_:(if k=Nf then tc σ H3 λw' H4=>r' y w' H4 Q else Q (.bl Ng) H3))
def  yY(r a:R2)(ta tb tc:TE):TE:=λσ H Q=>ta σ H λx d=>tb σ d λy c=>r x y c λz b=>wG a tc σ Q y z b
def ot(J:OpR X (KY g) r)(i:OpR X (KY f) l)(M:PE X a ta)(L:PE X b tb)(K:PE X c tc)
  (hm:lastMarks [g,f] [b,c]=false:=by with_unfolding_all rfl):PE X (.Compare a [g,f] [b,c] pos) (yY r l ta tb tc):=by
 intro Ni s σ H Q I h;refine Compare_chain (thn (M Ni s σ H _ I h) λv A (x,T,P,D,G,)=>chain_link (thn (L Ni A σ T _ P G) λu s2 (y,S,O,j,F,) =>
  thn (J Ni s2 σ S x y v u _ O D j F) λd w (z,o,n,C,k,e,m,)=>?_)) hm
 subst e;cases C;calc Ko ?_;cases k with
 |false=>exact ite_ff (.bl Ng,o,n,U,m,)
 |true=>calc ite_tt (chain_last<|thn (K Ni w σ o _ n m) λq t (p,R,N,B,E,)=>i Ni t σ R y p u q Q N j B E)
def jq(M:OpR X (KY g) r)(i:OpR X (KY f) l)(P:PE X a ta)(O:PE X b tb)(N:PE X c tc)
  (hm:lastMarks [g,f] [b,c]=false:=by with_unfolding_all rfl):PT X (.Compare a [g,f] [b,c] pos) (Cn<|yY r l ta tb tc):=by
 intro Ni s σ H Q I h;refine isTrue_chain (thn (P Ni s σ H _ I h) λv A (x,H1,Y,E,K,)=>test_link (thn (O Ni A σ H1 _ Y K) λu s2 (y,H2,W,j,J,) =>
  thn (M Ni s2 σ H2 x y v u _ W E j J) λd w (z,o,n,D,k,e,m,)=>?_)) hm
 subst e;cases D;calc Ko ?_;cases k with
 |false =>
  let(k',S,L):=m;cases S;exact ite_ff (o,n,L,)
 |true =>
  calc ite_tt<|test_last<|thn (N Ni w σ o _ n m) λq t (p,H4,V,C,G,)=>thn (i Ni t σ H4 y p u q _ V j C G) λd' s5 (z2,Z,T,B,k2,R,F,)=>?_;subst R;cases B;calc Ko (Z,T,F,)
def  C8(K:am)(x:V)(H:Hp)(k:Bool):Prop :=
 match x with
 | .non=>k=Ng
 | .bl b=>k=b
 | .int i=>k=(i != 0)
 | .str y=>⇑y<=JR/\k=((⇑y:Int) != 0)
 | .byt y=>y.size<=JR/\k=((y.size:Int) != 0)
 | .ref p=>(∃a,SqL K H p a/\k = !a.isEmpty)\/(∃a,SqT K H p a/\k = !a.isEmpty)\/∃c,H p=Nc (.dK c)/\k = !c.isEmpty
 |_=>False
def vf{b:Type}{a:Nt (b×V)}{vs:Nt (b×I1)}(r:KV a vs):(!vs.isEmpty) = !a.isEmpty:=by
 cases r <;> rfl
def ow{a:Nt I1}(r:Vals xs a):(!a.toArray.isEmpty) = !xs.isEmpty:=by
 cases r <;> simp
def kH:(JR:Nat)<2^63:=by rw[K1];decide
def C9:Ge X (λx H Q=>∃k,C8 X.K x H k/\Q k H):=by
 intro Ni s σ H x v Q I g h;let(k,e,q):=h;let C:=kH;let B:JR=16777216:=K1;cases x with
 |non =>
  cases g;let a:k=false:=e;subst a;exact truthy_none (H,I,q,)
 |bl b =>
  cases g;let a:k=b:=e;subst a;exact Ko (H,I,q,)
 |int i =>
  let(t,rfl):=g;let a:k=(i != 0):=e;subst a;exact PySem.P.truthy_int (H,I,q,)
 |str y =>
  let(t,rfl):=g;let(z,a):⇑y<=JR/\k=((⇑y:Int) != 0):=e;subst a;exact PySem.P.truthy_str ∅ (H,I.tok _,q,)
 |byt y =>
  let(t,rfl):=g;let(z,a):y.size<=JR/\k=((y.size:Int) != 0):=e;subst a;exact W.truthy_bytes ∅ (H,I.tok _,q,)
 |ref p =>
  cases g;let a:(∃f,SqL X.K H p f/\k = !f.isEmpty)\/(∃f,SqT X.K H p f/\k = !f.isEmpty)\/∃c,H p=Nc (.dK c)/\k = !c.isEmpty:=e;rcases a with⟨f,j,a⟩|⟨f,j,a⟩|⟨c,j,a⟩
  .subst a;let(o,r,n,u):=I.list j;let d:=⇑r;exact wpAny_truthy_list n.isList (by simp only[cM];lia) (H,I.tok _,by rw[ow r];exact q,)
  .subst a;let(o,r,n,u):=I.tuple j;let d:=⇑r;exact truthy_tuple n (by simp only[cM];lia) (H,I.tok _,by rw[ow r];exact q,)
  .subst a;let(u,A,l,r,m):⇑c<=JR/\(p == JS)=Ng/\∃l,KV c l/\s.heap.DictOf (rM X.prog X.w) p l:=I.hok p _ j;let d:⇑c=⇑l:=Paired.length r;exact wpAny_truthy_dict A m ∅ (H,I.tok _,by rw[vf r];exact q,)
 |_=>calc(show False from e).elim
def dH(g:PE X a ta)(f:∀b,Kf a X.env b=(do let v ←b;Kn a.pos;holding [v] (truthy v))) :
  PT X a (λσ H Q=>ta σ H λx H'=>∃k,C8 X.K x H' k/\Q k H'):=by
 intro Ni s σ H Q I h;calc isTrue_plain (thn (g Ni s σ H _ I h) λv c (x,j,i,d,e,)=>C9 Ni c σ j x v Q i d e)<|f _
def iQ:OpR X (KU .Add) (λx y H Q=>∃i j,x=.str i/\y=.str j/\⇑i+⇑j<=JR/\Q (.str<|i++j) H):=by
 intro Ni s σ H x y v u Q I c b h;let(i,j,rfl,rfl,d,q):=h;let(t,rfl):=c;let(a,rfl):=b;calc add_str (λa e=>(.str<|i++j,H,I.tok _,(_,U,),q,)) d
def Dc:OpR X (KU .Add) (λx y H Q=>∃i j,x=.byt i/\y=.byt j/\i.size+j.size<=16777216/\Q (.byt<|i++j) H):=by
 intro Ni s σ H x y v u Q I c b h;let(i,j,rfl,rfl,d,q):=h;let(t,rfl):=c;let(a,rfl):=b;calc W.KBy.add_bytes d<|λa e=>(.byt<|i++j,H,I.tok _,(_,U,),q,)
def vals1{x:V}(r:Vals [x] us):∃u,us=[u]/\RelV x u:=by
 cases r with
 |cons b a=>cases a;calc(_,U,b,)
def vals2{x y:V}(r:Vals [x,y] us):∃u a,us=[u,a]/\RelV x u/\RelV y a:=by
 cases r with
 |cons e d =>
  cases d with
  |cons c b=>cases b;calc(_,_,U,e,c,)
def qP(b:X.calm=Nf):dq X (.builtin "max") (λxs H Q=>∃i j,xs=[.int i,.int j]/\Q (.int (if j>i then j else i)) H):=by
 intro Ni s σ H xs d Q I r h;let(i,j,rfl,q):=h;let(u,c,rfl,(t,rfl),(f,rfl)):=vals2 r;refine max_two_ints (I.ok.hd b) λh' e k=>(_,H,I.kept k,?_,q,)
 by_cases a:j>i
 .rw[Nk a,Nk a];exact(_,U,)
 .rw[Nj a,Nj a];calc(_,U,)
def qQ(b:X.calm=Nf):dq X (.builtin "min") (λxs H Q=>∃i j,xs=[.int i,.int j]/\Q (.int (if j<i then j else i)) H):=by
 intro Ni s σ H xs d Q I r h;let(i,j,rfl,q):=h;let(u,c,rfl,(t,rfl),(f,rfl)):=vals2 r;refine min_two_ints (I.ok.hd b) λh' e k=>(_,H,I.kept k,?_,q,)
 by_cases a:j<i
 .rw[Nk a,Nk a];exact(_,U,)
 .rw[Nj a,Nj a];calc(_,U,)
def fP:dq X (.type "int") (λxs H Q=>(∃i,xs=[.int i]/\Q (.int i) H)\/∃k,xs=[.bl k]/\Q (.int (if k then 1 else 0)) H):=by
 intro Ni s σ H xs b Q I r h;rcases h with⟨i,rfl,q⟩|⟨k,rfl,q⟩
 .let(u,rfl,t,rfl):=vals1 r;exact call_int_int (.int i,H,I,(_,U,),q,)
 .let(u,rfl,a):=vals1 r;cases a;calc call_int_bool (.int (if k then 1 else 0),H,I.tok _,(_,U,),q,)
end
structure vg(h:JD)(x dx C:Jr)(mA:Str->Option I1):Prop where
 obj:h.get? x=Nc (NR C dx)
 ns:h.Ns1 dx mA
 ne:dx≠x
def xD(n:h.Ns1 f c):∃b,h.get? f=Nc b/\∀name,PY name b=Nc (c name):=by
 let(o,d,p,j,hd,l,_,k):=n;calc(o,j,λname=>?_,);let e:=k name;unfold nsFind findBy at e;rw[←Array.find?_toList]at e;unfold PY;rw[hd];dsimp only;split
 .rename_i y q
  rw[q]at e;exact Nq Nc e
 .rename_i q
  rw[q]at e;let a:d.toList.any (·.refKey)=false:=by
   rw[List.any_eq_false];intro y i;let(z,t,g):=l y<|EN.mp i;simp[DictEntry.refKey,g]
  let m:¬ d.toList.any (·.refKey)=true:=by rw[a];exact cr
  rw[Nj m];calc Nq Nc e
def vg.look(I:vg h x c C b):∃a,W.InstAt h x (NR C c) C (Nc a)/\∀name,PY name a=Nc (b name):=by
 let(a,d,e):=xD I.ns;calc(a,(I.obj,U,U,d,),e,)
variable{A:JX}{dx C f:Jr}
section
variable{prog:Jl}{K:am}{mA:Str->Option I1}{name:Str}{v:I1}
def get_map{a:Bool}(X:K.In s.heap)(I:vg s.heap x dx C mA)(f:O9 K C name=Nf)(e:PZ K C=Nf)
  (g:xz K (.ref C) name=Nc Nd)(c:mA name=Nc v)(b:W.handedIn v=Nf)(h:Q v { s with toks:=s.toks+1 }) :
  Kc (model prog w) A (getAttr (.ref x) name a) Q E s:=by
 let(i,J,d):=I.look;calc W.get_value X J (Ph f).1 (W.findObj_own e g U (by rw[d,c])) b h
def yZ{pl:Sem Bool}{Q:I1×Nt I1->JY->Prop}(X:K.In s.heap)(I:vg s.heap x dx C mA)(a:O9 K C name=Nf)
  (hf:xz K (.ref C) name=Nc ↑f)(d:W.isFn K (.ref f)=Nf)(c:mA name=Nd)(h:Q (.ref f,[.ref x]) s) :
  Kc (model prog w) A (K2 (.ref x) name pl) Q E s:=by
 let(b,J,e):=I.look;calc W.method_fn X J (Ph a).1 (Ph a).2 hf (beq_iff_eq.mp d) (by show(PY name b).map (·.isSome)=Nc Ng;rw[e,c];rfl) h
def A1{ns:Nt Str}{Q:Unit->JY->Prop}(X:K.In s.heap)(I:vg s.heap x dx C mA)
  (l:xz K (.ref C) "__setattr__" = Nc (Nc<|.builtin "object.__setattr__")) (m:W.plainOver K C=Nf)(k:W.takerIn K C name=Nc Nd)(n:PZ K C=Nf)
  (hw:PySem.Within mA ns)(p:⇑ns<=JR)
  (h:∀h',vg h' x dx C (λy=>if y=name then Nc v else mA y)->wS dx s.heap h'->Q () { s with heap:=h',toks:=s.toks+2 }) :
  Kc (model prog w) A (setAttr (.ref x) name v) Q E s:=by
 let(u,J,B):=I.look;calc W.set_plain X J l<|W.osa_open (s:={ s with toks:=s.toks+1 }) (r:=Nd) X J m k λb=>?_;let(D,o,g):=W.any_some n;let j:s.heap.get? x=Nc (.ref C,Nc dx,.plain,#[],):=I.obj;calc GS<|GU<|GS<|GS<|wpAny_loadPart j<|GS<|W.Looks.here (s:={ s with toks:=s.toks+1 }) (W.looks_clsIn X o) ?_;rw[g];calc GU (a:=Nc dx)<|GS<|GU<|GS ?_;refine wpAny_nsSet1 (s:={ s with toks:=s.toks+1 }) I.ns λh' d c=>?_
 let(z,q,t,e,f,i):=d.count<|PySem.Within.cons name v hw;refine GS (wpAny_lookBehind e (by rw[f];exact pastItsLine_dict (uU i (by rw[gE];lia))) ?_);calc GU<|h _ ((c.2 _<|IR I.ne).trans I.obj,d,I.ne,) c
def y9{R:K3->JY->Prop}{vs:Nt I1}{b:Nt (Str×I1)}(X:K.In s.heap)(c:W.makesIn K C=Nf)
  (hi:xz K (.ref C) "__init__" = Nc ↑f) (hf:W.typeIn K (.ref f)=Nc (.type "function"))
  (h:K4 (model prog w) (A.under<|.builtin "type.__call__" (.ref C :: vs,b,)) (.call (.ref f) (.ref (↥s+1) :: vs,b,)) (W.InitBack (↥s+1) R)
   { s with heap:=(s.heap.push GT).push (NR C ↥s) }) :
  K4 (model prog w) A (.call (.ref C) (vs,b,)) R s:=by
 let(i,g,d,t,e):=s;calc W.make_core (W.makes_of X c) (Op X hi) (λa=>W.bind_fn X a hf) (.inl U) h
end
def  bH(f:Str)(v:V):Nt (Str×V)->Nt (Str×V)
 | []=>[(f,v)]
 |(g,x) :: r=>if g=f then(g,v) :: r else(g,x) :: bH f v r
def nr(f g:Str)(v:V):∀fs:Nt (Str×V),(bH f v fs).lookup g=if g=f then Nc v else fs.lookup g
 | []=>by
  show Da g [(f,v)]=_;by_cases h:g=f
  .let a:(g == f)=true:=beq_iff_eq.mpr h;simp only[Da,a,Nk h]
  .let a:(g == f)=false:=beq_eq_false_iff_ne.mpr h;simp only[Da,a,Nj h]
 |(k,x) :: r=>by
  let c:=nr f g v r;rw[show bH f v ((k,x) :: r)=(if k=f then(k,v) :: r else(k,x) :: bH f v r)from U];by_cases b:k=f
  .rw[Nk b];by_cases h:g=k
   .let a:(g == k)=true:=beq_iff_eq.mpr h;simp only[Da,a,Nk (h.trans b)]
   .let a:(g == k)=false:=beq_eq_false_iff_ne.mpr h;simp only[Da,a,Nj (λe:g=f=>h<|e.trans b.symm)]
  .rw[Nj b];by_cases h:g=k
   .let a:(g == k)=true:=beq_iff_eq.mpr h;simp only[Da,a,Nj (λe:g=f=>b<|h.symm.trans e)]
   .let a:(g == k)=false:=beq_eq_false_iff_ne.mpr h;simp only[Da,a];calc c
def mG(f:Str)(v:V):∀fs:Nt (Str×V),f∈(bH f v fs).map (·.1)/\∀g,g∈fs.map (·.1)->g∈(bH f v fs).map (·.1)
 | []=>(by simp[bH],λg h=>by simp at h,)
 |(k,x) :: r=>by
  let(c,b):=mG f v r;rw[show bH f v ((k,x) :: r)=(if k=f then(k,v) :: r else(k,x) :: bH f v r)from U];by_cases a:k=f
  .rw[Nk a];subst a;exact(by simp,λg h=>~~~h,)
  .rw[Nj a];refine(?_,λg h=>?_,)
   .rw[iO];exact dz _ c
   .rw[iO]at h⊢;rcases ax.mp h with e|e
    .exact ax.mpr<|.inl e
    .exact dz _<|b g e
def nt(f:Str)(v:V):∀fs:Nt (Str×V),⇑(bH f v fs)<=⇑fs+1
 | []=>by simp[bH]
 |(k,x) :: r=>by
  let b:=nt f v r;rw[show bH f v ((k,x) :: r)=(if k=f then(k,v) :: r else(k,x) :: bH f v r)from U];by_cases a:k=f
  .rw[Nk a,gE,gE];lia
  .rw[Nj a,gE,gE];lia
def qf.some_of(r:qf (Nc v) o):∃u,o=Nc u/\RelV v u:=by
 cases o with
 |none=>exact(show False from r).elim
 |some u=>calc(u,U,r,)
def qf.none_of(r:qf Nd o):o=none:=by
 cases o with
 |none=>rfl
 |some u=>calc(show False from r).elim
def qR(r:RelV v u):W.handedIn u=true:=by
 cases v with
 |non=>cases (show u=pr from r);rfl
 |bl b=>cases (show u=OV b from r);rfl
 |int i=>obtain⟨t,e⟩:=(show ∃t,u=O2 i t from r);cases e;rfl
 |str x=>obtain⟨t,e⟩:=(show ∃t,u=OL x t from r);cases e;rfl
 |byt b=>obtain⟨t,e⟩:=(show ∃t,u=I1.bytes b t from r);cases e;rfl
 |flt b=>obtain⟨t,e⟩:=(show ∃t,u=I1.float b t from r);cases e;rfl
 |ref a=>cases (show u=io a from r);rfl
 |ty n=>cases (show u=zn n from r);rfl
section
variable{fs fs':Nt (Str×V)}
def nV(hok:HOk P w H h)(e:H a=Nc (.ins C dx fs)):∃b,vg h a dx C b/\(∀f,qf (fs.lookup f)<|b f)/\PySem.Within b (fs.map (·.1))/\⇑fs<=1000/\H dx=Nc (.own a):=by
 let(d,z,g,c,b,n,r,q):=(show cS P w H h a (.ins C dx fs)from hok a _ e);calc(b,(c,n,g,),r,q,z,d,)
end
structure Cls(K:am)(C:Jr):Prop where
 pg:O9 K C Str.empty=Nf
 hd:PZ K C=Nf
 po:W.plainOver K C=Nf
 sa:xz K (.ref C) "__setattr__" = Nc (Nc<|.builtin "object.__setattr__")
def Cls.get{K:am}(c:Cls K C)(f:Str):O9 K C f=true:=c.pg
def  NoAttr(K:am)(C:Jr)(f:Str):Prop:=xz K (.ref C) f=Nc Nd
def NoAttr.taker{K:am}{C:Jr}{f:Str}(n:NoAttr K C f):W.takerIn K C f=Nc none:=by
 unfold W.takerIn;rw[show xz K (.ref C) f=Nc Nd from n];rfl
structure Con(K:am)(C:Jr)(f:Str)(v:V)(u:I1):Prop where
 at_:xz K (.ref C) f=Nc (Nc u)
 rel:RelV v u
 get:NY K u "__get__" = Nc Nd
 cp:W.copiedNames.contains f=Ng
structure Meth(K:am)(C:Jr)(m:Str)(f:Jr):Prop where
 at_:xz K (.ref C) m=Nc ↑f
 fn:W.isFn K (.ref f)=Nf
 kp:GE K (.ref f)=Nf
section
variable{fs:Nt (Str×V)}{f:Str}{v:V}
def vh(I:Inv X Ni σ H s)(e:H a=Nc (.ins C dx fs))(c:Cls X.K C)(n:NoAttr X.K C f)(l:fs.lookup f=Nc v)
  (h:∀u s',Inv X Ni σ H s'->RelV v u->Q u s'):Kc (model X.prog X.w) A (getAttr (.ref a) f b) Q E s:=by
 let(g,O,r,_,_,_):=nV I.hok e;let(u,i,d):=qf.some_of (v:=v) (o:=g f) (by rw[←l];exact r f);calc get_map I.kIn O (c.get f) c.hd n i (qR d)<|h u _ (I.tok _) d
def ox{m:Str}{g:Jr}{pl:Sem Bool}{Q:I1×Nt I1->JY->Prop}(I:Inv X Ni σ H s)(e:H a=Nc (.ins C dx fs))(c:Cls X.K C)(k:Meth X.K C m g)(l:fs.lookup m=Nd)
  (h:Q (.ref g,[.ref a]) s):Kc (model X.prog X.w) A (K2 (.ref a) m pl) Q E s:=by
 let(b,O,r,_,_,_):=nV I.hok e;let d:b m=none:=qf.none_of (by rw[←l];exact r m);calc yZ I.kIn O (c.get m) k.at_ k.fn d h
def vi(I:Inv X Ni σ H s)(e:H a=Nc (.ins C dx fs))(c:Cls X.K C)(n:NoAttr X.K C f)(v:⇑fs<1000)(l:RelV y u)
  (h:∀s',Inv X Ni σ (upd H a<|.ins C dx<|bH f y fs) s'->Q () s'):Kc (model X.prog X.w) A (setAttr (.ref a) f u) Q E s:=by
 let(j,O,r,i,_,k):=nV I.hok e;let m:⇑(fs.map (·.1))<=JR:=by rw[af,K1];lia
 refine A1 I.kIn O c.sa c.po n.taker c.hd i m λh' d sb=>h _ ?_
 let hd:∃o,h'.get? dx=Nc o:=let ⟨o,_,_,e',_⟩:=d.ns;(o,e',);refine I.write (x:=a) (e:=dx) (by rw[e];exact NO) (.inr k) (λb q t z=>(sb.2 b t).trans z) hd ?_;refine(by rw[aw O.ne];exact k,?_,O.ne,d.obj,_,d.ns,λg=>?_,λg p=>?_,)
 .let:=nt f y fs;lia
 .show qf ((bH f y fs).lookup g) (if g=f then Nc u else j g);rw[nr];by_cases q:g=f
  .rw[Nk q,Nk q];exact l
  .rw[Nj q,Nj q];exact r g
 .by_cases q:g=f
  .rw[q];exact(mG f y fs).1
  .refine(mG f y fs).2 g (i g λz=>p ?_);show(if g=f then Nc u else j g)=Nd;rw[Nj q];calc z
def Inv.made(I:Inv X Ni σ H s):Inv X Ni σ (upd (upd H ↥s<|.own<|↥s+1) (↥s+1)<|.ins C ↥s [])
  { s with heap:=(s.heap.push GT).push (NR C ↥s) }:=by
 let d:(s.heap.push GT).get? ↥s=Nc GT:=ci s.heap U;let i:((s.heap.push GT).push<|NR C ↥s).get? (↥s+1)=Nc (NR C ↥s):=by
  let:=ci (s.heap.push GT) (o:=NR C ↥s) U
  rwa [lv]at this
 let h:(s.heap.push GT).Ns ↥s (λ_=>Nd):=(GT,#[],_,d,U,(λe g=>Nl g (by simp)),λ_=>U,);let j:=I.laid (a:=↥s) (o:=.own<|↥s+1) (h':=s.heap.push GT) (t':=s.toks) (λb u q=>bd _ q) (uN _) (_,d,);calc j.laid (a:=↥s+1) (o:=.ins C ↥s []) (t':=s.toks) (λb u q=>bd _ q) (w1<|lv _ _) ?_;let c:↥s≠↥s+1:=uR<|wm _;calc(by rw[aw c,ae],ve _,c,i,λ_=>Nd,(JD.Ns1.of_empty h).at λo q=>bd _ q,λ_=>NO,λy f=>Nl U f,)
def A2{prog:Jl}{w:Je}{a:Env}{e:Ke}(c:K5 e f a (eval e a)=eval e a)
  (h:Kc (model prog w) A (eval e a) (λo b=>Kc (model prog w) A (getAttr o f Nf) Q E b) E s):Kc (model prog w) A (eval (.Attribute e f pos) a) Q E s :=
 Attribute_any_ h (by rw[arm_eval_Attribute,c])
end
inductive Co(K:am)(f:Str)(Q:VK)(x:V)(H1:Hp):Prop
 |mk (a C dx fs v:_)(_:x=.ref a)(_:H1 a=Nc (.ins C dx fs))(_:Cls K C)(_:NoAttr K C f)(_:fs.lookup f=Nc v)(_:Q v H1)
def  EF(K:am)(ta:TE)(f:Str):TE:=λσ H Q=>ta σ H λx a=>Co K f Q x a
def  Gg(K:am)(ta c:TE)(f:Str):TS:=λD σ H=>c σ H λy d=>ta σ d λx b=>∃a C dx fs,x=.ref a/\b a=Nc (.ins C dx fs)/\Cls K C/\NoAttr K C f/\⇑fs<1000 /\
 D.nx σ (upd b a<|.ins C dx<|bH f y fs)
variable{o:Ke}
section
variable{value:Ke}{f:Str}{pos' Gh:Pos}{tv:TE}
def aU(g:PE X e ta)(i:K5 e f X.env (eval e X.env)=eval e X.env):PE X (.Attribute e f pos) (EF X.K ta f):=by
 intro Ni s σ H Q I h;calc A2 i<|thn (g Ni s σ H _ I h) λu t (x,p,o,b,a,C,dx,fs,v,j,k,c,n,l,q,)=>?_;subst j;obtain rfl:u=io a:=b;calc vh o k c n l λr s2 m d=>(v,p,m,d,q,)
def cY(m:PE X o ta)(j:PE X value tv)(k:Kr value (Nc<|.Attribute o f pos') pos.line X.env=pure Ng):PS X (.Assign [.Attribute o f pos'] value pos) (Gg X.K ta tv f):=by
 intro Ni s σ H D I h;calc plainObj_wpAny_Assign_Attribute (thn (j Ni s σ H _ I h) λu b (y,z,w,d,q,)=>thn (m Ni b σ z _ w q) λi s2 (x,B,v,e,a,C,dx,fs,p,r,c,n,l,g,)=>?_) k;subst p;obtain rfl:i=io a:=e;calc vi v r c n l d λA t=>(σ,_,t,g,)
end
section
variable{Q:I1->JY->Prop}{c:I1}{b:Bool}
inductive mH(K:am)(H:Hp):V->I1->Prop where
 |non:mH K H .non (.type "NoneType")
 |bl (x:Bool):mH K H (.bl x) (.type "bool")
 |int (i:Int):mH K H (.int i) (.type "int")
 |str (x:Str):mH K H (.str x) (.type "str")
 |flt (x:UInt64):mH K H (.flt x) (.type "float")
 |lst {a:Jr}{xs:Nt V}(e:H a=Nc (.lst xs)):mH K H (.ref a) (.type "list")
 |frz {a:Jr}{o:Obj}{xs:Nt V}(e:H a=Nc (.frz o<|.lst xs)):mH K H (.ref a) (.type "list")
 |tup {a:Jr}{xs:Nt V}(e:H a=Nc (.tup xs)):mH K H (.ref a) (.type "tuple")
 |dK {a:Jr}{kvs:Nt (Key×V)}(e:H a=Nc (.dK kvs)):mH K H (.ref a) (.type "dict")
 |dT {a:Jr}{kvs:Nt (Nt Key×V)}(e:H a=Nc (.dT kvs)):mH K H (.ref a) (.type "dict")
 |ins {a C dx:Jr}{fs:Nt (Str×V)}(e:H a=Nc (.ins C dx fs))(cl:Cls K C)(ha:xz K (.ref C) "__class__" = Nc (Nc<|.builtin "object.__class__"))
   (hn:NY K (.builtin "object.__class__") "__get__" = Nc (Nc<|.builtin "getset_descriptor.__get__")) (htk:W.takesIn K (.builtin "object.__class__")=Nc Nf)
   (hm:OH K C (.type "object")=Nc Nf):mH K H (.ref a) (.ref C)
def xE{x:V}(I:Inv X Ni σ H s)(d:RelV x u)(ty:mH X.K H x t)(e:sB X.K t c=Nc b)(h:∀k,Q (.bool b) { s with toks:=k }) :
  Kc (model X.prog X.w) A (call (.builtin "isinstance") [u,c]) Q E s:=by
 cases ty with
 |non=>cases (show u=pr from d);exact Do W.kitx_none I.kIn NO e (λz=>nomatch z) h
 |bl y=>cases (show u=OV y from d);exact Do W.kitx_bool I.kIn NO e (λz=>nomatch z) h
 |int i=>obtain⟨t,q⟩:=(show ∃t,u=O2 i t from d);cases q;exact Do W.kitx_int I.kIn NO e (λz=>nomatch z) h
 |str y=>obtain⟨t,q⟩:=(show ∃t,u=OL y t from d);cases q;exact Do W.kitx_str I.kIn NO e (λz=>nomatch z) h
 |flt y=>obtain⟨t,q⟩:=(show ∃t,u=I1.float y t from d);cases q;exact Do W.kitx_float I.kIn NO e (λz=>nomatch z) h
 | @lst a g ea =>
  cases (show u=io a from d);let(_,_,n,_,f):=(show cS X.prog X.w H s.heap a (.lst g)from I.hok a _ ea);exact Do W.kitx_list I.kIn (_,f,U,) e (λz=>nomatch z) h
 | @frz a ob g ea =>
  cases (show u=io a from d);let(_,_,_,n,_,f):=(show cS X.prog X.w H s.heap a (.frz ob<|.lst g)from I.hok a _ ea);exact Do W.kitx_list I.kIn (_,f,U,) e (λz=>nomatch z) h
 | @tup a g ea =>
  cases (show u=io a from d);let(_,_,_,p):=(show cS X.prog X.w H s.heap a (.tup g)from I.hok a _ ea);let(o,f,j,_):=p;exact Do W.kitx_tuple I.kIn (o,f,j,) e (λz=>nomatch z) h
 | @dK a kvs ea =>
  cases (show u=io a from d);let(_,_,r,_,p):=(show cS X.prog X.w H s.heap a (.dK kvs)from I.hok a _ ea);let(o,l,m,f,j,_):=p;exact Do W.kitx_dict I.kIn (o,f,j.1,) e (λz=>nomatch z) h
 | @dT a kvs ea =>
  cases (show u=io a from d);let(_,_,g,_,o,l,m,f,j,_):=(show cS X.prog X.w H s.heap a (.dT kvs)from I.hok a _ ea);exact Do W.kitx_dict I.kIn (o,f,j.1,) e (λz=>nomatch z) h
 | @ins a C dx fs ea cl ha hn htk hm =>
  cases (show u=io a from d);let(B,O,_):=nV I.hok ea;let(v,J,_):=O.look;calc Do (W.kitx_own (cl.get _) cl.hd ha hn htk hm) I.kIn J e (λz=>nomatch z) h
end
structure bV(k:Nat)(A:JX):Prop where
 hd:A.handled=Nd
 dp:A.depth+3*k+5<K6
 un:A.units+16*k+200<K7
def bV.mono{j k:Nat}{A:JX}(r:bV k A)(h:j<=k):bV j A:=(r.hd,by have:=r.dp;lia,by have:=r.un;lia,)
def bV.deeper(r:bV (k+1) A)(a:Env):bV k (A.deeper a) :=
 (r.hd,by have:=r.dp;show A.depth+1+3*k+5<_;lia,by have:=r.un;show A.units+3+16*k+200<_;lia,)
def vj{us:Nt I1}{a:Nt (Str×I1)}:(A.under<|.builtin "type.__call__" (.ref C :: us,a,)).depth=A.depth+1:=by
 first|rfl|simp[JX.under,K8.weight,K8.isCreation,K8.isGuard,K8.isCaller,K8.frames,K8.isFrame,guardIds]
def vk{us:Nt I1}{a:Nt (Str×I1)}:(A.under<|.builtin "type.__call__" (.ref C :: us,a,)).units=A.units+1:=by
 first|rfl|simp[JX.under,K8.cUnits,K8.frames,K8.isFrame]
def bV.make(r:bV (k+1) A)(C:Jr)(us:Nt I1)(a:Nt (Str×I1)):bV k (A.under<|.builtin "type.__call__" (.ref C :: us,a,)) :=
 (r.hd,by have:=r.dp;rw[vj];lia,by have:=r.un;rw[vk];lia,)
def bV.depth(r:bV k A):A.depth<K6:=by have:=r.dp;lia
def bV.units(r:bV k A):A.units+64<K7:=by have:=r.un;lia
def  Dd:TA:=λ_ H Q=>Q [] H
def  EG(ta:TE)(b:TA):TA:=λσ H Q=>ta σ H λx d=>b σ d λa c=>Q (x :: a) c
variable{es:Nt Ke}
section
variable{t:TA}
def ag:PA X [] Dd:=λ_ _ _ _ H Q I h=>PJ ([],H,I,.nil,h,)
def aa(k:PE X e te)(j:PA X es t)(i:Kh (e :: es) X.env=(Ng,eval e X.env) :: Kh es X.env:=by rfl):PA X (e :: es) (EG te t):=by
 intro pos Ni s σ H Q I h;rw[i];show Kc _ _ (spliced ((Ng,eval e X.env) :: Kg pos (Kh es X.env))) _ _ s;calc Px<|thn (k Ni s σ H _ I h) λu b (x,o,m,d,g,)=>?_;calc thn (j pos Ni b σ o _ m g) λp s2 (a,n,l,c,f,)=>(x :: a,n,l,.cons d c,f,)
def  Gi(t:TA):TE:=λσ H Q=>t σ H λa b=>⇑a<=JR/\∀p,b p=Nd->Q (.ref p) (upd b p<|.tup a)
def  Gj(t:TA):TE:=λσ H Q=>t σ H λa b=>⇑a<=JR/\∀p,b p=Nd->Q (.ref p) (upd b p<|.lst a)
def bh{x1} (h:PA X es t):PE X (.Tuple es x1 pos) (Gi t):=by
 intro Ni s σ H Q I i;refine wpAny_Tuple_spliced (thn (h pos Ni s σ H _ I i) λg a (f,d,c,r,z,q,)=>(by rw[←⇑r];exact z,?_,));let j:d ↥a=none:=c.hok.fresh<|uN _;calc(.ref ↥a,upd d ↥a<|.tup f,c.laid (t':=a.toks) (λb u e=>bd _ e) (uN _) ?_,U,q _ j,);calc(z,g,r,(_,ci _ U,U,_,U,),)
def aY(h:PA X es t):PE X (.List es pos) (Gj t):=by
 intro Ni s σ H Q I i;refine wpAny_List_spliced (thn (h pos Ni s σ H _ I i) λg a (f,d,c,r,z,q,)=>(by rw[←⇑r];exact z,?_,));let j:d ↥a=none:=c.hok.fresh<|uN _;calc(.ref ↥a,upd d ↥a<|.lst f,c.laid (t':=a.toks) (λb u e=>bd _ e) (uN _) ?_,U,q _ j,);calc(z,g,0,r,ci _ U,)
end
abbrev Sp:=Nt V->Hp->VK->XK->Prop
abbrev CXT:=Nt Env->Hp->JY->XK->I1->JY->Prop
structure tH(P:Jl)(w:Je)(K:am)(mg:Str->Option I1)(base:JD)(A:JX)(outer:Nt Env)(s:JY)(H:Hp):Prop where
 frames:A.frames=Nc outer
 mod:Mod K mg base
 bs:∀b o,base.get? b=Nc o->s.heap.get? b=Nc o/\H b=Nd
 bsz:base.objs.size<=↥s
 funs:s.heap.FunFrames base outer
 frf:∀b∈frs outer,H b=Nd
 hok:HOk P w H s.heap
 bare:AllBare s.gens
def  CE(a:Nt Env)(P:Jl)(w:Je)(H:Hp)(s:JY)(Q:VK)(u:I1)(s':JY):Prop :=
 ∃v H',s'.os=s.os/\AllBare s'.gens/\Un (frs a) [] H H' s.heap s'.heap/\HOk P w H' s'.heap/\RelV v u/\Q v H'
def  CR(CX:CXT)(a:Nt Env)(P:Jl)(w:Je)(H:Hp)(s:JY)(Q:VK)(E:XK)(r:K3)(s':JY):Prop :=
 match r with
 | .ok (.ret u)=>CE a P w H s Q u s'
 | .ok _=>False
 | .error e=>CX a H s E e s'
structure aL(P:Jl)(w:Je)(K:am)(mg:Str->Option I1)(base:JD)(CX:CXT)(k:Nat)(f:Jr)(fd:K9)(ps:Nt Str)(sp:Sp):Prop where
 len:∀vs H Q E,sp vs H Q E->⇑vs=⇑ps
 run:∀(A:JX)(outer:Nt Env)(s:JY)(H:Hp)(args:Args)(us:Nt I1)(vs:Nt V)(Q:VK)(E:XK),bV k A->tH P w K mg base A outer s H->La s fd args (ps.zip us)->Vals vs us->sp vs H Q E ->
  K4 (model P w) A (.call (.ref f) args) (CR CX outer P w H s Q E) s
def aL.mono{P:Jl}{w:Je}{K:am}{mg:Str->Option I1}{base:JD}{CX:CXT}{j k:Nat}{f:Jr}{c:K9}{ps:Nt Str}{sp:Sp}(F:aL P w K mg base CX j f c ps sp)(h:j<=k) :
  aL P w K mg base CX k f c ps sp:=(F.len,λA a s H b e d Q E g=>F.run A a s H b e d Q E<|g.mono h,)
def tH.make{P:Jl}{w:Je}{K:am}{mg:Str->Option I1}{base:JD}{A:JX}{a:Nt Env}{s:JY}{H:Hp}(e:tH P w K mg base A a s H)(C:Jr)(us:Nt I1)(b:Nt (Str×I1)) :
  tH P w K mg base (A.under<|.builtin "type.__call__" (.ref C :: us,b,)) a s H:=(by first|exact e.frames|(simpa[JX.under,K8.envs,K8.isFrame,pushEnvs]using e.frames),e.mod,e.bs,e.bsz,e.funs,e.frf,e.hok,e.bare,)
section
variable{s':JY}
def Inv.env0(I:Inv X Ni σ H s):tH X.prog X.w X.K X.mg X.base X.A X.stack s H :=
 (I.ok.frames,I.ok.mod,I.bs,uU I.ok.bsz I.sz,I.stack,I.stkFree,I.hok,I.bare,)
def Inv.after(I:Inv X Ni σ H s)(h:CE X.stack X.prog X.w H s Q u s'):EP X Ni σ Q u s':=by
 let(v,H',os,a,un,hok,r,q):=h;let(e,g,d,t,c):=s';obtain rfl:c=s.os:=os;calc(v,H',I.call (h':=e) (g':=g) (d':=d) (t':=t) (ch:=[]) un hok a<|λb z=>Nl z (by simp),r,q,)
end
def  EH(sp:Sp)(dvs:Nt V)(E:XK)(t:TA):TE:=λσ H Q=>t σ H λa b=>sp (a++dvs) b Q E
def  Cp(C:Jr)(sp:Sp)(dvs:Nt V)(E:XK)(t:TA):TE:=λσ H Q=>t σ H λb a=>∀x dx,a x=Nd->a dx=Nd->dx≠x ->
 sp (.ref x :: (b++dvs)) (upd (upd a dx<|.own x) x<|.ins C dx []) (λv c=>v=.non/\Q (.ref x) c) E
def  Binds(K:am)(b:K9)(ps:Nt Str)(ds:Nt I1):Prop :=
 ∀(s:JY)(a:Nt I1),K.In s.heap->⇑(a++ds)=⇑ps->La s b (a,[],) (ps.zip<|a++ds)
def Binds.all{K:am}(h:∀us:Nt I1,⇑us=⇑ps->Lb b (us,[],)=pure (ps.zip us)):Binds K b ps []:=λs us _ a=>by
 rw[ik]at a⊢;calc .of_eq<|h us a
def  Passes(CX:CXT)(X:Cx)(E:XK):Prop:=∀(Ni:Nt (Jr×Obj))(σ:St)(H:Hp)(s:JY)(e:I1)(a:JY),Inv X Ni σ H s->CX X.stack H s E e a->X.xe e a
variable{p:Pos}
section
variable{CX:CXT}{k:Nat}{fd:K9}{ps:Nt Str}{sp:Sp}{dvs:Nt V}{ds:Nt I1}{E:XK}{x m:Str}{apos:Pos}{t:TA}
def rR(F:aL X.prog X.w X.K X.mg X.base CX k f fd ps sp)(g:bV k X.A)(j:Binds X.K fd ps ds)(hd:Vals dvs ds)(d:Passes CX X E)
  (I:Inv X Ni σ H s)(r:Vals vs us)(h:sp (vs++dvs) H Q E):Kc (model X.prog X.w) X.A (call (.ref f) us) (EP X Ni σ Q) X.xe s:=by
 let b:Vals (vs++dvs) (us++ds):=r.append hd;let i:⇑(us++ds)=⇑ps:=by rw[←⇑b];exact F.len _ _ _ _ h
 calc Lc<|Ld (F.run X.A X.stack s H (us,[],) (us++ds) (vs++dvs) Q E g I.env0 (j s us I.kIn i) b h) λr c a=>?_;cases r with
 |error e=>exact d Ni σ H s e c I a
 |ok fl =>
  cases fl with
  |ret u=>exact I.after a
  |next=>exact lf a
  |brk=>exact lf a
  |cont=>calc lf a
def A7(F:aL X.prog X.w X.K X.mg X.base CX k f fd ps sp)(g:bV k X.A)(l:Gl X x)(i:X.mg x=↑f)(j:GE X.K (.ref f)=Nf)(m:Binds X.K fd ps ds)(hd:Vals dvs ds)(d:Passes CX X E)
  (n:PA X (e :: es) t)(b:(x == ("__debug__" : Str))=false:=by decide) (he:Kh (e :: es) X.env=(Ng,eval e X.env) :: Kh es X.env:=by rfl)(a:(Kg pos<|Kh es X.env).any (·.1)=false:=by rfl) :
  PE X (.Call (.Name x p) (e :: es) [] pos) (EH sp dvs E t):=by
 intro Ni s σ H Q I h;calc GW<|dM I l i ?_ b;calc EQ (h₀:=X.base) I.ok.mod.kin j (thn (n pos Ni s σ H _ I h) λu v (o,y,c,r,q,)=>(c.kIn,?_,)) he a;calc rR F g m hd d c r q
structure Mk(K:am)(C f:Jr):Prop where
 makes:W.makesIn K C=Nf
 init:xz K (.ref C) "__init__" = Nc ↑f
 fn:W.isFn K (.ref f)=Nf
 kp:GE K (.ref C)=Nf
def tI(M:Mk X.K C f)(F:aL X.prog X.w X.K X.mg X.base CX k f fd ps sp)(m:bV (k+1) X.A)(o:Binds X.K fd ps ds)(hd:Vals dvs ds)
  (l:Passes CX X E)(I:Inv X Ni σ H s)(r:Vals vs us)
  (h:∀x dx,H x=Nd->H dx=Nd->dx≠x->sp (.ref x :: (vs++dvs)) (upd (upd H dx<|.own x) x<|.ins C dx []) (λv t=>v=.non/\Q (.ref x) t) E) :
  Kc (model X.prog X.w) X.A (call (.ref C) us) (EP X Ni σ Q) X.xe s:=by
 let d:=h (↥s+1) ↥s (I.hok.fresh<|v3 _) (I.hok.fresh<|uN _)<|uR<|wm _;let b:=Inv.made (C:=C) I;let c:Vals (Qf (↥s+1) :: (vs++dvs)) (io (↥s+1) :: (us++ds)):=.cons U<|r.append hd;let n:⇑(io (↥s+1) :: us++ds)=⇑ps:=by
  let e:=⇑c;rw[F.len _ _ _ _ d]at e;exact e.symm
 refine Lc (y9 (f:=f) I.kIn M.makes M.init (beq_iff_eq.mp M.fn) (Ld (F.run _ X.stack _ _ (io (↥s+1) :: us,[],) (io (↥s+1) :: (us++ds)) _ _ E (m.make C us [])
  (b.env0.make C us []) (o _ (io (↥s+1) :: us) b.kIn n) c d) λr g a=>?_))
 cases r with
 |error e=>exact l Ni σ _ _ e g b a
 |ok fl =>
  cases fl with
  |ret u =>
   let(v,H',q,i,p,j):=b.after a;subst p;exact(i,(Qf<|↥s+1,H',q,U,j,),)
  |next=>exact lf a
  |brk=>exact lf a
  |cont=>calc lf a
def A8(M:Mk X.K C f)(F:aL X.prog X.w X.K X.mg X.base CX k f fd ps sp)(g:bV (k+1) X.A)(j:Gl X x)(i:X.mg x=↑C)(l:Binds X.K fd ps ds)(hd:Vals dvs ds)(d:Passes CX X E)
  (m:PA X (e :: es) t)(b:(x == ("__debug__" : Str))=false:=by decide) (he:Kh (e :: es) X.env=(Ng,eval e X.env) :: Kh es X.env:=by rfl)(a:(Kg pos<|Kh es X.env).any (·.1)=false:=by rfl) :
  PE X (.Call (.Name x p) (e :: es) [] pos) (Cp C sp dvs E t):=by
 intro Ni s σ H Q I h;calc GW<|dM I j i ?_ b;calc EQ (h₀:=X.base) I.ok.mod.kin M.kp (thn (m pos Ni s σ H _ I h) λo u (n,v,c,r,q,)=>(c.kIn,?_,)) he a;calc tI M F g l hd d c r q
def za(M:Mk X.K C f)(F:aL X.prog X.w X.K X.mg X.base CX k f fd ps sp)(c:bV (k+1) X.A)(e:Gl X x)(d:X.mg x=↑C)(g:Binds X.K fd ps ds)(hd:Vals dvs ds)(b:Passes CX X E)
  (a:(x == ("__debug__" : Str))=false:=by decide):PE X (.Call (.Name x p) [] [] pos) (Cp C sp dvs E Dd):=by
 intro Ni s σ H Q I h;calc GW<|dM I e d ?_ a;calc W.callWith_K0 I.kIn M.kp<|tI (us:=[]) M F c g hd b I .nil h
end
section
variable{CX:CXT}{k:Nat}{fd:K9}{ps ks:Nt Str}{sp:Sp}{E:XK}{x m:Str}{apos Jk:Pos}{kws:Nt Keyword}{t tk:TA}{nm:Option Str}
structure Gk(K:am)(fd:K9)(ps ks:Nt Str)(g:Nt I1->Nt I1->Nt I1)(gV:Nt V->Nt V->Nt V):Prop where
 to:∀(s:JY)(us ws:Nt I1),K.In s.heap->⇑(g us ws)=⇑ps->La s fd (us,ks.zip ws,) (ps.zip<|g us ws)
 rel:∀{vs:Nt V}{us:Nt I1}{zs:Nt V}{ws:Nt I1},Vals vs us->Vals zs ws->Vals (gV vs zs) (g us ws)
variable{g:Nt I1->Nt I1->Nt I1}{gV:Nt V->Nt V->Nt V}
end
structure ar(N P:Nt Str)(sc:JZ):Prop where
 kind:sc.kind=.function
 co:sc.isCoroutine=Ng
 gen:sc.isGenerator=Ng
 nd:N.Nodup
 pre:N.take P.length=P
 par:∀x∈P,sc.names.lookup x=Nc .local\/sc.names.lookup x=Nc .cell
 nofree:∀y∈sc.names,y.2≠.free
def qT{a:Str->Option Le}{x:Str}:∀{binds:Nt (Str×I1)}{m:Str->Option I1},(∀v,(x,v) ∉ binds)->Lf a binds m x=m x
 | [],_,_=>rfl
 |(n,v) :: r,m,h=>by
  unfold Lf;rw[qT λw b=>h w (dz _ b)];split
  .let:x≠n:=by rintro rfl;exact h v cF
   simp[this]
  .rfl
def qV{a:Str->Option Le}{x:Str}:∀{binds:Nt (Str×I1)}{m:Str->Option I1},(∀v,(x,v) ∉ binds)->Lg a binds m x=m x
 | [],_,_=>rfl
 |(n,v) :: r,m,h=>by
  unfold Lg;rw[qV λw b=>h w (dz _ b)];split
  .rfl
  .let:x≠n:=by rintro rfl;exact h v cF
   simp[this]
def qW{a:Str->Option Le}{x:Str}{v:I1}:∀{P:Nt Str}{vs:Nt I1}{i:Nat}{m:Str->Option I1},P.Nodup->P[i]?=Nc x->vs[i]?=Nc v->a x=Nc .local ->
  Lf a (P.zip vs) m x=Nc v
 | [],_,_,_,_,h,_,_=>by simp at h
 |_ :: _,[],_,_,_,_,h,_=>by simp at h
 |p :: P,w :: vs,0,m,nd,h1,h2,hk=>by
  simp at h1 h2;subst h1;subst h2;show Lf a ((p,w) :: P.zip vs) m p=_;unfold Lf;rw[qT λv b=>(lz.mp nd).1 (qd b).1,Nk hk];simp
 |p :: P,w :: vs,i+1,m,nd,h1,h2,hk=>by
  show Lf a ((p,w) :: P.zip vs) m x=_;unfold Lf;calc qW (i:=i) (lz.mp nd).2 (~~~h1) (~~~h2) hk
def qX{a:Str->Option Le}{x:Str}{v:I1}:∀{P:Nt Str}{vs:Nt I1}{i:Nat}{m:Str->Option I1},P.Nodup->P[i]?=Nc x->vs[i]?=Nc v->a x≠Nc .local ->
  Lg a (P.zip vs) m x=Nc v
 | [],_,_,_,_,h,_,_=>by simp at h
 |_ :: _,[],_,_,_,_,h,_=>by simp at h
 |p :: P,w :: vs,0,m,nd,h1,h2,hk=>by
  simp at h1 h2;subst h1;subst h2;show Lg a ((p,w) :: P.zip vs) m p=_;unfold Lg;rw[qV λv b=>(lz.mp nd).1 (qd b).1,Nj hk];simp
 |p :: P,w :: vs,i+1,m,nd,h1,h2,hk=>by
  show Lg a ((p,w) :: P.zip vs) m x=_;unfold Lg;calc qX (i:=i) (lz.mp nd).2 (~~~h1) (~~~h2) hk
def  start(N:Nt Str)(vs:Nt V):St:=vs.map Nc++Fk (N.length-⇑vs) Nd
def  br(CX:CXT)(P:Jl)(w:Je)(K:am)(mg:Str->Option I1)(base:JD)(N:Nt Str)(qual:Str)(scope:JZ)(f:Jr)(b:I1)(A:JX)(outer:Nt Env)(s:JY)(H:Hp)(E:XK):Cx where
 prog:=P
 w:=w
 K:=K
 mg:=mg
 base:=base
 A:=A.deeper (envOfC qual scope ↥s f b)
 N:=N
 s₀:=s
 H₀:=H
 env:=envOfC qual scope ↥s f b
 outer:=outer
 stack:=envOfC qual scope ↥s f b :: outer
 ex:=[]
 calm:=Nf
 fn:=λ_=>Nf
 pn:=[]
 xe:=λe c=>Kc (model P w) (A.deeper<|envOfC qual scope ↥s f b) (leaving (envOfC qual scope ↥s f b) e) (λ_ a=>CX outer H s E e a) (λd a=>CX outer H s E d a) c
def tJ{a:JZ}{n:Nat}{x:Str}(h:a.names.lookup x=Nc .cell):∃c,(Lh n a.names []).lookup x=Nc c:=by
 let q:=W.cellsFrom_some a.names n [] (.inl h);calc Gz.mp q
def xF{CX:CXT}{P:Jl}{w:Je}{K:am}{mg:Str->Option I1}{base:JD}{N ps:Nt Str}{qual:Str}{scope:JZ}{f:Jr}{C:I1}{A:JX}{d:Nt Env}{s D:JY}{H:Hp}{E:XK}{us:Nt I1}{vs:Nt V}
  (S:ar N ps scope)(hd:A.handled=Nd)(j:tH P w K mg base A d s H)(O:⇑vs=⇑ps)(r:Vals vs us)
  (x:InCallC s ↥s (Lf (envOfC qual scope ↥s f C).kindOf (ps.zip us) λ_=>Nd) (Lh (↥s+1) scope.names []) (Lg (envOfC qual scope ↥s f C).kindOf (ps.zip us) λ_=>Nd) D) :
  Inv (br CX P w K mg base N qual scope f C A d s H E) [] (start N vs) H D:=by
 let L:⇑ps<=N.length:=by have:=Nq sK S.pre;rw[hZ]at this;lia
 let(B,M,rfl,G):=x.done;let m:∀b:Jr,b ∉ (br CX P w K mg base N qual scope f C A d s H E).ex:=λb z=>Nl (show b∈([]:Nt Jr)from z) (by simp)
 refine((j.mod,S.kind,U,U,uN _,λy z c B g=>?_,λy l=>?_,λy c _ h=>?_,λ_=>hd,JX.frames_deeper j.frames,.inr (U,U,),λb z=>Nl z<|m b,j.bs,j.bsz,λb _ _=>m b,λb z=>Nl z<|m b,j.funs,j.frf,),
  rfl,j.bare,Un.kept G,(_,x.toInCall.ns,λi y v B g Q=>?_,),λy c h=>(_,x.cell y c h,),j.hok.fresh<|uN _,λy c h=>?_,λp o=>Nl (show p∈([]:Nt (Jr×Obj))from o) (by simp),j.hok.kept G,?_,)
 .exact name_of_addr x.apart (mem_of_lookup B)<|mem_of_lookup g
 .let l:scope.names.lookup y=Nc .cell\/scope.names.lookup y=Nc .free:=l;rcases l with l|l
  .exact tJ l
  .exact Nl U<|S.nofree _<|mem_of_lookup l
 .exact vl<|x.above y c<|mem_of_lookup h
 .let hi:i<⇑vs:=by
   unfold start at g;by_cases hi:i<⇑vs
   .exact hi
   .rw[kc (~~~hi)]at g;rw[Pc]at g;split at g <;> cases g
  let J:vs[i]?=Nc v:=by
   unfold start at g;rw[iv (~~~hi),fi]at g;cases e:vs[i]? with
   |none=>rw[e]at g;cases g
   |some a=>rw[e]at g;cases g;rfl
  let(u,F,I):=r.get J;let o:ps[i]?=Nc y:=by
   rw[←S.pre,KB ∅];exact B
  let t:ps.Nodup:=by rw[←S.pre];exact S.nd.sublist<|mu _ _
  calc(u,I,?_,);rcases S.par y (JQ o)with k|k
  .exact .inl (k,qW t o F k,)
  .let(c,e):=tJ (n:=↥s+1) k;calc .inr (.inl k,c,e,?_,);let q:=x.cell y c e;rw[qX t o F (by show scope.names.lookup y≠_;rw[k];decide)]at q;exact q
 .exact j.hok.fresh<|vl<|x.above y c<|mem_of_lookup h
 .unfold start;show _=N.length;rw[cb,af,o3];lia
def ze{CX:CXT}{P:Jl}{w:Je}{K:am}{mg:Str->Option I1}{base:JD}{k:Nat}{f:Jr}{name qual:Str}{params:Li}{body:Nt Ki}{scope:JZ}{D kV doc pm c F T:I1}{G R:Option Jr}
  {p:Array (Option I1)}{N ps:Nt Str}{sp:Sp}(X:K.lookup f=Nc (T,R,.func<|Pa name qual params body scope D kV doc pm G c F,p,))(B:P0 K c qual=Nf)(S:ar N ps scope)
  (len:∀vs H Q E,sp vs H Q E->⇑vs=⇑ps)
  (fV:∀(A:JX)(a:Nt Env)(s:JY)(H:Hp)(vs:Nt V)(Q:VK)(E:XK),bV k (A.deeper<|envOfC qual scope ↥s f c)->sp vs H Q E ->
   ∃t,PSs (br CX P w K mg base N qual scope f c A a s H E) body t/\t { nx:=λ_ H'=>Q .non H',rt:=Q } (start N vs) H) :
  aL P w K mg base CX (k+1) f (Pa name qual params body scope D kV doc pm G c F) ps sp:=by
 calc(len,λA a s H M O vs Q E m h hb r i=>?_,);let hl:=len _ _ _ _ i;let L:K.In s.heap:=h.mod.kin.keeps λb o e=>(h.bs b o e).1
 let z:s.heap.NoLimit:=h.mod.nolimit.keeps λb o e=>(h.bs b o e).1
 let EI:∀y∈ps.zip O,scope.names.lookup y.1=Nc .local\/(scope.names.lookup y.1=Nc .cell/\((Lh (↥s+1) scope.names []).lookup y.1).isSome=Nf):=λ(n,v,) Y=>by
  rcases S.par n (qd Y).1 with q|q
  .exact .inl q
  .exact .inr (q,W.cellsFrom_some _ _ _<|.inl q,)
 calc codeAny_call_function m.depth (L _ _ X) U S.co S.gen U (W.codeRec_of L B)<|hb _ _ _ _ ?_;refine wpAny_newFunctionEnv_cells S.kind EI λa0 he C x=>?_
 subst he;calc(z.keeps x.toInCall.keep,codeAny_func ?_,);let(t,Z,hq):=fV A a s H vs Q E (m.deeper _) i;let I:Inv (br CX P w K mg base N qual scope f c A a s H E) [] (start N vs) H C:=xF S m.hd h hl r x;refine Kj (Z [] C (start N vs) H _ I hq) (λfl j g=>?_) λe j g=>g
 let fin:∀{d:St}{H':Hp}{v:V}{u:I1},Inv (br CX P w K mg base N qual scope f c A a s H E) [] d H' j->RelV v u->Q v H'->CE a P w H s Q u j :=
  λ{d H' v u} J l q=>(v,H',J.os,J.bare,J.base,J.hok,l,q,)
 cases fl with
 |ret u =>
  let(v,d,H',J,l,q):=g;exact fin J l q
 |next =>
  let(d,H',J,q):=g;exact fin (v:=V.non) (u:=pr) J U q
 |brk =>
  let(_,_,_,q):=g;exact lf q
 |cont =>
  let(_,_,_,q):=g;calc lf q
section
variable{x:Str}{t:TA}{id T:String}{r:Nt V->Hp->VK->Prop}
def  tCB(r:Nt V->Hp->VK->Prop)(t:TA):TE:=λσ H Q=>t σ H λa b=>r a b Q
def ay(n:dq X (.builtin id) r)(m:Gl X x)(l:X.mg x=Nd)(j:JW x=Nc (.builtin id))(o:PA X (e :: es) t)(k:x ≠ "__name__" := by decide) (b:(x == ("__debug__" : Str))=false:=by decide)
  (he:Kh (e :: es) X.env=(Ng,eval e X.env) :: Kh es X.env:=by rfl)(a:(Kg pos<|Kh es X.env).any (·.1)=false:=by rfl):PE X (.Call (.Name x p) (e :: es) [] pos) (tCB r t):=by
 intro Ni s σ H Q I h;calc GW<|iP I m l j ?_ k b;calc PyProof.Rows.callWith_builtin1 (thn (o pos Ni s σ H _ I h) λd f (c,u,q,g,i,)=>n Ni f σ u c d Q q g i) he a
def bE(n:dq X (.type T) r)(m:Gl X x)(l:X.mg x=Nd)(j:JW x=Nc (.type T))(o:PA X (e :: es) t)(k:x ≠ "__name__" := by decide) (b:(x == ("__debug__" : Str))=false:=by decide)
  (he:Kh (e :: es) X.env=(Ng,eval e X.env) :: Kh es X.env:=by rfl)(a:(Kg pos<|Kh es X.env).any (·.1)=false:=by rfl):PE X (.Call (.Name x p) (e :: es) [] pos) (tCB r t):=by
 intro Ni s σ H Q I h;calc GW<|iP I m l j ?_ k b;calc mo (thn (o pos Ni s σ H _ I h) λd f (c,u,q,g,i,)=>n Ni f σ u c d Q q g i) he a
end
end _L
open _L.Cx renaming wish→Qa,nox→Qb
open _L.SqT renaming of→P9
open _L.SqL renaming of→P8
open _L.V renaming int→pi,ref→Qf,str→Qe
namespace HT
open PySem PyProof.Rows
section
open PySem.SeqAt
open PySem.AutoSeq1 (wpAny_loadPart')
open PySem.MeetsSeq PySem.MeetsSeq2 PySem.MeetsSeq3
end
section
variable{prog:Jl}{w:Je}{A:JX}{E:I1->JY->Prop}{s:JY}
def cat_tup{t b:Jr}{vs ws:Nt I1}{Q:I1->JY->Prop}(q:IsTup s.heap t vs.toArray)(r:IsTup s.heap b ws.toArray)(o:vs≠[])
  (v:ws=[]->Q (.ref t) s)(u:ws≠[]->Q (.ref ↥s) { s with heap:=s.heap.push { cls:=.type "tuple",data:=.seq (vs++ws).toArray } })
  (j:⇑vs+⇑ws<=JR):Kc (model prog w) A (KU .Add (.ref t)<|.ref b) Q E s:=by
 let((cls,dd,data,l),i,p,n,hd):=id q;let((x,g,k,c),a,f,m,d):=id r;simp only at p hd f d;subst p hd f d;let e:vs.toArray++ws.toArray=(vs++ws).toArray:=by simp
 by_cases h:ws=[]
 .exact Lj (_,i,rfl,) (_,a,rfl,) Lk Ll PySem.F.slot_tuple_add PySem.F.entry_tuple_add (PySem.F.args_tuple_add_2 _ _)
   (tuple_addW1 t b vs.toArray ws.toArray n m dd g l c (~~~o) (by simp[h])) (i,a,v h,)
 .refine Lj (_,i,rfl,) (_,a,rfl,) Lk Ll PySem.F.slot_tuple_add PySem.F.entry_tuple_add (PySem.F.args_tuple_add_2 _ _)
   (tuple_addW2 t b vs.toArray ws.toArray n m dd g l c (~~~o) (~~~h) (by rw[cM,cM];exact j)) (i,a,?_,)
  rw[e];calc u h
def  sIx(n d:Nat):Option Int->Nat
 |none=>d
 |some v=>if v<0 then(v+(n:Int)).toNat else min v.toNat n
end
end HT
namespace _L
open PySem PySem.Spec PyProof.Rows
abbrev TO:=St->Hp->(Option Int->Qd)->Prop
def  PO(X:Cx)(e:Option Ke)(t:TO):Prop :=
 ∀(a:Nt (Jr×Obj))(s:JY)(b:St)(H:Hp)(Q:Option Int->Qd),Inv X a b H s->t b H Q ->
  Kc (model X.prog X.w) X.A (evalPart e X.env) (λu d=>∃o c,Inv X a b c d/\IsPart u o/\Q o c) X.xe s
def  A9:TO:=λ_ H Q=>Q Nd H
inductive zf  (Q:Option Int->Qd)(x:V)(H1:Hp):Prop
 |mk (i:_)(_:x=.int i)(_:Q (Nc i) H1):zf Q x H1
def  EJ(t:TE):TO:=λa H Q=>t a H λx b=>zf Q x b
variable{X:Cx}
section
variable{e:Ke}{te:TE}{lo hi:Option Ke}{tl th:TO}{pos p2:Pos}
def fe:PO X Nd A9:=by
 intro a s b H Q I h;rw[Lm];calc GU (Nd,H,I,.none,h,)
def fg(h:PE X e te):PO X (Nc e) (EJ te):=by
 intro a s b H Q I f;rw[evalPart_some];refine thn (h a s b H _ I f) λu k (x,j,g,c,d,)=>?_
 let(i,rfl,q):=d;let(t,rfl):=c;calc(Nc i,j,g,.int i t,q,)
def  SlR(X:Cx)(r:V->Option Int->Option Int->Hp->VK->Prop):Prop :=
 ∀(a:Nt (Jr×Obj))(s:JY)(b:St)(H:Hp)(x:V)(v d c:I1)(lo hi:Option Int)(e:Jr)(Q:VK),Inv X a b H s->RelV x v->s.heap.IsSliceOf e d c .none->IsPart d lo->IsPart c hi->r x lo hi H Q ->
  ∃T f,Ln (.type T) "__getitem__" = pure (Nc<|.builtin f)/\s.TypeIs v T/\Kc (model X.prog X.w) X.A (getItem v<|.ref e) (EP X a b Q) X.xe s
def  tSl(r:V->Option Int->Option Int->Hp->VK->Prop)(te:TE)(tl th:TO):TE:=λa H Q=>te a H λx d=>tl a d λl c=>th a c λu b=>r x l u b Q
def dI(B:SlR X r)(E:PE X e te)(C:PO X lo tl)(y:PO X hi th):PE X (.Subscript e (.Slice lo hi Nd p2) pos) (tSl r te tl th):=by
 intro a s d H Q I h;calc Subscript_<|thn (E a s d H _ I h) λv j (x,N,L,k,o,)=>?_;calc wpAny_Slice<|thn (C a j d N _ L o) λg s2 (l,M,K,t,n,)=>thn (y a s2 d M _ K n) λf c (u,i,J,p,m,)=>?_;rw[Lm];calc GU ?_;let G:Inv X a d i { c with heap:=c.heap.push { cls:=.type "slice",data:=.fields #[g,f,.none] } }:=J.kept (t':=c.toks) λb O q=>bd _ q
 let(T,P,F,z,D):=B a { c with heap:=c.heap.push { cls:=.type "slice",data:=.fields #[g,f,.none] } } d i x v g f l u ↥c Q G k (JD.IsSliceOf.new ..) t p m;show Kc (model X.prog X.w) X.A (subscriptTail e (.Slice lo hi Nd p2) v<|.ref ↥c) (EP X a d Q) X.xe { c with heap:=c.heap.push { cls:=.type "slice",data:=.fields #[g,f,.none] } };calc tail_any (ops:=[.ref ↥c,v]) z F D (by with_unfolding_all rfl)
def  nG(xs:Nt V)(lo hi:Option Int):Nt V:=(xs.drop<|HT.sIx ⇑xs 0 lo).take<|HT.sIx ⇑xs ⇑xs hi-HT.sIx ⇑xs 0 lo
def tK(xs:Nt V)(lo hi:Option Int):⇑(nG xs lo hi)<=⇑xs:=by
 unfold nG;rw[hZ,jP];lia
inductive Cq(K:am)(x:V)(y:V)(H:Hp)(Q:VK):Prop
 |mk (a b xs ys:_)(_:x=.ref a)(_:y=.ref b)(_:SqT K H a xs)(_:SqT K H b ys)(_:xs≠[])(_:⇑xs+⇑ys<=JR)(_:(ys=[]->Q (.ref a) H))(_:(ys≠[]->∀p,H p=Nd->Q (.ref p) (upd H p<|.tup<|xs++ys)))
def Vals.nil_iff(r:Vals xs us):us=[]↔xs=[]:=by
 cases r with
 |nil=>simp
 |cons _ _=>simp
def Ba:OpR X (KU .Add) (Cq X.K):=by
 intro f s B H x y v u Q I k j h;let(a,b,i,g,rfl,rfl,t,r,p,e,m,l):=h;cases k;cases j;let(A,d,n,_):=I.tuple t;let(C,c,p2,_):=I.tuple r;refine HT.cat_tup n p2 (λz=>p<|d.nil_iff.mp z) (λz=>(.ref a,H,I,U,m<|c.nil_iff.mp z,)) (λz=>?_) (by rw[←⇑d,←⇑c];exact e);calc(.ref ↥s,_,I.laid (t':=s.toks) (o:=.tup<|i++g) (λb D q=>bd _ q) (uN _) ?_,U,l (λw=>z<|c.nil_iff.mpr w) _<|I.hok.fresh<|uN _,);calc(by rw[cb];exact e,_,d.append c,IsTup.new _ _,)
end
def  ixN(n:Nat)(i:Int):Option Nat:=if 0<=i then(if i<n then Nc i.toNat else Nd)else if -(n:Int)<=i then Nc (i+n).toNat else Nd
def  atI{α:Type}(xs:Nt α)(i:Int):Option α:=(ixN ⇑xs i).bind λj=>xs[j]?
def wH(h:ixN n i=Nc j):seqIndex? i n=Nc j/\j<n/\-(n:Int)<=i/\i<n:=by
 unfold ixN at h;by_cases b:0<=i
 .rw[Nk b]at h;by_cases a:i<n
  .rw[Nk a]at h;let e:i.toNat=j:=bn h;exact(by rw[Lo b a,e],∅,∅,a,)
  .rw[Nj a]at h;cases h
 .rw[Nj b]at h;by_cases a : -(n:Int)<=i
  .rw[Nk a]at h;let e:(i+n).toNat=j:=bn h;exact(by rw[seqIndex_neg ∅ a,e],∅,a,∅,)
  .rw[Nj a]at h;cases h
def rS{α:Type}{xs:Nt α}{i:Int}{v:α}(h:atI xs i=Nc v):∃j,seqIndex? i ⇑xs=Nc j/\xs[j]?=Nc v/\j<⇑xs/\-(⇑xs:Int)<=i/\i<⇑xs:=by
 unfold atI at h;cases e:ixN ⇑xs i with
 |none=>rw[e]at h;cases h
 |some j =>
  rw[e]at h;let(d,c,b,a):=wH e;calc(j,d,h,c,b,a,)
def cx{α:Type}{xs:Nt α}{j:Nat}{v:α}(h:xs[j]?=Nc v):atI xs (j:Int)=Nc v:=by
 let a:j<⇑xs:=(JP.mp h).1;let e:ixN ⇑xs (j:Int)=Nc j:=by
  unfold ixN;rw[Nk ∅,Nk ∅];simp
 unfold atI;rw[e];calc h
def oy{α:Type}(xs:Nt α)(v:α):atI (xs++[v]) (-1)=Nc v:=by
 let a:⇑(xs++[v])=⇑xs+1:=by simp
 let e:ixN ⇑(xs++[v]) (-1)=Nc ⇑xs:=by
  unfold ixN;rw[a,Nj ⋯,Nk ∅]
  congr 1
  lia
 unfold atI;rw[e];show(xs++[v])[⇑xs]?=Nc v;simp
def  Bb(b:Ke):Prop:=∀o i,subscripted b Ng o i=operate [o,i] (getItem o i)
def  IxR(X:Cx)(r:R2):Prop :=
 ∀(value a:Ke)(b:Nt (Jr×Obj))(s:JY)(c:St)(H:Hp)(x y:V)(v u:I1)(Q:VK),Inv X b c H s->RelV x v->RelV y u->r x y H Q ->
  subscripted a Ng v u=operate [v,u] (getItem v u)->Kc (model X.prog X.w) X.A (subscriptTail value a v u) (EP X b c Q) X.xe s
def  MtR(X:Cx)(e:String)(r:V->Nt V->Hp->VK->Prop):Prop :=
 ∀(a:Nt (Jr×Obj))(s:JY)(b:St)(H:Hp)(x:V)(c:Nt V)(v:I1)(d:Nt I1)(Q:VK),Inv X a b H s->RelV x v->Vals c d->r x c H Q ->
  Kc (model X.prog X.w) X.A (call (.builtin e) (v :: d)) (EP X a b Q) X.xe s
section
variable{a b:Ke}{ta tb:TE}{pos:Pos}
def aQ(i:IxR X r)(k:PE X a ta)(j:PE X b tb)(g:Bb b):PE X (.Subscript a b pos) (tOp r ta tb):=by
 intro c s d H Q I h;calc Subscript_<|C4 k j I h λv u s2 x y m l f e q=>i a b c s2 d m x y v u Q l f e q<|g _ _
inductive De(K:am)(x:V)(y:V)(H:Hp)(Q:VK):Prop
 |mk (p xs i v:_)(_:x=.ref p)(_:y=.int i)(_:SqL K H p xs)(_:atI xs i=Nc v)(_:Q v H)
inductive Df(K:am)(x:V)(y:V)(H:Hp)(Q:VK):Prop
 |mk (p xs i v:_)(_:x=.ref p)(_:y=.int i)(_:SqT K H p xs)(_:atI xs i=Nc v)(_:Q v H)
inductive EK  (x:V)(y:V)(H:Hp)(Q:VK):Prop
 |mk (z i c:_)(_:x=.str z)(_:y=.int i)(_:⇑z<=JR)(_:atI z.cps.toList i=Nc c)(_:Q (.str ⟨#[c]⟩) H):EK x y H Q
def aP:IxR X (De X.K):=by
 intro value g a s k H x y v u Q I B A h l;let(p,L,i,z,rfl,rfl,C,E,q):=h;cases B;let(t,rfl):=A;let(f,r,c,M):=I.list C;let(j,b,J,O,G,F):=rS E;let(w,n,e):=r.get J;let D:=⇑r;let N:=kH;let fin:EP X a k Q w s:=(z,H,I,e,q,);by_cases m:0<=i
 .let d:i.toNat=j:=by
   rw[Lo m F]at b;exact bn b
  exact item_listR c.isList m ∅ (by rw[d];simpa using n) fin l
 .let d:(i+(f.toArray.size:Int)).toNat=j:=by
   rw[seqIndex_neg ∅ G]at b;rw[cM,←D];exact bn b
  exact subscriptTail_builtinR (x:=w) c.isList.typeIs Lp.lookup
   (wpAny_getItem_list_neg (Q:=λr o=>r=w/\EP X a k Q r o) c.isList ∅ (by rw[cM] <;> lia) ∅ (by rw[d];simpa using n) (U,fin,)) l
def cj:IxR X (Df X.K):=by
 intro value c a s d H x y v u Q I k g h l;let(p,E,i,z,rfl,rfl,m,o,q):=h;cases k;let(t,rfl):=g;let(D,r,e,F):=I.tuple m;let(j,B,A,M,L,J):=rS o;let(w,C,b):=r.get A;let n:=⇑r;let G:=kH;let fin:EP X a d Q w s:=(z,H,I,b,q,)
 exact subscriptTail_builtinR (x:=w) e.typeIs slot_tuple_getitem.lookup
  (getItem_tuple (j:=j) (Q:=λr f=>r=w/\EP X a d Q r f) e ∅ ∅ (by rw[cM,←n];exact B) (~~~C) (U,fin,)) l
def Dg:IxR X EK:=by
 intro value a d s w H x y v u Q I f e h g;let(z,i,c,rfl,rfl,B,l,q):=h;let(t,rfl):=f;let(A,rfl):=e;let(j,b,o,D,n,m):=rS l;let k:⇑z.cps.toList=⇑z:=by simp[Str.length]
 rw[k]at b n m;let C:=kH;exact tail_any (typeIs_str s z t) slot_str_getitem.lookup (getItem_str (c:=c) (by
  let r:decide (i < -(2^63:Int))=false:=Nn ∅;let p:decide (i ≥ 2^63)=false:=Nn ∅;rw[r,p,O7]) (by rw[b];simpa using o) (.str ⟨#[c]⟩,H,I.tok _,(_,U,),q,)) g
def vm(a:Nt I1)(n j:Nat)(u:I1):kw (·.setIfInBounds j u) { cls:=.type "list",data:=.seq a.toArray n }={ cls:=.type "list",data:=.seq (a.set j u).toArray n }:=by
 simp[kw]
def Inv.lst{b:Nt (Jr×Obj)}{c:St}{H:Hp}{s:JY}{p:Jr}{xs:Nt V}(I:Inv X b c H s)(h:H p=Nc (.lst xs)) :
  ∃(a:Nt I1)(n:Nat),Vals xs a/\s.heap.get? p=Nc { cls:=.type "list",data:=.seq a.toArray n }/\⇑xs<=JR:=by
 let(z,a,n,r,e):=I.hok p _ h;calc(a,n,r,e,z,)
def Inv.lstUpd{a:Nt (Jr×Obj)}{g:St}{H:Hp}{s:JY}{p:Jr}{xs ys:Nt V}{c its':Nt I1}{n d:Nat}{f:Obj->Obj}(I:Inv X a g H s)(h:H p=Nc (.lst xs))
  (i:s.heap.get? p=Nc { cls:=.type "list",data:=.seq c.toArray n }) (hf:f { cls:=.type "list",data:=.seq c.toArray n }={ cls:=.type "list",data:=.seq its'.toArray d }) (r:Vals ys its')(hz:⇑ys<=JR)(t:Nat) :
  Inv X a g (upd H p<|.lst ys) { s with heap:=s.heap.update p f,toks:=t }:=by
 let e:(s.heap.update p f).get? p=Nc { cls:=.type "list",data:=.seq its'.toArray d }:=by
  rw[lw f i (by rw[hf] <;> rfl),hf]
 refine I.write (x:=p) (e:=p) (by rw[h];trivial) (.inl U) (λb u j q=>(ls _ _<|IR j).trans q) (_,e,) ?_;calc(hz,its',d,r,e,)
inductive Cr  (o:V)(i:V)(v:V)(H:Hp)(Q:(Qd)):Prop
 |mk (p xs k j:_)(_:o=.ref p)(_:i=.int k)(_:H p=Nc (.lst xs))(_:ixN ⇑xs k=Nc j)(_:Q (upd H p<|.lst<|xs.set j v)):Cr o i v H Q
def set_list:Ex X Cr:=by
 intro b s y H o i v F G u Q I B C A h;let(p,z,k,j,rfl,rfl,g,E,q):=h;cases B;let(t,rfl):=C;let(a,n,r,d,D):=I.lst g;let(c,K,m,l):=wH E;let e:=⇑r;let J:=kH;let x:Inv X b y (upd H p<|.lst<|z.set j v) { s with heap:=s.heap.update p (kw (·.setIfInBounds j u)) } :=
  I.lstUpd g d (vm a n j u) (r.set A j) (by rw[List.length_set];exact D) s.toks
 by_cases w:0<=k
 .let f:k.toNat=j:=by
   rw[Lo w l]at c;exact bn c
  exact W.ki_setAt d w ∅ (by rw[cM,←e];exact l) (by rw[f];exact(_,x,q,))
 .let f:(k+(a.toArray.size:Int)).toNat=j:=by
   rw[seqIndex_neg ∅ m]at c;rw[cM,←e];exact bn c
  calc W.ki_setBack d ∅ (by rw[cM,←e];exact m) ∅ (by rw[f];exact(_,x,q,))
def rT(lo hi:Option Int)(n:Nat):(Lq lo hi Nd n).1=((HT.sIx n 0 lo:Nat):Int)/\(Lq lo hi Nd n).2.1=((HT.sIx n n hi:Nat):Int)/\(Lq lo hi Nd n).2.2=1:=by
 refine(?_,?_,U,)
 .cases lo with
  |none=>simp[Lq,HT.sIx]
  |some i =>
   simp only[Lq,HT.sIx,GJ,show(1:Int)>0 by decide,if_true];by_cases h:i<0
   .simp only[h,if_true] <;> lia
   .simp only[h,if_false] <;> lia
 .cases hi with
  |none=>simp[Lq,HT.sIx]
  |some i =>
   simp only[Lq,HT.sIx,GJ,show(1:Int)>0 by decide,if_true];by_cases h:i<0
   .simp only[h,if_true] <;> lia
   .simp only[h,if_false] <;> lia
def qi(a:Nt I1)(lo hi:Option Int):slicePick a.toArray lo hi Nd=((a.drop<|HT.sIx ⇑a 0 lo).take<|HT.sIx ⇑a ⇑a hi-HT.sIx ⇑a 0 lo).toArray:=by
 let(d,c,b):=rT lo hi a.toArray.size;unfold slicePick;rw[d,c,b];simp only[sliceRange_one,pick_run,cM] <;> rfl
inductive Dh(K:am)(x:V)(lo:Option Int)(hi:Option Int)(H:Hp)(Q:VK):Prop
 |mk (a xs:_)(_:x=.ref a)(_:SqL K H a xs)(_:∀p,H p=Nd->Q (.ref p) (upd H p<|.lst<|nG xs lo hi))
def fh:SlR X (Dh X.K):=by
 intro f s p H x v u t lo hi w Q I g m j i h;let(a,c,rfl,l,q):=h;cases g;let(n,r,e,k):=I.list l;let d:=⇑r;calc("list",_,Lp.lookup,e.isList.typeIs,?_,);refine wpAny_getItem_list_slice e.isList m j i .none (by simp) ?_ (by rw[cM] <;> lia);rw[qi,←d];calc(.ref ↥s,_,I.laid (t':=s.toks) (o:=.lst<|nG c lo hi) (λb y q=>bd _ q) (uN _) ?_,U,q _<|I.hok.fresh<|uN _,);calc(uU (tK c lo hi) k,_,0,(r.drop<|HT.sIx ⇑c 0 lo).take<|HT.sIx ⇑c ⇑c hi-HT.sIx ⇑c 0 lo,ci _ U,)
def  je:V->Bool
 | .non=>Nf
 | .bl _=>Nf
 | .int _=>Nf
 | .str _=>Nf
 |_=>Ng
def  eqV:V->V->Bool
 | .non,.non=>Nf
 | .bl a,.bl b=>a == b
 | .bl a,.int b=>(if a then 1 else 0) == b
 | .int a,.bl b=>a == (if b then 1 else 0)
 | .int a,.int b=>a == b
 | .str a,.str b=>a == b
 |_,_=>Ng
def vn(e:RelV y u)(c:RelV x v)(g:je y=Nf)(f:je x=Nf):NJ A s u v (eqV y x):=by
 cases y with
 |non =>
  cases e;cases x with
  |non=>cases c;exact NW _
  |bl b=>cases c;exact SeqAt.EqAt.none_bool b
  |int b=>obtain⟨t,rfl⟩:=c;exact SeqAt.EqAt.none_int b t
  |str b=>obtain⟨t,rfl⟩:=c;exact SeqAt.EqAt.none_str b t
  |_=>exact Nl (show Ng=Nf from f) cr
 |bl a =>
  cases e;cases x with
  |non=>cases c;exact SeqAt.EqAt.bool_none a
  |bl b=>cases c;exact SeqAt.EqAt.bool_bool a b
  |int b=>obtain⟨t,rfl⟩:=c;exact SeqAt.EqAt.bool_int a b t
  |str b=>obtain⟨t,rfl⟩:=c;exact SeqAt.EqAt.bool_str a b t
  |_=>exact Nl (show Ng=Nf from f) cr
 |int a =>
  let(d,rfl):=e;cases x with
  |non=>cases c;exact SeqAt.EqAt.int_none a d
  |bl b=>cases c;exact SeqAt.EqAt.int_bool a d b
  |int b=>obtain⟨t,rfl⟩:=c;exact SeqAt.EqAt.int_int a d b t
  |str b=>obtain⟨t,rfl⟩:=c;exact O6 a d b t
  |_=>exact Nl (show Ng=Nf from f) cr
 |str a =>
  let(d,rfl):=e;cases x with
  |non=>cases c;exact SeqAt.EqAt.str_none a d
  |bl b=>cases c;exact SeqAt.EqAt.str_bool a d b
  |int b=>obtain⟨t,rfl⟩:=c;exact O5 a d b t
  |str b=>obtain⟨t,rfl⟩:=c;exact SeqAt.EqAt.str_str a d b t
  |_=>exact Nl (show Ng=Nf from f) cr
 |_=>calc Nl (show Ng=Nf from g) cr
def aG:dq X (.builtin "len") (λxs H Q=>∃p ys,xs=[.ref p]/\(SqL X.K H p ys\/SqT X.K H p ys)/\Q (.int ⇑ys) H):=by
 intro f s j H xs k Q I r h;let(p,ys,rfl,b,q):=h;let(u,rfl,g):=vals1 r;cases g;let l:=kH;rcases b with b|b
 .let(e,c,d,i):=I.list b;let a:=⇑c;exact Calls.call_len_list d.isList (by simp only[cM] <;> lia) (.int ⇑ys,H,I.tok _,(s.toks+1,by rw[cM,a],),q,)
 .let(e,c,d,i):=I.tuple b;let a:=⇑c;exact len_tuple d (by simp only[cM] <;> lia) (.int ⇑ys,H,I.tok _,(s.toks+1,by rw[cM,a],),q,)
def rV:dq X (.builtin "len") (λxs H Q=>∃z,xs=[.str z]/\⇑z<=JR/\Q (.int ⇑z) H):=by
 intro a s b H xs c Q I r h;let(z,rfl,d,q):=h;let(u,rfl,t,rfl):=vals1 r;let e:=kH;calc len_str ∅ (.int ⇑z,H,I.tok _,(_,U,),q,)
def fM:dq X (.type "list") (λxs H Q=>∃p ys,xs=[.ref p]/\(SqL X.K H p ys\/SqT X.K H p ys)/\∀l,H l=Nd->Q (.ref l) (upd H l<|.lst ys)):=by
 intro k s z H xs B Q I r h;let(p,ys,rfl,j,q):=h;let(u,rfl,A):=vals1 r;cases A
 let fin:∀(a:Nt I1),Vals ys a->⇑ys<=JR->∀(c:JD)(f:Nat),(∀b y,s.heap.get? b=Nc y->c.get? b=Nc y) ->
   c.get? ↥s=Nc { cls:=.type "list",dict:=Nd,data:=.seq a.toArray f,slots:=#[] }->EP X k z Q (.ref ↥s) { s with heap:=c }:=λa d i c f g e =>
  (.ref ↥s,_,I.laid (t':=s.toks) g (uN _) (show cS X.prog X.w _ c _ (.lst ys) from(i,a,f,d,e,)),U,q _<|I.hok.fresh<|uN _,)
 rcases j with j|j
 .let(a,d,t,i):=I.list j;let m:=⇑d;let(o,v,x,n,hd):=t.isList;exact Ls p (.inl U) v x hd (λc f g e=>fin a d i c f g e) (by simp only[cM] <;> lia)
 .let(a,d,t,i):=I.tuple j;let m:=⇑d;let(o,v,x,n,hd):=t;exact Ls p (.inr U) v x hd (λc f g e=>fin a d i c f g e) (by simp only[cM] <;> lia)
def qj:dq X (.type "tuple") (λxs H Q=>∃p ys,xs=[.ref p]/\((SqL X.K H p ys/\∀l,H l=Nd->Q (.ref l) (upd H l<|.tup ys))\/(SqT X.K H p ys/\Q (.ref p) H))):=by
 intro a s j H xs y Q I r h;let(p,ys,rfl,h):=h;let(u,rfl,t):=vals1 r;cases t;rcases h with⟨i,q⟩|⟨i,q⟩
 .let(c,f,g,k):=I.list i;let n:=⇑f;refine call_tuple_list g.isList (λd v=>?_) (by simp only[cM] <;> lia);let m:Inv X a j H { s with heap:=d }:=I.kept (t':=s.toks) v;let x:Inv X a j (upd H d.objs.size<|.tup ys) { s with heap:=d.push { cls:=.type "tuple",data:=.seq c.toArray } } :=
   m.laid (t':=s.toks) (λb o e=>bd _ e) (uN _) (show cS X.prog X.w _ _ _ (.tup ys) from(k,c,f,IsTup.new _ _,))
  exact(.ref d.objs.size,_,x,U,q _<|m.hok.fresh<|uN _,)
 .let(c,f,g,k):=I.tuple i;calc call_tuple_same g (.ref p,H,I,U,q,)
def  tyV(K:am)(T:String)(x:V)(H:Hp):Prop:=match x with
 | .str _=>T = "str"
 | .int _=>T = "int"
 | .ref p=>(T = "list" /\ ∃b,SqL K H p b)\/(T = "tuple" /\ ∃o,K.lookup p=Nc o/\o.cls=.type "tuple" /\ o.dict=Nd) \/
   (T = "dict" /\ ((∃a,H p=Nc (.dK a))\/∃a,H p=Nc (.dT a)))\/(T = "set" /\ ∃S n,H p=Nc (.set S n))
 |_=>False
def Di{f:Nt (Jr×Obj)}{l:St}{H:Hp}{s:JY}{T:String}{x:V}{v:I1}(I:Inv X f l H s)(r:RelV x v)(ty:tyV X.K T x H) :
  s.TypeIs v T/\∀a,v=.ref a->∃k,s.heap.get? a=Nc k/\k.dict=none:=by
 cases x with
 |str z =>
  let(t,rfl):=r;cases (show T = "str" from ty);exact⟨typeIs_str s z t,λ_ e=>nomatch e⟩
 |int i =>
  let(t,rfl):=r;cases (show T = "int" from ty);exact⟨typeIs_int s i t,λ_ e=>nomatch e⟩
 |ref p =>
  cases r;rcases ty with⟨rfl,w,m⟩|⟨rfl,o,b,q,hd⟩|⟨rfl,b⟩|⟨rfl,S,n,b⟩
  .let(u,_,j,_):=I.list m;calc(j.isList.typeIs,λa e=>?_,);cases e;let(o,n,e,c,hd,_):=j;exact(o,e,hd,)
  .refine((o,I.kIn p o b,q,),λa e=>?_,);cases e;exact(o,I.kIn _ o b,hd,)
  .let z:∃o,s.heap.get? p=Nc o/\o.ExactDict:=by
    rcases b with⟨h,b⟩|⟨h,b⟩
    .let(_,_,_,_,o,_,_,e,d,_):=I.hok p _ b;exact(o,e,d,)
    .let(_,_,_,_,o,_,_,e,d,_):=I.hok p _ b;exact(o,e,d,)
   let(o,e,d):=z;calc((o,e,d.1,),λa g=>?_,);cases g;exact(o,e,d.2.1,)
  .let(o,_,_,_,e,d,_):=I.hok p _ b;calc((o,e,d.1,),λa g=>?_,);cases g;exact(o,e,d.2.1,)
 |_=>calc lf ty
def  tBM(K:am)(T:String)(r:V->Nt V->Hp->VK->Prop)(to:TE)(t:TA):TE:=λa H Q=>to a H λx b=>tyV K T x b/\t a b λc d=>r x c d Q
variable{o e:Ke}{es:Nt Ke}{to:TE}{t:TA}{name:Str}{apos j5:Pos}{T id:String}{r:V->Nt V->Hp->VK->Prop}
def jr(q:PlainAttrs T)(b:Slot T name id)(d:Lu (.builtin id)=pure (.type "method_descriptor")) (hm:MtR X id r)(w:PE X o to)(y:PA X (e :: es) t)
  (G:K5 o name X.env (eval o X.env)=eval o X.env:=by rfl)
  (E:((Kg j5<|Kh (e :: es) X.env).all (λx=>!x.1) && (Lv j5<|Lw [] X.env).all (λx=>x.1.isSome)
   && decide (⇑(e :: es)+⇑([]:Nt Keyword)+(if ([]:Nt Keyword).isEmpty then 0 else 1)<30))=true:=by rfl)
  (F:(apos.endLine == j5.line)=true:=by rfl)(u:Kh (e :: es) X.env=(Ng,eval e X.env) :: Kh es X.env:=by rfl)(J:(Kg j5<|Kh es X.env).any (·.1)=false:=by rfl) :
  PE X (.Call (.Attribute o name apos) (e :: es) [] j5) (tBM X.K T r to t):=by
 intro a s c H Q I h;calc wpAny_Call_method_late G E F U<|thn (w a s c H _ I h) λv l (x,D,i,f,ty,p,)=>?_;let(A,z):=Di i f ty;calc(T,id,q,b,d,A,z,?_,);let g:=y j5 a l c D _ i p;rw[u]at g⊢;refine Calls.callWith_builtin (by show(Ng || (Kg j5<|Kh es X.env).any (·.1))=Ng;rw[J] <;> rfl) (Pk ?_);calc thn g λk s2 (j,C,B,m,n,)=>hm a s2 c C x j v k Q B f m n
end
def  MtM(X:Cx)(e:String)(r:V->Nt V->Hp->VK->Prop):Prop :=
 ∀(a:Nt (Jr×Obj))(s:JY)(b:St)(H:Hp)(x:V)(c:Nt V)(v:I1)(d:Nt I1)(Q:VK),Inv X a b H s->RelV x v->Vals c d->r x c H Q ->
  Kc (model X.prog X.w) X.A (call (.builtin e) (v :: d)) (EP X a b Q) X.xe s
def Vals.one:∀{x:V}{us:Nt I1},Vals [x] us->∃u,us=[u]/\RelV x u:=vals1
def Vals.two:∀{x y:V}{us:Nt I1},Vals [x,y] us->∃u v,us=[u,v]/\RelV x u/\RelV y v:=vals2
section
variable{Ni:Nt (Jr×Obj)}{σ:St}{H:Hp}{s:JY}{l b:Jr}{xs ys zs:Nt V}
def Inv.lset{a its':Nt I1}{n:Nat}(I:Inv X Ni σ H s)(g:H l=Nc (.lst xs))
  (e:s.heap.get? l=Nc { cls:=.type "list",data:=.seq a.toArray n }) (hf:f a.toArray=its'.toArray)(b:Vals ys its')(hz:⇑ys<=JR) :
  Inv X Ni σ (upd H l<|.lst ys) { s with heap:=s.heap.update l<|kw f,toks:=t' }:=by
 let q:=PySem.IsL.update e f;rw[hf]at q;refine I.write (x:=l) (e:=l) (by rw[g];exact trivial) (.inl U) (λh u d c=>(ls s.heap (kw f)<|IR d).trans c) (_,q,) ?_;calc(hz,its',_,b,q,)
def Inv.lnew(I:Inv X Ni σ H s)(b:Vals ys a)(hz:⇑ys<=JR) :
  Inv X Ni σ (upd H ↥s<|.lst ys) { s with heap:=s.heap.push { cls:=.type "list",data:=.seq a.toArray },toks:=t' } :=
 I.laid (λ_ _ q=>bd _ q) (uN _) (hz,a,0,b,ci _ U,)
def Inv.fresh(I:Inv X Ni σ H s):H ↥s=none:=I.hok.fresh<|uN _
def Inv.lstM(I:Inv X Ni σ H s)(b:H l=Nc (.lst xs)):⇑xs<=JR/\∃(a:Nt I1)(n:Nat),Vals xs a/\⇑xs=⇑a/\s.heap.get? l=Nc { cls:=.type "list",data:=.seq a.toArray n }:=by
 let(z,a,n,r,e):=I.hok l _ b;calc(z,a,n,r,⇑r,e,)
def zi(h:n<=JR):Oc n=false:=by
 unfold Oc;calc Nn ∅
end
inductive wI  (x:V)(vs:Nt V)(H:Hp)(Q:VK):Prop
 |mk (l xs y:_)(_:x=.ref l)(_:vs=[y])(_:H l=Nc (.lst xs))(_:⇑xs<JR)(_:Q .non (upd H l<|.lst<|xs++[y])):wI x vs H Q
def cq:MtM X "list.append" wI:=by
 intro c s i H x k v m Q I d f h;let(l,j,y,rfl,rfl,b,o,q):=h;cases d;let(u,rfl,g):=f.one;let(z,a,n,r,p,e):=I.lstM b;refine call_meets F.slot_list_append (_,e,U,) F.entry_list_append (F.args_list_append_2 _ _) (PySem.list_append l a.toArray n u (by rw[cM];lia)) (e,?_,);refine(.non,_,I.lset (its':=a++[u]) b e (by simp) (r.append<|.cons g .nil) ?_,U,q,);rw[cb,dV];lia
inductive wJ  (x:V)(vs:Nt V)(H:Hp)(Q:VK):Prop
 |mk (l b xs zs:_)(_:x=.ref l)(_:vs=[.ref b])(_:H l=Nc (.lst xs))(_:H b=Nc (.lst zs))(_:⇑xs+⇑zs<=JR)(_:Q .non (upd H l<|.lst<|xs++zs)):wJ x vs H Q
def xG:MtM X "list.extend" wJ:=by
 intro g s A H x E v G Q I i j h;let(l,b,D,B,rfl,rfl,f,p,J,q):=h;cases i;let(u,rfl,k):=j.one;cases k;let(z,a,n,r,K,e):=I.lstM f;let(C,c,o,m,y,t):=I.lstM p;let d:a.toArray.size+c.toArray.size<=JR:=by rw[cM,cM];lia
 let w:¬ (!a.toArray.isEmpty && Oc (a.toArray.size+c.toArray.size))=true:=by
  rw[zi d,FB];exact cr
 refine call_meets F.slot_list_extend (_,e,U,) F.entry_list_extend (F.args_list_extend_2 _ _)
  (AutoSeq1.list_extend_list_list_0 l a.toArray n b c.toArray o w (by rw[cM];lia) ∅) (e,t,?_,)
 refine(.non,_,I.lset (its':=a++c) f e (by simp) (r.append m) ?_,U,q,);rw[cb];lia
inductive EO  (x:V)(y:V)(H:Hp)(Q:VK):Prop
 |mk (l b xs zs:_)(_:x=.ref l)(_:y=.ref b)(_:H l=Nc (.lst xs))(_:H b=Nc (.lst zs))(_:⇑xs+⇑zs<=JR)(_:∀p,H p=Nd->Q (.ref p) (upd H p<|.lst<|xs++zs)):EO x y H Q
def fW:OpR X (KU .Add) EO:=by
 intro d s t H x y v u Q I g f h;let(l,b,B,w,rfl,rfl,j,k,D,q):=h;cases g;cases f;let(z,a,n,r,E,e):=I.lstM j;let(A,c,C,i,p,o):=I.lstM k;refine PySem.P.add_list e o ?_ (by rw[cM,cM];lia);let m:a.toArray++c.toArray=(a++c).toArray:=by simp
 rw[m];calc(.ref _,_,I.lnew (t':=s.toks) (r.append i) (by rw[cb];lia),U,q _ I.fresh,)
section
variable{prog:Jl}{w:Je}{A:JX}{E:I1->JY->Prop}{s:JY}
end
end _L
namespace Att
open PySem PySem.W PySem.Calls PyProof.Rows
def nH:∀(c:Nt Int)(vs:Nt I1),WellAll P h vs (c.map WData.int)->IntsAre vs c:=by
 intro c;induction c with
 |nil =>
  intro vs w;rw[nk]at w;cases w;exact .nil
 |cons n c d =>
  intro vs w;rw[iO]at w;cases w with
  |cons a b =>
   cases a;calc .cons _ _<|d _ b
def xH{l:OpenLaw}{n:Nat}(u:l.most=Nc n){P:Lx}{h:JD}{args:Nt WData}{c:Nt I1}
  (k:l.row.toRowW.claim.pre args=Nf)(i:WellAll P h c args) :
  ∃a vs b,c=[io a]/\args=[WData.list (b.map WData.int)]/\h.get? a=Nc { cls:=.type "list",data:=.seq vs.toArray }/\IntsAre vs b/\⇑b<=n:=by
 let j:WShape.hasAll [] args [.list .int]=true:=(pre_splitW k).1;let m:l.pre.holds [] { args:=args }=true:=(pre_splitW k).2;let(d,r,rfl,x,w):=hasAllW_cons j;obtain rfl:=hasAllW_nil w;let(z,rfl,v):=hasW_list x;let(b,rfl):=items_int v;let e:⇑b<=n:=by
  unfold OpenLaw.pre at m;let g:(WTm.not<|.lt (.lit<|.int (n:Int))<|.len<|.arg 0).holds [] { args:=[.list (b.map .int)] }=true:=by
   let g:=(holds_andW m).1;rw[u]at g;exact g
  let f:=condW_of g<|w_not<|w_lt w_lit<|w_len_list<|w_arg rfl;rw[af]at f;refine Bo λq=>?_
  let s:(n:Int)<((⇑b:Nat):Int):=∅
  first
   |(rw[Nm s]at f;exact Nl f ⋯)
   |(simp at f;lia)
 cases i with
 |cons p o =>
  cases o;cases p with
  |list t y=>calc(_,_,b,rfl,rfl,t,nH b _ y,e,)
def xI(l:OpenLaw)(args:Nt WData):l.row.toRowW.claim.post args (.bool Nf) args=true :=
 postW_of (r:=l.row.toRowW) (X:=(Nf == Nf))
  (show WShape.has [] (.bool Nf) .bool=Nf by first|rfl|decide|simp[WShape.has,WShape.arms,WShape.armsAll])
  (show(WTm.eq .res<|.lit<|.bool Nf).value [] { args:=args,res:=Nc<|.bool Nf,after:=args }=Nc (.bool<|Nf == Nf)from w_eq_bool (w_res rfl) w_lit) rfl
def attach_call{l:OpenLaw}{n:Nat}{q:Jl}{e:Nt Str}{XP:(Str->Option I1)->JD->Prop}{x:Je->JD->Prop}{d:DefRec}
  (D:l.most=Nc n)(t:d.params.defaults=[])
  (call:∀(w:Je)(c b:JY)(mg m:Str->Option I1)(h:Jr)(o:Obj)(pm k doc:I1)(a:Jr)(vs:Nt I1)(j:Nt Int),
   Ground q e [] XP w c mg m b.heap->x w b.heap ->
   b.heap.get? h=Nc o->o.data=.func (docDef d.name d.params d.body d.scope pm k doc)->b.heap.CodeRec k d.name->mg d.name=↑h ->
   b.heap.get? a=Nc { cls:=.type "list",data:=.seq vs.toArray }->IntsAre vs j->⇑j<=n->b.gens = #[] ->
   K4 (model l.prog w) Ly (.call (.ref h) ([.ref a],[],)) (λr s'=>r=.ok (.ret<|.bool Nf)/\OldK b.heap s'.heap/\s'.os=b.os/\AllBare s'.gens) b) :
  WalkO q e XP x l.row.toRowW d [] (λf vs=>PySem.call f vs):=by
 intro w c b mg m G Y h o pm k doc K kV C hd u v s F z y O A P M p N;obtain rfl:K=.none:=Dflts.none v t;obtain rfl:kV=.none:=Dflts.noKw v;let(a,vs,j,rfl,rfl,L,g,i):=xH D A p;calc enter_call<|Ld (call w c b mg m h o pm k doc a vs j G Y C (fd_plain hd) u s L g i F) λr s' B=>?_;let(rfl,J,I,H):=B;calc(.inl ⟨.bool Nf,.bool Nf,[],rfl,λ_=>rfl,.bool Nf,xI l _,λ_=>⟨N8,λ_ E=>(nomatch E)⟩⟩,J,I,H,)
section
variable{prog:Jl}{w:Je}{A:JX}{E:I1->JY->Prop}{s:JY}{K:Frag}
end
end Att
namespace _L
open PySem PySem.Spec PyProof.Rows
def qY:∀{vs:Nt I1}{a:Nt Int},IntsAre vs a->Vals (a.map pi) vs
 |_,_,.nil=>.nil
 |_,_,.cons n t h=>.cons (t,U,)<|qY h
def  Jm(H:Hp):Prop:=∀b,H b=Nd\/∃o a,H b=Nc (.frz o<|.lst a)
def  inClass(s:Ki)(j:Nat):Ki:=match s with
 | .ClassDef _ _ _ body _ _ _ _ _ _ _=>body.getD j<|.Pass (0,0,0,0,)
 |_=>.Pass (0,0,0,0,)
def  iR(s:Ki):Li:=match s with
 | .FunctionDef _ a _ _ _ _ _ _ _ _=>a
 |_=>{ posonlyargs:=[],args:=[],vararg:=Nd,kwonlyargs:=[],kw_defaults:=[],kwarg:=Nd,defaults:=[] }
def  cK(s:Ki):Nt Ki:=match s with
 | .FunctionDef _ _ b _ _ _ _ _ _ _=>b
 |_=>[]
def  ao(s:Ki):JZ:=match s with
 | .FunctionDef _ _ _ _ _ _ sc _ _ _=>sc
 |_=>{ kind:=.function,names:=[],isGenerator:=Ng,isCoroutine:=Ng }
abbrev CX0:CXT:=λ_ _ _ _ _ _=>False
abbrev E0:XK:=λ_ _ _=>False
def bC:Passes CX0 X E0:=λ_ _ _ _ _ _ _ h=>h.elim
structure Fun(K:am)(x qual:Str)(st:Ki)(f:Jr)(fd:K9):Prop where
 ex:∃(oc:I1)(od:Option Jr)(kV doc pm:I1)(an:Option Jr)(cdv ct:I1)(osl:Array (Option I1)),
  fd=Pa x qual (iR st) (cK st) (ao st) .none kV doc pm an cdv ct/\K.lookup f=Nc (oc,od,.func fd,osl,)/\P0 K cdv qual=Nf
 kp:GE K (.ref f)=Nf
section
variable{P:Jl}{w:Je}{K:am}{mg:Str->Option I1}{base:JD}
def Fun.ok{x qual:Str}{st:Ki}{f:Jr}(F:Fun K x qual st f e)(S:ar N ps (ao st))(len:∀vs H Q E,sp vs H Q E->⇑vs=⇑ps)
  (j:∀(b:I1)(A:JX)(a:Nt Env)(s:JY)(H:Hp)(vs:Nt V)(Q:VK)(E:XK),bV k (A.deeper<|envOfC qual (ao st) ↥s f b)->sp vs H Q E ->
   ∃t,PSs (br CX0 P w K mg base N qual (ao st) f b A a s H E).nox (cK st) t/\t { nx:=λ_ H'=>Q .non H',rt:=Q } (start N vs) H):aL P w K mg base CX0 (k+1) f e ps sp:=by
 let(p,o,kV,m,n,u,b,r,l,rfl,g,d):=F.ex;refine ze g d S len λA a s H vs Q E i c=>?_
 let(t,h,q):=j b A a s H vs Q E i c;calc(t,h.nox,q,)
def Fun.binds{x qual:Str}{st:Ki}(F:Fun K x qual st f d)
  (h:∀(kV doc pm:I1)(c:Option Jr)(a b:I1)(us:Nt I1),⇑us=⇑ps->Lb (Pa x qual (iR st) (cK st) (ao st) .none kV doc pm c a b) (us,[],)=pure (ps.zip us)):Binds K d ps []:=by
 let(j,i,kV,doc,pm,c,a,b,e,rfl,k,g):=F.ex;calc .all<|h kV doc pm c a b
def fun_mk{x qual:Str}{st:Ki}{f:Jr}{h:I1}{g e:Option Jr}{b:Array (Option I1)}{kV doc pm a d:I1}(l:K.lookup f=Nc (h,g,.func<|Pa x qual (iR st) (cK st) (ao st) .none kV doc pm e a d,b,))
  (c:P0 K a qual=Nf)(k:GE K (.ref f)=Nf):Fun K x qual st f (Pa x qual (iR st) (cK st) (ao st) .none kV doc pm e a d):=((h,g,kV,doc,pm,e,a,d,b,U,l,c,),k,)
end
def aC(h:n<=1000):n<JR:=wu h ⋯
variable{X:Cx}
def pv(i:Nat){x:Str}{pos:Pos}(c:X.N[i]?=Nc x:=by rfl)(b:Vis X.env.scope x:=by first|exact bv U|exact v6 (bv U)|exact v6 (v6 U))(hd:(x == ("__debug__" : Str))=false:=by decide)
  (a:(x == ("__classdict__" : Str))=false:=by decide):PE X (.Name x pos) (qg i):=uX c b hd a
def bJ{A B:Prop}(h:B):if Ng=Nf then A else B:=by
 rw[Nj cr];calc h
def dh{A B:Prop}(h:A):if Nf=Nf then A else B:=by
 rw[Nk U];calc h
def bM{c A B:Prop} [Decidable c] (b:c->A)(a:¬ c->B):if c then A else B:=by
 by_cases h:c
 .rw[Nk h];exact b h
 .rw[Nj h];calc a h
def ER{c A B:Prop} [Decidable c] (a:c)(h:B):if (!decide c)=Nf then A else B:=by
 rw[Nm a];calc bJ h
def  au(H H':Hp):Prop:=∀b o,H b=Nc o->H' b=Nc o
def au.refl(H:Hp):au H H:=λ_ _ h=>h
def au.trans{H e d:Hp}(a:au H e)(b:au e d):au H d:=λc o h=>b c o<|a c o h
def au.free(e:au H H')(h:H' l=Option.none):H l=Option.none:=by
 cases q:H l with
 |none=>rfl
 |some o =>
  rw[e l o q]at h;cases h
def au.seq{K:am}{H H':Hp}(e:au H H')(h:SqL K H a xs):SqL K H' a xs:=by
 rcases h with(h|⟨o,h⟩)|h
 .exact .inl<|.inl<|e _ _ h
 .exact .inl<|.inr (o,e _ _ h,)
 .exact .inr h
abbrev Pr:=Int×Int
def  inR(n:Int)(p:Pr):Bool:=Nh (p.1<=n) && decide (n<=p.2)
def  inP(ps:Nt Pr)(n:Int):Bool:=ps.any<|inR n
structure Apart(R:Nt Pr):Prop where
 le:∀p∈R,p.1<=p.2
 gap:R.Pairwise λp q=>p.2+2<=q.1
structure Jn(R qs:Nt Pr):Prop where
 ap:Apart R
 mem:∀n,inP R n=inP qs n
 cov:∀p∈qs,p.1<=p.2->∃r∈R,r.1<=p.1/\p.2<=r.2
 low:∀r∈R,∃q∈qs,r.1=q.1
def  Callee(P:Jl)(w:Je)(K:am)(mg:Str->Option I1)(base:JD)(k:Nat)(x:Str)(ps:Nt Str)(sp:Sp):Prop :=
 ∃f a,aL P w K mg base CX0 k f a ps sp/\Binds K a ps []/\GE K (.ref f)=Nf/\mg x=↑f
def Callee.mono{P:Jl}{w:Je}{K:am}{mg:Str->Option I1}{base:JD}{j k:Nat}{x:Str}{ps:Nt Str}{sp:Sp}(C:Callee P w K mg base j x ps sp)(h:j<=k):Callee P w K mg base k x ps sp:=by
 let(f,a,F,r):=C;calc(f,a,F.mono h,r,)
variable{pos:Pos}
section
variable{k:Nat}{x:Str}{ps:Nt Str}{sp:Sp}{e:Ke}{es:Nt Ke}{t:TA}{p:Pos}
def  tFn(sp:Sp)(t:TA):TE:=λa H Q=>t a H λb c=>sp b c Q E0
def aM(C:Callee X.prog X.w X.K X.mg X.base k x ps sp)(o:bV k X.A)(r:Gl X x)(u:PA X (e :: es) t)(j:(x == ("__debug__" : Str))=false:=by decide)
  (he:Kh (e :: es) X.env=(Ng,eval e X.env) :: Kh es X.env:=by rfl)(i:(Kg pos<|Kh es X.env).any (·.1)=false:=by rfl):PE X (.Call (.Name x p) (e :: es) [] pos) (tFn sp t):=by
 let(f,y,F,b,n,m):=C;let h:=A7 (E:=E0) (dvs:=[]) (ds:=[]) (p:=p) F o r m n b .nil bC u j he i;intro d s g H Q I q;calc h d s g H Q I ?_;let l:t g H λa c=>sp a c Q E0:=q
 let v:(λ(a:Nt V)(c:Hp)=>sp (a++[]) c Q E0)=λa c=>sp a c Q E0:=by
  funext a c
  rw[ik]
 show t g H λa c=>sp (a++[]) c Q E0
 rw[v];calc l
end
def  bY(t u:TS):TS:=λD c H=>∃M:Qc,t { D with nx:=M } c H/\∀a b,M a b->u D a b
def aJ{X:Cx}{st:Ki}{rest:Nt Ki}{t u:TS}(i:PS X st t)(h:PSs X rest u):PSs X (st :: rest) (bY t u):=by
 intro c s f H D I (M,a,b,);calc Kq<|thn (i c s f H { D with nx:=M } I a) λfl g q=>?_;cases fl with
 |next=>obtain⟨d,e,j,q⟩:=q;exact h c g d e D j<|b d e q
 |ret v=>exact q
 |brk=>exact q
 |cont=>calc q
inductive EqI(K:am)(H:Hp):V->V->Bool->Prop where
 |flat {x y:V}(fx:je x=Nf)(fy:je y=Nf):EqI K H x y (eqV x y)
 |same (a:Jr):EqI K H (.ref a) (.ref a) Nf
 |tup {a b:Jr}{xs ys:Nt V}(ha:SqT K H a xs)(hb:SqT K H b ys)(fx:xs.all je=Nf)(fy:ys.all je=Nf):EqI K H (.ref a) (.ref b) (Nh (⇑xs=⇑ys) && (im eqV xs ys).all id)
def zj:∀{x:V},je x=Nf->eqV x x=Nf
 | .non,_=>rfl
 | .bl b,_=>beq_self_eq_true b
 | .int i,_=>beq_self_eq_true i
 | .str z,_=>beq_self_eq_true z
def oz:∀{xs:Nt V},xs.all je=Nf->(im eqV xs xs).all id=Nf
 | [],_=>rfl
 |x :: xs,h=>by
  rw[ny,EY]at h;rw[N5,ny,oz h.2,O8];calc zj h.1
def kn:∀{xs ys:Nt V},(∀j x y,xs[j]?=Nc x->ys[j]?=Nc y->f j=eqV x y)->(db<|min ⇑xs ⇑ys).all f=(im eqV xs ys).all id
 | [],ys,_=>by simp
 |x :: xs,[],_=>by simp
 |x :: xs,y :: ys,h=>by
  let c:=kn (f:=λj=>f<|j+1) (xs:=xs) (ys:=ys) λj a b g e=>h (j+1) a b (~~~g)<|~~~e
  let i:=h 0 x y U U;let d:min ⇑(x :: xs) ⇑(y :: ys)=min ⇑xs ⇑ys+1:=by simp only[gE];lia
  rw[d,nE,ny,N5,ny,List.all_map,i];show(eqV x y && (db<|min ⇑xs ⇑ys).all (λj=>f<|j+1))=_;rw[c];rfl
section
variable{Ni:Nt (Jr×Obj)}{σ:St}{H:Hp}{s:JY}
def EqI.at{A:JX}{x y:V}{u v:I1}{b:Bool}(e:EqI X.K H x y b)(I:Inv X Ni σ H s)(W:A.units+1<K7)(l:RelV x u)(k:RelV y v):NJ A s u v b:=by
 cases e with
 |flat i m=>exact vn l k i m
 |same a =>
  cases (show u=io a from l);cases (show v=io a from k);exact NW _
 | @tup a b xs ys ha hb i m =>
  cases (show u=io a from l);cases (show v=io b from k);by_cases z:a=b
  .subst z;let e:=I.tuple_inj ha hb;subst e;rw[oz i,Nm U];exact NW _
  .let(d,r,p,_):=I.tuple ha;let(c,q,D,_):=I.tuple hb;let F:=⇑r;let E:=⇑q;let M:=Od (A:=A) (e:=λj=>match d[j]?,xs[j]?,ys[j]? with|_,Nc x,Nc y=>eqV x y|_,_,_=>Ng) (show s.heap.IsTuple a d.toArray from p) (show s.heap.IsTuple b c.toArray from D) ∅ (λj f L=>by
    let J:j<⇑d:= ~~~f
    let G:j<⇑c:= ~~~L
    let o:xs[j]?=Nc xs[j]:=JO ∅;let n:ys[j]?=Nc ys[j]:=JO ∅;let(w,h,C):=r.get o;let(t,g,B):=q.get n;let Q:d.toArray[j]=w:=by
     have:=JO J;rw[this]at h;simpa using bn h
    let P:c.toArray[j]=t:=by
     have:=JO G;rw[this]at g;simpa using bn g
    rw[Q,P];rw[o,n];let O:je xs[j]=true:=jF.mp i _<|NB _;let N:je ys[j]=true:=jF.mp m _<|NB _;exact vn C B O N)
   let f:=Go z M;let T:((db<|min d.toArray.size c.toArray.size).all λj=>match d[j]?,xs[j]?,ys[j]? with|_,Nc x,Nc y=>eqV x y|_,_,_=>Ng)=(im eqV xs ys).all id:=by
    let R:min d.toArray.size c.toArray.size=min ⇑xs ⇑ys:=by simp only[cM];lia
    rw[R];exact kn λj x y h g=>by rw[h,g]
   rw[T]at f;let S:(d.toArray.size == c.toArray.size)=Nh (⇑xs=⇑ys):=by
    simp only[cM,←F,←E];exact Bool.beq_eq_decide_eq _ _
   rw[S,Bool.and_comm]at f;calc f
end
inductive Dl(K:am)(neg:Bool)(x:V)(y:V)(H:Hp)(Q:VK):Prop
 |mk (a b xs ys:_)(_:x=.ref a)(_:y=.ref b)(_:SqL K H a xs)(_:SqL K H b ys)(_:((⇑xs≠⇑ys/\Q (.bl neg) H)\/(⇑xs=⇑ys/\∃f:Nat->Bool,(∀j x y,xs[j]?=Nc x->ys[j]?=Nc y->EqI K H x y (f j))/\Q (.bl (if neg then !(db ⇑xs).all f else(db ⇑xs).all f)) H)))
def vp{b:Nt (Jr×Obj)}{l:St}{H:Hp}{s:JY}{A:JX}{xs ys:Nt V}{a its':Nt I1}{f:Nat->Bool}(I:Inv X b l H s)(u:A.units+1<K7)(r:Vals xs a)(e:Vals ys its')
  (hf:∀j x y,xs[j]?=Nc x->ys[j]?=Nc y->EqI X.K H x y (f j)):∀j (k:j<a.toArray.size)(i:j<its'.toArray.size),NJ A s a.toArray[j] its'.toArray[j] (f j):=λj k i=>by
 let t:j<⇑a:= ~~~k
 let q:j<⇑its':= ~~~i
 let B:=⇑r;let z:=⇑e;let d:xs[j]?=Nc xs[j]:=JO ∅;let c:ys[j]?=Nc ys[j]:=JO ∅;let(n,h,p):=r.get d;let(m,g,o):=e.get c;let w:a.toArray[j]=n:=by
  let:=JO t;rw[this]at h;simpa using bn h
 let v:its'.toArray[j]=m:=by
  let:=JO q;rw[this]at g;simpa using bn g
 rw[w,v];calc(hf j _ _ d c).at I u p o
def zk(o:bV k X.A):OpR X (KY .Eq) (Dl X.K Ng):=by
 intro i s B H x y v u Q I n m h;let(a,b,l,C,rfl,rfl,z,w,h):=h;cases (show v=io a from n);cases (show u=io b from m);let(c,r,p,_):=I.list z;let(j,d,g,_):=I.list w;let E:=⇑r;let D:=⇑d;let F:=o.units;rcases h with⟨G,q⟩|⟨J,f,t,q⟩
 .refine O4 p.isList g.isList (by simp only[cM,bne_iff_ne,ne_eq];lia) ∅ (.bl Ng,H,I,U,q,)
 .refine SeqAt.eq_listAt (e:=f) p.isList g.isList (by simp only[cM];lia) ∅ (vp I (by show X.A.units+1+1<K7;lia) r d t) (.bl _,H,I,U,?_,);rw[show c.toArray.size=⇑l by simp only[cM];lia];calc q
def  cc(H H':Hp):Prop:=∀b a,H b=Nc (.tup a)->H' b=Nc (.tup a)
def au.tups(h:au H H'):cc H H':=λb a e=>h b _ e
def cc.trans{H g f:Hp}(a:cc H g)(b:cc g f):cc H f:=λc d e=>b c d<|a c d e
def qZ(h:H p=Nd):cc H (upd H p o):=λb a e=>by rw[aw (aW e h)];calc e
def ba(h:H p=Nc (.lst ys)):cc H (upd H p o):=λb a e=>by rw[aw (kl e h (by intro z;cases z))];calc e
def ai(h:H p=Nd)(o:HO):au H (upd H p o):=λb u q=>by rw[aw (aW q h)];calc q
def au.upd(s:au H H')(h:H p=Nd):au H (upd H' p o):=λb u q=>by rw[aw (aW q h)];calc s b u q
def  PL(H:Hp):Nt V->Nt (Int×Int)->Prop:=Paired λx p=>∃r,x=.ref r/\H r=Nc (.tup [.int p.1,.int p.2])
def PL.mono{H H':Hp}{xs:Nt V}{ps:Nt (Int×Int)}(h:PL H xs ps)(s:cc H H'):PL H' xs ps:=Paired.mapP h λ_ _ (r,e,z,)=>(r,e,s r _ z,)
def PL.get:∀{xs:Nt V}{ps:Nt (Int×Int)}{i:Nat}{x:V},PL H xs ps->xs[i]?=Nc x->∃p r,ps[i]?=Nc p/\x=.ref r/\H r=Nc (.tup [.int p.1,.int p.2])
 |_,_,_,_,.nil,e=>by simp at e
 |_,_,0,_,.cons (b:=b) (r,e1,z,) _,e=>by simp at e;subst e;exact(b,r,U,e1,z,)
 |_,_,i+1,x,.cons _ t,e=>by
  let(p,r,q):=PL.get (i:=i) (x:=x) t<|~~~e;calc(p,r,~~~q.1,q.2,)
def PL.length(h:PL H xs ps):⇑xs=⇑ps:=Paired.length h
def PL.snoc{H:Hp}{xs:Nt V}{ps:Nt (Int×Int)}{r:Jr}{a b:Int}(h:PL H xs ps)(e:H r=Nc (.tup [.int a,.int b])):PL H (xs++[.ref r]) (ps++[(a,b)]):=Paired.snoc h (r,U,e,)
def PL.app{H:Hp}{xs ys:Nt V}{ps a:Nt (Int×Int)}(h:PL H xs ps)(h':PL H ys a):PL H (xs++ys) (ps++a):=by
 induction h with
 |nil=>exact h'
 |cons r t b=>calc .cons r b
abbrev Tr:=Int×Int×Int
def  TL(H:Hp):Nt V->Nt Tr->Prop:=Paired λx t=>∃r,x=.ref r/\H r=Nc (.tup [.int t.1,.int t.2.1,.int t.2.2])
def ko{ps:Nt (Int×Int)}{i:Nat}(e:ps[i]?=Nc p)(h:(ps.take i).any f=Ng)(a:f p=Ng):(ps.take<|i+1).any f=false:=by
 rw[lJ,e,List.any_append,h];simp[a]
def vq{ps:Nt (Int×Int)}{i:Nat}(e:ps[i]?=Nc p)(a:f p=Nf):ps.any f=true:=pA.mpr (p,JQ e,a,)
def kq [Decidable p] (h:decide p=Nf):p:=Np h
def kr [Decidable p] (h:¬ decide p=Nf):¬ p:=λe=>h<|Nm e
def oA{K:am}(h:X.K=K):IxR X (De K):=h ▸ aP
def lL{K:am}(h:X.K=K):IxR X (Df K):=h ▸ cj
def  bN(X:Cx)(N:Nt Str)(scope:JZ)(cl:Nt (Str×Jr))(a:Nt Jr)(C:Jr)(s2:JY)(b:Hp):Cx :=
 { prog:=X.prog,w:=X.w,K:=X.K,mg:=X.mg,base:=X.base,A:=X.A,N:=N,s₀:=s2,H₀:=b,env:=Lz scope cl C X.env,outer:=X.stack,stack:=X.stack,ex:=a,fn:=λ_=>Ng,calm:=X.calm,pn:=[],xe:=λ_ _=>False }
def  PIf(X:Cx)(d:Nt Ke)(t:TT):Prop :=
 ∀(a:Nt (Jr×Obj))(s:JY)(b:St)(H:Hp)(Q:Bool->Qd),Inv X a b H s->t b H Q ->
  Kc (model X.prog X.w) X.A (forIn d Nf λc r=>if r=Nf then do let ok ←Kf c X.env (eval c X.env);pure (NA ok)else pure (NA r)) (TP X a b Q) X.xe s
def  Gp:TT:=λ_ H Q=>Q Nf H
def cG:PIf X [] Gp:=λ_ _ _ H _ I h=>wpAny_tests_nil (H,I,h,)
def jQ(h:PT X c t):PIf X [c] t:=λa s b H Q I q=>wpAny_tests_one<|h a s b H Q I q
structure tL(X:Cx)(N:Nt Str)(fr:Nt Nat)(scope:JZ)(cl:Nt (Str×Jr))(x:Str):Prop where
 clos:LA scope X.env=pure cl
 kind:scope.kind=.function
 nocell:∀y∈scope.names,y.2≠.cell
 names:∀y∈scope.names,y.2=.local->scope.names.lookup y.1=Nc .local
 hx:scope.names.lookup x=Nc .local
 nd:N.Nodup
 n0:N[0]?=Nc x
 len:N.length=⇑fr+1
 sub:∀(i:Nat)(y:Str),N[i+1]?=Nc y->∃j,fr[i]?=Nc j/\X.N[j]?=Nc y/\(X.env.kindOf y=Nc .cell\/X.env.kindOf y=Nc .free)/\((relabel scope X.env).names.lookup y=Nc .cell\/(relabel scope X.env).names.lookup y=Nc .free)
 cells:∀y c,cl.lookup y=Nc c->X.env.cells.lookup y=Nc c
 has:∀y,((relabel scope X.env).names.lookup y=Nc .cell\/(relabel scope X.env).names.lookup y=Nc .free)->∃c,cl.lookup y=Nc c
def gM(kind:scope.kind=.function)(a:∀y∈scope.names,y.2≠.free)(b:∀y∈scope.names,y.2≠.cell)
  (names:∀y∈scope.names,y.2=.local->scope.names.lookup y.1=Nc .local)(f:scope.names.lookup x=Nc .local):tL X [x] [] scope [] x:=by
 let g:(relabel scope X.env).names=scope.names:=map_eq_self λy d=>by
  let z:(y.2 == Le.free)=false:= ~~~a y d
  simp[z]
 let no:∀y,¬ ((relabel scope X.env).names.lookup y=Nc .cell\/(relabel scope X.env).names.lookup y=Nc .free):=λy h=>by
  rw[g]at h;rcases h with h|h
  .exact b _ (mem_of_lookup h) U
  .exact a _ (mem_of_lookup h) U
 calc(LB a,kind,b,names,f,by simp,U,U,λi y e=>by simp at e,(λy c e=>by cases e),λy h=>Nl h<|no y,)
def dQ{X:Cx}{N:Nt Str}{fr:Nt Nat}{scope:JZ}{cl:Nt (Str×Jr)}{x:Str}(clos:LA scope X.env=pure cl)(kind:scope.kind=.function)(a:∀y∈scope.names,y.2≠.cell)
  (names:∀y∈scope.names,y.2=.local->scope.names.lookup y.1=Nc .local)(g:scope.names.lookup x=Nc .local)(d:N.Nodup)(f:N[0]?=Nc x)(len:N.length=⇑fr+1)
  (sub:((db ⇑fr).all λi=>match N[i+1]?,fr[i]? with|some y,Nc j=>(X.N[j]? == Nc y) && ((X.env.kindOf y == Nc .cell) && ((relabel scope X.env).names.lookup y == Nc .cell))|_,_=>Ng)=Nf)
  (cells:∀p∈cl,X.env.cells.lookup p.1=Nc p.2)(b:((relabel scope X.env).names.all λp=>(p.2 != .cell && p.2 != .free) || (cl.lookup p.1).isSome)=Nf):tL X N fr scope cl x:=by
 refine(clos,kind,a,names,g,d,f,len,λi y e=>?_,λy c e=>cells _<|mem_of_lookup e,λy h=>?_,)
 .let hi:i<⇑fr:=by have:=(JP.mp e).1;lia
  let z:=jF.mp sub i<|hE.mpr hi;rw[e,JO hi]at z;simp only[EY,beq_iff_eq]at z;exact(_,JO hi,z.1,.inl z.2.1,.inl z.2.2,)
 .let look:∀k,(relabel scope X.env).names.lookup y=Nc k->(k=.cell\/k=.free)->∃c,cl.lookup y=Nc c:=λk e l=>by
   let z:=jF.mp b _<|mem_of_lookup e;rcases l with rfl|rfl
   .exact Gz.mp<|~~~z
   .exact Gz.mp<|~~~z
  rcases h with h|h
  .exact look _ h<|.inl U
  .exact look _ h<|.inr U
def  fY(a:St)(fr:Nt Nat)(x:Option V):St:=x :: fr.map λj=>(a[j]?).join
def  oB(J:It)(fr:Nt Nat)(tt:TT)(j:TE)(d:St)(Q:VK)(g:Hp):Prop:=∀D,g D=Nd->∃W:Nat->Nat->Qd,(∃m,W 0 m<|upd g D<|.lst [])/\∀i m H,W i m H ->
 (J.stop i H/\Q (.ref D) H)\/(J.go i H/\∀x h,J.yld i H x h->tt (fY d fr<|Nc x) h λb f=>if b=Nf then j (fY d fr<|Nc x) f λy e=>∃c,e D=Nc (.lst c)/\⇑c<JR/\∃a,a<m/\W (i+1) a (upd e D<|.lst<|c++[y])
  else ∃a,a<m/\W (i+1) a f)
def  Cs(b:TI)(fr:Nt Nat)(tt:TT)(c:TE):TE:=λa H Q=>b a H λJ d=>oB J fr tt c a Q d
section
variable{prog:Jl}{w:Je}{A:JX}{R:K3->JY->Prop}{s:JY}
def oC{f a d:Ke}{e:Nt Ke}{scope:JZ}{pos:Pos}{it g:I1}{b:Env}(J:Nat->JY->Prop)
  (turn:∀n s,J n s->Kc (model prog w) A (KA it) (λr j=>match r with
   |none=>R (.ok .next) j
   |some v=>Kc (model prog w) A (KC a it v) (λ_ s2=>Kc (model prog w) A (assign a b v) (λ_ o =>
     Kc (model prog w) A (forIn e Nf λc r=>if r=Nf then do let ok ←Kf c b (eval c b);pure (NA ok)else pure (NA r)) (λok i =>
      if ok=Nf then Kc (model prog w) A (eval f b) (λy l=>Kc (model prog w) A (call (.builtin "list.append") [g,y]) (λ_ k=>∃m,m<n/\J m k) (λ_ _=>False) l) (λ_ _=>False) i
      else ∃m,m<n/\J m i) (λ_ _=>False) o) (λ_ _=>False) s2) (λ_ _=>False) j) (λ_ _=>False) s)
  (n:Nat)(h:J n s):K4 (model prog w) A (.compLoop (.ListComp f [(a,d,e,0,)] scope pos) 0 it g b) R s:=by
 calc codeAny_loop U J (λn s t=>?_) n h;show Kc _ A ((compTurn (.ListComp f [(a,d,e,0,)] scope pos) 0 it g b).onRaise (λx=>do LC x b;theTreesLotGoes x)) _ _ s;calc wpAny_noted ?_;rw[compTurn_list];calc GS<|Kw<|GS<|Kj (turn n s t) (λr j q=>?_) λ_ _ z=>z.elim;cases r with
 |none=>exact GU q
 |some v =>
  calc GS<|Kj q (λ_ s2 D=>?_) λ_ _ z=>z.elim;calc GS<|Kj D (λ_ o C=>GS<|Kj C (λok i p=>?_) λ_ _ z=>z.elim) λ_ _ z=>z.elim;cases ok with
  |false=>exact GU (U,p,)
  |true=>calc GS (GS<|Kj p (λy l B=>GS<|Kj B (λ_ k u=>GU<|GU (U,u,)) λ_ _ z=>z.elim) λ_ _ z=>z.elim)
end
variable{fr:Nt Nat}{tt:TT}{te:TE}
section
variable{elt iter:Ke}{ifs:Nt Ke}{x:Str}{px:Pos}{scope:JZ}{cl:Nt (Str×Jr)}{N:Nt Str}
def q8{F:Nt (Jr×Obj)}{q:St}{s2:JY}{h:Hp}{it:Jr}{f:Nt Jr}{tn:Nat->JD->Prop}{J:It}{Q:VK}{E:I1->JY->Prop}{RR:I1->Jr->K3->JY->Prop}
  (O:tL X N fr scope cl x)(hc:X.calm=Nf)(g:Inv X F q h s2)(T:Turn X.prog X.w X.K (.Name x px) J f it tn)(a0:tn 0 s2.heap)(I:∀b∈f,mD X F h b)
  (ht:∀f C s H,PIf (bN X N scope cl f C s H) ifs tt)(he:∀f C s H,PE (bN X N scope cl f C s H) elt te)
  (hW:oB J fr tt te q Q h)
  (fin:∀D C s' H',↥s2<=C->H' C=Nd->(∃m,s'.heap.Ns C m)->Inv X F q H' s'->Q (.ref D) H'->RR (.ref D) C (.ok .next) s') :
  Kc (model X.prog X.w) X.A (LD []) (λa6 s3=>Kc (model X.prog X.w) X.A (LF scope X.env.globals cl [] X.env.qual Nd .none (Nc X.env)) (λzl s4 =>
   K4 (model X.prog X.w) X.A (.compStart (.ListComp elt [(.Name x px,iter,ifs,0,)] scope pos) 0 (.ref it) a6 { zl with scope:=relabel scope X.env }) (RR a6 zl.locals) s4) E s3) E s2:=by
 refine LG (LH O.nocell (by intro y hy;simp at hy) (λh1 a1 M=>?_) O.kind);dsimp only at a1 M⊢;generalize hG:s2.heap.push { cls:=.type "list",dict:=Nd,data:=.seq ([]:Nt I1).toArray }=G at a1 M⊢;let hC:G.objs.size=↥s2+1:=by rw[←hG,lv]
 let B:∀b o,s2.heap.get? b=Nc o->h1.get? b=Nc o:=λb o e=>M.extBut b o (uR (by rw[hC];exact vr (bi e))) (bd _<|hG ▸ bd _ e)
 let oE:h1.get? ↥s2=Nc { cls:=.type "list",data:=.seq ([]:Nt I1).toArray 0 }:=M.extBut _ _ (uR (by rw[hC];exact wm _)) (bd _<|hG ▸ ci _ U);let hD:h ↥s2=none:=g.fresh;let L:(bN X N scope cl f G.objs.size s2 h).Ok:=by
  refine(g.ok.mod,O.kind,g.ok.glob,g.ok.blt,by show ↥s2<=G.objs.size;rw[hC];exact v3 _,λy z c e1 e2=>g.ok.inj y z c (O.cells y c e1)<|O.cells z c e2,λy hy=>O.has y hy,λy c z=>Nl (show Ng=Nf from z) cr,g.ok.hd,g.ok.frames,.inl U,
   λb a=>(?_,λy c e=>(I b a).2.2.2.2.1 y c<|O.cells y c e,),g.bs,uU g.ok.bsz g.sz,λb o e a=>?_,λb a z=>?_,g.stack,g.stkFree,)
  .let(o,e,_):=T.obj _ _ a0 b a;show b≠G.objs.size;exact uR (by rw[hC];exact vr (bi e))
  .rcases(I b a).2.2.2.1 with z|z
   .exact g.ok.noex b o e z
   .exact Nl (u7 (bi e)<|uU g.ok.bsz z)<|v5 _
  .rcases ax.mp (g.stkSub b z)with z|z
   .exact(I b a).2.1 z
   .exact(I b a).2.2.1 z
 let oF:∀{H':Hp},(∀b∈f,H' b=Nd)->∀b∈f,mD (bN X N scope cl f G.objs.size s2 h) [] H' b:=λhn b a =>
  (hn b a,(L.exf b a).1,L.exfs b a,.inl a,(L.exf b a).2,λp hp=>Nl (show p∈([]:Nt (Jr×Obj))from hp) (by simp),)
 let I':Inv (bN X N scope cl f G.objs.size s2 h) [] (fY q fr Nd) (upd h ↥s2<|.lst []) { s2 with heap:=h1,toks:=s2.toks+⇑([]:Nt (Str×I1)) }:=by
  refine(L,U,g.bare,Un.laid B (uN _) hD,(_,a1,λi y v e1 e2 e3=>?_,),λy c e=>?_,?_,λy c e=>?_,λp hp=>Nl (show p∈([]:Nt (Jr×Obj))from hp) (by simp),g.hok.laid B (uN _) (ve _,[],0,.nil,oE,),?_,)
  .cases i with
   |zero=>cases e2
   |succ i =>
    let(j,q1,q2,q3,q4):=O.sub i y e1;let P:(q[j]?).join=Nc v:=by
     have:(fr.map λj=>(q[j]?).join)[i]?=Nc (Nc v):=e2;rw[fi,q1]at this;exact bn this
    let e4:q[j]?=Nc (Nc v):=by
     cases z:q[j]? with
     |none=>rw[z]at P;cases P
     |some t=>rw[z]at P;exact Nq Nc P
    let(m,_,hl):=g.loc;let b0:Vis X.env.scope y:=.inr q3;let(u,r,l):=hl j y v q2 e4 b0;calc(u,r,.inr (q4,?_,),);let(c',a4):=O.has y q4;rcases l with⟨k,_⟩|⟨_,c,ec,ic⟩
    .rcases q3 with z|z
     .rw[z]at k;cases k
     .rw[z]at k;cases k
    .let:=O.cells y c' a4;let e':c=c':=bn<|ec.symm.trans this;let(o,ho,hd):=ic;rw[e']at ho;exact(c',a4,o,B c' o ho,hd,)
  .let(v,o,ho,hd):=g.cell y c<|O.cells y c e;exact(v,o,B c o ho,hd,)
  .show upd h ↥s2 (.lst []) G.objs.size=Nd;rw[aw (vo (by rw[hC];exact wm _))];exact g.hok.fresh (by rw[hC];exact v3 _)
  .let(v,o,ho,hd):=g.cell y c<|O.cells y c e;rw[aw (uR<|bi ho)];exact g.freeC y c<|O.cells y c e
  .show⇑(fY q fr Nd)=N.length;rw[O.len];simp[fY]
 let a3:tn 0 h1:=T.keep _ _ _ a0 λb a o e=>B b o e
 let R:∀s3:JY,s3={ s2 with heap:=h1,toks:=s2.toks+⇑([]:Nt (Str×I1)) } ->
   K4 (model X.prog X.w) X.A (.compLoop (.ListComp elt [(.Name x px,iter,ifs,0,)] scope pos) 0 (.ref it) (.ref ↥s2)<|Lz scope cl G.objs.size X.env) (RR (.ref ↥s2) G.objs.size) s3:=by
  rintro s3 rfl;let(W,(m0,w0),a7):=hW _ hD
  refine oC (λn s'=>∃i t H',Inv (bN X N scope cl f G.objs.size s2 h) [] (fY q fr t) H' s'/\tn i s'.heap/\(∀b∈f,H' b=Nd)/\W i n H') ?_ m0
   (0,Nd,_,I',a3,λb a=>by
    rw[aw (by let(o,e,_):=T.obj _ _ a0 b a;exact uR (bi e))];exact(I b a).1,w0,)
  rintro n s' ⟨i,t,H',I3,a2,a5,w3⟩;rcases a7 i n H' w3 with⟨stop,qn⟩|⟨go,step⟩
  .refine thn (T.done (bN X N scope cl f G.objs.size s2 h) U U U hc i [] s' _ H' _ I3 (oF a5) a2 stop) λr s4 (hr,I4,)=>?_
   subst hr;let(m,V,_):=I4.loc;refine fin _ _ s4 H' (by rw[hC];exact v3 _) I4.free (m,V,) (g.call' (ch:=f) I4.os I4.base I4.hok I4.bare λb a=>?_) qn;exact((I b a).2.2.2.1,(I b a).2.1,(I b a).2.2.2.2.1,(I b a).2.2.2.2.2,)
  .refine thn (T.item (bN X N scope cl f G.objs.size s2 h) U U U hc i [] s' _ H' _ I3 (oF a5) a2 go) λr s4 (u,hr,h4,)=>?_
   subst hr;refine thn h4 λ_ s5 (y,H5,I5,r5,y5,Z,b3,)=>?_
   let b5:=I5.pinned (oF b3)<|T.obj _ _ Z;let lx:(bN X N scope cl f G.objs.size s2 h).env.scope.names.lookup x=Nc .local:=lookup_relabel_local O.hx;refine thn (aE (X:=bN X N scope cl f G.objs.size s2 h) (i:=0) O.nd O.n0 (.inl lx) (.inr lx) _ s5 _ H5 y u (λa9 H'=>a9=fY q fr (Nc y)/\H'=H5) b5 r5 (U,U,)) λ_ s6 (b6,H6,I6,e6,b4,)=>?_
   subst e6;subst b4
   let again:∀{Y:St}{H7:Hp}{s7:JY}{S:Nat},Y=fY q fr (Nc y)->Inv (bN X N scope cl f G.objs.size s2 h) ([]++mE f s5.heap) Y H7 s7->S<n->W (i+1) S H7 ->
     ∃m,m<n/\∃i t H',Inv (bN X N scope cl f G.objs.size s2 h) [] (fY q fr t) H' s7/\tn i s7.heap/\(∀b∈f,H' b=Nd)/\W i m H':=λ{Y H7 s7 S} e7 I7 V w7=>by
    subst e7;calc(S,V,i+1,Nc y,H7,I7.unpinned,T.keep _ _ _ Z λb a o e=>(I7.pin (b,o)<|jd _<|jd _<|eR a e).1,λb a=>?_,w7,);let(o,e,d):=T.obj _ _ Z b a;exact(I7.pin (b,o)<|jd _<|jd _<|eR a e).2.1
   refine thn (ht f G.objs.size s2 h _ s6 _ H6 _ I6<|step y H6 y5) λok s7 (H7,I7,q7,)=>?_
   cases ok with
   |false =>
    rw[Nj cr]at q7⊢;let(S,V,w7):=q7;exact again U I7 V w7
   |true =>
    rw[Nk U]at q7⊢;refine thn (he f G.objs.size s2 h _ s7 _ H7 _ I7 q7) λu8 s8 (v8,H8,I8,r8,ys,b1,a8,S,V,w8,)=>?_
    refine thn (cq (X:=bN X N scope cl f G.objs.size s2 h) _ s8 _ H8 (.ref ↥s2) [v8] _ [u8] (λ_ H9=>W (i+1) S H9) I8 U (.cons r8 .nil) (_,ys,v8,U,U,b1,a8,w8,)) λ_ s9 (_,H9,I9,_,w9,)=>?_
    exact again U I9 V w9
 calc LI (R _ U)<|T.self _ 0 _ _ _ a3<|R _ U
def Inv.left{a:Nt (Jr×Obj)}{g f:St}{s2 s':JY}{n H':Hp}{C:Jr}{h':JD}(d:Inv X a f n s2)(m:Inv X a g H' s')(hC:↥s2<=C)(k:H' C=Nd)(h:wS C s'.heap h'):Inv X a g H' { s' with heap:=h' }:=by
 refine m.turned (t':=s'.toks) (it:=C) (λb o l e=>(h.2 b l).trans e) k (vo<|u7 d.lt hC) (.inr<|uU d.sz hC) (λy c e=>?_) λp i=>?_
 .let(v,o,j,_):=d.cell y c e;exact uR<|u7 (bi j) hC
 .exact uR<|u7 (bi (d.pin p i).1) hC
def fj(hi:PI X (.Name x px) iter i)(O:tL X N fr scope cl x)(r:X.calm=Nf)(k:∀b C s H,PIf (bN X N scope cl b C s H) ifs tt)(p:∀b C s H,PE (bN X N scope cl b C s H) elt te)
  (l:∀v,KS iter X.env v=pure v:=by intro _;rfl):PE X (.ListComp elt [(.Name x px,iter,ifs,0,)] scope pos) (Cs i fr tt te):=by
 intro a s g H Q I h;rw[LJ];calc LK (use:=Nd) U l O.clos O.kind O.names<|thn (hi a s g H _ I h) λv K y=>thn y λF s2 u=>?_;let(it,b,G,J,P,e,j,T,c,z,t):=u;subst e;refine q8 (RR:=λf C=>LL (model X.prog X.w) X.A X.xe Nd (EP X a g Q) f C) O r j T c z k p t λD C L E hC n (m,o,) B q=>?_
 calc(m,o,λM d=>(.ref D,E,j.left B hC n d,U,q,),)
def Bc{E:TI}{i:Nat}{y:Str}{d B:Pos}(hN:X.N.Nodup)(F:X.N[i]?=Nc y)(S:Loc X.env.scope y)(hi:PI X (.Name x px) iter E)(O:tL X N fr scope cl x)(Y:X.calm=Nf)
  (G:∀f C s H,PIf (bN X N scope cl f C s H) ifs tt)(W:∀f C s H,PE (bN X N scope cl f C s H) elt te)(K:∀v,KS iter X.env v=pure v:=by intro _;rfl)
  (l:Kr (.ListComp elt [(.Name x px,iter,ifs,0,)] scope pos) (Nc<|.Name y d) B.line X.env=pure true:=by rfl)(V:X.fn y=Nf\/X.env.scope.names.lookup y=Nc .local:=by first|exact .inl U|exact .inr U|assumption) :
  PS X (.Assign [.Name y d] (.ListComp elt [(.Name x px,iter,ifs,0,)] scope pos) B) (AY (Cs E fr tt te)<|qN i):=by
 intro b s u H j I h;rw[LM _ _ _ _ l];calc GS<|Kw<|GS ?_;show Kc _ X.A (do let _ ←comprehension (.ListComp elt [⟨.Name x px,iter,ifs,0⟩] scope pos) scope X.env _ (LD []) Ng (eval iter X.env) (Nc<|assign (.Name y d) X.env)) _ _ s;calc GS<|Kj (LK (use:=Nc<|assign (.Name y d) X.env) (Q:=λ_ c=>SP X b j .next c) U K O.clos O.kind O.names<|thn (hi b s u H _ I h) λv s1 h1=>thn h1 λa0 s2 h2=>?_) (λ_ c L=>GU<|GU L) λ_ _ z=>z;let(it,f,tn,J,H2,e,g,T,k,f2,hW):=h2;subst e;refine q8 (Q:=λv H1=>qN i v u H1 j.nx) (RR:=λt C=>LL (model X.prog X.w) X.A X.xe (Nc<|assign (.Name y d) X.env) (λ_ c=>SP X b j .next c) t C) O Y g T k f2 G W hW λD C c H' hC P (m,R,) I' q=>?_
 show Kc _ X.A (assign (.Name y d) X.env<|.ref D) _ _ c;calc Kv<|mC I' hN F S (v:=.ref D) U (λs3 I3 (a,n,Z,)=>?_) V;let r:C≠a:=by
  rcases Z with z|z
  .rw[z];exact vo<|u7 g.lt hC
  .let(v,o,M,_):=g.cell y a z;exact vo<|u7 (bi M) hC
 calc(m,R.sameBut n r,λh' p=>(_,H',g.left I3 hC P p,q,),)
def  eP(c:Jr->Nat->Nt V->Qd)(D:Jr)(i n:Nat)(d:Hp):Prop:=∃a,a<n-i/\a=n-(i+1)/\i+1<=n/\∃b,c D (i+1) b d
def  dR(c:Jr->Nat->Nt V->Qd)(D:Jr)(i n:Nat):VK:=λy b=>∃a,b D=Nc (.lst a)/\⇑a<JR/\eP c D i n (upd b D<|.lst<|a++[y])
def eP.mk{a:Jr->Nat->Nt V->Qd}{D:Jr}{i n:Nat}{b:Hp}{zs:Nt V}(hi:i<n)(h:a D (i+1) zs b):eP a D i n b:=(n-(i+1),∅,U,hi,zs,h,)
def dR.mk{b:Jr->Nat->Nt V->Qd}{D:Jr}{i n:Nat}{a:Hp}{ys:Nt V}{y:V}(hi:i<n)(e:a D=Nc (.lst ys))(c:⇑ys<JR)(h:b D (i+1) (ys++[y]) (upd a D<|.lst<|ys++[y])):dR b D i n y a:=(ys,e,c,.mk hi h,)
def il{K:am}{a:Jr}{xs:Nt V}(c:Jr->Nat->Nt V->Qd)(n:∀D,d D=Nd->c D 0 [] (upd d D<|.lst []))
  (l:∀D i ys H,d D=Nd->i<=⇑xs->c D i ys H->SqL K H a xs)
  (k:∀D i x ys H,d D=Nd->xs[i]?=Nc x->c D i ys H->tt (fY g fr<|Nc x) H λb j=>if b=Nf then te (fY g fr<|Nc x) j (dR c D i ⇑xs)else eP c D i ⇑xs j)
  (hd:∀D ys H,d D=Nd->c D ⇑xs ys H->Q (.ref D) H):oB (Itl K a) fr tt te g Q d:=by
 intro D f;calc(λi m H=>m=⇑xs-i/\i<=⇑xs/\∃ys,c D i ys H,(_,U,ve _,[],n D f,),?_,);rintro i m H ⟨rfl,hi,ys,p⟩;let q:=l D i ys H f hi p;by_cases h:i<⇑xs
 .refine .inr ((xs,xs[i],q,by simp[h],),λx o y=>?_,);let(e,y):=y;subst e;exact k D i x ys _ f (y xs q) p
 .let e:i=⇑xs:=∅
  subst e;calc .inl ((xs,q,uN _,),hd D ys H f p,)
def fZ{lo:Int}{n:Nat}(a:Jr->Nat->Nt V->Qd)(k:∀D,c D=Nd->a D 0 [] (upd c D<|.lst []))
  (j:∀D i ys H,c D=Nd->i<n->a D i ys H->tt (fY f fr<|Nc<|.int<|lo+i) H λb h=>if b=Nf then te (fY f fr<|Nc<|.int<|lo+i) h (dR a D i n)else eP a D i n h)
  (hd:∀D ys H,c D=Nd->a D n ys H->Q (.ref D) H):oB (Itr lo n) fr tt te f Q c:=by
 intro D g;calc(λi m H=>m=n-i/\i<=n/\∃ys,a D i ys H,(_,U,ve _,[],k D g,),?_,);rintro i m H ⟨rfl,hi,ys,p⟩;by_cases d:i<n
 .refine .inr (d,λx l y=>?_,);let(e,y):=y;subst e;subst y;exact j D i ys _ g d p
 .let e:i=n:=∅
  subst e;calc .inl (uN _,hd D ys H g p,)
end
def  Bd(lo c:Int)(n:Nat):It:=(λi _=>i<n,λi H x a=>a=H/\x=.int (lo+i*c),λi _=>n<=i,)
def  rsz(lo hi c:Int):Nat:=(if lo<hi then(hi-lo-1) / c+1 else 0).toNat
def zo(d:0<c):((rsz a b c:Nat):Int)=v4 a b c:=by
 unfold v4 rsz;rw[Nk d];split
 .let:=Int.ediv_nonneg (a:=b-a-1) (b:=c) ∅ ∅;lia
 .rfl
def vt(d:0<c)(g:c<=1000)(l : -(2^60)<=a)(j:a<2^60)(k : -(2^60)<=b)(i:b<2^60):PM a b c=true:=by
 unfold PM;let h:=zo (a:=a) (b:=b) d;let e:v4 a b c<=2^61:=by
  unfold v4;rw[Nk d];split
  .let:=Int.ediv_le_self (a:=b-a-1) c ∅;lia
  .decide
 let f:0<=v4 a b c:=∅
 generalize v4 a b c=z at *
 simp only[OR,EY,Bool.or_eq_true,decide_eq_true_eq,beq_iff_eq];rw[Nk d];simp only[OR,EY,decide_eq_true_eq];lia
def tM{K:am}{J:Ke}(it:Jr)(lo c:Int)(n:Nat):Turn P w K J (Bd lo c n) [it] it (λi h=>KJ h it (lo+(i:Nat)*c) ((n:Int)-(i:Nat)) c) where
 mem:=by simp
 obj:=λi h a b f=>by
  let e:b=it:= ~~~f
  subst e;exact⟨_,a,λv z=>by
   let G:Data.fields _=Data.cell v:=z;cases G⟩
 keep:=λi h m a k=>k it (by simp) _ a
 item:=by
  intro X r p u g i d s D H E I l a q;subst r p u;let(C,B,N,A,y,x):=l it (by simp);let W:=KL.range (prog:=X.prog) (w:=X.w) (I.ok.hd g) it lo c n;refine W.item i s _ _ q a λv m F M j L=>?_
  let(t,rfl):=M;let Q:Inv X d D H { s with heap:=m,toks:=F }:=I.turned (λb o f e=>L b o (~~~f) e) C B A y x;refine(_,U,qO (s:={ s with heap:=m,toks:=F }) (n := "range_iterator") j U U ⋯ (.int<|lo+i*c,H,Q,(t,U,),(U,U,),j,λb f=>(l b f).1,),)
 done:=by
  intro X r p u g i d s D H E I l a q;subst r p u;let(C,B,N,A,y,x):=l it (by simp);exact KN (I.ok.hd g) a (by have:n<=i:=q;lia) λm O=>(U,I.turned (t':=s.toks) (λb o f e=>O b o f e) C B A y x,)
 self:=λ_ _ _ _ _ a h=>KO a h
section
variable{tg:Ke}
def xJ{a:Nt (Jr×Obj)}{d:St}{H:Hp}{s:JY}{R:It->Qd}{E:I1->JY->Prop}{lo hi c:Int}{t u v:Tok}{f:Nat}(I:Inv X a d H s)(i:0<c)(h:c<=1000)(n : -(2^60)<=lo)(m:lo<2^60)(l : -(2^60)<=hi)(k:hi<2^60)
  (q:R (Bd lo c<|rsz lo hi c) H):Kc (model X.prog X.w) X.A (KD<|.ref ↥s) (PIE X a d tg R) E { s with heap:=s.heap.push { cls:=.type "range",data:=.fields #[.int lo t,.int hi u,.int c v] },toks:=f }:=by
 calc KQ (IsRange.new ..) (vt i h n m l k) ?_;let g:Inv X a d H { s with heap:=s.heap.push { cls:=.type "range",data:=.fields #[.int lo t,.int hi u,.int c v] },toks:=f }:=I.kept λb o e=>bd _ e
 refine((s.heap.push { cls:=.type "range",data:=.fields #[.int lo t,.int hi u,.int c v] }).objs.size,[(s.heap.push { cls:=.type "range",data:=.fields #[.int lo t,.int hi u,.int c v] }).objs.size],_,_,H,U,
  g.kept (t':=f) λb o e=>bd _ e,tM _ lo c<|rsz lo hi c,?_,λb j=>?_,q,)
 .let r:lo+((0:Nat):Int)*c=lo:=by simp
  let p:((rsz lo hi c:Nat):Int)-((0:Nat):Int)=v4 lo hi c:=by rw[zo i];exact Int.sub_zero _
  show KJ _ _ (lo+((0:Nat):Int)*c) (((rsz lo hi c:Nat):Int)-((0:Nat):Int)) c;rw[r,p];exact ci _ U
 .let e:b=(s.heap.push { cls:=.type "range",data:=.fields #[.int lo t,.int hi u,.int c v] }).objs.size:= ~~~j
  subst e;calc g.fpOk (uN _)<|g.hok.fresh<|uN _
inductive zp  (R:It->Qd)(vs:Nt V)(H1:Hp):Prop
 |mk (i j c:Int)(_:vs=[.int i,.int j,.int c])(_:(0<c/\c<=1000/\-(2^60)<=i/\i<2^60/\-(2^60)<=j/\j<2^60))(_:R (Bd i c<|rsz i j c) H1):zp R vs H1
def  ES(c:TA):TI:=λa H R=>c a H λb d=>zp R b d
def xK{a b c:Ke}{n:TA}{p pos:Pos}(B:Gl X "range") (hm:X.mg "range" = Nd) (C:PA X [a,b,c] n)(A:Kh [a,b,c] X.env=[(Ng,eval a X.env),(Ng,eval b X.env),(Ng,eval c X.env)]:=by rfl)(f:Kh [b,c] X.env=[(Ng,eval b X.env),(Ng,eval c X.env)]:=by rfl) :
  PI X tg (.Call (.Name "range" p) [a,b,c] [] pos) (ES n):=by
 intro g s o H R I h;refine Call_ (iP I B hm boot_range<|mo (thn (C pos g s o H _ I h) λG L (F,M,D,u,k,)=>?_) (by rw[A,f]) (by rw[f];rfl));let(i,j,K,e,(z,m,k,y,x,w),q):=k;subst e;cases u with
 |cons r d =>
  cases d with
  |cons v d =>
   cases d with
   |cons l d =>
    cases d;let(t,rfl):=r;let(J,rfl):=v;let(E,rfl):=l;calc call_range_3 ∅ (xJ D z m k y x w q) (.inl<|OY ∅)
end
def tN{lo c:Int}{n:Nat}(a:Jr->Nat->Nt V->Qd)(l:∀D,d D=Nd->a D 0 [] (upd d D<|.lst []))
  (k:∀D i ys H,d D=Nd->i<n->a D i ys H->tt (fY g fr<|Nc<|.int<|lo+i*c) H λb j=>if b=Nf then te (fY g fr<|Nc<|.int<|lo+i*c) j (dR a D i n)else eP a D i n j)
  (hd:∀D ys H,d D=Nd->a D n ys H->Q (.ref D) H):oB (Bd lo c n) fr tt te g Q d:=by
 intro D h;calc(λi m H=>m=n-i/\i<=n/\∃ys,a D i ys H,(_,U,ve _,[],l D h,),?_,);rintro i m H ⟨rfl,hi,ys,p⟩;by_cases f:i<n
 .refine .inr (f,λx o y=>?_,);let(e,y):=y;subst e;subst y;exact k D i ys _ h f p
 .let e:i=n:=∅
  subst e;calc .inl (uN _,hd D ys H h p,)
structure oG(X:Cx)(N:Nt Str)(k:Nat)(fr:Nt Nat)(scope:JZ)(cl:Nt (Str×Jr)):Prop where
 clos:LA scope X.env=pure cl
 kind:scope.kind=.function
 nocell:∀y∈scope.names,y.2≠.cell
 names:∀y∈scope.names,y.2=.local->scope.names.lookup y.1=Nc .local
 len:N.length=k+⇑fr
 sub:∀(i:Nat)(y:Str),N[k+i]?=Nc y->∃j,fr[i]?=Nc j/\X.N[j]?=Nc y/\(X.env.kindOf y=Nc .cell\/X.env.kindOf y=Nc .free)/\((relabel scope X.env).names.lookup y=Nc .cell\/(relabel scope X.env).names.lookup y=Nc .free)
 cells:∀y c,cl.lookup y=Nc c->X.env.cells.lookup y=Nc c
 has:∀y,((relabel scope X.env).names.lookup y=Nc .cell\/(relabel scope X.env).names.lookup y=Nc .free)->∃c,cl.lookup y=Nc c
def di(len:N.length=k)(kind:scope.kind=.function)(a:∀y∈scope.names,y.2≠.free)(b:∀y∈scope.names,y.2≠.cell)
  (names:∀y∈scope.names,y.2=.local->scope.names.lookup y.1=Nc .local):oG X N k [] scope []:=by
 let f:(relabel scope X.env).names=scope.names:=map_eq_self λy d=>by
  let z:(y.2 == Le.free)=false:= ~~~a y d
  simp[z]
 let no:∀y,¬ ((relabel scope X.env).names.lookup y=Nc .cell\/(relabel scope X.env).names.lookup y=Nc .free):=λy h=>by
  rw[f]at h;rcases h with h|h
  .exact b _ (mem_of_lookup h) U
  .exact a _ (mem_of_lookup h) U
 refine(LB a,kind,b,names,by rw[len];rfl,λi y e=>?_,(λy c e=>by cases e),λy h=>Nl h<|no y,);let:=(JP.mp e).1;lia
def  dD(a:St)(fr:Nt Nat)(ts:St):St:=ts++fr.map λj=>(a[j]?).join
def  jR(J:It)(o:TG)(k:Nat)(fr:Nt Nat)(tt:TT)(te:TE)(f:St)(Q:VK)(l:Hp):Prop:=∀D,l D=Nd->∃W:Nat->Nat->Qd,(∃m,W 0 m<|upd l D<|.lst [])/\∀i m H,W i m H ->
 (J.stop i H/\Q (.ref D) H)\/(J.go i H/\∀x n,J.yld i H x n->∀g:St,⇑g=k->o x (dD f fr g) n λa p=>(∃d:St,⇑d=k/\a=dD f fr d)/\tt a p λb j=>if b=Nf then te a j λy h=>∃e,h D=Nc (.lst e)/\⇑e<JR/\∃c,c<m/\W (i+1) c (upd h D<|.lst<|e++[y])
  else ∃c,c<m/\W (i+1) c j)
def  zq(b:TI)(c:TG)(k:Nat)(fr:Nt Nat)(tt:TT)(te:TE):TE:=λa H Q=>b a H λJ d=>jR J c k fr tt te a Q d
section
variable{elt iter tg:Ke}{ifs:Nt Ke}{scope:JZ}{cl:Nt (Str×Jr)}{N:Nt Str}{k:Nat}{gt:TG}
def oH{F:Nt (Jr×Obj)}{x:St}{s2:JY}{h:Hp}{it:Jr}{f:Nt Jr}{tn:Nat->JD->Prop}{J:It}{Q:VK}{E:I1->JY->Prop}{RR:I1->Jr->K3->JY->Prop}
  (O:oG X N k fr scope cl)(hc:X.calm=Nf)(g:Inv X F x h s2)(T:Turn X.prog X.w X.K tg J f it tn)(a0:tn 0 s2.heap)(I:∀b∈f,mD X F h b)
  (ht:∀f C s H,PIf (bN X N scope cl f C s H) ifs tt)(he:∀f C s H,PE (bN X N scope cl f C s H) elt te)
  (hg:∀f C s H,PG (bN X N scope cl f C s H) tg gt)(hW:jR J gt k fr tt te x Q h)
  (fin:∀D C s' H',↥s2<=C->H' C=Nd->(∃m,s'.heap.Ns C m)->Inv X F x H' s'->Q (.ref D) H'->RR (.ref D) C (.ok .next) s') :
  Kc (model X.prog X.w) X.A (LD []) (λa8 s3=>Kc (model X.prog X.w) X.A (LF scope X.env.globals cl [] X.env.qual Nd .none (Nc X.env)) (λzl s4 =>
   K4 (model X.prog X.w) X.A (.compStart (.ListComp elt [(tg,iter,ifs,0,)] scope pos) 0 (.ref it) a8 { zl with scope:=relabel scope X.env }) (RR a8 zl.locals) s4) E s3) E s2:=by
 refine LG (LH O.nocell (by intro y hy;simp at hy) (λh1 a1 M=>?_) O.kind);dsimp only at a1 M⊢;generalize hG:s2.heap.push { cls:=.type "list",dict:=Nd,data:=.seq ([]:Nt I1).toArray }=G at a1 M⊢;let hC:G.objs.size=↥s2+1:=by rw[←hG,lv]
 let B:∀b o,s2.heap.get? b=Nc o->h1.get? b=Nc o:=λb o e=>M.extBut b o (uR (by rw[hC];exact vr (bi e))) (bd _<|hG ▸ bd _ e)
 let oE:h1.get? ↥s2=Nc { cls:=.type "list",data:=.seq ([]:Nt I1).toArray 0 }:=M.extBut _ _ (uR (by rw[hC];exact wm _)) (bd _<|hG ▸ ci _ U);let hD:h ↥s2=none:=g.fresh;let L:(bN X N scope cl f G.objs.size s2 h).Ok:=by
  refine(g.ok.mod,O.kind,g.ok.glob,g.ok.blt,by show ↥s2<=G.objs.size;rw[hC];exact v3 _,λy z c e1 e2=>g.ok.inj y z c (O.cells y c e1)<|O.cells z c e2,λy hy=>O.has y hy,λy c z=>Nl (show Ng=Nf from z) cr,g.ok.hd,g.ok.frames,.inl U,
   λb a=>(?_,λy c e=>(I b a).2.2.2.2.1 y c<|O.cells y c e,),g.bs,uU g.ok.bsz g.sz,λb o e a=>?_,λb a z=>?_,g.stack,g.stkFree,)
  .let(o,e,_):=T.obj _ _ a0 b a;show b≠G.objs.size;exact uR (by rw[hC];exact vr (bi e))
  .rcases(I b a).2.2.2.1 with z|z
   .exact g.ok.noex b o e z
   .exact Nl (u7 (bi e)<|uU g.ok.bsz z)<|v5 _
  .rcases ax.mp (g.stkSub b z)with z|z
   .exact(I b a).2.1 z
   .exact(I b a).2.2.1 z
 let oF:∀{H':Hp},(∀b∈f,H' b=Nd)->∀b∈f,mD (bN X N scope cl f G.objs.size s2 h) [] H' b:=λhn b a =>
  (hn b a,(L.exf b a).1,L.exfs b a,.inl a,(L.exf b a).2,λp hp=>Nl (show p∈([]:Nt (Jr×Obj))from hp) (by simp),)
 let I':Inv (bN X N scope cl f G.objs.size s2 h) [] (dD x fr<|Fk k Nd) (upd h ↥s2<|.lst []) { s2 with heap:=h1,toks:=s2.toks+⇑([]:Nt (Str×I1)) }:=by
  refine(L,U,g.bare,Un.laid B (uN _) hD,(_,a1,λi y v e1 e2 e3=>?_,),λy c e=>?_,?_,λy c e=>?_,λp hp=>Nl (show p∈([]:Nt (Jr×Obj))from hp) (by simp),g.hok.laid B (uN _) (ve _,[],0,.nil,oE,),?_,)
  .by_cases a5:i<k
   .let q:(Fk k Nd++fr.map λj=>(x[j]?).join)[i]?=Nc (Nc v):=e2;rw[iv (by rw[o3];exact a5),Pc,Nk a5]at q;cases q
   .let(j,q1,q2,q3,q4):=O.sub (i-k) y (by rw[show k+(i-k)=i by lia];exact e1);let q:(x[j]?).join=Nc v:=by
     have:(Fk k Nd++fr.map λj=>(x[j]?).join)[i]?=Nc (Nc v):=e2;rw[kc (by rw[o3];lia),o3,fi,q1]at this;exact bn this
    let e4:x[j]?=Nc (Nc v):=by
     cases z:x[j]? with
     |none=>rw[z]at q;cases q
     |some t=>rw[z]at q;exact Nq Nc q
    let(m,_,hl):=g.loc;let b1:Vis X.env.scope y:=.inr q3;let(u,r,l):=hl j y v q2 e4 b1;calc(u,r,.inr (q4,?_,),);let(c',a6):=O.has y q4;rcases l with⟨k,_⟩|⟨_,c,ec,ic⟩
    .rcases q3 with z|z
     .rw[z]at k;cases k
     .rw[z]at k;cases k
    .let:=O.cells y c' a6;let e':c=c':=bn<|ec.symm.trans this;let(o,ho,hd):=ic;rw[e']at ho;exact(c',a6,o,B c' o ho,hd,)
  .let(v,o,ho,hd):=g.cell y c<|O.cells y c e;exact(v,o,B c o ho,hd,)
  .show upd h ↥s2 (.lst []) G.objs.size=Nd;rw[aw (vo (by rw[hC];exact wm _))];exact g.hok.fresh (by rw[hC];exact v3 _)
  .let(v,o,ho,hd):=g.cell y c<|O.cells y c e;rw[aw (uR<|bi ho)];exact g.freeC y c<|O.cells y c e
  .show⇑(dD x fr<|Fk k Nd)=N.length;rw[O.len];simp[dD]
 let a4:tn 0 h1:=T.keep _ _ _ a0 λb a o e=>B b o e
 let P:∀s3:JY,s3={ s2 with heap:=h1,toks:=s2.toks+⇑([]:Nt (Str×I1)) } ->
   K4 (model X.prog X.w) X.A (.compLoop (.ListComp elt [(tg,iter,ifs,0,)] scope pos) 0 (.ref it) (.ref ↥s2)<|Lz scope cl G.objs.size X.env) (RR (.ref ↥s2) G.objs.size) s3:=by
  rintro s3 rfl;let(W,(m0,w0),a9):=hW _ hD
  refine oC (λn s'=>∃i R H',R.length=k/\Inv (bN X N scope cl f G.objs.size s2 h) [] (dD x fr R) H' s'/\tn i s'.heap/\(∀b∈f,H' b=Nd)/\W i n H') ?_ m0
   (0,Fk k Nd,_,o3,I',a4,λb a=>by
    rw[aw (by let(o,e,_):=T.obj _ _ a0 b a;exact uR (bi e))];exact(I b a).1,w0,)
  rintro n s' ⟨i,R,H',b4,I3,a3,a7,w3⟩;rcases a9 i n H' w3 with⟨stop,qn⟩|⟨go,step⟩
  .refine thn (T.done (bN X N scope cl f G.objs.size s2 h) U U U hc i [] s' _ H' _ I3 (oF a7) a3 stop) λr s4 (hr,I4,)=>?_
   subst hr;let(m,V,_):=I4.loc;refine fin _ _ s4 H' (by rw[hC];exact v3 _) I4.free (m,V,) (g.call' (ch:=f) I4.os I4.base I4.hok I4.bare λb a=>?_) qn;exact((I b a).2.2.2.1,(I b a).2.1,(I b a).2.2.2.2.1,(I b a).2.2.2.2.2,)
  .refine thn (T.item (bN X N scope cl f G.objs.size s2 h) U U U hc i [] s' _ H' _ I3 (oF a7) a3 go) λr s4 (u,hr,h4,)=>?_
   subst hr;refine thn h4 λ_ s5 (y,H5,I5,r5,y5,Z,b5,)=>?_
   let b6:=I5.pinned (oF b5)<|T.obj _ _ Z;refine thn (hg f G.objs.size s2 h _ s5 _ H5 y u _ b6 r5<|step y H5 y5 R b4) λ_ s6 (c1,H6,I6,(a2,Gq,e6,),q6,)=>?_
   subst e6
   let again:∀{Y:St}{H7:Hp}{s7:JY}{S:Nat},Y=dD x fr a2->Inv (bN X N scope cl f G.objs.size s2 h) ([]++mE f s5.heap) Y H7 s7->S<n->W (i+1) S H7 ->
     ∃m,m<n/\∃i R H',R.length=k/\Inv (bN X N scope cl f G.objs.size s2 h) [] (dD x fr R) H' s7/\tn i s7.heap/\(∀b∈f,H' b=Nd)/\W i m H':=λ{Y H7 s7 S} e7 I7 V w7=>by
    subst e7;calc(S,V,i+1,a2,H7,Gq,I7.unpinned,T.keep _ _ _ Z λb a o e=>(I7.pin (b,o)<|jd _<|jd _<|eR a e).1,λb a=>?_,w7,);let(o,e,d):=T.obj _ _ Z b a;exact(I7.pin (b,o)<|jd _<|jd _<|eR a e).2.1
   refine thn (ht f G.objs.size s2 h _ s6 _ H6 _ I6 q6) λok s7 (H7,I7,q7,)=>?_
   cases ok with
   |false =>
    rw[Nj cr]at q7⊢;let(S,V,w7):=q7;exact again U I7 V w7
   |true =>
    rw[Nk U]at q7⊢;refine thn (he f G.objs.size s2 h _ s7 _ H7 _ I7 q7) λu8 s8 (v8,H8,I8,r8,ys,b3,b0,S,V,w8,)=>?_
    refine thn (cq (X:=bN X N scope cl f G.objs.size s2 h) _ s8 _ H8 (.ref ↥s2) [v8] _ [u8] (λ_ H9=>W (i+1) S H9) I8 U (.cons r8 .nil) (_,ys,v8,U,U,b3,b0,w8,)) λ_ s9 (_,H9,I9,_,w9,)=>?_
    exact again U I9 V w9
 calc LI (P _ U)<|T.self _ 0 _ _ _ a4<|P _ U
def dJ(hi:PI X tg iter i)(O:oG X N k fr scope cl)(u:X.calm=Nf)(r:∀b C s H,PG (bN X N scope cl b C s H) tg gt)(l:∀b C s H,PIf (bN X N scope cl b C s H) ifs tt)(t:∀b C s H,PE (bN X N scope cl b C s H) elt te)
  (n:∀v,KS iter X.env v=pure v:=by intro _;rfl):PE X (.ListComp elt [(tg,iter,ifs,0,)] scope pos) (zq i gt k fr tt te):=by
 intro a s g H Q I h;rw[LJ];calc LK (use:=Nd) U n O.clos O.kind O.names<|thn (hi a s g H _ I h) λv L z=>thn z λG s2 y=>?_;let(it,b,K,J,R,e,j,T,c,B,x):=y;subst e;refine oH (RR:=λf C=>LL (model X.prog X.w) X.A X.xe Nd (EP X a g Q) f C) O u j T c B l t r x λD C M F hC o (m,p,) E q=>?_
 calc(m,p,λP d=>(.ref D,F,j.left E hC o d,U,q,),)
def dS{K:am}{a:Jr}{xs:Nt V}(c:Jr->Nat->Nt V->Qd)(s:∀D,f D=Nd->c D 0 [] (upd f D<|.lst []))
  (r:∀D i ys H,f D=Nd->i<=⇑xs->c D i ys H->SqL K H a xs)
  (o:∀D i x ys H,f D=Nd->xs[i]?=Nc x->c D i ys H->∀ts:St,⇑ts=k->gt x (dD j fr ts) H λd t=>(∃g:St,⇑g=k/\d=dD j fr g)/\tt d t λb n=>if b=Nf then te d n (dR c D i ⇑xs)else eP c D i ⇑xs n)
  (hd:∀D ys H,f D=Nd->c D ⇑xs ys H->Q (.ref D) H):jR (Itl K a) gt k fr tt te j Q f:=by
 intro D h;calc(λi m H=>m=⇑xs-i/\i<=⇑xs/\∃ys,c D i ys H,(_,U,ve _,[],s D h,),?_,);rintro i m H ⟨rfl,hi,ys,p⟩;let q:=r D i ys H h hi p;by_cases l:i<⇑xs
 .refine .inr ((xs,xs[i],q,by simp[l],),λx u y=>?_,);let(e,y):=y;subst e;exact o D i x ys _ h (y xs q) p
 .let e:i=⇑xs:=∅
  subst e;calc .inl ((xs,q,uN _,),hd D ys H h p,)
end
def js{X:Cx}{K:am}{a:Nt Ke}{k:Nat}{t:TGs}{n:Nat}{pos:Pos}(e:X.K=K)(d:X.calm=Nf)(h:PGs X a t)(c:⇑(Kt a X.env)=n:=by rfl)(b:(Kt a X.env).findIdx? (·.1)=none:=by rfl):PG X (.Tuple a k pos) (Ez K n t):=e ▸ fA d h c b
end _L
namespace Srt
open PySem PySem.W PyProof.Rows
def  Ok(n:Nat)(lt:Nat->Nat->Bool){α:Type}:KasT α->(α->Prop)->Prop
 | .ret a,Q=>Q a
 | .ask i j k,Q=>i<n/\j<n/\Ok n lt (k<|lt i j) Q
section
variable{n:Nat}{lt:Nat->Nat->Bool}
abbrev g(p:Array Nat)(i:Nat):Nat:=p.getD i 0
structure Ord(lt:Nat->Nat->Bool):Prop where
 tr:∀a b c,lt b a=Ng->lt c b=Ng->lt c a=Ng
 as:∀a b,lt a b=Nf->lt b a=Ng
end
end Srt
namespace _L
open PySem PySem.Spec PySem.W PyProof.Rows
variable{prog:Jl}{w:Je}{A:JX}{E:I1->JY->Prop}{s:JY}
variable{X:Cx}
def wK:inR n p=Nf↔p.1<=n/\n<=p.2:=by
 unfold inR;simp only[EY,decide_eq_true_eq]
def rW:inP R n=Nf↔∃p∈R,p.1<=n/\n<=p.2:=by
 unfold inP;rw[pA];calc(λ(p,h,e,)=>(p,h,wK.mp e,),λ(p,h,e,)=>(p,h,wK.mpr e,),)
structure Jc(S A B A0 B0:Nt Pr):Prop where
 ap:Apart S
 aA:Apart A
 aB:Apart B
 mem:∀n,(inP A0 n && inP B0 n)=(inP S n || (inP A n && inP B n))
 gap:∀s∈S,(∀p∈A,s.2+2<=p.1)\/(∀p∈B,s.2+2<=p.1)
structure Jo(F T:Nt Pr)(lo hi st:Int):Prop where
 ap:Apart F
 lt:∀s∈F,s.2+2<=st
 rng:∀s∈F,lo<=s.1/\s.2<=hi
 tk:∀p∈T,p.2<st
 fr:st=lo\/∃p∈T,st=p.2+1
 ge:lo<=st
 mem:∀n,lo<=n->n<=hi->n<st->inP F n = !inP T n
structure Walk(ts:Nt (Int×Int×Int)):Prop where
 le:∀t∈ts,t.1<=t.2.1
 nx:∀(i:Nat) a b,ts[i]?=Nc a->ts[i+1]?=Nc b->b.1=a.2.1+1
def  pcs(msk:Int->Bool)(ts:Nt (Int×Int×Int))(n:Int):Bool:=ts.any λt=>inR n (t.1,t.2.1) && msk t.2.2
structure Jp(R:Nt Pr)(ts:Nt (Int×Int×Int))(msk:Int->Bool)(i:Nat)(at_:Int):Prop where
 ap:Apart R
 mem:∀n,inP R n=pcs msk (ts.take i) n
 lt:∀r∈R,r.2<at_
 few:2*R.length<=i\/(2*R.length<=i+1/\∃R' l,R=R'++[l]/\l.2=at_-1)
variable{i:Nat}
section
variable{R:Nt Pr}{ts:Nt (Int×Int×Int)}{msk:Int->Bool}{at_:Int}{t:Int×Int×Int}
end
def  ends(R:Nt Pr):Nt Int:=R.flatMap λp=>[p.1,p.2+1]
def q9(R:Nt Pr)(p:Pr):ends (R++[p])=ends R++[p.1,p.2+1]:=by
 unfold ends;rw[Oo];simp
def xM(R:Nt Pr)(p:Pr):ends (p :: R)=p.1 :: (p.2+1) :: ends R:=rfl
def fq:e∈ends R↔∃p∈R,e=p.1\/e=p.2+1:=by
 unfold ends;rw[qh];simp
def  cnt:Nt Pr->Int
 | []=>0
 |p :: R=>(p.2-p.1+1)+cnt R
def  b2(b:Bool):Int:=if b=Nf then 1 else 0
def nu(a:Nt Int):∀k,k<=⇑a->preSum (λi=>a.getD i 0) k=(a.take k).sum
 |0,_=>rfl
 |k+1,h=>by
  let b:=nu a k ∅;show preSum (λi=>a.getD i 0) k+a.getD k 0=_;let e:a[k]?=Nc a[k]:=JO ∅;rw[b,lJ,e,List.sum_append,en,e];simp
def ku(D:X.calm=Nf):dq X (.builtin "sum") (λus H Q=>∃(a:Jr)(c:Nt Int),us=[.ref a]/\SqL X.K H a (c.map pi)/\Q (.int c.sum) H):=by
 intro p s J H us L Q I r h;let(a,c,rfl,B,q):=h;let(u,rfl,x):=r.one;cases (show u=io a from x);let(d,l,j,N):=I.list B;let k:=⇑l;rw[af]at k;let(M,G,_):=id j.isList;let f:a<↥s:=bi G;calc call_sum_walkG<|KP j.isList ?_;refine(↥s,[↥s,a],[↥s],_,_,_,λi=>c.getD i 0,U,KL.list (A:=X.A.in1) (I.ok.hd D) _ a (uR f) d.toArray,((_,ci _ U,U,U,),j.isList.at λo e=>bd _ e,),λb E=>?_,λi v e=>?_,λO w t' C=>?_,)
 .show b<(s.heap.push _).objs.size;rw[lv];rcases ax.mp E with z|z
  .rw[z];exact wm _
  .let g:b=a:= ~~~z
   rw[g];exact vr f
 .let n:d[i]?=Nc v:= ~~~e
  let hi:i<⇑c:=by rw[k];exact(JP.mp n).1
  let F:(c.map pi)[i]?=Nc (.int c[i]):=by rw[fi,JO hi];rfl
  let(u,m,y):=l.get F;rw[n]at m;cases m;let(t,rfl):=y;exact(t,by show O2 c[i] t=O2 (c.getD i 0) t;rw[en,JO hi];rfl,)
 .refine(.int c.sum,H,I.kept (t':=w) λb o e=>C b o (λz=>?_)<|bd _ e,(t',?_,),q,)
  .let g:b=↥s:= ~~~z
   exact Nl (bi e) (by rw[g];exact v5 _)
  .rw[cM,←k,nu c _<|uN _,fo]
def jt:∀{A B:Nt Int},A.Pairwise (· < ·)->B.Pairwise (· < ·)->(∀c,c∈A↔c∈B)->A=B
 | [],[],_,_,_=>rfl
 | [],b :: B,_,_,h=>by have:=(h b).mpr<|.head _;cases this
 |a :: A,[],_,_,h=>by have:=(h a).mp<|.head _;cases this
 |a :: A,b :: B,hA,hB,h=>by
  let(i,j):=nF.mp hA;let(g,b2):=nF.mp hB;let e:a=b:=by
   rcases ax.mp ((h a).mp<|.head _)with e|e
   .exact e
   .rcases ax.mp ((h b).mpr<|.head _)with f | f
    .exact f.symm
    .let:=i b f;let:=g a e;lia
  subst e
  congr 1
  refine jt j b2 λc=>(λd=>?_,λd=>?_,)
  .rcases ax.mp ((h c).mp<|.tail _ d)with e|e
   .let:=i c d;lia
   .exact e
  .rcases ax.mp ((h c).mpr<|.tail _ d)with e|e
   .let:=g c d;lia
   .exact e
def  NeS(W:Nt (Int×Int×Int)):Prop:=∀(j:Nat) a b,W[j]?=Nc a->W[j+1]?=Nc b->a.2.2≠b.2.2
structure Jd(G ts:Nt (Int×Int×Int))(i:Nat):Prop where
 walk:Walk G
 ne:NeS G
 pcs:∀msk n,pcs msk G n=_L.pcs msk (ts.take i) n
 hd:∀t,ts[0]?=Nc t->0<i->∃g,G[0]?=Nc g/\g.1=t.1
 lst:∀t,ts[i-1]?=Nc t->0<i->∃G' g,G=G'++[g]/\g.2.1=t.2.1/\g.2.2=t.2.2
 len:G.length<=i
 stt:∀g∈G,∃t∈ts,g.2.2=t.2.2
section
variable{G ts:Nt (Int×Int×Int)}{t:Int×Int×Int}
end
def  Its(z:Str):It:=(λi _=>i<z.cps.size,λi H x a=>a=H/\∃c,z.cps[i]?=Nc c/\x=.str ⟨#[c]⟩,λi _=>z.cps.size<=i,)
def vw{K:am}{L:Ke}(z:Str)(t:Tok)(it:Jr):Turn P w K L (Its z) [it] it (λi h=>h.IsStrIter it "str_ascii_iterator" z t i) where
 mem:=by simp
 obj:=λi h f b g=>by
  let(o,e,c,d):=f;rw[show b=it by simpa using g];exact⟨o,e,λv q=>by rw[d]at q;cases q⟩
 keep:=λi h m (o,e,r,) k=>(o,k it (by simp) o e,r,)
 item:=by
  intro X u n x J i a s G H E I l f p;subst u n x;let F:i<z.cps.size:=p;let hi:z.cps[i]?=Nc z.cps[i]:=Eg F;let(D,C,M,B,A,y):=l it (by simp);refine wpAny_pyNext_ascii_item f hi λm j sb=>?_
  let O:Inv X a G H { s with heap:=m,toks:=s.toks+1 }:=I.turned (t':=s.toks+1) (λb o g e=>(sb.2 b g).trans e) D C B A y;let(o,e,c,d):=id j;exact(_,U,qO (s:={ s with heap:=m,toks:=s.toks+1 }) e c d ⋯ (.str ⟨#[z.cps[i]]⟩,H,O,(_,U,),(U,_,hi,U,),j,λb g=>(l b g).1,),)
 done:=by
  intro X u n x J i a s G H E I l f p;subst u n x;let(D,C,M,B,A,y):=l it (by simp);exact wpAny_pyNext_ascii_end (I.ok.hd J) f (~~~(show z.cps.size<=i from p)) λm N=>(U,I.turned (t':=s.toks) (λb o g e=>N b o g e) D C B A y,)
 self:=λ_ _ _ _ _ f h=>wpAny_pyIter_striter_ascii f h
def xN{K:am}{L:Ke}(z:Str)(t:Tok)(it:Jr):Turn P w K L (Its z) [it] it (λi h=>h.IsStrIter it "str_iterator" z t i) where
 mem:=by simp
 obj:=λi h f b g=>by
  let(o,e,c,d):=f;rw[show b=it by simpa using g];exact⟨o,e,λv q=>by rw[d]at q;cases q⟩
 keep:=λi h m (o,e,r,) k=>(o,k it (by simp) o e,r,)
 item:=by
  intro X u n x J i a s G H E I l f p;subst u n x;let F:i<z.cps.size:=p;let hi:z.cps[i]?=Nc z.cps[i]:=Eg F;let(D,C,M,B,A,y):=l it (by simp);refine wpAny_pyNext_wide_item f hi λm j sb=>?_
  let O:Inv X a G H { s with heap:=m,toks:=s.toks+1 }:=I.turned (t':=s.toks+1) (λb o g e=>(sb.2 b g).trans e) D C B A y;let(o,e,c,d):=id j;exact(_,U,qO (s:={ s with heap:=m,toks:=s.toks+1 }) e c d ⋯ (.str ⟨#[z.cps[i]]⟩,H,O,(_,U,),(U,_,hi,U,),j,λb g=>(l b g).1,),)
 done:=by
  intro X u n x J i a s G H E I l f p;subst u n x;let(D,C,M,B,A,y):=l it (by simp);exact wpAny_pyNext_wide_end (I.ok.hd J) f (~~~(show z.cps.size<=i from p)) λm N=>(U,I.turned (t':=s.toks) (λb o g e=>N b o g e) D C B A y,)
 self:=λ_ _ _ _ _ f h=>wpAny_pyIter_striter_wide f h
section
variable{tg:Ke}
inductive Ct  (R:(It->Qd))(x:V)(H1:Hp):Prop
 |mk (z:_)(_:x=.str z)(_:R (Its z) H1):Ct R x H1
def  Gr(tl:TE):am->St->Hp->(It->Qd)->Prop:=λ_ a H R=>tl a H λx b=>Ct R x b
def Dn(m:PE X l tl):PI X tg l (Gr tl X.K):=by
 intro c s i H R I h;refine thn (m c s i H _ I h) λv a (x,g,f,j,k,)=>?_
 let(z,e,q):=k;subst e;let(t,rfl):=j;let d:∀b∈[↥a],mD X c g b:=λb n=>by
  rw[show b=↥a by simpa using n];exact f.fpOk (uN _)<|f.hok.fresh<|uN _
 cases ha:z.cps.all (· < 128) with
 |true=>exact wpAny_pyIter_ascii ha (↥a,[↥a],_,_,g,U,f.kept (t':=a.toks) λb o e=>bd _ e,vw z t _,(_,ci _ U,U,U,),d,q,)
 |false=>calc wpAny_pyIter_wide ha (↥a,[↥a],_,_,g,U,f.kept (t':=a.toks) λb o e=>bd _ e,xN z t _,(_,ci _ U,U,U,),d,q,)
end
def Be{z:Str}{g:TG}{k:TS}{D:Ends}{a:St}{H:Hp}(b:Nat->Qc)(s:b 0 a H)
  (r:∀i c a H,z.cps.toList[i]?=Nc c->b i a H->g (.str ⟨#[c]⟩) a H λd j=>k { D with nx:=b<|i+1,ct:=b<|i+1,bk:=D.nx } d j)(hd:∀a H,b z.cps.size a H->D.nx a H) :
  ∃W:Nat->Nat->Qc,(∃m,W 0 m a H)/\∀i m a H,W i m a H ->
   ((Its z).stop i H/\D.nx a H)\/((Its z).go i H/\∃N:Qc,(∀f H',N f H'->∃l,l<m/\W (i+1) l f H')/\∀x H',(Its z).yld i H x H'->g x a H' λd j=>k { D with nx:=N,ct:=N,bk:=D.nx } d j):=by
 calc(λi m a H=>m=z.cps.size-i/\i<=z.cps.size/\b i a H,(_,U,ve _,s,),?_,);rintro i m a H ⟨rfl,hi,p⟩;by_cases h:i<z.cps.size
 .refine .inr (h,b<|i+1,λf H' q=>(z.cps.size-(i+1),∅,U,h,q,),λx H' y=>?_,);let(e,c,o,n):=y;subst e;subst n;exact r i c a _ (~~~o) p
 .let e:i=z.cps.size:=∅
  subst e;calc .inl (uN _,hd a H p,)
def kv(a:Gl X x)(h:∃u,X.mg x=Nc u/\RelV v u)(hd:(x == ("__debug__" : Str))=false:=by decide):PE X (.Name x pos) (tC v):=by
 let(_,m,r):=h;calc bB a m r hd
def  sg(g:Str)(c:Nat):Bool:=!(NG g ⟨#[c]⟩ 0 ⇑g 1).isEmpty
def  tO(z g:Str):Bool:=z.cps.toList.all<|sg g
open PySem.NumText
structure Jq(cs:Nt Nat):Prop where
 all:AllDigits cs
 one:⇑cs=1\/∃c r,cs=c :: r/\49<=c
def  vx(h:JD)(e T:Jr)(cls:I1)(f:I1×I1)(fl:I1):Prop :=
 ∃b a d c,h.get? e=Nc b/\(b.cls=cls/\a[0]?=Nc f.1/\a[2]?=Nc f.2)/\b.data=.fields a/\a[1]?=↑T/\T≠e/\h.get? T=Nc d/\d.data=.fields c/\c[3]?=Nc fl
abbrev vy(h:JD)(e T:Jr)(a:I1)(b:I1×I1):Prop:=vx h e T a b .none
structure Stp(F X:Nt Jr)(h h':JD):Prop where
 keep:∀b o,b ∉ F->b ∉ X->h.get? b=Nc o->h'.get? b=Nc o
 slot:∀b o,b∈F->h.get? b=Nc o->∃sl,h'.get? b=Nc { o with slots:=sl }
inductive zr(h:JD)(L e:Jr)(cls:I1)(a0:I1×I1):Nt Jr->Prop where
 |fresh {oe:Obj}{vs:Array I1}(he:h.get? e=Nc oe)(hc:oe.cls=cls)(hd:oe.data=.fields vs)(h1:vs[1]?=Nc pr)(h0:vs[0]?=Nc a0.1)(h2:vs[2]?=Nc a0.2):zr h L e cls a0 []
 |fly {T:Jr}(x:vx h e T cls a0 .none):zr h L e cls a0 [T]
 |held {T:Jr}(x:vx h e T cls a0 (KG L)):zr h L e cls a0 [T]
variable{base:JD}{e:Jr}{oe:Obj}
section
variable{M:Kb}{env:Env}{outer:Nt Env}{L T:Jr}{vs:Array I1}{a0:I1×I1}{cls fl:I1}{Q:Unit->JY->Prop}{Ts:Nt Jr}
def Stp.refl(F Y:Nt Jr)(h:JD):Stp F Y h h:=(λ_ _ _ _ q=>q,λ_ o _ q=>(o.slots,q,),)
def zt(F:A.frames=Nc (env :: outer))(t:s.heap.FunFrames base (env :: outer))(G:env.frame=Nc L)(r:s.heap.get? e=Nc oe)(hd:oe.data=.fields vs)(k:1<vs.size)
  (h:∀h' T m ts,Stp (frs (env :: outer)) [e] s.heap h'->h'.get? e=Nc (KM (·.setIfInBounds 1 (.ref T)) oe)->s.heap.get? T=Nd->T≠e->h'.get? T=Nc m->m.data=.fields ts->ts[3]?=Nc (KG L)->Q () { s with heap:=h' }) :
  Kc M A (do let a ←frameOf env;let pl ←entryPlaceOf L H;let b ←OW g a .none (KG L) .none pl;LN (.ref e) 1 b) Q E s:=by
 let p:e ∉ frs (env :: outer):=λz=>by
  let(_,I,l,C):=t.mem z;rw[r]at l;cases l;exact C vs hd
 calc GS<|wpAny_frameOf_fun F t G λc so=>GS<|wpAny_entryPlaceOf λpl ok=>?_;let v:c.get? e=Nc oe:=(so.2.1 e p).trans r;let i:c.objs.size=↥s:=so.1;let j:∀(O:Obj)(ts:Array I1),O.data=.fields ts->ts[3]?=Nc (KG L)->Kc M A (LN (.ref e) 1<|.ref c.objs.size) Q E { s with heap:=c.push O }:=λO ts w x=>by
  let u:=bd O v;let n:c.objs.size≠e:=vo<|bi v;let d:∀b,b≠e->((c.push O).update e (KM (·.setIfInBounds 1 (.ref c.objs.size)))).get? b=(c.push O).get? b:=λb f=>ls _ _<|IR f
  refine LO u hd k<|h _ c.objs.size O ts (λb o f D q=>?_,λb o f q=>?_,) (lw _ u<|Ob<|NQ hd _) (Ou (by rw[i];exact uN _)) n ((d _ n).trans<|ci c<|Ob w) w x
  .exact(d b λz=>D (by simp[z])).trans (bd O<|(so.2.1 b f).trans q)
  .let(y,B):=so.2.2 b o q;exact(y,(d b λz=>p<|z ▸ f).trans<|bd O B,)
 unfold OW newFields;exact GS<|LG (j _ _ U (by rcases ok with rfl|⟨_,_,_,_,_,_,_,rfl⟩ <;> simp)) (ok.sizeOk5 _ _ _ _ _)
def note(N:A.frames=Nc (env :: outer))(H:s.heap.FunFrames base (env :: outer))(G:env.frame=Nc L)(x:zr s.heap L e cls a0 Ts)
  (h:∀h' j,Stp (frs (env :: outer)) (e :: Ts) s.heap h'->vx h' e j cls a0 (KG L)->(s.heap.get? j=Nd\/j∈Ts)->Q () { s with heap:=h' }):Kc M A (LC (.ref e) env) Q E s:=by
 let sz:∀{vs:Array I1}{x:I1},vs[1]?=Nc x->1<vs.size:=λz=>(NM.mp z).1
 let P:∀{oe:Obj}{vs:Array I1}{h':JD}{T:Jr}{i:Obj}{f:Array I1},oe.cls=cls->oe.data=.fields vs->1<vs.size->vs[0]?=Nc a0.1->vs[2]?=Nc a0.2->h'.get? e=Nc (KM (·.setIfInBounds 1 (.ref T)) oe)->T≠e->h'.get? T=Nc i->i.data=.fields f->f[3]?=Nc (KG L)->vx h' e T cls a0 (KG L) :=
  λ{oe vs h' T i f} c d l W V w g v u t=>(_,_,i,f,w,((Obj.cls_mapFields _ _).trans c,by rw[Oz ⋯];exact W,by rw[Oz ⋯];exact V,),NQ d _,by simp[l],g,v,u,t,)
 unfold LC;simp only[G];cases x with
 | @fresh oe vs he hc hd h1 h0 h2 =>
  calc GS<|LP he hd h1 ?_;rw[Nj ⋯];exact zt N H G he hd (sz h1) λh' T i f D w g v u t F=>h h' T D (P hc hd (sz h1) h0 h2 w v u t F)<|.inl g
 | @fly T x =>
  let(oe,vs,i,f,C,(J,S,R),r,p,I,n,m,B):=x;let a:∀b,b≠T->(s.heap.update T (KM (·.setIfInBounds 3 pr))).get? b=s.heap.get? b:=λb k=>ls _ _<|IR k
  let O:∀b o,s.heap.get? b=Nc o->(∀vs,o.data≠.fields vs)->b≠T:=λb o q y z=>y f (by rw[z,n]at q;cases q;exact m)
  calc GS<|LP C r p ?_;rw[Nk (show(io T != pr)=Nf by simp)];calc GS<|LP n m B ?_;rw[Nj (show ¬ (pr == KG L)=Nf by simp[KG])];calc GS<|LO n m (NM.mp B).1 ?_;refine zt (s:={ s with heap:=s.heap.update T (KM (·.setIfInBounds 3 pr)) }) N (H.of_keeps λb o q y=>(o,(a b<|O b o q y).trans q,U,)) G ((a e<|IR I).trans C) r (sz p) λh' j Y X D w g v u t F=>?_
  refine h h' j (λb o k K q=>D.keep b o k (λz=>K<|ax.mpr<|.inl<|~~~z)<|(a b λz=>K (by simp[z])).trans q,λb o k q=>?_,) (P J r (sz p) S R w v u t F) ?_
  .let(_,Z,g,y):=H.mem k;rw[q]at g;cases g;exact D.slot b o k<|(a b<|O b o q y).trans q
  .by_cases z:j=T
   .exact .inr (by simp[z])
   .exact .inl<|(a j z).symm.trans g
 | @held T x =>
  let(oe,vs,i,f,C,J,r,p,I,n,m,B):=id x;calc GS<|LP C r p ?_;rw[Nk (show(io T != pr)=Nf by simp)];calc GS<|LP n m B ?_;rw[Nk (show(KG L == KG L)=Nf by simp)];calc GU<|h s.heap T (Stp.refl _ _ _) x<|.inr (by simp)
def wL{fr:Option Jr}{l:Nt Env}(w:s.heap.FunFrames base l)(x:vx s.heap e T cls a0 fl)(h:∀h',Stp (frs l) [e,T] s.heap h'->vx h' e T cls a0 (fr.elim pr λf=>KG f)->Q () { s with heap:=h' }):Kc M A (LQ (.ref e) fr) Q E s:=by
 let(oe,vs,y,n,m,t,k,j,i,g,c,r):=x;let sz:3<n.size:=(NM.mp r).1;let a:∀b,b≠T->(s.heap.update T (KM (·.setIfInBounds 3 (fr.elim pr λf=>KG f)))).get? b=s.heap.get? b:=λb d=>ls _ _<|IR d
 unfold LQ;calc GS<|LP m k j ?_;rw[Nk (show(io T != pr)=Nf by simp)];refine LO g c sz (h _ (λb o d v q=>(a b λz=>v (by simp[z])).trans q,λb o d q=>?_,) (oe,vs,_,_,(a e<|IR i).trans m,t,k,j,i,lw _ g<|Ob<|NQ c _,NQ c _,by simp[sz],));let(_,B,p,u):=w.mem d;rw[q]at p;cases p;calc⟨o.slots,(a b λz=>u n (by rw[z,g]at q;cases q;exact c)).trans q⟩
def Stp.then{h f e:JD}(x:Stp F Y h f)(y:Stp F Z f e)(hz:∀b o,h.get? b=Nc o->b∈Z->b∈Y):Stp F Y h e :=
 (λb o a d q=>y.keep b o a (λz=>d<|hz b o q z)<|x.keep b o a d q,λb o a q=>by
  let(j,i):=x.slot b o a q;let(c,g):=y.slot b _ a i;exact(c,g,),)
def Stp.frames(x:Stp (frs l) Y h a)(g:h.FunFrames base l):a.FunFrames base l:=by
 let:∀(F:Nt Jr)(m:Nt Env),(∀b∈frs m,b∈F)->Stp F Y h a->h.FunFrames base m->a.FunFrames base m:=λF m=>by
  induction m with
  |nil=>intro _ _ z;exact z
  |cons v m f =>
   rintro d x ⟨k,⟨L,o,c,n,j,i⟩,r⟩;let(p,q):=x.slot L o (d L (by unfold frs;rw[lh,c];exact cF)) j;exact(k,(L,_,c,n,q,i,),f (λb e=>d b (by unfold frs at e⊢;rw[lh,c];exact dz _ e)) x r,)
 calc this _ l (λ_ z=>z) x g
def land(k:A.frames=Nc (env :: outer))(i:s.heap.FunFrames base (env :: outer))(l:env.frame=Nc L)(x:vy s.heap e T cls a0)
  (h:∀h' c,Stp (frs (env :: outer)) [e,T] s.heap h'->vy h' e c cls a0->(s.heap.get? c=Nd\/c=T)->Q () { s with heap:=h' }):Kc M A (LC (.ref e) env) (λ_ s2=>Kc M A (LQ (.ref e) Nd) Q E s2) E2 s:=by
 refine note k i l (.fly x) λg c f x a=>?_
 let a:s.heap.get? c=Nd\/c=T:=a.imp id λz=>~~~z
 exact wL (s:={ s with heap:=g }) (f.frames i) x λm d j=>h m c (f.then d λb o q z=>by
  rcases ax.mp z with z|z
  .simp[z]
  .rw[show b=c by simpa using z]at q⊢;rcases a with a|a
   .rw[a]at q;cases q
   .simp[a]) j a
def Dp{l:Nt Env}(d:s.heap.FunFrames base l)(x:vy s.heap e T cls a0)
  (h:∀h' a,Stp (frs l) [e,T] s.heap h'->vy h' e a cls a0->(s.heap.get? a=Nd\/a=T)->Q () { s with heap:=h' }):Kc M A (LQ (.ref e) Nd) Q E s :=
 wL d x λh' c b=>h h' T c b<|.inr U
end
variable{P:Jl}{H:Hp}
section
variable{H':Hp}{h h':JD}{a:Jr}{o:HO}{F Y fs:Nt Jr}
def cS.there(x:cS P w H h a o):∃b,h.get? a=Nc b:=by
 cases o with
 |lst d=>obtain⟨_,_,_,_,e⟩:=x;exact(_,e,)
 |tup d=>obtain⟨_,_,_,b,e,_⟩:=x;exact(_,e,)
 |dK c=>obtain⟨_,_,_,_,o,_,_,e,_⟩:=x;exact(_,e,)
 |dT c=>obtain⟨_,_,_,_,o,_,_,e,_⟩:=x;exact(_,e,)
 |set S n=>obtain⟨o,_,_,_,e,_⟩:=x;exact(_,e,)
 |ins C j fs=>obtain⟨_,_,_,e,_⟩:=x;exact(_,e,)
 |own y=>obtain⟨_,e⟩:=x;exact(_,e,)
 |xd fs=>obtain⟨_,⟨_,_,_,e,_⟩,_⟩:=x;exact(_,e,)
 |rng lo hi=>obtain⟨_,_,_,e⟩:=x;exact(_,e,)
 |frz b u=>obtain⟨e,_⟩:=x;exact(_,e,)
 |tbl i=>exact(_,(show h.get? a=Nc _ from x),)
 |met f y=>exact(_,(show h.get? a=Nc _ from x),)
 |ext g=>obtain⟨_,⟨_,e⟩,_⟩:=x;calc(_,e,)
def HOk.none_of(x:HOk P w H h)(e:h.get? a=Nd):H a=none:=by
 cases q:H a with
 |none=>rfl
 |some u =>
  let(b,z):=(x a u q).there;rw[e]at z;cases z
def HOk.stp(x:HOk P w H h)(st:Stp F Y h h')(g:∀b∈F,H b=Nd)(f:∀b∈Y,H b=Nd):HOk P w H h':=λa o e =>
 (x a o e).stay (λb u c q=>by
  let d:H b≠none:=by
   rcases c with rfl|c
   .rw[e];simp
   .rw[c];simp
  exact st.keep b u (λz=>d<|g b z) (λz=>d<|f b z) q) (λ_ q=>q) λ_ _ q=>q
def Un.stp(u:Un fs [] k H d h)(st:Stp F Y h h')(r:∀b o,d.get? b=Nc o->b∈F->b∈fs)(p:∀b∈fs,b∈F)(m:∀b∈Y,d.get? b=Nd):Un fs [] k H d h':=by
 let i:∀b o,d.get? b=Nc o->b ∉ Y:=λb o q z=>by rw[m b z]at q;cases q
 refine(λb o q n c a=>st.keep b o (λz=>c<|r b o q z) (i b o q)<|u.keep b o q n c a,λb o q n c a=>?_,u.free,λb o q a=>?_,u.tups,u.frzs,u.tbls,)
 .let(s,f):=u.slot b o q n c a;let(e,g):=st.slot b _ (p b c) f;exact(e,g,)
 .let(l,f):=u.there b o q a;by_cases j:b∈F
  .let(e,g):=st.slot b _ j f;exact(_,g,)
  .exact(_,st.keep b l j (i b o q) f,)
end
def  CX1(P:Jl)(w:Je):CXT:=λa H s E f b=>∃(e T C:Jr)(d:I1×I1)(c:Hp),f=.ref e/\b.os=s.os/\AllBare b.gens/\Un (frs a) [] H c s.heap b.heap/\HOk P w c b.heap /\
 vy b.heap e T (.ref C) d/\s.heap.get? e=Nd/\s.heap.get? T=Nd/\c e=Nd/\c T=Nd/\∃m,(m=Nd->d.2=.none)/\E (.ref C) m c
structure fI(X:Cx)(Ni:Nt (Jr×Obj))(H:Hp)(b:Jr):Prop where
 ent:X.s₀.heap.get? b=Nd
 unt:H b=Nd
 loc:b≠X.env.locals
 cel:∀x c,X.env.cells.lookup x=Nc c->c≠b
 pin:∀p∈X.pn++Ni,p.1≠b
variable{Ni:Nt (Jr×Obj)}{σ:St}
section
variable{h':JD}{T:Jr}
def Inv.newAt(I:Inv X Ni σ H s)(e:X.ex=[])(a:s.heap.get? b=Nd):fI X Ni H b:=by
 refine(?_,I.hok.none_of a,?_,?_,?_,)
 .cases q:X.s₀.heap.get? b with
  |none=>rfl
  |some o =>
   let(h,d):=I.base.there b o q (by rw[e];simp);rw[a]at d;cases d
 .rintro rfl;let(m,(o,_,_,q,_),_):=I.loc;rw[a]at q;cases q
 .rintro x c g rfl;let(v,o,q,_):=I.cell x c g;rw[a]at q;cases q
 .rintro p f rfl;let(q,_):=I.pin p f;rw[a]at q;cases q
def Inv.excStep(I:Inv X Ni σ H s)(hx:X.ex=[])(st:Stp (frs X.stack) [e,T] s.heap h')(N:fI X Ni H e)(O:fI X Ni H T):Inv X Ni σ H { s with heap:=h' }:=by
 let j:∀b∈[e,T],fI X Ni H b:=λb g=>by
  rcases ax.mp g with rfl|g
  .exact N
  .rw[show b=T by simpa using g];exact O
 let G:∀b,b≠X.env.locals->b ∉ X.fs->b ∉ frs X.stack:=λb V S z=>(ax.mp<|I.stkSub b z).elim V S
 let y:∀b o,X.s₀.heap.get? b=Nc o->b ∉ [e,T]:=λb o q z=>by rw[(j b z).ent]at q;cases q
 let C:∀b o,X.s₀.heap.get? b=Nc o->b≠X.env.locals:=λb o q=>uR<|u7 (bi q) I.ok.above
 let any:∀b o,b ∉ [e,T]->s.heap.get? b=Nc o->∃w,h'.get? b=Nc { o with slots:=w }:=λb o P q=>by
  by_cases K:b∈frs X.stack
  .exact st.slot b o K q
  .exact(o.slots,st.keep b o K P q,)
 let f:∀x c,X.env.cells.lookup x=Nc c->∀v,s.heap.IsCell c v->h'.IsCell c v:=λx c h v (o,Q,hd,)=>by
  let(w,q):=any c o (λz=>(j c z).cel x c h U) Q;exact(_,q,hd,)
 refine(I.ok,I.os,I.bare,(λb o q n g a=>?_,λb o q n g a=>?_,I.base.free,λb o q a=>?_,I.base.tups,I.base.frzs,I.base.tbls,),?_,λx c h=>?_,I.free,I.freeC,λp J=>?_,I.hok.stp st I.stkFree<|λb g=>(j b g).unt,I.len,)
 .exact st.keep b o (G b (C b o q) g) (y b o q)<|I.base.keep b o q n g a
 .let(w,B):=I.base.slot b o q n g a;let(t,A):=any b _ (y b o q) B;exact(t,A,)
 .let(o1,B):=I.base.there b o q a;let(t,A):=any b _ (y b o q) B;exact(_,A,)
 .let(m,(M,W,Y,D,r),R):=I.loc;let(w,q):=any X.env.locals M (λz=>(j _ z).loc U) D;calc(m,(_,W,Y,q,r,),λi x v e1 e2 Z=>?_,);let(u,L,l):=R i x v e1 e2 Z;calc(u,L,?_,);rcases l with l|⟨k,c,h,z⟩
  .exact .inl l
  .exact .inr (k,c,h,f x c h _ z,)
 .let(v,z):=I.cell x c h;exact(v,f x c h v z,)
 .let(q,n,F,E,d):=I.pin p J;calc(st.keep p.1 p.2 (G p.1 F E) (λz=>(j _ z).pin p J U) q,n,F,E,d,)
end
structure ExcCls(K:am)(C:Jr):Prop where
 ex:∃(bmB bmN:Nt I1)(newId B Bn nid vA inN:String),W.excIn K C bmB newId=Nf/\ExcBaseFacts Bn newId inN bmN/\bmB.contains (zn Bn)=Nf/\ExcBaseFacts B nid vA bmB
def ExcCls.value{K:am}(h:W.excIn K C [.type "ValueError",.type "Exception",.type "BaseException",.type "object"] "ValueError.__new__" = Nf):ExcCls K C :=
 (_,_,_,_,_,_,_,_,h,PySem.F.excBase_ValueError,⋯,PySem.F.excBase_ValueError,)
def ExcCls.obj{K:am}{C:Jr}{h:JD}{b:Nt I1}{a:String}(c:K.In h)(e:W.excIn K C b a=Nf):∃bm N nm q bs hdct sn sub ab col dd k0 k1 k2 k3 k5 mN,
   h.get? C=Nc (excClassObj nm q C N bs bm hdct sn sub ab col dd k0 k1 k2 k3 k5 a)/\h.Ns N mN/\mN "__init__" = Nd/\OwnTail h b bm:=by
 unfold W.excIn at e;split at e
 .rename_i dd cd sl lk
  split at e
  .rename_i C' bm k0 k1 k2 k3 n k5 em es
   simp only[EY,beq_iff_eq,Bool.not_eq_true']at e;let(((((rfl,rfl),hd),g),d),hi):=e;let(nm,bs,j,i,q,hdct,sn,sub,ab,col,k):=cd;dsimp only at em hd g d hi;subst em hd;let f:sl = #[k0,k1,k2,k3,Nc<|I1.builtin n,k5]:=by
    apply P6.mp
    rw[es]
   subst f;exact(bm,i,nm,q,bs,hdct,sn,sub,ab,col,dd,k0,k1,k2,k3,k5,_,c _ _ lk,JD.Ns.of_isNs<|W.isNs_of_in c d,W.nsMap_none_of_in c d hi,W.tail_of_in c g,)
  .cases e
 .cases e
variable{K:am}
section
variable{mg:Str->Option I1}{N:Nt Str}{qual:Str}{scope:JZ}{f:Jr}{cd:I1}{outer:Nt Env}{s0:JY}{H0:Hp}{E:XK}
def  Dq(C:Jr)(E:XK)(t:TA):TS:=λ_ σ H=>t σ H λa b=>⇑a<=JR/\E (.ref C) Nd b
end
def  XP(X:Cx)(Ni:Nt (Jr×Obj))(σ:St)(d:Jr->Qd)(b:I1)(s':JY):Prop :=
 ∃(e T C:Jr)(c:I1×I1)(a:Hp),b=.ref e/\Inv X Ni σ a s'/\vy s'.heap e T (.ref C) c/\fI X Ni a e/\fI X Ni a T/\d C a
def  aV(P:Jl)(w:Je)(K:am)(mg:Str->Option I1)(base:JD)(k:Nat)(x:Str)(ps:Nt Str)(sp:Sp):Prop :=
 ∃f a,aL P w K mg base (CX1 P w) k f a ps sp/\Binds K a ps []/\GE K (.ref f)=Nf/\mg x=↑f
def aV.mono{P:Jl}{w:Je}{K:am}{mg:Str->Option I1}{base:JD}{j k:Nat}{x:Str}{ps:Nt Str}{sp:Sp}(C:aV P w K mg base j x ps sp)(h:j<=k):aV P w K mg base k x ps sp:=by
 let(f,a,F,r):=C;calc(f,a,F.mono h,r,)
section
variable{s':JY}
end
variable{k:Nat}{x:Str}{ps:Nt Str}{sp:Sp}{pos:Pos}
section
variable{e:Ke}{es:Nt Ke}{t:TA}{p:Pos}
abbrev TSX:=Ends->St->Hp->(Jr->Qd)->Prop
end
def  sfx(X:Cx)(e:Jr)(oe:Obj):Cx:={ X with A:=X.A.mark<|↑e,calm:=Ng,pn:=(e,oe) :: X.pn,xe:=λ_ _=>False }
section
variable{s':JY}
def Inv.suite(I:Inv X Ni σ H s)(d:s.heap.get? e=Nc oe)(b:fI X Ni H e)(hd:∀v,oe.data≠.cell v)(c:e ∉ X.fs):Inv (sfx X e oe) Ni σ H s:=by
 calc((I.ok.mod,I.ok.kind,I.ok.glob,I.ok.blt,I.ok.above,I.ok.inj,I.ok.has,I.ok.cab,λz=>Nl z cr,I.ok.frames,I.ok.stk,I.ok.exf,I.ok.bs,I.ok.bsz,I.ok.noex,I.ok.exfs,I.ok.funs,I.ok.frf,),I.os,I.bare,I.base,I.loc,I.cell,I.free,I.freeC,λp a=>?_,I.hok,I.len,);rcases ax.mp (show p∈(e,oe) :: (X.pn++Ni)from a)with rfl|a
 .exact(d,b.unt,b.loc,c,hd,)
 .exact I.pin p a
def Inv.unsuite(ok:X.Ok)(I:Inv (sfx X e oe) Ni σ H s):Inv X Ni σ H s :=
 (ok,I.os,I.bare,I.base,I.loc,I.cell,I.free,I.freeC,λp a=>I.pin p<|dz (e,oe) a,I.hok,I.len,)
def Inv.excObj(I:Inv (sfx X e oe) Ni σ H s):s.heap.get? e=Nc oe:=(I.pin (e,oe)<|lj _ cF).1
def Inv.unbound(I:Inv X Ni σ H s)(hi:X.N[i]?=Nc x)(R:X.N.Nodup)(C:s.heap.Ns X.env.locals m)(L:h'.Ns X.env.locals λy=>if y=x then u else m y)(a:wS X.env.locals s.heap h') :
  Inv X Ni (σ.set i Nd) H { s with heap:=h' }:=by
 let cne:=I.cne;let(W,_,_,V,_):=id C;refine(I.ok,I.os,I.bare,(λb o e n v h=>?_,λb o e n v h=>?_,I.base.free,λb o e h=>?_,I.base.tups,I.base.frzs,I.base.tbls,),(_,L,λj y D g f T=>?_,),λy c e=>?_,I.free,I.freeC,λp P=>?_,?_,~~~I.len,)
 .exact(a.2 b<|uR<|u7 (bi e) I.ok.above).trans (I.base.keep b o e n v h)
 .let(F,g):=I.base.slot b o e n v h;exact(F,(a.2 b<|uR<|u7 (bi e) I.ok.above).trans g,)
 .let(K,g):=I.base.there b o e h;exact(K,(a.2 b<|uR<|u7 (bi e) I.ok.above).trans g,)
 .by_cases t:j=i
  .subst t;by_cases l:j<σ.length
   .rw[Nw l]at f;cases f
   .rw[ll (~~~l)]at f;cases f
  .rw[Og (IR t)]at f;let(O,w,Q):=I.loc;let(E,G,q):=Q j y D g f T;let S:O=m:=by rw[w.eq_nsMap,C.eq_nsMap]
   subst S;calc(E,G,?_,);rcases q with⟨k,e⟩|⟨k,c,e,z⟩
   .refine .inl (k,?_,);let:y≠x:=λe=>t<|jk R g<|e ▸ hi
    simp[this,e]
   .exact .inr (k,c,e,z.sameBut a<|cne y c e,)
 .let(A,z):=I.cell y c e;exact(A,z.sameBut a<|cne y c e,)
 .let(e,n,B,M,d):=I.pin p P;exact((a.2 p.1 B).trans e,n,B,M,d,)
 .intro b J e;refine(I.hok b J e).stay (λc A r q=>(a.2 c ?_).trans q) (λ_ q=>q) λ_ _ q=>q
  rintro rfl;rcases r with rfl|r
  .rw[I.free]at e;cases e
  .rw[I.free]at r;cases r
end
def jS(I:Inv X Ni σ H s)(e:X.N.Nodup)(hi:X.N[i]?=Nc x)(a:X.env.scope.names.lookup x=Nc .local)
  (h:∀s',Inv X Ni (σ.set i Nd) H s'->Q () s'):Kc M A (do bindName X.env x pr;unbindBehindTheSuite X.env x pos) Q E s:=by
 calc GS<|wpAny_bindName<|jl I e hi (.inl a) (v:=.non) (u:=pr) U (λp f=>?_)<|.inr a;calc wpAny_onRaise ?_;let(m,d,j):=f.loc;let c:i<σ.length:=by rw[I.len];exact(JP.mp hi).1
 let(u,q,l):=j i x .non hi (by rw[Nw c]) (.inl a);let o:(X.env.scope.kind == .class || (X.env.scope.kind == .module && X.env.locals != X.env.globals))=false:=by rw[I.ok.kind];rfl
 rcases l with⟨k,n⟩|⟨k,_⟩
 .refine wpAny_unbindName_local a d n o λr v g sb=>?_
  let J:=f.unbound hi e d g sb;rw[List.set_set]at J;exact h _ J
 .exfalso;let b:X.env.kindOf x=Nc .local:=a;rcases k with k|k
  .rw[b]at k;cases k
  .rw[b]at k;cases k
def  Gs(i:Nat)(B:Jr)(K:am)(G:Jr->Prop)(c:TSX)(ts:Jr->Jr->TS):TS:=λD σ H=>c D σ H λC d=>W.exmOne K (.ref C) (.ref B)=Nc Nf/\G C /\
 ∀e,ts C e { nx:=λa b=>D.nx (a.set i Nd) b,rt:=D.rt,bk:=λa b=>D.bk (a.set i Nd) b,ct:=λa b=>D.ct (a.set i Nd) b } (σ.set i<|↑e) d
section
variable{st b₀:Ki}{su:Nt Ki}{tb:TSX}{ts:Jr->Jr->TS}{Tn n:Str}{B:Jr}{np Bg:Pos}
end
structure jT(K:am)(C:Jr):Prop where
 ga:xz K (.ref C) "__getattribute__" = Nc (Nc<|.builtin "BaseException.__getattribute__")
 hk:xz K (.ref C) "__getattr__" = Nc Nd
 cl:xz K (.ref C) "__class__" = Nc (Nc<|.builtin "object.__class__")
 gt:NY K (.builtin "object.__class__") "__get__" = Nc (Nc<|.builtin "getset_descriptor.__get__")
 tk:W.takesIn K (.builtin "object.__class__")=Nc Nf
 ob:OH K C (.type "object")=Nc Nf
 be:OH K C (.type "BaseException")=Nc Nf
 me:W.kitCls K (.ref C) (.ref C)=Nc Nf
variable{C:Jr}
def iS(g:a.get? e=Nc oe)(c:oe.cls=.ref C):W.Looks M a (Lu<|.ref e) (.ref C):=λf b d h k r=>by
 let z:=LR (M:=M) (A:=f) (E:=d) (Q:=b)<|k _ _ g;rw[c]at z;calc z r
def qk(i:K.In s.heap)(g:s.heap.get? e=Nc oe)(c:oe.cls=.ref C)(b:OH K C (.type "object")=Nc Nf) (h:R (.ok<|.ret<|.ref C) s) :
  K4 (model prog w) A (.call (.builtin "getset_descriptor.__get__") ([.builtin "object.__class__",.ref e,tp],[],)) R s:=by
 let a:∀{M:Kb},W.Looks M s.heap (Lu<|.ref e) (.ref C):=iS g c;let f:∀{M:Kb},W.Looks M s.heap (isSubtype (.ref C)<|.type "object") true:=W.looks_mroIn i b;calc LS W.KF.slot_gs.plain W.KF.entry_gs<|W.KF.slot_gs.check _ _ _ _ _ _ _ _ W.KF.type_class (W.KF.args_gs _ _ tp) ?_;show Kc _ _ (do let __x ←PQ ⟨[.builtin "object.__class__",.ref e,tp],[]⟩;match __x with|(d,obj,snd)=>PP d obj) _ _ s;rw[W.dga_obj];calc GS<|GU ?_;show Kc _ _ (do ND (.builtin "object.__class__") (.ref e);again (K8.builtin "object.__class__" ([.ref e],[],))) _ _ s;let dn:PN (.builtin "object.__class__")=pure (s!"__class__",zn "object"):=by
  show pure (Str.ofString (NF "object.__class__").2,zn (NF "object.__class__").1)=_;rw[W.KF.owner_class]
 unfold ND;rw[dn];calc GS<|GS<|GU ?_;calc GS<|GS<|a _ _ _ _ (λ_ _ q=>q)<|f _ _ _ _ (λ_ _ q=>q) ?_;calc LU U<|GU ?_;calc GU (OM _<|~~~0,LW W.KF.entry_class ?_,);calc GS<|GS<|a _ _ _ _ (λ_ _ q=>q) ?_;calc LU U<|GU<|GU h
def xO(j:K.In s.heap)(g:s.heap.get? e=Nc oe)(c:oe.cls=.ref C)(f:OH K C (.type "BaseException")=Nc Nf) (h:Q () s) :
  Kc M A (LX "BaseException.__getattribute__" ([.ref e,d],[],)) Q E s:=by
 let i:builtinKind "BaseException.__getattribute__" = Nc .slot:= ~~~0
 let b:splitId "BaseException.__getattribute__" = Nc ("BaseException","__getattribute__"):= ~~~0
 let a:=PySem.F.args_bexc_ga (.ref e) d;unfold LX;rw[i,b];calc GS<|GS<|iS g c _ _ _ _ (λ_ _ q=>q)<|W.looks_mroIn j f _ _ _ _ (λ_ _ q=>q) ?_;calc LU U ?_;unfold LY at a;generalize Manifest.signature? "BaseException.__getattribute__" = sg at a⊢;cases sg with
 |none=>exact GU h
 |some k=>calc LZ a h
def xP(a:K.In s.heap)(X:jT K C)(g:s.heap.get? e=Nc oe)(c:oe.cls=.ref C)(h:Q ↑C { s with toks:=s.toks+1 }):Kc (model prog w) A (getAttr? (.ref e) "__class__") Q E s:=by
 let b:∀{M:Kb},W.Looks M s.heap (Lu<|.ref e) (.ref C):=iS g c;calc GS<|wpAny_mkText<|GS<|L0<|GV<|GS<|b _ _ _ _ (λ_ _ q=>q)<|GS<|Op a X.ga _ _ _ _ (λ_ _ q=>q) ?_;calc LU U ?_;calc GS ?_;show Kc _ _ (if onTheHeap (.ref C)=Nf then Ln (.ref C) "__getattr__" else pure Nd) _ _ _;calc L1 U<|Op a X.hk _ _ _ _ (λ_ _ q=>q) ?_;calc GS<|L0<|GV ?_;show Kc _ _ (if (Ng && onTheHeap (.builtin "BaseException.__getattribute__"))=Nf then _ else boundAndCalled (.builtin "BaseException.__getattribute__") (.ref e) (OL s!"__class__" s.toks)) _ _ _;calc LU U<|GS<|LZ (PySem.F.attr_ValueError.ga.bind<|.ref e)<|Lc ?_;calc LS PySem.F.attr_ValueError.ga.plain PySem.F.entry_bexc_ga<|xO (s:={ s with toks:=s.toks+1 }) a g c X.be ?_;refine GS<|LZ (show L3 "__getattribute__" 1 ([.ref e,OL s!"__class__" s.toks],[],)=pure (io e,[OL s!"__class__" s.toks])from U) ?_;refine GS<|LZ (show KR.ObjectAttr.attrName (OL s!"__class__" s.toks)=pure s!"__class__"from U) ?_;calc GS<|b _ _ _ _ (λ_ _ q=>q) ?_;calc GS ?_;unfold KR.ObjectAttr.find;calc GS<|Op a X.cl _ _ _ _ (λ_ _ q=>q) ?_;calc GS<|W.looks_specialIn a X.gt _ _ _ _ (λ_ _ q=>q) ?_;calc GS<|GS<|W.looks_takesIn a X.tk _ _ _ _ (λ_ _ q=>q)<|L1 U<|GU ?_;calc GS<|L4<|GU ?_;calc GS<|GV<|Lc<|qk (s:={ s with toks:=s.toks+1 }) a g c X.ob ?_;calc GU<|W.handed_on U<|GU h
def oI(X:jT K C)(c:oe.cls=.ref C):W.KitX K (.ref e) (.ref C) λh=>h.get? e=Nc oe where
 ty:=λM h a g=>iS g c
 it:=λM h a g=>(W.kit_cls a X.me).2.1
 ne:=λh tp dd f n i a g=>by
  refine EU.mpr λz=>?_
  let b:=I1.ref.inj<|beq_iff_eq.mp z;subst b;let m:=X.be;unfold OH W.clsIn at m;cases q:Da C K with
  |none=>rw[q]at m;cases m
  |some o =>
   let k:=a C o q;rw[g]at k;let d:=bn k;rw[q,←d]at m;cases m
 ca:=λ{prog w A E Q s} a g h=>xP a X g c h
def ra:∀{cs:Nt Jr}{us:Nt I1},Vals (cs.map Qf) us->us=cs.map io
 | [],_,.nil=>rfl
 |c :: cs,_,.cons r t=>by rw[ra t];calc Nq (· :: cs.map io) r
def eA(c:oe.cls=.ref C)(L:jT X.K C):dq (sfx X e oe) (.builtin "isinstance") (λxs H Q=>∃y b,xs=[.ref e,y]/\((∃B,y=.ref B/\sB X.K (.ref C) (.ref B)=Nc b)\/(∃T,y=.ty T/\sB X.K (.ref C) (.type T)=Nc b) \/
  (∃(tp:Jr)(cs:Nt Jr),y=.ref tp/\H tp=Nc (.tup<|cs.map Qf)/\W.kitAny X.K (.ref C) (cs.map io)=Nc b))/\Q (.bl b) H):=by
 intro Ni s σ H xs A Q I r h;let(y,b,rfl,t,q):=h;let g:=I.excObj;let f:X.K.In s.heap:=I.kIn;cases r with
 |cons l p =>
  cases p with
  |cons d o =>
   cases o;cases (show _=io e from l);let fin:∀a,EP (sfx X e oe) Ni σ Q (OV b) { s with toks:=a }:=λa=>(.bl b,H,I.tok a,U,q,)
   rcases t with⟨B,rfl,k⟩|⟨T,rfl,k⟩|⟨tp,cs,rfl,u,k⟩
   .cases (show _=io B from d);exact Do (oI L c) f g k (λz=>nomatch z) fin
   .cases (show _=zn T from d);exact Do (oI L c) f g k (λz=>nomatch z) fin
   .cases (show _=io tp from d);let(_,x,m,(cl,dd,E,D),v,j,n,i):=I.hok tp _ u;let w:=ra m;subst w;dsimp only at j i;subst j i;calc W.kia_tup (oI L c) f g v k (λz=>nomatch z) fin
def Cv:Passes (CX1 P w) X E0:=λ_ _ _ _ _ _ _ h=>by
 let(_,_,_,_,_,_,_,_,_,_,_,_,_,_,_,_,_,q):=h;calc lf q
def  bz(CX:CXT)(P:Jl)(w:Je)(K:am)(mg:Str->Option I1)(base:JD)(k:Nat)(C:Jr)(m:Str)(ps:Nt Str)(sp:Sp):Prop :=
 ∃f a,Meth K C m f/\aL P w K mg base CX k f a ps sp/\Binds K a ps []
def  bo(CX:CXT)(P:Jl)(w:Je)(K:am)(mg:Str->Option I1)(base:JD)(k:Nat)(x:Str)(C:Jr)(ps:Nt Str)(sp:Sp):Prop :=
 ∃f a,Mk K C f/\aL P w K mg base CX k f a ps sp/\Binds K a ps []/\mg x=↑C
structure EV(K:am)(B:Jr)(m:Str)(f:Jr):Prop where
 sp:NY K (.ref B) "__getattribute__" = Nc (Nc<|.builtin "type.__getattribute__")
 rd:W.readsIn K B (.type "type")=Nf
 at_:W.findCls K (.ref B) (.type "type") m=Nc (.val<|.ref f)
 kp:GE K (.ref f)=Nf
def  cH(CX:CXT)(P:Jl)(w:Je)(K:am)(mg:Str->Option I1)(base:JD)(k:Nat)(x:Str)(m:Str)(ps:Nt Str)(sp:Sp):Prop :=
 ∃f a B,EV K B m f/\aL P w K mg base CX k f a ps sp/\Binds K a ps []/\mg x=↑B
section
variable{CX:CXT}{mg:Str->Option I1}{j:Nat}{m:Str}
def bz.mono(c:bz CX P w K mg base j C m ps sp)(h:j<=k):bz CX P w K mg base k C m ps sp:=by
 let(f,a,M,F,b):=c;calc(f,a,M,F.mono h,b,)
def bo.mono(c:bo CX P w K mg base j x C ps sp)(h:j<=k):bo CX P w K mg base k x C ps sp:=by
 let(f,a,M,F,b):=c;calc(f,a,M,F.mono h,b,)
def cH.mono(c:cH CX P w K mg base j x m ps sp)(h:j<=k):cH CX P w K mg base k x m ps sp:=by
 let(f,a,B,M,F,b):=c;calc(f,a,B,M,F.mono h,b,)
end
inductive EW(C:Jr)(m:Str)(sp:Sp)(t:TA)(σ:St)(Q:VK)(x:V)(H1:Hp):Prop
 |mk (a dx fs:_)(_:x=.ref a)(_:H1 a=Nc (.ins C dx fs))(_:fs.lookup m=Nd)(_:t σ H1 λvs H2=>sp (x :: vs) H2 Q E0)
def  tMt(C:Jr)(m:Str)(sp:Sp)(a:TE)(t:TA):TE:=λσ H Q=>a σ H λx b=>EW C m sp t σ Q x b
def  tMk(C:Jr)(sp:Sp)(t:TA):TE:=λσ H Q=>t σ H λc b=>∀x a,b x=Nd->b a=Nd->a≠x ->
 sp (.ref x :: c) (upd (upd b a<|.own x) x<|.ins C a []) (λv d=>v=.non/\Q (.ref x) d) E0
section
variable{CX:CXT}{f:Jr}{fd:K9}{m:Str}{p np apos:Pos}{e o:Ke}{es:Nt Ke}{ta:TE}{t:TA}
def Bh{Q:VK}{us:Nt I1}{vs:Nt V}{E:XK}(F:aL X.prog X.w X.K X.mg X.base CX k f fd ps sp)(b:bV k X.A)(c:Binds X.K fd ps [])(a:Passes CX X E)
  (I:Inv X Ni σ H s)(r:Vals vs us)(h:sp vs H Q E):Kc (model X.prog X.w) X.A (call (.ref f) us) (EP X Ni σ Q) X.xe s :=
 rR (dvs:=[]) (ds:=[]) F b c .nil a I r (by rw[ik];exact h)
def rb{pl:Sem Bool}(M:bz CX X.prog X.w X.K X.mg X.base k C m ps sp)(z:Passes CX X E0)(c:Cls X.K C)(D:bV k X.A)(E:PE X o ta)(J:PA X (e :: es) t)
  (b:Kh (e :: es) X.env=(Ng,eval e X.env) :: Kh es X.env:=by rfl)(d:(Kg pos<|Kh es X.env).any (·.1)=false:=by rfl)
  (B:eval (.Call (.Attribute o m apos) (e :: es) [] pos) X.env=(do
   let g ←eval o X.env
   Kn apos.atName
   let (f,first) ←holding [g] (K2 g m pl)
   L5 pos f first (Kg pos<|Kh (e :: es) X.env) (Lv pos<|Lw [] X.env)):=by rfl) :
  PE X (.Call (.Attribute o m apos) (e :: es) [] pos) (tMt C m sp ta t):=by
 let(f,fd,i,F,G):=M;intro Ni s σ H Q I h;calc OU (pl:=pl) (thn (E Ni s σ H _ I h) λu p (x,O,n,v,a,P,fs,L,N,l,q,)=>?_) B;subst L;obtain rfl:u=io a:=v;calc ox n N c i l ?_;calc EQ (first:=[.ref a]) (h₀:=X.base) I.ok.mod.kin i.kp (thn (J pos Ni p σ O _ n q) λus s2 (vs,R,j,r,y,)=>(j.kIn,?_,)) b d;calc Bh (us:=.ref a :: us) (vs:=.ref a :: vs) F D G z j (.cons U r) y
def gN{pl:Sem Bool}(M:cH CX X.prog X.w X.K X.mg X.base k x m ps sp)(l:Passes CX X E0)(o:bV k X.A)(q:Gl X x)(y:PA X (e :: es) t)(d:(x == ("__debug__" : Str))=false:=by decide)
  (b:Kh (e :: es) X.env=(Ng,eval e X.env) :: Kh es X.env:=by rfl)(c:(Kg pos<|Kh es X.env).any (·.1)=false:=by rfl)
  (n:eval (.Call (.Attribute (.Name x np) m apos) (e :: es) [] pos) X.env=(do
   let g ←eval (.Name x np) X.env
   Kn apos.atName
   let (f,first) ←holding [g] (K2 g m pl)
   L5 pos f first (Kg pos<|Kh (e :: es) X.env) (Lv pos<|Lw [] X.env)):=by rfl) :
  PE X (.Call (.Attribute (.Name x np) m apos) (e :: es) [] pos) (tFn sp t):=by
 let(f,fd,B,a,F,u,p):=M;intro Ni s σ H Q I h;calc OU (pl:=pl) (dM I q p ?_ d) n;calc W.method_cls I.kIn a.sp<|W.cls_value (mc:=.type "type") I.kIn a.rd a.at_ (qR (v:=.ref f) U) ?_;calc EQ (first:=[]) (h₀:=X.base) I.ok.mod.kin a.kp (thn (y pos Ni _ σ H _ (I.tok _) h) λus s2 (vs,z,i,r,j,)=>(i.kIn,?_,)) b c;calc Bh (us:=us) (vs:=vs) F o u l i r j
def ip(M:bo CX X.prog X.w X.K X.mg X.base k x C ps sp)(l:Passes CX X E0)(m:bV (k+1) X.A)(o:Gl X x)(u:PA X (e :: es) t)(i:(x == ("__debug__" : Str))=false:=by decide)
  (he:Kh (e :: es) X.env=(Ng,eval e X.env) :: Kh es X.env:=by rfl)(g:(Kg pos<|Kh es X.env).any (·.1)=false:=by rfl) :
  PE X (.Call (.Name x p) (e :: es) [] pos) (tMk C sp t):=by
 let(f,fd,M,F,r,n):=M;let h:=A8 (E:=E0) (dvs:=[]) (ds:=[]) (p:=p) M F m o n r .nil l u i he g;intro Ni s σ H Q I q;calc h Ni s σ H Q I ?_;let j:t σ H λc b=>∀x a,b x=Nd->b a=Nd->a≠x->sp (.ref x :: c) (upd (upd b a<|.own x) x<|.ins C a []) (λv d=>v=.non/\Q (.ref x) d) E0:=q
 show t σ H λc b=>∀x a,b x=Nd->b a=Nd->a≠x->sp (.ref x :: (c++[])) (upd (upd b a<|.own x) x<|.ins C a []) (λv d=>v=.non/\Q (.ref x) d) E0
 let y:(λ(c:Nt V)(b:Hp)=>∀x a,b x=Nd->b a=Nd->a≠x->sp (.ref x :: (c++[])) (upd (upd b a<|.own x) x<|.ins C a []) (λv d=>v=.non/\Q (.ref x) d) E0)=λc b=>∀x a,b x=Nd->b a=Nd->a≠x->sp (.ref x :: c) (upd (upd b a<|.own x) x<|.ins C a []) (λv d=>v=.non/\Q (.ref x) d) E0:=by
  funext c b
  rw[ik]
 rw[y];calc j
end
inductive zw(K:am)(neg:Bool)(x:V)(y:V)(H:Hp)(Q:VK):Prop
 |mk (a b xs ys:_)(_:x=.ref a)(_:y=.ref b)(_:SqT K H a xs)(_:SqT K H b ys)(f:Nat->Bool)(_:(∀j x y,xs[j]?=Nc x->ys[j]?=Nc y->EqI K H x y (f j)))(_:Q (.bl (if neg then !((db<|min ⇑xs ⇑ys).all f && ⇑xs == ⇑ys) else(db<|min ⇑xs ⇑ys).all f && ⇑xs == ⇑ys)) H)
def zA(o:bV k X.A):OpR X (KY .Eq) (zw X.K Ng):=by
 intro Ni s σ H x y v u Q I j i h;let(a,b,C,B,rfl,rfl,z,w,f,t,q):=h;cases (show v=io a from j);cases (show u=io b from i);let(d,r,p,_):=I.tuple z;let(c,g,l,_):=I.tuple w;let n:=⇑r;let m:=⇑g;let D:=o.units;refine P1 (e:=f) (show s.heap.IsTuple a d.toArray from p) (show s.heap.IsTuple b c.toArray from l) ∅ (vp I (by show X.A.units+1+1<K7;lia) r g t) (.bl _,H,I,U,?_,);simp only[cM];rw[←n,←m];calc q
def Dr(o:bV k X.A):OpR X (KY .NotEq) (zw X.K Nf):=by
 intro Ni s σ H x y v u Q I j i h;let(a,b,D,C,rfl,rfl,B,z,f,t,q):=h;cases (show v=io a from j);cases (show u=io b from i);let(d,r,p,_):=I.tuple B;let(c,g,l,_):=I.tuple z;let n:=⇑r;let m:=⇑g;let E:=o.units;refine ON (e:=f) (show s.heap.IsTuple a d.toArray from p) (show s.heap.IsTuple b c.toArray from l) ∅ (vp I (by show X.A.units+1+1<K7;lia) r g t) X.prog X.w X.xe _ (.bl _,H,I,U,?_,);simp only[cM];rw[←n,←m];calc q
def aL.no(h:∀vs H Q E,¬ sp vs H Q E):aL P w K mg base CX k f a ps sp :=
 (λvs H Q E q=>(h vs H Q E q).elim,λ_ _ _ H _ _ vs Q E _ _ _ _ q=>(h vs H Q E q).elim,)
def nW{X:Cx}{K:am}{e:Ke}(h:X.K=K)(b:PE X e a)(c:K5 e f X.env (eval e X.env)=eval e X.env):PE X (.Attribute e f pos) (EF K a f):=h ▸ aU b c
set_option maxRecDepth 100000
inductive DEq(K:am)(H:Hp):Nat->V->V->Bool->Prop where
 |flat {n:Nat}{x y:V}(fx:je x=Nf)(fy:je y=Nf):DEq K H n x y (eqV x y)
 |same {n:Nat}(a:Jr):DEq K H n (.ref a) (.ref a) Nf
 |lst {n:Nat}{a b:Jr}{xs ys:Nt V}{f:Nat->Bool}(ne:a≠b)(ha:SqL K H a xs)(hb:SqL K H b ys)(hl:⇑xs=⇑ys)(h:∀(j:Nat)(x y:V),xs[j]?=Nc x->ys[j]?=Nc y->DEq K H n x y (f j)):DEq K H (n+1) (.ref a) (.ref b) ((db ⇑xs).all f)
 |lst_ne {n:Nat}{a b:Jr}{xs ys:Nt V}(ne:a≠b)(ha:SqL K H a xs)(hb:SqL K H b ys)(hl:⇑xs≠⇑ys):DEq K H (n+1) (.ref a) (.ref b) Ng
 |tup {n:Nat}{a b:Jr}{xs ys:Nt V}{f:Nat->Bool}(ne:a≠b)(ha:SqT K H a xs)(hb:SqT K H b ys)(h:∀(j:Nat)(x y:V),xs[j]?=Nc x->ys[j]?=Nc y->DEq K H n x y (f j)):DEq K H (n+1) (.ref a) (.ref b) ((db<|min ⇑xs ⇑ys).all f && ⇑xs == ⇑ys)
def DEq.mono{K:am}{H:Hp}{n m:Nat}{x y:V}{b:Bool}(e:DEq K H n x y b)(h:n<=m):DEq K H m x y b:=by
 induction e generalizing m with
 |flat q p=>exact .flat q p
 |same a=>exact .same a
 |lst c f d i _ g =>
  let(m,rfl):∃k,m=k+1:=(m-1,∅,);exact .lst c f d i λj x y o l=>g j x y o l ∅
 |lst_ne c f d i =>
  let(m,rfl):∃k,m=k+1:=(m-1,∅,);exact .lst_ne c f d i
 |tup c f d _ g =>
  let(m,rfl):∃k,m=k+1:=(m-1,∅,);calc .tup c f d λj x y o l=>g j x y o l ∅
def gW(r:Vals xs a)(h:j<a.toArray.size):∃x,xs[j]?=Nc x/\RelV x a.toArray[j]:=by
 let f:j<⇑a:= ~~~h
 let i:=⇑r;let b:xs[j]?=Nc xs[j]:=JO ∅;let(d,c,e):=r.get b;let g:a.toArray[j]=d:=by
  let:=JO f;rw[this]at c;simpa using bn c
 calc(xs[j],b,g ▸ e,)
def DEq.at{n:Nat}{x y:V}{b:Bool}(e:DEq X.K H n x y b)(I:Inv X Ni σ H s):∀{A:JX}{u v:I1},A.units+n<K7->RelV x u->RelV y v->NJ A s u v b:=by
 induction e with
 |flat G F=>intro A u v o i g;exact vn i g G F
 |same a =>
  intro A u v o i g;cases (show u=io a from i);cases (show v=io a from g);exact NW _
 | @lst n a b xs ys f ne ha hb hl h ih =>
  intro A u v o i g;cases (show u=io a from i);cases (show v=io b from g);let(d,r,p,_):=I.list ha;let(c,k,l,_):=I.list hb;let E:=⇑r;let D:=⇑k;let m:=SeqAt.RcAt.lists (A:=A) (e:=f) p.isList l.isList (by simp only[cM];lia) ∅ (λj z w=>by
   let(x,C,t):=gW r z;let(y,B,q):=gW k w;exact ih j x y C B (by show A.units+1+n<K7;lia) t q)
  rw[show d.toArray.size=⇑xs by simp only[cM];lia]at m;exact Go ne m
 | @lst_ne n a b xs ys ne ha hb hl =>
  intro A u v o i g;cases (show u=io a from i);cases (show v=io b from g);let(d,r,p,_):=I.list ha;let(c,k,l,_):=I.list hb;let E:=⇑r;let D:=⇑k;exact Go ne<|SeqAt.RcAt.lists_lengths p.isList l.isList (by simp only[cM,bne_iff_ne,ne_eq];lia) ∅
 | @tup n a b xs ys f ne ha hb h ih =>
  intro A u v o i g;cases (show u=io a from i);cases (show v=io b from g);let(d,r,p,_):=I.tuple ha;let(c,k,l,_):=I.tuple hb;let E:=⇑r;let D:=⇑k;let m:=Od (A:=A) (e:=f) (show s.heap.IsTuple a d.toArray from p) (show s.heap.IsTuple b c.toArray from l) ∅ (λj z w=>by
   let(x,C,t):=gW r z;let(y,B,q):=gW k w;exact ih j x y C B (by show A.units+1+n<K7;lia) t q)
  rw[show d.toArray.size=⇑xs by simp only[cM];lia,show c.toArray.size=⇑ys by simp only[cM];lia]at m;calc Go ne m
inductive zB(K:am)(neg:Bool)(x:V)(y:V)(H:Hp)(Q:VK):Prop
 |mk (a b xs ys:_)(_:x=.ref a)(_:y=.ref b)(_:SqL K H a xs)(_:SqL K H b ys)(_:((⇑xs≠⇑ys/\Q (.bl neg) H)\/(⇑xs=⇑ys/\∃f:Nat->Bool,(∀(j:Nat)(x y:V),xs[j]?=Nc x->ys[j]?=Nc y->DEq K H 60 x y (f j))/\Q (.bl (if neg then !(db ⇑xs).all f else(db ⇑xs).all f)) H)))
def Bi{A:JX}{xs ys:Nt V}{a its':Nt I1}{f:Nat->Bool}(I:Inv X Ni σ H s)(h:A.units+60<K7)(r:Vals xs a)(d:Vals ys its')
  (hf:∀(j:Nat)(x y:V),xs[j]?=Nc x->ys[j]?=Nc y->DEq X.K H 60 x y (f j)):∀j (c:j<a.toArray.size)(b:j<its'.toArray.size),NJ A s a.toArray[j] its'.toArray[j] (f j):=λj c b=>by
 let(x,k,g):=gW r c;let(y,i,e):=gW d b;calc(hf j x y k i).at I h g e
def Bj(n:bV k X.A):OpR X (KY .Eq) (zB X.K Ng):=by
 intro Ni s σ H x y v u Q I m l h;let(a,b,j,z,rfl,rfl,w,t,h):=h;cases (show v=io a from m);cases (show u=io b from l);let(c,r,p,_):=I.list w;let(i,d,g,_):=I.list t;let C:=⇑r;let B:=⇑d;let D:=n.units;rcases h with⟨E,q⟩|⟨F,f,o,q⟩
 .refine O4 p.isList g.isList (by simp only[cM,bne_iff_ne,ne_eq];lia) ∅ (.bl Ng,H,I,U,q,)
 .refine SeqAt.eq_listAt (e:=f) p.isList g.isList (by simp only[cM];lia) ∅ (Bi I (by show X.A.units+1+60<K7;lia) r d o) (.bl _,H,I,U,?_,);rw[show c.toArray.size=⇑j by simp only[cM];lia];exact q
set_option maxRecDepth 100000
section
variable{tg:Ke}
inductive vB(K:am)(x:V)(y:V)(H:Hp)(Q:VK):Prop
 |mk (a b xs ys:_)(_:x=.ref a)(_:y=.ref b)(_:SqT K H a xs)(_:SqT K H b ys)(_:⇑xs+⇑ys<=JR)(_:(xs=[]->Q (.ref b) H))(_:(xs≠[]->ys=[]->Q (.ref a) H))(_:(xs≠[]->ys≠[]->∀p,H p=Nd->Q (.ref p) (upd H p<|.tup<|xs++ys)))
def zC:OpR X (KU .Add) (vB X.K):=by
 intro Ni s σ H x y v u Q I o m h;let(a,b,l,z,rfl,rfl,t,r,N,G,E,D):=h;by_cases c:l=[]
 .cases o;cases m;let(d,B,L,_):=I.tuple t;let(C,R,J,_):=I.tuple r;let O:d=[]:=B.nil_iff.mpr c;let((P,dd,w,A),p,q,n,hd):=id L;let((S,j,k,i),e,g,M,f):=id J;simp only at q hd g f;subst q hd g f
  exact Lj (_,p,U,) (_,e,U,) Lk Ll PySem.F.slot_tuple_add PySem.F.entry_tuple_add (PySem.F.args_tuple_add_2 _ _)
   (tuple_addW0 a b d.toArray C.toArray n M dd j A i (by simp[O])) (p,e,(.ref b,H,I,U,G c,),)
 .exact Ba Ni s σ H (.ref a) (.ref b) v u Q I o m (a,b,l,z,U,U,t,r,c,N,E c,D c,)
end
end _L
namespace HT
open PySem PyProof.Rows
section
open PySem.SeqAt
open PySem.AutoSeq1 (wpAny_loadPart')
open PySem.MeetsSeq PySem.MeetsSeq2 PySem.MeetsSeq3
end
end HT
namespace _L
open PySem PySem.Spec PyProof.Rows
section
variable{X:Cx}
end
end _L
namespace HT
open PySem PyProof.Rows
section
open PySem.SeqAt
open PySem.AutoSeq1 (wpAny_loadPart')
open PySem.MeetsSeq PySem.MeetsSeq2 PySem.MeetsSeq3
end
end HT
namespace _L
open PySem PySem.Spec PyProof.Rows
section
variable{X:Cx}
end
end _L
namespace HT
open PySem PyProof.Rows
section
open PySem.SeqAt
open PySem.AutoSeq1 (wpAny_loadPart')
open PySem.MeetsSeq PySem.MeetsSeq2 PySem.MeetsSeq3
end
section
variable{prog:Jl}{w:Je}{A:JX}{E:I1->JY->Prop}{s:JY}
end
end HT
namespace _L
open PySem PySem.Spec PyProof.Rows
variable{X:Cx}
variable{prog:Jl}{w:Je}{A:JX}{E:I1->JY->Prop}{s:JY}
section
variable{κ:Type} [DecidableEq κ]
def  cntK(ks:Nt κ):Nat->Nat
 |0=>0
 |i+1=>match ks[i]? with
  |some k=>if k∈ks.take i then cntK ks i else cntK ks i+1
  |none=>cntK ks i
def lN(ks:Nt κ):∀i,cntK ks i<=i
 |0=>uN _
 |i+1=>by
  let a:=lN ks i;unfold cntK;split
  .split <;> lia
  .lia
def mI(ks:Nt κ):∀i,i<=⇑ks->(cntK ks i=i↔(ks.take i).Nodup)
 |0,_=>by simp[cntK]
 |i+1,h=>by
  let c:=mI ks i ∅;let le:=lN ks i;let e:ks[i]?=Nc ks[i]:=JO ∅;let g:ks.take (i+1)=ks.take i++[ks[i]]:=by rw[lJ,e];rfl
  unfold cntK;rw[e,g,pM];dsimp only;by_cases m:ks[i]∈ks.take i
  .rw[Nk m];exact(λz=>Nl z ∅,λz=>Nl U<|z.2.2 _ m _ (by simp),)
  .rw[Nj m];refine(λz=>(c.mp ∅,by simp,λa f b d=>?_,),λz=>by rw[c.mpr z.1],);rw[show b=ks[i] by simpa using d];calc λq=>m<|q ▸ f
variable{knd:KeyKind prog w κ}
def iT{h h':JD}{a:Jr}(x:h.SetOf knd a S n)(k:∀o,h.get? a=Nc o->h'.get? a=Nc o):h'.SetOf knd a S n:=by
 let(o,c,d,t,b,r):=x;calc(o,c,d,t,k o b,r,)
def oJ{h:JD}{a:Jr}(x:h.SetOf knd a S n)(e:S=c)(d:n=b):h.SetOf knd a c b:=e ▸ d ▸ x
def xQ{R:K3->JY->Prop}{I:Jr}{D g:Nt Jr}{G:Array Ka->Array Ka->Prop}{n:Nat}{P:Nat->I1->Prop}{St:Nat->JY->Prop}(W:L6 prog w A.in1 I D g G n P St){a:Jr}(C:a ∉ D){ks:Nt κ}
  (Q:∀i v,P i v->∃k,ks[i]?=Nc k/\knd.is k v=Nf/\v.scannable=Nf)(f:n+1<L7):∀(d i:Nat)(s:JY),n=i+d->St i s->s.heap.SetOf knd a (λk=>decide<|k∈ks.take i) (cntK ks i) ->
   (∀s',L8 (a :: g) G s s'->s'.heap.SetOf knd a (λk=>decide<|k∈ks.take n) (cntK ks n)->R (.ok<|.ret .none) s')->K4 (model prog w) A (.builtin "set.update.loop" ([.ref a,.ref I],[],)) R s:=by
 let B:a ∉ g:=λz=>C<|W.sub a z
 intro d;induction d with
 |zero =>
  intro i s e h x fin;rw[show n=i by lia]at W fin;calc LW (R:=R) (A:=A) Nv ?_;rw[wp (A:=A) ww _];show Kc (model prog w) A.in1 (KA (.ref I) >>= _) _ _ s;exact GS<|W.done s _ _ h λs' m=>GU<|fin s' (m.mono λb f=>dz a f)<|iT x λo q=>m.heap a o B q
 |succ d O =>
  intro i s e h x fin;calc LW (R:=R) (A:=A) Nv ?_;rw[wp (A:=A) ww _];show Kc (model prog w) A.in1 (KA (.ref I) >>= _) _ _ s;calc GS<|W.item i s _ _ ∅ h λv c p l m=>?_;let(k,E,u,M):=Q i v p;let L:=iT x λo q=>m.heap a o B q
  show Kc (model prog w) A.in1 (holding [v] (L9 a v) >>= _) _ _ c;refine GS<|GV (show Kc (model prog w) A.in1 (L9 a v) _ _ c from ?_);unfold L9;calc GV<|GS<|knd.pyHash u ?_;let le:=lN ks i;refine wpAny_setAddHashed_of (knd:=knd) (s:={ c with toks:=c.toks+1 }) u M L ∅ λj sb K=>?_
  let S:ks.take (i+1)=ks.take i++[k]:=by rw[lJ,E];rfl
  let J:j.SetOf knd a (λq=>decide<|q∈ks.take (i+1)) (cntK ks<|i+1):=by
   refine oJ K (funext λq=>?_) ?_
   .rw[S];by_cases z:q∈ks.take i <;> by_cases y:q=k <;> simp[z,y]
   .show(if decide (k∈ks.take i)=Nf then cntK ks i else cntK ks i+1)=match ks[i]? with|some k=>if k∈ks.take i then cntK ks i else cntK ks i+1|none=>cntK ks i
    rw[E];by_cases z:k∈ks.take i <;> simp[z]
  calc GU (Ma ww _,O (i+1) { c with heap:=j,toks:=c.toks+1 } ∅ (W.frame (i+1) c j (c.toks+1) l (v3 _) λb t o q=>(sb.2 b λz=>C<|z ▸ t).trans q) J λs2 N H=>?_,);calc fin s2 (L8.trans W.gtrans ((m.mono λb f=>dz a f).then_heap (v3 _) λb o r q=>?_) N) H;calc(sb.2 b λz=>r<|z ▸ cF).trans q
abbrev dU(led:Bool):Obj:={ cls:=.type "set",dict:=Nd,data:=.set #[] 0 (.fresh 0 0 led) }
def  Filled(knd:KeyKind prog w κ)(s:JY)(ks:Nt κ)(h':JD):Prop :=
 h'.SetOf knd ↥s (λk=>decide<|k∈ks) (cntK ks ⇑ks)/\∀b o,b<↥s->s.heap.get? b=Nc o->h'.get? b=Nc o
def zD(G:A.handled=Nd)(C:s.heap.IsList l a)(D:∀(i:Nat)(v:I1),a[i]?=Nc v->∃k,ks[i]?=Nc k/\knd.is k v=Nf/\v.scannable=Nf)(B:⇑ks=a.size)(H:a.size+1<L7) :
  K4 (model prog w) A (.call (.builtin "set.__init__") ([.ref ↥s,.ref l],[],)) (wants (λr s2=>r=.none/\∃h' j,s2={ s with heap:=h',toks:=j }/\Filled knd s ks h') E) { s with heap:=s.heap.push (dU led) }:=by
 let h:(s.heap.push<|dU led).get? ↥s=Nc (dU led):=ci s.heap U;let ty:N4 { s with heap:=s.heap.push (dU led) } (.ref ↥s) "set" := (dU led,h,U,);calc LS re.init.plain F.entry_set_init<|Mb ty ?_;let((S,N,R,M),f,g,m,hd):=C;dsimp only at g hd;subst g hd;let J:(s.heap.push<|dU led).get? l=Nc { cls:=.type "list",dict:=N,data:=.seq a m,slots:=M }:=bd _ f;let Q:=F.sub_list_set;let P:=P2;let O:(zn "list" == zn "dict")=false:=⋯
 let e:(s.heap.push<|dU led).IsList l a:=(_,J,U,m,U,);let lt:l<↥s:=bi f;unfold KR.«set.__init__» OC noKeywords;generalize I:KD=it
 wp_walk
 subst I;calc KP e<|GS<|Mc ?_;let u:l≠(s.heap.push<|dU led).objs.size:=by rw[lv];exact uR<|vr lt
 let y:↥s ∉ [(s.heap.push<|dU led).objs.size,l]:=by
  rw[lv];intro z;rcases ax.mp z with z|z
  .exact Nl z<|uR<|wm _
  .exact Nl (~~~z)<|vo lt
 refine xQ (knd:=knd) ((KL.list (by simp[G]) _ l u a).toS) y (ks:=ks) D H a.size 0 _ (wz _).symm ((_,ci _ U,U,U,),e.push _,) (oJ ((setObjOf_fresh (knd:=knd) led).setOf (bd _ h) (by unfold L7;lia)) (funext λk=>by simp) U) λp mv x=>?_
 let(h',K,L,n,t):=p;obtain rfl:K=s.gens:=mv.gens;obtain rfl:L=s.drawn:=mv.drawn;obtain rfl:t=s.os:=mv.os;refine GU (show Kc (model prog w) _ (ret pr) _ _ _ from GU (U,h',n,U,?_,λb o c q=>?_,))
 .rw[←B]at x;exact oJ x (funext λk=>by rw[fo]) U
 .refine mv.heap b o (λz=>?_)<|bd _<|bd _ q;rcases ax.mp z with z|z
  .exact Nl z<|uR c
  .let d:b=(s.heap.push<|dU led).objs.size:= ~~~z
   rw[lv]at d;exact Nl d (uR<|vr c)
set_option maxRecDepth 100000 in
def rf(t:A.handled=Nd)(p:s.heap.IsList l a)(q:∀(i:Nat)(v:I1),a[i]?=Nc v->∃k,ks[i]?=Nc k/\knd.is k v=Nf/\v.scannable=Nf)(o:⇑ks=a.size)(u:a.size+1<L7)
  (h:∀h' f,Filled knd s ks h'->Q (.ref ↥s) { s with heap:=h',toks:=f }):Kc (model prog w) A (call (.type "set") [.ref l]) Q E s:=by
 let(c,tl,mro):=re.mro;let I:=re.made;let H:=re.sub;let G:=re.notType;let D:=re.canCreate;let C:=F.typeCall_set_1<|.ref l;refine Lc<|Md (show Kc (model prog w) _ (callAny (.type "set") _) _ _ _ from GU (OM _<|~~~0,LW F.entry_type_call ?_,));rw[JX.under_plain (A:=A) (Me "set" [.ref l] []) U]
 repeat (any_goals (first|assumption|wp_step))
 refine Ld (code_set_new_1 (.ref l) (E:=E) (Q₁:=λm j=>∃b,m=.ref ↥s/\j={ s with heap:=s.heap.push (dU b) }) λb=>(b,U,U,)) λr j g=>?_
 cases r with
 |error e=>exact g
 |ok fl =>
  cases fl with
  |ret m =>
   let(b,rfl,rfl):=g;let y:(s.heap.push<|dU b).get? ↥s=Nc (dU b):=ci s.heap U;let ty:N4 { s with heap:=s.heap.push (dU b) } (.ref ↥s) "set" := (dU b,y,U,);let B:=re.init.lookup;let b2:=re.init.bind<|.ref ↥s
   repeat (any_goals (first|assumption|wp_step))
   refine Ld (zD (E:=E) (knd:=knd) (by simp[t]) p q o u) λn s2 d=>?_
   cases n with
   |error e=>exact d
   |ok z =>
    cases z with
    |ret r =>
     let(rfl,h',f,rfl,x):=d
     repeat (any_goals (first|assumption|wp_step))
     exact h h' f x
    |_=>exact d.elim
  |_=>calc g.elim
end
def  ql(P:Jl)(w:Je)(a:Jr)(zs:Nt Str):HO:=.ext λh=>h.SetOf (strKind P w) a (λz=>decide<|z∈zs)<|cntK zs ⇑zs
def rg:∀{zs:Nt Str}{us:Nt I1},Vals (zs.map Qe) us->∀(i:Nat)(v:I1),us[i]?=Nc v->∃z t,zs[i]?=Nc z/\v=.str z t
 | [],_,.nil,i,v,h=>by simp at h
 |z :: zs,_,.cons (t,e,) r,0,v,h=>by simp at h;exact(z,t,U,by rw[←h,e],)
 |z :: zs,_,.cons _ r,i+1,v,h=>by
  let(a,t,c,b):=rg r i v<|~~~h;calc(a,t,~~~c,b,)
def kz(C:X.calm=Nf):dq X (.type "set") (λxs H Q=>∃(p:Jr)(zs:Nt Str),xs=[.ref p]/\SqL X.K H p (zs.map Qe)/\⇑zs<=1000/\∀l,H l=Nd->Q (.ref l) (upd H l<|ql X.prog X.w l zs)):=by
 intro j s G H xs J Q I r h;let(p,zs,rfl,D,L,q):=h;let(u,rfl,A):=r.one;obtain rfl:u=io p:=A;let(F,d,B,_):=I.list D;let f:=⇑d;rw[af]at f;refine rf (knd:=strKind X.prog X.w) (ks:=zs) (I.ok.hd C) B.isList (λi v e=>?_) (~~~f) (by unfold L7;simp;lia) λh' n x=>?_
 .let(z,t,E,rfl):=rg d i v<|~~~e;exact(z,E,by show I1.isStrOf z (.str z t)=Nf;simp[I1.isStrOf],U,)
 .let(c,m):=x;calc(.ref ↥s,_,I.laid (a:=↥s) (o:=ql X.prog X.w ↥s zs) (h':=h') (t':=n) (λb o q=>m b o (bi q) q) (uN _) ?_,U,q _ I.fresh,);calc(c,?_,λN M y k=>iT y k,);let(o,_,_,_,g,_):=c;calc(o,g,)
def  Asc(xs:Array Nat):Prop:=xs.toList.Pairwise (· < ·)
def Asc.lt(h:Asc xs)(a:i<j)(b:j<xs.size):xs[i]<xs[j]:=by
 let:=lX.mp h i j (by simp;lia) (~~~b) a;simpa using this
def zE(h:Asc xs)(j:Nat):∀(a lo hi:Nat),lo<=hi->hi<=xs.size->hi-lo<=a ->
  (∀(i:Nat)(b:i<xs.size),i<lo->xs[i]<j)->(∀(i:Nat)(b:i<xs.size),hi<=i->j<=xs[i]) ->
  Nz xs j a lo hi<=xs.size/\(∀(i:Nat)(b:i<xs.size),i<Nz xs j a lo hi->xs[i]<j)/\(∀(i:Nat)(b:i<xs.size),Nz xs j a lo hi<=i->j<=xs[i]):=by
 intro a;induction a with
 |zero =>
  intro lo hi u f t l k;let e:lo=hi:=∅
  subst e;exact(by unfold Nz;exact f,by unfold Nz;exact l,by unfold Nz;exact k,)
 |succ a r =>
  intro lo hi u f t l k;unfold Nz;by_cases c:lo<hi
  .rw[Nk c];let(m,g,s,q):∃m,m=(lo+hi) / 2/\lo<=m/\m<hi:=(_,U,∅,∅,);rw[←g];clear g;let n:m<xs.size:=u7 q f;let v:xs.getD m j=xs[m]:=by simp[PD,n]
   dsimp only;rw[v];by_cases d:xs[m]<j
   .rw[Nk d];calc r _ _ q f ∅ (λi b o=>?_) k;by_cases e:i=m
    .subst e;exact d
    .exact Nat.lt_trans (h.lt (wq (ye o) e) n) d
   .rw[Nj d];refine r _ _ s (vl n) ∅ l λi b p=>?_
    by_cases e:i=m
    .subst e;exact Bo d
    .exact uU (Bo d)<|vl<|h.lt (wq p λz=>e z.symm) b
  .rw[Nj c];let e:lo=hi:=∅
   subst e;calc(f,l,k,)
def kI(h:Asc xs)(j:Nat):o0 xs j<=xs.size/\(∀(i:Nat)(hi:i<xs.size),i<o0 xs j->xs[i]<j)/\(∀(i:Nat)(hi:i<xs.size),o0 xs j<=i->j<=xs[i]) :=
 zE h j xs.size 0 xs.size (ve _) (uN _) ∅ (λ_ _ z=>Nl z ∅) (λi hi z=>Nl z ∅)
def vC(h:Asc xs)(hi:i<xs.size):o0 xs (xs[i]+1)=i+1:=by
 let(d,b2,a):=kI h<|xs[i]+1;let c:¬ o0 xs (xs[i]+1)<=i:=λz=>Nl (a i hi z) ∅
 let b:¬ i+1<o0 xs (xs[i]+1):=λz=>by
  let:=b2 (i+1) ∅ z;let:=h.lt (show i<i+1 by lia) (show i+1<xs.size by lia);lia
 lia
def tQ(h:Asc xs):o0 xs 0=0:=by
 let(b,b2,a):=kI h 0;by_cases z:o0 xs 0=0
 .exact z
 .exact Nl (b2 0 ∅ ∅) ∅
def vD(h:Asc xs)(m:xs[o0 xs j]?≠Nc j):Asc (Mf.insertAt xs (o0 xs j) j):=by
 let(r,b2,g):=kI h j;unfold Asc;rw[Mf.toList_insertAt,nL];refine(h.sublist<|mu _ _,nF.mpr (λb f=>?_,h.sublist<|q0 _ _,),λa n b f=>?_,)
 .let(k,d,rfl):=ke.mp f;let c:o0 xs j+k<xs.size:=by simp at d;lia
  let z:=g _ c ∅;let e:(xs.toList.drop<|o0 xs j)[k]=xs[o0 xs j+k]:=by simp
  rw[e];by_cases q:j=xs[o0 xs j+k]
  .exfalso;by_cases l:k=0
   .subst l;calc m ?_;rw[Eg ∅];simpa using q.symm
   .let p:=g _ (show o0 xs j<xs.size by lia) (uN _);let o:=h.lt (show o0 xs j<o0 xs j+k by lia) c;lia
  .lia
 .let i:a<j:=by
   let(k,d,rfl):=ke.mp n;let c:k<o0 xs j/\k<xs.size:=by simp at d;lia
   let:=b2 k c.2 c.1;simpa using this
  rcases ax.mp f with rfl|f
  .exact i
  .let(k,d,rfl):=ke.mp f;let c:o0 xs j+k<xs.size:=by simp at d;lia
   let z:=g _ c ∅;let e:(xs.toList.drop<|o0 xs j)[k]=xs[o0 xs j+k]:=by simp
   rw[e];lia
def  tR(t:Mf)(j:Nat):Prop:=t.place[o0 t.place j]?≠Nc j
def oK(h:t.slot j=.empty\/t.slot j=.dummy):tR t j:=by
 intro e;let:t.slot j=.live (o0 t.place j):=by
  unfold Mf.slot;simp[e]
 rw[this]at h;rcases h with h|h <;> cases h
def vE(t:Mf)(f:Nat->Int)(h:Int):∀(a:Nat)(p:Mf.Probe),(∀d,p.dummy=Nc d->tR t d)->∀j b,O3 t f h a p=Nc (.empty j b)->tR t j/\∀d,b=Nc d->tR t d:=by
 intro a;induction a with
 |zero=>intro p _ j b e;unfold O3 at e;cases e
 |succ a g =>
  intro p i j b e;unfold O3 at e;let c:∀q:Mf.Probe,(t.advance q).dummy=q.dummy:=λq=>by
   unfold Mf.advance;split <;> rfl
  split at e
  .rename_i he
   injection e with e;injection e with l k;subst l k;exact(oK<|.inl he,i,)
  .rename_i he
   calc g _ (λd hd=>?_) j b e;rw[c]at hd;injection hd with hd;subst hd;exact oK<|.inr he
  .split at e
   .injection e with e;cases e
   .refine g _ (λd hd=>i d ?_) j b e;rw[c]at hd;calc hd
def qm(e:t.freeSlot h=Nc (j,b)):tR t j:=by
 unfold Mf.freeSlot at e;split at e
 .rename_i j' dm he
  let(f,c):=vE t _ h _ _ (λd hd=>by simp[Mf.probeStart]at hd) _ _ he;injection e with e;injection e with a g;subst a;cases dm with
  |none=>exact f
  |some d=>exact c d U
 .cases e
def xR(n:Nat):Asc (Array.range n):=by
 unfold Asc;rw[Array.toList_range];calc nS
def gO(t:Mf)(n:Nat):Asc (t.standIn n).place:=xR n
def vF(c:Asc t.place)(a:Array (Int×I1))(h:Int)(x:I1):Asc (Mg t a h x).2.1.place/\(Mg t a h x).2.1.led=t.led:=by
 unfold Mg;split
 .rename_i slot wd e
  let b:Asc (t.put slot).1.place:=vD c<|qm e;dsimp only;unfold Mf.orStandIn;split
  .exact(b,U,)
  .exact(gO _ _,U,)
 .exact(gO _ _,U,)
def tS(f:Nat->Option Nat):∀l:Nt Nat,((l.filterMap λj=>(f j).map (j,·)).map (·.1)).Sublist l
 | []=>by simp
 |j :: l=>by
  let a:=tS f l;rw[lh];cases e:f j with
  |none=>exact a.trans (List.sublist_cons_self _ _)
  |some v=>calc a.cons_cons j
def vG{t t':Mf}{b:Array Int}(e:t.relaid b n=Nc (t',o)):Asc t'.place/\t'.led=t.led:=by
 unfold Mf.relaid Mf.laid at e;cases hc:Mf.layClean (Mf.sizeAbove n-1) b with
 |none=>rw[hc]at e;cases e
 |some a =>
  rw[hc]at e;injection e with e;injection e with c d;subst c;calc(nS.sublist<|tS _ _,U,)
def rX(b:Asc t.place)(a:Array (Int×I1))(n:Nat):Asc (Mh t a n).2.1.place/\(Mh t a n).2.1.led=t.led:=by
 unfold Mh;split
 .rename_i t' o e
  dsimp only;split
  .exact vG e
  .exact(gO _ _,U,)
 .exact(gO _ _,U,)
def gX{α:Type}:∀{l:Nt α}{i:Nat}{x:α},l[i]?=Nc x->(x :: l.eraseIdx i).Perm l
 | [],i,x,h=>by simp at h
 |a :: l,0,x,h=>by simp at h;subst h;exact .refl _
 |a :: l,i+1,x,h=>by
  let b:=gX (l:=l) (i:=i) (x:=x)<|~~~h;rw[List.eraseIdx_cons_succ];calc(List.Perm.swap _ _ _).trans (b.cons a)
def Bm{α:Type}(next:Nat->Nat):∀(a k:Nat)(left:Nt α)(out:Array α),a=⇑left->∃l:Nt α,l.Perm left/\(Mi.go next a k left out).toList=out.toList++l:=by
 intro a;induction a with
 |zero =>
  intro k left out e;exact(left,.refl _,by unfold Mi.go;rw[N0.mp e.symm];simp,)
 |succ a d =>
  intro k left out e;let b:next k%⇑left<⇑left:=yf _ ∅;let c:left[next k%⇑left]?=Nc left[next k%⇑left]:=JO b;unfold Mi.go;rw[c];dsimp only;let(l,p,f):=d (k+1) (left.eraseIdx<|next k%⇑left) (out.push left[next k%⇑left]) (by rw[OS b];lia);calc(left[next k%⇑left] :: l,(p.cons _).trans<|gX c,by rw[f];simp,)
def xS{α:Type}(next:Nat->Nat)(xs:Array α):(Mi next xs).toList.Perm xs.toList:=by
 let(l,p,e):=Bm next xs.size 0 xs.toList #[] (by simp);let:(Mi next xs).toList=l:=by unfold Mi;rw[e];simp
 rw[this];calc p
def  eU(w:Je):Bool:=w.params.followText "set-order"
def  gA:I1->Int
 | .int k _=>k
 |_=>0
structure ju(es:Array (Int×I1))(ks:Nt Int):Prop where
 ent:∀e∈es.toList,e.1=hashInt (gA e.2)/\∃u,e.2=.int (gA e.2) u
 nd:(es.toList.map λe=>gA e.2).Nodup
 mem:∀k,k∈ks↔k∈es.toList.map λe=>gA e.2
def ju.perm(h:ju b ks)(p:a.toList.Perm b.toList):ju a ks :=
 (λe c=>h.ent e<|p.mem_iff.mp c,(p.map _).nodup_iff.mpr h.nd,λk=>(h.mem k).trans (p.map _).mem_iff.symm,)
def ju.push(h:ju d ks)(f:k ∉ ks):ju (d.push (hashInt k,.int k u)) (ks++[k]):=by
 refine(λe c=>?_,?_,λq=>?_,)
 .rw[EL]at c;rcases gz.mp c with c|c
  .exact h.ent e c
  .rw[eO]at c;subst c;exact(U,u,U,)
 .rw[EL,eN,pM];refine(h.nd,by simp,λa i b g=>?_,);let j:b=k:=by simpa[gA]using g
  subst j;exact λe=>f<|(h.mem b).mpr<|e ▸ i
 .rw[EL,eN,gz,gz,h.mem q];simp[gA]
def ju.again(h:ju a ks)(b:k∈ks):ju a (ks++[k]) :=
 (h.ent,h.nd,λq=>by
  rw[←h.mem q,gz,eO];exact(λz=>z.elim id λz=>z ▸ b,.inl,),)
def ju.elems(h:ju b ks):ElemsOf (JT prog w) b.toList:=λe c=>by
 let(d,u,a):=h.ent e c;refine((gA e.2,?_,d,),?_,)
 .rw[a];exact Mj _ _ _ _
 .rw[a];rfl
def ju.found(h:ju b ks)(a:e∈b.toList)(c:(JT prog w).is k e.2=Nf):k∈ks:=by
 let(_,u,d):=h.ent e a;calc(h.mem k).mpr (cU.mpr (e,a,?_,));calc(JT prog w).inj e.2 _ _ (by rw[d];exact Mj _ _ _ _) c
def  eQ(h:JD)(a:Jr)(led:Bool)(ks:Nt Int)(n:Nat):Prop :=
 ∃o b c t,h.get? a=Nc o/\o.ExactSet/\o.data=.set b c t/\ju b ks/\b.size<L7/\t.fits b.size=Nf/\Asc t.place/\t.led=led/\b.size=n
def eQ.stay(x:eQ h a led ks n)(k:∀o,h.get? a=Nc o->h'.get? a=Nc o):eQ h' a led ks n:=by
 let(o,c,d,t,b,r):=x;calc(o,c,d,t,k o b,r,)
def eQ.store{h:JD}{a:Jr}{o:Obj}{l:Array (Int×I1)}(f:h.get? a=Nc o)(d:o.ExactSet)(hd:o.data=.set l c t)(i:ju b ks)(j:b.size<L7)(g:t'.fits b.size=Nf)(k:Asc t'.place) :
  (h.update a<|Oq b t').get? a=Nc { o with data:=.set b (c+1) t' }/\eQ (h.update a<|Oq b t') a t'.led ks b.size:=by
 let e:(h.update a<|Oq b t').get? a=Nc { o with data:=.set b (c+1) t' }:=by
  let:=lw (Oq b t') f (by rw[putSet_of b t' hd];rfl);rw[putSet_of b t' hd]at this;exact this
 calc(e,_,b,c+1,t',e,d,U,i,j,g,k,U,U,)
def tT{g:Bool->Sem Unit}(H:∀(b:Bool)(e:JY)(D:Unit->JY->Prop),D () e->Kc (model prog w) A (g b) D E e)
  {a:Jr}{o:Obj}{I:Array (Int×I1)}{J:Nat}{t:Mf}(C:s.heap.get? a=Nc o)(p:o.ExactSet)(hd:o.data=.set I J t)(q:ju c ks)
  (j:c.size<L7)(B:d.fits c.size=Nf)(u:Asc d.place)(n:d.led=led)
  (h:∀h',wS a s.heap h'->eQ h' a led ks c.size->R (Nc Nf) { s with heap:=h' }) :
  Kc (model prog w) A (do
    storeSet a c d
    if (!G && d.tooFull)=Nf then do
      g (Mh d c<|Oh c.size).2.2
      storeSet a (Mh d c<|Oh c.size).1 (Mh d c<|Oh c.size).2.1
      pure (Nc Nf)
     else pure (Nc Nf)) R E s:=by
 calc GS<|Ml C hd ?_<|Mm j;let(m,x):=eQ.store C p hd q j B u;rw[n]at x;let F:=wE s.heap a<|Oq c d;split
 .let z:=relayAll_perm d c<|Oh c.size;let i:=relayAll_fits d c<|Oh c.size;let(k,f):=rX u c<|Oh c.size;generalize K:Mh d c (Oh c.size)=Rl at z i k f⊢;let(y,L,M):=Rl;dsimp only at z i k f⊢;let l:y.size=c.size:=by rw[←D0,z.length_eq,D0]
  let r:y.size<L7:=by rw[l];exact j
  calc GS<|H _ _ _ ?_;calc GS<|Ml m U ?_<|Mm r;let(_,v):=eQ.store m p U (q.perm z) r i k;rw[l,f,n]at v;exact GU<|h _ (F.trans<|wE _ a _) v
 .exact GU<|h _ F x
def addW(hS:eQ s.heap a led ks n)(X:n+1<L7)
  (h:∀h' R b,wS a s.heap h'->R<=n+1->eQ h' a led (ks++[k]) R->Q b { s with heap:=h' }) :
  Kc (model prog w) A (setAddHashed a (.int k u)<|(JT prog w).hash k) Q E s:=by
 let(o,p,ep,t,B,r,hd,x,T,M,V,I,J):=hS;let Y:(JT prog w).is k (.int k u)=true:=Mj _ _ _ _;let D:(O2 k u).scannable=true:=rfl;let F:=x.elems (prog:=prog) (w:=w);let a0:p.size+1<L7:=by rw[J];exact X
 unfold setAddHashed setAddHashedIn;calc GV<|GS<|Mn B hd M ?_;dsimp only;rw[byScan_of D T F];simp only[↓reduceIte];unfold setAddByScan;calc GS ?_;calc GS<|L4 ?_;calc GS<|wpAny_setScan_of Y B hd M F ?_;cases hr:List.findIdx? (λe=>(JT prog w).is k e.2) p.toList with
 |some j =>
  dsimp only;let(Z,N,_):=Nu.mp hr;let K:k∈ks:=x.found (NB Z) N;calc GU<|GU ?_;let e:s={ s with heap:=s.heap }:=by cases s;rfl
  rw[e];exact h s.heap n Ng (Pi a s.heap) (v3 _) (o,p,ep,t,B,r,hd,x.again K,T,M,V,I,J,)
 |none =>
  dsimp only;let K:k ∉ ks:=λz=>by
   let(e,S,q):=cU.mp<|(x.mem k).mp z;let:=List.findIdx?_eq_none_iff.mp hr e S;let(_,v,h2):=x.ent e S;rw[h2]at this;rw[←q]at this;rw[Mj]at this;exact Bool.noConfusion this
  let O:∀(b:Bool){c:JY}{C:Unit->JY->Prop},C () c->Kc (model prog w) A (match b with|true=>rule "set.scan.the-table-gave-way" | false=>pure ()) C E c :=
   λb c C m=>by cases b <;> first|exact GU m|exact L4 m
  let H:=layNew_perm t p ((JT prog w).hash k)<|.int k u;let y:=layNew_fits t p ((JT prog w).hash k)<|.int k u;let(i,f):=vF V p ((JT prog w).hash k)<|.int k u;generalize hL:Mg t p ((JT prog w).hash k) (.int k u)=L at H y i f⊢;let(l,t1,tU,Js):=L;dsimp only at H y i f⊢;let G:ju l (ks++[k]):=(x.push (u:=u) K).perm H;let Gu:l.size=n+1:=by rw[←D0,H.length_eq,D0,Array.size_push,J]
  let W:l.size<L7:=by rw[Gu];exact X
  calc GS<|O _ ?_;let P:∀h',wS a s.heap h'->eQ h' a led (ks++[k]) l.size->Q Nf { s with heap:=h' }:=λh' d g=>h h' _ Nf d ∅ g
  split
  .refine GS ?_;rw[hashByValue_scannable 8 D];calc GU ?_;refine tT ?_ B r hd G W ?_ ?_ (led:=led) ?_ ?_
   .intro b c C m;cases b <;> first|exact GU m|exact L4 m
   .split
    .exact y
    .exact Mf.fits_plain_off y
   .split
    .exact i
    .exact i
   .split
    .exact f.trans I
    .exact f.trans I
   .intro h' d g;dsimp only;exact GU<|P h' d g
  .refine GS<|GU ?_;simp only[↓reduceIte];refine tT ?_ B r hd G W y i (f.trans I) ?_
   .intro b c C m;cases b <;> first|exact GU m|exact L4 m
   .intro h' d g;dsimp only;calc GU<|P h' d g
def vI(a:I1)
  (h:Q₁ (.ref ↥s) { s with heap:=s.heap.push { cls:=.type "set",dict:=Nd,data:=.set #[] 0 (.fresh 0 0<|!eU w) } }) :
  K4 (model prog w) A (.call (.builtin "set.__new__") ([.type "set",a],[],)) (wants Q₁ E) s:=by
 calc Md ?_;show Kc _ A.in1 (do LX "set.__new__" ([.type "set",a],[],);again (.builtin "set.__new__" ([.type "set",a],[],))) _ _ s;calc GS<|LZ (F.newCall_set_1 a)<|GU (Ma F.plain_set_new _,LW F.entry_set_new ?_,);rw[wp F.plain_set_new _];unfold KR.«set.__new__» KR.Frozenset.newClass;let e:=sub_set_self;let(f,g,d,b,c):=s;dsimp only
 wp_walk
 calc Mo<|GU ?_;dsimp only;simp only[newObj];calc GS<|wpAny_alloc<|GU ?_;calc GU h
def Ds{R:K3->JY->Prop}{I:Jr}{K g:Nt Jr}{G:Array Ka->Array Ka->Prop}{n:Nat}{P:Nat->I1->Prop}{St:Nat->JY->Prop}(W:L6 prog w A.in1 I K g G n P St){a:Jr}(H:a ∉ K){ks:Nt Int}{led:Bool}
  (S:∀i v,P i v->∃k u,ks[i]?=Nc k/\v=.int k u)(f:n+1<L7):∀(d i:Nat)(s:JY)(m:Nat),n=i+d->m<=i->St i s->eQ s.heap a led (ks.take i) m ->
   (∀s' C,L8 (a :: g) G s s'->eQ s'.heap a led (ks.take n) C->C<=n->R (.ok<|.ret .none) s')->K4 (model prog w) A (.builtin "set.update.loop" ([.ref a,.ref I],[],)) R s:=by
 let D:a ∉ g:=λz=>H<|W.sub a z
 intro d;induction d with
 |zero =>
  intro i s m e E h x fin;rw[show n=i by lia]at W fin;calc LW (R:=R) (A:=A) Nv ?_;rw[wp (A:=A) ww _];show Kc (model prog w) A.in1 (KA (.ref I) >>= _) _ _ s;exact GS<|W.done s _ _ h λs' mv=>GU<|fin s' m (mv.mono λb f=>dz a f) (x.stay λo q=>mv.heap a o D q) E
 |succ d Q =>
  intro i s m e E h x fin;calc LW (R:=R) (A:=A) Nv ?_;rw[wp (A:=A) ww _];show Kc (model prog w) A.in1 (KA (.ref I) >>= _) _ _ s;calc GS<|W.item i s _ _ ∅ h λv c p j mv=>?_;let(k,u,V,rfl):=S i v p;let M:=x.stay λo q=>mv.heap a o D q
  show Kc (model prog w) A.in1 (holding [.int k u] (L9 a<|.int k u) >>= _) _ _ c;refine GS<|GV (show Kc (model prog w) A.in1 (L9 a<|.int k u) _ _ c from ?_);unfold L9;calc GV<|GS<|(JT prog w).pyHash (k:=k) (Mj _ _ _ _) ?_;refine addW (s:={ c with toks:=c.toks+1 }) M ∅ λJ N _ sb X B=>?_
  let T:ks.take (i+1)=ks.take i++[k]:=by rw[lJ,V];rfl
  rw[←T]at B;calc GU (Ma ww _,Q (i+1) { c with heap:=J,toks:=c.toks+1 } N ∅ ∅ (W.frame (i+1) c J (c.toks+1) j (v3 _) λb y o q=>(sb.2 b λz=>H<|z ▸ y).trans q) B λs2 O l L r=>?_,);calc fin s2 O (L8.trans W.gtrans ((mv.mono λb f=>dz a f).then_heap (v3 _) λb o t q=>?_) l) L r;calc(sb.2 b λz=>t<|z ▸ cF).trans q
def Dt(J:A.handled=Nd)(H:s.heap.IsList l a)(I:∀(i:Nat)(v:I1),a[i]?=Nc v->∃k u,ks[i]?=Nc k/\v=.int k u)(G:⇑ks=a.size)(K:a.size+1<L7) :
  K4 (model prog w) A (.call (.builtin "set.__init__") ([.ref ↥s,.ref l],[],)) (wants (λr s2=>r=.none/\∃h' j m,s2={ s with heap:=h',toks:=j }/\eQ h' ↥s (!eU w) ks m/\m<=⇑ks/\∀b o,b<↥s->s.heap.get? b=Nc o->h'.get? b=Nc o) E) { s with heap:=s.heap.push (dU<|!eU w) }:=by
 let h:(s.heap.push<|dU<|!eU w).get? ↥s=Nc (dU<|!eU w):=ci s.heap U;let ty:N4 { s with heap:=s.heap.push (dU<|!eU w) } (.ref ↥s) "set" := (dU<|!eU w,h,U,);calc LS re.init.plain F.entry_set_init<|Mb ty ?_;let((Y,Q,X,P),f,g,m,hd):=H;dsimp only at g hd;subst g hd;let M:(s.heap.push<|dU<|!eU w).get? l=Nc { cls:=.type "list",dict:=Q,data:=.seq a m,slots:=P }:=bd _ f;let V:=F.sub_list_set;let T:=P2;let S:(zn "list" == zn "dict")=false:=⋯
 let e:(s.heap.push<|dU<|!eU w).IsList l a:=(_,M,U,m,U,);let lt:l<↥s:=bi f;let p:eQ (s.heap.push<|dU<|!eU w) ↥s (!eU w) [] 0:=(_,#[],0,_,h,(U,U,U,),U,(by simp,by simp,by simp,),by unfold L7;decide,U,N8,U,U,);unfold KR.«set.__init__» OC noKeywords;generalize L:KD=it;generalize W:eU w=bt at *
 wp_walk
 subst L;calc KP e<|GS<|Mc ?_;let B:l≠(s.heap.push<|dU<|!bt).objs.size:=by rw[lv];exact uR<|vr lt
 let C:↥s ∉ [(s.heap.push<|dU<|!bt).objs.size,l]:=by
  rw[lv];intro z;rcases ax.mp z with z|z
  .exact Nl z<|uR<|wm _
  .exact Nl (~~~z)<|vo lt
 refine Ds ((KL.list (by simp[J]) _ l B a).toS) C (ks:=ks) (led:=!bt) I K a.size 0 _ 0 (wz _).symm (uN _) ((_,ci _ U,U,U,),e.push _,) (p.stay λo q=>bd _ q) λt D mv x R=>?_
 let(h',N,O,n,y):=t;obtain rfl:N=s.gens:=mv.gens;obtain rfl:O=s.drawn:=mv.drawn;obtain rfl:y=s.os:=mv.os;refine GU (show Kc (model prog w) _ (ret pr) _ _ _ from GU (U,h',n,D,U,?_,∅,λb o c q=>?_,))
 .rw[←G,fo]at x;exact x
 .refine mv.heap b o (λz=>?_)<|bd _<|bd _ q;rcases ax.mp z with z|z
  .exact Nl z<|uR c
  .let d:b=(s.heap.push<|dU<|!bt).objs.size:= ~~~z
   rw[lv]at d;exact Nl d (uR<|vr c)
set_option maxRecDepth 100000 in
def xT(C:A.handled=Nd)(z:s.heap.IsList l a)(B:∀(i:Nat)(v:I1),a[i]?=Nc v->∃k u,ks[i]?=Nc k/\v=.int k u)(t:⇑ks=a.size)(D:a.size+1<L7)
  (h:∀h' f m,eQ h' ↥s (!eU w) ks m->m<=⇑ks->(∀b o,b<↥s->s.heap.get? b=Nc o->h'.get? b=Nc o)->Q (.ref ↥s) { s with heap:=h',toks:=f }):Kc (model prog w) A (call (.type "set") [.ref l]) Q E s:=by
 let(c,tl,mro):=re.mro;let N:=re.made;let M:=re.sub;let L:=re.notType;let K:=re.canCreate;let J:=F.typeCall_set_1<|.ref l;refine Lc<|Md (show Kc (model prog w) _ (callAny (.type "set") _) _ _ _ from GU (OM _<|~~~0,LW F.entry_type_call ?_,));rw[JX.under_plain (A:=A) (Me "set" [.ref l] []) U]
 repeat (any_goals (first|assumption|wp_step))
 refine Ld (vI (.ref l) (E:=E) (Q₁:=λn j=>n=.ref ↥s/\j={ s with heap:=s.heap.push (dU<|!eU w) }) (U,U,)) λr j g=>?_
 cases r with
 |error e=>exact g
 |ok fl =>
  cases fl with
  |ret n =>
   let(rfl,rfl):=g;let G:(s.heap.push<|dU<|!eU w).get? ↥s=Nc (dU<|!eU w):=ci s.heap U;let ty:N4 { s with heap:=s.heap.push (dU<|!eU w) } (.ref ↥s) "set" := (dU<|!eU w,G,U,);let I:=re.init.lookup;let b2:=re.init.bind<|.ref ↥s
   repeat (any_goals (first|assumption|wp_step))
   refine Ld (Dt (E:=E) (by simp[C]) z B t D) λp s2 d=>?_
   cases p with
   |error e=>exact d
   |ok H =>
    cases H with
    |ret r =>
     let(rfl,h',f,m,rfl,x,y,q):=d
     repeat (any_goals (first|assumption|wp_step))
     exact h h' f m x y q
    |_=>exact d.elim
  |_=>exact g.elim
set_option maxRecDepth 100000
def bf:Slot "set_iterator" "__next__" "set_iterator.__next__" :=
 .of (owner := "set_iterator") (n := "__next__") (by rw[Mp,Mq];kernel_rfl) (~~~0) (~~~0) (~~~0)
  (by first|exact .inl (~~~0)|exact .inr (~~~0)) (by rw[Mr];kernel_rfl)
def jf:Slot "set_iterator" "__iter__" "set_iterator.__iter__" :=
 .of (owner := "set_iterator") (n := "__iter__") (by rw[Mp,Mq];kernel_rfl) (~~~0) (~~~0) (~~~0)
  (by first|exact .inl (~~~0)|exact .inr (~~~0)) (by rw[Mr];kernel_rfl)
def dj:Mt table "set_iterator.__next__" = Nc KR.«set_iterator.__next__»:=Mu (by kernel_rfl)
def mJ:Mt table "set_iterator.__iter__" = Nc KR.«dict_keyiterator.__iter__» :=
 Mv (id' := "dict_keyiterator.__iter__") (by kernel_rfl) U (~~~0) (by kernel_rfl)
def oM:Mt table "set.__iter__" = Nc KR.«frozenset.__iter__» :=
 Mv (id' := "frozenset.__iter__") (by kernel_rfl) U (~~~0) (by kernel_rfl)
def dN(a:I1):LY "set_iterator.__next__" ([a],[],):=by unfold LY;kernel_rfl
def nI(a:I1):LY "set_iterator.__iter__" ([a],[],):=by unfold LY;kernel_rfl
abbrev f7(first:I1)(i:Int)(s:I1)(n a:Nat):Obj:={ cls:=.type "set_iterator",data:=.fields #[first,.int i 0,s,.int n 0,.int a 0] }
def rY(b:n≠0)(h:Q (w.draws a (s.drawn.get a)%n) { s with drawn:=s.drawn.bump a }) :
  Kc (model prog w) A (choose a n) Q E s:=λ_ _ _=>(b,h,)
def oN{α:Type}:∀(n:Nat)(xs:Nt α)(s:JY){Q:Nt α->JY->Prop},n=⇑xs->(∀ys d,ys.Perm xs->Q ys { s with drawn:=d })->Kc (model prog w) A (Mw n xs) Q E s:=by
 intro n;induction n with
 |zero =>
  intro xs s Q e h;let:xs=[]:=N0.mp e.symm;subst this;unfold Mw;exact GU<|h [] s.drawn (.refl _)
 |succ n c =>
  intro xs s Q e h;cases xs with
  |nil=>simp at e
  |cons x r =>
   unfold Mw;refine GS (rY (by simp) ?_);generalize hi:w.draws Source.order (s.drawn.get Source.order)%⇑(x :: r)=i;let a:i<⇑(x :: r):=by rw[←hi];exact yf _ (by simp)
   let b:(x :: r)[i]?=Nc (x :: r)[i]:=JO a;rw[b]
   try dsimp only
   refine GS (c _ _ (by rw[OS a];lia) λys d p=>GU ?_);calc h _ d<|(p.cons _).trans<|gX b
def xU{I a:Jr}{b i:Nat}{o:Obj}{c:Array (Int×I1)}
  (e:s.heap.get? I=Nc (f7 (.int b 0) i (.ref a) c.size d))(k:s.heap.get? a=Nc o)(hd:o.data=.set c d t)(l:t.fits c.size=Nf)(p:∀(j:Option (I1×Nat)->JY->Prop) E',j (Nc (x,nx)) s->Kc (model prog w) A.in1 (Mx a b i d) j E' s)
  (n:∀h',h'.get? I=Nc (f7 (.int nx 0) ((i+1:Nat):Int) (.ref a) c.size d)->wS I s.heap h'->Q (Nc x) { s with heap:=h' }) :
  Kc (model prog w) A (KA<|.ref I) Q E s:=by
 let h:s.TypeIs (.ref I) "set_iterator" := (_,e,U,);unfold KA;calc GS<|L0<|Mz (name:=s!"__next__") h bf<|MA bf h dj ?_<|dN _;unfold KR.«set_iterator.__next__»;calc GS (m:=L3 "__next__" 0 _)<|GU ?_;refine GS<|MB e U ?_
 try dsimp only
 calc GS<|MC k hd l ?_;rw[Nj (by simp)]
 try dsimp only
 simp only[FG];refine GS<|p _ _ ?_
 try dsimp only
 refine GS (MD e (by simp) λr v g=>?_);refine GS (MD (s:={ s with heap:=r }) v (by simp) λq u f=>?_);calc GU (x,U,GU<|n q ?_<|g.trans f,);rw[u];simp[f7,KG]
def xV{I a:Jr}{c i:Nat}{o:Obj}(k:A.handled=Nd)
  (d:s.heap.get? I=Nc (f7 (.int c 0) i (.ref a) e.size f))(j:s.heap.get? a=Nc o)(hd:o.data=.set e f t)(l:t.fits e.size=Nf)
  (p:∀(h:Option (I1×Nat)->JY->Prop) E',h Nd s->Kc (model prog w) A.in1 (Mx a c i f) h E' s)
  (n:∀h',Pj I s.heap h'->Q Nd { s with heap:=h' }) :
  Kc (model prog w) A (KA<|.ref I) Q E s:=by
 let g:s.TypeIs (.ref I) "set_iterator" := (_,d,U,);unfold KA;calc GS<|L0<|Mz (name:=s!"__next__") g bf<|MA bf g dj ?_<|dN _;unfold KR.«set_iterator.__next__»;calc GS (m:=L3 "__next__" 0 _)<|GU ?_;refine GS<|MB d U ?_
 try dsimp only
 calc GS<|MC j hd l ?_;rw[Nj (by simp)]
 try dsimp only
 simp only[FG];refine GS<|p _ _ ?_
 try dsimp only
 refine GS (LO d U (by simp) ?_);show Kc _ _ (ME (.type "StopIteration") [] >>= _) _ _ _;calc GS ?_;simp only[ME,MG];refine GS (LG ?_ (by size_fits));refine GS (m:=MH _ _) (LZ (a:=pr) (by first|rfl|(simp only[MH];rfl)) ?_);refine LG ?_ (by size_fits);simp only[MI];calc GS<|MJ ?_;rw[show A.in1.handled=Nd from k];calc GS<|GU<|MK ?_;calc GS<|ML (T := "StopIteration") (b:=Nf) (_,ci _ U,U,) MM ?_;calc GU<|n _<|((wE ..).extBut.push _).push _
def vJ{I a tp:Jr}{i:Nat}{o:Obj}{b:Array (Int×I1)}{d:Nat}{t:Mf}{places:Nt Nat}{m:Nat}{to:Obj}{Q:Option I1->JY->Prop}
  (c:s.heap.get? I=Nc (f7 (.ref tp) i (.ref a) b.size d))(l:s.heap.get? tp=Nc to)(g:to.data=.seq (places.map λ(p:Nat)=>KG p).toArray m)(h:s.heap.get? a=Nc o)(hd:o.data=.set b d t)(j:t.fits b.size=Nf)
  {p:Nat}(n:places[i]?=Nc p){e:Int×I1}(q:b[p]?=Nc e)
  (r:∀h',h'.get? I=Nc (f7 (.ref tp) ((i+1:Nat):Int) (.ref a) b.size d)->wS I s.heap h'->Q (Nc e.2) { s with heap:=h' }) :
  Kc (model prog w) A (KA<|.ref I) Q E s:=by
 let k:s.TypeIs (.ref I) "set_iterator" := (_,c,U,);unfold KA;calc GS<|L0<|Mz (name:=s!"__next__") k bf<|MA bf k dj ?_<|dN _;unfold KR.«set_iterator.__next__»;calc GS (m:=L3 "__next__" 0 _)<|GU ?_;refine GS<|MB c U ?_
 try dsimp only
 calc GS<|MC h hd j ?_;rw[Nj (by simp)]
 try dsimp only
 refine GS<|MN l g ?_
 try dsimp only
 let x:(places.map λ(p:Nat)=>KG p).toArray[(i:Int).toNat]?=Nc (.int p 0):=by simp[n,KG]
 rw[x]
 try dsimp only
 unfold setNextDrawn;refine GS<|GS<|Mn h hd j ?_
 try dsimp only
 rw[Nj (by simp)];calc GS<|GU ?_;simp only[FG,q];calc GU ?_;refine GS (MD c (by simp) λu v f=>?_);calc GU (e.2,U,GU<|r u ?_ f,);rw[v];simp[f7,KG]
def oO{I a tp:Jr}{i:Nat}{o:Obj}{d:Array (Int×I1)}{j:Nat}{t:Mf}{places:Nt Nat}{m:Nat}{to:Obj}{Q:Option I1->JY->Prop}(n:A.handled=Nd)
  (c:s.heap.get? I=Nc (f7 (.ref tp) i (.ref a) d.size j))(k:s.heap.get? tp=Nc to)(f:to.data=.seq (places.map λ(p:Nat)=>KG p).toArray m)(l:s.heap.get? a=Nc o)(hd:o.data=.set d j t)(q:t.fits d.size=Nf)
  (g:places[i]?=Nd)(r:∀h',Pj I s.heap h'->Q Nd { s with heap:=h' }) :
  Kc (model prog w) A (KA<|.ref I) Q E s:=by
 let h:s.TypeIs (.ref I) "set_iterator" := (_,c,U,);unfold KA;calc GS<|L0<|Mz (name:=s!"__next__") h bf<|MA bf h dj ?_<|dN _;unfold KR.«set_iterator.__next__»;calc GS (m:=L3 "__next__" 0 _)<|GU ?_;refine GS<|MB c U ?_
 try dsimp only
 calc GS<|MC l hd q ?_;rw[Nj (by simp)]
 try dsimp only
 refine GS<|MN k f ?_
 try dsimp only
 let x:(places.map λ(p:Nat)=>KG p).toArray[(i:Int).toNat]?=none:=by simp at g⊢;exact g
 rw[x]
 try dsimp only
 refine GS (MD c (by simp) λu v e=>?_);refine GS (LO (s:={ s with heap:=u }) v U (by simp) ?_);show Kc _ _ (ME (.type "StopIteration") [] >>= _) _ _ _;calc GS ?_;simp only[ME,MG];refine GS (LG ?_ (by size_fits));refine GS (m:=MH _ _) (LZ (a:=pr) (by first|rfl|(simp only[MH];rfl)) ?_);refine LG ?_ (by size_fits);simp only[MI];calc GS<|MJ ?_;rw[show A.in1.handled=Nd from n];calc GS<|GU<|MK ?_;calc GS<|ML (T := "StopIteration") (b:=Nf) (_,ci _ U,U,) MM ?_;calc GU<|r _<|((e.trans<|wE ..).extBut.push _).push _
def oP(b:s.heap.get? I=Nc (f7 first i v n c))(h:Q (.ref I) s):Kc (model prog w) A (KD<|.ref I) Q E s:=by
 let a:s.TypeIs (.ref I) "set_iterator" := (_,b,U,);calc MO a jf<|MA jf a mJ ?_<|nI _;show Kc _ _ (ret<|.ref I) _ _ s;calc GU (_,U,"set_iterator",_,a,bf.lookup,h,)
def lO(k:eU w=Nf)(g:s.heap.get? a=Nc o)(hd:o.data=.set d f t)(j:t.fits d.size=Nf)(h:Q (((Mi (w.params.setOrder a f) d)[i]?).map λe=>(e.2,b)) s):Kc (model prog w) A (Mx a b i f) Q E s:=by
 let c:((MP.mk prog w.params).params.followText "set-order")=true:=k;unfold Mx;refine GS<|Mn g hd j ?_
 try dsimp only
 unfold MQ;calc GS<|GS<|Mo<|GU ?_;show Kc _ _ (if (MP.mk prog w.params).params.followText "set-order" = Nf then _ else _) _ _ _;rw[Nk c,Nj (by simp)];unfold setWalk;refine GS<|GS<|Mn g hd j ?_
 try dsimp only
 unfold MQ;calc GS<|GS<|Mo<|GU ?_;show Kc _ _ (if (MP.mk prog w.params).params.followText "set-order" = Nf then _ else _) _ _ _;rw[Nk c];calc GS<|Mo<|GU<|GU h
def kA(m:eU w=Ng)(g:s.heap.get? a=Nc o)(hd:o.data=.set c e t)(l:t.fits c.size=Nf)(k:t.led=Nf)(f:(!t.plain && decide (c.size>1))=Ng)(h:Q (match c[o0 t.place b]?,t.place[o0 t.place b]? with|some (_,x),Nc j=>Nc (x,j+1)|_,_=>Nd) s):Kc (model prog w) A (Mx a b i e) Q E s:=by
 let d:((MP.mk prog w.params).params.followText "set-order")=false:=m;unfold Mx;refine GS<|Mn g hd l ?_
 try dsimp only
 unfold MQ;calc GS<|GS<|Mo<|GU ?_;show Kc _ _ (if (MP.mk prog w.params).params.followText "set-order" = Nf then _ else _) _ _ _;rw[Nj (by rw[d];exact cr)];show Kc _ _ (if (!t.plain && decide (c.size>1))=Nf then _ else _) _ _ _;rw[Nj (by rw[f];exact cr)];show Kc _ _ ((if (!t.led && !c.isEmpty)=Nf then unsupported "set:maker-not-led" else pure ()) >>= _) _ _ _;rw[k,Nj (by simp)];exact GS (GU<|GU h)
set_option maxRecDepth 100000
abbrev tW:Array Ka->Array Ka->Prop:=λg a=>a=g
def rj(sb:wS I s.heap h'):L8 [I] tW s { s with heap:=h' } :=
 (λb o a e=>(sb.2 b λz=>a<|z ▸ cF).trans e,U,U,U,uN _,)
def rm(sb:Pj I s.heap h'):L8 [I] tW s { s with heap:=h' } :=
 (λb o a e=>sb b o (λz=>a<|z ▸ cF) e,U,U,U,uN _,)
def oQ(B:A.handled=Nd)(n:a≠I){m:Nat}{t:Mf}(hd:o.data=.set f m t)(p:t.fits f.size=Nf){d:Nt I1}(z:⇑d=f.size)(j:Nat->Nat)
  (C:∀(i:Nat)(x:I1)(s:JY)(e:Option (I1×Nat)->JY->Prop) h,s.heap.get? a=Nc o->d[i]?=Nc x->e (Nc (x,j<|i+1)) s->Kc (model prog w) A.in1 (Mx a (j i) i m) e h s)
  (D:∀(s:JY)(e:Option (I1×Nat)->JY->Prop) h,s.heap.get? a=Nc o->e Nd s->Kc (model prog w) A.in1 (Mx a (j f.size) f.size m) e h s) :
  L6 prog w A I [I,a] [I] tW f.size (λi v=>d[i]?=Nc v) (λi s=>s.heap.get? I=Nc (f7 (.int (j i) 0) i (.ref a) f.size m)/\s.heap.get? a=Nc o) where
 sub:=λb r=>by simp at r;simp[r]
 grefl:=λ_=>U
 gtrans:=λ_ _ _ G F=>F.trans G
 frame:=λi s u J c _ k=>(k I (by simp) _ c.1,k a (by simp) _ c.2,)
 item:=λi s Q E hi c l=>by
  let y:d[i]?=Nc d[i]:=JO ∅;refine xU c.1 c.2 hd p (x:=d[i]) (nx:=j<|i+1) (λe h q=>C i _ s e h c.2 y q) λu g sb=>?_
  exact l _ _ y (g,(sb.2 a n).trans c.2,) (rj sb)
 done:=λs Q E c l=>xV B c.1 c.2 hd p (λe h q=>D s e h c.2 q) λu H=>l _ (rm H)
 self:=λi s Q E c l=>oP c.1 l
def tX(B:A.handled=Nd)(r:a≠I)(q:tp≠I){z m:Nat}{t:Mf}(hd:o.data=.set d z t)(u:t.fits d.size=Nf){places:Nt Nat}(j:to.data=.seq (places.map λ(p:Nat)=>KG p).toArray m)
  (G:⇑places=d.size){h:Nt I1}(F:∀(i:Nat),i<d.size->∃p e,places[i]?=Nc p/\d[p]?=Nc e/\h[i]?=Nc e.2) :
  L6 prog w A I [I,a,tp] [I] tW d.size (λi v=>h[i]?=Nc v) (λi s=>s.heap.get? I=Nc (f7 (.ref tp) i (.ref a) d.size z)/\s.heap.get? a=Nc o/\s.heap.get? tp=Nc to) where
 sub:=λb x=>by simp at x;simp[x]
 grefl:=λ_=>U
 gtrans:=λ_ _ _ n l=>l.trans n
 frame:=λi s y H c _ k=>(k I (by simp) _ c.1,k a (by simp) _ c.2.1,k tp (by simp) _ c.2.2,)
 item:=λi s Q E hi c f=>by
  let(p,e,n,l,C):=F i hi;refine vJ c.1 c.2.2 j c.2.1 hd u n l λy g sb=>?_
  exact f _ _ C (g,(sb.2 a r).trans c.2.1,(sb.2 tp q).trans c.2.2,) (rj sb)
 done:=λs Q E c f=>oO B c.1 c.2.2 j c.2.1 hd u (ll ∅) λy D=>f _ (rm D)
 self:=λi s Q E c f=>oP c.1 f
def zF(B:s.heap.get? a=Nc o)(Y:o.ExactSet)(hd:o.data=.set f y t)(r:f.size<L7)(n:t.fits f.size=Nf)(ha:Asc t.place)(hl:t.led = !eU w)
  (h:∀(I:Jr)(h':JD)(d:Drawn)(L:Nt I1)(fp:Nt Jr)(St:Nat->JY->Prop),(∀b u,s.heap.get? b=Nc u->h'.get? b=Nc u)->L.Perm (f.toList.map (·.2)) ->
   (∀K:JX,K.handled=Nd->L6 prog w K I fp [I] tW f.size (λi v=>L[i]?=Nc v) St)->St 0 { s with heap:=h',drawn:=d }->↥s<=I->(∀b∈fp,b=a\/↥s<=b)->Q (.ref I) { s with heap:=h',drawn:=d }) :
  Kc (model prog w) A (KD<|.ref a) Q E s:=by
 let hT:s.TypeIs (.ref a) "set" := (o,B,Y.1,);let la:a<↥s:=bi B;calc MO hT F.slot_set_iter<|MA F.slot_set_iter hT oM ?_<|F.args_set_iter_1 _;unfold KR.«frozenset.__iter__» KR.Frozenset.slot0;calc GS<|GS (m:=L3 "__iter__" 0 _)<|GU ?_;unfold KR.Frozenset.addrOf;calc GU ?_;unfold KR.Frozenset.sizeOf;calc GS<|GS<|MC B hd n<|GU ?_;unfold setDrawn;refine GS<|GS<|Mn B hd n ?_
 try dsimp only
 unfold MQ;calc GS<|GS<|Mo<|GU ?_;calc GU ?_;show Kc _ _ (if (!eU w && (!t.plain && decide (f.size>1)))=Nf then _ else _) _ _ _;let G:⇑f.toList=f.size:=D0;by_cases c:(!eU w && (!t.plain && decide (f.size>1)))=Nf
 .rw[Nk c];refine GS (oN f.size (db f.size) s (by simp) λj d p=>?_);refine GS<|MR ?_ ?_
  rotate_left
  .rw[af,p.length_eq,jG];unfold L7 at r;unfold JR;lia
  generalize M:({ cls:=.type "tuple",data:=.seq (j.map λ(i:Nat)=>KG i).toArray }:Obj)=to;let gt:(s.heap.push to).get? ↥s=Nc to:=by rw[←M];exact ci _ U
  let ga:(s.heap.push to).get? a=Nc o:=bd _ B;calc GS (m:=setEpoch a)<|MS (s:={ s with heap:=s.heap.push to,drawn:=d }) ga hd n ?_;refine GS (LG ?_ (by size_fits));let H:((s.heap.push to).push<|f7 (.ref ↥s) (0:Nat) (.ref a) f.size y).get? (s.heap.push to).objs.size=Nc (f7 (.ref ↥s) (0:Nat) (.ref a) f.size y):=ci _ U;calc GU (_,U,"set_iterator",_,(_,H,U,),bf.lookup,?_,);let T:∀i,i<f.size->∃p e,j[i]?=Nc p/\f[p]?=Nc e/\(j.map λp=>(f[p]?.map (·.2)).getD .none)[i]?=Nc e.2:=λi hi=>by
   let O:i<⇑j:=by rw[p.length_eq,jG];exact hi
   let D:j[i]?=Nc j[i]:=JO O;let lt:j[i]<f.size:=hE.mp<|p.mem_iff.mp<|NB O;let V:f[j[i]]?=Nc f[j[i]]:=Eg lt;exact(j[i],f[j[i]],D,V,by rw[fi,D];simp[V],)
  let rh:(j.map λp=>(f[p]?.map (·.2)).getD pr).Perm (f.toList.map (·.2)):=by
   calc(p.map _).trans (List.Perm.of_eq ?_);apply List.ext_getElem
   .simp
   .intro i h1 h2;simp at h1;simp[h1]
  refine h _ _ d _ [(s.heap.push to).objs.size,a,↥s] _ (λb u e=>bd _<|bd _ e) rh
   (λK J=>tX J (places:=j) (to:=to) (m:=0) (by rw[lv];exact uR (vr la)) (by rw[lv];exact uR (wm _)) hd n (by rw[←M]) (by rw[p.length_eq,jG]) T)
   (H,bd _ ga,bd _ gt,) (by rw[lv];exact v3 _) λb r=>?_
  rcases ax.mp r with rfl|r
  .exact .inr (by rw[lv];exact v3 _)
  .rcases ax.mp r with rfl|r
   .exact .inl U
   .let:b=↥s:= ~~~r
    exact .inr (by rw[this];exact uN _)
 .rw[Nj c];calc GS<|GU ?_;calc GS (m:=setEpoch a)<|MS B hd n ?_;refine GS (LG ?_ (by size_fits));let H:(s.heap.push<|f7 (.int (0:Nat) 0) (0:Nat) (.ref a) f.size y).get? ↥s=Nc (f7 (.int (0:Nat) 0) (0:Nat) (.ref a) f.size y):=ci _ U;calc GU (_,U,"set_iterator",_,(_,H,U,),bf.lookup,?_,);let ne:a≠↥s:=uR la;let P:∀b∈[↥s,a],b=a\/↥s<=b:=λb r=>by
   rcases ax.mp r with rfl|r
   .exact .inr<|uN _
   .exact .inl<|~~~r
  cases hbt:eU w with
  |true =>
   let pp:=xS (w.params.setOrder a y) f;let C:⇑((Mi (w.params.setOrder a y) f).toList.map (·.2))=f.size:=by rw[af,pp.length_eq,G]
   refine h _ _ s.drawn ((Mi (w.params.setOrder a y) f).toList.map (·.2)) [↥s,a] _ (λb u e=>bd _ e) (pp.map _)
    (λK J=>oQ J ne hd n C (λ_=>0) (λi x S W X g l q=>lO hbt g hd n ?_) λS W X g q=>lO hbt g hd n ?_) (H,bd _ B,) (uN _) P
   .rw[fi,EM]at l;cases e:(Mi (w.params.setOrder a y) f)[i]? with
    |none=>rw[e]at l;cases l
    |some z=>rw[e]at l;injection l with l;subst l;exact q
   .let e:(Mi (w.params.setOrder a y) f)[f.size]?=none:=by
     rw[←EM];exact ll (by rw[af]at C;lia)
    rw[e];exact q
  |false =>
   let N:t.led=true:=by rw[hl,hbt];rfl
   let T:(!t.plain && decide (f.size>1))=false:=by
    rw[hbt]at c;simpa using c
   let a0:t.place.size=f.size:=by
    let:=n;simp only[Mf.fits,EY,beq_iff_eq]at this;exact this.1
   let R:∀i,i<=f.size->o0 t.place (match i with|0=>0|k+1=>t.place.getD k 0+1)=i:=λi hi=>by
    cases i with
    |zero=>exact tQ ha
    |succ k =>
     have hk:k<t.place.size:=∅
     have eg:t.place.getD k 0=t.place[k]:=by simp[PD,hk]
     show o0 t.place (t.place.getD k 0+1)=k+1;rw[eg];exact vC ha hk
   refine h _ _ s.drawn (f.toList.map (·.2)) [↥s,a] _ (λb u e=>bd _ e) (.refl _)
    (λK J=>oQ J ne hd n (by rw[af,G]) (λi=>match i with|0=>0|k+1=>t.place.getD k 0+1) (λi x S W X g l q=>kA hbt g hd n N T ?_) λS W X g q=>kA hbt g hd n N T ?_) (H,bd _ B,) (uN _) P
   .let hi:i<f.size:=by
     let(z,_):=JP.mp l;rw[af,G]at z;exact z
    rw[R i (vl hi)];let D:f[i]?=Nc f[i]:=Eg hi;let V:t.place[i]?=Nc t.place[i]:=Eg ∅;let e3:x=f[i].2:=by
     rw[fi,EM,D]at l;injection l with l;exact l.symm
    rw[D,V];let e4:t.place.getD i 0=t.place[i]:=by simp[PD,show i<t.place.size by lia]
    subst e3;let Z:W (Nc (f[i].2,t.place.getD i 0+1)) S:=q;rw[e4]at Z;exact Z
   .rw[R f.size (uN _)];let D:f[f.size]?=none:=N2<|uN _;rw[D];exact q
set_option maxRecDepth 100000
def xW{a:Nt I1}{b:Array I1}{n:Nat}(h:ItemsOf (λi v=>a[i]?=Nc v) b n)(c:⇑a=n):b.toList=a:=by
 apply List.ext_getElem
 .rw[D0,h.1,c]
 .intro i f d;let e:a[i]?=Nc b[i]:=h.2 i b[i] (Eg<|~~~f);rw[JO d]at e;injection e with e;simpa using e.symm
def tY{a:Jr}{o:Obj}{q:Array (Int×I1)}{ep:Nat}{t:Mf}{Q:Nt I1->JY->Prop}(hh:A.handled=Nd)(S:s.heap.get? a=Nc o)(m:o.ExactSet)(hd:o.data=.set q ep t)(v:q.size<L7)(hf:t.fits q.size=Nf)(ha:Asc t.place)(hl:t.led = !eU w)
  (h:∀(f:Nt I1)(s':JY),f.Perm (q.toList.map (·.2))->(∀b u,s.heap.get? b=Nc u->s'.heap.get? b=Nc u)->s'.gens=s.gens->s'.os=s.os->↥s<↥s'->Q f s') :
  Kc (model prog w) A (collect<|.ref a) Q E s:=by
 let R:a<↥s:=bi S;unfold collect;calc GS<|Mc<|LW F.entry_proto_collect ?_;rw[wp F.plain_proto_collect _];show Kc _ A.in1 (LD [] >>= λl=>again<|.builtin "list.__iadd__" ([l,.ref a],[],)) _ _ s;calc GS<|LG ?_;calc GU (Ma F.plain_list_iadd _,LW F.entry_list_iadd ?_,);rw[wp F.plain_list_iadd _];generalize B:({ cls:=.type "list",data:=.seq ([]:Nt I1).toArray }:Obj)=lo;let J:(s.heap.push lo).get? a=Nc o:=bd _ S;let gS:(s.heap.push lo).get? ↥s=Nc lo:=by rw[←B];exact ci _ U
 let M:N4 { s with heap:=s.heap.push lo } (.ref a) "set" := (o,J,m.1,);show Kc _ A.in1 (FM (.ref ↥s) (.ref a)<|.ref ↥s) _ _ _;unfold FM;calc GS<|MT M ?_;let h1:NC (.ref ↥s) (.ref a)=false:=by simp[NC];exact vo R
 let h2:(zn "set" == zn "list")=false:=⋯
 let h3:(zn "set" == zn "tuple")=false:=⋯
 simp only[h1,h2,h3,O7,EZ,if_false];calc GS<|zF (s:={ s with heap:=s.heap.push lo }) J m hd v hf ha hl λI j d f fp St H P W X hI L=>?_;let g2:j.get? a=Nc o:=H a o J;let n:N4 { s with heap:=j,drawn:=d } (.ref a) "set" := (o,g2,m.1,);calc GS<|GV ?_;unfold OX;refine GS (MU n F.slot_set_len.lookup ?_)
 (generalize k:("set.__len__" : String)=id0;(fail_if_success (clear k id0));wp_delta;rw[show splitId id0=Nc ("set","__len__")from by subst k;decide+kernel];subst k)
 calc GS<|ML (b:=Nf) n sub_set_self ?_;calc GS<|MT n ?_;calc GU ?_;show Kc _ A.in1 (rule "list.extend.makes-room" >>= λ_=>Pp (.ref ↥s) >>= λ_ =>
  again (.builtin "list.extend.loop" ([.ref ↥s,.ref I,.ref ↥s],[],))) _ _ _
 calc GS<|L4 ?_;let c:j.get? ↥s=Nc lo:=H _ _ gS;rw[←B]at c;calc GS ?_;show Kc _ A.in1 (MV ↥s (·.push .none) >>= λ_=>MV ↥s (·.pop)) _ _ _;calc GS<|MW c U ?_;let i:=lw (kw (·.push pr)) c U;calc MW i U ?_;let p:=lw (kw (·.pop)) i U
 let y:∀b u,b≠↥s->j.get? b=Nc u ->
   ((j.update ↥s (kw (·.push pr))).update ↥s (kw (·.pop))).get? b=Nc u :=
  λb u v e=>(ls _ _<|IR v).trans<|(ls _ _<|IR v).trans e
 let x:(s.heap.push lo).objs.size=↥s+1:=lv ..;let C:↥s ∉ fp:=λr=>by
  rcases L _ r with z|z
  .exact vo R z
  .let O:(s.heap.push lo).objs.size<=↥s:=z;rw[x]at O;exact Nat.not_succ_le_self _ O
 let T:=W A.in1 (by simp[hh]);let G:⇑f=q.size:=by rw[P.length_eq,af,D0]
 let K:=T.frame 0 ({ s with heap:=j,drawn:=d }:JY) ((j.update ↥s (kw (·.push pr))).update ↥s (kw (·.pop))) s.toks X (uN _) λb g Z e=>y b Z (λz=>C<|z ▸ g) e
 refine GU (Ma KT _,codeAny_extend_loopS T (by unfold L7 at v;unfold JR;lia) _ C _ q.size 0 _ _ _ U (ve _)
  K p (ItemsOf.nil _) λs' zG c' r D Y=>?_,)
 show Kc _ A (load ↥s >>= _) _ _ s';calc GS<|wpAny_load D ?_;calc GU ?_;rw[xW Y G];calc h f s' P (λb u e=>?_) r.gens r.os<|bi D;let g:b<↥s:=bi e;calc r.heap b u (λz=>?_)<|y b u (uR g)<|H b u<|bd _ e;rcases ax.mp z with z|z
 .exact uR g z
 .let V:b=I:= ~~~z
  let N:(s.heap.push lo).objs.size<=I:=hI;rw[x,←V]at N;calc v5 _<|u7 g<|zz N
variable{Ni:Nt (Jr×Obj)}{σ:St}{H:Hp}
section
variable{h':JD}{Y:Nt Jr}
def Inv.excStepY(I:Inv X Ni σ H s)(st:Stp (frs X.stack) Y s.heap h')(h:∀b∈Y,fI X Ni H b):Inv X Ni σ H { s with heap:=h' }:=by
 let F:∀b,b≠X.env.locals->b ∉ X.fs->b ∉ frs X.stack:=λb Q P z=>(ax.mp<|I.stkSub b z).elim Q P
 let w:∀b o,X.s₀.heap.get? b=Nc o->b ∉ Y:=λb o q z=>by rw[(h b z).ent]at q;cases q
 let B:∀b o,X.s₀.heap.get? b=Nc o->b≠X.env.locals:=λb o q=>uR<|u7 (bi q) I.ok.above
 let any:∀b o,b ∉ Y->s.heap.get? b=Nc o->∃t,h'.get? b=Nc { o with slots:=t }:=λb o M q=>by
  by_cases J:b∈frs X.stack
  .exact st.slot b o J q
  .exact(o.slots,st.keep b o J M q,)
 let e:∀x c,X.env.cells.lookup x=Nc c->∀v,s.heap.IsCell c v->h'.IsCell c v:=λx c f v (o,N,hd,)=>by
  let(t,q):=any c o (λz=>(h c z).cel x c f U) N;exact(_,q,hd,)
 refine(I.ok,I.os,I.bare,(λb o q n g a=>?_,λb o q n g a=>?_,I.base.free,λb o q a=>?_,I.base.tups,I.base.frzs,I.base.tbls,),?_,λx c f=>?_,I.free,I.freeC,λp G=>?_,I.hok.stp st I.stkFree<|λb g=>(h b g).unt,I.len,)
 .exact st.keep b o (F b (B b o q) g) (w b o q)<|I.base.keep b o q n g a
 .let(t,A):=I.base.slot b o q n g a;let(j,y):=any b _ (w b o q) A;exact(j,y,)
 .let(Z,A):=I.base.there b o q a;let(j,y):=any b _ (w b o q) A;exact(_,y,)
 .let(m,(L,R,S,C,r),O):=I.loc;let(t,q):=any X.env.locals L (λz=>(h _ z).loc U) C;calc(m,(_,R,S,q,r,),λi x v W V T=>?_,);let(u,K,l):=O i x v W V T;calc(u,K,?_,);rcases l with l|⟨k,c,f,z⟩
  .exact .inl l
  .exact .inr (k,c,f,e x c f _ z,)
 .let(v,z):=I.cell x c f;exact(v,e x c f v z,)
 .let(q,n,E,D,d):=I.pin p G;calc(st.keep p.1 p.2 (F p.1 E D) (λz=>(h _ z).pin p G U) q,n,E,D,d,)
end
def  Du(X:Cx)(L:Jr)(E:XK):I1->JY->Prop:=λf c=>∃(e C:Jr)(d:I1×I1)(Ts:Nt Jr)(Ni:Nt (Jr×Obj))(σ:St)(a:Hp),f=.ref e/\Inv X Ni σ a c/\zr c.heap L e (.ref C) d Ts/\(∀b∈e :: Ts,fI X Ni a b)/\∃m,(m=Nd->d.2=.none)/\E (.ref C) m a
def xX{L:Jr}{E:XK}(a:X.stack=X.env :: X.outer)(c:X.env.frame=Nc L)(y:X.ex=[]):Ky (model X.prog X.w) X.A X.env (Du X L E):=by
 rintro V d ⟨e,C,F,Ts,Ni,σ,H,rfl,I,x,f,q⟩;let i:X.A.frames=Nc (X.env :: X.outer):=by rw[←a];exact I.ok.frames
 let j:d.heap.FunFrames X.base (X.env :: X.outer):=by rw[←a];exact I.stack
 refine note i j c x λg T m k D=>?_
 rw[←a]at m;let o:=I.excStepY m f;let v:fI X Ni H T:=by
  rcases D with z|z
  .exact I.newAt y z
  .exact f T<|dz e z
 let n:∀b∈[e,T],fI X Ni H b:=λb B=>by
  rcases ax.mp B with z|z
  .rw[z];exact f e cF
  .rw[show b=T by simpa using z];exact v
 show Kc (model X.prog X.w) X.A (do
  if (←field (.ref e) 1) == .none then unsupported "frame.own-activation:exception-without-traceback"
  LQ (.ref e) X.env.frame) _ _ { d with heap:=g }
 let(Q,O,R,P,t,N,r,p,M,K,J,G):=id k;calc GS<|LP (s:={ d with heap:=g }) t r p ?_;rw[Nj (show ¬ (io T == pr)=Nf by simp)];show Kc (model X.prog X.w) X.A (LQ (.ref e) X.env.frame) _ _ _;rw[c];refine wL (s:={ d with heap:=g }) (l:=X.stack) o.stack k λS h u=>?_
 calc(e,C,F,[T],Ni,σ,H,U,o.excStepY h n,.held u,n,q,)
variable{P:Jl}{K:am}{base:JD}{f:Jr}
section
variable{mg:Str->Option I1}{N:Nt Str}{qual:Str}{scope:JZ}{cd:I1}{outer:Nt Env}{s0:JY}{H0:Hp}{E:XK}
abbrev cxE(P:Jl)(w:Je)(K:am)(mg:Str->Option I1)(base:JD)(N:Nt Str)(qual:Str)(scope:JZ)(f:Jr)(cd:I1)(A:JX)(outer:Nt Env)(s0:JY)(H0:Hp)(E:XK):Cx :=
 (br (CX1 P w) P w K mg base N qual scope f cd A outer s0 H0 E).wish (Du (br (CX1 P w) P w K mg base N qual scope f cd A outer s0 H0 E) ↥s0 E)
def xY(h:Du (br (CX1 P w) P w K mg base N qual scope f cd A outer s0 H0 E) ↥s0 E n s):(br (CX1 P w) P w K mg base N qual scope f cd A outer s0 H0 E).xe n s:=by
 let(e,C,B,Ts,Ni,σ,H,rfl,I,x,g,q):=h;let k:(br (CX1 P w) P w K mg base N qual scope f cd A outer s0 H0 E).A.frames=Nc (envOfC qual scope ↥s0 f cd :: outer):=I.ok.frames;let v:(envOfC qual scope ↥s0 f cd).frame=Nc ↥s0:=rfl;show Kc (model P w) _ (leaving (envOfC qual scope ↥s0 f cd)<|.ref e) _ _ s;unfold leaving;calc GS<|note k I.stack v x λy T t r u=>?_;let c:=I.excStepY t g;let j:fI (br (CX1 P w) P w K mg base N qual scope f cd A outer s0 H0 E) Ni H T:=by
  rcases u with z|z
  .exact I.newAt U z
  .exact g T<|dz e z
 let i:=g e cF;let m:∀b∈[e,T],fI (br (CX1 P w) P w K mg base N qual scope f cd A outer s0 H0 E) Ni H b:=λb a=>by
  rcases ax.mp a with z|z
  .rw[z];exact i
  .rw[show b=T by simpa using z];exact j
 refine wL (s:={ s with heap:=y }) (l:=envOfC qual scope ↥s0 f cd :: outer) c.stack r λD d p=>?_
 refine(e,T,C,B,H,U,c.os,c.bare,c.base.stp d (λb o q a=>?_) (λb a=>?_)<|λb a=>(m b a).ent,c.hok.stp d c.stkFree<|λb a=>(m b a).unt,p,i.ent,j.ent,i.unt,j.unt,q,)
 .rcases ax.mp (c.stkSub b a)with z|z
  .exact Nl (u7 (bi q) c.ok.above) (by rw[z];exact v5 _)
  .exact z
 .show b∈frs (envOfC qual scope ↥s0 f cd :: outer);unfold frs;rw[lh];calc dz _ a
def PSs.leaves{st:Nt Ki}(h:PSs (cxE P w K mg base N qual scope f cd A outer s0 H0 E) st t):PSs (br (CX1 P w) P w K mg base N qual scope f cd A outer s0 H0 E) st t:=λNi s σ H D I a =>
 Kj (h Ni s σ H D (I.wish _) a) (λ_ _ q=>q.unwish) λ_ _ z=>xY z
def Fun.okE{x:Str}{st:Ki}{d:K9}(F:Fun K x qual st f d)(S:ar N ps (ao st))(len:∀vs H Q E,sp vs H Q E->⇑vs=⇑ps)
  (i:∀(a:I1)(A:JX)(outer:Nt Env)(s:JY)(H:Hp)(vs:Nt V)(Q:VK)(E:XK),bV k (A.deeper<|envOfC qual (ao st) ↥s f a)->sp vs H Q E ->
   ∃t,PSs (cxE P w K mg base N qual (ao st) f a A outer s H E) (cK st) t/\t { nx:=λ_ H'=>Q .non H',rt:=Q } (start N vs) H):aL P w K mg base (CX1 P w) (k+1) f d ps sp:=by
 let(o,n,kV,l,m,r,a,p,j,rfl,e,c):=F.ex;refine ze e c S len λA outer s H vs Q E g b=>?_
 let(t,h,q):=i a A outer s H vs Q E g b;calc(t,h.leaves,q,)
def mK{x:Str}{C:Jr}{L d pos:Pos}{a:Ke}{c:Nt Ke}{t:TA}(X:ExcCls K C)(hd:A.handled=Nd)(R:Gl (cxE P w K mg base N qual scope f cd A outer s0 H0 E) x)(O:mg x=↑C)
  (T:PA (cxE P w K mg base N qual scope f cd A outer s0 H0 E) (a :: c) t)(k:(x == ("__debug__" : Str))=false:=by decide)
  (he:Kh (a :: c) (envOfC qual scope ↥s0 f cd)=(Ng,eval a<|envOfC qual scope ↥s0 f cd) :: Kh c (envOfC qual scope ↥s0 f cd):=by rfl)
  (i:(Kg d<|Kh c<|envOfC qual scope ↥s0 f cd).any (·.1)=false:=by rfl) :
  PS (cxE P w K mg base N qual scope f cd A outer s0 H0 E) (.Raise (Nc<|.Call (.Name x L) (a :: c) [] d) Nd pos) (Dq C E t):=by
 intro Ni s σ H D I h;let(a3,a2,n,B,Bn,a0,vA,a1,M,F1,F2,u):=X.ex;let(bm,Z,nm,q,bs,hdct,sn,sub,ab,col,dd,k0,k1,k2,k3,k5,mN,G,F,y,p):=ExcCls.obj I.ok.mod.kin M;refine wpAny_Raise_call_subU (C:=C) (nm:=nm) (q:=q) (N:=Z) (bs:=bs) (bm:=bm) (hdct:=hdct) (sn:=sn) (sub:=sub) (ab:=ab) (col:=col) (dd:=dd) (k0:=k0) (k1:=k1) (k2:=k2) (k3:=k3) (k5:=k5) F1 F2 u (OwnTail.hasType p u.hasBase) hd (by
  show(Kg d<|Kh (a :: c)<|envOfC qual scope ↥s0 f cd).any (·.1)=Ng;rw[he];show(Ng || (Kg d<|Kh c<|envOfC qual scope ↥s0 f cd).any (·.1))=Ng;rw[i];rfl) (mN:=mN) y (dM I R O (U,?_,) k)
 show Kc _ _ (evalArgs (.ref C) Nf (Kg d<|Kh (a :: c)<|envOfC qual scope ↥s0 f cd) []) _ _ s;rw[he];calc Pk ?_;let z:Kc (model P w) (cxE P w K mg base N qual scope f cd A outer s0 H0 E).A (spliced<|Kg d<|Kh (a :: c)<|envOfC qual scope ↥s0 f cd) _ _ s:=T d Ni s σ H _ I h;rw[he]at z;refine thn z λus s2 (vs,H2,g,r,Q,v,)=>(U,by rw[←⇑r];exact Q,?_,)
 refine(g.bk C _ G,?_,p.keeps g.bk,λh' e m=>?_,)
 .let(o,l,Y,W,V):=F;exact(o,l,Y,g.bk _ _ W,V,)
 .let J:=g.unwish;let(t',j,_,_):=m.there;calc(e,C,(.ref t',.none),[],Ni,σ,H2,U,J.kept (t':=s2.toks) m.keeps,.fresh j U U U U U,λb S=>?_,Nd,λ_=>U,v,);rw[show b=e by simpa using S];calc J.newAt U m.new
def passE:Passes (CX1 P w) (cxE P w K mg base N qual scope f cd A outer s0 H0 E) E:=λNi σ H s r p I h=>by
 let(e,T,C,n,o,rfl,g,d,un,hok,x,i,j,k,m,q):=h;let J:=(I.unwish).call' (ch:=[]) g un hok d λb z=>Nl z (by simp)
 let a:=(I.unwish).newAt U i;let c:=(I.unwish).newAt U j;calc(e,C,n,[T],Ni,σ,o,U,J,.fly x,λb l=>?_,q,);rcases ax.mp l with z|z
 .rw[z];exact(a.ent,k,a.loc,a.cel,a.pin,)
 .rw[show b=T by simpa using z];calc(c.ent,m,c.loc,c.cel,c.pin,)
end
def kB:dq X (.builtin "len") (λxs H Q=>∃(l:Jr)(zs:Nt Str),xs=[.ref l]/\H l=Nc (ql X.prog X.w l zs)/\⇑zs<=1000/\Q (.int ((cntK zs ⇑zs:Nat):Int)) H):=by
 intro Ni s σ H xs i Q I r h;let(l,zs,rfl,e,j,q):=h;let(u,rfl,b):=r.one;obtain rfl:u=io l:=b;let((o,k,m,t,g,f,d,_,_,_,c,a),_,_):=I.hok l _ e;let le:=lN zs ⇑zs;refine call_len_set g f d c (by rw[a];lia) (.int _,H,I.tok _,(_,U,),?_,);rw[a];calc q
def  Gw(sp:Sp)(E:XK)(t:TA):TE:=λσ H Q=>t σ H λa b=>sp a b Q E
variable{k:Nat}{C:Jr}{fd:K9}{ps:Nt Str}{sp:Sp}{x m:Str}{p np pos:Pos}{e:Ke}{es:Nt Ke}
section
variable{apos:Pos}{o:Ke}{ta:TE}{t:TA}{E:XK}
def ck(M:aV X.prog X.w X.K X.mg X.base k x ps sp)(i:Passes (CX1 X.prog X.w) X E)(j:bV k X.A)(m:Gl X x)(n:PA X (e :: es) t)(c:(x == ("__debug__" : Str))=false:=by decide)
  (he:Kh (e :: es) X.env=(Ng,eval e X.env) :: Kh es X.env:=by rfl)(a:(Kg pos<|Kh es X.env).any (·.1)=false:=by rfl):PE X (.Call (.Name x p) (e :: es) [] pos) (Gw sp E t):=by
 let(f,fd,F,b,g,l):=M;intro Ni s σ H Q I h;calc GW<|dM I m l ?_ c;calc EQ (h₀:=X.base) I.ok.mod.kin g (thn (n pos Ni s σ H _ I h) λu v (o,y,d,r,q,)=>(d.kIn,Bh F j b i d r q,)) he a
end
variable{q:Str}
section
variable{env:Env}
def qo:Mt table "proto.unchain" = Nc KR.«proto.unchain»:=Mu (by kernel_rfl)
def rZ{s:JY}{e v:I1}{a:Jr}(b:s.heap.get? a=Nc o)(hd:o.data=.fields vs)(c:vs[2]?=Nc .none)(h:Q .none s) :
  Kc (model prog w) A (runValue<|.builtin "proto.unchain" ([e,.ref a,v,.bool Ng],[],)) Q E s:=by
 calc Mc<|LW qo ?_;unfold KR.«proto.unchain»;calc GS<|LP b hd c ?_;rw[Nk ⋯];calc GU h
def oR{α:Type}{s:JY}{e a:Jr}{f o:Obj}{d vs:Array I1}{Q:α->JY->Prop}(j:A.handled=↑a)(g:a≠e)(i:s.heap.get? a=Nc o)(hd:o.data=.fields vs)(k:vs[2]?=Nc .none)
  (he:s.heap.get? e=Nc f)(c:f.data=.fields d)(b:2<d.size)(h:E (.ref e) { s with heap:=s.heap.update e (KM (·.setIfInBounds 2 (.ref a))) }):Kc (model prog w) A (MI (.ref e):Sem α) Q E s:=by
 unfold MI;calc GS<|MJ ?_;rw[j];dsimp only;rw[Nk (~~~g)];calc GS<|GV<|rZ i hd k ?_;calc GS ?_;show Kc _ _ (LN (.ref e) 2<|.ref a) _ _ _;calc LO he c b<|MK h
section
variable{nm:Str}{N:Jr}{bs bm:Nt I1}{hdct:Bool}{sn:Nt Str}{sub:Nt I1}{ab:Bool}{col:Option Bool}{dd:Option Jr}{k0 k1 k2 k3 k5:Option I1}{newId:String}
end
section
variable{nm:Str}{N:Jr}{bs bm bmB:Nt I1}{hdct:Bool}{sn:Nt Str}{sub:Nt I1}{ab:Bool}{col:Option Bool}{dd:Option Jr}{k0 k1 k2 k3 k5:Option I1}{B Bn newId nid vA inN:String}{bmN:Nt I1}
end
end
section
variable{Y:Cx}{E:XK}{n1 n2 cn:Str}{a₀:Ke}{as:Nt Ke}{t ta:TA}{b1 b2:Jr}{Jt np1 np2 Gh j5 Ju Jv Bg Bp:Pos}{x1 kd:Nat}
end
def kJ:∀{b:Nt Int}{us:Nt I1},Vals (b.map pi) us->∃xs:Nt (Int×Tok),us.toArray=MX xs.toArray/\b=xs.map (·.1)
 | [],_,.nil=>([],by simp[MX],U,)
 |n :: b,_,.cons (t,e,) r=>by
  let(xs,d,c):=kJ r;refine((n,t) :: xs,?_,by rw[c];rfl,);subst e;let a:=Nq Pd d;simp[MX]at a⊢;calc a
def rp(h:i<xs.size):numAt xs i∈xs.toList.map (·.1):=by
 rw[MY];calc getD_mem (by rw[af,D0];lia)
def qp(C:X.calm=Nf):dq X (.builtin "min") (λus H Q=>∃(a:Jr)(c:Nt Int),us=[.ref a]/\SqL X.K H a (c.map pi)/\0<⇑c/\∀m,m∈c->(∀b∈c,m<=b)->Q (.int m) H):=by
 intro Ni s σ H us G Q I r h;let(a,c,rfl,y,d,q):=h;let(u,rfl,n):=r.one;cases (show u=io a from n);let(F,p,w,J):=I.list y;let(xs,E,f):=kJ p;let i:=w.isList;rw[E]at i;let g:0<xs.toArray.size:=by
  rw[f,af]at d;simpa using d
 refine min_intList (I.ok.hd C) i g λv M l x A=>?_
 let(t,rfl):=intItems_at x;let(L,D):=argBest_lt (numAt xs.toArray)<|xs.toArray.size-1;refine(.int _,H,I.kept (t':=l) λb o e=>A b o e,(t,U,),q _ ?_ λb k=>?_,)
 .rw[f];exact rp (xs:=xs.toArray) ∅
 .rw[f]at k;let(j,B,rfl):=mem_getD k;rw[af]at B;let z:=D j (by simp;lia);rw[MY]at z⊢;rw[MY]at z;simpa using z
def qr(C:X.calm=Nf):dq X (.builtin "max") (λus H Q=>∃(a:Jr)(c:Nt Int),us=[.ref a]/\SqL X.K H a (c.map pi)/\0<⇑c/\∀m,m∈c->(∀b∈c,b<=m)->Q (.int m) H):=by
 intro Ni s σ H us G Q I r h;let(a,c,rfl,y,d,q):=h;let(u,rfl,n):=r.one;cases (show u=io a from n);let(F,p,w,J):=I.list y;let(xs,E,f):=kJ p;let i:=w.isList;rw[E]at i;let g:0<xs.toArray.size:=by
  rw[f,af]at d;simpa using d
 refine max_intList (I.ok.hd C) i g λv M l x A=>?_
 let(t,rfl):=intItems_at x;let(L,D):=argBest_gt (numAt xs.toArray)<|xs.toArray.size-1;refine(.int _,H,I.kept (t':=l) λb o e=>A b o e,(t,U,),q _ ?_ λb k=>?_,)
 .rw[f];exact rp (xs:=xs.toArray) ∅
 .rw[f]at k;let(j,B,rfl):=mem_getD k;rw[af]at B;let z:=D j (by simp;lia);rw[MY]at z⊢;rw[MY]at z;simpa using z
def  Bq(P:Jl)(w:Je)(a:Jr)(b:Nt Int):HO:=.ext λh=>h.SetOf (JT P w) a (λz=>decide<|z∈b)<|cntK b ⇑b
def oS:∀{zs:Nt Int}{us:Nt I1},Vals (zs.map pi) us->∀(i:Nat)(v:I1),us[i]?=Nc v->∃z t,zs[i]?=Nc z/\v=.int z t
 | [],_,.nil,i,v,h=>by simp at h
 |z :: zs,_,.cons (t,e,) r,0,v,h=>by simp at h;exact(z,t,U,by rw[←h,e],)
 |z :: zs,_,.cons _ r,i+1,v,h=>by
  let(a,t,c,b):=oS r i v<|~~~h;calc(a,t,~~~c,b,)
def qt(B:X.calm=Nf):dq X (.type "set") (λxs H Q=>∃(p:Jr)(zs:Nt Int),xs=[.ref p]/\SqL X.K H p (zs.map pi)/\⇑zs<=1000/\∀l,H l=Nd->Q (.ref l) (upd H l<|Bq X.prog X.w l zs)):=by
 intro Ni s σ H xs F Q I r h;let(p,zs,rfl,C,G,q):=h;let(u,rfl,n):=r.one;obtain rfl:u=io p:=n;let(E,d,A,_):=I.list C;let f:=⇑d;rw[af]at f;refine rf (knd:=JT X.prog X.w) (ks:=zs) (I.ok.hd B) A.isList (λi v e=>?_) (~~~f) (by unfold L7;simp;lia) λh' m x=>?_
 .let(z,t,D,rfl):=oS d i v<|~~~e;exact(z,D,by show I1.isInt z (.int z t)=Nf;simp[I1.isInt],U,)
 .let(c,j):=x;calc(.ref ↥s,_,I.laid (a:=↥s) (o:=Bq X.prog X.w ↥s zs) (h':=h') (t':=m) (λb o q=>j b o (bi q) q) (uN _) ?_,U,q _ I.fresh,);calc(c,?_,λL J y k=>iT y k,);let(o,_,_,_,g,_):=c;calc(o,g,)
def qu:dq X (.builtin "len") (λxs H Q=>∃(l:Jr)(zs:Nt Int),xs=[.ref l]/\H l=Nc (Bq X.prog X.w l zs)/\⇑zs<=1000/\Q (.int ((cntK zs ⇑zs:Nat):Int)) H):=by
 intro Ni s σ H xs i Q I r h;let(l,zs,rfl,e,j,q):=h;let(u,rfl,b):=r.one;obtain rfl:u=io l:=b;let((o,es,k,t,g,f,d,_,_,_,c,a),_,_):=I.hok l _ e;let le:=lN zs ⇑zs;refine call_len_set g f d c (by rw[a];lia) (.int _,H,I.tok _,(_,U,),?_,);rw[a];calc q
def t6{b:Type} [DecidableEq b] {k:b}{ks:Nt b}:∀i,i<=⇑ks->1<=cntK (k :: ks) (i+1)/\(cntK (k :: ks) (i+1)=1↔∀x∈ks.take i,x=k)
 |0,_=>by simp[cntK]
 |i+1,h=>by
  let(d,c):=t6 (k:=k) (ks:=ks) i ∅;let e:(k :: ks)[i+1]?=Nc ks[i]:=by simp
  let j:ks[i]?=Nc ks[i]:=JO ∅;let f:ks.take (i+1)=ks.take i++[ks[i]]:=by rw[lJ,j];rfl
  let g:(k :: ks).take (i+1)=k :: ks.take i:=rfl;rw[show cntK (k :: ks) (i+1+1)=match (k :: ks)[i+1]? with
   |some x=>if x∈(k :: ks).take (i+1)then cntK (k :: ks) (i+1)else cntK (k :: ks) (i+1)+1
   |none=>cntK (k :: ks) (i+1)from U,e,f,g]
  dsimp only;by_cases m:ks[i]∈k :: ks.take i
  .rw[Nk m];calc(d,c.trans (λz x a=>?_,λz x a=>z x<|lj _ a,),);rcases gz.mp a with a|a
   .exact z x a
   .let:x=ks[i]:= ~~~a
    rw[this];rcases ax.mp m with m|m
    .exact m
    .exact z _ m
  .rw[Nj m];calc(∅,(λz=>Nl z ∅,λz=>?_,),);calc Nl (z ks[i] (jd _ (by simp))) λq=>m (by rw[q];exact cF)
def rq{a:Type} [DecidableEq a] {k:a}{ks:Nt a}:cntK (k :: ks) ⇑(k :: ks)=1↔∀x∈ks,x=k:=by
 let:=(t6 (k:=k) (ks:=ks) ⇑ks<|uN _).2;rw[fo]at this;calc this
def  TyG(K:am)(H:Hp)(x:V)(t:I1):Prop:=mH K H x t\/∃a b,x=.ref a/\SqT K H a b/\t=.type "tuple"
inductive ClV:V->I1->Prop where
 |ty (T:String):ClV (.ty T) (.type T)
 |ref (C:Jr):ClV (.ref C) (.ref C)
def eB:dq X (.builtin "isinstance") (λxs H Q=>∃x c d t b,xs=[x,c]/\ClV c d/\TyG X.K H x t/\sB X.K t d=Nc b/\Q (.bl b) H):=by
 intro Ni s σ H xs v Q I r h;let(x,c,d,t,b,rfl,i,ty,e,q):=h;cases r with
 |cons g j =>
  cases j with
  | @cons _ cu _ _ ry r3 =>
   cases r3;let n:cu=d:=by cases i <;> exact ry
   subst n;rcases ty with ty|⟨a,u,rfl,k,rfl⟩
   .exact xE I g ty e λf=>(.bl b,H,I.tok f,U,q,)
   .cases (show _=io a from g);let(p,r,(o,m,l,_),_):=I.tuple k;calc Do W.kitx_tuple I.kIn (o,m,l,) e (λz=>nomatch z) λf=>(.bl b,H,I.tok f,U,q,)
structure oU(K:am)(C:Jr):Prop where
 cl:Cls K C
 ha:xz K (.ref C) "__class__" = Nc (Nc<|.builtin "object.__class__")
 hn:NY K (.builtin "object.__class__") "__get__" = Nc (Nc<|.builtin "getset_descriptor.__get__")
 tk:W.takesIn K (.builtin "object.__class__")=Nc Nf
 hm:OH K C (.type "object")=Nc Nf
def oU.ty(h:oU K C)(e:H a=Nc (.ins C b fs)):TyG K H (.ref a) (.ref C):=.inl<|.ins e h.cl h.ha h.hn h.tk h.hm
def  Br(CX:CXT)(P:Jl)(w:Je)(K:am)(mg:Str->Option I1)(base:JD)(k:Nat)(m:Str)(ps:Nt Str)(cs:Nt (Jr×Sp)):Prop :=
 ∀p∈cs,bz CX P w K mg base k p.1 m ps p.2/\Cls K p.1
variable{CX:CXT}
section
variable{mg:Str->Option I1}{cs:Nt (Jr×Sp)}
def E1:Br CX P w K mg base k m ps []:=λ_ h=>nomatch h
def t7(M:bz CX P w K mg base k C m ps sp)(c:Cls K C)(r:Br CX P w K mg base k m ps cs):Br CX P w K mg base k m ps ((C,sp) :: cs):=λp h=>by
 rcases ax.mp h with rfl|h
 .exact(M,c,)
 .exact r p h
end
inductive Cy(cs:Nt (Jr×Sp))(m:Str)(t:TA)(σ:St)(Q:VK)(x:V)(H1:Hp):Prop
 |mk (a p dx fs:_)(_:x=.ref a)(_:p∈cs)(_:H1 a=Nc (.ins p.1 dx fs))(_:fs.lookup m=Nd)(_:t σ H1 λvs H2=>p.2 (x :: vs) H2 Q E0):Cy cs m t σ Q x H1
def  Gx(cs:Nt (Jr×Sp))(m:Str)(a:TE)(t:TA):TE:=λσ H Q=>a σ H λx b=>Cy cs m t σ Q x b
section
variable{apos:Pos}{o:Ke}{ta:TE}{t:TA}{cs:Nt (Jr×Sp)}
def zH{pl:Sem Bool}(M:Br CX X.prog X.w X.K X.mg X.base k m ps cs)(B:Passes CX X E0)(D:bV k X.A)(G:PE X o ta)(L:PA X (e :: es) t)
  (b:Kh (e :: es) X.env=(Ng,eval e X.env) :: Kh es X.env:=by rfl)(d:(Kg pos<|Kh es X.env).any (·.1)=false:=by rfl)
  (C:eval (.Call (.Attribute o m apos) (e :: es) [] pos) X.env=(do
   let g ←eval o X.env
   Kn apos.atName
   let (f,first) ←holding [g] (K2 g m pl)
   L5 pos f first (Kg pos<|Kh (e :: es) X.env) (Lv pos<|Lw [] X.env)):=by rfl) :
  PE X (.Call (.Attribute o m apos) (e :: es) [] pos) (Gx cs m ta t):=by
 intro Ni s σ H Q I h;calc OU (pl:=pl) (thn (G Ni s σ H _ I h) λu v (x,P,n,y,a,p,R,fs,N,E,O,l,q,)=>?_) C;let((f,fd,i,F,J),c):=M p E;subst N;obtain rfl:u=io a:=y;calc ox n O c i l ?_;calc EQ (first:=[.ref a]) (h₀:=X.base) I.ok.mod.kin i.kp (thn (L pos Ni v σ P _ n q) λus s2 (vs,S,j,r,z,)=>(j.kIn,?_,)) b d;calc Bh (us:=.ref a :: us) (vs:=.ref a :: vs) F D J B j (.cons U r) z
def mL(M:bo CX X.prog X.w X.K X.mg X.base k x C ps sp)(b:Passes CX X E0)(c:bV (k+1) X.A)(e:Gl X x)(a:(x == ("__debug__" : Str))=false:=by decide) :
  PE X (.Call (.Name x p) [] [] pos) (tMk C sp Dd):=by
 let(f,fd,M,F,g,d):=M;let h:=za (E:=E0) (dvs:=[]) (ds:=[]) (p:=p) (pos:=pos) M F c e d g .nil b a;intro Ni s σ H Q I q;calc h Ni s σ H Q I q
end
def  ModT(K:am)(a:Jr)(xs:Nt V):Prop:=∃(o:Obj)(b:Array I1)(n:Nat),K.lookup a=Nc o/\o.cls=.type "tuple" /\ o.data=.seq b n/\b.size<=JR/\Vals xs b.toList
def ModT.sq{K:am}{a:Jr}{xs:Nt V}(h:ModT K a xs)(H:Hp):SqT K H a xs:=.inr h
def ModT.mk{K:am}{a:Jr}{xs:Nt V}{d:Option Jr}{b:Array I1}{n:Nat}{c:Array (Option I1)}(h:K.lookup a=Nc (.type "tuple",d,.seq b n,c,)) (f:b.size<=JR)(e:Vals xs b.toList):ModT K a xs :=
 (_,b,n,h,U,U,f,e,)
def au.seqT(e:au H H')(h:SqT K H a xs):SqT K H' a xs:=by
 rcases h with(h|⟨o,h⟩)|h
 .exact .inl<|.inl<|e _ _ h
 .exact .inl<|.inr (o,e _ _ h,)
 .exact .inr h
def lP{c A B:Prop} [Decidable c] (a:c)(h:A):if decide c=Nf then A else B:=by rw[Nk (Nm a)];calc h
def kC{c A B:Prop} [Decidable c] (a:¬ c)(h:B):if decide c=Nf then A else B:=by rw[Nj (by rw[Nn a];decide)];calc h
def ls0{P:Nt I1->Prop}(h:P []):∀us:Nt I1,⇑us=0->P us:=λus e=>by
 cases us
 .exact h
 .cases e
def lsS{P:Nt I1->Prop}(h:∀a us,⇑us=n->P (a :: us)):∀us:Nt I1,⇑us=n+1->P us:=λus e=>by
 cases us
 .cases e
 .exact h _ _<|Nat.succ.inj e
def ls1{P:Nt I1->Prop}(h:∀a,P [a]):∀us:Nt I1,⇑us=1->P us:=lsS λa=>ls0 (P:=λv=>P (a :: v))<|h a
def ls2{P:Nt I1->Prop}(h:∀a b,P [a,b]):∀us:Nt I1,⇑us=2->P us:=lsS λa=>ls1 (P:=λv=>P (a :: v))<|h a
def ls3{P:Nt I1->Prop}(h:∀a b c,P [a,b,c]):∀us:Nt I1,⇑us=3->P us:=lsS λa=>ls2 (P:=λv=>P (a :: v))<|h a
def ls4{P:Nt I1->Prop}(h:∀a b c d,P [a,b,c,d]):∀us:Nt I1,⇑us=4->P us:=lsS λa=>ls3 (P:=λv=>P (a :: v))<|h a
def ls5{P:Nt I1->Prop}(h:∀a b c d e,P [a,b,c,d,e]):∀us:Nt I1,⇑us=5->P us:=lsS λa=>ls4 (P:=λv=>P (a :: v))<|h a
def ls6{P:Nt I1->Prop}(h:∀a b c d e f,P [a,b,c,d,e,f]):∀us:Nt I1,⇑us=6->P us:=lsS λa=>ls5 (P:=λv=>P (a :: v))<|h a
def ls7{P:Nt I1->Prop}(h:∀a b c d e f g,P [a,b,c,d,e,f,g]):∀us:Nt I1,⇑us=7->P us:=lsS λa=>ls6 (P:=λv=>P (a :: v))<|h a
def lb1(h:∀a,Lb fd ([a],[],)=pure (ps.zip [a])):∀us:Nt I1,⇑us=1->Lb fd (us,[],)=pure (ps.zip us):=ls1 (P:=λus=>Lb fd (us,[],)=pure (ps.zip us)) h
def lb2(h:∀a b,Lb fd ([a,b],[],)=pure (ps.zip [a,b])):∀us:Nt I1,⇑us=2->Lb fd (us,[],)=pure (ps.zip us):=ls2 (P:=λus=>Lb fd (us,[],)=pure (ps.zip us)) h
def lb3(h:∀a b c,Lb fd ([a,b,c],[],)=pure (ps.zip [a,b,c])):∀us:Nt I1,⇑us=3->Lb fd (us,[],)=pure (ps.zip us):=ls3 (P:=λus=>Lb fd (us,[],)=pure (ps.zip us)) h
def lb4(h:∀a b c d,Lb fd ([a,b,c,d],[],)=pure (ps.zip [a,b,c,d])):∀us:Nt I1,⇑us=4->Lb fd (us,[],)=pure (ps.zip us):=ls4 (P:=λus=>Lb fd (us,[],)=pure (ps.zip us)) h
def lb5(h:∀a b c d e,Lb fd ([a,b,c,d,e],[],)=pure (ps.zip [a,b,c,d,e])):∀us:Nt I1,⇑us=5->Lb fd (us,[],)=pure (ps.zip us):=ls5 (P:=λus=>Lb fd (us,[],)=pure (ps.zip us)) h
def lb7(h:∀a b c d e f g,Lb fd ([a,b,c,d,e,f,g],[],)=pure (ps.zip [a,b,c,d,e,f,g])):∀us:Nt I1,⇑us=7->Lb fd (us,[],)=pure (ps.zip us):=ls7 (P:=λus=>Lb fd (us,[],)=pure (ps.zip us)) h
section
variable{mg:Str->Option I1}{j:Nat}{N:Nt Str}{st:Ki}
def fsc{P:Nt Str}{f:JZ}(a:f.kind=.function:=by rfl)(b:f.isCoroutine=false:=by rfl)(c:f.isGenerator=false:=by rfl)(d:N.Nodup:=by decide+kernel)(e:N.take P.length=P:=by rfl)(g:∀x∈P,f.names.lookup x=Nc .local\/f.names.lookup x=Nc .cell:=by decide+kernel)(h:∀y∈f.names,y.2≠.free:=by decide+kernel):ar N P f:=(a,b,c,d,e,g,h,)
def Fun.okA(F:Fun K x q st f fd)(S:ar N ps (ao st))(c:∀(b:I1)(A:JX)(a:Nt Env)(s:JY)(H:Hp)(vs:Nt V)(Q:VK)(E:XK),bV k (A.deeper<|envOfC q (ao st) ↥s f b)->sp vs H Q E->∃t,PSs (br CX0 P w K mg base N q (ao st) f b A a s H E).nox (cK st) t/\t { nx:=λ_ H'=>Q .non H',rt:=Q } (start N vs) H)(len:∀vs H Q E,sp vs H Q E->⇑vs=⇑ps:=by intro vs H Q E h;cases h;subst_vars;rfl):aL P w K mg base CX0 (k+1) f fd ps sp:=F.ok S len c
def Fun.okEA(F:Fun K x q st f fd)(S:ar N ps (ao st))(c:∀(b:I1)(A:JX)(a:Nt Env)(s:JY)(H:Hp)(vs:Nt V)(Q:VK)(E:XK),bV k (A.deeper<|envOfC q (ao st) ↥s f b)->sp vs H Q E->∃t,PSs (cxE P w K mg base N q (ao st) f b A a s H E) (cK st) t/\t { nx:=λ_ H'=>Q .non H',rt:=Q } (start N vs) H)(len:∀vs H Q E,sp vs H Q E->⇑vs=⇑ps:=by intro vs H Q E h;cases h;subst_vars;rfl):aL P w K mg base (CX1 P w) (k+1) f fd ps sp:=F.okE S len c
def Callee.up(c:Callee P w K mg base j x ps sp)(h:j<=k:=by decide):Callee P w K mg base k x ps sp:=c.mono h
def aV.up(c:aV P w K mg base j x ps sp)(h:j<=k:=by decide):aV P w K mg base k x ps sp:=c.mono h
def bz.up(c:bz CX P w K mg base j C m ps sp)(h:j<=k:=by decide):bz CX P w K mg base k C m ps sp:=c.mono h
def bo.up(c:bo CX P w K mg base j x C ps sp)(h:j<=k:=by decide):bo CX P w K mg base k x C ps sp:=c.mono h
def cH.up(c:cH CX P w K mg base j x m ps sp)(h:j<=k:=by decide):cH CX P w K mg base k x m ps sp:=c.mono h
inductive GF(K:am)(x q:Str)(st:Ki):Prop
 |mk {f:Jr}{fd:K9}(a:li K JU x=Nc ↑f)(F:Fun K q q st f fd)
inductive MF(K:am)(C:Jr)(x q:Str)(st:Ki):Prop
 |mk {f:Jr}{fd:K9}(a:xz K (.ref C) x=Nc ↑f)(i:W.isFn K (.ref f)=Nf)(F:Fun K x q st f fd)
inductive KF(K:am)(C:Jr)(x q:Str)(st:Ki):Prop
 |mk {f:Jr}{fd:K9}(a:xz K (.ref C) "__init__" = Nc ↑f) (i:W.isFn K (.ref f)=Nf)(m:W.makesIn K C=Nf)(k:GE K (.ref C)=Nf)(n:li K JU x=Nc ↑C)(F:Fun K "__init__" q st f fd)
inductive BF(K:am)(C:Jr)(x m q:Str)(st:Ki):Prop
 |mk {f:Jr}{fd:K9}(s:NY K (.ref C) "__getattribute__" = Nc (Nc<|.builtin "type.__getattribute__")) (r:W.readsIn K C (.type "type")=Nf) (a:W.findCls K (.ref C) (.type "type") m=Nc (.val<|.ref f)) (n:li K JU x=Nc ↑C)(F:Fun K m q st f fd)
inductive Zb(P:Jl)(w:Je)(K:am)(mg:Str->Option I1)(base:JD):Prop
 |mk {h:JD}(X:K.In h)(G:h.Ns JU mg)
def Zb.g(Z:Zb P w K mg base){v:I1}(e:li K JU x=Nc (Nc v)):mg x=Nc v:=by cases Z with|mk X G=>calc rs X G e
def mkC(Z:Zb P w K mg base)(h:GF K x q st)(O:∀{f:Jr}{fd:K9},Fun K q q st f fd->aL P w K mg base CX0 k f fd ps sp)(b:∀{f:Jr}{fd:K9},Fun K q q st f fd->Binds K fd ps []:=by trivial):Callee P w K mg base k x ps sp:=by
 cases h with|mk a F=>calc(_,_,O F,b F,F.kp,Z.g a,)
def mkX(Z:Zb P w K mg base)(h:GF K x q st)(O:∀{f:Jr}{fd:K9},Fun K q q st f fd->aL P w K mg base (CX1 P w) k f fd ps sp)(b:∀{f:Jr}{fd:K9},Fun K q q st f fd->Binds K fd ps []:=by trivial):aV P w K mg base k x ps sp:=by
 cases h with|mk a F=>calc(_,_,O F,b F,F.kp,Z.g a,)
def mkM(_:Zb P w K mg base)(h:MF K C m q st)(O:∀{f:Jr}{fd:K9},Fun K m q st f fd->aL P w K mg base CX k f fd ps sp)(b:∀{f:Jr}{fd:K9},Fun K m q st f fd->Binds K fd ps []:=by trivial):bz CX P w K mg base k C m ps sp:=by
 cases h with|mk a i F=>calc(_,_,(a,i,F.kp,),O F,b F,)
def mkK(Z:Zb P w K mg base)(h:KF K C x q st)(O:∀{f:Jr}{fd:K9},Fun K "__init__" q st f fd->aL P w K mg base CX k f fd ps sp) (b:∀{f:Jr}{fd:K9},Fun K "__init__" q st f fd->Binds K fd ps []:=by trivial):bo CX P w K mg base k x C ps sp:=by
 cases h with|mk a i m k n F=>calc(_,_,(m,a,i,k,),O F,b F,Z.g n,)
def mkB(Z:Zb P w K mg base)(h:BF K C x m q st)(O:∀{f:Jr}{fd:K9},Fun K m q st f fd->aL P w K mg base CX k f fd ps sp)(b:∀{f:Jr}{fd:K9},Fun K m q st f fd->Binds K fd ps []:=by trivial):cH CX P w K mg base k x m ps sp:=by
 cases h with|mk s r a n F=>calc(_,_,_,(s,r,a,F.kp,),O F,b F,Z.g n,)
def mkR{sp:Nat->Sp}(Z:Zb P w K mg base)(h:GF K x q st)(k n:Nat)(z:∀{vs:Nt V}{H:Hp}{Q:VK}{E:XK},¬ sp 0 vs H Q E)(O:∀{f:Jr}{fd:K9}(n:Nat),Fun K q q st f fd->Callee P w K mg base (k+n) x ps (sp n)->aL P w K mg base CX0 (k+n+1) f fd ps (sp<|n+1))(b:∀{f:Jr}{fd:K9},Fun K q q st f fd->Binds K fd ps []:=by trivial):Callee P w K mg base (k+n) x ps (sp n):=by
 cases h with|mk a F =>
 calc(_,_,?_,b F,F.kp,Z.g a,);induction n with
 |zero=>exact aL.no λ_ _ _ _ h=>z h
 |succ n c=>calc O n F (_,_,c,b F,F.kp,Z.g a,)
def gv_mk(a:li K JU x=Nc (Nc u))(r:RelV v u):∃u,li K JU x=Nc (Nc u)/\RelV v u:=(u,a,r,)
end
section
variable{h':JD}
def Inv.turnedPair{ch:Nt Jr}{T:Jr}{x y:V}{u v:I1}(I:Inv X Ni σ H s)(h:∀b∈ch,mD X Ni H b)(k:∀b o,b ∉ ch->s.heap.get? b=Nc o->h'.get? b=Nc o)
  (A:s.heap.get? T=Nd)(D:H T=Nd)(E:MZ h' T u v)(t:RelV x u)(p:RelV y v):Inv X Ni σ (upd H T<|.tup [x,y]) { s with heap:=h' }:=by
 let out:∀b u,H b=Nc u->b ∉ ch:=λb u e z=>by
  let f:=(h b z).1;rw[f]at e;cases e
 let j:∀{b o},s.heap.get? b=Nc o->b≠T:=λe z=>by rw[z,A]at e;cases e
 let a:∀{b u},H b=Nc u->b≠T:=λe z=>by rw[z,D]at e;cases e
 let J:=Inv.step (H':=upd H T<|.tup [x,y]) (h':=h') (g':=s.gens) (d':=s.drawn) (t':=s.toks) (ch:=ch) I
  (λb g=>by let(_,i,_,K,G,F):=h b g;exact(K,i,G,F,))
  (λb o _ _ d e _=>k b o d e)
  (λb o _ _ d e _=>(o.slots,k b o d e,))
  (λb o _ e n=>by rw[aw (j e)];exact n)
  (λb o d e=>(o,k b o d e,))
  (λb l e=>by rw[aw (a e)];exact e)
  (λb o w e=>by rw[aw (a e)];exact e)
  (λb ps e=>(#[],by rw[aw (a e),e];simp,))
  (λm C=>by
   let(o,es,L,B,r):=C;calc(o,es,L,k _ o (λz=>?_) B,r,);let(_,i,_):=h _ z;exact i U)
  (λb w e=>by
   by_cases g:b=T
   .subst g;rw[ae]at e;cases e;exact(by show 2<=JR;decide,[u,v],.cons t<|.cons p .nil,_,E,U,_,U,)
   .rw[aw g]at e;refine(I.hok b w e).stay (λc z d q=>k c z ?_ q) (λc q=>?_) λc l q=>?_
    .rcases d with z|z
     .rw[z];exact out b w e
     .exact out c _ z
    .rw[aw (a q)];exact q
    .rw[aw (a q)];exact q)
  I.bare
 calc J
def Inv.turnedL{ch:Nt Jr}(I:Inv X Ni σ H s)(d:∀b∈ch,mD X Ni H b)(k:∀b o,b ∉ ch->s.heap.get? b=Nc o->h'.get? b=Nc o):Inv X Ni σ H { s with heap:=h' }:=by
 let out:∀b u,H b=Nc u->b ∉ ch:=λb u e z=>by
  let f:=(d b z).1;rw[f]at e;cases e
 let J:=Inv.step (H':=H) (h':=h') (g':=s.gens) (d':=s.drawn) (t':=s.toks) (ch:=ch) I
  (λb l=>by let(_,g,_,v,t,p):=d b l;exact(v,g,t,p,))
  (λb o _ _ a e _=>k b o a e)
  (λb o _ _ a e _=>(o.slots,k b o a e,))
  (λb o _ _ n=>n)
  (λb o a e=>(o,k b o a e,))
  (λb h e=>e) (λb o w e=>e) (λb ps e=>(#[],by rw[e];simp,))
  (λm j=>by
   let(o,es,x,i,r):=j;calc(o,es,x,k _ o (λz=>?_) i,r,);let(_,g,_):=d _ z;exact g U)
  (λb w e=>by
   refine(I.hok b w e).stay (λc z a q=>k c z ?_ q) (λc q=>q) λc h q=>q
   rcases a with z|z
   .rw[z];exact out b w e
   .exact out c _ z)
  I.bare
 calc J
end
def  Itz(K:am)(a b:Jr):It :=
 (λi H=>∃d c x y,SqL K H a d/\SqL K H b c/\d[i]?=Nc x/\c[i]?=Nc y,
 λi H v e=>∃T,H T=Nd/\v=.ref T/\∀d c x y,SqL K H a d->SqL K H b c->d[i]?=Nc x->c[i]?=Nc y->e=upd H T (.tup [x,y]),
 λi H=>∃d c,SqL K H a d/\SqL K H b c/\(⇑d<=i\/⇑c<=i),)
def  Cz(z TI TO d c a b:Jr)(i:Nat)(h:JD):Prop:=IsZip h z TI TO .none/\MZ h TI (.ref d) (.ref c)/\(∃p q,MZ h TO p q)/\h.IsListIter d a i/\h.IsListIter c b i
def zI{A:Nt Ke} {x1} {tp:Pos}{z TI TO t r a b:Jr}(D:M0 z TI TO t r a b) :
  Turn P w K (.Tuple A x1 tp) (Itz K a b) [z,TI,TO,t,r] z (Cz z TI TO t r a b) where
 mem:=by simp
 obj:=λi h f c d=>by
  let(n,g,(p,q,m),(o4,l,_,d4),(o5,j,_,d5)):=f;simp only[ax,ja,or_false]at d;rcases d with rfl|rfl|rfl|rfl|rfl
  .exact⟨_,n,λv q=>nomatch q⟩
  .exact⟨_,g,λv q=>nomatch q⟩
  .exact⟨_,m,λv q=>nomatch q⟩
  .exact⟨_,l,λv q=>by rw[d4]at q;cases q⟩
  .exact⟨_,j,λv q=>by rw[d5]at q;cases q⟩
 keep:=λi h h' f k=>by
  let(n,g,(p,q,m),l,j):=f;exact(k z (by simp) _ n,k TI (by simp) _ g,(p,q,k TO (by simp) _ m,),l.at λo e=>k t (by simp) o e,j.at λo e=>k r (by simp) o e,)
 item:=by
  intro X R N S d i Ni s σ H E I F f Q;subst R N S;let(xs,ys,x,y,C,B,ex,ey):=Q;let(n,g,(p,q,m),l,j):=f;let(us,L,M,_):=I.list C;let(vs,G,pv,_):=I.list B;let(u,eu,r1):=L.get ex;let(v,ev,r2):=G.get ey;refine M1 D n g m l j M.isList pv.isList (x:=u) (y:=v) (~~~eu) (~~~ev) λh1 a1 a2 a3 a4 a5 a6 a7=>?_
  calc(_,U,wpAny_letOwnedTupleGo_zip (s:={ s with heap:=h1 }) a1 λV b1 b2=>?_,);let nT:s.heap.get? ↥s=none:=by
   cases q:s.heap.get? ↥s with
   |none=>rfl
   |some o=>exact Nl (bi q) (v5 _)
  let hT:H ↥s=none:=I.hok.fresh<|uN _;let nz:↥s≠z:=vo<|bi n;let kk:∀c o,c ∉ [z,TO,t,r]->s.heap.get? c=Nc o->V.get? c=Nc o:=λc o d e=>by
   simp only[ax,ja,or_false,not_or]at d;exact b2.extBut _ _ d.1<|a7 c o d.1 d.2.1 d.2.2.1 d.2.2.2 e
  let J:=I.turnedPair (h':=V) (ch:=[z,TO,t,r]) (T:=↥s) (x:=x) (y:=y) (u:=u) (v:=v) (λc d=>F c (by simp at d⊢;rcases d with e|e|e|e <;> simp[e])) kk nT hT (b2.extBut _ _ nz a5) r1 r2;refine(.ref ↥s,upd H ↥s<|.tup [x,y],J,U,(_,hT,U,λb0 a9 x' y' q1 q2 Z Y=>?_,),(b1,b2.extBut _ _ D.TIz<|a7 TI _ D.TIz D.TITO D.TIi1 D.TIi2 g,(_,_,b2.extBut _ _ D.TOz a2,),a3.extBut b2.extBut D.i1z,a4.extBut b2.extBut D.i2z,),λc d=>?_,)
  .rw[I.list_inj q1 C]at Z;rw[I.list_inj q2 B]at Y;rw[ex]at Z;rw[ey]at Y;cases Z;cases Y;rfl
  .let h0:=(F c d).1;let:c≠↥s:=by
    let(o4,a8,_):=l;let(o5,a0,_):=j;simp only[ax,ja,or_false]at d;rcases d with rfl|rfl|rfl|rfl|rfl
    .exact nz.symm
    .exact uR<|bi g
    .exact uR<|bi m
    .exact uR<|bi a8
    .exact uR<|bi a0
   rw[aw this];exact h0
 done:=by
  intro X R N S d i Ni s σ H E I F f Q;subst R N S;let(xs,ys,C,B,O):=Q;let(n,g,(p,q,m),l,j):=f;let(us,L,M,_):=I.list C;let(vs,G,pv,_):=I.list B;let l1:=L.length;let l2:=G.length;refine M3 (I.ok.hd d) D n g m l j M.isList pv.isList ?_ λV k=>⟨U,I.turnedL (ch:=[z,TO,t,r]) (λc d=>F c (by simp at d⊢;rcases d with e|e|e|e <;> simp[e])) λc o d e=>?_⟩
  .rcases O with O|O
   .exact .inl (by simp;lia)
   .exact .inr (by simp;lia)
  .simp only[ax,ja,or_false,not_or]at d;exact k c o d.1 d.2.1 d.2.2.1 d.2.2.2 e
 self:=λ_ _ _ _ _ f h=>M4 f.1 h
inductive CA(K:am)(R:It->Qd)(vs:Nt V)(H1:Hp):Prop
 |mk (a b:_)(_:vs=[.ref a,.ref b])(_:(∃xs,SqL K H1 a xs))(_:(∃ys,SqL K H1 b ys))(_:R (Itz K a b) H1)
def  Gy(K:am)(b:TA):TI:=λσ H R=>b σ H λa c=>CA K R a c
def se{k e:Ke}{m:TA}{p pos:Pos}{j:Nt Ke} {x1} {tp:Pos}(N:Gl X "zip") (hm:X.mg "zip" = Nd) (O:PA X [k,e] m)
  (M:Kh [k,e] X.env=[(Ng,eval k X.env),(Ng,eval e X.env)]:=by rfl)(g:Kh [e] X.env=[(Ng,eval e X.env)]:=by rfl) :
  PI X (.Tuple j x1 tp) (.Call (.Name "zip" p) [k,e] [] pos) (Gy X.K m):=by
 intro Ni s σ H R I h;refine Call_ (iP I N hm OI<|mo (thn (O pos Ni s σ H _ I h) λC d (B,T,f,F,L,)=>?_) (by rw[M,g]) (by rw[g];rfl));let(a,b,rfl,(Y,J),(W,G),q):=L;let(u,v,rfl,E,D):=F.two;cases (show u=io a from E);cases (show v=io b from D);let(C,_,n,_):=f.list J;let(B,_,pv,_):=f.list G;let(oa,S,_):=id n.isList;let(Z,Q,_):=id pv.isList;let r:a<↥d:=bi S;let o:b<↥d:=bi Q;refine call_zip_2 n.isList pv.isList λP l A z y x V w=>?_
 calc M4 (s:={ d with heap:=P }) l ?_;refine(↥d+4,[↥d+4,↥d+2,↥d+3,↥d,↥d+1],Cz (↥d+4) (↥d+2) (↥d+3) ↥d (↥d+1) a b,Itz X.K a b,T,U,f.kept (t':=d.toks) w,zI ?_,(l,A,(_,_,z,),y,x,),λc t=>?_,q,)
 .refine(?_,?_,?_,?_,?_,?_,?_,?_,?_,?_,?_,?_,?_,?_,?_,?_,?_,?_,) <;> first|exact uR ∅|exact vo ∅|exact uR r|exact uR o|exact uR (u7 r<|vz _ _)|exact uR (u7 o<|vz _ _)
 .let i:↥d<=c:=by
   simp only[ax,ja,or_false]at t;rcases t with rfl|rfl|rfl|rfl|rfl <;> lia
  calc f.fpOk i<|f.hok.fresh i
def si{K:am}{a b:Jr}{xs ys:Nt V}{g:TG}{o:TS}{D:Ends}{σ:St}{H:Hp}(c:Nat->Qc)(z:c 0 σ H)(u:∀i σ H,c i σ H->SqL K H a xs/\SqL K H b ys)
  (t:∀i x y σ H T,xs[i]?=Nc x->ys[i]?=Nc y->c i σ H->H T=Nd->g (.ref T) σ (upd H T<|.tup [x,y]) λd n=>o { D with nx:=c<|i+1,ct:=c<|i+1,bk:=D.nx } d n)
  (hd:∀σ H,c (min ⇑xs ⇑ys) σ H->D.nx σ H) :
  ∃W:Nat->Nat->Qc,(∃m,W 0 m σ H)/\∀i m σ H,W i m σ H ->
   ((Itz K a b).stop i H/\D.nx σ H)\/((Itz K a b).go i H/\∃N:Qc,(∀f H',N f H'->∃q,q<m/\W (i+1) q f H')/\∀x H',(Itz K a b).yld i H x H'->g x σ H' λd n=>o { D with nx:=N,ct:=N,bk:=D.nx } d n):=by
 refine(λi m σ H=>m=min ⇑xs ⇑ys-i/\i<=min ⇑xs ⇑ys/\c i σ H,(min ⇑xs ⇑ys,by simp,ve _,z,),?_,);rintro i m σ H ⟨rfl,hi,p⟩;let(j,h):=u i σ H p;by_cases lt:i<min ⇑xs ⇑ys
 .let l:xs[i]?=Nc xs[i]:=JO ∅;let k:ys[i]?=Nc ys[i]:=JO ∅;refine .inr ((xs,ys,_,_,j,h,l,k,),c<|i+1,λf H' s=>(_,?_,U,lt,s,),λv H' r=>?_,)
  .lia
  .let(T,w,rfl,e):=r;rw[e xs ys _ _ j h l k];exact t i _ _ σ H T l k p w
 .let e:i=min ⇑xs ⇑ys:=∅
  subst e;calc .inl ((xs,ys,j,h,∅,),hd σ H p,)
def qv(h:X.K=K):dq X (.type "list") (λxs H Q=>∃p ys,xs=[.ref p]/\(SqL K H p ys\/SqT K H p ys)/\∀l,H l=Nd->Q (.ref l) (upd H l<|.lst ys)):=h ▸ fM
set_option maxRecDepth 100000
abbrev kK(h:JD)(z TI TO a:Jr)(b:Bool):Prop :=
 h.get? z=Nc { cls:=.type "zip",dict:=Nd,data:=.fields #[KG a,.bool b,.bool Ng,.ref TI,.ref TO],slots:=#[] }
def lQ(h:Q (s.heap.get? a) s):Kc (model prog w) A (loadIfAlive a) Q E s:=λ_ _ _=>h
def rz{z TI TO a:Jr}{b:Bool}(hz:kK s.heap z TI TO a b)(d:s.heap.get? a=Nc o)
  (h:∀h',kK h' z TI TO a Nf->wS z s.heap h'->Q Ng { s with heap:=h' }):Kc (model prog w) A (AC<|.ref z) Q E s:=by
 unfold AC;calc GS<|LP hz U (x:=KG a) U ?_;show Kc _ _ (loadIfAlive ((a:Int).toNat) >>= _) _ _ _;calc GS<|lQ ?_;rw[FG,d];simp only[Option.isNone_some,EZ,if_false];calc GS<|LP hz U (x:=.bool b) U ?_;cases b with
 |true =>
  rw[Nj (by simp)];calc GU ?_;let e:s={ s with heap:=s.heap }:=by cases s;rfl
  rw[e];exact h s.heap hz<|Pi z s.heap
 |false =>
  rw[Nk ⋯];refine GS (MD hz (by simp) λf g c=>?_);calc GU<|h f g c
def xZ{z TI TO u i p q t:Jr}{W:Bool}{k1 k2:Nat}{xs ys:Array I1}{x y a b:I1}{o:Obj}{Q:Option I1->JY->Prop}(D:M0 z TI TO i p q t)
  (hz:kK s.heap z TI TO u W)(G:s.heap.get? u=Nc o)(C:MZ s.heap TI (.ref i) (.ref p))(X:MZ s.heap TO a b)
  (R:s.heap.IsListIter i q k1)(P:s.heap.IsListIter p t k2)(B:s.heap.IsList q xs)(v:s.heap.IsList t ys)(N:xs[k1]?=Nc x)(M:ys[k2]?=Nc y)
  (O:∀h',kK h' z TI TO u Nf->h'.IsListIter i q (k1+1)->h'.IsListIter p t (k2+1)->MZ h' ↥s x y->h'.objs.size=↥s+1 ->
   (∀c o,c≠z->c≠i->c≠p->s.heap.get? c=Nc o->h'.get? c=Nc o)->Q (Nc<|.ref ↥s) { s with heap:=h' }) :
  Kc (model prog w) A (KA<|.ref z) Q E s:=by
 let H:s.TypeIs (.ref z) "zip" := (_,hz,U,);unfold KA;calc GS<|L0<|Mz (name:=s!"__next__") H Of<|MA Of H F.entry_zip_next ?_<|F.args_zip_next_1 _;show Kc _ _ (field (.ref z) 2 >>= _) _ _ _;calc GS<|LP hz U (x:=.bool Ng) U ?_;show Kc _ _ (field (.ref z) 3 >>= _) _ _ _;calc GS<|LP hz U (x:=.ref TI) U ?_;calc GS<|MN C U ?_;show Kc _ _ (AC (.ref z) >>= _) _ _ _;calc GS<|rz hz G λK k d=>?_;simp only[EZ,if_false];calc GS ?_;rw[←PH];simp only[List.forIn_cons,List.forIn_nil];calc GS<|GS<|GV ?_;show Kc _ _ (My (.ref i) >>= _) _ _ _;calc GS<|M5 (R.extBut d.extBut D.i1z) (B.extBut d.extBut D.l1z) N λJ n g=>GU ?_;calc GU ?_;dsimp only;calc GS<|GS<|GV ?_;show Kc _ _ (My (.ref p) >>= _) _ _ _;calc GS<|M5 ((P.extBut d.extBut D.i2z).extBut g.extBut D.i12.symm) ((v.extBut d.extBut D.l2z).extBut g.extBut D.l2i1) M λf l h=>GU ?_;calc GU ?_;dsimp only;calc GU ?_;refine GS (MR ?_ (by show 2<=JR;decide));let r:f.objs.size=↥s:=by rw[h.1,g.1,d.1]
 calc GU (_,U,GU ?_,);show Q ↑f.objs.size _;let j:kK f z TI TO u true:=h.extBut _ _ D.i2z.symm<|g.extBut _ _ D.i1z.symm k;let m:f.IsListIter i q (k1+1):=n.extBut h.extBut D.i12;let I:(f.push { cls:=.type "tuple",data:=.seq #[x,y] }).get? f.objs.size=Nc { cls:=.type "tuple",data:=.seq #[x,y] }:=ci _ U;let L:(f.push { cls:=.type "tuple",data:=.seq #[x,y] }).objs.size=↥s+1:=by rw[lv,r]
 rw[r]at I⊢;calc O _ (bd _ j) (m.at λo e=>bd _ e) (l.at λo e=>bd _ e) I L λc o V T S e=>bd _<|h.extBut _ _ S<|g.extBut _ _ T<|d.extBut _ _ V e
def zJ{z TI TO N j i p n:Jr}{Y:Bool}{k1 k2:Nat}(J:A.handled=Nd)(D:M0 z TI TO j i p n)
  (hz:kK s.heap z TI TO N Y)(G:s.heap.get? N=Nc o)(C:MZ s.heap TI (.ref j) (.ref i))(Z:MZ s.heap TO a b)
  (L:s.heap.IsListIter j p k1)(X:s.heap.IsListIter i n k2)(l:s.heap.IsList p xs)(y:s.heap.IsList n ys)(R:xs[k1]?=Nd\/ys[k2]?=Nd)
  (W:∀h',(∀c o,c≠z->c≠j->c≠i->s.heap.get? c=Nc o->h'.get? c=Nc o)->Q Nd { s with heap:=h' }) :
  Kc (model prog w) A (KA<|.ref z) Q E s:=by
 let K:s.TypeIs (.ref z) "zip" := (_,hz,U,);unfold KA;calc GS<|L0<|Mz (name:=s!"__next__") K Of<|MA Of K F.entry_zip_next ?_<|F.args_zip_next_1 _;show Kc _ _ (field (.ref z) 2 >>= _) _ _ _;calc GS<|LP hz U (x:=.bool Ng) U ?_;show Kc _ _ (field (.ref z) 3 >>= _) _ _ _;calc GS<|LP hz U (x:=.ref TI) U ?_;calc GS<|MN C U ?_;show Kc _ _ (AC (.ref z) >>= _) _ _ _;calc GS<|rz hz G λP H d=>?_;simp only[EZ,if_false];calc GS ?_;rw[←PH];simp only[List.forIn_cons,List.forIn_nil];calc GS<|GS<|GV ?_;show Kc _ _ (My (.ref j) >>= _) _ _ _
 let fin:∀h' e,(∀c o,c≠z->c≠j->c≠i->s.heap.get? c=Nc o->h'.get? c=Nc o)->(∃o,h'.get? e=Nc o/\o.cls=.type "StopIteration") ->
   Kc (model prog w) A (do if ←isInstance (.ref e) (.type "StopIteration")then pure Nd else throw (.ref e)) Q E { s with heap:=h' }:=λh' e k (S,v,B,)=>by
  calc GS<|ML (T := "StopIteration") (b:=Nf) (S,v,B,) MM ?_;exact GU<|W _ k
 cases hx:xs[k1]? with
 |none =>
  calc GS<|M6 J (L.extBut d.extBut D.i1z) (l.extBut d.extBut D.l1z) hx λm e f r=>?_;exact fin _ _ (λc o u t M q=>f _ _ t<|d.extBut _ _ u q) r
 |some x =>
  let V:ys[k2]?=none:=by rcases R with h|h;rw[hx]at h;cases h;exact h
  calc GS<|M5 (L.extBut d.extBut D.i1z) (l.extBut d.extBut D.l1z) hx λm I f=>GU ?_;calc GU ?_;dsimp only;calc GS<|GS<|GV ?_;show Kc _ _ (My (.ref i) >>= _) _ _ _;calc GS<|M6 J ((X.extBut d.extBut D.i2z).extBut f.extBut D.i12.symm) ((y.extBut d.extBut D.l2z).extBut f.extBut D.l2i1) V λO e g r=>?_;calc fin _ _ (λc o u t M q=>g _ _ M<|f.extBut _ _ t<|d.extBut _ _ u q) r
section
variable{R:K3->JY->Prop}
def neA{a T:Jr}{N:Nat}(h:a<N)(h':N<=T):T≠a:=vo<|u7 h h'
def  CB(h:JD)(z TI TO:Jr)(N:Nat)(i:Nat):Prop:=(i=0/\IsZip h z TI TO .none)\/∃a b o,N<=a/\a≠z/\kK h z TI TO a b/\h.get? a=Nc o/\o.cls=.type "tuple"
def vK{z TI TO B v K J S:Jr}{xs ys:Array I1}{H:I1}(hh:A.handled=Nd)(D:M0 z TI TO B v K J)(N:Nat)(hz:z<N)(c2:TI<N)(a8:TO<N)(W:B<N)(V:v<N)(c1:K<N)(b6:J<N)(hS:S<N)
  (m:S≠z/\S≠TI/\S≠TO/\S≠B/\S≠v/\S≠K/\S≠J)(hn:min xs.size ys.size<=JR) :
  ∀(d i:Nat)(s:JY)(l:Array I1)(c:Nat)(ts:Nt Jr),min xs.size ys.size=i+d->N<=↥s->CB s.heap z TI TO N i->MZ s.heap TI (.ref B) (.ref v)->(∃a b,MZ s.heap TO a b) ->
   s.heap.IsListIter B K i->s.heap.IsListIter v J i->s.heap.IsList K xs->s.heap.IsList J ys->s.heap.get? S=Nc { cls:=.type "list",dict:=Nd,data:=.seq l c,slots:=#[] } ->
   l.toList=ts.map io->⇑ts=i->ts.Nodup->(∀(j:Nat)(T:Jr),ts[j]?=Nc T->N<=T/\∃x y,xs[j]?=Nc x/\ys[j]?=Nc y/\MZ s.heap T x y) ->
   (∀(h':JD)(zG:Array I1)(c':Nat)(n:Nt Jr),(∀b o,b<N->b≠S->b≠z->b≠TO->b≠B->b≠v->s.heap.get? b=Nc o->h'.get? b=Nc o)->h'.get? S=Nc { cls:=.type "list",dict:=Nd,data:=.seq zG c',slots:=#[] } ->
    zG.toList=n.map io->⇑n=min xs.size ys.size->n.Nodup->(∀(j:Nat)(T:Jr),n[j]?=Nc T->N<=T/\∃x y,xs[j]?=Nc x/\ys[j]?=Nc y/\MZ h' T x y)->R (.ok<|.ret H) { s with heap:=h' }) ->
   K4 (model prog w) A (.builtin "list.extend.loop" ([.ref S,.ref z,H],[],)) R s:=by
 intro d;induction d with
 |zero =>
  intro i s l c ts e hN r X (a,b,p2,) t1 t2 q1 q2 g ea el nd hts fin;calc LW F.entry_extend_loop ?_;rw[wp KT _];show Kc _ A.in1 (KA (.ref z) >>= _) _ _ s;let vH:xs[i]?=Nd\/ys[i]?=none:=by
   by_cases hx:xs.size<=i
   .exact .inl<|N2 hx
   .exact .inr<|N2 ∅
  let P:∀h',(∀b o,b≠z->b≠TO->b≠B->b≠v->s.heap.get? b=Nc o->h'.get? b=Nc o)->R (.ok<|.ret H) { s with heap:=h' }:=λh' k=>by
   refine fin h' l c ts (λb o _ _ O b2 M L q=>k b o O b2 M L q) (k S _ m.1 m.2.2.1 m.2.2.2.1 m.2.2.2.2.1 g) ea ∅ nd λj T C=>?_
   let(h,x,y,Q,G,E):=hts j T C;exact(h,x,y,Q,G,k T _ (neA hz h) (neA a8 h) (neA W h) (neA V h) E,)
  rcases r with⟨_,r⟩|⟨Z,bb,o,I,_,r,gT,_⟩
  .exact GS<|M3 (by simp[hh]) D r X p2 t1 t2 q1 q2 vH λh' k=>GU<|P h' k
  .exact GS<|zJ (by simp[hh]) D r gT X p2 t1 t2 q1 q2 vH λh' k=>GU<|P h' λb o O _ M L q=>k b o O M L q
 |succ d ih =>
  intro i s l c ts e hN r X (a,b,p2,) t1 t2 q1 q2 g ea el nd hts fin;let ix:i<xs.size:=∅
  let iy:i<ys.size:=∅
  calc LW F.entry_extend_loop ?_;rw[wp KT _];show Kc _ A.in1 (KA (.ref z) >>= _) _ _ s;let a0:l.size=i:=by rw[←D0,ea,af,el]
  let go:∀h',CB h' z TI TO N (i+1)->(∃a b,MZ h' TO a b)->h'.IsListIter B K (i+1)->h'.IsListIter v J (i+1)->MZ h' ↥s xs[i] ys[i]->h'.objs.size=↥s+1 ->
    (∀b o,b≠z->b≠TO->b≠B->b≠v->s.heap.get? b=Nc o->h'.get? b=Nc o) ->
    Kc (model prog w) A.in1 (MV S (·.push (.ref ↥s)) >>= λ_=>again<|.builtin "list.extend.loop" ([.ref S,.ref z,H],[],))
     (λfin s'=>match fin with | .done f=>R (.ok f) s' | .again c'=>c'.quiet=Nf/\K4 (model prog w) A c' R s') (λe s'=>R (.error e) s') { s with heap:=h' }:=λh' z1 z2 z3 z4 z5 z6 k=>by
   let gS:h'.get? S=Nc { cls:=.type "list",dict:=Nd,data:=.seq l c,slots:=#[] }:=k S _ m.1 m.2.2.1 m.2.2.2.1 m.2.2.2.2.1 g;refine GS (MW gS U ?_ (by rw[a0];lia) (by show(l.push _).size<=JR+1;rw[Array.size_push,a0];lia));let gU:=lw (kw (·.push (io ↥s))) gS U;generalize hH:h'.update S (kw (·.push (io ↥s)))=h2 at gU⊢;let sb:wS S h' h2:=hH ▸ wE ..;let p:∀b o,b≠S->h'.get? b=Nc o->h2.get? b=Nc o:=λb o hb q=>(sb.2 b hb).trans q
   let a9:h2.objs.size=↥s+1:=by rw[sb.1,z6]
   refine GU (Ma KT _,ih (i+1) { s with heap:=h2 } (l.push<|.ref ↥s) _ (ts++[↥s]) ∅ (by rw[a9];lia) ?_ (p TI _ m.2.1.symm<|k TI _ D.TIz D.TITO D.TIi1 D.TIi2 X) ?_ (z3.at λo q=>p B o m.2.2.2.1.symm q) (z4.at λo q=>p v o m.2.2.2.2.1.symm q)
    ((q1.at λo q=>k K o D.l1z D.l1TO D.l1i1 D.l1i2 q).at λo q=>p K o m.2.2.2.2.2.1.symm q) ((q2.at λo q=>k J o D.l2z D.l2TO D.l2i1 D.l2i2 q).at λo q=>p J o m.2.2.2.2.2.2.symm q) gU (by rw[EL,ea,eN];rfl) (by simp[el]) ?_ (λj T C=>?_) λh3 zG c' n k3 g3 e3 l3 n3 f3=>?_,)
   .rcases z1 with⟨z',_⟩|⟨Z,bb,o,h,Q,G,E,Y⟩
    .exact Nl z' ∅
    .exact .inr (Z,bb,o,h,Q,p z _ m.1.symm G,p Z _ (neA hS h) E,Y,)
   .let(a',b',q):=z2;exact(a',b',p TO _ m.2.2.1.symm q,)
   .rw[pM];refine(nd,by simp,λt ht u hu=>?_,);let eu:u=↥s:= ~~~hu
    let(j,C):=List.mem_iff_getElem?.mp ht;let(_,x,y,_,_,gp):=hts j t C;let:=bi gp;exact λq=>v5 _ (by rw[q,eu]at this;exact this)
   .rw[List.getElem?_append]at C;split at C
    .let(h,x,y,Q,G,E):=hts j T C;exact(h,x,y,Q,G,p T _ (neA hS h)<|k T _ (neA hz h) (neA a8 h) (neA W h) (neA V h) E,)
    .rename_i hlt
     have b5:j=i:=by
      let(q,_):=JP.mp C;simp at q;lia
     subst b5;rw[el,Dj]at C;let eT:↥s=T:= ~~~C
     subst eT;exact(hN,xs[j],ys[j],Eg ix,Eg iy,p _ _ (neA hS hN) z5,)
   .exact fin h3 zG c' n (λb o b0 bS O b2 M L q=>k3 b o b0 bS O b2 M L<|p b o bS<|k b o O b2 M L q) g3 e3 l3 n3 f3
  rcases r with⟨_,r⟩|⟨Z,bb,o,I,E7,r,gT,cT⟩
  .refine GS<|M1 D r X p2 t1 t2 q1 q2 (x:=xs[i]) (y:=ys[i]) (Eg ix) (Eg iy) λh' h Q G E Y a6 a7=>?_;exact go h' (.inr (↥s,Ng,_,hN,vo<|u7 hz hN,h,Y,U,)) (_,_,Q,) G E Y a6 a7
  .refine GS<|xZ D r gT X p2 t1 t2 q1 q2 (x:=xs[i]) (y:=ys[i]) (Eg ix) (Eg iy) λh' h G E Y a6 a7=>?_;calc go h' (.inr (Z,Nf,o,I,E7,h,a7 Z o E7 (neA W I) (neA V I) gT,cT,)) (_,_,a7 TO _ D.TOz D.TOi1 D.TOi2 p2,) G E Y a6 λb o O _ M L q=>a7 b o O M L q
end
set_option maxRecDepth 100000
def vL:Ln (.type "zip") "__len__" = pure none:=by rw[Mp,Mq];kernel_rfl
def t8:Ln (.type "zip") "__length_hint__" = pure none:=by rw[Mp,Mq];kernel_rfl
def qw{z TI TO m l I H:Jr}(hh:A.handled=Nd)(D:M0 z TI TO m l I H)(G:IsZip s.heap z TI TO .none)(V:MZ s.heap TI (.ref m) (.ref l))(S:MZ s.heap TO .none .none)
  (t1:s.heap.IsListIter m I 0)(O:s.heap.IsListIter l H 0)(R:s.heap.IsList I xs)(P:s.heap.IsList H ys)(Z:min xs.size ys.size<=JR)
  (h:∀(h':JD)(i:Array I1)(c:Nat)(ts:Nt Jr),(∀b o,b≠z->b≠TO->b≠m->b≠l->s.heap.get? b=Nc o->h'.get? b=Nc o)->h'.get? ↥s=Nc { cls:=.type "list",dict:=Nd,data:=.seq i c,slots:=#[] } ->
   i.toList=ts.map io->⇑ts=min xs.size ys.size->ts.Nodup->(∀(j:Nat)(T:Jr),ts[j]?=Nc T->↥s+1<=T/\∃x y,xs[j]?=Nc x/\ys[j]?=Nc y/\MZ h' T x y)->Q (.ref ↥s) { s with heap:=h' }) :
  Kc (model prog w) A (call (.type "list") [.ref z]) Q E s:=by
 let L:z<↥s:=bi G;let B:TI<↥s:=bi V;let v:TO<↥s:=bi S;let u:m<↥s:=let ⟨_,e,_⟩:=t1;bi e;let t:l<↥s:=let ⟨_,e,_⟩:=O;bi e;let r:I<↥s:=let ⟨_,e,_⟩:=R;bi e;let q:H<↥s:=let ⟨_,e,_⟩:=P;bi e
 refine callType_codes (Q₁:=λobj k=>obj=.ref ↥s/\k={ s with heap:=s.heap.push { cls:=.type "list",data:=.seq #[] } }) F.called_list (F.typeCall_list_1 _) F.entry_list_init
  (code_list_new _ (U,U,)) λobj k C=>?_
 let(rfl,rfl):=C;let K:(s.heap.push { cls:=.type "list",data:=.seq #[] }).get? ↥s=Nc { cls:=.type "list",data:=.seq #[] }:=ci _ U;calc((_,K,U,),F.args_list_init_2 _ _,?_,);show Kc _ _ (do let N ←Pq (.ref ↥s);KR.List.listUpdate (.ref ↥s) (λ_=>#[]);letGo N.toList.reverse;FM (.ref ↥s) (.ref z) .none) _ _ _;calc GS ?_;unfold Pq;calc GS<|MN K U<|GU ?_;show Kc _ _ (MV ↥s (λ_=>#[]) >>= λ_=>letGo (#[]:Array I1).toList.reverse >>= λ_=>FM (.ref ↥s) (.ref z) .none) _ _ _;calc GS<|MW K U ?_;let a:=lw (kw<|λ_=>(#[]:Array I1)) K U;calc GS<|wpAny_letGo ?_;let J:∀b o,s.heap.get? b=Nc o->((s.heap.push { cls:=.type "list",data:=.seq #[] }).update ↥s<|kw<|λ_=>(#[]:Array I1)).get? b=Nc o:=λb o e =>
  (ls _ _<|vo<|bi e).trans (bd _ e)
 let p:((s.heap.push { cls:=.type "list",data:=.seq #[] }).update ↥s<|kw<|λ_=>(#[]:Array I1)).objs.size=↥s+1:=by rw[wP,lv]
 generalize (s.heap.push { cls:=.type "list",data:=.seq #[] }).update ↥s (kw<|λ_=>(#[]:Array I1))=hA at a J p⊢;let M:N4 { s with heap:=hA } (.ref z) "zip" := (_,J _ _ G,U,);unfold FM;calc GS<|MT M ?_;let h1:NC (.ref ↥s) (.ref z)=false:=by simp[NC];exact vo L
 let h2:(zn "zip" == zn "list")=false:=⋯
 let h3:(zn "zip" == zn "tuple")=false:=⋯
 simp only[h1,h2,h3,O7,EZ,if_false];calc GS<|M4 (s:={ s with heap:=hA }) (J _ _ G) ?_;calc GS<|GV ?_;unfold OX;calc GS<|MU M vL ?_;show Kc _ _ (specialOf (io z) s!"__length_hint__" >>= _) _ _ _;calc GS<|MU M t8 ?_;calc GU ?_;show Kc _ _ (rule "list.extend.makes-room" >>= λ_=>Pp (.ref ↥s) >>= λ_ =>
  again (.builtin "list.extend.loop" ([.ref ↥s,.ref z,.none],[],))) _ _ _
 calc GS<|L4 ?_;calc GS ?_;show Kc _ _ (MV ↥s (·.push .none) >>= λ_=>MV ↥s (·.pop)) _ _ _;calc GS<|MW (s:={ s with heap:=hA }) a U ?_;let f:=lw (kw (·.push pr)) a U;refine MW (hz:=by seq_fits) f U ?_;let d:=lw (kw (·.pop)) f U;let g:∀b o,s.heap.get? b=Nc o->((hA.update ↥s (kw (·.push pr))).update ↥s (kw (·.pop))).get? b=Nc o :=
  λb o e=>(ls _ _<|vo<|bi e).trans<|(ls _ _<|vo<|bi e).trans<|J b o e
 let n:((hA.update ↥s (kw (·.push pr))).update ↥s (kw (·.pop))).objs.size=↥s+1:=by rw[wP,wP,p]
 generalize (hA.update ↥s (kw (·.push pr))).update ↥s (kw (·.pop))=hB at d g n⊢
 refine GU (Ma KT _,vK (by simp[hh]) D (↥s+1) (vr L) (vr B) (vr v) (vr u) (vr t) (vr r) (vr q) (wm _)
  (vo L,vo B,vo v,vo u,vo t,vo r,vo q,) Z (min xs.size ys.size) 0 { s with heap:=hB } #[] _ [] (wz _).symm (by rw[n];exact uN _)
  (.inl (U,g _ _ G,)) (g _ _ V) (_,_,g _ _ S,) (t1.at λo e=>g _ _ e) (O.at λo e=>g _ _ e) (R.at λo e=>g _ _ e) (P.at λo e=>g _ _ e) d U U sY (λj T hj=>by simp at hj) λh' i c ts Y g3 e3 X W f3=>?_,)
 exact(U,h h' i c ts (λb o b1 b2 b3 b4 e=>Y b o (vr<|bi e) (uR<|bi e) b1 b2 b3 b4<|g b o e) g3 e3 X W f3,)
set_option maxRecDepth 100000
def cB:∀{l L:Nt Int},l.Nodup->(∀x∈l,x∈L)->⇑l<=L.length
 | [],_,_,_=>ve _
 |x :: l,L,hn,hs=>by
  let(f,d):=lz.mp hn;let b:=hs x cF;let c:=cB (L:=L.erase x) d λy a=>(List.mem_erase_of_ne<|λ(e:y=x)=>f<|e ▸ a).mpr<|hs y<|dz _ a
  rw[List.length_erase_of_mem b]at c;let:0<L.length:=List.length_pos_of_mem b;rw[gE];lia
def sj:∀{vs:Nt I1},(∀v∈vs,∃u,v=.int (gA v) u)->IntsAre vs (vs.map gA)
 | [],_=>.nil
 |v :: vs,h=>by
  let(u,e):=h v cF;rw[e];calc .cons _ u<|sj λx a=>h x<|dz _ a
def rA:∀{vs:Nt I1}{a:Nt Int},IntsAre vs a->Vals (a.map pi) vs
 |_,_,.nil=>.nil
 |_,_,.cons n t r=>.cons (t,U,)<|rA r
def jv:∀{a:Nt Int},a.Pairwise (· <= ·)->a.Nodup->a.Pairwise (· < ·)
 | [],_,_=>.nil
 |n :: a,h1,h2=>by
  let(f,d):=nF.mp h1;let(c,b2):=lz.mp h2;calc .cons (λm b=>?_)<|jv d b2;let:=f m b;let:n≠m:=λe=>c<|e ▸ b
  lia
section
variable{H':Hp}
def Inv.grow(I:Inv X Ni σ H s)(k:∀b o,s.heap.get? b=Nc o->s'.heap.get? b=Nc o)(l:s'.gens=s.gens)(d:s'.os=s.os)(a:∀b,b<↥s->H' b=H b)
  (t:∀b u,↥s<=b->H' b=Nc u->cS X.prog X.w H' s'.heap b u):Inv X Ni σ H' s':=by
 let(h',g',d',t',h):=s';obtain rfl:g'=s.gens:=l;obtain rfl:h=s.os:=d;let lt:∀{b u},H b=Nc u->b<↥s:=λ{b u} e=>by
  rcases AA b ↥s with z|z
  .exact z
  .rw[I.hok.fresh z]at e;cases e
 let same:∀{b u},H b=Nc u->H' b=Nc u:=λe=>by rw[a _ (lt e)];exact e
 exact I.step (h':=h') (g':=s.gens) (d':=d') (t':=t') (ch:=[]) (λ_ z=>nomatch z) (λb o _ _ _ e _=>k b o e) (λb o _ _ _ e _=>(o.slots,k b o e,))
  (λb o _ e n=>by rw[a _ (bi e)];exact n) (λb o _ e=>(o,k b o e,)) (λb f e=>same e) (λb o u e=>same e) (λb ps e=>(#[],by rw[same e];simp,))
  (λm j=>by
   let(o,es,p,i,r):=j;exact(o,es,p,k _ o i,r,))
  (λb u e=>by
   rcases AA b ↥s with z|z
   .rw[a _ z]at e;exact(I.hok b u e).stay (λc g _ q=>k c g q) (λc q=>same q) λc f q=>same q
   .exact t b u z e)
  I.bare
end
def  vM(w:Je)(a:Jr)(zs:Nt Int):HO:=.ext λh=>∃m,eQ h a (!eU w) zs m
def oV:∀{zs:Nt Int}{us:Nt I1},Vals (zs.map pi) us->∀(i:Nat)(v:I1),us[i]?=Nc v->∃z t,zs[i]?=Nc z/\v=.int z t
 | [],_,.nil,i,v,h=>by simp at h
 |z :: zs,_,.cons (t,e,) r,0,v,h=>by simp at h;exact(z,t,U,by rw[←h,e],)
 |z :: zs,_,.cons _ r,i+1,v,h=>by
  let(a,t,c,b):=oV r i v<|~~~h;calc(a,t,~~~c,b,)
def rB(A:X.w=w)(B:X.calm=Nf):dq X (.type "set") (λxs H Q=>∃(p:Jr)(zs:Nt Int),xs=[.ref p]/\SqL X.K H p (zs.map pi)/\⇑zs<=1000/\∀l,H l=Nd->Q (.ref l) (upd H l<|vM w l zs)):=by
 subst A;intro Ni s σ H xs E Q I r h;let(p,zs,rfl,C,F,q):=h;let(u,rfl,j):=r.one;obtain rfl:u=io p:=j;let(D,c,n,_):=I.list C;let d:=⇑c;rw[af]at d;refine xT (ks:=zs) (I.ok.hd B) n.isList (λi v e=>?_) (~~~d) (by unfold L7;simp;lia) λh' f m x G z=>?_
 .exact oV c i v<|~~~e
 .refine(.ref ↥s,_,I.laid (a:=↥s) (o:=vM X.w ↥s zs) (h':=h') (t':=f) (λb o q=>z b o (bi q) q) (uN _) ?_,U,q _ I.fresh,);calc((m,x,),?_,λL J (t,y,) k=>(t,y.stay k,),);let(o,_,_,_,g,_):=x;calc(o,g,)
inductive E8(K:am)(Q:VK)(vs:Nt V)(H1:Hp):Prop
 |mk (a b xs ys:_)(_:vs=[.ref a,.ref b])(_:SqL K H1 a xs)(_:SqL K H1 b ys)(_:∀(D:Jr)(ts:Nt Jr)(H2:Hp),⇑ts=min ⇑xs ⇑ys->(∀c o,H1 c=Nc o->H2 c=Nc o)->H1 D=Nd->H2 D=Nc (.lst<|ts.map Qf) ->
  (∀(j:Nat)(x y:V),xs[j]?=Nc x->ys[j]?=Nc y->∃T,ts[j]?=Nc T/\H1 T=Nd/\H2 T=Nc (.tup [x,y]))->Q (.ref D) H2):E8 K Q vs H1
def  tLZ(K:am)(b:TA):TE:=λσ H Q=>b σ H λa c=>E8 K Q a c
def ltA(h:c<n)(k:Nat):c≠n+k:=uR<|u7 h<|vz _ _
def  jw(xs ys:Nt V)(ts:Nt Jr)(b:Jr):Option HO :=
 match ts.idxOf? b with
 |some j=>match xs[j]?,ys[j]? with
  |some x,Nc y=>Nc<|.tup [x,y]
  |_,_=>Nd
 |none=>Nd
def vN{J C:Ke}{ta:TA}{p1 p2 E9 Bp:Pos}(a6:X.calm=Nf)(hg:Gl X "list") (hm:X.mg "list" = Nd) (a5:Gl X "zip") (a4:X.mg "zip" = Nd) (ha:PA X [J,C] ta)
  (hs:Kh [J,C] X.env=[(Ng,eval J X.env),(Ng,eval C X.env)]:=by rfl)(M:Kh [C] X.env=[(Ng,eval C X.env)]:=by rfl) :
  PE X (.Call (.Name "list" p1) [.Call (.Name "zip" p2) [J,C] [] Bp] [] E9) (tLZ X.K ta):=by
 intro Ni s σ H Q I h;calc GW<|iP I hg hm Ev ?_;calc mo ?_ U U;show Kc _ _ (spliced ((Ng,eval (.Call (.Name "zip" p2) [J,C] [] Bp) X.env) :: Kg E9 (Kh [] X.env))) _ _ s;calc Px ?_;calc GW<|iP I a5 a4 OI ?_;refine mo (thn (ha Bp Ni s σ H _ I h) λus f (vs,W,B,r1,q1,)=>?_) (by rw[hs,M]) (by rw[M];rfl);let(a,b,p,n,rfl,qa,qb,q):=q1;let(u,v,rfl,ru,rv):=r1.two;cases (show u=io a from ru);cases (show v=io b from rv);let(us,vu,pu,zu):=B.list qa;let(vs,vv,pv,zv):=B.list qb;let(oa,ea,_):=id pu.isList;let(ob,eb,_):=id pv.isList;let la:a<↥f:=bi ea;let lb:b<↥f:=bi eb;let l1:=⇑vu;let l2:=⇑vv;refine call_zip_2 pu.isList pv.isList λR z1 z2 z3 z4 z5 z6 Z=>?_
 calc PJ ?_;let D:M0 (↥f+4) (↥f+2) (↥f+3) ↥f (↥f+1) a b:=by
  calc(?_,?_,?_,?_,?_,?_,?_,?_,?_,?_,?_,?_,?_,?_,?_,?_,?_,?_,) <;> first|exact uR ∅|exact vo ∅|exact uR la|exact uR lb|exact uR (u7 la<|vz _ _)|exact uR (u7 lb<|vz _ _)
 refine qw (s:={ f with heap:=R }) (B.ok.hd a6) D z1 z2 z3 z4 z5 (pu.isList.at λo e=>Z _ _ e) (pv.isList.at λo e=>Z _ _ e) (by simp;lia) λh2 b0 c d k3 g3 e3 n3 nd S=>?_
 let a3:JY.heap { f with heap:=R }=R:=rfl;rw[a3]at g3 S k3;rw[z6]at g3 S;let kp:∀c o,f.heap.get? c=Nc o->h2.get? c=Nc o:=λc o e=>by
  let:=bi e;exact k3 c o (ltA this _) (ltA this _) (uR this) (ltA this _)<|Z c o e
 let N:⇑d=min ⇑p ⇑n:=by rw[n3];simp;lia
 let F:∀(j:Nat)(T:Jr),d[j]?=Nc T->d.idxOf? T=Nc j:=λj T w=>by
  let(G,ej):=JP.mp w;rw[List.idxOf?,Nu];refine(G,by simp[ej],λi hi=>?_,);let:d[i]≠d[j]:=λq=>by
   let:=(sX nd).mp q;lia
  simpa[←ej]using this
 let L:∀(T:Jr)(j:Nat),d.idxOf? T=Nc j->d[j]?=Nc T:=λT j w=>by
  rw[List.idxOf?,Nu]at w;let(G,e,_):=w;rw[JO G];simpa using e
 let E:∀(T:Jr)(j:Nat),d.idxOf? T=Nc j->↥f+6<=T:=λT j w=>by
  let(a1,_):=S j T<|L T j w;lia
 show EP X Ni σ Q _ _;rw[show(JY.heap { f with heap:=R }).objs.size=↥f+5 from z6];generalize m:(λ(b:Jr)=>if b=↥f+5 then Nc (HO.lst<|d.map Qf)else match jw p n d b with|some o=>Nc o|none=>W b)=H2;let hD:H2 (↥f+5)=Nc (.lst<|d.map Qf):=by rw[←m];exact Nk U
 let hO:∀c,c<↥f->H2 c=W c:=λc hc=>by
  rw[←m];show(if c=↥f+5 then _ else _)=_;rw[Nj (ltA hc 5)];let:jw p n d c=none:=by
   unfold jw;cases e:d.idxOf? c with
   |none=>rfl
   |some j=>exact Nl (u7 hc<|uU (vz _ 6)<|E c j e) (v5 _)
  rw[this]
 let hT:∀(j:Nat)(x y:V)(T:Jr),p[j]?=Nc x->n[j]?=Nc y->d[j]?=Nc T->H2 T=Nc (.tup [x,y]):=λj x y T l A g=>by
  let:=E T j<|F j T g;rw[←m];show(if T=↥f+5 then _ else _)=_;rw[Nj (vo<|u7 (wm _) this)];let:jw p n d T=Nc (.tup [x,y]):=by unfold jw;rw[F j T g];dsimp only;rw[l,A]
  rw[this]
 refine(.ref<|↥f+5,H2,B.grow (s':={ f with heap:=h2 }) kp U U hO (λb u hb k=>?_),U,q _ d H2 N (λc o e=>?_) (B.hok.fresh<|vz _ _) hD λj x y l A=>?_,)
 .rw[←m]at k;replace k:(if b=↥f+5 then Nc (HO.lst<|d.map Qf)else match jw p n d b with|some o=>Nc o|none=>W b)=Nc u:=k
  by_cases Y:b=↥f+5
  .rw[Nk Y]at k;cases k;subst Y;let rv:∀d:Nt Jr,Vals (d.map Qf) (d.map io):=λd=>by
    induction d with
    |nil=>exact .nil
    |cons t r ih=>exact .cons U ih
   refine(by rw[af,N];lia,d.map io,c,rv d,?_,);rw[←e3];exact g3
  .rw[Nj Y]at k;cases g:jw p n d b with
   |none=>rw[g]at k;replace k:W b=Nc u:=k;rw[B.hok.fresh hb]at k;cases k
   |some o =>
    rw[g]at k;cases k;unfold jw at g;cases ei:d.idxOf? b with
    |none=>rw[ei]at g;cases g
    |some j =>
     rw[ei]at g;dsimp only at g;cases l:p[j]? with
     |none=>rw[l]at g;cases g
     |some x =>
      cases A:n[j]? with
      |none=>rw[l,A]at g;cases g
      |some y =>
       rw[l,A]at g;cases g;let(_,x',y',fx,fy,gp):=S j b<|L b j ei;let(u1,a8,a2):=vu.get l;let(v1,a7,a0):=vv.get A;let P:us[j]?=Nc x':= ~~~fx
       have O:vs[j]?=Nc y':= ~~~fy
       rw[a8]at P;rw[a7]at O;cases P;cases O;exact(by show 2<=JR;decide,[x',y'],.cons a2<|.cons a0 .nil,_,gp,U,_,U,)
 .let:c<↥f:=by
   rcases AA c ↥f with z|z
   .exact z
   .rw[B.hok.fresh z]at e;cases e
  rw[hO c this];exact e
 .let w:j<⇑d:=by
   let(h1,_):=JP.mp l;let(a9,_):=JP.mp A;lia
  let g:d[j]?=Nc d[j]:=JO w;calc(d[j],g,B.hok.fresh<|uU (vz _ 6)<|E _ j<|F j _ g,hT j x y _ l A g,)
end _L
namespace PyProof.Rows._T
open PySem PyProof.Rows
def  wM:Bool->Keyed->Array Keyed->Nat->Nat->Nat->StateT SortSt Sem (Option Nat):=sortPriv% PySem.Builtin.gallop
def  gY:Nat->StateT SortSt Sem Unit:=sortPriv% PySem.Builtin.setMinGallop
def  zK:Array Keyed->Array Keyed->StateT SortSt Sem (Array Keyed):=sortPriv% PySem.Builtin.mergeLo
def  zL:Array Keyed->Array Keyed->StateT SortSt Sem (Array Keyed):=sortPriv% PySem.Builtin.mergeHi
def mM(n:Nat):gY n=modify λs=>Oi (kindOf s) (arrOf s) (pendingOf s) n (failedOf s):=rfl
def zM{a α:Type}{c:Prop} [Decidable c] {p q:StateT a Sem α}{Q:α->a->Prop}{st:a}(h:c)(b:wpS M A E s p Q st):wpS M A E s (if c then p else q) Q st:=by rw[Nk h];calc b
def iq{a α:Type}{c:Prop} [Decidable c] {p q:StateT a Sem α}{Q:α->a->Prop}{st:a}(h:¬ c)(b:wpS M A E s q Q st):wpS M A E s (if c then p else q) Q st:=by rw[Nj h];calc b
def aH{a α:Type}{c:Prop} [Decidable c] {p q:StateT a Sem α}{Q:α->a->Prop}{st:a}(d:c->wpS M A E s p Q st)(b:¬ c->wpS M A E s q Q st):wpS M A E s (if c then p else q) Q st:=by
 by_cases h:c
 .exact zM h<|d h
 .exact iq h<|b h
def Bs{s:JY}{a:Type}{x:a}{Q:PUnit->a->Prop}{st:a}(h:Q ⟨⟩ x):wpS M A E s (set x:StateT a Sem PUnit) Q st:=by
 unfold wpS;rw[StateT.run_set];calc GU (rfl,h,)
end PyProof.Rows._T
namespace PyProof.Rows._T
open PySem PyProof.Rows
section
variable{M:Kb}{A:JX}{E:I1->JY->Prop}{s:JY}{ρ π β:Type}
def  Lr(R:ρ->SortSt->Prop)(a V:π->SortSt->Prop):ForInStep (Option ρ×π)->SortSt->Prop
 | .done (Nc r,_),st=>R r st
 | .done (Nd,p),st=>a p st
 | .yield (Nd,p),st=>V p st
 | .yield (Nc _,_),_=>False
def bO{st:SortSt}(R:ρ->SortSt->Prop)(d:π->SortSt->Prop)(V:Nat->π->SortSt->Prop)
  (h0:V a p st)(step:∀x p st,a<=x->x<b->V x p st->wpS M A E s (body x (Nd,p)) (Lr R d<|V<|x+1) st)(fin:∀p st,V (max a b) p st->d p st)
  (ret:∀r x st,R r st->wpS M A E s (rest (Nc r,x)) Q st)(g:∀p st,d p st->wpS M A E s (rest (Nd,p)) Q st):wpS M A E s (forIn [a:b] (Nd,p) body >>= rest) Q st:=by
 refine wpS_bind<|wpS_mono (wpS_forRange (I:=λx c st=>∃p,c=(Nd,p)/\V x p st) (Q:=λc st=>Lr R d d (.done c) st) ?_ ?_ (p,rfl,h0,)) ?_
 .rintro x c st f e ⟨p,rfl,h⟩;refine wpS_mono (step x p st f e h) λr st h=>?_
  match r,h with
  | .done (Nc r,_),h=>exact h
  | .done (Nd,p),h=>exact h
  | .yield (Nd,p),h=>exact(p,rfl,h,)
 .rintro c st ⟨p,rfl,h⟩;exact fin p st h
 .rintro⟨r,p⟩ st h;cases r with
  |none=>exact g p st h
  |some r=>calc ret r p st h
end
end PyProof.Rows._T
namespace PyProof.Rows._T
open PySem PyProof.Rows
section
variable{prog:Jl}{w:Je}{A:JX}{E:I1->JY->Prop}{s:JY}{κ:SortKind}{S:Keyed->Prop}{rk:Keyed->Int}
def  Ask(prog:Jl)(w:Je)(A:JX)(E:I1->JY->Prop)(s:JY)(κ:SortKind)(S:Keyed->Prop)(rk:Keyed->Int):Prop :=
 ∀(x y:Keyed)(a:SortSt)(Q:Option Bool->SortSt->Prop),S x->S y->kindOf a=κ->Q (Nc<|Nh<|rk x<rk y) a->wpS (model prog w) A E s (lt' x y) Q a
def  Kx(rk:Keyed->Int)(xs:Array Keyed)(i:Nat):Int:=match xs[i]? with
 |some p=>rk p
 |none=>0
def Kx_at(h:i<xs.size):Kx rk xs i=rk xs[i]:=by unfold Kx;rw[getElem?_pos xs i h]
def cZ(h:xs[i]?=ys[j]?):Kx rk xs i=Kx rk ys j:=by unfold Kx;rw[h]
def t9{st:SortSt}(hi:i<arr.size)(h:Q arr[i] st):wpS (model prog w) A E s (elem' arr i) Q st:=by
 rw[elem'_eq,getElem?_pos arr i hi];calc wpS_pure h
def  Bey(rk:Keyed->Int)(left:Bool)(a:Keyed)(arr:Array Keyed)(base i:Nat):Bool :=
 if left=Nf then decide (Kx rk arr (base+i)<rk a)else !Nh (rk a<Kx rk arr (base+i))
def vO{st:SortSt}(e:Ask prog w A E s κ S rk)(c:kindOf st=κ)(d:∀x∈arr,S x)(b:S a)(hi:base+i<arr.size)
  (h:Q (Nc<|Bey rk left a arr base i) st) :
  wpS (model prog w) A E s (do
   let x ←elem' arr (base+i)
   if left=Nf then lt' x a
    else do
     let __do_lift ←lt' a x
     pure (Option.map (λx=>!x) __do_lift)) Q st:=by
 calc wpS_bind<|t9 hi ?_;unfold Bey at h;rw[Kx_at hi]at h;cases left with
 |true=>exact e _ _ st Q (d _<|Ef hi) b c (~~~h)
 |false=>calc wpS_bind (e _ _ st _ b (d _<|Ef hi) c<|wpS_pure<|~~~h)
def  SrtOn(rk:Keyed->Int)(xs:Array Keyed)(lo n:Nat):Prop:=∀i j,lo<=i->i<=j->j<lo+n->Kx rk xs i<=Kx rk xs j
def Bey.anti(b:SrtOn rk arr base n)(c:i<=j)(d:j<n)(h:Bey rk left a arr base j=Nf):Bey rk left a arr base i=true:=by
 let:=b (base+i) (base+j) ∅ ∅ ∅;unfold Bey at h⊢;cases left <;> simp at h⊢ <;> lia
structure GM(B:Nat->Bool)(n k lo hi:Nat):Prop where
 l:lo<=hi
 h:hi<=n
 k:k+hi<=lo+n
 t:∀i,i<lo->B i=Nf
 f:∀i,hi<=i->i<n->B i=Ng
def GM.ini{n lo hi:Nat}(l:lo<=hi)(h:hi<=n)(t:∀i,i<lo->B i=Nf)(f:∀i,hi<=i->i<n->B i=Ng):GM B n 0 lo hi:=(l,h,(wz hi).symm ▸ uU h (Ci _ _),t,f,)
def GM.up{n k lo hi m:Nat}(v:GM B n k lo hi)(anti:∀{i j},i<=j->j<n->B j=Nf->B i=Nf)(b:lo<=m)(a:m<hi)(e:B m=Nf):GM B n (k+1) (m+1) hi :=
 (a,v.h,by have:=v.k;lia,λ_ hi=>anti (ye hi) (u7 a v.h) e,v.f,)
def GM.dn{n k lo hi m:Nat}(v:GM B n k lo hi)(anti:∀{i j},i<=j->j<n->B j=Nf->B i=Nf)(b:lo<=m)(a:m<hi)(e:¬ B m=Nf):GM B n (k+1) lo m :=
 (b,uU (vl a) v.h,by have:=v.k;lia,v.t,λ_ b a=>EU.mpr λc=>e<|anti b a c,)
def GM.stop{n k lo hi:Nat}(v:GM B n k lo hi)(c:hi<=lo):GM B n n lo hi:=(v.l,v.h,∅,v.t,v.f,)
def GM.fin{n lo hi:Nat}(v:GM B n n lo hi):lo=hi:=by have:=v.k;let:=v.l;lia
structure GR(B:Nat->Bool)(n hint x la of:Nat):Prop where
 x:x+1<=of
 l:la<of
 n:hint+la<n
 b:B (hint+la)=Nf
structure GL(B:Nat->Bool)(hint x la of:Nat):Prop where
 x:x+1<=of
 l:la<of
 n:la<=hint
 b:B (hint-la)=Ng
def vP{st:SortSt}(hA:Ask prog w A E s κ S rk)(Y:kindOf st=κ)(hS:∀x∈arr,S x)(V:S m)
  (C:d<n)(Z:base+n<=arr.size)(W:SrtOn rk arr base n)
  (h:∀k,k<=n->(∀i,i<k->Bey rk left m arr base i=Nf)->(∀i,k<=i->i<n->Bey rk left m arr base i=Ng)->Q (Nc k) st) :
  wpS (model prog w) A E s (wM left m arr base n d) Q st:=by
 let z:∀{i:Nat}{Q:Option Bool->SortSt->Prop},i<n->Q (Nc<|Bey rk left m arr base i) st->wpS (model prog w) A E s (do
   let x ←elem' arr (base+i)
   if left=Nf then lt' x m
    else do
     let __do_lift ←lt' m x
     pure (Option.map (λx=>!x) __do_lift)) Q st:=λhi X=>vO hA Y hS V (u7 (NI hi _) Z) X
 let anti:∀{i j:Nat},i<=j->j<n->Bey rk left m arr base j=Nf->Bey rk left m arr base i=true:=λG O P=>Bey.anti W G O P
 generalize Bey rk left m arr base=B at h z anti;let T:∀{i j:Nat},i<=j->j<n->B i=Ng->B j=false:=λG O P=>EU.mpr λe=>EU.mp P<|anti G O e
 calc wpS_bind<|z C ?_;dsimp -zeta only
 extract_lets jp m1 m2
 let D:∀(u:Unit)(a b lo hi:Nat),GM B n 0 lo hi->wpS (model prog w) A E s (jp u a b lo hi) Q st:=by
  intro u a b lo hi v;refine bO (λ_ _=>False) (λp g=>g=st/\GM B n n p.1 p.2) (λx p g=>g=st/\GM B n x p.1 p.2) (rfl,v,) ?_ (λp g h=>(h.1,by rw[←Dy n];exact h.2,)) (λ_ _ _ h=>h.elim) λp g v=>?_
  .rintro x p _ _ R ⟨rfl,v⟩;refine aH (λc=>wpS_pure (rfl,v.stop c,)) λc=>?_
   let N:p.1+(p.2-p.1) / 2<p.2:=by dsimp only at c;lia
   calc wpS_bind<|z (u7 N v.h) ?_;exact aH (λe=>wpS_pure (rfl,v.up anti (vz _ _) N e,)) λe=>wpS_pure (rfl,v.dn anti (vz _ _) N e,)
  .let(rfl,v):=v;exact wpS_pure (h _ v.h (λi hi=>v.t i<|v.fin ▸ hi) v.f)
 clear_value jp
 refine aH (λM=>?_) λM=>?_
 .let r:∀o,n-d<=o->∀i,d+min o (n-d)<=i->i<n->B i=false:=λo c i y F=>Nl F<|N6.mpr (by rw[Nat.min_eq_right c,w4 (vl C)]at y;exact y)
  refine bO (λ_ _=>False) (λp g=>g=st/\GR B n d 0 p.1 p.2/\∀i,d+min p.2 (n-d)<=i->i<n->B i=Ng) (λx p g=>g=st/\GR B n d x p.1 p.2) (rfl,uN _,w5,C,M,) ?_ (λp g h=>(h.1,(yC h.2.l,h.2.l,h.2.n,h.2.b,),λi y F=>r _ (uU (xc _ _)<|uU (Nat.le_max_right 0 _)<|zz h.2.x) i y F,)) (λ_ _ _ h=>h.elim) λp g v=>?_
  .rintro x ⟨K,q⟩ _ _ R ⟨rfl,v⟩;let I:GR B n d 0 K q:=(yC v.l,v.l,v.n,v.b,);refine aH (λc=>wpS_pure (rfl,I,r _ c,)) λc=>?_
   let c:q<n-d:=zb c;let H:d+q<n:=Pt c;calc wpS_bind<|z H ?_;refine aH (λe=>wpS_pure (rfl,I,λi y F=>T (i:=d+q) (xy (vl c) ▸ y) F<|~~~e,)) λe=>wpS_pure (rfl,by have:=v.x;dsimp only;lia,by dsimp only;lia,H,~~~e,)
  .let(rfl,v,L):=v;let J:GM B n 0 (d+p.1+1) (d+min p.2 (n-d)):=.ini (yh (Cu.mpr (v.l,Nat.le_sub_of_add_le' v.n,)) d) (uU (yh (Nat.min_le_right _ _) _)<|w1<|w4<|vl C) (λi hi=>anti (ye hi) v.n v.b) L;exact D _ _ _ _ _ J
 .let r:∀o,d+1<=o->∀i,i<d+1-min o (d+1)->B i=true:=λo c i y=>Nl y (by rw[Nat.min_eq_right c,Dj];exact zm _)
  refine bO (λ_ _=>False) (λp g=>g=st/\GL B d 0 p.1 p.2/\∀i,i<d+1-min p.2 (d+1)->B i=Nf) (λx p g=>g=st/\GL B d x p.1 p.2) (rfl,uN _,w5,ve _,EU.mpr M,) ?_ (λp g h=>(h.1,(yC h.2.l,h.2.l,h.2.n,h.2.b,),r _<|uU C<|uU (Nat.le_max_right 0 _)<|zz h.2.x,)) (λ_ _ _ h=>h.elim) λp g v=>?_
  .rintro x ⟨K,q⟩ _ _ R ⟨rfl,v⟩;let I:GL B d 0 K q:=(yC v.l,v.l,v.n,v.b,);refine aH (λc=>wpS_pure (rfl,I,r _ c,)) λc=>?_
   let H:q<=d:=ye<|zb c;calc wpS_bind<|z (wu (xc _ _) C) ?_;refine aH (λe=>wpS_pure (rfl,I,λi y=>anti (j:=d-q) (ye<|Nat.succ_sub H ▸ xy (OD H) ▸ y) (wu (xc _ _) C) e,)) λe=>wpS_pure (rfl,by have:=v.x;dsimp only;lia,by dsimp only;lia,H,EU.mpr e,)
  .let(rfl,v,L):=v;let J:GM B n 0 (d+1-min p.2 (d+1)) (d-p.1):=.ini (Nat.add_sub_add_right d 1 p.1 ▸ PR (Cu.mpr (v.l,AQ v.n,)) _) (uU (xc _ _)<|vl C) L λi y F=>T y F v.b
   calc D _ _ _ _ _ J
end
end PyProof.Rows._T
namespace PyProof.Rows._T
open PySem PyProof.Rows
section
variable{rk:Keyed->Int}{T A B:Nt Keyed}
abbrev Sd(rk:Keyed->Int)(l:Nt Keyed):Prop:=l.Pairwise λx y=>rk x<=rk y
abbrev mg(rk:Keyed->Int)(L M:Nt Keyed):Nt Keyed:=L.merge M λx y=>decide<|rk x<=rk y
def zN{x y:Keyed}{L M:Nt Keyed}(c:decide (rk x<=rk y)=Nf):mg rk (x :: L) (y :: M)=x :: mg rk L (y :: M):=List.cons_merge_cons_pos _ _ _ c
def zO{x y:Keyed}{L M:Nt Keyed}(c:¬ decide (rk x<=rk y)=Nf):mg rk (x :: L) (y :: M)=y :: mg rk (x :: L) M:=List.cons_merge_cons_neg _ _ _ c
def mgA(h:∀x∈R,∀y∈M,rk x<=rk y):mg rk (R++L) M=R++mg rk L M:=by
 induction R with
 |nil=>rfl
 |cons x R a=>cases M with
  |nil=>simp
  |cons y M=>rw[lp,zN<|Nm<|h x (.head _) y<|.head _,a λx b=>h x (.tail _ b)];rfl
def mgB(h:∀y∈R,∀x∈L,rk y<rk x):mg rk L (R++M)=R++mg rk L M:=by
 induction R with
 |nil=>rfl
 |cons y R a=>cases L with
  |nil=>simp
  |cons x L=>rw[lp,zO λc=>FY.mpr (Np c)<|h y (.head _) x<|.head _,a λx b=>h x (.tail _ b)];rfl
def ngA(h:∀r∈R,∀y∈M,rk y<rk r):mg rk (L++R) M=mg rk L M++R:=by
 fun_induction List.merge L M (λx y=>decide<|rk x<=rk y)
 case case1=>simpa using mgB (M:=[]) λy a r b=>h r b y a
 case case2=>simp
 case case3 c ih=>rw[lp,zN c,zN c,ih h];rfl
 case case4 c ih=>rw[zO c,lp,zO c,←lp,ih λr b y a=>h r b y (.tail _ a)];rfl
def ngB(h:∀r∈R,∀x∈L,rk x<=rk r):mg rk L (M++R)=mg rk L M++R:=by
 fun_induction List.merge L M (λx y=>decide<|rk x<=rk y)
 case case1=>simp
 case case2=>simpa using mgA (L:=[]) λy a r b=>h r b y a
 case case3 c ih=>rw[zN c,lp,zN c,←lp,ih λr b y a=>h r b y (.tail _ a)];rfl
 case case4 c ih=>rw[lp,zO c,zO c,ih h];rfl
def nX:(mg rk L M).Perm (L++M):=List.merge_perm_append _
def Fb(e:Sd rk L)(d:Sd rk M):Sd rk (mg rk L M) :=
 (List.pairwise_merge (λa b c=>by simp;exact Db) (λa b=>~~~Int.le_total _ _) _ _ (e.imp Nm) (d.imp Nm)).imp Np
end
end PyProof.Rows._T
namespace PyProof.Rows._T
open PySem PyProof.Rows
section
variable{prog:Jl}{w:Je}{A:JX}{E:I1->JY->Prop}{s:JY}{κ:SortKind}{S:Keyed->Prop}{rk:Keyed->Int}
def cm{a:Type}{arr:Array Keyed}{i:Nat}{f:Keyed->StateT SortSt Sem a}{st:SortSt}{Q:a->SortSt->Prop}(hi:i<arr.size)(h:wpS (model prog w) A E s (f arr[i]) Q st):wpS (model prog w) A E s (elem' arr i >>= f) Q st:=wpS_bind<|t9 hi h
structure bD(st st':SortSt):Prop where
 arr:arrOf st'=arrOf st
 pend:pendingOf st'=pendingOf st
 kind:kindOf st'=kindOf st
 failed:failedOf st'=failedOf st
def bD.refl{st:SortSt}:bD st st:=(rfl,rfl,rfl,rfl,)
def Dv{st a:SortSt}(b:bD st a)(h:∀c,bD st c->Q () c):wpS (model prog w) A E s (gY n) Q a:=by
 rw[mM];calc wpS_modify<|h _ (b.arr,b.pend,b.kind,b.failed,)
def nZ{b:Type}{f:Unit->StateT SortSt Sem b}{st a:SortSt}{n:Nat}{Q:b->SortSt->Prop}(d:bD st a)(h:∀c,bD st c->wpS (model prog w) A E s (f ()) Q c):wpS (model prog w) A E s (gY n >>= f) Q a:=wpS_bind<|Dv d h
def mO{a:Type}{r:String}{f:Unit->StateT SortSt Sem a}{st:SortSt}{Q:a->SortSt->Prop}(h:wpS (model prog w) A E s (f ()) Q st):wpS (model prog w) A E s ((liftM (rule r):StateT SortSt Sem Unit) >>= f) Q st:=wpS_bind<|wpS_lift<|L4 (rfl,h,)
def oW{arr:Array Keyed}{base n i:Nat}{l:Nt Keyed}(a:(arr.toList.drop base).take n=l)(hi:i<⇑l):Kx rk arr (base+i)=rk l[i]:=by
 subst a;rw[Kx_at (Pt<|u7 hi<|~~~Nat.min_le_right _ _),Ow,Ox,Array.getElem_toList]
def Sd.at{l:Nt Keyed}(h:Sd rk l){i j:Nat}(a:i<=j)(c:j<⇑l):rk (l[i]'(wu a c))<=rk l[j]:=by
 rcases Bf a with b|rfl
 .exact lX.mp h i j _ c b
 .exact pc _
def Sd.on{arr:Array Keyed}{base n:Nat}{l:Nt Keyed}(a:(arr.toList.drop base).take n=l)(h:Sd rk l)(e:base+n<=arr.size):SrtOn rk arr base n:=λi j b c f=>by
 let d:⇑l=n:=by subst a;simp;lia
 let(p,rfl):=N1 b;let(q,rfl):=N1<|uU b c;rw[oW a ∅,oW a ∅];calc h.at ∅ _
abbrev Rl(rk:Keyed->Int)(left:Bool)(a x:Keyed):Prop:=Bool.rec (rk x<=rk a) (rk x<rk a) left
abbrev Rg(rk:Keyed->Int)(left:Bool)(a x:Keyed):Prop:=Bool.rec (rk a<rk x) (rk a<=rk x) left
def zP{left:Bool}{a:Keyed}{arr:Array Keyed}{base n i:Nat}{l:Nt Keyed}(b:(arr.toList.drop base).take n=l)(hi:i<⇑l) :
  (Bey rk left a arr base i=Nf->Rl rk left a l[i])/\(Bey rk left a arr base i=Ng->Rg rk left a l[i]):=by
 unfold Bey;rw[oW b hi];cases left <;> simp[Rl,Rg]
def jU{left:Bool}{a:Keyed}{arr:Array Keyed}{base n b:Nat}{l:Nt Keyed}{st:SortSt}{Q:Option Nat->SortSt->Prop}(p:Ask prog w A E s κ S rk)(m:kindOf st=κ)(o:∀x∈arr,S x)(f:S a)
  (j:b<n)(e:base+n<=arr.size)(g:Sd rk l)(c:(arr.toList.drop base).take n=l)
  (h:∀k,k<=n->(∀x∈l.take k,Rl rk left a x)->(∀x∈l.drop k,Rg rk left a x)->Q (Nc k) st) :
  wpS (model prog w) A E s (wM left a arr base n b) Q st :=
 let u:⇑l=n:=by subst c;simp;lia
 vP p m o f j e (g.on c e) λk t r q=>h k t
  (λx d=>by
   let(i,hi,rfl):=ke.mp d;rw[hZ]at hi;rw[Ow];exact(zP c _).1 (r i ∅))
  λx d=>by
   let(i,hi,rfl):=ke.mp d;rw[jP]at hi;rw[Ox];calc(zP c _).2 (q (k+i) ∅ ∅)
structure LV(rk:Keyed->Int)(a b:Array Keyed)(n:Nat)(o:Array Keyed)(i j:Nat):Prop where
 e:o.toList++mg rk (a.toList.drop i) (b.toList.drop j)=mg rk a.toList b.toList
 p:i+1<a.size
 q:j<b.size
 n:n<=i+j
def nb{i j:Nat}(h:¬ (i == j)=Nf):i≠j:=λe=>h<|beq_iff_eq.mpr e
def n1(h:n<=i+j):n+1<=i+1+j:=∅
def LV.fin{i j n:Nat}{P:Prop}(h:LV rk a b n o i j)(c:a.size+b.size<=n+1):P:=by
 let:=h.p;let:=h.q;let:=h.n;lia
def LV.mono{a b o:Array Keyed}{i j n c:Nat}(h:LV rk a b n o i j)(d:c<=n):LV rk a b c o i j:=(h.e,h.p,h.q,uU d h.n,)
def take1{l:Array Keyed}(h:i<l.size):l.toList.drop i=l[i] :: l.toList.drop (i+1):=by
 rw[IN (~~~h)];simp
def Sd.hd{l:Array Keyed}(h:Sd rk l.toList)(hi:i<l.size):∀y∈l.toList.drop i,rk l[i]<=rk y:=λy a=>by
 let(k,b,rfl):=ke.mp a;rw[Ox];calc h.at (vz _ _) _
def lR{l:Array Keyed}:(l.extract i l.size).toList=l.toList.drop i:=by
 rw[ET];simp[kW]
def oX{l:Array Keyed}:(l.extract i<|i+k).toList=(l.toList.drop i).take k:=by
 rw[ET];simp
def ua{st:SortSt}(V:Ask prog w A E s κ S rk)(T:kindOf st=κ)(D:∀x∈a,S x)(C:∀x∈b,S x)
  (I:Sd rk a.toList)(sb:Sd rk b.toList)(G:0<a.size)(u:0<b.size)(X:∀y∈a.toList,rk b[0]<rk y)(H:∀x∈b.toList,rk x<rk a[a.size-1])
  (h:∀m d,bD st d->m.toList=mg rk a.toList b.toList->Q m d):wpS (model prog w) A E s (zK a b) Q st:=by
 let hd:∀{o:Array Keyed}{i j:Nat},o.toList++mg rk (a.toList.drop i) (b.toList.drop j)=mg rk a.toList b.toList->(j == b.size)=Nf->(o++a.extract i a.size++b.extract j b.size).toList=mg rk a.toList b.toList:=λ{o i j} e c=>by
  let c:⇑b.toList<=j:=by simp at c⊢;lia
  rw[Er,Er,lR,lR,←e,Pg c,ik,mg,tu]
 let M:∀{o:Array Keyed}{i j:Nat},o.toList++mg rk (a.toList.drop i) (b.toList.drop j)=mg rk a.toList b.toList->(i+1 == a.size)=Nf->(o++b.extract j b.size++a.extract i a.size).toList=mg rk a.toList b.toList:=λ{o i j} e c=>by
  obtain rfl:i=a.size-1:=by simp at c;lia
  rw[Er,Er,lR,lR,←e,ia];exact Nq _ ((Nq (· ++ _)<|List.nil_merge _).symm.trans (ngA (L:=[]) λr hr y t=>No (H y<|pU t)<|I.hd _ r hr).symm)
 let Y:∀{o:Array Keyed}{i j:Nat},o.toList++mg rk (a.toList.drop i) (b.toList.drop j)=mg rk a.toList b.toList->∀hi:i<a.size,(∀y∈b.toList.drop j,rk a[i]<=rk y)->(o.push a[i]).toList++mg rk (a.toList.drop<|i+1) (b.toList.drop j)=mg rk a.toList b.toList:=λ{o i j} e hi c=>by
  rw[←e,take1 hi,EL,ia];exact Nq _ (mgA (R:=[a[i]])<|~~~c).symm
 let N:∀{o:Array Keyed}{i j:Nat},o.toList++mg rk (a.toList.drop i) (b.toList.drop j)=mg rk a.toList b.toList->∀hj:j<b.size,(∀y∈a.toList.drop i,rk b[j]<rk y)->(o.push b[j]).toList++mg rk (a.toList.drop i) (b.toList.drop<|j+1)=mg rk a.toList b.toList:=λ{o i j} e hj c=>by
  rw[←e,take1 hj,EL,ia];exact Nq _ (mgB (R:=[b[j]])<|~~~c).symm
 refine mO ?_
 extract_lets total done lastOfA
 calc cm u ?_;let O:=N (o:=#[]) (i:=0) (j:=0) rfl u X
 try dsimp -zeta only
 refine aH (λc=>wpS_pure<|h _ _ .refl<|hd O c) λc1=>?_
 refine aH (λc=>wpS_pure<|h _ _ .refl<|M O c) λc2=>?_
 calc wpS_bind<|wpS_get ?_;refine bO (λr d=>bD st d/\r.toList=mg rk a.toList b.toList) (λ_ _=>False) (λx p d=>bD st d/\LV rk a b (x+1) p.1 p.2.1 p.2.2.1) (.refl,O,wq G<|nb c2,wq u<|nb c1,uN _,) ?step (λp d h=>h.2.fin ∅) (λr x d e=>wpS_pure<|h _ _ e.1 e.2) λ_ _ h=>h.elim
 intro x p d _ K v;refine bO (λr d=>bD st d/\r.toList=mg rk a.toList b.toList) (λp d=>bD st d/\LV rk a b (x+2) p.1 p.2.1 p.2.2.1) (λy p d=>bD st d/\LV rk a b (x+1+y) p.1 p.2.1 p.2.2.1) v ?step1 (λp d h=>h.2.fin ∅) (λr x d e=>wpS_pure e) λp d v=>?post1
 case step1 =>
  intro y p d _ t v
  extract_lets -underBinder _ o _ i _ j _ ac bc
  let(f,v):bD st d/\LV rk a b (x+1+y) o i j:=v
  clear_value o i j ac bc
  let g:=yl v.p;calc cm v.q<|cm g ?_;calc wpS_bind<|V _ _ _ _ (C _<|Ef _) (D _<|Ef _) (f.kind.trans T) ?_;refine aH (λc=>?_) λc=>?_
  .refine cm v.q ?_;let m:=N v.e v.q λy t=>No (Np c)<|I.hd g y t
   refine aH (λc=>wpS_pure (f,hd m c,)) λc=>?_
   let z:LV rk a b (x+1+(y+1)) _ _ _:=(m,v.p,wq v.q<|nb c,AQ v.n,);exact aH (λ_=>wpS_pure (f,z.mono ∅,)) λ_=>wpS_pure (f,z,)
  .refine cm g ?_;let m:=Y v.e g λy t=>Db (FY.mp λe=>c<|Nm e)<|sb.hd v.q y t
   refine aH (λc=>wpS_pure (f,M m c,)) λc=>?_
   let z:LV rk a b (x+1+(y+1)) _ _ _:=(m,wq v.p<|nb c,v.q,n1 v.n,);exact aH (λ_=>wpS_pure (f,z.mono ∅,)) λ_=>wpS_pure (f,z,)
 calc mO ?_;refine bO (λr d=>bD st d/\r.toList=mg rk a.toList b.toList) (λp d=>bD st d/\LV rk a b (x+2) p.1 p.2.1 p.2.2.1) (λy p d=>bD st d/\LV rk a b (x+2+y) p.1 p.2.1 p.2.2.1) v ?step2 (λp d h=>h.2.fin ∅) (λr x d e=>wpS_pure e) λp d v=>nZ v.1 λB f=>wpS_pure (f,v.2,)
 clear v;intro y p d _ t v
 extract_lets -underBinder _ o _ i _ j _ m _ ac bc jp
 let(f,v):bD st d/\LV rk a b (x+2+y) o i j:=v
 clear_value o i j m ac bc
 let jb:=v.q;let g:=yl v.p
 suffices tail:∀m,wpS (model prog w) A E s (jp () m) _ d from aH (λ_=>tail _) λ_=>tail _
 intro m;refine nZ f λB f=>?_
 calc cm v.q ?_;refine wpS_bind (jU V (f.kind.trans T) D (C _<|Ef _) (NX g) (w1<|w4<|vl g) (I.sublist<|q0 _ _) (kW (by simp)) λk G u l=>?_);let e:=v.e;rw[←kb k (a.toList.drop i),mgA<|λx K y t=>Db (u x K)<|sb.hd v.q y t,nY,←ia,←oX,←Er (xs:=o)]at e;rw[nY]at l;let Z:i+k<a.size:=zb λc=>Int.lt_irrefl _ (No (H b[j] (by simp)) (u _ (by
  rw[kW (by simp;lia)];exact List.mem_drop_iff_getElem.mpr (a.size-1-i,by rw[P3 (yF g),D0];exact yG (yC g) w5,by simp[w4 (yF g)],))))
 try dsimp -zeta only
 extract_lets -underBinder ac jp
 suffices tail:∀i o,LV rk a b (x+2+y) o i j->(∀x∈a.toList.drop i,rk b[j]<rk x)->wpS (model prog w) A E s (jp () o i) _ B from
  aH (λP=>aH (λc=>wpS_pure (f,M e c,)) λc=>iq (by simp;lia) (tail _ _ (e,wq Z<|nb c,v.q,by have:=v.n;lia,) l)) λP=>by
   obtain rfl:k=0:=∅
   exact tail _ _ v l
 clear e G u l Z v g;intro i o v l;let e:=N v.e v.q l;calc cm v.q ?_;refine aH (λc=>wpS_pure (f,hd e c,)) λc=>?_
 let J:=wq v.q<|nb c;let g:=yl v.p;calc cm g ?_;refine wpS_bind (jU V (f.kind.trans T) C (D _<|Ef _) (NX J) (w1<|w4<|vl J) (sb.sublist<|q0 _ _) (kW (by simp)) λk G u l=>?_);let W:=e;rw[←kb k (b.toList.drop<|j+1),mgB<|λx K y t=>No (u x K)<|I.hd g y t,nY,←ia,←oX,←Er (xs:=o.push b[j])]at W;rw[nY]at l
 try dsimp -zeta only
 extract_lets -underBinder bc jp
 suffices tail:∀F o,(o.toList++mg rk (a.toList.drop i) (b.toList.drop F)=mg rk a.toList b.toList)->j<F->F<b.size->(∀x∈b.toList.drop F,rk a[i]<=rk x)->wpS (model prog w) A E s (jp () o F) _ B from
  aH (λP=>aH (λc=>wpS_pure (f,hd W c,)) λc=>tail _ _ W ∅ (wq (Pu (vl J) G)<|nb c) l) λP=>by
   obtain rfl:k=0:=∅
   exact tail _ _ e ∅ J l
 intro F o e j1 j2 l;let e:=Y e g l;calc cm g ?_;refine aH (λc=>wpS_pure (f,M e c,)) λc=>?_
 let z:LV rk a b (x+2+(y+1)) _ _ _:=(e,wq v.p<|nb c,j2,by have:=v.n;lia,);calc aH (λ_=>wpS_pure (f,z.mono ∅,)) λ_=>wpS_pure (f,z,)
end
end PyProof.Rows._T
namespace PyProof.Rows._T
open PySem PyProof.Rows
section
variable{prog:Jl}{w:Je}{A:JX}{E:I1->JY->Prop}{s:JY}{κ:SortKind}{S:Keyed->Prop}{rk:Keyed->Int}
structure HV(rk:Keyed->Int)(a b:Array Keyed)(n:Nat)(i j:Nat)(o:Array Keyed):Prop where
 e:mg rk (a.toList.take i) (b.toList.take j)++o.toList.reverse=mg rk a.toList b.toList
 p:1<=i
 q:2<=j
 pa:i<=a.size
 pb:j<=b.size
 n:n+i+j<=a.size+b.size
def HV.fin{i j n:Nat}{P:Prop}(h:HV rk a b n i j o)(c:a.size+b.size<=n):P:=by
 let:=h.p;let:=h.n;lia
def nh1(h:n+i+j<=t)(p:1<=i):n+1+(i-1)+j<=t:=by rw[yE n,w4 p];calc h
def nh2(h:n+i+j<=t)(p:1<=j):n+1+i+(j-1)<=t:=by rw[Nat.add_right_comm n,yE<|n+i,w4 p];calc h
def sz0(h:k<=n)(c:¬ n-k>0):k=n:=Cw h<|Ps<|N7 c
def HV.mono{a b o:Array Keyed}{i j n c:Nat}(h:HV rk a b n i j o)(d:c<=n):HV rk a b c i j o:=(h.e,h.p,h.q,h.pa,h.pb,by have:=h.n;lia,)
def mP{l:Array Keyed}(a:1<=i)(h:i-1<l.size):l.toList.take i=l.toList.take (i-1)++[l[i-1]]:=by
 let e:=List.take_append_getElem (l:=l.toList) (i:=i-1)<|~~~h;rw[show i-1+1=i by lia]at e;calc e.symm
def Sd.tl{l:Array Keyed}(h:Sd rk l.toList)(hi:i-1<l.size):∀y∈l.toList.take i,rk y<=rk l[i-1]:=λy b=>by
 let(k,a,rfl):=ke.mp b;rw[hZ]at a;rw[Ow];calc h.at (yF<|u7 a<|Nat.min_le_left _ _)<|~~~hi
def lS{l:Array Keyed}:(l.extract i j).toList=(l.toList.take j).drop i:=by
 rw[ET,List.extract_eq_drop_take,List.drop_take]
def CC{o l:Array Keyed}:(o++(l.extract i j).reverse).toList.reverse=(l.toList.take j).drop i++o.toList.reverse:=by
 rw[Er,Oj,Po,List.reverse_reverse,lS]
def ub{st:SortSt}(Y:Ask prog w A E s κ S rk)(X:kindOf st=κ)(I:∀x∈a,S x)(H:∀x∈b,S x)
  (P:Sd rk a.toList)(sb:Sd rk b.toList)(g:0<a.size)(B:0<b.size)(N:∀y∈a.toList,rk b[0]<rk y)(Z:∀x∈b.toList,rk x<rk a[a.size-1])
  (h:∀m d,bD st d->m.toList=mg rk a.toList b.toList->Q m d):wpS (model prog w) A E s (zL a b) Q st:=by
 let hd:∀{o:Array Keyed}{i j:Nat},mg rk (a.toList.take i) (b.toList.take j)++o.toList.reverse=mg rk a.toList b.toList->(i == 0)=Nf->(a.extract 0 i++b.extract 0 j++o.reverse).toList=mg rk a.toList b.toList:=λ{o i j} e c=>by
  obtain rfl:i=0:=eq_of_beq c;rw[←e];simp[lS]
 let O:∀{o:Array Keyed}{i j:Nat},mg rk (a.toList.take i) (b.toList.take j)++o.toList.reverse=mg rk a.toList b.toList->(j == 1)=Nf->(b.extract 0 j++a.extract 0 i++o.reverse).toList=mg rk a.toList b.toList:=λ{o i j} e c=>by
  obtain rfl:j=1:=eq_of_beq c;rw[←e,Er,Er,lS,lS,Po,mP (i:=1) (uN _) B];exact Nq (· ++ _) (((mgB (M:=[]) λy t x K=>by
   rw[eO.mp t];exact N x (q5 K)).trans (Nq _<|tu _)).symm)
 let T:∀{o:Array Keyed}{i j:Nat},mg rk (a.toList.take i) (b.toList.take j)++o.toList.reverse=mg rk a.toList b.toList->1<=i->∀hi:i-1<a.size,(∀y∈b.toList.take j,rk y<rk a[i-1])->mg rk (a.toList.take<|i-1) (b.toList.take j)++(o.push a[i-1]).toList.reverse=mg rk a.toList b.toList:=λ{o i j} e g hi c=>by
  rw[←e,mP g hi,ngA (R:=[a[i-1]])<|~~~c,EL,Oj,ia];rfl
 let pB:∀{o:Array Keyed}{i j:Nat},mg rk (a.toList.take i) (b.toList.take j)++o.toList.reverse=mg rk a.toList b.toList->1<=j->∀hj:j-1<b.size,(∀y∈a.toList.take i,rk y<=rk b[j-1])->mg rk (a.toList.take i) (b.toList.take<|j-1)++(o.push b[j-1]).toList.reverse=mg rk a.toList b.toList:=λ{o i j} e g hj c=>by
  rw[←e,mP g hj,ngB (R:=[b[j-1]])<|~~~c,EL,Oj,ia];rfl
 refine mO ?_
 extract_lets -underBinder +onlyGivenNames total done fob
 let la:a.size-1<a.size:=∅
 calc cm la ?_;let V:=T (o:=#[]) (i:=a.size) (j:=b.size) (by simp[kW]) g la λy t=>Z y<|q5 t
 refine aH (λc=>wpS_pure<|h _ _ .refl<|hd V c) λc1=>?_
 refine aH (λc=>wpS_pure<|h _ _ .refl<|O V c) λc2=>?_
 calc wpS_bind<|wpS_get ?_;refine bO (λr d=>bD st d/\r.toList=mg rk a.toList b.toList) (λ_ _=>False) (λx p d=>bD st d/\HV rk a b (x+1) p.1 p.2.1 p.2.2.1) (.refl,V,yH<|nb c1,wq B (nb c2).symm,by dsimp only;lia,uN _,by dsimp only;lia,) ?step (λp d h=>h.2.fin ∅) (λr x d e=>wpS_pure<|h _ _ e.1 e.2) λ_ _ h=>h.elim
 intro x p d _ K v;refine bO (λr d=>bD st d/\r.toList=mg rk a.toList b.toList) (λp d=>bD st d/\HV rk a b (x+2) p.1 p.2.1 p.2.2.1) (λy p d=>bD st d/\HV rk a b (x+1+y) p.1 p.2.1 p.2.2.1) v ?step1 (λp d h=>h.2.fin ∅) (λr x d e=>wpS_pure e) λp d v=>?post1
 case step1 =>
  intro y p d _ t v
  extract_lets -underBinder _ i _ j _ o _ ac bc
  let(f,v):bD st d/\HV rk a b (x+1+y) i j o:=v
  clear_value o i j ac bc
  let z:=NE v.p v.pa;let F:=zz v.q;let u:=NE F v.pb;calc cm u<|cm z ?_;calc wpS_bind<|Y _ _ _ _ (H _<|Ef _) (I _<|Ef _) (f.kind.trans X) ?_;refine aH (λc=>?_) λc=>?_
  .refine cm z ?_;let m:=T v.e v.p z λy t=>P4 (sb.tl u y t)<|Np c
   refine aH (λc=>wpS_pure (f,hd m c,)) λc=>?_
   let D:HV rk a b (x+1+(y+1)) _ _ _:=(m,yH<|nb c,v.q,vl z,v.pb,nh1 v.n v.p,);exact aH (λ_=>wpS_pure (f,D.mono ∅,)) λ_=>wpS_pure (f,D,)
  .refine cm u ?_;let m:=pB v.e F u λy t=>Db (P.tl z y t)<|FY.mp λe=>c<|Nm e
   refine aH (λc=>wpS_pure (f,O m c,)) λc=>?_
   let D:HV rk a b (x+1+(y+1)) _ _ _:=(m,v.p,wq (yF v.q) (nb c).symm,v.pa,vl u,nh2 v.n F,);exact aH (λ_=>wpS_pure (f,D.mono ∅,)) λ_=>wpS_pure (f,D,)
 calc mO ?_;refine bO (λr d=>bD st d/\r.toList=mg rk a.toList b.toList) (λp d=>bD st d/\HV rk a b (x+2) p.1 p.2.1 p.2.2.1) (λy p d=>bD st d/\HV rk a b (x+2+y) p.1 p.2.1 p.2.2.1) v ?step2 (λp d h=>h.2.fin ∅) (λr x d e=>wpS_pure e) λp d v=>nZ v.1 λG f=>wpS_pure (f,v.2,)
 clear v;intro y p d _ t v
 extract_lets -underBinder _ i _ j _ o _ m _ ac bc jp
 let(f,v):bD st d/\HV rk a b (x+2+y) i j o:=v
 clear_value o i j m ac bc
 let F:=zz v.q;let u:=NE F v.pb
 suffices tail:∀m,wpS (model prog w) A E s (jp () m) _ d from aH (λ_=>tail _) λ_=>tail _
 intro m;refine nZ f λG f=>?_
 calc cm u ?_;calc wpS_bind<|jU Y (f.kind.trans X) I (H _<|Ef _) (yG v.p w5) ((wz i).symm ▸ v.pa) (P.sublist<|mu _ _) (l:=a.toList.take i) rfl λk g B C=>?_;let e:=v.e;rw[←kb k (a.toList.take i),ngA<|λx K y t=>P4 (sb.tl u y t)<|C x K,ri,xy g,ia]at e;rw[ri,xy g]at B;dsimp -zeta only
 extract_lets -underBinder kk ac jp
 suffices tail:∀i o,HV rk a b (x+2+y) i j o->(∀x∈a.toList.take i,rk x<=rk b[j-1])->wpS (model prog w) A E s (jp () i o) _ G from
  aH (λL=>by
   let e:mg rk (a.toList.take k) (b.toList.take j)++(o++(a.extract k i).reverse).toList.reverse=mg rk a.toList b.toList:=by rw[CC];exact e
   exact aH (λc=>wpS_pure (f,hd e c,)) λc=>tail _ _ (e,yH<|nb c,v.q,uU g v.pa,v.pb,uU (Nat.add_le_add_right (yh g _) _) v.n,) B) λL=>by
   obtain rfl:=sz0 g L;exact tail _ _ v B
 clear e g B C v;intro i o v C;let e:=pB v.e F u C;calc cm u ?_;refine aH (λc=>wpS_pure (f,O e c,)) λc=>?_
 let W:=wq (yF v.q) (nb c).symm;let z:=NE v.p v.pa;calc cm z ?_;calc wpS_bind<|jU Y (f.kind.trans X) H (I _<|Ef _) (yG (yC W) w5) ((wz<|j-1).symm ▸ vl u) (sb.sublist<|mu _ _) (l:=b.toList.take<|j-1) rfl λk g B C=>?_;let e':=e;rw[←kb k (b.toList.take<|j-1),ngB<|λx K y t=>Db (P.tl z y t)<|C x K,ri,xy g,ia]at e';rw[ri,xy g]at B;let k1:1<=k:=yH λc=>by
  subst c;exact Int.lt_irrefl _ (No (N a[i-1] (by simp)) (C _ (by
   rw[ro];exact ke.mpr (0,by rw[hZ];exact Nat.lt_min.mpr (yC W,~~~yC u,),by simp,))))
 dsimp -zeta only
 extract_lets -underBinder kk bc jp
 suffices tail:∀J o,mg rk (a.toList.take i) (b.toList.take J)++o.toList.reverse=mg rk a.toList b.toList->2<=J->J<j->(∀x∈b.toList.take J,rk x<rk a[i-1])->wpS (model prog w) A E s (jp () J o) _ G from
  aH (λL=>by
   let e:mg rk (a.toList.take i) (b.toList.take k)++((o.push b[j-1])++(b.extract k<|j-1).reverse).toList.reverse=mg rk a.toList b.toList:=by rw[CC];exact e'
   exact aH (λc=>wpS_pure (f,O e c,)) λc=>iq (λc=>vo k1<|eq_of_beq c)<|tail _ _ e (wq k1 (nb c).symm) (wu g<|yG F w5) B) λL=>by
   obtain rfl:=sz0 g L;exact tail _ _ e W (yG F w5) B
 intro J o e j2 j3 C;let e:=T e v.p z C;calc cm z ?_;refine aH (λc=>wpS_pure (f,hd e c,)) λc=>?_
 let D:HV rk a b (x+2+(y+1)) _ _ _:=(e,yH<|nb c,j2,vl z,uU (vl j3) v.pb,uU (yh (vl j3) _)<|nh1 v.n v.p,);calc aH (λ_=>wpS_pure (f,D.mono ∅,)) λ_=>wpS_pure (f,D,)
end
end PyProof.Rows._T
namespace PyProof.Rows._T
open PySem PyProof.Rows
section
variable{prog:Jl}{w:Je}{A:JX}{E:I1->JY->Prop}{s:JY}{κ:SortKind}{rk:Keyed->Int}{a₀:Array Keyed}
structure SB(κ:SortKind)(a₀:Array Keyed)(st:SortSt):Prop where
 perm:(arrOf st).Perm a₀
 kind:kindOf st=κ
 failed:failedOf st=Nd
def SB.size{st:SortSt}(h:SB κ a₀ st):(arrOf st).size=a₀.size:=h.perm.size_eq
def SB.mem{st:SortSt}(h:SB κ a₀ st):∀x∈arrOf st,x∈a₀:=λx a =>
 EN.mp ((NL.mp h.perm).mem_iff.mp<|EN.mpr a)
def uc(b:Nat):∀(M:Nt Keyed)(k:Nat)(L N:Nt Keyed)(arr:Array Keyed),arr.toList=L++N->L.length=b+k->M.length<=N.length->((M.zipIdx k).foldl (λ(a:Array Keyed)(x:Keyed×Nat)=>match x with|(p,j)=>a.setIfInBounds (b+j) p) arr).toList=L++M++N.drop M.length
 | [],k,L,N,arr,e,_,h=>~~~e
 |m :: M,k,L,y :: N,arr,e,hl,h=>by
  rw[List.zipIdx_cons,tV];refine(uc b M (k+1) (L++[m]) N _ ?_ (by simp[hl];rfl) (Pl h)).trans (by simp);rw[OQ,e,Pm _ _ ∅,←hl];simp
def ud{st:SortSt}{i C pb:Nat}{u o:Nt (Nat×Nat×Nat)}{L X Y Z:Nt Keyed}{Q:Bool->SortSt->Prop}(N:Ask prog w A E s κ (· ∈ a₀) rk)(d:SB κ a₀ st)
  (W:(pendingOf st).toList=u++(L.length,X.length,C) :: (L.length+X.length,Y.length,pb) :: o)(hi:i=⇑u)(g:(arrOf st).toList=L++(X++(Y++Z)))(hX:0<X.length)(hY:0<Y.length)(T:Sd rk X)(S:Sd rk Y)
  (h:∀b,SB κ a₀ b->(pendingOf b).toList=u++(L.length,X.length+Y.length,C) :: o->(arrOf b).toList=L++(mg rk X Y++Z)->Q Nf b) :
  wpS (model prog w) A E s (mergeAt' i) Q st:=by
 let e0:(pendingOf st)[i]?=Nc (L.length,X.length,C):=by rw[←EM,W,hi];simp
 let e1:(pendingOf st)[i+1]?=Nc (L.length+X.length,Y.length,pb):=by rw[←EM,W,hi];simp
 let a0:(arrOf st).size=L.length+(X.length+(Y.length+Z.length)):=by rw[←D0,g];simp
 calc wpS_bind<|wpS_get ?_;rw[e0,e1];dsimp only;calc wpS_bind<|Bs ?_;let K:(((pendingOf st).setIfInBounds i (L.length,X.length+Y.length,C)).eraseIdxIfInBounds<|i+1).toList=u++(L.length,X.length+Y.length,C) :: o:=by
  rw[Array.toList_eraseIdxIfInBounds,OQ,W,hi];simp[List.eraseIdx_append];intro hh;lia
 generalize (((pendingOf st).setIfInBounds i (L.length,X.length+Y.length,C)).eraseIdxIfInBounds<|i+1)=P at K⊢;let hb:L.length+X.length<(arrOf st).size:=∅
 let y0:∀y∈Y,rk (arrOf st)[L.length+X.length]<=rk y:=λy B=>by
  let(k,hk,rfl):=ke.mp B;rw[←Kx_at (rk:=rk) hb,←Nat.add_zero (L.length+X.length),oW (base:=L.length+X.length) (n:=Y.length) (l:=Y) (by rw[g];simp) hY];exact S.at (ve _) hk
 calc cm hb ?_;refine wpS_bind (jU (arr:=arrOf st) (l:=X) N d.kind d.mem (d.mem _<|Ef _) hX ∅ T (by rw[g];simp) λk h1 h2 h3=>?_);let I:mg rk (X.take k++X.drop k) Y=X.take k++mg rk (X.drop k) Y:=mgA λx H y B=>Db (h2 x H)<|y0 y B
 rw[kb]at I;refine aH (λc=>?_) λc=>?_
 .let c:X.length<=k:=Ps<|eq_of_beq c;calc wpS_pure<|h _ (d.perm,d.kind,d.failed,) K ?_;rw[I,Pg c,kW c,mg,List.nil_merge,ia];exact g
 let kX:k<X.length:=zb λe=>nb c<|Nat.sub_eq_zero_of_le e
 let eX:L.length+k+(X.length-k)=L.length+X.length:=by rw[yE,w4 h1]
 let hl:L.length+k+(X.length-k)-1<(arrOf st).size:=by rw[eX];exact wu (xc _ _) hb
 let x0:∀x∈X,rk x<=rk (arrOf st)[L.length+k+(X.length-k)-1]:=λy B=>by
  let(q,hq,rfl):=ke.mp B;let e:Kx rk (arrOf st) (L.length+(X.length-1))=rk X[X.length-1]:=oW (n:=X.length) (l:=X) (by rw[g];simp) (yG hX w5);rw[←Kx_at (rk:=rk) hl,show L.length+k+(X.length-k)-1=L.length+(X.length-1) by rw[eX,Nat.add_sub_assoc hX],e];exact T.at (yF hq) _
 calc cm hl ?_;refine wpS_bind (jU (arr:=arrOf st) (l:=Y) N d.kind d.mem (d.mem _<|Ef _) (yG hY w5) ∅ S (by rw[g];simp) λn O h5 h6=>?_);let e3:mg rk (X.drop k) (Y.take n++Y.drop n)=mg rk (X.drop k) (Y.take n)++Y.drop n:=ngB λr hr x H=>Db (x0 x<|pU H)<|h6 r hr
 rw[kb]at e3;rw[e3]at I;refine aH (λc=>?_) λc=>?_
 .obtain rfl:n=0:=eq_of_beq c;calc wpS_pure<|h _ (d.perm,d.kind,d.failed,) K ?_;rw[I,ro,List.take_zero,mg,tu,←ia (X.take k),kb,ia];exact g
 let n0:=yH<|nb c;let F:((arrOf st).extract (L.length+k)<|L.length+X.length).toList=X.drop k:=by
  rw[lS,List.drop_take,Nat.add_sub_add_left,←nY,g,rr,OK h1];simp
 let D:((arrOf st).extract (L.length+X.length)<|L.length+X.length+n).toList=Y.take n:=by
  rw[oX,←nY,g,rr,rr,List.take_append_of_le_length O]
 generalize H:(arrOf st).extract (L.length+k) (L.length+X.length)=x at F;generalize B:(arrOf st).extract (L.length+X.length) (L.length+X.length+n)=y at D
 let v:∀(m:Array Keyed)(b:SortSt),bD (Oi (kindOf st) (arrOf st) P (gallopOf st)<|failedOf st) b->m.toList=mg rk x.toList y.toList ->
   wpS (model prog w) A E s (do
    modify λs=>Oi (kindOf s) (m.toList.zipIdx.foldl (λ(a:Array Keyed)(x:Keyed×Nat)=>match x with|(p,j)=>a.setIfInBounds (L.length+k+j) p) (arrOf s)) (pendingOf s) (gallopOf s) (failedOf s)
    let s ←get
    pure (failedOf s).isNone) Q b:=λm b J hm=>by
  calc wpS_bind<|wpS_modify<|wpS_bind<|wpS_get<|wpS_pure ?_;show Q (failedOf b).isNone _;rw[show failedOf b=Nd from J.failed.trans d.failed,show arrOf b=arrOf st from J.arr];rw[F,D]at hm;let V:=(nX (rk:=rk) (L:=X.drop k) (M:=Y.take n)).length_eq;rw[←hm,cb,hZ,xy O]at V;let G:=uc (L.length+k) m.toList 0 (L++X.take k) (X.drop k++(Y++Z)) (arrOf st) (by rw[g,ia,←ia (X.take k),kb]) (by simp;lia) (by rw[V,cb];exact yh (by simp;lia) _);rw[V,List.drop_length_add_append,OK O]at G;generalize (m.toList.zipIdx.foldl (λ(a:Array Keyed)(x:Keyed×Nat)=>match x with|(p,j)=>a.setIfInBounds (L.length+k+j) p) (arrOf st))=R at G⊢;replace G:R.toList=L++(mg rk X Y++Z):=by rw[G,hm,I];simp only[ia]
  refine h _ ((NL.mpr ?_).trans d.perm,J.kind.trans d.kind,rfl,) (by show(pendingOf b).toList=_;rw[J.pend];exact K) G;show R.toList.Perm _;rw[G,g,←ia X];exact List.Perm.append_left _<|List.Perm.append_right _ nX
 let t:∀z,z∈x\/z∈y->z∈a₀:=λz f=>d.mem z (EN.mp (by
  rw[g];rcases f with f|f
  .let:=pU<|F ▸ EN.mpr f;simp[this]
  .let:=q5<|D ▸ EN.mpr f;simp[this]))
 let zx:x.size=X.length-k:=by rw[←D0,F,jP]
 let zy:y.size=n:=by rw[←D0,D,hZ,xy O]
 let px:0<x.size:=∅
 let py:0<y.size:=∅
 let sx:Sd rk x.toList:=by rw[F];exact T.sublist<|q0 _ _
 let sy:Sd rk y.toList:=by rw[D];exact S.sublist<|mu _ _
 let b0:∀z∈x.toList,rk y[0]<rk z:=λz f=>by
  let:y[0]=(arrOf st)[L.length+X.length]:=by subst B;simp
  rw[this];exact h3 z<|F ▸ f
 let al:∀z∈y.toList,rk z<rk x[x.size-1]:=λz f=>by
  let:x[x.size-1]=(arrOf st)[L.length+k+(X.length-k)-1]:=by subst H;simp only[Array.getElem_extract];congr 1;rw[zx,Nat.add_sub_assoc (NX kX)]
  rw[this];exact h5 z<|D ▸ f
 calc aH (λ_=>wpS_bind<|ua N d.kind (λz f=>t z<|.inl f) (λz f=>t z<|.inr f) sx sy px py b0 al λm b=>v m b) λ_=>wpS_bind<|ub N d.kind (λz f=>t z<|.inl f) (λz f=>t z<|.inr f) sx sy px py b0 al λm b=>v m b
end
end PyProof.Rows._T
namespace PyProof.Rows._T
open PySem PyProof.Rows
section
variable{prog:Jl}{w:Je}{A:JX}{E:I1->JY->Prop}{s:JY}{κ:SortKind}{rk:Keyed->Int}{a₀:Array Keyed}
def SB.setArr{st:SortSt}(h:SB κ a₀ st)(a:xs.Perm (arrOf st)):SB κ a₀ (setArr st xs):=(a.trans h.perm,h.kind,h.failed,)
def jV{c:Type}{st:SortSt}{i j:Nat}{f:Option Bool->StateT SortSt Sem c}{Q:c->SortSt->Prop}(d:Ask prog w A E s κ (· ∈ a₀) rk)(a:SB κ a₀ st)(hi:i<a₀.size)(b:j<a₀.size)
  (h:wpS (model prog w) A E s (f<|Nc<|Nh<|Kx rk (arrOf st) i<Kx rk (arrOf st) j) Q st):wpS (model prog w) A E s (ltAt' i j >>= f) Q st:=by
 rw[←a.size]at hi b;rw[Kx_at hi,Kx_at b]at h;rw[ltAt'_eq];calc wpS_bind<|wpS_bind<|wpS_get<|cm hi<|cm b<|d _ _ _ _ (a.mem _<|Ef _) (a.mem _<|Ef _) a.kind h
def n4{a:Type}{st:SortSt}{i j:Nat}{f:Unit->StateT SortSt Sem a}{Q:a->SortSt->Prop}(h:wpS (model prog w) A E s (f ()) Q (setArr st<|mirror (arrOf st) i j<|(j-i) / 2)) :
  wpS (model prog w) A E s (reverseSlice' i j >>= f) Q st:=by
 rw[reverseSlice'_eq];calc wpS_bind<|wpS_modify h
def mQ(a:j<=xs.size)(k:Nat) :
  Kx rk (mirror xs i j<|(j-i) / 2) k=if i<=k/\k<j then Kx rk xs (i+j-1-k)else Kx rk xs k:=by
 let e:=getElem?_mirror_all (i:=i) a k;by_cases c:i<=k/\k<j
 .rw[Nk c]at e⊢;exact cZ e
 .rw[Nj c]at e⊢;calc cZ e
def mir(b:i<=k)(a:k<j):i<=i+j-1-k/\i+j-1-k<j:=(Nat.le_sub_of_add_le<|yF<|NI a i,∅,)
def iU(b:j<=xs.size)(a:∀k,i<=k->k<j->Kx rk xs k=Kx rk xs (j-1))(k:Nat) :
  Kx rk (mirror xs i j<|(j-i) / 2) k=Kx rk xs k:=by
 rw[mQ b];split
 .rename_i c;rw[a _ (mir c.1 c.2).1 (mir c.1 c.2).2,a k c.1 c.2]
 .rfl
structure Ahd(lo:Nat)(st st':SortSt):Prop where
 a:∀i,i<lo->(arrOf st')[i]?=(arrOf st)[i]?
 p:pendingOf st'=pendingOf st
def Ahd.rev{lo i j:Nat}{st b:SortSt}(h:Ahd lo st b)(hi:lo<=i)(e:j<=(arrOf b).size):Ahd lo st (PyProof.Rows.setArr b<|mirror (arrOf b) i j<|(j-i) / 2) :=
 (λk d=>((getElem?_mirror_all e k).trans<|Nj λc=>N6.mpr (uU hi c.1) d).trans<|h.a k d,h.p,)
def SrtOn.one{lo:Nat}:SrtOn rk xs lo 1:=λi j c b a=>by
 obtain rfl:i=j:=∅
 calc pc _
def SrtOn.snoc{xs:Array Keyed}{lo n:Nat}(h:SrtOn rk xs lo n)(f:1<=n)(c:Kx rk xs (lo+n-1)<=Kx rk xs (lo+n)):SrtOn rk xs lo (n+1):=λi j b a e=>by
 rcases Bf (ye e)with d|rfl
 .exact h i j b a d
 .rcases Bf a with hi|rfl
  .exact Db (h i (lo+n-1) b ∅ ∅) c
  .exact pc _
def SrtOn.adj{lo:Nat}:∀{n:Nat},(∀i,lo<=i->i+1<lo+n->Kx rk xs i<=Kx rk xs (i+1))->SrtOn rk xs lo n
 |0,_=>λi j b a c=>Nl c ∅
 |1,_=>.one
 |n+2,h=>(SrtOn.adj (n:=n+1) λi b a=>h i b<|vr a).snoc (C3 n)<|h (lo+n) (vz _ _)<|wm _
def bub{xs:Array Keyed}{t a:Nat}(h:t<=a)(d:a<xs.size):(∀j,j<t->(bubble xs a<|a-t)[j]?=xs[j]?)/\(bubble xs a<|a-t)[t]?=xs[a]?/\∀j,t<=j->j<a->(bubble xs a<|a-t)[j+1]?=xs[j]?:=by
 let e:=getElem?_bubble d (a-t)<|xc _ _;rw[Nat.sub_sub_self h]at e;calc(λj b=>by rw[e,Nj<|uR b,Nj λc=>Nat.lt_asymm c.1 b],by rw[e,Nk rfl],λj g f=>by rw[e,Nj ∅,Nk (Nat.lt_succ_of_le g,f,)];rfl,)
def vQ{st:SortSt}{lo n ok:Nat}(D:Ask prog w A E s κ (· ∈ a₀) rk)(G:lo+n<=a₀.size)(hok:ok<=n)(g:1<=ok)(m:SB κ a₀ st)(o:SrtOn rk (arrOf st) lo ok)
  (h:∀d,SB κ a₀ d->Ahd lo st d->SrtOn rk (arrOf d) lo n->Q Nf d):wpS (model prog w) A E s (binarySort' lo n ok) Q st:=by
 refine bO (λ_ _=>False) (λ_ d=>SB κ a₀ d/\Ahd lo st d/\SrtOn rk (arrOf d) lo n) (λk _ d=>SB κ a₀ d/\Ahd lo st d/\SrtOn rk (arrOf d) lo k) (m,(λ_ _=>rfl,rfl,),by rw[Nat.max_eq_left g];exact o,) ?_
  (λ_ _ v=>by rw[Nat.max_eq_left g,Nat.max_eq_right hok]at v;exact v) (λ_ _ _ h=>h.elim) λ_ d v=>wpS_pure<|h d v.1 v.2.1 v.2.2
 rintro k _ d g r ⟨m,z,o⟩;let y:lo+k<(arrOf d).size:=by rw[m.size];lia
 let anti:∀{i j:Nat},i<=j->j<k->decide (Kx rk (arrOf d) (lo+j)<=Kx rk (arrOf d) (lo+k))=Nf->decide (Kx rk (arrOf d) (lo+i)<=Kx rk (arrOf d) (lo+k))=true:=λ{i j} g r h=>Nm<|Db (o _ _ (vz _ _) (yh g _)<|NI r _)<|Np h
 refine bO (λ_ _=>False) (λp u=>u=d/\GM (λi=>decide<|Kx rk (arrOf d) (lo+i)<=Kx rk (arrOf d) (lo+k)) k k p.1 p.2) (λx p u=>u=d/\GM (λi=>decide<|Kx rk (arrOf d) (lo+i)<=Kx rk (arrOf d) (lo+k)) k x p.1 p.2)
  (rfl,.ini (ve _) (uN _) (λ_ h=>Nl h<|zm _) λ_ g r=>Nl r<|N6.mpr g,) ?_ (λp d h=>(h.1,by rw[←Dy k];exact h.2,)) (λ_ _ _ h=>h.elim) λp _ v=>?_
 .rintro x p _ _ F ⟨rfl,v⟩;refine aH (λc=>wpS_pure (rfl,v.stop c,)) λc=>?_
  let q:p.1<=(p.1+p.2) / 2/\(p.1+p.2) / 2<p.2:=by dsimp only at c;lia
  refine jV D m (m.size ▸ y) (by have:=v.h;dsimp only;lia) ?_;exact aH (λe=>wpS_pure (rfl,v.dn anti q.1 q.2 λc=>FY.mpr (Np c)<|Np e,)) λe=>wpS_pure (rfl,v.up anti q.1 q.2<|Nm<|FY.mp λc=>e<|Nm c,)
 let(rfl,v):=v;show wpS _ _ _ _ (do moveDown' (lo+k) (lo+p.1);pure (NA (Nd,()))) _ _;rw[moveDown'_eq];let C:=yh (uU v.l v.h) lo;let b:=bub C y;calc wpS_bind<|wpS_modify<|wpS_pure (m.setArr<|bubble_perm _ _ _,(λi hi=>(b.1 i<|u7 hi<|vz _ _).trans<|z.a i hi,z.p,),.adj λi B H=>?_,);show Kx rk (bubble _ _ _) _<=Kx rk (bubble _ _ _) _;let(j,rfl):=N1 B;rcases Nat.lt_trichotomy (j+1) p.1 with c|c|c
 .rw[cZ (b.1 _ ∅),cZ (b.1 _ ∅)];exact o _ _ B (v3 _) ∅
 .rw[cZ (b.1 _ ∅),show lo+j+1=lo+p.1 by lia,cZ b.2.1];exact Np<|v.t j ∅
 .rcases Bf (ye c)with c|rfl
  .let(i,rfl):∃i,j=i+1:=(j-1,∅,);rw[←yE lo,cZ<|b.2.2 (lo+i) ∅ ∅,cZ (b.2.2 (lo+i+1) ∅ ∅)];exact o _ _ (vz _ _) (v3 _) ∅
  .rw[cZ b.2.1,cZ (b.2.2 _ (uN _) ∅)];calc OE<|Int.not_le.mp<|of_decide_eq_false<|v.f p.1 (w1 v.fin.symm) ∅
end
end PyProof.Rows._T
namespace PyProof.Rows._T
open PySem PyProof.Rows
section
variable{prog:Jl}{w:Je}{A:JX}{E:I1->JY->Prop}{s:JY}{κ:SortKind}{rk:Keyed->Int}{a₀:Array Keyed}
def dE:Kx (λx=>-rk x) xs i = -Kx rk xs i:=by unfold Kx;split <;> rfl
def SrtOn.congr{lo n:Nat}(h:SrtOn rk xs lo n)(e:∀k,Kx rk ys k=Kx rk xs k):SrtOn rk ys lo n:=λi j c b a=>by rw[e,e];calc h i j c b a
structure CV(rk:Keyed->Int)(κ:SortKind)(a₀:Array Keyed)(lo:Nat)(st:SortSt)(p:Nat×Nat)(st':SortSt):Prop where
 sb:SB κ a₀ st'
 ah:Ahd lo st st'
 no:SrtOn (λx=>-rk x) (arrOf st') lo p.1
 q:p.2+1<=p.1
 e:∀i,lo+p.1-(p.2+1)<=i->i<lo+p.1->Kx rk (arrOf st') i=Kx rk (arrOf st') (lo+p.1-1)
def ya{st:SortSt}{lo C:Nat}(L:Ask prog w A E s κ (· ∈ a₀) rk)(X:lo+C<=a₀.size)(F:1<=C)(t:SB κ a₀ st)
  (h:∀m f,SB κ a₀ f->Ahd lo st f->1<=m->m<=C->SrtOn rk (arrOf f) lo m->Q (Nc m) f) :
  wpS (model prog w) A E s (countRun' lo C) Q st:=by
 let lt:∀{i},i<C->lo+i<a₀.size:=λ{i} hi=>u7 (NI hi lo) X
 refine bO (λ_ _=>False) (λn f=>f=st/\1<=n/\n<=C/\SrtOn rk (arrOf st) lo n/\(n≠C->Kx rk (arrOf st) (lo+n)<Kx rk (arrOf st) (lo+n-1))) (λx n f=>f=st/\n=x/\SrtOn rk (arrOf st) lo n) (rfl,rfl,.one,) ?_
  (λn f v=>(v.1,∅,∅,v.2.2,λc=>Nl v.2.1 ∅,)) (λ_ _ _ h=>h.elim) λn st v=>?_
 .rintro x n _ F y ⟨rfl,rfl,v⟩;calc jV L t (lt y) (wu (xc _ _)<|lt y) ?_;exact aH (λc=>wpS_pure (rfl,F,vl y,v,λ_=>Np c,)) λc=>wpS_pure (rfl,rfl,v.snoc F<|FY.mp λe=>c<|Nm e,)
 let(rfl,n1,O,v,D):=v;refine aH (λc=>wpS_pure<|h n _ t (λ_ _=>rfl,rfl,) n1 O v) λc=>?_
 let D:=D<|nb c;let P:=wq O (nb c)
 extract_lets -underBinder jp
 let J:∀l,SB κ a₀ l->Ahd lo st l->(∀k,Kx rk (arrOf l) k=Kx rk (arrOf st) k)->SrtOn (λx=>-rk x) (arrOf st) lo n->CV rk κ a₀ lo st (n+1,0) l:=λl b a e o =>
  (b,a,SrtOn.congr (o.snoc n1 (by rw[dE,dE];exact Int.neg_le_neg (OE D))) (λk=>by rw[dE,dE,e]),AQ<|ve _,λi F y=>by congr 1;dsimp only at *;lia,)
 let R:lo+n<=(arrOf st).size:=by rw[t.size];exact vl (lt P)
 suffices tail:∀l,CV rk κ a₀ lo st (n+1,0) l->wpS (model prog w) A E s (jp ()) Q l from
  aH (λT=>jV L t (wu (vz _ _)<|lt P) (wu (xc _ _)<|lt P) (aH (λc=>wpS_pure<|h n _ t (λ_ _=>rfl,rfl,) n1 O v) λc=>n4 (tail _ (by
   let S:∀k,lo<=k->k<lo+n->Kx rk (arrOf st) k=Kx rk (arrOf st) (lo+n-1):=λk W k2 =>
    Int.le_antisymm (v k (lo+n-1) W ∅ ∅) (Db (FY.mp λe=>c<|Nm e)<|v lo k (uN _) W k2)
   exact J _ (t.setArr<|mirror_perm _ _ _ _) (Ahd.rev (λ_ _=>rfl,rfl,) (uN _) R) (iU R S) λi j G B H=>by rw[dE,dE,S i G ∅,S j ∅ H];exact pc _)))) λT=>tail _ (J _ t (λ_ _=>rfl,rfl,) (λ_=>rfl) (by
    obtain rfl:n=1:=by dsimp only at T;lia
    exact .one))
 clear J R v D t;intro l v;calc mO ?_;refine bO (λ_ _=>False) (λp f=>p.1<=C/\CV rk κ a₀ lo st p f) (λx p f=>p.1=x/\CV rk κ a₀ lo st p f) (rfl,v,) ?_ (λp f v=>(∅,v.2,)) (λ_ _ _ h=>h.elim) λp z v=>?_
 .rintro _ p z _ y ⟨rfl,v⟩;let I:lo+p.1<=(arrOf z).size:=by rw[v.sb.size];exact vl<|lt y
  let K:=uU (Ci 1 _) v.q;let V:lo+p.1-1<a₀.size:=wu (xc _ _)<|lt y;calc jV L v.sb (lt y) V ?_;refine aH (λc=>?_) λc=>?_
  .let no:=v.no.snoc K (by rw[dE,dE];exact Int.neg_le_neg (OE<|Np c));let J:∀f,SB κ a₀ f->Ahd lo st f->(∀k,Kx rk (arrOf f) k=Kx rk (arrOf z) k)->CV rk κ a₀ lo st (p.1+1,0) f:=λf b a e=>(b,a,no.congr λk=>by rw[dE,dE,e],AQ<|ve _,λi F y=>by congr 1;dsimp only at *;lia,)
   exact aH (λ_=>n4<|wpS_pure (rfl,J _ (v.sb.setArr<|mirror_perm _ _ _ _) (v.ah.rev (by have:=v.q;dsimp only;lia) I) (iU I v.e),)) λ_=>wpS_pure (rfl,J _ v.sb v.ah λ_=>rfl,)
  .refine jV L v.sb V (lt y)<|aH (λ_=>wpS_pure (vl y,v,)) λd=>?_;let e:Kx rk (arrOf z) (lo+p.1)=Kx rk (arrOf z) (lo+p.1-1):=Int.le_antisymm (FY.mp λe=>d<|Nm e)<|FY.mp λe=>c<|Nm e;refine wpS_pure (rfl,v.sb,v.ah,v.no.snoc K (by rw[dE,dE,e];exact pc _),AQ v.q,λi G B=>?_,);show Kx rk (arrOf z) i=Kx rk (arrOf z) (lo+p.1);rcases Bf (ye B)with B|rfl
   .rw[e];exact v.e i (by dsimp only at *;lia) B
   .rfl
 let K:=uU (Ci 1 _) v.2.q;let N:lo+p.1<=a₀.size:=uU (yh v.1 lo) X
 extract_lets -underBinder r _ m q
 dsimp -zeta only[r]
 extract_lets -underBinder jp2
 suffices tail:∀g,SB κ a₀ g->Ahd lo st g->SrtOn (λx=>-rk x) (arrOf g) lo p.1->wpS (model prog w) A E s (jp2 ()) Q g from
  aH (λ_=>n4<|tail _ (v.2.sb.setArr<|mirror_perm _ _ _ _) (v.2.ah.rev (show lo<=lo+p.1-(p.2+1) by have:=v.2.q;lia) (v.2.sb.size ▸ N)) (v.2.no.congr λk=>by rw[dE,dE];exact Nq _ (iU (v.2.sb.size ▸ N) v.2.e k))) λ_=>tail _ v.2.sb v.2.ah v.2.no
 intro g t M no;let I:lo+p.1<=(arrOf g).size:=t.size ▸ N;calc n4 ?_;let M:=M.rev (uN _) I;let t:=t.setArr<|mirror_perm (arrOf g) lo (lo+p.1)<|(lo+p.1-lo) / 2;let so:SrtOn rk (arrOf<|setArr g<|mirror (arrOf g) lo (lo+p.1)<|(lo+p.1-lo) / 2) lo p.1:=λi j G B H=>by
  show Kx rk (mirror _ _ _ _) _<=Kx rk (mirror _ _ _ _) _;rw[mQ I,mQ I,Nk (G,wu B H,),Nk (uU G B,H,)];let:=no (lo+(lo+p.1)-1-j) (lo+(lo+p.1)-1-i) (mir (uU G B) H).1 (PR B _) (mir G<|wu B H).2;rw[dE,dE]at this;exact Int.neg_le_neg_iff.mp this
 generalize setArr g (mirror (arrOf g) lo (lo+p.1)<|(lo+p.1-lo) / 2)=st4 at M t so⊢
 refine bO (λ_ _=>False) (λn f=>f=st4/\p.1<=n/\n<=C/\SrtOn rk (arrOf st4) lo n) (λx n f=>f=st4/\n=x/\SrtOn rk (arrOf st4) lo n) (rfl,rfl,so,) ?_
  (λn f u=>(u.1,by rw[u.2.1];exact Nat.le_max_left _ _,by rw[u.2.1,Nat.max_eq_right v.1];exact uN _,u.2.2,)) (λ_ _ _ h=>h.elim) λn _ u=>by
   let(rfl,Z,Y,u):=u;exact wpS_pure<|h n _ t M (uU K Z) Y u
 rintro x n _ F y ⟨rfl,rfl,u⟩;calc jV L t (lt y) (wu (xc _ _)<|lt y) ?_;calc aH (λc=>wpS_pure (rfl,F,vl y,u,)) λc=>wpS_pure (rfl,rfl,u.snoc (uU K F)<|FY.mp λe=>c<|Nm e,)
end
end PyProof.Rows._T
namespace PyProof.Rows._T
open PySem PyProof.Rows
section
variable{prog:Jl}{w:Je}{A:JX}{E:I1->JY->Prop}{s:JY}{κ:SortKind}{rk:Keyed->Int}{a₀:Array Keyed}
def  Rn(rk:Keyed->Int):Nat->Nt (Nat×Nat×Nat)->Nt Keyed->Prop
 |_,[],l=>l=[]
 |a,r :: ps,l=>∃X b,l=X++b/\r.1=a/\r.2.1=X.length/\0<X.length/\Sd rk X/\Rn rk (a+X.length) ps b
def Rn.split:∀(ps:Nt (Nat×Nat×Nat)){a:Nat}{l:Nt Keyed},Rn rk a (ps++d) l->∃b c,l=b++c/\Rn rk a ps b/\Rn rk (a+⇑b) d c:=λps=>by
 induction ps with
 |nil=>exact λ{a l} h=>([],l,rfl,rfl,h,)
 |cons r ps e =>
  rintro a l ⟨X,_,rfl,n,m,k,j,i⟩;let(b,c,rfl,g,f):=e i;calc(X++b,c,(ia _ _ _).symm,(X,b,rfl,n,m,k,j,g,),by rw[cb,←yE];exact f,)
def Rn.join:∀{ps:Nt (Nat×Nat×Nat)}{a:Nat}{b:Nt Keyed},Rn rk a ps b->Rn rk (a+⇑b) d e->Rn rk a (ps++d) (b++e):=λ{ps}=>by
 induction ps with
 |nil=>intro a b h c;rw[show b=[]from h]at c⊢;exact c
 |cons r ps f =>
  rintro a b ⟨X,l,rfl,m,k,j,i,g⟩ c;calc(X,_,ia _ _ _,m,k,j,i,f g (by rw[cb,←yE]at c;exact c),)
def Rn.len:∀{ps:Nt (Nat×Nat×Nat)}{a:Nat}{l:Nt Keyed},Rn rk a ps l->⇑ps<=⇑l:=λ{ps}=>by
 induction ps with
 |nil=>exact λ_=>ve _
 |cons r ps b =>
  rintro a l ⟨X,l,rfl,g,f,d,e,c⟩;rw[cb,gE,Nat.add_comm];calc Nat.add_le_add d<|b c
def Rn.power:∀{ps:Nt (Nat×Nat×Nat)}{i a:Nat}{l:Nt Keyed},Rn rk a ps l->Rn rk a (ps.modify i λx=>(x.1,x.2.1,j)) l:=λ{ps}=>by
 induction ps with
 |nil=>intro i a l h;cases i <;> exact h
 |cons r ps k =>
  rintro i a l ⟨X,l,g,f,e,d,c,b⟩;cases i with
  |zero=>exact(X,l,g,f,e,d,c,b,)
  |succ i=>calc(X,l,g,f,e,d,c,k b,)
def Rn.one(h:Rn rk a ps l)(z:⇑ps<=1):Sd rk l:=by
 cases ps with
 |nil=>rw[show l=[]from h];exact .nil
 |cons r ps =>
  let(X,l,rfl,_,_,_,b,h):=h;obtain rfl:ps=[]:=wr<|Nat.le_zero.mp<|Pl z;rw[show l=[]from h,ik];calc b
structure RS(rk:Keyed->Int)(κ:SortKind)(a₀:Array Keyed)(st:SortSt)(D Z:Nt Keyed):Prop where
 sb:SB κ a₀ st
 el:(arrOf st).toList=D++Z
 rn:Rn rk 0 (pendingOf st).toList D
def Dw{l:Nt (Nat×Nat×Nat)}{i:Nat}(h:i+2<=⇑l):∃x y,l=l.take i++x :: y :: l.drop (i+2):=by
 calc(l[i],l[i+1],?_,);rw[←IN,←IN,kb]
def ue{d:Type}{st:SortSt}{i:Nat}{D Z:Nt Keyed}{f:Bool->StateT SortSt Sem d}{Q:d->SortSt->Prop}(u:Ask prog w A E s κ (· ∈ a₀) rk)(c:RS rk κ a₀ st D Z)(hi:i+2<=(pendingOf st).size)
  (h:∀a o,RS rk κ a₀ a o Z->⇑o=D.length->(pendingOf a).size+1=(pendingOf st).size->wpS (model prog w) A E s (f Nf) Q a):wpS (model prog w) A E s (mergeAt' i >>= f) Q st:=by
 rw[←D0]at hi;let((y,C,B),(sb,nb,z),e):=Dw hi;let g:i=⇑((pendingOf st).toList.take i):=by rw[hZ];lia
 generalize (pendingOf st).toList.take i=pre at e g;generalize (pendingOf st).toList.drop (i+2)=post at e;let m:=c.rn;rw[e]at m;let(L,_,rfl,x,X,_,rfl,rfl,rfl,q,k,Y,n,rfl,rfl,rfl,p,j,v):=Rn.split _ m;rw[wz]at e;refine wpS_bind<|ud (X:=X) (Y:=Y) (Z:=n++Z) u c.sb e g (by rw[c.el];simp only[ia]) q p k j λa t l r=>h a (L++(mg rk X Y++n)) (t,by rw[r];simp only[ia],?_,) ?_ ?_
 .rw[l];let b:=(nX (rk:=rk) (L:=X) (M:=Y)).length_eq;rw[cb]at b;exact x.join (_,_,rfl,(wz _).symm,b.symm,∅,Fb k j,by rw[b,←yE];exact v,)
 .simp only[cb,(nX (rk:=rk) (L:=X) (M:=Y)).length_eq,yE]
 .rw[←D0,←D0,l,e];simp only[cb,gE];rfl
end
end PyProof.Rows._T
namespace PyProof.Rows._T
open PySem PyProof.Rows
section
variable{prog:Jl}{w:Je}{A:JX}{E:I1->JY->Prop}{s:JY}{κ:SortKind}{rk:Keyed->Int}{a₀:Array Keyed}
inductive RL(rk:Keyed->Int)(κ:SortKind)(a₀:Array Keyed)(st:SortSt)(lo:Nat):Prop
 |mk {D Z:Nt Keyed}:RS rk κ a₀ st D Z->D.length=lo->RL rk κ a₀ st lo
def RL.sb{st:SortSt}{lo:Nat}(h:RL rk κ a₀ st lo):SB κ a₀ st:=h.casesOn λR _=>R.sb
def RL.ahd{st b:SortSt}{lo:Nat}(h:RL rk κ a₀ st lo)(d:Ahd lo st b)(f:SB κ a₀ b):RL rk κ a₀ b lo:=by
 let(R,rfl):=h
 rename_i D Z
 let e:(arrOf b).toList.take D.length=D:=by
  calc Eq.trans ?_<|(Nq _ R.el).trans<|List.take_left (l₁:=D) (l₂:=Z);refine pV λi=>?_
  rw[rK,rK];by_cases c:i<D.length
  .rw[Nk c,Nk c,EM,EM];exact d.a i c
  .rw[Nj c,Nj c]
 calc .mk (Z:=(arrOf b).toList.drop D.length) (f,by conv=>lhs;rw[←kb D.length (arrOf b).toList,e],by rw[d.p];exact R.rn,) rfl
def SrtOn.sd{lo n:Nat}(h:SrtOn rk arr lo n)(c:lo+n<=arr.size):Sd rk ((arr.toList.drop lo).take n):=lX.mpr λi j hi a b=>by
 rw[←oW (rk:=rk) rfl hi,←oW (rk:=rk) rfl a];simp at a;calc h _ _ (vz _ _) ∅ ∅
def RL.push{st:SortSt}{lo n:Nat}(h:RL rk κ a₀ st lo)(c:1<=n)(b:lo+n<=(arrOf st).size)(a:SrtOn rk (arrOf st) lo n):RL rk κ a₀ (setPending st<|(pendingOf st).push (lo,n,0)) (lo+n):=by
 let(R,rfl):=h
 rename_i D Z
 let e:(arrOf st).toList.drop D.length=Z:=by rw[R.el,rr]
 let so:=a.sd b;let l:⇑(Z.take n)=n:=by
  let:=Nq sK R.el;rw[D0,cb]at this;rw[hZ];lia
 rw[e]at so;refine .mk (D:=D++Z.take n) (Z:=Z.drop n) ((R.sb.perm,R.sb.kind,R.sb.failed,),?_,?_,) (by rw[cb,l])
 .show(arrOf st).toList=_;rw[ia,kb];exact R.el
 .show Rn rk 0 ((pendingOf st).push _).toList _;rw[EL];calc R.rn.join (Z.take n,[],(ik _).symm,(wz _).symm,l.symm,∅,so,rfl,)
def RL.power{st:SortSt}{lo i a:Nat}(h:RL rk κ a₀ st lo):RL rk κ a₀ (setPending st<|(pendingOf st).modify i λx=>(x.1,x.2.1,a)) lo:=by
 let(R,e):=h;calc .mk ((R.sb.perm,R.sb.kind,R.sb.failed,),R.el,?_,) e;show Rn rk 0 ((pendingOf st).modify _ _).toList _;rw[Array.toList_modify];calc R.rn.power
def nv{c:Type}{st:SortSt}{i lo:Nat}{f:Bool->StateT SortSt Sem c}{Q:c->SortSt->Prop}(q:Ask prog w A E s κ (· ∈ a₀) rk)(o:RL rk κ a₀ st lo)(hi:i+2<=(pendingOf st).size)
  (h:∀a,RL rk κ a₀ a lo->(pendingOf a).size+1=(pendingOf st).size->(∀n,SrtOn rk (arrOf st) lo n->SrtOn rk (arrOf a) lo n)->wpS (model prog w) A E s (f Nf) Q a):wpS (model prog w) A E s (mergeAt' i >>= f) Q st:=by
 let(R,rfl):=o;refine ue q R hi λa r l e p=>h a (.mk l e) p λn so i j b d m=>?_
 let k:∀{j},_<=j->Kx rk (arrOf a) j=Kx rk (arrOf st) j:=λ{j} g=>cZ (by rw[←EM,←EM,R.el,l.el,kc<|e ▸ g,kc g,e])
 rw[k b,k (uU b d)];calc so i j b d m
def wpS_sortAll{st:SortSt}(u:Ask prog w A E s κ (· ∈ a₀) rk)(L:SB κ a₀ st)(N:pendingOf st = #[])(P:2<=a₀.size)
  (h:∀a,(arrOf a).Perm a₀->failedOf a=Nd->SrtOn rk (arrOf a) 0 a₀.size->Q () a):wpS (model prog w) A E s sortRuns' Q st:=by
 refine wpS_bind (wpS_get ?_)
 extract_lets -underBinder sz mr _
 let e:sz=a₀.size:=L.size
 clear_value mr sz
 subst e
 refine bO (λ_ _=>False) (λlo a=>RL rk κ a₀ a a₀.size) (λx lo a=>RL rk κ a₀ a lo/\x<=lo/\lo<=a₀.size) (.mk (D:=[]) (L,rfl,by rw[N];rfl,) rfl,uN _,ve _,) ?_
  (λlo a v=>Cw v.2.2 (Dy a₀.size ▸ v.2.1) ▸ v.1) (λ_ _ _ h=>h.elim) λlo a v=>?_
 .intro x p a _ M v
  extract_lets -underBinder lo
  let(R,O,B):RL rk κ a₀ a lo/\x<=lo/\lo<=a₀.size:=v
  clear_value lo
  refine aH (λc=>wpS_pure<|Cw B c ▸ R) λc=>?_
  let c:=zb c;calc wpS_bind<|ya u (w1<|w4 B) (NX c) R.sb λm i j o t r C=>?_;dsimp -zeta only
  extract_lets -underBinder n jp
  let K:=uU (yh (Nat.min_le_left (a₀.size-lo) mr) lo) (w1<|w4 B)
  suffices f:∀n g,RL rk κ a₀ g lo->1<=n->lo+n<=a₀.size->SrtOn rk (arrOf g) lo n->wpS (model prog w) A E s (jp () n) _ g from
   aH (λc=>mO<|wpS_bind<|vQ u K (Cu.mpr (r,vl c,)) t j C λg G H s2=>iq ⋯ (f _ _ ((R.ahd o j).ahd H G) (uU t<|Cu.mpr (r,vl c,)) K s2)) λ_=>f _ _ (R.ahd o j) t (Pu B r) C
  clear R j o t r C;intro n g R n1 J so;refine wpS_bind (wpS_get ?_)
  extract_lets -underBinder jp2
  let f:∀d,RL rk κ a₀ d lo->SrtOn rk (arrOf d) lo n->wpS (model prog w) A E s (jp2 ()) (Lr (λ_ _=>False) (λlo a=>RL rk κ a₀ a a₀.size) λlo a=>RL rk κ a₀ a lo/\x+1<=lo/\lo<=a₀.size) d:=λd R so=>wpS_bind (wpS_modify<|wpS_pure (R.push n1 (R.sb.size ▸ J) so,∅,J,))
  clear_value jp2
  cases (pendingOf g).back? with
  |none=>exact f _ R so
  |some b =>
   refine bO (λ_ _=>False) (λ_ a=>RL rk κ a₀ a lo/\SrtOn rk (arrOf a) lo n) (λ_ _ a=>RL rk κ a₀ a lo/\SrtOn rk (arrOf a) lo n) (R,so,) ?_ (λ_ _ v=>v) (λ_ _ _ h=>h.elim) λ_ d v=>wpS_bind<|wpS_modify<|f _ v.1.power v.2
   intro y _ d _ _ v;calc wpS_bind<|wpS_get ?_;by_cases q:(pendingOf d).size>1
   .let e:(if (pendingOf d).size>1 then(pendingOf d)[(pendingOf d).size-2]? else Nd)=Nc (pendingOf d)[(pendingOf d).size-2]:=(Nk q).trans<|getElem?_pos _ _ ∅;dsimp only;rw[e];exact aH (λ_=>wpS_pure v) λ_=>nv u v.1 (w1<|P3 q) λF R _ k=>iq ⋯ (wpS_pure (R,k n v.2,))
   .let e:(if (pendingOf d).size>1 then(pendingOf d)[(pendingOf d).size-2]? else Nd)=none:=Nj q;dsimp only;rw[e];exact wpS_pure v
 let le:(pendingOf a).size<=a₀.size:=by
  let(R,e):=v;rw[←D0,←e];exact R.rn.len
 refine bO (λ_ _=>False) (λ_ a=>RL rk κ a₀ a a₀.size/\(pendingOf a).size<=1) (λx _ a=>RL rk κ a₀ a a₀.size/\((pendingOf a).size<=1\/(pendingOf a).size+x<=a₀.size)) (v,.inr le,) ?_ (λ_ _ v=>(v.1,by have:=v.2;lia,)) (λ_ _ _ h=>h.elim) λ_ i v=>?_
 .intro x _ i _ M v;calc wpS_bind<|wpS_get ?_;refine aH (λc=>wpS_pure (v.1,c,)) λc=>?_
  let c:2<=(pendingOf i).size:=zb c;let I:∀b:Bool,(if b=Nf then(pendingOf i).size-2-1 else(pendingOf i).size-2)+2<=(pendingOf i).size:=λb=>by cases b <;> simp <;> lia
  exact nv u v.1 (I _) λF R e _=>iq ⋯ (wpS_pure (R,by have:=v.2;lia,))
 let((R,e),z):=v
 rename_i D Z
 let q:Z=[]:=by
  let:=Nq sK R.el;rw[D0,R.sb.size,cb]at this;exact wr ∅
 subst q;refine wpS_pure<|h _ R.sb.perm R.sb.failed<|Sd.on (l:=D) ?_ ?_ (by rw[R.sb.size];lia)
 .rw[R.el,ik,ro,←e,fo]
 .exact R.rn.one<|D0 ▸ z
end
end PyProof.Rows._T
namespace _L
open PySem PySem.Spec PySem.W PyProof.Rows
variable{prog:Jl}{w:Je}{A:JX}{E:I1->JY->Prop}{s:JY}
def Dx{a:SortKind}(h:∀(x y:Keyed)(Q:Bool->JY->Prop)(f:I1->JY->Prop),S x->S y->Q (Nh<|rk x<rk y) s->Kc (model prog w) A (keyLt' a x.1 y.1) Q f s):_T.Ask prog w A E s a S rk:=by
 intro x y g Q c b e d;rw[lt'_eq];calc wpS_bind<|wpS_get ?_;rw[e];calc wpS_bind<|wpS_lift<|L0<|h x y _ _ c b (U,?_,);calc wpS_pure d
def zQ{a:Jr}{vs:Nt I1}{n:Nat}{G:Array I1->Prop}{P:PySem.Fin->JY->Prop}(r:s.heap.get? a=Nc (seqObj "list" vs.toArray n)) (hz:⇑vs<=JR)
  (F:2<=⇑vs->∀s':JY,(∀b o,b≠a->s.heap.get? b=Nc o->s'.heap.get? b=Nc o)->∀D,∃q rk,(∀Q:SortKind->JY->Prop,Q q s'->Kc (model prog w) A (keyKind' vs.toArray) Q D s')/\_T.Ask prog w A D s' q (· ∈ pairsOf vs) rk/\∀arr:Array Keyed,arr.Perm (pairsOf vs)->_T.SrtOn rk arr 0 ⇑vs->G (arr.map (·.2)))
  (N:⇑vs<2->G vs.toArray)
  (h:∀out:Array I1,out.size=⇑vs->G out->P (.done<|.ret .none) { s with heap:=sortedHeap s.heap a vs out }) :
  Kc (model prog w) A (KR.«list.sort» ([.ref a],[],)) P E s:=by
 let C:a<↥s:=bi r;let k:vs.toArray.size<=JR:=by rw[cM];exact hz
 rw[list_sort_plain];calc GS<|listItems_at r U<|GS<|listUpdate_at r U ?_ k<|ve _;let(v,m):∃v,(s.heap.update a<|kw λ_=>#[]).get? a=Nc (seqObj "list" #[] v):=(_,get?_update_seq r<|λ_=>#[],);refine GS (seqEpoch_at m U<|GS<|MR (GS<|M7 (GV ?_)<|ve _) (by show ⇑vs<=_;exact hz));generalize f:({ s with heap:=((s.heap.update a<|kw λ_=>#[]).push<|seqObj "tuple" vs.toArray 0).push (seqObj "list" #[] 0) }:JY)=s6;let d:s6.heap.get? a=Nc (seqObj "list" #[] v):=by
  subst f;show(((s.heap.update a<|kw λ_=>#[]).push<|seqObj "tuple" vs.toArray 0).push<|seqObj "list" #[] 0).get? a=_;rw[L2 _ _ _ (by rw[size_push',wP];exact uR (vr C)),L2 _ _ _ (by rw[wP];exact uR C)];exact m
 let keep:∀b o,b≠a->s.heap.get? b=Nc o->s6.heap.get? b=Nc o:=λb o I e=>by
  subst f;let p:b<↥s:=bi e;show(((s.heap.update a<|kw λ_=>#[]).push<|seqObj "tuple" vs.toArray 0).push<|seqObj "list" #[] 0).get? b=_;rw[L2 _ _ _ (by rw[size_push',wP];exact uR (vr p)),L2 _ _ _ (by rw[wP];exact uR p),OF _ _ _ _ I];exact e
 let fin:∀out:Array I1,out.size=⇑vs->G out->P (.done<|.ret .none) { s6 with heap:=s6.heap.update a (kw λ_=>out) }:=λout i H=>by
  subst f;exact h out i H
 show Kc (model prog w) A _ P E s6;dsimp only;by_cases u:⇑vs<2
 .let j:vs.toArray.size<2:=by rw[cM];exact u
  rw[Nk j,Nk j];calc GS<|GU ?_;rw[StateT.run_pure];calc GS<|GU ?_;dsimp only;let J:(arrOf<|Oi general' (vs.toArray.zip vs.toArray) #[] 7 Nd).map (·.2)=vs.toArray:=by
   show(vs.toArray.zip vs.toArray).map (·.2)=vs.toArray;apply P6.mp
   rw[P5,Array.toList_zip];exact List.map_snd_zip<|uN _
  rw[J];calc GS<|seqEpoch_at d U<|GS<|listUpdate_at d U ?_ (ve _)<|OD k;simp only[bne_self_eq_false,EZ,if_false];exact GU<|fin vs.toArray cM<|N u
 .let j:¬ vs.toArray.size<2:=by rw[cM];exact u
  rw[Nj j,Nj j];let(q,rk,z,y,x):=F ∅ s6 keep E;calc GS<|z _ ?_;let g:(pairsOf vs).size=⇑vs:=pairsOf_size vs
  refine GS (Kj (_T.wpS_sortAll (a₀:=pairsOf vs) (st:=Oi q (vs.toArray.zip vs.toArray) #[] 7 Nd)
   (Q:=λ_ c=>(arrOf c).Perm (pairsOf vs)/\failedOf c=Nd/\_T.SrtOn rk (arrOf c) 0 (pairsOf vs).size)
   y (Array.Perm.refl _,U,U,) U (by rw[g];lia) λc M L K=>(M,L,K,)) ?_ λ_ _ e=>e)
  rintro⟨⟨⟩,c⟩ s' ⟨rfl,t,B,i⟩;dsimp only at t B i⊢;rw[g]at i;let l:((arrOf c).map (·.2)).size=⇑vs:=(Array.size_map ..).trans<|t.size_eq.trans g;calc GS<|seqEpoch_at d U<|GS<|listUpdate_at d U ?_ (ve _)<|uU (w1 l)<|OD hz;rw[B];simp only[bne_self_eq_false,EZ,if_false];calc GU<|fin _ l<|x _ t i
variable{X:Cx}
def uf(hh:A.handled=Nd)(hW:eQ s.heap a (!eU w) ks m)(hm:m<=1000)
  (h:∀(J:Nt Int)(vs:Nt I1)(s':JY)(D:Jr)(c:Nat),Vals (J.map pi) vs->J.Pairwise (· < ·)->(∀k,k∈J↔k∈ks)->↥s<=D->(∀b u,s.heap.get? b=Nc u->s'.heap.get? b=Nc u)->s'.heap.get? D=Nc (seqObj "list" vs.toArray c)->s'.gens=s.gens->s'.os=s.os->J.length=m->Q (.ref D) s') :
  Kc (model prog w) A (call (.builtin "sorted") [.ref a]) Q E s:=by
 let(o,es,ep,t,ho,a8,hd,S,L,hf,ha,K,hn):=hW;calc Calls.call_function_entry kind_sorted plain_sorted entry_sorted (args_sorted1 _) ?_;unfold KR.«sorted»;calc GS (m:=checkCount "sorted" 1 1 _)<|GU ?_;refine GS (tY (by simp[hh]) ho a8 hd L hf ha K λd f N kp hg Z X=>?_);let I:⇑d=m:=by rw[N.length_eq,af,D0,hn]
 let l:∀v∈d,∃u,v=.int (gA v) u:=λv O=>by
  let(e,he,rfl):=cU.mp<|N.mem_iff.mp O;exact(S.ent e he).2
 let R:=sj l;let pk:(d.map gA).Perm (es.toList.map λe=>gA e.2):=by
  let:=N.map gA;rw[rL]at this;exact this
 refine GS (M7 ?_ (by rw[K1];lia));let r:(f.heap.push<|seqObj "list" d.toArray 0).get? ↥f=Nc (seqObj "list" d.toArray 0):=ci _ U;let keep:∀b u,s.heap.get? b=Nc u->(f.heap.push<|seqObj "list" d.toArray 0).get? b=Nc u:=λb u q=>bd _<|kp b u q
 show Kc _ _ _ _ _ { f with heap:=f.heap.push (seqObj "list" d.toArray 0) };refine GS<|GV<|MA slot_list_sort (_,r,U,) entry_list_sort ?body<|args_list_sort _
 case body =>
  refine zQ (s:={ f with heap:=f.heap.push (seqObj "list" d.toArray 0) }) (G:=λout=>out.toList.Perm d/\(out.toList.map gA).Pairwise (· <= ·)) r (by rw[K1];lia) (λn s' _ E'=>?_) (λn=>?_) λout Jw a0=>(_,U,GU (_,U,?_,),)
  .refine(oneType',λx=>gA x.1,λQ hQ=>?_,Dx λx y Q b0 hx hy P=>?_,λg hp hs=>?_,)
   .match d,n,R with
    | [],n,_=>exact Nl n (by simp)
    | [_],n,_=>exact Nl n (by simp)
    |v1 :: v2 :: rest,_,R=>rw[keyKind_ints R];exact GU hQ
   .let W:x.1∈d:=(mem_zip_self (by rw[←pairsOf_toList];exact EN.mpr hx)).2;let T:y.1∈d:=(mem_zip_self (by rw[←pairsOf_toList];exact EN.mpr hy)).2;let(u1,C):=l _ W;let(u2,F):=l _ T;generalize gA x.1=kx at C P;generalize gA y.1=ky at F P;rw[C,F];exact kat_lt_int P
   .let K:g.toList.Perm (d.zip d):=by rw[←pairsOf_toList];exact NL.mp hp
    let jh:∀p∈g.toList,p.1=p.2/\p.1∈d:=λp Y=>mem_zip_self<|K.mem_iff.mp Y
    let F:(g.map (·.2)).toList=g.toList.map (·.2):=P5;let a9:g.size=⇑d:=by rw[hp.size_eq,pairsOf_size]
    refine(?_,?_,)
    .rw[F];let:=K.map (·.2)
     rwa [List.map_snd_zip (uN _)]at this
    .rw[F,rL,lX];intro i j hi hj a6;let a7:i<g.size:= ~~~hi
     have a5:j<g.size:= ~~~hj
     have z:=hs i j (ve _) (vl a6) ∅;rw[_T.Kx_at a7,_T.Kx_at a5]at z;let mi:=jh g[i] (by simp);let mj:=jh g[j] (by simp);rw[mi.1,mj.1]at z;simpa using z
  .refine(List.Perm.refl _,?_,)
   match d,n with
   | [],_=>exact N8
   | [_],_=>exact M2 _ _
   |_ :: _ :: _,n=>exact Nl n (by simp)
  let(g1,a3):=a0;let a1:IntsAre out.toList (out.toList.map gA):=sj λv O=>l v<|g1.mem_iff.mp O
  let M:(out.toList.map gA).Perm (d.map gA):=g1.map gA;generalize out.toList.map gA=ns' at a1 M a3;let nd:ns'.Nodup:=M.nodup_iff.mpr<|pk.nodup_iff.mpr S.nd;let H:↥f<(f.heap.push<|seqObj "list" d.toArray 0).objs.size:=bi r;let(C,a4):∃C,((f.heap.push<|seqObj "list" d.toArray 0).update ↥f<|kw λ_=>#[]).get? ↥f=Nc (seqObj "list" #[] C):=(_,get?_update_seq r<|λ_=>#[],);let h3:∀b,b<(f.heap.push<|seqObj "list" d.toArray 0).objs.size->((((f.heap.push<|seqObj "list" d.toArray 0).update ↥f<|kw λ_=>#[]).push<|seqObj "tuple" d.toArray 0).push<|seqObj "list" #[] 0).get? b=((f.heap.push<|seqObj "list" d.toArray 0).update ↥f<|kw λ_=>#[]).get? b:=λb L=>by
   rw[L2 _ _ _ (by rw[size_push',wP];exact uR (vr L)),L2 _ _ _ (by rw[wP];exact uR L)]
  let e6:((((f.heap.push<|seqObj "list" d.toArray 0).update ↥f<|kw λ_=>#[]).push<|seqObj "tuple" d.toArray 0).push<|seqObj "list" #[] 0).get? ↥f=Nc (seqObj "list" #[] C):=by rw[h3 _ H];exact a4
  let sz:↥s<=↥f:=vl X;refine h ns' out.toList { f with heap:=sortedHeap (f.heap.push<|seqObj "list" d.toArray 0) ↥f d out } ↥f _ (rA a1) (jv a3 nd) (λk=>(M.mem_iff).trans<|(pk.mem_iff).trans (S.mem k).symm) sz (λb u q=>?_) (get?_update_seq e6<|λ_=>out) hg Z ?_
  .let B:b<↥f:=bi<|kp b u q;show(JD.update _ _ _).get? b=Nc u;rw[OF _ _ _ _ (uR B),h3 _<|Nat.lt_trans B H,OF _ _ _ _ (uR B)];exact keep b u q
  .rw[M.length_eq,af,I]
def ir(p:X.w=w)(C:X.calm=Nf):dq X (.builtin "sorted") (λus H Q=>∃(a:Jr)(zs L:Nt Int),us=[.ref a]/\H a=Nc (vM w a zs)/\L.length<=1000/\(∀k∈zs,k∈L) /\
  ∀(D:Jr)(d:Nt Int),H D=Nd->d.Pairwise (· < ·)->(∀k,k∈d↔k∈zs)->Q (.ref D) (upd H D<|.lst<|d.map pi)):=by
 subst p;intro l s P H us R Q I r h;let(a,zs,L,rfl,e,T,v,q):=h;let(u,rfl,n):=r.one;obtain rfl:u=io a:=n;let((m,x),_,_):=I.hok a _ e;let A:m<=1000:=by
  let(o,W,Y,t,_,_,_,i,_,_,_,_,y):=id x;let:=cB (L:=L) i.nd λk B=>v k<|(i.mem k).mpr B
  rw[af,D0,y]at this;lia
 refine uf (I.ok.hd C) x A λd us S D c O N M j K J G F Z=>?_
 let E:H D=none:=I.hok.fresh j;refine(.ref D,upd H D<|.lst<|d.map pi,I.grow K G F (λb g=>by rw[aw (uR<|u7 g j)]) (λb u g f=>?_),U,q D d E N M,);by_cases z:b=D
 .subst z;rw[ae]at f;cases f;exact(by rw[af,K1];lia,us,c,O,J,)
 .rw[aw z,I.hok.fresh g]at f;cases f
def  Ite(K:am)(a:Jr):It :=
 (λi H=>∃b x,SqL K H a b/\b[i]?=Nc x,
 λi H v c=>∃T,H T=Nd/\v=.ref T/\∀b x,SqL K H a b->b[i]?=Nc x->c=upd H T (.tup [.int i,x]),
 λi H=>∃b,SqL K H a b/\⇑b<=i,)
def  zR(e it a:Jr)(i:Nat)(h:JD):Prop:=(∃b,IsEnum h e it i b)/\h.IsListIter it a i
def yb{P:Jl}{w:Je}{K:am}{p:Nt Ke} {x1} {tp:Pos}{e it a:Jr}(m:e≠it) :
  Turn P w K (.Tuple p x1 tp) (Ite K a) [e,it] e (zR e it a) where
 mem:=by simp
 obj:=λi h d c b=>by
  let((f,l),(o2,j,_,d2)):=d;simp only[ax,ja,or_false]at b;rcases b with rfl|rfl
  .exact⟨_,l,λv q=>nomatch q⟩
  .exact⟨_,j,λv q=>by rw[d2]at q;cases q⟩
 keep:=λi h h' d k=>by
  let((f,l),j):=d;exact((f,k e (by simp) _ l,),j.at λo q=>k it (by simp) o q,)
 item:=by
  intro X D B F b i n s R H E I t d C;subst D B F;let(S,x,r,O):=C;let((f,l),j):=d;let(V,z,A,_):=I.list r;let(u,eu,Y):=z.get O;refine wpAny_pyNext_enum_item l j A.isList (x:=u) (~~~eu) m λh1 a1 a2 a3 a4 a5=>?_
  calc(_,U,wpAny_letOwnedTupleGo_enum (s:={ s with heap:=h1,toks:=s.toks+1 }) a1 λG b1 b2=>?_,);let nT:s.heap.get? ↥s=none:=by
   cases q:s.heap.get? ↥s with
   |none=>rfl
   |some o=>exact Nl (bi q) (v5 _)
  let N:H ↥s=none:=I.hok.fresh<|uN _;let M:↥s≠e:=vo<|bi l;let kk:∀c o,c ∉ [e,it]->s.heap.get? c=Nc o->G.get? c=Nc o:=λc o b q=>by
   simp only[ax,ja,or_false,not_or]at b;exact b2.extBut _ _ b.1<|a5 c o b.1 b.2 q
  let J:=I.turnedPair (h':=G) (ch:=[e,it]) (T:=↥s) (x:=.int i) (y:=x) (u:=.int i s.toks) (v:=u) (λc b=>t c (by simp at b⊢;rcases b with q|q <;> simp[q])) kk nT N (b2.extBut _ _ M a3) (_,U,) Y;refine(.ref ↥s,upd H ↥s<|.tup [.int i,x],J.tok _,U,(_,N,U,λa0 x' Z Q=>?_,),((_,b1,),a2.extBut b2.extBut m.symm,),λc b=>?_,)
  .rw[I.list_inj Z r,O]at Q;cases Q;rfl
  .let h0:=(t c b).1;let:c≠↥s:=by
    let(o2,L,_):=j;simp only[ax,ja,or_false]at b;rcases b with rfl|rfl
    .exact M.symm
    .exact uR<|bi L
   rw[aw this];exact h0
 done:=by
  intro X D B F b i n s R H E I t d C;subst D B F;let(S,r,hl):=C;let((f,l),j):=d;let(V,z,A,_):=I.list r;let l1:=⇑z;refine wpAny_pyNext_enum_end (I.ok.hd b) l j A.isList (by simp;lia) λG k=>⟨U,I.turnedL (ch:=[e,it]) (λc b=>t c (by simp at b⊢;rcases b with q|q <;> simp[q])) λc o b q=>?_⟩
  simp only[ax,ja,or_false,not_or]at b;exact k c o b.2 q
 self:=λ_ _ _ _ _ d h=>let ⟨⟨_,g⟩,_⟩:=d;M8 g h
inductive zS(K:am)(R:It->Qd)(vs:Nt V)(H1:Hp):Prop
 |mk (a:_)(_:vs=[.ref a])(_:(∃xs,SqL K H1 a xs))(_:R (Ite K a) H1)
def  Fc(K:am)(c:TA):TI:=λa H R=>c a H λb d=>zS K R b d
def Bt{g:Ke}{k:TA}{p pos:Pos}{f:Nt Ke} {x1} {tp:Pos}(A:Gl X "enumerate") (hm:X.mg "enumerate" = Nd) (B:PA X [g] k)
  (z:Kh [g] X.env=[(Ng,eval g X.env)]:=by rfl) :
  PI X (.Tuple f x1 tp) (.Call (.Name "enumerate" p) [g] [] pos) (Fc X.K k):=by
 intro e s m H R I h;refine Call_ (iP I A hm PyProof.Rows.boot_enumerate<|mo (thn (B pos e s m H _ I h) λr b (G,D,i,v,x,)=>?_) (by rw[z];rfl) U);let(a,rfl,(F,w),q):=x;let(u,rfl,t):=v.one;cases (show u=io a from t);let(r,_,y,_):=i.list w;refine call_enumerate_list y.isList λC j o E n=>?_
 calc M8 (s:={ b with heap:=C }) j ?_;calc(↥b+1,[↥b+1,↥b],zR (↥b+1) ↥b a,Ite X.K a,D,U,i.kept (t':=b.toks) n,yb<|vo<|wm _,((_,j,),o,),λc l=>?_,q,);let d:↥b<=c:=by
  simp only[ax,ja,or_false]at l;rcases l with rfl|rfl
  .exact v3 _
  .exact uN _
 calc i.fpOk d<|i.hok.fresh d
variable{gt:TG}{k:Nat}{fr:Nt Nat}{tt:TT}{te:TE}
def vR{K:am}{a:Jr}{xs:Nt V}(c:Jr->Nat->Nt V->Qd)(u:∀D,f D=Nd->c D 0 [] (upd f D<|.lst []))
  (s:∀D i ys H,f D=Nd->i<=⇑xs->c D i ys H->SqL K H a xs)
  (r:∀D i x ys H T,f D=Nd->xs[i]?=Nc x->c D i ys H->H T=Nd->∀ts:St,⇑ts=k->gt (.ref T) (dD j fr ts) (upd H T<|.tup [.int i,x]) λd v=>(∃g:St,⇑g=k/\d=dD j fr g)/\tt d v λb o=>if b=Nf then te d o (dR c D i ⇑xs)else eP c D i ⇑xs o)
  (hd:∀D ys H,f D=Nd->c D ⇑xs ys H->Q (.ref D) H):jR (Ite K a) gt k fr tt te j Q f:=by
 intro D h;calc(λi m H=>m=⇑xs-i/\i<=⇑xs/\∃ys,c D i ys H,(_,U,ve _,[],u D h,),?_,);rintro i m H ⟨rfl,hi,ys,p⟩;let q:=s D i ys H h hi p;by_cases n:i<⇑xs
 .let l:xs[i]?=Nc xs[i]:=JO n;calc .inr ((xs,xs[i],q,l,),λx w y=>?_,);let(T,t,rfl,e):=y;rw[e xs _ q l];exact r D i _ ys _ T h l p t
 .let e:i=⇑xs:=∅
  subst e;calc .inl ((xs,q,uN _,),hd D ys H h p,)
def yc{K:am}{a b:Jr}{xs ys:Nt V}(c:Jr->Nat->Nt V->Qd)(v:∀D,f D=Nd->c D 0 [] (upd f D<|.lst []))
  (t:∀D i zs H,f D=Nd->i<=min ⇑xs ⇑ys->c D i zs H->SqL K H a xs/\SqL K H b ys)
  (s:∀D i x y zs H T,f D=Nd->xs[i]?=Nc x->ys[i]?=Nc y->c D i zs H->H T=Nd->∀ts:St,⇑ts=k->gt (.ref T) (dD j fr ts) (upd H T<|.tup [x,y]) λd w=>(∃g:St,⇑g=k/\d=dD j fr g)/\tt d w λb r=>if b=Nf then te d r (dR c D i<|min ⇑xs ⇑ys)else eP c D i (min ⇑xs ⇑ys) r)
  (hd:∀D zs H,f D=Nd->c D (min ⇑xs ⇑ys) zs H->Q (.ref D) H):jR (Itz K a b) gt k fr tt te j Q f:=by
 intro D h;calc(λi m H=>m=min ⇑xs ⇑ys-i/\i<=min ⇑xs ⇑ys/\∃zs,c D i zs H,(_,U,ve _,[],v D h,),?_,);rintro i m H ⟨rfl,hi,zs,p⟩;let(n,l):=t D i zs H h hi p;by_cases z:i<min ⇑xs ⇑ys
 .let q:xs[i]?=Nc xs[i]:=JO ∅;let o:ys[i]?=Nc ys[i]:=JO ∅;calc .inr ((xs,ys,xs[i],ys[i],n,l,q,o,),λx A y=>?_,);let(T,u,rfl,e):=y;rw[e xs ys _ _ n l q o];exact s D i _ _ zs _ T h q o p u
 .let e:i=min ⇑xs ⇑ys:=∅
  subst e;calc .inl ((xs,ys,n,l,∅,),hd D zs H h p,)
def ft{X:Cx}{N:Nt Str}{k:Nat}{fr:Nt Nat}{scope:JZ}{cl:Nt (Str×Jr)}(clos:LA scope X.env=pure cl)(kind:scope.kind=.function)(a:∀y∈scope.names,y.2≠.cell)
  (names:∀y∈scope.names,y.2=.local->scope.names.lookup y.1=Nc .local)(len:N.length=k+⇑fr)
  (sub:((db ⇑fr).all λi=>match N[k+i]?,fr[i]? with|some y,Nc j=>(X.N[j]? == Nc y) && ((X.env.kindOf y == Nc .cell) && ((relabel scope X.env).names.lookup y == Nc .cell))|_,_=>Ng)=Nf)
  (cells:∀p∈cl,X.env.cells.lookup p.1=Nc p.2)(b:((relabel scope X.env).names.all λp=>(p.2 != .cell && p.2 != .free) || (cl.lookup p.1).isSome)=Nf):oG X N k fr scope cl:=by
 refine(clos,kind,a,names,len,λi y e=>?_,λy c e=>cells _<|mem_of_lookup e,λy h=>?_,)
 .let hi:i<⇑fr:=by have:=(JP.mp e).1;lia
  let z:=jF.mp sub i<|hE.mpr hi;rw[e,JO hi]at z;simp only[EY,beq_iff_eq]at z;exact(_,JO hi,z.1,.inl z.2.1,.inl z.2.2,)
 .let look:∀k,(relabel scope X.env).names.lookup y=Nc k->(k=.cell\/k=.free)->∃c,cl.lookup y=Nc c:=λk e d=>by
   let z:=jF.mp b _<|mem_of_lookup e;rcases d with rfl|rfl
   .exact Gz.mp<|~~~z
   .exact Gz.mp<|~~~z
  rcases h with h|h
  .exact look _ h<|.inl U
  .exact look _ h<|.inr U
def yd{K:am}(g:X.K=K)(f:PE X a c)(e:∀b,Kf a X.env b=(do let v ←b;Kn a.pos;holding [v] (truthy v)):=by intro _;rfl) :
  PT X a (λd H Q=>c d H λx H'=>∃k,C8 K x H' k/\Q k H'):=g ▸ dH f e
variable{tg:Ke}{pos:Pos}{scope:JZ}{N:Nt Str}
section
variable{elt iter:Ke}{ifs:Nt Ke}{cl:Nt (Str×Jr)}
def zT{E:TI}{i:Nat}{y:Str}{d B:Pos}(hN:X.N.Nodup)(F:X.N[i]?=Nc y)(S:Loc X.env.scope y)(hi:PI X tg iter E)(O:oG X N k fr scope cl)(Z:X.calm=Nf)(V:∀f C s H,PG (bN X N scope cl f C s H) tg gt)
  (G:∀f C s H,PIf (bN X N scope cl f C s H) ifs tt)(Y:∀f C s H,PE (bN X N scope cl f C s H) elt te)(K:∀v,KS iter X.env v=pure v:=by intro _;rfl)
  (n:Kr (.ListComp elt [(tg,iter,ifs,0,)] scope pos) (Nc<|.Name y d) B.line X.env=pure true:=by rfl)(W:X.fn y=Nf\/X.env.scope.names.lookup y=Nc .local:=by first|exact .inl U|exact .inr U|assumption) :
  PS X (.Assign [.Name y d] (.ListComp elt [(tg,iter,ifs,0,)] scope pos) B) (AY (zq E gt k fr tt te)<|qN i):=by
 intro b s x H j I h;rw[LM _ _ _ _ n];calc GS<|Kw<|GS ?_;show Kc _ X.A (do let _ ←comprehension (.ListComp elt [⟨tg,iter,ifs,0⟩] scope pos) scope X.env _ (LD []) Ng (eval iter X.env) (Nc<|assign (.Name y d) X.env)) _ _ s;calc GS<|Kj (LK (use:=Nc<|assign (.Name y d) X.env) (Q:=λ_ c=>SP X b j .next c) U K O.clos O.kind O.names<|thn (hi b s x H _ I h) λv s1 h1=>thn h1 λa0 s2 h2=>?_) (λ_ c L=>GU<|GU L) λ_ _ z=>z;let(it,f,tn,J,H2,e,g,T,l,f2,hW):=h2;subst e;refine oH (Q:=λv H1=>qN i v x H1 j.nx) (RR:=λu C=>LL (model X.prog X.w) X.A X.xe (Nc<|assign (.Name y d) X.env) (λ_ c=>SP X b j .next c) u C) O Z g T l f2 G Y V hW λD C c H' hC P (m,R,) I' q=>?_
 show Kc _ X.A (assign (.Name y d) X.env<|.ref D) _ _ c;calc Kv<|mC I' hN F S (v:=.ref D) U (λs3 I3 (a,p,ha,)=>?_) W;let t:C≠a:=by
  rcases ha with z|z
  .rw[z];exact vo<|u7 g.lt hC
  .let(v,o,M,_):=g.cell y a z;exact vo<|u7 (bi M) hC
 calc(m,R.sameBut p t,λh' r=>(_,H',g.left I3 hC P r,q,),)
end
set_option maxRecDepth 100000
def Dz:PIp X .Mult (λx y H Q=>∃i j,x=.int i/\y=.int j/\IntMulOk i j/\Q (.int<|i*j) H):=by
 intro a s g H x y v u Q I c b h;let(i,j,f,e,d,q):=h;subst f;subst e;let(t,rfl):=c;let(k,rfl):=b;exact PyProof.Rows.imul_int (.int _,H,I.tok _,(_,U,),q,) d
set_option maxRecDepth 100000
def zU{K:am}(h:X.K=K):SlR X (Dh K):=h ▸ fh
structure GA(X:Cx)(N:Nt Str)(k:Nat)(fr:Nt Nat)(scope:JZ)(cl:Nt (Str×Jr)):Prop where
 clos:LA scope X.env=pure cl
 kind:scope.kind=.function
 names:∀y∈scope.names,y.2=.local->scope.names.lookup y.1=Nc .local
 len:N.length=k+⇑fr
 sub:∀(i:Nat)(y:Str),N[k+i]?=Nc y->∃j,fr[i]?=Nc j/\X.N[j]?=Nc y/\(X.env.kindOf y=Nc .cell\/X.env.kindOf y=Nc .free)/\((relabel scope X.env).names.lookup y=Nc .cell\/(relabel scope X.env).names.lookup y=Nc .free)/\∃c,cl.lookup y=Nc c/\∀C:Jr,(Lh (C+1) scope.names cl).lookup y=Nc c
 cells:∀y c,cl.lookup y=Nc c->X.env.cells.lookup y=Nc c
 has:∀(C:Jr)(y:Str),((relabel scope X.env).names.lookup y=Nc .cell\/(relabel scope X.env).names.lookup y=Nc .free)->∃c,(Lh (C+1) scope.names cl).lookup y=Nc c
section
variable{elt iter:Ke}{ifs:Nt Ke}{cl:Nt (Str×Jr)}
end
section
variable{st b₀:Ki}{su:Nt Ki}{tb:TSX}{ts:Jr->Jr->TS}{Tn:Str}{B:Jr}{np Bg:Pos}
end
def zV(bs:Nt Bool):(db ⇑bs).any (λi=>bs.getD i Nf)=bs.any id:=by
 rw[lc,pA,pA];constructor
 .rintro⟨i,hi,h⟩;let a:=hE.mp hi;exact(bs[i],NB a,by simpa[en,a]using h,)
 .rintro⟨b,c,h⟩;let(i,hi,rfl):=Ol c;calc(i,hE.mpr hi,by simpa[en,hi]using h,)
def rC{K:am}{a:Jr}{xs:Nt V}(c:Jr->Nat->Nt V->Qd)(s:∀D,f D=Nd->c D 0 [] (upd f D<|.lst []))
  (r:∀D i ys H,f D=Nd->i<=⇑xs->c D i ys H->SqT K H a xs)
  (o:∀D i x ys H,f D=Nd->xs[i]?=Nc x->c D i ys H->∀ts:St,⇑ts=k->gt x (dD j fr ts) H λd t=>(∃g:St,⇑g=k/\d=dD j fr g)/\tt d t λb n=>if b=Nf then te d n (dR c D i ⇑xs)else eP c D i ⇑xs n)
  (hd:∀D ys H,f D=Nd->c D ⇑xs ys H->Q (.ref D) H):jR (Itt K a) gt k fr tt te j Q f:=by
 intro D h;calc(λi m H=>m=⇑xs-i/\i<=⇑xs/\∃ys,c D i ys H,(_,U,ve _,[],s D h,),?_,);rintro i m H ⟨rfl,hi,ys,p⟩;let q:=r D i ys H h hi p;by_cases l:i<⇑xs
 .refine .inr ((xs,xs[i],q,by simp[l],),λx u y=>?_,);let(e,y):=y;subst e;exact o D i x ys _ h (y xs q) p
 .let e:i=⇑xs:=∅
  subst e;calc .inl ((xs,q,uN _,),hd D ys H h p,)
abbrev TTh:HO:=.ext λ_=>True
def ug(e:h.get? a=Nc o):cS P w H h a (.frz o TTh):=(e,trivial,(o,e,),λ_ _ _ _=>trivial,)
def  hideL(H:Hp)(cs:Nt Jr):Hp:=λb=>if b∈cs then Nd else H b
def  gB(H:Hp)(fz:Nt (Jr×Obj)):Hp:=λb=>match fz.lookup b with
 |some o=>Nc<|.frz o TTh
 |none=>H b
def  backL(H H':Hp)(cs:Nt Jr):Hp:=λb=>if b∈cs then H b else H' b
def jx(h:b∈cs):hideL H cs b=none:=Nk h
def bG(h:b ∉ cs):hideL H cs b=H b:=Nj h
def oY(h:b∈cs):backL H H' cs b=H b:=Nk h
def dk(h:b ∉ cs):backL H H' cs b=H' b:=Nj h
def eV(h:H b=Nd):hideL H cs b=none:=by
 unfold hideL;split
 .rfl
 .exact h
def vS(h:hideL H cs b=Nc o):b ∉ cs/\H b=Nc o:=by
 unfold hideL at h;split at h
 .cases h
 .rename_i n
  calc(n,h,)
def  Fzs(H:Hp)(cs:Nt Jr):Prop:=∀c∈cs,∃o,H c=Nc (.frz o TTh)
def Fzs.out(h:Fzs H cs)(e:H b=Nc u)(n:∀o,u≠.frz o TTh):b ∉ cs:=λz=>by
 let(o,q):=h b z;rw[e]at q;calc n o<|bn q
variable{P:Jl}{H:Hp}
section
variable{H':Hp}{h h':JD}{cs:Nt Jr}
def HOk.hideL(x:HOk P w H h)(f:Fzs H cs):HOk P w (hideL H cs) h:=λb o e=>by
 let(n,e):=vS e;refine(x b o e).stay (λ_ _ _ q=>q) (λc q=>?_) λc a q=>?_
 .rw[bG (f.out q λ_ z=>by cases z)];exact q
 .rw[bG (f.out q λ_ z=>by cases z)];calc q
def HOk.backL(x:HOk P w H' h')(f:Fzs H cs)(n:∀c∈cs,H' c=Nd)(k:∀c∈cs,∀o,H c=Nc (.frz o TTh)->h'.get? c=Nc o):HOk P w (backL H H' cs) h':=λb o e=>by
 by_cases a:b∈cs
 .rw[oY a]at e;let(d,q):=f b a;rw[q]at e;cases e;exact ug<|k b a d q
 .rw[dk a]at e;let out:∀{c:Jr}{u:HO},H' c=Nc u->c ∉ cs:=λ{c u} q z=>by rw[n c z]at q;cases q
  refine(x b o e).stay (λ_ _ _ q=>q) (λc q=>?_) λc g q=>?_
  .rw[dk (out q)];exact q
  .rw[dk (out q)];calc q
def gb(s:au (hideL H cs) H'):au H (backL H H' cs):=λb o e=>by
 by_cases a:b∈cs
 .rw[oY a];exact e
 .rw[dk a];calc s b o (by rw[bG a];exact e)
end
section
variable{fs:Nt Jr}{H':Hp}{h h':JD}{cs:Nt Jr}
def Un.backL(u:Un fs [] (hideL H cs) H' h h')(f:Fzs H cs):Un fs [] H (backL H H' cs) h h' where
 keep:=λb o e n a c=>u.keep b o e (eV n) a c
 slot:=λb o e n a c=>u.slot b o e (eV n) a c
 free:=λb o e n c=>by
  let:b ∉ cs:=λz=>by let(i,q):=f b z;rw[n]at q;cases q
  rw[dk this];exact u.free b o e (eV n) c
 there:=u.there
 tups:=λb d e=>by
  let a:=f.out e λ_ z=>by cases z
  rw[dk a];exact u.tups b d (by rw[bG a];exact e)
 frzs:=λb o v e=>by
  by_cases a:b∈cs
  .rw[oY a];exact e
  .rw[dk a];exact u.frzs b o v (by rw[bG a];exact e)
 tbls:=λb g e=>by
  let a:=f.out e λ_ z=>by cases z
  rw[dk a];calc u.tbls b g (by rw[bG a];exact e)
end
def  uh(b:Obj)(qual:Str):Prop:=∃a t,b.data=.fields a/\a[1]?=Nc (.str qual t)
structure mR(N ps:Nt Str)(sc:JZ)(cl:Nt (Str×Jr)):Prop where
 kind:sc.kind=.function
 co:sc.isCoroutine=Ng
 gen:sc.isGenerator=Ng
 nd:N.Nodup
 pre:N.take ⇑ps=ps
 par:∀x∈ps,sc.names.lookup x=Nc .local
 nocell:∀y∈sc.names,y.2≠.cell
 has:∀y∈sc.names,y.2=.free->∃c,cl.lookup y.1=Nc c
def  cxC(CX:CXT)(P:Jl)(w:Je)(K:am)(mg:Str->Option I1)(base:JD)(N:Nt Str)(qual:Str)(scope:JZ)(f:Jr)(b:I1)(cl:Nt (Str×Jr))(A:JX)(outer:Nt Env)(s:JY)(H:Hp)(E:XK):Cx where
 prog:=P
 w:=w
 K:=K
 mg:=mg
 base:=base
 A:=A.deeper (Pb qual scope ↥s f b cl)
 N:=N
 s₀:=s
 H₀:=hideL H (cl.map (·.2))
 env:=Pb qual scope ↥s f b cl
 outer:=outer
 stack:=Pb qual scope ↥s f b cl :: outer
 ex:=[]
 calm:=Nf
 fn:=λ_=>Ng
 pn:=[]
 xe:=λe c=>Kc (model P w) (A.deeper<|Pb qual scope ↥s f b cl) (leaving (Pb qual scope ↥s f b cl) e) (λ_ a=>CX outer H s E e a) (λd a=>CX outer H s E d a) c
def  fN(H:Hp)(cl:Nt (Str×Jr))(ws:Nt (Str×V)):Prop :=
 (∀c∈cl.map (·.2),∃o v,H c=Nc (.frz o TTh)/\o.data=.cell v)/\∀(x:Str)(v:V),ws.lookup x=Nc v->∃c o u,cl.lookup x=Nc c/\H c=Nc (.frz o TTh)/\o.data=.cell (Nc u)/\RelV v u
def fN.fzs(h:fN H cl ws):Fzs H (cl.map (·.2)):=λc a=>let ⟨o,_,e,_⟩:=h.1 c a;(o,e,)
def fN.same{H H':Hp}{cl:Nt (Str×Jr)}{ws:Nt (Str×V)}(h:fN H cl ws)(s:au H H'):fN H' cl ws :=
 (λc f=>let ⟨o,v,e,d⟩:=h.1 c f;(o,v,s _ _ e,d,),λx v e=>let ⟨c,o,u,a,b,d,r⟩:=h.2 x v e;(c,o,u,a,s _ _ b,d,r,),)
def  mS(N ps:Nt Str)(vs:Nt V)(ws:Nt (Str×V)):St:=vs.map Nc++(N.drop ⇑ps).map λx=>ws.lookup x
def oZ{cl:Nt (Str×Jr)}(h:cl.lookup x=Nc c):c∈cl.map (·.2):=cU.mpr ((x,c),mem_of_lookup h,U,)
def vT{ps:Nt Str}{us:Nt I1}{i:Nat}{y:Str}{u:I1}(d:ps.Nodup)(g:ps[i]?=Nc y)(f:us[i]?=Nc u)(h:⇑us=⇑ps):(ps.zip us).reverse.lookup y=Nc u:=by
 let c:((ps.zip us).map (·.1)).Nodup:=by rw[pW ∅];exact d
 rw[PySem.lookup_reverse_of_nodup _ c];let b:(y,u)∈ps.zip us:=by
  let:(ps.zip us)[i]?=Nc (y,u):=by rw[pY];exact(g,f,)
  exact JQ this
 cases e:(ps.zip us).lookup y with
 |none =>
  exact Nl b (by
   intro b;let:=NZ.mp e (y,u) b;simp at this)
 |some v =>
  let:=mem_of_lookup e;let(j,a):=kY this;rw[pY]at a;let:=jk d a.1 g;subst this;rw[f]at a;rw[bn a.2]
def  HFn(P:Jl)(w:Je)(K:am)(mg:Str->Option I1)(base:JD)(k:Nat)(f:Jr)(sp:Sp):Prop:=∃b a,aL P w K mg base CX0 k f b a sp/\Binds K b a []
def  FnO(H:Hp)(f:Jr):Prop:=∃o a,H f=Nc (.frz o TTh)/\o.data=.func a
variable{i:Nat}{x:Str}{e:Ke}{es:Nt Ke}{p:Pos}
section
variable{t:TA}
inductive zW(X:Cx)(k i:Nat)(t:TA)(σ:St)(H:Hp)(Q:VK):Prop
 |mk (f:Jr)(sp:Sp)(_:σ[i]?=Nc ↑f)(_:FnO H f)(_:HFn X.prog X.w X.K X.mg X.base k f sp)(_:t σ H λvs H1=>FnO H1 f/\sp vs H1 Q E0)
def sv(K:bV k X.A)(O:X.N[i]?=Nc x)(J:Vis X.env.scope x)(M:PA X (e :: es) t)(hd:(x == ("__debug__" : Str))=false:=by decide) (j:(x == ("__classdict__" : Str))=false:=by decide)
  (he:Kh (e :: es) X.env=(Ng,eval e X.env) :: Kh es X.env:=by rfl)(g:(Kg pos<|Kh es X.env).any (·.1)=false:=by rfl):PE X (.Call (.Name x p) (e :: es) [] pos) (zW X k i t):=by
 intro a s c H Q I h;let(f,sp,R,P,(m,pn,F,L),h):=h;let b:∀{H:Hp}{s:JY}{c:St},Inv X a c H s->FnO H f->W.FnAt f s.heap:=λS (o,m,e,d,)=>by
  let:=(S.hok f _ e).1;let(G,D,dt,r):=o;simp only at d;subst d;exact(G,D,m,r,this,)
 calc GW<|thn (uX O J hd j a s c H (λv V=>v=.ref f/\V=H) I<|qg.of R (U,U,)) λu w (v,T,q,z,C,)=>?_;let(rfl,rfl):=C;cases (show u=io f from z);calc W.callWith_F (b q P) (thn (M pos a w c T _ q h) λZ s2 (Y,H2,n,y,l,B,)=>(b n l,?_,)) he g;calc rR (E:=E0) (dvs:=[]) (ds:=[]) F K L .nil bC n y (by rw[ik];exact B)
end
variable{Ni:Nt (Jr×Obj)}{σ:St}
def bP(h:b ∉ fz.map (·.1)):gB H fz b=H b:=by
 unfold gB;cases e:fz.lookup b with
 |none=>rfl
 |some o=>calc Nl (cU.mpr ((b,o),W.mem_of_lookupK e,U,)) h
def eH(h:b∈fz.map (·.1)):∃o,(b,o)∈fz/\gB H fz b=Nc (.frz o TTh):=by
 unfold gB;cases e:fz.lookup b with
 |none =>
  let((c,o),a,rfl):=cU.mp h;let:=NZ.mp e _ a;simp at this
 |some o=>calc(o,W.mem_of_lookupK e,U,)
structure mT(X:Cx)(s:JY)(fz:Nt (Jr×Obj)):Prop where
 cell:∀p∈fz,∃x,X.env.cells.lookup x=Nc p.1
 nb:∀p∈fz,X.base.get? p.1=Nd
 nf:∀p∈fz,p.1 ∉ X.fs
 at_:∀p∈fz,s.heap.get? p.1=Nc p.2
def mT.free(z:mT X s fz)(I:Inv X Ni σ H s):∀b∈fz.map (·.1),H b=none:=λb c=>by
 let(p,a,rfl):=cU.mp c;let(x,e):=z.cell p a;calc I.freeC x _ e
def mT.hok(z:mT X s fz)(I:Inv X Ni σ H s):HOk X.prog X.w (gB H fz) s.heap:=λb u e=>by
 by_cases a:b∈fz.map (·.1)
 .let(o,c,q):=eH (H:=H) a;rw[q]at e;cases e;exact ug<|z.at_ _ c
 .rw[bP a]at e;let out:∀{d:Jr}{u:HO},H d=Nc u->gB H fz d=Nc u:=λ{d u} q=>by
   rw[bP λm=>by rw[z.free I d m]at q;cases q];exact q
  calc(I.hok b u e).stay (λ_ _ _ q=>q) (λd q=>out q) λd f q=>out q
def mT.env0(z:mT X s fz)(I:Inv X Ni σ H s):tH X.prog X.w X.K X.mg X.base X.A X.stack s (gB H fz):=by
 let e:=I.env0;refine(e.frames,e.mod,λb o q=>((e.bs b o q).1,?_,),e.bsz,e.funs,λb c=>?_,z.hok I,e.bare,)
 .rw[bP λm=>?_]
  .exact(e.bs b o q).2
  .let(p,a,rfl):=cU.mp m;rw[z.nb p a]at q;cases q
 .rw[bP λm=>?_]
  .exact e.frf b c
  .let(p,a,rfl):=cU.mp m;rcases ax.mp (I.stkSub _ c)with q|q
   .let(x,d):=z.cell p a;exact I.cne x _ d q
   .exact z.nf p a q
def Inv.cellNew(I:Inv X Ni σ H s)(e:X.env.cells.lookup x=Nc c)(d:X.fn x=Nf):X.base.get? c=Nd/\c ∉ X.fs:=by
 let a:=I.ok.cab x c d e;calc(Ou<|uU I.ok.bsz a,λq=>?_,);let(_,o,b,_):=I.ok.funs.mem q;calc Nl (bi b)<|N6.mpr a
def mT.after(z:mT X s fz)(I:Inv X Ni σ H s)(h:CE X.stack X.prog X.w (gB H fz) s (λv k=>Q v (hideL k (fz.map (·.1)))) u s'):EP X Ni σ Q u s':=by
 let(v,k,B,j,un,hok,r,q):=h;let fzs:Fzs k (fz.map (·.1)):=λc C=>by
  let(o,_,e):=eH (H:=H) C;exact(o,un.frzs c o _ e,)
 let out:∀{d:Jr}{u:HO},H d=Nc u->d ∉ fz.map (·.1):=λ{d u} q m=>by rw[z.free I d m]at q;cases q
 refine(v,hideL k (fz.map (·.1)),I.call' (ch:=[]) B (λb o e n g f=>?_,λb o e n g f=>?_,λb o e n f=>?_,un.there,λb x e=>?_,λb o y e=>?_,λb A e=>?_,) (hok.hideL fzs) j<|λb g=>Nl g (by simp),r,q,)
 .by_cases a:b∈fz.map (·.1)
  .let(p,t,l):=eH (H:=H) a;let:=(hok b _<|un.frzs b p _ l).1;let i:=z.at_ _ t;rw[e]at i;cases i;exact this
  .exact un.keep b o e (by rw[bP a];exact n) g f
 .by_cases a:b∈fz.map (·.1)
  .let(p,t,l):=eH (H:=H) a;let:=(hok b _<|un.frzs b p _ l).1;let i:=z.at_ _ t;rw[e]at i;cases i;exact(_,this,)
  .exact un.slot b o e (by rw[bP a];exact n) g f
 .by_cases a:b∈fz.map (·.1)
  .exact jx a
  .rw[bG a];exact un.free b o e (by rw[bP a];exact n) f
 .let a:=out e;rw[bG a];exact un.tups b x (by rw[bP a];exact e)
 .let a:=out e;rw[bG a];exact un.frzs b o y (by rw[bP a];exact e)
 .let a:=out e;rw[bG a];calc un.tbls b A (by rw[bP a];exact e)
variable{ps:Nt Str}{sp:Sp}
section
variable{t:TA}
def  tZ(zs:Nt (Str×Nat×Jr))(sp:Sp)(t:TA):TE:=λσ H Q=>t σ H λc b=>∀a:Nt Obj,⇑a=⇑zs->(∀z∈zs,b z.2.2=Nd) ->
 (∀(j:Nat)(z:Str×Nat×Jr),zs[j]?=Nc z->∃o w,a[j]?=Nc o/\o.data=.cell w/\∀v,σ[z.2.1]?=Nc (Nc v)->∃u,w=Nc u/\RelV v u) ->
 sp c (gB b ((zs.map (·.2.2)).zip a)) (λv d=>Q v (hideL d (zs.map (·.2.2)))) E0
def mU(I:Inv X Ni σ H s):∀(zs:Nt (Str×Nat×Jr)),(∀z∈zs,X.N[z.2.1]?=Nc z.1/\(X.env.scope.names.lookup z.1=Nc .cell\/X.env.scope.names.lookup z.1=Nc .free)/\X.env.cells.lookup z.1=Nc z.2.2/\(X.fn z.1=Nf\/(X.base.get? z.2.2=Nd/\z.2.2 ∉ X.fs))) ->
  ∃f:Nt Obj,⇑f=⇑zs/\(∀(j:Nat)(z:Str×Nat×Jr),zs[j]?=Nc z->∃o w,f[j]?=Nc o/\s.heap.get? z.2.2=Nc o/\o.data=.cell w/\∀v,σ[z.2.1]?=Nc (Nc v)->∃u,w=Nc u/\RelV v u)
 | [],_=>([],U,λj z e=>by simp at e,)
 |z :: zs,h=>by
  let(f,y,x):=mU I zs λq a=>h q<|dz _ a
  let(A,b,n,E):=h z cF;let(w,o,e,d):=I.cell _ _ n;refine(o :: f,by rw[gE,gE,y],λj q a=>?_,)
  match j,a with
  |0,a =>
   cases a;calc(o,w,U,e,d,λv t=>?_,);let(m,D,B):=I.loc;let(u,r,l):=B _ _ v A t<|.inr b;rcases l with⟨g,_⟩|⟨_,c,k,C,p,i⟩
   .let g:X.env.scope.names.lookup z.1=Nc .local:=g;rcases b with b|b <;> rw[b]at g <;> cases g
   .rw[n]at k;cases k;rw[e]at p;cases p;rw[d]at i;injection i with i;exact(u,i,r,)
  |j+1,a=>calc x j q (~~~a)
def zX{s:JY}{zs:Nt (Str×Nat×Jr)}{g:Nt Obj}(I:Inv X Ni σ H s)
  (hz:∀z∈zs,X.N[z.2.1]?=Nc z.1/\(X.env.scope.names.lookup z.1=Nc .cell\/X.env.scope.names.lookup z.1=Nc .free)/\X.env.cells.lookup z.1=Nc z.2.2/\(X.fn z.1=Nf\/(X.base.get? z.2.2=Nd/\z.2.2 ∉ X.fs)))(n:⇑g=⇑zs)
  (k:∀(j:Nat)(z:Str×Nat×Jr),zs[j]?=Nc z->∃o w,g[j]?=Nc o/\s.heap.get? z.2.2=Nc o/\o.data=.cell w/\∀v,σ[z.2.1]?=Nc (Nc v)->∃u,w=Nc u/\RelV v u):mT X s ((zs.map (·.2.2)).zip g):=by
 let b:∀p∈(zs.map (·.2.2)).zip g,∃z∈zs,z.2.2=p.1/\s.heap.get? p.1=Nc p.2:=λp a=>by
  let(j,d):=kY a;rw[pY,fi]at d;cases ez:zs[j]? with
  |none=>rw[ez]at d;cases d.1
  |some z =>
   rw[ez]at d;let i:z.2.2=p.1:=bn d.1;let(o,w,h,m,_):=k j z ez;rw[d.2]at h;cases h;exact(z,JQ ez,i,i ▸ m,)
 let new:∀z∈zs,X.base.get? z.2.2=Nd/\z.2.2 ∉ X.fs:=λz c=>by
  let(_,_,l,f):=hz z c;rcases f with f|f
  .exact I.cellNew l f
  .exact f
 refine(λp a=>?_,λp a=>?_,λp a=>?_,λp a=>?_,)
 .let(z,c,e,_):=b p a;exact(z.1,e ▸ (hz z c).2.2.1,)
 .let(z,c,e,_):=b p a;rw[←e];exact(new z c).1
 .let(z,c,e,_):=b p a;rw[←e];exact(new z c).2
 .let(z,c,e,h):=b p a;calc h
def vU(C:Callee X.prog X.w X.K X.mg X.base k x ps sp)(P:bV k X.A)(S:Gl X x)(T:PA X (e :: es) t)(hz:∀z∈zs,X.N[z.2.1]?=Nc z.1/\(X.env.scope.names.lookup z.1=Nc .cell\/X.env.scope.names.lookup z.1=Nc .free)/\X.env.cells.lookup z.1=Nc z.2.2/\(X.fn z.1=Nf\/(X.base.get? z.2.2=Nd/\z.2.2 ∉ X.fs)))
  (v:(x == ("__debug__" : Str))=false:=by decide) (he:Kh (e :: es) X.env=(Ng,eval e X.env) :: Kh es X.env:=by rfl)(l:(Kg pos<|Kh es X.env).any (·.1)=false:=by rfl):PE X (.Call (.Name x p) (e :: es) [] pos) (tZ zs sp t):=by
 let(f,Z,F,b,O,m):=C;intro Ni s σ H Q I h;calc GW<|dM I S m ?_ v;calc EQ (h₀:=X.base) I.ok.mod.kin O (thn (T pos Ni s σ H _ I h) λg i (L,Y,a,r,q,)=>(a.kIn,?_,)) he l;let(B,G,E):=mU a zs hz;let J:((zs.map (·.2.2)).zip B).map (·.1)=zs.map (·.2.2):=pW (by rw[af];lia);let d:=zX a hz G E;let D:=q B G (λz R=>a.freeC z.1 _ (hz z R).2.2.1) λj z V=>let ⟨o,w,a1,_,a3,a4⟩:=E j z V;(o,w,a1,a3,a4,)
 let n:⇑g=⇑ps:=by rw[←⇑r];exact F.len _ _ _ _ D
 refine Lc (Ld (F.run X.A X.stack i _ (g,[],) g L _ E0 P (d.env0 a) (by have:=b i g a.kIn (by rw[ik];exact n);rw[ik]at this;exact this) r D) λM y c=>?_);cases M with
 |error e=>exact bC Ni σ Y i e y a c
 |ok fl =>
  cases fl with
  |ret u =>
   let c:CE X.stack X.prog X.w _ i _ u y:=c;calc d.after a ?_;rw[J];exact c
  |next=>exact lf c
  |brk=>exact lf c
  |cont=>calc lf c
end
def  zY(tabs:Nt (Jr×Jr))(H:Hp):Prop:=∀b,H b=Nd\/(∃o a,H b=Nc (.frz o<|.lst a))\/(b∈tabs.map (·.2)/\H b=Nc (.tbl #[]))
def yg{P:Jl}{w:Je}{K:am}{mg mb:Str->Option I1}{CX:CXT}{k:Nat}{fa a:Jr}{fd:K9}{x:Str}{sp:Sp}{c:JY}{vs:Nt I1}{L:Nt Int}{tabs:Nt (Jr×Jr)}
  (KX:K.In c.heap)(C:c.heap.Ns JU mg)(hb:c.heap.Ns JV mb)(a8:∀x:Str,x ≠ "__name__" -> mb x=JW x) (GC:c.heap.NoLimit)(hg:c.gens = #[])
  (G:c.heap.get? a=Nc { cls:=.type "list",data:=.seq vs.toArray }) (hi:IntsAre vs L)(hl:L.length<=JR)(hr:bV k Ly)
  (M:TabsAt tabs c.heap)(a6:noTabs K=Nf)(a7:∃bm A,mg "__builtins__" = ↑bm/\bm≠JV/\c.heap.get? bm=Nc A/\A.cls=.type "module" /\ A.dict=Nc JV/\A.data=.plain)
  (F:∀base:JD,K.In base->base.Ns JU mg->(∀q∈tabs,CodeHd base q.1 q.2/\base.BuiltinsAt mg q.2)->aL P w K mg base CX k fa fd [x] sp)(Fd:∀(s:JY)(u:I1),La s fd ([u],[],) [(x,u)])
  (a4:∀H:Hp,zY tabs H->SqL K H a (L.map pi)->(∀q∈tabs,H q.2=Nc (.tbl #[]))->sp [.ref a] H (λv _=>v=.bl Nf) λ_ _ _=>False)
  (c1:∀H e s',CX [] H c (λ_ _ _=>False) e s'->False) :
  K4 (model P w) Ly (.call (.ref fa) ([.ref a],[],)) (λr s'=>r=.ok (.ret<|.bool Nf)/\OldK c.heap s'.heap/\s'.os=c.os/\AllBare s'.gens) c:=by
 let rv:=qY hi;let GD:=⇑hi;let E:∀b∈tabs.map (·.2),c.heap.get? b=Nc (tabObj #[]):=λb f=>by
  let(q,i,rfl):=cU.mp f;exact(M q i).2
 let aT:a ∉ tabs.map (·.2):=λz=>by
  let e:=E a z;rw[G]at e;cases e
 let B:∀H:Hp,zY tabs H->SqL K H a (L.map pi)->HOk P w H c.heap->(∀b,H b≠Nd->b=a\/b∈tabs.map (·.2))->(H a≠Nd->K.lookup a=Nd)->(∀q∈tabs,H q.2=Nc (.tbl #[])) ->
   K4 (model P w) Ly (.call (.ref fa) ([.ref a],[],)) (λr s'=>r=.ok (.ret<|.bool Nf)/\OldK c.heap s'.heap/\s'.os=c.os/\AllBare s'.gens) c:=by
  intro H hO hS hok hA hK S;let n5:∀{b:Jr}{o:Obj},c.heap.get? b=Nc o->H b=Nd->(oo c.heap H).get? b=Nc o:=λe n=>yI e n
  let Q:∀{b:Jr}{o:Obj},c.heap.get? b=Nc o->(b=a->False)->o≠tabObj #[]->H b=none:=λ{b o} e n1 n2=>by
   cases q:H b with
   |none=>rfl
   |some u =>
    rcases hA b (by rw[q];simp)with z|z
    .exact(n1 z).elim
    .let:=E b z;rw[e]at this;exact Nl (bn this) n2
  let a2:∀{b:Jr}{o:Obj}{es:Array DictEntry}{I:Nat},c.heap.get? b=Nc o->o.data=.dict es I->H b=none:=λ{b o es I} e d=>Q e (λz=>by
   subst z;rw[G]at e;cases e;let O:Data.seq vs.toArray _=Data.dict es I:=d;cases O) (λz=>by rw[z]at d;cases d)
  let R:∀{b:Jr}{o:Obj}{T:String},c.heap.get? b=Nc o->o.cls=.type T->T ≠ "list" -> H b=none:=λ{b o T} e d b0=>Q e (λz=>by
   subst z;rw[G]at e;cases e;let O:zn "list" = zn T:=d;injection O with O;exact b0 O.symm) (λz=>by rw[z]at d;cases d)
  let y:∀{b:Jr}{m:Str->Option I1},c.heap.Ns b m->(oo c.heap H).Ns b m:=λ{b m} (o,es,I,e,d,r,)=>(o,es,I,n5 e<|a2 e d,d,r,)
  let X:K.In (oo c.heap H):=λb o e=>n5 (KX b o e) (by
   cases q:H b with
   |none=>rfl
   |some u =>
    rcases hA b (by rw[q];simp)with z|z
    .subst z;rw[hK (by rw[q];simp)]at e;cases e
    .let j:=E b z;rw[KX b o e]at j;cases j;let h2:=jF.mp a6 (b,tabObj #[])<|mem_of_lookupK e;exact Nl (show Ng=Nf from h2) cr)
  let hM:Mod K mg (oo c.heap H):=(X,y C,(mb,y hb,a8,),let ⟨mc,h1,h2⟩:=GC;(mc,y h1,h2,),);let e0:tH P w K mg (oo c.heap H) Ly [] c H:=(U,hM,λb o e=>AW e,w1<|xA _ _,trivial,λb hb=>Nl (show b∈([]:Nt Jr)from hb) (by simp),hok,.of_eq hg,);let a9:∀q∈tabs,CodeHd (oo c.heap H) q.1 q.2/\(oo c.heap H).BuiltinsAt mg q.2:=λq i=>by
   let(o,a1,Z,tf,D,tg,a3,Y,tt,N,r1,r2):=(M q i).1;let(bm,A,b1,b2,J,b4,b5,b6):=a7;refine((o,a1,Z,tf,D,tg,a3,Y,tt,n5 N<|R N r1 ⋯,r1,r2,),bm,A,b1,b2,λz=>?_,λz=>?_,n5 J<|R J b4 ⋯,b4,b5,b6,)
   .let(o',es,I,e,d,_):=C;rw[z,e]at J;cases J;rw[d]at b6;cases b6
   .let j:=(M q i).2;rw[z,j]at J;cases J;cases b4
  refine Ld ((F _ X (y C) a9).run Ly [] c H ([.ref a],[],) [.ref a] [.ref a] _ _ hr e0 (Fd c<|.ref a) (.cons U .nil) (a4 H hO hS S)) λr s' h=>?_
  cases r with
  |error e=>exact(c1 H e s' h).elim
  |ok fl =>
   cases fl with
   |next=>exact lf h
   |brk=>exact lf h
   |cont=>exact lf h
   |ret u =>
    let(v,H',os,a0,un,Fe,r',q):=h;let q':v=.bl true:=q;subst q';obtain rfl:u=OV true:=r';let kept:∀b o,b ∉ tabs.map (·.2)->c.heap.get? b=Nc o->s'.heap.get? b=Nc o:=λb o f e=>by
     cases q:H b with
     |none=>exact un.keep b o e q (by intro z;exact Nl (show b∈([]:Nt Jr)from z) (by simp)) (by simp)
     |some u =>
      rcases hO b with z|⟨A,xs,z⟩|⟨z,_⟩
      .rw[q]at z;cases z
      .let z2:=un.frzs b A _ z;let(N,_):=hok b _ z;let(j,_):=Fe b _ z2;rw[e]at N;cases N;exact j
      .exact Nl z f
    let l:∀b∈tabs.map (·.2),isCodeTable c.heap b/\∃g,s'.heap.get? b=Nc (tabObj g):=λb f=>by
     let(qq,i,rfl):=cU.mp f;let(g,e):=un.tbls _ _<|S qq i;let j:s'.heap.get? qq.2=Nc (tabObj<|#[]++g):=Fe _ _ e;exact(((M qq i).1.tab (M qq i).2).isCodeTable,_,j,)
    refine(U,(λb o e=>?_,λb o e=>?_,),os,a0,)
    .by_cases f:b∈tabs.map (·.2)
     .let(ht,g,j):=l b f;let e3:=E b f;rw[e]at e3;cases e3;exact .inr<|.inl (ht,U,#[],g,U,by rw[Array.empty_append];exact j,)
     .exact .inl<|kept b o f e
    .by_cases f:b∈tabs.map (·.2)
     .let(_,g,j):=l b f;exact(_,j,)
     .exact(o,kept b o f e,)
 cases hk:K.lookup a with
 |some o =>
  let e:=KX a o hk;rw[G]at e;cases e;refine B (λb=>if b∈tabs.map (·.2)then Nc (.tbl #[])else Nd) (λb=>?_) (.inr (_,vs.toArray,_,hk,U,U,U,by rw[cM,GD];exact hl,~~~rv,)) (λb u z=>?_) (λb z=>?_) (λz=>Nl (Nj aT) z) λq i=>Nk<|cU.mpr (q,i,U,)
  .by_cases f:b∈tabs.map (·.2)
   .exact .inr<|.inr (f,Nk f,)
   .exact .inl<|Nj f
  .by_cases f:b∈tabs.map (·.2)
   .let t:=(Nk f).symm.trans z;cases t;exact E b f
   .let t:=(Nj f).symm.trans z;cases t
  .by_cases f:b∈tabs.map (·.2)
   .exact .inr f
   .exact Nl (Nj f) z
 |none =>
  refine B (λb=>if b=a then Nc (.frz { cls:=.type "list",data:=.seq vs.toArray } (.lst<|L.map pi))else if b∈tabs.map (·.2)then Nc (.tbl #[])else Nd) (λb=>?_) (.inl<|.inr ({ cls:=.type "list",data:=.seq vs.toArray },Nk U,)) (λb u z=>?_) (λb z=>?_) (λ_=>hk) λq i=>?_
  .by_cases f:b=a
   .exact .inr<|.inl (_,_,Nk f,)
   .by_cases p:b∈tabs.map (·.2)
    .exact .inr<|.inr (p,(Nj f).trans<|Nk p,)
    .exact .inl<|(Nj f).trans<|Nj p
  .by_cases f:b=a
   .let t:=(Nk f).symm.trans z;cases t;subst f;exact(G,by rw[af];exact hl,vs,_,rv,G,)
   .by_cases p:b∈tabs.map (·.2)
    .let t:=((Nj f).trans<|Nk p).symm.trans z;cases t;exact E b p
    .let t:=((Nj f).trans<|Nj p).symm.trans z;cases t
  .by_cases f:b=a
   .exact .inl f
   .by_cases p:b∈tabs.map (·.2)
    .exact .inr p
    .exact Nl ((Nj f).trans<|Nj p) z
  .let hm:q.2∈tabs.map (·.2):=cU.mpr (q,i,U,);let a5:q.2≠a:=λz=>aT<|z ▸ hm
   calc(Nj a5).trans (Nk hm)
def walk_ofT{l:W.OpenLaw}{n k:Nat}{q:Jl}{i:Nt Str}{XP:(Str->Option I1)->JD->Prop}{P:Je->JD->Prop}{d:DefRec}{K:Lx->am}{CX:Je->CXT}{sp:Je->Sp}{x:Str}{tabs:Lx->Nt (Jr×Jr)}{xs:Nt Str}
  (hn:l.most=Nc n)(I:n<=JR)(L:d.params.defaults=[])(Z:bV k Ly)
  (hY:∀(w:Je)(h:JD),P w h->(K w.params).In h)(E:∀p:Lx,noTabs (K p)=Nf)
  (C:∀y∈xs,∃d',(recsOf q).find? (λe=>e.name == y)=Nc d')(R:∀p:Lx,∀t∈tabs p,∃y∈xs,tabIn (K p) y=Nc t)
  (F:∀(w:Je)(mg:Str->Option I1)(z:Jr)(h:JD),(K w.params).In h->h.Ns JU mg->mg d.name=↑z ->
   ∃A:K9,(∀(s:JY)(u:I1),La s A ([u],[],) [(x,u)]) /\
    ∀base:JD,(K w.params).In base->base.Ns JU mg->(∀q∈tabs w.params,CodeHd base q.1 q.2/\base.BuiltinsAt mg q.2)->aL l.prog w (K w.params) mg base (CX w) k z A [x] (sp w))
  (D:∀(w:Je)(H:Hp)(a:Jr)(r:Nt Int),⇑r<=n->zY (tabs w.params) H->SqL (K w.params) H a (r.map pi)->(∀q∈tabs w.params,H q.2=Nc (.tbl #[]))->sp w [.ref a] H (λv _=>v=.bl Nf) λ_ _ _=>False)
  (O:∀(w:Je)(H:Hp)(s:JY)(e:I1)(s':JY),CX w [] H s (λ_ _ _=>False) e s'->False) :
  W.WalkO q i XP P l.row.toRowW d [] (λf vs=>PySem.call f vs):=by
 refine Att.attach_call hn L λw Q m mg mb z o pm cd a1 a vs r G Y ho hd a0 J Dk j c hg=>?_
 let B:=hY w _ Y;let(A,hb,hF):=F w mg z _ B G.T.g J;refine yg B G.T.g G.T.b G.T.builtins G.T.nolimit hg Dk j (uU c I) Z (tabs:=tabs w.params) (λt X=>?_) (E w.params) G.T.bmain hF hb (λH hO hS N=>D w H a r c hO hS N) λH e s'=>O w H m e s'
 let(y,S,e):=R w.params t X;let(d',M):=C y S;calc tab_of G.T B M e
variable{K:am}{base:JD}
section
variable{mg:Str->Option I1}
def  fJ(H:Hp)(f c':Jr)(b:Obj)(qual:Str)(cl:Nt (Str×Jr))(ws:Nt (Str×V)):Prop:=H f=Nc (.frz b TTh)/\(∃a,H c'=Nc (.frz a TTh)/\uh a qual)/\fN H cl ws
def fJ.same{H H':Hp}{f c':Jr}{a:Obj}{qual:Str}{cl:Nt (Str×Jr)}{ws:Nt (Str×V)}(h:fJ H f c' a qual cl ws)(s:au H H'):fJ H' f c' a qual cl ws :=
 (s _ _ h.1,let ⟨oc,e,q⟩:=h.2.1;(oc,s _ _ e,q,),h.2.2.same s,)
def o6{zs:Nt (Str×Nat×Jr)}{f:Nt Obj}{H:Hp}(K:⇑f=⇑zs)(t:(zs.map (·.2.2)).Nodup)
  (y:∀(j:Nat)(z:Str×Nat×Jr),zs[j]?=Nc z->∃o w,f[j]?=Nc o/\o.data=.cell w/\∀v,σ[z.2.1]?=Nc (Nc v)->∃u,w=Nc u/\RelV v u)
  (D:∀c∈cl.map (·.2),∃z∈zs,z.2.2=c)(C:∀(x:Str)(v:V),ws.lookup x=Nc v->∃z∈zs,cl.lookup x=Nc z.2.2/\σ[z.2.1]?=Nc (Nc v)):fN (gB H ((zs.map (·.2.2)).zip f)) cl ws:=by
 let h:∀z∈zs,∃o w,gB H ((zs.map (·.2.2)).zip f) z.2.2=Nc (.frz o TTh)/\o.data=.cell w/\∀v,σ[z.2.1]?=Nc (Nc v)->∃u,w=Nc u/\RelV v u:=λz g=>by
  let(j,p):=kY g;let(o,w,m,l,I):=y j z p;let q:((zs.map (·.2.2)).zip f).map (·.1)=zs.map (·.2.2):=pW (by rw[af];lia);let(s,A,G):=eH (H:=H) (fz:=(zs.map (·.2.2)).zip f) (b:=z.2.2) (by rw[q];exact cU.mpr (z,g,U,));let(i,k):=kY A;rw[pY]at k;let E:(zs.map (·.2.2))[j]?=Nc z.2.2:=by rw[fi,p];rfl
  let(M,J):=JP.mp k.1;let(L,b2):=JP.mp E;let n:i=j:=(sX t).mp<|J.trans b2.symm;subst n;let F:o=s:=bn<|m.symm.trans k.2;subst F;exact(o,w,G,l,I,)
 refine(λc B=>?_,λx v e=>?_,)
 .let(z,g,rfl):=D c B;let(o,w,a,b,_):=h z g;exact(o,w,a,b,)
 .let(z,g,m,l):=C x v e;let(o,w,a,b,d):=h z g;let(u,rfl,r):=d v l;calc(z.2.2,o,u,m,a,b,r,)
end
def sC{a:JZ}{cl:Nt (Str×Jr)}(h:(a.names.all λy=>match y.2 with | .free=>(cl.map (·.1)).any (y.1 == ·)|_=>Nf)=Nf):∀y∈a.names,y.2=.free->∃c,cl.lookup y.1=Nc c:=λy d e=>by
 let:=jF.mp h y d;rw[e]at this;let(z,b,g):=pA.mp this;let(p,f,rfl):=cU.mp b;cases q:cl.lookup y.1 with
 |some c=>exact(c,U,)
 |none =>
  let:=NZ.mp q p f;simp[bne,g]at this
def n6{a:JZ}{ws:Nt (Str×V)}(h:((ws.map (·.1)).all λx=>match a.names.lookup x with|some .free=>Nf|_=>Ng)=Nf):∀y∈N,∀v,ws.lookup y=Nc v->a.names.lookup y=Nc .free:=λy _ v e=>by
 let:=jF.mp h y<|cU.mpr ((y,v),mem_of_lookup e,U,);split at this
 .assumption
 .cases this
def tab_mk{K:Frag}{x qual:Str}{st:Ki}{f c P:Jr}{g kV doc pm m:I1}{d n:Option Jr}{b:Array (Option I1)}{j:I1}{i:Option Jr}{vs:Array I1}{h:Array (Option I1)}(a:nsIn K JU x=Nc ↑f)
  (l:K.lookup f=Nc (g,d,.func<|fnOf x qual (iR st) (cK st) (ao st) .none kV doc pm n (.ref c) m,b,))(k:K.lookup c=Nc (j,i,.fields vs,h,))(e:vs[11]?=↑P):tabIn K x=Nc (c,P):=by
 unfold tabIn;rw[a];simp only[l];show(match K.lookup c with|some (_,_,.fields vs,_,)=>(match (vs[11]?:Option I1)with|some (.ref P)=>Nc (c,P)|_=>Nd)|_=>Nd)=Nc (c,P);rw[k];simp only[e]
section
variable{zs:Nt (Str×Nat×Jr)}{os:Nt Obj}{H2:Hp}
def lT(a:⇑os=⇑zs):((zs.map (·.2.2)).zip os).map (·.1)=zs.map (·.2.2):=pW (by rw[af];lia)
def lU(c:⇑os=⇑zs)(d:∀z∈zs,H z.2.2=Nd):au H (gB H ((zs.map (·.2.2)).zip os)):=λb u e=>by
 rw[bP λm=>?_]
 .exact e
 .rw[lT c]at m;let(z,a,rfl):=cU.mp m;rw[d z a]at e;cases e
def hide_same(d:⇑os=⇑zs)(a:∀z∈zs,H z.2.2=Nd)(s:au (gB H ((zs.map (·.2.2)).zip os)) H2):au H (hideL H2 (zs.map (·.2.2))):=λb u e=>by
 rw[bG λm=>?_]
 .exact s _ _<|lU d a _ _ e
 .let(z,c,rfl):=cU.mp m;rw[a z c]at e;cases e
end
def mT.inv{fz:Nt (Jr×Obj)}{j:Hp}{s':JY}(z:mT X s fz)(I:Inv X Ni σ H s)(os:s'.os=s.os)(i:AllBare s'.gens)(un:Un (frs X.stack) [] (gB H fz) j s.heap s'.heap)(hok:HOk X.prog X.w j s'.heap):Inv X Ni σ (hideL j (fz.map (·.1))) s':=by
 let fzs:Fzs j (fz.map (·.1)):=λc v=>by
  let(o,_,e):=eH (H:=H) v;exact(o,un.frzs c o _ e,)
 let out:∀{d:Jr}{u:HO},H d=Nc u->d ∉ fz.map (·.1):=λ{d u} q m=>by rw[z.free I d m]at q;cases q
 refine I.call' (ch:=[]) os (λb o e n g f=>?_,λb o e n g f=>?_,λb o e n f=>?_,un.there,λb r e=>?_,λb o t e=>?_,λb ps e=>?_,) (hok.hideL fzs) i<|λb g=>Nl g (by simp)
 .by_cases a:b∈fz.map (·.1)
  .let(l,p,k):=eH (H:=H) a;let:=(hok b _<|un.frzs b l _ k).1;let h:=z.at_ _ p;rw[e]at h;cases h;exact this
  .exact un.keep b o e (by rw[bP a];exact n) g f
 .by_cases a:b∈fz.map (·.1)
  .let(l,p,k):=eH (H:=H) a;let:=(hok b _<|un.frzs b l _ k).1;let h:=z.at_ _ p;rw[e]at h;cases h;exact(_,this,)
  .exact un.slot b o e (by rw[bP a];exact n) g f
 .by_cases a:b∈fz.map (·.1)
  .exact jx a
  .rw[bG a];exact un.free b o e (by rw[bP a];exact n) f
 .let a:=out e;rw[bG a];exact un.tups b r (by rw[bP a];exact e)
 .let a:=out e;rw[bG a];exact un.frzs b o t (by rw[bP a];exact e)
 .let a:=out e;rw[bG a];calc un.tbls b ps (by rw[bP a];exact e)
section
variable{t:TA}
end
abbrev T3a(α:Type):=Int×Int×α
def  Fm(L:Type):Nat->Type
 |0=>L
 |n+1=>List<|Int×Int×Fm L n
def  Fm.dec{L:Type} [d:DecidableEq L]:(n:Nat)->DecidableEq (Fm L n)
 |0=>d
 |n+1=>have:=Fm.dec (L:=L) n;(inferInstance:DecidableEq (List<|Int×Int×Fm L n))
instance {L:Type} [DecidableEq L] (n:Nat):DecidableEq (Fm L n):=Fm.dec n
section
variable{α:Type}
def  dr [DecidableEq α] (f:Nt (T3a α))(t:T3a α):Nt (T3a α):=match f.getLast? with
 |some l=>if l.2.2=t.2.2 then f.dropLast++[(l.1,t.2.1,t.2.2)]else f++[t]
 |none=>f++[t]
def  fB [DecidableEq α] (ts:Nt (T3a α)):Nt (T3a α):=ts.foldl dr []
def  Ch3:Nt (T3a α)->Int->Int->Prop
 | [],lo,hi=>lo=hi+1
 |t :: r,lo,hi=>t.1=lo/\lo<=t.2.1/\Ch3 r (t.2.1+1) hi
def Ch3.snoc{t:T3a α}:∀{f:Nt (T3a α)}{lo mid:Int},Ch3 f lo mid->t.1=mid+1->t.1<=t.2.1->Ch3 (f++[t]) lo t.2.1
 | [],lo,mid,h,e,l=>(by rw[e];exact h.symm,by have:lo=mid+1:=h;lia,U,)
 |u :: f,lo,mid,h,e,l=>(h.1,h.2.1,Ch3.snoc (f:=f) h.2.2 e l,)
def Ch3.unsnoc:∀{f:Nt (T3a α)}{lo hi:Int},Ch3 (f++[t]) lo hi->t.2.1=hi/\t.1<=t.2.1/\Ch3 f lo (t.1-1)
 | [],lo,hi,h=>(by have:t.2.1+1=hi+1:=h.2.2;lia,by have:=h.1;let:=h.2.1;lia,by show lo=t.1-1+1;let:=h.1;lia,)
 |u :: f,lo,hi,h=>let ⟨a,b,c⟩:=Ch3.unsnoc (f:=f) h.2.2;(a,b,h.1,h.2.1,c,)
def  Nbx(ys:Nt α):Prop:=∀(i:Nat)(a b:α),ys[i]?=Nc a->ys[i+1]?=Nc b->a≠b
def Nbx.snoc{ys:Nt α}{y:α}(h:Nbx ys)(e:∀l,ys.getLast?=Nc l->l≠y):Nbx (ys++[y]):=λi a b d c=>by
 let hi:=(JP.mp c).1;simp only[cb,dV]at hi;by_cases g:i+1<⇑ys
 .rw[iv ∅]at d;rw[iv g]at c;exact h i a b d c
 .let f:i+1=⇑ys:=∅
  rw[iv ∅]at d;rw[f]at c;simp at c;subst c;calc e a ?_;rw[List.getLast?_eq_getElem?];rw[show ⇑ys-1=i by lia];calc d
def  vAt(f:Nt (T3a α))(c:Int):Option α:=(f.find? λt=>decide<|c<=t.2.1).map (·.2.2)
def jW(f g:Nt (T3a α))(c:Int):vAt (f++g) c=(vAt f c).or (vAt g c):=by
 unfold vAt;rw[List.find?_append];cases f.find? _ <;> rfl
def sD(t:T3a α)(c:Int):vAt [t] c=if c<=t.2.1 then Nc t.2.2 else none:=by
 unfold vAt;by_cases h:c<=t.2.1 <;> simp[h]
structure yi(ts f:Nt (T3a α))(lo hi:Int):Prop where
 ch:Ch3 f lo hi
 nb:Nbx (f.map (·.2.2))
 va:∀c,vAt f c=vAt ts c
 mem:∀t∈f,∃t'∈ts,t'.2.2=t.2.2
 ne:ts≠[]->f≠[]
def yi.step [DecidableEq α]{lo mid:Int}{t:T3a α}(h:yi ts f lo mid)(e:t.1=mid+1)(l:t.1<=t.2.1):yi (ts++[t]) (dr f t) lo t.2.1:=by
 rcases N9 f with j|⟨g,u,j⟩
 .subst j;let:dr [] t=[t]:=rfl;rw[this];refine(Ch3.snoc (f:=[]) h.ch e l,λi a b y p=>by simp at p,λc=>?_,λv d=>(t,by simp,by rw[eO.mp d],),λ_=>by simp,);rw[jW,←h.va c];rfl
 .rw[Oa]at j;subst j;let o:=h.ch.unsnoc;let s:(g++[u]).getLast?=Nc u:=by simp
  unfold dr;rw[s];simp only;by_cases q:u.2.2=t.2.2
  .rw[Nk q];let w:(g++[u]).dropLast=g:=by simp
   rw[w];let r:(g++[((u.1,t.2.1,t.2.2):T3a α)]).map (·.2.2)=(g++[u]).map (·.2.2):=by simp[q]
   refine(Ch3.snoc (t:=((u.1,t.2.1,t.2.2):T3a α)) o.2.2 (by show u.1=u.1-1+1;lia) (by show u.1<=t.2.1;lia),by rw[r];exact h.nb,λc=>?_,λv d=>?_,λ_=>by simp,)
   .rw[jW ts,←h.va c,jW,jW,sD,sD,sD];show(vAt g c).or (if c<=t.2.1 then Nc t.2.2 else Nd)=((vAt g c).or (if c<=u.2.1 then Nc u.2.2 else Nd)).or (if c<=t.2.1 then Nc t.2.2 else Nd);cases vAt g c with
    |some x=>rfl
    |none =>
     by_cases n:c<=u.2.1
     .rw[Nk n,Nk ∅,q];rfl
     .rw[Nj n];rfl
   .rcases gz.mp d with d|d
    .let(k,a,b):=h.mem v<|lj _ d;exact(k,lj _ a,b,)
    .rw[eO.mp d];exact(t,by simp,U,)
  .rw[Nj q];refine(h.ch.snoc e l,?_,λc=>?_,λv d=>?_,λ_=>by simp,)
   .rw[eN];refine Nbx.snoc h.nb λz m=>?_
    rw[eN]at m;simp at m;rw[←m];exact q
   .rw[jW,jW ts,h.va c]
   .rcases gz.mp d with d|d
    .let(k,a,b):=h.mem v d;exact(k,lj _ a,b,)
    .rw[eO.mp d];calc(t,by simp,U,)
def ui [DecidableEq α]:∀{r ts f:Nt (T3a α)}{lo mid hi:Int},yi ts f lo mid->Ch3 r (mid+1) hi->yi (ts++r) (r.foldl dr f) lo hi
 | [],ts,f,lo,mid,hi,h,c=>by
  let:mid=hi:=by have:mid+1=hi+1:=c;lia
  subst this;rw[ik];exact h
 |t :: r,ts,f,lo,mid,hi,h,c=>by
  let:=ui (r:=r) (h.step c.1 (by have:=c.1;let:=c.2.1;lia)) c.2.2;rw[ia]at this;calc this
def fv [DecidableEq α] {ts:Nt (T3a α)}{lo hi:Int}(h:Ch3 ts lo hi):yi ts (fB ts) lo hi :=
 ui (ts:=[]) (f:=[]) (mid:=lo-1) (by show lo=lo-1+1;lia,λi a b e d=>by simp at d,λ_=>U,λt c=>by simp at c,λz=>Nl U z,) (by rw[show lo-1+1=lo by lia];exact h)
def Ch3.at:∀{f:Nt (T3a α)}{lo hi c:Int},Ch3 f lo hi->lo<=c->c<=hi->∃(j:Nat)(t:T3a α),f[j]?=Nc t/\t.1<=c/\c<=t.2.1/\(∀(i:Nat)(u:T3a α),i<j->f[i]?=Nc u->u.2.1<c)/\vAt f c=Nc t.2.2
 | [],lo,hi,c,h,h1,h2=>by have:lo=hi+1:=h;lia
 |t :: r,lo,hi,c,h,h1,h2=>by
  by_cases q:c<=t.2.1
  .exact(0,t,U,by have:=h.1;lia,q,λi u hi=>Nl hi<|zm i,by unfold vAt;rw[kZ (~~~q)];rfl,)
  .let(j,u,a,b,d,e,v):=Ch3.at (f:=r) h.2.2 (c:=c) ∅ h2;refine(j+1,u,~~~a,b,d,λi w hi g=>?_,by unfold vAt at v⊢;rw[lg (~~~q)];exact v,)
   match i,g with
   |0,g=>cases g;lia
   |i+1,g=>calc e i w ∅ (~~~g)
end
def  lay{L:Type} [DecidableEq L] (g:Nt Int->L):(cols:Nt (List<|Int×Int))->Nt Int->Fm L ⇑cols
 | [],ah=>g ah
 |c :: cs,ah=>fB<|c.map λp=>((p.1,p.2,lay g cs<|ah++[p.1]):T3a (Fm L ⇑cs))
def  ShS{α:Type}(S:α->Nt (Int×Int)->Prop)(f:Nt (T3a α))(ps:Nt (Int×Int)):Prop:=∃p r,ps=p :: r/\f≠[]/\Ch3 f p.1 p.2/\Nbx (f.map (·.2.2))/\∀t∈f,S t.2.2 r
def  c0{L:Type}:(n:Nat)->Fm L n->Nt (Int×Int)->Prop
 |0,_,ps=>ps=[]
 |n+1,f,ps=>ShS (c0 n) f ps
def  zZ:Nt (Int×Int)->Int->Int->Prop
 | [],lo,hi=>lo=hi+1
 |p :: r,lo,hi=>p.1=lo/\lo<=p.2/\zZ r (p.2+1) hi
def Aa{α:Type}(F:Int×Int->α):∀{c:Nt (Int×Int)}{lo hi:Int},zZ c lo hi->Ch3 (c.map λp=>((p.1,p.2,F p):T3a α)) lo hi
 | [],lo,hi,h=>h
 |p :: r,lo,hi,h=>(h.1,h.2.1,Aa F h.2.2,)
inductive fK:Nt (List<|Int×Int)->Nt (Int×Int)->Prop
 |nil:fK [] []
 |cons {c:Nt (Int×Int)}{cs:Nt (List<|Int×Int)}{p:Int×Int}{ps:Nt (Int×Int)}:c≠[]->zZ c p.1 p.2->fK cs ps->fK (c :: cs) (p :: ps)
def fC{L:Type} [DecidableEq L] {g:Nt Int->L}{a:Nt (List<|Int×Int)}{ps:Nt (Int×Int)}(h:fK a ps):∀b:Nt Int,c0 ⇑a (lay g a b) ps:=by
 induction h with
 |nil=>intro b;exact(rfl:([]:Nt (Int×Int))=[])
 | @cons c cs p ps hne hc _ ih =>
  intro b;let k:=fv<|Aa (λq=>lay g cs<|b++[q.1]) hc;calc(p,ps,U,k.ne<|~~~hne,k.ch,k.nb,λt d=>?_,);let(i,f,e):=k.mem t d;let(q,_,rfl):=cU.mp f;rw[←e];calc ih _
def  bQ(col:Nt (Int×Int))(c:Int):Int:=((col.find? λp=>decide<|c<=p.2).map (·.1)).getD 0
def wN{α:Type}(F:Int×Int->α)(c:Int):∀col:Nt (Int×Int),vAt (col.map λp=>((p.1,p.2,F p):T3a α)) c=(col.find? λp=>decide<|c<=p.2).map F
 | []=>rfl
 |p :: r=>by
  unfold vAt;rw[iO];by_cases q:c<=p.2
  .rw[kZ (~~~q),kZ (~~~q)];rfl
  .rw[lg (~~~q),lg (~~~q)];calc wN F c r
inductive Tel{L:Type}:(n:Nat)->Fm L n->Nt Int->L->Prop
 |nil (x:L):Tel 0 x [] x
 |cons {n:Nat}{f:Nt (T3a<|Fm L n)}{c:Int}{cs:Nt Int}{x:L}{j:Nat}{t:T3a (Fm L n)}:f[j]?=Nc t->c<=t.2.1->(∀(i:Nat)(u:T3a (Fm L n)),i<j->f[i]?=Nc u->u.2.1<c)->Tel n t.2.2 cs x->Tel (n+1) f (c :: cs) x
inductive InB:Nt Int->Nt (Int×Int)->Prop
 |nil:InB [] []
 |cons {c:Int}{cs:Nt Int}{p:Int×Int}{ps:Nt (Int×Int)}:p.1<=c->c<=p.2->InB cs ps->InB (c :: cs) (p :: ps)
def lV{L:Type} [DecidableEq L] {g:Nt Int->L}{a:Nt (List<|Int×Int)}{ps:Nt (Int×Int)}(h:fK a ps):∀(b cs:Nt Int),InB cs ps->Tel ⇑a (lay g a b) cs (g<|b++im bQ a cs):=by
 induction h with
 |nil=>intro b cs d;cases d;rw[List.zipWith_nil_left,ik];exact .nil _
 | @cons c a p ps hne hc _ ih =>
  intro b cs d;cases d with
  | @cons x cs _ _ h1 h2 d =>
   let k:=fv<|Aa (λq=>lay g a<|b++[q.1]) hc;let(j,t,n,o,m,l,e):=k.ch.at h1 h2;rw[k.va,wN]at e;cases e6:c.find? (λp=>decide<|x<=p.2) with
   |none=>rw[e6]at e;cases e
   |some q =>
    rw[e6]at e;let i:lay g a (b++[q.1])=t.2.2:=bn e;let f:bQ c x=q.1:=by unfold bQ;rw[e6];rfl
    calc .cons n m l ?_;rw[←i,N5,f];let:=ih (b++[q.1]) cs d;rw[ia]at this;calc this
def  FmL{α:Type}(R:α->V->Prop)(H:Hp)(f:Nt (T3a α))(xs:Nt V):Prop:=⇑xs=⇑f/\∀(i:Nat)(t:T3a α),f[i]?=Nc t->∃(r:Jr)(u:V),xs[i]?=↑r/\H r=Nc (.tup [.int t.1,.int t.2.1,u])/\R t.2.2 u
def  nJ(K:am)(H:Hp):Prop:=∀(r:Jr)(b a:Nt V),SqT K H r b->SqT K H r a->b=a
inductive fD(K:am)(H:Hp):Nat->V->V->Bool->Prop where
 |of {n:Nat}{x y:V}{b:Bool}(h:DEq K H n x y b):fD K H n x y b
 |ti {n:Nat}{a:Jr}{xs:Nt V}{i:Int}(h:SqT K H a xs):fD K H n (.ref a) (.int i) Ng
 |it {n:Nat}{a:Jr}{xs:Nt V}{i:Int}(h:SqT K H a xs):fD K H n (.int i) (.ref a) Ng
 |tup {n:Nat}{a b:Jr}{xs ys:Nt V}{f:Nat->Bool}(ne:a≠b)(ha:SqT K H a xs)(hb:SqT K H b ys)(h:∀(j:Nat)(x y:V),xs[j]?=Nc x->ys[j]?=Nc y->fD K H n x y (f j)):fD K H (n+1) (.ref a) (.ref b) ((db<|min ⇑xs ⇑ys).all f && ⇑xs == ⇑ys)
def fD.mono{K:am}{H:Hp}{n m:Nat}{x y:V}{b:Bool}(e:fD K H n x y b)(h:n<=m):fD K H m x y b:=by
 induction e generalizing m with
 |of e=>exact .of (e.mono h)
 |ti e=>exact .ti e
 |it e=>exact .it e
 |tup a f d _ c =>
  let(m,rfl):∃k,m=k+1:=(m-1,∅,);calc .tup a f d λj x y i g=>c j x y i g ∅
def Ff(I:Inv X Ni σ H s):nJ X.K H:=λr p m l k=>by
 let(c,h,j,_):=I.tuple l;let(a,f,i,_):=I.tuple k;let(o,e,_,n,d):=j;let(q,g,_,t,b):=i;rw[e]at g;cases g;rw[d]at b;injection b with b;let:c=a:= ~~~b
 rw[←this]at f;calc Vals.inj h f
def fD.at{n:Nat}{x y:V}{b:Bool}(e:fD X.K H n x y b)(I:Inv X Ni σ H s):∀{A:JX}{u v:I1},A.units+n<K7->RelV x u->RelV y v->NJ A s u v b:=by
 induction e with
 |of e=>intro A u v l k g;exact e.at I l k g
 | @ti n a xs i h =>
  intro A u v l k g;cases (show u=io a from k);let(t,rfl):=g;let(c,r,p,_):=I.tuple h;exact SeqAt.EqAt.tuple_int i t (show s.heap.IsTuple a c.toArray from p) ∅
 | @it n a xs i h =>
  intro A u v l k g;let(t,rfl):=k;cases (show v=io a from g);let(c,r,p,_):=I.tuple h;exact SeqAt.EqAt.int_tuple i t (show s.heap.IsTuple a c.toArray from p) ∅
 | @tup n a b xs ys f ne ha hb h ih =>
  intro A u v l k g;cases (show u=io a from k);cases (show v=io b from g);let(c,r,p,_):=I.tuple ha;let(d,m,z,_):=I.tuple hb;let G:=⇑r;let F:=⇑m;let o:=Od (A:=A) (e:=f) (show s.heap.IsTuple a c.toArray from p) (show s.heap.IsTuple b d.toArray from z) ∅ (λj C B=>by
   let(x,E,w):=gW r C;let(y,D,q):=gW m B;exact ih j x y E D (by show A.units+1+n<K7;lia) w q)
  rw[show c.toArray.size=⇑xs by simp only[cM];lia,show d.toArray.size=⇑ys by simp only[cM];lia]at o;calc Go ne o
inductive sE(K:am)(neg:Bool)(x:V)(y:V)(H:Hp)(Q:VK):Prop
 |tt (a b:Jr)(xs ys:Nt V)(_:x=.ref a)(_:y=.ref b)(_:SqT K H a xs)(_:SqT K H b ys)(f:Nat->Bool)(_:(∀(j:Nat)(x y:V),xs[j]?=Nc x->ys[j]?=Nc y->fD K H 60 x y (f j)))(_:Q (.bl (if neg then !((db<|min ⇑xs ⇑ys).all f && ⇑xs == ⇑ys) else(db<|min ⇑xs ⇑ys).all f && ⇑xs == ⇑ys)) H):sE K neg x y H Q
 |ti (a:Jr)(xs:Nt V)(i:Int)(_:x=.ref a)(_:y=.int i)(_:SqT K H a xs)(_:Q (.bl neg) H):sE K neg x y H Q
 |it (a:Jr)(xs:Nt V)(i:Int)(_:x=.int i)(_:y=.ref a)(_:SqT K H a xs)(_:Q (.bl neg) H):sE K neg x y H Q
def uj{A:JX}{xs ys:Nt V}{a its':Nt I1}{f:Nat->Bool}(I:Inv X Ni σ H s)(h:A.units+60<K7)(r:Vals xs a)(d:Vals ys its')
  (hf:∀(j:Nat)(x y:V),xs[j]?=Nc x->ys[j]?=Nc y->fD X.K H 60 x y (f j)):∀j (c:j<a.toArray.size)(b:j<its'.toArray.size),NJ A s a.toArray[j] its'.toArray[j] (f j):=λj c b=>by
 let(x,k,g):=gW r c;let(y,i,e):=gW d b;calc(hf j x y k i).at I h g e
def DA(E:bV k X.A):OpR X (KY .Eq) (sE X.K Ng):=by
 intro Ni s σ H x y v u Q I n m h;let L:=E.units;cases h with
 |tt a b o J j g d G f F q =>
  subst j g;cases (show v=io a from n);cases (show u=io b from m);let(c,r,p,_):=I.tuple d;let(l,z,B,_):=I.tuple G;let D:=⇑r;let C:=⇑z;refine P1 (e:=f) (show s.heap.IsTuple a c.toArray from p) (show s.heap.IsTuple b l.toArray from B) ∅ (uj I (by show X.A.units+1+60<K7;lia) r z F) (.bl _,H,I,U,?_,);simp only[cM];rw[←D,←C];exact q
 |ti a o i j g d q =>
  subst j g;cases (show v=io a from n);let(t,rfl):=m;let(c,r,p,_):=I.tuple d;exact SeqAt.RcAt.tuple_int i t (show s.heap.IsTuple a c.toArray from p) ∅ X.prog X.w X.xe _ (.bl _,H,I,U,q,)
 |it a o i j g d q =>
  subst j g;let(t,rfl):=n;cases (show u=io a from m);let(c,r,p,_):=I.tuple d;calc SeqAt.RcAt.int_tuple i t (show s.heap.IsTuple a c.toArray from p) ∅ X.prog X.w X.xe _ (.bl _,H,I,U,q,)
def DB(E:bV k X.A):OpR X (KY .NotEq) (sE X.K Nf):=by
 intro Ni s σ H x y v u Q I n m h;let L:=E.units;cases h with
 |tt a b o J j g d G f F q =>
  subst j g;cases (show v=io a from n);cases (show u=io b from m);let(c,r,p,_):=I.tuple d;let(l,z,B,_):=I.tuple G;let D:=⇑r;let C:=⇑z;refine ON (e:=f) (show s.heap.IsTuple a c.toArray from p) (show s.heap.IsTuple b l.toArray from B) ∅ (uj I (by show X.A.units+1+60<K7;lia) r z F) X.prog X.w X.xe _ (.bl _,H,I,U,?_,);simp only[cM];rw[←D,←C];exact q
 |ti a o i j g d q =>
  subst j g;cases (show v=io a from n);let(t,rfl):=m;let(c,r,p,_):=I.tuple d;exact SeqAt.RcNeAt.tuple_int i t (show s.heap.IsTuple a c.toArray from p) ∅ X.prog X.w X.xe _ (.bl _,H,I,U,q,)
 |it a o i j g d q =>
  subst j g;let(t,rfl):=n;cases (show u=io a from m);let(c,r,p,_):=I.tuple d;calc SeqAt.RcNeAt.int_tuple i t (show s.heap.IsTuple a c.toArray from p) ∅ X.prog X.w X.xe _ (.bl _,H,I,U,q,)
def  rFm(K:am):R2:=λx y H Q=>nJ K H->rEq x y H Q\/sE K Ng x y H Q
def  Fg(K:am):R2:=λx y H Q=>nJ K H->rNe x y H Q\/sE K Nf x y H Q
structure Lfp(K:am)(L:Type) [DecidableEq L] where
 R:Hp->L->V->Prop
 mono:∀{H H':Hp}{x:L}{v:V},cc H H'->R H x v->R H' x v
 inj:∀{H:Hp}{x y:L}{v:V},nJ K H->R H x v->R H y v->x=y
 deq:∀{H:Hp}{x y:L}{u v:V},nJ K H->R H x u->R H y v->fD K H 2 u v (Nh<|x=y)
 eq:∀{H:Hp}{x y:L}{u v:V}{Q:VK},nJ K H->R H x u->R H y v->Q (.bl<|Nh<|x=y) H->rEq u v H Q\/sE K Ng u v H Q
 ne:∀{H:Hp}{x y:L}{u v:V}{Q:VK},nJ K H->R H x u->R H y v->Q (.bl<|!Nh (x=y)) H->rNe u v H Q\/sE K Nf u v H Q
def  FmV{L:Type} [DecidableEq L] (A:Lfp K L)(H:Hp):(n:Nat)->Fm L n->V->Prop
 |0,x,v=>A.R H x v
 |n+1,f,v=>∃(a:Jr)(xs:Nt V),v=.ref a/\H a=Nc (.tup xs)/\FmL (FmV A H n) H f xs
def FmL.mono{α:Type}{R d:α->V->Prop}{H H':Hp}{f:Nt (T3a α)}{xs:Nt V}(h:FmL R H f xs)(k:∀x u,R x u->d x u)(s:cc H H'):FmL d H' f xs:=(h.1,λi t e=>by
 let(r,u,a,b,c):=h.2 i t e;exact(r,u,a,s _ _ b,k _ _ c,),)
def FmV.mono{K:am}{L:Type} [DecidableEq L] {A:Lfp K L}{H H':Hp}(s:cc H H'):∀{n:Nat}{f:Fm L n}{v:V},FmV A H n f v->FmV A H' n f v
 |0,_,_,h=>A.mono s h
 |n+1,_,_,h=>by
  let(a,xs,d,c,b):=h;calc(a,xs,d,s _ _ c,b.mono (λ_ _ q=>FmV.mono s q) s,)
def FmL.nil{α:Type}{R:α->V->Prop}{H:Hp}:FmL R H [] []:=(U,λi t e=>by simp at e,)
def FmL.snoc{α:Type}{R:α->V->Prop}{H:Hp}{f:Nt (T3a α)}{xs:Nt V}{t:T3a α}{r:Jr}{u:V}(h:FmL R H f xs)(k:H r=Nc (.tup [.int t.1,.int t.2.1,u]))(q:R t.2.2 u):FmL R H (f++[t]) (xs++[.ref r]):=by
 refine(by simp[h.1],λi v e=>?_,);by_cases hi:i<⇑f
 .rw[iv hi]at e;let(j,g,a,b,c):=h.2 i v e;exact(j,g,by rw[iv (by rw[h.1];exact hi)];exact a,b,c,)
 .let d:i=⇑f:=by
   let:=(JP.mp e).1;simp at this;lia
  subst d;simp at e;subst e;calc(r,u,by rw[←h.1];simp,k,q,)
def FmL.init{α:Type}{R:α->V->Prop}{H:Hp}{f:Nt (T3a α)}{xs:Nt V}{t:T3a α}(h:FmL R H (f++[t]) xs):∃(ys:Nt V)(r:Jr)(u:V),xs=ys++[.ref r]/\FmL R H f ys/\H r=Nc (.tup [.int t.1,.int t.2.1,u])/\R t.2.2 u:=by
 let(r,u,a,b,c):=h.2 ⇑f t (by simp);let g:=h.1;rw[cb,dV]at g;rcases N9 xs with d|⟨ys,y,d⟩
 .subst d;simp at g
 .rw[Oa]at d;subst d;let j:⇑ys=⇑f:= ~~~g
  rw[←j]at a;simp at a;subst a;calc(ys,r,u,U,(j,λi v e=>?_,),b,c,);let hi:=(JP.mp e).1;let(m,l,k,o,n):=h.2 i v (by rw[iv hi];exact e);rw[iv ∅]at k;calc(m,l,k,o,n,)
def FmL.inj{α:Type}{R:α->V->Prop}{H:Hp}{f g:Nt (T3a α)}{xs:Nt V}(k:∀x y u,R x u->R y u->x=y)(h:FmL R H f xs)(h':FmL R H g xs):f=g:=by
 refine pV λi=>?_
 cases e:f[i]? with
 |none =>
  let:⇑f<=i:=Ix.mp e;rw[Ix.mpr (by rw[←h'.1,h.1];exact this)]
 |some t =>
  let hi:=(JP.mp e).1;let(j,m):∃j,g[i]?=Nc j:=(_,JO (l:=g) (i:=i) (by rw[←h'.1,h.1];exact hi),);let(r,u,a,b,c):=h.2 i t e;let(A,s,o,d,n):=h'.2 i _ m;rw[a]at o;cases o;rw[b]at d;let(z,w,v):=t;let(D,C,B):=j;simp only at d c n;injection d with d;injection d with d;simp only[Pw,V.int.injEq,and_true]at d;let(q,p,rfl):=d;rw[m,q,p,k _ _ _ c n]
def FmV.inj{K:am}{L:Type} [DecidableEq L] {A:Lfp K L}{H:Hp}(e:nJ K H):∀{n:Nat}{f g:Fm L n}{v:V},FmV A H n f v->FmV A H n g v->f=g
 |0,_,_,_,h,h'=>A.inj e h h'
 |n+1,_,_,_,h,h'=>by
  let(a,xs,l,k,j):=h;let(o,m,c,b,d):=h';rw[l]at c;cases c;rw[k]at b;cases b;calc FmL.inj (R:=FmV A H n) (λx y u q i=>FmV.inj e q i) j d
def FmL.deq{α:Type} [DecidableEq α] {R:α->V->Prop}{K:am}{H:Hp}{m:Nat}{f g:Nt (T3a α)}{xs ys:Nt V}(inj:∀x y u,R x u->R y u->x=y)(k:∀x y u v,R x u->R y v->fD K H m u v (Nh<|x=y))
  (h:FmL R H f xs)(h':FmL R H g ys):(∀(j:Nat)(x y:V),xs[j]?=Nc x->ys[j]?=Nc y->fD K H (m+1) x y (Nh<|f[j]?=g[j]?))/\((db<|min ⇑xs ⇑ys).all (λj=>decide<|f[j]?=g[j]?) && ⇑xs == ⇑ys)=Nh (f=g):=by
 refine(λj x y l o=>?_,?_,)
 .let Q:j<⇑f:=by rw[←h.1];exact(JP.mp l).1
  let E:j<⇑g:=by rw[←h'.1];exact(JP.mp o).1
  let J:=JO Q;let I:=JO E;let(r,u,a,b,c):=h.2 j _ J;let(O,F,L,p,D):=h'.2 j _ I;rw[l]at a;cases a;rw[o]at L;cases L;rw[J,I];generalize f[j]=t at *
  generalize g[j]=t' at *
  let(w,s,B):=t;let(A,z,C):=t';simp only at b p c D;by_cases G:r=O
  .subst G;rw[b]at p;injection p with p;injection p with p;simp only[Pw,V.int.injEq,and_true]at p;let(N,M,rfl):=p;let:decide (Nc (w,s,B)=Nc (A,z,C))=true:=by rw[N,M,inj _ _ _ c D];simp
   rw[this];exact .of<|.same r
  .let d:=fD.tup (K:=K) (H:=H) (n:=m) (f:=λi=>match i with|0=>decide (w=A)|1=>decide (s=z)|_=>decide<|B=C) G (P9 b) (P9 p) λi x y l o=>?_
   .let e:((db<|min [pi w,pi s,u].length [pi A,pi z,F].length).all (λi=>match i with|0=>decide (w=A)|1=>decide (s=z)|_=>decide<|B=C) && [pi w,pi s,u].length == [pi A,pi z,F].length)=Nh (Nc (w,s,B)=Nc (A,z,C)):=by
     show((db 3).all (λi=>match i with|0=>decide (w=A)|1=>decide (s=z)|_=>decide<|B=C) && Nf)=_;let:db 3=[0,1,2]:=rfl;rw[this];simp only[ny,List.all_nil,O8,Option.some.injEq,Prod.mk.injEq,Bool.decide_and]
    rw[e]at d;exact d
   .match i,l,o with
    |0,l,o=>cases l;cases o;exact .of<|.flat U U
    |1,l,o=>cases l;cases o;exact .of<|.flat U U
    |2,l,o=>cases l;cases o;exact k _ _ _ _ c D
    |i+3,l,_=>simp at l
 .rw[h.1,h'.1];by_cases e:f=g
  .subst e;simp
  .rw[Nn e];by_cases P:⇑f=⇑g
   .rw[Bool.and_eq_false_iff];left
    refine EU.mpr λq=>e<|pV λi=>?_
    rw[jF]at q;by_cases hi:i<⇑f
    .exact Np<|q i<|hE.mpr ∅
    .rw[Ix.mpr ∅,Ix.mpr ∅]
   .simp[P]
def FmV.deq{K:am}{L:Type} [DecidableEq L] {A:Lfp K L}{H:Hp}(j:nJ K H):∀{n:Nat}{f g:Fm L n}{u v:V},FmV A H n f u->FmV A H n g v->fD K H (2*n+2) u v (Nh<|f=g)
 |0,f,g,_,_,h,h'=>A.deq j h h'
 |n+1,f,g,_,_,h,h'=>by
  let(a,xs,rfl,l,k):=h;let(b,r,rfl,c,i):=h';let(p,o):=FmL.deq (R:=FmV A H n) (K:=K) (m:=2*n+2) (λx y u q d=>FmV.inj j q d) (λx y u v q d=>FmV.deq j q d) k i;by_cases e:a=b
  .subst e;rw[l]at c;cases c;let:f=g:=FmL.inj (R:=FmV A H n) (λx y u q d=>FmV.inj j q d) k i;rw[Nm this];exact .of<|.same a
  .let:=fD.tup e (P9 l) (P9 c) p;rw[o]at this;calc this
def rD{r e:R2}(a:OpR X f r)(b:OpR X f e):OpR X f (λx y H Q=>r x y H Q\/e x y H Q):=λNi s σ H x y v u Q I d c h=>h.elim (a Ni s σ H x y v u Q I d c)<|b Ni s σ H x y v u Q I d c
def DC(c:bV k X.A):OpR X (KY .Eq) (rFm X.K):=λNi s σ H x y v u Q I b a h=>rD bK (DA c) Ni s σ H x y v u Q I b a<|h<|Ff I
def DD(c:bV k X.A):OpR X (KY .NotEq) (Fg X.K):=λNi s σ H x y v u Q I b a h=>rD km (DB c) Ni s σ H x y v u Q I b a<|h<|Ff I
def FmV.eq_to{K:am}{L:Type} [DecidableEq L] {A:Lfp K L}:∀{n:Nat}{f g:Fm L n}{u v:V},n<=20->FmV A H n f u->FmV A H n g v->Q (.bl<|Nh<|f=g) H->rFm K u v H Q
 |0,f,g,_,_,_,h,h',q=>λc=>A.eq c h h' q
 |n+1,f,g,_,_,hn,h,h',q=>λc=>by
  let(a,xs,rfl,o,l):=h;let(b,k,rfl,i,e):=h';let(t,s):=FmL.deq (R:=FmV A H n) (K:=K) (m:=2*n+2) (λx y u q d=>FmV.inj c q d) (λx y u v q d=>FmV.deq c q d) l e;calc .inr <| .tt a b xs k U U (P9 o) (P9 i) _ (λj x y r p=>(t j x y r p).mono ∅) ?_;rw[Nj ⋯,s];calc q
def Ab(x y:Int):decide (pi x=pi y)=Nh (x=y):=by
 by_cases e:x=y
 .rw[Nm e,e];simp
 .rw[Nn e];calc Nn λz=>e<|V.int.inj z
def Ac(x y:Int):eqV (.int x) (.int y)=Nh (x=y):=by
 show((x:Int) == (y:Int))=Nh (x=y);by_cases e:x=y
 .rw[Nm e,e];simp
 .rw[Nn e];calc beq_eq_false_iff_ne.mpr e
def  ji{K:am}:Lfp K Int where
 R _ x v:=v=.int x
 mono _ h:=h
 inj _ h h':=V.int.inj (h.symm.trans h')
 deq {H x y u v} _ h h':=by
  cases h;cases h';rw[←Ac];exact .of (.flat U U)
 eq {H x y u v Q} _ h h' q:=by
  cases h;cases h';calc .inl (U,?_,);rw[Ab];exact q
 ne {H x y u v Q} _ h h' q:=by
  cases h;cases h';calc .inl (U,?_,);rw[Ab];calc q
abbrev SI2:=Str×Int
def  tp2(p:SI2):Nt V:=[.str p.1,.int p.2]
def Bu{p q:SI2}(h:tp2 p=tp2 q):p=q:=by
 injection h with b a;injection a with a c;calc Prod.ext (V.str.inj b)<|V.int.inj a
def  Vd(K:am)(H:Hp)(r:Jr)(x:SI2):Prop:=H r=Nc (.tup<|tp2 x)\/ModT K r (tp2 x)
def Vd.sq{K:am}{H:Hp}{r:Jr}{x:SI2}(h:Vd K H r x):SqT K H r (tp2 x):=h.elim (λh=>P9 h) λh=>h.sq H
def Vd.mono{K:am}{H H':Hp}{r:Jr}{x:SI2}(s:cc H H')(h:Vd K H r x):Vd K H' r x:=h.imp (λh=>s _ _ h) id
def Vd.inj{K:am}{H:Hp}{r:Jr}{x y:SI2}(a:nJ K H)(h:Vd K H r x)(h':Vd K H r y):x=y:=Bu<|a r _ _ h.sq h'.sq
def DE(x y:Str):eqV (.str x) (.str y)=Nh (x=y):=by show(x == y)=_;rw[lc];simp
def  fSI(x y:SI2)(j:Nat):Bool:=if j=0 then decide (x.1=y.1)else decide (x.2=y.2)
def sF(x y:SI2):((db<|min ⇑(tp2 x) ⇑(tp2 y)).all (fSI x y) && ⇑(tp2 x) == ⇑(tp2 y))=Nh (x=y):=by
 show((db 2).all (fSI x y) && (2 == 2:Bool))=_;let(d,c):=x;let(b,a):=y;unfold fSI;by_cases f:d=b <;> by_cases e:c=a <;> simp[kF,f,e]
def vV{K:am}{H:Hp}{n:Nat}{x y:SI2}(j:Nat)(u v:V)(a:(tp2 x)[j]?=Nc u)(b:(tp2 y)[j]?=Nc v):fD K H n u v (fSI x y j):=by
 match j,a,b with
 |0,a,b =>
  cases a;cases b;show fD K H n _ _ (Nh<|x.1=y.1);rw[←DE];exact .of<|.flat U U
 |1,a,b =>
  cases a;cases b;show fD K H n _ _ (Nh<|x.2=y.2);rw[←Ac];exact .of<|.flat U U
 |j+2,a,_=>simp[tp2]at a
def Vd.deq{K:am}{H:Hp}{n:Nat}{a b:Jr}{x y:SI2}(c:nJ K H)(h:Vd K H a x)(h':Vd K H b y):fD K H (n+1) (.ref a) (.ref b) (Nh<|x=y):=by
 by_cases e:a=b
 .subst e;rw[Nm (Vd.inj c h h')];exact .of<|.same a
 .let:=fD.tup (n:=n) e h.sq h'.sq (f:=fSI x y) vV;rw[sF]at this;calc this
def  LVd{K:am}:Lfp K SI2 where
 R H x v:=∃r,v=.ref r/\Vd K H r x
 mono s:=λ(r,e,h,)=>(r,e,h.mono s,)
 inj {H x y v} hT h a:=by
  let(r,rfl,h):=h;let(b,e,a):=a;cases e;exact Vd.inj hT h a
 deq {H x y u v} hT h a:=by
  let(r,rfl,h):=h;let(b,rfl,a):=a;exact Vd.deq (n:=1) hT h a
 eq {H x y u v Q} hT h a q:=by
  let(r,rfl,h):=h;let(b,rfl,a):=a;calc .inr<|.tt r b _ _ U U h.sq a.sq (fSI x y) vV ?_;rw[Nj ⋯,sF];exact q
 ne {H x y u v Q} hT h a q:=by
  let(r,rfl,h):=h;let(b,rfl,a):=a;calc .inr<|.tt r b _ _ U U h.sq a.sq (fSI x y) vV ?_;rw[Nk U,sF];calc q
def  PdV(K:am)(H:Hp)(t:Jr)(p:SI2×SI2):Prop:=∃a b,H t=Nc (.tup [.ref a,.ref b])/\Vd K H a p.1/\Vd K H b p.2
def PdV.mono{K:am}{H H':Hp}{t:Jr}{p:SI2×SI2}(s:cc H H')(h:PdV K H t p):PdV K H' t p:=by let(a,b,e,d,c):=h;calc(a,b,s _ _ e,d.mono s,c.mono s,)
def  fPd(x y:SI2×SI2)(j:Nat):Bool:=if j=0 then decide (x.1=y.1)else decide (x.2=y.2)
def sG(x y:SI2×SI2)(a b c d:V):((db<|min [a,b].length [c,d].length).all (fPd x y) && [a,b].length == [c,d].length)=Nh (x=y):=by
 show((db 2).all (fPd x y) && (2 == 2:Bool))=_;let(h,g):=x;let(f,e):=y;unfold fPd;by_cases j:h=f <;> by_cases i:g=e <;> simp[kF,j,i]
def vW{K:am}{H:Hp}{n:Nat}{x y:SI2×SI2}{a b c d:Jr}(g:nJ K H)(i:Vd K H a x.1)(h:Vd K H b x.2)(k1:Vd K H c y.1)(k2:Vd K H d y.2)(j:Nat)(u v:V)(e:[Qf a,Qf b][j]?=Nc u)(f:[Qf c,Qf d][j]?=Nc v):fD K H (n+1) u v (fPd x y j):=by
 match j,e,f with
 |0,e,f=>cases e;cases f;exact Vd.deq g i k1
 |1,e,f=>cases e;cases f;exact Vd.deq g h k2
 |j+2,e,_=>simp at e
def o7{α:Type} [DecidableEq α] (x y:α):decide (Nc x=Nc y)=Nh (x=y):=by
 by_cases e:x=y
 .rw[Nm e,e];exact Nm U
 .rw[Nn e];calc Nn λz=>e<|bn z
def  RPd(K:am)(H:Hp):Option (SI2×SI2)->V->Prop
 |none,v=>v=.int 0
 |some p,v=>∃t,v=.ref t/\PdV K H t p
def  LPd{K:am}:Lfp K (Option<|SI2×SI2) where
 R:=RPd K
 mono {H H' x v} s h:=by
  cases x with
  |none=>exact h
  |some p=>obtain⟨t,e,h⟩:=h;exact(t,e,h.mono s,)
 inj {H x y v} hT h h':=by
  cases x with
  |none =>
   cases y with
   |none=>rfl
   |some p=>obtain⟨t,e,_⟩:=h';rw[show v=.int 0 from h]at e;cases e
  |some p =>
   let(t,rfl,a,b,e,j,i):=h;cases y with
   |none=>cases (show Qf t=.int 0 from h')
   |some q =>
    let(k,g,r,o,l,d,c):=h';cases g;rw[e]at l;cases l;rw[Prod.ext (Vd.inj hT j d) (Vd.inj hT i c)]
 deq {H x y u v} hT h h':=by
  cases x with
  |none =>
   cases (show u=.int 0 from h);cases y with
   |none=>cases (show v=.int 0 from h');exact .of<|.flat U U
   |some p=>obtain⟨t,rfl,a,b,e,_⟩:=h';exact .it<|P9 e
  |some p =>
   let(t,rfl,a,b,e,j,i):=h;cases y with
   |none=>cases (show v=.int 0 from h');exact .ti<|P9 e
   |some q =>
    let(k,rfl,r,o,g,d,c):=h';rw[o7];by_cases w:t=k
    .subst w;rw[e]at g;cases g;rw[Nm (Prod.ext (Vd.inj hT j d)<|Vd.inj hT i c)];exact .of<|.same t
    .let:=fD.tup (n:=1) w (P9 e) (P9 g) (f:=fPd p q)<|vW (n:=0) hT j i d c;rw[sG]at this;exact this
 eq {H x y u v Q} hT h h' q:=by
  cases x with
  |none =>
   cases (show u=.int 0 from h);cases y with
   |none=>cases (show v=.int 0 from h');exact .inl (U,q,)
   |some p=>obtain⟨t,rfl,a,b,e,_⟩:=h';exact .inr<|.it t _ 0 U U (P9 e) q
  |some p =>
   let(t,rfl,a,b,e,j,i):=h;cases y with
   |none=>cases (show v=.int 0 from h');exact .inr<|.ti t _ 0 U U (P9 e) q
   |some m =>
    let(k,rfl,r,o,g,d,c):=h';calc .inr<|.tt t k _ _ U U (P9 e) (P9 g) (fPd p m) (vW (n:=59) hT j i d c) ?_;rw[Nj ⋯,sG,←o7];exact q
 ne {H x y u v Q} hT h h' q:=by
  cases x with
  |none =>
   cases (show u=.int 0 from h);cases y with
   |none=>cases (show v=.int 0 from h');exact .inl (U,q,)
   |some p=>obtain⟨t,rfl,a,b,e,_⟩:=h';exact .inr<|.it t _ 0 U U (P9 e) q
  |some p =>
   let(t,rfl,a,b,e,j,i):=h;cases y with
   |none=>cases (show v=.int 0 from h');exact .inr<|.ti t _ 0 U U (P9 e) q
   |some m =>
    let(k,rfl,r,o,g,d,c):=h';calc .inr<|.tt t k _ _ U U (P9 e) (P9 g) (fPd p m) (vW (n:=59) hT j i d c) ?_;rw[Nk U,sG,←o7];calc q
def rE(p:Pos)(a b:Int)(c:I1):∀(l:Nt I1),TriplesOk l->M9 p (l++[KG a,KG b,c])=(M9 p l).or (M9 p [KG a,KG b,c])
 | [],_=>rfl
 | .int x t :: .int y u :: d :: rest,h=>by
  let e:=rE p a b c rest h;show M9 p (.int x t :: .int y u :: d :: (rest++[KG a,KG b,c]))=_;rw[M9,M9];split
  .rfl
  .exact e
def  dA(H:Hp)(P:Jr)(L:Nt (Pos×Str)):Prop:=∃ps,H P=Nc (.tbl ps)/\TriplesOk ps.toList/\∀p∈L,M9 p.1 ps.toList=Nd\/∃(b:Jr)(a:Obj),M9 p.1 ps.toList=↑b/\H b=Nc (.frz a TTh)/\uh a p.2
def dA.same{H H':Hp}{P:Jr}{L:Nt (Pos×Str)}(h:dA H P L)(s:au H H'):dA H' P L:=by
 let(ps,i,g,f):=h;calc(ps,s _ _ i,g,λp e=>(f p e).imp id λ(c,o,a,b,d,)=>(c,o,a,s _ _ b,d,),)
def dA.new{P:Jr}{L:Nt (Pos×Str)}(h:H P=Nc (.tbl #[])):dA H P L:=(#[],h,trivial,λ_ _=>.inl U,)
def  GG(P:Jr)(pos:Pos)(qual:Str)(mk:I1->Jr->I1->Obj)(clos:Nt (Str×Jr)):TE:=λ_ H Q=>∃L,(pos,qual)∈L/\(∀p∈L,p.1.line=pos.line->p.1.col=pos.col->p.2=qual)/\dA H P L /\
 ∀(f g:Jr)(e:Obj)(h d:I1)(c:Hp),H f=Nd->(∀b o,b≠P->H b=Nc o->c b=Nc o)->c f=Nc (.frz (mk h g d) TTh)->c g=Nc (.frz e TTh)->uh e qual->dA c P L->(∀x y a,clos.lookup x=Nc a->clos.lookup y=Nc a->x=y)->Q (.ref f) c
def sH{pos:Pos}{c P:Jr}{clos:Nt (Str×Jr)}(CD:X.env.code=.ref c)
  (C:NV X.base c P)(hb:X.base.BuiltinsAt X.mg P)(V:LA scope X.env=pure clos)(S:∀p∈clos,X.env.cells.lookup p.1=Nc p.2)(Fh:defaultsOf params X.env=([],[]):=by rfl) :
  PE X (.Lambda params body scope pos) (GG P pos (X.env.qual ++ "<lambda>") (λpm c' ctv=>lm "<lambda>" (X.env.qual ++ "<lambda>") params body scope clos pm c' ctv) clos):=by
 intro Ni s σ H Q I h;let(L,hL,b0,(ps,A,N,J),k):=h;let D:s.heap.get? P=Nc (W.tabObj ps):=I.hok P _ A;let K:s.heap.Ns JU X.mg:=I.mod.glob.keeps I.bk;let a8:JU≠P:=λq=>by
  let(o,es,ep,e,hd,_):=K;rw[q,D]at e;cases e;cases hd
 let inj:∀x y a,clos.lookup x=Nc a->clos.lookup y=Nc a->x=y:=λx y a F h2=>I.ok.inj x y a (S _<|mem_of_lookup F)<|S _<|mem_of_lookup h2
 rcases J _ hL with a7|⟨c',l,hf,M,B⟩
 .refine W.kla_eval Fh<|W.kla_makeFunction V I.ok.glob K CD (C.keeps I.bk) D N a7 a8 (hb.keeps I.bk) λc' ctv g tk a5 m R GH O=>?_;let(b1,l,vs,t,e2,a6,a9,hv):=GH;cases e2;let T:∀b,↥s<=b->H b=none:=λb f=>I.hok.fresh f
  let Y:P<↥s:=bi D;let a4:c'≠P:=λz=>by rw[z]at m;exact Nl Y<|N6.mpr m
  let i:↥s<=g.objs.size:=uU m<|vl R;let a3:g.objs.size≠P:=λz=>by rw[z]at i;exact Nl Y<|N6.mpr i
  let a2:g.objs.size≠c':=vo R;let r:=T _ i;let M:=T _ m;let j:∀{b:Jr}{u:HO},b≠P->H b=Nc u->upd (upd (upd H P<|.tbl<|ps ++ #[KG pos.line,KG pos.col,.ref c']) c'<|.frz l TTh) g.objs.size (.frz (lm "<lambda>" (X.env.qual ++ "<lambda>") params body scope clos ((X.mg "__name__").getD .none) c' ctv) TTh) b=Nc u:=λ{b u} f e=>by
   rw[aw (aW e r),aw<|aW e M,aw f];exact e
  let a0:upd (upd (upd H P<|.tbl<|ps ++ #[KG pos.line,KG pos.col,.ref c']) c'<|.frz l TTh) g.objs.size (.frz (lm "<lambda>" (X.env.qual ++ "<lambda>") params body scope clos ((X.mg "__name__").getD .none) c' ctv) TTh) P=Nc (.tbl<|ps ++ #[KG pos.line,KG pos.col,.ref c']):=by
   rw[aw a3.symm,aw a4.symm,ae]
  let G:∀{b:Jr},H b=Nd->b≠P:=λe z=>by rw[z,A]at e;cases e
  let keep:∀b o,b≠P->s.heap.get? b=Nc o->(g.push<|lm "<lambda>" (X.env.qual ++ "<lambda>") params body scope clos ((X.mg "__name__").getD .none) c' ctv).get? b=Nc o:=λb o f e=>bd _<|a5 b o f e
  let un:Un X.fs [] H (upd (upd (upd H P<|.tbl<|ps ++ #[KG pos.line,KG pos.col,.ref c']) c'<|.frz l TTh) g.objs.size<|.frz (lm "<lambda>" (X.env.qual ++ "<lambda>") params body scope clos ((X.mg "__name__").getD .none) c' ctv) TTh) s.heap (g.push<|lm "<lambda>" (X.env.qual ++ "<lambda>") params body scope clos ((X.mg "__name__").getD .none) c' ctv):=by
   refine(λb o e n _ _=>keep b o (G n) e,λb o e n _ _=>(o.slots,keep b o (G n) e,),λb o e n _=>?_,λb o e _=>?_,λb xs e=>j (λz=>by rw[z,A]at e;cases e) e,λb o u e=>j (λz=>by rw[z,A]at e;cases e) e,λb a1 e=>?_,)
   .let f:=bi e;rw[aw (uR<|u7 f i),aw<|uR<|u7 f m,aw (G n)];exact n
   .by_cases f:b=P
    .subst f;exact(_,bd _ O,)
    .exact(o,keep b o f e,)
   .by_cases f:b=P
    .subst f;rw[A]at e;cases e;exact(_,a0,)
    .exact(#[],by rw[j f e];simp,)
  let hok:HOk X.prog X.w (upd (upd (upd H P<|.tbl<|ps ++ #[KG pos.line,KG pos.col,.ref c']) c'<|.frz l TTh) g.objs.size<|.frz (lm "<lambda>" (X.env.qual ++ "<lambda>") params body scope clos ((X.mg "__name__").getD .none) c' ctv) TTh) (g.push<|lm "<lambda>" (X.env.qual ++ "<lambda>") params body scope clos ((X.mg "__name__").getD .none) c' ctv):=λb u e=>by
   by_cases F:b=g.objs.size
   .subst F;rw[ae]at e;cases e;exact ug<|ci _ U
   rw[aw F]at e;by_cases h2:b=c'
   .subst h2;rw[ae]at e;cases e;exact ug<|bd _ a6
   rw[aw h2]at e;by_cases h3:b=P
   .subst h3;rw[ae]at e;cases e;exact bd _ O
   rw[aw h3]at e;refine(I.hok b u e).stay (λd v hd q=>keep d v ?_ q) (λd q=>j (λz=>by rw[z,A]at q;cases q) q) λd xs q=>j (λz=>by rw[z,A]at q;cases q) q
   rcases hd with rfl|hd
   .exact h3
   .exact λz=>by rw[z,A]at hd;cases hd
  let I2:=I.un (t':=tk) un hok;let B:uh l (X.env.qual ++ "<lambda>"):=(vs,t,a9,hv,);let Z:upd (upd (upd H P<|.tbl<|ps ++ #[KG pos.line,KG pos.col,.ref c']) c'<|.frz l TTh) g.objs.size (.frz (lm "<lambda>" (X.env.qual ++ "<lambda>") params body scope clos ((X.mg "__name__").getD .none) c' ctv) TTh) c'=Nc (.frz l TTh):=(aw a2.symm).trans ae;refine(.ref g.objs.size,_,I2,U,k _ c' l _ ctv _ r (λb o f e=>j f e) ae Z B (_,a0,?_,λp hp=>?_,) inj,)
  .rw[Er];exact TriplesOk_snoc _ _ _ _ N
  .rw[Er];show M9 p.1 (ps.toList++[KG pos.line,KG pos.col,.ref c'])=Nd\/∃(d:Jr)(l:Obj),M9 p.1 (ps.toList++[KG pos.line,KG pos.col,.ref c'])=↑d/\_;rw[rE _ _ _ _ _ N];rcases J p hp with q|⟨d,od,q1,q2,q3⟩
   .rw[q];show M9 p.1 [KG pos.line,KG pos.col,.ref c']=Nd\/∃(d:Jr)(l:Obj),M9 p.1 [KG pos.line,KG pos.col,.ref c']=↑d/\_;by_cases e:p.1.line=pos.line/\p.1.col=pos.col
    .let e3:M9 p.1 [KG pos.line,KG pos.col,.ref c']=↑c':=by
      show(if ((pos.line:Int) == (p.1.line:Int) && (pos.col:Int) == (p.1.col:Int))=Nf then Nc (io c')else Nd)=_;rw[e.1,e.2];simp
     exact .inr (c',l,e3,Z,by rw[b0 p hp e.1 e.2];exact B,)
    .left
     show(if ((pos.line:Int) == (p.1.line:Int) && (pos.col:Int) == (p.1.col:Int))=Nf then Nc (io c')else Nd)=Nd;rw[Nj λz=>e ?_];rw[EY,beq_iff_eq,beq_iff_eq]at z;lia
   .exact .inr (d,od,by rw[q1];rfl,j (λz=>by rw[z,A]at q2;cases q2) q2,q3,)
 .refine W.kla_eval Fh<|W.kla_makeFunctionHit V I.ok.glob K CD (C.keeps I.bk) D N hf (hb.keeps I.bk) λctv g tk kp i=>?_;let r:H g.objs.size=none:=I.hok.fresh i;let E:au H (upd H g.objs.size<|.frz (lm "<lambda>" (X.env.qual ++ "<lambda>") params body scope clos ((X.mg "__name__").getD .none) c' ctv) TTh):=ai r _;let keep:∀b o,s.heap.get? b=Nc o->(g.push<|lm "<lambda>" (X.env.qual ++ "<lambda>") params body scope clos ((X.mg "__name__").getD .none) c' ctv).get? b=Nc o:=λb o e=>bd _<|kp b o e
  let un:Un X.fs [] H (upd H g.objs.size<|.frz (lm "<lambda>" (X.env.qual ++ "<lambda>") params body scope clos ((X.mg "__name__").getD .none) c' ctv) TTh) s.heap (g.push<|lm "<lambda>" (X.env.qual ++ "<lambda>") params body scope clos ((X.mg "__name__").getD .none) c' ctv):=by
   refine(λb o e n _ _=>keep b o e,λb o e n _ _=>(o.slots,keep b o e,),λb o e n _=>?_,λb o e _=>(o,keep b o e,),λb xs e=>E _ _ e,λb o u e=>E _ _ e,λb a1 e=>(#[],by rw[E _ _ e];simp,),);let f:=bi e;rw[aw (uR<|u7 f i)];exact n
  let hok:HOk X.prog X.w (upd H g.objs.size<|.frz (lm "<lambda>" (X.env.qual ++ "<lambda>") params body scope clos ((X.mg "__name__").getD .none) c' ctv) TTh) (g.push<|lm "<lambda>" (X.env.qual ++ "<lambda>") params body scope clos ((X.mg "__name__").getD .none) c' ctv):=λb u e=>by
   by_cases F:b=g.objs.size
   .subst F;rw[ae]at e;cases e;exact ug<|ci _ U
   rw[aw F]at e;exact(I.hok b u e).stay (λd v _ q=>keep d v q) (λd q=>E _ _ q) λd xs q=>E _ _ q
  let I2:=I.un (t':=tk) un hok;calc(.ref g.objs.size,_,I2,U,k _ c' l _ ctv _ r (λb o _ e=>E _ _ e) ae (E _ _ M) B (dA.same (ps,A,N,J,) E) inj,)
def DF
  (S:mR N ps scope cl)(inj:∀x y c,cl.lookup x=Nc c->cl.lookup y=Nc c->x=y)
  (len:∀vs H Q E,sp vs H Q E->⇑vs=⇑ps)
  (fV:∀(A:JX)(g:Nt Env)(s:JY)(H:Hp)(vs:Nt V)(Q:VK)(E:XK),bV k (A.deeper<|Pb qual scope ↥s f (.ref c') cl)->sp vs H Q E ->
   (∃M,H f=Nc (.frz (lm name qual params body scope cl pm c' ctv) TTh)/\H c'=Nc (.frz M TTh)/\uh M qual)/\∃ws,fN H cl ws/\(∀x∈N.drop ⇑ps,∀v,ws.lookup x=Nc v->scope.names.lookup x=Nc .free) /\
   ((∀c∈cl.map (·.2),base.get? c=Nd/\c ∉ frs g)->∃t:TE,PE (cxC CX P w K mg base N qual scope f (.ref c') cl A g s H E) body t/\t (mS N ps vs ws) (hideL H (cl.map (·.2))) λv H'=>(∀c∈cl.map (·.2),H' c=Nd)->Q v (backL H H' (cl.map (·.2))))) :
  aL P w K mg base CX (k+1) f (W.kla_fn name qual params body scope cl pm (.ref c') ctv) ps sp:=by
 calc(len,λA g s H a9 us vs Q E hr l hb r R=>?_,);let hl:=len _ _ _ _ R;let((M,ef,ec,a0,t',a7,a6),ws,Y,wB,Fi):=fV A g s H vs Q E (hr.deeper _) R;let(t,ht,hq):=Fi λc D=>by
  let(o,e):=Y.fzs c D;refine⟨?_,λz=>by rw[l.frf c z]at e;cases e⟩;cases eb:base.get? c with
  |none=>rfl
  |some ob=>rw[(l.bs c ob eb).2]at e;cases e
 let a2:s.heap.NoLimit:=l.mod.nolimit.keeps λb o e=>(l.bs b o e).1
 let eo:s.heap.get? f=Nc (lm name qual params body scope cl pm c' ctv):=(l.hok f _ ef).1;let a8:s.heap.get? c'=Nc M:=(l.hok c' _ ec).1;let a3:⇑us=⇑ps:=by rw[←⇑r];exact hl
 let a1:ps.Nodup:=by rw[←S.pre];exact S.nd.sublist<|mu _ _
 let fz:=Y.fzs;let T:∀{x:Str}{c:Jr},cl.lookup x=Nc c->c∈cl.map (·.2):=λe=>oZ e
 calc W.kla_callFunE hr.depth eo U S.co S.gen U (c',M,a0,t',U,a8,a7,a6,)<|hb _ _ _ _ ?_;calc LH S.nocell (λx n=>S.par x.1 (qd n).1) (λB a5 a4=>?_) S.kind;let j:∀b o,s.heap.get? b=Nc o->B.get? b=Nc o:=λb o e=>a4.extBut b o (uR<|bi e)<|bd _ e
 calc(a2.keeps j,W.kla_codeExpr ?_,);let G:∀{b:Jr},H b=Nd->hideL H (cl.map (·.2)) b=none:=λh=>eV h
 let I:Inv (cxC CX P w K mg base N qual scope f (.ref c') cl A g s H E) [] (mS N ps vs ws) (hideL H (cl.map (·.2))) { s with heap:=B,toks:=s.toks+⇑(ps.zip us) }:=by
  let F:∀b:Jr,b ∉ (cxC CX P w K mg base N qual scope f (.ref c') cl A g s H E).ex:=λb z=>Nl (show b∈([]:Nt Jr)from z) (by simp)
  refine((l.mod,S.kind,U,U,uN _,λx y c L m=>inj x y c L m,λx n=>?_,λx c hf=>?_,λ_=>hr.hd,JX.frames_deeper l.frames,.inr (U,U,),λb z=>Nl z<|F b,λb o e=>((l.bs b o e).1,G (l.bs b o e).2,),l.bsz,λb _ _=>F b,λb z=>Nl z<|F b,l.funs,λb hb=>G<|l.frf b hb,),
   rfl,l.bare,Un.kept j,(_,a5,λi x v L m h3=>?_,),λx c h=>?_,G<|l.hok.fresh<|uN _,λx c h=>jx<|T h,λp Z=>Nl (show p∈([]:Nt (Jr×Obj))from Z) (by simp),(l.hok.hideL fz).kept j,?_,)
  .let n:scope.names.lookup x=Nc .cell\/scope.names.lookup x=Nc .free:=n;rcases n with n|n
   .exact Nl U<|S.nocell _<|mem_of_lookup n
   .exact S.has _ (mem_of_lookup n) U
  .exact Nl (show Ng=Nf from hf) cr
  .let L:N[i]?=Nc x:=L;unfold mS at m;by_cases hi:i<⇑vs
   .rw[iv (~~~hi),fi]at m;let ha:vs[i]?=Nc v:=by
     cases e:vs[i]? with
     |none=>rw[e]at m;cases m
     |some a=>rw[e]at m;cases m;rfl
    let(u,hu,C):=r.get ha;let Z:ps[i]?=Nc x:=by rw[←S.pre,KB ∅];exact L
    exact(u,C,.inl (S.par x<|JQ Z,vT a1 Z hu a3,),)
   .rw[kc (~~~hi),fi,af]at m;cases e:(N.drop ⇑ps)[i-⇑vs]? with
    |none=>rw[e]at m;cases m
    |some y =>
     rw[e]at m;let m:Nc (ws.lookup y)=Nc (Nc v):=m;let m:=bn m;let hy:y=x:=by
      rw[sk,show ⇑ps+(i-⇑vs)=i by lia,L]at e;exact(bn e).symm
     subst hy;let(c,o,u,e1,e2,e3,C):=Y.2 y v m;exact(u,C,.inr (.inr<|wB y (JQ e) v m,c,e1,o,j _ _ (l.hok c _ e2).1,e3,),)
  .let(o,v,e,d):=Y.1 c<|T h;exact(v,o,j _ _ (l.hok c _ e).1,d,)
  .unfold mS;show _=N.length;let b0:⇑ps<=N.length:=by have:=Nq sK S.pre;rw[hZ]at this;lia
   rw[cb,af,af,jP];lia
 refine Kj (ht [] _ (mS N ps vs ws) _ _ I hq) (λu X hs=>?_) λe X hs=>hs
 let fin:∀{O:St}{H':Hp}{v:V}{u:I1},Inv (cxC CX P w K mg base N qual scope f (.ref c') cl A g s H E) [] O H' X->RelV v u->((∀c∈cl.map (·.2),H' c=Nd)->Q v (backL H H' (cl.map (·.2))))->CE g P w H s Q u X:=λ{O H' v u} J C q=>by
  let un:Un (frs g) [] (hideL H (cl.map (·.2))) H' s.heap X.heap:=J.base;let nc:∀c∈cl.map (·.2),H' c=none:=λc D=>by
   let((x,d),hm,rfl):=cU.mp D;let(o,e):=fz d D;exact un.free d o (l.hok d _ e).1 (jx D) (by simp)
  calc(v,backL H H' (cl.map (·.2)),J.os,J.bare,un.backL fz,J.hok.backL fz nc λc D o e=>?_,C,q nc,);refine un.keep c o (l.hok c _ e).1 (jx D) (λz=>?_) (by simp);rw[l.frf c z]at e;cases e
 let(v,H',J,C,q):=hs;calc fin J C q
def  wO(st:Ki)(k:Nat):Ke:=match st with
 | .Assign _ (.Call _ as _ _) _=>as.getD k<|.Name "" (0,0,0,0,)
 | .Return (Nc<|.Call _ as _ _) _=>as.getD k<|.Name "" (0,0,0,0,)
 |_=>.Name "" (0,0,0,0,)
def  kL(e:Ke):Li:=match e with
 | .Lambda a _ _ _=>a
 |_=>iR<|.Pass (0,0,0,0,)
def  j6(e:Ke):Ke:=match e with
 | .Lambda _ b _ _=>b
 |e=>e
def  gC(e:Ke):JZ:=match e with
 | .Lambda _ _ s _=>s
 |_=>ao<|.Pass (0,0,0,0,)
def  iV(e:Ke):Pos:=match e with
 | .Lambda _ _ _ p=>p
 |_=>(0,0,0,0,)
section
variable{mg:Str->Option I1}
def sI(S:mR N ps (gC e) cl)(inj:∀x y c,cl.lookup x=Nc c->cl.lookup y=Nc c->x=y)
  (m:∀us:Nt I1,⇑us=⇑ps->Lb (W.kla_fn "<lambda>" qual (kL e) (j6 e) (gC e) cl pm (.ref c') ctv) (us,[],)=pure (ps.zip us))
  (len:∀vs H Q E,sp vs H Q E->⇑vs=⇑ps)
  (z:∀(A:JX)(d:Nt Env)(s:JY)(H:Hp)(vs:Nt V)(Q:VK)(E:XK),bV k (A.deeper<|Pb qual (gC e) ↥s f (.ref c') cl)->sp vs H Q E ->
   ∃ws,fJ H f c' (lm "<lambda>" qual (kL e) (j6 e) (gC e) cl pm c' ctv) qual cl ws/\(∀y∈N.drop ⇑ps,∀v,ws.lookup y=Nc v->(gC e).names.lookup y=Nc .free) /\
   ((∀c∈cl.map (·.2),base.get? c=Nd/\c ∉ frs d)->∃t:TE,PE (cxC CX0 P w K mg base N qual (gC e) f (.ref c') cl A d s H E).nox (j6 e) t/\t (mS N ps vs ws) (hideL H (cl.map (·.2))) λv H'=>(∀c∈cl.map (·.2),H' c=Nd)->Q v (backL H H' (cl.map (·.2))))) :
  HFn P w K mg base (k+1) f sp:=by
 refine(_,ps,DF (name := "<lambda>") (qual:=qual) (c':=c') (params:=kL e) (body:=j6 e) (pm:=pm) (ctv:=ctv) S inj len λA d s H vs Q E i g=>?_,.all λus j=>?_,)
 .let(ws,(u,(h,r,q),p),o,n):=z A d s H vs Q E i g;calc((h,u,r,q,),ws,p,o,λl=>?_,);let(t,a,b):=n l;exact(t,a.nox,b,)
 .exact m us j
end
section
variable{t:TA}
end
inductive TFn(K:am)(x:Str)(st:Ki):Prop
 |mk {f c t:Jr}{fd:K9}(a:li K JU x=Nc ↑f)(F:Fun K x x st f fd)(hc:fd.code=.ref c)(ht:kt K x=Nc (c,t))
def tfn_mk{K:am}{x:Str}{st:Ki}{f c t:Jr}{g kV doc pm n:I1}{d p:Option Jr}{b:Array (Option I1)}{j:I1}{i:Option Jr}{vs:Array I1}{h:Array (Option I1)}(a:li K JU x=Nc ↑f)
  (l:K.lookup f=Nc (g,d,.func<|Pa x x (iR st) (cK st) (ao st) .none kV doc pm p (.ref c) n,b,))(o:P0 K (.ref c) x=Nf)(m:GE K (.ref f)=Nf)(k:K.lookup c=Nc (j,i,.fields vs,h,))(e:vs[11]?=↑t):TFn K x st :=
 (a,fun_mk l o m,U,tab_mk a l k e,)
def n8(h:t∈(kt K x).toList):kt K x=Nc t:=by
 cases e:kt K x with
 |none=>rw[e]at h;cases h
 |some z=>rw[e]at h;rw[eO.mp h]
section
variable{t:TA}
inductive vX(X:Cx)(k i:Nat)(t:TA)(σ:St)(H:Hp)(Q:VK):Prop
 |h (_:zW X k i t σ H Q):vX X k i t σ H Q
 |k (f:Jr)(sp:Sp)(_:σ[i]?=Nc ↑f)(_:GE X.K (.ref f)=Nf)(_:HFn X.prog X.w X.K X.mg X.base k f sp)(_:t σ H λvs H1=>sp vs H1 Q E0):vX X k i t σ H Q
def Ad(d:bV k X.A)(j:X.N[i]?=Nc x)(c:Vis X.env.scope x)(g:PA X (e :: es) t)(hd:(x == ("__debug__" : Str))=false:=by decide) (b:(x == ("__classdict__" : Str))=false:=by decide)
  (he:Kh (e :: es) X.env=(Ng,eval e X.env) :: Kh es X.env:=by rfl)(a:(Kg pos<|Kh es X.env).any (·.1)=false:=by rfl):PE X (.Call (.Name x p) (e :: es) [] pos) (vX X k i t):=by
 intro Ni s σ H Q I h;cases h with
 |h h=>exact sv d j c g hd b he a Ni s σ H Q I h
 |k f sp C y B h =>
  let(M,L,F,z):=B;calc GW<|thn (uX j c hd b Ni s σ H (λv G=>v=.ref f/\G=H) I<|qg.of C (U,U,)) λu n (v,D,m,q,w,)=>?_;let(rfl,rfl):=w;cases (show u=io f from q);calc EQ (h₀:=X.base) m.ok.mod.kin y (thn (g pos Ni n σ D _ m h) λK s2 (J,O,l,o,r,)=>(l.kIn,?_,)) he a;calc rR (E:=E0) (dvs:=[]) (ds:=[]) F d z .nil bC l o (by rw[ik];exact r)
def  GI(X:Cx)(k:Nat)(sp:Sp):TE:=λ_ H Q=>∀f,HFn X.prog X.w X.K X.mg X.base k f sp->GE X.K (.ref f)=Nf->Q (.ref f) H
def DG(C:Callee X.prog X.w X.K X.mg X.base k x ps sp)(c:Gl X x)(hd:(x == ("__debug__" : Str))=false:=by decide):PE X (.Name x pos) (GI X k sp):=by
 let(f,d,F,b,a,m):=C;intro Ni s σ H Q I h;calc dM I c m (.ref f,H,I,U,h f (d,_,F,b,) a,) hd
end
def  tZE(zs:Nt (Str×Nat×Jr))(sp:Sp)(E:XK)(t:TA):TE:=λσ H Q=>t σ H λd c=>∀a:Nt Obj,⇑a=⇑zs->(∀z∈zs,c z.2.2=Nd) ->
 (∀(j:Nat)(z:Str×Nat×Jr),zs[j]?=Nc z->∃o w,a[j]?=Nc o/\o.data=.cell w/\∀v,σ[z.2.1]?=Nc (Nc v)->∃u,w=Nc u/\RelV v u) ->
 sp d (gB c ((zs.map (·.2.2)).zip a)) (λv b=>Q v (hideL b (zs.map (·.2.2)))) λe m b=>E e m (hideL b (zs.map (·.2.2)))
section
variable{mg:Str->Option I1}{qual:Str}{f:Jr}{cd:I1}{outer:Nt Env}{s0:JY}{H0:Hp}{E:XK}
def Fun.okTE{x qual:Str}{st:Ki}{f c:Jr}(F:Fun K x qual st f b)(a:b.code=.ref c)(S:ar N ps (ao st))(len:∀vs H Q E,sp vs H Q E->⇑vs=⇑ps)
  (l:∀(A:JX)(outer:Nt Env)(s:JY)(H:Hp)(vs:Nt V)(Q:VK)(E:XK),bV k (A.deeper<|envOfC qual (ao st) ↥s f<|.ref c)->sp vs H Q E ->
   ∃t,PSs (cxE P w K mg base N qual (ao st) f (.ref c) A outer s H E) (cK st) t/\t { nx:=λ_ H'=>Q .non H',rt:=Q } (start N vs) H):aL P w K mg base (CX1 P w) (k+1) f b ps sp:=by
 let(r,p,kV,n,o,v,g,u,m,rfl,i,e):=F.ex;let a:g=.ref c:=a;subst a;refine ze i e S len λA outer s H vs Q E j d=>?_
 let(t,h,q):=l A outer s H vs Q E j d;calc(t,h.leaves,q,)
def mT.passE(z:mT (cxE P w K mg base N qual scope f cd A outer s0 H0 E) s fz)(I:Inv (cxE P w K mg base N qual scope f cd A outer s0 H0 E) Ni σ H s)
  (h:CX1 P w (cxE P w K mg base N qual scope f cd A outer s0 H0 E).stack (gB H fz) s (λp m t=>E p m (hideL t (fz.map (·.1)))) g s'):(cxE P w K mg base N qual scope f cd A outer s0 H0 E).xe g s':=by
 let(e,T,C,r,u,rfl,i,d,un,hok,x,j,k,l,o,q):=h;let J:=(z.inv I i d un hok).unwish;let a:=(I.unwish).newAt U j;let c:=(I.unwish).newAt U k;calc(e,C,r,[T],Ni,σ,_,U,J,.fly x,λb n=>?_,q,);rcases ax.mp n with z|z
 .rw[z];exact(a.ent,eV l,a.loc,a.cel,a.pin,)
 .rw[show b=T by simpa using z];calc(c.ent,eV o,c.loc,c.cel,c.pin,)
def Bv(C:aV P w K mg base k x ps sp)(S:bV k (cxE P w K mg base N qual scope f cd A outer s0 H0 E).A)(V:Gl (cxE P w K mg base N qual scope f cd A outer s0 H0 E) x)(X:PA (cxE P w K mg base N qual scope f cd A outer s0 H0 E) (e :: es) t)
  (hz:∀z∈zs,N[z.2.1]?=Nc z.1/\((cxE P w K mg base N qual scope f cd A outer s0 H0 E).env.scope.names.lookup z.1=Nc .cell\/(cxE P w K mg base N qual scope f cd A outer s0 H0 E).env.scope.names.lookup z.1=Nc .free)/\(cxE P w K mg base N qual scope f cd A outer s0 H0 E).env.cells.lookup z.1=Nc z.2.2/\((cxE P w K mg base N qual scope f cd A outer s0 H0 E).fn z.1=Nf\/(base.get? z.2.2=Nd/\z.2.2 ∉ (cxE P w K mg base N qual scope f cd A outer s0 H0 E).fs)))
  (v:(x == ("__debug__" : Str))=false:=by decide) (he:Kh (e :: es) (cxE P w K mg base N qual scope f cd A outer s0 H0 E).env=(Ng,eval e (cxE P w K mg base N qual scope f cd A outer s0 H0 E).env) :: Kh es (cxE P w K mg base N qual scope f cd A outer s0 H0 E).env:=by rfl)(l:(Kg pos<|Kh es (cxE P w K mg base N qual scope f cd A outer s0 H0 E).env).any (·.1)=false:=by rfl) :
  PE (cxE P w K mg base N qual scope f cd A outer s0 H0 E) (.Call (.Name x p) (e :: es) [] pos) (tZE zs sp E t):=by
 let(f',Z,F,b,R,m):=C;intro Ni s σ H Q I h;calc GW<|dM I V m ?_ v;calc EQ (h₀:=base) I.ok.mod.kin R (thn (X pos Ni s σ H _ I h) λg i (L,H1,a,r,q,)=>(a.kIn,?_,)) he l;let(B,J,G):=mU a zs hz;let y:((zs.map (·.2.2)).zip B).map (·.1)=zs.map (·.2.2):=pW (by rw[af];lia);let d:=zX a hz J G;let D:=q B J (λz T=>a.freeC z.1 _ (hz z T).2.2.1) λj z Y=>let ⟨o,w,a1,_,a3,a4⟩:=G j z Y;(o,w,a1,a3,a4,)
 let n:⇑g=⇑ps:=by rw[←⇑r];exact F.len _ _ _ _ D
 refine Lc (Ld (F.run (cxE P w K mg base N qual scope f cd A outer s0 H0 E).A (cxE P w K mg base N qual scope f cd A outer s0 H0 E).stack i _ (g,[],) g L _ _ S (d.env0 a) (by have:=b i g a.kIn (by rw[ik];exact n);rw[ik]at this;exact this) r D) λO M c=>?_);cases O with
 |error ev =>
  calc d.passE a ?_;rw[y];exact c
 |ok fl =>
  cases fl with
  |ret u =>
   let c:CE (cxE P w K mg base N qual scope f cd A outer s0 H0 E).stack P w _ i _ u M:=c;calc d.after a ?_;rw[y];exact c
  |next=>exact lf c
  |brk=>exact lf c
  |cont=>calc lf c
end
def Bw{k:Nat}{x:Str}{ps:Nt Str}{sp:Sp}{st:Ki}(Z:Zb P w K mg base)(h:TFn K x st)(i:∀q∈(kt K x).toList,NV base q.1 q.2/\base.BuiltinsAt mg q.2)
  (O:∀{f c t:Jr}{d:K9},Fun K x x st f d->d.code=.ref c->kt K x=Nc (c,t)->NV base c t/\base.BuiltinsAt mg t->aL P w K mg base (CX1 P w) k f d ps sp)
  (b:∀{f:Jr}{d:K9},Fun K x x st f d->Binds K d ps []:=by trivial):aV P w K mg base k x ps sp:=by
 cases h with|mk a F j e=>calc(_,_,O F j e<|i _ (by rw[e];exact cF),b F,F.kp,Z.g a,)
def yj(C:A.handled=↑a)(v:s.heap.get? a=Nc g)(p:g.data=.fields q)(F:q[2]?=Nc .none)(u:a≠it)
  (hit:s.heap.IsListIter it l i)(B:s.heap.IsList l c)(y:c[i]?=Nd)
  (D:∀h',Pj it s.heap h'->Q Nd { s with heap:=h' }):Kc (model prog w) A (KA<|.ref it) Q E s:=by
 let(o,j,I,hd):=id hit;let(G,k,_,H,n):=B;unfold KA
 refine GS (L0 (Mz (name:=s!"__next__") hit.typeIs Na
  (MA Na hit.typeIs entry_listiter_next ?_<|args_listiter_next _)))
 show Kc _ _ (field (.ref it) 0 >>= _) _ _ s;calc GS<|LP j hd (x:=.ref l) U ?_;show Kc _ _ (if (io l == pr)=Nf then _ else _) _ _ s;rw[Nj (show ¬ ((io l == pr)=Nf)from cr)];show Kc _ _ (field (.ref it) 1 >>= _) _ _ s;calc GS<|LP j hd (x:=.int i 0) U ?_;show Kc _ _ (seqItems? (.ref l) >>= _) _ _ s;calc GS<|MN k n ?_;simp only[FG,y];refine GS (L4<|GS<|LO j hd (by simp) ?_);show Kc _ _ (ME (.type "StopIteration") [] >>= _) _ _ _;calc GS ?_;simp only[ME,MG];refine GS (LG ?_ (by size_fits));refine GS (m:=MH _ _) (LZ (a:=pr) (by first|rfl|(simp only[MH];rfl)) ?_);refine LG ?_ (by size_fits);let d:=λ(f:Obj->Obj)(t x:Obj)=>(((wE s.heap it (f:=f)).extBut.push t).push x)
 let r:∀(f:Obj->Obj)(t:Obj)(b:Jr)(o:Obj),b≠it->s.heap.get? b=Nc o->b≠((s.heap.update it f).push t).objs.size:=λf t b o h e z=>by
  let:=bi<|((wE s.heap it (f:=f)).extBut.push t) b o h e;rw[←z]at this;exact v5 _ this
 refine oR (a:=a) (show A.in1.handled=↑a from C) (r _ _ a g u v) (d _ _ _ a g u v) p F (ci _ U) U (by rw[Array.size_append];exact u7 (show 2<6 by decide) (vz _ _)) ?_;calc GS<|ML (T := "StopIteration") (b:=Nf) (_,lw _ (ci _ U) U,U,) MM ?_;calc GU<|D _ λb o h e=>(ls _ _ (r _ _ b o h e).symm).trans<|d _ _ _ b o h e
def uk(y:A.handled=↑a)(q:t.data=.fields r)(z:r[2]?=Nc .none)(I k:Jr)(n:k≠I)(u:a≠I)(c:Array I1) :
  KL prog w A I [I,k,a] [I] c.size (λi v=>c[i]?=Nc v) (λi h=>(h.IsListIter I k i/\h.IsList k c)/\h.get? a=Nc t) where
 sub:=λb g=>by simp at g;simp[g]
 frame:=λ_ _ _ d l=>((d.1.1.at λo e=>l I (by simp) o e,d.1.2.at λo e=>l k (by simp) o e,),l a (by simp) _ d.2,)
 item:=λi s Q E hi d j=>by
  refine KH d.1.1 d.1.2 (x:=c[i]) (by simp[hi]) λm B f=>?_
  exact j _ m s.toks (by simp[hi]) ((B,d.1.2.extBut f.extBut n,),f.extBut a _ u d.2,) λb o g e=>f.extBut b o (λh=>g (by simp[h])) e
 done:=λs Q E d j=>yj y d.2 q z u d.1.1 d.1.2 (by simp) λm p=>j m s.toks λb o g e=>p b o (λh=>g (by simp[h])) e
 self:=λ_ _ _ _ d j=>KI d.1.1 j
def nK{e:Jr}(j:f.data=.fields l)(E:l[2]?=Nc .none):dq (sfx X e f) (.builtin "any") (λus H Q=>∃(a:Jr)(bs:Nt Bool),us=[.ref a]/\SqL X.K H a (bs.map V.bl)/\Q (.bl<|bs.any id) H):=by
 intro Ni s σ H us J Q I r h;let(a,bs,rfl,B,q):=h;let(u,rfl,x):=r.one;cases (show u=io a from x);let(c,m,g,L):=I.list B;let D:=⇑m;rw[af]at D;let(o,F,_):=id g.isList;let A:a<↥s:=bi F;let n:s.heap.get? e=Nc f:=(I.pin (e,f)<|lj _ cF).1;let le:e<↥s:=bi n;refine call_any_walk<|KP g.isList (↥s,[↥s,a,e],[↥s],c.toArray.size,_,_,λi=>bs.getD i Nf,U,uk U j E _ a (uR A) (uR le) c.toArray,(((_,ci _ U,U,U,),g.isList.push _,),bd _ n,),?_,λM w k=>?_,)
 .intro i v s2 G E2 C d;let t:c[i]?=Nc v:= ~~~C
  let hi:i<⇑bs:=by have:=(JP.mp t).1;lia
  let(u,p,y):=m.get (show(bs.map V.bl)[i]?=Nc (.bl bs[i]) by rw[fi,JO hi];rfl);rw[t]at p;cases p;obtain rfl:v=.bool bs[i]:=y;calc Ko ?_;let:bs.getD i Nf=bs[i]:=by simp[en,hi]
  replace d:G (bs.getD i Nf) s2:=d
  rw[this]at d;exact d
 .refine(.bl<|bs.any id,H,I.kept (t':=w) λb o e=>k b o (λz=>?_)<|bd _ e,?_,q,)
  .let:b=↥s:= ~~~z
   exact Nl (bi e) (by rw[this];exact v5 _)
  .show OV ((db c.toArray.size).any λi=>bs.getD i Nf)=.bool (bs.any id);rw[show c.toArray.size=⇑bs by simp;lia,zV]
def  XPc(X:Cx)(Ni:Nt (Jr×Obj))(σ:St)(d:Jr->Qd)(c:I1)(s':JY):Prop :=
 ∃(e T C:Jr)(b:I1×I1)(a:Hp),c=.ref e/\Inv X Ni σ a s'/\vy s'.heap e T (.ref C) b/\b.2=.none/\fI X Ni a e/\fI X Ni a T/\d C a
def  Fj(X:Cx)(st:Ki)(t:TSX):Prop :=
 ∀(Ni:Nt (Jr×Obj))(s:JY)(σ:St)(H:Hp)(D:Ends)(a:Jr->Qd),Inv X Ni σ H s->t D σ H a->Kc (model X.prog X.w) X.A (exec st X.env) (SP X Ni D) (XPc X Ni σ a) s
section
variable{t:TA}{Fl:Pos}
def  Fn(sp:Sp)(t:TA):TSX:=λD σ H e=>t σ H λb d=>sp b d (λ_ a=>D.nx σ a) λc m a=>m=Nd/\∃C,c=.ref C/\e C a
def Bx(C:aV X.prog X.w X.K X.mg X.base k x ps sp)(Y:bV k X.A)(B:X.ex=[])(hg:Gl X x)(ha:PA X.nox (e :: es) t)(y:(x == ("__debug__" : Str))=false:=by decide)
  (n:Kh (e :: es) X.env=(Ng,eval e X.env) :: Kh es X.env:=by rfl)(o:(Kg pos<|Kh es X.env).any (·.1)=false:=by rfl)(V:Kr (.Call (.Name x p) (e :: es) [] pos) Nd Fl.line X.env=pure false:=by rfl):Fj X (.Expr (.Call (.Name x p) (e :: es) [] pos) Fl) (Fn sp t):=by
 let(f,fd,F,b,S,m):=C;intro Ni s σ H D EX I h;calc Ks (thn (Q:=EP X Ni σ λ_ H2=>D.nx σ H2) ?_ λv d (x,l,j,r1,M,)=>(σ,l,j,M,)) I.quiet V;calc GW<|dM I hg m ?_ y;calc EQ (h₀:=X.base) I.ok.mod.kin S (Kj (ha pos Ni s σ H _ (I.wish _) h) (λc d (G,l,j,r,q,)=>(j.kIn,?_,)) λ_ _ z=>lf z) n o;let J:Inv X Ni σ l d:=j.unwish;let hl:⇑c=⇑ps:=by rw[←⇑r];exact F.len _ _ _ _ q
 let bt:La d fd ⟨c,[]⟩ (ps.zip c):=by
  let z:=b d c J.kIn (by rw[ik];exact hl);rw[ik]at z;exact z
 calc Lc<|Ld (F.run X.A X.stack d l (c,[],) c G _ _ Y J.env0 bt r q) λr L g=>?_;cases r with
 |error ev =>
  let(e,T,C,a0,E,rfl,N,i,un,hok,x,O,P,n,hT,m,Z,R,C',eC,q):=g;cases eC;let I':Inv X Ni σ E L:=J.call' (ch:=[]) N un hok i λb z=>Nl z (by simp)
  let a:=J.newAt B O;let b:=J.newAt B P;exact(e,T,C,a0,E,U,I',x,Z R,(a.ent,n,a.loc,a.cel,a.pin,),(b.ent,hT,b.loc,b.cel,b.pin,),q,)
 |ok fl =>
  cases fl with
  |ret u=>exact J.after g
  |next=>exact lf g
  |brk=>exact lf g
  |cont=>calc lf g
end
section
variable{st b₀:Ki}{su:Nt Ki}{tb:TSX}{ts:Jr->Jr->TS}{Tn n:Str}{B:Jr}{np Bg:Pos}
def By(hb:Fj X st tb)(hx:X.ex=[])(c:X.stack=X.env :: X.outer)(S:X.env.frame=Nc X.env.locals)(hg:Gl X Tn)(hm:X.mg Tn=↑B)(O:X.N.Nodup)(hi:X.N[i]?=Nc n)(J:X.env.scope.names.lookup n=Nc .local)
  (hs:∀(C e:Jr)(F:Obj)(vs:Array I1),G C->F.cls=.ref C->F.data=.fields vs->vs[2]?=Nc .none->PSs (sfx X e F) (b₀ :: su) (ts C e))(a6:(Tn == ("__debug__" : Str))=false:=by decide) :
  PS X (.Try [st] [.ExceptHandler (Nc<|.Name Tn np) (Nc n) (b₀ :: su) Bg] [] [] pos) (Gs i B X.K G tb ts):=by
 intro Ni s σ H D I h;calc wpAny_Try_except ?_;refine Kq<|Kj (hb Ni s σ H D _ I h) (λf L q=>?_) λev L q=>?_
 .cases f with
  |next=>exact Kp (Kp q)
  |ret v=>exact q
  |brk=>exact q
  |cont=>exact q
 let(e,T,C,a0,Z,rfl,Y,x,a7,V,nT,a5,hG,q):=q;let a9:X.A.frames=Nc (X.env :: X.outer):=by rw[←c];exact Y.ok.frames
 let b0:L.heap.FunFrames X.base (X.env :: X.outer):=by rw[←c];exact Y.stack
 refine land a9 b0 S x λh2 T2 R x2 a8=>?_
 rw[←c]at R;let P:=Y.excStep hx R V nT;let a4:fI X Ni Z T2:=by
  rcases a8 with z|z
  .exact Y.newAt hx z
  .rw[z];exact nT
 let CF:∀{b:Jr}{o:Obj}{vs:Array I1}{hh:JD},hh.FunFrames X.base X.stack->hh.get? b=Nc o->o.data=.fields vs->b ∉ X.fs:=λ{b o vs hh} ff g d z=>by
  let z':b∈frs X.stack:=by rw[c];unfold frs;rw[lh,S];exact dz _ z
  let(_,o2,g2,nf):=ff.mem z';rw[g]at g2;cases g2;exact nf vs d
 let c1:=P;let(F,vs,oT,b4,y1,(y2,b1),y3,y4,y5,y6,y7,y8):=id x2;let S2:Inv (sfx X e F) Ni σ Z { L with heap:=h2 }:=P.suite y1 V (λv z=>by rw[y3]at z;cases z) (CF P.stack y1 y3);refine wpAny_handleBy_cons ?_ (by intro z;cases z);calc codeAny_handlers_test<|dM (X:=sfx X e F) S2 hg hm ?_ a6;refine W.exm_one (h:=h2) S2.kIn (λA' Q' E' s' k r=>by
  let z:=LR (M:=model X.prog X.w) (A:=A') (E:=E') (Q:=Q')<|k _ _ y1;rw[y2]at z;exact z r) a5 _ _ _ _ (λb o g=>g) ?_
 rw[Nk U];calc codeAny_handlers_suite_as ?_;refine Dp (s:={ L with heap:=h2 }) (l:=X.stack) P.stack x2 λh3 T3 a3 x3 b6=>?_
 let I3:=P.excStep hx a3 V a4;let(y,a2,b5,b3,z1,(z2,a1),z3,z4,z5,z6,z7,z8):=id x3;let S3:Inv (sfx X e y) Ni σ Z { L with heap:=h3 }:=I3.suite z1 V (λv z=>by rw[z3]at z;cases z) (CF I3.stack z1 z3);calc jl (X:=sfx X e y) S3 O hi (.inl J) (v:=.ref e) (u:=.ref e) U (λs4 S4=>?_)<|.inr J;refine Kj (hs C e y a2 hG z2 z3 (by rw[←a7];exact a1.2) Ni s4 _ Z _ S4 (q e)) (λfl s5 a=>?_) λ_ _ z=>lf z
 cases fl with
 |next =>
  let(t,p,j,a):=a;exact jS (j.unsuite I.ok) O hi J λs6 m=>(_,p,m,a,)
 |brk =>
  let(t,p,j,a):=a;exact jS (j.unsuite I.ok) O hi J λs6 m=>(_,p,m,a,)
 |cont =>
  let(t,p,j,a):=a;exact jS (j.unsuite I.ok) O hi J λs6 m=>(_,p,m,a,)
 |ret u =>
  let(v,t,p,j,r5,a):=a;calc jS (j.unsuite I.ok) O hi J λs6 m=>(v,_,p,m,r5,a,)
end
end _L
set_option Elab.async false
set_option maxRecDepth 100000
set_option linter.all false
open Lean Parser.Tactic in
local macro_rules(kind:=Lean.Parser.Tactic.obtain)|s=>do
 let p:=s[1][0]
 if p[0][0].getKind==``rcasesPat.tuple&&p[0][0][1].getNumArgs>3&&s[2].isNone then `(tactic|(show let G:Prop:=_;G;intro G;rcases $(⟨s[3][1][0]⟩):term with $(⟨p⟩):rcasesPatMed<;>(unfold G;clear G))) else Macro.throwUnsupported
open Lean Parser.Tactic in
local macro_rules(kind:=Lean.Parser.Tactic.rintro)|s=>do
 let a:=s[1].getArgs
 let n:=Syntax.node .none
 let some i:=a.findIdx? λp=>p[0].getKind==``rcasesPat.tuple&&p[0][1].getNumArgs>3|Macro.throwUnsupported
 let f:=λx:Array Syntax=>n s.getKind #[s[0],n `null x,s[2]]
 let m←`(tactic|(intro h;obtain $(⟨n ``rcasesPatMed #[n `null #[a[i]![0]]]⟩):rcasesPatMed := h))
 let m←if i=0 then pure m else `(tactic|($(⟨f a[:i]⟩);$m))
 if i+1=a.size then pure m else `(tactic|($m;$(⟨f a[i+1:]⟩)))
namespace _M
open PySem _L
inductive E2{α0 α1:Type}(p:α0->α1->Prop):Prop
 |mk (x0:α0)(x1:α1)(h:p x0 x1):E2 p
inductive E3{α0 α1 α2:Type}(p:α0->α1->α2->Prop):Prop
 |mk (x0:α0)(x1:α1)(x2:α2)(h:p x0 x1 x2):E3 p
inductive E4{α0 α1 α2 α3:Type}(p:α0->α1->α2->α3->Prop):Prop
 |mk (x0:α0)(x1:α1)(x2:α2)(x3:α3)(h:p x0 x1 x2 x3):E4 p
inductive E5{α0 α1 α2 α3 α4:Type}(p:α0->α1->α2->α3->α4->Prop):Prop
 |mk (x0:α0)(x1:α1)(x2:α2)(x3:α3)(x4:α4)(h:p x0 x1 x2 x3 x4):E5 p
inductive E6{α0 α1 α2 α3 α4 α5:Type}(p:α0->α1->α2->α3->α4->α5->Prop):Prop
 |mk (x0:α0)(x1:α1)(x2:α2)(x3:α3)(x4:α4)(x5:α5)(h:p x0 x1 x2 x3 x4 x5):E6 p
inductive E11{α0 α1 α2 α3 α4 α5 α6 α7 α8 α9 α10:Type}(p:α0->α1->α2->α3->α4->α5->α6->α7->α8->α9->α10->Prop):Prop
 |mk (x0:α0)(x1:α1)(x2:α2)(x3:α3)(x4:α4)(x5:α5)(x6:α6)(x7:α7)(x8:α8)(x9:α9)(x10:α10)(h:p x0 x1 x2 x3 x4 x5 x6 x7 x8 x9 x10):E11 p
inductive A3(p0 p1 p2:Prop):Prop
 |mk (h0:p0)(h1:p1)(h2:p2)
inductive A4(p0 p1 p2 p3:Prop):Prop
 |mk (h0:p0)(h1:p1)(h2:p2)(h3:p3)
inductive A5(p0 p1 p2 p3 p4:Prop):Prop
 |mk (h0:p0)(h1:p1)(h2:p2)(h3:p3)(h4:p4)
inductive A6(p0 p1 p2 p3 p4 p5:Prop):Prop
 |mk (h0:p0)(h1:p1)(h2:p2)(h3:p3)(h4:p4)(h5:p5)
inductive A11(p0 p1 p2 p3 p4 p5 p6 p7 p8 p9 p10:Prop):Prop
 |mk (h0:p0)(h1:p1)(h2:p2)(h3:p3)(h4:p4)(h5:p5)(h6:p6)(h7:p7)(h8:p8)(h9:p9)(h10:p10)
def  top(i:Nat):Ki:=PySem.Challenge.pw_rowjudge_k49_refused.main.body.getD i<|.Pass (0,0,0,0,)
abbrev Y32:Ki:=top 17
abbrev Y53:Ki:=top 18
abbrev Y52:Ki:=top 19
abbrev Y31:Ki:=top 23
abbrev Y49:Ki:=top 25
abbrev Y44:Ki:=top 26
abbrev Y84:Ki:=top 27
abbrev Y48:Ki:=top 30
abbrev Y42:Ki:=top 31
abbrev Y35:Ki:=top 32
abbrev Y68:Ki:=top 33
abbrev Y39:Ki:=top 34
abbrev Y70:Ki:=top 35
abbrev Y73:Ki:=top 36
abbrev Y33:Ki:=top 37
abbrev Y47:Ki:=top 38
abbrev Y41:Ki:=top 39
abbrev Y89:Ki:=top 50
abbrev Y77:Ki:=top 55
abbrev Y76:Ki:=top 56
abbrev Y81:Ki:=top 57
abbrev Y78:Ki:=top 58
abbrev Y72:Ki:=top 59
abbrev Y46:Ki:=top 60
abbrev Y71:Ki:=top 61
abbrev Y54:Ki:=top 62
abbrev Y90:Ki:=top 63
abbrev Y85:Ki:=top 65
abbrev Y86:Ki:=top 66
abbrev Y40:Ki:=top 67
abbrev s_row_form:Ki:=top 68
abbrev s_verdict_form:Ki:=top 69
abbrev Y87:Ki:=top 70
abbrev s_holes:Ki:=top 73
abbrev s_clashes:Ki:=top 74
abbrev Y34:Ki:=top 75
abbrev Y91:Ki:=top 76
abbrev Y74:Ki:=top 77
abbrev Y51:Ki:=top 78
abbrev Y55:Ki:=top 79
abbrev Y75:Ki:=top 80
abbrev Y69:Ki:=top 81
abbrev Y45:Ki:=top 82
abbrev Y83:Ki:=top 83
abbrev Y37:Ki:=top 84
abbrev Y36:Ki:=top 85
abbrev Y43:Ki:=top 86
abbrev Y79:Ki:=top 87
abbrev Y80:Ki:=top 88
abbrev Y58:Ki:=top 90
abbrev Y67:Ki:=top 91
abbrev Y65:Ki:=top 92
abbrev Y64:Ki:=top 93
abbrev Y59:Ki:=top 94
abbrev Y63:Ki:=top 95
abbrev Y62:Ki:=top 96
abbrev Y57:Ki:=top 97
abbrev Y66:Ki:=top 98
abbrev Y61:Ki:=top 99
abbrev Y60:Ki:=top 100
abbrev Y17:Ki:=inClass (top 54) 0
abbrev Y30:Ki:=inClass (top 22) 0
abbrev Y1:Ki:=inClass (top 20) 0
abbrev Y12:Ki:=inClass (top 21) 0
abbrev Y0:Ki:=inClass (top 20) 0
abbrev Y4:Ki:=inClass (top 44) 0
abbrev Y18:Ki:=inClass (top 43) 0
abbrev Y13:Ki:=inClass (top 45) 0
abbrev Y22:Ki:=inClass (top 43) 0
abbrev Y8:Ki:=inClass (top 46) 0
abbrev Y20:Ki:=inClass (top 43) 0
abbrev Y10:Ki:=inClass (top 47) 0
abbrev Y21:Ki:=inClass (top 43) 0
abbrev Y6:Ki:=inClass (top 48) 0
abbrev Y19:Ki:=inClass (top 43) 0
abbrev Y15:Ki:=inClass (top 49) 0
abbrev Y23:Ki:=inClass (top 43) 0
abbrev Y2:Ki:=inClass (top 20) 5
abbrev Y3:Ki:=inClass (top 20) 5
abbrev Y24:Ki:=inClass (top 43) 1
abbrev Y5:Ki:=inClass (top 44) 1
abbrev Y28:Ki:=inClass (top 43) 1
abbrev Y14:Ki:=inClass (top 45) 1
abbrev Y26:Ki:=inClass (top 43) 1
abbrev Y9:Ki:=inClass (top 46) 1
abbrev Y27:Ki:=inClass (top 43) 1
abbrev Y11:Ki:=inClass (top 47) 1
abbrev Y25:Ki:=inClass (top 43) 1
abbrev Y7:Ki:=inClass (top 48) 1
abbrev Y29:Ki:=inClass (top 43) 1
abbrev Y16:Ki:=inClass (top 49) 1
abbrev Y56:Ki:=top 101
abbrev Y82:Ke:=wO ((cK s_row_form).getD 0<|.Pass (0,0,0,0,)) 2
def Z85{c_0:Jr}:mR ["codes","table"] ["codes"] (gC Y82) [("table",c_0)]:=(U,U,U,~~~0,U,~~~0,~~~0,sC U,)
abbrev Y88:Ke:=wO ((cK s_verdict_form).getD 0<|.Pass (0,0,0,0,)) 2
def Z92{c_0:Jr}:mR ["rows","table"] ["rows"] (gC Y88) [("table",c_0)]:=(U,U,U,~~~0,U,~~~0,~~~0,sC U,)
abbrev Y50:Ke:=wO ((cK s_holes).getD 1<|.Pass (0,0,0,0,)) 2
def Z52:mR ["rows"] ["rows"] (gC Y50) []:=(U,U,U,~~~0,U,~~~0,~~~0,sC U,)
abbrev Y38:Ke:=wO ((cK s_clashes).getD 1<|.Pass (0,0,0,0,)) 2
def Z39{c_0:Jr}:mR ["rows","table"] ["rows"] (gC Y38) [("table",c_0)]:=(U,U,U,~~~0,U,~~~0,~~~0,sC U,)
def Z32:ar ["text","signs","sign"] ["text","signs"] (ao Y32):=fsc
def Z55:ar ["text"] ["text"] (ao Y53):=fsc
def Z54:ar ["value"] ["value"] (ao Y52):=fsc
def Z31:ar ["one","other"] ["one","other"] (ao Y31):=fsc
def Z50:ar ["spans","number","low","high"] ["spans","number"] (ao Y49):=fsc
def Z45:ar ["spans","low","high","turns","first","last"] ["spans","low","high"] (ao Y44):=fsc
def Z87:ar ["low","high","marks","cuts","lows","highs"] ["low","high","marks"] (ao Y84):=fsc
def Z49:ar ["bounds","marks","product","parts"] ["bounds","marks"] (ao Y48):=fsc
def Z43:ar ["bounds","marks"] ["bounds","marks"] (ao Y42):=fsc
def Z35:ar ["bounds","marks","leaf"] ["bounds","marks","leaf"] (ao Y35):=fsc
def Z70:ar ["columns","ahead","leaf"] ["columns","ahead","leaf"] (ao Y68):=fsc
def Z40:ar ["triples","form","low","high","beneath"] ["triples"] (ao Y39):=fsc
def Z72:ar ["form","deep","change"] ["form","deep","change"] (ao Y70):=fsc
def Z75:ar ["one","other","deep","pair","triples","low","at_one","at_other","high"] ["one","other","deep","pair"] (ao Y73):=fsc
def Z33:ar ["form","deep","told","low","high","beneath","box","leaf"] ["form","deep"] (ao Y33):=fsc
def Z48:ar ["lists","numbers","some"] ["lists"] (ao Y47):=fsc
def Z42:ar ["box"] ["box"] (ao Y41):=fsc
def Z93:ar ["name","way"] ["name"] (ao Y89):=fsc
def Z79:ar ["names","name"] ["names"] (ao Y77):=fsc
def Z78:ar ["names","rows"] ["names","rows"] (ao Y76):=fsc
def Z83:ar ["way","outcome"] ["way","outcome"] (ao Y81):=fsc
def Z80:ar ["domains","outcome","cells","code","domain","spans","low","high"] ["domains","outcome","cells","code"] (ao Y78):=fsc
def Z74:ar ["cells","code"] ["cells","code"] (ao Y72):=fsc
def Z47:ar ["table","k","codes","cells","spans","code"] ["table","k","codes"] (ao Y46):=fsc
def Z73:ar ["table","codes"] ["table","codes"] (ao Y71):=fsc
def Z56:ar ["table","rows","codes"] ["table","rows"] (ao Y54):=fsc
def Z94:ar ["table","rows"] ["table","rows"] (ao Y90):=fsc
def Z88:ar ["table"] ["table"] (ao Y85):=fsc
def Z89:ar ["table"] ["table"] (ao Y86):=fsc
def Z41:ar ["table","column","domain"] ["table","column"] (ao Y40):=fsc
def Z84:ar ["table"] ["table"] (ao s_row_form):=fsc
def Z91:ar ["table"] ["table"] (ao s_verdict_form):=fsc
def Z90:ar ["table"] ["table"] (ao Y87):=fsc
def Z51:ar ["table","deep","free"] ["table"] (ao s_holes):=fsc
def Z38:ar ["table","deep","clashing"] ["table"] (ao s_clashes):=fsc
def Z34:ar ["form","deep"] ["form","deep"] (ao Y34):=fsc
def Z95:ar ["table","k"] ["table","k"] (ao Y91):=fsc
def Z76:ar ["table","k"] ["table","k"] (ao Y74):=fsc
def Z53:ar ["table","tiles"] ["table"] (ao Y51):=fsc
def Z57:ar ["table"] ["table"] (ao Y55):=fsc
def Z77:ar ["table","tiles","k","tile"] ["table","tiles","k"] (ao Y75):=fsc
def Z71:ar ["table","tile","k","bit","rows"] ["table","tile","k"] (ao Y69):=fsc
def Z46:ar ["one","other","found"] ["one","other"] (ao Y45):=fsc
def Z86:ar ["one","other"] ["one","other"] (ao Y83):=fsc
def Z37:ar ["one","other"] ["one","other"] (ao Y37):=fsc
def Z36:ar ["old","new","deep","differing"] ["old","new","deep"] (ao Y36):=fsc
def Z44:ar ["old","new"] ["old","new"] (ao Y43):=fsc
def Z81:ar ["one","other"] ["one","other"] (ao Y79):=fsc
def Z82:ar ["ones","others","one","other"] ["ones","others"] (ao Y80):=fsc
def Z60:ar ["script","k"] ["script","k"] (ao Y58):=fsc
def Z69:ar ["count","cell","told","k"] ["count","cell"] (ao Y67):=fsc
def Z67:ar ["points"] ["points"] (ao Y65):=fsc
def Z66:ar ["cell","count","at","told","k"] ["cell","count"] (ao Y64):=fsc
def Z61:ar ["kind","count","cell","points","told"] ["kind","count","cell","points"] (ao Y59):=fsc
def Z65:ar ["words","kind","letters"] ["words","kind"] (ao Y63):=fsc
def Z64:ar ["name","kind","shape","full","way","count","points","cell","domains","spans","outcome","ways","rows","names"] ["name","kind","shape","full","way"] (ao Y62):=fsc
def Z59:ar ["which","one","other"] ["which","one","other"] (ao Y57):=fsc
def Z68:ar ["which","one","other","kinds","e","others"] ["which","one","other"] (ao Y66):=fsc
def Z63:ar ["low","size","shift","spans"] ["low","size","shift"] (ao Y61):=fsc
def Z62:ar ["script","low","size","due","k","one","other"] ["script"] (ao Y60):=fsc
def Z17:ar ["self","name","names","domains","outcome","way","rows","cells","code"] ["self","name","names","domains","outcome","way","rows"] (ao Y17):=fsc
def Z30:ar ["self","words","word"] ["self","words"] (ao Y30):=fsc
def Z1:ar ["self","low","high"] ["self","low","high"] (ao Y1):=fsc
def Z12:ar ["self","low","high"] ["self","low","high"] (ao Y12):=fsc
def Z0:ar ["self","low","high"] ["self","low","high"] (ao Y0):=fsc
def Z4:ar ["self"] ["self"] (ao Y4):=fsc
def Z18:ar ["self","called"] ["self","called"] (ao Y18):=fsc
def Z13:ar ["self"] ["self"] (ao Y13):=fsc
def Z22:ar ["self","called"] ["self","called"] (ao Y22):=fsc
def Z8:ar ["self"] ["self"] (ao Y8):=fsc
def Z20:ar ["self","called"] ["self","called"] (ao Y20):=fsc
def Z10:ar ["self"] ["self"] (ao Y10):=fsc
def Z21:ar ["self","called"] ["self","called"] (ao Y21):=fsc
def Z6:ar ["self"] ["self"] (ao Y6):=fsc
def Z19:ar ["self","called"] ["self","called"] (ao Y19):=fsc
def Z15:ar ["self"] ["self"] (ao Y15):=fsc
def Z23:ar ["self","called"] ["self","called"] (ao Y23):=fsc
def Z2:ar ["self","value"] ["self","value"] (ao Y2):=fsc
def Z3:ar ["self","value"] ["self","value"] (ao Y3):=fsc
def Z24:ar ["self","codes","outcome"] ["self","codes","outcome"] (ao Y24):=fsc
def Z5:ar ["self","codes","outcome"] ["self","codes","outcome"] (ao Y5):=fsc
def Z28:ar ["self","codes","outcome"] ["self","codes","outcome"] (ao Y28):=fsc
def Z14:ar ["self","codes","outcome"] ["self","codes","outcome"] (ao Y14):=fsc
def Z26:ar ["self","codes","outcome"] ["self","codes","outcome"] (ao Y26):=fsc
def Z9:ar ["self","codes","outcome"] ["self","codes","outcome"] (ao Y9):=fsc
def Z27:ar ["self","codes","outcome"] ["self","codes","outcome"] (ao Y27):=fsc
def Z11:ar ["self","codes","outcome"] ["self","codes","outcome"] (ao Y11):=fsc
def Z25:ar ["self","codes","outcome"] ["self","codes","outcome"] (ao Y25):=fsc
def Z7:ar ["self","codes","outcome"] ["self","codes","outcome"] (ao Y7):=fsc
def Z29:ar ["self","codes","outcome"] ["self","codes","outcome"] (ao Y29):=fsc
def Z16:ar ["self","codes","outcome"] ["self","codes","outcome"] (ao Y16):=fsc
def Z58:ar ["script","count","fine","shape","kind","full","two","big","which","due"] ["script"] (ao Y56):=fsc
structure AD where (a b c d e f g h i j k l m n o p q r s t u:Jr)
structure Bk(K:am)(Y:AD):Prop where
 n_TableError:li K JU "TableError" = Nc ↑Y.a
 n_TooFine:li K JU "TooFine" = Nc ↑Y.b
 n_Unlike:li K JU "Unlike" = Nc ↑Y.c
 n_TooMany:li K JU "TooMany" = Nc ↑Y.d
 n_Outside:li K JU "Outside" = Nc ↑Y.e
 n_Clash:li K JU "Clash" = Nc ↑Y.f
 n_Hole:li K JU "Hole" = Nc ↑Y.g
 n_BadRow:li K JU "BadRow" = Nc ↑Y.h
 n_Way:li K JU "Way" = Nc ↑Y.i
 n_First:li K JU "First" = Nc ↑Y.j
 n_Only:li K JU "Only" = Nc ↑Y.k
 n_Like:li K JU "Like" = Nc ↑Y.l
 n_Low:li K JU "Low" = Nc ↑Y.m
 n_High:li K JU "High" = Nc ↑Y.n
 n_Sum:li K JU "Sum" = Nc ↑Y.o
 n_Domain:li K JU "Domain" = Nc ↑Y.p
 n_Numbers:li K JU "Numbers" = Nc ↑Y.q
 n_Words:li K JU "Words" = Nc ↑Y.r
 n_Table:li K JU "Table" = Nc ↑Y.s
 n_NONE:li K JU "NONE" = Nc ↑Y.t
 n_CLASH:li K JU "CLASH" = Nc ↑Y.u
 x_TooFine:ExcCls K Y.b
 x_Unlike:ExcCls K Y.c
 l_TooFine:jT K Y.b
 l_Unlike:jT K Y.c
 k_First:Cls K Y.j
 k_Only:Cls K Y.k
 k_Like:Cls K Y.l
 k_Low:Cls K Y.m
 k_High:Cls K Y.n
 k_Sum:Cls K Y.o
 k_Numbers:Cls K Y.q
 k_Words:Cls K Y.r
 k_Table:Cls K Y.s
 t_First:oU K Y.j
 t_Only:oU K Y.k
 t_Like:oU K Y.l
 t_Low:oU K Y.m
 t_High:oU K Y.n
 t_Sum:oU K Y.o
 t_Numbers:oU K Y.q
 t_Words:oU K Y.r
 t_Table:oU K Y.s
 q_NONE:ModT K Y.t [.str "none",.int (0)]
 q_CLASH:ModT K Y.u [.str "clash",.int (0)]
 na_First_called:NoAttr K Y.j "called"
 na_Only_called:NoAttr K Y.k "called"
 na_Like_called:NoAttr K Y.l "called"
 na_Low_called:NoAttr K Y.m "called"
 na_High_called:NoAttr K Y.n "called"
 na_Sum_called:NoAttr K Y.o "called"
 na_Numbers_low:NoAttr K Y.q "low"
 na_Numbers_high:NoAttr K Y.q "high"
 na_Numbers_words:NoAttr K Y.q "words"
 na_Words_low:NoAttr K Y.r "low"
 na_Words_high:NoAttr K Y.r "high"
 na_Words_words:NoAttr K Y.r "words"
 na_Table_name:NoAttr K Y.s "name"
 na_Table_names:NoAttr K Y.s "names"
 na_Table_domains:NoAttr K Y.s "domains"
 na_Table_outcome:NoAttr K Y.s "outcome"
 na_Table_way:NoAttr K Y.s "way"
 na_Table_rows:NoAttr K Y.s "rows"
 f_nn:sB K (.ref Y.q) (.ref Y.q)=Nc Nf
 f_wn:sB K (.ref Y.r) (.ref Y.q)=Nc Ng
 f_ww:sB K (.ref Y.r) (.ref Y.r)=Nc Nf
 f_tt:sB K (.ref Y.s) (.ref Y.s)=Nc Nf
 f_nw:sB K (.ref Y.q) (.ref Y.r)=Nc Ng
 e_TooFine:W.exmOne K (.ref Y.b) (.ref Y.a)=Nc Nf
 v_TooFine:sB K (.ref Y.b) (.type "ValueError")=Nc Nf
 g_TooFine_TooFine:sB K (.ref Y.b) (.ref Y.b)=Nc Nf
 g_TooFine_Unlike:sB K (.ref Y.b) (.ref Y.c)=Nc Ng
 g_TooFine_TooMany:sB K (.ref Y.b) (.ref Y.d)=Nc Ng
 g_TooFine_Outside:sB K (.ref Y.b) (.ref Y.e)=Nc Ng
 g_TooFine_Clash:sB K (.ref Y.b) (.ref Y.f)=Nc Ng
 g_TooFine_Hole:sB K (.ref Y.b) (.ref Y.g)=Nc Ng
 g_TooFine_BadRow:sB K (.ref Y.b) (.ref Y.h)=Nc Ng
 e_Unlike:W.exmOne K (.ref Y.c) (.ref Y.a)=Nc Nf
 v_Unlike:sB K (.ref Y.c) (.type "ValueError")=Nc Nf
 g_Unlike_TooFine:sB K (.ref Y.c) (.ref Y.b)=Nc Ng
 g_Unlike_Unlike:sB K (.ref Y.c) (.ref Y.c)=Nc Nf
 g_Unlike_TooMany:sB K (.ref Y.c) (.ref Y.d)=Nc Ng
 g_Unlike_Outside:sB K (.ref Y.c) (.ref Y.e)=Nc Ng
 g_Unlike_Clash:sB K (.ref Y.c) (.ref Y.f)=Nc Ng
 g_Unlike_Hole:sB K (.ref Y.c) (.ref Y.g)=Nc Ng
 g_Unlike_BadRow:sB K (.ref Y.c) (.ref Y.h)=Nc Ng
 d_tn:(Y.s == Y.q)=Ng
 d_tw:(Y.s == Y.r)=Ng
 nt0:∀z z',kt K "row_form" = Nc z->kt K "verdict_form" = Nc z'->z.2≠z'.2
 nt1:∀z z',kt K "row_form" = Nc z->kt K "holes" = Nc z'->z.2≠z'.2
 nt2:∀z z',kt K "row_form" = Nc z->kt K "clashes" = Nc z'->z.2≠z'.2
 nt3:∀z z',kt K "verdict_form" = Nc z->kt K "holes" = Nc z'->z.2≠z'.2
 nt4:∀z z',kt K "verdict_form" = Nc z->kt K "clashes" = Nc z'->z.2≠z'.2
 nt5:∀z z',kt K "holes" = Nc z->kt K "clashes" = Nc z'->z.2≠z'.2
structure Bl(K:am)(mg:Str->Option I1)(Y:AD):Prop extends Bk K Y where
 TableError_:mg "TableError" = ↑Y.a
 TooFine_:mg "TooFine" = ↑Y.b
 Unlike_:mg "Unlike" = ↑Y.c
 TooMany_:mg "TooMany" = ↑Y.d
 Outside_:mg "Outside" = ↑Y.e
 Clash_:mg "Clash" = ↑Y.f
 Hole_:mg "Hole" = ↑Y.g
 BadRow_:mg "BadRow" = ↑Y.h
 Way_:mg "Way" = ↑Y.i
 First_:mg "First" = ↑Y.j
 Only_:mg "Only" = ↑Y.k
 Like_:mg "Like" = ↑Y.l
 Low_:mg "Low" = ↑Y.m
 High_:mg "High" = ↑Y.n
 Sum_:mg "Sum" = ↑Y.o
 Domain_:mg "Domain" = ↑Y.p
 Numbers_:mg "Numbers" = ↑Y.q
 Words_:mg "Words" = ↑Y.r
 Table_:mg "Table" = ↑Y.s
 NONE_:mg "NONE" = ↑Y.t
 CLASH_:mg "CLASH" = ↑Y.u
 len_:mg "len" = Nd
 isinstance_:mg "isinstance" = Nd
 int_:mg "int" = Nd
 bool_:mg "bool" = Nd
 sorted_:mg "sorted" = Nd
 list_:mg "list" = Nd
 set_:mg "set" = Nd
 zip_:mg "zip" = Nd
 tuple_:mg "tuple" = Nd
 min_:mg "min" = Nd
 sum_:mg "sum" = Nd
 range_:mg "range" = Nd
 enumerate_:mg "enumerate" = Nd
 ValueError_:mg "ValueError" = Nd
 any_:mg "any" = Nd
 max_:mg "max" = Nd
 MOST_SIGNS_:∃u,mg "MOST_SIGNS" = Nc u/\RelV (pi 12) u
 SMALL_LETTERS_:∃u,mg "SMALL_LETTERS" = Nc u/\RelV (Qe "abcdefghijklmnopqrstuvwxyz") u
 MOST_GRAIN_:∃u,mg "MOST_GRAIN" = Nc u/\RelV (pi 300) u
 MOST_ROWS_:∃u,mg "MOST_ROWS" = Nc u/\RelV (pi 200) u
 MOST_COLUMNS_:∃u,mg "MOST_COLUMNS" = Nc u/\RelV (pi 4) u
 NOTHING_:∃u,mg "NOTHING" = Nc u/\RelV (pi 0) u
 MOST_WORDS_:∃u,mg "MOST_WORDS" = Nc u/\RelV (pi 40) u
def GK{n:Int}{p:Int×Int}(c:decide (p.1<=n)=Nf)(d:decide (n<=p.2)=Nf):inR n p=true:=by unfold inR;rw[c,d];rfl
def Fo{n:Int}{p:Int×Int}(c:¬ decide (p.1<=n)=Nf):inR n p=false:=by unfold inR;rw[EU.mpr c];rfl
def Fp{n:Int}{p:Int×Int}(d:¬ decide (n<=p.2)=Nf):inR n p=false:=by unfold inR;rw[EU.mpr d,FB]
def eI(h:H r=Nc u)(n:H b=Nd):upd H b o r=Nc u:=by rw[aw (aW h n)];calc h
def Ae(h:0<n):ixN n (-1)=Nc (n-1):=by
 unfold ixN;rw[Nj ⋯,Nk ∅]
 congr 1
 lia
def um{α:Type}(l:Nt α)(x y:α):(l++[x]).set (⇑(l++[x])-1) y=l++[y]:=by
 let e:⇑(l++[x])-1=⇑l:=by simp
 rw[e,Pm _ _<|uN _,Dj];rfl
def take_snoc{α:Type}{l:Nt α}{i:Nat}{x:α}(e:l[i]?=Nc x):l.take (i+1)=l.take i++[x]:=by rw[lJ,e];rfl
def get_map{a:Nt Int}{i:Nat}{c:Int}(e:a[i]?=Nc c):(a.map pi)[i]?=Nc (.int c):=by rw[fi,e];rfl
def of_map{a:Nt Int}{i:Nat}{x:V}(e:(a.map pi)[i]?=Nc x):∃c,x=.int c/\a[i]?=Nc c:=by
 rw[fi]at e;cases q:a[i]? with
 |none=>rw[q]at e;cases e
 |some c=>rw[q]at e;cases e;calc(c,U,U,)
def  lets:Str := "abcdefghijklmnopqrstuvwxyz"
def  isw(z:Str):Bool:=Nh ((1:Int)<=((⇑z:Nat):Int)) && (Nh (((⇑z:Nat):Int)<=12) && (!Nh (Qe z=Qe "not") && tO z lets))
def DH{l:Nt Nat}{i:Nat}(e:l[i]?=Nc c)(h:p c=Ng):l.all p=false:=by
 cases q:l.all p with
 |false=>rfl
 |true=>rw[jF.mp q c (JQ e)]at h;cases h
def all_succ{l:Nt Nat}{i:Nat}(e:l[i]?=Nc c)(h:p c=Nf)(a:(l.take i).all p=Nf):(l.take<|i+1).all p=true:=by
 rw[take_snoc e,List.all_append,a];simp[h]
def Af(h:(z.cps.toList.take z.cps.size).all (sg g)=Nf):tO z g=true:=by
 let e:z.cps.toList.take z.cps.size=z.cps.toList:=by rw[←D0];exact fo
 rw[e]at h;calc h
def DI(h:(!(!(NG g ⟨#[c]⟩ 0 ⇑g 1).isEmpty))=Nf):sg g c=false:=by unfold sg;simpa using h
def Fq(h:¬ (!(!(NG g ⟨#[c]⟩ 0 ⇑g 1).isEmpty))=Nf):sg g c=true:=by unfold sg;simpa using h
def big(h:n<=1000):n<=JR:=vl<|aC h
def  mkd(C:Jr)(H:Hp)(x a:Jr)(lo hi:Int):Hp:=upd (upd H x<|.ins C a [("low",.int lo)]) x<|.ins C a [("low",.int lo),("high",.int hi)]
def put2(v u:V):bH s!"high" u [(s!"low",v)]=[(s!"low",v),(s!"high",u)]:=by
 unfold bH bH;rw[Nj ⋯]
def put3(v u t:V):bH s!"words" t [(s!"low",v),(s!"high",u)]=[(s!"low",v),(s!"high",u),(s!"words",t)]:=by
 unfold bH bH bH;rw[Nj ⋯,Nj ⋯]
def  hiW(zs:Nt Str):Int:=((⇑zs:Nat):Int)-1
structure Good(zs:Nt Str):Prop where
 some_:1<=⇑zs
 few:⇑zs<=40
 words:∀z∈zs,isw z=Nf
 once:zs.Nodup
def lW{zs:Nt Str}{i:Nat}{x:V}(e:(zs.map Qe)[i]?=Nc x):∃z,x=.str z/\zs[i]?=Nc z:=by
 rw[fi]at e;cases q:zs[i]? with
 |none=>rw[q]at e;cases e
 |some z=>rw[q]at e;cases e;calc(z,U,U,)
def  six:Nt Str:=[s!"first",s!"only",s!"like",s!"low",s!"high",s!"sum"]
def Bz{i j:Nat}(h:six[i]?=Nc z)(k:six[j]?=Nc z):i=j:=jk (show six.Nodup by decide+kernel) h k
def  WyN(C:Jr)(H:Hp)(x:Jr)(z:Str):Prop:=∃a,H x=Nc (.ins C a [("called",.str z)])
def WyN.same{C:Jr}{H H':Hp}{x:Jr}{z:Str}(h:WyN C H x z)(s:au H H'):WyN C H' x z:=by let(a,e):=h;calc(a,s _ _ e,)
def  yk(C:Jr)(z:Str):Sp:=λb H Q _=>∃(x a:Jr),b=[.ref x]/\H x=Nc (.ins C a [])/\Q .non (upd H x<|.ins C a [("called",.str z)])
def bZ:2<=JR:=⋯
def  cl6(a b c d e f:Jr):Nt Jr:=[a,b,c,d,e,f]
def  DJ(C:Jr)(H:Hp)(a:Jr)(lo hi:Int):Prop:=∃b fs,H a=Nc (.ins C b fs)/\fs.lookup s!"low"=Nc (.int lo)/\fs.lookup s!"high"=Nc (.int hi)/\fs.lookup s!"has_code"=Nd
def  Dom(d c:Jr)(H:Hp)(a:Jr)(b:Int×Int):Prop:=∃C,(C=d\/C=c)/\DJ C H a b.1 b.2
def Dom.same{d c:Jr}{H H':Hp}{a:Jr}{b:Int×Int}(h:Dom d c H a b)(s:au H H'):Dom d c H' a b:=by let(C,hC,f,fs,e,r):=h;calc(C,hC,f,fs,s _ _ e,r,)
def  aN{α:Type}(xs:Nt V)(b:Nt α)(P:Jr->α->Prop):Prop:=⇑xs=⇑b/\∀(j:Nat)(a:α),b[j]?=Nc a->∃r,xs[j]?=↑r/\P r a
def aN.mono{α:Type}{xs:Nt V}{b:Nt α}{P Q:Jr->α->Prop}(h:aN xs b P)(k:∀r a,P r a->Q r a):aN xs b Q:=(h.1,λj a e=>let ⟨r,e1,p⟩:=h.2 j a e;(r,e1,k r a p,),)
def aN.nil{α:Type}{P:Jr->α->Prop}:aN [] [] P:=(U,(λj a e=>by simp at e),)
def aN.snoc{α:Type}{xs:Nt V}{c:Nt α}{P:Jr->α->Prop}{r:Jr}{a:α}(h:aN xs c P)(p:P r a):aN (xs++[.ref r]) (c++[a]) P:=by
 refine(by simp[h.1],λj b e=>?_,);by_cases f:j<⇑c
 .rw[iv f]at e;let(g,i,q):=h.2 j b e;exact(g,by rw[iv (by rw[h.1];exact f)];exact i,q,)
 .let d:j=⇑c:=by
   let:=(JP.mp e).1;simp at this;lia
  subst d;simp at e;subst e;calc(r,by rw[←h.1];simp,p,)
def aN.get{α:Type}{xs:Nt V}{b:Nt α}{P:Jr->α->Prop}(h:aN xs b P){j:Nat}{x:V}(e:xs[j]?=Nc x):∃r a,x=.ref r/\b[j]?=Nc a/\P r a:=by
 let f:=(JP.mp e).1;let c:=JO (l:=b) (i:=j) (by rw[←h.1];exact f);let(r,d,p):=h.2 j _ c;rw[e]at d;cases d;calc(r,_,U,c,p,)
abbrev Prs:=List<|Int×Int
def  SpA(N:Jr->Prop)(H:Hp)(l:Jr)(ps:Prs):Prop:=N l/\∃a,H l=Nc (.lst a)/\PL H a ps
def  CL(N:Jr->Prop)(H:Hp)(xs:Nt V)(a:Nt Prs):Prop:=aN xs a<|SpA N H
abbrev Rw:=Nt Prs×Int
def  lZ(N:Jr->Prop)(H:Hp)(r:Jr)(a:Rw):Prop:=∃b c,H r=Nc (.tup [.ref b,.int a.2])/\N b/\H b=Nc (.lst c)/\CL N H c a.1
def  RL(N:Jr->Prop)(H:Hp)(xs:Nt V)(rws:Nt Rw):Prop:=aN xs rws<|lZ N H
def SpA.same{N:Jr->Prop}{H H':Hp}{l:Jr}{ps:Prs}(h:SpA N H l ps)(s:au H H'):SpA N H' l ps:=by let(n,a,e,p):=h;calc(n,a,s _ _ e,p.mono s.tups,)
def CL.same{N:Jr->Prop}{H H':Hp}{xs:Nt V}{a:Nt Prs}(h:CL N H xs a)(s:au H H'):CL N H' xs a:=aN.mono h λ_ _ p=>p.same s
def lZ.same{N:Jr->Prop}{H H':Hp}{r:Jr}{w:Rw}(h:lZ N H r w)(s:au H H'):lZ N H' r w:=by let(b,a,e,n,f,c):=h;calc(b,a,s _ _ e,n,s _ _ f,c.same s,)
def RL.same{N:Jr->Prop}{H H':Hp}{xs:Nt V}{rws:Nt Rw}(h:RL N H xs rws)(s:au H H'):RL N H' xs rws:=aN.mono h λ_ _ p=>p.same s
abbrev NT:Jr->Prop:=λ_=>True
def SpA.any(h:SpA N H l ps):SpA NT H l ps:=(trivial,h.2,)
def CL.any(h:CL N H xs a):CL NT H xs a:=aN.mono h λ_ _ p=>p.any
def lZ.any(h:lZ N H r w):lZ NT H r w:=by let(b,a,e,_,f,c):=h;calc(b,a,e,trivial,f,c.any,)
def RL.any(h:RL N H xs rws):RL NT H xs rws:=aN.mono h λ_ _ p=>p.any
def SpA.wk(h:SpA N H l ps)(k:∀a,N a->b a):SpA b H l ps:=(k _ h.1,h.2,)
def CL.wk(h:CL N H xs b)(k:∀a,N a->c a):CL c H xs b:=aN.mono h λ_ _ p=>p.wk k
def lZ.wk(h:lZ N H r w)(k:∀a,N a->b a):lZ b H r w:=by let(g,d,e,n,f,c):=h;calc(g,d,e,k _ n,f,c.wk k,)
def SpA.updN(h:SpA N H l ps)(n:¬ N D)(e:H D=Nc (.lst zs)):SpA N (upd H D o) l ps:=by
 let(m,a,f,p):=h;calc(m,a,(aw<|λz=>n (by rw[←z];exact m)).trans f,p.mono<|ba e,)
def CL.updN(h:CL N H xs a)(n:¬ N D)(e:H D=Nc (.lst zs)):CL N (upd H D o) xs a:=aN.mono h λ_ _ p=>p.updN n e
def lZ.updN(h:lZ N H r w)(n:¬ N D)(e:H D=Nc (.lst zs)):lZ N (upd H D o) r w:=by
 let(b,a,f,m,g,c):=h;calc(b,a,(aw<|kl f e (by intro z;cases z)).trans f,m,(aw<|λz=>n (by rw[←z];exact m)).trans g,c.updN n e,)
def RL.updN(h:RL N H xs rws)(n:¬ N D)(e:H D=Nc (.lst zs)):RL N (upd H D o) xs rws:=aN.mono h λ_ _ p=>p.updN n e
def  Fr(H:Hp)(D:Jr):Jr->Prop:=λa=>H a=Nd/\a≠D
def Fr.out:¬ Fr H D D:=λh=>h.2 U
structure Jf(b:Int×Int)(zs:Nt Str):Prop where
 le:b.1<=b.2
 ws:zs≠[]->Good zs/\b=(0,hiW zs)
structure uo(bs:Prs)(o:Int×Int)(w:Rw):Prop where
 len:⇑w.1=⇑bs
 inn:∀(j:Nat)(ps:Prs)(b:Int×Int),w.1[j]?=Nc ps->bs[j]?=Nc b->∀p∈ps,b.1<=p.1/\p.2<=b.2
 lo:o.1<=w.2
 hi:w.2<=o.2
def  kM(a:Nt Prs)(cs:Nt Int):Bool:=(db ⇑cs).all λj=>inP (a.getD j [])<|cs.getD j 0
def pf1(b a:V):bH s!"names" a [(s!"name",b)]=[(s!"name",b),(s!"names",a)]:=by
 unfold bH bH;rw[Nj ⋯]
def pf2(c b a:V):bH s!"domains" a [(s!"name",c),(s!"names",b)]=[(s!"name",c),(s!"names",b),(s!"domains",a)]:=by
 unfold bH bH bH;rw[Nj ⋯,Nj ⋯]
def pf3(d c b a:V):bH s!"outcome" a [(s!"name",d),(s!"names",c),(s!"domains",b)]=[(s!"name",d),(s!"names",c),(s!"domains",b),(s!"outcome",a)]:=by
 unfold bH bH bH bH;rw[Nj ⋯,Nj ⋯,Nj ⋯]
def pf4(e d c b a:V):bH s!"way" a [(s!"name",e),(s!"names",d),(s!"domains",c),(s!"outcome",b)]=[(s!"name",e),(s!"names",d),(s!"domains",c),(s!"outcome",b),(s!"way",a)]:=by
 unfold bH bH bH bH bH;rw[Nj ⋯,Nj ⋯,Nj ⋯,Nj ⋯]
def pf5(f e d c b a:V):bH s!"rows" a [(s!"name",f),(s!"names",e),(s!"domains",d),(s!"outcome",c),(s!"way",b)]=[(s!"name",f),(s!"names",e),(s!"domains",d),(s!"outcome",c),(s!"way",b),(s!"rows",a)]:=by
 unfold bH bH bH bH bH bH;rw[Nj ⋯,Nj ⋯,Nj ⋯,Nj ⋯,Nj ⋯]
def  hide(H:Hp)(x:Jr):Hp:=λb=>if b=x then Nd else H b
def fk(e:H b=Nc o)(n:b≠x):hide H x b=Nc o:=by unfold hide;rw[Nj n];calc e
def hide_same(k:∀b o,b≠x->H b=Nc o->H' b=Nc o):au (hide H x) H':=λb o e=>by
 unfold hide at e;by_cases h:b=x
 .rw[Nk h]at e;cases e
 .rw[Nj h]at e;calc k b o h e
def PL.hide{H:Hp}{x C c:Jr}{fs:Nt (Str×V)}(a:H x=Nc (.ins C c fs)){ys:Nt V}{ps:Prs}(h:PL H ys ps):PL (hide H x) ys ps :=
 h.mono λb d e=>fk e<|kl e a (by intro z;cases z)
def RL.hide{H:Hp}{x C d:Jr}{fs:Nt (Str×V)}(a:H x=Nc (.ins C d fs)){xs:Nt V}{rws:Nt Rw}(h:RL NT H xs rws):RL NT (_M.hide H x) xs rws :=
 aN.mono h λr w (j,i,e,_,f,c,)=>⟨j,i,fk e<|kl e a (by intro z;cases z),trivial,fk f<|kl f a (by intro z;cases z),aN.mono c λl k (_,b,g,p,)=>(trivial,b,fk g<|kl g a (by intro z;cases z),PL.hide a p,)⟩
def  wcs(c k:Int):Nt Nat:=Fk (c / 26%6).toNat (97+(c%26).toNat)++([97+(k / 7%7).toNat,97+(k%7).toNat]++Fk (k%5).toNat (97+(c / 156%26).toNat))
def  wd(c k:Int):Str:=⟨(wcs c k).toArray⟩
abbrev SI:=Str×Int
def  tp(p:SI):Nt V:=[.str p.1,.int p.2]
def  say(i:Int):SI:=(s!"say",i)
def  wQ:SI:=(s!"clash",0)
def  dX:SI:=(s!"none",0)
def  least(a:Nt Int):Int:=a.foldl (λm c=>if c<m then c else m) (a.headD 0)
def  great(a:Nt Int):Int:=a.foldl (λm c=>if c>m then c else m) (a.headD 0)
def fold_min(a:Nt Int):∀m:Int,(a.foldl (λm c=>if c<m then c else m) m=m\/a.foldl (λm c=>if c<m then c else m) m∈a)/\a.foldl (λm c=>if c<m then c else m) m<=m/\∀x∈a,a.foldl (λm c=>if c<m then c else m) m<=x:=by
 induction a with
 |nil=>intro m;exact⟨.inl U,pc _,λx h=>by cases h⟩
 |cons n a f =>
  intro m;let(b,e,g):=f (if n<m then n else m);rw[tV];refine(?_,?_,λx d=>?_,)
  .rcases b with b|b
   .rw[b];split
    .exact .inr cF
    .exact .inl U
   .exact .inr<|dz _ b
  .split at e <;> split <;> lia
  .rcases ax.mp d with rfl|d
   .split at e <;> split <;> lia
   .exact g x d
def fold_max(a:Nt Int):∀m:Int,(a.foldl (λm c=>if c>m then c else m) m=m\/a.foldl (λm c=>if c>m then c else m) m∈a)/\m<=a.foldl (λm c=>if c>m then c else m) m/\∀x∈a,x<=a.foldl (λm c=>if c>m then c else m) m:=by
 induction a with
 |nil=>intro m;exact⟨.inl U,pc _,λx h=>by cases h⟩
 |cons n a f =>
  intro m;let(b,e,g):=f (if n>m then n else m);rw[tV];refine(?_,?_,λx d=>?_,)
  .rcases b with b|b
   .rw[b];split
    .exact .inr cF
    .exact .inl U
   .exact .inr<|dz _ b
  .split at e <;> split <;> lia
  .rcases ax.mp d with rfl|d
   .split at e <;> split <;> lia
   .exact g x d
def iu{n:Int}{a:Nt Int}:least (n :: a)∈n :: a/\∀x∈n :: a,least (n :: a)<=x:=by
 let(b,d,c):=fold_min (n :: a) n;calc(?_,c,);rcases b with b|b
 .show(n :: a).foldl _ n∈_;rw[b];exact cF
 .exact b
def jy{n:Int}{a:Nt Int}:great (n :: a)∈n :: a/\∀x∈n :: a,x<=great (n :: a):=by
 let(b,d,c):=fold_max (n :: a) n;calc(?_,c,);rcases b with b|b
 .show(n :: a).foldl _ n∈_;rw[b];exact cF
 .exact b
def Ag{n m:Int}{c:Nt Int}(e:m∈n :: c)(d:∀b∈n :: c,m<=b):m=least (n :: c):=by
 let a:=d _ iu.1;let b:=iu.2 _ e;lia
def Ah{n m:Int}{c:Nt Int}(e:m∈n :: c)(d:∀b∈n :: c,b<=m):m=great (n :: c):=by
 let a:=d _ jy.1;let b:=jy.2 _ e;lia
def  GN(a:Nt Int):SI:=say<|least a
def  Fs(a:Nt Int):SI:=say<|great a
def  uq(a:Nt Int):SI:=if least a=great a then say (least a)else wQ
def rF{n:Int}{a:Nt Int}:(∀x∈a,x=n)↔least (n :: a)=great (n :: a):=by
 constructor
 .intro h;let e:∀x∈n :: a,x=n:=λx b=>by
   rcases ax.mp b with r|b
   .exact r
   .exact h x b
  rw[e _ iu.1,e _ jy.1]
 .intro h x b;let g:=iu.2 x<|dz n b;let f:=jy.2 x<|dz n b;let d:=iu.2 n<|cF (l:=a);let c:=jy.2 n<|cF (l:=a);lia
def ym{n:Int}{a:Nt Int}(h:∀x∈a,x=n):least (n :: a)=n:=by
 let e:∀x∈n :: a,x=n:=λx b=>by
  rcases ax.mp b with r|b
  .exact r
  .exact h x b
 calc e _ iu.1
def  ver(f:Nt Int->SI):Nt Int->SI
 | []=>dX
 |n :: ns=>f (n :: ns)
def  Wy(C:Jr)(H:Hp)(x:Jr):Prop:=∃a z,H x=Nc (.ins C a [("called",.str z)])
def  DK(a:Nt Int):SI:=say<|a.headD 0
def  ur(a:Nt Int):SI:=if ⇑a=1 then say (a.headD 0)else wQ
def  near(lo hi n:Int):Int:=if n<lo then lo else if n>hi then hi else n
def  wf:Nat->Int->Int->Nt Int->SI
 |0,_,_=>DK
 |1,_,_=>ur
 |2,_,_=>uq
 |3,_,_=>GN
 |4,_,_=>Fs
 |_,lo,hi=>λa=>say<|near lo hi a.sum
def at0(n:Int)(a:Nt Int):atI ((n :: a).map pi) 0=Nc (.int n):=cx (j:=0) U
def  yn(K:am)(C g f:Jr)(i:Nat):Sp:=λe H Q _=>∃(x c o:Jr)(n:Int)(a:Nt Int)(b:Int×Int),e=[.ref x,.ref c,.ref o]/\Wy C H x/\Dom g f H o b/\b.1<=b.2/\SqL K H c ((n :: a).map pi)/\⇑a<900/\∀(r:Jr)(d:Hp),au H d->Vd K d r (wf i b.1 b.2 (n :: a))->Q (.ref r) d
def  l0(K:am)(C g f:Jr)(i:Nat):Sp:=λe H Q _=>∃(x c o:Jr)(a:Nt Int)(b:Int×Int),e=[.ref x,.ref c,.ref o]/\Wy C H x/\Dom g f H o b/\b.1<=b.2/\SqL K H c (a.map pi)/\⇑a<900/\∀(r:Jr)(d:Hp),au H d->Vd K d r (ver (wf i b.1 b.2) a)->Q (.ref r) d
def  msk(f:Nat->Bool):Nat->Nat
 |0=>0
 |n+1=>(if f n then 2^n else 0)+msk f n
def l7(f:Nat->Bool)(n:Nat):msk f (n+1)=(if f n then 2^n else 0)+msk f n:=rfl
def vY(f:Nat->Bool):∀n,msk f n<2^n
 |0=>w5
 |n+1=>by
  let:=vY f n;unfold msk;rw[Nat.pow_succ];split <;> lia
def wR(f:Nat->Bool)(k:Nat):∀n,(msk f n).testBit k=(Nh (k<n) && f k)
 |0=>by simp[msk]
 |n+1=>by
  let b:=wR f k n;let lt:=vY f n;unfold msk;rcases Nat.lt_trichotomy k n with h|h|h
  .split
   .rw[Nat.testBit_two_pow_add_gt h,b];simp[h,vr h]
   .rw[wz,b];simp[h,vr h]
  .subst h;split
   .rename_i hf
    rw[Nat.testBit_two_pow_add_eq,Ny lt];simp[hf]
   .rename_i hf
    rw[wz,Ny lt];simp[hf]
  .let a:(if f n=Nf then 2^n else 0)+msk f n<2^k:=u7 (vY f<|n+1)<|Py ⋯ h;rw[Ny a];simp;lia
def  eF(m:Int)(k:Nat):Bool:=KR.bitAnd (m / 2^k) 1 != 0
def yp(f:Nat->Bool)(n k:Nat):eF ((msk f n:Nat):Int) k=(Nh (k<n) && f k):=by
 rw[←wR];unfold eF;let e:((msk f n:Nat):Int) / 2^k=((msk f n / 2^k:Nat):Int):=by simp
 rw[e,OG (Gn _) ⋯];unfold Nat.testBit;rw[Nat.shiftRight_eq_div_pow,FG,Nat.and_comm];show((((1:Int).toNat &&& (msk f n / 2^k):Nat):Int) != 0)=_;rw[lc,bne_iff_ne,bne_iff_ne];constructor
 .intro h z;exact h (by rw[show(1:Int).toNat=1 from U,z];rfl)
 .intro h z;calc h (by rw[show(1:Int).toNat=1 from U]at z;lia)
def  pkF(rws:Nt Rw)(f:Nat->Bool)(n:Nat):Nt Int:=((db n).filter f).map λk=>(rws.getD k ([],0)).2
def uu(rws:Nt Rw)(f:Nat->Bool)(n:Nat):pkF rws f (n+1)=pkF rws f n++(if f n then[(rws.getD n ([],0)).2] else[]):=by
 unfold pkF;rw[kF,n7,eN];cases h:f n with
 |true=>rw[ov h];simp
 |false=>rw[lY (by rw[h];exact cr)];simp
def wV(rws:Nt Rw)(f:Nat->Bool)(n:Nat):⇑(pkF rws f n)<=n:=by
 unfold pkF;rw[af];calc uU (oD ..) (by simp)
def  Tbl(g h f:Jr)(H:Hp)(t:Jr)(rws:Nt Rw)(i:Nat)(o:Int×Int):Prop:=∃(c d e:Jr)(fs:Nt (Str×V))(a:Nt V)(b:Str),H t=Nc (.ins g e fs)/\fs.lookup s!"rows"=↑c/\fs.lookup s!"way"=Nc (.str b)/\fs.lookup s!"outcome"=↑d/\H c=Nc (.lst a)/\RL NT H a rws/\six[i]?=Nc b/\Dom h f H d o/\o.1<=o.2/\⇑a<=200
def Tbl.same{c d b:Jr}{H H':Hp}{t:Jr}{rws:Nt Rw}{i:Nat}{o:Int×Int}(h:Tbl c d b H t rws i o)(s:au H H'):Tbl c d b H' t rws i o:=by
 let(g,j,w,fs,e,f,v,u,r,q,p,n,m,l,k,a):=h;calc(g,j,w,fs,e,f,s _ _ v,u,r,q,s _ _ p,n.same s,m,l.same s,k,a,)
def  ka(rws:Nt Rw)(cs:Nt Int)(k:Nat):Bool:=kM (rws.getD k ([],0)).1 cs
def getD_at{rws:Nt Rw}(e:rws[k]?=Nc w):rws.getD k ([],0)=w:=by rw[en,e];rfl
def  fl(rws:Nt Rw)(cs:Nt Int):Nt Int:=(rws.filter λw=>kM w.1 cs).map (·.2)
structure Lay(H:Hp)(r1:Jr)(F2 F3:Jr->Prop)(m:Nat):Prop where
 top:∃xs,H r1=Nc (.lst xs)/\⇑xs<=63/\∀x∈xs,∃(t ce:Jr)(c:Int),x=.ref t/\H t=Nc (.tup [.ref ce,.int c])/\F2 ce
 mid:∀ce,F2 ce->∃ys,H ce=Nc (.lst ys)/\⇑ys<=4/\∀y∈ys,∃l,y=.ref l/\F3 l
 low:∀l,F3 l->∃zs,H l=Nc (.lst zs)/\⇑zs<=m
 n2:¬ F2 r1
 n3:¬ F3 r1
 n23:∀a,F2 a->F3 a->False
def Ai(x:V)(xs:Nt V):nG (x :: xs) (Nc 1) Nd=xs:=by
 unfold nG;simp[HT.sIx]
def n9(g:SqT K H a xs)(d:SqT K H b ys)(c:⇑xs=⇑ys)(h:∀(j:Nat)(x y:V),xs[j]?=Nc x->ys[j]?=Nc y->DEq K H n x y Nf):DEq K H (n+1) (.ref a) (.ref b) true:=by
 by_cases e:a=b
 .subst e;exact .same a
 .let:=DEq.tup (f:=λ_=>Nf) e g d h;rw[show((db<|min ⇑xs ⇑ys).all (λ_=>Nf) && ⇑xs == ⇑ys)=Nf by simp[c]]at this;calc this
def sJ(i:Int):DEq K H n (.int i) (.int i) true:=by
 let:=DEq.flat (K:=K) (H:=H) (n:=n) (x:=.int i) (y:=.int i) U U;rw[show eqV (.int i) (.int i)=Nf by simp[eqV]]at this;calc this
def DL{K:am}{H:Hp}{n:Nat}{xs ys:Nt V}{ps:Prs}(h:PL H xs ps)(h':PL H ys ps)(j:Nat)(x y:V)(i:xs[j]?=Nc x)(g:ys[j]?=Nc y):DEq K H (n+1) x y true:=by
 let(u,r,f,rfl,e):=h.get i;let(k,l,b,rfl,d):=h'.get g;rw[f]at b;cases b;refine n9 (P9 e) (P9 d) U λj x y a c=>?_
 rw[a]at c;cases c
 match j,a with
 |0,a=>cases a;exact sJ _
 |1,a=>cases a;exact sJ _
 |j+2,a=>simp at a
def aN.drop{α:Type}{xs:Nt V}{b:Nt α}{P:Jr->α->Prop}(h:aN xs b P)(k:Nat):aN (xs.drop k) (b.drop k) P:=by
 refine(by rw[jP,jP,h.1],λj a e=>?_,);rw[sk]at e;let(r,c,p):=h.2 _ a e;calc(r,by rw[sk];exact c,p,)
structure Pts(ps:Nt Int):Prop where
 two:2<=⇑ps
 few:⇑ps<=13
 asc:ps.Pairwise (· < ·)
def  s2(c:Int):Nt Nat:=[113+(c%8).toNat,121+(c / 8%2).toNat]
def  w3l(c k:Int):Nt Nat:=(s2 c).take (c / 16%3).toNat++([97+k.toNat]++(s2 c).drop (c / 16%3).toNat)
def  w3(c k:Int):Str:=⟨(w3l c k).toArray⟩
def aN.take{α:Type}{xs:Nt V}{b:Nt α}{P:Jr->α->Prop}(h:aN xs b P)(k:Nat):aN (xs.take k) (b.take k) P:=by
 refine(by rw[hZ,hZ,h.1],λj a e=>?_,);rw[rK]at e;split at e
 .rename_i hj
  let(r,c,p):=h.2 _ a e;exact(r,by rw[rK,Nk hj];exact c,p,)
 .cases e
def aN.app{α:Type}{xs ys:Nt V}{c bs:Nt α}{P:Jr->α->Prop}(h:aN xs c P)(h':aN ys bs P):aN (xs++ys) (c++bs) P:=by
 refine(by rw[cb,cb,h.1,h'.1],λj a e=>?_,);by_cases d:j<⇑c
 .rw[iv d]at e;let(r,b,p):=h.2 _ a e;exact(r,by rw[iv (by rw[h.1];exact d)];exact b,p,)
 .rw[kc ∅]at e;let(r,b,p):=h'.2 _ a e;calc(r,by rw[kc (by rw[h.1];lia),h.1];exact b,p,)
def  bX(lo hi:Int)(cs:Nt Int):Nt (Int×Int):=(lo :: cs).zip (cs.map (· - 1)++[hi])
def  Chn:Nt (Int×Int)->Int->Int->Prop
 | [],lo,hi=>lo=hi+1
 |p :: r,lo,hi=>p.1=lo/\lo<=p.2/\Chn r (p.2+1) hi
def uv:∀{cs:Nt Int}{lo hi:Int},cs.Pairwise (· < ·)->(∀c∈cs,lo<c/\c<=hi)->lo<=hi->Chn (bX lo hi cs) lo hi
 | [],lo,hi,_,_,h=>(U,h,U,)
 |c :: cs,lo,hi,hp,hb,h=>by
  let(f,b):=nF.mp hp;let a:=hb c cF;let e:bX lo hi (c :: cs)=(lo,c-1) :: bX c hi cs:=rfl;rw[e];refine(U,by show lo<=c-1;lia,?_,);show Chn (bX c hi cs) (c-1+1) hi;rw[show c-1+1=c by lia];calc uv b (λd hd=>(f d hd,(hb d<|dz _ hd).2,)) a.2
def gf(lo hi:Int)(cs:Nt Int):⇑(bX lo hi cs)=⇑cs+1:=by simp[bX]
def PL.of_get:∀{ts:Nt Jr}{ps:Nt (Int×Int)},⇑ts=⇑ps->(∀(j:Nat)(p:Int×Int),ps[j]?=Nc p->∃T,ts[j]?=Nc T/\H T=Nc (.tup [.int p.1,.int p.2]))->PL H (ts.map Qf) ps
 | [],[],_,_=>.nil
 | [],p :: ps,h,_=>by simp at h
 |t :: ts,[],h,_=>by simp at h
 |t :: ts,p :: ps,h,g=>by
  let(T,c,b):=g 0 p U;let:t=T:= ~~~c
  subst this;calc .cons (t,U,b,)<|PL.of_get (~~~h) λj q a=>~~~g (j+1) q (~~~a)
def zip_get{j:Nat}{p:Int×Int}(e:(bX lo hi cs)[j]?=Nc p):((lo :: cs).map pi)[j]?=Nc (.int p.1)/\((cs.map (· - 1)++[hi]).map pi)[j]?=Nc (.int p.2):=by
 unfold bX at e;rw[pY]at e;let(b,a):=e;calc(get_map b,get_map a,)
def  o8(lo hi:Int)(a:Nt Int)(m:Int):Nt Int:=if lo<m/\m<=hi/\m ∉ a then a++[m]else a
def  dd(lo hi:Int)(ms:Nt Int):Nt Int:=ms.foldl (o8 lo hi) []
def vZ(lo hi:Int):∀(ms d:Nt Int),d.Nodup->(ms.foldl (o8 lo hi) d).Nodup/\∀c,c∈ms.foldl (o8 lo hi) d↔(c∈d\/(c∈ms/\lo<c/\c<=hi))
 | [],d,h=>(h,λc=>by simp,)
 |m :: ms,d,h=>by
  let j:(o8 lo hi d m).Nodup:=by
   unfold o8;split
   .rename_i g
    rw[pM];refine(h,by simp,λa i b f=>?_,);let:b=m:= ~~~f
    subst this;exact λz=>g.2.2<|z ▸ i
   .exact h
  let(l,k):=vZ lo hi ms (o8 lo hi d m) j;calc(l,λc=>(k c).trans ?_,);unfold o8;by_cases g:lo<m/\m<=hi/\m ∉ d
  .rw[Nk g];simp only[gz,ax,ja,or_false];constructor
   .rintro((h|rfl)|⟨h,h'⟩)
    .exact .inl h
    .exact .inr (.inl U,g.1,g.2.1,)
    .exact .inr (.inr h,h',)
   .rintro(h|⟨rfl|h,h'⟩)
    .exact .inl<|.inl h
    .exact .inl<|.inr U
    .exact .inr (h,h',)
  .rw[Nj g];simp only[ax];constructor
   .rintro(h|⟨h,h'⟩)
    .exact .inl h
    .exact .inr (.inr h,h',)
   .rintro(h|⟨rfl|h,h'⟩)
    .exact .inl h
    .by_cases e:c∈d
     .exact .inl e
     .exact Nl (h'.1,h'.2,e,) g
    .exact .inr (h,h',)
def sL{ms cs:Nt Int}(d:cs.Pairwise (· < ·))(f:∀c,c∈cs↔(c∈ms/\lo<c/\c<=hi)):⇑cs=⇑(dd lo hi ms):=by
 let(g,b):=vZ lo hi ms [] sY;let e:∀c,c∈cs↔c∈dd lo hi ms:=λc=>by
  rw[f c];exact⟨λh=>(b c).mpr<|.inr h,λh=>by rcases(b c).mp h with z|z;cases z;exact z⟩
 calc Cw (cB (d.imp λh=>Pn h) λx a=>(e x).mp a)<|cB g λx a=>(e x).mpr a
def Ft(lo hi:Int)(ms:Nt Int):⇑(dd lo hi ms)<=⇑ms:=by
 let(c,b):=vZ lo hi ms [] sY;exact cB c λx a=>by rcases(b x).mp a with z|z;cases z;calc z.1
def  gl(ps:Nt (Int×Int))(a:Nt (Nt Int))(j:Nat):Nat:=⇑(dd (ps.getD j (0,0)).1 (ps.getD j (0,0)).2<|a.getD j [])+1
def  gr(ps:Nt (Int×Int))(a:Nt (Nt Int)):Nat->Nat
 |0=>1
 |n+1=>gr ps a n*gl ps a n
def Fu(h:∀ms∈a,⇑ms<=400)(j:Nat):gl ps a j<=401:=by
 unfold gl;let:=Ft (ps.getD j (0,0)).1 (ps.getD j (0,0)).2<|a.getD j [];let b:⇑(a.getD j [])<=400:=by
  rw[en];cases e:a[j]? with
  |none=>simp
  |some ms=>exact h ms (JQ e)
 lia
def CG(h:∀ms∈c,⇑ms<=400):∀n,gr ps c n<=401^n
 |0=>uN _
 |n+1=>by
  let a:=CG (ps:=ps) h n;let b:=Fu (ps:=ps) h n;show gr ps c n*gl ps c n<=401^n*401;calc Nat.mul_le_mul a b
def  MLs(H:Hp)(c:Nt Jr)(a:Nt (Nt Int)):Prop:=⇑c=⇑a/\∀(j:Nat)(b:Nt Int),a[j]?=Nc b->∃r,c[j]?=Nc r/\H r=Nc (.lst<|b.map pi)
def MLs.keep(h:MLs H b a)(k:∀r∈b,∀o,H r=Nc o->H' r=Nc o):MLs H' b a :=
 (h.1,λj c e=>let ⟨r,e1,e2⟩:=h.2 j c e;(r,e1,k r (JQ e1) _ e2,),)
def MLs.same{H H':Hp}{b:Nt Jr}{a:Nt (Nt Int)}(h:MLs H b a)(s:au H H'):MLs H' b a:=h.keep λ_ _ _ e=>s _ _ e
def Aj{a:Nt Jr}{j:Nat}{x:V}(e:(a.map Qf)[j]?=Nc x):∃r,x=.ref r/\a[j]?=Nc r:=by
 rw[fi]at e;cases h:a[j]? with
 |none=>rw[h]at e;cases e
 |some r=>rw[h]at e;cases e;calc(r,U,U,)
def  MOK(ps:Nt (Int×Int))(a:Nt (Nt Int)):Prop:=⇑ps=⇑a/\⇑ps<=6/\∀ms∈a,⇑ms<=400
abbrev Tri:=Int×Int×V
def  T3(H:Hp)(xs:Nt V)(ts:Nt Tri):Prop:=⇑xs=⇑ts/\∀(i:Nat)(t:Tri),ts[i]?=Nc t->∃r:Jr,xs[i]?=↑r/\H r=Nc (.tup [.int t.1,.int t.2.1,t.2.2])
structure At(ts:Nt Tri)(c:Int)(j:Nat)(t:Tri):Prop where
 at_:ts[j]?=Nc t
 le:c<=t.2.1
 lt:∀(i:Nat)(u:Tri),i<j->ts[i]?=Nc u->u.2.1<c
def CH:∀{c:Nt (Int×Int)}{lo hi:Int},Chn c lo hi->zZ c lo hi
 | [],_,_,h=>h
 |_ :: _,_,_,h=>(h.1,h.2.1,CH h.2.2,)
def uw:∀{cs:Nt Int}{lo hi c:Int},cs.Pairwise (· < ·)->(∀x∈cs,lo<x)->lo<=c->c<=hi->bQ (bX lo hi cs) c<=c/\(bQ (bX lo hi cs) c=lo\/bQ (bX lo hi cs) c∈cs)/\lo<=bQ (bX lo hi cs) c/\∀x∈cs,x<=c->x<=bQ (bX lo hi cs) c
 | [],lo,hi,c,_,_,h1,h2=>by
  let e:bQ (bX lo hi []) c=lo:=by simp[bX,bQ,h2]
  rw[e];exact⟨h1,.inl U,pc _,λx a=>by cases a⟩
 |d :: cs,lo,hi,c,hp,hb,h1,h2=>by
  let(g,i):=nF.mp hp;let e:bX lo hi (d :: cs)=(lo,d-1) :: bX d hi cs:=rfl;by_cases q:c<=d-1
  .let f:bQ (bX lo hi (d :: cs)) c=lo:=by rw[e];unfold bQ;rw[kZ (~~~q)];rfl
   rw[f];calc(h1,.inl U,pc _,λx a h=>?_,);rcases ax.mp a with rfl|a
   .lia
   .let:=g x a;lia
  .let f:bQ (bX lo hi (d :: cs)) c=bQ (bX d hi cs) c:=by rw[e];unfold bQ;rw[lg (~~~q)]
   rw[f];let(l,b,k,j):=uw i g (c:=c) ∅ h2;let hd:=hb d cF;refine(l,.inr ?_,∅,λx a h=>?_,)
   .rcases b with b|b
    .rw[b];exact cF
    .exact dz _ b
   .rcases ax.mp a with rfl|a
    .exact k
    .exact j x a h
def  CoL(H:Hp)(xs:Nt V)(a:Nt (List<|Int×Int)):Prop:=aN xs a λr c=>∃b,H r=Nc (.lst b)/\PL H b c
def CoL.same{H H':Hp}{xs:Nt V}{a:Nt (List<|Int×Int)}(h:CoL H xs a)(s:au H H'):CoL H' xs a:=aN.mono h λ_ _ (b,e,p,)=>(b,s _ _ e,PL.mono p s.tups,)
structure DM{K':am}{L:Type} [DecidableEq L] (A:Lfp K' L)(P:Jl)(w:Je)(K:am)(mg:Str->Option I1)(base:JD)(f:Jr)(m:Nat)(g:Nt Int->L)(J:Qd):Prop where
 fn:∃sp,HFn P w K mg base 8 f sp/\∀(H:Hp)(a:Jr)(cs:Nt Int)(Q:VK),J H->⇑cs=m->H a=Nc (.lst<|cs.map pi)->(∀v H',(∀b o,b≠a->H b=Nc o->H' b=Nc o)->A.R H' (g cs) v->Q v H')->sp [.ref a] H Q E0
 ob:∀H,J H->FnO H f
 st:∀H H',J H->au H H'->J H'
def rG{α:Type} [DecidableEq α] (ts:Nt (T3a α)):⇑(fB ts)<=⇑ts:=by
 let:∀(r f:Nt (T3a α)),⇑(r.foldl dr f)<=⇑f+⇑r:=by
  intro r;induction r with
  |nil=>intro f;exact uN _
  |cons t r a =>
   intro f;let c:⇑(dr f t)<=⇑f+1:=by
    unfold dr;split
    .split
     .rw[cb,List.length_dropLast,dV];lia
     .rw[cb,dV];lia
    .rw[cb,dV];lia
   let b:=a<|dr f t;rw[gE];show(⇑(r.foldl dr<|dr f t))<=_;lia
 let h:=this ts [];rw[List.length_nil,wz]at h;calc h
def  below(ms:Nt Int)(c:Int):Int:=(⇑(ms.filter λm=>decide<|m<=c):Int)
def  DN(a:Nt (Nt Int))(b:Int)(cs:Nt Int):Nat->Int
 |0=>0
 |k+1=>DN a b cs k*b+(1+DN a b cs k)%3*below (a.getD k []) (cs.getD k 0)
def  told(a:Nt (Nt Int))(b c st:Int)(cs:Nt Int):Int:=DN a b cs ⇑cs%c*st
def  SmS{α:Type}(b:Nat)(S:α->Prop)(f:Nt (T3a α)):Prop:=⇑f<=b/\∀t∈f,S t.2.2
def  SmF{L:Type}(b:Nat):(n:Nat)->Fm L n->Prop
 |0,_=>True
 |n+1,f=>SmS b (SmF b n) f
def o9{L:Type} [DecidableEq L] {g:Nt Int->L}:∀{a:Nt (List<|Int×Int)}{ps:Nt (Int×Int)},fK a ps->(∀c∈a,⇑c<=b)->∀e:Nt Int,SmF b ⇑a (lay g a e)
 | [],_,_,_,_=>trivial
 |c :: a,_,hok,h,e=>by
  cases hok with
  | @cons _ _ p ps hne d hok =>
   let k:=fv<|Aa (λq=>lay g a<|e++[q.1]) d;refine(uU (rG _) (by rw[af];exact h c cF),λt f=>?_,);let(l,j,i):=k.mem t f;let(q,_,rfl):=cU.mp j;rw[←i];calc o9 hok (λc d=>h c<|dz _ d) _
def mV:∀{ps:Nt (Int×Int)}{css:Nt (Nt Int)},⇑css=⇑ps->(∀p∈ps,p.1<=p.2)->(∀(j:Nat)(p:Int×Int)(cs:Nt Int),ps[j]?=Nc p->css[j]?=Nc cs->cs.Pairwise (· < ·)/\∀c∈cs,p.1<c/\c<=p.2)->fK (im (λp cs=>bX p.1 p.2 cs) ps css) ps
 | [],[],_,_,_=>.nil
 | [],_ :: _,h,_,_=>by simp at h
 |_ :: _,[],h,_,_=>by simp at h
 |p :: ps,cs :: css,h,hle,hk=>by
  let(a,b):=hk 0 p cs U U;calc .cons (λz=>?_) (CH<|uv a b<|hle p cF)<|mV (~~~h) (λq d=>hle q<|dz _ d) λj q c f e=>hk (j+1) q c (~~~f)<|~~~e;let:=Nq sK z;rw[gf]at this;simp at this
def  qz{L M:Type} [DecidableEq M] (h:L->M):(n:Nat)->Fm L n->Fm M n
 |0,x=>h x
 |n+1,f=>fB<|List.map (λt:T3a (Fm L n)=>((t.1,t.2.1,qz h n t.2.2):T3a (Fm M n))) f
def sM{α a:Type}(F:α->a):∀{f:Nt (T3a α)}{lo hi:Int},Ch3 f lo hi->Ch3 (f.map λt=>((t.1,t.2.1,F t.2.2):T3a a)) lo hi
 | [],_,_,h=>h
 |_ :: _,_,_,h=>(h.1,h.2.1,sM F h.2.2,)
def ux{α a:Type}(F:α->a)(c:Int):∀f:Nt (T3a α),vAt (f.map λt=>((t.1,t.2.1,F t.2.2):T3a a)) c=(vAt f c).map F
 | []=>rfl
 |t :: f=>by
  let b:=ux F c f;unfold vAt at b⊢;rw[iO];by_cases q:c<=t.2.1
  .rw[kZ (~~~q),kZ (~~~q)];rfl
  .rw[lg (~~~q),lg (~~~q)];calc b
def eW{α:Type}{c:Int}:∀{f:Nt (T3a α)}{j:Nat}{t:T3a α},f[j]?=Nc t->c<=t.2.1->(∀(i:Nat)(u:T3a α),i<j->f[i]?=Nc u->u.2.1<c)->vAt f c=Nc t.2.2
 | [],j,t,e,_,_=>by simp at e
 |u :: f,0,t,e,h,_=>by
  cases e;unfold vAt;rw[kZ (~~~h)];rfl
 |u :: f,j+1,t,e,h,k=>by
  let a:=k 0 u (C3 _) U;let:=eW (f:=f) (j:=j) (t:=t) (~~~e) h λi w hi b=>k (i+1) w ∅ (~~~b)
  unfold vAt at this⊢;rw[lg (~~~a)];calc this
def Ak{L M:Type} [DecidableEq M] {h:L->M}:∀{n:Nat}{F:Fm L n}{ps:Nt (Int×Int)},c0 n F ps->c0 n (qz h n F) ps
 |0,_,_,hs=>hs
 |n+1,F,ps,hs=>by
  let(G,rfl):∃G:Nt (T3a<|Fm L n),(G:Fm L (n+1))=F:=(F,U,);let(p,r,rfl,c,d,i,g):ShS (c0 n) G ps:=hs;let k:=fv<|sM (qz h n) d;calc(p,r,U,k.ne<|~~~c,k.ch,k.nb,λt f=>?_,);let(j,a,b):=k.mem t f;let(u,e,rfl):=cU.mp a;rw[←b];calc Ak<|g u e
def BA{L M:Type} [DecidableEq M] {h:L->M}{n:Nat}{F:Fm L n}{cs:Nt Int}{x:L}(g:Tel n F cs x):∀{ps:Nt (Int×Int)},c0 n F ps->InB cs ps->Tel n (qz h n F) cs (h x):=by
 induction g with
 |nil x=>intro ps _ _;exact .nil<|h x
 | @cons n f c cs x j t e1 e2 e3 _ ih =>
  intro ps i b;let(p,r,rfl,v,d,w,o):ShS (c0 n) f ps:=i;cases b with
  |cons m l b =>
   let k:=fv<|sM (qz h n) d;let(y,e,u,z,s,q,a):=k.ch.at m l;rw[k.va,ux,eW e1 e2 e3]at a;let a:qz h n t.2.2=e.2.2:=bn a;calc .cons (f:=(qz h (n+1) f:Nt (T3a<|Fm M n))) u s q ?_;rw[←a];calc ih (o t<|JQ e1) b
structure BB{K':am}{L M:Type} [DecidableEq L] [DecidableEq M] (A:Lfp K' L)(B:Lfp K' M)(P:Jl)(w:Je)(K:am)(mg:Str->Option I1)(base:JD)(f:Jr)(h:L->M)(J:Qd):Prop where
 fn:∃sp,HFn P w K mg base 8 f sp/\∀(H:Hp)(v:V)(x:L)(Q:VK),J H->A.R H x v->(∀u H',au H H'->B.R H' (h x) u->Q u H')->sp [v] H Q E0
 ob:∀H,J H->FnO H f
 st:∀H H',J H->au H H'->J H'
def  Cov{α:Type}:Nt (T3a α)->Int->Int->Prop
 | [],lo,hi=>lo=hi+1
 |t :: r,lo,hi=>lo<=t.2.1/\Ch3 r (t.2.1+1) hi
def _root_._L.Ch3.le{α:Type}:∀{f:Nt (T3a α)}{lo hi:Int},Ch3 f lo hi->lo<=hi+1
 | [],_,_,h=>Int.le_of_eq h
 |t :: f,lo,hi,h=>by have:=_L.Ch3.le h.2.2;let:=h.2.1;lia
def cy{α:Type}(t:T3a α)(r:Nt (T3a α))(c:Int):vAt (t :: r) c=if c<=t.2.1 then Nc t.2.2 else vAt r c:=by
 unfold vAt;by_cases h:c<=t.2.1
 .rw[kZ (~~~h),Nk h];rfl
 .rw[lg (~~~h),Nj h]
def  loF{α:Type}(f:Nt (T3a α)):Int:=(f.head?.map (·.1)).getD 0
def _root_._L.Ch3.lo{α:Type}:∀{f:Nt (T3a α)}{lo hi:Int},Ch3 f lo hi->f≠[]->loF f=lo
 | [],_,_,_,h=>Nl U h
 |_ :: _,_,_,h,_=>h.1
def SmF.le{L:Type}:∀{n:Nat}{F:Fm L n},SmF b n F->b<=a->SmF a n F
 |0,_,_,_=>trivial
 |n+1,F,h,l=>by
  let(f,rfl):∃f:Nt (T3a<|Fm L n),(f:Fm L (n+1))=F:=(F,U,);let(e,d):SmS b (SmF b n) f:=h;calc(uU e l,λt c=>SmF.le (d t c) l,)
def BC{ps:Nt (Int×Int)}{css:Nt (Nt Int)}{cs:Nt Int}{k:Nat}{p:Int×Int}{ks:Nt Int}{c:Int}(a:ps[k]?=Nc p)(b:css[k]?=Nc ks)(d:cs[k]?=Nc c):(im bQ (im (λp cs=>bX p.1 p.2 cs) ps css) cs)[k]?=Nc (bQ (bX p.1 p.2 ks) c):=by
 rw[ml,ml,a,b,d]
def rH{α:Type}:∀{f g:Nt (T3a α)}{lo hi:Int},Ch3 f lo hi->Ch3 g lo hi->Nbx (f.map (·.2.2))->Nbx (g.map (·.2.2))->(∀c,lo<=c->c<=hi->vAt f c=vAt g c)->f=g
 | [],[],_,_,_,_,_,_,_=>rfl
 | [],t :: g,lo,hi,e,d,_,_,_=>by
  let e:lo=hi+1:=e;let:=d.2.1;let:=d.2.2.le;lia
 |s :: f,[],lo,hi,e,d,_,_,_=>by
  let d:lo=hi+1:=d;let:=e.2.1;let:=e.2.2.le;lia
 |s :: f,t :: g,lo,hi,e,d,nf,ng,hv=>by
  let(A,z,o):=e;let(w,v,n):=d;let O:=o.le;let N:=n.le;let j:=hv lo ∅ ∅;rw[cy,cy,Nk z,Nk v]at j;let j:s.2.2=t.2.2:=bn j;let k:∀{a b:T3a α}{r:Nt (T3a α)}{q:Nt (T3a α)},Ch3 r (a.2.1+1) hi->Nbx ((a :: r).map (·.2.2))->a.2.1<b.2.1->b.2.1<=hi->lo<=a.2.1->a.2.2=b.2.2->vAt (a :: r) (a.2.1+1)=vAt (b :: q) (a.2.1+1)->False:=λ{a b r q} l B R Q P C m=>by
   rw[cy,cy,Nj ∅,Nk ∅]at m;cases r with
   |nil =>
    let l:a.2.1+1=hi+1:=l;lia
   |cons u r =>
    rw[cy,Nk l.2.1]at m;exact B 0 _ _ U U<|C.trans (bn m).symm
  let p:s.2.1=t.2.1:=by
   rcases Int.lt_trichotomy s.2.1 t.2.1 with h|h|h
   .exact(k o nf h ∅ z j (hv _ ∅ ∅)).elim
   .exact h
   .exact(k n ng h ∅ v j.symm (hv _ ∅ ∅).symm).elim
  let G:s=t:=by
   let(M,s2,L):=s;let(K,J,I):=t;simp only at A w j p;rw[A,w,j,p]
  let tl:∀{α:Type}{a:α}{r:Nt α},Nbx (a :: r)->Nbx r:=λ{α a r} h i x y E D=>h (i+1) x y (~~~E)<|~~~D
  let F:f=g:=rH o (by rw[p];exact n) (tl nf) (tl ng) λc S H=>by
   let:=hv c ∅ H;rw[cy,cy,Nj ∅,Nj ∅]at this;exact this
  rw[G,F]
section
variable{L:Type}
def _root_._L.Tel.inv{n:Nat}{g:Nt (T3a<|Fm L n)}{c:Int}{cs:Nt Int}{y:L}(h:Tel (n+1) (g:Fm L (n+1)) (c :: cs) y):∃(j:Nat)(t:T3a (Fm L n)),g[j]?=Nc t/\c<=t.2.1/\(∀(i:Nat)(u:T3a (Fm L n)),i<j->g[i]?=Nc u->u.2.1<c)/\Tel n t.2.2 cs y:=by
 cases h with
 |cons a b c d=>calc(_,_,a,b,c,d,)
def jX(h:Tel n F cs x):∀{y:L},Tel n F cs y->x=y:=by
 induction h with
 |nil x=>intro y a;cases a;rfl
 | @cons n f c cs x j t e1 e2 e3 _ ih =>
  intro y a;let(l,k,i,g,d,b):=a.inv;let e:=(eW e1 e2 e3).symm.trans<|eW i g d;rw[←bn e]at b;calc ih b
def jY:∀{n:Nat}{F G:Fm L n}{ps:Nt (Int×Int)},c0 n F ps->c0 n G ps->(∀cs,InB cs ps->∀x y,Tel n F cs x->Tel n G cs y->x=y)->F=G
 |0,F,G,ps,a,_,hv=>by
  let a:ps=[]:=a;subst a;exact hv [] .nil F G (.nil F) (.nil G)
 |n+1,F,G,ps,a,hs',hv=>by
  let(f,rfl):∃f:Nt (T3a<|Fm L n),(f:Fm L (n+1))=F:=(F,U,);let(g,rfl):∃g:Nt (T3a<|Fm L n),(g:Fm L (n+1))=G:=(G,U,);let(p,r,rfl,I,b,i,w):ShS (c0 n) f ps:=a;let(K,J,e,P,l,H,s):ShS (c0 n) g (p :: r):=hs';cases e;refine rH b l i H λc h d=>?_
  let(j,t,m,N,B,A,z):=b.at h d;let(M,q,o,O,E,D,C):=l.at h d;rw[z,C];rw[jY (w t<|JQ m) (s q<|JQ o) λcs k x y v u=>hv (c :: cs) (.cons h d k) x y (.cons m B A v) (.cons o E D u)]
end
def Al:∀{cs:Nt Int}{ps:Nt (Int×Int)},⇑cs=⇑ps->(∀(j:Nat)(c:Int)(p:Int×Int),cs[j]?=Nc c->ps[j]?=Nc p->p.1<=c/\c<=p.2)->InB cs ps
 | [],[],_,_=>.nil
 | [],_ :: _,h,_=>by simp at h
 |_ :: _,[],h,_=>by simp at h
 |c :: cs,p :: ps,h,k=>.cons (k 0 c p U U).1 (k 0 c p U U).2<|Al (~~~h) λj x q b a=>k (j+1) x q (~~~b)<|~~~a
def sO{α:Type}:∀{f:Nt (T3a α)}{lo hi:Int}{j:Nat}{s:T3a α},Ch3 f lo hi->f[j]?=Nc s->lo<=s.1/\s.1<=s.2.1/\s.2.1<=hi/\(∀t,f[j+1]?=Nc t->t.1=s.2.1+1)/\(∀(i:Nat)(u:T3a α),i<j->f[i]?=Nc u->u.2.1<s.1)/\(j=0->s.1=lo)
 | [],_,_,j,s,_,e=>by simp at e
 |t :: f,lo,hi,0,s,h,e=>by
  cases e;let c:=h.1;let b:=h.2.1;let n:=h.2.2.le;calc(∅,∅,∅,λt e=>?_,λi u hi=>Nl hi<|zm i,λ_=>c,);cases f with
  |nil=>simp at e
  |cons u f=>simp at e;subst e;exact h.2.2.1
 |t :: f,lo,hi,j+1,s,h,e=>by
  let d:f[j]?=Nc s:= ~~~e
  let(p,m,l,k,g,o):=sO (f:=f) h.2.2 d;let b:=h.2.1;refine(∅,m,l,λt e=>k t<|~~~e,λi u hi a=>?_,λz=>∅,)
  match i,a with
  |0,a=>cases a;lia
  |i+1,a=>calc g i u ∅ (~~~a)
section
variable{L:Type}
def Am{n:Nat}{f:Nt (T3a<|Fm L n)}{lo hi:Int}{j:Nat}{t:T3a (Fm L n)}{c:Int}{cs:Nt Int}{x:L}(h:Ch3 f lo hi)(e:f[j]?=Nc t)(k:t.1<=c)(b:c<=t.2.1)(a:Tel n t.2.2 cs x):Tel (n+1) (f:Fm L (n+1)) (c :: cs) x:=by
 let(_,_,_,_,g,_):=sO h e;calc .cons e b (λi u hi d=>by have:=g i u hi d;lia) a
end
def yq(h:n<=2000):n<JR:=wu h ⋯
def c9{α c:Type}{R:α->c->Prop}:∀{xs:Nt α}{d:Nt c}{i:Nat}{x:α},Paired R xs d->xs[i]?=Nc x->∃a,d[i]?=Nc a/\R x a
 |_,_,_,_,.nil,e=>by simp at e
 |_,_,0,_,.cons (b:=b) h _,e=>by simp at e;subst e;exact(b,U,h,)
 |_,_,i+1,x,.cons _ tl,e=>by
  let(a,q):=c9 (i:=i) (x:=x) tl<|~~~e;calc(a,~~~q.1,q.2,)
def gh{α b:Type}{R:α->b->Prop}{xs ys:Nt α}{c bs:Nt b}(h:Paired R xs c)(h':Paired R ys bs):Paired R (xs++ys) (c++bs):=by
 induction h with
 |nil=>exact h'
 |cons a _ d=>calc .cons a d
def An(d:H a=Nc (.tup xs))(c:H b=Nc (.tup ys))(hz:⇑xs+⇑ys<=JR)(q:∀(r:Jr)(H':Hp),au H H'->H' r=Nc (.tup<|xs++ys)->Q (.ref r) H'):vB K (.ref a) (.ref b) H Q:=by
 refine(a,b,xs,ys,U,U,P9 d,P9 c,hz,λz=>?_,λ_ z=>?_,λ_ _ p e=>q p _ (ai e _) ae,)
 .subst z;exact q b H (au.refl _) c
 .subst z;calc q a H (au.refl _) (by rw[ik];exact d)
def  BxA(H:Hp)(a:Jr)(B:Nt (Int×Int)):Prop:=∃b,H a=Nc (.tup b)/\PL H b B
def BxA.mono{H H':Hp}{a:Jr}{B:Nt (Int×Int)}(h:BxA H a B)(s:cc H H'):BxA H' a B:=by let(b,e,p):=h;calc(b,s _ _ e,p.mono s,)
def  bxs{L:Type}:(n:Nat)->Fm L n->Nt (Nt (Int×Int)×L)
 |0,f=>[([],f)]
 |n+1,l=>List.flatMap (λe:T3a (Fm L n)=>(bxs n e.2.2).map λq=>((e.1,e.2.1) :: q.1,q.2)) l
def wW{L:Type}(n:Nat)(l m:Nt (T3a<|Fm L n)):bxs (n+1) (show Fm L (n+1)from l++m)=bxs (n+1) (show Fm L (n+1)from l)++bxs (n+1) (show Fm L (n+1)from m):=Oo
def BG{L:Type}(n:Nat)(e:T3a (Fm L n)):bxs (n+1) (show Fm L (n+1) from[e])=(bxs n e.2.2).map λq=>((e.1,e.2.1) :: q.1,q.2):=by
 show List.flatMap (λe:T3a (Fm L n)=>(bxs n e.2.2).map λq=>((e.1,e.2.1) :: q.1,q.2)) [e]=_;rw[Pe]
def  BxL(H:Hp):Nt V->Nt (Nt (Int×Int)×Int)->Prop:=Paired λx q=>∃(t b:Jr),x=.ref t/\H t=Nc (.tup [.ref b,.int q.2])/\BxA H b q.1
def DO{L:Type}{f:Nt (T3a<|Fm L n)}{q:Nt (Int×Int)×L}:q∈bxs (n+1) (f:Fm L (n+1))↔∃e∈f,∃r∈bxs n e.2.2,q=((e.1,e.2.1) :: r.1,r.2):=by
 constructor
 .intro h;let(e,b,c):=qh.mp h;let(r,a,rfl):=cU.mp c;exact(e,b,r,a,U,)
 .rintro⟨e,b,r,a,rfl⟩;calc qh.mpr (e,b,cU.mpr (r,a,U,),)
structure DP(B ps:Nt (Int×Int)):Prop where
 len:B.length=⇑ps
 get:∀(k:Nat)(b p:Int×Int),B[k]?=Nc b->ps[k]?=Nc p->p.1<=b.1/\b.1<=b.2/\b.2<=p.2
def DP.lows(h:DP B ps):InB (B.map (·.1)) ps:=Al (by rw[af,h.len]) λj c p a e=>by
 rw[fi]at a;let(b,d,rfl):=GB.mp a;let:=h.get j b p d e;calc(this.1,∅,)
def l8{L:Type}:∀{n:Nat}{F:Fm L n}{ps:Nt (Int×Int)},c0 n F ps->∀q∈bxs n F,DP q.1 ps/\Tel n F (q.1.map (·.1)) q.2/\Tel n F (q.1.map (·.2)) q.2
 |0,F,ps,c,q,d=>by
  let c:ps=[]:=c;let d:q∈[(([]:Nt (Int×Int)),F)]:=d;rw[eO.mp d,c];exact((U,λk b p e=>by simp at e,),.nil _,.nil _,)
 |n+1,F,ps,c,q,d=>by
  let(f,rfl):∃f:Nt (T3a<|Fm L n),(f:Fm L (n+1))=F:=(F,U,);let(p,r,rfl,A,a,B,w):ShS (c0 n) f ps:=c;let(e,o,t,m,rfl):=DO.mp d;let(j,v,g):=Ol o;let g:f[j]?=Nc e:=by rw[JO v,g]
  obtain⟨z,l,y,-,-,-⟩:=sO a g;let(s,b2,x):=l8 (w e o) t m;refine((by rw[gE,gE,s.len],λk b u i h=>?_,),Am a g (pc _) l b2,Am a g l (pc _) x,)
  match k,i,h with
  |0,i,h=>cases i;cases h;exact(z,l,y,)
  |k+1,i,h=>calc s.get k b u (~~~i) (~~~h)
def uy{α a:Type}{F:α->Nt a}:∀{l:Nt α},(∀x∈l,⇑(F x)<=b)->⇑(l.flatMap F)<=⇑l*b
 | [],_=>ve _
 |x :: l,h=>by
  let e:=h x cF;let d:=uy λy c=>h y<|dz _ c
  rw[Oy,cb,gE,Nat.succ_mul];lia
def  TD(g h f:Jr)(H:Hp)(t:Jr)(c:Nt V)(bs:Prs)(rws:Nt Rw):Prop:=∃(b e d:Jr)(fs:Nt (Str×V))(a:Nt V),H t=Nc (.ins g e fs)/\fs.lookup s!"rows"=↑b/\fs.lookup s!"domains"=↑d/\H d=Nc (.lst c)/\aN c bs (Dom h f H)/\H b=Nc (.lst a)/\RL NT H a rws
def TD.same{c d b:Jr}{H H':Hp}{t:Jr}{a:Nt V}{bs:Prs}{rws:Nt Rw}(h:TD c d b H t a bs rws)(s:au H H'):TD c d b H' t a bs rws:=by
 let(f,o,q,fs,e,n,m,l,k,j,i,g):=h;calc(f,o,q,fs,e,s _ _ n,m,l,s _ _ k,aN.mono j λ_ _ p=>p.same s,s _ _ i,g.same s,)
def pe:hide (upd H D o) D=hide H D:=by
 funext b
 unfold hide;by_cases h:b=D
 .rw[Nk h,Nk h]
 .rw[Nj h,Nj h,aw h]
def mW(s:au H H'):au (hide H D) (hide H' D):=λb o e=>by
 unfold hide at e⊢;by_cases h:b=D
 .rw[Nk h]at e;cases e
 .rw[Nj h]at e⊢;calc s b o e
def sP(H:Hp)(D:Jr):au (hide H D) H:=λb o e=>by
 unfold hide at e;by_cases h:b=D
 .rw[Nk h]at e;cases e
 .rw[Nj h]at e;calc e
def MLs.nil{H:Hp}:MLs H [] []:=(U,λj a e=>by simp at e,)
def MLs.snoc{H:Hp}{f:Nt Jr}{a:Nt (Nt Int)}{r:Jr}{ms:Nt Int}(h:MLs H f a)(e:H r=Nc (.lst<|ms.map pi)):MLs H (f++[r]) (a++[ms]):=by
 refine(by rw[cb,cb,h.1];rfl,λj m b=>?_,);by_cases d:j<⇑a
 .rw[iv d]at b;let(g,k,i):=h.2 j m b;exact(g,by rw[iv (by rw[h.1];exact d)];exact k,i,)
 .rw[kc ∅]at b;let c:j-⇑a=0:=by
   let:=(JP.mp b).1;rw[dV]at this;lia
  rw[c]at b;cases b;calc(r,by rw[kc (by rw[h.1];lia),h.1,c];rfl,e,)
def  rmk(c:Nat)(b:Int×Int)(w:Rw):Nt Int:=(ends<|w.1.getD c []).filter λt=>decide (b.1<t) && decide (t<=b.2)
def  MkC(rws:Nt Rw)(c:Nat)(b:Int×Int)(x:Int):Prop:=∃w∈rws,x∈rmk c b w
def uz:∀R:Prs,⇑(ends R)=2*R.length
 | []=>rfl
 |p :: R=>by
  rw[xM,gE,gE,uz R,gE];lia
def wX:x∈(rws.map<|rmk c b).flatten↔MkC rws c b x:=by
 rw[List.mem_flatten];constructor
 .rintro⟨l,e,a⟩;let(w,d,rfl):=cU.mp e;exact(w,d,a,)
 .rintro⟨w,d,a⟩;calc(_,cU.mpr (w,d,U,),a,)
def  Ao:HO->Prop
 | .frz _ (.lst _)=>True
 | .frz _ _=>False
 | .tbl _=>False
 |_=>True
def  So(H H':Hp):Prop:=∀d o,Ao o->H d=Nc o->H' d=Nc o
def So.of{H H':Hp}(s:au H H'):So H H':=λd o _ e=>s d o e
def So.trans{H f c:Hp}(a:So H f)(b:So f c):So H c:=λd o p e=>b d o p<|a d o p e
def So.tups(s:So H H'):cc H H':=λd a e=>s d _ trivial e
def So.lst{H H':Hp}{a:Jr}{xs:Nt V}(s:So H H')(e:H a=Nc (.lst xs)):H' a=Nc (.lst xs):=s _ _ trivial e
def So.hide{H:Hp}{cs:Nt Jr}(f:Fzs H cs):So H (hideL H cs):=λd o p e=>by
 rw[bG (f.out e λz q=>by rw[q]at p;exact p)];calc e
section
variable{H H':Hp}(s:So H H')
include s
def SpA.so(h:SpA N H l ps):SpA N H' l ps:=by let(n,a,e,p):=h;calc(n,a,s _ _ trivial e,p.mono s.tups,)
def RL.so(h:RL N H xs rws):RL N H' xs rws:=aN.mono h λ_ _ (b,a,e,n,f,c,)=>(b,a,s _ _ trivial e,n,s _ _ trivial f,aN.mono c λ_ _ p=>SpA.so s p,)
def Dom.so(h:Dom d c H a b):Dom d c H' a b:=by let(C,hC,f,fs,e,r):=h;calc(C,hC,f,fs,s _ _ trivial e,r,)
def Tbl.so(h:Tbl b c a H t rws i o):Tbl b c a H' t rws i o:=by
 let(f,g,v,fs,d,e,u,r,q,p,n,m,l,k,j):=h;calc(f,g,v,fs,d,e,s _ _ trivial u,r,q,p,s _ _ trivial n,RL.so s m,l,Dom.so s k,j,)
def MLs.so(h:MLs H b a):MLs H' b a:=(h.1,λj c e=>let ⟨r,e1,e2⟩:=h.2 j c e;(r,e1,s _ _ trivial e2,),)
def TD.so(h:TD c d b H t a bs rws):TD c d b H' t a bs rws:=by
 let(f,o,q,fs,e,n,m,l,k,j,i,g):=h;calc(f,o,q,fs,e,s _ _ trivial n,m,l,s _ _ trivial k,aN.mono j λ_ _ p=>Dom.so s p,s _ _ trivial i,RL.so s g,)
end
def DQ{ms L:Nt Int}(a:ms.Pairwise (· < ·))(h:∀x∈ms,x∈L):⇑ms<=L.length:=cB (a.imp λh=>Pn h) h
structure RfH(cT cN cW:Jr)(H:Hp)(t:Jr)(dv:Nt V)(bs:Prs)(rws:Nt Rw)(L:Nat->Nt Int)(kk:Nat)(i:Nat)(o:Int×Int):Prop where
 td:TD cT cN cW H t dv bs rws
 tb:Tbl cT cN cW H t rws i o
 b4:⇑bs<=4
 r60:⇑rws<=60
 row:∀x∈rws,⇑x.1=⇑bs/\∀c,⇑(x.1.getD c [])<=6
 mrk:∀(c:Nat)(b:Int×Int),bs[c]?=Nc b->⇑(L c)<=kk/\∀x,MkC rws c b x->x∈L c
 few:(kk+1)^⇑bs<=300
 k57:kk<=57
 le:∀p∈bs,p.1<=p.2
def  GO(K:am)(H:Hp):Prop:=∀z,kt K "row_form" = Nc z->dA H z.2 [(iV Y82,"row_form.<locals>.<lambda>")]
structure qA(bs:Prs)(rws:Nt Rw)(cols:Nt (List<|Int×Int)):Prop where
 ok:fK cols bs
 ex:∃css:Nt (Nt Int),⇑css=⇑bs/\cols=im (λp cs=>bX p.1 p.2 cs) bs css/\∀(j:Nat)(p:Int×Int)(cs:Nt Int),bs[j]?=Nc p->css[j]?=Nc cs->cs.Pairwise (· < ·)/\∀x,x∈cs↔MkC rws j p x
def iW(h:MkC rws c b x):b.1<x/\x<=b.2:=by
 let(d,_,a):=h;let:=(kS.mp a).2;rw[EY,Nr,Nr]at this;calc this
abbrev mkg(rws:Nt Rw)(a:Nt Int):Int:=((msk (ka rws a) ⇑rws:Nat):Int)
def SqT.hide{K:am}{H:Hp}{r D:Jr}{xs zs:Nt V}(h:SqT K H r xs)(e:H D=Nc (.lst zs)):SqT K (_M.hide H D) r xs:=by
 rcases h with(h|⟨x,h⟩)|h
 .exact .inl<|.inl (fk h λz=>by rw[z,e]at h;cases h)
 .exact .inl<|.inr ⟨x,fk h λz=>by rw[z,e]at h;cases h⟩
 .exact .inr h
def BxL.get:∀{H:Hp}{xs:Nt V}{L:Nt (Prs×Int)}{j:Nat}{x:V},BxL H xs L->xs[j]?=Nc x->∃q t b,L[j]?=Nc q/\x=.ref t/\H t=Nc (.tup [.ref b,.int q.2])/\BxA H b q.1
 |_,_,_,j,_,.nil,e=>by simp at e
 |_,_,_,0,_,.cons h _,e=>by cases e;let(t,b,d,c,a):=h;exact(_,t,b,U,d,c,a,)
 |_,_,_,j+1,_,.cons _ r,e=>BxL.get r (j:=j)<|~~~e
structure SpG(ps:Nt Int)(m:Int)(n:Nat)(qs:Prs):Prop where
 le:∀p∈qs,p.1<=p.2
 pw:qs.Pairwise λp q=>p.2<q.1
 bel:∀a,ps[n]?=Nc a->∀p∈qs,p.2<a
 iff:∀x,inP qs x=Nf↔∃(k:Nat)(a b:Int),k<n/\ps[k]?=Nc a/\ps[k+1]?=Nc b/\eF m k=Nf/\a<=x/\x<b
 ep:∀p∈qs,p.1∈ps/\p.2+1∈ps
 lenA:2*⇑qs<=n+1
 lenB:(∀p∈qs,∀a,ps[n]?=Nc a->p.2≠a-1)->2*⇑qs<=n
section
variable{ps:Nt Int}{m:Int}{n:Nat}{a b:Int}(hp:Pts ps)(ea:ps[n]?=Nc a)(eb:ps[n+1]?=Nc b)
include hp ea eb
end
def  grow(a:Nt (Nt Nat))(n:Nat):Nt (Nt Nat):=a.flatMap λp=>(db n).map λk=>p++[k]
def Ap{A:Prs}{m n:Int}(f:m<=n)(h:∀e∈ends A,e<=m\/n<e):inP A n=inP A m:=by
 rw[lc,rW,rW];constructor
 .rintro⟨p,a,c,b⟩;let d:=h _<|fq.mpr (p,a,.inl U,);exact(p,a,∅,∅,)
 .rintro⟨p,a,c,b⟩;let d:=h _<|fq.mpr (p,a,.inr U,);calc(p,a,∅,∅,)
def rJ:∀{n:Nat},(∀k,k<n->f k=g k)->msk f n=msk g n
 |0,_=>rfl
 |n+1,h=>by rw[l7,l7,h n<|wm n,rJ λk a=>h k (vr a)]
def wY:∀{cs:Nt Int}{ps:Nt (Int×Int)},InB cs ps->⇑cs=⇑ps/\∀(j:Nat)(c:Int)(p:Int×Int),cs[j]?=Nc c->ps[j]?=Nc p->p.1<=c/\c<=p.2
 |_,_,.nil=>(U,λj c p e=>by simp at e,)
 |_,_,.cons h1 h2 h=>by
  let(d,f):=wY h;refine(by rw[gE,gE,d],λj c p b a=>?_,);cases j with
  |zero=>cases b;cases a;exact(h1,h2,)
  |succ j=>calc f j c p (~~~b) (~~~a)
def wZ(E:qA bs rws a)(u:∀x∈rws,⇑x.1=⇑bs)(h:InB cs bs):mkg rws (im bQ a cs)=mkg rws cs:=by
 let(css,K,e,C):=E.ex;let(H,r):=wY h;let q:⇑(im bQ a cs)=⇑cs:=by rw[e,jO,jO];lia
 show((msk (ka rws<|im bQ a cs) ⇑rws:Nat):Int)=((msk (ka rws cs) ⇑rws:Nat):Int);rw[rJ λk D=>?_];let(x,ex):∃x,rws[k]?=Nc x:=(_,JO D,);let f:=JQ ex;let G:=u x f;unfold ka kM;rw[en,ex,q];show(db ⇑cs).all (λj=>inP (x.1.getD j [])<|(im bQ a cs).getD j 0)=(db ⇑cs).all λj=>inP (x.1.getD j [])<|cs.getD j 0
 let d:∀j∈db ⇑cs,inP (x.1.getD j []) ((im bQ a cs).getD j 0)=inP (x.1.getD j []) (cs.getD j 0):=λj b=>by
  let b:=hE.mp b;let(c,o):∃c,cs[j]?=Nc c:=(_,JO b,);let(p,n):∃p,bs[j]?=Nc p:=(_,JO ∅,);let(i,t):∃i,css[j]?=Nc i:=(_,JO ∅,);let(v,g):=C j p i n t;let(F,b2):=r j c p o n;let s:=BC (css:=css) n t o;rw[←e]at s;let(B,J,I,A):=uw (hi:=p.2) v (λy m=>(iW<|(g y).mp m).1) F b2;rw[en (l:=im bQ a cs),s,en (l:=cs),o];show inP _ (bQ (bX p.1 p.2 i) c)=inP _ c
  symm
  refine Ap B λy m=>?_
  by_cases z:p.1<y/\y<=p.2
  .let:MkC rws j p y:=(x,f,kS.mpr (m,by rw[EY,Nr,Nr];exact z,),);by_cases w:y<=c
   .exact .inl<|A y ((g y).mpr this) w
   .exact .inr ∅
  .by_cases w:y<=p.1
   .exact .inl ∅
   .exact .inr ∅
 rw[lc,jF,jF];calc(λh j b=>by rw[←d j b];exact h j b,λh j b=>by rw[d j b];exact h j b,)
def So.ins{H H':Hp}{a C b:Jr}{fs:Nt (Str×V)}(s:So H H')(e:H a=Nc (.ins C b fs)):H' a=Nc (.ins C b fs):=s _ _ trivial e
def  BxG{L:Type} [DecidableEq L] (A:Lfp K L)(H:Hp):Nt V->Nt (Nt (Int×Int)×L)->Prop:=Paired λx q=>∃(t b:Jr)(u:V),x=.ref t/\H t=Nc (.tup [.ref b,u])/\BxA H b q.1/\A.R H q.2 u
def BxG.mono{K:am}{L:Type} [DecidableEq L] {A:Lfp K L}{H H':Hp}{xs:Nt V}{l:Nt (Nt (Int×Int)×L)}(h:BxG A H xs l)(s:cc H H'):BxG A H' xs l:=Paired.mapP h λ_ _ (t,b,u,e,z,p,r,)=>(t,b,u,e,s _ _ z,p.mono s,A.mono s r,)
def BxG.length{K:am}{L:Type} [DecidableEq L] {A:Lfp K L}{H:Hp}{xs:Nt V}{l:Nt (Nt (Int×Int)×L)}(h:BxG A H xs l):⇑xs=⇑l:=Paired.length h
def tab_ne(h:kt K x=Nc (c,t))(h':kt K y=Nc (c',t'))(d:t≠t'):∀z a,kt K x=Nc z->kt K y=Nc a->z.2≠a.2:=λz a e b=>by
 rw[h]at e;rw[h']at b;cases e;cases b;calc d
def tab_keep(h:dA H P L)(i:P≠b)(e:H b=Nc (.tbl ps))(k:∀d o,d≠b->H d=Nc o->H' d=Nc o):dA H' P L:=by
 let(f,r,q,n):=h;calc(f,k _ _ i r,q,λp m=>?_,);rcases n p m with z|⟨c,g,l,a,j⟩
 .exact .inl z
 .exact .inr (c,g,l,k _ _ (λz=>by rw[z,e]at a;cases a) a,j,)
def sQ{L M:Type} [DecidableEq L] [DecidableEq M] {h:L->M}{g:Nt Int->L}(c:fK a ps):qz h ⇑a (lay g a [])=lay (λd=>h<|g d) a [] :=
 jY (Ak<|fC c []) (fC c []) λe b x y i f=>(jX i<|BA (lV c [] e b) (fC c []) b).trans (jX f<|lV (g:=λd=>h<|g d) c [] e b).symm
def  vdm(rws:Nt Rw)(i:Nat)(o:Int×Int)(m:Int):SI:=ver (wf i o.1 o.2)<|pkF rws (eF m) ⇑rws
def CI{L:Type}(e:n=d)(F:Fm L n)(P:(n:Nat)->Fm L n->Prop)(h:P n F):∃G:Fm L d,P d G:=by subst e;calc(F,h,)
def w6(m:SqT K H a (tp v))(l:SqT K H b (tp u))(h:Q (.bl<|Nh<|v=u) H):zw K Ng (.ref a) (.ref b) H Q:=by
 refine(a,b,_,_,U,U,m,l,λj=>if j=0 then eqV (.str v.1) (.str u.1)else eqV (.int v.2) (.int u.2),λj x y c d=>?_,?_,)
 .match j,c,d with
  |0,c,d=>cases c;cases d;exact EqI.flat U U
  |1,c,d=>cases c;cases d;exact EqI.flat U U
  |j+2,c,d=>simp[tp]at c
 .let e:((db<|min ⇑(tp v) ⇑(tp u)).all (λj=>if j=0 then eqV (.str v.1) (.str u.1)else eqV (.int v.2) (.int u.2)) && ⇑(tp v) == ⇑(tp u))=Nh (v=u):=by
   let c:eqV (.str v.1) (.str u.1)=Nh (v.1=u.1):=by unfold eqV;rw[lc];simp
   let d:eqV (.int v.2) (.int u.2)=Nh (v.2=u.2):=by unfold eqV;rw[lc];simp
   show((db 2).all (λj=>if j=0 then eqV (.str v.1) (.str u.1)else eqV (.int v.2) (.int u.2)) && (2 == 2:Bool))=_;rw[c,d];let(g,f):=v;let(k,i):=u;by_cases o:g=k <;> by_cases n:f=i <;> simp[kF,o,n]
  show Q (.bl (if Ng=Nf then _ else _)) H;rw[Nj ⋯,e];calc h
def  ChL(K:am)(H:Hp):Nt V->Nt (Nt (Int×Int)×Option (SI×SI))->Prop:=Paired λx q=>∃(t b c a:Jr)(p:SI×SI),x=.ref t/\q.2=Nc p/\H t=Nc (.tup [.ref b,.ref c,.ref a])/\BxA H b q.1/\Vd K H c p.1/\Vd K H a p.2
def ChL.mono{K:am}{H H':Hp}{xs:Nt V}{l:Nt (Nt (Int×Int)×Option (SI×SI))}(h:ChL K H xs l)(s:cc H H'):ChL K H' xs l:=Paired.mapP h λ_ _ (t,b,e,d,p,g,f,z,w,c,a,)=>(t,b,e,d,p,g,f,s _ _ z,w.mono s,c.mono s,a.mono s,)
abbrev Dm:=Sum (Int×Int)<|Nt Str
def  DmX(d c:Jr)(H:Hp)(a:Jr):Dm->Prop
 | .inl p=>∃b fs,H a=Nc (.ins d b fs)/\fs.lookup s!"low"=Nc (.int p.1)/\fs.lookup s!"high"=Nc (.int p.2)/\fs.lookup s!"has_code"=Nd
 | .inr zs=>∃b fs l,H a=Nc (.ins c b fs)/\fs.lookup s!"words"=↑l/\H l=Nc (.lst<|zs.map Qe)/\fs.lookup s!"low"=Nc (.int 0)/\fs.lookup s!"high"=Nc (.int<|hiW zs)/\fs.lookup s!"has_code"=Nd
def DmX.same{f c:Jr}{H H':Hp}{a:Jr}{d:Dm}(h:DmX f c H a d)(s:au H H'):DmX f c H' a d:=by
 cases d with
 |inl p=>obtain⟨b,fs,e,r⟩:=h;exact(b,fs,s _ _ e,r,)
 |inr j=>obtain⟨b,fs,l,e,g,i,r⟩:=h;calc(b,fs,l,s _ _ e,g,s _ _ i,r,)
def  Dm.b:Dm->Int×Int
 | .inl p=>p
 | .inr zs=>(0,hiW zs)
def  TDo(e:Jr)(H:Hp)(t:Jr)(d:Nt V)(b:Jr):Prop:=∃c a fs,H t=Nc (.ins e c fs)/\fs.lookup s!"domains"=↑a/\fs.lookup s!"outcome"=↑b/\H a=Nc (.lst d)
def DmX.so(h:DmX f c H a d)(s:So H H'):DmX f c H' a d:=by
 cases d with
 |inl p=>obtain⟨b,fs,e,r⟩:=h;exact(b,fs,s _ _ trivial e,r,)
 |inr j=>obtain⟨b,fs,l,e,g,i,r⟩:=h;calc(b,fs,l,s _ _ trivial e,g,s _ _ trivial i,r,)
def So.seq(e:So H H')(h:SqL K H a xs):SqL K H' a xs:=by
 rcases h with(h|⟨o,h⟩)|h
 .exact .inl<|.inl<|e _ _ trivial h
 .exact .inl<|.inr (o,e _ _ trivial h,)
 .exact .inr h
structure Col where
 prs:Prs
 w:Bool
 sd:Int
structure Ch(ps:Prs):Prop where
 le:∀(i:Nat)(p:Int×Int),ps[i]?=Nc p->p.1<=p.2
 nxt:∀(i:Nat)(p q:Int×Int),ps[i]?=Nc p->ps[i+1]?=Nc q->q.1=p.2+1
structure Jg(c:Col):Prop where
 some_:1<=⇑c.prs
 few:⇑c.prs<=6
 ch:Ch c.prs
 w0:c.w=Nf->∀p,c.prs[0]?=Nc p->p.1=0
 wl:c.w=Nf->∀(i:Nat)(p:Int×Int),c.prs[i]?=Nc p->p.2<40
def  Col.lo(c:Col):Int:=(c.prs.headD (0,0)).1
def  Col.hi(c:Col):Int:=(c.prs.getLastD (0,0)).2
def  Col.b(c:Col):Int×Int:=(c.lo,c.hi)
structure Srt(ps:Prs):Prop where
 le:∀(i:Nat)(p:Int×Int),ps[i]?=Nc p->p.1<=p.2
 lt:∀(i j:Nat)(p q:Int×Int),i<j->ps[i]?=Nc p->ps[j]?=Nc q->p.2<q.1
structure GP(prs:Prs)(b n:Nat)(ps:Prs):Prop where
 srt:Srt ps
 iff:∀x:Int,inP ps x=Nf↔∃(k:Nat)(p:Int×Int),k<n/\prs[k]?=Nc p/\b.testBit k=Nf/\p.1<=x/\x<=p.2
def  mrg(a:Prs)(b:Nat):Nat->Prs
 |0=>[]
 |n+1=>if b.testBit n then(if (Nh (0<n) && b.testBit (n-1)) then(mrg a b n).dropLast++[(((mrg a b n).getLastD (0,0)).1,(a.getD n (0,0)).2)]else mrg a b n++[a.getD n (0,0)])else mrg a b n
abbrev BW:=Nt Nat×Int
structure Jh(cs:Nt Col)(o:Col)(w:BW):Prop where
 len:⇑w.1=⇑cs
 lt:∀(j b:Nat)(c:Col),w.1[j]?=Nc b->cs[j]?=Nc c->b<2^⇑c.prs
 lo:o.lo<=w.2
 hi:w.2<=o.hi
structure Jx(cs:Nt Col)(w:BW)(x:Rw):Prop where
 code:x.2=w.2
 len:⇑x.1=⇑cs
 sp:∀(j:Nat)(ps:Prs)(c:Col)(b:Nat),x.1[j]?=Nc ps->cs[j]?=Nc c->w.1[j]?=Nc b->GP c.prs b ⇑c.prs ps
 is:∀(j:Nat)(ps:Prs)(c:Col)(b:Nat),x.1[j]?=Nc ps->cs[j]?=Nc c->w.1[j]?=Nc b->ps=mrg c.prs b ⇑c.prs
def  Fv(bs p:Nt Nat):Bool:=(db ⇑p).all λj=>(bs.getD j 0).testBit<|p.getD j 0
def  bF(ws:Nt BW)(p:Nt Nat)(k:Nat):Bool:=Fv (ws.getD k ([],0)).1 p
def  cnt(ws:Nt BW)(p:Nt Nat):Nt Nat:=(db ⇑ws).filter<|bF ws p
def  TF(i:Jr)(H:Hp)(t:Jr)(nm e:Str)(f:Jr)(zs:Nt Str)(h:Nt V)(rws:Nt Rw):Prop:=∃(b g c d:Jr)(fs:Nt (Str×V))(a:Nt V),H t=Nc (.ins i g fs)/\fs.lookup s!"rows"=↑b/\fs.lookup s!"name"=Nc (.str nm)/\fs.lookup s!"way"=Nc (.str e)/\fs.lookup s!"outcome"=↑f/\fs.lookup s!"names"=↑c/\fs.lookup s!"domains"=↑d/\H c=Nc (.lst<|zs.map Qe)/\H d=Nc (.lst h)/\H b=Nc (.lst a)/\RL NT H a rws/\⇑a<=200
def TF.same{f:Jr}{H H':Hp}{t:Jr}{nm c:Str}{d:Jr}{zs:Nt Str}{e:Nt V}{rws:Nt Rw}(h:TF f H t nm c d zs e rws)(s:au H H'):TF f H' t nm c d zs e rws:=by
 let(i,w,j,x,fs,g,v,u,q,p,o,n,m,l,k,b,a,r):=h;calc(i,w,j,x,fs,g,s _ _ v,u,q,p,o,n,m,s _ _ l,s _ _ k,s _ _ b,a.same s,r,)
def TF.tbl(h:TF g H t nm a b zs v rws)(hi:six[i]?=Nc a)(m:Dom j f H b o)(n:o.1<=o.2):Tbl g j f H t rws i o:=by
 let(l,u,_,_,fs,k,s,r,_,q,p,_,_,_,_,e,d,c):=h;calc(l,b,u,fs,k,a,s,r,q,p,e,d,hi,m,n,c,)
structure TOk(cN cW:Jr)(H:Hp)(nm wy:Str)(ou:Jr)(zs:Nt Str)(dv:Nt V)(rws:Nt Rw)(bs:Prs)(o:Int×Int):Prop where
 words:∀z∈nm :: zs,isw z=Nf
 once:(nm :: zs).Nodup
 one:1<=⇑zs
 four:⇑zs<=4
 way:wy∈six
 sum:wy=s!"sum" -> ∃dx fs,H ou=Nc (.ins cN dx fs)
 doms:aN dv bs (Dom cN cW H)
 out:Dom cN cW H ou o
 len:⇑bs=⇑zs
 rows:∀w∈rws,uo bs o w
 few:⇑rws<=200
def TOk.same{f d:Jr}{H H':Hp}{nm a:Str}{b:Jr}{zs:Nt Str}{c:Nt V}{rws:Nt Rw}{bs:Prs}{o:Int×Int}(h:TOk f d H nm a b zs c rws bs o)(s:au H H'):TOk f d H' nm a b zs c rws bs o :=
 (h.words,h.once,h.one,h.four,h.way,λz=>let ⟨dx,fs,e⟩:=h.sum z;(dx,fs,s _ _ e,),aN.mono h.doms λ_ _ p=>p.same s,h.out.same s,h.len,h.rows,h.few,)
def  mg(c:Col)(b:Nat):Prs:=mrg c.prs b ⇑c.prs
def  cel(cs:Nt Col)(bs:Nt Nat):Nt Prs:=im mg cs bs
def TF.so(h:TF f H t nm c d zs e rws)(s:So H H'):TF f H' t nm c d zs e rws:=by
 let(i,w,j,x,fs,g,v,u,q,p,o,n,m,l,k,b,a,r):=h;calc(i,w,j,x,fs,g,s _ _ trivial v,u,q,p,o,n,m,s _ _ trivial l,s _ _ trivial k,s _ _ trivial b,RL.so s a,r,)
def yr(s:au H H')(n:H D=Nd):au H (hide H' D):=λb o e=>fk (s b o e)<|aW e n
def BH(m:SqT K H a (tp v))(l:SqT K H b (tp u))(h:Q (.bl<|Nh<|v≠u) H):zw K Nf (.ref a) (.ref b) H Q:=by
 refine(a,b,_,_,U,U,m,l,λj=>if j=0 then eqV (.str v.1) (.str u.1)else eqV (.int v.2) (.int u.2),λj x y c d=>?_,?_,)
 .match j,c,d with
  |0,c,d=>cases c;cases d;exact EqI.flat U U
  |1,c,d=>cases c;cases d;exact EqI.flat U U
  |j+2,c,d=>simp[tp]at c
 .let e:(!((db<|min ⇑(tp v) ⇑(tp u)).all (λj=>if j=0 then eqV (.str v.1) (.str u.1)else eqV (.int v.2) (.int u.2)) && ⇑(tp v) == ⇑(tp u)))=Nh (v≠u):=by
   let c:eqV (.str v.1) (.str u.1)=Nh (v.1=u.1):=by unfold eqV;rw[lc];simp
   let d:eqV (.int v.2) (.int u.2)=Nh (v.2=u.2):=by unfold eqV;rw[lc];simp
   show(!((db 2).all (λj=>if j=0 then eqV (.str v.1) (.str u.1)else eqV (.int v.2) (.int u.2)) && (2 == 2:Bool)))=_;rw[c,d];let(g,f):=v;let(k,i):=u;by_cases o:g=k <;> by_cases n:f=i <;> simp[kF,o,n]
  show Q (.bl (if Nf=Nf then _ else _)) H;rw[Nk U,e];calc h
def BI(m k:Nat):decide (0<KR.bitAnd (m:Int) (1*2^((k:Int)).toNat))=m.testBit k:=by
 let e:(1:Int)*2^((k:Int)).toNat=((2^k:Nat):Int):=by rw[Int.one_mul,FG];simp
 rw[e,OG (Gn _)<|Gn _,FG,FG];cases hb:m.testBit k with
 |true =>
  calc Nm ?_;let a:(m &&& 2^k).testBit k=true:=by rw[Nat.testBit_and,hb,Nat.testBit_two_pow_self];rfl
  let:m &&& 2^k≠0:=λz=>by rw[z,Nat.zero_testBit]at a;cases a
  exact Int.natCast_pos.mpr<|yH this
 |false =>
  calc Nn ?_;let:m &&& 2^k=0:=Nat.eq_of_testBit_eq λi=>by
   rw[Nat.testBit_and,Nat.zero_testBit,Nat.testBit_two_pow];by_cases h:k=i
   .rw[←h,hb];rfl
   .rw[Nn h,FB]
  rw[this];decide
def BJ{m k:Nat}(h:m.testBit k=Nf):(m:Int)-1*2^((k:Int)).toNat=((m-2^k:Nat):Int):=by
 let e:(1:Int)*2^((k:Int)).toNat=((2^k:Nat):Int):=by rw[Int.one_mul,FG];simp
 let:2^k<=m:=Bo λz=>by rw[Ny z]at h;cases h
 rw[e];generalize 2^k=W at this⊢;lia
def  TiA(K:am)(H:Hp)(rws:Nt Rw)(i:Nat)(o:Int×Int)(x:V)(q:Prs×Int):Prop:=∃(tl b a:Jr)(m:Nat),x=.ref tl/\q.2=(m:Int)/\H tl=Nc (.tup [.ref b,.int (m:Int),.ref a])/\BxA H b q.1/\SqT K H a (tp<|ver (wf i o.1 o.2)<|pkF rws (eF (m:Int)) ⇑rws)
def TiA.same{K:am}{H H':Hp}{rws:Nt Rw}{i:Nat}{o:Int×Int}{x:V}{q:Prs×Int}(h:TiA K H rws i o x q)(s:au H H'):TiA K H' rws i o x q:=by let(tl,b,a,m,g,f,e,d,c):=h;calc(tl,b,a,m,g,f,s _ _ e,d.mono s.tups,s.seqT c,)
def  TiL(K:am)(H:Hp)(rws:Nt Rw)(i:Nat)(o:Int×Int)(xs:Nt V)(L:Nt (Prs×Int)):Prop:=⇑xs=L.length/\∀(j:Nat)(x:V)(q:Prs×Int),xs[j]?=Nc x->L[j]?=Nc q->TiA K H rws i o x q
def TiL.same{K:am}{H H':Hp}{rws:Nt Rw}{i:Nat}{o:Int×Int}{xs:Nt V}{L:Nt (Prs×Int)}(h:TiL K H rws i o xs L)(s:au H H'):TiL K H' rws i o xs L:=(h.1,λj x q a b=>(h.2 j x q a b).same s,)
def TiL.snoc{K:am}{H:Hp}{rws:Nt Rw}{i:Nat}{o:Int×Int}{xs:Nt V}{L:Nt (Prs×Int)}{x:V}{q:Prs×Int}(h:TiL K H rws i o xs L)(t:TiA K H rws i o x q):TiL K H rws i o (xs++[x]) (L++[q]):=by
 refine(by rw[cb,cb,h.1];rfl,λj y p a b=>?_,);by_cases c:j<⇑xs
 .rw[iv c]at a;rw[iv (by rw[←h.1];exact c)]at b;exact h.2 j y p a b
 .rw[kc ∅]at a;let d:=(JP.mp a).1;rw[dV]at d;rw[kc (by rw[←h.1];lia),←h.1,show j-⇑xs=0 by lia]at b;rw[show j-⇑xs=0 by lia]at a;cases a;cases b;calc t
def  uA(rws:Nt Rw)(i:Nat)(o:Int×Int)(k:Nat)(m:Nat):Bool:=m.testBit k && decide (ver (wf i o.1 o.2) (pkF rws (eF ((m-2^k:Nat):Int)) ⇑rws)≠ver (wf i o.1 o.2) (pkF rws (eF (m:Int)) ⇑rws))
def DR{bs:Prs}{rws:Nt Rw}{a:Nt (List<|Int×Int)}(c:qA bs rws a){q:Prs×Int}(h:q∈bxs ⇑a (lay (mkg rws) a [])):∃cs,InB cs bs/\q.2=mkg rws (im bQ a cs):=by
 let(b,d,_):=l8 (fC (g:=mkg rws) c.ok []) q h;calc(_,b.lows,jX d ?_,);let:=lV (g:=mkg rws) c.ok [] _ b.lows;rw[t5]at this;calc this
section
variable(f:Nt Int->SI)(PS:Nt (Nt Nat))
end
section
variable{f:Nt Int->SI}{PS:Nt (Nt Nat)}
end
def  gw(ws:Nt BW)(k:Nat):BW:=ws.getD k ([],0)
def  mkp(ws:Nt BW)(ks:Nt Nat)(p:Nt Nat):Nat:=msk (λk=>decide (k∈ks) && Fv (gw ws k).1 p) ⇑ws
structure MsI(PS:Nt (Nt Nat))(ws:Nt BW)(ks Ms:Nt Nat):Prop where
 of:∀m∈Ms,∃p∈PS,m=mkp ws ks p
 at_:∀p∈PS,mkp ws ks p∈Ms
def  spn(rws:Nt Rw)(c:Nat):Nat:=(rws.map λw=>⇑(w.1.getD c [])).sum
def BK(h:w∈rws):⇑(w.1.getD c [])<=spn rws c:=by
 unfold spn;induction rws with
 |nil=>cases h
 |cons x rws a =>
  rw[iO,uK];rcases ax.mp h with rfl|h
  .lia
  .let:=a h;lia
def uB(c:Nat)(b:Int×Int):∀rws:Nt Rw,⇑((rws.map<|rmk c b).flatten)<=2*spn rws c
 | []=>uN _
 |w :: rws=>by
  let d:⇑(rmk c b w)<=2*⇑(w.1.getD c []):=uU (oD _ _) (by rw[uz];lia);let a:=uB c b rws;unfold spn at a⊢;rw[iO,List.flatten_cons,cb,iO,uK];lia
structure RfB(cT cN cW:Jr)(H:Hp)(t:Jr)(dv:Nt V)(bs:Prs)(rws:Nt Rw)(L:Nat->Nt Int)(g:Nat)(i:Nat)(o:Int×Int):Prop where
 td:TD cT cN cW H t dv bs rws
 tb:Tbl cT cN cW H t rws i o
 b4:⇑bs<=4
 rn:⇑rws<=200
 row:∀x∈rws,⇑x.1=⇑bs
 sp:∀c,spn rws c<=499
 mrk:∀(c:Nat)(b:Int×Int),bs[c]?=Nc b->⇑(L c)<=400/\∀x,MkC rws c b x->x∈L c
 gr:∀mss:Nt (Nt Int),⇑mss=⇑bs->(∀(c:Nat)(b:Int×Int)(ms:Nt Int),bs[c]?=Nc b->mss[c]?=Nc ms->ms.Pairwise (· < ·)/\∀x,x∈ms↔MkC rws c b x)->_M.gr bs mss ⇑bs=g
 le:∀p∈bs,p.1<=p.2
def RfB.so(h:RfB c d b H t a bs rws L g i o)(s:So H H'):RfB c d b H' t a bs rws L g i o:=(TD.so s h.td,Tbl.so s h.tb,h.b4,h.rn,h.row,h.sp,h.mrk,h.gr,h.le,)
def  prd:Nt Nat->Nat
 | []=>1
 |n :: ns=>n*prd ns
def pf:∀(a:Nt Nat)(n:Nat),prd (a++[n])=prd a*n
 | [],n=>by show n*1=1*n;lia
 |m :: a,n=>by show m*prd (a++[n])=m*prd a*n;rw[pf a n,Nat.mul_assoc]
def xa:∀{a:Nt Nat}{n:Nat},n∈a->(∀m∈a,1<=m)->n<=prd a/\1<=prd a
 |m :: a,n,h,h1=>by
  let f:1<=prd a:=by
   clear h;induction a with
   |nil=>exact uN _
   |cons k a e =>
    let:=h1 k (by simp);let:=e λc b=>h1 c (by rcases ax.mp b with rfl|b;calc cF;simp[b])
    exact Nat.mul_pos ∅ ∅
  let b:=h1 m cF;calc(?_,Nat.mul_pos ∅ ∅,);rcases ax.mp h with rfl|h
  .show n<=n*prd a;exact Nat.le_mul_of_pos_right n ∅
  .let:=(xa h λc d=>h1 c<|dz _ d).1;show n<=m*prd a;calc uU this<|Nat.le_mul_of_pos_left _ ∅
def l9{L:Type} [DecidableEq L] {g:Nt Int->L}:∀{a:Nt (List<|Int×Int)}{ps:Nt (Int×Int)},fK a ps->∀b:Nt Int,⇑(bxs ⇑a<|lay g a b)<=prd (a.map sK)
 | [],_,_,_=>uN _
 |c :: a,ps,h,b=>by
  cases h with
  | @cons _ _ p ps hne hc h =>
  let k:=fv<|Aa (λq=>lay g a<|b++[q.1]) hc;let e:⇑(fB<|c.map λp=>((p.1,p.2,lay g a<|b++[p.1]):T3a (Fm L ⇑a)))<=⇑c:=uU (rG _) (by rw[af];exact uN _);let d:⇑(bxs (⇑a+1) (show Fm L (⇑a+1)from fB (c.map λp=>((p.1,p.2,lay g a<|b++[p.1]):T3a (Fm L ⇑a)))))<=⇑(fB<|c.map λp=>((p.1,p.2,lay g a<|b++[p.1]):T3a (Fm L ⇑a)))*prd (a.map sK):=uy λt f=>by
   rw[af];let(i,e,d):=k.mem t f;let(q,_,rfl):=cU.mp e;rw[←d];exact l9 h _
  calc uU d<|Nat.mul_le_mul_right _ e
def DS{bs:Prs}{rws:Nt Rw}{css:Nt (Nt Int)}(g:⇑css=⇑bs)(h:∀(j:Nat)(p:Int×Int)(cs:Nt Int),bs[j]?=Nc p->css[j]?=Nc cs->cs.Pairwise (· < ·)/\∀x,x∈cs↔MkC rws j p x){j:Nat}{p:Int×Int}{cs:Nt Int}(b:bs[j]?=Nc p)(d:css[j]?=Nc cs):⇑(bX p.1 p.2 cs)=gl bs css j:=by
 let(e,f):=h j p cs b d;rw[gf,sL e (ms:=cs) (lo:=p.1) (hi:=p.2) λc=>(λa=>(a,iW<|(f c).mp a,),λa=>a.1,)];unfold gl;rw[en,b,en,d];rfl
def RfB.prd(h:RfB B C A H t z bs rws L g i o)(v:qA bs rws a):_M.prd (a.map sK)=g:=by
 let(d,m,e,l):=v.ex;rw[←h.gr d m λc b s y x=>l c b s y x];let f:⇑a=⇑bs:=by rw[e,jO];lia
 let k:∀n,n<=⇑bs->_M.prd ((a.take n).map sK)=_M.gr bs d n:=λn=>by
  induction n with
  |zero=>exact λ_=>U
  |succ n u =>
   intro D;let(p,q):∃p,bs[n]?=Nc p:=(_,JO ∅,);let(j,r):∃j,d[n]?=Nc j:=(_,JO ∅,);let w:a[n]?=Nc (bX p.1 p.2 j):=by rw[e,ml,q,r]
   rw[take_snoc w,eN,iO,nk,pf,u ∅,DS m l q r];rfl
 let:=k ⇑bs<|uN _;rw[←f,fo]at this;rw[this,f]
def RfB.cl(h:RfB x y w H t v bs rws L g i o)(n:qA bs rws a):∀c∈a,⇑c<=g:=λc q=>by
 rw[←h.prd n];calc(xa (cU.mpr (c,q,U,)) λm f=>?_).1;let(z,k,rfl):=cU.mp f;let(l,A,e,_):=n.ex;let(j,b):=kY k;rw[e]at b;let r:=(JP.mp b).1;rw[jO]at r;let(p,s):∃p,bs[j]?=Nc p:=(_,JO ∅,);let(d,u):∃d,l[j]?=Nc d:=(_,JO ∅,);rw[ml,s,u]at b;let b:bX p.1 p.2 d=z:=bn b;rw[←b,gf];lia
def DT(h:BxG (K:=K) ji H xs L):BxL H xs L:=Paired.mapP h λ_ _ (t,b,u,e,z,p,r,)=>(t,b,e,by have r:u=.int _:=r;rw[r]at z;exact z,p,)
def  mq(n:Nat)(ks:Nt Nat)(a:Nat->Bool):Nat:=msk (λk=>decide (k∈ks) && a k) n
def  PtB(bs:Prs)(rws:Nt Rw)(b:Nat->Bool):Prop:=∃a,InB a bs/\b=ka rws a
structure MsR(bs:Prs)(rws:Nt Rw)(ks Ms:Nt Nat):Prop where
 of:∀m∈Ms,∃φ,PtB bs rws φ/\m=mq ⇑rws ks φ
 at_:∀φ,PtB bs rws φ->mq ⇑rws ks φ∈Ms
def  Fw(low:Int)(a:Nat):Int×Int:=(low+(a:Int),low+(a:Int))
structure RwI(low:Int)(own:Nat->Int)(P:Nat->Prop)(R:Nt Rw):Prop where
 row:∀w∈R,∃sp:Prs,w.1=[sp]/\sp≠[]/\⇑sp<=100/\∀p∈sp,∃a:Nat,P a/\p=Fw low a/\w.2=own (a%2)
 cov:∀a,P a->∃w∈R,∃sp:Prs,w.1=[sp]/\Fw low a∈sp/\w.2=own (a%2)
 one:∀(a j j':Nat)(w w':Rw),R[j]?=Nc w->R[j']?=Nc w'->kM w.1 [low+(a:Int)]=Nf->kM w'.1 [low+(a:Int)]=Nf->j=j'
section
variable{low:Int}{own:Nat->Int}{P S:Nat->Prop}{R:Nt Rw}
end
def v9(c:Int):say c≠dX:=λh=>by
 let:s!"say" = s!"none" := Nq Prod.fst h;calc Nl this ⋯
section
variable{low:Int}{own:Nat->Int}{P:Nat->Prop}{R:Nt Rw}{place sz:Nat}{other:Int}{more:Bool}{i:Nat}{o:Int×Int}
def xb:x∈rmk c b w↔(∃p∈w.1.getD c [],x=p.1\/x=p.2+1)/\b.1<x/\x<=b.2:=by
 unfold rmk;rw[kS,fq,EY,Nr,Nr]
def wa:∀{rws:Nt Rw},(∀w∈rws,⇑(w.1.getD c [])<=b)->spn rws c<=b*⇑rws
 | [],_=>ve _
 |w :: rws,h=>by
  let e:=h w cF;let d:=wa (rws:=rws) λw a=>h w<|dz _ a
  unfold spn at d⊢;rw[iO,uK,gE,Nat.mul_succ];lia
end
def iw(b:H x=Nd)(c:H a=Nd):au H (mkd C (upd (upd H a<|.own x) x<|.ins C a []) x a lo hi):=by
 unfold mkd;calc(((ai c _).upd b).upd b).upd b
def xf:Dom a c (mkd a H x b lo hi) x (lo,hi):=(a,.inl U,b,_,ae,U,U,U,)
section
variable{H G:Hp}{Bad N:Jr->Prop}
end
def uC(c:0<=k)(b:k<=⇑xs):nG xs (Nc k) Nd=xs.drop k.toNat:=by
 unfold nG;let e:HT.sIx ⇑xs 0 (Nc k)=k.toNat:=by
  simp only[HT.sIx];split <;> lia
 let a:HT.sIx ⇑xs ⇑xs Nd=⇑xs:=by simp[HT.sIx]
 rw[e,a,←jP,fo]
def  eJ(a:Nt Int)(k:Int):Int:=a.getD k.toNat 0
def  GQ(H:Hp)(c:Nt V)(a:Nt (Nt Int×Int)):Prop:=aN c a λr b=>∃bl:Jr,H r=Nc (.tup [.ref bl,.int b.2])/\H bl=Nc (.lst<|b.1.map pi)
def ph{k:Nat}(b:k<=⇑xs):nG xs Nd (Nc (k:Int))=xs.take k:=by
 unfold nG;let e:HT.sIx ⇑xs ⇑xs (Nc (k:Int))=k:=by
  simp only[HT.sIx];split <;> lia
 let a:HT.sIx ⇑xs 0 Nd=0:=by simp[HT.sIx]
 rw[e,a,ro,Nat.sub_zero]
def  mX{α b a:Type}(G:α->b->a):Int->Nt (T3a α)->Nt (T3a b)->Nt (T3a a)
 |_,[],_=>[]
 |_,_ :: _,[]=>[]
 |lo,s :: f,t :: g =>
  if s.2.1<t.2.1 then(lo,s.2.1,G s.2.2 t.2.2) :: mX G (s.2.1+1) f (t :: g)
  else if t.2.1<s.2.1 then(lo,t.2.1,G s.2.2 t.2.2) :: mX G (t.2.1+1) (s :: f) g
  else(lo,s.2.1,G s.2.2 t.2.2) :: mX G (s.2.1+1) f g
termination_by _ f g=>⇑f+⇑g
def _root_._L.Ch3.cov{α:Type}:∀{f:Nt (T3a α)}{lo hi:Int},Ch3 f lo hi->Cov f lo hi
 | [],_,_,h=>h
 |_ :: _,_,_,h=>(h.2.1,h.2.2,)
structure CJ{α β γ:Type}(G:α->β->γ)(f:Nt (T3a α))(g:Nt (T3a β))(z:Nt (T3a γ))(lo hi:Int):Prop where
 ch:Ch3 z lo hi
 va:∀c x y,lo<=c->c<=hi->vAt f c=Nc x->vAt g c=Nc y->vAt z c=Nc (G x y)
 mem:∀t∈z,∃s∈f,∃u∈g,t.2.2=G s.2.2 u.2.2
 len:⇑z<=⇑f+⇑g
 ne:f≠[]->g≠[]->z≠[]
def og{α v B:Type}{G:α->v->B}:∀{f:Nt (T3a α)}{g:Nt (T3a v)}{lo hi:Int},Cov f lo hi->Cov g lo hi->CJ G f g (mX G lo f g) lo hi
 | [],g,lo,hi,l,m=>by
  rw[mX];let l:lo=hi+1:=l;exact(l,λc _ _ u r=>∅,(λt C=>by cases C),ve _,λh=>Nl U h,)
 |s :: f,[],lo,hi,l,m=>by
  let m:lo=hi+1:=m;let:=l.1;let:=l.2.le;lia
 |s :: f,t :: g,lo,hi,l,m=>by
  rw[mX];let w:=l.1;let D:=m.1;by_cases u:s.2.1<t.2.1
  .rw[Nk u];let k:=og (G:=G) (f:=f) (g:=t :: g) (lo:=s.2.1+1) (hi:=hi) l.2.cov (∅,m.2,);refine((U,w,k.ch,),λc x y A p d i=>?_,λz j=>?_,by have:=k.len;simp at this⊢;lia,λ_ _=>by simp,)
   .rw[cy]at d⊢;by_cases q:c<=s.2.1
    .rw[Nk q]at d;rw[cy,Nk ∅]at i;cases d;cases i;rw[Nk q]
    .rw[Nj q]at d;rw[Nj q];exact k.va c x y ∅ p d i
   .rcases ax.mp j with rfl|j
    .exact(s,by simp,t,by simp,U,)
    .let(a,o,b,n,e):=k.mem z j;exact(a,dz _ o,b,n,e,)
  .rw[Nj u];by_cases r:t.2.1<s.2.1
   .rw[Nk r];let k:=og (G:=G) (f:=s :: f) (g:=g) (lo:=t.2.1+1) (hi:=hi) (∅,l.2,) m.2.cov;refine((U,D,k.ch,),λc x y A p d i=>?_,λz j=>?_,by have:=k.len;simp at this⊢;lia,λ_ _=>by simp,)
    .rw[cy];by_cases q:c<=t.2.1
     .rw[cy,Nk ∅]at d;rw[cy,Nk q]at i;cases d;cases i;rw[Nk q]
     .rw[cy,Nj q]at i;rw[Nj q];exact k.va c x y ∅ p d i
    .rcases ax.mp j with rfl|j
     .exact(s,by simp,t,by simp,U,)
     .let(a,o,b,n,e):=k.mem z j;exact(a,o,b,dz _ n,e,)
   .rw[Nj r];let e:s.2.1=t.2.1:=∅
    let k:=og (G:=G) (f:=f) (g:=g) (lo:=s.2.1+1) (hi:=hi) l.2.cov (by rw[e];exact m.2.cov);refine((U,w,k.ch,),λc x y A p d i=>?_,λz j=>?_,by have:=k.len;simp at this⊢;lia,λ_ _=>by simp,)
    .rw[cy]at d i⊢;by_cases q:c<=s.2.1
     .rw[Nk q]at d;rw[Nk ∅]at i;cases d;cases i;rw[Nk q]
     .rw[Nj q]at d;rw[Nj ∅]at i;rw[Nj q];exact k.va c x y ∅ p d i
    .rcases ax.mp j with rfl|j
     .exact(s,by simp,t,by simp,U,)
     .let(a,o,b,n,e):=k.mem z j;exact(a,dz _ o,b,dz _ n,e,)
termination_by f g=>⇑f+⇑g
def  pairF{L M N:Type} [DecidableEq N] (h:L->M->N):(n:Nat)->Fm L n->Fm M n->Fm N n
 |0,x,y=>h x y
 |n+1,f,g=>fB (α:=Fm N n)<|mX (pairF h n) (loF (show Nt (T3a<|Fm L n)from f)) (show Nt (T3a<|Fm L n)from f) (show Nt (T3a<|Fm M n)from g)
section
variable{L M N:Type} [DecidableEq N] {h:L->M->N}
def pj{g:Nt (T3a<|Fm M n)}{p:Int×Int}(a:Ch3 f p.1 p.2)(b:f≠[])(c:Ch3 g p.1 p.2):∃z,z=mX (pairF h n) p.1 f g/\CJ (pairF h n) f g z p.1 p.2/\(pairF h (n+1) f g:Nt (T3a<|Fm N n))=fB z:=by
 calc(_,U,og a.cov c.cov,?_,);show fB (mX (pairF h n) (loF f) f g)=_;rw[a.lo b]
def oh:∀{n:Nat}{F:Fm L n}{G:Fm M n}{ps:Nt (Int×Int)},c0 n F ps->c0 n G ps->c0 n (pairF h n F G) ps
 |0,_,_,_,c,_=>c
 |n+1,F,G,ps,c,hs'=>by
  let(f,rfl):∃f:Nt (T3a<|Fm L n),(f:Fm L (n+1))=F:=(F,U,);let(g,rfl):∃g:Nt (T3a<|Fm M n),(g:Fm M (n+1))=G:=(G,U,);let(p,r,rfl,d,j,y,w):ShS (c0 n) f ps:=c;let(B,A,e,x,m,C,o):ShS (c0 n) g (p :: r):=hs';cases e;let(z,_,i,e):=pj (h:=h) j d m;show ShS (c0 n) (pairF h (n+1) f g:Nt (T3a<|Fm N n)) (p :: r);rw[e];let k:=fv i.ch;calc(p,r,U,k.ne<|i.ne d x,k.ch,k.nb,λt v=>?_,);let(l,a,b):=k.mem t v;let(s,c,u,q,e):=i.mem l a;rw[←b,e];calc oh (w s c)<|o u q
def Aq{n:Nat}{g:Nt (T3a<|Fm M n)}{c:Int}{cs:Nt Int}{y:M}(h:Tel (n+1) (g:Fm M (n+1)) (c :: cs) y):∃(j:Nat)(t:T3a (Fm M n)),g[j]?=Nc t/\c<=t.2.1/\(∀(i:Nat)(u:T3a (Fm M n)),i<j->g[i]?=Nc u->u.2.1<c)/\Tel n t.2.2 cs y:=by
 cases h with
 |cons a b c d=>calc(_,_,a,b,c,d,)
def Ar(C:Tel n F cs x):∀{G:Fm M n}{y:M}{ps:Nt (Int×Int)},Tel n G cs y->c0 n F ps->c0 n G ps->InB cs ps->Tel n (pairF h n F G) cs (h x y):=by
 induction C with
 |nil x =>
  intro G y ps b _ _ _;cases b;exact .nil _
 | @cons n f c cs x j t e1 e2 e3 _ ih =>
  intro G y ps b D i d;let(g,rfl):∃g:Nt (T3a<|Fm M n),(g:Fm M (n+1))=G:=(G,U,);let(V,o,v,P,O,K):=(Aq b);let(p,r,rfl,l,m,Q,E):ShS (c0 n) f ps:=D;let(S,R,e,X,A,W,B):ShS (c0 n) g (p :: r):=i;cases e;let(z,_,q,e):=pj (h:=h) m l A;cases d with
  |cons u s d =>
   let k:=fv q.ch;let(T,w,J,b2,I,H,a):=k.ch.at u s;rw[k.va,q.va c _ _ u s (eW e1 e2 e3) (eW v P O)]at a;let a:pairF h n t.2.2 o.2.2=w.2.2:=bn a;refine .cons (f:=(pairF h (n+1) f g:Nt (T3a<|Fm N n))) (by rw[e];exact J) I (by rw[e];exact H) ?_;rw[←a];calc ih K (E t<|JQ e1) (B o<|JQ v) d
end
def iX{α:Type}{f:Nt α}{i:Nat}{t:α}(e:f[i]?=Nc t):f.drop i=t :: f.drop (i+1):=by
 let(h,rfl):=JP.mp e;calc IN h
structure Fx{K':am}{L M N:Type} [DecidableEq L] [DecidableEq M] [DecidableEq N] (A:Lfp K' L)(B:Lfp K' M)(C:Lfp K' N)(P:Jl)(w:Je)(K:am)(mg:Str->Option I1)(base:JD)(f:Jr)(h:L->M->N)(J:Qd):Prop where
 fn:∃sp,HFn P w K mg base 8 f sp/\∀(H:Hp)(v u:V)(x:L)(y:M)(Q:VK),J H->A.R H x v->B.R H y u->(∀r H',au H H'->C.R H' (h x y) r->Q r H')->sp [v,u] H Q E0
 ob:(∀H,J H->FnO H f)\/GE K (.ref f)=Nf
 st:∀H H',J H->au H H'->J H'
def DU(H:Hp):fN H [] []:=⟨(λc a=>by cases a),(λx v e=>by cases e)⟩
def BL(h:X.K=K)(a:bV k X.A):OpR X (KY .NotEq) (Fg K):=h ▸ DD a
def  dpr(x y:SI):Option (SI×SI):=if x=y then Nd else Nc (x,y)
def DmX.dom(h:DmX g f H a d):Dom g f H a (Dm.b d):=by
 cases d with
 |inl p=>obtain⟨c,fs,e,r⟩:=h;exact(g,.inl U,c,fs,e,r,)
 |inr i=>obtain⟨c,fs,l,e,j,k,r⟩:=h;calc(f,.inr U,c,fs,e,r,)
def yt{a b:Jr}{xs ys:Nt Str}{r:Bool}(i:SqL K H a (xs.map Qe))(g:SqL K H b (ys.map Qe))(f:r=Nf↔xs=ys)(q:Q (.bl r) H):Dl K Ng (.ref a) (.ref b) H Q:=by
 by_cases c:⇑xs=⇑ys
 .refine(a,b,_,_,U,U,i,g,.inr (by rw[af,af];exact c,λj=>decide<|xs[j]?=ys[j]?,λj x y s p=>?_,?_,),)
  .let(z,rfl,o):=lW s;let(d,rfl,n):=lW p;let k:=EqI.flat (K:=K) (H:=H) (x:=Qe z) (y:=Qe d) U U;let m:eqV (Qe z) (Qe d)=Nh (xs[j]?=ys[j]?):=by
    rw[o,n,lc];simp[eqV]
   rw[m]at k;exact k
  .let e:(db ⇑(xs.map Qe)).all (λj=>decide<|xs[j]?=ys[j]?)=r:=by
    rw[lc,f,jF];constructor
    .intro h;apply pV
     intro j;by_cases l:j<⇑xs
     .exact Np<|h j<|hE.mpr (by rw[af];exact l)
     .rw[ll ∅,ll ∅]
    .intro h j _;rw[h];exact Nm U
   rw[Nj cr,e];exact q
 .let e:r=false:=by
   rw[EU];intro z;exact c (by rw[f.mp z])
  rw[e]at q;calc(a,b,_,_,U,U,i,g,.inl (by rw[af,af];exact c,q,),)
structure Jy(K:am)(cT cN cW:Jr)(H:Hp)(t u:Jr)(bs:Prs)(rws cX:Nt Rw)(i i':Nat)(o:Int×Int)(gc:Nt (List<|Int×Int)):Prop where
 ex:∃(dv ev:Nt V)(L L':Nat->Nt Int)(kk:Nat),RfH cT cN cW H t dv bs rws L kk i o/\RfH cT cN cW H u ev bs cX L' kk i' o/\(∀c∈gc,⇑c<=kk+1)/\∃(ou pu:Jr)(ds:Nt Dm)(d:Dm),TDo cT H t dv ou/\TDo cT H u ev pu/\aN dv ds (DmX cN cW H)/\aN ev ds (DmX cN cW H)/\DmX cN cW H ou d/\DmX cN cW H pu d/\⇑ds<=10
 gok:fK gc bs
 glen:⇑gc=⇑bs
 g1:∀cs,InB cs bs->mkg rws (im bQ gc cs)=mkg rws cs
 g2:∀cs,InB cs bs->mkg cX (im bQ gc cs)=mkg cX cs
def  dif(rws a:Nt Rw)(i b:Nat)(o:Int×Int)(cs:Nt Int):Option (SI×SI):=dpr (vdm rws i o<|mkg rws cs)<|vdm a b o<|mkg a cs
structure RwD where
 rl:Jr
 rx:Nt V
 bms:Nt (Nt Int×Int)
 wy:Str
 wi:Nat
structure Ji(H:Hp)(pss:Nt (Nt Int))(d:RwD):Prop where
 e:H d.rl=Nc (.lst d.rx)
 r:GQ H d.rx d.bms
 n:⇑d.rx<=60
 b:∀b∈d.bms,⇑b.1=⇑pss/\∀x∈b.1,0<=x
 w:six[d.wi]?=Nc d.wy
def  h01(m:Int):Int:=if m=0 then 1 else 0
def  hC(rws:Nt Rw)(i:Nat)(o:Int×Int)(m:Int):Int:=if ver (wf i o.1 o.2) (pkF rws (eF m) ⇑rws)=(s!"clash",0)then m else 0
def  tbs:Nt (Str×Nt (Pos×Str)):=[("row_form",[(iV Y82,"row_form.<locals>.<lambda>")]),("verdict_form",[(iV Y88,"verdict_form.<locals>.<lambda>")]),("holes",[(iV Y50,"holes.<locals>.<lambda>")]),("clashes",[(iV Y38,"clashes.<locals>.<lambda>")])]
def  Tb4(K:am)(H:Hp):Prop:=∀x∈tbs,∀z,kt K x.1=Nc z->dA H z.2 x.2
def Tb4.same{K:am}{H H':Hp}(h:Tb4 K H)(s:au H H'):Tb4 K H':=λx a z e=>(h x a z e).same s
def Tb4.r{K:am}{H:Hp}(h:Tb4 K H):GO K H:=λz e=>h _ (.head _) z e
def Tb4.new(h:∀x∈["row_form","verdict_form","holes","clashes"],∀z,kt K (Str.ofString x)=Nc z->H z.2=Nc (.tbl #[])):Tb4 K H:=by
 intro x a z e;calc dA.new ?_;unfold tbs at a;simp only[ax,ja,or_false]at a;rcases a with rfl|rfl|rfl|rfl
 .exact h "row_form" (by simp) z e
 .exact h "verdict_form" (by simp) z e
 .exact h "holes" (by simp) z e
 .exact h "clashes" (by simp) z e
def oi{K:am}{mg:Str->Option I1}{Y:AD}(bl:Bl K mg Y)(h:Tb4 K H)(f:y∈tbs)(e:kt K y.1=Nc z)(hok:dA H' z.2 y.2)(p:∀d o,d≠z.2->H d=Nc o->H' d=Nc o):Tb4 K H':=by
 intro x g k l;let(q,m,_):=h y f z e;let c:(∀a b,kt K x.1=Nc a->kt K y.1=Nc b->a.2≠b.2)->dA H' k.2 x.2:=λn=>tab_keep (h x g k l) (n k z l e) m p
 unfold tbs at g f;simp only[ax,ja,or_false]at g f
 rcases g with rfl|rfl|rfl|rfl <;> rcases f with rfl|rfl|rfl|rfl <;> first
  |(cases e.symm.trans l;exact hok)
  |exact c bl.nt0
  |exact c bl.nt1
  |exact c bl.nt2
  |exact c bl.nt3
  |exact c bl.nt4
  |exact c bl.nt5
  |exact c λa b i j=>(bl.nt0 b a j i).symm
  |exact c λa b i j=>(bl.nt1 b a j i).symm
  |exact c λa b i j=>(bl.nt2 b a j i).symm
  |exact c λa b i j=>(bl.nt3 b a j i).symm
  |exact c λa b i j=>(bl.nt4 b a j i).symm
  |calc c λa b i j=>(bl.nt5 b a j i).symm
def gP{K:am}{mg:Str->Option I1}(bl:Bl K mg Y)(h:Tb4 K H)(k:∀z,kt K "row_form" = Nc z->dA H' z.2 [(iV Y82,"row_form.<locals>.<lambda>")]/\∀d o,d≠z.2->H d=Nc o->H' d=Nc o) (hz:∃z,kt K "row_form" = Nc z):Tb4 K H':=by
 let(z,a):=hz;calc oi bl h (.head _) a (k z a).1 (k z a).2
def  cV{L:Type} [DecidableEq L] (z:L)(l:Nt (Nt (Int×Int)×L)):Nt (Nt (Int×Int)×L):=l.filter λq=>decide<|q.2≠z
def  ChE(k l j v w:Jr)(K:am)(H:Hp)(t u:Jr)(E:XK)(R:Prs->Nt Rw->Nt Rw->Nat->Nat->Int×Int->Prop):Prop:=∃(p n:Nt V)(r q:Jr)(f e:Nt Dm),TDo k H t p r/\TDo k H u n q/\aN (p++[.ref r]) f (DmX l j H)/\aN (n++[.ref q]) e (DmX l j H)/\⇑f<=10/\⇑e<=10/\Tb4 K H/\(f≠e->∀c,So H c->Tb4 K c->E (.ref v) Nd c)/\(f=e->∃(bs:Prs)(a h:Nt Rw)(i s g m:Nat)(o:Int×Int)(L x:Nat->Nt Int)(d:Nt (List<|Int×Int)),RfB k l j H t p bs a L g i o/\RfB k l j H u n bs h x m s o/\fK d bs/\⇑d=⇑bs/\prd (d.map sK)<=700/\(∀b,InB b bs->mkg a (im bQ d b)=mkg a b)/\(∀b,InB b bs->mkg h (im bQ d b)=mkg h b)/\(300<g\/300<m->∀c,So H c->Tb4 K c->E (.ref w) Nd c)/\(g<=300->m<=300->R bs a h i s o))
def ChE.imp(h:ChE m n j l p K H t u E R)(k:∀bs rws d i c o,⇑bs<=4->R bs rws d i c o->r bs rws d i c o):ChE m n j l p K H t u E r:=by
 let(X,M,z,y,Y,N,V,T,S,Q,P,O,s,v,w):=h;calc(X,M,z,y,Y,N,V,T,S,Q,P,O,s,v,λe=>?_,);let(bs,rws,d,i,c,g,J,o,L,Z,I,f,G,F,D,A,C,B,x,q):=w e;calc(bs,rws,d,i,c,g,J,o,L,Z,I,f,G,F,D,A,C,B,x,λa b=>k _ _ _ _ _ _ f.b4<|q a b,)
structure Fy(bs:Prs)(rws cX:Nt Rw)(i i':Nat)(o:Int×Int)(PF:Fm (Option<|SI×SI) ⇑bs):Prop where
 sh:c0 ⇑bs PF bs
 tel:∀cs,InB cs bs->Tel ⇑bs PF cs (dif rws cX i i' o cs)
 few:⇑(bxs ⇑bs PF)<=700
def  ltr:Str:=s!"abcdefghijklmnoprstuvwxy"
def  wq1(j:Nat):Str:=match ltr.cps.toList[j]? with
 |some c=>s!"qz" ++ ⟨#[c]⟩++s!"q"
 |none=>s!""
def  wqz(n c:Nat):Nt Str:=(db n).map λk:Nat=>wq1<|(k+c)%24
def DV(h:j<24):∃c,ltr.cps.toList[j]?=Nc c:=(_,JO (show j<⇑ltr.cps.toList from h),)
def  evS(ps:Nt Int):Prs:=(db<|⇑ps / 2).map λj:Nat=>(ps.getD (2*j) 0,ps.getD (2*j+1) 0-1)
def As{n:Nat}(h:1<=n):rsz 0 ((n:Int)-1) 2=n / 2:=by unfold rsz;split <;> lia
def wb{ps:Nt Int}(h:k<⇑ps):atI (ps.map pi) (k:Int)=Nc (.int<|ps.getD k 0):=cx (by rw[fi,en,JO h];rfl)
def CK:∀j<24,isw (wq1 j)=true:= ~~~0
def Au:∀i<24,∀j<24,wq1 i=wq1 j->i=j:= ~~~0
def fm:⇑(wqz n c)=n:=by unfold wqz;rw[af,jG]
def pq(i:1<=n)(j:n<=24):Good (wqz n c):=by
 refine(by rw[fm];exact i,by rw[fm];lia,λz d=>?_,?_,)
 .let(k,_,rfl):=cU.mp d;exact CK _<|yf _ ⋯
 .unfold wqz;rw[List.nodup_iff_pairwise_ne,sr];calc Os (λ{a b} g f h e=>?_) nS;let:=Au _ (yf _ ⋯) _ (yf _ ⋯) e;let:=hE.mp g;let:=hE.mp f;lia
def  wqt(n c:Nat):Nt Str:=(wqz n c).drop 1++wqz 1 c
def uD(a:1<=n):wqz n c=wq1 (c%24) :: (wqz n c).drop 1:=by
 let(m,rfl):∃m,n=m+1:=(n-1,∅,);unfold wqz;rw[nE,iO,wz];rfl
def BM:wqz 1 c=[wq1 (c%24)]:=by
 unfold wqz;rw[List.range_one,List.map_singleton,wz]
def Av(d:1<=n)(k:n<=24):Good (wqt n c):=by
 let g:=pq (c:=c) d k;let e:=uD (c:=c) d;let l:=fm (n:=n) (c:=c);unfold wqt;rw[BM];refine(by rw[cb];exact Ci ..,by rw[cb,jP,dV];lia,λz f=>?_,?_,)
 .rcases gz.mp f with h|h
  .exact g.words z<|pU h
  .rw[eO.mp h];exact CK _<|yf _ ⋯
 .let:=g.once;rw[e,lz]at this;rw[pM];calc(this.2,by simp,λa j b i z=>this.1 (by rw[eO.mp i]at z;rw[←z];exact j),)
def jZ:DmX b c (mkd b H x a lo hi) x (.inl (lo,hi)):=(a,_,ae,U,U,U,)
def DW{ps:Nt Int}(h:1<=⇑ps):atI (ps.map pi) (-1)=Nc (.int<|ps.getD (⇑ps-1) 0):=by
 unfold atI ixN;rw[Nj ⋯,Nk (by rw[af];lia)];show(ps.map pi)[(-1+((⇑(ps.map pi):Nat):Int)).toNat]?=_;rw[af,show(-1+((⇑ps:Nat):Int)).toNat=⇑ps-1 by lia,fi,en,JO (show ⇑ps-1<⇑ps by lia)];rfl
def BN{ps:Nt Int}(h:2<=⇑ps)(a:ps.Pairwise (· < ·)):ps.getD 0 0<ps.getD (⇑ps-1) 0:=by
 rw[en,en,JO (show 0<⇑ps by lia),JO (show ⇑ps-1<⇑ps by lia)];calc lX.mp a 0 (⇑ps-1) _ _ ∅
def DmX.updL{m k:Jr}{H:Hp}{a l r:Jr}{d:Dm}{vs:Nt V}{o:HO}(h:DmX m k H a d)(e:H l=Nc (.lst (.ref r :: vs))):DmX m k (upd H l o) a d:=by
 cases d with
 |inl p =>
  let(g,fs,b,c):=h;exact(g,fs,by rw[aw (λz=>by rw[z,e]at b;cases b)];exact b,c,)
 |inr i =>
  let(g,fs,j,b,c,f,n):=h;let q:j≠l:=λz=>by
   rw[z,e]at f;let:=HO.lst.inj<|bn f;cases i with
   |nil=>cases this
   |cons z i=>cases (ln this).1
  calc(g,fs,j,by rw[aw (λz=>by rw[z,e]at b;cases b)];exact b,c,by rw[aw q];exact f,n,)
def BO(f:DmX b a H x d)(c:DmX b a H y e):aN [.ref x,.ref y] [d,e] (DmX b a H):=aN.snoc (aN.snoc aN.nil f) c
def  dm1(kd n c:Nat):Dm:=if kd=2 then .inr (wqz n<|c+1)else if kd=3 then .inr (wqt n c)else if kd=4 then .inl (0,(n:Int)-1)else .inr (wqz n c)
def  dm2(kd:Nat)(lo hi:Int):Dm:=if kd=5 then .inl (lo,hi)else .inl (lo,hi-1)
def  dmF(kd n c:Nat)(lo hi:Int):Nt Dm:=if kd=1 then[.inr (wqz n c)] else[dm1 kd n c,dm2 kd lo hi]
def  lo8:Nt Str:=[s!"oa",s!"ob",s!"oc",s!"od",s!"oe",s!"of",s!"og",s!"oh"]
def  loK(kd:Nat):Nt Str:=if kd=6 then lo8++[s!"oi"]else if kd=8 then lo8.drop 1++lo8.take 1 else lo8
def Aw(kd:Nat):Good (loK kd):=by
 unfold loK;split
 .exact(⋯,⋯,~~~0,~~~0,)
 .split
  .exact(⋯,⋯,~~~0,~~~0,)
  .exact(⋯,⋯,~~~0,~~~0,)
def  outF(a:Bool)(kd:Nat):Dm:=if a=Nh (kd=7)then .inl (if kd=8 then 1 else 0,if kd=6\/kd=8 then 8 else 7)else .inr (loK kd)
def sR(kd k:Nat):decide (pi (kd:Int)=pi (k:Int))=Nh (kd=k):=by
 rw[lc,Nr,Nr];calc(λz=>by have:=V.int.inj z;lia,λz=>by rw[z],)
structure TbI(cT cN cW:Jr)(H:Hp)(t:Jr)(ds:Nt Dm)(bs:Prs)(o:Int×Int)(rws:Nt Rw)(wi:Nat):Prop where
 ex:∃(ou:Jr)(nm wy:Str)(zs:Nt Str)(dv:Nt V),TF cT H t nm wy ou zs dv rws/\TOk cN cW H nm wy ou zs dv rws bs o/\six[wi]?=Nc wy/\o.1<=o.2/\aN (dv++[.ref ou]) ds (DmX cN cW H)
 dl:⇑ds<=10
def  OnE(e f d h:Jr)(K:am)(H:Hp)(t:Jr)(E:XK)(R:Prop):Prop:=∃(c:Nt V)(bs:Prs)(b:Nt Rw)(L:Nat->Nt Int)(g i:Nat)(o:Int×Int),RfB e f d H t c bs b L g i o/\Tb4 K H/\(300<g->∀a,So H a->Tb4 K a->E (.ref h) Nd a)/\(g<=300->R)
def  Fz(b c a e d:Jr)(K:am)(H:Hp)(w:Int)(t u:Jr)(E:XK)(R:Prop):Prop:=((w=3\/w=4\/w=5)/\ChE b c a e d K H t u E λ_ _ _ _ _ _=>R)\/(¬ (w=3\/w=4\/w=5)/\OnE b c a d K H t E R)
def  gD(n:Nat):Nt Int:=(db<|n+1).map λk:Nat=>(k:Int)
def  whF(cl:Int):Bool:=Nh<|pi (cl / 24%2)=pi 1
def  rwF(fu:Bool)(m n:Nat)(ps:Nt Int):Nt Rw:=if fu then[([evS (gD n),evS ps].take m,3)] else[]
def oj:⇑(dmF kd n c lo hi)=if kd=1 then 1 else 2:=by unfold dmF;split <;> rfl
def xg(h:aN a ds (DmX f c H)):aN a (ds.map Dm.b) (Dom f c H):=(by rw[af];exact h.1,λj b e=>by
 rw[fi]at e;let(d,g,rfl):=GB.mp e;let(r,i,p):=h.2 j d g;exact(r,i,p.dom,),)
def DX(nm:Str)(h:nm=s!"a" \/ nm=s!"c"):∀m:Nat,1<=m->m<=2->(∀z∈(nm++s!"t") :: [nm,nm++s!"b"].take m,isw z=Nf)/\((nm++s!"t") :: [nm,nm++s!"b"].take m).Nodup:=λm b a=>by
 let:m=1\/m=2:=∅
 rcases h with rfl|rfl <;> rcases this with rfl|rfl <;> calc(~~~0,~~~0,)
def BP:∀p∈evS (gD n),0<=p.1/\p.2<=(n:Int)-1:=λp b=>by
 let(j,a,rfl):=cU.mp b;let c:⇑(gD n)=n+1:=by unfold gD;rw[af,jG]
 let a:=hE.mp a;rw[c]at a;let g:∀i,i<n+1->(gD n).getD i 0=(i:Int):=λi hi=>by
  unfold gD;rw[en,fi,Om hi];rfl
 rw[g _ ∅,g _ ∅];calc(by show(0:Int)<=((2*j:Nat):Int);lia,by show((2*j+1:Nat):Int)-1<=(n:Int)-1;lia,)
def om{ps:Nt Int}(h:ps.Pairwise (· < ·))(c:i<=j)(b:j<⇑ps):ps.getD i 0<=ps.getD j 0:=by
 rw[en,en,JO (show i<⇑ps by lia),JO b];rcases AA i j with a|a
 .exact OE<|lX.mp h i j _ _ a
 .let:i=j:=∅
  subst this;calc pc _
def DY(h:ps.Pairwise (· < ·)):∀p∈evS ps,ps.getD 0 0<=p.1/\p.2<=ps.getD (⇑ps-1) 0-1:=λp d=>by
 let(j,c,rfl):=cU.mp d;let c:=hE.mp c;let a:=om h (show 0<=2*j by lia) (show 2*j<⇑ps by lia);let b:=om h (show 2*j+1<=⇑ps-1 by lia) (show ⇑ps-1<⇑ps by lia);calc(a,by show ps.getD (2*j+1) 0-1<=_;lia,)
def xh:hiW (wqz n c)=(n:Int)-1:=by
 show((⇑(wqz n c):Nat):Int)-1=_;rw[fm]
def FA(h:1<=n):hiW (wqt n c)=(n:Int)-1:=by
 show((⇑(wqt n c):Nat):Int)-1=_;unfold wqt;rw[cb,jP,fm,fm];lia
def CM(h:1<=n):Dm.b (dm1 kd n c)=(0,(n:Int)-1):=by
 unfold dm1;split
 .show(0,hiW _)=_;rw[xh]
 .split
  .show(0,hiW _)=_;rw[FA h]
  .split
   .rfl
   .show(0,hiW _)=_;rw[xh]
def FC(q:1<=n)(h:m=if kd=1 then 1 else 2)(d:ps.Pairwise (· < ·))(i:o.1<=3/\3<=o.2):∀w∈rwF fu m n ps,uo ((dmF kd n c (ps.getD 0 0)<|ps.getD (⇑ps-1) 0).map Dm.b) o w:=λw g=>by
 unfold rwF at g;split at g
 .rw[eO.mp g];let a:=BP (n:=n);let b:=DY d;refine(?_,λj r s f e=>?_,i.1,i.2,)
  .show⇑(_:Nt Prs)=_;rw[hZ,af,oj,h];split <;> rfl
  .let l:j<m:=by
    let:=(JP.mp f).1;rw[hZ]at this;lia
   rw[KB l]at f;unfold dmF at e;by_cases k:kd=1
   .rw[Nk k]at e h;obtain rfl:j=0:=∅
    cases f;cases e;intro p d;rw[show Dm.b (.inr<|wqz n c)=(0,(n:Int)-1) by show(0,hiW _)=_;rw[xh]];exact a p d
   .rw[Nj k]at e h;let:j=0\/j=1:=∅
    rcases this with rfl|rfl
    .cases f;cases e;intro p d;rw[CM q];exact a p d
    .cases f;cases e;intro p d;let:=b p d;unfold dm2;split
     .exact(this.1,by show p.2<=ps.getD (⇑ps-1) 0;lia,)
     .exact(this.1,this.2,)
 .cases g
def lt6(h:i<6):i=0\/i=1\/i=2\/i=3\/i=4\/i=5:=∅
def CN(a:Bool)(kd:Nat):(Dm.b<|outF a kd).1<=3/\3<=(Dm.b<|outF a kd).2:=by
 unfold outF;split
 .exact(by show(if kd=8 then(1:Int)else 0)<=3;split <;> decide,by show(3:Int)<=if kd=6\/kd=8 then 8 else 7;split <;> decide,)
 .unfold loK;split
  .exact(⋯,⋯,)
  .split <;> calc(⋯,⋯,)
def pz{ps:Nt Int}(h:ps.Pairwise (· < ·))(hi:i<⇑ps)(c:j<⇑ps):ps.getD i 0<ps.getD j 0↔i<j:=by
 constructor
 .intro b;rcases AA i j with a|a
  .exact a
  .let:=om h a hi;lia
 .intro b;rw[en,en,JO hi,JO c];calc lX.mp h i j _ _ b
def Ax:x∈ends (evS ps)↔∃i,i<2*(⇑ps / 2)/\x=ps.getD i 0:=by
 rw[fq];constructor
 .rintro⟨p,b,h⟩;let(j,a,rfl):=cU.mp b;let a:=hE.mp a;rcases h with h|h
  .exact(2*j,∅,h,)
  .exact(2*j+1,∅,by rw[h];show ps.getD (2*j+1) 0-1+1=_;lia,)
 .rintro⟨i,hi,rfl⟩;calc(_,cU.mpr (i / 2,hE.mpr ∅,U,),?_,);rcases O0 i with h|h
  .left
   show _=ps.getD (2*(i / 2)) 0;rw[show 2*(i / 2)=i by lia]
  .right
   show _=ps.getD (2*(i / 2)+1) 0-1+1;rw[show 2*(i / 2)+1=i by lia];lia
def  mkP(c:Nt Int×Nat):Nt Int:=(db<|c.2-1).map λi:Nat=>c.1.getD (i+1) 0
def BQ:x∈mkP c↔∃i,1<=i/\i<c.2/\x=c.1.getD i 0:=by
 unfold mkP;rw[cU];constructor
 .rintro⟨i,hi,rfl⟩;let:=hE.mp hi;exact(i+1,∅,∅,U,)
 .rintro⟨i,b,a,rfl⟩;calc(i-1,hE.mpr ∅,by rw[show i-1+1=i by lia],)
def sS:⇑(mkP c)=c.2-1:=by unfold mkP;rw[af,jG]
structure yu(c:Nt Int×Nat)(b:Int×Int):Prop where
 pw:c.1.Pairwise (· < ·)
 two:2<=⇑c.1
 lo:b.1=c.1.getD 0 0
 hi:c.2=⇑c.1-1/\b.2=c.1.getD (⇑c.1-1) 0-1\/c.2=2*(⇑c.1 / 2)/\b.2=c.1.getD (⇑c.1-1) 0
def yu.t{c:Nt Int×Nat}{b:Int×Int}(h:yu c b):1<=c.2/\c.2<=⇑c.1:=by
 let:=h.two;rcases h.hi with⟨a,_⟩|⟨a,_⟩ <;> lia
def Ay(h:yu c b):(mkP c).Pairwise (· < ·):=by
 let d:=h.t;unfold mkP;rw[sr];calc Os (λ{i j} hi a e=>?_) nS;let:=hE.mp hi;let:=hE.mp a;calc(pz h.pw ∅ ∅).mpr ∅
def DZ(h:yu c b):(x∈ends (evS c.1)/\b.1<x/\x<=b.2)↔x∈mkP c:=by
 let l:=h.two;rw[Ax,BQ];constructor
 .rintro⟨⟨i,hi,rfl⟩,f,g⟩;rw[h.lo]at f;let d:=(pz h.pw ∅ ∅).mp f;calc(i,d,?_,U,);rcases h.hi with⟨a,e⟩|⟨a,e⟩
  .rw[e]at g;let:=(pz h.pw (show i<⇑c.1 by lia) (show ⇑c.1-1<⇑c.1 by lia)).mp ∅;lia
  .lia
 .rintro⟨i,d,j,rfl⟩;let k:=h.t;refine((i,?_,U,),?_,?_,)
  .rcases h.hi with⟨a,_⟩|⟨a,_⟩ <;> lia
  .rw[h.lo];exact(pz h.pw ∅ ∅).mpr ∅
  .rcases h.hi with⟨a,e⟩|⟨a,e⟩
   .rw[e];let:=(pz h.pw (show i<⇑c.1 by lia) (show ⇑c.1-1<⇑c.1 by lia)).mpr ∅;lia
   .rw[e];calc om h.pw ∅ ∅
def xi:MkC [(a,m)] c b x↔x∈ends (a.getD c [])/\b.1<x/\x<=b.2:=by
 constructor
 .rintro⟨w,g,f⟩;rw[eO.mp g]at f;let((p,d,e),h):=xb.mp f;exact(fq.mpr (p,d,e,),h,)
 .rintro⟨j,i⟩;let(p,d,e):=fq.mp j;calc(_,eO.mpr U,xb.mpr ((p,d,e,),i,),)
def  qB(cs:Nt (Nt Int×Nat))(bs:Prs):Prop:=⇑cs=⇑bs/\∀(j:Nat)(c:Nt Int×Nat)(b:Int×Int),cs[j]?=Nc c->bs[j]?=Nc b->yu c b
def sT(h:qB cs bs)(a:cs[j]?=Nc c)(d:bs[j]?=Nc b):MkC [(cs.map λc=>evS c.1,m)] j b x↔x∈mkP c:=by
 rw[xi,show(cs.map λc=>evS c.1).getD j []=evS c.1 by rw[en,fi,a];rfl];calc DZ<|h.2 j c b a d
def xj(h:qB cs bs)(r:⇑a=⇑bs)(o:∀(c:Nat)(b:Int×Int)(ms:Nt Int),bs[c]?=Nc b->a[c]?=Nc ms->ms.Pairwise (· < ·)/\∀x,x∈ms↔MkC [(cs.map λc=>evS c.1,m)] c b x):∀n,n<=⇑bs->gr bs a n=prd ((cs.map (·.2)).take n)
 |0,_=>rfl
 |n+1,hn=>by
  let q:=xj h r o n ∅;let g:cs[n]?=Nc (cs[n]'(by rw[h.1];lia)):=JO (by rw[h.1];lia);let d:bs[n]?=Nc bs[n]:=JO ∅;let i:a[n]?=Nc (a[n]'∅):=JO ∅;generalize (cs[n]'(by rw[h.1];lia))=c at g;generalize bs[n]=b at d;generalize (a[n]'∅)=ms at i;let p:=h.2 n c b g d;let(k,l):=o n b ms d i;let j:ms=mkP c:=jt k (Ay p) λz=>(l z).trans<|sT h g d
  let e:=sL (lo:=b.1) (hi:=b.2) (ms:=ms) k λz=>(λf=>(f,iW<|(l z).mp f,),λf=>f.1,)
  let s:gl bs a n=c.2:=by
   unfold gl;rw[en,d,en,i];show⇑(dd b.1 b.2 ms)+1=c.2;rw[←e,j,sS];let:=p.t;lia
  show gr bs a n*gl bs a n=_;rw[q,s,take_snoc (show(cs.map (·.2))[n]?=Nc c.2 by rw[fi,g];rfl),pf]
def yv:⇑(evS ps)=⇑ps / 2:=by unfold evS;rw[af,jG]
def Az(S:TbI s u r H t ds bs o [(cs.map λc=>evS c.1,m)] F)(h:qB cs bs)(R:⇑bs<=4)(k:∀c∈cs,⇑c.1<=400):∃g n,TDo s H t g n/\aN (g++[.ref n]) ds (DmX u r H)/\RfB s u r H t g bs [(cs.map λc=>evS c.1,m)] (λj=>mkP<|cs.getD j ([],0)) (prd (cs.map (·.2))) F o:=by
 let((n,nm,wy,Z,g,i,a,A,C,D),_):=S;let(z,K,na,L,fs,v,I,V,f2,f3,T,f5,J,Y,l,W,E,pC):=id i;refine(g,n,(K,L,fs,I,J,T,l,),D,(z,K,L,fs,v,I,V,J,l,a.doms,W,E,),i.tbl A a.out C,R,(by show 1<=200;decide),λw N=>(a.rows w N).len,λc=>?_,λc b e=>?_,λX Q P=>?_,λp O=>?_,)
 .refine uU (wa (b:=200) λw B=>?_) (by show 200*1<=499;decide);rw[eO.mp B];show⇑((cs.map λc=>evS c.1).getD c [])<=200;rw[en,fi];cases e:cs[c]? with
  |none=>exact ve _
  |some y =>
   show⇑(evS y.1)<=200;rw[yv];let:=k y<|JQ e;lia
 .let d:c<⇑cs:=by rw[h.1];exact(JP.mp e).1
  let f:cs[c]?=Nc cs[c]:=JO d;let G:cs.getD c ([],0)=cs[c]:=by rw[en,f];rfl
  let ht:=(h.2 c _ b f e).t;let:=k _<|JQ f;refine(by rw[G,sS];lia,λx M=>?_,);rw[G];exact(sT h f e).mp M
 .rw[xj h Q P _ (uN _),kW (by rw[af,h.1];exact uN _)]
 .let(j,q):=kY O;let f:cs[j]?=Nc (cs[j]'(by rw[h.1];exact(JP.mp q).1)):=JO _;let d:=h.2 j _ p f q;let h2:=d.two;let:=(pz d.pw (show 0<_ by lia) (show _-1<_ by lia)).mpr (show 0<(cs[j]'(by rw[h.1];exact(JP.mp q).1)).1.length-1 by lia);rw[d.lo];rcases d.hi with⟨_,e⟩|⟨_,e⟩ <;> rw[e] <;> lia
def AB(O:TbI s u r H t ds bs o [] F)(N:⇑bs<=4)(R:∀p∈bs,p.1<=p.2):∃d j,TDo s H t d j/\aN (d++[.ref j]) ds (DmX u r H)/\RfB s u r H t d bs [] (λ_=>[]) 1 F o:=by
 let((j,Y,W,V,d,f,g,A,C,D),_):=O;let(y,J,Z,K,fs,v,G,Q,f2,f3,P,f5,I,T,i,S,E,X):=id f;let no:∀{c:Nat}{b:Int×Int}{x:Int},¬ MkC [] c b x:=λh=>by
  let(w,l,_):=h;cases l
 refine(d,j,(J,K,fs,G,I,P,i,),D,(y,J,K,fs,v,G,Q,I,i,g.doms,S,E,),f.tbl A g.out C,N,(by show 0<=200;decide),(λw l=>by cases l),λc=>(by show 0<=499;decide),λc b e=>((by show 0<=400;decide),λx k=>Nl k no,),λa hl M=>?_,R,);let z:∀n,n<=⇑bs->gr bs a n=1:=λn=>by
  induction n with
  |zero=>exact λ_=>U
  |succ n L =>
   intro hn;let q:bs[n]?=Nc bs[n]:=JO ∅;let m:a[n]?=Nc (a[n]'∅):=JO ∅;generalize bs[n]=b at q;generalize (a[n]'∅)=ms at m;let k:=(M n b ms q m).2;let B:ms=[]:=List.eq_nil_iff_forall_not_mem.mpr λx h=>no<|(k x).mp h
   show gr bs a n*gl bs a n=1;rw[L ∅];unfold gl;rw[en,q,en,m,B];rfl
 calc z _<|uN _
def xk(h:qB cs bs):∀p∈bs,p.1<=p.2:=λp f=>by
 let(j,b):=kY f;let g:j<⇑cs:=by rw[h.1];exact(JP.mp b).1
 let d:cs[j]?=Nc cs[j]:=JO g;generalize cs[j]=c at d;let a:=h.2 j _ p d b;let i:=a.two;let:=(pz a.pw (show 0<⇑c.1 by lia) (show ⇑c.1-1<⇑c.1 by lia)).mpr (show 0<⇑c.1-1 by lia);rw[a.lo];rcases a.hi with⟨_,e⟩|⟨_,e⟩ <;> rw[e] <;> lia
def uE(h:qB cs bs):qA bs [(cs.map λc=>evS c.1,m)] (im (λp ms=>bX p.1 p.2 ms) bs<|cs.map mkP):=by
 let a:∀(j:Nat)(p:Int×Int)(ms:Nt Int),bs[j]?=Nc p->(cs.map mkP)[j]?=Nc ms->ms.Pairwise (· < ·)/\∀x,x∈ms↔MkC [(cs.map λc=>evS c.1,m)] j p x:=λj p ms d b=>by
  rw[fi]at b;let(c,f,rfl):=GB.mp b;exact(Ay<|h.2 j c p f d,λx=>(sT h f d).symm,)
 let e:⇑(cs.map mkP)=⇑bs:=by rw[af,h.1]
 calc(mV e (xk h) λj p ms d b=>((a j p ms d b).1,λx g=>iW<|((a j p ms d b).2 x).mp g,),cs.map mkP,e,U,a,)
def  rwL(fu:Bool)(cs:Nt (Nt Int×Nat)):Nt Rw:=if fu then[(cs.map λc=>evS c.1,3)] else[]
def sU(m:TbI g i f H t ds bs o (rwL fu cs) k)(h:qB cs bs)(l:⇑bs<=4)(j:∀c∈cs,⇑c.1<=400):∃d e L,TDo g H t d e/\aN (d++[.ref e]) ds (DmX i f H)/\RfB g i f H t d bs (rwL fu cs) L (if fu then prd (cs.map (·.2))else 1) k o:=by
 cases fu with
 |true =>
  let(d,e,a,b,c):=Az m h l j;exact(d,e,_,a,b,c,)
 |false =>
  let(d,e,a,b,c):=AB m l<|xk h;calc(d,e,_,a,b,c,)
def xl(h:qB cs bs)(fu:Bool)(b:InB a bs):mkg (rwL fu cs) (im bQ (im (λp ms=>bX p.1 p.2 ms) bs<|cs.map mkP) a)=mkg (rwL fu cs) a:=by
 cases fu with
 |true=>exact wZ (uE h) (λx d=>by rw[eO.mp d];show⇑(cs.map λc=>evS c.1)=_;rw[af,h.1]) b
 |false=>rfl
def BR(h:qB cs bs):prd ((im (λp ms=>bX p.1 p.2 ms) bs<|cs.map mkP).map sK)=prd (cs.map (·.2)):=by
 congr 1
 refine pV λj=>?_
 rw[fi,ml,fi,fi];by_cases a:j<⇑cs
 .let d:cs[j]?=Nc cs[j]:=JO a;let e:bs[j]?=Nc (bs[j]'(by rw[←h.1];exact a)):=JO _;generalize cs[j]=c at d;generalize (bs[j]'(by rw[←h.1];exact a))=b at e;let:=(h.2 j c b d e).t;rw[d,e];show Nc ⇑(bX b.1 b.2<|mkP c)=Nc c.2;rw[gf,sS]
  congr 1
  lia
 .rw[ll (show ⇑cs<=j by lia),ll (show ⇑bs<=j by rw[←h.1];lia)];rfl
def D1(F:TbI c d b H t ds bs o rws w)(D:TbI c d b H u a s B Q e)(x:Tb4 K H)(f:ds≠a)(G:∀H',So H H'->Tb4 K H'->E (.ref v) Nd H'):ChE c d b v S K H t u E R:=by
 let((A,nm,wy,zs,O,j,a7,a5,a6,i),C):=F;let((y,a3,a0,X,M,V,Jz,JA,JB,h),g):=D;let(a1,N,na,P,fs,Y,I,f1,f2,f3,L,f5,J,b3,p,_):=j;let(a2,q,a4,r,l,Z,k,b1,b0,a9,n,a8,m,JC,T,_):=V;calc(O,M,A,y,ds,a,(N,P,fs,I,J,L,p,),(q,r,l,k,m,n,T,),i,h,C,g,x,λ_=>G,λz=>Nl z f,)
def D3(n:TbI i j g H t ds bs o (rwL fu cs) f)(l:TbI i j g H u ds bs o (rwL a cs) b)(q:Tb4 K H)(h:qB cs bs)(k:⇑bs<=4)(e:∀c∈cs,⇑c.1<=400)(M:prd (cs.map (·.2))<=700)(w:(300<if fu then prd (cs.map (·.2))else 1)\/(300<if a then prd (cs.map (·.2))else 1)->∀H',So H H'->Tb4 K H'->E (.ref p) Nd H')(v:(if fu then prd (cs.map (·.2))else 1)<=300->(if a then prd (cs.map (·.2))else 1)<=300->R bs (rwL fu cs) (rwL a cs) f b o):ChE i j g B p K H t u E R:=by
 let(y,s,L,I,G,F):=sU n h k e;let(x,r,J,D,b2,C):=sU l h k e;calc(y,x,s,r,ds,ds,I,D,G,b2,n.dl,l.dl,q,λz=>Nl U z,λ_=>(bs,_,_,f,b,_,_,o,L,J,_,F,C,(uE (m:=3) h).ok,by rw[jO,af,h.1,Nat.min_self],by rw[BR h];exact M,λA d=>xl h fu d,λA d=>xl h a d,w,v,),)
def TbI.so(h:TbI j k i H t ds bs o rws g)(s:So H H'):TbI j k i H' t ds bs o rws g:=by
 let((n,q,m,l,u,f,a,b,c,d),r):=h;calc((n,q,m,l,u,f.so s,(a.words,a.once,a.one,a.four,a.way,(λz=>let ⟨dx,fs,e⟩:=a.sum z;(dx,fs,s.ins e,)),aN.mono a.doms λ_ _ p=>Dom.so s p,Dom.so s a.out,a.len,a.rows,a.few,),b,c,aN.mono d λ_ _ p=>DmX.so p s,),r,)
def AE(h:1<=n):(wqz n c)[0]?=Nc (wq1<|c%24):=by rw[uD h];rfl
def FD(h:2<=n):(wqt n c)[0]?=Nc (wq1<|(1+c)%24):=by
 unfold wqt;rw[iv (by rw[jP,fm];lia),sk];unfold wqz;rw[fi,Om ∅];rfl
def xm:wq1 ((1+c)%24)≠wq1 (c%24):=λe=>by
 let:=Au _ (yf _ ⋯) _ (yf _ ⋯) e;lia
def CO(d:kd<=8)(f:kd≠0)(b:2<=n):dmF kd n c lo hi++[outF a kd]≠dmF 0 n c lo hi++[outF a 0]:=by
 intro e;rcases(show kd=1\/kd=2\/kd=3\/kd=4\/kd=5\/kd=6\/kd=7\/kd=8 by lia)with rfl|rfl|rfl|rfl|rfl|rfl|rfl|rfl
 .exact Nl (Nq sK e) (by show ¬ 2=3;decide)
 .let e:(.inr (wqz n<|c+1):Dm)=.inr (wqz n c):=(ln e).1;let:=Nq (λz:Nt Str=>z[0]?)<|NP e;rw[AE ∅,AE ∅,Nat.add_comm]at this;exact xm<|bn this
 .let e:(.inr (wqt n c):Dm)=.inr (wqz n c):=(ln e).1;let:=Nq (λz:Nt Str=>z[0]?)<|NP e;rw[FD b,AE ∅]at this;exact xm<|bn this
 .let e:(.inl (0,(n:Int)-1):Dm)=.inr (wqz n c):=(ln e).1;cases e
 .let e:(.inl (lo,hi):Dm)=.inl (lo,hi-1):=(ln (ln e).2).1;let:=Nq Prod.snd<|Ot e;let:hi=hi-1:=this;lia
 .let e:outF a 6=outF a 0:=(ln (ln (ln e).2).2).1;cases a with
  |false=>exact Nl (Nq Prod.snd<|Ot (show(.inl (0,8):Dm)=.inl (0,7)from e)) ⋯
  |true=>exact Nl (Nq sK<|NP (show(.inr (loK 6):Dm)=.inr (loK 0)from e)) ⋯
 .let e:outF a 7=outF a 0:=(ln (ln (ln e).2).2).1;cases a with
  |false=>cases (show(.inr (loK 7):Dm)=.inl (0,7)from e)
  |true=>cases (show(.inl (0,7):Dm)=.inr (loK 0)from e)
 .let e:outF a 8=outF a 0:=(ln (ln (ln e).2).2).1;cases a with
  |false=>exact Nl (Nq Prod.snd<|Ot (show(.inl (1,8):Dm)=.inl (0,7)from e)) ⋯
  |true=>calc Nl (NP (show(.inr (loK 8):Dm)=.inr (loK 0)from e)) (~~~0)
abbrev OP2:=Option<|SI×SI
def  nM(A B:OP2):Nat->Int->Nt (T3a OP2)
 |0,_=>[]
 |n+1,a=>(a,a,A) :: (a+1,a+1,Nd) :: (a+2,a+2,B) :: (a+3,if n=0 then a+4 else a+3,Nd) :: nM A B n (a+4)
def  qC(A B:OP2)(low:Int)(n:Nat)(x:Int):OP2:=if 0<=x-low/\x-low<4*(n:Int)/\(x-low)%4=0 then A else if 0<=x-low/\x-low<4*(n:Int)/\(x-low)%4=2 then B else Nd
def xn(A B:OP2):∀(n:Nat)(a:Int),Ch3 (nM A B (n+1) a) a (a+4*((n+1:Nat):Int))
 |0,a=>(U,pc _,U,pc _,by show a+2=a+1+1;lia,by show a+1+1<=a+2;lia,by show a+3=a+2+1;lia,by show a+2+1<=if 0=0 then a+4 else a+3;rw[Nk U];lia,by show(if 0=0 then a+4 else a+3)+1=a+4*((0+1:Nat):Int)+1;rw[Nk U];lia,)
 |n+1,a=>by
  let b:=xn A B n<|a+4;refine(U,pc _,U,pc _,by show a+2=a+1+1;lia,by show a+1+1<=a+2;lia,by show a+3=a+2+1;lia,by show a+2+1<=if n+1=0 then a+4 else a+3;rw[Nj ∅];lia,?_,);show Ch3 (nM A B (n+1)<|a+4) ((if n+1=0 then a+4 else a+3)+1) (a+4*((n+1+1:Nat):Int));rw[Nj ∅,show a+3+1=a+4 by lia,show a+4*((n+1+1:Nat):Int)=a+4+4*((n+1:Nat):Int) by lia];calc b
def uF:∀(n k:Nat),k+n=m->∀t∈nM A B n (low+4*(k:Int)),∀x,t.1<=x->x<=t.2.1->qC A B low m x=t.2.2
 |0,_,_,t,h,_,_,_=>by cases h
 |n+1,k,e,t,h,x,b,a=>by
  unfold nM at h;unfold qC;rcases ax.mp h with rfl|h
  .let b:low+4*(k:Int)<=x:=b;let a:x<=low+4*(k:Int):=a;rw[Nk ∅]
  rcases ax.mp h with rfl|h
  .let b:low+4*(k:Int)+1<=x:=b;let a:x<=low+4*(k:Int)+1:=a;rw[Nj ∅,Nj ∅]
  rcases ax.mp h with rfl|h
  .let b:low+4*(k:Int)+2<=x:=b;let a:x<=low+4*(k:Int)+2:=a;rw[Nj ∅,Nk ∅]
  rcases ax.mp h with rfl|h
  .let b:low+4*(k:Int)+3<=x:=b;let a:x<=if n=0 then low+4*(k:Int)+4 else low+4*(k:Int)+3:=a
   by_cases c:n=0
   .rw[Nk c]at a;rw[Nj ∅,Nj ∅]
   .rw[Nj c]at a;rw[Nj ∅,Nj ∅]
  .rw[show low+4*(k:Int)+4=low+4*((k+1:Nat):Int) by lia]at h;let:=uF (A:=A) (B:=B) (low:=low) (m:=m) n (k+1) ∅ t h x b a;unfold qC at this;calc this
def jz{α:Type}{a:α}{l:Nt α}(h:Nbx l)(d:∀y,l[0]?=Nc y->a≠y):Nbx (a :: l):=λi x y c b=>by
 cases i with
 |zero=>cases c;exact d y b
 |succ i=>calc h i x y c b
def xo{A B:OP2}(c:A≠Nd)(b:B≠Nd):∀(n:Nat)(a:Int),Nbx ((nM A B n a).map (·.2.2))/\∀y,((nM A B n a).map (·.2.2))[0]?=Nc y->Nd≠y
 |0,a=>(λi x y e=>by simp[nM]at e,λy e=>by simp[nM]at e,)
 |n+1,a=>by
  let(f,d):=xo c b n<|a+4;refine⟨?_,λy e=>by cases e;exact c.symm⟩;exact jz (jz (jz (jz f d) λy e=>by cases e;exact b) λy e=>by cases e;exact b.symm) λy e=>by cases e;calc c
def  yw(A B:OP2)(low:Int)(n:Nat):Nt (T3a OP2):=(low-1,low-1,Nd) :: nM A B n low
def AF{A B:OP2}(E:A≠Nd)(D:B≠Nd){low:Int}{n:Nat}(O:1<=n){f:Nt Int->OP2}{k:Fm OP2 1}(s:c0 1 k [(low-1,low+4*(n:Int))])(tl:∀cs,InB cs [(low-1,low+4*(n:Int))]->Tel 1 k cs (f cs))(C:∀x,low-1<=x->x<=low+4*(n:Int)->f [x]=qC A B low n x):k=(show Fm OP2 1 from yw A B low n):=by
 let(m,rfl):∃m,n=m+1:=(n-1,∅,);let r:Ch3 (yw A B low<|m+1) (low-1) (low+4*((m+1:Nat):Int)):=(U,pc _,by rw[show low-1+1=low by lia];exact xn A B m low,);let l:∀t∈yw A B low (m+1),∀x,t.1<=x->x<=t.2.1->qC A B low (m+1) x=t.2.2:=λt e x a b=>by
  rcases ax.mp e with rfl|e
  .let a:low-1<=x:=a;let b:x<=low-1:=b;unfold qC;rw[Nj ∅,Nj ∅]
  .exact uF (m+1) 0 ∅ t (by rw[show low+4*((0:Nat):Int)=low by lia];exact e) x a b
 let nb:=xo E D (m+1) low;refine jY s (_,_,U,(by intro z;cases z),r,jz nb.1 nb.2,λt e=>U,) λcs d x y v u=>?_
 let(c,rfl,q,p):∃c,cs=[c]/\low-1<=c/\c<=low+4*((m+1:Nat):Int):=by
  cases d with
  |cons a b h =>
   cases h;exact(_,U,a,b,)
 rw[jX v (tl [c] d),C c q p];let(j,t,H,G,F,i):=Tel.inv (L:=OP2) (n:=0) (g:=yw A B low<|m+1) u;let(N,o,M,K,J,P,I):=r.at q p;let w:=(eW H G F).symm.trans I;let:t.2.2=o.2.2:=bn w;let i:t.2.2=y:=by cases i;rfl
 rw[←i,this];calc l o (JQ M) c K J
def  kN(A B:OP2)(low:Int)(n:Nat):Nt (Nt (Int×Int)×OP2):=(db n).flatMap λk:Nat=>[([(low+4*(k:Int),low+4*(k:Int))],A),([(low+4*(k:Int)+2,low+4*(k:Int)+2)],B)]
def FE{L:Type}:∀F:Nt (T3a L),bxs 1 (show Fm L 1 from F)=F.map λt=>([(t.1,t.2.1)],t.2.2)
 | []=>rfl
 |t :: F=>by
  show([([(t.1,t.2.1)],t.2.2)]++bxs 1 (show Fm L 1 from F))=_;rw[FE F];rfl
def uG{A B:OP2}(c:A≠Nd)(b:B≠Nd):∀(n:Nat)(a:Int),cV Nd ((nM A B n a).map λt=>([(t.1,t.2.1)],t.2.2))=kN A B a n
 |0,a=>rfl
 |n+1,a=>by
  let d:=uG c b n<|a+4;let e:kN A B a (n+1)=([(a,a)],A) :: ([(a+2,a+2)],B) :: kN A B (a+4) n:=by
   unfold kN;rw[nE,Oy,List.flatMap_map];show([(a+4*((0:Nat):Int),a+4*((0:Nat):Int))],A) :: ([(a+4*((0:Nat):Int)+2,a+4*((0:Nat):Int)+2)],B) :: _=_;rw[show a+4*((0:Nat):Int)=a by lia]
   congr 2
   calc Nq (λF=>(db n).flatMap F)<|funext λk=>?_;rw[show a+4*((Nat.succ k:Nat):Int)=a+4+4*(k:Int) by lia]
  rw[e,←d];unfold cV;show List.filter (λq=>decide<|q.2≠Nd) (([(a,a)],A) :: ([(a+1,a+1)],Nd) :: ([(a+2,a+2)],B) :: ([(a+3,if n=0 then a+4 else a+3)],Nd) :: (nM A B n<|a+4).map λt=>([(t.1,t.2.1)],t.2.2))=_;rw[ov (~~~c),lY (by simp),ov<|~~~b,lY (by simp)]
def BS{A B:OP2}(b:A≠Nd)(a:B≠Nd){low:Int}{n:Nat}:cV Nd (bxs 1 (show Fm OP2 1 from yw A B low n))=kN A B low n:=by
 rw[←uG b a n low,FE];unfold cV yw;rw[iO,lY (by simp)]
def uH{A B:OP2}(c:A≠Nd)(b:B≠Nd){low:Int}{n:Nat}(g:1<=n){f:Nt Int->OP2}{a:Fm OP2 1}(d:c0 1 a [(low-1,low+4*(n:Int))])(tl:∀cs,InB cs [(low-1,low+4*(n:Int))]->Tel 1 a cs (f cs))(e:∀x,low-1<=x->x<=low+4*(n:Int)->f [x]=qC A B low n x):cV Nd (bxs 1 a)=kN A B low n:=by
 rw[AF c b g d tl e];calc BS c b
def  yx(low:Int)(n:Nat)(s:Int):Prs:=(db n).map λk:Nat=>(low+4*(k:Int)+s,low+4*(k:Int)+s)
def  kO(low:Int)(n:Nat)(s:Int):Nt Rw:=[([yx low n s],3)]
def  mkD(low:Int)(n:Nat)(s:Int):Nt Int:=(db<|2*n).map λi:Nat=>low+4*((i / 2:Nat):Int)+s+((i%2:Nat):Int)
def D4{low:Int}{n:Nat}{s:Int}:(mkD low n s).Pairwise (· < ·):=by
 unfold mkD;rw[sr];calc OT (λ{a b} h=>∅) nS
def BU:x∈mkD low n s↔∃k:Nat,k<n/\(x=low+4*(k:Int)+s\/x=low+4*(k:Int)+s+1):=by
 unfold mkD;rw[cU];constructor
 .rintro⟨i,hi,rfl⟩;let:=hE.mp hi;calc(i / 2,∅,?_,);rcases O0 i with h|h <;> rw[h]
  .exact .inl ∅
  .exact .inr ∅
 .rintro⟨k,a,h|h⟩
  .exact(2*k,hE.mpr ∅,by rw[h];lia,)
  .exact(2*k+1,hE.mpr ∅,by rw[h];lia,)
def AG(d:0<=s)(c:s<=2):MkC (kO low n s) 0 (low-1,low+4*(n:Int)) x↔x∈mkD low n s:=by
 unfold kO;rw[xi,BU];constructor
 .rintro⟨h,_⟩;let(p,b,e):=fq.mp h;let(k,a,rfl):=cU.mp b;exact(k,hE.mp a,e,)
 .rintro⟨k,a,e⟩;calc(fq.mpr (_,cU.mpr (k,hE.mpr a,U,),e,),?_,);constructor
  .show low-1<x;lia
  .show x<=low+4*(n:Int);lia
def xp{low:Int}{n:Nat}{s:Int}{G:Nat}{o:Int×Int}(h1:1<=n)(Y:n<=80)(L:0<=s)(K:s<=2)(T:TbI l m k H t ds [(low-1,low+4*(n:Int))] o (kO low n s) G):∃d h,TDo l H t d h/\aN (d++[.ref h]) ds (DmX m k H)/\RfB l m k H t d [(low-1,low+4*(n:Int))] (kO low n s) (λ_=>mkD low n s) (2*n+1) G o:=by
 let((h,nm,wy,zs,d,f,a,v,B,D),_):=T;let(r,O,na,P,fs,q,M,W,f2,f3,V,f5,N,Z,g,X,F,pC):=id f;let J:⇑(mkD low n s)=2*n:=by unfold mkD;rw[af,jG]
 refine(d,h,(O,P,fs,M,N,V,g,),D,(r,O,P,fs,q,M,W,N,g,a.doms,X,F,),f.tbl v a.out B,(by show 1<=4;decide),(by show 1<=200;decide),λw Q=>(a.rows w Q).len,λc=>?_,λc b e=>?_,λu C S=>?_,λp R=>?_,)
 .refine uU (wa (b:=200) λw y=>?_) (by show 200*1<=499;decide);rw[eO.mp y];cases c with
  |zero =>
   show⇑(yx low n s)<=200;unfold yx;rw[af,jG];lia
  |succ c=>exact ve _
 .let E:c=0:=by have:=(JP.mp e).1;let:c<1:=this;lia
  subst E;cases e;exact(by rw[J];lia,λx i=>(AG L K).mp i,)
 .match u,C with
  | [ms],_ =>
   let(I,i):=S 0 _ ms U U;let A:ms=mkD low n s:=jt I D4 λz=>(i z).trans<|AG L K
   let e:=sL (lo:=low-1) (hi:=low+4*(n:Int)) (ms:=ms) I λc=>(λj=>(j,iW<|(i c).mp j,),λj=>j.1,)
   show 1*(⇑(dd (low-1) (low+4*(n:Int)) ms)+1)=2*n+1;rw[←e,A,J];lia
 .rw[eO.mp R];show low-1<=low+4*(n:Int);lia
def  iz(a:Int)(n:Nat):Nt (Int×Int):=(db n).map λi:Nat=>(a+(i:Int),a+(i:Int))
def xq:∀(n:Nat)(a:Int),zZ (iz a n) a (a+(n:Int)-1)
 |0,a=>by show a=a+((0:Nat):Int)-1+1;lia
 |n+1,a=>by
  let e:iz a (n+1)=(a,a) :: iz (a+1) n:=by
   unfold iz;rw[nE,iO,rL,show a+((0:Nat):Int)=a by lia]
   congr 1
   refine Pz λk _=>?_
   show(a+((k+1:Nat):Int),a+((k+1:Nat):Int))=_;rw[show a+((k+1:Nat):Int)=a+1+(k:Int) by lia]
  rw[e];calc(U,pc _,?_,);let:=xq n<|a+1;rw[show a+1+(n:Int)-1=a+((n+1:Nat):Int)-1 by lia]at this;calc this
def uI:vdm [(a,m)] 0 o (mkg [(a,m)] cs)=if kM a cs=Nf then say m else dX:=by
 show ver (wf 0 o.1 o.2) (pkF [(a,m)] (eF ((msk (ka [(a,m)] cs) 1:Nat):Int)) 1)=_;rw[uu,yp];let e:ka [(a,m)] cs 0=kM a cs:=rfl;rw[e];cases kM a cs <;> rfl
def xr:kM [yx low n s] [x]=Nf↔0<=x-low-s/\x-low-s<4*(n:Int)/\(x-low-s)%4=0:=by
 show((db 1).all λj=>inP ([yx low n s].getD j [])<|[x].getD j 0)=Nf↔_;rw[show(db 1)=[0]from U,ny,List.all_nil,O8];show inP (yx low n s) x=Nf↔_;rw[rW];constructor
 .rintro⟨p,c,b,a⟩;let(k,d,rfl):=cU.mp c;let:=hE.mp d;let b:low+4*(k:Int)+s<=x:=b;let a:x<=low+4*(k:Int)+s:=a;lia
 .rintro⟨b,a,e⟩;calc(_,cU.mpr (((x-low-s) / 4).toNat,hE.mpr ∅,U,),?_,);constructor
  .show low+4*((((x-low-s) / 4).toNat:Nat):Int)+s<=x;lia
  .show x<=low+4*((((x-low-s) / 4).toNat:Nat):Int)+s;lia
def xt:dif (kO low n 0) (kO low n 2) 0 0 o [x]=qC (Nc (say 3,dX)) (Nc (dX,say 3)) low n x/\dif (kO low n 2) (kO low n 0) 0 0 o [x]=qC (Nc (dX,say 3)) (Nc (say 3,dX)) low n x:=by
 let e:say 3≠dX:=v9 3;unfold dif kO;rw[uI,uI];let a:=xr (low:=low) (x:=x) (n:=n) (s:=0);let b:=xr (low:=low) (x:=x) (n:=n) (s:=2);unfold qC;by_cases d:0<=x-low/\x-low<4*(n:Int)/\(x-low)%4=0
 .rw[Nk d,Nk d,Nk<|a.mpr ∅,Nj (λz=>by have:=b.mp z;lia)];unfold dpr;exact(by rw[Nj e],by rw[Nj e.symm],)
 .rw[Nj d,Nj d,Nj (λz=>d (by have:=a.mp z;lia))];by_cases c:0<=x-low/\x-low<4*(n:Int)/\(x-low)%4=2
  .rw[Nk c,Nk c,Nk (b.mpr ∅)];unfold dpr;exact(by rw[Nj e.symm],by rw[Nj e],)
  .rw[Nj c,Nj c,Nj (λz=>c (by have:=b.mp z;lia))];unfold dpr;calc(by rw[Nk U],by rw[Nk U],)
def uJ:∀(n:Nat)(a x:Int),a<=x->x<a+(n:Int)->bQ (iz a n) x=x
 |0,a,x,h1,h2=>∅
 |n+1,a,x,h1,h2=>by
  let e:iz a (n+1)=(a,a) :: iz (a+1) n:=by
   unfold iz;rw[nE,iO,rL,show a+((0:Nat):Int)=a by lia]
   congr 1
   refine Pz λk _=>?_
   show(a+((k+1:Nat):Int),a+((k+1:Nat):Int))=_;rw[show a+((k+1:Nat):Int)=a+1+(k:Int) by lia]
  rw[e];unfold bQ;by_cases b:x<=a
  .rw[kZ (~~~b)];show a=x;lia
  .rw[lg (~~~b)];calc uJ n (a+1) x ∅ ∅
def xu{R:Prs->Nt Rw->Nt Rw->Nat->Nat->Int×Int->Prop}{ds:Nt Dm}{low s s':Int}{n:Nat}{o:Int×Int}(p:1<=n)(e:n<=80)(A:0<=s)(y:s<=2)(k:0<=s')(j:s'<=2)(m:TbI g i f H t ds [(low-1,low+4*(n:Int))] o (kO low n s) 0)(l:TbI g i f H u ds [(low-1,low+4*(n:Int))] o (kO low n s') 0)(r:Tb4 K H)(x:R [(low-1,low+4*(n:Int))] (kO low n s) (kO low n s') 0 0 o):ChE g i f D F K H t u E R:=by
 let(C,w,M,L,J):=xp p e A y m;let(B,v,I,b2,G):=xp p e k j l;let q:∀d,InB d [(low-1,low+4*(n:Int))]->im bQ [iz (low-1) (4*n+2)] d=d:=λd c=>by
  cases c with
  |cons a b h =>
   cases h;let a:low-1<=_:=a;let b:_<=low+4*(n:Int):=b;show[bQ _ _]=_;rw[uJ _ _ _ a ∅]
 refine(C,B,w,v,ds,ds,M,I,L,b2,m.dl,l.dl,r,λz=>Nl U z,λ_=>(_,_,_,0,0,_,_,o,_,_,[iz (low-1) (4*n+2)],J,G,.cons ?_ ?_ .nil,U,?_,λd c=>by rw[q d c],λd c=>by rw[q d c],λh=>∅,λ_ _=>x,),)
 .intro z;let:=Nq sK z;unfold iz at this;rw[af,jG]at this;cases this
 .let:=xq (4*n+2)<|low-1;rw[show low-1+((4*n+2:Nat):Int)-1=low+4*(n:Int) by lia]at this;exact this
 .show⇑(iz (low-1)<|4*n+2)*1<=700;unfold iz;rw[af,jG];lia
def CP{K:am}{H:Hp}{n:Nat}{a b:Jr}{x:SI}(f:Vd K H a x)(e:Vd K H b x):DEq K H (n+1) (.ref a) (.ref b) true:=by
 refine n9 f.sq e.sq U λj u v c d=>?_
 match j,c,d with
 |0,c,d =>
  cases c;cases d;let:DEq K H n (.str x.1) (.str x.1) (eqV (.str x.1)<|.str x.1):=.flat U U;rw[show eqV (.str x.1) (.str x.1)=Nf by simp[eqV]]at this;exact this
 |1,c,d =>
  cases c;cases d;exact sJ _
 |j+2,c,d=>simp[tp2]at c
def D5{K:am}{H:Hp}{xs ys:Nt V}{l:Nt (Nt (Int×Int)×OP2)}(h:ChL K H xs l)(h':ChL K H ys l)(j:Nat)(x y:V)(I:xs[j]?=Nc x)(G:ys[j]?=Nc y):DEq K H 60 x y true:=by
 let(q,D,t,b,P,O,p,rfl,E,C,z,w,s):=c9 h I;let(Q,e,N,T,L,J,R,rfl,f,m,k,i,g):=c9 h' G;rw[D]at e;cases e;rw[E]at f;cases f;let(S,F,d):=z;let(M,o,r):=k;refine n9 (n:=59) (P9 C) (P9 m) U λj u v a c=>?_
 match j,a,c with
 |0,a,c =>
  cases a;cases c;exact n9 (n:=58) (P9 F) (P9 o) (by rw[⇑d,⇑r]) λj u v B A=>DL d r j u v B A
 |1,a,c =>
  cases a;cases c;exact CP w i
 |2,a,c =>
  cases a;cases c;exact CP s g
 |j+3,a,c=>simp at a
def BY{K:am}{H:Hp}{Q:VK}{a b:Jr}{xs ys:Nt V}{l:Nt (Nt (Int×Int)×OP2)}(d:SqL K H a xs)(c:SqL K H b ys)(h:ChL K H xs l)(h':ChL K H ys l)(q:Q (.bl Nf) H):zB K Ng (.ref a) (.ref b) H Q:=by
 refine(a,b,xs,ys,U,U,d,c,.inr (by rw[Paired.length h,Paired.length h'],λ_=>Nf,D5 h h',?_,),);rw[show(db ⇑xs).all (λ_=>Nf)=Nf by simp];calc q
def yy:kN A B low (n+1)=kN A B low n++[([(low+4*(n:Int),low+4*(n:Int))],A),([(low+4*(n:Int)+2,low+4*(n:Int)+2)],B)]:=by
 unfold kN;rw[kF,Oo,Pe]
def  csK(kd n:Nat)(ps:Nt Int):Nt (Nt Int×Nat):=if kd=1 then[(gD n,n)] else[(gD n,n),(ps,if kd=5 then 2*(⇑ps / 2)else ⇑ps-1)]
def jA:⇑(gD n)=n+1:=by unfold gD;rw[af,jG]
def xv(h:i<n+1):(gD n).getD i 0=(i:Int):=by
 unfold gD;rw[en,fi,Om h];rfl
def AH(h:1<=n):yu (gD n,n) (0,(n:Int)-1):=by
 refine(?_,by rw[jA];lia,by rw[xv ∅];rfl,.inl (by rw[jA];rfl,?_,),)
 .show(gD n).Pairwise (· < ·);unfold gD;rw[sr];exact OT (λ{a b} h=>∅) nS
 .rw[jA,xv ∅];rfl
def xw(k:1<=n)(i:2<=⇑ps)(h:ps.Pairwise (· < ·)):qB (csK kd n ps) ((dmF kd n c (ps.getD 0 0)<|ps.getD (⇑ps-1) 0).map Dm.b):=by
 let a:=AH k;unfold csK dmF;by_cases f:kd=1
 .rw[Nk f,Nk f];refine(U,λj l b d e=>?_,)
  match j,d,e with
  |0,d,e =>
   cases d;cases e;rw[show Dm.b (.inr<|wqz n c)=(0,(n:Int)-1) by show(0,hiW _)=_;rw[xh]];exact a
  |j+1,d,e=>cases d
 .rw[Nj f,Nj f];refine(U,λj l b d e=>?_,)
  match j,d,e with
  |0,d,e =>
   cases d;cases e;rw[CM k];exact a
  |1,d,e =>
   cases d;cases e;unfold dm2;by_cases g:kd=5
   .rw[Nk g,Nk g];exact(h,i,U,.inr (U,U,),)
   .rw[Nj g,Nj g];exact(h,i,U,.inl (U,U,),)
  |j+2,d,e=>cases d
def AI:rwF fu (if kd=1 then 1 else 2) n ps=rwL fu (csK kd n ps):=by
 unfold rwF rwL csK;by_cases a:kd=1
 .rw[Nk a,Nk a];rfl
 .rw[Nj a,Nj a];rfl
def  gK(fu:Bool)(kd n:Nat)(ps:Nt Int):Nat:=if fu then prd ((csK kd n ps).map (·.2))else 1
def xx(d:n<=20)(b:⇑ps<=40):(⇑(csK kd n ps)<=4)/\∀c∈csK kd n ps,⇑c.1<=400:=by
 unfold csK;split
 .exact(by show 1<=4;decide,λc a=>by rw[eO.mp a];show⇑(gD n)<=400;rw[jA];lia,)
 .refine(by show 2<=4;decide,λc a=>?_,);rcases ax.mp a with rfl|a
  .show⇑(gD n)<=400;rw[jA];lia
  .rw[eO.mp a];show ⇑ps<=400;lia
def sV(c:⇑ps=b+1):prd ((csK kd n ps).map (·.2))=if kd=1 then n else n*(if kd=5 then b+b%2 else b):=by
 unfold csK;by_cases a:kd=1
 .rw[Nk a,Nk a];show n*1=n;lia
 .rw[Nj a,Nj a];show n*((if kd=5 then 2*(⇑ps / 2)else ⇑ps-1)*1)=_;rw[Nat.mul_one,c]
  congr 1
  split <;> lia
structure TwI(cT cN cW:Jr)(H:Hp)(t:Jr)(n c:Nat)(ps:Nt Int)(wh:Bool)(kd:Nat)(fu b:Bool):Prop where
 ex:∃wi,TbI cT cN cW H t (dmF kd n c (ps.getD 0 0) (ps.getD (⇑ps-1) 0)++[outF wh kd]) ((dmF kd n c (ps.getD 0 0)<|ps.getD (⇑ps-1) 0).map Dm.b) (Dm.b<|outF wh kd) (rwL fu<|csK kd n ps) wi
 big:b=Nf↔300<gK fu kd n ps
def TwI.so(h:TwI e f d H t n c ps a kd fu b)(s:So H H'):TwI e f d H' t n c ps a kd fu b:=by let((i,k),g):=h;calc((i,k.so s,),g,)
def TwI.one(h:TwI k l j H t n c ps p kd fu b)(q:Tb4 K H)(x:1<=n)(d:n<=20)(w:2<=⇑ps)(a:⇑ps<=40)(r:ps.Pairwise (· < ·))(v:b=Nf->∀H',So H H'->Tb4 K H'->E (.ref m) Nd H')(u:b=Ng->R):OnE k l j m K H t E R:=by
 let((o,s),i):=h;let g:=xw (kd:=kd) (c:=c) x w r;let(y,e):=xx (kd:=kd) d a;let(A,C,L,F,D,B):=sU s g (by rw[←g.1];exact y) e;calc(A,_,_,L,_,o,_,B,q,λf=>v<|i.mpr f,λf=>u (EU.mpr λz=>by have:300<if fu=Nf then prd ((csK kd n ps).map (·.2))else 1:=i.mp z;lia),)
def TwI.two(h:TwI m o l H t n c ps v kd fu b)(h':TwI m o l H u n c ps v a j p)(w:Tb4 K H)(B:2<=n)(i:n<=20)(q:⇑ps=k+1)(O:1<=k)(r:k<=26)(F:ps.Pairwise (· < ·))(e:kd<=8/\a=0\/kd=0/\a<=8)(G:¬ (kd=0/\a=0)->∀H',So H H'->Tb4 K H'->E (.ref C) Nd H')(J:kd=0/\a=0->b=Nf\/p=Nf->∀H',So H H'->Tb4 K H'->E (.ref D) Nd H')(I:kd=0/\a=0->b=Ng->p=Ng->R):ChE m o l C D K H t u E λ_ _ _ _ _ _=>R:=by
 let((S,A),y):=h;let((N,g),f):=h';by_cases d:kd=0/\a=0
 .let(rfl,rfl):=id d;let x:=xw (kd:=0) (c:=c) (show 1<=n by lia) (show 2<=⇑ps by lia) F;let(M,s):=xx (kd:=0) (ps:=ps) i ∅;let L:prd ((csK 0 n ps).map (·.2))<=700:=by
   rw[sV q,Nj ⋯,Nj ⋯];exact uU (Nat.mul_le_mul i r) ⋯
  exact D3 A g w x (by rw[←x.1];exact M) s L (λz=>J d<|z.imp y.mpr f.mpr) (λQ P=>I d (EU.mpr λz=>by have:300<if fu=Nf then prd ((csK 0 n ps).map (·.2))else 1:=y.mp z;lia) (EU.mpr λz=>by have:300<if j=Nf then prd ((csK 0 n ps).map (·.2))else 1:=f.mp z;lia))
 .refine D1 A g w ?_<|G d;rcases e with⟨e,rfl⟩|⟨rfl,e⟩
  .exact CO e (λz=>d (z,U,)) B
  .exact(CO e (λz=>d (U,z,)) B).symm
def  TbK(f g e:Jr)(H:Hp)(t:Jr)(n c:Nat)(ps:Nt Int)(a:Bool)(kd:Nat)(fu:Bool)(d:Nat):Prop:=TbI f g e H t (dmF kd n c (ps.getD 0 0) (ps.getD (⇑ps-1) 0)++[outF a kd]) ((dmF kd n c (ps.getD 0 0)<|ps.getD (⇑ps-1) 0).map Dm.b) (Dm.b<|outF a kd) (rwL fu<|csK kd n ps) d
def TbK.so(h:TbK e f d H t n c ps b kd fu a)(s:So H H'):TbK e f d H' t n c ps b kd fu a:=TbI.so h s
def TbK.ins{b i f:Jr}{H:Hp}{t:Jr}{n c:Nat}{ps:Nt Int}{e:Bool}{kd d:Nat}{fu:Bool}(h:TbK b i f H t n c ps e kd fu d):∃a fs,H t=Nc (.ins b a fs):=by let((_,_,_,_,_,(_,a,_,_,fs,_,g,_),_),_):=h;calc(a,fs,g,)
structure LwI(cT cN cW:Jr)(K:am)(H0 H:Hp)(n c:Nat)(ps:Nt Int)(wh:Bool)(kd:Nat)(tw bg fl t u:Jr)(kT kU:Nat)(fT fU bT bU:Bool):Prop where
 so:So H0 H
 tb:Tb4 K H
 etw:H tw=Nc (.lst [.ref t,.ref u])
 ebg:H bg=Nc (.lst [.bl bT,.bl bU])
 efl:H fl=Nc (.lst [.bl fT,.bl fU])
 wT:TwI cT cN cW H t n c ps wh kT fT bT
 wU:TwI cT cN cW H u n c ps wh kU fU bU
 hkk:kT=0/\kU=kd\/kT=kd/\kU=0
def LwI.mv{a:Bool}{kd:Nat}{b l fl t u:Jr}{e d:Nat}{g f o m:Bool}(h:LwI j k i K p H n c ps a kd b l fl t u e d g f o m)(s:So H H')(q:Tb4 K H'):LwI j k i K p H' n c ps a kd b l fl t u e d g f o m:=(h.so.trans s,q,s.lst h.etw,s.lst h.ebg,s.lst h.efl,h.wT.so s,h.wU.so s,h.hkk,)
def RL.updT{H:Hp}{k t:Jr}{vs f:Nt V}{xs:Nt V}{rws:Nt Rw}(e:H k=Nc (.lst (.ref t :: vs)))(q:∀ys,H t≠Nc (.tup ys))(s:∀ys,H t≠Nc (.lst ys))(h:RL NT H xs rws):RL NT (upd H k<|.lst f) xs rws:=by
 refine aN.mono h λr w (v,u,b,_,c,m,)=>(v,u,?_,trivial,?_,aN.mono m λl x (_,ys,a,n,)=>(trivial,ys,?_,n.mono<|ba e,),)
 .rw[aw (λz=>by rw[z,e]at b;cases b)];exact b
 .rw[aw (λz=>?_)]
  .exact c
  .rw[z,e]at c;cases c;let(o,y,d,_,_,ys,a,_):=m.get (j:=0) U;cases d;exact s _ a
 .rw[aw (λz=>?_)]
  .exact a
  .rw[z,e]at a;cases a;let(p,_,o,d,g):=c9 n (i:=0) U;cases d;calc q _ g
def TbI.updT{s v q:Jr}{H:Hp}{c t u dx:Jr}{fs:Nt (Str×V)}{vs i:Nt V}{ds:Nt Dm}{bs:Prs}{o:Int×Int}{rws:Nt Rw}{J:Nat}(hn:s≠v)(Z:s≠q)(e:H c=Nc (.lst (.ref t :: vs)))(w:H t=Nc (.ins s dx fs))(h:TbI s v q H u ds bs o rws J):TbI s v q (upd H c<|.lst i) u ds bs o rws J:=by
 let((T,W,Q,x,dv,F,a,B,D,E),hl):=h;let(K,I,L,N,G,P,g1,f1,f2,f3,f4,f5,f6,m,n,l,M,S):=F;let ins:∀{b C d:Jr}{f:Nt (Str×V)},H b=Nc (.ins C d f)->upd H c (.lst i) b=Nc (.ins C d f):=λy=>by
  rw[aw (λz=>by rw[z,e]at y;cases y)];exact y
 let n1:L≠c:=λz=>by
  rw[z,e]at m;let:=HO.lst.inj<|bn m;cases x with
  |nil=>cases this
  |cons z x=>cases (ln this).1
 let Y:N≠c:=λz=>by
  rw[z,e]at n;cases n;let(R,a0,A,_,C,hC,d,f,g,_):=a.doms.get (j:=0) U;cases A;rw[w]at g;cases g;rcases hC with z|z
  .exact hn z
  .exact Z z
 let X:K≠c:=λz=>by
  rw[z,e]at l;cases l;let(R,a0,A,_,ce,cs,g,_):=M.get (j:=0) U;cases A;rw[w]at g;cases g
 let dom:∀{r:Jr}{p:Int×Int},Dom v q H r p->Dom v q (upd H c<|.lst i) r p:=λ(C,hC,d,f,g,k,)=>(C,hC,d,f,ins g,k,)
 calc((T,W,Q,x,dv,(K,I,L,N,G,P,ins g1,f1,f2,f3,f4,f5,f6,by rw[aw n1];exact m,by rw[aw Y];exact n,by rw[aw X];exact l,RL.updT e (λO z=>by rw[w]at z;cases z) (λO z=>by rw[w]at z;cases z) M,S,),(a.words,a.once,a.one,a.four,a.way,(λz=>let ⟨d,f,k⟩:=a.sum z;(d,f,ins k,)),aN.mono a.doms λ_ _ p=>dom p,dom a.out,a.len,a.rows,a.few,),B,D,aN.mono E λ_ _ p=>p.updL e,),hl,)
def FH(x:Int)(m:Nat)(h:0<m):∃k:Nat,x%(m:Int)=(k:Int)/\k<m:=((x%(m:Int)).toNat,by have:=Gm x (show(m:Int)≠0 by lia);lia,by have:=Gm x (show(m:Int)≠0 by lia);let:=Gv x (show(0:Int)<(m:Int) by lia);lia,)
def md3(x:Int):x%3=0\/x%3=1\/x%3=2:=∅
def D6(x:Int):∃n:Nat,12+x%9=(n:Int)/\12<=n/\n<=20:=by
 let(k,e,h):=FH x 9 ⋯;calc(12+k,by rw[show x%9=(k:Int)from e];lia,∅,∅,)
def BZ{n:Nat}(e:12<=n)(x:Int):∃c:Nat,(if 300 / (n:Int)+x%3-1>14 then 300 / (n:Int)+x%3-1 else 14)=(c:Int)/\14<=c/\c<=26:=by
 let a:300 / (n:Int)<=25:=Int.ediv_le_of_le_mul ∅ ∅;let b:=Gv x (show(0:Int)<3 by decide);generalize 300 / (n:Int)=d at a;generalize x%3=y at b;split
 .exact((d+y-1).toNat,∅,∅,∅,)
 .exact(14,U,⋯,⋯,)
def AJ{w:Int}(h:w=0\/w=1\/w=2):¬ (w=3\/w=4\/w=5):=∅
def FI{k:Nat}(h:k<3):(3+(k:Int)=3\/3+(k:Int)=4\/3+(k:Int)=5):=∅
def kk8(h:kd<=8)(k:b=0/\a=kd\/b=kd/\a=0):b<=8/\a=0\/b=0/\a<=8:=by
 rcases k with⟨rfl,rfl⟩|⟨rfl,rfl⟩
 .exact .inr (U,h,)
 .exact .inl (h,U,)
def kk0(k:b=0/\a=kd\/b=kd/\a=0):(b=0/\a=0)↔¬ 0<kd:=by
 rcases k with⟨rfl,rfl⟩|⟨rfl,rfl⟩
 .exact(λh=>by rw[h.2];decide,λh=>(U,N7 h,),)
 .exact(λh=>by rw[h.1];decide,λh=>(N7 h,U,),)
section
end
open Lean in
set_option hygiene false in
local macro_rules(kind:=Lean.Parser.Command.declaration)|s=>do
 let d:=s[1]
 if d.getKind==``Lean.Parser.Command.inductive&&d[2][0].getNumArgs==0&&d[2][1].getNumArgs==0 then
  let t←`(inductive A(K:am)(Y:AD)(vs:Nt V)(H:Hp)(Q:VK)(e_:XK):Prop)
  return s.setArg 1 (d.setArg 2 t.raw[1][2])
 Macro.throwUnsupported
inductive iY
 |mk (z g:Str)(_:vs=[.str z,.str g])(_:Q (.bl<|tO z g) H)
inductive gQ
 |mk (i:Int)(_:vs=[.int i])(_:Q (.bl Nf) H)
inductive pD
 |mk (a b:Jr)(d e:Dm)(r:Bool)(_:vs=[.ref a,.ref b])(_:DmX Y.q Y.r H a d)(_:DmX Y.q Y.r H b e)(_:(r=Nf↔d=e))(_:Q (.bl r) H)
inductive pE
 |mk (a:Jr)(xs:Nt V)(ps:Nt (Int×Int))(n:Int)(_:vs=[.ref a,.int n])(_:SqL K H a xs)(_:PL H xs ps)(_:Q (.bl<|inP ps n) H)
inductive pF
 |mk (a:Jr)(xs:Nt V)(R:Nt (Int×Int))(lo hi:Int)(_:vs=[.ref a,.int lo,.int hi])(_:SqL K H a xs)(_:PL H xs R)(_:⇑xs<=499)(_:∀(r:Jr)(H':Hp)(es:Nt Int),au H H'->H r=Nd->H' r=Nc (.lst<|es.map pi)->es=(ends R).filter (λt=>decide (lo<t) && decide (t<=hi))->Q (.ref r) H')
inductive iZ
 |mk (a:Jr)(ms L:Nt Int)(lo hi:Int)(_:vs=[.int lo,.int hi,.ref a])(_:SqL K H a (ms.map pi))(_:⇑ms<=400)(_:L.length<=400)(_:(∀m∈ms,lo<m->m<=hi->m∈L))(_:∀(r:Jr)(H':Hp)(cs:Nt Int)(ts:Nt V),au H H'->H r=Nd->H' r=Nc (.lst ts)->PL H' ts (bX lo hi cs)->cs.Pairwise (· < ·)->(∀c,c∈cs↔(c∈ms/\lo<c/\c<=hi))->⇑cs<=400->Q (.ref r) H')
inductive iA
 |mk (L:Type)(_:DecidableEq L)(A:Lfp K L)(n:Nat)(a:Jr)(xs:Nt V)(ts:Nt (T3a<|Fm L n))(_:vs=[.ref a])(_:n<=6)(_:H a=Nc (.lst xs))(_:FmL (FmV A H n) H ts xs)(_:⇑ts<=900)(_:∀(r:Jr)(H':Hp),au H H'->FmV A H' (n+1) (fB ts) (.ref r)->Q (.ref r) H')
inductive jB
 |mk (a:Jr)(as:Nt Jr)(xss:Nt (Nt Int))(L:Nt Int)(_:vs=[.ref a])(_:H a=Nc (.lst<|as.map Qf))(_:MLs H as xss)(_:⇑xss.flatten<=1000)(_:L.length<=400)(_:(∀x∈xss.flatten,x∈L))(_:∀(l:Jr)(cs:Nt Int)(H':Hp),au H H'->H l=Nd->H' l=Nc (.lst<|cs.map pi)->cs.Pairwise (· < ·)->(∀x,x∈cs↔x∈xss.flatten)->Q (.ref l) H')
inductive j0
 |mk (b:Jr)(B:Nt (Int×Int))(_:vs=[.ref b])(_:BxA H b B)(_:B.length<=6)(_:∀(l:Jr)(H':Hp),au H H'->H l=Nd->H' l=Nc (.lst ((B.map (·.1)).map pi))->Q (.ref l) H')
inductive eY
 |mk (p r:Jr)(xs ys:Nt V)(_:vs=[.ref p,.ref r])(_:SqL K H p xs)(_:SqL K H r ys)(_:1<=⇑xs)(_:⇑xs<=4)(_:⇑ys<=200)(_:Q .non H)
inductive kP
 |mk (cl:Jr)(xs:Nt V)(w:Rw)(_:vs=[.ref cl,.int w.2])(_:H cl=Nc (.lst xs))(_:CL NT H xs w.1)(_:⇑w.1<=100)(_:∀(r:Jr)(H':Hp),au H H'->H r=Nd->lZ (λa=>H a=Nd) H' r w->Q (.ref r) H')
inductive fE
 |mk (t:Jr)(dv:Nt V)(bs:Prs)(rws:Nt Rw)(_:vs=[.ref t])(_:TD Y.s Y.q Y.r H t dv bs rws)(_:⇑bs<=100)(_:∀(l:Jr)(ys:Nt V)(H':Hp),au H H'->H l=Nd->H' l=Nc (.lst ys)->PL H' ys bs->Q (.ref l) H')
inductive eK
 |mk (a b:Jr)(x y:SI)(_:vs=[.ref a,.ref b])(_:Vd K H a x)(_:Vd K H b y)(_:∀(v:V)(H':Hp),au H H'->RPd K H' (dpr x y) v->Q v H')
inductive gR
 |mk (a:Jr)(ns:Nt Int)(k:Int)(_:vs=[.ref a,.int k])(_:SqL K H a (ns.map pi))(_:0<=k)(_:Q (.int<|eJ ns k) H)
inductive i0
 |mk (n c:Nat)(_:vs=[.int (n:Int),.int (c:Int)])(_:n<=24)(_:c<=24)(_:∀(l:Jr)(H':Hp),au H H'->H l=Nd->H' l=Nc (.lst<|(wqz n c).map Qe)->Q (.ref l) H')
inductive i4
 |mk (a:Jr)(ps:Nt Int)(_:vs=[.ref a])(_:SqL K H a (ps.map pi))(_:1<=⇑ps)(_:⇑ps<=40)(_:∀(l:Jr)(xs:Nt V)(H':Hp),au H H'->H l=Nd->H' l=Nc (.lst xs)->PL H' xs (evS ps)->Q (.ref l) H')
inductive gZ
 |mk (c:Int)(n:Nat)(_:vs=[.int c,.int (n:Int)])(_:n<=40)(_:∀(l:Jr)(ps:Nt Int)(H':Hp),au H H'->H' l=Nc (.lst<|ps.map pi)->⇑ps=n+1->ps.Pairwise (· < ·)->Q (.ref l) H')
inductive cC
 |mk (x dx:Jr)(lo hi:Int)(_:vs=[.ref x,.int lo,.int hi])(_:H x=Nc (.ins Y.r dx []))(_:Q .non (mkd Y.r H x dx lo hi))
inductive b7
 |mk (x dx:Jr)(lo hi:Int)(_:vs=[.ref x,.int lo,.int hi])(_:H x=Nc (.ins Y.q dx []))(_:Q .non (mkd Y.q H x dx lo hi))
inductive cR
 |mk (x dx:Jr)(z:Str)(_:vs=[.ref x,.str z])(_:H x=Nc (.ins Y.j dx []))(_:Q .non (upd H x<|.ins Y.j dx [("called",.str z)]))
inductive dc
 |mk (x dx:Jr)(z:Str)(_:vs=[.ref x,.str z])(_:H x=Nc (.ins Y.k dx []))(_:Q .non (upd H x<|.ins Y.k dx [("called",.str z)]))
inductive de
 |mk (x dx:Jr)(z:Str)(_:vs=[.ref x,.str z])(_:H x=Nc (.ins Y.l dx []))(_:Q .non (upd H x<|.ins Y.l dx [("called",.str z)]))
inductive dF
 |mk (x dx:Jr)(z:Str)(_:vs=[.ref x,.str z])(_:H x=Nc (.ins Y.m dx []))(_:Q .non (upd H x<|.ins Y.m dx [("called",.str z)]))
inductive df
 |mk (x dx:Jr)(z:Str)(_:vs=[.ref x,.str z])(_:H x=Nc (.ins Y.n dx []))(_:Q .non (upd H x<|.ins Y.n dx [("called",.str z)]))
inductive dG
 |mk (x dx:Jr)(z:Str)(_:vs=[.ref x,.str z])(_:H x=Nc (.ins Y.o dx []))(_:Q .non (upd H x<|.ins Y.o dx [("called",.str z)]))
def  J1(K:am)(Y:AD):Sp:=yn K Y.j Y.q Y.r 0
def  J9(K:am)(Y:AD):Sp:=yn K Y.k Y.q Y.r 1
def  J5(K:am)(Y:AD):Sp:=yn K Y.l Y.q Y.r 2
def  J7(K:am)(Y:AD):Sp:=yn K Y.m Y.q Y.r 3
def  J3(K:am)(Y:AD):Sp:=yn K Y.n Y.q Y.r 4
def  J11(K:am)(Y:AD):Sp:=yn K Y.o Y.q Y.r 5
inductive i5
 |mk (z:Str)(_:vs=[.str z])(_:⇑z<=1000)(_:Q (.bl<|isw z) H)
inductive eL
 |mk (a b:Jr)(ys:Nt V)(ps:Nt (Int×Int))(as:Nt Jr)(mss:Nt (Nt Int))(_:vs=[.ref a,.ref b])(_:H a=Nc (.lst ys))(_:PL H ys ps)(_:H b=Nc (.lst<|as.map Qf))(_:MLs H as mss)(_:MOK ps mss)(_:∀(l:Jr)(xs:Nt V)(H':Hp)(css:Nt (Nt Int)),au H H'->H' l=Nc (.lst xs)->⇑css=⇑ps->(∀(j:Nat)(p:Int×Int)(ms cs:Nt Int),ps[j]?=Nc p->mss[j]?=Nc ms->css[j]?=Nc cs->cs.Pairwise (· < ·)/\(∀c,c∈cs↔(c∈ms/\p.1<c/\c<=p.2))/\⇑cs<=400)->CoL H' xs (im (λp cs=>bX p.1 p.2 cs) ps css)->Q (.ref l) H')
inductive sW
 |mk (t rl c dx:Jr)(fs:Nt (Str×V))(xs:Nt V)(rws:Nt Rw)(k:Nat)(w:Rw)(cs:Nt Int)(_:vs=[.ref t,.int k,.ref c])(_:H t=Nc (.ins Y.s dx fs))(_:fs.lookup s!"rows"=↑rl) (_:H rl=Nc (.lst xs))(_:RL NT H xs rws)(_:rws[k]?=Nc w)(_:SqL K H c (cs.map pi))(_:⇑w.1=⇑cs)(_:∀H',au H H'->Q (.bl<|kM w.1 cs) H')
inductive fF
 |mk (t:Jr)(c:Nat)(dv:Nt V)(bs:Prs)(rws:Nt Rw)(b:Int×Int)(L:Nt Int)(_:vs=[.ref t,.int (c:Int)])(_:TD Y.s Y.q Y.r H t dv bs rws)(_:bs[c]?=Nc b)(_:⇑rws<=200)(_:(∀w∈rws,c<⇑w.1))(_:spn rws c<=499)(_:L.length<=400)(_:(∀x,MkC rws c b x->x∈L))(_:∀(l:Jr)(cs:Nt Int)(H':Hp),au H H'->H l=Nd->H' l=Nc (.lst<|cs.map pi)->cs.Pairwise (· < ·)->(∀x,x∈cs↔MkC rws c b x)->Q (.ref l) H')
inductive cD(K:am)(Y:AD)(vs:Nt V)(H:Hp)(Q:VK)(E:XK):Prop
 |mk (la lb:Jr)(xs ys:Nt V)(ds es:Nt Dm)(_:vs=[.ref la,.ref lb])(_:H la=Nc (.lst xs))(_:H lb=Nc (.lst ys))(_:aN xs ds (DmX Y.q Y.r H))(_:aN ys es (DmX Y.q Y.r H))(_:(ds≠es->∀H',au H H'->E (.ref Y.c) Nd H'))(_:(ds=es->∀H',au H H'->Q .non H'))
inductive bj
 |mk (x dx:Jr)(lo hi:Int)(_:vs=[.ref x,.int lo,.int hi])(_:H x=Nc (.ins Y.q dx []))(_:lo<=hi)(_:Q .non (mkd Y.q H x dx lo hi))
def  J0(K:am)(Y:AD):Sp:=yk Y.j s!"first"
def  J8(K:am)(Y:AD):Sp:=yk Y.k s!"only"
def  J4(K:am)(Y:AD):Sp:=yk Y.l s!"like"
def  J6(K:am)(Y:AD):Sp:=yk Y.m s!"low"
def  J2(K:am)(Y:AD):Sp:=yk Y.n s!"high"
def  J10(K:am)(Y:AD):Sp:=yk Y.o s!"sum"
inductive b8
 |mk (a:Jr)(b:Int×Int)(i:Int)(_:vs=[.ref a,.int i])(_:DJ Y.q H a b.1 b.2)(_:b.1<=i)(_:i<=b.2)(_:Q (.bl Nf) H)
inductive cE
 |mk (a:Jr)(b:Int×Int)(i:Int)(_:vs=[.ref a,.int i])(_:DJ Y.r H a b.1 b.2)(_:b.1<=i)(_:i<=b.2)(_:Q (.bl Nf) H)
def  J12(K:am)(Y:AD):Sp:=l0 K Y.j Y.q Y.r 0
def  J16(K:am)(Y:AD):Sp:=l0 K Y.k Y.q Y.r 1
def  J14(K:am)(Y:AD):Sp:=l0 K Y.l Y.q Y.r 2
def  J15(K:am)(Y:AD):Sp:=l0 K Y.m Y.q Y.r 3
def  J13(K:am)(Y:AD):Sp:=l0 K Y.n Y.q Y.r 4
def  J17(K:am)(Y:AD):Sp:=l0 K Y.o Y.q Y.r 5
inductive pG
 |mk (a b:Jr)(ys:Nt V)(ps:Nt (Int×Int))(as:Nt Jr)(mss:Nt (Nt Int))(_:vs=[.ref a,.ref b])(_:H a=Nc (.lst ys))(_:PL H ys ps)(_:H b=Nc (.lst<|as.map Qf))(_:MLs H as mss)(_:MOK ps mss)(_:∀H':Hp,au H H'->Q (.int ((gr ps mss ⇑ps:Nat):Int)) H')
inductive fG
 |mk (p:Jr)(zs:Nt Str)(_:vs=[.ref p])(_:SqL K H p (zs.map Qe))(_:(∀z∈zs,isw z=Nf))(_:zs.Nodup)(_:⇑zs<=100)(_:∀H',au H H'->Q .non H')
inductive hV
 |mk (dl ou cl:Jr)(dv xs:Nt V)(bs:Prs)(o:Int×Int)(w:Rw)(_:vs=[.ref dl,.ref ou,.ref cl,.int w.2])(_:SqL K H dl dv)(_:aN dv bs (Dom Y.q Y.r H))(_:Dom Y.q Y.r H ou o)(_:H cl=Nc (.lst xs))(_:CL NT H xs w.1)(_:uo bs o w)(_:∀H',au H H'->Q .non H')
inductive ma
 |mk (t c:Jr)(rws:Nt Rw)(i:Nat)(o:Int×Int)(cs:Nt Int)(_:vs=[.ref t,.ref c])(_:Tbl Y.s Y.q Y.r H t rws i o)(_:SqL K H c (cs.map pi))(_:(∀w∈rws,⇑w.1=⇑cs))(_:∀H',au H H'->Q (.int ((msk (ka rws cs) ⇑rws:Nat):Int)) H')
inductive gi
 |mk (t:Jr)(dv:Nt V)(bs:Prs)(rws:Nt Rw)(L:Nat->Nt Int)(_:vs=[.ref t])(_:TD Y.s Y.q Y.r H t dv bs rws)(_:⇑bs<=100)(_:⇑rws<=200)(_:(∀w∈rws,⇑w.1=⇑bs))(_:(∀c,spn rws c<=499))(_:(∀(c:Nat)(b:Int×Int),bs[c]?=Nc b->⇑(L c)<=400/\∀x,MkC rws c b x->x∈L c))(_:∀(l:Jr)(as:Nt Jr)(mss:Nt (Nt Int))(H':Hp),au H H'->H l=Nd->H' l=Nc (.lst<|as.map Qf)->MLs H' as mss->⇑mss=⇑bs->(∀(c:Nat)(b:Int×Int)(ms:Nt Int),bs[c]?=Nc b->mss[c]?=Nc ms->ms.Pairwise (· < ·)/\∀x,x∈ms↔MkC rws c b x)->Q (.ref l) H')
inductive eZ(K:am)(Y:AD)(vs:Nt V)(H:Hp)(Q:VK)(E:XK):Prop
 |mk (t u:Jr)(dv ev:Nt V)(ou pu:Jr)(ds es:Nt Dm)(_:vs=[.ref t,.ref u])(_:TDo Y.s H t dv ou)(_:TDo Y.s H u ev pu)(_:aN (dv++[.ref ou]) ds (DmX Y.q Y.r H))(_:aN (ev++[.ref pu]) es (DmX Y.q Y.r H))(_:⇑ds<=10)(_:⇑es<=10)(_:(ds≠es->∀H',au H H'->E (.ref Y.c) Nd H'))(_:(ds=es->∀H',au H H'->Q .non H'))
inductive bR
 |mk (x dx p:Jr)(zs:Nt Str)(_:vs=[.ref x,.ref p])(_:H x=Nc (.ins Y.r dx []))(_:H p=Nc (.lst<|zs.map Qe))(_:Good zs)(_:∀(H':Hp)(l:Jr),(∀b o,b≠x->H b=Nc o->H' b=Nc o)->H' x=Nc (.ins Y.r dx [("low",.int 0),("high",.int<|hiW zs),("words",.ref l)])->H' l=Nc (.lst<|zs.map Qe)->Q .non H')
inductive j4
 |mk (z:Str)(_:vs=[.str z])(_:z∈six)(_:(∀i:Nat,six[i]?=Nc z->∀(x C:Jr)(H':Hp),au H H'->(cl6 Y.j Y.k Y.l Y.m Y.n Y.o)[i]?=Nc C->WyN C H' x z->Q (.ref x) H'))
inductive ib
 |mk (z:Str)(ou:Jr)(_:vs=[.str z,.ref ou])(_:z∈six)(_:(z=s!"sum" -> ∃dx fs,H ou=Nc (.ins Y.q dx fs))) (_:∀H',au H H'->Q .non H')
inductive cQ
 |mk (t:Jr)(rws:Nt Rw)(i:Nat)(o:Int×Int)(m:Int)(_:vs=[.ref t,.int m])(_:Tbl Y.s Y.q Y.r H t rws i o)(_:∀(r:Jr)(H':Hp),au H H'->Vd K H' r (ver (wf i o.1 o.2)<|pkF rws (eF m) ⇑rws)->Q (.ref r) H')
inductive gj
 |mk (kd n c:Nat)(cl:Int)(a:Jr)(ps:Nt Int)(_:vs=[.int (kd:Int),.int (n:Int),.int cl,.ref a])(_:cl%24=(c:Int))(_:SqL K H a (ps.map pi))(_:1<=n)(_:n<=23)(_:2<=⇑ps)(_:ps.Pairwise (· < ·))(_:∀(l:Jr)(dv:Nt V)(H':Hp),au H H'->H' l=Nc (.lst dv)->aN dv (dmF kd n c (ps.getD 0 0)<|ps.getD (⇑ps-1) 0) (DmX Y.q Y.r H')->Q (.ref l) H')
inductive gk
 |mk (wh:Bool)(kd:Nat)(_:vs=[.bl wh,.int (kd:Int)])(_:∀(x:Jr)(H':Hp),au H H'->DmX Y.q Y.r H' x (outF wh kd)->Q (.ref x) H')
inductive jC
 |mk (t tl bx r2:Jr)(k:Nat)(m:Nat)(rws:Nt Rw)(i:Nat)(o:Int×Int)(_:vs=[.ref t,.ref tl,.int (k:Int)])(_:Tbl Y.s Y.q Y.r H t rws i o)(_:SqT K H tl [.ref bx,.int (m:Int),.ref r2])(_:SqT K H r2 (tp<|ver (wf i o.1 o.2)<|pkF rws (eF (m:Int)) ⇑rws))(_:k<200)(_:∀H',au H H'->Q (.bl<|m.testBit k && decide (ver (wf i o.1 o.2) (pkF rws (eF ((m-2^k:Nat):Int)) ⇑rws)≠ver (wf i o.1 o.2) (pkF rws (eF (m:Int)) ⇑rws))) H')
inductive bu
 |mk (x dx na dl ou rl:Jr)(nm wy:Str)(zs:Nt Str)(dv rx:Nt V)(bs:Prs)(o:Int×Int)(rws:Nt Rw)(_:vs=[.ref x,.str nm,.ref na,.ref dl,.ref ou,.str wy,.ref rl])(_:H x=Nc (.ins Y.s dx []))(_:H na=Nc (.lst<|zs.map Qe))(_:(∀z∈nm :: zs,isw z=Nf))(_:(nm :: zs).Nodup)(_:1<=⇑zs)(_:⇑zs<=4)(_:wy∈six)(_:(wy=s!"sum" -> ∃dx fs,H ou=Nc (.ins Y.q dx fs))) (_:H dl=Nc (.lst dv))(_:aN dv bs (Dom Y.q Y.r H))(_:Dom Y.q Y.r H ou o)(_:H rl=Nc (.lst rx))(_:RL NT H rx rws)(_:⇑rx<=200)(_:⇑bs<=4)(_:(∀w∈rws,uo bs o w))(_:∀(H':Hp)(fs:Nt (Str×V))(rl':Jr)(xs':Nt V),(∀b o,b≠x->H b=Nc o->H' b=Nc o)->H' x=Nc (.ins Y.s dx fs)->fs.lookup s!"rows"=↑rl'->fs.lookup s!"way"=Nc (.str wy)->fs.lookup s!"outcome"=↑ou->fs.lookup s!"name"=Nc (.str nm)->(∃na' dl':Jr,fs.lookup s!"names"=↑na'/\fs.lookup s!"domains"=↑dl'/\H' na'=Nc (.lst<|zs.map Qe)/\H' dl'=Nc (.lst dv))->H' rl'=Nc (.lst xs')->RL NT H' xs' rws->Q .non H')
inductive iB(K:am)(Y:AD)(n:Nat)(vs:Nt V)(H:Hp)(Q:VK)(e_:XK):Prop
 |mk (L:Type)(_:DecidableEq L)(A:Lfp K L)(d:Nat)(f:Fm L d)(v:V)(_:vs=[v,.int (d:Int)])(_:FmV A H d f v)(_:d+1<=n)(_:⇑(bxs d f)<=2000)(_:(∀q∈bxs d f,⇑q.1<=6))(_:∀(l:Jr)(xs:Nt V)(H':Hp),au H H'->H l=Nd->H' l=Nc (.lst xs)->BxG A H' xs (bxs d f)->Q (.ref l) H')
def AK(h:iB K Y 0 vs H Q E):False:=by
 let(j,b,c,d,i,v,rfl,f,e,a,g,q):=h;lia
inductive dO
 |mk (t tl:Jr)(k:Nat)(xs:Nt V)(BX:Nt (Prs×Int))(rws:Nt Rw)(i:Nat)(o:Int×Int)(_:vs=[.ref t,.ref tl,.int (k:Int)])(_:Tbl Y.s Y.q Y.r H t rws i o)(_:H tl=Nc (.lst xs))(_:TiL K H rws i o xs BX)(_:(∀q∈BX,⇑q.1<=6))(_:k<200)(_:∀(v:V)(H':Hp),au H H'->((∃q∈BX,∃m:Nat,q.2=(m:Int)/\uA rws i o k m=Nf)/\(∃l,v=.ref l)\/(∀q∈BX,∀m:Nat,q.2=(m:Int)->uA rws i o k m=Ng)/\v=.non)->Q v H')
inductive i6
 |mk (t rl ou:Jr)(nm wy:Str)(zs:Nt Str)(dv rx:Nt V)(FJ rws:Nt Rw)(bs:Prs)(o:Int×Int)(_:vs=[.ref t,.ref rl])(_:TF Y.s H t nm wy ou zs dv FJ)(_:TOk Y.q Y.r H nm wy ou zs dv rws bs o)(_:H rl=Nc (.lst rx))(_:RL NT H rx rws)(_:∀(t':Jr)(H':Hp),au H H'->TF Y.s H' t' nm wy ou zs dv rws->Q (.ref t') H')
inductive b9
 |mk (L:Type)(_:DecidableEq L)(A:Lfp K L)(z_:L)(d:Nat)(F:Fm L d)(v:V)(_:vs=[v,.int (d:Int)])(_:(∀H,A.R H z_<|.int 0))(_:FmV A H d F v)(_:d<=6)(_:⇑(bxs d F)<=700)(_:(∀q∈bxs d F,⇑q.1<=6))(_:∀(l:Jr)(xs:Nt V)(H':Hp),au H H'->H l=Nd->H' l=Nc (.lst xs)->BxG A H' xs (cV z_<|bxs d F)->Q (.ref l) H')
inductive kQ
 |mk (nm:Str)(kd n c:Nat)(cl:Int)(sh a:Jr)(ps:Nt Int)(fu:Bool)(w:Int)(_:vs=[.str nm,.int (kd:Int),.ref sh,.bl fu,.int w])(_:(nm=s!"a" \/ nm=s!"c")) (_:SqT K H sh [.int (n:Int),.ref a,.int cl])(_:cl%24=(c:Int))(_:SqL K H a (ps.map pi))(_:1<=n)(_:n<=20)(_:2<=⇑ps)(_:⇑ps<=40)(_:ps.Pairwise (· < ·))(_:∀(t:Jr)(H':Hp)(wi:Nat),au H H'->TbI Y.s Y.q Y.r H' t (dmF kd n c (ps.getD 0 0) (ps.getD (⇑ps-1) 0)++[outF (whF cl) kd]) ((dmF kd n c (ps.getD 0 0)<|ps.getD (⇑ps-1) 0).map Dm.b) (Dm.b<|outF (whF cl) kd) (rwF fu (if kd=1 then 1 else 2) n ps) wi->Q (.ref t) H')
inductive ie
 |mk (low sh:Int)(n:Nat)(_:vs=[.int low,.int (n:Int),.int sh])(_:1<=n)(_:n<=80)(_:0<=sh)(_:sh<=2)(_:∀(t:Jr)(H':Hp),au H H'->TbI Y.s Y.q Y.r H' t [.inl (low-1,low+4*(n:Int)),.inl (0,7)] [(low-1,low+4*(n:Int))] (0,7) [([(db n).map λk:Nat=>(low+4*(k:Int)+sh,low+4*(k:Int)+sh)],3)] 0->Q (.ref t) H')
inductive gm
 |mk (t ou:Jr)(k:Nat)(rws:Nt Rw)(nm wy:Str)(zs:Nt Str)(dv:Nt V)(bs:Prs)(o:Int×Int)(_:vs=[.ref t,.int k])(_:TF Y.s H t nm wy ou zs dv rws)(_:k<⇑rws)(_:TOk Y.q Y.r H nm wy ou zs dv rws bs o)(_:∀(x:Jr)(H':Hp),au H H'->TF Y.s H' x nm wy ou zs dv (rws.take k++rws.drop (k+1))->Q (.ref x) H')
inductive gn(K:am)(Y:AD)(P:Jl)(w:Je)(mg:Str->Option I1)(base:JD)(n:Nat)(vs:Nt V)(H:Hp)(Q:VK)(e_:XK):Prop
 |mk (c b f:Jr)(xs:Nt V)(cols:Nt (List<|Int×Int))(ah:Nt Int)(m:Nat)(L:Type)(_:DecidableEq L)(A:Lfp K L)(g:Nt Int->L)(J:Qd)(_:vs=[.ref c,.ref b,.ref f])(_:⇑cols+1<=n)(_:H c=Nc (.lst xs))(_:CoL H xs cols)(_:H b=Nc (.lst<|ah.map pi))(_:(∀col∈cols,⇑col<=401))(_:⇑ah+⇑cols<=6)(_:⇑cols<=6)(_:m=⇑ah+⇑cols)(_:DM A P w K mg base f m g J)(_:J H)(_:(∀(v:V)(H':Hp),(∀d o,d≠b->H d=Nc o->H' d=Nc o)->FmV A H' ⇑cols (lay g cols ah) v->Q v H'))
def wc{K:am}{Y:AD}{P:Jl}{w:Je}{mg:Str->Option I1}(h:gn K Y P w mg base 0 vs H Q E):False:=by
 let(c,b,s,i,a,t,m,L,j,A,g,J,rfl,k,n,hC,o,f,e,d,l,p,r,q):=h;lia
inductive fb(K:am)(Y:AD)(P:Jl)(w:Je)(mg:Str->Option I1)(base:JD)(n:Nat)(vs:Nt V)(H:Hp)(Q:VK)(e_:XK):Prop
 |mk (L M:Type)(_:DecidableEq L)(_:DecidableEq M)(A:Lfp K L)(B:Lfp K M)(h:L->M)(J:Qd)(d:Nat)(F:Fm L d)(v:V)(f:Jr)(_:vs=[v,.int d,.ref f])(_:d+1<=n)(_:d<=6)(_:FmV A H d F v)(_:SmF 300 d F)(_:BB A B P w K mg base f h J)(_:J H)(_:∀(u:V)(H':Hp),au H H'->FmV B H' d (qz h d F) u->Q u H')
def yz{K:am}{Y:AD}{P:Jl}{w:Je}{mg:Str->Option I1}(h:fb K Y P w mg base 0 vs H Q E):False:=by
 let(L,M,e,c,A,B,i,J,d,m,v,l,rfl,g,b,f,a,j,k,q):=h;lia
inductive iC(K:am)(Y:AD)(P:Jl)(w:Je)(mg:Str->Option I1)(base:JD)(n:Nat)(vs:Nt V)(H:Hp)(Q:VK)(e_:XK):Prop
 |mk (L M N:Type)(_:DecidableEq L)(_:DecidableEq M)(_:DecidableEq N)(A:Lfp K L)(B:Lfp K M)(C:Lfp K N)(h:L->M->N)(J:Qd)(d:Nat)(F:Fm L d)(G:Fm M d)(v u:V)(f:Jr)(ps:Nt (Int×Int))(_:vs=[v,u,.int d,.ref f])(_:d+1<=n)(_:d<=6)(_:FmV A H d F v)(_:FmV B H d G u)(_:c0 d F ps)(_:c0 d G ps)(_:SmF 300 d F)(_:SmF 300 d G)(_:Fx A B C P w K mg base f h J)(_:J H)(_:∀(r:V)(H':Hp),au H H'->FmV C H' d (pairF h d F G) r->Q r H')
def yA{K:am}{Y:AD}{P:Jl}{w:Je}{mg:Str->Option I1}(h:iC K Y P w mg base 0 vs H Q E):False:=by
 let(L,M,N,i,g,f,A,B,C,m,J,d,s,r,v,u,p,e,rfl,l,c,j,k,b,t,a,x,n,o,q):=h;lia
inductive pH(K:am)(Y:AD)(P:Jl)(w:Je)(mg:Str->Option I1)(base:JD)(vs:Nt V)(H:Hp)(Q:VK)(E:XK):Prop
 |mk (a b f:Jr)(ys:Nt V)(ps:Nt (Int×Int))(as:Nt Jr)(mss:Nt (Nt Int))(L:Type)(_:DecidableEq L)(A:Lfp K L)(g:Nt Int->L)(J:Qd)(_:vs=[.ref a,.ref b,.ref f])(_:H a=Nc (.lst ys))(_:PL H ys ps)(_:H b=Nc (.lst<|as.map Qf))(_:MLs H as mss)(_:MOK ps mss)(_:DM A P w K mg base f ⇑ps g J)(_:J H)(_:(300<gr ps mss ⇑ps->∀H',au H H'->E (.ref Y.b) Nd H'))(_:(gr ps mss ⇑ps<=300->∀(v:V)(H':Hp)(css:Nt (Nt Int)),au H H'->⇑css=⇑ps->(∀(j:Nat)(p:Int×Int)(ms cs:Nt Int),ps[j]?=Nc p->mss[j]?=Nc ms->css[j]?=Nc cs->cs.Pairwise (· < ·)/\(∀c,c∈cs↔(c∈ms/\p.1<c/\c<=p.2))/\⇑cs<=400)->FmV A H' ⇑(im (λp cs=>bX p.1 p.2 cs) ps css) (lay g (im (λp cs=>bX p.1 p.2 cs) ps css) []) v->Q v H'))
inductive fc
 |mk (v u:V)(d:Nat)(F G:Fm SI d)(ps:Nt (Int×Int))(_:vs=[v,u,.int (d:Int)])(_:d<=4)(_:FmV (K:=K) LVd H d F v)(_:FmV (K:=K) LVd H d G u)(_:c0 d F ps)(_:c0 d G ps)(_:SmF 300 d F)(_:SmF 300 d G)(_:⇑(bxs d<|pairF dpr d F G)<=700)(_:⇑ps<=4)(_:∀(l:Jr)(xs:Nt V)(H':Hp),au H H'->H l=Nd->H' l=Nc (.lst xs)->ChL K H' xs (cV Nd<|bxs d<|pairF dpr d F G)->Q (.ref l) H')
inductive eG(K:am)(Y:AD)(vs:Nt V)(H:Hp)(Q:VK)(E:XK):Prop
 |mk (t:Jr)(dv:Nt V)(bs:Prs)(rws:Nt Rw)(L:Nat->Nt Int)(g i:Nat)(o:Int×Int)(_:vs=[.ref t])(_:RfB Y.s Y.q Y.r H t dv bs rws L g i o)(_:(∀z,kt K "row_form" = Nc z->dA H z.2 [(iV Y82,"row_form.<locals>.<lambda>")] )) (_:(300<g->∀H',So H H'->(∀z,kt K "row_form" = Nc z->dA H' z.2 [(iV Y82,"row_form.<locals>.<lambda>")]/\∀d o,d≠z.2->H d=Nc o->H' d=Nc o)->(∃z,kt K "row_form" = Nc z)->E (.ref Y.b) Nd H')) (_:(g<=300->∀(v:V)(H':Hp)(css:Nt (Nt Int)),So H H'->(∀z,kt K "row_form" = Nc z->dA H' z.2 [(iV Y82,"row_form.<locals>.<lambda>")]/\∀d o,d≠z.2->H d=Nc o->H' d=Nc o)->(∃z,kt K "row_form" = Nc z)->⇑css=⇑bs->(∀(j:Nat)(p:Int×Int)(cs:Nt Int),bs[j]?=Nc p->css[j]?=Nc cs->cs.Pairwise (· < ·)/\∀x,x∈cs↔MkC rws j p x)->FmV (K:=K) ji H' ⇑(im (λp cs=>bX p.1 p.2 cs) bs css) (lay (λcd=>((msk (ka rws cd) ⇑rws:Nat):Int)) (im (λp cs=>bX p.1 p.2 cs) bs css) []) v->Q v H'))
inductive fH(K:am)(Y:AD)(vs:Nt V)(H:Hp)(Q:VK)(E:XK):Prop
 |mk (t:Jr)(dv:Nt V)(bs:Prs)(rws:Nt Rw)(L:Nat->Nt Int)(g i:Nat)(o:Int×Int)(_:vs=[.ref t])(_:RfB Y.s Y.q Y.r H t dv bs rws L g i o)(_:Tb4 K H)(_:(300<g->∀H',So H H'->Tb4 K H'->E (.ref Y.b) Nd H'))(_:(g<=300->∀(v:V)(F:Fm SI ⇑bs)(H':Hp),So H H'->Tb4 K H'->FmV (K:=K) LVd H' ⇑bs F v->c0 ⇑bs F bs->SmF 300 ⇑bs F->(∀cs,InB cs bs->Tel ⇑bs F cs (vdm rws i o<|mkg rws cs))->Q v H'))
inductive mY(K:am)(Y:AD)(vs:Nt V)(H:Hp)(Q:VK)(E:XK):Prop
 |mk (t:Jr)(dv:Nt V)(bs:Prs)(rws:Nt Rw)(L:Nat->Nt Int)(g i:Nat)(o:Int×Int)(_:vs=[.ref t])(_:RfB Y.s Y.q Y.r H t dv bs rws L g i o)(_:Tb4 K H)(_:(300<g->∀H',So H H'->Tb4 K H'->E (.ref Y.b) Nd H'))(_:(g<=300->∀(l:Jr)(xs:Nt V)(cols:Nt (List<|Int×Int))(H':Hp),So H H'->Tb4 K H'->H' l=Nc (.lst xs)->qA bs rws cols->BxL H' xs (bxs ⇑cols<|lay (mkg rws) cols [])->⇑(bxs ⇑cols<|lay (mkg rws) cols [])<=300->Q (.ref l) H'))
inductive pI(K:am)(Y:AD)(vs:Nt V)(H:Hp)(Q:VK)(E:XK):Prop
 |mk (t:Jr)(dv:Nt V)(bs:Prs)(rws:Nt Rw)(L:Nat->Nt Int)(g i:Nat)(o:Int×Int)(_:vs=[.ref t])(_:RfB Y.s Y.q Y.r H t dv bs rws L g i o)(_:Tb4 K H)(_:(300<g->∀H',So H H'->Tb4 K H'->E (.ref Y.b) Nd H'))(_:(g<=300->∀(v:V)(H':Hp),So H H'->Tb4 K H'->Q v H'))
inductive kR(K:am)(Y:AD)(vs:Nt V)(H:Hp)(Q:VK)(E:XK):Prop
 |mk (t:Jr)(dv:Nt V)(bs:Prs)(rws:Nt Rw)(L:Nat->Nt Int)(g i:Nat)(o:Int×Int)(_:vs=[.ref t])(_:RfB Y.s Y.q Y.r H t dv bs rws L g i o)(_:Tb4 K H)(_:(300<g->∀H',So H H'->Tb4 K H'->E (.ref Y.b) Nd H'))(_:(g<=300->∀(v:V)(H':Hp),So H H'->Tb4 K H'->Q v H'))
inductive dP(K:am)(Y:AD)(vs:Nt V)(H:Hp)(Q:VK)(E:XK):Prop
 |mk (t:Jr)(dv:Nt V)(bs:Prs)(rws:Nt Rw)(L:Nat->Nt Int)(g i:Nat)(o:Int×Int)(_:vs=[.ref t])(_:RfB Y.s Y.q Y.r H t dv bs rws L g i o)(_:Tb4 K H)(_:(300<g->∀H',So H H'->Tb4 K H'->E (.ref Y.b) Nd H'))(_:(g<=300->∀(l:Jr)(xs:Nt V)(cols:Nt (List<|Int×Int))(H':Hp),So H H'->Tb4 K H'->H' l=Nc (.lst xs)->qA bs rws cols->TiL K H' rws i o xs (bxs ⇑cols<|lay (mkg rws) cols [])->⇑xs<=300->Q (.ref l) H'))
inductive gq(K:am)(Y:AD)(vs:Nt V)(H:Hp)(Q:VK)(E:XK):Prop
 |mk (t u:Jr)(_:vs=[.ref t,.ref u])(_:ChE Y.s Y.q Y.r Y.c Y.b K H t u E λbs rws cX i i' o=>∀(l:Jr)(xs:Nt V)(PF:Fm (Option<|SI×SI) ⇑bs)(H':Hp),So H H'->(∀o,Ao o->H l≠Nc o)->Tb4 K H'->H' l=Nc (.lst xs)->Fy bs rws cX i i' o PF->ChL K H' xs (cV Nd<|bxs ⇑bs PF)->Q (.ref l) H')
inductive mZ(K:am)(Y:AD)(vs:Nt V)(H:Hp)(Q:VK)(E:XK):Prop
 |mk (t:Jr)(k:Nat)(dv:Nt V)(bs:Prs)(rws:Nt Rw)(L:Nat->Nt Int)(g i:Nat)(o:Int×Int)(_:vs=[.ref t,.int (k:Int)])(_:k<200)(_:RfB Y.s Y.q Y.r H t dv bs rws L g i o)(_:Tb4 K H)(_:(300<g->∀H',So H H'->Tb4 K H'->E (.ref Y.b) Nd H'))(_:(g<=300->∀(v:V)(H':Hp),So H H'->Tb4 K H'->Q v H'))
inductive sZ(K:am)(Y:AD)(vs:Nt V)(H:Hp)(Q:VK)(E:XK):Prop
 |mk (t:Jr)(dv:Nt V)(bs:Prs)(rws:Nt Rw)(L:Nat->Nt Int)(g i:Nat)(o:Int×Int)(_:vs=[.ref t])(_:RfB Y.s Y.q Y.r H t dv bs rws L g i o)(_:Tb4 K H)(_:(300<g->∀H',So H H'->Tb4 K H'->E (.ref Y.b) Nd H'))(_:(g<=300->∀(v:V)(H':Hp),So H H'->Tb4 K H'->Q v H'))
inductive cP(K:am)(Y:AD)(vs:Nt V)(H:Hp)(Q:VK)(E:XK):Prop
 |mk (t u:Jr)(_:vs=[.ref t,.ref u])(_:ChE Y.s Y.q Y.r Y.c Y.b K H t u E λbs rws cX i i' o=>∀(v:V)(PF:Fm (Option<|SI×SI) ⇑bs)(H':Hp),So H H'->Tb4 K H'->Fy bs rws cX i i' o PF->(cV Nd (bxs ⇑bs PF)=[]/\v=.non\/∃q rest l,cV Nd (bxs ⇑bs PF)=q :: rest/\v=.ref l/\H' l=Nc (.lst ((q.1.map (·.1)).map pi)))->Q v H')
inductive dY(K:am)(Y:AD)(vs:Nt V)(H:Hp)(Q:VK)(E:XK):Prop
 |mk (t u:Jr)(_:vs=[.ref t,.ref u])(_:ChE Y.s Y.q Y.r Y.c Y.b K H t u E λbs rws cX i i' o=>∀(v:V)(H':Hp),So H H'->Tb4 K H'->Q v H')
inductive jD
 |mk (a:Jr)(ns:Nt Int)(_:vs=[.ref a])(_:SqL K H a (ns.map pi))(_:Tb4 K H)(_:∀H',So H H'->Tb4 K H'->Q (.bl Nf) H')
inductive i7(K:am)(Y:AD)(vs:Nt V)(H:Hp)(Q:VK)(E:XK):Prop
 |mk (w:Int)(t u:Jr)(_:vs=[.int w,.ref t,.ref u])(_:Fz Y.s Y.q Y.r Y.c Y.b K H w t u E (∀(v:V)(H':Hp),So H H'->Tb4 K H'->Q v H'))
inductive jE
 |mk (w:Int)(t u:Jr)(r:Int)(_:vs=[.int w,.ref t,.ref u])(_:(r=0\/r=1\/r=2))(_:(∀(H0:Hp),au H H0->∀(E:XK)(R:Prop),(r=1->∀H',So H0 H'->Tb4 K H'->E (.ref Y.c) Nd H')->(r=2->∀H',So H0 H'->Tb4 K H'->E (.ref Y.b) Nd H')->(r=0->R)->Fz Y.s Y.q Y.r Y.c Y.b K H0 w t u E R))(_:∀H',So H H'->Tb4 K H'->Q (.int r) H')
def  J18(K:am):Sp:=λc H Q _=>∃(a:Jr)(b:Nt Int),c=[.ref a]/\SqL K H a (b.map pi)/\⇑b<=63/\(∀z,kt K "row_form" = Nc z->H z.2=Nc (.tbl #[]))/\(∀z,kt K "verdict_form" = Nc z->H z.2=Nc (.tbl #[]))/\(∀z,kt K "holes" = Nc z->H z.2=Nc (.tbl #[]))/\(∀z,kt K "clashes" = Nc z->H z.2=Nc (.tbl #[]))/\∀d,Q (.bl Nf) d
inductive iD(K:am)(Y:AD)(f c' c_0:Jr)(doc pm ctv:I1)(vs:Nt V)(H:Hp)(Q:VK)(e_:XK):Prop
 |mk (a t:Jr)(cs:Nt Int)(rws:Nt Rw)(i:Nat)(o:Int×Int)(_:vs=[.ref a])(_:fJ H f c' (lm "<lambda>" "row_form.<locals>.<lambda>" (kL Y82) (j6 Y82) (gC Y82) [("table",c_0)] pm c' ctv) "row_form.<locals>.<lambda>" [("table",c_0)] [("table",.ref t)]) (_:Tbl Y.s Y.q Y.r H t rws i o)(_:H a=Nc (.lst<|cs.map pi))(_:(∀x∈rws,⇑x.1=⇑cs))(_:∀H',au H H'->Q (.int ((msk (ka rws cs) ⇑rws:Nat):Int)) H')
inductive fw(K:am)(Y:AD)(f c' c_0:Jr)(doc pm ctv:I1)(vs:Nt V)(H:Hp)(Q:VK)(e_:XK):Prop
 |mk (m:Int)(t:Jr)(rws:Nt Rw)(i:Nat)(o:Int×Int)(_:vs=[.int m])(_:fJ H f c' (lm "<lambda>" "verdict_form.<locals>.<lambda>" (kL Y88) (j6 Y88) (gC Y88) [("table",c_0)] pm c' ctv) "verdict_form.<locals>.<lambda>" [("table",c_0)] [("table",.ref t)]) (_:Tbl Y.s Y.q Y.r H t rws i o)(_:∀(r:Jr)(H':Hp),au H H'->Vd K H' r (vdm rws i o m)->Q (.ref r) H')
inductive kD(K:am)(Y:AD)(f c'  : Jr)(doc pm ctv:I1)(vs:Nt V)(H:Hp)(Q:VK)(e_:XK):Prop
 |mk (m:Int)(_:vs=[.int m])(_:fJ H f c' (lm "<lambda>" "holes.<locals>.<lambda>" (kL Y50) (j6 Y50) (gC Y50) [] pm c' ctv) "holes.<locals>.<lambda>" [] []) (_:∀H',au H H'->Q (.int<|h01 m) H')
inductive jg(K:am)(Y:AD)(f c' c_0:Jr)(doc pm ctv:I1)(vs:Nt V)(H:Hp)(Q:VK)(e_:XK):Prop
 |mk (m:Int)(t:Jr)(rws:Nt Rw)(i:Nat)(o:Int×Int)(_:vs=[.int m])(_:fJ H f c' (lm "<lambda>" "clashes.<locals>.<lambda>" (kL Y38) (j6 Y38) (gC Y38) [("table",c_0)] pm c' ctv) "clashes.<locals>.<lambda>" [("table",c_0)] [("table",.ref t)]) (_:Tbl Y.s Y.q Y.r H t rws i o)(_:∀H',au H H'->Q (.int<|hC rws i o m) H')
section
variable{P:Jl}{w:Je}{K:am}{mg:Str->Option I1}{base:JD}{f:Jr}{fd:K9}{Y:AD}
set_option hygiene false in
local macro_rules|`(⟨⟩)=>`(Callee P w K mg base)
set_option hygiene false in
local macro_rules|`(())=>`(aL P w K mg base CX0)
def GX(F:Fun K "all_among" "all_among" Y32 f fd)(bl:Bl K mg Y):() 1 f fd ["text","signs"] (iY K Y):=by
 refine F.okA Z32 λr A m s H t Q E u h=>?_
 let(z,g,rfl,q):=h
 refine(_,(aq (cJ wn U (Dn<|pv 0) (aE (i:=2) Z32.nd U<|bv U)
  (ak (aS (aO rQ (pv 2) (pv 1) (by with_unfolding_all rfl))
  (ak<|av fQ)
  aD)))
  (ak<|av fQ)),?_,)
 dsimp only[br,Qb,Qa];show(let o:TS:=_;aX _ o _ _ _);intro _;refine(z,U,(let p:Nat->Qc:=λi a l=>(∃k:Option V,a=[Nc (.str z),Nc<|.str g,k])/\l=H/\(z.cps.toList.take i).all (sg g)=Nf;Be p ((_,U,),U,U,) (λi c a l e h=>?_) (λa l h=>?_)),)
 .let((k,rfl),j,b):=h;rw[j];calc(_,_,U,U,_,U,?_,);refine bM (λd=>?_)<|λd=>?_
  .let n:tO z g=false:=DH e<|DI d;rw[n]at q;exact q
  .exact((_,U,),U,all_succ e (Fq d) b,)
 .let((k,rfl),j,b):=h;rw[j];rw[Af b]at q;calc q
def GY(F:Fun K "is_whole" "is_whole" Y52 f fd)(bl:Bl K mg Y):() 1 f fd ["value"] (gQ K Y):=by
 refine F.okA Z54 λb A a s H c Q E d h=>?_
 let(i,rfl,q):=h;calc(_,(ak<|av<|fS (ay eB U bl.isinstance_ dL<|aa (pv 0)<|aa (rO (v:=.ty "int") U bl.int_ tz U) ag)<|fR<|CZ<|ay eB U bl.isinstance_ dL<|aa (pv 0)<|aa (rO (v:=.ty "bool") U bl.bool_ PyProof.Rows.boot_bool U) ag),?_,);calc(_,_,_,_,Nf,U,.ty _,.inl<|.int _,(by first|rfl|with_unfolding_all rfl|decide+kernel),_,U,dh (_,_,_,_,Ng,U,.ty _,.inl<|.int _,(by first|rfl|with_unfolding_all rfl|decide+kernel),_,U,q,),)
def GZ(F:Fun K "alike" "alike" Y31 f fd)(bl:Bl K mg Y):() 1 f fd ["one","other"] (pD K Y):=by
 refine F.okA Z31 λX A D s H vs Q E O h=>?_
 let(a,b,d,e,r,rfl,i,c,hi,q):=h
 refine(_,(aq (aS (PW.pt<|jm (cA<|ay eB U bl.isinstance_ dL<|aa (pv 0)<|aa (bB (v:=.ref Y.q) U bl.Numbers_ U) ag)<|gI<|cA<|ay eB U bl.isinstance_ dL<|aa (pv 1)<|aa (bB (v:=.ref Y.q) U bl.Numbers_ U) ag)
  (ak<|av<|fS (bL bK (aU (pv 0) U) (aU (pv 1) U)<|aI _)<|fR<|bL bK (aU (pv 0) U) (aU (pv 1) U)<|aI _)
  aD)
  (aq (aS (PW.pt<|jm (cA<|ay eB U bl.isinstance_ dL<|aa (pv 0)<|aa (bB (v:=.ref Y.r) U bl.Words_ U) ag)<|gI<|cA<|ay eB U bl.isinstance_ dL<|aa (pv 1)<|aa (bB (v:=.ref Y.r) U bl.Words_ U) ag)
  (ak<|av<|bL (zk O) (aU (pv 0) U) (aU (pv 1) U)<|aI _)
  aD)
  (ak<|av fQ))),?_,)
 dsimp only[br,Qb,Qa];show(let J:TS:=_;let L:TS:=aX _ J;aX _ L _ _ _);intro _ _;cases d with
 |inl p =>
  let(lo,I):=p;let(W,fs,i,x,S,_):=i;cases e with
  |inl G =>
   let(B,n):=G;let(k,j,c,u,o,_):=c;calc(_,_,_,_,Nf,U,.ref _,bl.t_Numbers.ty i,bl.f_nn,_,U,dh ?_,);calc(_,_,_,_,Nf,U,.ref _,bl.t_Numbers.ty c,bl.f_nn,_,U,dh ?_,);calc(a,_,_,_,_,U,i,bl.k_Numbers,bl.na_Numbers_low,x,b,_,_,_,_,U,c,bl.k_Numbers,bl.na_Numbers_low,u,U,_,U,?_,);by_cases g:lo=B
   .subst g;calc lP U (a,_,_,_,_,U,i,bl.k_Numbers,bl.na_Numbers_high,S,b,_,_,_,_,U,c,bl.k_Numbers,bl.na_Numbers_high,o,U,?_,);let T:decide (pi I=pi n)=r:=by
     rw[lc,Nr,hi];constructor
     .intro z;injection z with z;rw[z]
     .intro z;injection z with z;injection z with _ z;rw[z]
    let M:Q (.bl<|Nh<|pi I=pi n) H:=by rw[T];exact q
    exact M
   .refine bM (λo=>Nl (V.int.inj<|Np o) g)<|λo=>?_;let m:r=false:=by
     rw[EU];intro z;let t:=hi.mp z;injection t with t;injection t with t;exact g t
    rw[m]at q;exact q
  |inr y =>
   let(k,j,N,c,_):=c;let m:r=false:=by
    rw[EU];intro z;cases hi.mp z
   rw[m]at q;calc(_,_,_,_,Nf,U,.ref _,bl.t_Numbers.ty i,bl.f_nn,_,U,dh ?_,);calc(_,_,_,_,Ng,U,.ref _,bl.t_Words.ty c,bl.f_wn,_,U,bJ ?_,);exact(_,_,_,_,Ng,U,.ref _,bl.t_Numbers.ty i,bl.f_nw,_,U,bJ<|bJ q,)
 |inr Z =>
  let(W,fs,l,i,x,R,_):=i;calc(_,_,_,_,Ng,U,.ref _,bl.t_Words.ty i,bl.f_wn,_,U,bJ<|bJ ?_,);calc(_,_,_,_,Nf,U,.ref _,bl.t_Words.ty i,bl.f_ww,_,U,dh ?_,);cases e with
  |inl G =>
   let(k,j,c,_):=c;let m:r=false:=by
    rw[EU];intro z;cases hi.mp z
   rw[m]at q;exact(_,_,_,_,Ng,U,.ref _,bl.t_Numbers.ty c,bl.f_nw,_,U,bJ q,)
  |inr y =>
   let(k,j,N,c,u,C,_):=c;calc(_,_,_,_,Nf,U,.ref _,bl.t_Words.ty c,bl.f_ww,_,U,dh ?_,);calc(a,_,_,_,_,U,i,bl.k_Words,bl.na_Words_words,x,b,_,_,_,_,U,c,bl.k_Words,bl.na_Words_words,u,yt (P8 R) (P8 C) (hi.trans (λz=>NP z,λz=>Nq _ z,)) q,)
def G1(F:Fun K "holds" "holds" Y49 f fd)(bl:Bl K mg Y):() 1 f fd ["spans","number"] (pE K Y):=by
 refine F.okA Z50 λI A v s H J Q E L h=>?_
 let(a,xs,k,n,rfl,y,B,q):=h
 refine(_,(aq (cJ wn U (bw<|pv 0) (fA U<|aF (aE (i:=2) Z50.nd U<|bv U)<|aF (aE (i:=3) Z50.nd U<|bv U) bI)
  (ak (aS (jq gL gL (pv 2) (pv 1)<|pv 3)
  (ak<|av fQ)
  aD)))
  (ak<|av fQ)),?_,)
 dsimp only[br,Qb,Qa];show(let D:TS:=_;aX _ D _ _ _);intro _;refine(a,U,(_,y,),(let G:Nat->Qc:=λi g j=>(E2 λt o=>g=[↑a,Nc<|.int n,t,o])/\j=H/\(k.take i).any (inR n)=Ng;cO (xs:=xs) G ((_,_,U,),U,U,) (λi g j _ h=>by let(_,e,_):=h;rw[e];exact y) (λi x g j e h=>?_) (λg j h=>?_)),)
 .let((t,o,rfl),m,b):=h;rw[m];let(p,r,l,rfl,u):=B.get e;calc(r,_,U,P9 u,U,_,_,U,_,_,U,U,?_,);calc(_,_,U,U,_,U,?_,);refine bM (λc=>?_)<|λc=>?_
  .refine(_,_,U,U,_,U,?_,);refine bM (λd=>?_)<|λd=>?_
   .let C:inP k n=true:=vq l<|GK c d;rw[C]at q;exact q
   .exact((_,_,U,),U,ko l b<|Fp d,)
  .exact(_,U,bJ ((_,_,U,),U,ko l b<|Fo c,),)
 .let((t,o,rfl),m,b):=h;rw[m];let z:inP k n=false:=by
   rw[B.length,fo]at b;exact b
  rw[z]at q;calc q
def G2(F:Fun K "edges" "edges" Y44 f fd)(bl:Bl K mg Y):() 1 f fd ["spans","low","high"] (pF K Y):=by
 refine F.okA Z45 λa2 A S s H vs Q E hr h=>?_
 let(a,xs,R,lo,hi,rfl,W,C,hl,q):=h
 refine(_,(aq (aK (i:=3) Z45.nd U (bv U)<|aY ag)
  (aq (cJ wn U (bw<|pv 0) (fA U<|aF (aE (i:=4) Z45.nd U<|bv U)<|aF (aE (i:=5) Z45.nd U<|bv U) bI)
  (aq (bq<|jr PySem.F.plainAttrs_list PySem.F.slot_list_append PySem.F.type_list_append cq (pv 3)<|aa (pv 4) ag)
  (ak<|bq<|jr PySem.F.plainAttrs_list PySem.F.slot_list_append PySem.F.type_list_append cq (pv 3)<|aa (az bA (pv 5) aj) ag)))
  (ak<|av<|fj (bw<|pv 3) (dQ (N:=["turn","low","high"]) (fr:=[1,2]) (cl:=[("low",↥s+1),("high",↥s+1+1)]) U U (~~~0) (~~~0) U (~~~0) U U U (gg.mpr (U,gg.mpr (U,iF _,),)) U) U (λ_ _ _ _=>(jQ<|jq oq gL (pv 1) (pv 0)<|pv 2))<|λ_ _ _ _=>(pv 0)))),?_,)
 dsimp only[br,Qb,Qa];show(let r2:TS:=_;let r1:TS:=aX _ r2;aX _ r1 _ _ _);intro _ _;refine((by show 0<=JR;decide),λl v=>?_,);let T:au H (upd H l<|.lst []):=ai v _
 refine⟨a,U,(_,T.seq W,),cO (xs:=xs) (λi B k=>∃(L J:Option V),B=[↑a,Nc<|.int lo,Nc<|.int hi,↑l,L,J]/\au H k/\k l=Nc (.lst<|(ends<|R.take i).map pi)/\⇑(ends<|R.take i)<=2*i)
  (Nd,Nd,U,T,ae,uN _,) (λi B k _ h=>by let(_,_,_,j,_):=h;exact j.seq W) (λi x B k e h=>?_) (λB k h=>?_)⟩
 .let(L,J,rfl,j,m,z):=h;let(p,r,Z,rfl,M):=(C.mono j.tups).get e;let b:i<⇑xs:=(JP.mp e).1;calc(r,_,U,P9 M,U,_,_,U,_,_,U,U,?_,);refine(.inl (U,_,P8 m,),l,_,_,U,U,m,aC (by rw[af];lia),?_,);refine(.inl (U,_,P8 ae,),_,_,U,U,l,_,_,U,U,ae,aC (by rw[cb,af,dV];lia),?_,);rw[AV];refine(_,_,U,j.upd v,?_,?_,)
  .rw[ae,take_snoc Z,q9];simp
  .rw[take_snoc Z,q9,cb];simp;lia
 .let(L,J,rfl,j,m,z):=h;rw[C.length,fo]at m z
  refine(l,U,(_,P8 m,),il (xs:=(ends R).map pi) (λD i zs d=>au k d/\d D=Nc (.lst zs)/\zs=(((ends R).take i).filter<|λt=>decide (lo<t) && decide (t<=hi)).map pi/\⇑zs<=i)
   (λD n=>(ai n _,ae,U,ve _,)) (λD i zs d n _ h=>P8<|h.1 _ _ m) (λD i x zs d n e h=>?_) (λD zs d n h=>?_),)
  .let(g,u,o,O):=h;let(c,rfl,X):=of_map e;let b:i<⇑((ends R).map pi):=(JP.mp e).1;let a1:i<⇑(ends R):=by rw[af]at b;exact b
   let y:(Nh (lo<c) && decide (c<=hi))=Ng->eP (λD i zs d=>au k d/\d D=Nc (.lst zs)/\zs=(((ends R).take i).filter<|λt=>decide (lo<t) && decide (t<=hi)).map pi/\⇑zs<=i) D i ⇑((ends R).map pi) d:=λhf=>by
    calc eP.mk (zs:=zs) b (g,u,?_,∅,);rw[take_snoc X,n7,lY (~~~hf)];simpa using o
   calc(_,_,U,U,_,U,?_,);refine bM (λI=>?_)<|λI=>?_
   .refine(_,_,U,U,_,U,?_,);refine bM (λG=>?_) (λG=>y (by rw[EU.mpr G,FB]));let a0:=C.length;refine(dR.mk b u (aC ∅) (g.upd n,ae,?_,by rw[cb,dV];lia,));rw[take_snoc X,n7,ov (by rw[I,G];rfl),o];simp
   .exact(_,U,bJ<|y (by rw[EU.mpr I,Gc]),)
  .let(g,u,o,O):=h;rw[af,fo]at o;rw[o]at u;calc q D d _ (j.trans g) (j.free n) u U
def G3(F:Fun K "stretches" "stretches" Y84 f fd)(bl:Bl K mg Y):() 1 f fd ["low","high","marks"] (iZ K Y):=by
 refine F.okA Z87 λb4 A b1 s H vs Q E hr h=>?_
 let(a,n,L,lo,hi,rfl,hS,hl,hL,lM,q):=h
 refine(_,(aq (aK (i:=3) Z87.nd U (bv U)<|ay (ir (w:=w) U U) U bl.sorted_ Ov<|aa (bE (rB (w:=w) U U) U bl.set_ Fa<|aa (fj (bw<|pv 2) (dQ (N:=["mark","low","high"]) (fr:=[0,1]) (cl:=[("low",↥s+1),("high",↥s+1+1)]) U U (~~~0) (~~~0) U (~~~0) U U U (gg.mpr (U,gg.mpr (U,iF _,),)) U) U (λ_ _ _ _=>(jQ<|jq oq gL (pv 1) (pv 0)<|pv 2))<|λ_ _ _ _=>(pv 0)) ag) ag)
  (aq (aK (i:=4) Z87.nd U (bv U)<|az fW (aY<|aa (pv 0) ag)<|pv 3)
  (aq (aK (i:=5) Z87.nd U (bv U)<|az fW (fj (bw<|pv 3) (gM U (~~~0) (~~~0) (~~~0) U) U (λ_ _ _ _=>cG)<|λ_ _ _ _=>(az eS (pv 0) aj))<|aY<|aa (pv 1) ag)
  (ak<|av<|vN U U bl.list_ U bl.zip_<|aa (pv 4)<|aa (pv 5) ag)))),?_,)
 dsimp only[br,Qb,Qa];show(let r3:TS:=_;let r2:TS:=aX _ r3;let r1:TS:=aX _ r2;aX _ r1 _ _ _);intro _ _ _
 refine(a,U,(_,hS,),il (xs:=n.map pi) (λD i zs g=>au H g/\g D=Nc (.lst zs)/\zs=((n.take i).filter<|λt=>decide (lo<t) && decide (t<=hi)).map pi/\⇑zs<=i)
  (λD m=>(ai m _,ae,U,ve _,)) (λD i zs g m _ h=>h.1.seq hS) (λD i x zs g m e h=>?_) (λD zs g m h=>?_),)
 .let(r,B,y,O):=h;let(c,rfl,ec):=of_map e;let d:i<⇑(n.map pi):=(JP.mp e).1;let a6:i<⇑n:=by rw[af]at d;exact d
  let M:(Nh (lo<c) && decide (c<=hi))=Ng->eP (λD i zs g=>au H g/\g D=Nc (.lst zs)/\zs=((n.take i).filter<|λt=>decide (lo<t) && decide (t<=hi)).map pi/\⇑zs<=i) D i ⇑(n.map pi) g:=λhf=>by
   calc eP.mk (zs:=zs) d (r,B,?_,∅,);rw[take_snoc ec,n7,lY (~~~hf)];simpa using y
  calc(_,_,U,U,_,U,?_,);refine bM (λg1=>?_)<|λg1=>?_
  .refine(_,_,U,U,_,U,?_,);refine bM (λg2=>?_) (λg2=>M (by rw[EU.mpr g2,FB]));refine(dR.mk d B (aC ∅) (r.upd m,ae,?_,by rw[cb,dV];lia,));rw[take_snoc ec,n7,ov (by rw[g1,g2];rfl),y];simp
  .exact(_,U,bJ<|M (by rw[EU.mpr g1,Gc]),)
 .let(s2,B,y,O):=h;rw[af]at O y;rw[fo]at y;rw[y]at B;generalize R:n.filter (λt=>decide (lo<t) && decide (t<=hi))=ks at B y;let jh:∀c,c∈ks↔(c∈n/\lo<c/\c<=hi):=λc=>by rw[←R,kS];simp
  let b3:⇑ks<=⇑n:=by rw[←R];exact oD ..
  calc(D,ks,U,P8 B,∅,λl a5=>?_,);let s3:au H (upd g l<|vM w l ks):=s2.trans<|ai a5 _;calc(l,ks,L,U,ae,∅,λk hk=>let ⟨a1,a2,a3⟩:=(jh k).mp hk;lM k a1 a2 a3,λC b a9 pw mem=>?_,);let s4:=s3.trans<|ai a9<|.lst<|b.map pi;let e4:upd (upd g l<|vM w l ks) C (.lst<|b.map pi) C=Nc (.lst<|b.map pi):=ae;generalize upd (upd g l<|vM w l ks) C (.lst<|b.map pi)=H3 at s4 e4⊢;let a7:⇑b<=400:=uU (cB (pw.imp λh=>Pn h) λk hk=>let ⟨a1,a2,a3⟩:=(jh k).mp<|(mem k).mp hk;lM k a1 a2 a3) hL;refine((by show 1<=JR;decide),λt1 J=>?_,);let e5:=eI (o:=.lst [.int lo]) e4 J;let s5:=s4.trans<|ai J<|.lst [.int lo];refine(t1,C,_,_,U,U,ae,e5,vl<|aC (by rw[af];show 1+⇑b<=1000;lia),λX I=>?_,);let e6:=eI (o:=.lst<|[pi lo]++b.map pi) e5 I;let s6:=s5.trans<|ai I<|.lst<|[pi lo]++b.map pi;let e7:upd (upd H3 t1<|.lst [.int lo]) X (.lst<|[pi lo]++b.map pi) X=Nc (.lst<|[pi lo]++b.map pi):=ae;generalize upd (upd H3 t1<|.lst [.int lo]) X (.lst<|[pi lo]++b.map pi)=H4 at s6 e6 e7⊢
  refine(C,U,(_,P8 e6,),il (xs:=b.map pi) (λD i zs z=>au H4 z/\z D=Nc (.lst zs)/\zs=((b.take i).map (· - 1)).map pi/\⇑zs<=i)
   (λD m=>(ai m _,ae,U,ve _,)) (λD i zs z m _ h=>P8<|h.1 _ _ e6) (λD i x zs z m e h=>?_) (λD zs z m h=>?_),)
  .let(r,v,u,G4):=h;let(c,rfl,ec):=of_map e;let d:i<⇑(b.map pi):=(JP.mp e).1;let a6:i<⇑b:=by rw[af]at d;exact d
   refine(_,_,U,U,dR.mk d v (aC ∅) (r.upd m,ae,?_,by rw[cb,dV];lia,),);rw[take_snoc ec,eN,eN,u];rfl
  .let(a0,v,u,G4):=h;rw[af,fo]at u;rw[u]at v;refine((by show 1<=JR;decide),λt3 G=>?_,);let s7:=a0.trans<|ai G<|.lst [.int hi];refine(D,t3,_,_,U,U,eI v G,ae,vl<|aC (by rw[af,af];show ⇑b+1<=1000;lia),λW a4=>?_,);let Z:=s7.trans (ai a4 (.lst ((b.map (· - 1)).map pi++[.int hi])));let e8:upd (upd z t3<|.lst [.int hi]) W (.lst ((b.map (· - 1)).map pi++[.int hi])) W=Nc (.lst ((b.map (· - 1)).map pi++[.int hi])):=ae;generalize upd (upd z t3<|.lst [.int hi]) W (.lst ((b.map (· - 1)).map pi++[.int hi]))=H6 at Z e8⊢;let e9:=Z _ _ e7;refine(X,W,(lo :: b).map pi,(b.map (· - 1)++[hi]).map pi,U,P8 e9,by rw[eN];exact P8 e8,λD9 ts H9 S k9 a8 b0 f9=>?_,);let s9:au H H9:=(s6.trans Z).trans λc o e=>k9 c o e
   refine q D9 H9 b (ts.map Qf) s9 ((s6.trans Z).free a8) b0 (PL.of_get (by rw[S,gf];simp) λj p hj=>?_) pw (λc=>(mem c).trans<|jh c) a7;let(z1,z2):=zip_get hj;let(T,h1,_,h2):=f9 j _ _ z1 z2;calc(T,h1,h2,)
def G5(F:Fun K "closed" "closed" Y39 f fd)(bl:Bl K mg Y):() 1 f fd ["triples"] (iA K Y):=by
 refine F.okA Z40 λa7 A a5 s H vs Q E hr h=>?_
 let(L,iL,A,n,a,xs,o,rfl,hn,ha,X,hl,q):=h
 refine(_,(aq (aK (i:=1) Z40.nd U (bv U)<|aY ag)
  (aq (cJ wn U (bw<|pv 0) (fA U<|aF (aE (i:=2) Z40.nd U<|bv U)<|aF (aE (i:=3) Z40.nd U<|bv U)<|aF (aE (i:=4) Z40.nd U<|bv U) bI)
  (ak (aS (PW.pt<|jm (dH (pv 1) (by intro _;rfl)) (gI<|aO (DC hr) (aQ cj (aQ aP (pv 1) (nq jo aj)<|λ_ _=>U) aj<|λ_ _=>U) (pv 4)<|aI _))
  (ak<|jn (bh<|aa (aQ cj (aQ aP (pv 1) (nq jo aj)<|λ_ _=>U) aj<|λ_ _=>U)<|aa (pv 3)<|aa (pv 4) ag)<|kG (pv 1) (nq jo aj) set_list)
  (ak<|bq<|jr PySem.F.plainAttrs_list PySem.F.slot_list_append PySem.F.type_list_append cq (pv 1)<|aa (bh<|aa (pv 2)<|aa (pv 3)<|aa (pv 4) ag) ag))))
  (ak<|av<|bE qj U bl.tuple_ PyProof.Rows.boot_tuple<|aa (pv 1) ag))),?_,)
 dsimp only[br,Qb,Qa];show(let r2:TS:=_;let r1:TS:=aX _ r2;aX _ r1 _ _ _);intro _ _;refine((by show 0<=JR;decide),λl B=>?_,);let s0:au H (upd H l<|.lst []):=ai B _
 refine⟨a,U,(_,P8<|s0 _ _ ha,),cO (xs:=xs) (λi T g=>au H g/\∃(c:Nt V)(N M J:Option V),g l=Nc (.lst c)/\FmL (FmV A g n) g ((o.take i).foldl dr []) c/\⇑c<=i/\T=[↑a,↑l,N,M,J])
  (s0,[],Nd,Nd,Nd,ae,FmL.nil,ve _,U,) (λi T g _ h=>P8<|h.1 _ _ ha) (λi y T g e h=>?_) (λT g h=>?_)⟩
 .let(C,c,N,M,J,m,p,R,rfl):=h;let hi:i<⇑xs:=(JP.mp e).1;let(t,et):∃t,o[i]?=Nc t:=(_,JO (by rw[←X.1];exact hi),);let(r,u,ex,er,hu):=X.2 i t et;rw[e]at ex;cases ex;let a4:=C _ _ er;let x:=FmV.mono C.tups hu;let FL:(o.take<|i+1).foldl dr []=dr ((o.take i).foldl dr []) t:=by rw[take_snoc et,List.foldl_append];rfl
  rw[FL];generalize (o.take i).foldl dr []=F at p;let a6:i<900:=by have:=X.1;lia
  refine(r,_,U,P9 a4,U,_,_,U,_,_,U,_,_,U,U,?_,)
  let O:dr F t=F++[t]->∀b,g b=Nd->au H (upd (upd g b<|.tup [.int t.1,.int t.2.1,u]) l<|.lst<|c++[.ref b])/\∃(v:Nt V)(N M J:Option V),upd (upd g b<|.tup [.int t.1,.int t.2.1,u]) l (.lst<|c++[.ref b]) l=Nc (.lst v) /\
    FmL (FmV A (upd (upd g b<|.tup [.int t.1,.int t.2.1,u]) l<|.lst<|c++[.ref b]) n) (upd (upd g b<|.tup [.int t.1,.int t.2.1,u]) l<|.lst<|c++[.ref b]) (dr F t) v/\⇑v<=i+1/\[Nc (Qf a),Nc<|Qf l,Nc<|pi t.1,Nc<|pi t.2.1,Nc u]=[↑a,↑l,N,M,J]:=λI b j=>by
   let D:upd g b (.tup [.int t.1,.int t.2.1,u]) l=Nc (.lst c):=eI m j;let k:cc g (upd (upd g b<|.tup [.int t.1,.int t.2.1,u]) l<|.lst<|c++[.ref b]):=(qZ j).trans<|ba D;refine((C.trans<|ai j _).upd B,c++[.ref b],_,_,_,ae,?_,by rw[cb,dV];lia,U,);rw[I];exact(p.mono (λ_ _ q=>FmV.mono k q) k).snoc (ba D _ _ ae) (FmV.mono k x)
  calc(!c.isEmpty,.inl (c,P8 m,U,),?_,);rcases N9 F with Z|⟨F',lt,Z⟩
  .subst Z;let a0:c=[]:=wr p.1;let eE:(!c.isEmpty)=false:=by rw[a0];rfl
   rw[eE];calc bJ<|bJ ?_;refine(.inl (U,_,P8 m,),(by show 3<=JR;decide),λb j=>?_,);calc(l,c,_,U,U,eI m j,aC ∅,?_,);exact O U b j
  .rw[Oa]at Z;subst Z;let(G,W,ul,rfl,hy,S,a2):=p.init;let eE:(!(G++[Qf W]).isEmpty)=true:=by cases G <;> rfl
   rw[eE];calc dh ?_;calc(_,U,l,_,_,_,U,U,P8 m,oy _ _,W,_,_,_,U,U,P9 S,U,λa3=>FmV.eq_to ∅ a2 x ?_ a3,);calc(_,U,?_,);refine bM (λd=>?_)<|λd=>?_
   .let d':lt.2.2=t.2.2:=kq d;let I:dr (F'++[lt]) t=F'++[(lt.1,t.2.1,t.2.2)]:=by
     unfold dr;rw[Pv];simp only;rw[Nk d',List.dropLast_concat]
    refine(_,U,l,_,_,_,U,U,P8 m,oy _ _,W,_,_,_,U,U,P9 S,U,(by show 3<=JR;decide),λb j=>?_,);let D:upd g b (.tup [.int lt.1,.int t.2.1,u]) l=Nc (.lst<|G++[.ref W]):=eI m j;refine(_,U,l,_,_,_,U,U,D,Ae (by simp),?_,);rw[um];let k:cc g (upd (upd g b<|.tup [.int lt.1,.int t.2.1,u]) l<|.lst<|G++[.ref b]):=(qZ j).trans<|ba D;refine((C.trans<|ai j _).upd B,G++[.ref b],_,_,_,ae,?_,by rw[cb,dV]at R⊢;lia,U,);rw[I];exact(hy.mono (λ_ _ q=>FmV.mono k q) k).snoc (t:=(lt.1,t.2.1,t.2.2)) (ba D _ _ ae) (FmV.mono k x)
   .let d':lt.2.2≠t.2.2:=kr d;let I:dr (F'++[lt]) t=F'++[lt]++[t]:=by
     unfold dr;rw[Pv];simp only;rw[Nj d']
    refine(.inl (U,_,P8 m,),(by show 3<=JR;decide),λb j=>?_,);calc(l,_,_,U,U,eI m j,aC ∅,?_,);exact O I b j
 .let(C,c,N,M,J,m,p,R,rfl):=h;let a1:FmL (FmV A g n) g (fB o) c:=by
   let e:o.take ⇑xs=o:=by rw[X.1];exact fo
   rw[e]at p;exact p
  calc(l,c,U,.inl (P8 m,λb j=>?_,),);let st:=ai j<|.tup c;calc q b _ (C.trans st) (b,c,U,ae,a1.mono (λ_ _ z=>FmV.mono st.tups z) st.tups,)
def G6(F:Fun K "gathered" "gathered" Y47 f fd)(bl:Bl K mg Y):() 1 f fd ["lists"] (jB K Y):=by
 refine F.okA Z48 λa1 A z s H vs Q E D h=>?_
 let(a,Z,b,L,rfl,I,d,M,hL,S,q):=h
 refine(_,(aq (aK (i:=1) Z48.nd U (bv U)<|aY ag)
  (aq (cJ wn U (bw<|pv 0) (aE (i:=2) Z48.nd U<|bv U)
  (ak<|bq<|jr PySem.F.plainAttrs_list PySem.F.slot_list_extend PySem.F.type_list_extend xG (pv 1)<|aa (pv 2) ag))
  (ak<|av<|ay (ir (w:=w) U U) U bl.sorted_ Ov<|aa (bE (rB (w:=w) U U) U bl.set_ Fa<|aa (pv 1) ag) ag))),?_,)
 dsimp only[br,Qb,Qa];show(let N:TS:=_;let O:TS:=aX _ N;aX _ O _ _ _);intro _ _;refine((by show 0<=JR;decide),λnb k=>?_,);let p:au H (upd H nb<|.lst []):=ai k _;let J:upd H nb (.lst []) nb=Nc (.lst [] ):=ae;generalize upd H nb (.lst [])=H0 at p J⊢;let C:∀(A:Nt (Nt Int))(x:Nt Int),(A++[x]).flatten=A.flatten++x:=λA x=>by rw[PC];simp
 refine(a,U,(_,P8<|p _ _ I,),(let I_:Nat->Qc:=λi o j=>au H j/\j nb=Nc (.lst<|(b.take i).flatten.map pi)/\∃u:Option V,o=[↑a,↑nb,u];cO (xs:=Z.map Qf) I_ (p,J,_,U,) (λi o j _ h=>P8<|h.1 _ _ I) (λi y o j e h=>?_) (λo j h=>?_)),)
 .let(g,c,u,rfl):=h;let(r,rfl,G):=Aj e;let(xs,t):∃xs,b[i]?=Nc xs:=(_,JO (by rw[←d.1];exact(JP.mp G).1),);let(r',n,D):=d.2 i xs t;rw[G]at n;cases n;let a0:(b.take i).flatten.length+⇑xs<=1000:=by
   let W:b.flatten=(b.take<|i+1).flatten++(b.drop<|i+1).flatten:=by rw[←PC,kb]
   let T:⇑((b.take<|i+1).flatten)<=⇑b.flatten:=by rw[W,cb];lia
   rw[take_snoc t,C,cb]at T;lia
  refine(.inl (U,_,P8 c,),nb,r,_,_,U,U,c,g _ _ D,vl<|aC (by rw[af,af];lia),g.upd k,?_,_,U,);rw[ae,take_snoc t,C,eN]
 .let(g,c,u,rfl):=h;rw[af,d.1,fo]at c;calc(nb,b.flatten,U,P8 c,∅,λl v=>?_,);let B:=ai v<|vM w l b.flatten;calc(l,b.flatten,L,U,ae,∅,S,λD2 X m R mem=>?_,);calc q D2 X _ ((g.trans B).trans<|ai m _) (g.free<|B.free m) ae R mem
def G7(F:Fun K "corner" "corner" Y41 f fd)(bl:Bl K mg Y):() 1 f fd ["box"] (j0 K Y):=by
 refine F.okA Z42 λI A u s H J Q E L h=>?_
 let(b,B,rfl,(xs,y,z),M,q):=h;refine(_,(ak<|av<|dJ (vc<|pv 0) (di (N:=["low","high"]) (k:=2) U U (~~~0) (~~~0)<|~~~0) U (λ_ _ _ _=>(js (K:=K) (n:=2) U U<|aF (aE (i:=0) (show(["low","high"]:Nt Str).Nodup by decide+kernel) U (bv U) (v6 U)) (aF (aE (i:=1) (show(["low","high"]:Nt Str).Nodup by decide+kernel) U (bv U) (v6 U)) bI))) (λ_ _ _ _=>cG) (λ_ _ _ _=>(pv 0))),?_,);let o:=⇑z
 refine(b,U,(_,P9 y,),rC (xs:=xs) (λD i d c=>au H c/\c D=Nc (.lst d)/\d=((B.take i).map (·.1)).map pi)
  (λD a=>(ai a _,ae,U,)) (λD i d c a _ h=>P9<|h.1 _ _ y) (λD i x d c a e h v r=>?_) (λD d c a h=>?_),)
 .let(l,m,rfl):=h;let hi:i<⇑xs:=(JP.mp e).1;let(p,t,G,rfl,C):=z.get e;let(j,g,rfl):∃j g,v=[j,g]:=by
   match v,r with
   | [j,g],_=>exact(j,g,U,)
  calc(t,_,U,P9<|l _ _ C,U,_,_,U,_,_,U,U,([Nc (.int p.1),Nc (.int p.2)],U,U,),?_,);refine(dR.mk hi m (aC (by rw[af,af,hZ];lia)) (l.upd a,ae,?_,));rw[take_snoc G,eN,eN];rfl
 .let(l,m,rfl):=h;rw[o,fo]at m;calc q D c l a m
def G8(F:Fun K "refuse_counts" "refuse_counts" Y76 f fd)(bl:Bl K mg Y):() 1 f fd ["names","rows"] (eY K Y):=by
 refine F.okA Z78 λg A a s H j Q E l h=>?_
 let(p,r,b,i,rfl,e,d,n,m,k,q):=h
 refine(_,(aq (aS (dB<|jq gL gL aj (ay aG U bl.len_ Nb<|aa (pv 0) ag)<|kv U bl.MOST_COLUMNS_)
  (ak cI)
  aD)
  (ak (aS (aO lK (ay aG U bl.len_ Nb<|aa (pv 1) ag) (kv U bl.MOST_ROWS_)<|aI _)
  (ak cI)
  aD))),?_,)
 dsimp only[br,Qb,Qa];show(let c:TS:=_;aX _ c _ _ _);intro _;calc(p,_,U,.inl<|e,_,_,U,U,_,U,lP ∅ ?_,);calc(_,_,U,U,_,U,?_,);rw[Nm (show((⇑b:Nat):Int)<=4 by lia)];calc bJ ?_;calc(r,_,U,.inl<|d,_,_,U,U,_,U,kC ∅ q,)
def G9(F:Fun K "own_row" "own_row" Y72 f fd)(bl:Bl K mg Y):() 1 f fd ["cells","code"] (kP K Y):=by
 refine F.okA Z74 λR A y s H S Q E V h=>?_
 let(cl,xs,C,rfl,hC,t,W,q):=h;refine(_,(ak<|av<|bh<|aa (fj (bw<|pv 0) (gM U (~~~0) (~~~0) (~~~0) U) U (λ_ _ _ _=>cG)<|λ_ _ _ _=>(bE (qv (K:=K) U) U bl.list_ Ev<|aa (pv 0) ag))<|aa (pv 1) ag),?_,)
 refine(cl,U,(_,P8 hC,),il (xs:=xs) (λD i g d=>au H d/\d D=Nc (.lst g)/\CL (Fr H D) d g (C.1.take i))
  (λD m=>(ai m _,ae,aN.nil,)) (λD i g d m _ h=>P8<|h.1 _ _ hC) (λD i x g d m e h=>?_) (λD g d m h=>?_),)
 .let(k,u,p):=h;let(l,T,rfl,N,L):=aN.get t e;let(_,n,O,J):=L.same k;let hi:i<⇑xs:=(JP.mp e).1;let v:⇑g<JR:=by
   let M:=p.1;rw[hZ]at M;exact aC ∅
  calc(l,_,U,.inl<|P8 O,λo c=>?_,);let s2:=ai c<|.lst n;let B:upd d o (.lst n) o=Nc (.lst n):=ae;let j:=s2 _ _ u;generalize upd d o (.lst n)=H2 at s2 B j⊢;let I:H o=none:=k.free c;let G:o≠D:=λz=>by rw[z,u]at c;cases c
  calc dR.mk hi j v ((k.trans s2).upd m,ae,?_,);rw[take_snoc N];exact CL.updN (aN.snoc (p.same s2) ((I,G,),n,B,J.mono s2.tups,)) Fr.out j
 .let(k,u,p):=h;rw[t.1,fo]at p;calc(bZ,λr b=>q r _ (k.trans<|ai b _) (k.free b) (D,g,ae,m,ai b _ _ _ u,?_,),);calc(p.same<|ai b _).wk λa h=>h.1
def Hi(F:Fun K "table_bounds" "table_bounds" Y85 f fd)(bl:Bl K mg Y):() 1 f fd ["table"] (fE K Y):=by
 refine F.okA Z88 λa2 A I s H vs Q E hr h=>?_
 let(t,x,bs,X,rfl,(rl,dx,T,fs,xs,M,f1,R,p,o,a0,hR),hb,q):=h;calc(_,(ak<|av<|fj (bw<|aU (pv 0) U) (gM U (~~~0) (~~~0) (~~~0) U) U (λ_ _ _ _=>cG)<|λ_ _ _ _=>(bh<|aa (nW (K:=K) U (pv 0) U)<|aa (nW (K:=K) U (pv 0) U) ag)),?_,);let G:⇑x=⇑bs:=o.1;refine(t,_,_,_,_,U,M,bl.k_Table,bl.na_Table_domains,R,T,U,(_,P8 p,),(let W:Jr->Nat->Nt V->Qd:=λD i j c=>au H c/\c D=Nc (.lst j)/\PL c j (bs.take i);il (xs:=x) W (λD k=>(ai k _,ae,.nil,)) (λD i j c k _ h=>P8<|h.1 _ _ p) (λD i y j c k e h=>?_) (λD j c k h=>?_)),)
 .let(l,v,m):=h;let(a,b,rfl,S,C,hC,a1,Z,J,O,N,_):=aN.get o e;let hi:i<⇑x:=(JP.mp e).1;let u:Cls K C/\NoAttr K C s!"low"/\NoAttr K C s!"high":=by
   rcases hC with rfl|rfl
   .exact(bl.k_Numbers,bl.na_Numbers_low,bl.na_Numbers_high,)
   .exact(bl.k_Words,bl.na_Words_low,bl.na_Words_high,)
  calc(a,_,_,_,_,U,l _ _ J,u.1,u.2.1,O,a,_,_,_,_,U,l _ _ J,u.1,u.2.2,N,bZ,λg B=>?_,);let r:=ai B<|.tup [.int b.1,.int b.2];let L:upd c g (.tup [.int b.1,.int b.2]) g=Nc (.tup [.int b.1,.int b.2]):=ae;let d:=r _ _ v;let n:=m.mono r.tups;generalize upd c g (.tup [.int b.1,.int b.2])=H4 at r L d n⊢;let z:=⇑m;rw[hZ]at z;calc dR.mk hi d (aC ∅) ((l.trans r).upd k,ae,?_,);rw[take_snoc S];exact(n.mono<|ba d).snoc (ba d _ _ L)
 .let(l,v,m):=h;rw[G,fo]at m;calc q D j c l k v m
def Hj(F:Fun K "differing_pair" "differing_pair" Y43 f fd)(bl:Bl K mg Y):() 1 f fd ["old","new"] (eK K Y):=by
 refine F.okA Z44 λk A c s H l Q E j h=>?_
 let(a,b,x,y,rfl,i,e,q):=h;calc(_,(ak<|av<|ij (aO (zA j) (pv 0) (pv 1)<|aI _) (kv U bl.NOTHING_)<|bh<|aa (pv 0)<|aa (pv 1) ag),?_,);calc(w6 (v:=x) (u:=y) i.sq e.sq (_,U,?_,));refine bM (λg=>?_)<|λg=>?_
 .refine q _ H (au.refl _) ?_;unfold dpr;rw[Nk (Np g)];rfl
 .refine(bZ,λt d=>q _ _ (ai d _) ?_,);unfold dpr;rw[Nj λz=>g (Nm z)];let s:=ai d<|.tup [.ref a,.ref b];calc(t,U,a,b,ae,i.mono s.tups,e.mono s.tups,)
def Hk(F:Fun K "_law_cell" "_law_cell" Y58 f fd)(bl:Bl K mg Y):() 1 f fd ["script","k"] (gR K Y):=by
 refine F.okA Z60 λn A g s H o Q E p h=>?_
 let(a,b,k,rfl,j,r,q):=h
 refine(_,(aq (aS (aO oq (pv 1) (ay aG U bl.len_ Nb<|aa (pv 0) ag)<|aI _)
  (ak<|av<|aQ aP (pv 0) (pv 1)<|λ_ _=>U)
  aD)
  (ak<|av aj)),?_,)
 dsimp only[br,Qb,Qa];show(let l:TS:=_;aX _ l _ _ _);intro _;calc(a,_,U,.inl j,_,_,U,U,_,U,?_,);refine bM (λc=>?_)<|λc=>?_
 .let e:k<((⇑(b.map pi):Nat):Int):=kq c;rw[af]at e;let i:k.toNat<⇑b:=∅
  let d:eJ b k=b[k.toNat]:=by unfold eJ;rw[en,JO i];rfl
  let m:atI (b.map pi) k=Nc (.int b[k.toNat]):=by
   let z:atI (b.map pi) ((k.toNat:Nat):Int)=Nc (.int b[k.toNat]):=cx (by rw[fi,JO i];rfl);rw[show((k.toNat:Nat):Int)=k by lia]at z;exact z
  rw[d]at q;exact(a,_,_,_,U,U,j,m,q,)
 .let e:=kr c;rw[af]at e;let d:eJ b k=0:=by unfold eJ;rw[en,ll ∅];rfl
  rw[d]at q;calc q
def Hl(F:Fun K "_law_words" "_law_words" Y67 f fd)(bl:Bl K mg Y):() 1 f fd ["count","cell"] (i0 K Y):=by
 refine F.okA Z69 λD A r s H G Q E I h=>?_
 let(n,c,rfl,J,L,q):=h
 refine(_,(aq (aK (i:=2) Z69.nd U (bv U)<|aY ag)
  (aq (cJ wn U (d9 U bl.range_<|aa (pv 0) ag) (aE (i:=3) Z69.nd U<|bv U)
  (ak<|bq<|jr PySem.F.plainAttrs_list PySem.F.slot_list_append PySem.F.type_list_append cq (pv 2)<|aa (az iQ (az iQ aR<|aQ Dg aR (az bW (az bA (pv 3)<|pv 1) aj)<|λ_ _=>U) aR) ag))
  (ak<|av<|pv 2))),?_,)
 dsimp only[br,Qb,Qa];show(let v:TS:=_;let y:TS:=aX _ v;aX _ y _ _ _);intro _ _;refine((by show 0<=JR;decide),λl g=>?_,);refine(_,U,∅,∅,(let B:Nat->Qc:=λj a d=>au H d/\d l=Nc (.lst<|(wqz j c).map Qe)/\∃m:Option V,a=[Nc (.int (n:Int)),Nc<|.int (c:Int),↑l,m];mF B (ai g _,(by rw[ae];rfl),_,U,) (λj a d t k=>?_) (λa d k=>?_)),)
 .let(e,b,m,rfl):=k;let C:j<n:=by rw[FG]at t;exact t
  let(x,u):=DV (j:=(j+c)%24)<|yf _ ⋯;let p:(0+(j:Int)+(c:Int))%24=(((j+c)%24:Nat):Int):=∅
  let z:atI ltr.cps.toList ((0+(j:Int)+(c:Int))%24)=Nc x:=by rw[p];exact cx u
  let o:⇑((wqz j c).map Qe)=j:=by unfold wqz;rw[af,af,jG]
  refine(.inl (U,_,P8 b,),_,_,U,U,_,_,U,U,(by show(0:Int)<24;decide),ltr,_,x,U,U,⋯,z,_,_,U,U,(by show 3<=JR;decide),_,_,U,U,(by show 4<=JR;decide),l,_,_,U,U,b,aC (by rw[o];lia),e.upd g,?_,_,U,);rw[ae];unfold wqz;rw[kF,eN,eN];show Nc (HO.lst<|_++[Qe (s!"qz" ++ ⟨#[x]⟩++s!"q")])=Nc (HO.lst<|_++[Qe (wq1<|(j+c)%24)]);unfold wq1;rw[u]
 .let(e,b,m,rfl):=k;rw[FG]at b;calc(q l d e g b)
def Hm(F:Fun K "_law_spans" "_law_spans" Y65 f fd)(bl:Bl K mg Y):() 1 f fd ["points"] (i4 K Y):=by
 refine F.okA Z67 λO A x s H R Q E S h=>?_
 let(a,b,rfl,y,z,M,q):=h;calc(_,(ak<|av<|fj (xK U bl.range_<|aa aj<|aa (az eS (ay aG U bl.len_ Nb<|aa (pv 0) ag) aj)<|aa aj ag) (dQ (N:=["k","points"]) (fr:=[0]) (cl:=[("points",↥s+1)]) U U (~~~0) (~~~0) U (~~~0) U U U (gg.mpr (U,iF _,)) U) U (λ_ _ _ _=>cG)<|λ_ _ _ _=>(bh<|aa (aQ (oA (K:=K) U) (pv 1) (pv 0)<|λ_ _=>U)<|aa (az eS (aQ (oA (K:=K) U) (pv 1) (az bA (pv 0) aj)<|λ_ _=>U) aj) ag)),?_,);let d:⇑(b.map pi)=⇑b:=af _;refine(a,_,U,.inl<|y,_,_,U,U,_,_,_,U,(⋯,⋯,⋯,⋯,by rw[d];lia,by rw[d];lia,),(let J:Jr->Nat->Nt V->Qd:=λD j g e=>au H e/\e D=Nc (.lst g)/\⇑g=j/\PL e g ((db j).map λj:Nat=>(b.getD (2*j) 0,b.getD (2*j+1) 0-1));tN (lo:=0) (c:=2) J (λD i=>(ai i _,ae,U,.nil,)) (λD j g e i u h=>?_) (λD g e i h=>?_)),)
 .let(o,v,l,r):=h;let L:j<⇑b / 2:=by rw[d,As z]at u;exact u
  let G:atI (b.map pi) (0+(j:Int)*2)=Nc (.int<|b.getD (2*j) 0):=by
   rw[show 0+(j:Int)*2=((2*j:Nat):Int) by lia];exact wb ∅
  let C:atI (b.map pi) (0+(j:Int)*2+1)=Nc (.int<|b.getD (2*j+1) 0):=by
   rw[show 0+(j:Int)*2+1=((2*j+1:Nat):Int) by lia];exact wb ∅
  let m:=o.seq y;calc(a,_,_,_,U,U,m,G,_,_,U,U,a,_,_,_,U,U,m,C,_,_,U,U,bZ,λt I=>?_,);let p:=ai I<|.tup [.int (b.getD (2*j) 0),.int (b.getD (2*j+1) 0-1)];let B:upd e t (.tup [.int (b.getD (2*j) 0),.int (b.getD (2*j+1) 0-1)]) t=Nc (.tup [.int (b.getD (2*j) 0),.int (b.getD (2*j+1) 0-1)]):=ae;generalize upd e t (.tup [.int (b.getD (2*j) 0),.int (b.getD (2*j+1) 0-1)])=H4 at p B⊢;let n:=p _ _ v;refine dR.mk u n (aC ∅) ((o.trans p).upd i,ae,by rw[cb,dV,l],?_,);let k:cc H4 (upd H4 D<|.lst<|g++[.ref t]):=ba n;rw[kF,eN];exact((r.mono p.tups).mono k).snoc (k _ _ B)
 .let(o,v,l,r):=h;rw[d,As z]at r;calc q D g e o i v r
def Hn(F:Fun K "_law_points" "_law_points" Y64 f fd)(bl:Bl K mg Y):() 1 f fd ["cell","count"] (gZ K Y):=by
 refine F.okA Z66 λa1 A M s H vs Q E hr h=>?_
 let(c,n,rfl,hn,q):=h
 refine(_,(aq (aK (i:=2) Z66.nd U (bv U)<|az eS (az bW (pv 0)<|az dC aj<|az rP aj aj)<|az rP aj aj)
  (aq (aK (i:=3) Z66.nd U (bv U)<|aY<|aa (pv 2) ag)
  (aq (cJ wn U (d9 U bl.range_<|aa (pv 1) ag) (aE (i:=4) Z66.nd U<|bv U)
  (aq (aK (i:=2) Z66.nd U (bv U)<|az bA (az bA (pv 2) aj)<|az bW (az bW (az dC (az bA (az gJ (pv 0) aj)<|pv 4)<|az bA (az dC aj<|pv 4) aj) aj) aj)
  (ak<|bq<|jr PySem.F.plainAttrs_list PySem.F.slot_list_append PySem.F.type_list_append cq (pv 3)<|aa (pv 2) ag)))
  (aq (jn (az bA (aQ aP (pv 3) (nq jo aj)<|λ_ _=>U)<|az bW (az gJ (pv 0) aj)<|az rP aj aj)<|kG (pv 3) (nq jo aj) set_list)
  (ak<|av<|pv 3))))),?_,)
 dsimp only[br,Qb,Qa];show(let O:TS:=_;let R:TS:=aX _ O;let S:TS:=aX _ R;let T:TS:=aX _ S;aX _ T _ _ _);intro _ _ _ _;let W:(0:Int)<2*10^(57:Int).toNat:= ~~~0
 let r:(0:Int)<10^(56:Int).toNat:= ~~~0
 let(I,L):∃I:Int,I=c%(2*10^(57:Int).toNat)-10^(57:Int).toNat:=(_,U,);calc(_,_,U,U,(⋯,⋯,⋯,),_,_,U,U,.inl (⋯,⋯,),_,_,U,U,W,_,_,U,U,(⋯,⋯,⋯,),_,_,U,U,?_,);rw[←L];refine((by show 1<=JR;decide),λl C=>?_,);refine(_,U,∅,∅,(let X:Nat->Qc:=λj g t=>au H t/\E3 λ(d:Nt Int)(a:Int)(G:Option V)=>A4 (t l=Nc (.lst<|(d++[a]).map pi)) (⇑d=j) ((d++[a]).Pairwise (· < ·))<|g=[Nc (.int c),Nc<|.int (n:Int),Nc<|.int a,↑l,G];mF X (ai C _,[],I,_,ae,U,M2 _ _,U,) (λj g t N D=>?_) (λg t D=>?_)),)
 .let(y,d,a,G,p,b,e,rfl):=D;let Z:j<n:=by rw[FG]at N;exact N
  let k:⇑((d++[a]).map pi)=j+1:=by rw[af,cb,dV,b]
  let(x,m):∃x:Int,x=(c / 3+(0+(j:Int)))*(2*(0+(j:Int))+5)%10007%3:=(_,U,);let J:0<=x:=by rw[m];exact Gm _ ⋯
  refine(_,_,U,U,_,_,U,U,(⋯,⋯,),_,_,U,U,_,_,U,U,.inl (⋯,⋯,),_,_,U,U,_,_,U,U,.inr (∅,∅,),_,_,U,U,(by show(0:Int)<10007;decide),_,_,U,U,(by show(0:Int)<3;decide),_,_,U,U,?_,);rw[←m];refine(.inl (U,_,P8 p,),l,_,_,U,U,p,aC (by rw[k];lia),y.upd C,d++[a],a+1+x,_,?_,by rw[cb,dV,b],?_,U,)
  .rw[ae,eN (l₁:=d++[a])];rfl
  .rw[nL];calc(e,M2 _ _,λu B v o=>?_,);rw[eO.mp o];rcases gz.mp B with h|h
   .let:=(nL.mp e).2.2 u h a<|eO.mpr U;lia
   .rw[eO.mp h];lia
 .let(y,d,a,G,p,b,e,rfl):=D;rw[FG]at b;let k:⇑((d++[a]).map pi)=n+1:=by rw[af,cb,dV,b]
  let(x,m):∃x:Int,x=c / 5%10^(56:Int).toNat:=(_,U,);let J:0<=x:=by rw[m];exact Gm _<|Int.ne_of_gt r
  let o:atI ((d++[a]).map pi) (-1)=Nc (.int a):=by rw[eN];exact oy _ _
  let hi:ixN ⇑((d++[a]).map pi) (-1)=Nc n:=by
   unfold ixN;rw[k,Nj ⋯,Nk ∅]
   congr 1
   lia
  calc(_,U,l,_,_,_,U,U,P8 p,o,_,_,U,U,(⋯,⋯,),_,_,U,U,(⋯,⋯,⋯,),_,_,U,U,r,_,_,U,U,?_,);rw[←m];refine(_,U,l,_,_,_,U,U,p,hi,q l (d++[a+x]) _ (y.upd C) ?_ (by rw[cb,dV,b]) ?_,)
  .let:=um (d.map pi) (pi a)<|pi<|a+x;rw[cb,dV,Nat.add_sub_cancel,af,b]at this;rw[ae,eN,eN];exact Nq (λz=>Nc<|HO.lst z) this
  .rw[nL];calc((nL.mp e).1,M2 _ _,λu B v o=>?_,);rw[eO.mp o];let:=(nL.mp e).2.2 u B a<|eO.mpr U;lia
def O_1(F:Fun K "__init__" "Domain.__init__" Y1 f fd)(bl:Bl K mg Y):() 1 f fd ["self","low","high"] (cC K Y):=by
 refine F.okA Z1 λe A b s H g Q E i h=>?_
 let(x,a,lo,hi,rfl,d,q):=h
 refine(_,(aq (cY (pv 0) (pv 1) U)
  (ak<|cY (pv 0) (pv 2) U)),?_,)
 dsimp only[br,Qb,Qa];show(let c:TS:=_;aX _ c _ _ _);intro _;refine(x,_,a,_,U,d,bl.k_Words,bl.na_Words_low,(by show 0<1000;decide),x,_,a,_,U,ae,bl.k_Words,bl.na_Words_high,(by show 1<1000;decide),?_,);show Q .non (upd (upd H x<|.ins Y.r a [("low",.int lo)]) x<|.ins Y.r a<|bH "high" (.int hi) [("low",.int lo)]);rw[put2];calc q
def O_0(F:Fun K "__init__" "Domain.__init__" Y0 f fd)(bl:Bl K mg Y):() 1 f fd ["self","low","high"] (b7 K Y):=by
 refine F.okA Z0 λe A b s H g Q E i h=>?_
 let(x,a,lo,hi,rfl,d,q):=h
 refine(_,(aq (cY (pv 0) (pv 1) U)
  (ak<|cY (pv 0) (pv 2) U)),?_,)
 dsimp only[br,Qb,Qa];show(let c:TS:=_;aX _ c _ _ _);intro _;refine(x,_,a,_,U,d,bl.k_Numbers,bl.na_Numbers_low,(by show 0<1000;decide),x,_,a,_,U,ae,bl.k_Numbers,bl.na_Numbers_high,(by show 1<1000;decide),?_,);show Q .non (upd (upd H x<|.ins Y.q a [("low",.int lo)]) x<|.ins Y.q a<|bH "high" (.int hi) [("low",.int lo)]);rw[put2];calc q
def Ho(F:Fun K "__init__" "Way.__init__" Y18 f fd)(bl:Bl K mg Y):() 1 f fd ["self","called"] (cR K Y):=by
 refine F.okA Z18 λd A a s H e Q E g h=>?_
 let(x,c,z,rfl,b,q):=h;calc(_,(ak<|cY (pv 0) (pv 1) U),?_,);calc(x,_,c,_,U,b,bl.k_First,bl.na_First_called,(by show 0<1000;decide),q,)
def Hq(F:Fun K "__init__" "Way.__init__" Y22 f fd)(bl:Bl K mg Y):() 1 f fd ["self","called"] (dc K Y):=by
 refine F.okA Z22 λd A a s H e Q E g h=>?_
 let(x,c,z,rfl,b,q):=h;calc(_,(ak<|cY (pv 0) (pv 1) U),?_,);calc(x,_,c,_,U,b,bl.k_Only,bl.na_Only_called,(by show 0<1000;decide),q,)
def Hr(F:Fun K "__init__" "Way.__init__" Y20 f fd)(bl:Bl K mg Y):() 1 f fd ["self","called"] (de K Y):=by
 refine F.okA Z20 λd A a s H e Q E g h=>?_
 let(x,c,z,rfl,b,q):=h;calc(_,(ak<|cY (pv 0) (pv 1) U),?_,);calc(x,_,c,_,U,b,bl.k_Like,bl.na_Like_called,(by show 0<1000;decide),q,)
def Hs(F:Fun K "__init__" "Way.__init__" Y21 f fd)(bl:Bl K mg Y):() 1 f fd ["self","called"] (dF K Y):=by
 refine F.okA Z21 λd A a s H e Q E g h=>?_
 let(x,c,z,rfl,b,q):=h;calc(_,(ak<|cY (pv 0) (pv 1) U),?_,);calc(x,_,c,_,U,b,bl.k_Low,bl.na_Low_called,(by show 0<1000;decide),q,)
def Ht(F:Fun K "__init__" "Way.__init__" Y19 f fd)(bl:Bl K mg Y):() 1 f fd ["self","called"] (df K Y):=by
 refine F.okA Z19 λd A a s H e Q E g h=>?_
 let(x,c,z,rfl,b,q):=h;calc(_,(ak<|cY (pv 0) (pv 1) U),?_,);calc(x,_,c,_,U,b,bl.k_High,bl.na_High_called,(by show 0<1000;decide),q,)
def Hu(F:Fun K "__init__" "Way.__init__" Y23 f fd)(bl:Bl K mg Y):() 1 f fd ["self","called"] (dG K Y):=by
 refine F.okA Z23 λd A a s H e Q E g h=>?_
 let(x,c,z,rfl,b,q):=h;calc(_,(ak<|cY (pv 0) (pv 1) U),?_,);calc(x,_,c,_,U,b,bl.k_Sum,bl.na_Sum_called,(by show 0<1000;decide),q,)
def O_5(F:Fun K "chosen" "First.chosen" Y5 f fd)(bl:Bl K mg Y):() 1 f fd ["self","codes","outcome"] (J1 K Y):=by
 refine F.ok Z5 (λi H Q E h=>?_)<|λr A d s H i Q E u h=>?_
 .let(x,c,o,n,e,b,rfl,(p,z,j),l,a,g,m,q):=h;rfl
 let(x,c,o,n,e,b,rfl,(p,z,j),l,a,g,m,q):=h;calc(_,(ak<|av<|bh<|aa aR<|aa (aQ aP (pv 1) aj<|λ_ _=>U) ag),?_,);calc(c,_,_,_,U,U,g,at0 n e,bZ,λt k=>q t _ (ai k _)<|.inl ae,)
def Hv(F:Fun K "chosen" "Only.chosen" Y14 f fd)(bl:Bl K mg Y):() 1 f fd ["self","codes","outcome"] (J9 K Y):=by
 refine F.ok Z14 (λl H Q E h=>?_)<|λC A k s H l Q E D h=>?_
 .let(x,c,o,n,a,b,rfl,(B,z,m),r,j,d,y,q):=h;rfl
 let(x,c,o,n,a,b,rfl,(B,z,m),r,j,d,y,q):=h;calc(_,(ak<|av<|ij (aO bK (ay aG U bl.len_ Nb<|aa (pv 1) ag) aj<|aI _) (bh<|aa aR<|aa (aQ aP (pv 1) aj<|λ_ _=>U) ag)<|bB (v:=.ref Y.u) U bl.CLASH_ U),?_,);calc(c,_,U,.inl<|d,U,_,U,?_,);refine bM (λg=>?_)<|λg=>?_
 .let e:wf 1 b.1 b.2 (n :: a)=say n:=by
   let i:=kq g;simp at i;show ur _=_;unfold ur;rw[Nk (by rw[gE];lia)];rfl
  rw[e]at q;exact(c,_,_,_,U,U,d,at0 n a,bZ,λt p=>q t _ (ai p _)<|.inl ae,)
 .let e:wf 1 b.1 b.2 (n :: a)=wQ:=by
   let i:=kr g;simp at i;show ur _=_;unfold ur;rw[Nj (by rw[gE];lia)]
  rw[e]at q;calc q _ _ (au.refl _)<|.inr bl.q_CLASH
def O_9(F:Fun K "chosen" "Like.chosen" Y9 f fd)(bl:Bl K mg Y):() 1 f fd ["self","codes","outcome"] (J5 K Y):=by
 refine F.ok Z9 (λy H Q E h=>?_)<|λL A m s H y Q E M h=>?_
 .let(x,c,o,n,a,b,rfl,(J,z,B),D,k,i,G,q):=h;rfl
 let(x,c,o,n,a,b,rfl,(J,z,B),D,k,i,G,q):=h;calc(_,(ak<|av<|ij (aO bK (ay qu U bl.len_ Nb<|aa (bE (qt U) U bl.set_ Fa<|aa (pv 1) ag) ag) aj<|aI _) (bh<|aa aR<|aa (aQ aP (pv 1) aj<|λ_ _=>U) ag)<|bB (v:=.ref Y.u) U bl.CLASH_ U),?_,);refine(c,_,U,i,(by rw[gE];lia),λl I=>?_,);refine(l,_,U,ae,(by rw[gE];lia),U,_,U,?_,);let d:au H (upd H l<|Bq P w l (n :: a)):=ai I _;refine bM (λg=>?_)<|λg=>?_
 .let r:pi _=pi _:=kq g;let j:cntK (n :: a) ⇑(n :: a)=1:=by injection r with r;lia
  let p:=rq.mp j;let e:wf 2 b.1 b.2 (n :: a)=say n:=by
   show uq _=_;unfold uq;rw[Nk (rF.mp p),ym p]
  rw[e]at q;exact(c,_,_,_,U,U,d.seq i,at0 n a,bZ,λt C=>q t _ (d.trans<|ai C _)<|.inl ae,)
 .let j:¬ cntK (n :: a) ⇑(n :: a)=1:=λz=>(kr g) (by rw[z];rfl)
  let e:wf 2 b.1 b.2 (n :: a)=wQ:=by
   show uq _=_;unfold uq;rw[Nj λz=>j (rq.mpr<|rF.mpr z)]
  rw[e]at q;calc q _ _ d<|.inr bl.q_CLASH
def Hw(F:Fun K "chosen" "Low.chosen" Y11 f fd)(bl:Bl K mg Y):() 1 f fd ["self","codes","outcome"] (J7 K Y):=by
 refine F.ok Z11 (λg H Q E h=>?_)<|λy A d s H g Q E B h=>?_
 .let(x,c,o,n,i,b,rfl,(v,z,j),l,a,e,p,q):=h;rfl
 let(x,c,o,n,i,b,rfl,(v,z,j),l,a,e,p,q):=h;calc(_,(ak<|av<|bh<|aa aR<|aa (ay (qp U) U bl.min_ NS<|aa (pv 1) ag) ag),?_,);calc(c,_,U,e,C3 _,λm u r=>(bZ,λt k=>q t _ (ai k _)<|.inl ?_,),);rw[ae,Ag u r];rfl
def O_7(F:Fun K "chosen" "High.chosen" Y7 f fd)(bl:Bl K mg Y):() 1 f fd ["self","codes","outcome"] (J3 K Y):=by
 refine F.ok Z7 (λg H Q E h=>?_)<|λy A d s H g Q E B h=>?_
 .let(x,c,o,n,i,b,rfl,(v,z,j),l,a,e,p,q):=h;rfl
 let(x,c,o,n,i,b,rfl,(v,z,j),l,a,e,p,q):=h;calc(_,(ak<|av<|bh<|aa aR<|aa (ay (qr U) U bl.max_ NU<|aa (pv 1) ag) ag),?_,);calc(c,_,U,e,C3 _,λm u r=>(bZ,λt k=>q t _ (ai k _)<|.inl ?_,),);rw[ae,Ah u r];rfl
def Hx(F:Fun K "chosen" "Sum.chosen" Y16 f fd)(bl:Bl K mg Y):() 1 f fd ["self","codes","outcome"] (J11 K Y):=by
 refine F.ok Z16 (λp H Q E h=>?_)<|λD A l s H p Q E G h=>?_
 .let(x,c,o,n,a,b,rfl,(B,z,r),(C,hC,y,fs,j,d,g,_),k,m,v,q):=h;rfl
 let(x,c,o,n,a,b,rfl,(B,z,r),(C,hC,y,fs,j,d,g,_),k,m,v,q):=h;calc(_,(ak<|av<|bh<|aa aR<|aa (ay (qP U) U bl.max_ NU<|aa (aU (pv 2) U)<|aa (ay (qQ U) U bl.min_ NS<|aa (aU (pv 2) U)<|aa (ay (ku U) U bl.sum_ OJ<|aa (pv 1) ag) ag) ag) ag),?_,);let i:Cls K C/\NoAttr K C s!"low"/\NoAttr K C s!"high":=by
  rcases hC with rfl|rfl
  .exact(bl.k_Numbers,bl.na_Numbers_low,bl.na_Numbers_high,)
  .exact(bl.k_Words,bl.na_Words_low,bl.na_Words_high,)
 calc(o,_,_,_,_,U,j,i.1,i.2.1,d,o,_,_,_,_,U,j,i.1,i.2.2,g,c,_,U,m,_,_,U,_,_,U,?_,);calc(bZ,λt u=>q t _ (ai u _)<|.inl ?_,);rw[ae];let e:near b.1 b.2 (n :: a).sum=if (if (n :: a).sum<b.2 then(n :: a).sum else b.2)>b.1 then(if (n :: a).sum<b.2 then(n :: a).sum else b.2)else b.1:=by
  unfold near;generalize (n :: a).sum=t;split <;> split <;> split <;> first|rfl|lia|(split <;> lia)
 show _=Nc (HO.tup<|tp<|say<|near b.1 b.2 (n :: a).sum);rw[e];rfl
def Hy(F:Fun K "is_word" "is_word" Y53 f fd)(bl:Bl K mg Y)(g:⟨⟩ 1 "all_among" ["text","signs"] (iY K Y)):() 2 f fd ["text"] (i5 K Y):=by
 refine F.okA Z55 λk A d s H l Q E j h=>?_
 let(z,rfl,i,q):=h;calc(_,(ak<|av<|fS (ot gL gL aj (ay rV U bl.len_ Nb<|aa (pv 0) ag)<|kv U bl.MOST_SIGNS_)<|fS (bL km (pv 0) aR<|aI _)<|fR<|aM g j U<|aa (pv 0)<|aa (kv U bl.SMALL_LETTERS_) ag),?_,);calc(_,U,big i,_,_,U,U,_,U,?_,);refine bM (λc=>?_)<|λc=>?_
 .refine(_,_,U,U,_,U,?_,);refine bM (λb=>?_)<|λb=>?_
  .refine(U,_,U,?_,);refine bM (λa=>?_)<|λa=>?_
   .refine(z,lets,U,?_,);let e:isw z=tO z lets:=by unfold isw;rw[c,b,a];rfl
    rw[e]at q;exact q
   .let e:isw z=false:=by unfold isw;rw[EU.mpr a,Gc,FB,FB]
    rw[e]at q;exact q
  .let e:isw z=false:=by unfold isw;rw[EU.mpr b,Gc,FB]
   rw[e]at q;exact q
 .let e:isw z=false:=by unfold isw;rw[EU.mpr c,Gc]
  rw[e]at q;calc(_,U,bJ q,)
def Hz(F:Fun K "cut_columns" "cut_columns" Y42 f fd)(bl:Bl K mg Y)(uL:⟨⟩ 1 "stretches" ["low","high","marks"] (iZ K Y)):() 2 f fd ["bounds","marks"] (eL K Y):=by
 refine F.okA Z43 λc4 A b3 s H vs Q E hr h=>?_
 let(a,b,ys,ps,as,R,rfl,ha,hP,hb,hM,hok,q):=h;refine(_,(ak<|av<|dJ (se U bl.zip_<|aa (pv 0)<|aa (pv 1) ag) (di (N:=["bound","cuts"]) (k:=2) U U (~~~0) (~~~0)<|~~~0) U (λ_ _ _ _=>(js (K:=K) (n:=2) U U<|aF (aE (i:=0) (show(["bound","cuts"]:Nt Str).Nodup by decide+kernel) U (bv U) (v6 U)) (aF (aE (i:=1) (show(["bound","cuts"]:Nt Str).Nodup by decide+kernel) U (bv U) (v6 U)) bI))) (λ_ _ _ _=>cG) (λ_ _ _ _=>(aM uL hr U<|aa (aQ (lL (K:=K) U) (pv 0) aj<|λ_ _=>U)<|aa (aQ (lL (K:=K) U) (pv 0) aj<|λ_ _=>U)<|aa (pv 1) ag))),?_,);let(b5,b4,a1):=hok;let b6:=⇑hP;let c3:=hM.1
 refine(a,b,U,(_,P8 ha,),(_,P8 hb,),yc (xs:=ys) (ys:=as.map Qf) (λD i C B=>au H B/\B D=Nc (.lst C)/\∃d:Nt (Nt Int),⇑d=i/\(∀(j:Nat)(p:Int×Int)(v l:Nt Int),ps[j]?=Nc p->R[j]?=Nc v->d[j]?=Nc l->l.Pairwise (· < ·)/\(∀c,c∈l↔(c∈v/\p.1<c/\c<=p.2))/\⇑l<=400)/\aN C (im (λp l=>bX p.1 p.2 l) (ps.take i) d) (λr c=>r≠D/\∃g,B r=Nc (.lst g)/\PL B g c))
  (λD O=>(ai O _,ae,[],U,(λj p v l _ _ e=>by simp at e),aN.nil,)) (λD i C B O _ h=>(P8<|h.1 _ _ ha,P8<|h.1 _ _ hb,)) (λD i x y C B T O ex ey h hT g a5=>?_) (λD C B O h=>?_),)
 .let(sm,eD,d,o,J,M):=h;let(p,t,ep,rfl,ht):=hP.get ex;let(r,rfl,er):=Aj ey;let hi:i<⇑as:=(JP.mp er).1;let(v,em):∃v,R[i]?=Nc v:=(_,JO ∅,);let(r',W,hr):=hM.2 i v em;rw[er]at W;cases W;let s2:=sm.trans<|ai hT<|.tup [.ref t,.ref r];let eT:upd B T (.tup [.ref t,.ref r]) T=Nc (.tup [.ref t,.ref r]):=ae;let Z:=ai hT<|.tup [.ref t,.ref r];let L:=Z _ _ eD;generalize upd B T (.tup [.ref t,.ref r])=H2 at s2 eT L Z⊢;let(t0,t1,rfl):∃t0 t1,g=[t0,t1]:=by
   match g,a5 with
   | [t0,t1],_=>exact(t0,t1,U,)
  calc(T,_,U,P9 eT,U,_,_,U,_,_,U,U,([↑t,↑r],U,U,),?_,);let c1:=a1 v<|JQ em;calc(t,_,_,_,U,U,P9<|s2 _ _ ht,U,t,_,_,_,U,U,P9<|s2 _ _ ht,U,r,v,v,p.1,p.2,U,P8<|s2 _ _ hr,∅,∅,λm hm _ _=>hm,λr2 H3 l a0 s3 S b0 a7 a6 jh a9=>?_,);let X:=s3 _ _ L;let c2:C.length=i:=by rw[M.1,jO,hZ];lia
  let HA:i<min ⇑ys ⇑(as.map Qf):=by rw[af];lia
  let a2:r2≠D:=λz=>by rw[z,L]at S;cases S
  refine dR.mk HA X (aC ∅) ((s2.trans s3).upd O,ae,d++[l],by rw[cb,o];rfl,λj p' a3 b1 G I u=>?_,?_,)
  .by_cases hj:j<⇑d
   .rw[iv hj]at u;exact J j p' a3 b1 G I u
   .let a8:j=⇑d:=by
     have:=(JP.mp u).1;simp at this;lia
    subst a8;simp at u;subst u;rw[o]at G I;rw[ep]at G;cases G;rw[em]at I;cases I;exact(a6,jh,a9,)
  .rw[take_snoc ep,List.zipWith_append (by rw[hZ];lia)];let a4:aN (C++[.ref r2]) (im (λp l=>bX p.1 p.2 l) (ps.take i) d++[bX p.1 p.2 l]) (λr c=>r≠D/\∃g,H3 r=Nc (.lst g)/\PL H3 g c) :=
    aN.snoc (aN.mono M λx c k=>(k.1,let ⟨g,e1,e2⟩:=k.2;(g,s3 _ _<|Z _ _ e1,PL.mono e2 (Z.trans s3).tups,),)) (a2,a0,b0,a7,)
   let st:cc H3 (upd H3 D<|.lst<|C++[.ref r2]):=ba X;exact aN.mono a4 λx c k=>(k.1,let ⟨g,e1,e2⟩:=k.2;(g,(aw k.1).trans e1,PL.mono e2 st,),)
 .let(sm,eD,d,o,J,M):=h;let e:min ⇑ys ⇑(as.map Qf)=⇑ps:=by rw[af];lia
  rw[e]at o;rw[e,fo]at M;calc q D C B d sm eD o J<|aN.mono M λx c k=>k.2
def HB(F:Fun K "fits" "fits" Y46 f fd)(bl:Bl K mg Y)(B2:⟨⟩ 1 "holds" ["spans","number"] (pE K Y)):() 2 f fd ["table","k","codes"] (sW K Y):=by
 refine F.okA Z47 λa1 A G s H vs Q E hr h=>?_
 let(t,X,c,dx,fs,xs,a0,k,b,g,rfl,ht,hf,hl,hR,ek,J,W,q):=h
 refine(_,(aq (aK (i:=3) Z47.nd U (bv U)<|aQ cj (aQ aP (aU (pv 0) U) (pv 1)<|λ_ _=>U) aj<|λ_ _=>U)
  (aq (cJ wn U (se U bl.zip_<|aa (pv 3)<|aa (pv 2) ag) (fA U<|aF (aE (i:=4) Z47.nd U<|bv U)<|aF (aE (i:=5) Z47.nd U<|bv U) bI)
  (ak (aS (dB<|cA<|aM B2 hr U<|aa (pv 4)<|aa (pv 5) ag)
  (ak<|av fQ)
  aD)))
  (ak<|av fQ))),?_,)
 dsimp only[br,Qb,Qa];show(let Z:TS:=_;let r1:TS:=aX _ Z;aX _ r1 _ _ _);intro _ _;let(r,er,S,cv,e1,_,R,m):=hR.2 k b ek;calc(t,_,_,_,_,U,ht,bl.k_Table,bl.na_Table_rows,hf,X,_,_,_,U,U,P8 hl,cx er,r,_,_,_,U,U,P9 e1,U,?_,);refine(S,c,U,(_,P8 R,),(_,J,),(let I_:Nat->Qc:=λi o a=>au H a/\(∀j,j<i->inP (b.1.getD j []) (g.getD j 0)=Nf)/\E2 λB z:Option V=>o=[↑t,Nc<|.int k,↑c,↑S,B,z];si (xs:=cv) (ys:=g.map pi) I_ (au.refl _,(λj h=>Nl h<|zm j),_,_,U,) (λi o a h=>(P8<|h.1 _ _ R,h.1.seq J,)) (λi x y o a T ex ey h hT=>?_) (λo a h=>?_)),)
 .let(p,v,B,z,rfl):=h;let s2:=p.trans<|ai hT<|.tup [x,y];let O:upd a T (.tup [x,y]) T=Nc (.tup [x,y]):=ae;generalize upd a T (.tup [x,y])=H2 at s2 O⊢;let(l,u,rfl,ep,C):=aN.get m ex;let(_,ys,el,hp):=C.same s2;let(n,rfl,N):=of_map ey;calc(T,_,U,P9 O,U,_,_,U,_,_,U,U,?_,);calc(l,ys,u,n,U,P8 el,hp,_,U,?_,);let M:b.1.getD i []=u:=by rw[en,ep];rfl
  let L:g.getD i 0=n:=by rw[en,N];rfl
  cases hin:inP u n with
  |true =>
   calc bJ (s2,λj I=>?_,_,_,U,);by_cases D:j<i
   .exact v j D
   .let:j=i:=∅
    subst this;rw[M,L];exact hin
  |false =>
   calc dh ?_;let e:kM b.1 g=false:=by
    unfold kM;rw[List.all_eq_false];calc(i,hE.mpr (JP.mp N).1,?_,);rw[M,L,hin];decide
   let d:=q H2 s2;rw[e]at d;exact d
 .let(p,v,B,z,rfl):=h;let e:kM b.1 g=true:=by
   unfold kM;rw[jF];intro j I;calc v j ?_;let h1:=m.1;rw[af];let:=hE.mp I;lia
  let d:=q a p;rw[e]at d;calc d
def HC(F:Fun K "column_marks" "column_marks" Y40 f fd)(bl:Bl K mg Y)(we:⟨⟩ 1 "gathered" ["lists"] (jB K Y))(B3:⟨⟩ 1 "edges" ["spans","low","high"] (pF K Y)):() 2 f fd ["table","column"] (fF K Y):=by
 refine F.okA Z41 λb6 A a8 s H vs Q E hr h=>?_
 let(t,c,dv,bs,g,b,L,rfl,(rl,dx,dl,fs,xs,ht,f1,f2,a5,X,G,hR),eb,b3,v7,b0,hL,a0,q):=h
 refine(_,(aq (aK (i:=2) Z41.nd U (v6 U)<|aQ aP (aU (pv 0) U) (pv 1)<|λ_ _=>U)
  (ak<|av<|aM we hr U<|aa (dJ (bw<|aU (pv 0) U) (ft (N:=["cells","code","column","domain"]) (k:=2) (fr:=[1,2]) (cl:=[("domain",↥s+1+1),("column",↥s+1)]) U U (~~~0) (~~~0) U U (gg.mpr (U,gg.mpr (U,iF _,),)) U) U (λ_ _ _ _=>(js (K:=K) (n:=2) U U<|aF (aE (i:=0) (show(["cells","code","column","domain"]:Nt Str).Nodup by decide+kernel) U (bv U) (v6 U)) (aF (aE (i:=1) (show(["cells","code","column","domain"]:Nt Str).Nodup by decide+kernel) U (bv U) (v6 U)) bI))) (λ_ _ _ _=>cG) (λ_ _ _ _=>(aM B3 hr U<|aa (aQ (oA (K:=K) U) (pv 0) (pv 2)<|λ_ _=>U)<|aa (nW (K:=K) U (pv 3) U)<|aa (nW (K:=K) U (pv 3) U) ag))) ag)),?_,)
 dsimp only[br,Qb,Qa];show(let r1:TS:=_;aX _ r1 _ _ _);intro _;let(da,a6,C,hC,b5,b4,ha,g1,g2,_):=X.2 c b eb;let M:Cls K C/\NoAttr K C s!"low"/\NoAttr K C s!"high":=by
  rcases hC with rfl|rfl
  .exact(bl.k_Numbers,bl.na_Numbers_low,bl.na_Numbers_high,)
  .exact(bl.k_Words,bl.na_Words_low,bl.na_Words_high,)
 let W:⇑xs=⇑g:=hR.1;calc(t,_,_,_,_,U,ht,bl.k_Table,bl.na_Table_domains,f2,dl,_,_,_,U,U,P8 a5,cx a6,?_,);refine(t,_,_,_,_,U,ht,bl.k_Table,bl.na_Table_rows,f1,rl,U,(_,P8 G,),(let I_:Jr->Nat->Nt V->Qd:=λD i o d=>au H d/\d D=Nc (.lst o)/\∃m:Nt Jr,o=m.map Qf/\MLs (hide d D) m ((g.take i).map<|rmk c b);dS (xs:=xs) I_ (λD u=>(ai u _,ae,[],U,MLs.nil,)) (λD i o d u _ h=>P8<|h.1 _ _ G) (λD i y o d u e h ts T=>?_) (λD o d u h=>?_)),)
 .let(a,O,m,rfl,p):=h;let(r,x,rfl,S,ce,cs,k1,_,k2,k3):=aN.get hR e;let hi:i<⇑xs:=(JP.mp e).1;let B:=v7 x<|JQ S;let h6:=BK (c:=c)<|JQ S;let(J,I,rfl):∃J I,ts=[J,I]:=by
   match ts,T with
   | [J,I],_=>exact(J,I,U,)
  calc(r,_,U,P9<|a _ _ k1,U,_,_,U,_,_,U,U,([↑ce,Nc (.int x.2)],U,U,),?_,);let(ol,a3,_,yo,a1,j):=k3.2 c _<|JO B;let hA:x.1[c]=x.1.getD c []:=by rw[en,JO B];rfl
  rw[hA]at j;let a9:=⇑j;calc(ce,_,_,_,U,U,P8<|a _ _ k2,cx a3,da,_,_,_,_,U,a _ _ ha,M.1,M.2.1,g1,da,_,_,_,_,U,a _ _ ha,M.1,M.2.2,g2,?_,);calc(ol,yo,_,b.1,b.2,U,P8<|a _ _ a1,j.mono a.tups,∅,λr3 H3 es R v a2 a4=>?_,);let a7:=R _ _ O;let nD:r3≠D:=λz=>by rw[z,O]at v;cases v
  let Z:=p.1;rw[af,hZ]at Z;refine dR.mk hi a7 (aC (by rw[af];lia)) ((a.trans R).upd u,ae,m++[r3],by rw[eN];rfl,?_,);rw[pe,take_snoc S,eN];exact MLs.snoc (p.same<|mW R)<|fk (by rw[a2,a4];rfl) nD
 .let(a,O,m,rfl,p):=h;rw[W,fo]at p;let b1:=uB c b g;calc(D,m,_,L,U,O,p.same<|sP d D,∅,hL,λx hx=>a0 x<|wX.mp hx,λl cs H2 s2 nl el pw hm=>q l cs H2 (a.trans s2) (a.free nl) el pw λx=>(hm x).trans wX,)
def HD(F:Fun K "refuse_unlike_domains" "refuse_unlike_domains" Y80 f fd)(bl:Bl K mg Y)(B4:⟨⟩ 1 "alike" ["one","other"] (pD K Y)):aL P w K mg base (CX1 P w) 2 f fd ["ones","others"] (cD K Y):=by
 refine F.okEA Z82 λa0 A B s H vs Q E t h=>?_
 let(r,p,xs,ys,ds,Z,rfl,k,j,G,D,C,q):=h
 refine(_,(aq (aS (aO km (ay aG U bl.len_ Nb<|aa (pv 0) ag) (ay aG U bl.len_ Nb<|aa (pv 1) ag)<|aI _)
  (ak<|mK bl.x_Unlike t.hd U bl.Unlike_<|aa aR ag)
  aD)
  (ak (cJ (xX U U U) U (se U bl.zip_<|aa (pv 0)<|aa (pv 1) ag) (fA U<|aF (aE (i:=2) Z82.nd U<|bv U)<|aF (aE (i:=3) Z82.nd U<|bv U) bI)
  (ak (aS (dB<|cA<|aM B4 t U<|aa (pv 2)<|aa (pv 3) ag)
  (ak<|mK bl.x_Unlike t.hd U bl.Unlike_<|aa aR ag)
  aD))))),?_,)
 dsimp only[br,Qb,Qa];show(let R:TS:=_;aX _ R _ _ _);intro _;calc(r,_,U,.inl<|P8 k,p,_,U,.inl<|P8 j,U,_,U,?_,);let n:=G.1;let m:=D.1;refine bM (λg=>((by show 1<=JR;decide),C (λz=>?_) _<|au.refl _,)) (λg=>?_)
 .rw[Nm (show pi _=pi _ by rw[n,m,z])]at g;cases g
 let hl:⇑xs=⇑ys:=by
  by_cases h:⇑xs=⇑ys
  .exact h
  .exact Nl (show(!Nh (pi ((⇑xs:Nat):Int)=pi ((⇑ys:Nat):Int)))=Nf by rw[Nn (λe=>h (by have:=V.int.inj e;lia))];rfl) g
 refine(r,p,U,(_,P8 k,),(_,P8 j,),(let I_:Nat->Qc:=λi o l=>au H l/\ds.take i=Z.take i/\(E2 λN M:Option V=>o=[↑r,↑p,N,M]);si (xs:=xs) (ys:=ys) I_ (au.refl _,U,(_,_,U,),) (λi o l h=>(P8<|h.1 _ _ k,P8<|h.1 _ _ j,)) (λi x y o l T X W h S=>?_) (λo l h=>?_)),)
 .let(O,v,(N,M,rfl)):=h;let s2:=O.trans<|ai S<|.tup [x,y];let L:upd l T (.tup [x,y]) T=Nc (.tup [x,y]):=ae;generalize upd l T (.tup [x,y])=H2 at s2 L⊢;let(a,d,rfl,u,hd):=G.get X;let(b,e,rfl,J,I):=D.get W;calc(T,_,U,P9 L,U,_,_,U,_,_,U,U,?_,);by_cases c:d=e
  .refine(a,b,d,e,Nf,U,hd.same s2,I.same s2,(λ_=>c,λ_=>U,),_,U,bJ (s2,?_,(_,_,U,),),);rw[take_snoc u,take_snoc J,v,c]
  .refine(a,b,d,e,Ng,U,hd.same s2,I.same s2,((λz=>by cases z),λz=>Nl z c,),_,U,dh ((by show 1<=JR;decide),C (λz=>?_) _ s2,),);rw[z,J]at u;cases u;exact c U
 .refine q ?_ _ h.1;let:=h.2.1;rw[kW (by rw[←n];first|exact uN _|lia),kW (by rw[←m];first|exact uN _|lia)]at this;calc this
def HE(F:Fun K "__init__" "Numbers.__init__" Y12 f fd)(bl:Bl K mg Y)(e:cH CX0 P w K mg base 1 "Domain" "__init__" ["self","low","high"] (b7 K Y)):() 2 f fd ["self","low","high"] (bj K Y):=by
 refine F.okA Z12 λj A a s H k Q E d h=>?_
 let(x,g,lo,hi,rfl,c,i,q):=h
 refine(_,(aq (aS (aO lK (pv 1) (pv 2)<|aI _)
  (ak cI)
  aD)
  (ak<|bq<|gN e bC d U<|aa (pv 0)<|aa (pv 1)<|aa (pv 2) ag)),?_,)
 show(let b:TS:=_;aX _ b _ _ _);intro _;calc(_,_,U,U,_,U,kC ∅ (x,g,lo,hi,U,c,q,),)
def O_4(F:Fun K "__init__" "First.__init__" Y4 f fd)(bl:Bl K mg Y)(e:cH CX0 P w K mg base 1 "Way" "__init__" ["self","called"] (cR K Y)):() 2 f fd ["self"] (J0 K Y):=by
 refine F.ok Z4 (λd H Q E h=>?_)<|λi A a s H d Q E g h=>?_
 .let(x,c,rfl,b,q):=h;rfl
 let(x,c,rfl,b,q):=h;calc(_,(ak<|bq<|gN e bC g U<|aa (pv 0)<|aa aR ag),?_,);calc(x,c,_,U,b,q,)
def HF(F:Fun K "__init__" "Only.__init__" Y13 f fd)(bl:Bl K mg Y)(e:cH CX0 P w K mg base 1 "Way" "__init__" ["self","called"] (dc K Y)):() 2 f fd ["self"] (J8 K Y):=by
 refine F.ok Z13 (λd H Q E h=>?_)<|λi A a s H d Q E g h=>?_
 .let(x,c,rfl,b,q):=h;rfl
 let(x,c,rfl,b,q):=h;calc(_,(ak<|bq<|gN e bC g U<|aa (pv 0)<|aa aR ag),?_,);calc(x,c,_,U,b,q,)
def O_8(F:Fun K "__init__" "Like.__init__" Y8 f fd)(bl:Bl K mg Y)(e:cH CX0 P w K mg base 1 "Way" "__init__" ["self","called"] (de K Y)):() 2 f fd ["self"] (J4 K Y):=by
 refine F.ok Z8 (λd H Q E h=>?_)<|λi A a s H d Q E g h=>?_
 .let(x,c,rfl,b,q):=h;rfl
 let(x,c,rfl,b,q):=h;calc(_,(ak<|bq<|gN e bC g U<|aa (pv 0)<|aa aR ag),?_,);calc(x,c,_,U,b,q,)
def HG(F:Fun K "__init__" "Low.__init__" Y10 f fd)(bl:Bl K mg Y)(e:cH CX0 P w K mg base 1 "Way" "__init__" ["self","called"] (dF K Y)):() 2 f fd ["self"] (J6 K Y):=by
 refine F.ok Z10 (λd H Q E h=>?_)<|λi A a s H d Q E g h=>?_
 .let(x,c,rfl,b,q):=h;rfl
 let(x,c,rfl,b,q):=h;calc(_,(ak<|bq<|gN e bC g U<|aa (pv 0)<|aa aR ag),?_,);calc(x,c,_,U,b,q,)
def O_6(F:Fun K "__init__" "High.__init__" Y6 f fd)(bl:Bl K mg Y)(e:cH CX0 P w K mg base 1 "Way" "__init__" ["self","called"] (df K Y)):() 2 f fd ["self"] (J2 K Y):=by
 refine F.ok Z6 (λd H Q E h=>?_)<|λi A a s H d Q E g h=>?_
 .let(x,c,rfl,b,q):=h;rfl
 let(x,c,rfl,b,q):=h;calc(_,(ak<|bq<|gN e bC g U<|aa (pv 0)<|aa aR ag),?_,);calc(x,c,_,U,b,q,)
def HH(F:Fun K "__init__" "Sum.__init__" Y15 f fd)(bl:Bl K mg Y)(e:cH CX0 P w K mg base 1 "Way" "__init__" ["self","called"] (dG K Y)):() 2 f fd ["self"] (J10 K Y):=by
 refine F.ok Z15 (λd H Q E h=>?_)<|λi A a s H d Q E g h=>?_
 .let(x,c,rfl,b,q):=h;rfl
 let(x,c,rfl,b,q):=h;calc(_,(ak<|bq<|gN e bC g U<|aa (pv 0)<|aa aR ag),?_,);calc(x,c,_,U,b,q,)
def O_2(F:Fun K "has_code" "Domain.has_code" Y2 f fd)(bl:Bl K mg Y)(e:⟨⟩ 1 "is_whole" ["value"] (gQ K Y)):() 2 f fd ["self","value"] (b8 K Y):=by
 refine F.okA Z2 λn A c s H o Q E g h=>?_
 let(a,b,i,rfl,(p,fs,d,j,k,_),m,l,q):=h;calc(_,(ak<|av<|fS (aM e g U<|aa (pv 1) ag)<|fR<|ot gL gL (aU (pv 0) U) (pv 1)<|aU (pv 0) U),?_,);calc(i,U,_,U,dh ?_,);calc(a,_,_,_,_,U,d,bl.k_Numbers,bl.na_Numbers_low,j,_,_,U,U,_,U,lP m ?_,);calc(a,_,_,_,_,U,d,bl.k_Numbers,bl.na_Numbers_high,k,_,_,U,U,?_,);show Q (.bl<|Nh<|i<=b.2) H;rw[Nm l];calc q
def O_3(F:Fun K "has_code" "Domain.has_code" Y3 f fd)(bl:Bl K mg Y)(e:⟨⟩ 1 "is_whole" ["value"] (gQ K Y)):() 2 f fd ["self","value"] (cE K Y):=by
 refine F.okA Z3 λn A c s H o Q E g h=>?_
 let(a,b,i,rfl,(p,fs,d,j,k,_),m,l,q):=h;calc(_,(ak<|av<|fS (aM e g U<|aa (pv 1) ag)<|fR<|ot gL gL (aU (pv 0) U) (pv 1)<|aU (pv 0) U),?_,);calc(i,U,_,U,dh ?_,);calc(a,_,_,_,_,U,d,bl.k_Words,bl.na_Words_low,j,_,_,U,U,_,U,lP m ?_,);calc(a,_,_,_,_,U,d,bl.k_Words,bl.na_Words_high,k,_,_,U,U,?_,);show Q (.bl<|Nh<|i<=b.2) H;rw[Nm l];calc q
def HI(F:Fun K "verdict" "Way.verdict" Y24 f fd)(bl:Bl K mg Y)(u:bz CX0 P w K mg base 1 Y.j "chosen" ["self","codes","outcome"] (J1 K Y)):() 2 f fd ["self","codes","outcome"] (J12 K Y):=by
 refine F.ok Z24 (λp H Q E h=>?_)<|λB A i s H p Q E y h=>?_
 .let(x,c,o,a,b,rfl,(m,z,e),k,d,g,l,q):=h;rfl
 let(x,c,o,a,b,rfl,(m,z,e),k,d,g,l,q):=h
 refine(_,(aq (aS (dB<|dH (pv 1) (by intro _;rfl))
  (ak<|av<|bB (v:=.ref Y.t) U bl.NONE_ U)
  aD)
  (ak<|av<|rb u bC bl.k_First y (pv 0)<|aa (pv 1)<|aa (pv 2) ag)),?_,)
 dsimp only[br,Qb,Qa];show(let r:TS:=_;aX _ r _ _ _);intro _;calc(!(a.map pi).isEmpty,.inl (_,g,U,),?_,);cases a with
 |nil=>exact dh (q _ _ (au.refl _)<|.inr bl.q_NONE)
 |cons n a=>calc bJ (x,_,_,U,e,U,x,c,o,n,a,b,U,(m,z,e,),k,d,g,yl l,q,)
def HJ(F:Fun K "verdict" "Way.verdict" Y28 f fd)(bl:Bl K mg Y)(u:bz CX0 P w K mg base 1 Y.k "chosen" ["self","codes","outcome"] (J9 K Y)):() 2 f fd ["self","codes","outcome"] (J16 K Y):=by
 refine F.ok Z28 (λp H Q E h=>?_)<|λB A i s H p Q E y h=>?_
 .let(x,c,o,a,b,rfl,(m,z,e),j,d,g,l,q):=h;rfl
 let(x,c,o,a,b,rfl,(m,z,e),j,d,g,l,q):=h
 refine(_,(aq (aS (dB<|dH (pv 1) (by intro _;rfl))
  (ak<|av<|bB (v:=.ref Y.t) U bl.NONE_ U)
  aD)
  (ak<|av<|rb u bC bl.k_Only y (pv 0)<|aa (pv 1)<|aa (pv 2) ag)),?_,)
 dsimp only[br,Qb,Qa];show(let r:TS:=_;aX _ r _ _ _);intro _;calc(!(a.map pi).isEmpty,.inl (_,g,U,),?_,);cases a with
 |nil=>exact dh (q _ _ (au.refl _)<|.inr bl.q_NONE)
 |cons n a=>calc bJ (x,_,_,U,e,U,x,c,o,n,a,b,U,(m,z,e,),j,d,g,yl l,q,)
def HK(F:Fun K "verdict" "Way.verdict" Y26 f fd)(bl:Bl K mg Y)(u:bz CX0 P w K mg base 1 Y.l "chosen" ["self","codes","outcome"] (J5 K Y)):() 2 f fd ["self","codes","outcome"] (J14 K Y):=by
 refine F.ok Z26 (λp H Q E h=>?_)<|λB A i s H p Q E y h=>?_
 .let(x,c,o,a,b,rfl,(m,z,e),j,d,g,k,q):=h;rfl
 let(x,c,o,a,b,rfl,(m,z,e),j,d,g,k,q):=h
 refine(_,(aq (aS (dB<|dH (pv 1) (by intro _;rfl))
  (ak<|av<|bB (v:=.ref Y.t) U bl.NONE_ U)
  aD)
  (ak<|av<|rb u bC bl.k_Like y (pv 0)<|aa (pv 1)<|aa (pv 2) ag)),?_,)
 dsimp only[br,Qb,Qa];show(let r:TS:=_;aX _ r _ _ _);intro _;calc(!(a.map pi).isEmpty,.inl (_,g,U,),?_,);cases a with
 |nil=>exact dh (q _ _ (au.refl _)<|.inr bl.q_NONE)
 |cons n a=>calc bJ (x,_,_,U,e,U,x,c,o,n,a,b,U,(m,z,e,),j,d,g,yl k,q,)
def HL(F:Fun K "verdict" "Way.verdict" Y27 f fd)(bl:Bl K mg Y)(u:bz CX0 P w K mg base 1 Y.m "chosen" ["self","codes","outcome"] (J7 K Y)):() 2 f fd ["self","codes","outcome"] (J15 K Y):=by
 refine F.ok Z27 (λp H Q E h=>?_)<|λB A i s H p Q E y h=>?_
 .let(x,c,o,a,b,rfl,(l,z,e),j,d,g,k,q):=h;rfl
 let(x,c,o,a,b,rfl,(l,z,e),j,d,g,k,q):=h
 refine(_,(aq (aS (dB<|dH (pv 1) (by intro _;rfl))
  (ak<|av<|bB (v:=.ref Y.t) U bl.NONE_ U)
  aD)
  (ak<|av<|rb u bC bl.k_Low y (pv 0)<|aa (pv 1)<|aa (pv 2) ag)),?_,)
 dsimp only[br,Qb,Qa];show(let r:TS:=_;aX _ r _ _ _);intro _;calc(!(a.map pi).isEmpty,.inl (_,g,U,),?_,);cases a with
 |nil=>exact dh (q _ _ (au.refl _)<|.inr bl.q_NONE)
 |cons n a=>calc bJ (x,_,_,U,e,U,x,c,o,n,a,b,U,(l,z,e,),j,d,g,yl k,q,)
def HM(F:Fun K "verdict" "Way.verdict" Y25 f fd)(bl:Bl K mg Y)(r:bz CX0 P w K mg base 1 Y.n "chosen" ["self","codes","outcome"] (J3 K Y)):() 2 f fd ["self","codes","outcome"] (J13 K Y):=by
 refine F.ok Z25 (λm H Q E h=>?_)<|λy A i s H m Q E u h=>?_
 .let(x,c,o,a,b,rfl,(l,z,e),j,d,g,k,q):=h;rfl
 let(x,c,o,a,b,rfl,(l,z,e),j,d,g,k,q):=h
 refine(_,(aq (aS (dB<|dH (pv 1) (by intro _;rfl))
  (ak<|av<|bB (v:=.ref Y.t) U bl.NONE_ U)
  aD)
  (ak<|av<|rb r bC bl.k_High u (pv 0)<|aa (pv 1)<|aa (pv 2) ag)),?_,)
 dsimp only[br,Qb,Qa];show(let p:TS:=_;aX _ p _ _ _);intro _;calc(!(a.map pi).isEmpty,.inl (_,g,U,),?_,);cases a with
 |nil=>exact dh (q _ _ (au.refl _)<|.inr bl.q_NONE)
 |cons n a=>calc bJ (x,_,_,U,e,U,x,c,o,n,a,b,U,(l,z,e,),j,d,g,yl k,q,)
def HN(F:Fun K "verdict" "Way.verdict" Y29 f fd)(bl:Bl K mg Y)(r:bz CX0 P w K mg base 1 Y.o "chosen" ["self","codes","outcome"] (J11 K Y)):() 2 f fd ["self","codes","outcome"] (J17 K Y):=by
 refine F.ok Z29 (λm H Q E h=>?_)<|λy A i s H m Q E u h=>?_
 .let(x,c,o,a,b,rfl,(l,z,e),j,d,g,k,q):=h;rfl
 let(x,c,o,a,b,rfl,(l,z,e),j,d,g,k,q):=h
 refine(_,(aq (aS (dB<|dH (pv 1) (by intro _;rfl))
  (ak<|av<|bB (v:=.ref Y.t) U bl.NONE_ U)
  aD)
  (ak<|av<|rb r bC bl.k_Sum u (pv 0)<|aa (pv 1)<|aa (pv 2) ag)),?_,)
 dsimp only[br,Qb,Qa];show(let p:TS:=_;aX _ p _ _ _);intro _;calc(!(a.map pi).isEmpty,.inl (_,g,U,),?_,);cases a with
 |nil=>exact dh (q _ _ (au.refl _)<|.inr bl.q_NONE)
 |cons n a=>calc bJ (x,_,_,U,e,U,x,c,o,n,a,b,U,(l,z,e,),j,d,g,yl k,q,)
def HP(F:Fun K "grain" "grain" Y48 f fd)(bl:Bl K mg Y)(Z:⟨⟩ 2 "cut_columns" ["bounds","marks"] (eL K Y)):() 3 f fd ["bounds","marks"] (pG K Y):=by
 refine F.okA Z49 λa3 A G s H vs Q E o h=>?_
 let(a,b,O,ps,as,c,rfl,ha,hP,hb,hM,hok,q):=h
 refine(_,(aq (aK (i:=2) Z49.nd U (bv U) aj)
  (aq (cJ wn U (bw<|aM Z o U<|aa (pv 0)<|aa (pv 1) ag) (aE (i:=3) Z49.nd U<|bv U)
  (ak<|uY (i:=2) Z49.nd U (bv U) (ay aG U bl.len_ Nb<|aa (pv 3) ag) Dz))
  (ak<|av<|pv 2))),?_,)
 dsimp only[br,Qb,Qa];show(let T:TS:=_;let W:TS:=aX _ T;aX _ W _ _ _);intro _ _;calc(a,b,O,ps,as,c,U,ha,hP,hb,hM,hok,λl xs N D S L a2 C I=>?_,);let(a1,a0,x):=hok;let z:⇑xs=⇑ps:=by rw[I.1,jO];lia
 refine(l,U,(_,P8 L,),(let I_:Nat->Qc:=λi d k=>k=N/\∃v:Option V,d=[↑a,↑b,Nc<|.int ((gr ps c i:Nat):Int),v];cO (xs:=xs) I_ (U,Nd,U,) (λi d k _ h=>by rw[h.1];exact P8 L) (λi y d k e h=>?_) (λd k h=>?_)),)
 .let(u,v,rfl):=h;rw[u];let(r,n,rfl,g,R,o,hp):=aN.get I e;let hi:i<⇑xs:=(JP.mp e).1;let(p,t):∃p,ps[i]?=Nc p:=(_,JO ∅,);let(j,M):∃j,D[i]?=Nc j:=(_,JO ∅,);let(m,J):∃m,c[i]?=Nc m:=(_,JO ∅,);let(B,X,_):=C i p m j t J M;rw[ml,t,M]at g;let g:bX p.1 p.2 j=n:=bn g;let hl:R.length=gl ps c i:=by
   rw[⇑hp,←g,gf,sL B X];unfold gl;rw[en,t,en,J];rfl
  let b1:=CG (ps:=ps) x i;let b2:(401:Nat)^i<=401^6:=Py ⋯ ∅;let b3:(401:Nat)^3<2^64:=⋯
  calc(_,U,r,_,U,.inl<|P8 o,_,_,U,U,yS.ok<|.inl (∅,∅,),U,↑r,?_,);rw[hl];show[Nc (Qf a),↑b,Nc<|.int<|((gr ps c i:Nat):Int)*((gl ps c i:Nat):Int),↑r]=_;rw[show gr ps c (i+1)=gr ps c i*gl ps c i from U,OP]
 .let(u,v,rfl):=h;rw[u,z];calc(q N S)
def HQ(F:Fun K "refuse_names" "refuse_names" Y77 f fd)(bl:Bl K mg Y)(x:⟨⟩ 2 "is_word" ["text"] (i5 K Y)):() 3 f fd ["names"] (fG K Y):=by
 refine F.okA Z79 λN A t s H O Q E D h=>?_
 let(p,a,rfl,n,C,G,R,q):=h
 refine(_,(aJ (cJ wn U (bw<|pv 0) (aE (i:=1) Z79.nd U<|bv U)
  (ak (aS (dB<|cA<|aM x D U<|aa (pv 1) ag)
  (ak cI)
  aD)))
  (ak (aS (aO oq (ay kB U bl.len_ Nb<|aa (bE (kz U) U bl.set_ Fa<|aa (pv 0) ag) ag) (ay aG U bl.len_ Nb<|aa (pv 0) ag)<|aI _)
  (ak cI)
  aD))),?_,)
 dsimp only[br,Qb,Qa];show(let v:TS:=_;bY _ v _ _ _);intro _;let k:⇑(a.map Qe)=⇑a:=af _;refine(let o:Qc:=λr b=>b=H/\∃c:Option V,r=[↑p,c];(o,?_,?_,))
 .refine(p,U,(_,n,),(let o:Nat->Qc:=λi m b=>b=H/\∃c:Option V,m=[↑p,c];cO (xs:=a.map Qe) o (U,_,U,) (λi m b _ h=>by rw[h.1];exact n) (λi y m b e h=>?_) (λm b h=>h)),);let(L,c,rfl):=h;rw[L];let(z,rfl,I):=lW e;let d:=C z<|JQ I;let B:⇑z<=1000:=by
   let g:=d;unfold isw at g;simp only[EY,decide_eq_true_eq]at g;lia
  calc(z,U,B,_,U,?_,);rw[d];exact bJ (U,_,U,)
 rintro M S ⟨J,c,rfl⟩;rw[J];calc(p,a,U,n,∅,λl j=>(l,a,U,ae,∅,p,_,U,.inl<|(ai j _).seq n,_,_,U,U,_,U,?_,),);let u:=mI a ⇑a<|uN _;rw[fo]at u;calc kC (by rw[k,u.mpr G];lia) (q _<|ai j _)
def HR(F:Fun K "refuse_row" "refuse_row" Y78 f fd)(bl:Bl K mg Y)(gF:bz CX0 P w K mg base 2 Y.q "has_code" ["self","value"] (b8 K Y))(iE:bz CX0 P w K mg base 2 Y.r "has_code" ["self","value"] (cE K Y)):() 3 f fd ["domains","outcome","cells","code"] (hV K Y):=by
 refine F.okA Z80 λa1 A X s H vs Q E hr h=>?_
 let(v,m,cl,dv,xs,bs,o,t,rfl,M,G,hO,hC,I,ok,q):=h
 refine(_,(aq (aS (aO km (ay aG U bl.len_ Nb<|aa (pv 2) ag) (ay aG U bl.len_ Nb<|aa (pv 0) ag)<|aI _)
  (ak cI)
  aD)
  (aJ (cJ wn U (se U bl.zip_<|aa (pv 0)<|aa (pv 2) ag) (fA U<|aF (aE (i:=4) Z80.nd U<|bv U)<|aF (aE (i:=5) Z80.nd U<|bv U) bI)
  (ak (cJ wn U (bw<|pv 5) (fA U<|aF (aE (i:=6) Z80.nd U<|bv U)<|aF (aE (i:=7) Z80.nd U<|bv U) bI)
  (ak (aS (PW.pt<|yK (aO oq (pv 6) (aU (pv 4) U)<|aI _)<|yJ<|aO lK (pv 7) (aU (pv 4) U)<|aI _)
  (ak cI)
  aD)))))
  (ak (aS (dB<|cA<|zH (t7 gF bl.k_Numbers<|t7 iE bl.k_Words E1) bC hr (pv 1)<|aa (pv 3) ag)
  (ak cI)
  aD)))),?_,)
 dsimp only[br,Qb,Qa];show(let r2:TS:=_;let r1:TS:=bY _ r2;aX _ r1 _ _ _);intro _ _;let W:∀(C:Jr),(C=Y.q\/C=Y.r)->Cls K C/\NoAttr K C s!"low"/\NoAttr K C s!"high":=λC h=>by
  rcases h with rfl|rfl
  .exact(bl.k_Numbers,bl.na_Numbers_low,bl.na_Numbers_high,)
  .exact(bl.k_Words,bl.na_Words_low,bl.na_Words_high,)
 let J:⇑xs=⇑dv:=by rw[I.1,ok.len,G.1]
 refine(cl,_,U,.inl<|P8 hC,v,_,U,.inl<|M,U,_,U,ER (by rw[J]) ?_,);refine(let D:Qc:=λR c=>au H c/\E4 λB z k g:Option V=>R=[↑v,↑m,↑cl,Nc<|.int t.2,B,z,k,g];(D,?_,?_,))
 .refine(v,cl,U,(_,M,),(_,P8 hC,),(let D:Nat->Qc:=λi d c=>au H c/\E4 λB z k g:Option V=>d=[↑v,↑m,↑cl,Nc<|.int t.2,B,z,k,g];si (xs:=dv) (ys:=xs) D (au.refl _,_,_,_,_,U,) (λi d c h=>(h.1.seq M,P8<|h.1 _ _ hC,)) (λi x y d c T ex ey h hT=>?_) (λd c h=>h)),);let(sm,B,z,k,g,rfl):=h;let s2:=sm.trans<|ai hT<|.tup [x,y];let eT:upd c T (.tup [x,y]) T=Nc (.tup [x,y]):=ae;generalize upd c T (.tup [x,y])=H2 at s2 eT⊢;let(a,b,rfl,eb,hb):=G.get ex;let(l,ps,rfl,ep,hl):=aN.get I ey;let(C,n,O,fs,u,f1,f2,_):=hb.same s2;let(Z,k2,k3):=W C n;let(_,ys,el,hp):=hl.same s2;calc(T,_,U,P9 eT,U,_,_,U,_,_,U,U,?_,);refine(l,U,(_,P8 el,),(let D:Nat->Qc:=λj d c=>c=H2/\E2 λk g:Option V=>d=[↑v,↑m,↑cl,Nc<|.int t.2,↑a,↑l,k,g];cO (xs:=ys) D (U,_,_,U,) (λj d c _ h=>by rw[h.1];exact P8 el) (λj y d c e h=>?_) (λd c h=>?_)),)
  .let(N,k,g,rfl):=h;rw[N];let(p,r,e1,rfl,S):=hp.get e;let(i1,i2):=ok.inn i ps b ep eb p<|JQ e1;calc(r,_,U,P9 S,U,_,_,U,_,_,U,U,?_,);calc(a,_,_,_,_,U,u,Z,k2,f1,_,_,U,U,_,U,kC ∅ ?_,);exact(a,_,_,_,_,U,u,Z,k3,f2,_,_,U,U,_,U,kC ∅ (U,_,_,U,),)
  .let(N,k,g,rfl):=h;rw[N];exact(s2,_,_,_,_,U,)
 rintro a0 H3 ⟨L,B,z,k,g,rfl⟩;let(C,n,hd):=hO.same L;let(O,fs,u,f1,f2,f3):=id hd;rcases n with rfl|rfl
 .exact(m,_,O,fs,U,.head _,u,f3,m,o,t.2,U,hd,ok.lo,ok.hi,_,U,bJ<|q _ L,)
 .exact(m,_,O,fs,U,.tail _<|.head _,u,f3,m,o,t.2,U,hd,ok.lo,ok.hi,_,U,bJ<|q _ L,)
def HS(F:Fun K "mask" "mask" Y71 f fd)(bl:Bl K mg Y)(D7:⟨⟩ 2 "fits" ["table","k","codes"] (sW K Y)):() 3 f fd ["table","codes"] (ma K Y):=by
 refine F.okA Z73 λa4 A z s H vs Q E S h=>?_
 let(t,c,a,wi,o,j,rfl,(G,ou,Z,fs,r,wy,J,M,a2,a3,m,O,a0,a1,R,pC),W,p,q):=h;calc(_,(ak<|av<|ay (ku U) U bl.sum_ OJ<|aa (fj (d9 U bl.range_<|aa (ay aG U bl.len_ Nb<|aa (aU (pv 0) U) ag) ag) (dQ (N:=["k","table","codes"]) (fr:=[0,1]) (cl:=[("table",↥s+1),("codes",↥s+1+1)]) U U (~~~0) (~~~0) U (~~~0) U U U (gg.mpr (U,gg.mpr (U,iF _,),)) U) U (λ_ _ _ _=>(jQ<|cA<|aM D7 S U<|aa (pv 1)<|aa (pv 0)<|aa (pv 2) ag))<|λ_ _ _ _=>(az yT aj<|pv 0)) ag),?_,);let l:⇑r=⇑a:=O.1
 refine(t,_,_,_,_,U,J,bl.k_Table,bl.na_Table_rows,M,G,_,U,.inl<|P8 m,_,U,(by show -(2^62)<=((⇑r:Nat):Int);lia),(by show((⇑r:Nat):Int)<2^62;lia),fZ (λD i zs k=>au H k/\k D=Nc (.lst zs)/\∃b:Nt Int,zs=b.map pi/\b.sum=((msk (ka a j) i:Nat):Int)/\⇑b<=i)
  (λD u=>(ai u _,ae,[],U,U,ve _,)) (λD i zs k u hi h=>?_) (λD zs k u h=>?_),)
 .let(d,x,b,rfl,g,T):=h;let y:i<⇑a:=by first|lia|(rw[←l];lia)
  let(e,v):∃e,a[i]?=Nc e:=(_,JO y,);let L:a.getD i ([],0)=e:=getD_at v;refine(t,G,c,Z,fs,r,a,i,e,j,by rw[NK],d _ _ J,M,d _ _ m,O.same d,v,d.seq W,p e<|JQ v,λH3 C=>(_,U,?_,),);let B:=d.trans C;let n:=C _ _ x;cases hb:kM e.1 j with
  |true =>
   refine dh (_,_,U,U,(∅,∅,⋯,),dR.mk hi n (aC (by rw[af];lia)) (B.upd u,ae,b++[1*2^(0+(i:Int)).toNat],by simp,?_,by simp;lia,),);let X:(0+(i:Int)).toNat=i:=∅
   rw[X,List.sum_append,g,l7,show ka a j i=Nf by unfold ka;rw[L];exact hb];simp;lia
  |false =>
   calc bJ<|eP.mk (zs:=b.map pi) hi (B,n,b,U,?_,∅,);rw[g,l7,show ka a j i=Ng by unfold ka;rw[L];exact hb];simp
 .let(d,x,b,rfl,g,T):=h;rw[FG]at g;calc(D,b,U,P8 x,?_,);let I:=q k d;rw[←l,←g]at I;calc I
def HU(F:Fun K "table_marks" "table_marks" Y86 f fd)(bl:Bl K mg Y)(pJ:⟨⟩ 2 "column_marks" ["table","column"] (fF K Y)):() 3 f fd ["table"] (gi K Y):=by
 refine F.okA Z89 λa4 A a0 s H vs Q E hr h=>?_
 let(t,G,bs,o,L,rfl,u,hb,W,v7,M,hL,q):=h;calc(_,(ak<|av<|fj (d9 U bl.range_<|aa (ay aG U bl.len_ Nb<|aa (aU (pv 0) U) ag) ag) (dQ (N:=["column","table"]) (fr:=[0]) (cl:=[("table",↥s+1)]) U U (~~~0) (~~~0) U (~~~0) U U U (gg.mpr (U,iF _,)) U) U (λ_ _ _ _=>cG)<|λ_ _ _ _=>(aM pJ hr U<|aa (pv 1)<|aa (pv 0) ag)),?_,);let(rl,dx,dl,fs,xs,ht,f1,f2,X,O,a3,hR):=id u;let a1:G.length=⇑bs:=O.1;refine⟨t,_,_,_,_,U,ht,bl.k_Table,bl.na_Table_domains,f2,dl,_,U,.inl<|P8 X,_,U,(by show -(2^62)<=((G.length:Nat):Int);lia),(by show((G.length:Nat):Int)<2^62;lia),(let I_:Jr->Nat->Nt V->Qd:=λD i v d=>au H d/\d D=Nc (.lst v)/\∃(m:Nt Jr)(a:Nt (Nt Int)),v=m.map Qf/\MLs (hide d D) m a/\⇑a=i/\∀(c:Nat)(b:Int×Int)(j:Nt Int),bs[c]?=Nc b->a[c]?=Nc j->j.Pairwise (· < ·)/\∀x,x∈j↔MkC o c b x;fZ I_ (λD n=>(ai n _,ae,[],[],U,MLs.nil,U,λc b j _ e=>by simp at e,)) (λD i v d n hi h=>?_) (λD v d n h=>?_))⟩
 .let(y,C,m,a,rfl,B,p,g):=h;let r:i<⇑bs:=∅
  let(b,I):∃b,bs[i]?=Nc b:=(_,JO r,);let(T,S):=hL i b I;refine(t,i,G,bs,o,b,L i,by rw[NK],u.same y,I,W,λw hw=>by rw[v7 w hw];exact r,M i,T,S,λl cs H2 s2 nl el pw hm=>?_,);let Z:=s2 _ _ C;let nD:l≠D:=λz=>by rw[z,C]at nl;cases nl
  let a2:=B.1;refine dR.mk hi Z (aC (by rw[af];lia)) ((y.trans s2).upd n,ae,m++[l],a++[cs],by rw[eN];rfl,?_,by rw[cb,dV,p],λc b' j J k=>?_,)
  .rw[pe];exact MLs.snoc (B.same<|mW s2)<|fk el nD
  .by_cases hc:c<⇑a
   .rw[iv hc]at k;exact g c b' j J k
   .rw[kc ∅]at k;let h0:=(JP.mp k).1;rw[dV]at h0;let R:c=i:=∅
    subst R;rw[I]at J;cases J;rw[show c-⇑a=0 by lia]at k;cases k;exact(pw,hm,)
 .let(y,C,m,a,rfl,B,p,g):=h;calc q D m a d y n C (B.same<|sP d D) ∅ g
def HW(F:Fun K "refuse_unlike" "refuse_unlike" Y79 f fd)(bl:Bl K mg Y)(Z:aV P w K mg base 2 "refuse_unlike_domains" ["ones","others"] (cD K Y)):aL P w K mg base (CX1 P w) 3 f fd ["one","other"] (eZ K Y):=by
 refine F.okEA Z81 λa0 A J s H vs Q E hr h=>?_
 let(t,u,d,S,a,b,ds,es,rfl,(dx,dl,fs,O,f1,f2,I),(dy,el,gs,N,g1,g2,G),hd,R,l1,l2,W,q):=h;calc(_,(ak<|bq<|ck Z passE hr U<|aa (az fW (aU (pv 0) U)<|aY<|aa (aU (pv 0) U) ag)<|aa (az fW (aU (pv 1) U)<|aY<|aa (aU (pv 1) U) ag) ag),?_,);let D:=hd.1;let C:=R.1;rw[cb,dV]at D C;refine(t,_,_,_,_,U,O,bl.k_Table,bl.na_Table_domains,f1,t,_,_,_,_,U,O,bl.k_Table,bl.na_Table_outcome,f2,(by show 1<=JR;decide),λj y=>?_,);let n:=ai y<|.lst [.ref a];let V:upd H j (.lst [.ref a]) j=Nc (.lst [.ref a]):=ae;generalize upd H j (.lst [.ref a])=H1 at n V⊢;refine(dl,j,_,_,U,U,n _ _ I,V,vl<|aC (by show ⇑d+1<=1000;lia),λi x=>?_,);let M:=ai x<|.lst<|d++[.ref a];let s2:=n.trans M;let c:upd H1 i (.lst<|d++[.ref a]) i=Nc (.lst<|d++[.ref a]):=ae;generalize upd H1 i (.lst<|d++[.ref a])=H2 at s2 c⊢;clear M;refine(u,_,_,_,_,U,s2 _ _ N,bl.k_Table,bl.na_Table_domains,g1,u,_,_,_,_,U,s2 _ _ N,bl.k_Table,bl.na_Table_outcome,g2,(by show 1<=JR;decide),λg v=>?_,);let k:=ai v<|.lst [.ref b];let m:=s2.trans k;let T:upd H2 g (.lst [.ref b]) g=Nc (.lst [.ref b]):=ae;let c:=k _ _ c;generalize upd H2 g (.lst [.ref b])=H3 at m T c⊢;clear k;refine(el,g,_,_,U,U,m _ _ G,T,vl<|aC (by show S.length+1<=1000;lia),λX r=>?_,);let L:=ai r<|.lst<|S++[.ref b];let e:=m.trans L;calc(i,X,_,_,ds,es,U,L _ _ c,ae,aN.mono hd λ_ _ p=>p.same e,aN.mono R λ_ _ p=>p.same e,λz o l=>W z o<|e.trans l,λB o l=>q B o<|e.trans l,)
def HX(F:Fun K "__init__" "Words.__init__" Y30 f fd)(bl:Bl K mg Y)(iG:cH CX0 P w K mg base 2 "Domain" "__init__" ["self","low","high"] (cC K Y))(m6:⟨⟩ 2 "is_word" ["text"] (i5 K Y)):() 3 f fd ["self","words"] (bR K Y):=by
 refine F.okA Z30 λa2 A S s H vs Q E X h=>?_
 let(x,d,p,a,rfl,T,L,G,q):=h
 refine(_,(aq (aS (dB<|jq gL gL aj (ay aG U bl.len_ Nb<|aa (pv 1) ag)<|kv U bl.MOST_WORDS_)
  (ak cI)
  aD)
  (aJ (cJ wn U (bw<|pv 1) (aE (i:=2) Z30.nd U<|bv U)
  (ak (aS (dB<|cA<|aM m6 X U<|aa (pv 2) ag)
  (ak cI)
  aD)))
  (aq (aS (aO oq (ay kB U bl.len_ Nb<|aa (bE (kz U) U bl.set_ Fa<|aa (pv 1) ag) ag) (ay aG U bl.len_ Nb<|aa (pv 1) ag)<|aI _)
  (ak cI)
  aD)
  (aq (bq<|gN iG bC X U<|aa (pv 0)<|aa aj<|aa (az eS (ay aG U bl.len_ Nb<|aa (pv 1) ag) aj) ag)
  (ak<|cY (pv 0) (bE fM U bl.list_ Ev<|aa (pv 1) ag) U))))),?_,)
 dsimp only[br,Qb,Qa];show(let r4:TS:=_;let r3:TS:=aX _ r4;let r2:TS:=aX _ r3;let r1:TS:=bY _ r2;aX _ r1 _ _ _);intro _ _ _ _;let t:SqL K H p (a.map Qe):=P8 L;let B:p≠x:=kl L T (by intro z;cases z);let c:⇑(a.map Qe)=⇑a:=af _;let h1:=G.some_;let a1:=G.few;refine(p,_,U,.inl t,_,_,U,U,_,U,lP (by rw[c];lia) ?_,);calc(_,_,U,U,_,U,?_,);rw[Nm (show((⇑(a.map Qe):Nat):Int)<=40 by rw[c];lia)];calc bJ ?_;refine(let N:Qc:=λO k=>k=H/\∃u:Option V,O=[↑x,↑p,u];(N,?_,?_,))
 .refine(p,U,(_,t,),(let N:Nat->Qc:=λi D k=>k=H/\∃u:Option V,D=[↑x,↑p,u];cO (xs:=a.map Qe) N (U,_,U,) (λi D k _ h=>by rw[h.1];exact t) (λi y D k e h=>?_) (λD k h=>h)),);let(e0,u,rfl):=h;rw[e0];let(z,rfl,ez):=lW e;let W:=G.words z<|JQ ez;let hz:⇑z<=1000:=by
   let v:=W;unfold isw at v;simp only[EY,decide_eq_true_eq]at v;lia
  calc(z,U,hz,_,U,?_,);rw[W];exact bJ (U,_,U,)
 rintro a0 H2 ⟨I,u,rfl⟩;rw[I];calc(p,a,U,t,∅,λl Z=>(l,a,U,ae,∅,p,_,U,.inl<|(ai Z _).seq t,_,_,U,U,_,U,?_,),);let J:=ai Z<|ql P w l a;let cf:=mI a ⇑a<|uN _;rw[fo]at cf;refine kC (by rw[c,cf.mpr G.once];lia) ?_;let R:=J _ _ T;let C:=J _ _ L;calc(p,_,U,.inl<|P8 C,_,_,U,U,x,d,0,_,U,R,?_,);let M:mkd Y.r (upd H l<|ql P w l a) x d 0 (((⇑(a.map Qe):Nat):Int)-1) x=Nc (.ins Y.r d [("low",.int 0),("high",.int<|((⇑(a.map Qe):Nat):Int)-1)]):=ae;let I:mkd Y.r (upd H l<|ql P w l a) x d 0 (((⇑(a.map Qe):Nat):Int)-1) p=Nc (.lst<|a.map Qe):=by unfold mkd;rw[aw B,aw B];exact C
 let e3:∀b o,b≠x->H b=Nc o->mkd Y.r (upd H l<|ql P w l a) x d 0 (((⇑(a.map Qe):Nat):Int)-1) b=Nc o:=λb o n h=>by unfold mkd;rw[aw n,aw n];exact J b o h
 let eh:((⇑(a.map Qe):Nat):Int)-1=hiW a:=by rw[c];rfl
 refine(p,_,U,.inl<|P8 I,λm j=>(x,_,d,_,U,eI M j,bl.k_Words,bl.na_Words_words,(by show 2<1000;decide),?_,),);show Q .non (upd (upd (mkd Y.r (upd H l<|ql P w l a) x d 0<|((⇑(a.map Qe):Nat):Int)-1) m<|.lst<|a.map Qe) x<|.ins Y.r d<|bH s!"words" (.ref m) [(s!"low",.int 0),(s!"high",.int<|((⇑(a.map Qe):Nat):Int)-1)]);rw[put3];let g:mkd Y.r (upd H l<|ql P w l a) x d 0 (((⇑(a.map Qe):Nat):Int)-1) m=none:=j;clear j;generalize mkd Y.r (upd H l<|ql P w l a) x d 0 (((⇑(a.map Qe):Nat):Int)-1)=H2 at M I e3 g⊢;rw[eh];let nl:m≠x:=(aW M g).symm;calc q _ m (λb o n h=>(aw n).trans<|eI (e3 b o n h) g) ae<|(aw nl).trans ae
def HY(F:Fun K "way_by" "way_by" Y89 f fd)(bl:Bl K mg Y)(k_First:bo CX0 P w K mg base 2 "First" Y.j ["self"] (J0 K Y))(k_Only:bo CX0 P w K mg base 2 "Only" Y.k ["self"] (J8 K Y))(k_Like:bo CX0 P w K mg base 2 "Like" Y.l ["self"] (J4 K Y))(k_Low:bo CX0 P w K mg base 2 "Low" Y.m ["self"] (J6 K Y))(k_High:bo CX0 P w K mg base 2 "High" Y.n ["self"] (J2 K Y))(k_Sum:bo CX0 P w K mg base 2 "Sum" Y.o ["self"] (J10 K Y)):() 4 f fd ["name"] (j4 K Y):=by
 refine F.okA Z93 λa3 A a2 s H vs Q E hr h=>?_
 let(z,rfl,hz,q):=h
 refine(_,(aq (cJ wn U (bw<|aY<|aa (mL k_First bC hr U)<|aa (mL k_Only bC hr U)<|aa (mL k_Like bC hr U)<|aa (mL k_Low bC hr U)<|aa (mL k_High bC hr U)<|aa (mL k_Sum bC hr U) ag) (aE (i:=1) Z93.nd U<|bv U)
  (ak (aS (aO bK (aU (pv 1) U) (pv 0)<|aI _)
  (ak<|av<|pv 1)
  aD)))
  (ak cI)),?_,)
 dsimp only[br,Qb,Qa];show(let r1:TS:=_;aX _ r1 _ _ _);intro _;refine λv N c b d=>(v,N,U,ae,U,?_,)
 let t0:au H (upd (upd (upd H N<|.own v) v<|.ins Y.j N []) v<|.ins Y.j N [("called",.str s!"first")]):=((ai b _).upd c).upd c;let B:WyN Y.j (upd (upd (upd H N<|.own v) v<|.ins Y.j N []) v<|.ins Y.j N [("called",.str s!"first")]) v s!"first":=(N,ae,);generalize upd (upd (upd H N<|.own v) v<|.ins Y.j N []) v (.ins Y.j N [("called",.str s!"first")])=H0 at t0 B⊢;clear c b d;refine λu M c b d=>(u,M,U,ae,U,?_,)
 let t1:au H0 (upd (upd (upd H0 M<|.own u) u<|.ins Y.k M []) u<|.ins Y.k M [("called",.str s!"only")]):=((ai b _).upd c).upd c;let D:WyN Y.k (upd (upd (upd H0 M<|.own u) u<|.ins Y.k M []) u<|.ins Y.k M [("called",.str s!"only")]) u s!"only":=(M,ae,);generalize upd (upd (upd H0 M<|.own u) u<|.ins Y.k M []) u (.ins Y.k M [("called",.str s!"only")])=H1 at t1 D⊢;clear c b d;let B:=B.same t1;refine λt L c b d=>(t,L,U,ae,U,?_,)
 let t2:au H1 (upd (upd (upd H1 L<|.own t) t<|.ins Y.l L []) t<|.ins Y.l L [("called",.str s!"like")]):=((ai b _).upd c).upd c;let O:WyN Y.l (upd (upd (upd H1 L<|.own t) t<|.ins Y.l L []) t<|.ins Y.l L [("called",.str s!"like")]) t s!"like":=(L,ae,);generalize upd (upd (upd H1 L<|.own t) t<|.ins Y.l L []) t (.ins Y.l L [("called",.str s!"like")])=H2 at t2 O⊢;clear c b d;let B:=B.same t2;let D:=D.same t2;refine λw3 J c b d=>(w3,J,U,ae,U,?_,)
 let t3:au H2 (upd (upd (upd H2 J<|.own w3) w3<|.ins Y.m J []) w3<|.ins Y.m J [("called",.str s!"low")]):=((ai b _).upd c).upd c;let R:WyN Y.m (upd (upd (upd H2 J<|.own w3) w3<|.ins Y.m J []) w3<|.ins Y.m J [("called",.str s!"low")]) w3 s!"low":=(J,ae,);generalize upd (upd (upd H2 J<|.own w3) w3<|.ins Y.m J []) w3 (.ins Y.m J [("called",.str s!"low")])=H3 at t3 R⊢;clear c b d;let B:=B.same t3;let D:=D.same t3;let O:=O.same t3;refine λr I c b d=>(r,I,U,ae,U,?_,)
 let Z:au H3 (upd (upd (upd H3 I<|.own r) r<|.ins Y.n I []) r<|.ins Y.n I [("called",.str s!"high")]):=((ai b _).upd c).upd c;let X:WyN Y.n (upd (upd (upd H3 I<|.own r) r<|.ins Y.n I []) r<|.ins Y.n I [("called",.str s!"high")]) r s!"high":=(I,ae,);generalize upd (upd (upd H3 I<|.own r) r<|.ins Y.n I []) r (.ins Y.n I [("called",.str s!"high")])=H4 at Z X⊢;clear c b d;let B:=B.same Z;let D:=D.same Z;let O:=O.same Z;let R:=R.same Z;refine λp G c b d=>(p,G,U,ae,U,?_,)
 let T:au H4 (upd (upd (upd H4 G<|.own p) p<|.ins Y.o G []) p<|.ins Y.o G [("called",.str s!"sum")]):=((ai b _).upd c).upd c;let y5:WyN Y.o (upd (upd (upd H4 G<|.own p) p<|.ins Y.o G []) p<|.ins Y.o G [("called",.str s!"sum")]) p s!"sum":=(G,ae,);generalize upd (upd (upd H4 G<|.own p) p<|.ins Y.o G []) p (.ins Y.o G [("called",.str s!"sum")])=H5 at T y5⊢;clear c b d;let B:=B.same T;let D:=D.same T;let O:=O.same T;let R:=R.same T;let X:=X.same T;let s5:au H H5:=((((t0.trans t1).trans t2).trans t3).trans Z).trans T;refine((by show 6<=JR;decide),λl hl=>?_,);let S:au H5 (upd H5 l<|.lst [Qf v,.ref u,.ref t,.ref w3,.ref r,.ref p]):=ai hl _;let el:upd H5 l (.lst [Qf v,.ref u,.ref t,.ref w3,.ref r,.ref p]) l=Nc (.lst [Qf v,.ref u,.ref t,.ref w3,.ref r,.ref p]):=ae;generalize upd H5 l (.lst [Qf v,.ref u,.ref t,.ref w3,.ref r,.ref p])=H6 at S el⊢;let B:=B.same S;let D:=D.same S;let O:=O.same S;let R:=R.same S;let X:=X.same S;let y5:=y5.same S;let sA:=s5.trans S;let a0:∀(i:Nat)(x:V),[Qf v,.ref u,.ref t,.ref w3,.ref r,.ref p][i]?=Nc x->∃(a C:Jr)(y:Str),x=.ref a/\(cl6 Y.j Y.k Y.l Y.m Y.n Y.o)[i]?=Nc C/\six[i]?=Nc y/\WyN C H6 a y/\Cls K C/\NoAttr K C s!"called":=λi x e=>by
  match i,e with
  |0,e=>cases e;exact(v,Y.j,_,U,U,U,B,bl.k_First,bl.na_First_called,)
  |1,e=>cases e;exact(u,Y.k,_,U,U,U,D,bl.k_Only,bl.na_Only_called,)
  |2,e=>cases e;exact(t,Y.l,_,U,U,U,O,bl.k_Like,bl.na_Like_called,)
  |3,e=>cases e;exact(w3,Y.m,_,U,U,U,R,bl.k_Low,bl.na_Low_called,)
  |4,e=>cases e;exact(r,Y.n,_,U,U,U,X,bl.k_High,bl.na_High_called,)
  |5,e=>cases e;exact(p,Y.o,_,U,U,U,y5,bl.k_Sum,bl.na_Sum_called,)
  |n+6,e=>simp at e
 refine(l,U,(_,P8 el,),(let I_:Nat->Qc:=λi σ H'=>(∃c1:Option V,σ=[Nc (.str z),c1])/\H'=H6/\∀j:Nat,j<i->six[j]?≠Nc z;cO (xs:=[Qf v,.ref u,.ref t,.ref w3,.ref r,.ref p]) I_ ((_,U,),U,(λj h=>Nl h<|zm j),) (λi σ H' _ h=>by rw[h.2.1];exact P8 el) (λi x σ H' e h=>?_) (λσ H' h=>?_)),)
 .let((c1,rfl),e0,W):=h;rw[e0];let(a,C,y,rfl,eC,ey,(dx,ha),hc,hn):=a0 i x e;calc(a,_,_,_,_,U,ha,hc,hn,U,U,_,U,?_,);refine bM (λg=>?_)<|λg=>?_
  .let g':Qe y=Qe z:=kq g;injection g' with g';subst g';exact(q i ey a C H6 sA eC (dx,ha,))
  .refine((_,U,),U,λj hj=>?_,);by_cases a1:j<i
   .exact W j a1
   .let:j=i:=∅
    subst this;rw[ey];intro q2;exact(kr g) (by injection q2 with q2;rw[q2])
 .let((c1,rfl),e0,W):=h;rw[e0];let(j,hj,ej):=Ol hz;calc Nl (by rw[JO hj,ej]) (W j hj)
def HZ(F:Fun K "refuse_way" "refuse_way" Y81 f fd)(bl:Bl K mg Y)(k:⟨⟩ 4 "way_by" ["name"] (j4 K Y)):() 5 f fd ["way","outcome"] (ib K Y):=by
 refine F.okA Z83 λu A g s H y Q E p h=>?_
 let(z,B,rfl,l,d,q):=h
 refine(_,(ak (aS (PW.pt<|jm (aO bK (aU (aM k p U<|aa (pv 0) ag) U) aR<|aI _)<|gI<|cA<|ay eB U bl.isinstance_ dL<|aa (pv 1)<|aa (bB (v:=.ref Y.r) U bl.Words_ U) ag)
  (ak cI)
  aD)),?_,)
 calc(z,U,l,λi D x C J b a o=>?_,);let j:Cls K C/\NoAttr K C s!"called":=by
  match i,a with
  |0,a=>cases a;exact(bl.k_First,bl.na_First_called,)
  |1,a=>cases a;exact(bl.k_Only,bl.na_Only_called,)
  |2,a=>cases a;exact(bl.k_Like,bl.na_Like_called,)
  |3,a=>cases a;exact(bl.k_Low,bl.na_Low_called,)
  |4,a=>cases a;exact(bl.k_High,bl.na_High_called,)
  |5,a=>cases a;exact(bl.k_Sum,bl.na_Sum_called,)
  |n+6,a=>simp[cl6]at a
 let(I,m):=o;calc(x,_,_,_,_,U,m,j.1,j.2,U,U,_,U,?_,);by_cases c:z=s!"sum"
 .let(G,fs,t):=d c;exact lP (by rw[c]) (_,_,_,_,Ng,U,.ref _,bl.t_Numbers.ty<|b _ _ t,bl.f_nw,_,U,bJ<|q _ b,)
 .exact kC (λe=>by injection e with e;exact c e) (bJ<|q _ b)
def Ia(F:Fun K "judged" "judged" Y54 f fd)(bl:Bl K mg Y)(kf:bz CX0 P w K mg base 4 Y.j "verdict" ["self","codes","outcome"] (J12 K Y))(lq:bz CX0 P w K mg base 4 Y.k "verdict" ["self","codes","outcome"] (J16 K Y))(lr:bz CX0 P w K mg base 4 Y.l "verdict" ["self","codes","outcome"] (J14 K Y))(mf:bz CX0 P w K mg base 4 Y.m "verdict" ["self","codes","outcome"] (J15 K Y))(lu:bz CX0 P w K mg base 4 Y.n "verdict" ["self","codes","outcome"] (J13 K Y))(mh:bz CX0 P w K mg base 4 Y.o "verdict" ["self","codes","outcome"] (J17 K Y))(pK:⟨⟩ 4 "way_by" ["name"] (j4 K Y)):() 5 f fd ["table","rows"] (cQ K Y):=by
 refine F.okA Z56 λa3 A a2 s H vs Q E hr h=>?_
 let(t,a,wi,o,m,rfl,(rl,ou,dx,fs,xs,wy,L,hf,Z,a0,u,hR,p,X,v,pC),q):=h
 refine(_,(aq (zT (i:=2) Z56.nd U (bv U) (Bt U bl.enumerate_<|aa (aU (pv 0) U) ag) (ft (N:=["k","row","rows"]) (k:=2) (fr:=[1]) (cl:=[("rows",↥s+1)]) U U (~~~0) (~~~0) U U (gg.mpr (U,iF _,)) U) U (λ_ _ _ _=>(js (K:=K) (n:=2) U U<|aF (aE (i:=0) (show(["k","row","rows"]:Nt Str).Nodup by decide+kernel) U (bv U) (v6 U)) (aF (aE (i:=1) (show(["k","row","rows"]:Nt Str).Nodup by decide+kernel) U (bv U) (v6 U)) bI))) (λ_ _ _ _=>(jQ<|yd (K:=K) U<|az yU (az C7 (pv 2)<|pv 0) aj)) (λ_ _ _ _=>(aQ (lL (K:=K) U) (pv 1) aj<|λ_ _=>U)))
  (ak<|av<|zH (t7 kf bl.k_First<|t7 lq bl.k_Only<|t7 lr bl.k_Like<|t7 mf bl.k_Low<|t7 lu bl.k_High<|t7 mh bl.k_Sum E1) bC hr (aM pK hr U<|aa (aU (pv 0) U) ag)<|aa (pv 2)<|aa (aU (pv 0) U) ag)),?_,)
 dsimp only[br,Qb,Qa];show(let r1:TS:=_;aX _ r1 _ _ _);intro _;let O:⇑xs=⇑a:=hR.1
 refine(t,_,_,_,_,U,L,bl.k_Table,bl.na_Table_rows,hf,rl,U,(_,P8 u,),vR (xs:=xs) (λD i zs c=>au H c/\c D=Nc (.lst zs)/\zs=(pkF a (eF m) i).map pi)
  (λD g=>(ai g _,ae,U,)) (λD i zs c g _ h=>P8<|h.1 _ _ u) (λD i x zs c T g ex h hT ts S=>?_) (λD zs c g h=>?_),)
 .let(B,I,rfl):=h;let s2:=B.trans<|ai hT<|.tup [.int i,x];let eT:upd c T (.tup [.int i,x]) T=Nc (.tup [.int i,x]):=ae;let d:=ai hT (.tup [.int i,x]) _ _ I;generalize upd c T (.tup [.int i,x])=H2 at s2 eT d⊢;let(r,w_,rfl,ew,ce,cv,g1,_,g2,g3):=aN.get (hR.same s2) ex;let hi:i<⇑xs:=(JP.mp ex).1;let hg:a.getD i ([],0)=w_:=getD_at ew;let W:=wV a (eF m) i;let(z,y,rfl):∃z y,ts=[z,y]:=by
   match ts,S with
   | [z,y],_=>exact(z,y,U,)
  calc(T,_,U,P9 eT,U,_,_,U,_,_,U,U,([Nc (.int i),↑r],U,U,),?_,);calc(_,_,U,U,Gn _,_,_,U,U,eF m i,U,?_,);let e:=uu a (eF m) i;rw[hg]at e;cases hb:eF m i with
  |true =>
   rw[hb]at e;refine dh (r,_,_,_,U,U,P9 g1,U,dR.mk hi d (aC (by rw[af];lia)) (s2.upd g,ae,?_,),);rw[e,eN];rfl
  |false =>
   rw[hb]at e;calc bJ<|eP.mk (zs:=(pkF a (eF m) i).map pi) hi (s2,d,?_,);rw[e];simp
 .let(B,I,rfl):=h;rw[O]at I;let R:wy∈six:=JQ p;calc(t,_,_,_,_,U,B _ _ L,bl.k_Table,bl.na_Table_way,Z,wy,U,R,λG a1 x C H2 s2 b hw=>?_,);let ii:G=wi:=Bz a1 p;subst ii;let J:=B.trans s2;let(dw,hx):=hw;let W:=wV a (eF m) ⇑a;let M:(C,l0 K C Y.q Y.r G)∈[(Y.j,l0 K Y.j Y.q Y.r 0),(Y.k,l0 K Y.k Y.q Y.r 1),(Y.l,l0 K Y.l Y.q Y.r 2),(Y.m,l0 K Y.m Y.q Y.r 3),(Y.n,l0 K Y.n Y.q Y.r 4),(Y.o,l0 K Y.o Y.q Y.r 5)]:=by
   match G,b with
   |0,b=>cases b;exact .head _
   |1,b=>cases b;exact .tail _<|.head _
   |2,b=>cases b;exact .tail _<|.tail _<|.head _
   |3,b=>cases b;exact .tail _<|.tail _<|.tail _<|.head _
   |4,b=>cases b;exact .tail _<|.tail _<|.tail _<|.tail _<|.head _
   |5,b=>cases b;exact .tail _<|.tail _<|.tail _<|.tail _<|.tail _<|.head _
   |n+6,b=>simp[cl6]at b
  calc(x,(C,l0 K C Y.q Y.r G),dw,_,U,M,hx,U,t,_,_,_,_,U,J _ _ L,bl.k_Table,bl.na_Table_outcome,a0,x,D,ou,_,o,U,(dw,_,hx,),X.same J,v,P8<|s2 _ _ I,∅,λr H3 s3 h3=>q r H3 (J.trans s3) h3,)
def Ib(F:Fun K "_law_domains" "_law_domains" Y59 f fd)(bl:Bl K mg Y)(G:bo CX0 P w K mg base 3 "Words" Y.r ["self","words"] (bR K Y))(B:bo CX0 P w K mg base 3 "Numbers" Y.q ["self","low","high"] (bj K Y))(fO:⟨⟩ 4 "_law_words" ["count","cell"] (i0 K Y)):() 5 f fd ["kind","count","cell","points"] (gj K Y):=by
 refine F.okA Z61 λc6 A b6 s H vs Q E W h=>?_
 let(d,n,c,cl,a,ps,rfl,hc,hS,h1,c5,a3,a6,q):=h
 refine(_,(aJ (aK (i:=4) Z61.nd U (bv U)<|aY<|aa (ip G bC W U<|aa (aM fO W U<|aa (pv 1)<|aa (az bW (pv 2) aj) ag) ag)<|aa (ip B bC W U<|aa (aQ aP (pv 3) aj<|λ_ _=>U)<|aa (az eS (aQ aP (pv 3) (nq jo aj)<|λ_ _=>U) aj) ag) ag)
  (aJ (aS (aO bK (pv 0) aj<|aI _)
  (ak<|av<|dI fh (pv 4) fe<|fg aj)
  aD)
  (aJ (aS (aO bK (pv 0) aj<|aI _)
  (ak<|jn (ip G bC W U<|aa (aM fO W U<|aa (pv 1)<|aa (az bA (az bW (pv 2) aj) aj) ag) ag)<|kG (pv 4) aj set_list)
  aD)
  (aJ (aS (aO bK (pv 0) aj<|aI _)
  (ak<|jn (ip G bC W U<|aa (az fW (dI fh (aM fO W U<|aa (pv 1)<|aa (az bW (pv 2) aj) ag) (fg aj) fe)<|aM fO W U<|aa aj<|aa (az bW (pv 2) aj) ag) ag)<|kG (pv 4) aj set_list)
  aD)
  (aJ (aS (aO bK (pv 0) aj<|aI _)
  (ak<|jn (ip B bC W U<|aa aj<|aa (az eS (pv 1) aj) ag)<|kG (pv 4) aj set_list)
  aD)
  (aJ (aS (aO bK (pv 0) aj<|aI _)
  (ak<|jn (ip B bC W U<|aa (aQ aP (pv 3) aj<|λ_ _=>U)<|aa (aQ aP (pv 3) (nq jo aj)<|λ_ _=>U) ag)<|kG (pv 4) aj set_list)
  aD)
  (ak<|av<|pv 4))))))),?_,)
 dsimp only[br,Qb,Qa];show(let r6:TS:=_;let r5:TS:=bY _ r6;let r4:TS:=bY _ r5;let r3:TS:=bY _ r4;let r2:TS:=bY _ r3;let r1:TS:=bY _ r2;bY _ r1 _ _ _);intro _ _ _ _ _ _;let a7:1<=⇑ps:=∅
 let a8:=BN a3 a6;let h0:=wb (ps:=ps) (k:=0) ∅;let hL:=DW a7;let(lo,a4):∃lo,lo=ps.getD 0 0:=(_,U,);let(hi,a5):∃hi,hi=ps.getD (⇑ps-1) 0:=(_,U,);rw[←a4,←a5]at q a8;rw[←a4]at h0;rw[←a5]at hL;let JE:c<24:=by have:=Gv cl (show(0:Int)<24 by decide);lia
 refine(let T:Qc:=λD C=>au H C/\E3 λ(l x y:Jr)=>A5 (H l=Nd) (C l=Nc (.lst [.ref x,.ref y])) (DmX Y.q Y.r C x<|dm1 (0) n c) (DmX Y.q Y.r C y<|dm2 (0) lo hi)<|D=[Nc (.int (d:Int)),Nc<|.int (n:Int),Nc<|.int cl,↑a,↑l];(T,?_,?_,))
 .refine(_,_,U,U,(by show(0:Int)<24;decide),n,c,by rw[hc],∅,∅,λp H1 I np ep=>λx dx hx b1 a2=>?_,);let u1:au H1 (upd (upd H1 dx<|.own x) x<|.ins Y.r dx []):=(ai b1 _).upd hx;calc(x,dx,p,wqz n c,U,ae,u1 _ _ ep,pq h1 ∅,λJ l2 k1 k2 k3=>(U,?_,),);let s2:au H1 J:=λb u e=>k1 b u (aW e hx)<|u1 _ _ e
  let S:DmX Y.q Y.r J x (.inr<|wqz n c):=(dx,_,l2,k2,U,k3,U,U,U,);let a1:=I.trans s2;calc(a,_,_,_,U,U,a1.seq hS,h0,_,U,a,_,_,_,U,U,a1.seq hS,hL,_,_,U,U,λy X hy b0 Ic=>(y,X,lo,hi-1,U,ae,∅,U,?_,),);let Z:au J (mkd Y.q (upd (upd J X<|.own y) y<|.ins Y.q X []) y X lo<|hi-1):=iw hy b0;let d2:DmX Y.q Y.r (mkd Y.q (upd (upd J X<|.own y) y<|.ins Y.q X []) y X lo<|hi-1) y (.inl (lo,hi-1)):=jZ;generalize mkd Y.q (upd (upd J X<|.own y) y<|.ins Y.q X []) y X lo (hi-1)=H3 at Z d2⊢;refine((by show 2<=JR;decide),λl hl=>?_,);let s4:=ai hl<|.lst [.ref x,.ref y];exact((a1.trans Z).trans s4,l,x,y,(a1.trans Z).free hl,ae,(S.same Z).same s4,d2.same s4,U,)
 rintro c2 H1 ⟨I,l,x,y,L,M,o,j,rfl⟩;refine(let T:Qc:=λD C=>C=H1/\d≠1/\D=[Nc (.int (d:Int)),Nc<|.int (n:Int),Nc<|.int cl,↑a,↑l];(T,(U,_,U,bM (λg=>?_)<|λg=>(U,λz=>g<|Nm (by rw[z];rfl),U,),),?_,))
 .let N:d=1:=by have:=V.int.inj<|Np g;lia
  calc(_,U,l,_,U,P8 M,λc1 b3=>?_,);let s2:=ai b3<|.lst [.ref x];calc q c1 [.ref x] _ (I.trans s2) ae ?_;unfold dmF;rw[Nk N];exact aN.snoc aN.nil<|o.same s2
 rintro a0 J ⟨z2,a9,rfl⟩;subst z2;let stay:∀k:Nat,d≠k+1->(if d<=k+1 then d else 0)=(if d<=k then d else 0):=λk h=>by split <;> split <;> lia
 let o:DmX Y.q Y.r J x (dm1 (if d<=1 then d else 0) n c):=by rw[show(if d<=1 then d else 0)=0 by split <;> lia];exact o
 let j:DmX Y.q Y.r J y (dm2 (if d<=1 then d else 0) lo hi):=by rw[show(if d<=1 then d else 0)=0 by split <;> lia];exact j
 refine(let T:Qc:=λD C=>au H C/\E3 λ(l x y:Jr)=>A5 (H l=Nd) (C l=Nc (.lst [.ref x,.ref y])) (DmX Y.q Y.r C x<|dm1 (if d<=2 then d else 0) n c) (DmX Y.q Y.r C y<|dm2 (if d<=2 then d else 0) lo hi) (D=[Nc (.int (d:Int)),Nc<|.int (n:Int),Nc<|.int cl,↑a,↑l]);(T,(U,_,U,bM (λg=>?_)<|λg=>?_,),?_,))
 .let N:d=2:=by have:=V.int.inj<|Np g;lia
  subst N;refine(_,_,U,U,(by show(0:Int)<24;decide),_,_,U,U,n,c+1,by rw[hc];rfl,∅,∅,λp H3 Z np ep=>λz t hz O a2=>?_,);let u1:au H3 (upd (upd H3 t<|.own z) z<|.ins Y.r t []):=(ai O _).upd hz;calc(z,t,p,wqz n<|c+1,U,ae,u1 _ _ ep,pq h1 ∅,λH4 l2 k1 k2 k3=>(U,?_,),);let s4:au H3 H4:=λb u e=>k1 b u (aW e hz)<|u1 _ _ e
  let S:DmX Y.q Y.r H4 z (.inr<|wqz n<|c+1):=(t,_,l2,k2,U,k3,U,U,U,);let m:=Z.trans s4;let v:=m _ _ M;exact(l,_,_,_,U,U,v,U,(I.trans m).upd L,l,z,y,L,ae,S.updL v,(j.same m).updL v,U,)
 .let N:d≠2:=λz=>g<|Nm (by rw[z];rfl)
  let R:=stay 1 N;exact(I,l,x,y,L,M,by rw[R];exact o,by rw[R];exact j,U,)
 clear I M o j L;rintro a0 J ⟨I,l,x,y,L,M,o,j,rfl⟩;refine(let T:Qc:=λD C=>au H C/\E3 λ(l x y:Jr)=>A5 (H l=Nd) (C l=Nc (.lst [.ref x,.ref y])) (DmX Y.q Y.r C x<|dm1 (if d<=3 then d else 0) n c) (DmX Y.q Y.r C y<|dm2 (if d<=3 then d else 0) lo hi) (D=[Nc (.int (d:Int)),Nc<|.int (n:Int),Nc<|.int cl,↑a,↑l]);(T,(U,_,U,bM (λg=>?_)<|λg=>?_,),?_,))
 .let N:d=3:=by have:=V.int.inj<|Np g;lia
  subst N;refine(_,_,U,U,(by show(0:Int)<24;decide),n,c,by rw[hc],∅,∅,λp1 Ha sa c4 b5=>?_,);calc(_,U,p1,_,U,P8 b5,λp2 a3=>?_,);rw[uC (k:=1) ⋯ (by rw[af,fm];lia)];let sb:=ai a3<|.lst<|((wqz n c).map Qe).drop 1;let eb:upd Ha p2 (.lst<|((wqz n c).map Qe).drop 1) p2=Nc (.lst<|((wqz n c).map Qe).drop 1):=ae;let ee:upd Ha p2 (.lst<|((wqz n c).map Qe).drop (1:Int).toNat)=upd Ha p2 (.lst<|((wqz n c).map Qe).drop 1):=rfl;rw[ee];clear ee;generalize upd Ha p2 (.lst<|((wqz n c).map Qe).drop 1)=Hb at sb eb⊢;refine(_,_,U,U,(by show(0:Int)<24;decide),1,c,by rw[hc];rfl,∅,∅,λp3 Hc sc c3 b4=>?_,);refine(p2,p3,_,_,U,U,sc _ _ eb,b4,vl<|aC (by rw[jP,af,af,fm,fm];lia),λp hp=>?_,);let sd:=ai hp<|.lst<|((wqz n c).map Qe).drop 1++(wqz 1 c).map Qe;let ep:upd Hc p (.lst<|((wqz n c).map Qe).drop 1++(wqz 1 c).map Qe) p=Nc (.lst<|(wqt n c).map Qe):=by
   rw[ae];unfold wqt;rw[eN,List.map_drop]
  let Z:=((sa.trans sb).trans sc).trans sd;generalize upd Hc p (.lst<|((wqz n c).map Qe).drop 1++(wqz 1 c).map Qe)=H3 at Z ep⊢;refine λz t hz O a2=>?_
  let u1:au H3 (upd (upd H3 t<|.own z) z<|.ins Y.r t []):=(ai O _).upd hz;calc(z,t,p,wqt n c,U,ae,u1 _ _ ep,Av h1 ∅,λH4 l2 k1 k2 k3=>(U,?_,),);let s4:au H3 H4:=λb u e=>k1 b u (aW e hz)<|u1 _ _ e
  let S:DmX Y.q Y.r H4 z (.inr<|wqt n c):=(t,_,l2,k2,U,k3,U,U,U,);let m:=Z.trans s4;let v:=m _ _ M;exact(l,_,_,_,U,U,v,U,(I.trans m).upd L,l,z,y,L,ae,S.updL v,(j.same m).updL v,U,)
 .let N:d≠3:=λz=>g<|Nm (by rw[z];rfl)
  let R:=stay 2 N;exact(I,l,x,y,L,M,by rw[R];exact o,by rw[R];exact j,U,)
 clear I M o j L;rintro a0 J ⟨I,l,x,y,L,M,o,j,rfl⟩;refine(let T:Qc:=λD C=>au H C/\E3 λ(l x y:Jr)=>A5 (H l=Nd) (C l=Nc (.lst [.ref x,.ref y])) (DmX Y.q Y.r C x<|dm1 (if d<=4 then d else 0) n c) (DmX Y.q Y.r C y<|dm2 (if d<=4 then d else 0) lo hi) (D=[Nc (.int (d:Int)),Nc<|.int (n:Int),Nc<|.int cl,↑a,↑l]);(T,(U,_,U,bM (λg=>?_)<|λg=>?_,),?_,))
 .let N:d=4:=by have:=V.int.inj<|Np g;lia
  subst N;calc(_,_,U,U,λz t hz O a2=>(z,t,0,(n:Int)-1,U,ae,∅,U,?_,),);let m:au J (mkd Y.q (upd (upd J t<|.own z) z<|.ins Y.q t []) z t 0<|(n:Int)-1):=iw hz O;let S:DmX Y.q Y.r (mkd Y.q (upd (upd J t<|.own z) z<|.ins Y.q t []) z t 0<|(n:Int)-1) z (.inl (0,(n:Int)-1)):=jZ;generalize mkd Y.q (upd (upd J t<|.own z) z<|.ins Y.q t []) z t 0 ((n:Int)-1)=H4 at m S⊢;let v:=m _ _ M;exact(l,_,_,_,U,U,v,U,(I.trans m).upd L,l,z,y,L,ae,S.updL v,(j.same m).updL v,U,)
 .let N:d≠4:=λz=>g<|Nm (by rw[z];rfl)
  let R:=stay 3 N;exact(I,l,x,y,L,M,by rw[R];exact o,by rw[R];exact j,U,)
 clear I M o j L;rintro a0 J ⟨I,l,x,y,L,M,o,j,rfl⟩;refine(let T:Qc:=λD C=>au H C/\E3 λ(l x y:Jr)=>A5 (H l=Nd) (C l=Nc (.lst [.ref x,.ref y])) (DmX Y.q Y.r C x<|dm1 (if d<=5 then d else 0) n c) (DmX Y.q Y.r C y<|dm2 (if d<=5 then d else 0) lo hi) (D=[Nc (.int (d:Int)),Nc<|.int (n:Int),Nc<|.int cl,↑a,↑l]);(T,(U,_,U,bM (λg=>?_)<|λg=>?_,),?_,))
 .let N:d=5:=by have:=V.int.inj<|Np g;lia
  subst N;calc(a,_,_,_,U,U,I.seq hS,h0,_,U,a,_,_,_,U,U,I.seq hS,hL,λz t hz O a2=>(z,t,lo,hi,U,ae,∅,U,?_,),);let m:au J (mkd Y.q (upd (upd J t<|.own z) z<|.ins Y.q t []) z t lo hi):=iw hz O;let S:DmX Y.q Y.r (mkd Y.q (upd (upd J t<|.own z) z<|.ins Y.q t []) z t lo hi) z (.inl (lo,hi)):=jZ;generalize mkd Y.q (upd (upd J t<|.own z) z<|.ins Y.q t []) z t lo hi=H4 at m S⊢;let v:=m _ _ M;exact(l,_,_,_,U,U,v,U,(I.trans m).upd L,l,x,z,L,ae,(o.same m).updL v,S.updL v,U,)
 .let N:d≠5:=λz=>g<|Nm (by rw[z];rfl)
  let R:=stay 4 N;exact(I,l,x,y,L,M,by rw[R];exact o,by rw[R];exact j,U,)
 clear I M o j L;rintro a0 J ⟨I,l,x,y,L,M,o,j,rfl⟩;calc(q l [.ref x,.ref y] J I M ?_);unfold dmF;rw[Nj a9];let e1:dm1 (if d<=5 then d else 0) n c=dm1 d n c:=by
  split
  .rfl
  .unfold dm1;rw[Nj ∅,Nj ∅,Nj ∅,Nj ∅,Nj ∅,Nj ∅]
 let e2:dm2 (if d<=5 then d else 0) lo hi=dm2 d lo hi:=by
  split
  .rfl
  .unfold dm2;rw[Nj ∅,Nj ∅]
 rw[←e1,←e2];calc BO o j
def Ie(F:Fun K "_law_outcome" "_law_outcome" Y63 f fd)(bl:Bl K mg Y)(c:bo CX0 P w K mg base 3 "Numbers" Y.q ["self","low","high"] (bj K Y))(m:bo CX0 P w K mg base 3 "Words" Y.r ["self","words"] (bR K Y)):() 5 f fd ["words","kind"] (gk K Y):=by
 refine F.okA Z65 λa7 A a3 s H vs Q E hr h=>?_
 let(o,a,rfl,q):=h
 refine(_,(aJ (aK (i:=2) Z65.nd U (bv U)<|aY<|aa aR<|aa aR<|aa aR<|aa aR<|aa aR<|aa aR<|aa aR<|aa aR ag)
  (aq (aS (aO km (pv 0) (bL bK (pv 1) aj<|aI _)<|aI _)
  (aJ (aS (aO bK (pv 1) aj<|aI _)
  (ak<|aK (i:=2) Z65.nd U (bv U)<|az fW (pv 2)<|aY<|aa aR ag)
  aD)
  (aJ (aS (aO bK (pv 1) aj<|aI _)
  (ak<|aK (i:=2) Z65.nd U (bv U)<|az fW (dI fh (pv 2) (fg aj) fe)<|dI fh (pv 2) fe<|fg aj)
  aD)
  (ak<|av<|ip m bC hr U<|aa (pv 2) ag)))
  aD)
  (ak<|av<|ip c bC hr U<|aa (bE fP U bl.int_ tz<|aa (bL bK (pv 1) aj<|aI _) ag)<|aa (az bA aj<|bE fP U bl.int_ tz<|aa (Ck (bL bK (pv 1) aj<|aI _)<|fR<|bL bK (pv 1) aj<|aI _) ag) ag))),?_,)
 dsimp only[br,Qb,Qa];show(let r2:TS:=_;let r1:TS:=aX _ r2;bY _ r1 _ _ _);intro _ _;let d7:=sR a 7;let d6:=sR a 6;let d8:=sR a 8;refine(λj B=>au H B/\∃l:Jr,B l=Nc (.lst<|lo8.map Qe)/\j=[Nc (.bl o),Nc<|.int (a:Int),↑l],((by show 8<=JR;decide),λl hl=>(ai hl _,l,ae,U,),),?_,);rintro a6 S ⟨s1,l,el,rfl⟩;calc(U,U,_,U,?_,);let dW:(!Nh (V.bl o=V.bl (Nh<|pi (a:Int)=pi 7))) = !Nh (o=Nh (a=7)):=by
  rw[show decide (pi (a:Int)=pi 7)=Nh (a=7)from d7]
  congr 1
  rw[lc,Nr,Nr];exact(λz=>V.bl.inj z,λz=>by rw[z],)
 rw[dW];refine bM (λg=>?_)<|λg=>?_
 .let g:¬ o=Nh (a=7):=λz=>by rw[Nm z]at g;cases g
  refine(λj B=>au S B/\∃l:Jr,B l=Nc (.lst<|(if a=6 then lo8++[s!"oi"]else lo8).map Qe)/\j=[Nc (.bl o),Nc<|.int (a:Int),↑l],(U,_,U,bM (λD=>?_)<|λD=>?_,),?_,)
  .let C:a=6:=by have:=V.int.inj<|Np D;lia
   refine((by show 1<=JR;decide),λp W=>?_,);let s2:=ai W<|.lst [.str s!"oi"];refine(l,p,_,_,U,U,s2 _ _ el,ae,vl<|aC (by show 9<=1000;decide),λt G=>(s2.trans<|ai G _,t,?_,U,),);rw[ae,Nk C,eN];rfl
  .let C:a≠6:=λz=>D<|Nm (by rw[z];rfl)
   rw[Nj C];exact(au.refl _,l,el,U,)
  rintro a5 N ⟨s2,T,n,rfl⟩;refine(λj B=>au N B/\∃l:Jr,B l=Nc (.lst<|(loK a).map Qe)/\j=[Nc (.bl o),Nc<|.int (a:Int),↑l],(U,_,U,bM (λZ=>?_)<|λZ=>?_,),?_,)
  .let X:a=8:=by have:=V.int.inj<|Np Z;lia
   rw[Nj ∅]at n;calc(_,U,T,_,U,P8 n,λp W=>?_,);let J:=ai W<|.lst<|(lo8.drop 1).map Qe;let e3:upd N p (.lst<|(lo8.drop 1).map Qe) p=Nc (.lst<|(lo8.drop 1).map Qe):=ae;let M:upd N p (.lst<|nG (lo8.map Qe) (Nc 1) Nd)=upd N p (.lst<|(lo8.drop 1).map Qe):=rfl;rw[M];clear M;generalize upd N p (.lst<|(lo8.drop 1).map Qe)=v at J e3⊢;calc(_,U,T,_,U,P8<|J _ _ n,λt G=>?_,);let I:=ai G<|.lst<|(lo8.take 1).map Qe;let e4:upd v t (.lst<|(lo8.take 1).map Qe) t=Nc (.lst<|(lo8.take 1).map Qe):=ae;let M:upd v t (.lst<|nG (lo8.map Qe) Nd<|Nc 1)=upd v t (.lst<|(lo8.take 1).map Qe):=rfl;rw[M];clear M;generalize upd v t (.lst<|(lo8.take 1).map Qe)=H4 at I e4⊢;refine(p,t,_,_,U,U,I _ _ e3,e4,vl<|aC (by show 8<=1000;decide),λp3 a0=>((J.trans I).trans<|ai a0 _,p3,?_,U,),);unfold loK;rw[ae,Nj ∅,Nk X,eN]
  .let X:a≠8:=λz=>Z<|Nm (by rw[z];rfl)
   calc(au.refl _,T,?_,U,);unfold loK;rw[Nj X];exact n
  rintro a4 v ⟨J,l3,a2,rfl⟩;calc(λx R hx a1 O=>?_);let u1:au v (upd (upd v R<|.own x) x<|.ins Y.r R []):=(ai a1 _).upd hx;calc(x,R,l3,loK a,U,ae,u1 _ _ a2,Aw a,λH4 l4 k1 k2 k3=>(U,?_,),);let I:au v H4:=λb u e=>k1 b u (aW e hx)<|u1 _ _ e
  calc q x H4 (((s1.trans s2).trans J).trans I) ?_;unfold outF;rw[Nj g];exact(R,_,l4,k2,U,k3,U,U,U,)
 .let g:o=Nh (a=7):=by
   by_cases z:o=Nh (a=7)
   .exact z
   .exact Nl (by rw[Nn z];rfl) g
  let e1:(if decide (pi (a:Int)=pi 8)=Nf then(1:Int)else 0)=if a=8 then 1 else 0:=by
   rw[show decide (pi (a:Int)=pi 8)=Nh (a=8)from d8];by_cases h:a=8
   .rw[Nk h,Nk (Nm h)]
   .rw[Nj h,Nj (by rw[Nn h];decide)]
  let fin:∀(b:Bool)(y d:Jr),S y=Nd->S d=Nd->(b=Nf↔a=6\/a=8)->(if a=8 then(1:Int)else 0)<=7+(if b=Nf then 1 else 0)/\Q (.ref y) (mkd Y.q (upd (upd S d<|.own y) y<|.ins Y.q d []) y d (if a=8 then 1 else 0) (7+if b=Nf then 1 else 0)):=λb y d L k hb=>by
   refine(by split <;> split <;> decide,q y _ (s1.trans<|iw L k) ?_,);unfold outF;rw[Nk g];let:(7+if b=Nf then(1:Int)else 0)=if a=6\/a=8 then 8 else 7:=by
    by_cases h:a=6\/a=8
    .rw[Nk h,Nk (hb.mpr h)];rfl
    .rw[Nj h,Nj (λz=>h<|hb.mp z)];rfl
   rw[this];exact jZ
  calc(U,.inr (_,U,U,_,U,?_,),);rw[e1];refine bM (λD=>?_)<|λD=>?_
  .let C:a=6:=by have:=V.int.inj<|Np D;lia
   calc .inr (_,U,_,_,U,U,λy d L k O=>?_,);let(f1,f2):=fin Nf y d L k (λ_=>.inl C,λ_=>U,);exact(y,d,_,_,U,ae,f1,U,f2,)
  .let C:a≠6:=λz=>D<|Nm (by rw[z];rfl)
   calc(U,.inr (_,U,_,_,U,U,λy d L k O=>?_,),);let(f1,f2):=fin (Nh<|pi (a:Int)=pi 8) y d L k (by
    rw[show decide (pi (a:Int)=pi 8)=Nh (a=8)from d8,Nr];exact(λz=>.inr z,λz=>z.resolve_left C,))
   calc(y,d,_,_,U,ae,f1,U,f2,)
def Ig(F:Fun K "leans_on" "leans_on" Y69 f fd)(bl:Bl K mg Y)(u:⟨⟩ 5 "judged" ["table","rows"] (cQ K Y)):() 6 f fd ["table","tile","k"] (jC K Y):=by
 refine F.okA Z71 λx A g s H y Q E l h=>?_
 let(t,tl,C,j,k,m,d,i,o,rfl,p,a,e,B,q):=h
 refine(_,(aq (aK (i:=3) Z71.nd U (bv U)<|az yT aj<|pv 2)
  (aq (aK (i:=4) Z71.nd U (bv U)<|aQ cj (pv 1) aj<|λ_ _=>U)
  (ak<|av<|fS (bL lK (az yU (pv 4)<|pv 3) aj<|aI _)<|fR<|bL (Dr l) (aM u l U<|aa (pv 0)<|aa (az eS (pv 4)<|pv 3) ag) (aQ cj (pv 1) aj<|λ_ _=>U)<|aI _))),?_,)
 dsimp only[br,Qb,Qa];show(let j:TS:=_;let n:TS:=aX _ j;aX _ n _ _ _);intro _ _;calc(_,_,U,U,(∅,∅,⋯,),?_,);calc(tl,_,_,_,U,U,a,U,?_,);refine(_,_,U,U,_,_,U,U,m.testBit k,by rw[←BI m k],?_,);cases hb:m.testBit k with
 |false =>
  calc bJ ?_;let z:=q H<|au.refl _;rw[hb,Gc]at z;exact z
 |true =>
  calc dh (_,_,U,U,t,d,i,o,_,U,p,λr v c b=>?_,);rw[BJ hb]at b;calc(tl,_,_,_,U,U,c.seqT a,U,BH b.sq (c.seqT e) ?_,);let z:=q v c;rw[hb,FS]at z;calc z
def Ih(F:Fun K "__init__" "Table.__init__" Y17 f fd)(bl:Bl K mg Y)(pL:⟨⟩ 5 "refuse_names" ["names"] (fG K Y))(nN:⟨⟩ 5 "refuse_counts" ["names","rows"] (eY K Y))(tj:⟨⟩ 5 "refuse_way" ["way","outcome"] (ib K Y))(tm:⟨⟩ 5 "refuse_row" ["domains","outcome","cells","code"] (hV K Y))(yB:⟨⟩ 5 "own_row" ["cells","code"] (kP K Y)):() 6 f fd ["self","name","names","domains","outcome","way","rows"] (bu K Y):=by
 refine F.okA Z17 λd4 A c6 s H vs Q E hr h=>?_
 let(x,g,na,dl,m,rl,c,B,l,C,rx,bs,o,a1,rfl,hx,S,hw,b5,h1,h4,b0,b1,a0,c2,b4,J,hR,pC,d3,hok,q):=h
 refine(_,(aq (bq<|aM pL hr U<|aa (az fW (aY<|aa (pv 1) ag)<|pv 2) ag)
  (aq (bq<|aM nN hr U<|aa (pv 2)<|aa (pv 6) ag)
  (aq (bq<|aM tj hr U<|aa (pv 5)<|aa (pv 4) ag)
  (aJ (cJ wn U (bw<|pv 6) (fA U<|aF (aE (i:=7) Z17.nd U<|bv U)<|aF (aE (i:=8) Z17.nd U<|bv U) bI)
  (ak<|bq<|aM tm hr U<|aa (pv 3)<|aa (pv 4)<|aa (pv 7)<|aa (pv 8) ag))
  (aq (cY (pv 0) (pv 1) U)
  (aq (cY (pv 0) (bE fM U bl.list_ Ev<|aa (pv 2) ag) U)
  (aq (cY (pv 0) (bE fM U bl.list_ Ev<|aa (pv 3) ag) U)
  (aq (cY (pv 0) (pv 4) U)
  (aq (cY (pv 0) (pv 5) U)
  (ak<|cY (pv 0) (dJ (bw<|pv 6) (di (N:=["cells","code"]) (k:=2) U U (~~~0) (~~~0)<|~~~0) U (λ_ _ _ _=>(js (K:=K) (n:=2) U U<|aF (aE (i:=0) (show(["cells","code"]:Nt Str).Nodup by decide+kernel) U (bv U) (v6 U)) (aF (aE (i:=1) (show(["cells","code"]:Nt Str).Nodup by decide+kernel) U (bv U) (v6 U)) bI))) (λ_ _ _ _=>cG) (λ_ _ _ _=>(aM yB hr U<|aa (pv 0)<|aa (pv 1) ag))) U)))))))))),?_,)
 dsimp only[br,Qb,Qa];show(let r9:TS:=_;let r8:TS:=aX _ r9;let r7:TS:=aX _ r8;let r6:TS:=aX _ r7;let r5:TS:=aX _ r6;let r4:TS:=aX _ r5;let r3:TS:=bY _ r4;let r2:TS:=aX _ r3;let r1:TS:=aX _ r2;aX _ r1 _ _ _);intro _ _ _ _ _ _ _ _ _;let Z:⇑(l.map Qe)=⇑l:=af _;refine((by show 1<=JR;decide),λl1 c1=>?_,);let s1:=ai c1<|.lst [.str c];let e1:upd H l1 (.lst [.str c]) l1=Nc (.lst [.str c]):=ae;generalize upd H l1 (.lst [.str c])=H1 at s1 e1⊢;refine(l1,na,_,_,U,U,e1,s1 _ _ S,(by rw[Z];show 1+⇑l<=JR;exact big ∅),λl2 b6=>?_,);let s2:=s1.trans<|ai b6<|.lst<|[Qe c]++l.map Qe;let e2:upd H1 l2 (.lst<|[Qe c]++l.map Qe) l2=Nc (.lst<|(c :: l).map Qe):=ae;generalize upd H1 l2 (.lst<|[Qe c]++l.map Qe)=H2 at s2 e2⊢;refine(l2,c :: l,U,P8 e2,hw,b5,by rw[gE];lia,λH3 t3=>?_,);let s3:=s2.trans t3;refine(na,rl,_,_,U,P8<|s3 _ _ S,P8<|s3 _ _ J,by rw[Z];exact h1,by rw[Z];exact h4,pC,?_,);calc(B,m,U,b0,(λz=>let ⟨dx',fs',e'⟩:=b1 z;(dx',fs',s3 _ _ e',)),λH4 t4=>?_,);let s4:=s3.trans t4;refine(let I_:Qc:=λa6 v=>au H v/\E2 λc7 c8:Option V=>a6=[↑x,Nc<|.str c,↑na,↑dl,↑m,Nc<|.str B,↑rl,c7,c8];(I_,?_,?_,))
 .refine(rl,U,(_,P8<|s4 _ _ J,),(let I_:Nat->Qc:=λi σ v=>au H v/\E2 λc7 c8:Option V=>σ=[↑x,Nc<|.str c,↑na,↑dl,↑m,Nc<|.str B,↑rl,c7,c8];cO (xs:=rx) I_ (s4,_,_,U,) (λi σ v _ h=>P8<|h.1 _ _ J) (λi y σ v e h=>?_) (λσ v h=>h)),);let(u,c7,c8,rfl):=h;let(r,w_,rfl,ew,ce,cv,g1,_,g2,g3):=aN.get (hR.same u) e;calc(r,_,U,P9 g1,U,_,_,U,_,_,U,U,?_,);exact(dl,m,ce,C,cv,bs,o,w_,U,P8<|u _ _ a0,aN.mono c2 λ_ _ p=>p.same u,b4.same u,g2,g3,hok w_<|JQ ew,λH2 t2=>(u.trans t2,_,_,U,),)
 rintro d0 G ⟨W,c7,c8,rfl⟩;let x5:=W _ _ hx;let a8:na≠x:=kl S hx (by intro z;cases z);let c4:dl≠x:=kl a0 hx (by intro z;cases z);let a7:rl≠x:=kl J hx (by intro z;cases z);let k5:∀b o,b≠x->H b=Nc o->G b=Nc o:=λb o _ e=>W b o e
 let R5:=RL.hide x5<|hR.same W;refine(x,_,g,_,U,x5,bl.k_Table,bl.na_Table_name,(by show 0<1000;decide),?_,);let k6:∀b o,b≠x->G b=Nc o->upd G x (.ins Y.s g [(s!"name",.str c)]) b=Nc o:=λb o t e=>(aw t).trans e
 let x6:upd G x (.ins Y.s g [(s!"name",.str c)]) x=Nc (.ins Y.s g [(s!"name",.str c)]):=ae;let g6:upd G x (.ins Y.s g<|bH s!"name" (.str c) [])=upd G x (.ins Y.s g [(s!"name",.str c)]):=rfl;rw[g6];clear g6;generalize upd G x (.ins Y.s g [(s!"name",.str c)])=H6 at k6 x6⊢;refine(na,_,U,.inl<|P8<|k6 _ _ a8<|W _ _ S,λd T=>(x,_,g,_,U,eI x6 T,bl.k_Table,bl.na_Table_names,(by show 1<1000;decide),?_,),);let g7:upd (upd H6 d<|.lst<|l.map Qe) x (.ins Y.s g<|bH s!"names" (Qf d) [(s!"name",Qe c)])=upd (upd H6 d<|.lst<|l.map Qe) x (.ins Y.s g [(s!"name",Qe c),(s!"names",Qf d)]):=by rw[pf1]
 rw[g7];clear g7;let k7:∀b o,b≠x->G b=Nc o->upd (upd H6 d<|.lst<|l.map Qe) x (.ins Y.s g [(s!"name",Qe c),(s!"names",Qf d)]) b=Nc o:=λb o t e=>(aw t).trans<|eI (k6 b o t e) T
 let x7:upd (upd H6 d<|.lst<|l.map Qe) x (.ins Y.s g [(s!"name",Qe c),(s!"names",Qf d)]) x=Nc (.ins Y.s g [(s!"name",Qe c),(s!"names",Qf d)]):=ae;let I:d≠x:=λz=>by rw[z,x6]at T;cases T
 let j7:upd (upd H6 d<|.lst<|l.map Qe) x (.ins Y.s g [(s!"name",Qe c),(s!"names",Qf d)]) d=Nc (.lst<|l.map Qe):=(aw I).trans ae;generalize upd (upd H6 d<|.lst<|l.map Qe) x (.ins Y.s g [(s!"name",Qe c),(s!"names",Qf d)])=H7 at k7 x7 j7⊢;refine(dl,_,U,.inl<|P8<|k7 _ _ c4<|W _ _ a0,λj L=>(x,_,g,_,U,eI x7 L,bl.k_Table,bl.na_Table_domains,(by show 2<1000;decide),?_,),);let g8:upd (upd H7 j<|.lst C) x (.ins Y.s g<|bH s!"domains" (Qf j) [(s!"name",Qe c),(s!"names",Qf d)])=upd (upd H7 j<|.lst C) x (.ins Y.s g [(s!"name",Qe c),(s!"names",Qf d),(s!"domains",Qf j)]):=by rw[pf2]
 rw[g8];clear g8;let k8:∀b o,b≠x->G b=Nc o->upd (upd H7 j<|.lst C) x (.ins Y.s g [(s!"name",Qe c),(s!"names",Qf d),(s!"domains",Qf j)]) b=Nc o:=λb o t e=>(aw t).trans<|eI (k7 b o t e) L
 let x8:upd (upd H7 j<|.lst C) x (.ins Y.s g [(s!"name",Qe c),(s!"names",Qf d),(s!"domains",Qf j)]) x=Nc (.ins Y.s g [(s!"name",Qe c),(s!"names",Qf d),(s!"domains",Qf j)]):=ae;let O:j≠x:=λz=>by rw[z,x7]at L;cases L
 let j8:upd (upd H7 j<|.lst C) x (.ins Y.s g [(s!"name",Qe c),(s!"names",Qf d),(s!"domains",Qf j)]) d=Nc (.lst<|l.map Qe):=(aw I).trans<|eI j7 L;let i8:upd (upd H7 j<|.lst C) x (.ins Y.s g [(s!"name",Qe c),(s!"names",Qf d),(s!"domains",Qf j)]) j=Nc (.lst C):=(aw O).trans ae;generalize upd (upd H7 j<|.lst C) x (.ins Y.s g [(s!"name",Qe c),(s!"names",Qf d),(s!"domains",Qf j)])=H8 at k8 x8 j8 i8⊢;refine(x,_,g,_,U,x8,bl.k_Table,bl.na_Table_outcome,(by show 3<1000;decide),?_,);let g9:upd H8 x (.ins Y.s g<|bH s!"outcome" (Qf m) [(s!"name",Qe c),(s!"names",Qf d),(s!"domains",Qf j)])=upd H8 x (.ins Y.s g [(s!"name",Qe c),(s!"names",Qf d),(s!"domains",Qf j),(s!"outcome",Qf m)]):=by rw[pf3]
 rw[g9];clear g9;let k9:∀b o,b≠x->G b=Nc o->upd H8 x (.ins Y.s g [(s!"name",Qe c),(s!"names",Qf d),(s!"domains",Qf j),(s!"outcome",Qf m)]) b=Nc o:=λb o t e=>(aw t).trans<|k8 b o t e
 let x9:upd H8 x (.ins Y.s g [(s!"name",Qe c),(s!"names",Qf d),(s!"domains",Qf j),(s!"outcome",Qf m)]) x=Nc (.ins Y.s g [(s!"name",Qe c),(s!"names",Qf d),(s!"domains",Qf j),(s!"outcome",Qf m)]):=ae;let j9:upd H8 x (.ins Y.s g [(s!"name",Qe c),(s!"names",Qf d),(s!"domains",Qf j),(s!"outcome",Qf m)]) d=Nc (.lst<|l.map Qe):=(aw I).trans j8;let i9:upd H8 x (.ins Y.s g [(s!"name",Qe c),(s!"names",Qf d),(s!"domains",Qf j),(s!"outcome",Qf m)]) j=Nc (.lst C):=(aw O).trans i8;generalize upd H8 x (.ins Y.s g [(s!"name",Qe c),(s!"names",Qf d),(s!"domains",Qf j),(s!"outcome",Qf m)])=H9 at k9 x9 j9 i9⊢;refine(x,_,g,_,U,x9,bl.k_Table,bl.na_Table_way,(by show 4<1000;decide),?_,);let a4:upd H9 x (.ins Y.s g<|bH s!"way" (Qe B) [(s!"name",Qe c),(s!"names",Qf d),(s!"domains",Qf j),(s!"outcome",Qf m)])=upd H9 x (.ins Y.s g [(s!"name",Qe c),(s!"names",Qf d),(s!"domains",Qf j),(s!"outcome",Qf m),(s!"way",Qe B)]):=by rw[pf4]
 rw[a4];clear a4;let R:∀b o,b≠x->G b=Nc o->upd H9 x (.ins Y.s g [(s!"name",Qe c),(s!"names",Qf d),(s!"domains",Qf j),(s!"outcome",Qf m),(s!"way",Qe B)]) b=Nc o:=λb o t e=>(aw t).trans<|k9 b o t e
 let M:upd H9 x (.ins Y.s g [(s!"name",Qe c),(s!"names",Qf d),(s!"domains",Qf j),(s!"outcome",Qf m),(s!"way",Qe B)]) x=Nc (.ins Y.s g [(s!"name",Qe c),(s!"names",Qf d),(s!"domains",Qf j),(s!"outcome",Qf m),(s!"way",Qe B)]):=ae;let a2:upd H9 x (.ins Y.s g [(s!"name",Qe c),(s!"names",Qf d),(s!"domains",Qf j),(s!"outcome",Qf m),(s!"way",Qe B)]) d=Nc (.lst<|l.map Qe):=(aw I).trans j9;let a3:upd H9 x (.ins Y.s g [(s!"name",Qe c),(s!"names",Qf d),(s!"domains",Qf j),(s!"outcome",Qf m),(s!"way",Qe B)]) j=Nc (.lst C):=(aw O).trans i9;generalize upd H9 x (.ins Y.s g [(s!"name",Qe c),(s!"names",Qf d),(s!"domains",Qf j),(s!"outcome",Qf m),(s!"way",Qe B)])=H10 at R M a2 a3⊢;let c5:RL NT H10 rx a1:=RL.same R5<|hide_same R;let CQ:=R _ _ a7<|W _ _ J
 refine(rl,U,(_,P8 CQ,),(let I_:Jr->Nat->Nt V->Qd:=λD i l v=>au H10 v/\v D=Nc (.lst l)/\RL (Fr H10 D) v l (a1.take i);dS (xs:=rx) I_)
  (λD X=>(ai X _,ae,aN.nil,)) (λD i l v X _ h=>P8<|h.1 _ _ CQ) (λD i y l v X e h ts b3=>?_) (λD l v X h=>?_),)
 .let(u,eD,hz):=h;let(r,w_,rfl,ew,ce,cv,g1,_,g2,g3):=aN.get (c5.same u) e;let hi:i<⇑rx:=(JP.mp e).1;let(t0,t1,rfl):∃t0 t1,ts=[t0,t1]:=by
   match ts,b3 with
   | [t0,t1],_=>exact(t0,t1,U,)
  calc(r,_,U,P9 g1,U,_,_,U,_,_,U,U,([↑ce,Nc (.int w_.2)],U,U,),?_,);refine(ce,cv,w_,U,g2,g3,by rw[(hok w_<|JQ ew).len];lia,λr2 H2 t2 d1 v7=>?_,);let a5:=t2 _ _ eD;let d2:⇑l<=200:=by
   let:=hz.1;rw[hZ]at this;lia
  calc dR.mk hi a5 (aC ∅) ((u.trans t2).upd X,ae,?_,);rw[take_snoc ew];exact RL.updN (aN.snoc (hz.same t2)<|v7.wk λa h=>⟨u.free h,λz=>by rw[z,eD]at h;cases h⟩) Fr.out a5
 .let(u,eD,hz):=h;rw[hR.1,fo]at hz;refine(x,_,g,_,U,u _ _ M,bl.k_Table,bl.na_Table_rows,(by show 5<1000;decide),?_,);let c3:upd v x (.ins Y.s g<|bH s!"rows" (Qf D) [(s!"name",Qe c),(s!"names",Qf d),(s!"domains",Qf j),(s!"outcome",Qf m),(s!"way",Qe B)])=upd v x (.ins Y.s g [(s!"name",Qe c),(s!"names",Qf d),(s!"domains",Qf j),(s!"outcome",Qf m),(s!"way",Qe B),(s!"rows",Qf D)]):=by rw[pf5]
  rw[c3];let a9:D≠x:=λz=>by rw[z,M]at X;cases X
  calc q _ _ D l (λb o t e=>(aw t).trans<|u _ _<|R b o t<|W _ _ e) ae U U U U (d,j,U,U,(aw I).trans<|u _ _ a2,(aw O).trans<|u _ _ a3,) ((aw a9).trans eD) ?_;calc RL.same (RL.hide (u _ _ M) hz.any)<|hide_same λb o t e=>(aw t).trans e
def Ii(F:Fun K "boxes" "boxes" Y33 f fd)(bl:Bl K mg Y)(mm:⟨⟩ k "boxes" ["form","deep"] (iB K Y n)):() (k+1) f fd ["form","deep"] (iB K Y<|n+1):=by
 refine F.okA Z33 λd4 A d1 s H vs Q E hr h=>?_
 let(g,a7,a,d,f_,v,rfl,hf,hn,J,h6,q):=h
 refine(_,(aq (aS (aO bK (pv 1) aj<|aI _)
  (ak<|av<|aY<|aa (bh<|aa (bh ag)<|aa (pv 0) ag) ag)
  aD)
  (aq (aK (i:=2) Z33.nd U (bv U)<|aY ag)
  (aq (cJ wn U (vc<|pv 0) (fA U<|aF (aE (i:=3) Z33.nd U<|bv U)<|aF (aE (i:=4) Z33.nd U<|bv U)<|aF (aE (i:=5) Z33.nd U<|bv U) bI)
  (ak (cJ wn U (bw<|aM mm hr U<|aa (pv 5)<|aa (az eS (pv 1) aj) ag) (fA U<|aF (aE (i:=6) Z33.nd U<|bv U)<|aF (aE (i:=7) Z33.nd U<|bv U) bI)
  (ak<|bq<|jr PySem.F.plainAttrs_list PySem.F.slot_list_append PySem.F.type_list_append cq (pv 2)<|aa (bh<|aa (az zC (bh<|aa (bh<|aa (pv 3)<|aa (pv 4) ag) ag)<|pv 6)<|aa (pv 7) ag) ag))))
  (ak<|av<|pv 2)))),?_,)
 dsimp only[br,Qb,Qa];show(let r3:TS:=_;let r2:TS:=aX _ r3;let r1:TS:=aX _ r2;aX _ r1 _ _ _);intro _ _ _;cases d with
 |zero =>
  let hf:a.R H f_ v:=hf;calc(U,_,U,lP U ?_,);refine((by show 0<=JR;decide),λb hb=>?_,);let s1:=ai hb<|.tup [];let e1:upd H b (.tup []) b=Nc (.tup []):=ae;generalize upd H b (.tup [])=H1 at s1 e1⊢;calc(bZ,λt ht=>?_,);let s2:=ai ht<|.tup [.ref b,v];let e2:upd H1 t (.tup [.ref b,v]) t=Nc (.tup [.ref b,v]):=ae;generalize upd H1 t (.tup [.ref b,v])=H2 at s2 e2⊢;refine((by show 1<=JR;decide),λl X=>?_,);let s3:=ai X<|.lst [Qf t];let s:=(s1.trans s2).trans s3;exact q l _ _ s ((s1.trans s2).free X) ae<|.cons (t,b,v,U,s3 _ _ e2,([],s3 _ _<|s2 _ _ e1,.nil,),a.mono s.tups hf,) .nil
 |succ d =>
  let(r,xs,rfl,er,hp):=hf;let(L,hL):∃L:Nt (T3a<|Fm g d),L=f_:=(f_,U,);let hp:FmL (FmV a H d) H L xs:=by rw[hL];exact hp
  let J:⇑(bxs (d+1) (show Fm g (d+1)from L))<=2000:=by rw[hL];exact J
  let h6:∀q∈bxs (d+1) (show Fm g (d+1)from L),⇑q.1<=6:=by rw[hL];exact h6
  let q:∀(l:Jr)(xs:Nt V)(o:Hp),au H o->H l=Nd->o l=Nc (.lst xs)->BxG a o xs (bxs (d+1) (show Fm g (d+1)from L))->Q (.ref l) o:=by rw[hL];exact q
  let a8:⇑xs=L.length:=hp.1;refine(U,_,U,kC (λz=>by have:=V.int.inj z;lia) ?_,);refine((by show 0<=JR;decide),λl X=>?_,);let s0:au H (upd H l<|.lst []):=ai X _;let e0:upd H l (.lst []) l=Nc (.lst []):=ae;generalize upd H l (.lst [])=H0 at s0 e0⊢;refine(r,U,(_,P9<|s0 _ _ er,),(let I_:Nat->Qc:=λi C o=>au H o/\E6 λ(D:Nt V)(c3 c4 c5 O N:Option V)=>A3 (o l=Nc (.lst D)) (BxG a o D<|bxs (d+1) (show Fm g (d+1)from L.take i)) (C=[↑r,Nc<|.int ((d+1:Nat):Int),↑l,c3,c4,c5,O,N]);AZ (xs:=xs) I_ (s0,[],_,_,_,_,_,e0,.nil,U,) (λi C o _ h=>P9<|h.1 _ _ er) (λi x C o ex M=>?_) (λC o M=>?_)),)
  .let(sm,D,c3,c4,c5,O,N,el,hy,rfl):=M;let(e,ee):∃e,L[i]?=Nc e:=(_,JO (by have:=(JP.mp ex).1;lia),);let(t,u,a3,et,hu):=hp.2 i e ee;rw[ex]at a3;cases a3;let es:bxs (d+1) (show Fm g (d+1)from L.take (i+1))=bxs (d+1) (show Fm g (d+1)from L.take i)++((bxs d e.2.2).map λq=>((e.1,e.2.1) :: q.1,q.2)):=by
    rw[take_snoc ee,wW,BG]
   let lM:∀q∈(bxs d e.2.2).map (λq=>((e.1,e.2.1) :: q.1,q.2)),q∈bxs (d+1) (show Fm g (d+1)from L):=λq hq=>qh.mpr (e,JQ ee,hq,)
   let d3:⇑(bxs (d+1) (show Fm g (d+1)from L.take i))+⇑(bxs d e.2.2)<=2000:=by
    let e3:bxs (d+1) (show Fm g (d+1)from L)=bxs (d+1) (show Fm g (d+1)from L.take (i+1))++bxs (d+1) (show Fm g (d+1)from L.drop (i+1)):=by rw[←wW,kb]
    let:=Nq sK e3;rw[es,cb,cb,af]at this;lia
   let b5:∀q∈bxs d e.2.2,⇑q.1<=6:=λq hq=>by
    let:=h6 _<|lM _<|cU.mpr (q,hq,U,);let:⇑q.1+1<=6:=this;lia
   let b6:∀q∈bxs d e.2.2,⇑q.1<=5:=λq hq=>by
    let:=h6 _<|lM _<|cU.mpr (q,hq,U,);let:⇑q.1+1<=6:=this;lia
   calc(t,_,U,P9<|sm _ _ et,U,_,_,U,_,_,U,_,_,U,U,?_,);refine(_,_,U,U,g,a7,a,d,e.2.2,u,(by show[u,pi (((d+1:Nat):Int)-1)]=[u,pi (d:Int)];rw[show((d+1:Nat):Int)-1=(d:Int) by lia]),FmV.mono sm.tups hu,∅,∅,b5,λl2 zs H2 s2 f2 e2 hz=>?_,);let c8:=s2 _ _ el;let nl:l≠l2:=λz=>by rw[←z,el]at f2;cases f2
   refine(l2,U,(_,P8 e2,),(let I_:Nat->Qc:=λk C B=>au H B/\cc H2 B/\B l2=Nc (.lst zs)/\E3 λ(D:Nt V)(O N:Option V)=>A3 (B l=Nc (.lst D)) (BxG a B D<|bxs (d+1) (show Fm g (d+1)from L.take i)++((bxs d e.2.2).take k).map λq=>((e.1,e.2.1) :: q.1,q.2)) (C=[↑r,Nc<|.int ((d+1:Nat):Int),↑l,Nc<|.int e.1,Nc<|.int e.2.1,Nc u,O,N]);cO (xs:=zs) I_ (sm.trans s2,(λ_ _ h=>h),e2,D,_,_,c8,by rw[List.take_zero,nk,ik];exact hy.mono s2.tups,U,) (λk C B _ h=>P8 h.2.2.1) (λk x C B c1 M=>?_) (λC B M=>?_)),)
   .let(T,S,a4,G,O,N,I,y,rfl):=M;let(q2,W,t2,b2,Z,rfl,c2,b4,a9):=c9 (hz.mono S) c1;let hk:k<⇑(bxs d e.2.2):=(JP.mp W).1;let d2:=b6 q2<|JQ W;calc(t2,_,U,P9 c2,U,_,_,U,_,_,U,U,?_,);calc(.inl (U,_,P8 I,),bZ,λp b1=>?_,);let u1:=ai b1<|.tup [.int e.1,.int e.2.1];let g1:upd B p (.tup [.int e.1,.int e.2.1]) p=Nc (.tup [.int e.1,.int e.2.1]):=ae;generalize upd B p (.tup [.int e.1,.int e.2.1])=H4 at u1 g1⊢;refine((by show 1<=JR;decide),λp2 b3=>?_,);let u2:=ai b3<|.tup [Qf p];let g2:upd H4 p2 (.tup [Qf p]) p2=Nc (.tup [Qf p]):=ae;generalize upd H4 p2 (.tup [Qf p])=H5 at u2 g2⊢;let(bs,d0,a1):=b4;let a0:=u1.trans u2;refine(An g2 (a0 _ _ d0) (vl<|aC (by rw[⇑a1,dV];lia)) λp3 H6 u3 g3=>?_);let a5:=a0.trans u3;calc(bZ,λj b0=>?_,);let u4:=ai b0<|.tup [.ref p3,Z];let g4:upd H6 j (.tup [.ref p3,Z]) j=Nc (.tup [.ref p3,Z]):=ae;generalize upd H6 j (.tup [.ref p3,Z])=H7 at u4 g4⊢;let c:=a5.trans u4;let a2:=c _ _ I;refine(l,_,_,U,U,a2,yq (by rw[⇑y,cb,af,hZ];lia),?_,);let m:cc H7 (upd H7 l<|.lst<|G++[.ref j]):=ba a2;calc((T.trans c).upd X,(S.trans c.tups).trans m,(aw nl.symm).trans<|c _ _ a4,G++[.ref j],_,_,ae,?_,U,);rw[take_snoc W,eN,←ia];calc gh (y.mono<|c.tups.trans m)<|.cons (j,p3,Z,U,m _ _ g4,(_,m _ _<|u4 _ _ g3,?_,),a.mono (c.tups.trans m) a9,) .nil;let a6:PL H7 [Qf p] [(e.1,e.2.1)]:=.cons (p,U,u4 _ _<|u3 _ _<|u2 _ _ g1,) .nil;exact(PL.app a6<|a1.mono c.tups).mono m
   .let(T,S,a4,G,O,N,I,y,rfl):=M;rw[⇑hz,fo]at y;exact(T,G,_,_,_,_,_,I,by rw[es];exact y,U,)
  .let(sm,D,c3,c4,c5,O,N,el,hy,rfl):=M;rw[a8,fo]at hy;calc(q l D o sm X el hy)
def Ij(F:Fun K "reason_among" "reason_among" Y75 f fd)(bl:Bl K mg Y)(R:⟨⟩ 6 "leans_on" ["table","tile","k"] (jC K Y))(Z:⟨⟩ 6 "corner" ["box"] (j0 K Y)):() 7 f fd ["table","tiles","k"] (dO K Y):=by
 refine F.okA Z77 λa0 A I s H vs Q E M h=>?_
 let(t,tl,k,xs,G,c,i,o,rfl,hT,v,C,h6,hk,q):=h
 refine(_,(aq (cJ wn U (bw<|pv 1) (aE (i:=3) Z77.nd U<|bv U)
  (ak (aS (cA<|aM R M U<|aa (pv 0)<|aa (pv 3)<|aa (pv 2) ag)
  (ak<|av<|aM Z M U<|aa (aQ cj (pv 3) aj<|λ_ _=>U) ag)
  aD)))
  (ak<|av rN)),?_,)
 dsimp only[br,Qb,Qa];show(let W:TS:=_;aX _ W _ _ _);intro _;refine(tl,U,(_,P8 v,),(let I_:Nat->Qc:=λj x u=>au H u/\(∀q∈G.take j,∀m:Nat,q.2=(m:Int)->uA c i o k m=Ng)/\∃D:Option V,x=[↑t,↑tl,Nc<|.int (k:Int),D];cO (xs:=xs) I_ (au.refl _,(λq z=>by simp at z),_,U,) (λj x u _ h=>P8<|h.1 _ _ v) (λj y x u e h=>?_) (λx u h=>?_)),)
 .let(r,d,D,rfl):=h;let hj:j<G.length:=by have:=(JP.mp e).1;let:=C.1;lia
  let B:=JO hj;generalize G[j]=qx at B;let(J,b,T,m,rfl,O,N,g2,g3):=(C.2 j y qx e B).same r;let z:=JQ B;calc(t,J,b,T,k,m,c,i,o,U,Tbl.same hT r,P9 N,g3,hk,λH2 s2=>(_,U,?_,),);let L:=r.trans s2;refine bM (λg=>?_)<|λg=>?_
  .let n:uA c i o k m=true:=g;exact(J,_,_,_,U,U,P9<|s2 _ _ N,U,b,_,U,g2.mono s2.tups,h6 qx z,λl H4 S _ el=>q (.ref l) H4 (L.trans S)<|.inl ((qx,z,m,O,n,),l,U,),)
  .let n:uA c i o k m=false:=EU.mpr g;calc(L,λX a m' p=>?_,_,U,);rw[take_snoc B]at a;rcases gz.mp a with a | a
   .exact d X a m' p
   .rw[eO.mp a,O]at p;rw[←Int.ofNat.inj p];exact n
 .let(r,d,D,rfl):=h;rw[C.1,fo]at d;calc q .non u r<|.inr (d,U,)
def Ik(F:Fun K "with_rows" "with_rows" Y90 f fd)(bl:Bl K mg Y)(k_Table:bo CX0 P w K mg base 6 "Table" Y.s ["self","name","names","domains","outcome","way","rows"] (bu K Y)):() 8 f fd ["table","rows"] (i6 K Y):=by
 refine F.okA Z94 λa3 A L s H vs Q E hr h=>?_
 let(t,V,W,X,S,R,dv,T,FJ,j,bs,o,rfl,(a0,dx,Z,dl,fs,xs,g,f1,f2,f3,f4,f5,f6,G,I,JF,a2,pC),ok,D,O,q):=h;calc(_,(ak<|av<|ip k_Table bC hr U<|aa (aU (pv 0) U)<|aa (aU (pv 0) U)<|aa (aU (pv 0) U)<|aa (aU (pv 0) U)<|aa (aU (pv 0) U)<|aa (pv 1) ag),?_,);calc(t,_,_,_,_,U,g,bl.k_Table,bl.na_Table_name,f2,t,_,_,_,_,U,g,bl.k_Table,bl.na_Table_names,f5,t,_,_,_,_,U,g,bl.k_Table,bl.na_Table_domains,f6,t,_,_,_,_,U,g,bl.k_Table,bl.na_Table_outcome,f4,t,_,_,_,_,U,g,bl.k_Table,bl.na_Table_way,f3,λx c N B a1=>?_,);let d:au H (upd (upd H c<|.own x) x<|.ins Y.s c []):=(ai B _).upd N;let a:=ok.same d;calc(x,c,Z,dl,W,V,X,S,R,dv,T,bs,o,j,U,ae,d _ _ G,a.words,a.once,a.one,a.four,a.way,a.sum,d _ _ I,a.doms,a.out,d _ _ D,O.same d,by rw[O.1];exact ok.few,by rw[a.len];exact a.four,a.rows,λH' C k i k1 k2 k3 z y v (l,J,r,p,n,m,) k4 M=>(U,q x H' (λb u e=>k1 b u (aW e N)<|d _ _ e) (k,c,l,J,C,i,k2,k3,v,z,y,r,p,n,m,k4,M,by rw[M.1];exact ok.few,),),)
def Il(F:Fun K "boxes_with_leaf" "boxes_with_leaf" Y34 f fd)(bl:Bl K mg Y)(mm:⟨⟩ 7 "boxes" ["form","deep"] (iB K Y 7)):() 8 f fd ["form","deep"] (b9 K Y):=by
 refine F.okA Z34 λa6 A a3 s H vs Q E hr h=>?_
 let(L_,_,t,b,d,F_,v,rfl,a0,hF,hd,uM,h6,q):=h;refine(_,(ak<|av<|dJ (bw<|aM mm hr U<|aa (pv 0)<|aa (pv 1) ag) (di (N:=["box","leaf"]) (k:=2) U U (~~~0) (~~~0)<|~~~0) U (λ_ _ _ _=>(js (K:=K) (n:=2) U U<|aF (aE (i:=0) (show(["box","leaf"]:Nt Str).Nodup by decide+kernel) U (bv U) (v6 U)) (aF (aE (i:=1) (show(["box","leaf"]:Nt Str).Nodup by decide+kernel) U (bv U) (v6 U)) bI))) (λ_ _ _ _=>(jQ<|aO (BL (K:=K) U hr) (pv 1) (kv U bl.NOTHING_)<|aI _)) (λ_ _ _ _=>(bh<|aa (pv 0)<|aa (pv 1) ag))),?_,);calc(_,_,t,d,F_,v,U,hF,∅,∅,h6,λl xs H1 s1 nl el Z=>?_,);let O:⇑xs=⇑(bxs d F_):=Paired.length Z;generalize a5:bxs d F_=BX at Z uM O q;refine(l,U,(_,P8 el,),(let I_:Jr->Nat->Nt V->Qd:=λD j u c=>au H1 c/\c D=Nc (.lst u)/\BxG t c u (cV b<|BX.take j);dS (xs:=xs) I_ (λD I=>(ai I _,ae,.nil,)) (λD j u c I _ L=>P8<|L.1 _ _ el) (λD j y u c I e L ts o=>?_) (λD u c I L=>?_)),)
 .let(p,X,G):=L;let(r,eq,tx,J,B,rfl,g1,g2,g3):=c9 Z e;let hj:j<⇑xs:=(JP.mp e).1;let(W,T,rfl):∃W T,ts=[W,T]:=by
   match ts,o with
   | [W,T],_=>exact(W,T,U,)
  let a4:=G.length;let JG:⇑(cV b<|BX.take j)<=700:=uU (oD _ _) (by rw[hZ];lia);let o:cV b (BX.take<|j+1)=cV b (BX.take j)++if r.2=b then[] else[r]:=by
   unfold cV;rw[take_snoc eq,n7];by_cases h:r.2=b
   .rw[Nk h,lY (~~~h)];rfl
   .rw[Nj h,ov (~~~h)];rfl
  calc(tx,_,U,P9<|p _ _ g1,U,_,_,U,_,_,U,U,([↑J,Nc B],U,U,),?_,);calc(λa2=>t.ne (x:=r.2) (y:=b) a2 (t.mono p.tups g3) (a0 _) (_,U,?_,));refine bM (λg=>?_)<|λg=>?_
  .let h0:r.2≠b:=λz=>by rw[Nm z]at g;exact Nl g ⋯
   calc(bZ,λm a1=>?_,);let C:=ai a1<|.tup [.ref J,B];let eT:upd c m (.tup [.ref J,B]) m=Nc (.tup [.ref J,B]):=ae;let a:=C _ _ X;let M:=G.mono C.tups;let S:=(g2.mono p.tups).mono C.tups;let R:=t.mono C.tups<|t.mono p.tups g3;generalize upd c m (.tup [.ref J,B])=H3 at C eT a M S R⊢;calc dR.mk hj a (aC ∅) ((p.trans C).upd I,ae,?_,);rw[o,Nj h0];exact gh (M.mono<|ba a)<|.cons (m,J,B,U,ba a _ _ eT,S.mono<|ba a,t.mono (ba a) R,) .nil
  .let h0:r.2=b:=by
    by_cases z:r.2=b
    .exact z
    .exact Nl (show(!Nh (r.2=b))=Nf by rw[Nn z];rfl) g
   calc eP.mk hj (p,X,?_,);rw[o,Nk h0,ik];exact G
 .let(p,X,G):=L;rw[O,fo]at G;calc q D u c (s1.trans p) (s1.free I) X G
def Im(F:Fun K "_law_one" "_law_one" Y62 f fd)(bl:Bl K mg Y)(pN:⟨⟩ 7 "_law_domains" ["kind","count","cell","points"] (gj K Y))(pO:⟨⟩ 7 "_law_outcome" ["words","kind"] (gk K Y))(X:bo CX0 P w K mg base 6 "Table" Y.s ["self","name","names","domains","outcome","way","rows"] (bu K Y))(mn:⟨⟩ 7 "_law_spans" ["points"] (i4 K Y)):() 8 f fd ["name","kind","shape","full","way"] (kQ K Y):=by
 refine F.okA Z64 λi2 A g2 s H vs Q E hr h=>?_
 let(y,kd,n,c,cl,Z,a,J,fu,M,rfl,a6,e9,hc,hS,h1,i1,h6,JH,c3,q):=h
 refine(_,(aJ (jn (pv 2)<|fA U<|aF (aE (i:=5) Z64.nd U<|bv U)<|aF (aE (i:=6) Z64.nd U<|bv U)<|aF (aE (i:=7) Z64.nd U<|bv U) bI)
  (aJ (aK (i:=8) Z64.nd U (bv U)<|aM pN hr U<|aa (pv 1)<|aa (pv 5)<|aa (pv 7)<|aa (pv 6) ag)
  (aJ (aK (i:=9) Z64.nd U (bv U)<|aY<|aa (aM mn hr U<|aa (fj (d9 U bl.range_<|aa (az bA (pv 5) aj) ag) (gM U (~~~0) (~~~0) (~~~0) U) U (λ_ _ _ _=>cG)<|λ_ _ _ _=>(pv 0)) ag)<|aa (aM mn hr U<|aa (pv 6) ag) ag)
  (aJ (aK (i:=10) Z64.nd U (bv U)<|aM pO hr U<|aa (bL bK (az bW (az gJ (pv 7) aj) aj) aj<|aI _)<|aa (pv 1) ag)
  (aJ (aK (i:=11) Z64.nd U (bv U)<|aY<|aa aR<|aa aR<|aa aR<|aa aR<|aa aR<|aa aR ag)
  (aJ (aS (cA<|ay eB U bl.isinstance_ dL<|aa (pv 10)<|aa (bB (v:=.ref Y.r) U bl.Words_ U) ag)
  (ak<|aK (i:=11) Z64.nd U (bv U)<|dI fh (pv 11) fe<|fg aj)
  aD)
  (aJ (aK (i:=12) Z64.nd U (bv U)<|aY ag)
  (aJ (aS (cA<|pv 3)
  (ak<|aK (i:=12) Z64.nd U (bv U)<|aY<|aa (bh<|aa (dI fh (pv 9) fe<|fg<|ay aG U bl.len_ Nb<|aa (pv 8) ag)<|aa aj ag) ag)
  aD)
  (aJ (aK (i:=13) Z64.nd U (bv U)<|dI fh (aY<|aa (pv 0)<|aa (az iQ (pv 0) aR) ag) fe<|fg<|ay aG U bl.len_ Nb<|aa (pv 8) ag)
  (ak<|av<|ip X bC hr U<|aa (az iQ (pv 0) aR)<|aa (pv 13)<|aa (pv 8)<|aa (pv 10)<|aa (aQ aP (pv 11) (az bW (pv 4)<|ay aG U bl.len_ Nb<|aa (pv 11) ag)<|λ_ _=>U)<|aa (pv 12) ag)))))))))),?_,)
 dsimp only[br,Qb,Qa];show(let r9:TS:=_;let r8:TS:=bY _ r9;let r7:TS:=bY _ r8;let r6:TS:=bY _ r7;let r5:TS:=bY _ r6;let r4:TS:=bY _ r5;let r3:TS:=bY _ r4;let r2:TS:=bY _ r3;let r1:TS:=bY _ r2;bY _ r1 _ _ _);intro _ _ _ _ _ _ _ _ _;let(m,hm):∃m,m=if kd=1 then 1 else 2:=(_,U,)
 rw[←hm]at q;let D8:1<=m/\m<=2:=by rw[hm];split <;> exact(⋯,⋯,)
 calc(λt g=>g=H/\t=[Nc (.str y),Nc<|.int (kd:Int),↑Z,Nc<|.bl fu,Nc<|.int M,Nc<|.int (n:Int),↑a,Nc<|.int cl,Nd,Nd,Nd,Nd,Nd,Nd],(Z,_,U,e9,U,_,_,U,_,_,U,_,_,U,U,U,U,),?_,);rintro h3 H1 ⟨z1,rfl⟩;subst z1;calc(λt g=>au H1 g/\E2 λ(L:Jr)(dv:Nt V)=>A3 (g L=Nc (.lst dv)) (aN dv (dmF kd n c (J.getD 0 0)<|J.getD (J.length-1) 0)<|DmX Y.q Y.r g)<|t=[Nc (.str y),Nc<|.int (kd:Int),↑Z,Nc<|.bl fu,Nc<|.int M,Nc<|.int (n:Int),↑a,Nc<|.int cl,↑L,Nd,Nd,Nd,Nd,Nd],(kd,n,c,cl,a,J,U,hc,hS,∅,∅,∅,c3,λL dv g s' e h=>(s',L,dv,e,h,U,),),?_,);rintro h0 H2 ⟨s2,L,dv,b1,c6,rfl⟩;let c7:⇑dv=m:=by rw[c6.1,oj,hm]
 refine(λt g=>au H2 g/\E5 λ(R T S:Jr)(x1 x2:Nt V)=>A6 (g R=Nc (.lst [.ref T,.ref S])) (g T=Nc (.lst x1)) (PL g x1<|evS<|gD n) (g S=Nc (.lst x2)) (PL g x2<|evS J)<|t=[Nc (.str y),Nc<|.int (kd:Int),↑Z,Nc<|.bl fu,Nc<|.int M,Nc<|.int (n:Int),↑a,Nc<|.int cl,↑L,↑R,Nd,Nd,Nd,Nd],?_,?_,)
 .refine(_,_,U,U,_,U,∅,∅,fZ (λD j ys g=>au H2 g/\g D=Nc (.lst ys)/\ys=((db j).map λk:Nat=>(k:Int)).map pi) (λD hD=>(ai hD _,ae,U,)) (λD j ys g hD hj h=>?_)<|λD ys g hD h=>?_,)
  .let(sm,eD,rfl):=h;let h9:j<n+1:=∅
   refine(dR.mk hj eD (aC (by rw[af,af,jG];lia)) (sm.upd hD,ae,?_,));rw[kF,eN,eN,NK];rfl
  .let(sm,eD,rfl):=h;rw[show((n:Int)+1).toNat=n+1 by lia]at eD;let c5:⇑(gD n)=n+1:=by unfold gD;rw[af,jG]
   refine(D,gD n,U,P8 eD,∅,∅,λT x1 H3 s3 _ e1 a8=>(a,J,U,(((s2.trans sm).trans s3)).seq hS,∅,∅,λS x2 H4 s4 _ e2 a7=>((by show 2<=JR;decide),λR e8=>?_,),),);let s5:=ai e8<|.lst [.ref T,.ref S];let a3:=s4.trans s5;exact((sm.trans s3).trans a3,R,T,S,x1,x2,ae,a3 _ _ e1,a8.mono a3.tups,s5 _ _ e2,a7.mono s5.tups,U,)
 rintro g9 H3 ⟨s3,R,T,S,x1,x2,f9,e1,a8,e2,a7,rfl⟩;refine(λt g=>au H3 g/\∃N:Jr,DmX Y.q Y.r g N (outF (whF cl) kd)/\t=[Nc (.str y),Nc<|.int (kd:Int),↑Z,Nc<|.bl fu,Nc<|.int M,Nc<|.int (n:Int),↑a,Nc<|.int cl,↑L,↑R,↑N,Nd,Nd,Nd],(_,_,U,U,(⋯,⋯,),_,_,U,U,(by show(0:Int)<2;decide),U,_,kd,U,λN g s' h=>(s',N,h,U,),),?_,);rintro g8 H4 ⟨s4,N,c4,rfl⟩;refine(λt g=>au H4 g/\∃B:Jr,g B=Nc (.lst<|six.map Qe)/\t=[Nc (.str y),Nc<|.int (kd:Int),↑Z,Nc<|.bl fu,Nc<|.int M,Nc<|.int (n:Int),↑a,Nc<|.int cl,↑L,↑R,↑N,↑B,Nd,Nd],((by show 6<=JR;decide),λB a1=>(ai a1 _,B,ae,U,),),?_,);rintro g7 H5 ⟨s5,B,W,rfl⟩;refine(λt g=>au H5 g/\E2 λ(B:Jr)(G:Nat)=>A5 (g B=Nc (.lst<|(six.take G).map Qe)) (5<=G) (G<=6) (G=6->∃p,outF (whF cl) kd=.inl p)<|t=[Nc (.str y),Nc<|.int (kd:Int),↑Z,Nc<|.bl fu,Nc<|.int M,Nc<|.int (n:Int),↑a,Nc<|.int cl,↑L,↑R,↑N,↑B,Nd,Nd],?_,?_,)
 .let B5:=c4.same s5;cases hO:outF (whF cl) kd with
  |inl p =>
   rw[hO]at B5;let(dx,fs,b0,_):=B5;exact(_,_,_,_,Ng,U,.ref _,bl.t_Numbers.ty b0,bl.f_nw,_,U,bJ (au.refl _,B,6,W,⋯,⋯,λ_=>(p,U,),U,),)
  |inr zs =>
   rw[hO]at B5;let(dx,fs,l,b0,_):=B5;calc(_,_,_,_,Nf,U,.ref _,bl.t_Words.ty b0,bl.f_ww,_,U,dh (_,U,B,_,U,P8 W,λc1 f5=>?_,),);exact(ai f5 _,c1,5,ae,⋯,⋯,λz=>Nl z ⋯,U,)
 clear W B;rintro g6 H6 ⟨s6,B,G,W,h8,f2,wg,rfl⟩;refine(λt g=>au H6 g/\∃C:Jr,g C=Nc (.lst [])/\t=[Nc (.str y),Nc<|.int (kd:Int),↑Z,Nc<|.bl fu,Nc<|.int M,Nc<|.int (n:Int),↑a,Nc<|.int cl,↑L,↑R,↑N,↑B,↑C,Nd],((by show 0<=JR;decide),λC a5=>(ai a5 _,C,ae,U,),),?_,);rintro g5 H7 ⟨s7,C,a2,rfl⟩;let a0:=((s4.trans s5).trans s6).trans s7;refine(λt g=>au H7 g/\E2 λ(C:Jr)(rx:Nt V)=>A3 (g C=Nc (.lst rx)) (RL NT g rx<|rwF fu m n J)<|t=[Nc (.str y),Nc<|.int (kd:Int),↑Z,Nc<|.bl fu,Nc<|.int M,Nc<|.int (n:Int),↑a,Nc<|.int cl,↑L,↑R,↑N,↑B,↑C,Nd],?_,?_,)
 .refine(_,U,?_,);cases fu with
  |false=>exact bJ (au.refl _,C,[],a2,aN.nil,U,)
  |true =>
   let Io:=a0 _ _ f9;let Ea:=(s3.trans a0) _ _ b1;calc dh (L,_,U,.inl<|P8 Ea,_,U,R,_,U,P8 Io,λce f4=>?_,);rw[c7,ph (xs:=[.ref T,.ref S]) (k:=m) (by show m<=2;lia)];let I:=ai f4<|.lst<|[Qf T,.ref S].take m;let c8:upd H7 ce (.lst<|[Qf T,.ref S].take m) ce=Nc (.lst<|[Qf T,.ref S].take m):=ae;generalize upd H7 ce (.lst<|[Qf T,.ref S].take m)=H8 at I c8⊢;calc(bZ,λr hr=>?_,);let u2:=ai hr<|.tup [.ref ce,.int 3];let er:upd H8 r (.tup [.ref ce,.int 3]) r=Nc (.tup [.ref ce,.int 3]):=ae;generalize upd H8 r (.tup [.ref ce,.int 3])=H9 at u2 er⊢;refine((by show 1<=JR;decide),λC a5=>?_,);let u3:=ai a5<|.lst [.ref r];let b3:=(I.trans u2).trans u3;let sA:=a0.trans b3;calc(b3,C,[.ref r],ae,?_,U,);calc aN.snoc aN.nil (ce,_,u3 _ _ er,trivial,(u2.trans u3) _ _ c8,?_,);let h2:CL NT (upd H9 C<|.lst [.ref r]) [.ref T,.ref S] [evS (gD n),evS J]:=aN.snoc (aN.snoc aN.nil (trivial,x1,sA _ _ e1,a8.mono sA.tups,)) (trivial,x2,sA _ _ e2,a7.mono sA.tups,);exact aN.take h2 m
 clear a2 C;rintro g4 H8 ⟨s8,C,rx,a2,hR,rfl⟩;let b4:=a0.trans s8;refine(λt g=>au H8 g/\∃nl:Jr,g nl=Nc (.lst<|([y,y++s!"b"].take m).map Qe)/\t=[Nc (.str y),Nc<|.int (kd:Int),↑Z,Nc<|.bl fu,Nc<|.int M,Nc<|.int (n:Int),↑a,Nc<|.int cl,↑L,↑R,↑N,↑B,↑C,↑nl],?_,?_,)
 .let Ip:=(s3.trans b4) _ _ b1;refine(_,_,U,U,(by rcases a6 with rfl|rfl <;> decide),(by show 2<=JR;decide),λp hp=>?_,);let I:=ai hp<|.lst [.str y,.str (y++s!"b")];let ep:upd H8 p (.lst [.str y,.str (y++s!"b")]) p=Nc (.lst [.str y,.str (y++s!"b")]):=ae;generalize upd H8 p (.lst [.str y,.str (y++s!"b")])=H9 at I ep⊢;calc(L,_,U,.inl<|P8<|I _ _ Ip,_,U,p,_,U,P8 ep,λnl c5=>?_,);rw[c7,ph (xs:=[.str y,.str (y++s!"b")]) (k:=m) (by show m<=2;lia)];calc(I.trans<|ai c5 _,nl,?_,U,);rw[ae,List.map_take];rfl
 rintro g3 H9 ⟨s9,nl,g0,rfl⟩;let a4:=b4.trans s9;let d2:=(((s5.trans s6).trans s7).trans s8).trans s9;let d1:=(s7.trans s8).trans s9;let Iq:=(s3.trans a4) _ _ b1;let Eb:aN dv (dmF kd n c (J.getD 0 0)<|J.getD (J.length-1) 0) (DmX Y.q Y.r H9):=aN.mono c6 λ_ _ p=>p.same<|s3.trans a4
 let AL:=c4.same d2;let FN:=d1 _ _ W;let(b6,b5):=DX y a6 m D8.1 D8.2;let e7:⇑(six.take G)=G:=by rw[hZ];exact xy f2
 let a1:(⇑((six.take G).map Qe):Nat)=G:=by rw[af,e7]
 let JI:=Gm M (show((G:Nat):Int)≠0 by lia);let JJ:=Gv M (show(0:Int)<((G:Nat):Int) by lia);let(wi,e6):∃wi:Nat,M%((G:Nat):Int)=(wi:Int):=((M%((G:Nat):Int)).toNat,∅,);let(wy,a9):∃wy,(six.take G)[wi]?=Nc wy:=(_,JO ∅,);let qD:six[wi]?=Nc wy:=by rw[KB ∅]at a9;exact a9
 let f8:atI ((six.take G).map Qe) (M%((⇑((six.take G).map Qe):Nat):Int))=Nc (.str wy):=by
  rw[a1,e6];exact cx (by rw[fi,a9];rfl)
 refine(_,_,U,U,(by rcases a6 with rfl|rfl <;> decide),B,_,U,.inl<|P8 FN,_,_,U,U,(by rw[a1];lia),B,_,_,_,U,U,P8 FN,f8,λx dx hx f3 h7=>?_,);let I:au H9 (upd (upd H9 dx<|.own x) x<|.ins Y.s dx []):=(ai f3 _).upd hx;let c2:wy=s!"sum" -> ∃dx fs,H9 N=Nc (.ins Y.q dx fs):=λz=>by
  let h5:wi=5:=by
   rw[z]at qD;let:wi<6:=(JP.mp qD).1;rcases lt6 this with rfl|rfl|rfl|rfl|rfl|rfl
   .exact Nl (bn qD) ⋯
   .exact Nl (bn qD) ⋯
   .exact Nl (bn qD) ⋯
   .exact Nl (bn qD) ⋯
   .exact Nl (bn qD) ⋯
   .rfl
  let(p,hp):=wg ∅;rw[hp]at AL;let(dx,fs,e,_):=AL;exact(dx,fs,e,)
 let f0:⇑(rwF fu m n J)<=1:=by unfold rwF;split;calc uN 1;exact ve 1
 let h4:⇑rx<=1:=by rw[hR.1];exact f0
 let hok:=FC (kd:=kd) (c:=c) (fu:=fu) (o:=Dm.b<|outF (whF cl) kd) (by omega) hm c3 (CN _ _);let e5:⇑([y,y++s!"b"].take m)=m:=by rw[hZ];exact xy D8.2
 let f6:⇑((dmF kd n c (J.getD 0 0)<|J.getD (J.length-1) 0).map Dm.b)=m:=by rw[af,oj,hm]
 calc(x,dx,nl,L,N,C,_,wy,[y,y++s!"b"].take m,dv,rx,_,_,_,U,ae,I _ _ g0,b6,b5,∅,∅,JQ qD,(λz=>let ⟨d,f,e⟩:=c2 z;(d,f,I _ _ e,)),I _ _ Iq,xg<|aN.mono Eb λ_ _ p=>p.same I,(AL.same I).dom,I _ _<|s9 _ _ a2,RL.same (RL.same hR s9) I,∅,∅,hok,λg fs d3 d0 k1 k2 k3 e4 e3 e0 (d4,g1,d8,d7,d6,d5,) k4 k5=>?_,);let O:au H9 g:=λb u e=>k1 b u (aW e hx)<|I _ _ e
 let f1:(Dm.b<|outF (whF cl) kd).1<=(Dm.b<|outF (whF cl) kd).2:=by have:=CN (whF cl) kd;lia
 refine(U,q x g wi (((s2.trans s3).trans a4).trans O) ((N,_,wy,_,dv,(d3,dx,d4,g1,fs,d0,k2,k3,e0,e4,e3,d8,d7,d6,d5,k4,k5,by rw[k5.1];lia,),(b6,b5,∅,∅,JQ qD,(λz=>let ⟨d,f,e⟩:=c2 z;(d,f,O _ _ e,)),xg<|aN.mono Eb λ_ _ p=>p.same O,(AL.same O).dom,by rw[f6,e5],hok,∅,),qD,f1,aN.snoc (aN.mono Eb λ_ _ p=>p.same O)<|AL.same O,),?_,),);rw[cb,oj,dV];split <;> decide
def Ir(F:Fun K "_law_dotted" "_law_dotted" Y61 f fd)(bl:Bl K mg Y)(C:bo CX0 P w K mg base 6 "Table" Y.s ["self","name","names","domains","outcome","way","rows"] (bu K Y))(c:bo CX0 P w K mg base 6 "Numbers" Y.q ["self","low","high"] (bj K Y)):() 8 f fd ["low","size","shift"] (ie K Y):=by
 refine F.okA Z63 λe2 A d3 s H vs Q E S h=>?_
 let(a,d,n,rfl,h1,e1,d7,d6,q):=h
 refine(_,(aJ (Bc (i:=3) Z63.nd U (bv U) (d9 U bl.range_<|aa (pv 1) ag) (dQ (N:=["k","low","shift"]) (fr:=[0,2]) (cl:=[("shift",↥s+1+1),("low",↥s+1)]) U U (~~~0) (~~~0) U (~~~0) U U U (gg.mpr (U,gg.mpr (U,iF _,),)) U) U (λ_ _ _ _=>cG)<|λ_ _ _ _=>(bh<|aa (az bA (az bA (pv 1)<|az dC aj<|pv 0)<|pv 2)<|aa (az bA (az bA (pv 1)<|az dC aj<|pv 0)<|pv 2) ag))
  (ak<|av<|ip C bC S U<|aa aR<|aa (aY<|aa aR ag)<|aa (aY<|aa (ip c bC S U<|aa (az eS (pv 0) aj)<|aa (az bA (pv 0)<|az dC aj<|pv 1) ag) ag)<|aa (ip c bC S U<|aa aj<|aa aj ag)<|aa aR<|aa (aY<|aa (bh<|aa (aY<|aa (pv 3) ag)<|aa aj ag) ag) ag)),?_,)
 show(let r1:TS:=_;bY _ r1 _ _ _);intro _;refine(let I_:Qc:=λa6 l=>au H l/\E2 λ(p:Jr)(v:Nt V)=>A3 (l p=Nc (.lst v)) (PL l v ((db n).map λk:Nat=>(a+4*(k:Int)+d,a+4*(k:Int)+d)))<|a6=[Nc (.int a),Nc<|.int (n:Int),Nc<|.int d,↑p];(I_,?_,?_,))
 .refine(_,U,∅,∅,(let I_:Jr->Nat->Nt V->Qd:=λD j v l=>au H l/\l D=Nc (.lst v)/\⇑v=j/\PL l v ((db j).map λk:Nat=>(a+4*(k:Int)+d,a+4*(k:Int)+d));fZ I_ (λD hD=>(ai hD _,ae,U,.nil,)) (λD j v l hD hj h=>?_) (λD v l hD h=>?_)),)
  .let(sm,eD,X,O):=h;let e0:j<n:=by rw[FG]at hj;exact hj
   calc(_,_,U,U,.inl (⋯,⋯,),_,_,U,U,_,_,U,U,_,_,U,U,.inl (⋯,⋯,),_,_,U,U,_,_,U,U,bZ,λt ht=>?_,);rw[NK];let s4:=ai ht<|.tup [.int (a+4*(j:Int)+d),.int (a+4*(j:Int)+d)];let e4:upd l t (.tup [.int (a+4*(j:Int)+d),.int (a+4*(j:Int)+d)]) t=Nc (.tup [.int (a+4*(j:Int)+d),.int (a+4*(j:Int)+d)]):=ae;generalize upd l t (.tup [.int (a+4*(j:Int)+d),.int (a+4*(j:Int)+d)])=H4 at s4 e4⊢;let a5:=s4 _ _ eD;refine dR.mk hj a5 (aC ∅) ((sm.trans s4).upd hD,ae,by rw[cb,dV,X],?_,);let T:cc H4 (upd H4 D<|.lst<|v++[.ref t]):=ba a5;rw[kF,eN];exact((O.mono s4.tups).mono T).snoc (T _ _ e4)
  .let(sm,eD,X,O):=h;rw[FG]at O;exact(sm,D,v,eD,O,U,)
 rintro d5 H1 ⟨s1,p,v,ep,O,rfl⟩;refine((by show 1<=JR;decide),λnn c4=>?_,);let u1:=ai c4<|.lst [.str s!"d"];let a2:upd H1 nn (.lst [.str s!"d"]) nn=Nc (.lst [.str s!"d"]):=ae;generalize upd H1 nn (.lst [.str s!"d"])=H2 at u1 a2⊢;calc(_,_,U,U,_,_,U,U,.inl (⋯,⋯,),_,_,U,U,λy m hy c5 d8=>(y,m,a-1,a+4*(n:Int),U,ae,∅,U,?_,),);let u2:au H2 (mkd Y.q (upd (upd H2 m<|.own y) y<|.ins Y.q m []) y m (a-1)<|a+4*(n:Int)):=iw hy c5;let m2:DmX Y.q Y.r (mkd Y.q (upd (upd H2 m<|.own y) y<|.ins Y.q m []) y m (a-1)<|a+4*(n:Int)) y (.inl (a-1,a+4*(n:Int))):=jZ;let d2:Dom Y.q Y.r (mkd Y.q (upd (upd H2 m<|.own y) y<|.ins Y.q m []) y m (a-1)<|a+4*(n:Int)) y (a-1,a+4*(n:Int)):=xf;generalize mkd Y.q (upd (upd H2 m<|.own y) y<|.ins Y.q m []) y m (a-1) (a+4*(n:Int))=H3 at u2 d2 m2⊢;refine((by show 1<=JR;decide),λdl c8=>?_,);let u3:=ai c8<|.lst [.ref y];let a3:upd H3 dl (.lst [.ref y]) dl=Nc (.lst [.ref y]):=ae;generalize upd H3 dl (.lst [.ref y])=H4 at u3 a3⊢;refine λg o c3 c7 Ic=>(g,o,0,7,U,ae,⋯,U,?_,)
 let u4:au H4 (mkd Y.q (upd (upd H4 o<|.own g) g<|.ins Y.q o []) g o 0 7):=iw c3 c7;let m4:DmX Y.q Y.r (mkd Y.q (upd (upd H4 o<|.own g) g<|.ins Y.q o []) g o 0 7) g (.inl (0,7)):=jZ;let d4:Dom Y.q Y.r (mkd Y.q (upd (upd H4 o<|.own g) g<|.ins Y.q o []) g o 0 7) g (0,7):=xf;generalize mkd Y.q (upd (upd H4 o<|.own g) g<|.ins Y.q o []) g o 0 7=H5 at u4 d4 m4⊢;refine((by show 1<=JR;decide),λJ d0=>?_,);let u5:=ai d0<|.lst [.ref p];let a4:upd H5 J (.lst [.ref p]) J=Nc (.lst [.ref p]):=ae;generalize upd H5 J (.lst [.ref p])=H6 at u5 a4⊢;calc(bZ,λr S=>?_,);let u6:=ai S<|.tup [.ref J,.int 3];let er:upd H6 r (.tup [.ref J,.int 3]) r=Nc (.tup [.ref J,.int 3]):=ae;generalize upd H6 r (.tup [.ref J,.int 3])=H7 at u6 er⊢;refine((by show 1<=JR;decide),λrl c2=>?_,);let R:=ai c2<|.lst [.ref r];let a1:upd H7 rl (.lst [.ref r]) rl=Nc (.lst [.ref r]):=ae;generalize upd H7 rl (.lst [.ref r])=H8 at R a1⊢;let M:au H1 H8:=((((((u1.trans u2).trans u3).trans u4).trans u5).trans u6).trans R);let G:=(u5.trans u6).trans R;let W:=u4.trans G;let I:=u3.trans W;refine λx dx hx c6 JK=>?_
 let L:au H8 (upd (upd H8 dx<|.own x) x<|.ins Y.s dx []):=(ai c6 _).upd hx;let hR:RL NT H8 [.ref r] [([(db n).map λk:Nat=>(a+4*(k:Int)+d,a+4*(k:Int)+d)],3)]:=aN.snoc aN.nil (J,[.ref p],R _ _ er,trivial,(u6.trans R) _ _ a4,aN.snoc aN.nil (trivial,v,M _ _ ep,O.mono M.tups,),);let hok:∀w∈[(([(db n).map λk:Nat=>(a+4*(k:Int)+d,a+4*(k:Int)+d)],3):Rw)],uo [(a-1,a+4*(n:Int))] (0,7) w:=λw hw=>by
  rw[eO.mp hw];refine(U,λj ps b f1 f2=>?_,(by decide:(0:Int)<=3),(by decide:(3:Int)<=7),);cases j with
  |zero =>
   cases f1;cases f2;intro p hp;let(k,hk,rfl):=cU.mp hp;let:=hE.mp hk;exact(by show a-1<=a+4*(k:Int)+d;lia,by show a+4*(k:Int)+d<=a+4*(n:Int);lia,)
  |succ j=>simp at f2
 let a0:∀z∈s!"dot" :: [s!"d"],isw z=true:= ~~~0
 let Z:(s!"dot" :: [s!"d"]).Nodup:= ~~~0
 refine(x,dx,nn,dl,g,rl,_,_,[s!"d"],[.ref y],[.ref r],[(a-1,a+4*(n:Int))],(0,7),_,U,ae,L _ _<|((u2.trans I)) _ _ a2,a0,Z,⋯,⋯,⋯,λz=>Nl z ⋯,L _ _<|W _ _ a3,aN.snoc aN.nil<|(d2.same I).same L,(d4.same G).same L,L _ _ a1,RL.same hR L,(by show 1<=200;decide),(by show 1<=4;decide),hok,λl fs a8 a7 k1 k2 k3 c1 b6 b5 (a9,d1,b4,b3,b1,b0,) k4 k5=>?_,);let B:au H8 l:=λb u e=>k1 b u (aW e hx)<|L _ _ e
 calc(U,q x l ((s1.trans M).trans B) ((g,_,_,_,_,(a8,dx,a9,d1,fs,a7,k2,k3,b5,c1,b6,b4,b3,b1,b0,k4,k5,by rw[k5.1];exact(by decide:1<=200),),(a0,Z,⋯,⋯,⋯,(λz=>Nl z ⋯),aN.snoc aN.nil<|(d2.same I).same B,(d4.same G).same B,U,hok,(by show 1<=200;decide),),U,⋯,aN.snoc (aN.snoc aN.nil<|(m2.same I).same B)<|(m4.same G).same B,),(by show 2<=10;decide),),)
def Iu(F:Fun K "without_row" "without_row" Y91 f fd)(bl:Bl K mg Y)(T:⟨⟩ 8 "with_rows" ["table","rows"] (i6 K Y)):() 9 f fd ["table","k"] (gm K Y):=by
 refine F.okA Z95 λa1 A C s H vs Q E Z h=>?_
 let(t,W,k,j,X,S,R,dv,bs,o,rfl,L,hk,c,q):=h;calc(_,(ak<|av<|aM T Z U<|aa (pv 0)<|aa (az fW (dI fh (aU (pv 0) U) fe<|fg<|pv 1)<|dI fh (aU (pv 0) U) (fg<|az bA (pv 1) aj) fe) ag),?_,);let(J,dx,na,dl,fs,a,I,G,_,_,_,_,_,_,_,i,d,pC):=id L;let a0:⇑a=⇑j:=d.1;calc(t,_,_,_,_,U,I,bl.k_Table,bl.na_Table_rows,G,_,U,J,_,U,P8 i,λr z=>?_,);rw[ph (xs:=a) (k:=k) ∅];let l:=ai z<|.lst<|a.take k;let g:upd H r (.lst<|a.take k) r=Nc (.lst<|a.take k):=ae;generalize upd H r (.lst<|a.take k)=H1 at l g⊢;calc(t,_,_,_,_,U,l _ _ I,bl.k_Table,bl.na_Table_rows,G,_,_,U,U,_,U,J,_,U,P8<|l _ _ i,λp y=>?_,);rw[uC (xs:=a) (k:=(k:Int)+1) ∅ ∅,show((k:Int)+1).toNat=k+1 by lia];let u:=ai y<|.lst<|a.drop<|k+1;let N:upd H1 p (.lst<|a.drop<|k+1) p=Nc (.lst<|a.drop<|k+1):=ae;let g:=u _ _ g;generalize upd H1 p (.lst<|a.drop<|k+1)=H2 at u g N⊢;let O:⇑(a.take k)+⇑(a.drop<|k+1)<=200:=by rw[hZ,jP];lia
 calc(r,p,_,_,U,U,g,N,vl<|aC ∅,λn v=>?_,);let D:=ai v<|.lst<|a.take k++a.drop (k+1);let M:upd H2 n (.lst<|a.take k++a.drop (k+1)) n=Nc (.lst<|a.take k++a.drop (k+1)):=ae;generalize upd H2 n (.lst<|a.take k++a.drop (k+1))=H3 at D M⊢;let m:=(l.trans u).trans D;let b:=c.same m;refine(t,n,W,X,S,R,dv,_,j,_,bs,o,U,L.same m,(b.words,b.once,b.one,b.four,b.way,b.sum,b.doms,b.out,b.len,λw e=>?_,?_,),M,RL.same (aN.app (aN.take d.any k)<|aN.drop d.any<|k+1) m,λx H' V B=>q x H' (m.trans V) B,)
 .rcases gz.mp e with e|e
  .exact c.rows w<|q5 e
  .exact c.rows w<|pU e
 .rw[cb,hZ,jP];let:=c.few;lia
def Iv(F:Fun K "layered" "layered" Y68 f fd)(bl:Bl K mg Y)(jH:⟨⟩ k "closed" ["triples"] (iA K Y))(m7:⟨⟩ k "layered" ["columns","ahead","leaf"] (gn K Y P w mg base n)) (hk:8<=k):() (k+1) f fd ["columns","ahead","leaf"] (gn K Y P w mg base<|n+1):=by
 refine F.okA Z70 λc1 A b5 s H vs Q E hr h=>?_
 let(c,b,f_,xs,a,M,m,L,iL,A,g,J,rfl,hn,hc,hC,hb,a1,b3,b0,hm,Z,hJ,q):=h
 refine(_,(aq (aS (dB<|dH (pv 0) (by intro _;rfl))
  (ak<|av<|sv (k:=8) (i:=2) (hr.mono hk) U (v6<|bv U)<|aa (pv 1) ag)
  aD)
  (ak<|av<|aM jH hr U<|aa (dJ (bw<|aQ aP (pv 0) aj<|λ_ _=>U) (ft (N:=["low","high","columns","ahead","leaf"]) (k:=2) (fr:=[0,1,2]) (cl:=[("leaf",↥s+1+1+1),("columns",↥s+1),("ahead",↥s+1+1)]) U U (~~~0) (~~~0) U U (gg.mpr (U,gg.mpr (U,gg.mpr (U,iF _,),),)) U) U (λ_ _ _ _=>(js (K:=K) (n:=2) U U<|aF (aE (i:=0) (show(["low","high","columns","ahead","leaf"]:Nt Str).Nodup by decide+kernel) U (bv U) (v6 U)) (aF (aE (i:=1) (show(["low","high","columns","ahead","leaf"]:Nt Str).Nodup by decide+kernel) U (bv U) (v6 U)) bI))) (λ_ _ _ _=>cG) (λ_ _ _ _=>(bh<|aa (pv 0)<|aa (pv 1)<|aa (aM m7 hr U<|aa (dI (zU (K:=K) U) (pv 2) (fg aj) fe)<|aa (az fW (pv 3)<|aY<|aa (pv 0) ag)<|aa (pv 4) ag) ag))) ag)),?_,)
 dsimp only[br,Qb,Qa];show(let r1:TS:=_;aX _ r1 _ _ _);intro _;cases a with
 |nil =>
  let hx:xs=[]:=wr hC.1;subst hx;let(sp,hF,a9):=Z.fn;calc(_,.inl (_,P8 hc,U,),dh ?_,);exact(f_,sp,U,Z.ob H hJ,hF,Z.ob H hJ,a9 H b M _ hJ (by rw[hm];rfl) hb λv u h' hv=>q v u h' hv,)
 |cons y a =>
  let(r,ex,ts,er,hp):=hC.2 0 y U;let(l,rfl):∃l,xs=.ref r :: l:=by
   cases xs with
   |nil=>cases ex
   |cons x l=>cases ex;exact(l,U,)
  let b4:CoL H l a:=(~~~hC.1,λj c e=>~~~hC.2 (j+1) c (~~~e),);let b6:⇑y<=401:=a1 y cF;let a5:⇑ts=⇑y:=⇑hp;let JL:⇑a<=5:=by rw[gE]at b0;lia
  refine(_,.inl (_,P8 hc,U,),bJ ?_,)
  refine(c,_,_,_,U,U,P8 hc,cx (j:=0) U,r,U,(_,P8 er,),dS (xs:=ts) (λD i G u=>au H u/\u D=Nc (.lst G)/\FmL (FmV A u ⇑a) u ((y.take i).map λp=>(p.1,p.2,lay g a<|M++[p.1])) G/\G.length<=i)
   (λD hD=>(ai hD _,ae,FmL.nil,ve _,)) (λD i G u hD _ h=>P8<|h.1 _ _ er) (λD i x G u hD e h ss a8=>?_) (λD G u hD h=>?_),)
  .let(I,eD,S,a4):=h;let(p,t,ep,rfl,ht):=hp.get e;let hi:i<⇑ts:=(JP.mp e).1;let(t0,B,rfl):∃t0 B,ss=[t0,B]:=by
    match ss,a8 with
    | [t0,B],_=>exact(t0,B,U,)
   calc(t,_,U,P9<|I _ _ ht,U,_,_,U,_,_,U,U,([Nc (.int p.1),Nc (.int p.2)],U,U,),?_,);calc(_,U,c,_,U,P8<|I _ _ hc,λc2 b1=>?_,);rw[Ai];let s2:au u (upd u c2<|.lst l):=ai b1 _;let a2:upd u c2 (.lst l) c2=Nc (.lst l):=ae;generalize upd u c2 (.lst l)=T at s2 a2⊢;refine((by show 1<=JR;decide),λB a7=>?_,);let X:au T (upd T B<|.lst [.int p.1]):=ai a7 _;let e1:upd T B (.lst [.int p.1]) B=Nc (.lst [.int p.1]):=ae;generalize upd T B (.lst [.int p.1])=H3 at X e1⊢;refine(b,B,_,_,U,U,X _ _<|s2 _ _<|I _ _ hb,e1,vl<|aC (by rw[af];show M.length+1<=1000;lia),λR a0=>?_,);let s4:au H3 (upd H3 R<|.lst<|M.map pi++[.int p.1]):=ai a0 _;let e2:upd H3 R (.lst<|M.map pi++[.int p.1]) R=Nc (.lst<|(M++[p.1]).map pi):=by rw[eN];exact ae
   generalize upd H3 R (.lst<|M.map pi++[.int p.1])=H4 at s4 e2⊢;let O:au u H4:=(s2.trans X).trans s4;let f2:u R=none:=(s2.trans X).free a0;refine(c2,R,f_,l,a,M++[p.1],m,L,iL,A,g,J,U,by rw[gE]at hn;lia,s4 _ _<|X _ _ a2,b4.same<|I.trans O,e2,λz S=>a1 z<|dz _ S,by rw[cb,dV];rw[gE]at b3;lia,∅,by rw[cb,dV];rw[gE]at hm;lia,Z,Z.st _ _ hJ<|I.trans O,λv H5 h5 hv=>?_,);let s5:au u H5:=λd o ed=>h5 d o (λz=>by rw[z,f2]at ed;cases ed) (O _ _ ed)
   refine((by show 3<=JR;decide),λW a6=>?_,);let s6:au H5 (upd H5 W<|.tup [.int p.1,.int p.2,v]):=ai a6 _;let e3:upd H5 W (.tup [.int p.1,.int p.2,v]) W=Nc (.tup [.int p.1,.int p.2,v]):=ae;generalize upd H5 W (.tup [.int p.1,.int p.2,v])=H6 at s6 e3⊢;let C:=s5.trans s6;let a3:=C _ _ eD;refine dR.mk hi a3 (aC ∅) ((I.trans C).upd hD,ae,?_,by rw[cb,dV];lia,);let st:cc H6 (upd H6 D<|.lst<|G++[.ref W]):=ba a3;rw[take_snoc ep,eN];exact(S.mono (λ_ _ z=>FmV.mono (C.tups.trans st) z)<|C.tups.trans st).snoc (st _ _ e3) (FmV.mono (s6.tups.trans st) hv)
  .let(I,eD,S,a4):=h;rw[a5,fo]at S;refine(L,iL,A,⇑a,D,G,_,U,∅,eD,S,by rw[af];lia,λr2 T s2 hf=>?_,);calc q _ T (λd o _ ed=>(I.trans s2) _ _ ed) hf
def Iw(F:Fun K "mapped" "mapped" Y70 f fd)(bl:Bl K mg Y)(jH:⟨⟩ k "closed" ["triples"] (iA K Y))(gu:⟨⟩ k "mapped" ["form","deep","change"] (fb K Y P w mg base n)) (hk:8<=k):() (k+1) f fd ["form","deep","change"] (fb K Y P w mg base<|n+1):=by
 refine F.okA Z72 λb1 A a8 s H vs Q E Z h=>?_
 let(L,M,iL,iM,A,B,h_,J,d,F_,v,f_,rfl,hn,b0,R,a6,m,S,q):=h
 refine(_,(aq (aS (aO bK (pv 1) aj<|aI _)
  (ak<|av<|sv (k:=8) (i:=2) (Z.mono hk) U (v6<|bv U)<|aa (pv 0) ag)
  aD)
  (ak<|av<|aM jH Z U<|aa (dJ (vc<|pv 0) (ft (N:=["low","high","beneath","deep","change"]) (k:=3) (fr:=[1,2]) (cl:=[("deep",↥s+1),("change",↥s+1+1)]) U U (~~~0) (~~~0) U U (gg.mpr (U,gg.mpr (U,iF _,),)) U) U (λ_ _ _ _=>(js (K:=K) (n:=3) U U<|aF (aE (i:=0) (show(["low","high","beneath","deep","change"]:Nt Str).Nodup by decide+kernel) U (bv U) (v6 U)) (aF (aE (i:=1) (show(["low","high","beneath","deep","change"]:Nt Str).Nodup by decide+kernel) U (bv U) (v6 U)) (aF (aE (i:=2) (show(["low","high","beneath","deep","change"]:Nt Str).Nodup by decide+kernel) U (bv U) (v6 U)) bI)))) (λ_ _ _ _=>cG) (λ_ _ _ _=>(bh<|aa (pv 0)<|aa (pv 1)<|aa (aM gu Z U<|aa (pv 2)<|aa (az eS (pv 3) aj)<|aa (pv 4) ag) ag))) ag)),?_,)
 dsimp only[br,Qb,Qa];show(let r1:TS:=_;aX _ r1 _ _ _);intro _;cases d with
 |zero =>
  let(sp,hF,a5):=m.fn;calc(U,_,U,lP U ?_,);exact(f_,sp,U,m.ob H S,hF,m.ob H S,a5 H v F_ _ S R λu b s' X=>q u b s' X,)
 |succ d =>
  let(G,rfl):∃G:Nt (T3a<|Fm L d),(G:Fm L (d+1))=F_:=(F_,U,);let(a9,B1):SmS 300 (SmF 300 d) G:=a6;let(a,xs,rfl,ha,hG):∃(a:Jr)(xs:Nt V),v=.ref a/\H a=Nc (.tup xs)/\FmL (FmV A H d) H G xs:=R;let a1:=hG.1;refine(U,_,U,kC (λz=>by have:=V.int.inj z;lia) ?_,)
  refine(a,U,(_,P9 ha,),rC (xs:=xs) (λD i g b=>au H b/\b D=Nc (.lst g)/\FmL (FmV B b d) b ((G.take i).map λt=>(t.1,t.2.1,qz h_ d t.2.2)) g/\⇑g<=i)
   (λD o=>(ai o _,ae,FmL.nil,ve _,)) (λD i g b o _ h=>P9<|h.1 _ _ ha) (λD i x g b o e h ss a4=>?_) (λD g b o h=>?_),)
  .let(j,eD,O,a0):=h;let hi:i<⇑xs:=(JP.mp e).1;let(t,et):∃t,G[i]?=Nc t:=(_,JO ∅,);let(r,u,ex,er,X):=hG.2 i t et;rw[e]at ex;cases ex;let(I,C,y,rfl):∃I C y,ss=[I,C,y]:=by
    match ss,a4 with
    | [I,C,y],_=>exact(I,C,y,U,)
   let a7:=j _ _ er;let a2:=FmV.mono j.tups X;calc(r,_,U,P9 a7,U,_,_,U,_,_,U,_,_,U,U,([Nc (.int t.1),Nc<|.int t.2.1,Nc u],U,U,),?_,);refine(_,_,U,U,L,M,iL,iM,A,B,h_,J,d,t.2.2,u,f_,by simp,∅,∅,a2,B1 t<|JQ et,m,m.st _ _ S j,λv T s5 R=>?_,);refine((by show 3<=JR;decide),λl a3=>?_,);let W:au T (upd T l<|.tup [.int t.1,.int t.2.1,v]):=ai a3 _;let e3:upd T l (.tup [.int t.1,.int t.2.1,v]) l=Nc (.tup [.int t.1,.int t.2.1,v]):=ae;generalize upd T l (.tup [.int t.1,.int t.2.1,v])=H6 at W e3⊢;let c:=s5.trans W;let p:=c _ _ eD;refine dR.mk hi p (aC ∅) ((j.trans c).upd o,ae,?_,by rw[cb,dV];lia,);let st:cc H6 (upd H6 D<|.lst<|g++[.ref l]):=ba p;rw[take_snoc et,eN];exact(O.mono (λ_ _ z=>FmV.mono (c.tups.trans st) z)<|c.tups.trans st).snoc (st _ _ e3) (FmV.mono (W.tups.trans st) R)
  .let(j,eD,O,a0):=h;rw[a1,fo]at O;refine(M,iM,B,d,D,g,_,U,∅,eD,O,by rw[af];lia,λr2 H2 s2 hf=>?_,);calc q _ H2 (j.trans s2) hf
def Iy(F:Fun K "paired" "paired" Y73 f fd)(bl:Bl K mg Y)(jH:⟨⟩ k "closed" ["triples"] (iA K Y))(pP:⟨⟩ k "paired" ["one","other","deep","pair"] (iC K Y P w mg base n)) (hk:8<=k):() (k+1) f fd ["one","other","deep","pair"] (iC K Y P w mg base<|n+1):=by
 refine F.okA Z75 λf3 A e0 s H vs Q E hr h=>?_
 let(L,M,N,iL,iM,iN,A,B,C,h_,J,d,F_,G_,v,u,X,ps,rfl,hn,e9,hv,hu,d1,FK,d0,B1,hL,hJ,q):=h
 refine(_,(aq (aS (aO bK (pv 2) aj<|aI _)
  (ak<|av<|Ad (k:=8) (i:=3) (hr.mono hk) U (bv U)<|aa (pv 0)<|aa (pv 1) ag)
  aD)
  (aq (aK (i:=4) Z75.nd U (bv U)<|aY ag)
  (aq (aK (i:=5) Z75.nd U (bv U)<|aQ cj (aQ cj (pv 0) aj<|λ_ _=>U) aj<|λ_ _=>U)
  (aq (aK (i:=6) Z75.nd U (bv U) aj)
  (aq (aK (i:=7) Z75.nd U (bv U) aj)
  (aq (yO wn (aO oq (pv 6) (ay aG U bl.len_ Nb<|aa (pv 0) ag)<|aI _)
  (aJ (aK (i:=8) Z75.nd U (bv U)<|ay (qQ U) U bl.min_ NS<|aa (aQ cj (aQ cj (pv 0) (pv 6)<|λ_ _=>U) aj<|λ_ _=>U)<|aa (aQ cj (aQ cj (pv 1) (pv 7)<|λ_ _=>U) aj<|λ_ _=>U) ag)
  (aJ (bq<|jr PySem.F.plainAttrs_list PySem.F.slot_list_append PySem.F.type_list_append cq (pv 4)<|aa (bh<|aa (pv 5)<|aa (pv 8)<|aa (aM pP hr U<|aa (aQ cj (aQ cj (pv 0) (pv 6)<|λ_ _=>U) aj<|λ_ _=>U)<|aa (aQ cj (aQ cj (pv 1) (pv 7)<|λ_ _=>U) aj<|λ_ _=>U)<|aa (az eS (pv 2) aj)<|aa (pv 3) ag) ag) ag)
  (aJ (aS (aO bK (aQ cj (aQ cj (pv 0) (pv 6)<|λ_ _=>U) aj<|λ_ _=>U) (pv 8)<|aI _)
  (ak<|uY (i:=6) Z75.nd U (bv U) aj yN)
  aD)
  (aJ (aS (aO bK (aQ cj (aQ cj (pv 1) (pv 7)<|λ_ _=>U) aj<|λ_ _=>U) (pv 8)<|aI _)
  (ak<|uY (i:=7) Z75.nd U (bv U) aj yN)
  aD)
  (ak<|aK (i:=5) Z75.nd U (bv U)<|az bA (pv 8) aj))))))
  (ak<|av<|aM jH hr U<|aa (pv 4) ag))))))),?_,)
 dsimp only[br,Qb,Qa];show(let r6:TS:=_;let r5:TS:=aX _ r6;let r4:TS:=aX _ r5;let r3:TS:=aX _ r4;let r2:TS:=aX _ r3;let r1:TS:=aX _ r2;aX _ r1 _ _ _);intro _ _ _ _ _ _;cases d with
 |zero =>
  let(sp,hF,a8):=hL.fn;calc(U,_,U,lP U ?_,);rcases hL.ob with ob|kk
  .exact .h (X,sp,U,ob H hJ,hF,ob H hJ,a8 H v u F_ G_ _ hJ hv hu λr T s' hr=>q r T s' hr,)
  .exact .k X sp U kk hF<|a8 H v u F_ G_ _ hJ hv hu λr T s' hr=>q r T s' hr
 |succ d =>
  let(f,rfl):∃f:Nt (T3a<|Fm L d),(f:Fm L (d+1))=F_:=(F_,U,);let(g,rfl):∃g:Nt (T3a<|Fm M d),(g:Fm M (d+1))=G_:=(G_,U,);let(e5,Iz):SmS 300 (SmF 300 d) f:=d0;let(Jj,IA):SmS 300 (SmF 300 d) g:=B1;let(p,r,rfl,a9,a3,e8,fX):ShS (c0 d) f ps:=d1;let(p',r',e,BD,sN,BE,pd):ShS (c0 d) g (p :: r):=FK;cases e;let(a,xs,rfl,ha,hf):∃(a:Jr)(xs:Nt V),v=.ref a/\H a=Nc (.tup xs)/\FmL (FmV A H d) H f xs:=hv;let(b,ys,rfl,hb,hg):∃(a:Jr)(xs:Nt V),u=.ref a/\H a=Nc (.tup xs)/\FmL (FmV B H d) H g xs:=hu;let e7:=hf.1;let e6:=hg.1;let(z,ez,hz,d7):=pj (h:=h_) a3 a9 sN;refine(U,_,U,kC (λz=>by have:=V.int.inj z;lia) ?_,);let(t0,f',rfl):∃t0 f',f=t0 :: f':=by
   cases f with
   |nil=>exact Nl U a9
   |cons t0 f'=>exact(t0,f',U,)
  let(r0,u0,d4,d6,_):=hf.2 0 t0 U;let d5:t0.1=p.1:=a3.1;generalize ef:t0 :: f'=f at *
  refine((by show 0<=JR;decide),λl hl=>?_,);let s0:au H (upd H l<|.lst []):=ai hl _;let b3:upd H l (.lst []) l=Nc (.lst []):=ae;generalize upd H l (.lst [])=H0 at s0 b3⊢;calc(a,_,_,_,U,U,P9<|s0 _ _ ha,cx (j:=0) d4,r0,_,_,_,U,U,P9<|s0 _ _ d6,U,?_,);rw[d5]
  refine(λm σ T=>E6 λ(i j:Nat)(lo:Int)(G:Nt (T3a<|Fm N d))(W:Nt V)(c8:Option V)=>A11 (m=(⇑f-i)+(⇑g-j)) (i<=⇑f) (j<=⇑g) (au H T) (T l=Nc (.lst W)) (FmL (FmV C T d) T G W) (z=G++mX (pairF h_ d) lo (f.drop i) (g.drop j)) (Cov (f.drop i) lo p.2) (Cov (g.drop j) lo p.2) (G.length<=i+j)<|σ=[↑a,↑b,Nc<|.int ((d+1:Nat):Int),↑X,↑l,Nc<|.int lo,Nc<|.int (i:Int),Nc<|.int (j:Int),c8],
   (⇑f+⇑g,0,0,p.1,[],[],Nd,U,ve _,ve _,s0,b3,FmL.nil,ez,a3.cov,sN.cov,ve _,U,),?_,)
  rintro m σ T ⟨i,j,lo,G,W,c8,rfl,hi,hj,O,el,a0,oE,cf,cg,f0,rfl⟩;calc(a,_,U,.inr<|P9<|O _ _ ha,_,_,U,U,_,U,?_,);refine bM (λgd=>?_)<|λgd=>?_
  .let a1:i<⇑f:=by have:(i:Int)<((⇑xs:Nat):Int):=kq gd;lia
   let d3:j<⇑g:=by
    by_cases d2:j<⇑g
    .exact d2
    .exfalso;rw[List.drop_eq_nil_of_le ∅]at cg;let cg:lo=p.2+1:=cg;let(c,es):∃c,f[i]?=Nc c:=(_,JO a1,);rw[iX es]at cf;let c1:=cf.1;let c2:=cf.2.le;lia
   let(c,es):∃c,f[i]?=Nc c:=(_,JO a1,);let(o,et):∃o,g[j]?=Nc o:=(_,JO d3,);let(r1,u1,a5,a7,c6):=hf.2 i c es;let(r2,u2,a4,a6,c5):=hg.2 j o et;let ms:=JQ es;let mt:=JQ et;rw[iX es]at cf oE;rw[iX et]at cg oE;let(f2,b5):=cf;let(f1,b4):=cg;let(x,I):∃x:Int,x=if o.2.1<c.2.1 then o.2.1 else c.2.1:=(_,U,)
   calc(λD y=>∃m',m'<(⇑f-i)+(⇑g-j)/\E6 λ(i j:Nat)(lo:Int)(G:Nt (T3a<|Fm N d))(W:Nt V)(c8:Option V)=>A11 (m'=(⇑f-i)+(⇑g-j)) (i<=⇑f) (j<=⇑g) (au H y) (y l=Nc (.lst W)) (FmL (FmV C y d) y G W) (z=G++mX (pairF h_ d) lo (f.drop i) (g.drop j)) (Cov (f.drop i) lo p.2) (Cov (g.drop j) lo p.2) (G.length<=i+j)<|D=[↑a,↑b,Nc<|.int ((d+1:Nat):Int),↑X,↑l,Nc<|.int lo,Nc<|.int (i:Int),Nc<|.int (j:Int),c8],λD y hh=>hh,?_,);refine(λD y=>y=T/\D=[↑a,↑b,Nc<|.int ((d+1:Nat):Int),↑X,↑l,Nc<|.int lo,Nc<|.int (i:Int),Nc<|.int (j:Int),Nc (.int x)],?_,?_,)
   .refine(a,_,_,_,U,U,P9<|O _ _ ha,cx a5,r1,_,_,_,U,U,P9<|O _ _ a7,U,b,_,_,_,U,U,P9<|O _ _ hb,cx a4,r2,_,_,_,U,U,P9<|O _ _ a6,U,_,_,U,U,?_,);rw[I];rfl
   rintro c3 H3 ⟨S,rfl⟩;rw[S];clear S;refine(λD y=>au H y/\∃a2:Nt V,A3 (y l=Nc (.lst a2)) (FmL (FmV C y d) y (G++[(lo,x,pairF h_ d c.2.2 o.2.2)]) a2)<|D=[↑a,↑b,Nc<|.int ((d+1:Nat):Int),↑X,↑l,Nc<|.int lo,Nc<|.int (i:Int),Nc<|.int (j:Int),Nc (.int x)],?_,?_,)
   .refine(.inl (U,_,P8 el,),a,_,_,_,U,U,P9<|O _ _ ha,cx a5,r1,_,_,_,U,U,P9<|O _ _ a7,U,b,_,_,_,U,U,P9<|O _ _ hb,cx a4,r2,_,_,_,U,U,P9<|O _ _ a6,U,_,_,U,U,L,M,N,iL,iM,iN,A,B,C,h_,J,d,c.2.2,o.2.2,u1,u2,X,r,by simp,∅,∅,FmV.mono O.tups c6,FmV.mono O.tups c5,fX c ms,pd o mt,Iz c ms,IA o mt,hL,hL.st _ _ hJ O,λv H5 s5 hv=>?_,);refine((by show 3<=JR;decide),λt3 c7=>?_,);let s6:au H5 (upd H5 t3<|.tup [.int lo,.int x,v]):=ai c7 _;let S:upd H5 t3 (.tup [.int lo,.int x,v]) t3=Nc (.tup [.int lo,.int x,v]):=ae;generalize upd H5 t3 (.tup [.int lo,.int x,v])=H6 at s6 S⊢;let Z:=s5.trans s6;let b1:=Z _ _ el;refine(l,W,_,U,U,b1,aC (by have:=a0.1;lia),?_,);let st:cc H6 (upd H6 l<|.lst<|W++[.ref t3]):=ba b1;exact((O.trans Z).upd hl,_,ae,(a0.mono (λ_ _ z=>FmV.mono (Z.tups.trans st) z)<|Z.tups.trans st).snoc (t:=(lo,x,pairF h_ d c.2.2 o.2.2)) (st _ _ S)<|FmV.mono (s6.tups.trans st) hv,U,)
   rintro c3 H3 ⟨s3,a2,d8,c4,rfl⟩;refine(λD y=>y=H3/\D=[↑a,↑b,Nc<|.int ((d+1:Nat):Int),↑X,↑l,Nc<|.int lo,Nc<|.int ((if c.2.1<=o.2.1 then i+1 else i:Nat):Int),Nc<|.int (j:Int),Nc (.int x)],?_,?_,)
   .refine(a,_,_,_,U,U,P9<|s3 _ _ ha,cx a5,r1,_,_,_,U,U,P9<|s3 _ _ a7,U,U,_,U,?_,);refine bM (λR=>?_)<|λR=>?_
    .let R:c.2.1=x:=V.int.inj<|kq R;let e:c.2.1<=o.2.1:=by split at I <;> lia
     rw[Nk e];exact(_,U,_,_,U,U,U,U,)
    .let R:¬ c.2.1=x:=λz=>kr R (by rw[z])
     have e:¬ c.2.1<=o.2.1:=by split at I <;> lia
     rw[Nj e];exact(U,U,)
   rintro b6 H4 ⟨e4,rfl⟩;rw[e4];clear e4;refine(λD y=>y=H3/\D=[↑a,↑b,Nc<|.int ((d+1:Nat):Int),↑X,↑l,Nc<|.int lo,Nc<|.int ((if c.2.1<=o.2.1 then i+1 else i:Nat):Int),Nc<|.int ((if o.2.1<=c.2.1 then j+1 else j:Nat):Int),Nc (.int x)],?_,?_,)
   .refine(b,_,_,_,U,U,P9<|s3 _ _ hb,cx a4,r2,_,_,_,U,U,P9<|s3 _ _ a6,U,U,_,U,?_,);refine bM (λR=>?_)<|λR=>?_
    .let R:o.2.1=x:=V.int.inj<|kq R;let e:o.2.1<=c.2.1:=by split at I <;> lia
     rw[Nk e];exact(_,U,_,_,U,U,U,U,)
    .let R:¬ o.2.1=x:=λz=>kr R (by rw[z])
     have e:¬ o.2.1<=c.2.1:=by split at I <;> lia
     rw[Nj e];exact(U,U,)
   rintro b6 H4 ⟨e4,rfl⟩;rw[e4];clear e4;refine(_,_,U,U,_,?_,_,_,_,_,_,_,U,?_,?_,s3,d8,c4,?_,?_,?_,?_,U,)
   .split <;> split <;> lia
   .split <;> lia
   .split <;> lia
   .rw[oE,mX,ia];show _=G++(lo,x,pairF h_ d c.2.2 o.2.2) :: _;rw[I];by_cases q1:c.2.1<o.2.1
    .let e1:(if o.2.1<c.2.1 then o.2.1 else c.2.1)=c.2.1:=Nj ∅;let e2:(if c.2.1<=o.2.1 then i+1 else i)=i+1:=Nk ∅;let S:(if o.2.1<=c.2.1 then j+1 else j)=j:=Nj ∅;rw[Nk q1,e1,e2,S,iX et];rfl
    .rw[Nj q1];by_cases q2:o.2.1<c.2.1
     .let e2:(if c.2.1<=o.2.1 then i+1 else i)=i:=Nj ∅;let S:(if o.2.1<=c.2.1 then j+1 else j)=j+1:=Nk ∅;rw[Nk q2,Nk q2,e2,S,iX es];rfl
     .let e2:(if c.2.1<=o.2.1 then i+1 else i)=i+1:=Nk ∅;let S:(if o.2.1<=c.2.1 then j+1 else j)=j+1:=Nk ∅;rw[Nj q2,Nj q2,e2,S];rfl
   .rw[I];by_cases q1:c.2.1<=o.2.1
    .rw[Nk q1,Nj ∅];exact b5.cov
    .rw[Nj q1,Nk ∅,iX es];exact(∅,b5,)
   .rw[I];by_cases q1:o.2.1<=c.2.1
    .rw[Nk q1];let e:(if o.2.1<c.2.1 then o.2.1 else c.2.1)=o.2.1:=by split <;> lia
     rw[e];exact b4.cov
    .rw[Nj q1,Nj ∅,iX et];exact(∅,b4,)
   .rw[cb,dV];split <;> split <;> lia
  .let a1:i=⇑f:=by have:¬ (i:Int)<((⇑xs:Nat):Int):=kr gd;lia
   rw[a1,List.drop_length,mX,ik]at oE;rw[←oE]at a0;refine(N,iN,C,d,l,W,z,U,∅,el,a0,by have:=hz.len;lia,λr2 H2 s2 b0=>?_,);calc q _ H2 (O.trans s2) ?_;rw[←d7]at b0;calc b0
def IB(F:Fun K "built" "built" Y35 f fd)(bl:Bl K mg Y)(m7:⟨⟩ 15 "layered" ["columns","ahead","leaf"] (gn K Y P w mg base 7))(B6:⟨⟩ 15 "grain" ["bounds","marks"] (pG K Y))(ig:⟨⟩ 15 "cut_columns" ["bounds","marks"] (eL K Y)):aL P w K mg base (CX1 P w) 16 f fd ["bounds","marks","leaf"] (pH K Y P w mg base):=by
 refine F.okEA Z35 λa1 A V s H vs Q E I h=>?_
 let(a,b,f_,W,c,as,e,L,iL,A,g,J,rfl,ha,O,Z,hM,hok,hL,hJ,qE,q):=h
 refine(_,(aq (aS (aO lK (aM B6 I U<|aa (pv 0)<|aa (pv 1) ag) (kv U bl.MOST_GRAIN_)<|aI _)
  (ak<|mK bl.x_TooFine I.hd U bl.TooFine_<|aa aR ag)
  aD)
  (ak<|av<|aM m7 I U<|aa (aM ig I U<|aa (pv 0)<|aa (pv 1) ag)<|aa (aY ag)<|aa (pv 2) ag)),?_,)
 show(let r1:TS:=_;aX _ r1 _ _ _);intro _;let a0:=O.length;let(B,y,x):=hok;calc(a,b,W,c,as,e,U,ha,O,Z,hM,(B,y,x,),λH1 m=>?_,);calc(_,_,U,U,_,U,?_,);refine bM (λn=>?_)<|λn=>?_
 .let n:((gr c e ⇑c:Nat):Int)>300:=kq n;exact((by show 1<=JR;decide),qE ∅ H1 m,)
 let n:¬ ((gr c e ⇑c:Nat):Int)>300:=kr n;let hg:gr c e ⇑c<=300:=∅
 calc(a,b,W,c,as,e,U,m _ _ ha,O.mono m.tups,m _ _ Z,hM.same m,(B,y,x,),λl xs M i s2 el S D hx=>?_,);refine((by show 0<=JR;decide),λt X=>?_,);let G:au M (upd M t<|.lst []):=ai X _;let et:upd M t (.lst []) t=Nc (.lst []):=ae;generalize upd M t (.lst [])=H3 at G et⊢;let u:=(m.trans s2).trans G;let C:⇑(im (λp k=>bX p.1 p.2 k) c i)=⇑c:=by rw[jO];lia
 refine(l,t,f_,xs,_,[],⇑c,L,iL,A,g,J,U,∅,G _ _ el,hx.same G,et,λT IC=>?_,by rw[C];show 0+⇑c<=6;lia,∅,by rw[C];show ⇑c=0+⇑c;lia,hL,hL.st _ _ hJ u,λv H4 h4 hv=>?_,)
 .let(j,r):=kY IC;let hj:j<⇑(im (λp k=>bX p.1 p.2 k) c i):=(JP.mp r).1;let(p,ep):∃p,c[j]?=Nc p:=(_,JO ∅,);let(k,ec):∃k,i[j]?=Nc k:=(_,JO ∅,);let(N,em):∃N,e[j]?=Nc N:=(_,JO ∅,);rw[ml,ep,ec]at r;let r:bX p.1 p.2 k=T:=bn r;rw[←r,gf];let:=(D j p N k ep em ec).2.2;lia
 .exact q hg v H4 i (λd o R=>h4 d o (λz=>by have f:=(m.trans s2).free X;rw[z,f]at R;cases R) (u _ _ R)) S D hv
def ID(F:Fun K "changed_boxes" "changed_boxes" Y36 f fd)(bl:Bl K mg Y)(pP:⟨⟩ 15 "paired" ["one","other","deep","pair"] (iC K Y P w mg base 7))(m8:⟨⟩ 8 "differing_pair" ["old","new"] (eK K Y))(cz:⟨⟩ 15 "boxes_with_leaf" ["form","deep"] (b9 K Y)):() 16 f fd ["old","new","deep"] (fc K Y):=by
 refine F.okA Z36 λc3 A b6 s H vs Q E hr h=>?_
 let(v,u,d,M,L,ps,rfl,hd,hv,hu,X,W,b1,b0,uM,c2,q):=h
 refine(_,(aq (aK (i:=3) Z36.nd U (bv U)<|aM pP hr U<|aa (pv 0)<|aa (pv 1)<|aa (pv 2)<|aa (DG m8 U) ag)
  (ak<|av<|dJ (bw<|aM cz hr U<|aa (pv 3)<|aa (pv 2) ag) (di (N:=["box","told"]) (k:=2) U U (~~~0) (~~~0)<|~~~0) U (λ_ _ _ _=>(js (K:=K) (n:=2) U U<|aF (aE (i:=0) (show(["box","told"]:Nt Str).Nodup by decide+kernel) U (bv U) (v6 U)) (aF (aE (i:=1) (show(["box","told"]:Nt Str).Nodup by decide+kernel) U (bv U) (v6 U)) bI))) (λ_ _ _ _=>cG) (λ_ _ _ _=>(bh<|aa (pv 0)<|aa (aQ (lL (K:=K) U) (pv 1) aj<|λ_ _=>U)<|aa (aQ (lL (K:=K) U) (pv 1) aj<|λ_ _=>U) ag)))),?_,)
 dsimp only[br,Qb,Qa];show(let b:TS:=_;aX _ b _ _ _);intro _;calc(λf_ b4 b3=>?_);let hP:Fx (K':=K) LVd LVd LPd P w K mg base f_ dpr (λ_=>True):=((_,b4,λH0 v0 u0 x0 y0 Q0 _ a4 a5 k0=>by
  let(b,rfl,h1):=a4;let(l,rfl,h2):=a5;exact(b,l,x0,y0,U,h1,h2,λv1 H1 s1 e1=>k0 v1 H1 s1 e1,),),.inr b3,λ_ _ _ _=>trivial,)
 calc(SI,SI,Option<|SI×SI,inferInstance,inferInstance,inferInstance,LVd,LVd,LPd,dpr,_,d,M,L,v,u,f_,ps,U,∅,∅,hv,hu,X,W,b1,b0,hP,trivial,λr H1 s1 b5=>?_,);let a9:=oh (h:=dpr) X W;refine(Option<|SI×SI,inferInstance,LPd,Nd,d,_,r,U,(λ_=>U),b5,∅,uM,(λq_ hq=>by rw[(l8 a9 q_ hq).1.len];lia),λl2 ys H2 s2 c1 a2 hB=>?_,);let T:⇑ys=⇑(cV Nd<|bxs d<|pairF dpr d M L):=Paired.length hB;let a8:⇑(cV Nd<|bxs d<|pairF dpr d M L)<=700:=uU (oD _ _) uM;let Z:∀q_∈cV Nd (bxs d<|pairF dpr d M L),q_.2≠none:=λq_ hq=>Np (kS.mp hq).2
 generalize cV Nd (bxs d<|pairF dpr d M L)=TL at hB T a8 Z q;refine(l2,U,(_,P8 a2,),(let I_:Jr->Nat->Nt V->Qd:=λD j g c=>au H2 c/\c D=Nc (.lst g)/\ChL K c g (TL.take j);dS (xs:=ys) I_ (λD x=>(ai x _,ae,.nil,)) (λD j g c x _ J=>P8<|J.1 _ _ a2) (λD j y g c x e J ts a7=>?_) (λD g c x J=>?_)),)
 .let(t,eD,I):=J;let(qx,eq,tx,B,wx,rfl,g1,g2,g3):=c9 hB e;let hj:j<⇑ys:=(JP.mp e).1;let(t0,t1,rfl):∃t0 t1,ts=[t0,t1]:=by
   match ts,a7 with
   | [t0,t1],_=>exact(t0,t1,U,)
  let(p,ep):∃p,qx.2=Nc p:=by
   cases z:qx.2 with
   |none=>exact Nl z (Z qx<|JQ eq)
   |some p=>exact(p,U,)
  let g3:RPd K H2 qx.2 wx:=g3;rw[ep]at g3;let(m,rfl,b,l,a1,v1,v2):=g3;let a3:⇑g=⇑(TL.take j):=Paired.length I;rw[hZ]at a3;calc(tx,_,U,P9<|t _ _ g1,U,_,_,U,_,_,U,U,([↑B,↑m],U,U,),?_,);refine(m,_,_,_,U,U,P9<|t _ _ a1,U,m,_,_,_,U,U,P9<|t _ _ a1,U,(by show 3<=JR;decide),λa a6=>?_,);let s3:=ai a6<|.tup [.ref B,.ref b,.ref l];let eT:upd c a (.tup [.ref B,.ref b,.ref l]) a=Nc (.tup [.ref B,.ref b,.ref l]):=ae;let o:=s3 _ _ eD;let S:=I.mono s3.tups;let G:=t.trans s3;let a0:=g2.mono G.tups;let R:=v1.mono G.tups;let O:=v2.mono G.tups;generalize upd c a (.tup [.ref B,.ref b,.ref l])=H3 at s3 eT o S G a0 R O⊢;calc dR.mk hj o (aC ∅) (G.upd x,ae,?_,);rw[take_snoc eq];let C:cc H3 (upd H3 D<|.lst<|g++[.ref a]):=ba o;exact gh (S.mono C)<|.cons (a,B,b,l,p,U,ep,C _ _ eT,a0.mono C,R.mono C,O.mono C,) .nil
 .let(t,eD,I):=J;rw[T,fo]at I;calc q D g c ((s1.trans s2).trans t) ((s1.trans s2).free x) eD I
def mw(bl:Bl K mg Y)(B:⟨⟩ 7 "mask" ["table","codes"] (ma K Y)) (inj:∀x y c,([("table",c_0)]:Nt (Str×Jr)).lookup x=Nc c->([("table",c_0)]:Nt (Str×Jr)).lookup y=Nc c->x=y):HFn P w K mg base 8 f (iD K Y f c' c_0 doc pm ctv):=by
 let Z85:=@Z85 c_0;refine sI (qual := "row_form.<locals>.<lambda>") (e:=Y82) (c':=c') (cl:=[("table",c_0)]) (pm:=pm) (ctv:=ctv) Z85 inj (λp u=>match p,u with | [D],_=>rfl) (λn H Q E h=>?_) (λA g s H n Q E v h=>?_)
 .let(a,t,m,b,i,o,rfl,d,l,k,j,q):=h;rfl
 let(a,t,m,b,i,o,rfl,d,l,k,j,q):=h;calc(_,d,n6 U,λC=>(_,(aM B v U<|aa (pv 1)<|aa (pv 0) ag),?_,),);let z:=d.2.2.fzs;let so:=So.hide z;calc(t,a,b,i,o,m,U,Tbl.so so l,P8<|so.lst k,j,λF r _=>q _<|gb r,)
def IE(F:Fun K "row_form" "row_form" s_row_form f fd)(bl:Bl K mg Y)(B7:aV P w K mg base 16 "built" ["bounds","marks","leaf"] (pH K Y P w mg base))(pQ:⟨⟩ 16 "table_bounds" ["table"] (fE K Y))(qG:⟨⟩ 16 "table_marks" ["table"] (gi K Y))(AM:⟨⟩ 16 "mask" ["table","codes"] (ma K Y))(a4:fd.code=.ref cL)(O:kt K "row_form" = Nc (cL,tP)) (hT:NV base cL tP/\base.BuiltinsAt mg tP)(Ec:⟨⟩ 7 "mask" ["table","codes"] (ma K Y)):aL P w K mg base (CX1 P w) 17 f fd ["table"] (eG K Y):=by
 refine F.okTE a4 Z84 (λvs H Q E h=>?_)<|λA c1 s H vs Q E hr h=>?_
 .let(t,dv,bs,m,L,g_,i,o,rfl,g,V,qE,q):=h;rfl
 let(t,dv,bs,m,L,g_,i,o,rfl,g,V,qE,q):=h;calc(_,(ak<|av<|Bv (zs:=[("table",0,↥s+1)]) B7 hr U (aa (aM pQ hr U<|aa (pv 0) ag)<|aa (aM qG hr U<|aa (pv 0) ag)<|aa (sH (clos:=[("table",↥s+1)]) U hT.1 hT.2 U<|gg.mpr (U,iF _,)) ag)<|gg.mpr ((U,bv U,U,bv U,),iF _,)),?_,);let X:=g.td;let a5:=g.tb;let h4:=g.b4;calc(t,dv,bs,m,U,X,∅,λl1 ys H1 s1 n1 e1 a6=>?_,);calc(t,dv,bs,m,L,U,X.same s1,∅,g.rn,g.row,g.sp,g.mrk,λl2 as y H2 s2 n2 e2 hM M C=>?_,);let u:=s1.trans s2;let FO:=(V _ O).same u;let(c2,b0,_):=id FO;refine([(iV Y82,"row_form.<locals>.<lambda>")],cF,?_,FO,λf_ c' oc pm ctv S hf kp ef ec a2 qy inj=>?_,)
 .intro p hp _ _;rw[eO.mp hp];rfl
 let l:So H2 S:=λd o p e=>kp d o (λz=>by rw[z,b0]at e;cases e;exact p) e
 refine λos B hz ho=>?_
 let n:=lU B hz;let a8:∃o,gB S ((([("table",0,↥s+1)]:Nt (Str×Nat×Jr)).map (·.2.2)).zip os) (↥s+1)=Nc (.frz o TTh):=by
  let(o,_,e):=eH (H:=S) (fz:=(([("table",0,↥s+1)]:Nt (Str×Nat×Jr)).map (·.2.2)).zip os) (b:=↥s+1) (by rw[lT B];exact cF);exact(o,e,)
 let a3:=o6 (H:=S) (cl:=[("table",↥s+1)]) (ws:=[("table",.ref t)]) B (by simp) ho (λc hc=>by
  simp only[iO,nk,ax,ja,or_false]at hc;exact(_,cF,hc.symm,)) (λx v e=>by
  unfold Da at e;split at e
  .rename_i G
   cases e;rw[eq_of_beq G];exact(_,cF,U,U,)
  .cases e)
 let gv:fJ (gB S ((([("table",0,↥s+1)]:Nt (Str×Nat×Jr)).map (·.2.2)).zip os)) f_ c' (lm "<lambda>" "row_form.<locals>.<lambda>" (kL Y82) (j6 Y82) (gC Y82) [("table",↥s+1)] pm c' ctv) "row_form.<locals>.<lambda>" [("table",↥s+1)] [("table",.ref t)]:=(n _ _ ef,(oc,n _ _ ec,a2,),a3,);let hN:DM (K':=K) ji P w K mg base f_ ⇑bs (λcd=>((msk (ka m cd) ⇑m:Nat):Int)) (λT=>fJ T f_ c' (lm "<lambda>" "row_form.<locals>.<lambda>" (kL Y82) (j6 Y82) (gC Y82) [("table",↥s+1)] pm c' ctv) "row_form.<locals>.<lambda>" [("table",↥s+1)] [("table",.ref t)]/\Tbl Y.s Y.q Y.r T t m i o) :=
  ((_,mw (doc:=.none) (pm:=pm) (ctv:=ctv) (c':=c') (c_0:=↥s+1) bl Ec inj,λT a cd Q0 J hl ha k=>(a,t,cd,m,i,o,U,J.1,J.2,ha,(λx G=>by rw[g.row x G,hl]),λb6 s0=>k _ _ (λb o _ e=>s0 b o e) U,),),λT J=>(_,_,J.1.1,U,),λT b6 J s0=>(J.1.same s0,Tbl.same J.2 s0,),)
 let IF:MOK bs y:=(M.symm,∅,λD a0=>by
  let(c,ec):=kY a0;let hc:=(JP.mp ec).1;let(b,eb):∃b,bs[c]?=Nc b:=(_,JO ∅,);let(pw,hm):=C c b D eb ec;exact uU (DQ pw λx G=>(g.mrk c b eb).2 x<|(hm x).mp G) (g.mrk c b eb).1,)
 refine(l1,l2,f_,ys,bs,as,y,Int,inferInstance,ji,_,_,U,(So.lst l (s2 _ _ e1) |> λe=>n _ _ e),((a6.mono s2.tups).mono l.tups).mono n.tups,n _ _<|l.lst e2,(MLs.so l hM).same n,IF,hN,(gv,Tbl.same (Tbl.so l<|Tbl.same a5 u) n,),λhg H4 Z=>?_,λhg v H4 b5 Z IG a1 a7=>?_,)
 .let I:=_L.hide_same B hz Z;refine qE (by rw[←g.gr y M C];exact hg) _ (((So.of u).trans l).trans<|So.of I) (λz R=>?_) (_,O,);rw[O]at R;cases R;exact(qy.same I,λd o hd e=>I _ _<|kp d o hd<|u _ _ e,)
 let I:=_L.hide_same B hz Z;let(o2,b1):=a8;let a9:Fzs H4 [↥s+1]:=λd hd=>by rw[eO.mp hd];exact(o2,Z _ _ b1,)
 refine q (by rw[←g.gr y M C];exact hg) v _ b5 (((So.of u).trans l).trans<|So.of I) (λz R=>?_) (_,O,) IG (λj p cs ep b3=>?_) (a7.mono (So.hide a9).tups)
 .rw[O]at R;cases R;exact(qy.same I,λd o hd e=>I _ _<|kp d o hd<|u _ _ e,)
 .let(D,N):∃D,y[j]?=Nc D:=(_,JO (by have:=(JP.mp ep).1;lia),);let(pw,hm,_):=a1 j p D cs ep N b3;calc(pw,λx=>(hm x).trans (λh=>((C j p D ep N).2 x).mp h.1,λh=>(((C j p D ep N).2 x).mpr h,?_,),),);let(w_,_,G):=h;let:=(kS.mp G).2;rw[EY,Nr,Nr]at this;calc this
def jj(bl:Bl K mg Y)(C:⟨⟩ 7 "judged" ["table","rows"] (cQ K Y)) (inj:∀x y c,([("table",c_0)]:Nt (Str×Jr)).lookup x=Nc c->([("table",c_0)]:Nt (Str×Jr)).lookup y=Nc c->x=y):HFn P w K mg base 8 f (fw K Y f c' c_0 doc pm ctv):=by
 let Z92:=@Z92 c_0;refine sI (qual := "verdict_form.<locals>.<lambda>") (e:=Y88) (c':=c') (cl:=[("table",c_0)]) (pm:=pm) (ctv:=ctv) Z92 inj (λl u=>match l,u with | [F],_=>rfl) (λk H Q E h=>?_) (λA g s H k Q E v h=>?_)
 .let(m,t,a,i,o,rfl,b,j,q):=h;rfl
 let(m,t,a,i,o,rfl,b,j,q):=h;calc(_,b,n6 U,λD=>(_,(aM C v U<|aa (pv 1)<|aa (pv 0) ag),?_,),);let B:=b.2.2.fzs;let so:=So.hide B;calc(t,a,i,o,m,U,Tbl.so so j,λr G n d p=>q r _ (gb n) ?_,);rcases d with e|e
 .exact .inl<|(dk λz=>by have:=p r z;rw[e]at this;cases this).trans e
 .exact .inr e
def IH(F:Fun K "verdict_form" "verdict_form" s_verdict_form f fd)(bl:Bl K mg Y)(gu:⟨⟩ 17 "mapped" ["form","deep","change"] (fb K Y P w mg base 7)) (dZ:aV P w K mg base 17 "row_form" ["table"] (eG K Y))(eM:⟨⟩ 17 "judged" ["table","rows"] (cQ K Y))(b6:fd.code=.ref cL)(ht:kt K "verdict_form" = Nc (cL,tP)) (hT:NV base cL tP/\base.BuiltinsAt mg tP)(pR:⟨⟩ 7 "judged" ["table","rows"] (cQ K Y)):aL P w K mg base (CX1 P w) 18 f fd ["table"] (fH K Y):=by
 refine F.okTE b6 Z91 (λvs H Q E h=>?_)<|λA d3 s H vs Q E hr h=>?_
 .let(t,dv,bs,a,L,g_,i,o,rfl,h,B,qE,q):=h;rfl
 let(t,dv,bs,a,L,g_,i,o,rfl,h,B,qE,q):=h;calc(_,(ak<|av<|vU (zs:=[("table",0,↥s+1)]) gu hr U (aa (ck dZ passE hr U<|aa (pv 0) ag)<|aa (ay aG U bl.len_ Nb<|aa (aU (pv 0) U) ag)<|aa (sH (clos:=[("table",↥s+1)]) U hT.1 hT.2 U<|gg.mpr (U,iF _,)) ag)<|gg.mpr ((U,bv U,U,bv U,),iF _,)),?_,);let d5:=h.b4;let(rl,dx,dl,fs,xs,b0,f1,f2,d1,b1,d6,hR):=id h.td;let b3:⇑dv=⇑bs:=b1.1;calc(t,dv,bs,a,L,g_,i,o,U,h,B.r,λT H1 l O N=>qE T H1 l<|gP bl B O N,λT v H1 a6 l O N a3 R a4=>?_,);let X:=gP bl B O N;generalize fL:im (λp m=>bX p.1 p.2 m) bs a6=cols at a4;let hok:fK cols bs:=by
  rw[←fL];exact mV a3 h.le λj p m e1 e2=>((R j p m e1 e2).1,λc J=>iW<|((R j p m e1 e2).2 c).mp J,)
 let a2:⇑cols=⇑bs:=by rw[←fL,jO];lia
 let J:qA bs a cols:=(hok,a6,a3,fL.symm,R,);let G:=h.cl J;calc(t,_,_,_,_,U,l.ins b0,bl.k_Table,bl.na_Table_domains,f2,dl,_,U,.inl<|P8<|l.lst d1,?_,);let a1:dA H1 tP [(iV Y88,"verdict_form.<locals>.<lambda>")]:=X _ (.tail _<|.head _) _ ht;let(d4,c8,_):=id a1;refine([(iV Y88,"verdict_form.<locals>.<lambda>")],cF,?_,a1,λf_ c' oc pm ctv S hf kp ef ec b5 qy inj=>?_,)
 .intro p hp _ _;rw[eO.mp hp];rfl
 let M:So H1 S:=λd o p e=>kp d o (λz=>by rw[z,c8]at e;cases e;exact p) e
 let a7:Tb4 K S:=oi bl X (y:=("verdict_form",[(iV Y88,"verdict_form.<locals>.<lambda>")])) (.tail _<|.head _) ht qy kp;refine λos C hz ho=>?_
 let D:=lU C hz;let c2:∃o,gB S ((([("table",0,↥s+1)]:Nt (Str×Nat×Jr)).map (·.2.2)).zip os) (↥s+1)=Nc (.frz o TTh):=by
  let(o,_,e):=eH (H:=S) (fz:=(([("table",0,↥s+1)]:Nt (Str×Nat×Jr)).map (·.2.2)).zip os) (b:=↥s+1) (by rw[lT C];exact cF);exact(o,e,)
 let Ed:=o6 (H:=S) (cl:=[("table",↥s+1)]) (ws:=[("table",.ref t)]) C (by simp) ho (λc J=>by
  simp only[iO,nk,ax,ja,or_false]at J;exact(_,cF,J.symm,)) (λx v e=>by
  unfold Da at e;split at e
  .rename_i hx
   cases e;rw[eq_of_beq hx];exact(_,cF,U,U,)
  .cases e)
 let gv:fJ (gB S ((([("table",0,↥s+1)]:Nt (Str×Nat×Jr)).map (·.2.2)).zip os)) f_ c' (lm "<lambda>" "verdict_form.<locals>.<lambda>" (kL Y88) (j6 Y88) (gC Y88) [("table",↥s+1)] pm c' ctv) "verdict_form.<locals>.<lambda>" [("table",↥s+1)] [("table",.ref t)]:=(D _ _ ef,(oc,D _ _ ec,b5,),Ed,);let hN:BB (K':=K) ji LVd P w K mg base f_ (vdm a i o) (λV=>fJ V f_ c' (lm "<lambda>" "verdict_form.<locals>.<lambda>" (kL Y88) (j6 Y88) (gC Y88) [("table",↥s+1)] pm c' ctv) "verdict_form.<locals>.<lambda>" [("table",↥s+1)] [("table",.ref t)]/\Tbl Y.s Y.q Y.r V t a i o) :=
  ((_,jj (doc:=.none) (pm:=pm) (ctv:=ctv) (c':=c') (c_0:=↥s+1) bl pR inj,λV v x Q0 I hv k=>by
   let hv:v=.int x:=hv;subst hv;exact(x,t,a,i,o,U,I.1,I.2,λr_ d2 s0 a9=>k _ _ s0 (r_,U,a9,),),),λV I=>(_,_,I.1.1,U,),λV d2 I s0=>(I.1.same s0,Tbl.same I.2 s0,),)
 refine(Int,SI,inferInstance,inferInstance,ji,LVd,vdm a i o,_,⇑cols,lay (mkg a) cols [],v,f_,?_,∅,∅,?_,?_,hN,(gv,Tbl.same (Tbl.so M<|Tbl.so l h.tb) D,),λu H4 s4 a5=>?_,)
 .rw[b3,←a2]
 .exact(a4.mono M.tups).mono D.tups
 .exact(o9 hok G []).le T
 rw[sQ hok]at a5;let Z:=_L.hide_same C hz s4;let(o2,d0):=c2;let c3:Fzs H4 [↥s+1]:=λd hd=>by rw[eO.mp hd];exact(o2,s4 _ _ d0,)
 let c1:=a5.mono (So.hide c3).tups;let a8:So H (hideL H4 [↥s+1]):=(l.trans M).trans<|So.of Z;let(F',c7,c6,c5,c4):=CI a2 (lay (λcd=>vdm a i o<|mkg a cd) cols []) (λn F=>FmV (K:=K) LVd (hideL H4 [↥s+1]) n F u/\c0 n F bs/\SmF 300 n F/\∀m,InB m bs->Tel n F m (vdm a i o<|mkg a m)) (c1,fC hok [],(o9 hok G []).le T,λm a0=>by
  let:=lV (g:=λcd=>vdm a i o<|mkg a cd) hok [] m a0;rw[t5,wZ J (λx hx=>h.row x hx) a0]at this;exact this,)
 calc q T u F' _ a8 (a7.same Z) c7 c6 c5 c4
def II(F:Fun K "tiling" "tiling" Y87 f fd)(bl:Bl K mg Y)(mm:⟨⟩ 17 "boxes" ["form","deep"] (iB K Y 7)) (dZ:aV P w K mg base 17 "row_form" ["table"] (eG K Y)):aL P w K mg base (CX1 P w) 18 f fd ["table"] (mY K Y):=by
 refine F.okEA Z90 λa2 A N s H vs Q E O h=>?_
 let(t,T,bs,b,L,g_,i,o,rfl,h,k,Z,q):=h;calc(_,(ak<|av<|aM mm O U<|aa (ck dZ passE O U<|aa (pv 0) ag)<|aa (ay aG U bl.len_ Nb<|aa (aU (pv 0) U) ag) ag),?_,);let a0:=h.b4;calc(t,T,bs,b,L,g_,i,o,U,h,k.r,(λC V a m e=>Z C V a<|gP bl k m e),λC v V u a m e n d y=>?_,);let h1:=h.so a;let(rl,dx,dl,fs,xs,ht,f1,f2,M,G,a1,hR):=h1.td;generalize z:im (λp B=>bX p.1 p.2 B) bs u=cols at y;let hok:fK cols bs:=by
  rw[←z];exact mV n h.le λj p B S R=>((d j p B S R).1,λc hc=>iW<|((d j p B S R).2 c).mp hc,)
 let J:⇑cols=⇑bs:=by rw[←z,jO];lia
 let I:T.length=⇑bs:=G.1;let x:⇑(bxs ⇑cols<|lay (mkg b) cols [])<=300:=by have:=l9 (g:=mkg b) hok [];rw[h.prd (hok,u,n,z.symm,d,)]at this;lia
 let D:=fC (g:=mkg b) hok [];refine(t,_,_,_,_,U,ht,bl.k_Table,bl.na_Table_domains,f2,dl,_,U,.inl<|P8 M,Int,inferInstance,ji,⇑cols,_,v,by rw[I,J],y,∅,uU x ⋯,(λX hq=>by rw[(l8 D X hq).1.len];lia),λl W H2 s2 nl el hB=>?_,);calc q C l W cols H2 (a.trans<|So.of s2) ((gP bl k m e).same s2) el (hok,u,n,z.symm,d,) (DT hB) x
def pS(bl:Bl K mg Y)  (inj:∀x y c,([]:Nt (Str×Jr)).lookup x=Nc c->([]:Nt (Str×Jr)).lookup y=Nc c->x=y):HFn P w K mg base 8 f (kD K Y f c'  doc pm ctv):=by
 refine sI (qual := "holes.<locals>.<lambda>") (e:=Y50) (c':=c') (cl:=[]) (pm:=pm) (ctv:=ctv) Z52 inj (λj k=>match j,k with | [n],_=>rfl) (λi H Q E h=>?_) (λA d s H i Q E o h=>?_)
 .let(m,rfl,b,q):=h;rfl
 let(m,rfl,b,q):=h;calc(_,b,n6 U,λl=>(_,(ij (aO bK (pv 0) aj<|aI _) aj<|kv U bl.NOTHING_),?_,),);let p:=b.2.2.fzs;calc(U,_,U,?_,);refine bM (λg=>?_)<|λg=>?_
 .let a:m=0:=by
   let:=Np g;exact V.int.inj this
  let:=q _<|gb (cs:=[])<|au.refl _;unfold h01 at this;rw[Nk a]at this;exact λ_=>this
 .let a:m≠0:=λz=>g (by rw[z];exact Nm U)
  let:=q _<|gb (cs:=[])<|au.refl _;unfold h01 at this;rw[Nj a]at this;calc λ_=>this
def IJ(F:Fun K "holes" "holes" s_holes f fd)(bl:Bl K mg Y)(gu:⟨⟩ 17 "mapped" ["form","deep","change"] (fb K Y P w mg base 7)) (dZ:aV P w K mg base 17 "row_form" ["table"] (eG K Y))(cz:⟨⟩ 17 "boxes_with_leaf" ["form","deep"] (b9 K Y))(c2:fd.code=.ref cL)(ht:kt K "holes" = Nc (cL,tP)) (hT:NV base cL tP/\base.BuiltinsAt mg tP):aL P w K mg base (CX1 P w) 18 f fd ["table"] (pI K Y):=by
 refine F.okTE c2 Z51 (λvs H Q E h=>?_)<|λA c6 s H vs Q E hr h=>?_
 .let(t,dv,bs,a,L,g_,i,o,rfl,h,l,qE,q):=h;rfl
 let(t,dv,bs,a,L,g_,i,o,rfl,h,l,qE,q):=h
 refine(_,(aq (aK (i:=1) Z51.nd U (bv U)<|ay aG U bl.len_ Nb<|aa (aU (pv 0) U) ag)
  (aq (aK (i:=2) Z51.nd U (bv U)<|vU (zs:=[]) gu hr U (aa (ck dZ passE hr U<|aa (pv 0) ag)<|aa (pv 1)<|aa (sH (clos:=[]) U hT.1 hT.2 U<|iF _) ag)<|iF _)
  (ak<|av<|dJ (bw<|aM cz hr U<|aa (pv 2)<|aa (pv 1) ag) (di (N:=["box","leaf"]) (k:=2) U U (~~~0) (~~~0)<|~~~0) U (λ_ _ _ _=>(js (K:=K) (n:=2) U U<|aF (aE (i:=0) (show(["box","leaf"]:Nt Str).Nodup by decide+kernel) U (bv U) (v6 U)) (aF (aE (i:=1) (show(["box","leaf"]:Nt Str).Nodup by decide+kernel) U (bv U) (v6 U)) bI))) (λ_ _ _ _=>cG) (λ_ _ _ _=>(pv 0))))),?_,)
 dsimp only[br,Qb,Qa];show(let r2:TS:=_;let r1:TS:=aX _ r2;aX _ r1 _ _ _);intro _ _;let d2:=h.b4;let(rl,dx,dl,fs,xs,b3,f1,f2,c4,b6,d3,hR):=id h.td;let a1:⇑dv=⇑bs:=b6.1;calc(t,_,_,_,_,U,b3,bl.k_Table,bl.na_Table_domains,f2,dl,_,U,.inl<|P8 c4,?_,);calc(t,dv,bs,a,L,g_,i,o,U,h,l.r,λhg H1 C I G=>qE hg H1 C<|gP bl l I G,λhg v H1 a7 C I G a3 J a5=>?_,);let S:=gP bl l I G;generalize fL:im (λp cs=>bX p.1 p.2 cs) bs a7=cols at a5;let hok:fK cols bs:=by
  rw[←fL];exact mV a3 h.le λj p cs e1 e2=>((J j p cs e1 e2).1,λc hc=>iW<|((J j p cs e1 e2).2 c).mp hc,)
 let a2:⇑cols=⇑bs:=by rw[←fL,jO];lia
 let hc:qA bs a cols:=(hok,a7,a3,fL.symm,J,);let a8:=h.cl hc;calc ?_;let a0:dA H1 tP [(iV Y50,"holes.<locals>.<lambda>")]:=S _ (.tail _<|.tail _<|.head _) _ ht;let(c7,c3,_):=id a0;refine([(iV Y50,"holes.<locals>.<lambda>")],cF,?_,a0,λf_ c' oc pm ctv H3 hf kp ef ec c1 qy inj=>?_,)
 .intro p hp _ _;rw[eO.mp hp];rfl
 let T:So H1 H3:=λd o p e=>kp d o (λz=>by rw[z,c3]at e;cases e;exact p) e
 let a9:Tb4 K H3:=oi bl S (y:=("holes",[(iV Y50,"holes.<locals>.<lambda>")])) (.tail _<|.tail _<|.head _) ht qy kp;refine λos b5 hz ho=>?_
 let IK:os=[]:=N0.mp b5;subst IK;let d1:=fC (g:=mkg a) hok [];let gv:fJ H3 f_ c' (lm "<lambda>" "holes.<locals>.<lambda>" (kL Y50) (j6 Y50) (gC Y50) [] pm c' ctv) "holes.<locals>.<lambda>" [] []:=(ef,(oc,ec,c1,),DU _,);let hN:BB (K':=K) ji ji P w K mg base f_ h01 (λH0=>fJ H0 f_ c' (lm "<lambda>" "holes.<locals>.<lambda>" (kL Y50) (j6 Y50) (gC Y50) [] pm c' ctv) "holes.<locals>.<lambda>" [] []) :=
  ((_,pS (doc:=.none) (pm:=pm) (ctv:=ctv) (c':=c') bl inj,λH0 v x Q0 B hv k=>by
   let hv:v=.int x:=hv;subst hv;exact(x,U,B,λc5 s0=>k _ _ s0 U,),),λH0 B=>(_,_,B.1,U,),λH0 c5 B s0=>B.same s0,)
 refine(Int,Int,inferInstance,inferInstance,ji,ji,h01,_,⇑cols,lay (mkg a) cols [],v,f_,?_,∅,∅,?_,?_,hN,gv,λu H4 s4 m=>?_,)
 .rw[a1,←a2]
 .exact a5.mono T.tups
 .exact(o9 hok a8 []).le hg
 rw[sQ hok]at m;let X:au H3 (hideL H4 []):=s4;let m:FmV ji (hideL H4 []) ⇑cols (lay (λb=>h01<|mkg a b) cols []) u:=m;let Ee:=fC (g:=λb=>h01<|mkg a b) hok [];let a4:⇑(bxs ⇑cols<|lay (λb=>h01<|mkg a b) cols [])<=300:=by have:=l9 (g:=λb=>h01<|mkg a b) hok [];rw[h.prd hc]at this;lia
 refine(Int,inferInstance,ji,0,⇑cols,_,u,by rw[a1,a2],(λ_=>U),m,∅,uU a4 ⋯,(λq_ hq=>by rw[(l8 Ee q_ hq).1.len];lia),λl2 ys H6 s6 c8 a6 hB=>?_,);let Z:⇑ys=_:=Paired.length hB;let d0:⇑ys<=300:=by rw[Z];exact uU (oD _ _) a4
 let b0:So H H6:=((C.trans T).trans<|So.of X).trans<|So.of s6;generalize cV 0 (bxs ⇑cols<|lay (λb=>h01<|mkg a b) cols [])=TL at hB Z;refine(l2,U,(_,P8 a6,),(let I_:Jr->Nat->Nt V->Qd:=λD j zs O=>au H6 O/\O D=Nc (.lst zs)/\⇑zs=j;dS (xs:=ys) I_ (λD R=>(ai R _,ae,U,)) (λD j zs O R _ M=>P8<|M.1 _ _ a6) (λD j y zs O R e M ts b1=>?_) (λD zs O R M=>?_)),)
 .let(sm,eD,hz):=M;let(qx,eq,tx,bx,wx,rfl,g1,g2,g3):=c9 hB e;let B:j<⇑ys:=(JP.mp e).1;let(t0,t1,rfl):∃t0 t1,ts=[t0,t1]:=by
   match ts,b1 with
   | [t0,t1],_=>exact(t0,t1,U,)
  calc(tx,_,U,P9<|sm _ _ g1,U,_,_,U,_,_,U,U,([↑bx,Nc wx],U,U,),?_,);exact(dR.mk B eD (aC ∅) (sm.upd R,ae,by rw[cb,dV,hz],))
 .exact q hg (.ref D) O (b0.trans<|So.of M.1)<|a9.same<|(X.trans s6).trans M.1
def m9(bl:Bl K mg Y)(I:⟨⟩ 7 "judged" ["table","rows"] (cQ K Y)) (inj:∀x y c,([("table",c_0)]:Nt (Str×Jr)).lookup x=Nc c->([("table",c_0)]:Nt (Str×Jr)).lookup y=Nc c->x=y):HFn P w K mg base 8 f (jg K Y f c' c_0 doc pm ctv):=by
 let Z39:=@Z39 c_0;refine sI (qual := "clashes.<locals>.<lambda>") (e:=Y38) (c':=c') (cl:=[("table",c_0)]) (pm:=pm) (ctv:=ctv) Z39 inj (λB D=>match B,D with | [L],_=>rfl) (λp H Q E h=>?_) (λA k s H p Q E l h=>?_)
 .let(m,t,b,i,o,rfl,d,n,q):=h;rfl
 let(m,t,b,i,o,rfl,d,n,q):=h;calc(_,d,n6 U,λJ=>(_,(ij (aO (zA l) (aM I l U<|aa (pv 1)<|aa (pv 0) ag) (bB (v:=.ref Y.u) U bl.CLASH_ U)<|aI _) (pv 0)<|kv U bl.NOTHING_),?_,),);let G:=d.2.2.fzs;let so:=So.hide G;calc(t,b,i,o,m,U,Tbl.so so n,λr M C j=>w6 (u:=(s!"clash",0)) j.sq (bl.q_CLASH.sq _) (_,U,?_,),);let F:=gb C;let a:=q _ F;unfold hC at a;refine bM (λg=>?_)<|λg=>?_
 .rw[Nk (Np g)]at a;exact(λ_=>a)
 .rw[Nj (λz=>g<|Nm z)]at a;calc λ_=>a
def IL(F:Fun K "clashes" "clashes" s_clashes f fd)(bl:Bl K mg Y)(gu:⟨⟩ 17 "mapped" ["form","deep","change"] (fb K Y P w mg base 7))(cz:⟨⟩ 17 "boxes_with_leaf" ["form","deep"] (b9 K Y)) (dZ:aV P w K mg base 17 "row_form" ["table"] (eG K Y))(eM:⟨⟩ 17 "judged" ["table","rows"] (cQ K Y))(b0:fd.code=.ref cL)(ht:kt K "clashes" = Nc (cL,tP)) (hT:NV base cL tP/\base.BuiltinsAt mg tP)(pR:⟨⟩ 7 "judged" ["table","rows"] (cQ K Y)):aL P w K mg base (CX1 P w) 18 f fd ["table"] (kR K Y):=by
 refine F.okTE b0 Z38 (λvs H Q E h=>?_)<|λA c5 s H vs Q E hr h=>?_
 .let(t,dv,bs,a,L,g_,i,o,rfl,h,m,qE,q):=h;rfl
 let(t,dv,bs,a,L,g_,i,o,rfl,h,m,qE,q):=h
 refine(_,(aq (aK (i:=1) Z38.nd U (bv U)<|ay aG U bl.len_ Nb<|aa (aU (pv 0) U) ag)
  (aq (aK (i:=2) Z38.nd U (bv U)<|vU (zs:=[("table",0,↥s+1)]) gu hr U (aa (ck dZ passE hr U<|aa (pv 0) ag)<|aa (pv 1)<|aa (sH (clos:=[("table",↥s+1)]) U hT.1 hT.2 U<|gg.mpr (U,iF _,)) ag)<|gg.mpr ((U,bv U,U,bv U,),iF _,))
  (ak<|av<|aM cz hr U<|aa (pv 2)<|aa (pv 1) ag))),?_,)
 dsimp only[br,Qb,Qa];show(let r2:TS:=_;let r1:TS:=aX _ r2;aX _ r1 _ _ _);intro _ _;let c8:=h.b4;let(rl,dx,dl,fs,xs,a7,f1,f2,c3,a8,d0,hR):=id h.td;let X:⇑dv=⇑bs:=a8.1;calc(t,_,_,_,_,U,a7,bl.k_Table,bl.na_Table_domains,f2,dl,_,U,.inl<|P8 c3,?_,);calc(t,dv,bs,a,L,g_,i,o,U,h,m.r,λhg H1 l J I=>qE hg H1 l<|gP bl m J I,λhg v H1 a3 l J I a0 M a1=>?_,);let S:=gP bl m J I;generalize fL:im (λp cs=>bX p.1 p.2 cs) bs a3=cols at a1;let hok:fK cols bs:=by
  rw[←fL];exact mV a0 h.le λj p cs e1 e2=>((M j p cs e1 e2).1,λc D=>iW<|((M j p cs e1 e2).2 c).mp D,)
 let Z:⇑cols=⇑bs:=by rw[←fL,jO];lia
 let D:qA bs a cols:=(hok,a3,a0,fL.symm,M,);let a4:=h.cl D;calc ?_;let V:dA H1 tP [(iV Y38,"clashes.<locals>.<lambda>")]:=S _ (.tail _<|.tail _<|.tail _<|.head _) _ ht;let(c6,c1,_):=id V;refine([(iV Y38,"clashes.<locals>.<lambda>")],cF,?_,V,λf_ c' oc pm ctv N hf kp ef ec a9 qy inj=>?_,)
 .intro p hp _ _;rw[eO.mp hp];rfl
 let G:So H1 N:=λd o p e=>kp d o (λz=>by rw[z,c1]at e;cases e;exact p) e
 let a5:Tb4 K N:=oi bl S (y:=("clashes",[(iV Y38,"clashes.<locals>.<lambda>")])) (.tail _<|.tail _<|.tail _<|.head _) ht qy kp;refine λos n hz ho=>?_
 let B:=lU n hz;let b5:∃o,gB N ((([("table",0,↥s+1)]:Nt (Str×Nat×Jr)).map (·.2.2)).zip os) (↥s+1)=Nc (.frz o TTh):=by
  let(o,_,e):=eH (H:=N) (fz:=(([("table",0,↥s+1)]:Nt (Str×Nat×Jr)).map (·.2.2)).zip os) (b:=↥s+1) (by rw[lT n];exact cF);exact(o,e,)
 let Ed:=o6 (H:=N) (cl:=[("table",↥s+1)]) (ws:=[("table",.ref t)]) n (by simp) ho (λc D=>by
  simp only[iO,nk,ax,ja,or_false]at D;exact(_,cF,D.symm,)) (λx v e=>by
  unfold Da at e;split at e
  .rename_i hx
   cases e;rw[eq_of_beq hx];exact(_,cF,U,U,)
  .cases e)
 let gv:fJ (gB N ((([("table",0,↥s+1)]:Nt (Str×Nat×Jr)).map (·.2.2)).zip os)) f_ c' (lm "<lambda>" "clashes.<locals>.<lambda>" (kL Y38) (j6 Y38) (gC Y38) [("table",↥s+1)] pm c' ctv) "clashes.<locals>.<lambda>" [("table",↥s+1)] [("table",.ref t)]:=(B _ _ ef,(oc,B _ _ ec,a9,),Ed,);let hN:BB (K':=K) ji ji P w K mg base f_ (hC a i o) (λR=>fJ R f_ c' (lm "<lambda>" "clashes.<locals>.<lambda>" (kL Y38) (j6 Y38) (gC Y38) [("table",↥s+1)] pm c' ctv) "clashes.<locals>.<lambda>" [("table",↥s+1)] [("table",.ref t)]/\Tbl Y.s Y.q Y.r R t a i o) :=
  ((_,m9 (doc:=.none) (pm:=pm) (ctv:=ctv) (c':=c') (c_0:=↥s+1) bl pR inj,λR v x Q0 C hv k=>by
   let hv:v=.int x:=hv;subst hv;exact(x,t,a,i,o,U,C.1,C.2,λc4 s0=>k _ _ s0 U,),),λR C=>(_,_,C.1.1,U,),λR c4 C s0=>(C.1.same s0,Tbl.same C.2 s0,),)
 refine(Int,Int,inferInstance,inferInstance,ji,ji,hC a i o,_,⇑cols,lay (mkg a) cols [],v,f_,?_,∅,∅,?_,?_,hN,(gv,Tbl.same (Tbl.so G<|Tbl.so l h.tb) B,),λu H4 s4 a2=>?_,)
 .rw[X,←Z]
 .exact(a1.mono G.tups).mono B.tups
 .exact(o9 hok a4 []).le hg
 rw[sQ hok]at a2;let T:=_L.hide_same n hz s4;let(o2,c2):=b5;let b6:Fzs H4 [↥s+1]:=λd hd=>by rw[eO.mp hd];exact(o2,s4 _ _ c2,)
 let b3:=a2.mono (So.hide b6).tups;let Ee:=fC (g:=λO=>hC a i o<|mkg a O) hok [];let b1:⇑(bxs ⇑cols<|lay (λO=>hC a i o<|mkg a O) cols [])<=300:=by have:=l9 (g:=λO=>hC a i o<|mkg a O) hok [];rw[h.prd D]at this;lia
 refine(Int,inferInstance,ji,0,⇑cols,_,u,by rw[X,Z],(λ_=>U),b3,∅,uU b1 ⋯,(λq_ hq=>by rw[(l8 Ee q_ hq).1.len];lia),λl2 ys H6 s6 c7 d1 hB=>?_,);let a6:So H (hideL H4 [↥s+1]):=(l.trans G).trans<|So.of T;calc q hg _ H6 (a6.trans<|So.of s6)<|a5.same<|T.trans s6
def IM(F:Fun K "judged_tiles" "judged_tiles" Y55 f fd)(bl:Bl K mg Y)(eM:⟨⟩ 18 "judged" ["table","rows"] (cQ K Y)) (AN:aV P w K mg base 18 "tiling" ["table"] (mY K Y)):aL P w K mg base (CX1 P w) 19 f fd ["table"] (dP K Y):=by
 refine F.okEA Z57 λa7 A a6 s H vs Q E hr h=>?_
 let(t,dv,bs,b,L,g_,i,o,rfl,h,a2,qE,q):=h;refine(_,(ak<|av<|dJ (bw<|ck AN passE hr U<|aa (pv 0) ag) (ft (N:=["box","rows","table"]) (k:=2) (fr:=[0]) (cl:=[("table",↥s+1)]) U U (~~~0) (~~~0) U U (gg.mpr (U,iF _,)) U) U (λ_ _ _ _=>(js (K:=K) (n:=2) U U<|aF (aE (i:=0) (show(["box","rows","table"]:Nt Str).Nodup by decide+kernel) U (bv U) (v6 U)) (aF (aE (i:=1) (show(["box","rows","table"]:Nt Str).Nodup by decide+kernel) U (bv U) (v6 U)) bI))) (λ_ _ _ _=>cG) (λ_ _ _ _=>(bh<|aa (pv 0)<|aa (pv 1)<|aa (aM eM hr U<|aa (pv 2)<|aa (pv 1) ag) ag))),?_,);calc(t,dv,bs,b,L,g_,i,o,U,h,a2,qE,λhg l xs a H1 M a3 el hc X uM=>?_,);let h1:=h.so M;let O:⇑xs=⇑(bxs ⇑a<|lay (mkg b) a []):=Paired.length X;let FP:∀W∈bxs ⇑a (lay (mkg b) a []),∃m:Nat,W.2=(m:Int):=λW hq=>by
  let(cs,_,e):=DR hc hq;exact(_,e,)
 generalize a5:bxs ⇑a (lay (mkg b) a [])=BX at X uM O FP;refine(l,U,(_,P8 el,),(let I_:Jr->Nat->Nt V->Qd:=λD j u d=>au H1 d/\d D=Nc (.lst u)/\TiL K (hide d D) b i o u (BX.take j);dS (xs:=xs) I_ (λD C=>(ai C _,ae,U,λj x W e=>by simp at e,)) (λD j u d C _ J=>P8<|J.1 _ _ el) (λD j y u d C e J ts a1=>?_) (λD u d C J=>?_)),)
 .let(v,Z,B):=J;let(qx,tx,G,eq,rfl,g1,g2):=X.get e;let hj:j<⇑xs:=(JP.mp e).1;let(m,em):=FP qx<|JQ eq;let(T,S,rfl):∃T S,ts=[T,S]:=by
   match ts,a1 with
   | [T,S],_=>exact(T,S,U,)
  rw[em]at g1;calc(tx,_,U,P9<|v _ _ g1,U,_,_,U,_,_,U,U,([↑G,Nc (.int (m:Int))],U,U,),?_,);calc(t,b,i,o,(m:Int),U,(Tbl.same h1.tb v),λr H2 s2 a4=>?_,);let R:=s2 _ _ Z;refine((by show 3<=JR;decide),λc g=>?_,);let I:=ai g<|.tup [.ref G,.int (m:Int),.ref r];let eT:upd H2 c (.tup [.ref G,.int (m:Int),.ref r]) c=Nc (.tup [.ref G,.int (m:Int),.ref r]):=ae;let nT:c≠D:=λz=>by rw[z,R]at g;cases g
  let p:=I _ _ R;generalize upd H2 c (.tup [.ref G,.int (m:Int),.ref r])=H3 at I eT p⊢;let sA:=(v.trans s2).trans I;let a0:=B.1;rw[hZ]at a0;calc dR.mk hj p (aC ∅) (sA.upd C,ae,?_,);rw[pe,take_snoc eq];exact TiL.snoc (B.same<|mW<|s2.trans I) (c,G,r,m,U,em,fk eT nT,g2.mono (yr sA C).tups,SqT.hide (I.seqT a4.sq) p,)
 .let(v,Z,B):=J;rw[O,fo]at B;calc q hg D u a d (M.trans<|So.of v) (a3.same v) Z hc (by rw[a5];exact B.same (sP d D)) (by have:=B.1;lia)
def IP(F:Fun K "changes" "changes" Y37 f fd)(bl:Bl K mg Y)(nO:aV P w K mg base 18 "refuse_unlike" ["one","other"] (eZ K Y))(nP:⟨⟩ 18 "changed_boxes" ["old","new","deep"] (fc K Y)) (jI:aV P w K mg base 18 "verdict_form" ["table"] (fH K Y)):aL P w K mg base (CX1 P w) 19 f fd ["one","other"] (gq K Y):=by
 refine F.okEA Z37 λa8 A a5 s H vs Q E M h=>?_
 let(t,u,rfl,hC):=h
 refine(_,(aq (bq<|ck nO passE M U<|aa (pv 0)<|aa (pv 1) ag)
  (ak<|av<|aM nP M U<|aa (ck jI passE M U<|aa (pv 0) ag)<|aa (ck jI passE M U<|aa (pv 1) ag)<|aa (ay aG U bl.len_ Nb<|aa (aU (pv 0) U) ag) ag)),?_,)
 dsimp only[br,Qb,Qa];show(let r1:TS:=_;aX _ r1 _ _ _);intro _;let(V,ev,ou,pu,ds,es,e1,e2,e3,e4,e5,e6,tb,qU,qS):=hC;calc(t,u,V,ev,ou,pu,ds,es,U,e1,e2,e3,e4,e5,e6,(λZ H1 B=>qU Z H1 (So.of B)<|tb.same B),λa0 H1 B=>?_,);let(bs,c,D,i,C,g_,a3,o,L,L',gc,T,hB,R,k2,kp,k3,k4,qF,q):=qS a0;let a6:=T.b4;let p:=So.of B;calc(t,V,bs,c,L,g_,i,o,U,T.so p,tb.same B,(λS H2 m k=>qF (.inl S) H2 (p.trans m) k),λS v F H2 m k f1 O f3 f4=>?_,);let X:=p.trans m;calc(u,ev,bs,D,L',a3,C,o,U,hB.so X,k,(λr H3 d j=>qF (.inr r) H3 (X.trans d) j),λr w_ G H3 d j g1 N g3 g4=>?_,);let W:=X.trans d;let(rl,dx,dl,fs,xs,ht,j1,j2,a4,a1,a7,hR):=(T.so W).td;let a2:V.length=⇑bs:=a1.1;let(G0,p1,p2,p3):=CI k2 (lay (dif c D i C o) gc []) (λn F=>c0 n F bs/\⇑(bxs n F)<=700/\∀b,InB b bs->Tel n F b (dif c D i C o b)) (fC R [],uU (l9 R []) kp,λb a=>by
  let:=lV (g:=dif c D i C o) R [] b a;rw[t5]at this;unfold dif at this⊢;rw[k3 b a,k4 b a]at this;exact this,)
 let I:∀b,InB b bs->Tel ⇑bs (pairF dpr ⇑bs F G) b (dif c D i C o b):=λb a=>Ar (f4 b a) (g4 b a) O N a
 let J:pairF dpr ⇑bs F G=G0:=jY (oh O N) p1 λb a x y hx hy=>(jX hx<|I b a).trans (jX hy<|p3 b a).symm
 refine(t,_,_,_,_,U,ht,bl.k_Table,bl.na_Table_domains,j2,dl,_,U,.inl<|P8 a4,v,w_,⇑bs,F,G,bs,by rw[a2],∅,f1.mono d.tups,g1,O,N,f3,g3,by rw[J];exact p2,∅,λl ys H4 s4 nl el hC=>?_,);calc q S r l ys (pairF dpr ⇑bs F G) H4 (W.trans<|So.of s4) (λo_ po e=>Nl (nl.symm.trans<|W l o_ po e) (by intro z;cases z)) (j.same s4) el (oh O N,I,by rw[J];exact p2,) hC
def IQ(F:Fun K "reason" "reason" Y74 f fd)(bl:Bl K mg Y)(I:⟨⟩ 19 "reason_among" ["table","tiles","k"] (dO K Y)) (G:aV P w K mg base 19 "judged_tiles" ["table"] (dP K Y)):aL P w K mg base (CX1 P w) 20 f fd ["table","k"] (mZ K Y):=by
 refine F.okEA Z76 λV A m s H W Q E n h=>?_
 let(t,k,N,bs,b,L,J,i,o,rfl,y,h,j,u,q):=h;calc(_,(ak<|av<|aM I n U<|aa (pv 0)<|aa (ck G passE n U<|aa (pv 0) ag)<|aa (pv 1) ag),?_,);calc(t,N,bs,b,L,J,i,o,U,h,j,u,λz tl r a H1 c l M p B X=>?_,);let D:=h.so c;let S:=h.b4;let R:⇑a=⇑bs:=by
  let(T,hl,e,_):=p.ex;rw[e,jO];lia
 let C:∀d∈bxs ⇑a (lay (mkg b) a []),⇑d.1<=6:=λd x=>by rw[(l8 (fC (g:=mkg b) p.ok []) d x).1.len];lia
 calc(t,tl,k,r,_,b,i,o,U,D.tb,M,B,C,y,λv O s2 Z=>q z v O (c.trans<|So.of s2)<|l.same s2,)
def IS(F:Fun K "idle" "idle" Y51 f fd)(bl:Bl K mg Y)(gy:aV P w K mg base 19 "judged_tiles" ["table"] (dP K Y))(gx:⟨⟩ 19 "reason_among" ["table","tiles","k"] (dO K Y)):aL P w K mg base (CX1 P w) 20 f fd ["table"] (sZ K Y):=by
 refine F.okEA Z53 λa8 A G s H vs Q E J h=>?_
 let(t,dv,bs,b,L,g_,i,o,rfl,h,y,qE,q):=h
 refine(_,(aq (aK (i:=1) Z53.nd U (v6 U)<|ck gy passE J U<|aa (pv 0) ag)
  (ak<|av<|fj (d9 U bl.range_<|aa (ay aG U bl.len_ Nb<|aa (aU (pv 0) U) ag) ag) (dQ (N:=["k","table","tiles"]) (fr:=[0,1]) (cl:=[("tiles",↥s+1+1),("table",↥s+1)]) U U (~~~0) (~~~0) U (~~~0) U U U (gg.mpr (U,gg.mpr (U,iF _,),)) U) U (λ_ _ _ _=>(jQ<|aO yW (aM gx J U<|aa (pv 1)<|aa (pv 2)<|aa (pv 0) ag) rN<|aI _))<|λ_ _ _ _=>(pv 0))),?_,)
 dsimp only[br,Qb,Qa];show(let Z:TS:=_;aX _ Z _ _ _);intro _;calc(t,dv,bs,b,L,g_,i,o,U,h,y,qE,λhg tl W a H1 d B el O R uM=>?_,);let T:=h.so d;let JM:=h.rn;let a4:=h.b4;let(X,dx,dl,fs,u,ht,f1,f2,a6,a2,C,hR):=id T.td;let a0:⇑u=⇑b:=hR.1;let a3:⇑a=⇑bs:=by
  let(a7,hl,e,_):=O.ex;rw[e,jO];lia
 let S:∀x∈bxs ⇑a (lay (mkg b) a []),⇑x.1<=6:=λx hq=>by rw[(l8 (fC (g:=mkg b) O.ok []) x hq).1.len];lia
 generalize a5:bxs ⇑a (lay (mkg b) a [])=BX at R S;refine(t,_,_,_,_,U,ht,bl.k_Table,bl.na_Table_rows,f1,X,_,U,.inl<|P8 C,_,U,(by show -(2^62)<=((⇑u:Nat):Int);lia),(by show((⇑u:Nat):Int)<2^62;lia),(let I_:Jr->Nat->Nt V->Qd:=λD j m c=>au H1 c/\c D=Nc (.lst m)/\⇑m<=j;fZ I_ (λD r=>(ai r _,ae,uN _,)) (λD j m c r M p=>?_) (λD m c r p=>?_)),)
 .let(n,eD,hk):=p;let a1:j<⇑b:=∅
  refine(t,tl,j,W,BX,b,i,o,by rw[NK],Tbl.same T.tb n,n _ _ el,R.same n,S,∅,λv H2 s2 hv=>?_,);let k:=s2 _ _ eD;let I:=n.trans s2;rcases hv with⟨_,l,rfl⟩|⟨_,rfl⟩
  .exact(U,Ng,by rw[Nn (by intro z;cases z)],bJ<|eP.mk M (I,k,∅,),)
  .exact(U,Nf,by rw[Nm U],dh<|dR.mk M k (aC ∅) (I.upd r,ae,by rw[cb,dV];lia,),)
 .exact q hg _ c (d.trans<|So.of p.1)<|B.same p.1
def IT(F:Fun K "first_unlike" "first_unlike" Y45 f fd)(bl:Bl K mg Y)(G:aV P w K mg base 19 "changes" ["one","other"] (gq K Y))(D:⟨⟩ 19 "corner" ["box"] (j0 K Y)):aL P w K mg base (CX1 P w) 20 f fd ["one","other"] (cP K Y):=by
 refine F.okEA Z46 λT A v s H V Q E k h=>?_
 let(t,u,rfl,hC):=h
 refine(_,(aq (aK (i:=2) Z46.nd U (bv U)<|ck G passE k U<|aa (pv 0)<|aa (pv 1) ag)
  (ak<|av<|ij (dH (pv 2) (by intro _;rfl)) (aM D k U<|aa (aQ cj (aQ aP (pv 2) aj<|λ_ _=>U) aj<|λ_ _=>U) ag) rN)),?_,)
 dsimp only[br,Qb,Qa];show(let y:TS:=_;aX _ y _ _ _);intro _;calc(t,u,U,hC.imp λbs O cX i i' o S q l C d N c nl a B m hC=>?_,);let n:∀g∈cV Nd (bxs ⇑bs d),⇑g.1<=6:=λg I=>by rw[(l8 m.sh g (kS.mp I).1).1.len];lia
 calc(!C.isEmpty,.inl (_,P8 B,U,),?_,);cases hT:cV Nd (bxs ⇑bs d) with
 |nil =>
  rw[hT]at hC;cases hC;exact bJ<|q .non d N c a m<|.inl (hT,U,)
 |cons e rest =>
  rw[hT]at hC;cases hC with
  | @cons x _ xs' _ hx k =>
   let(tt,b,y,Z,p,rfl,ep,L,J,X,W):=hx;refine dh (l,_,_,_,U,U,P8 B,cx (j:=0) U,tt,_,_,_,U,U,P9 L,U,b,e.1,U,J,n e (by rw[hT];exact .head _),λz M s2 R r=>?_,);calc q (.ref z) d M (c.trans<|So.of s2) (a.same s2) m<|.inr (e,rest,z,hT,U,r,)
def IU(F:Fun K "same_everywhere" "same_everywhere" Y83 f fd)(bl:Bl K mg Y)(e:aV P w K mg base 20 "first_unlike" ["one","other"] (cP K Y)):aL P w K mg base (CX1 P w) 21 f fd ["one","other"] (dY K Y):=by
 refine F.okEA Z86 λl A c s H m Q E d h=>?_
 let(t,u,rfl,hC):=h;calc(_,(ak<|av<|bL yW (ck e passE d U<|aa (pv 0)<|aa (pv 1) ag) rN<|aI _),?_,);calc(t,u,U,hC.imp λbs j x i n o k q v y g b a r p=>(U,q _ g b a,),)
def IV(F:Fun K "_law_dots" "_law_dots" Y60 f fd)(bl:Bl K mg Y)(kE:⟨⟩ 20 "_law_dotted" ["low","size","shift"] (ie K Y))(aZ:⟨⟩ 20 "_law_cell" ["script","k"] (gR K Y)) (iH:aV P w K mg base 20 "changes" ["one","other"] (gq K Y)) (dg:aV P w K mg base 20 "first_unlike" ["one","other"] (cP K Y)):() 21 f fd ["script"] (jD K Y):=by
 refine F.okA Z62 λd6 A c7 s H vs Q E hr h=>?_
 let(a,Z,rfl,hS,c2,q):=h
 refine(_,(aJ (aK (i:=1) Z62.nd U (bv U)<|az bW (aM aZ hr U<|aa (pv 0)<|aa aj ag)<|az rP aj aj)
  (aJ (aK (i:=2) Z62.nd U (bv U)<|az bA aj<|az bW (az gJ (aM aZ hr U<|aa (pv 0)<|aa aj ag) aj) aj)
  (aJ (aK (i:=3) Z62.nd U (bv U)<|aY ag)
  (aJ (cJ wn U (d9 U bl.range_<|aa (pv 2) ag) (aE (i:=4) Z62.nd U<|bv U)
  (aq (bq<|jr PySem.F.plainAttrs_list PySem.F.slot_list_append PySem.F.type_list_append cq (pv 3)<|aa (bh<|aa (bh<|aa (bh<|aa (az bA (pv 1)<|az dC aj<|pv 4)<|aa (az bA (pv 1)<|az dC aj<|pv 4) ag) ag)<|aa (bh<|aa aR<|aa aj ag)<|aa (bh<|aa aR<|aa aj ag) ag) ag)
  (ak<|bq<|jr PySem.F.plainAttrs_list PySem.F.slot_list_append PySem.F.type_list_append cq (pv 3)<|aa (bh<|aa (bh<|aa (bh<|aa (az bA (az bA (pv 1)<|az dC aj<|pv 4) aj)<|aa (az bA (az bA (pv 1)<|az dC aj<|pv 4) aj) ag) ag)<|aa (bh<|aa aR<|aa aj ag)<|aa (bh<|aa aR<|aa aj ag) ag) ag)))
  (aJ (aK (i:=5) Z62.nd U (bv U)<|aM kE hr U<|aa (pv 1)<|aa (pv 2)<|aa aj ag)
  (aJ (aK (i:=6) Z62.nd U (bv U)<|aM kE hr U<|aa (pv 1)<|aa (pv 2)<|aa aj ag)
  (ak<|av<|fS (bL (Bj hr) (ck iH Cv hr U<|aa (pv 5)<|aa (pv 6) ag) (pv 3)<|aI _)<|fR<|bL (zk hr) (ck dg Cv hr U<|aa (pv 6)<|aa (pv 5) ag) (aY<|aa (pv 1) ag)<|aI _))))))),?_,)
 dsimp only[br,Qb,Qa];show(let r6:TS:=_;let r5:TS:=bY _ r6;let r4:TS:=bY _ r5;let r3:TS:=bY _ r4;let r2:TS:=bY _ r3;let r1:TS:=bY _ r2;bY _ r1 _ _ _);intro _ _ _ _ _ _;let hp:(0:Int)<10^(58:Int).toNat:= ~~~0
 let(b,BV):∃b,b=eJ Z 2%10^(58:Int).toNat:=(_,U,);refine(let I:Qc:=λc d=>d=H/\c=[↑a,Nc<|.int b,Nd,Nd,Nd,Nd,Nd];(I,(a,Z,2,U,hS,⋯,_,_,U,U,(⋯,⋯,⋯,),_,_,U,U,hp,U,by rw[BV];rfl,),?_,));rintro d4 H1 ⟨z1,rfl⟩;subst z1;let(n,hn):∃n:Nat,(n:Int)=75+eJ Z 1 / 3%6:=((75+eJ Z 1 / 3%6).toNat,by have:=Gm (eJ Z 1 / 3) (show(6:Int)≠0 by decide);lia,);let JN:75<=n/\n<=80:=by
  let:=Gm (eJ Z 1 / 3) (show(6:Int)≠0 by decide);let:=Gv (eJ Z 1 / 3) (show(0:Int)<6 by decide);lia
 refine(let I:Qc:=λc d=>d=H1/\c=[↑a,Nc<|.int b,Nc<|.int (n:Int),Nd,Nd,Nd,Nd];(I,(a,Z,1,U,hS,⋯,_,_,U,U,(⋯,⋯,),_,_,U,U,(by show(0:Int)<6;decide),_,_,U,U,U,by rw[hn];rfl,),?_,));rintro d3 H2 ⟨z2,rfl⟩;subst z2;refine(let I:Qc:=λc d=>au H2 d/\∃k:Jr,A3 (H2 k=Nd) (d k=Nc (.lst [])) (c=[↑a,Nc<|.int b,Nc<|.int (n:Int),↑k,Nd,Nd,Nd]);(I,((by show 0<=JR;decide),λk a7=>(ai a7 _,k,a7,ae,U,),),?_,));rintro d2 H3 ⟨s3,k,a6,W,rfl⟩;refine(let I:Qc:=λc d=>au H2 d/\E2 λ(e:Nt V)(S:Option V)=>A3 (d k=Nc (.lst e)) (ChL K d e<|kN (Nc (say 3,dX)) (Nc (dX,say 3)) b n)<|c=[↑a,Nc<|.int b,Nc<|.int (n:Int),↑k,S,Nd,Nd];(I,?_,?_,))
 .refine(_,U,∅,∅,(let I:Nat->Qc:=λj c d=>au H2 d/\E2 λ(e:Nt V)(S:Option V)=>A4 (d k=Nc (.lst e)) (⇑e=2*j) (ChL K d e<|kN (Nc (say 3,dX)) (Nc (dX,say 3)) b j)<|c=[↑a,Nc<|.int b,Nc<|.int (n:Int),↑k,S,Nd,Nd];mF I (s3,[],_,W,U,.nil,U,) (λj c d hj hh=>?_) (λc d hh=>?_)),)
  .let(sm,e,S,R,a0,hC,rfl):=hh;let d5:j<n:=by rw[FG]at hj;exact hj
   calc(.inl (U,_,P8 R,),_,_,U,U,.inl (⋯,⋯,),_,_,U,U,_,_,U,U,.inl (⋯,⋯,),_,_,U,U,bZ,λC h1=>?_,);rw[NK];let u1:=ai h1<|.tup [.int (b+4*(j:Int)),.int (b+4*(j:Int))];let e1:upd d C (.tup [.int (b+4*(j:Int)),.int (b+4*(j:Int))]) C=Nc (.tup [.int (b+4*(j:Int)),.int (b+4*(j:Int))]):=ae;generalize upd d C (.tup [.int (b+4*(j:Int)),.int (b+4*(j:Int))])=Ha at u1 e1⊢;refine((by show 1<=JR;decide),λB h2=>?_,);let u2:=ai h2<|.tup [.ref C];let e2:upd Ha B (.tup [.ref C]) B=Nc (.tup [.ref C]):=ae;generalize upd Ha B (.tup [.ref C])=Hb at u2 e2⊢;calc(bZ,λp h3=>?_,);let u3:=ai h3<|.tup [.str s!"say",.int 3];let e3:upd Hb p (.tup [.str s!"say",.int 3]) p=Nc (.tup [.str s!"say",.int 3]):=ae;generalize upd Hb p (.tup [.str s!"say",.int 3])=Hc at u3 e3⊢;calc(bZ,λo h4=>?_,);let u4:=ai h4<|.tup [.str s!"none",.int 0];let e4:upd Hc o (.tup [.str s!"none",.int 0]) o=Nc (.tup [.str s!"none",.int 0]):=ae;generalize upd Hc o (.tup [.str s!"none",.int 0])=Hd at u4 e4⊢;refine((by show 3<=JR;decide),λg h5=>?_,);let X:=ai h5<|.tup [.ref B,.ref p,.ref o];let e5:upd Hd g (.tup [.ref B,.ref p,.ref o]) g=Nc (.tup [.ref B,.ref p,.ref o]):=ae;generalize upd Hd g (.tup [.ref B,.ref p,.ref o])=He at X e5⊢;let J:=u4.trans X;let L:=u3.trans J;let M:=u2.trans L;let D:=u1.trans M;let N:=D _ _ R;let G:cc He (upd He k<|.lst<|e++[.ref g]):=ba N;let B8:ChL K (upd He k<|.lst<|e++[.ref g]) [.ref g] [([(b+4*(j:Int),b+4*(j:Int))],Nc (say 3,dX))]:=.cons (g,B,p,o,(say 3,dX),U,U,G _ _ e5,([.ref C],G _ _<|L _ _ e2,PL.snoc .nil<|G _ _<|M _ _ e1,),.inl<|G _ _<|J _ _ e3,.inl<|G _ _<|X _ _ e4,) .nil;let T:=(hC.mono<|D.tups).mono G;calc(k,_,_,U,U,N,aC ∅,?_,);let a3:au H2 (upd He k<|.lst<|e++[.ref g]):=(sm.trans D).upd a6;let a2:upd He k (.lst<|e++[.ref g]) k=Nc (.lst<|e++[.ref g]):=ae;let a1:ChL K (upd He k<|.lst<|e++[.ref g]) (e++[.ref g]) (kN (Nc (say 3,dX)) (Nc (dX,say 3)) b j++[([(b+4*(j:Int),b+4*(j:Int))],Nc (say 3,dX))]):=gh T B8;let FQ:⇑(e++[Qf g])=2*j+1:=by rw[cb,dV,a0]
   generalize upd He k (.lst<|e++[.ref g])=d at a3 a2 a1⊢;generalize e++[Qf g]=e at a2 a1 FQ;clear B8 T N D M L J e5 X e4 u4 e3 u3 e2 u2 e1 u1 h1 h2 h3 h4 h5 a0 hC R sm G;let R:=a2;let hC:=a1;refine(.inl (U,_,P8 R,),_,_,U,U,.inl (⋯,⋯,),_,_,U,U,_,_,U,U,_,_,U,U,.inl (⋯,⋯,),_,_,U,U,_,_,U,U,bZ,λC h1=>?_,)
   skip
   let u1:=ai h1<|.tup [.int (b+4*(j:Int)+2),.int (b+4*(j:Int)+2)];let e1:upd d C (.tup [.int (b+4*(j:Int)+2),.int (b+4*(j:Int)+2)]) C=Nc (.tup [.int (b+4*(j:Int)+2),.int (b+4*(j:Int)+2)]):=ae;generalize upd d C (.tup [.int (b+4*(j:Int)+2),.int (b+4*(j:Int)+2)])=Ha at u1 e1⊢;refine((by show 1<=JR;decide),λB h2=>?_,);let u2:=ai h2<|.tup [.ref C];let e2:upd Ha B (.tup [.ref C]) B=Nc (.tup [.ref C]):=ae;generalize upd Ha B (.tup [.ref C])=Hb at u2 e2⊢;calc(bZ,λp h3=>?_,);let u3:=ai h3<|.tup [.str s!"none",.int 0];let e3:upd Hb p (.tup [.str s!"none",.int 0]) p=Nc (.tup [.str s!"none",.int 0]):=ae;generalize upd Hb p (.tup [.str s!"none",.int 0])=Hc at u3 e3⊢;calc(bZ,λo h4=>?_,);let u4:=ai h4<|.tup [.str s!"say",.int 3];let e4:upd Hc o (.tup [.str s!"say",.int 3]) o=Nc (.tup [.str s!"say",.int 3]):=ae;generalize upd Hc o (.tup [.str s!"say",.int 3])=Hd at u4 e4⊢;refine((by show 3<=JR;decide),λg h5=>?_,);let X:=ai h5<|.tup [.ref B,.ref p,.ref o];let e5:upd Hd g (.tup [.ref B,.ref p,.ref o]) g=Nc (.tup [.ref B,.ref p,.ref o]):=ae;generalize upd Hd g (.tup [.ref B,.ref p,.ref o])=He at X e5⊢;let J:=u4.trans X;let L:=u3.trans J;let M:=u2.trans L;let D:=u1.trans M;let N:=D _ _ R;let G:cc He (upd He k<|.lst<|e++[.ref g]):=ba N;let B8:ChL K (upd He k<|.lst<|e++[.ref g]) [.ref g] [([(b+4*(j:Int)+2,b+4*(j:Int)+2)],Nc (dX,say 3))]:=.cons (g,B,p,o,(dX,say 3),U,U,G _ _ e5,([.ref C],G _ _<|L _ _ e2,PL.snoc .nil<|G _ _<|M _ _ e1,),.inl<|G _ _<|J _ _ e3,.inl<|G _ _<|X _ _ e4,) .nil;let T:=(hC.mono<|D.tups).mono G;refine(k,_,_,U,U,N,aC ∅,(a3.trans D).upd a6,e++[.ref g],_,ae,by rw[cb,dV,FQ];lia,?_,U,);rw[yy,show[(([(b+4*(j:Int),b+4*(j:Int))],(Nc (say 3,dX))):Nt (Int×Int)×OP2),([(b+4*(j:Int)+2,b+4*(j:Int)+2)],(Nc (dX,say 3)))]=[([(b+4*(j:Int),b+4*(j:Int))],(Nc (say 3,dX)))]++[([(b+4*(j:Int)+2,b+4*(j:Int)+2)],(Nc (dX,say 3)))]from U,←ia];exact gh T B8
  .let(sm,e,S,R,a0,hC,rfl):=hh;rw[FG]at hC;exact(sm,e,S,R,hC,U,)
 clear W s3;rintro d1 H4 ⟨s4,e,S,W,hC,rfl⟩;calc(let I:Qc:=λc d=>au H4 d/\∃t:Jr,TbI Y.s Y.q Y.r d t [.inl (b-1,b+4*(n:Int)),.inl (0,7)] [(b-1,b+4*(n:Int))] (0,7) (kO b n 0) 0/\c=[↑a,Nc<|.int b,Nc<|.int (n:Int),↑k,S,↑t,Nd];(I,(b,0,n,U,∅,∅,⋯,⋯,λt d s' h=>(s',t,h,U,),),?_,));rintro d0 H5 ⟨s5,t,hT,rfl⟩;calc(let I:Qc:=λc d=>au H5 d/\∃u:Jr,TbI Y.s Y.q Y.r d u [.inl (b-1,b+4*(n:Int)),.inl (0,7)] [(b-1,b+4*(n:Int))] (0,7) (kO b n 2) 0/\c=[↑a,Nc<|.int b,Nc<|.int (n:Int),↑k,S,↑t,↑u];(I,(b,2,n,U,∅,∅,⋯,⋯,λu d s' h=>(s',u,h,U,),),?_,));rintro c8 H6 ⟨s6,u,hU,rfl⟩;let a8:=hT.so<|So.of s6;let a5:=(s4.trans s5).trans s6;let b5:=c2.same a5;let nA:(Nc (say 3,dX))≠(Nd:OP2):=λz=>by cases z
 let nB:(Nc (dX,say 3))≠(Nd:OP2):=λz=>by cases z
 calc(t,u,U,xu ∅ ∅ ⋯ ⋯ ⋯ ⋯ a8 hU b5 λl ys PF H7 O _ b4 R hD b0=>?_,);let c3:cV Nd (bxs _ PF)=_:=uH nA nB (show 1<=n by lia) hD.sh hD.tel λx _ _=>xt.1
 rw[c3]at b0;let a4:=s5.trans s6;let Ea:=O.lst<|a4 _ _ W;calc(BY (P8 R) (P8 Ea) b0 ((hC.mono a4.tups).mono O.tups) (_,U,dh ?_,));calc(u,t,U,xu ∅ ∅ ⋯ ⋯ ⋯ ⋯ (hU.so O) (a8.so O) b4 λv c6 H8 b6 b3 a9 hv=>?_,);let IW:cV Nd (bxs _ c6)=_:=uH nB nA (show 1<=n by lia) a9.sh a9.tel λx _ _=>xt.2
 rw[IW]at hv;let(m,rfl):∃m,n=m+1:=(n-1,∅,);let hd:kN (Nc (dX,say 3)) (Nc (say 3,dX)) b (m+1)=([(b,b)],(Nc (dX,say 3))) :: (kN (Nc (dX,say 3)) (Nc (say 3,dX)) b<|m+1).tail:=by
  unfold kN;rw[nE,Oy];show([(b+4*((0:Nat):Int),b+4*((0:Nat):Int))],(Nc (dX,say 3))) :: _=_;rw[show b+4*((0:Nat):Int)=b by lia];rfl
 rcases hv with⟨h,_⟩|⟨qx,rest,l2,h,rfl,b1⟩
 .rw[hd]at h;cases h
 .rw[hd]at h;let hq:=(ln h).1;rw[←hq]at b1;refine((by show 1<=JR;decide),λl3 c1=>?_,);let u9:=ai c1<|.lst [.int b];let c5:upd H8 l3 (.lst [.int b]) l2=Nc (.lst [.int b]):=u9 _ _ b1;refine(l2,l3,_,_,U,U,P8 c5,P8 ae,.inr (U,λ_=>Nf,λj x y g1 g2=>?_,?_,),)
  .match j,g1,g2 with
   |0,g1,g2 =>
    cases g1;cases g2;let h1:=EqI.flat (K:=K) (H:=upd H8 l3<|.lst [.int b]) (x:=pi b) (y:=pi b) U U;rw[show eqV (pi b) (pi b)=Nf by simp[eqV]]at h1;exact h1
   |j+1,g1,g2=>cases g1
  .exact q _ ((So.of a5).trans<|(O.trans b6).trans<|So.of u9)<|b3.same u9
def IX(F:Fun K "_law_asked" "_law_asked" Y57 f fd)(bl:Bl K mg Y)(AO:aV P w K mg base 21 "reason" ["table","k"] (mZ K Y)) (B9:aV P w K mg base 21 "holes" ["table"] (pI K Y)) (R:aV P w K mg base 21 "clashes" ["table"] (kR K Y)) (Eh:aV P w K mg base 21 "idle" ["table"] (sZ K Y)) (dg:aV P w K mg base 21 "first_unlike" ["one","other"] (cP K Y)) (mx:aV P w K mg base 21 "same_everywhere" ["one","other"] (dY K Y)) (iH:aV P w K mg base 21 "changes" ["one","other"] (gq K Y)):aL P w K mg base (CX1 P w) 22 f fd ["which","one","other"] (i7 K Y):=by
 refine F.okEA Z59 λa0 A G s H vs Q E m h=>?_
 let(r,t,u,rfl,hA):=h
 refine(_,(aq (aS (aO bK (pv 0) aj<|aI _)
  (ak<|av<|ck B9 passE m U<|aa (pv 1) ag)
  aD)
  (aq (aS (aO bK (pv 0) aj<|aI _)
  (ak<|av<|ck R passE m U<|aa (pv 1) ag)
  aD)
  (aq (aS (aO bK (pv 0) aj<|aI _)
  (ak<|av<|ck Eh passE m U<|aa (pv 1) ag)
  aD)
  (aq (aS (aO bK (pv 0) aj<|aI _)
  (ak<|av<|ck dg passE m U<|aa (pv 1)<|aa (pv 2) ag)
  aD)
  (aq (aS (aO bK (pv 0) aj<|aI _)
  (ak<|av<|ck mx passE m U<|aa (pv 1)<|aa (pv 2) ag)
  aD)
  (aq (aS (aO bK (pv 0) aj<|aI _)
  (ak<|av<|ck iH passE m U<|aa (pv 1)<|aa (pv 2) ag)
  aD)
  (ak<|av<|ck AO passE m U<|aa (pv 1)<|aa aj ag))))))),?_,)
 show(let S:TS:=_;let T:TS:=aX _ S;let W:TS:=aX _ T;let X:TS:=aX _ W;let Z:TS:=aX _ X;let r1:TS:=aX _ Z;aX _ r1 _ _ _);intro _ _ _ _ _ _;let no:∀{k:Int},¬ (Nh (pi r=pi k)=Nf)->r≠k:=λh z=>h<|Nm (by rw[z])
 let n:∀{k:Int},Nh (pi r=pi k)=Nf->r=k:=λh=>V.int.inj<|Np h
 rcases hA with⟨hw,hC⟩|⟨hw,D,bs,d,L,C,i,o,B,y,x,q⟩
 .refine(U,_,U,bM (λg=>by have:=n g;lia) (λg0=>?_),);refine(U,_,U,bM (λg=>by have:=n g;lia) (λg1=>?_),);refine(U,_,U,bM (λg=>by have:=n g;lia) (λg2=>?_),);refine(U,_,U,bM (λg=>?_)<|λN=>?_,)
  .exact(t,u,U,hC.imp λbs d O i I o _ q v PF p j e _ _=>q v p j e,)
  refine(U,_,U,bM (λg=>?_)<|λM=>?_,)
  .exact(t,u,U,hC.imp λbs d O i I o _ q v p j e=>q v p j e,)
  refine(U,_,U,bM (λg=>?_)<|λJ=>?_,)
  .exact(t,u,U,hC.imp λbs d O i I o _ q l xs PF p j _ e _ _ _=>q _ p j e,)
  .let a:=no N;let b:=no M;let c:=no J;lia
 .refine(U,_,U,bM (λg=>(t,D,bs,d,L,C,i,o,U,B,y,x,q,))<|λg0=>?_,);calc(U,_,U,bM (λg=>(t,D,bs,d,L,C,i,o,U,B,y,x,q,))<|λg1=>?_,);calc(U,_,U,bM (λg=>(t,D,bs,d,L,C,i,o,U,B,y,x,q,))<|λg2=>?_,);refine(U,_,U,bM (λg=>by have:=n g;lia) (λN=>?_),);refine(U,_,U,bM (λg=>by have:=n g;lia) (λM=>?_),);refine(U,_,U,bM (λg=>by have:=n g;lia) (λJ=>?_),);calc(t,0,D,bs,d,L,C,i,o,U,⋯,B,y,x,q,)
def IY(F:Fun K "_law_told" "_law_told" Y66 f fd)(bl:Bl K mg Y)(tq:aV P w K mg base 22 "_law_asked" ["which","one","other"] (i7 K Y)):() 23 f fd ["which","one","other"] (jE K Y):=by
 refine F.okA Z68 λa9 A a3 s H vs Q E hr h=>?_
 let(Z,t,u,r,rfl,a8,hA,q):=h
 refine(_,(aJ (aK (i:=3) Z68.nd U (bv U)<|aY<|aa fQ<|aa fQ<|aa fQ<|aa fQ<|aa fQ ag)
  (aJ (By (G:=λC=>jT K C) (i:=4) (Bx tq hr U U<|aa (pv 0)<|aa (pv 1)<|aa (pv 2) ag) U U U U bl.TableError_ Z68.nd U U (λC e oe a7 o n IZ a2=>(aq (aK (i:=5) Z68.nd U (bv U)<|aY<|aa (ay (eA n o) U bl.isinstance_ dL<|aa (pv 4)<|aa (bB (v:=.ref Y.d) U bl.TooMany_ U) ag)<|aa (ay (eA n o) U bl.isinstance_ dL<|aa (pv 4)<|aa (bB (v:=.ref Y.e) U bl.Outside_ U) ag)<|aa (ay (eA n o) U bl.isinstance_ dL<|aa (pv 4)<|aa (bB (v:=.ref Y.f) U bl.Clash_ U) ag)<|aa (ay (eA n o) U bl.isinstance_ dL<|aa (pv 4)<|aa (bB (v:=.ref Y.g) U bl.Hole_ U) ag) ag)
  (aq (aK (i:=3) Z68.nd U (bv U)<|aY<|aa (ay (eA n o) U bl.isinstance_ dL<|aa (pv 4)<|aa (rO (v:=.ty "ValueError") U bl.ValueError_ PyProof.Rows.Boot.ValueError U) ag)<|aa (ay (eA n o) U bl.isinstance_ dL<|aa (pv 4)<|aa (bB (v:=.ref Y.c) U bl.Unlike_ U) ag)<|aa (ay (eA n o) U bl.isinstance_ dL<|aa (pv 4)<|aa (bB (v:=.ref Y.b) U bl.TooFine_ U) ag)<|aa (ay (nK IZ a2) U bl.any_ PyProof.Rows.boot_any<|aa (pv 5) ag) ag)
  (ak<|aK (i:=3) Z68.nd U (bv U)<|az fW (pv 3)<|aY<|aa (ay (eA n o) U bl.isinstance_ dL<|aa (pv 4)<|aa (bB (v:=.ref Y.h) U bl.BadRow_ U) ag) ag)))))
  (aJ (aS (PW.pt<|yK (dB<|cA<|aQ aP (pv 3) aj<|λ_ _=>U)<|yK (cA<|aQ aP (pv 3) aj<|λ_ _=>U)<|yJ<|cA<|aQ aP (pv 3) aj<|λ_ _=>U)
  (ak<|av<|nq jo aj)
  aD)
  (ak<|av<|az bA (bE fP U bl.int_ tz<|aa (aQ aP (pv 3) aj<|λ_ _=>U) ag)<|az dC aj<|bE fP U bl.int_ tz<|aa (aQ aP (pv 3) aj<|λ_ _=>U) ag)))),?_,)
 dsimp only[br,Qb,Qa];show(let r3:TS:=_;let r2:TS:=bY _ r3;let r1:TS:=bY _ r2;bY _ r1 _ _ _);intro _ _ _;refine(let W:Qc:=λk a=>au H a/\∃p:Jr,a p=Nc (.lst<|[Nf,Ng,Ng,Ng,Ng].map V.bl)/\k=[Nc (.int Z),↑t,↑u,↑p,Nd,Nd];(W,((by show 5<=JR;decide),λp hp=>(ai hp _,p,ae,U,),),?_,));rintro a6 H1 ⟨R,p,x,rfl⟩;refine(let W:Qc:=λk a=>So H a/\Tb4 K a/\E3 λ(p:Jr)(bs:Nt Bool)(c5:Option V)=>A3 (a p=Nc (.lst<|bs.map V.bl)) (r=0/\bs=[Nf,Ng,Ng,Ng,Ng]\/r=1/\bs=[Nf,Nf,Ng,Ng,Ng]\/r=2/\bs=[Nf,Ng,Nf,Ng,Ng])<|k=[Nc (.int Z),↑t,↑u,↑p,Nd,c5];(W,(Z,t,u,U,hA H1 R _ _ (λh a so N=>?_) (λh a so N=>?_)<|λh v a so N=>?_,),?_,))
 .refine(U,_,U,bl.e_Unlike,bl.l_Unlike,λe=>?_,);refine(_,Ng,U,.inl (_,U,bl.g_Unlike_TooMany,),_,Ng,U,.inl (_,U,bl.g_Unlike_Outside,),_,Ng,U,.inl (_,U,bl.g_Unlike_Clash,),_,Ng,U,.inl (_,U,bl.g_Unlike_Hole,),(by show 4<=JR;decide),λm I=>?_,);let M:=ai I<|.lst [.bl Ng,.bl Ng,.bl Ng,.bl Ng];let T:upd a m (.lst [.bl Ng,.bl Ng,.bl Ng,.bl Ng]) m=Nc (.lst [.bl Ng,.bl Ng,.bl Ng,.bl Ng]):=ae;generalize upd a m (.lst [.bl Ng,.bl Ng,.bl Ng,.bl Ng])=l at M T⊢;refine(_,Nf,U,.inr<|.inl (_,U,bl.v_Unlike,),_,Nf,U,.inl (_,U,bl.g_Unlike_Unlike,),_,Ng,U,.inl (_,U,bl.g_Unlike_TooFine,),m,[Ng,Ng,Ng,Ng],U,P8 T,(by show 4<=JR;decide),λj D=>?_,);let L:=ai D<|.lst [.bl Nf,.bl Nf,.bl Ng,.bl Ng];let y:upd l j (.lst [.bl Nf,.bl Nf,.bl Ng,.bl ([Ng,Ng,Ng,Ng].any id)]) j=Nc (.lst [.bl Nf,.bl Nf,.bl Ng,.bl Ng]):=ae;let S:upd l j (.lst [.bl Nf,.bl Nf,.bl Ng,.bl ([Ng,Ng,Ng,Ng].any id)])=upd l j (.lst [.bl Nf,.bl Nf,.bl Ng,.bl Ng]):=rfl;rw[S]at y⊢;clear S;generalize upd l j (.lst [.bl Nf,.bl Nf,.bl Ng,.bl Ng])=H4 at L y⊢;refine(_,Ng,U,.inl (_,U,bl.g_Unlike_BadRow,),(by show 1<=JR;decide),λp3 B=>?_,);let J:=ai B<|.lst [.bl Ng];refine(j,p3,_,_,U,U,J _ _ y,ae,(by show 5<=JR;decide),λp4 z=>?_,);let u4:=ai z<|.lst<|[.bl Nf,.bl Nf,.bl Ng,.bl Ng]++[.bl Ng];let O:=((M.trans L).trans J).trans u4;exact((So.of R).trans<|so.trans<|So.of O,N.same O,p4,[Nf,Nf,Ng,Ng,Ng],_,ae,.inr<|.inl (h,U,),U,)
 .refine(U,_,U,bl.e_TooFine,bl.l_TooFine,λe=>?_,);refine(_,Ng,U,.inl (_,U,bl.g_TooFine_TooMany,),_,Ng,U,.inl (_,U,bl.g_TooFine_Outside,),_,Ng,U,.inl (_,U,bl.g_TooFine_Clash,),_,Ng,U,.inl (_,U,bl.g_TooFine_Hole,),(by show 4<=JR;decide),λm I=>?_,);let M:=ai I<|.lst [.bl Ng,.bl Ng,.bl Ng,.bl Ng];let T:upd a m (.lst [.bl Ng,.bl Ng,.bl Ng,.bl Ng]) m=Nc (.lst [.bl Ng,.bl Ng,.bl Ng,.bl Ng]):=ae;generalize upd a m (.lst [.bl Ng,.bl Ng,.bl Ng,.bl Ng])=l at M T⊢;refine(_,Nf,U,.inr<|.inl (_,U,bl.v_TooFine,),_,Ng,U,.inl (_,U,bl.g_TooFine_Unlike,),_,Nf,U,.inl (_,U,bl.g_TooFine_TooFine,),m,[Ng,Ng,Ng,Ng],U,P8 T,(by show 4<=JR;decide),λj D=>?_,);let L:=ai D<|.lst [.bl Nf,.bl Ng,.bl Nf,.bl Ng];let y:upd l j (.lst [.bl Nf,.bl Ng,.bl Nf,.bl ([Ng,Ng,Ng,Ng].any id)]) j=Nc (.lst [.bl Nf,.bl Ng,.bl Nf,.bl Ng]):=ae;let S:upd l j (.lst [.bl Nf,.bl Ng,.bl Nf,.bl ([Ng,Ng,Ng,Ng].any id)])=upd l j (.lst [.bl Nf,.bl Ng,.bl Nf,.bl Ng]):=rfl;rw[S]at y⊢;clear S;generalize upd l j (.lst [.bl Nf,.bl Ng,.bl Nf,.bl Ng])=H4 at L y⊢;refine(_,Ng,U,.inl (_,U,bl.g_TooFine_BadRow,),(by show 1<=JR;decide),λp3 B=>?_,);let J:=ai B<|.lst [.bl Ng];refine(j,p3,_,_,U,U,J _ _ y,ae,(by show 5<=JR;decide),λp4 z=>?_,);let u4:=ai z<|.lst<|[.bl Nf,.bl Ng,.bl Nf,.bl Ng]++[.bl Ng];let O:=((M.trans L).trans J).trans u4;exact((So.of R).trans<|so.trans<|So.of O,N.same O,p4,[Nf,Ng,Nf,Ng,Ng],_,ae,.inr<|.inr (h,U,),U,)
 .exact((So.of R).trans so,N,p,_,Nd,so.lst x,.inl (h,U,),U,)
 clear x R;rintro a5 H2 ⟨a1,a0,p,bs,c5,x,X,rfl⟩;refine(let W:Qc:=λk a=>a=H2/\k=[Nc (.int Z),↑t,↑u,↑p,Nd,c5];(W,?_,?_,))
 .rcases X with⟨_,rfl⟩|⟨_,rfl⟩|⟨_,rfl⟩ <;> exact(p,_,_,_,U,U,P8 x,U,_,U,bJ (p,_,_,_,U,U,P8 x,U,_,U,bJ (p,_,_,_,U,U,P8 x,U,_,U,bJ (U,U,),),),)
 rintro a4 l ⟨z3,rfl⟩;subst z3;rcases X with⟨rfl,rfl⟩|⟨rfl,rfl⟩|⟨rfl,rfl⟩ <;> calc(p,_,_,_,U,U,P8 x,U,.inr (_,U,p,_,_,_,U,U,P8 x,U,.inr (_,U,_,_,U,U,.inl (⋯,⋯,),_,_,U,U,q _ a1 a0,),),)
def I0(F:Fun K "law" "law" Y56 f fd)(bl:Bl K mg Y)(qH:⟨⟩ 23 "_law_points" ["cell","count"] (gZ K Y))(O:⟨⟩ 23 "_law_cell" ["script","k"] (gR K Y))(pT:⟨⟩ 23 "_law_one" ["name","kind","shape","full","way"] (kQ K Y))(nC:⟨⟩ 23 "_law_told" ["which","one","other"] (jE K Y))(uO:⟨⟩ 23 "_law_dots" ["script"] (jD K Y))(qI:⟨⟩ 23 "without_row" ["table","k"] (gm K Y)):() 24 f fd ["script"] (J18 K):=by
 refine F.ok Z58 (λvs H Q E h=>?_)<|λm5 A j3 s H vs Q E D h=>?_
 .let(a,y,rfl,M,_,d6,d5,d4,d3,q):=h;rfl
 let(a,y,rfl,M,_,d6,d5,d4,d3,q):=h
 refine(_,(aJ (aK (i:=1) Z58.nd U (bv U)<|az bA aj<|az bW (aM O D U<|aa (pv 0)<|aa aj ag) aj)
  (aJ (aK (i:=2) Z58.nd U (bv U)<|ay (qP U) U bl.max_ NU<|aa aj<|aa (az eS (az bA (az gJ aj<|pv 1)<|az bW (aM O D U<|aa (pv 0)<|aa aj ag) aj) aj) ag)
  (aJ (aK (i:=3) Z58.nd U (bv U)<|bh<|aa (pv 1)<|aa (aM qH D U<|aa (aM O D U<|aa (pv 0)<|aa aj ag)<|aa (pv 2) ag)<|aa (aM O D U<|aa (pv 0)<|aa aj ag) ag)
  (aJ (aK (i:=4) Z58.nd U (bv U)<|az bW (aM O D U<|aa (pv 0)<|aa aj ag) aj)
  (aJ (aK (i:=5) Z58.nd U (bv U)<|aY<|aa (bL km (az bW (aM O D U<|aa (pv 0)<|aa aj ag) aj) aj<|aI _)<|aa (bL km (az bW (aM O D U<|aa (pv 0)<|aa aj ag) aj) aj<|aI _) ag)
  (aJ (aK (i:=6) Z58.nd U (bv U)<|aY<|aa (aM pT D U<|aa aR<|aa aj<|aa (pv 3)<|aa (aQ aP (pv 5) aj<|λ_ _=>U)<|aa (aM O D U<|aa (pv 0)<|aa aj ag) ag) ag)
  (aJ (bq<|jr PySem.F.plainAttrs_list PySem.F.slot_list_append PySem.F.type_list_append cq (pv 6)<|aa (aM pT D U<|aa aR<|aa (pv 4)<|aa (pv 3)<|aa (aQ aP (pv 5) aj<|λ_ _=>U)<|aa (aM O D U<|aa (pv 0)<|aa aj ag) ag) ag)
  (aJ (aK (i:=7) Z58.nd U (bv U)<|aY<|aa (fS (aQ aP (pv 5) aj<|λ_ _=>U)<|fR<|bL lK (az dC (pv 1)<|pv 2) aj<|aI _)<|aa (fS (aQ aP (pv 5) aj<|λ_ _=>U)<|fS (bL lK (az dC (pv 1)<|pv 2) aj<|aI _)<|fR<|bL km (pv 4) aj<|aI _) ag)
  (aJ (aS (PW.pt<|jm (aO bK (pv 4) aj<|aI _)<|gI<|cA<|aQ aP (pv 5) aj<|λ_ _=>U)
  (ak<|jn (bL lK (az dC (pv 1)<|az bA (pv 2)<|az bW (pv 2) aj) aj<|aI _)<|kG (pv 7) aj set_list)
  aD)
  (aJ (aS (aO bK (az bW (az gJ (aM O D U<|aa (pv 0)<|aa aj ag) aj) aj) aj<|aI _)
  (aq (aK (i:=6) Z58.nd U (bv U)<|aY<|aa (aQ aP (pv 6) aj<|λ_ _=>U)<|aa (aQ aP (pv 6) aj<|λ_ _=>U) ag)
  (aq (aK (i:=7) Z58.nd U (bv U)<|aY<|aa (aQ aP (pv 7) aj<|λ_ _=>U)<|aa (aQ aP (pv 7) aj<|λ_ _=>U) ag)
  (ak<|aK (i:=5) Z58.nd U (bv U)<|aY<|aa (aQ aP (pv 5) aj<|λ_ _=>U)<|aa (aQ aP (pv 5) aj<|λ_ _=>U) ag)))
  aD)
  (aJ (aS (PW.pt<|jm (aO bK (az bW (az gJ (aM O D U<|aa (pv 0)<|aa aj ag) aj) aj) aj<|aI _)<|gI<|dB<|cA<|aM uO D U<|aa (pv 0) ag)
  (ak<|av fQ)
  aD)
  (aJ (aK (i:=8) Z58.nd U (bv U)<|az bW (aM O D U<|aa (pv 0)<|aa aj ag) aj)
  (aJ (aS (PW.pt<|jm (cA<|aQ aP (pv 5) aj<|λ_ _=>U)<|gI<|aO bK (az bW (az gJ (aM O D U<|aa (pv 0)<|aa aj ag) aj) aj) aj<|aI _)
  (ak<|aK (i:=8) Z58.nd U (bv U) aj)
  aD)
  (aJ (aS (aO km (aM nC D U<|aa (pv 8)<|aa (aQ aP (pv 6) aj<|λ_ _=>U)<|aa (aQ aP (pv 6) aj<|λ_ _=>U) ag) (az dC aj<|bE fP U bl.int_ tz<|aa (aQ aP (pv 7) aj<|λ_ _=>U) ag)<|aI _)
  (ak<|av fQ)
  aD)
  (aJ (aS (PW.pt<|jm (cA<|aQ aP (pv 5) aj<|λ_ _=>U)<|gI<|aO km (ay aG U bl.len_ Nb<|aa (aU (aM qI D U<|aa (aQ aP (pv 6) aj<|λ_ _=>U)<|aa aj ag) U) ag) aj<|aI _)
  (ak<|av fQ)
  aD)
  (aJ (aK (i:=9) Z58.nd U (bv U)<|az dC aj<|bE fP U bl.int_ tz<|aa (Ck (aQ aP (pv 7) aj<|λ_ _=>U)<|fR<|aQ aP (pv 7) aj<|λ_ _=>U) ag)
  (aJ (aS (aO lK (pv 4) aj<|aI _)
  (ak<|aK (i:=9) Z58.nd U (bv U) aj)
  aD)
  (ak<|av<|bL bK (aM nC D U<|aa (az bA aj<|az bW (aM O D U<|aa (pv 0)<|aa aj ag) aj)<|aa (aQ aP (pv 6) aj<|λ_ _=>U)<|aa (aQ aP (pv 6) aj<|λ_ _=>U) ag) (pv 9)<|aI _)))))))))))))))))),?_,)
 dsimp only[br,Qb,Qa];show(let f6:TS:=_;let f8:TS:=bY _ f6;let f9:TS:=bY _ f8;let g2:TS:=bY _ f9;let g3:TS:=bY _ g2;let g4:TS:=bY _ g3;let g6:TS:=bY _ g4;let g7:TS:=bY _ g6;let r9:TS:=bY _ g7;let r8:TS:=bY _ r9;let r7:TS:=bY _ r8;let r6:TS:=bY _ r7;let r5:TS:=bY _ r6;let r4:TS:=bY _ r5;let r3:TS:=bY _ r4;let r2:TS:=bY _ r3;let r1:TS:=bY _ r2;bY _ r1 _ _ _);intro _ _ _ _ _ _ _ _ _ _ _ _ _ _ _ _ _;let e4:Tb4 K H:=Tb4.new λx hx z e=>by
  simp only[ax,ja,or_false]at hx;rcases hx with rfl|rfl|rfl|rfl
  .exact d6 z e
  .exact d5 z e
  .exact d4 z e
  .exact d3 z e
 let j5:∀{d:Hp}(k:Int),au H d->0<=k->SqL K d a (y.map pi):=λk N _=>N.seq M
 let md:=FH;let(n,hn,h0,d7):=D6<|eJ y 0;refine(let p:Qc:=λb d=>d=H/\b=[↑a,Nc<|.int (n:Int),Nd,Nd,Nd,Nd,Nd,Nd,Nd,Nd];(p,(a,y,0,U,M,⋯,_,_,U,U,(by show(0:Int)<9;decide),_,_,U,U,U,by rw[hn];rfl,),?_,));rintro l6 H1 ⟨z1,rfl⟩;subst z1;let(m,h8,m2,h9):=BZ h0<|eJ y 1;refine(let p:Qc:=λb d=>d=H1/\b=[↑a,Nc<|.int (n:Int),Nc<|.int (m:Int),Nd,Nd,Nd,Nd,Nd,Nd,Nd];(p,(_,_,U,U,(∅,∅,),a,y,1,U,M,⋯,_,_,U,U,(by show(0:Int)<3;decide),_,_,U,U,_,_,U,U,_,_,U,by rw[h8];exact(U,U,),),?_,));rintro l5 H2 ⟨z2,rfl⟩;subst z2;let(cl,i1):∃cl,cl=eJ y 3:=(_,U,);let(c,hc,_):=md cl 24 ⋯;let hc:cl%24=(c:Int):=hc;refine(let p:Qc:=λb d=>au H2 d/\E3 λ(C pa:Jr)(B:Nt Int)=>A5 (d C=Nc (.tup [.int (n:Int),.ref pa,.int cl])) (d pa=Nc (.lst<|B.map pi)) (B.length=m+1) (B.Pairwise (· < ·))<|b=[↑a,Nc<|.int (n:Int),Nc<|.int (m:Int),↑C,Nd,Nd,Nd,Nd,Nd,Nd];(p,?_,?_,))
 .refine(a,y,2,U,M,⋯,_,m,U,∅,λpa B d N ep T S=>(a,y,3,U,N.seq M,⋯,(by show 3<=JR;decide),λC g9=>?_,),);let u:=ai g9<|.tup [.int (n:Int),.ref pa,.int (eJ y 3)];exact(N.trans u,C,pa,B,by rw[ae,i1],u _ _ ep,T,S,U,)
 rintro l4 H3 ⟨s3,C,pa,B,e8,e9,T,S,rfl⟩;let(l,b5,Ja):=md (eJ y 4) 9 ⋯;let b5:eJ y 4%9=(l:Int):=b5;refine(let p:Qc:=λb d=>d=H3/\b=[↑a,Nc<|.int (n:Int),Nc<|.int (m:Int),↑C,Nc<|.int (l:Int),Nd,Nd,Nd,Nd,Nd];(p,(a,y,4,U,s3.seq M,⋯,_,_,U,U,(by show(0:Int)<9;decide),U,by rw[b5];rfl,),?_,));rintro l3 H4 ⟨z4,rfl⟩;subst z4;refine(let p:Qc:=λb d=>au H4 d/\E3 λ(fl:Jr)(L G:Bool)=>d fl=Nc (.lst [.bl L,.bl G])/\b=[↑a,Nc<|.int (n:Int),Nc<|.int (m:Int),↑C,Nc<|.int (l:Int),↑fl,Nd,Nd,Nd,Nd];(p,(a,y,5,U,s3.seq M,⋯,_,_,U,U,(by show(0:Int)<3;decide),U,a,y,5,U,s3.seq M,⋯,_,_,U,U,(by show(0:Int)<3;decide),U,(by show 2<=JR;decide),λfl h7=>(ai h7 _,fl,_,_,ae,U,),),?_,));rintro l2 H5 ⟨s5,fl,L,G,efl,rfl⟩;let b4:=s3.trans s5;let(wh,d1):∃wh,wh=whF cl:=(_,U,);refine(let p:Qc:=λb d=>au H5 d/\E3 λ(o t:Jr)(wi:Nat)=>A4 (H5 o=Nd) (d o=Nc (.lst [.ref t])) (TbK Y.s Y.q Y.r d t n c B wh 0 L wi)<|b=[↑a,Nc<|.int (n:Int),Nc<|.int (m:Int),↑C,Nc<|.int (l:Int),↑fl,↑o,Nd,Nd,Nd];(p,?_,?_,))
 .refine(fl,_,_,_,U,U,P8 efl,U,a,y,6,U,b4.seq M,⋯,_,0,n,c,cl,C,pa,B,L,_,U,.inl U,P9<|s5 _ _ e8,hc,P8<|s5 _ _ e9,∅,∅,∅,∅,S,λt d wi N hT=>((by show 1<=JR;decide),λo d2=>?_,),);let u:=ai d2<|.lst [.ref t];rw[AI,←d1]at hT;exact(N.trans u,o,t,wi,N.free d2,ae,hT.so<|So.of u,U,)
 rintro l1 H6 ⟨s6,o,t,wi,c8,etw,hT,rfl⟩;let c7:=b4.trans s6;refine(let p:Qc:=λb d=>au H5 d/\E2 λ(u:Jr)(wj:Nat)=>A4 (d o=Nc (.lst [.ref t,.ref u])) (TbK Y.s Y.q Y.r d t n c B wh 0 L wi) (TbK Y.s Y.q Y.r d u n c B wh l G wj)<|b=[↑a,Nc<|.int (n:Int),Nc<|.int (m:Int),↑C,Nc<|.int (l:Int),↑fl,↑o,Nd,Nd,Nd];(p,?_,?_,))
 .refine(.inl (U,_,P8 etw,),fl,_,_,_,U,U,P8<|s6 _ _ efl,U,a,y,7,U,c7.seq M,⋯,_,l,n,c,cl,C,pa,B,G,_,U,.inr U,P9<|(s5.trans s6) _ _ e8,hc,P8<|(s5.trans s6) _ _ e9,∅,∅,∅,∅,S,λu d wj N hU=>?_,);let Ei:=N _ _ etw;rw[AI,←d1]at hU;let(m4,m3,e7):=(hT.so<|So.of N).ins;let nn:Y.s≠Y.q:=λz=>by have:=bl.d_tn;rw[z]at this;simp at this
  let nw:Y.s≠Y.r:=λz=>by have:=bl.d_tw;rw[z]at this;simp at this
  exact(o,_,_,U,U,Ei,(by show 1<JR;decide),(s6.trans N).upd c8,u,wj,ae,TbI.updT nn nw Ei e7<|hT.so<|So.of N,TbI.updT nn nw Ei e7 hU,U,)
 clear hT etw;rintro k9 H7 ⟨s7,u,wj,etw,hT,hU,rfl⟩;let c6:=b4.trans s7;let X:=s7 _ _ efl;let f2:(n:Int)*(m:Int)=((n*m:Nat):Int):=by rw[OP]
 refine(let p:Qc:=λb d=>au H7 d/\∃j:Jr,A3 (H7 j=Nd) (d j=Nc (.lst [.bl (L && decide (300<n*m)),.bl (G && decide (300<n*m) && !Nh (l=1))])) (b=[↑a,Nc<|.int (n:Int),Nc<|.int (m:Int),↑C,Nc<|.int (l:Int),↑fl,↑o,↑j,Nd,Nd]);(p,?_,?_,))
 .let wo:decide ((300:Int)<(n:Int)*(m:Int))=Nh (300<n*m):=by
   rw[f2,lc,Nr,Nr];lia
  let k1:=sR l 1;let fin:∀(v0 v1:Bool),v0=(L && decide (300<n*m))->v1=(G && decide (300<n*m) && !Nh (l=1))->∀j:Jr,H7 j=Nd->au H7 (upd H7 j<|.lst [.bl v0,.bl v1])/\∃c4:Jr,H7 c4=Nd/\upd H7 j (.lst [.bl v0,.bl v1]) c4=Nc (.lst [.bl (L && decide (300<n*m)),.bl (G && decide (300<n*m) && !Nh (l=1))])/\c4=j:=λv0 v1 e0 e1 j v=>(ai v _,j,v,by rw[ae,e0,e1],U,)
  let m1:yS (n:Int) (m:Int):=.inl (∅,∅,);cases L with
  |false =>
   cases G with
   |false =>
    refine(fl,_,_,_,U,U,P8 X,U,_,U,bJ (fl,_,_,_,U,U,P8 X,U,_,U,bJ ((by show 2<=JR;decide),λj v=>?_,),),);let(a1,_,a2,Z,rfl):=fin Ng Ng U U j v;exact(a1,_,a2,Z,U,)
   |true =>
    refine(fl,_,_,_,U,U,P8 X,U,_,U,bJ (fl,_,_,_,U,U,P8 X,U,_,U,dh (_,_,U,U,m1,_,_,U,U,_,U,bM (λg=>(U,(by show 2<=JR;decide),λj v=>?_,)) (λg=>((by show 2<=JR;decide),λj v=>?_,)),),),)
    .rw[wo]at g;let(a1,_,a2,Z,rfl):=fin Ng (!Nh (pi (l:Int)=pi 1)) U (by rw[g,show decide (pi (l:Int)=pi 1)=Nh (l=1)from k1,FS,FS]) j v;exact(a1,_,a2,Z,U,)
    .rw[wo]at g;let(a1,_,a2,Z,rfl):=fin Ng Ng U (by rw[EU.mpr g];rfl) j v;exact(a1,_,a2,Z,U,)
  |true =>
   cases G with
   |false =>
    refine(fl,_,_,_,U,U,P8 X,U,_,U,dh (_,_,U,U,m1,_,_,U,U,fl,_,_,_,U,U,P8 X,U,_,U,bJ ((by show 2<=JR;decide),λj v=>?_,),),);let(a1,_,a2,Z,rfl):=fin (Nh<|(300:Int)<(n:Int)*(m:Int)) Ng (by rw[wo,FS]) U j v;exact(a1,_,a2,Z,U,)
   |true =>
    refine(fl,_,_,_,U,U,P8 X,U,_,U,dh (_,_,U,U,m1,_,_,U,U,fl,_,_,_,U,U,P8 X,U,_,U,dh (_,_,U,U,m1,_,_,U,U,_,U,bM (λg=>(U,(by show 2<=JR;decide),λj v=>?_,)) (λg=>((by show 2<=JR;decide),λj v=>?_,)),),),)
    .rw[wo]at g;let(a1,_,a2,Z,rfl):=fin (Nh<|(300:Int)<(n:Int)*(m:Int)) (!Nh (pi (l:Int)=pi 1)) (by rw[wo,FS]) (by rw[g,show decide (pi (l:Int)=pi 1)=Nh (l=1)from k1,FS,FS]) j v;exact(a1,_,a2,Z,U,)
    .rw[wo]at g;let(a1,_,a2,Z,rfl):=fin (Nh<|(300:Int)<(n:Int)*(m:Int)) Ng (by rw[wo,FS]) (by rw[EU.mpr g];rfl) j v;exact(a1,_,a2,Z,U,)
 rintro k8 H8 ⟨s8,j,d0,ebg,rfl⟩;refine(let p:Qc:=λb d=>au H7 d/\E2 λ(b0 b1:Bool)=>A4 (d j=Nc (.lst [.bl b0,.bl b1])) (b0=Nf↔300<gK L 0 n B) (b1=Nf↔300<gK G l n B)<|b=[↑a,Nc<|.int (n:Int),Nc<|.int (m:Int),↑C,Nc<|.int (l:Int),↑fl,↑o,↑j,Nd,Nd];(p,?_,?_,))
 .let g0:(L && decide (300<n*m))=Nf↔300<gK L 0 n B:=by
   cases L with
   |false=>simp[gK]
   |true =>
    show(Nf && decide (300<n*m))=Nf↔300<prd ((csK 0 n B).map (·.2));rw[sV T,Nj ⋯,Nj ⋯];simp
  let i9:l≠5->((G && decide (300<n*m) && !Nh (l=1))=Nf↔300<gK G l n B):=λh5=>by
   cases G with
   |false=>simp[gK]
   |true =>
    show(Nf && decide (300<n*m) && !Nh (l=1))=Nf↔300<prd ((csK l n B).map (·.2));rw[sV T,Nj h5];by_cases k1:l=1
    .rw[Nk k1,Nm k1];simp;lia
    .rw[Nj k1,Nn k1];simp
  let FR:=s8 _ _ X;calc(U,_,U,?_,);refine bM (λg5=>?_)<|λg5=>?_
  .let h5:l=5:=by have:=V.int.inj<|Np g5;lia
   subst h5;cases G with
   |false =>
    calc(fl,_,_,_,U,U,P8 FR,U,_,U,bJ (s8,_,_,ebg,g0,?_,U,),);simp[gK]
   |true =>
    refine(fl,_,_,_,U,U,P8 FR,U,_,U,dh (_,_,U,U,(by show(0:Int)<2;decide),_,_,U,U,_,_,U,U,.inl (∅,∅,),_,_,U,U,j,_,_,_,U,U,ebg,U,s8.upd d0,_,_,ae,g0,?_,U,),);show decide ((300:Int)<(n:Int)*((m:Int)+(m:Int)%2))=Nf↔300<prd ((csK 5 n B).map (·.2));rw[sV T,Nj ⋯,Nk U,Nr,show(m:Int)+(m:Int)%2=((m+m%2:Nat):Int) by lia,←OP];exact(Int.ofNat_lt (n:=300))
  .let h5:l≠5:=λz=>g5<|Nm (by rw[z];rfl)
   exact bJ (s8,_,_,ebg,g0,i9 h5,U,)
 clear ebg s8;rintro k7 H9 ⟨s9,b0,b1,ebg,e3,d8,rfl⟩;let a0:=c6.trans s9;let wT:TwI Y.s Y.q Y.r H9 t n c B wh 0 L b0:=((wi,hT.so<|So.of s9,),e3,);let wU:TwI Y.s Y.q Y.r H9 u n c B wh l G b1:=((wj,hU.so<|So.of s9,),d8,);refine(let p:Qc:=λb d=>E11 λ(o j fl t u:Jr)(kT kU:Nat)(fT fU W bU:Bool)=>LwI Y.s Y.q Y.r K H2 d n c B wh l o j fl t u kT kU fT fU W bU/\b=[↑a,Nc<|.int (n:Int),Nc<|.int (m:Int),↑C,Nc<|.int (l:Int),↑fl,↑o,↑j,Nd,Nd];(p,?_,?_,))
 .let Ej:=s9 _ _ etw;let FT:=s9 _ _ X;refine(a,y,5,U,a0.seq M,⋯,_,_,U,U,(⋯,⋯,),_,_,U,U,(by show(0:Int)<2;decide),U,_,U,bM (λ_=>?_)<|λ_=>(o,j,fl,t,u,0,l,L,G,b0,b1,(So.of a0,e4.same a0,Ej,ebg,FT,wT,wU,.inl (U,U,),),U,),);refine(o,_,_,_,U,U,P8 Ej,U,o,_,_,_,U,U,P8 Ej,U,(by show 2<=JR;decide),λa6 h2=>?_,);let u1:=ai h2<|.lst [.ref u,.ref t];let e1:upd H9 a6 (.lst [.ref u,.ref t]) a6=Nc (.lst [.ref u,.ref t]):=ae;generalize upd H9 a6 (.lst [.ref u,.ref t])=Ha at u1 e1⊢;let FU:=u1 _ _ ebg;refine(j,_,_,_,U,U,P8 FU,U,j,_,_,_,U,U,P8 FU,U,(by show 2<=JR;decide),λa8 h3=>?_,);let u2:=ai h3<|.lst [.bl b1,.bl b0];let e2:upd Ha a8 (.lst [.bl b1,.bl b0]) a8=Nc (.lst [.bl b1,.bl b0]):=ae;generalize upd Ha a8 (.lst [.bl b1,.bl b0])=Hb at u2 e2⊢;let FV:=(u1.trans u2) _ _ FT;refine(fl,_,_,_,U,U,P8 FV,U,fl,_,_,_,U,U,P8 FV,U,(by show 2<=JR;decide),λj1 h4=>?_,);let u3:=ai h4<|.lst [.bl G,.bl L];let c5:=u2.trans u3;let a9:=u1.trans c5;let sA:=a0.trans a9;exact(a6,a8,j1,u,t,l,0,G,L,b1,b0,(So.of sA,e4.same sA,c5 _ _ e1,u3 _ _ e2,ae,wU.so<|So.of a9,wT.so<|So.of a9,.inr (U,U,),),U,)
 clear wT wU ebg e3 d8 s9 a0 etw hT hU X efl s7 c6 s6 c7 c8 d0;rintro k6 Ha ⟨o,j,fl,t,u,kT,kU,fT,fU,W,bU,J,rfl⟩;refine(let p:Qc:=λb d=>E11 λ(o j fl t u:Jr)(kT kU:Nat)(fT fU W bU:Bool)=>LwI Y.s Y.q Y.r K H2 d n c B wh l o j fl t u kT kU fT fU W bU/\b=[↑a,Nc<|.int (n:Int),Nc<|.int (m:Int),↑C,Nc<|.int (l:Int),↑fl,↑o,↑j,Nd,Nd];(p,?_,?_,))
 .refine(a,y,9,U,So.seq J.so M,⋯,_,_,U,U,(⋯,⋯,),_,_,U,U,(by show(0:Int)<3;decide),U,_,U,bM (λ_=>?_)<|λ_=>bJ (o,j,fl,t,u,kT,kU,fT,fU,W,bU,J,U,),);exact(a,y,U,So.seq J.so M,J.tb,λd so tb=>(_,U,bJ (o,j,fl,t,u,kT,kU,fT,fU,W,bU,J.mv so tb,U,),),)
 clear J;rintro k5 Hb ⟨o,j,fl,t,u,kT,kU,fT,fU,W,bU,J,rfl⟩;let efl:=J.efl;let hkk:=J.hkk;let e5:=So.seq J.so M;refine(let p:Qc:=λb d=>d=Hb/\∃I:Int,(I=0\/I=1\/I=2)/\b=[↑a,Nc<|.int (n:Int),Nc<|.int (m:Int),↑C,Nc<|.int (l:Int),↑fl,↑o,↑j,Nc<|.int I,Nd];(p,(a,y,8,U,e5,⋯,_,_,U,U,(by show(0:Int)<3;decide),U,_,md3 _,U,),?_,));rintro k4 Hc ⟨zc,I,a4,rfl⟩;subst zc;refine(let p:Qc:=λb d=>d=Hc/\∃I:Int,¬ (I=3\/I=4\/I=5)/\b=[↑a,Nc<|.int (n:Int),Nc<|.int (m:Int),↑C,Nc<|.int (l:Int),↑fl,↑o,↑j,Nc<|.int I,Nd];(p,?_,?_,))
 .cases fT with
  |false=>exact(fl,_,_,_,U,U,P8 efl,U,_,U,bJ<|bJ (U,I,AJ a4,U,),)
  |true=>exact(fl,_,_,_,U,U,P8 efl,U,_,U,dh (a,y,8,U,e5,⋯,_,_,U,U,(⋯,⋯,),_,_,U,U,(by show(0:Int)<4;decide),U,_,U,bM (λ_=>(U,6,⋯,U,))<|λ_=>(U,I,AJ a4,U,),),)
 clear a4;rintro k2 Hd ⟨zd,I,a4,rfl⟩;subst zd;let h6:=kk8 (ye Ja) hkk;let c1:=kk0 hkk;refine(let p:Qc:=λb d=>LwI Y.s Y.q Y.r K H2 d n c B wh l o j fl t u kT kU fT fU W bU/\b=[↑a,Nc<|.int (n:Int),Nc<|.int (m:Int),↑C,Nc<|.int (l:Int),↑fl,↑o,↑j,Nc<|.int I,Nd];(p,?_,?_,))
 .let etw:=J.etw;refine(o,_,_,_,U,U,P8 etw,U,o,_,_,_,U,U,P8 etw,U,I,t,u,(if W=Nf then 2 else 0),U,by split <;> simp,λH0 s0 E R e6 c3 c2=>.inr (a4,(J.wT.so<|So.of s0).one (J.tb.same s0) ∅ d7 ∅ ∅ S (λhb=>c3 (by rw[Nk hb])) (λhb=>c2 (by rw[hb];rfl)),),λd so tb=>?_,);calc(j,_,_,_,U,U,P8<|so.lst J.ebg,U,.inr (_,U,_,_,U,U,.inl (⋯,⋯,),U,_,U,?_,),);let fin:=J.mv so tb;cases W <;> exact bJ (fin,U,)
 clear J efl;rintro k0 He ⟨J,rfl⟩;let(f5,f3,etw,ebg,efl,wT,wU,_):=J;refine(let p:Qc:=λb d=>au He d/\b=[↑a,Nc<|.int (n:Int),Nc<|.int (m:Int),↑C,Nc<|.int (l:Int),↑fl,↑o,↑j,Nc<|.int I,Nd];(p,?_,?_,))
 .cases fT with
  |false=>exact(fl,_,_,_,U,U,P8 efl,U,_,U,bJ<|bJ (au.refl _,U,),)
  |true =>
   let(m0,i2):=wT.ex;let((ou,nm,wy,zs,dv,i3,i8,_),_):=i2;refine(fl,_,_,_,U,U,P8 efl,U,_,U,dh (o,_,_,_,U,U,P8 etw,U,t,ou,0,_,nm,wy,zs,dv,_,_,U,i3,(by show 0<1;decide),i8,λx d N hX=>?_,),);let(rl,dx,na,dl,fs,xs,g1,G,_,_,_,_,_,_,_,j2,hR,_):=hX;let g8:xs=[]:=wr hR.1;exact(x,_,_,_,_,U,g1,bl.k_Table,bl.na_Table_rows,G,rl,_,U,.inl<|P8 j2,U,_,U,by rw[g8];exact bJ (N,U,),)
 rintro j9 Hf ⟨sf,rfl⟩;let b3:=So.of sf;let(du,a5):∃du:Int,du=if (W || bU)=Nf then 2 else 0:=(_,U,)
 refine(let p:Qc:=λb d=>d=Hf/\b=[↑a,Nc<|.int (n:Int),Nc<|.int (m:Int),↑C,Nc<|.int (l:Int),↑fl,↑o,↑j,Nc<|.int I,Nc (.int du)];(p,?_,?_,))
 .let Ek:=sf _ _ ebg;cases W with
  |true=>exact(j,_,_,_,U,U,P8 Ek,U,_,U,dh<|.inr (_,U,_,_,U,U,.inl (⋯,⋯,),U,by rw[a5];rfl,),)
  |false=>exact⟨j,_,_,_,U,U,P8 Ek,U,_,U,bJ ⟨j,_,_,_,U,U,P8 Ek,U,.inr ⟨_,U,_,_,U,U,.inl (⋯,⋯,),U,by rw[a5];cases bU <;> rfl⟩⟩⟩
 rintro j8 Hg ⟨zg,rfl⟩;subst zg;let(a7,yD):∃a7:Int,a7=if 0<l then 1 else du:=(_,U,)
 refine(let p:Qc:=λb d=>d=Hg/\b=[↑a,Nc<|.int (n:Int),Nc<|.int (m:Int),↑C,Nc<|.int (l:Int),↑fl,↑o,↑j,Nc<|.int I,Nc (.int a7)];(p,(_,_,U,U,_,U,bM (λg=>(U,by have:((l:Nat):Int)>0:=kq g;rw[yD,Nk ∅];rfl,)) (λg=>(U,by have:¬ ((l:Nat):Int)>0:=kr g;rw[yD,Nj ∅],)),),?_,));rintro j7 Hh ⟨zh,rfl⟩;subst zh;let f4:=f5.trans b3;let FW:=sf _ _ etw;let(k3,b6,Jb):=md (eJ y 9) 3 ⋯;let b6:eJ y 9%3=(k3:Int):=b6;refine(a,y,9,U,So.seq f4 M,⋯,_,_,U,U,(by show(0:Int)<3;decide),_,_,U,U,o,_,_,_,U,U,P8 FW,U,o,_,_,_,U,U,P8 FW,U,_,t,u,a7,U,?_,λH0 s0 E R e6 c3 c2=>.inl (by rw[b6];exact FI Jb,((wT.so b3).so<|So.of s0).two ((wU.so b3).so<|So.of s0) ((f3.same sf).same s0) ∅ d7 T ∅ h9 S h6 (λh=>e6 ?_) (λh hb=>c3 ?_) (λh h1 h2=>c2 ?_),),λd so tb=>(U,?_,),)
 .rw[yD,a5];split
  .exact .inr<|.inl U
  .split
   .exact .inr<|.inr U
   .exact .inl U
 .rw[yD,Nk (Decidable.not_not.mp λz=>h<|c1.mpr z)]
 .rw[yD,Nj<|c1.mp h,a5,Nk (by rcases hb with h|h <;> rw[h] <;> simp)]
 .rw[yD,Nj<|c1.mp h,a5,h1,h2];rfl
 .rw[Nm U];calc q _
end
structure FF(K:am)(Y:AD):Prop where
 (h0:GF K "all_among" "all_among" Y32)
 (h1:GF K "is_word" "is_word" Y53)
 (h2:GF K "is_whole" "is_whole" Y52)
 (h3:GF K "alike" "alike" Y31)
 (h4:GF K "holds" "holds" Y49)
 (h5:GF K "edges" "edges" Y44)
 (h6:GF K "stretches" "stretches" Y84)
 (h7:GF K "grain" "grain" Y48)
 (h8:GF K "cut_columns" "cut_columns" Y42)
 (h9:GF K "built" "built" Y35)
 (h10:GF K "layered" "layered" Y68)
 (h11:GF K "closed" "closed" Y39)
 (h12:GF K "mapped" "mapped" Y70)
 (h13:GF K "paired" "paired" Y73)
 (h14:GF K "boxes" "boxes" Y33)
 (h15:GF K "gathered" "gathered" Y47)
 (h16:GF K "corner" "corner" Y41)
 (h17:GF K "way_by" "way_by" Y89)
 (h18:GF K "refuse_names" "refuse_names" Y77)
 (h19:GF K "refuse_counts" "refuse_counts" Y76)
 (h20:GF K "refuse_way" "refuse_way" Y81)
 (h21:GF K "refuse_row" "refuse_row" Y78)
 (h22:GF K "own_row" "own_row" Y72)
 (h23:GF K "fits" "fits" Y46)
 (h24:GF K "mask" "mask" Y71)
 (h25:GF K "judged" "judged" Y54)
 (h26:GF K "with_rows" "with_rows" Y90)
 (h27:GF K "table_bounds" "table_bounds" Y85)
 (h28:GF K "table_marks" "table_marks" Y86)
 (h29:GF K "column_marks" "column_marks" Y40)
 (h32:GF K "tiling" "tiling" Y87)
 (h35:GF K "boxes_with_leaf" "boxes_with_leaf" Y34)
 (h36:GF K "without_row" "without_row" Y91)
 (h37:GF K "reason" "reason" Y74)
 (h38:GF K "idle" "idle" Y51)
 (h39:GF K "judged_tiles" "judged_tiles" Y55)
 (h40:GF K "reason_among" "reason_among" Y75)
 (h41:GF K "leans_on" "leans_on" Y69)
 (h42:GF K "first_unlike" "first_unlike" Y45)
 (h43:GF K "same_everywhere" "same_everywhere" Y83)
 (h44:GF K "changes" "changes" Y37)
 (h45:GF K "changed_boxes" "changed_boxes" Y36)
 (h46:GF K "differing_pair" "differing_pair" Y43)
 (h47:GF K "refuse_unlike" "refuse_unlike" Y79)
 (h48:GF K "refuse_unlike_domains" "refuse_unlike_domains" Y80)
 (h49:GF K "_law_cell" "_law_cell" Y58)
 (h50:GF K "_law_words" "_law_words" Y67)
 (h51:GF K "_law_spans" "_law_spans" Y65)
 (h52:GF K "_law_points" "_law_points" Y64)
 (h53:GF K "_law_domains" "_law_domains" Y59)
 (h54:GF K "_law_outcome" "_law_outcome" Y63)
 (h55:GF K "_law_one" "_law_one" Y62)
 (h56:GF K "_law_asked" "_law_asked" Y57)
 (h57:GF K "_law_told" "_law_told" Y66)
 (h58:GF K "_law_dotted" "_law_dotted" Y61)
 (h59:GF K "_law_dots" "_law_dots" Y60)
 (h91:GF K "law" "law" Y56)
 (m77:MF K Y.q "has_code" "Domain.has_code" Y2)
 (m78:MF K Y.r "has_code" "Domain.has_code" Y3)
 (m79:MF K Y.j "verdict" "Way.verdict" Y24)
 (m80:MF K Y.j "chosen" "First.chosen" Y5)
 (m81:MF K Y.k "verdict" "Way.verdict" Y28)
 (m82:MF K Y.k "chosen" "Only.chosen" Y14)
 (m83:MF K Y.l "verdict" "Way.verdict" Y26)
 (m84:MF K Y.l "chosen" "Like.chosen" Y9)
 (m85:MF K Y.m "verdict" "Way.verdict" Y27)
 (m86:MF K Y.m "chosen" "Low.chosen" Y11)
 (m87:MF K Y.n "verdict" "Way.verdict" Y25)
 (m88:MF K Y.n "chosen" "High.chosen" Y7)
 (m89:MF K Y.o "verdict" "Way.verdict" Y29)
 (m90:MF K Y.o "chosen" "Sum.chosen" Y16)
 (k60:KF K Y.s "Table" "Table.__init__" Y17)
 (k61:KF K Y.r "Words" "Words.__init__" Y30)
 (k63:KF K Y.q "Numbers" "Numbers.__init__" Y12)
 (k65:KF K Y.j "First" "First.__init__" Y4)
 (k67:KF K Y.k "Only" "Only.__init__" Y13)
 (k69:KF K Y.l "Like" "Like.__init__" Y8)
 (k71:KF K Y.m "Low" "Low.__init__" Y10)
 (k73:KF K Y.n "High" "High.__init__" Y6)
 (k75:KF K Y.o "Sum" "Sum.__init__" Y15)
 (b62:BF K Y.p "Domain" "__init__" "Domain.__init__" Y1)
 (b64:BF K Y.p "Domain" "__init__" "Domain.__init__" Y0)
 (b66:BF K Y.i "Way" "__init__" "Way.__init__" Y18)
 (b68:BF K Y.i "Way" "__init__" "Way.__init__" Y22)
 (b70:BF K Y.i "Way" "__init__" "Way.__init__" Y20)
 (b72:BF K Y.i "Way" "__init__" "Way.__init__" Y21)
 (b74:BF K Y.i "Way" "__init__" "Way.__init__" Y19)
 (b76:BF K Y.i "Way" "__init__" "Way.__init__" Y23)
 (t30:TFn K "row_form" s_row_form)
 (t31:TFn K "verdict_form" s_verdict_form)
 (t33:TFn K "holes" s_holes)
 (t34:TFn K "clashes" s_clashes)
 (z0:li K JU "len" = Nc Nd)
 (z1:li K JU "isinstance" = Nc Nd)
 (z2:li K JU "int" = Nc Nd)
 (z3:li K JU "bool" = Nc Nd)
 (z4:li K JU "sorted" = Nc Nd)
 (z5:li K JU "list" = Nc Nd)
 (z6:li K JU "set" = Nc Nd)
 (z7:li K JU "zip" = Nc Nd)
 (z8:li K JU "tuple" = Nc Nd)
 (z9:li K JU "min" = Nc Nd)
 (z10:li K JU "sum" = Nc Nd)
 (z11:li K JU "range" = Nc Nd)
 (z12:li K JU "enumerate" = Nc Nd)
 (z13:li K JU "ValueError" = Nc Nd)
 (z14:li K JU "any" = Nc Nd)
 (z15:li K JU "max" = Nc Nd)
 (y0:∃u,li K JU "MOST_SIGNS" = Nc (Nc u)/\RelV (pi 12) u)
 (y1:∃u,li K JU "SMALL_LETTERS" = Nc (Nc u)/\RelV (Qe "abcdefghijklmnopqrstuvwxyz") u)
 (y2:∃u,li K JU "MOST_GRAIN" = Nc (Nc u)/\RelV (pi 300) u)
 (y3:∃u,li K JU "MOST_ROWS" = Nc (Nc u)/\RelV (pi 200) u)
 (y4:∃u,li K JU "MOST_COLUMNS" = Nc (Nc u)/\RelV (pi 4) u)
 (y5:∃u,li K JU "NOTHING" = Nc (Nc u)/\RelV (pi 0) u)
 (y6:∃u,li K JU "MOST_WORDS" = Nc (Nc u)/\RelV (pi 40) u)
local macro_rules|`(tactic|trivial)=>`(tactic|exact λF=>F.binds λ_ _ _ _ _ _=>by first|exact _L.lb0 rfl|exact _L.lb1 λ_=>U|exact _L.lb2 λ_ _=>U|exact _L.lb3 λ_ _ _=>U|exact _L.lb4 λ_ _ _ _=>U|exact _L.lb5 λ_ _ _ _ _=>U|exact _L.lb6 λ_ _ _ _ _ _=>U|exact _L.lb7 λ_ _ _ _ _ _ _=>U|exact _L.lb8 λ_ _ _ _ _ _ _ _=>U|exact _L.lb9 λ_ _ _ _ _ _ _ _ _=>U)
def all_mk{l:W.OpenLaw}{w:Je}{K:am}{h:JD}{mg:Str->Option I1}{N:Jr}{Y:AD}(X:K.In h)(G:h.Ns JU mg)(A:mg "law" = ↑N) (b:Bk K Y)(u:FF K Y)
  : ∃i:K9,(∀(s:JY)(v:I1),La s i ([v],[],) [("script",v)])/\∀base:JD,K.In base->base.Ns JU mg->(∀q∈(kt K "row_form").toList++(kt K "verdict_form").toList++(kt K "holes").toList++(kt K "clashes").toList,NV base q.1 q.2/\base.BuiltinsAt mg q.2)->aL l.prog w K mg base CX0 24 N i ["script"] (J18 K):=by
 cases u.h91 with | @mk _ i a F =>
 cases A.symm.trans (rs X G a);let bl:Bl K mg Y:=(b,rs X G b.n_TableError,rs X G b.n_TooFine,rs X G b.n_Unlike,rs X G b.n_TooMany,rs X G b.n_Outside,rs X G b.n_Clash,rs X G b.n_Hole,rs X G b.n_BadRow,rs X G b.n_Way,rs X G b.n_First,rs X G b.n_Only,rs X G b.n_Like,rs X G b.n_Low,rs X G b.n_High,rs X G b.n_Sum,rs X G b.n_Domain,rs X G b.n_Numbers,rs X G b.n_Words,rs X G b.n_Table,rs X G b.n_NONE,rs X G b.n_CLASH,rc X G u.z0,rc X G u.z1,rc X G u.z2,rc X G u.z3,rc X G u.z4,rc X G u.z5,rc X G u.z6,rc X G u.z7,rc X G u.z8,rc X G u.z9,rc X G u.z10,rc X G u.z11,rc X G u.z12,rc X G u.z13,rc X G u.z14,rc X G u.z15,(let ⟨_,y,x⟩:=u.y0;(_,rs X G y,x,)),(let ⟨_,y,x⟩:=u.y1;(_,rs X G y,x,)),(let ⟨_,y,x⟩:=u.y2;(_,rs X G y,x,)),(let ⟨_,y,x⟩:=u.y3;(_,rs X G y,x,)),(let ⟨_,y,x⟩:=u.y4;(_,rs X G y,x,)),(let ⟨_,y,x⟩:=u.y5;(_,rs X G y,x,)),(let ⟨_,y,x⟩:=u.y6;(_,rs X G y,x,)),);refine(i,λs v=>by let(_,_,_,_,_,_,_,_,_,e,_,_):=F.ex;rw[e];exact .of_eq U,λbase _ _ g=>?_,);let z:Zb l.prog w K mg base:=(X,G,);let uP:=mkC z u.h0 λF=>GX F bl
 let I:=mkC z u.h2 λF=>GY F bl
 let Ca:=mkC z u.h3 λF=>GZ F bl
 let Cb:=mkC z u.h4 λF=>G1 F bl
 let Cc:=mkC z u.h5 λF=>G2 F bl
 let uQ:=mkC z u.h6 λF=>G3 F bl
 let k:=mkC z u.h11 λF=>G5 F bl
 let wt:=mkC z u.h15 λF=>G6 F bl
 let D:=mkC z u.h16 λF=>G7 F bl
 let nQ:=mkC z u.h19 λF=>G8 F bl
 let T:=mkC z u.h22 λF=>G9 F bl
 let pX:=mkC z u.h27 λF=>Hi F bl
 let nh:=mkC z u.h46 λF=>Hj F bl
 let H:=mkC z u.h49 λF=>Hk F bl
 let uS:=mkC z u.h50 λF=>Hl F bl
 let uT:=mkC z u.h51 λF=>Hm F bl
 let tD:=mkC z u.h52 λF=>Hn F bl
 let iI:=mkB z u.b62 λF=>O_1 F bl
 let gG:=mkB z u.b64 λF=>O_0 F bl
 let jJ:=mkB z u.b66 λF=>Ho F bl
 let kg:=mkB z u.b68 λF=>Hq F bl
 let kh:=mkB z u.b70 λF=>Hr F bl
 let ly:=mkB z u.b72 λF=>Hs F bl
 let ki:=mkB z u.b74 λF=>Ht F bl
 let lA:=mkB z u.b76 λF=>Hu F bl
 let jK:=mkM z u.m80 λF=>O_5 F bl
 let lB:=mkM z u.m82 λF=>Hv F bl
 let lC:=mkM z u.m84 λF=>O_9 F bl
 let ni:=mkM z u.m86 λF=>Hw F bl
 let lD:=mkM z u.m88 λF=>O_7 F bl
 let nj:=mkM z u.m90 λF=>Hx F bl
 let E:=mkC z u.h1 λF=>Hy F bl uP.up
 let J:=mkC z u.h8 λF=>Hz F bl uQ.up
 let El:=mkC z u.h23 λF=>HB F bl Cb.up
 let pZ:=mkC z u.h29 λF=>HC F bl wt.up Cc.up
 let iJ:=mkX z u.h48 λF=>HD F bl Ca.up
 let r:=mkK z u.k63 λF=>HE F bl gG.up
 let jc:=mkK z u.k65 λF=>O_4 F bl jJ.up
 let jL:=mkK z u.k67 λF=>HF F bl kg.up
 let jM:=mkK z u.k69 λF=>O_8 F bl kh.up
 let lE:=mkK z u.k71 λF=>HG F bl ly.up
 let jN:=mkK z u.k73 λF=>O_6 F bl ki.up
 let lF:=mkK z u.k75 λF=>HH F bl lA.up
 let gH:=mkM z u.m77 λF=>O_2 F bl I.up
 let iK:=mkM z u.m78 λF=>O_3 F bl I.up
 let kj:=mkM z u.m79 λF=>HI F bl jK.up
 let lG:=mkM z u.m81 λF=>HJ F bl lB.up
 let lH:=mkM z u.m83 λF=>HK F bl lC.up
 let my:=mkM z u.m85 λF=>HL F bl ni.up
 let lI:=mkM z u.m87 λF=>HM F bl lD.up
 let mz:=mkM z u.m89 λF=>HN F bl nj.up
 let Cd:=mkC z u.h7 λF=>HP F bl J.up
 let qc:=mkC z u.h18 λF=>HQ F bl E.up
 let tE:=mkC z u.h21 λF=>HR F bl gH.up iK.up
 let P:=mkC z u.h24 λF=>HS F bl El.up
 let qJ:=mkC z u.h28 λF=>HU F bl pZ.up
 let nR:=mkX z u.h47 λF=>HW F bl iJ.up
 let O:=mkK z u.k61 λF=>HX F bl iI.up E.up
 let C:=mkC z u.h17 λF=>HY F bl jc.up jL.up jM.up lE.up jN.up lF.up
 let tF:=mkC z u.h20 λF=>HZ F bl C.up
 let d:=mkC z u.h25 λF=>Ia F bl kj.up lG.up lH.up my.up lI.up mz.up C.up
 let qK:=mkC z u.h53 λF=>Ib F bl O.up r.up uS.up
 let qL:=mkC z u.h54 λF=>Ie F bl r.up O.up
 let Z:=mkC z u.h41 λF=>Ig F bl d.up
 let t:=mkK z u.k60 λF=>Ih F bl qc.up nQ.up tF.up tE.up T.up
 let B:=mkR z u.h14 0 7 AK λn F c=>Ii F bl c
 let M:=mkC z u.h40 λF=>Ij F bl Z.up D.up
 let uV:=mkC z u.h26 λF=>Ik F bl t.up
 let p:=mkC z u.h35 λF=>Il F bl B.up
 let S:=mkC z u.h55 λF=>Im F bl qK.up qL.up t.up uT.up
 let tG:=mkC z u.h58 λF=>Ir F bl t.up r.up
 let qM:=mkC z u.h36 λF=>Iu F bl uV.up
 let R:=mkR z u.h10 8 7 wc λn F c=>Iv F bl (k.mono ∅) c ∅
 let j:=mkR z u.h12 8 7 yz λn F c=>Iw F bl (k.mono ∅) c ∅
 let AR:=mkR z u.h13 8 7 yA λn F c=>Iy F bl (k.mono ∅) c ∅
 let Ce:=mkX z u.h9 λF=>IB F bl R.up Cd.up J.up
 let nU:=mkC z u.h45 λF=>ID F bl AR.up nh.up p.up
 let f:=Bw z u.t30 (λq h=>g q (by simp only[gz];simp[h])) λF h1 h2 h3=>IE F bl Ce.up pX.up qJ.up P.up h1 h2 h3 P.up
 let qe:=Bw z u.t31 (λq h=>g q (by simp only[gz];simp[h])) λF h1 h2 h3=>IH F bl j.up f.up d.up h1 h2 h3 d.up
 let AS:=mkX z u.h32 λF=>II F bl B.up f.up
 let Cf:=Bw z u.t33 (λq h=>g q (by simp only[gz];simp[h])) λF h1 h2 h3=>IJ F bl j.up f.up p.up h1 h2 h3
 let Q:=Bw z u.t34 (λq h=>g q (by simp only[gz];simp[h])) λF h1 h2 h3=>IL F bl j.up p.up f.up d.up h1 h2 h3 d.up
 let L:=mkX z u.h39 λF=>IM F bl d.up AS.up
 let m:=mkX z u.h44 λF=>IP F bl nR.up nU.up qe.up
 let AU:=mkX z u.h37 λF=>IQ F bl M.up L.up
 let Em:=mkX z u.h38 λF=>IS F bl L.up M.up
 let o:=mkX z u.h42 λF=>IT F bl m.up D.up
 let mB:=mkX z u.h43 λF=>IU F bl o.up
 let V:=mkC z u.h59 λF=>IV F bl tG.up H.up m.up o.up
 let uW:=mkX z u.h56 λF=>IX F bl AU.up Cf.up Q.up Em.up o.up mB.up m.up
 let wA:=mkC z u.h57 λF=>IY F bl uW.up
 calc I0 F bl tD.up H.up S.up wA.up V.up qM.up
def walk{l:W.OpenLaw}{q:Jl}{b:Nt Str}{XP:(Str->Option I1)->JD->Prop}{r:Je->JD->Prop}{d:DefRec}{K:Lx->am}(y:l.most=Nc 63)(j:d.params.defaults=[])
  (B:∀(w:Je)(h:JD),r w h->(K w.params).In h)(i:∀p:Lx,W.noTabs (K p)=Nf)(g:∃d',(Nx q).find? (λe=>e.name == ("row_form" : Str))=Nc d') (G:∃d',(Nx q).find? (λe=>e.name == ("verdict_form" : Str))=Nc d') (E:∃d',(Nx q).find? (λe=>e.name == ("holes" : Str))=Nc d') (D:∃d',(Nx q).find? (λe=>e.name == ("clashes" : Str))=Nc d')
  (F:∀(w:Je)(mg:Str->Option I1)(o:Jr)(h:JD),(K w.params).In h->h.Ns JU mg->mg d.name=↑o ->
   ∃m:K9,(∀(s:JY)(u:I1),La s m ([u],[],) [("script",u)])/\∀base:JD,(K w.params).In base->base.Ns JU mg->(∀q∈(kt (K w.params) "row_form").toList++(kt (K w.params) "verdict_form").toList++(kt (K w.params) "holes").toList++(kt (K w.params) "clashes").toList,NV base q.1 q.2/\base.BuiltinsAt mg q.2)->aL l.prog w (K w.params) mg base CX0 24 o m ["script"] (J18<|K w.params)) :
  W.WalkO q b XP r l.row.toRowW d [] (λf vs=>PySem.call f vs) :=
 _L.walk_ofT (n:=63) (k:=24) (x := "script") (CX:=λ_=>CX0) (sp:=λw=>J18<|K w.params) (tabs:=λp=>(kt (K p) "row_form").toList++(kt (K p) "verdict_form").toList++(kt (K p) "holes").toList++(kt (K p) "clashes").toList) (xs:=["row_form","verdict_form","holes","clashes"]) y ⋯ j (U,⋯,⋯,) B i (gg.mpr (g,gg.mpr (G,gg.mpr (E,gg.mpr (D,iF _,),),),))
  (λp t h=>(gz.mp h).elim (λh=>(gz.mp h).elim (λh=>(gz.mp h).elim (λh=>(_,cF,n8 h,)) λh=>(_,(dz _ cF),n8 h,)) λh=>(_,(dz _<|dz _ cF),n8 h,)) λh=>(_,(dz _<|dz _<|dz _ cF),n8 h,)) F
  (λw H a v A _ C c=>(a,v,U,C,A,λz e=>c z<|gz.mpr<|.inl<|gz.mpr<|.inl<|gz.mpr<|.inl (by rw[e];exact cF),λz e=>c z<|gz.mpr<|.inl<|gz.mpr<|.inl<|gz.mpr<|.inr (by rw[e];exact cF),λz e=>c z<|gz.mpr<|.inl<|gz.mpr<|.inr (by rw[e];exact cF),λz e=>c z<|gz.mpr<|.inr (by rw[e];exact cF),λ_=>U,)) λ_ _ _ _ _ z=>z
end _M
set_option genSizeOf false in
set_option genInjectivity false in
open Lean in
set_option hygiene false in
local macro_rules(kind:=Lean.Parser.Command.declaration)|s=>do
 let some t:=(s.find? (·.isStrLit?.isSome)).bind (·.isStrLit?)|Macro.throwUnsupported
 if s[1].getKind != ``Lean.Parser.Command.structure then Macro.throwUnsupported
 let(_,_,a):=t.foldl (λ(k,n,a) c=>let n:=n*91+c.toNat-(if c.toNat>92 then 36 else 35);if k==9 then (0,0,a.push (mkIdent (.mkSimple ("tw"++toString n)))) else (k+1,n,a)) (0,0,(#[]:Array Ident))
 `(structure PySem.W.Fast:Prop where ($a* : True))
structure A:Prop where(x:True:="1ly`P&VIo6G.+lYDl{N3/'[J;3L3*7G=b8yc13TX;V-:=HwO*qErVUtabb2-Lo1_J1K&7M<Yfm8+f->|A?@TH0+'REE7Gqd~%e*z#U#h$EJCXH*x]@8Iv7u#6?Z.lj+VlnEx=hps&0paE+%kiwPp|$)*4*P7~JZb3#&PYz/&+oIn7yXk?l{d/(xMT]UdUU=f/SN{r7&mF$<KWAm>_-+R__VM3/F@(d<<vLWU)Q.7AT=?w-::0/M&e>'}|QM]6zNq]h(OFJsxN{fJYe:}YfxkS9,A98@/5vHQdZ9G.'w6EN^6<2@TtipKBN@Jk3g'uw?T%_BKv9yF/Q#m(2QstjyO5U]|7u)IXf(A;Egyv#oE9RY@y9Wdc.#t)~sj)K@D4=bP}`OSCo#.JL/}JE,*HdA8-]h,$^-)VncQ=r4P*@|}3^VRp]He$E<QT?uWG4`%RJ6/6/D@W]n*u;a-FbYp#iF0A.MUh`_gg[ob90kaju1~%lF)/~2>^Ya+BSn47wgrRW)ZzAM7Nh37J//G#MYpXWM|i*}&^(]B?Su7R~qk(GEYg*JxV1:D4=Zmje={5rG=DWIa[Gv?'mKe]}/#(J5YM;(7)-nV=4=[TJ/oFVCL|JKq,zUk1(s|@*rE0KKjr=AEl1.q;VM`#9u1pc4mQUo.;~G6K2FdR.XAZR2IE=SS;Cu|';P|zg_G`@C0pxkMu4;B2kW$,0=<nD$rd2mdfw<RHAl,o8[3?{FnlOPpU5R/E@J{=Nda/JDDtVMIn3{0;Nq0%RhC0fMZsCljBK-W7dfT41Bx_*CYRfba#f)E'kT@FqMPK7/<,6k+bedq?;r+to+r-<:P.|qz-y8n:,DHK=ig;L+L)QHm(rnd:&*=$k;B)0DT1|mcX'8'GODxi[`dg(6A`n:/Z[g~&+uEKTW=*H0X7[08~'wM1:Yf|<J#w+FHrHVrE[{a#ZuBAF%Y[S2+cF|[K;q<GhVV,@brpc,{dNF[rGZ.(>=Tr`@g<38N+AP$/WM7#@`^@b>&e%EB8S*Nh&EM#(?Lfs^#MK:1kXPO,9$|AMcU/T;q%yH}PRdOU~@WFzlO]bG0QG9_e<NjGJXS=wQH+_Y:}F'ZylFRn_7n%5GZLNCY|<=79;<A7V<e(zLU}&|3u38U`QIWA)WdJwWl;LD1lH()8^V5bgKC@byM49t,1a9XT/y7j4NDA_eK^[7D/p?E;=j(Y@s(Mz9P@<*p=0H)[_$56VplJSU42B5en4JhGa56Q'S@*b>qOJYdWr)&-V6,s#<G@c|juG@`8R.6QpK9U?lh-y-q{sL`R{CM{=ri0_oy658-i#H+X[';8#RKM`yiIcb4`4&>ff<=Fy@7Jx&[*Y(v=B|aj&?,=C3+EvyI8kz};(e5'z-HK&NCX}/}C8:R<>lvZ91+6W)H8@?(?$ZoD:I&5?<x4pqtit(b%0tCo^bx<dD@/I`]*F#f4iAh[_2(fs%.#]2zmmta2MgZN1Y*<^@c;l6u+=j05g9Gw{}Yk8JT|df8zob$Hy,G:LS%BP.;&aicAU%%5E?*G%DQbz(ZJ@G0e7,a)}vMt+GQIa)vO'[2RpJp*{UepESFK@,`c3z*IbC2%gedK#4<'<'iEaTe/zL<==[>*>SJ{*(O1q5fw$5_)XxfnMY*KG(xjo7Z|kbo8,+z`w74oA?q{<($~Cfp99XjB~P?~S&(Iww-~^fD2y:,d?KpE,1nf/Y/z$sM(6jjwc(t3{H2^f|+ZH&)D+>@c;2C#Z<f2aGeFJE*J[=v3225=1Gs?_?7wQ+6#;9mG{'*$WN+3n<m{UaI<3QRrH+Z.lBR>bqz}hfR1Oui:Y}`e.*U3gAcZ|@XCXNA_*/;%wB-xg;j]<xzLb)'H,:a+xL'WN)6g9'HGOJElSC{PVJ2{*&H|:t@A*a%K8}A?X8$W5aayg^G#Cbz)3B7Ta(~.]aof%ErMDA[{VU{CeJXZZ`sUr&l9U~8<x%{Kl8ImuQC0rG0G]h@-9hA-n+VD[y0-~mf:JIZf*Z8bN>{e==PlF/o+7(YVVNnt|5/F|mqlJ^55I5C$%VC8j%j.dj5Ye}m=7n*Q[WVGN17x7YvB{x@JuU^~a*/dZ4uA[+#:M3?CU6Z6F>)KJI%Gt(tG^g(2U.L|+z'tYAvci7)5~|{Ae't+41cl{/$eDF'RNPr5;b=F`SFyM)Zw`U0<uw2&$M90}G|Jf#Vv2#h=a)'Ac2Qc^eICX,/EMmDu0O_5h+MJJkX.vH`SUPkYElGAZ/$v<59gE8'vcoos1?TE7FNxe3NcC<kE'Wk?0b(<TT1f&gC*9&n=#tsx%mX?qSylIbcQ:;^h0$=l]X,?yhQ{#Sy<4.0q%66+ut=7?Ejsm)1k/IZ7@DIIbgfC1kg/p*xs|A)Fw*PKo]3B`k<q=LWwm'8(pSc.,J@+_SCR(#E~ZEv,%^~SoGpA_>k[zP[PB>7y)d&emYj<.c'SqW=:|&:,ZG'YU4X2J}KE>PV%mL$or@++noq&/;,#OALy%?9:EG0O%aO(VcK;$d}8WI?Zo0BLKr0>vodk%RTTq9u]rH>V3Pu&'Q^3y^:`#GrlO6r9rOB5fCGmcds<$KD>t~0Pf[1Memk0#C3Y~HI/#eU(BL)AAsG+zEt{~8SQkU{9dT})E-@iYjli78qgFi2S2gB@<Da'~otJI'jVFJu:X~OBnC+-?Xc$/BTw{vM{;8{)`|CVe(:hiDlEmOGbMzE5<j=~C{g.b?3:bP^.Y1}>$&r5'@wxI#00l-(er0}>mA`Oa9WM21[L`8AMM(=0c:9hdh{FsGKtj/|nrg900:/d|4S'=:Q-tgps3SW8,BU7g(%PND$9PL:BiXc1fzX.]D)Yu4nQ,q+9T>7<|DSul~1dK$Ss4rQBSZI41bI9+3Gll2Zyu<*jqRR:HNA%93>qU$WXnAu|ACy#<d6ReJn7E=./aP5ZnLf#YF`J*x^1'A5#|d/3)^>$@.F`yDuNgCy}c3`n&yGDRkKeaRW5jMv)obbSgDC4{~S&x{oQm)qBGoi4~*Y=l-J/]ayPw)XoSQ}cd[4FVmGpx8e@vL`wA1a1/9NH{o/Mco0f0-<i'<Sv-@:CZX6;MM1eX.4pk@+$lJ@;_iBTKij~F<Lm-)hmOfFFc.]VPx~w4Gsi|hI)y&('?9Ai*z'@1G8#|5:gn-f8$of0yKUe@;~DoF5~HwbK2~9uc+{e-3EN#i?cJ1.0|G`3;>~'z9:9|MSAFh~)W@G)npjiI,[rgoa[RCF(Jazk]2bnz(A+Xo@BZ*0'KOT>duS*yC8R(muQPTw?_~5[_hVtt42'b(}INJ|Kz$BO<P<uL#$&[GEk{re7*Q*1TL:E<=u_F8Y3c>M7ke^o=&7z5DhE/]_(WRr%)|RHjc=^6'M+M+~?7`>KVrkr5Om6t)'q0Rh@eW@(eK24~Z#|(<5sthQZDnp6iQne,g4tp<rPrJ7@24FL//>+kYo&u%11g'hHCFi51{Bm;=UF35_Gk63Y7bx@'h|{ec}jPBQ#NRm;UP5FKzyT&N3d61_)B+QcnlUB2P1Bon,l;2kp3>b(O9c*x?K,{x.q6(ffwIzor4&KET^E22Ml3=wyeygRHqgC89)7O~M4T.:(KR}H}IQ7/T6.E_5V^>7>]0*Y-xL<Ef_*jN}yIJ2z#N.+7yM#_~.T`Qujl+`bMZ]p-B#J,_M>CXUXs5|l|{DU|~_G>mt5,o4<I*>f8wtGAfb>/zrD.W<On:@J_F[7`T^8vy&=KK%MB6bFp}w&#TX7njh8,CKYB0EPTa+euv8?f6vF~zd)4)E&G&[|FOvEOvPYMaqtaM])<c|AiG|Ja@Z{0(g/K4*0^%mB?+:7+h$x'p}#k4(r1Z|~G:t9`?Q2pStmyG8s9M]5vW54{zd%^5Ty7+VyvI;_CA1<ql{KSO,1KHAx.$P*ow_%i(2$Ci(Nd:|(pIq|TEWF,YvRV})Mf4#v<lT(kp&6|(:m;tFpG;v|G1VwYQW>;e|Noj`@59@8)?Ng%pj*&P|>(YFFT)gstfbk|[d><y|-Fm>{d0%13}*[nC?H1a>^QHAoc5k.i7/7=[9)EXxDzBt)hM/j@Vw,%tD,R*&7}OK5{3`ZNJd9$o>;1a54-o8Y4;*e~3.@S#RK+e0ExMct).~v;j?eb#8B8GHy#b15P4RPm1:0K@>KiQ]]-umM%HsrAF)Ko4c,Zwmc&)=b}/1vqpash>c7TgD2'mTd&%HlsACGX:THJa`m-4oQy&d9/+F^{ZP7.w[fMhWJC';q;nS2L:(34V&vqL-3]%cFCcWV@eC(*@Eema@Q_<_W(FBu[x'=jsQ=-e0V?);1D+esGc_:$fbE;~T:OJRa>TZpX[bM=E^3JWKI@;?Vy#?F@P|<,%Im6lic0A986kvJaIi*VS4':U&{A+_hZ6nE(#)DIvmM#3,M[.0.quv`VwnMmlx$<3e,h<ao>_s52Uu3YuM%/@(=/?4RY|Pm6:q0O{1,0sxn@IEPt(1n/fYH*Z]{:??gD4_af@_A@^>5;`EyY?q#>$P:0D?Cy=i<Zz6~Yu^L7'H]sw}a0Z/F7<]XV`CP%:0~RhPm)AH99F>|0l4:-MFvX4o{94b:UjpbzjP*x2cN#3'~fNjJq_dQX<E#FEcNaE&(^3I7F+*[RCz2n&':nub'0R3&Q%p{agcMi-$hYFzdmc%7Yrt6iQ[1/2z-wn'cw$;7T=]6%mlD0;Rgu)='_ywKb5Hz'wLu->u-z8$^3bT6K#0AdA*roH~L0'n15ROK^s&#1BrV1/*L6s]oM]PFE0=yjLl&{.|Ur+_2zC-0iE$$xbx[@+NN-#|$O$35xd#Zd?O&SD>(M~aRrZy?YKrFBLc{dJw#QGDc[#J<U<R%ur(rBGZKnUh/1_z)5,j7$23]p4IH_uSz.Vu@Ml]9]`/aX?):dqp-|p815Yzr10$+TBm@xX8n^@$)ns5[@$Fz3/Jw&zp0Vq9'<rIyyV>Z'(8S*D|$G9%L/WXT&XpS5%.DSFW<5<0>6RC,[&P/~AUgi^`;oX`+9R}Dioa*_K[s9>FNon7+yk;z%6jCMJ:>/ef+CxB3QY=)6#}VBIwe*Muru9U:80g8B@>%h#(9^QL@'`o)i;-j<Il=H<j@z%=u<_*-V>Y*y4.e))-P:$vDiEJEnv8DOUCx9&OB8U),b'5;V8|H^scNo.w,SR8T[~L%R#?|eBsw7-Y]1b9lC%`.+$_Kdm.Oe<8%T#b'vKg1%G}Ti@1jB>a:-=cK~|a:AGo,n:>%<5,bJ2rYQ@'2Y}E]V]E+/(La3M5{b^?#Dy,|$0;{y%PK%G<O:qj/Iu<g0VL5q=H*TS/hxkV29h.r*#S#<5`rm7~$8@o*VzNqDb(R?;ljvRL9M4EJP=c''pi)EIiVqzPytxFA>n}rPuC>YBMb6KdIuM;D/M#*VvKbV(~;|IndX#]?^Bd{?NthGL[9jG>K`9>=gLQZ{[rOMMhRqfHIsx%3D{.kEJ[euLaMXT.[F2?;7xZc/L{0->d%JNssVl~0|*w^9%Q4vM{3|59s6Ed.8|;Yk[L]|<dN6gQ,sq6.xL[15wD}u,@xGO~CWgm#0in)EF&E*+ZCmz@=~(S2@mS23)edELUN9G26:9UE+HL^^J|z[HoJ#C>EGeJ1xKH5Ez<.^L=cMw7(bD*=M[6lF^R%LIoC^+*[@R#FRV^)_a>L)?YC=ASdRVm=^H[V0Dg9VJ^,iZC6)n52x2vXabK.:6hE4$_Xic#.(43ri)g322R^(5wv;C|2;P9U/I~ygMkXsF]RbP/1gdOyC)12'-)l3$hHRX2@Kn?3RJj<bIA9HK-aemC3@_(%tHz+GL7Df+z2CUk&Ese7?OZ$>:={&ITrT-rL}pX%2.J(+(@}Tgl0;GJ8IMNq-N/Cp%pk6[AI}@k=U9]]-?rG<7Y}5=::oVv@&mWmTLbhzE#1B4Nn/,;C&L`x;zJ7~4e7%z|NOaA7jPR~H)Q9$._Le]wYtg8L.VeJwj+J{1w3EG+bz~'?-JVC)z9GAKo-A$z;S3.>u$||Qy@`I(%VXu}tK(I?8?;sX<#x;A`%RLq</aML/v3pbK=9t6'u4ufR@5:LES-'8)2a[I7^#SAEUGuG`3A;IwJSlAgI`I//bIK+ynrKMq)]F*$<@+A.:_jHm-h*Hmo(8F7xJa&Hsv9A<d:h(~yQ-3IOF0+n$Ka15'JKV'N`;;#2q.V~m5%/FJveqJK+tF`5jwUia,)9}dM@k)8/~HRYfGFNc@<#@AzZ@y=j4'k*xMo*i>D1/{SAI/|XnMebvwk:G?X45`*d$;Cfd<6Y1kop0I^?H(031a@5E0:d/tG<#lI/LeRSs_-6.&bu^gXlcCMC^OcqIFI.nER(&DqV|=[")
open PySem PySem.W PyProof.Rows
set_option maxRecDepth 100000 in
set_option maxHeartbeats 0 in
theorem PySem.Challenge.cw_rowjudge_k49_refused_holds : PySem.Challenge.rw_rowjudge_k49_refused.Holds := by
 w_on;o_law;k_head;(case hw=>w_witness2)
 k_fill
 refine _M.walk (l:=PySem.Challenge.rw_rowjudge_k49_refused) rfl rfl (λw h Y=>PySem.W.km_in_of Y) ?hnK ?hxs ?En ?Eo ?Ep ?F
 case hnK=>intro p;first|rfl|decide+kernel|with_unfolding_all rfl
 case hxs=>exact(_,rfl,)
 case En=>exact(_,rfl,)
 case Eo=>exact(_,rfl,)
 case Ep=>exact(_,rfl,)
 case F =>
  intro w mg fa h KX G hmg;refine' _M.all_mk (Y:=.mk ..) KX G hmg ?b ?u
  case b =>
   constructor
   all_goals try dsimp only
   iterate 21 (k_is)
   iterate 2 (exact _L.ExcCls.value (by first|rfl|with_unfolding_all rfl))
   iterate 2 (constructor <;> first|k_is|rfl|with_unfolding_all rfl)
   iterate 9 (constructor <;> first|k_is|rfl|with_unfolding_all rfl)
   iterate 9 (refine'((?_,?_,?_,?_,),?_,?_,?_,?_,) <;> first|k_is|rfl|with_unfolding_all rfl)
   refine' _L.ModT.mk ?lk ?sz ?vs
   (case lk=>k_is)
   (case sz=>decide)
   (case vs=>exact(.cons (_,rfl,) (.cons (_,rfl,) .nil)))
   refine' _L.ModT.mk ?lk ?sz ?vs
   (case lk=>k_is)
   (case sz=>decide)
   (case vs=>exact(.cons (_,rfl,) (.cons (_,rfl,) .nil)))
   iterate 18 (delta _L.NoAttr;k_is)
   iterate 25 (first|k_is|rfl|with_unfolding_all rfl)
   refine' _M.tab_ne (_L.tab_mk (qual := "row_form") (st:=_M.s_row_form) ?a1 ?l1 ?c1 ?e1) (_L.tab_mk (qual := "verdict_form") (st:=_M.s_verdict_form) ?a2 ?l2 ?c2 ?e2) ?ne
   (case a1|l1|c1=>k_is)
   (case e1=>rfl)
   (case a2|l2|c2=>k_is)
   (case e2=>rfl)
   (case ne=>first|decide|(intro h;cases h))
   refine' _M.tab_ne (_L.tab_mk (qual := "row_form") (st:=_M.s_row_form) ?a1 ?l1 ?c1 ?e1) (_L.tab_mk (qual := "holes") (st:=_M.s_holes) ?a2 ?l2 ?c2 ?e2) ?ne
   (case a1|l1|c1=>k_is)
   (case e1=>rfl)
   (case a2|l2|c2=>k_is)
   (case e2=>rfl)
   (case ne=>first|decide|(intro h;cases h))
   refine' _M.tab_ne (_L.tab_mk (qual := "row_form") (st:=_M.s_row_form) ?a1 ?l1 ?c1 ?e1) (_L.tab_mk (qual := "clashes") (st:=_M.s_clashes) ?a2 ?l2 ?c2 ?e2) ?ne
   (case a1|l1|c1=>k_is)
   (case e1=>rfl)
   (case a2|l2|c2=>k_is)
   (case e2=>rfl)
   (case ne=>first|decide|(intro h;cases h))
   refine' _M.tab_ne (_L.tab_mk (qual := "verdict_form") (st:=_M.s_verdict_form) ?a1 ?l1 ?c1 ?e1) (_L.tab_mk (qual := "holes") (st:=_M.s_holes) ?a2 ?l2 ?c2 ?e2) ?ne
   (case a1|l1|c1=>k_is)
   (case e1=>rfl)
   (case a2|l2|c2=>k_is)
   (case e2=>rfl)
   (case ne=>first|decide|(intro h;cases h))
   refine' _M.tab_ne (_L.tab_mk (qual := "verdict_form") (st:=_M.s_verdict_form) ?a1 ?l1 ?c1 ?e1) (_L.tab_mk (qual := "clashes") (st:=_M.s_clashes) ?a2 ?l2 ?c2 ?e2) ?ne
   (case a1|l1|c1=>k_is)
   (case e1=>rfl)
   (case a2|l2|c2=>k_is)
   (case e2=>rfl)
   (case ne=>first|decide|(intro h;cases h))
   refine' _M.tab_ne (_L.tab_mk (qual := "holes") (st:=_M.s_holes) ?a1 ?l1 ?c1 ?e1) (_L.tab_mk (qual := "clashes") (st:=_M.s_clashes) ?a2 ?l2 ?c2 ?e2) ?ne
   (case a1|l1|c1=>k_is)
   (case e1=>rfl)
   (case a2|l2|c2=>k_is)
   (case e2=>rfl)
   (case ne=>first|decide|(intro h;cases h))
  case u =>
   constructor
   all_goals try dsimp only
   iterate 57 (refine' _L.GF.mk ?a1 (_L.fun_mk ?l ?c ?k);(case a1=>k_is);(case l=>k_is);(case c=>k_is);(case k=>k_is))
   iterate 14 (refine' _L.MF.mk ?a1 ?a2 (_L.fun_mk ?l ?c ?k);(case a1=>k_is);(case a2=>k_is);(case l=>k_is);(case c=>k_is);(case k=>k_is))
   iterate 9 (refine' _L.KF.mk ?a1 ?a2 ?a3 ?a4 ?a5 (_L.fun_mk ?l ?c ?k);(case a1=>k_is);(case a2=>k_is);(case a3=>k_is);(case a4=>k_is);(case a5=>k_is);(case l=>k_is);(case c=>k_is);(case k=>k_is))
   iterate 8 (refine' _L.BF.mk ?a1 ?a2 ?a3 ?a4 (_L.fun_mk ?l ?c ?k);(case a1=>k_is);(case a2=>k_is);(case a3=>k_is);(case a4=>k_is);(case l=>k_is);(case c=>k_is);(case k=>k_is))
   iterate 4 (refine' _L.tfn_mk ?l1 ?l2 ?l3 ?l4 ?l5 ?l6;(case l1=>k_is);(case l2=>k_is);(case l3=>k_is);(case l4=>k_is);(case l5=>k_is);(case l6=>rfl))
   iterate 16 (k_is)
   iterate 7 (refine' _L.gv_mk ?a1 ?a2;(case a1=>k_is);(case a2=>exact(_,rfl,)))
