import PyProof.Rows.All
import Wide.All
import OpenK.AllK
import Wide.FinOn
import Lean
import PyProof.EqAt
import PyProof.EqKinds
import PyProof.TupleCall
import KE.KIntText
import PyProof.NeKinds
import KE.KTryMore
import KE.KIsAll
import PyProof.ZipIter
import KE.KRevIter
import PyProof.AttrMissHeap
import KE.KDictOf
import PyProof.DictUpdate
import PyProof.DictList
import PyProof.CollectIter
import PyProof.FactsAll.range_2
import PyProof.FactsAll.range_iterator_1
import KE.KNest
import KE.KLam
import PyProof.DictRoadsH
import PyProof.TupleKey
import KE.KMinKey
import PySem.Challenge.RW_rowjudge_k59_too_fine
open List renaming length_map→aa,mem_cons→af,mem_map→br,mem_cons_self→cf,length_append→cn,getD_eq_getElem?_getD→cO,getElem?_map→dr,mem_cons_of_mem→dy,size_toArray→dG,length_cons→en,map_append→fj,take_length→fm,mem_singleton→fo,length_take→fI,getElem?_append_left→fS,mem_range→gd,append_assoc→hZ,forall_mem_cons→ia,mem_append_right→ik,length_singleton→il,mem_append→iH,append_nil→iI,map_cons→iJ,take_of_length_le→ja,forall_mem_nil→ji,not_mem_nil→jj,getElem?_of_mem→jk,getElem?_append_right→jy,all_eq_true→jL,eq_nil_of_length_eq_zero→jM,take_append_drop→jN,range_succ→jO,mem_flatMap→jP,length_range→jQ,mem_filter→ke,mem_append_left→kn,getElem?_set_self→lg,mem_iff_getElem→lp,cons_append→lz,length_zipWith→lO,filterMap_cons→lP,nodup_cons→lX,getElem?_eq_none→lY,find?_cons_of_pos→mv,find?_cons_of_neg→mx,getElem?_zipWith→my,dropLast_concat_getLast→mz,getElem?_set_ne→nt,length_drop→ny,take_add_one→nF,pairwise_cons→nI,take_sublist→nL,sum_append→nS,nodup_nil→nY,drop_drop→n4,map_map→n7,getElem?_zip_eq_some→ov,filter_append→oD,getElem?_tail→oI,length_replicate→oU,nodup_append→o3,pairwise_iff_getElem→pe,pairwise_lt_range→pf,ext_getElem?→pA,map_fst_zip→pC,sum_cons→pE,pairwise_map→qS,foldl_append→qT,flatMap_cons→qU,of_mem_zip→q0,length_set→q5,map_nil→ri,flatMap_append→ro,drop_sublist→rz,take_take→rA,drop_zero→sT,foldl_cons→sX,set_append_right→sY,drop_left→tu,length_filter_le→tw,filter_cons→t5,length_tail→uA,getElem_inj→uG,any_eq_true→uM,merge_right→uN,mem_flatten→u5
open Nat renaming le_refl→vk,ne_of_lt→vl,le_trans→vr,zero_le→v3,lt_of_lt_of_le→v5,le_of_lt→wx,ne_of_gt→wz,lt_succ_of_lt→wI,lt_irrefl→w4,le_succ→w5,le_add_right→xc,lt_succ_self→yl,lt_of_le_of_ne→ym,lt_of_le_of_lt→yp,zero_add→yP,sub_le→yS,min_eq_left→yT,add_assoc→yU,le_of_eq→yV,add_sub_cancel'→zb,one_pos→zw,le_of_lt_succ→zz,add_le_add_left→zA,not_lt_zero→zE,lt_of_succ_lt→zS,zero_lt_of_lt→AU,mul_le_mul→A8,sub_self→Bu,lt_of_not_le→Bx,le_sub_one_of_lt→BI,sub_lt→Cp,succ_pos→CB,lt_trans→CD,pos_of_ne_zero→Dg,le_of_not_lt→DA,le_of_succ_le→DO,succ_le_succ→D0,lt_or_eq_of_le→EF,lt_trichotomy→EX,min_le_right→Fb,le_min→Ff,le_antisymm→Fg,succ_mul→Fl,lt_or_ge→Fn,zero_max→Fv,pow_succ→FU
open Array renaming length_toList→FV,getElem_mem→F0,getElem?_eq_getElem→Gk,toList_append→GG,getElem?_toList→GO,toList_push→GX,mem_toList_iff→G6,forIn_toList→Hf,toList_extract→Hh
open Bool renaming and_eq_true→Iv,eq_false_iff→Jo,false_eq_true→Jy
open Option renaming map_eq_some_iff→JB,isSome_iff_exists→JG,getD_none→JI
open Int renaming toNat_natCast→JS,not_lt→JT,emod_nonneg→JU,one_mul→JV,emod_lt_of_pos→JW,natCast_mul→JX,add_mul→JY
open PySem renaming wpAny_bind→JZ,wpAny_pure→Ka,wpAny_holding→Kb,wpAny_Call_Name_kw→Kc,Value→Kd,World→Ke,Program→Kf,pyHash→Kg,eqBool→Kh,Addr→Ki,Heap→Kj,sizeLine→Kk,sysModules→Kl,entryOfKey→Km,intKind→Kn,mainGlobals→Ko,builtinsNs→Kp,bootBuiltins→Kq,Around→Kr,Shared→Ks,Scope→Kt,GenState→Ku,Model→Kv,wpAny→Kw,storeName→Ky,Expr→Kz,isTrue→KA,backTo→KC,starEach→KD,Stmt→KG,wpAny_mono→KH,wpAny_Name→KI,wpAny_loadName_local→KJ,wpAny_loadName_cell→KL,standAt→KN,wpAny_truthy_bool→KO,wpAny_execs_nil→KP,wpAny_execs_cons→KQ,swapsWith→KR,wpAny_Expr_any→KS,assignEach→KU,Operator→KW,wpAny_assign_Name→KY,wpAny_standAt→KZ,PassesOwn→K0,wpAny_passesOwn→K1,pyNext→K2,letOwnedTupleGo→K3,pyIter→K4,rawInt→K5,wpAny_pyNext_list_item→K6,wpAny_pyNext_list_end→K7,IsRangeIter→K8,Walks→K9,wpAny_pyNext_range_end→La,wpAny_pyIter_rangeiter→Lb,wpAny_pyIter_list→Lc,wpAny_pyIter_range→Ld,Builtin→Le,foldedSetIterable→Lf,binaryOp→Lg,IntMulOk→Lh,intBits_le_64→Li,compareOp→Lj,CmpOp→Ll,behindInMarks→Lm,sizeLine_eq→Ln,DictEntry→Lo,getMethod→Lp,Result→Lq,codeAny→Lu,attributeBase→Lv,recursionLimit→Lw,cLine→Ly,Code→Lz,FuncData→LA,BindsTo→LB,bindArgs→LC,wpAny_call→LD,codeAny_mono→LF,Keyword→LG,NameKind→LH,bindL→LI,bindC→LJ,cellsFrom→LK,Arguments→LL,concat_meets→LM,noFill_tuple_add→LN,seq_tuple_add→LO,IsPart→LP,wpAny_field→LQ,getItem→LR,wpAny_callSpecial?_slot→LS,wpAny_call_entry→LU,wpAny_typeOf→LW,wpAny_newObj_type→LX,evalPart_none→LY,typeLookup→LZ,seqIndex_of→L0,slot_list_getitem→L1,sliceBounds→L3,call_list_seq→L4,typeOf→L5,backToKw→L6,keywordEach→L7,call_meets→L8,Params→L9,compEnvC→Ma,closureFor→Mb,closureFor_none→Mc,noteFrame→Md,newList→Me,newFunctionEnv→Mf,wpAny_newFunctionEnv→Mg,codeAny_compStart_list→Mh,eval_ListComp→Mi,wpAny_comprehension_free→Mj,compPost→Ml,exec_Assign_Name_used→Mm,setField→Mn,wpAny_setField→Mo,setFlight→Mp,wpAny_typeOf_ref→Mq,codeAny_call_builtin→Mr,wpAny_ite_false→Mt,codeAny_builtin→Mu,checkBuiltinCall→Mv,argsOk→Mw,wpAny_of_eq→Mx,getAttr?→Mz,wpAny_attempt→MA,wpAny_ite_true→MB,slotArgs→MC,wpAny_rule→MD,callWith→ME,WalksS→MG,scanBound→MH,Moved→MI,setAdd→MJ,plainId_quiet→MK,check_set_init_1→ML,wpAny_runValue→MM,codeAny_of_tree→MN,weight_type_call_type→MO,SetTable→MP,layNew→MQ,relayAll→MR,pickOrder→MS,intKind_is→MT,wpAny_storeSet_of→MU,fits_of_scanBound→MV,wpAny_setState_of→MW,wpAny_askSetting→MX,typeLookup_type→MY,builtinLookup_eq_fast→MZ,isSubtype_type→M0,entryFor→M3,entryFor_of_fast→M4,entryFor_alias→M5,drawOrder→M6,setNext→M7,wpAny_fieldsOf→M8,wpAny_setEntries_of→M9,wpAny_setField_rec→Na,newExc→Nb,newTuple→Nc,firstArgMember→Nd,raiseNew→Nf,wpAny_handled→Ng,wpAny_throw→Nh,wpAny_isInstance→Ni,isSubtype_stop→Nj,wpAny_seqItems→Nk,wpAny_pyIter_slot→Nl,Setting→Nm,setsByText→Nn,wpAny_newTuple→Np,wpAny_setEpoch_of→Nq,wpAny_specialOf→Nr,updateSeq→Nt,wpAny_updateSeq→Nu,intItems→Nv,numAt_eq→Nw,IsPair→Nx,ZipApart→Ny,wpAny_pyNext_zip_item→Nz,wpAny_pyNext_zip_end→NA,wpAny_pyIter_zip→NB,wpAny_nextOf_list_item→NC,isInstance→ND,wpAny_nextOf_list_end→NF,callType_codes→NG,wpAny_letGo→NH,wpAny_newList→NI,wpAny_pyIter_enum→NJ,getattributeRaised→NL,callerA→NM,codeAmong→NN,seqItems?→NO,IsItemIter→NP,IsTupleKey→NQ,tupleKeyHash→NR,wpAny_tupleItemsOf→NS,wpAny_forIn_list→NU,wpAny_ret_mkInt→NV,isSubtype_tuple_tuple→NW,eqIsQuiet→NX,atKey_none_of_get→NY,wpAny_dictEntries→NZ,wpAny_notOrdered_dict→N0,wpAny_dictEpoch→N1,IsItemIterOut→N2,wpAny_typeNameOfWhole_itemiter→N3,wpAny_typeNameOf_itemiter→N4,wpAny_isOneOf_itemiter→N5,wpAny_tryCatch→N6,boot_len→N7
open Option renaming some→N8,none→N9
open Bool renaming true→Oa,false→Ob
open Decidable renaming decide→Oc
open PySem.Heap renaming get?_push_of_some→am,lt_size→bi,get?_push_size→bn,size_push→ln,get?_update_other→mo,get?_update_self→pc,SameBut→rc,size_update→wE,get?_push_ne→L2,get?_none_of_le→PH,get?_update_ne→PV,ExtBut→QK
open PySem.W renaming Frag→bd,tabIn→lc,nsIn→li,kla_obj→ls,mg_none_of→re,mg_of→wn,findIn→wT,kia_one→AC,callWith_K→AT,keepIn→FS,emptyDict→Gc,kitOne→KT,CodeHd→ON,instObj→OX,specialIn→O2,fnOf→Pj,looks_findIn→Py,mroIn→PY,codeIn→PZ,methodCall_KW→Qk,plainGet→Qz,envX→QA,plainGet_of→QH,methodObj→Rs,lookIn→Rt,hasDictIn→Ru
open Bool renaming false_ne_true→bv,eq_iff_iff→tz,and_false→FM,false_and→Ow,not_true→OF
open Option.some renaming inj→ci
open Or renaming inl→cr,inr→v6
open List renaming range→db,zipWith→kt,replicate→Db,lookup→EQ,nodup_iff_pairwise_ne→FB,getElem?_eq_none_iff→Go,drop_eq_getElem_cons→GE,getElem?_take_of_lt→KB,length→NE,filter_cons_of_pos→On,filter_cons_of_neg→Op,findIdx?_eq_some_iff_getElem→Os,getElem_mem→OC,lookup_eq_none_iff→O5,flatMap_singleton→Pa,eq_nil_or_concat→Pg,concat_eq_append→Ph,mem_of_mem_take→Pq,mem_of_mem_drop→Ps,reverse_append→Px,getElem_take→PK,getElem_drop→PM,take_append_of_le_length→P4,drop_append_of_le_length→P5,zip→Qh,length_eraseIdx_of_lt→Qi,take_append_getElem→Qy,length_eq_zero_iff→QD,getElem?_replicate→QE,drop_of_length_le→QG,mem_iff_getElem?→QO,getElem?_toArray→QP,append_inj_left'→QQ,set_append_left→Q2,mem_of_mem_tail→Q4,getLast?_concat→Q5,map_congr_left→Rb,getElem_of_mem→Rc,flatten_append→Re,set_cons_succ→Ro,mem_filterMap→Rp,getElem_range→Rq,getElem?_take→Rr,flatten_cons→RA
open PySem.Value renaming ref→dL,none→lv,type→xz,str→P6,isInt→Qt,int→Qu,bool→QU
open PySem.Obj renaming mapSeq→im,mapFields→OH,data_mapFields→OV,isFreed_of_fields→Pk,putSet→PB
open False renaming elim→io
open Int renaming le_refl→lf,le_trans→zn,lt_of_lt_of_le→Oq,mul_le_mul_of_nonneg_right→OE,le_of_lt→OS,ne_of_lt→Pf,natCast_nonneg→PD,fdiv_eq_ediv_of_nonneg→Qs,zero_add→QR,lt_of_le_of_lt→RC
open PySem.Around renaming under_plainId→lm
open PyProof.Rows renaming boot_isinstance→lw,callWith_type1→nw,boot_list→GT,slot_tuple_getitem→IN,boot_set→KM,boot_tuple→OQ,boot_min→OY,boot_max→OZ,recsOf→O4,boot_sorted→PJ,boot_zip→P1,boot_sum→P2,boot_int→P3
open PySem.SetTable renaming below→o0,grown→Pu
open PySem.F renaming called_set→sw,slot_dict_itemiterator_next→sK,plain_extend_loop→pi,slot_tuple_hash→O3,slot_list_getattribute→O6,slot_zip_next→Po,slot_tuple_eq→Pp,args_dict_itemiterator_next_1→P7,entry_dict_itemiterator_next→Qa,slot_dict_itemiterator_iter→Qe,slot_dict_items_iter→Q7,sub_list_frozenset→Rx
open PySem.PassesOwn renaming never→sB
open PySem.Heap.SameBut renaming update→v4,refl→QJ
open PySem.Builtin.Int renaming intBits→wp
open PySem.Builtin.Range renaming rangeSize→wr,rangeFitsLong→Qg,small→Rh
open PyProof.Rows.F renaming plain_set_update_loop→ww,entry_set_update_loop→Ov
open PySem.Builtin.Tuple renaming tupleHashOf→wS,tupleExact→OD,tupleItemsOf→Qm
open PySem.Builtin.SmallTypes renaming ownedTupleIsFree→xL,nextOf→My
open PySem.Builtin.List renaming listExtendWith→Do,listSameRef→OI,listTooLong→Pl,listLengthHint→Qp,listTouch→QV,listItems→QW
open Ne renaming symm→Fk
open PySem.Shared renaming TypeIs→Ot
open Array renaming getElem?_eq_none→Ou,perm_iff_toList_perm→OT,getElem?_eq_some_iff→OU,getElem?_setIfInBounds_ne→PN,toList_setIfInBounds→Qd,toList→QF,toList_reverse→QS,getD→Rf,toList_map→RD,toList_inj→RE
open PySem.SetTable.below renaming go→Ox
open PySem.Builtin.Slice renaming slicePlaces→Oy,sliceAdjust→O9,sliceApplied→Qo
open ForInStep renaming yield→OA
open True renaming intro→OB
open PySem.SeqAt.EqAt renaming of_refs→OG,str_int→Qw,int_str→Qx,same→QI
open PySem.Builtin.Getset_descriptor renaming descrCheckInstance→OK,descrOwnerAndName→OM,descrNameAndClass→Ri,descrGetter→Rj,descrGetArgs→Rk
open Nat renaming sub_one_lt_of_le→OL,add_lt_add_left→OR,mod_two_eq_zero_or_one→OW,sub_pos_of_lt→O0,le_succ_of_le→O1,le_mul_of_pos_right→O7,exists_eq_add_of_le→O8,testBit_lt_two_pow→Pc,not_lt→Pd,pow_le_pow_right→Pt,le_add_left→Qc,le_of_succ_le_succ→QN,le_of_sub_eq_zero→QY,add_lt_of_lt_sub'→QZ,add_le_of_le_sub'→Q1,lt_sub_of_add_lt→Ra,sub_le_sub_left→Rm,sub_add_cancel→Rz
open PySem.Builtin.Dict_items renaming ownsTuple→OO,ownedTupleIsFree→Pm,ownedTupleFields→Pn,pairFromOwner→Pv
open PySem.Builtin.Str renaming occurrences→OP
open List.Pairwise renaming nil→Pe,imp→Qj
open PyProof.Rows.SortSt renaming mk'→Pw
open PySem.Calls renaming spliced_cons→Pz,spliced_nil→PC,Name_function_global→Qb,call_function_entry→Qf,callWith_builtin→QC,evalArgs_plain→QL
open Sum renaming inr→PP,inl→PQ
open PySem.W.WData renaming int→PR,layableAll→Rv
open PySem.Builtin.Frozenset renaming updateFrom→PU
open Classical renaming byContradiction→PX
open PySem.Builtin.Builtins renaming bindParams→P0
open PySem.Code renaming quiet_builtin→P8
open PySem.SeqAt renaming EqAt→P9
open PySem.EntryCells renaming newEntry→Ql
open PyProof renaming noPylong_small→Qr
open PySem.SetTable.probe renaming go→Qv
open PySem.SeqAt.RcAt renaming tuples→QB
open PySem.Builtin.Dict renaming updateFrom→QM,showsAll→Q9
open PySem.Walks renaming list→QT
open List.cons renaming injEq→Q6
open PyProof.Rows.IsTup renaming new→Ry
set_option Elab.async false
set_option linter.all false
set_option maxRecDepth 100000
set_option maxHeartbeats 4000000
set_option bootstrap.genMatcherCode false
set_option compiler.extract_closed false
local macro_rules(kind:=Lean.Parser.Term.tuple)|s=>do
 let a:=s[1][2].getArgs;let n:=Lean.Syntax.node .none
 if a.size%2==0&&a.size>0 then return n `Lean.Parser.Term.anonymousCtor #[.atom .none "⟨",n `null (#[s[1][0],s[1][1]]++a.pop),.atom .none "⟩"]
 Lean.Macro.throwUnsupported
local macro_rules|`(↑$x)=>`(some (.ref $x))
local macro_rules|`(⇑$x)=>`(($x).length)
local macro_rules|`(↥$x)=>`(($x).heap.objs.size)
local macro_rules|`(term|∅)=>`(by first|lia|(dsimp only;lia))
local macro_rules|`(term|⋯)=>`(by decide)
local macro_rules|`(~~~$x)=>`(by simpa using $x)
local macro_rules|`(~~~0)=>`(by decide+kernel)
abbrev Oo:=@List
open Lean in
local macro_rules|`(tactic|let $d:letDecl)=>do
 let p:=d.raw[0]
 if p.isOfKind `Lean.Parser.Term.letPatDecl then
  let n:=Syntax.node .none
  let g:=λe:Array Syntax=>n `Lean.Parser.Tactic.rcasesPat.tuple #[.atom .none "⟨",n `null (e.mapIdx λj p=>if j%2==1 then p else n `Lean.Parser.Tactic.rcasesPatLo #[n `Lean.Parser.Tactic.rcasesPatMed #[n `null #[p]],n `null #[]]),.atom .none "⟩"]
  let q:=p[0].rewriteBottomUp λs=>match s with|.ident ..=>n `Lean.Parser.Tactic.rcasesPat.one #[s]|.node i k a=>if k==`Lean.Parser.Term.hole then n `Lean.Parser.Tactic.rcasesPat.ignore a else if k==`Lean.Parser.Term.anonymousCtor then g a[1]!.getArgs else if k==`Lean.Parser.Term.tuple then g (#[a[1]![0],a[1]![1]]++a[1]![2].getArgs) else s|_=>s
  return n `Lean.Parser.Tactic.obtain #[.atom .none "obtain",n `null #[n `Lean.Parser.Tactic.rcasesPatMed #[n `null #[q]]],n `null p[2][0].getArgs,n `null #[.atom .none ":=",n `null #[p[4]]]]
 else `(tactic|have $d:letDecl)
local macro_rules|`(tactic|calc $x:term)=>`(tactic|refine $x)
open Lean in
local macro_rules(kind:=Lean.Parser.Command.declaration)|s=>do
 let k:=s[1].getKind
 if s[0][1].isNone&&s[0][4].isNone&&(k==``Lean.Parser.Command.definition||k==``Lean.Parser.Command.abbrev||k==``Lean.Parser.Command.instance) then return s.setArg 0 (s[0].setArg 4 (.node .none `null #[.node .none ``Lean.Parser.Command.noncomputable #[.atom .none "noncomputable"]]))
 Macro.throwUnsupported
open Lean in
local macro_rules(kind:=Lean.Parser.Command.declaration)|s=>do
 let d:=s[1]
 if d.getKind==``Lean.Parser.Command.definition then
  if let SourceInfo.original _ _ t _:=d[0].getHeadInfo then
   if t.toString.length==1 then
    let n:=Syntax.node .none
    return s.setArg 1 (n ``Lean.Parser.Command.theorem #[.atom .none "theorem",d[1],n ``Lean.Parser.Command.declSig #[d[2][0],d[2][1][0]],d[3]])
 Macro.throwUnsupported
abbrev Oe:=@if_neg
abbrev Of:=@if_pos
abbrev Og:=@absurd
abbrev Oh:=@decide_eq_true
abbrev Oi:=@decide_eq_false
abbrev Oj:=@of_decide_eq_true
abbrev Ol:=@congrArg
abbrev Om:=@decide_eq_true_iff
local macro_rules|`(term|s!$x)=>do
 let some t:=x.raw.getArgs[0]? | Lean.Macro.throwUnsupported
 let some v:=t.isInterpolatedStrLit? | Lean.Macro.throwUnsupported
 `(PySem.Str.ofString $(Lean.quote v))
def JP{α:Type _}{l:Oo α}{i:Nat}(h:i<⇑l):l[i]?=N8 l[i]:=List.getElem?_eq_getElem h
def JQ{α:Type _}{a:α}{l:Oo α}{i:Nat}:l[i]?=N8 a ↔ ∃h:i<⇑l, l[i]=a:=List.getElem?_eq_some_iff
def JR{α:Type _}{l:Oo α}{i:Nat}{a:α}(e:l[i]?=N8 a):a∈l:=List.mem_of_getElem? e
namespace _L
def U{α:Sort _}{a:α}:a=a:=rfl
open PySem PySem.Spec PyProof.Rows
abbrev Key:=Sum Int Str
def  Co:Key->Kd->Bool
 | .inl k,v=>Qt k v
 | .inr x,v=>Kd.isStrOf x v
def  Gj(w:Ke):Key->Int
 | .inl k=>hashInt k
 | .inr x=>hashStr w x
def bZ:∀{k:Key}{v:Kd},Co k v=Oa->(∃i t,k=PQ i/\v=Qu i t)\/(∃x t,k=PP x/\v=P6 x t)
 | .inl i,v,h=>by
  let(t,e):=Kd.isInt_shape (k:=i) (v:=v) h;exact .inl (i,t,U,e,)
 | .inr x,v,h=>by
  let(t,e):=Kd.isStrOf_shape (x:=x) (v:=v) h;calc .inr (x,t,U,e,)
def C0(a b:Int):decide ((PQ a:Key)=PQ b)=(a == b):=by
 by_cases e:a=b
 .subst e;simp
 .let h:¬ (PQ a:Key)=PQ b:=λq=>e<|Sum.inl.inj q
  rw[Oi h];calc(beq_eq_false_iff_ne.mpr e).symm
def C1(a b:Str):decide ((PP a:Key)=PP b)=Oc (a=b):=by
 by_cases e:a=b
 .subst e;simp
 .let h:¬ (PP a:Key)=PP b:=λq=>e<|Sum.inr.inj q
  rw[Oi h,Oi e]
def C2(a:Int)(b:Str):decide ((PQ a:Key)=PP b)=false:=Oi<|λq=>nomatch q
def C3(a:Str)(b:Int):decide ((PP a:Key)=PQ b)=false:=Oi<|λq=>nomatch q
def  qV(prog:Kf)(w:Ke):PySem.KeyKind prog w Key where
 is:=Co
 hash:=Gj w
 inj:=λv a b l f=>by
  rcases bZ l with⟨i,t,rfl,rfl⟩|⟨x,t,rfl,rfl⟩
  .rcases bZ f with⟨j,u,rfl,e⟩|⟨y,u,rfl,e⟩
   .injection e with c _;rw[c]
   .exact nomatch e
  .rcases bZ f with⟨j,u,rfl,e⟩|⟨y,u,rfl,e⟩
   .exact nomatch e
   .injection e with c _;rw[c]
 byValue:=λk v h=>by
  rcases bZ h with⟨i,t,rfl,rfl⟩|⟨x,t,rfl,rfl⟩ <;> rfl
 pyHash:=λd h=>by
  rcases bZ d with⟨i,t,rfl,rfl⟩|⟨x,t,rfl,rfl⟩
  .exact wpAny_pyHash_int h
  .exact wpAny_pyHash_str h
 eqBool:=λg d h=>by
  rcases bZ g with⟨i,t,rfl,rfl⟩|⟨x,t,rfl,rfl⟩
  .rcases bZ d with⟨j,u,rfl,rfl⟩|⟨y,u,rfl,rfl⟩
   .rw[C0]at h;exact wpAny_eqBool_int h
   .rw[C2]at h;exact Qx i t y u _ _ _ _ h
  .rcases bZ d with⟨j,u,rfl,rfl⟩|⟨y,u,rfl,rfl⟩
   .rw[C3]at h;exact Qw x t j u _ _ _ _ h
   .rw[C1]at h;exact wpAny_eqBool_str h
 «strs»:=λk x t v h=>by
  rcases bZ h with⟨i,u,rfl,e⟩|⟨y,u,rfl,e⟩
  .exact nomatch e
  .injection e with c _;subst c;cases v <;> rfl
inductive V where
 |non|bl (b:Bool)|int (i:Int)|str (x:Str)|byt (b:Array UInt8)|flt (b:UInt64)|ref (a:Ki)|ty (n:String)
 deriving DecidableEq
open V renaming int→ut,ref→mt,str→v0
def  RelV:V->Kd->Prop
 | .non,u=>u=lv
 | .bl b,u=>u=QU b
 | .int i,u=>∃t,u=Qu i t
 | .str x,u=>∃t,u=P6 x t
 | .byt b,u=>∃t,u=Kd.bytes b t
 | .flt b,u=>∃t,u=Kd.float b t
 | .ref a,u=>u=dL a
 | .ty n,u=>u=xz n
abbrev Vals:Oo V->Oo Kd->Prop:=Paired RelV
def Vals.length{xs:Oo V}{us:Oo Kd}(r:Vals xs us):⇑xs=⇑us:=Paired.length r
def Vals.get:∀{xs:Oo V}{us:Oo Kd}{i:Nat}{x:V},Vals xs us->xs[i]?=N8 x->∃u,us[i]?=N8 u/\RelV x u
 |_,_,_,_,.nil,e=>by simp at e
 |_,_,0,_,.cons r _,e=>by simp at e;subst e;exact(_,U,r,)
 |_,_,i+1,x,.cons _ t,e=>by
  let(u,b,a):=Vals.get (i:=i) (x:=x) t<|~~~e;calc(u,~~~b,a,)
def Vals.set{x:V}{u:Kd}(r:RelV x u):∀{xs:Oo V}{us:Oo Kd}(i:Nat),Vals xs us->Vals (xs.set i x) (us.set i u)
 |_,_,_,.nil=>.nil
 |_,_,0,.cons _ t=>.cons r t
 |_,_,i+1,.cons q t=>.cons q<|Vals.set r i t
def Vals.append:∀{xs ys:Oo V}{us ws:Oo Kd},Vals xs us->Vals ys ws->Vals (xs++ys) (us++ws)
 |_,_,_,_,.nil,s=>s
 |_,_,_,_,.cons r t,s=>.cons r<|Vals.append t s
def Vals.take:∀{xs:Oo V}{us:Oo Kd}(n:Nat),Vals xs us->Vals (xs.take n) (us.take n)
 |_,_,0,_=>.nil
 |_,_,_+1,.nil=>.nil
 |_,_,n+1,.cons r t=>.cons r<|Vals.take n t
def Vals.drop:∀{xs:Oo V}{us:Oo Kd}(n:Nat),Vals xs us->Vals (xs.drop n) (us.drop n)
 |_,_,0,r=>r
 |_,_,_+1,.nil=>.nil
 |_,_,n+1,.cons _ t=>Vals.drop n t
def  pD:Option V->Option Kd->Prop
 |some v,N8 u=>RelV v u
 |none,N9=>True
 |_,_=>False
def  KV{a:Type}:Oo (a×V)->Oo (a×Kd)->Prop:=Paired λ(p:a×V)(q:a×Kd)=>p.1=q.1/\RelV p.2 q.2
def  kV:Key->V
 | .inl i=>.int i
 | .inr x=>.str x
inductive HO where
 |lst (xs:Oo V)
 |tup (xs:Oo V)
 |dK (kvs:Oo (Key×V))|dT (kvs:Oo (Oo Key×V))
 |set (S:Int->Bool)(n:Nat)
 |ins (C dx:Ki)(fs:Oo (Str×V))
 |own (x:Ki)
 |xd (fs:Oo (Str×V))
 |met (f x:Ki)
 |rng (lo hi:Int)
 |frz (o:Obj)(u:HO)
 |tbl (ps:Array Kd)
 |ext (φ:Kj->Prop)
abbrev Hp:=Ki->Option HO
def  upd(H:Hp)(a:Ki)(o:HO):Hp:=λb=>if b=a then N8 o else H b
def ag{H:Hp}{a:Ki}{o:HO}:upd H a o a=N8 o:=by unfold upd;rw[Of U]
def av{H:Hp}{a b:Ki}{o:HO}(h:b≠a):upd H a o b=H b:=by unfold upd;rw[Oe h]
def Ba{H:Hp}{a:Ki}{o u:HO}:upd (upd H a o) a u=upd H a u:=by
 funext b;unfold upd;split <;> rfl
def js{H:Hp}{a b:Ki}{o u:HO}(h:H a=N8 o)(h':H b=N8 u)(d:o≠u):a≠b:=by
 intro e;subst e;rw[h]at h';calc d<|ci h'
def aV{H:Hp}{a b:Ki}{o:HO}(h:H a=N8 o)(h':H b=N9):a≠b:=by
 intro e;subst e;rw[h]at h';cases h'
section
variable(P:Kf)(w:Ke)
def  bO(H:Hp)(h:Kj)(a:Ki):HO->Prop
 | .lst xs=>⇑xs<=Kk/\∃(b:Oo Kd)(n:Nat),Vals xs b/\h.get? a=N8 { cls:=.type "list",data:=.seq b.toArray n }
 | .tup xs=>⇑xs<=Kk/\∃b:Oo Kd,Vals xs b/\IsTup h a b.toArray
 | .dK kvs=>⇑kvs<=Kk/\(a == Kl)=Ob/\∃vs,KV kvs vs/\h.DictOf (qV P w) a vs
 | .dT kvs=>⇑kvs<=Kk/\(a == Kl)=Ob/\∃xs:Oo (Oo Key×Ki×Kd),
   Paired (λ(p:Oo Key×V)(q:Oo Key×Ki×Kd)=>p.1=q.1/\H q.2.1=N8 (.tup<|p.1.map kV)/\RelV p.2 q.2.2) kvs xs /\
   ∃o g i,h.get? a=N8 o/\o.ExactDict/\o.data=.dict g i/\g.toList=xs.map (Km<|tupleKind<|qV P w)/\(xs.map (·.1)).Nodup
 | .set S n=>h.SetOf (Kn P w) a S n
 | .ins C dx fs=>H dx=N8 (.own a)/\⇑fs<=1000/\dx≠a/\h.get? a=N8 (OX C dx) /\
   ∃c,h.Ns1 dx c/\(∀f,pD (fs.lookup f)<|c f)/\PySem.Within c (fs.map (·.1))
 | .own _=>∃o,h.get? a=N8 o
 | .xd fs=>∃c,h.Ns1 a c/\∀f,pD (fs.lookup f) (c f)
 | .rng lo hi=>∃t u v,h.get? a=N8 { cls:=.type "range",data:=.fields #[.int lo t,.int hi u,.int 1 v] }
 | .frz o u=>h.get? a=N8 o/\bO H h a u
 | .tbl ps=>h.get? a=N8 { cls:=.none,data:=.fields ps }
 | .met f x=>h.get? a=N8 (Rs (.ref f)<|.ref x)
 | .ext φ=>φ h/\(∃o,h.get? a=N8 o)/\∀e d:Kj,φ e->(∀o,e.get? a=N8 o->d.get? a=N8 o)->φ d
def  HOk(H:Hp)(h:Kj):Prop:=∀a o,H a=N8 o->bO P w H h a o
end
variable{P:Kf}{w:Ke}{H H':Hp}{h h':Kj}{a:Ki}
section
variable{o:HO}
def bO.lt(x:bO P w H h a o):a<h.objs.size:=by
 cases o with
 |lst c=>obtain⟨_,_,_,_,e⟩:=x;exact bi e
 |tup c=>obtain⟨_,_,_,p⟩:=x;exact p.lt
 |dK b=>obtain⟨_,_,_,_,o,_,_,e,_⟩:=x;exact bi e
 |dT b=>obtain⟨_,_,_,_,o,_,_,e,_⟩:=x;exact bi e
 |set S n=>obtain⟨o,_,_,_,e,_⟩:=x;exact bi e
 |ins C j fs=>obtain⟨_,_,_,e,_⟩:=x;exact bi e
 |own y=>obtain⟨_,e⟩:=x;exact bi e
 |xd fs=>obtain⟨_,⟨_,_,_,e,_⟩,_⟩:=x;exact bi e
 |rng lo hi=>obtain⟨_,_,_,e⟩:=x;exact bi e
 |frz i u=>obtain⟨e,_⟩:=x;exact bi e
 |tbl g=>exact bi (show h.get? a=N8 _ from x)
 |met f y=>exact bi (show h.get? a=N8 _ from x)
 |ext d=>obtain⟨_,⟨_,e⟩,_⟩:=x;calc bi e
def Paired.mapP{α c:Type}{F G:α->c->Prop}:∀{l₁:Oo α}{l₂:Oo c},Paired F l₁ l₂->(∀a b,F a b->G a b)->Paired G l₁ l₂
 |_,_,.nil,_=>.nil
 |_,_,.cons r t,f=>.cons (f _ _ r)<|Paired.mapP t f
def bO.stay(x:bO P w H h a o)(k:∀b u,(b=a\/H b=N8 (.own a))->h.get? b=N8 u->h'.get? b=N8 u)
  (J:∀b,H b=N8 (.own a)->H' b=N8 (.own a))(I:∀b xs,H b=N8 (.tup xs)->H' b=N8 (.tup xs)):bO P w H' h' a o:=by
 induction o with
 |lst xs=>obtain⟨z,l,n,r,e⟩:=x;exact(z,l,n,r,k _ _ (.inl U) e,)
 |tup xs=>obtain⟨z,l,r,g,e,c⟩:=x;exact(z,l,r,g,k _ _ (.inl U) e,c,)
 |dK A=>obtain⟨z,y,E,r,g,i,j,e,c⟩:=x;exact(z,y,E,r,g,i,j,k _ _ (.inl U) e,c,)
 |dT A =>
  let(z,y,xs,r,g,i,j,e,c):=x;exact(z,y,xs,Paired.mapP r λp q z=>(z.1,I _ _ z.2.1,z.2.2,),g,i,j,k _ _ (.inl U) e,c,)
 |set S n=>obtain⟨g,i,j,t,e,c⟩:=x;exact(g,i,j,t,k _ _ (.inl U) e,c,)
 |ins C M fs =>
  let(d,z,F,e,s,(m,i,j,K,c),r):=x;exact(J _ d,z,F,k _ _ (.inl U) e,s,(m,i,j,k _ _ (.inr d) K,c,),r,)
 |own y=>obtain⟨g,e⟩:=x;exact(g,k _ _ (.inl U) e,)
 |xd fs=>obtain⟨s,⟨m,i,j,e,c⟩,r⟩:=x;exact(s,(m,i,j,k _ _ (.inl U) e,c,),r,)
 |rng lo hi=>obtain⟨t,u,v,e⟩:=x;exact(t,u,v,k _ _ (.inl U) e,)
 |frz g u G=>obtain⟨e,q⟩:=x;exact(k _ _ (.inl U) e,G q,)
 |tbl D =>
  let e:h.get? a=N8 { cls:=.none,data:=.fields D }:=x;show h'.get? a=N8 { cls:=.none,data:=.fields D };exact k a _ (.inl U) e
 |met f y =>
  let e:h.get? a=N8 (Rs (.ref f)<|.ref y):=x;show h'.get? a=N8 (Rs (.ref f)<|.ref y);exact k a _ (.inl U) e
 |ext L=>obtain⟨p,⟨o,e⟩,B⟩:=x;calc(B _ _ p λo q=>k _ _ (.inl U) q,(o,k _ _ (.inl U) e,),B,)
def HOk.lt(x:HOk P w H h)(e:H a=N8 o):a<h.objs.size:=(x a o e).lt
def HOk.fresh(x:HOk P w H h)(e:h.objs.size<=a):H a=none:=by
 cases q:H a with
 |none=>rfl
 |some u=>calc Og (v5 (x.lt q) e) (w4 _)
def HOk.kept(x:HOk P w H h)(k:∀b u,h.get? b=N8 u->h'.get? b=N8 u):HOk P w H h':=λa o e =>
 (x a o e).stay (λb u _ q=>k b u q) (λ_ q=>q) λ_ _ q=>q
def HOk.laid(x:HOk P w H h)(k:∀b u,h.get? b=N8 u->h'.get? b=N8 u)(g:h.objs.size<=a)(new:bO P w (upd H a o) h' a o):HOk P w (upd H a o) h':=λb u e=>by
 let d:=x.fresh g;by_cases f:b=a
 .subst f;rw[ag]at e;cases e;exact new
 .rw[av f]at e;exact(x b u e).stay (λc v _ q=>k c v q) (λc q=>by rw[av (aV q d)];exact q) λc i q=>by rw[av (aV q d)];calc q
end
def  Rd(H:Hp)(a:Ki)(u:HO):Prop:=H a=N8 u\/∃o,H a=N8 (.frz o u)
def Rd.ok{P:Kf}{w:Ke}{H:Hp}{h:Kj}{a:Ki}{u:HO}(r:Rd H a u)(x:HOk P w H h):bO P w H h a u:=by
 rcases r with r|⟨o,r⟩
 .exact x a u r
 .let(_,q):=x a _ r;calc q
def  Mut:Option HO->Prop
 |some (.lst _)=>True
 |some (.dK _)=>True
 |some (.dT _)=>True
 |some (.set _ _)=>True
 |some (.ins _ _ _)=>True
 |some (.ext _)=>True
 |_=>False
variable{x:Ki}
section
variable{e:Ki}{o':HO}
def HOk.write(ok:HOk P w H h)(mu:Mut (H x))(l:e=x\/H e=N8 (.own x))(k:∀b u,b≠e->h.get? b=N8 u->h'.get? b=N8 u)(i:∃u,h'.get? e=N8 u)
  (new:bO P w (upd H x o') h' x o'):HOk P w (upd H x o') h':=λb u q=>by
 let m:∀c y,H c=N8 (.own y)->c≠x:=λc y r z=>by subst z;rw[r]at mu;exact mu
 let o:∀c d,H c=N8 (.tup d)->c≠x:=λc d r z=>by subst z;rw[r]at mu;exact mu
 by_cases g:b=x
 .subst g;rw[ag]at q;cases q;exact new
 .rw[av g]at q;by_cases a:b=e
  .let j:H b=N8 (.own x):=by
    rcases l with z|z
    .exact Og (a.trans z) g
    .rw[a];exact z
   rw[q]at j;cases j;let(v,n):=i;exact(v,by rw[a];exact n,)
  .refine(ok b u q).stay (λc v f r=>k c v ?_ r) (λc r=>by rw[av (m c b r)];exact r) λc d r=>by rw[av (o c d r)];exact r
   rcases f with rfl|f
   .exact a
   .rintro rfl;rcases l with z|z
    .exact m c b f z
    .rw[f]at z;cases z;calc g U
end
structure Un(fs ex:Oo Ki)(H H':Hp)(h h':Kj):Prop where
 keep:∀b o,h.get? b=N8 o->H b=N9->b ∉ fs->b ∉ ex->h'.get? b=N8 o
 slot:∀b o,h.get? b=N8 o->H b=N9->b∈fs->b ∉ ex->∃sl,h'.get? b=N8 { o with slots:=sl }
 free:∀b o,h.get? b=N8 o->H b=N9->b ∉ ex->H' b=N9
 there:∀b o,h.get? b=N8 o->b ∉ ex->∃o',h'.get? b=N8 o'
 tups:∀b xs,H b=N8 (.tup xs)->H' b=N8 (.tup xs)
 frzs:∀b o u,H b=N8 (.frz o u)->H' b=N8 (.frz o u)
 tbls:∀b ps,H b=N8 (.tbl ps)->∃more,H' b=N8 (.tbl<|ps++more)
section
variable{fs fs' ex ex':Oo Ki}{H1 H2:Hp}{h1 h2:Kj}{e:Ki}{o:HO}
def Un.any(u:Un fs ex H H1 h h1){b:Ki}{a:Obj}(q:h.get? b=N8 a)(n:H b=N9)(c:b ∉ ex):∃e,h1.get? b=N8 { a with slots:=e }:=by
 by_cases d:b∈fs
 .exact u.slot b a q n d c
 .exact(a.slots,u.keep b a q n d c,)
def Un.kept(k:∀b u,h.get? b=N8 u->h'.get? b=N8 u):Un fs ex H H h h' :=
 (λb a q _ _ _=>k b a q,λb a q _ _ _=>(a.slots,k b a q,),λ_ _ _ n _=>n,λb a q _=>(a,k b a q,),λ_ _ q=>q,λ_ _ _ q=>q,λ_ c q=>(#[],by rw[q];simp,),)
def Un.refl:Un fs ex H H h h:=Un.kept λ_ _ q=>q
def Un.laid(k:∀b u,h.get? b=N8 u->h'.get? b=N8 u)(e:h.objs.size<=a)(c:H a=N9):Un fs ex H (upd H a o) h h' where
 keep:=λb u q _ _ _=>k b u q
 slot:=λb u q _ _ _=>(u.slots,k b u q,)
 free:=λb u q n _=>by rw[av (vl<|v5 (bi q) e)];exact n
 there:=λb u q _=>(u,k b u q,)
 tups:=λb d q=>by rw[av (aV q c)];exact q
 frzs:=λb u d q=>by rw[av (aV q c)];exact q
 tbls:=λb f q=>(#[],by rw[av (aV q c),q];simp,)
def Un.write(mu:Mut (H x))(l:e=x\/H e=N8 (.own x))(k:∀b u,b≠e->h.get? b=N8 u->h'.get? b=N8 u)(d:∃u,h'.get? e=N8 u):Un fs ex H (upd H x o) h h':=by
 let f:∀b,H b=N9->b≠x:=λb n z=>by subst z;rw[n]at mu;exact mu
 let g:∀b,H b=N9->b≠e:=λb n z=>by
  subst z;rcases l with r|r
  .exact f b n r
  .rw[n]at r;cases r
 let c:∀b u,H b=N8 u->¬ Mut (N8 u)->b≠x:=λb u q j z=>by subst z;rw[q]at mu;exact j mu
 refine(λb u q n _ _=>k b u (g b n) q,λb u q n _ _=>(u.slots,k b u (g b n) q,),λb u q n _=>by rw[av (f b n)];exact n,λb u q _=>?_,
  λb i q=>by rw[av (c b _ q λz=>z)];exact q,λb u i q=>by rw[av (c b _ q λz=>z)];exact q,λb m q=>(#[],by rw[av (c b _ q λz=>z),q];simp,),)
 by_cases a:b=e
 .subst a;exact d
 .exact(u,k b u a q,)
end
def  trk(h:Kj)(H:Hp):Oo Ki:=(db h.objs.size).filter λa=>(H a).isSome
def  m6(h:Kj)(H:Hp):Kj:=W.hideAll h<|trk h H
def xI(h:Kj)(H:Hp):(m6 h H).objs.size=h.objs.size:=W.hideAll_size _ _
def yW{h:Kj}{H:Hp}{b:Ki}{o:Obj}(e:h.get? b=N8 o)(n:H b=N9):(m6 h H).get? b=N8 o :=
 W.hideAll_get _ e λa=>by
  let q:(H b).isSome=true:=(ke.mp a).2;rw[n]at q;simp at q
def Bb{h:Kj}{H:Hp}{b:Ki}{o:Obj}(e:(m6 h H).get? b=N8 o):h.get? b=N8 o/\H b=none:=by
 let a:h.get? b=N8 o:=W.of_hideAll (trk h H) e;calc(a,?_,);cases q:H b with
 |none=>rfl
 |some x =>
  let c:b∈trk h H:=ke.mpr (gd.mpr<|bi a,by simp[q],);let z:(m6 h H).get? b=none:=W.hideAll_none (trk h H) c;rw[z]at e;cases e
def  Bc(g h:Kj)(L:Ki):Oo (Ki×Obj):=(db h.objs.size).filterMap λa=>if a=L\/(g.get? a).isSome=Oa then N9 else(h.get? a).map λo=>(a,o)
def  rest(g h:Kj)(L d:Ki):Oo (Ki×Obj):=(Bc g h L).filter λp=>decide<|p.1≠d
structure Mod(K:bd)(mg:Str->Option Kd)(base:Kj):Prop where
 kin:K.In base
 glob:base.Ns Ko mg
 blt:∃mb,base.Ns Kp mb/\∀x:Str,x ≠ "__name__" -> mb x=Kq x
 nolimit:base.NoLimit
structure Cx where
 prog:Kf
 w:Ke
 K:bd
 mg:Str->Option Kd
 base:Kj
 A:Kr
 N:Oo Str
 s₀:Ks
 H₀:Hp
 env:Env
 outer:Oo Env
 stack:Oo Env
 ex:Oo Ki
 fn:Str->Bool
 calm:Bool
 pn:Oo (Ki×Obj)
 xe:Kd->Ks->Prop
def  frs(l:Oo Env):Oo Ki:=l.filterMap (·.frame)
abbrev Cx.fs(X:Cx):Oo Ki:=frs X.outer
def  Vis(a:Kt)(x:Str):Prop:=a.names.lookup x=N8 .local\/a.names.lookup x=N8 .cell\/a.names.lookup x=N8 .free
def  Loc(a:Kt)(x:Str):Prop:=a.names.lookup x=N8 .local\/a.names.lookup x=N8 .cell
def  Look(a:Env)(h:Kj)(m:Str->Option Kd)(x:Str)(u:Kd):Prop :=
 (a.kindOf x=N8 .local/\m x=N8 u)\/((a.kindOf x=N8 .cell\/a.kindOf x=N8 .free)/\∃c,a.cells.lookup x=N8 c/\h.IsCell c (N8 u))
structure Cx.Ok(X:Cx):Prop where
 mod:Mod X.K X.mg X.base
 kind:X.env.scope.kind=.function
 glob:X.env.globals=Ko
 blt:X.env.builtins=Kp
 above:X.s₀.heap.objs.size<=X.env.locals
 inj:∀x y c,X.env.cells.lookup x=N8 c->X.env.cells.lookup y=N8 c->x=y
 has:∀x,(X.env.kindOf x=N8 .cell\/X.env.kindOf x=N8 .free)->∃c,X.env.cells.lookup x=N8 c
 cab:∀x c,X.fn x=Oa->X.env.cells.lookup x=N8 c->X.s₀.heap.objs.size<=c
 hd:X.calm=Oa->X.A.handled=N9
 frames:X.A.frames=N8 X.stack
 stk:X.stack=X.outer\/(X.stack=X.env :: X.outer/\X.env.frame=N8 X.env.locals)
 exf:∀b∈X.ex,b≠X.env.locals/\∀x c,X.env.cells.lookup x=N8 c->c≠b
 bs:∀b o,X.base.get? b=N8 o->X.s₀.heap.get? b=N8 o/\X.H₀ b=N9
 bsz:X.base.objs.size<=X.s₀.heap.objs.size
 noex:∀b o,X.base.get? b=N8 o->b ∉ X.ex
 exfs:∀b∈X.ex,b ∉ X.fs
 funs:X.s₀.heap.FunFrames X.base X.outer
 frf:∀b∈X.fs,X.H₀ b=N9
structure Inv(X:Cx)(Od:Oo (Ki×Obj))(σ:Oo (Option V))(H:Hp)(s:Ks):Prop where
 ok:X.Ok
 os:s.os=X.s₀.os
 bare:AllBare s.gens
 base:Un X.fs X.ex X.H₀ H X.s₀.heap s.heap
 loc:∃m,s.heap.Ns X.env.locals m/\∀(i:Nat)(x:Str)(v:V),X.N[i]?=N8 x->σ[i]?=N8 (N8 v)->Vis X.env.scope x->∃u,RelV v u/\Look X.env s.heap m x u
 cell:∀x c,X.env.cells.lookup x=N8 c->∃v,s.heap.IsCell c v
 free:H X.env.locals=N9
 freeC:∀x c,X.env.cells.lookup x=N8 c->H c=N9
 pin:∀p∈X.pn++Od,s.heap.get? p.1=N8 p.2/\H p.1=N9/\p.1≠X.env.locals/\p.1 ∉ X.fs/\∀v,p.2.data≠.cell v
 hok:HOk X.prog X.w H s.heap
 len:σ.length=X.N.length
variable{X:Cx}{Od:Oo (Ki×Obj)}{s:Ks}
section
variable{σ:Oo (Option V)}
def Cx.Ok.nofr(ok:X.Ok){b:Ki}{o:Obj}(e:X.base.get? b=N8 o):b ∉ X.fs:=λa=>by
 let:=(ok.funs.mem a).1;rw[e]at this;cases this
def Inv.bs(I:Inv X Od σ H s):∀b o,X.base.get? b=N8 o->s.heap.get? b=N8 o/\H b=none:=λb o e =>
 (I.base.keep b o (I.ok.bs b o e).1 (I.ok.bs b o e).2 (I.ok.nofr e)<|I.ok.noex b o e,I.base.free b o (I.ok.bs b o e).1 (I.ok.bs b o e).2<|I.ok.noex b o e,)
def Inv.bk(I:Inv X Od σ H s):∀b o,X.base.get? b=N8 o->s.heap.get? b=N8 o:=λb o e=>(I.bs b o e).1
def Inv.mod(I:Inv X Od σ H s):Mod X.K X.mg X.base:=I.ok.mod
def Inv.kIn(I:Inv X Od σ H s):X.K.In s.heap:=I.ok.mod.kin.keeps I.bk
def Inv.lt(I:Inv X Od σ H s):X.env.locals<↥s:=by let(_,a,_):=I.loc;calc a.lt
def Inv.sz(I:Inv X Od σ H s):X.s₀.heap.objs.size<=↥s:=vr I.ok.above<|wx I.lt
def Inv.nofs(I:Inv X Od σ H s){a:Ki}(h:↥s<=a):a ∉ X.fs:=λc=>by
 let(_,o,b,_):=I.ok.funs.mem c;calc Og (v5 (bi b)<|vr I.sz h)<|w4 _
def Inv.cne(I:Inv X Od σ H s):∀x c,X.env.cells.lookup x=N8 c->c≠X.env.locals:=λx c e z=>by
 let(v,o,d,hd):=I.cell x c e;let(m,(f,g,h,a,b,_),_):=I.loc;rw[z,a]at d;cases d;rw[b]at hd;cases hd
def Inv.funs(I:Inv X Od σ H s):s.heap.FunFrames X.base X.outer:=by
 let all:∀(l:Oo Env),(∀b∈frs l,b∈X.fs)->X.s₀.heap.FunFrames X.base l->s.heap.FunFrames X.base l:=by
  intro l;induction l with
  |nil=>intro _ _;trivial
  |cons n r g =>
   intro f k;let(m,(L,o,a,j,i,hd),h):=k;let d:L∈X.fs:=f L (by unfold frs;rw[lP,a];exact cf);let(p,e):=I.base.slot L o i (I.ok.frf L d) d λz=>I.ok.exfs L z d
   exact(m,(L,_,a,j,e,hd,),g (λb c=>f b (by unfold frs;rw[lP,a];exact dy _ c)) h,)
 calc all X.outer (λ_ c=>c) I.ok.funs
def Inv.stack(I:Inv X Od σ H s):s.heap.FunFrames X.base X.stack:=by
 rcases I.ok.stk with e|⟨e,b⟩
 .rw[e];exact I.funs
 .rw[e];let(m,a,_):=I.loc;refine .cons (by rw[I.ok.kind];decide) b a ?_ I.funs;calc PH<|vr I.ok.bsz I.ok.above
def Inv.stkSub(I:Inv X Od σ H s):∀b∈frs X.stack,b∈X.env.locals :: X.fs:=λb a=>by
 rcases I.ok.stk with e|⟨e,c⟩
 .rw[e]at a;exact dy _ a
 .rw[e]at a;unfold frs at a;rw[lP,c]at a;calc a
def Inv.stkFree(I:Inv X Od σ H s):∀b∈frs X.stack,H b=none:=λb a=>by
 rcases af.mp (I.stkSub b a)with e|a
 .rw[e];exact I.free
 .let(_,o,c,_):=I.ok.funs.mem a;calc I.base.free b o c (I.ok.frf b a) λz=>I.ok.exfs b z a
def Inv.step{g':Array Ku}{t':Nat}{d':Drawn}{ch:Oo Ki}(I:Inv X Od σ H s)
  (g:∀b∈ch,(b∈X.ex\/X.s₀.heap.objs.size<=b)/\b≠X.env.locals/\(∀x c,X.env.cells.lookup x=N8 c->c≠b)/\∀p∈X.pn++Od,p.1≠b)
  (keep:∀b o,b≠X.env.locals->b ∉ X.fs->b ∉ ch->s.heap.get? b=N8 o->H b=N9->h'.get? b=N8 o)
  (slot:∀b o,b≠X.env.locals->b∈X.fs->b ∉ ch->s.heap.get? b=N8 o->H b=N9->∃F,h'.get? b=N8 { o with slots:=F })(free:∀b o,b ∉ ch->s.heap.get? b=N8 o->H b=N9->H' b=N9)
  (there:∀b o,b ∉ ch->s.heap.get? b=N8 o->∃B,h'.get? b=N8 B)
  (tups:∀b xs,H b=N8 (.tup xs)->H' b=N8 (.tup xs))(frzs:∀b o u,H b=N8 (.frz o u)->H' b=N8 (.frz o u))(tbls:∀b ps,H b=N8 (.tbl ps)->∃E,H' b=N8 (.tbl<|ps++E))
  (ns:∀m,s.heap.Ns X.env.locals m->h'.Ns X.env.locals m)(hok:HOk X.prog X.w H' h')(R:AllBare g') :
  Inv X Od σ H' { s with heap:=h',gens:=g',drawn:=d',toks:=t' }:=by
 let D:∀b o,X.s₀.heap.get? b=N8 o->b≠X.env.locals:=λb o e=>vl<|v5 (bi e) I.ok.above
 let t:∀b o,X.s₀.heap.get? b=N8 o->b ∉ X.ex->b ∉ ch:=λb o e a y=>by
  rcases(g b y).1 with z|z
  .exact a z
  .exact Og (v5 (bi e) z)<|w4 _
 let h:∀x c,X.env.cells.lookup x=N8 c->∀v,s.heap.IsCell c v->h'.IsCell c v:=λx c e v (o,A,hd,)=>by
  let f:c ∉ ch:=λz=>(g c z).2.2.1 x c e U
  by_cases M:c∈X.fs
  .let(F,q):=slot c o (I.cne x c e) M f A<|I.freeC x c e;exact(_,q,hd,)
  .exact(o,keep c o (I.cne x c e) M f A<|I.freeC x c e,hd,)
 refine(I.ok,I.os,R,(λb o e n y a=>?_,λb o e n y a=>?_,λb o e n a=>?_,λb o e a=>?_,λb xs e=>tups b xs<|I.base.tups b xs e,λb o xs e=>frzs b o xs<|I.base.frzs b o xs e,λb ps e=>?_,),?_,λx c e=>?_,?_,λx c e=>?_,λp L=>?_,hok,I.len,)
 .exact keep b o (D b o e) y (t b o e a) (I.base.keep b o e n y a)<|I.base.free b o e n a
 .let(F,j):=I.base.slot b o e n y a;let(G,C):=slot b _ (D b o e) y (t b o e a) j<|I.base.free b o e n a;exact(G,C,)
 .let(B,j):=I.base.there b o e a;exact free b B (t b o e a) j<|I.base.free b o e n a
 .let(B,j):=I.base.there b o e a;exact there b B (t b o e a) j
 .let(O,j):=I.base.tbls b ps e;let(N,C):=tbls b _ j;exact(O++N,by rw[C,Array.append_assoc],)
 .let(m,P,Q):=I.loc;calc(m,ns m P,λi x v j C S=>?_,);let(u,r,l):=Q i x v j C S;calc(u,r,?_,);rcases l with l|⟨k,c,e,z⟩
  .exact .inl l
  .exact .inr (k,c,e,h x c e _ z,)
 .let(v,z):=I.cell x c e;exact(v,h x c e v z,)
 .let(m,(o,_,_,A,_),_):=I.loc;exact free _ o (λz=>(g _ z).2.1 U) A I.free
 .let(v,o,A,hd):=I.cell x c e;exact free c o (λz=>(g c z).2.2.1 x c e U) A<|I.freeC x c e
 .let(e,n,K,J,d):=I.pin p L;let f:p.1 ∉ ch:=λz=>(g p.1 z).2.2.2 p L U
  calc(keep p.1 p.2 K J f e n,free p.1 p.2 f e n,K,J,d,)
def Inv.un{t':Nat}(I:Inv X Od σ H s)(u:Un X.fs [] H H' s.heap h')(hok:HOk X.prog X.w H' h'):Inv X Od σ H' { s with heap:=h',toks:=t' }:=by
 let(m,(o,q,t,g,r),_):=id I.loc;let(k,j):=u.any g I.free (by simp);exact I.step (g':=s.gens) (d':=s.drawn) (ch:=[]) (λ_ z=>nomatch z) (λb o _ c _ e n=>u.keep b o e n c (by simp)) (λb o _ c _ e n=>u.slot b o e n c (by simp)) (λb o _ e n=>u.free b o e n (by simp)) (λb o _ e=>u.there b o e (by simp)) u.tups u.frzs u.tbls (λp i=>by
  let(l,d,f,a,h):=i;rw[g]at a;cases a;exact(_,d,f,j,h,)) hok I.bare
def Inv.call{g':Array Ku}{t':Nat}{d':Drawn}{ch:Oo Ki}(I:Inv X Od σ H s)(u:Un (frs X.stack) ch H H' s.heap h')(hok:HOk X.prog X.w H' h')(q:AllBare g')
  (f:∀b∈ch,(b∈X.ex\/X.s₀.heap.objs.size<=b)/\b≠X.env.locals/\(∀x c,X.env.cells.lookup x=N8 c->c≠b)/\∀p∈X.pn++Od,p.1≠b) :
  Inv X Od σ H' { s with heap:=h',gens:=g',drawn:=d',toks:=t' }:=by
 let(m,(o,B,C,j,r),_):=id I.loc;let(v,g):=u.any j I.free λz=>(f _ z).2.1 U
 exact I.step (ch:=ch) f (λb o g t a e n=>u.keep b o e n (λz=>(af.mp<|I.stkSub b z).elim g t) a) (λb o _ _ a e n=>u.any e n a) (λb o a e n=>u.free b o e n a) (λb o a e=>u.there b o e a) u.tups u.frzs u.tbls (λA l=>by
  let(y,h,i,d,k):=l;rw[j]at d;cases d;exact(_,h,i,g,k,)) hok q
def Inv.turned{t':Nat}{it:Ki}(I:Inv X Od σ H s)(k:∀b o,b≠it->s.heap.get? b=N8 o->h'.get? b=N8 o)(h:H it=N9)(f:it≠X.env.locals)
  (w:it∈X.ex\/X.s₀.heap.objs.size<=it)(t:∀x c,X.env.cells.lookup x=N8 c->c≠it)(l:∀p∈X.pn++Od,p.1≠it):Inv X Od σ H { s with heap:=h',toks:=t' }:=by
 let d:∀b u,H b=N8 u->b≠it:=λb u e z=>by rw[z,h]at e;cases e
 refine I.step (g':=s.gens) (d':=s.drawn) (ch:=[it]) (λb j=>?_) (λb o _ _ a e _=>k b o (λz=>a (by simp[z])) e) (λb o _ _ a e _=>(o.slots,k b o (λz=>a (by simp[z])) e,)) (λ_ _ _ _ n=>n)
  (λb o a e=>(o,k b o (λz=>a (by simp[z])) e,)) (λ_ _ e=>e) (λ_ _ _ e=>e) (λb B e=>(#[],by rw[e];simp,)) (λm i=>?_) (λb u e=>?_) I.bare
 .let e:b=it:= ~~~j
  subst e;exact(w,f,t,l,)
 .let(o,y,A,g,r):=i;exact(o,y,A,k _ o (Fk f) g,r,)
 .refine(I.hok b u e).stay (λc v a q=>k c v ?_ q) (λ_ q=>q) λ_ _ q=>q
  rcases a with z|z
  .rw[z];exact d b u e
  .exact d c _ z
def Inv.tok(I:Inv X Od σ H s)(t:Nat):Inv X Od σ H { s with toks:=t }:=I.un (h':=s.heap) (t':=t) Un.refl I.hok
def Inv.kept{t':Nat}(I:Inv X Od σ H s)(k:∀b u,s.heap.get? b=N8 u->h'.get? b=N8 u):Inv X Od σ H { s with heap:=h',toks:=t' }:=I.un (Un.kept k)<|I.hok.kept k
def Inv.laid{a:Ki}{o:HO}{t':Nat}(I:Inv X Od σ H s)(k:∀b u,s.heap.get? b=N8 u->h'.get? b=N8 u)(c:↥s<=a)(new:bO X.prog X.w (upd H a o) h' a o) :
  Inv X Od σ (upd H a o) { s with heap:=h',toks:=t' }:=I.un (Un.laid k c<|I.hok.fresh c)<|I.hok.laid k c new
def Inv.write{x e:Ki}{o:HO}{t':Nat}(I:Inv X Od σ H s)(mu:Mut (H x))(c:e=x\/H e=N8 (.own x))(k:∀b u,b≠e->s.heap.get? b=N8 u->h'.get? b=N8 u)(a:∃u,h'.get? e=N8 u)
  (new:bO X.prog X.w (upd H x o) h' x o):Inv X Od σ (upd H x o) { s with heap:=h',toks:=t' }:=I.un (Un.write mu c k a)<|I.hok.write mu c k a new
def Inv.pins_of{a:Oo (Ki×Obj)}(I:Inv X Od σ H s)(h:∀p∈a,s.heap.get? p.1=N8 p.2/\H p.1=N9/\p.1≠X.env.locals/\p.1 ∉ X.fs/\∀v,p.2.data≠.cell v):Inv X a σ H s :=
 (I.ok,I.os,I.bare,I.base,I.loc,I.cell,I.free,I.freeC,λp b=>(iH.mp b).elim (λz=>I.pin p<|kn _ z)<|h p,I.hok,I.len,)
def gR{N:Oo Str}(c:N.Nodup){i j:Nat}{x:Str}(a:N[i]?=N8 x)(b:N[j]?=N8 x):i=j:=by
 let(g,e):=JQ.mp a;let(f,d):=JQ.mp b;calc(uG c).mp (e.trans d.symm)
def kS{M:Kv}{A:Kr}{E:Kd->Ks->Prop}{i:Nat}{x:Str}{v:V}{u:Kd}{Q:Unit->Ks->Prop}(I:Inv X Od σ H s)(hN:X.N.Nodup)(hi:X.N[i]?=N8 x)(B:Loc X.env.scope x)(r:RelV v u)
  (h:∀s',Inv X Od (σ.set i<|N8 v) H s'->(∃a,rc a s.heap s'.heap/\(a=X.env.locals\/X.env.cells.lookup x=N8 a))->Q () s')(hf:X.fn x=Oa\/X.env.scope.names.lookup x=N8 .local:=by first|exact .inl U|exact .inr U|assumption):Kw M A (Ky X.env x u) Q E s:=by
 let(m,hn,hl):=id I.loc;let C4:(X.env.scope.kind == .class || (X.env.scope.kind == .module && X.env.locals != X.env.globals))=false:=by rw[I.ok.kind];rfl
 let F:i<σ.length:=by rw[I.len];exact(JQ.mp hi).1
 let cne:=I.cne;let l:∀{a:Ki}{h':Kj},(∃o,s.heap.get? a=N8 o/\H a=N9)->rc a s.heap h'->HOk X.prog X.w H h':=λ{a h'} ha f b ob e=>by
  let(_,_,wA):=ha;refine(I.hok b ob e).stay (λc R t q=>(f.2 c ?_).trans q) (λ_ q=>q) λ_ _ q=>q
  rintro rfl;rcases t with rfl|t
  .rw[wA]at e;cases e
  .rw[wA]at t;cases t
 rcases B with D|D
 .refine wpAny_storeName_local D hn (λh' a1 f=>?_) C4;let(oL,_,_,a0,_):=id hn;refine h _ (I.ok,I.os,I.bare,(λb o e n J B=>?_,λb o e n J B=>?_,I.base.free,λb o e B=>?_,I.base.tups,I.base.frzs,I.base.tbls,),(_,a1,λj y W g C e3=>?_,),λy c e=>?_,I.free,I.freeC,λp hp=>?_,l (oL,a0,I.free,) f,~~~I.len,) (_,f,.inl U,)
  .exact(f.2 b<|vl<|v5 (bi e) I.ok.above).trans (I.base.keep b o e n J B)
  .let(Z,g):=I.base.slot b o e n J B;exact(Z,(f.2 b<|vl<|v5 (bi e) I.ok.above).trans g,)
  .let(o',g):=I.base.there b o e B;exact(o',(f.2 b<|vl<|v5 (bi e) I.ok.above).trans g,)
  .by_cases G:j=i
   .subst G;rw[hi]at g;cases g;rw[lg F]at C;cases C;exact(u,r,.inl (D,by simp,),)
   .rw[nt (Fk G)]at C;let(Y,r',q):=hl j y W g C e3;calc(Y,r',?_,);rcases q with⟨k,e⟩|⟨k,c,e,z⟩
    .refine .inl (k,?_,);let:y≠x:=λe=>G<|gR hN g<|e ▸ hi
     simp[this,e]
    .exact .inr (k,c,e,z.sameBut f<|cne y c e,)
  .let(R,z):=I.cell y c e;exact(R,z.sameBut f<|cne y c e,)
  .let(e,n,S,nf,d):=I.pin p hp;exact((f.2 p.1 S).trans e,n,S,nf,d,)
 .let K:X.fn x=true:=by
   rcases hf with z|z
   .exact z
   .rw[z]at D;cases D
  let(c,t):=I.ok.has x<|.inl D;let(R,z):=I.cell x c t;calc wpAny_storeName_cell I.ok.kind D t z<|λh' P f=>?_;let(oc,L,Gm):=id z;refine h { s with heap:=h' } (I.ok,I.os,I.bare,(λb o e n J B=>?_,λb o e n J B=>?_,I.base.free,λb o e B=>?_,I.base.tups,I.base.frzs,I.base.tbls,),(m,hn.sameBut f<|Fk<|cne x c t,λj y W g C e3=>?_,),λy T e=>?_,I.free,I.freeC,λp hp=>?_,l (oc,L,I.freeC x c t,) f,~~~I.len,) (c,f,.inr t,)
  .exact(f.2 b<|vl<|v5 (bi e)<|I.ok.cab x c K t).trans (I.base.keep b o e n J B)
  .let(Z,g):=I.base.slot b o e n J B;exact(Z,(f.2 b<|vl<|v5 (bi e)<|I.ok.cab x c K t).trans g,)
  .let(o',g):=I.base.there b o e B;exact(o',(f.2 b<|vl<|v5 (bi e)<|I.ok.cab x c K t).trans g,)
  .by_cases G:j=i
   .subst G;rw[hi]at g;cases g;rw[lg F]at C;cases C;exact(u,r,.inr (.inl D,c,t,P,),)
   .rw[nt (Fk G)]at C;let(Y,r',q):=hl j y W g C e3;calc(Y,r',?_,);rcases q with q|⟨k,T,e,z'⟩
    .exact .inl q
    .refine .inr (k,T,e,z'.sameBut f ?_,);rintro rfl;exact G<|gR hN g<|I.ok.inj _ _ _ e t ▸ hi
  .by_cases O:T=c
   .subst O;exact(_,P,)
   .let(w2,z2):=I.cell y T e;exact(w2,z2.sameBut f O,)
  .let(e,n,S,nf,d):=I.pin p hp;calc((f.2 p.1 ?_).trans e,n,S,nf,d,);intro q;rw[q,L]at e;let q':oc=p.2:=ci e;calc d R (by rw[←q'];exact Gm)
def gW{M:Kv}{A:Kr}{E:Kd->Ks->Prop}{i:Nat}{x:Str}{v:V}{u:Kd}{Q:Unit->Ks->Prop}(I:Inv X Od σ H s)(c:X.N.Nodup)(hi:X.N[i]?=N8 x)(a:Loc X.env.scope x)(r:RelV v u)
  (h:∀s',Inv X Od (σ.set i<|N8 v) H s'->Q () s')(b:X.fn x=Oa\/X.env.scope.names.lookup x=N8 .local:=by first|exact .inl U|exact .inr U|assumption):Kw M A (Ky X.env x u) Q E s :=
 kS I c hi a r (λs' d _=>h s' d) b
def Inv.call'{s':Ks}{ch:Oo Ki}(I:Inv X Od σ H s)(f:s'.os=s.os)(u:Un (frs X.stack) ch H H' s.heap s'.heap)(hok:HOk X.prog X.w H' s'.heap)(g:AllBare s'.gens)
  (a:∀b∈ch,(b∈X.ex\/X.s₀.heap.objs.size<=b)/\b≠X.env.locals/\(∀x c,X.env.cells.lookup x=N8 c->c≠b)/\∀p∈X.pn++Od,p.1≠b):Inv X Od σ H' s':=by
 let(h',g',d',t',d):=s';let e:d=s.os:=f;subst e;calc I.call (g':=g') (t':=t') (d':=d') u hok g a
end
abbrev XK:=Kd->Option Ki->Hp->Prop
abbrev St:=List<|Option V
abbrev VK:=V->Hp->Prop
abbrev TE:=St->Hp->VK->Prop
abbrev TT:=St->Hp->(Bool->Hp->Prop)->Prop
abbrev RJ:=St->Hp->Prop
abbrev RK:=Hp->Prop
abbrev TA:=St->Hp->(Oo V->RK)->Prop
structure Ends where
 nx:RJ
 rt:VK
 bk:RJ:=λ_ _=>False
 ct:RJ:=λ_ _=>False
abbrev TS:=Ends->RJ
inductive EP(X:Cx)(Od:Oo (Ki×Obj))(σ:St)(Q:VK)(u:Kd)(s':Ks):Prop
 |mk (v:V)(H':Hp)(_:Inv X Od σ H' s')(_:RelV v u)(_:Q v H'):EP X Od σ Q u s'
def  TP(X:Cx)(Od:Oo (Ki×Obj))(a:St)(Q:Bool->RK)(b:Bool)(s':Ks):Prop:=∃H',Inv X Od a H' s'/\Q b H'
inductive AP(X:Cx)(Od:Oo (Ki×Obj))(σ:St)(Q:Oo V->RK)(us:Oo Kd)(s':Ks):Prop
 |mk (vs:Oo V)(H':Hp)(_:Inv X Od σ H' s')(_:Vals vs us)(_:Q vs H'):AP X Od σ Q us s'
def  SP(X:Cx)(Od:Oo (Ki×Obj))(D:Ends)(f:Flow)(s':Ks):Prop :=
 match f with
 | .next=>∃a H',Inv X Od a H' s'/\D.nx a H'
 | .brk=>∃a H',Inv X Od a H' s'/\D.bk a H'
 | .cont=>∃a H',Inv X Od a H' s'/\D.ct a H'
 | .ret u=>∃v a H',Inv X Od a H' s'/\RelV v u/\D.rt v H'
def  PE(X:Cx)(e:Kz)(t:TE):Prop :=
 ∀(Od:Oo (Ki×Obj))(s:Ks)(a:St)(H:Hp)(Q:VK),Inv X Od a H s->t a H Q->Kw (model X.prog X.w) X.A (eval e X.env) (EP X Od a Q) X.xe s
def  PT(X:Cx)(e:Kz)(t:TT):Prop :=
 ∀(Od:Oo (Ki×Obj))(s:Ks)(a:St)(H:Hp)(Q:Bool->RK),Inv X Od a H s->t a H Q->Kw (model X.prog X.w) X.A (KA e X.env<|eval e X.env) (TP X Od a Q) X.xe s
def  PW(X:Cx)(e:Kz)(t:TT):Prop :=
 ∀(a:Sem Kd)(Od:Oo (Ki×Obj))(s:Ks)(b:St)(H:Hp)(Q:Bool->RK),Inv X Od b H s->t b H Q->Kw (model X.prog X.w) X.A (KA e X.env a) (TP X Od b Q) X.xe s
def PW.pt{X:Cx}{e:Kz}{t:TT}(h:PW X e t):PT X e t:=h _
def  PA(X:Cx)(c:Oo Kz)(t:TA):Prop :=
 ∀(b:Pos)(Od:Oo (Ki×Obj))(s:Ks)(a:St)(H:Hp)(Q:Oo V->RK),Inv X Od a H s->t a H Q->Kw (model X.prog X.w) X.A (spliced<|KC b<|KD c X.env) (AP X Od a Q) X.xe s
def  PS(X:Cx)(st:KG)(t:TS):Prop :=
 ∀(Od:Oo (Ki×Obj))(s:Ks)(a:St)(H:Hp)(D:Ends),Inv X Od a H s->t D a H->Kw (model X.prog X.w) X.A (exec st X.env) (SP X Od D) X.xe s
def  PSs(X:Cx)(st:Oo KG)(t:TS):Prop :=
 ∀(Od:Oo (Ki×Obj))(s:Ks)(a:St)(H:Hp)(D:Ends),Inv X Od a H s->t D a H->Kw (model X.prog X.w) X.A (execs st X.env) (SP X Od D) X.xe s
def thn{α:Type}{t:Sem α}{Q b:α->Ks->Prop}{M:Kv}{A:Kr}{E:Kd->Ks->Prop}{s:Ks}(h:Kw M A t Q E s)(c:∀a s,Q a s->b a s):Kw M A t b E s:=KH h c λ_ _ x=>x
variable{ta tb:TE}{pos:Pos}
section
def  qW(i:Nat)(a:St)(H:Hp)(Q:VK):Prop:=(a[i]?).join.elim False λv=>Q v H
def qW.to{i:Nat}{a:St}{H:Hp}{Q:VK}(h:qW i a H Q):∃v,a[i]?=N8 (N8 v)/\Q v H:=by
 unfold qW at h;cases e:a[i]? with
 |none=>rw[e]at h;exact io h
 |some o =>
  cases o with
  |none=>rw[e]at h;exact io h
  |some v=>rw[e]at h;calc(v,U,h,)
def qW.of{i:Nat}{a:St}{H:Hp}{Q:VK}{v:V}(e:a[i]?=N8 (N8 v))(h:Q v H):qW i a H Q:=by unfold qW;rw[e];calc h
def  tC(v:V):TE:=λ_ H Q=>Q v H
def yX{i:Nat}{x:Str}{pos:Pos}(p:X.N[i]?=N8 x)(j:Vis X.env.scope x)(hd:(x == ("__debug__" : Str))=false:=by decide) (b:(x == ("__classdict__" : Str))=false:=by decide):PE X (.Name x pos) (qW i):=by
 intro Od s g H Q I h;let(v,e,h):=h.to;let(m,k,o):=I.loc;let(u,r,l):=o i x v p e j;let fin:EP X Od g Q u s:=(v,H,I,r,h,);rcases l with⟨a,n⟩|⟨a,c,f,d⟩
 .exact KI (KJ I.ok.kind a k n fin) hd
 .rcases a with a|a
  .exact KI (KL I.ok.kind a f d fin) hd
  .exact KI (wpAny_loadName_free I.ok.kind a f d fin b) hd
def aq{i j pos}:PE X (.Constant (.int i) j pos) (tC<|.int i):=λ_ _ _ H _ I h=>wpAny_Constant_int (.int i,H,I.tok _,(_,U,),h,)
def m7{b j pos}:PE X (.Constant (.bool b) j pos) (tC<|.bl b):=λ_ _ _ H _ I h=>Constant_bool (.bl b,H,I,U,h,)
def C5{j pos}:PE X (.Constant .none j pos) (tC .non):=λ_ _ _ H _ I h=>Constant_none (.non,H,I,U,h,)
def bI{x j pos}:PE X (.Constant (.str x) j pos) (tC<|.str x):=λ_ _ _ H _ I h=>Calls.Constant_str (.str x,H,I.tok _,(_,U,),h,)
def  Gl(X:Cx)(x:Str):Prop:=X.env.kindOf x=N8 .globalImplicit
def cZ{E:Kd->Ks->Prop}{Od:Oo (Ki×Obj)}{s:Ks}{a:St}{H:Hp}{x:Str}{u:Kd}{pos:Pos}{Q:Kd->Ks->Prop}(I:Inv X Od a H s)(c:Gl X x)(b:X.mg x=N8 u)(h:Q u s)
  (hd:(x == ("__debug__" : Str))=false:=by decide):Kw (model X.prog X.w) X.A (eval (.Name x pos) X.env) Q E s :=
 Qb I.ok.kind c (Calls.loadGlobal_global (by rw[I.ok.glob];exact I.mod.glob.keeps I.bk) b h) hd
def fK{E:Kd->Ks->Prop}{Od:Oo (Ki×Obj)}{s:Ks}{a:St}{H:Hp}{x:Str}{u:Kd}{pos:Pos}{Q:Kd->Ks->Prop}(I:Inv X Od a H s)(e:Gl X x)(d:X.mg x=N9)(b:Kq x=N8 u)(h:Q u s)
  (c:x ≠ "__name__" := by decide) (hd:(x == ("__debug__" : Str))=false:=by decide):Kw (model X.prog X.w) X.A (eval (.Name x pos) X.env) Q E s:=by
 let(i,g,f):=I.mod.blt;calc Qb I.ok.kind e (Calls.loadGlobal_builtin (by rw[I.ok.glob];exact I.mod.glob.keeps I.bk) d (by rw[I.ok.blt];exact g.keeps I.bk) ((f x c).trans b) h) hd
def c9{x:Str}{v:V}{u:Kd}{pos:Pos}(b:Gl X x)(a:X.mg x=N8 u)(r:RelV v u)(hd:(x == ("__debug__" : Str))=false:=by decide):PE X (.Name x pos) (tC v) :=
 λ_ _ _ H _ I h=>cZ I b a (v,H,I,r,h,) hd
def mK{x:Str}{v:V}{u:Kd}{pos:Pos}(d:Gl X x)(c:X.mg x=N9)(a:Kq x=N8 u)(r:RelV v u)(b:x ≠ "__name__" := by decide) (hd:(x == ("__debug__" : Str))=false:=by decide):PE X (.Name x pos) (tC v) :=
 λ_ _ _ H _ I h=>fK I d c a (v,H,I,r,h,) b hd
variable{a b:Kz}
inductive tBq  (Q:Bool->RK)(x:V)(H1:Hp):Prop
 |mk (c:_)(_:x=.bl c)(_:Q c H1):tBq Q x H1
def  tB(t:TE):TT:=λa H Q=>t a H λx b=>tBq Q x b
def jz{e:Kz}{t:TE}(h:PE X e t)(i:∀a,KA e X.env a=(do let v ←a;KN e.pos;holding [v] (truthy v)):=by intro _;rfl):PT X e (tB t):=by
 intro Od s b H Q I g;calc isTrue_plain (thn (h Od s b H _ I g) λv l (x,k,j,c,f,)=>?_)<|i _;let(d,rfl,q):=f;cases c;calc KO (k,j,q,)
variable{tA tB':TT}{rest:Oo Kz}
def  Gn(t u:TT):TT:=λa H Q=>t a H λc b=>if c=Oa then u a b Q else Q Ob b
def  tOr(t u:TT):TT:=λa H Q=>t a H λc b=>if c=Oa then Q Oa b else u a b Q
def  Gp(t:TT):TT:=λa H Q=>t a H λc b=>Q (!c) b
def wB(d:PT X a tA):PW X (.BoolOp .And [a] pos) tA:=by
 intro f Od s b H Q I h;calc isTrue_and<|thn (d Od s b H Q I h) λc g e=>?_;cases c with
 |true=>exact isTrue_and_nil e
 |false=>calc e
def C6(d:PT X a tA):PW X (.BoolOp .Or [a] pos) tA:=by
 intro f Od s b H Q I h;calc isTrue_or<|thn (d Od s b H Q I h) λc g e=>?_;cases c with
 |false=>exact isTrue_or_nil e
 |true=>calc e
def yY(l:PT X a tA)(k:PW X (.BoolOp .And (b :: rest) pos) tB'):PW X (.BoolOp .And (a :: b :: rest) pos) (Gn tA tB'):=by
 intro i Od s d H Q I h;calc isTrue_and<|thn (l Od s d H _ I h) λc j (g,f,e,)=>?_;cases c with
 |true=>exact k i Od j d g Q f e
 |false=>calc(g,f,e,)
def EG(l:PT X a tA)(k:PW X (.BoolOp .Or (b :: rest) pos) tB'):PW X (.BoolOp .Or (a :: b :: rest) pos) (tOr tA tB'):=by
 intro i Od s d H Q I h;calc isTrue_or<|thn (l Od s d H _ I h) λc j (g,f,e,)=>?_;cases c with
 |true=>exact(g,f,e,)
 |false=>calc k i Od j d g Q f e
def eA(d:PT X a tA):PT X (.UnaryOp .Not a pos) (Gp tA):=by
 intro Od s b H Q I h;calc isTrue_not<|d Od s b H (λc e=>Q (!c) e) I h
inductive yZ(tb:TE)(σ:St)(Q:VK)(x:V)(H1:Hp):Prop
 |mk (c:_)(_:x=.bl c)(_:if c=Oa then tb σ H1 Q else Q (.bl Ob) H1)
def  EH(ta tb:TE):TE:=λa H Q=>ta a H λx b=>yZ tb a Q x b
inductive y9  (Q:VK)(x:V)(H1:Hp):Prop
 |mk (c:_)(_:x=.bl c)(_:Q (.bl<|!c) H1):y9 Q x H1
def  EI(ta:TE):TE:=λa H Q=>ta a H λx b=>y9 Q x b
def kT{op} {t:TE}(h:PE X a t):PE X (.BoolOp op [a] pos) t:=λOd s b H Q I c=>BoolOp_one<|h Od s b H Q I c
def gX(l:PE X a ta)(k:PE X (.BoolOp .And (b :: rest) pos) tb):PE X (.BoolOp .And (a :: b :: rest) pos) (EH ta tb):=by
 intro Od s e H Q I h;calc BoolOp_and<|thn (l Od s e H _ I h) λv i (x,g,f,j,d,)=>?_;let(c,rfl,d):=d;cases j;calc KO ?_;cases c with
 |true=>exact k Od i e g Q f d
 |false=>calc(.bl Ob,g,f,U,d,)
def za(f:PE X a ta):PE X (.UnaryOp .Not a pos) (EI ta):=by
 intro Od s d H Q I h;calc UnaryOp_<|thn (f Od s d H _ I h) λv j (x,i,g,e,b,)=>?_;let(c,rfl,b):=b;cases e;calc not_of<|KO (.bl<|!c,i,g,U,b,)
def  tIf(t:TT)(ta tb:TE):TE:=λa H Q=>t a H λc b=>if c=Oa then ta a b Q else tb a b Q
def m8{c:Kz}(k:PT X c tA)(m:PE X a ta)(l:PE X b tb):PE X (.IfExp c a b pos) (tIf tA ta tb):=by
 intro Od s e H Q I h;calc wpAny_IfExp<|thn (k Od s e H _ I h) λd f (j,i,g,)=>?_;cases d with
 |true=>exact m Od f e j Q i g
 |false=>calc l Od f e j Q i g
end
def  SqL(K:bd)(H:Hp)(a:Ki)(xs:Oo V):Prop :=
 Rd H a (.lst xs) \/
  ∃(o:Obj)(b:Array Kd)(n:Nat),K.lookup a=N8 o/\o.cls=.type "list" /\ o.dict=N9/\o.data=.seq b n/\b.size<=Kk/\Vals xs b.toList
def  SqT(K:bd)(H:Hp)(a:Ki)(xs:Oo V):Prop :=
 Rd H a (.tup xs) \/
  ∃(o:Obj)(b:Array Kd)(n:Nat),K.lookup a=N8 o/\o.cls=.type "tuple" /\ o.data=.seq b n/\b.size<=Kk/\Vals xs b.toList
def  Gq:Kd->Option V
 | .none=>N8 .non
 | .bool b=>N8<|.bl b
 | .int i _=>N8<|.int i
 | .str x _=>N8<|.str x
 | .bytes b _=>N8<|.byt b
 | .float b _=>N8<|.flt b
 | .ref a=>↑a
 | .type n=>N8<|.ty n
 |_=>N9
def RelV.abs{x:V}{u:Kd}(r:RelV x u):Gq u=N8 x:=by
 cases x with
 |non=>cases r;rfl
 |bl _=>cases r;rfl
 |int _=>obtain⟨t,rfl⟩:=r;rfl
 |str _=>obtain⟨t,rfl⟩:=r;rfl
 |byt _=>obtain⟨t,rfl⟩:=r;rfl
 |flt _=>obtain⟨t,rfl⟩:=r;rfl
 |ref _=>cases r;rfl
 |ty _=>cases r;rfl
def RelV.inj{x y:V}{u:Kd}(r:RelV x u)(q:RelV y u):x=y:=ci<|r.abs.symm.trans q.abs
def Vals.inj:∀{xs ys:Oo V}{us:Oo Kd},Vals xs us->Vals ys us->xs=ys
 |_,_,_,.nil,.nil=>rfl
 |_,_,_,.cons r t,.cons r' t'=>by rw[r.inj r',Vals.inj t t']
variable{σ:St}
section
variable{xs ys:Oo V}
def SqL.of{K:bd}(h:H a=N8 (.lst xs)):SqL K H a xs:=.inl<|.inl h
def SqT.of{K:bd}(h:H a=N8 (.tup xs)):SqT K H a xs:=.inl<|.inl h
def Inv.list(I:Inv X Od σ H s)(h:SqL X.K H a xs):∃b:Oo Kd,Vals xs b/\PlainL s.heap a b.toArray/\⇑xs<=Kk:=by
 rcases h with h|⟨o,b,n,d,f,hd,c,g,r⟩
 .let(z,b,n,r,e):=h.ok I.hok;exact(b,r,(_,n,e,U,U,U,),z,)
 .refine(b.toList,r,(o,n,I.kIn a o d,f,hd,~~~c,),?_,);let e:=⇑r;simp only[FV]at e;lia
def Inv.tuple(I:Inv X Od σ H s)(h:SqT X.K H a xs):∃b:Oo Kd,Vals xs b/\IsTup s.heap a b.toArray/\⇑xs<=Kk:=by
 rcases h with h|⟨o,b,n,d,f,c,g,r⟩
 .let(z,b,r,p):=h.ok I.hok;exact(b,r,p,z,)
 .refine(b.toList,r,(o,I.kIn a o d,f,n,~~~c,),?_,);let e:=⇑r;simp only[FV]at e;lia
def Inv.list_inj(I:Inv X Od σ H s)(h:SqL X.K H a xs)(h':SqL X.K H a ys):xs=ys:=by
 let(c,r,(o,n,e,_,_,d),_):=I.list h;let(b,i,(k,l,f,_,_,g),_):=I.list h';rw[e]at f;cases f;rw[d]at g;injection g with j _;let:c=b:= ~~~Ol QF j
 subst this;calc r.inj i
def Inv.tuple_inj(I:Inv X Od σ H s)(h:SqT X.K H a xs)(h':SqT X.K H a ys):xs=ys:=by
 let(c,r,(o,e,_,n,d),_):=I.tuple h;let(b,i,(k,f,_,l,g),_):=I.tuple h';rw[e]at f;cases f;rw[d]at g;injection g with j _;let:c=b:= ~~~Ol QF j
 subst this;calc r.inj i
end
open SqT renaming of→RG
open SqL renaming of→RF
abbrev Cx.wish(X:Cx)(E:Kd->Ks->Prop):Cx:={ X with xe:=E }
abbrev Cx.nox(X:Cx):Cx:=X.wish λ_ _=>False
open Cx renaming wish→RH,nox→RI
def Cx.Ok.wish{X:Cx}(ok:X.Ok)(E:Kd->Ks->Prop):(X.wish E).Ok :=
 (ok.mod,ok.kind,ok.glob,ok.blt,ok.above,ok.inj,ok.has,ok.cab,ok.hd,ok.frames,ok.stk,ok.exf,ok.bs,ok.bsz,ok.noex,ok.exfs,ok.funs,ok.frf,)
def Cx.Ok.unwish{X:Cx}{E:Kd->Ks->Prop}(ok:(X.wish E).Ok):X.Ok :=
 (ok.mod,ok.kind,ok.glob,ok.blt,ok.above,ok.inj,ok.has,ok.cab,ok.hd,ok.frames,ok.stk,ok.exf,ok.bs,ok.bsz,ok.noex,ok.exfs,ok.funs,ok.frf,)
variable{E:Kd->Ks->Prop}
def Inv.wish(I:Inv X Od σ H s)(E:Kd->Ks->Prop):Inv (X.wish E) Od σ H s:=(I.ok.wish E,I.os,I.bare,I.base,I.loc,I.cell,I.free,I.freeC,I.pin,I.hok,I.len,)
def Inv.unwish(I:Inv (X.wish E) Od σ H s):Inv X Od σ H s:=(I.ok.unwish,I.os,I.bare,I.base,I.loc,I.cell,I.free,I.freeC,I.pin,I.hok,I.len,)
def SP.unwish{D:Ends}{f:Flow}{s':Ks}(h:SP (X.wish E) Od D f s'):SP X Od D f s':=by
 cases f with
 |next=>obtain⟨a,H',I,q⟩:=h;exact(a,H',I.unwish,q,)
 |brk=>obtain⟨a,H',I,q⟩:=h;exact(a,H',I.unwish,q,)
 |cont=>obtain⟨a,H',I,q⟩:=h;exact(a,H',I.unwish,q,)
 |ret u=>obtain⟨v,a,H',I,r,q⟩:=h;calc(v,a,H',I.unwish,r,q,)
def PE.nox{e:Kz}{t:TE}(h:PE X.nox e t):PE X e t:=λOd s σ H Q I a =>
 KH (h Od s σ H Q (I.wish _) a) (λ_ _ (v,H',b,r,q,)=>(v,H',b.unwish,r,q,)) λ_ _ z=>io z
def PSs.nox{st:Oo KG}{t:TS}(h:PSs X.nox st t):PSs X st t:=λOd s σ H D I a =>
 KH (h Od s σ H D (I.wish _) a) (λ_ _ q=>q.unwish) λ_ _ z=>io z
variable{e:Kz}{te:TE}
section
variable{st:KG}{rest:Oo KG}{t u:TS}
def  EJ:TS:=λD σ H=>D.nx σ H
def  aS(t u:TS):TS:=λD σ H=>t { D with nx:=u D } σ H
def aM:PSs X [] EJ:=λ_ _ σ H _ I h=>KP (σ,H,I,h,)
def au(d:PS X st t)(c:PSs X rest u):PSs X (st :: rest) (aS t u):=by
 intro Od s σ H D I h;calc KQ<|thn (d Od s σ H { D with nx:=u D } I h) λf b q=>?_;cases f with
 |next =>
  let(a,H',e,q):=q;exact c Od b a H' D e q
 |ret v=>exact q
 |brk=>exact q
 |cont=>calc q
def ak(a:PS X st t):PSs X [st] t:=by
 intro Od s σ H D I h;calc KQ<|thn (a Od s σ H D I h) λf b q=>?_;cases f with
 |next=>exact KP q
 |ret v=>exact q
 |brk=>exact q
 |cont=>calc q
def Inv.quiet{Od:Oo (Ki×Obj)}{σ:St}{H:Hp}{s:Ks}(I:Inv X Od σ H s):interactive X.env=false:=by simp[interactive,I.ok.kind]
def  EK(te:TE):TS:=λD σ H=>te σ H λ_ a=>D.nx σ a
def bj(c:PE X e te)(b:KR e N9 pos.line X.env=pure false:=by rfl):PS X (.Expr e pos) (EK te):=by
 intro Od s σ H D I h;calc KS (thn (c Od s σ H _ I h) λv g (x,f,d,i,a,)=>(σ,f,d,a,)) I.quiet b
def  Gr(te:TE):TS:=λD σ H=>te σ H D.rt
def ay(c:PE X e te):PS X (.Return (N8 e) pos) (Gr te):=by
 intro Od s σ H D I h;calc wpAny_Return_some<|thn (c Od s σ H _ I h) λv g (x,f,d,a,b,)=>(x,σ,f,d,a,b,)
def  Gs(c:TT)(t u:TS):TS:=λD σ H=>c σ H λb a=>if b=Oa then t D σ a else u D σ a
def bx{c:Kz}{a b:Oo KG}{e:TT}(k:PT X c e)(m:PSs X a t)(l:PSs X b u):PS X (.If c a b pos) (Gs e t u):=by
 intro Od s σ H D I h;calc wpAny_If<|thn (k Od s σ H _ I h) λd f (j,i,g,)=>?_;cases d with
 |true=>exact m Od f σ j D i g
 |false=>calc l Od f σ j D i g
def  C7:TS:=λ_ _ _=>False
def cX:PS X st C7:=λ_ _ _ _ _ _ h=>h.elim
end
abbrev TG:=V->St->Hp->(RJ)->Prop
abbrev TGs:=Oo V->St->Hp->(RJ)->Prop
def  PG(X:Cx)(a:Kz)(t:TG):Prop :=
 ∀(Od:Oo (Ki×Obj))(s:Ks)(σ:St)(H:Hp)(v:V)(u:Kd)(Q:RJ),Inv X Od σ H s->RelV v u->t v σ H Q ->
  Kw (model X.prog X.w) X.A (assign a X.env u) (λ_ c=>∃b H',Inv X Od b H' c/\Q b H') X.xe s
def  PGs(X:Cx)(ts:Oo Kz)(t:TGs):Prop :=
 ∀(Od:Oo (Ki×Obj))(s:Ks)(σ:St)(H:Hp)(b:Oo V)(c:Oo Kd)(Q:RJ),Inv X Od σ H s->Vals b c->t b σ H Q ->
  Kw (model X.prog X.w) X.A (assignInOrder ((KU ts X.env).map (·.2)) c) (λ_ d=>∃a H',Inv X Od a H' d/\Q a H') X.xe s
abbrev C8:=V->V->V->Hp->(RK)->Prop
def  EL(X:Cx)(t:C8):Prop :=
 ∀(Od:Oo (Ki×Obj))(s:Ks)(σ:St)(H:Hp)(o i v:V)(a b u:Kd)(Q:RK),Inv X Od σ H s->RelV o a->RelV i b->RelV v u->t o i v H Q ->
  Kw (model X.prog X.w) X.A (setItem a b u) (λ_ c=>∃H',Inv X Od σ H' c/\Q H') X.xe s
abbrev TIp:=V->V->Hp->VK->Prop
def  PIp(X:Cx)(op:KW)(t:TIp):Prop :=
 ∀(Od:Oo (Ki×Obj))(s:Ks)(σ:St)(H:Hp)(x y:V)(v u:Kd)(Q:VK),Inv X Od σ H s->RelV x v->RelV y u->t x y H Q ->
  Kw (model X.prog X.w) X.A (inplaceOp op v u) (EP X Od σ Q) X.xe s
def  p7(i:Nat):TG:=λv σ H Q=>Q (σ.set i<|N8 v) H
def az{i:Nat}{x:Str}(c:X.N.Nodup)(hi:X.N[i]?=N8 x)(a:Loc X.env.scope x)(b:X.fn x=Oa\/X.env.scope.names.lookup x=N8 .local:=by first|exact .inl U|exact .inr U|assumption):PG X (.Name x pos) (p7 i):=by
 intro Od s σ H v u Q I r h;calc KY<|gW I c hi a r (λe d=>(_,H,d,h,)) b
def  Gu:TGs:=λa σ H Q=>a=[]/\Q σ H
def  EM(t:TG)(u:TGs):TGs:=λb σ H Q=>∃v r,b=v :: r/\t v σ H λa H'=>u r a H' Q
def bM:PGs X [] Gu:=by
 intro Od s σ H a b Q I r h;let(e,h):=h;subst e;cases r;calc assignInOrder_nil (σ,H,I,h,)
def aF{e:Kz}{a:Oo Kz}{t:TG}{u:TGs}(j:PG X e t)(i:PGs X a u)
  (g:(KU (e :: a) X.env).map (·.2)=assign e X.env :: (KU a X.env).map (·.2):=by rfl):PGs X (e :: a) (EM t u):=by
 intro Od s σ H n p Q I r h;let(v,o,k,h):=h;subst k;cases r with
 |cons r d =>
  rw[g];calc assignInOrder_cons<|thn (j Od s σ H _ _ _ I r h) λ_ c (b,m,l,f,)=>?_;calc i Od c b m _ _ Q l d f
def  C9(K:bd)(n:Nat)(t:TGs):TG:=λv σ H Q=>∃a b,v=.ref a/\SqT K H a b/\⇑b=n/\t b σ H Q
def fL{c:Oo Kz}{k:Nat}{t:TGs}{n:Nat}(w:X.calm=Oa)(h:PGs X c t)
  (p:⇑(KU c X.env)=n:=by rfl)(f:(KU c X.env).findIdx? (·.1)=none:=by rfl):PG X (.Tuple c k pos) (C9 X.K n t):=by
 intro Od s σ H v u Q I r d;let(a,i,x,m,q,d):=d;subst x;cases r;let(z,g,l,A):=I.tuple m;refine assign_Tuple_tuple (I.ok.hd w) l (by simp[p,←q,⇑g]) f λh' j=>?_
 let y:Inv X Od σ H { s with heap:=h' }:=I.kept (t':=s.toks) λb o e=>j b o (vl<|bi e) e
 calc h Od _ σ H i _ Q y (~~~g) d
def  Gv(to ti:TE)(t:C8):TG:=λv σ H Q=>to σ H λo c=>ti σ c λi b=>t o i v b λa=>Q σ a
def Dc{o i:Kz}{to ti:TE}{t:C8}(l:PE X o to)(hi:PE X i ti)(k:EL X t)
  (m:∀v,assign (.Subscript o i pos) X.env v=(do
   let a ←holding [v] (eval o X.env)
   let b ←holding [v,a] (eval i X.env)
   KN pos
   holding [v,a,b] (setItem a b v)
   release [v,a,b] []):=by intro _;rfl):PG X (.Subscript o i pos) (Gv to ti t):=by
 intro Od s σ H v u Q I r h;rw[m];calc JZ<|Kb<|thn (l Od s σ H _ I h) λa c (x,A,q,e,j,)=>?_;calc JZ<|Kb<|thn (hi Od c σ A _ q j) λb s2 (y,z,p,d,g,)=>?_;calc JZ<|KZ<|JZ<|Kb<|thn (k Od s2 σ z x y v a b u _ p e d r g) λ_ B (w,n,f,)=>?_;calc wpAny_release (σ,w,n,f,)
def  Bd(te:TE)(g:TG):TS:=λD σ H=>te σ H λx a=>g x σ a D.nx
def Dd{a e:Kz}{te:TE}{g:TG}(k:PE X e te)(j:PG X a g)(i:swapsWithSole [a] e pos.line X.env=pure false:=by rfl)(f:swappedStores [a] e X.env=pure none:=by rfl)
  (l:(KU [a] X.env).map (·.2)=[assign a X.env]:=by rfl):PS X (.Assign [a] e pos) (Bd te g):=by
 intro Od s σ H D I h;calc wpAny_Assign_stores (thn (k Od s σ H _ I h) λv b (x,n,m,c,d,)=>?_) i f;rw[l];calc thn (j Od b σ n x v _ m c d) λ_ s2 q=>q
def aK{i:Nat}{x:Str}{e:Kz}{te:TE}{a:Pos}(k:X.N.Nodup)(hi:X.N[i]?=N8 x)(d:Loc X.env.scope x)(j:PE X e te)(f:KR e (N8<|.Name x a) pos.line X.env=pure false:=by rfl)(g:X.fn x=Oa\/X.env.scope.names.lookup x=N8 .local:=by first|exact .inl U|exact .inr U|assumption) :
  PS X (.Assign [.Name x a] e pos) (Bd te<|p7 i):=by
 intro Od s σ H D I h;calc wpAny_Assign_Name (thn (j Od s σ H _ I h) λv o (y,n,m,b,c,)=>?_) f;calc gW m k hi d b (λs2 l=>(_,n,l,c,)) g
inductive EN(i:Nat)(te:TE)(ti:TIp)(D:Ends)(σ:St)(H:Hp):Prop
 |mk (x:_)(_:σ[i]?=N8 (N8 x))(_:te σ H λy H1=>ti x y H1 λz H2=>D.nx (σ.set i<|N8 z) H2)
def uO{i:Nat}{x:Str}{e:Kz}{te:TE}{op:KW}{ti:TIp}{f:Pos}(O:X.N.Nodup)(hi:X.N[i]?=N8 x)(g:Loc X.env.scope x)(L:PE X e te)(E:PIp X op ti)(K:X.fn x=Oa\/X.env.scope.names.lookup x=N8 .local:=by first|exact .inl U|exact .inr U|assumption) :
  PS X (.AugAssign (.Name x f) op e pos) (EN i te ti):=by
 intro Od s σ H D I h;let(v,P,h):=h;let(m,F,J):=I.loc;let j:Vis X.env.scope x:=by rcases g with k|k;calc .inl k;exact .inr<|.inl k
 let(u,r,l):=J i x v hi P j;calc wpAny_AugAssign_Name ?_;let n:Kw (model X.prog X.w) X.A (eval e X.env) (λw d=>Kw (model X.prog X.w) X.A (inplaceOp op u w) (λr b=>Kw (model X.prog X.w) X.A (Ky X.env x r) (λ_=>SP X Od D .next) X.xe b) X.xe d) X.xe s:=by
  refine thn (L Od s σ H _ I h) λw o (y,V,S,q,B,)=>?_
  refine thn (E Od o σ V v y u w _ S r q B) λz s2 (W,T,R,p,t,)=>?_
  exact gW R O hi g p (λY Q=>(_,T,Q,t,)) K
 rcases l with⟨a,G⟩|⟨a,c,M,C⟩
 .exact KJ I.ok.kind a F G n
 .rcases a with a|a
  .exact KL I.ok.kind a M C n
  .rcases g with k|k
   .let:X.env.scope.names.lookup x=N8 .free:=a;rw[k]at this;cases this
   .let:X.env.scope.names.lookup x=N8 .free:=a;rw[k]at this;cases this
def  ipI(f:Int->Int->Int):TIp:=λx y H Q=>∃i j,x=.int i/\y=.int j/\Q (.int<|f i j) H
def De:PIp X .Add (ipI λi j=>i+j):=by
 intro Od s σ H x y v u Q I b a h;let(i,j,d,c,q):=h;subst d;subst c;let(t,rfl):=b;let(e,rfl):=a;calc iadd_int (.int _,H,I.tok _,(_,U,),q,)
def  Df(c:TT)(tb:TS):TS:=λD σ H=>∃W:Nat->RJ,(∃m,W m σ H)/\∀m σ H,W m σ H ->
 c σ H λb e=>if b=Oa then ∃N:RJ,(∀a H',N a H'->∃d,d<m/\W d a H')/\tb { D with nx:=N,ct:=N,bk:=D.nx } σ e else D.nx σ e
def zc{c:Kz}{body:Oo KG}{q:TT}{tb:TS}(r:K0 (model X.prog X.w) X.A X.env X.xe)(G:PT X c q)(J:PSs X body tb):PS X (.While c body [] pos) (Df q tb):=by
 intro Od s σ H D I h;let(W,(F,B),i):=h;calc wpAny_While<|codeAny_whileLoop (λn E=>∃g H',Inv X Od g H' E/\W n g H') ?_ F (σ,H,I,B,);rintro n C ⟨d,y,K,z⟩;calc K1 r<|thn (G Od C d y _ K<|i n d y z) λb s2 (x,u,k,)=>?_;cases b with
 |true =>
  let(N,t,k):=k;rw[Of U];calc K1 r<|thn (J Od s2 d x _ u k) λf L j=>?_;cases f with
  |next =>
   let(a,e,p,l):=j;let(m,o,w3):=t a e l;exact(m,o,a,e,p,w3,)
  |cont =>
   let(a,e,p,l):=j;let(m,o,w3):=t a e l;exact(m,o,a,e,p,w3,)
  |brk=>exact j
  |ret v=>exact j
 |false =>
  rw[Oe bv];calc KP (d,x,u,k,)
structure It where
 go:Nat->RK
 yld:Nat->Hp->V->RK
 stop:Nat->RK
def  gY(X:Cx)(Od:Oo (Ki×Obj))(H:Hp)(b:Ki):Prop :=
 H b=N9/\b≠X.env.locals/\b ∉ X.fs/\(b∈X.ex\/X.s₀.heap.objs.size<=b)/\(∀x c,X.env.cells.lookup x=N8 c->c≠b)/\∀p∈X.pn++Od,p.1≠b
def Inv.fpOk{X:Cx}{Od:Oo (Ki×Obj)}{σ:St}{H H':Hp}{s:Ks}{b:Ki}(I:Inv X Od σ H s)(a:↥s<=b)(f:H' b=N9):gY X Od H' b:=by
 refine(f,wz<|v5 I.lt a,I.nofs a,.inr<|vr I.sz a,λx c e z=>?_,λp d z=>?_,)
 .let(v,q):=I.cell x c e;exact Og (v5 q.lt (by rw[z];exact a)) (w4 _)
 .exact Og (v5 (bi (I.pin p d).1) (by rw[z];exact a)) (w4 _)
structure Turn(P:Kf)(w:Ke)(K:bd)(tg:Kz)(J:It)(fp:Oo Ki)(it:Ki)(tn:Nat->Kj->Prop):Prop where
 mem:it∈fp
 obj:∀i h,tn i h->∀b∈fp,∃o,h.get? b=N8 o/\∀v,o.data≠.cell v
 keep:∀i h h',tn i h->(∀b∈fp,∀o,h.get? b=N8 o->h'.get? b=N8 o)->tn i h'
 item:∀(X:Cx),X.prog=P->X.w=w->X.K=K->X.calm=Oa->∀(i:Nat)(Od:Oo (Ki×Obj))(s:Ks)(σ:St)(H:Hp)(E:Kd->Ks->Prop),Inv X Od σ H s->(∀b∈fp,gY X Od H b)->tn i s.heap->J.go i H ->
  Kw (model P w) X.A (K2<|.ref it) (λr s1=>∃u,r=N8 u /\
   Kw (model P w) X.A (K3 tg (.ref it) u) (λ_ s2=>∃x H',Inv X Od σ H' s2/\RelV x u/\J.yld i H x H'/\tn (i+1) s2.heap/\∀b∈fp,H' b=N9) E s1) E s
 done:∀(X:Cx),X.prog=P->X.w=w->X.K=K->X.calm=Oa->∀(i:Nat)(Od:Oo (Ki×Obj))(s:Ks)(σ:St)(H:Hp)(E:Kd->Ks->Prop),Inv X Od σ H s->(∀b∈fp,gY X Od H b)->tn i s.heap->J.stop i H ->
  Kw (model P w) X.A (K2<|.ref it) (λr s1=>r=N9/\Inv X Od σ H s1) E s
 self:∀(A:Kr)(i:Nat)(s:Ks)(Q:Kd->Ks->Prop)(E:Kd->Ks->Prop),tn i s.heap->Q (.ref it) s->Kw (model P w) A (K4<|.ref it) Q E s
abbrev TI:=St->Hp->(It->RK)->Prop
def  PIE(X:Cx)(Od:Oo (Ki×Obj))(σ:St)(e:Kz)(R:It->RK)(a:Kd)(s2:Ks):Prop :=
 ∃(it:Ki)(d:Oo Ki)(c:Nat->Kj->Prop)(J:It)(H':Hp),a=.ref it/\Inv X Od σ H' s2/\Turn X.prog X.w X.K e J d it c/\c 0 s2.heap/\(∀b∈d,gY X Od H' b)/\R J H'
def  PI(X:Cx)(c a:Kz)(b:TI):Prop :=
 ∀(Od:Oo (Ki×Obj))(s:Ks)(σ:St)(H:Hp)(R:It->RK),Inv X Od σ H s->b σ H R ->
  Kw (model X.prog X.w) X.A (eval a X.env) (λv d=>Kw (model X.prog X.w) X.A (K4 v) (PIE X Od σ c R) X.xe d) X.xe s
def p8{M:Kv}{A:Kr}{E:Kd->Ks->Prop}{s:Ks}{b:Kz}{it:Ki}{u:Kd}{o:Obj}{n:String}{vs:Array Kd}{Q:Unit->Ks->Prop}(c:s.heap.get? it=N8 o)(e:o.cls=.type n)(hd:o.data=.fields vs)
  (d:["enumerate","zip","dict_itemiterator","dict_reverseitemiterator","odict_iterator","itertools.zip_longest","itertools.pairwise"].contains n=Ob) (a:Q () s):Kw M A (K3 b (.ref it) u) Q E s:=by
 unfold K3
 cases b <;> first
  |exact Ka a
  |(cases u <;> first
    |exact Ka a
    |(calc JZ (wpAny_load c ?_);rw[e,hd];show Kw M A (if (["enumerate","zip","dict_itemiterator","dict_reverseitemiterator","odict_iterator","itertools.zip_longest","itertools.pairwise"].contains n && vs[0]? == N8 (K5 _))=Oa then _ else _) Q E s;rw[Oe (by intro h;rw[d,Ow]at h;cases h)];exact Ka a))
def  Itl(K:bd)(a:Ki):It :=
 (λi H=>∃b x,SqL K H a b/\b[i]?=N8 x,λi H x H'=>H'=H/\∀b,SqL K H a b->b[i]?=N8 x,λi H=>∃b,SqL K H a b/\⇑b<=i,)
def  Itt(K:bd)(a:Ki):It :=
 (λi H=>∃b x,SqT K H a b/\b[i]?=N8 x,λi H x H'=>H'=H/\∀b,SqT K H a b->b[i]?=N8 x,λi H=>∃b,SqT K H a b/\⇑b<=i,)
def  Itr(lo:Int)(n:Nat):It:=(λi _=>i<n,λi H x H'=>H'=H/\x=.int (lo+i),λi _=>n<=i,)
def xJ{P:Kf}{w:Ke}{K:bd}{N:Kz}(a it:Ki):Turn P w K N (Itl K a) [it] it (λi h=>h.IsListIter it a i) where
 mem:=by simp
 obj:=λi h f b g=>by
  let e:b=it:= ~~~g
  subst e;let(o,e,c,d):=f;exact⟨o,e,λv z=>by rw[d]at z;cases z⟩
 keep:=λi h h' f k=>f.at λo e=>k it (by simp) o e
 item:=by
  intro X y r A L i Od s σ H E I m f t;subst y r A;let(M,x,l,q):=t;let(J,n,p,Q):=I.list l;let(u,S,O):=n.get q;let(G,F,T,D,C,B):=m it (by simp);refine K6 f p.isList (x:=u) (~~~S) λh' j sb=>?_
  let Y:Inv X Od σ H { s with heap:=h' }:=I.turned (t':=s.toks) (λb o g e=>(sb.2 b g).trans e) G F D C B;let(o,e,c,d):=id j;exact(u,U,p8 (s:={ s with heap:=h' }) e c d ⋯ (x,H,Y,O,(U,λZ R=>by rw[I.list_inj R l];exact q,),j,λb g=>(m b g).1,),)
 done:=by
  intro X y r A L i Od s σ H E I m f t;subst y r A;let(M,l,q):=t;let(J,n,p,Q):=I.list l;let(G,F,T,D,C,B):=m it (by simp);let hl:=⇑n;exact K7 (I.ok.hd L) f p.isList (by simp;lia) λh' V=>(U,I.turned (t':=s.toks) (λb o g e=>V b o g e) G F D C B,)
 self:=λ_ _ _ _ _ f h=>wpAny_pyIter_listiter f h
def uP{P:Kf}{w:Ke}{K:bd}{N:Kz}(a it:Ki):Turn P w K N (Itt K a) [it] it (λi h=>h.IsTupleIter it a i) where
 mem:=by simp
 obj:=λi h f b g=>by
  let e:b=it:= ~~~g
  subst e;let(o,e,c,d):=f;exact⟨o,e,λv z=>by rw[d]at z;cases z⟩
 keep:=λi h h' f k=>f.at λo e=>k it (by simp) o e
 item:=by
  intro X A t B L i Od s σ H E I n f y;subst A t B;let(M,x,m,r):=y;let(j,q,p,Q):=I.tuple m;let(u,S,O):=q.get r;let(J,G,T,F,D,C):=n it (by simp);refine wpAny_pyNext_tuple_item f (show s.heap.IsTuple a j.toArray from p) (x:=u) (~~~S) λh' l sb=>?_
  let Y:Inv X Od σ H { s with heap:=h' }:=I.turned (t':=s.toks) (λb o g e=>(sb.2 b g).trans e) J G F D C;let(o,e,c,d):=id l;exact(u,U,p8 (s:={ s with heap:=h' }) e c d ⋯ (x,H,Y,O,(U,λZ R=>by rw[I.tuple_inj R m];exact r,),l,λb g=>(n b g).1,),)
 done:=by
  intro X A t B L i Od s σ H E I n f y;subst A t B;let(M,m,r):=y;let(j,q,p,Q):=I.tuple m;let(J,G,T,F,D,C):=n it (by simp);let hl:=⇑q;exact wpAny_pyNext_tuple_end (I.ok.hd L) f (show s.heap.IsTuple a j.toArray from p) (by simp;lia) λh' V=>(U,I.turned (t':=s.toks) (λb o g e=>V b o g e) J G F D C,)
 self:=λ_ _ _ _ _ f h=>wpAny_pyIter_tupleiter f h
def uQ{P:Kf}{w:Ke}{K:bd}{C:Kz}(it:Ki)(lo:Int)(n:Nat):Turn P w K C (Itr lo n) [it] it (λi h=>K8 h it (lo+(i:Nat)*1) ((n:Int)-(i:Nat)) 1) where
 mem:=by simp
 obj:=λi h a b c=>by
  let e:b=it:= ~~~c
  subst e;exact⟨_,a,λv z=>by
   let B:Data.fields _=Data.cell v:=z;cases B⟩
 keep:=λi h h' a k=>k it (by simp) _ a
 item:=by
  intro X m g p l i Od s σ H E I f a j;subst m g p;let(y,x,G,u,r,q):=f it (by simp);let W:=K9.range (prog:=X.prog) (w:=X.w) (I.ok.hd l) it lo 1 n;refine W.item i s _ _ j a λv h' A F d D=>?_
  let(t,rfl):=F;let L:Inv X Od σ H { s with heap:=h',toks:=A }:=I.turned (λb o c e=>D b o (~~~c) e) y x u r q;calc(_,U,p8 (s:={ s with heap:=h',toks:=A }) (n := "range_iterator") d U U ⋯ (.int<|lo+i,H,L,(t,?_,),(U,U,),d,λb c=>(f b c).1,),);rw[Int.mul_one]
 done:=by
  intro X m g p l i Od s σ H E I f a j;subst m g p;let(y,x,G,u,r,q):=f it (by simp);exact La (I.ok.hd l) a (by have:n<=i:=j;lia) λh' J=>(U,I.turned (t':=s.toks) (λb o c e=>J b o c e) y x u r q,)
 self:=λ_ _ _ _ _ a h=>Lb a h
section
variable{tg:Kz}
inductive zd(K:bd)(R:It->RK)(x:V)(H1:Hp):Prop
 |mk (a:_)(_:x=.ref a)(_:(∃xs,SqL K H1 a xs))(_:R (Itl K a) H1)
def  EO(K:bd)(tl:TE):TI:=λσ H R=>tl σ H λx a=>zd K R x a
inductive Cq(K:bd)(R:It->RK)(x:V)(H1:Hp):Prop
 |mk (a:_)(_:x=.ref a)(_:(∃xs,SqT K H1 a xs))(_:R (Itt K a) H1)
def  Gw(K:bd)(tl:TE):TI:=λσ H R=>tl σ H λx a=>Cq K R x a
def aQ{l:Kz}{tl:TE}(j:PE X l tl):PI X tg l (EO X.K tl):=by
 intro Od s σ H R I h;refine thn (j Od s σ H _ I h) λv c (x,m,d,f,g,)=>?_
 let(a,e,(r,i),q):=g;subst e;cases f;let(n,t,p,u):=d.list i;calc Lc p.isList ?_;calc(↥c,[↥c],_,_,m,U,d.kept (t':=c.toks) λb o e=>am _ e,xJ a _,(_,bn _ U,U,U,),λb k=>?_,q,);let e:b=↥c:= ~~~k
 subst e;calc d.fpOk (vk _)<|d.hok.fresh<|vk _
def qY{l:Kz}{tl:TE}(k:PE X l tl):PI X tg l (Gw X.K tl):=by
 intro Od s σ H R I h;refine thn (k Od s σ H _ I h) λv c (x,n,d,g,i,)=>?_
 let(a,e,(r,j),q):=i;subst e;cases g;let(f,t,p,u):=d.tuple j;refine wpAny_pyIter_tuple (show c.heap.IsTuple a f.toArray from p) ?_;calc(↥c,[↥c],_,_,n,U,d.kept (t':=c.toks) λb o e=>am _ e,uP a _,(_,bn _ U,U,U,),λb m=>?_,q,);let e:b=↥c:= ~~~m
 subst e;calc d.fpOk (vk _)<|d.hok.fresh<|vk _
def zf{Od:Oo (Ki×Obj)}{σ:St}{H:Hp}{s:Ks}{R:It->RK}{E:Kd->Ks->Prop}{lo hi:Int}{t u v:Tok}{a:Nat}(I:Inv X Od σ H s)(i : -(2^62)<=lo)(h:lo<2^62)(g : -(2^62)<=hi)(f:hi<2^62)
  (q:R (Itr lo (hi-lo).toNat) H):Kw (model X.prog X.w) X.A (K4<|.ref ↥s) (PIE X Od σ tg R) E { s with heap:=s.heap.push { cls:=.type "range",data:=.fields #[.int lo t,.int hi u,.int 1 v] },toks:=a }:=by
 calc Ld (IsRange.new ..) (small_one i h g f) ?_;let c:Inv X Od σ H { s with heap:=s.heap.push { cls:=.type "range",data:=.fields #[.int lo t,.int hi u,.int 1 v] },toks:=a }:=I.kept λb o e=>am _ e
 refine((s.heap.push { cls:=.type "range",data:=.fields #[.int lo t,.int hi u,.int 1 v] }).objs.size,[(s.heap.push { cls:=.type "range",data:=.fields #[.int lo t,.int hi u,.int 1 v] }).objs.size],_,_,H,U,
  c.kept (t':=a) λb o e=>am _ e,uQ _ lo (hi-lo).toNat,?_,λb d=>?_,q,)
 .let k:lo+((0:Nat):Int)*1=lo:=by simp
  let j:(((hi-lo).toNat:Nat):Int)-((0:Nat):Int)=wr lo hi 1:=by rw[rangeSize_one];split <;> lia
  show K8 _ _ (lo+((0:Nat):Int)*1) ((((hi-lo).toNat:Nat):Int)-((0:Nat):Int)) 1;rw[k,j];exact bn _ U
 .let e:b=(s.heap.push { cls:=.type "range",data:=.fields #[.int lo t,.int hi u,.int 1 v] }).objs.size:= ~~~d
  subst e;calc c.fpOk (vk _)<|c.hok.fresh<|vk _
inductive zg  (R:It->RK)(vs:Oo V)(H1:Hp):Prop
 |mk (j:Int)(_:vs=[.int j])(_ : -(2^62)<=j)(_:j<2^62)(_:R (Itr 0 j.toNat) H1):zg R vs H1
def  ER(ta:TA):TI:=λσ H R=>ta σ H λa b=>zg R a b
def eQ{a:Kz}{ta:TA}{p pos:Pos}(i:Gl X "range") (hm:X.mg "range" = N9) (k:PA X [a] ta)(g:KD [a] X.env=[(Ob,eval a X.env)]:=by rfl):PI X tg (.Call (.Name "range" p) [a] [] pos) (ER ta):=by
 intro Od s σ H R I h;calc Call_<|fK I i hm boot_range<|nw (thn (k pos Od s σ H _ I h) λn o (m,u,l,d,b,)=>?_) g U;let(j,e,b,f,q):=b;subst e;cases d with
 |cons r c =>
  cases c;let(t,rfl):=r;calc call_range_1<|zf l ∅ ∅ b f (~~~q)
def  Gx(d:TI)(g:TG)(tb:TS):TS:=λD σ H=>d σ H λJ f=>∃W:Nat->Nat->RJ,(∃m,W 0 m σ f)/\∀i m σ H,W i m σ H ->
 (J.stop i H/\D.nx σ H)\/(J.go i H/\∃N:RJ,(∀a H',N a H'->∃c,c<m/\W (i+1) c a H')/\∀x H',J.yld i H x H'->g x σ H' λb e=>tb { D with nx:=N,ct:=N,bk:=D.nx } b e)
def  dk(fp:Oo Ki)(h:Kj):Oo (Ki×Obj):=fp.filterMap λb=>(h.get? b).map λo=>(b,o)
def dN{fp:Oo Ki}{h:Kj}{b:Ki}{o:Obj}(a:b∈fp)(e:h.get? b=N8 o):(b,o)∈dk fp h:=Rp.mpr (b,a,by rw[e];rfl,)
def xK{fp:Oo Ki}{h:Kj}{p:Ki×Obj}(a:p∈dk fp h):p.1∈fp/\h.get? p.1=N8 p.2:=by
 let(b,c,e):=Rp.mp a;cases q:h.get? b with
 |none=>rw[q]at e;cases e
 |some o =>
  rw[q]at e;let d:(b,o)=p:=ci e;subst d;calc(c,q,)
def Inv.pinned{Od:Oo (Ki×Obj)}{σ:St}{H:Hp}{s:Ks}{fp:Oo Ki}(I:Inv X Od σ H s)(h:∀b∈fp,gY X Od H b)(g:∀b∈fp,∃o,s.heap.get? b=N8 o/\∀v,o.data≠.cell v):Inv X (Od++dk fp s.heap) σ H s :=
 I.pins_of λp f=>(iH.mp f).elim (λz=>I.pin p<|ik _ z) λz=>by
  let(a,e):=xK z;let(k,j,i,_):=h p.1 a;let(o,c,d):=g p.1 a;rw[e]at c;cases c;calc(e,k,j,i,d,)
def Inv.unpinned{Od pl:Oo (Ki×Obj)}{σ:St}{H:Hp}{s:Ks}(I:Inv X (Od++pl) σ H s):Inv X Od σ H s:=I.pins_of λp a=>I.pin p<|ik _<|kn _ a
def bz{q:Kz}{body:Oo KG}{V:TI}{g:TG}{tb:TS}{pos:Pos}(B:K0 (model X.prog X.w) X.A X.env X.xe)(hc:X.calm=Oa)(hi:PI X tg q V)(hg:PG X tg g)(c:PSs X body tb)
  (hs:∀x,Lf q X.env x=pure x:=by intro _;rfl):PS X (.For tg q body [] pos) (Gx V g tb):=by
 intro Od s σ H D I h;calc wpAny_For (thn (hi Od s σ H _ I h) λv s1 h1=>thn h1 λa0 s2 h2=>?_) hs;let(it,C,Y,J,H2,e,I2,T,Q,f2,W,(m0,w0),G):=h2;subst e;let O:∀{H':Hp},(∀b∈C,H' b=N9)->∀b∈C,gY X Od H' b:=λhn b c=>(hn b c,(f2 b c).2,)
 calc codeAny_forLoop_any (λn s'=>∃i p H',Inv X Od p H' s'/\Y i s'.heap/\(∀b∈C,H' b=N9)/\W i n p H') ?_ m0 (0,σ,H2,I2,Q,λb c=>(f2 b c).1,w0,);rintro n s3 ⟨i,l,K,I3,E,F,w3⟩;rcases G i n l K w3 with⟨stop,qn⟩|⟨go,N,hN,step⟩
 .refine K1 B<|thn (T.done X U U U hc i Od s3 l K X.xe I3 (O F) E stop) λr s4 (M,I4,)=>?_;subst M;exact KP (l,K,I4,qn,)
 .refine K1 B<|thn (T.item X U U U hc i Od s3 l K X.xe I3 (O F) E go) λr s4 (u,M,h4,)=>?_;subst M;calc K1 B<|thn h4 λ_ Z (x,H5,I5,r5,y5,y,R,)=>?_;let S:=I5.pinned (O R)<|T.obj _ _ y;calc K1 B<|thn (hg _ Z l H5 x u _ S r5<|step x H5 y5) λ_ s6 (P,H6,I6,q6,)=>?_;calc K1 B<|thn (c _ s6 P H6 _ I6 q6) λf L t=>?_;let again:∀{a:St}{k:Hp},Inv X (Od++dk C Z.heap) a k L->N a k->∃m,m<n/\∃i p H',Inv X Od p H' L/\Y i L.heap/\(∀b∈C,H' b=N9)/\W i m p H':=λ{a k} j z=>by
   let(m',hm,w7):=hN a k z;calc(m',hm,i+1,a,k,j.unpinned,T.keep _ _ _ y λb c o e=>(j.pin (b,o)<|ik _<|ik _<|dN c e).1,λb c=>?_,w7,);let(o,e,d):=T.obj _ _ y b c;exact(j.pin (b,o)<|ik _<|ik _<|dN c e).2.1
  cases f with
  |next=>obtain⟨a,k,j,z⟩:=t;exact again j z
  |cont=>obtain⟨a,k,j,z⟩:=t;exact again j z
  |brk=>obtain⟨a,k,j,t⟩:=t;exact(a,k,j.unpinned,t,)
  |ret v=>obtain⟨x7,a,k,j,r7,t⟩:=t;calc(x7,a,k,j.unpinned,r7,t,)
end
def bA{K:bd}{a:Ki}{xs:Oo V}{g:TG}{tb:TS}{D:Ends}{σ:St}{H:Hp}(b:Nat->RJ)(o:b 0 σ H)(n:∀i σ H,i<=⇑xs->b i σ H->SqL K H a xs)
  (l:∀i x σ H,xs[i]?=N8 x->b i σ H->g x σ H λc h=>tb { D with nx:=b<|i+1,ct:=b<|i+1,bk:=D.nx } c h)(hd:∀σ H,b ⇑xs σ H->D.nx σ H) :
  ∃W:Nat->Nat->RJ,(∃m,W 0 m σ H)/\∀i m σ H,W i m σ H ->
   ((Itl K a).stop i H/\D.nx σ H)\/((Itl K a).go i H/\∃N:RJ,(∀d H',N d H'->∃j,j<m/\W (i+1) j d H')/\∀x H',(Itl K a).yld i H x H'->g x σ H' λc h=>tb { D with nx:=N,ct:=N,bk:=D.nx } c h):=by
 refine(λi m σ H=>m=⇑xs-i/\i<=⇑xs/\b i σ H,(⇑xs,by simp,v3 _,o,),?_,);rintro i m σ H ⟨rfl,hi,p⟩;let q:=n i σ H hi p;by_cases f:i<⇑xs
 .refine .inr ((xs,xs[i],q,by simp[f],),b<|i+1,λd H' k=>(⇑xs-(i+1),∅,U,f,k,),λx H' y=>?_,);let(e,y):=y;subst e;exact l i x σ _ (y xs q) p
 .let e:i=⇑xs:=∅
  subst e;calc .inl ((xs,q,vk _,),hd σ H p,)
def iR{lo:Int}{n:Nat}{g:TG}{tb:TS}{D:Ends}{σ:St}{H:Hp}(a:Nat->RJ)(l:a 0 σ H)
  (k:∀i σ H,i<n->a i σ H->g (.int<|lo+i) σ H λb f=>tb { D with nx:=a<|i+1,ct:=a<|i+1,bk:=D.nx } b f)(hd:∀σ H,a n σ H->D.nx σ H) :
  ∃W:Nat->Nat->RJ,(∃m,W 0 m σ H)/\∀i m σ H,W i m σ H ->
   ((Itr lo n).stop i H/\D.nx σ H)\/((Itr lo n).go i H/\∃N:RJ,(∀c H',N c H'->∃h,h<m/\W (i+1) h c H')/\∀x H',(Itr lo n).yld i H x H'->g x σ H' λb f=>tb { D with nx:=N,ct:=N,bk:=D.nx } b f):=by
 refine(λi m σ H=>m=n-i/\i<=n/\a i σ H,(n,by simp,v3 _,l,),?_,);rintro i m σ H ⟨rfl,hi,p⟩;by_cases d:i<n
 .refine .inr (d,a<|i+1,λc H' j=>(n-(i+1),∅,U,d,j,),λx H' y=>?_,);let(e,y):=y;subst e y;exact k i σ _ d p
 .let e:i=n:=∅
  subst e;calc .inl (vk _,hd σ H p,)
abbrev R2:=V->V->Hp->VK->Prop
def  OpR(X:Cx)(f:Kd->Kd->Sem Kd)(r:R2):Prop :=
 ∀(Od:Oo (Ki×Obj))(s:Ks)(σ:St)(H:Hp)(x y:V)(v u:Kd)(Q:VK),Inv X Od σ H s->RelV x v->RelV y u->r x y H Q ->
  Kw (model X.prog X.w) X.A (f v u) (EP X Od σ Q) X.xe s
def  UnR(X:Cx)(f:Kd->Sem Kd)(r:V->Hp->VK->Prop):Prop :=
 ∀(Od:Oo (Ki×Obj))(s:Ks)(σ:St)(H:Hp)(x:V)(v:Kd)(Q:VK),Inv X Od σ H s->RelV x v->r x H Q ->
  Kw (model X.prog X.w) X.A (f v) (EP X Od σ Q) X.xe s
def  cF(X:Cx)(f:Kd)(r:Oo V->Hp->VK->Prop):Prop :=
 ∀(Od:Oo (Ki×Obj))(s:Ks)(σ:St)(H:Hp)(a:Oo V)(b:Oo Kd)(Q:VK),Inv X Od σ H s->Vals a b->r a H Q ->
  Kw (model X.prog X.w) X.A (call f b) (EP X Od σ Q) X.xe s
def  Gy(X:Cx)(r:V->Hp->(Bool->RK)->Prop):Prop :=
 ∀(Od:Oo (Ki×Obj))(s:Ks)(σ:St)(H:Hp)(x:V)(v:Kd)(Q:Bool->RK),Inv X Od σ H s->RelV x v->r x H Q ->
  Kw (model X.prog X.w) X.A (truthy v) (TP X Od σ Q) X.xe s
def  tOp(r:R2)(ta tb:TE):TE:=λσ H Q=>ta σ H λx b=>tb σ b λy a=>r x y a Q
def  tUn(r:V->Hp->VK->Prop)(ta:TE):TE:=λσ H Q=>ta σ H λx a=>r x a Q
inductive rI(C:Int->Int->Prop)(g:Int->Int->V)(x:V)(y:V)(H:Hp)(Q:VK):Prop
 |mk (i j:_)(_:x=.int i)(_:y=.int j)(_:C i j)(_:Q (g i j) H)
inductive rI0(g:Int->Int->V)(x:V)(y:V)(H:Hp)(Q:VK):Prop
 |mk (i j:_)(_:x=.int i)(_:y=.int j)(_:Q (g i j) H)
inductive rU(g:Int->V)(x:V)(H:Hp)(Q:VK):Prop
 |mk (i:_)(_:x=.int i)(_:Q (g i) H)
section
variable{a b c:Kz}{tc:TE}
def Dh(o:PE X a ta)(n:PE X b tb){Od:Oo (Ki×Obj)}{s:Ks}{σ:St}{H:Hp}{R:V->V->RK}(I:Inv X Od σ H s)
  (h:ta σ H λx g=>tb σ g λy c=>R x y c){Q:Kd->Ks->Prop}{f:Kd->Kd->Sem Kd}
  (hf:∀v u s2 x y c,Inv X Od σ c s2->RelV x v->RelV y u->R x y c->Kw (model X.prog X.w) X.A (f v u) Q X.xe s2) :
  Kw (model X.prog X.w) X.A (eval a X.env) (λv e=>Kw (model X.prog X.w) X.A (eval b X.env) (λu d=>Kw (model X.prog X.w) X.A (f v u) Q X.xe d) X.xe e) X.xe s:=by
 refine thn (o Od s σ H _ I h) λv i (x,g,q,k,m,)=>?_
 refine thn (n Od i σ g _ q m) λu s2 (y,c,p,j,l,)=>?_
 calc hf v u s2 x y c p k j l
def aD{op:KW}{r:R2}(e:OpR X (Lg op) r)(g:PE X a ta)(f:PE X b tb):PE X (.BinOp a op b pos) (tOp r ta tb):=by
 intro Od s σ H Q I h;calc wpAny_BinOp<|Dh g f I h λv u s2 x y j i d c q=>e Od s2 σ j x y v u Q i d c q
def zh{op:UnaryOp}{r:V->Hp->VK->Prop}(e:UnR X (unaryOp op) r)(f:PE X a ta):PE X (.UnaryOp op a pos) (tUn r ta):=by
 intro Od s σ H Q I h;calc UnaryOp_<|thn (f Od s σ H _ I h) λv b (x,i,g,c,d,)=>e Od b σ i x v Q g c d
def opI{f:Kd->Kd->Sem Kd}{C:Int->Int->Prop}{g:Int->Int->Int}
  (rule:∀(i j:Int)(t u:Tok)(s:Ks)(Q:Kd->Ks->Prop)(E:Kd->Ks->Prop),C i j->Q (.int (g i j) s.toks) { s with toks:=s.toks+1 }->Kw (model X.prog X.w) X.A (f (.int i t)<|.int j u) Q E s) :
  OpR X f (rI C λi j=>.int<|g i j):=by
 intro Od s σ H x y v u Q I c b h;let(i,j,rfl,rfl,d,q):=h;let(t,rfl):=c;let(a,rfl):=b;calc rule i j t a s _ _ d (.int<|g i j,H,I.tok _,(_,U,),q,)
def Di{f:Kd->Kd->Sem Kd}{g:Int->Int->Int}
  (rule:∀(i j:Int)(t u:Tok)(s:Ks)(Q:Kd->Ks->Prop)(E:Kd->Ks->Prop),Q (.int (g i j) s.toks) { s with toks:=s.toks+1 }->Kw (model X.prog X.w) X.A (f (.int i t)<|.int j u) Q E s) :
  OpR X f (rI0 λi j=>.int<|g i j):=by
 intro Od s σ H x y v u Q I c b h;let(i,j,rfl,rfl,q):=h;let(t,rfl):=c;let(a,rfl):=b;calc rule i j t a s _ _ (.int<|g i j,H,I.tok _,(_,U,),q,)
def Dj{f:Kd->Kd->Sem Kd}{g:Int->Int->Bool}
  (rule:∀(i j:Int)(t u:Tok)(s:Ks)(Q:Kd->Ks->Prop)(E:Kd->Ks->Prop),Q (.bool<|g i j) s->Kw (model X.prog X.w) X.A (f (.int i t)<|.int j u) Q E s) :
  OpR X f (rI0 λi j=>.bl<|g i j):=by
 intro Od s σ H x y v u Q I c b h;let(i,j,rfl,rfl,q):=h;let(t,rfl):=c;let(a,rfl):=b;calc rule i j t a s _ _ (.bl<|g i j,H,I,U,q,)
def  ES(i j:Int):Prop:=0<j/\j<1073741824
def  ET(i j:Int):Prop:=0<=j/\j<=1000000/\i.natAbs<2^64
def  zi(i j:Int):Prop:=(-(2^64)<i/\i<2^64)\/(-(2^64)<j/\j<2^64)
def zi.ok{i j:Int}(h:zi i j):Lh i j:=by
 rcases h with⟨b,a⟩|⟨b,a⟩
 .exact .of_left<|Li b a
 .exact .of_right<|Li b a
def uR(k:Nat):(0:Int)<=2^k:=by
 rw[two_pow_cast];calc PD _
def bN:OpR X (Lg .Add) (rI0 λi j=>.int<|i+j):=Di λ_ _ _ _ _ _ _ q=>add_int q
def eR:OpR X (Lg .Sub) (rI0 λi j=>.int<|i-j):=Di λ_ _ _ _ _ _ _ q=>sub_int q
def dq:OpR X (Lg .Mult) (rI zi λi j=>.int<|i*j):=opI λ_ _ _ _ _ _ _ a q=>mul_int q a.ok
def mL:OpR X (Lg .FloorDiv) (rI ES λi j=>.int<|i / j):=opI λi j _ _ _ _ _ a q=>by
 let c:(0:Int)<j:=a.1;let b:j<1073741824:=a.2;calc floordiv_int ∅ (by rw[Qs i ∅];exact q) (.inl<|Qr ∅)
def bJ:OpR X (Lg .Mod) (rI (λ_ j=>0<j) λi j=>.int<|i%j):=opI λi j _ _ _ _ _ a q=>by
 let b:(0:Int)<j:=a;calc mod_int' ∅ (by rw[Int.fmod_eq_emod_of_nonneg i ∅];exact q)
def m9:OpR X (Lg .Pow) (rI ET λi j=>.int<|i^j.toNat):=opI λ_ _ _ _ _ _ _ a q=>pow_int_small a.1 a.2.1 a.2.2 q
def Dk:OpR X (Lg .LShift) (rI ET λi j=>.int<|i*2^j.toNat):=opI λ_ _ _ _ _ _ _ a q=>lshift_int_small a.1 a.2.1 a.2.2 q
def Dl:OpR X (Lg .RShift) (rI (λ_ j=>0<=j) λi j=>.int<|i / 2^j.toNat):=opI λi j _ _ _ _ _ a q =>
 rshift_int a (by rw[Qs i (uR _)];exact q)
def Dn:OpR X (Lg .BitAnd) (rI0 λi j=>.int<|Le.bitAnd i j):=Di λ_ _ _ _ _ _ _ q=>and_int q
def unI{f:Kd->Sem Kd}{g:Int->Int}
  (rule:∀(i:Int)(t:Tok)(s:Ks)(Q:Kd->Ks->Prop)(E:Kd->Ks->Prop),Q (.int (g i) s.toks) { s with toks:=s.toks+1 }->Kw (model X.prog X.w) X.A (f<|.int i t) Q E s) :
  UnR X f (rU λi=>.int<|g i):=by
 intro Od s σ H x v Q I a h;let(i,rfl,q):=h;let(t,rfl):=a;calc rule i t s _ _ (.int<|g i,H,I.tok _,(_,U,),q,)
def uS:UnR X (unaryOp .USub) (rU λi=>.int<|-i):=unI λ_ _ _ _ _ q=>neg_int q
end
def  EU:V->V->Bool
 | .non,.non=>Oa | .non,.int _=>Oa | .int _,.non=>Oa | .non,.bl _=>Oa | .bl _,.non=>Oa | .non,.str _=>Oa | .str _,.non=>Oa
 | .int _,.int _=>Oa | .bl _,.bl _=>Oa | .str _,.str _=>Oa | .byt _,.byt _=>Oa
 | .int _,.str _=>Oa | .str _,.int _=>Oa | .bl _,.str _=>Oa | .str _,.bl _=>Oa
 |_,_=>Ob
def  rEq:R2:=λx y H Q=>EU x y=Oa/\Q (.bl<|Oc<|x=y) H
def  rNe:R2:=λx y H Q=>EU x y=Oa/\Q (.bl<|!Oc (x=y)) H
def wC{i j:Int}:decide (ut i=ut j)=(i == j):=by
 rw[tz];simp
def zj{i j:Bool}:decide (V.bl i=V.bl j)=(i == j):=by
 rw[tz];simp
def wD{i j:Str}:decide (v0 i=v0 j)=(i == j):=by
 rw[tz];simp
def wF{i j:Array UInt8}:decide (V.byt i=V.byt j)=(i.toList == j.toList):=by
 rw[tz];cases i;cases j;simp
section
variable{a b c:Kz}{tc:TE}
def aY{Od:Oo (Ki×Obj)}{σ:St}{H:Hp}{s:Ks}{Q:VK}{k a:Bool}(I:Inv X Od σ H s)(q:Q (.bl k) H)(e:k=a):EP X Od σ Q (.bool a) s:=by
 subst e;calc(.bl k,H,I,U,q,)
def eS:OpR X (Lj .Eq) rEq:=by
 intro Od s σ H x y v u Q I d a h;let(c,q):=h;cases x with
 |non =>
  cases d;cases y with
  |non=>cases a;exact PySem.EqNone.eq_none_none<|aY I q (by simp)
  |bl j=>cases a;exact PySem.EqNone.eq_none_bool<|aY I q (by simp)
  |int j=>obtain⟨b,rfl⟩:=a;exact PySem.EqNone.eq_none_int<|aY I q (by simp)
  |str j=>obtain⟨b,rfl⟩:=a;exact PySem.EqNone.eq_none_str<|aY I q (by simp)
  |_=>exact Og (show Ob=Oa from c) bv
 |bl i =>
  cases d;cases y with
  |non=>cases a;exact PySem.EqNone.eq_bool_none<|aY I q (by simp)
  |bl j=>cases a;exact eq_bool<|aY I q zj
  |str j=>obtain⟨b,rfl⟩:=a;exact PySem.EqMixed.eq_bool_str<|aY I q (by simp)
  |_=>exact Og (show Ob=Oa from c) bv
 |int i =>
  let(t,rfl):=d;cases y with
  |non=>cases a;exact PySem.EqNone.eq_int_none<|aY I q (by simp)
  |int j=>obtain⟨b,rfl⟩:=a;exact eq_int<|aY I q wC
  |str j=>obtain⟨b,rfl⟩:=a;exact PySem.EqMixed.eq_int_str<|aY I q (by simp)
  |_=>exact Og (show Ob=Oa from c) bv
 |str i =>
  let(t,rfl):=d;cases y with
  |non=>cases a;exact PySem.EqNone.eq_str_none<|aY I q (by simp)
  |bl j=>cases a;exact PySem.EqMixed.eq_str_bool<|aY I q (by simp)
  |int j=>obtain⟨b,rfl⟩:=a;exact PySem.EqMixed.eq_str_int<|aY I q (by simp)
  |str j=>obtain⟨b,rfl⟩:=a;exact eq_str<|aY I q wD
  |_=>exact Og (show Ob=Oa from c) bv
 |byt i =>
  let(t,rfl):=d;cases y with
  |byt j=>obtain⟨b,rfl⟩:=a;exact W.eq_bytes<|aY I q wF
  |_=>exact Og (show Ob=Oa from c) bv
 |_=>cases y <;> calc Og (show Ob=Oa from c) bv
def Cr:OpR X (Lj .NotEq) rNe:=by
 intro Od s σ H x y v u Q I d a h;let(c,q):=h;cases x with
 |non =>
  cases d;cases y with
  |non=>cases a;exact PySem.EqNone.ne_none_none<|aY I q (by simp)
  |bl j=>cases a;exact PySem.EqNone.ne_none_bool<|aY I q (by simp)
  |int j=>obtain⟨b,rfl⟩:=a;exact PySem.EqNone.ne_none_int<|aY I q (by simp)
  |str j=>obtain⟨b,rfl⟩:=a;exact PySem.EqNone.ne_none_str<|aY I q (by simp)
  |_=>exact Og (show Ob=Oa from c) bv
 |bl i =>
  cases d;cases y with
  |non=>cases a;exact PySem.EqNone.ne_bool_none<|aY I q (by simp)
  |bl j=>cases a;exact ne_bool<|aY I q<|Ol not zj
  |str j=>obtain⟨b,rfl⟩:=a;exact PySem.EqMixed.ne_bool_str<|aY I q (by simp)
  |_=>exact Og (show Ob=Oa from c) bv
 |int i =>
  let(t,rfl):=d;cases y with
  |non=>cases a;exact PySem.EqNone.ne_int_none<|aY I q (by simp)
  |int j=>obtain⟨b,rfl⟩:=a;exact ne_int<|aY I q<|Ol not wC
  |str j=>obtain⟨b,rfl⟩:=a;exact PySem.EqMixed.ne_int_str<|aY I q (by simp)
  |_=>exact Og (show Ob=Oa from c) bv
 |str i =>
  let(t,rfl):=d;cases y with
  |non=>cases a;exact PySem.EqNone.ne_str_none<|aY I q (by simp)
  |bl j=>cases a;exact PySem.EqMixed.ne_str_bool<|aY I q (by simp)
  |int j=>obtain⟨b,rfl⟩:=a;exact PySem.EqMixed.ne_str_int<|aY I q (by simp)
  |str j=>obtain⟨b,rfl⟩:=a;exact ne_str<|aY I q<|Ol not wD
  |_=>exact Og (show Ob=Oa from c) bv
 |byt i =>
  let(t,rfl):=d;cases y with
  |byt j=>obtain⟨b,rfl⟩:=a;exact W.ne_bytes<|aY I q<|Ol not wF
  |_=>exact Og (show Ob=Oa from c) bv
 |_=>cases y <;> calc Og (show Ob=Oa from c) bv
def nh:OpR X (Lj .Lt) (rI0 λi j=>.bl<|Oc<|i<j):=Dj λ_ _ _ _ _ _ _ q=>lt_int q
def fU:OpR X (Lj .LtE) (rI0 λi j=>.bl<|Oc<|i<=j):=Dj λ_ _ _ _ _ _ _ q=>le_int q
def ni:OpR X (Lj .Gt) (rI0 λi j=>.bl<|Oc<|j<i):=Dj λ_ _ _ _ _ _ _ q=>gt_int q
def Dp:OpR X (Lj .Is) (λx y H Q=>y=.non/\Q (.bl<|Oc<|x=.non) H):=by
 intro Od s σ H x y v u Q I a b h;let(rfl,q):=h;cases b;refine is_none_gen<|aY I q ?_
 cases x <;> first
  |(cases a;rfl)
  |(obtain⟨t,rfl⟩:=a;rfl)
def qZ:OpR X (Lj .NotIn) (λx y H Q=>∃i j,x=.str i/\y=.str j/\Q (.bl<|!(!(OP j i 0 ⇑j 1).isEmpty)) H):=by
 intro Od s σ H x y v u Q I b a h;let(i,j,rfl,rfl,q):=h;let(t,rfl):=b;let(c,rfl):=a;calc notIn_str<|aY I q U
def bg(b:Kz){op:Ll}(h:op≠.In:=by decide)(a:op≠.NotIn:=by decide):Lm op b=false:=by
 let d:(op == Ll.In)=false:=by cases op <;> first|rfl|exact Og U h
 let c:(op == Ll.NotIn)=false:=by cases op <;> first|rfl|exact Og U a
 cases b <;> simp[Lm,d,c]
def kg{op:Ll}{r:R2}(e:OpR X (Lj op) r)(i:PE X a ta)(g:PE X b tb)(f:Lm op b=Ob):PE X (.Compare a [op] [b] pos) (tOp r ta tb):=by
 intro Od s σ H Q I h;calc wpAny_Compare1 (Dh i g I h λv u s2 x y k j d c q=>e Od s2 σ k x y v u Q j d c q) f
inductive zk  (Q:Bool->RK)(x:V)(H':Hp):Prop
 |mk (k:_)(_:x=.bl k)(_:Q k H'):zk Q x H'
def  Cs(t:TE):TT:=λσ H Q=>t σ H λx H'=>zk Q x H'
def aX{op:Ll}{r:R2}(n:OpR X (Lj op) r)(q:PE X a ta)(p:PE X b tb)(o:Lm op b=Ob):PT X (.Compare a [op] [b] pos) (Cs<|tOp r ta tb):=by
 intro Od s σ H Q I h;refine wpAny_isTrue_Compare1 (thn (q Od s σ H _ I h) λv d (x,D,A,i,m,)=>thn (p Od d σ D _ A m) λu s2 (y,C,w,g,l,) =>
  thn (n Od s2 σ C x y v u _ w i g l) λc E (z,B,t,f,k,e,j,)=>?_) o
 subst e;cases f;calc KO (B,t,j,)
inductive wG(r':R2)(tc:TE)(σ:St)(Q:VK)(y:V)(z:V)(H3:Hp):Prop
 |mk (k:_)(_:z=.bl k)(_:(if k=Oa then tc σ H3 λw' H4=>r' y w' H4 Q else Q (.bl Ob) H3))
def  zl(r a:R2)(ta tb tc:TE):TE:=λσ H Q=>ta σ H λx d=>tb σ d λy c=>r x y c λz b=>wG a tc σ Q y z b
def nj{op f:Ll}{r j:R2}(G:OpR X (Lj op) r)(g:OpR X (Lj f) j)(L:PE X a ta)(K:PE X b tb)(J:PE X c tc)
  (hm:lastMarks [op,f] [b,c]=false:=by with_unfolding_all rfl):PE X (.Compare a [op,f] [b,c] pos) (zl r j ta tb tc):=by
 intro Od s σ H Q I h;refine Compare_chain (thn (L Od s σ H _ I h) λv w (x,S,O,C,F,)=>chain_link (thn (K Od w σ S _ O F) λu s2 (y,R,N,i,E,) =>
  thn (G Od s2 σ R x y v u _ N C i E) λd t (z,n,m,B,k,e,l,)=>?_)) hm
 subst e;cases B;calc KO ?_;cases k with
 |false=>exact ite_ff (.bl Ob,n,m,U,l,)
 |true=>calc ite_tt (chain_last<|thn (J Od t σ n _ m l) λp q (o,P,M,A,D,)=>g Od q σ P y o u p Q M i A D)
def gZ{op f:Ll}{r j:R2}(L:OpR X (Lj op) r)(g:OpR X (Lj f) j)(O:PE X a ta)(N:PE X b tb)(M:PE X c tc)
  (hm:lastMarks [op,f] [b,c]=false:=by with_unfolding_all rfl):PT X (.Compare a [op,f] [b,c] pos) (Cs<|zl r j ta tb tc):=by
 intro Od s σ H Q I h;refine isTrue_chain (thn (O Od s σ H _ I h) λv w (x,H1,W,D,J,)=>test_link (thn (N Od w σ H1 _ W J) λu s2 (y,H2,V,i,G,) =>
  thn (L Od s2 σ H2 x y v u _ V D i G) λd t (z,n,m,C,k,e,l,)=>?_)) hm
 subst e;cases C;calc KO ?_;cases k with
 |false =>
  let(k',R,K):=l;cases R;exact ite_ff (n,m,K,)
 |true =>
  calc ite_tt<|test_last<|thn (M Od t σ n _ m l) λp q (o,Z,T,B,F,)=>thn (g Od q σ Z y o u p _ T i B F) λd' s5 (z2,Y,S,A,k2,P,E,)=>?_;subst P;cases A;calc KO (Y,S,E,)
def  Dq(K:bd)(x:V)(H:Hp)(k:Bool):Prop :=
 match x with
 | .non=>k=Ob
 | .bl b=>k=b
 | .int i=>k=(i != 0)
 | .str y=>⇑y<=Kk/\k=((⇑y:Int) != 0)
 | .byt y=>y.size<=Kk/\k=((y.size:Int) != 0)
 | .ref p=>(∃a,SqL K H p a/\k = !a.isEmpty)\/(∃a,SqT K H p a/\k = !a.isEmpty)\/∃c,H p=N8 (.dK c)/\k = !c.isEmpty
 |_=>False
def uT{a:Type}{kvs:Oo (a×V)}{vs:Oo (a×Kd)}(r:KV kvs vs):(!vs.isEmpty) = !kvs.isEmpty:=by
 cases r <;> rfl
def nk{xs:Oo V}{a:Oo Kd}(r:Vals xs a):(!a.toArray.isEmpty) = !xs.isEmpty:=by
 cases r <;> simp
def kU:(Kk:Nat)<2^63:=by rw[Ln];decide
def Dr:Gy X (λx H Q=>∃k,Dq X.K x H k/\Q k H):=by
 intro Od s σ H x v Q I g h;let(k,e,q):=h;let C:=kU;let B:Kk=16777216:=Ln;cases x with
 |non =>
  cases g;let a:k=false:=e;subst a;exact truthy_none (H,I,q,)
 |bl b =>
  cases g;let a:k=b:=e;subst a;exact KO (H,I,q,)
 |int i =>
  let(t,rfl):=g;let a:k=(i != 0):=e;subst a;exact PySem.P.truthy_int (H,I,q,)
 |str y =>
  let(t,rfl):=g;let(z,a):⇑y<=Kk/\k=((⇑y:Int) != 0):=e;subst a;exact PySem.P.truthy_str ∅ (H,I.tok _,q,)
 |byt y =>
  let(t,rfl):=g;let(z,a):y.size<=Kk/\k=((y.size:Int) != 0):=e;subst a;exact W.truthy_bytes ∅ (H,I.tok _,q,)
 |ref p =>
  cases g;let a:(∃f,SqL X.K H p f/\k = !f.isEmpty)\/(∃f,SqT X.K H p f/\k = !f.isEmpty)\/∃c,H p=N8 (.dK c)/\k = !c.isEmpty:=e;rcases a with⟨f,j,a⟩|⟨f,j,a⟩|⟨c,j,a⟩
  .subst a;let(o,r,n,u):=I.list j;let d:=⇑r;exact wpAny_truthy_list n.isList (by simp only[dG];lia) (H,I.tok _,by rw[nk r];exact q,)
  .subst a;let(o,r,n,u):=I.tuple j;let d:=⇑r;exact truthy_tuple n (by simp only[dG];lia) (H,I.tok _,by rw[nk r];exact q,)
  .subst a;let(u,A,l,r,m):⇑c<=Kk/\(p == Kl)=Ob/\∃l,KV c l/\s.heap.DictOf (qV X.prog X.w) p l:=I.hok p _ j;let d:⇑c=⇑l:=Paired.length r;exact wpAny_truthy_dict A m ∅ (H,I.tok _,by rw[uT r];exact q,)
 |_=>calc(show False from e).elim
def cY(g:PE X a ta)(f:∀b,KA a X.env b=(do let v ←b;KN a.pos;holding [v] (truthy v))) :
  PT X a (λσ H Q=>ta σ H λx H'=>∃k,Dq X.K x H' k/\Q k H'):=by
 intro Od s σ H Q I h;calc isTrue_plain (thn (g Od s σ H _ I h) λv c (x,j,i,d,e,)=>Dr Od c σ j x v Q i d e)<|f _
def Ds:OpR X (Lg .Add) (λx y H Q=>∃i j,x=.byt i/\y=.byt j/\i.size+j.size<=16777216/\Q (.byt<|i++j) H):=by
 intro Od s σ H x y v u Q I c b h;let(i,j,rfl,rfl,d,q):=h;let(t,rfl):=c;let(a,rfl):=b;calc W.KBy.add_bytes d<|λa e=>(.byt<|i++j,H,I.tok _,(_,U,),q,)
def vals1{x:V}{us:Oo Kd}(r:Vals [x] us):∃u,us=[u]/\RelV x u:=by
 cases r with
 |cons b a=>cases a;calc(_,U,b,)
def vals2{x y:V}{us:Oo Kd}(r:Vals [x,y] us):∃u a,us=[u,a]/\RelV x u/\RelV y a:=by
 cases r with
 |cons e d =>
  cases d with
  |cons c b=>cases b;calc(_,_,U,e,c,)
def p9(b:X.calm=Oa):cF X (.builtin "max") (λxs H Q=>∃i j,xs=[.int i,.int j]/\Q (.int (if j>i then j else i)) H):=by
 intro Od s σ H xs d Q I r h;let(i,j,rfl,q):=h;let(u,c,rfl,(t,rfl),(f,rfl)):=vals2 r;refine max_two_ints (I.ok.hd b) λh' e k=>(_,H,I.kept k,?_,q,)
 by_cases a:j>i
 .rw[Of a,Of a];exact(_,U,)
 .rw[Oe a,Oe a];calc(_,U,)
def qc(b:X.calm=Oa):cF X (.builtin "min") (λxs H Q=>∃i j,xs=[.int i,.int j]/\Q (.int (if j<i then j else i)) H):=by
 intro Od s σ H xs d Q I r h;let(i,j,rfl,q):=h;let(u,c,rfl,(t,rfl),(f,rfl)):=vals2 r;refine min_two_ints (I.ok.hd b) λh' e k=>(_,H,I.kept k,?_,q,)
 by_cases a:j<i
 .rw[Of a,Of a];exact(_,U,)
 .rw[Oe a,Oe a];calc(_,U,)
def xM:cF X (.type "int") (λxs H Q=>(∃i,xs=[.int i]/\Q (.int i) H)\/∃k,xs=[.bl k]/\Q (.int (if k then 1 else 0)) H):=by
 intro Od s σ H xs b Q I r h;rcases h with⟨i,rfl,q⟩|⟨k,rfl,q⟩
 .let(u,rfl,t,rfl):=vals1 r;exact call_int_int (.int i,H,I,(_,U,),q,)
 .let(u,rfl,a):=vals1 r;cases a;calc call_int_bool (.int (if k then 1 else 0),H,I.tok _,(_,U,),q,)
end
structure uU(h:Kj)(x dx C:Ki)(mA:Str->Option Kd):Prop where
 obj:h.get? x=N8 (OX C dx)
 ns:h.Ns1 dx mA
 ne:dx≠x
def xN{h:Kj}{f:Ki}{c:Str->Option Kd}(n:h.Ns1 f c):∃b,h.get? f=N8 b/\∀name,Rt name b=N8 (c name):=by
 let(o,d,p,j,hd,l,_,k):=n;calc(o,j,λname=>?_,);let e:=k name;unfold nsFind findBy at e;rw[←Array.find?_toList]at e;unfold Rt;rw[hd];dsimp only;split
 .rename_i y q
  rw[q]at e;exact Ol N8 e
 .rename_i q
  rw[q]at e;let a:d.toList.any (·.refKey)=false:=by
   rw[List.any_eq_false];intro y i;let(z,t,g):=l y<|G6.mp i;simp[Lo.refKey,g]
  let m:¬ d.toList.any (·.refKey)=true:=by rw[a];exact bv
  rw[Oe m];calc Ol N8 e
def uU.look{h:Kj}{x c C:Ki}{b:Str->Option Kd}(I:uU h x c C b):∃a,W.InstAt h x (OX C c) C (N8 a)/\∀name,Rt name a=N8 (b name):=by
 let(a,d,e):=xN I.ns;calc(a,(I.obj,U,U,d,),e,)
variable{A:Kr}{dx C f:Ki}
section
variable{prog:Kf}{K:bd}{mA:Str->Option Kd}{name:Str}{v:Kd}
def get_map{a:Bool}{Q:Kd->Ks->Prop}(X:K.In s.heap)(I:uU s.heap x dx C mA)(f:Qz K C name=Oa)(e:Ru K C=Oa)
  (g:wT K (.ref C) name=N8 N9)(c:mA name=N8 v)(b:W.handedIn v=Oa)(h:Q v { s with toks:=s.toks+1 }) :
  Kw (model prog w) A (getAttr (.ref x) name a) Q E s:=by
 let(i,J,d):=I.look;calc W.get_value X J (QH f).1 (W.findObj_own e g U (by rw[d,c])) b h
def zm{pl:Sem Bool}{Q:Kd×Oo Kd->Ks->Prop}(X:K.In s.heap)(I:uU s.heap x dx C mA)(a:Qz K C name=Oa)
  (hf:wT K (.ref C) name=N8 ↑f)(d:W.isFn K (.ref f)=Oa)(c:mA name=N9)(h:Q (.ref f,[.ref x]) s) :
  Kw (model prog w) A (Lp (.ref x) name pl) Q E s:=by
 let(b,J,e):=I.look;calc W.method_fn X J (QH a).1 (QH a).2 hf (beq_iff_eq.mp d) (by show(Rt name b).map (·.isSome)=N8 Ob;rw[e,c];rfl) h
def Be{ns:Oo Str}{Q:Unit->Ks->Prop}(X:K.In s.heap)(I:uU s.heap x dx C mA)
  (l:wT K (.ref C) "__setattr__" = N8 (N8<|.builtin "object.__setattr__")) (m:W.plainOver K C=Oa)(k:W.takerIn K C name=N8 N9)(n:Ru K C=Oa)
  (hw:PySem.Within mA ns)(hsz:⇑ns<=Kk)
  (h:∀h',uU h' x dx C (λy=>if y=name then N8 v else mA y)->rc dx s.heap h'->Q () { s with heap:=h',toks:=s.toks+2 }) :
  Kw (model prog w) A (setAttr (.ref x) name v) Q E s:=by
 let(t,J,z):=I.look;calc W.set_plain X J l<|W.osa_open (s:={ s with toks:=s.toks+1 }) (r:=N9) X J m k λb=>?_;let(B,o,g):=W.any_some n;let j:s.heap.get? x=N8 (.ref C,N8 dx,.plain,#[],):=I.obj;calc JZ<|Ka<|JZ<|JZ<|wpAny_loadPart j<|JZ<|W.Looks.here (s:={ s with toks:=s.toks+1 }) (W.looks_clsIn X o) ?_;rw[g];calc Ka (a:=N8 dx)<|JZ<|Ka<|JZ ?_;refine wpAny_nsSet1 (s:={ s with toks:=s.toks+1 }) I.ns λh' d c=>?_
 let(u,p,q,e,f,i):=d.count<|PySem.Within.cons name v hw;refine JZ (wpAny_lookBehind e (by rw[f];exact pastItsLine_dict (vr i (by rw[en];lia))) ?_);calc Ka<|h _ ((c.2 _<|Fk I.ne).trans I.obj,d,I.ne,) c
def zo{R:Lq->Ks->Prop}{vs:Oo Kd}{b:Oo (Str×Kd)}(X:K.In s.heap)(c:W.makesIn K C=Oa)
  (hi:wT K (.ref C) "__init__" = N8 ↑f) (hf:W.typeIn K (.ref f)=N8 (.type "function"))
  (h:Lu (model prog w) (A.under<|.builtin "type.__call__" (.ref C :: vs,b,)) (.call (.ref f) (.ref (↥s+1) :: vs,b,)) (W.InitBack (↥s+1) R)
   { s with heap:=(s.heap.push Gc).push (OX C ↥s) }) :
  Lu (model prog w) A (.call (.ref C) (vs,b,)) R s:=by
 let(i,g,d,t,e):=s;calc W.make_core (W.makes_of X c) (Py X hi) (λa=>W.bind_fn X a hf) (.inl U) h
end
def  bK(f:Str)(v:V):Oo (Str×V)->Oo (Str×V)
 | []=>[(f,v)]
 |(g,x) :: r=>if g=f then(g,v) :: r else(g,x) :: bK f v r
def lV(f g:Str)(v:V):∀fs:Oo (Str×V),(bK f v fs).lookup g=if g=f then N8 v else fs.lookup g
 | []=>by
  show EQ g [(f,v)]=_;by_cases h:g=f
  .let a:(g == f)=true:=beq_iff_eq.mpr h;simp only[EQ,a,Of h]
  .let a:(g == f)=false:=beq_eq_false_iff_ne.mpr h;simp only[EQ,a,Oe h]
 |(k,x) :: r=>by
  let c:=lV f g v r;rw[show bK f v ((k,x) :: r)=(if k=f then(k,v) :: r else(k,x) :: bK f v r)from U];by_cases b:k=f
  .rw[Of b];by_cases h:g=k
   .let a:(g == k)=true:=beq_iff_eq.mpr h;simp only[EQ,a,Of (h.trans b)]
   .let a:(g == k)=false:=beq_eq_false_iff_ne.mpr h;simp only[EQ,a,Oe (λe:g=f=>h<|e.trans b.symm)]
  .rw[Oe b];by_cases h:g=k
   .let a:(g == k)=true:=beq_iff_eq.mpr h;simp only[EQ,a,Oe (λe:g=f=>b<|h.symm.trans e)]
   .let a:(g == k)=false:=beq_eq_false_iff_ne.mpr h;simp only[EQ,a];calc c
def kW(f:Str)(v:V):∀fs:Oo (Str×V),f∈(bK f v fs).map (·.1)/\∀g,g∈fs.map (·.1)->g∈(bK f v fs).map (·.1)
 | []=>(by simp[bK],λg h=>by simp at h,)
 |(k,x) :: r=>by
  let(c,b):=kW f v r;rw[show bK f v ((k,x) :: r)=(if k=f then(k,v) :: r else(k,x) :: bK f v r)from U];by_cases a:k=f
  .rw[Of a];subst a;exact(by simp,λg h=>~~~h,)
  .rw[Oe a];refine(?_,λg h=>?_,)
   .rw[iJ];exact dy _ c
   .rw[iJ]at h⊢;rcases af.mp h with e|e
    .exact af.mpr<|.inl e
    .exact dy _<|b g e
def lW(f:Str)(v:V):∀fs:Oo (Str×V),⇑(bK f v fs)<=⇑fs+1
 | []=>by simp[bK]
 |(k,x) :: r=>by
  let b:=lW f v r;rw[show bK f v ((k,x) :: r)=(if k=f then(k,v) :: r else(k,x) :: bK f v r)from U];by_cases a:k=f
  .rw[Of a,en,en];lia
  .rw[Oe a,en,en];lia
def pD.some_of{v:V}{o:Option Kd}(r:pD (N8 v) o):∃u,o=N8 u/\RelV v u:=by
 cases o with
 |none=>exact(show False from r).elim
 |some u=>calc(u,U,r,)
def pD.none_of{o:Option Kd}(r:pD N9 o):o=none:=by
 cases o with
 |none=>rfl
 |some u=>calc(show False from r).elim
def qd{v:V}{u:Kd}(r:RelV v u):W.handedIn u=true:=by
 cases v with
 |non=>cases (show u=lv from r);rfl
 |bl b=>cases (show u=QU b from r);rfl
 |int i=>obtain⟨t,e⟩:=(show ∃t,u=Qu i t from r);cases e;rfl
 |str x=>obtain⟨t,e⟩:=(show ∃t,u=P6 x t from r);cases e;rfl
 |byt b=>obtain⟨t,e⟩:=(show ∃t,u=Kd.bytes b t from r);cases e;rfl
 |flt b=>obtain⟨t,e⟩:=(show ∃t,u=Kd.float b t from r);cases e;rfl
 |ref a=>cases (show u=dL a from r);rfl
 |ty n=>cases (show u=xz n from r);rfl
section
variable{fs fs':Oo (Str×V)}
def mM(hok:HOk P w H h)(e:H a=N8 (.ins C dx fs)):∃b,uU h a dx C b/\(∀f,pD (fs.lookup f)<|b f)/\PySem.Within b (fs.map (·.1))/\⇑fs<=1000/\H dx=N8 (.own a):=by
 let(d,z,g,c,b,n,r,q):=(show bO P w H h a (.ins C dx fs)from hok a _ e);calc(b,(c,n,g,),r,q,z,d,)
end
structure Cls(K:bd)(C:Ki):Prop where
 pg:Qz K C Str.empty=Oa
 hd:Ru K C=Oa
 po:W.plainOver K C=Oa
 sa:wT K (.ref C) "__setattr__" = N8 (N8<|.builtin "object.__setattr__")
def Cls.get{K:bd}{C:Ki}(c:Cls K C)(f:Str):Qz K C f=true:=c.pg
def  NoAttr(K:bd)(C:Ki)(f:Str):Prop:=wT K (.ref C) f=N8 N9
def NoAttr.taker{K:bd}{C:Ki}{f:Str}(n:NoAttr K C f):W.takerIn K C f=N8 none:=by
 unfold W.takerIn;rw[show wT K (.ref C) f=N8 N9 from n];rfl
structure Con(K:bd)(C:Ki)(f:Str)(v:V)(u:Kd):Prop where
 at_:wT K (.ref C) f=N8 (N8 u)
 rel:RelV v u
 get:O2 K u "__get__" = N8 N9
 cp:W.copiedNames.contains f=Ob
structure Meth(K:bd)(C:Ki)(m:Str)(f:Ki):Prop where
 at_:wT K (.ref C) m=N8 ↑f
 fn:W.isFn K (.ref f)=Oa
 kp:FS K (.ref f)=Oa
section
variable{fs:Oo (Str×V)}{f:Str}{v:V}
def uV{b:Bool}{Q:Kd->Ks->Prop}(I:Inv X Od σ H s)(e:H a=N8 (.ins C dx fs))(c:Cls X.K C)(n:NoAttr X.K C f)(l:fs.lookup f=N8 v)
  (h:∀u s',Inv X Od σ H s'->RelV v u->Q u s'):Kw (model X.prog X.w) A (getAttr (.ref a) f b) Q E s:=by
 let(g,O,r,_,_,_):=mM I.hok e;let(u,i,d):=pD.some_of (v:=v) (o:=g f) (by rw[←l];exact r f);calc get_map I.kIn O (c.get f) c.hd n i (qd d)<|h u _ (I.tok _) d
def nq{m:Str}{g:Ki}{pl:Sem Bool}{Q:Kd×Oo Kd->Ks->Prop}(I:Inv X Od σ H s)(e:H a=N8 (.ins C dx fs))(c:Cls X.K C)(k:Meth X.K C m g)(l:fs.lookup m=N9)
  (h:Q (.ref g,[.ref a]) s):Kw (model X.prog X.w) A (Lp (.ref a) m pl) Q E s:=by
 let(b,O,r,_,_,_):=mM I.hok e;let d:b m=none:=pD.none_of (by rw[←l];exact r m);calc zm I.kIn O (c.get m) k.at_ k.fn d h
def uW{y:V}{u:Kd}{Q:Unit->Ks->Prop}(I:Inv X Od σ H s)(e:H a=N8 (.ins C dx fs))(c:Cls X.K C)(n:NoAttr X.K C f)(v:⇑fs<1000)(l:RelV y u)
  (h:∀s',Inv X Od σ (upd H a<|.ins C dx<|bK f y fs) s'->Q () s'):Kw (model X.prog X.w) A (setAttr (.ref a) f u) Q E s:=by
 let(j,O,r,i,_,k):=mM I.hok e;let m:⇑(fs.map (·.1))<=Kk:=by rw[aa,Ln];lia
 refine Be I.kIn O c.sa c.po n.taker c.hd i m λh' d sb=>h _ ?_
 let hd:∃o,h'.get? dx=N8 o:=let ⟨o,_,_,e',_⟩:=d.ns;(o,e',);refine I.write (x:=a) (e:=dx) (by rw[e];exact OB) (.inr k) (λb q t z=>(sb.2 b t).trans z) hd ?_;refine(by rw[av O.ne];exact k,?_,O.ne,d.obj,_,d.ns,λg=>?_,λg p=>?_,)
 .let:=lW f y fs;lia
 .show pD ((bK f y fs).lookup g) (if g=f then N8 u else j g);rw[lV];by_cases q:g=f
  .rw[Of q,Of q];exact l
  .rw[Oe q,Oe q];exact r g
 .by_cases q:g=f
  .rw[q];exact(kW f y fs).1
  .refine(kW f y fs).2 g (i g λz=>p ?_);show(if g=f then N8 u else j g)=N9;rw[Oe q];calc z
def Inv.made(I:Inv X Od σ H s):Inv X Od σ (upd (upd H ↥s<|.own<|↥s+1) (↥s+1)<|.ins C ↥s [])
  { s with heap:=(s.heap.push Gc).push (OX C ↥s) }:=by
 let d:(s.heap.push Gc).get? ↥s=N8 Gc:=bn s.heap U;let i:((s.heap.push Gc).push<|OX C ↥s).get? (↥s+1)=N8 (OX C ↥s):=by
  let:=bn (s.heap.push Gc) (o:=OX C ↥s) U
  rwa [ln]at this
 let h:(s.heap.push Gc).Ns ↥s (λ_=>N9):=(Gc,#[],_,d,U,(λe g=>Og g (by simp)),λ_=>U,);let j:=I.laid (a:=↥s) (o:=.own<|↥s+1) (h':=s.heap.push Gc) (t':=s.toks) (λb u q=>am _ q) (vk _) (_,d,);calc j.laid (a:=↥s+1) (o:=.ins C ↥s []) (t':=s.toks) (λb u q=>am _ q) (yV<|ln _ _) ?_;let c:↥s≠↥s+1:=vl<|yl _;calc(by rw[av c,ag],v3 _,c,i,λ_=>N9,(Kj.Ns1.of_empty h).at λo q=>am _ q,λ_=>OB,λy f=>Og U f,)
def Bf{prog:Kf}{w:Ke}{a:Env}{e:Kz}{f:Str}{pos:Pos}{s:Ks}{Q:Kd->Ks->Prop}(c:Lv e f a (eval e a)=eval e a)
  (h:Kw (model prog w) A (eval e a) (λo b=>Kw (model prog w) A (getAttr o f Oa) Q E b) E s):Kw (model prog w) A (eval (.Attribute e f pos) a) Q E s :=
 Attribute_any_ h (by rw[arm_eval_Attribute,c])
end
inductive Ct(K:bd)(f:Str)(Q:VK)(x:V)(H1:Hp):Prop
 |mk (a C dx fs v:_)(_:x=.ref a)(_:H1 a=N8 (.ins C dx fs))(_:Cls K C)(_:NoAttr K C f)(_:fs.lookup f=N8 v)(_:Q v H1)
def  EV(K:bd)(ta:TE)(f:Str):TE:=λσ H Q=>ta σ H λx a=>Ct K f Q x a
def  Gz(K:bd)(ta c:TE)(f:Str):TS:=λD σ H=>c σ H λy d=>ta σ d λx b=>∃a C dx fs,x=.ref a/\b a=N8 (.ins C dx fs)/\Cls K C/\NoAttr K C f/\⇑fs<1000 /\
 D.nx σ (upd b a<|.ins C dx<|bK f y fs)
variable{o:Kz}
section
variable{value:Kz}{f:Str}{pos' EW:Pos}{tv:TE}
def cc(g:PE X e ta)(i:Lv e f X.env (eval e X.env)=eval e X.env):PE X (.Attribute e f pos) (EV X.K ta f):=by
 intro Od s σ H Q I h;calc Bf i<|thn (g Od s σ H _ I h) λu t (x,p,o,b,a,C,dx,fs,v,j,k,c,n,l,q,)=>?_;subst j;obtain rfl:u=dL a:=b;calc uV o k c n l λr s2 m d=>(v,p,m,d,q,)
def dz(m:PE X o ta)(j:PE X value tv)(k:KR value (N8<|.Attribute o f pos') pos.line X.env=pure Ob):PS X (.Assign [.Attribute o f pos'] value pos) (Gz X.K ta tv f):=by
 intro Od s σ H D I h;calc plainObj_wpAny_Assign_Attribute (thn (j Od s σ H _ I h) λu b (y,z,w,d,q,)=>thn (m Od b σ z _ w q) λi s2 (x,B,v,e,a,C,dx,fs,p,r,c,n,l,g,)=>?_) k;subst p;obtain rfl:i=dL a:=e;calc uW v r c n l d λA t=>(σ,_,t,g,)
end
section
variable{Q:Kd->Ks->Prop}{c:Kd}{b:Bool}
inductive kY(K:bd)(H:Hp):V->Kd->Prop where
 |non:kY K H .non (.type "NoneType")
 |bl (x:Bool):kY K H (.bl x) (.type "bool")
 |int (i:Int):kY K H (.int i) (.type "int")
 |str (x:Str):kY K H (.str x) (.type "str")
 |flt (x:UInt64):kY K H (.flt x) (.type "float")
 |lst {a:Ki}{xs:Oo V}(e:H a=N8 (.lst xs)):kY K H (.ref a) (.type "list")
 |frz {a:Ki}{o:Obj}{xs:Oo V}(e:H a=N8 (.frz o<|.lst xs)):kY K H (.ref a) (.type "list")
 |tup {a:Ki}{xs:Oo V}(e:H a=N8 (.tup xs)):kY K H (.ref a) (.type "tuple")
 |dK {a:Ki}{kvs:Oo (Key×V)}(e:H a=N8 (.dK kvs)):kY K H (.ref a) (.type "dict")
 |dT {a:Ki}{kvs:Oo (Oo Key×V)}(e:H a=N8 (.dT kvs)):kY K H (.ref a) (.type "dict")
 |ins {a C dx:Ki}{fs:Oo (Str×V)}(e:H a=N8 (.ins C dx fs))(cl:Cls K C)(ha:wT K (.ref C) "__class__" = N8 (N8<|.builtin "object.__class__"))
   (hn:O2 K (.builtin "object.__class__") "__get__" = N8 (N8<|.builtin "getset_descriptor.__get__")) (htk:W.takesIn K (.builtin "object.__class__")=N8 Oa)
   (hm:PY K C (.type "object")=N8 Oa):kY K H (.ref a) (.ref C)
def xO{x:V}{u t:Kd}(I:Inv X Od σ H s)(d:RelV x u)(ty:kY X.K H x t)(e:KT X.K t c=N8 b)(h:∀k,Q (.bool b) { s with toks:=k }) :
  Kw (model X.prog X.w) A (call (.builtin "isinstance") [u,c]) Q E s:=by
 cases ty with
 |non=>cases (show u=lv from d);exact AC W.kitx_none I.kIn OB e (λz=>nomatch z) h
 |bl y=>cases (show u=QU y from d);exact AC W.kitx_bool I.kIn OB e (λz=>nomatch z) h
 |int i=>obtain⟨t,q⟩:=(show ∃t,u=Qu i t from d);cases q;exact AC W.kitx_int I.kIn OB e (λz=>nomatch z) h
 |str y=>obtain⟨t,q⟩:=(show ∃t,u=P6 y t from d);cases q;exact AC W.kitx_str I.kIn OB e (λz=>nomatch z) h
 |flt y=>obtain⟨t,q⟩:=(show ∃t,u=Kd.float y t from d);cases q;exact AC W.kitx_float I.kIn OB e (λz=>nomatch z) h
 | @lst a g ea =>
  cases (show u=dL a from d);let(_,_,n,_,f):=(show bO X.prog X.w H s.heap a (.lst g)from I.hok a _ ea);exact AC W.kitx_list I.kIn (_,f,U,) e (λz=>nomatch z) h
 | @frz a ob g ea =>
  cases (show u=dL a from d);let(_,_,_,n,_,f):=(show bO X.prog X.w H s.heap a (.frz ob<|.lst g)from I.hok a _ ea);exact AC W.kitx_list I.kIn (_,f,U,) e (λz=>nomatch z) h
 | @tup a g ea =>
  cases (show u=dL a from d);let(_,_,_,p):=(show bO X.prog X.w H s.heap a (.tup g)from I.hok a _ ea);let(o,f,j,_):=p;exact AC W.kitx_tuple I.kIn (o,f,j,) e (λz=>nomatch z) h
 | @dK a kvs ea =>
  cases (show u=dL a from d);let(_,_,r,_,p):=(show bO X.prog X.w H s.heap a (.dK kvs)from I.hok a _ ea);let(o,l,m,f,j,_):=p;exact AC W.kitx_dict I.kIn (o,f,j.1,) e (λz=>nomatch z) h
 | @dT a kvs ea =>
  cases (show u=dL a from d);let(_,_,g,_,o,l,m,f,j,_):=(show bO X.prog X.w H s.heap a (.dT kvs)from I.hok a _ ea);exact AC W.kitx_dict I.kIn (o,f,j.1,) e (λz=>nomatch z) h
 | @ins a C dx fs ea cl ha hn htk hm =>
  cases (show u=dL a from d);let(B,O,_):=mM I.hok ea;let(v,J,_):=O.look;calc AC (W.kitx_own (cl.get _) cl.hd ha hn htk hm) I.kIn J e (λz=>nomatch z) h
end
structure bu(k:Nat)(A:Kr):Prop where
 hd:A.handled=N9
 dp:A.depth+3*k+5<Lw
 un:A.units+16*k+200<Ly
def bu.mono{j k:Nat}{A:Kr}(r:bu k A)(h:j<=k):bu j A:=(r.hd,by have:=r.dp;lia,by have:=r.un;lia,)
def bu.deeper{k:Nat}{A:Kr}(r:bu (k+1) A)(a:Env):bu k (A.deeper a) :=
 (r.hd,by have:=r.dp;show A.depth+1+3*k+5<_;lia,by have:=r.un;show A.units+3+16*k+200<_;lia,)
def bu.in1{k:Nat}{A:Kr}(r:bu (k+1) A):bu k A.in1 :=
 (r.hd,by have:=r.dp;show A.depth+3*k+5<_;lia,by have:=r.un;show A.units+1+16*k+200<_;lia,)
def uX{A:Kr}{C:Ki}{us:Oo Kd}{a:Oo (Str×Kd)}:(A.under<|.builtin "type.__call__" (.ref C :: us,a,)).depth=A.depth+1:=by
 first|rfl|simp[Kr.under,Lz.weight,Lz.isCreation,Lz.isGuard,Lz.isCaller,Lz.frames,Lz.isFrame,guardIds]
def uY{A:Kr}{C:Ki}{us:Oo Kd}{a:Oo (Str×Kd)}:(A.under<|.builtin "type.__call__" (.ref C :: us,a,)).units=A.units+1:=by
 first|rfl|simp[Kr.under,Lz.cUnits,Lz.frames,Lz.isFrame]
def bu.make{k:Nat}{A:Kr}(r:bu (k+1) A)(C:Ki)(us:Oo Kd)(a:Oo (Str×Kd)):bu k (A.under<|.builtin "type.__call__" (.ref C :: us,a,)) :=
 (r.hd,by have:=r.dp;rw[uX];lia,by have:=r.un;rw[uY];lia,)
def bu.depth{k:Nat}{A:Kr}(r:bu k A):A.depth<Lw:=by have:=r.dp;lia
def bu.units{k:Nat}{A:Kr}(r:bu k A):A.units+64<Ly:=by have:=r.un;lia
def  Dt:TA:=λ_ H Q=>Q [] H
def  EY(ta:TE)(b:TA):TA:=λσ H Q=>ta σ H λx d=>b σ d λa c=>Q (x :: a) c
variable{es:Oo Kz}{t:TA}
def ai:PA X [] Dt:=λ_ _ _ _ H Q I h=>PC ([],H,I,.nil,h,)
def ae(k:PE X e te)(j:PA X es t)(i:KD (e :: es) X.env=(Ob,eval e X.env) :: KD es X.env:=by rfl):PA X (e :: es) (EY te t):=by
 intro pos Od s σ H Q I h;rw[i];show Kw _ _ (spliced ((Ob,eval e X.env) :: KC pos (KD es X.env))) _ _ s;calc Pz<|thn (k Od s σ H _ I h) λu b (x,o,m,d,g,)=>?_;calc thn (j pos Od b σ o _ m g) λp s2 (a,n,l,c,f,)=>(x :: a,n,l,.cons d c,f,)
def  GA(t:TA):TE:=λσ H Q=>t σ H λa b=>⇑a<=Kk/\∀p,b p=N9->Q (.ref p) (upd b p<|.tup a)
def  GB(t:TA):TE:=λσ H Q=>t σ H λa b=>⇑a<=Kk/\∀p,b p=N9->Q (.ref p) (upd b p<|.lst a)
def bo{x1} (h:PA X es t):PE X (.Tuple es x1 pos) (GA t):=by
 intro Od s σ H Q I i;refine wpAny_Tuple_spliced (thn (h pos Od s σ H _ I i) λg a (f,d,c,r,z,q,)=>(by rw[←⇑r];exact z,?_,));let j:d ↥a=none:=c.hok.fresh<|vk _;calc(.ref ↥a,upd d ↥a<|.tup f,c.laid (t':=a.toks) (λb u e=>am _ e) (vk _) ?_,U,q _ j,);calc(z,g,r,(_,bn _ U,U,_,U,),)
def aW(h:PA X es t):PE X (.List es pos) (GB t):=by
 intro Od s σ H Q I i;refine wpAny_List_spliced (thn (h pos Od s σ H _ I i) λg a (f,d,c,r,z,q,)=>(by rw[←⇑r];exact z,?_,));let j:d ↥a=none:=c.hok.fresh<|vk _;calc(.ref ↥a,upd d ↥a<|.lst f,c.laid (t':=a.toks) (λb u e=>am _ e) (vk _) ?_,U,q _ j,);calc(z,g,0,r,bn _ U,)
abbrev Sp:=Oo V->Hp->VK->XK->Prop
abbrev CXT:=Oo Env->Hp->Ks->XK->Kd->Ks->Prop
structure q8(P:Kf)(w:Ke)(K:bd)(mg:Str->Option Kd)(base:Kj)(A:Kr)(outer:Oo Env)(s:Ks)(H:Hp):Prop where
 frames:A.frames=N8 outer
 mod:Mod K mg base
 bs:∀b o,base.get? b=N8 o->s.heap.get? b=N8 o/\H b=N9
 bsz:base.objs.size<=↥s
 funs:s.heap.FunFrames base outer
 frf:∀b∈frs outer,H b=N9
 hok:HOk P w H s.heap
 bare:AllBare s.gens
def  CE(a:Oo Env)(P:Kf)(w:Ke)(H:Hp)(s:Ks)(Q:VK)(u:Kd)(s':Ks):Prop :=
 ∃v H',s'.os=s.os/\AllBare s'.gens/\Un (frs a) [] H H' s.heap s'.heap/\HOk P w H' s'.heap/\RelV v u/\Q v H'
def  CR(CX:CXT)(a:Oo Env)(P:Kf)(w:Ke)(H:Hp)(s:Ks)(Q:VK)(E:XK)(r:Lq)(s':Ks):Prop :=
 match r with
 | .ok (.ret u)=>CE a P w H s Q u s'
 | .ok _=>False
 | .error e=>CX a H s E e s'
structure aH(P:Kf)(w:Ke)(K:bd)(mg:Str->Option Kd)(base:Kj)(CX:CXT)(k:Nat)(f:Ki)(fd:LA)(ps:Oo Str)(sp:Sp):Prop where
 len:∀vs H Q E,sp vs H Q E->⇑vs=⇑ps
 run:∀(A:Kr)(outer:Oo Env)(s:Ks)(H:Hp)(args:Args)(us:Oo Kd)(vs:Oo V)(Q:VK)(E:XK),bu k A->q8 P w K mg base A outer s H->LB s fd args (ps.zip us)->Vals vs us->sp vs H Q E ->
  Lu (model P w) A (.call (.ref f) args) (CR CX outer P w H s Q E) s
def aH.mono{P:Kf}{w:Ke}{K:bd}{mg:Str->Option Kd}{base:Kj}{CX:CXT}{j k:Nat}{f:Ki}{c:LA}{ps:Oo Str}{sp:Sp}(F:aH P w K mg base CX j f c ps sp)(h:j<=k) :
  aH P w K mg base CX k f c ps sp:=(F.len,λA a s H b e d Q E g=>F.run A a s H b e d Q E<|g.mono h,)
def q8.make{P:Kf}{w:Ke}{K:bd}{mg:Str->Option Kd}{base:Kj}{A:Kr}{a:Oo Env}{s:Ks}{H:Hp}(e:q8 P w K mg base A a s H)(C:Ki)(us:Oo Kd)(b:Oo (Str×Kd)) :
  q8 P w K mg base (A.under<|.builtin "type.__call__" (.ref C :: us,b,)) a s H:=(by first|exact e.frames|(simpa[Kr.under,Lz.envs,Lz.isFrame,pushEnvs]using e.frames),e.mod,e.bs,e.bsz,e.funs,e.frf,e.hok,e.bare,)
section
variable{s':Ks}
def Inv.env0(I:Inv X Od σ H s):q8 X.prog X.w X.K X.mg X.base X.A X.stack s H :=
 (I.ok.frames,I.ok.mod,I.bs,vr I.ok.bsz I.sz,I.stack,I.stkFree,I.hok,I.bare,)
def Inv.after{Q:VK}{u:Kd}(I:Inv X Od σ H s)(h:CE X.stack X.prog X.w H s Q u s'):EP X Od σ Q u s':=by
 let(v,H',os,a,un,hok,r,q):=h;let(e,g,d,t,c):=s';obtain rfl:c=s.os:=os;calc(v,H',I.call (h':=e) (g':=g) (d':=d) (t':=t) (ch:=[]) un hok a<|λb z=>Og z (by simp),r,q,)
end
def  EZ(sp:Sp)(dvs:Oo V)(E:XK)(t:TA):TE:=λσ H Q=>t σ H λa b=>sp (a++dvs) b Q E
def  Cu(C:Ki)(sp:Sp)(dvs:Oo V)(E:XK)(t:TA):TE:=λσ H Q=>t σ H λb a=>∀x dx,a x=N9->a dx=N9->dx≠x ->
 sp (.ref x :: (b++dvs)) (upd (upd a dx<|.own x) x<|.ins C dx []) (λv c=>v=.non/\Q (.ref x) c) E
def  Binds(K:bd)(b:LA)(ps:Oo Str)(ds:Oo Kd):Prop :=
 ∀(s:Ks)(a:Oo Kd),K.In s.heap->⇑(a++ds)=⇑ps->LB s b (a,[],) (ps.zip<|a++ds)
def Binds.all{K:bd}{b:LA}{ps:Oo Str}(h:∀us:Oo Kd,⇑us=⇑ps->LC b (us,[],)=pure (ps.zip us)):Binds K b ps []:=λs us _ a=>by
 rw[iI]at a⊢;calc .of_eq<|h us a
def  Passes(CX:CXT)(X:Cx)(E:XK):Prop:=∀(Od:Oo (Ki×Obj))(σ:St)(H:Hp)(s:Ks)(e:Kd)(a:Ks),Inv X Od σ H s->CX X.stack H s E e a->X.xe e a
variable{p:Pos}
section
variable{CX:CXT}{k:Nat}{fd:LA}{ps:Oo Str}{sp:Sp}{dvs:Oo V}{ds:Oo Kd}{E:XK}{x m:Str}{apos:Pos}
def q9{Od:Oo (Ki×Obj)}{σ:St}{H:Hp}{s:Ks}{Q:VK}{us:Oo Kd}{vs:Oo V}(F:aH X.prog X.w X.K X.mg X.base CX k f fd ps sp)(g:bu k X.A)(j:Binds X.K fd ps ds)(hd:Vals dvs ds)(d:Passes CX X E)
  (I:Inv X Od σ H s)(r:Vals vs us)(h:sp (vs++dvs) H Q E):Kw (model X.prog X.w) X.A (call (.ref f) us) (EP X Od σ Q) X.xe s:=by
 let b:Vals (vs++dvs) (us++ds):=r.append hd;let i:⇑(us++ds)=⇑ps:=by rw[←⇑b];exact F.len _ _ _ _ h
 calc LD<|LF (F.run X.A X.stack s H (us,[],) (us++ds) (vs++dvs) Q E g I.env0 (j s us I.kIn i) b h) λr c a=>?_;cases r with
 |error e=>exact d Od σ H s e c I a
 |ok l =>
  cases l with
  |ret u=>exact I.after a
  |next=>exact io a
  |brk=>exact io a
  |cont=>calc io a
def Bg(F:aH X.prog X.w X.K X.mg X.base CX k f fd ps sp)(g:bu k X.A)(l:Gl X x)(i:X.mg x=↑f)(j:FS X.K (.ref f)=Oa)(m:Binds X.K fd ps ds)(hd:Vals dvs ds)(d:Passes CX X E)
  (n:PA X (e :: es) t)(b:(x == ("__debug__" : Str))=false:=by decide) (he:KD (e :: es) X.env=(Ob,eval e X.env) :: KD es X.env:=by rfl)(a:(KC pos<|KD es X.env).any (·.1)=false:=by rfl) :
  PE X (.Call (.Name x p) (e :: es) [] pos) (EZ sp dvs E t):=by
 intro Od s σ H Q I h;calc Kc<|cZ I l i ?_ b;calc AT (h₀:=X.base) I.ok.mod.kin j (thn (n pos Od s σ H _ I h) λu v (o,y,c,r,q,)=>(c.kIn,?_,)) he a;calc q9 F g m hd d c r q
structure Mk(K:bd)(C f:Ki):Prop where
 makes:W.makesIn K C=Oa
 init:wT K (.ref C) "__init__" = N8 ↑f
 fn:W.isFn K (.ref f)=Oa
 kp:FS K (.ref C)=Oa
def sD{Od:Oo (Ki×Obj)}{σ:St}{H:Hp}{s:Ks}{Q:VK}{us:Oo Kd}{vs:Oo V}(M:Mk X.K C f)(F:aH X.prog X.w X.K X.mg X.base CX k f fd ps sp)(m:bu (k+1) X.A)(o:Binds X.K fd ps ds)(hd:Vals dvs ds)
  (l:Passes CX X E)(I:Inv X Od σ H s)(r:Vals vs us)
  (h:∀x dx,H x=N9->H dx=N9->dx≠x->sp (.ref x :: (vs++dvs)) (upd (upd H dx<|.own x) x<|.ins C dx []) (λv y=>v=.non/\Q (.ref x) y) E) :
  Kw (model X.prog X.w) X.A (call (.ref C) us) (EP X Od σ Q) X.xe s:=by
 let d:=h (↥s+1) ↥s (I.hok.fresh<|w5 _) (I.hok.fresh<|vk _)<|vl<|yl _;let b:=Inv.made (C:=C) I;let c:Vals (mt (↥s+1) :: (vs++dvs)) (dL (↥s+1) :: (us++ds)):=.cons U<|r.append hd;let n:⇑(dL (↥s+1) :: us++ds)=⇑ps:=by
  let e:=⇑c;rw[F.len _ _ _ _ d]at e;exact e.symm
 refine LD (zo (f:=f) I.kIn M.makes M.init (beq_iff_eq.mp M.fn) (LF (F.run _ X.stack _ _ (dL (↥s+1) :: us,[],) (dL (↥s+1) :: (us++ds)) _ _ E (m.make C us [])
  (b.env0.make C us []) (o _ (dL (↥s+1) :: us) b.kIn n) c d) λr g a=>?_))
 cases r with
 |error e=>exact l Od σ _ _ e g b a
 |ok p =>
  cases p with
  |ret u =>
   let(v,H',t,i,q,j):=b.after a;subst q;exact(i,(mt<|↥s+1,H',t,U,j,),)
  |next=>exact io a
  |brk=>exact io a
  |cont=>calc io a
def Bh(M:Mk X.K C f)(F:aH X.prog X.w X.K X.mg X.base CX k f fd ps sp)(g:bu (k+1) X.A)(j:Gl X x)(i:X.mg x=↑C)(l:Binds X.K fd ps ds)(hd:Vals dvs ds)(d:Passes CX X E)
  (m:PA X (e :: es) t)(b:(x == ("__debug__" : Str))=false:=by decide) (he:KD (e :: es) X.env=(Ob,eval e X.env) :: KD es X.env:=by rfl)(a:(KC pos<|KD es X.env).any (·.1)=false:=by rfl) :
  PE X (.Call (.Name x p) (e :: es) [] pos) (Cu C sp dvs E t):=by
 intro Od s σ H Q I h;calc Kc<|cZ I j i ?_ b;calc AT (h₀:=X.base) I.ok.mod.kin M.kp (thn (m pos Od s σ H _ I h) λo u (n,v,c,r,q,)=>(c.kIn,?_,)) he a;calc sD M F g l hd d c r q
def zp(M:Mk X.K C f)(F:aH X.prog X.w X.K X.mg X.base CX k f fd ps sp)(c:bu (k+1) X.A)(e:Gl X x)(d:X.mg x=↑C)(g:Binds X.K fd ps ds)(hd:Vals dvs ds)(b:Passes CX X E)
  (a:(x == ("__debug__" : Str))=false:=by decide):PE X (.Call (.Name x p) [] [] pos) (Cu C sp dvs E Dt):=by
 intro Od s σ H Q I h;calc Kc<|cZ I e d ?_ a;calc W.callWith_K0 I.kIn M.kp<|sD (us:=[]) M F c g hd b I .nil h
end
section
variable{CX:CXT}{k:Nat}{fd:LA}{ps ks:Oo Str}{sp:Sp}{E:XK}{x m:Str}{apos GC:Pos}{kws:Oo LG}{tk:TA}{nm:Option Str}
structure GD(K:bd)(fd:LA)(ps ks:Oo Str)(g:Oo Kd->Oo Kd->Oo Kd)(gV:Oo V->Oo V->Oo V):Prop where
 to:∀(s:Ks)(us ws:Oo Kd),K.In s.heap->⇑(g us ws)=⇑ps->LB s fd (us,ks.zip ws,) (ps.zip<|g us ws)
 rel:∀{vs:Oo V}{us:Oo Kd}{zs:Oo V}{ws:Oo Kd},Vals vs us->Vals zs ws->Vals (gV vs zs) (g us ws)
variable{g:Oo Kd->Oo Kd->Oo Kd}{gV:Oo V->Oo V->Oo V}
end
structure ar(N P:Oo Str)(sc:Kt):Prop where
 kind:sc.kind=.function
 co:sc.isCoroutine=Ob
 gen:sc.isGenerator=Ob
 nd:N.Nodup
 pre:N.take P.length=P
 par:∀x∈P,sc.names.lookup x=N8 .local\/sc.names.lookup x=N8 .cell
 nofree:∀y∈sc.names,y.2≠.free
def qe{a:Str->Option LH}{x:Str}:∀{binds:Oo (Str×Kd)}{m:Str->Option Kd},(∀v,(x,v) ∉ binds)->LI a binds m x=m x
 | [],_,_=>rfl
 |(n,v) :: r,m,h=>by
  unfold LI;rw[qe λw b=>h w (dy _ b)];split
  .let:x≠n:=by rintro rfl;exact h v cf
   simp[this]
  .rfl
def qf{a:Str->Option LH}{x:Str}:∀{binds:Oo (Str×Kd)}{m:Str->Option Kd},(∀v,(x,v) ∉ binds)->LJ a binds m x=m x
 | [],_,_=>rfl
 |(n,v) :: r,m,h=>by
  unfold LJ;rw[qf λw b=>h w (dy _ b)];split
  .rfl
  .let:x≠n:=by rintro rfl;exact h v cf
   simp[this]
def qg{a:Str->Option LH}{x:Str}{v:Kd}:∀{P:Oo Str}{vs:Oo Kd}{i:Nat}{m:Str->Option Kd},P.Nodup->P[i]?=N8 x->vs[i]?=N8 v->a x=N8 .local ->
  LI a (P.zip vs) m x=N8 v
 | [],_,_,_,_,h,_,_=>by simp at h
 |_ :: _,[],_,_,_,_,h,_=>by simp at h
 |p :: P,w :: vs,0,m,nd,h1,h2,hk=>by
  simp at h1 h2;subst h1;subst h2;show LI a ((p,w) :: P.zip vs) m p=_;unfold LI;rw[qe λv b=>(lX.mp nd).1 (q0 b).1,Of hk];simp
 |p :: P,w :: vs,i+1,m,nd,h1,h2,hk=>by
  show LI a ((p,w) :: P.zip vs) m x=_;unfold LI;calc qg (i:=i) (lX.mp nd).2 (~~~h1) (~~~h2) hk
def qh{a:Str->Option LH}{x:Str}{v:Kd}:∀{P:Oo Str}{vs:Oo Kd}{i:Nat}{m:Str->Option Kd},P.Nodup->P[i]?=N8 x->vs[i]?=N8 v->a x≠N8 .local ->
  LJ a (P.zip vs) m x=N8 v
 | [],_,_,_,_,h,_,_=>by simp at h
 |_ :: _,[],_,_,_,_,h,_=>by simp at h
 |p :: P,w :: vs,0,m,nd,h1,h2,hk=>by
  simp at h1 h2;subst h1;subst h2;show LJ a ((p,w) :: P.zip vs) m p=_;unfold LJ;rw[qf λv b=>(lX.mp nd).1 (q0 b).1,Oe hk];simp
 |p :: P,w :: vs,i+1,m,nd,h1,h2,hk=>by
  show LJ a ((p,w) :: P.zip vs) m x=_;unfold LJ;calc qh (i:=i) (lX.mp nd).2 (~~~h1) (~~~h2) hk
def  start(N:Oo Str)(vs:Oo V):St:=vs.map N8++Db (N.length-⇑vs) N9
def  bw(CX:CXT)(P:Kf)(w:Ke)(K:bd)(mg:Str->Option Kd)(base:Kj)(N:Oo Str)(qual:Str)(scope:Kt)(f:Ki)(b:Kd)(A:Kr)(outer:Oo Env)(s:Ks)(H:Hp)(E:XK):Cx where
 prog:=P
 w:=w
 K:=K
 mg:=mg
 base:=base
 A:=A.deeper (envOfC qual scope ↥s f b)
 N:=N
 s₀:=s
 H₀:=H
 env:=envOfC qual scope ↥s f b
 outer:=outer
 stack:=envOfC qual scope ↥s f b :: outer
 ex:=[]
 calm:=Oa
 fn:=λ_=>Oa
 pn:=[]
 xe:=λe c=>Kw (model P w) (A.deeper<|envOfC qual scope ↥s f b) (leaving (envOfC qual scope ↥s f b) e) (λ_ a=>CX outer H s E e a) (λd a=>CX outer H s E d a) c
def sE{a:Kt}{n:Nat}{x:Str}(h:a.names.lookup x=N8 .cell):∃c,(LK n a.names []).lookup x=N8 c:=by
 let q:=W.cellsFrom_some a.names n [] (.inl h);calc JG.mp q
def xP{CX:CXT}{P:Kf}{w:Ke}{K:bd}{mg:Str->Option Kd}{base:Kj}{N ps:Oo Str}{qual:Str}{scope:Kt}{f:Ki}{C:Kd}{A:Kr}{d:Oo Env}{s D:Ks}{H:Hp}{E:XK}{us:Oo Kd}{vs:Oo V}
  (S:ar N ps scope)(hd:A.handled=N9)(j:q8 P w K mg base A d s H)(O:⇑vs=⇑ps)(r:Vals vs us)
  (x:InCallC s ↥s (LI (envOfC qual scope ↥s f C).kindOf (ps.zip us) λ_=>N9) (LK (↥s+1) scope.names []) (LJ (envOfC qual scope ↥s f C).kindOf (ps.zip us) λ_=>N9) D) :
  Inv (bw CX P w K mg base N qual scope f C A d s H E) [] (start N vs) H D:=by
 let L:⇑ps<=N.length:=by have:=Ol NE S.pre;rw[fI]at this;lia
 let(B,M,rfl,G):=x.done;let m:∀b:Ki,b ∉ (bw CX P w K mg base N qual scope f C A d s H E).ex:=λb z=>Og (show b∈([]:Oo Ki)from z) (by simp)
 refine((j.mod,S.kind,U,U,vk _,λy z c B g=>?_,λy l=>?_,λy c _ h=>?_,λ_=>hd,Kr.frames_deeper j.frames,.inr (U,U,),λb z=>Og z<|m b,j.bs,j.bsz,λb _ _=>m b,λb z=>Og z<|m b,j.funs,j.frf,),
  rfl,j.bare,Un.kept G,(_,x.toInCall.ns,λi y v B g Q=>?_,),λy c h=>(_,x.cell y c h,),j.hok.fresh<|vk _,λy c h=>?_,λp o=>Og (show p∈([]:Oo (Ki×Obj))from o) (by simp),j.hok.kept G,?_,)
 .exact name_of_addr x.apart (mem_of_lookup B)<|mem_of_lookup g
 .let l:scope.names.lookup y=N8 .cell\/scope.names.lookup y=N8 .free:=l;rcases l with l|l
  .exact sE l
  .exact Og U<|S.nofree _<|mem_of_lookup l
 .exact wx<|x.above y c<|mem_of_lookup h
 .let hi:i<⇑vs:=by
   unfold start at g;by_cases hi:i<⇑vs
   .exact hi
   .rw[jy (~~~hi)]at g;rw[QE]at g;split at g <;> cases g
  let J:vs[i]?=N8 v:=by
   unfold start at g;rw[fS (~~~hi),dr]at g;cases e:vs[i]? with
   |none=>rw[e]at g;cases g
   |some a=>rw[e]at g;cases g;rfl
  let(u,F,I):=r.get J;let o:ps[i]?=N8 y:=by
   rw[←S.pre,KB ∅];exact B
  let t:ps.Nodup:=by rw[←S.pre];exact S.nd.sublist<|nL _ _
  calc(u,I,?_,);rcases S.par y (JR o)with k|k
  .exact .inl (k,qg t o F k,)
  .let(c,e):=sE (n:=↥s+1) k;calc .inr (.inl k,c,e,?_,);let q:=x.cell y c e;rw[qh t o F (by show scope.names.lookup y≠_;rw[k];decide)]at q;exact q
 .exact j.hok.fresh<|wx<|x.above y c<|mem_of_lookup h
 .unfold start;show _=N.length;rw[cn,aa,oU];lia
def sF{CX:CXT}{P:Kf}{w:Ke}{K:bd}{mg:Str->Option Kd}{base:Kj}{k:Nat}{f:Ki}{name qual:Str}{params:LL}{body:Oo KG}{scope:Kt}{D kV doc pm c F T:Kd}{G R:Option Ki}
  {p:Array (Option Kd)}{N ps:Oo Str}{sp:Sp}(X:K.lookup f=N8 (T,R,.func<|Pj name qual params body scope D kV doc pm G c F,p,))(B:PZ K c qual=Oa)(S:ar N ps scope)
  (len:∀vs H Q E,sp vs H Q E->⇑vs=⇑ps)
  (dA:∀(A:Kr)(a:Oo Env)(s:Ks)(H:Hp)(vs:Oo V)(Q:VK)(E:XK),bu k (A.deeper<|envOfC qual scope ↥s f c)->sp vs H Q E ->
   ∃t,PSs (bw CX P w K mg base N qual scope f c A a s H E) body t/\t { nx:=λ_ H'=>Q .non H',rt:=Q } (start N vs) H) :
  aH P w K mg base CX (k+1) f (Pj name qual params body scope D kV doc pm G c F) ps sp:=by
 calc(len,λA a s H M O vs Q E m h hb r i=>?_,);let hl:=len _ _ _ _ i;let L:K.In s.heap:=h.mod.kin.keeps λb o e=>(h.bs b o e).1
 let z:s.heap.NoLimit:=h.mod.nolimit.keeps λb o e=>(h.bs b o e).1
 let E1:∀y∈ps.zip O,scope.names.lookup y.1=N8 .local\/(scope.names.lookup y.1=N8 .cell/\((LK (↥s+1) scope.names []).lookup y.1).isSome=Oa):=λ(n,v,) Y=>by
  rcases S.par n (q0 Y).1 with q|q
  .exact .inl q
  .exact .inr (q,W.cellsFrom_some _ _ _<|.inl q,)
 calc codeAny_call_function m.depth (L _ _ X) U S.co S.gen U (W.codeRec_of L B)<|hb _ _ _ _ ?_;refine wpAny_newFunctionEnv_cells S.kind E1 λa0 he C x=>?_
 subst he;calc(z.keeps x.toInCall.keep,codeAny_func ?_,);let(t,Z,hq):=dA A a s H vs Q E (m.deeper _) i;let I:Inv (bw CX P w K mg base N qual scope f c A a s H E) [] (start N vs) H C:=xP S m.hd h hl r x;refine KH (Z [] C (start N vs) H _ I hq) (λfl j g=>?_) λe j g=>g
 let fin:∀{d:St}{H':Hp}{v:V}{u:Kd},Inv (bw CX P w K mg base N qual scope f c A a s H E) [] d H' j->RelV v u->Q v H'->CE a P w H s Q u j :=
  λ{d H' v u} J l q=>(v,H',J.os,J.bare,J.base,J.hok,l,q,)
 cases fl with
 |ret u =>
  let(v,d,H',J,l,q):=g;exact fin J l q
 |next =>
  let(d,H',J,q):=g;exact fin (v:=V.non) (u:=lv) J U q
 |brk =>
  let(_,_,_,q):=g;exact io q
 |cont =>
  let(_,_,_,q):=g;calc io q
section
variable{x:Str}{id T:String}{r:Oo V->Hp->VK->Prop}
def  tCB(r:Oo V->Hp->VK->Prop)(t:TA):TE:=λσ H Q=>t σ H λa b=>r a b Q
def aG(n:cF X (.builtin id) r)(m:Gl X x)(l:X.mg x=N9)(j:Kq x=N8 (.builtin id))(o:PA X (e :: es) t)(k:x ≠ "__name__" := by decide) (b:(x == ("__debug__" : Str))=false:=by decide)
  (he:KD (e :: es) X.env=(Ob,eval e X.env) :: KD es X.env:=by rfl)(a:(KC pos<|KD es X.env).any (·.1)=false:=by rfl):PE X (.Call (.Name x p) (e :: es) [] pos) (tCB r t):=by
 intro Od s σ H Q I h;calc Kc<|fK I m l j ?_ k b;calc PyProof.Rows.callWith_builtin1 (thn (o pos Od s σ H _ I h) λd f (c,u,q,g,i,)=>n Od f σ u c d Q q g i) he a
def cj(n:cF X (.type T) r)(m:Gl X x)(l:X.mg x=N9)(j:Kq x=N8 (.type T))(o:PA X (e :: es) t)(k:x ≠ "__name__" := by decide) (b:(x == ("__debug__" : Str))=false:=by decide)
  (he:KD (e :: es) X.env=(Ob,eval e X.env) :: KD es X.env:=by rfl)(a:(KC pos<|KD es X.env).any (·.1)=false:=by rfl):PE X (.Call (.Name x p) (e :: es) [] pos) (tCB r t):=by
 intro Od s σ H Q I h;calc Kc<|fK I m l j ?_ k b;calc nw (thn (o pos Od s σ H _ I h) λd f (c,u,q,g,i,)=>n Od f σ u c d Q q g i) he a
end
end _L
open _L.Cx renaming wish→RH,nox→RI
open _L.SqT renaming of→RG
open _L.SqL renaming of→RF
open _L.V renaming int→ut,ref→mt,str→v0
namespace HT
open PySem PyProof.Rows
section
open PySem.SeqAt
open PySem.AutoSeq1 (wpAny_loadPart')
open PySem.MeetsSeq PySem.MeetsSeq2 PySem.MeetsSeq3
end
section
variable{prog:Kf}{w:Ke}{A:Kr}{E:Kd->Ks->Prop}{s:Ks}
def cat_tup{t b:Ki}{vs ws:Oo Kd}{Q:Kd->Ks->Prop}(p:IsTup s.heap t vs.toArray)(q:IsTup s.heap b ws.toArray)(m:vs≠[])
  (u:ws=[]->Q (.ref t) s)(r:ws≠[]->Q (.ref ↥s) { s with heap:=s.heap.push { cls:=.type "tuple",data:=.seq (vs++ws).toArray } })
  (hsz:⇑vs+⇑ws<=Kk):Kw (model prog w) A (Lg .Add (.ref t)<|.ref b) Q E s:=by
 let((cls,dd,data,k),i,o,n,hd):=id p;let((v,g,j,c),a,f,l,d):=id q;simp only at o hd f d;subst o hd f d;let e:vs.toArray++ws.toArray=(vs++ws).toArray:=by simp
 by_cases h:ws=[]
 .exact LM (_,i,rfl,) (_,a,rfl,) LN LO PySem.F.slot_tuple_add PySem.F.entry_tuple_add (PySem.F.args_tuple_add_2 _ _)
   (tuple_addW1 t b vs.toArray ws.toArray n l dd g k c (~~~m) (by simp[h])) (i,a,u h,)
 .refine LM (_,i,rfl,) (_,a,rfl,) LN LO PySem.F.slot_tuple_add PySem.F.entry_tuple_add (PySem.F.args_tuple_add_2 _ _)
   (tuple_addW2 t b vs.toArray ws.toArray n l dd g k c (~~~m) (~~~h) (by rw[dG,dG];exact hsz)) (i,a,?_,)
  rw[e];calc r h
def  sIx(n d:Nat):Option Int->Nat
 |none=>d
 |some v=>if v<0 then(v+(n:Int)).toNat else min v.toNat n
def sIx_nat(n d k:Nat):sIx n d (N8 (k:Int))=min k n:=by
 show(if (k:Int)<0 then((k:Int)+(n:Int)).toNat else min (k:Int).toNat n)=min k n;rw[Oe ∅,JS]
def Du(n d:Nat)(hd:d<=n)(o:Option Int):sIx n d o<=n:=by
 cases o with
 |none=>exact hd
 |some v =>
  show(if v<0 then(v+(n:Int)).toNat else min v.toNat n)<=n;by_cases a:v<0
  .rw[Of a];lia
  .rw[Oe a];calc Fb _ _
def wH(v:Int)(n d:Nat):(if v<0 then max (v+(n:Int)) 0 else min v (n:Int))=((sIx n d (N8 v):Nat):Int):=by
 show(if v<0 then max (v+(n:Int)) 0 else min v (n:Int))=(((if v<0 then(v+(n:Int)).toNat else min v.toNat n):Nat):Int);by_cases a:v<0
 .simp only[Of a];lia
 .simp only[Oe a];lia
def uZ(lo hi:Option Int)(n:Nat):O9 lo hi 1 (n:Int)=(((sIx n 0 lo:Nat):Int),((sIx n n hi:Nat):Int)):=by
 let a:¬ ((1:Int)<0):=∅
 unfold O9;simp only[a,if_false];refine Prod.ext ?_ ?_
 .cases lo with
  |none=>rfl
  |some v=>exact wH v n 0
 .cases hi with
  |none=>rfl
  |some v=>calc wH v n n
def u9(i j:Nat):Oy (i:Int) (j:Int) 1=j-i:=by
 unfold Oy;let a:(1:Int)>0:=∅
 simp only[a,if_true,Int.ediv_one];split <;> lia
def nr{v:Kd}{o:Option Int}{Q:Option Int->Ks->Prop}(p:LP v o)(h:Q o s):Kw (model prog w) A (Le.Slice.slicePartIndex v) Q E s:=by
 cases p with
 |none=>exact slicePart_none h
 |int i t=>calc slicePart_int h
def kZ{e:Ki}{d c:Kd}{lo hi:Option Int}{n:Nat}{Q:Int×Int×Nat->Ks->Prop}(g:s.heap.IsSliceOf e d c .none)(pl:LP d lo)(f:LP c hi)
  (h:Q (((sIx n 0 lo:Nat):Int),1,sIx n n hi-sIx n 0 lo) s):Kw (model prog w) A (Qo (.ref e)<|pure (n:Int)) Q E s:=by
 let(j,a,i,b):=id g;unfold Qo Le.Slice.sliceFields;calc JZ<|JZ<|LQ a b (x:=d) rfl<|JZ<|LQ a b (x:=c) rfl<|JZ<|LQ a b (x:=.none) rfl<|Ka ?_;calc JZ<|slicePart_none ?_;show Kw _ _ (if ((1:Int) == 0)=Oa then _ else _) _ _ s;rw[Oe ⋯];calc JZ<|nr pl<|JZ<|nr f<|JZ<|Ka ?_;show Kw _ _ (match O9 lo hi 1 (n:Int)with|(lo,hi)=>pure (lo,(1:Int),Oy lo hi 1)) _ _ s;rw[uZ lo hi n];show Kw _ _ (pure (((sIx n 0 lo:Nat):Int),(1:Int),Oy ((sIx n 0 lo:Nat):Int) ((sIx n n hi:Nat):Int) 1)) _ _ s;rw[u9];calc Ka h
def zq(xs:Array Kd)(i k:Nat):((db k).filterMap λ(m:Nat)=>xs[((i:Int)+(m:Int)*1).toNat]?).toArray=((xs.toList.drop i).take k).toArray:=by
 let e:(λ(m:Nat)=>xs[((i:Int)+(m:Int)*1).toNat]?)=λm=>xs[i+m]?:=by
  funext m
  let:((i:Int)+(m:Int)*1).toNat=i+m:=∅
  rw[this]
 rw[e];let:=pick_run xs i k;rw[List.filterMap_map]at this;let a:((λx=>xs[x]?) ∘ λx=>i+x)=λm=>xs[i+m]?:=rfl
 rw[a]at this;rw[this]
def getItem_tuple_cut{t c:Ki}{items:Array Kd}{j i:Kd}{lo hi:Option Int}{Q:Kd->Ks->Prop}(b:IsTup s.heap t items)(k:s.heap.IsSliceOf c j i .none)(pl:LP j lo)(l:LP i hi)
  (hw:¬ (sIx items.size 0 lo=0/\sIx items.size items.size hi=items.size))
  (h:Q (.ref ↥s) { s with heap:=s.heap.push { cls:=.type "tuple",data:=.seq ((items.toList.drop<|sIx items.size 0 lo).take<|sIx items.size items.size hi-sIx items.size 0 lo).toArray } })
  (hsz:items.size<=Kk):Kw (model prog w) A (LR (.ref t)<|.ref c) Q E s:=by
 let a:sizeOk (.seq ((items.toList.drop<|sIx items.size 0 lo).take<|sIx items.size items.size hi-sIx items.size 0 lo).toArray):=by
  show((items.toList.drop<|sIx items.size 0 lo).take<|sIx items.size items.size hi-sIx items.size 0 lo).toArray.size<=Kk;rw[dG,fI,ny,FV];exact vr (Fb _ _)<|vr (yS _ _) hsz
 let u:sIx items.size items.size hi<=items.size:=Du _ _ (vk _) hi;let(n,d,f,o):=id k;let g:s.TypeIs (.ref c) "slice" := (n,d,f,);unfold LR
 try with_reducible refine Kb ?_
 first|refine JZ (Ka ?_)|skip
 refine JZ<|wpAny_sequenceKey b.typeIs ⋯ ?_
 refine JZ (LS (name:=s!"__getitem__") b.typeIs IN
  (LU IN b.typeIs entry_tuple_getitem ?_<|args_tuple_getitem _ _))
 show Kw _ _ (Qm (.ref t) >>= _) _ _ s;calc JZ<|tupleItemsOf_ b ?_;calc JZ<|LW g ?_;rw[Of ⋯];calc JZ<|kZ k pl l ?_;let e:¬ ((((sIx items.size 0 lo:Nat):Int) == 0 && (1:Int) == 1 && (sIx items.size items.size hi-sIx items.size 0 lo) == items.size)=Oa):=by
  intro q;rw[Iv,Iv]at q;let r:((sIx items.size 0 lo:Nat):Int)=0:=eq_of_beq q.1.1;let p:sIx items.size items.size hi-sIx items.size 0 lo=items.size:=eq_of_beq q.2;exact hw (∅,∅,)
 show Kw _ _ (if (((sIx items.size 0 lo:Nat):Int) == 0 && (1:Int) == 1 && (sIx items.size items.size hi-sIx items.size 0 lo) == items.size)=Oa then _ else _) _ _ s;rw[Oe e,zq]
 first
  |exact JZ (m:=OD _) (LX (Ka (_,rfl,Ka h,)) a)
  |exact JZ (m:=OD _) (LX (JZ<|Ka<|Ka (_,rfl,Ka h,)) a)
  |exact JZ (JZ (m:=OD _)<|LX (Ka<|Ka (_,rfl,Ka h,)) a)
  |calc JZ (JZ (m:=OD _)<|LX (Ka (_,rfl,Ka h,)) a)
end
end HT
namespace _L
open PySem PySem.Spec PyProof.Rows
abbrev TO:=St->Hp->(Option Int->RK)->Prop
def  PO(X:Cx)(e:Option Kz)(t:TO):Prop :=
 ∀(a:Oo (Ki×Obj))(s:Ks)(b:St)(H:Hp)(Q:Option Int->RK),Inv X a b H s->t b H Q ->
  Kw (model X.prog X.w) X.A (evalPart e X.env) (λu d=>∃o c,Inv X a b c d/\LP u o/\Q o c) X.xe s
def  Bi:TO:=λ_ H Q=>Q N9 H
inductive zt  (Q:Option Int->RK)(x:V)(H1:Hp):Prop
 |mk (i:_)(_:x=.int i)(_:Q (N8 i) H1):zt Q x H1
def  E5(t:TE):TO:=λa H Q=>t a H λx b=>zt Q x b
variable{X:Cx}
section
variable{e:Kz}{te:TE}{lo hi:Option Kz}{tl th:TO}{pos p2:Pos}
def kh:PO X N9 Bi:=by
 intro a s b H Q I h;rw[LY];calc Ka (N9,H,I,.none,h,)
def ki(h:PE X e te):PO X (N8 e) (E5 te):=by
 intro a s b H Q I f;rw[evalPart_some];refine thn (h a s b H _ I f) λu k (x,j,g,c,d,)=>?_
 let(i,rfl,q):=d;let(t,rfl):=c;calc(N8 i,j,g,.int i t,q,)
def  SlR(X:Cx)(r:V->Option Int->Option Int->Hp->VK->Prop):Prop :=
 ∀(a:Oo (Ki×Obj))(s:Ks)(b:St)(H:Hp)(x:V)(v d c:Kd)(lo hi:Option Int)(e:Ki)(Q:VK),Inv X a b H s->RelV x v->s.heap.IsSliceOf e d c .none->LP d lo->LP c hi->r x lo hi H Q ->
  ∃T f,LZ (.type T) "__getitem__" = pure (N8<|.builtin f)/\s.TypeIs v T/\Kw (model X.prog X.w) X.A (LR v<|.ref e) (EP X a b Q) X.xe s
def  tSl(r:V->Option Int->Option Int->Hp->VK->Prop)(te:TE)(tl th:TO):TE:=λa H Q=>te a H λx d=>tl a d λl c=>th a c λu b=>r x l u b Q
def hV{r:V->Option Int->Option Int->Hp->VK->Prop}(B:SlR X r)(E:PE X e te)(C:PO X lo tl)(y:PO X hi th):PE X (.Subscript e (.Slice lo hi N9 p2) pos) (tSl r te tl th):=by
 intro a s d H Q I h;calc Subscript_<|thn (E a s d H _ I h) λv j (x,N,L,k,o,)=>?_;calc wpAny_Slice<|thn (C a j d N _ L o) λg s2 (l,M,K,t,n,)=>thn (y a s2 d M _ K n) λf c (u,i,J,p,m,)=>?_;rw[LY];calc Ka ?_;let G:Inv X a d i { c with heap:=c.heap.push { cls:=.type "slice",data:=.fields #[g,f,.none] } }:=J.kept (t':=c.toks) λb O q=>am _ q
 let(T,P,F,z,D):=B a { c with heap:=c.heap.push { cls:=.type "slice",data:=.fields #[g,f,.none] } } d i x v g f l u ↥c Q G k (Kj.IsSliceOf.new ..) t p m;show Kw (model X.prog X.w) X.A (subscriptTail e (.Slice lo hi N9 p2) v<|.ref ↥c) (EP X a d Q) X.xe { c with heap:=c.heap.push { cls:=.type "slice",data:=.fields #[g,f,.none] } };calc tail_any (ops:=[.ref ↥c,v]) z F D (by with_unfolding_all rfl)
def  kj(xs:Oo V)(lo hi:Option Int):Oo V:=(xs.drop<|HT.sIx ⇑xs 0 lo).take<|HT.sIx ⇑xs ⇑xs hi-HT.sIx ⇑xs 0 lo
def lZ(xs:Oo V)(lo hi:Option Int):⇑(kj xs lo hi)<=⇑xs:=by
 unfold kj;rw[fI,ny];lia
inductive E9(K:bd)(x:V)(lo:Option Int)(hi:Option Int)(H:Hp)(Q:VK):Prop
 |mk (a xs:_)(_:x=.ref a)(_:SqT K H a xs)(_:¬ (HT.sIx ⇑xs 0 lo=0/\HT.sIx ⇑xs ⇑xs hi=⇑xs))(_:∀p,H p=N9->Q (.ref p) (upd H p<|.tup<|kj xs lo hi))
def vc:SlR X (E9 X.K):=by
 intro i s t H x v w u lo hi y Q I j p l k h;let(a,d,rfl,m,n,q):=h;cases j;let(e,r,g,f):=I.tuple m;let c:e.toArray.size=⇑d:=by rw[dG];exact r.length.symm
 calc("tuple",_,IN.lookup,g.typeIs,?_,);refine HT.getItem_tuple_cut g p l k (by rw[c];exact n) ?_ (by rw[c];exact f);rw[c];calc(.ref ↥s,_,I.laid (t':=s.toks) (o:=.tup<|kj d lo hi) (λb z q=>am _ q) (vk _) ?_,U,q _<|I.hok.fresh<|vk _,);calc(vr (lZ d lo hi) f,_,(r.drop<|HT.sIx ⇑d 0 lo).take<|HT.sIx ⇑d ⇑d hi-HT.sIx ⇑d 0 lo,Ry _ _,)
inductive Cv(K:bd)(x:V)(y:V)(H:Hp)(Q:VK):Prop
 |mk (a b xs ys:_)(_:x=.ref a)(_:y=.ref b)(_:SqT K H a xs)(_:SqT K H b ys)(_:xs≠[])(_:⇑xs+⇑ys<=Kk)(_:(ys=[]->Q (.ref a) H))(_:(ys≠[]->∀p,H p=N9->Q (.ref p) (upd H p<|.tup<|xs++ys)))
def Vals.nil_iff{xs:Oo V}{us:Oo Kd}(r:Vals xs us):us=[]↔xs=[]:=by
 cases r with
 |nil=>simp
 |cons _ _=>simp
def Bj:OpR X (Lg .Add) (Cv X.K):=by
 intro f s B H x y v u Q I k j h;let(a,b,i,g,rfl,rfl,t,r,p,e,m,l):=h;cases k;cases j;let(A,d,n,_):=I.tuple t;let(C,c,p2,_):=I.tuple r;refine HT.cat_tup n p2 (λz=>p<|d.nil_iff.mp z) (λz=>(.ref a,H,I,U,m<|c.nil_iff.mp z,)) (λz=>?_) (by rw[←⇑d,←⇑c];exact e);calc(.ref ↥s,_,I.laid (t':=s.toks) (o:=.tup<|i++g) (λb D q=>am _ q) (vk _) ?_,U,l (λw=>z<|c.nil_iff.mpr w) _<|I.hok.fresh<|vk _,);calc(by rw[cn];exact e,_,d.append c,Ry _ _,)
end
def  ixN(n:Nat)(i:Int):Option Nat:=if 0<=i then(if i<n then N8 i.toNat else N9)else if -(n:Int)<=i then N8 (i+n).toNat else N9
def  atI{α:Type}(xs:Oo α)(i:Int):Option α:=(ixN ⇑xs i).bind λj=>xs[j]?
def wJ{n:Nat}{i:Int}{j:Nat}(h:ixN n i=N8 j):seqIndex? i n=N8 j/\j<n/\-(n:Int)<=i/\i<n:=by
 unfold ixN at h;by_cases b:0<=i
 .rw[Of b]at h;by_cases a:i<n
  .rw[Of a]at h;let e:i.toNat=j:=ci h;exact(by rw[L0 b a,e],∅,∅,a,)
  .rw[Oe a]at h;cases h
 .rw[Oe b]at h;by_cases a : -(n:Int)<=i
  .rw[Of a]at h;let e:(i+n).toNat=j:=ci h;exact(by rw[seqIndex_neg ∅ a,e],∅,a,∅,)
  .rw[Oe a]at h;cases h
def wK{α:Type}{xs:Oo α}{i:Int}{v:α}(h:atI xs i=N8 v):∃j,seqIndex? i ⇑xs=N8 j/\xs[j]?=N8 v/\j<⇑xs/\-(⇑xs:Int)<=i/\i<⇑xs:=by
 unfold atI at h;cases e:ixN ⇑xs i with
 |none=>rw[e]at h;cases h
 |some j =>
  rw[e]at h;let(d,c,b,a):=wJ e;calc(j,d,h,c,b,a,)
def cP{α:Type}{xs:Oo α}{j:Nat}{v:α}(h:xs[j]?=N8 v):atI xs (j:Int)=N8 v:=by
 let a:j<⇑xs:=(JQ.mp h).1;let e:ixN ⇑xs (j:Int)=N8 j:=by
  unfold ixN;rw[Of ∅,Of ∅];simp
 unfold atI;rw[e];calc h
def sG{α:Type}(xs:Oo α)(v:α):atI (xs++[v]) (-1)=N8 v:=by
 let a:⇑(xs++[v])=⇑xs+1:=by simp
 let e:ixN ⇑(xs++[v]) (-1)=N8 ⇑xs:=by
  unfold ixN;rw[a,Oe ⋯,Of ∅]
  congr 1
  lia
 unfold atI;rw[e];show(xs++[v])[⇑xs]?=N8 v;simp
def  Bm(b:Kz):Prop:=∀o i,subscripted b Ob o i=operate [o,i] (LR o i)
def  IxR(X:Cx)(r:R2):Prop :=
 ∀(value a:Kz)(b:Oo (Ki×Obj))(s:Ks)(c:St)(H:Hp)(x y:V)(v u:Kd)(Q:VK),Inv X b c H s->RelV x v->RelV y u->r x y H Q ->
  subscripted a Ob v u=operate [v,u] (LR v u)->Kw (model X.prog X.w) X.A (subscriptTail value a v u) (EP X b c Q) X.xe s
def  MtR(X:Cx)(e:String)(r:V->Oo V->Hp->VK->Prop):Prop :=
 ∀(a:Oo (Ki×Obj))(s:Ks)(b:St)(H:Hp)(x:V)(c:Oo V)(v:Kd)(d:Oo Kd)(Q:VK),Inv X a b H s->RelV x v->Vals c d->r x c H Q ->
  Kw (model X.prog X.w) X.A (call (.builtin e) (v :: d)) (EP X a b Q) X.xe s
section
variable{a b:Kz}{ta tb:TE}{pos:Pos}
def aP{r:R2}(i:IxR X r)(k:PE X a ta)(j:PE X b tb)(g:Bm b):PE X (.Subscript a b pos) (tOp r ta tb):=by
 intro c s d H Q I h;calc Subscript_<|Dh k j I h λv u s2 x y m l f e q=>i a b c s2 d m x y v u Q l f e q<|g _ _
inductive Dv(K:bd)(x:V)(y:V)(H:Hp)(Q:VK):Prop
 |mk (p xs i v:_)(_:x=.ref p)(_:y=.int i)(_:SqL K H p xs)(_:atI xs i=N8 v)(_:Q v H)
inductive Dw(K:bd)(x:V)(y:V)(H:Hp)(Q:VK):Prop
 |mk (p xs i v:_)(_:x=.ref p)(_:y=.int i)(_:SqT K H p xs)(_:atI xs i=N8 v)(_:Q v H)
def b7:IxR X (Dv X.K):=by
 intro value g a s k H x y v u Q I B A h l;let(p,L,i,z,rfl,rfl,C,E,q):=h;cases B;let(t,rfl):=A;let(f,r,c,M):=I.list C;let(j,b,J,O,G,F):=wK E;let(w,n,e):=r.get J;let D:=⇑r;let N:=kU;let fin:EP X a k Q w s:=(z,H,I,e,q,);by_cases m:0<=i
 .let d:i.toNat=j:=by
   rw[L0 m F]at b;exact ci b
  exact item_listR c.isList m ∅ (by rw[d];simpa using n) fin l
 .let d:(i+(f.toArray.size:Int)).toNat=j:=by
   rw[seqIndex_neg ∅ G]at b;rw[dG,←D];exact ci b
  exact subscriptTail_builtinR (x:=w) c.isList.typeIs L1.lookup
   (wpAny_getItem_list_neg (Q:=λr o=>r=w/\EP X a k Q r o) c.isList ∅ (by rw[dG] <;> lia) ∅ (by rw[d];simpa using n) (U,fin,)) l
def bL:IxR X (Dw X.K):=by
 intro value c a s d H x y v u Q I k g h l;let(p,E,i,z,rfl,rfl,m,o,q):=h;cases k;let(t,rfl):=g;let(D,r,e,F):=I.tuple m;let(j,B,A,M,L,J):=wK o;let(w,C,b):=r.get A;let n:=⇑r;let G:=kU;let fin:EP X a d Q w s:=(z,H,I,b,q,)
 exact subscriptTail_builtinR (x:=w) e.typeIs slot_tuple_getitem.lookup
  (getItem_tuple (j:=j) (Q:=λr f=>r=w/\EP X a d Q r f) e ∅ ∅ (by rw[dG,←n];exact B) (~~~C) (U,fin,)) l
def ve(a:Oo Kd)(n j:Nat)(u:Kd):im (·.setIfInBounds j u) { cls:=.type "list",data:=.seq a.toArray n }={ cls:=.type "list",data:=.seq (a.set j u).toArray n }:=by
 simp[im]
def Inv.lst{b:Oo (Ki×Obj)}{c:St}{H:Hp}{s:Ks}{p:Ki}{xs:Oo V}(I:Inv X b c H s)(h:H p=N8 (.lst xs)) :
  ∃(a:Oo Kd)(n:Nat),Vals xs a/\s.heap.get? p=N8 { cls:=.type "list",data:=.seq a.toArray n }/\⇑xs<=Kk:=by
 let(z,a,n,r,e):=I.hok p _ h;calc(a,n,r,e,z,)
def Inv.lstUpd{a:Oo (Ki×Obj)}{g:St}{H:Hp}{s:Ks}{p:Ki}{xs ys:Oo V}{c its':Oo Kd}{n d:Nat}{f:Obj->Obj}(I:Inv X a g H s)(h:H p=N8 (.lst xs))
  (i:s.heap.get? p=N8 { cls:=.type "list",data:=.seq c.toArray n }) (hf:f { cls:=.type "list",data:=.seq c.toArray n }={ cls:=.type "list",data:=.seq its'.toArray d }) (r:Vals ys its')(hz:⇑ys<=Kk)(t:Nat) :
  Inv X a g (upd H p<|.lst ys) { s with heap:=s.heap.update p f,toks:=t }:=by
 let e:(s.heap.update p f).get? p=N8 { cls:=.type "list",data:=.seq its'.toArray d }:=by
  rw[pc f i (by rw[hf] <;> rfl),hf]
 refine I.write (x:=p) (e:=p) (by rw[h];trivial) (.inl U) (λb u j q=>(mo _ _<|Fk j).trans q) (_,e,) ?_;calc(hz,its',d,r,e,)
inductive Cw  (o:V)(i:V)(v:V)(H:Hp)(Q:(RK)):Prop
 |mk (p xs k j:_)(_:o=.ref p)(_:i=.int k)(_:H p=N8 (.lst xs))(_:ixN ⇑xs k=N8 j)(_:Q (upd H p<|.lst<|xs.set j v)):Cw o i v H Q
def set_list:EL X Cw:=by
 intro b s y H o i v F G u Q I B C A h;let(p,z,k,j,rfl,rfl,g,E,q):=h;cases B;let(t,rfl):=C;let(a,n,r,d,D):=I.lst g;let(c,K,m,l):=wJ E;let e:=⇑r;let J:=kU;let x:Inv X b y (upd H p<|.lst<|z.set j v) { s with heap:=s.heap.update p (im (·.setIfInBounds j u)) } :=
  I.lstUpd g d (ve a n j u) (r.set A j) (by rw[q5];exact D) s.toks
 by_cases w:0<=k
 .let f:k.toNat=j:=by
   rw[L0 w l]at c;exact ci c
  exact W.ki_setAt d w ∅ (by rw[dG,←e];exact l) (by rw[f];exact(_,x,q,))
 .let f:(k+(a.toArray.size:Int)).toNat=j:=by
   rw[seqIndex_neg ∅ m]at c;rw[dG,←e];exact ci c
  calc W.ki_setBack d ∅ (by rw[dG,←e];exact m) ∅ (by rw[f];exact(_,x,q,))
def ra(lo hi:Option Int)(n:Nat):(L3 lo hi N9 n).1=((HT.sIx n 0 lo:Nat):Int)/\(L3 lo hi N9 n).2.1=((HT.sIx n n hi:Nat):Int)/\(L3 lo hi N9 n).2.2=1:=by
 refine(?_,?_,U,)
 .cases lo with
  |none=>simp[L3,HT.sIx]
  |some i =>
   simp only[L3,HT.sIx,JI,show(1:Int)>0 by decide,if_true];by_cases h:i<0
   .simp only[h,if_true] <;> lia
   .simp only[h,if_false] <;> lia
 .cases hi with
  |none=>simp[L3,HT.sIx]
  |some i =>
   simp only[L3,HT.sIx,JI,show(1:Int)>0 by decide,if_true];by_cases h:i<0
   .simp only[h,if_true] <;> lia
   .simp only[h,if_false] <;> lia
def pF(a:Oo Kd)(lo hi:Option Int):slicePick a.toArray lo hi N9=((a.drop<|HT.sIx ⇑a 0 lo).take<|HT.sIx ⇑a ⇑a hi-HT.sIx ⇑a 0 lo).toArray:=by
 let(d,c,b):=ra lo hi a.toArray.size;unfold slicePick;rw[d,c,b];simp only[sliceRange_one,pick_run,dG] <;> rfl
inductive Dx(K:bd)(x:V)(lo:Option Int)(hi:Option Int)(H:Hp)(Q:VK):Prop
 |mk (a xs:_)(_:x=.ref a)(_:SqL K H a xs)(_:∀p,H p=N9->Q (.ref p) (upd H p<|.lst<|kj xs lo hi))
def wL:SlR X (Dx X.K):=by
 intro f s p H x v u t lo hi w Q I g m j i h;let(a,c,rfl,l,q):=h;cases g;let(n,r,e,k):=I.list l;let d:=⇑r;calc("list",_,L1.lookup,e.isList.typeIs,?_,);refine wpAny_getItem_list_slice e.isList m j i .none (by simp) ?_ (by rw[dG] <;> lia);rw[pF,←d];calc(.ref ↥s,_,I.laid (t':=s.toks) (o:=.lst<|kj c lo hi) (λb y q=>am _ q) (vk _) ?_,U,q _<|I.hok.fresh<|vk _,);calc(vr (lZ c lo hi) k,_,0,(r.drop<|HT.sIx ⇑c 0 lo).take<|HT.sIx ⇑c ⇑c hi-HT.sIx ⇑c 0 lo,bn _ U,)
def  wM:V->Bool
 | .non=>Oa
 | .bl _=>Oa
 | .int _=>Oa
 | .str _=>Oa
 |_=>Ob
def  eqV:V->V->Bool
 | .non,.non=>Oa
 | .bl a,.bl b=>a == b
 | .bl a,.int b=>(if a then 1 else 0) == b
 | .int a,.bl b=>a == (if b then 1 else 0)
 | .int a,.int b=>a == b
 | .str a,.str b=>a == b
 |_,_=>Ob
def Dy{A:Kr}{s:Ks}{y x:V}{u v:Kd}(e:RelV y u)(c:RelV x v)(g:wM y=Oa)(f:wM x=Oa):P9 A s u v (eqV y x):=by
 cases y with
 |non =>
  cases e;cases x with
  |non=>cases c;exact QI _
  |bl b=>cases c;exact SeqAt.EqAt.none_bool b
  |int b=>obtain⟨t,rfl⟩:=c;exact SeqAt.EqAt.none_int b t
  |str b=>obtain⟨t,rfl⟩:=c;exact SeqAt.EqAt.none_str b t
  |_=>exact Og (show Ob=Oa from f) bv
 |bl a =>
  cases e;cases x with
  |non=>cases c;exact SeqAt.EqAt.bool_none a
  |bl b=>cases c;exact SeqAt.EqAt.bool_bool a b
  |int b=>obtain⟨t,rfl⟩:=c;exact SeqAt.EqAt.bool_int a b t
  |str b=>obtain⟨t,rfl⟩:=c;exact SeqAt.EqAt.bool_str a b t
  |_=>exact Og (show Ob=Oa from f) bv
 |int a =>
  let(d,rfl):=e;cases x with
  |non=>cases c;exact SeqAt.EqAt.int_none a d
  |bl b=>cases c;exact SeqAt.EqAt.int_bool a d b
  |int b=>obtain⟨t,rfl⟩:=c;exact SeqAt.EqAt.int_int a d b t
  |str b=>obtain⟨t,rfl⟩:=c;exact Qx a d b t
  |_=>exact Og (show Ob=Oa from f) bv
 |str a =>
  let(d,rfl):=e;cases x with
  |non=>cases c;exact SeqAt.EqAt.str_none a d
  |bl b=>cases c;exact SeqAt.EqAt.str_bool a d b
  |int b=>obtain⟨t,rfl⟩:=c;exact Qw a d b t
  |str b=>obtain⟨t,rfl⟩:=c;exact SeqAt.EqAt.str_str a d b t
  |_=>exact Og (show Ob=Oa from f) bv
 |_=>calc Og (show Ob=Oa from g) bv
def aI:cF X (.builtin "len") (λxs H Q=>∃p ys,xs=[.ref p]/\(SqL X.K H p ys\/SqT X.K H p ys)/\Q (.int ⇑ys) H):=by
 intro f s j H xs k Q I r h;let(p,ys,rfl,b,q):=h;let(u,rfl,g):=vals1 r;cases g;let l:=kU;rcases b with b|b
 .let(e,c,d,i):=I.list b;let a:=⇑c;exact Calls.call_len_list d.isList (by simp only[dG] <;> lia) (.int ⇑ys,H,I.tok _,(s.toks+1,by rw[dG,a],),q,)
 .let(e,c,d,i):=I.tuple b;let a:=⇑c;exact len_tuple d (by simp only[dG] <;> lia) (.int ⇑ys,H,I.tok _,(s.toks+1,by rw[dG,a],),q,)
def rb:cF X (.builtin "len") (λxs H Q=>∃z,xs=[.str z]/\⇑z<=Kk/\Q (.int ⇑z) H):=by
 intro a s b H xs c Q I r h;let(z,rfl,d,q):=h;let(u,rfl,t,rfl):=vals1 r;let e:=kU;calc len_str ∅ (.int ⇑z,H,I.tok _,(_,U,),q,)
def gq:cF X (.type "list") (λxs H Q=>∃p ys,xs=[.ref p]/\(SqL X.K H p ys\/SqT X.K H p ys)/\∀l,H l=N9->Q (.ref l) (upd H l<|.lst ys)):=by
 intro k s z H xs B Q I r h;let(p,ys,rfl,j,q):=h;let(u,rfl,A):=vals1 r;cases A
 let fin:∀(a:Oo Kd),Vals ys a->⇑ys<=Kk->∀(c:Kj)(f:Nat),(∀b y,s.heap.get? b=N8 y->c.get? b=N8 y) ->
   c.get? ↥s=N8 { cls:=.type "list",dict:=N9,data:=.seq a.toArray f,slots:=#[] }->EP X k z Q (.ref ↥s) { s with heap:=c }:=λa d i c f g e =>
  (.ref ↥s,_,I.laid (t':=s.toks) g (vk _) (show bO X.prog X.w _ c _ (.lst ys) from(i,a,f,d,e,)),U,q _<|I.hok.fresh<|vk _,)
 rcases j with j|j
 .let(a,d,t,i):=I.list j;let m:=⇑d;let(o,v,x,n,hd):=t.isList;exact L4 p (.inl U) v x hd (λc f g e=>fin a d i c f g e) (by simp only[dG] <;> lia)
 .let(a,d,t,i):=I.tuple j;let m:=⇑d;let(o,v,x,n,hd):=t;exact L4 p (.inr U) v x hd (λc f g e=>fin a d i c f g e) (by simp only[dG] <;> lia)
def jt:cF X (.type "tuple") (λxs H Q=>∃p ys,xs=[.ref p]/\((SqL X.K H p ys/\∀l,H l=N9->Q (.ref l) (upd H l<|.tup ys))\/(SqT X.K H p ys/\Q (.ref p) H))):=by
 intro a s j H xs y Q I r h;let(p,ys,rfl,h):=h;let(u,rfl,t):=vals1 r;cases t;rcases h with⟨i,q⟩|⟨i,q⟩
 .let(c,f,g,k):=I.list i;let n:=⇑f;refine call_tuple_list g.isList (λd v=>?_) (by simp only[dG] <;> lia);let m:Inv X a j H { s with heap:=d }:=I.kept (t':=s.toks) v;let x:Inv X a j (upd H d.objs.size<|.tup ys) { s with heap:=d.push { cls:=.type "tuple",data:=.seq c.toArray } } :=
   m.laid (t':=s.toks) (λb o e=>am _ e) (vk _) (show bO X.prog X.w _ _ _ (.tup ys) from(k,c,f,Ry _ _,))
  exact(.ref d.objs.size,_,x,U,q _<|m.hok.fresh<|vk _,)
 .let(c,f,g,k):=I.tuple i;calc call_tuple_same g (.ref p,H,I,U,q,)
def  tyV(K:bd)(T:String)(x:V)(H:Hp):Prop:=match x with
 | .str _=>T = "str"
 | .int _=>T = "int"
 | .ref p=>(T = "list" /\ ∃b,SqL K H p b)\/(T = "tuple" /\ ∃o,K.lookup p=N8 o/\o.cls=.type "tuple" /\ o.dict=N9) \/
   (T = "dict" /\ ((∃a,H p=N8 (.dK a))\/∃a,H p=N8 (.dT a)))\/(T = "set" /\ ∃S n,H p=N8 (.set S n))
 |_=>False
def Dz{f:Oo (Ki×Obj)}{l:St}{H:Hp}{s:Ks}{T:String}{x:V}{v:Kd}(I:Inv X f l H s)(r:RelV x v)(ty:tyV X.K T x H) :
  s.TypeIs v T/\∀a,v=.ref a->∃k,s.heap.get? a=N8 k/\k.dict=none:=by
 cases x with
 |str z =>
  let(t,rfl):=r;cases (show T = "str" from ty);exact⟨typeIs_str s z t,λ_ e=>nomatch e⟩
 |int i =>
  let(t,rfl):=r;cases (show T = "int" from ty);exact⟨typeIs_int s i t,λ_ e=>nomatch e⟩
 |ref p =>
  cases r;rcases ty with⟨rfl,w,m⟩|⟨rfl,o,b,q,hd⟩|⟨rfl,b⟩|⟨rfl,S,n,b⟩
  .let(u,_,j,_):=I.list m;calc(j.isList.typeIs,λa e=>?_,);cases e;let(o,n,e,c,hd,_):=j;exact(o,e,hd,)
  .refine((o,I.kIn p o b,q,),λa e=>?_,);cases e;exact(o,I.kIn _ o b,hd,)
  .let z:∃o,s.heap.get? p=N8 o/\o.ExactDict:=by
    rcases b with⟨h,b⟩|⟨h,b⟩
    .let(_,_,_,_,o,_,_,e,d,_):=I.hok p _ b;exact(o,e,d,)
    .let(_,_,_,_,o,_,_,e,d,_):=I.hok p _ b;exact(o,e,d,)
   let(o,e,d):=z;calc((o,e,d.1,),λa g=>?_,);cases g;exact(o,e,d.2.1,)
  .let(o,_,_,_,e,d,_):=I.hok p _ b;calc((o,e,d.1,),λa g=>?_,);cases g;exact(o,e,d.2.1,)
 |_=>calc io ty
def  tBM(K:bd)(T:String)(r:V->Oo V->Hp->VK->Prop)(to:TE)(t:TA):TE:=λa H Q=>to a H λx b=>tyV K T x b/\t a b λc d=>r x c d Q
variable{o e:Kz}{es:Oo Kz}{to:TE}{t:TA}{name:Str}{apos dB:Pos}{T id:String}{r:V->Oo V->Hp->VK->Prop}
def ib(w:PlainAttrs T)(b:Slot T name id)(d:L5 (.builtin id)=pure (.type "method_descriptor")) (hm:MtR X id r)(z:PE X o to)(A:PA X (e :: es) t)
  (j:Lv o name X.env (eval o X.env)=eval o X.env:=by rfl)
  (J:((KC dB<|KD (e :: es) X.env).all (λx=>!x.1) && (L6 dB<|L7 [] X.env).all (λx=>x.1.isSome)
   && decide (⇑(e :: es)+⇑([]:Oo LG)+(if ([]:Oo LG).isEmpty then 0 else 1)<30))=true:=by rfl)
  (k:(apos.endLine == dB.line)=true:=by rfl)(y:KD (e :: es) X.env=(Ob,eval e X.env) :: KD es X.env:=by rfl)(G:(KC dB<|KD es X.env).any (·.1)=false:=by rfl) :
  PE X (.Call (.Attribute o name apos) (e :: es) [] dB) (tBM X.K T r to t):=by
 intro a s c H Q I h;calc wpAny_Call_method_late j J k U<|thn (z a s c H _ I h) λv n (x,F,i,f,ty,u,)=>?_;let(C,B):=Dz i f ty;calc(T,id,w,b,d,C,B,?_,);let g:=A dB a n c F _ i u;rw[y]at g⊢;refine QC (by show(Ob || (KC dB<|KD es X.env).any (·.1))=Ob;rw[G] <;> rfl) (QL ?_);calc thn g λm s2 (l,E,D,p,q,)=>hm a s2 c E x l v m Q D f p q
end
def  MtM(X:Cx)(e:String)(r:V->Oo V->Hp->VK->Prop):Prop :=
 ∀(a:Oo (Ki×Obj))(s:Ks)(b:St)(H:Hp)(x:V)(c:Oo V)(v:Kd)(d:Oo Kd)(Q:VK),Inv X a b H s->RelV x v->Vals c d->r x c H Q ->
  Kw (model X.prog X.w) X.A (call (.builtin e) (v :: d)) (EP X a b Q) X.xe s
def Vals.one:∀{x:V}{us:Oo Kd},Vals [x] us->∃u,us=[u]/\RelV x u:=vals1
def Vals.two:∀{x y:V}{us:Oo Kd},Vals [x,y] us->∃u v,us=[u,v]/\RelV x u/\RelV y v:=vals2
section
variable{Od:Oo (Ki×Obj)}{σ:St}{H:Hp}{s:Ks}{l b:Ki}{xs ys zs:Oo V}
def Inv.lset{a its':Oo Kd}{n:Nat}{f:Array Kd->Array Kd}{t':Nat}(I:Inv X Od σ H s)(g:H l=N8 (.lst xs))
  (e:s.heap.get? l=N8 { cls:=.type "list",data:=.seq a.toArray n }) (hf:f a.toArray=its'.toArray)(b:Vals ys its')(hz:⇑ys<=Kk) :
  Inv X Od σ (upd H l<|.lst ys) { s with heap:=s.heap.update l<|im f,toks:=t' }:=by
 let q:=PySem.IsL.update e f;rw[hf]at q;refine I.write (x:=l) (e:=l) (by rw[g];exact trivial) (.inl U) (λh u d c=>(mo s.heap (im f)<|Fk d).trans c) (_,q,) ?_;calc(hz,its',_,b,q,)
def Inv.lnew{a:Oo Kd}{t':Nat}(I:Inv X Od σ H s)(b:Vals ys a)(hz:⇑ys<=Kk) :
  Inv X Od σ (upd H ↥s<|.lst ys) { s with heap:=s.heap.push { cls:=.type "list",data:=.seq a.toArray },toks:=t' } :=
 I.laid (λ_ _ q=>am _ q) (vk _) (hz,a,0,b,bn _ U,)
def Inv.fresh(I:Inv X Od σ H s):H ↥s=none:=I.hok.fresh<|vk _
def Inv.lstM(I:Inv X Od σ H s)(b:H l=N8 (.lst xs)):⇑xs<=Kk/\∃(a:Oo Kd)(n:Nat),Vals xs a/\⇑xs=⇑a/\s.heap.get? l=N8 { cls:=.type "list",data:=.seq a.toArray n }:=by
 let(z,a,n,r,e):=I.hok l _ b;calc(z,a,n,r,⇑r,e,)
def zB{n:Nat}(h:n<=Kk):Pl n=false:=by
 unfold Pl;calc Oi ∅
end
inductive wN  (x:V)(vs:Oo V)(H:Hp)(Q:VK):Prop
 |mk (l xs y:_)(_:x=.ref l)(_:vs=[y])(_:H l=N8 (.lst xs))(_:⇑xs<Kk)(_:Q .non (upd H l<|.lst<|xs++[y])):wN x vs H Q
def bY:MtM X "list.append" wN:=by
 intro c s i H x k v m Q I d f h;let(l,j,y,rfl,rfl,b,o,q):=h;cases d;let(u,rfl,g):=f.one;let(z,a,n,r,p,e):=I.lstM b;refine L8 F.slot_list_append (_,e,U,) F.entry_list_append (F.args_list_append_2 _ _) (PySem.list_append l a.toArray n u (by rw[dG];lia)) (e,?_,);refine(.non,_,I.lset (its':=a++[u]) b e (by simp) (r.append<|.cons g .nil) ?_,U,q,);rw[cn,il];lia
inductive wO  (x:V)(vs:Oo V)(H:Hp)(Q:VK):Prop
 |mk (l b xs zs:_)(_:x=.ref l)(_:vs=[.ref b])(_:H l=N8 (.lst xs))(_:H b=N8 (.lst zs))(_:⇑xs+⇑zs<=Kk)(_:Q .non (upd H l<|.lst<|xs++zs)):wO x vs H Q
def xQ:MtM X "list.extend" wO:=by
 intro g s A H x E v G Q I i j h;let(l,b,D,B,rfl,rfl,f,p,J,q):=h;cases i;let(u,rfl,k):=j.one;cases k;let(z,a,n,r,K,e):=I.lstM f;let(C,c,o,m,y,t):=I.lstM p;let d:a.toArray.size+c.toArray.size<=Kk:=by rw[dG,dG];lia
 let w:¬ (!a.toArray.isEmpty && Pl (a.toArray.size+c.toArray.size))=true:=by
  rw[zB d,FM];exact bv
 refine L8 F.slot_list_extend (_,e,U,) F.entry_list_extend (F.args_list_extend_2 _ _)
  (AutoSeq1.list_extend_list_list_0 l a.toArray n b c.toArray o w (by rw[dG];lia) ∅) (e,t,?_,)
 refine(.non,_,I.lset (its':=a++c) f e (by simp) (r.append m) ?_,U,q,);rw[cn];lia
inductive Fc  (x:V)(y:V)(H:Hp)(Q:VK):Prop
 |mk (l b xs zs:_)(_:x=.ref l)(_:y=.ref b)(_:H l=N8 (.lst xs))(_:H b=N8 (.lst zs))(_:⇑xs+⇑zs<=Kk)(_:∀p,H p=N9->Q (.ref p) (upd H p<|.lst<|xs++zs)):Fc x y H Q
def rf:OpR X (Lg .Add) Fc:=by
 intro d s t H x y v u Q I g f h;let(l,b,B,w,rfl,rfl,j,k,D,q):=h;cases g;cases f;let(z,a,n,r,E,e):=I.lstM j;let(A,c,C,i,p,o):=I.lstM k;refine PySem.P.add_list e o ?_ (by rw[dG,dG];lia);let m:a.toArray++c.toArray=(a++c).toArray:=by simp
 rw[m];calc(.ref _,_,I.lnew (t':=s.toks) (r.append i) (by rw[cn];lia),U,q _ I.fresh,)
section
variable{prog:Kf}{w:Ke}{A:Kr}{E:Kd->Ks->Prop}{s:Ks}
end
end _L
namespace Att
open PySem PySem.W PySem.Calls PyProof.Rows
def mB{P:L9}{h:Kj}:∀(c:Oo Int)(vs:Oo Kd),WellAll P h vs (c.map PR)->IntsAre vs c:=by
 intro c;induction c with
 |nil =>
  intro vs w;rw[ri]at w;cases w;exact .nil
 |cons n c d =>
  intro vs w;rw[iJ]at w;cases w with
  |cons a b =>
   cases a;calc .cons _ _<|d _ b
def script_of{l:OpenLaw}{n:Nat}(u:l.most=N8 n){P:L9}{h:Kj}{args:Oo WData}{c:Oo Kd}
  (k:l.row.toRowW.claim.pre args=Oa)(i:WellAll P h c args) :
  ∃a vs b,c=[dL a]/\args=[WData.list (b.map PR)]/\h.get? a=N8 { cls:=.type "list",data:=.seq vs.toArray }/\IntsAre vs b/\⇑b<=n:=by
 let j:WShape.hasAll [] args [.list .int]=true:=(pre_splitW k).1;let m:l.pre.holds [] { args:=args }=true:=(pre_splitW k).2;let(d,r,rfl,x,w):=hasAllW_cons j;obtain rfl:=hasAllW_nil w;let(z,rfl,v):=hasW_list x;let(b,rfl):=items_int v;let e:⇑b<=n:=by
  unfold OpenLaw.pre at m;let g:(WTm.not<|.lt (.lit<|.int (n:Int))<|.len<|.arg 0).holds [] { args:=[.list (b.map .int)] }=true:=by
   let g:=(holds_andW m).1;rw[u]at g;exact g
  let f:=condW_of g<|w_not<|w_lt w_lit<|w_len_list<|w_arg rfl;rw[aa]at f;refine DA λq=>?_
  let s:(n:Int)<((⇑b:Nat):Int):=∅
  first
   |(rw[Oh s]at f;exact Og f ⋯)
   |(simp at f;lia)
 cases i with
 |cons p o =>
  cases o;cases p with
  |list t y=>calc(_,_,b,rfl,rfl,t,mB b _ y,e,)
def post_true(l:OpenLaw)(args:Oo WData):l.row.toRowW.claim.post args (.bool Oa) args=true :=
 postW_of (r:=l.row.toRowW) (X:=(Oa == Oa))
  (show WShape.has [] (.bool Oa) .bool=Oa by first|rfl|decide|simp[WShape.has,WShape.arms,WShape.armsAll])
  (show(WTm.eq .res<|.lit<|.bool Oa).value [] { args:=args,res:=N8<|.bool Oa,after:=args }=N8 (.bool<|Oa == Oa)from w_eq_bool (w_res rfl) w_lit) rfl
section
variable{prog:Kf}{w:Ke}{A:Kr}{E:Kd->Ks->Prop}{s:Ks}{K:Frag}
def  ledger(h:Kj)(L d:Ki):Oo (Ki×Obj):=(db h.objs.size).filterMap λa=>if a=L\/a=d then N9 else(h.get? a).map λo=>(a,o)
end
end Att
namespace _L
open PySem PySem.Spec PyProof.Rows
def qi:∀{vs:Oo Kd}{a:Oo Int},IntsAre vs a->Vals (a.map ut) vs
 |_,_,.nil=>.nil
 |_,_,.cons n t h=>.cons (t,U,)<|qi h
def  Jt(H:Hp):Prop:=∀b,H b=N9\/∃o a,H b=N8 (.frz o<|.lst a)
def  inClass(s:KG)(j:Nat):KG:=match s with
 | .ClassDef _ _ _ body _ _ _ _ _ _ _=>body.getD j<|.Pass (0,0,0,0,)
 |_=>.Pass (0,0,0,0,)
def  dD(s:KG):LL:=match s with
 | .FunctionDef _ a _ _ _ _ _ _ _ _=>a
 |_=>{ posonlyargs:=[],args:=[],vararg:=N9,kwonlyargs:=[],kw_defaults:=[],kwarg:=N9,defaults:=[] }
def  bE(s:KG):Oo KG:=match s with
 | .FunctionDef _ _ b _ _ _ _ _ _ _=>b
 |_=>[]
def  ao(s:KG):Kt:=match s with
 | .FunctionDef _ _ _ _ _ _ sc _ _ _=>sc
 |_=>{ kind:=.function,names:=[],isGenerator:=Ob,isCoroutine:=Ob }
abbrev CX0:CXT:=λ_ _ _ _ _ _=>False
abbrev E0:XK:=λ_ _ _=>False
def bV{X:Cx}:Passes CX0 X E0:=λ_ _ _ _ _ _ _ h=>h.elim
structure Fun(K:bd)(x qual:Str)(st:KG)(f:Ki)(fd:LA):Prop where
 ex:∃(oc:Kd)(od:Option Ki)(kV doc pm:Kd)(an:Option Ki)(cdv ct:Kd)(osl:Array (Option Kd)),
  fd=Pj x qual (dD st) (bE st) (ao st) .none kV doc pm an cdv ct/\K.lookup f=N8 (oc,od,.func fd,osl,)/\PZ K cdv qual=Oa
 kp:FS K (.ref f)=Oa
section
variable{P:Kf}{w:Ke}{K:bd}{mg:Str->Option Kd}{base:Kj}
def Fun.ok{x qual:Str}{st:KG}{f:Ki}{e:LA}{N ps:Oo Str}{k:Nat}{sp:Sp}(F:Fun K x qual st f e)(S:ar N ps (ao st))(len:∀vs H Q E,sp vs H Q E->⇑vs=⇑ps)
  (j:∀(b:Kd)(A:Kr)(a:Oo Env)(s:Ks)(H:Hp)(vs:Oo V)(Q:VK)(E:XK),bu k (A.deeper<|envOfC qual (ao st) ↥s f b)->sp vs H Q E ->
   ∃t,PSs (bw CX0 P w K mg base N qual (ao st) f b A a s H E).nox (bE st) t/\t { nx:=λ_ H'=>Q .non H',rt:=Q } (start N vs) H):aH P w K mg base CX0 (k+1) f e ps sp:=by
 let(p,o,kV,m,n,u,b,r,l,rfl,g,d):=F.ex;refine sF g d S len λA a s H vs Q E i c=>?_
 let(t,h,q):=j b A a s H vs Q E i c;calc(t,h.nox,q,)
def Fun.binds{x qual:Str}{st:KG}{f:Ki}{d:LA}{ps:Oo Str}(F:Fun K x qual st f d)
  (h:∀(kV doc pm:Kd)(c:Option Ki)(a b:Kd)(us:Oo Kd),⇑us=⇑ps->LC (Pj x qual (dD st) (bE st) (ao st) .none kV doc pm c a b) (us,[],)=pure (ps.zip us)):Binds K d ps []:=by
 let(j,i,kV,doc,pm,c,a,b,e,rfl,k,g):=F.ex;calc .all<|h kV doc pm c a b
def fun_mk{x qual:Str}{st:KG}{f:Ki}{h:Kd}{g e:Option Ki}{b:Array (Option Kd)}{kV doc pm a d:Kd}(l:K.lookup f=N8 (h,g,.func<|Pj x qual (dD st) (bE st) (ao st) .none kV doc pm e a d,b,))
  (c:PZ K a qual=Oa)(k:FS K (.ref f)=Oa):Fun K x qual st f (Pj x qual (dD st) (bE st) (ao st) .none kV doc pm e a d):=((h,g,kV,doc,pm,e,a,d,b,U,l,c,),k,)
end
def aC{n:Nat}(h:n<=1000):n<Kk:=yp h ⋯
variable{X:Cx}
def pv(i:Nat){x:Str}{pos:Pos}(c:X.N[i]?=N8 x:=by rfl)(b:Vis X.env.scope x:=by first|exact cr U|exact v6 (cr U)|exact v6 (v6 U))(hd:(x == ("__debug__" : Str))=false:=by decide)
  (a:(x == ("__classdict__" : Str))=false:=by decide):PE X (.Name x pos) (qW i):=yX c b hd a
def dY{A B:Prop}(h:B):if Ob=Oa then A else B:=by
 rw[Oe bv];calc h
def eU{A B:Prop}(h:A):if Oa=Oa then A else B:=by
 rw[Of U];calc h
def eN{c A B:Prop} [Decidable c] (b:c->A)(a:¬ c->B):if c then A else B:=by
 by_cases h:c
 .rw[Of h];exact b h
 .rw[Oe h];calc a h
def Fd{c A B:Prop} [Decidable c] (a:c)(h:B):if (!decide c)=Oa then A else B:=by
 rw[Oh a];calc dY h
def  aw(H H':Hp):Prop:=∀b o,H b=N8 o->H' b=N8 o
def aw.refl(H:Hp):aw H H:=λ_ _ h=>h
def aw.trans{H e d:Hp}(a:aw H e)(b:aw e d):aw H d:=λc o h=>b c o<|a c o h
def aw.free{H H':Hp}(e:aw H H'){l:Ki}(h:H' l=Option.none):H l=Option.none:=by
 cases q:H l with
 |none=>rfl
 |some o =>
  rw[e l o q]at h;cases h
def aw.seq{K:bd}{H H':Hp}{a:Ki}{xs:Oo V}(e:aw H H')(h:SqL K H a xs):SqL K H' a xs:=by
 rcases h with(h|⟨o,h⟩)|h
 .exact .inl<|.inl<|e _ _ h
 .exact .inl<|.inr (o,e _ _ h,)
 .exact .inr h
abbrev Pr:=Int×Int
def  inR(n:Int)(p:Pr):Bool:=Oc (p.1<=n) && decide (n<=p.2)
def  inP(ps:Oo Pr)(n:Int):Bool:=ps.any<|inR n
structure Apart(R:Oo Pr):Prop where
 le:∀p∈R,p.1<=p.2
 gap:R.Pairwise λp q=>p.2+2<=q.1
structure Ju(R qs:Oo Pr):Prop where
 ap:Apart R
 mem:∀n,inP R n=inP qs n
 cov:∀p∈qs,p.1<=p.2->∃r∈R,r.1<=p.1/\p.2<=r.2
 low:∀r∈R,∃q∈qs,r.1=q.1
def  Callee(P:Kf)(w:Ke)(K:bd)(mg:Str->Option Kd)(base:Kj)(k:Nat)(x:Str)(ps:Oo Str)(sp:Sp):Prop :=
 ∃f a,aH P w K mg base CX0 k f a ps sp/\Binds K a ps []/\FS K (.ref f)=Oa/\mg x=↑f
def Callee.mono{P:Kf}{w:Ke}{K:bd}{mg:Str->Option Kd}{base:Kj}{j k:Nat}{x:Str}{ps:Oo Str}{sp:Sp}(C:Callee P w K mg base j x ps sp)(h:j<=k):Callee P w K mg base k x ps sp:=by
 let(f,a,F,r):=C;calc(f,a,F.mono h,r,)
variable{pos:Pos}
section
variable{k:Nat}{x:Str}{ps:Oo Str}{sp:Sp}{e:Kz}{es:Oo Kz}{t:TA}{p:Pos}
def  tFn(sp:Sp)(t:TA):TE:=λa H Q=>t a H λb c=>sp b c Q E0
def aL(C:Callee X.prog X.w X.K X.mg X.base k x ps sp)(o:bu k X.A)(r:Gl X x)(u:PA X (e :: es) t)(j:(x == ("__debug__" : Str))=false:=by decide)
  (he:KD (e :: es) X.env=(Ob,eval e X.env) :: KD es X.env:=by rfl)(i:(KC pos<|KD es X.env).any (·.1)=false:=by rfl):PE X (.Call (.Name x p) (e :: es) [] pos) (tFn sp t):=by
 let(f,y,F,b,n,m):=C;let h:=Bg (E:=E0) (dvs:=[]) (ds:=[]) (p:=p) F o r m n b .nil bV u j he i;intro d s g H Q I q;calc h d s g H Q I ?_;let l:t g H λa c=>sp a c Q E0:=q
 let v:(λ(a:Oo V)(c:Hp)=>sp (a++[]) c Q E0)=λa c=>sp a c Q E0:=by
  funext a c
  rw[iI]
 show t g H λa c=>sp (a++[]) c Q E0
 rw[v];calc l
end
def  dj(t u:TS):TS:=λD c H=>∃M:RJ,t { D with nx:=M } c H/\∀a b,M a b->u D a b
def aN{X:Cx}{st:KG}{rest:Oo KG}{t u:TS}(i:PS X st t)(h:PSs X rest u):PSs X (st :: rest) (dj t u):=by
 intro c s f H D I (M,a,b,);calc KQ<|thn (i c s f H { D with nx:=M } I a) λj g q=>?_;cases j with
 |next=>obtain⟨d,e,k,q⟩:=q;exact h c g d e D k<|b d e q
 |ret v=>exact q
 |brk=>exact q
 |cont=>calc q
section
variable{Od:Oo (Ki×Obj)}{σ:St}{H:Hp}{s:Ks}
end
def  bG(H H':Hp):Prop:=∀b a,H b=N8 (.tup a)->H' b=N8 (.tup a)
def aw.tups{H H':Hp}(h:aw H H'):bG H H':=λb a e=>h b _ e
def bG.trans{H g f:Hp}(a:bG H g)(b:bG g f):bG H f:=λc d e=>b c d<|a c d e
def lh{H:Hp}{p:Ki}{o:HO}(h:H p=N9):bG H (upd H p o):=λb a e=>by rw[av (aV e h)];calc e
def aR{H:Hp}{p:Ki}{o:HO}{ys:Oo V}(h:H p=N8 (.lst ys)):bG H (upd H p o):=λb a e=>by rw[av (js e h (by intro z;cases z))];calc e
def aj{H:Hp}{p:Ki}(h:H p=N9)(o:HO):aw H (upd H p o):=λb u q=>by rw[av (aV q h)];calc q
def aw.upd{H H':Hp}{p:Ki}{o:HO}(s:aw H H')(h:H p=N9):aw H (upd H' p o):=λb u q=>by rw[av (aV q h)];calc s b u q
def  PL(H:Hp):Oo V->Oo (Int×Int)->Prop:=Paired λx p=>∃r,x=.ref r/\H r=N8 (.tup [.int p.1,.int p.2])
def PL.mono{H H':Hp}{xs:Oo V}{ps:Oo (Int×Int)}(h:PL H xs ps)(s:bG H H'):PL H' xs ps:=Paired.mapP h λ_ _ (r,e,z,)=>(r,e,s r _ z,)
def PL.get{H:Hp}:∀{xs:Oo V}{ps:Oo (Int×Int)}{i:Nat}{x:V},PL H xs ps->xs[i]?=N8 x->∃p r,ps[i]?=N8 p/\x=.ref r/\H r=N8 (.tup [.int p.1,.int p.2])
 |_,_,_,_,.nil,e=>by simp at e
 |_,_,0,_,.cons (b:=b) (r,e1,z,) _,e=>by simp at e;subst e;exact(b,r,U,e1,z,)
 |_,_,i+1,x,.cons _ t,e=>by
  let(p,r,q):=PL.get (i:=i) (x:=x) t<|~~~e;calc(p,r,~~~q.1,q.2,)
def PL.length{H:Hp}{xs:Oo V}{ps:Oo (Int×Int)}(h:PL H xs ps):⇑xs=⇑ps:=Paired.length h
def PL.snoc{H:Hp}{xs:Oo V}{ps:Oo (Int×Int)}{r:Ki}{a b:Int}(h:PL H xs ps)(e:H r=N8 (.tup [.int a,.int b])):PL H (xs++[.ref r]) (ps++[(a,b)]):=Paired.snoc h (r,U,e,)
def PL.app{H:Hp}{xs ys:Oo V}{ps a:Oo (Int×Int)}(h:PL H xs ps)(h':PL H ys a):PL H (xs++ys) (ps++a):=by
 induction h with
 |nil=>exact h'
 |cons r t b=>calc .cons r b
def ju{ps:Oo (Int×Int)}{i:Nat}{p:Int×Int}{f:Int×Int->Bool}(e:ps[i]?=N8 p)(h:(ps.take i).any f=Ob)(a:f p=Ob):(ps.take<|i+1).any f=false:=by
 rw[nF,e,List.any_append,h];simp[a]
def vg{ps:Oo (Int×Int)}{i:Nat}{p:Int×Int}{f:Int×Int->Bool}(e:ps[i]?=N8 p)(a:f p=Oa):ps.any f=true:=uM.mpr (p,JR e,a,)
def l0{p:Prop} [Decidable p] (h:decide p=Oa):p:=Oj h
def l7{p:Prop} [Decidable p] (h:¬ decide p=Oa):¬ p:=λe=>h<|Oh e
def sH{X:Cx}{K:bd}(h:X.K=K):IxR X (Dv K):=h ▸ b7
def mO{X:Cx}{K:bd}(h:X.K=K):IxR X (Dw K):=h ▸ bL
def  bB(X:Cx)(N:Oo Str)(scope:Kt)(cl:Oo (Str×Ki))(fp:Oo Ki)(C:Ki)(s2:Ks)(a:Hp):Cx :=
 { prog:=X.prog,w:=X.w,K:=X.K,mg:=X.mg,base:=X.base,A:=X.A,N:=N,s₀:=s2,H₀:=a,env:=Ma scope cl C X.env,outer:=X.stack,stack:=X.stack,ex:=fp,fn:=λ_=>Ob,calm:=X.calm,pn:=[],xe:=λ_ _=>False }
def  PIf(X:Cx)(d:Oo Kz)(t:TT):Prop :=
 ∀(a:Oo (Ki×Obj))(s:Ks)(b:St)(H:Hp)(Q:Bool->RK),Inv X a b H s->t b H Q ->
  Kw (model X.prog X.w) X.A (forIn d Oa λc r=>if r=Oa then do let ok ←KA c X.env (eval c X.env);pure (OA ok)else pure (OA r)) (TP X a b Q) X.xe s
def  GH:TT:=λ_ H Q=>Q Oa H
def b8{X:Cx}:PIf X [] GH:=λ_ _ _ H _ I h=>wpAny_tests_nil (H,I,h,)
def mP{X:Cx}{c:Kz}{t:TT}(h:PT X c t):PIf X [c] t:=λa s b H Q I q=>wpAny_tests_one<|h a s b H Q I q
structure sI(X:Cx)(N:Oo Str)(fr:Oo Nat)(scope:Kt)(cl:Oo (Str×Ki))(x:Str):Prop where
 clos:Mb scope X.env=pure cl
 kind:scope.kind=.function
 nocell:∀y∈scope.names,y.2≠.cell
 names:∀y∈scope.names,y.2=.local->scope.names.lookup y.1=N8 .local
 hx:scope.names.lookup x=N8 .local
 nd:N.Nodup
 n0:N[0]?=N8 x
 len:N.length=⇑fr+1
 sub:∀(i:Nat)(y:Str),N[i+1]?=N8 y->∃j,fr[i]?=N8 j/\X.N[j]?=N8 y/\(X.env.kindOf y=N8 .cell\/X.env.kindOf y=N8 .free)/\((relabel scope X.env).names.lookup y=N8 .cell\/(relabel scope X.env).names.lookup y=N8 .free)
 cells:∀y c,cl.lookup y=N8 c->X.env.cells.lookup y=N8 c
 has:∀y,((relabel scope X.env).names.lookup y=N8 .cell\/(relabel scope X.env).names.lookup y=N8 .free)->∃c,cl.lookup y=N8 c
def fw{X:Cx}{scope:Kt}{x:Str}(kind:scope.kind=.function)(a:∀y∈scope.names,y.2≠.free)(b:∀y∈scope.names,y.2≠.cell)
  (names:∀y∈scope.names,y.2=.local->scope.names.lookup y.1=N8 .local)(f:scope.names.lookup x=N8 .local):sI X [x] [] scope [] x:=by
 let g:(relabel scope X.env).names=scope.names:=map_eq_self λy d=>by
  let z:(y.2 == LH.free)=false:= ~~~a y d
  simp[z]
 let no:∀y,¬ ((relabel scope X.env).names.lookup y=N8 .cell\/(relabel scope X.env).names.lookup y=N8 .free):=λy h=>by
  rw[g]at h;rcases h with h|h
  .exact b _ (mem_of_lookup h) U
  .exact a _ (mem_of_lookup h) U
 calc(Mc a,kind,b,names,f,by simp,U,U,λi y e=>by simp at e,(λy c e=>by cases e),λy h=>Og h<|no y,)
def de{X:Cx}{N:Oo Str}{fr:Oo Nat}{scope:Kt}{cl:Oo (Str×Ki)}{x:Str}(clos:Mb scope X.env=pure cl)(kind:scope.kind=.function)(a:∀y∈scope.names,y.2≠.cell)
  (names:∀y∈scope.names,y.2=.local->scope.names.lookup y.1=N8 .local)(g:scope.names.lookup x=N8 .local)(d:N.Nodup)(f:N[0]?=N8 x)(len:N.length=⇑fr+1)
  (sub:((db ⇑fr).all λi=>match N[i+1]?,fr[i]? with|some y,N8 j=>(X.N[j]? == N8 y) && ((X.env.kindOf y == N8 .cell) && ((relabel scope X.env).names.lookup y == N8 .cell))|_,_=>Ob)=Oa)
  (cells:∀p∈cl,X.env.cells.lookup p.1=N8 p.2)(b:((relabel scope X.env).names.all λp=>(p.2 != .cell && p.2 != .free) || (cl.lookup p.1).isSome)=Oa):sI X N fr scope cl x:=by
 refine(clos,kind,a,names,g,d,f,len,λi y e=>?_,λy c e=>cells _<|mem_of_lookup e,λy h=>?_,)
 .let hi:i<⇑fr:=by have:=(JQ.mp e).1;lia
  let z:=jL.mp sub i<|gd.mpr hi;rw[e,JP hi]at z;simp only[Iv,beq_iff_eq]at z;exact(_,JP hi,z.1,.inl z.2.1,.inl z.2.2,)
 .let look:∀k,(relabel scope X.env).names.lookup y=N8 k->(k=.cell\/k=.free)->∃c,cl.lookup y=N8 c:=λk e l=>by
   let z:=jL.mp b _<|mem_of_lookup e;rcases l with rfl|rfl
   .exact JG.mp<|~~~z
   .exact JG.mp<|~~~z
  rcases h with h|h
  .exact look _ h<|.inl U
  .exact look _ h<|.inr U
def  eV(a:St)(fr:Oo Nat)(x:Option V):St:=x :: fr.map λj=>(a[j]?).join
def  nu(J:It)(fr:Oo Nat)(tt:TT)(j:TE)(d:St)(Q:VK)(g:Hp):Prop:=∀D,g D=N9->∃W:Nat->Nat->RK,(∃m,W 0 m<|upd g D<|.lst [])/\∀i m H,W i m H ->
 (J.stop i H/\Q (.ref D) H)\/(J.go i H/\∀x h,J.yld i H x h->tt (eV d fr<|N8 x) h λb f=>if b=Oa then j (eV d fr<|N8 x) f λy e=>∃c,e D=N8 (.lst c)/\⇑c<Kk/\∃a,a<m/\W (i+1) a (upd e D<|.lst<|c++[y])
  else ∃a,a<m/\W (i+1) a f)
def  Cy(b:TI)(fr:Oo Nat)(tt:TT)(c:TE):TE:=λa H Q=>b a H λJ d=>nu J fr tt c a Q d
section
variable{prog:Kf}{w:Ke}{A:Kr}{R:Lq->Ks->Prop}{s:Ks}
def nv{f a d:Kz}{e:Oo Kz}{scope:Kt}{pos:Pos}{it g:Kd}{b:Env}(J:Nat->Ks->Prop)
  (turn:∀n s,J n s->Kw (model prog w) A (K2 it) (λr j=>match r with
   |none=>R (.ok .next) j
   |some v=>Kw (model prog w) A (K3 a it v) (λ_ s2=>Kw (model prog w) A (assign a b v) (λ_ o =>
     Kw (model prog w) A (forIn e Oa λc r=>if r=Oa then do let ok ←KA c b (eval c b);pure (OA ok)else pure (OA r)) (λok i =>
      if ok=Oa then Kw (model prog w) A (eval f b) (λy l=>Kw (model prog w) A (call (.builtin "list.append") [g,y]) (λ_ k=>∃m,m<n/\J m k) (λ_ _=>False) l) (λ_ _=>False) i
      else ∃m,m<n/\J m i) (λ_ _=>False) o) (λ_ _=>False) s2) (λ_ _=>False) j) (λ_ _=>False) s)
  (n:Nat)(h:J n s):Lu (model prog w) A (.compLoop (.ListComp f [(a,d,e,0,)] scope pos) 0 it g b) R s:=by
 calc codeAny_loop U J (λn s t=>?_) n h;show Kw _ A ((compTurn (.ListComp f [(a,d,e,0,)] scope pos) 0 it g b).onRaise (λx=>do Md x b;theTreesLotGoes x)) _ _ s;calc wpAny_noted ?_;rw[compTurn_list];calc JZ<|KZ<|JZ<|KH (turn n s t) (λr j q=>?_) λ_ _ z=>z.elim;cases r with
 |none=>exact Ka q
 |some v =>
  calc JZ<|KH q (λ_ s2 D=>?_) λ_ _ z=>z.elim;calc JZ<|KH D (λ_ o C=>JZ<|KH C (λok i p=>?_) λ_ _ z=>z.elim) λ_ _ z=>z.elim;cases ok with
  |false=>exact Ka (U,p,)
  |true=>calc JZ (JZ<|KH p (λy l B=>JZ<|KH B (λ_ k u=>Ka<|Ka (U,u,)) λ_ _ z=>z.elim) λ_ _ z=>z.elim)
end
variable{fr:Oo Nat}{tt:TT}{te:TE}
section
variable{elt iter:Kz}{ifs:Oo Kz}{x:Str}{px:Pos}{scope:Kt}{cl:Oo (Str×Ki)}{N:Oo Str}
def qj{B:Oo (Ki×Obj)}{h:St}{s2:Ks}{g:Hp}{it:Ki}{fp:Oo Ki}{tn:Nat->Kj->Prop}{J:It}{Q:VK}{E:Kd->Ks->Prop}{RR:Kd->Ki->Lq->Ks->Prop}
  (O:sI X N fr scope cl x)(hc:X.calm=Oa)(f:Inv X B h g s2)(T:Turn X.prog X.w X.K (.Name x px) J fp it tn)(a0:tn 0 s2.heap)(F:∀b∈fp,gY X B g b)
  (ht:∀fp C s H,PIf (bB X N scope cl fp C s H) ifs tt)(he:∀fp C s H,PE (bB X N scope cl fp C s H) elt te)
  (hW:nu J fr tt te h Q g)
  (fin:∀D C s' H',↥s2<=C->H' C=N9->(∃m,s'.heap.Ns C m)->Inv X B h H' s'->Q (.ref D) H'->RR (.ref D) C (.ok .next) s') :
  Kw (model X.prog X.w) X.A (Me []) (λa6 s3=>Kw (model X.prog X.w) X.A (Mf scope X.env.globals cl [] X.env.qual N9 .none (N8 X.env)) (λzC s4 =>
   Lu (model X.prog X.w) X.A (.compStart (.ListComp elt [(.Name x px,iter,ifs,0,)] scope pos) 0 (.ref it) a6 { zC with scope:=relabel scope X.env }) (RR a6 zC.locals) s4) E s3) E s2:=by
 refine LX (Mg O.nocell (by intro y hy;simp at hy) (λh1 a1 L=>?_) O.kind);dsimp only at a1 L⊢;generalize hG:s2.heap.push { cls:=.type "list",dict:=N9,data:=.seq ([]:Oo Kd).toArray }=G at a1 L⊢;let V:G.objs.size=↥s2+1:=by rw[←hG,ln]
 let q:∀b o,s2.heap.get? b=N8 o->h1.get? b=N8 o:=λb o e=>L.extBut b o (vl (by rw[V];exact wI (bi e))) (am _<|hG ▸ am _ e)
 let zD:h1.get? ↥s2=N8 { cls:=.type "list",data:=.seq ([]:Oo Kd).toArray 0 }:=L.extBut _ _ (vl (by rw[V];exact yl _)) (am _<|hG ▸ bn _ U);let hD:g ↥s2=none:=f.fresh;let I:(bB X N scope cl fp G.objs.size s2 g).Ok:=by
  refine(f.ok.mod,O.kind,f.ok.glob,f.ok.blt,by show ↥s2<=G.objs.size;rw[V];exact w5 _,λy z c e1 e2=>f.ok.inj y z c (O.cells y c e1)<|O.cells z c e2,λy hy=>O.has y hy,λy c z=>Og (show Ob=Oa from z) bv,f.ok.hd,f.ok.frames,.inl U,
   λb a=>(?_,λy c e=>(F b a).2.2.2.2.1 y c<|O.cells y c e,),f.bs,vr f.ok.bsz f.sz,λb o e a=>?_,λb a z=>?_,f.stack,f.stkFree,)
  .let(o,e,_):=T.obj _ _ a0 b a;show b≠G.objs.size;exact vl (by rw[V];exact wI (bi e))
  .rcases(F b a).2.2.2.1 with z|z
   .exact f.ok.noex b o e z
   .exact Og (v5 (bi e)<|vr f.ok.bsz z)<|w4 _
  .rcases af.mp (f.stkSub b z)with z|z
   .exact(F b a).2.1 z
   .exact(F b a).2.2.1 z
 let nA:∀{H':Hp},(∀b∈fp,H' b=N9)->∀b∈fp,gY (bB X N scope cl fp G.objs.size s2 g) [] H' b:=λhn b a =>
  (hn b a,(I.exf b a).1,I.exfs b a,.inl a,(I.exf b a).2,λp hp=>Og (show p∈([]:Oo (Ki×Obj))from hp) (by simp),)
 let I':Inv (bB X N scope cl fp G.objs.size s2 g) [] (eV h fr N9) (upd g ↥s2<|.lst []) { s2 with heap:=h1,toks:=s2.toks+⇑([]:Oo (Str×Kd)) }:=by
  refine(I,U,f.bare,Un.laid q (vk _) hD,(_,a1,λi y v e1 e2 e3=>?_,),λy c e=>?_,?_,λy c e=>?_,λp hp=>Og (show p∈([]:Oo (Ki×Obj))from hp) (by simp),f.hok.laid q (vk _) (v3 _,[],0,.nil,zD,),?_,)
  .cases i with
   |zero=>cases e2
   |succ i =>
    let(j,q1,q2,q3,q4):=O.sub i y e1;let M:(h[j]?).join=N8 v:=by
     have:(fr.map λj=>(h[j]?).join)[i]?=N8 (N8 v):=e2;rw[dr,q1]at this;exact ci this
    let e4:h[j]?=N8 (N8 v):=by
     cases z:h[j]? with
     |none=>rw[z]at M;cases M
     |some t=>rw[z]at M;exact Ol N8 M
    let(m,_,hl):=f.loc;let b0:Vis X.env.scope y:=.inr q3;let(u,r,l):=hl j y v q2 e4 b0;calc(u,r,.inr (q4,?_,),);let(c',a4):=O.has y q4;rcases l with⟨k,_⟩|⟨_,c,ec,ic⟩
    .rcases q3 with z|z
     .rw[z]at k;cases k
     .rw[z]at k;cases k
    .let:=O.cells y c' a4;let e':c=c':=ci<|ec.symm.trans this;let(o,ho,hd):=ic;rw[e']at ho;exact(c',a4,o,q c' o ho,hd,)
  .let(v,o,ho,hd):=f.cell y c<|O.cells y c e;exact(v,o,q c o ho,hd,)
  .show upd g ↥s2 (.lst []) G.objs.size=N9;rw[av (wz (by rw[V];exact yl _))];exact f.hok.fresh (by rw[V];exact w5 _)
  .let(v,o,ho,hd):=f.cell y c<|O.cells y c e;rw[av (vl<|bi ho)];exact f.freeC y c<|O.cells y c e
  .show⇑(eV h fr N9)=N.length;rw[O.len];simp[eV]
 let a3:tn 0 h1:=T.keep _ _ _ a0 λb a o e=>q b o e
 let P:∀s3:Ks,s3={ s2 with heap:=h1,toks:=s2.toks+⇑([]:Oo (Str×Kd)) } ->
   Lu (model X.prog X.w) X.A (.compLoop (.ListComp elt [(.Name x px,iter,ifs,0,)] scope pos) 0 (.ref it) (.ref ↥s2)<|Ma scope cl G.objs.size X.env) (RR (.ref ↥s2) G.objs.size) s3:=by
  rintro s3 rfl;let(W,(m0,w0),a7):=hW _ hD
  refine nv (λn s'=>∃i t H',Inv (bB X N scope cl fp G.objs.size s2 g) [] (eV h fr t) H' s'/\tn i s'.heap/\(∀b∈fp,H' b=N9)/\W i n H') ?_ m0
   (0,N9,_,I',a3,λb a=>by
    rw[av (by let(o,e,_):=T.obj _ _ a0 b a;exact vl (bi e))];exact(F b a).1,w0,)
  rintro n s' ⟨i,t,H',I3,a2,a5,w3⟩;rcases a7 i n H' w3 with⟨stop,qn⟩|⟨go,step⟩
  .refine thn (T.done (bB X N scope cl fp G.objs.size s2 g) U U U hc i [] s' _ H' _ I3 (nA a5) a2 stop) λr s4 (hr,I4,)=>?_
   subst hr;let(m,S,_):=I4.loc;refine fin _ _ s4 H' (by rw[V];exact w5 _) I4.free (m,S,) (f.call' (ch:=fp) I4.os I4.base I4.hok I4.bare λb a=>?_) qn;exact((F b a).2.2.2.1,(F b a).2.1,(F b a).2.2.2.2.1,(F b a).2.2.2.2.2,)
  .refine thn (T.item (bB X N scope cl fp G.objs.size s2 g) U U U hc i [] s' _ H' _ I3 (nA a5) a2 go) λr s4 (u,hr,h4,)=>?_
   subst hr;refine thn h4 λ_ s5 (y,H5,I5,r5,y5,Z,b3,)=>?_
   let b5:=I5.pinned (nA b3)<|T.obj _ _ Z;let lx:(bB X N scope cl fp G.objs.size s2 g).env.scope.names.lookup x=N8 .local:=lookup_relabel_local O.hx;refine thn (az (X:=bB X N scope cl fp G.objs.size s2 g) (i:=0) O.nd O.n0 (.inl lx) (.inr lx) _ s5 _ H5 y u (λa9 H'=>a9=eV h fr (N8 y)/\H'=H5) b5 r5 (U,U,)) λ_ s6 (b6,H6,I6,e6,b4,)=>?_
   subst e6;subst b4
   let again:∀{Y:St}{H7:Hp}{s7:Ks}{R:Nat},Y=eV h fr (N8 y)->Inv (bB X N scope cl fp G.objs.size s2 g) ([]++dk fp s5.heap) Y H7 s7->R<n->W (i+1) R H7 ->
     ∃m,m<n/\∃i t H',Inv (bB X N scope cl fp G.objs.size s2 g) [] (eV h fr t) H' s7/\tn i s7.heap/\(∀b∈fp,H' b=N9)/\W i m H':=λ{Y H7 s7 R} e7 I7 S w7=>by
    subst e7;calc(R,S,i+1,N8 y,H7,I7.unpinned,T.keep _ _ _ Z λb a o e=>(I7.pin (b,o)<|ik _<|ik _<|dN a e).1,λb a=>?_,w7,);let(o,e,d):=T.obj _ _ Z b a;exact(I7.pin (b,o)<|ik _<|ik _<|dN a e).2.1
   refine thn (ht fp G.objs.size s2 g _ s6 _ H6 _ I6<|step y H6 y5) λok s7 (H7,I7,q7,)=>?_
   cases ok with
   |false =>
    rw[Oe bv]at q7⊢;let(R,S,w7):=q7;exact again U I7 S w7
   |true =>
    rw[Of U]at q7⊢;refine thn (he fp G.objs.size s2 g _ s7 _ H7 _ I7 q7) λu8 s8 (v8,H8,I8,r8,ys,b1,a8,R,S,w8,)=>?_
    refine thn (bY (X:=bB X N scope cl fp G.objs.size s2 g) _ s8 _ H8 (.ref ↥s2) [v8] _ [u8] (λ_ H9=>W (i+1) R H9) I8 U (.cons r8 .nil) (_,ys,v8,U,U,b1,a8,w8,)) λ_ s9 (_,H9,I9,_,w9,)=>?_
    exact again U I9 S w9
 calc Mh (P _ U)<|T.self _ 0 _ _ _ a3<|P _ U
def Inv.left{a:Oo (Ki×Obj)}{h g:St}{s2 s':Ks}{q H':Hp}{C:Ki}{h':Kj}(f:Inv X a g q s2)(n:Inv X a h H' s')(d:↥s2<=C)(l:H' C=N9)(i:rc C s'.heap h'):Inv X a h H' { s' with heap:=h' }:=by
 refine n.turned (t':=s'.toks) (it:=C) (λb o m e=>(i.2 b m).trans e) l (wz<|v5 f.lt d) (.inr<|vr f.sz d) (λy c e=>?_) λp j=>?_
 .let(v,o,k,_):=f.cell y c e;exact vl<|v5 (bi k) d
 .exact vl<|v5 (bi (f.pin p j).1) d
def dW{g:TI}(hi:PI X (.Name x px) iter g)(O:sI X N fr scope cl x)(p:X.calm=Oa)(j:∀fp C s H,PIf (bB X N scope cl fp C s H) ifs tt)(o:∀fp C s H,PE (bB X N scope cl fp C s H) elt te)
  (k:∀v,Lf iter X.env v=pure v:=by intro _;rfl):PE X (.ListComp elt [(.Name x px,iter,ifs,0,)] scope pos) (Cy g fr tt te):=by
 intro a s f H Q I h;rw[Mi];calc Mj (use:=N9) U k O.clos O.kind O.names<|thn (hi a s f H _ I h) λv K y=>thn y λF s2 u=>?_;let(it,fp,G,J,P,e,i,T,b,z,r):=u;subst e;refine qj (RR:=λd C=>Ml (model X.prog X.w) X.A X.xe N9 (EP X a f Q) d C) O p i T b z j o r λD C L E t l (m,n,) B q=>?_
 calc(m,n,λM c=>(.ref D,E,i.left B t l c,U,q,),)
def Bp{E:TI}{i:Nat}{y:Str}{d B:Pos}(hN:X.N.Nodup)(F:X.N[i]?=N8 y)(S:Loc X.env.scope y)(hi:PI X (.Name x px) iter E)(O:sI X N fr scope cl x)(Y:X.calm=Oa)
  (G:∀fp C s H,PIf (bB X N scope cl fp C s H) ifs tt)(W:∀fp C s H,PE (bB X N scope cl fp C s H) elt te)(K:∀v,Lf iter X.env v=pure v:=by intro _;rfl)
  (l:KR (.ListComp elt [(.Name x px,iter,ifs,0,)] scope pos) (N8<|.Name y d) B.line X.env=pure true:=by rfl)(V:X.fn y=Oa\/X.env.scope.names.lookup y=N8 .local:=by first|exact .inl U|exact .inr U|assumption) :
  PS X (.Assign [.Name y d] (.ListComp elt [(.Name x px,iter,ifs,0,)] scope pos) B) (Bd (Cy E fr tt te)<|p7 i):=by
 intro b s u H j I h;rw[Mm _ _ _ _ l];calc JZ<|KZ<|JZ ?_;show Kw _ X.A (do let _ ←comprehension (.ListComp elt [⟨.Name x px,iter,ifs,0⟩] scope pos) scope X.env _ (Me []) Ob (eval iter X.env) (N8<|assign (.Name y d) X.env)) _ _ s;calc JZ<|KH (Mj (use:=N8<|assign (.Name y d) X.env) (Q:=λ_ c=>SP X b j .next c) U K O.clos O.kind O.names<|thn (hi b s u H _ I h) λv s1 h1=>thn h1 λa0 s2 h2=>?_) (λ_ c L=>Ka<|Ka L) λ_ _ z=>z;let(it,fp,tn,J,H2,e,f,T,k,f2,hW):=h2;subst e;refine qj (Q:=λv H1=>p7 i v u H1 j.nx) (RR:=λt C=>Ml (model X.prog X.w) X.A X.xe (N8<|assign (.Name y d) X.env) (λ_ c=>SP X b j .next c) t C) O Y f T k f2 G W hW λD C c H' g P (m,R,) I' q=>?_
 show Kw _ X.A (assign (.Name y d) X.env<|.ref D) _ _ c;calc KY<|kS I' hN F S (v:=.ref D) U (λs3 I3 (a,n,Z,)=>?_) V;let r:C≠a:=by
  rcases Z with z|z
  .rw[z];exact wz<|v5 f.lt g
  .let(v,o,M,_):=f.cell y a z;exact wz<|v5 (bi M) g
 calc(m,R.sameBut n r,λh' p=>(_,H',f.left I3 g P p,q,),)
def  dZ(c:Ki->Nat->Oo V->RK)(D:Ki)(i n:Nat)(d:Hp):Prop:=∃a,a<n-i/\a=n-(i+1)/\i+1<=n/\∃b,c D (i+1) b d
def  df(c:Ki->Nat->Oo V->RK)(D:Ki)(i n:Nat):VK:=λy b=>∃a,b D=N8 (.lst a)/\⇑a<Kk/\dZ c D i n (upd b D<|.lst<|a++[y])
def dZ.mk{a:Ki->Nat->Oo V->RK}{D:Ki}{i n:Nat}{b:Hp}{zs:Oo V}(hi:i<n)(h:a D (i+1) zs b):dZ a D i n b:=(n-(i+1),∅,U,hi,zs,h,)
def df.mk{b:Ki->Nat->Oo V->RK}{D:Ki}{i n:Nat}{a:Hp}{ys:Oo V}{y:V}(hi:i<n)(e:a D=N8 (.lst ys))(c:⇑ys<Kk)(h:b D (i+1) (ys++[y]) (upd a D<|.lst<|ys++[y])):df b D i n y a:=(ys,e,c,.mk hi h,)
def dO{K:bd}{a:Ki}{xs:Oo V}{g:St}{d:Hp}{Q:VK}(c:Ki->Nat->Oo V->RK)(n:∀D,d D=N9->c D 0 [] (upd d D<|.lst []))
  (l:∀D i ys H,d D=N9->i<=⇑xs->c D i ys H->SqL K H a xs)
  (k:∀D i x ys H,d D=N9->xs[i]?=N8 x->c D i ys H->tt (eV g fr<|N8 x) H λb j=>if b=Oa then te (eV g fr<|N8 x) j (df c D i ⇑xs)else dZ c D i ⇑xs j)
  (hd:∀D ys H,d D=N9->c D ⇑xs ys H->Q (.ref D) H):nu (Itl K a) fr tt te g Q d:=by
 intro D f;calc(λi m H=>m=⇑xs-i/\i<=⇑xs/\∃ys,c D i ys H,(_,U,v3 _,[],n D f,),?_,);rintro i m H ⟨rfl,hi,ys,p⟩;let q:=l D i ys H f hi p;by_cases h:i<⇑xs
 .refine .inr ((xs,xs[i],q,by simp[h],),λx o y=>?_,);let(e,y):=y;subst e;exact k D i x ys _ f (y xs q) p
 .let e:i=⇑xs:=∅
  subst e;calc .inl ((xs,q,vk _,),hd D ys H f p,)
def nB{lo:Int}{n:Nat}{f:St}{c:Hp}{Q:VK}(a:Ki->Nat->Oo V->RK)(k:∀D,c D=N9->a D 0 [] (upd c D<|.lst []))
  (j:∀D i ys H,c D=N9->i<n->a D i ys H->tt (eV f fr<|N8<|.int<|lo+i) H λb h=>if b=Oa then te (eV f fr<|N8<|.int<|lo+i) h (df a D i n)else dZ a D i n h)
  (hd:∀D ys H,c D=N9->a D n ys H->Q (.ref D) H):nu (Itr lo n) fr tt te f Q c:=by
 intro D g;calc(λi m H=>m=n-i/\i<=n/\∃ys,a D i ys H,(_,U,v3 _,[],k D g,),?_,);rintro i m H ⟨rfl,hi,ys,p⟩;by_cases d:i<n
 .refine .inr (d,λx l y=>?_,);let(e,y):=y;subst e;subst y;exact j D i ys _ g d p
 .let e:i=n:=∅
  subst e;calc .inl (vk _,hd D ys H g p,)
end
def  Bq(lo c:Int)(n:Nat):It:=(λi _=>i<n,λi H x a=>a=H/\x=.int (lo+i*c),λi _=>n<=i,)
def  rsz(lo hi c:Int):Nat:=(if lo<hi then(hi-lo-1) / c+1 else 0).toNat
def zF{a b c:Int}(d:0<c):((rsz a b c:Nat):Int)=wr a b c:=by
 unfold wr rsz;rw[Of d];split
 .let:=Int.ediv_nonneg (a:=b-a-1) (b:=c) ∅ ∅;lia
 .rfl
def vh{a b c:Int}(d:0<c)(g:c<=1000)(l : -(2^60)<=a)(j:a<2^60)(k : -(2^60)<=b)(i:b<2^60):Rh a b c=true:=by
 unfold Rh;let h:=zF (a:=a) (b:=b) d;let e:wr a b c<=2^61:=by
  unfold wr;rw[Of d];split
  .let:=Int.ediv_le_self (a:=b-a-1) c ∅;lia
  .decide
 let f:0<=wr a b c:=∅
 generalize wr a b c=z at *
 simp only[Qg,Iv,Bool.or_eq_true,decide_eq_true_eq,beq_iff_eq];rw[Of d];simp only[Qg,Iv,decide_eq_true_eq];lia
def sJ{P:Kf}{w:Ke}{K:bd}{J:Kz}(it:Ki)(lo c:Int)(n:Nat):Turn P w K J (Bq lo c n) [it] it (λi h=>K8 h it (lo+(i:Nat)*c) ((n:Int)-(i:Nat)) c) where
 mem:=by simp
 obj:=λi h a b f=>by
  let e:b=it:= ~~~f
  subst e;exact⟨_,a,λv z=>by
   let G:Data.fields _=Data.cell v:=z;cases G⟩
 keep:=λi h m a k=>k it (by simp) _ a
 item:=by
  intro X r p u g i d s D H E I l a q;subst r p u;let(C,B,N,A,y,x):=l it (by simp);let W:=K9.range (prog:=X.prog) (w:=X.w) (I.ok.hd g) it lo c n;refine W.item i s _ _ q a λv m F M j L=>?_
  let(t,rfl):=M;let Q:Inv X d D H { s with heap:=m,toks:=F }:=I.turned (λb o f e=>L b o (~~~f) e) C B A y x;refine(_,U,p8 (s:={ s with heap:=m,toks:=F }) (n := "range_iterator") j U U ⋯ (.int<|lo+i*c,H,Q,(t,U,),(U,U,),j,λb f=>(l b f).1,),)
 done:=by
  intro X r p u g i d s D H E I l a q;subst r p u;let(C,B,N,A,y,x):=l it (by simp);exact La (I.ok.hd g) a (by have:n<=i:=q;lia) λm O=>(U,I.turned (t':=s.toks) (λb o f e=>O b o f e) C B A y x,)
 self:=λ_ _ _ _ _ a h=>Lb a h
section
variable{tg:Kz}
def xR{a:Oo (Ki×Obj)}{d:St}{H:Hp}{s:Ks}{R:It->RK}{E:Kd->Ks->Prop}{lo hi c:Int}{t u v:Tok}{f:Nat}(I:Inv X a d H s)(i:0<c)(h:c<=1000)(n : -(2^60)<=lo)(m:lo<2^60)(l : -(2^60)<=hi)(k:hi<2^60)
  (q:R (Bq lo c<|rsz lo hi c) H):Kw (model X.prog X.w) X.A (K4<|.ref ↥s) (PIE X a d tg R) E { s with heap:=s.heap.push { cls:=.type "range",data:=.fields #[.int lo t,.int hi u,.int c v] },toks:=f }:=by
 calc Ld (IsRange.new ..) (vh i h n m l k) ?_;let g:Inv X a d H { s with heap:=s.heap.push { cls:=.type "range",data:=.fields #[.int lo t,.int hi u,.int c v] },toks:=f }:=I.kept λb o e=>am _ e
 refine((s.heap.push { cls:=.type "range",data:=.fields #[.int lo t,.int hi u,.int c v] }).objs.size,[(s.heap.push { cls:=.type "range",data:=.fields #[.int lo t,.int hi u,.int c v] }).objs.size],_,_,H,U,
  g.kept (t':=f) λb o e=>am _ e,sJ _ lo c<|rsz lo hi c,?_,λb j=>?_,q,)
 .let r:lo+((0:Nat):Int)*c=lo:=by simp
  let p:((rsz lo hi c:Nat):Int)-((0:Nat):Int)=wr lo hi c:=by rw[zF i];exact Int.sub_zero _
  show K8 _ _ (lo+((0:Nat):Int)*c) (((rsz lo hi c:Nat):Int)-((0:Nat):Int)) c;rw[r,p];exact bn _ U
 .let e:b=(s.heap.push { cls:=.type "range",data:=.fields #[.int lo t,.int hi u,.int c v] }).objs.size:= ~~~j
  subst e;calc g.fpOk (vk _)<|g.hok.fresh<|vk _
inductive zG  (R:It->RK)(vs:Oo V)(H1:Hp):Prop
 |mk (i j c:Int)(_:vs=[.int i,.int j,.int c])(_:(0<c/\c<=1000/\-(2^60)<=i/\i<2^60/\-(2^60)<=j/\j<2^60))(_:R (Bq i c<|rsz i j c) H1):zG R vs H1
def  Fe(c:TA):TI:=λa H R=>c a H λb d=>zG R b d
def qk{a b c:Kz}{n:TA}{p pos:Pos}(B:Gl X "range") (hm:X.mg "range" = N9) (C:PA X [a,b,c] n)(A:KD [a,b,c] X.env=[(Ob,eval a X.env),(Ob,eval b X.env),(Ob,eval c X.env)]:=by rfl)(f:KD [b,c] X.env=[(Ob,eval b X.env),(Ob,eval c X.env)]:=by rfl) :
  PI X tg (.Call (.Name "range" p) [a,b,c] [] pos) (Fe n):=by
 intro g s o H R I h;refine Call_ (fK I B hm boot_range<|nw (thn (C pos g s o H _ I h) λG L (F,M,D,u,k,)=>?_) (by rw[A,f]) (by rw[f];rfl));let(i,j,K,e,(z,m,k,y,x,w),q):=k;subst e;cases u with
 |cons r d =>
  cases d with
  |cons v d =>
   cases d with
   |cons l d =>
    cases d;let(t,rfl):=r;let(J,rfl):=v;let(E,rfl):=l;calc call_range_3 ∅ (xR D z m k y x w q) (.inl<|Qr ∅)
end
def l8{lo c:Int}{n:Nat}{g:St}{d:Hp}{Q:VK}(a:Ki->Nat->Oo V->RK)(l:∀D,d D=N9->a D 0 [] (upd d D<|.lst []))
  (k:∀D i ys H,d D=N9->i<n->a D i ys H->tt (eV g fr<|N8<|.int<|lo+i*c) H λb j=>if b=Oa then te (eV g fr<|N8<|.int<|lo+i*c) j (df a D i n)else dZ a D i n j)
  (hd:∀D ys H,d D=N9->a D n ys H->Q (.ref D) H):nu (Bq lo c n) fr tt te g Q d:=by
 intro D h;calc(λi m H=>m=n-i/\i<=n/\∃ys,a D i ys H,(_,U,v3 _,[],l D h,),?_,);rintro i m H ⟨rfl,hi,ys,p⟩;by_cases f:i<n
 .refine .inr (f,λx o y=>?_,);let(e,y):=y;subst e;subst y;exact k D i ys _ h f p
 .let e:i=n:=∅
  subst e;calc .inl (vk _,hd D ys H h p,)
structure nC(X:Cx)(N:Oo Str)(k:Nat)(fr:Oo Nat)(scope:Kt)(cl:Oo (Str×Ki)):Prop where
 clos:Mb scope X.env=pure cl
 kind:scope.kind=.function
 nocell:∀y∈scope.names,y.2≠.cell
 names:∀y∈scope.names,y.2=.local->scope.names.lookup y.1=N8 .local
 len:N.length=k+⇑fr
 sub:∀(i:Nat)(y:Str),N[k+i]?=N8 y->∃j,fr[i]?=N8 j/\X.N[j]?=N8 y/\(X.env.kindOf y=N8 .cell\/X.env.kindOf y=N8 .free)/\((relabel scope X.env).names.lookup y=N8 .cell\/(relabel scope X.env).names.lookup y=N8 .free)
 cells:∀y c,cl.lookup y=N8 c->X.env.cells.lookup y=N8 c
 has:∀y,((relabel scope X.env).names.lookup y=N8 .cell\/(relabel scope X.env).names.lookup y=N8 .free)->∃c,cl.lookup y=N8 c
def dE{X:Cx}{N:Oo Str}{k:Nat}{scope:Kt}(len:N.length=k)(kind:scope.kind=.function)(a:∀y∈scope.names,y.2≠.free)(b:∀y∈scope.names,y.2≠.cell)
  (names:∀y∈scope.names,y.2=.local->scope.names.lookup y.1=N8 .local):nC X N k [] scope []:=by
 let f:(relabel scope X.env).names=scope.names:=map_eq_self λy d=>by
  let z:(y.2 == LH.free)=false:= ~~~a y d
  simp[z]
 let no:∀y,¬ ((relabel scope X.env).names.lookup y=N8 .cell\/(relabel scope X.env).names.lookup y=N8 .free):=λy h=>by
  rw[f]at h;rcases h with h|h
  .exact b _ (mem_of_lookup h) U
  .exact a _ (mem_of_lookup h) U
 refine(Mc a,kind,b,names,by rw[len];rfl,λi y e=>?_,(λy c e=>by cases e),λy h=>Og h<|no y,);let:=(JQ.mp e).1;lia
def  cB(a:St)(fr:Oo Nat)(ts:St):St:=ts++fr.map λj=>(a[j]?).join
def  fA(J:It)(o:TG)(k:Nat)(fr:Oo Nat)(tt:TT)(te:TE)(f:St)(Q:VK)(l:Hp):Prop:=∀D,l D=N9->∃W:Nat->Nat->RK,(∃m,W 0 m<|upd l D<|.lst [])/\∀i m H,W i m H ->
 (J.stop i H/\Q (.ref D) H)\/(J.go i H/\∀x n,J.yld i H x n->∀g:St,⇑g=k->o x (cB f fr g) n λa p=>(∃d:St,⇑d=k/\a=cB f fr d)/\tt a p λb j=>if b=Oa then te a j λy h=>∃e,h D=N8 (.lst e)/\⇑e<Kk/\∃c,c<m/\W (i+1) c (upd h D<|.lst<|e++[y])
  else ∃c,c<m/\W (i+1) c j)
def  zH(b:TI)(c:TG)(k:Nat)(fr:Oo Nat)(tt:TT)(te:TE):TE:=λa H Q=>b a H λJ d=>fA J c k fr tt te a Q d
section
variable{elt iter tg:Kz}{ifs:Oo Kz}{scope:Kt}{cl:Oo (Str×Ki)}{N:Oo Str}{k:Nat}{gt:TG}
def nE{B:Oo (Ki×Obj)}{q:St}{s2:Ks}{g:Hp}{it:Ki}{fp:Oo Ki}{tn:Nat->Kj->Prop}{J:It}{Q:VK}{E:Kd->Ks->Prop}{RR:Kd->Ki->Lq->Ks->Prop}
  (O:nC X N k fr scope cl)(hc:X.calm=Oa)(f:Inv X B q g s2)(T:Turn X.prog X.w X.K tg J fp it tn)(a0:tn 0 s2.heap)(F:∀b∈fp,gY X B g b)
  (ht:∀fp C s H,PIf (bB X N scope cl fp C s H) ifs tt)(he:∀fp C s H,PE (bB X N scope cl fp C s H) elt te)
  (hg:∀fp C s H,PG (bB X N scope cl fp C s H) tg gt)(hW:fA J gt k fr tt te q Q g)
  (fin:∀D C s' H',↥s2<=C->H' C=N9->(∃m,s'.heap.Ns C m)->Inv X B q H' s'->Q (.ref D) H'->RR (.ref D) C (.ok .next) s') :
  Kw (model X.prog X.w) X.A (Me []) (λa8 s3=>Kw (model X.prog X.w) X.A (Mf scope X.env.globals cl [] X.env.qual N9 .none (N8 X.env)) (λzC s4 =>
   Lu (model X.prog X.w) X.A (.compStart (.ListComp elt [(tg,iter,ifs,0,)] scope pos) 0 (.ref it) a8 { zC with scope:=relabel scope X.env }) (RR a8 zC.locals) s4) E s3) E s2:=by
 refine LX (Mg O.nocell (by intro y hy;simp at hy) (λh1 a1 L=>?_) O.kind);dsimp only at a1 L⊢;generalize hG:s2.heap.push { cls:=.type "list",dict:=N9,data:=.seq ([]:Oo Kd).toArray }=G at a1 L⊢;let V:G.objs.size=↥s2+1:=by rw[←hG,ln]
 let x:∀b o,s2.heap.get? b=N8 o->h1.get? b=N8 o:=λb o e=>L.extBut b o (vl (by rw[V];exact wI (bi e))) (am _<|hG ▸ am _ e)
 let zD:h1.get? ↥s2=N8 { cls:=.type "list",data:=.seq ([]:Oo Kd).toArray 0 }:=L.extBut _ _ (vl (by rw[V];exact yl _)) (am _<|hG ▸ bn _ U);let hD:g ↥s2=none:=f.fresh;let I:(bB X N scope cl fp G.objs.size s2 g).Ok:=by
  refine(f.ok.mod,O.kind,f.ok.glob,f.ok.blt,by show ↥s2<=G.objs.size;rw[V];exact w5 _,λy z c e1 e2=>f.ok.inj y z c (O.cells y c e1)<|O.cells z c e2,λy hy=>O.has y hy,λy c z=>Og (show Ob=Oa from z) bv,f.ok.hd,f.ok.frames,.inl U,
   λb a=>(?_,λy c e=>(F b a).2.2.2.2.1 y c<|O.cells y c e,),f.bs,vr f.ok.bsz f.sz,λb o e a=>?_,λb a z=>?_,f.stack,f.stkFree,)
  .let(o,e,_):=T.obj _ _ a0 b a;show b≠G.objs.size;exact vl (by rw[V];exact wI (bi e))
  .rcases(F b a).2.2.2.1 with z|z
   .exact f.ok.noex b o e z
   .exact Og (v5 (bi e)<|vr f.ok.bsz z)<|w4 _
  .rcases af.mp (f.stkSub b z)with z|z
   .exact(F b a).2.1 z
   .exact(F b a).2.2.1 z
 let nA:∀{H':Hp},(∀b∈fp,H' b=N9)->∀b∈fp,gY (bB X N scope cl fp G.objs.size s2 g) [] H' b:=λhn b a =>
  (hn b a,(I.exf b a).1,I.exfs b a,.inl a,(I.exf b a).2,λp hp=>Og (show p∈([]:Oo (Ki×Obj))from hp) (by simp),)
 let I':Inv (bB X N scope cl fp G.objs.size s2 g) [] (cB q fr<|Db k N9) (upd g ↥s2<|.lst []) { s2 with heap:=h1,toks:=s2.toks+⇑([]:Oo (Str×Kd)) }:=by
  refine(I,U,f.bare,Un.laid x (vk _) hD,(_,a1,λi y v e1 e2 e3=>?_,),λy c e=>?_,?_,λy c e=>?_,λp hp=>Og (show p∈([]:Oo (Ki×Obj))from hp) (by simp),f.hok.laid x (vk _) (v3 _,[],0,.nil,zD,),?_,)
  .by_cases a5:i<k
   .let h:(Db k N9++fr.map λj=>(q[j]?).join)[i]?=N8 (N8 v):=e2;rw[fS (by rw[oU];exact a5),QE,Of a5]at h;cases h
   .let(j,q1,q2,q3,q4):=O.sub (i-k) y (by rw[show k+(i-k)=i by lia];exact e1);let h:(q[j]?).join=N8 v:=by
     have:(Db k N9++fr.map λj=>(q[j]?).join)[i]?=N8 (N8 v):=e2;rw[jy (by rw[oU];lia),oU,dr,q1]at this;exact ci this
    let e4:q[j]?=N8 (N8 v):=by
     cases z:q[j]? with
     |none=>rw[z]at h;cases h
     |some t=>rw[z]at h;exact Ol N8 h
    let(m,_,hl):=f.loc;let b1:Vis X.env.scope y:=.inr q3;let(u,r,l):=hl j y v q2 e4 b1;calc(u,r,.inr (q4,?_,),);let(c',a6):=O.has y q4;rcases l with⟨k,_⟩|⟨_,c,ec,ic⟩
    .rcases q3 with z|z
     .rw[z]at k;cases k
     .rw[z]at k;cases k
    .let:=O.cells y c' a6;let e':c=c':=ci<|ec.symm.trans this;let(o,ho,hd):=ic;rw[e']at ho;exact(c',a6,o,x c' o ho,hd,)
  .let(v,o,ho,hd):=f.cell y c<|O.cells y c e;exact(v,o,x c o ho,hd,)
  .show upd g ↥s2 (.lst []) G.objs.size=N9;rw[av (wz (by rw[V];exact yl _))];exact f.hok.fresh (by rw[V];exact w5 _)
  .let(v,o,ho,hd):=f.cell y c<|O.cells y c e;rw[av (vl<|bi ho)];exact f.freeC y c<|O.cells y c e
  .show⇑(cB q fr<|Db k N9)=N.length;rw[O.len];simp[cB]
 let a4:tn 0 h1:=T.keep _ _ _ a0 λb a o e=>x b o e
 let M:∀s3:Ks,s3={ s2 with heap:=h1,toks:=s2.toks+⇑([]:Oo (Str×Kd)) } ->
   Lu (model X.prog X.w) X.A (.compLoop (.ListComp elt [(tg,iter,ifs,0,)] scope pos) 0 (.ref it) (.ref ↥s2)<|Ma scope cl G.objs.size X.env) (RR (.ref ↥s2) G.objs.size) s3:=by
  rintro s3 rfl;let(W,(m0,w0),a9):=hW _ hD
  refine nv (λn s'=>∃i P H',P.length=k/\Inv (bB X N scope cl fp G.objs.size s2 g) [] (cB q fr P) H' s'/\tn i s'.heap/\(∀b∈fp,H' b=N9)/\W i n H') ?_ m0
   (0,Db k N9,_,oU,I',a4,λb a=>by
    rw[av (by let(o,e,_):=T.obj _ _ a0 b a;exact vl (bi e))];exact(F b a).1,w0,)
  rintro n s' ⟨i,P,H',b4,I3,a3,a7,w3⟩;rcases a9 i n H' w3 with⟨stop,qn⟩|⟨go,step⟩
  .refine thn (T.done (bB X N scope cl fp G.objs.size s2 g) U U U hc i [] s' _ H' _ I3 (nA a7) a3 stop) λr s4 (hr,I4,)=>?_
   subst hr;let(m,S,_):=I4.loc;refine fin _ _ s4 H' (by rw[V];exact w5 _) I4.free (m,S,) (f.call' (ch:=fp) I4.os I4.base I4.hok I4.bare λb a=>?_) qn;exact((F b a).2.2.2.1,(F b a).2.1,(F b a).2.2.2.2.1,(F b a).2.2.2.2.2,)
  .refine thn (T.item (bB X N scope cl fp G.objs.size s2 g) U U U hc i [] s' _ H' _ I3 (nA a7) a3 go) λr s4 (u,hr,h4,)=>?_
   subst hr;refine thn h4 λ_ s5 (y,H5,I5,r5,y5,Z,b5,)=>?_
   let b6:=I5.pinned (nA b5)<|T.obj _ _ Z;refine thn (hg fp G.objs.size s2 g _ s5 _ H5 y u _ b6 r5<|step y H5 y5 P b4) λ_ s6 (c0,H6,I6,(a2,GI,e6,),q6,)=>?_
   subst e6
   let again:∀{Y:St}{H7:Hp}{s7:Ks}{R:Nat},Y=cB q fr a2->Inv (bB X N scope cl fp G.objs.size s2 g) ([]++dk fp s5.heap) Y H7 s7->R<n->W (i+1) R H7 ->
     ∃m,m<n/\∃i P H',P.length=k/\Inv (bB X N scope cl fp G.objs.size s2 g) [] (cB q fr P) H' s7/\tn i s7.heap/\(∀b∈fp,H' b=N9)/\W i m H':=λ{Y H7 s7 R} e7 I7 S w7=>by
    subst e7;calc(R,S,i+1,a2,H7,GI,I7.unpinned,T.keep _ _ _ Z λb a o e=>(I7.pin (b,o)<|ik _<|ik _<|dN a e).1,λb a=>?_,w7,);let(o,e,d):=T.obj _ _ Z b a;exact(I7.pin (b,o)<|ik _<|ik _<|dN a e).2.1
   refine thn (ht fp G.objs.size s2 g _ s6 _ H6 _ I6 q6) λok s7 (H7,I7,q7,)=>?_
   cases ok with
   |false =>
    rw[Oe bv]at q7⊢;let(R,S,w7):=q7;exact again U I7 S w7
   |true =>
    rw[Of U]at q7⊢;refine thn (he fp G.objs.size s2 g _ s7 _ H7 _ I7 q7) λu8 s8 (v8,H8,I8,r8,ys,b3,b0,R,S,w8,)=>?_
    refine thn (bY (X:=bB X N scope cl fp G.objs.size s2 g) _ s8 _ H8 (.ref ↥s2) [v8] _ [u8] (λ_ H9=>W (i+1) R H9) I8 U (.cons r8 .nil) (_,ys,v8,U,U,b3,b0,w8,)) λ_ s9 (_,H9,I9,_,w9,)=>?_
    exact again U I9 S w9
 calc Mh (M _ U)<|T.self _ 0 _ _ _ a4<|M _ U
def d6{g:TI}(hi:PI X tg iter g)(O:nC X N k fr scope cl)(t:X.calm=Oa)(p:∀fp C s H,PG (bB X N scope cl fp C s H) tg gt)(j:∀fp C s H,PIf (bB X N scope cl fp C s H) ifs tt)(r:∀fp C s H,PE (bB X N scope cl fp C s H) elt te)
  (l:∀v,Lf iter X.env v=pure v:=by intro _;rfl):PE X (.ListComp elt [(tg,iter,ifs,0,)] scope pos) (zH g gt k fr tt te):=by
 intro a s f H Q I h;rw[Mi];calc Mj (use:=N9) U l O.clos O.kind O.names<|thn (hi a s f H _ I h) λv L z=>thn z λG s2 y=>?_;let(it,fp,K,J,R,e,i,T,b,B,u):=y;subst e;refine nE (RR:=λd C=>Ml (model X.prog X.w) X.A X.xe N9 (EP X a f Q) d C) O t i T b B j r p u λD C M F x n (m,o,) E q=>?_
 calc(m,o,λP c=>(.ref D,F,i.left E x n c,U,q,),)
def jA{K:bd}{a:Ki}{xs:Oo V}{j:St}{f:Hp}{Q:VK}(c:Ki->Nat->Oo V->RK)(s:∀D,f D=N9->c D 0 [] (upd f D<|.lst []))
  (r:∀D i ys H,f D=N9->i<=⇑xs->c D i ys H->SqL K H a xs)
  (o:∀D i x ys H,f D=N9->xs[i]?=N8 x->c D i ys H->∀ts:St,⇑ts=k->gt x (cB j fr ts) H λd t=>(∃g:St,⇑g=k/\d=cB j fr g)/\tt d t λb n=>if b=Oa then te d n (df c D i ⇑xs)else dZ c D i ⇑xs n)
  (hd:∀D ys H,f D=N9->c D ⇑xs ys H->Q (.ref D) H):fA (Itl K a) gt k fr tt te j Q f:=by
 intro D h;calc(λi m H=>m=⇑xs-i/\i<=⇑xs/\∃ys,c D i ys H,(_,U,v3 _,[],s D h,),?_,);rintro i m H ⟨rfl,hi,ys,p⟩;let q:=r D i ys H h hi p;by_cases l:i<⇑xs
 .refine .inr ((xs,xs[i],q,by simp[l],),λx u y=>?_,);let(e,y):=y;subst e;exact o D i x ys _ h (y xs q) p
 .let e:i=⇑xs:=∅
  subst e;calc .inl ((xs,q,vk _,),hd D ys H h p,)
end
def jv{X:Cx}{K:bd}{a:Oo Kz}{k:Nat}{t:TGs}{n:Nat}{pos:Pos}(e:X.K=K)(d:X.calm=Oa)(h:PGs X a t)(c:⇑(KU a X.env)=n:=by rfl)(b:(KU a X.env).findIdx? (·.1)=none:=by rfl):PG X (.Tuple a k pos) (C9 K n t):=e ▸ fL d h c b
end _L
namespace Srt
open PySem PySem.W PyProof.Rows
def  Ok(n:Nat)(lt:Nat->Nat->Bool){α:Type}:KasT α->(α->Prop)->Prop
 | .ret a,Q=>Q a
 | .ask i j k,Q=>i<n/\j<n/\Ok n lt (k<|lt i j) Q
section
variable{n:Nat}{lt:Nat->Nat->Bool}
abbrev g(p:Array Nat)(i:Nat):Nat:=p.getD i 0
structure Ord(lt:Nat->Nat->Bool):Prop where
 tr:∀a b c,lt b a=Ob->lt c b=Ob->lt c a=Ob
 as:∀a b,lt a b=Oa->lt b a=Ob
end
end Srt
namespace _L
open PySem PySem.Spec PySem.W PyProof.Rows
variable{prog:Kf}{w:Ke}{A:Kr}{E:Kd->Ks->Prop}{s:Ks}
variable{X:Cx}
def wQ{n:Int}{p:Pr}:inR n p=Oa↔p.1<=n/\n<=p.2:=by
 unfold inR;simp only[Iv,decide_eq_true_eq]
def gs{n:Int}{R:Oo Pr}:inP R n=Oa↔∃p∈R,p.1<=n/\n<=p.2:=by
 unfold inP;rw[uM];calc(λ(p,h,e,)=>(p,h,wQ.mp e,),λ(p,h,e,)=>(p,h,wQ.mpr e,),)
def Br{n:Int}{R:Oo Pr}(h:∀p∈R,¬ (p.1<=n/\n<=p.2)):inP R n=false:=by
 cases e:inP R n with
 |false=>rfl
 |true=>obtain⟨p,a,z⟩:=gs.mp e;calc Og z<|h p a
structure Jm(S A B A0 B0:Oo Pr):Prop where
 ap:Apart S
 aA:Apart A
 aB:Apart B
 mem:∀n,(inP A0 n && inP B0 n)=(inP S n || (inP A n && inP B n))
 gap:∀s∈S,(∀p∈A,s.2+2<=p.1)\/(∀p∈B,s.2+2<=p.1)
structure Jv(F T:Oo Pr)(lo hi st:Int):Prop where
 ap:Apart F
 lt:∀s∈F,s.2+2<=st
 rng:∀s∈F,lo<=s.1/\s.2<=hi
 tk:∀p∈T,p.2<st
 fr:st=lo\/∃p∈T,st=p.2+1
 ge:lo<=st
 mem:∀n,lo<=n->n<=hi->n<st->inP F n = !inP T n
structure Walk(ts:Oo (Int×Int×Int)):Prop where
 le:∀t∈ts,t.1<=t.2.1
 nx:∀(i:Nat) a b,ts[i]?=N8 a->ts[i+1]?=N8 b->b.1=a.2.1+1
def  pcs(msk:Int->Bool)(ts:Oo (Int×Int×Int))(n:Int):Bool:=ts.any λt=>inR n (t.1,t.2.1) && msk t.2.2
structure Jw(R:Oo Pr)(ts:Oo (Int×Int×Int))(msk:Int->Bool)(i:Nat)(at_:Int):Prop where
 ap:Apart R
 mem:∀n,inP R n=pcs msk (ts.take i) n
 lt:∀r∈R,r.2<at_
 few:2*R.length<=i\/(2*R.length<=i+1/\∃R' l,R=R'++[l]/\l.2=at_-1)
variable{i:Nat}
section
variable{R:Oo Pr}{ts:Oo (Int×Int×Int)}{msk:Int->Bool}{at_:Int}{t:Int×Int×Int}
end
def  ends(R:Oo Pr):Oo Int:=R.flatMap λp=>[p.1,p.2+1]
def ql(R:Oo Pr)(p:Pr):ends (R++[p])=ends R++[p.1,p.2+1]:=by
 unfold ends;rw[ro];simp
def xS(R:Oo Pr)(p:Pr):ends (p :: R)=p.1 :: (p.2+1) :: ends R:=rfl
def fV{R:Oo Pr}{e:Int}:e∈ends R↔∃p∈R,e=p.1\/e=p.2+1:=by
 unfold ends;rw[jP];simp
def  cnt:Oo Pr->Int
 | []=>0
 |p :: R=>(p.2-p.1+1)+cnt R
def  b2(b:Bool):Int:=if b=Oa then 1 else 0
def l9(a:Oo Int):∀k,k<=⇑a->preSum (λi=>a.getD i 0) k=(a.take k).sum
 |0,_=>rfl
 |k+1,h=>by
  let b:=l9 a k ∅;show preSum (λi=>a.getD i 0) k+a.getD k 0=_;let e:a[k]?=N8 a[k]:=JP ∅;rw[b,nF,e,nS,cO,e];simp
def jw(D:X.calm=Oa):cF X (.builtin "sum") (λus H Q=>∃(a:Ki)(c:Oo Int),us=[.ref a]/\SqL X.K H a (c.map ut)/\Q (.int c.sum) H):=by
 intro p s J H us L Q I r h;let(a,c,rfl,B,q):=h;let(u,rfl,x):=r.one;cases (show u=dL a from x);let(d,l,j,N):=I.list B;let k:=⇑l;rw[aa]at k;let(M,G,_):=id j.isList;let f:a<↥s:=bi G;calc call_sum_walkG<|Lc j.isList ?_;refine(↥s,[↥s,a],[↥s],_,_,_,λi=>c.getD i 0,U,QT (A:=X.A.in1) (I.ok.hd D) _ a (vl f) d.toArray,((_,bn _ U,U,U,),j.isList.at λo e=>am _ e,),λb E=>?_,λi v e=>?_,λO w t' C=>?_,)
 .show b<(s.heap.push _).objs.size;rw[ln];rcases af.mp E with z|z
  .rw[z];exact yl _
  .let g:b=a:= ~~~z
   rw[g];exact wI f
 .let n:d[i]?=N8 v:= ~~~e
  let hi:i<⇑c:=by rw[k];exact(JQ.mp n).1
  let F:(c.map ut)[i]?=N8 (.int c[i]):=by rw[dr,JP hi];rfl
  let(u,m,y):=l.get F;rw[n]at m;cases m;let(t,rfl):=y;exact(t,by show Qu c[i] t=Qu (c.getD i 0) t;rw[cO,JP hi];rfl,)
 .refine(.int c.sum,H,I.kept (t':=w) λb o e=>C b o (λz=>?_)<|am _ e,(t',?_,),q,)
  .let g:b=↥s:= ~~~z
   exact Og (bi e) (by rw[g];exact w4 _)
  .rw[dG,←k,l9 c _<|vk _,fm]
def fB:∀{A B:Oo Int},A.Pairwise (· < ·)->B.Pairwise (· < ·)->(∀c,c∈A↔c∈B)->A=B
 | [],[],_,_,_=>rfl
 | [],b :: B,_,_,h=>by have:=(h b).mpr<|.head _;cases this
 |a :: A,[],_,_,h=>by have:=(h a).mp<|.head _;cases this
 |a :: A,b :: B,hA,hB,h=>by
  let(i,j):=nI.mp hA;let(g,b2):=nI.mp hB;let e:a=b:=by
   rcases af.mp ((h a).mp<|.head _)with e|e
   .exact e
   .rcases af.mp ((h b).mpr<|.head _)with f | f
    .exact f.symm
    .let:=i b f;let:=g a e;lia
  subst e
  congr 1
  refine fB j b2 λc=>(λd=>?_,λd=>?_,)
  .rcases af.mp ((h c).mp<|.tail _ d)with e|e
   .let:=i c d;lia
   .exact e
  .rcases af.mp ((h c).mpr<|.tail _ d)with e|e
   .let:=g c d;lia
   .exact e
def  NeS(W:Oo (Int×Int×Int)):Prop:=∀(j:Nat) a b,W[j]?=N8 a->W[j+1]?=N8 b->a.2.2≠b.2.2
structure Jn(G ts:Oo (Int×Int×Int))(i:Nat):Prop where
 walk:Walk G
 ne:NeS G
 pcs:∀msk n,pcs msk G n=_L.pcs msk (ts.take i) n
 hd:∀t,ts[0]?=N8 t->0<i->∃g,G[0]?=N8 g/\g.1=t.1
 lst:∀t,ts[i-1]?=N8 t->0<i->∃G' g,G=G'++[g]/\g.2.1=t.2.1/\g.2.2=t.2.2
 len:G.length<=i
 stt:∀g∈G,∃t∈ts,g.2.2=t.2.2
section
variable{G ts:Oo (Int×Int×Int)}{t:Int×Int×Int}
end
def  Its(z:Str):It:=(λi _=>i<z.cps.size,λi H x a=>a=H/\∃c,z.cps[i]?=N8 c/\x=.str ⟨#[c]⟩,λi _=>z.cps.size<=i,)
def vi{P:Kf}{w:Ke}{K:bd}{L:Kz}(z:Str)(t:Tok)(it:Ki):Turn P w K L (Its z) [it] it (λi h=>h.IsStrIter it "str_ascii_iterator" z t i) where
 mem:=by simp
 obj:=λi h f b g=>by
  let(o,e,c,d):=f;rw[show b=it by simpa using g];exact⟨o,e,λv q=>by rw[d]at q;cases q⟩
 keep:=λi h m (o,e,r,) k=>(o,k it (by simp) o e,r,)
 item:=by
  intro X u n x J i a s G H E I l f p;subst u n x;let F:i<z.cps.size:=p;let hi:z.cps[i]?=N8 z.cps[i]:=Gk F;let(D,C,M,B,A,y):=l it (by simp);refine wpAny_pyNext_ascii_item f hi λm j sb=>?_
  let O:Inv X a G H { s with heap:=m,toks:=s.toks+1 }:=I.turned (t':=s.toks+1) (λb o g e=>(sb.2 b g).trans e) D C B A y;let(o,e,c,d):=id j;exact(_,U,p8 (s:={ s with heap:=m,toks:=s.toks+1 }) e c d ⋯ (.str ⟨#[z.cps[i]]⟩,H,O,(_,U,),(U,_,hi,U,),j,λb g=>(l b g).1,),)
 done:=by
  intro X u n x J i a s G H E I l f p;subst u n x;let(D,C,M,B,A,y):=l it (by simp);exact wpAny_pyNext_ascii_end (I.ok.hd J) f (~~~(show z.cps.size<=i from p)) λm N=>(U,I.turned (t':=s.toks) (λb o g e=>N b o g e) D C B A y,)
 self:=λ_ _ _ _ _ f h=>wpAny_pyIter_striter_ascii f h
def xT{P:Kf}{w:Ke}{K:bd}{L:Kz}(z:Str)(t:Tok)(it:Ki):Turn P w K L (Its z) [it] it (λi h=>h.IsStrIter it "str_iterator" z t i) where
 mem:=by simp
 obj:=λi h f b g=>by
  let(o,e,c,d):=f;rw[show b=it by simpa using g];exact⟨o,e,λv q=>by rw[d]at q;cases q⟩
 keep:=λi h m (o,e,r,) k=>(o,k it (by simp) o e,r,)
 item:=by
  intro X u n x J i a s G H E I l f p;subst u n x;let F:i<z.cps.size:=p;let hi:z.cps[i]?=N8 z.cps[i]:=Gk F;let(D,C,M,B,A,y):=l it (by simp);refine wpAny_pyNext_wide_item f hi λm j sb=>?_
  let O:Inv X a G H { s with heap:=m,toks:=s.toks+1 }:=I.turned (t':=s.toks+1) (λb o g e=>(sb.2 b g).trans e) D C B A y;let(o,e,c,d):=id j;exact(_,U,p8 (s:={ s with heap:=m,toks:=s.toks+1 }) e c d ⋯ (.str ⟨#[z.cps[i]]⟩,H,O,(_,U,),(U,_,hi,U,),j,λb g=>(l b g).1,),)
 done:=by
  intro X u n x J i a s G H E I l f p;subst u n x;let(D,C,M,B,A,y):=l it (by simp);exact wpAny_pyNext_wide_end (I.ok.hd J) f (~~~(show z.cps.size<=i from p)) λm N=>(U,I.turned (t':=s.toks) (λb o g e=>N b o g e) D C B A y,)
 self:=λ_ _ _ _ _ f h=>wpAny_pyIter_striter_wide f h
section
variable{tg:Kz}
inductive Cz  (R:(It->RK))(x:V)(H1:Hp):Prop
 |mk (z:_)(_:x=.str z)(_:R (Its z) H1):Cz R x H1
def  GJ(tl:TE):bd->St->Hp->(It->RK)->Prop:=λ_ a H R=>tl a H λx b=>Cz R x b
def DB{l:Kz}{tl:TE}(m:PE X l tl):PI X tg l (GJ tl X.K):=by
 intro c s i H R I h;refine thn (m c s i H _ I h) λv a (x,g,f,j,k,)=>?_
 let(z,e,q):=k;subst e;let(t,rfl):=j;let d:∀b∈[↥a],gY X c g b:=λb n=>by
  rw[show b=↥a by simpa using n];exact f.fpOk (vk _)<|f.hok.fresh<|vk _
 cases ha:z.cps.all (· < 128) with
 |true=>exact wpAny_pyIter_ascii ha (↥a,[↥a],_,_,g,U,f.kept (t':=a.toks) λb o e=>am _ e,vi z t _,(_,bn _ U,U,U,),d,q,)
 |false=>calc wpAny_pyIter_wide ha (↥a,[↥a],_,_,g,U,f.kept (t':=a.toks) λb o e=>am _ e,xT z t _,(_,bn _ U,U,U,),d,q,)
end
def Bt{z:Str}{g:TG}{k:TS}{D:Ends}{a:St}{H:Hp}(b:Nat->RJ)(s:b 0 a H)
  (r:∀i c a H,z.cps.toList[i]?=N8 c->b i a H->g (.str ⟨#[c]⟩) a H λd j=>k { D with nx:=b<|i+1,ct:=b<|i+1,bk:=D.nx } d j)(hd:∀a H,b z.cps.size a H->D.nx a H) :
  ∃W:Nat->Nat->RJ,(∃m,W 0 m a H)/\∀i m a H,W i m a H ->
   ((Its z).stop i H/\D.nx a H)\/((Its z).go i H/\∃N:RJ,(∀f H',N f H'->∃l,l<m/\W (i+1) l f H')/\∀x H',(Its z).yld i H x H'->g x a H' λd j=>k { D with nx:=N,ct:=N,bk:=D.nx } d j):=by
 calc(λi m a H=>m=z.cps.size-i/\i<=z.cps.size/\b i a H,(_,U,v3 _,s,),?_,);rintro i m a H ⟨rfl,hi,p⟩;by_cases h:i<z.cps.size
 .refine .inr (h,b<|i+1,λf H' q=>(z.cps.size-(i+1),∅,U,h,q,),λx H' y=>?_,);let(e,c,o,n):=y;subst e;subst n;exact r i c a _ (~~~o) p
 .let e:i=z.cps.size:=∅
  subst e;calc .inl (vk _,hd a H p,)
def md{x:Str}{v:V}{pos:Pos}(a:Gl X x)(h:∃u,X.mg x=N8 u/\RelV v u)(hd:(x == ("__debug__" : Str))=false:=by decide):PE X (.Name x pos) (tC v):=by
 let(_,m,r):=h;calc c9 a m r hd
def  sg(g:Str)(c:Nat):Bool:=!(OP g ⟨#[c]⟩ 0 ⇑g 1).isEmpty
def  sL(z g:Str):Bool:=z.cps.toList.all<|sg g
open PySem.NumText
structure Jx(cs:Oo Nat):Prop where
 all:AllDigits cs
 one:⇑cs=1\/∃c r,cs=c :: r/\49<=c
def mf:∀{a:Oo Int}{n:Int},n∈a->wp n<=WData.weightAll (a.map PR)
 |m :: a,n,h=>by
  rw[iJ,WData.weightAll.eq_2];rcases af.mp h with rfl|h
  .let e:(PR n).weight=wp n:=by rw[WData.weight.eq_7];rfl
   rw[e];lia
  .let:=mf h;lia
def sM{a:Oo Int}(h:Rv [WData.list (a.map PR)]=Oa):∀n∈a,wp n<=2^20:=by
 intro n c;unfold Rv WData.layable at h;simp only[List.all_cons,Iv,decide_eq_true_eq]at h;let b:=h.1.2;rw[WData.weight.eq_2]at b;calc vr (mf c) b
def wR{X:Cx}:OpR X (Lg .Mult) (rI Lh λi j=>.int<|i*j):=opI λ_ _ _ _ _ _ _ a q=>mul_int q a
def  vj(h:Kj)(e T:Ki)(cls:Kd)(f:Kd×Kd)(g:Kd):Prop :=
 ∃b a d c,h.get? e=N8 b/\(b.cls=cls/\a[0]?=N8 f.1/\a[2]?=N8 f.2)/\b.data=.fields a/\a[1]?=↑T/\T≠e/\h.get? T=N8 d/\d.data=.fields c/\c[3]?=N8 g
abbrev xU(h:Kj)(e T:Ki)(a:Kd)(b:Kd×Kd):Prop:=vj h e T a b .none
structure Stp(F X:Oo Ki)(h h':Kj):Prop where
 keep:∀b o,b ∉ F->b ∉ X->h.get? b=N8 o->h'.get? b=N8 o
 slot:∀b o,b∈F->h.get? b=N8 o->∃sl,h'.get? b=N8 { o with slots:=sl }
inductive zI(h:Kj)(L e:Ki)(cls:Kd)(a0:Kd×Kd):Oo Ki->Prop where
 |fresh {oe:Obj}{vs:Array Kd}(he:h.get? e=N8 oe)(hc:oe.cls=cls)(hd:oe.data=.fields vs)(h1:vs[1]?=N8 lv)(h0:vs[0]?=N8 a0.1)(h2:vs[2]?=N8 a0.2):zI h L e cls a0 []
 |fly {T:Ki}(x:vj h e T cls a0 .none):zI h L e cls a0 [T]
 |held {T:Ki}(x:vj h e T cls a0 (K5 L)):zI h L e cls a0 [T]
variable{base:Kj}{e:Ki}{oe:Obj}
section
variable{M:Kv}{env:Env}{outer:Oo Env}{L T:Ki}{vs:Array Kd}{a0:Kd×Kd}{cls fl:Kd}{Q:Unit->Ks->Prop}{Ts:Oo Ki}
def Stp.refl(F Y:Oo Ki)(h:Kj):Stp F Y h h:=(λ_ _ _ _ q=>q,λ_ o _ q=>(o.slots,q,),)
def zJ{G:Bool}{g:Kd}(D:A.frames=N8 (env :: outer))(r:s.heap.FunFrames base (env :: outer))(F:env.frame=N8 L)(p:s.heap.get? e=N8 oe)(hd:oe.data=.fields vs)(hsz:1<vs.size)
  (h:∀h' T l ts,Stp (frs (env :: outer)) [e] s.heap h'->h'.get? e=N8 (OH (·.setIfInBounds 1 (.ref T)) oe)->s.heap.get? T=N9->T≠e->h'.get? T=N8 l->l.data=.fields ts->ts[3]?=N8 (K5 L)->Q () { s with heap:=h' }) :
  Kw M A (do let a ←frameOf env;let pl ←entryPlaceOf L G;let b ←Ql g a .none (K5 L) .none pl;Mn (.ref e) 1 b) Q E s:=by
 let n:e ∉ frs (env :: outer):=λz=>by
  let(_,H,k,B):=r.mem z;rw[p]at k;cases k;exact B vs hd
 calc JZ<|wpAny_frameOf_fun D r F λc so=>JZ<|wpAny_entryPlaceOf λpl ok=>?_;let u:c.get? e=N8 oe:=(so.2.1 e n).trans p;let i:c.objs.size=↥s:=so.1;let j:∀(O:Obj)(ts:Array Kd),O.data=.fields ts->ts[3]?=N8 (K5 L)->Kw M A (Mn (.ref e) 1<|.ref c.objs.size) Q E { s with heap:=c.push O }:=λO ts v w=>by
  let t:=am O u;let m:c.objs.size≠e:=wz<|bi u;let d:∀b,b≠e->((c.push O).update e (OH (·.setIfInBounds 1 (.ref c.objs.size)))).get? b=(c.push O).get? b:=λb f=>mo _ _<|Fk f
  refine Mo t hd hsz<|h _ c.objs.size O ts (λb o f C q=>?_,λb o f q=>?_,) (pc _ t<|Pk<|OV hd _) (PH (by rw[i];exact vk _)) m ((d _ m).trans<|bn c<|Pk v) v w
  .exact(d b λz=>C (by simp[z])).trans (am O<|(so.2.1 b f).trans q)
  .let(x,y):=so.2.2 b o q;exact(x,(d b λz=>n<|z ▸ f).trans<|am O y,)
 unfold Ql newFields;exact JZ<|LX (j _ _ U (by rcases ok with rfl|⟨_,_,_,_,_,_,_,rfl⟩ <;> simp)) (ok.sizeOk5 _ _ _ _ _)
def note(N:A.frames=N8 (env :: outer))(H:s.heap.FunFrames base (env :: outer))(G:env.frame=N8 L)(x:zI s.heap L e cls a0 Ts)
  (h:∀h' j,Stp (frs (env :: outer)) (e :: Ts) s.heap h'->vj h' e j cls a0 (K5 L)->(s.heap.get? j=N9\/j∈Ts)->Q () { s with heap:=h' }):Kw M A (Md (.ref e) env) Q E s:=by
 let sz:∀{vs:Array Kd}{x:Kd},vs[1]?=N8 x->1<vs.size:=λz=>(OU.mp z).1
 let P:∀{oe:Obj}{vs:Array Kd}{h':Kj}{T:Ki}{i:Obj}{f:Array Kd},oe.cls=cls->oe.data=.fields vs->1<vs.size->vs[0]?=N8 a0.1->vs[2]?=N8 a0.2->h'.get? e=N8 (OH (·.setIfInBounds 1 (.ref T)) oe)->T≠e->h'.get? T=N8 i->i.data=.fields f->f[3]?=N8 (K5 L)->vj h' e T cls a0 (K5 L) :=
  λ{oe vs h' T i f} c d l W V w g v u t=>(_,_,i,f,w,((Obj.cls_mapFields _ _).trans c,by rw[PN ⋯];exact W,by rw[PN ⋯];exact V,),OV d _,by simp[l],g,v,u,t,)
 unfold Md;simp only[G];cases x with
 | @fresh oe vs he hc hd h1 h0 h2 =>
  calc JZ<|LQ he hd h1 ?_;rw[Oe ⋯];exact zJ N H G he hd (sz h1) λh' T i f D w g v u t F=>h h' T D (P hc hd (sz h1) h0 h2 w v u t F)<|.inl g
 | @fly T x =>
  let(oe,vs,i,f,C,(J,S,R),r,p,I,n,m,B):=x;let a:∀b,b≠T->(s.heap.update T (OH (·.setIfInBounds 3 lv))).get? b=s.heap.get? b:=λb k=>mo _ _<|Fk k
  let O:∀b o,s.heap.get? b=N8 o->(∀vs,o.data≠.fields vs)->b≠T:=λb o q y z=>y f (by rw[z,n]at q;cases q;exact m)
  calc JZ<|LQ C r p ?_;rw[Of (show(dL T != lv)=Oa by simp)];calc JZ<|LQ n m B ?_;rw[Oe (show ¬ (lv == K5 L)=Oa by simp[K5])];calc JZ<|Mo n m (OU.mp B).1 ?_;refine zJ (s:={ s with heap:=s.heap.update T (OH (·.setIfInBounds 3 lv)) }) N (H.of_keeps λb o q y=>(o,(a b<|O b o q y).trans q,U,)) G ((a e<|Fk I).trans C) r (sz p) λh' j Y X D w g v u t F=>?_
  refine h h' j (λb o k K q=>D.keep b o k (λz=>K<|af.mpr<|.inl<|~~~z)<|(a b λz=>K (by simp[z])).trans q,λb o k q=>?_,) (P J r (sz p) S R w v u t F) ?_
  .let(_,Z,g,y):=H.mem k;rw[q]at g;cases g;exact D.slot b o k<|(a b<|O b o q y).trans q
  .by_cases z:j=T
   .exact .inr (by simp[z])
   .exact .inl<|(a j z).symm.trans g
 | @held T x =>
  let(oe,vs,i,f,C,J,r,p,I,n,m,B):=id x;calc JZ<|LQ C r p ?_;rw[Of (show(dL T != lv)=Oa by simp)];calc JZ<|LQ n m B ?_;rw[Of (show(K5 L == K5 L)=Oa by simp)];calc Ka<|h s.heap T (Stp.refl _ _ _) x<|.inr (by simp)
def wU{fr:Option Ki}{l:Oo Env}(w:s.heap.FunFrames base l)(x:vj s.heap e T cls a0 fl)(h:∀h',Stp (frs l) [e,T] s.heap h'->vj h' e T cls a0 (fr.elim lv λf=>K5 f)->Q () { s with heap:=h' }):Kw M A (Mp (.ref e) fr) Q E s:=by
 let(oe,vs,y,n,m,t,k,j,i,g,c,r):=x;let sz:3<n.size:=(OU.mp r).1;let a:∀b,b≠T->(s.heap.update T (OH (·.setIfInBounds 3 (fr.elim lv λf=>K5 f)))).get? b=s.heap.get? b:=λb d=>mo _ _<|Fk d
 unfold Mp;calc JZ<|LQ m k j ?_;rw[Of (show(dL T != lv)=Oa by simp)];refine Mo g c sz (h _ (λb o d v q=>(a b λz=>v (by simp[z])).trans q,λb o d q=>?_,) (oe,vs,_,_,(a e<|Fk i).trans m,t,k,j,i,pc _ g<|Pk<|OV c _,OV c _,by simp[sz],));let(_,B,p,u):=w.mem d;rw[q]at p;cases p;calc⟨o.slots,(a b λz=>u n (by rw[z,g]at q;cases q;exact c)).trans q⟩
def Stp.then{F Y Z:Oo Ki}{h f e:Kj}(x:Stp F Y h f)(y:Stp F Z f e)(hz:∀b o,h.get? b=N8 o->b∈Z->b∈Y):Stp F Y h e :=
 (λb o a d q=>y.keep b o a (λz=>d<|hz b o q z)<|x.keep b o a d q,λb o a q=>by
  let(j,i):=x.slot b o a q;let(c,g):=y.slot b _ a i;exact(c,g,),)
def Stp.frames{Y:Oo Ki}{h a:Kj}{l:Oo Env}(x:Stp (frs l) Y h a)(g:h.FunFrames base l):a.FunFrames base l:=by
 let:∀(F:Oo Ki)(m:Oo Env),(∀b∈frs m,b∈F)->Stp F Y h a->h.FunFrames base m->a.FunFrames base m:=λF m=>by
  induction m with
  |nil=>intro _ _ z;exact z
  |cons v m f =>
   rintro d x ⟨k,⟨L,o,c,n,j,i⟩,r⟩;let(p,q):=x.slot L o (d L (by unfold frs;rw[lP,c];exact cf)) j;exact(k,(L,_,c,n,q,i,),f (λb e=>d b (by unfold frs at e⊢;rw[lP,c];exact dy _ e)) x r,)
 calc this _ l (λ_ z=>z) x g
def land{E2:Kd->Ks->Prop}(k:A.frames=N8 (env :: outer))(i:s.heap.FunFrames base (env :: outer))(l:env.frame=N8 L)(x:xU s.heap e T cls a0)
  (h:∀h' c,Stp (frs (env :: outer)) [e,T] s.heap h'->xU h' e c cls a0->(s.heap.get? c=N9\/c=T)->Q () { s with heap:=h' }):Kw M A (Md (.ref e) env) (λ_ s2=>Kw M A (Mp (.ref e) N9) Q E s2) E2 s:=by
 refine note k i l (.fly x) λg c f x a=>?_
 let a:s.heap.get? c=N9\/c=T:=a.imp id λz=>~~~z
 exact wU (s:={ s with heap:=g }) (f.frames i) x λm d j=>h m c (f.then d λb o q z=>by
  rcases af.mp z with z|z
  .simp[z]
  .rw[show b=c by simpa using z]at q⊢;rcases a with a|a
   .rw[a]at q;cases q
   .simp[a]) j a
def DC{l:Oo Env}(d:s.heap.FunFrames base l)(x:xU s.heap e T cls a0)
  (h:∀h' a,Stp (frs l) [e,T] s.heap h'->xU h' e a cls a0->(s.heap.get? a=N9\/a=T)->Q () { s with heap:=h' }):Kw M A (Mp (.ref e) N9) Q E s :=
 wU d x λh' c b=>h h' T c b<|.inr U
end
variable{P:Kf}{H:Hp}
section
variable{H':Hp}{h h':Kj}{a:Ki}{o:HO}{F Y fs:Oo Ki}
def bO.there(x:bO P w H h a o):∃b,h.get? a=N8 b:=by
 cases o with
 |lst d=>obtain⟨_,_,_,_,e⟩:=x;exact(_,e,)
 |tup d=>obtain⟨_,_,_,b,e,_⟩:=x;exact(_,e,)
 |dK c=>obtain⟨_,_,_,_,o,_,_,e,_⟩:=x;exact(_,e,)
 |dT c=>obtain⟨_,_,_,_,o,_,_,e,_⟩:=x;exact(_,e,)
 |set S n=>obtain⟨o,_,_,_,e,_⟩:=x;exact(_,e,)
 |ins C j fs=>obtain⟨_,_,_,e,_⟩:=x;exact(_,e,)
 |own y=>obtain⟨_,e⟩:=x;exact(_,e,)
 |xd fs=>obtain⟨_,⟨_,_,_,e,_⟩,_⟩:=x;exact(_,e,)
 |rng lo hi=>obtain⟨_,_,_,e⟩:=x;exact(_,e,)
 |frz b u=>obtain⟨e,_⟩:=x;exact(_,e,)
 |tbl i=>exact(_,(show h.get? a=N8 _ from x),)
 |met f y=>exact(_,(show h.get? a=N8 _ from x),)
 |ext g=>obtain⟨_,⟨_,e⟩,_⟩:=x;calc(_,e,)
def HOk.none_of(x:HOk P w H h)(e:h.get? a=N9):H a=none:=by
 cases q:H a with
 |none=>rfl
 |some u =>
  let(b,z):=(x a u q).there;rw[e]at z;cases z
def HOk.stp(x:HOk P w H h)(st:Stp F Y h h')(g:∀b∈F,H b=N9)(f:∀b∈Y,H b=N9):HOk P w H h':=λa o e =>
 (x a o e).stay (λb u c q=>by
  let d:H b≠none:=by
   rcases c with rfl|c
   .rw[e];simp
   .rw[c];simp
  exact st.keep b u (λz=>d<|g b z) (λz=>d<|f b z) q) (λ_ q=>q) λ_ _ q=>q
def Un.stp{k:Hp}{d:Kj}(u:Un fs [] k H d h)(st:Stp F Y h h')(r:∀b o,d.get? b=N8 o->b∈F->b∈fs)(p:∀b∈fs,b∈F)(m:∀b∈Y,d.get? b=N9):Un fs [] k H d h':=by
 let i:∀b o,d.get? b=N8 o->b ∉ Y:=λb o q z=>by rw[m b z]at q;cases q
 refine(λb o q n c a=>st.keep b o (λz=>c<|r b o q z) (i b o q)<|u.keep b o q n c a,λb o q n c a=>?_,u.free,λb o q a=>?_,u.tups,u.frzs,u.tbls,)
 .let(s,f):=u.slot b o q n c a;let(e,g):=st.slot b _ (p b c) f;exact(e,g,)
 .let(l,f):=u.there b o q a;by_cases j:b∈F
  .let(e,g):=st.slot b _ j f;exact(_,g,)
  .exact(_,st.keep b l j (i b o q) f,)
end
def  CX1(P:Kf)(w:Ke):CXT:=λa H s E f b=>∃(e T C:Ki)(d:Kd×Kd)(c:Hp),f=.ref e/\b.os=s.os/\AllBare b.gens/\Un (frs a) [] H c s.heap b.heap/\HOk P w c b.heap /\
 xU b.heap e T (.ref C) d/\s.heap.get? e=N9/\s.heap.get? T=N9/\c e=N9/\c T=N9/\∃m,(m=N9->d.2=.none)/\E (.ref C) m c
structure fC(X:Cx)(Od:Oo (Ki×Obj))(H:Hp)(b:Ki):Prop where
 ent:X.s₀.heap.get? b=N9
 unt:H b=N9
 loc:b≠X.env.locals
 cel:∀x c,X.env.cells.lookup x=N8 c->c≠b
 pin:∀p∈X.pn++Od,p.1≠b
variable{Od:Oo (Ki×Obj)}{σ:St}
section
variable{h':Kj}{T:Ki}
def Inv.newAt(I:Inv X Od σ H s)(e:X.ex=[]){b:Ki}(a:s.heap.get? b=N9):fC X Od H b:=by
 refine(?_,I.hok.none_of a,?_,?_,?_,)
 .cases q:X.s₀.heap.get? b with
  |none=>rfl
  |some o =>
   let(h,d):=I.base.there b o q (by rw[e];simp);rw[a]at d;cases d
 .rintro rfl;let(m,(o,_,_,q,_),_):=I.loc;rw[a]at q;cases q
 .rintro x c g rfl;let(v,o,q,_):=I.cell x c g;rw[a]at q;cases q
 .rintro p f rfl;let(q,_):=I.pin p f;rw[a]at q;cases q
def Inv.excStep(I:Inv X Od σ H s)(hx:X.ex=[])(st:Stp (frs X.stack) [e,T] s.heap h')(N:fC X Od H e)(O:fC X Od H T):Inv X Od σ H { s with heap:=h' }:=by
 let j:∀b∈[e,T],fC X Od H b:=λb g=>by
  rcases af.mp g with rfl|g
  .exact N
  .rw[show b=T by simpa using g];exact O
 let G:∀b,b≠X.env.locals->b ∉ X.fs->b ∉ frs X.stack:=λb V S z=>(af.mp<|I.stkSub b z).elim V S
 let y:∀b o,X.s₀.heap.get? b=N8 o->b ∉ [e,T]:=λb o q z=>by rw[(j b z).ent]at q;cases q
 let C:∀b o,X.s₀.heap.get? b=N8 o->b≠X.env.locals:=λb o q=>vl<|v5 (bi q) I.ok.above
 let any:∀b o,b ∉ [e,T]->s.heap.get? b=N8 o->∃w,h'.get? b=N8 { o with slots:=w }:=λb o P q=>by
  by_cases K:b∈frs X.stack
  .exact st.slot b o K q
  .exact(o.slots,st.keep b o K P q,)
 let f:∀x c,X.env.cells.lookup x=N8 c->∀v,s.heap.IsCell c v->h'.IsCell c v:=λx c h v (o,Q,hd,)=>by
  let(w,q):=any c o (λz=>(j c z).cel x c h U) Q;exact(_,q,hd,)
 refine(I.ok,I.os,I.bare,(λb o q n g a=>?_,λb o q n g a=>?_,I.base.free,λb o q a=>?_,I.base.tups,I.base.frzs,I.base.tbls,),?_,λx c h=>?_,I.free,I.freeC,λp J=>?_,I.hok.stp st I.stkFree<|λb g=>(j b g).unt,I.len,)
 .exact st.keep b o (G b (C b o q) g) (y b o q)<|I.base.keep b o q n g a
 .let(w,B):=I.base.slot b o q n g a;let(t,A):=any b _ (y b o q) B;exact(t,A,)
 .let(o1,B):=I.base.there b o q a;let(t,A):=any b _ (y b o q) B;exact(_,A,)
 .let(m,(M,W,Y,D,r),R):=I.loc;let(w,q):=any X.env.locals M (λz=>(j _ z).loc U) D;calc(m,(_,W,Y,q,r,),λi x v e1 e2 Z=>?_,);let(u,L,l):=R i x v e1 e2 Z;calc(u,L,?_,);rcases l with l|⟨k,c,h,z⟩
  .exact .inl l
  .exact .inr (k,c,h,f x c h _ z,)
 .let(v,z):=I.cell x c h;exact(v,f x c h v z,)
 .let(q,n,F,E,d):=I.pin p J;calc(st.keep p.1 p.2 (G p.1 F E) (λz=>(j _ z).pin p J U) q,n,F,E,d,)
end
structure ExcCls(K:bd)(C:Ki):Prop where
 ex:∃(bmB bmN:Oo Kd)(newId B Bn nid zK inN:String),W.excIn K C bmB newId=Oa/\ExcBaseFacts Bn newId inN bmN/\bmB.contains (xz Bn)=Oa/\ExcBaseFacts B nid zK bmB
def ExcCls.value{K:bd}{C:Ki}(h:W.excIn K C [.type "ValueError",.type "Exception",.type "BaseException",.type "object"] "ValueError.__new__" = Oa):ExcCls K C :=
 (_,_,_,_,_,_,_,_,h,PySem.F.excBase_ValueError,⋯,PySem.F.excBase_ValueError,)
def ExcCls.obj{K:bd}{C:Ki}{h:Kj}{b:Oo Kd}{a:String}(c:K.In h)(e:W.excIn K C b a=Oa):∃bm N nm q bs hdct sn sub ab col dd k0 k1 k2 k3 k5 mN,
   h.get? C=N8 (excClassObj nm q C N bs bm hdct sn sub ab col dd k0 k1 k2 k3 k5 a)/\h.Ns N mN/\mN "__init__" = N9/\OwnTail h b bm:=by
 unfold W.excIn at e;split at e
 .rename_i dd cd sl lk
  split at e
  .rename_i C' bm k0 k1 k2 k3 n k5 em es
   simp only[Iv,beq_iff_eq,Bool.not_eq_true']at e;let(((((rfl,rfl),hd),g),d),hi):=e;let(nm,bs,j,i,q,hdct,sn,sub,ab,col,k):=cd;dsimp only at em hd g d hi;subst em hd;let f:sl = #[k0,k1,k2,k3,N8<|Kd.builtin n,k5]:=by
    apply RE.mp
    rw[es]
   subst f;exact(bm,i,nm,q,bs,hdct,sn,sub,ab,col,dd,k0,k1,k2,k3,k5,_,c _ _ lk,Kj.Ns.of_isNs<|W.isNs_of_in c d,W.nsMap_none_of_in c d hi,W.tail_of_in c g,)
  .cases e
 .cases e
variable{K:bd}
section
variable{mg:Str->Option Kd}{N:Oo Str}{qual:Str}{scope:Kt}{f:Ki}{cd:Kd}{outer:Oo Env}{s0:Ks}{H0:Hp}{E:XK}
def  DD(C:Ki)(E:XK)(t:TA):TS:=λ_ σ H=>t σ H λa b=>⇑a<=Kk/\E (.ref C) N9 b
end
def  XP(X:Cx)(Od:Oo (Ki×Obj))(σ:St)(d:Ki->RK)(b:Kd)(s':Ks):Prop :=
 ∃(e T C:Ki)(c:Kd×Kd)(a:Hp),b=.ref e/\Inv X Od σ a s'/\xU s'.heap e T (.ref C) c/\fC X Od a e/\fC X Od a T/\d C a
abbrev TX:=St->Hp->VK->(Ki->RK)->Prop
def  PEX(X:Cx)(e:Kz)(t:TX):Prop :=
 ∀(Od:Oo (Ki×Obj))(s:Ks)(σ:St)(H:Hp)(Q:VK)(a:Ki->RK),Inv X Od σ H s->t σ H Q a->Kw (model X.prog X.w) X.A (eval e X.env) (EP X Od σ Q) (XP X Od σ a) s
def  b9(P:Kf)(w:Ke)(K:bd)(mg:Str->Option Kd)(base:Kj)(k:Nat)(x:Str)(ps:Oo Str)(sp:Sp):Prop :=
 ∃f a,aH P w K mg base (CX1 P w) k f a ps sp/\Binds K a ps []/\FS K (.ref f)=Oa/\mg x=↑f
def b9.mono{P:Kf}{w:Ke}{K:bd}{mg:Str->Option Kd}{base:Kj}{j k:Nat}{x:Str}{ps:Oo Str}{sp:Sp}(C:b9 P w K mg base j x ps sp)(h:j<=k):b9 P w K mg base k x ps sp:=by
 let(f,a,F,r):=C;calc(f,a,F.mono h,r,)
section
variable{s':Ks}
def Inv.afterX{E:XK}{g:Ki->RK}{f:Kd}(I:Inv X Od σ H s)(d:X.ex=[])(o:∀C m H',E (.ref C) m H'->g C H')(h:CX1 X.prog X.w X.stack H s E f s'):XP X Od σ g f s':=by
 let(e,T,C,p,H',rfl,i,c,un,hok,x,j,k,l,n,m,_,q):=h;let r:Inv X Od σ H' s':=I.call' (ch:=[]) i un hok c λb z=>Og z (by simp)
 let a:=I.newAt d j;let b:=I.newAt d k;calc(e,T,C,p,H',U,r,x,(a.ent,l,a.loc,a.cel,a.pin,),(b.ent,n,b.loc,b.cel,b.pin,),o _ _ _ q,)
end
variable{k:Nat}{x:Str}{ps:Oo Str}{sp:Sp}{pos:Pos}
section
variable{e:Kz}{es:Oo Kz}{t:TA}{p:Pos}
abbrev TSX:=Ends->St->Hp->(Ki->RK)->Prop
def  PSX(X:Cx)(st:KG)(t:TSX):Prop :=
 ∀(Od:Oo (Ki×Obj))(s:Ks)(σ:St)(H:Hp)(D:Ends)(a:Ki->RK),Inv X Od σ H s->t D σ H a->Kw (model X.prog X.w) X.A (exec st X.env) (SP X Od D) (XP X Od σ a) s
def  DE(a:TX):TSX:=λD σ H c=>a σ H (λ_ b=>D.nx σ b) c
def sN{e:Kz}{a:TX}(d:PEX X e a)(c:KR e N9 pos.line X.env=pure false:=by rfl):PSX X (.Expr e pos) (DE a):=by
 intro Od s σ H D i I h;calc KS (thn (d Od s σ H _ i I h) λv j (x,g,f,k,b,)=>(σ,g,f,b,)) I.quiet c
end
def  sfx(X:Cx)(e:Ki)(oe:Obj):Cx:={ X with A:=X.A.mark<|↑e,calm:=Ob,pn:=(e,oe) :: X.pn,xe:=λ_ _=>False }
section
variable{s':Ks}
def Inv.suite(I:Inv X Od σ H s)(d:s.heap.get? e=N8 oe)(b:fC X Od H e)(hd:∀v,oe.data≠.cell v)(c:e ∉ X.fs):Inv (sfx X e oe) Od σ H s:=by
 calc((I.ok.mod,I.ok.kind,I.ok.glob,I.ok.blt,I.ok.above,I.ok.inj,I.ok.has,I.ok.cab,λz=>Og z bv,I.ok.frames,I.ok.stk,I.ok.exf,I.ok.bs,I.ok.bsz,I.ok.noex,I.ok.exfs,I.ok.funs,I.ok.frf,),I.os,I.bare,I.base,I.loc,I.cell,I.free,I.freeC,λp a=>?_,I.hok,I.len,);rcases af.mp (show p∈(e,oe) :: (X.pn++Od)from a)with rfl|a
 .exact(d,b.unt,b.loc,c,hd,)
 .exact I.pin p a
def Inv.unsuite(ok:X.Ok)(I:Inv (sfx X e oe) Od σ H s):Inv X Od σ H s :=
 (ok,I.os,I.bare,I.base,I.loc,I.cell,I.free,I.freeC,λp a=>I.pin p<|dy (e,oe) a,I.hok,I.len,)
def Inv.excObj(I:Inv (sfx X e oe) Od σ H s):s.heap.get? e=N8 oe:=(I.pin (e,oe)<|kn _ cf).1
def Inv.unbound{i:Nat}{x:Str}{m:Str->Option Kd}{u:Option Kd}{h':Kj}(I:Inv X Od σ H s)(hi:X.N[i]?=N8 x)(R:X.N.Nodup)(C:s.heap.Ns X.env.locals m)(L:h'.Ns X.env.locals λy=>if y=x then u else m y)(a:rc X.env.locals s.heap h') :
  Inv X Od (σ.set i N9) H { s with heap:=h' }:=by
 let cne:=I.cne;let(W,_,_,V,_):=id C;refine(I.ok,I.os,I.bare,(λb o e n v h=>?_,λb o e n v h=>?_,I.base.free,λb o e h=>?_,I.base.tups,I.base.frzs,I.base.tbls,),(_,L,λj y D g f T=>?_,),λy c e=>?_,I.free,I.freeC,λp P=>?_,?_,~~~I.len,)
 .exact(a.2 b<|vl<|v5 (bi e) I.ok.above).trans (I.base.keep b o e n v h)
 .let(F,g):=I.base.slot b o e n v h;exact(F,(a.2 b<|vl<|v5 (bi e) I.ok.above).trans g,)
 .let(K,g):=I.base.there b o e h;exact(K,(a.2 b<|vl<|v5 (bi e) I.ok.above).trans g,)
 .by_cases t:j=i
  .subst t;by_cases l:j<σ.length
   .rw[lg l]at f;cases f
   .rw[lY (~~~l)]at f;cases f
  .rw[nt (Fk t)]at f;let(O,w,Q):=I.loc;let(E,G,q):=Q j y D g f T;let S:O=m:=by rw[w.eq_nsMap,C.eq_nsMap]
   subst S;calc(E,G,?_,);rcases q with⟨k,e⟩|⟨k,c,e,z⟩
   .refine .inl (k,?_,);let:y≠x:=λe=>t<|gR R g<|e ▸ hi
    simp[this,e]
   .exact .inr (k,c,e,z.sameBut a<|cne y c e,)
 .let(A,z):=I.cell y c e;exact(A,z.sameBut a<|cne y c e,)
 .let(e,n,B,M,d):=I.pin p P;exact((a.2 p.1 B).trans e,n,B,M,d,)
 .intro b J e;refine(I.hok b J e).stay (λc A r q=>(a.2 c ?_).trans q) (λ_ q=>q) λ_ _ q=>q
  rintro rfl;rcases r with rfl|r
  .rw[I.free]at e;cases e
  .rw[I.free]at r;cases r
end
def iS{M:Kv}{A:Kr}{E:Kd->Ks->Prop}{i:Nat}{x:Str}{pos:Pos}{Q:Unit->Ks->Prop}(I:Inv X Od σ H s)(e:X.N.Nodup)(hi:X.N[i]?=N8 x)(a:X.env.scope.names.lookup x=N8 .local)
  (h:∀s',Inv X Od (σ.set i N9) H s'->Q () s'):Kw M A (do bindName X.env x lv;unbindBehindTheSuite X.env x pos) Q E s:=by
 calc JZ<|wpAny_bindName<|gW I e hi (.inl a) (v:=.non) (u:=lv) U (λp f=>?_)<|.inr a;calc wpAny_onRaise ?_;let(m,d,j):=f.loc;let c:i<σ.length:=by rw[I.len];exact(JQ.mp hi).1
 let(u,q,l):=j i x .non hi (by rw[lg c]) (.inl a);let o:(X.env.scope.kind == .class || (X.env.scope.kind == .module && X.env.locals != X.env.globals))=false:=by rw[I.ok.kind];rfl
 rcases l with⟨k,n⟩|⟨k,_⟩
 .refine wpAny_unbindName_local a d n o λr v g sb=>?_
  let J:=f.unbound hi e d g sb;rw[List.set_set]at J;exact h _ J
 .exfalso;let b:X.env.kindOf x=N8 .local:=a;rcases k with k|k
  .rw[b]at k;cases k
  .rw[b]at k;cases k
def  GK(i:Nat)(B:Ki)(K:bd)(G:Ki->Prop)(c:TSX)(ts:Ki->Ki->TS):TS:=λD σ H=>c D σ H λC d=>W.exmOne K (.ref C) (.ref B)=N8 Oa/\G C /\
 ∀e,ts C e { nx:=λa b=>D.nx (a.set i N9) b,rt:=D.rt,bk:=λa b=>D.bk (a.set i N9) b,ct:=λa b=>D.ct (a.set i N9) b } (σ.set i<|↑e) d
section
variable{st b₀:KG}{su:Oo KG}{tb:TSX}{ts:Ki->Ki->TS}{Tn n:Str}{B:Ki}{np Fh:Pos}
def DF{G:Ki->Prop}(hb:PSX X st tb)(hx:X.ex=[])(c:X.stack=X.env :: X.outer)(R:X.env.frame=N8 X.env.locals)(hg:Gl X Tn)(hm:X.mg Tn=↑B)(L:X.N.Nodup)(hi:X.N[i]?=N8 n)(F:X.env.scope.names.lookup n=N8 .local)
  (hs:∀(C e:Ki)(oe:Obj),G C->oe.cls=.ref C->PSs (sfx X e oe) (b₀ :: su) (ts C e))(a4:(Tn == ("__debug__" : Str))=false:=by decide) :
  PS X (.Try [st] [.ExceptHandler (N8<|.Name Tn np) (N8 n) (b₀ :: su) Fh] [] [] pos) (GK i B X.K G tb ts):=by
 intro Od s σ H D I h;calc wpAny_Try_except ?_;refine KQ<|KH (hb Od s σ H D _ I h) (λf J q=>?_) λev J q=>?_
 .cases f with
  |next=>exact KP (KP q)
  |ret v=>exact q
  |brk=>exact q
  |cont=>exact q
 let(e,T,C,a0,Z,rfl,Y,x,V,nT,a3,hG,q):=q;let a6:X.A.frames=N8 (X.env :: X.outer):=by rw[←c];exact Y.ok.frames
 let a7:J.heap.FunFrames X.base (X.env :: X.outer):=by rw[←c];exact Y.stack
 refine land a6 a7 R x λh2 T2 P x2 a5=>?_
 rw[←c]at P;let O:=Y.excStep hx P V nT;let a2:fC X Od Z T2:=by
  rcases a5 with z|z
  .exact Y.newAt hx z
  .rw[z];exact nT
 let CA:∀{b:Ki}{o:Obj}{S:Array Kd}{hh:Kj},hh.FunFrames X.base X.stack->hh.get? b=N8 o->o.data=.fields S->b ∉ X.fs:=λ{b o S hh} ff g d z=>by
  let z':b∈frs X.stack:=by rw[c];unfold frs;rw[lP,R];exact dy _ z
  let(_,o2,g2,nf):=ff.mem z';rw[g]at g2;cases g2;exact nf S d
 let b6:=O;let(oe,S,oT,b3,y1,(y2,a9),y3,y4,y5,y6,y7,y8):=id x2;let S2:Inv (sfx X e oe) Od σ Z { J with heap:=h2 }:=O.suite y1 V (λv z=>by rw[y3]at z;cases z) (CA O.stack y1 y3);refine wpAny_handleBy_cons ?_ (by intro z;cases z);calc codeAny_handlers_test<|cZ (X:=sfx X e oe) S2 hg hm ?_ a4;refine W.exm_one (h:=h2) S2.kIn (λA' Q' E' s' k r=>by
  let z:=Mq (M:=model X.prog X.w) (A:=A') (E:=E') (Q:=Q')<|k _ _ y1;rw[y2]at z;exact z r) a3 _ _ _ _ (λb o g=>g) ?_
 rw[Of U];calc codeAny_handlers_suite_as ?_;refine DC (s:={ J with heap:=h2 }) (l:=X.stack) O.stack x2 λh3 T3 a1 x3 b5=>?_
 let I3:=O.excStep hx a1 V a2;let(y,b0,b4,b1,z1,(z2,a8),z3,z4,z5,z6,z7,z8):=id x3;let S3:Inv (sfx X e y) Od σ Z { J with heap:=h3 }:=I3.suite z1 V (λv z=>by rw[z3]at z;cases z) (CA I3.stack z1 z3);calc gW (X:=sfx X e y) S3 L hi (.inl F) (v:=.ref e) (u:=.ref e) U (λs4 S4=>?_)<|.inr F;refine KH (hs C e y hG z2 Od s4 _ Z _ S4<|q e) (λfl s5 a=>?_) λ_ _ z=>io z
 cases fl with
 |next =>
  let(t,p,j,a):=a;exact iS (j.unsuite I.ok) L hi F λs6 m=>(_,p,m,a,)
 |brk =>
  let(t,p,j,a):=a;exact iS (j.unsuite I.ok) L hi F λs6 m=>(_,p,m,a,)
 |cont =>
  let(t,p,j,a):=a;exact iS (j.unsuite I.ok) L hi F λs6 m=>(_,p,m,a,)
 |ret u =>
  let(v,t,p,j,r5,a):=a;calc iS (j.unsuite I.ok) L hi F λs6 m=>(v,_,p,m,r5,a,)
end
structure kl(K:bd)(C:Ki):Prop where
 ga:wT K (.ref C) "__getattribute__" = N8 (N8<|.builtin "BaseException.__getattribute__")
 hk:wT K (.ref C) "__getattr__" = N8 N9
 cl:wT K (.ref C) "__class__" = N8 (N8<|.builtin "object.__class__")
 gt:O2 K (.builtin "object.__class__") "__get__" = N8 (N8<|.builtin "getset_descriptor.__get__")
 tk:W.takesIn K (.builtin "object.__class__")=N8 Oa
 ob:PY K C (.type "object")=N8 Oa
 be:PY K C (.type "BaseException")=N8 Oa
 me:W.kitCls K (.ref C) (.ref C)=N8 Oa
variable{C:Ki}
def gu{a:Kj}(g:a.get? e=N8 oe)(c:oe.cls=.ref C){M:Kv}:W.Looks M a (L5<|.ref e) (.ref C):=λf b d h k r=>by
 let z:=Mq (M:=M) (A:=f) (E:=d) (Q:=b)<|k _ _ g;rw[c]at z;calc z r
def pG{R:Lq->Ks->Prop}{tp:Kd}(i:K.In s.heap)(g:s.heap.get? e=N8 oe)(c:oe.cls=.ref C)(b:PY K C (.type "object")=N8 Oa) (h:R (.ok<|.ret<|.ref C) s) :
  Lu (model prog w) A (.call (.builtin "getset_descriptor.__get__") ([.builtin "object.__class__",.ref e,tp],[],)) R s:=by
 let a:∀{M:Kv},W.Looks M s.heap (L5<|.ref e) (.ref C):=gu g c;let f:∀{M:Kv},W.Looks M s.heap (isSubtype (.ref C)<|.type "object") true:=W.looks_mroIn i b;calc Mr W.KF.slot_gs.plain W.KF.entry_gs<|W.KF.slot_gs.check _ _ _ _ _ _ _ _ W.KF.type_class (W.KF.args_gs _ _ tp) ?_;show Kw _ _ (do let __x ←Rk ⟨[.builtin "object.__class__",.ref e,tp],[]⟩;match __x with|(d,obj,snd)=>Rj d obj) _ _ s;rw[W.dga_obj];calc JZ<|Ka ?_;show Kw _ _ (do OK (.builtin "object.__class__") (.ref e);again (Lz.builtin "object.__class__" ([.ref e],[],))) _ _ s;let dn:Ri (.builtin "object.__class__")=pure (s!"__class__",xz "object"):=by
  show pure (Str.ofString (OM "object.__class__").2,xz (OM "object.__class__").1)=_;rw[W.KF.owner_class]
 unfold OK;rw[dn];calc JZ<|JZ<|Ka ?_;calc JZ<|JZ<|a _ _ _ _ (λ_ _ q=>q)<|f _ _ _ _ (λ_ _ q=>q) ?_;calc Mt U<|Ka ?_;calc Ka (P8 _<|~~~0,Mu W.KF.entry_class ?_,);calc JZ<|JZ<|a _ _ _ _ (λ_ _ q=>q) ?_;calc Mt U<|Ka<|Ka h
def xV{M:Kv}{d:Kd}{Q:Unit->Ks->Prop}(j:K.In s.heap)(g:s.heap.get? e=N8 oe)(c:oe.cls=.ref C)(f:PY K C (.type "BaseException")=N8 Oa) (h:Q () s) :
  Kw M A (Mv "BaseException.__getattribute__" ([.ref e,d],[],)) Q E s:=by
 let i:builtinKind "BaseException.__getattribute__" = N8 .slot:= ~~~0
 let b:splitId "BaseException.__getattribute__" = N8 ("BaseException","__getattribute__"):= ~~~0
 let a:=PySem.F.args_bexc_ga (.ref e) d;unfold Mv;rw[i,b];calc JZ<|JZ<|gu g c _ _ _ _ (λ_ _ q=>q)<|W.looks_mroIn j f _ _ _ _ (λ_ _ q=>q) ?_;calc Mt U ?_;unfold Mw at a;generalize Manifest.signature? "BaseException.__getattribute__" = sg at a⊢;cases sg with
 |none=>exact Ka h
 |some k=>calc Mx a h
def xW{Q:Option Kd->Ks->Prop}(a:K.In s.heap)(X:kl K C)(g:s.heap.get? e=N8 oe)(c:oe.cls=.ref C)(h:Q ↑C { s with toks:=s.toks+1 }):Kw (model prog w) A (Mz (.ref e) "__class__") Q E s:=by
 let b:∀{M:Kv},W.Looks M s.heap (L5<|.ref e) (.ref C):=gu g c;calc JZ<|wpAny_mkText<|JZ<|MA<|Kb<|JZ<|b _ _ _ _ (λ_ _ q=>q)<|JZ<|Py a X.ga _ _ _ _ (λ_ _ q=>q) ?_;calc Mt U ?_;calc JZ ?_;show Kw _ _ (if onTheHeap (.ref C)=Oa then LZ (.ref C) "__getattr__" else pure N9) _ _ _;calc MB U<|Py a X.hk _ _ _ _ (λ_ _ q=>q) ?_;calc JZ<|MA<|Kb ?_;show Kw _ _ (if (Ob && onTheHeap (.builtin "BaseException.__getattribute__"))=Oa then _ else boundAndCalled (.builtin "BaseException.__getattribute__") (.ref e) (P6 s!"__class__" s.toks)) _ _ _;calc Mt U<|JZ<|Mx (PySem.F.attr_ValueError.ga.bind<|.ref e)<|LD ?_;calc Mr PySem.F.attr_ValueError.ga.plain PySem.F.entry_bexc_ga<|xV (s:={ s with toks:=s.toks+1 }) a g c X.be ?_;refine JZ<|Mx (show MC "__getattribute__" 1 ([.ref e,P6 s!"__class__" s.toks],[],)=pure (dL e,[P6 s!"__class__" s.toks])from U) ?_;refine JZ<|Mx (show Le.ObjectAttr.attrName (P6 s!"__class__" s.toks)=pure s!"__class__"from U) ?_;calc JZ<|b _ _ _ _ (λ_ _ q=>q) ?_;calc JZ ?_;unfold Le.ObjectAttr.find;calc JZ<|Py a X.cl _ _ _ _ (λ_ _ q=>q) ?_;calc JZ<|W.looks_specialIn a X.gt _ _ _ _ (λ_ _ q=>q) ?_;calc JZ<|JZ<|W.looks_takesIn a X.tk _ _ _ _ (λ_ _ q=>q)<|MB U<|Ka ?_;calc JZ<|MD<|Ka ?_;calc JZ<|Kb<|LD<|pG (s:={ s with toks:=s.toks+1 }) a g c X.ob ?_;calc Ka<|W.handed_on U<|Ka h
def nG(X:kl K C)(c:oe.cls=.ref C):W.KitX K (.ref e) (.ref C) λh=>h.get? e=N8 oe where
 ty:=λM h a g=>gu g c
 it:=λM h a g=>(W.kit_cls a X.me).2.1
 ne:=λh tp dd f n i a g=>by
  refine Jo.mpr λz=>?_
  let b:=Kd.ref.inj<|beq_iff_eq.mp z;subst b;let m:=X.be;unfold PY W.clsIn at m;cases q:EQ C K with
  |none=>rw[q]at m;cases m
  |some o =>
   let k:=a C o q;rw[g]at k;let d:=ci k;rw[q,←d]at m;cases m
 ca:=λ{prog w A E Q s} a g h=>xW a X g c h
def qm:∀{a:Oo Ki}{us:Oo Kd},Vals (a.map mt) us->us=a.map dL
 | [],_,.nil=>rfl
 |c :: a,_,.cons r t=>by rw[qm t];calc Ol (· :: a.map dL) r
def lj(c:oe.cls=.ref C)(L:kl X.K C):cF (sfx X e oe) (.builtin "isinstance") (λxs H Q=>∃y b,xs=[.ref e,y]/\((∃B,y=.ref B/\KT X.K (.ref C) (.ref B)=N8 b)\/(∃T,y=.ty T/\KT X.K (.ref C) (.type T)=N8 b) \/
  (∃(tp:Ki)(f:Oo Ki),y=.ref tp/\H tp=N8 (.tup<|f.map mt)/\W.kitAny X.K (.ref C) (f.map dL)=N8 b))/\Q (.bl b) H):=by
 intro Od s σ H xs D Q I r h;let(y,b,rfl,u,q):=h;let g:=I.excObj;let i:X.K.In s.heap:=I.kIn;cases r with
 |cons m t =>
  cases t with
  |cons d p =>
   cases p;cases (show _=dL e from m);let fin:∀a,EP (sfx X e oe) Od σ Q (QU b) { s with toks:=a }:=λa=>(.bl b,H,I.tok a,U,q,)
   rcases u with⟨B,rfl,k⟩|⟨T,rfl,k⟩|⟨tp,f,rfl,v,k⟩
   .cases (show _=dL B from d);exact AC (nG L c) i g k (λz=>nomatch z) fin
   .cases (show _=xz T from d);exact AC (nG L c) i g k (λz=>nomatch z) fin
   .cases (show _=dL tp from d);let(_,A,o,(cl,dd,F,E),w,l,n,j):=I.hok tp _ v;let x:=qm o;subst x;dsimp only at l j;subst l j;calc W.kia_tup (nG L c) i g w k (λz=>nomatch z) fin
def CC{P:Kf}{w:Ke}{X:Cx}:Passes (CX1 P w) X E0:=λ_ _ _ _ _ _ _ h=>by
 let(_,_,_,_,_,_,_,_,_,_,_,_,_,_,_,_,_,q):=h;calc io q
def  ba(CX:CXT)(P:Kf)(w:Ke)(K:bd)(mg:Str->Option Kd)(base:Kj)(k:Nat)(C:Ki)(m:Str)(ps:Oo Str)(sp:Sp):Prop :=
 ∃f a,Meth K C m f/\aH P w K mg base CX k f a ps sp/\Binds K a ps []
def  bp(CX:CXT)(P:Kf)(w:Ke)(K:bd)(mg:Str->Option Kd)(base:Kj)(k:Nat)(x:Str)(C:Ki)(ps:Oo Str)(sp:Sp):Prop :=
 ∃f a,Mk K C f/\aH P w K mg base CX k f a ps sp/\Binds K a ps []/\mg x=↑C
structure Fi(K:bd)(B:Ki)(m:Str)(f:Ki):Prop where
 sp:O2 K (.ref B) "__getattribute__" = N8 (N8<|.builtin "type.__getattribute__")
 rd:W.readsIn K B (.type "type")=Oa
 at_:W.findCls K (.ref B) (.type "type") m=N8 (.val<|.ref f)
 kp:FS K (.ref f)=Oa
def  cm(CX:CXT)(P:Kf)(w:Ke)(K:bd)(mg:Str->Option Kd)(base:Kj)(k:Nat)(x:Str)(m:Str)(ps:Oo Str)(sp:Sp):Prop :=
 ∃f a B,Fi K B m f/\aH P w K mg base CX k f a ps sp/\Binds K a ps []/\mg x=↑B
section
variable{CX:CXT}{mg:Str->Option Kd}{j:Nat}{m:Str}
def ba.mono(c:ba CX P w K mg base j C m ps sp)(h:j<=k):ba CX P w K mg base k C m ps sp:=by
 let(f,a,M,F,b):=c;calc(f,a,M,F.mono h,b,)
def bp.mono(c:bp CX P w K mg base j x C ps sp)(h:j<=k):bp CX P w K mg base k x C ps sp:=by
 let(f,a,M,F,b):=c;calc(f,a,M,F.mono h,b,)
def cm.mono(c:cm CX P w K mg base j x m ps sp)(h:j<=k):cm CX P w K mg base k x m ps sp:=by
 let(f,a,B,M,F,b):=c;calc(f,a,B,M,F.mono h,b,)
end
inductive Fj(C:Ki)(m:Str)(sp:Sp)(t:TA)(σ:St)(Q:VK)(x:V)(H1:Hp):Prop
 |mk (a dx fs:_)(_:x=.ref a)(_:H1 a=N8 (.ins C dx fs))(_:fs.lookup m=N9)(_:t σ H1 λvs H2=>sp (x :: vs) H2 Q E0)
def  tMt(C:Ki)(m:Str)(sp:Sp)(a:TE)(t:TA):TE:=λσ H Q=>a σ H λx b=>Fj C m sp t σ Q x b
def  tMk(C:Ki)(sp:Sp)(t:TA):TE:=λσ H Q=>t σ H λc b=>∀x a,b x=N9->b a=N9->a≠x ->
 sp (.ref x :: c) (upd (upd b a<|.own x) x<|.ins C a []) (λv d=>v=.non/\Q (.ref x) d) E0
section
variable{CX:CXT}{f:Ki}{fd:LA}{m:Str}{p np apos:Pos}{e o:Kz}{es:Oo Kz}{ta:TE}{t:TA}
def Bv{Od:Oo (Ki×Obj)}{σ:St}{H:Hp}{s:Ks}{Q:VK}{us:Oo Kd}{vs:Oo V}{E:XK}(F:aH X.prog X.w X.K X.mg X.base CX k f fd ps sp)(b:bu k X.A)(c:Binds X.K fd ps [])(a:Passes CX X E)
  (I:Inv X Od σ H s)(r:Vals vs us)(h:sp vs H Q E):Kw (model X.prog X.w) X.A (call (.ref f) us) (EP X Od σ Q) X.xe s :=
 q9 (dvs:=[]) (ds:=[]) F b c .nil a I r (by rw[iI];exact h)
def qo{pl:Sem Bool}(M:ba CX X.prog X.w X.K X.mg X.base k C m ps sp)(z:Passes CX X E0)(c:Cls X.K C)(D:bu k X.A)(E:PE X o ta)(J:PA X (e :: es) t)
  (b:KD (e :: es) X.env=(Ob,eval e X.env) :: KD es X.env:=by rfl)(d:(KC pos<|KD es X.env).any (·.1)=false:=by rfl)
  (B:eval (.Call (.Attribute o m apos) (e :: es) [] pos) X.env=(do
   let g ←eval o X.env
   KN apos.atName
   let (f,first) ←holding [g] (Lp g m pl)
   ME pos f first (KC pos<|KD (e :: es) X.env) (L6 pos<|L7 [] X.env)):=by rfl) :
  PE X (.Call (.Attribute o m apos) (e :: es) [] pos) (tMt C m sp ta t):=by
 let(f,fd,i,F,G):=M;intro Od s σ H Q I h;calc Qk (pl:=pl) (thn (E Od s σ H _ I h) λu p (x,O,n,v,a,P,fs,L,N,l,q,)=>?_) B;subst L;obtain rfl:u=dL a:=v;calc nq n N c i l ?_;calc AT (first:=[.ref a]) (h₀:=X.base) I.ok.mod.kin i.kp (thn (J pos Od p σ O _ n q) λus s2 (vs,R,j,r,y,)=>(j.kIn,?_,)) b d;calc Bv (us:=.ref a :: us) (vs:=.ref a :: vs) F D G z j (.cons U r) y
def gv{pl:Sem Bool}(M:cm CX X.prog X.w X.K X.mg X.base k x m ps sp)(l:Passes CX X E0)(o:bu k X.A)(q:Gl X x)(y:PA X (e :: es) t)(d:(x == ("__debug__" : Str))=false:=by decide)
  (b:KD (e :: es) X.env=(Ob,eval e X.env) :: KD es X.env:=by rfl)(c:(KC pos<|KD es X.env).any (·.1)=false:=by rfl)
  (n:eval (.Call (.Attribute (.Name x np) m apos) (e :: es) [] pos) X.env=(do
   let g ←eval (.Name x np) X.env
   KN apos.atName
   let (f,first) ←holding [g] (Lp g m pl)
   ME pos f first (KC pos<|KD (e :: es) X.env) (L6 pos<|L7 [] X.env)):=by rfl) :
  PE X (.Call (.Attribute (.Name x np) m apos) (e :: es) [] pos) (tFn sp t):=by
 let(f,fd,B,a,F,u,p):=M;intro Od s σ H Q I h;calc Qk (pl:=pl) (cZ I q p ?_ d) n;calc W.method_cls I.kIn a.sp<|W.cls_value (mc:=.type "type") I.kIn a.rd a.at_ (qd (v:=.ref f) U) ?_;calc AT (first:=[]) (h₀:=X.base) I.ok.mod.kin a.kp (thn (y pos Od _ σ H _ (I.tok _) h) λus s2 (vs,z,i,r,j,)=>(i.kIn,?_,)) b c;calc Bv (us:=us) (vs:=vs) F o u l i r j
def qp(M:bp CX X.prog X.w X.K X.mg X.base k x C ps sp)(l:Passes CX X E0)(m:bu (k+1) X.A)(o:Gl X x)(u:PA X (e :: es) t)(i:(x == ("__debug__" : Str))=false:=by decide)
  (he:KD (e :: es) X.env=(Ob,eval e X.env) :: KD es X.env:=by rfl)(g:(KC pos<|KD es X.env).any (·.1)=false:=by rfl) :
  PE X (.Call (.Name x p) (e :: es) [] pos) (tMk C sp t):=by
 let(f,fd,M,F,r,n):=M;let h:=Bh (E:=E0) (dvs:=[]) (ds:=[]) (p:=p) M F m o n r .nil l u i he g;intro Od s σ H Q I q;calc h Od s σ H Q I ?_;let j:t σ H λc b=>∀x a,b x=N9->b a=N9->a≠x->sp (.ref x :: c) (upd (upd b a<|.own x) x<|.ins C a []) (λv d=>v=.non/\Q (.ref x) d) E0:=q
 show t σ H λc b=>∀x a,b x=N9->b a=N9->a≠x->sp (.ref x :: (c++[])) (upd (upd b a<|.own x) x<|.ins C a []) (λv d=>v=.non/\Q (.ref x) d) E0
 let y:(λ(c:Oo V)(b:Hp)=>∀x a,b x=N9->b a=N9->a≠x->sp (.ref x :: (c++[])) (upd (upd b a<|.own x) x<|.ins C a []) (λv d=>v=.non/\Q (.ref x) d) E0)=λc b=>∀x a,b x=N9->b a=N9->a≠x->sp (.ref x :: c) (upd (upd b a<|.own x) x<|.ins C a []) (λv d=>v=.non/\Q (.ref x) d) E0:=by
  funext c b
  rw[iI]
 rw[y];calc j
end
def aH.no{P:Kf}{w:Ke}{K:bd}{mg:Str->Option Kd}{base:Kj}{CX:CXT}{k:Nat}{f:Ki}{a:LA}{ps:Oo Str}{sp:Sp}(h:∀vs H Q E,¬ sp vs H Q E):aH P w K mg base CX k f a ps sp :=
 (λvs H Q E q=>(h vs H Q E q).elim,λ_ _ _ H _ _ vs Q E _ _ _ _ q=>(h vs H Q E q).elim,)
def mQ{X:Cx}{K:bd}{e:Kz}{f:Str}{pos:Pos}{a:TE}(h:X.K=K)(b:PE X e a)(c:Lv e f X.env (eval e X.env)=eval e X.env):PE X (.Attribute e f pos) (EV K a f):=h ▸ cc b c
set_option maxRecDepth 100000
inductive DEq(K:bd)(H:Hp):Nat->V->V->Bool->Prop where
 |flat {n:Nat}{x y:V}(fx:wM x=Oa)(fy:wM y=Oa):DEq K H n x y (eqV x y)
 |same {n:Nat}(a:Ki):DEq K H n (.ref a) (.ref a) Oa
 |lst {n:Nat}{a b:Ki}{xs ys:Oo V}{f:Nat->Bool}(ne:a≠b)(ha:SqL K H a xs)(hb:SqL K H b ys)(hl:⇑xs=⇑ys)(h:∀(j:Nat)(x y:V),xs[j]?=N8 x->ys[j]?=N8 y->DEq K H n x y (f j)):DEq K H (n+1) (.ref a) (.ref b) ((db ⇑xs).all f)
 |lst_ne {n:Nat}{a b:Ki}{xs ys:Oo V}(ne:a≠b)(ha:SqL K H a xs)(hb:SqL K H b ys)(hl:⇑xs≠⇑ys):DEq K H (n+1) (.ref a) (.ref b) Ob
 |tup {n:Nat}{a b:Ki}{xs ys:Oo V}{f:Nat->Bool}(ne:a≠b)(ha:SqT K H a xs)(hb:SqT K H b ys)(h:∀(j:Nat)(x y:V),xs[j]?=N8 x->ys[j]?=N8 y->DEq K H n x y (f j)):DEq K H (n+1) (.ref a) (.ref b) ((db<|min ⇑xs ⇑ys).all f && ⇑xs == ⇑ys)
def DEq.mono{K:bd}{H:Hp}{n m:Nat}{x y:V}{b:Bool}(e:DEq K H n x y b)(h:n<=m):DEq K H m x y b:=by
 induction e generalizing m with
 |flat q p=>exact .flat q p
 |same a=>exact .same a
 |lst c f d i _ g =>
  let(m,rfl):∃k,m=k+1:=(m-1,∅,);exact .lst c f d i λj x y o l=>g j x y o l ∅
 |lst_ne c f d i =>
  let(m,rfl):∃k,m=k+1:=(m-1,∅,);exact .lst_ne c f d i
 |tup c f d _ g =>
  let(m,rfl):∃k,m=k+1:=(m-1,∅,);calc .tup c f d λj x y o l=>g j x y o l ∅
def ie{xs:Oo V}{a:Oo Kd}(r:Vals xs a){j:Nat}(h:j<a.toArray.size):∃x,xs[j]?=N8 x/\RelV x a.toArray[j]:=by
 let f:j<⇑a:= ~~~h
 let i:=⇑r;let b:xs[j]?=N8 xs[j]:=JP ∅;let(d,c,e):=r.get b;let g:a.toArray[j]=d:=by
  let:=JP f;rw[this]at c;simpa using ci c
 calc(xs[j],b,g ▸ e,)
def DEq.at{n:Nat}{x y:V}{b:Bool}(e:DEq X.K H n x y b)(I:Inv X Od σ H s):∀{A:Kr}{u v:Kd},A.units+n<Ly->RelV x u->RelV y v->P9 A s u v b:=by
 induction e with
 |flat G F=>intro A u v o i g;exact Dy i g G F
 |same a =>
  intro A u v o i g;cases (show u=dL a from i);cases (show v=dL a from g);exact QI _
 | @lst n a b xs ys f ne ha hb hl h ih =>
  intro A u v o i g;cases (show u=dL a from i);cases (show v=dL b from g);let(d,r,p,_):=I.list ha;let(c,k,l,_):=I.list hb;let E:=⇑r;let D:=⇑k;let m:=SeqAt.RcAt.lists (A:=A) (e:=f) p.isList l.isList (by simp only[dG];lia) ∅ (λj z w=>by
   let(x,C,t):=ie r z;let(y,B,q):=ie k w;exact ih j x y C B (by show A.units+1+n<Ly;lia) t q)
  rw[show d.toArray.size=⇑xs by simp only[dG];lia]at m;exact OG ne m
 | @lst_ne n a b xs ys ne ha hb hl =>
  intro A u v o i g;cases (show u=dL a from i);cases (show v=dL b from g);let(d,r,p,_):=I.list ha;let(c,k,l,_):=I.list hb;let E:=⇑r;let D:=⇑k;exact OG ne<|SeqAt.RcAt.lists_lengths p.isList l.isList (by simp only[dG,bne_iff_ne,ne_eq];lia) ∅
 | @tup n a b xs ys f ne ha hb h ih =>
  intro A u v o i g;cases (show u=dL a from i);cases (show v=dL b from g);let(d,r,p,_):=I.tuple ha;let(c,k,l,_):=I.tuple hb;let E:=⇑r;let D:=⇑k;let m:=QB (A:=A) (e:=f) (show s.heap.IsTuple a d.toArray from p) (show s.heap.IsTuple b c.toArray from l) ∅ (λj z w=>by
   let(x,C,t):=ie r z;let(y,B,q):=ie k w;exact ih j x y C B (by show A.units+1+n<Ly;lia) t q)
  rw[show d.toArray.size=⇑xs by simp only[dG];lia,show c.toArray.size=⇑ys by simp only[dG];lia]at m;exact OG ne m
set_option maxRecDepth 100000
section
variable{tg:Kz}
inductive vm(K:bd)(x:V)(y:V)(H:Hp)(Q:VK):Prop
 |mk (a b xs ys:_)(_:x=.ref a)(_:y=.ref b)(_:SqT K H a xs)(_:SqT K H b ys)(_:⇑xs+⇑ys<=Kk)(_:(xs=[]->Q (.ref b) H))(_:(xs≠[]->ys=[]->Q (.ref a) H))(_:(xs≠[]->ys≠[]->∀p,H p=N9->Q (.ref p) (upd H p<|.tup<|xs++ys)))
def nH:OpR X (Lg .Add) (vm X.K):=by
 intro Od s σ H x y v u Q I o m h;let(a,b,l,z,rfl,rfl,t,r,N,E,D,C):=h;by_cases c:l=[]
 .cases o;cases m;let(d,B,L,_):=I.tuple t;let(G,R,J,_):=I.tuple r;let O:d=[]:=B.nil_iff.mpr c;let((P,dd,w,A),p,q,n,hd):=id L;let((S,j,k,i),e,g,M,f):=id J;simp only at q hd g f;subst q hd g f
  exact LM (_,p,U,) (_,e,U,) LN LO PySem.F.slot_tuple_add PySem.F.entry_tuple_add (PySem.F.args_tuple_add_2 _ _)
   (tuple_addW0 a b d.toArray G.toArray n M dd j A i (by simp[O])) (p,e,(.ref b,H,I,U,E c,),)
 .exact Bj Od s σ H (.ref a) (.ref b) v u Q I o m (a,b,l,z,U,U,t,r,c,N,D c,C c,)
end
end _L
namespace HT
open PySem PyProof.Rows
section
open PySem.SeqAt
open PySem.AutoSeq1 (wpAny_loadPart')
open PySem.MeetsSeq PySem.MeetsSeq2 PySem.MeetsSeq3
end
end HT
namespace _L
open PySem PySem.Spec PyProof.Rows
section
variable{X:Cx}
end
end _L
namespace HT
open PySem PyProof.Rows
section
open PySem.SeqAt
open PySem.AutoSeq1 (wpAny_loadPart')
open PySem.MeetsSeq PySem.MeetsSeq2 PySem.MeetsSeq3
end
end HT
namespace _L
open PySem PySem.Spec PyProof.Rows
variable{X:Cx}
variable{prog:Kf}{w:Ke}{A:Kr}{E:Kd->Ks->Prop}{s:Ks}
section
variable{κ:Type} [DecidableEq κ]
def  cntK(ks:Oo κ):Nat->Nat
 |0=>0
 |i+1=>match ks[i]? with
  |some k=>if k∈ks.take i then cntK ks i else cntK ks i+1
  |none=>cntK ks i
def km(ks:Oo κ):∀i,cntK ks i<=i
 |0=>vk _
 |i+1=>by
  let a:=km ks i;unfold cntK;split
  .split <;> lia
  .lia
def qr(ks:Oo κ):∀i,i<=⇑ks->(cntK ks i=i↔(ks.take i).Nodup)
 |0,_=>by simp[cntK]
 |i+1,h=>by
  let c:=qr ks i ∅;let le:=km ks i;let e:ks[i]?=N8 ks[i]:=JP ∅;let g:ks.take (i+1)=ks.take i++[ks[i]]:=by rw[nF,e];rfl
  unfold cntK;rw[e,g,o3];dsimp only;by_cases m:ks[i]∈ks.take i
  .rw[Of m];exact(λz=>Og z ∅,λz=>Og U<|z.2.2 _ m _ (by simp),)
  .rw[Oe m];refine(λz=>(c.mp ∅,by simp,λa f b d=>?_,),λz=>by rw[c.mpr z.1],);rw[show b=ks[i] by simpa using d];calc λq=>m<|q ▸ f
variable{knd:KeyKind prog w κ}
def gx{h h':Kj}{a:Ki}{S:κ->Bool}{n:Nat}(x:h.SetOf knd a S n)(k:∀o,h.get? a=N8 o->h'.get? a=N8 o):h'.SetOf knd a S n:=by
 let(o,c,d,t,b,r):=x;calc(o,c,d,t,k o b,r,)
def nJ{h:Kj}{a:Ki}{S c:κ->Bool}{n b:Nat}(x:h.SetOf knd a S n)(e:S=c)(d:n=b):h.SetOf knd a c b:=e ▸ d ▸ x
def xX{R:Lq->Ks->Prop}{I:Ki}{fp g:Oo Ki}{G:Array Ku->Array Ku->Prop}{n:Nat}{P:Nat->Kd->Prop}{St:Nat->Ks->Prop}(W:MG prog w A.in1 I fp g G n P St){a:Ki}(C:a ∉ fp){ks:Oo κ}
  (O:∀i v,P i v->∃k,ks[i]?=N8 k/\knd.is k v=Oa/\v.scannable=Oa)(f:n+1<MH):∀(d i:Nat)(s:Ks),n=i+d->St i s->s.heap.SetOf knd a (λk=>decide<|k∈ks.take i) (cntK ks i) ->
   (∀s',MI (a :: g) G s s'->s'.heap.SetOf knd a (λk=>decide<|k∈ks.take n) (cntK ks n)->R (.ok<|.ret .none) s')->Lu (model prog w) A (.builtin "set.update.loop" ([.ref a,.ref I],[],)) R s:=by
 let B:a ∉ g:=λz=>C<|W.sub a z
 intro d;induction d with
 |zero =>
  intro i s e h x fin;rw[show n=i by lia]at W fin;calc Mu (R:=R) (A:=A) Ov ?_;rw[lm (A:=A) ww _];show Kw (model prog w) A.in1 (K2 (.ref I) >>= _) _ _ s;exact JZ<|W.done s _ _ h λs' m=>Ka<|fin s' (m.mono λb f=>dy a f)<|gx x λo q=>m.heap a o B q
 |succ d N =>
  intro i s e h x fin;calc Mu (R:=R) (A:=A) Ov ?_;rw[lm (A:=A) ww _];show Kw (model prog w) A.in1 (K2 (.ref I) >>= _) _ _ s;calc JZ<|W.item i s _ _ ∅ h λv c p l m=>?_;let(k,D,u,L):=O i v p;let K:=gx x λo q=>m.heap a o B q
  show Kw (model prog w) A.in1 (holding [v] (MJ a v) >>= _) _ _ c;refine JZ<|Kb (show Kw (model prog w) A.in1 (MJ a v) _ _ c from ?_);unfold MJ;calc Kb<|JZ<|knd.pyHash u ?_;let le:=km ks i;refine wpAny_setAddHashed_of (knd:=knd) (s:={ c with toks:=c.toks+1 }) u L K ∅ λj sb J=>?_
  let Q:ks.take (i+1)=ks.take i++[k]:=by rw[nF,D];rfl
  let H:j.SetOf knd a (λq=>decide<|q∈ks.take (i+1)) (cntK ks<|i+1):=by
   refine nJ J (funext λq=>?_) ?_
   .rw[Q];by_cases z:q∈ks.take i <;> by_cases y:q=k <;> simp[z,y]
   .show(if decide (k∈ks.take i)=Oa then cntK ks i else cntK ks i+1)=match ks[i]? with|some k=>if k∈ks.take i then cntK ks i else cntK ks i+1|none=>cntK ks i
    rw[D];by_cases z:k∈ks.take i <;> simp[z]
  calc Ka (MK ww _,N (i+1) { c with heap:=j,toks:=c.toks+1 } ∅ (W.frame (i+1) c j (c.toks+1) l (w5 _) λb t o q=>(sb.2 b λz=>C<|z ▸ t).trans q) H λs2 M E=>?_,);calc fin s2 (MI.trans W.gtrans ((m.mono λb f=>dy a f).then_heap (w5 _) λb o r q=>?_) M) E;calc(sb.2 b λz=>r<|z ▸ cf).trans q
abbrev dg(led:Bool):Obj:={ cls:=.type "set",dict:=N9,data:=.set #[] 0 (.fresh 0 0 led) }
def  Filled(knd:KeyKind prog w κ)(s:Ks)(ks:Oo κ)(h':Kj):Prop :=
 h'.SetOf knd ↥s (λk=>decide<|k∈ks) (cntK ks ⇑ks)/\∀b o,b<↥s->s.heap.get? b=N8 o->h'.get? b=N8 o
def zL{l:Ki}{items:Array Kd}{ks:Oo κ}{led:Bool}(G:A.handled=N9)(C:s.heap.IsList l items)(D:∀(i:Nat)(v:Kd),items[i]?=N8 v->∃k,ks[i]?=N8 k/\knd.is k v=Oa/\v.scannable=Oa)(B:⇑ks=items.size)(H:items.size+1<MH) :
  Lu (model prog w) A (.call (.builtin "set.__init__") ([.ref ↥s,.ref l],[],)) (wants (λr s2=>r=.none/\∃h' j,s2={ s with heap:=h',toks:=j }/\Filled knd s ks h') E) { s with heap:=s.heap.push (dg led) }:=by
 let h:(s.heap.push<|dg led).get? ↥s=N8 (dg led):=bn s.heap U;let ty:Ot { s with heap:=s.heap.push (dg led) } (.ref ↥s) "set" := (dg led,h,U,);calc Mr sw.init.plain F.entry_set_init<|ML ty ?_;let((S,N,R,M),f,g,m,hd):=C;dsimp only at g hd;subst g hd;let J:(s.heap.push<|dg led).get? l=N8 { cls:=.type "list",dict:=N,data:=.seq items m,slots:=M }:=am _ f;let Q:=F.sub_list_set;let P:=Rx;let O:(xz "list" == xz "dict")=false:=⋯
 let e:(s.heap.push<|dg led).IsList l items:=(_,J,U,m,U,);let lt:l<↥s:=bi f;unfold Le.«set.__init__» PU noKeywords;generalize I:K4=it
 wp_walk
 subst I;calc Lc e<|JZ<|MM ?_;let u:l≠(s.heap.push<|dg led).objs.size:=by rw[ln];exact vl<|wI lt
 let y:↥s ∉ [(s.heap.push<|dg led).objs.size,l]:=by
  rw[ln];intro z;rcases af.mp z with z|z
  .exact Og z<|vl<|yl _
  .exact Og (~~~z)<|wz lt
 refine xX (knd:=knd) ((QT (by simp[G]) _ l u items).toS) y (ks:=ks) D H items.size 0 _ (yP _).symm ((_,bn _ U,U,U,),e.push _,) (nJ ((setObjOf_fresh (knd:=knd) led).setOf (am _ h) (by unfold MH;lia)) (funext λk=>by simp) U) λp c x=>?_
 let(h',K,L,n,t):=p;obtain rfl:K=s.gens:=c.gens;obtain rfl:L=s.drawn:=c.drawn;obtain rfl:t=s.os:=c.os;refine Ka (show Kw (model prog w) _ (ret lv) _ _ _ from Ka (U,h',n,U,?_,λb o a q=>?_,))
 .rw[←B]at x;exact nJ x (funext λk=>by rw[fm]) U
 .refine c.heap b o (λz=>?_)<|am _<|am _ q;rcases af.mp z with z|z
  .exact Og z<|vl a
  .let d:b=(s.heap.push<|dg led).objs.size:= ~~~z
   rw[ln]at d;exact Og d (vl<|wI a)
set_option maxRecDepth 100000 in
def qt{l:Ki}{items:Array Kd}{ks:Oo κ}{Q:Kd->Ks->Prop}(q:A.handled=N9)(o:s.heap.IsList l items)(p:∀(i:Nat)(v:Kd),items[i]?=N8 v->∃k,ks[i]?=N8 k/\knd.is k v=Oa/\v.scannable=Oa)(n:⇑ks=items.size)(t:items.size+1<MH)
  (h:∀h' d,Filled knd s ks h'->Q (.ref ↥s) { s with heap:=h',toks:=d }):Kw (model prog w) A (call (.type "set") [.ref l]) Q E s:=by
 let(c,tl,mro):=sw.mro;let I:=sw.made;let H:=sw.sub;let G:=sw.notType;let D:=sw.canCreate;let C:=F.typeCall_set_1<|.ref l;refine LD<|MN (show Kw (model prog w) _ (callAny (.type "set") _) _ _ _ from Ka (P8 _<|~~~0,Mu F.entry_type_call ?_,));rw[Kr.under_plain (A:=A) (MO "set" [.ref l] []) U]
 repeat (any_goals (first|assumption|wp_step))
 refine LF (code_set_new_1 (.ref l) (E:=E) (Q₁:=λj g=>∃a,j=.ref ↥s/\g={ s with heap:=s.heap.push (dg a) }) λa=>(a,U,U,)) λr g f=>?_
 cases r with
 |error e=>exact f
 |ok y =>
  cases y with
  |ret j =>
   let(a,rfl,rfl):=f;let u:(s.heap.push<|dg a).get? ↥s=N8 (dg a):=bn s.heap U;let ty:Ot { s with heap:=s.heap.push (dg a) } (.ref ↥s) "set" := (dg a,u,U,);let B:=sw.init.lookup;let b2:=sw.init.bind<|.ref ↥s
   repeat (any_goals (first|assumption|wp_step))
   refine LF (zL (E:=E) (knd:=knd) (by simp[q]) o p n t) λm s2 b=>?_
   cases m with
   |error e=>exact b
   |ok z =>
    cases z with
    |ret r =>
     let(rfl,h',d,rfl,x):=b
     repeat (any_goals (first|assumption|wp_step))
     exact h h' d x
    |_=>exact b.elim
  |_=>calc f.elim
end
def  DG(P:Kf)(w:Ke)(a:Ki)(zs:Oo Str):HO:=.ext λh=>h.SetOf (strKind P w) a (λz=>decide<|z∈zs)<|cntK zs ⇑zs
def qu:∀{zs:Oo Str}{us:Oo Kd},Vals (zs.map v0) us->∀(i:Nat)(v:Kd),us[i]?=N8 v->∃z t,zs[i]?=N8 z/\v=.str z t
 | [],_,.nil,i,v,h=>by simp at h
 |z :: zs,_,.cons (t,e,) r,0,v,h=>by simp at h;exact(z,t,U,by rw[←h,e],)
 |z :: zs,_,.cons _ r,i+1,v,h=>by
  let(a,t,c,b):=qu r i v<|~~~h;calc(a,t,~~~c,b,)
def pH(C:X.calm=Oa):cF X (.type "set") (λxs H Q=>∃(p:Ki)(zs:Oo Str),xs=[.ref p]/\SqL X.K H p (zs.map v0)/\⇑zs<=1000/\∀l,H l=N9->Q (.ref l) (upd H l<|DG X.prog X.w l zs)):=by
 intro j s G H xs J Q I r h;let(p,zs,rfl,D,L,q):=h;let(u,rfl,A):=r.one;obtain rfl:u=dL p:=A;let(F,d,B,_):=I.list D;let f:=⇑d;rw[aa]at f;refine qt (knd:=strKind X.prog X.w) (ks:=zs) (I.ok.hd C) B.isList (λi v e=>?_) (~~~f) (by unfold MH;simp;lia) λh' n x=>?_
 .let(z,t,E,rfl):=qu d i v<|~~~e;exact(z,E,by show Kd.isStrOf z (.str z t)=Oa;simp[Kd.isStrOf],U,)
 .let(c,m):=x;calc(.ref ↥s,_,I.laid (a:=↥s) (o:=DG X.prog X.w ↥s zs) (h':=h') (t':=n) (λb o q=>m b o (bi q) q) (vk _) ?_,U,q _ I.fresh,);calc(c,?_,λN M y k=>gx y k,);let(o,_,_,_,g,_):=c;calc(o,g,)
def  Asc(xs:Array Nat):Prop:=xs.toList.Pairwise (· < ·)
def Asc.lt{xs:Array Nat}(h:Asc xs){i j:Nat}(a:i<j)(b:j<xs.size):xs[i]<xs[j]:=by
 let:=pe.mp h i j (by simp;lia) (~~~b) a;simpa using this
def zM{xs:Array Nat}(h:Asc xs)(j:Nat):∀(a lo hi:Nat),lo<=hi->hi<=xs.size->hi-lo<=a ->
  (∀(i:Nat)(hi':i<xs.size),i<lo->xs[i]<j)->(∀(i:Nat)(hi':i<xs.size),hi<=i->j<=xs[i]) ->
  Ox xs j a lo hi<=xs.size/\(∀(i:Nat)(hi':i<xs.size),i<Ox xs j a lo hi->xs[i]<j)/\(∀(i:Nat)(hi':i<xs.size),Ox xs j a lo hi<=i->j<=xs[i]):=by
 intro a;induction a with
 |zero =>
  intro lo hi t d s k g;let e:lo=hi:=∅
  subst e;exact(by unfold Ox;exact d,by unfold Ox;exact k,by unfold Ox;exact g,)
 |succ a q =>
  intro lo hi t d s k g;unfold Ox;by_cases c:lo<hi
  .rw[Of c];let(m,f,r,p):∃m,m=(lo+hi) / 2/\lo<=m/\m<hi:=(_,U,∅,∅,);rw[←f];clear f;let l:m<xs.size:=v5 p d;let u:xs.getD m j=xs[m]:=by simp[Rf,l]
   dsimp only;rw[u];by_cases b:xs[m]<j
   .rw[Of b];calc q _ _ p d ∅ (λi hi' n=>?_) g;by_cases e:i=m
    .subst e;exact b
    .exact CD (h.lt (ym (zz n) e) l) b
   .rw[Oe b];refine q _ _ r (wx l) ∅ k λi hi' o=>?_
    by_cases e:i=m
    .subst e;exact DA b
    .exact vr (DA b)<|wx<|h.lt (ym o λz=>e z.symm) hi'
  .rw[Oe c];let e:lo=hi:=∅
   subst e;calc(d,k,g,)
def jB{xs:Array Nat}(h:Asc xs)(j:Nat):o0 xs j<=xs.size/\(∀(i:Nat)(hi:i<xs.size),i<o0 xs j->xs[i]<j)/\(∀(i:Nat)(hi:i<xs.size),o0 xs j<=i->j<=xs[i]) :=
 zM h j xs.size 0 xs.size (v3 _) (vk _) ∅ (λ_ _ z=>Og z ∅) (λi hi z=>Og z ∅)
def vn{xs:Array Nat}(h:Asc xs){i:Nat}(hi:i<xs.size):o0 xs (xs[i]+1)=i+1:=by
 let(d,b2,a):=jB h<|xs[i]+1;let c:¬ o0 xs (xs[i]+1)<=i:=λz=>Og (a i hi z) ∅
 let b:¬ i+1<o0 xs (xs[i]+1):=λz=>by
  let:=b2 (i+1) ∅ z;let:=h.lt (show i<i+1 by lia) (show i+1<xs.size by lia);lia
 lia
def sO{xs:Array Nat}(h:Asc xs):o0 xs 0=0:=by
 let(b,b2,a):=jB h 0;by_cases z:o0 xs 0=0
 .exact z
 .exact Og (b2 0 ∅ ∅) ∅
def vo{xs:Array Nat}(h:Asc xs){j:Nat}(m:xs[o0 xs j]?≠N8 j):Asc (MP.insertAt xs (o0 xs j) j):=by
 let(r,b2,g):=jB h j;unfold Asc;rw[MP.toList_insertAt,List.pairwise_append];refine(h.sublist<|nL _ _,nI.mpr (λb f=>?_,h.sublist<|rz _ _,),λa n b f=>?_,)
 .let(k,d,rfl):=lp.mp f;let c:o0 xs j+k<xs.size:=by simp at d;lia
  let z:=g _ c ∅;let e:(xs.toList.drop<|o0 xs j)[k]=xs[o0 xs j+k]:=by simp
  rw[e];by_cases q:j=xs[o0 xs j+k]
  .exfalso;by_cases l:k=0
   .subst l;calc m ?_;rw[Gk ∅];simpa using q.symm
   .let p:=g _ (show o0 xs j<xs.size by lia) (vk _);let o:=h.lt (show o0 xs j<o0 xs j+k by lia) c;lia
  .lia
 .let i:a<j:=by
   let(k,d,rfl):=lp.mp n;let c:k<o0 xs j/\k<xs.size:=by simp at d;lia
   let:=b2 k c.2 c.1;simpa using this
  rcases af.mp f with rfl|f
  .exact i
  .let(k,d,rfl):=lp.mp f;let c:o0 xs j+k<xs.size:=by simp at d;lia
   let z:=g _ c ∅;let e:(xs.toList.drop<|o0 xs j)[k]=xs[o0 xs j+k]:=by simp
   rw[e];lia
def  sP(t:MP)(j:Nat):Prop:=t.place[o0 t.place j]?≠N8 j
def nK{t:MP}{j:Nat}(h:t.slot j=.empty\/t.slot j=.dummy):sP t j:=by
 intro e;let:t.slot j=.live (o0 t.place j):=by
  unfold MP.slot;simp[e]
 rw[this]at h;rcases h with h|h <;> cases h
def vp(t:MP)(f:Nat->Int)(h:Int):∀(a:Nat)(p:MP.Probe),(∀d,p.dummy=N8 d->sP t d)->∀j b,Qv t f h a p=N8 (.empty j b)->sP t j/\∀d,b=N8 d->sP t d:=by
 intro a;induction a with
 |zero=>intro p _ j b e;unfold Qv at e;cases e
 |succ a g =>
  intro p i j b e;unfold Qv at e;let c:∀q:MP.Probe,(t.advance q).dummy=q.dummy:=λq=>by
   unfold MP.advance;split <;> rfl
  split at e
  .rename_i he
   injection e with e;injection e with l k;subst l k;exact(nK<|.inl he,i,)
  .rename_i he
   calc g _ (λd hd=>?_) j b e;rw[c]at hd;injection hd with hd;subst hd;exact nK<|.inr he
  .split at e
   .injection e with e;cases e
   .refine g _ (λd hd=>i d ?_) j b e;rw[c]at hd;calc hd
def pJ{t:MP}{h:Int}{j:Nat}{b:Bool}(e:t.freeSlot h=N8 (j,b)):sP t j:=by
 unfold MP.freeSlot at e;split at e
 .rename_i j' dm he
  let(f,c):=vp t _ h _ _ (λd hd=>by simp[MP.probeStart]at hd) _ _ he;injection e with e;injection e with a g;subst a;cases dm with
  |none=>exact f
  |some d=>exact c d U
 .cases e
def xY(n:Nat):Asc (Array.range n):=by
 unfold Asc;rw[Array.toList_range];calc pf
def fD(t:MP)(n:Nat):Asc (t.standIn n).place:=xY n
def vq{t:MP}(c:Asc t.place)(a:Array (Int×Kd))(h:Int)(x:Kd):Asc (MQ t a h x).2.1.place/\(MQ t a h x).2.1.led=t.led:=by
 unfold MQ;split
 .rename_i slot wd e
  let b:Asc (t.put slot).1.place:=vo c<|pJ e;dsimp only;unfold MP.orStandIn;split
  .exact(b,U,)
  .exact(fD _ _,U,)
 .exact(fD _ _,U,)
def sQ(f:Nat->Option Nat):∀l:Oo Nat,((l.filterMap λj=>(f j).map (j,·)).map (·.1)).Sublist l
 | []=>by simp
 |j :: l=>by
  let a:=sQ f l;rw[lP];cases e:f j with
  |none=>exact a.trans (List.sublist_cons_self _ _)
  |some v=>calc a.cons_cons j
def vw{t t':MP}{b:Array Int}{n:Nat}{o:Array Nat}(e:t.relaid b n=N8 (t',o)):Asc t'.place/\t'.led=t.led:=by
 unfold MP.relaid MP.laid at e;cases hc:MP.layClean (MP.sizeAbove n-1) b with
 |none=>rw[hc]at e;cases e
 |some a =>
  rw[hc]at e;injection e with e;injection e with c d;subst c;calc(pf.sublist<|sQ _ _,U,)
def rg{t:MP}(b:Asc t.place)(a:Array (Int×Kd))(n:Nat):Asc (MR t a n).2.1.place/\(MR t a n).2.1.led=t.led:=by
 unfold MR;split
 .rename_i t' o e
  dsimp only;split
  .exact vw e
  .exact(fD _ _,U,)
 .exact(fD _ _,U,)
def fM{α:Type}:∀{l:Oo α}{i:Nat}{x:α},l[i]?=N8 x->(x :: l.eraseIdx i).Perm l
 | [],i,x,h=>by simp at h
 |a :: l,0,x,h=>by simp at h;subst h;exact .refl _
 |a :: l,i+1,x,h=>by
  let b:=fM (l:=l) (i:=i) (x:=x)<|~~~h;rw[List.eraseIdx_cons_succ];calc(List.Perm.swap _ _ _).trans (b.cons a)
def Bw{α:Type}(next:Nat->Nat):∀(a k:Nat)(left:Oo α)(out:Array α),a=⇑left->∃l:Oo α,l.Perm left/\(MS.go next a k left out).toList=out.toList++l:=by
 intro a;induction a with
 |zero =>
  intro k left out e;exact(left,.refl _,by unfold MS.go;rw[QD.mp e.symm];simp,)
 |succ a d =>
  intro k left out e;let b:next k%⇑left<⇑left:=Nat.mod_lt _ ∅;let c:left[next k%⇑left]?=N8 left[next k%⇑left]:=JP b;unfold MS.go;rw[c];dsimp only;let(l,p,f):=d (k+1) (left.eraseIdx<|next k%⇑left) (out.push left[next k%⇑left]) (by rw[Qi b];lia);calc(left[next k%⇑left] :: l,(p.cons _).trans<|fM c,by rw[f];simp,)
def xZ{α:Type}(next:Nat->Nat)(xs:Array α):(MS next xs).toList.Perm xs.toList:=by
 let(l,p,e):=Bw next xs.size 0 xs.toList #[] (by simp);let:(MS next xs).toList=l:=by unfold MS;rw[e];simp
 rw[this];calc p
def  dP(w:Ke):Bool:=w.params.followText "set-order"
def  fk:Kd->Int
 | .int k _=>k
 |_=>0
structure ig(es:Array (Int×Kd))(ks:Oo Int):Prop where
 ent:∀e∈es.toList,e.1=hashInt (fk e.2)/\∃u,e.2=.int (fk e.2) u
 nd:(es.toList.map λe=>fk e.2).Nodup
 mem:∀k,k∈ks↔k∈es.toList.map λe=>fk e.2
def ig.perm{b a:Array (Int×Kd)}{ks:Oo Int}(h:ig b ks)(p:a.toList.Perm b.toList):ig a ks :=
 (λe c=>h.ent e<|p.mem_iff.mp c,(p.map _).nodup_iff.mpr h.nd,λk=>(h.mem k).trans (p.map _).mem_iff.symm,)
def ig.push{d:Array (Int×Kd)}{ks:Oo Int}{k:Int}{u:Tok}(h:ig d ks)(f:k ∉ ks):ig (d.push (hashInt k,.int k u)) (ks++[k]):=by
 refine(λe c=>?_,?_,λq=>?_,)
 .rw[GX]at c;rcases iH.mp c with c|c
  .exact h.ent e c
  .rw[fo]at c;subst c;exact(U,u,U,)
 .rw[GX,fj,o3];refine(h.nd,by simp,λa i b g=>?_,);let j:b=k:=by simpa[fk]using g
  subst j;exact λe=>f<|(h.mem b).mpr<|e ▸ i
 .rw[GX,fj,iH,iH,h.mem q];simp[fk]
def ig.again{a:Array (Int×Kd)}{ks:Oo Int}{k:Int}(h:ig a ks)(b:k∈ks):ig a (ks++[k]) :=
 (h.ent,h.nd,λq=>by
  rw[←h.mem q,iH,fo];exact(λz=>z.elim id λz=>z ▸ b,.inl,),)
def ig.elems{b:Array (Int×Kd)}{ks:Oo Int}(h:ig b ks):ElemsOf (Kn prog w) b.toList:=λe c=>by
 let(d,u,a):=h.ent e c;refine((fk e.2,?_,d,),?_,)
 .rw[a];exact MT _ _ _ _
 .rw[a];rfl
def ig.found{b:Array (Int×Kd)}{ks:Oo Int}(h:ig b ks){k:Int}{e:Int×Kd}(a:e∈b.toList)(c:(Kn prog w).is k e.2=Oa):k∈ks:=by
 let(_,u,d):=h.ent e a;calc(h.mem k).mpr (br.mpr (e,a,?_,));calc(Kn prog w).inj e.2 _ _ (by rw[d];exact MT _ _ _ _) c
def  dM(h:Kj)(a:Ki)(led:Bool)(ks:Oo Int)(n:Nat):Prop :=
 ∃o b c t,h.get? a=N8 o/\o.ExactSet/\o.data=.set b c t/\ig b ks/\b.size<MH/\t.fits b.size=Oa/\Asc t.place/\t.led=led/\b.size=n
def dM.stay{h h':Kj}{a:Ki}{led:Bool}{ks:Oo Int}{n:Nat}(x:dM h a led ks n)(k:∀o,h.get? a=N8 o->h'.get? a=N8 o):dM h' a led ks n:=by
 let(o,c,d,t,b,r):=x;calc(o,c,d,t,k o b,r,)
def dM.store{h:Kj}{a:Ki}{o:Obj}{l:Array (Int×Kd)}{c:Nat}{t:MP}(f:h.get? a=N8 o)(d:o.ExactSet)(hd:o.data=.set l c t)
  {b:Array (Int×Kd)}{t':MP}{ks:Oo Int}(i:ig b ks)(j:b.size<MH)(g:t'.fits b.size=Oa)(k:Asc t'.place) :
  (h.update a<|PB b t').get? a=N8 { o with data:=.set b (c+1) t' }/\dM (h.update a<|PB b t') a t'.led ks b.size:=by
 let e:(h.update a<|PB b t').get? a=N8 { o with data:=.set b (c+1) t' }:=by
  let:=pc (PB b t') f (by rw[putSet_of b t' hd];rfl);rw[putSet_of b t' hd]at this;exact this
 calc(e,_,b,c+1,t',e,d,U,i,j,g,k,U,U,)
def sR{g:Bool->Sem Unit}(H:∀(b:Bool)(e:Ks)(D:Unit->Ks->Prop),D () e->Kw (model prog w) A (g b) D E e)
  {a:Ki}{o:Obj}{I:Array (Int×Kd)}{J:Nat}{t:MP}(C:s.heap.get? a=N8 o)(p:o.ExactSet)(hd:o.data=.set I J t)
  {c:Array (Int×Kd)}{d:MP}{ks:Oo Int}{led:Bool}(q:ig c ks)
  (j:c.size<MH)(B:d.fits c.size=Oa)(u:Asc d.place)(n:d.led=led){G:Bool}{R:Option Bool->Ks->Prop}
  (h:∀h',rc a s.heap h'->dM h' a led ks c.size->R (N8 Oa) { s with heap:=h' }) :
  Kw (model prog w) A (do
    storeSet a c d
    if (!G && d.tooFull)=Oa then do
      g (MR d c<|Pu c.size).2.2
      storeSet a (MR d c<|Pu c.size).1 (MR d c<|Pu c.size).2.1
      pure (N8 Oa)
     else pure (N8 Oa)) R E s:=by
 calc JZ<|MU C hd ?_<|MV j;let(m,x):=dM.store C p hd q j B u;rw[n]at x;let F:=v4 s.heap a<|PB c d;split
 .let z:=relayAll_perm d c<|Pu c.size;let i:=relayAll_fits d c<|Pu c.size;let(k,f):=rg u c<|Pu c.size;generalize K:MR d c (Pu c.size)=Rl at z i k f⊢;let(y,L,M):=Rl;dsimp only at z i k f⊢;let l:y.size=c.size:=by rw[←FV,z.length_eq,FV]
  let r:y.size<MH:=by rw[l];exact j
  calc JZ<|H _ _ _ ?_;calc JZ<|MU m U ?_<|MV r;let(_,v):=dM.store m p U (q.perm z) r i k;rw[l,f,n]at v;exact Ka<|h _ (F.trans<|v4 _ a _) v
 .exact Ka<|h _ F x
def addW{a:Ki}{led:Bool}{ks:Oo Int}{n:Nat}{k:Int}{u:Tok}{Q:Bool->Ks->Prop}(hS:dM s.heap a led ks n)(X:n+1<MH)
  (h:∀h' R b,rc a s.heap h'->R<=n+1->dM h' a led (ks++[k]) R->Q b { s with heap:=h' }) :
  Kw (model prog w) A (setAddHashed a (.int k u)<|(Kn prog w).hash k) Q E s:=by
 let(o,p,ep,t,B,r,hd,x,T,M,V,I,J):=hS;let Y:(Kn prog w).is k (.int k u)=true:=MT _ _ _ _;let D:(Qu k u).scannable=true:=rfl;let F:=x.elems (prog:=prog) (w:=w);let a0:p.size+1<MH:=by rw[J];exact X
 unfold setAddHashed setAddHashedIn;calc Kb<|JZ<|MW B hd M ?_;dsimp only;rw[byScan_of D T F];simp only[↓reduceIte];unfold setAddByScan;calc JZ ?_;calc JZ<|MD ?_;calc JZ<|wpAny_setScan_of Y B hd M F ?_;cases hr:List.findIdx? (λe=>(Kn prog w).is k e.2) p.toList with
 |some j =>
  dsimp only;let(Z,N,_):=Os.mp hr;let K:k∈ks:=x.found (OC Z) N;calc Ka<|Ka ?_;let e:s={ s with heap:=s.heap }:=by cases s;rfl
  rw[e];exact h s.heap n Ob (QJ a s.heap) (w5 _) (o,p,ep,t,B,r,hd,x.again K,T,M,V,I,J,)
 |none =>
  dsimp only;let K:k ∉ ks:=λz=>by
   let(e,S,q):=br.mp<|(x.mem k).mp z;let:=List.findIdx?_eq_none_iff.mp hr e S;let(_,v,h2):=x.ent e S;rw[h2]at this;rw[←q]at this;rw[MT]at this;exact Bool.noConfusion this
  let O:∀(b:Bool){c:Ks}{C:Unit->Ks->Prop},C () c->Kw (model prog w) A (match b with|true=>rule "set.scan.the-table-gave-way" | false=>pure ()) C E c :=
   λb c C m=>by cases b <;> first|exact Ka m|exact MD m
  let H:=layNew_perm t p ((Kn prog w).hash k)<|.int k u;let y:=layNew_fits t p ((Kn prog w).hash k)<|.int k u;let(i,f):=vq V p ((Kn prog w).hash k)<|.int k u;generalize hL:MQ t p ((Kn prog w).hash k) (.int k u)=L at H y i f⊢;let(l,t1,sS,Jz):=L;dsimp only at H y i f⊢;let G:ig l (ks++[k]):=(x.push (u:=u) K).perm H;let GN:l.size=n+1:=by rw[←FV,H.length_eq,FV,Array.size_push,J]
  let W:l.size<MH:=by rw[GN];exact X
  calc JZ<|O _ ?_;let P:∀h',rc a s.heap h'->dM h' a led (ks++[k]) l.size->Q Oa { s with heap:=h' }:=λh' d g=>h h' _ Oa d ∅ g
  split
  .refine JZ ?_;rw[hashByValue_scannable 8 D];calc Ka ?_;refine sR ?_ B r hd G W ?_ ?_ (led:=led) ?_ ?_
   .intro b c C m;cases b <;> first|exact Ka m|exact MD m
   .split
    .exact y
    .exact MP.fits_plain_off y
   .split
    .exact i
    .exact i
   .split
    .exact f.trans I
    .exact f.trans I
   .intro h' d g;dsimp only;exact Ka<|P h' d g
  .refine JZ<|Ka ?_;simp only[↓reduceIte];refine sR ?_ B r hd G W y i (f.trans I) ?_
   .intro b c C m;cases b <;> first|exact Ka m|exact MD m
   .intro h' d g;dsimp only;calc Ka<|P h' d g
def vy(a:Kd){Q₁:Kd->Ks->Prop}
  (h:Q₁ (.ref ↥s) { s with heap:=s.heap.push { cls:=.type "set",dict:=N9,data:=.set #[] 0 (.fresh 0 0<|!dP w) } }) :
  Lu (model prog w) A (.call (.builtin "set.__new__") ([.type "set",a],[],)) (wants Q₁ E) s:=by
 calc MN ?_;show Kw _ A.in1 (do Mv "set.__new__" ([.type "set",a],[],);again (.builtin "set.__new__" ([.type "set",a],[],))) _ _ s;calc JZ<|Mx (F.newCall_set_1 a)<|Ka (MK F.plain_set_new _,Mu F.entry_set_new ?_,);rw[lm F.plain_set_new _];unfold Le.«set.__new__» Le.Frozenset.newClass;let e:=sub_set_self;let(f,g,d,b,c):=s;dsimp only
 wp_walk
 calc MX<|Ka ?_;dsimp only;simp only[newObj];calc JZ<|wpAny_alloc<|Ka ?_;calc Ka h
def DH{R:Lq->Ks->Prop}{I:Ki}{fp h:Oo Ki}{G:Array Ku->Array Ku->Prop}{n:Nat}{P:Nat->Kd->Prop}{St:Nat->Ks->Prop}(W:MG prog w A.in1 I fp h G n P St){a:Ki}(J:a ∉ fp){ks:Oo Int}{led:Bool}
  (S:∀i v,P i v->∃k u,ks[i]?=N8 k/\v=.int k u)(g:n+1<MH):∀(d i:Nat)(s:Ks)(m:Nat),n=i+d->m<=i->St i s->dM s.heap a led (ks.take i) m ->
   (∀s' D,MI (a :: h) G s s'->dM s'.heap a led (ks.take n) D->D<=n->R (.ok<|.ret .none) s')->Lu (model prog w) A (.builtin "set.update.loop" ([.ref a,.ref I],[],)) R s:=by
 let E:a ∉ h:=λz=>J<|W.sub a z
 intro d;induction d with
 |zero =>
  intro i s m e H j x fin;rw[show n=i by lia]at W fin;calc Mu (R:=R) (A:=A) Ov ?_;rw[lm (A:=A) ww _];show Kw (model prog w) A.in1 (K2 (.ref I) >>= _) _ _ s;exact JZ<|W.done s _ _ j λs' f=>Ka<|fin s' m (f.mono λb g=>dy a g) (x.stay λo q=>f.heap a o E q) H
 |succ d Q =>
  intro i s m e H j x fin;calc Mu (R:=R) (A:=A) Ov ?_;rw[lm (A:=A) ww _];show Kw (model prog w) A.in1 (K2 (.ref I) >>= _) _ _ s;calc JZ<|W.item i s _ _ ∅ j λv c p l f=>?_;let(k,u,V,rfl):=S i v p;let M:=x.stay λo q=>f.heap a o E q
  show Kw (model prog w) A.in1 (holding [.int k u] (MJ a<|.int k u) >>= _) _ _ c;refine JZ<|Kb (show Kw (model prog w) A.in1 (MJ a<|.int k u) _ _ c from ?_);unfold MJ;calc Kb<|JZ<|(Kn prog w).pyHash (k:=k) (MT _ _ _ _) ?_;refine addW (s:={ c with toks:=c.toks+1 }) M ∅ λK N _ sb X C=>?_
  let T:ks.take (i+1)=ks.take i++[k]:=by rw[nF,V];rfl
  rw[←T]at C;calc Ka (MK ww _,Q (i+1) { c with heap:=K,toks:=c.toks+1 } N ∅ ∅ (W.frame (i+1) c K (c.toks+1) l (w5 _) λb B o q=>(sb.2 b λz=>J<|z ▸ B).trans q) C λs2 O r L t=>?_,);calc fin s2 O (MI.trans W.gtrans ((f.mono λb g=>dy a g).then_heap (w5 _) λb o y q=>?_) r) L t;calc(sb.2 b λz=>y<|z ▸ cf).trans q
def DI{l:Ki}{items:Array Kd}{ks:Oo Int}(J:A.handled=N9)(H:s.heap.IsList l items)(I:∀(i:Nat)(v:Kd),items[i]?=N8 v->∃k u,ks[i]?=N8 k/\v=.int k u)(G:⇑ks=items.size)(K:items.size+1<MH) :
  Lu (model prog w) A (.call (.builtin "set.__init__") ([.ref ↥s,.ref l],[],)) (wants (λr s2=>r=.none/\∃h' j m,s2={ s with heap:=h',toks:=j }/\dM h' ↥s (!dP w) ks m/\m<=⇑ks/\∀b o,b<↥s->s.heap.get? b=N8 o->h'.get? b=N8 o) E) { s with heap:=s.heap.push (dg<|!dP w) }:=by
 let h:(s.heap.push<|dg<|!dP w).get? ↥s=N8 (dg<|!dP w):=bn s.heap U;let ty:Ot { s with heap:=s.heap.push (dg<|!dP w) } (.ref ↥s) "set" := (dg<|!dP w,h,U,);calc Mr sw.init.plain F.entry_set_init<|ML ty ?_;let((Y,Q,X,P),f,g,m,hd):=H;dsimp only at g hd;subst g hd;let M:(s.heap.push<|dg<|!dP w).get? l=N8 { cls:=.type "list",dict:=Q,data:=.seq items m,slots:=P }:=am _ f;let V:=F.sub_list_set;let T:=Rx;let S:(xz "list" == xz "dict")=false:=⋯
 let e:(s.heap.push<|dg<|!dP w).IsList l items:=(_,M,U,m,U,);let lt:l<↥s:=bi f;let p:dM (s.heap.push<|dg<|!dP w) ↥s (!dP w) [] 0:=(_,#[],0,_,h,(U,U,U,),U,(by simp,by simp,by simp,),by unfold MH;decide,U,Pe,U,U,);unfold Le.«set.__init__» PU noKeywords;generalize L:K4=it;generalize W:dP w=bt at *
 wp_walk
 subst L;calc Lc e<|JZ<|MM ?_;let B:l≠(s.heap.push<|dg<|!bt).objs.size:=by rw[ln];exact vl<|wI lt
 let C:↥s ∉ [(s.heap.push<|dg<|!bt).objs.size,l]:=by
  rw[ln];intro z;rcases af.mp z with z|z
  .exact Og z<|vl<|yl _
  .exact Og (~~~z)<|wz lt
 refine DH ((QT (by simp[J]) _ l B items).toS) C (ks:=ks) (led:=!bt) I K items.size 0 _ 0 (yP _).symm (vk _) ((_,bn _ U,U,U,),e.push _,) (p.stay λo q=>am _ q) λt D c x R=>?_
 let(h',N,O,n,y):=t;obtain rfl:N=s.gens:=c.gens;obtain rfl:O=s.drawn:=c.drawn;obtain rfl:y=s.os:=c.os;refine Ka (show Kw (model prog w) _ (ret lv) _ _ _ from Ka (U,h',n,D,U,?_,∅,λb o a q=>?_,))
 .rw[←G,fm]at x;exact x
 .refine c.heap b o (λz=>?_)<|am _<|am _ q;rcases af.mp z with z|z
  .exact Og z<|vl a
  .let d:b=(s.heap.push<|dg<|!bt).objs.size:= ~~~z
   rw[ln]at d;exact Og d (vl<|wI a)
set_option maxRecDepth 100000 in
def ya{l:Ki}{items:Array Kd}{ks:Oo Int}{Q:Kd->Ks->Prop}(B:A.handled=N9)(y:s.heap.IsList l items)(z:∀(i:Nat)(v:Kd),items[i]?=N8 v->∃k u,ks[i]?=N8 k/\v=.int k u)(q:⇑ks=items.size)(C:items.size+1<MH)
  (h:∀h' d m,dM h' ↥s (!dP w) ks m->m<=⇑ks->(∀b o,b<↥s->s.heap.get? b=N8 o->h'.get? b=N8 o)->Q (.ref ↥s) { s with heap:=h',toks:=d }):Kw (model prog w) A (call (.type "set") [.ref l]) Q E s:=by
 let(c,tl,mro):=sw.mro;let N:=sw.made;let M:=sw.sub;let L:=sw.notType;let K:=sw.canCreate;let J:=F.typeCall_set_1<|.ref l;refine LD<|MN (show Kw (model prog w) _ (callAny (.type "set") _) _ _ _ from Ka (P8 _<|~~~0,Mu F.entry_type_call ?_,));rw[Kr.under_plain (A:=A) (MO "set" [.ref l] []) U]
 repeat (any_goals (first|assumption|wp_step))
 refine LF (vy (.ref l) (E:=E) (Q₁:=λj g=>j=.ref ↥s/\g={ s with heap:=s.heap.push (dg<|!dP w) }) (U,U,)) λr g f=>?_
 cases r with
 |error e=>exact f
 |ok G =>
  cases G with
  |ret j =>
   let(rfl,rfl):=f;let D:(s.heap.push<|dg<|!dP w).get? ↥s=N8 (dg<|!dP w):=bn s.heap U;let ty:Ot { s with heap:=s.heap.push (dg<|!dP w) } (.ref ↥s) "set" := (dg<|!dP w,D,U,);let I:=sw.init.lookup;let b2:=sw.init.bind<|.ref ↥s
   repeat (any_goals (first|assumption|wp_step))
   refine LF (DI (E:=E) (by simp[B]) y z q C) λn s2 a=>?_
   cases n with
   |error e=>exact a
   |ok H =>
    cases H with
    |ret r =>
     let(rfl,h',d,m,rfl,x,t,p):=a
     repeat (any_goals (first|assumption|wp_step))
     exact h h' d m x t p
    |_=>exact a.elim
  |_=>exact f.elim
set_option maxRecDepth 100000
def aO:Slot "set_iterator" "__next__" "set_iterator.__next__" :=
 .of (owner := "set_iterator") (n := "__next__") (by rw[MY,MZ];kernel_rfl) (~~~0) (~~~0) (~~~0)
  (by first|exact .inl (~~~0)|exact .inr (~~~0)) (by rw[M0];kernel_rfl)
def gK:Slot "set_iterator" "__iter__" "set_iterator.__iter__" :=
 .of (owner := "set_iterator") (n := "__iter__") (by rw[MY,MZ];kernel_rfl) (~~~0) (~~~0) (~~~0)
  (by first|exact .inl (~~~0)|exact .inr (~~~0)) (by rw[M0];kernel_rfl)
def cQ:M3 table "set_iterator.__next__" = N8 Le.«set_iterator.__next__»:=M4 (by kernel_rfl)
def lr:M3 table "set_iterator.__iter__" = N8 Le.«dict_keyiterator.__iter__» :=
 M5 (id' := "dict_keyiterator.__iter__") (by kernel_rfl) U (~~~0) (by kernel_rfl)
def nM:M3 table "set.__iter__" = N8 Le.«frozenset.__iter__» :=
 M5 (id' := "frozenset.__iter__") (by kernel_rfl) U (~~~0) (by kernel_rfl)
def dc(a:Kd):Mw "set_iterator.__next__" ([a],[],):=by unfold Mw;kernel_rfl
def mC(a:Kd):Mw "set_iterator.__iter__" ([a],[],):=by unfold Mw;kernel_rfl
abbrev eW(first:Kd)(i:Int)(s:Kd)(n a:Nat):Obj:={ cls:=.type "set_iterator",data:=.fields #[first,.int i 0,s,.int n 0,.int a 0] }
def rh{a:Source}{n:Nat}{Q:Nat->Ks->Prop}(b:n≠0)(h:Q (w.draws a (s.drawn.get a)%n) { s with drawn:=s.drawn.bump a }) :
  Kw (model prog w) A (choose a n) Q E s:=λ_ _ _=>(b,h,)
def nN{α:Type}:∀(n:Nat)(xs:Oo α)(s:Ks){Q:Oo α->Ks->Prop},n=⇑xs->(∀ys d,ys.Perm xs->Q ys { s with drawn:=d })->Kw (model prog w) A (M6 n xs) Q E s:=by
 intro n;induction n with
 |zero =>
  intro xs s Q e h;let:xs=[]:=QD.mp e.symm;subst this;unfold M6;exact Ka<|h [] s.drawn (.refl _)
 |succ n c =>
  intro xs s Q e h;cases xs with
  |nil=>simp at e
  |cons x r =>
   unfold M6;refine JZ (rh (by simp) ?_);generalize hi:w.draws Source.order (s.drawn.get Source.order)%⇑(x :: r)=i;let a:i<⇑(x :: r):=by rw[←hi];exact Nat.mod_lt _ (by simp)
   let b:(x :: r)[i]?=N8 (x :: r)[i]:=JP a;rw[b]
   try dsimp only
   refine JZ (c _ _ (by rw[Qi a];lia) λys d p=>Ka ?_);calc h _ d<|(p.cons _).trans<|fM b
def yb{I a:Ki}{b i:Nat}{o:Obj}{c:Array (Int×Kd)}{d:Nat}{t:MP}{Q:Option Kd->Ks->Prop}
  (e:s.heap.get? I=N8 (eW (.int b 0) i (.ref a) c.size d))(k:s.heap.get? a=N8 o)(hd:o.data=.set c d t)(l:t.fits c.size=Oa)
  {x:Kd}{nx:Nat}(p:∀(j:Option (Kd×Nat)->Ks->Prop) E',j (N8 (x,nx)) s->Kw (model prog w) A.in1 (M7 a b i d) j E' s)
  (n:∀h',h'.get? I=N8 (eW (.int nx 0) ((i+1:Nat):Int) (.ref a) c.size d)->rc I s.heap h'->Q (N8 x) { s with heap:=h' }) :
  Kw (model prog w) A (K2<|.ref I) Q E s:=by
 let h:s.TypeIs (.ref I) "set_iterator" := (_,e,U,);unfold K2;calc JZ<|MA<|LS (name:=s!"__next__") h aO<|LU aO h cQ ?_<|dc _;unfold Le.«set_iterator.__next__»;calc JZ (m:=MC "__next__" 0 _)<|Ka ?_;refine JZ<|M8 e U ?_
 try dsimp only
 calc JZ<|M9 k hd l ?_;rw[Oe (by simp)]
 try dsimp only
 simp only[JS];refine JZ<|p _ _ ?_
 try dsimp only
 refine JZ (Na e (by simp) λr v g=>?_);refine JZ (Na (s:={ s with heap:=r }) v (by simp) λq u f=>?_);calc Ka (x,U,Ka<|n q ?_<|g.trans f,);rw[u];simp[eW,K5]
def yc{I a:Ki}{c i:Nat}{o:Obj}{e:Array (Int×Kd)}{f:Nat}{t:MP}{Q:Option Kd->Ks->Prop}(k:A.handled=N9)
  (d:s.heap.get? I=N8 (eW (.int c 0) i (.ref a) e.size f))(j:s.heap.get? a=N8 o)(hd:o.data=.set e f t)(l:t.fits e.size=Oa)
  (p:∀(h:Option (Kd×Nat)->Ks->Prop) E',h N9 s->Kw (model prog w) A.in1 (M7 a c i f) h E' s)
  (n:∀h',QK I s.heap h'->Q N9 { s with heap:=h' }) :
  Kw (model prog w) A (K2<|.ref I) Q E s:=by
 let g:s.TypeIs (.ref I) "set_iterator" := (_,d,U,);unfold K2;calc JZ<|MA<|LS (name:=s!"__next__") g aO<|LU aO g cQ ?_<|dc _;unfold Le.«set_iterator.__next__»;calc JZ (m:=MC "__next__" 0 _)<|Ka ?_;refine JZ<|M8 d U ?_
 try dsimp only
 calc JZ<|M9 j hd l ?_;rw[Oe (by simp)]
 try dsimp only
 simp only[JS];refine JZ<|p _ _ ?_
 try dsimp only
 refine JZ (Mo d U (by simp) ?_);show Kw _ _ (Nb (.type "StopIteration") [] >>= _) _ _ _;calc JZ ?_;simp only[Nb,Nc];refine JZ (LX ?_ (by size_fits));refine JZ (m:=Nd _ _) (Mx (a:=lv) (by first|rfl|(simp only[Nd];rfl)) ?_);refine LX ?_ (by size_fits);simp only[Nf];calc JZ<|Ng ?_;rw[show A.in1.handled=N9 from k];calc JZ<|Ka<|Nh ?_;calc JZ<|Ni (T := "StopIteration") (b:=Oa) (_,bn _ U,U,) Nj ?_;calc Ka<|n _<|((v4 ..).extBut.push _).push _
def vz{I a tp:Ki}{i:Nat}{o:Obj}{b:Array (Int×Kd)}{d:Nat}{t:MP}{places:Oo Nat}{m:Nat}{to:Obj}{Q:Option Kd->Ks->Prop}
  (c:s.heap.get? I=N8 (eW (.ref tp) i (.ref a) b.size d))(l:s.heap.get? tp=N8 to)(g:to.data=.seq (places.map λ(p:Nat)=>K5 p).toArray m)(h:s.heap.get? a=N8 o)(hd:o.data=.set b d t)(j:t.fits b.size=Oa)
  {p:Nat}(n:places[i]?=N8 p){e:Int×Kd}(q:b[p]?=N8 e)
  (r:∀h',h'.get? I=N8 (eW (.ref tp) ((i+1:Nat):Int) (.ref a) b.size d)->rc I s.heap h'->Q (N8 e.2) { s with heap:=h' }) :
  Kw (model prog w) A (K2<|.ref I) Q E s:=by
 let k:s.TypeIs (.ref I) "set_iterator" := (_,c,U,);unfold K2;calc JZ<|MA<|LS (name:=s!"__next__") k aO<|LU aO k cQ ?_<|dc _;unfold Le.«set_iterator.__next__»;calc JZ (m:=MC "__next__" 0 _)<|Ka ?_;refine JZ<|M8 c U ?_
 try dsimp only
 calc JZ<|M9 h hd j ?_;rw[Oe (by simp)]
 try dsimp only
 refine JZ<|Nk l g ?_
 try dsimp only
 let x:(places.map λ(p:Nat)=>K5 p).toArray[(i:Int).toNat]?=N8 (.int p 0):=by simp[n,K5]
 rw[x]
 try dsimp only
 unfold setNextDrawn;refine JZ<|JZ<|MW h hd j ?_
 try dsimp only
 rw[Oe (by simp)];calc JZ<|Ka ?_;simp only[JS,q];calc Ka ?_;refine JZ (Na c (by simp) λu v f=>?_);calc Ka (e.2,U,Ka<|r u ?_ f,);rw[v];simp[eW,K5]
def nO{I a tp:Ki}{i:Nat}{o:Obj}{d:Array (Int×Kd)}{j:Nat}{t:MP}{places:Oo Nat}{m:Nat}{to:Obj}{Q:Option Kd->Ks->Prop}(n:A.handled=N9)
  (c:s.heap.get? I=N8 (eW (.ref tp) i (.ref a) d.size j))(k:s.heap.get? tp=N8 to)(f:to.data=.seq (places.map λ(p:Nat)=>K5 p).toArray m)(l:s.heap.get? a=N8 o)(hd:o.data=.set d j t)(q:t.fits d.size=Oa)
  (g:places[i]?=N9)(r:∀h',QK I s.heap h'->Q N9 { s with heap:=h' }) :
  Kw (model prog w) A (K2<|.ref I) Q E s:=by
 let h:s.TypeIs (.ref I) "set_iterator" := (_,c,U,);unfold K2;calc JZ<|MA<|LS (name:=s!"__next__") h aO<|LU aO h cQ ?_<|dc _;unfold Le.«set_iterator.__next__»;calc JZ (m:=MC "__next__" 0 _)<|Ka ?_;refine JZ<|M8 c U ?_
 try dsimp only
 calc JZ<|M9 l hd q ?_;rw[Oe (by simp)]
 try dsimp only
 refine JZ<|Nk k f ?_
 try dsimp only
 let x:(places.map λ(p:Nat)=>K5 p).toArray[(i:Int).toNat]?=none:=by simp at g⊢;exact g
 rw[x]
 try dsimp only
 refine JZ (Na c (by simp) λu v e=>?_);refine JZ (Mo (s:={ s with heap:=u }) v U (by simp) ?_);show Kw _ _ (Nb (.type "StopIteration") [] >>= _) _ _ _;calc JZ ?_;simp only[Nb,Nc];refine JZ (LX ?_ (by size_fits));refine JZ (m:=Nd _ _) (Mx (a:=lv) (by first|rfl|(simp only[Nd];rfl)) ?_);refine LX ?_ (by size_fits);simp only[Nf];calc JZ<|Ng ?_;rw[show A.in1.handled=N9 from n];calc JZ<|Ka<|Nh ?_;calc JZ<|Ni (T := "StopIteration") (b:=Oa) (_,bn _ U,U,) Nj ?_;calc Ka<|r _<|((e.trans<|v4 ..).extBut.push _).push _
def nP{I:Ki}{first:Kd}{i:Int}{v:Kd}{n c:Nat}{Q:Kd->Ks->Prop}(b:s.heap.get? I=N8 (eW first i v n c))(h:Q (.ref I) s):Kw (model prog w) A (K4<|.ref I) Q E s:=by
 let a:s.TypeIs (.ref I) "set_iterator" := (_,b,U,);calc Nl a gK<|LU gK a lr ?_<|mC _;show Kw _ _ (ret<|.ref I) _ _ s;calc Ka (_,U,"set_iterator",_,a,aO.lookup,h,)
def ko{a:Ki}{o:Obj}{d:Array (Int×Kd)}{f:Nat}{t:MP}{b i:Nat}(k:dP w=Oa)(g:s.heap.get? a=N8 o)(hd:o.data=.set d f t)(j:t.fits d.size=Oa)
  {Q:Option (Kd×Nat)->Ks->Prop}(h:Q (((MS (w.params.setOrder a f) d)[i]?).map λe=>(e.2,b)) s):Kw (model prog w) A (M7 a b i f) Q E s:=by
 let c:((Nm.mk prog w.params).params.followText "set-order")=true:=k;unfold M7;refine JZ<|MW g hd j ?_
 try dsimp only
 unfold Nn;calc JZ<|JZ<|MX<|Ka ?_;show Kw _ _ (if (Nm.mk prog w.params).params.followText "set-order" = Oa then _ else _) _ _ _;rw[Of c,Oe (by simp)];unfold setWalk;refine JZ<|JZ<|MW g hd j ?_
 try dsimp only
 unfold Nn;calc JZ<|JZ<|MX<|Ka ?_;show Kw _ _ (if (Nm.mk prog w.params).params.followText "set-order" = Oa then _ else _) _ _ _;rw[Of c];calc JZ<|MX<|Ka<|Ka h
def jx{a:Ki}{o:Obj}{c:Array (Int×Kd)}{e:Nat}{t:MP}{b i:Nat}(m:dP w=Ob)(g:s.heap.get? a=N8 o)(hd:o.data=.set c e t)(l:t.fits c.size=Oa)(k:t.led=Oa)(f:(!t.plain && decide (c.size>1))=Ob)
  {Q:Option (Kd×Nat)->Ks->Prop}(h:Q (match c[o0 t.place b]?,t.place[o0 t.place b]? with|some (_,x),N8 j=>N8 (x,j+1)|_,_=>N9) s):Kw (model prog w) A (M7 a b i e) Q E s:=by
 let d:((Nm.mk prog w.params).params.followText "set-order")=false:=m;unfold M7;refine JZ<|MW g hd l ?_
 try dsimp only
 unfold Nn;calc JZ<|JZ<|MX<|Ka ?_;show Kw _ _ (if (Nm.mk prog w.params).params.followText "set-order" = Oa then _ else _) _ _ _;rw[Oe (by rw[d];exact bv)];show Kw _ _ (if (!t.plain && decide (c.size>1))=Oa then _ else _) _ _ _;rw[Oe (by rw[f];exact bv)];show Kw _ _ ((if (!t.led && !c.isEmpty)=Oa then unsupported "set:maker-not-led" else pure ()) >>= _) _ _ _;rw[k,Oe (by simp)];exact JZ (Ka<|Ka h)
set_option maxRecDepth 100000
abbrev sU:Array Ku->Array Ku->Prop:=λg a=>a=g
def qw{I:Ki}{h':Kj}(sb:rc I s.heap h'):MI [I] sU s { s with heap:=h' } :=
 (λb o a e=>(sb.2 b λz=>a<|z ▸ cf).trans e,U,U,U,vk _,)
def qx{I:Ki}{h':Kj}(sb:QK I s.heap h'):MI [I] sU s { s with heap:=h' } :=
 (λb o a e=>sb b o (λz=>a<|z ▸ cf) e,U,U,U,vk _,)
def nQ(B:A.handled=N9){I a:Ki}(n:a≠I){o:Obj}{f:Array (Int×Kd)}{m:Nat}{t:MP}(hd:o.data=.set f m t)(p:t.fits f.size=Oa){d:Oo Kd}(z:⇑d=f.size)(j:Nat->Nat)
  (C:∀(i:Nat)(x:Kd)(s:Ks)(e:Option (Kd×Nat)->Ks->Prop) h,s.heap.get? a=N8 o->d[i]?=N8 x->e (N8 (x,j<|i+1)) s->Kw (model prog w) A.in1 (M7 a (j i) i m) e h s)
  (D:∀(s:Ks)(e:Option (Kd×Nat)->Ks->Prop) h,s.heap.get? a=N8 o->e N9 s->Kw (model prog w) A.in1 (M7 a (j f.size) f.size m) e h s) :
  MG prog w A I [I,a] [I] sU f.size (λi v=>d[i]?=N8 v) (λi s=>s.heap.get? I=N8 (eW (.int (j i) 0) i (.ref a) f.size m)/\s.heap.get? a=N8 o) where
 sub:=λb r=>by simp at r;simp[r]
 grefl:=λ_=>U
 gtrans:=λ_ _ _ G F=>F.trans G
 frame:=λi s u J c _ k=>(k I (by simp) _ c.1,k a (by simp) _ c.2,)
 item:=λi s Q E hi c l=>by
  let y:d[i]?=N8 d[i]:=JP ∅;refine yb c.1 c.2 hd p (x:=d[i]) (nx:=j<|i+1) (λe h q=>C i _ s e h c.2 y q) λu g sb=>?_
  exact l _ _ y (g,(sb.2 a n).trans c.2,) (qw sb)
 done:=λs Q E c l=>yc B c.1 c.2 hd p (λe h q=>D s e h c.2 q) λu H=>l _ (qx H)
 self:=λi s Q E c l=>nP c.1 l
def sV(B:A.handled=N9){I a tp:Ki}(r:a≠I)(q:tp≠I){o to:Obj}{d:Array (Int×Kd)}{z m:Nat}{t:MP}(hd:o.data=.set d z t)(u:t.fits d.size=Oa){places:Oo Nat}(j:to.data=.seq (places.map λ(p:Nat)=>K5 p).toArray m)
  (G:⇑places=d.size){h:Oo Kd}(F:∀(i:Nat),i<d.size->∃p e,places[i]?=N8 p/\d[p]?=N8 e/\h[i]?=N8 e.2) :
  MG prog w A I [I,a,tp] [I] sU d.size (λi v=>h[i]?=N8 v) (λi s=>s.heap.get? I=N8 (eW (.ref tp) i (.ref a) d.size z)/\s.heap.get? a=N8 o/\s.heap.get? tp=N8 to) where
 sub:=λb x=>by simp at x;simp[x]
 grefl:=λ_=>U
 gtrans:=λ_ _ _ n l=>l.trans n
 frame:=λi s y H c _ k=>(k I (by simp) _ c.1,k a (by simp) _ c.2.1,k tp (by simp) _ c.2.2,)
 item:=λi s Q E hi c f=>by
  let(p,e,n,l,C):=F i hi;refine vz c.1 c.2.2 j c.2.1 hd u n l λy g sb=>?_
  exact f _ _ C (g,(sb.2 a r).trans c.2.1,(sb.2 tp q).trans c.2.2,) (qw sb)
 done:=λs Q E c f=>nO B c.1 c.2.2 j c.2.1 hd u (lY ∅) λy D=>f _ (qx D)
 self:=λi s Q E c f=>nP c.1 f
def zN{a:Ki}{o:Obj}{f:Array (Int×Kd)}{y:Nat}{t:MP}{Q:Kd->Ks->Prop}(B:s.heap.get? a=N8 o)(Y:o.ExactSet)(hd:o.data=.set f y t)(r:f.size<MH)(n:t.fits f.size=Oa)(ha:Asc t.place)(hl:t.led = !dP w)
  (h:∀(I:Ki)(h':Kj)(d:Drawn)(L:Oo Kd)(fp:Oo Ki)(St:Nat->Ks->Prop),(∀b u,s.heap.get? b=N8 u->h'.get? b=N8 u)->L.Perm (f.toList.map (·.2)) ->
   (∀K:Kr,K.handled=N9->MG prog w K I fp [I] sU f.size (λi v=>L[i]?=N8 v) St)->St 0 { s with heap:=h',drawn:=d }->↥s<=I->(∀b∈fp,b=a\/↥s<=b)->Q (.ref I) { s with heap:=h',drawn:=d }) :
  Kw (model prog w) A (K4<|.ref a) Q E s:=by
 let hT:s.TypeIs (.ref a) "set" := (o,B,Y.1,);let la:a<↥s:=bi B;calc Nl hT F.slot_set_iter<|LU F.slot_set_iter hT nM ?_<|F.args_set_iter_1 _;unfold Le.«frozenset.__iter__» Le.Frozenset.slot0;calc JZ<|JZ (m:=MC "__iter__" 0 _)<|Ka ?_;unfold Le.Frozenset.addrOf;calc Ka ?_;unfold Le.Frozenset.sizeOf;calc JZ<|JZ<|M9 B hd n<|Ka ?_;unfold setDrawn;refine JZ<|JZ<|MW B hd n ?_
 try dsimp only
 unfold Nn;calc JZ<|JZ<|MX<|Ka ?_;calc Ka ?_;show Kw _ _ (if (!dP w && (!t.plain && decide (f.size>1)))=Oa then _ else _) _ _ _;let G:⇑f.toList=f.size:=FV;by_cases c:(!dP w && (!t.plain && decide (f.size>1)))=Oa
 .rw[Of c];refine JZ (nN f.size (db f.size) s (by simp) λj d p=>?_);refine JZ<|Np ?_ ?_
  rotate_left
  .rw[aa,p.length_eq,jQ];unfold MH at r;unfold Kk;lia
  generalize M:({ cls:=.type "tuple",data:=.seq (j.map λ(i:Nat)=>K5 i).toArray }:Obj)=to;let gt:(s.heap.push to).get? ↥s=N8 to:=by rw[←M];exact bn _ U
  let ga:(s.heap.push to).get? a=N8 o:=am _ B;calc JZ (m:=setEpoch a)<|Nq (s:={ s with heap:=s.heap.push to,drawn:=d }) ga hd n ?_;refine JZ (LX ?_ (by size_fits));let H:((s.heap.push to).push<|eW (.ref ↥s) (0:Nat) (.ref a) f.size y).get? (s.heap.push to).objs.size=N8 (eW (.ref ↥s) (0:Nat) (.ref a) f.size y):=bn _ U;calc Ka (_,U,"set_iterator",_,(_,H,U,),aO.lookup,?_,);let T:∀i,i<f.size->∃p e,j[i]?=N8 p/\f[p]?=N8 e/\(j.map λp=>(f[p]?.map (·.2)).getD .none)[i]?=N8 e.2:=λi hi=>by
   let O:i<⇑j:=by rw[p.length_eq,jQ];exact hi
   let D:j[i]?=N8 j[i]:=JP O;let lt:j[i]<f.size:=gd.mp<|p.mem_iff.mp<|OC O;let V:f[j[i]]?=N8 f[j[i]]:=Gk lt;exact(j[i],f[j[i]],D,V,by rw[dr,D];simp[V],)
  let qv:(j.map λp=>(f[p]?.map (·.2)).getD lv).Perm (f.toList.map (·.2)):=by
   calc(p.map _).trans (List.Perm.of_eq ?_);apply List.ext_getElem
   .simp
   .intro i h1 h2;simp at h1;simp[h1]
  refine h _ _ d _ [(s.heap.push to).objs.size,a,↥s] _ (λb u e=>am _<|am _ e) qv
   (λK J=>sV J (places:=j) (to:=to) (m:=0) (by rw[ln];exact vl (wI la)) (by rw[ln];exact vl (yl _)) hd n (by rw[←M]) (by rw[p.length_eq,jQ]) T)
   (H,am _ ga,am _ gt,) (by rw[ln];exact w5 _) λb r=>?_
  rcases af.mp r with rfl|r
  .exact .inr (by rw[ln];exact w5 _)
  .rcases af.mp r with rfl|r
   .exact .inl U
   .let:b=↥s:= ~~~r
    exact .inr (by rw[this];exact vk _)
 .rw[Oe c];calc JZ<|Ka ?_;calc JZ (m:=setEpoch a)<|Nq B hd n ?_;refine JZ (LX ?_ (by size_fits));let H:(s.heap.push<|eW (.int (0:Nat) 0) (0:Nat) (.ref a) f.size y).get? ↥s=N8 (eW (.int (0:Nat) 0) (0:Nat) (.ref a) f.size y):=bn _ U;calc Ka (_,U,"set_iterator",_,(_,H,U,),aO.lookup,?_,);let ne:a≠↥s:=vl la;let P:∀b∈[↥s,a],b=a\/↥s<=b:=λb r=>by
   rcases af.mp r with rfl|r
   .exact .inr<|vk _
   .exact .inl<|~~~r
  cases hbt:dP w with
  |true =>
   let pp:=xZ (w.params.setOrder a y) f;let C:⇑((MS (w.params.setOrder a y) f).toList.map (·.2))=f.size:=by rw[aa,pp.length_eq,G]
   refine h _ _ s.drawn ((MS (w.params.setOrder a y) f).toList.map (·.2)) [↥s,a] _ (λb u e=>am _ e) (pp.map _)
    (λK J=>nQ J ne hd n C (λ_=>0) (λi x S W X g l q=>ko hbt g hd n ?_) λS W X g q=>ko hbt g hd n ?_) (H,am _ B,) (vk _) P
   .rw[dr,GO]at l;cases e:(MS (w.params.setOrder a y) f)[i]? with
    |none=>rw[e]at l;cases l
    |some z=>rw[e]at l;injection l with l;subst l;exact q
   .let e:(MS (w.params.setOrder a y) f)[f.size]?=none:=by
     rw[←GO];exact lY (by rw[aa]at C;lia)
    rw[e];exact q
  |false =>
   let N:t.led=true:=by rw[hl,hbt];rfl
   let T:(!t.plain && decide (f.size>1))=false:=by
    rw[hbt]at c;simpa using c
   let a0:t.place.size=f.size:=by
    let:=n;simp only[MP.fits,Iv,beq_iff_eq]at this;exact this.1
   let R:∀i,i<=f.size->o0 t.place (match i with|0=>0|k+1=>t.place.getD k 0+1)=i:=λi hi=>by
    cases i with
    |zero=>exact sO ha
    |succ k =>
     have hk:k<t.place.size:=∅
     have eg:t.place.getD k 0=t.place[k]:=by simp[Rf,hk]
     show o0 t.place (t.place.getD k 0+1)=k+1;rw[eg];exact vn ha hk
   refine h _ _ s.drawn (f.toList.map (·.2)) [↥s,a] _ (λb u e=>am _ e) (.refl _)
    (λK J=>nQ J ne hd n (by rw[aa,G]) (λi=>match i with|0=>0|k+1=>t.place.getD k 0+1) (λi x S W X g l q=>jx hbt g hd n N T ?_) λS W X g q=>jx hbt g hd n N T ?_) (H,am _ B,) (vk _) P
   .let hi:i<f.size:=by
     let(z,_):=JQ.mp l;rw[aa,G]at z;exact z
    rw[R i (wx hi)];let D:f[i]?=N8 f[i]:=Gk hi;let V:t.place[i]?=N8 t.place[i]:=Gk ∅;let e3:x=f[i].2:=by
     rw[dr,GO,D]at l;injection l with l;exact l.symm
    rw[D,V];let e4:t.place.getD i 0=t.place[i]:=by simp[Rf,show i<t.place.size by lia]
    subst e3;let Z:W (N8 (f[i].2,t.place.getD i 0+1)) S:=q;rw[e4]at Z;exact Z
   .rw[R f.size (vk _)];let D:f[f.size]?=none:=Ou<|vk _;rw[D];exact q
set_option maxRecDepth 100000
def yd{a:Oo Kd}{b:Array Kd}{n:Nat}(h:ItemsOf (λi v=>a[i]?=N8 v) b n)(c:⇑a=n):b.toList=a:=by
 apply List.ext_getElem
 .rw[FV,h.1,c]
 .intro i f d;let e:a[i]?=N8 b[i]:=h.2 i b[i] (Gk<|~~~f);rw[JP d]at e;injection e with e;simpa using e.symm
def sW{a:Ki}{o:Obj}{q:Array (Int×Kd)}{ep:Nat}{t:MP}{Q:Oo Kd->Ks->Prop}(hh:A.handled=N9)(S:s.heap.get? a=N8 o)(m:o.ExactSet)(hd:o.data=.set q ep t)(v:q.size<MH)(hf:t.fits q.size=Oa)(ha:Asc t.place)(hl:t.led = !dP w)
  (h:∀(f:Oo Kd)(s':Ks),f.Perm (q.toList.map (·.2))->(∀b u,s.heap.get? b=N8 u->s'.heap.get? b=N8 u)->s'.gens=s.gens->s'.os=s.os->↥s<↥s'->Q f s') :
  Kw (model prog w) A (collect<|.ref a) Q E s:=by
 let R:a<↥s:=bi S;unfold collect;calc JZ<|MM<|Mu F.entry_proto_collect ?_;rw[lm F.plain_proto_collect _];show Kw _ A.in1 (Me [] >>= λl=>again<|.builtin "list.__iadd__" ([l,.ref a],[],)) _ _ s;calc JZ<|LX ?_;calc Ka (MK F.plain_list_iadd _,Mu F.entry_list_iadd ?_,);rw[lm F.plain_list_iadd _];generalize B:({ cls:=.type "list",data:=.seq ([]:Oo Kd).toArray }:Obj)=lo;let J:(s.heap.push lo).get? a=N8 o:=am _ S;let gS:(s.heap.push lo).get? ↥s=N8 lo:=by rw[←B];exact bn _ U
 let M:Ot { s with heap:=s.heap.push lo } (.ref a) "set" := (o,J,m.1,);show Kw _ A.in1 (Do (.ref ↥s) (.ref a)<|.ref ↥s) _ _ _;unfold Do;calc JZ<|LW M ?_;let h1:OI (.ref ↥s) (.ref a)=false:=by simp[OI];exact wz R
 let h2:(xz "set" == xz "list")=false:=⋯
 let h3:(xz "set" == xz "tuple")=false:=⋯
 simp only[h1,h2,h3,Bool.or_false,Jy,if_false];calc JZ<|zN (s:={ s with heap:=s.heap.push lo }) J m hd v hf ha hl λI j d f fp St H P W Y hI L=>?_;let g2:j.get? a=N8 o:=H a o J;let n:Ot { s with heap:=j,drawn:=d } (.ref a) "set" := (o,g2,m.1,);calc JZ<|Kb ?_;unfold Qp;refine JZ (Nr n F.slot_set_len.lookup ?_)
 (generalize k:("set.__len__" : String)=id0;(fail_if_success (clear k id0));wp_delta;rw[show splitId id0=N8 ("set","__len__")from by subst k;decide+kernel];subst k)
 calc JZ<|Ni (b:=Oa) n sub_set_self ?_;calc JZ<|LW n ?_;calc Ka ?_;show Kw _ A.in1 (rule "list.extend.makes-room" >>= λ_=>QV (.ref ↥s) >>= λ_ =>
  again (.builtin "list.extend.loop" ([.ref ↥s,.ref I,.ref ↥s],[],))) _ _ _
 calc JZ<|MD ?_;let c:j.get? ↥s=N8 lo:=H _ _ gS;rw[←B]at c;calc JZ ?_;show Kw _ A.in1 (Nt ↥s (·.push .none) >>= λ_=>Nt ↥s (·.pop)) _ _ _;calc JZ<|Nu c U ?_;let i:=pc (im (·.push lv)) c U;calc Nu i U ?_;let p:=pc (im (·.pop)) i U
 let y:∀b u,b≠↥s->j.get? b=N8 u ->
   ((j.update ↥s (im (·.push lv))).update ↥s (im (·.pop))).get? b=N8 u :=
  λb u v e=>(mo _ _<|Fk v).trans<|(mo _ _<|Fk v).trans e
 let x:(s.heap.push lo).objs.size=↥s+1:=ln ..;let C:↥s ∉ fp:=λr=>by
  rcases L _ r with z|z
  .exact wz R z
  .let O:(s.heap.push lo).objs.size<=↥s:=z;rw[x]at O;exact Nat.not_succ_le_self _ O
 let T:=W A.in1 (by simp[hh]);let G:⇑f=q.size:=by rw[P.length_eq,aa,FV]
 let K:=T.frame 0 ({ s with heap:=j,drawn:=d }:Ks) ((j.update ↥s (im (·.push lv))).update ↥s (im (·.pop))) s.toks Y (vk _) λb g Z e=>y b Z (λz=>C<|z ▸ g) e
 refine Ka (MK pi _,codeAny_extend_loopS T (by unfold MH at v;unfold Kk;lia) _ C _ q.size 0 _ _ _ U (v3 _)
  K p (ItemsOf.nil _) λs' zO c' r D V=>?_,)
 show Kw _ A (load ↥s >>= _) _ _ s';calc JZ<|wpAny_load D ?_;calc Ka ?_;rw[yd V G];calc h f s' P (λb u e=>?_) r.gens r.os<|bi D;let g:b<↥s:=bi e;calc r.heap b u (λz=>?_)<|y b u (vl g)<|H b u<|am _ e;rcases af.mp z with z|z
 .exact vl g z
 .let X:b=I:= ~~~z
  let N:(s.heap.push lo).objs.size<=I:=hI;rw[x,←X]at N;calc w4 _<|v5 g<|DO N
variable{Od:Oo (Ki×Obj)}{σ:St}{H:Hp}
section
variable{h':Kj}{Y:Oo Ki}
def Inv.excStepY(I:Inv X Od σ H s)(st:Stp (frs X.stack) Y s.heap h')(h:∀b∈Y,fC X Od H b):Inv X Od σ H { s with heap:=h' }:=by
 let F:∀b,b≠X.env.locals->b ∉ X.fs->b ∉ frs X.stack:=λb Q P z=>(af.mp<|I.stkSub b z).elim Q P
 let w:∀b o,X.s₀.heap.get? b=N8 o->b ∉ Y:=λb o q z=>by rw[(h b z).ent]at q;cases q
 let B:∀b o,X.s₀.heap.get? b=N8 o->b≠X.env.locals:=λb o q=>vl<|v5 (bi q) I.ok.above
 let any:∀b o,b ∉ Y->s.heap.get? b=N8 o->∃t,h'.get? b=N8 { o with slots:=t }:=λb o M q=>by
  by_cases J:b∈frs X.stack
  .exact st.slot b o J q
  .exact(o.slots,st.keep b o J M q,)
 let e:∀x c,X.env.cells.lookup x=N8 c->∀v,s.heap.IsCell c v->h'.IsCell c v:=λx c f v (o,N,hd,)=>by
  let(t,q):=any c o (λz=>(h c z).cel x c f U) N;exact(_,q,hd,)
 refine(I.ok,I.os,I.bare,(λb o q n g a=>?_,λb o q n g a=>?_,I.base.free,λb o q a=>?_,I.base.tups,I.base.frzs,I.base.tbls,),?_,λx c f=>?_,I.free,I.freeC,λp G=>?_,I.hok.stp st I.stkFree<|λb g=>(h b g).unt,I.len,)
 .exact st.keep b o (F b (B b o q) g) (w b o q)<|I.base.keep b o q n g a
 .let(t,A):=I.base.slot b o q n g a;let(j,y):=any b _ (w b o q) A;exact(j,y,)
 .let(Z,A):=I.base.there b o q a;let(j,y):=any b _ (w b o q) A;exact(_,y,)
 .let(m,(L,R,S,C,r),O):=I.loc;let(t,q):=any X.env.locals L (λz=>(h _ z).loc U) C;calc(m,(_,R,S,q,r,),λi x v W V T=>?_,);let(u,K,l):=O i x v W V T;calc(u,K,?_,);rcases l with l|⟨k,c,f,z⟩
  .exact .inl l
  .exact .inr (k,c,f,e x c f _ z,)
 .let(v,z):=I.cell x c f;exact(v,e x c f v z,)
 .let(q,n,E,D,d):=I.pin p G;calc(st.keep p.1 p.2 (F p.1 E D) (λz=>(h _ z).pin p G U) q,n,E,D,d,)
end
def  DJ(X:Cx)(L:Ki)(E:XK):Kd->Ks->Prop:=λf c=>∃(e C:Ki)(d:Kd×Kd)(Ts:Oo Ki)(Od:Oo (Ki×Obj))(σ:St)(a:Hp),f=.ref e/\Inv X Od σ a c/\zI c.heap L e (.ref C) d Ts/\(∀b∈e :: Ts,fC X Od a b)/\∃m,(m=N9->d.2=.none)/\E (.ref C) m a
def qy{X:Cx}{L:Ki}{E:XK}(a:X.stack=X.env :: X.outer)(c:X.env.frame=N8 L)(y:X.ex=[]):K0 (model X.prog X.w) X.A X.env (DJ X L E):=by
 rintro V d ⟨e,C,F,Ts,Od,σ,H,rfl,I,x,f,q⟩;let i:X.A.frames=N8 (X.env :: X.outer):=by rw[←a];exact I.ok.frames
 let j:d.heap.FunFrames X.base (X.env :: X.outer):=by rw[←a];exact I.stack
 refine note i j c x λg T m k D=>?_
 rw[←a]at m;let o:=I.excStepY m f;let v:fC X Od H T:=by
  rcases D with z|z
  .exact I.newAt y z
  .exact f T<|dy e z
 let n:∀b∈[e,T],fC X Od H b:=λb B=>by
  rcases af.mp B with z|z
  .rw[z];exact f e cf
  .rw[show b=T by simpa using z];exact v
 show Kw (model X.prog X.w) X.A (do
  if (←field (.ref e) 1) == .none then unsupported "frame.own-activation:exception-without-traceback"
  Mp (.ref e) X.env.frame) _ _ { d with heap:=g }
 let(Q,O,R,P,t,N,r,p,M,K,J,G):=id k;calc JZ<|LQ (s:={ d with heap:=g }) t r p ?_;rw[Oe (show ¬ (dL T == lv)=Oa by simp)];show Kw (model X.prog X.w) X.A (Mp (.ref e) X.env.frame) _ _ _;rw[c];refine wU (s:={ d with heap:=g }) (l:=X.stack) o.stack k λS h u=>?_
 calc(e,C,F,[T],Od,σ,H,U,o.excStepY h n,.held u,n,q,)
variable{P:Kf}{K:bd}{base:Kj}{f:Ki}
section
variable{mg:Str->Option Kd}{N:Oo Str}{qual:Str}{scope:Kt}{cd:Kd}{outer:Oo Env}{s0:Ks}{H0:Hp}{E:XK}
abbrev cxE(P:Kf)(w:Ke)(K:bd)(mg:Str->Option Kd)(base:Kj)(N:Oo Str)(qual:Str)(scope:Kt)(f:Ki)(cd:Kd)(A:Kr)(outer:Oo Env)(s0:Ks)(H0:Hp)(E:XK):Cx :=
 (bw (CX1 P w) P w K mg base N qual scope f cd A outer s0 H0 E).wish (DJ (bw (CX1 P w) P w K mg base N qual scope f cd A outer s0 H0 E) ↥s0 E)
def ye{n:Kd}{s:Ks}(h:DJ (bw (CX1 P w) P w K mg base N qual scope f cd A outer s0 H0 E) ↥s0 E n s):(bw (CX1 P w) P w K mg base N qual scope f cd A outer s0 H0 E).xe n s:=by
 let(e,C,B,Ts,Od,σ,H,rfl,I,x,g,q):=h;let k:(bw (CX1 P w) P w K mg base N qual scope f cd A outer s0 H0 E).A.frames=N8 (envOfC qual scope ↥s0 f cd :: outer):=I.ok.frames;let v:(envOfC qual scope ↥s0 f cd).frame=N8 ↥s0:=rfl;show Kw (model P w) _ (leaving (envOfC qual scope ↥s0 f cd)<|.ref e) _ _ s;unfold leaving;calc JZ<|note k I.stack v x λy T t r u=>?_;let c:=I.excStepY t g;let j:fC (bw (CX1 P w) P w K mg base N qual scope f cd A outer s0 H0 E) Od H T:=by
  rcases u with z|z
  .exact I.newAt U z
  .exact g T<|dy e z
 let i:=g e cf;let m:∀b∈[e,T],fC (bw (CX1 P w) P w K mg base N qual scope f cd A outer s0 H0 E) Od H b:=λb a=>by
  rcases af.mp a with z|z
  .rw[z];exact i
  .rw[show b=T by simpa using z];exact j
 refine wU (s:={ s with heap:=y }) (l:=envOfC qual scope ↥s0 f cd :: outer) c.stack r λD d p=>?_
 refine(e,T,C,B,H,U,c.os,c.bare,c.base.stp d (λb o q a=>?_) (λb a=>?_)<|λb a=>(m b a).ent,c.hok.stp d c.stkFree<|λb a=>(m b a).unt,p,i.ent,j.ent,i.unt,j.unt,q,)
 .rcases af.mp (c.stkSub b a)with z|z
  .exact Og (v5 (bi q) c.ok.above) (by rw[z];exact w4 _)
  .exact z
 .show b∈frs (envOfC qual scope ↥s0 f cd :: outer);unfold frs;rw[lP];calc dy _ a
def PSs.leaves{st:Oo KG}{t:TS}(h:PSs (cxE P w K mg base N qual scope f cd A outer s0 H0 E) st t):PSs (bw (CX1 P w) P w K mg base N qual scope f cd A outer s0 H0 E) st t:=λOd s σ H D I a =>
 KH (h Od s σ H D (I.wish _) a) (λ_ _ q=>q.unwish) λ_ _ z=>ye z
def Fun.okE{x:Str}{st:KG}{d:LA}{ps:Oo Str}{k:Nat}{sp:Sp}(F:Fun K x qual st f d)(S:ar N ps (ao st))(len:∀vs H Q E,sp vs H Q E->⇑vs=⇑ps)
  (i:∀(a:Kd)(A:Kr)(outer:Oo Env)(s:Ks)(H:Hp)(vs:Oo V)(Q:VK)(E:XK),bu k (A.deeper<|envOfC qual (ao st) ↥s f a)->sp vs H Q E ->
   ∃t,PSs (cxE P w K mg base N qual (ao st) f a A outer s H E) (bE st) t/\t { nx:=λ_ H'=>Q .non H',rt:=Q } (start N vs) H):aH P w K mg base (CX1 P w) (k+1) f d ps sp:=by
 let(o,n,kV,l,m,r,a,p,j,rfl,e,c):=F.ex;refine sF e c S len λA outer s H vs Q E g b=>?_
 let(t,h,q):=i a A outer s H vs Q E g b;calc(t,h.leaves,q,)
def qz{x:Str}{C:Ki}{L d pos:Pos}{a:Kz}{c:Oo Kz}{t:TA}(X:ExcCls K C)(hd:A.handled=N9)(R:Gl (cxE P w K mg base N qual scope f cd A outer s0 H0 E) x)(O:mg x=↑C)
  (T:PA (cxE P w K mg base N qual scope f cd A outer s0 H0 E) (a :: c) t)(k:(x == ("__debug__" : Str))=false:=by decide)
  (he:KD (a :: c) (envOfC qual scope ↥s0 f cd)=(Ob,eval a<|envOfC qual scope ↥s0 f cd) :: KD c (envOfC qual scope ↥s0 f cd):=by rfl)
  (i:(KC d<|KD c<|envOfC qual scope ↥s0 f cd).any (·.1)=false:=by rfl) :
  PS (cxE P w K mg base N qual scope f cd A outer s0 H0 E) (.Raise (N8<|.Call (.Name x L) (a :: c) [] d) N9 pos) (DD C E t):=by
 intro Od s σ H D I h;let(a3,a2,n,B,Bn,a0,zK,a1,M,F1,F2,u):=X.ex;let(bm,Z,nm,q,bs,hdct,sn,sub,ab,col,dd,k0,k1,k2,k3,k5,mN,G,F,y,p):=ExcCls.obj I.ok.mod.kin M;refine wpAny_Raise_call_subU (C:=C) (nm:=nm) (q:=q) (N:=Z) (bs:=bs) (bm:=bm) (hdct:=hdct) (sn:=sn) (sub:=sub) (ab:=ab) (col:=col) (dd:=dd) (k0:=k0) (k1:=k1) (k2:=k2) (k3:=k3) (k5:=k5) F1 F2 u (OwnTail.hasType p u.hasBase) hd (by
  show(KC d<|KD (a :: c)<|envOfC qual scope ↥s0 f cd).any (·.1)=Ob;rw[he];show(Ob || (KC d<|KD c<|envOfC qual scope ↥s0 f cd).any (·.1))=Ob;rw[i];rfl) (mN:=mN) y (cZ I R O (U,?_,) k)
 show Kw _ _ (evalArgs (.ref C) Oa (KC d<|KD (a :: c)<|envOfC qual scope ↥s0 f cd) []) _ _ s;rw[he];calc QL ?_;let z:Kw (model P w) (cxE P w K mg base N qual scope f cd A outer s0 H0 E).A (spliced<|KC d<|KD (a :: c)<|envOfC qual scope ↥s0 f cd) _ _ s:=T d Od s σ H _ I h;rw[he]at z;refine thn z λus s2 (vs,H2,g,r,Q,v,)=>(U,by rw[←⇑r];exact Q,?_,)
 refine(g.bk C _ G,?_,p.keeps g.bk,λh' e m=>?_,)
 .let(o,l,Y,W,V):=F;exact(o,l,Y,g.bk _ _ W,V,)
 .let J:=g.unwish;let(t',j,_,_):=m.there;calc(e,C,(.ref t',.none),[],Od,σ,H2,U,J.kept (t':=s2.toks) m.keeps,.fresh j U U U U U,λb S=>?_,N9,λ_=>U,v,);rw[show b=e by simpa using S];calc J.newAt U m.new
def passE:Passes (CX1 P w) (cxE P w K mg base N qual scope f cd A outer s0 H0 E) E:=λOd σ H s r p I h=>by
 let(e,T,C,n,o,rfl,g,d,un,hok,x,i,j,k,m,q):=h;let J:=(I.unwish).call' (ch:=[]) g un hok d λb z=>Og z (by simp)
 let a:=(I.unwish).newAt U i;let c:=(I.unwish).newAt U j;calc(e,C,n,[T],Od,σ,o,U,J,.fly x,λb l=>?_,q,);rcases af.mp l with z|z
 .rw[z];exact(a.ent,k,a.loc,a.cel,a.pin,)
 .rw[show b=T by simpa using z];calc(c.ent,m,c.loc,c.cel,c.pin,)
end
def pK:cF X (.builtin "len") (λxs H Q=>∃(l:Ki)(zs:Oo Str),xs=[.ref l]/\H l=N8 (DG X.prog X.w l zs)/\⇑zs<=1000/\Q (.int ((cntK zs ⇑zs:Nat):Int)) H):=by
 intro Od s σ H xs i Q I r h;let(l,zs,rfl,e,j,q):=h;let(u,rfl,b):=r.one;obtain rfl:u=dL l:=b;let((o,k,m,t,g,f,d,_,_,_,c,a),_,_):=I.hok l _ e;let le:=km zs ⇑zs;refine call_len_set g f d c (by rw[a];lia) (.int _,H,I.tok _,(_,U,),?_,);rw[a];calc q
def  GP(sp:Sp)(E:XK)(t:TA):TE:=λσ H Q=>t σ H λa b=>sp a b Q E
variable{k:Nat}{C:Ki}{fd:LA}{ps:Oo Str}{sp:Sp}{x m:Str}
section
variable{p np pos apos:Pos}{e o:Kz}{es:Oo Kz}{ta:TE}{t:TA}{E:XK}
def nR(M:b9 X.prog X.w X.K X.mg X.base k x ps sp)(i:Passes (CX1 X.prog X.w) X E)(j:bu k X.A)(m:Gl X x)(n:PA X (e :: es) t)(c:(x == ("__debug__" : Str))=false:=by decide)
  (he:KD (e :: es) X.env=(Ob,eval e X.env) :: KD es X.env:=by rfl)(a:(KC pos<|KD es X.env).any (·.1)=false:=by rfl):PE X (.Call (.Name x p) (e :: es) [] pos) (GP sp E t):=by
 let(f,fd,F,b,g,l):=M;intro Od s σ H Q I h;calc Kc<|cZ I m l ?_ c;calc AT (h₀:=X.base) I.ok.mod.kin g (thn (n pos Od s σ H _ I h) λu v (o,y,d,r,q,)=>(d.kIn,Bv F j b i d r q,)) he a
end
def jC:∀{b:Oo Int}{us:Oo Kd},Vals (b.map ut) us->∃xs:Oo (Int×Tok),us.toArray=Nv xs.toArray/\b=xs.map (·.1)
 | [],_,.nil=>([],by simp[Nv],U,)
 |n :: b,_,.cons (t,e,) r=>by
  let(xs,d,c):=jC r;refine((n,t) :: xs,?_,by rw[c];rfl,);subst e;let a:=Ol QF d;simp[Nv]at a⊢;calc a
def qA{xs:Array (Int×Tok)}{i:Nat}(h:i<xs.size):numAt xs i∈xs.toList.map (·.1):=by
 rw[Nw];calc getD_mem (by rw[aa,FV];lia)
def pL(C:X.calm=Oa):cF X (.builtin "min") (λus H Q=>∃(a:Ki)(c:Oo Int),us=[.ref a]/\SqL X.K H a (c.map ut)/\0<⇑c/\∀m,m∈c->(∀b∈c,m<=b)->Q (.int m) H):=by
 intro Od s σ H us G Q I r h;let(a,c,rfl,y,d,q):=h;let(u,rfl,n):=r.one;cases (show u=dL a from n);let(F,p,w,J):=I.list y;let(xs,E,f):=jC p;let i:=w.isList;rw[E]at i;let g:0<xs.toArray.size:=by
  rw[f,aa]at d;simpa using d
 refine min_intList (I.ok.hd C) i g λv M l x A=>?_
 let(t,rfl):=intItems_at x;let(L,D):=argBest_lt (numAt xs.toArray)<|xs.toArray.size-1;refine(.int _,H,I.kept (t':=l) λb o e=>A b o e,(t,U,),q _ ?_ λb k=>?_,)
 .rw[f];exact qA (xs:=xs.toArray) ∅
 .rw[f]at k;let(j,B,rfl):=mem_getD k;rw[aa]at B;let z:=D j (by simp;lia);rw[Nw]at z⊢;rw[Nw]at z;simpa using z
def pM(C:X.calm=Oa):cF X (.builtin "max") (λus H Q=>∃(a:Ki)(c:Oo Int),us=[.ref a]/\SqL X.K H a (c.map ut)/\0<⇑c/\∀m,m∈c->(∀b∈c,b<=m)->Q (.int m) H):=by
 intro Od s σ H us G Q I r h;let(a,c,rfl,y,d,q):=h;let(u,rfl,n):=r.one;cases (show u=dL a from n);let(F,p,w,J):=I.list y;let(xs,E,f):=jC p;let i:=w.isList;rw[E]at i;let g:0<xs.toArray.size:=by
  rw[f,aa]at d;simpa using d
 refine max_intList (I.ok.hd C) i g λv M l x A=>?_
 let(t,rfl):=intItems_at x;let(L,D):=argBest_gt (numAt xs.toArray)<|xs.toArray.size-1;refine(.int _,H,I.kept (t':=l) λb o e=>A b o e,(t,U,),q _ ?_ λb k=>?_,)
 .rw[f];exact qA (xs:=xs.toArray) ∅
 .rw[f]at k;let(j,B,rfl):=mem_getD k;rw[aa]at B;let z:=D j (by simp;lia);rw[Nw]at z⊢;rw[Nw]at z;simpa using z
def  By(P:Kf)(w:Ke)(a:Ki)(b:Oo Int):HO:=.ext λh=>h.SetOf (Kn P w) a (λz=>decide<|z∈b)<|cntK b ⇑b
def nU:∀{zs:Oo Int}{us:Oo Kd},Vals (zs.map ut) us->∀(i:Nat)(v:Kd),us[i]?=N8 v->∃z t,zs[i]?=N8 z/\v=.int z t
 | [],_,.nil,i,v,h=>by simp at h
 |z :: zs,_,.cons (t,e,) r,0,v,h=>by simp at h;exact(z,t,U,by rw[←h,e],)
 |z :: zs,_,.cons _ r,i+1,v,h=>by
  let(a,t,c,b):=nU r i v<|~~~h;calc(a,t,~~~c,b,)
def pN(B:X.calm=Oa):cF X (.type "set") (λxs H Q=>∃(p:Ki)(zs:Oo Int),xs=[.ref p]/\SqL X.K H p (zs.map ut)/\⇑zs<=1000/\∀l,H l=N9->Q (.ref l) (upd H l<|By X.prog X.w l zs)):=by
 intro Od s σ H xs F Q I r h;let(p,zs,rfl,C,G,q):=h;let(u,rfl,n):=r.one;obtain rfl:u=dL p:=n;let(E,d,A,_):=I.list C;let f:=⇑d;rw[aa]at f;refine qt (knd:=Kn X.prog X.w) (ks:=zs) (I.ok.hd B) A.isList (λi v e=>?_) (~~~f) (by unfold MH;simp;lia) λh' m x=>?_
 .let(z,t,D,rfl):=nU d i v<|~~~e;exact(z,D,by show Qt z (.int z t)=Oa;simp[Qt],U,)
 .let(c,j):=x;calc(.ref ↥s,_,I.laid (a:=↥s) (o:=By X.prog X.w ↥s zs) (h':=h') (t':=m) (λb o q=>j b o (bi q) q) (vk _) ?_,U,q _ I.fresh,);calc(c,?_,λL J y k=>gx y k,);let(o,_,_,_,g,_):=c;calc(o,g,)
def pO:cF X (.builtin "len") (λxs H Q=>∃(l:Ki)(zs:Oo Int),xs=[.ref l]/\H l=N8 (By X.prog X.w l zs)/\⇑zs<=1000/\Q (.int ((cntK zs ⇑zs:Nat):Int)) H):=by
 intro Od s σ H xs i Q I r h;let(l,zs,rfl,e,j,q):=h;let(u,rfl,b):=r.one;obtain rfl:u=dL l:=b;let((o,k,m,t,g,f,d,_,_,_,c,a),_,_):=I.hok l _ e;let le:=km zs ⇑zs;refine call_len_set g f d c (by rw[a];lia) (.int _,H,I.tok _,(_,U,),?_,);rw[a];calc q
def sZ{b:Type} [DecidableEq b] {k:b}{ks:Oo b}:∀i,i<=⇑ks->1<=cntK (k :: ks) (i+1)/\(cntK (k :: ks) (i+1)=1↔∀x∈ks.take i,x=k)
 |0,_=>by simp[cntK]
 |i+1,h=>by
  let(d,c):=sZ (k:=k) (ks:=ks) i ∅;let e:(k :: ks)[i+1]?=N8 ks[i]:=by simp
  let j:ks[i]?=N8 ks[i]:=JP ∅;let f:ks.take (i+1)=ks.take i++[ks[i]]:=by rw[nF,j];rfl
  let g:(k :: ks).take (i+1)=k :: ks.take i:=rfl;rw[show cntK (k :: ks) (i+1+1)=match (k :: ks)[i+1]? with
   |some x=>if x∈(k :: ks).take (i+1)then cntK (k :: ks) (i+1)else cntK (k :: ks) (i+1)+1
   |none=>cntK (k :: ks) (i+1)from U,e,f,g]
  dsimp only;by_cases m:ks[i]∈k :: ks.take i
  .rw[Of m];calc(d,c.trans (λz x a=>?_,λz x a=>z x<|kn _ a,),);rcases iH.mp a with a|a
   .exact z x a
   .let:x=ks[i]:= ~~~a
    rw[this];rcases af.mp m with m|m
    .exact m
    .exact z _ m
  .rw[Oe m];calc(∅,(λz=>Og z ∅,λz=>?_,),);calc Og (z ks[i] (ik _ (by simp))) λq=>m (by rw[q];exact cf)
def qB{a:Type} [DecidableEq a] {k:a}{ks:Oo a}:cntK (k :: ks) ⇑(k :: ks)=1↔∀x∈ks,x=k:=by
 let:=(sZ (k:=k) (ks:=ks) ⇑ks<|vk _).2;rw[fm]at this;calc this
def  TyG(K:bd)(H:Hp)(x:V)(t:Kd):Prop:=kY K H x t\/∃a b,x=.ref a/\SqT K H a b/\t=.type "tuple"
inductive ClV:V->Kd->Prop where
 |ty (T:String):ClV (.ty T) (.type T)
 |ref (C:Ki):ClV (.ref C) (.ref C)
def iT:cF X (.builtin "isinstance") (λxs H Q=>∃x c d t b,xs=[x,c]/\ClV c d/\TyG X.K H x t/\KT X.K t d=N8 b/\Q (.bl b) H):=by
 intro Od s σ H xs v Q I r h;let(x,c,d,t,b,rfl,i,ty,e,q):=h;cases r with
 |cons g j =>
  cases j with
  | @cons _ cu _ _ ry r3 =>
   cases r3;let n:cu=d:=by cases i <;> exact ry
   subst n;rcases ty with ty|⟨a,u,rfl,k,rfl⟩
   .exact xO I g ty e λf=>(.bl b,H,I.tok f,U,q,)
   .cases (show _=dL a from g);let(p,r,(o,m,l,_),_):=I.tuple k;calc AC W.kitx_tuple I.kIn (o,m,l,) e (λz=>nomatch z) λf=>(.bl b,H,I.tok f,U,q,)
structure nV(K:bd)(C:Ki):Prop where
 cl:Cls K C
 ha:wT K (.ref C) "__class__" = N8 (N8<|.builtin "object.__class__")
 hn:O2 K (.builtin "object.__class__") "__get__" = N8 (N8<|.builtin "getset_descriptor.__get__")
 tk:W.takesIn K (.builtin "object.__class__")=N8 Oa
 hm:PY K C (.type "object")=N8 Oa
def nV.ty{K:bd}{C:Ki}(h:nV K C){H:Hp}{a b:Ki}{fs:Oo (Str×V)}(e:H a=N8 (.ins C b fs)):TyG K H (.ref a) (.ref C):=.inl<|.ins e h.cl h.ha h.hn h.tk h.hm
def  Bz(CX:CXT)(P:Kf)(w:Ke)(K:bd)(mg:Str->Option Kd)(base:Kj)(k:Nat)(m:Str)(ps:Oo Str)(a:Oo (Ki×Sp)):Prop :=
 ∀p∈a,ba CX P w K mg base k p.1 m ps p.2/\Cls K p.1
variable{CX:CXT}
section
variable{mg:Str->Option Kd}{cs:Oo (Ki×Sp)}
def Fo:Bz CX P w K mg base k m ps []:=λ_ h=>nomatch h
def tj(M:ba CX P w K mg base k C m ps sp)(c:Cls K C)(r:Bz CX P w K mg base k m ps cs):Bz CX P w K mg base k m ps ((C,sp) :: cs):=λp h=>by
 rcases af.mp h with rfl|h
 .exact(M,c,)
 .exact r p h
end
inductive CF(cs:Oo (Ki×Sp))(m:Str)(t:TA)(σ:St)(Q:VK)(x:V)(H1:Hp):Prop
 |mk (a p dx fs:_)(_:x=.ref a)(_:p∈cs)(_:H1 a=N8 (.ins p.1 dx fs))(_:fs.lookup m=N9)(_:t σ H1 λvs H2=>p.2 (x :: vs) H2 Q E0):CF cs m t σ Q x H1
def  GQ(b:Oo (Ki×Sp))(m:Str)(a:TE)(t:TA):TE:=λσ H Q=>a σ H λx c=>CF b m t σ Q x c
section
variable{p np pos apos:Pos}{e o:Kz}{es:Oo Kz}{ta:TE}{t:TA}{cs:Oo (Ki×Sp)}
def zP{pl:Sem Bool}(M:Bz CX X.prog X.w X.K X.mg X.base k m ps cs)(B:Passes CX X E0)(D:bu k X.A)(G:PE X o ta)(L:PA X (e :: es) t)
  (b:KD (e :: es) X.env=(Ob,eval e X.env) :: KD es X.env:=by rfl)(d:(KC pos<|KD es X.env).any (·.1)=false:=by rfl)
  (C:eval (.Call (.Attribute o m apos) (e :: es) [] pos) X.env=(do
   let g ←eval o X.env
   KN apos.atName
   let (f,first) ←holding [g] (Lp g m pl)
   ME pos f first (KC pos<|KD (e :: es) X.env) (L6 pos<|L7 [] X.env)):=by rfl) :
  PE X (.Call (.Attribute o m apos) (e :: es) [] pos) (GQ cs m ta t):=by
 intro Od s σ H Q I h;calc Qk (pl:=pl) (thn (G Od s σ H _ I h) λu v (x,P,n,y,a,p,R,fs,N,E,O,l,q,)=>?_) C;let((f,fd,i,F,J),c):=M p E;subst N;obtain rfl:u=dL a:=y;calc nq n O c i l ?_;calc AT (first:=[.ref a]) (h₀:=X.base) I.ok.mod.kin i.kp (thn (L pos Od v σ P _ n q) λus s2 (vs,S,j,r,z,)=>(j.kIn,?_,)) b d;calc Bv (us:=.ref a :: us) (vs:=.ref a :: vs) F D J B j (.cons U r) z
def lu(M:bp CX X.prog X.w X.K X.mg X.base k x C ps sp)(b:Passes CX X E0)(c:bu (k+1) X.A)(e:Gl X x)(a:(x == ("__debug__" : Str))=false:=by decide) :
  PE X (.Call (.Name x p) [] [] pos) (tMk C sp Dt):=by
 let(f,fd,M,F,g,d):=M;let h:=zp (E:=E0) (dvs:=[]) (ds:=[]) (p:=p) (pos:=pos) M F c e d g .nil b a;intro Od s σ H Q I q;calc h Od s σ H Q I q
end
def  ModT(K:bd)(a:Ki)(xs:Oo V):Prop:=∃(o:Obj)(b:Array Kd)(n:Nat),K.lookup a=N8 o/\o.cls=.type "tuple" /\ o.data=.seq b n/\b.size<=Kk/\Vals xs b.toList
def ModT.sq{K:bd}{a:Ki}{xs:Oo V}(h:ModT K a xs)(H:Hp):SqT K H a xs:=.inr h
def ModT.mk{K:bd}{a:Ki}{xs:Oo V}{d:Option Ki}{b:Array Kd}{n:Nat}{c:Array (Option Kd)}(h:K.lookup a=N8 (.type "tuple",d,.seq b n,c,)) (f:b.size<=Kk)(e:Vals xs b.toList):ModT K a xs :=
 (_,b,n,h,U,U,f,e,)
def qC{c A B:Prop} [Decidable c] (a:c)(h:A):if decide c=Oa then A else B:=by rw[Of (Oh a)];calc h
def mh{c A B:Prop} [Decidable c] (a:¬ c)(h:B):if decide c=Oa then A else B:=by rw[Oe (by rw[Oi a];decide)];calc h
def ls0{P:Oo Kd->Prop}(h:P []):∀us:Oo Kd,⇑us=0->P us:=λus e=>by
 cases us
 .exact h
 .cases e
def lsS{P:Oo Kd->Prop}{n:Nat}(h:∀a us,⇑us=n->P (a :: us)):∀us:Oo Kd,⇑us=n+1->P us:=λus e=>by
 cases us
 .cases e
 .exact h _ _<|Nat.succ.inj e
def ls1{P:Oo Kd->Prop}(h:∀a,P [a]):∀us:Oo Kd,⇑us=1->P us:=lsS λa=>ls0 (P:=λv=>P (a :: v))<|h a
def ls2{P:Oo Kd->Prop}(h:∀a b,P [a,b]):∀us:Oo Kd,⇑us=2->P us:=lsS λa=>ls1 (P:=λv=>P (a :: v))<|h a
def ls3{P:Oo Kd->Prop}(h:∀a b c,P [a,b,c]):∀us:Oo Kd,⇑us=3->P us:=lsS λa=>ls2 (P:=λv=>P (a :: v))<|h a
def ls4{P:Oo Kd->Prop}(h:∀a b c d,P [a,b,c,d]):∀us:Oo Kd,⇑us=4->P us:=lsS λa=>ls3 (P:=λv=>P (a :: v))<|h a
def ls5{P:Oo Kd->Prop}(h:∀a b c d e,P [a,b,c,d,e]):∀us:Oo Kd,⇑us=5->P us:=lsS λa=>ls4 (P:=λv=>P (a :: v))<|h a
def ls6{P:Oo Kd->Prop}(h:∀a b c d e f,P [a,b,c,d,e,f]):∀us:Oo Kd,⇑us=6->P us:=lsS λa=>ls5 (P:=λv=>P (a :: v))<|h a
def ls7{P:Oo Kd->Prop}(h:∀a b c d e f g,P [a,b,c,d,e,f,g]):∀us:Oo Kd,⇑us=7->P us:=lsS λa=>ls6 (P:=λv=>P (a :: v))<|h a
def lb1{fd:LA}{ps:Oo Str}(h:∀a,LC fd ([a],[],)=pure (ps.zip [a])):∀us:Oo Kd,⇑us=1->LC fd (us,[],)=pure (ps.zip us):=ls1 (P:=λus=>LC fd (us,[],)=pure (ps.zip us)) h
def lb2{fd:LA}{ps:Oo Str}(h:∀a b,LC fd ([a,b],[],)=pure (ps.zip [a,b])):∀us:Oo Kd,⇑us=2->LC fd (us,[],)=pure (ps.zip us):=ls2 (P:=λus=>LC fd (us,[],)=pure (ps.zip us)) h
def lb3{fd:LA}{ps:Oo Str}(h:∀a b c,LC fd ([a,b,c],[],)=pure (ps.zip [a,b,c])):∀us:Oo Kd,⇑us=3->LC fd (us,[],)=pure (ps.zip us):=ls3 (P:=λus=>LC fd (us,[],)=pure (ps.zip us)) h
def lb4{fd:LA}{ps:Oo Str}(h:∀a b c d,LC fd ([a,b,c,d],[],)=pure (ps.zip [a,b,c,d])):∀us:Oo Kd,⇑us=4->LC fd (us,[],)=pure (ps.zip us):=ls4 (P:=λus=>LC fd (us,[],)=pure (ps.zip us)) h
def lb5{fd:LA}{ps:Oo Str}(h:∀a b c d e,LC fd ([a,b,c,d,e],[],)=pure (ps.zip [a,b,c,d,e])):∀us:Oo Kd,⇑us=5->LC fd (us,[],)=pure (ps.zip us):=ls5 (P:=λus=>LC fd (us,[],)=pure (ps.zip us)) h
def lb7{fd:LA}{ps:Oo Str}(h:∀a b c d e f g,LC fd ([a,b,c,d,e,f,g],[],)=pure (ps.zip [a,b,c,d,e,f,g])):∀us:Oo Kd,⇑us=7->LC fd (us,[],)=pure (ps.zip us):=ls7 (P:=λus=>LC fd (us,[],)=pure (ps.zip us)) h
section
variable{mg:Str->Option Kd}{j:Nat}{q:Str}{N:Oo Str}{st:KG}
def fsc{P:Oo Str}{f:Kt}(a:f.kind=.function:=by rfl)(b:f.isCoroutine=false:=by rfl)(c:f.isGenerator=false:=by rfl)(d:N.Nodup:=by decide+kernel)(e:N.take P.length=P:=by rfl)(g:∀x∈P,f.names.lookup x=N8 .local\/f.names.lookup x=N8 .cell:=by decide+kernel)(h:∀y∈f.names,y.2≠.free:=by decide+kernel):ar N P f:=(a,b,c,d,e,g,h,)
def Fun.okA(F:Fun K x q st f fd)(S:ar N ps (ao st))(c:∀(b:Kd)(A:Kr)(a:Oo Env)(s:Ks)(H:Hp)(vs:Oo V)(Q:VK)(E:XK),bu k (A.deeper<|envOfC q (ao st) ↥s f b)->sp vs H Q E->∃t,PSs (bw CX0 P w K mg base N q (ao st) f b A a s H E).nox (bE st) t/\t { nx:=λ_ H'=>Q .non H',rt:=Q } (start N vs) H)(len:∀vs H Q E,sp vs H Q E->⇑vs=⇑ps:=by intro vs H Q E h;cases h;subst_vars;rfl):aH P w K mg base CX0 (k+1) f fd ps sp:=F.ok S len c
def Fun.okEA(F:Fun K x q st f fd)(S:ar N ps (ao st))(c:∀(b:Kd)(A:Kr)(a:Oo Env)(s:Ks)(H:Hp)(vs:Oo V)(Q:VK)(E:XK),bu k (A.deeper<|envOfC q (ao st) ↥s f b)->sp vs H Q E->∃t,PSs (cxE P w K mg base N q (ao st) f b A a s H E) (bE st) t/\t { nx:=λ_ H'=>Q .non H',rt:=Q } (start N vs) H)(len:∀vs H Q E,sp vs H Q E->⇑vs=⇑ps:=by intro vs H Q E h;cases h;subst_vars;rfl):aH P w K mg base (CX1 P w) (k+1) f fd ps sp:=F.okE S len c
def Callee.up(c:Callee P w K mg base j x ps sp)(h:j<=k:=by decide):Callee P w K mg base k x ps sp:=c.mono h
def b9.up(c:b9 P w K mg base j x ps sp)(h:j<=k:=by decide):b9 P w K mg base k x ps sp:=c.mono h
def ba.up(c:ba CX P w K mg base j C m ps sp)(h:j<=k:=by decide):ba CX P w K mg base k C m ps sp:=c.mono h
def bp.up(c:bp CX P w K mg base j x C ps sp)(h:j<=k:=by decide):bp CX P w K mg base k x C ps sp:=c.mono h
def cm.up(c:cm CX P w K mg base j x m ps sp)(h:j<=k:=by decide):cm CX P w K mg base k x m ps sp:=c.mono h
inductive GF(K:bd)(x q:Str)(st:KG):Prop
 |mk {f:Ki}{fd:LA}(a:li K Ko x=N8 ↑f)(F:Fun K q q st f fd)
inductive MF(K:bd)(C:Ki)(x q:Str)(st:KG):Prop
 |mk {f:Ki}{fd:LA}(a:wT K (.ref C) x=N8 ↑f)(i:W.isFn K (.ref f)=Oa)(F:Fun K x q st f fd)
inductive KF(K:bd)(C:Ki)(x q:Str)(st:KG):Prop
 |mk {f:Ki}{fd:LA}(a:wT K (.ref C) "__init__" = N8 ↑f) (i:W.isFn K (.ref f)=Oa)(m:W.makesIn K C=Oa)(k:FS K (.ref C)=Oa)(n:li K Ko x=N8 ↑C)(F:Fun K "__init__" q st f fd)
inductive BF(K:bd)(C:Ki)(x m q:Str)(st:KG):Prop
 |mk {f:Ki}{fd:LA}(s:O2 K (.ref C) "__getattribute__" = N8 (N8<|.builtin "type.__getattribute__")) (r:W.readsIn K C (.type "type")=Oa) (a:W.findCls K (.ref C) (.type "type") m=N8 (.val<|.ref f)) (n:li K Ko x=N8 ↑C)(F:Fun K m q st f fd)
inductive Zb(P:Kf)(w:Ke)(K:bd)(mg:Str->Option Kd)(base:Kj):Prop
 |mk {h:Kj}(X:K.In h)(G:h.Ns Ko mg)
def Zb.g(Z:Zb P w K mg base){v:Kd}(e:li K Ko x=N8 (N8 v)):mg x=N8 v:=by cases Z with|mk X G=>calc wn X G e
def mkC(Z:Zb P w K mg base)(h:GF K x q st)(O:∀{f:Ki}{fd:LA},Fun K q q st f fd->aH P w K mg base CX0 k f fd ps sp)(b:∀{f:Ki}{fd:LA},Fun K q q st f fd->Binds K fd ps []:=by trivial):Callee P w K mg base k x ps sp:=by
 cases h with|mk a F=>calc(_,_,O F,b F,F.kp,Z.g a,)
def mkX(Z:Zb P w K mg base)(h:GF K x q st)(O:∀{f:Ki}{fd:LA},Fun K q q st f fd->aH P w K mg base (CX1 P w) k f fd ps sp)(b:∀{f:Ki}{fd:LA},Fun K q q st f fd->Binds K fd ps []:=by trivial):b9 P w K mg base k x ps sp:=by
 cases h with|mk a F=>calc(_,_,O F,b F,F.kp,Z.g a,)
def mkM(_:Zb P w K mg base)(h:MF K C m q st)(O:∀{f:Ki}{fd:LA},Fun K m q st f fd->aH P w K mg base CX k f fd ps sp)(b:∀{f:Ki}{fd:LA},Fun K m q st f fd->Binds K fd ps []:=by trivial):ba CX P w K mg base k C m ps sp:=by
 cases h with|mk a i F=>calc(_,_,(a,i,F.kp,),O F,b F,)
def mkK(Z:Zb P w K mg base)(h:KF K C x q st)(O:∀{f:Ki}{fd:LA},Fun K "__init__" q st f fd->aH P w K mg base CX k f fd ps sp) (b:∀{f:Ki}{fd:LA},Fun K "__init__" q st f fd->Binds K fd ps []:=by trivial):bp CX P w K mg base k x C ps sp:=by
 cases h with|mk a i m k n F=>calc(_,_,(m,a,i,k,),O F,b F,Z.g n,)
def mkB(Z:Zb P w K mg base)(h:BF K C x m q st)(O:∀{f:Ki}{fd:LA},Fun K m q st f fd->aH P w K mg base CX k f fd ps sp)(b:∀{f:Ki}{fd:LA},Fun K m q st f fd->Binds K fd ps []:=by trivial):cm CX P w K mg base k x m ps sp:=by
 cases h with|mk s r a n F=>calc(_,_,_,(s,r,a,F.kp,),O F,b F,Z.g n,)
def mkR{sp:Nat->Sp}(Z:Zb P w K mg base)(h:GF K x q st)(k n:Nat)(z:∀{vs:Oo V}{H:Hp}{Q:VK}{E:XK},¬ sp 0 vs H Q E)(O:∀{f:Ki}{fd:LA}(n:Nat),Fun K q q st f fd->Callee P w K mg base (k+n) x ps (sp n)->aH P w K mg base CX0 (k+n+1) f fd ps (sp<|n+1))(b:∀{f:Ki}{fd:LA},Fun K q q st f fd->Binds K fd ps []:=by trivial):Callee P w K mg base (k+n) x ps (sp n):=by
 cases h with|mk a F =>
 calc(_,_,?_,b F,F.kp,Z.g a,);induction n with
 |zero=>exact aH.no λ_ _ _ _ h=>z h
 |succ n c=>calc O n F (_,_,c,b F,F.kp,Z.g a,)
def gv_mk{v:V}{u:Kd}(a:li K Ko x=N8 (N8 u))(r:RelV v u):∃u,li K Ko x=N8 (N8 u)/\RelV v u:=(u,a,r,)
end
section
variable{h':Kj}
def Inv.turnedPair{ch:Oo Ki}{T:Ki}{x y:V}{u v:Kd}(I:Inv X Od σ H s)(h:∀b∈ch,gY X Od H b)(k:∀b o,b ∉ ch->s.heap.get? b=N8 o->h'.get? b=N8 o)
  (A:s.heap.get? T=N9)(D:H T=N9)(E:Nx h' T u v)(t:RelV x u)(p:RelV y v):Inv X Od σ (upd H T<|.tup [x,y]) { s with heap:=h' }:=by
 let out:∀b u,H b=N8 u->b ∉ ch:=λb u e z=>by
  let f:=(h b z).1;rw[f]at e;cases e
 let j:∀{b o},s.heap.get? b=N8 o->b≠T:=λe z=>by rw[z,A]at e;cases e
 let a:∀{b u},H b=N8 u->b≠T:=λe z=>by rw[z,D]at e;cases e
 let J:=Inv.step (H':=upd H T<|.tup [x,y]) (h':=h') (g':=s.gens) (d':=s.drawn) (t':=s.toks) (ch:=ch) I
  (λb g=>by let(_,i,_,K,G,F):=h b g;exact(K,i,G,F,))
  (λb o _ _ d e _=>k b o d e)
  (λb o _ _ d e _=>(o.slots,k b o d e,))
  (λb o _ e n=>by rw[av (j e)];exact n)
  (λb o d e=>(o,k b o d e,))
  (λb l e=>by rw[av (a e)];exact e)
  (λb o w e=>by rw[av (a e)];exact e)
  (λb ps e=>(#[],by rw[av (a e),e];simp,))
  (λm C=>by
   let(o,L,M,B,r):=C;calc(o,L,M,k _ o (λz=>?_) B,r,);let(_,i,_):=h _ z;exact i U)
  (λb w e=>by
   by_cases g:b=T
   .subst g;rw[ag]at e;cases e;exact(by show 2<=Kk;decide,[u,v],.cons t<|.cons p .nil,_,E,U,_,U,)
   .rw[av g]at e;refine(I.hok b w e).stay (λc z d q=>k c z ?_ q) (λc q=>?_) λc l q=>?_
    .rcases d with z|z
     .rw[z];exact out b w e
     .exact out c _ z
    .rw[av (a q)];exact q
    .rw[av (a q)];exact q)
  I.bare
 calc J
def Inv.turnedL{ch:Oo Ki}(I:Inv X Od σ H s)(d:∀b∈ch,gY X Od H b)(k:∀b o,b ∉ ch->s.heap.get? b=N8 o->h'.get? b=N8 o):Inv X Od σ H { s with heap:=h' }:=by
 let out:∀b u,H b=N8 u->b ∉ ch:=λb u e z=>by
  let f:=(d b z).1;rw[f]at e;cases e
 let J:=Inv.step (H':=H) (h':=h') (g':=s.gens) (d':=s.drawn) (t':=s.toks) (ch:=ch) I
  (λb l=>by let(_,g,_,v,t,p):=d b l;exact(v,g,t,p,))
  (λb o _ _ a e _=>k b o a e)
  (λb o _ _ a e _=>(o.slots,k b o a e,))
  (λb o _ _ n=>n)
  (λb o a e=>(o,k b o a e,))
  (λb h e=>e) (λb o w e=>e) (λb ps e=>(#[],by rw[e];simp,))
  (λm j=>by
   let(o,x,y,i,r):=j;calc(o,x,y,k _ o (λz=>?_) i,r,);let(_,g,_):=d _ z;exact g U)
  (λb w e=>by
   refine(I.hok b w e).stay (λc z a q=>k c z ?_ q) (λc q=>q) λc h q=>q
   rcases a with z|z
   .rw[z];exact out b w e
   .exact out c _ z)
  I.bare
 calc J
end
def  Itz(K:bd)(a b:Ki):It :=
 (λi H=>∃d c x y,SqL K H a d/\SqL K H b c/\d[i]?=N8 x/\c[i]?=N8 y,
 λi H v e=>∃T,H T=N9/\v=.ref T/\∀d c x y,SqL K H a d->SqL K H b c->d[i]?=N8 x->c[i]?=N8 y->e=upd H T (.tup [x,y]),
 λi H=>∃d c,SqL K H a d/\SqL K H b c/\(⇑d<=i\/⇑c<=i),)
def  CG(z TI TO d c a b:Ki)(i:Nat)(h:Kj):Prop:=IsZip h z TI TO .none/\Nx h TI (.ref d) (.ref c)/\(∃p q,Nx h TO p q)/\h.IsListIter d a i/\h.IsListIter c b i
def zQ{P:Kf}{w:Ke}{K:bd}{A:Oo Kz} {x1} {tp:Pos}{z TI TO t r a b:Ki}(D:Ny z TI TO t r a b) :
  Turn P w K (.Tuple A x1 tp) (Itz K a b) [z,TI,TO,t,r] z (CG z TI TO t r a b) where
 mem:=by simp
 obj:=λi h f c d=>by
  let(n,g,(p,q,m),(o4,l,_,d4),(o5,j,_,d5)):=f;simp only[af,jj,or_false]at d;rcases d with rfl|rfl|rfl|rfl|rfl
  .exact⟨_,n,λv q=>nomatch q⟩
  .exact⟨_,g,λv q=>nomatch q⟩
  .exact⟨_,m,λv q=>nomatch q⟩
  .exact⟨_,l,λv q=>by rw[d4]at q;cases q⟩
  .exact⟨_,j,λv q=>by rw[d5]at q;cases q⟩
 keep:=λi h h' f k=>by
  let(n,g,(p,q,m),l,j):=f;exact(k z (by simp) _ n,k TI (by simp) _ g,(p,q,k TO (by simp) _ m,),l.at λo e=>k t (by simp) o e,j.at λo e=>k r (by simp) o e,)
 item:=by
  intro X R N S d i Od s σ H E I F f Q;subst R N S;let(xs,ys,x,y,C,B,ex,ey):=Q;let(n,g,(p,q,m),l,j):=f;let(us,L,M,_):=I.list C;let(vs,G,pv,_):=I.list B;let(u,eu,r1):=L.get ex;let(v,ev,r2):=G.get ey;refine Nz D n g m l j M.isList pv.isList (x:=u) (y:=v) (~~~eu) (~~~ev) λh1 a1 a2 a3 a4 a5 a6 a7=>?_
  calc(_,U,wpAny_letOwnedTupleGo_zip (s:={ s with heap:=h1 }) a1 λV b1 b2=>?_,);let nT:s.heap.get? ↥s=none:=by
   cases q:s.heap.get? ↥s with
   |none=>rfl
   |some o=>exact Og (bi q) (w4 _)
  let hT:H ↥s=none:=I.hok.fresh<|vk _;let nz:↥s≠z:=wz<|bi n;let kk:∀c o,c ∉ [z,TO,t,r]->s.heap.get? c=N8 o->V.get? c=N8 o:=λc o d e=>by
   simp only[af,jj,or_false,not_or]at d;exact b2.extBut _ _ d.1<|a7 c o d.1 d.2.1 d.2.2.1 d.2.2.2 e
  let J:=I.turnedPair (h':=V) (ch:=[z,TO,t,r]) (T:=↥s) (x:=x) (y:=y) (u:=u) (v:=v) (λc d=>F c (by simp at d⊢;rcases d with e|e|e|e <;> simp[e])) kk nT hT (b2.extBut _ _ nz a5) r1 r2;refine(.ref ↥s,upd H ↥s<|.tup [x,y],J,U,(_,hT,U,λb0 a9 x' y' q1 q2 Z Y=>?_,),(b1,b2.extBut _ _ D.TIz<|a7 TI _ D.TIz D.TITO D.TIi1 D.TIi2 g,(_,_,b2.extBut _ _ D.TOz a2,),a3.extBut b2.extBut D.i1z,a4.extBut b2.extBut D.i2z,),λc d=>?_,)
  .rw[I.list_inj q1 C]at Z;rw[I.list_inj q2 B]at Y;rw[ex]at Z;rw[ey]at Y;cases Z;cases Y;rfl
  .let h0:=(F c d).1;let:c≠↥s:=by
    let(o4,a8,_):=l;let(o5,a0,_):=j;simp only[af,jj,or_false]at d;rcases d with rfl|rfl|rfl|rfl|rfl
    .exact nz.symm
    .exact vl<|bi g
    .exact vl<|bi m
    .exact vl<|bi a8
    .exact vl<|bi a0
   rw[av this];exact h0
 done:=by
  intro X R N S d i Od s σ H E I F f Q;subst R N S;let(xs,ys,C,B,O):=Q;let(n,g,(p,q,m),l,j):=f;let(us,L,M,_):=I.list C;let(vs,G,pv,_):=I.list B;let l1:=L.length;let l2:=G.length;refine NA (I.ok.hd d) D n g m l j M.isList pv.isList ?_ λV k=>⟨U,I.turnedL (ch:=[z,TO,t,r]) (λc d=>F c (by simp at d⊢;rcases d with e|e|e|e <;> simp[e])) λc o d e=>?_⟩
  .rcases O with O|O
   .exact .inl (by simp;lia)
   .exact .inr (by simp;lia)
  .simp only[af,jj,or_false,not_or]at d;exact k c o d.1 d.2.1 d.2.2.1 d.2.2.2 e
 self:=λ_ _ _ _ _ f h=>NB f.1 h
inductive CH(K:bd)(R:It->RK)(vs:Oo V)(H1:Hp):Prop
 |mk (a b:_)(_:vs=[.ref a,.ref b])(_:(∃xs,SqL K H1 a xs))(_:(∃ys,SqL K H1 b ys))(_:R (Itz K a b) H1)
def  GS(K:bd)(b:TA):TI:=λσ H R=>b σ H λa c=>CH K R a c
def rj{k e:Kz}{m:TA}{p pos:Pos}{j:Oo Kz} {x1} {tp:Pos}(N:Gl X "zip") (hm:X.mg "zip" = N9) (O:PA X [k,e] m)
  (M:KD [k,e] X.env=[(Ob,eval k X.env),(Ob,eval e X.env)]:=by rfl)(g:KD [e] X.env=[(Ob,eval e X.env)]:=by rfl) :
  PI X (.Tuple j x1 tp) (.Call (.Name "zip" p) [k,e] [] pos) (GS X.K m):=by
 intro Od s σ H R I h;refine Call_ (fK I N hm P1<|nw (thn (O pos Od s σ H _ I h) λC d (B,T,f,F,L,)=>?_) (by rw[M,g]) (by rw[g];rfl));let(a,b,rfl,(Y,J),(W,G),q):=L;let(u,v,rfl,E,D):=F.two;cases (show u=dL a from E);cases (show v=dL b from D);let(C,_,n,_):=f.list J;let(B,_,pv,_):=f.list G;let(oa,S,_):=id n.isList;let(Z,Q,_):=id pv.isList;let r:a<↥d:=bi S;let o:b<↥d:=bi Q;refine call_zip_2 n.isList pv.isList λP l A z y x V w=>?_
 calc NB (s:={ d with heap:=P }) l ?_;refine(↥d+4,[↥d+4,↥d+2,↥d+3,↥d,↥d+1],CG (↥d+4) (↥d+2) (↥d+3) ↥d (↥d+1) a b,Itz X.K a b,T,U,f.kept (t':=d.toks) w,zQ ?_,(l,A,(_,_,z,),y,x,),λc t=>?_,q,)
 .refine(?_,?_,?_,?_,?_,?_,?_,?_,?_,?_,?_,?_,?_,?_,?_,?_,?_,?_,) <;> first|exact vl ∅|exact wz ∅|exact vl r|exact vl o|exact vl (v5 r<|xc _ _)|exact vl (v5 o<|xc _ _)
 .let i:↥d<=c:=by
   simp only[af,jj,or_false]at t;rcases t with rfl|rfl|rfl|rfl|rfl <;> lia
  calc f.fpOk i<|f.hok.fresh i
def rm{K:bd}{a b:Ki}{xs ys:Oo V}{g:TG}{o:TS}{D:Ends}{σ:St}{H:Hp}(c:Nat->RJ)(z:c 0 σ H)(u:∀i σ H,c i σ H->SqL K H a xs/\SqL K H b ys)
  (t:∀i x y σ H T,xs[i]?=N8 x->ys[i]?=N8 y->c i σ H->H T=N9->g (.ref T) σ (upd H T<|.tup [x,y]) λd n=>o { D with nx:=c<|i+1,ct:=c<|i+1,bk:=D.nx } d n)
  (hd:∀σ H,c (min ⇑xs ⇑ys) σ H->D.nx σ H) :
  ∃W:Nat->Nat->RJ,(∃m,W 0 m σ H)/\∀i m σ H,W i m σ H ->
   ((Itz K a b).stop i H/\D.nx σ H)\/((Itz K a b).go i H/\∃N:RJ,(∀f H',N f H'->∃q,q<m/\W (i+1) q f H')/\∀x H',(Itz K a b).yld i H x H'->g x σ H' λd n=>o { D with nx:=N,ct:=N,bk:=D.nx } d n):=by
 refine(λi m σ H=>m=min ⇑xs ⇑ys-i/\i<=min ⇑xs ⇑ys/\c i σ H,(min ⇑xs ⇑ys,by simp,v3 _,z,),?_,);rintro i m σ H ⟨rfl,hi,p⟩;let(j,h):=u i σ H p;by_cases lt:i<min ⇑xs ⇑ys
 .let l:xs[i]?=N8 xs[i]:=JP ∅;let k:ys[i]?=N8 ys[i]:=JP ∅;refine .inr ((xs,ys,_,_,j,h,l,k,),c<|i+1,λf H' s=>(_,?_,U,lt,s,),λv H' r=>?_,)
  .lia
  .let(T,w,rfl,e):=r;rw[e xs ys _ _ j h l k];exact t i _ _ σ H T l k p w
 .let e:i=min ⇑xs ⇑ys:=∅
  subst e;calc .inl ((xs,ys,j,h,∅,),hd σ H p,)
def pP{X:Cx}{K:bd}(h:X.K=K):cF X (.type "list") (λxs H Q=>∃p ys,xs=[.ref p]/\(SqL K H p ys\/SqT K H p ys)/\∀l,H l=N9->Q (.ref l) (upd H l<|.lst ys)):=h ▸ gq
set_option maxRecDepth 100000
abbrev jD(h:Kj)(z TI TO a:Ki)(b:Bool):Prop :=
 h.get? z=N8 { cls:=.type "zip",dict:=N9,data:=.fields #[K5 a,.bool b,.bool Ob,.ref TI,.ref TO],slots:=#[] }
def kq{a:Ki}{Q:Option Obj->Ks->Prop}(h:Q (s.heap.get? a) s):Kw (model prog w) A (loadIfAlive a) Q E s:=λ_ _ _=>h
def qD{z TI TO a:Ki}{b:Bool}{o:Obj}{Q:Bool->Ks->Prop}(hz:jD s.heap z TI TO a b)(d:s.heap.get? a=N8 o)
  (h:∀h',jD h' z TI TO a Oa->rc z s.heap h'->Q Ob { s with heap:=h' }):Kw (model prog w) A (xL<|.ref z) Q E s:=by
 unfold xL;calc JZ<|LQ hz U (x:=K5 a) U ?_;show Kw _ _ (loadIfAlive ((a:Int).toNat) >>= _) _ _ _;calc JZ<|kq ?_;rw[JS,d];simp only[Option.isNone_some,Jy,if_false];calc JZ<|LQ hz U (x:=.bool b) U ?_;cases b with
 |true =>
  rw[Oe (by simp)];calc Ka ?_;let e:s={ s with heap:=s.heap }:=by cases s;rfl
  rw[e];exact h s.heap hz<|QJ z s.heap
 |false =>
  rw[Of ⋯];refine JZ (Na hz (by simp) λf g c=>?_);calc Ka<|h f g c
def yf{z TI TO u i p q t:Ki}{W:Bool}{k1 k2:Nat}{xs ys:Array Kd}{x y a b:Kd}{o:Obj}{Q:Option Kd->Ks->Prop}(D:Ny z TI TO i p q t)
  (hz:jD s.heap z TI TO u W)(G:s.heap.get? u=N8 o)(C:Nx s.heap TI (.ref i) (.ref p))(X:Nx s.heap TO a b)
  (R:s.heap.IsListIter i q k1)(P:s.heap.IsListIter p t k2)(B:s.heap.IsList q xs)(v:s.heap.IsList t ys)(N:xs[k1]?=N8 x)(M:ys[k2]?=N8 y)
  (O:∀h',jD h' z TI TO u Oa->h'.IsListIter i q (k1+1)->h'.IsListIter p t (k2+1)->Nx h' ↥s x y->h'.objs.size=↥s+1 ->
   (∀c o,c≠z->c≠i->c≠p->s.heap.get? c=N8 o->h'.get? c=N8 o)->Q (N8<|.ref ↥s) { s with heap:=h' }) :
  Kw (model prog w) A (K2<|.ref z) Q E s:=by
 let H:s.TypeIs (.ref z) "zip" := (_,hz,U,);unfold K2;calc JZ<|MA<|LS (name:=s!"__next__") H Po<|LU Po H F.entry_zip_next ?_<|F.args_zip_next_1 _;show Kw _ _ (field (.ref z) 2 >>= _) _ _ _;calc JZ<|LQ hz U (x:=.bool Ob) U ?_;show Kw _ _ (field (.ref z) 3 >>= _) _ _ _;calc JZ<|LQ hz U (x:=.ref TI) U ?_;calc JZ<|Nk C U ?_;show Kw _ _ (xL (.ref z) >>= _) _ _ _;calc JZ<|qD hz G λK k d=>?_;simp only[Jy,if_false];calc JZ ?_;rw[←Hf];simp only[List.forIn_cons,List.forIn_nil];calc JZ<|JZ<|Kb ?_;show Kw _ _ (My (.ref i) >>= _) _ _ _;calc JZ<|NC (R.extBut d.extBut D.i1z) (B.extBut d.extBut D.l1z) N λJ n g=>Ka ?_;calc Ka ?_;dsimp only;calc JZ<|JZ<|Kb ?_;show Kw _ _ (My (.ref p) >>= _) _ _ _;calc JZ<|NC ((P.extBut d.extBut D.i2z).extBut g.extBut D.i12.symm) ((v.extBut d.extBut D.l2z).extBut g.extBut D.l2i1) M λf l h=>Ka ?_;calc Ka ?_;dsimp only;calc Ka ?_;refine JZ (Np ?_ (by show 2<=Kk;decide));let r:f.objs.size=↥s:=by rw[h.1,g.1,d.1]
 calc Ka (_,U,Ka ?_,);show Q ↑f.objs.size _;let j:jD f z TI TO u true:=h.extBut _ _ D.i2z.symm<|g.extBut _ _ D.i1z.symm k;let m:f.IsListIter i q (k1+1):=n.extBut h.extBut D.i12;let I:(f.push { cls:=.type "tuple",data:=.seq #[x,y] }).get? f.objs.size=N8 { cls:=.type "tuple",data:=.seq #[x,y] }:=bn _ U;let L:(f.push { cls:=.type "tuple",data:=.seq #[x,y] }).objs.size=↥s+1:=by rw[ln,r]
 rw[r]at I⊢;calc O _ (am _ j) (m.at λo e=>am _ e) (l.at λo e=>am _ e) I L λc o V T S e=>am _<|h.extBut _ _ S<|g.extBut _ _ T<|d.extBut _ _ V e
def zR{z TI TO N j i p n:Ki}{Y:Bool}{k1 k2:Nat}{xs ys:Array Kd}{a b:Kd}{o:Obj}{Q:Option Kd->Ks->Prop}(J:A.handled=N9)(D:Ny z TI TO j i p n)
  (hz:jD s.heap z TI TO N Y)(G:s.heap.get? N=N8 o)(C:Nx s.heap TI (.ref j) (.ref i))(Z:Nx s.heap TO a b)
  (L:s.heap.IsListIter j p k1)(X:s.heap.IsListIter i n k2)(l:s.heap.IsList p xs)(y:s.heap.IsList n ys)(R:xs[k1]?=N9\/ys[k2]?=N9)
  (W:∀h',(∀c o,c≠z->c≠j->c≠i->s.heap.get? c=N8 o->h'.get? c=N8 o)->Q N9 { s with heap:=h' }) :
  Kw (model prog w) A (K2<|.ref z) Q E s:=by
 let K:s.TypeIs (.ref z) "zip" := (_,hz,U,);unfold K2;calc JZ<|MA<|LS (name:=s!"__next__") K Po<|LU Po K F.entry_zip_next ?_<|F.args_zip_next_1 _;show Kw _ _ (field (.ref z) 2 >>= _) _ _ _;calc JZ<|LQ hz U (x:=.bool Ob) U ?_;show Kw _ _ (field (.ref z) 3 >>= _) _ _ _;calc JZ<|LQ hz U (x:=.ref TI) U ?_;calc JZ<|Nk C U ?_;show Kw _ _ (xL (.ref z) >>= _) _ _ _;calc JZ<|qD hz G λP H d=>?_;simp only[Jy,if_false];calc JZ ?_;rw[←Hf];simp only[List.forIn_cons,List.forIn_nil];calc JZ<|JZ<|Kb ?_;show Kw _ _ (My (.ref j) >>= _) _ _ _
 let fin:∀h' e,(∀c o,c≠z->c≠j->c≠i->s.heap.get? c=N8 o->h'.get? c=N8 o)->(∃o,h'.get? e=N8 o/\o.cls=.type "StopIteration") ->
   Kw (model prog w) A (do if ←ND (.ref e) (.type "StopIteration")then pure N9 else throw (.ref e)) Q E { s with heap:=h' }:=λh' e k (S,v,B,)=>by
  calc JZ<|Ni (T := "StopIteration") (b:=Oa) (S,v,B,) Nj ?_;exact Ka<|W _ k
 cases hx:xs[k1]? with
 |none =>
  calc JZ<|NF J (L.extBut d.extBut D.i1z) (l.extBut d.extBut D.l1z) hx λm e f r=>?_;exact fin _ _ (λc o u t M q=>f _ _ t<|d.extBut _ _ u q) r
 |some x =>
  let V:ys[k2]?=none:=by rcases R with h|h;rw[hx]at h;cases h;exact h
  calc JZ<|NC (L.extBut d.extBut D.i1z) (l.extBut d.extBut D.l1z) hx λm I f=>Ka ?_;calc Ka ?_;dsimp only;calc JZ<|JZ<|Kb ?_;show Kw _ _ (My (.ref i) >>= _) _ _ _;calc JZ<|NF J ((X.extBut d.extBut D.i2z).extBut f.extBut D.i12.symm) ((y.extBut d.extBut D.l2z).extBut f.extBut D.l2i1) V λO e g r=>?_;calc fin _ _ (λc o u t M q=>g _ _ M<|f.extBut _ _ t<|d.extBut _ _ u q) r
section
variable{R:Lq->Ks->Prop}
def neA{a T:Ki}{N:Nat}(h:a<N)(h':N<=T):T≠a:=wz<|v5 h h'
def  CI(h:Kj)(z TI TO:Ki)(N:Nat)(i:Nat):Prop:=(i=0/\IsZip h z TI TO .none)\/∃a b o,N<=a/\a≠z/\jD h z TI TO a b/\h.get? a=N8 o/\o.cls=.type "tuple"
def vA{z TI TO B v J I S:Ki}{xs ys:Array Kd}{res:Kd}(hh:A.handled=N9)(D:Ny z TI TO B v J I)(N:Nat)(hz:z<N)(c1:TI<N)(a8:TO<N)(V:B<N)(Q:v<N)(c0:J<N)(b6:I<N)(hS:S<N)
  (m:S≠z/\S≠TI/\S≠TO/\S≠B/\S≠v/\S≠J/\S≠I)(hn:min xs.size ys.size<=Kk) :
  ∀(d i:Nat)(s:Ks)(l:Array Kd)(c:Nat)(ts:Oo Ki),min xs.size ys.size=i+d->N<=↥s->CI s.heap z TI TO N i->Nx s.heap TI (.ref B) (.ref v)->(∃a b,Nx s.heap TO a b) ->
   s.heap.IsListIter B J i->s.heap.IsListIter v I i->s.heap.IsList J xs->s.heap.IsList I ys->s.heap.get? S=N8 { cls:=.type "list",dict:=N9,data:=.seq l c,slots:=#[] } ->
   l.toList=ts.map dL->⇑ts=i->ts.Nodup->(∀(j:Nat)(T:Ki),ts[j]?=N8 T->N<=T/\∃x y,xs[j]?=N8 x/\ys[j]?=N8 y/\Nx s.heap T x y) ->
   (∀(h':Kj)(zO:Array Kd)(c':Nat)(n:Oo Ki),(∀b o,b<N->b≠S->b≠z->b≠TO->b≠B->b≠v->s.heap.get? b=N8 o->h'.get? b=N8 o)->h'.get? S=N8 { cls:=.type "list",dict:=N9,data:=.seq zO c',slots:=#[] } ->
    zO.toList=n.map dL->⇑n=min xs.size ys.size->n.Nodup->(∀(j:Nat)(T:Ki),n[j]?=N8 T->N<=T/\∃x y,xs[j]?=N8 x/\ys[j]?=N8 y/\Nx h' T x y)->R (.ok<|.ret res) { s with heap:=h' }) ->
   Lu (model prog w) A (.builtin "list.extend.loop" ([.ref S,.ref z,res],[],)) R s:=by
 intro d;induction d with
 |zero =>
  intro i s l c ts e Z r W (a,b,p2,) t1 t2 q1 q2 g ea el nd hts fin;calc Mu F.entry_extend_loop ?_;rw[lm pi _];show Kw _ A.in1 (K2 (.ref z) >>= _) _ _ s;let vx:xs[i]?=N9\/ys[i]?=none:=by
   by_cases hx:xs.size<=i
   .exact .inl<|Ou hx
   .exact .inr<|Ou ∅
  let O:∀h',(∀b o,b≠z->b≠TO->b≠B->b≠v->s.heap.get? b=N8 o->h'.get? b=N8 o)->R (.ok<|.ret res) { s with heap:=h' }:=λh' k=>by
   refine fin h' l c ts (λb o _ _ M b2 L K q=>k b o M b2 L K q) (k S _ m.1 m.2.2.1 m.2.2.2.1 m.2.2.2.2.1 g) ea ∅ nd λj T C=>?_
   let(h,x,y,P,G,E):=hts j T C;exact(h,x,y,P,G,k T _ (neA hz h) (neA a8 h) (neA V h) (neA Q h) E,)
  rcases r with⟨_,r⟩|⟨Y,bb,o,H,_,r,gT,_⟩
  .exact JZ<|NA (by simp[hh]) D r W p2 t1 t2 q1 q2 vx λh' k=>Ka<|O h' k
  .exact JZ<|zR (by simp[hh]) D r gT W p2 t1 t2 q1 q2 vx λh' k=>Ka<|O h' λb o M _ L K q=>k b o M L K q
 |succ d ih =>
  intro i s l c ts e Z r W (a,b,p2,) t1 t2 q1 q2 g ea el nd hts fin;let ix:i<xs.size:=∅
  let iy:i<ys.size:=∅
  calc Mu F.entry_extend_loop ?_;rw[lm pi _];show Kw _ A.in1 (K2 (.ref z) >>= _) _ _ s;let a0:l.size=i:=by rw[←FV,ea,aa,el]
  let go:∀h',CI h' z TI TO N (i+1)->(∃a b,Nx h' TO a b)->h'.IsListIter B J (i+1)->h'.IsListIter v I (i+1)->Nx h' ↥s xs[i] ys[i]->h'.objs.size=↥s+1 ->
    (∀b o,b≠z->b≠TO->b≠B->b≠v->s.heap.get? b=N8 o->h'.get? b=N8 o) ->
    Kw (model prog w) A.in1 (Nt S (·.push (.ref ↥s)) >>= λ_=>again<|.builtin "list.extend.loop" ([.ref S,.ref z,res],[],))
     (λfin s'=>match fin with | .done f=>R (.ok f) s' | .again c'=>c'.quiet=Oa/\Lu (model prog w) A c' R s') (λe s'=>R (.error e) s') { s with heap:=h' }:=λh' z1 z2 z3 z4 z5 z6 k=>by
   let gS:h'.get? S=N8 { cls:=.type "list",dict:=N9,data:=.seq l c,slots:=#[] }:=k S _ m.1 m.2.2.1 m.2.2.2.1 m.2.2.2.2.1 g;refine JZ (Nu gS U ?_ (by rw[a0];lia) (by show(l.push _).size<=Kk+1;rw[Array.size_push,a0];lia));let gU:=pc (im (·.push (dL ↥s))) gS U;generalize hH:h'.update S (im (·.push (dL ↥s)))=h2 at gU⊢;let sb:rc S h' h2:=hH ▸ v4 ..;let p:∀b o,b≠S->h'.get? b=N8 o->h2.get? b=N8 o:=λb o hb q=>(sb.2 b hb).trans q
   let a9:h2.objs.size=↥s+1:=by rw[sb.1,z6]
   refine Ka (MK pi _,ih (i+1) { s with heap:=h2 } (l.push<|.ref ↥s) _ (ts++[↥s]) ∅ (by rw[a9];lia) ?_ (p TI _ m.2.1.symm<|k TI _ D.TIz D.TITO D.TIi1 D.TIi2 W) ?_ (z3.at λo q=>p B o m.2.2.2.1.symm q) (z4.at λo q=>p v o m.2.2.2.2.1.symm q)
    ((q1.at λo q=>k J o D.l1z D.l1TO D.l1i1 D.l1i2 q).at λo q=>p J o m.2.2.2.2.2.1.symm q) ((q2.at λo q=>k I o D.l2z D.l2TO D.l2i1 D.l2i2 q).at λo q=>p I o m.2.2.2.2.2.2.symm q) gU (by rw[GX,ea,fj];rfl) (by simp[el]) ?_ (λj T C=>?_) λh3 zO c' n k3 g3 e3 l3 n3 f3=>?_,)
   .rcases z1 with⟨z',_⟩|⟨Y,bb,o,h,P,G,E,X⟩
    .exact Og z' ∅
    .exact .inr (Y,bb,o,h,P,p z _ m.1.symm G,p Y _ (neA hS h) E,X,)
   .let(a',b',q):=z2;exact(a',b',p TO _ m.2.2.1.symm q,)
   .rw[o3];refine(nd,by simp,λt ht u hu=>?_,);let eu:u=↥s:= ~~~hu
    let(j,C):=QO.mp ht;let(_,x,y,_,_,gp):=hts j t C;let:=bi gp;exact λq=>w4 _ (by rw[q,eu]at this;exact this)
   .rw[List.getElem?_append]at C;split at C
    .let(h,x,y,P,G,E):=hts j T C;exact(h,x,y,P,G,p T _ (neA hS h)<|k T _ (neA hz h) (neA a8 h) (neA V h) (neA Q h) E,)
    .rename_i hlt
     have b5:j=i:=by
      let(q,_):=JQ.mp C;simp at q;lia
     subst b5;rw[el,Bu]at C;let eT:↥s=T:= ~~~C
     subst eT;exact(Z,xs[j],ys[j],Gk ix,Gk iy,p _ _ (neA hS Z) z5,)
   .exact fin h3 zO c' n (λb o b0 bS M b2 L K q=>k3 b o b0 bS M b2 L K<|p b o bS<|k b o M b2 L K q) g3 e3 l3 n3 f3
  rcases r with⟨_,r⟩|⟨Y,bb,o,H,Fp,r,gT,cT⟩
  .refine JZ<|Nz D r W p2 t1 t2 q1 q2 (x:=xs[i]) (y:=ys[i]) (Gk ix) (Gk iy) λh' h P G E X a6 a7=>?_;exact go h' (.inr (↥s,Ob,_,Z,wz<|v5 hz Z,h,X,U,)) (_,_,P,) G E X a6 a7
  .refine JZ<|yf D r gT W p2 t1 t2 q1 q2 (x:=xs[i]) (y:=ys[i]) (Gk ix) (Gk iy) λh' h G E X a6 a7=>?_;calc go h' (.inr (Y,Oa,o,H,Fp,h,a7 Y o Fp (neA V H) (neA Q H) gT,cT,)) (_,_,a7 TO _ D.TOz D.TOi1 D.TOi2 p2,) G E X a6 λb o M _ L K q=>a7 b o M L K q
end
set_option maxRecDepth 100000
def vB:LZ (.type "zip") "__len__" = pure none:=by rw[MY,MZ];kernel_rfl
def tq:LZ (.type "zip") "__length_hint__" = pure none:=by rw[MY,MZ];kernel_rfl
def pQ{z TI TO m l I H:Ki}{xs ys:Array Kd}{Q:Kd->Ks->Prop}(hh:A.handled=N9)(D:Ny z TI TO m l I H)(G:IsZip s.heap z TI TO .none)(V:Nx s.heap TI (.ref m) (.ref l))(S:Nx s.heap TO .none .none)
  (t1:s.heap.IsListIter m I 0)(O:s.heap.IsListIter l H 0)(R:s.heap.IsList I xs)(P:s.heap.IsList H ys)(Z:min xs.size ys.size<=Kk)
  (h:∀(h':Kj)(i:Array Kd)(c:Nat)(ts:Oo Ki),(∀b o,b≠z->b≠TO->b≠m->b≠l->s.heap.get? b=N8 o->h'.get? b=N8 o)->h'.get? ↥s=N8 { cls:=.type "list",dict:=N9,data:=.seq i c,slots:=#[] } ->
   i.toList=ts.map dL->⇑ts=min xs.size ys.size->ts.Nodup->(∀(j:Nat)(T:Ki),ts[j]?=N8 T->↥s+1<=T/\∃x y,xs[j]?=N8 x/\ys[j]?=N8 y/\Nx h' T x y)->Q (.ref ↥s) { s with heap:=h' }) :
  Kw (model prog w) A (call (.type "list") [.ref z]) Q E s:=by
 let L:z<↥s:=bi G;let B:TI<↥s:=bi V;let v:TO<↥s:=bi S;let u:m<↥s:=let ⟨_,e,_⟩:=t1;bi e;let t:l<↥s:=let ⟨_,e,_⟩:=O;bi e;let r:I<↥s:=let ⟨_,e,_⟩:=R;bi e;let q:H<↥s:=let ⟨_,e,_⟩:=P;bi e
 refine NG (Q₁:=λobj k=>obj=.ref ↥s/\k={ s with heap:=s.heap.push { cls:=.type "list",data:=.seq #[] } }) F.called_list (F.typeCall_list_1 _) F.entry_list_init
  (code_list_new _ (U,U,)) λobj k C=>?_
 let(rfl,rfl):=C;let K:(s.heap.push { cls:=.type "list",data:=.seq #[] }).get? ↥s=N8 { cls:=.type "list",data:=.seq #[] }:=bn _ U;calc((_,K,U,),F.args_list_init_2 _ _,?_,);show Kw _ _ (do let N ←QW (.ref ↥s);Le.List.listUpdate (.ref ↥s) (λ_=>#[]);letGo N.toList.reverse;Do (.ref ↥s) (.ref z) .none) _ _ _;calc JZ ?_;unfold QW;calc JZ<|Nk K U<|Ka ?_;show Kw _ _ (Nt ↥s (λ_=>#[]) >>= λ_=>letGo (#[]:Array Kd).toList.reverse >>= λ_=>Do (.ref ↥s) (.ref z) .none) _ _ _;calc JZ<|Nu K U ?_;let a:=pc (im<|λ_=>(#[]:Array Kd)) K U;calc JZ<|NH ?_;let J:∀b o,s.heap.get? b=N8 o->((s.heap.push { cls:=.type "list",data:=.seq #[] }).update ↥s<|im<|λ_=>(#[]:Array Kd)).get? b=N8 o:=λb o e =>
  (mo _ _<|wz<|bi e).trans (am _ e)
 let p:((s.heap.push { cls:=.type "list",data:=.seq #[] }).update ↥s<|im<|λ_=>(#[]:Array Kd)).objs.size=↥s+1:=by rw[wE,ln]
 generalize (s.heap.push { cls:=.type "list",data:=.seq #[] }).update ↥s (im<|λ_=>(#[]:Array Kd))=hA at a J p⊢;let M:Ot { s with heap:=hA } (.ref z) "zip" := (_,J _ _ G,U,);unfold Do;calc JZ<|LW M ?_;let h1:OI (.ref ↥s) (.ref z)=false:=by simp[OI];exact wz L
 let h2:(xz "zip" == xz "list")=false:=⋯
 let h3:(xz "zip" == xz "tuple")=false:=⋯
 simp only[h1,h2,h3,Bool.or_false,Jy,if_false];calc JZ<|NB (s:={ s with heap:=hA }) (J _ _ G) ?_;calc JZ<|Kb ?_;unfold Qp;calc JZ<|Nr M vB ?_;show Kw _ _ (specialOf (dL z) s!"__length_hint__" >>= _) _ _ _;calc JZ<|Nr M tq ?_;calc Ka ?_;show Kw _ _ (rule "list.extend.makes-room" >>= λ_=>QV (.ref ↥s) >>= λ_ =>
  again (.builtin "list.extend.loop" ([.ref ↥s,.ref z,.none],[],))) _ _ _
 calc JZ<|MD ?_;calc JZ ?_;show Kw _ _ (Nt ↥s (·.push .none) >>= λ_=>Nt ↥s (·.pop)) _ _ _;calc JZ<|Nu (s:={ s with heap:=hA }) a U ?_;let f:=pc (im (·.push lv)) a U;refine Nu (hz:=by seq_fits) f U ?_;let d:=pc (im (·.pop)) f U;let g:∀b o,s.heap.get? b=N8 o->((hA.update ↥s (im (·.push lv))).update ↥s (im (·.pop))).get? b=N8 o :=
  λb o e=>(mo _ _<|wz<|bi e).trans<|(mo _ _<|wz<|bi e).trans<|J b o e
 let n:((hA.update ↥s (im (·.push lv))).update ↥s (im (·.pop))).objs.size=↥s+1:=by rw[wE,wE,p]
 generalize (hA.update ↥s (im (·.push lv))).update ↥s (im (·.pop))=hB at d g n⊢
 refine Ka (MK pi _,vA (by simp[hh]) D (↥s+1) (wI L) (wI B) (wI v) (wI u) (wI t) (wI r) (wI q) (yl _)
  (wz L,wz B,wz v,wz u,wz t,wz r,wz q,) Z (min xs.size ys.size) 0 { s with heap:=hB } #[] _ [] (yP _).symm (by rw[n];exact vk _)
  (.inl (U,g _ _ G,)) (g _ _ V) (_,_,g _ _ S,) (t1.at λo e=>g _ _ e) (O.at λo e=>g _ _ e) (R.at λo e=>g _ _ e) (P.at λo e=>g _ _ e) d U U nY (λj T hj=>by simp at hj) λh' i c ts Y g3 e3 X W f3=>?_,)
 exact(U,h h' i c ts (λb o b1 b2 b3 b4 e=>Y b o (wI<|bi e) (vl<|bi e) b1 b2 b3 b4<|g b o e) g3 e3 X W f3,)
set_option maxRecDepth 100000
def bh:∀{l L:Oo Int},l.Nodup->(∀x∈l,x∈L)->⇑l<=L.length
 | [],_,_,_=>v3 _
 |x :: l,L,hn,hs=>by
  let(f,d):=lX.mp hn;let b:=hs x cf;let c:=bh (L:=L.erase x) d λy a=>(List.mem_erase_of_ne<|λ(e:y=x)=>f<|e ▸ a).mpr<|hs y<|dy _ a
  rw[List.length_erase_of_mem b]at c;let:0<L.length:=List.length_pos_of_mem b;rw[en];lia
def rq:∀{vs:Oo Kd},(∀v∈vs,∃u,v=.int (fk v) u)->IntsAre vs (vs.map fk)
 | [],_=>.nil
 |v :: vs,h=>by
  let(u,e):=h v cf;rw[e];calc .cons _ u<|rq λx a=>h x<|dy _ a
def qF:∀{vs:Oo Kd}{a:Oo Int},IntsAre vs a->Vals (a.map ut) vs
 |_,_,.nil=>.nil
 |_,_,.cons n t r=>.cons (t,U,)<|qF r
def ij:∀{a:Oo Int},a.Pairwise (· <= ·)->a.Nodup->a.Pairwise (· < ·)
 | [],_,_=>.nil
 |n :: a,h1,h2=>by
  let(f,d):=nI.mp h1;let(c,b2):=lX.mp h2;calc .cons (λm b=>?_)<|ij d b2;let:=f m b;let:n≠m:=λe=>c<|e ▸ b
  lia
section
variable{H':Hp}
def Inv.grow{s':Ks}(I:Inv X Od σ H s)(k:∀b o,s.heap.get? b=N8 o->s'.heap.get? b=N8 o)(p:s'.gens=s.gens)(d:s'.os=s.os)(a:∀b,b<↥s->H' b=H b)
  (f:∀b u,↥s<=b->H' b=N8 u->bO X.prog X.w H' s'.heap b u):Inv X Od σ H' s':=by
 let(h',g',d',t',i):=s';obtain rfl:g'=s.gens:=p;obtain rfl:i=s.os:=d;let lt:∀{b u},H b=N8 u->b<↥s:=λ{b u} e=>by
  rcases Fn b ↥s with z|z
  .exact z
  .rw[I.hok.fresh z]at e;cases e
 let same:∀{b u},H b=N8 u->H' b=N8 u:=λe=>by rw[a _ (lt e)];exact e
 exact I.step (h':=h') (g':=s.gens) (d':=d') (t':=t') (ch:=[]) (λ_ z=>nomatch z) (λb o _ _ _ e _=>k b o e) (λb o _ _ _ e _=>(o.slots,k b o e,))
  (λb o _ e n=>by rw[a _ (bi e)];exact n) (λb o _ e=>(o,k b o e,)) (λb g e=>same e) (λb o u e=>same e) (λb ps e=>(#[],by rw[same e];simp,))
  (λm l=>by
   let(o,t,v,j,r):=l;exact(o,t,v,k _ o j,r,))
  (λb u e=>by
   rcases Fn b ↥s with z|z
   .rw[a _ z]at e;exact(I.hok b u e).stay (λc h _ q=>k c h q) (λc q=>same q) λc g q=>same q
   .exact f b u z e)
  I.bare
end
def  vC(w:Ke)(a:Ki)(zs:Oo Int):HO:=.ext λh=>∃m,dM h a (!dP w) zs m
def nW:∀{zs:Oo Int}{us:Oo Kd},Vals (zs.map ut) us->∀(i:Nat)(v:Kd),us[i]?=N8 v->∃z t,zs[i]?=N8 z/\v=.int z t
 | [],_,.nil,i,v,h=>by simp at h
 |z :: zs,_,.cons (t,e,) r,0,v,h=>by simp at h;exact(z,t,U,by rw[←h,e],)
 |z :: zs,_,.cons _ r,i+1,v,h=>by
  let(a,t,c,b):=nW r i v<|~~~h;calc(a,t,~~~c,b,)
def qG{w:Ke}(A:X.w=w)(B:X.calm=Oa):cF X (.type "set") (λxs H Q=>∃(p:Ki)(zs:Oo Int),xs=[.ref p]/\SqL X.K H p (zs.map ut)/\⇑zs<=1000/\∀l,H l=N9->Q (.ref l) (upd H l<|vC w l zs)):=by
 subst A;intro Od s σ H xs E Q I r h;let(p,zs,rfl,C,F,q):=h;let(u,rfl,j):=r.one;obtain rfl:u=dL p:=j;let(D,c,n,_):=I.list C;let d:=⇑c;rw[aa]at d;refine ya (ks:=zs) (I.ok.hd B) n.isList (λi v e=>?_) (~~~d) (by unfold MH;simp;lia) λh' f m x G z=>?_
 .exact nW c i v<|~~~e
 .refine(.ref ↥s,_,I.laid (a:=↥s) (o:=vC X.w ↥s zs) (h':=h') (t':=f) (λb o q=>z b o (bi q) q) (vk _) ?_,U,q _ I.fresh,);calc((m,x,),?_,λL J (t,y,) k=>(t,y.stay k,),);let(o,_,_,_,g,_):=x;calc(o,g,)
inductive Fq(K:bd)(Q:VK)(vs:Oo V)(H1:Hp):Prop
 |mk (a b xs ys:_)(_:vs=[.ref a,.ref b])(_:SqL K H1 a xs)(_:SqL K H1 b ys)(_:∀(D:Ki)(ts:Oo Ki)(H2:Hp),⇑ts=min ⇑xs ⇑ys->(∀c o,H1 c=N8 o->H2 c=N8 o)->H1 D=N9->H2 D=N8 (.lst<|ts.map mt) ->
  (∀(j:Nat)(x y:V),xs[j]?=N8 x->ys[j]?=N8 y->∃T,ts[j]?=N8 T/\H1 T=N9/\H2 T=N8 (.tup [x,y]))->Q (.ref D) H2):Fq K Q vs H1
def  tLZ(K:bd)(b:TA):TE:=λσ H Q=>b σ H λa c=>Fq K Q a c
def ltA{c n:Nat}(h:c<n)(k:Nat):c≠n+k:=vl<|v5 h<|xc _ _
def  ip(xs ys:Oo V)(ts:Oo Ki)(b:Ki):Option HO :=
 match ts.idxOf? b with
 |some j=>match xs[j]?,ys[j]? with
  |some x,N8 y=>N8<|.tup [x,y]
  |_,_=>N9
 |none=>N9
def vD{J C:Kz}{ta:TA}{p1 p2 Fs DK:Pos}(a6:X.calm=Oa)(hg:Gl X "list") (hm:X.mg "list" = N9) (a5:Gl X "zip") (a4:X.mg "zip" = N9) (ha:PA X [J,C] ta)
  (hs:KD [J,C] X.env=[(Ob,eval J X.env),(Ob,eval C X.env)]:=by rfl)(M:KD [C] X.env=[(Ob,eval C X.env)]:=by rfl) :
  PE X (.Call (.Name "list" p1) [.Call (.Name "zip" p2) [J,C] [] DK] [] Fs) (tLZ X.K ta):=by
 intro Od s σ H Q I h;calc Kc<|fK I hg hm GT ?_;calc nw ?_ U U;show Kw _ _ (spliced ((Ob,eval (.Call (.Name "zip" p2) [J,C] [] DK) X.env) :: KC Fs (KD [] X.env))) _ _ s;calc Pz ?_;calc Kc<|fK I a5 a4 P1 ?_;refine nw (thn (ha DK Od s σ H _ I h) λus f (vs,W,B,r1,q1,)=>?_) (by rw[hs,M]) (by rw[M];rfl);let(a,b,p,n,rfl,qa,qb,q):=q1;let(u,v,rfl,ru,rv):=r1.two;cases (show u=dL a from ru);cases (show v=dL b from rv);let(us,vu,pu,zu):=B.list qa;let(vs,vv,pv,zv):=B.list qb;let(oa,ea,_):=id pu.isList;let(ob,eb,_):=id pv.isList;let la:a<↥f:=bi ea;let lb:b<↥f:=bi eb;let l1:=⇑vu;let l2:=⇑vv;refine call_zip_2 pu.isList pv.isList λR z1 z2 z3 z4 z5 z6 Z=>?_
 calc PC ?_;let D:Ny (↥f+4) (↥f+2) (↥f+3) ↥f (↥f+1) a b:=by
  calc(?_,?_,?_,?_,?_,?_,?_,?_,?_,?_,?_,?_,?_,?_,?_,?_,?_,?_,) <;> first|exact vl ∅|exact wz ∅|exact vl la|exact vl lb|exact vl (v5 la<|xc _ _)|exact vl (v5 lb<|xc _ _)
 refine pQ (s:={ f with heap:=R }) (B.ok.hd a6) D z1 z2 z3 z4 z5 (pu.isList.at λo e=>Z _ _ e) (pv.isList.at λo e=>Z _ _ e) (by simp;lia) λh2 b0 c d k3 g3 e3 n3 nd S=>?_
 let a3:Ks.heap { f with heap:=R }=R:=rfl;rw[a3]at g3 S k3;rw[z6]at g3 S;let kp:∀c o,f.heap.get? c=N8 o->h2.get? c=N8 o:=λc o e=>by
  let:=bi e;exact k3 c o (ltA this _) (ltA this _) (vl this) (ltA this _)<|Z c o e
 let N:⇑d=min ⇑p ⇑n:=by rw[n3];simp;lia
 let F:∀(j:Nat)(T:Ki),d[j]?=N8 T->d.idxOf? T=N8 j:=λj T w=>by
  let(G,ej):=JQ.mp w;rw[List.idxOf?,Os];refine(G,by simp[ej],λi hi=>?_,);let:d[i]≠d[j]:=λq=>by
   let:=(uG nd).mp q;lia
  simpa[←ej]using this
 let L:∀(T:Ki)(j:Nat),d.idxOf? T=N8 j->d[j]?=N8 T:=λT j w=>by
  rw[List.idxOf?,Os]at w;let(G,e,_):=w;rw[JP G];simpa using e
 let E:∀(T:Ki)(j:Nat),d.idxOf? T=N8 j->↥f+6<=T:=λT j w=>by
  let(a1,_):=S j T<|L T j w;lia
 show EP X Od σ Q _ _;rw[show(Ks.heap { f with heap:=R }).objs.size=↥f+5 from z6];generalize m:(λ(b:Ki)=>if b=↥f+5 then N8 (HO.lst<|d.map mt)else match ip p n d b with|some o=>N8 o|none=>W b)=H2;let hD:H2 (↥f+5)=N8 (.lst<|d.map mt):=by rw[←m];exact Of U
 let hO:∀c,c<↥f->H2 c=W c:=λc hc=>by
  rw[←m];show(if c=↥f+5 then _ else _)=_;rw[Oe (ltA hc 5)];let:ip p n d c=none:=by
   unfold ip;cases e:d.idxOf? c with
   |none=>rfl
   |some j=>exact Og (v5 hc<|vr (xc _ 6)<|E c j e) (w4 _)
  rw[this]
 let hT:∀(j:Nat)(x y:V)(T:Ki),p[j]?=N8 x->n[j]?=N8 y->d[j]?=N8 T->H2 T=N8 (.tup [x,y]):=λj x y T l A g=>by
  let:=E T j<|F j T g;rw[←m];show(if T=↥f+5 then _ else _)=_;rw[Oe (wz<|v5 (yl _) this)];let:ip p n d T=N8 (.tup [x,y]):=by unfold ip;rw[F j T g];dsimp only;rw[l,A]
  rw[this]
 refine(.ref<|↥f+5,H2,B.grow (s':={ f with heap:=h2 }) kp U U hO (λb u hb k=>?_),U,q _ d H2 N (λc o e=>?_) (B.hok.fresh<|xc _ _) hD λj x y l A=>?_,)
 .rw[←m]at k;replace k:(if b=↥f+5 then N8 (HO.lst<|d.map mt)else match ip p n d b with|some o=>N8 o|none=>W b)=N8 u:=k
  by_cases Y:b=↥f+5
  .rw[Of Y]at k;cases k;subst Y;let rv:∀d:Oo Ki,Vals (d.map mt) (d.map dL):=λd=>by
    induction d with
    |nil=>exact .nil
    |cons t r ih=>exact .cons U ih
   refine(by rw[aa,N];lia,d.map dL,c,rv d,?_,);rw[←e3];exact g3
  .rw[Oe Y]at k;cases g:ip p n d b with
   |none=>rw[g]at k;replace k:W b=N8 u:=k;rw[B.hok.fresh hb]at k;cases k
   |some o =>
    rw[g]at k;cases k;unfold ip at g;cases ei:d.idxOf? b with
    |none=>rw[ei]at g;cases g
    |some j =>
     rw[ei]at g;dsimp only at g;cases l:p[j]? with
     |none=>rw[l]at g;cases g
     |some x =>
      cases A:n[j]? with
      |none=>rw[l,A]at g;cases g
      |some y =>
       rw[l,A]at g;cases g;let(_,x',y',fx,fy,gp):=S j b<|L b j ei;let(u1,a8,a2):=vu.get l;let(v1,a7,a0):=vv.get A;let P:us[j]?=N8 x':= ~~~fx
       have O:vs[j]?=N8 y':= ~~~fy
       rw[a8]at P;rw[a7]at O;cases P;cases O;exact(by show 2<=Kk;decide,[x',y'],.cons a2<|.cons a0 .nil,_,gp,U,_,U,)
 .let:c<↥f:=by
   rcases Fn c ↥f with z|z
   .exact z
   .rw[B.hok.fresh z]at e;cases e
  rw[hO c this];exact e
 .let w:j<⇑d:=by
   let(h1,_):=JQ.mp l;let(a9,_):=JQ.mp A;lia
  let g:d[j]?=N8 d[j]:=JP w;calc(d[j],g,B.hok.fresh<|vr (xc _ 6)<|E _ j<|F j _ g,hT j x y _ l A g,)
end _L
namespace PyProof.Rows._T
open PySem PyProof.Rows
def  wV:Bool->Keyed->Array Keyed->Nat->Nat->Nat->StateT SortSt Sem (Option Nat):=sortPriv% PySem.Builtin.gallop
def  fN:Nat->StateT SortSt Sem Unit:=sortPriv% PySem.Builtin.setMinGallop
def  zT:Array Keyed->Array Keyed->StateT SortSt Sem (Array Keyed):=sortPriv% PySem.Builtin.mergeLo
def  zU:Array Keyed->Array Keyed->StateT SortSt Sem (Array Keyed):=sortPriv% PySem.Builtin.mergeHi
def ly(n:Nat):fN n=modify λs=>Pw (kindOf s) (arrOf s) (pendingOf s) n (failedOf s):=rfl
def zV{M:Kv}{A:Kr}{E:Kd->Ks->Prop}{s:Ks}{a α:Type}{c:Prop} [Decidable c] {p q:StateT a Sem α}{Q:α->a->Prop}{st:a}(h:c)(b:wpS M A E s p Q st):wpS M A E s (if c then p else q) Q st:=by rw[Of h];calc b
def fW{M:Kv}{A:Kr}{E:Kd->Ks->Prop}{s:Ks}{a α:Type}{c:Prop} [Decidable c] {p q:StateT a Sem α}{Q:α->a->Prop}{st:a}(h:¬ c)(b:wpS M A E s q Q st):wpS M A E s (if c then p else q) Q st:=by rw[Oe h];calc b
def aE{M:Kv}{A:Kr}{E:Kd->Ks->Prop}{s:Ks}{a α:Type}{c:Prop} [Decidable c] {p q:StateT a Sem α}{Q:α->a->Prop}{st:a}(d:c->wpS M A E s p Q st)(b:¬ c->wpS M A E s q Q st):wpS M A E s (if c then p else q) Q st:=by
 by_cases h:c
 .exact zV h<|d h
 .exact fW h<|b h
def BA{M:Kv}{A:Kr}{E:Kd->Ks->Prop}{s:Ks}{a:Type}{x:a}{Q:PUnit->a->Prop}{st:a}(h:Q ⟨⟩ x):wpS M A E s (set x:StateT a Sem PUnit) Q st:=by
 unfold wpS;rw[StateT.run_set];calc Ka (rfl,h,)
end PyProof.Rows._T
namespace PyProof.Rows._T
open PySem PyProof.Rows
section
variable{M:Kv}{A:Kr}{E:Kd->Ks->Prop}{s:Ks}{ρ π β:Type}
def  Lr(R:ρ->SortSt->Prop)(a V:π->SortSt->Prop):ForInStep (Option ρ×π)->SortSt->Prop
 | .done (N8 r,_),st=>R r st
 | .done (N9,p),st=>a p st
 | .yield (N9,p),st=>V p st
 | .yield (N8 _,_),_=>False
def bC{a b:Nat}{body:Nat->Option ρ×π->StateT SortSt Sem (ForInStep<|Option ρ×π)}{rest:Option ρ×π->StateT SortSt Sem β}{Q:β->SortSt->Prop}{st:SortSt}{p:π}(R:ρ->SortSt->Prop)(d:π->SortSt->Prop)(V:Nat->π->SortSt->Prop)
  (h0:V a p st)(step:∀x p st,a<=x->x<b->V x p st->wpS M A E s (body x (N9,p)) (Lr R d<|V<|x+1) st)(fin:∀p st,V (max a b) p st->d p st)
  (ret:∀r x st,R r st->wpS M A E s (rest (N8 r,x)) Q st)(g:∀p st,d p st->wpS M A E s (rest (N9,p)) Q st):wpS M A E s (forIn [a:b] (N9,p) body >>= rest) Q st:=by
 refine wpS_bind<|wpS_mono (wpS_forRange (I:=λx c st=>∃p,c=(N9,p)/\V x p st) (Q:=λc st=>Lr R d d (.done c) st) ?_ ?_ (p,rfl,h0,)) ?_
 .rintro x c st f e ⟨p,rfl,h⟩;refine wpS_mono (step x p st f e h) λr st h=>?_
  match r,h with
  | .done (N8 r,_),h=>exact h
  | .done (N9,p),h=>exact h
  | .yield (N9,p),h=>exact(p,rfl,h,)
 .rintro c st ⟨p,rfl,h⟩;exact fin p st h
 .rintro⟨r,p⟩ st h;cases r with
  |none=>exact g p st h
  |some r=>calc ret r p st h
end
end PyProof.Rows._T
namespace PyProof.Rows._T
open PySem PyProof.Rows
section
variable{prog:Kf}{w:Ke}{A:Kr}{E:Kd->Ks->Prop}{s:Ks}{κ:SortKind}{S:Keyed->Prop}{rk:Keyed->Int}
def  Ask(prog:Kf)(w:Ke)(A:Kr)(E:Kd->Ks->Prop)(s:Ks)(κ:SortKind)(S:Keyed->Prop)(rk:Keyed->Int):Prop :=
 ∀(x y:Keyed)(a:SortSt)(Q:Option Bool->SortSt->Prop),S x->S y->kindOf a=κ->Q (N8<|Oc<|rk x<rk y) a->wpS (model prog w) A E s (lt' x y) Q a
def  Kx(rk:Keyed->Int)(xs:Array Keyed)(i:Nat):Int:=match xs[i]? with
 |some p=>rk p
 |none=>0
def Kx_at{xs:Array Keyed}{i:Nat}(h:i<xs.size):Kx rk xs i=rk xs[i]:=by unfold Kx;rw[getElem?_pos xs i h]
def cG{xs ys:Array Keyed}{i j:Nat}(h:xs[i]?=ys[j]?):Kx rk xs i=Kx rk ys j:=by unfold Kx;rw[h]
def tD{arr:Array Keyed}{i:Nat}{st:SortSt}{Q:Keyed->SortSt->Prop}(hi:i<arr.size)(h:Q arr[i] st):wpS (model prog w) A E s (elem' arr i) Q st:=by
 rw[elem'_eq,getElem?_pos arr i hi];calc wpS_pure h
def  Bey(rk:Keyed->Int)(left:Bool)(a:Keyed)(arr:Array Keyed)(base i:Nat):Bool :=
 if left=Oa then decide (Kx rk arr (base+i)<rk a)else !Oc (rk a<Kx rk arr (base+i))
def vE{left:Bool}{a:Keyed}{arr:Array Keyed}{base i:Nat}{st:SortSt}{Q:Option Bool->SortSt->Prop}(e:Ask prog w A E s κ S rk)(c:kindOf st=κ)(d:∀x∈arr,S x)(b:S a)(hi:base+i<arr.size)
  (h:Q (N8<|Bey rk left a arr base i) st) :
  wpS (model prog w) A E s (do
   let x ←elem' arr (base+i)
   if left=Oa then lt' x a
    else do
     let __do_lift ←lt' a x
     pure (Option.map (λx=>!x) __do_lift)) Q st:=by
 calc wpS_bind<|tD hi ?_;unfold Bey at h;rw[Kx_at hi]at h;cases left with
 |true=>exact e _ _ st Q (d _<|F0 hi) b c (~~~h)
 |false=>calc wpS_bind (e _ _ st _ b (d _<|F0 hi) c<|wpS_pure<|~~~h)
def  SrtOn(rk:Keyed->Int)(xs:Array Keyed)(lo n:Nat):Prop:=∀i j,lo<=i->i<=j->j<lo+n->Kx rk xs i<=Kx rk xs j
def Bey.anti{left:Bool}{a:Keyed}{arr:Array Keyed}{base n:Nat}(b:SrtOn rk arr base n){i j:Nat}(c:i<=j)(d:j<n)(h:Bey rk left a arr base j=Oa):Bey rk left a arr base i=true:=by
 let:=b (base+i) (base+j) ∅ ∅ ∅;unfold Bey at h⊢;cases left <;> simp at h⊢ <;> lia
structure GM(B:Nat->Bool)(n k lo hi:Nat):Prop where
 l:lo<=hi
 h:hi<=n
 k:k+hi<=lo+n
 t:∀i,i<lo->B i=Oa
 f:∀i,hi<=i->i<n->B i=Ob
def GM.ini{B:Nat->Bool}{n lo hi:Nat}(l:lo<=hi)(h:hi<=n)(t:∀i,i<lo->B i=Oa)(f:∀i,hi<=i->i<n->B i=Ob):GM B n 0 lo hi:=(l,h,(yP hi).symm ▸ vr h (Qc _ _),t,f,)
def GM.up{B:Nat->Bool}{n k lo hi m:Nat}(v:GM B n k lo hi)(anti:∀{i j},i<=j->j<n->B j=Oa->B i=Oa)(b:lo<=m)(a:m<hi)(e:B m=Oa):GM B n (k+1) (m+1) hi :=
 (a,v.h,by have:=v.k;lia,λ_ hi=>anti (zz hi) (v5 a v.h) e,v.f,)
def GM.dn{B:Nat->Bool}{n k lo hi m:Nat}(v:GM B n k lo hi)(anti:∀{i j},i<=j->j<n->B j=Oa->B i=Oa)(b:lo<=m)(a:m<hi)(e:¬ B m=Oa):GM B n (k+1) lo m :=
 (b,vr (wx a) v.h,by have:=v.k;lia,v.t,λ_ b a=>Jo.mpr λc=>e<|anti b a c,)
def GM.stop{B:Nat->Bool}{n k lo hi:Nat}(v:GM B n k lo hi)(c:hi<=lo):GM B n n lo hi:=(v.l,v.h,∅,v.t,v.f,)
def GM.fin{B:Nat->Bool}{n lo hi:Nat}(v:GM B n n lo hi):lo=hi:=by have:=v.k;let:=v.l;lia
structure GR(B:Nat->Bool)(n hint x la of:Nat):Prop where
 x:x+1<=of
 l:la<of
 n:hint+la<n
 b:B (hint+la)=Oa
structure GL(B:Nat->Bool)(hint x la of:Nat):Prop where
 x:x+1<=of
 l:la<of
 n:la<=hint
 b:B (hint-la)=Ob
def vF{left:Bool}{m:Keyed}{arr:Array Keyed}{base n d:Nat}{st:SortSt}{Q:Option Nat->SortSt->Prop}(Z:Ask prog w A E s κ S rk)(W:kindOf st=κ)(Y:∀x∈arr,S x)(R:S m)
  (y:d<n)(X:base+n<=arr.size)(T:SrtOn rk arr base n)
  (h:∀k,k<=n->(∀i,i<k->Bey rk left m arr base i=Oa)->(∀i,k<=i->i<n->Bey rk left m arr base i=Ob)->Q (N8 k) st) :
  wpS (model prog w) A E s (wV left m arr base n d) Q st:=by
 let ask:∀{i:Nat}{Q:Option Bool->SortSt->Prop},i<n->Q (N8<|Bey rk left m arr base i) st->wpS (model prog w) A E s (do
   let x ←elem' arr (base+i)
   if left=Oa then lt' x m
    else do
     let __do_lift ←lt' m x
     pure (Option.map (λx=>!x) __do_lift)) Q st:=λhi V=>vE Z W Y R (v5 (OR hi _) X) V
 let anti:∀{i j:Nat},i<=j->j<n->Bey rk left m arr base j=Oa->Bey rk left m arr base i=true:=λD M N=>Bey.anti T D M N
 generalize Bey rk left m arr base=B at h ask anti;let P:∀{i j:Nat},i<=j->j<n->B i=Ob->B j=false:=λD M N=>Jo.mpr λe=>Jo.mp N<|anti D M e
 calc wpS_bind<|ask y ?_;dsimp -zeta only
 extract_lets jp m1 m2
 let z:∀(u:Unit)(a b lo hi:Nat),GM B n 0 lo hi->wpS (model prog w) A E s (jp u a b lo hi) Q st:=by
  intro u a b lo hi v;refine bC (λ_ _=>False) (λp g=>g=st/\GM B n n p.1 p.2) (λx p g=>g=st/\GM B n x p.1 p.2) (rfl,v,) ?_ (λp g h=>(h.1,by rw[←Fv n];exact h.2,)) (λ_ _ _ h=>h.elim) λp g v=>?_
  .rintro x p _ _ O ⟨rfl,v⟩;refine aE (λc=>wpS_pure (rfl,v.stop c,)) λc=>?_
   let L:p.1+(p.2-p.1) / 2<p.2:=by dsimp only at c;lia
   calc wpS_bind<|ask (v5 L v.h) ?_;exact aE (λe=>wpS_pure (rfl,v.up anti (xc _ _) L e,)) λe=>wpS_pure (rfl,v.dn anti (xc _ _) L e,)
  .let(rfl,v):=v;exact wpS_pure (h _ v.h (λi hi=>v.t i<|v.fin ▸ hi) v.f)
 clear_value jp
 refine aE (λK=>?_) λK=>?_
 .let full:∀o,n-d<=o->∀i,d+min o (n-d)<=i->i<n->B i=false:=λo c i r C=>Og C<|Pd.mpr (by rw[Nat.min_eq_right c,zb (wx y)]at r;exact r)
  refine bC (λ_ _=>False) (λp g=>g=st/\GR B n d 0 p.1 p.2/\∀i,d+min p.2 (n-d)<=i->i<n->B i=Ob) (λx p g=>g=st/\GR B n d x p.1 p.2) (rfl,vk _,zw,y,K,) ?_ (λp g h=>(h.1,(AU h.2.l,h.2.l,h.2.n,h.2.b,),λi r C=>full _ (vr (yS _ _)<|vr (Nat.le_max_right 0 _)<|DO h.2.x) i r C,)) (λ_ _ _ h=>h.elim) λp g v=>?_
  .rintro x ⟨I,q⟩ _ _ O ⟨rfl,v⟩;let G:GR B n d 0 I q:=(AU v.l,v.l,v.n,v.b,);refine aE (λc=>wpS_pure (rfl,G,full _ c,)) λc=>?_
   let c:q<n-d:=Bx c;let F:d+q<n:=QZ c;calc wpS_bind<|ask F ?_;refine aE (λe=>wpS_pure (rfl,G,λi r C=>P (i:=d+q) (yT (wx c) ▸ r) C<|~~~e,)) λe=>wpS_pure (rfl,by have:=v.x;dsimp only;lia,by dsimp only;lia,F,~~~e,)
  .let(rfl,v,J):=v;let H:GM B n 0 (d+p.1+1) (d+min p.2 (n-d)):=.ini (zA (Ff.mpr (v.l,Nat.le_sub_of_add_le' v.n,)) d) (vr (zA (Fb _ _) _)<|yV<|zb<|wx y) (λi hi=>anti (zz hi) v.n v.b) J;exact z _ _ _ _ _ H
 .let full:∀o,d+1<=o->∀i,i<d+1-min o (d+1)->B i=true:=λo c i r=>Og r (by rw[Nat.min_eq_right c,Bu];exact zE _)
  refine bC (λ_ _=>False) (λp g=>g=st/\GL B d 0 p.1 p.2/\∀i,i<d+1-min p.2 (d+1)->B i=Oa) (λx p g=>g=st/\GL B d x p.1 p.2) (rfl,vk _,zw,v3 _,Jo.mpr K,) ?_ (λp g h=>(h.1,(AU h.2.l,h.2.l,h.2.n,h.2.b,),full _<|vr y<|vr (Nat.le_max_right 0 _)<|DO h.2.x,)) (λ_ _ _ h=>h.elim) λp g v=>?_
  .rintro x ⟨I,q⟩ _ _ O ⟨rfl,v⟩;let G:GL B d 0 I q:=(AU v.l,v.l,v.n,v.b,);refine aE (λc=>wpS_pure (rfl,G,full _ c,)) λc=>?_
   let F:q<=d:=zz<|Bx c;calc wpS_bind<|ask (yp (yS _ _) y) ?_;refine aE (λe=>wpS_pure (rfl,G,λi r=>anti (j:=d-q) (zz<|Nat.succ_sub F ▸ yT (O1 F) ▸ r) (yp (yS _ _) y) e,)) λe=>wpS_pure (rfl,by have:=v.x;dsimp only;lia,by dsimp only;lia,F,Jo.mpr e,)
  .let(rfl,v,J):=v;let H:GM B n 0 (d+1-min p.2 (d+1)) (d-p.1):=.ini (Nat.add_sub_add_right d 1 p.1 ▸ Rm (Ff.mpr (v.l,D0 v.n,)) _) (vr (yS _ _)<|wx y) J λi r C=>P r C v.b
   calc z _ _ _ _ _ H
end
end PyProof.Rows._T
namespace PyProof.Rows._T
open PySem PyProof.Rows
section
variable{rk:Keyed->Int}{T A B:Oo Keyed}
abbrev Sd(rk:Keyed->Int)(l:Oo Keyed):Prop:=l.Pairwise λx y=>rk x<=rk y
abbrev mg(rk:Keyed->Int)(L M:Oo Keyed):Oo Keyed:=L.merge M λx y=>decide<|rk x<=rk y
def zW{x y:Keyed}{L M:Oo Keyed}(c:decide (rk x<=rk y)=Oa):mg rk (x :: L) (y :: M)=x :: mg rk L (y :: M):=List.cons_merge_cons_pos _ _ _ c
def zX{x y:Keyed}{L M:Oo Keyed}(c:¬ decide (rk x<=rk y)=Oa):mg rk (x :: L) (y :: M)=y :: mg rk (x :: L) M:=List.cons_merge_cons_neg _ _ _ c
def mgA{L M:Oo Keyed}{R:Oo Keyed}(h:∀x∈R,∀y∈M,rk x<=rk y):mg rk (R++L) M=R++mg rk L M:=by
 induction R with
 |nil=>rfl
 |cons x R a=>cases M with
  |nil=>simp
  |cons y M=>rw[lz,zW<|Oh<|h x (.head _) y<|.head _,a λx b=>h x (.tail _ b)];rfl
def mgB{L M:Oo Keyed}{R:Oo Keyed}(h:∀y∈R,∀x∈L,rk y<rk x):mg rk L (R++M)=R++mg rk L M:=by
 induction R with
 |nil=>rfl
 |cons y R a=>cases L with
  |nil=>simp
  |cons x L=>rw[lz,zX λc=>JT.mpr (Oj c)<|h y (.head _) x<|.head _,a λx b=>h x (.tail _ b)];rfl
def ngA{R L M:Oo Keyed}(h:∀r∈R,∀y∈M,rk y<rk r):mg rk (L++R) M=mg rk L M++R:=by
 fun_induction List.merge L M (λx y=>decide<|rk x<=rk y)
 case case1=>simpa using mgB (M:=[]) λy a r b=>h r b y a
 case case2=>simp
 case case3 c ih=>rw[lz,zW c,zW c,ih h];rfl
 case case4 c ih=>rw[zX c,lz,zX c,←lz,ih λr b y a=>h r b y (.tail _ a)];rfl
def ngB{R L M:Oo Keyed}(h:∀r∈R,∀x∈L,rk x<=rk r):mg rk L (M++R)=mg rk L M++R:=by
 fun_induction List.merge L M (λx y=>decide<|rk x<=rk y)
 case case1=>simp
 case case2=>simpa using mgA (L:=[]) λy a r b=>h r b y a
 case case3 c ih=>rw[zW c,lz,zW c,←lz,ih λr b y a=>h r b y (.tail _ a)];rfl
 case case4 c ih=>rw[lz,zX c,zX c,ih h];rfl
def mR{L M:Oo Keyed}:(mg rk L M).Perm (L++M):=List.merge_perm_append _
def Ft{L M:Oo Keyed}(e:Sd rk L)(d:Sd rk M):Sd rk (mg rk L M) :=
 (List.pairwise_merge (λa b c=>by simp;exact zn) (λa b=>~~~Int.le_total _ _) _ _ (e.imp Oh) (d.imp Oh)).imp Oj
end
end PyProof.Rows._T
namespace PyProof.Rows._T
open PySem PyProof.Rows
section
variable{prog:Kf}{w:Ke}{A:Kr}{E:Kd->Ks->Prop}{s:Ks}{κ:SortKind}{S:Keyed->Prop}{rk:Keyed->Int}
def bW{a:Type}{arr:Array Keyed}{i:Nat}{f:Keyed->StateT SortSt Sem a}{st:SortSt}{Q:a->SortSt->Prop}(hi:i<arr.size)(h:wpS (model prog w) A E s (f arr[i]) Q st):wpS (model prog w) A E s (elem' arr i >>= f) Q st:=wpS_bind<|tD hi h
structure bq(st st':SortSt):Prop where
 arr:arrOf st'=arrOf st
 pend:pendingOf st'=pendingOf st
 kind:kindOf st'=kindOf st
 failed:failedOf st'=failedOf st
def bq.refl{st:SortSt}:bq st st:=(rfl,rfl,rfl,rfl,)
def DL{st a:SortSt}{n:Nat}{Q:Unit->SortSt->Prop}(b:bq st a)(h:∀c,bq st c->Q () c):wpS (model prog w) A E s (fN n) Q a:=by
 rw[ly];calc wpS_modify<|h _ (b.arr,b.pend,b.kind,b.failed,)
def mS{b:Type}{f:Unit->StateT SortSt Sem b}{st a:SortSt}{n:Nat}{Q:b->SortSt->Prop}(d:bq st a)(h:∀c,bq st c->wpS (model prog w) A E s (f ()) Q c):wpS (model prog w) A E s (fN n >>= f) Q a:=wpS_bind<|DL d h
def lA{a:Type}{r:String}{f:Unit->StateT SortSt Sem a}{st:SortSt}{Q:a->SortSt->Prop}(h:wpS (model prog w) A E s (f ()) Q st):wpS (model prog w) A E s ((liftM (rule r):StateT SortSt Sem Unit) >>= f) Q st:=wpS_bind<|wpS_lift<|MD (rfl,h,)
def nX{arr:Array Keyed}{base n i:Nat}{l:Oo Keyed}(a:(arr.toList.drop base).take n=l)(hi:i<⇑l):Kx rk arr (base+i)=rk l[i]:=by
 subst a;rw[Kx_at (QZ<|v5 hi<|~~~Fb _ _),PK,PM,Array.getElem_toList]
def Sd.at{l:Oo Keyed}(h:Sd rk l){i j:Nat}(a:i<=j)(c:j<⇑l):rk (l[i]'(yp a c))<=rk l[j]:=by
 rcases EF a with b|rfl
 .exact pe.mp h i j _ c b
 .exact lf _
def Sd.on{arr:Array Keyed}{base n:Nat}{l:Oo Keyed}(a:(arr.toList.drop base).take n=l)(h:Sd rk l)(e:base+n<=arr.size):SrtOn rk arr base n:=λi j b c f=>by
 let d:⇑l=n:=by subst a;simp;lia
 let(p,rfl):=O8 b;let(q,rfl):=O8<|vr b c;rw[nX a ∅,nX a ∅];calc h.at ∅ _
abbrev Rl(rk:Keyed->Int)(left:Bool)(a x:Keyed):Prop:=Bool.rec (rk x<=rk a) (rk x<rk a) left
abbrev Rg(rk:Keyed->Int)(left:Bool)(a x:Keyed):Prop:=Bool.rec (rk a<rk x) (rk a<=rk x) left
def zY{left:Bool}{a:Keyed}{arr:Array Keyed}{base n i:Nat}{l:Oo Keyed}(b:(arr.toList.drop base).take n=l)(hi:i<⇑l) :
  (Bey rk left a arr base i=Oa->Rl rk left a l[i])/\(Bey rk left a arr base i=Ob->Rg rk left a l[i]):=by
 unfold Bey;rw[nX b hi];cases left <;> simp[Rl,Rg]
def iU{left:Bool}{a:Keyed}{arr:Array Keyed}{base n b:Nat}{l:Oo Keyed}{st:SortSt}{Q:Option Nat->SortSt->Prop}(p:Ask prog w A E s κ S rk)(m:kindOf st=κ)(o:∀x∈arr,S x)(f:S a)
  (j:b<n)(e:base+n<=arr.size)(g:Sd rk l)(c:(arr.toList.drop base).take n=l)
  (h:∀k,k<=n->(∀x∈l.take k,Rl rk left a x)->(∀x∈l.drop k,Rg rk left a x)->Q (N8 k) st) :
  wpS (model prog w) A E s (wV left a arr base n b) Q st :=
 let u:⇑l=n:=by subst c;simp;lia
 vF p m o f j e (g.on c e) λk t r q=>h k t
  (λx d=>by
   let(i,hi,rfl):=lp.mp d;rw[fI]at hi;rw[PK];exact(zY c _).1 (r i ∅))
  λx d=>by
   let(i,hi,rfl):=lp.mp d;rw[ny]at hi;rw[PM];calc(zY c _).2 (q (k+i) ∅ ∅)
structure LV(rk:Keyed->Int)(a b:Array Keyed)(n:Nat)(o:Array Keyed)(i j:Nat):Prop where
 e:o.toList++mg rk (a.toList.drop i) (b.toList.drop j)=mg rk a.toList b.toList
 p:i+1<a.size
 q:j<b.size
 n:n<=i+j
def nb{i j:Nat}(h:¬ (i == j)=Oa):i≠j:=λe=>h<|beq_iff_eq.mpr e
def n1{n i j:Nat}(h:n<=i+j):n+1<=i+1+j:=∅
def LV.fin{a b o:Array Keyed}{i j n:Nat}{P:Prop}(h:LV rk a b n o i j)(c:a.size+b.size<=n+1):P:=by
 let:=h.p;let:=h.q;let:=h.n;lia
def LV.mono{a b o:Array Keyed}{i j n c:Nat}(h:LV rk a b n o i j)(d:c<=n):LV rk a b c o i j:=(h.e,h.p,h.q,vr d h.n,)
def take1{l:Array Keyed}{i:Nat}(h:i<l.size):l.toList.drop i=l[i] :: l.toList.drop (i+1):=by
 rw[GE (~~~h)];simp
def Sd.hd{l:Array Keyed}{i:Nat}(h:Sd rk l.toList)(hi:i<l.size):∀y∈l.toList.drop i,rk l[i]<=rk y:=λy a=>by
 let(k,b,rfl):=lp.mp a;rw[PM];calc h.at (xc _ _) _
def kr{l:Array Keyed}{i:Nat}:(l.extract i l.size).toList=l.toList.drop i:=by
 rw[Hh];simp[ja]
def nZ{l:Array Keyed}{i k:Nat}:(l.extract i<|i+k).toList=(l.toList.drop i).take k:=by
 rw[Hh];simp
def tE{a b:Array Keyed}{st:SortSt}{Q:Array Keyed->SortSt->Prop}(V:Ask prog w A E s κ S rk)(T:kindOf st=κ)(D:∀x∈a,S x)(C:∀x∈b,S x)
  (I:Sd rk a.toList)(sb:Sd rk b.toList)(G:0<a.size)(u:0<b.size)(X:∀y∈a.toList,rk b[0]<rk y)(H:∀x∈b.toList,rk x<rk a[a.size-1])
  (h:∀m d,bq st d->m.toList=mg rk a.toList b.toList->Q m d):wpS (model prog w) A E s (zT a b) Q st:=by
 let hd:∀{o:Array Keyed}{i j:Nat},o.toList++mg rk (a.toList.drop i) (b.toList.drop j)=mg rk a.toList b.toList->(j == b.size)=Oa->(o++a.extract i a.size++b.extract j b.size).toList=mg rk a.toList b.toList:=λ{o i j} e c=>by
  let c:⇑b.toList<=j:=by simp at c⊢;lia
  rw[GG,GG,kr,kr,←e,QG c,iI,mg,uN]
 let M:∀{o:Array Keyed}{i j:Nat},o.toList++mg rk (a.toList.drop i) (b.toList.drop j)=mg rk a.toList b.toList->(i+1 == a.size)=Oa->(o++b.extract j b.size++a.extract i a.size).toList=mg rk a.toList b.toList:=λ{o i j} e c=>by
  obtain rfl:i=a.size-1:=by simp at c;lia
  rw[GG,GG,kr,kr,←e,hZ];exact Ol _ ((Ol (· ++ _)<|List.nil_merge _).symm.trans (ngA (L:=[]) λr hr y t=>Oq (H y<|Ps t)<|I.hd _ r hr).symm)
 let Y:∀{o:Array Keyed}{i j:Nat},o.toList++mg rk (a.toList.drop i) (b.toList.drop j)=mg rk a.toList b.toList->∀hi:i<a.size,(∀y∈b.toList.drop j,rk a[i]<=rk y)->(o.push a[i]).toList++mg rk (a.toList.drop<|i+1) (b.toList.drop j)=mg rk a.toList b.toList:=λ{o i j} e hi c=>by
  rw[←e,take1 hi,GX,hZ];exact Ol _ (mgA (R:=[a[i]])<|~~~c).symm
 let N:∀{o:Array Keyed}{i j:Nat},o.toList++mg rk (a.toList.drop i) (b.toList.drop j)=mg rk a.toList b.toList->∀hj:j<b.size,(∀y∈a.toList.drop i,rk b[j]<rk y)->(o.push b[j]).toList++mg rk (a.toList.drop i) (b.toList.drop<|j+1)=mg rk a.toList b.toList:=λ{o i j} e hj c=>by
  rw[←e,take1 hj,GX,hZ];exact Ol _ (mgB (R:=[b[j]])<|~~~c).symm
 refine lA ?_
 extract_lets total done lastOfA
 calc bW u ?_;let O:=N (o:=#[]) (i:=0) (j:=0) rfl u X
 try dsimp -zeta only
 refine aE (λc=>wpS_pure<|h _ _ .refl<|hd O c) λc1=>?_
 refine aE (λc=>wpS_pure<|h _ _ .refl<|M O c) λc2=>?_
 calc wpS_bind<|wpS_get ?_;refine bC (λr d=>bq st d/\r.toList=mg rk a.toList b.toList) (λ_ _=>False) (λx p d=>bq st d/\LV rk a b (x+1) p.1 p.2.1 p.2.2.1) (.refl,O,ym G<|nb c2,ym u<|nb c1,vk _,) ?step (λp d h=>h.2.fin ∅) (λr x d e=>wpS_pure<|h _ _ e.1 e.2) λ_ _ h=>h.elim
 intro x p d _ K v;refine bC (λr d=>bq st d/\r.toList=mg rk a.toList b.toList) (λp d=>bq st d/\LV rk a b (x+2) p.1 p.2.1 p.2.2.1) (λy p d=>bq st d/\LV rk a b (x+1+y) p.1 p.2.1 p.2.2.1) v ?step1 (λp d h=>h.2.fin ∅) (λr x d e=>wpS_pure e) λp d v=>?post1
 case step1 =>
  intro y p d _ t v
  extract_lets -underBinder _ o _ i _ j _ ac bc
  let(f,v):bq st d/\LV rk a b (x+1+y) o i j:=v
  clear_value o i j ac bc
  let g:=zS v.p;calc bW v.q<|bW g ?_;calc wpS_bind<|V _ _ _ _ (C _<|F0 _) (D _<|F0 _) (f.kind.trans T) ?_;refine aE (λc=>?_) λc=>?_
  .refine bW v.q ?_;let m:=N v.e v.q λy t=>Oq (Oj c)<|I.hd g y t
   refine aE (λc=>wpS_pure (f,hd m c,)) λc=>?_
   let z:LV rk a b (x+1+(y+1)) _ _ _:=(m,v.p,ym v.q<|nb c,D0 v.n,);exact aE (λ_=>wpS_pure (f,z.mono ∅,)) λ_=>wpS_pure (f,z,)
  .refine bW g ?_;let m:=Y v.e g λy t=>zn (JT.mp λe=>c<|Oh e)<|sb.hd v.q y t
   refine aE (λc=>wpS_pure (f,M m c,)) λc=>?_
   let z:LV rk a b (x+1+(y+1)) _ _ _:=(m,ym v.p<|nb c,v.q,n1 v.n,);exact aE (λ_=>wpS_pure (f,z.mono ∅,)) λ_=>wpS_pure (f,z,)
 calc lA ?_;refine bC (λr d=>bq st d/\r.toList=mg rk a.toList b.toList) (λp d=>bq st d/\LV rk a b (x+2) p.1 p.2.1 p.2.2.1) (λy p d=>bq st d/\LV rk a b (x+2+y) p.1 p.2.1 p.2.2.1) v ?step2 (λp d h=>h.2.fin ∅) (λr x d e=>wpS_pure e) λp d v=>mS v.1 λB f=>wpS_pure (f,v.2,)
 clear v;intro y p d _ t v
 extract_lets -underBinder _ o _ i _ j _ m _ ac bc jp
 let(f,v):bq st d/\LV rk a b (x+2+y) o i j:=v
 clear_value o i j m ac bc
 let jb:=v.q;let g:=zS v.p
 suffices tail:∀m,wpS (model prog w) A E s (jp () m) _ d from aE (λ_=>tail _) λ_=>tail _
 intro m;refine mS f λB f=>?_
 calc bW v.q ?_;refine wpS_bind (iU V (f.kind.trans T) D (C _<|F0 _) (O0 g) (yV<|zb<|wx g) (I.sublist<|rz _ _) (ja (by simp)) λk G u l=>?_);let e:=v.e;rw[←jN k (a.toList.drop i),mgA<|λx K y t=>zn (u x K)<|sb.hd v.q y t,n4,←hZ,←nZ,←GG (xs:=o)]at e;rw[n4]at l;let Z:i+k<a.size:=Bx λc=>Int.lt_irrefl _ (Oq (H b[j] (by simp)) (u _ (by
  rw[ja (by simp;lia)];exact List.mem_drop_iff_getElem.mpr (a.size-1-i,by rw[Rz (BI g),FV];exact Cp (AU g) zw,by simp[zb (BI g)],))))
 try dsimp -zeta only
 extract_lets -underBinder ac jp
 suffices tail:∀i o,LV rk a b (x+2+y) o i j->(∀x∈a.toList.drop i,rk b[j]<rk x)->wpS (model prog w) A E s (jp () o i) _ B from
  aE (λP=>aE (λc=>wpS_pure (f,M e c,)) λc=>fW (by simp;lia) (tail _ _ (e,ym Z<|nb c,v.q,by have:=v.n;lia,) l)) λP=>by
   obtain rfl:k=0:=∅
   exact tail _ _ v l
 clear e G u l Z v g;intro i o v l;let e:=N v.e v.q l;calc bW v.q ?_;refine aE (λc=>wpS_pure (f,hd e c,)) λc=>?_
 let J:=ym v.q<|nb c;let g:=zS v.p;calc bW g ?_;refine wpS_bind (iU V (f.kind.trans T) C (D _<|F0 _) (O0 J) (yV<|zb<|wx J) (sb.sublist<|rz _ _) (ja (by simp)) λk G u l=>?_);let W:=e;rw[←jN k (b.toList.drop<|j+1),mgB<|λx K y t=>Oq (u x K)<|I.hd g y t,n4,←hZ,←nZ,←GG (xs:=o.push b[j])]at W;rw[n4]at l
 try dsimp -zeta only
 extract_lets -underBinder bc jp
 suffices tail:∀F o,(o.toList++mg rk (a.toList.drop i) (b.toList.drop F)=mg rk a.toList b.toList)->j<F->F<b.size->(∀x∈b.toList.drop F,rk a[i]<=rk x)->wpS (model prog w) A E s (jp () o F) _ B from
  aE (λP=>aE (λc=>wpS_pure (f,hd W c,)) λc=>tail _ _ W ∅ (ym (Q1 (wx J) G)<|nb c) l) λP=>by
   obtain rfl:k=0:=∅
   exact tail _ _ e ∅ J l
 intro F o e j1 j2 l;let e:=Y e g l;calc bW g ?_;refine aE (λc=>wpS_pure (f,M e c,)) λc=>?_
 let z:LV rk a b (x+2+(y+1)) _ _ _:=(e,ym v.p<|nb c,j2,by have:=v.n;lia,);calc aE (λ_=>wpS_pure (f,z.mono ∅,)) λ_=>wpS_pure (f,z,)
end
end PyProof.Rows._T
namespace PyProof.Rows._T
open PySem PyProof.Rows
section
variable{prog:Kf}{w:Ke}{A:Kr}{E:Kd->Ks->Prop}{s:Ks}{κ:SortKind}{S:Keyed->Prop}{rk:Keyed->Int}
structure HV(rk:Keyed->Int)(a b:Array Keyed)(n:Nat)(i j:Nat)(o:Array Keyed):Prop where
 e:mg rk (a.toList.take i) (b.toList.take j)++o.toList.reverse=mg rk a.toList b.toList
 p:1<=i
 q:2<=j
 pa:i<=a.size
 pb:j<=b.size
 n:n+i+j<=a.size+b.size
def HV.fin{a b o:Array Keyed}{i j n:Nat}{P:Prop}(h:HV rk a b n i j o)(c:a.size+b.size<=n):P:=by
 let:=h.p;let:=h.n;lia
def nh1{n i j t:Nat}(h:n+i+j<=t)(p:1<=i):n+1+(i-1)+j<=t:=by rw[yU n,zb p];calc h
def nh2{n i j t:Nat}(h:n+i+j<=t)(p:1<=j):n+1+i+(j-1)<=t:=by rw[Nat.add_right_comm n,yU<|n+i,zb p];calc h
def sz0{k n:Nat}(h:k<=n)(c:¬ n-k>0):k=n:=Fg h<|QY<|Nat.eq_zero_of_not_pos c
def HV.mono{a b o:Array Keyed}{i j n c:Nat}(h:HV rk a b n i j o)(d:c<=n):HV rk a b c i j o:=(h.e,h.p,h.q,h.pa,h.pb,by have:=h.n;lia,)
def lB{l:Array Keyed}{i:Nat}(a:1<=i)(h:i-1<l.size):l.toList.take i=l.toList.take (i-1)++[l[i-1]]:=by
 let e:=Qy (l:=l.toList) (i:=i-1)<|~~~h;rw[show i-1+1=i by lia]at e;calc e.symm
def Sd.tl{l:Array Keyed}{i:Nat}(h:Sd rk l.toList)(hi:i-1<l.size):∀y∈l.toList.take i,rk y<=rk l[i-1]:=λy b=>by
 let(k,a,rfl):=lp.mp b;rw[fI]at a;rw[PK];calc h.at (BI<|v5 a<|Nat.min_le_left _ _)<|~~~hi
def ku{l:Array Keyed}{i j:Nat}:(l.extract i j).toList=(l.toList.take j).drop i:=by
 rw[Hh,List.extract_eq_drop_take,List.drop_take]
def CJ{o l:Array Keyed}{i j:Nat}:(o++(l.extract i j).reverse).toList.reverse=(l.toList.take j).drop i++o.toList.reverse:=by
 rw[GG,Px,QS,List.reverse_reverse,ku]
def tF{a b:Array Keyed}{st:SortSt}{Q:Array Keyed->SortSt->Prop}(Y:Ask prog w A E s κ S rk)(X:kindOf st=κ)(I:∀x∈a,S x)(H:∀x∈b,S x)
  (P:Sd rk a.toList)(sb:Sd rk b.toList)(g:0<a.size)(B:0<b.size)(N:∀y∈a.toList,rk b[0]<rk y)(Z:∀x∈b.toList,rk x<rk a[a.size-1])
  (h:∀m d,bq st d->m.toList=mg rk a.toList b.toList->Q m d):wpS (model prog w) A E s (zU a b) Q st:=by
 let hd:∀{o:Array Keyed}{i j:Nat},mg rk (a.toList.take i) (b.toList.take j)++o.toList.reverse=mg rk a.toList b.toList->(i == 0)=Oa->(a.extract 0 i++b.extract 0 j++o.reverse).toList=mg rk a.toList b.toList:=λ{o i j} e c=>by
  obtain rfl:i=0:=eq_of_beq c;rw[←e];simp[ku]
 let O:∀{o:Array Keyed}{i j:Nat},mg rk (a.toList.take i) (b.toList.take j)++o.toList.reverse=mg rk a.toList b.toList->(j == 1)=Oa->(b.extract 0 j++a.extract 0 i++o.reverse).toList=mg rk a.toList b.toList:=λ{o i j} e c=>by
  obtain rfl:j=1:=eq_of_beq c;rw[←e,GG,GG,ku,ku,QS,lB (i:=1) (vk _) B];exact Ol (· ++ _) (((mgB (M:=[]) λy t x K=>by
   rw[fo.mp t];exact N x (Pq K)).trans (Ol _<|uN _)).symm)
 let T:∀{o:Array Keyed}{i j:Nat},mg rk (a.toList.take i) (b.toList.take j)++o.toList.reverse=mg rk a.toList b.toList->1<=i->∀hi:i-1<a.size,(∀y∈b.toList.take j,rk y<rk a[i-1])->mg rk (a.toList.take<|i-1) (b.toList.take j)++(o.push a[i-1]).toList.reverse=mg rk a.toList b.toList:=λ{o i j} e g hi c=>by
  rw[←e,lB g hi,ngA (R:=[a[i-1]])<|~~~c,GX,Px,hZ];rfl
 let pB:∀{o:Array Keyed}{i j:Nat},mg rk (a.toList.take i) (b.toList.take j)++o.toList.reverse=mg rk a.toList b.toList->1<=j->∀hj:j-1<b.size,(∀y∈a.toList.take i,rk y<=rk b[j-1])->mg rk (a.toList.take i) (b.toList.take<|j-1)++(o.push b[j-1]).toList.reverse=mg rk a.toList b.toList:=λ{o i j} e g hj c=>by
  rw[←e,lB g hj,ngB (R:=[b[j-1]])<|~~~c,GX,Px,hZ];rfl
 refine lA ?_
 extract_lets -underBinder +onlyGivenNames total done fob
 let la:a.size-1<a.size:=∅
 calc bW la ?_;let V:=T (o:=#[]) (i:=a.size) (j:=b.size) (by simp[ja]) g la λy t=>Z y<|Pq t
 refine aE (λc=>wpS_pure<|h _ _ .refl<|hd V c) λc1=>?_
 refine aE (λc=>wpS_pure<|h _ _ .refl<|O V c) λc2=>?_
 calc wpS_bind<|wpS_get ?_;refine bC (λr d=>bq st d/\r.toList=mg rk a.toList b.toList) (λ_ _=>False) (λx p d=>bq st d/\HV rk a b (x+1) p.1 p.2.1 p.2.2.1) (.refl,V,Dg<|nb c1,ym B (nb c2).symm,by dsimp only;lia,vk _,by dsimp only;lia,) ?step (λp d h=>h.2.fin ∅) (λr x d e=>wpS_pure<|h _ _ e.1 e.2) λ_ _ h=>h.elim
 intro x p d _ K v;refine bC (λr d=>bq st d/\r.toList=mg rk a.toList b.toList) (λp d=>bq st d/\HV rk a b (x+2) p.1 p.2.1 p.2.2.1) (λy p d=>bq st d/\HV rk a b (x+1+y) p.1 p.2.1 p.2.2.1) v ?step1 (λp d h=>h.2.fin ∅) (λr x d e=>wpS_pure e) λp d v=>?post1
 case step1 =>
  intro y p d _ t v
  extract_lets -underBinder _ i _ j _ o _ ac bc
  let(f,v):bq st d/\HV rk a b (x+1+y) i j o:=v
  clear_value o i j ac bc
  let z:=OL v.p v.pa;let F:=DO v.q;let u:=OL F v.pb;calc bW u<|bW z ?_;calc wpS_bind<|Y _ _ _ _ (H _<|F0 _) (I _<|F0 _) (f.kind.trans X) ?_;refine aE (λc=>?_) λc=>?_
  .refine bW z ?_;let m:=T v.e v.p z λy t=>RC (sb.tl u y t)<|Oj c
   refine aE (λc=>wpS_pure (f,hd m c,)) λc=>?_
   let D:HV rk a b (x+1+(y+1)) _ _ _:=(m,Dg<|nb c,v.q,wx z,v.pb,nh1 v.n v.p,);exact aE (λ_=>wpS_pure (f,D.mono ∅,)) λ_=>wpS_pure (f,D,)
  .refine bW u ?_;let m:=pB v.e F u λy t=>zn (P.tl z y t)<|JT.mp λe=>c<|Oh e
   refine aE (λc=>wpS_pure (f,O m c,)) λc=>?_
   let D:HV rk a b (x+1+(y+1)) _ _ _:=(m,v.p,ym (BI v.q) (nb c).symm,v.pa,wx u,nh2 v.n F,);exact aE (λ_=>wpS_pure (f,D.mono ∅,)) λ_=>wpS_pure (f,D,)
 calc lA ?_;refine bC (λr d=>bq st d/\r.toList=mg rk a.toList b.toList) (λp d=>bq st d/\HV rk a b (x+2) p.1 p.2.1 p.2.2.1) (λy p d=>bq st d/\HV rk a b (x+2+y) p.1 p.2.1 p.2.2.1) v ?step2 (λp d h=>h.2.fin ∅) (λr x d e=>wpS_pure e) λp d v=>mS v.1 λG f=>wpS_pure (f,v.2,)
 clear v;intro y p d _ t v
 extract_lets -underBinder _ i _ j _ o _ m _ ac bc jp
 let(f,v):bq st d/\HV rk a b (x+2+y) i j o:=v
 clear_value o i j m ac bc
 let F:=DO v.q;let u:=OL F v.pb
 suffices tail:∀m,wpS (model prog w) A E s (jp () m) _ d from aE (λ_=>tail _) λ_=>tail _
 intro m;refine mS f λG f=>?_
 calc bW u ?_;calc wpS_bind<|iU Y (f.kind.trans X) I (H _<|F0 _) (Cp v.p zw) ((yP i).symm ▸ v.pa) (P.sublist<|nL _ _) (l:=a.toList.take i) rfl λk g B C=>?_;let e:=v.e;rw[←jN k (a.toList.take i),ngA<|λx K y t=>RC (sb.tl u y t)<|C x K,rA,yT g,hZ]at e;rw[rA,yT g]at B;dsimp -zeta only
 extract_lets -underBinder kk ac jp
 suffices tail:∀i o,HV rk a b (x+2+y) i j o->(∀x∈a.toList.take i,rk x<=rk b[j-1])->wpS (model prog w) A E s (jp () i o) _ G from
  aE (λL=>by
   let e:mg rk (a.toList.take k) (b.toList.take j)++(o++(a.extract k i).reverse).toList.reverse=mg rk a.toList b.toList:=by rw[CJ];exact e
   exact aE (λc=>wpS_pure (f,hd e c,)) λc=>tail _ _ (e,Dg<|nb c,v.q,vr g v.pa,v.pb,vr (Nat.add_le_add_right (zA g _) _) v.n,) B) λL=>by
   obtain rfl:=sz0 g L;exact tail _ _ v B
 clear e g B C v;intro i o v C;let e:=pB v.e F u C;calc bW u ?_;refine aE (λc=>wpS_pure (f,O e c,)) λc=>?_
 let W:=ym (BI v.q) (nb c).symm;let z:=OL v.p v.pa;calc bW z ?_;calc wpS_bind<|iU Y (f.kind.trans X) H (I _<|F0 _) (Cp (AU W) zw) ((yP<|j-1).symm ▸ wx u) (sb.sublist<|nL _ _) (l:=b.toList.take<|j-1) rfl λk g B C=>?_;let e':=e;rw[←jN k (b.toList.take<|j-1),ngB<|λx K y t=>zn (P.tl z y t)<|C x K,rA,yT g,hZ]at e';rw[rA,yT g]at B;let k1:1<=k:=Dg λc=>by
  subst c;exact Int.lt_irrefl _ (Oq (N a[i-1] (by simp)) (C _ (by
   rw[sT];exact lp.mpr (0,by rw[fI];exact Nat.lt_min.mpr (AU W,~~~AU u,),by simp,))))
 dsimp -zeta only
 extract_lets -underBinder kk bc jp
 suffices tail:∀J o,mg rk (a.toList.take i) (b.toList.take J)++o.toList.reverse=mg rk a.toList b.toList->2<=J->J<j->(∀x∈b.toList.take J,rk x<rk a[i-1])->wpS (model prog w) A E s (jp () J o) _ G from
  aE (λL=>by
   let e:mg rk (a.toList.take i) (b.toList.take k)++((o.push b[j-1])++(b.extract k<|j-1).reverse).toList.reverse=mg rk a.toList b.toList:=by rw[CJ];exact e'
   exact aE (λc=>wpS_pure (f,O e c,)) λc=>fW (λc=>wz k1<|eq_of_beq c)<|tail _ _ e (ym k1 (nb c).symm) (yp g<|Cp F zw) B) λL=>by
   obtain rfl:=sz0 g L;exact tail _ _ e W (Cp F zw) B
 intro J o e j2 j3 C;let e:=T e v.p z C;calc bW z ?_;refine aE (λc=>wpS_pure (f,hd e c,)) λc=>?_
 let D:HV rk a b (x+2+(y+1)) _ _ _:=(e,Dg<|nb c,j2,wx z,vr (wx j3) v.pb,vr (zA (wx j3) _)<|nh1 v.n v.p,);calc aE (λ_=>wpS_pure (f,D.mono ∅,)) λ_=>wpS_pure (f,D,)
end
end PyProof.Rows._T
namespace PyProof.Rows._T
open PySem PyProof.Rows
section
variable{prog:Kf}{w:Ke}{A:Kr}{E:Kd->Ks->Prop}{s:Ks}{κ:SortKind}{rk:Keyed->Int}{a₀:Array Keyed}
structure SB(κ:SortKind)(a₀:Array Keyed)(st:SortSt):Prop where
 perm:(arrOf st).Perm a₀
 kind:kindOf st=κ
 failed:failedOf st=N9
def SB.size{st:SortSt}(h:SB κ a₀ st):(arrOf st).size=a₀.size:=h.perm.size_eq
def SB.mem{st:SortSt}(h:SB κ a₀ st):∀x∈arrOf st,x∈a₀:=λx a =>
 G6.mp ((OT.mp h.perm).mem_iff.mp<|G6.mpr a)
def tG(b:Nat):∀(M:Oo Keyed)(k:Nat)(L N:Oo Keyed)(arr:Array Keyed),arr.toList=L++N->L.length=b+k->M.length<=N.length->((M.zipIdx k).foldl (λ(a:Array Keyed)(x:Keyed×Nat)=>match x with|(p,j)=>a.setIfInBounds (b+j) p) arr).toList=L++M++N.drop M.length
 | [],k,L,N,arr,e,_,h=>~~~e
 |m :: M,k,L,y :: N,arr,e,hl,h=>by
  rw[List.zipIdx_cons,sX];refine(tG b M (k+1) (L++[m]) N _ ?_ (by simp[hl];rfl) (QN h)).trans (by simp);rw[Qd,e,sY _ _ ∅,←hl];simp
def tH{st:SortSt}{i C pb:Nat}{u o:Oo (Nat×Nat×Nat)}{L X Y Z:Oo Keyed}{Q:Bool->SortSt->Prop}(N:Ask prog w A E s κ (· ∈ a₀) rk)(d:SB κ a₀ st)
  (W:(pendingOf st).toList=u++(L.length,X.length,C) :: (L.length+X.length,Y.length,pb) :: o)(hi:i=⇑u)(g:(arrOf st).toList=L++(X++(Y++Z)))(hX:0<X.length)(hY:0<Y.length)(T:Sd rk X)(S:Sd rk Y)
  (h:∀b,SB κ a₀ b->(pendingOf b).toList=u++(L.length,X.length+Y.length,C) :: o->(arrOf b).toList=L++(mg rk X Y++Z)->Q Oa b) :
  wpS (model prog w) A E s (mergeAt' i) Q st:=by
 let e0:(pendingOf st)[i]?=N8 (L.length,X.length,C):=by rw[←GO,W,hi];simp
 let e1:(pendingOf st)[i+1]?=N8 (L.length+X.length,Y.length,pb):=by rw[←GO,W,hi];simp
 let a0:(arrOf st).size=L.length+(X.length+(Y.length+Z.length)):=by rw[←FV,g];simp
 calc wpS_bind<|wpS_get ?_;rw[e0,e1];dsimp only;calc wpS_bind<|BA ?_;let K:(((pendingOf st).setIfInBounds i (L.length,X.length+Y.length,C)).eraseIdxIfInBounds<|i+1).toList=u++(L.length,X.length+Y.length,C) :: o:=by
  rw[Array.toList_eraseIdxIfInBounds,Qd,W,hi];simp[List.eraseIdx_append];intro hh;lia
 generalize (((pendingOf st).setIfInBounds i (L.length,X.length+Y.length,C)).eraseIdxIfInBounds<|i+1)=P at K⊢;let hb:L.length+X.length<(arrOf st).size:=∅
 let y0:∀y∈Y,rk (arrOf st)[L.length+X.length]<=rk y:=λy B=>by
  let(k,hk,rfl):=lp.mp B;rw[←Kx_at (rk:=rk) hb,←Nat.add_zero (L.length+X.length),nX (base:=L.length+X.length) (n:=Y.length) (l:=Y) (by rw[g];simp) hY];exact S.at (v3 _) hk
 calc bW hb ?_;refine wpS_bind (iU (arr:=arrOf st) (l:=X) N d.kind d.mem (d.mem _<|F0 _) hX ∅ T (by rw[g];simp) λk h1 h2 h3=>?_);let I:mg rk (X.take k++X.drop k) Y=X.take k++mg rk (X.drop k) Y:=mgA λx H y B=>zn (h2 x H)<|y0 y B
 rw[jN]at I;refine aE (λc=>?_) λc=>?_
 .let c:X.length<=k:=QY<|eq_of_beq c;calc wpS_pure<|h _ (d.perm,d.kind,d.failed,) K ?_;rw[I,QG c,ja c,mg,List.nil_merge,hZ];exact g
 let kX:k<X.length:=Bx λe=>nb c<|Nat.sub_eq_zero_of_le e
 let eX:L.length+k+(X.length-k)=L.length+X.length:=by rw[yU,zb h1]
 let hl:L.length+k+(X.length-k)-1<(arrOf st).size:=by rw[eX];exact yp (yS _ _) hb
 let x0:∀x∈X,rk x<=rk (arrOf st)[L.length+k+(X.length-k)-1]:=λy B=>by
  let(q,hq,rfl):=lp.mp B;let e:Kx rk (arrOf st) (L.length+(X.length-1))=rk X[X.length-1]:=nX (n:=X.length) (l:=X) (by rw[g];simp) (Cp hX zw);rw[←Kx_at (rk:=rk) hl,show L.length+k+(X.length-k)-1=L.length+(X.length-1) by rw[eX,Nat.add_sub_assoc hX],e];exact T.at (BI hq) _
 calc bW hl ?_;refine wpS_bind (iU (arr:=arrOf st) (l:=Y) N d.kind d.mem (d.mem _<|F0 _) (Cp hY zw) ∅ S (by rw[g];simp) λn O h5 h6=>?_);let e3:mg rk (X.drop k) (Y.take n++Y.drop n)=mg rk (X.drop k) (Y.take n)++Y.drop n:=ngB λr hr x H=>zn (x0 x<|Ps H)<|h6 r hr
 rw[jN]at e3;rw[e3]at I;refine aE (λc=>?_) λc=>?_
 .obtain rfl:n=0:=eq_of_beq c;calc wpS_pure<|h _ (d.perm,d.kind,d.failed,) K ?_;rw[I,sT,List.take_zero,mg,uN,←hZ (X.take k),jN,hZ];exact g
 let n0:=Dg<|nb c;let F:((arrOf st).extract (L.length+k)<|L.length+X.length).toList=X.drop k:=by
  rw[ku,List.drop_take,Nat.add_sub_add_left,←n4,g,tu,P5 h1];simp
 let D:((arrOf st).extract (L.length+X.length)<|L.length+X.length+n).toList=Y.take n:=by
  rw[nZ,←n4,g,tu,tu,P4 O]
 generalize H:(arrOf st).extract (L.length+k) (L.length+X.length)=x at F;generalize B:(arrOf st).extract (L.length+X.length) (L.length+X.length+n)=y at D
 let v:∀(m:Array Keyed)(b:SortSt),bq (Pw (kindOf st) (arrOf st) P (gallopOf st)<|failedOf st) b->m.toList=mg rk x.toList y.toList ->
   wpS (model prog w) A E s (do
    modify λs=>Pw (kindOf s) (m.toList.zipIdx.foldl (λ(a:Array Keyed)(x:Keyed×Nat)=>match x with|(p,j)=>a.setIfInBounds (L.length+k+j) p) (arrOf s)) (pendingOf s) (gallopOf s) (failedOf s)
    let s ←get
    pure (failedOf s).isNone) Q b:=λm b J hm=>by
  calc wpS_bind<|wpS_modify<|wpS_bind<|wpS_get<|wpS_pure ?_;show Q (failedOf b).isNone _;rw[show failedOf b=N9 from J.failed.trans d.failed,show arrOf b=arrOf st from J.arr];rw[F,D]at hm;let V:=(mR (rk:=rk) (L:=X.drop k) (M:=Y.take n)).length_eq;rw[←hm,cn,fI,yT O]at V;let G:=tG (L.length+k) m.toList 0 (L++X.take k) (X.drop k++(Y++Z)) (arrOf st) (by rw[g,hZ,←hZ (X.take k),jN]) (by simp;lia) (by rw[V,cn];exact zA (by simp;lia) _);rw[V,List.drop_length_add_append,P5 O]at G;generalize (m.toList.zipIdx.foldl (λ(a:Array Keyed)(x:Keyed×Nat)=>match x with|(p,j)=>a.setIfInBounds (L.length+k+j) p) (arrOf st))=R at G⊢;replace G:R.toList=L++(mg rk X Y++Z):=by rw[G,hm,I];simp only[hZ]
  refine h _ ((OT.mpr ?_).trans d.perm,J.kind.trans d.kind,rfl,) (by show(pendingOf b).toList=_;rw[J.pend];exact K) G;show R.toList.Perm _;rw[G,g,←hZ X];exact List.Perm.append_left _<|List.Perm.append_right _ mR
 let t:∀z,z∈x\/z∈y->z∈a₀:=λz f=>d.mem z (G6.mp (by
  rw[g];rcases f with f|f
  .let:=Ps<|F ▸ G6.mpr f;simp[this]
  .let:=Pq<|D ▸ G6.mpr f;simp[this]))
 let zx:x.size=X.length-k:=by rw[←FV,F,ny]
 let zy:y.size=n:=by rw[←FV,D,fI,yT O]
 let px:0<x.size:=∅
 let py:0<y.size:=∅
 let sx:Sd rk x.toList:=by rw[F];exact T.sublist<|rz _ _
 let sy:Sd rk y.toList:=by rw[D];exact S.sublist<|nL _ _
 let b0:∀z∈x.toList,rk y[0]<rk z:=λz f=>by
  let:y[0]=(arrOf st)[L.length+X.length]:=by subst B;simp
  rw[this];exact h3 z<|F ▸ f
 let al:∀z∈y.toList,rk z<rk x[x.size-1]:=λz f=>by
  let:x[x.size-1]=(arrOf st)[L.length+k+(X.length-k)-1]:=by subst H;simp only[Array.getElem_extract];congr 1;rw[zx,Nat.add_sub_assoc (O0 kX)]
  rw[this];exact h5 z<|D ▸ f
 calc aE (λ_=>wpS_bind<|tE N d.kind (λz f=>t z<|.inl f) (λz f=>t z<|.inr f) sx sy px py b0 al λm b=>v m b) λ_=>wpS_bind<|tF N d.kind (λz f=>t z<|.inl f) (λz f=>t z<|.inr f) sx sy px py b0 al λm b=>v m b
end
end PyProof.Rows._T
namespace PyProof.Rows._T
open PySem PyProof.Rows
section
variable{prog:Kf}{w:Ke}{A:Kr}{E:Kd->Ks->Prop}{s:Ks}{κ:SortKind}{rk:Keyed->Int}{a₀:Array Keyed}
def SB.setArr{st:SortSt}(h:SB κ a₀ st){xs:Array Keyed}(a:xs.Perm (arrOf st)):SB κ a₀ (setArr st xs):=(a.trans h.perm,h.kind,h.failed,)
def iV{c:Type}{st:SortSt}{i j:Nat}{f:Option Bool->StateT SortSt Sem c}{Q:c->SortSt->Prop}(d:Ask prog w A E s κ (· ∈ a₀) rk)(a:SB κ a₀ st)(hi:i<a₀.size)(b:j<a₀.size)
  (h:wpS (model prog w) A E s (f<|N8<|Oc<|Kx rk (arrOf st) i<Kx rk (arrOf st) j) Q st):wpS (model prog w) A E s (ltAt' i j >>= f) Q st:=by
 rw[←a.size]at hi b;rw[Kx_at hi,Kx_at b]at h;rw[ltAt'_eq];calc wpS_bind<|wpS_bind<|wpS_get<|bW hi<|bW b<|d _ _ _ _ (a.mem _<|F0 _) (a.mem _<|F0 _) a.kind h
def mT{a:Type}{st:SortSt}{i j:Nat}{f:Unit->StateT SortSt Sem a}{Q:a->SortSt->Prop}(h:wpS (model prog w) A E s (f ()) Q (setArr st<|mirror (arrOf st) i j<|(j-i) / 2)) :
  wpS (model prog w) A E s (reverseSlice' i j >>= f) Q st:=by
 rw[reverseSlice'_eq];calc wpS_bind<|wpS_modify h
def lC{xs:Array Keyed}{i j:Nat}(a:j<=xs.size)(k:Nat) :
  Kx rk (mirror xs i j<|(j-i) / 2) k=if i<=k/\k<j then Kx rk xs (i+j-1-k)else Kx rk xs k:=by
 let e:=getElem?_mirror_all (i:=i) a k;by_cases c:i<=k/\k<j
 .rw[Of c]at e⊢;exact cG e
 .rw[Oe c]at e⊢;calc cG e
def mir{i j k:Nat}(b:i<=k)(a:k<j):i<=i+j-1-k/\i+j-1-k<j:=(Nat.le_sub_of_add_le<|BI<|OR a i,∅,)
def gy{xs:Array Keyed}{i j:Nat}(b:j<=xs.size)(a:∀k,i<=k->k<j->Kx rk xs k=Kx rk xs (j-1))(k:Nat) :
  Kx rk (mirror xs i j<|(j-i) / 2) k=Kx rk xs k:=by
 rw[lC b];split
 .rename_i c;rw[a _ (mir c.1 c.2).1 (mir c.1 c.2).2,a k c.1 c.2]
 .rfl
structure Ahd(lo:Nat)(st st':SortSt):Prop where
 a:∀i,i<lo->(arrOf st')[i]?=(arrOf st)[i]?
 p:pendingOf st'=pendingOf st
def Ahd.rev{lo i j:Nat}{st b:SortSt}(h:Ahd lo st b)(hi:lo<=i)(e:j<=(arrOf b).size):Ahd lo st (PyProof.Rows.setArr b<|mirror (arrOf b) i j<|(j-i) / 2) :=
 (λk d=>((getElem?_mirror_all e k).trans<|Oe λc=>Pd.mpr (vr hi c.1) d).trans<|h.a k d,h.p,)
def SrtOn.one{xs:Array Keyed}{lo:Nat}:SrtOn rk xs lo 1:=λi j c b a=>by
 obtain rfl:i=j:=∅
 calc lf _
def SrtOn.snoc{xs:Array Keyed}{lo n:Nat}(h:SrtOn rk xs lo n)(f:1<=n)(c:Kx rk xs (lo+n-1)<=Kx rk xs (lo+n)):SrtOn rk xs lo (n+1):=λi j b a e=>by
 rcases EF (zz e)with d|rfl
 .exact h i j b a d
 .rcases EF a with hi|rfl
  .exact zn (h i (lo+n-1) b ∅ ∅) c
  .exact lf _
def SrtOn.adj{xs:Array Keyed}{lo:Nat}:∀{n:Nat},(∀i,lo<=i->i+1<lo+n->Kx rk xs i<=Kx rk xs (i+1))->SrtOn rk xs lo n
 |0,_=>λi j b a c=>Og c ∅
 |1,_=>.one
 |n+2,h=>(SrtOn.adj (n:=n+1) λi b a=>h i b<|wI a).snoc (CB n)<|h (lo+n) (xc _ _)<|yl _
def bub{xs:Array Keyed}{t a:Nat}(h:t<=a)(d:a<xs.size):(∀j,j<t->(bubble xs a<|a-t)[j]?=xs[j]?)/\(bubble xs a<|a-t)[t]?=xs[a]?/\∀j,t<=j->j<a->(bubble xs a<|a-t)[j+1]?=xs[j]?:=by
 let e:=getElem?_bubble d (a-t)<|yS _ _;rw[Nat.sub_sub_self h]at e;calc(λj b=>by rw[e,Oe<|vl b,Oe λc=>Nat.lt_asymm c.1 b],by rw[e,Of rfl],λj g f=>by rw[e,Oe ∅,Of (Nat.lt_succ_of_le g,f,)];rfl,)
def vG{st:SortSt}{lo n ok:Nat}{Q:Bool->SortSt->Prop}(D:Ask prog w A E s κ (· ∈ a₀) rk)(G:lo+n<=a₀.size)(hok:ok<=n)(g:1<=ok)(m:SB κ a₀ st)(o:SrtOn rk (arrOf st) lo ok)
  (h:∀d,SB κ a₀ d->Ahd lo st d->SrtOn rk (arrOf d) lo n->Q Oa d):wpS (model prog w) A E s (binarySort' lo n ok) Q st:=by
 refine bC (λ_ _=>False) (λ_ d=>SB κ a₀ d/\Ahd lo st d/\SrtOn rk (arrOf d) lo n) (λk _ d=>SB κ a₀ d/\Ahd lo st d/\SrtOn rk (arrOf d) lo k) (m,(λ_ _=>rfl,rfl,),by rw[Nat.max_eq_left g];exact o,) ?_
  (λ_ _ v=>by rw[Nat.max_eq_left g,Nat.max_eq_right hok]at v;exact v) (λ_ _ _ h=>h.elim) λ_ d v=>wpS_pure<|h d v.1 v.2.1 v.2.2
 rintro k _ d g r ⟨m,z,o⟩;let y:lo+k<(arrOf d).size:=by rw[m.size];lia
 let anti:∀{i j:Nat},i<=j->j<k->decide (Kx rk (arrOf d) (lo+j)<=Kx rk (arrOf d) (lo+k))=Oa->decide (Kx rk (arrOf d) (lo+i)<=Kx rk (arrOf d) (lo+k))=true:=λ{i j} g r h=>Oh<|zn (o _ _ (xc _ _) (zA g _)<|OR r _)<|Oj h
 refine bC (λ_ _=>False) (λp u=>u=d/\GM (λi=>decide<|Kx rk (arrOf d) (lo+i)<=Kx rk (arrOf d) (lo+k)) k k p.1 p.2) (λx p u=>u=d/\GM (λi=>decide<|Kx rk (arrOf d) (lo+i)<=Kx rk (arrOf d) (lo+k)) k x p.1 p.2)
  (rfl,.ini (v3 _) (vk _) (λ_ h=>Og h<|zE _) λ_ g r=>Og r<|Pd.mpr g,) ?_ (λp d h=>(h.1,by rw[←Fv k];exact h.2,)) (λ_ _ _ h=>h.elim) λp _ v=>?_
 .rintro x p _ _ F ⟨rfl,v⟩;refine aE (λc=>wpS_pure (rfl,v.stop c,)) λc=>?_
  let q:p.1<=(p.1+p.2) / 2/\(p.1+p.2) / 2<p.2:=by dsimp only at c;lia
  refine iV D m (m.size ▸ y) (by have:=v.h;dsimp only;lia) ?_;exact aE (λe=>wpS_pure (rfl,v.dn anti q.1 q.2 λc=>JT.mpr (Oj c)<|Oj e,)) λe=>wpS_pure (rfl,v.up anti q.1 q.2<|Oh<|JT.mp λc=>e<|Oh c,)
 let(rfl,v):=v;show wpS _ _ _ _ (do moveDown' (lo+k) (lo+p.1);pure (OA (N9,()))) _ _;rw[moveDown'_eq];let C:=zA (vr v.l v.h) lo;let b:=bub C y;calc wpS_bind<|wpS_modify<|wpS_pure (m.setArr<|bubble_perm _ _ _,(λi hi=>(b.1 i<|v5 hi<|xc _ _).trans<|z.a i hi,z.p,),.adj λi B H=>?_,);show Kx rk (bubble _ _ _) _<=Kx rk (bubble _ _ _) _;let(j,rfl):=O8 B;rcases EX (j+1) p.1 with c|c|c
 .rw[cG (b.1 _ ∅),cG (b.1 _ ∅)];exact o _ _ B (w5 _) ∅
 .rw[cG (b.1 _ ∅),show lo+j+1=lo+p.1 by lia,cG b.2.1];exact Oj<|v.t j ∅
 .rcases EF (zz c)with c|rfl
  .let(i,rfl):∃i,j=i+1:=(j-1,∅,);rw[←yU lo,cG<|b.2.2 (lo+i) ∅ ∅,cG (b.2.2 (lo+i+1) ∅ ∅)];exact o _ _ (xc _ _) (w5 _) ∅
  .rw[cG b.2.1,cG (b.2.2 _ (vk _) ∅)];calc OS<|Int.not_le.mp<|of_decide_eq_false<|v.f p.1 (yV v.fin.symm) ∅
end
end PyProof.Rows._T
namespace PyProof.Rows._T
open PySem PyProof.Rows
section
variable{prog:Kf}{w:Ke}{A:Kr}{E:Kd->Ks->Prop}{s:Ks}{κ:SortKind}{rk:Keyed->Int}{a₀:Array Keyed}
def cS{xs:Array Keyed}{i:Nat}:Kx (λx=>-rk x) xs i = -Kx rk xs i:=by unfold Kx;split <;> rfl
def SrtOn.congr{xs ys:Array Keyed}{lo n:Nat}(h:SrtOn rk xs lo n)(e:∀k,Kx rk ys k=Kx rk xs k):SrtOn rk ys lo n:=λi j c b a=>by rw[e,e];calc h i j c b a
structure CV(rk:Keyed->Int)(κ:SortKind)(a₀:Array Keyed)(lo:Nat)(st:SortSt)(p:Nat×Nat)(st':SortSt):Prop where
 sb:SB κ a₀ st'
 ah:Ahd lo st st'
 no:SrtOn (λx=>-rk x) (arrOf st') lo p.1
 q:p.2+1<=p.1
 e:∀i,lo+p.1-(p.2+1)<=i->i<lo+p.1->Kx rk (arrOf st') i=Kx rk (arrOf st') (lo+p.1-1)
def yg{st:SortSt}{lo C:Nat}{Q:Option Nat->SortSt->Prop}(L:Ask prog w A E s κ (· ∈ a₀) rk)(X:lo+C<=a₀.size)(F:1<=C)(t:SB κ a₀ st)
  (h:∀m f,SB κ a₀ f->Ahd lo st f->1<=m->m<=C->SrtOn rk (arrOf f) lo m->Q (N8 m) f) :
  wpS (model prog w) A E s (countRun' lo C) Q st:=by
 let lt:∀{i},i<C->lo+i<a₀.size:=λ{i} hi=>v5 (OR hi lo) X
 refine bC (λ_ _=>False) (λn f=>f=st/\1<=n/\n<=C/\SrtOn rk (arrOf st) lo n/\(n≠C->Kx rk (arrOf st) (lo+n)<Kx rk (arrOf st) (lo+n-1))) (λx n f=>f=st/\n=x/\SrtOn rk (arrOf st) lo n) (rfl,rfl,.one,) ?_
  (λn f v=>(v.1,∅,∅,v.2.2,λc=>Og v.2.1 ∅,)) (λ_ _ _ h=>h.elim) λn st v=>?_
 .rintro x n _ F y ⟨rfl,rfl,v⟩;calc iV L t (lt y) (yp (yS _ _)<|lt y) ?_;exact aE (λc=>wpS_pure (rfl,F,wx y,v,λ_=>Oj c,)) λc=>wpS_pure (rfl,rfl,v.snoc F<|JT.mp λe=>c<|Oh e,)
 let(rfl,n1,O,v,D):=v;refine aE (λc=>wpS_pure<|h n _ t (λ_ _=>rfl,rfl,) n1 O v) λc=>?_
 let D:=D<|nb c;let P:=ym O (nb c)
 extract_lets -underBinder jp
 let J:∀l,SB κ a₀ l->Ahd lo st l->(∀k,Kx rk (arrOf l) k=Kx rk (arrOf st) k)->SrtOn (λx=>-rk x) (arrOf st) lo n->CV rk κ a₀ lo st (n+1,0) l:=λl b a e o =>
  (b,a,SrtOn.congr (o.snoc n1 (by rw[cS,cS];exact Int.neg_le_neg (OS D))) (λk=>by rw[cS,cS,e]),D0<|v3 _,λi F y=>by congr 1;dsimp only at *;lia,)
 let R:lo+n<=(arrOf st).size:=by rw[t.size];exact wx (lt P)
 suffices tail:∀l,CV rk κ a₀ lo st (n+1,0) l->wpS (model prog w) A E s (jp ()) Q l from
  aE (λT=>iV L t (yp (xc _ _)<|lt P) (yp (yS _ _)<|lt P) (aE (λc=>wpS_pure<|h n _ t (λ_ _=>rfl,rfl,) n1 O v) λc=>mT (tail _ (by
   let S:∀k,lo<=k->k<lo+n->Kx rk (arrOf st) k=Kx rk (arrOf st) (lo+n-1):=λk W k2 =>
    Int.le_antisymm (v k (lo+n-1) W ∅ ∅) (zn (JT.mp λe=>c<|Oh e)<|v lo k (vk _) W k2)
   exact J _ (t.setArr<|mirror_perm _ _ _ _) (Ahd.rev (λ_ _=>rfl,rfl,) (vk _) R) (gy R S) λi j G B H=>by rw[cS,cS,S i G ∅,S j ∅ H];exact lf _)))) λT=>tail _ (J _ t (λ_ _=>rfl,rfl,) (λ_=>rfl) (by
    obtain rfl:n=1:=by dsimp only at T;lia
    exact .one))
 clear J R v D t;intro l v;calc lA ?_;refine bC (λ_ _=>False) (λp f=>p.1<=C/\CV rk κ a₀ lo st p f) (λx p f=>p.1=x/\CV rk κ a₀ lo st p f) (rfl,v,) ?_ (λp f v=>(∅,v.2,)) (λ_ _ _ h=>h.elim) λp z v=>?_
 .rintro _ p z _ y ⟨rfl,v⟩;let I:lo+p.1<=(arrOf z).size:=by rw[v.sb.size];exact wx<|lt y
  let K:=vr (Qc 1 _) v.q;let V:lo+p.1-1<a₀.size:=yp (yS _ _)<|lt y;calc iV L v.sb (lt y) V ?_;refine aE (λc=>?_) λc=>?_
  .let no:=v.no.snoc K (by rw[cS,cS];exact Int.neg_le_neg (OS<|Oj c));let J:∀f,SB κ a₀ f->Ahd lo st f->(∀k,Kx rk (arrOf f) k=Kx rk (arrOf z) k)->CV rk κ a₀ lo st (p.1+1,0) f:=λf b a e=>(b,a,no.congr λk=>by rw[cS,cS,e],D0<|v3 _,λi F y=>by congr 1;dsimp only at *;lia,)
   exact aE (λ_=>mT<|wpS_pure (rfl,J _ (v.sb.setArr<|mirror_perm _ _ _ _) (v.ah.rev (by have:=v.q;dsimp only;lia) I) (gy I v.e),)) λ_=>wpS_pure (rfl,J _ v.sb v.ah λ_=>rfl,)
  .refine iV L v.sb V (lt y)<|aE (λ_=>wpS_pure (wx y,v,)) λd=>?_;let e:Kx rk (arrOf z) (lo+p.1)=Kx rk (arrOf z) (lo+p.1-1):=Int.le_antisymm (JT.mp λe=>d<|Oh e)<|JT.mp λe=>c<|Oh e;refine wpS_pure (rfl,v.sb,v.ah,v.no.snoc K (by rw[cS,cS,e];exact lf _),D0 v.q,λi G B=>?_,);show Kx rk (arrOf z) i=Kx rk (arrOf z) (lo+p.1);rcases EF (zz B)with B|rfl
   .rw[e];exact v.e i (by dsimp only at *;lia) B
   .rfl
 let K:=vr (Qc 1 _) v.2.q;let N:lo+p.1<=a₀.size:=vr (zA v.1 lo) X
 extract_lets -underBinder r _ m q
 dsimp -zeta only[r]
 extract_lets -underBinder jp2
 suffices tail:∀g,SB κ a₀ g->Ahd lo st g->SrtOn (λx=>-rk x) (arrOf g) lo p.1->wpS (model prog w) A E s (jp2 ()) Q g from
  aE (λ_=>mT<|tail _ (v.2.sb.setArr<|mirror_perm _ _ _ _) (v.2.ah.rev (show lo<=lo+p.1-(p.2+1) by have:=v.2.q;lia) (v.2.sb.size ▸ N)) (v.2.no.congr λk=>by rw[cS,cS];exact Ol _ (gy (v.2.sb.size ▸ N) v.2.e k))) λ_=>tail _ v.2.sb v.2.ah v.2.no
 intro g t M no;let I:lo+p.1<=(arrOf g).size:=t.size ▸ N;calc mT ?_;let M:=M.rev (vk _) I;let t:=t.setArr<|mirror_perm (arrOf g) lo (lo+p.1)<|(lo+p.1-lo) / 2;let so:SrtOn rk (arrOf<|setArr g<|mirror (arrOf g) lo (lo+p.1)<|(lo+p.1-lo) / 2) lo p.1:=λi j G B H=>by
  show Kx rk (mirror _ _ _ _) _<=Kx rk (mirror _ _ _ _) _;rw[lC I,lC I,Of (G,yp B H,),Of (vr G B,H,)];let:=no (lo+(lo+p.1)-1-j) (lo+(lo+p.1)-1-i) (mir (vr G B) H).1 (Rm B _) (mir G<|yp B H).2;rw[cS,cS]at this;exact Int.neg_le_neg_iff.mp this
 generalize setArr g (mirror (arrOf g) lo (lo+p.1)<|(lo+p.1-lo) / 2)=st4 at M t so⊢
 refine bC (λ_ _=>False) (λn f=>f=st4/\p.1<=n/\n<=C/\SrtOn rk (arrOf st4) lo n) (λx n f=>f=st4/\n=x/\SrtOn rk (arrOf st4) lo n) (rfl,rfl,so,) ?_
  (λn f u=>(u.1,by rw[u.2.1];exact Nat.le_max_left _ _,by rw[u.2.1,Nat.max_eq_right v.1];exact vk _,u.2.2,)) (λ_ _ _ h=>h.elim) λn _ u=>by
   let(rfl,Z,Y,u):=u;exact wpS_pure<|h n _ t M (vr K Z) Y u
 rintro x n _ F y ⟨rfl,rfl,u⟩;calc iV L t (lt y) (yp (yS _ _)<|lt y) ?_;calc aE (λc=>wpS_pure (rfl,F,wx y,u,)) λc=>wpS_pure (rfl,rfl,u.snoc (vr K F)<|JT.mp λe=>c<|Oh e,)
end
end PyProof.Rows._T
namespace PyProof.Rows._T
open PySem PyProof.Rows
section
variable{prog:Kf}{w:Ke}{A:Kr}{E:Kd->Ks->Prop}{s:Ks}{κ:SortKind}{rk:Keyed->Int}{a₀:Array Keyed}
def  Rn(rk:Keyed->Int):Nat->Oo (Nat×Nat×Nat)->Oo Keyed->Prop
 |_,[],l=>l=[]
 |a,r :: ps,l=>∃X b,l=X++b/\r.1=a/\r.2.1=X.length/\0<X.length/\Sd rk X/\Rn rk (a+X.length) ps b
def Rn.split{d:Oo (Nat×Nat×Nat)}:∀(ps:Oo (Nat×Nat×Nat)){a:Nat}{l:Oo Keyed},Rn rk a (ps++d) l->∃b c,l=b++c/\Rn rk a ps b/\Rn rk (a+⇑b) d c:=λps=>by
 induction ps with
 |nil=>exact λ{a l} h=>([],l,rfl,rfl,h,)
 |cons r ps e =>
  rintro a l ⟨X,_,rfl,n,m,k,j,i⟩;let(b,c,rfl,g,f):=e i;calc(X++b,c,(hZ _ _ _).symm,(X,b,rfl,n,m,k,j,g,),by rw[cn,←yU];exact f,)
def Rn.join{d:Oo (Nat×Nat×Nat)}{e:Oo Keyed}:∀{ps:Oo (Nat×Nat×Nat)}{a:Nat}{b:Oo Keyed},Rn rk a ps b->Rn rk (a+⇑b) d e->Rn rk a (ps++d) (b++e):=λ{ps}=>by
 induction ps with
 |nil=>intro a b h c;rw[show b=[]from h]at c⊢;exact c
 |cons r ps f =>
  rintro a b ⟨X,l,rfl,m,k,j,i,g⟩ c;calc(X,_,hZ _ _ _,m,k,j,i,f g (by rw[cn,←yU]at c;exact c),)
def Rn.len:∀{ps:Oo (Nat×Nat×Nat)}{a:Nat}{l:Oo Keyed},Rn rk a ps l->⇑ps<=⇑l:=λ{ps}=>by
 induction ps with
 |nil=>exact λ_=>v3 _
 |cons r ps b =>
  rintro a l ⟨X,l,rfl,g,f,d,e,c⟩;rw[cn,en,Nat.add_comm];calc Nat.add_le_add d<|b c
def Rn.power{j:Nat}:∀{ps:Oo (Nat×Nat×Nat)}{i a:Nat}{l:Oo Keyed},Rn rk a ps l->Rn rk a (ps.modify i λx=>(x.1,x.2.1,j)) l:=λ{ps}=>by
 induction ps with
 |nil=>intro i a l h;cases i <;> exact h
 |cons r ps k =>
  rintro i a l ⟨X,l,g,f,e,d,c,b⟩;cases i with
  |zero=>exact(X,l,g,f,e,d,c,b,)
  |succ i=>calc(X,l,g,f,e,d,c,k b,)
def Rn.one{ps:Oo (Nat×Nat×Nat)}{a:Nat}{l:Oo Keyed}(h:Rn rk a ps l)(z:⇑ps<=1):Sd rk l:=by
 cases ps with
 |nil=>rw[show l=[]from h];exact .nil
 |cons r ps =>
  let(X,l,rfl,_,_,_,b,h):=h;obtain rfl:ps=[]:=jM<|Nat.le_zero.mp<|QN z;rw[show l=[]from h,iI];calc b
structure RS(rk:Keyed->Int)(κ:SortKind)(a₀:Array Keyed)(st:SortSt)(D Z:Oo Keyed):Prop where
 sb:SB κ a₀ st
 el:(arrOf st).toList=D++Z
 rn:Rn rk 0 (pendingOf st).toList D
def DM{l:Oo (Nat×Nat×Nat)}{i:Nat}(h:i+2<=⇑l):∃x y,l=l.take i++x :: y :: l.drop (i+2):=by
 calc(l[i],l[i+1],?_,);rw[←GE,←GE,jN]
def tI{d:Type}{st:SortSt}{i:Nat}{D Z:Oo Keyed}{f:Bool->StateT SortSt Sem d}{Q:d->SortSt->Prop}(u:Ask prog w A E s κ (· ∈ a₀) rk)(c:RS rk κ a₀ st D Z)(hi:i+2<=(pendingOf st).size)
  (h:∀a o,RS rk κ a₀ a o Z->⇑o=D.length->(pendingOf a).size+1=(pendingOf st).size->wpS (model prog w) A E s (f Oa) Q a):wpS (model prog w) A E s (mergeAt' i >>= f) Q st:=by
 rw[←FV]at hi;let((y,C,B),(sb,nb,z),e):=DM hi;let g:i=⇑((pendingOf st).toList.take i):=by rw[fI];lia
 generalize (pendingOf st).toList.take i=pre at e g;generalize (pendingOf st).toList.drop (i+2)=post at e;let m:=c.rn;rw[e]at m;let(L,_,rfl,x,X,_,rfl,rfl,rfl,q,k,Y,n,rfl,rfl,rfl,p,j,v):=Rn.split _ m;rw[yP]at e;refine wpS_bind<|tH (X:=X) (Y:=Y) (Z:=n++Z) u c.sb e g (by rw[c.el];simp only[hZ]) q p k j λa t l r=>h a (L++(mg rk X Y++n)) (t,by rw[r];simp only[hZ],?_,) ?_ ?_
 .rw[l];let b:=(mR (rk:=rk) (L:=X) (M:=Y)).length_eq;rw[cn]at b;exact x.join (_,_,rfl,(yP _).symm,b.symm,∅,Ft k j,by rw[b,←yU];exact v,)
 .simp only[cn,(mR (rk:=rk) (L:=X) (M:=Y)).length_eq,yU]
 .rw[←FV,←FV,l,e];simp only[cn,en];rfl
end
end PyProof.Rows._T
namespace PyProof.Rows._T
open PySem PyProof.Rows
section
variable{prog:Kf}{w:Ke}{A:Kr}{E:Kd->Ks->Prop}{s:Ks}{κ:SortKind}{rk:Keyed->Int}{a₀:Array Keyed}
inductive RL(rk:Keyed->Int)(κ:SortKind)(a₀:Array Keyed)(st:SortSt)(lo:Nat):Prop
 |mk {D Z:Oo Keyed}:RS rk κ a₀ st D Z->D.length=lo->RL rk κ a₀ st lo
def RL.sb{st:SortSt}{lo:Nat}(h:RL rk κ a₀ st lo):SB κ a₀ st:=h.casesOn λR _=>R.sb
def RL.ahd{st b:SortSt}{lo:Nat}(h:RL rk κ a₀ st lo)(d:Ahd lo st b)(f:SB κ a₀ b):RL rk κ a₀ b lo:=by
 let(R,rfl):=h
 rename_i D Z
 let e:(arrOf b).toList.take D.length=D:=by
  calc Eq.trans ?_<|(Ol _ R.el).trans<|List.take_left (l₁:=D) (l₂:=Z);refine pA λi=>?_
  rw[Rr,Rr];by_cases c:i<D.length
  .rw[Of c,Of c,GO,GO];exact d.a i c
  .rw[Oe c,Oe c]
 calc .mk (Z:=(arrOf b).toList.drop D.length) (f,by conv=>lhs;rw[←jN D.length (arrOf b).toList,e],by rw[d.p];exact R.rn,) rfl
def SrtOn.sd{arr:Array Keyed}{lo n:Nat}(h:SrtOn rk arr lo n)(c:lo+n<=arr.size):Sd rk ((arr.toList.drop lo).take n):=pe.mpr λi j hi a b=>by
 rw[←nX (rk:=rk) rfl hi,←nX (rk:=rk) rfl a];simp at a;calc h _ _ (xc _ _) ∅ ∅
def RL.push{st:SortSt}{lo n:Nat}(h:RL rk κ a₀ st lo)(c:1<=n)(b:lo+n<=(arrOf st).size)(a:SrtOn rk (arrOf st) lo n):RL rk κ a₀ (setPending st<|(pendingOf st).push (lo,n,0)) (lo+n):=by
 let(R,rfl):=h
 rename_i D Z
 let e:(arrOf st).toList.drop D.length=Z:=by rw[R.el,tu]
 let so:=a.sd b;let l:⇑(Z.take n)=n:=by
  let:=Ol NE R.el;rw[FV,cn]at this;rw[fI];lia
 rw[e]at so;refine .mk (D:=D++Z.take n) (Z:=Z.drop n) ((R.sb.perm,R.sb.kind,R.sb.failed,),?_,?_,) (by rw[cn,l])
 .show(arrOf st).toList=_;rw[hZ,jN];exact R.el
 .show Rn rk 0 ((pendingOf st).push _).toList _;rw[GX];calc R.rn.join (Z.take n,[],(iI _).symm,(yP _).symm,l.symm,∅,so,rfl,)
def RL.power{st:SortSt}{lo i a:Nat}(h:RL rk κ a₀ st lo):RL rk κ a₀ (setPending st<|(pendingOf st).modify i λx=>(x.1,x.2.1,a)) lo:=by
 let(R,e):=h;calc .mk ((R.sb.perm,R.sb.kind,R.sb.failed,),R.el,?_,) e;show Rn rk 0 ((pendingOf st).modify _ _).toList _;rw[Array.toList_modify];calc R.rn.power
def mm{c:Type}{st:SortSt}{i lo:Nat}{f:Bool->StateT SortSt Sem c}{Q:c->SortSt->Prop}(q:Ask prog w A E s κ (· ∈ a₀) rk)(o:RL rk κ a₀ st lo)(hi:i+2<=(pendingOf st).size)
  (h:∀a,RL rk κ a₀ a lo->(pendingOf a).size+1=(pendingOf st).size->(∀n,SrtOn rk (arrOf st) lo n->SrtOn rk (arrOf a) lo n)->wpS (model prog w) A E s (f Oa) Q a):wpS (model prog w) A E s (mergeAt' i >>= f) Q st:=by
 let(R,rfl):=o;refine tI q R hi λa r l e p=>h a (.mk l e) p λn so i j b d m=>?_
 let k:∀{j},_<=j->Kx rk (arrOf a) j=Kx rk (arrOf st) j:=λ{j} g=>cG (by rw[←GO,←GO,R.el,l.el,jy<|e ▸ g,jy g,e])
 rw[k b,k (vr b d)];calc so i j b d m
def wpS_sortAll{st:SortSt}{Q:Unit->SortSt->Prop}(u:Ask prog w A E s κ (· ∈ a₀) rk)(L:SB κ a₀ st)(N:pendingOf st = #[])(P:2<=a₀.size)
  (h:∀a,(arrOf a).Perm a₀->failedOf a=N9->SrtOn rk (arrOf a) 0 a₀.size->Q () a):wpS (model prog w) A E s sortRuns' Q st:=by
 refine wpS_bind (wpS_get ?_)
 extract_lets -underBinder sz mr _
 let e:sz=a₀.size:=L.size
 clear_value mr sz
 subst e
 refine bC (λ_ _=>False) (λlo a=>RL rk κ a₀ a a₀.size) (λx lo a=>RL rk κ a₀ a lo/\x<=lo/\lo<=a₀.size) (.mk (D:=[]) (L,rfl,by rw[N];rfl,) rfl,vk _,v3 _,) ?_
  (λlo a v=>Fg v.2.2 (Fv a₀.size ▸ v.2.1) ▸ v.1) (λ_ _ _ h=>h.elim) λlo a v=>?_
 .intro x p a _ M v
  extract_lets -underBinder lo
  let(R,O,B):RL rk κ a₀ a lo/\x<=lo/\lo<=a₀.size:=v
  clear_value lo
  refine aE (λc=>wpS_pure<|Fg B c ▸ R) λc=>?_
  let c:=Bx c;calc wpS_bind<|yg u (yV<|zb B) (O0 c) R.sb λm i j o t r C=>?_;dsimp -zeta only
  extract_lets -underBinder n jp
  let K:=vr (zA (Nat.min_le_left (a₀.size-lo) mr) lo) (yV<|zb B)
  suffices f:∀n g,RL rk κ a₀ g lo->1<=n->lo+n<=a₀.size->SrtOn rk (arrOf g) lo n->wpS (model prog w) A E s (jp () n) _ g from
   aE (λc=>lA<|wpS_bind<|vG u K (Ff.mpr (r,wx c,)) t j C λg G H s2=>fW ⋯ (f _ _ ((R.ahd o j).ahd H G) (vr t<|Ff.mpr (r,wx c,)) K s2)) λ_=>f _ _ (R.ahd o j) t (Q1 B r) C
  clear R j o t r C;intro n g R n1 J so;refine wpS_bind (wpS_get ?_)
  extract_lets -underBinder jp2
  let f:∀d,RL rk κ a₀ d lo->SrtOn rk (arrOf d) lo n->wpS (model prog w) A E s (jp2 ()) (Lr (λ_ _=>False) (λlo a=>RL rk κ a₀ a a₀.size) λlo a=>RL rk κ a₀ a lo/\x+1<=lo/\lo<=a₀.size) d:=λd R so=>wpS_bind (wpS_modify<|wpS_pure (R.push n1 (R.sb.size ▸ J) so,∅,J,))
  clear_value jp2
  cases (pendingOf g).back? with
  |none=>exact f _ R so
  |some b =>
   refine bC (λ_ _=>False) (λ_ a=>RL rk κ a₀ a lo/\SrtOn rk (arrOf a) lo n) (λ_ _ a=>RL rk κ a₀ a lo/\SrtOn rk (arrOf a) lo n) (R,so,) ?_ (λ_ _ v=>v) (λ_ _ _ h=>h.elim) λ_ d v=>wpS_bind<|wpS_modify<|f _ v.1.power v.2
   intro y _ d _ _ v;calc wpS_bind<|wpS_get ?_;by_cases q:(pendingOf d).size>1
   .let e:(if (pendingOf d).size>1 then(pendingOf d)[(pendingOf d).size-2]? else N9)=N8 (pendingOf d)[(pendingOf d).size-2]:=(Of q).trans<|getElem?_pos _ _ ∅;dsimp only;rw[e];exact aE (λ_=>wpS_pure v) λ_=>mm u v.1 (yV<|Rz q) λF R _ k=>fW ⋯ (wpS_pure (R,k n v.2,))
   .let e:(if (pendingOf d).size>1 then(pendingOf d)[(pendingOf d).size-2]? else N9)=none:=Oe q;dsimp only;rw[e];exact wpS_pure v
 let le:(pendingOf a).size<=a₀.size:=by
  let(R,e):=v;rw[←FV,←e];exact R.rn.len
 refine bC (λ_ _=>False) (λ_ a=>RL rk κ a₀ a a₀.size/\(pendingOf a).size<=1) (λx _ a=>RL rk κ a₀ a a₀.size/\((pendingOf a).size<=1\/(pendingOf a).size+x<=a₀.size)) (v,.inr le,) ?_ (λ_ _ v=>(v.1,by have:=v.2;lia,)) (λ_ _ _ h=>h.elim) λ_ i v=>?_
 .intro x _ i _ M v;calc wpS_bind<|wpS_get ?_;refine aE (λc=>wpS_pure (v.1,c,)) λc=>?_
  let c:2<=(pendingOf i).size:=Bx c;let I:∀b:Bool,(if b=Oa then(pendingOf i).size-2-1 else(pendingOf i).size-2)+2<=(pendingOf i).size:=λb=>by cases b <;> simp <;> lia
  exact mm u v.1 (I _) λF R e _=>fW ⋯ (wpS_pure (R,by have:=v.2;lia,))
 let((R,e),z):=v
 rename_i D Z
 let q:Z=[]:=by
  let:=Ol NE R.el;rw[FV,R.sb.size,cn]at this;exact jM ∅
 subst q;refine wpS_pure<|h _ R.sb.perm R.sb.failed<|Sd.on (l:=D) ?_ ?_ (by rw[R.sb.size];lia)
 .rw[R.el,iI,sT,←e,fm]
 .exact R.rn.one<|FV ▸ z
end
end PyProof.Rows._T
namespace _L
open PySem PySem.Spec PySem.W PyProof.Rows
variable{prog:Kf}{w:Ke}{A:Kr}{E:Kd->Ks->Prop}{s:Ks}
def DN{a:SortKind}{S:Keyed->Prop}{rk:Keyed->Int}(h:∀(x y:Keyed)(Q:Bool->Ks->Prop)(f:Kd->Ks->Prop),S x->S y->Q (Oc<|rk x<rk y) s->Kw (model prog w) A (keyLt' a x.1 y.1) Q f s):_T.Ask prog w A E s a S rk:=by
 intro x y g Q c b e d;rw[lt'_eq];calc wpS_bind<|wpS_get ?_;rw[e];calc wpS_bind<|wpS_lift<|MA<|h x y _ _ c b (U,?_,);calc wpS_pure d
def zZ{a:Ki}{vs:Oo Kd}{n:Nat}{G:Array Kd->Prop}{P:PySem.Fin->Ks->Prop}(r:s.heap.get? a=N8 (seqObj "list" vs.toArray n)) (hz:⇑vs<=Kk)
  (F:2<=⇑vs->∀s':Ks,(∀b o,b≠a->s.heap.get? b=N8 o->s'.heap.get? b=N8 o)->∀D,∃q rk,(∀Q:SortKind->Ks->Prop,Q q s'->Kw (model prog w) A (keyKind' vs.toArray) Q D s')/\_T.Ask prog w A D s' q (· ∈ pairsOf vs) rk/\∀arr:Array Keyed,arr.Perm (pairsOf vs)->_T.SrtOn rk arr 0 ⇑vs->G (arr.map (·.2)))
  (N:⇑vs<2->G vs.toArray)
  (h:∀out:Array Kd,out.size=⇑vs->G out->P (.done<|.ret .none) { s with heap:=sortedHeap s.heap a vs out }) :
  Kw (model prog w) A (Le.«list.sort» ([.ref a],[],)) P E s:=by
 let C:a<↥s:=bi r;let k:vs.toArray.size<=Kk:=by rw[dG];exact hz
 rw[list_sort_plain];calc JZ<|listItems_at r U<|JZ<|listUpdate_at r U ?_ k<|v3 _;let(v,m):∃v,(s.heap.update a<|im λ_=>#[]).get? a=N8 (seqObj "list" #[] v):=(_,get?_update_seq r<|λ_=>#[],);refine JZ (seqEpoch_at m U<|JZ<|Np (JZ<|NI (Kb ?_)<|v3 _) (by show ⇑vs<=_;exact hz));generalize f:({ s with heap:=((s.heap.update a<|im λ_=>#[]).push<|seqObj "tuple" vs.toArray 0).push (seqObj "list" #[] 0) }:Ks)=s6;let d:s6.heap.get? a=N8 (seqObj "list" #[] v):=by
  subst f;show(((s.heap.update a<|im λ_=>#[]).push<|seqObj "tuple" vs.toArray 0).push<|seqObj "list" #[] 0).get? a=_;rw[L2 _ _ _ (by rw[size_push',wE];exact vl (wI C)),L2 _ _ _ (by rw[wE];exact vl C)];exact m
 let keep:∀b o,b≠a->s.heap.get? b=N8 o->s6.heap.get? b=N8 o:=λb o I e=>by
  subst f;let p:b<↥s:=bi e;show(((s.heap.update a<|im λ_=>#[]).push<|seqObj "tuple" vs.toArray 0).push<|seqObj "list" #[] 0).get? b=_;rw[L2 _ _ _ (by rw[size_push',wE];exact vl (wI p)),L2 _ _ _ (by rw[wE];exact vl p),PV _ _ _ _ I];exact e
 let fin:∀out:Array Kd,out.size=⇑vs->G out->P (.done<|.ret .none) { s6 with heap:=s6.heap.update a (im λ_=>out) }:=λout i H=>by
  subst f;exact h out i H
 show Kw (model prog w) A _ P E s6;dsimp only;by_cases u:⇑vs<2
 .let j:vs.toArray.size<2:=by rw[dG];exact u
  rw[Of j,Of j];calc JZ<|Ka ?_;rw[StateT.run_pure];calc JZ<|Ka ?_;dsimp only;let J:(arrOf<|Pw general' (vs.toArray.zip vs.toArray) #[] 7 N9).map (·.2)=vs.toArray:=by
   show(vs.toArray.zip vs.toArray).map (·.2)=vs.toArray;apply RE.mp
   rw[RD,Array.toList_zip];exact List.map_snd_zip<|vk _
  rw[J];calc JZ<|seqEpoch_at d U<|JZ<|listUpdate_at d U ?_ (v3 _)<|O1 k;simp only[bne_self_eq_false,Jy,if_false];exact Ka<|fin vs.toArray dG<|N u
 .let j:¬ vs.toArray.size<2:=by rw[dG];exact u
  rw[Oe j,Oe j];let(q,rk,z,y,x):=F ∅ s6 keep E;calc JZ<|z _ ?_;let g:(pairsOf vs).size=⇑vs:=pairsOf_size vs
  refine JZ (KH (_T.wpS_sortAll (a₀:=pairsOf vs) (st:=Pw q (vs.toArray.zip vs.toArray) #[] 7 N9)
   (Q:=λ_ c=>(arrOf c).Perm (pairsOf vs)/\failedOf c=N9/\_T.SrtOn rk (arrOf c) 0 (pairsOf vs).size)
   y (Array.Perm.refl _,U,U,) U (by rw[g];lia) λc M L K=>(M,L,K,)) ?_ λ_ _ e=>e)
  rintro⟨⟨⟩,c⟩ s' ⟨rfl,t,B,i⟩;dsimp only at t B i⊢;rw[g]at i;let l:((arrOf c).map (·.2)).size=⇑vs:=(Array.size_map ..).trans<|t.size_eq.trans g;calc JZ<|seqEpoch_at d U<|JZ<|listUpdate_at d U ?_ (v3 _)<|vr (yV l)<|O1 hz;rw[B];simp only[bne_self_eq_false,Jy,if_false];calc Ka<|fin _ l<|x _ t i
variable{X:Cx}
def tJ{a:Ki}{ks:Oo Int}{m:Nat}{Q:Kd->Ks->Prop}(hh:A.handled=N9)(hW:dM s.heap a (!dP w) ks m)(hm:m<=1000)
  (h:∀(J:Oo Int)(vs:Oo Kd)(s':Ks)(D:Ki)(c:Nat),Vals (J.map ut) vs->J.Pairwise (· < ·)->(∀k,k∈J↔k∈ks)->↥s<=D->(∀b u,s.heap.get? b=N8 u->s'.heap.get? b=N8 u)->s'.heap.get? D=N8 (seqObj "list" vs.toArray c)->s'.gens=s.gens->s'.os=s.os->J.length=m->Q (.ref D) s') :
  Kw (model prog w) A (call (.builtin "sorted") [.ref a]) Q E s:=by
 let(o,es,ep,t,ho,a8,hd,S,L,hf,ha,K,hn):=hW;calc Qf kind_sorted plain_sorted entry_sorted (args_sorted1 _) ?_;unfold Le.«sorted»;calc JZ (m:=checkCount "sorted" 1 1 _)<|Ka ?_;refine JZ (sW (by simp[hh]) ho a8 hd L hf ha K λd f N kp hg Z X=>?_);let I:⇑d=m:=by rw[N.length_eq,aa,FV,hn]
 let l:∀v∈d,∃u,v=.int (fk v) u:=λv O=>by
  let(e,he,rfl):=br.mp<|N.mem_iff.mp O;exact(S.ent e he).2
 let R:=rq l;let pk:(d.map fk).Perm (es.toList.map λe=>fk e.2):=by
  let:=N.map fk;rw[n7]at this;exact this
 refine JZ (NI ?_ (by rw[Ln];lia));let r:(f.heap.push<|seqObj "list" d.toArray 0).get? ↥f=N8 (seqObj "list" d.toArray 0):=bn _ U;let keep:∀b u,s.heap.get? b=N8 u->(f.heap.push<|seqObj "list" d.toArray 0).get? b=N8 u:=λb u q=>am _<|kp b u q
 show Kw _ _ _ _ _ { f with heap:=f.heap.push (seqObj "list" d.toArray 0) };refine JZ<|Kb<|LU slot_list_sort (_,r,U,) entry_list_sort ?body<|args_list_sort _
 case body =>
  refine zZ (s:={ f with heap:=f.heap.push (seqObj "list" d.toArray 0) }) (G:=λout=>out.toList.Perm d/\(out.toList.map fk).Pairwise (· <= ·)) r (by rw[Ln];lia) (λn s' _ E'=>?_) (λn=>?_) λout JA a0=>(_,U,Ka (_,U,?_,),)
  .refine(oneType',λx=>fk x.1,λQ hQ=>?_,DN λx y Q b0 hx hy P=>?_,λg hp hs=>?_,)
   .match d,n,R with
    | [],n,_=>exact Og n (by simp)
    | [_],n,_=>exact Og n (by simp)
    |v1 :: v2 :: rest,_,R=>rw[keyKind_ints R];exact Ka hQ
   .let W:x.1∈d:=(mem_zip_self (by rw[←pairsOf_toList];exact G6.mpr hx)).2;let T:y.1∈d:=(mem_zip_self (by rw[←pairsOf_toList];exact G6.mpr hy)).2;let(u1,C):=l _ W;let(u2,F):=l _ T;generalize fk x.1=kx at C P;generalize fk y.1=ky at F P;rw[C,F];exact kat_lt_int P
   .let K:g.toList.Perm (d.zip d):=by rw[←pairsOf_toList];exact OT.mp hp
    let fO:∀p∈g.toList,p.1=p.2/\p.1∈d:=λp Y=>mem_zip_self<|K.mem_iff.mp Y
    let F:(g.map (·.2)).toList=g.toList.map (·.2):=RD;let a9:g.size=⇑d:=by rw[hp.size_eq,pairsOf_size]
    refine(?_,?_,)
    .rw[F];let:=K.map (·.2)
     rwa [List.map_snd_zip (vk _)]at this
    .rw[F,n7,pe];intro i j hi hj a6;let a7:i<g.size:= ~~~hi
     have a5:j<g.size:= ~~~hj
     have z:=hs i j (v3 _) (wx a6) ∅;rw[_T.Kx_at a7,_T.Kx_at a5]at z;let mi:=fO g[i] (by simp);let mj:=fO g[j] (by simp);rw[mi.1,mj.1]at z;simpa using z
  .refine(List.Perm.refl _,?_,)
   match d,n with
   | [],_=>exact Pe
   | [_],_=>exact List.pairwise_singleton _ _
   |_ :: _ :: _,n=>exact Og n (by simp)
  let(g1,a3):=a0;let a1:IntsAre out.toList (out.toList.map fk):=rq λv O=>l v<|g1.mem_iff.mp O
  let M:(out.toList.map fk).Perm (d.map fk):=g1.map fk;generalize out.toList.map fk=ns' at a1 M a3;let nd:ns'.Nodup:=M.nodup_iff.mpr<|pk.nodup_iff.mpr S.nd;let H:↥f<(f.heap.push<|seqObj "list" d.toArray 0).objs.size:=bi r;let(C,a4):∃C,((f.heap.push<|seqObj "list" d.toArray 0).update ↥f<|im λ_=>#[]).get? ↥f=N8 (seqObj "list" #[] C):=(_,get?_update_seq r<|λ_=>#[],);let h3:∀b,b<(f.heap.push<|seqObj "list" d.toArray 0).objs.size->((((f.heap.push<|seqObj "list" d.toArray 0).update ↥f<|im λ_=>#[]).push<|seqObj "tuple" d.toArray 0).push<|seqObj "list" #[] 0).get? b=((f.heap.push<|seqObj "list" d.toArray 0).update ↥f<|im λ_=>#[]).get? b:=λb L=>by
   rw[L2 _ _ _ (by rw[size_push',wE];exact vl (wI L)),L2 _ _ _ (by rw[wE];exact vl L)]
  let e6:((((f.heap.push<|seqObj "list" d.toArray 0).update ↥f<|im λ_=>#[]).push<|seqObj "tuple" d.toArray 0).push<|seqObj "list" #[] 0).get? ↥f=N8 (seqObj "list" #[] C):=by rw[h3 _ H];exact a4
  let sz:↥s<=↥f:=wx X;refine h ns' out.toList { f with heap:=sortedHeap (f.heap.push<|seqObj "list" d.toArray 0) ↥f d out } ↥f _ (qF a1) (ij a3 nd) (λk=>(M.mem_iff).trans<|(pk.mem_iff).trans (S.mem k).symm) sz (λb u q=>?_) (get?_update_seq e6<|λ_=>out) hg Z ?_
  .let B:b<↥f:=bi<|kp b u q;show(Kj.update _ _ _).get? b=N8 u;rw[PV _ _ _ _ (vl B),h3 _<|CD B H,PV _ _ _ _ (vl B)];exact keep b u q
  .rw[M.length_eq,aa,I]
def fX{w:Ke}(p:X.w=w)(C:X.calm=Oa):cF X (.builtin "sorted") (λus H Q=>∃(a:Ki)(zs L:Oo Int),us=[.ref a]/\H a=N8 (vC w a zs)/\L.length<=1000/\(∀k∈zs,k∈L) /\
  ∀(D:Ki)(d:Oo Int),H D=N9->d.Pairwise (· < ·)->(∀k,k∈d↔k∈zs)->Q (.ref D) (upd H D<|.lst<|d.map ut)):=by
 subst p;intro l s P H us R Q I r h;let(a,zs,L,rfl,e,T,v,q):=h;let(u,rfl,n):=r.one;obtain rfl:u=dL a:=n;let((m,x),_,_):=I.hok a _ e;let A:m<=1000:=by
  let(o,W,Y,t,_,_,_,i,_,_,_,_,y):=id x;let:=bh (L:=L) i.nd λk B=>v k<|(i.mem k).mpr B
  rw[aa,FV,y]at this;lia
 refine tJ (I.ok.hd C) x A λd us S D c O N M j K J G F Z=>?_
 let E:H D=none:=I.hok.fresh j;refine(.ref D,upd H D<|.lst<|d.map ut,I.grow K G F (λb g=>by rw[av (vl<|v5 g j)]) (λb u g f=>?_),U,q D d E N M,);by_cases z:b=D
 .subst z;rw[ag]at f;cases f;exact(by rw[aa,Ln];lia,us,c,O,J,)
 .rw[av z,I.hok.fresh g]at f;cases f
def  Ite(K:bd)(a:Ki):It :=
 (λi H=>∃b x,SqL K H a b/\b[i]?=N8 x,
 λi H v c=>∃T,H T=N9/\v=.ref T/\∀b x,SqL K H a b->b[i]?=N8 x->c=upd H T (.tup [.int i,x]),
 λi H=>∃b,SqL K H a b/\⇑b<=i,)
def  Aa(e it a:Ki)(i:Nat)(h:Kj):Prop:=(∃b,IsEnum h e it i b)/\h.IsListIter it a i
def yh{P:Kf}{w:Ke}{K:bd}{p:Oo Kz} {x1} {tp:Pos}{e it a:Ki}(m:e≠it) :
  Turn P w K (.Tuple p x1 tp) (Ite K a) [e,it] e (Aa e it a) where
 mem:=by simp
 obj:=λi h d c b=>by
  let((f,l),(o2,j,_,d2)):=d;simp only[af,jj,or_false]at b;rcases b with rfl|rfl
  .exact⟨_,l,λv q=>nomatch q⟩
  .exact⟨_,j,λv q=>by rw[d2]at q;cases q⟩
 keep:=λi h h' d k=>by
  let((f,l),j):=d;exact((f,k e (by simp) _ l,),j.at λo q=>k it (by simp) o q,)
 item:=by
  intro X D B F b i n s R H E I t d C;subst D B F;let(S,x,r,O):=C;let((f,l),j):=d;let(V,z,A,_):=I.list r;let(u,eu,Y):=z.get O;refine wpAny_pyNext_enum_item l j A.isList (x:=u) (~~~eu) m λh1 a1 a2 a3 a4 a5=>?_
  calc(_,U,wpAny_letOwnedTupleGo_enum (s:={ s with heap:=h1,toks:=s.toks+1 }) a1 λG b1 b2=>?_,);let nT:s.heap.get? ↥s=none:=by
   cases q:s.heap.get? ↥s with
   |none=>rfl
   |some o=>exact Og (bi q) (w4 _)
  let N:H ↥s=none:=I.hok.fresh<|vk _;let M:↥s≠e:=wz<|bi l;let kk:∀c o,c ∉ [e,it]->s.heap.get? c=N8 o->G.get? c=N8 o:=λc o b q=>by
   simp only[af,jj,or_false,not_or]at b;exact b2.extBut _ _ b.1<|a5 c o b.1 b.2 q
  let J:=I.turnedPair (h':=G) (ch:=[e,it]) (T:=↥s) (x:=.int i) (y:=x) (u:=.int i s.toks) (v:=u) (λc b=>t c (by simp at b⊢;rcases b with q|q <;> simp[q])) kk nT N (b2.extBut _ _ M a3) (_,U,) Y;refine(.ref ↥s,upd H ↥s<|.tup [.int i,x],J.tok _,U,(_,N,U,λa0 x' Z Q=>?_,),((_,b1,),a2.extBut b2.extBut m.symm,),λc b=>?_,)
  .rw[I.list_inj Z r,O]at Q;cases Q;rfl
  .let h0:=(t c b).1;let:c≠↥s:=by
    let(o2,L,_):=j;simp only[af,jj,or_false]at b;rcases b with rfl|rfl
    .exact M.symm
    .exact vl<|bi L
   rw[av this];exact h0
 done:=by
  intro X D B F b i n s R H E I t d C;subst D B F;let(S,r,hl):=C;let((f,l),j):=d;let(V,z,A,_):=I.list r;let l1:=⇑z;refine wpAny_pyNext_enum_end (I.ok.hd b) l j A.isList (by simp;lia) λG k=>⟨U,I.turnedL (ch:=[e,it]) (λc b=>t c (by simp at b⊢;rcases b with q|q <;> simp[q])) λc o b q=>?_⟩
  simp only[af,jj,or_false,not_or]at b;exact k c o b.2 q
 self:=λ_ _ _ _ _ d h=>let ⟨⟨_,g⟩,_⟩:=d;NJ g h
inductive Ab(K:bd)(R:It->RK)(vs:Oo V)(H1:Hp):Prop
 |mk (a:_)(_:vs=[.ref a])(_:(∃xs,SqL K H1 a xs))(_:R (Ite K a) H1)
def  Fu(K:bd)(c:TA):TI:=λa H R=>c a H λb d=>Ab K R b d
def wW{g:Kz}{k:TA}{p pos:Pos}{f:Oo Kz} {x1} {tp:Pos}(A:Gl X "enumerate") (hm:X.mg "enumerate" = N9) (B:PA X [g] k)
  (z:KD [g] X.env=[(Ob,eval g X.env)]:=by rfl) :
  PI X (.Tuple f x1 tp) (.Call (.Name "enumerate" p) [g] [] pos) (Fu X.K k):=by
 intro e s m H R I h;refine Call_ (fK I A hm PyProof.Rows.boot_enumerate<|nw (thn (B pos e s m H _ I h) λr b (G,D,i,v,x,)=>?_) (by rw[z];rfl) U);let(a,rfl,(F,w),q):=x;let(u,rfl,t):=v.one;cases (show u=dL a from t);let(r,_,y,_):=i.list w;refine call_enumerate_list y.isList λC j o E n=>?_
 calc NJ (s:={ b with heap:=C }) j ?_;calc(↥b+1,[↥b+1,↥b],Aa (↥b+1) ↥b a,Ite X.K a,D,U,i.kept (t':=b.toks) n,yh<|wz<|yl _,((_,j,),o,),λc l=>?_,q,);let d:↥b<=c:=by
  simp only[af,jj,or_false]at l;rcases l with rfl|rfl
  .exact w5 _
  .exact vk _
 calc i.fpOk d<|i.hok.fresh d
variable{gt:TG}{k:Nat}{fr:Oo Nat}{tt:TT}{te:TE}
def vH{K:bd}{a:Ki}{xs:Oo V}{j:St}{f:Hp}{Q:VK}(c:Ki->Nat->Oo V->RK)(u:∀D,f D=N9->c D 0 [] (upd f D<|.lst []))
  (s:∀D i ys H,f D=N9->i<=⇑xs->c D i ys H->SqL K H a xs)
  (r:∀D i x ys H T,f D=N9->xs[i]?=N8 x->c D i ys H->H T=N9->∀ts:St,⇑ts=k->gt (.ref T) (cB j fr ts) (upd H T<|.tup [.int i,x]) λd v=>(∃g:St,⇑g=k/\d=cB j fr g)/\tt d v λb o=>if b=Oa then te d o (df c D i ⇑xs)else dZ c D i ⇑xs o)
  (hd:∀D ys H,f D=N9->c D ⇑xs ys H->Q (.ref D) H):fA (Ite K a) gt k fr tt te j Q f:=by
 intro D h;calc(λi m H=>m=⇑xs-i/\i<=⇑xs/\∃ys,c D i ys H,(_,U,v3 _,[],u D h,),?_,);rintro i m H ⟨rfl,hi,ys,p⟩;let q:=s D i ys H h hi p;by_cases n:i<⇑xs
 .let l:xs[i]?=N8 xs[i]:=JP n;calc .inr ((xs,xs[i],q,l,),λx w y=>?_,);let(T,t,rfl,e):=y;rw[e xs _ q l];exact r D i _ ys _ T h l p t
 .let e:i=⇑xs:=∅
  subst e;calc .inl ((xs,q,vk _,),hd D ys H h p,)
def yi{K:bd}{a b:Ki}{xs ys:Oo V}{j:St}{f:Hp}{Q:VK}(c:Ki->Nat->Oo V->RK)(v:∀D,f D=N9->c D 0 [] (upd f D<|.lst []))
  (t:∀D i zs H,f D=N9->i<=min ⇑xs ⇑ys->c D i zs H->SqL K H a xs/\SqL K H b ys)
  (s:∀D i x y zs H T,f D=N9->xs[i]?=N8 x->ys[i]?=N8 y->c D i zs H->H T=N9->∀ts:St,⇑ts=k->gt (.ref T) (cB j fr ts) (upd H T<|.tup [x,y]) λd w=>(∃g:St,⇑g=k/\d=cB j fr g)/\tt d w λb r=>if b=Oa then te d r (df c D i<|min ⇑xs ⇑ys)else dZ c D i (min ⇑xs ⇑ys) r)
  (hd:∀D zs H,f D=N9->c D (min ⇑xs ⇑ys) zs H->Q (.ref D) H):fA (Itz K a b) gt k fr tt te j Q f:=by
 intro D h;calc(λi m H=>m=min ⇑xs ⇑ys-i/\i<=min ⇑xs ⇑ys/\∃zs,c D i zs H,(_,U,v3 _,[],v D h,),?_,);rintro i m H ⟨rfl,hi,zs,p⟩;let(n,l):=t D i zs H h hi p;by_cases z:i<min ⇑xs ⇑ys
 .let q:xs[i]?=N8 xs[i]:=JP ∅;let o:ys[i]?=N8 ys[i]:=JP ∅;calc .inr ((xs,ys,xs[i],ys[i],n,l,q,o,),λx A y=>?_,);let(T,u,rfl,e):=y;rw[e xs ys _ _ n l q o];exact s D i _ _ zs _ T h q o p u
 .let e:i=min ⇑xs ⇑ys:=∅
  subst e;calc .inl ((xs,ys,n,l,∅,),hd D zs H h p,)
def d7{X:Cx}{N:Oo Str}{k:Nat}{fr:Oo Nat}{scope:Kt}{cl:Oo (Str×Ki)}(clos:Mb scope X.env=pure cl)(kind:scope.kind=.function)(a:∀y∈scope.names,y.2≠.cell)
  (names:∀y∈scope.names,y.2=.local->scope.names.lookup y.1=N8 .local)(len:N.length=k+⇑fr)
  (sub:((db ⇑fr).all λi=>match N[k+i]?,fr[i]? with|some y,N8 j=>(X.N[j]? == N8 y) && ((X.env.kindOf y == N8 .cell) && ((relabel scope X.env).names.lookup y == N8 .cell))|_,_=>Ob)=Oa)
  (cells:∀p∈cl,X.env.cells.lookup p.1=N8 p.2)(b:((relabel scope X.env).names.all λp=>(p.2 != .cell && p.2 != .free) || (cl.lookup p.1).isSome)=Oa):nC X N k fr scope cl:=by
 refine(clos,kind,a,names,len,λi y e=>?_,λy c e=>cells _<|mem_of_lookup e,λy h=>?_,)
 .let hi:i<⇑fr:=by have:=(JQ.mp e).1;lia
  let z:=jL.mp sub i<|gd.mpr hi;rw[e,JP hi]at z;simp only[Iv,beq_iff_eq]at z;exact(_,JP hi,z.1,.inl z.2.1,.inl z.2.2,)
 .let look:∀k,(relabel scope X.env).names.lookup y=N8 k->(k=.cell\/k=.free)->∃c,cl.lookup y=N8 c:=λk e d=>by
   let z:=jL.mp b _<|mem_of_lookup e;rcases d with rfl|rfl
   .exact JG.mp<|~~~z
   .exact JG.mp<|~~~z
  rcases h with h|h
  .exact look _ h<|.inl U
  .exact look _ h<|.inr U
def yj{K:bd}(g:X.K=K){a:Kz}{c:TE}(f:PE X a c)(e:∀b,KA a X.env b=(do let v ←b;KN a.pos;holding [v] (truthy v)):=by intro _;rfl) :
  PT X a (λd H Q=>c d H λx H'=>∃k,Dq K x H' k/\Q k H'):=g ▸ cY f e
variable{tg:Kz}{pos:Pos}{scope:Kt}{N:Oo Str}
section
variable{elt iter:Kz}{ifs:Oo Kz}{cl:Oo (Str×Ki)}
def tK{E:TI}{i:Nat}{y:Str}{d B:Pos}(hN:X.N.Nodup)(F:X.N[i]?=N8 y)(S:Loc X.env.scope y)(hi:PI X tg iter E)(O:nC X N k fr scope cl)(Z:X.calm=Oa)(V:∀fp C s H,PG (bB X N scope cl fp C s H) tg gt)
  (G:∀fp C s H,PIf (bB X N scope cl fp C s H) ifs tt)(Y:∀fp C s H,PE (bB X N scope cl fp C s H) elt te)(K:∀v,Lf iter X.env v=pure v:=by intro _;rfl)
  (n:KR (.ListComp elt [(tg,iter,ifs,0,)] scope pos) (N8<|.Name y d) B.line X.env=pure true:=by rfl)(W:X.fn y=Oa\/X.env.scope.names.lookup y=N8 .local:=by first|exact .inl U|exact .inr U|assumption) :
  PS X (.Assign [.Name y d] (.ListComp elt [(tg,iter,ifs,0,)] scope pos) B) (Bd (zH E gt k fr tt te)<|p7 i):=by
 intro b s x H j I h;rw[Mm _ _ _ _ n];calc JZ<|KZ<|JZ ?_;show Kw _ X.A (do let _ ←comprehension (.ListComp elt [⟨tg,iter,ifs,0⟩] scope pos) scope X.env _ (Me []) Ob (eval iter X.env) (N8<|assign (.Name y d) X.env)) _ _ s;calc JZ<|KH (Mj (use:=N8<|assign (.Name y d) X.env) (Q:=λ_ c=>SP X b j .next c) U K O.clos O.kind O.names<|thn (hi b s x H _ I h) λv s1 h1=>thn h1 λa0 s2 h2=>?_) (λ_ c L=>Ka<|Ka L) λ_ _ z=>z;let(it,fp,tn,J,H2,e,f,T,l,f2,hW):=h2;subst e;refine nE (Q:=λv H1=>p7 i v x H1 j.nx) (RR:=λu C=>Ml (model X.prog X.w) X.A X.xe (N8<|assign (.Name y d) X.env) (λ_ c=>SP X b j .next c) u C) O Z f T l f2 G Y V hW λD C c H' g P (m,R,) I' q=>?_
 show Kw _ X.A (assign (.Name y d) X.env<|.ref D) _ _ c;calc KY<|kS I' hN F S (v:=.ref D) U (λs3 I3 (a,p,ha,)=>?_) W;let t:C≠a:=by
  rcases ha with z|z
  .rw[z];exact wz<|v5 f.lt g
  .let(v,o,M,_):=f.cell y a z;exact wz<|v5 (bi M) g
 calc(m,R.sameBut p t,λh' r=>(_,H',f.left I3 g P r,q,),)
end
set_option maxRecDepth 100000
def Ac:PIp X .Mult (λx y H Q=>∃i j,x=.int i/\y=.int j/\Lh i j/\Q (.int<|i*j) H):=by
 intro a s g H x y v u Q I c b h;let(i,j,f,e,d,q):=h;subst f;subst e;let(t,rfl):=c;let(k,rfl):=b;exact PyProof.Rows.imul_int (.int _,H,I.tok _,(_,U,),q,) d
set_option maxRecDepth 100000
def Ad{K:bd}{a:Ki}{xs:Oo V}{g:TG}{l:TS}{D:Ends}{b:St}{H:Hp}(c:Nat->RJ)(u:c 0 b H)(s:∀i b H,c i b H->SqL K H a xs)
  (r:∀i x b H T,xs[i]?=N8 x->c i b H->H T=N9->g (.ref T) b (upd H T<|.tup [.int i,x]) λd k=>l { D with nx:=c<|i+1,ct:=c<|i+1,bk:=D.nx } d k)
  (hd:∀b H,c ⇑xs b H->D.nx b H) :
  ∃W:Nat->Nat->RJ,(∃m,W 0 m b H)/\∀i m b H,W i m b H ->
   ((Ite K a).stop i H/\D.nx b H)\/((Ite K a).go i H/\∃N:RJ,(∀f H',N f H'->∃n,n<m/\W (i+1) n f H')/\∀x H',(Ite K a).yld i H x H'->g x b H' λd k=>l { D with nx:=N,ct:=N,bk:=D.nx } d k):=by
 refine(λi m b H=>m=⇑xs-i/\i<=⇑xs/\c i b H,(⇑xs,by simp,v3 _,u,),?_,);rintro i m b H ⟨rfl,hi,p⟩;let h:=s i b H p;by_cases lt:i<⇑xs
 .let j:xs[i]?=N8 xs[i]:=JP lt;refine .inr ((xs,_,h,j,),c<|i+1,λf H' q=>(_,?_,U,lt,q,),λv H' o=>?_,)
  .lia
  .let(T,t,rfl,e):=o;rw[e xs _ h j];exact r i _ b H T j p t
 .let e:i=⇑xs:=∅
  subst e;calc .inl ((xs,h,vk _,),hd b H p,)
def Ae{X:Cx}{K:bd}(h:X.K=K):SlR X (Dx K):=h ▸ wL
def rB:LZ (.type "list") "keys" = pure none:=by rw[MY,MZ];kernel_rfl
def yk{a:Ki}{items:Array Kd}{Q:Option Kd->Ks->Prop}(v:s.heap.IsList a items)(l:∀o,s.heap.get? a=N8 o->o.dict=N9)(x:A.handled=N9)
  (h:∀h' m,(∀b o,s.heap.get? b=N8 o->h'.get? b=N8 o)->Q N9 { s with heap:=h',toks:=m }) :
  Kw (model prog w) A (Mz (.ref a) "keys") Q E s:=by
 let(o,j,n,k,q):=v;let hd:=l o j;let(c,y,z,r):=o;simp only at n q hd;subst n q hd;let(u,g,d,m,t):=s;let p:∀f,(⟨u,g,d,f,t⟩:Ks).TypeIs (.ref a) "list" := λ_=>(_,j,U,)
 let J:=sub_AttributeError;let I:=O6.lookup;let H:=O6.bind<|.ref a;let G:=am_list_getattr_none;unfold Mz getAttrBy? getAttrBy
 repeat (any_goals (first|assumption|exact p _|((with_reducible show Kw _ _ (call (Kd.builtin "list.__getattribute__") _ _) _ _ _);refine L8 O6 (p _) am_entry_list_getattribute (F.args_list_getattribute_2 _ _) (meets_getattribute_miss_list a _ k r "keys" _ rB ⋯ ⋯) (j,x,λh' f e i=>?_,))|wp_step))
 let(C,B,D):=i.there;show Kw _ _ (NL _ _ _ _ _ _ _) _ _ _;unfold NL
 repeat (any_goals (first|assumption|wp_step))
 calc h _ _ i.of.keeps
def cE:plainId "dict.update.loop" = true:= ~~~0
def fE:M3 table "dict.update.loop" = N8 Le.«dict.update.loop»:=M4 (by kernel_rfl)
def qH{α a:Type}{R:α->a->Prop}:∀{xs:Oo α}{ys:Oo a},⇑xs=⇑ys->(∀(j:Nat)(x:α)(y:a),xs[j]?=N8 x->ys[j]?=N8 y->R x y)->Paired R xs ys
 | [],[],_,_=>.nil
 |x :: xs,y :: ys,hl,h=>.cons (h 0 x y U U)<|qH (~~~hl) λj c b e f=>h (j+1) c b (~~~e)<|~~~f
 | [],_ :: _,hl,_=>by simp at hl
 |_ :: _,[],hl,_=>by simp at hl
def wX{α:Type}{P:Nat->α->Prop}:∀n:Nat,(∀j,j<n->∃a,P j a)->∃l:Oo α,⇑l=n/\∀(j:Nat)(a:α),l[j]?=N8 a->P j a
 |0,_=>([],U,λj a e=>by simp at e,)
 |n+1,h=>by
  let(l,c,f):=wX n λj d=>h j ∅
  let(a,g):=h n ∅;refine(l++[a],by simp[c],λj b e=>?_,);by_cases d:j<⇑l
  .rw[fS d]at e;exact f j b e
  .let:j=n:=by have:=(JQ.mp e).1;simp at this;lia
   subst this;rw[jy ∅,c,Bu]at e;cases e;calc g
def BB{a:Oo (Ki×Obj)}{b:St}{H:Hp}{s:Ks}(I:Inv X a b H s):(↥s == Kl)=false:=by
 let h:Ko<↥s:=(I.mod.glob.keeps I.bk).lt;let c:Kl<↥s:=CD ⋯ h;calc beq_eq_false_iff_ne.mpr<|wz c
structure GU(X:Cx)(N:Oo Str)(k:Nat)(fr:Oo Nat)(scope:Kt)(cl:Oo (Str×Ki)):Prop where
 clos:Mb scope X.env=pure cl
 kind:scope.kind=.function
 names:∀y∈scope.names,y.2=.local->scope.names.lookup y.1=N8 .local
 len:N.length=k+⇑fr
 sub:∀(i:Nat)(y:Str),N[k+i]?=N8 y->∃j,fr[i]?=N8 j/\X.N[j]?=N8 y/\(X.env.kindOf y=N8 .cell\/X.env.kindOf y=N8 .free)/\((relabel scope X.env).names.lookup y=N8 .cell\/(relabel scope X.env).names.lookup y=N8 .free)/\∃c,cl.lookup y=N8 c/\∀C:Ki,(LK (C+1) scope.names cl).lookup y=N8 c
 cells:∀y c,cl.lookup y=N8 c->X.env.cells.lookup y=N8 c
 has:∀(C:Ki)(y:Str),((relabel scope X.env).names.lookup y=N8 .cell\/(relabel scope X.env).names.lookup y=N8 .free)->∃c,(LK (C+1) scope.names cl).lookup y=N8 c
section
variable{elt iter:Kz}{ifs:Oo Kz}{cl:Oo (Str×Ki)}
end
def  eI(n:Int):Kd->Bool
 | .int a _=>a == n
 |_=>Ob
variable{st:KG}
section
variable{b₀:KG}{su:Oo KG}{tb:TSX}{ts:Ki->Ki->TS}{Tn:Str}{B:Ki}{np Fh:Pos}
end
def  GW(e:TT)(g f:TSX):TSX:=λD a H d=>e a H λb c=>if b=Oa then g D a c d else f D a c d
def DP{X:Cx}{c:Kz}{l s2:KG}{i:TT}{k j:TSX}{pos:Pos}(u:PT X.nox c i)(y:PSX X l k)(x:PSX X s2 j):PSX X (.If c [l] [s2] pos) (GW i k j):=by
 intro a s e H D g I h;calc wpAny_If<|KH (u a s e H _ (I.wish _) h) (λd m (o,B,n,)=>?_) λ_ _ z=>io z;let b:∀{st:KG}{t:TSX},PSX X st t->t D e o g->Kw (model X.prog X.w) X.A (execs [st] X.env) (SP X a D) (XP X a e g) m:=λ{st t} r p=>by
  calc KQ<|KH (r a m e o D g B.unwish p) (λf s2 q=>?_) λ_ _ z=>z;cases f with
  |next=>exact KP q
  |ret v=>exact q
  |brk=>exact q
  |cont=>exact q
 cases d with
 |true=>exact b y n
 |false=>calc b x n
def iW{K:bd}{a:Ki}{xs:Oo V}{j:St}{f:Hp}{Q:VK}(c:Ki->Nat->Oo V->RK)(s:∀D,f D=N9->c D 0 [] (upd f D<|.lst []))
  (r:∀D i ys H,f D=N9->i<=⇑xs->c D i ys H->SqT K H a xs)
  (o:∀D i x ys H,f D=N9->xs[i]?=N8 x->c D i ys H->∀ts:St,⇑ts=k->gt x (cB j fr ts) H λd t=>(∃g:St,⇑g=k/\d=cB j fr g)/\tt d t λb n=>if b=Oa then te d n (df c D i ⇑xs)else dZ c D i ⇑xs n)
  (hd:∀D ys H,f D=N9->c D ⇑xs ys H->Q (.ref D) H):fA (Itt K a) gt k fr tt te j Q f:=by
 intro D h;calc(λi m H=>m=⇑xs-i/\i<=⇑xs/\∃ys,c D i ys H,(_,U,v3 _,[],s D h,),?_,);rintro i m H ⟨rfl,hi,ys,p⟩;let q:=r D i ys H h hi p;by_cases l:i<⇑xs
 .refine .inr ((xs,xs[i],q,by simp[l],),λx u y=>?_,);let(e,y):=y;subst e;exact o D i x ys _ h (y xs q) p
 .let e:i=⇑xs:=∅
  subst e;calc .inl ((xs,q,vk _,),hd D ys H h p,)
abbrev TTh:HO:=.ext λ_=>True
def tL{P:Kf}{w:Ke}{H:Hp}{h:Kj}{a:Ki}{o:Obj}(e:h.get? a=N8 o):bO P w H h a (.frz o TTh):=(e,trivial,(o,e,),λ_ _ _ _=>trivial,)
def  hideL(H:Hp)(a:Oo Ki):Hp:=λb=>if b∈a then N9 else H b
def  fY(H:Hp)(fz:Oo (Ki×Obj)):Hp:=λb=>match fz.lookup b with
 |some o=>N8<|.frz o TTh
 |none=>H b
def  backL(H H':Hp)(a:Oo Ki):Hp:=λb=>if b∈a then H b else H' b
def iq{H:Hp}{a:Oo Ki}{b:Ki}(h:b∈a):hideL H a b=none:=Of h
def aZ{H:Hp}{a:Oo Ki}{b:Ki}(h:b ∉ a):hideL H a b=H b:=Oe h
def n5{H H':Hp}{a:Oo Ki}{b:Ki}(h:b∈a):backL H H' a b=H b:=Of h
def cA{H H':Hp}{a:Oo Ki}{b:Ki}(h:b ∉ a):backL H H' a b=H' b:=Oe h
def dQ{H:Hp}{a:Oo Ki}{b:Ki}(h:H b=N9):hideL H a b=none:=by
 unfold hideL;split
 .rfl
 .exact h
def vI{H:Hp}{a:Oo Ki}{b:Ki}{o:HO}(h:hideL H a b=N8 o):b ∉ a/\H b=N8 o:=by
 unfold hideL at h;split at h
 .cases h
 .rename_i n
  calc(n,h,)
def  Fzs(H:Hp)(a:Oo Ki):Prop:=∀c∈a,∃o,H c=N8 (.frz o TTh)
def Fzs.out{H:Hp}{a:Oo Ki}(h:Fzs H a){b:Ki}{u:HO}(e:H b=N8 u)(n:∀o,u≠.frz o TTh):b ∉ a:=λz=>by
 let(o,q):=h b z;rw[e]at q;calc n o<|ci q
variable{P:Kf}{H H':Hp}{h h':Kj}
section
variable{cs:Oo Ki}
def HOk.hideL(x:HOk P w H h)(f:Fzs H cs):HOk P w (hideL H cs) h:=λb o e=>by
 let(n,e):=vI e;refine(x b o e).stay (λ_ _ _ q=>q) (λc q=>?_) λc a q=>?_
 .rw[aZ (f.out q λ_ z=>by cases z)];exact q
 .rw[aZ (f.out q λ_ z=>by cases z)];calc q
def HOk.backL(x:HOk P w H' h')(f:Fzs H cs)(n:∀c∈cs,H' c=N9)(k:∀c∈cs,∀o,H c=N8 (.frz o TTh)->h'.get? c=N8 o):HOk P w (backL H H' cs) h':=λb o e=>by
 by_cases a:b∈cs
 .rw[n5 a]at e;let(d,q):=f b a;rw[q]at e;cases e;exact tL<|k b a d q
 .rw[cA a]at e;let out:∀{c:Ki}{u:HO},H' c=N8 u->c ∉ cs:=λ{c u} q z=>by rw[n c z]at q;cases q
  refine(x b o e).stay (λ_ _ _ q=>q) (λc q=>?_) λc g q=>?_
  .rw[cA (out q)];exact q
  .rw[cA (out q)];calc q
def n6(s:aw (hideL H cs) H'):aw H (backL H H' cs):=λb o e=>by
 by_cases a:b∈cs
 .rw[n5 a];exact e
 .rw[cA a];calc s b o (by rw[aZ a];exact e)
end
section
variable{fs:Oo Ki}{cs:Oo Ki}
def Un.backL(u:Un fs [] (hideL H cs) H' h h')(f:Fzs H cs):Un fs [] H (backL H H' cs) h h' where
 keep:=λb o e n a c=>u.keep b o e (dQ n) a c
 slot:=λb o e n a c=>u.slot b o e (dQ n) a c
 free:=λb o e n c=>by
  let:b ∉ cs:=λz=>by let(i,q):=f b z;rw[n]at q;cases q
  rw[cA this];exact u.free b o e (dQ n) c
 there:=u.there
 tups:=λb d e=>by
  let a:=f.out e λ_ z=>by cases z
  rw[cA a];exact u.tups b d (by rw[aZ a];exact e)
 frzs:=λb o v e=>by
  by_cases a:b∈cs
  .rw[n5 a];exact e
  .rw[cA a];exact u.frzs b o v (by rw[aZ a];exact e)
 tbls:=λb g e=>by
  let a:=f.out e λ_ z=>by cases z
  rw[cA a];calc u.tbls b g (by rw[aZ a];exact e)
end
def  tM(b:Obj)(qual:Str):Prop:=∃a t,b.data=.fields a/\a[1]?=N8 (.str qual t)
structure n8(N ps:Oo Str)(sc:Kt)(cl:Oo (Str×Ki)):Prop where
 kind:sc.kind=.function
 co:sc.isCoroutine=Ob
 gen:sc.isGenerator=Ob
 nd:N.Nodup
 pre:N.take ⇑ps=ps
 par:∀x∈ps,sc.names.lookup x=N8 .local
 nocell:∀y∈sc.names,y.2≠.cell
 has:∀y∈sc.names,y.2=.free->∃c,cl.lookup y.1=N8 c
def  cxC(CX:CXT)(P:Kf)(w:Ke)(K:bd)(mg:Str->Option Kd)(base:Kj)(N:Oo Str)(qual:Str)(scope:Kt)(f:Ki)(b:Kd)(cl:Oo (Str×Ki))(A:Kr)(outer:Oo Env)(s:Ks)(H:Hp)(E:XK):Cx where
 prog:=P
 w:=w
 K:=K
 mg:=mg
 base:=base
 A:=A.deeper (QA qual scope ↥s f b cl)
 N:=N
 s₀:=s
 H₀:=hideL H (cl.map (·.2))
 env:=QA qual scope ↥s f b cl
 outer:=outer
 stack:=QA qual scope ↥s f b cl :: outer
 ex:=[]
 calm:=Oa
 fn:=λ_=>Ob
 pn:=[]
 xe:=λe c=>Kw (model P w) (A.deeper<|QA qual scope ↥s f b cl) (leaving (QA qual scope ↥s f b cl) e) (λ_ a=>CX outer H s E e a) (λd a=>CX outer H s E d a) c
def  fF(H:Hp)(cl:Oo (Str×Ki))(ws:Oo (Str×V)):Prop :=
 (∀c∈cl.map (·.2),∃o v,H c=N8 (.frz o TTh)/\o.data=.cell v)/\∀(x:Str)(v:V),ws.lookup x=N8 v->∃c o u,cl.lookup x=N8 c/\H c=N8 (.frz o TTh)/\o.data=.cell (N8 u)/\RelV v u
def fF.fzs{H:Hp}{cl:Oo (Str×Ki)}{ws:Oo (Str×V)}(h:fF H cl ws):Fzs H (cl.map (·.2)):=λc a=>let ⟨o,_,e,_⟩:=h.1 c a;(o,e,)
def fF.same{H H':Hp}{cl:Oo (Str×Ki)}{ws:Oo (Str×V)}(h:fF H cl ws)(s:aw H H'):fF H' cl ws :=
 (λc f=>let ⟨o,v,e,d⟩:=h.1 c f;(o,v,s _ _ e,d,),λx v e=>let ⟨c,o,u,a,b,d,r⟩:=h.2 x v e;(c,o,u,a,s _ _ b,d,r,),)
def  lD(N ps:Oo Str)(vs:Oo V)(ws:Oo (Str×V)):St:=vs.map N8++(N.drop ⇑ps).map λx=>ws.lookup x
def n9{cl:Oo (Str×Ki)}{x:Str}{c:Ki}(h:cl.lookup x=N8 c):c∈cl.map (·.2):=br.mpr ((x,c),mem_of_lookup h,U,)
def vJ{ps:Oo Str}{us:Oo Kd}{i:Nat}{y:Str}{u:Kd}(d:ps.Nodup)(g:ps[i]?=N8 y)(f:us[i]?=N8 u)(h:⇑us=⇑ps):(ps.zip us).reverse.lookup y=N8 u:=by
 let c:((ps.zip us).map (·.1)).Nodup:=by rw[pC ∅];exact d
 rw[PySem.lookup_reverse_of_nodup _ c];let b:(y,u)∈ps.zip us:=by
  let:(ps.zip us)[i]?=N8 (y,u):=by rw[ov];exact(g,f,)
  exact JR this
 cases e:(ps.zip us).lookup y with
 |none =>
  exact Og b (by
   intro b;let:=O5.mp e (y,u) b;simp at this)
 |some v =>
  let:=mem_of_lookup e;let(j,a):=jk this;rw[ov]at a;let:=gR d a.1 g;subst this;rw[f]at a;rw[ci a.2]
def  HFn(P:Kf)(w:Ke)(K:bd)(mg:Str->Option Kd)(base:Kj)(k:Nat)(f:Ki)(sp:Sp):Prop:=∃b a,aH P w K mg base CX0 k f b a sp/\Binds K b a []
def  FnO(H:Hp)(f:Ki):Prop:=∃o a,H f=N8 (.frz o TTh)/\o.data=.func a
variable{i:Nat}{x:Str}{e:Kz}{es:Oo Kz}{t:TA}{p:Pos}
inductive CK(X:Cx)(k i:Nat)(t:TA)(σ:St)(H:Hp)(Q:VK):Prop
 |mk (f:Ki)(sp:Sp)(_:σ[i]?=N8 ↑f)(_:FnO H f)(_:HFn X.prog X.w X.K X.mg X.base k f sp)(_:t σ H λvs H1=>FnO H1 f/\sp vs H1 Q E0)
def wY(K:bu k X.A)(O:X.N[i]?=N8 x)(J:Vis X.env.scope x)(M:PA X (e :: es) t)(hd:(x == ("__debug__" : Str))=false:=by decide) (j:(x == ("__classdict__" : Str))=false:=by decide)
  (he:KD (e :: es) X.env=(Ob,eval e X.env) :: KD es X.env:=by rfl)(g:(KC pos<|KD es X.env).any (·.1)=false:=by rfl):PE X (.Call (.Name x p) (e :: es) [] pos) (CK X k i t):=by
 intro a s c H Q I h;let(f,Z,R,P,(m,pn,F,L),h):=h;let b:∀{H:Hp}{s:Ks}{c:St},Inv X a c H s->FnO H f->W.FnAt f s.heap:=λS (o,m,e,d,)=>by
  let:=(S.hok f _ e).1;let(G,D,dt,r):=o;simp only at d;subst d;exact(G,D,m,r,this,)
 calc Kc<|thn (yX O J hd j a s c H (λv H'=>v=.ref f/\H'=H) I<|qW.of R (U,U,)) λu w (v,T,q,z,C,)=>?_;let(rfl,rfl):=C;cases (show u=dL f from z);calc W.callWith_F (b q P) (thn (M pos a w c T _ q h) λY s2 (V,H2,n,y,l,B,)=>(b n l,?_,)) he g;calc q9 (E:=E0) (dvs:=[]) (ds:=[]) F K L .nil bV n y (by rw[iI];exact B)
variable{Od:Oo (Ki×Obj)}{σ:St}
def bD{H:Hp}{fz:Oo (Ki×Obj)}{b:Ki}(h:b ∉ fz.map (·.1)):fY H fz b=H b:=by
 unfold fY;cases e:fz.lookup b with
 |none=>rfl
 |some o=>calc Og (br.mpr ((b,o),W.mem_of_lookupK e,U,)) h
def dX{H:Hp}{fz:Oo (Ki×Obj)}{b:Ki}(h:b∈fz.map (·.1)):∃o,(b,o)∈fz/\fY H fz b=N8 (.frz o TTh):=by
 unfold fY;cases e:fz.lookup b with
 |none =>
  let((c,o),a,rfl):=br.mp h;let:=O5.mp e _ a;simp at this
 |some o=>calc(o,W.mem_of_lookupK e,U,)
structure lE(X:Cx)(s:Ks)(fz:Oo (Ki×Obj)):Prop where
 cell:∀p∈fz,∃x,X.env.cells.lookup x=N8 p.1
 nb:∀p∈fz,X.base.get? p.1=N9
 nf:∀p∈fz,p.1 ∉ X.fs
 at_:∀p∈fz,s.heap.get? p.1=N8 p.2
def lE.free{fz:Oo (Ki×Obj)}(z:lE X s fz)(I:Inv X Od σ H s):∀b∈fz.map (·.1),H b=none:=λb c=>by
 let(p,a,rfl):=br.mp c;let(x,e):=z.cell p a;calc I.freeC x _ e
def lE.hok{fz:Oo (Ki×Obj)}(z:lE X s fz)(I:Inv X Od σ H s):HOk X.prog X.w (fY H fz) s.heap:=λb u e=>by
 by_cases a:b∈fz.map (·.1)
 .let(o,c,q):=dX (H:=H) a;rw[q]at e;cases e;exact tL<|z.at_ _ c
 .rw[bD a]at e;let out:∀{d:Ki}{u:HO},H d=N8 u->fY H fz d=N8 u:=λ{d u} q=>by
   rw[bD λm=>by rw[z.free I d m]at q;cases q];exact q
  calc(I.hok b u e).stay (λ_ _ _ q=>q) (λd q=>out q) λd f q=>out q
def lE.env0{fz:Oo (Ki×Obj)}(z:lE X s fz)(I:Inv X Od σ H s):q8 X.prog X.w X.K X.mg X.base X.A X.stack s (fY H fz):=by
 let e:=I.env0;refine(e.frames,e.mod,λb o q=>((e.bs b o q).1,?_,),e.bsz,e.funs,λb c=>?_,z.hok I,e.bare,)
 .rw[bD λm=>?_]
  .exact(e.bs b o q).2
  .let(p,a,rfl):=br.mp m;rw[z.nb p a]at q;cases q
 .rw[bD λm=>?_]
  .exact e.frf b c
  .let(p,a,rfl):=br.mp m;rcases af.mp (I.stkSub _ c)with q|q
   .let(x,d):=z.cell p a;exact I.cne x _ d q
   .exact z.nf p a q
def Inv.cellNew(I:Inv X Od σ H s){x:Str}{c:Ki}(e:X.env.cells.lookup x=N8 c)(d:X.fn x=Oa):X.base.get? c=N9/\c ∉ X.fs:=by
 let a:=I.ok.cab x c d e;calc(PH<|vr I.ok.bsz a,λq=>?_,);let(_,o,b,_):=I.ok.funs.mem q;calc Og (bi b)<|Pd.mpr a
def lE.after{fz:Oo (Ki×Obj)}{Q:VK}{u:Kd}{s':Ks}(z:lE X s fz)(I:Inv X Od σ H s)(h:CE X.stack X.prog X.w (fY H fz) s (λv k=>Q v (hideL k (fz.map (·.1)))) u s'):EP X Od σ Q u s':=by
 let(v,k,B,j,un,hok,r,q):=h;let fzs:Fzs k (fz.map (·.1)):=λc C=>by
  let(o,_,e):=dX (H:=H) C;exact(o,un.frzs c o _ e,)
 let out:∀{d:Ki}{u:HO},H d=N8 u->d ∉ fz.map (·.1):=λ{d u} q m=>by rw[z.free I d m]at q;cases q
 refine(v,hideL k (fz.map (·.1)),I.call' (ch:=[]) B (λb o e n g f=>?_,λb o e n g f=>?_,λb o e n f=>?_,un.there,λb x e=>?_,λb o y e=>?_,λb A e=>?_,) (hok.hideL fzs) j<|λb g=>Og g (by simp),r,q,)
 .by_cases a:b∈fz.map (·.1)
  .let(p,t,l):=dX (H:=H) a;let:=(hok b _<|un.frzs b p _ l).1;let i:=z.at_ _ t;rw[e]at i;cases i;exact this
  .exact un.keep b o e (by rw[bD a];exact n) g f
 .by_cases a:b∈fz.map (·.1)
  .let(p,t,l):=dX (H:=H) a;let:=(hok b _<|un.frzs b p _ l).1;let i:=z.at_ _ t;rw[e]at i;cases i;exact(_,this,)
  .exact un.slot b o e (by rw[bD a];exact n) g f
 .by_cases a:b∈fz.map (·.1)
  .exact iq a
  .rw[aZ a];exact un.free b o e (by rw[bD a];exact n) f
 .let a:=out e;rw[aZ a];exact un.tups b x (by rw[bD a];exact e)
 .let a:=out e;rw[aZ a];exact un.frzs b o y (by rw[bD a];exact e)
 .let a:=out e;rw[aZ a];calc un.tbls b A (by rw[bD a];exact e)
variable{ps:Oo Str}{sp:Sp}
def  tZ(zs:Oo (Str×Nat×Ki))(sp:Sp)(t:TA):TE:=λσ H Q=>t σ H λc b=>∀a:Oo Obj,⇑a=⇑zs->(∀z∈zs,b z.2.2=N9) ->
 (∀(j:Nat)(z:Str×Nat×Ki),zs[j]?=N8 z->∃o w,a[j]?=N8 o/\o.data=.cell w/\∀v,σ[z.2.1]?=N8 (N8 v)->∃u,w=N8 u/\RelV v u) ->
 sp c (fY b ((zs.map (·.2.2)).zip a)) (λv d=>Q v (hideL d (zs.map (·.2.2)))) E0
def lF{Od:Oo (Ki×Obj)}{σ:St}{H:Hp}{s:Ks}(I:Inv X Od σ H s):∀(zs:Oo (Str×Nat×Ki)),(∀z∈zs,X.N[z.2.1]?=N8 z.1/\(X.env.scope.names.lookup z.1=N8 .cell\/X.env.scope.names.lookup z.1=N8 .free)/\X.env.cells.lookup z.1=N8 z.2.2/\(X.fn z.1=Oa\/(X.base.get? z.2.2=N9/\z.2.2 ∉ X.fs))) ->
  ∃f:Oo Obj,⇑f=⇑zs/\(∀(j:Nat)(z:Str×Nat×Ki),zs[j]?=N8 z->∃o w,f[j]?=N8 o/\s.heap.get? z.2.2=N8 o/\o.data=.cell w/\∀v,σ[z.2.1]?=N8 (N8 v)->∃u,w=N8 u/\RelV v u)
 | [],_=>([],U,λj z e=>by simp at e,)
 |z :: zs,h=>by
  let(f,y,x):=lF I zs λq a=>h q<|dy _ a
  let(A,b,n,E):=h z cf;let(w,o,e,d):=I.cell _ _ n;refine(o :: f,by rw[en,en,y],λj q a=>?_,)
  match j,a with
  |0,a =>
   cases a;calc(o,w,U,e,d,λv t=>?_,);let(m,D,B):=I.loc;let(u,r,l):=B _ _ v A t<|.inr b;rcases l with⟨g,_⟩|⟨_,c,k,C,p,i⟩
   .let g:X.env.scope.names.lookup z.1=N8 .local:=g;rcases b with b|b <;> rw[b]at g <;> cases g
   .rw[n]at k;cases k;rw[e]at p;cases p;rw[d]at i;injection i with i;exact(u,i,r,)
  |j+1,a=>calc x j q (~~~a)
def Af{Od:Oo (Ki×Obj)}{σ:St}{H:Hp}{s:Ks}{zs:Oo (Str×Nat×Ki)}{g:Oo Obj}(I:Inv X Od σ H s)
  (hz:∀z∈zs,X.N[z.2.1]?=N8 z.1/\(X.env.scope.names.lookup z.1=N8 .cell\/X.env.scope.names.lookup z.1=N8 .free)/\X.env.cells.lookup z.1=N8 z.2.2/\(X.fn z.1=Oa\/(X.base.get? z.2.2=N9/\z.2.2 ∉ X.fs)))(n:⇑g=⇑zs)
  (k:∀(j:Nat)(z:Str×Nat×Ki),zs[j]?=N8 z->∃o w,g[j]?=N8 o/\s.heap.get? z.2.2=N8 o/\o.data=.cell w/\∀v,σ[z.2.1]?=N8 (N8 v)->∃u,w=N8 u/\RelV v u):lE X s ((zs.map (·.2.2)).zip g):=by
 let b:∀p∈(zs.map (·.2.2)).zip g,∃z∈zs,z.2.2=p.1/\s.heap.get? p.1=N8 p.2:=λp a=>by
  let(j,d):=jk a;rw[ov,dr]at d;cases ez:zs[j]? with
  |none=>rw[ez]at d;cases d.1
  |some z =>
   rw[ez]at d;let i:z.2.2=p.1:=ci d.1;let(o,w,h,m,_):=k j z ez;rw[d.2]at h;cases h;exact(z,JR ez,i,i ▸ m,)
 let new:∀z∈zs,X.base.get? z.2.2=N9/\z.2.2 ∉ X.fs:=λz c=>by
  let(_,_,l,f):=hz z c;rcases f with f|f
  .exact I.cellNew l f
  .exact f
 refine(λp a=>?_,λp a=>?_,λp a=>?_,λp a=>?_,)
 .let(z,c,e,_):=b p a;exact(z.1,e ▸ (hz z c).2.2.1,)
 .let(z,c,e,_):=b p a;rw[←e];exact(new z c).1
 .let(z,c,e,_):=b p a;rw[←e];exact(new z c).2
 .let(z,c,e,h):=b p a;calc h
def DQ{zs:Oo (Str×Nat×Ki)}(C:Callee X.prog X.w X.K X.mg X.base k x ps sp)(P:bu k X.A)(S:Gl X x)(T:PA X (e :: es) t)(hz:∀z∈zs,X.N[z.2.1]?=N8 z.1/\(X.env.scope.names.lookup z.1=N8 .cell\/X.env.scope.names.lookup z.1=N8 .free)/\X.env.cells.lookup z.1=N8 z.2.2/\(X.fn z.1=Oa\/(X.base.get? z.2.2=N9/\z.2.2 ∉ X.fs)))
  (v:(x == ("__debug__" : Str))=false:=by decide) (he:KD (e :: es) X.env=(Ob,eval e X.env) :: KD es X.env:=by rfl)(l:(KC pos<|KD es X.env).any (·.1)=false:=by rfl):PE X (.Call (.Name x p) (e :: es) [] pos) (tZ zs sp t):=by
 let(f,fd,F,b,O,m):=C;intro Od s σ H Q I h;calc Kc<|cZ I S m ?_ v;calc AT (h₀:=X.base) I.ok.mod.kin O (thn (T pos Od s σ H _ I h) λg i (L,Z,a,r,q,)=>(a.kIn,?_,)) he l;let(B,G,E):=lF a zs hz;let J:((zs.map (·.2.2)).zip B).map (·.1)=zs.map (·.2.2):=pC (by rw[aa];lia);let d:=Af a hz G E;let D:=q B G (λz R=>a.freeC z.1 _ (hz z R).2.2.1) λj z Y=>let ⟨o,w,a1,_,a3,a4⟩:=E j z Y;(o,w,a1,a3,a4,)
 let n:⇑g=⇑ps:=by rw[←⇑r];exact F.len _ _ _ _ D
 refine LD (LF (F.run X.A X.stack i _ (g,[],) g L _ E0 P (d.env0 a) (by have:=b i g a.kIn (by rw[iI];exact n);rw[iI]at this;exact this) r D) λM y c=>?_);cases M with
 |error e=>exact bV Od σ Z i e y a c
 |ok V =>
  cases V with
  |ret u =>
   let c:CE X.stack X.prog X.w _ i _ u y:=c;calc d.after a ?_;rw[J];exact c
  |next=>exact io c
  |brk=>exact io c
  |cont=>calc io c
def  Ag(tabs:Oo (Ki×Ki))(H:Hp):Prop:=∀b,H b=N9\/(∃o a,H b=N8 (.frz o<|.lst a))\/(b∈tabs.map (·.2)/\H b=N8 (.tbl #[]))
def yn{P:Kf}{w:Ke}{K:bd}{mg mb:Str->Option Kd}{CX:CXT}{k:Nat}{fa a:Ki}{fd:LA}{x:Str}{sp:Sp}{c:Ks}{vs:Oo Kd}{L:Oo Int}{tabs:Oo (Ki×Ki)}
  (KX:K.In c.heap)(C:c.heap.Ns Ko mg)(hb:c.heap.Ns Kp mb)(a8:∀x:Str,x ≠ "__name__" -> mb x=Kq x) (GY:c.heap.NoLimit)(hg:c.gens = #[])
  (G:c.heap.get? a=N8 { cls:=.type "list",data:=.seq vs.toArray }) (hi:IntsAre vs L)(hl:L.length<=Kk)(hr:bu k NM)
  (M:TabsAt tabs c.heap)(a6:noTabs K=Oa)(a7:∃bm A,mg "__builtins__" = ↑bm/\bm≠Kp/\c.heap.get? bm=N8 A/\A.cls=.type "module" /\ A.dict=N8 Kp/\A.data=.plain)
  (F:∀base:Kj,K.In base->base.Ns Ko mg->(∀q∈tabs,CodeHd base q.1 q.2/\base.BuiltinsAt mg q.2)->aH P w K mg base CX k fa fd [x] sp)(Fw:∀(s:Ks)(u:Kd),LB s fd ([u],[],) [(x,u)])
  (a4:∀H:Hp,Ag tabs H->SqL K H a (L.map ut)->(∀q∈tabs,H q.2=N8 (.tbl #[]))->sp [.ref a] H (λv _=>v=.bl Oa) λ_ _ _=>False)
  (c0:∀H e s',CX [] H c (λ_ _ _=>False) e s'->False) :
  Lu (model P w) NM (.call (.ref fa) ([.ref a],[],)) (λr s'=>r=.ok (.ret<|.bool Oa)/\OldK c.heap s'.heap/\s'.os=c.os/\AllBare s'.gens) c:=by
 let rv:=qi hi;let GZ:=⇑hi;let E:∀b∈tabs.map (·.2),c.heap.get? b=N8 (tabObj #[]):=λb f=>by
  let(q,i,rfl):=br.mp f;exact(M q i).2
 let aT:a ∉ tabs.map (·.2):=λz=>by
  let e:=E a z;rw[G]at e;cases e
 let B:∀H:Hp,Ag tabs H->SqL K H a (L.map ut)->HOk P w H c.heap->(∀b,H b≠N9->b=a\/b∈tabs.map (·.2))->(H a≠N9->K.lookup a=N9)->(∀q∈tabs,H q.2=N8 (.tbl #[])) ->
   Lu (model P w) NM (.call (.ref fa) ([.ref a],[],)) (λr s'=>r=.ok (.ret<|.bool Oa)/\OldK c.heap s'.heap/\s'.os=c.os/\AllBare s'.gens) c:=by
  intro H hO hS hok hA hK S;let mU:∀{b:Ki}{o:Obj},c.heap.get? b=N8 o->H b=N9->(m6 c.heap H).get? b=N8 o:=λe n=>yW e n
  let Q:∀{b:Ki}{o:Obj},c.heap.get? b=N8 o->(b=a->False)->o≠tabObj #[]->H b=none:=λ{b o} e n1 n2=>by
   cases q:H b with
   |none=>rfl
   |some u =>
    rcases hA b (by rw[q];simp)with z|z
    .exact(n1 z).elim
    .let:=E b z;rw[e]at this;exact Og (ci this) n2
  let a2:∀{b:Ki}{o:Obj}{es:Array Lo}{I:Nat},c.heap.get? b=N8 o->o.data=.dict es I->H b=none:=λ{b o es I} e d=>Q e (λz=>by
   subst z;rw[G]at e;cases e;let O:Data.seq vs.toArray _=Data.dict es I:=d;cases O) (λz=>by rw[z]at d;cases d)
  let R:∀{b:Ki}{o:Obj}{T:String},c.heap.get? b=N8 o->o.cls=.type T->T ≠ "list" -> H b=none:=λ{b o T} e d b0=>Q e (λz=>by
   subst z;rw[G]at e;cases e;let O:xz "list" = xz T:=d;injection O with O;exact b0 O.symm) (λz=>by rw[z]at d;cases d)
  let y:∀{b:Ki}{m:Str->Option Kd},c.heap.Ns b m->(m6 c.heap H).Ns b m:=λ{b m} (o,es,I,e,d,r,)=>(o,es,I,mU e<|a2 e d,d,r,)
  let X:K.In (m6 c.heap H):=λb o e=>mU (KX b o e) (by
   cases q:H b with
   |none=>rfl
   |some u =>
    rcases hA b (by rw[q];simp)with z|z
    .subst z;rw[hK (by rw[q];simp)]at e;cases e
    .let j:=E b z;rw[KX b o e]at j;cases j;let h2:=jL.mp a6 (b,tabObj #[])<|mem_of_lookupK e;exact Og (show Ob=Oa from h2) bv)
  let hM:Mod K mg (m6 c.heap H):=(X,y C,(mb,y hb,a8,),let ⟨mc,h1,h2⟩:=GY;(mc,y h1,h2,),);let e0:q8 P w K mg (m6 c.heap H) NM [] c H:=(U,hM,λb o e=>Bb e,yV<|xI _ _,trivial,λb hb=>Og (show b∈([]:Oo Ki)from hb) (by simp),hok,.of_eq hg,);let a9:∀q∈tabs,CodeHd (m6 c.heap H) q.1 q.2/\(m6 c.heap H).BuiltinsAt mg q.2:=λq i=>by
   let(o,a1,Z,tf,D,tg,a3,Y,tt,N,r1,r2):=(M q i).1;let(bm,A,b1,b2,J,b4,b5,b6):=a7;refine((o,a1,Z,tf,D,tg,a3,Y,tt,mU N<|R N r1 ⋯,r1,r2,),bm,A,b1,b2,λz=>?_,λz=>?_,mU J<|R J b4 ⋯,b4,b5,b6,)
   .let(o',es,I,e,d,_):=C;rw[z,e]at J;cases J;rw[d]at b6;cases b6
   .let j:=(M q i).2;rw[z,j]at J;cases J;cases b4
  refine LF ((F _ X (y C) a9).run NM [] c H ([.ref a],[],) [.ref a] [.ref a] _ _ hr e0 (Fw c<|.ref a) (.cons U .nil) (a4 H hO hS S)) λr s' h=>?_
  cases r with
  |error e=>exact(c0 H e s' h).elim
  |ok fl =>
   cases fl with
   |next=>exact io h
   |brk=>exact io h
   |cont=>exact io h
   |ret u =>
    let(v,H',os,a0,un,Fx,r',q):=h;let q':v=.bl true:=q;subst q';obtain rfl:u=QU true:=r';let kept:∀b o,b ∉ tabs.map (·.2)->c.heap.get? b=N8 o->s'.heap.get? b=N8 o:=λb o f e=>by
     cases q:H b with
     |none=>exact un.keep b o e q (by intro z;exact Og (show b∈([]:Oo Ki)from z) (by simp)) (by simp)
     |some u =>
      rcases hO b with z|⟨A,xs,z⟩|⟨z,_⟩
      .rw[q]at z;cases z
      .let z2:=un.frzs b A _ z;let(N,_):=hok b _ z;let(j,_):=Fx b _ z2;rw[e]at N;cases N;exact j
      .exact Og z f
    let l:∀b∈tabs.map (·.2),isCodeTable c.heap b/\∃g,s'.heap.get? b=N8 (tabObj g):=λb f=>by
     let(qq,i,rfl):=br.mp f;let(g,e):=un.tbls _ _<|S qq i;let j:s'.heap.get? qq.2=N8 (tabObj<|#[]++g):=Fx _ _ e;exact(((M qq i).1.tab (M qq i).2).isCodeTable,_,j,)
    refine(U,(λb o e=>?_,λb o e=>?_,),os,a0,)
    .by_cases f:b∈tabs.map (·.2)
     .let(ht,g,j):=l b f;let e3:=E b f;rw[e]at e3;cases e3;exact .inr<|.inl (ht,U,#[],g,U,by rw[Array.empty_append];exact j,)
     .exact .inl<|kept b o f e
    .by_cases f:b∈tabs.map (·.2)
     .let(_,g,j):=l b f;exact(_,j,)
     .exact(o,kept b o f e,)
 cases hk:K.lookup a with
 |some o =>
  let e:=KX a o hk;rw[G]at e;cases e;refine B (λb=>if b∈tabs.map (·.2)then N8 (.tbl #[])else N9) (λb=>?_) (.inr (_,vs.toArray,_,hk,U,U,U,by rw[dG,GZ];exact hl,~~~rv,)) (λb u z=>?_) (λb z=>?_) (λz=>Og (Oe aT) z) λq i=>Of<|br.mpr (q,i,U,)
  .by_cases f:b∈tabs.map (·.2)
   .exact .inr<|.inr (f,Of f,)
   .exact .inl<|Oe f
  .by_cases f:b∈tabs.map (·.2)
   .let t:=(Of f).symm.trans z;cases t;exact E b f
   .let t:=(Oe f).symm.trans z;cases t
  .by_cases f:b∈tabs.map (·.2)
   .exact .inr f
   .exact Og (Oe f) z
 |none =>
  refine B (λb=>if b=a then N8 (.frz { cls:=.type "list",data:=.seq vs.toArray } (.lst<|L.map ut))else if b∈tabs.map (·.2)then N8 (.tbl #[])else N9) (λb=>?_) (.inl<|.inr ({ cls:=.type "list",data:=.seq vs.toArray },Of U,)) (λb u z=>?_) (λb z=>?_) (λ_=>hk) λq i=>?_
  .by_cases f:b=a
   .exact .inr<|.inl (_,_,Of f,)
   .by_cases p:b∈tabs.map (·.2)
    .exact .inr<|.inr (p,(Oe f).trans<|Of p,)
    .exact .inl<|(Oe f).trans<|Oe p
  .by_cases f:b=a
   .let t:=(Of f).symm.trans z;cases t;subst f;exact(G,by rw[aa];exact hl,vs,_,rv,G,)
   .by_cases p:b∈tabs.map (·.2)
    .let t:=((Oe f).trans<|Of p).symm.trans z;cases t;exact E b p
    .let t:=((Oe f).trans<|Oe p).symm.trans z;cases t
  .by_cases f:b=a
   .exact .inl f
   .by_cases p:b∈tabs.map (·.2)
    .exact .inr p
    .exact Og ((Oe f).trans<|Oe p) z
  .let hm:q.2∈tabs.map (·.2):=br.mpr (q,i,U,);let a5:q.2≠a:=λz=>aT<|z ▸ hm
   calc(Oe a5).trans (Of hm)
variable{K:bd}{base:Kj}
section
variable{mg:Str->Option Kd}
def Fun.okT{x qual:Str}{st:KG}{f c:Ki}{d:LA}{N ps:Oo Str}{k:Nat}{sp:Sp}(F:Fun K x qual st f d)(b:d.code=.ref c)(S:ar N ps (ao st))(len:∀vs H Q E,sp vs H Q E->⇑vs=⇑ps)
  (m:∀(A:Kr)(a:Oo Env)(s:Ks)(H:Hp)(vs:Oo V)(Q:VK)(E:XK),bu k (A.deeper<|envOfC qual (ao st) ↥s f<|.ref c)->sp vs H Q E ->
   ∃t,PSs (bw CX0 P w K mg base N qual (ao st) f (.ref c) A a s H E).nox (bE st) t/\t { nx:=λ_ H'=>Q .non H',rt:=Q } (start N vs) H):aH P w K mg base CX0 (k+1) f d ps sp:=by
 let(u,r,kV,o,p,y,i,v,n,rfl,j,g):=F.ex;let b:i=.ref c:=b;subst b;refine sF j g S len λA a s H vs Q E l e=>?_
 let(t,h,q):=m A a s H vs Q E l e;calc(t,h.nox,q,)
def  gL(H:Hp)(f c':Ki)(b:Obj)(qual:Str)(cl:Oo (Str×Ki))(ws:Oo (Str×V)):Prop:=H f=N8 (.frz b TTh)/\(∃a,H c'=N8 (.frz a TTh)/\tM a qual)/\fF H cl ws
def gL.same{H H':Hp}{f c':Ki}{a:Obj}{qual:Str}{cl:Oo (Str×Ki)}{ws:Oo (Str×V)}(h:gL H f c' a qual cl ws)(s:aw H H'):gL H' f c' a qual cl ws :=
 (s _ _ h.1,let ⟨oc,e,q⟩:=h.2.1;(oc,s _ _ e,q,),h.2.2.same s,)
def tN{zs:Oo (Str×Nat×Ki)}{f:Oo Obj}{H:Hp}{σ:St}{cl:Oo (Str×Ki)}{ws:Oo (Str×V)}(K:⇑f=⇑zs)(t:(zs.map (·.2.2)).Nodup)
  (y:∀(j:Nat)(z:Str×Nat×Ki),zs[j]?=N8 z->∃o w,f[j]?=N8 o/\o.data=.cell w/\∀v,σ[z.2.1]?=N8 (N8 v)->∃u,w=N8 u/\RelV v u)
  (D:∀c∈cl.map (·.2),∃z∈zs,z.2.2=c)(C:∀(x:Str)(v:V),ws.lookup x=N8 v->∃z∈zs,cl.lookup x=N8 z.2.2/\σ[z.2.1]?=N8 (N8 v)):fF (fY H ((zs.map (·.2.2)).zip f)) cl ws:=by
 let h:∀z∈zs,∃o w,fY H ((zs.map (·.2.2)).zip f) z.2.2=N8 (.frz o TTh)/\o.data=.cell w/\∀v,σ[z.2.1]?=N8 (N8 v)->∃u,w=N8 u/\RelV v u:=λz g=>by
  let(j,p):=jk g;let(o,w,m,l,I):=y j z p;let q:((zs.map (·.2.2)).zip f).map (·.1)=zs.map (·.2.2):=pC (by rw[aa];lia);let(s,A,G):=dX (H:=H) (fz:=(zs.map (·.2.2)).zip f) (b:=z.2.2) (by rw[q];exact br.mpr (z,g,U,));let(i,k):=jk A;rw[ov]at k;let E:(zs.map (·.2.2))[j]?=N8 z.2.2:=by rw[dr,p];rfl
  let(M,J):=JQ.mp k.1;let(L,b2):=JQ.mp E;let n:i=j:=(uG t).mp<|J.trans b2.symm;subst n;let F:o=s:=ci<|m.symm.trans k.2;subst F;exact(o,w,G,l,I,)
 refine(λc B=>?_,λx v e=>?_,)
 .let(z,g,rfl):=D c B;let(o,w,a,b,_):=h z g;exact(o,w,a,b,)
 .let(z,g,m,l):=C x v e;let(o,w,a,b,d):=h z g;let(u,rfl,r):=d v l;calc(z.2.2,o,u,m,a,b,r,)
end
def vK{a:Kt}{cl:Oo (Str×Ki)}(h:(a.names.all λy=>match y.2 with | .free=>(cl.map (·.1)).any (y.1 == ·)|_=>Oa)=Oa):∀y∈a.names,y.2=.free->∃c,cl.lookup y.1=N8 c:=λy d e=>by
 let:=jL.mp h y d;rw[e]at this;let(z,b,g):=uM.mp this;let(p,f,rfl):=br.mp b;cases q:cl.lookup y.1 with
 |some c=>exact(c,U,)
 |none =>
  let:=O5.mp q p f;simp[bne,g]at this
def rC{N:Oo Str}{a:Kt}{ws:Oo (Str×V)}(h:((ws.map (·.1)).all λx=>match a.names.lookup x with|some .free=>Oa|_=>Ob)=Oa):∀y∈N,∀v,ws.lookup y=N8 v->a.names.lookup y=N8 .free:=λy _ v e=>by
 let:=jL.mp h y<|br.mpr ((y,v),mem_of_lookup e,U,);split at this
 .assumption
 .cases this
def tab_mk{K:Frag}{x qual:Str}{st:KG}{f c P:Ki}{g kV doc pm m:Kd}{d n:Option Ki}{b:Array (Option Kd)}{j:Kd}{i:Option Ki}{vs:Array Kd}{h:Array (Option Kd)}(a:nsIn K Ko x=N8 ↑f)
  (l:K.lookup f=N8 (g,d,.func<|fnOf x qual (dD st) (bE st) (ao st) .none kV doc pm n (.ref c) m,b,))(k:K.lookup c=N8 (j,i,.fields vs,h,))(e:vs[11]?=↑P):tabIn K x=N8 (c,P):=by
 unfold tabIn;rw[a];simp only[l];show(match K.lookup c with|some (_,_,.fields vs,_,)=>(match (vs[11]?:Option Kd)with|some (.ref P)=>N8 (c,P)|_=>N9)|_=>N9)=N8 (c,P);rw[k];simp only[e]
section
variable{zs:Oo (Str×Nat×Ki)}{os:Oo Obj}{H2:Hp}
def og(a:⇑os=⇑zs):((zs.map (·.2.2)).zip os).map (·.1)=zs.map (·.2.2):=pC (by rw[aa];lia)
def oh(c:⇑os=⇑zs)(d:∀z∈zs,H z.2.2=N9):aw H (fY H ((zs.map (·.2.2)).zip os)):=λb u e=>by
 rw[bD λm=>?_]
 .exact e
 .rw[og c]at m;let(z,a,rfl):=br.mp m;rw[d z a]at e;cases e
def hide_same(d:⇑os=⇑zs)(a:∀z∈zs,H z.2.2=N9)(s:aw (fY H ((zs.map (·.2.2)).zip os)) H2):aw H (hideL H2 (zs.map (·.2.2))):=λb u e=>by
 rw[aZ λm=>?_]
 .exact s _ _<|oh d a _ _ e
 .let(z,c,rfl):=br.mp m;rw[a z c]at e;cases e
end
def lE.inv{fz:Oo (Ki×Obj)}{j:Hp}{s':Ks}(z:lE X s fz)(I:Inv X Od σ H s)(os:s'.os=s.os)(i:AllBare s'.gens)(un:Un (frs X.stack) [] (fY H fz) j s.heap s'.heap)(hok:HOk X.prog X.w j s'.heap):Inv X Od σ (hideL j (fz.map (·.1))) s':=by
 let fzs:Fzs j (fz.map (·.1)):=λc v=>by
  let(o,_,e):=dX (H:=H) v;exact(o,un.frzs c o _ e,)
 let out:∀{d:Ki}{u:HO},H d=N8 u->d ∉ fz.map (·.1):=λ{d u} q m=>by rw[z.free I d m]at q;cases q
 refine I.call' (ch:=[]) os (λb o e n g f=>?_,λb o e n g f=>?_,λb o e n f=>?_,un.there,λb r e=>?_,λb o t e=>?_,λb ps e=>?_,) (hok.hideL fzs) i<|λb g=>Og g (by simp)
 .by_cases a:b∈fz.map (·.1)
  .let(l,p,k):=dX (H:=H) a;let:=(hok b _<|un.frzs b l _ k).1;let h:=z.at_ _ p;rw[e]at h;cases h;exact this
  .exact un.keep b o e (by rw[bD a];exact n) g f
 .by_cases a:b∈fz.map (·.1)
  .let(l,p,k):=dX (H:=H) a;let:=(hok b _<|un.frzs b l _ k).1;let h:=z.at_ _ p;rw[e]at h;cases h;exact(_,this,)
  .exact un.slot b o e (by rw[bD a];exact n) g f
 .by_cases a:b∈fz.map (·.1)
  .exact iq a
  .rw[aZ a];exact un.free b o e (by rw[bD a];exact n) f
 .let a:=out e;rw[aZ a];exact un.tups b r (by rw[bD a];exact e)
 .let a:=out e;rw[aZ a];exact un.frzs b o t (by rw[bD a];exact e)
 .let a:=out e;rw[aZ a];calc un.tbls b ps (by rw[bD a];exact e)
abbrev T3a(α:Type):=Int×Int×α
def  Fm(L:Type):Nat->Type
 |0=>L
 |n+1=>List<|Int×Int×Fm L n
def  Fm.dec{L:Type} [d:DecidableEq L]:(n:Nat)->DecidableEq (Fm L n)
 |0=>d
 |n+1=>have:=Fm.dec (L:=L) n;(inferInstance:DecidableEq (List<|Int×Int×Fm L n))
instance {L:Type} [DecidableEq L] (n:Nat):DecidableEq (Fm L n):=Fm.dec n
section
variable{α:Type}
def  cR [DecidableEq α] (f:Oo (T3a α))(t:T3a α):Oo (T3a α):=match f.getLast? with
 |some l=>if l.2.2=t.2.2 then f.dropLast++[(l.1,t.2.1,t.2.2)]else f++[t]
 |none=>f++[t]
def  lG [DecidableEq α] (ts:Oo (T3a α)):Oo (T3a α):=ts.foldl cR []
def  Ch3:Oo (T3a α)->Int->Int->Prop
 | [],lo,hi=>lo=hi+1
 |t :: r,lo,hi=>t.1=lo/\lo<=t.2.1/\Ch3 r (t.2.1+1) hi
def Ch3.snoc{t:T3a α}:∀{f:Oo (T3a α)}{lo mid:Int},Ch3 f lo mid->t.1=mid+1->t.1<=t.2.1->Ch3 (f++[t]) lo t.2.1
 | [],lo,mid,h,e,l=>(by rw[e];exact h.symm,by have:lo=mid+1:=h;lia,U,)
 |u :: f,lo,mid,h,e,l=>(h.1,h.2.1,Ch3.snoc (f:=f) h.2.2 e l,)
def Ch3.unsnoc{t:T3a α}:∀{f:Oo (T3a α)}{lo hi:Int},Ch3 (f++[t]) lo hi->t.2.1=hi/\t.1<=t.2.1/\Ch3 f lo (t.1-1)
 | [],lo,hi,h=>(by have:t.2.1+1=hi+1:=h.2.2;lia,by have:=h.1;let:=h.2.1;lia,by show lo=t.1-1+1;let:=h.1;lia,)
 |u :: f,lo,hi,h=>let ⟨a,b,c⟩:=Ch3.unsnoc (f:=f) h.2.2;(a,b,h.1,h.2.1,c,)
def  Nbx(ys:Oo α):Prop:=∀(i:Nat)(a b:α),ys[i]?=N8 a->ys[i+1]?=N8 b->a≠b
def Nbx.snoc{ys:Oo α}{y:α}(h:Nbx ys)(e:∀l,ys.getLast?=N8 l->l≠y):Nbx (ys++[y]):=λi a b d c=>by
 let hi:=(JQ.mp c).1;simp only[cn,il]at hi;by_cases g:i+1<⇑ys
 .rw[fS ∅]at d;rw[fS g]at c;exact h i a b d c
 .let f:i+1=⇑ys:=∅
  rw[fS ∅]at d;rw[f]at c;simp at c;subst c;calc e a ?_;rw[List.getLast?_eq_getElem?];rw[show ⇑ys-1=i by lia];calc d
def  vAt(f:Oo (T3a α))(c:Int):Option α:=(f.find? λt=>decide<|c<=t.2.1).map (·.2.2)
def iX(f g:Oo (T3a α))(c:Int):vAt (f++g) c=(vAt f c).or (vAt g c):=by
 unfold vAt;rw[List.find?_append];cases f.find? _ <;> rfl
def rD(t:T3a α)(c:Int):vAt [t] c=if c<=t.2.1 then N8 t.2.2 else none:=by
 unfold vAt;by_cases h:c<=t.2.1 <;> simp[h]
structure yq(ts f:Oo (T3a α))(lo hi:Int):Prop where
 ch:Ch3 f lo hi
 nb:Nbx (f.map (·.2.2))
 va:∀c,vAt f c=vAt ts c
 mem:∀t∈f,∃t'∈ts,t'.2.2=t.2.2
 ne:ts≠[]->f≠[]
def yq.step [DecidableEq α] {ts f:Oo (T3a α)}{lo mid:Int}{t:T3a α}(h:yq ts f lo mid)(e:t.1=mid+1)(l:t.1<=t.2.1):yq (ts++[t]) (cR f t) lo t.2.1:=by
 rcases Pg f with j|⟨g,u,j⟩
 .subst j;let:cR [] t=[t]:=rfl;rw[this];refine(Ch3.snoc (f:=[]) h.ch e l,λi a b y p=>by simp at p,λc=>?_,λv d=>(t,by simp,by rw[fo.mp d],),λ_=>by simp,);rw[iX,←h.va c];rfl
 .rw[Ph]at j;subst j;let o:=h.ch.unsnoc;let s:(g++[u]).getLast?=N8 u:=by simp
  unfold cR;rw[s];simp only;by_cases q:u.2.2=t.2.2
  .rw[Of q];let w:(g++[u]).dropLast=g:=by simp
   rw[w];let r:(g++[((u.1,t.2.1,t.2.2):T3a α)]).map (·.2.2)=(g++[u]).map (·.2.2):=by simp[q]
   refine(Ch3.snoc (t:=((u.1,t.2.1,t.2.2):T3a α)) o.2.2 (by show u.1=u.1-1+1;lia) (by show u.1<=t.2.1;lia),by rw[r];exact h.nb,λc=>?_,λv d=>?_,λ_=>by simp,)
   .rw[iX ts,←h.va c,iX,iX,rD,rD,rD];show(vAt g c).or (if c<=t.2.1 then N8 t.2.2 else N9)=((vAt g c).or (if c<=u.2.1 then N8 u.2.2 else N9)).or (if c<=t.2.1 then N8 t.2.2 else N9);cases vAt g c with
    |some x=>rfl
    |none =>
     by_cases n:c<=u.2.1
     .rw[Of n,Of ∅,q];rfl
     .rw[Oe n];rfl
   .rcases iH.mp d with d|d
    .let(k,a,b):=h.mem v<|kn _ d;exact(k,kn _ a,b,)
    .rw[fo.mp d];exact(t,by simp,U,)
  .rw[Oe q];refine(h.ch.snoc e l,?_,λc=>?_,λv d=>?_,λ_=>by simp,)
   .rw[fj];refine Nbx.snoc h.nb λz m=>?_
    rw[fj]at m;simp at m;rw[←m];exact q
   .rw[iX,iX ts,h.va c]
   .rcases iH.mp d with d|d
    .let(k,a,b):=h.mem v d;exact(k,kn _ a,b,)
    .rw[fo.mp d];calc(t,by simp,U,)
def tO [DecidableEq α]:∀{r ts f:Oo (T3a α)}{lo mid hi:Int},yq ts f lo mid->Ch3 r (mid+1) hi->yq (ts++r) (r.foldl cR f) lo hi
 | [],ts,f,lo,mid,hi,h,c=>by
  let:mid=hi:=by have:mid+1=hi+1:=c;lia
  subst this;rw[iI];exact h
 |t :: r,ts,f,lo,mid,hi,h,c=>by
  let:=tO (r:=r) (h.step c.1 (by have:=c.1;let:=c.2.1;lia)) c.2.2;rw[hZ]at this;calc this
def ir [DecidableEq α] {ts:Oo (T3a α)}{lo hi:Int}(h:Ch3 ts lo hi):yq ts (lG ts) lo hi :=
 tO (ts:=[]) (f:=[]) (mid:=lo-1) (by show lo=lo-1+1;lia,λi a b e d=>by simp at d,λ_=>U,λt c=>by simp at c,λz=>Og U z,) (by rw[show lo-1+1=lo by lia];exact h)
def Ch3.at:∀{f:Oo (T3a α)}{lo hi c:Int},Ch3 f lo hi->lo<=c->c<=hi->∃(j:Nat)(t:T3a α),f[j]?=N8 t/\t.1<=c/\c<=t.2.1/\(∀(i:Nat)(u:T3a α),i<j->f[i]?=N8 u->u.2.1<c)/\vAt f c=N8 t.2.2
 | [],lo,hi,c,h,h1,h2=>by have:lo=hi+1:=h;lia
 |t :: r,lo,hi,c,h,h1,h2=>by
  by_cases q:c<=t.2.1
  .exact(0,t,U,by have:=h.1;lia,q,λi u hi=>Og hi<|zE i,by unfold vAt;rw[mv (~~~q)];rfl,)
  .let(j,u,a,b,d,e,v):=Ch3.at (f:=r) h.2.2 (c:=c) ∅ h2;refine(j+1,u,~~~a,b,d,λi w hi g=>?_,by unfold vAt at v⊢;rw[mx (~~~q)];exact v,)
   match i,g with
   |0,g=>cases g;lia
   |i+1,g=>calc e i w ∅ (~~~g)
end
def  lay{L:Type} [DecidableEq L] (g:Oo Int->L):(cols:Oo (List<|Int×Int))->Oo Int->Fm L ⇑cols
 | [],ah=>g ah
 |c :: cs,ah=>lG<|c.map λp=>((p.1,p.2,lay g cs<|ah++[p.1]):T3a (Fm L ⇑cs))
def  ShS{α:Type}(S:α->Oo (Int×Int)->Prop)(f:Oo (T3a α))(ps:Oo (Int×Int)):Prop:=∃p r,ps=p :: r/\f≠[]/\Ch3 f p.1 p.2/\Nbx (f.map (·.2.2))/\∀t∈f,S t.2.2 r
def  fP{L:Type}:(n:Nat)->Fm L n->Oo (Int×Int)->Prop
 |0,_,ps=>ps=[]
 |n+1,f,ps=>ShS (fP n) f ps
def  BC:Oo (Int×Int)->Int->Int->Prop
 | [],lo,hi=>lo=hi+1
 |p :: r,lo,hi=>p.1=lo/\lo<=p.2/\BC r (p.2+1) hi
def BD{α:Type}(F:Int×Int->α):∀{c:Oo (Int×Int)}{lo hi:Int},BC c lo hi->Ch3 (c.map λp=>((p.1,p.2,F p):T3a α)) lo hi
 | [],lo,hi,h=>h
 |p :: r,lo,hi,h=>(h.1,h.2.1,BD F h.2.2,)
inductive iu:Oo (List<|Int×Int)->Oo (Int×Int)->Prop
 |nil:iu [] []
 |cons {c:Oo (Int×Int)}{cs:Oo (List<|Int×Int)}{p:Int×Int}{ps:Oo (Int×Int)}:c≠[]->BC c p.1 p.2->iu cs ps->iu (c :: cs) (p :: ps)
def rE{L:Type} [DecidableEq L] {g:Oo Int->L}{a:Oo (List<|Int×Int)}{ps:Oo (Int×Int)}(h:iu a ps):∀b:Oo Int,fP ⇑a (lay g a b) ps:=by
 induction h with
 |nil=>intro b;exact(rfl:([]:Oo (Int×Int))=[])
 | @cons c cs p ps hne hc _ ih =>
  intro b;let k:=ir<|BD (λq=>lay g cs<|b++[q.1]) hc;calc(p,ps,U,k.ne<|~~~hne,k.ch,k.nb,λt d=>?_,);let(i,f,e):=k.mem t d;let(q,_,rfl):=br.mp f;rw[←e];calc ih _
def  ck(col:Oo (Int×Int))(c:Int):Int:=((col.find? λp=>decide<|c<=p.2).map (·.1)).getD 0
def wZ{α:Type}(F:Int×Int->α)(c:Int):∀col:Oo (Int×Int),vAt (col.map λp=>((p.1,p.2,F p):T3a α)) c=(col.find? λp=>decide<|c<=p.2).map F
 | []=>rfl
 |p :: r=>by
  unfold vAt;rw[iJ];by_cases q:c<=p.2
  .rw[mv (~~~q),mv (~~~q)];rfl
  .rw[mx (~~~q),mx (~~~q)];calc wZ F c r
inductive Tel{L:Type}:(n:Nat)->Fm L n->Oo Int->L->Prop
 |nil (x:L):Tel 0 x [] x
 |cons {n:Nat}{f:Oo (T3a<|Fm L n)}{c:Int}{cs:Oo Int}{x:L}{j:Nat}{t:T3a (Fm L n)}:f[j]?=N8 t->c<=t.2.1->(∀(i:Nat)(u:T3a (Fm L n)),i<j->f[i]?=N8 u->u.2.1<c)->Tel n t.2.2 cs x->Tel (n+1) f (c :: cs) x
inductive InB:Oo Int->Oo (Int×Int)->Prop
 |nil:InB [] []
 |cons {c:Int}{cs:Oo Int}{p:Int×Int}{ps:Oo (Int×Int)}:p.1<=c->c<=p.2->InB cs ps->InB (c :: cs) (p :: ps)
def rF{L:Type} [DecidableEq L] {g:Oo Int->L}{a:Oo (List<|Int×Int)}{ps:Oo (Int×Int)}(h:iu a ps):∀(d b:Oo Int),InB b ps->Tel ⇑a (lay g a d) b (g<|d++kt ck a b):=by
 induction h with
 |nil=>intro d b e;cases e;rw[List.zipWith_nil_left,iI];exact .nil _
 | @cons c a p ps hne hc _ ih =>
  intro d b e;cases e with
  | @cons x b _ _ h1 h2 e =>
   let k:=ir<|BD (λq=>lay g a<|d++[q.1]) hc;let(j,t,o,r,n,m,f):=k.ch.at h1 h2;rw[k.va,wZ]at f;cases e6:c.find? (λp=>decide<|x<=p.2) with
   |none=>rw[e6]at f;cases f
   |some q =>
    rw[e6]at f;let l:lay g a (d++[q.1])=t.2.2:=ci f;let i:ck c x=q.1:=by unfold ck;rw[e6];rfl
    calc .cons o n m ?_;rw[←l,List.zipWith_cons_cons,i];let:=ih (d++[q.1]) b e;rw[hZ]at this;calc this
def  FmL{α:Type}(R:α->V->Prop)(H:Hp)(f:Oo (T3a α))(xs:Oo V):Prop:=⇑xs=⇑f/\∀(i:Nat)(t:T3a α),f[i]?=N8 t->∃(r:Ki)(u:V),xs[i]?=↑r/\H r=N8 (.tup [.int t.1,.int t.2.1,u])/\R t.2.2 u
def  lH(K:bd)(H:Hp):Prop:=∀(r:Ki)(b a:Oo V),SqT K H r b->SqT K H r a->b=a
inductive dH(K:bd)(H:Hp):Nat->V->V->Bool->Prop where
 |of {n:Nat}{x y:V}{b:Bool}(h:DEq K H n x y b):dH K H n x y b
 |ti {n:Nat}{a:Ki}{xs:Oo V}{i:Int}(h:SqT K H a xs):dH K H n (.ref a) (.int i) Ob
 |it {n:Nat}{a:Ki}{xs:Oo V}{i:Int}(h:SqT K H a xs):dH K H n (.int i) (.ref a) Ob
 |tup {n:Nat}{a b:Ki}{xs ys:Oo V}{f:Nat->Bool}(ne:a≠b)(ha:SqT K H a xs)(hb:SqT K H b ys)(h:∀(j:Nat)(x y:V),xs[j]?=N8 x->ys[j]?=N8 y->dH K H n x y (f j)):dH K H (n+1) (.ref a) (.ref b) ((db<|min ⇑xs ⇑ys).all f && ⇑xs == ⇑ys)
def dH.mono{K:bd}{H:Hp}{n m:Nat}{x y:V}{b:Bool}(e:dH K H n x y b)(h:n<=m):dH K H m x y b:=by
 induction e generalizing m with
 |of e=>exact .of (e.mono h)
 |ti e=>exact .ti e
 |it e=>exact .it e
 |tup a f d _ c =>
  let(m,rfl):∃k,m=k+1:=(m-1,∅,);calc .tup a f d λj x y i g=>c j x y i g ∅
def G0(I:Inv X Od σ H s):lH X.K H:=λr p m l k=>by
 let(c,h,j,_):=I.tuple l;let(a,f,i,_):=I.tuple k;let(o,e,_,n,d):=j;let(q,g,_,t,b):=i;rw[e]at g;cases g;rw[d]at b;injection b with b;let:c=a:= ~~~b
 rw[←this]at f;calc Vals.inj h f
def dH.at{n:Nat}{x y:V}{b:Bool}(e:dH X.K H n x y b)(I:Inv X Od σ H s):∀{A:Kr}{u v:Kd},A.units+n<Ly->RelV x u->RelV y v->P9 A s u v b:=by
 induction e with
 |of e=>intro A u v l k g;exact e.at I l k g
 | @ti n a xs i h =>
  intro A u v l k g;cases (show u=dL a from k);let(t,rfl):=g;let(c,r,p,_):=I.tuple h;exact SeqAt.EqAt.tuple_int i t (show s.heap.IsTuple a c.toArray from p) ∅
 | @it n a xs i h =>
  intro A u v l k g;let(t,rfl):=k;cases (show v=dL a from g);let(c,r,p,_):=I.tuple h;exact SeqAt.EqAt.int_tuple i t (show s.heap.IsTuple a c.toArray from p) ∅
 | @tup n a b xs ys f ne ha hb h ih =>
  intro A u v l k g;cases (show u=dL a from k);cases (show v=dL b from g);let(c,r,p,_):=I.tuple ha;let(d,m,z,_):=I.tuple hb;let G:=⇑r;let F:=⇑m;let o:=QB (A:=A) (e:=f) (show s.heap.IsTuple a c.toArray from p) (show s.heap.IsTuple b d.toArray from z) ∅ (λj C B=>by
   let(x,E,w):=ie r C;let(y,D,q):=ie m B;exact ih j x y E D (by show A.units+1+n<Ly;lia) w q)
  rw[show c.toArray.size=⇑xs by simp only[dG];lia,show d.toArray.size=⇑ys by simp only[dG];lia]at o;calc OG ne o
inductive tQ(K:bd)(neg:Bool)(x:V)(y:V)(H:Hp)(Q:VK):Prop
 |tt (a b:Ki)(xs ys:Oo V)(_:x=.ref a)(_:y=.ref b)(_:SqT K H a xs)(_:SqT K H b ys)(f:Nat->Bool)(_:(∀(j:Nat)(x y:V),xs[j]?=N8 x->ys[j]?=N8 y->dH K H 60 x y (f j)))(_:Q (.bl (if neg then !((db<|min ⇑xs ⇑ys).all f && ⇑xs == ⇑ys) else(db<|min ⇑xs ⇑ys).all f && ⇑xs == ⇑ys)) H):tQ K neg x y H Q
 |ti (a:Ki)(xs:Oo V)(i:Int)(_:x=.ref a)(_:y=.int i)(_:SqT K H a xs)(_:Q (.bl neg) H):tQ K neg x y H Q
 |it (a:Ki)(xs:Oo V)(i:Int)(_:x=.int i)(_:y=.ref a)(_:SqT K H a xs)(_:Q (.bl neg) H):tQ K neg x y H Q
def Ah{Od:Oo (Ki×Obj)}{σ:St}{H:Hp}{s:Ks}{A:Kr}{xs ys:Oo V}{a its':Oo Kd}{f:Nat->Bool}(I:Inv X Od σ H s)(h:A.units+60<Ly)(r:Vals xs a)(d:Vals ys its')
  (hf:∀(j:Nat)(x y:V),xs[j]?=N8 x->ys[j]?=N8 y->dH X.K H 60 x y (f j)):∀j (c:j<a.toArray.size)(b:j<its'.toArray.size),P9 A s a.toArray[j] its'.toArray[j] (f j):=λj c b=>by
 let(x,k,g):=ie r c;let(y,i,e):=ie d b;calc(hf j x y k i).at I h g e
def DR{k:Nat}(E:bu k X.A):OpR X (Lj .Eq) (tQ X.K Ob):=by
 intro Od s σ H x y v u Q I n m h;let L:=E.units;cases h with
 |tt a b o J j g d G f F q =>
  subst j g;cases (show v=dL a from n);cases (show u=dL b from m);let(c,r,p,_):=I.tuple d;let(l,z,B,_):=I.tuple G;let D:=⇑r;let C:=⇑z;refine SeqAt.eq_tupleAt (e:=f) (show s.heap.IsTuple a c.toArray from p) (show s.heap.IsTuple b l.toArray from B) ∅ (Ah I (by show X.A.units+1+60<Ly;lia) r z F) (.bl _,H,I,U,?_,);simp only[dG];rw[←D,←C];exact q
 |ti a o i j g d q =>
  subst j g;cases (show v=dL a from n);let(t,rfl):=m;let(c,r,p,_):=I.tuple d;exact SeqAt.RcAt.tuple_int i t (show s.heap.IsTuple a c.toArray from p) ∅ X.prog X.w X.xe _ (.bl _,H,I,U,q,)
 |it a o i j g d q =>
  subst j g;let(t,rfl):=n;cases (show u=dL a from m);let(c,r,p,_):=I.tuple d;calc SeqAt.RcAt.int_tuple i t (show s.heap.IsTuple a c.toArray from p) ∅ X.prog X.w X.xe _ (.bl _,H,I,U,q,)
def  rFm(K:bd):R2:=λx y H Q=>lH K H->rEq x y H Q\/tQ K Ob x y H Q
structure Lfp(K:bd)(L:Type) [DecidableEq L] where
 R:Hp->L->V->Prop
 mono:∀{H H':Hp}{x:L}{v:V},bG H H'->R H x v->R H' x v
 inj:∀{H:Hp}{x y:L}{v:V},lH K H->R H x v->R H y v->x=y
 deq:∀{H:Hp}{x y:L}{u v:V},lH K H->R H x u->R H y v->dH K H 2 u v (Oc<|x=y)
 eq:∀{H:Hp}{x y:L}{u v:V}{Q:VK},lH K H->R H x u->R H y v->Q (.bl<|Oc<|x=y) H->rEq u v H Q\/tQ K Ob u v H Q
 ne:∀{H:Hp}{x y:L}{u v:V}{Q:VK},lH K H->R H x u->R H y v->Q (.bl<|!Oc (x=y)) H->rNe u v H Q\/tQ K Oa u v H Q
def  FmV{K:bd}{L:Type} [DecidableEq L] (A:Lfp K L)(H:Hp):(n:Nat)->Fm L n->V->Prop
 |0,x,v=>A.R H x v
 |n+1,f,v=>∃(a:Ki)(xs:Oo V),v=.ref a/\H a=N8 (.tup xs)/\FmL (FmV A H n) H f xs
def FmL.mono{α:Type}{R d:α->V->Prop}{H H':Hp}{f:Oo (T3a α)}{xs:Oo V}(h:FmL R H f xs)(k:∀x u,R x u->d x u)(s:bG H H'):FmL d H' f xs:=(h.1,λi t e=>by
 let(r,u,a,b,c):=h.2 i t e;exact(r,u,a,s _ _ b,k _ _ c,),)
def FmV.mono{K:bd}{L:Type} [DecidableEq L] {A:Lfp K L}{H H':Hp}(s:bG H H'):∀{n:Nat}{f:Fm L n}{v:V},FmV A H n f v->FmV A H' n f v
 |0,_,_,h=>A.mono s h
 |n+1,_,_,h=>by
  let(a,xs,d,c,b):=h;calc(a,xs,d,s _ _ c,b.mono (λ_ _ q=>FmV.mono s q) s,)
def FmL.nil{α:Type}{R:α->V->Prop}{H:Hp}:FmL R H [] []:=(U,λi t e=>by simp at e,)
def FmL.snoc{α:Type}{R:α->V->Prop}{H:Hp}{f:Oo (T3a α)}{xs:Oo V}{t:T3a α}{r:Ki}{u:V}(h:FmL R H f xs)(k:H r=N8 (.tup [.int t.1,.int t.2.1,u]))(q:R t.2.2 u):FmL R H (f++[t]) (xs++[.ref r]):=by
 refine(by simp[h.1],λi v e=>?_,);by_cases hi:i<⇑f
 .rw[fS hi]at e;let(j,g,a,b,c):=h.2 i v e;exact(j,g,by rw[fS (by rw[h.1];exact hi)];exact a,b,c,)
 .let d:i=⇑f:=by
   let:=(JQ.mp e).1;simp at this;lia
  subst d;simp at e;subst e;calc(r,u,by rw[←h.1];simp,k,q,)
def FmL.init{α:Type}{R:α->V->Prop}{H:Hp}{f:Oo (T3a α)}{xs:Oo V}{t:T3a α}(h:FmL R H (f++[t]) xs):∃(ys:Oo V)(r:Ki)(u:V),xs=ys++[.ref r]/\FmL R H f ys/\H r=N8 (.tup [.int t.1,.int t.2.1,u])/\R t.2.2 u:=by
 let(r,u,a,b,c):=h.2 ⇑f t (by simp);let g:=h.1;rw[cn,il]at g;rcases Pg xs with d|⟨ys,y,d⟩
 .subst d;simp at g
 .rw[Ph]at d;subst d;let j:⇑ys=⇑f:= ~~~g
  rw[←j]at a;simp at a;subst a;calc(ys,r,u,U,(j,λi v e=>?_,),b,c,);let hi:=(JQ.mp e).1;let(m,l,k,o,n):=h.2 i v (by rw[fS hi];exact e);rw[fS ∅]at k;calc(m,l,k,o,n,)
def FmL.inj{α:Type}{R:α->V->Prop}{H:Hp}{f g:Oo (T3a α)}{xs:Oo V}(k:∀x y u,R x u->R y u->x=y)(h:FmL R H f xs)(h':FmL R H g xs):f=g:=by
 refine pA λi=>?_
 cases e:f[i]? with
 |none =>
  let:⇑f<=i:=Go.mp e;rw[Go.mpr (by rw[←h'.1,h.1];exact this)]
 |some t =>
  let hi:=(JQ.mp e).1;let(j,m):∃j,g[i]?=N8 j:=(_,JP (l:=g) (i:=i) (by rw[←h'.1,h.1];exact hi),);let(r,u,a,b,c):=h.2 i t e;let(A,s,o,d,n):=h'.2 i _ m;rw[a]at o;cases o;rw[b]at d;let(z,w,v):=t;let(D,C,B):=j;simp only at d c n;injection d with d;injection d with d;simp only[Q6,V.int.injEq,and_true]at d;let(q,p,rfl):=d;rw[m,q,p,k _ _ _ c n]
def FmV.inj{K:bd}{L:Type} [DecidableEq L] {A:Lfp K L}{H:Hp}(e:lH K H):∀{n:Nat}{f g:Fm L n}{v:V},FmV A H n f v->FmV A H n g v->f=g
 |0,_,_,_,h,h'=>A.inj e h h'
 |n+1,_,_,_,h,h'=>by
  let(a,xs,l,k,j):=h;let(o,m,c,b,d):=h';rw[l]at c;cases c;rw[k]at b;cases b;calc FmL.inj (R:=FmV A H n) (λx y u q i=>FmV.inj e q i) j d
def FmL.deq{α:Type} [DecidableEq α] {R:α->V->Prop}{K:bd}{H:Hp}{m:Nat}{f g:Oo (T3a α)}{xs ys:Oo V}(inj:∀x y u,R x u->R y u->x=y)(k:∀x y u v,R x u->R y v->dH K H m u v (Oc<|x=y))
  (h:FmL R H f xs)(h':FmL R H g ys):(∀(j:Nat)(x y:V),xs[j]?=N8 x->ys[j]?=N8 y->dH K H (m+1) x y (Oc<|f[j]?=g[j]?))/\((db<|min ⇑xs ⇑ys).all (λj=>decide<|f[j]?=g[j]?) && ⇑xs == ⇑ys)=Oc (f=g):=by
 refine(λj x y l o=>?_,?_,)
 .let Q:j<⇑f:=by rw[←h.1];exact(JQ.mp l).1
  let E:j<⇑g:=by rw[←h'.1];exact(JQ.mp o).1
  let J:=JP Q;let I:=JP E;let(r,u,a,b,c):=h.2 j _ J;let(O,F,L,p,D):=h'.2 j _ I;rw[l]at a;cases a;rw[o]at L;cases L;rw[J,I];generalize f[j]=t at *
  generalize g[j]=t' at *
  let(w,s,B):=t;let(A,z,C):=t';simp only at b p c D;by_cases G:r=O
  .subst G;rw[b]at p;injection p with p;injection p with p;simp only[Q6,V.int.injEq,and_true]at p;let(N,M,rfl):=p;let:decide (N8 (w,s,B)=N8 (A,z,C))=true:=by rw[N,M,inj _ _ _ c D];simp
   rw[this];exact .of<|.same r
  .let d:=dH.tup (K:=K) (H:=H) (n:=m) (f:=λi=>match i with|0=>decide (w=A)|1=>decide (s=z)|_=>decide<|B=C) G (RG b) (RG p) λi x y l o=>?_
   .let e:((db<|min [ut w,ut s,u].length [ut A,ut z,F].length).all (λi=>match i with|0=>decide (w=A)|1=>decide (s=z)|_=>decide<|B=C) && [ut w,ut s,u].length == [ut A,ut z,F].length)=Oc (N8 (w,s,B)=N8 (A,z,C)):=by
     show((db 3).all (λi=>match i with|0=>decide (w=A)|1=>decide (s=z)|_=>decide<|B=C) && Oa)=_;let:db 3=[0,1,2]:=rfl;rw[this];simp only[List.all_cons,List.all_nil,Bool.and_true,Option.some.injEq,Prod.mk.injEq,Bool.decide_and]
    rw[e]at d;exact d
   .match i,l,o with
    |0,l,o=>cases l;cases o;exact .of<|.flat U U
    |1,l,o=>cases l;cases o;exact .of<|.flat U U
    |2,l,o=>cases l;cases o;exact k _ _ _ _ c D
    |i+3,l,_=>simp at l
 .rw[h.1,h'.1];by_cases e:f=g
  .subst e;simp
  .rw[Oi e];by_cases P:⇑f=⇑g
   .rw[Bool.and_eq_false_iff];left
    refine Jo.mpr λq=>e<|pA λi=>?_
    rw[jL]at q;by_cases hi:i<⇑f
    .exact Oj<|q i<|gd.mpr ∅
    .rw[Go.mpr ∅,Go.mpr ∅]
   .simp[P]
def FmV.deq{K:bd}{L:Type} [DecidableEq L] {A:Lfp K L}{H:Hp}(j:lH K H):∀{n:Nat}{f g:Fm L n}{u v:V},FmV A H n f u->FmV A H n g v->dH K H (2*n+2) u v (Oc<|f=g)
 |0,f,g,_,_,h,h'=>A.deq j h h'
 |n+1,f,g,_,_,h,h'=>by
  let(a,xs,rfl,l,k):=h;let(b,r,rfl,c,i):=h';let(p,o):=FmL.deq (R:=FmV A H n) (K:=K) (m:=2*n+2) (λx y u q d=>FmV.inj j q d) (λx y u v q d=>FmV.deq j q d) k i;by_cases e:a=b
  .subst e;rw[l]at c;cases c;let:f=g:=FmL.inj (R:=FmV A H n) (λx y u q d=>FmV.inj j q d) k i;rw[Oh this];exact .of<|.same a
  .let:=dH.tup e (RG l) (RG c) p;rw[o]at this;calc this
def yr{f:Kd->Kd->Sem Kd}{r e:R2}(a:OpR X f r)(b:OpR X f e):OpR X f (λx y H Q=>r x y H Q\/e x y H Q):=λOd s σ H x y v u Q I d c h=>h.elim (a Od s σ H x y v u Q I d c)<|b Od s σ H x y v u Q I d c
def Ai{k:Nat}(c:bu k X.A):OpR X (Lj .Eq) (rFm X.K):=λOd s σ H x y v u Q I b a h=>yr eS (DR c) Od s σ H x y v u Q I b a<|h<|G0 I
def FmV.eq_to{K:bd}{L:Type} [DecidableEq L] {A:Lfp K L}{H:Hp}{Q:VK}:∀{n:Nat}{f g:Fm L n}{u v:V},n<=20->FmV A H n f u->FmV A H n g v->Q (.bl<|Oc<|f=g) H->rFm K u v H Q
 |0,f,g,_,_,_,h,h',q=>λc=>A.eq c h h' q
 |n+1,f,g,_,_,hn,h,h',q=>λc=>by
  let(a,xs,rfl,o,l):=h;let(b,k,rfl,i,e):=h';let(t,s):=FmL.deq (R:=FmV A H n) (K:=K) (m:=2*n+2) (λx y u q d=>FmV.inj c q d) (λx y u v q d=>FmV.deq c q d) l e;calc .inr <| .tt a b xs k U U (RG o) (RG i) _ (λj x y r p=>(t j x y r p).mono ∅) ?_;rw[Oe ⋯,s];calc q
def InB.snoc{d:Oo Int}{ps:Oo (Int×Int)}{c:Int}{p:Int×Int}(h:InB d ps)(g:p.1<=c)(f:c<=p.2):InB (d++[c]) (ps++[p]):=by
 induction h with
 |nil=>exact .cons g f .nil
 |cons a b _ e=>calc .cons a b e
def InB.length{a:Oo Int}{ps:Oo (Int×Int)}(h:InB a ps):⇑a=⇑ps:=by
 induction h with
 |nil=>rfl
 |cons _ _ _ b=>rw[en,en,b]
def InB.get{g:Oo Int}{ps:Oo (Int×Int)}(h:InB g ps):∀(j:Nat)(c:Int)(p:Int×Int),g[j]?=N8 c->ps[j]?=N8 p->p.1<=c/\c<=p.2:=by
 induction h with
 |nil=>intro j c p e;simp at e
 |cons a b _ i =>
  intro j c p f d
  match j,f,d with
  |0,f,d=>cases f;cases d;exact(a,b,)
  |j+1,f,d=>calc i j c p (~~~f) (~~~d)
def Aj(x y:Int):decide (ut x=ut y)=Oc (x=y):=by
 by_cases e:x=y
 .rw[Oh e,e];simp
 .rw[Oi e];calc Oi λz=>e<|V.int.inj z
def oi(x y:Int):eqV (.int x) (.int y)=Oc (x=y):=by
 show((x:Int) == (y:Int))=Oc (x=y);by_cases e:x=y
 .rw[Oh e,e];simp
 .rw[Oi e];calc beq_eq_false_iff_ne.mpr e
def  Ak{K:bd}:Lfp K Int where
 R _ x v:=v=.int x
 mono _ h:=h
 inj _ h h':=V.int.inj (h.symm.trans h')
 deq {H x y u v} _ h h':=by
  cases h;cases h';rw[←oi];exact .of (.flat U U)
 eq {H x y u v Q} _ h h' q:=by
  cases h;cases h';calc .inl (U,?_,);rw[Aj];exact q
 ne {H x y u v Q} _ h h' q:=by
  cases h;cases h';calc .inl (U,?_,);rw[Aj];calc q
abbrev SI2:=Str×Int
def  tp2(p:SI2):Oo V:=[.str p.1,.int p.2]
def BE{p q:SI2}(h:tp2 p=tp2 q):p=q:=by
 injection h with b a;injection a with a c;calc Prod.ext (V.str.inj b)<|V.int.inj a
def  Vd(K:bd)(H:Hp)(r:Ki)(x:SI2):Prop:=H r=N8 (.tup<|tp2 x)\/ModT K r (tp2 x)
def Vd.sq{K:bd}{H:Hp}{r:Ki}{x:SI2}(h:Vd K H r x):SqT K H r (tp2 x):=h.elim (λh=>RG h) λh=>h.sq H
def Vd.mono{K:bd}{H H':Hp}{r:Ki}{x:SI2}(s:bG H H')(h:Vd K H r x):Vd K H' r x:=h.imp (λh=>s _ _ h) id
def Vd.inj{K:bd}{H:Hp}{r:Ki}{x y:SI2}(a:lH K H)(h:Vd K H r x)(h':Vd K H r y):x=y:=BE<|a r _ _ h.sq h'.sq
def oj(x y:Str):eqV (.str x) (.str y)=Oc (x=y):=by show(x == y)=_;rw[tz];simp
def  fSI(x y:SI2)(j:Nat):Bool:=if j=0 then decide (x.1=y.1)else decide (x.2=y.2)
def rG(x y:SI2):((db<|min ⇑(tp2 x) ⇑(tp2 y)).all (fSI x y) && ⇑(tp2 x) == ⇑(tp2 y))=Oc (x=y):=by
 show((db 2).all (fSI x y) && (2 == 2:Bool))=_;let(d,c):=x;let(b,a):=y;unfold fSI;by_cases f:d=b <;> by_cases e:c=a <;> simp[jO,f,e]
def vL{K:bd}{H:Hp}{n:Nat}{x y:SI2}(j:Nat)(u v:V)(a:(tp2 x)[j]?=N8 u)(b:(tp2 y)[j]?=N8 v):dH K H n u v (fSI x y j):=by
 match j,a,b with
 |0,a,b =>
  cases a;cases b;show dH K H n _ _ (Oc<|x.1=y.1);rw[←oj];exact .of<|.flat U U
 |1,a,b =>
  cases a;cases b;show dH K H n _ _ (Oc<|x.2=y.2);rw[←oi];exact .of<|.flat U U
 |j+2,a,_=>simp[tp2]at a
def Vd.deq{K:bd}{H:Hp}{n:Nat}{a b:Ki}{x y:SI2}(c:lH K H)(h:Vd K H a x)(h':Vd K H b y):dH K H (n+1) (.ref a) (.ref b) (Oc<|x=y):=by
 by_cases e:a=b
 .subst e;rw[Oh (Vd.inj c h h')];exact .of<|.same a
 .let:=dH.tup (n:=n) e h.sq h'.sq (f:=fSI x y) vL;rw[rG]at this;calc this
def  LVd{K:bd}:Lfp K SI2 where
 R H x v:=∃r,v=.ref r/\Vd K H r x
 mono s:=λ(r,e,h,)=>(r,e,h.mono s,)
 inj {H x y v} hT h h':=by
  let(r,rfl,h):=h;let(a,e,h'):=h';cases e;exact Vd.inj hT h h'
 deq {H x y u v} hT h h':=by
  let(r,rfl,h):=h;let(a,rfl,h'):=h';exact Vd.deq (n:=1) hT h h'
 eq {H x y u v Q} hT h h' q:=by
  let(r,rfl,h):=h;let(a,rfl,h'):=h';calc .inr<|.tt r a _ _ U U h.sq h'.sq (fSI x y) vL ?_;rw[Oe ⋯,rG];exact q
 ne {H x y u v Q} hT h h' q:=by
  let(r,rfl,h):=h;let(a,rfl,h'):=h';calc .inr<|.tt r a _ _ U U h.sq h'.sq (fSI x y) vL ?_;rw[Of U,rG];calc q
inductive Tq where
 |say (v:SI2)
 |ask (c:Nat)(m:Int)(l r:Tq)
 deriving DecidableEq
def  Tq.dep:Tq->Nat
 | .say _=>0
 | .ask _ _ l r=>max l.dep r.dep+1
def  kz:Str:=s!"say"
def  kA:Str:=s!"ask"
def  TqA(K:bd)(H:Hp):Tq->Ki->Prop
 | .say v,a=>∃b,H a=N8 (.tup [.str kz,.ref b])/\Vd K H b v
 | .ask c m l r,a=>∃x y,H a=N8 (.tup [.str kA,.int c,.int m,.ref x,.ref y])/\TqA K H l x/\TqA K H r y
def TqA.mono{K:bd}{H H':Hp}(s:bG H H'):∀{T:Tq}{a:Ki},TqA K H T a->TqA K H' T a
 | .say _,_,(b,e,h,)=>(b,s _ _ e,h.mono s,)
 | .ask _ _ _ _,_,(x,y,e,h1,h2,)=>(x,y,s _ _ e,TqA.mono s h1,TqA.mono s h2,)
def TqA.inj{K:bd}{H:Hp}(g:lH K H):∀{T j:Tq}{a:Ki},TqA K H T a->TqA K H j a->T=j
 | .say v,.say w,_,(b,e,h,),(b',d,h',)=>by
  rw[e]at d;cases d;rw[h.inj g h']
 | .say v,.ask ..,_,(b,e,h,),(x,y,d,_,)=>by rw[e]at d;cases d
 | .ask ..,.say v,_,(x,y,d,_,),(b,e,h,)=>by rw[e]at d;cases d
 | .ask c m l r,.ask c' m' l' r',_,(x,y,e,h1,h2,),(x',y',d,h1',h2',)=>by
  rw[e]at d;injection d with d;injection d with d;injection d with _ d;injection d with i d;injection d with f d;injection d with n d;injection d with k _;let i:=V.int.inj i;let f:=V.int.inj f;cases n;cases k;rw[TqA.inj g h1 h1',TqA.inj g h2 h2',f,show c=c' by lia]
def  DS(c c':Nat)(m a:Int)(bl b:Bool)(j:Nat):Bool:=if j=0 then Oa else if j=1 then decide (c=c')else if j=2 then decide (m=a)else if j=3 then bl else b
def Al(c c':Nat):decide ((c:Int)=(c':Int))=Oc (c=c'):=by
 by_cases h:c=c'
 .rw[Oh h,h];exact Oh U
 .rw[Oi h];calc Oi λz=>h ∅
def TqA.deq{K:bd}{H:Hp}(E:lH K H):∀{T p:Tq}{a b:Ki},TqA K H T a->TqA K H p b->dH K H (T.dep+2) (.ref a) (.ref b) (Oc<|T=p):=by
 intro T;induction T with
 |say v =>
  intro p a b q k;by_cases e:a=b
  .subst e;rw[Oh (TqA.inj E q k)];exact .of<|.same a
  .let(x,s,L):=q;cases p with
   |say w =>
    let(y,o,D):=k;let:=dH.tup (n:=1) e (RG (K:=K) s) (RG o) (f:=λj=>if j=0 then Oa else decide (v=w)) λj u z d g=>by
     match j,d,g with
     |0,d,g=>cases d;cases g;exact .of (by show DEq K H 1 (.str kz) (.str kz) Oa;rw[show Oa=eqV (.str kz) (.str kz) by rw[oj,Oh U]];exact .flat U U)
     |1,d,g=>cases d;cases g;exact Vd.deq E L D
     |j+2,d,_=>simp at d
    rw[show((db<|min [v0 kz,mt x].length [v0 kz,mt y].length).all (λj=>if j=0 then Oa else decide (v=w)) && [v0 kz,mt x].length == [v0 kz,mt y].length)=Oc (Tq.say v=Tq.say w) by
     by_cases z:v=w <;> simp[jO,z]]at this
    exact this
   |ask c m l r =>
    let(C,B,o,_):=k;let:=dH.tup (n:=1) e (RG (K:=K) s) (RG o) (f:=λ_=>Ob) λj u z d g=>by
     match j,d,g with
     |0,d,g=>cases d;cases g;exact .of (by show DEq K H 1 (.str kz) (.str kA) Ob;rw[show Ob=eqV (.str kz) (.str kA) by rw[oj,Oi ⋯]];exact .flat U U)
     |1,d,g =>
      cases d;cases g;exact .ti L.sq
     |j+2,d,_=>simp at d
    rw[show decide (Tq.say v=Tq.ask c m l r)=Ob by simp];exact this
 |ask c m l r G F =>
  intro p a b q k;by_cases e:a=b
  .subst e;rw[Oh (TqA.inj E q k)];exact .of<|.same a
  .let(J,I,s,X,S):=q;cases p with
   |say w =>
    let(y,o,D):=k;let:=dH.tup (n:=(Tq.ask c m l r).dep+1) e (RG (K:=K) s) (RG o) (f:=λ_=>Ob) λj u z d g=>by
     match j,d,g with
     |0,d,g=>cases d;cases g;exact .of (by show DEq K H _ (.str kA) (.str kz) Ob;rw[show Ob=eqV (.str kA) (.str kz) by rw[oj,Oi ⋯]];exact .flat U U)
     |1,d,g =>
      cases d;cases g;exact .it D.sq
     |j+2,_,g=>simp at g
    rw[show decide (Tq.ask c m l r=Tq.say w)=Ob by simp];exact this
   |ask i h A t =>
    let(C,B,o,R,Q):=k;let:=dH.tup (n:=(Tq.ask c m l r).dep+1) e (RG (K:=K) s) (RG o) (f:=DS c i m h (Oc<|l=A)<|Oc<|r=t) λj u z d g=>by
     match j,d,g with
     |0,d,g=>cases d;cases g;exact .of (by show DEq K H _ (.str kA) (.str kA) Oa;rw[show Oa=eqV (.str kA) (.str kA) by rw[oj,Oh U]];exact .flat U U)
     |1,d,g=>cases d;cases g;exact .of (by show DEq K H _ (.int c) (.int i) (Oc<|c=i);rw[←Al,←oi];exact .flat U U)
     |2,d,g=>cases d;cases g;exact .of (by show DEq K H _ (.int m) (.int h) (Oc<|m=h);rw[←oi];exact .flat U U)
     |3,d,g=>cases d;cases g;exact(G X R).mono (by show l.dep+2<=max l.dep r.dep+1+1;lia)
     |4,d,g=>cases d;cases g;exact(F S Q).mono (by show r.dep+2<=max l.dep r.dep+1+1;lia)
     |j+5,d,_=>simp at d
    rw[show((db<|min [v0 kA,.int c,.int m,.ref J,.ref I].length [v0 kA,.int i,.int h,.ref C,.ref B].length).all (DS c i m h (Oc<|l=A)<|Oc<|r=t) && [v0 kA,.int c,.int m,.ref J,.ref I].length == [v0 kA,.int i,.int h,.ref C,.ref B].length)=Oc (Tq.ask c m l r=Tq.ask i h A t) by
     unfold DS;by_cases P:c=i <;> by_cases O:m=h <;> by_cases N:l=A <;> by_cases M:r=t <;> simp[jO,P,O,N,M]]at this
    calc this
abbrev Pln:=Int×Tq
def  PlA(K:bd)(H:Hp)(p:Pln)(a:Ki):Prop:=∃t,H a=N8 (.tup [.int p.1,.ref t])/\TqA K H p.2 t
def PlA.mono{K:bd}{H H':Hp}{p:Pln}{a:Ki}(s:bG H H')(h:PlA K H p a):PlA K H' p a:=by let(t,e,q):=h;calc(t,s _ _ e,q.mono s,)
def PlA.eq{K:bd}{H:Hp}{p q:Pln}{a b:Ki}{Q:VK}(s:lH K H)(r:PlA K H p a)(o:PlA K H q b)(hd:p.2.dep<=58)(h:Q (.bl<|Oc<|p=q) H):tQ K Ob (.ref a) (.ref b) H Q:=by
 let(t,w,n):=r;let(u,v,m):=o;refine .tt a b _ _ U U (RG w) (RG v) (λj=>if j=0 then decide (p.1=q.1)else decide (p.2=q.2)) (λj x y c d=>?_) ?_
 .match j,c,d with
  |0,c,d=>cases c;cases d;exact .of (by show DEq K H 60 (.int p.1) (.int q.1) (Oc<|p.1=q.1);rw[←oi];exact .flat U U)
  |1,c,d=>cases c;cases d;exact(TqA.deq s n m).mono ∅
  |j+2,c,_=>simp at c
 .rw[Oe ⋯,show((db<|min [ut p.1,mt t].length [ut q.1,mt u].length).all (λj=>if j=0 then decide (p.1=q.1)else decide (p.2=q.2)) && [ut p.1,mt t].length == [ut q.1,mt u].length)=Oc (p=q) by
   let(l,k):=p;let(i,g):=q;by_cases f:l=i <;> by_cases e:k=g <;> simp[jO,f,e]]
  calc h
def qI(p:Pos)(a b:Int)(c:Kd):∀(l:Oo Kd),TriplesOk l->NN p (l++[K5 a,K5 b,c])=(NN p l).or (NN p [K5 a,K5 b,c])
 | [],_=>rfl
 | .int x t :: .int y u :: d :: rest,h=>by
  let e:=qI p a b c rest h;show NN p (.int x t :: .int y u :: d :: (rest++[K5 a,K5 b,c]))=_;rw[NN,NN];split
  .rfl
  .exact e
def  bP(H:Hp)(P:Ki)(L:Oo (Pos×Str)):Prop:=∃ps,H P=N8 (.tbl ps)/\TriplesOk ps.toList/\∀p∈L,NN p.1 ps.toList=N9\/∃(b:Ki)(a:Obj),NN p.1 ps.toList=↑b/\H b=N8 (.frz a TTh)/\tM a p.2
def bP.same{H H':Hp}{P:Ki}{L:Oo (Pos×Str)}(h:bP H P L)(s:aw H H'):bP H' P L:=by
 let(ps,i,g,f):=h;calc(ps,s _ _ i,g,λp e=>(f p e).imp id λ(c,o,a,b,d,)=>(c,o,a,s _ _ b,d,),)
def bP.new{H:Hp}{P:Ki}{L:Oo (Pos×Str)}(h:H P=N8 (.tbl #[])):bP H P L:=(#[],h,trivial,λ_ _=>.inl U,)
def  G1(P:Ki)(pos:Pos)(qual:Str)(mk:Kd->Ki->Kd->Obj)(clos:Oo (Str×Ki)):TE:=λ_ H Q=>∃L,(pos,qual)∈L/\(∀p∈L,p.1.line=pos.line->p.1.col=pos.col->p.2=qual)/\bP H P L /\
 ∀(f e:Ki)(d:Obj)(g c:Kd)(H':Hp),H f=N9->(∀b o,b≠P->H b=N8 o->H' b=N8 o)->H' f=N8 (.frz (mk g e c) TTh)->H' e=N8 (.frz d TTh)->tM d qual->bP H' P L->(∀x y a,clos.lookup x=N8 a->clos.lookup y=N8 a->x=y)->Q (.ref f) H'
def vM{params:LL}{body:Kz}{scope:Kt}{pos:Pos}{c P:Ki}{clos:Oo (Str×Ki)}(CM:X.env.code=.ref c)
  (C:ON X.base c P)(hb:X.base.BuiltinsAt X.mg P)(T:Mb scope X.env=pure clos)(R:∀p∈clos,X.env.cells.lookup p.1=N8 p.2)(Fy:defaultsOf params X.env=([],[]):=by rfl) :
  PE X (.Lambda params body scope pos) (G1 P pos (X.env.qual ++ "<lambda>") (λpm c' ctv=>ls "<lambda>" (X.env.qual ++ "<lambda>") params body scope clos pm c' ctv) clos):=by
 intro Od s σ H Q I h;let(L,hL,a9,(ps,r,M,G),k):=h;let B:s.heap.get? P=N8 (W.tabObj ps):=I.hok P _ r;let J:s.heap.Ns Ko X.mg:=I.mod.glob.keeps I.bk;let a7:Ko≠P:=λq=>by
  let(o,es,ep,e,hd,_):=J;rw[q,B]at e;cases e;cases hd
 let inj:∀x y a,clos.lookup x=N8 a->clos.lookup y=N8 a->x=y:=λx y a E h2=>I.ok.inj x y a (R _<|mem_of_lookup E)<|R _<|mem_of_lookup h2
 rcases G _ hL with a6|⟨c',j,hf,K,A⟩
 .refine W.kla_eval Fy<|W.kla_makeFunction T I.ok.glob J CM (C.keeps I.bk) B M a6 a7 (hb.keeps I.bk) λc' ctv h' tk a4 l O G2 N=>?_;let(b0,j,vs,t,e2,a5,a8,hv):=G2;cases e2;let S:∀b,↥s<=b->H b=none:=λb f=>I.hok.fresh f
  let V:P<↥s:=bi B;let a3:c'≠P:=λz=>by rw[z]at l;exact Og V<|Pd.mpr l
  let g:↥s<=h'.objs.size:=vr l<|wx O;let a2:h'.objs.size≠P:=λz=>by rw[z]at g;exact Og V<|Pd.mpr g
  let a1:h'.objs.size≠c':=wz O;let m:=S _ g;let K:=S _ l;let i:∀{b:Ki}{u:HO},b≠P->H b=N8 u->upd (upd (upd H P<|.tbl<|ps ++ #[K5 pos.line,K5 pos.col,.ref c']) c'<|.frz j TTh) h'.objs.size (.frz (ls "<lambda>" (X.env.qual ++ "<lambda>") params body scope clos ((X.mg "__name__").getD .none) c' ctv) TTh) b=N8 u:=λ{b u} f e=>by
   rw[av (aV e m),av<|aV e K,av f];exact e
  let Z:upd (upd (upd H P<|.tbl<|ps ++ #[K5 pos.line,K5 pos.col,.ref c']) c'<|.frz j TTh) h'.objs.size (.frz (ls "<lambda>" (X.env.qual ++ "<lambda>") params body scope clos ((X.mg "__name__").getD .none) c' ctv) TTh) P=N8 (.tbl<|ps ++ #[K5 pos.line,K5 pos.col,.ref c']):=by
   rw[av a2.symm,av a3.symm,ag]
  let F:∀{b:Ki},H b=N9->b≠P:=λe z=>by rw[z,r]at e;cases e
  let keep:∀b o,b≠P->s.heap.get? b=N8 o->(h'.push<|ls "<lambda>" (X.env.qual ++ "<lambda>") params body scope clos ((X.mg "__name__").getD .none) c' ctv).get? b=N8 o:=λb o f e=>am _<|a4 b o f e
  let un:Un X.fs [] H (upd (upd (upd H P<|.tbl<|ps ++ #[K5 pos.line,K5 pos.col,.ref c']) c'<|.frz j TTh) h'.objs.size<|.frz (ls "<lambda>" (X.env.qual ++ "<lambda>") params body scope clos ((X.mg "__name__").getD .none) c' ctv) TTh) s.heap (h'.push<|ls "<lambda>" (X.env.qual ++ "<lambda>") params body scope clos ((X.mg "__name__").getD .none) c' ctv):=by
   refine(λb o e n _ _=>keep b o (F n) e,λb o e n _ _=>(o.slots,keep b o (F n) e,),λb o e n _=>?_,λb o e _=>?_,λb xs e=>i (λz=>by rw[z,r]at e;cases e) e,λb o u e=>i (λz=>by rw[z,r]at e;cases e) e,λb a0 e=>?_,)
   .let f:=bi e;rw[av (vl<|v5 f g),av<|vl<|v5 f l,av (F n)];exact n
   .by_cases f:b=P
    .subst f;exact(_,am _ N,)
    .exact(o,keep b o f e,)
   .by_cases f:b=P
    .subst f;rw[r]at e;cases e;exact(_,Z,)
    .exact(#[],by rw[i f e];simp,)
  let hok:HOk X.prog X.w (upd (upd (upd H P<|.tbl<|ps ++ #[K5 pos.line,K5 pos.col,.ref c']) c'<|.frz j TTh) h'.objs.size<|.frz (ls "<lambda>" (X.env.qual ++ "<lambda>") params body scope clos ((X.mg "__name__").getD .none) c' ctv) TTh) (h'.push<|ls "<lambda>" (X.env.qual ++ "<lambda>") params body scope clos ((X.mg "__name__").getD .none) c' ctv):=λb u e=>by
   by_cases E:b=h'.objs.size
   .subst E;rw[ag]at e;cases e;exact tL<|bn _ U
   rw[av E]at e;by_cases h2:b=c'
   .subst h2;rw[ag]at e;cases e;exact tL<|am _ a5
   rw[av h2]at e;by_cases h3:b=P
   .subst h3;rw[ag]at e;cases e;exact am _ N
   rw[av h3]at e;refine(I.hok b u e).stay (λd v hd q=>keep d v ?_ q) (λd q=>i (λz=>by rw[z,r]at q;cases q) q) λd xs q=>i (λz=>by rw[z,r]at q;cases q) q
   rcases hd with rfl|hd
   .exact h3
   .exact λz=>by rw[z,r]at hd;cases hd
  let I2:=I.un (t':=tk) un hok;let A:tM j (X.env.qual ++ "<lambda>"):=(vs,t,a8,hv,);let Y:upd (upd (upd H P<|.tbl<|ps ++ #[K5 pos.line,K5 pos.col,.ref c']) c'<|.frz j TTh) h'.objs.size (.frz (ls "<lambda>" (X.env.qual ++ "<lambda>") params body scope clos ((X.mg "__name__").getD .none) c' ctv) TTh) c'=N8 (.frz j TTh):=(av a1.symm).trans ag;refine(.ref h'.objs.size,_,I2,U,k _ c' j _ ctv _ m (λb o f e=>i f e) ag Y A (_,Z,?_,λp hp=>?_,) inj,)
  .rw[GG];exact TriplesOk_snoc _ _ _ _ M
  .rw[GG];show NN p.1 (ps.toList++[K5 pos.line,K5 pos.col,.ref c'])=N9\/∃(d:Ki)(j:Obj),NN p.1 (ps.toList++[K5 pos.line,K5 pos.col,.ref c'])=↑d/\_;rw[qI _ _ _ _ _ M];rcases G p hp with q|⟨d,od,q1,q2,q3⟩
   .rw[q];show NN p.1 [K5 pos.line,K5 pos.col,.ref c']=N9\/∃(d:Ki)(j:Obj),NN p.1 [K5 pos.line,K5 pos.col,.ref c']=↑d/\_;by_cases e:p.1.line=pos.line/\p.1.col=pos.col
    .let e3:NN p.1 [K5 pos.line,K5 pos.col,.ref c']=↑c':=by
      show(if ((pos.line:Int) == (p.1.line:Int) && (pos.col:Int) == (p.1.col:Int))=Oa then N8 (dL c')else N9)=_;rw[e.1,e.2];simp
     exact .inr (c',j,e3,Y,by rw[a9 p hp e.1 e.2];exact A,)
    .left
     show(if ((pos.line:Int) == (p.1.line:Int) && (pos.col:Int) == (p.1.col:Int))=Oa then N8 (dL c')else N9)=N9;rw[Oe λz=>e ?_];rw[Iv,beq_iff_eq,beq_iff_eq]at z;lia
   .exact .inr (d,od,by rw[q1];rfl,i (λz=>by rw[z,r]at q2;cases q2) q2,q3,)
 .refine W.kla_eval Fy<|W.kla_makeFunctionHit T I.ok.glob J CM (C.keeps I.bk) B M hf (hb.keeps I.bk) λctv h' tk kp g=>?_;let m:H h'.objs.size=none:=I.hok.fresh g;let D:aw H (upd H h'.objs.size<|.frz (ls "<lambda>" (X.env.qual ++ "<lambda>") params body scope clos ((X.mg "__name__").getD .none) c' ctv) TTh):=aj m _;let keep:∀b o,s.heap.get? b=N8 o->(h'.push<|ls "<lambda>" (X.env.qual ++ "<lambda>") params body scope clos ((X.mg "__name__").getD .none) c' ctv).get? b=N8 o:=λb o e=>am _<|kp b o e
  let un:Un X.fs [] H (upd H h'.objs.size<|.frz (ls "<lambda>" (X.env.qual ++ "<lambda>") params body scope clos ((X.mg "__name__").getD .none) c' ctv) TTh) s.heap (h'.push<|ls "<lambda>" (X.env.qual ++ "<lambda>") params body scope clos ((X.mg "__name__").getD .none) c' ctv):=by
   refine(λb o e n _ _=>keep b o e,λb o e n _ _=>(o.slots,keep b o e,),λb o e n _=>?_,λb o e _=>(o,keep b o e,),λb xs e=>D _ _ e,λb o u e=>D _ _ e,λb a0 e=>(#[],by rw[D _ _ e];simp,),);let f:=bi e;rw[av (vl<|v5 f g)];exact n
  let hok:HOk X.prog X.w (upd H h'.objs.size<|.frz (ls "<lambda>" (X.env.qual ++ "<lambda>") params body scope clos ((X.mg "__name__").getD .none) c' ctv) TTh) (h'.push<|ls "<lambda>" (X.env.qual ++ "<lambda>") params body scope clos ((X.mg "__name__").getD .none) c' ctv):=λb u e=>by
   by_cases E:b=h'.objs.size
   .subst E;rw[ag]at e;cases e;exact tL<|bn _ U
   rw[av E]at e;exact(I.hok b u e).stay (λd v _ q=>keep d v q) (λd q=>D _ _ q) λd xs q=>D _ _ q
  let I2:=I.un (t':=tk) un hok;calc(.ref h'.objs.size,_,I2,U,k _ c' j _ ctv _ m (λb o _ e=>D _ _ e) ag (D _ _ K) A (bP.same (ps,r,M,G,) D) inj,)
def DT{CX:CXT}{P:Kf}{w:Ke}{K:bd}{mg:Str->Option Kd}{base:Kj}{k:Nat}{f c':Ki}{name qual:Str}{params:LL}{body:Kz}{scope:Kt}{cl:Oo (Str×Ki)}{pm ctv:Kd}{N ps:Oo Str}{sp:Sp}
  (S:n8 N ps scope cl)(inj:∀x y c,cl.lookup x=N8 c->cl.lookup y=N8 c->x=y)
  (len:∀vs H Q E,sp vs H Q E->⇑vs=⇑ps)
  (dA:∀(A:Kr)(g:Oo Env)(s:Ks)(H:Hp)(vs:Oo V)(Q:VK)(E:XK),bu k (A.deeper<|QA qual scope ↥s f (.ref c') cl)->sp vs H Q E ->
   (∃M,H f=N8 (.frz (ls name qual params body scope cl pm c' ctv) TTh)/\H c'=N8 (.frz M TTh)/\tM M qual)/\∃ws,fF H cl ws/\(∀x∈N.drop ⇑ps,∀v,ws.lookup x=N8 v->scope.names.lookup x=N8 .free) /\
   ((∀c∈cl.map (·.2),base.get? c=N9/\c ∉ frs g)->∃t:TE,PE (cxC CX P w K mg base N qual scope f (.ref c') cl A g s H E) body t/\t (lD N ps vs ws) (hideL H (cl.map (·.2))) λv H'=>(∀c∈cl.map (·.2),H' c=N9)->Q v (backL H H' (cl.map (·.2))))) :
  aH P w K mg base CX (k+1) f (W.kla_fn name qual params body scope cl pm (.ref c') ctv) ps sp:=by
 calc(len,λA g s H a9 us vs Q E hr l hb r R=>?_,);let hl:=len _ _ _ _ R;let((M,ef,ec,a0,t',a7,a6),ws,Y,wA,Fz):=dA A g s H vs Q E (hr.deeper _) R;let(t,ht,hq):=Fz λc D=>by
  let(o,e):=Y.fzs c D;refine⟨?_,λz=>by rw[l.frf c z]at e;cases e⟩;cases eb:base.get? c with
  |none=>rfl
  |some ob=>rw[(l.bs c ob eb).2]at e;cases e
 let a2:s.heap.NoLimit:=l.mod.nolimit.keeps λb o e=>(l.bs b o e).1
 let eo:s.heap.get? f=N8 (ls name qual params body scope cl pm c' ctv):=(l.hok f _ ef).1;let a8:s.heap.get? c'=N8 M:=(l.hok c' _ ec).1;let a3:⇑us=⇑ps:=by rw[←⇑r];exact hl
 let a1:ps.Nodup:=by rw[←S.pre];exact S.nd.sublist<|nL _ _
 let fz:=Y.fzs;let T:∀{x:Str}{c:Ki},cl.lookup x=N8 c->c∈cl.map (·.2):=λe=>n9 e
 calc W.kla_callFunE hr.depth eo U S.co S.gen U (c',M,a0,t',U,a8,a7,a6,)<|hb _ _ _ _ ?_;calc Mg S.nocell (λx n=>S.par x.1 (q0 n).1) (λB a5 a4=>?_) S.kind;let j:∀b o,s.heap.get? b=N8 o->B.get? b=N8 o:=λb o e=>a4.extBut b o (vl<|bi e)<|am _ e
 calc(a2.keeps j,W.kla_codeExpr ?_,);let G:∀{b:Ki},H b=N9->hideL H (cl.map (·.2)) b=none:=λh=>dQ h
 let I:Inv (cxC CX P w K mg base N qual scope f (.ref c') cl A g s H E) [] (lD N ps vs ws) (hideL H (cl.map (·.2))) { s with heap:=B,toks:=s.toks+⇑(ps.zip us) }:=by
  let F:∀b:Ki,b ∉ (cxC CX P w K mg base N qual scope f (.ref c') cl A g s H E).ex:=λb z=>Og (show b∈([]:Oo Ki)from z) (by simp)
  refine((l.mod,S.kind,U,U,vk _,λx y c L m=>inj x y c L m,λx n=>?_,λx c hf=>?_,λ_=>hr.hd,Kr.frames_deeper l.frames,.inr (U,U,),λb z=>Og z<|F b,λb o e=>((l.bs b o e).1,G (l.bs b o e).2,),l.bsz,λb _ _=>F b,λb z=>Og z<|F b,l.funs,λb hb=>G<|l.frf b hb,),
   rfl,l.bare,Un.kept j,(_,a5,λi x v L m h3=>?_,),λx c h=>?_,G<|l.hok.fresh<|vk _,λx c h=>iq<|T h,λp Z=>Og (show p∈([]:Oo (Ki×Obj))from Z) (by simp),(l.hok.hideL fz).kept j,?_,)
  .let n:scope.names.lookup x=N8 .cell\/scope.names.lookup x=N8 .free:=n;rcases n with n|n
   .exact Og U<|S.nocell _<|mem_of_lookup n
   .exact S.has _ (mem_of_lookup n) U
  .exact Og (show Ob=Oa from hf) bv
  .let L:N[i]?=N8 x:=L;unfold lD at m;by_cases hi:i<⇑vs
   .rw[fS (~~~hi),dr]at m;let ha:vs[i]?=N8 v:=by
     cases e:vs[i]? with
     |none=>rw[e]at m;cases m
     |some a=>rw[e]at m;cases m;rfl
    let(u,hu,C):=r.get ha;let Z:ps[i]?=N8 x:=by rw[←S.pre,KB ∅];exact L
    exact(u,C,.inl (S.par x<|JR Z,vJ a1 Z hu a3,),)
   .rw[jy (~~~hi),dr,aa]at m;cases e:(N.drop ⇑ps)[i-⇑vs]? with
    |none=>rw[e]at m;cases m
    |some y =>
     rw[e]at m;let m:N8 (ws.lookup y)=N8 (N8 v):=m;let m:=ci m;let hy:y=x:=by
      rw[List.getElem?_drop,show ⇑ps+(i-⇑vs)=i by lia,L]at e;exact(ci e).symm
     subst hy;let(c,o,u,e1,e2,e3,C):=Y.2 y v m;exact(u,C,.inr (.inr<|wA y (JR e) v m,c,e1,o,j _ _ (l.hok c _ e2).1,e3,),)
  .let(o,v,e,d):=Y.1 c<|T h;exact(v,o,j _ _ (l.hok c _ e).1,d,)
  .unfold lD;show _=N.length;let b0:⇑ps<=N.length:=by have:=Ol NE S.pre;rw[fI]at this;lia
   rw[cn,aa,aa,ny];lia
 refine KH (ht [] _ (lD N ps vs ws) _ _ I hq) (λu X hs=>?_) λe X hs=>hs
 let fin:∀{O:St}{H':Hp}{v:V}{u:Kd},Inv (cxC CX P w K mg base N qual scope f (.ref c') cl A g s H E) [] O H' X->RelV v u->((∀c∈cl.map (·.2),H' c=N9)->Q v (backL H H' (cl.map (·.2))))->CE g P w H s Q u X:=λ{O H' v u} J C q=>by
  let un:Un (frs g) [] (hideL H (cl.map (·.2))) H' s.heap X.heap:=J.base;let nc:∀c∈cl.map (·.2),H' c=none:=λc D=>by
   let((x,d),hm,rfl):=br.mp D;let(o,e):=fz d D;exact un.free d o (l.hok d _ e).1 (iq D) (by simp)
  calc(v,backL H H' (cl.map (·.2)),J.os,J.bare,un.backL fz,J.hok.backL fz nc λc D o e=>?_,C,q nc,);refine un.keep c o (l.hok c _ e).1 (iq D) (λz=>?_) (by simp);rw[l.frf c z]at e;cases e
 let(v,H',J,C,q):=hs;calc fin J C q
def  CN(st:KG)(k:Nat):Kz:=match st with
 | .Assign _ (.Call _ as _ _) _=>as.getD k<|.Name "" (0,0,0,0,)
 | .Return (N8<|.Call _ as _ _) _=>as.getD k<|.Name "" (0,0,0,0,)
 |_=>.Name "" (0,0,0,0,)
def  om(e:Kz):LL:=match e with
 | .Lambda a _ _ _=>a
 |_=>dD<|.Pass (0,0,0,0,)
def  mD(e:Kz):Kz:=match e with
 | .Lambda _ b _ _=>b
 |e=>e
def  iw(e:Kz):Kt:=match e with
 | .Lambda _ _ s _=>s
 |_=>ao<|.Pass (0,0,0,0,)
def  oo(e:Kz):Pos:=match e with
 | .Lambda _ _ _ p=>p
 |_=>(0,0,0,0,)
section
variable{mg:Str->Option Kd}
def vO{qual:Str}{ps:Oo Str}{e:Kz}{f c':Ki}{cl:Oo (Str×Ki)}{pm ctv:Kd}{N:Oo Str}{k:Nat}{sp:Sp}(S:n8 N ps (iw e) cl)(inj:∀x y c,cl.lookup x=N8 c->cl.lookup y=N8 c->x=y)
  (m:∀us:Oo Kd,⇑us=⇑ps->LC (W.kla_fn "<lambda>" qual (om e) (mD e) (iw e) cl pm (.ref c') ctv) (us,[],)=pure (ps.zip us))
  (len:∀vs H Q E,sp vs H Q E->⇑vs=⇑ps)
  (z:∀(A:Kr)(d:Oo Env)(s:Ks)(H:Hp)(vs:Oo V)(Q:VK)(E:XK),bu k (A.deeper<|QA qual (iw e) ↥s f (.ref c') cl)->sp vs H Q E ->
   ∃ws,gL H f c' (ls "<lambda>" qual (om e) (mD e) (iw e) cl pm c' ctv) qual cl ws/\(∀y∈N.drop ⇑ps,∀v,ws.lookup y=N8 v->(iw e).names.lookup y=N8 .free) /\
   ((∀c∈cl.map (·.2),base.get? c=N9/\c ∉ frs d)->∃t:TE,PE (cxC CX0 P w K mg base N qual (iw e) f (.ref c') cl A d s H E).nox (mD e) t/\t (lD N ps vs ws) (hideL H (cl.map (·.2))) λv H'=>(∀c∈cl.map (·.2),H' c=N9)->Q v (backL H H' (cl.map (·.2))))) :
  HFn P w K mg base (k+1) f sp:=by
 refine(_,ps,DT (name := "<lambda>") (qual:=qual) (c':=c') (params:=om e) (body:=mD e) (pm:=pm) (ctv:=ctv) S inj len λA d s H vs Q E i g=>?_,.all λus j=>?_,)
 .let(ws,(u,(h,r,q),p),o,n):=z A d s H vs Q E i g;calc((h,u,r,q,),ws,p,o,λl=>?_,);let(t,a,b):=n l;exact(t,a.nox,b,)
 .exact m us j
end
inductive TFn(K:bd)(x:Str)(st:KG):Prop
 |mk {f c t:Ki}{fd:LA}(a:li K Ko x=N8 ↑f)(F:Fun K x x st f fd)(hc:fd.code=.ref c)(ht:lc K x=N8 (c,t))
def tfn_mk{K:bd}{x:Str}{st:KG}{f c t:Ki}{g kV doc pm n:Kd}{d p:Option Ki}{b:Array (Option Kd)}{j:Kd}{i:Option Ki}{vs:Array Kd}{h:Array (Option Kd)}(a:li K Ko x=N8 ↑f)
  (l:K.lookup f=N8 (g,d,.func<|Pj x x (dD st) (bE st) (ao st) .none kV doc pm p (.ref c) n,b,))(o:PZ K (.ref c) x=Oa)(m:FS K (.ref f)=Oa)(k:K.lookup c=N8 (j,i,.fields vs,h,))(e:vs[11]?=↑t):TFn K x st :=
 (a,fun_mk l o m,U,tab_mk a l k e,)
def mkT{P:Kf}{w:Ke}{K:bd}{mg:Str->Option Kd}{base:Kj}{k:Nat}{x:Str}{ps:Oo Str}{sp:Sp}{st:KG}(Z:Zb P w K mg base)(h:TFn K x st)(i:∀q∈(lc K x).toList,ON base q.1 q.2/\base.BuiltinsAt mg q.2)
  (O:∀{f c t:Ki}{d:LA},Fun K x x st f d->d.code=.ref c->lc K x=N8 (c,t)->ON base c t/\base.BuiltinsAt mg t->aH P w K mg base CX0 k f d ps sp)
  (b:∀{f:Ki}{d:LA},Fun K x x st f d->Binds K d ps []:=by trivial):Callee P w K mg base k x ps sp:=by
 cases h with|mk a F j e=>calc(_,_,O F j e<|i _ (by rw[e];exact cf),b F,F.kp,Z.g a,)
def rH{K:bd}{x:Str}{t:Ki×Ki}(h:t∈(lc K x).toList):lc K x=N8 t:=by
 cases e:lc K x with
 |none=>rw[e]at h;cases h
 |some z=>rw[e]at h;rw[fo.mp h]
def  tZE(zs:Oo (Str×Nat×Ki))(sp:Sp)(E:XK)(t:TA):TE:=λσ H Q=>t σ H λd c=>∀a:Oo Obj,⇑a=⇑zs->(∀z∈zs,c z.2.2=N9) ->
 (∀(j:Nat)(z:Str×Nat×Ki),zs[j]?=N8 z->∃o w,a[j]?=N8 o/\o.data=.cell w/\∀v,σ[z.2.1]?=N8 (N8 v)->∃u,w=N8 u/\RelV v u) ->
 sp d (fY c ((zs.map (·.2.2)).zip a)) (λv b=>Q v (hideL b (zs.map (·.2.2)))) λe m b=>E e m (hideL b (zs.map (·.2.2)))
variable{f:Ki}
section
variable{mg:Str->Option Kd}{qual:Str}{cd:Kd}{outer:Oo Env}{s0:Ks}{H0:Hp}{E:XK}
def Fun.okTE{x qual:Str}{st:KG}{f c:Ki}{b:LA}{N ps:Oo Str}{k:Nat}{sp:Sp}(F:Fun K x qual st f b)(a:b.code=.ref c)(S:ar N ps (ao st))(len:∀vs H Q E,sp vs H Q E->⇑vs=⇑ps)
  (l:∀(A:Kr)(outer:Oo Env)(s:Ks)(H:Hp)(vs:Oo V)(Q:VK)(E:XK),bu k (A.deeper<|envOfC qual (ao st) ↥s f<|.ref c)->sp vs H Q E ->
   ∃t,PSs (cxE P w K mg base N qual (ao st) f (.ref c) A outer s H E) (bE st) t/\t { nx:=λ_ H'=>Q .non H',rt:=Q } (start N vs) H):aH P w K mg base (CX1 P w) (k+1) f b ps sp:=by
 let(r,p,kV,n,o,v,g,u,m,rfl,i,e):=F.ex;let a:g=.ref c:=a;subst a;refine sF i e S len λA outer s H vs Q E j d=>?_
 let(t,h,q):=l A outer s H vs Q E j d;calc(t,h.leaves,q,)
def lE.passE{Od:Oo (Ki×Obj)}{σ:St}{H:Hp}{s s':Ks}{g:Kd}{fz:Oo (Ki×Obj)}(z:lE (cxE P w K mg base N qual scope f cd A outer s0 H0 E) s fz)(I:Inv (cxE P w K mg base N qual scope f cd A outer s0 H0 E) Od σ H s)
  (h:CX1 P w (cxE P w K mg base N qual scope f cd A outer s0 H0 E).stack (fY H fz) s (λp m t=>E p m (hideL t (fz.map (·.1)))) g s'):(cxE P w K mg base N qual scope f cd A outer s0 H0 E).xe g s':=by
 let(e,T,C,r,H',rfl,i,d,un,hok,x,j,k,l,o,q):=h;let J:=(z.inv I i d un hok).unwish;let a:=(I.unwish).newAt U j;let c:=(I.unwish).newAt U k;calc(e,C,r,[T],Od,σ,_,U,J,.fly x,λb n=>?_,q,);rcases af.mp n with z|z
 .rw[z];exact(a.ent,dQ l,a.loc,a.cel,a.pin,)
 .rw[show b=T by simpa using z];calc(c.ent,dQ o,c.loc,c.cel,c.pin,)
def BG{k:Nat}{x:Str}{ps:Oo Str}{sp:Sp}{e:Kz}{es:Oo Kz}{t:TA}{p pos:Pos}{zs:Oo (Str×Nat×Ki)}(C:b9 P w K mg base k x ps sp)(S:bu k (cxE P w K mg base N qual scope f cd A outer s0 H0 E).A)(V:Gl (cxE P w K mg base N qual scope f cd A outer s0 H0 E) x)(X:PA (cxE P w K mg base N qual scope f cd A outer s0 H0 E) (e :: es) t)
  (hz:∀z∈zs,N[z.2.1]?=N8 z.1/\((cxE P w K mg base N qual scope f cd A outer s0 H0 E).env.scope.names.lookup z.1=N8 .cell\/(cxE P w K mg base N qual scope f cd A outer s0 H0 E).env.scope.names.lookup z.1=N8 .free)/\(cxE P w K mg base N qual scope f cd A outer s0 H0 E).env.cells.lookup z.1=N8 z.2.2/\((cxE P w K mg base N qual scope f cd A outer s0 H0 E).fn z.1=Oa\/(base.get? z.2.2=N9/\z.2.2 ∉ (cxE P w K mg base N qual scope f cd A outer s0 H0 E).fs)))
  (v:(x == ("__debug__" : Str))=false:=by decide) (he:KD (e :: es) (cxE P w K mg base N qual scope f cd A outer s0 H0 E).env=(Ob,eval e (cxE P w K mg base N qual scope f cd A outer s0 H0 E).env) :: KD es (cxE P w K mg base N qual scope f cd A outer s0 H0 E).env:=by rfl)(l:(KC pos<|KD es (cxE P w K mg base N qual scope f cd A outer s0 H0 E).env).any (·.1)=false:=by rfl) :
  PE (cxE P w K mg base N qual scope f cd A outer s0 H0 E) (.Call (.Name x p) (e :: es) [] pos) (tZE zs sp E t):=by
 let(f',fd,F,b,R,m):=C;intro Od s σ H Q I h;calc Kc<|cZ I V m ?_ v;calc AT (h₀:=base) I.ok.mod.kin R (thn (X pos Od s σ H _ I h) λg i (L,H1,a,r,q,)=>(a.kIn,?_,)) he l;let(B,J,G):=lF a zs hz;let y:((zs.map (·.2.2)).zip B).map (·.1)=zs.map (·.2.2):=pC (by rw[aa];lia);let d:=Af a hz J G;let D:=q B J (λz T=>a.freeC z.1 _ (hz z T).2.2.1) λj z Z=>let ⟨o,w,a1,_,a3,a4⟩:=G j z Z;(o,w,a1,a3,a4,)
 let n:⇑g=⇑ps:=by rw[←⇑r];exact F.len _ _ _ _ D
 refine LD (LF (F.run (cxE P w K mg base N qual scope f cd A outer s0 H0 E).A (cxE P w K mg base N qual scope f cd A outer s0 H0 E).stack i _ (g,[],) g L _ _ S (d.env0 a) (by have:=b i g a.kIn (by rw[iI];exact n);rw[iI]at this;exact this) r D) λO M c=>?_);cases O with
 |error ev =>
  calc d.passE a ?_;rw[y];exact c
 |ok Y =>
  cases Y with
  |ret u =>
   let c:CE (cxE P w K mg base N qual scope f cd A outer s0 H0 E).stack P w _ i _ u M:=c;calc d.after a ?_;rw[y];exact c
  |next=>exact io c
  |brk=>exact io c
  |cont=>calc io c
end
def FA{P:Kf}{w:Ke}{K:bd}{mg:Str->Option Kd}{base:Kj}{k:Nat}{x:Str}{ps:Oo Str}{sp:Sp}{st:KG}(Z:Zb P w K mg base)(h:TFn K x st)(i:∀q∈(lc K x).toList,ON base q.1 q.2/\base.BuiltinsAt mg q.2)
  (O:∀{f c t:Ki}{d:LA},Fun K x x st f d->d.code=.ref c->lc K x=N8 (c,t)->ON base c t/\base.BuiltinsAt mg t->aH P w K mg base (CX1 P w) k f d ps sp)
  (b:∀{f:Ki}{d:LA},Fun K x x st f d->Binds K d ps []:=by trivial):b9 P w K mg base k x ps sp:=by
 cases h with|mk a F j e=>calc(_,_,O F j e<|i _ (by rw[e];exact cf),b F,F.kp,Z.g a,)
def  G3(st:KG):Kz:=match st with
 | .Assign _ e _=>e
 | .Return (N8 e) _=>e
 |_=>.Name "" (0,0,0,0,)
structure oq(K:bd)(x qual:Str)(st:KG)(f:Ki)(fd:LA):Prop where
 ex:∃(oc:Kd)(od:Option Ki)(d:Ki)(o:Obj)(n:Nat)(kV doc pm:Kd)(an:Option Ki)(cdv ct:Kd)(osl:Array (Option Kd)),
  fd=Pj x qual (dD st) (bE st) (ao st) (.ref d) kV doc pm an cdv ct/\K.lookup f=N8 (oc,od,.func fd,osl,)/\PZ K cdv qual=Oa/\K.lookup d=N8 o/\o.data=.seq #[.none] n
 kp:FS K (.ref f)=Oa
variable{j:Nat}{fd:LA}{q:Str}
section
variable{mg:Str->Option Kd}
def funV_mk{i:Kd}{h g:Option Ki}{b:Array (Option Kd)}{kV doc pm a e:Kd}{d:Ki}{o:Obj}{n:Nat}(l:K.lookup f=N8 (i,h,.func<|Pj x q (dD st) (bE st) (ao st) (.ref d) kV doc pm g a e,b,))
  (c:PZ K a q=Oa)(k:FS K (.ref f)=Oa)(hd:K.lookup d=N8 o)(j:o.data=.seq #[.none] n):oq K x q st f (Pj x q (dD st) (bE st) (ao st) (.ref d) kV doc pm g a e):=((i,h,d,o,n,kV,doc,pm,g,a,e,b,U,l,c,hd,j,),k,)
def oq.bindsD{ds:Oo Kd}(F:oq K x q st f fd)
  (h:∀(d:Ki)(kV doc pm:Kd)(c:Option Ki)(a b:Kd)(us:Oo Kd),⇑(us++ds)=⇑ps->∃k,LC (Pj x q (dD st) (bE st) (ao st) (.ref d) kV doc pm c a b) (us,[],)=NO (.ref d) >>= k/\k (N8 #[.none])=pure (ps.zip<|us++ds)):Binds K fd ps ds:=by
 let(r,p,d,o,n,kV,doc,pm,c,a,b,l,rfl,t,m,hd,e):=F.ex;intro s us X g;let(k,j,i):=h d kV doc pm c a b us g;calc LB.of_defaults U (X d o hd) e j i
inductive GV(K:bd)(x q:Str)(st:KG):Prop
 |mk {f:Ki}{fd:LA}(a:li K Ko x=N8 ↑f)(F:oq K q q st f fd)
end
section
variable{mg:Str->Option Kd}
end
section
variable{mg:Str->Option Kd}
def oq.okEA(F:oq K x q st f fd)(S:ar N ps (ao st))(j:∀(b:Kd)(A:Kr)(a:Oo Env)(s:Ks)(H:Hp)(vs:Oo V)(Q:VK)(E:XK),bu k (A.deeper<|envOfC q (ao st) ↥s f b)->sp vs H Q E->∃t,PSs (cxE P w K mg base N q (ao st) f b A a s H E) (bE st) t/\t { nx:=λ_ H'=>Q .non H',rt:=Q } (start N vs) H)(len:∀vs H Q E,sp vs H Q E->⇑vs=⇑ps:=by intro vs H Q E h;cases h;subst_vars;rfl):aH P w K mg base (CX1 P w) (k+1) f fd ps sp:=by
 let(u,r,d,o,n,kV,m,p,y,b,v,l,rfl,g,e,_,_):=F.ex;refine sF g e S len λA a s H vs Q E i c=>?_
 let(t,h,q):=j b A a s H vs Q E i c;calc(t,h.leaves,q,)
def  cw(P:Kf)(w:Ke)(K:bd)(mg:Str->Option Kd)(base:Kj)(k:Nat)(x:Str)(ps:Oo Str)(sp:Sp):Prop :=
 ∃f fd,aH P w K mg base (CX1 P w) k f fd ps sp/\Binds K fd ps []/\Binds K fd ps [.none]/\FS K (.ref f)=Oa/\mg x=↑f
def FC{y z:Str}(Z:Zb P w K mg base)(h:GV K x q st)(O:∀{f:Ki}{fd:LA},oq K q q st f fd->aH P w K mg base (CX1 P w) k f fd [y,z] sp)(b:∀{f:Ki}{fd:LA},oq K q q st f fd->Binds K fd [y,z] [])(c:∀{f:Ki}{fd:LA},oq K q q st f fd->Binds K fd [y,z] [.none]):cw P w K mg base k x [y,z] sp:=by
 cases h with|mk a F=>calc(_,_,O F,b F,c F,F.kp,Z.g a,)
def cw.full(C:cw P w K mg base k x ps sp):b9 P w K mg base k x ps sp:=by let(f,fd,a,b,_,c,d):=C;calc(f,fd,a,b,c,d,)
def cw.up(C:cw P w K mg base j x ps sp)(h:j<=k:=by decide):cw P w K mg base k x ps sp:=by let(f,fd,a,b,e,c,d):=C;calc(f,fd,a.mono h,b,e,c,d,)
end
section
variable{E:XK}
def  FD(sp:Sp)(E:XK)(t:TA):TE:=λσ H Q=>t σ H λa b=>sp (a++[.non]) b Q E
def w6(C:cw X.prog X.w X.K X.mg X.base k x ps sp)(i:Passes (CX1 X.prog X.w) X E)(j:bu k X.A)(m:Gl X x)(n:PA X (e :: es) t)(c:(x == ("__debug__" : Str))=false:=by decide) (he:KD (e :: es) X.env=(Ob,eval e X.env) :: KD es X.env:=by rfl)(a:(KC pos<|KD es X.env).any (·.1)=false:=by rfl) :
  PE X (.Call (.Name x p) (e :: es) [] pos) (FD sp E t):=by
 let(f,fd,F,_,b,g,l):=C;intro Od s σ H Q I h;calc Kc<|cZ I m l ?_ c;calc AT (h₀:=X.base) I.ok.mod.kin g (thn (n pos Od s σ H _ I h) λu v (o,y,d,r,q,)=>(d.kIn,q9 (dvs:=[.non]) (ds:=[.none]) F j b (.cons U .nil) i d r q,)) he a
def  FE(sp:Sp)(t:TA):TX:=λσ H Q e=>t σ H λa d=>sp (a++[.non]) d Q λb _ c=>∃C,b=.ref C/\e C c
def xa(C:cw X.prog X.w X.K X.mg X.base k x ps sp)(B:bu k X.A)(y:X.ex=[])(G:Gl X x)(L:PA X.nox (e :: es) t)(i:(x == ("__debug__" : Str))=false:=by decide)
  (he:KD (e :: es) X.env=(Ob,eval e X.env) :: KD es X.env:=by rfl)(g:(KC pos<|KD es X.env).any (·.1)=false:=by rfl):PEX X (.Call (.Name x p) (e :: es) [] pos) (FE sp t):=by
 let(f,fd,F,_,b,v,m):=C;intro Od s σ H Q S I h;calc Kc<|cZ I G m ?_ i;calc AT (h₀:=X.base) I.ok.mod.kin v (KH (L pos Od s σ H _ (I.wish _) h) (λa d (j,o,n,r,q,)=>(n.kIn,?_,)) λ_ _ z=>io z) he g;let J:Inv X Od σ o d:=n.unwish;let l:Vals (j++[.non]) (a++[.none]):=r.append<|.cons U .nil;let D:⇑(a++[lv])=⇑ps:=by rw[←⇑l];exact F.len _ _ _ _ q
 let P:LB d fd ⟨a,[]⟩ (ps.zip<|a++[.none]):=b d a J.kIn D;calc LD<|LF (F.run X.A X.stack d o (a,[],) (a++[.none]) (j++[.non]) Q _ B J.env0 P l q) λr T c=>?_;cases r with
 |error V=>exact J.afterX (E:=λO _ R=>∃C,O=.ref C/\S C R) y (λC m H' z=>by let(Y,N,z):=z;cases N;exact z) c
 |ok M =>
  cases M with
  |ret u=>exact J.after c
  |next=>exact io c
  |brk=>exact io c
  |cont=>calc io c
end
section
open PyProof.Rows PySem.W
def walk_ofTC{l:W.OpenLaw}{n k:Nat}{q:Kf}{i:Oo Str}{XP:(Str->Option Kd)->Kj->Prop}{S:Ke->Kj->Prop}{d:DefRec}{K:L9->bd}{CX:Ke->CXT}{sp:Ke->Sp}{x:Str}{tabs:L9->Oo (Ki×Ki)}{xs:Oo Str}
  (hn:l.most=N8 n)(L:n<=Kk)(N:d.params.defaults=[])(hr:bu k NM)
  (hY:∀(w:Ke)(h:Kj),S w h->(K w.params).In h)(J:∀p:L9,noTabs (K p)=Oa)
  (D:∀y∈xs,∃d',(recsOf q).find? (λe=>e.name == y)=N8 d')(tR:∀p:L9,∀t∈tabs p,∃y∈xs,tabIn (K p) y=N8 t)
  (F:∀(w:Ke)(mg:Str->Option Kd)(B:Ki)(h:Kj),(K w.params).In h->h.Ns Ko mg->mg d.name=↑B ->
   ∃fd:LA,(∀(s:Ks)(u:Kd),LB s fd ([u],[],) [(x,u)]) /\
    ∀base:Kj,(K w.params).In base->base.Ns Ko mg->(∀q∈tabs w.params,CodeHd base q.1 q.2/\base.BuiltinsAt mg q.2)->aH l.prog w (K w.params) mg base (CX w) k B fd [x] (sp w))
  (I:∀(w:Ke)(H:Hp)(a:Ki)(z:Oo Int),⇑z<=n->(∀m∈z,wp m<=2^20)->Ag (tabs w.params) H->SqL (K w.params) H a (z.map ut)->(∀q∈tabs w.params,H q.2=N8 (.tbl #[]))->sp w [.ref a] H (λv _=>v=.bl Oa) λ_ _ _=>False)
  (Q:∀(w:Ke)(H:Hp)(s:Ks)(e:Kd)(s':Ks),CX w [] H s (λ_ _ _=>False) e s'->False) :
  W.WalkO q i XP S l.row.toRowW d [] (λf vs=>PySem.call f vs):=by
 intro w Z A mg mb G Y B o pm cd a4 dV kV ho hd a3 R M hg a0 X as vf G4 a1 E a2;obtain rfl:dV=.none:=Dflts.none R N;obtain rfl:kV=.none:=Dflts.noKw R;let(a,vs,z,rfl,rfl,G5,j,c):=Att.script_of hn vf E;let C:=hY w _ Y;let(fd,hb,hF):=F w mg B _ C G.T.g M;refine enter_call<|LF (yn C G.T.g G.T.b G.T.builtins G.T.nolimit hg G5 j (vr c L) hr (tabs:=tabs w.params) (λt ht=>?_) (J w.params) G.T.bmain hF hb (λH hO hS P=>I w H a z c (sM G4) hO hS P) λH e s'=>Q w H A e s') λr s' hq=>?_
 .let(y,hy,e):=tR w.params t ht;let(d',O):=D y hy;exact tab_of G.T C O e
 let(rfl,h2,h3,h4):=hq;calc(.inl ⟨.bool Oa,.bool Oa,[],U,λ_=>U,.bool Oa,Att.post_true l _,λ_=>⟨Pe,λ_ hm=>(nomatch hm)⟩⟩,h2,h3,h4,)
end
section
variable(P:Kf)(w:Ke)
end
variable{a:Ki}
section
variable{o:HO}
end
section
variable{x e:Ki}{o':HO}
end
section
variable{fs fs' ex ex':Oo Ki}{H1 H2:Hp}{h1 h2:Kj}{x e:Ki}{o:HO}
end
section
variable{σ:Oo (Option V)}
end
variable{ta tb:TE}
section
variable{a b:Kz}
variable{tA tB':TT}{rest:Oo Kz}
end
section
variable{xs ys:Oo V}
end
section
variable{rest:Oo KG}{t u:TS}
end
section
variable{a b c:Kz}{tc:TE}
end
section
variable{a b c:Kz}{tc:TE}
end
variable{dx C:Ki}
section
variable{x:Ki}{mA:Str->Option Kd}{name:Str}{v:Kd}
end
section
variable{fs fs':Oo (Str×V)}
end
section
variable{fs:Oo (Str×V)}{f:Str}{v:V}
end
variable{o:Kz}
section
variable{value:Kz}{f:Str}{pos' EW:Pos}{tv:TE}
end
section
variable{Q:Kd->Ks->Prop}{c:Kd}{b:Bool}
end
section
variable{s':Ks}
end
variable{apos:Pos}
section
variable{CX:CXT}{dvs:Oo V}{ds:Oo Kd}{E:XK}{m:Str}
end
section
variable{CX:CXT}{ks:Oo Str}{E:XK}{m:Str}{GC:Pos}{kws:Oo LG}{tk:TA}{nm:Option Str}
variable{g:Oo Kd->Oo Kd->Oo Kd}{gV:Oo V->Oo V->Oo V}
end
section
variable{id T:String}{r:Oo V->Hp->VK->Prop}
end
section
variable{κ:Type} [DecidableEq κ]
end
def CO{u:HO}(ok:HOk P w H h)(e:Rd H a u):bO P w H h a u:=e.ok ok
variable{y:V}{u:Kd}
section
variable{v:V}{r:Kd}{o:Option V}
def Inv.big(I:Inv X Od σ H s):Kl<↥s:=by
 let h:Ko<↥s:=(I.mod.glob.keeps I.bk).lt;calc CD ⋯ h
def BH{h':Kj}{t':Nat}{c:HO}(I:Inv X Od σ H s)(mu:Mut (H a))(d:rc a s.heap h')(f:∃q,h'.get? a=N8 q)(new:bO X.prog X.w (upd H a c) h' a c) :
  Inv X Od σ (upd H a c) { s with heap:=h',toks:=t' } :=
 I.write (x:=a) (e:=a) mu (.inl U) (λb q g z=>(d.2 b g).trans z) f new
end
section
variable{kvs:Oo (Key×V)}{k:Key}
end
section
variable{i value:Kz}{pos' EW:Pos}{td ty tv:TE}
end
structure M1(X:Cx)(o:Kz)(m:Str)(apos:Pos)(e:Kz)(dB:Pos):Prop where
 base:Lv o m X.env (eval o X.env)=eval o X.env
 few:((KC dB<|KD [e] X.env).all (λx=>!x.1) && (L6 dB<|L7 [] X.env).all (λx=>x.1.isSome)
  && decide (⇑([e]:Oo Kz)+⇑([]:Oo LG)+(if ([]:Oo LG).isEmpty then 0 else 1)<30))=Oa
 line:(apos.endLine == dB.line)=Oa
 trees:KC dB (KD [e] X.env)=[(Ob,eval e X.env)]
structure M2(X:Cx)(o:Kz)(m:Str)(apos:Pos)(e f:Kz)(dB:Pos):Prop where
 base:Lv o m X.env (eval o X.env)=eval o X.env
 few:((KC dB<|KD [e,f] X.env).all (λx=>!x.1) && (L6 dB<|L7 [] X.env).all (λx=>x.1.isSome)
  && decide (⇑([e,f]:Oo Kz)+⇑([]:Oo LG)+(if ([]:Oo LG).isEmpty then 0 else 1)<30))=Oa
 line:(apos.endLine == dB.line)=Oa
 trees:KC dB (KD [e,f] X.env)=[(Ob,eval e X.env),(Ob,eval f X.env)]
section
variable{d:V}{r:Kd}{o:Option V}
end
section
variable{f:Kz}{dB:Pos}{td ty tx:TE}
end
section
variable{kvs:Oo (Key×V)}
end
end _L
namespace Att
open PySem PySem.W PySem.Calls PyProof.Rows
section
variable{prog:Kf}{w:Ke}{A:Kr}{E:Kd->Ks->Prop}{s:Ks}{K:Frag}
end
end Att
namespace _L
open PySem PySem.Spec PyProof.Rows
variable{P:Kf}{w:Ke}
section
variable{K:bd}{mg:Str->Option Kd}{base:Kj}
end
variable{X:Cx}
section
variable{κ:Type} [DecidableEq κ]
end
variable{H:Hp}{s:Ks}
section
variable{Od:Oo (Ki×Obj)}{σ:St}
end
def je:M3 table "dict_itemiterator.__iter__" = N8 Le.«dict_keyiterator.__iter__» :=
 M5 (id' := "dict_keyiterator.__iter__") (by kernel_rfl) (by first|rfl|decide+kernel|(unfold String.splitOn;simp +decide [String.splitOnAux])) (~~~0) (by kernel_rfl)
def fZ{α b:Type}{R:α->b->Prop}:∀{xs:Oo α}{c:Oo b}{i:Nat}{x:α},Paired R xs c->xs[i]?=N8 x->∃a,c[i]?=N8 a/\R x a
 |_,_,0,x,.cons h tl,e=>(_,U,by simp at e;rw[←e];exact h,)
 |_,_,i+1,x,.cons h tl,e=>by
  let(a,q):=fZ (i:=i) (x:=x) tl<|~~~e;calc(a,~~~q.1,q.2,)
def  CP(it d:Ki)(n b:Nat)(i:Nat)(h:Kj):Prop:=∃ok a,NP h it d i n b ok a
variable{k:Nat}
section
variable{gt:TG}{fr:Oo Nat}{tt:TT}{te:TE}
end
section
variable{P:Kf}{w:Ke}{K:Type} [DecidableEq K] (knd:KeyKind P w K)
inductive bU(h:Kj):Oo (Oo K)->Oo Kd->Prop
 |nil:bU h [] []
 |cons {k:Oo K}{b:Ki}{ks:Oo (Oo K)}{vs:Oo Kd}:NQ knd h k b->bU h ks vs->bU h (k :: ks) (.ref b :: vs)
def  bX(h:Kj)(ks:Oo (Oo K))(a:Ki):Prop:=∃o b n,h.get? a=N8 o/\o.cls=.type "tuple" /\ o.data=.seq b n/\bU knd h ks b.toList
def  rJ(ks:Oo (Oo K)):Nat:=(ks.map λk=>⇑k+1).sum+1
def  Am(ks:Oo (Oo K)):Int:=reduceHash<|wS<|ks.map<|NR knd
variable{knd}
def bU.inj{h:Kj}{x y:Oo (Oo K)}{vs:Oo Kd}(e:bU knd h x vs)(c:bU knd h y vs):x=y:=by
 induction e generalizing y with
 |nil=>cases c;rfl
 |cons a _ d=>cases c with|cons b t=>rw[a.inj b,d t]
def bU.mono{h h':Kj}{x:Oo (Oo K)}{vs:Oo Kd}(m:∀k b,NQ knd h k b->NQ knd h' k b)(d:bU knd h x vs):bU knd h' x vs:=by
 induction d with
 |nil=>exact .nil
 |cons a _ c=>calc .cons (m _ _ a) c
def bX.ty{s:Ks}{ks:Oo (Oo K)}{a:Ki}(x:bX knd s.heap ks a):s.TypeIs (.ref a) "tuple" := by let(o,_,_,b,c,_):=x;calc(o,b,c,)
def bX.inj{h:Kj}{a:Ki}{x y:Oo (Oo K)}(g:bX knd h x a)(f:bX knd h y a):x=y:=by
 let(o,p,n1,j,_,k,d):=g;let(l,n,m,i,_,b,c):=f;cases j.symm.trans i;rw[k]at b;injection b with e _;subst e;calc d.inj c
def bX.keeps{h h':Kj}{ks:Oo (Oo K)}{a d:Ki}{o:Obj} {es ep} (x:bX knd h ks a)(i:h.get? d=N8 o)(hd:o.data=.dict es ep)(f:rc d h h'):bX knd h' ks a:=by
 let(j,b,n,g,c,q,r):=x;let k:a≠d:=λe=>by subst e;cases g.symm.trans i;rw[hd]at q;cases q
 calc(j,b,n,(f.2 a k).trans g,c,q,r.mono λ_ _ t=>t.keeps i hd f,)
variable{A:Kr}{E:Kd->Ks->Prop}
def tS{ks:Oo (Oo K)}{a:Ki}{Q:Int->Ks->Prop}(m:A.units+1<Ly)(l:bX knd s.heap ks a)(h:Q (Am knd ks) { s with toks:=s.toks+rJ ks }):Kw (model P w) A (Kg<|.ref a) Q E s:=by
 let f:=l.ty;let(o,q,n,p,_,hd,hi):=l;unfold Kg;first|unfold pyHashByItsType|skip
 first|refine JZ (wpAny_cRoomFor_or (.inr ∅) ?_)|skip
 calc JZ<|Nr f O3.lookup ?_;show Kw _ _ (if (N8 (Kd.builtin "tuple.__hash__") == N8 lv)=Oa then _ else _) Q E s;rw[Oe (by rw[beq_builtin_none];exact bv)];calc JZ<|Nr f O3.lookup ?_;show Kw _ _ (callSpecialIfBoundUnlessNone? (.ref a) "__hash__" _ >>= _) Q E s;calc JZ<|wpAny_callSpecialIfBoundUnlessNone?_slot f O3<|LU O3 f F.entry_tuple_hash ?_<|F.args_tuple_hash_1 _;show Kw _ _ (Qm (.ref a) >>= _) _ _ s;calc JZ<|NS p hd ?_;calc JZ ?_;rw[←Hf];refine NU _ (λrest (b:Array Int) g=>∃c left,ks=c++left/\bU knd s.heap left rest/\b.toList=c.map (NR knd)/\g={ s with toks:=s.toks+(c.map λk=>⇑k+1).sum }) _ ?_ ?_ _ _ ([],ks,U,hi,U,U,)
 .rintro x rest b g ⟨c,left,rfl,i,d,rfl⟩;cases i with
  | @cons k bb ks' _ h1 hl' =>
   calc JZ<|wpAny_pyHash_tuple (A:=A.in1) m h1 ?_;let e:({ s with toks:=s.toks+(c.map λk=>⇑k+1).sum+(⇑k+1) }:Ks)={ s with toks:=s.toks+((c++[k]).map λk=>⇑k+1).sum }:=by simp[yU]
   first
    |exact Ka (c++[k],ks',by simp,hl',by simp[d],e,)
    |exact JZ (Ka<|Ka (c++[k],ks',by simp,hl',by simp[d],e,))
 .rintro b g ⟨c,left,rfl,i,d,rfl⟩;cases i;rw[iI]at h;show Kw _ _ (retInt<|wS b.toList) _ _ _;rw[d];calc NV ?_;show Kw _ _ (if (Oc (-(2:Int)^63<=wS (c.map<|NR knd)) && decide (wS (c.map<|NR knd)<2^63))=Oa then _ else _) Q E _;unfold Am reduceHash rJ at h;by_cases j:(Oc (-(2:Int)^63<=wS (c.map<|NR knd)) && decide (wS (c.map<|NR knd)<2^63))=Oa
  .rw[Of j]at h⊢;exact Ka (by simpa[yU]using h)
  .rw[Oe j]at h⊢;calc JZ<|MD<|Ka (by simpa[yU]using h)
def rK{x y:Oo (Oo K)}{a b:Ki}{p:Fin->Ks->Prop}(L:A.units<Ly)(J:bX knd s.heap x a)(F:bX knd s.heap y b)(h:p (.done<|.ret<|.bool<|Oc<|x=y) s) :
  Kw (model P w) A (Le.«tuple.__eq__» ([.ref a,.ref b],[],)) p E s:=by
 let D:=F.ty;let(X,l,Y,O,_,R,I):=J;let(W,j,nb,N,_,Q,H):=F;show Kw _ _ (ND (.ref b) (.type "tuple") >>= _) _ _ s;calc JZ<|Ni D NW ?_;simp only[OF,Jy,if_false];calc JZ<|NS O R<|JZ<|NS N Q<|JZ ?_;refine NU _ (λrest r n=>r.1=N9/\n=s/\∃m k d c,rest=Qh d c/\bU knd s.heap m d/\bU knd s.heap k c/\decide (m=k)=Oc (x=y)/\(⇑d == ⇑c)=(l.size == j.size)) _ ?_ ?_ _ _ (U,U,x,y,l.toList,j.toList,U,I,H,U,by simp,)
 .rintro⟨u,v⟩ rest r n ⟨G,rfl,m,k,d,c,g,i,f,o,e⟩;cases i with
  |nil=>simp at g
  | @cons k1 b1 x'' xs'' h1 hx'' =>
   cases f with
   |nil=>simp at g
   | @cons k2 b2 y'' ys'' h2 hy'' =>
    rw[List.zip_cons_cons]at g;injection g with g B;injection g with z t;subst z t B;calc JZ<|wpAny_eqBool_tuple (x:=k1) (y:=k2) L h1 h2 ?_;by_cases q:k1=k2
    .subst q;rw[Oh U];simp only[OF,Jy,if_false];calc Ka (U,U,x'',y'',xs'',ys'',U,hx'',hy'',?_,~~~e,);rw[←o];by_cases C:x''=y'' <;> simp[C]
    .rw[Oi q];simp only[Bool.not_false,if_true];let M:decide (x=y)=false:=by rw[←o];simp[q]
     rw[M]at h;exact JZ<|Ka<|Ka<|Ka h
 .rintro⟨V,T⟩ n ⟨G,rfl,m,k,d,c,g,i,f,o,e⟩;cases G;calc Ka ?_;let S:(l.size == j.size)=Oc (x=y):=by
   rw[←o,←e];cases i with
   |nil=>cases f <;> simp
   |cons _ _=>cases f with
    |nil=>simp
    |cons _ _=>simp at g
  show p (.done<|.ret<|.bool<|l.size == j.size) n;rw[S];calc h
def tT{x y:Oo (Oo K)}{a b:Ki}{Q:Bool->Ks->Prop}(g:A.units+1<Ly)(d:bX knd s.heap x a)(f:bX knd s.heap y b)(h:Q (Oc<|x=y) s):Kw (model P w) A (Kh (.ref a)<|.ref b) Q E s:=by
 unfold Kh
 try with_reducible refine Kb ?_
 show Kw _ _ (if (dL a == dL b)=Oa then _ else _) Q E s;by_cases c:(dL a == dL b)=Oa
 .rw[Of c];let e:a=b:=by have:=eq_of_beq c;injection this
  subst e;obtain rfl:=d.inj f;exact JZ<|MD<|Ka<|~~~h
 .rw[Oe c]
  exact JZ (wpAny_richCompare_same_room (op:=.Eq) d.ty f.ty Pp
   (LU Pp d.ty F.entry_tuple_eq (rK (A:=A.in1) g d f (_,U,(λe=>nomatch e),KO h,))<|F.args_tuple_eq_2 _ _) ∅)
def yt{n:Nat}{k:Oo K}{a:Ki}{Q:Bool->Ks->Prop}(f:NQ knd s.heap k a)(h:Q Oa s):Kw (model P w) A (NX (n+1)<|.ref a) Q E s:=by
 let g:=f.typeIs;let(o,c,m,j,_,hd,hi):=f;unfold NX;calc JZ<|Nr g Pp.lookup ?_;show Kw _ _ (ND (.ref a) (.type "tuple") >>= _) _ _ s;calc JZ<|Ni g NW ?_;simp only[OF,Jy,if_false];calc JZ<|Nk j hd<|JZ ?_;show Kw _ _ (forIn c _ _) _ _ s;rw[←Hf];refine NU _ (λrest r b=>r.1=N9/\b=s/\∀v∈rest,carriedByValue v=Oa) _ ?_ ?_ _ _ (U,U,hi.byValue,)
 .rintro v rest r b ⟨e,rfl,i⟩;rw[eqIsQuiet_byValue _ (i v cf)];calc JZ<|Ka ?_;simp only[OF,Jy,if_false];exact Ka (U,U,λu d=>i u<|dy _ d,)
 .rintro⟨p,l⟩ b ⟨e,rfl,_⟩;cases e;calc Ka h
def vP{n:Nat}{ks:Oo (Oo K)}{a:Ki}{Q:Bool->Ks->Prop}(e:bX knd s.heap ks a)(h:Q Oa s):Kw (model P w) A (NX (n+2)<|.ref a) Q E s:=by
 let f:=e.ty;let(o,c,m,i,_,hd,hi):=e;unfold NX;calc JZ<|Nr f Pp.lookup ?_;show Kw _ _ (ND (.ref a) (.type "tuple") >>= _) _ _ s;calc JZ<|Ni f NW ?_;simp only[OF,Jy,if_false];calc JZ<|Nk i hd<|JZ ?_;show Kw _ _ (forIn c _ _) _ _ s;rw[←Hf];refine NU _ (λrest r b=>r.1=N9/\b=s/\∃ks,bU knd s.heap ks rest) _ ?_ ?_ _ _ (U,U,_,hi,)
 .rintro v rest r b ⟨d,rfl,ks,j⟩;cases j with
  |cons t g =>
   calc JZ<|yt t ?_;simp only[OF,Jy,if_false];exact Ka (U,U,_,g,)
 .rintro⟨l,k⟩ b ⟨d,rfl,_⟩;cases d;calc Ka h
end
def  cb{P:Kf}{w:Ke}{K:Type} [DecidableEq K] (knd:KeyKind P w K):HeapKind P w (List<|Oo K) where
 is:=bX knd
 hash:=Am knd
 draws:=rJ
 room:=λA=>A.units+1<Ly
 inj:=λb a=>b.inj a
 keeps:=λx f hd e=>x.keeps f hd e
 pyHash:=λc d h=>tS c d h
 eqBool:=λc b a h=>tT c b a h
 quiet:=λd h=>vP d h
abbrev NK:=List<|Oo Int
def  PrN(kvs:Oo (NK×Ki×V))(xs:Oo (NK×Ki×Kd)):Prop:=Paired (λ(p:NK×Ki×V)(q:NK×Ki×Kd)=>p.1=q.1/\p.2.1=q.2.1/\RelV p.2.2 q.2.2) kvs xs
def  cC(P:Kf)(w:Ke)(a:Ki)(kvs:Oo (NK×Ki×V)):HO:=.ext λh=>⇑kvs<=Kk/\(a == Kl)=Ob/\∃b,PrN kvs b /\
 ∃o c d,h.get? a=N8 o/\o.ExactDict/\o.data=.dict c d/\c.toList=b.map (Km<|cb<|Kn P w)/\(b.map (·.1)).Nodup
def  vQ(H:Hp)(ks:NK)(a:Ki):Prop:=∃b:Oo Ki,H a=N8 (.tup<|b.map mt)/\Paired (λk p=>H p=N8 (.tup<|k.map ut)) ks b
def  ot(H:Hp)(kvs:Oo (NK×Ki×V)):Prop:=∀e∈kvs,vQ H e.1 e.2.1
section
variable{h:Kj}{a:Ki}
def tU:∀{k:Oo Int}{us:Oo Kd},Vals (k.map ut) us->ItemsAre (Kn P w) k us
 | [],_,.nil=>.nil
 |i :: k,_,.cons (t,e,) r=>by subst e;calc .cons (by show Qt i (.int i t)=Oa;simp[Qt]) (tU r)
def BJ{k:Oo Int}(ok:HOk P w H h)(e:H a=N8 (.tup<|k.map ut)):NQ (Kn P w) h k a:=by
 let(_,b,r,o,f,d,n,c):=(show bO P w H h a (.tup<|k.map ut)from ok a _ e);calc(o,b.toArray,n,f,d,c,~~~tU r,)
def tV(ok:HOk P w H h):∀{ks:NK}{ps:Oo Ki}{us:Oo Kd},Paired (λk p=>H p=N8 (.tup<|k.map ut)) ks ps->Vals (ps.map mt) us->bU (Kn P w) h ks us
 |_,_,_,.nil,.nil=>.nil
 |_,_,_,.cons e t,.cons r v=>by cases r;calc .cons (BJ ok e)<|tV ok t v
def mV{ks:NK}(ok:HOk P w H h)(e:vQ H ks a):bX (Kn P w) h ks a:=by
 let(c,j,d):=e;let(_,b,r,o,i,g,n,f):=(show bO P w H h a (.tup<|c.map mt)from ok a _ j);calc(o,b.toArray,n,i,g,f,~~~tV ok d r,)
def PrN.keys{kvs:Oo (NK×Ki×V)}{xs:Oo (NK×Ki×Kd)}(r:PrN kvs xs):kvs.map (·.1)=xs.map (·.1):=by
 induction r with
 |nil=>rfl
 |cons e _ a=>rw[iJ,iJ,e.1,a]
def PrN.mem{kvs:Oo (NK×Ki×V)}{xs:Oo (NK×Ki×Kd)}(r:PrN kvs xs):∀x∈xs,∃v,(x.1,x.2.1,v)∈kvs/\RelV v x.2.2:=by
 induction r with
 |nil=>intro x a;cases a
 | @cons p q ps qs e _ ih =>
  intro x a;rcases af.mp a with rfl|a
  .exact(p.2.2,by rw[←e.1,←e.2.1];exact cf,e.2.2,)
  .let(v,c,b):=ih x a;calc(v,dy _ c,b,)
def PrN.val{kvs:Oo (NK×Ki×V)}{xs:Oo (NK×Ki×Kd)}(r:PrN kvs xs)(b:(xs.map (·.1)).Nodup){ks:NK}{c:Ki}{v:V}(d:(ks,c,v)∈kvs):∃u,atKey xs ks=N8 (c,u)/\RelV v u:=by
 let(i,hi):=QO.mp d;let(q,h,g,f,e):=fZ r hi;let(k,j,a):=q;cases g;cases f;calc(a,atKey_of_get b h,e,)
def PrN.none{kvs:Oo (NK×Ki×V)}{xs:Oo (NK×Ki×Kd)}(r:PrN kvs xs){ks:NK}(a:ks ∉ kvs.map (·.1)):atKey xs ks=none:=by
 refine NY λj p e=>a ?_
 rw[r.keys];calc br.mpr ((ks,p),JR e,U,)
def PrN.snoc{kvs:Oo (NK×Ki×V)}{xs:Oo (NK×Ki×Kd)}(r:PrN kvs xs){ks:NK}{c:Ki}{v:V}{u:Kd}(b:RelV v u):PrN (kvs++[(ks,c,v)]) (xs++[(ks,c,u)]):=by
 induction r with
 |nil=>exact .cons (U,U,b,) .nil
 |cons e _ a=>calc .cons e a
def CQ{kvs:Oo (NK×Ki×V)}(ok:HOk P w H h)(e:Rd H a (cC P w a kvs))(d:ot H kvs):⇑kvs<=Kk/\(a == Kl)=Ob/\∃xs,PrN kvs xs/\h.DictOfH (cb<|Kn P w) a xs:=by
 let((z,y,xs,r,o,l,m,k,j,i,g,f),_):=(show bO P w H h a (cC P w a kvs)from CO ok e);calc(z,y,xs,r,o,l,m,k,j,i,g,λx b=>by let(v,c,_):=r.mem x b;exact mV ok (d _ c),f,)
def An{H':Hp}{kvs:Oo (NK×Ki×V)}{xs:Oo (NK×Ki×Kd)}(z:⇑kvs<=Kk)(y:(a == Kl)=Ob)(r:PrN kvs xs){o:Obj}{b:Array Lo}{d:Nat}(c:h.get? a=N8 o)(j:o.ExactDict)(i:o.data=.dict b d)(g:b.toList=xs.map (Km<|cb<|Kn P w))(f:(xs.map (·.1)).Nodup):bO P w H' h a (cC P w a kvs) :=
 ((z,y,xs,r,o,b,d,c,j,i,g,f,),(o,c,),λ_ _ (z,y,xs,r,o,b,d,c,e,) k=>(z,y,xs,r,o,b,d,k o c,e,),)
end
def  DU(P:Kf)(w:Ke):TE:=λ_ H Q=>∀p,H p=N9->Q (.ref p) (upd H p<|cC P w p [])
def Ao{pos:Pos}:PE X (.Dict [] [] pos) (DU X.prog X.w):=λb s c H Q I h =>
 wpAny_Dict_empty (.ref ↥s,_,I.laid (a:=↥s) (o:=cC X.prog X.w ↥s []) (t':=s.toks) (λ_ _ q=>am _ q) (vk _)
  (An (xs:=[]) (v3 _) (beq_eq_false_iff_ne.mpr<|Fk<|vl I.big) .nil (bn _ U) (U,U,U,) U U nY),U,h _<|I.hok.fresh<|vk _,)
inductive FG(P:Kf)(w:Ke)(x:V)(y:V)(H:Hp)(Q:VK):Prop
 |mk (a b c:Ki)(kvs:Oo (NK×Ki×V))(ks:NK)(v:V)(_:x=.ref a)(_:y=.ref b)(_:Rd H a (cC P w a kvs))(_:ot H kvs)(_:vQ H ks b)(_:(ks,c,v)∈kvs)(_:Q v H)
def ow{k:Nat}(l:bu k X.A):IxR X (FG X.prog X.w):=by
 intro value e f s C H x y v u Q I i g h j;let(a,b,c,B,E,z,rfl,rfl,p,n,o,m,q):=h;cases i;cases g;let(_,_,D,d,dd):=CQ I.hok p n;let(u,t,r):=d.val dd.choose_spec.choose_spec.choose_spec.2.2.2.2.2 m;calc PyProof.Rows.tail_any dd.typeIs slot_dict_getitem.lookup (wpAny_getItem_heap (knd:=cb<|Kn X.prog X.w) (by have:=l.units;show X.A.in1.units+1<Ly;simp only[Kr.in1];lia) (mV I.hok o) dd t (z,H,I.tok _,r,q,)) j
def  FH(P:Kf)(w:Ke)(h ty g:TE):TS:=λD d H=>g d H λv j=>h d j λx i=>ty d i λy e=>∃(a b:Ki)(c:Oo (NK×Ki×V))(f:NK),x=.ref a/\y=.ref b/\e a=N8 (cC P w a c)/\ot e c/\vQ e f b/\⇑c<Kk/\f ∉ c.map (·.1)/\D.nx d (upd e a<|cC P w a<|c++[(f,b,v)])
def BK{o i value:Kz}{n ty m:TE}{pos d:Pos}{k:Nat}(O:bu k X.A)(P:PE X o n)(hi:PE X i ty)(N:PE X value m)(j:KR value (N8<|.Subscript o i d) pos.line X.env=pure Ob) :
  PS X (.Assign [.Subscript o i d] value pos) (FH X.prog X.w n ty m):=by
 intro c s g H D I h;calc wpAny_Assign_Subscript (thn (N c s g H _ I h) λr C (v,H1,I1,G,L,)=>thn (P c C g H1 _ I1 L) λu s2 (x,H2,I2,F,K,)=>thn (hi c s2 g H2 _ I2 K) λiv s3 (y,H3,l,E,a,b,a0,ks,ex,ey,t,S,T,R,Q,J,)=>?_) j;subst ex ey;cases F;cases E;let(z,hd,B,e,dd):=CQ l.hok (.inl t) S;let M:B.length<=Kk:=by rw[←Paired.length e];exact z
 refine wpAny_setItem_heap (hsz:=M) (knd:=cb<|Kn X.prog X.w) (by have:=O.units;show X.A.in1.units+1<Ly;simp only[Kr.in1];lia) (mV l.hok T) dd λh' f j=>?_
 rw[storedH_new (e.none Q)]at f;let(q,es,ep,p,Z,Y,W,_,V):=f;calc(g,_,BH l (by rw[t];exact OB) j (q,p,) (An (by rw[cn];exact R) hd (e.snoc G) p Z Y W V),J,)
def  rL(h:Kj)(d:Ki)(a:Array Lo)(b:Nat):Prop:=∃o,h.get? d=N8 o/\o.ExactDict/\o.data=.dict a b
section
variable{A:Kr}{E:Kd->Ks->Prop}{d it:Ki}{es:Array Lo}{ep i:Nat}
def rL.ty(x:rL s.heap d es ep):s.TypeIs (.ref d) "dict" := by let(o,h,c,_):=x;calc(o,h,c.1,)
def BL{Q:Kd->Ks->Prop}(hd:(d == Kl)=Ob)(x:rL s.heap d es ep)(e:(es.size:Int)<2^63)(h:∀t t',Q (.int es.size t) { s with toks:=t' }):Kw (model P w) A (call (.builtin "len") [.ref d]) Q E s:=by
 let a:=x.ty;let(o,c,f,b):=x;calc Qf kind_len plain_len entry_len (args_len1 _) ?_;unfold Le.«len»;calc JZ (m:=oneArg "len" _)<|Ka<|JZ (m:=callSpecial? (.ref d) s!"__len__")<|LS (name:=s!"__len__") a F.slot_dict_len<|LU F.slot_dict_len a F.entry_dict_len ?_<|F.args_dict_len_1 _;show Kw _ _ (dictSize d >>= _) _ _ s;unfold dictSize;calc JZ<|JZ<|NZ c b<|Ka ?_;show Kw _ _ (Le.Dict.pendingCount d >>= _) _ _ s;calc JZ<|wpAny_pendingCount_other hd<|NV ?_;rw[show((es.size:Int)+((0:Nat):Int))=es.size by lia];calc JZ<|Kb<|Ka<|JZ<|NH ?_;show Kw _ _ (if ((es.size:Nat):Int)<0 then _ else _) _ _ _;rw[Oe ∅];show Kw _ _ (if ((es.size:Nat):Int) ≥ 2^63 then _ else _) _ _ _;rw[Oe ∅];calc JZ<|wpAny_mkInt<|Ka (_,U,h _ _,)
def yu{Q:Kd->Ks->Prop}(hd:(d == Kl)=Ob)(x:rL s.heap d es ep)(h:Q (.ref ↥s) { s with heap:=s.heap.push { cls:=.type "dict_items",data:=.fields #[.ref d] } }):Kw (model P w) A (call (.builtin "dict.items") [.ref d]) Q E s:=by
 let a:=x.ty;calc LU F.slot_dict_items a F.entry_dict_items ?_<|F.args_dict_items_1 _;unfold Le.«dict.items»;calc JZ ?_;unfold Le.Dict.noArgs;calc JZ<|N0 a ?_;show Kw _ _ (pure d) _ _ s;calc Ka ?_;show Kw _ _ (Q9 d >>= _) _ _ s;unfold Q9;rw[Oe (by rw[hd];exact bv)];calc JZ<|Ka<|JZ<|LX<|Ka (_,U,h,)
def Ap{v:Ki}{Q:Kd->Ks->Prop}(a:s.heap.IsItemsView v d)(x:rL s.heap d es ep)
  (g:Q (.ref ↥s) { s with heap:=s.heap.push { cls:=.type "dict_itemiterator",data:=.fields #[.none,.bool Ob,.ref d,.int 0 0,.int es.size 0,.int ep 0,.none,.none] } }):Kw (model P w) A (K4<|.ref v) Q E s:=by
 let(i,f,h,e):=id a;let(o,c,j,b):=id x;calc Nl a.typeIs Q7<|LU Q7 a.typeIs F.entry_dict_items_iter ?_<|F.args_dict_items_iter_1 _;unfold Le.«dict_items.__iter__»;calc JZ<|Ka<|JZ ?_;unfold Le.Dict_items.dictOf;calc JZ<|LQ f e (x:=.ref d) U<|Ka<|JZ ?_;unfold Le.Dict_items.newIterator;calc JZ<|NZ c b<|JZ<|N1 c b ?_;let own:OO "dict_itemiterator" = true:=⋯
 simp only[own,if_true];refine LX (Ka (_,U,"dict_itemiterator",_,(_,bn _ U,U,),sK.lookup,?_,)) (by simp only[sizeOk,Pn,dG,cn,en,List.length_nil,Ln];lia);simpa[K5,Pn]using g
def Aq{ok u:Kd}{e:Lo}{Q:Option Kd->Ks->Prop}(c:NP s.heap it d i es.size ep ok u)(x:rL s.heap d es ep)(Z:es[i]?=N8 e)
  (hQ:∀h',N2 h' it d (i+1) es.size ep e.key e.val ↥s->h'.get? ↥s=N8 { cls:=.type "tuple",data:=.seq #[e.key,e.val] }->h'.objs.size=↥s+1->(∀b o,b≠it->s.heap.get? b=N8 o->h'.get? b=N8 o)->Q (N8<|.ref ↥s) { s with heap:=h' }):Kw (model P w) A (K2<|.ref it) Q E s:=by
 let(a,g,C,l,v):=s;let(od,D,a0,G):=id x;let h:Ot ⟨a,g,C,l,v⟩ (.ref it) "dict_itemiterator" := (_,c,U,);unfold K2;calc JZ<|MA<|LS (name:=s!"__next__") h sK<|LU sK h Qa ?_<|P7 _;calc JZ<|Ka<|JZ<|JZ ?_;first|refine JZ (N3 h<|Ka<|JZ<|M8 c U ?_)|refine JZ (N4 h<|Ka<|JZ<|M8 c U ?_)
 let own:OO "dict_itemiterator" = true:=⋯
 simp only[own,if_true];show Kw _ _ (if (dL d == lv)=Oa then _ else _) _ _ _;rw[Oe (show ¬ ((dL d == lv)=Oa)from bv)];calc JZ<|Ka<|JZ<|NZ D G ?_;rw[Oe (by simp)];calc JZ<|Ka<|JZ<|N1 D G ?_;rw[Oe (by simp)];calc Ka ?_;simp only[show ¬ ((i:Int)<0)from by lia,if_false,JS,Z];calc JZ ?_;first|refine JZ (N3 h<|Ka<|JZ<|N5 h ?_)|refine JZ (N4 h<|Ka<|JZ<|N5 h ?_)
 show Kw _ _ (Mn (.ref it) 3 (K5<|(i:Int)+1) >>= _) _ _ (a,g,C,l,v,);refine JZ (Na c (by simp) λj B t=>?_);replace t:rc it a j:=t
 replace B:NP j it d (i+1) es.size ep ok u:=by
  let z:((i+1:Nat):Int)=(i:Int)+1:=∅
  unfold NP;rw[z];simpa[K5]using B
 let T:Ot ⟨j,g,C,l,v⟩ (.ref it) "dict_itemiterator" := (_,B,U,);calc JZ<|Kb<|JZ<|N5 T<|JZ<|N5 T ?_;show Kw _ _ (Pv (.ref it) 6 e.key e.val) _ _ (j,g,C,l,v,);unfold Pv;calc JZ<|Np ?_;let y:NP (j.push { cls:=.type "tuple",data:=.seq #[e.key,e.val] }) it d (i+1) es.size ep ok u:=am _ B;generalize I:j.push { cls:=.type "tuple",data:=.seq #[e.key,e.val] }=h2 at y;let H:j.objs.size=a.objs.size:=t.1;let Y:it<a.objs.size:=bi c;let W:h2.get? a.objs.size=N8 { cls:=.type "tuple",data:=.seq #[e.key,e.val] }:=by rw[←I,←H];exact bn _ U
 let V:h2.objs.size=a.objs.size+1:=by rw[←I,ln,H]
 let X:∀b o,b≠it->a.get? b=N8 o->h2.get? b=N8 o:=λb o k e=>by rw[←I];exact am _<|t.extBut b o k e
 show Kw _ _ (Pm (.ref it) >>= _) _ _ (h2,g,C,l,v,);rw[H];clear I B t T H j;calc JZ ?_;unfold Pm;calc JZ<|LQ y U (x:=.none) U<|Ka ?_;simp only[if_true];calc JZ<|LQ y U (x:=ok) U<|JZ<|LQ y U (x:=u) U ?_;refine JZ (Na y (by simp) λM S r=>?_);replace r:rc it h2 M:=r
 replace S:NP M it d (i+1) es.size ep e.key u:=S
 refine JZ (Na S (by simp) λL R p=>?_);replace p:rc it M L:=p
 replace R:NP L it d (i+1) es.size ep e.key e.val:=R
 refine JZ (Na R (by simp) λK O n=>?_);replace n:rc it L K:=n
 replace O:N2 K it d (i+1) es.size ep e.key e.val a.objs.size:=O
 refine JZ (Na O (by simp) λJ N m=>?_);replace m:rc it K J:=m
 replace N:N2 J it d (i+1) es.size ep e.key e.val a.objs.size:=N
 let f:=wz Y;calc JZ<|NH<|Ka<|Ka (_,U,Ka<|hQ J N (m.extBut _ _ f<|n.extBut _ _ f<|p.extBut _ _ f<|r.extBut _ _ f W) ?_ λb o k q=>m.extBut b o k<|n.extBut b o k<|p.extBut b o k<|r.extBut b o k<|X b o k q,);show J.objs.size=a.objs.size+1;rw[m.1,n.1,p.1,r.1,V]
def BM{ok h:Kd}{Q:Option Kd->Ks->Prop}(k:A.handled=N9)(c:NP s.heap it d i es.size ep ok h)(x:rL s.heap d es ep)(j:es.size<=i)(l:∀h',QK it s.heap h'->Q N9 { s with heap:=h' }):Kw (model P w) A (K2<|.ref it) Q E s:=by
 let(o,f,n,g):=id x;let e:s.TypeIs (.ref it) "dict_itemiterator" := (_,c,U,);unfold K2;calc JZ<|MA<|LS (name:=s!"__next__") e sK<|LU sK e Qa ?_<|P7 _;calc JZ<|Ka<|JZ<|JZ ?_;first|refine JZ (N3 e<|Ka<|JZ<|M8 c U ?_)|refine JZ (N4 e<|Ka<|JZ<|M8 c U ?_)
 let own:OO "dict_itemiterator" = true:=⋯
 simp only[own,if_true];show Kw _ _ (if (dL d == lv)=Oa then _ else _) _ _ s;rw[Oe (show ¬ ((dL d == lv)=Oa)from bv)];calc JZ<|Ka<|JZ<|NZ f g ?_;rw[Oe (by simp)];calc JZ<|Ka<|JZ<|N1 f g ?_;rw[Oe (by simp)];calc Ka ?_;simp only[show ¬ ((i:Int)<0)from by lia,if_false,JS,Ou j];calc JZ ?_;first|refine JZ (N3 e<|Ka ?_)|refine JZ (N4 e<|Ka ?_)
 show Kw _ _ (Mn (.ref it) 2 .none >>= _) _ _ s;refine JZ (Mo c U (by simp) ?_);show Kw _ _ (Nb (.type "StopIteration") [] >>= _) _ _ _;calc JZ ?_;simp only[Nb,Nc];refine JZ (LX ?_ (by size_fits));refine JZ (m:=Nd _ _) (Mx (a:=lv) (by first|rfl|(simp only[Nd];rfl)) (LX ?_ (by size_fits)));simp only[Nf];calc JZ<|Ng ?_;rw[show A.in1.handled=N9 from k];calc JZ<|Ka<|Nh ?_;calc JZ<|Ni (T := "StopIteration") (b:=Oa) (_,bn _ U,U,) Nj ?_;calc Ka<|l _<|((v4 ..).extBut.push _).push _
end
section
variable{Od:Oo (Ki×Obj)}{σ:St}
def Inv.freezeX{d:Ki}{o:Obj}{h:Kj->Prop}(I:Inv X Od σ H s)(e:H d=N8 (.ext h))(g:s.heap.get? d=N8 o):Inv X Od σ (upd H d<|.frz o<|.ext h) s:=by
 let k:∀{b u},H b=N8 u->u≠.ext h->b≠d:=λq n z=>by rw[z,e]at q;exact n (ci q).symm
 let j:∀{b},H b=N9->b≠d:=λq z=>by rw[z,e]at q;cases q
 let w:∀(a b:Ki),H b=N8 (.own a)->upd H d (.frz o<|.ext h) b=N8 (.own a):=λa b q=>by rw[av (k q (by intro z;cases z))];exact q
 let m:∀b f,H b=N8 (.tup f)->upd H d (.frz o<|.ext h) b=N8 (.tup f):=λb f q=>by rw[av (k q (by intro z;cases z))];exact q
 refine(I.ok,I.os,I.bare,(I.base.keep,I.base.slot,λb q v l t=>?_,I.base.there,λb f q=>m b f<|I.base.tups b f q,λb q u r=>?_,λb A q=>?_,),I.loc,I.cell,?_,λx c q=>?_,λp B=>?_,λb u q=>?_,I.len,)
 .let:=I.base.free b q v l t;rw[av (j this)];exact this
 .let:=I.base.frzs b q u r;rw[av (k this (by intro z;cases z))];exact this
 .let(i,this):=I.base.tbls b A q;exact⟨i,by rw[av (k this (by intro z;cases z))];exact this⟩
 .rw[av (j I.free)];exact I.free
 .rw[av (j<|I.freeC x c q)];exact I.freeC x c q
 .let(v,l,t):=I.pin p B;exact(v,by rw[av (j l)];exact l,t,)
 .by_cases y:b=d
  .subst y;rw[ag]at q;cases q;exact(g,(I.hok b _ e).stay (λ_ _ _ q=>q) (w b) m,)
  .rw[av y]at q;calc(I.hok b u q).stay (λ_ _ _ q=>q) (w b) m
end
section
variable{h:Kj}{d:Ki}{o:Obj}{kvs:Oo (NK×Ki×V)}{es:Array Lo}{ep:Nat}
def vR(ok:HOk P w H h)(e:Rd H d (cC P w d kvs)):(d == Kl)=Ob/\∃(es:Array Lo)(ep:Nat),rL h d es ep/\es.size=⇑kvs/\es.size<=Kk/\∀(i:Nat)(a:NK×Ki×V),kvs[i]?=N8 a->∃b:Lo,es[i]?=N8 b/\b.key=.ref a.2.1/\RelV a.2.2 b.val:=by
 let((z,y,n,r,o,es,ep,j,g,f,c,p),_):=(show bO P w H h d (cC P w d kvs)from CO ok e);let sz:es.size=⇑kvs:=by rw[←FV,c,aa,←Paired.length r]
 calc(y,es,ep,(o,j,g,f,),sz,∅,λi a hi=>?_,);let(q,m,s,l,k):=fZ r hi;calc(_,by rw[←GO,c,dr,m];rfl,by show dL q.2.1=_;rw[←l],k,)
end
def yv:cF X (.builtin "len") (λxs H Q=>∃a kvs,xs=[mt a]/\Rd H a (cC X.prog X.w a kvs)/\Q (.int ⇑kvs) H):=by
 intro b s g H xs i Q I r h;let(a,kvs,rfl,f,q):=h;let(u,rfl,d):=vals1 r;cases d;let(hd,k,l,e,sz,c,_):=vR I.hok f;refine BL hd e (by rw[Ln]at c;lia) λt j=>?_
 rw[sz];calc(.int ⇑kvs,H,I.tok _,(t,U,),q,)
def  ItN(P:Kf)(w:Ke)(d:Ki)(o:Obj)(kvs:Oo (NK×Ki×V)):It :=
 (λi H=>H d=N8 (.frz o<|cC P w d kvs)/\i<⇑kvs,
 λi H v b=>∃T a,H T=N9/\v=.ref T/\kvs[i]?=N8 a/\b=upd H T (.tup [.ref a.2.1,a.2.2]),
 λi H=>H d=N8 (.frz o<|cC P w d kvs)/\⇑kvs<=i,)
def xf{P:Kf}{w:Ke}{H:Hp}{h:Kj}{d:Ki}{o:Obj}{kvs:Oo (NK×Ki×V)}{a:Array Lo}{l:Nat}(ok:HOk P w H h)(e:H d=N8 (.frz o<|cC P w d kvs))(k:o.data=.dict a l):rL h d a l/\a.size=⇑kvs/\∀(i:Nat)(b:NK×Ki×V),kvs[i]?=N8 b->∃c:Lo,a[i]?=N8 c/\c.key=.ref b.2.1/\RelV b.2.2 c.val:=by
 let(hd,p,q,(r,j,m,f),sz,_,n):=vR ok<|.inr (o,e,);let(g,_):=(show bO P w H h d (.frz o<|cC P w d kvs)from ok d _ e);rw[g]at j;cases j;rw[k]at f;cases f;calc((o,g,m,k,),sz,n,)
def tW{P:Kf}{w:Ke}{K:bd}{l:Oo Kz} {x1} {tp:Pos}{it d:Ki}{o:Obj}{kvs:Oo (NK×Ki×V)}{es:Array Lo}{M:Nat}(L:o.data=.dict es M) :
  Turn P w K (.Tuple l x1 tp) (ItN P w d o kvs) [it] it (CP it d ⇑kvs M) where
 mem:=by simp
 obj:=λi h e c a=>by
  let(ok,g,b):=e;rw[fo.mp a];exact⟨_,b,λv q=>nomatch q⟩
 keep:=λi h h' e k=>by
  let(ok,g,b):=e;exact(ok,g,k it (by simp) _ b,)
 item:=by
  intro X t p B a i j s R H E I m e r;subst t p B;let(hd,hi):=r;let(ok,g,b):=e;let(n,sz,O):=xf I.hok hd L;let D:=JP hi;generalize kvs[i]=kv at D;let(N,e1,e2,e3):=O i kv D;rw[←sz]at b;refine Aq b n e1 λZ a1 a2 a3 a4=>(_,U,wpAny_letOwnedTupleGo_items (s:={ s with heap:=Z }) a1 λC b1 b2=>?_,)
  let S:s.heap.get? ↥s=none:=by
   cases q:s.heap.get? ↥s with
   |none=>rfl
   |some o=>exact Og (bi q) (w4 _)
  let f:H ↥s=none:=I.hok.fresh<|vk _;let G:↥s≠it:=wz<|bi b;let Y:∀c o,c ∉ [it]->s.heap.get? c=N8 o->C.get? c=N8 o:=λc o a q=>by
   let a:c≠it:=λz=>a (by rw[z];simp)
   exact b2.extBut _ _ a<|a4 c o a q
  let J:=I.turnedPair (h':=C) (ch:=[it]) (T:=↥s) (x:=.ref kv.2.1) (y:=kv.2.2) (u:=N.key) (v:=N.val) m Y S f (b2.extBut _ _ G a2) (by rw[e2];exact U) e3;refine(.ref ↥s,upd H ↥s<|.tup [.ref kv.2.1,kv.2.2],J,U,(_,kv,f,U,D,U,),(_,_,by rw[←sz];exact b1,),λc a=>?_,);rw[fo.mp a,av G.symm];exact(m it (by simp)).1
 done:=by
  intro X t p B a i j s R H E I m e r;subst t p B;let(hd,hi):=r;let(ok,g,b):=e;let(n,sz,O):=xf I.hok hd L;rw[←sz]at b;exact BM (I.ok.hd a) b n ∅ λC k=>(U,I.turnedL (ch:=[it]) m λc o a q=>k c o (λz=>a (by rw[z];simp)) q,)
 self:=λA i s Q E e h=>by
  let(ok,g,b):=e;let f:s.TypeIs (.ref it) "dict_itemiterator" := (_,b,U,);calc Nl f Qe<|LU Qe f je ?_<|F.args_dict_itemiterator_iter_1 _;show Kw _ _ (ret<|.ref it) _ _ s;calc Ka (_,U,"dict_itemiterator",_,f,sK.lookup,h,)
inductive xg(P:Kf)(w:Ke)(R:It->RK)(x:V)(H1:Hp):Prop
 |mk (d:Ki)(kvs:Oo (NK×Ki×V))(_:x=.ref d)(_:H1 d=N8 (cC P w d kvs))(_:∀o,R (ItN P w d o kvs)<|upd H1 d<|.frz o<|cC P w d kvs)
def  FI(P:Kf)(w:Ke)(b:TE):TI:=λa H R=>b a H λx c=>xg P w R x c
def yw{e:Kz}{p:TE}{i z:Pos}{j:Oo Kz} {x1} {tp:Pos}(hd:PE X e p)
  (D:Lv e "items" X.env (eval e X.env)=eval e X.env:=by rfl) (E:(i.endLine == z.line)=true:=by rfl) :
  PI X (.Tuple j x1 tp) (.Call (.Attribute e "items" i) [] [] z) (FI X.prog X.w p):=by
 intro g s n H R I h;calc wpAny_Call_method0_late D E<|thn (hd g s n H _ I h) λv a (x,B,A,G,d,f,M,y,q,)=>?_;subst M;obtain rfl:v=dL d:=G;let(J,P,N,k,sz,O,Q):=vR A.hok<|.inl y;let(o,l,t,r):=id k;refine("dict","dict.items",F.plainAttrs_dict,F.slot_dict_items,F.type_dict_items,k.ty,λb q=>by cases q;exact(o,l,t.2.1,),?_,);calc QC U<|PySem.evalArgs_none<|yu J k ?_;let m:Inv X g n (upd B d<|.frz o<|cC X.prog X.w d f) a:=A.freezeX y l;let L:(a.heap.push { cls:=.type "dict_items",data:=.fields #[.ref d] }).get? d=N8 o:=am _ l;calc Ap (s:={ a with heap:=a.heap.push { cls:=.type "dict_items",data:=.fields #[.ref d] } }) (d:=d) (_,bn _ U,U,U,) (o,L,t,r,) ?_;let C:(a.heap.push { cls:=.type "dict_items",data:=.fields #[.ref d] }).objs.size=↥a+1:=by simp[Kj.push]
 let big:↥a<=(a.heap.push { cls:=.type "dict_items",data:=.fields #[.ref d] }).objs.size:=by rw[C];lia
 refine(_,[_],CP _ d ⇑f N,ItN X.prog X.w d o f,upd B d<|.frz o<|cC X.prog X.w d f,U,m.kept (t':=a.toks)<|λb u q=>am _<|am _ q,tW r,(.none,.none,by rw[←sz];exact bn _ U,),λc K=>?_,q o,);rw[fo.mp K];calc m.fpOk big<|m.hok.fresh big
section
variable{gt:TG}{fr:Oo Nat}{tt:TT}{te:TE}
def rM{P:Kf}{w:Ke}{d:Ki}{o:Obj}{kvs:Oo (NK×Ki×V)}{l:St}{f:Hp}{Q:VK}(a:Ki->Nat->Oo V->RK)(v:∀D,f D=N9->a D 0 [] (upd f D<|.lst []))
  (t:∀D i ys H,f D=N9->i<=⇑kvs->a D i ys H->H d=N8 (.frz o<|cC P w d kvs))
  (s:∀D i h ys H T,f D=N9->kvs[i]?=N8 h->a D i ys H->H T=N9->∀ts:St,⇑ts=k->gt (.ref T) (cB l fr ts) (upd H T<|.tup [.ref h.2.1,h.2.2]) λc z=>(∃g:St,⇑g=k/\c=cB l fr g)/\tt c z λb r=>if b=Oa then te c r (df a D i ⇑kvs)else dZ a D i ⇑kvs r)
  (hd:∀D ys H,f D=N9->a D ⇑kvs ys H->Q (.ref D) H):fA (ItN P w d o kvs) gt k fr tt te l Q f:=by
 intro D j;calc(λi m H=>m=⇑kvs-i/\i<=⇑kvs/\∃ys,a D i ys H,(_,U,v3 _,[],v D j,),?_,);rintro i m H ⟨rfl,hi,ys,p⟩;let q:=t D i ys H j hi p;by_cases n:i<⇑kvs
 .refine .inr ((q,n,),λx A y=>?_,);let(T,h,u,rfl,e,rfl):=y;exact s D i _ ys _ T j e p u
 .let e:i=⇑kvs:=∅
  subst e;calc .inl ((q,vk _,),hd D ys H j p,)
end
section
variable{P:Kf}{w:Ke}{K:Type} [DecidableEq K] {knd:KeyKind P w K}{h h':Kj}{d:Ki}
def  xh(h h':Kj):Prop:=∀b o,h.get? b=N8 o->o.cls=.type "tuple" -> h'.get? b=N8 o
def bU.stay{x:Oo (Oo K)}{vs:Oo Kd}(k:xh h h')(r:bU knd h x vs):bU knd h' x vs :=
 r.mono λ_ _ t=>by let(o,i,n,g,c,q):=t;calc(o,i,n,k _ _ g c,c,q,)
def bX.stay{ks:Oo (Oo K)}{a:Ki}(k:xh h h')(x:bX knd h ks a):bX knd h' ks a:=by
 let(o,i,n,g,c,q,r):=x;calc(o,i,n,k _ _ g c,c,q,r.stay k,)
def rN{xs:Oo (Oo (Oo K)×Ki×Kd)}(x:h.DictOfH (cb knd) d xs)(e:∀o,h.get? d=N8 o->h'.get? d=N8 o)(k:xh h h'):h'.DictOfH (cb knd) d xs:=by
 let(o,l,m,j,i,g,f,c,b):=x;calc(o,l,m,e o j,i,g,f,λx a=>bX.stay k<|c x a,b,)
def rO{A:Kr}{I ax:Ki}{items:Array Kd}{ps:Oo (Oo (Oo K)×Ki×Kd)}{res:Kd}(hh:A.handled=N9)(hu:A.in1.units+1<Ly)(hI:I≠ax)(h:d≠I)(W:d≠ax)(a0:⇑ps=items.size)(S:(ps.map (·.1)).Nodup)(hsz:items.size<=Kk) :
  ∀(k i:Nat)(s:Ks)(D:Tok)(R:Lq->Ks->Prop),items.size-i=k->i<=items.size->s.heap.IsListIter I ax i->s.heap.IsList ax items->s.heap.DictOfH (cb knd) d (ps.take i) ->
   (∀(j:Nat)(p:Oo (Oo K)×Ki×Kd),ps[j]?=N8 p->∃(t:Ki)(o:Obj)(n:Nat),items[j]?=↑t/\s.heap.get? t=N8 o/\o.cls=.type "tuple" /\ o.data=.seq #[.ref p.2.1,p.2.2] n/\bX knd s.heap p.1 p.2.1) ->
   (∀h' C,h'.DictOfH (cb knd) d ps->(∀b o,b≠I->b≠d->s.heap.get? b=N8 o->h'.get? b=N8 o)->R (.ok<|.ret res) { s with heap:=h',toks:=C }) ->
   Lu (model P w) A (.builtin "dict.update.loop" ([.ref d,.ref I,.int (i:Int) D,res],[],)) R s:=by
 intro k;induction k with
 |zero =>
  intro i s D R hk hi a B hd H J;let V:i=items.size:=∅
  calc Mu fE ?_;rw[lm cE _];unfold Le.«dict.update.loop»;show Kw _ A.in1 (K2 (.ref I) >>= _) _ _ s;let q:s.TypeIs (.ref I) "list_iterator" := by let(o,e,c,_):=id a;exact(o,e,c,)
  refine JZ (K7 (by simp[hh]) a B (by simp[V]) λh' g=>?_);show Kw _ A.in1 (Le.Dict.addKeywords d [] >>= _) _ _ _;calc JZ<|Ka<|Ka<|J h' _ ?_ λb o hb _ e=>g b o hb e;rw[ja ∅]at hd;refine rN hd (λo e=>g _ _ h e) λb o e c=>g b o (λz=>?_) e
  let(o2,u,r):=q;rw[z,u]at e;cases e;rw[r]at c;exact Og c ⋯
 |succ k ih =>
  intro i s D R hk hi a B hd H J;let a1:i<items.size:=∅
  let ep:=JP (l:=ps) (i:=i) ∅;let(t,o,n,e1,e2,e3,e4,e5):=H i _ ep;let q:s.TypeIs (.ref I) "list_iterator" := by let(o,e,c,_):=id a;exact(o,e,c,)
  let F:∀b o,s.heap.get? b=N8 o->o.cls=.type "tuple" -> b≠I:=λb o e c z=>by
   let(o2,u,r):=q;rw[z,u]at e;cases e;rw[r]at c;exact Og c ⋯
  let nd:∀b o,s.heap.get? b=N8 o->o.cls=.type "tuple" -> b≠d:=λb o e c z=>by
   let(o2,u,r):=hd.typeIs;rw[z,u]at e;cases e;rw[r]at c;exact Og c ⋯
  calc Mu fE ?_;rw[lm cE _];unfold Le.«dict.update.loop»;show Kw _ A.in1 (K2 (.ref I) >>= _) _ _ s;calc JZ<|K6 a B e1 λL G7 E=>?_;let G:xh s.heap L:=λb o e c=>(E.2 b<|F b o e c).trans e
  let et:=G t o e2 e3;calc JZ<|Kb<|JZ<|N6 ?_;unfold Le.Dict.pairItems;calc JZ<|LW (T := "tuple") (o,et,e3,) ?_;rw[Of ⋯];calc JZ<|Nk et e4<|Ka ?_;show Kw _ _ (holding [.ref (ps[i]).2.1,(ps[i]).2.2] (dictSet d (.ref (ps[i]).2.1) (ps[i]).2.2)) _ _ _;calc Kb ?_;let Y:L.DictOfH (cb knd) d (ps.take i):=rN hd (λo e=>(E.2 d h).trans e) G;refine wpAny_dictSet_heap (knd:=cb knd) (s:={ s with heap:=L }) (hsz:=by rw[fI];lia) hu (e5.stay G) Y λh2 m s2=>?_
  let y:∀b f,b≠I->b≠d->s.heap.get? b=N8 f->h2.get? b=N8 f:=λb f n1 x e=>(s2.2 b x).trans<|(E.2 b n1).trans e
  let Q:atKey (ps.take i) (ps[i]).1=none:=NY λj p v=>by
   let hj:j<i:=by have:=(JQ.mp v).1;rw[fI]at this;lia
   rw[KB hj]at v;let:=idxH_unique S v (show ps[i]?=N8 ((ps[i]).1,(ps[i]).2)from ep);lia
  rw[storedH_new Q]at m;let Z:ps.take i++[((ps[i]).1,(ps[i]).2.1,(ps[i]).2.2)]=ps.take (i+1):=(Qy ∅);rw[Z]at m;calc Ka (MK cE _,?_,);calc ih (i+1) { s with heap:=h2,toks:=s.toks+rJ (ps[i]).1 } 0 R ∅ ∅ (G7.at λf e=>(s2.2 I h.symm).trans e) (B.at λf e=>y ax f hI.symm W.symm e) m (λj p v=>?_) (λh3 C X O=>J h3 C X λb f n1 x e=>O b f n1 x<|y b f n1 x e);let(t',o',n',f1,N,M,f4,f5):=H j p v;calc(t',o',n',f1,y t' o' (F _ _ N M) (nd _ _ N M) N,M,f4,f5.stay λb o e c=>y b o (F b o e c) (nd b o e c) e,)
def tX{A:Kr}{E:Kd->Ks->Prop}{s:Ks}{ax:Ki}{items:Array Kd}{ps:Oo (Oo (Oo K)×Ki×Kd)}{Q:Kd->Ks->Prop}(J:A.handled=N9)(hu:A.units+6<Ly)(r:s.heap.IsList ax items)(D:∀o,s.heap.get? ax=N8 o->o.dict=N9)(B:⇑ps=items.size)(hsz:items.size<=Kk)(C:(ps.map (·.1)).Nodup)
  (R:∀(j:Nat)(p:Oo (Oo K)×Ki×Kd),ps[j]?=N8 p->∃(t:Ki)(o:Obj)(n:Nat),items[j]?=↑t/\s.heap.get? t=N8 o/\o.cls=.type "tuple" /\ o.data=.seq #[.ref p.2.1,p.2.2] n/\bX knd s.heap p.1 p.2.1)
  (S:∀h' v,h'.DictOfH (cb knd) ↥s ps->(∀b o,s.heap.get? b=N8 o->h'.get? b=N8 o)->Q (.ref ↥s) { s with heap:=h',toks:=v }) :
  Kw (model P w) A (call (.type "dict") [.ref ax]) Q E s:=by
 calc NG (Q₁:=λobj f=>obj=.ref ↥s/\f={ s with heap:=s.heap.push { cls:=.type "dict",data:=.dict #[] } }) F.kt_called_dict (F.kt_typeCall_dict_1 _) F.entry_dict_init (kt_code_dict_new _ (U,U,)) ?_;rintro obj f ⟨rfl,rfl⟩;let u:(s.heap.push { cls:=.type "dict",data:=.dict #[] }).DictOfH (cb knd) ↥s []:=Kj.DictOfH.new s.heap;let y:∀b o,s.heap.get? b=N8 o->(s.heap.push { cls:=.type "dict",data:=.dict #[] }).get? b=N8 o:=λb o e=>am _ e
 let l:=r.at λo e=>y ax o e
 let m:Ot { s with heap:=s.heap.push { cls:=.type "dict",data:=.dict #[] } } (.ref ↥s) "dict" := u.typeIs (s:={ s with heap:=s.heap.push { cls:=.type "dict",data:=.dict #[] } });calc(m,F.args_dict_init_2 _ _,?_,);unfold Le.«dict.__init__»;calc JZ ?_;unfold Le.Dict.selfAndRest;calc JZ<|N0 m ?_;show Kw _ _ (pure (↥s,[dL ax])) _ _ _;calc Ka ?_;show Kw _ _ (QM "dict.__init__" ↥s (.ref ax) [] .none) _ _ _;unfold QM;calc JZ<|LW l.typeIs ?_;rw[Of ⋯];let i:ax<↥s:=by let(o,e,_):=id r;exact bi e
 refine JZ<|yk (s:={ s with heap:=s.heap.push { cls:=.type "dict",data:=.dict #[] } }) l (λo e=>?_) (by simp[J]) λa h q=>?_
 .let(M,L,_):=id r;rw[y ax M L]at e;cases e;exact D _ L
 rw[Of (by rfl)];calc JZ<|MD ?_;let c:∀b o,s.heap.get? b=N8 o->a.get? b=N8 o:=λb o e=>q b o<|y b o e
 let k:a.IsList ax items:=r.at λo e=>c ax o e
 calc JZ<|Lc (s:={ s with heap:=a,toks:=h }) k ?_;let g:∀b o,a.get? b=N8 o->(a.push { cls:=.type "list_iterator",data:=.fields #[.ref ax,.int 0 0] }).get? b=N8 o:=λb o e=>am _ e
 let eI:(a.push { cls:=.type "list_iterator",data:=.fields #[.ref ax,.int 0 0] }).get? a.objs.size=N8 { cls:=.type "list_iterator",data:=.fields #[.ref ax,.int 0 0] }:=bn _ U;let G:(a.push { cls:=.type "list_iterator",data:=.fields #[.ref ax,.int 0 0] }).DictOfH (cb knd) ↥s (ps.take 0):=by
  rw[List.take_zero];exact rN u (λo e=>g _ _<|q _ _ e) λb o e _=>g _ _<|q _ _ e
 let x:↥s<a.objs.size:=by let(o,es,ep,O,_):=u;exact bi<|q _ _ O
 let z:ax<a.objs.size:=CD i x;calc Ka (MK cE _,?_,);refine rO (P:=P) (w:=w) (knd:=knd) (d:=↥s) (I:=a.objs.size) (ax:=ax) (items:=items) (ps:=ps) (res:=.none) (by simp[J]) (by simp only[Kr.in1];lia) (wz z) (vl x) (wz i) B C hsz items.size 0 { s with heap:=a.push { cls:=.type "list_iterator",data:=.fields #[.ref ax,.int 0 0] },toks:=h } 0 _ ∅ (v3 _) (_,eI,U,U,) (k.at λo e=>g ax o e) G (λj p Z=>?_) (λh' v H N=>?_)
 .let(t,o,n,Y,X,W,V,T):=R j p Z;exact(t,o,n,Y,g _ _<|c _ _ X,W,V,T.stay λb o e _=>g _ _<|c _ _ e,)
 .exact(U,S h' v H λb o e=>N b o (vl<|CD (bi e) x) (vl<|bi e)<|g _ _<|c _ _ e,)
end
def vS(J:X.calm=Oa){k:Nat}(hr:bu k X.A):cF X (.type "dict") (λxs H Q=>∃(l:Ki)(us:Oo V)(kvs:Oo (NK×Ki×V)),xs=[.ref l]/\H l=N8 (.lst us)/\⇑us=⇑kvs/\(∀(j:Nat)(p:NK×Ki×V),kvs[j]?=N8 p->∃t:Ki,us[j]?=↑t/\H t=N8 (.tup [.ref p.2.1,p.2.2]))/\ot H kvs/\(kvs.map (·.1)).Nodup/\∀p,H p=N9->Q (.ref p) (upd H p<|cC X.prog X.w p kvs)):=by
 intro S s σ H xs a0 Q I r h;let(l,us,kvs,rfl,el,M,ht,hK,G,q):=h;let(u,rfl,Z):=vals1 r;cases Z;let(i,n,K,O,L):=I.lst el;let B:=K.length;let(ps,z,v):=wX (P:=λj (a:NK×Ki×Kd)=>∃(p:NK×Ki×V)(t:Ki)(o:Obj)(m:Nat),kvs[j]?=N8 p/\a.1=p.1/\a.2.1=p.2.1/\i[j]?=↑t/\RelV p.2.2 a.2.2/\s.heap.get? t=N8 o/\o.cls=.type "tuple" /\ o.data=.seq #[.ref a.2.1,a.2.2] m) ⇑kvs λj hj=>by
  let N:=JP hj;let(t,c,f):=ht j _ N;let(T,d,D):=K.get c;cases (show T=dL t from D);let(_,C,F,o,ho,hc,m,hd):=I.hok t _ f;let(rest,rfl,rr):∃rest,C=.ref kvs[j].2.1 :: rest/\Vals [kvs[j].2.2] rest:=by
   cases F with
   |cons a b=>cases a;exact(_,U,b,)
  let(W,rfl,E):=vals1 rr;exact((kvs[j].1,kvs[j].2.1,W),kvs[j],t,o,m,N,U,U,d,E,ho,hc,~~~hd,)
 let g:PrN kvs ps:=qH (by rw[z]) λj x y ex ey=>by
  let(p,t,o,m,c,f,d,D,R,_):=v j y ey;rw[ex]at c;cases c;exact(f.symm,d.symm,R,)
 refine tX (knd:=Kn X.prog X.w) (items:=i.toArray) (ps:=ps) (I.ok.hd J) (by have:=hr.units;lia) (_,O,U,n,U,) (λo e=>by rw[O]at e;cases e;rfl) (by rw[dG,z,←M,B]) (by rw[dG,←B];exact L) (by rw[←g.keys];exact G) (λj a ea=>?_) λh' Y hd kp=>?_
 .let(p,t,o,m,c,f,d,D,R,e6,e7,e8):=v j a ea;exact(t,o,m,~~~D,e6,e7,e8,by rw[f,d];exact mV I.hok (hK _<|JR c),)
 .let(o,es,ep,h1,h2,h3,h4,_,h6):=hd;calc(.ref ↥s,_,I.laid (h':=h') (t':=Y) (o:=cC X.prog X.w ↥s kvs) kp (vk _)<|An (by rw[←M];exact L) (BB I) g h1 h2 h3 h4 h6,U,q _<|I.hok.fresh<|vk _,)
def xi{a:Oo (Ki×Obj)}{c:St}{H:Hp}{s:Ks}{f:Ki}{sp:Sp}{us:Oo Kd}{vs:Oo V}{Q:VK}(F:HFn X.prog X.w X.K X.mg X.base k f sp)(i:bu (k+1) X.A)(I:Inv X a c H s)(r:Vals vs us)(h:sp vs H Q E0):Kw (model X.prog X.w) X.A.in1 (call (.ref f) us) (EP X a c Q) (λ_ _=>False) s:=by
 let(p,g,F,l):=F;let j:⇑us=⇑g:=by rw[←⇑r];exact F.len _ _ _ _ h
 let n:q8 X.prog X.w X.K X.mg X.base X.A.in1 X.stack s H:=(I.ok.frames,I.env0.mod,I.env0.bs,I.env0.bsz,I.env0.funs,I.env0.frf,I.env0.hok,I.env0.bare,);let d:=l s us I.kIn (by rw[iI];exact j);rw[iI]at d;calc LD<|LF (F.run X.A.in1 X.stack s H (us,[],) us vs Q E0 i.in1 n d r h) λr o b=>?_;cases r with
 |error e=>exact b.elim
 |ok m =>
  cases m with
  |ret u=>exact I.after b
  |next=>exact io b
  |brk=>exact io b
  |cont=>calc io b
def qJ:∀{b:Oo Ki}{us:Oo Kd},Vals (b.map mt) us->us=b.map dL
 | [],_,.nil=>rfl
 |a :: b,_,.cons e r=>by cases e;rw[iJ,←qJ r]
def iY{a:Oo (Ki×Obj)}{d:St}{H:Hp}{s:Ks}{l:Ki}{c:Oo Ki}(I:Inv X a d H s)(h:SqL X.K H l (c.map mt)):s.heap.IsList l (c.map dL).toArray:=by
 let(f,e,b,_):=I.list h;rw[qJ e]at b;calc b.isList
def  kwE(e:Kz)(k:Nat):Kz:=match e with
 | .Call _ _ ks _=>match ks[k]? with
  |some q=>q.value
  |none=>e
 |_=>e
structure G8(X:Cx)(Od:Oo (Ki×Obj))(σ:St)(H:Hp)(I S l:Ki)(j:Nat)(vb:Kd)(kb:Int)(s:Ks):Prop where
 inv:Inv X Od σ H s
 it:s.heap.IsListIter I l j
 st:∃tb c,s.heap.get? S=N8 (seqObj "list" #[vb,.int kb tb] c)
def yx{g:Oo (Ki×Obj)}{σ:St}{H:Hp}{l q I S:Ki}{n:Oo Ki}{sp:Sp}{R:Lq->Ks->Prop}(d:Nat->Int)(c0:X.calm=Oa)(hr:bu (k+1) X.A)(hl:SqL X.K H l (n.map mt))(a9:l≠I)(N:S≠I)(b6:l≠S)
  (B:gY X g H I)(u:gY X g H S)(F:HFn X.prog X.w X.K X.mg X.base k q sp)(a7:∀(i:Nat)(a:Ki),n[i]?=N8 a->sp [.ref a] H (λy H'=>y=.int (d i)/\H'=H) E0)
  (hR:∀(i:Nat)(a:Ki)(s':Ks),n[i]?=N8 a->(∀j,j<⇑n->d i<=d j/\(j<i->d i<d j))->Inv X g σ H s'->R (.ok<|.ret<|.ref a) s') :
  ∀(r j i:Nat)(s:Ks)(a:Ki),⇑n-(j+1)=r->j+1<=⇑n->G8 X g σ H I S l (j+1) (.ref a) (d i) s->n[i]?=N8 a->i<=j->(∀p,p<=j->d i<=d p/\(p<i->d i<d p)) ->
   Lu (model X.prog X.w) X.A (.builtin "min.loop" ([.ref I,.ref q,.ref S],[],)) R s:=by
 let tY:(toString "min" ++ toString ".loop" : String) = "min.loop" := by decide
 let W:=QT (prog:=X.prog) (w:=X.w) (A:=X.A.in1) hr.hd I l a9 (n.map dL).toArray;let a0:(n.map dL).toArray.size=⇑n:=by simp
 intro r;induction r with
 |zero =>
  intro j i s a a8 hj M ha b1 f;let(Z,L,O,c,Y):=M;let b0:j+1=⇑n:=∅
  calc Mu PySem.F.entry_min_loop ?_;rw[lm PySem.F.plain_min_loop _];show Kw _ X.A.in1 (NO (.ref S) >>= _) _ _ s;calc JZ<|Nk Y U ?_;show Kw _ X.A.in1 (tryCatch (K2<|.ref I) _ >>= _) _ _ s;refine JZ (N6<|W.done _ _ _ (by rw[a0,←b0];exact L,iY Z hl,) λQ E C=>?_);let I1:Inv X g σ H { s with heap:=Q,toks:=E }:=Z.turned (λb o f e=>C b o (~~~f) e) B.1 B.2.1 B.2.2.2.1 B.2.2.2.2.1 B.2.2.2.2.2;let b4:=C S _ (~~~N) Y;let s1:=v4 Q S<|im λ_=>(#[]:Array Kd);show Kw _ X.A.in1 (Nt S (λ_=>#[]) >>= _) _ _ _;calc JZ<|Nu b4 U<|JZ<|NH<|Ka ?_;exact hR i a _ ha (λp a3=>f p ∅)<|I1.turned (λb o f e=>(s1.2 b f).trans e) u.1 u.2.1 u.2.2.2.1 u.2.2.2.2.1 u.2.2.2.2.2
 |succ r ih =>
  intro j i s a a8 hj M ha b1 f;let(Z,L,O,c,Y):=M;let J:j+1<⇑n:=∅
  calc Mu PySem.F.entry_min_loop ?_;rw[lm PySem.F.plain_min_loop _];show Kw _ X.A.in1 (NO (.ref S) >>= _) _ _ s;calc JZ<|Nk Y U ?_;show Kw _ X.A.in1 (tryCatch (K2<|.ref I) _ >>= _) _ _ s;refine JZ (N6<|W.item (j+1) _ _ _ (by rw[a0];exact J) (L,iY Z hl,) λv Q E hP DV C=>?_);let(m,a6,rfl):∃m,n[j+1]?=N8 m/\v=.ref m:=by
   rw[QP,dr]at hP;let(m,e1,e2):=JB.mp hP;exact(m,e1,e2.symm,)
  let(T,a2,a1,G):=id DV.1;let I1:Inv X g σ H { s with heap:=Q,toks:=E }:=Z.turned (λb o f e=>C b o (~~~f) e) B.1 B.2.1 B.2.2.2.1 B.2.2.2.2.1 B.2.2.2.2.2;let a5:=C S _ (~~~N) Y;let b5:=I1.pinned (fp:=[I,S]) (λb f=>by rcases af.mp f with rfl|f;calc B;rw[fo.mp f];exact u) (λb f=>by
   rcases af.mp f with rfl|f
   .exact⟨_,a2,λv z=>by rw[G]at z;cases z⟩
   .rw[fo.mp f];exact⟨_,a5,λv z=>by cases z⟩)
  show Kw _ X.A.in1 (tryCatch (holding [.ref m] (call (.ref q) [.ref m])) _ >>= _) _ _ _;calc JZ<|N6<|Kb<|KH (xi F hr b5 (vs:=[.ref m]) (.cons U .nil)<|a7 (j+1) m a6) (λx s2 he=>?_) λ_ _ hF=>hF.elim;let(y,H2,I2,ry,ey,eH):=he;subst ey eH;let(D,rfl):=ry;let pI:s2.heap.get? I=N8 T:=by
   let z:(I,T)∈dk [I,S] Q:=by unfold dk;simp[a2]
   exact(I2.pin (I,T)<|ik _<|ik _ z).1
  let pS:s2.heap.get? S=N8 (seqObj "list" #[.ref a,.int (d i) O] c):=by
   let z:(S,seqObj "list" #[.ref a,.int (d i) O] c)∈dk [I,S] Q:=by unfold dk;simp[a5]
   exact(I2.pin (S,_)<|ik _<|ik _ z).1
  let I3:=I2.unpinned;let G9:s2.heap.IsListIter I l (j+1+1):=(T,pI,a1,G,);show Kw _ X.A.in1 (tryCatch (holding [.ref m,.int (d<|j+1) D] (richCompare .Lt (.int (d<|j+1) D) (.int (d i) O) >>= _)) _ >>= _) _ _ _;calc JZ<|N6<|Kb<|JZ<|CmpOf.ints_lt (prog:=X.prog) (w:=X.w) (A:=X.A.in1) (P:=λi v=>∃t,v=.int (d i) t) d (λi v h=>h) (j+1) i _ _ _ _ _ (D,U,) (O,U,) ?_;calc JZ<|Kb<|KO<|JZ<|NH<|Ka ?_;by_cases a4:d (j+1)<d i
  .let s1:=v4 s2.heap S<|im λ_=>#[.ref m,.int (d<|j+1) D];let(c2,b3):∃c2,(s2.heap.update S<|im λ_=>#[.ref m,.int (d<|j+1) D]).get? S=N8 (seqObj "list" #[.ref m,.int (d<|j+1) D] c2):=(_,get?_update_seq pS λ_=>#[.ref m,.int (d<|j+1) D],);simp only[a4,decide_true,if_true];calc JZ<|Nu pS U<|JZ<|NH ?_;rw[tY];calc Ka (MK PySem.F.plain_min_loop _,ih (j+1) (j+1) _ m ∅ J (I3.turned (λb o f e=>(s1.2 b f).trans e) u.1 u.2.1 u.2.2.2.1 u.2.2.2.2.1 u.2.2.2.2.2,(T,(s1.2 I N.symm).trans pI,a1,G,),_,c2,b3,) a6 (vk _) λp a3=>?_,);by_cases e:p=j+1
   .subst e;exact(∅,λ_=>∅,)
   .let h1:=(f p ∅).1;exact(∅,λ_=>∅,)
  .simp only[a4,decide_false,Jy,if_false];calc JZ<|NH ?_;rw[tY];calc Ka (MK PySem.F.plain_min_loop _,ih (j+1) i _ a ∅ J (I3,G9,O,c,pS,) ha ∅ λp a3=>?_,);by_cases e:p=j+1
   .subst e;exact(∅,λ_=>∅,)
   .exact f p ∅
def vT{c:Oo (Ki×Obj)}{P:St}{H:Hp}{s:Ks}{l q:Ki}{n:Oo Ki}{sp:Sp}{Q:VK}(g:Nat->Int)(a3:X.calm=Oa)(Y:bu (k+1) X.A)(u:Inv X c P H s)(Z:SqL X.K H l (n.map mt))(E:0<⇑n)(F:HFn X.prog X.w X.K X.mg X.base k q sp)
  (turn:∀(i:Nat)(a:Ki),n[i]?=N8 a->sp [.ref a] H (λy H'=>y=.int (g i)/\H'=H) E0)
  (hQ:∀(i:Nat)(a:Ki),n[i]?=N8 a->(∀j,j<⇑n->g i<=g j/\(j<i->g i<g j))->Q (.ref a) H) :
  Kw (model X.prog X.w) X.A (call (.builtin "min") [.ref l] [(s!"key",.ref q)]) (EP X c P Q) X.xe s:=by
 let tY:(toString "min" ++ toString ".loop" : String) = "min.loop" := by decide
 let G:=iY u Z;let J:l<↥s:=by let(o,e,_):=id G;exact bi e
 calc kmk_tree PySem.F.kind_min PySem.F.plain_min PySem.F.entry_min (kmk_min_key _ _) ?_;show Kw _ X.A.in1 (P0 "min" ["key","default"] 0 ([],[(s!"key",.ref q)],) >>= _) _ _ s;refine JZ<|Mx (show P0 "min" ["key","default"] 0 ([],[(s!"key",.ref q)],)=pure [↑q,N9]from U) (JZ<|Ka ?_);calc JZ<|Lc G<|JZ<|NI ?_<|v3 _;rw[tY];generalize eh:s.heap.push { cls:=.type "list_iterator",data:=.fields #[.ref l,.int 0 0] }=hp;let hS:hp.objs.size=↥s+1:=by rw[←eh];exact size_push' ..
 let k0:∀b o,s.heap.get? b=N8 o->(hp.push<|seqObj "list" #[] 0).get? b=N8 o:=λb o e=>am _ (by rw[←eh];exact am _ e)
 let gI:(hp.push<|seqObj "list" #[] 0).get? ↥s=N8 { cls:=.type "list_iterator",data:=.fields #[.ref l,.int 0 0] }:=am _ (by rw[←eh];exact bn _ U);let T:(hp.push<|seqObj "list" #[] 0).get? hp.objs.size=N8 (seqObj "list" #[] 0):=bn _ U;let big:↥s<=hp.objs.size:=by rw[hS];exact w5 _
 let r:gY X c H ↥s:=u.fpOk (vk _)<|u.hok.fresh<|vk _;let p:gY X c H hp.objs.size:=u.fpOk big<|u.hok.fresh big;let t:l≠↥s:=vl J;let m:hp.objs.size≠↥s:=by rw[hS];exact Nat.succ_ne_self _
 let L:l≠hp.objs.size:=vl<|v5 J big;let I0:Inv X c P H { s with heap:=hp.push (seqObj "list" #[] 0) }:=u.kept (t':=s.toks) k0;generalize es:hp.objs.size=S at T p m L;generalize ei:↥s=I at gI r t m;generalize hp.push (seqObj "list" #[] 0)=h0 at gI T I0;calc Ka (MK PySem.F.plain_min_loop _,?_,);let W:=QT (prog:=X.prog) (w:=X.w) (A:=X.A.in1) Y.hd I l t (n.map dL).toArray;let a1:(n.map dL).toArray.size=⇑n:=by simp
 calc Mu PySem.F.entry_min_loop ?_;rw[lm PySem.F.plain_min_loop _];show Kw _ X.A.in1 (NO (.ref S) >>= _) _ _ _;calc JZ<|Nk T U ?_;show Kw _ X.A.in1 (tryCatch (K2<|.ref I) _ >>= _) _ _ _;refine JZ (N6<|W.item 0 _ _ _ (by rw[a1];exact E) ((_,gI,U,U,),iY I0 Z,) λv h' a0 hP DV M=>?_);let(d,O,rfl):∃d,n[0]?=N8 d/\v=.ref d:=by
  rw[QP,dr]at hP;let(d,e1,e2):=JB.mp hP;exact(d,e1,e2.symm,)
 let(R,D,a2,C):=id DV.1;let I1:Inv X c P H { s with heap:=h',toks:=a0 }:=I0.turned (λb o f e=>M b o (~~~f) e) r.1 r.2.1 r.2.2.2.1 r.2.2.2.2.1 r.2.2.2.2.2;let N:=M S _ (~~~m) T;let a5:=I1.pinned (fp:=[I,S]) (λb f=>by rcases af.mp f with rfl|f;calc r;rw[fo.mp f];exact p) (λb f=>by
  rcases af.mp f with rfl|f
  .exact⟨_,D,λv z=>by rw[C]at z;cases z⟩
  .rw[fo.mp f];exact⟨_,N,λv z=>by cases z⟩)
 show Kw _ X.A.in1 (tryCatch (holding [.ref d] (call (.ref q) [.ref d])) _ >>= _) _ _ _;calc JZ<|N6<|Kb<|KH (xi F Y a5 (vs:=[.ref d]) (.cons U .nil)<|turn 0 d O) (λx s2 he=>?_) λ_ _ hF=>hF.elim;let(y,H2,I2,ry,ey,eH):=he;subst ey eH;let(B,rfl):=ry;let pI:s2.heap.get? I=N8 R:=by
  let z:(I,R)∈dk [I,S] h':=by unfold dk;simp[D]
  exact(I2.pin (I,R)<|ik _<|ik _ z).1
 let pS:s2.heap.get? S=N8 (seqObj "list" #[] 0):=by
  let z:(S,seqObj "list" #[] 0)∈dk [I,S] h':=by unfold dk;simp[N]
  exact(I2.pin (S,_)<|ik _<|ik _ z).1
 let I3:=I2.unpinned;let s1:=v4 s2.heap S<|im λ_=>#[.ref d,.int (g 0) B];let(c2,a4):∃c2,(s2.heap.update S<|im λ_=>#[.ref d,.int (g 0) B]).get? S=N8 (seqObj "list" #[.ref d,.int (g 0) B] c2):=(_,get?_update_seq pS λ_=>#[.ref d,.int (g 0) B],);show Kw _ X.A.in1 (Nt S (λ_=>#[.ref d,.int (g 0) B]) >>= _) _ _ _;calc JZ<|Nu pS U ?_;rw[tY];calc Ka (MK PySem.F.plain_min_loop _,yx g a3 Y Z t m L r p F turn (λi a s' hi f I'=>(.ref a,_,I',U,hQ i a hi f,)) _ 0 0 _ d U E (I3.turned (λb o f e=>(s1.2 b f).trans e) p.1 p.2.1 p.2.2.2.1 p.2.2.2.2.1 p.2.2.2.2.2,(R,(s1.2 I m.symm).trans pI,a2,C,),_,c2,a4,) O (vk _) λj' a6=>?_,);let e:j'=0:=∅
 subst e;calc(∅,λh=>Og h<|w4 _,)
inductive CS(X:Cx)(k:Nat)(Q:VK)(x:V)(y:V)(H:Hp):Prop
 |mk (l q:Ki)(as:Oo Ki)(sp:Sp)(kf:Nat->Int)(_:x=.ref l)(_:y=.ref q)(_:SqL X.K H l (as.map mt))(_:0<⇑as)(_:HFn X.prog X.w X.K X.mg X.base k q sp)(_:∀(i:Nat)(a:Ki),as[i]?=N8 a->sp [.ref a] H (λy H'=>y=.int (kf i)/\H'=H) E0)
  (_:∀(i:Nat)(a:Ki),as[i]?=N8 a->(∀j,j<⇑as->kf i<=kf j/\(j<i->kf i<kf j))->Q (.ref a) H):CS X k Q x y H
def  FJ(X:Cx)(k:Nat)(c b:TE):TE:=λa H Q=>c a H λx e=>b a e λy d=>CS X k Q x y d
def BN{e f:Kz}{i g:TE}{p pos w:Pos}(c:X.calm=Oa)(B:bu (k+1) X.A)(G:Gl X "min") (hm:X.mg "min" = N9) (he:PE X e i)(J:PE X f g)(b:KD [e] X.env=[(Ob,eval e X.env)]:=by rfl) :
  PE X (.Call (.Name "min" p) [e] [(N8 s!"key",f,w,)] pos) (FJ X k i g):=by
 intro a s d H Q I h;refine Kc (fK (u:=.builtin "min") I G hm (by kernel_rfl) ?_);refine callWith_kw ?_ (by rw[b];rfl) (by rw[b];rfl);rw[b];show Kw _ _ (spliced ((Ob,eval e X.env) :: KC pos (KD [] X.env))) _ _ s;calc Pz<|thn (he a s d H _ I h) λu m (x,M,L,o,t,)=>PC<|kws_cons<|thn (J a m d M _ L t) λv s2 (y,P,K,n,r,)=>kws_nil ?_;let(l,q,O,N,z,rfl,rfl,E,D,F,j,C):=r;cases o;cases n;calc vT z c B K E D F j C
end _L
set_option Elab.async false
set_option maxRecDepth 100000
set_option linter.all false
open Lean Parser.Tactic in
local macro_rules(kind:=Lean.Parser.Tactic.obtain)|s=>do
 let p:=s[1][0]
 if p[0][0].getKind==``rcasesPat.tuple&&p[0][0][1].getNumArgs>3&&s[2].isNone then `(tactic|(show let G:Prop:=_;G;intro G;rcases $(⟨s[3][1][0]⟩):term with $(⟨p⟩):rcasesPatMed<;>(unfold G;clear G))) else Macro.throwUnsupported
open Lean Parser.Tactic in
local macro_rules(kind:=Lean.Parser.Tactic.rintro)|s=>do
 let a:=s[1].getArgs
 let n:=Syntax.node .none
 let some i:=a.findIdx? λp=>p[0].getKind==``rcasesPat.tuple&&p[0][1].getNumArgs>3|Macro.throwUnsupported
 let f:=λx:Array Syntax=>n s.getKind #[s[0],n `null x,s[2]]
 let m←`(tactic|(intro h;obtain $(⟨n ``rcasesPatMed #[n `null #[a[i]![0]]]⟩):rcasesPatMed := h))
 let m←if i=0 then pure m else `(tactic|($(⟨f a[:i]⟩);$m))
 if i+1=a.size then pure m else `(tactic|($m;$(⟨f a[i+1:]⟩)))
namespace _M
open PySem _L
inductive E2{α0 α1:Type}(p:α0->α1->Prop):Prop
 |mk (x0:α0)(x1:α1)(h:p x0 x1):E2 p
inductive E3{α0 α1 α2:Type}(p:α0->α1->α2->Prop):Prop
 |mk (x0:α0)(x1:α1)(x2:α2)(h:p x0 x1 x2):E3 p
inductive E4{α0 α1 α2 α3:Type}(p:α0->α1->α2->α3->Prop):Prop
 |mk (x0:α0)(x1:α1)(x2:α2)(x3:α3)(h:p x0 x1 x2 x3):E4 p
inductive E6{α0 α1 α2 α3 α4 α5:Type}(p:α0->α1->α2->α3->α4->α5->Prop):Prop
 |mk (x0:α0)(x1:α1)(x2:α2)(x3:α3)(x4:α4)(x5:α5)(h:p x0 x1 x2 x3 x4 x5):E6 p
inductive E7{α0 α1 α2 α3 α4 α5 α6:Type}(p:α0->α1->α2->α3->α4->α5->α6->Prop):Prop
 |mk (x0:α0)(x1:α1)(x2:α2)(x3:α3)(x4:α4)(x5:α5)(x6:α6)(h:p x0 x1 x2 x3 x4 x5 x6):E7 p
inductive E8{α0 α1 α2 α3 α4 α5 α6 α7:Type}(p:α0->α1->α2->α3->α4->α5->α6->α7->Prop):Prop
 |mk (x0:α0)(x1:α1)(x2:α2)(x3:α3)(x4:α4)(x5:α5)(x6:α6)(x7:α7)(h:p x0 x1 x2 x3 x4 x5 x6 x7):E8 p
inductive A3(p0 p1 p2:Prop):Prop
 |mk (h0:p0)(h1:p1)(h2:p2)
inductive A4(p0 p1 p2 p3:Prop):Prop
 |mk (h0:p0)(h1:p1)(h2:p2)(h3:p3)
inductive A5(p0 p1 p2 p3 p4:Prop):Prop
 |mk (h0:p0)(h1:p1)(h2:p2)(h3:p3)(h4:p4)
inductive A6(p0 p1 p2 p3 p4 p5:Prop):Prop
 |mk (h0:p0)(h1:p1)(h2:p2)(h3:p3)(h4:p4)(h5:p5)
def  top(i:Nat):KG:=PySem.Challenge.pw_rowjudge_k59_too_fine.main.body.getD i<|.Pass (0,0,0,0,)
abbrev Y42:KG:=top 11
abbrev Y38:KG:=top 12
abbrev Y71:KG:=top 13
abbrev Y41:KG:=top 16
abbrev Y37:KG:=top 17
abbrev Y33:KG:=top 18
abbrev Y54:KG:=top 19
abbrev Y34:KG:=top 20
abbrev Y56:KG:=top 21
abbrev Y30:KG:=top 22
abbrev Y57:KG:=top 23
abbrev Y58:KG:=top 24
abbrev Y40:KG:=top 25
abbrev Y36:KG:=top 26
abbrev Y29:KG:=top 31
abbrev Y44:KG:=top 32
abbrev Y43:KG:=top 33
abbrev Y75:KG:=top 47
abbrev Y67:KG:=top 52
abbrev Y66:KG:=top 53
abbrev Y69:KG:=top 54
abbrev Y68:KG:=top 55
abbrev Y60:KG:=top 56
abbrev Y39:KG:=top 57
abbrev Y59:KG:=top 58
abbrev Y45:KG:=top 59
abbrev Y72:KG:=top 61
abbrev Y73:KG:=top 62
abbrev Y35:KG:=top 63
abbrev s_row_form:KG:=top 64
abbrev s_verdict_form:KG:=top 65
abbrev Y77:KG:=top 69
abbrev Y55:KG:=top 72
abbrev Y31:KG:=top 73
abbrev Y64:KG:=top 74
abbrev Y65:KG:=top 75
abbrev Y32:KG:=top 76
abbrev Y61:KG:=top 77
abbrev Y76:KG:=top 78
abbrev s_plan_of:KG:=top 79
abbrev Y63:KG:=top 80
abbrev Y47:KG:=top 82
abbrev Y49:KG:=top 83
abbrev Y53:KG:=top 84
abbrev Y50:KG:=top 85
abbrev Y52:KG:=top 86
abbrev Y48:KG:=top 87
abbrev Y51:KG:=top 88
abbrev Y16:KG:=inClass (top 51) 0
abbrev Y11:KG:=inClass (top 35) 0
abbrev Y0:KG:=inClass (top 34) 0
abbrev Y3:KG:=inClass (top 41) 0
abbrev Y17:KG:=inClass (top 40) 0
abbrev Y12:KG:=inClass (top 42) 0
abbrev Y21:KG:=inClass (top 40) 0
abbrev Y7:KG:=inClass (top 43) 0
abbrev Y19:KG:=inClass (top 40) 0
abbrev Y9:KG:=inClass (top 44) 0
abbrev Y20:KG:=inClass (top 40) 0
abbrev Y5:KG:=inClass (top 45) 0
abbrev Y18:KG:=inClass (top 40) 0
abbrev Y14:KG:=inClass (top 46) 0
abbrev Y22:KG:=inClass (top 40) 0
abbrev Y1:KG:=inClass (top 34) 5
abbrev Y2:KG:=inClass (top 34) 5
abbrev Y23:KG:=inClass (top 40) 1
abbrev Y4:KG:=inClass (top 41) 1
abbrev Y27:KG:=inClass (top 40) 1
abbrev Y13:KG:=inClass (top 42) 1
abbrev Y25:KG:=inClass (top 40) 1
abbrev Y8:KG:=inClass (top 43) 1
abbrev Y26:KG:=inClass (top 40) 1
abbrev Y10:KG:=inClass (top 44) 1
abbrev Y24:KG:=inClass (top 40) 1
abbrev Y6:KG:=inClass (top 45) 1
abbrev Y28:KG:=inClass (top 40) 1
abbrev Y15:KG:=inClass (top 46) 1
abbrev Y46:KG:=top 89
abbrev Y70:Kz:=CN ((bE s_row_form).getD 0<|.Pass (0,0,0,0,)) 2
def Z72{c_0:Ki}:n8 ["codes","table"] ["codes"] (iw Y70) [("table",c_0)]:=(U,U,U,~~~0,U,~~~0,~~~0,vK U,)
abbrev Y74:Kz:=CN ((bE s_verdict_form).getD 0<|.Pass (0,0,0,0,)) 2
def Z77{c_0:Ki}:n8 ["rows","table"] ["rows"] (iw Y74) [("table",c_0)]:=(U,U,U,~~~0,U,~~~0,~~~0,vK U,)
abbrev Y62:Kz:=kwE (G3<|(bE s_plan_of).getD 3<|.Pass (0,0,0,0,)) 0
def Z63:n8 ["plan"] ["plan"] (iw Y62) []:=(U,U,U,~~~0,U,~~~0,~~~0,vK U,)
def Z42:ar ["spans","number","low","high"] ["spans","number"] (ao Y42):=fsc
def Z38:ar ["spans","low","high","turns","first","last"] ["spans","low","high"] (ao Y38):=fsc
def Z73:ar ["low","high","marks","cuts","lows","highs"] ["low","high","marks"] (ao Y71):=fsc
def Z41:ar ["bounds","marks","product","parts"] ["bounds","marks"] (ao Y41):=fsc
def Z37:ar ["bounds","marks"] ["bounds","marks"] (ao Y37):=fsc
def Z33:ar ["bounds","marks","leaf"] ["bounds","marks","leaf"] (ao Y33):=fsc
def Z54:ar ["columns","ahead","leaf"] ["columns","ahead","leaf"] (ao Y54):=fsc
def Z34:ar ["triples","form","low","high","beneath"] ["triples"] (ao Y34):=fsc
def Z56:ar ["form","codes","found","code"] ["form","codes"] (ao Y56):=fsc
def Z30:ar ["form","code","at"] ["form","code"] (ao Y30):=fsc
def Z57:ar ["form","deep","change"] ["form","deep","change"] (ao Y57):=fsc
def Z58:ar ["form","deep","marks","further","column"] ["form","deep"] (ao Y58):=fsc
def Z40:ar ["lists","numbers","some"] ["lists"] (ao Y40):=fsc
def Z36:ar ["box"] ["box"] (ao Y36):=fsc
def Z29:ar ["text","signs","sign"] ["text","signs"] (ao Y29):=fsc
def Z44:ar ["text"] ["text"] (ao Y44):=fsc
def Z43:ar ["value"] ["value"] (ao Y43):=fsc
def Z78:ar ["name","way"] ["name"] (ao Y75):=fsc
def Z68:ar ["names","name"] ["names"] (ao Y67):=fsc
def Z67:ar ["names","rows"] ["names","rows"] (ao Y66):=fsc
def Z70:ar ["way","outcome"] ["way","outcome"] (ao Y69):=fsc
def Z69:ar ["domains","outcome","cells","code","domain","spans","low","high"] ["domains","outcome","cells","code"] (ao Y68):=fsc
def Z60:ar ["cells","code"] ["cells","code"] (ao Y60):=fsc
def Z39:ar ["table","k","codes","cells","spans","code"] ["table","k","codes"] (ao Y39):=fsc
def Z59:ar ["table","codes"] ["table","codes"] (ao Y59):=fsc
def Z45:ar ["table","rows","codes"] ["table","rows"] (ao Y45):=fsc
def Z74:ar ["table"] ["table"] (ao Y72):=fsc
def Z75:ar ["table"] ["table"] (ao Y73):=fsc
def Z35:ar ["table","column","domain"] ["table","column"] (ao Y35):=fsc
def Z71:ar ["table"] ["table"] (ao s_row_form):=fsc
def Z76:ar ["table"] ["table"] (ao s_verdict_form):=fsc
def Z80:ar ["box","column","pair"] ["box","column","pair"] (ao Y77):=fsc
def Z55:ar ["table","prices"] ["table","prices"] (ao Y55):=fsc
def Z31:ar ["table","prices"] ["table","prices"] (ao Y31):=fsc
def Z65:ar ["table","prices","bounds","form","marks","costs","plans","block"] ["table","prices"] (ao Y64):=fsc
def Z66:ar ["marks","product","cuts"] ["marks"] (ao Y65):=fsc
def Z32:ar ["bounds","marks","blocks","bound","cuts"] ["bounds","marks"] (ao Y32):=fsc
def Z61:ar ["parts","pairs","further","first"] ["parts"] (ao Y61):=fsc
def Z79:ar ["blocks","pairs","wider","block","pair"] ["blocks","pairs"] (ao Y76):=fsc
def Z62:ar ["plans","block","marks","costs","form","choices","column","cuts","cut"] ["plans","block","marks","costs","form"] (ao s_plan_of):=fsc
def Z64:ar ["plans","block","column","cut","cost","below","above"] ["plans","block","column","cut","cost"] (ao Y63):=fsc
def Z47:ar ["script","k"] ["script","k"] (ao Y47):=fsc
def Z49:ar ["cell"] ["cell"] (ao Y49):=fsc
def Z53:ar ["script","cell","way"] ["script"] (ao Y53):=fsc
def Z50:ar ["script","sizes","domains","parts","k","low","wide","names"] ["script","sizes"] (ao Y50):=fsc
def Z52:ar ["script","cell"] ["script"] (ao Y52):=fsc
def Z48:ar ["script","size","low","rows","start","spans"] ["script","size"] (ao Y48):=fsc
def Z51:ar ["table","whole","refused","e"] ["table","whole"] (ao Y51):=fsc
def Z16:ar ["self","name","names","domains","outcome","way","rows","cells","code"] ["self","name","names","domains","outcome","way","rows"] (ao Y16):=fsc
def Z11:ar ["self","low","high"] ["self","low","high"] (ao Y11):=fsc
def Z0:ar ["self","low","high"] ["self","low","high"] (ao Y0):=fsc
def Z3:ar ["self"] ["self"] (ao Y3):=fsc
def Z17:ar ["self","called"] ["self","called"] (ao Y17):=fsc
def Z12:ar ["self"] ["self"] (ao Y12):=fsc
def Z21:ar ["self","called"] ["self","called"] (ao Y21):=fsc
def Z7:ar ["self"] ["self"] (ao Y7):=fsc
def Z19:ar ["self","called"] ["self","called"] (ao Y19):=fsc
def Z9:ar ["self"] ["self"] (ao Y9):=fsc
def Z20:ar ["self","called"] ["self","called"] (ao Y20):=fsc
def Z5:ar ["self"] ["self"] (ao Y5):=fsc
def Z18:ar ["self","called"] ["self","called"] (ao Y18):=fsc
def Z14:ar ["self"] ["self"] (ao Y14):=fsc
def Z22:ar ["self","called"] ["self","called"] (ao Y22):=fsc
def Z1:ar ["self","value"] ["self","value"] (ao Y1):=fsc
def Z2:ar ["self","value"] ["self","value"] (ao Y2):=fsc
def Z23:ar ["self","codes","outcome"] ["self","codes","outcome"] (ao Y23):=fsc
def Z4:ar ["self","codes","outcome"] ["self","codes","outcome"] (ao Y4):=fsc
def Z27:ar ["self","codes","outcome"] ["self","codes","outcome"] (ao Y27):=fsc
def Z13:ar ["self","codes","outcome"] ["self","codes","outcome"] (ao Y13):=fsc
def Z25:ar ["self","codes","outcome"] ["self","codes","outcome"] (ao Y25):=fsc
def Z8:ar ["self","codes","outcome"] ["self","codes","outcome"] (ao Y8):=fsc
def Z26:ar ["self","codes","outcome"] ["self","codes","outcome"] (ao Y26):=fsc
def Z10:ar ["self","codes","outcome"] ["self","codes","outcome"] (ao Y10):=fsc
def Z24:ar ["self","codes","outcome"] ["self","codes","outcome"] (ao Y24):=fsc
def Z6:ar ["self","codes","outcome"] ["self","codes","outcome"] (ao Y6):=fsc
def Z28:ar ["self","codes","outcome"] ["self","codes","outcome"] (ao Y28):=fsc
def Z15:ar ["self","codes","outcome"] ["self","codes","outcome"] (ao Y15):=fsc
def Z46:ar ["script","whole","sizes","count","size","table","told"] ["script"] (ao Y46):=fsc
structure AD where (a b c d e f g h i j k l m n o p:Ki)
structure Bk(K:bd)(Y:AD):Prop where
 n_TableError:li K Ko "TableError" = N8 ↑Y.a
 n_TooFine:li K Ko "TooFine" = N8 ↑Y.b
 n_TooMany:li K Ko "TooMany" = N8 ↑Y.c
 n_Way:li K Ko "Way" = N8 ↑Y.d
 n_First:li K Ko "First" = N8 ↑Y.e
 n_Only:li K Ko "Only" = N8 ↑Y.f
 n_Like:li K Ko "Like" = N8 ↑Y.g
 n_Low:li K Ko "Low" = N8 ↑Y.h
 n_High:li K Ko "High" = N8 ↑Y.i
 n_Sum:li K Ko "Sum" = N8 ↑Y.j
 n_Domain:li K Ko "Domain" = N8 ↑Y.k
 n_Numbers:li K Ko "Numbers" = N8 ↑Y.l
 n_Words:li K Ko "Words" = N8 ↑Y.m
 n_Table:li K Ko "Table" = N8 ↑Y.n
 n_NONE:li K Ko "NONE" = N8 ↑Y.o
 n_CLASH:li K Ko "CLASH" = N8 ↑Y.p
 x_TooFine:ExcCls K Y.b
 l_TooFine:kl K Y.b
 k_First:Cls K Y.e
 k_Only:Cls K Y.f
 k_Like:Cls K Y.g
 k_Low:Cls K Y.h
 k_High:Cls K Y.i
 k_Sum:Cls K Y.j
 k_Numbers:Cls K Y.l
 k_Words:Cls K Y.m
 k_Table:Cls K Y.n
 t_First:nV K Y.e
 t_Only:nV K Y.f
 t_Like:nV K Y.g
 t_Low:nV K Y.h
 t_High:nV K Y.i
 t_Sum:nV K Y.j
 t_Numbers:nV K Y.l
 t_Words:nV K Y.m
 t_Table:nV K Y.n
 q_NONE:ModT K Y.o [.str "none",.int (0)]
 q_CLASH:ModT K Y.p [.str "clash",.int (0)]
 na_First_called:NoAttr K Y.e "called"
 na_Only_called:NoAttr K Y.f "called"
 na_Like_called:NoAttr K Y.g "called"
 na_Low_called:NoAttr K Y.h "called"
 na_High_called:NoAttr K Y.i "called"
 na_Sum_called:NoAttr K Y.j "called"
 na_Numbers_low:NoAttr K Y.l "low"
 na_Numbers_high:NoAttr K Y.l "high"
 na_Numbers_words:NoAttr K Y.l "words"
 na_Words_low:NoAttr K Y.m "low"
 na_Words_high:NoAttr K Y.m "high"
 na_Words_words:NoAttr K Y.m "words"
 na_Table_name:NoAttr K Y.n "name"
 na_Table_names:NoAttr K Y.n "names"
 na_Table_domains:NoAttr K Y.n "domains"
 na_Table_outcome:NoAttr K Y.n "outcome"
 na_Table_way:NoAttr K Y.n "way"
 na_Table_rows:NoAttr K Y.n "rows"
 f_nn:KT K (.ref Y.l) (.ref Y.l)=N8 Oa
 f_wn:KT K (.ref Y.m) (.ref Y.l)=N8 Ob
 f_ww:KT K (.ref Y.m) (.ref Y.m)=N8 Oa
 f_tt:KT K (.ref Y.n) (.ref Y.n)=N8 Oa
 f_nw:KT K (.ref Y.l) (.ref Y.m)=N8 Ob
 e_TooFine:W.exmOne K (.ref Y.b) (.ref Y.a)=N8 Oa
 v_TooFine:KT K (.ref Y.b) (.type "ValueError")=N8 Oa
 g_TooFine_TooFine:KT K (.ref Y.b) (.ref Y.b)=N8 Oa
 g_TooFine_TooMany:KT K (.ref Y.b) (.ref Y.c)=N8 Ob
 nt0:∀z z',lc K "row_form" = N8 z->lc K "verdict_form" = N8 z'->z.2≠z'.2
 nt1:∀z z',lc K "row_form" = N8 z->lc K "plan_of" = N8 z'->z.2≠z'.2
 nt2:∀z z',lc K "verdict_form" = N8 z->lc K "plan_of" = N8 z'->z.2≠z'.2
structure Bl(K:bd)(mg:Str->Option Kd)(Y:AD):Prop extends Bk K Y where
 TableError_:mg "TableError" = ↑Y.a
 TooFine_:mg "TooFine" = ↑Y.b
 TooMany_:mg "TooMany" = ↑Y.c
 Way_:mg "Way" = ↑Y.d
 First_:mg "First" = ↑Y.e
 Only_:mg "Only" = ↑Y.f
 Like_:mg "Like" = ↑Y.g
 Low_:mg "Low" = ↑Y.h
 High_:mg "High" = ↑Y.i
 Sum_:mg "Sum" = ↑Y.j
 Domain_:mg "Domain" = ↑Y.k
 Numbers_:mg "Numbers" = ↑Y.l
 Words_:mg "Words" = ↑Y.m
 Table_:mg "Table" = ↑Y.n
 NONE_:mg "NONE" = ↑Y.o
 CLASH_:mg "CLASH" = ↑Y.p
 sorted_:mg "sorted" = N9
 list_:mg "list" = N9
 set_:mg "set" = N9
 zip_:mg "zip" = N9
 len_:mg "len" = N9
 tuple_:mg "tuple" = N9
 range_:mg "range" = N9
 isinstance_:mg "isinstance" = N9
 int_:mg "int" = N9
 bool_:mg "bool" = N9
 sum_:mg "sum" = N9
 enumerate_:mg "enumerate" = N9
 dict_:mg "dict" = N9
 min_:mg "min" = N9
 max_:mg "max" = N9
 ValueError_:mg "ValueError" = N9
 MOST_GRAIN_:∃u,mg "MOST_GRAIN" = N8 u/\RelV (ut 300) u
 MOST_SIGNS_:∃u,mg "MOST_SIGNS" = N8 u/\RelV (ut 12) u
 SMALL_LETTERS_:∃u,mg "SMALL_LETTERS" = N8 u/\RelV (v0 "abcdefghijklmnopqrstuvwxyz") u
 MOST_ROWS_:∃u,mg "MOST_ROWS" = N8 u/\RelV (ut 200) u
 MOST_COLUMNS_:∃u,mg "MOST_COLUMNS" = N8 u/\RelV (ut 4) u
 MOST_BLOCKS_:∃u,mg "MOST_BLOCKS" = N8 u/\RelV (ut 600) u
 SAY_:∃u,mg "SAY" = N8 u/\RelV (v0 "say") u
 ASK_:∃u,mg "ASK" = N8 u/\RelV (v0 "ask") u
def He{n:Int}{p:Int×Int}(c:decide (p.1<=n)=Oa)(d:decide (n<=p.2)=Oa):inR n p=true:=by unfold inR;rw[c,d];rfl
def FK{n:Int}{p:Int×Int}(c:¬ decide (p.1<=n)=Oa):inR n p=false:=by unfold inR;rw[Jo.mpr c];rfl
def FL{n:Int}{p:Int×Int}(d:¬ decide (n<=p.2)=Oa):inR n p=false:=by unfold inR;rw[Jo.mpr d,FM]
def FN{xs:Oo V}{i:Nat}{x:V}(e:xs[i]?=N8 x):atI xs (0+(i:Int))=N8 x:=by
 rw[QR];calc cP e
def eF{H:Hp}{r:Ki}{o:HO}{b:Ki}{u:HO}(h:H r=N8 u)(n:H b=N9):upd H b o r=N8 u:=by rw[av (aV h n)];calc h
def Ar{n:Nat}(h:0<n):ixN n (-1)=N8 (n-1):=by
 unfold ixN;rw[Oe ⋯,Of ∅]
 congr 1
 lia
def As{α:Type}(l:Oo α)(x y:α):(l++[x]).set (⇑(l++[x])-1) y=l++[y]:=by
 let e:⇑(l++[x])-1=⇑l:=by simp
 rw[e,sY _ _<|vk _,Bu];rfl
def take_snoc{α:Type}{l:Oo α}{i:Nat}{x:α}(e:l[i]?=N8 x):l.take (i+1)=l.take i++[x]:=by rw[nF,e];rfl
def get_map{a:Oo Int}{i:Nat}{c:Int}(e:a[i]?=N8 c):(a.map ut)[i]?=N8 (.int c):=by rw[dr,e];rfl
def of_map{a:Oo Int}{i:Nat}{x:V}(e:(a.map ut)[i]?=N8 x):∃c,x=.int c/\a[i]?=N8 c:=by
 rw[dr]at e;cases q:a[i]? with
 |none=>rw[q]at e;cases e
 |some c=>rw[q]at e;cases e;calc(c,U,U,)
def  lets:Str := "abcdefghijklmnopqrstuvwxyz"
def  isw(z:Str):Bool:=Oc ((1:Int)<=((⇑z:Nat):Int)) && (Oc (((⇑z:Nat):Int)<=12) && (!Oc (v0 z=v0 "not") && sL z lets))
def DW{l:Oo Nat}{i:Nat}{c:Nat}{p:Nat->Bool}(e:l[i]?=N8 c)(h:p c=Ob):l.all p=false:=by
 cases q:l.all p with
 |false=>rfl
 |true=>rw[jL.mp q c (JR e)]at h;cases h
def all_succ{l:Oo Nat}{i:Nat}{c:Nat}{p:Nat->Bool}(e:l[i]?=N8 c)(h:p c=Oa)(a:(l.take i).all p=Oa):(l.take<|i+1).all p=true:=by
 rw[take_snoc e,List.all_append,a];simp[h]
def Au{z g:Str}(h:(z.cps.toList.take z.cps.size).all (sg g)=Oa):sL z g=true:=by
 let e:z.cps.toList.take z.cps.size=z.cps.toList:=by rw[←FV];exact fm
 rw[e]at h;calc h
def DX{g:Str}{c:Nat}(h:(!(!(OP g ⟨#[c]⟩ 0 ⇑g 1).isEmpty))=Oa):sg g c=false:=by unfold sg;simpa using h
def FO{g:Str}{c:Nat}(h:¬ (!(!(OP g ⟨#[c]⟩ 0 ⇑g 1).isEmpty))=Oa):sg g c=true:=by unfold sg;simpa using h
def big{n:Nat}(h:n<=1000):n<=Kk:=wx<|aC h
def  mkd(C:Ki)(H:Hp)(x a:Ki)(lo hi:Int):Hp:=upd (upd H x<|.ins C a [("low",.int lo)]) x<|.ins C a [("low",.int lo),("high",.int hi)]
def put2(v u:V):bK s!"high" u [(s!"low",v)]=[(s!"low",v),(s!"high",u)]:=by
 unfold bK bK;rw[Oe ⋯]
def  hiW(zs:Oo Str):Int:=((⇑zs:Nat):Int)-1
structure Good(zs:Oo Str):Prop where
 some_:1<=⇑zs
 few:⇑zs<=40
 words:∀z∈zs,isw z=Oa
 once:zs.Nodup
def Av{zs:Oo Str}{i:Nat}{x:V}(e:(zs.map v0)[i]?=N8 x):∃z,x=.str z/\zs[i]?=N8 z:=by
 rw[dr]at e;cases q:zs[i]? with
 |none=>rw[q]at e;cases e
 |some z=>rw[q]at e;cases e;calc(z,U,U,)
def  six:Oo Str:=[s!"first",s!"only",s!"like",s!"low",s!"high",s!"sum"]
def BO{i j:Nat}{z:Str}(h:six[i]?=N8 z)(k:six[j]?=N8 z):i=j:=gR (show six.Nodup by decide+kernel) h k
def  WyN(C:Ki)(H:Hp)(x:Ki)(z:Str):Prop:=∃a,H x=N8 (.ins C a [("called",.str z)])
def WyN.same{C:Ki}{H H':Hp}{x:Ki}{z:Str}(h:WyN C H x z)(s:aw H H'):WyN C H' x z:=by let(a,e):=h;calc(a,s _ _ e,)
def  yy(C:Ki)(z:Str):Sp:=λb H Q _=>∃(x a:Ki),b=[.ref x]/\H x=N8 (.ins C a [])/\Q .non (upd H x<|.ins C a [("called",.str z)])
def dh:2<=Kk:=⋯
def  cl6(a b c d e f:Ki):Oo Ki:=[a,b,c,d,e,f]
def  DY(C:Ki)(H:Hp)(a:Ki)(lo hi:Int):Prop:=∃b fs,H a=N8 (.ins C b fs)/\fs.lookup s!"low"=N8 (.int lo)/\fs.lookup s!"high"=N8 (.int hi)/\fs.lookup s!"has_code"=N9
def  Dom(d c:Ki)(H:Hp)(a:Ki)(b:Int×Int):Prop:=∃C,(C=d\/C=c)/\DY C H a b.1 b.2
def Dom.same{d c:Ki}{H H':Hp}{a:Ki}{b:Int×Int}(h:Dom d c H a b)(s:aw H H'):Dom d c H' a b:=by let(C,f,g,fs,e,r):=h;calc(C,f,g,fs,s _ _ e,r,)
def Dom.upd{d c:Ki}{H:Hp}{a D:Ki}{b:Int×Int}{o:HO}{zs:Oo V}(h:Dom d c H a b)(e:H D=N8 (.lst zs)):Dom d c (upd H D o) a b:=by
 let(C,g,i,fs,f,r):=h;calc(C,g,i,fs,(av<|js f e (by intro z;cases z)).trans f,r,)
def  aJ{α:Type}(xs:Oo V)(b:Oo α)(P:Ki->α->Prop):Prop:=⇑xs=⇑b/\∀(j:Nat)(a:α),b[j]?=N8 a->∃r,xs[j]?=↑r/\P r a
def aJ.mono{α:Type}{xs:Oo V}{b:Oo α}{P Q:Ki->α->Prop}(h:aJ xs b P)(k:∀r a,P r a->Q r a):aJ xs b Q:=(h.1,λj a e=>let ⟨r,e1,p⟩:=h.2 j a e;(r,e1,k r a p,),)
def aJ.nil{α:Type}{P:Ki->α->Prop}:aJ [] [] P:=(U,(λj a e=>by simp at e),)
def aJ.snoc{α:Type}{xs:Oo V}{c:Oo α}{P:Ki->α->Prop}{r:Ki}{a:α}(h:aJ xs c P)(p:P r a):aJ (xs++[.ref r]) (c++[a]) P:=by
 refine(by simp[h.1],λj b e=>?_,);by_cases f:j<⇑c
 .rw[fS f]at e;let(g,i,q):=h.2 j b e;exact(g,by rw[fS (by rw[h.1];exact f)];exact i,q,)
 .let d:j=⇑c:=by
   let:=(JQ.mp e).1;simp at this;lia
  subst d;simp at e;subst e;calc(r,by rw[←h.1];simp,p,)
def aJ.get{α:Type}{xs:Oo V}{b:Oo α}{P:Ki->α->Prop}(h:aJ xs b P){j:Nat}{x:V}(e:xs[j]?=N8 x):∃r a,x=.ref r/\b[j]?=N8 a/\P r a:=by
 let f:=(JQ.mp e).1;let c:=JP (l:=b) (i:=j) (by rw[←h.1];exact f);let(r,d,p):=h.2 j _ c;rw[e]at d;cases d;calc(r,_,U,c,p,)
abbrev Prs:=List<|Int×Int
def  SpA(N:Ki->Prop)(H:Hp)(l:Ki)(ps:Prs):Prop:=N l/\∃a,H l=N8 (.lst a)/\PL H a ps
def  CL(N:Ki->Prop)(H:Hp)(xs:Oo V)(a:Oo Prs):Prop:=aJ xs a<|SpA N H
abbrev Rw:=Oo Prs×Int
def  jE(N:Ki->Prop)(H:Hp)(r:Ki)(a:Rw):Prop:=∃b c,H r=N8 (.tup [.ref b,.int a.2])/\N b/\H b=N8 (.lst c)/\CL N H c a.1
def  RL(N:Ki->Prop)(H:Hp)(xs:Oo V)(rws:Oo Rw):Prop:=aJ xs rws<|jE N H
def SpA.same{N:Ki->Prop}{H H':Hp}{l:Ki}{ps:Prs}(h:SpA N H l ps)(s:aw H H'):SpA N H' l ps:=by let(n,a,e,p):=h;calc(n,a,s _ _ e,p.mono s.tups,)
def CL.same{N:Ki->Prop}{H H':Hp}{xs:Oo V}{a:Oo Prs}(h:CL N H xs a)(s:aw H H'):CL N H' xs a:=aJ.mono h λ_ _ p=>p.same s
def jE.same{N:Ki->Prop}{H H':Hp}{r:Ki}{w:Rw}(h:jE N H r w)(s:aw H H'):jE N H' r w:=by let(b,a,e,n,f,c):=h;calc(b,a,s _ _ e,n,s _ _ f,c.same s,)
def RL.same{N:Ki->Prop}{H H':Hp}{xs:Oo V}{rws:Oo Rw}(h:RL N H xs rws)(s:aw H H'):RL N H' xs rws:=aJ.mono h λ_ _ p=>p.same s
abbrev NT:Ki->Prop:=λ_=>True
def SpA.any{N:Ki->Prop}{H:Hp}{l:Ki}{ps:Prs}(h:SpA N H l ps):SpA NT H l ps:=(trivial,h.2,)
def CL.any{N:Ki->Prop}{H:Hp}{xs:Oo V}{a:Oo Prs}(h:CL N H xs a):CL NT H xs a:=aJ.mono h λ_ _ p=>p.any
def jE.any{N:Ki->Prop}{H:Hp}{r:Ki}{w:Rw}(h:jE N H r w):jE NT H r w:=by let(b,a,e,_,f,c):=h;calc(b,a,e,trivial,f,c.any,)
def RL.any{N:Ki->Prop}{H:Hp}{xs:Oo V}{rws:Oo Rw}(h:RL N H xs rws):RL NT H xs rws:=aJ.mono h λ_ _ p=>p.any
def SpA.wk{N b:Ki->Prop}{H:Hp}{l:Ki}{ps:Prs}(h:SpA N H l ps)(k:∀a,N a->b a):SpA b H l ps:=(k _ h.1,h.2,)
def CL.wk{N c:Ki->Prop}{H:Hp}{xs:Oo V}{b:Oo Prs}(h:CL N H xs b)(k:∀a,N a->c a):CL c H xs b:=aJ.mono h λ_ _ p=>p.wk k
def jE.wk{N b:Ki->Prop}{H:Hp}{r:Ki}{w:Rw}(h:jE N H r w)(k:∀a,N a->b a):jE b H r w:=by let(g,d,e,n,f,c):=h;calc(g,d,e,k _ n,f,c.wk k,)
def SpA.updN{N:Ki->Prop}{D:Ki}{H:Hp}{l:Ki}{ps:Prs}{zs:Oo V}{o:HO}(h:SpA N H l ps)(n:¬ N D)(e:H D=N8 (.lst zs)):SpA N (upd H D o) l ps:=by
 let(m,a,f,p):=h;calc(m,a,(av<|λz=>n (by rw[←z];exact m)).trans f,p.mono<|aR e,)
def CL.updN{N:Ki->Prop}{D:Ki}{H:Hp}{xs:Oo V}{a:Oo Prs}{zs:Oo V}{o:HO}(h:CL N H xs a)(n:¬ N D)(e:H D=N8 (.lst zs)):CL N (upd H D o) xs a:=aJ.mono h λ_ _ p=>p.updN n e
def jE.updN{N:Ki->Prop}{D:Ki}{H:Hp}{r:Ki}{w:Rw}{zs:Oo V}{o:HO}(h:jE N H r w)(n:¬ N D)(e:H D=N8 (.lst zs)):jE N (upd H D o) r w:=by
 let(b,a,f,m,g,c):=h;calc(b,a,(av<|js f e (by intro z;cases z)).trans f,m,(av<|λz=>n (by rw[←z];exact m)).trans g,c.updN n e,)
def RL.updN{N:Ki->Prop}{D:Ki}{H:Hp}{xs:Oo V}{rws:Oo Rw}{zs:Oo V}{o:HO}(h:RL N H xs rws)(n:¬ N D)(e:H D=N8 (.lst zs)):RL N (upd H D o) xs rws:=aJ.mono h λ_ _ p=>p.updN n e
def  Fr(H:Hp)(D:Ki):Ki->Prop:=λa=>H a=N9/\a≠D
def Fr.out{H:Hp}{D:Ki}:¬ Fr H D D:=λh=>h.2 U
structure Jp(b:Int×Int)(zs:Oo Str):Prop where
 le:b.1<=b.2
 ws:zs≠[]->Good zs/\b=(0,hiW zs)
structure t6(bs:Prs)(o:Int×Int)(w:Rw):Prop where
 len:⇑w.1=⇑bs
 inn:∀(j:Nat)(ps:Prs)(b:Int×Int),w.1[j]?=N8 ps->bs[j]?=N8 b->∀p∈ps,b.1<=p.1/\p.2<=b.2
 lo:o.1<=w.2
 hi:w.2<=o.2
def  gf(a:Oo Prs)(b:Oo Int):Bool:=(db ⇑b).all λj=>inP (a.getD j [])<|b.getD j 0
def pf1(b a:V):bK s!"names" a [(s!"name",b)]=[(s!"name",b),(s!"names",a)]:=by
 unfold bK bK;rw[Oe ⋯]
def pf2(c b a:V):bK s!"domains" a [(s!"name",c),(s!"names",b)]=[(s!"name",c),(s!"names",b),(s!"domains",a)]:=by
 unfold bK bK bK;rw[Oe ⋯,Oe ⋯]
def pf3(d c b a:V):bK s!"outcome" a [(s!"name",d),(s!"names",c),(s!"domains",b)]=[(s!"name",d),(s!"names",c),(s!"domains",b),(s!"outcome",a)]:=by
 unfold bK bK bK bK;rw[Oe ⋯,Oe ⋯,Oe ⋯]
def pf4(e d c b a:V):bK s!"way" a [(s!"name",e),(s!"names",d),(s!"domains",c),(s!"outcome",b)]=[(s!"name",e),(s!"names",d),(s!"domains",c),(s!"outcome",b),(s!"way",a)]:=by
 unfold bK bK bK bK bK;rw[Oe ⋯,Oe ⋯,Oe ⋯,Oe ⋯]
def pf5(f e d c b a:V):bK s!"rows" a [(s!"name",f),(s!"names",e),(s!"domains",d),(s!"outcome",c),(s!"way",b)]=[(s!"name",f),(s!"names",e),(s!"domains",d),(s!"outcome",c),(s!"way",b),(s!"rows",a)]:=by
 unfold bK bK bK bK bK bK;rw[Oe ⋯,Oe ⋯,Oe ⋯,Oe ⋯,Oe ⋯]
def  hide(H:Hp)(x:Ki):Hp:=λb=>if b=x then N9 else H b
def gz{H:Hp}{x b:Ki}{o:HO}(e:H b=N8 o)(n:b≠x):hide H x b=N8 o:=by unfold hide;rw[Oe n];calc e
def hide_same{H H':Hp}{x:Ki}(k:∀b o,b≠x->H b=N8 o->H' b=N8 o):aw (hide H x) H':=λb o e=>by
 unfold hide at e;by_cases h:b=x
 .rw[Of h]at e;cases e
 .rw[Oe h]at e;calc k b o h e
def PL.hide{H:Hp}{x C c:Ki}{fs:Oo (Str×V)}(a:H x=N8 (.ins C c fs)){ys:Oo V}{ps:Prs}(h:PL H ys ps):PL (hide H x) ys ps :=
 h.mono λb d e=>gz e<|js e a (by intro z;cases z)
def RL.hide{H:Hp}{x C d:Ki}{fs:Oo (Str×V)}(a:H x=N8 (.ins C d fs)){xs:Oo V}{rws:Oo Rw}(h:RL NT H xs rws):RL NT (_M.hide H x) xs rws :=
 aJ.mono h λr w (j,i,e,_,f,c,)=>⟨j,i,gz e<|js e a (by intro z;cases z),trivial,gz f<|js f a (by intro z;cases z),aJ.mono c λl k (_,b,g,p,)=>(trivial,b,gz g<|js g a (by intro z;cases z),PL.hide a p,)⟩
def  wcs(c k:Int):Oo Nat:=Db (c / 26%6).toNat (97+(c%26).toNat)++([97+(k / 7%7).toNat,97+(k%7).toNat]++Db (k%5).toNat (97+(c / 156%26).toNat))
def  wd(c k:Int):Str:=⟨(wcs c k).toArray⟩
abbrev SI:=Str×Int
def  tp(p:SI):Oo V:=[.str p.1,.int p.2]
def  say(i:Int):SI:=(s!"say",i)
def  xj:SI:=(s!"clash",0)
def  DZ:SI:=(s!"none",0)
def  least(a:Oo Int):Int:=a.foldl (λm c=>if c<m then c else m) (a.headD 0)
def  great(a:Oo Int):Int:=a.foldl (λm c=>if c>m then c else m) (a.headD 0)
def fold_min(a:Oo Int):∀m:Int,(a.foldl (λm c=>if c<m then c else m) m=m\/a.foldl (λm c=>if c<m then c else m) m∈a)/\a.foldl (λm c=>if c<m then c else m) m<=m/\∀x∈a,a.foldl (λm c=>if c<m then c else m) m<=x:=by
 induction a with
 |nil=>intro m;exact⟨.inl U,lf _,λx h=>by cases h⟩
 |cons n a f =>
  intro m;let(b,e,g):=f (if n<m then n else m);rw[sX];refine(?_,?_,λx d=>?_,)
  .rcases b with b|b
   .rw[b];split
    .exact .inr cf
    .exact .inl U
   .exact .inr<|dy _ b
  .split at e <;> split <;> lia
  .rcases af.mp d with rfl|d
   .split at e <;> split <;> lia
   .exact g x d
def fold_max(a:Oo Int):∀m:Int,(a.foldl (λm c=>if c>m then c else m) m=m\/a.foldl (λm c=>if c>m then c else m) m∈a)/\m<=a.foldl (λm c=>if c>m then c else m) m/\∀x∈a,x<=a.foldl (λm c=>if c>m then c else m) m:=by
 induction a with
 |nil=>intro m;exact⟨.inl U,lf _,λx h=>by cases h⟩
 |cons n a f =>
  intro m;let(b,e,g):=f (if n>m then n else m);rw[sX];refine(?_,?_,λx d=>?_,)
  .rcases b with b|b
   .rw[b];split
    .exact .inr cf
    .exact .inl U
   .exact .inr<|dy _ b
  .split at e <;> split <;> lia
  .rcases af.mp d with rfl|d
   .split at e <;> split <;> lia
   .exact g x d
def gg{n:Int}{a:Oo Int}:least (n :: a)∈n :: a/\∀x∈n :: a,least (n :: a)<=x:=by
 let(b,d,c):=fold_min (n :: a) n;calc(?_,c,);rcases b with b|b
 .show(n :: a).foldl _ n∈_;rw[b];exact cf
 .exact b
def iz{n:Int}{a:Oo Int}:great (n :: a)∈n :: a/\∀x∈n :: a,x<=great (n :: a):=by
 let(b,d,c):=fold_max (n :: a) n;calc(?_,c,);rcases b with b|b
 .show(n :: a).foldl _ n∈_;rw[b];exact cf
 .exact b
def Aw{n m:Int}{c:Oo Int}(e:m∈n :: c)(d:∀b∈n :: c,m<=b):m=least (n :: c):=by
 let a:=d _ gg.1;let b:=gg.2 _ e;lia
def Ax{n m:Int}{c:Oo Int}(e:m∈n :: c)(d:∀b∈n :: c,b<=m):m=great (n :: c):=by
 let a:=d _ iz.1;let b:=iz.2 _ e;lia
def  Hg(a:Oo Int):SI:=say<|least a
def  FP(a:Oo Int):SI:=say<|great a
def  t7(a:Oo Int):SI:=if least a=great a then say (least a)else xj
def qK{n:Int}{a:Oo Int}:(∀x∈a,x=n)↔least (n :: a)=great (n :: a):=by
 constructor
 .intro h;let e:∀x∈n :: a,x=n:=λx b=>by
   rcases af.mp b with r|b
   .exact r
   .exact h x b
  rw[e _ gg.1,e _ iz.1]
 .intro h x b;let g:=gg.2 x<|dy n b;let f:=iz.2 x<|dy n b;let d:=gg.2 n<|cf (l:=a);let c:=iz.2 n<|cf (l:=a);lia
def yz{n:Int}{a:Oo Int}(h:∀x∈a,x=n):least (n :: a)=n:=by
 let e:∀x∈n :: a,x=n:=λx b=>by
  rcases af.mp b with r|b
  .exact r
  .exact h x b
 calc e _ gg.1
def  ver(f:Oo Int->SI):Oo Int->SI
 | []=>DZ
 |n :: ns=>f (n :: ns)
def  Wy(C:Ki)(H:Hp)(x:Ki):Prop:=∃a z,H x=N8 (.ins C a [("called",.str z)])
def  D3(a:Oo Int):SI:=say<|a.headD 0
def  t8(a:Oo Int):SI:=if ⇑a=1 then say (a.headD 0)else xj
def  near(lo hi n:Int):Int:=if n<lo then lo else if n>hi then hi else n
def  wf:Nat->Int->Int->Oo Int->SI
 |0,_,_=>D3
 |1,_,_=>t8
 |2,_,_=>t7
 |3,_,_=>Hg
 |4,_,_=>FP
 |_,lo,hi=>λa=>say<|near lo hi a.sum
def at0(n:Int)(a:Oo Int):atI ((n :: a).map ut) 0=N8 (.int n):=cP (j:=0) U
def  yA(K:bd)(C g f:Ki)(i:Nat):Sp:=λe H Q _=>∃(x c o:Ki)(n:Int)(a:Oo Int)(b:Int×Int),e=[.ref x,.ref c,.ref o]/\Wy C H x/\Dom g f H o b/\b.1<=b.2/\SqL K H c ((n :: a).map ut)/\⇑a<900/\∀(r:Ki)(d:Hp),aw H d->Vd K d r (wf i b.1 b.2 (n :: a))->Q (.ref r) d
def  kB(K:bd)(C g f:Ki)(i:Nat):Sp:=λe H Q _=>∃(x c o:Ki)(a:Oo Int)(b:Int×Int),e=[.ref x,.ref c,.ref o]/\Wy C H x/\Dom g f H o b/\b.1<=b.2/\SqL K H c (a.map ut)/\⇑a<900/\∀(r:Ki)(d:Hp),aw H d->Vd K d r (ver (wf i b.1 b.2) a)->Q (.ref r) d
def  msk(f:Nat->Bool):Nat->Nat
 |0=>0
 |n+1=>(if f n then 2^n else 0)+msk f n
def kC(f:Nat->Bool)(n:Nat):msk f (n+1)=(if f n then 2^n else 0)+msk f n:=rfl
def vU(f:Nat->Bool):∀n,msk f n<2^n
 |0=>zw
 |n+1=>by
  let:=vU f n;unfold msk;rw[FU];split <;> lia
def xk(f:Nat->Bool)(k:Nat):∀n,(msk f n).testBit k=(Oc (k<n) && f k)
 |0=>by simp[msk]
 |n+1=>by
  let b:=xk f k n;let lt:=vU f n;unfold msk;rcases EX k n with h|h|h
  .split
   .rw[Nat.testBit_two_pow_add_gt h,b];simp[h,wI h]
   .rw[yP,b];simp[h,wI h]
  .subst h;split
   .rename_i hf
    rw[Nat.testBit_two_pow_add_eq,Pc lt];simp[hf]
   .rename_i hf
    rw[yP,Pc lt];simp[hf]
  .let a:(if f n=Oa then 2^n else 0)+msk f n<2^k:=v5 (vU f<|n+1)<|Pt ⋯ h;rw[Pc a];simp;lia
def  eM(m:Int)(k:Nat):Bool:=Le.bitAnd (m / 2^k) 1 != 0
def qL(f:Nat->Bool)(n k:Nat):eM ((msk f n:Nat):Int) k=(Oc (k<n) && f k):=by
 rw[←xk];unfold eM;let e:((msk f n:Nat):Int) / 2^k=((msk f n / 2^k:Nat):Int):=by simp
 rw[e,PyProof.Rows.bitAnd_pp (PD _) ⋯];unfold Nat.testBit;rw[Nat.shiftRight_eq_div_pow,JS,Nat.and_comm];show((((1:Int).toNat &&& (msk f n / 2^k):Nat):Int) != 0)=_;rw[tz,bne_iff_ne,bne_iff_ne];constructor
 .intro h z;exact h (by rw[show(1:Int).toNat=1 from U,z];rfl)
 .intro h z;calc h (by rw[show(1:Int).toNat=1 from U]at z;lia)
def  pkF(rws:Oo Rw)(f:Nat->Bool)(n:Nat):Oo Int:=((db n).filter f).map λk=>(rws.getD k ([],0)).2
def kD(rws:Oo Rw)(f:Nat->Bool)(n:Nat):pkF rws f (n+1)=pkF rws f n++(if f n then[(rws.getD n ([],0)).2] else[]):=by
 unfold pkF;rw[jO,oD,fj];cases h:f n with
 |true=>rw[On h];simp
 |false=>rw[Op (by rw[h];exact bv)];simp
def xl(rws:Oo Rw)(f:Nat->Bool)(n:Nat):⇑(pkF rws f n)<=n:=by
 unfold pkF;rw[aa];calc vr (tw ..) (by simp)
def  Tbl(g h f:Ki)(H:Hp)(t:Ki)(rws:Oo Rw)(i:Nat)(o:Int×Int):Prop:=∃(c d e:Ki)(fs:Oo (Str×V))(a:Oo V)(b:Str),H t=N8 (.ins g e fs)/\fs.lookup s!"rows"=↑c/\fs.lookup s!"way"=N8 (.str b)/\fs.lookup s!"outcome"=↑d/\H c=N8 (.lst a)/\RL NT H a rws/\six[i]?=N8 b/\Dom h f H d o/\o.1<=o.2/\⇑a<=200
def Tbl.same{c d b:Ki}{H H':Hp}{t:Ki}{rws:Oo Rw}{i:Nat}{o:Int×Int}(h:Tbl c d b H t rws i o)(s:aw H H'):Tbl c d b H' t rws i o:=by
 let(g,j,w,fs,e,f,v,u,r,q,p,n,m,l,k,a):=h;calc(g,j,w,fs,e,f,s _ _ v,u,r,q,s _ _ p,n.same s,m,l.same s,k,a,)
def  gN(rws:Oo Rw)(a:Oo Int)(k:Nat):Bool:=gf (rws.getD k ([],0)).1 a
def getD_at{rws:Oo Rw}{k:Nat}{w:Rw}(e:rws[k]?=N8 w):rws.getD k ([],0)=w:=by rw[cO,e];rfl
structure Lay(H:Hp)(r1:Ki)(F2 F3:Ki->Prop)(m:Nat):Prop where
 top:∃xs,H r1=N8 (.lst xs)/\⇑xs<=63/\∀x∈xs,∃(t ce:Ki)(c:Int),x=.ref t/\H t=N8 (.tup [.ref ce,.int c])/\F2 ce
 mid:∀ce,F2 ce->∃ys,H ce=N8 (.lst ys)/\⇑ys<=4/\∀y∈ys,∃l,y=.ref l/\F3 l
 low:∀l,F3 l->∃zs,H l=N8 (.lst zs)/\⇑zs<=m
 n2:¬ F2 r1
 n3:¬ F3 r1
 n23:∀a,F2 a->F3 a->False
def t9(x:V)(xs:Oo V):kj (x :: xs) (N8 1) N9=xs:=by
 unfold kj;simp[HT.sIx]
def  vV(N:Ki->Prop)(i:Ki)(H:Hp)(t:Ki)(rws:Oo Rw)(nm e:Str)(f:Ki)(zs:Oo Str)(h:Oo V):Prop:=∃(b g c d:Ki)(fs:Oo (Str×V))(a:Oo V),H t=N8 (.ins i g fs)/\fs.lookup s!"rows"=↑b/\fs.lookup s!"name"=N8 (.str nm)/\fs.lookup s!"way"=N8 (.str e)/\fs.lookup s!"outcome"=↑f/\fs.lookup s!"names"=↑c/\fs.lookup s!"domains"=↑d/\H c=N8 (.lst<|zs.map v0)/\H d=N8 (.lst h)/\H b=N8 (.lst a)/\RL N H a rws/\N c/\N d/\N b/\⇑a<=200
def vV.tbl{N:Ki->Prop}{f g e:Ki}{H:Hp}{t:Ki}{rws:Oo Rw}{nm a:Str}{b:Ki}{zs:Oo Str}{v:Oo V}{i:Nat}{o:Int×Int}(h:vV N f H t rws nm a b zs v)(hi:six[i]?=N8 a)(m:Dom g e H b o)(n:o.1<=o.2):Tbl f g e H t rws i o:=by
 let(l,u,_,_,fs,j,s,r,_,q,p,_,_,_,_,d,c,_,_,_,k):=h;calc(l,b,u,fs,j,a,s,r,q,p,d,c.any,hi,m,n,k,)
structure Pts(ps:Oo Int):Prop where
 two:2<=⇑ps
 few:⇑ps<=13
 asc:ps.Pairwise (· < ·)
def  s2(c:Int):Oo Nat:=[113+(c%8).toNat,121+(c / 8%2).toNat]
def  w3l(c k:Int):Oo Nat:=(s2 c).take (c / 16%3).toNat++([97+k.toNat]++(s2 c).drop (c / 16%3).toNat)
def  w3(c k:Int):Str:=⟨(w3l c k).toArray⟩
def  aU(lo hi:Int)(a:Oo Int):Oo (Int×Int):=(lo :: a).zip (a.map (· - 1)++[hi])
def  Chn:Oo (Int×Int)->Int->Int->Prop
 | [],lo,hi=>lo=hi+1
 |p :: r,lo,hi=>p.1=lo/\lo<=p.2/\Chn r (p.2+1) hi
def uc:∀{a:Oo Int}{lo hi:Int},a.Pairwise (· < ·)->(∀c∈a,lo<c/\c<=hi)->lo<=hi->Chn (aU lo hi a) lo hi
 | [],lo,hi,_,_,h=>(U,h,U,)
 |c :: a,lo,hi,hp,hb,h=>by
  let(g,f):=nI.mp hp;let b:=hb c cf;let e:aU lo hi (c :: a)=(lo,c-1) :: aU c hi a:=rfl;rw[e];refine(U,by show lo<=c-1;lia,?_,);show Chn (aU c hi a) (c-1+1) hi;rw[show c-1+1=c by lia];calc uc f (λd hd=>(g d hd,(hb d<|dy _ hd).2,)) b.2
def cx(lo hi:Int)(a:Oo Int):⇑(aU lo hi a)=⇑a+1:=by simp[aU]
def PL.of_get{H:Hp}:∀{ts:Oo Ki}{ps:Oo (Int×Int)},⇑ts=⇑ps->(∀(j:Nat)(p:Int×Int),ps[j]?=N8 p->∃T,ts[j]?=N8 T/\H T=N8 (.tup [.int p.1,.int p.2]))->PL H (ts.map mt) ps
 | [],[],_,_=>.nil
 | [],p :: ps,h,_=>by simp at h
 |t :: ts,[],h,_=>by simp at h
 |t :: ts,p :: ps,h,g=>by
  let(T,c,b):=g 0 p U;let:t=T:= ~~~c
  subst this;calc .cons (t,U,b,)<|PL.of_get (~~~h) λj q a=>~~~g (j+1) q (~~~a)
def zip_get{lo hi:Int}{a:Oo Int}{j:Nat}{p:Int×Int}(e:(aU lo hi a)[j]?=N8 p):((lo :: a).map ut)[j]?=N8 (.int p.1)/\((a.map (· - 1)++[hi]).map ut)[j]?=N8 (.int p.2):=by
 unfold aU at e;rw[ov]at e;let(c,b):=e;calc(get_map c,get_map b,)
def  ox(lo hi:Int)(a:Oo Int)(m:Int):Oo Int:=if lo<m/\m<=hi/\m ∉ a then a++[m]else a
def  dd(lo hi:Int)(ms:Oo Int):Oo Int:=ms.foldl (ox lo hi) []
def vW(lo hi:Int):∀(ms d:Oo Int),d.Nodup->(ms.foldl (ox lo hi) d).Nodup/\∀c,c∈ms.foldl (ox lo hi) d↔(c∈d\/(c∈ms/\lo<c/\c<=hi))
 | [],d,h=>(h,λc=>by simp,)
 |m :: ms,d,h=>by
  let j:(ox lo hi d m).Nodup:=by
   unfold ox;split
   .rename_i g
    rw[o3];refine(h,by simp,λa i b f=>?_,);let:b=m:= ~~~f
    subst this;exact λz=>g.2.2<|z ▸ i
   .exact h
  let(l,k):=vW lo hi ms (ox lo hi d m) j;calc(l,λc=>(k c).trans ?_,);unfold ox;by_cases g:lo<m/\m<=hi/\m ∉ d
  .rw[Of g];simp only[iH,af,jj,or_false];constructor
   .rintro((h|rfl)|⟨h,h'⟩)
    .exact .inl h
    .exact .inr (.inl U,g.1,g.2.1,)
    .exact .inr (.inr h,h',)
   .rintro(h|⟨rfl|h,h'⟩)
    .exact .inl<|.inl h
    .exact .inl<|.inr U
    .exact .inr (h,h',)
  .rw[Oe g];simp only[af];constructor
   .rintro(h|⟨h,h'⟩)
    .exact .inl h
    .exact .inr (.inr h,h',)
   .rintro(h|⟨rfl|h,h'⟩)
    .exact .inl h
    .by_cases e:c∈d
     .exact .inl e
     .exact Og (h'.1,h'.2,e,) g
    .exact .inr (h,h',)
def rP{lo hi:Int}{ms a:Oo Int}(f:a.Pairwise (· < ·))(g:∀c,c∈a↔(c∈ms/\lo<c/\c<=hi)):⇑a=⇑(dd lo hi ms):=by
 let(i,d):=vW lo hi ms [] nY;let e:∀c,c∈a↔c∈dd lo hi ms:=λc=>by
  rw[g c];exact⟨λh=>(d c).mpr<|.inr h,λh=>by rcases(d c).mp h with z|z;cases z;exact z⟩
 calc Fg (bh (f.imp λh=>Pf h) λx b=>(e x).mp b)<|bh i λx b=>(e x).mpr b
def FQ(lo hi:Int)(ms:Oo Int):⇑(dd lo hi ms)<=⇑ms:=by
 let(c,b):=vW lo hi ms [] nY;exact bh c λx a=>by rcases(b x).mp a with z|z;cases z;calc z.1
def  gl(ps:Oo (Int×Int))(mss:Oo (Oo Int))(j:Nat):Nat:=⇑(dd (ps.getD j (0,0)).1 (ps.getD j (0,0)).2<|mss.getD j [])+1
def  gr(ps:Oo (Int×Int))(mss:Oo (Oo Int)):Nat->Nat
 |0=>1
 |n+1=>gr ps mss n*gl ps mss n
def FR{ps:Oo (Int×Int)}{mss:Oo (Oo Int)}(h:∀ms∈mss,⇑ms<=400)(j:Nat):gl ps mss j<=401:=by
 unfold gl;let:=FQ (ps.getD j (0,0)).1 (ps.getD j (0,0)).2<|mss.getD j [];let a:⇑(mss.getD j [])<=400:=by
  rw[cO];cases e:mss[j]? with
  |none=>simp
  |some ms=>exact h ms (JR e)
 lia
def CT{ps:Oo (Int×Int)}{mss:Oo (Oo Int)}(h:∀ms∈mss,⇑ms<=400):∀n,gr ps mss n<=401^n
 |0=>vk _
 |n+1=>by
  let a:=CT (ps:=ps) h n;let b:=FR (ps:=ps) h n;show gr ps mss n*gl ps mss n<=401^n*401;calc A8 a b
def  MLs(H:Hp)(b:Oo Ki)(mss:Oo (Oo Int)):Prop:=⇑b=⇑mss/\∀(j:Nat)(a:Oo Int),mss[j]?=N8 a->∃r,b[j]?=N8 r/\H r=N8 (.lst<|a.map ut)
def MLs.keep{H H':Hp}{a:Oo Ki}{mss:Oo (Oo Int)}(h:MLs H a mss)(k:∀r∈a,∀o,H r=N8 o->H' r=N8 o):MLs H' a mss :=
 (h.1,λj b e=>let ⟨r,e1,e2⟩:=h.2 j b e;(r,e1,k r (JR e1) _ e2,),)
def MLs.same{H H':Hp}{a:Oo Ki}{mss:Oo (Oo Int)}(h:MLs H a mss)(s:aw H H'):MLs H' a mss:=h.keep λ_ _ _ e=>s _ _ e
def oy{a:Oo Ki}{j:Nat}{x:V}(e:(a.map mt)[j]?=N8 x):∃r,x=.ref r/\a[j]?=N8 r:=by
 rw[dr]at e;cases h:a[j]? with
 |none=>rw[h]at e;cases e
 |some r=>rw[h]at e;cases e;calc(r,U,U,)
def  MOK(ps:Oo (Int×Int))(mss:Oo (Oo Int)):Prop:=⇑ps=⇑mss/\⇑ps<=6/\∀ms∈mss,⇑ms<=400
abbrev Tri:=Int×Int×V
def  T3(H:Hp)(xs:Oo V)(ts:Oo Tri):Prop:=⇑xs=⇑ts/\∀(i:Nat)(t:Tri),ts[i]?=N8 t->∃r:Ki,xs[i]?=↑r/\H r=N8 (.tup [.int t.1,.int t.2.1,t.2.2])
structure At(ts:Oo Tri)(c:Int)(j:Nat)(t:Tri):Prop where
 at_:ts[j]?=N8 t
 le:c<=t.2.1
 lt:∀(i:Nat)(u:Tri),i<j->ts[i]?=N8 u->u.2.1<c
inductive Lk(K:bd)(H:Hp):V->Oo Int->V->Prop where
 |nil (v:V):Lk K H v [] v
 |cons {a:Ki}{xs:Oo V}{ts:Oo Tri}{c:Int}{cs:Oo Int}{j:Nat}{t:Tri}{r:V}(hS:SqT K H a xs)(hT:T3 H xs ts)(hA:At ts c j t)(h:Lk K H t.2.2 cs r):Lk K H (.ref a) (c :: cs) r
def CU:∀{c:Oo (Int×Int)}{lo hi:Int},Chn c lo hi->BC c lo hi
 | [],_,_,h=>h
 |_ :: _,_,_,h=>(h.1,h.2.1,CU h.2.2,)
def ud:∀{a:Oo Int}{lo hi c:Int},a.Pairwise (· < ·)->(∀x∈a,lo<x)->lo<=c->c<=hi->ck (aU lo hi a) c<=c/\(ck (aU lo hi a) c=lo\/ck (aU lo hi a) c∈a)/\lo<=ck (aU lo hi a) c/\∀x∈a,x<=c->x<=ck (aU lo hi a) c
 | [],lo,hi,c,_,_,h1,h2=>by
  let e:ck (aU lo hi []) c=lo:=by simp[aU,ck,h2]
  rw[e];exact⟨h1,.inl U,lf _,λx b=>by cases b⟩
 |d :: a,lo,hi,c,hp,hb,h1,h2=>by
  let(h,j):=nI.mp hp;let e:aU lo hi (d :: a)=(lo,d-1) :: aU d hi a:=rfl;by_cases q:c<=d-1
  .let g:ck (aU lo hi (d :: a)) c=lo:=by rw[e];unfold ck;rw[mv (~~~q)];rfl
   rw[g];calc(h1,.inl U,lf _,λx b i=>?_,);rcases af.mp b with rfl|b
   .lia
   .let:=h x b;lia
  .let g:ck (aU lo hi (d :: a)) c=ck (aU d hi a) c:=by rw[e];unfold ck;rw[mx (~~~q)]
   rw[g];let(m,f,l,k):=ud j h (c:=c) ∅ h2;let hd:=hb d cf;refine(m,.inr ?_,∅,λx b i=>?_,)
   .rcases f with f|f
    .rw[f];exact cf
    .exact dy _ f
   .rcases af.mp b with rfl|b
    .exact l
    .exact k x b i
def  CoL(H:Hp)(xs:Oo V)(a:Oo (List<|Int×Int)):Prop:=aJ xs a λr c=>∃b,H r=N8 (.lst b)/\PL H b c
def CoL.same{H H':Hp}{xs:Oo V}{a:Oo (List<|Int×Int)}(h:CoL H xs a)(s:aw H H'):CoL H' xs a:=aJ.mono h λ_ _ (b,e,p,)=>(b,s _ _ e,PL.mono p s.tups,)
structure D6{K':bd}{L:Type} [DecidableEq L] (A:Lfp K' L)(P:Kf)(w:Ke)(K:bd)(mg:Str->Option Kd)(base:Kj)(f:Ki)(m:Nat)(g:Oo Int->L)(J:RK):Prop where
 fn:∃sp,HFn P w K mg base 8 f sp/\∀(H:Hp)(a:Ki)(cs:Oo Int)(Q:VK),J H->⇑cs=m->H a=N8 (.lst<|cs.map ut)->(∀v H',(∀b o,b≠a->H b=N8 o->H' b=N8 o)->A.R H' (g cs) v->Q v H')->sp [.ref a] H Q E0
 ob:∀H,J H->FnO H f
 st:∀H H',J H->aw H H'->J H'
def yB{α:Type} [DecidableEq α] (ts:Oo (T3a α)):⇑(lG ts)<=⇑ts:=by
 let:∀(r f:Oo (T3a α)),⇑(r.foldl cR f)<=⇑f+⇑r:=by
  intro r;induction r with
  |nil=>intro f;exact vk _
  |cons t r a =>
   intro f;let c:⇑(cR f t)<=⇑f+1:=by
    unfold cR;split
    .split
     .rw[cn,List.length_dropLast,il];lia
     .rw[cn,il];lia
    .rw[cn,il];lia
   let b:=a<|cR f t;rw[en];show(⇑(r.foldl cR<|cR f t))<=_;lia
 let h:=this ts [];rw[List.length_nil,yP]at h;calc h
def  below(ms:Oo Int)(c:Int):Int:=(⇑(ms.filter λm=>decide<|m<=c):Int)
def  D7(mss:Oo (Oo Int))(a:Int)(b:Oo Int):Nat->Int
 |0=>0
 |k+1=>D7 mss a b k*a+(1+D7 mss a b k)%3*below (mss.getD k []) (b.getD k 0)
def  told(mss:Oo (Oo Int))(b c st:Int)(a:Oo Int):Int:=D7 mss b a ⇑a%c*st
def  SmS{α:Type}(b:Nat)(S:α->Prop)(f:Oo (T3a α)):Prop:=⇑f<=b/\∀t∈f,S t.2.2
def  SmF{L:Type}(b:Nat):(n:Nat)->Fm L n->Prop
 |0,_=>True
 |n+1,f=>SmS b (SmF b n) f
def vX{b:Nat}{L:Type} [DecidableEq L] {g:Oo Int->L}:∀{a:Oo (List<|Int×Int)}{ps:Oo (Int×Int)},iu a ps->(∀c∈a,⇑c<=b)->∀e:Oo Int,SmF b ⇑a (lay g a e)
 | [],_,_,_,_=>trivial
 |c :: a,_,hok,h,e=>by
  cases hok with
  | @cons _ _ p ps hne d hok =>
   let k:=ir<|BD (λq=>lay g a<|e++[q.1]) d;refine(vr (yB _) (by rw[aa];exact h c cf),λt f=>?_,);let(l,j,i):=k.mem t f;let(q,_,rfl):=br.mp j;rw[←i];calc vX hok (λc d=>h c<|dy _ d) _
def Ay:∀{ps:Oo (Int×Int)}{css:Oo (Oo Int)},⇑css=⇑ps->(∀p∈ps,p.1<=p.2)->(∀(j:Nat)(p:Int×Int)(d:Oo Int),ps[j]?=N8 p->css[j]?=N8 d->d.Pairwise (· < ·)/\∀c∈d,p.1<c/\c<=p.2)->iu (kt (λp d=>aU p.1 p.2 d) ps css) ps
 | [],[],_,_,_=>.nil
 | [],_ :: _,h,_,_=>by simp at h
 |_ :: _,[],h,_,_=>by simp at h
 |p :: ps,d :: css,h,hle,hk=>by
  let(a,b):=hk 0 p d U U;calc .cons (λz=>?_) (CU<|uc a b<|hle p cf)<|Ay (~~~h) (λq e=>hle q<|dy _ e) λj q c g f=>hk (j+1) q c (~~~g)<|~~~f;let:=Ol NE z;rw[cx]at this;simp at this
def  pR{L M:Type} [DecidableEq M] (h:L->M):(n:Nat)->Fm L n->Fm M n
 |0,x=>h x
 |n+1,f=>lG<|List.map (λt:T3a (Fm L n)=>((t.1,t.2.1,pR h n t.2.2):T3a (Fm M n))) f
def rQ{α a:Type}(F:α->a):∀{f:Oo (T3a α)}{lo hi:Int},Ch3 f lo hi->Ch3 (f.map λt=>((t.1,t.2.1,F t.2.2):T3a a)) lo hi
 | [],_,_,h=>h
 |_ :: _,_,_,h=>(h.1,h.2.1,rQ F h.2.2,)
def ue{α a:Type}(F:α->a)(c:Int):∀f:Oo (T3a α),vAt (f.map λt=>((t.1,t.2.1,F t.2.2):T3a a)) c=(vAt f c).map F
 | []=>rfl
 |t :: f=>by
  let b:=ue F c f;unfold vAt at b⊢;rw[iJ];by_cases q:c<=t.2.1
  .rw[mv (~~~q),mv (~~~q)];rfl
  .rw[mx (~~~q),mx (~~~q)];calc b
def di{α:Type}{c:Int}:∀{f:Oo (T3a α)}{j:Nat}{t:T3a α},f[j]?=N8 t->c<=t.2.1->(∀(i:Nat)(u:T3a α),i<j->f[i]?=N8 u->u.2.1<c)->vAt f c=N8 t.2.2
 | [],j,t,e,_,_=>by simp at e
 |u :: f,0,t,e,h,_=>by
  cases e;unfold vAt;rw[mv (~~~h)];rfl
 |u :: f,j+1,t,e,h,k=>by
  let a:=k 0 u (CB _) U;let:=di (f:=f) (j:=j) (t:=t) (~~~e) h λi w hi b=>k (i+1) w ∅ (~~~b)
  unfold vAt at this⊢;rw[mx (~~~a)];calc this
def Az{L M:Type} [DecidableEq M] {h:L->M}:∀{n:Nat}{F:Fm L n}{ps:Oo (Int×Int)},fP n F ps->fP n (pR h n F) ps
 |0,_,_,hs=>hs
 |n+1,F,ps,hs=>by
  let(G,rfl):∃G:Oo (T3a<|Fm L n),(G:Fm L (n+1))=F:=(F,U,);let(p,r,rfl,c,d,i,g):ShS (fP n) G ps:=hs;let k:=ir<|rQ (pR h n) d;calc(p,r,U,k.ne<|~~~c,k.ch,k.nb,λt f=>?_,);let(j,a,b):=k.mem t f;let(u,e,rfl):=br.mp a;rw[←b];calc Az<|g u e
def BP{L M:Type} [DecidableEq M] {h:L->M}{n:Nat}{F:Fm L n}{a:Oo Int}{x:L}(i:Tel n F a x):∀{ps:Oo (Int×Int)},fP n F ps->InB a ps->Tel n (pR h n F) a (h x):=by
 induction i with
 |nil x=>intro ps _ _;exact .nil<|h x
 | @cons n f c a x j t e1 e2 e3 _ ih =>
  intro ps l d;let(p,r,rfl,w,e,y,q):ShS (fP n) f ps:=l;cases d with
  |cons o m d =>
   let k:=ir<|rQ (pR h n) e;let(z,g,v,A,u,s,b):=k.ch.at o m;rw[k.va,ue,di e1 e2 e3]at b;let b:pR h n t.2.2=g.2.2:=ci b;calc .cons (f:=(pR h (n+1) f:Oo (T3a<|Fm M n))) v u s ?_;rw[←b];calc ih (q t<|JR e1) d
structure FT{K':bd}{L M:Type} [DecidableEq L] [DecidableEq M] (A:Lfp K' L)(B:Lfp K' M)(P:Kf)(w:Ke)(K:bd)(mg:Str->Option Kd)(base:Kj)(f:Ki)(h:L->M)(J:RK):Prop where
 fn:∃sp,HFn P w K mg base 8 f sp/\∀(H:Hp)(v:V)(x:L)(Q:VK),J H->A.R H x v->(∀u H',aw H H'->B.R H' (h x) u->Q u H')->sp [v] H Q E0
 ob:∀H,J H->FnO H f
 st:∀H H',J H->aw H H'->J H'
def _root_._L.Ch3.le{α:Type}:∀{f:Oo (T3a α)}{lo hi:Int},Ch3 f lo hi->lo<=hi+1
 | [],_,_,h=>Int.le_of_eq h
 |t :: f,lo,hi,h=>by have:=_L.Ch3.le h.2.2;let:=h.2.1;lia
def eY{α:Type}(t:T3a α)(r:Oo (T3a α))(c:Int):vAt (t :: r) c=if c<=t.2.1 then N8 t.2.2 else vAt r c:=by
 unfold vAt;by_cases h:c<=t.2.1
 .rw[mv (~~~h),Of h];rfl
 .rw[mx (~~~h),Oe h]
def SmF.le{L:Type}{b a:Nat}:∀{n:Nat}{F:Fm L n},SmF b n F->b<=a->SmF a n F
 |0,_,_,_=>trivial
 |n+1,F,h,l=>by
  let(f,rfl):∃f:Oo (T3a<|Fm L n),(f:Fm L (n+1))=F:=(F,U,);let(e,d):SmS b (SmF b n) f:=h;calc(vr e l,λt c=>SmF.le (d t c) l,)
def BQ{ps:Oo (Int×Int)}{css:Oo (Oo Int)}{a:Oo Int}{k:Nat}{p:Int×Int}{ks:Oo Int}{c:Int}(b:ps[k]?=N8 p)(d:css[k]?=N8 ks)(e:a[k]?=N8 c):(kt ck (kt (λp a=>aU p.1 p.2 a) ps css) a)[k]?=N8 (ck (aU p.1 p.2 ks) c):=by
 rw[my,my,b,d,e]
def qM{α:Type}:∀{f g:Oo (T3a α)}{lo hi:Int},Ch3 f lo hi->Ch3 g lo hi->Nbx (f.map (·.2.2))->Nbx (g.map (·.2.2))->(∀c,lo<=c->c<=hi->vAt f c=vAt g c)->f=g
 | [],[],_,_,_,_,_,_,_=>rfl
 | [],t :: g,lo,hi,e,d,_,_,_=>by
  let e:lo=hi+1:=e;let:=d.2.1;let:=d.2.2.le;lia
 |s :: f,[],lo,hi,e,d,_,_,_=>by
  let d:lo=hi+1:=d;let:=e.2.1;let:=e.2.2.le;lia
 |s :: f,t :: g,lo,hi,e,d,nf,ng,hv=>by
  let(A,z,o):=e;let(w,v,n):=d;let O:=o.le;let N:=n.le;let j:=hv lo ∅ ∅;rw[eY,eY,Of z,Of v]at j;let j:s.2.2=t.2.2:=ci j;let k:∀{a b:T3a α}{r:Oo (T3a α)}{q:Oo (T3a α)},Ch3 r (a.2.1+1) hi->Nbx ((a :: r).map (·.2.2))->a.2.1<b.2.1->b.2.1<=hi->lo<=a.2.1->a.2.2=b.2.2->vAt (a :: r) (a.2.1+1)=vAt (b :: q) (a.2.1+1)->False:=λ{a b r q} l B R Q P C m=>by
   rw[eY,eY,Oe ∅,Of ∅]at m;cases r with
   |nil =>
    let l:a.2.1+1=hi+1:=l;lia
   |cons u r =>
    rw[eY,Of l.2.1]at m;exact B 0 _ _ U U<|C.trans (ci m).symm
  let p:s.2.1=t.2.1:=by
   rcases Int.lt_trichotomy s.2.1 t.2.1 with h|h|h
   .exact(k o nf h ∅ z j (hv _ ∅ ∅)).elim
   .exact h
   .exact(k n ng h ∅ v j.symm (hv _ ∅ ∅).symm).elim
  let G:s=t:=by
   let(M,s2,L):=s;let(K,J,I):=t;simp only at A w j p;rw[A,w,j,p]
  let tl:∀{α:Type}{a:α}{r:Oo α},Nbx (a :: r)->Nbx r:=λ{α a r} h i x y E D=>h (i+1) x y (~~~E)<|~~~D
  let F:f=g:=qM o (by rw[p];exact n) (tl nf) (tl ng) λc S H=>by
   let:=hv c ∅ H;rw[eY,eY,Oe ∅,Oe ∅]at this;exact this
  rw[G,F]
section
variable{L:Type}
def _root_._L.Tel.inv{n:Nat}{g:Oo (T3a<|Fm L n)}{c:Int}{e:Oo Int}{y:L}(h:Tel (n+1) (g:Fm L (n+1)) (c :: e) y):∃(j:Nat)(t:T3a (Fm L n)),g[j]?=N8 t/\c<=t.2.1/\(∀(i:Nat)(u:T3a (Fm L n)),i<j->g[i]?=N8 u->u.2.1<c)/\Tel n t.2.2 e y:=by
 cases h with
 |cons a b c d=>calc(_,_,a,b,c,d,)
def kE{n:Nat}{F:Fm L n}{b:Oo Int}{x:L}(h:Tel n F b x):∀{y:L},Tel n F b y->x=y:=by
 induction h with
 |nil x=>intro y a;cases a;rfl
 | @cons n f c b x j t e1 e2 e3 _ ih =>
  intro y a;let(m,l,k,i,g,d):=a.inv;let e:=(di e1 e2 e3).symm.trans<|di k i g;rw[←ci e]at d;calc ih d
def lI:∀{n:Nat}{F G:Fm L n}{ps:Oo (Int×Int)},fP n F ps->fP n G ps->(∀b,InB b ps->∀x y,Tel n F b x->Tel n G b y->x=y)->F=G
 |0,F,G,ps,a,_,hv=>by
  let a:ps=[]:=a;subst a;exact hv [] .nil F G (.nil F) (.nil G)
 |n+1,F,G,ps,a,hs',hv=>by
  let(f,rfl):∃f:Oo (T3a<|Fm L n),(f:Fm L (n+1))=F:=(F,U,);let(g,rfl):∃g:Oo (T3a<|Fm L n),(g:Fm L (n+1))=G:=(G,U,);let(p,r,rfl,J,d,k,B):ShS (fP n) f ps:=a;let(M,K,e,Q,q,H,I):ShS (fP n) g (p :: r):=hs';cases e;refine qM d q k H λc i h=>?_
  let(j,t,m,O,A,z,w):=d.at i h;let(N,s,o,P,E,D,C):=q.at i h;rw[w,C];rw[lI (B t<|JR m) (I s<|JR o) λb l x y v u=>hv (c :: b) (.cons i h l) x y (.cons m A z v) (.cons o E D u)]
end
def AA:∀{a:Oo Int}{ps:Oo (Int×Int)},⇑a=⇑ps->(∀(j:Nat)(c:Int)(p:Int×Int),a[j]?=N8 c->ps[j]?=N8 p->p.1<=c/\c<=p.2)->InB a ps
 | [],[],_,_=>.nil
 | [],_ :: _,h,_=>by simp at h
 |_ :: _,[],h,_=>by simp at h
 |c :: a,p :: ps,h,k=>.cons (k 0 c p U U).1 (k 0 c p U U).2<|AA (~~~h) λj x q d b=>k (j+1) x q (~~~d)<|~~~b
def  D8{α:Type}(f:Oo (T3a α))(m:Int):Prop:=∃t∈f.tail,t.1=m
def  FW{α:Type}(P:α->Int->Prop)(f:Oo (T3a α))(m:Int):Prop:=∃t∈f,P t.2.2 m
def  mE{L:Type}:(n:Nat)->Fm L n->Nat->Int->Prop
 |0,_,_,_=>False
 |n+1,f,0,m=>D8 (α:=Fm L n) f m
 |n+1,f,c+1,m=>FW (α:=Fm L n) (λx=>mE n x c) f m
def eO{α:Type}:∀{f:Oo (T3a α)}{lo hi:Int}{j:Nat}{s:T3a α},Ch3 f lo hi->f[j]?=N8 s->lo<=s.1/\s.1<=s.2.1/\s.2.1<=hi/\(∀t,f[j+1]?=N8 t->t.1=s.2.1+1)/\(∀(i:Nat)(u:T3a α),i<j->f[i]?=N8 u->u.2.1<s.1)/\(j=0->s.1=lo)
 | [],_,_,j,s,_,e=>by simp at e
 |t :: f,lo,hi,0,s,h,e=>by
  cases e;let c:=h.1;let b:=h.2.1;let n:=h.2.2.le;calc(∅,∅,∅,λt e=>?_,λi u hi=>Og hi<|zE i,λ_=>c,);cases f with
  |nil=>simp at e
  |cons u f=>simp at e;subst e;exact h.2.2.1
 |t :: f,lo,hi,j+1,s,h,e=>by
  let d:f[j]?=N8 s:= ~~~e
  let(p,m,l,k,g,o):=eO (f:=f) h.2.2 d;let b:=h.2.1;refine(∅,m,l,λt e=>k t<|~~~e,λi u hi a=>?_,λz=>∅,)
  match i,a with
  |0,a=>cases a;lia
  |i+1,a=>calc g i u ∅ (~~~a)
section
variable{L:Type}
def rR{n:Nat}{f:Oo (T3a<|Fm L n)}{lo hi:Int}{j:Nat}{t:T3a (Fm L n)}{c:Int}{a:Oo Int}{x:L}(h:Ch3 f lo hi)(e:f[j]?=N8 t)(l:t.1<=c)(d:c<=t.2.1)(b:Tel n t.2.2 a x):Tel (n+1) (f:Fm L (n+1)) (c :: a) x:=by
 let(_,_,_,_,k,_):=eO h e;calc .cons e d (λi u hi g=>by have:=k i u hi g;lia) b
end
def  uf{L:Type}(d:Nat)(F:Fm L d)(H:Hp)(r:Ki)(b:Oo Ki)(mss:Oo (Oo Int)):Prop:=H r=N8 (.lst<|b.map mt)/\MLs H b mss/\⇑mss=d/\∀(c:Nat)(a:Oo Int),mss[c]?=N8 a->a.Pairwise (· < ·)/\∀m,m∈a↔mE d F c m
def uf.keep{L:Type}{d:Nat}{F:Fm L d}{H H':Hp}{r:Ki}{a:Oo Ki}{mss:Oo (Oo Int)}(h:uf d F H r a mss)(k:∀b o,(b=r\/b∈a)->H b=N8 o->H' b=N8 o):uf d F H' r a mss:=(k _ _ (.inl U) h.1,h.2.1.keep λq c o e=>k q o (.inr c) e,h.2.2,)
def mn{α:Type}:∀{f:Oo (T3a α)}{lo hi:Int},Ch3 f lo hi->(f.map (·.1)).Pairwise (· < ·)/\∀t∈f,lo<=t.1
 | [],_,_,_=>⟨.nil,λt e=>by cases e⟩
 |t :: f,lo,hi,h=>by
  let(a,b):=mn h.2.2;let i:=h.1;let g:=h.2.1;refine(.cons (λx d=>?_) a,λu c=>?_,)
  .let(u,c,rfl):=br.mp d;let:=b u c;show t.1<u.1;lia
  .rcases af.mp c with rfl|c
   .lia
   .let:=b u c;lia
def oz{K:bd}{H:Hp}{Q:VK}{a b:Ki}{xs ys:Oo V}(d:H a=N8 (.tup xs))(c:H b=N8 (.tup ys))(hz:⇑xs+⇑ys<=Kk)(q:∀(r:Ki)(H':Hp),aw H H'->H' r=N8 (.tup<|xs++ys)->Q (.ref r) H'):vm K (.ref a) (.ref b) H Q:=by
 refine(a,b,xs,ys,U,U,RG d,RG c,hz,λz=>?_,λ_ z=>?_,λ_ _ p e=>q p _ (aj e _) ag,)
 .subst z;exact q b H (aw.refl _) c
 .subst z;calc q a H (aw.refl _) (by rw[iI];exact d)
def  BxA(H:Hp)(a:Ki)(B:Oo (Int×Int)):Prop:=∃b,H a=N8 (.tup b)/\PL H b B
def BxA.mono{H H':Hp}{a:Ki}{B:Oo (Int×Int)}(h:BxA H a B)(s:bG H H'):BxA H' a B:=by let(b,e,p):=h;calc(b,s _ _ e,p.mono s,)
structure JC(B ps:Oo (Int×Int)):Prop where
 len:B.length=⇑ps
 get:∀(k:Nat)(b p:Int×Int),B[k]?=N8 b->ps[k]?=N8 p->p.1<=b.1/\b.1<=b.2/\b.2<=p.2
def  TD(g h f:Ki)(H:Hp)(t:Ki)(c:Oo V)(bs:Prs)(rws:Oo Rw):Prop:=∃(b e d:Ki)(fs:Oo (Str×V))(a:Oo V),H t=N8 (.ins g e fs)/\fs.lookup s!"rows"=↑b/\fs.lookup s!"domains"=↑d/\H d=N8 (.lst c)/\aJ c bs (Dom h f H)/\H b=N8 (.lst a)/\RL NT H a rws
def TD.same{c d b:Ki}{H H':Hp}{t:Ki}{a:Oo V}{bs:Prs}{rws:Oo Rw}(h:TD c d b H t a bs rws)(s:aw H H'):TD c d b H' t a bs rws:=by
 let(f,o,q,fs,e,n,m,l,k,j,i,g):=h;calc(f,o,q,fs,e,s _ _ n,m,l,s _ _ k,aJ.mono j λ_ _ p=>p.same s,s _ _ i,g.same s,)
def ug{H:Hp}{D:Ki}{o:HO}:hide (upd H D o) D=hide H D:=by
 funext b
 unfold hide;by_cases h:b=D
 .rw[Of h,Of h]
 .rw[Oe h,Oe h,av h]
def qN{H H':Hp}{D:Ki}(s:aw H H'):aw (hide H D) (hide H' D):=λb o e=>by
 unfold hide at e⊢;by_cases h:b=D
 .rw[Of h]at e;cases e
 .rw[Oe h]at e⊢;calc s b o e
def xm(H:Hp)(D:Ki):aw (hide H D) H:=λb o e=>by
 unfold hide at e;by_cases h:b=D
 .rw[Of h]at e;cases e
 .rw[Oe h]at e;calc e
def MLs.nil{H:Hp}:MLs H [] []:=(U,λj a e=>by simp at e,)
def MLs.snoc{H:Hp}{d:Oo Ki}{mss:Oo (Oo Int)}{r:Ki}{ms:Oo Int}(h:MLs H d mss)(e:H r=N8 (.lst<|ms.map ut)):MLs H (d++[r]) (mss++[ms]):=by
 refine(by rw[cn,cn,h.1];rfl,λj m a=>?_,);by_cases c:j<⇑mss
 .rw[fS c]at a;let(f,i,g):=h.2 j m a;exact(f,by rw[fS (by rw[h.1];exact c)];exact i,g,)
 .rw[jy ∅]at a;let b:j-⇑mss=0:=by
   let:=(JQ.mp a).1;rw[il]at this;lia
  rw[b]at a;cases a;calc(r,by rw[jy (by rw[h.1];lia),h.1,b];rfl,e,)
def  rmk(c:Nat)(b:Int×Int)(w:Rw):Oo Int:=(ends<|w.1.getD c []).filter λt=>decide (b.1<t) && decide (t<=b.2)
def  MkC(rws:Oo Rw)(c:Nat)(b:Int×Int)(x:Int):Prop:=∃w∈rws,x∈rmk c b w
def uh:∀R:Prs,⇑(ends R)=2*R.length
 | []=>rfl
 |p :: R=>by
  rw[xS,en,en,uh R,en];lia
def xn{rws:Oo Rw}{c:Nat}{b:Int×Int}{x:Int}:x∈(rws.map<|rmk c b).flatten↔MkC rws c b x:=by
 rw[u5];constructor
 .rintro⟨l,e,a⟩;let(w,d,rfl):=br.mp e;exact(w,d,a,)
 .rintro⟨w,d,a⟩;calc(_,br.mpr (w,d,U,),a,)
def  Ea:HO->Prop
 | .frz _ (.lst _)=>True
 | .frz _ _=>False
 | .tbl _=>False
 |_=>True
def  So(H H':Hp):Prop:=∀d o,Ea o->H d=N8 o->H' d=N8 o
def So.of{H H':Hp}(s:aw H H'):So H H':=λd o _ e=>s d o e
def So.trans{H f c:Hp}(a:So H f)(b:So f c):So H c:=λd o p e=>b d o p<|a d o p e
def So.tups{H H':Hp}(s:So H H'):bG H H':=λd a e=>s d _ trivial e
def So.lst{H H':Hp}{a:Ki}{xs:Oo V}(s:So H H')(e:H a=N8 (.lst xs)):H' a=N8 (.lst xs):=s _ _ trivial e
def So.hide{H:Hp}{a:Oo Ki}(f:Fzs H a):So H (hideL H a):=λd o p e=>by
 rw[aZ (f.out e λz q=>by rw[q]at p;exact p)];calc e
section
variable{H H':Hp}(s:So H H')
include s
def SpA.so{N:Ki->Prop}{l:Ki}{ps:Prs}(h:SpA N H l ps):SpA N H' l ps:=by let(n,a,e,p):=h;calc(n,a,s _ _ trivial e,p.mono s.tups,)
def RL.so{N:Ki->Prop}{xs:Oo V}{rws:Oo Rw}(h:RL N H xs rws):RL N H' xs rws:=aJ.mono h λ_ _ (b,a,e,n,f,c,)=>(b,a,s _ _ trivial e,n,s _ _ trivial f,aJ.mono c λ_ _ p=>SpA.so s p,)
def Dom.so{d c a:Ki}{b:Int×Int}(h:Dom d c H a b):Dom d c H' a b:=by let(C,f,g,fs,e,r):=h;calc(C,f,g,fs,s _ _ trivial e,r,)
def Tbl.so{b c a t:Ki}{rws:Oo Rw}{i:Nat}{o:Int×Int}(h:Tbl b c a H t rws i o):Tbl b c a H' t rws i o:=by
 let(f,g,v,fs,d,e,u,r,q,p,n,m,l,k,j):=h;calc(f,g,v,fs,d,e,s _ _ trivial u,r,q,p,s _ _ trivial n,RL.so s m,l,Dom.so s k,j,)
def MLs.so{a:Oo Ki}{mss:Oo (Oo Int)}(h:MLs H a mss):MLs H' a mss:=(h.1,λj b e=>let ⟨r,e1,e2⟩:=h.2 j b e;(r,e1,s _ _ trivial e2,),)
def TD.so{c d b t:Ki}{a:Oo V}{bs:Prs}{rws:Oo Rw}(h:TD c d b H t a bs rws):TD c d b H' t a bs rws:=by
 let(f,o,q,fs,e,n,m,l,k,j,i,g):=h;calc(f,o,q,fs,e,s _ _ trivial n,m,l,s _ _ trivial k,aJ.mono j λ_ _ p=>Dom.so s p,s _ _ trivial i,RL.so s g,)
end
def vY{ms L:Oo Int}(a:ms.Pairwise (· < ·))(h:∀x∈ms,x∈L):⇑ms<=L.length:=bh (a.imp λh=>Pf h) h
structure RfH(cT cN cW:Ki)(H:Hp)(t:Ki)(dv:Oo V)(bs:Prs)(rws:Oo Rw)(L:Nat->Oo Int)(kk:Nat)(i:Nat)(o:Int×Int):Prop where
 td:TD cT cN cW H t dv bs rws
 tb:Tbl cT cN cW H t rws i o
 b4:⇑bs<=4
 r60:⇑rws<=60
 row:∀x∈rws,⇑x.1=⇑bs/\∀c,⇑(x.1.getD c [])<=6
 mrk:∀(c:Nat)(b:Int×Int),bs[c]?=N8 b->⇑(L c)<=kk/\∀x,MkC rws c b x->x∈L c
 few:(kk+1)^⇑bs<=300
 k57:kk<=57
 le:∀p∈bs,p.1<=p.2
def  jf(K:bd)(H:Hp):Prop:=∀z,lc K "row_form" = N8 z->bP H z.2 [(oo Y70,"row_form.<locals>.<lambda>")]
def jf.same{K:bd}{H H':Hp}(h:jf K H)(s:aw H H'):jf K H':=λz e=>(h z e).same s
structure BR(bs:Prs)(rws:Oo Rw)(cols:Oo (List<|Int×Int)):Prop where
 ok:iu cols bs
 ex:∃css:Oo (Oo Int),⇑css=⇑bs/\cols=kt (λp cs=>aU p.1 p.2 cs) bs css/\∀(j:Nat)(p:Int×Int)(cs:Oo Int),bs[j]?=N8 p->css[j]?=N8 cs->cs.Pairwise (· < ·)/\∀x,x∈cs↔MkC rws j p x
def oA{rws:Oo Rw}{c:Nat}{b:Int×Int}{x:Int}(h:MkC rws c b x):b.1<x/\x<=b.2:=by
 let(d,_,a):=h;let:=(ke.mp a).2;rw[Iv,Om,Om]at this;calc this
abbrev mkg(rws:Oo Rw)(a:Oo Int):Int:=((msk (gN rws a) ⇑rws:Nat):Int)
structure SpG(ps:Oo Int)(m:Int)(n:Nat)(qs:Prs):Prop where
 le:∀p∈qs,p.1<=p.2
 pw:qs.Pairwise λp q=>p.2<q.1
 bel:∀a,ps[n]?=N8 a->∀p∈qs,p.2<a
 iff:∀x,inP qs x=Oa↔∃(k:Nat)(a b:Int),k<n/\ps[k]?=N8 a/\ps[k+1]?=N8 b/\eM m k=Oa/\a<=x/\x<b
 ep:∀p∈qs,p.1∈ps/\p.2+1∈ps
 lenA:2*⇑qs<=n+1
 lenB:(∀p∈qs,∀a,ps[n]?=N8 a->p.2≠a-1)->2*⇑qs<=n
section
variable{ps:Oo Int}{m:Int}{n:Nat}{a b:Int}(hp:Pts ps)(ea:ps[n]?=N8 a)(eb:ps[n+1]?=N8 b)
include hp ea eb
end
def  vN(bs:Oo Nat):Oo V:=bs.map λb:Nat=>ut (b:Int)
def  grow(a:Oo (Oo Nat))(n:Nat):Oo (Oo Nat):=a.flatMap λp=>(db n).map λk=>p++[k]
def AB{A:Prs}{m n:Int}(f:m<=n)(h:∀e∈ends A,e<=m\/n<e):inP A n=inP A m:=by
 rw[tz,gs,gs];constructor
 .rintro⟨p,a,c,b⟩;let d:=h _<|fV.mpr (p,a,.inl U,);exact(p,a,∅,∅,)
 .rintro⟨p,a,c,b⟩;let d:=h _<|fV.mpr (p,a,.inr U,);calc(p,a,∅,∅,)
def qO{f g:Nat->Bool}:∀{n:Nat},(∀k,k<n->f k=g k)->msk f n=msk g n
 |0,_=>rfl
 |n+1,h=>by rw[kC,kC,h n<|yl n,qO λk a=>h k (wI a)]
def iZ:∀{a:Oo Int}{ps:Oo (Int×Int)},InB a ps->⇑a=⇑ps/\∀(j:Nat)(c:Int)(p:Int×Int),a[j]?=N8 c->ps[j]?=N8 p->p.1<=c/\c<=p.2
 |_,_,.nil=>(U,λj c p e=>by simp at e,)
 |_,_,.cons h1 h2 h=>by
  let(f,g):=iZ h;refine(by rw[en,en,f],λj c p d b=>?_,);cases j with
  |zero=>cases d;cases b;exact(h1,h2,)
  |succ j=>calc g j c p (~~~d) (~~~b)
def BS{bs:Prs}{rws:Oo Rw}{a:Oo (List<|Int×Int)}(F:BR bs rws a)(v:∀x∈rws,⇑x.1=⇑bs){b:Oo Int}(h:InB b bs):mkg rws (kt ck a b)=mkg rws b:=by
 let(css,L,e,D):=F.ex;let(I,s):=iZ h;let r:⇑(kt ck a b)=⇑b:=by rw[e,lO,lO];lia
 show((msk (gN rws<|kt ck a b) ⇑rws:Nat):Int)=((msk (gN rws b) ⇑rws:Nat):Int);rw[qO λk E=>?_];let(x,ex):∃x,rws[k]?=N8 x:=(_,JP E,);let g:=JR ex;let H:=v x g;unfold gN gf;rw[cO,ex,r];show(db ⇑b).all (λj=>inP (x.1.getD j [])<|(kt ck a b).getD j 0)=(db ⇑b).all λj=>inP (x.1.getD j [])<|b.getD j 0
 let f:∀j∈db ⇑b,inP (x.1.getD j []) ((kt ck a b).getD j 0)=inP (x.1.getD j []) (b.getD j 0):=λj d=>by
  let d:=gd.mp d;let(c,q):∃c,b[j]?=N8 c:=(_,JP d,);let(p,o):∃p,bs[j]?=N8 p:=(_,JP ∅,);let(m,u):∃m,css[j]?=N8 m:=(_,JP ∅,);let(A,i):=D j p m o u;let(G,b2):=s j c p q o;let t:=BQ (css:=css) o u q;rw[←e]at t;let(C,K,J,B):=ud (hi:=p.2) A (λy n=>(oA<|(i y).mp n).1) G b2;rw[cO (l:=kt ck a b),t,cO (l:=b),q];show inP _ (ck (aU p.1 p.2 m) c)=inP _ c
  symm
  refine AB C λy n=>?_
  by_cases z:p.1<y/\y<=p.2
  .let:MkC rws j p y:=(x,g,ke.mpr (n,by rw[Iv,Om,Om];exact z,),);by_cases w:y<=c
   .exact .inl<|B y ((i y).mpr this) w
   .exact .inr ∅
  .by_cases w:y<=p.1
   .exact .inl ∅
   .exact .inr ∅
 rw[tz,jL,jL];calc(λh j d=>by rw[←f j d];exact h j d,λh j d=>by rw[f j d];exact h j d,)
def So.ins{H H':Hp}{a C b:Ki}{fs:Oo (Str×V)}(s:So H H')(e:H a=N8 (.ins C b fs)):H' a=N8 (.ins C b fs):=s _ _ trivial e
inductive Lx:Oo Int->Oo Int->Prop
 |nil:Lx [] []
 |here {a b:Int}{A B:Oo Int}:a<b->Lx (a :: A) (b :: B)
 |there {a:Int}{A B:Oo Int}:Lx A B->Lx (a :: A) (a :: B)
def tab_ne{K:bd}{x y:Str}{c t c' t':Ki}(h:lc K x=N8 (c,t))(h':lc K y=N8 (c',t'))(d:t≠t'):∀z a,lc K x=N8 z->lc K y=N8 a->z.2≠a.2:=λz a e b=>by
 rw[h]at e;rw[h']at b;cases e;cases b;calc d
def tab_keep{H H':Hp}{P b:Ki}{L:Oo (Pos×Str)}(h:bP H P L)(i:P≠b){ps:Array Kd}(e:H b=N8 (.tbl ps))(k:∀d o,d≠b->H d=N8 o->H' d=N8 o):bP H' P L:=by
 let(f,r,q,n):=h;calc(f,k _ _ i r,q,λp m=>?_,);rcases n p m with z|⟨c,g,l,a,j⟩
 .exact .inl z
 .exact .inr (c,g,l,k _ _ (λz=>by rw[z,e]at a;cases a) a,j,)
def BU{L M:Type} [DecidableEq L] [DecidableEq M] {h:L->M}{g:Oo Int->L}{a:Oo (List<|Int×Int)}{ps:Oo (Int×Int)}(c:iu a ps):pR h ⇑a (lay g a [])=lay (λd=>h<|g d) a [] :=
 lI (Az<|rE c []) (rE c []) λe b x y i f=>(kE i<|BP (rF c [] e b) (rE c []) b).trans (kE f<|rF (g:=λd=>h<|g d) c [] e b).symm
def  vdm(rws:Oo Rw)(i:Nat)(o:Int×Int)(m:Int):SI:=ver (wf i o.1 o.2)<|pkF rws (eM m) ⇑rws
def FX{L:Type}{d n:Nat}(e:n=d)(F:Fm L n)(P:(n:Nat)->Fm L n->Prop)(h:P n F):∃G:Fm L d,P d G:=by subst e;calc(F,h,)
def  jg(K:bd)(H:Hp):Prop:=∀z,lc K "verdict_form" = N8 z->bP H z.2 [(oo Y74,"verdict_form.<locals>.<lambda>")]
def jg.same{K:bd}{H H':Hp}(h:jg K H)(s:aw H H'):jg K H':=λz e=>(h z e).same s
abbrev Dm:=Sum (Int×Int)<|Oo Str
def  DmX(d c:Ki)(H:Hp)(a:Ki):Dm->Prop
 | .inl p=>∃b fs,H a=N8 (.ins d b fs)/\fs.lookup s!"low"=N8 (.int p.1)/\fs.lookup s!"high"=N8 (.int p.2)/\fs.lookup s!"has_code"=N9
 | .inr zs=>∃b fs l,H a=N8 (.ins c b fs)/\fs.lookup s!"words"=↑l/\H l=N8 (.lst<|zs.map v0)/\fs.lookup s!"low"=N8 (.int 0)/\fs.lookup s!"high"=N8 (.int<|hiW zs)/\fs.lookup s!"has_code"=N9
def  Dm.b:Dm->Int×Int
 | .inl p=>p
 | .inr zs=>(0,hiW zs)
def  TDo(e:Ki)(H:Hp)(t:Ki)(d:Oo V)(b:Ki):Prop:=∃c a fs,H t=N8 (.ins e c fs)/\fs.lookup s!"domains"=↑a/\fs.lookup s!"outcome"=↑b/\H a=N8 (.lst d)
structure Col where
 prs:Prs
 w:Bool
 sd:Int
structure Ch(ps:Prs):Prop where
 le:∀(i:Nat)(p:Int×Int),ps[i]?=N8 p->p.1<=p.2
 nxt:∀(i:Nat)(p q:Int×Int),ps[i]?=N8 p->ps[i+1]?=N8 q->q.1=p.2+1
structure Jq(c:Col):Prop where
 some_:1<=⇑c.prs
 few:⇑c.prs<=6
 ch:Ch c.prs
 w0:c.w=Oa->∀p,c.prs[0]?=N8 p->p.1=0
 wl:c.w=Oa->∀(i:Nat)(p:Int×Int),c.prs[i]?=N8 p->p.2<40
def  Col.lo(c:Col):Int:=(c.prs.headD (0,0)).1
def  Col.hi(c:Col):Int:=(c.prs.getLastD (0,0)).2
def  Col.b(c:Col):Int×Int:=(c.lo,c.hi)
structure Srt(ps:Prs):Prop where
 le:∀(i:Nat)(p:Int×Int),ps[i]?=N8 p->p.1<=p.2
 lt:∀(i j:Nat)(p q:Int×Int),i<j->ps[i]?=N8 p->ps[j]?=N8 q->p.2<q.1
structure Hi(prs:Prs)(b n:Nat)(ps:Prs):Prop where
 srt:Srt ps
 iff:∀x:Int,inP ps x=Oa↔∃(k:Nat)(p:Int×Int),k<n/\prs[k]?=N8 p/\b.testBit k=Oa/\p.1<=x/\x<=p.2
def  mrg(a:Prs)(b:Nat):Nat->Prs
 |0=>[]
 |n+1=>if b.testBit n then(if (Oc (0<n) && b.testBit (n-1)) then(mrg a b n).dropLast++[(((mrg a b n).getLastD (0,0)).1,(a.getD n (0,0)).2)]else mrg a b n++[a.getD n (0,0)])else mrg a b n
abbrev BW:=Oo Nat×Int
structure Jr(cs:Oo Col)(o:Col)(w:BW):Prop where
 len:⇑w.1=⇑cs
 lt:∀(j b:Nat)(c:Col),w.1[j]?=N8 b->cs[j]?=N8 c->b<2^⇑c.prs
 lo:o.lo<=w.2
 hi:w.2<=o.hi
structure JD(cs:Oo Col)(w:BW)(x:Rw):Prop where
 code:x.2=w.2
 len:⇑x.1=⇑cs
 sp:∀(j:Nat)(ps:Prs)(c:Col)(b:Nat),x.1[j]?=N8 ps->cs[j]?=N8 c->w.1[j]?=N8 b->Hi c.prs b ⇑c.prs ps
 is:∀(j:Nat)(ps:Prs)(c:Col)(b:Nat),x.1[j]?=N8 ps->cs[j]?=N8 c->w.1[j]?=N8 b->ps=mrg c.prs b ⇑c.prs
def  FY(bs p:Oo Nat):Bool:=(db ⇑p).all λj=>(bs.getD j 0).testBit<|p.getD j 0
def  bF(ws:Oo BW)(p:Oo Nat)(k:Nat):Bool:=FY (ws.getD k ([],0)).1 p
def  cnt(ws:Oo BW)(p:Oo Nat):Oo Nat:=(db ⇑ws).filter<|bF ws p
structure TOk(cN cW:Ki)(H:Hp)(nm wy:Str)(ou:Ki)(zs:Oo Str)(dv:Oo V)(rws:Oo Rw)(bs:Prs)(o:Int×Int):Prop where
 words:∀z∈nm :: zs,isw z=Oa
 once:(nm :: zs).Nodup
 one:1<=⇑zs
 four:⇑zs<=4
 way:wy∈six
 sum:wy=s!"sum" -> ∃dx fs,H ou=N8 (.ins cN dx fs)
 doms:aJ dv bs (Dom cN cW H)
 out:Dom cN cW H ou o
 len:⇑bs=⇑zs
 rows:∀w∈rws,t6 bs o w
 few:⇑rws<=200
def  mg(c:Col)(b:Nat):Prs:=mrg c.prs b ⇑c.prs
def  cel(a:Oo Col)(bs:Oo Nat):Oo Prs:=kt mg a bs
def  vd(rws:Oo Rw)(i:Nat)(o:Int×Int)(m:Nat):SI:=ver (wf i o.1 o.2)<|pkF rws (eM (m:Int)) ⇑rws
section
variable(f:Oo Int->SI)(PS:Oo (Oo Nat))
end
section
variable{f:Oo Int->SI}{PS:Oo (Oo Nat)}
end
def  gw(ws:Oo BW)(k:Nat):BW:=ws.getD k ([],0)
def  mkp(ws:Oo BW)(ks:Oo Nat)(p:Oo Nat):Nat:=msk (λk=>decide (k∈ks) && FY (gw ws k).1 p) ⇑ws
structure MsI(PS:Oo (Oo Nat))(ws:Oo BW)(ks Ms:Oo Nat):Prop where
 of:∀m∈Ms,∃p∈PS,m=mkp ws ks p
 at_:∀p∈PS,mkp ws ks p∈Ms
def  spn(rws:Oo Rw)(c:Nat):Nat:=(rws.map λw=>⇑(w.1.getD c [])).sum
def BV{rws:Oo Rw}{w:Rw}{c:Nat}(h:w∈rws):⇑(w.1.getD c [])<=spn rws c:=by
 unfold spn;induction rws with
 |nil=>cases h
 |cons x rws a =>
  rw[iJ,pE];rcases af.mp h with rfl|h
  .lia
  .let:=a h;lia
def ui(c:Nat)(b:Int×Int):∀rws:Oo Rw,⇑((rws.map<|rmk c b).flatten)<=2*spn rws c
 | []=>vk _
 |w :: rws=>by
  let d:⇑(rmk c b w)<=2*⇑(w.1.getD c []):=vr (tw _ _) (by rw[uh];lia);let a:=ui c b rws;unfold spn at a⊢;rw[iJ,RA,cn,iJ,pE];lia
structure RfB(cT cN cW:Ki)(H:Hp)(t:Ki)(dv:Oo V)(bs:Prs)(rws:Oo Rw)(L:Nat->Oo Int)(g:Nat)(i:Nat)(o:Int×Int):Prop where
 td:TD cT cN cW H t dv bs rws
 tb:Tbl cT cN cW H t rws i o
 b4:⇑bs<=4
 rn:⇑rws<=200
 row:∀x∈rws,⇑x.1=⇑bs
 sp:∀c,spn rws c<=499
 mrk:∀(c:Nat)(b:Int×Int),bs[c]?=N8 b->⇑(L c)<=400/\∀x,MkC rws c b x->x∈L c
 gr:∀mss:Oo (Oo Int),⇑mss=⇑bs->(∀(c:Nat)(b:Int×Int)(ms:Oo Int),bs[c]?=N8 b->mss[c]?=N8 ms->ms.Pairwise (· < ·)/\∀x,x∈ms↔MkC rws c b x)->_M.gr bs mss ⇑bs=g
 le:∀p∈bs,p.1<=p.2
def RfB.so{c d b t:Ki}{H H':Hp}{a:Oo V}{bs:Prs}{rws:Oo Rw}{L:Nat->Oo Int}{g i:Nat}{o:Int×Int}(h:RfB c d b H t a bs rws L g i o)(s:So H H'):RfB c d b H' t a bs rws L g i o:=(TD.so s h.td,Tbl.so s h.tb,h.b4,h.rn,h.row,h.sp,h.mrk,h.gr,h.le,)
def  prd:Oo Nat->Nat
 | []=>1
 |n :: ns=>n*prd ns
def oB:∀(a:Oo Nat)(n:Nat),prd (a++[n])=prd a*n
 | [],n=>by show n*1=1*n;lia
 |m :: a,n=>by show m*prd (a++[n])=m*prd a*n;rw[oB a n,Nat.mul_assoc]
def xo:∀{a:Oo Nat}{n:Nat},n∈a->(∀m∈a,1<=m)->n<=prd a/\1<=prd a
 |m :: a,n,h,h1=>by
  let f:1<=prd a:=by
   clear h;induction a with
   |nil=>exact vk _
   |cons k a e =>
    let:=h1 k (by simp);let:=e λc b=>h1 c (by rcases af.mp b with rfl|b;calc cf;simp[b])
    exact Nat.mul_pos ∅ ∅
  let b:=h1 m cf;calc(?_,Nat.mul_pos ∅ ∅,);rcases af.mp h with rfl|h
  .show n<=n*prd a;exact O7 n ∅
  .let:=(xo h λc d=>h1 c<|dy _ d).1;show n<=m*prd a;calc vr this<|Nat.le_mul_of_pos_left _ ∅
def Eb{bs:Prs}{rws:Oo Rw}{css:Oo (Oo Int)}(i:⇑css=⇑bs)(h:∀(j:Nat)(p:Int×Int)(a:Oo Int),bs[j]?=N8 p->css[j]?=N8 a->a.Pairwise (· < ·)/\∀x,x∈a↔MkC rws j p x){j:Nat}{p:Int×Int}{a:Oo Int}(d:bs[j]?=N8 p)(e:css[j]?=N8 a):⇑(aU p.1 p.2 a)=gl bs css j:=by
 let(f,g):=h j p a d e;rw[cx,rP f (ms:=a) (lo:=p.1) (hi:=p.2) λc=>(λb=>(b,oA<|(g c).mp b,),λb=>b.1,)];unfold gl;rw[cO,d,cO,e];rfl
def RfB.prd{B C A t:Ki}{H:Hp}{z:Oo V}{bs:Prs}{rws:Oo Rw}{L:Nat->Oo Int}{g i:Nat}{o:Int×Int}(h:RfB B C A H t z bs rws L g i o){a:Oo (List<|Int×Int)}(v:BR bs rws a):_M.prd (a.map NE)=g:=by
 let(d,m,e,l):=v.ex;rw[←h.gr d m λc b s y x=>l c b s y x];let f:⇑a=⇑bs:=by rw[e,lO];lia
 let k:∀n,n<=⇑bs->_M.prd ((a.take n).map NE)=_M.gr bs d n:=λn=>by
  induction n with
  |zero=>exact λ_=>U
  |succ n u =>
   intro D;let(p,q):∃p,bs[n]?=N8 p:=(_,JP ∅,);let(j,r):∃j,d[n]?=N8 j:=(_,JP ∅,);let w:a[n]?=N8 (aU p.1 p.2 j):=by rw[e,my,q,r]
   rw[take_snoc w,fj,iJ,ri,oB,u ∅,Eb m l q r];rfl
 let:=k ⇑bs<|vk _;rw[←f,fm]at this;rw[this,f]
def RfB.cl{x y w t:Ki}{H:Hp}{v:Oo V}{bs:Prs}{rws:Oo Rw}{L:Nat->Oo Int}{g i:Nat}{o:Int×Int}(h:RfB x y w H t v bs rws L g i o){a:Oo (List<|Int×Int)}(n:BR bs rws a):∀c∈a,⇑c<=g:=λc q=>by
 rw[←h.prd n];calc(xo (br.mpr (c,q,U,)) λm f=>?_).1;let(z,k,rfl):=br.mp f;let(l,A,e,_):=n.ex;let(j,b):=jk k;rw[e]at b;let r:=(JQ.mp b).1;rw[lO]at r;let(p,s):∃p,bs[j]?=N8 p:=(_,JP ∅,);let(d,u):∃d,l[j]?=N8 d:=(_,JP ∅,);rw[my,s,u]at b;let b:aU p.1 p.2 d=z:=ci b;rw[←b,cx];lia
def  mq(n:Nat)(ks:Oo Nat)(a:Nat->Bool):Nat:=msk (λk=>decide (k∈ks) && a k) n
def  PtB(bs:Prs)(rws:Oo Rw)(b:Nat->Bool):Prop:=∃a,InB a bs/\b=gN rws a
structure MsR(bs:Prs)(rws:Oo Rw)(ks Ms:Oo Nat):Prop where
 of:∀m∈Ms,∃φ,PtB bs rws φ/\m=mq ⇑rws ks φ
 at_:∀φ,PtB bs rws φ->mq ⇑rws ks φ∈Ms
def  FZ(low:Int)(a:Nat):Int×Int:=(low+(a:Int),low+(a:Int))
structure RwI(low:Int)(own:Nat->Int)(P:Nat->Prop)(R:Oo Rw):Prop where
 row:∀w∈R,∃sp:Prs,w.1=[sp]/\sp≠[]/\⇑sp<=100/\∀p∈sp,∃a:Nat,P a/\p=FZ low a/\w.2=own (a%2)
 cov:∀a,P a->∃w∈R,∃sp:Prs,w.1=[sp]/\FZ low a∈sp/\w.2=own (a%2)
 one:∀(a j j':Nat)(w w':Rw),R[j]?=N8 w->R[j']?=N8 w'->gf w.1 [low+(a:Int)]=Oa->gf w'.1 [low+(a:Int)]=Oa->j=j'
section
variable{low:Int}{own:Nat->Int}{P S:Nat->Prop}{R:Oo Rw}
end
section
variable{low:Int}{own:Nat->Int}{P:Nat->Prop}{R:Oo Rw}{place sz:Nat}{other:Int}{more:Bool}{i:Nat}{o:Int×Int}
def BX{c:Nat}{b:Int×Int}{w:Rw}{x:Int}:x∈rmk c b w↔(∃p∈w.1.getD c [],x=p.1\/x=p.2+1)/\b.1<x/\x<=b.2:=by
 unfold rmk;rw[ke,fV,Iv,Om,Om]
def  uj(low:Int)(sz:Nat):Oo Int:=(db<|sz-1).map λj:Nat=>low+1+(j:Int)
def oC{x:Int}:x∈uj low sz↔low<x/\x<=low+(sz:Int)-1:=by
 unfold uj;rw[br];constructor
 .rintro⟨j,a,rfl⟩;let:=gd.mp a;lia
 .rintro⟨c,b⟩;calc((x-low-1).toNat,gd.mpr ∅,∅,)
def BY:(uj low sz).Nodup:=by
 unfold uj;rw[FB,qS];calc Qj (λh=>∅) pf
def vZ{b c:Nat}:∀{rws:Oo Rw},(∀w∈rws,⇑(w.1.getD c [])<=b)->spn rws c<=b*⇑rws
 | [],_=>v3 _
 |w :: rws,h=>by
  let e:=h w cf;let d:=vZ (rws:=rws) λw a=>h w<|dy _ a
  unfold spn at d⊢;rw[iJ,pE,en,Nat.mul_succ];lia
end
def  eZ(a:Oo Int)(k:Int):Int:=a.getD k.toNat 0
def  Hj(H:Hp)(c:Oo V)(a:Oo (Oo Int×Int)):Prop:=aJ c a λr b=>∃bl:Ki,H r=N8 (.tup [.ref bl,.int b.2])/\H bl=N8 (.lst<|b.1.map ut)
def BZ{a:Oo Ki}{j:Nat}{r:Ki}(e:a[j]?=N8 r):(a.map mt)[j]?=↑r:=by rw[dr,e];rfl
def Lk.cons_inv{K:bd}{H:Hp}{v r:V}{c:Int}{b:Oo Int}(h:Lk K H v (c :: b) r):∃(a:Ki)(xs:Oo V)(ts:Oo Tri)(j:Nat)(t:Tri),v=.ref a/\SqT K H a xs/\T3 H xs ts/\At ts c j t/\Lk K H t.2.2 b r:=by
 cases h with
 |cons e d f h=>calc(_,_,_,_,_,U,e,d,f,h,)
def AE{α:Type}{R:α->V->Prop}{H:Hp}:∀{f:Oo (T3a α)}{xs:Oo V},FmL R H f xs->∃ts:Oo Tri,T3 H xs ts/\∀(i:Nat)(t:T3a α),f[i]?=N8 t->∃u,ts[i]?=N8 (t.1,t.2.1,u)/\R t.2.2 u
 | [],xs,h=>by
  let:xs=[]:=jM h.1;subst this;exact([],(U,λi t e=>by simp at e,),λi t e=>by simp at e,)
 |t :: f,[],h=>by have:=h.1;simp at this
 |t :: f,x :: xs,h=>by
  let(r,u,a,b,c):=h.2 0 t U;cases a;let(ts,d,g):=AE (f:=f) (xs:=xs) (~~~h.1,λi v e=>~~~h.2 (i+1) v (~~~e),);refine((t.1,t.2.1,u) :: ts,(by rw[en,en,d.1],λi v e=>?_,),λi v e=>?_,)
  .match i,e with
   |0,e=>cases e;exact(r,U,b,)
   |i+1,e=>exact d.2 i v (~~~e)
  .match i,e with
   |0,e=>cases e;exact(u,U,c,)
   |i+1,e=>calc g i v (~~~e)
def Ec{L:Type} [DecidableEq L] {A:Lfp K L}{K:bd}{H:Hp}{n:Nat}{F:Fm L n}{k:Oo Int}{x:L}(h:Tel n F k x):∀{v:V},FmV A H n F v->∃u,A.R H x u/\Lk K H v k u:=by
 induction h with
 |nil x=>intro v g;exact(v,g,.nil _,)
 | @cons n f c k x j t e1 e2 e3 _ ih =>
  intro v g;let(a,e,rfl,q,r):∃(a:Ki)(e:Oo V),v=.ref a/\H a=N8 (.tup e)/\FmL (FmV A H n) H f e:=g;let(D,s,m):=AE r;let(u,B,p):=m j t e1;let(z,o,l):=ih p;calc(z,o,.cons (RG q) s (B,e2,λi w hi y=>?_,) l,);let b:i<⇑f:=by have:=(JQ.mp e1).1;lia
  let(C,d,_):=m i _<|JP b;rw[y]at d;cases d;calc e3 i _ hi<|JP b
def xp{p d:Hp}{c:Oo Ki}{css:Oo (Oo Int)}{l t:Ki}{o:Oo Int}{zs:Oo V}(h:MLs p c css)(k:∀r∈c,r≠l)(s:aw p d)(e:d t=N8 (.lst<|o.map ut))(i:t≠l):MLs (upd d l<|.lst zs) (c++[t]) (css++[o])/\∀r∈c++[t],r≠l:=by
 refine((by rw[cn,cn,h.1];rfl,λj q b=>?_,),λr a=>?_,)
 .by_cases m:j<⇑css
  .rw[fS m]at b;let(r,n,f):=h.2 j q b;exact(r,by rw[fS (by rw[h.1];exact m)];exact n,(av<|k r<|JR n).trans<|s _ _ f,)
  .let g:j=⇑css:=by
    let:=(JQ.mp b).1;simp at this;lia
   subst g;simp at b;subst b;exact(t,by rw[←h.1];simp,(av i).trans e,)
 .rcases iH.mp a with a | a
  .exact k r a
  .rw[fo.mp a];calc i
section
variable{L:Type}
def B1{n:Nat}{f:Oo (T3a<|Fm L n)}{lo hi:Int}{j:Nat}{t:T3a (Fm L n)}{c:Int}(h:Ch3 f lo hi)(k:lo<=c)(e:f[j]?=N8 t)(b:∀(i:Nat)(u:T3a (Fm L n)),i<j->f[i]?=N8 u->u.2.1<c):t.1<=c:=by
 let(_,_,_,_,_,g):=eO h e;cases j with
 |zero=>have:=g U;lia
 |succ j =>
  let(u,a):∃u,f[j]?=N8 u:=(_,JP (by have:=(JQ.mp e).1;lia),);let(_,_,_,d,_):=eO h a;let:=d t e;let:=b j u ∅ a;lia
def v7:∀{n:Nat}{F:Fm L n}{ps:Oo (Int×Int)}{k:Nat}{m:Int},fP n F ps->(mE n F k m↔∃(b:Oo Int)(p:Int×Int)(x y:L),InB b ps/\b[k]?=N8 m/\ps[k]?=N8 p/\p.1<m/\Tel n F b x/\Tel n F (b.set k<|m-1) y/\x≠y)
 |0,F,ps,k,m,I=>by
  let I:ps=[]:=I;subst I;refine(λh=>h.elim,λ(b,p,x,y,O,V,h3,_,)=>by simp at h3,)
 |n+1,F,ps,k,m,I=>by
  let(f,rfl):∃f:Oo (T3a<|Fm L n),(f:Fm L (n+1))=F:=(F,U,);let(p,r,rfl,a0,d,S,N):ShS (fP n) f ps:=I;cases k with
  |zero =>
   constructor
   .rintro⟨t,q,rfl⟩;let(j,g):=jk q;let g:f[j+1]?=N8 t:=by rw[oI]at g;exact g
    let(s,K):∃s,f[j]?=N8 s:=(_,JP (by have:=(JQ.mp g).1;lia),);let(a1,a2,a3,a4,X,_):=eO d K;let(Q,b2,b3,b4,b5,_):=eO d g;let ea:=a4 t g;let Z:s.2.2≠t.2.2:=S j _ _ (by rw[dr,K];rfl) (by rw[dr,g];rfl);let hS:=N s<|JR K;let hT:=N t<|JR g;let(b,x,y,a,o,l,e):∃b x y,InB b r/\Tel n s.2.2 b x/\Tel n t.2.2 b y/\x≠y:=PX λR=>Z<|lI hS hT λb a x y o l=>PX λe=>R (b,x,y,a,o,l,e,)
    calc(t.1 :: b,p,y,x,.cons Q ∅ a,U,U,∅,rR d g (lf _) b2 l,?_,λz=>e z.symm,);show Tel (n+1) f ((t.1-1) :: b) x;exact rR d K ∅ ∅ o
   .rintro⟨b,H,x,y,a,C,B,v,o,l,e⟩;let B:p=H:=ci B;subst B;cases a with
    | @cons c b _ _ O V a =>
     have C:c=m:=ci C;subst C;let l:Tel (n+1) f ((c-1) :: b) y:=l;let(j,t,A,W,P,M):=o.inv;let(j',Y,G,E,D,w):=l.inv;let B2:=B1 d O A P;by_cases q:t.1=c
     .let(_,_,_,_,_,a6):=eO d A;cases j with
      |zero=>have:=a6 U;lia
      |succ j=>exact(t,JR (i:=j) (by rw[oI];exact A),q,)
     .exfalso;let J:=di G E D;let T:vAt f (c-1)=N8 t.2.2:=di A ∅ λi u hi eu=>by
       let(_,_,_,_,X,_):=eO d A;let:=X i u hi eu;lia
      rw[J]at T;rw[←ci T]at M;exact e<|kE M w
  |succ k =>
   constructor
   .rintro⟨t,q,h⟩;let(b,H,x,y,a,C,B,v,o,l,e):=(v7<|N t q).mp h;let(j,g):=jk q;let(Q,b2,b3,_):=eO d g;exact(t.1 :: b,H,x,y,.cons Q ∅ a,~~~C,~~~B,v,rR d g (lf _) b2 o,by rw[Ro];exact rR d g (lf _) b2 l,e,)
   .rintro⟨b,H,x,y,a,C,B,v,o,l,e⟩;cases a with
    | @cons c b _ _ O V a =>
     rw[Ro]at l;let(j,t,A,W,P,M):=o.inv;let(j',Y,G,E,D,w):=l.inv;let J:=di A W P;rw[di G E D]at J;rw[ci J]at w;let q:=JR A;calc(t,q,(v7<|N t q).mpr (b,H,x,y,a,~~~C,~~~B,v,M,w,e,),)
end
def xq{b:Oo Int}{ps:Oo (Int×Int)}{k:Nat}{m:Int}{p:Int×Int}(h:InB b ps)(f:b[k]?=N8 m)(d:ps[k]?=N8 p)(i:p.1<m):InB (b.set k<|m-1) ps:=by
 let g:=⇑h;refine AA (by rw[q5];exact g) λj c q a eq=>?_
 by_cases e:j=k
 .subst e;rw[lg (JQ.mp f).1]at a;cases a;rw[d]at eq;cases eq;let:=h.get j m p f d;lia
 .rw[nt (λz=>e z.symm)]at a;calc h.get j c q a eq
def xr{b:Nat}:∀{a:Oo (Oo Int)},(∀ms∈a,⇑ms<=b)->⇑a.flatten<=⇑a*b
 | [],_=>v3 _
 |x :: a,h=>by
  let e:=h x cf;let d:=xr λms c=>h ms<|dy _ c
  rw[RA,cn,en,Fl];lia
def  BdS{α:Type}(b:Nat)(S:α->Prop)(f:Oo (T3a α)):Prop:=⇑f<=b/\∀t∈f,S t.2.2
def uk{α:Type}{f:Oo (T3a α)}{lo hi:Int}(h:Ch3 f lo hi):(f.tail.map (·.1)).Pairwise (· < ·):=by
 cases f with
 |nil=>exact .nil
 |cons t f=>calc(mn h.2.2).1
structure JE(K:bd)(cT cN cW:Ki)(H:Hp)(t u:Ki)(bs:Prs)(rws Ed:Oo Rw)(i i':Nat)(o:Int×Int)(gc:Oo (List<|Int×Int)):Prop where
 ex:∃(dv ev:Oo V)(L L':Nat->Oo Int)(kk:Nat),RfH cT cN cW H t dv bs rws L kk i o/\RfH cT cN cW H u ev bs Ed L' kk i' o/\(∀c∈gc,⇑c<=kk+1)/\∃(ou pu:Ki)(ds:Oo Dm)(d:Dm),TDo cT H t dv ou/\TDo cT H u ev pu/\aJ dv ds (DmX cN cW H)/\aJ ev ds (DmX cN cW H)/\DmX cN cW H ou d/\DmX cN cW H pu d/\⇑ds<=10
 gok:iu gc bs
 glen:⇑gc=⇑bs
 g1:∀cs,InB cs bs->mkg rws (kt ck gc cs)=mkg rws cs
 g2:∀cs,InB cs bs->mkg Ed (kt ck gc cs)=mkg Ed cs
structure RwD where
 rl:Ki
 rx:Oo V
 bms:Oo (Oo Int×Int)
 wy:Str
 wi:Nat
structure Js(H:Hp)(pss:Oo (Oo Int))(d:RwD):Prop where
 e:H d.rl=N8 (.lst d.rx)
 r:Hj H d.rx d.bms
 n:⇑d.rx<=60
 b:∀b∈d.bms,⇑b.1=⇑pss/\∀x∈b.1,0<=x
 w:six[d.wi]?=N8 d.wy
def B3(xs:Oo V){n:Nat}(h:n<=⇑xs):kj xs N9 (N8 (n:Int))=xs.take n:=by
 unfold kj;let a:HT.sIx ⇑xs ⇑xs (N8 (n:Int))=n:=by rw[HT.sIx_nat];lia
 let b:HT.sIx ⇑xs 0 N9=0:=rfl;rw[a,b,sT,Nat.sub_zero]
def yC(xs:Oo V){n:Nat}(h:n<=⇑xs):kj xs (N8 (n:Int)) N9=xs.drop n:=by
 unfold kj;let a:HT.sIx ⇑xs 0 (N8 (n:Int))=n:=by rw[HT.sIx_nat];lia
 let b:HT.sIx ⇑xs ⇑xs N9=⇑xs:=rfl;rw[a,b];calc ja (by rw[ny];lia)
def Ee{H:Hp}{xs:Oo V}{B:Oo (Int×Int)}(h:PL H xs B)(n:Nat):PL H (xs.take n) (B.take n):=by
 induction h generalizing n with
 |nil=>cases n <;> exact .nil
 |cons e _ a=>cases n with
  |zero=>exact .nil
  |succ n=>calc .cons e (a n)
def Ef{H:Hp}{xs:Oo V}{B:Oo (Int×Int)}(h:PL H xs B)(n:Nat):PL H (xs.drop n) (B.drop n):=by
 induction h generalizing n with
 |nil=>cases n <;> exact .nil
 |cons e r a=>cases n with
  |zero=>exact .cons e r
  |succ n=>calc a n
def yD{B:Oo (Int×Int)}{c:Nat}(h:c<B.length)(p:Int×Int):B.take c++[p]++B.drop (c+1)=B.set c p:=by
 rw[List.set_eq_take_append_cons_drop,Of h,hZ];rfl
def  BkL(H:Hp)(us:Oo V)(a:Oo (List<|Int×Int)):Prop:=aJ us a<|BxA H
def  lJ(B:Oo (Int×Int))(ps:Oo (Int×Int)):Oo (List<|Int×Int):=ps.map λp=>B++[p]
def  wid(a:Oo (List<|Int×Int))(ps:Oo (Int×Int)):Oo (List<|Int×Int):=a.flatMap λB=>lJ B ps
def rT(a:Oo (List<|Int×Int))(ps:Oo (Int×Int)):⇑(wid a ps)=⇑a*⇑ps:=by
 induction a with
 |nil=>rw[show wid [] ps=[]from U];simp
 |cons B a b=>rw[show wid (B :: a) ps=lJ B ps++wid a ps from U,cn,b,show⇑(lJ B ps)=⇑ps from aa ..,en,Fl];lia
def AF{a:Oo (List<|Int×Int)}{ps:Oo (Int×Int)}{i:Nat}{B:Oo (Int×Int)}(e:a[i]?=N8 B):wid (a.take<|i+1) ps=wid (a.take i) ps++lJ B ps:=by
 unfold wid;rw[take_snoc e,ro,Pa]
def  kF(ps:Oo (Int×Int))(f n:Nat):Oo (Int×Int):=(db n).map λi=>((ps.getD i (0,0)).1,(ps.getD (i+f) (0,0)).2)
def  kG(ps:Oo (Int×Int))(f:Nat):Oo (Int×Int):=(db f).flatMap λd=>kF ps d<|⇑ps-d
def yE(ps:Oo (Int×Int))(f n:Nat):kF ps f (n+1)=kF ps f n++[((ps.getD n (0,0)).1,(ps.getD (n+f) (0,0)).2)]:=by unfold kF;rw[jO,fj];rfl
def lK(ps:Oo (Int×Int))(f:Nat):kG ps (f+1)=kG ps f++kF ps f (⇑ps-f):=by unfold kG;rw[jO,ro,Pa]
def oE(ps:Oo (Int×Int))(f n:Nat):⇑(kF ps f n)=n:=by unfold kF;rw[aa,jQ]
def AG(ps:Oo (Int×Int))(f:Nat):⇑(kG ps f)<=f*⇑ps:=by
 induction f with
 |zero=>exact v3 _
 |succ f a=>rw[lK,cn,oE,Fl];lia
def Eg{H:Hp}{xs:Oo V}{ps:Oo (Int×Int)}(h:PL H xs ps){i:Nat}(hi:i<⇑ps):∃r,xs[i]?=↑r/\H r=N8 (.tup [.int (ps.getD i (0,0)).1,.int (ps.getD i (0,0)).2]):=by
 let(p,r,c,b,a):=h.get (JP (by rw[⇑h];exact hi));let:ps.getD i (0,0)=p:=by rw[cO,c];rfl
 calc(r,by rw[JP (by rw[⇑h];exact hi),b],by rw[this];exact a,)
def  gO(p:Int×Int)(ms:Oo Int):Oo (Int×Int):=kG (aU p.1 p.2 ms) ⇑(aU p.1 p.2 ms)
def  dI(ps:Oo (Int×Int))(mss:Oo (Oo Int)):Oo (List<|Int×Int):=(Qh ps mss).foldl (λa q=>wid a<|gO q.1 q.2) [[]]
def oF{α a:Type}:∀(xs:Oo α)(ys:Oo a)(i:Nat),Qh (xs.take i) (ys.take i)=(Qh xs ys).take i
 | [],_,_=>by simp
 |_ :: _,[],i=>by cases i <;> simp
 |x :: xs,y :: ys,0=>by simp
 |x :: xs,y :: ys,i+1=>by simp[oF xs ys i]
def lL{ps:Oo (Int×Int)}{mss:Oo (Oo Int)}{i:Nat}{p:Int×Int}{ms:Oo Int}(b:ps[i]?=N8 p)(a:mss[i]?=N8 ms):dI (ps.take<|i+1) (mss.take<|i+1)=wid (dI (ps.take i)<|mss.take i) (gO p ms):=by
 let e:(Qh ps mss)[i]?=N8 (p,ms):=by rw[ov];exact(b,a,)
 unfold dI;rw[oF,oF,take_snoc e,qT];rfl
def i0{ps:Oo (Int×Int)}{mss:Oo (Oo Int)}(f:⇑mss=⇑ps):∀B∈dI ps mss,B.length=⇑ps:=by
 let d:∀(l:Oo ((Int×Int)×Oo Int))(A:Oo (List<|Int×Int))(n:Nat),(∀B∈A,B.length=n)->∀B∈l.foldl (λe q=>wid e<|gO q.1 q.2) A,B.length=n+⇑l:=by
  intro l;induction l with
  |nil=>intro A n h B a;exact h B a
  |cons q l b =>
   intro A n h B a;rw[sX]at a;let:=b (wid A<|gO q.1 q.2) (n+1) (λB a=>?_) B a
   .rw[this,en];lia
   .let(C,c,a):=jP.mp a;let(p,_,rfl):=br.mp a;rw[cn,h C c];rfl
 intro B a;rw[d _ _ 0 (λB a=>by rw[fo.mp a];rfl) B a,List.length_zip];lia
structure MkO(ps:Oo (Int×Int))(mss:Oo (Oo Int)):Prop where
 len:⇑mss=⇑ps
 col:∀(j:Nat)(p:Int×Int)(ms:Oo Int),ps[j]?=N8 p->mss[j]?=N8 ms->ms.Pairwise (· < ·)/\(∀m∈ms,p.1<m/\m<=p.2)/\⇑ms<=29
 few:∀i,⇑(dI (ps.take i)<|mss.take i)<=1000
 six:⇑ps<=5
abbrev Blk:=List<|Int×Int
def  bkK(B:Blk):NK:=B.map λp=>[p.1,p.2]
def rV:∀{A B:Blk},bkK A=bkK B->A=B
 | [],[],_=>rfl
 | [],_ :: _,h=>by cases h
 |_ :: _,[],h=>by cases h
 |(a,b) :: A,(c,d) :: B,h=>by
  injection h with i g;injection i with f e;injection e with e _;rw[rV g,show a=c from f,show b=d from e]
def um{H:Hp}{a:Ki}{B:Blk}(h:BxA H a B):vQ H (bkK B) a:=by
 let(c,j,f):=h;let g:∀{c:Oo V}{B:Blk},PL H c B->∃b:Oo Ki,c=b.map mt/\Paired (λk p=>H p=N8 (.tup<|k.map ut)) (bkK B) b:=by
  intro c B h;induction h with
  |nil=>exact([],U,.nil,)
  | @cons x p c B e _ ih =>
   let(r,rfl,i):=e;let(b,rfl,d):=ih;exact(r :: b,U,.cons i d,)
 let(b,rfl,d):=g f;calc(b,j,d,)
def mW{H H':Hp}(s:bG H H'){ks:NK}{a:Ki}(h:vQ H ks a):vQ H' ks a:=by let(b,e,p):=h;calc(b,s _ _ e,Paired.mapP p λ_ _ z=>s _ _ z,)
def kH{H H':Hp}(s:bG H H'){kvs:Oo (NK×Ki×V)}(h:ot H kvs):ot H' kvs:=λe a=>mW s<|h e a
structure DcP(P:Kf)(w:Ke)(K:bd)(H:Hp)(d:Ki)(kvs:Oo (NK×Ki×V))(M:Oo (Blk×Pln)):Prop where
 at_:H d=N8 (cC P w d kvs)
 keys:ot H kvs
 vals:Paired (λ(e:NK×Ki×V)(m:Blk×Pln)=>e.1=bkK m.1/\∃a,e.2.2=.ref a/\PlA K H m.2 a) kvs M
def DcP.keep{P:Kf}{w:Ke}{K:bd}{H H':Hp}{d:Ki}{kvs:Oo (NK×Ki×V)}{M:Oo (Blk×Pln)}(h:DcP P w K H d kvs M)(e:H' d=N8 (cC P w d kvs))(s:bG H H'):DcP P w K H' d kvs M :=
 (e,kH s h.keys,Paired.mapP h.vals λ_ _ (a,b,c,q,)=>(a,b,c,q.mono s,),)
def DcP.get{P:Kf}{w:Ke}{K:bd}{H:Hp}{d:Ki}{kvs:Oo (NK×Ki×V)}{M:Oo (Blk×Pln)}(h:DcP P w K H d kvs M){B:Blk}{p:Pln}(b:(B,p)∈M):∃c a,(bkK B,c,mt a)∈kvs/\PlA K H p a:=by
 let j:∀{kvs:Oo (NK×Ki×V)}{M:Oo (Blk×Pln)},Paired (λ(e:NK×Ki×V)(m:Blk×Pln)=>e.1=bkK m.1/\∃a,e.2.2=.ref a/\PlA K H m.2 a) kvs M->(B,p)∈M->∃c a,(bkK B,c,mt a)∈kvs/\PlA K H p a:=by
  intro kvs M h;induction h with
  |nil=>intro b;cases b
  | @cons e m es ms he _ ih =>
   intro b;rcases af.mp b with rfl|b
   .let(n,a,l,f):=he;let(k,c,v):=e;cases n;cases l;exact(c,a,cf,f,)
   .let(c,a,i,g):=ih b;exact(c,a,dy _ i,g,)
 calc j h.vals b
def  cmb(x:Int)(c:Nat)(m:Int)(a b:Pln):Pln:=if a=b then a else(x+max a.1 b.1,.ask c m a.2 b.2)
def  pT(B:Blk)(x:Int)(pl:Blk->Pln)(c:Nat)(ms:Oo Int):Oo Pln:=(ms.filter λm=>decide<|(B.getD c (0,0)).1<m/\m<=(B.getD c (0,0)).2).map λm=>cmb x c m (pl<|B.set c ((B.getD c (0,0)).1,m-1))<|pl<|B.set c (m,(B.getD c (0,0)).2)
def  gA(B:Blk)(mss:Oo (Oo Int))(xs:Oo Int)(pl:Blk->Pln)(i:Nat):Oo Pln:=(db i).flatMap λc=>pT B (xs.getD c 0) pl c<|mss.getD c []
def qP(B:Blk)(x:Int)(pl:Blk->Pln)(c:Nat)(ms:Oo Int)(m:Int):pT B x pl c (ms++[m])=pT B x pl c ms++if (B.getD c (0,0)).1<m/\m<=(B.getD c (0,0)).2 then[cmb x c m (pl<|B.set c ((B.getD c (0,0)).1,m-1)) (pl<|B.set c (m,(B.getD c (0,0)).2))] else[]:=by
 unfold pT;rw[oD,fj];by_cases h:(B.getD c (0,0)).1<m/\m<=(B.getD c (0,0)).2
 .let z:=On (p:=λm=>decide<|(B.getD c (0,0)).1<m/\m<=(B.getD c (0,0)).2) (a:=m) (l:=[])<|Oh h;rw[Of h,z];rfl
 .let z:=Op (p:=λm=>decide<|(B.getD c (0,0)).1<m/\m<=(B.getD c (0,0)).2) (a:=m) (l:=[])<|λq=>h<|Oj q;rw[Oe h,z];rfl
def yF(B:Blk)(mss:Oo (Oo Int))(xs:Oo Int)(pl:Blk->Pln)(i:Nat):gA B mss xs pl (i+1)=gA B mss xs pl i++pT B (xs.getD i 0) pl i (mss.getD i []):=by unfold gA;rw[jO,ro,Pa]
def  mnP:Pln->Oo Pln->Pln
 |b,[]=>b
 |b,p :: ps=>mnP (if p.1<b.1 then p else b) ps
def uo:∀(ps:Oo Pln)(b:Pln),∃i,(b :: ps)[i]?=N8 (mnP b ps)/\∀(j:Nat)(p:Pln),(b :: ps)[j]?=N8 p->(mnP b ps).1<=p.1/\(j<i->(mnP b ps).1<p.1)
 | [],b=>⟨0,U,λj p e=>by
  cases j with
  |zero=>cases e;exact(lf _,λh=>Og h<|w4 _,)
  |succ j=>simp at e⟩
 |q :: ps,b=>by
  let k:mnP b (q :: ps)=mnP (if q.1<b.1 then q else b) ps:=rfl;let(i,e,h):=uo ps (if q.1<b.1 then q else b);rw[k];let f:=(h 0 _ U).1;cases i with
  |zero =>
   let e:(if q.1<b.1 then q else b)=mnP (if q.1<b.1 then q else b) ps:=ci e;by_cases c:q.1<b.1
   .rw[Of c]at e h f⊢;refine(1,by rw[←e];rfl,λj p a=>?_,)
    match j,a with
    |0,a=>cases a;rw[←e];exact(OS c,λ_=>c,)
    |1,a=>cases a;exact(f,λz=>Og z<|w4 _,)
    |j+2,a=>exact((h (j+1) p a).1,λz=>∅,)
   .rw[Oe c]at e h f⊢;refine(0,by rw[←e];rfl,λj p a=>?_,)
    match j,a with
    |0,a=>cases a;exact(f,λz=>Og z<|w4 _,)
    |1,a=>cases a;exact(∅,λz=>∅,)
    |j+2,a=>exact((h (j+1) p a).1,λz=>∅,)
  |succ i =>
   let d:=(h 0 _ U).2<|CB _;calc(i+2,e,λj p a=>?_,);let g:(mnP (if q.1<b.1 then q else b) ps).1<b.1/\(mnP (if q.1<b.1 then q else b) ps).1<q.1:=by
    by_cases c:q.1<b.1
    .rw[Of c]at d⊢;exact(∅,d,)
    .rw[Oe c]at d⊢;exact(d,∅,)
   match j,a with
   |0,a=>cases a;exact(∅,λ_=>g.1,)
   |1,a=>cases a;exact(∅,λ_=>g.2,)
   |j+2,a=>calc((h (j+1) p a).1,λz=>(h (j+1) p a).2 ∅,)
def Eh{b:Pln}{ps:Oo Pln}{i:Nat}{p:Pln}(e:(b :: ps)[i]?=N8 p)(h:∀(j:Nat)(q:Pln),(b :: ps)[j]?=N8 q->p.1<=q.1/\(j<i->p.1<q.1)):p=mnP b ps:=by
 let(k,c,d):=uo ps b;rcases EX i k with z|z|z
 .let a:=(d i p e).2 z;let b:=(h k _ c).1;lia
 .subst z;rw[e]at c;exact ci c
 .let a:=(h k _ c).2 z;let b:=(d i p e).1;lia
def B4{α:Type}{us:Oo V}{ps:Oo α}{P:Ki->α->Prop}(h:aJ us ps P):∃ds:Oo Ki,us=ds.map mt/\⇑ds=⇑ps/\∀(i:Nat)(a:Ki),ds[i]?=N8 a->∃p,ps[i]?=N8 p/\P a p:=by
 induction us generalizing ps with
 |nil=>exact([],U,h.1,λi a e=>by simp at e,)
 |cons u us b =>
  cases ps with
  |nil=>have:=h.1;simp at this
  |cons p ps =>
   let(r,e,c):=h.2 0 p U;cases e;let(ds,rfl,d,hd):=b (ps:=ps) (by have:=h.1;simpa using this,λj a e=>h.2 (j+1) a e,);refine(r :: ds,U,by rw[en,en,d],λi a e=>?_,);cases i with
   |zero=>cases e;exact(p,U,c,)
   |succ i=>calc hd i a e
def  plB(B:Blk)(mss:Oo (Oo Int))(xs:Oo Int)(pl:Blk->Pln)(s:SI2):Pln:=match gA B mss xs pl ⇑mss with
 | []=>(0,.say s)
 |p :: ps=>mnP p ps
def  mF(K:bd)(H:Hp):Prop:=∀z,lc K "plan_of" = N8 z->bP H z.2 [(oo Y62,"plan_of.<locals>.<lambda>")]
def  PlL(K:bd)(H:Hp)(us:Oo V)(ps:Oo Pln):Prop:=aJ us ps λa p=>PlA K H p a
def  Bef{α:Type}(l:Oo α)(x y:α):Prop:=∀i,l[i]?=N8 y->x∈l.take i
def rW{α c:Type}(f:α->Oo c):∀(l:Oo α)(i:Nat)(y:c),(l.flatMap f)[i]?=N8 y->∃(d:Nat)(a:α)(j:Nat),l[d]?=N8 a/\(f a)[j]?=N8 y/\(l.flatMap f).take i=(l.take d).flatMap f++(f a).take j
 | [],i,y,e=>by simp at e
 |a :: l,i,y,e=>by
  rw[qU]at e⊢;by_cases h:i<⇑(f a)
  .rw[fS h]at e;exact(0,a,i,U,e,by rw[P4 (wx h)];rfl,)
  .let h:⇑(f a)<=i:=DA h;rw[jy h]at e;let(d,b,j,m,k,g):=rW f l _ y e;calc(d+1,b,j,m,k,?_,);rw[List.take_succ_cons,qU,hZ,←g,List.take_append,ja h]
def v9{b:Type}(f:Nat->Oo b){n i:Nat}{y:b}(e:((db n).flatMap f)[i]?=N8 y):∃(d j:Nat),d<n/\(f d)[j]?=N8 y/\∀(d':Nat)(x:b),d'<d->x∈f d'->x∈((db n).flatMap f).take i:=by
 let(d,a,j,m,l,k):=rW f _ _ _ e;let(hd,c):=JQ.mp m;rw[Rq]at c;subst c;rw[jQ]at hd;calc(d,j,hd,l,λd' x h g=>?_,);rw[k];calc kn _<|jP.mpr (d',?_,g,);rw[List.take_range,yT (wx hd)];calc gd.mpr h
def oG{ps:Oo (Int×Int)}{f n i:Nat}(h:i<n):((ps.getD i (0,0)).1,(ps.getD (i+f) (0,0)).2)∈kF ps f n:=br.mpr (i,gd.mpr h,U,)
def B5{ps:Oo (Int×Int)}{f n j:Nat}{y:Int×Int}(e:(kF ps f n)[j]?=N8 y):j<n/\y=((ps.getD j (0,0)).1,(ps.getD (j+f) (0,0)).2):=by
 unfold kF at e;rw[dr]at e;let(a,d,c):=JB.mp e;let(hd,b):=JQ.mp d;rw[Rq]at b;rw[jQ]at hd;subst b;calc(hd,c.symm,)
def mX{lo hi:Int}{a:Oo Int}{i:Nat}(h:i<=⇑a):((aU lo hi a).getD i (0,0)).1=(lo :: a).getD i 0:=by
 unfold aU;rw[cO,cO,JP (by simp;lia),JP (by simp;lia)];simp
def rX{lo hi:Int}{a:Oo Int}{i:Nat}(h:i<=⇑a):((aU lo hi a).getD i (0,0)).2=(a.map (· - 1)++[hi]).getD i 0:=by
 unfold aU;rw[cO,cO,JP (by simp;lia),JP (by simp;lia)];simp
def kI{lo hi:Int}{a:Oo Int}{i:Nat}(h:i<⇑a):((aU lo hi a).getD i (0,0)).2=a.getD i 0-1:=by
 rw[rX (wx h),cO,fS<|~~~h,dr,JP h,cO,JP h];rfl
def iA{lo hi:Int}{a:Oo Int}{i:Nat}(h:i<⇑a):((aU lo hi a).getD (i+1) (0,0)).1=a.getD i 0:=by
 rw[mX ∅,List.getD_cons_succ]
def xt{a:Oo Int}(d:a.Pairwise (· < ·)){i j:Nat}(b:i<j)(c:j<⇑a):a.getD i 0<a.getD j 0:=by
 rw[cO,cO,JP c,JP ∅];calc pe.mp d i j _ c b
def AH{lo hi:Int}{a:Oo Int}(d:a.Pairwise (· < ·))(b:∀c∈a,lo<c/\c<=hi){i j:Nat}(e:i<j)(f:j<=⇑a):((aU lo hi a).getD i (0,0)).1<((aU lo hi a).getD j (0,0)).1:=by
 let(j,rfl):∃k,j=k+1:=(j-1,∅,);rw[iA ∅];cases i with
 |zero =>
  rw[mX (v3 _)];let:a.getD j 0∈a:=by rw[cO,JP ∅];exact OC _
  exact(b _ this).1
 |succ i=>rw[iA ∅];calc xt d ∅ ∅
def AI{lo hi:Int}{a:Oo Int}(e:a.Pairwise (· < ·))(b:∀c∈a,lo<c/\c<=hi){i j:Nat}(d:i<j)(g:j<=⇑a):((aU lo hi a).getD i (0,0)).2<((aU lo hi a).getD j (0,0)).2:=by
 rw[kI (i:=i) ∅];by_cases h:j<⇑a
 .rw[kI h];let:=xt e d h;lia
 .let:j=⇑a:=∅
  subst this;let f:(a.map (· - 1)++[hi]).getD ⇑a 0=hi:=by
   rw[cO,jy (by simp)];simp
  rw[rX (vk _),f];let:a.getD i 0∈a:=by rw[cO,JP ∅];exact OC _
  let:=(b _ this).2;lia
def B6{p:Int×Int}{ms:Oo Int}(r:ms.Pairwise (· < ·))(h:∀c∈ms,p.1<c/\c<=p.2){lo hi m:Int}(x:m∈ms)(H:lo<m)(G:m<=hi):Bef (gO p ms) (lo,m-1) (lo,hi)/\Bef (gO p ms) (m,hi) (lo,hi):=by
 let g:∀i,(gO p ms)[i]?=N8 (lo,hi)->(lo,m-1)∈(gO p ms).take i/\(m,hi)∈(gO p ms).take i:=by
  intro i e;unfold gO kG at e⊢;rw[cx]at e⊢;let(d,j,hd,E,s):=v9 _ e;let(y,A):=B5 E;injection A with B D;let(k,b,C):=Rc x;let a:ms.getD k 0=m:=by rw[cO,JP b];exact C
  let o:j<=k:=by
   refine DA λz=>?_
   let:((aU p.1 p.2 ms).getD (k+1) (0,0)).1<=((aU p.1 p.2 ms).getD j (0,0)).1:=by
    by_cases q:k+1=j
    .rw[q];exact lf _
    .exact OS<|AH r h ∅ ∅
   rw[iA b,a]at this;lia
  let l:k<j+d:=by
   refine Bx λz=>?_
   let:((aU p.1 p.2 ms).getD (j+d) (0,0)).2<=((aU p.1 p.2 ms).getD k (0,0)).2:=by
    by_cases q:j+d=k
    .rw[q];exact lf _
    .exact OS<|AI r h ∅ ∅
   rw[kI b,a]at this;lia
  let F:j+d<=⇑ms:=zz<|Nat.add_lt_of_lt_sub y;let(t,w):=Nat.le.dest o;let(u,v):=Nat.le.dest l;refine(s t _ ∅ ?_,s u _ ∅ ?_,)
  .let:=oG (ps:=aU p.1 p.2 ms) (f:=t) (n:=⇑ms+1-t) (i:=j)<|Ra ∅;rw[w,kI b,a,←B]at this;exact this
  .let:=oG (ps:=aU p.1 p.2 ms) (f:=u) (n:=⇑ms+1-u) (i:=k+1)<|Ra ∅;rw[v,iA b,a,←D]at this;exact this
 calc(λi e=>(g i e).1,λi e=>(g i e).2,)
def jF{α g:Type}{f:α->Oo g}:∀{l:Oo α},l.Nodup->(∀a∈l,(f a).Nodup)->(∀a∈l,∀b∈l,a≠b->∀x∈f a,x ∉ f b)->(l.flatMap f).Nodup
 | [],_,_,_=>nY
 |a :: l,hn,hf,hd=>by
  rw[qU,o3];rw[lX]at hn;calc(hf a cf,jF hn.2 (λb d=>hf b<|dy _ d) λb d c i=>hd b (dy _ d) c<|dy _ i,λx h y e z=>?_,);subst z;let(b,d,e):=jP.mp e;calc hd a cf b (dy _ d) (λz=>hn.1<|z ▸ d) x h e
def uq{lo hi:Int}{a:Oo Int}(f:a.Pairwise (· < ·))(b:∀c∈a,lo<c/\c<=hi){i j:Nat}(d:i<=⇑a)(g:j<=⇑a)(e:((aU lo hi a).getD i (0,0)).1=((aU lo hi a).getD j (0,0)).1):i=j:=by
 rcases EX i j with z|z|z
 .let:=AH f b z g;lia
 .exact z
 .let:=AH f b z d;lia
def yG{lo hi:Int}{a:Oo Int}(f:a.Pairwise (· < ·))(b:∀c∈a,lo<c/\c<=hi){i j:Nat}(d:i<=⇑a)(g:j<=⇑a)(e:((aU lo hi a).getD i (0,0)).2=((aU lo hi a).getD j (0,0)).2):i=j:=by
 rcases EX i j with z|z|z
 .let:=AI f b z g;lia
 .exact z
 .let:=AI f b z d;lia
def yH{p:Int×Int}{ms:Oo Int}(g:ms.Pairwise (· < ·))(f:∀c∈ms,p.1<c/\c<=p.2):(gO p ms).Nodup:=by
 unfold gO kG;rw[cx];refine jF List.nodup_range (λd _=>?_) λd hd t k s x n m=>?_
 .unfold kF;rw[FB,qS];refine pf.imp_of_mem λ{i j} hi h r z=>?_
  injection z with l _;rw[gd]at hi h;let:=uq g f ∅ ∅ l;lia
 .let(i,hi,rfl):=br.mp n;let(j,h,e):=br.mp m;rw[gd]at hi h hd k;injection e with q o;let a:=uq g f ∅ ∅ q;let b:=yG g f ∅ ∅ o;lia
def yI{f:Oo (List<|Int×Int)}{ps:Oo (Int×Int)}(j:f.Nodup)(d:ps.Nodup):(wid f ps).Nodup:=by
 refine jF j (λB _=>?_) λB _ C _ g x i h=>?_
 .unfold lJ;rw[FB]at d⊢;rw[qS];exact d.imp λ{a b} c z=>c (by have:=List.append_cancel_left z;injection this)
 .let(p,_,rfl):=br.mp i;let(q,_,e):=br.mp h;calc g (QQ e U).symm
def mY{d:Oo (List<|Int×Int)}{ps:Oo (Int×Int)}{C B:Oo (Int×Int)}{q p:Int×Int}(h:(Bef d C B/\q∈ps/\q=p)\/(C=B/\Bef ps q p)):Bef (wid d ps) (C++[q]) (B++[p]):=by
 intro i e;unfold wid at e⊢;let(k,s,j,r,b,o):=rW _ _ _ _ e;unfold lJ at b;rw[dr]at b;let(f,n,c):=JB.mp b;let m:s=B:=QQ c U;let l:f=p:=by have:=List.append_inj_right' c U;injection this
 subst m l;rw[o];rcases h with⟨a,g,rfl⟩|⟨rfl,a⟩
 .exact kn _<|jP.mpr (C,a k r,br.mpr (q,g,U,),)
 .refine ik _ ?_;unfold lJ;rw[←List.map_take];calc br.mpr (q,a j n,U,)
def kJ(ps:Oo (Int×Int))(mss:Oo (Oo Int))(p:Int×Int)(ms:Oo Int)(a:⇑mss=⇑ps):dI (ps++[p]) (mss++[ms])=wid (dI ps mss) (gO p ms):=by
 unfold dI;rw[List.zip_append a.symm,qT];rfl
def xu:∀(n:Nat){ps:Oo (Int×Int)}{mss:Oo (Oo Int)}{B:Oo (Int×Int)}{c:Nat}{lo hi m:Int}{ms:Oo Int},⇑ps=n->⇑mss=⇑ps->(∀(j:Nat)(p:Int×Int)(ms:Oo Int),ps[j]?=N8 p->mss[j]?=N8 ms->ms.Pairwise (· < ·)/\(∀m∈ms,p.1<m/\m<=p.2)) ->
  B∈dI ps mss->B[c]?=N8 (lo,hi)->mss[c]?=N8 ms->m∈ms->lo<m->m<=hi->Bef (dI ps mss) (B.set c (lo,m-1)) B/\Bef (dI ps mss) (B.set c (m,hi)) B
 |0,ps,mss,B,c,lo,hi,m,ms,hn,hl,_,_,_,hm,_,_,_=>by
  let:mss=[]:=jM ∅;rw[this]at hm;simp at hm
 |n+1,ps,mss,B,c,lo,hi,m,ms,hn,hl,ok,i,hc,hm,hmm,h1,h2=>by
  let(d,p,rfl):∃d p,ps=d++[p]:=(ps.dropLast,ps.getLast (by intro z;rw[z]at hn;simp at hn),(mz _).symm,);let(f,v,rfl):∃f v,mss=f++[v]:=(mss.dropLast,mss.getLast (by intro z;rw[z,hn]at hl;simp at hl),(mz _).symm,);let o:⇑d=n:= ~~~hn
  let e:⇑f=⇑d:= ~~~hl
  let l:∀(j:Nat)(p:Int×Int)(ms:Oo Int),d[j]?=N8 p->f[j]?=N8 ms->ms.Pairwise (· < ·)/\(∀m∈ms,p.1<m/\m<=p.2):=λj q ms y x=>ok j q ms (by rw[fS (JQ.mp y).1];exact y) (by rw[fS (JQ.mp x).1];exact x)
  rw[kJ _ _ _ _ e]at i⊢;let(C,k,i):=jP.mp i;let(z,w,rfl):=br.mp i;by_cases g:c<C.length
  .let u:C[c]?=N8 (lo,hi):=by rw[fS g]at hc;exact hc
   let h:C.length=⇑d:=i0 e C k;let r:f[c]?=N8 ms:=by rw[fS ∅]at hm;exact hm
   let(a,b):=xu n o e l k u r hmm h1 h2;rw[Q2 _ _ g,Q2 _ _ g];exact(mY<|.inl (a,w,U,),mY<|.inl (b,w,U,),)
  .let h:C.length=⇑d:=i0 e C k;let t:c=C.length:=by have:=(JQ.mp hc).1;rw[cn,il]at this;lia
   subst t;rw[jy (vk _),Bu]at hc;rw[h,←e,jy<|vk _,Bu]at hm;cases hc;cases hm;let(A,s):=ok ⇑d p ms (by simp) (by rw[←e];simp);let(a,b):=B6 A s hmm h1 h2;rw[sY _ _ (vk _),sY _ _<|vk _,Bu];calc(mY<|.inr (U,a,),mY<|.inr (U,b,),)
def jG:∀(n:Nat){ps:Oo (Int×Int)}{mss:Oo (Oo Int)},⇑ps=n->⇑mss=⇑ps->(∀(j:Nat)(p:Int×Int)(ms:Oo Int),ps[j]?=N8 p->mss[j]?=N8 ms->ms.Pairwise (· < ·)/\(∀m∈ms,p.1<m/\m<=p.2))->(dI ps mss).Nodup
 |0,ps,mss,hn,hl,_=>by
  let:ps=[]:=jM hn;subst this;exact lX.mpr (by simp,nY,)
 |n+1,ps,mss,hn,hl,ok=>by
  let(a,p,rfl):∃a p,ps=a++[p]:=(ps.dropLast,ps.getLast (by intro z;rw[z]at hn;simp at hn),(mz _).symm,);let(b,d,rfl):∃b d,mss=b++[d]:=(mss.dropLast,mss.getLast (by intro z;rw[z,hn]at hl;simp at hl),(mz _).symm,);let c:⇑b=⇑a:= ~~~hl
  rw[kJ _ _ _ _ c];let(h,e):=ok ⇑a p d (by simp) (by rw[←c];simp);calc yI (jG n (~~~hn) c λj q ms g f=>ok j q ms (by rw[fS (JQ.mp g).1];exact g) (by rw[fS (JQ.mp f).1];exact f)) (yH h e)
def ur{α c:Type}{f g:α->Oo c}:∀{l:Oo α},(∀a∈l,f a=g a)->l.flatMap f=l.flatMap g
 | [],_=>rfl
 |a :: l,h=>by rw[qU,qU,h a cf,ur λb d=>h b (dy _ d)]
def oH{x:Nat}:∀{l:Oo Nat},x∈l->x<=l.sum
 |y :: l,h=>by
  rw[pE];rcases af.mp h with rfl|h
  .lia
  .let:=oH h;lia
def  pU(B:Blk)(c:Nat)(ms:Oo Int):Oo Int:=ms.filter λm=>decide<|(B.getD c (0,0)).1<m/\m<=(B.getD c (0,0)).2
def  mu(mss:Oo (Oo Int))(B:Blk):Nat:=((db ⇑mss).map λc=>⇑(pU B c<|mss.getD c [])).sum
def  tot(mss:Oo (Oo Int)):Nat:=(mss.map (·.length)).sum
def rY{f g:Nat->Nat}:∀n,(∀c,c<n->f c<=g c)->((db n).map f).sum<=((db n).map g).sum
 |0,_=>vk _
 |n+1,h=>by
  rw[jO,fj,fj,nS,nS];let a:=rY n λc d=>h c ∅
  let b:=h n ∅;simp;lia
def AJ{f g:Nat->Nat}:∀n,(∀c,c<n->f c<=g c)->(∃c,c<n/\f c<g c)->((db n).map f).sum<((db n).map g).sum
 |0,_,(c,d,_,)=>Og d<|zE _
 |n+1,h,(c,d,hl,)=>by
  rw[jO,fj,fj,nS,nS];let b:=h n ∅;by_cases e:c=n
  .subst e;let a:=rY c λc d=>h c ∅
   simp;lia
  .let a:=AJ n (λc d=>h c ∅) (c,∅,hl,);simp;lia
def filter_le{p q:Int->Bool}(h:∀x,p x=Oa->q x=Oa):∀l:Oo Int,⇑(l.filter p)<=⇑(l.filter q)
 | []=>vk _
 |x :: l=>by
  let:=filter_le h l;rw[t5,t5];by_cases e:p x=Oa
  .rw[Of e,Of<|h x e,en,en];lia
  .rw[Oe e];split
   .rw[en];lia
   .exact this
def filter_lt{p q:Int->Bool}(h:∀x,p x=Oa->q x=Oa){m:Int}(c:¬ p m=Oa)(b:q m=Oa):∀{l:Oo Int},m∈l->⇑(l.filter p)<⇑(l.filter q)
 | [],a=>by cases a
 |x :: l,a=>by
  rw[t5,t5];rcases af.mp a with rfl|a
  .let:=filter_le h l;rw[Oe c,Of b,en];lia
  .let:=filter_lt h c b a;by_cases e:p x=Oa
   .rw[Of e,Of<|h x e,en,en];lia
   .rw[Oe e];split
    .rw[en];lia
    .exact this
def oJ{B:Blk}{c j:Nat}{q:Int×Int}(h:c<B.length):(B.set c q).getD j (0,0)=if j=c then q else B.getD j (0,0):=by
 rw[cO,cO,List.getElem?_set];by_cases e:c=j
 .subst e;rw[Of U,Of h,Of U];rfl
 .rw[Oe e,Oe (λz=>e z.symm)]
def CW{mss:Oo (Oo Int)}{B:Blk}{c:Nat}{lo hi lo' hi' m:Int}{ms:Oo Int}(q:⇑mss=B.length)(f:B[c]?=N8 (lo,hi))(n:mss[c]?=N8 ms)(h:m∈ms)(l:lo<m)(k:m<=hi)(o:lo<=lo')(p:hi'<=hi)(d:¬ (lo'<m/\m<=hi')):mu mss (B.set c (lo',hi'))<mu mss B:=by
 let a:c<B.length:=(JQ.mp f).1;let g:B.getD c (0,0)=(lo,hi):=by rw[cO,f];rfl
 let i:mss.getD c []=ms:=by rw[cO,n];rfl
 refine AJ _ (λj r=>?_) (c,∅,?_,)
 .unfold pU;by_cases e:j=c
  .subst e;rw[oJ a,Of U,g];exact filter_le (λx b=>by have:=Oj b;exact Oh (∅,∅,)) _
  .rw[oJ a,Oe e];exact vk _
 .unfold pU;rw[oJ a,Of U,g,i];calc filter_lt (λx b=>by have:=Oj b;exact Oh (∅,∅,)) (λz=>d<|Oj z) (Oh (l,k,)) h
def Ei(mss:Oo (Oo Int))(B:Blk):mu mss B<=tot mss:=by
 unfold mu tot;let e:(mss.map (·.length))=(db ⇑mss).map λc=>⇑(mss.getD c []):=by
  refine pA λi=>?_
  rw[dr,dr];by_cases h:i<⇑mss
  .rw[JP h,List.getElem?_range h];simp[h]
  .rw[lY ∅,lY (by simp;lia)];rfl
 rw[e];calc rY _ λc _=>tw _ _
def  Agr(mss:Oo (Oo Int))(B:Blk)(f g:Blk->Pln):Prop:=∀(c:Nat)(lo hi m:Int)(a:Oo Int),B[c]?=N8 (lo,hi)->mss[c]?=N8 a->m∈a->lo<m->m<=hi->f (B.set c (lo,m-1))=g (B.set c (lo,m-1))/\f (B.set c (m,hi))=g (B.set c (m,hi))
def yJ{mss:Oo (Oo Int)}{B:Blk}{xs:Oo Int}{f g:Blk->Pln}(k:⇑mss=B.length)(h:Agr mss B f g){i:Nat}(hi:i<=⇑mss):gA B mss xs f i=gA B mss xs g i:=by
 unfold gA;refine ur λc e=>?_
 rw[gd]at e;unfold pT;refine Rb λm d=>?_
 let(d,hd):=ke.mp d;let hd:=Oj hd;let j:B[c]?=N8 ((B.getD c (0,0)).1,(B.getD c (0,0)).2):=by rw[cO,JP ∅];rfl
 let(a,b):=h c _ _ m (mss.getD c []) j (by rw[cO,JP ∅];rfl) d hd.1 hd.2;rw[a,b]
def yK{mss:Oo (Oo Int)}{B:Blk}{xs:Oo Int}{f g:Blk->Pln}{s:SI2}(a:⇑mss=B.length)(h:Agr mss B f g):plB B mss xs f s=plB B mss xs g s:=by
 unfold plB;rw[yJ a h (vk _)]
def  plW(mss:Oo (Oo Int))(xs:Oo Int)(vd:Blk->SI2):Nat->Blk->Pln
 |0,B=>(0,.say<|vd B)
 |n+1,B=>plB B mss xs (plW mss xs vd n)<|vd B
def oK{mss:Oo (Oo Int)}{xs:Oo Int}{vd:Blk->SI2}:∀(n:Nat)(B:Blk),⇑mss=B.length->mu mss B<=n->plW mss xs vd n B=plW mss xs vd (n+1) B
 |0,B,hl,hm=>by
  show(0,Tq.say<|vd B)=plB B mss xs (plW mss xs vd 0) (vd B);let:gA B mss xs (plW mss xs vd 0) ⇑mss=[]:=by
   unfold gA;refine List.flatMap_eq_nil_iff.mpr λc d=>?_
   rw[gd]at d;unfold pT;let o:⇑(pU B c<|mss.getD c [])=0:=by
    let:=rY (f:=λj=>if j=c then⇑(pU B c<|mss.getD c []) else 0) (g:=λc=>⇑(pU B c<|mss.getD c [])) ⇑mss λj _=>by
     by_cases e:j=c
     .subst e;rw[Of U];exact vk _
     .rw[Oe e];exact v3 _
    let i:⇑(pU B c<|mss.getD c [])<=((db ⇑mss).map λj=>if j=c then⇑(pU B c<|mss.getD c []) else 0).sum:=by
     have:(if c=c then⇑(pU B c<|mss.getD c []) else 0)∈(db ⇑mss).map λj=>if j=c then⇑(pU B c<|mss.getD c []) else 0:=br.mpr (c,gd.mpr d,U,)
     rw[Of U]at this;exact oH this
    let p:mu mss B=0:=∅
    unfold mu at p;lia
   rw[show(mss.getD c []).filter (λm=>decide<|(B.getD c (0,0)).1<m/\m<=(B.getD c (0,0)).2)=[]from jM o];rfl
  unfold plB;rw[this]
 |n+1,B,hl,hm=>by
  show plB B mss xs (plW mss xs vd n) (vd B)=plB B mss xs (plW mss xs vd<|n+1) (vd B);refine yK hl λc lo hi m q d l h k i=>?_
  let a:=CW (lo':=lo) (hi':=m-1) hl d l h k i (lf _) ∅ ∅;let b:=CW (lo':=m) (hi':=hi) hl d l h k i ∅ (lf _) ∅;calc(oK n _ (by rw[q5];exact hl) ∅,oK n _ (by rw[q5];exact hl) ∅,)
def  plF(mss:Oo (Oo Int))(xs:Oo Int)(vd:Blk->SI2)(B:Blk):Pln:=plW mss xs vd (tot mss) B
def Ej{mss:Oo (Oo Int)}{xs:Oo Int}{vd:Blk->SI2}{B:Blk}(a:⇑mss=B.length):plF mss xs vd B=plB B mss xs (plF mss xs vd) (vd B):=by
 show plW mss xs vd (tot mss) B=_;rw[oK _ _ a (Ei mss B)];rfl
def xv:∀(ps:Oo Pln)(b:Pln),mnP b ps∈b :: ps
 | [],b=>cf
 |q :: ps,b=>by
  let:=xv ps (if q.1<b.1 then q else b);rw[show mnP b (q :: ps)=mnP (if q.1<b.1 then q else b) ps from U];rcases af.mp this with e|e
  .rw[e];split
   .exact dy _ cf
   .exact cf
  .exact dy _<|dy _ e
def mZ{mss:Oo (Oo Int)}{xs:Oo Int}{vd:Blk->SI2}:∀(n:Nat)(B:Blk),(plW mss xs vd n B).2.dep<=n
 |0,B=>vk _
 |n+1,B=>by
  show(plB B mss xs (plW mss xs vd n)<|vd B).2.dep<=n+1;let d:∀p∈gA B mss xs (plW mss xs vd n) ⇑mss,p.2.dep<=n+1:=λp e=>by
   let(c,_,e):=jP.mp e;let(m,_,rfl):=br.mp e;unfold cmb;split
   .exact O1<|mZ n _
   .show max _ _+1<=n+1;let a:=mZ (mss:=mss) (xs:=xs) (vd:=vd) n<|B.set c ((B.getD c (0,0)).1,m-1);let b:=mZ (mss:=mss) (xs:=xs) (vd:=vd) n<|B.set c (m,(B.getD c (0,0)).2);lia
  unfold plB;cases h:gA B mss xs (plW mss xs vd n) ⇑mss with
  |nil=>exact v3 _
  |cons p f=>rw[h]at d;calc d _<|xv f p
def  BdG{L:Type}(b:Nat):(n:Nat)->Fm L n->Prop
 |0,_=>True
 |n+1,f=>BdS (α:=Fm L n) (b+1) (BdG b n) f
def  dJ(mss:Oo (Oo Int))(i:Nat):Nat:=((mss.take i).map λa=>(⇑a+1)*(⇑a+2) / 2).foldl (· * ·) 1
def i4{mss:Oo (Oo Int)}{i:Nat}{ms:Oo Int}(e:mss[i]?=N8 ms):dJ mss (i+1)=dJ mss i*((⇑ms+1)*(⇑ms+2) / 2):=by
 unfold dJ;rw[take_snoc e,fj,qT];rfl
def xw{mss:Oo (Oo Int)}(h:∀ms∈mss,⇑ms<=60):∀i,dJ mss i<=1891^i
 |0=>vk _
 |i+1=>by
  let a:=xw h i;by_cases hi:i<⇑mss
  .let e:=JP hi;let b:=h _<|JR e;rw[i4 e,FU];calc A8 a ?_;let:(mss[i].length+1)*(mss[i].length+2)<=61*62:=A8 ∅ ∅;lia
  .let e:dJ mss (i+1)=dJ mss i:=by
    unfold dJ;rw[ja ∅,ja ∅]
   rw[e,FU];calc vr a<|O7 _ ⋯
def uu(ps:Oo (Int×Int)):∀f,f<=⇑ps->2*⇑(kG ps f)=f*(2*⇑ps+1-f)
 |0,_=>by rw[Nat.zero_mul];rfl
 |f+1,h=>by
  rw[lK,cn,oE,Nat.mul_add,uu ps f ∅];let(k,c):∃k,⇑ps=f+1+k:=(⇑ps-(f+1),∅,);rw[c,show 2*(f+1+k)+1-f=f+2*k+3 by lia,show f+1+k-f=k+1 by lia,show 2*(f+1+k)+1-(f+1)=f+2*k+2 by lia];let b:(f+1)*(f+2*k+2)=f*(f+2*k+2)+(f+2*k+2):=by rw[Nat.add_mul,Nat.one_mul]
  let a:f*(f+2*k+3)=f*(f+2*k+2)+f:=by rw[show f+2*k+3=(f+2*k+2)+1 by lia,Nat.mul_add,Nat.mul_one]
  rw[b,a];lia
def B7(p:Int×Int)(ms:Oo Int):⇑(gO p ms)=(⇑ms+1)*(⇑ms+2) / 2:=by
 unfold gO;let h:=uu (aU p.1 p.2 ms) _<|vk _;rw[cx]at h⊢;rw[show 2*(⇑ms+1)+1-(⇑ms+1)=⇑ms+2 by lia]at h;lia
def fb{ps:Oo (Int×Int)}{mss:Oo (Oo Int)}(d:⇑mss=⇑ps):∀i,⇑(dI (ps.take i)<|mss.take i)=dJ mss i
 |0=>rfl
 |i+1=>by
  by_cases h:i<⇑ps
  .let c:=JP h;let b:=JP (l:=mss) (i:=i) ∅;rw[lL c b,rT,B7,i4 b,fb d i]
  .let a:=fb d i;let c:ps.take (i+1)=ps.take i:=by rw[ja ∅,ja ∅]
   let b:mss.take (i+1)=mss.take i:=by rw[ja ∅,ja ∅]
   rw[c,b,a];unfold dJ;rw[b]
def uv{α:Type}:∀{f:Oo (T3a α)}{lo hi:Int},Ch3 f lo hi->(f.map (·.1)).Pairwise (· < ·)/\∀x∈f.map (·.1),lo<=x
 | [],_,_,_=>⟨.nil,λx a=>by cases a⟩
 |t :: f,lo,hi,h=>by
  let(g,e,d):=h;let(c,b):=uv d;rw[iJ];refine(nI.mpr (λx a=>by have:=b x a;lia,c,),λx a=>?_,);rcases af.mp a with rfl|a
  .lia
  .let:=b x a;lia
def AK{L:Type}{b:Nat}:∀{n:Nat}{F:Fm L n}{ps:Oo (Int×Int)}{Ls:Oo (Oo Int)},fP n F ps->(∀c m,mE n F c m->∃l,Ls[c]?=N8 l/\m∈l)->(∀l∈Ls,⇑l<=b)->BdG b n F
 |0,_,_,_,_,_,_=>trivial
 |n+1,f,ps,Ls,h,hL,h29=>by
  let(a,rfl):∃a:Oo (T3a<|Fm L n),(a:Fm L (n+1))=f:=(f,U,);let(p,r,rfl,v,o,_,u):ShS (fP n) a ps:=h;refine(?_,λt d=>AK (Ls:=Ls.tail) (u t d) (λc m g=>?_) λl s=>h29 l<|Q4 s,)
  .let i:=(uv o).1;let k:⇑(a.tail.map (·.1))<=⇑((Ls[0]?).getD []):=vY (by rw[List.map_tail];exact i.tail) λx q=>by
    let(t,d,rfl):=br.mp q;let(l,e,g):=hL 0 t.1 (show D8 a t.1 from(t,d,U,));rw[e];exact g
   let w:⇑((Ls[0]?).getD [])<=b:=by
    cases e:Ls[0]? with
    |none=>exact v3 _
    |some l=>exact h29 l (JR e)
   rw[aa,uA]at k;lia
  .let(l,e,j):=hL (c+1) m (show FW (λx=>mE n x c) a m from(t,d,g,));calc(l,by rw[oI];exact e,j,)
def  Chg(bs:Oo (Int×Int))(f:Oo Int->SI2)(c:Nat)(m:Int):Prop:=∃(a:Oo Int)(p:Int×Int),InB a bs/\a[c]?=N8 m/\bs[c]?=N8 p/\p.1<m/\f a≠f (a.set c<|m-1)
def Ek{H H':Hp}{P x y:Ki}{L Lx u:Oo (Pos×Str)}(h:bP H P L)(l:bP H x Lx)(j:bP H y u)(nx:P≠x)(i:P≠y)(k:∀d o,d≠x->d≠y->H d=N8 o->H' d=N8 o):bP H' P L:=by
 let(f,e,t,c):=h;let(w,q,_):=l;let(v,n,_):=j;calc⟨f,k _ _ nx i e,t,λp m=>(c p m).imp id λ(b,g,s,a,r,)=>(b,g,s,k b _ (λz=>by rw[z,q]at a;cases a) (λz=>by rw[z,n]at a;cases a) a,r,)⟩
def kK{H:Hp}{P d:Ki}{L:Oo (Pos×Str)}{f:Kj->Prop}{u:HO}(h:bP H P L)(e:H d=N8 (.ext f)):bP (upd H d u) P L:=by
 let(g,b,t,c):=h;calc⟨g,by rw[av (λz=>by rw[z,e]at b;cases b)];exact b,t,λp j=>(c p j).imp id λ(m,i,l,a,k,)=>(m,i,l,by rw[av (λz=>by rw[z,e]at a;cases a)];exact a,k,)⟩
def B8{P:Kf}{w:Ke}{K:bd}{H:Hp}{d:Ki}{kvs:Oo (NK×Ki×V)}{b:Oo Blk}{f:Blk->Pln}{j:Nat}{B:Blk}(h:DcP P w K H d kvs ((b.take j).map λB=>(B,f B)))(n:b.Nodup)(e:b[j]?=N8 B):bkK B ∉ kvs.map (·.1):=by
 intro o;let(x,l,p):=br.mp o;let(i,q):=jk l;let(m,g,k,_):=fZ h.vals q;rw[dr]at g;let(C,a,rfl):=JB.mp g;let c:i<j:=by have:=(JQ.mp a).1;rw[fI]at this;lia
 rw[KB c]at a;rw[p]at k;let:B=C:=rV k;subst this;let:=(List.getElem?_inj (JQ.mp a).1 n).mp<|a.trans e.symm;lia
def B9{n:Nat}{F:Fm SI2 n}{bs:Oo (Int×Int)}{f:Oo Int->SI2}(j:fP n F bs)(h:∀b,InB b bs->Tel n F b (f b))(c:Nat)(m:Int):mE n F c m↔Chg bs f c m:=by
 rw[v7 j];calc(λ(b,p,x,y,a,g,e,d,i,l,k,)=>(b,p,a,g,e,d,λz=>k ?_,),λ(b,p,a,g,e,d,i,)=>(b,p,_,_,a,g,e,d,h _ a,h _<|xq a g e d,i,),);rw[kE i (h _ a),kE l<|h _<|xq a g e d,z]
def El{p:Int×Int}{ms:Oo Int}(b:p.1<=p.2)(e:ms.Pairwise (· < ·))(a:∀c∈ms,p.1<c/\c<=p.2){q:Int×Int}(h:q∈gO p ms):p.1<=q.1/\q.1<=p.2:=by
 let(d,hd,h):=jP.mp h;let(i,hi,rfl):=br.mp h;rw[gd,cx]at hd hi;show p.1<=((aU p.1 p.2 ms).getD i (0,0)).1/\((aU p.1 p.2 ms).getD i (0,0)).1<=p.2;cases i with
 |zero=>rw[mX (v3 _)];exact(lf _,b,)
 |succ i =>
  rw[iA ∅];let:ms.getD i 0∈ms:=by rw[cO,JP ∅];exact OC _
  let:=a _ this;lia
def xx:∀(n:Nat){ps:Oo (Int×Int)}{mss:Oo (Oo Int)}{B:Blk},⇑ps=n->⇑mss=⇑ps->(∀p∈ps,p.1<=p.2)->(∀(j:Nat)(p:Int×Int)(ms:Oo Int),ps[j]?=N8 p->mss[j]?=N8 ms->ms.Pairwise (· < ·)/\(∀m∈ms,p.1<m/\m<=p.2))->B∈dI ps mss->InB (B.map (·.1)) ps
 |0,ps,mss,B,hn,hl,_,_,f=>by
  let:ps=[]:=jM hn;subst this;rw[fo.mp f];exact .nil
 |n+1,ps,mss,B,hn,hl,hle,ok,f=>by
  let(c,p,rfl):∃c p,ps=c++[p]:=(ps.dropLast,ps.getLast (by intro z;rw[z]at hn;simp at hn),(mz _).symm,);let(d,g,rfl):∃d g,mss=d++[g]:=(mss.dropLast,mss.getLast (by intro z;rw[z,hn]at hl;simp at hl),(mz _).symm,);let e:⇑d=⇑c:= ~~~hl
  rw[kJ _ _ _ _ e]at f;let(C,s,f):=jP.mp f;let(z,o,rfl):=br.mp f;let(l,h):=ok ⇑c p g (by simp) (by rw[←e];simp);let a:=xx n (~~~hn) e (λq r=>hle q<|kn _ r) (λj q ms k i=>ok j q ms (by rw[fS (JQ.mp k).1];exact k) (by rw[fS (JQ.mp i).1];exact i)) s;let b:=El (hle p<|ik _ cf) l h o;rw[fj];calc InB.snoc a b.1 b.2
def DcP.snoc{P:Kf}{w:Ke}{K:bd}{H:Hp}{d:Ki}{kvs:Oo (NK×Ki×V)}{M:Oo (Blk×Pln)}(h:DcP P w K H d kvs M){b a:Ki}{B:Blk}{p:Pln}(i:BxA H b B)(g:PlA K H p a):DcP P w K (upd H d<|cC P w d<|kvs++[(bkK B,b,.ref a)]) d (kvs++[(bkK B,b,.ref a)]) (M++[(B,p)]):=by
 let f:bG H (upd H d<|cC P w d<|kvs++[(bkK B,b,.ref a)]):=λx j e=>by rw[av (λz=>by rw[z,h.at_]at e;cases e)];exact e
 refine(ag,λe c=>?_,?_,)
 .rcases iH.mp c with c|c
  .exact mW f<|h.keys e c
  .rw[fo.mp c];exact mW f<|um i
 .exact Paired.snoc (Paired.mapP h.vals λ_ _ (x,y,z,q,)=>(x,y,z,q.mono f,)) (U,a,U,g.mono f,)
def  vdB(rws:Oo Rw)(i:Nat)(o:Int×Int)(B:Blk):SI2:=vdm rws i o (mkg rws (B.map (·.1)))
def  noT:HO->Prop
 | .tbl _=>False
 |_=>True
def  Sf(H H':Hp):Prop:=∀d o,noT o->H d=N8 o->H' d=N8 o
def Sf.of{H H':Hp}(s:aw H H'):Sf H H':=λd o _ e=>s d o e
def Sf.trans{H f c:Hp}(a:Sf H f)(b:Sf f c):Sf H c:=λd o p e=>b d o p<|a d o p e
def Sf.so{H H':Hp}(s:Sf H H'):So H H':=λd o p e=>s d o (by cases o <;> first|trivial|exact Og p (λz=>z)) e
def Sf.tups{H H':Hp}(s:Sf H H'):bG H H':=λd a e=>s d _ trivial e
def Sf.lst{H H':Hp}{a:Ki}{xs:Oo V}(s:Sf H H')(e:H a=N8 (.lst xs)):H' a=N8 (.lst xs):=s _ _ trivial e
def Sf.but1{H H':Hp}{x:Ki}{L:Oo (Pos×Str)}(a:bP H x L)(k:∀d o,d≠x->H d=N8 o->H' d=N8 o):Sf H H':=λd o n e=>k d o (λz=>by let(c,b,_):=a;rw[z,b]at e;cases e;exact n) e
def Sf.but2{H H':Hp}{x y:Ki}{L M:Oo (Pos×Str)}(f:bP H x L)(c:bP H y M)(k:∀d o,d≠x->d≠y->H d=N8 o->H' d=N8 o):Sf H H':=λd o n e=>k d o (λz=>by let(b,a,_):=f;rw[z,a]at e;cases e;exact n) (λz=>by let(b,a,_):=c;rw[z,a]at e;cases e;exact n) e
section
variable{mss:Oo (Oo Int)}{xs:Oo Int}{f:Oo Int->SI2}
end
def  MsO(bs:Oo (Int×Int))(f:Oo Int->SI2)(mss:Oo (Oo Int)):Prop:=⇑mss=⇑bs/\∀(c:Nat)(a:Oo Int),mss[c]?=N8 a->a.Pairwise (· < ·)/\∀m,m∈a↔Chg bs f c m
def MsO.ok{bs:Oo (Int×Int)}{f:Oo Int->SI2}{mss:Oo (Oo Int)}(h:MsO bs f mss):∀(j:Nat)(p:Int×Int)(ms:Oo Int),bs[j]?=N8 p->mss[j]?=N8 ms->ms.Pairwise (· < ·)/\(∀m∈ms,p.1<m/\m<=p.2):=λj p ms c b=>⟨(h.2 j ms b).1,λm d=>by
  let(l,k,i,g,a,e,_):=((h.2 j ms b).2 m).mp d;rw[c]at a;cases a;exact(e,(i.get j m p g c).2,)⟩
def MsO.uniq{bs:Oo (Int×Int)}{f:Oo Int->SI2}{mss a:Oo (Oo Int)}(h:MsO bs f mss)(g:MsO bs f a):mss=a:=by
 refine pA λj=>?_
 by_cases b:j<⇑bs
 .let d:=JP (l:=mss) (i:=j) (by rw[h.1];exact b);let c:=JP (l:=a) (i:=j) (by rw[g.1];exact b);rw[d,c];let(m,k):=h.2 j _ d;let(e,b2):=g.2 j _ c;rw[fB m e λx=>(k x).trans (b2 x).symm]
 .rw[lY (by rw[h.1];lia),lY (by rw[g.1];lia)]
def  cst(kvs:Oo (NK×Ki×V))(M:Oo (Blk×Pln)):Oo (NK×Ki×V):=kt (λe m=>(e.1,e.2.1,ut m.2.1)) kvs M
def Em{kvs:Oo (NK×Ki×V)}{M:Oo (Blk×Pln)}{j:Nat}{e:NK×Ki×V}{m:Blk×Pln}(b:kvs[j]?=N8 e)(a:M[j]?=N8 m):(cst kvs M)[j]?=N8 (e.1,e.2.1,ut m.2.1):=by
 unfold cst;rw[my,b,a]
def En{kvs:Oo (NK×Ki×V)}{M:Oo (Blk×Pln)}{j:Nat}{p:NK×Ki×V}(h:(cst kvs M)[j]?=N8 p):∃e m,kvs[j]?=N8 e/\M[j]?=N8 m/\p=(e.1,e.2.1,ut m.2.1):=by
 unfold cst at h;rw[my]at h;cases h1:kvs[j]? with
 |none=>rw[h1]at h;cases h
 |some e =>
  cases h2:M[j]? with
  |none=>rw[h1,h2]at h;cases h
  |some m=>rw[h1,h2]at h;cases h;calc(e,m,U,U,U,)
def AL{K:bd}{H:Hp}:∀{kvs:Oo (NK×Ki×V)}{M:Oo (Blk×Pln)},Paired (λ(e:NK×Ki×V)(m:Blk×Pln)=>e.1=bkK m.1/\∃a,e.2.2=.ref a/\PlA K H m.2 a) kvs M->Paired (λ(e:NK×Ki×V)(m:Blk×Int)=>e.1=bkK m.1/\e.2.2=.int m.2) (cst kvs M) (M.map λm=>(m.1,m.2.1)):=by
 intro kvs M h;induction h with
 |nil=>exact .nil
 |cons e _ b=>calc .cons (e.1,U,) b
def yL{α:Type}{R:NK×Ki×V->Blk×α->Prop}:∀{kvs:Oo (NK×Ki×V)}{M:Oo (Blk×α)},Paired (λe m=>e.1=bkK m.1/\R e m) kvs M->kvs.map (·.1)=M.map λm=>bkK m.1:=by
 intro kvs M h;induction h with
 |nil=>rfl
 |cons e _ a=>rw[iJ,iJ,e.1,a]
def keys_nodup{a:Oo Blk}(h:a.Nodup):(a.map bkK).Nodup:=by
 rw[FB]at h⊢;rw[qS];calc h.imp λn z=>n<|rV z
def yM(p:Int×Int)(ms:Oo Int):p∈gO p ms:=by
 unfold gO kG;rw[cx];calc jP.mpr (⇑ms,gd.mpr<|yl _,?_,);let:=oG (ps:=aU p.1 p.2 ms) (f:=⇑ms) (n:=⇑ms+1-⇑ms) (i:=0) ∅;rw[yP,mX<|v3 _,rX (vk _)]at this;let e:(ms.map (· - 1)++[p.2]).getD ⇑ms 0=p.2:=by rw[cO,jy (by simp)];simp
 rw[e]at this;calc this
def qR:∀(n:Nat){ps:Oo (Int×Int)}{mss:Oo (Oo Int)},⇑ps=n->⇑mss=⇑ps->ps∈dI ps mss
 |0,ps,mss,hn,hl=>by
  let:ps=[]:=jM hn;subst this;let:mss=[]:=jM hl;subst this;exact cf
 |n+1,ps,mss,hn,hl=>by
  let(a,p,rfl):∃a p,ps=a++[p]:=(ps.dropLast,ps.getLast (by intro z;rw[z]at hn;simp at hn),(mz _).symm,);let(b,d,rfl):∃b d,mss=b++[d]:=(mss.dropLast,mss.getLast (by intro z;rw[z,hn]at hl;simp at hl),(mz _).symm,);let c:⇑b=⇑a:= ~~~hl
  rw[kJ _ _ _ _ c];calc jP.mpr (a,qR n (~~~hn) c,br.mpr (p,yM p d,U,),)
abbrev Qn:=Int×Int×Bool
def  _root_._L.Tq.pth(a:Oo Int):Tq->Oo Qn
 | .say _=>[]
 | .ask c m l r=>((c:Int),m,Oc<|a.getD c 0<m) :: if a.getD c 0<m then l.pth a else r.pth a
def  _root_._L.Tq.ok(n:Nat):Tq->Prop
 | .say _=>True
 | .ask c _ l r=>c<n/\l.ok n/\r.ok n
def  PlE(n p k f:Ki)(K:bd)(H:Hp)(t:Ki)(bs:Prs)(rws:Oo Rw)(i:Nat)(o:Int×Int)(xs:Oo Int)(E:XK)(R:Oo (Oo Int)->Prop):Prop:=∃(j:Oo V)(L:Nat->Oo Int)(g:Nat)(h:Oo (Oo Int))(b:Nat),RfB n p k H t j bs rws L g i o/\jf K H/\jg K H/\mF K H/\(∀x∈xs,x=1)/\⇑xs=⇑bs/\(∀(c:Nat)(m:Int),Chg bs (λd=>vdm rws i o<|mkg rws d) c m->∃l,h[c]?=N8 l/\m∈l)/\(∀l∈h,⇑l<=b)/\b<=60/\(⇑bs<=1\/b<=29)/\(300<g->∀e,E (.ref f) N9 e) /\
 (g<=300->∀a:Oo (Oo Int),MsO bs (λd=>vdm rws i o<|mkg rws d) a->(600<dJ a ⇑a->∀e,E (.ref f) N9 e)/\(dJ a ⇑a<=600->(∀ms∈a,⇑ms<=29)/\(∀i,dJ a i<=600)/\tot a<=50/\R a))
def PlE.imp{q r p l:Ki}{K:bd}{H:Hp}{t:Ki}{bs:Prs}{rws:Oo Rw}{i:Nat}{o:Int×Int}{xs:Oo Int}{E:XK}{R s:Oo (Oo Int)->Prop}(h:PlE q r p l K H t bs rws i o xs E R)(k:∀mss,R mss->s mss):PlE q r p l K H t bs rws i o xs E s:=by
 let(F,L,g,G,b,D,C,B,A,y,x,w,v,u,j,f,e):=h;calc(F,L,g,G,b,D,C,B,A,y,x,w,v,u,j,f,λn mss m=>((e n mss m).1,λz=>let ⟨a,b,c,d⟩:=(e n mss m).2 z;(a,b,c,k mss d,),),)
def  wyK(a:Oo Int):Int:=eZ a 0%10007*613%10007%8
def  SzO(w:Int)(d:Oo Nat):Prop:=(w=0/\d=[4,4,3])\/(w=1/\d=[4,4,4])\/(w=2/\d=[3,3,3,2])\/(w=3/\∃s,35<=s/\s<=50/\d=[s])\/(3<w/\∃a b c,d=[a,b,c]/\2<=a/\a<=3/\2<=b/\b<=4/\2<=c/\c<=3)
def oM{x m:Int}(a:0<m):∃k:Nat,x%m=(k:Int)/\(k:Int)<m:=((x%m).toNat,by have:=JU x<|Int.ne_of_gt a;lia,by have:=JU x<|Int.ne_of_gt a;let:=JW x a;lia,)
def Hk(x y z:Int){k:Int}(b:0<=k)(a:k<3):∃v:Int,atI [ut x,.int y,.int z] k=N8 (.int v)/\v∈[x,y,z]:=by
 let:k=0\/k=1\/k=2:=∅
 rcases this with rfl|rfl|rfl
 .exact(x,U,by simp,)
 .exact(y,U,by simp,)
 .exact(z,U,by simp,)
def  Eo(c:Int):Int:=c*48271^(12:Int).toNat%10^(40:Int).toNat-5*10^(39:Int).toNat
def  wdF(c:Int):Int:=1+c*69621^(12:Int).toNat%(if c%2=0 then 1 else 10^(38:Int).toNat)
def Ep(c:Int):1<=wdF c/\wdF c<=10^38:=by
 unfold wdF;let e:(10:Int)^(38:Int).toNat=10^38:=rfl;rw[e];generalize c*69621^(12:Int).toNat=x;split
 .rw[Int.emod_one];exact(⋯,⋯,)
 .let a:=JU x (show(10:Int)^38≠0 by decide);let b:=JW x (show(0:Int)<10^38 by decide);generalize x%10^38=y at a b;lia
def Hl(c:Int):atI [ut 1,.int (10^(38:Int).toNat)] (c%2)=N8 (.int (if c%2=0 then 1 else 10^(38:Int).toNat)):=by
 let:c%2=0\/c%2=1:=∅
 rcases this with h|h <;> rw[h] <;> rfl
def  cH(w:Int)(x:Int×Nat):Int×Int:=(x.1,x.1+(x.2:Int)*w-1)
def  jh(l w:Int)(k:Nat):Int×Int:=(l+(1+(k:Int)*2)*w,l+(1+(k:Int)*2)*w+w-1)
def  cy(w:Int)(x:Int×Nat):Prs:=(db<|x.2 / 2).map<|jh x.1 w
def  gP:Oo Str:=[s!"a",s!"b",s!"c",s!"d"]
def xy:∀m:Nat,1<=m->m<=4->(∀z∈s!"t" :: gP.take m,isw z=Oa)/\(s!"t" :: gP.take m).Nodup:=λm b a=>by
 let:m=1\/m=2\/m=3\/m=4:=∅
 rcases this with rfl|rfl|rfl|rfl <;> calc(~~~0,~~~0,)
def lM{a:Oo Int}(h:∀m∈a,wp m<=2^20)(k:Int):wp (eZ a k)<=2^20:=by
 unfold eZ;rw[cO];cases e:a[k.toNat]? with
 |none=>exact(by decide:wp 0<=2^20)
 |some x=>calc h x (JR e)
def xA{q:Nat}(h:2<=q):rsz 1 (q:Int) 2=q / 2:=by unfold rsz;split <;> lia
def Er{c:Oo (Int×Nat)}{wd:Int}{j:Nat}{ps:Prs}{b:Int×Int}(i:1<=wd)(f:(c.map<|cy wd)[j]?=N8 ps)(a:(c.map<|cH wd)[j]?=N8 b):∀p∈ps,b.1<=p.1/\p.2<=b.2:=by
 rw[dr]at f a;let(x,e,rfl):=JB.mp f;rw[e]at a;cases a;intro p g;let(k,d,rfl):=br.mp g;let d:=gd.mp d;let l:0<=(1+(k:Int)*2)*wd:=Int.mul_nonneg ∅ ∅;let h:(1+(k:Int)*2+1)*wd<=(x.2:Int)*wd:=OE ∅ ∅;rw[JY,JV]at h;calc(by show x.1<=x.1+(1+(k:Int)*2)*wd;lia,by show x.1+(1+(k:Int)*2)*wd+wd-1<=x.1+(x.2:Int)*wd-1;lia,)
def  pt1(l:Int)(x:Nat):Int×Int:=(l+(x:Int),l+(x:Int))
def  nSt(s st:Nat):Nat:=rsz (st:Int) (if (st:Int)+150<(s:Int) then(st:Int)+150 else(s:Int)) 2
def  rwL(l:Int)(s st:Nat):Rw:=([(db<|nSt s st).map λk=>pt1 l (st+2*k)],4)
def  rwW(l:Int)(s:Nat):Rw:=([[(l,l+(s:Int)-1)]],3)
def  sts:Oo Nat:=[1,151,301]
def  fG(l:Int)(s:Nat):Oo Rw:=rwW l s :: sts.map (rwL l s)
def AM{s st k:Nat}(h:k<nSt s st):st+2*k<s/\k<75:=by
 unfold nSt rsz at h;split at h <;> split at h <;> lia
def xB{l:Int}{s:Nat}(i:1<=s):∀w∈fG l s,t6 [(l,l+(s:Int)-1)] (0,9) w:=by
 intro w c;rcases af.mp c with rfl|c
 .refine(U,λj g b e a=>?_,(by decide:(0:Int)<=3),(by decide:(3:Int)<=9),);cases j with
  |zero =>
   cases e;cases a;intro p d;rw[fo.mp d];exact(lf _,lf _,)
  |succ j=>simp at a
 .let(f,_,rfl):=br.mp c;refine(U,λj g b e a=>?_,(by decide:(0:Int)<=4),(by decide:(4:Int)<=9),);cases j with
  |zero =>
   cases e;cases a;intro p d;let(k,h,rfl):=br.mp d;let:=(AM<|gd.mp h).1;unfold pt1;exact(by show l<=l+((f+2*k:Nat):Int);lia,by show l+((f+2*k:Nat):Int)<=l+(s:Int)-1;lia,)
  |succ j=>simp at a
def m3{a:Oo Prs}{m:Int}{o:Int×Int}{b:Oo Int}:vdm [(a,m)] 1 o (mkg [(a,m)] b)=if gf a b=Oa then say m else DZ:=by
 show ver (wf 1 o.1 o.2) (pkF [(a,m)] (eM ((msk (gN [(a,m)] b) 1:Nat):Int)) 1)=_;rw[kD,qL];let e:gN [(a,m)] b 0=gf a b:=rfl;rw[e];cases gf a b <;> rfl
def oN{wd low:Int}{q:Nat}{x:Int}:x∈ends (cy wd (low,q))↔∃i:Nat,1<=i/\i<=2*(q / 2)/\x=low+(i:Int)*wd:=by
 let c:∀k:Nat,low+(1+(k:Int)*2)*wd=low+((2*k+1:Nat):Int)*wd:=λk=>by
  rw[show(1+(k:Int)*2)=((2*k+1:Nat):Int) by lia]
 let b:∀k:Nat,low+(1+(k:Int)*2)*wd+wd-1+1=low+((2*k+2:Nat):Int)*wd:=λk=>by
  rw[show((2*k+2:Nat):Int)=(1+(k:Int)*2)+1 by lia,JY (1+(k:Int)*2) 1 wd,JV];lia
 unfold cy;rw[fV];constructor
 .rintro⟨p,d,h⟩;let(k,a,rfl):=br.mp d;let a:=gd.mp a;rcases h with h|h
  .exact(2*k+1,∅,∅,by rw[h];exact c k,)
  .exact(2*k+2,∅,∅,by rw[h];exact b k,)
 .rintro⟨i,f,e,rfl⟩;refine(jh low wd<|(i-1) / 2,br.mpr (_,gd.mpr (by show(i-1) / 2<q / 2;lia),U,),?_,);rcases OW i with h|h
  .right
   show _=low+(1+(((i-1) / 2:Nat):Int)*2)*wd+wd-1+1;rw[b,show 2*((i-1) / 2)+2=i by lia]
  .left
   show _=low+(1+(((i-1) / 2:Nat):Int)*2)*wd;rw[c,show 2*((i-1) / 2)+1=i by lia]
def cq{w:Int}(h:1<=w){i j:Int}:i*w<j*w↔i<j:=(λz=>Int.lt_of_mul_lt_mul_right z ∅,λz=>Int.mul_lt_mul_of_pos_right z ∅,)
def wa{a:Oo (Int×Nat)}{wd m low x:Int}{c q:Nat}(d:1<=wd)(n:2<=q)(e:a[c]?=N8 (low,q)):MkC [(a.map<|cy wd,m)] c (cH wd (low,q)) x↔∃i:Nat,1<=i/\i<q/\x=low+(i:Int)*wd:=by
 let j:(a.map<|cy wd).getD c []=cy wd (low,q):=by rw[cO,dr,e];rfl
 unfold MkC rmk;constructor
 .rintro⟨w,g,b⟩;rw[fo.mp g,ke]at b;let(b,h):=b;rw[show((a.map<|cy wd,m):Rw).1=a.map (cy wd)from U,j]at b;let(i,f,l,rfl):=oN.mp b;calc(i,f,?_,U,);let h:low+(i:Int)*wd<=low+(q:Int)*wd-1:=by
   let:=(Iv _ _ ▸ h:_/\_).2;exact Oj this
  let:(i:Int)<(q:Int):=(cq d).mp ∅;lia
 .rintro⟨i,f,l,rfl⟩;refine(_,fo.mpr U,ke.mpr (?_,?_,),)
  .show _∈ends ((a.map<|cy wd).getD c []);rw[j];exact oN.mpr (i,f,∅,U,)
  .let o:(i:Int)*wd<(q:Int)*wd:=(cq d).mpr ∅;let k:0*wd<(i:Int)*wd:=(cq d).mpr ∅;rw[Int.zero_mul]at k;rw[Iv];calc(Oh (by show low<low+(i:Int)*wd;lia),Oh (by show low+(i:Int)*wd<=low+(q:Int)*wd-1;lia),)
def xC{wd low r:Int}{q t:Nat}(a:1<=wd)(g:t<q)(l:0<=r)(j:r<wd):inP (cy wd (low,q)) (low+(t:Int)*wd+r)=Oc (t%2=1):=by
 rcases OW t with h|h
 .rw[h];refine Br λp f b=>?_
  let(k,i,rfl):=br.mp f;let m:low+(1+(k:Int)*2)*wd<=low+(t:Int)*wd+r:=b.1;let b2:low+(t:Int)*wd+r<=low+(1+(k:Int)*2)*wd+wd-1:=b.2;let d:(1+(k:Int)*2)*wd<((t:Int)+1)*wd:=by rw[JY (t:Int),JV];lia
  let c:(t:Int)*wd<((1+(k:Int)*2)+1)*wd:=by rw[JY (1+(k:Int)*2),JV];lia
  let d:=(cq a).mp d;let c:=(cq a).mp c;lia
 .rw[h];refine gs.mpr (jh low wd<|t / 2,br.mpr (_,gd.mpr (by show t / 2<q / 2;lia),U,),?_,);let e:(1+((t / 2:Nat):Int)*2)=(t:Int):=∅
  unfold jh;rw[e];calc(by show low+(t:Int)*wd<=_;lia,by show _<=low+(t:Int)*wd+wd-1;lia,)
def kL{c:Oo Prs}{b:Oo Int}:gf c b=Oa↔∀(j:Nat)(x:Int),b[j]?=N8 x->inP (c.getD j []) x=true:=by
 unfold gf;rw[jL];constructor
 .intro h j x e;let a:j<⇑b:=(JQ.mp e).1;let:=h j<|gd.mpr a;rw[show b.getD j 0=x by rw[cO,e];rfl]at this;exact this
 .intro h j a;let a:=gd.mp a;let:=h j _<|JP a;rw[show b.getD j 0=b[j] by rw[cO,JP a];rfl];calc this
def Ca{a:Oo (Int×Nat)}{wd:Int}(d:1<=wd)(h:∀y∈a,2<=y.2):InB (a.map λy=>y.1+wd) (a.map<|cH wd):=by
 induction a with
 |nil=>exact .nil
 |cons y a b =>
  let e:=h y<|cf ..;let:2*wd<=(y.2:Int)*wd:=OE ∅ ∅;calc .cons (by show y.1<=y.1+wd;lia) (by show y.1+wd<=y.1+(y.2:Int)*wd-1;lia) (b λy c=>h y<|dy _ c)
def xD{a:Oo Int}{ps:Oo (Int×Int)}(h:InB a ps):∀{c:Nat}{p:Int×Int}{x:Int},ps[c]?=N8 p->p.1<=x->x<=p.2->InB (a.set c x) ps:=by
 induction h with
 |nil=>intro c p x e;simp at e
 | @cons c0 a p0 ps h1 h2 h3 ih =>
  intro c p x e d b;cases c with
  |zero=>cases e;exact .cons d b h3
  |succ c=>calc .cons h1 h2 (ih e d b)
def uw{a:Oo (Int×Nat)}{wd low x r:Int}{c q t:Nat}(f:1<=wd)(o:∀y∈a,2<=y.2)(e:a[c]?=N8 (low,q))(m:x=low+(t:Int)*wd+r)(n:t<q)(s:0<=r)(p:r<wd):gf (a.map<|cy wd) ((a.map λy=>y.1+wd).set c x)=Oc (t%2=1):=by
 let i:c<⇑(a.map λy=>y.1+wd):=by rw[aa];exact(JQ.mp e).1
 let l:(a.map<|cy wd).getD c []=cy wd (low,q):=by rw[cO,dr,e];rfl
 let b:=xC (low:=low) f n s p;rw[←m]at b;rw[←b,tz,kL];constructor
 .intro h;let:=h c x (by rw[lg i]);rw[l]at this;exact this
 .intro h j y d;by_cases g:c=j
  .subst g;rw[lg i]at d;cases d;rw[l];exact h
  .rw[nt g,dr]at d;let(z,k,rfl):=JB.mp d;let u:=o z<|JR k;rw[show(a.map<|cy wd).getD j []=cy wd (z.1,z.2) by rw[cO,dr,k];rfl];let:=xC (low:=z.1) (q:=z.2) (t:=1) (r:=0) f ∅ (lf _) ∅;rw[show z.1+((1:Nat):Int)*wd+0=z.1+wd by rw[show((1:Nat):Int)=1 from U,JV];lia]at this;rw[this];rfl
def wb{a:Oo (Int×Nat)}{wd m low:Int}{o:Int×Int}{c q i:Nat}(b:1<=wd)(d:∀y∈a,2<=y.2)(e:a[c]?=N8 (low,q))(p:1<=i)(hi:i<q):Chg (a.map<|cH wd) (λl=>vdm [(a.map<|cy wd,m)] 1 o (mkg [(a.map<|cy wd,m)] l)) c (low+(i:Int)*wd):=by
 let j:c<⇑(a.map λy=>y.1+wd):=by rw[aa];exact(JQ.mp e).1
 let g:(a.map<|cH wd)[c]?=N8 (cH wd (low,q)):=by rw[dr,e];rfl
 let n:(i:Int)*wd<(q:Int)*wd:=(cq b).mpr ∅;let k:0*wd<(i:Int)*wd:=(cq b).mpr ∅;rw[Int.zero_mul]at k;refine((a.map λy=>y.1+wd).set c<|low+(i:Int)*wd,cH wd (low,q),xD (Ca b d) g (by show low<=_;lia) (by show _<=low+(q:Int)*wd-1;lia),lg j,g,by show low<_;lia,?_,);show vdm _ _ _ _≠vdm _ _ _ _;rw[List.set_set,m3,m3,uw (t:=i) (r:=0) b d e ∅ hi (lf _) ∅,uw (t:=i-1) (r:=wd-1) b d e (by rw[show((i-1:Nat):Int)=(i:Int)-1 by lia,Int.sub_mul,JV];lia) ∅ ∅ ∅];let f:say m≠DZ:=λz=>Og (Ol Prod.fst z) (by show s!"say" ≠ s!"none";decide)
 rcases OW i with h|h
 .rw[Oe (by rw[h];decide),Of (Oh ∅)];exact f.symm
 .rw[Of (Oh h),Oe (λz=>by have:=Oj z;lia)];calc f
def  gh(wd:Int)(x:Int×Nat):Oo Int:=(db<|x.2-1).map λi:Nat=>x.1+((i+1:Nat):Int)*wd
def m4{wd z:Int}{x:Int×Nat}:z∈gh wd x↔∃i:Nat,1<=i/\i<x.2/\z=x.1+(i:Int)*wd:=by
 unfold gh;rw[br];constructor
 .rintro⟨i,hi,rfl⟩;let:=gd.mp hi;exact(i+1,∅,∅,U,)
 .rintro⟨i,b,a,rfl⟩;calc(i-1,gd.mpr ∅,by rw[show i-1+1=i by lia],)
def AN{wd:Int}{x:Int×Nat}(c:1<=wd):(gh wd x).Pairwise (· < ·):=by
 unfold gh;rw[qS];calc Qj (λ{a b} h=>by have:=(cq c (i:=((a+1:Nat):Int)) (j:=((b+1:Nat):Int))).mpr ∅;lia) pf
def i5{wd:Int}{x:Int×Nat}:⇑(gh wd x)=x.2-1:=by unfold gh;rw[aa,jQ]
def ux{ps:Prs}{x:Int}(h:x ∉ ends ps):inP ps x=inP ps (x-1):=by
 rw[tz,gs,gs];constructor
 .rintro⟨p,a,c,b⟩;exact(p,a,by have:x≠p.1:=λe=>h<|fV.mpr (p,a,.inl e,);lia,∅,)
 .rintro⟨p,a,c,b⟩;calc(p,a,∅,by have:x≠p.2+1:=λe=>h<|fV.mpr (p,a,.inr e,);lia,)
def xE{a:Oo (Int×Nat)}{wd m z:Int}{o:Int×Int}{c:Nat}{x:Int×Nat}(s:1<=wd)(A:∀y∈a,2<=y.2)(e:a[c]?=N8 x):z∈gh wd x↔Chg (a.map<|cH wd) (λf=>vdm [(a.map<|cy wd,m)] 1 o (mkg [(a.map<|cy wd,m)] f)) c z:=by
 rw[m4];constructor
 .rintro⟨i,n,hi,rfl⟩;exact wb s A e n hi
 .rintro⟨f,p,r,k,v,B,q⟩;rw[dr,e]at v;cases v;let t:c<⇑f:=(JQ.mp k).1;let g:(a.map<|cy wd).getD c []=cy wd (x.1,x.2):=by rw[cO,dr,e];rfl
  by_cases l:z∈ends (cy wd (x.1,x.2))
  .let(i,n,C,rfl):=oN.mp l;let u:=((iZ r).2 _ _ _ k (show(a.map<|cH wd)[c]?=N8 (cH wd x) by rw[dr,e];rfl)).2;let u:x.1+(i:Int)*wd<=x.1+(x.2:Int)*wd-1:=u;let:(i:Int)<(x.2:Int):=(cq s).mp ∅;exact(i,n,∅,U,)
  .refine Og ?_ q;show vdm _ _ _ _=vdm _ _ _ _;let w:gf (a.map<|cy wd) f=gf (a.map<|cy wd) (f.set c<|z-1):=by
    rw[tz,kL,kL];constructor
    .intro h j y b;by_cases d:c=j
     .subst d;rw[lg t]at b;cases b;rw[g,←ux l,←g];exact h c z k
     .rw[nt d]at b;exact h j y b
    .intro h j y b;by_cases d:c=j
     .subst d;rw[k]at b;cases b;rw[g,ux l,←g];exact h c _<|lg t
     .exact h j y (by rw[nt d];exact b)
   rw[m3,m3,w]
def Es{a:Oo (Int×Nat)}{wd m:Int}{o:Int×Int}(b:1<=wd)(d:∀y∈a,2<=y.2):MsO (a.map<|cH wd) (λg=>vdm [(a.map<|cy wd,m)] 1 o (mkg [(a.map<|cy wd,m)] g)) (a.map<|gh wd):=by
 refine(by rw[aa,aa],λc h e=>?_,);rw[dr]at e;let(x,f,rfl):=JB.mp e;calc(AN b,λz=>xE b d f,)
def  iB(a:Oo Nat):Nat:=(a.map λq=>q*(q+1) / 2).foldl (· * ·) 1
def Cb{a:Oo (Int×Nat)}{wd:Int}(c:∀y∈a,2<=y.2):dJ (a.map<|gh wd) ⇑(a.map<|gh wd)=iB (a.map (·.2)):=by
 unfold dJ iB;rw[fm,n7,n7]
 congr 1
 refine Rb λy b=>?_
 let:=c y b;show(⇑(gh wd y)+1)*(⇑(gh wd y)+2) / 2=y.2*(y.2+1) / 2;rw[i5,show y.2-1+1=y.2 by lia,show y.2-1+2=y.2+1 by lia]
def rZ{mss:Oo (Oo Int)}(i:Nat):dJ mss i<=dJ mss ⇑mss:=by
 by_cases h:i<⇑mss
 .let e:mss[i]?=N8 mss[i]:=JP h;let:=i4 e;let a:1<=(mss[i].length+1)*(mss[i].length+2) / 2:=by
   let:1*2<=(mss[i].length+1)*(mss[i].length+2):=A8 ∅ ∅;lia
  exact vr (by rw[this];exact O7 _ a) (rZ<|i+1)
 .unfold dJ;rw[ja ∅,fm];exact vk _
termination_by ⇑mss-i
def AO{a:Oo (Int×Nat)}{wd m:Int}(g:1<=wd)(r:∀y∈a,2<=y.2){mss:Oo (Oo Int)}(q:⇑mss=⇑(a.map<|cH wd))(p:∀(c:Nat)(b:Int×Int)(ms:Oo Int),(a.map<|cH wd)[c]?=N8 b->mss[c]?=N8 ms->ms.Pairwise (· < ·)/\∀x,x∈ms↔MkC [(a.map<|cy wd,m)] c b x):∀n,n<=⇑a->gr (a.map<|cH wd) mss n=prd ((a.map (·.2)).take n)
 |0,_=>rfl
 |n+1,h=>by
  let t:=AO g r q p n ∅;rw[aa]at q;let d:a[n]?=N8 a[n]:=JP ∅;let j:mss[n]?=N8 (mss[n]'∅):=JP ∅;generalize a[n]=x at d;generalize (mss[n]'∅)=ms at j;let s:(a.map<|cH wd)[n]?=N8 (cH wd x):=by rw[dr,d];rfl
  let(l,f):=p n _ ms s j;let o:=r x<|JR d;let f:∀z,z∈ms↔z∈gh wd x:=λz=>(f z).trans<|(wa g o d).trans m4.symm
  let k:ms=gh wd x:=fB l (AN g) f;let e:=rP (lo:=(cH wd x).1) (hi:=(cH wd x).2) (ms:=ms) l λc=>(λi=>(i,oA<|(wa (m:=m) g o d).mpr<|m4.mp<|(f c).mp i,),λi=>i.1,)
  let u:gl (a.map<|cH wd) mss n=x.2:=by
   unfold gl;rw[cO,s,cO,j];show⇑(dd (cH wd x).1 (cH wd x).2 ms)+1=x.2;rw[←e,k,i5];lia
  show gr (a.map<|cH wd) mss n*gl (a.map<|cH wd) mss n=_;rw[t,u,take_snoc (show(a.map (·.2))[n]?=N8 x.2 by rw[dr,d];rfl),oB]
def CY{w:Int}{d:Oo Nat}(h:SzO w d):1<=⇑d/\⇑d<=4/\(∀q∈d,2<=q/\q<=50)/\prd d<=300/\(∃b,b<=60/\(⇑d<=1\/b<=29)/\∀q∈d,q-1<=b)/\(iB d<=600->(∀q∈d,q<=4)/\d.sum<=50):=by
 rcases h with⟨_,rfl⟩|⟨_,rfl⟩|⟨_,rfl⟩|⟨_,s,k,j,rfl⟩|⟨_,a,b,c,rfl,k,j,o,n,m,l⟩
 .exact(⋯,⋯,⋯,⋯,(3,⋯,⋯,⋯,),⋯,)
 .exact(⋯,⋯,⋯,⋯,(3,⋯,⋯,⋯,),⋯,)
 .exact(⋯,⋯,⋯,⋯,(3,⋯,⋯,⋯,),⋯,)
 .refine(vk _,(by show 1<=4;decide),λq e=>?_,(by show s*1<=300;lia),(49,⋯,.inl<|vk _,λq e=>?_,),λh=>?_,)
  .rw[fo.mp e];lia
  .rw[fo.mp e];lia
  .let h:1*(s*(s+1) / 2)<=600:=h;let:35*36<=s*(s+1):=A8 ∅ ∅;lia
 .let i:a=2\/a=3:=∅
  let g:b=2\/b=3\/b=4:=∅
  let f:c=2\/c=3:=∅
  rcases i with rfl|rfl <;> rcases g with rfl|rfl|rfl <;> rcases f with rfl|rfl <;> calc(⋯,⋯,⋯,⋯,(3,⋯,⋯,⋯,),⋯,)
def Cc{cT N M Y:Ki}{K:bd}{H:Hp}{t Z:Ki}{w:Int}{j:Oo Nat}{a:Oo (Int×Nat)}{wd m:Int}{nm:Str}{zs:Oo Str}{L:Oo V}{E:XK}{R:Oo (Oo Int)->Prop}(hsz:SzO w j)(d:a.map (·.2)=j)(C:1<=wd)(I:vV (λ_=>True) cT H t [(a.map<|cy wd,m)] nm s!"only" Z zs L) (v:aJ L (a.map<|cH wd) (Dom N M H))(T:Dom N M H Z (0,9))(rt:jf K H)(vt:jg K H)(pt:mF K H)(hE:600<iB j->∀H',E (.ref Y) N9 H')(hR:iB j<=600->∀mss,⇑(dI (a.map<|cH wd) mss)=iB j->R mss):PlE cT N M Y K H t (a.map<|cH wd) [(a.map<|cy wd,m)] 1 (0,9) (j.map λ_=>1) E R:=by
 let(a1,a0,k,hg,(b,oO,se,A),Bo):=CY hsz;let u:⇑a=⇑j:=by rw[←d,aa]
 let f:∀y∈a,y.2∈j:=λy g=>by rw[←d];exact br.mpr (y,g,U,)
 let n:∀y∈a,2<=y.2:=λy g=>(k _<|f y g).1
 let hs:=Es (m:=m) (o:=(0,9)) C n;let(P,dx,na,dl,fs,O,g1,f1,f2,f3,f4,f5,f6,a5,X,Et,B,a4,a3,a2,ua):=id I;refine(L,λc=>gh wd<|a.getD c (0,0),prd j,a.map<|gh wd,b,((P,dx,dl,fs,O,g1,f1,f6,X,v,Et,B,),I.tbl U T ⋯,by rw[aa];lia,(by show 1<=200;decide),λx r=>by rw[fo.mp r,aa,aa],λc=>?_,λc p e=>?_,λmss G F=>?_,λp hp=>?_,),rt,vt,pt,λx r=>?_,by rw[aa,aa];lia,λc z h=>?_,λl G=>?_,oO,by rw[aa,u];exact se,λh=>∅,λ_ mss s=>?_,)
 .refine vr (vZ (b:=25) λw S=>?_) (by show 25*1<=499;decide);rw[fo.mp S];show⇑((a.map<|cy wd).getD c [])<=25;rw[cO,dr];cases e:a[c]? with
  |none=>exact v3 _
  |some y =>
   show⇑((db<|y.2 / 2).map<|jh y.1 wd)<=25;rw[aa,jQ];let:=k _<|f y<|JR e;lia
 .rw[dr]at e;let(y,q,rfl):=JB.mp e;let eD:a.getD c (0,0)=y:=by rw[cO,q];rfl
  let g:=k _<|f y<|JR q;refine(by rw[eD,i5];lia,λx r=>?_,);rw[eD];exact m4.mpr<|(wa C g.1 q).mp r
 .rw[AO C n G F _ (by rw[aa];exact vk _),aa,←d,ja (by rw[aa];exact vk _)]
 .let(y,g,rfl):=br.mp hp;let:=OE (show(2:Int)<=(y.2:Int) by have:=n y g;lia) (show 0<=wd by lia);show y.1<=y.1+(y.2:Int)*wd-1;lia
 .let(_,_,rfl):=br.mp r;rfl
 .let(_,p,_,_,ep,_):=id h;rw[dr]at ep;let(y,q,_):=JB.mp ep;exact(gh wd y,by rw[dr,q];rfl,(xE C n q).mpr h,)
 .let(y,g,rfl):=br.mp G;rw[i5];exact A _<|f y g
 .rw[s.uniq hs];let D:dJ (a.map<|gh wd) ⇑(a.map<|gh wd)=iB j:=by rw[Cb n,d]
  rw[D];calc(hE,λJ=>?_,);let(k4,Q):=Bo J;refine(λms F=>?_,λi=>vr (rZ i) (by rw[D];exact J),?_,hR J _ ?_,)
  .let(y,g,rfl):=br.mp F;let:=k4 _<|f y g;rw[i5];lia
  .refine vr ?_ Q;rw[←d];clear d Bo hsz u f n hs s D hR hE I v B A;unfold tot;induction a with
   |nil=>exact vk _
   |cons y a ih =>
    simp only[iJ,pE,i5]at ih⊢;lia
  .let:=fb (ps:=a.map<|cH wd) (mss:=a.map<|gh wd) (by rw[aa,aa]) ⇑a;rw[ja (by rw[aa];exact vk _),ja (by rw[aa];exact vk _)]at this;rw[this,←D,aa]
def AQ{rws:Oo Rw}{f:Nat->Bool}(a:f 0=Oa):∀n,∃l,pkF rws f (n+1)=(rws.getD 0 ([],0)).2 :: l
 |0=>([],by rw[kD,a];rfl,)
 |n+1=>by
  let(l,e):=AQ a n;rw[kD,e];calc(_,lz ..,)
def yN{w:Rw}{rws:Oo Rw}{o:Int×Int}{a:Oo Int}(h:gf w.1 a=Oa):vdm (w :: rws) 0 o (mkg (w :: rws) a)=say w.2:=by
 show ver (wf 0 o.1 o.2) (pkF (w :: rws) (eM ((msk (gN (w :: rws) a) (⇑rws+1):Nat):Int))<|⇑rws+1)=_;let b:eM ((msk (gN (w :: rws) a) (⇑rws+1):Nat):Int) 0=true:=by
  rw[qL];show(Oc (0<⇑rws+1) && gf w.1 a)=Oa;rw[h,Oh (CB _)];rfl
 let(l,e):=AQ (rws:=w :: rws) b ⇑rws;rw[e];rfl
def uy{l:Int}{s:Nat}{o:Int×Int}{a:Oo Int}(h:InB a [(l,l+(s:Int)-1)]):vdm (fG l s) 0 o (mkg (fG l s) a)=say 3:=by
 calc yN<|kL.mpr λj x e=>?_;let c:=(iZ h).1;let f:=(JQ.mp e).1;let b:j=0:=by have:⇑a=1:=c;lia
 subst b;let d:=(iZ h).2 _ _ _ e U;show inP [(l,l+(s:Int)-1)] x=Oa;calc gs.mpr (_,fo.mpr U,d,)
def xF{l x:Int}{s:Nat}(o:s<=391):MkC (fG l s) 0 (l,l+(s:Int)-1) x↔l<x/\x<=l+(s:Int)-1:=by
 calc(λh=>oA h,λ(n,m,)=>?_,);let d:∀c k:Nat,c∈sts->k<nSt s c->(x=l+((c+2*k:Nat):Int)\/x=l+((c+2*k:Nat):Int)+1)->MkC (fG l s) 0 (l,l+(s:Int)-1) x:=λc k i g e =>
  (rwL l s c,dy _<|br.mpr (c,i,U,),BX.mpr ((pt1 l<|c+2*k,br.mpr (k,gd.mpr g,U,),e,),n,m,),)
 let f:∀c k:Nat,c+2*k<s->2*k<150->k<nSt s c:=λc k a b=>by
  unfold nSt rsz;split <;> split <;> lia
 let(j,rfl):∃j:Nat,x=l+(j:Int):=((x-l).toNat,∅,);by_cases q:j<151
 .exact d 1 ((j-1) / 2) ⋯ (f _ _ ∅ ∅) ∅
 by_cases p:j<301
 .exact d 151 ((j-151) / 2) ⋯ (f _ _ ∅ ∅) ∅
 .exact d 301 ((j-301) / 2) ⋯ (f _ _ ∅ ∅) ∅
def xG{l z:Int}{s c:Nat}{o:Int×Int}:¬ Chg [(l,l+(s:Int)-1)] (λe=>vdm (fG l s) 0 o<|mkg (fG l s) e) c z:=by
 rintro⟨e,p,a,f,d,g,b⟩;calc b ?_;show vdm _ _ _ _=vdm _ _ _ _;let h:=(iZ a).2 _ _ _ f d;rw[uy a,uy (xD a d ∅ ∅)]
def AR{N u r I:Ki}{K:bd}{H:Hp}{t L:Ki}{s:Nat}{l:Int}{nm:Str}{zs:Oo Str}{q:Oo V}{E:XK}{R:Oo (Oo Int)->Prop}(JF:300<=s)(O:s<=391)(M:vV (λ_=>True) N H t (fG l s) nm s!"first" L zs q) (C:aJ q [(l,l+(s:Int)-1)] (Dom u r H))(A:Dom u r H L (0,9))(Q:jf K H)(P:jg K H)(pt:mF K H)(Z:300<s->∀H',E (.ref I) N9 H')(Y:s<=300->∀mss,⇑(dI [(l,l+(s:Int)-1)] mss)=1->R mss):PlE N u r I K H t [(l,l+(s:Int)-1)] (fG l s) 0 (0,9) [1] E R:=by
 let(y,dx,na,dl,fs,v,g,f1,f2,f3,f4,f5,f6,a3,G,Et,F,a2,a1,a0,ua):=id M;let B:MsO [(l,l+(s:Int)-1)] (λcs=>vdm (fG l s) 0 (0,9)<|mkg (fG l s) cs) [[]]:=by
  calc(U,λc ms e=>?_,);cases c with
  |zero =>
   obtain rfl:[]=ms:=ci e;exact(.nil,λm=>(λh=>(jj h).elim,λh=>Og h xG,),)
  |succ c=>simp at e
 refine(q,λ_=>uj l s,s,[],0,((y,dx,dl,fs,v,g,f1,f6,G,C,Et,F,),M.tbl U A ⋯,(by show 1<=4;decide),(by show 4<=200;decide),λx a=>(xB ∅ x a).len,λc=>?_,λc p e=>?_,λmss o n=>?_,λp T=>?_,),Q,P,pt,λx a=>fo.mp a,U,λc z h=>Og h xG,λl o=>(jj o).elim,⋯,.inr ⋯,Z,λX mss n=>?_,)
 .refine vr (vZ (b:=75) λw k=>?_) (by show 75*4<=499;decide);let g:∀(j:Prs)(c:Nat),⇑j<=75->⇑(([j]:Oo Prs).getD c [])<=75:=λj c h=>by
   cases c with
   |zero=>exact h
   |succ c=>exact v3 _
  rcases af.mp k with rfl|k
  .exact g _ c (by show 1<=75;decide)
  .let(st,_,rfl):=br.mp k;calc g _ c ?_;rw[aa,jQ];unfold nSt rsz;split <;> split <;> lia
 .let D:c=0:=by have:=(JQ.mp e).1;let:c<1:=this;lia
  subst D;cases e;exact(by unfold uj;rw[aa,jQ];lia,λx a=>oC.mpr<|(xF O).mp a,)
 .match mss,o with
  | [ms],_ =>
   let(J,a):=n 0 _ ms U U;let a:∀x,x∈ms↔l<x/\x<=l+(s:Int)-1:=λx=>(a x).trans<|xF O
   let S:=J.imp λh=>Pf h
   let l1:=bh S λx d=>oC.mpr<|(a x).mp d
   let l2:=bh (BY (low:=l) (sz:=s)) λx d=>(a x).mpr<|oC.mp d
   let l3:⇑(uj l s)=s-1:=by unfold uj;rw[aa,jQ]
   let e:=rP (lo:=l) (hi:=l+(s:Int)-1) (ms:=ms) J λc=>(λf=>(f,(a c).mp f,),λf=>f.1,)
   show 1*(⇑(dd l (l+(s:Int)-1) ms)+1)=s;lia
 .rw[fo.mp T];show l<=l+(s:Int)-1;lia
 .rw[n.uniq B];calc(λh=>Og h ⋯,λ_=>(⋯,λi=>vr (rZ i) ⋯,⋯,Y X _ ?_,),);calc fb (ps:=[(l,l+(s:Int)-1)]) (mss:=[[]]) U 1
def AS{a:Oo Nat}{i q:Nat}(e:a[i]?=N8 q):iB (a.take<|i+1)=iB (a.take i)*(q*(q+1) / 2):=by
 unfold iB;rw[take_snoc e,fj,qT];rfl
def xH{q:Nat}:(q:Int)*((q:Int)+1) / 2=((q*(q+1) / 2:Nat):Int):=by
 rw[show((q:Int)+1)=((q+1:Nat):Int) by lia,←JX,Int.natCast_ediv];rfl
section
end
open Lean in
set_option hygiene false in
local macro_rules(kind:=Lean.Parser.Command.declaration)|s=>do
 let d:=s[1]
 if d.getKind==``Lean.Parser.Command.inductive&&d[2][0].getNumArgs==0&&d[2][1].getNumArgs==0 then
  let t←`(inductive A(K:bd)(Y:AD)(vs:Oo V)(H:Hp)(Q:VK)(e_:XK):Prop)
  return s.setArg 1 (d.setArg 2 t.raw[1][2])
 Macro.throwUnsupported
inductive oP
 |mk (a:Ki)(xs:Oo V)(ps:Oo (Int×Int))(n:Int)(_:vs=[.ref a,.int n])(_:SqL K H a xs)(_:PL H xs ps)(_:Q (.bl<|inP ps n) H)
inductive oQ
 |mk (a:Ki)(xs:Oo V)(R:Oo (Int×Int))(lo hi:Int)(_:vs=[.ref a,.int lo,.int hi])(_:SqL K H a xs)(_:PL H xs R)(_:⇑xs<=499)(_:∀(r:Ki)(H':Hp)(es:Oo Int),aw H H'->H r=N9->H' r=N8 (.lst<|es.map ut)->es=(ends R).filter (λt=>decide (lo<t) && decide (t<=hi))->Q (.ref r) H')
inductive eP
 |mk (a:Ki)(ms L:Oo Int)(lo hi:Int)(_:vs=[.int lo,.int hi,.ref a])(_:SqL K H a (ms.map ut))(_:⇑ms<=400)(_:L.length<=400)(_:(∀m∈ms,lo<m->m<=hi->m∈L))(_:∀(r:Ki)(H':Hp)(cs:Oo Int)(ts:Oo V),aw H H'->H r=N9->H' r=N8 (.lst ts)->PL H' ts (aU lo hi cs)->cs.Pairwise (· < ·)->(∀c,c∈cs↔(c∈ms/\lo<c/\c<=hi))->⇑cs<=400->Q (.ref r) H')
inductive i6
 |mk (L:Type)(_:DecidableEq L)(A:Lfp K L)(n:Nat)(a:Ki)(xs:Oo V)(ts:Oo (T3a<|Fm L n))(_:vs=[.ref a])(_:n<=6)(_:H a=N8 (.lst xs))(_:FmL (FmV A H n) H ts xs)(_:⇑ts<=900)(_:∀(r:Ki)(H':Hp),aw H H'->FmV A H' (n+1) (lG ts) (.ref r)->Q (.ref r) H')
inductive eG
 |mk (a:Ki)(xs:Oo V)(ts:Oo Tri)(c:Int)(j:Nat)(t:Tri)(_:vs=[.ref a,.int c])(_:SqT K H a xs)(_:T3 H xs ts)(_:At ts c j t)(_:Q t.2.2 H)
inductive fH
 |mk (a:Ki)(as:Oo Ki)(xss:Oo (Oo Int))(L:Oo Int)(_:vs=[.ref a])(_:H a=N8 (.lst<|as.map mt))(_:MLs H as xss)(_:⇑xss.flatten<=1000)(_:L.length<=400)(_:(∀x∈xss.flatten,x∈L))(_:∀(l:Ki)(cs:Oo Int)(H':Hp),aw H H'->H l=N9->H' l=N8 (.lst<|cs.map ut)->cs.Pairwise (· < ·)->(∀x,x∈cs↔x∈xss.flatten)->Q (.ref l) H')
inductive lN
 |mk (b:Ki)(B:Oo (Int×Int))(_:vs=[.ref b])(_:BxA H b B)(_:B.length<=6)(_:∀(l:Ki)(H':Hp),aw H H'->H l=N9->H' l=N8 (.lst ((B.map (·.1)).map ut))->Q (.ref l) H')
inductive gB
 |mk (z g:Str)(_:vs=[.str z,.str g])(_:Q (.bl<|sL z g) H)
inductive fJ
 |mk (i:Int)(_:vs=[.int i])(_:Q (.bl Oa) H)
inductive dR
 |mk (p r:Ki)(xs ys:Oo V)(_:vs=[.ref p,.ref r])(_:SqL K H p xs)(_:SqL K H r ys)(_:1<=⇑xs)(_:⇑xs<=4)(_:⇑ys<=200)(_:Q .non H)
inductive jH
 |mk (cl:Ki)(xs:Oo V)(w:Rw)(_:vs=[.ref cl,.int w.2])(_:H cl=N8 (.lst xs))(_:CL NT H xs w.1)(_:⇑w.1<=100)(_:∀(r:Ki)(H':Hp),aw H H'->H r=N9->jE (λa=>H a=N9) H' r w->Q (.ref r) H')
inductive cz
 |mk (t:Ki)(dv:Oo V)(bs:Prs)(rws:Oo Rw)(_:vs=[.ref t])(_:TD Y.n Y.l Y.m H t dv bs rws)(_:⇑bs<=100)(_:∀(l:Ki)(ys:Oo V)(H':Hp),aw H H'->H l=N9->H' l=N8 (.lst ys)->PL H' ys bs->Q (.ref l) H')
inductive gC
 |mk (b p:Ki)(B:Oo (Int×Int))(c:Nat)(lo hi:Int)(_:vs=[.ref b,.int c,.ref p])(_:BxA H b B)(_:H p=N8 (.tup [.int lo,.int hi]))(_:c<B.length)(_:B.length<=100)(_:∀(r:Ki)(H':Hp),aw H H'->BxA H' r (B.set c (lo,hi))->Q (.ref r) H')
inductive dS(K:bd)(Y:AD)(vs:Oo V)(H:Hp)(Q:VK)(E:XK):Prop
 |mk (ml:Ki)(as:Oo Ki)(mss:Oo (Oo Int))(_:vs=[.ref ml])(_:H ml=N8 (.lst<|as.map mt))(_:MLs H as mss)(_:(∀ms∈mss,⇑ms<=60))(_:⇑mss<=4)(_:(600<dJ mss ⇑mss->∀H',aw H H'->E (.ref Y.b) N9 H'))(_:(dJ mss ⇑mss<=600->Q .non H))
inductive iC
 |mk (l:Ki)(xs:Oo V)(ps:Oo (Int×Int))(_:vs=[.ref l])(_:H l=N8 (.lst xs))(_:PL H xs ps)(_:⇑ps<=30)(_:∀(D:Ki)(ys:Oo V)(H':Hp),aw H H'->H D=N9->H' D=N8 (.lst ys)->PL H' ys (kG ps ⇑ps)->Q (.ref D) H')
inductive fc
 |mk (bl_ pl:Ki)(us xs:Oo V)(Bs:Oo (List<|Int×Int))(ps:Oo (Int×Int))(_:vs=[.ref bl_,.ref pl])(_:H bl_=N8 (.lst us))(_:BkL H us Bs)(_:(∀B∈Bs,B.length<=5))(_:H pl=N8 (.lst xs))(_:PL H xs ps)(_:Bs.length*⇑ps<=1000)(_:∀(D:Ki)(ys:Oo V)(H':Hp),aw H H'->H D=N9->H' D=N8 (.lst ys)->BkL H' ys (wid Bs ps)->Q (.ref D) H')
inductive dU
 |mk (a:Ki)(ns:Oo Int)(k:Int)(_:vs=[.ref a,.int k])(_:SqL K H a (ns.map ut))(_:0<=k)(_:Q (.int<|eZ ns k) H)
inductive gD
 |mk (c:Int)(_:vs=[.int c])(_:wp c<=2^20)(_:Q (.int<|Eo c) H)
inductive bR
 |mk (x dx:Ki)(lo hi:Int)(_:vs=[.ref x,.int lo,.int hi])(_:H x=N8 (.ins Y.l dx []))(_:Q .non (mkd Y.l H x dx lo hi))
inductive cD
 |mk (x dx:Ki)(z:Str)(_:vs=[.ref x,.str z])(_:H x=N8 (.ins Y.e dx []))(_:Q .non (upd H x<|.ins Y.e dx [("called",.str z)]))
inductive cI
 |mk (x dx:Ki)(z:Str)(_:vs=[.ref x,.str z])(_:H x=N8 (.ins Y.f dx []))(_:Q .non (upd H x<|.ins Y.f dx [("called",.str z)]))
inductive cJ
 |mk (x dx:Ki)(z:Str)(_:vs=[.ref x,.str z])(_:H x=N8 (.ins Y.g dx []))(_:Q .non (upd H x<|.ins Y.g dx [("called",.str z)]))
inductive cU
 |mk (x dx:Ki)(z:Str)(_:vs=[.ref x,.str z])(_:H x=N8 (.ins Y.h dx []))(_:Q .non (upd H x<|.ins Y.h dx [("called",.str z)]))
inductive cK
 |mk (x dx:Ki)(z:Str)(_:vs=[.ref x,.str z])(_:H x=N8 (.ins Y.i dx []))(_:Q .non (upd H x<|.ins Y.i dx [("called",.str z)]))
inductive cV
 |mk (x dx:Ki)(z:Str)(_:vs=[.ref x,.str z])(_:H x=N8 (.ins Y.j dx []))(_:Q .non (upd H x<|.ins Y.j dx [("called",.str z)]))
def  J1(K:bd)(Y:AD):Sp:=yA K Y.e Y.l Y.m 0
def  J9(K:bd)(Y:AD):Sp:=yA K Y.f Y.l Y.m 1
def  J5(K:bd)(Y:AD):Sp:=yA K Y.g Y.l Y.m 2
def  J7(K:bd)(Y:AD):Sp:=yA K Y.h Y.l Y.m 3
def  J3(K:bd)(Y:AD):Sp:=yA K Y.i Y.l Y.m 4
def  J11(K:bd)(Y:AD):Sp:=yA K Y.j Y.l Y.m 5
inductive dF
 |mk (a b:Ki)(ys:Oo V)(ps:Oo (Int×Int))(as:Oo Ki)(mss:Oo (Oo Int))(_:vs=[.ref a,.ref b])(_:H a=N8 (.lst ys))(_:PL H ys ps)(_:H b=N8 (.lst<|as.map mt))(_:MLs H as mss)(_:MOK ps mss)(_:∀(l:Ki)(xs:Oo V)(H':Hp)(css:Oo (Oo Int)),aw H H'->H' l=N8 (.lst xs)->⇑css=⇑ps->(∀(j:Nat)(p:Int×Int)(ms cs:Oo Int),ps[j]?=N8 p->mss[j]?=N8 ms->css[j]?=N8 cs->cs.Pairwise (· < ·)/\(∀c,c∈cs↔(c∈ms/\p.1<c/\c<=p.2))/\⇑cs<=400)->CoL H' xs (kt (λp cs=>aU p.1 p.2 cs) ps css)->Q (.ref l) H')
inductive sf
 |mk (v r:V)(l:Ki)(cs:Oo Int)(_:vs=[v,.ref l])(_:SqL K H l (cs.map ut))(_:Lk K H v cs r)(_:Q r H)
inductive jI
 |mk (z:Str)(_:vs=[.str z])(_:⇑z<=1000)(_:Q (.bl<|isw z) H)
inductive sh
 |mk (t rl c dx:Ki)(fs:Oo (Str×V))(xs:Oo V)(rws:Oo Rw)(k:Nat)(w:Rw)(cs:Oo Int)(_:vs=[.ref t,.int k,.ref c])(_:H t=N8 (.ins Y.n dx fs))(_:fs.lookup s!"rows"=↑rl) (_:H rl=N8 (.lst xs))(_:RL NT H xs rws)(_:rws[k]?=N8 w)(_:SqL K H c (cs.map ut))(_:⇑w.1=⇑cs)(_:∀H',aw H H'->Q (.bl<|gf w.1 cs) H')
inductive eJ
 |mk (t:Ki)(c:Nat)(dv:Oo V)(bs:Prs)(rws:Oo Rw)(b:Int×Int)(L:Oo Int)(_:vs=[.ref t,.int (c:Int)])(_:TD Y.n Y.l Y.m H t dv bs rws)(_:bs[c]?=N8 b)(_:⇑rws<=200)(_:(∀w∈rws,c<⇑w.1))(_:spn rws c<=499)(_:L.length<=400)(_:(∀x,MkC rws c b x->x∈L))(_:∀(l:Ki)(cs:Oo Int)(H':Hp),aw H H'->H l=N9->H' l=N8 (.lst<|cs.map ut)->cs.Pairwise (· < ·)->(∀x,x∈cs↔MkC rws c b x)->Q (.ref l) H')
inductive gE
 |mk (bl_ ml:Ki)(ys:Oo V)(ps:Oo (Int×Int))(as:Oo Ki)(mss:Oo (Oo Int))(_:vs=[.ref bl_,.ref ml])(_:H bl_=N8 (.lst ys))(_:PL H ys ps)(_:H ml=N8 (.lst<|as.map mt))(_:MLs H as mss)(_:MkO ps mss)(_:∀(D:Ki)(us:Oo V)(H':Hp),aw H H'->H D=N9->H' D=N8 (.lst us)->BkL H' us (dI ps mss)->Q (.ref D) H')
inductive gF(K:bd)(Y:AD)(P:Kf)(w:Ke)(mg:Str->Option Kd)(base:Kj)(vs:Oo V)(H:Hp)(Q:VK)(e_:XK):Prop
 |mk (d b:Ki)(kvs:Oo (NK×Ki×V))(M:Oo (Blk×Pln))(B:Blk)(c:Nat)(m x lo hi:Int)(pb pa:Pln)(_:vs=[.ref d,.ref b,.int c,.int m,.int x])(_:DcP P w K H d kvs M)(_:BxA H b B)(_:B.length<=5)(_:B[c]?=N8 (lo,hi))(_:(B.set c (lo,m-1),pb)∈M)(_:(B.set c (m,hi),pa)∈M)(_:pb.2.dep<=50)(_:∀(r:Ki)(H':Hp),aw H H'->PlA K H' (cmb x c m pb pa) r->Q (.ref r) H')
inductive gG
 |mk (a:Ki)(ns:Oo Int)(_:vs=[.ref a])(_:SqL K H a (ns.map ut))(_:∀(l:Ki)(qs:Oo Nat)(H':Hp),aw H H'->H' l=N8 (.lst<|vN qs)->SzO (wyK ns) qs->Q (.ref l) H')
inductive iD
 |mk (a:Ki)(ns:Oo Int)(_:vs=[.ref a])(_:SqL K H a (ns.map ut))(_:∀(s_:Nat)(H':Hp),aw H H'->300<=s_->s_<=391->Q (.int (s_:Int)) H')
inductive bf
 |mk (x dx:Ki)(lo hi:Int)(_:vs=[.ref x,.int lo,.int hi])(_:H x=N8 (.ins Y.l dx []))(_:lo<=hi)(_:Q .non (mkd Y.l H x dx lo hi))
def  J0(K:bd)(Y:AD):Sp:=yy Y.e s!"first"
def  J8(K:bd)(Y:AD):Sp:=yy Y.f s!"only"
def  J4(K:bd)(Y:AD):Sp:=yy Y.g s!"like"
def  J6(K:bd)(Y:AD):Sp:=yy Y.h s!"low"
def  J2(K:bd)(Y:AD):Sp:=yy Y.i s!"high"
def  J10(K:bd)(Y:AD):Sp:=yy Y.j s!"sum"
inductive bT
 |mk (a:Ki)(b:Int×Int)(i:Int)(_:vs=[.ref a,.int i])(_:DY Y.l H a b.1 b.2)(_:b.1<=i)(_:i<=b.2)(_:Q (.bl Oa) H)
inductive cg
 |mk (a:Ki)(b:Int×Int)(i:Int)(_:vs=[.ref a,.int i])(_:DY Y.m H a b.1 b.2)(_:b.1<=i)(_:i<=b.2)(_:Q (.bl Oa) H)
def  J12(K:bd)(Y:AD):Sp:=kB K Y.e Y.l Y.m 0
def  J16(K:bd)(Y:AD):Sp:=kB K Y.f Y.l Y.m 1
def  J14(K:bd)(Y:AD):Sp:=kB K Y.g Y.l Y.m 2
def  J15(K:bd)(Y:AD):Sp:=kB K Y.h Y.l Y.m 3
def  J13(K:bd)(Y:AD):Sp:=kB K Y.i Y.l Y.m 4
def  J17(K:bd)(Y:AD):Sp:=kB K Y.j Y.l Y.m 5
inductive oR
 |mk (a b:Ki)(ys:Oo V)(ps:Oo (Int×Int))(as:Oo Ki)(mss:Oo (Oo Int))(_:vs=[.ref a,.ref b])(_:H a=N8 (.lst ys))(_:PL H ys ps)(_:H b=N8 (.lst<|as.map mt))(_:MLs H as mss)(_:MOK ps mss)(_:∀H':Hp,aw H H'->Q (.int ((gr ps mss ⇑ps:Nat):Int)) H')
inductive eK
 |mk (p:Ki)(zs:Oo Str)(_:vs=[.ref p])(_:SqL K H p (zs.map v0))(_:(∀z∈zs,isw z=Oa))(_:zs.Nodup)(_:⇑zs<=100)(_:∀H',aw H H'->Q .non H')
inductive fQ
 |mk (dl ou cl:Ki)(dv xs:Oo V)(bs:Prs)(o:Int×Int)(w:Rw)(_:vs=[.ref dl,.ref ou,.ref cl,.int w.2])(_:SqL K H dl dv)(_:aJ dv bs (Dom Y.l Y.m H))(_:Dom Y.l Y.m H ou o)(_:H cl=N8 (.lst xs))(_:CL NT H xs w.1)(_:t6 bs o w)(_:∀H',aw H H'->Q .non H')
inductive kM
 |mk (t c:Ki)(rws:Oo Rw)(i:Nat)(o:Int×Int)(cs:Oo Int)(_:vs=[.ref t,.ref c])(_:Tbl Y.n Y.l Y.m H t rws i o)(_:SqL K H c (cs.map ut))(_:(∀w∈rws,⇑w.1=⇑cs))(_:∀H',aw H H'->Q (.int ((msk (gN rws cs) ⇑rws:Nat):Int)) H')
inductive fe
 |mk (t:Ki)(dv:Oo V)(bs:Prs)(rws:Oo Rw)(L:Nat->Oo Int)(_:vs=[.ref t])(_:TD Y.n Y.l Y.m H t dv bs rws)(_:⇑bs<=100)(_:⇑rws<=200)(_:(∀w∈rws,⇑w.1=⇑bs))(_:(∀c,spn rws c<=499))(_:(∀(c:Nat)(b:Int×Int),bs[c]?=N8 b->⇑(L c)<=400/\∀x,MkC rws c b x->x∈L c))(_:∀(l:Ki)(as:Oo Ki)(mss:Oo (Oo Int))(H':Hp),aw H H'->H l=N9->H' l=N8 (.lst<|as.map mt)->MLs H' as mss->⇑mss=⇑bs->(∀(c:Nat)(b:Int×Int)(ms:Oo Int),bs[c]?=N8 b->mss[c]?=N8 ms->ms.Pairwise (· < ·)/\∀x,x∈ms↔MkC rws c b x)->Q (.ref l) H')
inductive i7
 |mk (z:Str)(_:vs=[.str z])(_:z∈six)(_:(∀i:Nat,six[i]?=N8 z->∀(x C:Ki)(H':Hp),aw H H'->(cl6 Y.e Y.f Y.g Y.h Y.i Y.j)[i]?=N8 C->WyN C H' x z->Q (.ref x) H'))
inductive fR
 |mk (z:Str)(ou:Ki)(_:vs=[.str z,.ref ou])(_:z∈six)(_:(z=s!"sum" -> ∃dx fs,H ou=N8 (.ins Y.l dx fs))) (_:∀H',aw H H'->Q .non H')
inductive gi
 |mk (t:Ki)(rws:Oo Rw)(i:Nat)(o:Int×Int)(m:Int)(_:vs=[.ref t,.int m])(_:Tbl Y.n Y.l Y.m H t rws i o)(_:∀(r:Ki)(H':Hp),aw H H'->Vd K H' r (ver (wf i o.1 o.2)<|pkF rws (eM m) ⇑rws)->Q (.ref r) H')
inductive bH
 |mk (x dx na dl ou rl:Ki)(nm wy:Str)(zs:Oo Str)(dv rx:Oo V)(bs:Prs)(o:Int×Int)(rws:Oo Rw)(_:vs=[.ref x,.str nm,.ref na,.ref dl,.ref ou,.str wy,.ref rl])(_:H x=N8 (.ins Y.n dx []))(_:H na=N8 (.lst<|zs.map v0))(_:(∀z∈nm :: zs,isw z=Oa))(_:(nm :: zs).Nodup)(_:1<=⇑zs)(_:⇑zs<=4)(_:wy∈six)(_:(wy=s!"sum" -> ∃dx fs,H ou=N8 (.ins Y.l dx fs))) (_:H dl=N8 (.lst dv))(_:aJ dv bs (Dom Y.l Y.m H))(_:Dom Y.l Y.m H ou o)(_:H rl=N8 (.lst rx))(_:RL NT H rx rws)(_:⇑rx<=200)(_:⇑bs<=4)(_:(∀w∈rws,t6 bs o w))(_:∀(H':Hp)(fs:Oo (Str×V))(rl':Ki)(xs':Oo V),(∀b o,b≠x->H b=N8 o->H' b=N8 o)->H' x=N8 (.ins Y.n dx fs)->fs.lookup s!"rows"=↑rl'->fs.lookup s!"way"=N8 (.str wy)->fs.lookup s!"outcome"=↑ou->fs.lookup s!"name"=N8 (.str nm)->(∃na' dl':Ki,fs.lookup s!"names"=↑na'/\fs.lookup s!"domains"=↑dl'/\H' na'=N8 (.lst<|zs.map v0)/\H' dl'=N8 (.lst dv))->H' rl'=N8 (.lst xs')->RL NT H' xs' rws->Q .non H')
inductive d8(K:bd)(Y:AD)(n:Nat)(vs:Oo V)(H:Hp)(Q:VK)(e_:XK):Prop
 |mk (d:Nat)(F:Fm SI2 d)(v:V)(ps:Oo (Int×Int))(Ls:Oo (Oo Int))(b:Nat)(_:vs=[v,.int d])(_:d+1<=n)(_:d<=6)(_:FmV (K:=K) LVd H d F v)(_:fP d F ps)(_:BdG b d F)(_:(∀c m,mE d F c m->∃l,Ls[c]?=N8 l/\m∈l))(_:(∀l∈Ls,⇑l<=b))(_:b<=60)(_:(d<=1\/b<=29))(_:∀(l:Ki)(rs:Oo Ki)(mss:Oo (Oo Int))(H':Hp),aw H H'->H l=N9->(∀r∈rs,H r=N9/\r≠l)->uf d F H' l rs mss->Q (.ref l) H')
def uz{K:bd}{Y:AD}{vs:Oo V}{H:Hp}{Q:VK}{E:XK}(h:d8 K Y 0 vs H Q E):False:=by
 let(d,o,v,i,n,m,rfl,l,b,k,a,c,e,f,j,g,q):=h;lia
inductive fg
 |mk (a l:Ki)(ns:Oo Int)(qs:Oo Nat)(_:vs=[.ref a,.ref l])(_:SqL K H a (ns.map ut))(_:(∀m∈ns,wp m<=2^20))(_:H l=N8 (.lst<|vN qs))(_:1<=⇑qs)(_:⇑qs<=4)(_:(∀q∈qs,2<=q/\q<=50))(_:∀(t:Ki)(lq:Oo (Int×Nat))(wd m:Int)(ou:Ki)(zs:Oo Str)(dv:Oo V)(H':Hp),aw H H'->lq.map (·.2)=qs->1<=wd->0<=m->m<=9->vV (λ_=>True) Y.n H' t [(lq.map<|cy wd,m)] s!"t" s!"only" ou zs dv->aJ dv (lq.map<|cH wd) (Dom Y.l Y.m H')->Dom Y.l Y.m H' ou (0,9)->Q (.ref t) H')
inductive iE
 |mk (a:Ki)(ns:Oo Int)(s_:Nat)(_:vs=[.ref a,.int (s_:Int)])(_:SqL K H a (ns.map ut))(_:(∀m∈ns,wp m<=2^20))(_:300<=s_)(_:s_<=391)(_:∀(t:Ki)(low:Int)(ou:Ki)(zs:Oo Str)(dv:Oo V)(H':Hp),aw H H'->vV (λ_=>True) Y.n H' t (fG low s_) s!"t" s!"first" ou zs dv->aJ dv [(low,low+(s_:Int)-1)] (Dom Y.l Y.m H')->Dom Y.l Y.m H' ou (0,9)->Q (.ref t) H')
inductive jJ(K:bd)(Y:AD)(P:Kf)(w:Ke)(mg:Str->Option Kd)(base:Kj)(vs:Oo V)(H:Hp)(Q:VK)(e_:XK):Prop
 |mk (d b ml cl:Ki)(v:V)(kvs:Oo (NK×Ki×V))(M:Oo (Blk×Pln))(B:Blk)(as:Oo Ki)(mss:Oo (Oo Int))(xs:Oo Int)(n:Nat)(F:Fm SI2 n)(s:SI2)(pl:Blk->Pln)(_:vs=[.ref d,.ref b,.ref ml,.ref cl,v])(_:DcP P w K H d kvs M)(_:BxA H b B)(_:B.length<=5)(_:H ml=N8 (.lst<|as.map mt))(_:MLs H as mss)(_:⇑mss=B.length)(_:(∀ms∈mss,⇑ms<=29))(_:H cl=N8 (.lst<|xs.map ut))(_:⇑xs=B.length)(_:(∀(c:Nat)(lo hi m:Int)(ms:Oo Int),B[c]?=N8 (lo,hi)->mss[c]?=N8 ms->m∈ms->lo<m->m<=hi->(B.set c (lo,m-1),pl<|B.set c (lo,m-1))∈M/\(B.set c (m,hi),pl<|B.set c (m,hi))∈M/\(pl<|B.set c (lo,m-1)).2.dep<=50))(_:FmV (K:=K) LVd H n F v)(_:Tel n F (B.map (·.1)) s)(_:mF K H)(_:∀(r:Ki)(H':Hp),So H H'->mF K H'->(∃z,lc K "plan_of" = N8 z/\∀d o,d≠z.2->H d=N8 o->H' d=N8 o)->PlA K H' (plB B mss xs pl s) r->Q (.ref r) H')
inductive fh(K:bd)(Y:AD)(P:Kf)(w:Ke)(mg:Str->Option Kd)(base:Kj)(n:Nat)(vs:Oo V)(H:Hp)(Q:VK)(e_:XK):Prop
 |mk (c b f:Ki)(xs:Oo V)(cols:Oo (List<|Int×Int))(ah:Oo Int)(m:Nat)(L:Type)(_:DecidableEq L)(A:Lfp K L)(g:Oo Int->L)(J:RK)(_:vs=[.ref c,.ref b,.ref f])(_:⇑cols+1<=n)(_:H c=N8 (.lst xs))(_:CoL H xs cols)(_:H b=N8 (.lst<|ah.map ut))(_:(∀col∈cols,⇑col<=401))(_:⇑ah+⇑cols<=6)(_:⇑cols<=6)(_:m=⇑ah+⇑cols)(_:D6 A P w K mg base f m g J)(_:J H)(_:(∀(v:V)(H':Hp),(∀d o,d≠b->H d=N8 o->H' d=N8 o)->FmV A H' ⇑cols (lay g cols ah) v->Q v H'))
def wc{K:bd}{Y:AD}{P:Kf}{w:Ke}{mg:Str->Option Kd}{base:Kj}{vs:Oo V}{H:Hp}{Q:VK}{E:XK}(h:fh K Y P w mg base 0 vs H Q E):False:=by
 let(c,b,t,i,a,u,m,L,j,A,g,J,rfl,k,n,s,o,f,e,d,l,p,r,q):=h;lia
inductive gj(K:bd)(Y:AD)(P:Kf)(w:Ke)(mg:Str->Option Kd)(base:Kj)(n:Nat)(vs:Oo V)(H:Hp)(Q:VK)(e_:XK):Prop
 |mk (L M:Type)(_:DecidableEq L)(_:DecidableEq M)(A:Lfp K L)(B:Lfp K M)(h:L->M)(J:RK)(d:Nat)(F:Fm L d)(v:V)(f:Ki)(_:vs=[v,.int d,.ref f])(_:d+1<=n)(_:d<=6)(_:FmV A H d F v)(_:SmF 300 d F)(_:FT A B P w K mg base f h J)(_:J H)(_:∀(u:V)(H':Hp),aw H H'->FmV B H' d (pR h d F) u->Q u H')
def yO{K:bd}{Y:AD}{P:Kf}{w:Ke}{mg:Str->Option Kd}{base:Kj}{vs:Oo V}{H:Hp}{Q:VK}{E:XK}(h:gj K Y P w mg base 0 vs H Q E):False:=by
 let(L,M,e,c,A,B,i,J,d,m,v,l,rfl,g,b,f,a,j,k,q):=h;lia
inductive oS(K:bd)(Y:AD)(P:Kf)(w:Ke)(mg:Str->Option Kd)(base:Kj)(vs:Oo V)(H:Hp)(Q:VK)(E:XK):Prop
 |mk (a b f:Ki)(ys:Oo V)(ps:Oo (Int×Int))(as:Oo Ki)(mss:Oo (Oo Int))(L:Type)(_:DecidableEq L)(A:Lfp K L)(g:Oo Int->L)(J:RK)(_:vs=[.ref a,.ref b,.ref f])(_:H a=N8 (.lst ys))(_:PL H ys ps)(_:H b=N8 (.lst<|as.map mt))(_:MLs H as mss)(_:MOK ps mss)(_:D6 A P w K mg base f ⇑ps g J)(_:J H)(_:(300<gr ps mss ⇑ps->∀H',aw H H'->E (.ref Y.b) N9 H'))(_:(gr ps mss ⇑ps<=300->∀(v:V)(H':Hp)(css:Oo (Oo Int)),aw H H'->⇑css=⇑ps->(∀(j:Nat)(p:Int×Int)(ms cs:Oo Int),ps[j]?=N8 p->mss[j]?=N8 ms->css[j]?=N8 cs->cs.Pairwise (· < ·)/\(∀c,c∈cs↔(c∈ms/\p.1<c/\c<=p.2))/\⇑cs<=400)->FmV A H' ⇑(kt (λp cs=>aU p.1 p.2 cs) ps css) (lay g (kt (λp cs=>aU p.1 p.2 cs) ps css) []) v->Q v H'))
inductive iF(K:bd)(Y:AD)(vs:Oo V)(H:Hp)(Q:VK)(E:XK):Prop
 |mk (t:Ki)(dv:Oo V)(bs:Prs)(rws:Oo Rw)(L:Nat->Oo Int)(g i:Nat)(o:Int×Int)(_:vs=[.ref t])(_:RfB Y.n Y.l Y.m H t dv bs rws L g i o)(_:(∀z,lc K "row_form" = N8 z->bP H z.2 [(oo Y70,"row_form.<locals>.<lambda>")] )) (_:(300<g->∀H',So H H'->(∀z,lc K "row_form" = N8 z->bP H' z.2 [(oo Y70,"row_form.<locals>.<lambda>")]/\∀d o,d≠z.2->H d=N8 o->H' d=N8 o)->(∃z,lc K "row_form" = N8 z)->E (.ref Y.b) N9 H')) (_:(g<=300->∀(v:V)(H':Hp)(css:Oo (Oo Int)),So H H'->(∀z,lc K "row_form" = N8 z->bP H' z.2 [(oo Y70,"row_form.<locals>.<lambda>")]/\∀d o,d≠z.2->H d=N8 o->H' d=N8 o)->(∃z,lc K "row_form" = N8 z)->⇑css=⇑bs->(∀(j:Nat)(p:Int×Int)(cs:Oo Int),bs[j]?=N8 p->css[j]?=N8 cs->cs.Pairwise (· < ·)/\∀x,x∈cs↔MkC rws j p x)->FmV (K:=K) Ak H' ⇑(kt (λp cs=>aU p.1 p.2 cs) bs css) (lay (λcd=>((msk (gN rws cd) ⇑rws:Nat):Int)) (kt (λp cs=>aU p.1 p.2 cs) bs css) []) v->Q v H'))
inductive eL(K:bd)(Y:AD)(vs:Oo V)(H:Hp)(Q:VK)(E:XK):Prop
 |mk (t:Ki)(dv:Oo V)(bs:Prs)(rws:Oo Rw)(L:Nat->Oo Int)(g i:Nat)(o:Int×Int)(_:vs=[.ref t])(_:RfB Y.n Y.l Y.m H t dv bs rws L g i o)(_:jf K H)(_:jg K H)(_:(300<g->∀H',So H H'->jf K H'->jg K H'->E (.ref Y.b) N9 H'))(_:(g<=300->∀(v:V)(F:Fm SI ⇑bs)(H':Hp),So H H'->jf K H'->jg K H'->(∃zr zv,lc K "row_form" = N8 zr/\lc K "verdict_form" = N8 zv/\∀d o,d≠zr.2->d≠zv.2->H d=N8 o->H' d=N8 o)->FmV (K:=K) LVd H' ⇑bs F v->fP ⇑bs F bs->SmF 300 ⇑bs F->(∀cs,InB cs bs->Tel ⇑bs F cs (vdm rws i o<|mkg rws cs))->Q v H'))
inductive gH(K:bd)(Y:AD)(P:Kf)(w:Ke)(mg:Str->Option Kd)(base:Kj)(vs:Oo V)(H:Hp)(Q:VK)(E:XK):Prop
 |mk (t:Ki)(dv:Oo V)(bs:Prs)(rws:Oo Rw)(L:Nat->Oo Int)(g i:Nat)(o:Int×Int)(xs:Oo Int)(Ls:Oo (Oo Int))(b:Nat)(_:vs=[.ref t,.non])(_:RfB Y.n Y.l Y.m H t dv bs rws L g i o)(_:jf K H)(_:jg K H)(_:mF K H)(_:(∀x∈xs,x=1))(_:⇑xs=⇑bs)(_:(∀(c:Nat)(m:Int),Chg bs (λcs=>vdm rws i o<|mkg rws cs) c m->∃l,Ls[c]?=N8 l/\m∈l))(_:(∀l∈Ls,⇑l<=b))(_:b<=60)(_:(⇑bs<=1\/b<=29))(_:(300<g->∀H',E (.ref Y.b) N9 H'))(_:(g<=300->∀mss:Oo (Oo Int),MsO bs (λcs=>vdm rws i o<|mkg rws cs) mss->(600<dJ mss ⇑mss->∀H',E (.ref Y.b) N9 H')/\(dJ mss ⇑mss<=600->(∀ms∈mss,⇑ms<=29)/\(∀i,dJ mss i<=600)/\tot mss<=50 /\
 ∀(d:Ki)(kvs:Oo (NK×Ki×V))(H':Hp),Sf H H'->jf K H'->jg K H'->mF K H'->(∀o,noT o->H d≠N8 o)->DcP P w K H' d kvs ((dI bs mss).map λB=>(B,plF mss xs (vdB rws i o) B))->Q (.ref d) H'))):gH K Y P w mg base vs H Q E
inductive jc(K:bd)(Y:AD)(P:Kf)(w:Ke)(mg:Str->Option Kd)(base:Kj)(vs:Oo V)(H:Hp)(Q:VK)(E:XK):Prop
 |mk (t:Ki)(bs:Prs)(rws:Oo Rw)(i:Nat)(o:Int×Int)(xs:Oo Int)(_:vs=[.ref t,.non])(_:PlE Y.n Y.l Y.m Y.b K H t bs rws i o xs E λmss=>∀(d:Ki)(kvs:Oo (NK×Ki×V))(H':Hp),H' d=N8 (cC P w d kvs)->⇑kvs=⇑(dI bs mss)->Q (.ref d) H')
inductive m5(K:bd)(Y:AD)(vs:Oo V)(H:Hp)(Q:VK)(E:XK):Prop
 |mk (t:Ki)(bs:Prs)(rws:Oo Rw)(i:Nat)(o:Int×Int)(xs:Oo Int)(_:vs=[.ref t,.non])(_:PlE Y.n Y.l Y.m Y.b K H t bs rws i o xs E λmss=>∀(r:Ki)(p:Pln)(H':Hp),PlA K H' p r->Q (.ref r) H')
inductive fi
 |mk (t:Ki)(wh:Bool)(bs:Prs)(rws:Oo Rw)(i:Nat)(o:Int×Int)(xs:Oo Int)(_:vs=[.ref t,.bl wh])(_:(∀E:XK,(∀H',E (.ref Y.b) N9 H')->PlE Y.n Y.l Y.m Y.b K H t bs rws i o xs E λ_=>False))(_:∀H',Q (.bl Oa) H')
def  J18(K:bd):Sp:=λc H Q _=>∃(a:Ki)(b:Oo Int),c=[.ref a]/\SqL K H a (b.map ut)/\⇑b<=63/\(∀m∈b,wp m<=2^20)/\(∀z,lc K "row_form" = N8 z->H z.2=N8 (.tbl #[]))/\(∀z,lc K "verdict_form" = N8 z->H z.2=N8 (.tbl #[]))/\(∀z,lc K "plan_of" = N8 z->H z.2=N8 (.tbl #[]))/\∀d,Q (.bl Oa) d
inductive gk(K:bd)(Y:AD)(f c' c_0:Ki)(doc pm ctv:Kd)(vs:Oo V)(H:Hp)(Q:VK)(e_:XK):Prop
 |mk (a t:Ki)(cs:Oo Int)(rws:Oo Rw)(i:Nat)(o:Int×Int)(_:vs=[.ref a])(_:gL H f c' (ls "<lambda>" "row_form.<locals>.<lambda>" (om Y70) (mD Y70) (iw Y70) [("table",c_0)] pm c' ctv) "row_form.<locals>.<lambda>" [("table",c_0)] [("table",.ref t)]) (_:Tbl Y.n Y.l Y.m H t rws i o)(_:H a=N8 (.lst<|cs.map ut))(_:(∀x∈rws,⇑x.1=⇑cs))(_:∀H',aw H H'->Q (.int ((msk (gN rws cs) ⇑rws:Nat):Int)) H')
inductive d9(K:bd)(Y:AD)(f c' c_0:Ki)(doc pm ctv:Kd)(vs:Oo V)(H:Hp)(Q:VK)(e_:XK):Prop
 |mk (m:Int)(t:Ki)(rws:Oo Rw)(i:Nat)(o:Int×Int)(_:vs=[.int m])(_:gL H f c' (ls "<lambda>" "verdict_form.<locals>.<lambda>" (om Y74) (mD Y74) (iw Y74) [("table",c_0)] pm c' ctv) "verdict_form.<locals>.<lambda>" [("table",c_0)] [("table",.ref t)]) (_:Tbl Y.n Y.l Y.m H t rws i o)(_:∀(r:Ki)(H':Hp),aw H H'->Vd K H' r (vdm rws i o m)->Q (.ref r) H')
inductive gM(K:bd)(Y:AD)(f c'  : Ki)(doc pm ctv:Kd)(vs:Oo V)(H:Hp)(Q:VK)(e_:XK):Prop
 |mk (a:Ki)(p:Pln)(_:vs=[.ref a])(_:gL H f c' (ls "<lambda>" "plan_of.<locals>.<lambda>" (om Y62) (mD Y62) (iw Y62) [] pm c' ctv) "plan_of.<locals>.<lambda>" [] []) (_:PlA K H p a)(_:Q (.int p.1) H)
section
variable{P:Kf}{w:Ke}{K:bd}{mg:Str->Option Kd}{base:Kj}{f:Ki}{fd:LA}{Y:AD}
set_option hygiene false in
local macro_rules|`(⟨⟩)=>`(Callee P w K mg base)
set_option hygiene false in
local macro_rules|`(())=>`(aH P w K mg base CX0)
def Hm(F:Fun K "holds" "holds" Y42 f fd)(bl:Bl K mg Y):() 1 f fd ["spans","number"] (oP K Y):=by
 refine F.okA Z42 λI A v s H J Q E L h=>?_
 let(a,xs,k,n,rfl,y,B,q):=h
 refine(_,(au (bz sB U (aQ<|pv 0) (fL U<|aF (az (i:=2) Z42.nd U<|cr U)<|aF (az (i:=3) Z42.nd U<|cr U) bM)
  (ak (bx (gZ fU fU (pv 2) (pv 1)<|pv 3)
  (ak<|ay m7)
  aM)))
  (ak<|ay m7)),?_,)
 dsimp only[bw,RI,RH];show(let D:TS:=_;aS _ D _ _ _);intro _;refine(a,U,(_,y,),(let G:Nat->RJ:=λi g j=>(E2 λt o=>g=[↑a,N8<|.int n,t,o])/\j=H/\(k.take i).any (inR n)=Ob;bA (xs:=xs) G ((_,_,U,),U,U,) (λi g j _ h=>by let(_,e,_):=h;rw[e];exact y) (λi x g j e h=>?_) (λg j h=>?_)),)
 .let((t,o,rfl),m,b):=h;rw[m];let(p,r,l,rfl,u):=B.get e;calc(r,_,U,RG u,U,_,_,U,_,_,U,U,?_,);calc(_,_,U,U,_,U,?_,);refine eN (λc=>?_)<|λc=>?_
  .refine(_,_,U,U,_,U,?_,);refine eN (λd=>?_)<|λd=>?_
   .let C:inP k n=true:=vg l<|He c d;rw[C]at q;exact q
   .exact((_,_,U,),U,ju l b<|FL d,)
  .exact(_,U,dY ((_,_,U,),U,ju l b<|FK c,),)
 .let((t,o,rfl),m,b):=h;rw[m];let z:inP k n=false:=by
   rw[B.length,fm]at b;exact b
  rw[z]at q;calc q
def Hn(F:Fun K "edges" "edges" Y38 f fd)(bl:Bl K mg Y):() 1 f fd ["spans","low","high"] (oQ K Y):=by
 refine F.okA Z38 λa2 A S s H vs Q E hr h=>?_
 let(a,xs,R,lo,hi,rfl,W,C,hl,q):=h
 refine(_,(au (aK (i:=3) Z38.nd U (cr U)<|aW ai)
  (au (bz sB U (aQ<|pv 0) (fL U<|aF (az (i:=4) Z38.nd U<|cr U)<|aF (az (i:=5) Z38.nd U<|cr U) bM)
  (au (bj<|ib PySem.F.plainAttrs_list PySem.F.slot_list_append PySem.F.type_list_append bY (pv 3)<|ae (pv 4) ai)
  (ak<|bj<|ib PySem.F.plainAttrs_list PySem.F.slot_list_append PySem.F.type_list_append bY (pv 3)<|ae (aD bN (pv 5) aq) ai)))
  (ak<|ay<|dW (aQ<|pv 3) (de (N:=["turn","low","high"]) (fr:=[1,2]) (cl:=[("low",↥s+1),("high",↥s+1+1)]) U U (~~~0) (~~~0) U (~~~0) U U U (ia.mpr (U,ia.mpr (U,ji _,),)) U) U (λ_ _ _ _=>(mP<|gZ nh fU (pv 1) (pv 0)<|pv 2))<|λ_ _ _ _=>(pv 0)))),?_,)
 dsimp only[bw,RI,RH];show(let r2:TS:=_;let r1:TS:=aS _ r2;aS _ r1 _ _ _);intro _ _;refine((by show 0<=Kk;decide),λl v=>?_,);let T:aw H (upd H l<|.lst []):=aj v _
 refine⟨a,U,(_,T.seq W,),bA (xs:=xs) (λi B k=>∃(L J:Option V),B=[↑a,N8<|.int lo,N8<|.int hi,↑l,L,J]/\aw H k/\k l=N8 (.lst<|(ends<|R.take i).map ut)/\⇑(ends<|R.take i)<=2*i)
  (N9,N9,U,T,ag,vk _,) (λi B k _ h=>by let(_,_,_,j,_):=h;exact j.seq W) (λi x B k e h=>?_) (λB k h=>?_)⟩
 .let(L,J,rfl,j,m,z):=h;let(p,r,Z,rfl,M):=(C.mono j.tups).get e;let b:i<⇑xs:=(JQ.mp e).1;calc(r,_,U,RG M,U,_,_,U,_,_,U,U,?_,);refine(.inl (U,_,RF m,),l,_,_,U,U,m,aC (by rw[aa];lia),?_,);refine(.inl (U,_,RF ag,),_,_,U,U,l,_,_,U,U,ag,aC (by rw[cn,aa,il];lia),?_,);rw[Ba];refine(_,_,U,j.upd v,?_,?_,)
  .rw[ag,take_snoc Z,ql];simp
  .rw[take_snoc Z,ql,cn];simp;lia
 .let(L,J,rfl,j,m,z):=h;rw[C.length,fm]at m z
  refine(l,U,(_,RF m,),dO (xs:=(ends R).map ut) (λD i zs d=>aw k d/\d D=N8 (.lst zs)/\zs=(((ends R).take i).filter<|λt=>decide (lo<t) && decide (t<=hi)).map ut/\⇑zs<=i)
   (λD n=>(aj n _,ag,U,v3 _,)) (λD i zs d n _ h=>RF<|h.1 _ _ m) (λD i x zs d n e h=>?_) (λD zs d n h=>?_),)
  .let(g,u,o,O):=h;let(c,rfl,X):=of_map e;let b:i<⇑((ends R).map ut):=(JQ.mp e).1;let a1:i<⇑(ends R):=by rw[aa]at b;exact b
   let y:(Oc (lo<c) && decide (c<=hi))=Ob->dZ (λD i zs d=>aw k d/\d D=N8 (.lst zs)/\zs=(((ends R).take i).filter<|λt=>decide (lo<t) && decide (t<=hi)).map ut/\⇑zs<=i) D i ⇑((ends R).map ut) d:=λhf=>by
    calc dZ.mk (zs:=zs) b (g,u,?_,∅,);rw[take_snoc X,oD,Op (~~~hf)];simpa using o
   calc(_,_,U,U,_,U,?_,);refine eN (λI=>?_)<|λI=>?_
   .refine(_,_,U,U,_,U,?_,);refine eN (λG=>?_) (λG=>y (by rw[Jo.mpr G,FM]));let a0:=C.length;refine(df.mk b u (aC ∅) (g.upd n,ag,?_,by rw[cn,il];lia,));rw[take_snoc X,oD,On (by rw[I,G];rfl),o];simp
   .exact(_,U,dY<|y (by rw[Jo.mpr I,Ow]),)
  .let(g,u,o,O):=h;rw[aa,fm]at o;rw[o]at u;calc q D d _ (j.trans g) (j.free n) u U
def Ho(F:Fun K "stretches" "stretches" Y71 f fd)(bl:Bl K mg Y):() 1 f fd ["low","high","marks"] (eP K Y):=by
 refine F.okA Z73 λb4 A b1 s H vs Q E hr h=>?_
 let(a,n,L,lo,hi,rfl,hS,hl,hL,jd,q):=h
 refine(_,(au (aK (i:=3) Z73.nd U (cr U)<|aG (fX (w:=w) U U) U bl.sorted_ PJ<|ae (cj (qG (w:=w) U U) U bl.set_ KM<|ae (dW (aQ<|pv 2) (de (N:=["mark","low","high"]) (fr:=[0,1]) (cl:=[("low",↥s+1),("high",↥s+1+1)]) U U (~~~0) (~~~0) U (~~~0) U U U (ia.mpr (U,ia.mpr (U,ji _,),)) U) U (λ_ _ _ _=>(mP<|gZ nh fU (pv 1) (pv 0)<|pv 2))<|λ_ _ _ _=>(pv 0)) ai) ai)
  (au (aK (i:=4) Z73.nd U (cr U)<|aD rf (aW<|ae (pv 0) ai)<|pv 3)
  (au (aK (i:=5) Z73.nd U (cr U)<|aD rf (dW (aQ<|pv 3) (fw U (~~~0) (~~~0) (~~~0) U) U (λ_ _ _ _=>b8)<|λ_ _ _ _=>(aD eR (pv 0) aq))<|aW<|ae (pv 1) ai)
  (ak<|ay<|vD U U bl.list_ U bl.zip_<|ae (pv 4)<|ae (pv 5) ai)))),?_,)
 dsimp only[bw,RI,RH];show(let r3:TS:=_;let r2:TS:=aS _ r3;let r1:TS:=aS _ r2;aS _ r1 _ _ _);intro _ _ _
 refine(a,U,(_,hS,),dO (xs:=n.map ut) (λD i zs g=>aw H g/\g D=N8 (.lst zs)/\zs=((n.take i).filter<|λt=>decide (lo<t) && decide (t<=hi)).map ut/\⇑zs<=i)
  (λD m=>(aj m _,ag,U,v3 _,)) (λD i zs g m _ h=>h.1.seq hS) (λD i x zs g m e h=>?_) (λD zs g m h=>?_),)
 .let(r,B,y,O):=h;let(c,rfl,ec):=of_map e;let d:i<⇑(n.map ut):=(JQ.mp e).1;let a6:i<⇑n:=by rw[aa]at d;exact d
  let M:(Oc (lo<c) && decide (c<=hi))=Ob->dZ (λD i zs g=>aw H g/\g D=N8 (.lst zs)/\zs=((n.take i).filter<|λt=>decide (lo<t) && decide (t<=hi)).map ut/\⇑zs<=i) D i ⇑(n.map ut) g:=λhf=>by
   calc dZ.mk (zs:=zs) d (r,B,?_,∅,);rw[take_snoc ec,oD,Op (~~~hf)];simpa using y
  calc(_,_,U,U,_,U,?_,);refine eN (λg1=>?_)<|λg1=>?_
  .refine(_,_,U,U,_,U,?_,);refine eN (λg2=>?_) (λg2=>M (by rw[Jo.mpr g2,FM]));refine(df.mk d B (aC ∅) (r.upd m,ag,?_,by rw[cn,il];lia,));rw[take_snoc ec,oD,On (by rw[g1,g2];rfl),y];simp
  .exact(_,U,dY<|M (by rw[Jo.mpr g1,Ow]),)
 .let(s2,B,y,O):=h;rw[aa]at O y;rw[fm]at y;rw[y]at B;generalize R:n.filter (λt=>decide (lo<t) && decide (t<=hi))=ks at B y;let fO:∀c,c∈ks↔(c∈n/\lo<c/\c<=hi):=λc=>by rw[←R,ke];simp
  let b3:⇑ks<=⇑n:=by rw[←R];exact tw ..
  calc(D,ks,U,RF B,∅,λl a5=>?_,);let s3:aw H (upd g l<|vC w l ks):=s2.trans<|aj a5 _;calc(l,ks,L,U,ag,∅,λk hk=>let ⟨a1,a2,a3⟩:=(fO k).mp hk;jd k a1 a2 a3,λC b a9 pw mem=>?_,);let s4:=s3.trans<|aj a9<|.lst<|b.map ut;let e4:upd (upd g l<|vC w l ks) C (.lst<|b.map ut) C=N8 (.lst<|b.map ut):=ag;generalize upd (upd g l<|vC w l ks) C (.lst<|b.map ut)=H3 at s4 e4⊢;let a7:⇑b<=400:=vr (bh (pw.imp λh=>Pf h) λk hk=>let ⟨a1,a2,a3⟩:=(fO k).mp<|(mem k).mp hk;jd k a1 a2 a3) hL;refine((by show 1<=Kk;decide),λt1 J=>?_,);let e5:=eF (o:=.lst [.int lo]) e4 J;let s5:=s4.trans<|aj J<|.lst [.int lo];refine(t1,C,_,_,U,U,ag,e5,wx<|aC (by rw[aa];show 1+⇑b<=1000;lia),λX I=>?_,);let e6:=eF (o:=.lst<|[ut lo]++b.map ut) e5 I;let s6:=s5.trans<|aj I<|.lst<|[ut lo]++b.map ut;let e7:upd (upd H3 t1<|.lst [.int lo]) X (.lst<|[ut lo]++b.map ut) X=N8 (.lst<|[ut lo]++b.map ut):=ag;generalize upd (upd H3 t1<|.lst [.int lo]) X (.lst<|[ut lo]++b.map ut)=H4 at s6 e6 e7⊢
  refine(C,U,(_,RF e6,),dO (xs:=b.map ut) (λD i zs z=>aw H4 z/\z D=N8 (.lst zs)/\zs=((b.take i).map (· - 1)).map ut/\⇑zs<=i)
   (λD m=>(aj m _,ag,U,v3 _,)) (λD i zs z m _ h=>RF<|h.1 _ _ e6) (λD i x zs z m e h=>?_) (λD zs z m h=>?_),)
  .let(r,v,u,Hq):=h;let(c,rfl,ec):=of_map e;let d:i<⇑(b.map ut):=(JQ.mp e).1;let a6:i<⇑b:=by rw[aa]at d;exact d
   refine(_,_,U,U,df.mk d v (aC ∅) (r.upd m,ag,?_,by rw[cn,il];lia,),);rw[take_snoc ec,fj,fj,u];rfl
  .let(a0,v,u,Hq):=h;rw[aa,fm]at u;rw[u]at v;refine((by show 1<=Kk;decide),λt3 G=>?_,);let s7:=a0.trans<|aj G<|.lst [.int hi];refine(D,t3,_,_,U,U,eF v G,ag,wx<|aC (by rw[aa,aa];show ⇑b+1<=1000;lia),λW a4=>?_,);let Z:=s7.trans (aj a4 (.lst ((b.map (· - 1)).map ut++[.int hi])));let e8:upd (upd z t3<|.lst [.int hi]) W (.lst ((b.map (· - 1)).map ut++[.int hi])) W=N8 (.lst ((b.map (· - 1)).map ut++[.int hi])):=ag;generalize upd (upd z t3<|.lst [.int hi]) W (.lst ((b.map (· - 1)).map ut++[.int hi]))=H6 at Z e8⊢;let e9:=Z _ _ e7;refine(X,W,(lo :: b).map ut,(b.map (· - 1)++[hi]).map ut,U,RF e9,by rw[fj];exact RF e8,λD9 ts H9 S k9 a8 b0 f9=>?_,);let s9:aw H H9:=(s6.trans Z).trans λc o e=>k9 c o e
   refine q D9 H9 b (ts.map mt) s9 ((s6.trans Z).free a8) b0 (PL.of_get (by rw[S,cx];simp) λj p hj=>?_) pw (λc=>(mem c).trans<|fO c) a7;let(z1,z2):=zip_get hj;let(T,h1,_,h2):=f9 j _ _ z1 z2;calc(T,h1,h2,)
def Hr(F:Fun K "closed" "closed" Y34 f fd)(bl:Bl K mg Y):() 1 f fd ["triples"] (i6 K Y):=by
 refine F.okA Z34 λa7 A a5 s H vs Q E hr h=>?_
 let(L,iL,A,n,a,xs,o,rfl,hn,ha,X,hl,q):=h
 refine(_,(au (aK (i:=1) Z34.nd U (cr U)<|aW ai)
  (au (bz sB U (aQ<|pv 0) (fL U<|aF (az (i:=2) Z34.nd U<|cr U)<|aF (az (i:=3) Z34.nd U<|cr U)<|aF (az (i:=4) Z34.nd U<|cr U) bM)
  (ak (bx (PW.pt<|yY (cY (pv 1) (by intro _;rfl)) (wB<|aX (Ai hr) (aP bL (aP b7 (pv 1) (zh uS aq)<|λ_ _=>U) aq<|λ_ _=>U) (pv 4)<|bg _))
  (ak<|Dd (bo<|ae (aP bL (aP b7 (pv 1) (zh uS aq)<|λ_ _=>U) aq<|λ_ _=>U)<|ae (pv 3)<|ae (pv 4) ai)<|Dc (pv 1) (zh uS aq) set_list)
  (ak<|bj<|ib PySem.F.plainAttrs_list PySem.F.slot_list_append PySem.F.type_list_append bY (pv 1)<|ae (bo<|ae (pv 2)<|ae (pv 3)<|ae (pv 4) ai) ai))))
  (ak<|ay<|cj jt U bl.tuple_ OQ<|ae (pv 1) ai))),?_,)
 dsimp only[bw,RI,RH];show(let r2:TS:=_;let r1:TS:=aS _ r2;aS _ r1 _ _ _);intro _ _;refine((by show 0<=Kk;decide),λl B=>?_,);let s0:aw H (upd H l<|.lst []):=aj B _
 refine⟨a,U,(_,RF<|s0 _ _ ha,),bA (xs:=xs) (λi T g=>aw H g/\∃(c:Oo V)(N M J:Option V),g l=N8 (.lst c)/\FmL (FmV A g n) g ((o.take i).foldl cR []) c/\⇑c<=i/\T=[↑a,↑l,N,M,J])
  (s0,[],N9,N9,N9,ag,FmL.nil,v3 _,U,) (λi T g _ h=>RF<|h.1 _ _ ha) (λi y T g e h=>?_) (λT g h=>?_)⟩
 .let(C,c,N,M,J,m,p,R,rfl):=h;let hi:i<⇑xs:=(JQ.mp e).1;let(t,et):∃t,o[i]?=N8 t:=(_,JP (by rw[←X.1];exact hi),);let(r,u,ex,er,hu):=X.2 i t et;rw[e]at ex;cases ex;let a4:=C _ _ er;let x:=FmV.mono C.tups hu;let F4:(o.take<|i+1).foldl cR []=cR ((o.take i).foldl cR []) t:=by rw[take_snoc et,qT];rfl
  rw[F4];generalize (o.take i).foldl cR []=F at p;let a6:i<900:=by have:=X.1;lia
  refine(r,_,U,RG a4,U,_,_,U,_,_,U,_,_,U,U,?_,)
  let O:cR F t=F++[t]->∀b,g b=N9->aw H (upd (upd g b<|.tup [.int t.1,.int t.2.1,u]) l<|.lst<|c++[.ref b])/\∃(v:Oo V)(N M J:Option V),upd (upd g b<|.tup [.int t.1,.int t.2.1,u]) l (.lst<|c++[.ref b]) l=N8 (.lst v) /\
    FmL (FmV A (upd (upd g b<|.tup [.int t.1,.int t.2.1,u]) l<|.lst<|c++[.ref b]) n) (upd (upd g b<|.tup [.int t.1,.int t.2.1,u]) l<|.lst<|c++[.ref b]) (cR F t) v/\⇑v<=i+1/\[N8 (mt a),N8<|mt l,N8<|ut t.1,N8<|ut t.2.1,N8 u]=[↑a,↑l,N,M,J]:=λI b j=>by
   let D:upd g b (.tup [.int t.1,.int t.2.1,u]) l=N8 (.lst c):=eF m j;let k:bG g (upd (upd g b<|.tup [.int t.1,.int t.2.1,u]) l<|.lst<|c++[.ref b]):=(lh j).trans<|aR D;refine((C.trans<|aj j _).upd B,c++[.ref b],_,_,_,ag,?_,by rw[cn,il];lia,U,);rw[I];exact(p.mono (λ_ _ q=>FmV.mono k q) k).snoc (aR D _ _ ag) (FmV.mono k x)
  calc(!c.isEmpty,.inl (c,RF m,U,),?_,);rcases Pg F with Z|⟨F',lt,Z⟩
  .subst Z;let a0:c=[]:=jM p.1;let eE:(!c.isEmpty)=false:=by rw[a0];rfl
   rw[eE];calc dY<|dY ?_;refine(.inl (U,_,RF m,),(by show 3<=Kk;decide),λb j=>?_,);calc(l,c,_,U,U,eF m j,aC ∅,?_,);exact O U b j
  .rw[Ph]at Z;subst Z;let(G,W,ul,rfl,hy,S,a2):=p.init;let eE:(!(G++[mt W]).isEmpty)=true:=by cases G <;> rfl
   rw[eE];calc eU ?_;calc(_,U,l,_,_,_,U,U,RF m,sG _ _,W,_,_,_,U,U,RG S,U,λa3=>FmV.eq_to ∅ a2 x ?_ a3,);calc(_,U,?_,);refine eN (λd=>?_)<|λd=>?_
   .let d':lt.2.2=t.2.2:=l0 d;let I:cR (F'++[lt]) t=F'++[(lt.1,t.2.1,t.2.2)]:=by
     unfold cR;rw[Q5];simp only;rw[Of d',List.dropLast_concat]
    refine(_,U,l,_,_,_,U,U,RF m,sG _ _,W,_,_,_,U,U,RG S,U,(by show 3<=Kk;decide),λb j=>?_,);let D:upd g b (.tup [.int lt.1,.int t.2.1,u]) l=N8 (.lst<|G++[.ref W]):=eF m j;refine(_,U,l,_,_,_,U,U,D,Ar (by simp),?_,);rw[As];let k:bG g (upd (upd g b<|.tup [.int lt.1,.int t.2.1,u]) l<|.lst<|G++[.ref b]):=(lh j).trans<|aR D;refine((C.trans<|aj j _).upd B,G++[.ref b],_,_,_,ag,?_,by rw[cn,il]at R⊢;lia,U,);rw[I];exact(hy.mono (λ_ _ q=>FmV.mono k q) k).snoc (t:=(lt.1,t.2.1,t.2.2)) (aR D _ _ ag) (FmV.mono k x)
   .let d':lt.2.2≠t.2.2:=l7 d;let I:cR (F'++[lt]) t=F'++[lt]++[t]:=by
     unfold cR;rw[Q5];simp only;rw[Oe d']
    refine(.inl (U,_,RF m,),(by show 3<=Kk;decide),λb j=>?_,);calc(l,_,_,U,U,eF m j,aC ∅,?_,);exact O I b j
 .let(C,c,N,M,J,m,p,R,rfl):=h;let a1:FmL (FmV A g n) g (lG o) c:=by
   let e:o.take ⇑xs=o:=by rw[X.1];exact fm
   rw[e]at p;exact p
  calc(l,c,U,.inl (RF m,λb j=>?_,),);let st:=aj j<|.tup c;calc q b _ (C.trans st) (b,c,U,ag,a1.mono (λ_ _ z=>FmV.mono st.tups z) st.tups,)
def Hs(F:Fun K "beneath_code" "beneath_code" Y30 f fd)(bl:Bl K mg Y):() 1 f fd ["form","code"] (eG K Y):=by
 refine F.okA Z30 λN A y s H O Q E R h=>?_
 let(a,I,B,c,j,t,rfl,C,M,d,q):=h
 refine(_,(au (aK (i:=2) Z30.nd U (cr U) aq)
  (au (zc sB (aX nh (aP bL (aP bL (pv 0) (pv 2)<|λ_ _=>U) aq<|λ_ _=>U) (pv 1)<|bg _)
  (ak<|uO (i:=2) Z30.nd U (cr U) aq De))
  (ak<|ay<|aP bL (aP bL (pv 0) (pv 2)<|λ_ _=>U) aq<|λ_ _=>U))),?_,)
 dsimp only[bw,RI,RH];show(let J:TS:=_;let L:TS:=aS _ J;aS _ L _ _ _);intro _ _;let get:∀i:Nat,i<=j->∃(u:Tri)(r:Ki),B[i]?=N8 u/\atI I (i:Int)=↑r/\H r=N8 (.tup [.int u.1,.int u.2.1,u.2.2]):=λi hi=>by
  let S:=(JQ.mp d.at_).1;let e:=JP (l:=B) (i:=i) ∅;let(r,a,b):=M.2 i _ e;exact(_,r,e,cP a,b,)
 calc(let v:Nat->RJ:=λm z x=>∃i:Nat,A4 (i<=j) (m=j-i) (x=H) (z=[↑a,N8<|.int c,N8 (.int i)]);(v,(j,0,v3 _,U,U,U,),?_,));rintro m z x ⟨i,hi,rfl,rfl,rfl⟩;let(u,r,k,D,G):=get i hi;calc(a,_,_,_,U,U,C,D,r,_,_,_,U,U,RG G,U,_,_,U,U,_,U,?_,);refine eN (λg=>?_)<|λg=>?_
 .let T:u.2.1<c:=l0 g;let o:i≠j:=λh=>by
   subst h;rw[d.at_]at k;cases k;let:=d.le;lia
  refine(let v:RJ:=λn p=>p=x/\n=[↑a,N8<|.int c,N8 (.int ((i+1:Nat):Int))];(v,?_,?_,))
  .rintro n p ⟨rfl,rfl⟩;exact(j-(i+1),∅,i+1,∅,U,U,U,)
  .exact(_,U,_,_,U,U,U,U,)
 .let o:i=j:=by
   by_cases h:i<j
   .exact Og (d.lt i u h k)<|l7 g
   .lia
  subst o;rw[d.at_]at k;cases k;calc(a,_,_,_,U,U,C,D,r,_,_,_,U,U,RG G,U,q,)
def Ht(F:Fun K "gathered" "gathered" Y40 f fd)(bl:Bl K mg Y):() 1 f fd ["lists"] (fH K Y):=by
 refine F.okA Z40 λa1 A z s H vs Q E D h=>?_
 let(a,Z,b,L,rfl,I,d,M,hL,S,q):=h
 refine(_,(au (aK (i:=1) Z40.nd U (cr U)<|aW ai)
  (au (bz sB U (aQ<|pv 0) (az (i:=2) Z40.nd U<|cr U)
  (ak<|bj<|ib PySem.F.plainAttrs_list PySem.F.slot_list_extend PySem.F.type_list_extend xQ (pv 1)<|ae (pv 2) ai))
  (ak<|ay<|aG (fX (w:=w) U U) U bl.sorted_ PJ<|ae (cj (qG (w:=w) U U) U bl.set_ KM<|ae (pv 1) ai) ai))),?_,)
 dsimp only[bw,RI,RH];show(let N:TS:=_;let O:TS:=aS _ N;aS _ O _ _ _);intro _ _;refine((by show 0<=Kk;decide),λnb k=>?_,);let p:aw H (upd H nb<|.lst []):=aj k _;let J:upd H nb (.lst []) nb=N8 (.lst [] ):=ag;generalize upd H nb (.lst [])=H0 at p J⊢;let C:∀(A:Oo (Oo Int))(x:Oo Int),(A++[x]).flatten=A.flatten++x:=λA x=>by rw[Re];simp
 refine(a,U,(_,RF<|p _ _ I,),(let I_:Nat->RJ:=λi o j=>aw H j/\j nb=N8 (.lst<|(b.take i).flatten.map ut)/\∃u:Option V,o=[↑a,↑nb,u];bA (xs:=Z.map mt) I_ (p,J,_,U,) (λi o j _ h=>RF<|h.1 _ _ I) (λi y o j e h=>?_) (λo j h=>?_)),)
 .let(g,c,u,rfl):=h;let(r,rfl,G):=oy e;let(xs,t):∃xs,b[i]?=N8 xs:=(_,JP (by rw[←d.1];exact(JQ.mp G).1),);let(r',n,D):=d.2 i xs t;rw[G]at n;cases n;let a0:(b.take i).flatten.length+⇑xs<=1000:=by
   let W:b.flatten=(b.take<|i+1).flatten++(b.drop<|i+1).flatten:=by rw[←Re,jN]
   let T:⇑((b.take<|i+1).flatten)<=⇑b.flatten:=by rw[W,cn];lia
   rw[take_snoc t,C,cn]at T;lia
  refine(.inl (U,_,RF c,),nb,r,_,_,U,U,c,g _ _ D,wx<|aC (by rw[aa,aa];lia),g.upd k,?_,_,U,);rw[ag,take_snoc t,C,fj]
 .let(g,c,u,rfl):=h;rw[aa,d.1,fm]at c;calc(nb,b.flatten,U,RF c,∅,λl v=>?_,);let B:=aj v<|vC w l b.flatten;calc(l,b.flatten,L,U,ag,∅,S,λD2 X m R mem=>?_,);calc q D2 X _ ((g.trans B).trans<|aj m _) (g.free<|B.free m) ag R mem
def Hu(F:Fun K "corner" "corner" Y36 f fd)(bl:Bl K mg Y):() 1 f fd ["box"] (lN K Y):=by
 refine F.okA Z36 λI A u s H J Q E L h=>?_
 let(b,B,rfl,(xs,y,z),M,q):=h;refine(_,(ak<|ay<|d6 (qY<|pv 0) (dE (N:=["low","high"]) (k:=2) U U (~~~0) (~~~0)<|~~~0) U (λ_ _ _ _=>(jv (K:=K) (n:=2) U U<|aF (az (i:=0) (show(["low","high"]:Oo Str).Nodup by decide+kernel) U (cr U) (v6 U)) (aF (az (i:=1) (show(["low","high"]:Oo Str).Nodup by decide+kernel) U (cr U) (v6 U)) bM))) (λ_ _ _ _=>b8) (λ_ _ _ _=>(pv 0))),?_,);let o:=⇑z
 refine(b,U,(_,RG y,),iW (xs:=xs) (λD i d c=>aw H c/\c D=N8 (.lst d)/\d=((B.take i).map (·.1)).map ut)
  (λD a=>(aj a _,ag,U,)) (λD i d c a _ h=>RG<|h.1 _ _ y) (λD i x d c a e h v r=>?_) (λD d c a h=>?_),)
 .let(l,m,rfl):=h;let hi:i<⇑xs:=(JQ.mp e).1;let(p,t,G,rfl,C):=z.get e;let(j,g,rfl):∃j g,v=[j,g]:=by
   match v,r with
   | [j,g],_=>exact(j,g,U,)
  calc(t,_,U,RG<|l _ _ C,U,_,_,U,_,_,U,U,([N8 (.int p.1),N8 (.int p.2)],U,U,),?_,);refine(df.mk hi m (aC (by rw[aa,aa,fI];lia)) (l.upd a,ag,?_,));rw[take_snoc G,fj,fj];rfl
 .let(l,m,rfl):=h;rw[o,fm]at m;calc q D c l a m
def Hv(F:Fun K "all_among" "all_among" Y29 f fd)(bl:Bl K mg Y):() 1 f fd ["text","signs"] (gB K Y):=by
 refine F.okA Z29 λr A m s H t Q E u h=>?_
 let(z,g,rfl,q):=h
 refine(_,(au (bz sB U (DB<|pv 0) (az (i:=2) Z29.nd U<|cr U)
  (ak (bx (aX qZ (pv 2) (pv 1) (by with_unfolding_all rfl))
  (ak<|ay m7)
  aM)))
  (ak<|ay m7)),?_,)
 dsimp only[bw,RI,RH];show(let o:TS:=_;aS _ o _ _ _);intro _;refine(z,U,(let p:Nat->RJ:=λi a l=>(∃k:Option V,a=[N8 (.str z),N8<|.str g,k])/\l=H/\(z.cps.toList.take i).all (sg g)=Oa;Bt p ((_,U,),U,U,) (λi c a l e h=>?_) (λa l h=>?_)),)
 .let((k,rfl),j,b):=h;rw[j];calc(_,_,U,U,_,U,?_,);refine eN (λd=>?_)<|λd=>?_
  .let n:sL z g=false:=DW e<|DX d;rw[n]at q;exact q
  .exact((_,U,),U,all_succ e (FO d) b,)
 .let((k,rfl),j,b):=h;rw[j];rw[Au b]at q;calc q
def Hw(F:Fun K "is_whole" "is_whole" Y43 f fd)(bl:Bl K mg Y):() 1 f fd ["value"] (fJ K Y):=by
 refine F.okA Z43 λb A a s H c Q E d h=>?_
 let(i,rfl,q):=h;calc(_,(ak<|ay<|gX (aG iT U bl.isinstance_ lw<|ae (pv 0)<|ae (mK (v:=.ty "int") U bl.int_ P3 U) ai)<|kT<|za<|aG iT U bl.isinstance_ lw<|ae (pv 0)<|ae (mK (v:=.ty "bool") U bl.bool_ PyProof.Rows.boot_bool U) ai),?_,);calc(_,_,_,_,Oa,U,.ty _,.inl<|.int _,(by first|rfl|with_unfolding_all rfl|decide+kernel),_,U,eU (_,_,_,_,Ob,U,.ty _,.inl<|.int _,(by first|rfl|with_unfolding_all rfl|decide+kernel),_,U,q,),)
def Hx(F:Fun K "refuse_counts" "refuse_counts" Y66 f fd)(bl:Bl K mg Y):() 1 f fd ["names","rows"] (dR K Y):=by
 refine F.okA Z67 λg A a s H j Q E l h=>?_
 let(p,r,b,i,rfl,e,d,n,m,k,q):=h
 refine(_,(au (bx (eA<|gZ fU fU aq (aG aI U bl.len_ N7<|ae (pv 0) ai)<|md U bl.MOST_COLUMNS_)
  (ak cX)
  aM)
  (ak (bx (aX ni (aG aI U bl.len_ N7<|ae (pv 1) ai) (md U bl.MOST_ROWS_)<|bg _)
  (ak cX)
  aM))),?_,)
 dsimp only[bw,RI,RH];show(let c:TS:=_;aS _ c _ _ _);intro _;calc(p,_,U,.inl<|e,_,_,U,U,_,U,qC ∅ ?_,);calc(_,_,U,U,_,U,?_,);rw[Oh (show((⇑b:Nat):Int)<=4 by lia)];calc dY ?_;calc(r,_,U,.inl<|d,_,_,U,U,_,U,mh ∅ q,)
def Hy(F:Fun K "own_row" "own_row" Y60 f fd)(bl:Bl K mg Y):() 1 f fd ["cells","code"] (jH K Y):=by
 refine F.okA Z60 λS A y s H T Q E W h=>?_
 let(cl,xs,G,rfl,B,t,X,q):=h;refine(_,(ak<|ay<|bo<|ae (dW (aQ<|pv 0) (fw U (~~~0) (~~~0) (~~~0) U) U (λ_ _ _ _=>b8)<|λ_ _ _ _=>(cj (pP (K:=K) U) U bl.list_ GT<|ae (pv 0) ai))<|ae (pv 1) ai),?_,)
 refine(cl,U,(_,RF B,),dO (xs:=xs) (λD i g d=>aw H d/\d D=N8 (.lst g)/\CL (Fr H D) d g (G.1.take i))
  (λD m=>(aj m _,ag,aJ.nil,)) (λD i g d m _ h=>RF<|h.1 _ _ B) (λD i x g d m e h=>?_) (λD g d m h=>?_),)
 .let(k,u,p):=h;let(l,V,rfl,O,M):=aJ.get t e;let(_,n,R,L):=M.same k;let hi:i<⇑xs:=(JQ.mp e).1;let v:⇑g<Kk:=by
   let N:=p.1;rw[fI]at N;exact aC ∅
  calc(l,_,U,.inl<|RF R,λo c=>?_,);let s2:=aj c<|.lst n;let C:upd d o (.lst n) o=N8 (.lst n):=ag;let j:=s2 _ _ u;generalize upd d o (.lst n)=H2 at s2 C j⊢;let J:H o=none:=k.free c;let I:o≠D:=λz=>by rw[z,u]at c;cases c
  calc df.mk hi j v ((k.trans s2).upd m,ag,?_,);rw[take_snoc O];exact CL.updN (aJ.snoc (p.same s2) ((J,I,),n,C,L.mono s2.tups,)) Fr.out j
 .let(k,u,p):=h;rw[t.1,fm]at p;calc(dh,λr b=>q r _ (k.trans<|aj b _) (k.free b) (D,g,ag,m,aj b _ _ _ u,?_,),);calc(p.same<|aj b _).wk λa h=>h.1
def Hz(F:Fun K "table_bounds" "table_bounds" Y72 f fd)(bl:Bl K mg Y):() 1 f fd ["table"] (cz K Y):=by
 refine F.okA Z74 λa3 A I s H vs Q E hr h=>?_
 let(t,x,bs,Z,rfl,(rl,dx,W,fs,xs,M,f1,S,p,o,a1,hR),hb,q):=h;calc(_,(ak<|ay<|dW (aQ<|cc (pv 0) U) (fw U (~~~0) (~~~0) (~~~0) U) U (λ_ _ _ _=>b8)<|λ_ _ _ _=>(bo<|ae (mQ (K:=K) U (pv 0) U)<|ae (mQ (K:=K) U (pv 0) U) ai)),?_,);let G:⇑x=⇑bs:=o.1;refine(t,_,_,_,_,U,M,bl.k_Table,bl.na_Table_domains,S,W,U,(_,RF p,),(let X:Ki->Nat->Oo V->RK:=λD i j c=>aw H c/\c D=N8 (.lst j)/\PL c j (bs.take i);dO (xs:=x) X (λD k=>(aj k _,ag,.nil,)) (λD i j c k _ h=>RF<|h.1 _ _ p) (λD i y j c k e h=>?_) (λD j c k h=>?_)),)
 .let(l,v,m):=h;let(a,b,rfl,T,C,N,a2,a0,J,R,O,_):=aJ.get o e;let hi:i<⇑x:=(JQ.mp e).1;let u:Cls K C/\NoAttr K C s!"low"/\NoAttr K C s!"high":=by
   rcases N with rfl|rfl
   .exact(bl.k_Numbers,bl.na_Numbers_low,bl.na_Numbers_high,)
   .exact(bl.k_Words,bl.na_Words_low,bl.na_Words_high,)
  calc(a,_,_,_,_,U,l _ _ J,u.1,u.2.1,R,a,_,_,_,_,U,l _ _ J,u.1,u.2.2,O,dh,λg B=>?_,);let r:=aj B<|.tup [.int b.1,.int b.2];let L:upd c g (.tup [.int b.1,.int b.2]) g=N8 (.tup [.int b.1,.int b.2]):=ag;let d:=r _ _ v;let n:=m.mono r.tups;generalize upd c g (.tup [.int b.1,.int b.2])=H4 at r L d n⊢;let z:=⇑m;rw[fI]at z;calc df.mk hi d (aC ∅) ((l.trans r).upd k,ag,?_,);rw[take_snoc T];exact(n.mono<|aR d).snoc (aR d _ _ L)
 .let(l,v,m):=h;rw[G,fm]at m;calc q D j c l k v m
def HA(F:Fun K "with_pair" "with_pair" Y77 f fd)(bl:Bl K mg Y):() 1 f fd ["box","column","pair"] (gC K Y):=by
 refine F.okA Z80 λI A g s H J Q E L h=>?_
 let(b,p,B,c,lo,hi,rfl,(a,m,l),y,C,M,q):=h;calc(_,(ak<|ay<|aD nH (aD nH (hV vc (pv 0) kh<|ki<|pv 1)<|bo<|ae (pv 2) ai)<|hV vc (pv 0) (ki<|aD bN (pv 1) aq) kh),?_,);let G:=⇑l;let u:¬ (HT.sIx ⇑a 0 N9=0/\HT.sIx ⇑a ⇑a (N8 (c:Int))=⇑a):=λz=>by
  let:=z.2;rw[HT.sIx_nat]at this;lia
 let t:¬ (HT.sIx ⇑a 0 (N8<|(c:Int)+1)=0/\HT.sIx ⇑a ⇑a N9=⇑a):=λz=>by
  let:=z.1;rw[show(c:Int)+1=((c+1:Nat):Int) by lia,HT.sIx_nat]at this;lia
 calc(_,U,b,a,U,RG m,u,λS n1=>?_,);rw[B3 a ∅];refine((by show 1<=Kk;decide),λR k=>oz (by rw[av (aV ag k)];exact ag) ag (wx<|aC (by rw[fI];simp;lia)) λO T x n=>?_,);let i:=((aj n1 _).trans<|aj k _).trans x;calc(_,_,U,U,_,U,b,a,U,RG<|i _ _ m,t,λN j=>?_,);rw[show(c:Int)+1=((c+1:Nat):Int) by lia,yC a ∅];refine oz (by rw[av (aV n j)];exact n) ag (wx<|aC (by rw[cn,fI,ny];simp;lia)) λr o v D=>?_
 let e:=(i.trans<|aj j _).trans v;calc q r o e (_,D,?_,);rw[←yD C];let d:PL o a B:=l.mono e.tups;calc((Ee d c).app<|.cons (p,U,e _ _ y,) .nil).app (Ef d<|c+1)
def HB(F:Fun K "refuse_blocks" "refuse_blocks" Y65 f fd)(bl:Bl K mg Y)  : aH P w K mg base (CX1 P w) 1 f fd ["marks"] (dS K Y):=by
 refine F.okEA Z66 λT A v s H W Q E J h=>?_
 let(n,C,a,rfl,d,o,e,R,I,q):=h
 refine(_,(au (aK (i:=1) Z66.nd U (cr U) aq)
  (au (bz (qy U U U) U (aQ<|pv 0) (az (i:=2) Z66.nd U<|cr U)
  (ak<|uO (i:=1) Z66.nd U (cr U) (aD mL (aD dq (aD bN (aG aI U bl.len_ N7<|ae (pv 2) ai) aq)<|aD bN (aG aI U bl.len_ N7<|ae (pv 2) ai) aq) aq) Ac))
  (ak (bx (aX ni (pv 1) (md U bl.MOST_BLOCKS_)<|bg _)
  (ak<|qz bl.x_TooFine J.hd U bl.TooFine_<|ae bI ai)
  aM)))),?_,)
 dsimp only[bw,RI,RH];show(let D:TS:=_;let G:TS:=aS _ D;aS _ G _ _ _);intro _ _;refine(n,U,(_,RF d,),(let M:Nat->RJ:=λi k m=>m=H/\∃t:Option V,k=[↑n,N8<|.int ((dJ a i:Nat):Int),t];bA (xs:=C.map mt) M (U,_,U,) (λi k m _ h=>by rw[h.1];exact RF d) (λi y k m L h=>?_) (λk m h=>?_)),)
 .let(p,t,rfl):=h;rw[p];let(r,rfl,B):=oy L;let(b,l):∃b,a[i]?=N8 b:=(_,JP (by rw[←o.1];exact(JQ.mp B).1),);let(X,j,c):=o.2 i b l;rw[B]at j;cases j;let h9:=e b<|JR l;let S:i<4:=by have:=(JQ.mp l).1;lia
  let Z:=xw e i;let O:1891^i<=1891^4:=Pt ⋯ ∅;let N:(1891:Nat)^4<2^50:=⋯
  let x:⇑(b.map ut)=⇑b:=aa ..;refine(_,U,r,_,U,.inl<|RF c,_,_,U,U,r,_,U,.inl<|RF c,_,_,U,U,_,_,U,U,(.inl (by rw[x];lia)),_,_,U,U,(by unfold ES;decide),_,_,U,U,zi.ok<|.inl (∅,∅,),U,↑r,?_,);rw[x,i4 l];show[N8 (mt n),N8<|.int<|((dJ a i:Nat):Int)*((((⇑b:Nat):Int)+1)*(((⇑b:Nat):Int)+2) / 2),↑r]=_;rw[JX,Int.natCast_ediv,JX];rfl
 .let(p,t,rfl):=h;rw[p];let u:⇑(C.map mt)=⇑a:=by rw[aa];exact o.1
  rw[u];refine(_,_,U,U,_,U,eN (λg=>?_)<|λg=>?_,)
  .let g:((dJ a ⇑a:Nat):Int)>600:=Oj g;exact((by show 1<=Kk;decide),I ∅ H (aw.refl _),)
  .let g:¬ ((dJ a ⇑a:Nat):Int)>600:=λz=>g<|Oh z
   calc q ∅
def HC(F:Fun K "pairs_of" "pairs_of" Y61 f fd)(bl:Bl K mg Y):() 1 f fd ["parts"] (iC K Y):=by
 refine F.okA Z61 λa4 A W s H vs Q E hr h=>?_
 let(l,g,b,rfl,G,J,T,q):=h
 refine(_,(au (aK (i:=1) Z61.nd U (cr U)<|aW ai)
  (au (bz sB U (eQ U bl.range_<|ae (aG aI U bl.len_ N7<|ae (pv 0) ai) ai) (az (i:=2) Z61.nd U<|cr U)
  (ak (bz sB U (eQ U bl.range_<|ae (aD eR (aG aI U bl.len_ N7<|ae (pv 0) ai)<|pv 2) ai) (az (i:=3) Z61.nd U<|cr U)
  (ak<|bj<|ib PySem.F.plainAttrs_list PySem.F.slot_list_append PySem.F.type_list_append bY (pv 1)<|ae (bo<|ae (aP bL (aP b7 (pv 0) (pv 3)<|λ_ _=>U) aq<|λ_ _=>U)<|ae (aP bL (aP b7 (pv 0) (aD bN (pv 3)<|pv 2)<|λ_ _=>U) aq<|λ_ _=>U) ai) ai))))
  (ak<|ay<|pv 1))),?_,)
 dsimp only[bw,RI,RH];show(let C:TS:=_;let D:TS:=aS _ C;aS _ D _ _ _);intro _ _;let y:=J.length;refine((by show 0<=Kk;decide),λnb r=>?_,);let I:aw H (upd H nb<|.lst []):=aj r _;let Z:upd H nb (.lst []) nb=N8 (.lst []):=ag;generalize upd H nb (.lst [])=H0 at I Z⊢;refine(l,_,U,.inl<|RF<|I _ _ G,_,U,(by show -(2^62)<=((⇑g:Nat):Int);lia),(by show((⇑g:Nat):Int)<2^62;lia),(let N:Nat->RJ:=λd k p=>aw H p/\E3 λ(x:Oo V)(M n:Option V)=>A3 (p nb=N8 (.lst x)) (PL p x<|kG b d)<|k=[↑l,↑nb,M,n];iR N (I,[],_,_,Z,.nil,U,) (λd k R hd m=>?_) (λk R m=>?_)),)
 .let(B,j,M,n,L,e,rfl):=m;let hd:d<⇑g:=hd;refine(l,_,U,.inl<|RF<|B _ _ G,_,_,U,U,((⇑g-d:Nat):Int),(by rw[show((⇑g:Nat):Int)-(0+(d:Int))=((⇑g-d:Nat):Int) by lia]),∅,∅,(let N:Nat->RJ:=λi k p=>aw H p/\E2 λ(x:Oo V)(n:Option V)=>A3 (p nb=N8 (.lst x)) (PL p x<|kG b d++kF b d i)<|k=[↑l,↑nb,N8<|.int<|0+(d:Int),n];iR N (B,j,_,L,by rw[show kF b d 0=[]from U,iI];exact e,U,) (λi k O hi m=>?_) (λk O m=>?_)),)
  .let(s2,a,n,v,c,rfl):=m;let hi:i<⇑g-d:=hi;let(D,a1,g1):=Eg J (i:=i) ∅;let(C,a2,g2):=Eg J (i:=i+d) ∅;let b1:atI g (0+(i:Int))=↑D:=by rw[show 0+(i:Int)=(i:Int) by lia];exact cP a1
   let b2:atI g (0+(i:Int)+(0+(d:Int)))=↑C:=by rw[show 0+(i:Int)+(0+(d:Int))=((i+d:Nat):Int) by lia];exact cP a2
   refine(.inl (U,_,RF v,),l,_,_,_,U,U,RF<|s2 _ _ G,b1,D,_,_,_,U,U,RG<|s2 _ _ g1,U,_,_,U,U,l,_,_,_,U,U,RF<|s2 _ _ G,b2,C,_,_,_,U,U,RG<|s2 _ _ g2,U,(by show 2<=Kk;decide),λt u=>?_,);let X:upd O t (.tup [.int (b.getD i (0,0)).1,.int (b.getD (i+d) (0,0)).2]) nb=N8 (.lst a):=by rw[av (aV v u)];exact v
   let S:=⇑c;let a0:=AG b d;let a3:d*⇑b<=30*30:=A8 ∅ T;rw[cn,oE]at S;calc(nb,a,_,U,U,X,aC ∅,?_,);let st:=(lh u (o:=.tup [.int (b.getD i (0,0)).1,.int (b.getD (i+d) (0,0)).2])).trans<|aR X (o:=.lst<|a++[.ref t]);calc((s2.trans<|aj u _).upd r,a++[.ref t],_,ag,?_,U,);rw[yE,←hZ];exact(c.mono st).snoc (by rw[av (λz=>by rw[z]at u;rw[v]at u;cases u)];exact ag)
  .let(s2,a,n,v,c,rfl):=m;let c:PL O a (kG b d++kF b d (⇑g-d)):=c;exact(s2,a,_,_,v,by rw[lK,←y];exact c,U,)
 .let(B,j,M,n,L,e,rfl):=m;let e:PL R j (kG b ⇑g):=e;rw[y]at e;calc(q nb j R B r L e)
def HD(F:Fun K "with_column" "with_column" Y76 f fd)(bl:Bl K mg Y):() 1 f fd ["blocks","pairs"] (fc K Y):=by
 refine F.okA Z79 λa7 A a5 s H vs Q E hr h=>?_
 let(v,R,us,xs,L,a,rfl,G,hB,h5,D,hP,hm,q):=h
 refine(_,(au (aK (i:=2) Z79.nd U (cr U)<|aW ai)
  (au (bz sB U (aQ<|pv 0) (az (i:=3) Z79.nd U<|cr U)
  (ak (bz sB U (aQ<|pv 1) (az (i:=4) Z79.nd U<|cr U)
  (ak<|bj<|ib PySem.F.plainAttrs_list PySem.F.slot_list_append PySem.F.type_list_append bY (pv 2)<|ae (aD nH (pv 3)<|bo<|ae (pv 4) ai) ai))))
  (ak<|ay<|pv 2))),?_,)
 dsimp only[bw,RI,RH];show(let r2:TS:=_;let r1:TS:=aS _ r2;aS _ r1 _ _ _);intro _ _;let a0:=⇑hP;let a1:=hB.1;refine((by show 0<=Kk;decide),λnb o=>?_,);let O:aw H (upd H nb<|.lst []):=aj o _;let e0:upd H nb (.lst []) nb=N8 (.lst []):=ag;generalize upd H nb (.lst [])=H0 at O e0⊢;refine(v,U,(_,RF<|O _ _ G,),(let X:Nat->RJ:=λi e g=>aw H g/\E3 λ(x:Oo V)(W m:Option V)=>A3 (g nb=N8 (.lst x)) (BkL g x<|wid (L.take i) a)<|e=[↑v,↑R,↑nb,W,m];bA (xs:=us) X (O,[],_,_,e0,aJ.nil,U,) (λi e g _ h=>RF<|h.1 _ _ G) (λi y e H1 ey l=>?_) (λe H1 l=>?_)),)
 .let(I,n,W,m,T,k,rfl):=l;let(b,B,rfl,S,ub,a2,F5):=aJ.get hB ey;let hi:i<L.length:=(JQ.mp S).1;let a6:=h5 B<|JR S;let C:=rT (L.take i) a;let a3:(i+1)*⇑a<=1000:=vr (Nat.mul_le_mul_right _ hi) hm;rw[Fl]at a3;rw[fI,yT (wx hi)]at C;refine(R,U,(_,RF<|I _ _ D,),(let X:Nat->RJ:=λj e g=>aw H g/\E2 λ(x:Oo V)(m:Option V)=>A3 (g nb=N8 (.lst x)) (BkL g x<|wid (L.take i) a++lJ B (a.take j))<|e=[↑v,↑R,↑nb,↑b,m];bA (xs:=xs) X (I,n,_,T,by rw[show lJ B (a.take 0)=[]from U,iI];exact k,U,) (λj e g _ h=>RF<|h.1 _ _ D) (λj y e H2 a4 l=>?_) (λe H2 l=>?_)),)
  .let(s2,c,m,J,d,rfl):=l;let(p,t,ep,rfl,ht):=hP.get a4;let hj:j<⇑a:=(JQ.mp ep).1;refine(.inl (U,_,RF J,),(by show 1<=Kk;decide),λt1 n1=>?_,);let u1:=aj n1<|.tup [.ref t];refine oz ((s2.trans u1) _ _ a2) ag (wx<|aC (by rw[F5.length,il];lia)) λr H4 s4 e4=>?_
   let M:=u1.trans s4;let u:=M _ _ J;let Z:=d.1;rw[cn,C,show⇑(lJ B<|a.take j)=⇑(a.take j) from aa ..,fI]at Z;calc(nb,c,_,U,U,u,aC ∅,(s2.trans M).upd o,c++[.ref r],_,ag,?_,U,);let N:bG H2 (upd H4 nb<|.lst<|c++[.ref r]):=M.tups.trans<|aR u;rw[show lJ B (a.take<|j+1)=lJ B (a.take j)++[B++[p]] by unfold lJ;rw[take_snoc ep,fj];rfl,←hZ];calc aJ.snoc (d.mono λ_ _ z=>BxA.mono z N) (_,aR u _ _ e4,?_,);exact(F5.mono<|s2.tups.trans N).app (.cons (t,U,N _ _<|s2 _ _ ht,) .nil)
  .let(s2,c,m,J,d,rfl):=l;rw[a0,fm,←AF S]at d;exact(s2,c,_,_,J,d,U,)
 .let(I,n,W,m,T,k,rfl):=l;rw[a1,fm]at k;calc(q nb n H1 I o T k)
def HE(F:Fun K "_law_at" "_law_at" Y47 f fd)(bl:Bl K mg Y):() 1 f fd ["script","k"] (dU K Y):=by
 refine F.okA Z47 λn A g s H o Q E p h=>?_
 let(a,b,k,rfl,j,r,q):=h
 refine(_,(au (bx (aX nh (pv 1) (aG aI U bl.len_ N7<|ae (pv 0) ai)<|bg _)
  (ak<|ay<|aP b7 (pv 0) (pv 1)<|λ_ _=>U)
  aM)
  (ak<|ay aq)),?_,)
 dsimp only[bw,RI,RH];show(let l:TS:=_;aS _ l _ _ _);intro _;calc(a,_,U,.inl j,_,_,U,U,_,U,?_,);refine eN (λc=>?_)<|λc=>?_
 .let e:k<((⇑(b.map ut):Nat):Int):=l0 c;rw[aa]at e;let i:k.toNat<⇑b:=∅
  let d:eZ b k=b[k.toNat]:=by unfold eZ;rw[cO,JP i];rfl
  let m:atI (b.map ut) k=N8 (.int b[k.toNat]):=by
   let z:atI (b.map ut) ((k.toNat:Nat):Int)=N8 (.int b[k.toNat]):=cP (by rw[dr,JP i];rfl);rw[show((k.toNat:Nat):Int)=k by lia]at z;exact z
  rw[d]at q;exact(a,_,_,_,U,U,j,m,q,)
 .let e:=l7 c;rw[aa]at e;let d:eZ b k=0:=by unfold eZ;rw[cO,lY ∅];rfl
  rw[d]at q;calc q
def HF(F:Fun K "_law_low" "_law_low" Y49 f fd)(bl:Bl K mg Y):() 1 f fd ["cell"] (gD K Y):=by
 refine F.okA Z49 λd A a s H e Q E g h=>?_
 let(c,rfl,b,q):=h;calc(_,(ak<|ay<|aD eR (aD bJ (aD wR (pv 0)<|aD m9 aq aq)<|aD m9 aq aq)<|aD dq aq<|aD m9 aq aq),?_,);calc(_,_,U,U,(⋯,⋯,⋯,),_,_,U,U,PySem.IntMulOk.of_bits b<|~~~0,_,_,U,U,(⋯,⋯,⋯,),_,_,U,U,(by show(0:Int)<10^(40:Int).toNat;decide),_,_,U,U,(⋯,⋯,⋯,),_,_,U,U,.inl (⋯,⋯,),_,_,U,U,q,)
def O_0(F:Fun K "__init__" "Domain.__init__" Y0 f fd)(bl:Bl K mg Y):() 1 f fd ["self","low","high"] (bR K Y):=by
 refine F.okA Z0 λe A b s H g Q E i h=>?_
 let(x,a,lo,hi,rfl,d,q):=h
 refine(_,(au (dz (pv 0) (pv 1) U)
  (ak<|dz (pv 0) (pv 2) U)),?_,)
 dsimp only[bw,RI,RH];show(let c:TS:=_;aS _ c _ _ _);intro _;refine(x,_,a,_,U,d,bl.k_Numbers,bl.na_Numbers_low,(by show 0<1000;decide),x,_,a,_,U,ag,bl.k_Numbers,bl.na_Numbers_high,(by show 1<1000;decide),?_,);show Q .non (upd (upd H x<|.ins Y.l a [("low",.int lo)]) x<|.ins Y.l a<|bK "high" (.int hi) [("low",.int lo)]);rw[put2];calc q
def HG(F:Fun K "__init__" "Way.__init__" Y17 f fd)(bl:Bl K mg Y):() 1 f fd ["self","called"] (cD K Y):=by
 refine F.okA Z17 λd A a s H e Q E g h=>?_
 let(x,c,z,rfl,b,q):=h;calc(_,(ak<|dz (pv 0) (pv 1) U),?_,);calc(x,_,c,_,U,b,bl.k_First,bl.na_First_called,(by show 0<1000;decide),q,)
def HH(F:Fun K "__init__" "Way.__init__" Y21 f fd)(bl:Bl K mg Y):() 1 f fd ["self","called"] (cI K Y):=by
 refine F.okA Z21 λd A a s H e Q E g h=>?_
 let(x,c,z,rfl,b,q):=h;calc(_,(ak<|dz (pv 0) (pv 1) U),?_,);calc(x,_,c,_,U,b,bl.k_Only,bl.na_Only_called,(by show 0<1000;decide),q,)
def HI(F:Fun K "__init__" "Way.__init__" Y19 f fd)(bl:Bl K mg Y):() 1 f fd ["self","called"] (cJ K Y):=by
 refine F.okA Z19 λd A a s H e Q E g h=>?_
 let(x,c,z,rfl,b,q):=h;calc(_,(ak<|dz (pv 0) (pv 1) U),?_,);calc(x,_,c,_,U,b,bl.k_Like,bl.na_Like_called,(by show 0<1000;decide),q,)
def HJ(F:Fun K "__init__" "Way.__init__" Y20 f fd)(bl:Bl K mg Y):() 1 f fd ["self","called"] (cU K Y):=by
 refine F.okA Z20 λd A a s H e Q E g h=>?_
 let(x,c,z,rfl,b,q):=h;calc(_,(ak<|dz (pv 0) (pv 1) U),?_,);calc(x,_,c,_,U,b,bl.k_Low,bl.na_Low_called,(by show 0<1000;decide),q,)
def HK(F:Fun K "__init__" "Way.__init__" Y18 f fd)(bl:Bl K mg Y):() 1 f fd ["self","called"] (cK K Y):=by
 refine F.okA Z18 λd A a s H e Q E g h=>?_
 let(x,c,z,rfl,b,q):=h;calc(_,(ak<|dz (pv 0) (pv 1) U),?_,);calc(x,_,c,_,U,b,bl.k_High,bl.na_High_called,(by show 0<1000;decide),q,)
def HL(F:Fun K "__init__" "Way.__init__" Y22 f fd)(bl:Bl K mg Y):() 1 f fd ["self","called"] (cV K Y):=by
 refine F.okA Z22 λd A a s H e Q E g h=>?_
 let(x,c,z,rfl,b,q):=h;calc(_,(ak<|dz (pv 0) (pv 1) U),?_,);calc(x,_,c,_,U,b,bl.k_Sum,bl.na_Sum_called,(by show 0<1000;decide),q,)
def O_4(F:Fun K "chosen" "First.chosen" Y4 f fd)(bl:Bl K mg Y):() 1 f fd ["self","codes","outcome"] (J1 K Y):=by
 refine F.ok Z4 (λi H Q E h=>?_)<|λr A d s H i Q E u h=>?_
 .let(x,c,o,n,e,b,rfl,(p,z,j),l,a,g,m,q):=h;rfl
 let(x,c,o,n,e,b,rfl,(p,z,j),l,a,g,m,q):=h;calc(_,(ak<|ay<|bo<|ae bI<|ae (aP b7 (pv 1) aq<|λ_ _=>U) ai),?_,);calc(c,_,_,_,U,U,g,at0 n e,dh,λt k=>q t _ (aj k _)<|.inl ag,)
def HM(F:Fun K "chosen" "Only.chosen" Y13 f fd)(bl:Bl K mg Y):() 1 f fd ["self","codes","outcome"] (J9 K Y):=by
 refine F.ok Z13 (λl H Q E h=>?_)<|λC A k s H l Q E D h=>?_
 .let(x,c,o,n,a,b,rfl,(B,z,m),u,j,d,y,q):=h;rfl
 let(x,c,o,n,a,b,rfl,(B,z,m),u,j,d,y,q):=h;calc(_,(ak<|ay<|m8 (aX eS (aG aI U bl.len_ N7<|ae (pv 1) ai) aq<|bg _) (bo<|ae bI<|ae (aP b7 (pv 1) aq<|λ_ _=>U) ai)<|c9 (v:=.ref Y.p) U bl.CLASH_ U),?_,);calc(c,_,U,.inl<|d,U,_,U,?_,);refine eN (λg=>?_)<|λg=>?_
 .let e:wf 1 b.1 b.2 (n :: a)=say n:=by
   let i:=l0 g;simp at i;show t8 _=_;unfold t8;rw[Of (by rw[en];lia)];rfl
  rw[e]at q;exact(c,_,_,_,U,U,d,at0 n a,dh,λt r=>q t _ (aj r _)<|.inl ag,)
 .let e:wf 1 b.1 b.2 (n :: a)=xj:=by
   let i:=l7 g;simp at i;show t8 _=_;unfold t8;rw[Oe (by rw[en];lia)]
  rw[e]at q;calc q _ _ (aw.refl _)<|.inr bl.q_CLASH
def O_8(F:Fun K "chosen" "Like.chosen" Y8 f fd)(bl:Bl K mg Y):() 1 f fd ["self","codes","outcome"] (J5 K Y):=by
 refine F.ok Z8 (λy H Q E h=>?_)<|λL A m s H y Q E M h=>?_
 .let(x,c,o,n,a,b,rfl,(J,z,B),D,k,i,G,q):=h;rfl
 let(x,c,o,n,a,b,rfl,(J,z,B),D,k,i,G,q):=h;calc(_,(ak<|ay<|m8 (aX eS (aG pO U bl.len_ N7<|ae (cj (pN U) U bl.set_ KM<|ae (pv 1) ai) ai) aq<|bg _) (bo<|ae bI<|ae (aP b7 (pv 1) aq<|λ_ _=>U) ai)<|c9 (v:=.ref Y.p) U bl.CLASH_ U),?_,);refine(c,_,U,i,(by rw[en];lia),λl I=>?_,);refine(l,_,U,ag,(by rw[en];lia),U,_,U,?_,);let d:aw H (upd H l<|By P w l (n :: a)):=aj I _;refine eN (λg=>?_)<|λg=>?_
 .let u:ut _=ut _:=l0 g;let j:cntK (n :: a) ⇑(n :: a)=1:=by injection u with u;lia
  let r:=qB.mp j;let e:wf 2 b.1 b.2 (n :: a)=say n:=by
   show t7 _=_;unfold t7;rw[Of (qK.mp r),yz r]
  rw[e]at q;exact(c,_,_,_,U,U,d.seq i,at0 n a,dh,λt C=>q t _ (d.trans<|aj C _)<|.inl ag,)
 .let j:¬ cntK (n :: a) ⇑(n :: a)=1:=λz=>(l7 g) (by rw[z];rfl)
  let e:wf 2 b.1 b.2 (n :: a)=xj:=by
   show t7 _=_;unfold t7;rw[Oe λz=>j (qB.mpr<|qK.mpr z)]
  rw[e]at q;calc q _ _ d<|.inr bl.q_CLASH
def HN(F:Fun K "chosen" "Low.chosen" Y10 f fd)(bl:Bl K mg Y):() 1 f fd ["self","codes","outcome"] (J7 K Y):=by
 refine F.ok Z10 (λg H Q E h=>?_)<|λy A d s H g Q E B h=>?_
 .let(x,c,o,n,i,b,rfl,(v,z,j),l,a,e,p,q):=h;rfl
 let(x,c,o,n,i,b,rfl,(v,z,j),l,a,e,p,q):=h;calc(_,(ak<|ay<|bo<|ae bI<|ae (aG (pL U) U bl.min_ OY<|ae (pv 1) ai) ai),?_,);calc(c,_,U,e,CB _,λm u r=>(dh,λt k=>q t _ (aj k _)<|.inl ?_,),);rw[ag,Aw u r];rfl
def O_6(F:Fun K "chosen" "High.chosen" Y6 f fd)(bl:Bl K mg Y):() 1 f fd ["self","codes","outcome"] (J3 K Y):=by
 refine F.ok Z6 (λg H Q E h=>?_)<|λy A d s H g Q E B h=>?_
 .let(x,c,o,n,i,b,rfl,(v,z,j),l,a,e,p,q):=h;rfl
 let(x,c,o,n,i,b,rfl,(v,z,j),l,a,e,p,q):=h;calc(_,(ak<|ay<|bo<|ae bI<|ae (aG (pM U) U bl.max_ OZ<|ae (pv 1) ai) ai),?_,);calc(c,_,U,e,CB _,λm u r=>(dh,λt k=>q t _ (aj k _)<|.inl ?_,),);rw[ag,Ax u r];rfl
def HP(F:Fun K "chosen" "Sum.chosen" Y15 f fd)(bl:Bl K mg Y):() 1 f fd ["self","codes","outcome"] (J11 K Y):=by
 refine F.ok Z15 (λr H Q E h=>?_)<|λG A l s H r Q E I h=>?_
 .let(x,c,o,n,a,b,rfl,(D,z,u),(C,p,B,fs,j,d,g,_),k,m,y,q):=h;rfl
 let(x,c,o,n,a,b,rfl,(D,z,u),(C,p,B,fs,j,d,g,_),k,m,y,q):=h;calc(_,(ak<|ay<|bo<|ae bI<|ae (aG (p9 U) U bl.max_ OZ<|ae (cc (pv 2) U)<|ae (aG (qc U) U bl.min_ OY<|ae (cc (pv 2) U)<|ae (aG (jw U) U bl.sum_ P2<|ae (pv 1) ai) ai) ai) ai),?_,);let i:Cls K C/\NoAttr K C s!"low"/\NoAttr K C s!"high":=by
  rcases p with rfl|rfl
  .exact(bl.k_Numbers,bl.na_Numbers_low,bl.na_Numbers_high,)
  .exact(bl.k_Words,bl.na_Words_low,bl.na_Words_high,)
 calc(o,_,_,_,_,U,j,i.1,i.2.1,d,o,_,_,_,_,U,j,i.1,i.2.2,g,c,_,U,m,_,_,U,_,_,U,?_,);calc(dh,λt v=>q t _ (aj v _)<|.inl ?_,);rw[ag];let e:near b.1 b.2 (n :: a).sum=if (if (n :: a).sum<b.2 then(n :: a).sum else b.2)>b.1 then(if (n :: a).sum<b.2 then(n :: a).sum else b.2)else b.1:=by
  unfold near;generalize (n :: a).sum=t;split <;> split <;> split <;> first|rfl|lia|(split <;> lia)
 show _=N8 (HO.tup<|tp<|say<|near b.1 b.2 (n :: a).sum);rw[e];rfl
def HQ(F:Fun K "cut_columns" "cut_columns" Y37 f fd)(bl:Bl K mg Y)(iG:⟨⟩ 1 "stretches" ["low","high","marks"] (eP K Y)):() 2 f fd ["bounds","marks"] (dF K Y):=by
 refine F.okA Z37 λc3 A b3 s H vs Q E hr h=>?_
 let(a,b,ys,ps,as,R,rfl,ha,hP,hb,hM,hok,q):=h;refine(_,(ak<|ay<|d6 (rj U bl.zip_<|ae (pv 0)<|ae (pv 1) ai) (dE (N:=["bound","cuts"]) (k:=2) U U (~~~0) (~~~0)<|~~~0) U (λ_ _ _ _=>(jv (K:=K) (n:=2) U U<|aF (az (i:=0) (show(["bound","cuts"]:Oo Str).Nodup by decide+kernel) U (cr U) (v6 U)) (aF (az (i:=1) (show(["bound","cuts"]:Oo Str).Nodup by decide+kernel) U (cr U) (v6 U)) bM))) (λ_ _ _ _=>b8) (λ_ _ _ _=>(aL iG hr U<|ae (aP (mO (K:=K) U) (pv 0) aq<|λ_ _=>U)<|ae (aP (mO (K:=K) U) (pv 0) aq<|λ_ _=>U)<|ae (pv 1) ai))),?_,);let(b5,b4,a1):=hok;let b6:=⇑hP;let c2:=hM.1
 refine(a,b,U,(_,RF ha,),(_,RF hb,),yi (xs:=ys) (ys:=as.map mt) (λD i C B=>aw H B/\B D=N8 (.lst C)/\∃d:Oo (Oo Int),⇑d=i/\(∀(j:Nat)(p:Int×Int)(v l:Oo Int),ps[j]?=N8 p->R[j]?=N8 v->d[j]?=N8 l->l.Pairwise (· < ·)/\(∀c,c∈l↔(c∈v/\p.1<c/\c<=p.2))/\⇑l<=400)/\aJ C (kt (λp l=>aU p.1 p.2 l) (ps.take i) d) (λr c=>r≠D/\∃g,B r=N8 (.lst g)/\PL B g c))
  (λD O=>(aj O _,ag,[],U,(λj p v l _ _ e=>by simp at e),aJ.nil,)) (λD i C B O _ h=>(RF<|h.1 _ _ ha,RF<|h.1 _ _ hb,)) (λD i x y C B T O ex ey h hT g a5=>?_) (λD C B O h=>?_),)
 .let(sm,eD,d,o,J,M):=h;let(p,t,ep,rfl,ht):=hP.get ex;let(r,rfl,er):=oy ey;let hi:i<⇑as:=(JQ.mp er).1;let(v,em):∃v,R[i]?=N8 v:=(_,JP ∅,);let(r',W,hr):=hM.2 i v em;rw[er]at W;cases W;let s2:=sm.trans<|aj hT<|.tup [.ref t,.ref r];let eT:upd B T (.tup [.ref t,.ref r]) T=N8 (.tup [.ref t,.ref r]):=ag;let Z:=aj hT<|.tup [.ref t,.ref r];let L:=Z _ _ eD;generalize upd B T (.tup [.ref t,.ref r])=H2 at s2 eT L Z⊢;let(t0,t1,rfl):∃t0 t1,g=[t0,t1]:=by
   match g,a5 with
   | [t0,t1],_=>exact(t0,t1,U,)
  calc(T,_,U,RG eT,U,_,_,U,_,_,U,U,([↑t,↑r],U,U,),?_,);let c0:=a1 v<|JR em;calc(t,_,_,_,U,U,RG<|s2 _ _ ht,U,t,_,_,_,U,U,RG<|s2 _ _ ht,U,r,v,v,p.1,p.2,U,RF<|s2 _ _ hr,∅,∅,λm hm _ _=>hm,λr2 H3 l a0 s3 S b0 a7 a6 fO a9=>?_,);let X:=s3 _ _ L;let c1:C.length=i:=by rw[M.1,lO,fI];lia
  let Cd:i<min ⇑ys ⇑(as.map mt):=by rw[aa];lia
  let a2:r2≠D:=λz=>by rw[z,L]at S;cases S
  refine df.mk Cd X (aC ∅) ((s2.trans s3).upd O,ag,d++[l],by rw[cn,o];rfl,λj p' a3 b1 G I u=>?_,?_,)
  .by_cases hj:j<⇑d
   .rw[fS hj]at u;exact J j p' a3 b1 G I u
   .let a8:j=⇑d:=by
     have:=(JQ.mp u).1;simp at this;lia
    subst a8;simp at u;subst u;rw[o]at G I;rw[ep]at G;cases G;rw[em]at I;cases I;exact(a6,fO,a9,)
  .rw[take_snoc ep,List.zipWith_append (by rw[fI];lia)];let a4:aJ (C++[.ref r2]) (kt (λp l=>aU p.1 p.2 l) (ps.take i) d++[aU p.1 p.2 l]) (λr c=>r≠D/\∃g,H3 r=N8 (.lst g)/\PL H3 g c) :=
    aJ.snoc (aJ.mono M λx c k=>(k.1,let ⟨g,e1,e2⟩:=k.2;(g,s3 _ _<|Z _ _ e1,PL.mono e2 (Z.trans s3).tups,),)) (a2,a0,b0,a7,)
   let st:bG H3 (upd H3 D<|.lst<|C++[.ref r2]):=aR X;exact aJ.mono a4 λx c k=>(k.1,let ⟨g,e1,e2⟩:=k.2;(g,(av k.1).trans e1,PL.mono e2 st,),)
 .let(sm,eD,d,o,J,M):=h;let e:min ⇑ys ⇑(as.map mt)=⇑ps:=by rw[aa];lia
  rw[e]at o;rw[e,fm]at M;calc q D C B d sm eD o J<|aJ.mono M λx c k=>k.2
def HR(F:Fun K "look" "look" Y56 f fd)(bl:Bl K mg Y)(C:⟨⟩ 1 "beneath_code" ["form","code"] (eG K Y)):() 2 f fd ["form","codes"] (sf K Y):=by
 refine F.okA Z56 λS A o s H T Q E D h=>?_
 let(v,r,l,g,rfl,p,G,q):=h
 refine(_,(au (aK (i:=2) Z56.nd U (cr U)<|pv 0)
  (au (bz sB U (aQ<|pv 1) (az (i:=3) Z56.nd U<|cr U)
  (ak<|aK (i:=2) Z56.nd U (cr U)<|aL C D U<|ae (pv 2)<|ae (pv 3) ai))
  (ak<|ay<|pv 2))),?_,)
 dsimp only[bw,RI,RH];show(let z:TS:=_;let B:TS:=aS _ z;aS _ B _ _ _);intro _ _;refine(l,U,(_,p,),(let R:Nat->RJ:=λi d k=>k=H/\E2 λ(u:V)(n:Option V)=>Lk K H u (g.drop i) r/\d=[N8 v,↑l,N8 u,n];bA (xs:=g.map ut) R (U,v,_,G,U,) (λi d k _ h=>by rw[h.1];exact p) (λi y d k e h=>?_) (λd k h=>?_)),)
 .let(m,u,n,b,rfl):=h;rw[m];let(c,rfl,O):=of_map e;let N:g.drop i=c :: g.drop (i+1):=by
   let(hi,rfl):=JQ.mp O;exact GE hi
  rw[N]at b;let(a,xs,x,j,t,rfl,M,L,J,I):=b.cons_inv;exact(a,xs,x,c,j,t,U,M,L,J,U,_,_,I,U,)
 .let(m,u,n,b,rfl):=h;rw[m];rw[aa,List.drop_length]at b;cases b;calc q
def HS(F:Fun K "is_word" "is_word" Y44 f fd)(bl:Bl K mg Y)(g:⟨⟩ 1 "all_among" ["text","signs"] (gB K Y)):() 2 f fd ["text"] (jI K Y):=by
 refine F.okA Z44 λk A d s H l Q E j h=>?_
 let(z,rfl,i,q):=h;calc(_,(ak<|ay<|gX (nj fU fU aq (aG rb U bl.len_ N7<|ae (pv 0) ai)<|md U bl.MOST_SIGNS_)<|gX (kg Cr (pv 0) bI<|bg _)<|kT<|aL g j U<|ae (pv 0)<|ae (md U bl.SMALL_LETTERS_) ai),?_,);calc(_,U,big i,_,_,U,U,_,U,?_,);refine eN (λc=>?_)<|λc=>?_
 .refine(_,_,U,U,_,U,?_,);refine eN (λb=>?_)<|λb=>?_
  .refine(U,_,U,?_,);refine eN (λa=>?_)<|λa=>?_
   .refine(z,lets,U,?_,);let e:isw z=sL z lets:=by unfold isw;rw[c,b,a];rfl
    rw[e]at q;exact q
   .let e:isw z=false:=by unfold isw;rw[Jo.mpr a,Ow,FM,FM]
    rw[e]at q;exact q
  .let e:isw z=false:=by unfold isw;rw[Jo.mpr b,Ow,FM]
   rw[e]at q;exact q
 .let e:isw z=false:=by unfold isw;rw[Jo.mpr c,Ow]
  rw[e]at q;calc(_,U,dY q,)
def HU(F:Fun K "fits" "fits" Y39 f fd)(bl:Bl K mg Y)(Ce:⟨⟩ 1 "holds" ["spans","number"] (oP K Y)):() 2 f fd ["table","k","codes"] (sh K Y):=by
 refine F.okA Z39 λa1 A G s H vs Q E hr h=>?_
 let(t,X,c,dx,fs,xs,a0,k,b,g,rfl,ht,hf,hl,hR,ek,J,W,q):=h
 refine(_,(au (aK (i:=3) Z39.nd U (cr U)<|aP bL (aP b7 (cc (pv 0) U) (pv 1)<|λ_ _=>U) aq<|λ_ _=>U)
  (au (bz sB U (rj U bl.zip_<|ae (pv 3)<|ae (pv 2) ai) (fL U<|aF (az (i:=4) Z39.nd U<|cr U)<|aF (az (i:=5) Z39.nd U<|cr U) bM)
  (ak (bx (eA<|jz<|aL Ce hr U<|ae (pv 4)<|ae (pv 5) ai)
  (ak<|ay m7)
  aM)))
  (ak<|ay m7))),?_,)
 dsimp only[bw,RI,RH];show(let Z:TS:=_;let r1:TS:=aS _ Z;aS _ r1 _ _ _);intro _ _;let(r,er,S,cv,e1,_,R,m):=hR.2 k b ek;calc(t,_,_,_,_,U,ht,bl.k_Table,bl.na_Table_rows,hf,X,_,_,_,U,U,RF hl,cP er,r,_,_,_,U,U,RG e1,U,?_,);refine(S,c,U,(_,RF R,),(_,J,),(let I_:Nat->RJ:=λi o a=>aw H a/\(∀j,j<i->inP (b.1.getD j []) (g.getD j 0)=Oa)/\E2 λB z:Option V=>o=[↑t,N8<|.int k,↑c,↑S,B,z];rm (xs:=cv) (ys:=g.map ut) I_ (aw.refl _,(λj h=>Og h<|zE j),_,_,U,) (λi o a h=>(RF<|h.1 _ _ R,h.1.seq J,)) (λi x y o a T ex ey h hT=>?_) (λo a h=>?_)),)
 .let(p,v,B,z,rfl):=h;let s2:=p.trans<|aj hT<|.tup [x,y];let O:upd a T (.tup [x,y]) T=N8 (.tup [x,y]):=ag;generalize upd a T (.tup [x,y])=H2 at s2 O⊢;let(l,u,rfl,ep,C):=aJ.get m ex;let(_,ys,el,hp):=C.same s2;let(n,rfl,N):=of_map ey;calc(T,_,U,RG O,U,_,_,U,_,_,U,U,?_,);calc(l,ys,u,n,U,RF el,hp,_,U,?_,);let M:b.1.getD i []=u:=by rw[cO,ep];rfl
  let L:g.getD i 0=n:=by rw[cO,N];rfl
  cases hin:inP u n with
  |true =>
   calc dY (s2,λj I=>?_,_,_,U,);by_cases D:j<i
   .exact v j D
   .let:j=i:=∅
    subst this;rw[M,L];exact hin
  |false =>
   calc eU ?_;let e:gf b.1 g=false:=by
    unfold gf;rw[List.all_eq_false];calc(i,gd.mpr (JQ.mp N).1,?_,);rw[M,L,hin];decide
   let d:=q H2 s2;rw[e]at d;exact d
 .let(p,v,B,z,rfl):=h;let e:gf b.1 g=true:=by
   unfold gf;rw[jL];intro j I;calc v j ?_;let h1:=m.1;rw[aa];let:=gd.mp I;lia
  let d:=q a p;rw[e]at d;calc d
def HW(F:Fun K "column_marks" "column_marks" Y35 f fd)(bl:Bl K mg Y)(jK:⟨⟩ 1 "gathered" ["lists"] (fH K Y))(Cf:⟨⟩ 1 "edges" ["spans","low","high"] (oQ K Y)):() 2 f fd ["table","column"] (eJ K Y):=by
 refine F.okA Z35 λb6 A a8 s H vs Q E hr h=>?_
 let(t,c,dv,bs,g,b,L,rfl,(rl,dx,dl,fs,xs,ht,f1,f2,a5,X,G,hR),eb,b3,rS,b0,hL,a0,q):=h
 refine(_,(au (aK (i:=2) Z35.nd U (v6 U)<|aP b7 (cc (pv 0) U) (pv 1)<|λ_ _=>U)
  (ak<|ay<|aL jK hr U<|ae (d6 (aQ<|cc (pv 0) U) (d7 (N:=["cells","code","column","domain"]) (k:=2) (fr:=[1,2]) (cl:=[("domain",↥s+1+1),("column",↥s+1)]) U U (~~~0) (~~~0) U U (ia.mpr (U,ia.mpr (U,ji _,),)) U) U (λ_ _ _ _=>(jv (K:=K) (n:=2) U U<|aF (az (i:=0) (show(["cells","code","column","domain"]:Oo Str).Nodup by decide+kernel) U (cr U) (v6 U)) (aF (az (i:=1) (show(["cells","code","column","domain"]:Oo Str).Nodup by decide+kernel) U (cr U) (v6 U)) bM))) (λ_ _ _ _=>b8) (λ_ _ _ _=>(aL Cf hr U<|ae (aP (sH (K:=K) U) (pv 0) (pv 2)<|λ_ _=>U)<|ae (mQ (K:=K) U (pv 3) U)<|ae (mQ (K:=K) U (pv 3) U) ai))) ai)),?_,)
 dsimp only[bw,RI,RH];show(let r1:TS:=_;aS _ r1 _ _ _);intro _;let(da,a6,C,hC,b5,b4,ha,g1,g2,_):=X.2 c b eb;let M:Cls K C/\NoAttr K C s!"low"/\NoAttr K C s!"high":=by
  rcases hC with rfl|rfl
  .exact(bl.k_Numbers,bl.na_Numbers_low,bl.na_Numbers_high,)
  .exact(bl.k_Words,bl.na_Words_low,bl.na_Words_high,)
 let W:⇑xs=⇑g:=hR.1;calc(t,_,_,_,_,U,ht,bl.k_Table,bl.na_Table_domains,f2,dl,_,_,_,U,U,RF a5,cP a6,?_,);refine(t,_,_,_,_,U,ht,bl.k_Table,bl.na_Table_rows,f1,rl,U,(_,RF G,),(let I_:Ki->Nat->Oo V->RK:=λD i o d=>aw H d/\d D=N8 (.lst o)/\∃m:Oo Ki,o=m.map mt/\MLs (hide d D) m ((g.take i).map<|rmk c b);jA (xs:=xs) I_ (λD u=>(aj u _,ag,[],U,MLs.nil,)) (λD i o d u _ h=>RF<|h.1 _ _ G) (λD i y o d u e h ts T=>?_) (λD o d u h=>?_)),)
 .let(a,O,m,rfl,p):=h;let(r,x,rfl,S,ce,cs,k1,_,k2,k3):=aJ.get hR e;let hi:i<⇑xs:=(JQ.mp e).1;let B:=rS x<|JR S;let h6:=BV (c:=c)<|JR S;let(J,I,rfl):∃J I,ts=[J,I]:=by
   match ts,T with
   | [J,I],_=>exact(J,I,U,)
  calc(r,_,U,RG<|a _ _ k1,U,_,_,U,_,_,U,U,([↑ce,N8 (.int x.2)],U,U,),?_,);let(ol,a3,_,yo,a1,j):=k3.2 c _<|JP B;let hA:x.1[c]=x.1.getD c []:=by rw[cO,JP B];rfl
  rw[hA]at j;let a9:=⇑j;calc(ce,_,_,_,U,U,RF<|a _ _ k2,cP a3,da,_,_,_,_,U,a _ _ ha,M.1,M.2.1,g1,da,_,_,_,_,U,a _ _ ha,M.1,M.2.2,g2,?_,);calc(ol,yo,_,b.1,b.2,U,RF<|a _ _ a1,j.mono a.tups,∅,λr3 H3 es R v a2 a4=>?_,);let a7:=R _ _ O;let nD:r3≠D:=λz=>by rw[z,O]at v;cases v
  let Z:=p.1;rw[aa,fI]at Z;refine df.mk hi a7 (aC (by rw[aa];lia)) ((a.trans R).upd u,ag,m++[r3],by rw[fj];rfl,?_,);rw[ug,take_snoc S,fj];exact MLs.snoc (p.same<|qN R)<|gz (by rw[a2,a4];rfl) nD
 .let(a,O,m,rfl,p):=h;rw[W,fm]at p;let b1:=ui c b g;calc(D,m,_,L,U,O,p.same<|xm d D,∅,hL,λx hx=>a0 x<|xn.mp hx,λl cs H2 s2 nl el pw hm=>q l cs H2 (a.trans s2) (a.free nl) el pw λx=>(hm x).trans xn,)
def HX(F:Fun K "blocks_of" "blocks_of" Y32 f fd)(bl:Bl K mg Y)(pV:⟨⟩ 1 "with_column" ["blocks","pairs"] (fc K Y))(we:⟨⟩ 1 "pairs_of" ["parts"] (iC K Y))(iG:⟨⟩ 1 "stretches" ["low","high","marks"] (eP K Y)):() 2 f fd ["bounds","marks"] (gE K Y):=by
 refine F.okA Z32 λc7 A c0 s H vs Q E k h=>?_
 let(C,ml,ys,ps,as,mss,rfl,o,hP,n,hM,ok,q):=h
 refine(_,(au (aK (i:=2) Z32.nd U (cr U)<|aW<|ae (bo ai) ai)
  (au (bz sB U (rj U bl.zip_<|ae (pv 0)<|ae (pv 1) ai) (fL U<|aF (az (i:=3) Z32.nd U<|cr U)<|aF (az (i:=4) Z32.nd U<|cr U) bM)
  (ak<|aK (i:=2) Z32.nd U (cr U)<|aL pV k U<|ae (pv 2)<|ae (aL we k U<|ae (aL iG k U<|ae (aP bL (pv 3) aq<|λ_ _=>U)<|ae (aP bL (pv 3) aq<|λ_ _=>U)<|ae (pv 4) ai) ai) ai))
  (ak<|ay<|pv 2))),?_,)
 dsimp only[bw,RI,RH];show(let W:TS:=_;let r1:TS:=aS _ W;aS _ r1 _ _ _);intro _ _;let a6:=⇑hP;let u:=hM.1;refine((by show 0<=Kk;decide),λa l=>((by show 1<=Kk;decide),λg d=>?_,),);let J:=(aj l<|.tup []).trans<|aj d<|.lst [.ref a];let e0:upd (upd H a<|.tup []) g (.lst [.ref a]) g=N8 (.lst [.ref a]):=ag;let t0:BxA (upd (upd H a<|.tup []) g<|.lst [.ref a]) a []:=([],aj d _ _ _ ag,.nil,);let a4:H g=none:=(aj l<|.tup []).free d;generalize upd (upd H a<|.tup []) g (.lst [.ref a])=H0 at J e0 t0⊢;refine(C,ml,U,(_,RF<|J _ _ o,),(_,RF<|J _ _ n,),(let I_:Nat->RJ:=λi G R=>aw H R/\E4 λ(D:Ki)(e:Oo V)(c3 c4:Option V)=>A4 (H D=N9) (R D=N8 (.lst e)) (BkL R e<|dI (ps.take i)<|mss.take i)<|G=[↑C,↑ml,↑D,c3,c4];rm (xs:=ys) (ys:=as.map mt) I_ (J,g,_,_,_,a4,e0,aJ.snoc aJ.nil t0,U,) (λi G R h=>(RF<|h.1 _ _ o,RF<|h.1 _ _ n,)) (λi x y G O T ex ey X hT=>?_) (λG O X=>?_)),)
 .let(j,D,e,c3,c4,nD,Z,L,rfl):=X;let(p,t,M,rfl,ht):=hP.get ex;let(r,rfl,er):=oy ey;let(b,N):∃b,mss[i]?=N8 b:=(_,JP (by rw[←u];exact(JQ.mp er).1),);let(r',v,k):=hM.2 i b N;rw[er]at v;cases v;let(pw,a9,c6):=ok.col i p b M N;let S:=aj hT<|.tup [.ref t,.ref r];let eT:upd O T (.tup [.ref t,.ref r]) T=N8 (.tup [.ref t,.ref r]):=ag;generalize upd O T (.tup [.ref t,.ref r])=H2 at S eT⊢;let s2:=j.trans S;calc(T,_,U,RG eT,U,_,_,U,_,_,U,U,?_,);calc(t,_,_,_,U,U,RG<|s2 _ _ ht,U,t,_,_,_,U,U,RG<|s2 _ _ ht,U,r,b,b,p.1,p.2,U,RF<|s2 _ _ k,∅,∅,λm hm _ _=>hm,λW H3 cs a2 s3 c2 b4 a8 a7 fO c5=>?_,);obtain rfl:cs=b:=fB a7 pw λc=>(λh=>((fO c).mp h).1,λh=>(fO c).mpr (h,a9 c h,),)
  refine(W,a2,_,U,b4,a8,(by rw[cx];lia),λD4 a1 H4 s4 c1 b6 b1=>?_,);let I:=(S.trans s3).trans s4;let hf:=ok.few<|i+1;rw[lL M N,rT]at hf;refine(D,D4,e,a1,_,_,U,I _ _ Z,L.mono λ_ _ z=>BxA.mono z I.tups,(λB hB=>?_),b6,b1,hf,λD5 a0 H5 s5 a5 b5 b3=>?_,)
  .let hi:i<⇑ps:=(JQ.mp M).1;let h6:=ok.six;let:=i0 (ps:=ps.take i) (mss:=mss.take i) (by rw[fI,fI,ok.len]) B hB;rw[this,fI];lia
  .let a3:=(j.trans I).trans s5;exact(a3,D5,a0,_,_,(j.trans I).free a5,b5,by rw[lL M N];exact b3,U,)
 .let(j,D,e,c3,c4,nD,Z,L,rfl):=X;rw[show min ⇑ys ⇑(as.map mt)=⇑ps by rw[aa,u,a6,ok.len,Nat.min_self],fm,show mss.take ⇑ps=mss by rw[←ok.len,fm]]at L;calc(q D e O j nD Z L)
def HY(F:Fun K "plan_with" "plan_with" Y63 f fd)(bl:Bl K mg Y)(mw:⟨⟩ 1 "with_pair" ["box","column","pair"] (gC K Y)):() 2 f fd ["plans","block","column","cut","cost"] (gF K Y P w mg base):=by
 refine F.okA Z64 λa3 A W s H vs Q E j h=>?_
 let(d,b,I,M,B,c,m,x,lo,hi,a,g,rfl,u,S,h5,hc,hb,ha,hd,q):=h
 refine(_,(aN (aK (i:=5) Z64.nd U (cr U)<|aP (ow j) (pv 0) (aL mw j U<|ae (pv 1)<|ae (pv 2)<|ae (bo<|ae (aP bL (aP bL (pv 1) (pv 2)<|λ_ _=>U) aq<|λ_ _=>U)<|ae (aD eR (pv 3) aq) ai) ai)<|λ_ _=>U)
  (aN (aK (i:=6) Z64.nd U (cr U)<|aP (ow j) (pv 0) (aL mw j U<|ae (pv 1)<|ae (pv 2)<|ae (bo<|ae (pv 3)<|ae (aP bL (aP bL (pv 1) (pv 2)<|λ_ _=>U) aq<|λ_ _=>U) ai) ai)<|λ_ _=>U)
  (au (bx (aX (Ai j) (pv 5) (pv 6)<|bg _)
  (ak<|ay<|pv 5)
  aM)
  (ak<|ay<|bo<|ae (aD bN (pv 4)<|aG (p9 U) U bl.max_ OZ<|ae (aP bL (pv 5) aq<|λ_ _=>U)<|ae (aP bL (pv 6) aq<|λ_ _=>U) ai)<|ae (bo<|ae (md U bl.ASK_)<|ae (pv 2)<|ae (pv 3)<|ae (aP bL (pv 5) aq<|λ_ _=>U)<|ae (aP bL (pv 6) aq<|λ_ _=>U) ai) ai)))),?_,)
 dsimp only[bw,RI,RH];show(let r3:TS:=_;let r2:TS:=aS _ r3;let r1:TS:=dj _ r2;dj _ r1 _ _ _);intro _ _ _;let l:c<B.length:=(JQ.mp hc).1;let(xs,eb,R):=id S;let(pp,O,G,L,g0):=R.get (i:=c) (JP (by rw[R.length];exact l));rw[hc]at G;cases G;let a0:atI xs (c:Int)=↑O:=cP (by rw[JP (by rw[R.length];exact l),L]);let(kb,v,mb,gb):=u.get hb;let(ka,N,ma,ga):=u.get ha;refine(let T:RJ:=λo V=>aw H V/\o=[↑d,↑b,N8<|.int c,N8<|.int m,N8<|.int x,↑v,N9];(T,?_,?_,))
 .refine(b,_,_,_,U,U,RG eb,a0,O,_,_,_,U,U,RG g0,U,_,_,U,U,(by show 2<=Kk;decide),λt D=>?_,);let n:=aj D<|.tup [.int lo,.int (m-1)];calc(b,t,B,c,lo,m-1,U,BxA.mono S n.tups,ag,l,∅,λr H1 C j=>?_,);let k:=n.trans C;exact(d,r,kb,I,bkK _,.ref v,U,U,.inl<|k _ _ u.at_,kH k.tups u.keys,um j,mb,k,U,)
 rintro a2 H1 ⟨C,rfl⟩;refine(let T:RJ:=λo V=>aw H V/\o=[↑d,↑b,N8<|.int c,N8<|.int m,N8<|.int x,↑v,↑N];(T,?_,?_,))
 .refine(b,_,_,_,U,U,RG<|C _ _ eb,a0,O,_,_,_,U,U,RG<|C _ _ g0,U,(by show 2<=Kk;decide),λt D=>?_,);let n:=C.trans<|aj D<|.tup [.int m,.int hi];calc(b,t,B,c,m,hi,U,BxA.mono S n.tups,ag,l,∅,λr H2 s2 j=>?_,);let k:=n.trans s2;exact(d,r,ka,I,bkK _,.ref N,U,U,.inl<|k _ _ u.at_,kH k.tups u.keys,um j,ma,k,U,)
 rintro a1 H2 ⟨s2,rfl⟩;let p:=gb.mono s2.tups;let J:=ga.mono s2.tups;calc(λhT=>.inr<|PlA.eq hT p J ∅ ?_);let ec:∀y:Bool,Oc (a=g)=y->cmb x c m a g=if y=Oa then a else(x+max a.1 g.1,.ask c m a.2 g.2):=λy h=>by unfold cmb;rw[←h];by_cases z:a=g <;> simp[z]
 by_cases e:a=g
 .refine(Oa,by rw[Oh e],eU<|q v H2 s2 ?_,);rw[ec Oa (Oh e),Of U];exact p
 .refine(Ob,by rw[Oi e],dY ?_,);let(X,G,g1):=id p;let(Z,L,g2):=id J;refine(v,_,_,_,U,U,RG G,U,N,_,_,_,U,U,RG L,U,a.1,g.1,U,_,_,U,U,v,_,_,_,U,U,RG G,U,N,_,_,_,U,U,RG L,U,(by show 5<=Kk;decide),λt D=>((by show 2<=Kk;decide),λr j=>?_,),);let n:=aj D<|.tup [.str kA,.int c,.int m,.ref X,.ref Z];let k:=n.trans<|aj j<|.tup [.int (x+if g.1>a.1 then g.1 else a.1),.ref t];calc q r _ (s2.trans k) ?_;let z:=ec Ob<|Oi e;rw[Oe bv]at z;rw[z];refine(t,?_,X,Z,?_,g1.mono k.tups,g2.mono k.tups,)
  .show _=N8 (HO.tup [.int (x+max a.1 g.1),.ref t]);rw[show max a.1 g.1=if g.1>a.1 then g.1 else a.1 by split <;> lia];exact ag
  .exact aj j _ _ _ ag
def HZ(F:Fun K "_law_sizes" "_law_sizes" Y53 f fd)(bl:Bl K mg Y)(bQ:⟨⟩ 1 "_law_at" ["script","k"] (dU K Y)):() 2 f fd ["script"] (gG K Y):=by
 refine F.okA Z53 λa6 A t s H vs Q E R h=>?_
 let(a,n,rfl,T,q):=h
 refine(_,(aN (aK (i:=1) Z53.nd U (cr U)<|aL bQ R U<|ae (pv 0)<|ae aq ai)
  (aN (aK (i:=2) Z53.nd U (cr U)<|aD bJ (aD bJ (aD dq (aD bJ (pv 1) aq) aq) aq) aq)
  (au (bx (aX eS (pv 2) aq<|bg _)
  (ak<|ay<|aW<|ae aq<|ae aq<|ae aq ai)
  aM)
  (au (bx (aX eS (pv 2) aq<|bg _)
  (ak<|ay<|aW<|ae aq<|ae aq<|ae aq ai)
  aM)
  (au (bx (aX eS (pv 2) aq<|bg _)
  (ak<|ay<|aW<|ae aq<|ae aq<|ae aq<|ae aq ai)
  aM)
  (au (bx (aX eS (pv 2) aq<|bg _)
  (ak<|ay<|aW<|ae (aD bN aq<|aD bJ (aD bJ (aD dq (aD bJ (pv 1) aq) aq) aq) aq) ai)
  aM)
  (ak<|ay<|aW<|ae (aD bN aq<|aD bJ (pv 1) aq)<|ae (aD bN aq<|aD bJ (aD mL (pv 1) aq) aq)<|ae (aD bN aq<|aD bJ (aD mL (pv 1) aq) aq) ai))))))),?_,)
 show(let C:TS:=_;let D:TS:=aS _ C;let G:TS:=aS _ D;let I:TS:=aS _ G;let J:TS:=aS _ I;let L:TS:=dj _ J;dj _ L _ _ _);intro _ _ _ _ _ _;let(c,u):∃c,c=eZ n 0:=(_,U,);refine(λj p=>p=H/\j=[↑a,N8<|.int c,N9],(a,n,0,U,T,lf _,U,by rw[u];rfl,),?_,);rintro a1 H1 ⟨B,rfl⟩;subst B;let(b,o):∃b,b=wyK n:=(_,U,);let a5:0<=b/\b<8:=by
  rw[o];unfold wyK;exact(JU _ ⋯,JW _ ⋯,)
 refine(λj p=>p=H1/\j=[↑a,N8<|.int c,N8 (.int b)],?_,?_,)
 .exact(_,_,U,U,(by show(0:Int)<10007;decide),_,_,U,U,.inr (⋯,⋯,),_,_,U,U,(by show(0:Int)<10007;decide),_,_,U,U,(by show(0:Int)<8;decide),U,by rw[o,u];rfl,)
 rintro a0 H2 ⟨v,rfl⟩;subst v;rw[←o]at q;refine(U,_,U,eN (λg=>((by show 3<=Kk;decide),λl d=>q l [4,4,3] _ (aj d _) ag (.inl (V.int.inj<|Oj g,U,)),)) (λg0=>?_),);refine(U,_,U,eN (λg=>((by show 3<=Kk;decide),λl d=>q l [4,4,4] _ (aj d _) ag (.inr<|.inl (V.int.inj<|Oj g,U,)),)) (λZ=>?_),);refine(U,_,U,eN (λg=>((by show 4<=Kk;decide),λl d=>q l [3,3,3,2] _ (aj d _) ag (.inr<|.inr<|.inl (V.int.inj<|Oj g,U,)),)) (λX=>?_),);refine(U,_,U,eN (λg=>?_)<|λW=>?_,)
 .let(k,S,JH):=oM (x:=c%10009*617%10009) (m:=16) ⋯;refine(_,_,U,U,(by show(0:Int)<10009;decide),_,_,U,U,.inr (⋯,⋯,),_,_,U,U,(by show(0:Int)<10009;decide),_,_,U,U,(by show(0:Int)<16;decide),_,_,U,U,(by show 1<=Kk;decide),λl d=>q l [35+k] _ (aj d _) ?_ (.inr<|.inr<|.inr<|.inl (V.int.inj<|Oj g,_,∅,∅,U,)),);rw[ag,S];show N8 (HO.lst [.int (35+(k:Int))])=N8 (HO.lst [.int ((35+k:Nat):Int)]);rw[show((35+k:Nat):Int)=35+(k:Int) by lia]
 .let(x,O,a4):=oM (x:=c) (m:=2) ⋯;let(y,N,a3):=oM (x:=c / 2) (m:=3) ⋯;let(z,M,a2):=oM (x:=c / 6) (m:=2) ⋯;let r:3<b:=by
   let n0:b≠0:=λe=>g0<|Oh (by rw[e])
   let n1:b≠1:=λe=>Z<|Oh (by rw[e])
   let n2:b≠2:=λe=>X<|Oh (by rw[e])
   let n3:b≠3:=λe=>W<|Oh (by rw[e])
   lia
  refine(_,_,U,U,(by show(0:Int)<2;decide),_,_,U,U,_,_,U,U,(⋯,⋯,),_,_,U,U,(by show(0:Int)<3;decide),_,_,U,U,_,_,U,U,(⋯,⋯,),_,_,U,U,(by show(0:Int)<2;decide),_,_,U,U,(by show 3<=Kk;decide),λl d=>q l [2+x,2+y,2+z] _ (aj d _) ?_ (.inr<|.inr<|.inr<|.inr (r,_,_,_,U,∅,∅,∅,∅,∅,∅,)),);rw[ag,O,N,M];show N8 (HO.lst [.int (2+(x:Int)),.int<|2+(y:Int),.int (2+(z:Int))])=N8 (HO.lst [.int ((2+x:Nat):Int),.int ((2+y:Nat):Int),.int ((2+z:Nat):Int)]);rw[show((2+x:Nat):Int)=2+(x:Int) by lia,show((2+y:Nat):Int)=2+(y:Int) by lia,show((2+z:Nat):Int)=2+(z:Int) by lia]
def Ia(F:Fun K "_law_size" "_law_size" Y52 f fd)(bl:Bl K mg Y)(B:⟨⟩ 1 "_law_at" ["script","k"] (dU K Y)):() 2 f fd ["script"] (iD K Y):=by
 refine F.okA Z52 λI A e s H J Q E o h=>?_
 let(a,g,rfl,z,q):=h
 refine(_,(aN (aK (i:=1) Z52.nd U (cr U)<|aL B o U<|ae (pv 0)<|ae aq ai)
  (ak<|ay<|aP b7 (aW<|ae aq<|ae aq<|ae (aD bN aq<|aD bJ (aD bJ (aD dq (aD bJ (pv 1) aq) aq) aq) aq) ai) (aD bJ (aD bJ (aD dq (aD bJ (pv 1) aq) aq) aq) aq)<|λ_ _=>U)),?_,)
 dsimp only[bw,RI,RH];show(let l:TS:=_;dj _ l _ _ _);intro _;let(c,y):∃c,c=eZ g 2:=(_,U,);refine(λd C=>C=H/\d=[↑a,N8 (.int c)],(a,g,2,U,z,⋯,U,by rw[y];rfl,),?_,);rintro D N ⟨j,rfl⟩;subst j;let(k,L,M):=oM (x:=c%10037*619%10037) (m:=90) ⋯;refine(_,_,U,U,(by show(0:Int)<10037;decide),_,_,U,U,.inr (⋯,⋯,),_,_,U,U,(by show(0:Int)<10037;decide),_,_,U,U,(by show(0:Int)<90;decide),_,_,U,U,(by show 3<=Kk;decide),λp r=>?_,);let u:=aj r<|.lst [.int 300,.int 301,.int (302+c%10037*619%10037%90)];let(v,n,t):=Hk 300 301 (302+c%10037*619%10037%90) (k:=c%10007*613%10007%3) (JU _ ⋯)<|JW _ ⋯;let G:300<=v/\v<=391:=by
  simp only[af,jj,or_false]at t;lia
 let(b,rfl):∃b:Nat,v=(b:Int):=(v.toNat,∅,);calc(_,_,U,U,(by show(0:Int)<10007;decide),_,_,U,U,.inr (⋯,⋯,),_,_,U,U,(by show(0:Int)<10007;decide),_,_,U,U,(by show(0:Int)<3;decide),p,_,_,_,U,U,RF ag,n,q b _ u ∅ ∅,)
def Ib(F:Fun K "__init__" "Numbers.__init__" Y11 f fd)(bl:Bl K mg Y)(e:cm CX0 P w K mg base 1 "Domain" "__init__" ["self","low","high"] (bR K Y)):() 2 f fd ["self","low","high"] (bf K Y):=by
 refine F.okA Z11 λj A a s H k Q E d h=>?_
 let(x,g,lo,hi,rfl,c,i,q):=h
 refine(_,(au (bx (aX ni (pv 1) (pv 2)<|bg _)
  (ak cX)
  aM)
  (ak<|bj<|gv e bV d U<|ae (pv 0)<|ae (pv 1)<|ae (pv 2) ai)),?_,)
 show(let b:TS:=_;aS _ b _ _ _);intro _;calc(_,_,U,U,_,U,mh ∅ (x,g,lo,hi,U,c,q,),)
def O_3(F:Fun K "__init__" "First.__init__" Y3 f fd)(bl:Bl K mg Y)(e:cm CX0 P w K mg base 1 "Way" "__init__" ["self","called"] (cD K Y)):() 2 f fd ["self"] (J0 K Y):=by
 refine F.ok Z3 (λd H Q E h=>?_)<|λi A a s H d Q E g h=>?_
 .let(x,c,rfl,b,q):=h;rfl
 let(x,c,rfl,b,q):=h;calc(_,(ak<|bj<|gv e bV g U<|ae (pv 0)<|ae bI ai),?_,);calc(x,c,_,U,b,q,)
def Ic(F:Fun K "__init__" "Only.__init__" Y12 f fd)(bl:Bl K mg Y)(e:cm CX0 P w K mg base 1 "Way" "__init__" ["self","called"] (cI K Y)):() 2 f fd ["self"] (J8 K Y):=by
 refine F.ok Z12 (λd H Q E h=>?_)<|λi A a s H d Q E g h=>?_
 .let(x,c,rfl,b,q):=h;rfl
 let(x,c,rfl,b,q):=h;calc(_,(ak<|bj<|gv e bV g U<|ae (pv 0)<|ae bI ai),?_,);calc(x,c,_,U,b,q,)
def O_7(F:Fun K "__init__" "Like.__init__" Y7 f fd)(bl:Bl K mg Y)(e:cm CX0 P w K mg base 1 "Way" "__init__" ["self","called"] (cJ K Y)):() 2 f fd ["self"] (J4 K Y):=by
 refine F.ok Z7 (λd H Q E h=>?_)<|λi A a s H d Q E g h=>?_
 .let(x,c,rfl,b,q):=h;rfl
 let(x,c,rfl,b,q):=h;calc(_,(ak<|bj<|gv e bV g U<|ae (pv 0)<|ae bI ai),?_,);calc(x,c,_,U,b,q,)
def O_9(F:Fun K "__init__" "Low.__init__" Y9 f fd)(bl:Bl K mg Y)(e:cm CX0 P w K mg base 1 "Way" "__init__" ["self","called"] (cU K Y)):() 2 f fd ["self"] (J6 K Y):=by
 refine F.ok Z9 (λd H Q E h=>?_)<|λi A a s H d Q E g h=>?_
 .let(x,c,rfl,b,q):=h;rfl
 let(x,c,rfl,b,q):=h;calc(_,(ak<|bj<|gv e bV g U<|ae (pv 0)<|ae bI ai),?_,);calc(x,c,_,U,b,q,)
def O_5(F:Fun K "__init__" "High.__init__" Y5 f fd)(bl:Bl K mg Y)(e:cm CX0 P w K mg base 1 "Way" "__init__" ["self","called"] (cK K Y)):() 2 f fd ["self"] (J2 K Y):=by
 refine F.ok Z5 (λd H Q E h=>?_)<|λi A a s H d Q E g h=>?_
 .let(x,c,rfl,b,q):=h;rfl
 let(x,c,rfl,b,q):=h;calc(_,(ak<|bj<|gv e bV g U<|ae (pv 0)<|ae bI ai),?_,);calc(x,c,_,U,b,q,)
def Ie(F:Fun K "__init__" "Sum.__init__" Y14 f fd)(bl:Bl K mg Y)(e:cm CX0 P w K mg base 1 "Way" "__init__" ["self","called"] (cV K Y)):() 2 f fd ["self"] (J10 K Y):=by
 refine F.ok Z14 (λd H Q E h=>?_)<|λi A a s H d Q E g h=>?_
 .let(x,c,rfl,b,q):=h;rfl
 let(x,c,rfl,b,q):=h;calc(_,(ak<|bj<|gv e bV g U<|ae (pv 0)<|ae bI ai),?_,);calc(x,c,_,U,b,q,)
def O_1(F:Fun K "has_code" "Domain.has_code" Y1 f fd)(bl:Bl K mg Y)(e:⟨⟩ 1 "is_whole" ["value"] (fJ K Y)):() 2 f fd ["self","value"] (bT K Y):=by
 refine F.okA Z1 λn A c s H o Q E g h=>?_
 let(a,b,i,rfl,(p,fs,d,j,k,_),m,l,q):=h;calc(_,(ak<|ay<|gX (aL e g U<|ae (pv 1) ai)<|kT<|nj fU fU (cc (pv 0) U) (pv 1)<|cc (pv 0) U),?_,);calc(i,U,_,U,eU ?_,);calc(a,_,_,_,_,U,d,bl.k_Numbers,bl.na_Numbers_low,j,_,_,U,U,_,U,qC m ?_,);calc(a,_,_,_,_,U,d,bl.k_Numbers,bl.na_Numbers_high,k,_,_,U,U,?_,);show Q (.bl<|Oc<|i<=b.2) H;rw[Oh l];calc q
def O_2(F:Fun K "has_code" "Domain.has_code" Y2 f fd)(bl:Bl K mg Y)(e:⟨⟩ 1 "is_whole" ["value"] (fJ K Y)):() 2 f fd ["self","value"] (cg K Y):=by
 refine F.okA Z2 λn A c s H o Q E g h=>?_
 let(a,b,i,rfl,(p,fs,d,j,k,_),m,l,q):=h;calc(_,(ak<|ay<|gX (aL e g U<|ae (pv 1) ai)<|kT<|nj fU fU (cc (pv 0) U) (pv 1)<|cc (pv 0) U),?_,);calc(i,U,_,U,eU ?_,);calc(a,_,_,_,_,U,d,bl.k_Words,bl.na_Words_low,j,_,_,U,U,_,U,qC m ?_,);calc(a,_,_,_,_,U,d,bl.k_Words,bl.na_Words_high,k,_,_,U,U,?_,);show Q (.bl<|Oc<|i<=b.2) H;rw[Oh l];calc q
def Ig(F:Fun K "verdict" "Way.verdict" Y23 f fd)(bl:Bl K mg Y)(t:ba CX0 P w K mg base 1 Y.e "chosen" ["self","codes","outcome"] (J1 K Y)):() 2 f fd ["self","codes","outcome"] (J12 K Y):=by
 refine F.ok Z23 (λp H Q E h=>?_)<|λy A j s H p Q E u h=>?_
 .let(x,c,o,a,b,rfl,(m,z,g),k,d,i,l,q):=h;rfl
 let(x,c,o,a,b,rfl,(m,z,g),k,d,i,l,q):=h
 refine(_,(au (bx (eA<|cY (pv 1) (by intro _;rfl))
  (ak<|ay<|c9 (v:=.ref Y.o) U bl.NONE_ U)
  aM)
  (ak<|ay<|qo t bV bl.k_First u (pv 0)<|ae (pv 1)<|ae (pv 2) ai)),?_,)
 dsimp only[bw,RI,RH];show(let r:TS:=_;aS _ r _ _ _);intro _;calc(!(a.map ut).isEmpty,.inl (_,i,U,),?_,);cases a with
 |nil=>exact eU (q _ _ (aw.refl _)<|.inr bl.q_NONE)
 |cons n a=>calc dY (x,_,_,U,g,U,x,c,o,n,a,b,U,(m,z,g,),k,d,i,zS l,q,)
def Ih(F:Fun K "verdict" "Way.verdict" Y27 f fd)(bl:Bl K mg Y)(r:ba CX0 P w K mg base 1 Y.f "chosen" ["self","codes","outcome"] (J9 K Y)):() 2 f fd ["self","codes","outcome"] (J16 K Y):=by
 refine F.ok Z27 (λm H Q E h=>?_)<|λu A i s H m Q E t h=>?_
 .let(x,c,o,a,b,rfl,(l,z,e),j,d,g,k,q):=h;rfl
 let(x,c,o,a,b,rfl,(l,z,e),j,d,g,k,q):=h
 refine(_,(au (bx (eA<|cY (pv 1) (by intro _;rfl))
  (ak<|ay<|c9 (v:=.ref Y.o) U bl.NONE_ U)
  aM)
  (ak<|ay<|qo r bV bl.k_Only t (pv 0)<|ae (pv 1)<|ae (pv 2) ai)),?_,)
 dsimp only[bw,RI,RH];show(let p:TS:=_;aS _ p _ _ _);intro _;calc(!(a.map ut).isEmpty,.inl (_,g,U,),?_,);cases a with
 |nil=>exact eU (q _ _ (aw.refl _)<|.inr bl.q_NONE)
 |cons n a=>calc dY (x,_,_,U,e,U,x,c,o,n,a,b,U,(l,z,e,),j,d,g,zS k,q,)
def Ii(F:Fun K "verdict" "Way.verdict" Y25 f fd)(bl:Bl K mg Y)(t:ba CX0 P w K mg base 1 Y.g "chosen" ["self","codes","outcome"] (J5 K Y)):() 2 f fd ["self","codes","outcome"] (J14 K Y):=by
 refine F.ok Z25 (λp H Q E h=>?_)<|λy A j s H p Q E u h=>?_
 .let(x,c,o,a,b,rfl,(m,z,e),k,d,i,l,q):=h;rfl
 let(x,c,o,a,b,rfl,(m,z,e),k,d,i,l,q):=h
 refine(_,(au (bx (eA<|cY (pv 1) (by intro _;rfl))
  (ak<|ay<|c9 (v:=.ref Y.o) U bl.NONE_ U)
  aM)
  (ak<|ay<|qo t bV bl.k_Like u (pv 0)<|ae (pv 1)<|ae (pv 2) ai)),?_,)
 dsimp only[bw,RI,RH];show(let r:TS:=_;aS _ r _ _ _);intro _;calc(!(a.map ut).isEmpty,.inl (_,i,U,),?_,);cases a with
 |nil=>exact eU (q _ _ (aw.refl _)<|.inr bl.q_NONE)
 |cons n a=>calc dY (x,_,_,U,e,U,x,c,o,n,a,b,U,(m,z,e,),k,d,i,zS l,q,)
def Ij(F:Fun K "verdict" "Way.verdict" Y26 f fd)(bl:Bl K mg Y)(r:ba CX0 P w K mg base 1 Y.h "chosen" ["self","codes","outcome"] (J7 K Y)):() 2 f fd ["self","codes","outcome"] (J15 K Y):=by
 refine F.ok Z26 (λm H Q E h=>?_)<|λu A i s H m Q E t h=>?_
 .let(x,c,o,a,b,rfl,(l,z,e),j,d,g,k,q):=h;rfl
 let(x,c,o,a,b,rfl,(l,z,e),j,d,g,k,q):=h
 refine(_,(au (bx (eA<|cY (pv 1) (by intro _;rfl))
  (ak<|ay<|c9 (v:=.ref Y.o) U bl.NONE_ U)
  aM)
  (ak<|ay<|qo r bV bl.k_Low t (pv 0)<|ae (pv 1)<|ae (pv 2) ai)),?_,)
 dsimp only[bw,RI,RH];show(let p:TS:=_;aS _ p _ _ _);intro _;calc(!(a.map ut).isEmpty,.inl (_,g,U,),?_,);cases a with
 |nil=>exact eU (q _ _ (aw.refl _)<|.inr bl.q_NONE)
 |cons n a=>calc dY (x,_,_,U,e,U,x,c,o,n,a,b,U,(l,z,e,),j,d,g,zS k,q,)
def Ik(F:Fun K "verdict" "Way.verdict" Y24 f fd)(bl:Bl K mg Y)(t:ba CX0 P w K mg base 1 Y.i "chosen" ["self","codes","outcome"] (J3 K Y)):() 2 f fd ["self","codes","outcome"] (J13 K Y):=by
 refine F.ok Z24 (λp H Q E h=>?_)<|λy A j s H p Q E u h=>?_
 .let(x,c,o,a,b,rfl,(m,z,e),k,d,g,l,q):=h;rfl
 let(x,c,o,a,b,rfl,(m,z,e),k,d,g,l,q):=h
 refine(_,(au (bx (eA<|cY (pv 1) (by intro _;rfl))
  (ak<|ay<|c9 (v:=.ref Y.o) U bl.NONE_ U)
  aM)
  (ak<|ay<|qo t bV bl.k_High u (pv 0)<|ae (pv 1)<|ae (pv 2) ai)),?_,)
 dsimp only[bw,RI,RH];show(let r:TS:=_;aS _ r _ _ _);intro _;calc(!(a.map ut).isEmpty,.inl (_,g,U,),?_,);cases a with
 |nil=>exact eU (q _ _ (aw.refl _)<|.inr bl.q_NONE)
 |cons n a=>calc dY (x,_,_,U,e,U,x,c,o,n,a,b,U,(m,z,e,),k,d,g,zS l,q,)
def Il(F:Fun K "verdict" "Way.verdict" Y28 f fd)(bl:Bl K mg Y)(t:ba CX0 P w K mg base 1 Y.j "chosen" ["self","codes","outcome"] (J11 K Y)):() 2 f fd ["self","codes","outcome"] (J17 K Y):=by
 refine F.ok Z28 (λp H Q E h=>?_)<|λy A i s H p Q E u h=>?_
 .let(x,c,o,a,b,rfl,(m,z,e),k,d,g,l,q):=h;rfl
 let(x,c,o,a,b,rfl,(m,z,e),k,d,g,l,q):=h
 refine(_,(au (bx (eA<|cY (pv 1) (by intro _;rfl))
  (ak<|ay<|c9 (v:=.ref Y.o) U bl.NONE_ U)
  aM)
  (ak<|ay<|qo t bV bl.k_Sum u (pv 0)<|ae (pv 1)<|ae (pv 2) ai)),?_,)
 dsimp only[bw,RI,RH];show(let r:TS:=_;aS _ r _ _ _);intro _;calc(!(a.map ut).isEmpty,.inl (_,g,U,),?_,);cases a with
 |nil=>exact eU (q _ _ (aw.refl _)<|.inr bl.q_NONE)
 |cons n a=>calc dY (x,_,_,U,e,U,x,c,o,n,a,b,U,(m,z,e,),k,d,g,zS l,q,)
def Im(F:Fun K "grain" "grain" Y41 f fd)(bl:Bl K mg Y)(fT:⟨⟩ 2 "cut_columns" ["bounds","marks"] (dF K Y)):() 3 f fd ["bounds","marks"] (oR K Y):=by
 refine F.okA Z41 λa3 A G s H vs Q E o h=>?_
 let(a,b,O,ps,as,c,rfl,ha,hP,hb,hM,hok,q):=h
 refine(_,(au (aK (i:=2) Z41.nd U (cr U) aq)
  (au (bz sB U (aQ<|aL fT o U<|ae (pv 0)<|ae (pv 1) ai) (az (i:=3) Z41.nd U<|cr U)
  (ak<|uO (i:=2) Z41.nd U (cr U) (aG aI U bl.len_ N7<|ae (pv 3) ai) Ac))
  (ak<|ay<|pv 2))),?_,)
 dsimp only[bw,RI,RH];show(let T:TS:=_;let W:TS:=aS _ T;aS _ W _ _ _);intro _ _;calc(a,b,O,ps,as,c,U,ha,hP,hb,hM,hok,λl xs N D S L a2 C I=>?_,);let(a1,a0,x):=hok;let z:⇑xs=⇑ps:=by rw[I.1,lO];lia
 refine(l,U,(_,RF L,),(let I_:Nat->RJ:=λi d k=>k=N/\∃v:Option V,d=[↑a,↑b,N8<|.int ((gr ps c i:Nat):Int),v];bA (xs:=xs) I_ (U,N9,U,) (λi d k _ h=>by rw[h.1];exact RF L) (λi y d k e h=>?_) (λd k h=>?_)),)
 .let(u,v,rfl):=h;rw[u];let(r,n,rfl,g,R,o,X):=aJ.get I e;let hi:i<⇑xs:=(JQ.mp e).1;let(p,t):∃p,ps[i]?=N8 p:=(_,JP ∅,);let(j,M):∃j,D[i]?=N8 j:=(_,JP ∅,);let(m,J):∃m,c[i]?=N8 m:=(_,JP ∅,);let(B,fO,_):=C i p m j t J M;rw[my,t,M]at g;let g:aU p.1 p.2 j=n:=ci g;let Z:R.length=gl ps c i:=by
   rw[X.length,←g,cx,rP B fO];unfold gl;rw[cO,t,cO,J];rfl
  let b1:=CT (ps:=ps) x i;let b2:(401:Nat)^i<=401^6:=Pt ⋯ ∅;let b3:(401:Nat)^3<2^64:=⋯
  calc(_,U,r,_,U,.inl<|RF o,_,_,U,U,zi.ok<|.inl (∅,∅,),U,↑r,?_,);rw[Z];show[N8 (mt a),↑b,N8<|.int<|((gr ps c i:Nat):Int)*((gl ps c i:Nat):Int),↑r]=_;rw[show gr ps c (i+1)=gr ps c i*gl ps c i from U,JX]
 .let(u,v,rfl):=h;rw[u,z];calc(q N S)
def Io(F:Fun K "refuse_names" "refuse_names" Y67 f fd)(bl:Bl K mg Y)(v:⟨⟩ 2 "is_word" ["text"] (jI K Y)):() 3 f fd ["names"] (eK K Y):=by
 refine F.okA Z68 λN A t s H O Q E D h=>?_
 let(p,a,rfl,n,C,G,R,q):=h
 refine(_,(aN (bz sB U (aQ<|pv 0) (az (i:=1) Z68.nd U<|cr U)
  (ak (bx (eA<|jz<|aL v D U<|ae (pv 1) ai)
  (ak cX)
  aM)))
  (ak (bx (aX nh (aG pK U bl.len_ N7<|ae (cj (pH U) U bl.set_ KM<|ae (pv 0) ai) ai) (aG aI U bl.len_ N7<|ae (pv 0) ai)<|bg _)
  (ak cX)
  aM))),?_,)
 dsimp only[bw,RI,RH];show(let x:TS:=_;dj _ x _ _ _);intro _;let k:⇑(a.map v0)=⇑a:=aa _;refine(let o:RJ:=λr b=>b=H/\∃c:Option V,r=[↑p,c];(o,?_,?_,))
 .refine(p,U,(_,n,),(let o:Nat->RJ:=λi m b=>b=H/\∃c:Option V,m=[↑p,c];bA (xs:=a.map v0) o (U,_,U,) (λi m b _ h=>by rw[h.1];exact n) (λi y m b e h=>?_) (λm b h=>h)),);let(L,c,rfl):=h;rw[L];let(z,rfl,I):=Av e;let d:=C z<|JR I;let B:⇑z<=1000:=by
   let g:=d;unfold isw at g;simp only[Iv,decide_eq_true_eq]at g;lia
  calc(z,U,B,_,U,?_,);rw[d];exact dY (U,_,U,)
 rintro M S ⟨J,c,rfl⟩;rw[J];calc(p,a,U,n,∅,λl j=>(l,a,U,ag,∅,p,_,U,.inl<|(aj j _).seq n,_,_,U,U,_,U,?_,),);let u:=qr a ⇑a<|vk _;rw[fm]at u;calc mh (by rw[k,u.mpr G];lia) (q _<|aj j _)
def Ip(F:Fun K "refuse_row" "refuse_row" Y68 f fd)(bl:Bl K mg Y)(fq:ba CX0 P w K mg base 2 Y.l "has_code" ["self","value"] (bT K Y))(gm:ba CX0 P w K mg base 2 Y.m "has_code" ["self","value"] (cg K Y)):() 3 f fd ["domains","outcome","cells","code"] (fQ K Y):=by
 refine F.okA Z69 λa2 A a0 s H vs Q E hr h=>?_
 let(z,n,cl,dv,xs,bs,o,u,rfl,N,I,hO,O,J,ok,q):=h
 refine(_,(au (bx (aX Cr (aG aI U bl.len_ N7<|ae (pv 2) ai) (aG aI U bl.len_ N7<|ae (pv 0) ai)<|bg _)
  (ak cX)
  aM)
  (aN (bz sB U (rj U bl.zip_<|ae (pv 0)<|ae (pv 2) ai) (fL U<|aF (az (i:=4) Z69.nd U<|cr U)<|aF (az (i:=5) Z69.nd U<|cr U) bM)
  (ak (bz sB U (aQ<|pv 5) (fL U<|aF (az (i:=6) Z69.nd U<|cr U)<|aF (az (i:=7) Z69.nd U<|cr U) bM)
  (ak (bx (PW.pt<|EG (aX nh (pv 6) (cc (pv 4) U)<|bg _)<|C6<|aX ni (pv 7) (cc (pv 4) U)<|bg _)
  (ak cX)
  aM)))))
  (ak (bx (eA<|jz<|zP (tj fq bl.k_Numbers<|tj gm bl.k_Words Fo) bV hr (pv 1)<|ae (pv 3) ai)
  (ak cX)
  aM)))),?_,)
 dsimp only[bw,RI,RH];show(let r2:TS:=_;let r1:TS:=dj _ r2;aS _ r1 _ _ _);intro _ _;let Z:∀(C:Ki),(C=Y.l\/C=Y.m)->Cls K C/\NoAttr K C s!"low"/\NoAttr K C s!"high":=λC h=>by
  rcases h with rfl|rfl
  .exact(bl.k_Numbers,bl.na_Numbers_low,bl.na_Numbers_high,)
  .exact(bl.k_Words,bl.na_Words_low,bl.na_Words_high,)
 let L:⇑xs=⇑dv:=by rw[J.1,ok.len,I.1]
 refine(cl,_,U,.inl<|RF O,z,_,U,.inl<|N,U,_,U,Fd (by rw[L]) ?_,);refine(let G:RJ:=λW c=>aw H c/\E4 λD B k g:Option V=>W=[↑z,↑n,↑cl,N8<|.int u.2,D,B,k,g];(G,?_,?_,))
 .refine(z,cl,U,(_,N,),(_,RF O,),(let G:Nat->RJ:=λi d c=>aw H c/\E4 λD B k g:Option V=>d=[↑z,↑n,↑cl,N8<|.int u.2,D,B,k,g];rm (xs:=dv) (ys:=xs) G (aw.refl _,_,_,_,_,U,) (λi d c h=>(h.1.seq N,RF<|h.1 _ _ O,)) (λi x y d c T ex ey h hT=>?_) (λd c h=>h)),);let(sm,D,B,k,g,rfl):=h;let s2:=sm.trans<|aj hT<|.tup [x,y];let eT:upd c T (.tup [x,y]) T=N8 (.tup [x,y]):=ag;generalize upd c T (.tup [x,y])=H2 at s2 eT⊢;let(a,b,rfl,eb,hb):=I.get ex;let(l,ps,rfl,ep,hl):=aJ.get J ey;let(C,t,S,fs,v,f1,f2,_):=hb.same s2;let(k1,k2,k3):=Z C t;let(_,ys,el,hp):=hl.same s2;calc(T,_,U,RG eT,U,_,_,U,_,_,U,U,?_,);refine(l,U,(_,RF el,),(let G:Nat->RJ:=λj d c=>c=H2/\E2 λk g:Option V=>d=[↑z,↑n,↑cl,N8<|.int u.2,↑a,↑l,k,g];bA (xs:=ys) G (U,_,_,U,) (λj d c _ h=>by rw[h.1];exact RF el) (λj y d c e h=>?_) (λd c h=>?_)),)
  .let(R,k,g,rfl):=h;rw[R];let(p,r,e1,rfl,X):=hp.get e;let(i1,i2):=ok.inn i ps b ep eb p<|JR e1;calc(r,_,U,RG X,U,_,_,U,_,_,U,U,?_,);calc(a,_,_,_,_,U,v,k1,k2,f1,_,_,U,U,_,U,mh ∅ ?_,);exact(a,_,_,_,_,U,v,k1,k3,f2,_,_,U,U,_,U,mh ∅ (U,_,_,U,),)
  .let(R,k,g,rfl):=h;rw[R];exact(s2,_,_,_,_,U,)
 rintro a1 H3 ⟨M,D,B,k,g,rfl⟩;let(C,t,hd):=hO.same M;let(S,fs,v,f1,f2,f3):=id hd;rcases t with rfl|rfl
 .exact(n,_,S,fs,U,.head _,v,f3,n,o,u.2,U,hd,ok.lo,ok.hi,_,U,dY<|q _ M,)
 .exact(n,_,S,fs,U,.tail _<|.head _,v,f3,n,o,u.2,U,hd,ok.lo,ok.hi,_,U,dY<|q _ M,)
def Iq(F:Fun K "mask" "mask" Y59 f fd)(bl:Bl K mg Y)(Eu:⟨⟩ 2 "fits" ["table","k","codes"] (sh K Y)):() 3 f fd ["table","codes"] (kM K Y):=by
 refine F.okA Z59 λa4 A z s H vs Q E S h=>?_
 let(t,c,a,wi,o,g,rfl,(G,ou,Z,fs,r,wy,J,M,a2,a3,m,O,a0,a1,R,ua),W,p,q):=h;calc(_,(ak<|ay<|aG (jw U) U bl.sum_ P2<|ae (dW (eQ U bl.range_<|ae (aG aI U bl.len_ N7<|ae (cc (pv 0) U) ai) ai) (de (N:=["k","table","codes"]) (fr:=[0,1]) (cl:=[("table",↥s+1),("codes",↥s+1+1)]) U U (~~~0) (~~~0) U (~~~0) U U U (ia.mpr (U,ia.mpr (U,ji _,),)) U) U (λ_ _ _ _=>(mP<|jz<|aL Eu S U<|ae (pv 1)<|ae (pv 0)<|ae (pv 2) ai))<|λ_ _ _ _=>(aD Dk aq<|pv 0)) ai),?_,);let l:⇑r=⇑a:=O.1
 refine(t,_,_,_,_,U,J,bl.k_Table,bl.na_Table_rows,M,G,_,U,.inl<|RF m,_,U,(by show -(2^62)<=((⇑r:Nat):Int);lia),(by show((⇑r:Nat):Int)<2^62;lia),nB (λD i zs j=>aw H j/\j D=N8 (.lst zs)/\∃b:Oo Int,zs=b.map ut/\b.sum=((msk (gN a g) i:Nat):Int)/\⇑b<=i)
  (λD u=>(aj u _,ag,[],U,U,v3 _,)) (λD i zs j u hi h=>?_) (λD zs j u h=>?_),)
 .let(d,x,b,rfl,k,T):=h;let y:i<⇑a:=by first|lia|(rw[←l];lia)
  let(e,v):∃e,a[i]?=N8 e:=(_,JP y,);let L:a.getD i ([],0)=e:=getD_at v;refine(t,G,c,Z,fs,r,a,i,e,g,by rw[QR],d _ _ J,M,d _ _ m,O.same d,v,d.seq W,p e<|JR v,λH3 C=>(_,U,?_,),);let B:=d.trans C;let n:=C _ _ x;cases hb:gf e.1 g with
  |true =>
   refine eU (_,_,U,U,(∅,∅,⋯,),df.mk hi n (aC (by rw[aa];lia)) (B.upd u,ag,b++[1*2^(0+(i:Int)).toNat],by simp,?_,by simp;lia,),);let X:(0+(i:Int)).toNat=i:=∅
   rw[X,nS,k,kC,show gN a g i=Oa by unfold gN;rw[L];exact hb];simp;lia
  |false =>
   calc dY<|dZ.mk (zs:=b.map ut) hi (B,n,b,U,?_,∅,);rw[k,kC,show gN a g i=Ob by unfold gN;rw[L];exact hb];simp
 .let(d,x,b,rfl,k,T):=h;rw[JS]at k;calc(D,b,U,RF x,?_,);let I:=q j d;rw[←l,←k]at I;calc I
def Ir(F:Fun K "table_marks" "table_marks" Y73 f fd)(bl:Bl K mg Y)(oV:⟨⟩ 2 "column_marks" ["table","column"] (eJ K Y)):() 3 f fd ["table"] (fe K Y):=by
 refine F.okA Z75 λa4 A a0 s H vs Q E hr h=>?_
 let(t,G,bs,o,L,rfl,u,hb,W,rS,M,hL,q):=h;calc(_,(ak<|ay<|dW (eQ U bl.range_<|ae (aG aI U bl.len_ N7<|ae (cc (pv 0) U) ai) ai) (de (N:=["column","table"]) (fr:=[0]) (cl:=[("table",↥s+1)]) U U (~~~0) (~~~0) U (~~~0) U U U (ia.mpr (U,ji _,)) U) U (λ_ _ _ _=>b8)<|λ_ _ _ _=>(aL oV hr U<|ae (pv 1)<|ae (pv 0) ai)),?_,);let(rl,dx,dl,fs,xs,ht,f1,f2,X,O,a3,hR):=id u;let a1:G.length=⇑bs:=O.1;refine⟨t,_,_,_,_,U,ht,bl.k_Table,bl.na_Table_domains,f2,dl,_,U,.inl<|RF X,_,U,(by show -(2^62)<=((G.length:Nat):Int);lia),(by show((G.length:Nat):Int)<2^62;lia),(let I_:Ki->Nat->Oo V->RK:=λD i v d=>aw H d/\d D=N8 (.lst v)/\∃(m:Oo Ki)(a:Oo (Oo Int)),v=m.map mt/\MLs (hide d D) m a/\⇑a=i/\∀(c:Nat)(b:Int×Int)(j:Oo Int),bs[c]?=N8 b->a[c]?=N8 j->j.Pairwise (· < ·)/\∀x,x∈j↔MkC o c b x;nB I_ (λD n=>(aj n _,ag,[],[],U,MLs.nil,U,λc b j _ e=>by simp at e,)) (λD i v d n hi h=>?_) (λD v d n h=>?_))⟩
 .let(y,C,m,a,rfl,B,p,g):=h;let r:i<⇑bs:=∅
  let(b,I):∃b,bs[i]?=N8 b:=(_,JP r,);let(T,S):=hL i b I;refine(t,i,G,bs,o,b,L i,by rw[QR],u.same y,I,W,λw hw=>by rw[rS w hw];exact r,M i,T,S,λl cs H2 s2 nl el pw hm=>?_,);let Z:=s2 _ _ C;let nD:l≠D:=λz=>by rw[z,C]at nl;cases nl
  let a2:=B.1;refine df.mk hi Z (aC (by rw[aa];lia)) ((y.trans s2).upd n,ag,m++[l],a++[cs],by rw[fj];rfl,?_,by rw[cn,il,p],λc b' j J k=>?_,)
  .rw[ug];exact MLs.snoc (B.same<|qN s2)<|gz el nD
  .by_cases hc:c<⇑a
   .rw[fS hc]at k;exact g c b' j J k
   .rw[jy ∅]at k;let h0:=(JQ.mp k).1;rw[il]at h0;let R:c=i:=∅
    subst R;rw[I]at J;cases J;rw[show c-⇑a=0 by lia]at k;cases k;exact(pw,hm,)
 .let(y,C,m,a,rfl,B,p,g):=h;calc q D m a d y n C (B.same<|xm d D) ∅ g
def Iu(F:Fun K "way_by" "way_by" Y75 f fd)(bl:Bl K mg Y)(k_First:bp CX0 P w K mg base 2 "First" Y.e ["self"] (J0 K Y))(k_Only:bp CX0 P w K mg base 2 "Only" Y.f ["self"] (J8 K Y))(k_Like:bp CX0 P w K mg base 2 "Like" Y.g ["self"] (J4 K Y))(k_Low:bp CX0 P w K mg base 2 "Low" Y.h ["self"] (J6 K Y))(k_High:bp CX0 P w K mg base 2 "High" Y.i ["self"] (J2 K Y))(k_Sum:bp CX0 P w K mg base 2 "Sum" Y.j ["self"] (J10 K Y)):() 4 f fd ["name"] (i7 K Y):=by
 refine F.okA Z78 λa3 A a2 s H vs Q E W h=>?_
 let(z,rfl,hz,q):=h
 refine(_,(au (bz sB U (aQ<|aW<|ae (lu k_First bV W U)<|ae (lu k_Only bV W U)<|ae (lu k_Like bV W U)<|ae (lu k_Low bV W U)<|ae (lu k_High bV W U)<|ae (lu k_Sum bV W U) ai) (az (i:=1) Z78.nd U<|cr U)
  (ak (bx (aX eS (cc (pv 1) U) (pv 0)<|bg _)
  (ak<|ay<|pv 1)
  aM)))
  (ak cX)),?_,)
 dsimp only[bw,RI,RH];show(let r1:TS:=_;aS _ r1 _ _ _);intro _;refine λr J c b d=>(r,J,U,ag,U,?_,)
 let t0:aw H (upd (upd (upd H J<|.own r) r<|.ins Y.e J []) r<|.ins Y.e J [("called",.str s!"first")]):=((aj b _).upd c).upd c;let t:WyN Y.e (upd (upd (upd H J<|.own r) r<|.ins Y.e J []) r<|.ins Y.e J [("called",.str s!"first")]) r s!"first":=(J,ag,);generalize upd (upd (upd H J<|.own r) r<|.ins Y.e J []) r (.ins Y.e J [("called",.str s!"first")])=H0 at t0 t⊢;clear c b d;refine λp I c b d=>(p,I,U,ag,U,?_,)
 let t1:aw H0 (upd (upd (upd H0 I<|.own p) p<|.ins Y.f I []) p<|.ins Y.f I [("called",.str s!"only")]):=((aj b _).upd c).upd c;let u:WyN Y.f (upd (upd (upd H0 I<|.own p) p<|.ins Y.f I []) p<|.ins Y.f I [("called",.str s!"only")]) p s!"only":=(I,ag,);generalize upd (upd (upd H0 I<|.own p) p<|.ins Y.f I []) p (.ins Y.f I [("called",.str s!"only")])=H1 at t1 u⊢;clear c b d;let t:=t.same t1;refine λo G c b d=>(o,G,U,ag,U,?_,)
 let t2:aw H1 (upd (upd (upd H1 G<|.own o) o<|.ins Y.g G []) o<|.ins Y.g G [("called",.str s!"like")]):=((aj b _).upd c).upd c;let L:WyN Y.g (upd (upd (upd H1 G<|.own o) o<|.ins Y.g G []) o<|.ins Y.g G [("called",.str s!"like")]) o s!"like":=(G,ag,);generalize upd (upd (upd H1 G<|.own o) o<|.ins Y.g G []) o (.ins Y.g G [("called",.str s!"like")])=H2 at t2 L⊢;clear c b d;let t:=t.same t2;let u:=u.same t2;refine λw3 D c b d=>(w3,D,U,ag,U,?_,)
 let X:aw H2 (upd (upd (upd H2 D<|.own w3) w3<|.ins Y.h D []) w3<|.ins Y.h D [("called",.str s!"low")]):=((aj b _).upd c).upd c;let M:WyN Y.h (upd (upd (upd H2 D<|.own w3) w3<|.ins Y.h D []) w3<|.ins Y.h D [("called",.str s!"low")]) w3 s!"low":=(D,ag,);generalize upd (upd (upd H2 D<|.own w3) w3<|.ins Y.h D []) w3 (.ins Y.h D [("called",.str s!"low")])=H3 at X M⊢;clear c b d;let t:=t.same X;let u:=u.same X;let L:=L.same X;refine λm B c b d=>(m,B,U,ag,U,?_,)
 let T:aw H3 (upd (upd (upd H3 B<|.own m) m<|.ins Y.i B []) m<|.ins Y.i B [("called",.str s!"high")]):=((aj b _).upd c).upd c;let S:WyN Y.i (upd (upd (upd H3 B<|.own m) m<|.ins Y.i B []) m<|.ins Y.i B [("called",.str s!"high")]) m s!"high":=(B,ag,);generalize upd (upd (upd H3 B<|.own m) m<|.ins Y.i B []) m (.ins Y.i B [("called",.str s!"high")])=H4 at T S⊢;clear c b d;let t:=t.same T;let u:=u.same T;let L:=L.same T;let M:=M.same T;refine λk v c b d=>(k,v,U,ag,U,?_,)
 let O:aw H4 (upd (upd (upd H4 v<|.own k) k<|.ins Y.j v []) k<|.ins Y.j v [("called",.str s!"sum")]):=((aj b _).upd c).upd c;let y5:WyN Y.j (upd (upd (upd H4 v<|.own k) k<|.ins Y.j v []) k<|.ins Y.j v [("called",.str s!"sum")]) k s!"sum":=(v,ag,);generalize upd (upd (upd H4 v<|.own k) k<|.ins Y.j v []) k (.ins Y.j v [("called",.str s!"sum")])=H5 at O y5⊢;clear c b d;let t:=t.same O;let u:=u.same O;let L:=L.same O;let M:=M.same O;let S:=S.same O;let s5:aw H H5:=((((t0.trans t1).trans t2).trans X).trans T).trans O;refine((by show 6<=Kk;decide),λl hl=>?_,);let N:aw H5 (upd H5 l<|.lst [mt r,.ref p,.ref o,.ref w3,.ref m,.ref k]):=aj hl _;let el:upd H5 l (.lst [mt r,.ref p,.ref o,.ref w3,.ref m,.ref k]) l=N8 (.lst [mt r,.ref p,.ref o,.ref w3,.ref m,.ref k]):=ag;generalize upd H5 l (.lst [mt r,.ref p,.ref o,.ref w3,.ref m,.ref k])=H6 at N el⊢;let t:=t.same N;let u:=u.same N;let L:=L.same N;let M:=M.same N;let S:=S.same N;let y5:=y5.same N;let sA:=s5.trans N;let a0:∀(i:Nat)(x:V),[mt r,.ref p,.ref o,.ref w3,.ref m,.ref k][i]?=N8 x->∃(a C:Ki)(y:Str),x=.ref a/\(cl6 Y.e Y.f Y.g Y.h Y.i Y.j)[i]?=N8 C/\six[i]?=N8 y/\WyN C H6 a y/\Cls K C/\NoAttr K C s!"called":=λi x e=>by
  match i,e with
  |0,e=>cases e;exact(r,Y.e,_,U,U,U,t,bl.k_First,bl.na_First_called,)
  |1,e=>cases e;exact(p,Y.f,_,U,U,U,u,bl.k_Only,bl.na_Only_called,)
  |2,e=>cases e;exact(o,Y.g,_,U,U,U,L,bl.k_Like,bl.na_Like_called,)
  |3,e=>cases e;exact(w3,Y.h,_,U,U,U,M,bl.k_Low,bl.na_Low_called,)
  |4,e=>cases e;exact(m,Y.i,_,U,U,U,S,bl.k_High,bl.na_High_called,)
  |5,e=>cases e;exact(k,Y.j,_,U,U,U,y5,bl.k_Sum,bl.na_Sum_called,)
  |n+6,e=>simp at e
 refine(l,U,(_,RF el,),(let I_:Nat->RJ:=λi Z H'=>(∃c1:Option V,Z=[N8 (.str z),c1])/\H'=H6/\∀j:Nat,j<i->six[j]?≠N8 z;bA (xs:=[mt r,.ref p,.ref o,.ref w3,.ref m,.ref k]) I_ ((_,U,),U,(λj h=>Og h<|zE j),) (λi Z H' _ h=>by rw[h.2.1];exact RF el) (λi x Z H' e h=>?_) (λZ H' h=>?_)),)
 .let((c1,rfl),e0,R):=h;rw[e0];let(a,C,y,rfl,eC,ey,(dx,ha),hc,hn):=a0 i x e;calc(a,_,_,_,_,U,ha,hc,hn,U,U,_,U,?_,);refine eN (λg=>?_)<|λg=>?_
  .let g':v0 y=v0 z:=l0 g;injection g' with g';subst g';exact(q i ey a C H6 sA eC (dx,ha,))
  .refine((_,U,),U,λj hj=>?_,);by_cases a1:j<i
   .exact R j a1
   .let:j=i:=∅
    subst this;rw[ey];intro q2;exact(l7 g) (by injection q2 with q2;rw[q2])
 .let((c1,rfl),e0,R):=h;rw[e0];let(j,hj,ej):=Rc hz;calc Og (by rw[JP hj,ej]) (R j hj)
def Iw(F:Fun K "refuse_way" "refuse_way" Y69 f fd)(bl:Bl K mg Y)(k:⟨⟩ 4 "way_by" ["name"] (i7 K Y)):() 5 f fd ["way","outcome"] (fR K Y):=by
 refine F.okA Z70 λu A g s H y Q E r h=>?_
 let(z,B,rfl,l,d,q):=h
 refine(_,(ak (bx (PW.pt<|yY (aX eS (cc (aL k r U<|ae (pv 0) ai) U) bI<|bg _)<|wB<|jz<|aG iT U bl.isinstance_ lw<|ae (pv 1)<|ae (c9 (v:=.ref Y.m) U bl.Words_ U) ai)
  (ak cX)
  aM)),?_,)
 calc(z,U,l,λi D x C J b a p=>?_,);let j:Cls K C/\NoAttr K C s!"called":=by
  match i,a with
  |0,a=>cases a;exact(bl.k_First,bl.na_First_called,)
  |1,a=>cases a;exact(bl.k_Only,bl.na_Only_called,)
  |2,a=>cases a;exact(bl.k_Like,bl.na_Like_called,)
  |3,a=>cases a;exact(bl.k_Low,bl.na_Low_called,)
  |4,a=>cases a;exact(bl.k_High,bl.na_High_called,)
  |5,a=>cases a;exact(bl.k_Sum,bl.na_Sum_called,)
  |n+6,a=>simp[cl6]at a
 let(I,o):=p;calc(x,_,_,_,_,U,o,j.1,j.2,U,U,_,U,?_,);by_cases c:z=s!"sum"
 .let(G,fs,t):=d c;exact qC (by rw[c]) (_,_,_,_,Ob,U,.ref _,bl.t_Numbers.ty<|b _ _ t,bl.f_nw,_,U,dY<|q _ b,)
 .exact mh (λe=>by injection e with e;exact c e) (dY<|q _ b)
def Iy(F:Fun K "judged" "judged" Y45 f fd)(bl:Bl K mg Y)(jl:ba CX0 P w K mg base 4 Y.e "verdict" ["self","codes","outcome"] (J12 K Y))(jR:ba CX0 P w K mg base 4 Y.f "verdict" ["self","codes","outcome"] (J16 K Y))(jS:ba CX0 P w K mg base 4 Y.g "verdict" ["self","codes","outcome"] (J14 K Y))(kN:ba CX0 P w K mg base 4 Y.h "verdict" ["self","codes","outcome"] (J15 K Y))(jT:ba CX0 P w K mg base 4 Y.i "verdict" ["self","codes","outcome"] (J13 K Y))(kO:ba CX0 P w K mg base 4 Y.j "verdict" ["self","codes","outcome"] (J17 K Y))(oW:⟨⟩ 4 "way_by" ["name"] (i7 K Y)):() 5 f fd ["table","rows"] (gi K Y):=by
 refine F.okA Z45 λa5 A a4 s H vs Q E hr h=>?_
 let(t,a,wi,o,m,rfl,(rl,ou,dx,fs,xs,wy,O,hf,a1,a2,y,hR,v,a0,z,ua),q):=h
 refine(_,(au (tK (i:=2) Z45.nd U (cr U) (wW U bl.enumerate_<|ae (cc (pv 0) U) ai) (d7 (N:=["k","row","rows"]) (k:=2) (fr:=[1]) (cl:=[("rows",↥s+1)]) U U (~~~0) (~~~0) U U (ia.mpr (U,ji _,)) U) U (λ_ _ _ _=>(jv (K:=K) (n:=2) U U<|aF (az (i:=0) (show(["k","row","rows"]:Oo Str).Nodup by decide+kernel) U (cr U) (v6 U)) (aF (az (i:=1) (show(["k","row","rows"]:Oo Str).Nodup by decide+kernel) U (cr U) (v6 U)) bM))) (λ_ _ _ _=>(mP<|yj (K:=K) U<|aD Dn (aD Dl (pv 2)<|pv 0) aq)) (λ_ _ _ _=>(aP (mO (K:=K) U) (pv 1) aq<|λ_ _=>U)))
  (ak<|ay<|zP (tj jl bl.k_First<|tj jR bl.k_Only<|tj jS bl.k_Like<|tj kN bl.k_Low<|tj jT bl.k_High<|tj kO bl.k_Sum Fo) bV hr (aL oW hr U<|ae (cc (pv 0) U) ai)<|ae (pv 2)<|ae (cc (pv 0) U) ai)),?_,)
 dsimp only[bw,RI,RH];show(let r1:TS:=_;aS _ r1 _ _ _);intro _;let S:⇑xs=⇑a:=hR.1
 refine(t,_,_,_,_,U,O,bl.k_Table,bl.na_Table_rows,hf,rl,U,(_,RF y,),vH (xs:=xs) (λD i zs c=>aw H c/\c D=N8 (.lst zs)/\zs=(pkF a (eM m) i).map ut)
  (λD u=>(aj u _,ag,U,)) (λD i zs c u _ h=>RF<|h.1 _ _ y) (λD i x zs c T u ex h hT ts X=>?_) (λD zs c u h=>?_),)
 .let(I,L,rfl):=h;let s2:=I.trans<|aj hT<|.tup [.int i,x];let eT:upd c T (.tup [.int i,x]) T=N8 (.tup [.int i,x]):=ag;let d:=aj hT (.tup [.int i,x]) _ _ L;generalize upd c T (.tup [.int i,x])=H2 at s2 eT d⊢;let(r,w_,rfl,ew,ce,cv,g1,_,g2,g3):=aJ.get (hR.same s2) ex;let hi:i<⇑xs:=(JQ.mp ex).1;let hg:a.getD i ([],0)=w_:=getD_at ew;let Z:=xl a (eM m) i;let(G,B,rfl):∃G B,ts=[G,B]:=by
   match ts,X with
   | [G,B],_=>exact(G,B,U,)
  calc(T,_,U,RG eT,U,_,_,U,_,_,U,U,([N8 (.int i),↑r],U,U,),?_,);calc(_,_,U,U,PD _,_,_,U,U,eM m i,U,?_,);let p:=kD a (eM m) i;rw[hg]at p;cases hb:eM m i with
  |true =>
   rw[hb]at p;refine eU (r,_,_,_,U,U,RG g1,U,df.mk hi d (aC (by rw[aa];lia)) (s2.upd u,ag,?_,),);rw[p,fj];rfl
  |false =>
   rw[hb]at p;calc dY<|dZ.mk (zs:=(pkF a (eM m) i).map ut) hi (s2,d,?_,);rw[p];simp
 .let(I,L,rfl):=h;rw[S]at L;let W:wy∈six:=JR v;calc(t,_,_,_,_,U,I _ _ O,bl.k_Table,bl.na_Table_way,a1,wy,U,W,λJ a3 x C H2 s2 b hw=>?_,);let ii:J=wi:=BO a3 v;subst ii;let M:=I.trans s2;let(dw,hx):=hw;let Z:=xl a (eM m) ⇑a;let R:(C,kB K C Y.l Y.m J)∈[(Y.e,kB K Y.e Y.l Y.m 0),(Y.f,kB K Y.f Y.l Y.m 1),(Y.g,kB K Y.g Y.l Y.m 2),(Y.h,kB K Y.h Y.l Y.m 3),(Y.i,kB K Y.i Y.l Y.m 4),(Y.j,kB K Y.j Y.l Y.m 5)]:=by
   match J,b with
   |0,b=>cases b;exact .head _
   |1,b=>cases b;exact .tail _<|.head _
   |2,b=>cases b;exact .tail _<|.tail _<|.head _
   |3,b=>cases b;exact .tail _<|.tail _<|.tail _<|.head _
   |4,b=>cases b;exact .tail _<|.tail _<|.tail _<|.tail _<|.head _
   |5,b=>cases b;exact .tail _<|.tail _<|.tail _<|.tail _<|.tail _<|.head _
   |n+6,b=>simp[cl6]at b
  calc(x,(C,kB K C Y.l Y.m J),dw,_,U,R,hx,U,t,_,_,_,_,U,M _ _ O,bl.k_Table,bl.na_Table_outcome,a2,x,D,ou,_,o,U,(dw,_,hx,),a0.same M,z,RF<|s2 _ _ L,∅,λr H3 s3 h3=>q r H3 (M.trans s3) h3,)
def Iz(F:Fun K "__init__" "Table.__init__" Y16 f fd)(bl:Bl K mg Y)(oX:⟨⟩ 5 "refuse_names" ["names"] (eK K Y))(mG:⟨⟩ 5 "refuse_counts" ["names","rows"] (dR K Y))(si:⟨⟩ 5 "refuse_way" ["way","outcome"] (fR K Y))(sj:⟨⟩ 5 "refuse_row" ["domains","outcome","cells","code"] (fQ K Y))(yQ:⟨⟩ 5 "own_row" ["cells","code"] (jH K Y)):() 6 f fd ["self","name","names","domains","outcome","way","rows"] (bH K Y):=by
 refine F.okA Z16 λd3 A c5 s H vs Q E hr h=>?_
 let(x,g,na,dl,m,rl,c,B,l,C,rx,bs,o,a1,rfl,hx,S,hw,b5,h1,h4,b0,b1,a0,c1,b4,J,hR,ua,d2,hok,q):=h
 refine(_,(au (bj<|aL oX hr U<|ae (aD rf (aW<|ae (pv 1) ai)<|pv 2) ai)
  (au (bj<|aL mG hr U<|ae (pv 2)<|ae (pv 6) ai)
  (au (bj<|aL si hr U<|ae (pv 5)<|ae (pv 4) ai)
  (aN (bz sB U (aQ<|pv 6) (fL U<|aF (az (i:=7) Z16.nd U<|cr U)<|aF (az (i:=8) Z16.nd U<|cr U) bM)
  (ak<|bj<|aL sj hr U<|ae (pv 3)<|ae (pv 4)<|ae (pv 7)<|ae (pv 8) ai))
  (au (dz (pv 0) (pv 1) U)
  (au (dz (pv 0) (cj gq U bl.list_ GT<|ae (pv 2) ai) U)
  (au (dz (pv 0) (cj gq U bl.list_ GT<|ae (pv 3) ai) U)
  (au (dz (pv 0) (pv 4) U)
  (au (dz (pv 0) (pv 5) U)
  (ak<|dz (pv 0) (d6 (aQ<|pv 6) (dE (N:=["cells","code"]) (k:=2) U U (~~~0) (~~~0)<|~~~0) U (λ_ _ _ _=>(jv (K:=K) (n:=2) U U<|aF (az (i:=0) (show(["cells","code"]:Oo Str).Nodup by decide+kernel) U (cr U) (v6 U)) (aF (az (i:=1) (show(["cells","code"]:Oo Str).Nodup by decide+kernel) U (cr U) (v6 U)) bM))) (λ_ _ _ _=>b8) (λ_ _ _ _=>(aL yQ hr U<|ae (pv 0)<|ae (pv 1) ai))) U)))))))))),?_,)
 dsimp only[bw,RI,RH];show(let r9:TS:=_;let r8:TS:=aS _ r9;let r7:TS:=aS _ r8;let r6:TS:=aS _ r7;let r5:TS:=aS _ r6;let r4:TS:=aS _ r5;let r3:TS:=dj _ r4;let r2:TS:=aS _ r3;let r1:TS:=aS _ r2;aS _ r1 _ _ _);intro _ _ _ _ _ _ _ _ _;let Z:⇑(l.map v0)=⇑l:=aa _;refine((by show 1<=Kk;decide),λl1 c0=>?_,);let s1:=aj c0<|.lst [.str c];let e1:upd H l1 (.lst [.str c]) l1=N8 (.lst [.str c]):=ag;generalize upd H l1 (.lst [.str c])=H1 at s1 e1⊢;refine(l1,na,_,_,U,U,e1,s1 _ _ S,(by rw[Z];show 1+⇑l<=Kk;exact big ∅),λl2 b6=>?_,);let s2:=s1.trans<|aj b6<|.lst<|[v0 c]++l.map v0;let e2:upd H1 l2 (.lst<|[v0 c]++l.map v0) l2=N8 (.lst<|(c :: l).map v0):=ag;generalize upd H1 l2 (.lst<|[v0 c]++l.map v0)=H2 at s2 e2⊢;refine(l2,c :: l,U,RF e2,hw,b5,by rw[en];lia,λH3 t3=>?_,);let s3:=s2.trans t3;refine(na,rl,_,_,U,RF<|s3 _ _ S,RF<|s3 _ _ J,by rw[Z];exact h1,by rw[Z];exact h4,ua,?_,);calc(B,m,U,b0,(λz=>let ⟨dx',fs',e'⟩:=b1 z;(dx',fs',s3 _ _ e',)),λH4 t4=>?_,);let s4:=s3.trans t4;refine(let I_:RJ:=λa6 v=>aw H v/\E2 λc7 c8:Option V=>a6=[↑x,N8<|.str c,↑na,↑dl,↑m,N8<|.str B,↑rl,c7,c8];(I_,?_,?_,))
 .refine(rl,U,(_,RF<|s4 _ _ J,),(let I_:Nat->RJ:=λi σ v=>aw H v/\E2 λc7 c8:Option V=>σ=[↑x,N8<|.str c,↑na,↑dl,↑m,N8<|.str B,↑rl,c7,c8];bA (xs:=rx) I_ (s4,_,_,U,) (λi σ v _ h=>RF<|h.1 _ _ J) (λi y σ v e h=>?_) (λσ v h=>h)),);let(u,c7,c8,rfl):=h;let(r,w_,rfl,ew,ce,cv,g1,_,g2,g3):=aJ.get (hR.same u) e;calc(r,_,U,RG g1,U,_,_,U,_,_,U,U,?_,);exact(dl,m,ce,C,cv,bs,o,w_,U,RF<|u _ _ a0,aJ.mono c1 λ_ _ p=>p.same u,b4.same u,g2,g3,hok w_<|JR ew,λH2 t2=>(u.trans t2,_,_,U,),)
 rintro c6 G ⟨W,c7,c8,rfl⟩;let x5:=W _ _ hx;let a8:na≠x:=js S hx (by intro z;cases z);let c3:dl≠x:=js a0 hx (by intro z;cases z);let a7:rl≠x:=js J hx (by intro z;cases z);let k5:∀b o,b≠x->H b=N8 o->G b=N8 o:=λb o _ e=>W b o e
 let R5:=RL.hide x5<|hR.same W;refine(x,_,g,_,U,x5,bl.k_Table,bl.na_Table_name,(by show 0<1000;decide),?_,);let k6:∀b o,b≠x->G b=N8 o->upd G x (.ins Y.n g [(s!"name",.str c)]) b=N8 o:=λb o t e=>(av t).trans e
 let x6:upd G x (.ins Y.n g [(s!"name",.str c)]) x=N8 (.ins Y.n g [(s!"name",.str c)]):=ag;let g6:upd G x (.ins Y.n g<|bK s!"name" (.str c) [])=upd G x (.ins Y.n g [(s!"name",.str c)]):=rfl;rw[g6];clear g6;generalize upd G x (.ins Y.n g [(s!"name",.str c)])=H6 at k6 x6⊢;refine(na,_,U,.inl<|RF<|k6 _ _ a8<|W _ _ S,λd T=>(x,_,g,_,U,eF x6 T,bl.k_Table,bl.na_Table_names,(by show 1<1000;decide),?_,),);let g7:upd (upd H6 d<|.lst<|l.map v0) x (.ins Y.n g<|bK s!"names" (mt d) [(s!"name",v0 c)])=upd (upd H6 d<|.lst<|l.map v0) x (.ins Y.n g [(s!"name",v0 c),(s!"names",mt d)]):=by rw[pf1]
 rw[g7];clear g7;let k7:∀b o,b≠x->G b=N8 o->upd (upd H6 d<|.lst<|l.map v0) x (.ins Y.n g [(s!"name",v0 c),(s!"names",mt d)]) b=N8 o:=λb o t e=>(av t).trans<|eF (k6 b o t e) T
 let x7:upd (upd H6 d<|.lst<|l.map v0) x (.ins Y.n g [(s!"name",v0 c),(s!"names",mt d)]) x=N8 (.ins Y.n g [(s!"name",v0 c),(s!"names",mt d)]):=ag;let I:d≠x:=λz=>by rw[z,x6]at T;cases T
 let j7:upd (upd H6 d<|.lst<|l.map v0) x (.ins Y.n g [(s!"name",v0 c),(s!"names",mt d)]) d=N8 (.lst<|l.map v0):=(av I).trans ag;generalize upd (upd H6 d<|.lst<|l.map v0) x (.ins Y.n g [(s!"name",v0 c),(s!"names",mt d)])=H7 at k7 x7 j7⊢;refine(dl,_,U,.inl<|RF<|k7 _ _ c3<|W _ _ a0,λj L=>(x,_,g,_,U,eF x7 L,bl.k_Table,bl.na_Table_domains,(by show 2<1000;decide),?_,),);let g8:upd (upd H7 j<|.lst C) x (.ins Y.n g<|bK s!"domains" (mt j) [(s!"name",v0 c),(s!"names",mt d)])=upd (upd H7 j<|.lst C) x (.ins Y.n g [(s!"name",v0 c),(s!"names",mt d),(s!"domains",mt j)]):=by rw[pf2]
 rw[g8];clear g8;let k8:∀b o,b≠x->G b=N8 o->upd (upd H7 j<|.lst C) x (.ins Y.n g [(s!"name",v0 c),(s!"names",mt d),(s!"domains",mt j)]) b=N8 o:=λb o t e=>(av t).trans<|eF (k7 b o t e) L
 let x8:upd (upd H7 j<|.lst C) x (.ins Y.n g [(s!"name",v0 c),(s!"names",mt d),(s!"domains",mt j)]) x=N8 (.ins Y.n g [(s!"name",v0 c),(s!"names",mt d),(s!"domains",mt j)]):=ag;let O:j≠x:=λz=>by rw[z,x7]at L;cases L
 let j8:upd (upd H7 j<|.lst C) x (.ins Y.n g [(s!"name",v0 c),(s!"names",mt d),(s!"domains",mt j)]) d=N8 (.lst<|l.map v0):=(av I).trans<|eF j7 L;let i8:upd (upd H7 j<|.lst C) x (.ins Y.n g [(s!"name",v0 c),(s!"names",mt d),(s!"domains",mt j)]) j=N8 (.lst C):=(av O).trans ag;generalize upd (upd H7 j<|.lst C) x (.ins Y.n g [(s!"name",v0 c),(s!"names",mt d),(s!"domains",mt j)])=H8 at k8 x8 j8 i8⊢;refine(x,_,g,_,U,x8,bl.k_Table,bl.na_Table_outcome,(by show 3<1000;decide),?_,);let g9:upd H8 x (.ins Y.n g<|bK s!"outcome" (mt m) [(s!"name",v0 c),(s!"names",mt d),(s!"domains",mt j)])=upd H8 x (.ins Y.n g [(s!"name",v0 c),(s!"names",mt d),(s!"domains",mt j),(s!"outcome",mt m)]):=by rw[pf3]
 rw[g9];clear g9;let k9:∀b o,b≠x->G b=N8 o->upd H8 x (.ins Y.n g [(s!"name",v0 c),(s!"names",mt d),(s!"domains",mt j),(s!"outcome",mt m)]) b=N8 o:=λb o t e=>(av t).trans<|k8 b o t e
 let x9:upd H8 x (.ins Y.n g [(s!"name",v0 c),(s!"names",mt d),(s!"domains",mt j),(s!"outcome",mt m)]) x=N8 (.ins Y.n g [(s!"name",v0 c),(s!"names",mt d),(s!"domains",mt j),(s!"outcome",mt m)]):=ag;let j9:upd H8 x (.ins Y.n g [(s!"name",v0 c),(s!"names",mt d),(s!"domains",mt j),(s!"outcome",mt m)]) d=N8 (.lst<|l.map v0):=(av I).trans j8;let i9:upd H8 x (.ins Y.n g [(s!"name",v0 c),(s!"names",mt d),(s!"domains",mt j),(s!"outcome",mt m)]) j=N8 (.lst C):=(av O).trans i8;generalize upd H8 x (.ins Y.n g [(s!"name",v0 c),(s!"names",mt d),(s!"domains",mt j),(s!"outcome",mt m)])=H9 at k9 x9 j9 i9⊢;refine(x,_,g,_,U,x9,bl.k_Table,bl.na_Table_way,(by show 4<1000;decide),?_,);let a4:upd H9 x (.ins Y.n g<|bK s!"way" (v0 B) [(s!"name",v0 c),(s!"names",mt d),(s!"domains",mt j),(s!"outcome",mt m)])=upd H9 x (.ins Y.n g [(s!"name",v0 c),(s!"names",mt d),(s!"domains",mt j),(s!"outcome",mt m),(s!"way",v0 B)]):=by rw[pf4]
 rw[a4];clear a4;let R:∀b o,b≠x->G b=N8 o->upd H9 x (.ins Y.n g [(s!"name",v0 c),(s!"names",mt d),(s!"domains",mt j),(s!"outcome",mt m),(s!"way",v0 B)]) b=N8 o:=λb o t e=>(av t).trans<|k9 b o t e
 let M:upd H9 x (.ins Y.n g [(s!"name",v0 c),(s!"names",mt d),(s!"domains",mt j),(s!"outcome",mt m),(s!"way",v0 B)]) x=N8 (.ins Y.n g [(s!"name",v0 c),(s!"names",mt d),(s!"domains",mt j),(s!"outcome",mt m),(s!"way",v0 B)]):=ag;let a2:upd H9 x (.ins Y.n g [(s!"name",v0 c),(s!"names",mt d),(s!"domains",mt j),(s!"outcome",mt m),(s!"way",v0 B)]) d=N8 (.lst<|l.map v0):=(av I).trans j9;let a3:upd H9 x (.ins Y.n g [(s!"name",v0 c),(s!"names",mt d),(s!"domains",mt j),(s!"outcome",mt m),(s!"way",v0 B)]) j=N8 (.lst C):=(av O).trans i9;generalize upd H9 x (.ins Y.n g [(s!"name",v0 c),(s!"names",mt d),(s!"domains",mt j),(s!"outcome",mt m),(s!"way",v0 B)])=H10 at R M a2 a3⊢;let c4:RL NT H10 rx a1:=RL.same R5<|hide_same R;let CZ:=R _ _ a7<|W _ _ J
 refine(rl,U,(_,RF CZ,),(let I_:Ki->Nat->Oo V->RK:=λD i l v=>aw H10 v/\v D=N8 (.lst l)/\RL (Fr H10 D) v l (a1.take i);jA (xs:=rx) I_)
  (λD X=>(aj X _,ag,aJ.nil,)) (λD i l v X _ h=>RF<|h.1 _ _ CZ) (λD i y l v X e h ts b3=>?_) (λD l v X h=>?_),)
 .let(u,eD,hz):=h;let(r,w_,rfl,ew,ce,cv,g1,_,g2,g3):=aJ.get (c4.same u) e;let hi:i<⇑rx:=(JQ.mp e).1;let(t0,t1,rfl):∃t0 t1,ts=[t0,t1]:=by
   match ts,b3 with
   | [t0,t1],_=>exact(t0,t1,U,)
  calc(r,_,U,RG g1,U,_,_,U,_,_,U,U,([↑ce,N8 (.int w_.2)],U,U,),?_,);refine(ce,cv,w_,U,g2,g3,by rw[(hok w_<|JR ew).len];lia,λr2 H2 t2 d0 rS=>?_,);let a5:=t2 _ _ eD;let d1:⇑l<=200:=by
   let:=hz.1;rw[fI]at this;lia
  calc df.mk hi a5 (aC ∅) ((u.trans t2).upd X,ag,?_,);rw[take_snoc ew];exact RL.updN (aJ.snoc (hz.same t2)<|rS.wk λa h=>⟨u.free h,λz=>by rw[z,eD]at h;cases h⟩) Fr.out a5
 .let(u,eD,hz):=h;rw[hR.1,fm]at hz;refine(x,_,g,_,U,u _ _ M,bl.k_Table,bl.na_Table_rows,(by show 5<1000;decide),?_,);let c2:upd v x (.ins Y.n g<|bK s!"rows" (mt D) [(s!"name",v0 c),(s!"names",mt d),(s!"domains",mt j),(s!"outcome",mt m),(s!"way",v0 B)])=upd v x (.ins Y.n g [(s!"name",v0 c),(s!"names",mt d),(s!"domains",mt j),(s!"outcome",mt m),(s!"way",v0 B),(s!"rows",mt D)]):=by rw[pf5]
  rw[c2];let a9:D≠x:=λz=>by rw[z,M]at X;cases X
  calc q _ _ D l (λb o t e=>(av t).trans<|u _ _<|R b o t<|W _ _ e) ag U U U U (d,j,U,U,(av I).trans<|u _ _ a2,(av O).trans<|u _ _ a3,) ((av a9).trans eD) ?_;calc RL.same (RL.hide (u _ _ M) hz.any)<|hide_same λb o t e=>(av t).trans e
def IA{k n:Nat}(F:Fun K "marks_of" "marks_of" Y58 f fd)(bl:Bl K mg Y)(jU:⟨⟩ k "marks_of" ["form","deep"] (d8 K Y n))(jK:⟨⟩ k "gathered" ["lists"] (fH K Y)):() (k+1) f fd ["form","deep"] (d8 K Y<|n+1):=by
 refine F.okA Z58 λi8 A h1 s H vs Q E hr h=>?_
 let(d,F_,v,ps,Ls,b_,rfl,hn,h9,hv,e9,g0,d5,e0,oO,se,q):=h
 refine(_,(au (bx (aX eS (pv 1) aq<|bg _)
  (ak<|ay<|aW ai)
  aM)
  (aN (aK (i:=2) Z58.nd U (cr U)<|aW<|ae (d6 (qY<|hV vc (pv 0) (ki aq) kh) (dE (N:=["low","high","beneath"]) (k:=3) U U (~~~0) (~~~0)<|~~~0) U (λ_ _ _ _=>(jv (K:=K) (n:=3) U U<|aF (az (i:=0) (show(["low","high","beneath"]:Oo Str).Nodup by decide+kernel) U (cr U) (v6 U)) (aF (az (i:=1) (show(["low","high","beneath"]:Oo Str).Nodup by decide+kernel) U (cr U) (v6 U)) (aF (az (i:=2) (show(["low","high","beneath"]:Oo Str).Nodup by decide+kernel) U (cr U) (v6 U)) bM)))) (λ_ _ _ _=>b8) (λ_ _ _ _=>(pv 0))) ai)
  (aN (tK (i:=3) Z58.nd U (cr U) (qY<|pv 0) (d7 (N:=["low","high","beneath","deep"]) (k:=3) (fr:=[1]) (cl:=[("deep",↥s+1)]) U U (~~~0) (~~~0) U U (ia.mpr (U,ji _,)) U) U (λ_ _ _ _=>(jv (K:=K) (n:=3) U U<|aF (az (i:=0) (show(["low","high","beneath","deep"]:Oo Str).Nodup by decide+kernel) U (cr U) (v6 U)) (aF (az (i:=1) (show(["low","high","beneath","deep"]:Oo Str).Nodup by decide+kernel) U (cr U) (v6 U)) (aF (az (i:=2) (show(["low","high","beneath","deep"]:Oo Str).Nodup by decide+kernel) U (cr U) (v6 U)) bM)))) (λ_ _ _ _=>b8) (λ_ _ _ _=>(aL jU hr U<|ae (pv 2)<|ae (aD eR (pv 3) aq) ai)))
  (aN (bz sB U (eQ U bl.range_<|ae (aD eR (pv 1) aq) ai) (az (i:=4) Z58.nd U<|v6 U)
  (ak<|bj<|ib PySem.F.plainAttrs_list PySem.F.slot_list_append PySem.F.type_list_append bY (pv 2)<|ae (aL jK hr U<|ae (dW (aQ<|pv 3) (de (N:=["lists","column"]) (fr:=[4]) (cl:=[("column",↥s+1+1)]) U U (~~~0) (~~~0) U (~~~0) U U U (ia.mpr (U,ji _,)) U) U (λ_ _ _ _=>b8)<|λ_ _ _ _=>(aP (sH (K:=K) U) (pv 0) (pv 1)<|λ_ _=>U)) ai) ai))
  (ak<|ay<|pv 2))))),?_,)
 dsimp only[bw,RI,RH];show(let r4:TS:=_;let r3:TS:=dj _ r4;let r2:TS:=dj _ r3;let r1:TS:=dj _ r2;aS _ r1 _ _ _);intro _ _ _ _;cases d with
 |zero =>
  refine(U,_,U,qC U ((by show 0<=Kk;decide),λl hl=>?_,),);exact q l [] [] _ (aj hl _) hl (λr hr=>by cases hr) (ag,(U,λj y e=>by simp at e,),U,λc y e=>by simp at e,)
 |succ d =>
  let(I,rfl):∃f:Oo (T3a<|Fm SI2 d),(f:Fm SI2 (d+1))=F_:=(F_,U,);let(p,r,rfl,f2,f8,h7,dC):ShS (fP d) I ps:=e9;let(e4,IB):BdS (α:=Fm SI2 d) (b_+1) (BdG b_ d) I:=g0;let(a,xs,rfl,ha,hG):∃(a:Ki)(xs:Oo V),v=.ref a/\H a=N8 (.tup xs)/\FmL (FmV (K:=K) LVd H d) H I xs:=hv;let d3:=hG.1;let i2:I.length<=64:=∅
  refine(U,_,U,mh (λz=>by have:=V.int.inj z;lia) ?_,);refine(let Z:RJ:=λa0 B=>aw H B/\E2 λl r0:Ki=>A6 (H l=N9) (H r0=N9) (r0≠l) (B l=N8 (.lst [.ref r0])) (B r0=N8 (.lst ((I.tail.map (·.1)).map ut)))<|a0=[↑a,N8<|.int ((d+1:Nat):Int),↑l,N9,N9];(Z,?_,?_,))
  .let(x0,b0,e3):∃x0 b0,xs=x0 :: b0:=by
    cases xs with
    |nil=>exact Og (jM d3.symm) f2
    |cons x0 b0=>exact(x0,b0,U,)
   let IC:kj xs (N8 1) N9=xs.tail:=by rw[e3];exact t9 _ _
   refine(_,U,a,xs,U,RG ha,(λz=>Og z.1 (by rw[e3];simp[HT.sIx])),λX g2=>?_,);rw[IC];let u1:aw H (upd H X<|.tup xs.tail):=aj g2 _;let e1:upd H X (.tup xs.tail) X=N8 (.tup xs.tail):=ag;generalize upd H X (.tup xs.tail)=H0 at u1 e1⊢
   refine(X,U,(_,RG e1,),(let Z:Ki->Nat->Oo V->RK:=λD i zs B=>aw H0 B/\B D=N8 (.lst zs)/\zs=((I.tail.take i).map (·.1)).map ut;iW (xs:=xs.tail) Z)
    (λD L=>(aj L _,ag,U,)) (λD i zs B L _ h=>RG<|h.1 _ _ e1) (λD i x zs B L e h ss c0=>?_) (λD zs B L h=>?_),)
   .let(sm,O,rfl):=h;let hi:i<⇑xs.tail:=(JQ.mp e).1;let e':xs[i+1]?=N8 x:=by rw[oI]at e;exact e
    let(t,J):∃t,I[i+1]?=N8 t:=(_,JP (by have:=(JQ.mp e').1;lia),);let g5:I.tail[i]?=N8 t:=by rw[oI];exact J
    let(rr,u,ex,er,hu):=hG.2 (i+1) t J;rw[e']at ex;cases ex;let(t0,t1,t2,rfl):∃t0 t1 t2,ss=[t0,t1,t2]:=by
     match ss,c0 with
     | [t0,t1,t2],_=>exact(t0,t1,t2,U,)
    calc(rr,_,U,RG<|sm _ _<|u1 _ _ er,U,_,_,U,_,_,U,_,_,U,U,([N8 (.int t.1),N8<|.int t.2.1,N8 u],U,U,),?_,);refine(df.mk hi O (aC (by rw[aa,aa,fI];rw[uA]at hi;lia)) (sm.upd L,ag,?_,));rw[take_snoc g5,fj,fj];rfl
   .let(sm,O,rfl):=h;rw[show ⇑xs.tail=I.tail.length by rw[uA,uA,d3],fm]at O;refine((by show 1<=Kk;decide),λl hl=>?_,);let s2:=u1.trans sm;exact(s2.trans<|aj hl _,l,D,s2.free hl,u1.free L,(λz=>by rw[z,hl]at O;cases O),ag,(aj hl _) _ _ O,U,)
  rintro h4 H1 ⟨s1,l,r0,hl,f1,e5,el,g6,rfl⟩;let d4:=s1 _ _ ha;refine(let Z:RJ:=λa0 B=>aw H1 B/\E2 λ(fu:Ki)(zs:Oo V)=>A5 (B fu=N8 (.lst zs)) (⇑zs=I.length) (H1 fu=N9) (∀(j:Nat)(t:T3a (Fm SI2 d)),I[j]?=N8 t->∃(r:Ki)(C:Oo Ki)(g:Oo (Oo Int)),zs[j]?=↑r/\H1 r=N9/\(∀q∈C,H1 q=N9)/\uf d t.2.2 B r C g)<|a0=[↑a,N8<|.int ((d+1:Nat):Int),↑l,↑fu,N9];(Z,?_,?_,))
  .refine⟨a,U,(_,RG d4,),(let Z:Ki->Nat->Oo V->RK:=λD i zs B=>aw H1 B/\B D=N8 (.lst zs)/\⇑zs=i/\∀(j:Nat)(t:T3a (Fm SI2 d)),j<i->I[j]?=N8 t->∃(r:Ki)(C:Oo Ki)(g:Oo (Oo Int)),zs[j]?=↑r/\H1 r=N9/\(∀q∈C,H1 q=N9)/\r≠D/\(∀q∈C,q≠D)/\uf d t.2.2 B r C g;iW (xs:=xs) Z)
    (λD L=>(aj L _,ag,U,λj t hj=>Og hj<|zE j,)) (λD i zs B L _ h=>RG<|h.1 _ _ d4) (λD i x zs B L e h ss c0=>?_) (λD zs B L h=>?_)⟩
   .let(sm,O,b1,hz):=h;let hi:i<⇑xs:=(JQ.mp e).1;let(t,J):∃t,I[i]?=N8 t:=(_,JP ∅,);let(rr,u,ex,er,hu):=hG.2 i t J;rw[e]at ex;cases ex;let(t0,t1,t2,rfl):∃t0 t1 t2,ss=[t0,t1,t2]:=by
     match ss,c0 with
     | [t0,t1,t2],_=>exact(t0,t1,t2,U,)
    let c7:=s1.trans sm;let tm:=JR J;calc(rr,_,U,RG<|c7 _ _ er,U,_,_,U,_,_,U,_,_,U,U,([N8 (.int t.1),N8<|.int t.2.1,N8 u],U,U,),?_,);refine(_,_,U,U,d,t.2.2,u,r,Ls.tail,b_,by simp,∅,∅,FmV.mono c7.tups hu,dC t tm,IB t tm,λc m hm=>?_,λl hl=>e0 l<|Q4 hl,oO,∅,λl2 c8 ID H3 s3 c3 F6 g3=>?_,)
    .let(ll,e1,e2):=d5 (c+1) m (t,tm,hm,);exact(ll,by rw[oI];exact e1,e2,)
    .let nD:l2≠D:=λz=>by rw[z,O]at c3;cases c3
     have d1:∀q∈c8,q≠D:=λq M z=>by have h0:=(F6 q M).1;rw[z,O]at h0;cases h0
     refine df.mk hi (s3 _ _ O) (aC ∅) ((sm.trans s3).upd L,ag,by rw[cn,b1];rfl,λj t' hj c6=>?_,);by_cases f3:j<i
     .let(r,C,g,a1,X,a3,a4,a5,a6):=hz j t' f3 c6;refine(r,C,g,by rw[fS ∅];exact a1,X,a3,a4,a5,a6.keep λb o W eb=>?_,);let nb:b≠D:=by
       rcases W with rfl|W
       .exact a4
       .exact a5 b W
      exact(av nb).trans (s3 _ _ eb)
     .let f4:j=i:=∅
      subst f4;rw[J]at c6;cases c6;refine(l2,c8,ID,by rw[←b1];simp,sm.free c3,λq M=>sm.free (F6 q M).1,nD,d1,g3.keep λb o W eb=>?_,);let nb:b≠D:=by
       rcases W with rfl|W
       .exact nD
       .exact d1 b W
      exact(av nb).trans eb
   .let(sm,O,b1,hz):=h;calc(sm,D,zs,O,∅,L,λj t J=>?_,U,);let(r,C,g,a1,X,a3,a4,a5,a6):=hz j t (by have:=(JQ.mp J).1;lia) J;exact(r,C,g,a1,X,a3,a6,)
  rintro h3 H2 ⟨s2,fu,zs,g9,b1,f5,hz,rfl⟩;let b6:∀{b:Ki},H1 b=N9->b≠l:=λe z=>by rw[z,el]at e;cases e
  refine(let Z:RJ:=λa0 B=>(∀b o,b≠l->H2 b=N8 o->B b=N8 o)/\E3 λ(C:Oo Ki)(g:Oo (Oo Int))(c4:Option V)=>A6 (B l=N8 (.lst<|C.map mt)) (∀q∈C,q≠l/\H q=N9) (MLs B C g) (⇑g=d+1) (∀(c:Nat)(y:Oo Int),g[c]?=N8 y->y.Pairwise (· < ·)/\∀m,m∈y↔mE (d+1) (I:Fm SI2 (d+1)) c m)<|a0=[↑a,N8<|.int ((d+1:Nat):Int),↑l,↑fu,c4];(Z,?_,?_,))
  .refine(_,_,U,U,_,U,(by show -(2^62)<=((d+1:Nat):Int)-1;lia),(by show((d+1:Nat):Int)-1<2^62;lia),(let Z:Nat->RJ:=λi σ B=>(∀b o,b≠l->H2 b=N8 o->B b=N8 o)/\E3 λ(C:Oo Ki)(g:Oo (Oo Int))(c4:Option V)=>A6 (B l=N8 (.lst<|C.map mt)) (∀q∈C,q≠l/\H q=N9) (MLs B C g) (⇑g=i+1) (∀(c:Nat)(y:Oo Int),g[c]?=N8 y->y.Pairwise (· < ·)/\∀m,m∈y↔mE (d+1) (I:Fm SI2 (d+1)) c m)<|σ=[↑a,N8<|.int ((d+1:Nat):Int),↑l,↑fu,c4];iR Z)
    (λb o _ e=>e,[r0],[I.tail.map (·.1)],N9,s2 _ _ el,(λq M=>by rw[fo.mp M];exact(e5,f1,)),(U,λj y e=>?_,),U,λc y e=>?_,U,) (λi σ B hi h=>?_) (λσ B h=>?_),)
   .match j,e with
    |0,e=>cases e;exact(r0,U,s2 _ _ g6,)
    |j+1,e=>simp at e
   .match c,e with
    |0,e =>
     cases e;calc(uk f8,λm=>?_,);show m∈I.tail.map (·.1)↔D8 I m;exact br
    |c+1,e=>simp at e
   .let(kp,C,g,c4,T,R,hM,S,a8,rfl):=h;let h8:i<d:=∅
    let i3:I.length<=b_+1:=e4;let F7:=kp _ _ (b6 f5) g9;let e8:∀(j:Nat)(t:T3a (Fm SI2 d)),I[j]?=N8 t->∃(r:Ki)(C:Oo Ki)(g:Oo (Oo Int)),zs[j]?=↑r/\uf d t.2.2 B r C g:=λj t J=>by
     let(r,C,g,a1,X,a3,a4):=hz j t J;calc(r,C,g,a1,a4.keep λb o W eb=>kp b o ?_ eb,);rcases W with rfl|W
     .exact b6 X
     .exact b6<|a3 b W
    refine⟨.inl (U,_,RF T,),fu,U,(_,RF F7,),(let Z:Ki->Nat->Oo V->RK:=λD j ws H3=>aw B H3/\H3 D=N8 (.lst ws)/\∃(as:Oo Ki)(G:Oo (Oo Int)),ws=as.map mt/\(∀q∈as,q≠D)/\MLs H3 as G/\G.length=j/\∀(e:Nat)(t:T3a (Fm SI2 d))(y:Oo Int),I[e]?=N8 t->G[e]?=N8 y->y.Pairwise (· < ·)/\∀m,m∈y↔mE d t.2.2 i m;dO (xs:=zs) Z)
     (λD L=>(aj L _,ag,[],[],U,(λq M=>by cases M),(U,λj y e=>by simp at e,),U,λe t y _ h=>by simp at h,)) (λD j ws H3 L _ h=>RF<|h.1 _ _ F7) (λD j x ws H3 L e h=>?_) (λD ws H3 L h=>?_)⟩
    .let(s3,O,as,G,rfl,F8,b4,AV,a7):=h;let hj:j<⇑zs:=(JQ.mp e).1;let(t,J):∃t,I[j]?=N8 t:=(_,JP ∅,);let(r,h5,IE,a1,X,a3,a4,a5):=e8 j t J;rw[e]at a1;cases a1;let(y,em):∃y,IE[i]?=N8 y:=(_,JP ∅,);let(q',g7,c1):=a3.2 i y em;let e6:q'≠D:=λz=>by rw[z,L]at c1;cases c1
     have i1:⇑as=j:=by rw[b4.1];exact AV
     let(m1,m2):=xp (zs:=as.map mt++[.ref q']) b4 F8 (aw.refl H3) (s3 _ _ c1) e6;refine(r,_,_,_,U,U,RF<|s3 _ _ X,FN<|BZ g7,df.mk hj O (aC (by rw[aa];lia)) (s3.upd L,ag,as++[q'],G++[y],by rw[fj];rfl,m2,m1,by rw[cn,AV];rfl,λe2 t2 e7 c5 a9=>?_,),);by_cases he:e2<G.length
     .rw[fS he]at a9;exact a7 e2 t2 e7 c5 a9
     .let f7:e2=G.length:=by
       have:=(JQ.mp a9).1;simp at this;lia
      subst f7;simp at a9;subst a9;rw[AV,J]at c5;cases c5;exact a5 i y em
    .let(s3,O,as,G,rfl,F8,b4,AV,a7):=h;let d2:∀x,x∈G.flatten↔mE (d+1) (I:Fm SI2 (d+1)) (i+1) x:=λx=>by
      rw[u5];constructor
      .rintro⟨y,b3,hx⟩;let(e,ee):=jk b3;let(t,J):∃t,I[e]?=N8 t:=(_,JP (by have:=(JQ.mp ee).1;lia),);exact(t,JR J,((a7 e t y J ee).2 x).mp hx,)
      .rintro⟨t,ht,hx⟩;let(e,J):=jk ht;let(y,ee):∃y,G[e]?=N8 y:=(_,JP (by have:=(JQ.mp J).1;lia),);exact(y,JR ee,((a7 e t y J ee).2 x).mpr hx,)
     have F9:∀x∈G.flatten,x∈(Ls[i+1]?).getD []:=λx hx=>by
      let(ll,e1,e2):=d5 (i+1) x<|(d2 x).mp hx;rw[e1];exact e2
     have IF:⇑((Ls[i+1]?).getD [])<=b_:=by
      cases e:Ls[i+1]? with
      |none=>exact v3 _
      |some ll=>exact e0 ll (JR e)
     have Ga:∀y∈G,⇑y<=b_:=λy b3=>by
      let(e,ee):=jk b3;let(t,J):∃t,I[e]?=N8 t:=(_,JP (by have:=(JQ.mp ee).1;lia),);exact vr (bh ((a7 e t y J ee).1.imp λh=>Pf h) λx hx=>F9 x<|u5.mpr (y,b3,hx,)) IF
     have g1:b_<=29:=∅
     have f6:G.flatten.length<=1000:=by
      calc vr (xr Ga) ?_;rw[AV];exact vr (A8 (show ⇑zs<=30 by lia) g1) ⋯
     calc(D,as,G,_,U,O,b4,f6,∅,F9,λl3 cs H4 s4 c2 g8 pw mem=>?_,);let b5:=s3.trans s4;let d0:l3≠l:=λz=>by rw[z,s3 _ _ T]at c2;cases c2
     have h6:C.length=i+1:=by rw[hM.1];exact S
     refine(l,_,_,U,U,b5 _ _ T,aC (by rw[aa];lia),?_,);let(m1,m2):=xp (zs:=C.map mt++[.ref l3]) hM (λq M=>(R q M).1) b5 g8 d0;let g4:H l3=none:=by
      have f0:B l3=none:=s3.free c2;cases e:H l3 with
      |none=>rfl
      |some o=>rw[kp l3 o d0 (s2 _ _<|s1 _ _ e)]at f0;cases f0
     refine(λb o W e=>(av W).trans<|b5 _ _<|kp b o W e,C++[l3],g++[cs],_,by rw[fj];exact ag,λq M=>(m2 q M,?_,),m1,by rw[cn,S];rfl,λc y e=>?_,U,)
     .rcases iH.mp M with M|M
      .exact(R q M).2
      .rw[fo.mp M];exact g4
     .by_cases hc:c<⇑g
      .rw[fS hc]at e;exact a8 c y e
      .let f9:c=⇑g:=by
        have:=(JQ.mp e).1;simp at this;lia
       subst f9;simp at e;subst e;rw[S];exact(pw,λm=>(mem m).trans<|d2 m,)
   .let(kp,C,g,c4,T,R,hM,S,a8,rfl):=h;exact(kp,C,g,c4,T,R,hM,by rw[S];lia,a8,U,)
  rintro h2 H3 ⟨kp,C,g,c4,T,R,hM,S,a8,rfl⟩;calc(q l C g H3 (λb o e=>kp b o (λz=>by rw[z,hl]at e;cases e) (s2 _ _<|s1 _ _ e)) hl (λq M=>((R q M).2,(R q M).1,)) (T,hM,S,a8,))
def  IR(H:Hp)(c k:Ki):Ki->Prop:=λb=>H b=N9/\b≠c/\b≠k
def IG(F:Fun K "_law_patched" "_law_patched" Y50 f fd)(bl:Bl K mg Y)(a4:bp CX0 P w K mg base 6 "Table" Y.n ["self","name","names","domains","outcome","way","rows"] (bH K Y))(jV:⟨⟩ 7 "_law_low" ["cell"] (gD K Y))(o:bp CX0 P w K mg base 6 "Numbers" Y.l ["self","low","high"] (bf K Y))(bQ:⟨⟩ 7 "_law_at" ["script","k"] (dU K Y)):() 8 f fd ["script","sizes"] (fg K Y):=by
 refine F.okA Z50 λj0 A h8 s H vs Q E hr h=>?_
 let(a,l,ns,y,rfl,hS,hB,el,g9,d4,g8,q):=h
 refine(_,(au (aK (i:=2) Z50.nd U (cr U)<|aW ai)
  (au (aK (i:=3) Z50.nd U (cr U)<|aW ai)
  (aN (bz sB U (eQ U bl.range_<|ae (aG aI U bl.len_ N7<|ae (pv 1) ai) ai) (az (i:=4) Z50.nd U<|cr U)
  (aN (aK (i:=5) Z50.nd U (v6 U)<|aL jV hr U<|ae (aL bQ hr U<|ae (pv 0)<|ae (aD bN aq<|pv 4) ai) ai)
  (aN (aK (i:=6) Z50.nd U (v6 U)<|aD bN aq<|aD bJ (aD wR (aL bQ hr U<|ae (pv 0)<|ae aq ai)<|aD m9 aq aq)<|aP b7 (aW<|ae aq<|ae (aD m9 aq aq) ai) (aD bJ (aL bQ hr U<|ae (pv 0)<|ae aq ai) aq)<|λ_ _=>U)
  (aN (bj<|ib PySem.F.plainAttrs_list PySem.F.slot_list_append PySem.F.type_list_append bY (pv 2)<|ae (qp o bV hr U<|ae (pv 5)<|ae (aD eR (aD bN (pv 5)<|aD dq (aP b7 (pv 1) (pv 4)<|λ_ _=>U)<|pv 6) aq) ai) ai)
  (ak<|bj<|ib PySem.F.plainAttrs_list PySem.F.slot_list_append PySem.F.type_list_append bY (pv 3)<|ae (dW (qk U bl.range_<|ae aq<|ae (aP b7 (pv 1) (pv 4)<|λ_ _=>U)<|ae aq ai) (de (N:=["i","low","wide"]) (fr:=[5,6]) (cl:=[("wide",↥s+1+1),("low",↥s+1)]) U U (~~~0) (~~~0) U (~~~0) U U U (ia.mpr (U,ia.mpr (U,ji _,),)) U) U (λ_ _ _ _=>b8)<|λ_ _ _ _=>(bo<|ae (aD bN (pv 1)<|aD dq (pv 0)<|pv 2)<|ae (aD eR (aD bN (aD bN (pv 1)<|aD dq (pv 0)<|pv 2)<|pv 2) aq) ai)) ai)))))
  (aN (aK (i:=7) Z50.nd U (cr U)<|hV wL (aW<|ae bI<|ae bI<|ae bI<|ae bI ai) kh<|ki<|aG aI U bl.len_ N7<|ae (pv 1) ai)
  (ak<|ay<|qp a4 bV hr U<|ae bI<|ae (pv 7)<|ae (pv 2)<|ae (qp o bV hr U<|ae aq<|ae aq ai)<|ae bI<|ae (aW<|ae (bo<|ae (pv 3)<|ae (aD bJ (aL bQ hr U<|ae (pv 0)<|ae aq ai) aq) ai) ai) ai))))),?_,)
 dsimp only[bw,RI,RH];show(let r4:TS:=_;let r3:TS:=dj _ r4;let r2:TS:=dj _ r3;let r1:TS:=aS _ r2;aS _ r1 _ _ _);intro _ _ _ _;let d2:⇑(vN y)=⇑y:=by unfold vN;rw[aa]
 let(wd,d1):∃wd,wd=wdF (eZ ns 5):=(_,U,);let hw:=Ep<|eZ ns 5;rw[←d1]at hw;let(a0,i8):=hw;refine((by show 0<=Kk;decide),λC e2=>((by show 0<=Kk;decide),λk a1=>?_,),);let s0:aw H (upd (upd H C<|.lst []) k<|.lst []):=(aj e2 _).trans<|aj a1 _;let a6:k≠C:=λz=>by rw[z,ag]at a1;cases a1
 let IH:H k=none:=by rw[av a6]at a1;exact a1
 let e7:upd (upd H C<|.lst []) k (.lst []) C=N8 (.lst []):=by rw[av a6.symm,ag]
 let e4:upd (upd H C<|.lst []) k (.lst []) k=N8 (.lst []):=ag;generalize upd (upd H C<|.lst []) k (.lst [])=H0 at s0 e7 e4⊢
 let nd:¬ (IR H C k) C:=λz=>z.2.1 U
 let np:¬ (IR H C k) k:=λz=>z.2.2 U
 refine(let W:RJ:=λg B=>aw H B/\E6 λ(v:Oo (Int×Nat))(R L:Oo V)(c4 c5 c6:Option V)=>A6 (v.map (·.2)=y) (B C=N8 (.lst R)) (B k=N8 (.lst L)) (aJ R (v.map<|cH wd)<|Dom Y.l Y.m B) (CL (IR H C k) B L<|v.map<|cy wd)<|g=[N8 (mt a),↑l,↑C,↑k,c4,c5,c6,N9];(W,?_,?_,))
 .refine(l,_,U,.inl<|RF<|s0 _ _ el,_,U,(by show -(2^62)<=((⇑(vN y):Nat):Int);lia),(by show((⇑(vN y):Nat):Int)<2^62;lia),(let W:Nat->RJ:=λj g B=>aw H B/\E6 λ(v:Oo (Int×Nat))(R L:Oo V)(c4 c5 c6:Option V)=>A6 (v.map (·.2)=y.take j) (B C=N8 (.lst R)) (B k=N8 (.lst L)) (aJ R (v.map<|cH wd)<|Dom Y.l Y.m B) (CL (IR H C k) B L<|v.map<|cy wd)<|g=[N8 (mt a),↑l,↑C,↑k,c4,c5,c6,N9];iR W (s0,[],[],[],_,_,_,U,e7,e4,aJ.nil,aJ.nil,U,) (λj g B hj hh=>?_) (λg B hh=>?_)),)
  .let(sm,v,R,L,c4,c5,c6,G,a3,a2,O,Z,rfl):=hh;let h2:j<⇑y:=by rw[JS]at hj;lia
   let(S,b5):∃S,y[j]?=N8 S:=(_,JP h2,);let d3:=g8 S<|JR b5;let e3:atI (vN y) (0+(j:Int))=N8 (.int (S:Int)):=FN (by unfold vN;rw[dr,b5];rfl);let h1:⇑v<=4:=by have:=Ol NE G;rw[aa,fI]at this;lia
   let(d,B2):∃d,d=Eo (eZ ns<|1+(0+(j:Int))):=(_,U,);refine(let W:RJ:=λg H2=>H2=B/\g=[N8 (mt a),↑l,↑C,↑k,N8<|.int<|0+(j:Int),N8<|.int d,c6,N9];(W,?_,?_,))
   .exact(_,_,U,U,a,ns,_,U,sm.seq hS,(by show 0<=1+(0+(j:Int));lia),_,U,lM hB _,U,by rw[B2];rfl,)
   rintro f3 H1 ⟨z1,rfl⟩;subst z1;refine(let W:RJ:=λg H2=>aw H1 H2/\g=[N8 (mt a),↑l,↑C,↑k,N8<|.int<|0+(j:Int),N8<|.int d,N8<|.int wd,N9];(W,?_,?_,))
   .refine(a,ns,_,U,sm.seq hS,⋯,?_,);refine(_,_,U,U,(⋯,⋯,⋯,),_,_,U,U,PySem.IntMulOk.of_bits (lM hB _)<|~~~0,_,_,U,U,(⋯,⋯,⋯,),(by show 2<=Kk;decide),λp hp=>?_,);let u:=aj hp<|.lst [.int 1,.int (10^(38:Int).toNat)];refine(a,ns,_,U,u.seq<|sm.seq hS,⋯,_,_,U,U,(by show(0:Int)<2;decide),p,_,_,_,U,U,RF ag,Hl _,_,_,U,U,(by show(0:Int)<if _ then _ else _;split <;> decide),_,_,U,U,u,by rw[d1];rfl,)
   rintro i2 H2 ⟨s2,rfl⟩;let c2:=sm.trans s2;let Gb:=s2 _ _ a3;let II:=s2 _ _ a2;let i9:1<=(S:Int)*wd:=by
    let:=Int.mul_le_mul (show(1:Int)<=(S:Int) by lia) a0 ⋯ ∅;rw[Int.mul_one]at this;exact this
   let JJ:R.length<=4:=by have:=O.1;rw[aa]at this;lia
   let JK:L.length<=4:=by have:=Z.1;rw[aa]at this;lia
   refine(let W:RJ:=λg H3=>aw H H3/\∃a7:Oo V,A5 (H3 C=N8 (.lst a7)) (H3 k=N8 (.lst L)) (aJ a7 ((v++[(d,S)]).map<|cH wd)<|Dom Y.l Y.m H3) (CL (IR H C k) H3 L<|v.map<|cy wd) (g=[N8 (mt a),↑l,↑C,↑k,N8<|.int<|0+(j:Int),N8<|.int d,N8<|.int wd,N9]);(W,?_,?_,))
   .refine(.inl (U,_,RF Gb,),l,_,_,_,U,U,RF<|c2 _ _ el,e3,_,_,U,U,.inl (∅,∅,),_,_,U,U,_,_,U,U,λx J hx b4 d5=>(x,J,d,d+(S:Int)*wd-1,U,ag,∅,U,?_,),);let s6:aw H2 (mkd Y.l (upd (upd H2 J<|.own x) x<|.ins Y.l J []) x J d<|d+(S:Int)*wd-1):=by
     unfold mkd;exact(((aj b4 _).upd hx).upd hx).upd hx
    let d0:Dom Y.l Y.m (mkd Y.l (upd (upd H2 J<|.own x) x<|.ins Y.l J []) x J d<|d+(S:Int)*wd-1) x (cH wd (d,S)):=(Y.l,.inl U,J,_,ag,U,U,U,);generalize mkd Y.l (upd (upd H2 J<|.own x) x<|.ins Y.l J []) x J d (d+(S:Int)*wd-1)=H6 at s6 d0⊢;let c1:=s6 _ _ Gb;let h4:=s6 _ _ II;refine(C,R,_,U,U,c1,aC ∅,(c2.trans s6).upd e2,R++[.ref x],ag,by rw[av a6];exact h4,?_,CL.updN ((Z.same s2).same s6) nd c1,U,);rw[fj];exact aJ.mono (aJ.snoc (aJ.mono O λ_ _ p=>(p.same s2).same s6) d0) λ_ _ p=>p.upd c1
   rintro i1 H3 ⟨a9,a7,e6,c0,IJ,IK,rfl⟩;refine(.inl (U,_,RF c0,),l,_,_,_,U,U,RF<|a9 _ _ el,e3,_,_,_,U,(⋯,⋯,⋯,⋯,∅,∅,),(let W:Ki->Nat->Oo V->RK:=λD I ys H4=>aw H3 H4/\H4 D=N8 (.lst ys)/\⇑ys=I/\PL H4 ys ((db I).map<|jh d wd);l8 (lo:=1) (c:=2) W (λD hD=>(aj hD _,ag,U,.nil,)) (λD I ys H4 hD e1 h=>?_) (λD ys H4 hD h=>?_)),)
   .let(s4,eD,c8,hP):=h;let JL:I<25:=by rw[xA d3.1]at e1;lia
    calc(_,_,U,U,.inl (∅,∅,),_,_,U,U,_,_,U,U,.inl (∅,∅,),_,_,U,U,_,_,U,U,_,_,U,U,dh,λt ht=>?_,);let s5:=aj ht<|.tup [.int (jh d wd I).1,.int (jh d wd I).2];let e5:upd H4 t (.tup [.int (jh d wd I).1,.int (jh d wd I).2]) t=N8 (.tup [.int (jh d wd I).1,.int (jh d wd I).2]):=ag;let ee:upd H4 t (.tup [.int (d+(1+(I:Int)*2)*wd),.int (d+(1+(I:Int)*2)*wd+wd-1)])=upd H4 t (.tup [.int (jh d wd I).1,.int (jh d wd I).2]):=rfl;rw[ee];clear ee;generalize upd H4 t (.tup [.int (jh d wd I).1,.int (jh d wd I).2])=H5 at s5 e5⊢;let e8:=s5 _ _ eD;refine df.mk e1 e8 (aC ∅) ((s4.trans s5).upd hD,ag,by rw[cn,il,c8],?_,);let st:bG H5 (upd H5 D<|.lst<|ys++[.ref t]):=aR e8;rw[jO,fj];exact((hP.mono s5.tups).mono st).snoc (st _ _ e5)
   .let(s4,eD,c8,hP):=h;rw[xA d3.1]at hP;let h6:=s4 _ _ e6;let b6:=s4 _ _ c0;refine(k,L,_,U,U,b6,aC ∅,(a9.trans s4).upd IH,v++[(d,S)],a7,L++[.ref D],_,_,_,?_,by rw[av a6.symm];exact h6,ag,aJ.mono IJ λ_ _ p=>(p.same s4).upd b6,?_,U,)
    .rw[fj,G,take_snoc b5];rfl
    .rw[fj];exact CL.updN (aJ.snoc (IK.same s4) (⟨a9.free hD,⟨λz=>(by rw[z,e6]at hD;cases hD),λz=>(by rw[z,c0]at hD;cases hD)⟩⟩,ys,eD,hP,)) np b6
  .let(sm,v,R,L,c4,c5,c6,G,a3,a2,O,Z,rfl):=hh;rw[JS,d2,fm]at G;exact(sm,v,R,L,c4,c5,c6,G,a3,a2,O,Z,U,)
 rintro f3 H1 ⟨s1,v,R,L,c4,c5,c6,G,a3,a2,O,Z,rfl⟩;let h1:⇑v=⇑y:=by rw[←G,aa]
 refine(let W:RJ:=λg B=>aw H1 B/\∃nn:Ki,B nn=N8 (.lst<|(gP.take ⇑y).map v0)/\g=[N8 (mt a),↑l,↑C,↑k,c4,c5,c6,↑nn];(W,?_,?_,))
 .refine((by show 4<=Kk;decide),λw1 a0=>?_,);let u7:=aj a0<|.lst<|gP.map v0;let f7:upd H1 w1 (.lst<|gP.map v0) w1=N8 (.lst<|gP.map v0):=ag;let ee:upd H1 w1 (.lst [.str s!"a",.str s!"b",.str s!"c",.str s!"d"])=upd H1 w1 (.lst<|gP.map v0):=rfl;rw[ee];clear ee;generalize upd H1 w1 (.lst<|gP.map v0)=H7 at u7 f7⊢;calc(l,_,U,.inl<|RF<|(s1.trans u7) _ _ el,_,U,w1,_,U,RF f7,λnn h0=>?_,);let IL:kj (gP.map v0) N9 (N8 ((⇑(vN y):Nat):Int))=(gP.take ⇑y).map v0:=by
   rw[d2];let:⇑y=1\/⇑y=2\/⇑y=3\/⇑y=4:=∅
   rcases this with h|h|h|h <;> rw[h] <;> rfl
  rw[IL];exact(u7.trans<|aj h0 _,nn,ag,U,)
 rintro h9 H8 ⟨s8,nn,h5,rfl⟩;let f6:=s1.trans s8;calc(λT du b1 h3 d5=>(T,du,0,9,U,ag,⋯,U,?_,));let s9:aw H8 (mkd Y.l (upd (upd H8 du<|.own T) T<|.ins Y.l du []) T du 0 9):=by
  unfold mkd;exact(((aj h3 _).upd b1).upd b1).upd b1
 let b3:Dom Y.l Y.m (mkd Y.l (upd (upd H8 du<|.own T) T<|.ins Y.l du []) T du 0 9) T (0,9):=(Y.l,.inl U,du,_,ag,U,U,U,);generalize mkd Y.l (upd (upd H8 du<|.own T) T<|.ins Y.l du []) T du 0 9=H9 at s9 b3⊢;let f5:=f6.trans s9;refine(a,ns,_,U,f5.seq hS,⋯,_,_,U,U,(by show(0:Int)<10;decide),dh,λr hr=>?_,);let(m,hm):∃m,m=eZ ns 6%10:=(_,U,);let e0:0<=m/\m<10:=by rw[hm];exact(JU _ ⋯,JW _ ⋯,)
 rw[←hm];let a8:=aj hr<|.tup [.ref k,.int m];let f0:upd H9 r (.tup [.ref k,.int m]) r=N8 (.tup [.ref k,.int m]):=ag;generalize upd H9 r (.tup [.ref k,.int m])=H10 at a8 f0⊢;refine((by show 1<=Kk;decide),λrl g7=>?_,);let a5:=aj g7<|.lst [.ref r];let e9:upd H10 rl (.lst [.ref r]) rl=N8 (.lst [.ref r]):=ag;generalize upd H10 rl (.lst [.ref r])=H11 at a5 e9⊢;let c7:=(s9.trans a8).trans a5;let c3:=a8.trans a5;let X:=s8.trans c7;let hR:RL NT H11 [.ref r] [(v.map<|cy wd,m)]:=aJ.snoc aJ.nil (k,L,a5 _ _ f0,trivial,X _ _ a2,(Z.same X).any,);let hok:∀w∈[(v.map<|cy wd,m)],t6 (v.map<|cH wd) (0,9) w:=λw hw=>by
  rw[fo.mp hw];exact(by rw[aa,aa],λj ps b f1 f2=>Er a0 f1 f2,e0.1,by show m<=9;lia,)
 refine λx J hx b4 d5=>?_
 let M:aw H11 (upd (upd H11 J<|.own x) x<|.ins Y.n J []):=(aj b4 _).upd hx;let(Ew,Ex):=xy ⇑y g9 d4;let i3:⇑(gP.take ⇑y)=⇑y:=by rw[fI];exact yT d4
 refine(x,J,nn,C,T,rl,_,_,gP.take ⇑y,R,[.ref r],v.map<|cH wd,(0,9),[(v.map<|cy wd,m)],U,ag,M _ _<|c7 _ _ h5,Ew,Ex,∅,∅,⋯,λz=>Og z ⋯,M _ _<|X _ _ a3,aJ.mono O λ_ _ p=>(p.same X).same M,(b3.same c3).same M,M _ _ e9,RL.same hR M,(by show 1<=200;decide),by rw[aa];lia,hok,λB fs f8 f4 k1 k2 k3 g6 g5 g4 (f9,h7,g3,g2,g1,g0,) k4 k5=>?_,);let b0:aw H11 B:=λb u e=>k1 b u (aV e hx)<|M _ _ e
 calc(U,q x v wd m T _ R B ((s1.trans X).trans b0) G a0 e0.1 ∅ (f8,J,f9,h7,fs,f4,k2,k3,g4,g6,g5,g3,g2,g1,g0,k4,aJ.mono k5 λr w h=>h.wk λa ha=>trivial,trivial,trivial,trivial,?_,) (aJ.mono O λ_ _ p=>(p.same X).same b0) ((b3.same c3).same b0),);rw[k5.1];calc(by decide:1<=200)
def IM(F:Fun K "_law_long" "_law_long" Y48 f fd)(bl:Bl K mg Y)(jV:⟨⟩ 7 "_law_low" ["cell"] (gD K Y))(a0:bp CX0 P w K mg base 6 "Table" Y.n ["self","name","names","domains","outcome","way","rows"] (bH K Y))(bQ:⟨⟩ 7 "_law_at" ["script","k"] (dU K Y))(C:bp CX0 P w K mg base 6 "Numbers" Y.l ["self","low","high"] (bf K Y)):() 8 f fd ["script","size"] (iE K Y):=by
 refine F.okA Z48 λh0 A g1 s H vs Q E hr h=>?_
 let(a,ns,v,rfl,hS,hB,g6,g5,q):=h
 refine(_,(aN (aK (i:=2) Z48.nd U (v6 U)<|aL jV hr U<|ae (aL bQ hr U<|ae (pv 0)<|ae aq ai) ai)
  (aN (aK (i:=3) Z48.nd U (cr U)<|aW<|ae (bo<|ae (aW<|ae (aW<|ae (bo<|ae (pv 2)<|ae (aD eR (aD bN (pv 2)<|pv 1) aq) ai) ai) ai)<|ae aq ai) ai)
  (aN (bz sB U (aQ<|aW<|ae aq<|ae aq<|ae aq ai) (az (i:=4) Z48.nd U<|cr U)
  (aN (Bp (i:=5) Z48.nd U (cr U) (qk U bl.range_<|ae (pv 4)<|ae (aG (qc U) U bl.min_ OY<|ae (pv 1)<|ae (aD bN (pv 4) aq) ai)<|ae aq ai) (de (N:=["i","low"]) (fr:=[2]) (cl:=[("low",↥s+1)]) U U (~~~0) (~~~0) U (~~~0) U U U (ia.mpr (U,ji _,)) U) U (λ_ _ _ _=>b8)<|λ_ _ _ _=>(bo<|ae (aD bN (pv 1)<|pv 0)<|ae (aD bN (pv 1)<|pv 0) ai))
  (ak<|bj<|ib PySem.F.plainAttrs_list PySem.F.slot_list_append PySem.F.type_list_append bY (pv 3)<|ae (bo<|ae (aW<|ae (pv 5) ai)<|ae aq ai) ai)))
  (ak<|ay<|qp a0 bV hr U<|ae bI<|ae (aW<|ae bI ai)<|ae (aW<|ae (qp C bV hr U<|ae (pv 2)<|ae (aD eR (aD bN (pv 2)<|pv 1) aq) ai) ai)<|ae (qp C bV hr U<|ae aq<|ae aq ai)<|ae bI<|ae (pv 3) ai)))),?_,)
 dsimp only[bw,RI,RH];show(let r3:TS:=_;let r2:TS:=dj _ r3;let r1:TS:=dj _ r2;dj _ r1 _ _ _);intro _ _ _;let(d,B2):∃d,d=Eo (eZ ns 1):=(_,U,);refine(let Z:RJ:=λo B=>B=H/\o=[N8 (mt a),N8<|.int (v:Int),N8<|.int d,N9,N9,N9];(Z,?_,?_,))
 .exact(a,ns,_,U,hS,⋯,_,U,lM hB _,U,by rw[B2];rfl,)
 rintro g3 H1 ⟨z1,rfl⟩;subst z1;refine(let Z:RJ:=λo B=>aw H1 B/\E2 λ(l:Ki)(G:Oo V)=>A4 (H1 l=N9) (B l=N8 (.lst G)) (RL (Fr H1 l) B G [rwW d v])<|o=[N8 (mt a),N8<|.int (v:Int),N8<|.int d,↑l,N9,N9];(Z,?_,?_,))
 .refine(_,_,U,U,_,_,U,U,dh,λt1 h1=>((by show 1<=Kk;decide),λD1 h2=>((by show 1<=Kk;decide),λI h3=>?_,),),);let u1:=aj h1<|.tup [.int d,.int (d+(v:Int)-1)];let e1:upd H1 t1 (.tup [.int d,.int (d+(v:Int)-1)]) t1=N8 (.tup [.int d,.int (d+(v:Int)-1)]):=ag;generalize upd H1 t1 (.tup [.int d,.int (d+(v:Int)-1)])=Ha at u1 e1 h2 h3⊢;let u2:=aj h2<|.lst [.ref t1];let e2:upd Ha D1 (.lst [.ref t1]) D1=N8 (.lst [.ref t1]):=ag;generalize upd Ha D1 (.lst [.ref t1])=Hb at u2 e2 h3⊢;let u3:=aj h3<|.lst [.ref D1];let e3:upd Hb I (.lst [.ref D1]) I=N8 (.lst [.ref D1]):=ag;generalize upd Hb I (.lst [.ref D1])=Hc at u3 e3⊢;calc(dh,λr hr=>?_,);let u4:=aj hr<|.tup [.ref I,.int 3];let e4:upd Hc r (.tup [.ref I,.int 3]) r=N8 (.tup [.ref I,.int 3]):=ag;generalize upd Hc r (.tup [.ref I,.int 3])=Hd at u4 e4⊢;refine((by show 1<=Kk;decide),λl hl=>?_,);let R:=aj hl<|.lst [.ref r];let sA:=((u1.trans u2).trans u3).trans u4;let c6:=u4 _ _ e3;let c7:=u4 _ _<|u3 _ _ e2;refine(sA.trans R,l,[.ref r],sA.free hl,ag,aJ.snoc aJ.nil ⟨I,[.ref D1],R _ _ e4,⟨(u1.trans u2).free h3,λz=>by rw[←z,c6]at hl;cases hl⟩,R _ _ c6,aJ.snoc aJ.nil (⟨u1.free h2,λz=>by rw[←z,c7]at hl;cases hl⟩,[.ref t1],R _ _ c7,PL.snoc .nil<|R _ _<|u4 _ _<|u3 _ _<|u2 _ _ e1,)⟩,U,)
 rintro g2 H2 ⟨s2,l,G,hl,T,S,rfl⟩;refine(let Z:RJ:=λo B=>aw H1 B/\E3 λ(G:Oo V)(c4 c5:Option V)=>A3 (B l=N8 (.lst G)) (RL (Fr H1 l) B G<|fG d v)<|o=[N8 (mt a),N8<|.int (v:Int),N8<|.int d,↑l,c4,c5];(Z,?_,?_,))
 .refine((by show 3<=Kk;decide),λp hp=>?_,);let u3:=aj hp<|.lst<|vN sts;let e3:upd H2 p (.lst<|vN sts) p=N8 (.lst<|vN sts):=ag;let ee:upd H2 p (.lst [.int 1,.int 151,.int 301])=upd H2 p (.lst<|vN sts):=rfl;rw[ee];clear ee;let d2:p≠l:=λz=>by rw[z,T]at hp;cases hp
  let g7:=s2.free hp;generalize upd H2 p (.lst<|vN sts)=H3 at u3 e3⊢;refine(p,U,(_,RF e3,),(let Z:Nat->RJ:=λi o B=>aw H1 B/\B p=N8 (.lst<|vN sts)/\E3 λ(G:Oo V)(c4 c5:Option V)=>A3 (B l=N8 (.lst G)) (RL (Fr H1 l) B G (rwW d v :: (sts.take i).map (rwL d v)))<|o=[N8 (mt a),N8<|.int (v:Int),N8<|.int d,↑l,c4,c5];bA (xs:=vN sts) Z (s2.trans u3,e3,G,_,_,u3 _ _ T,RL.same S u3,U,) (λi o B _ h=>RF h.2.1) (λi y o B ey hh=>?_) (λo B hh=>?_)),)
  .clear S T G;let(sm,ep,G,c4,c5,T,S,rfl):=hh;let(g,b6,rfl):∃g,sts[i]?=N8 g/\ut ((g:Nat):Int)=y:=by unfold vN at ey;rw[dr]at ey;exact JB.mp ey
   let g4:g=1\/g=151\/g=301:=by have:=JR b6;unfold sts at this;simpa using this
   let f3:G.length<=4:=by have:=S.1;rw[en,aa,fI]at this;let h3:⇑sts=3:=rfl;lia
   refine(let Z:RJ:=λo L=>aw B L/\E2 λ(D:Ki)(O:Oo V)=>A4 (B D=N9) (L D=N8 (.lst O)) (PL L O<|(db<|nSt v g).map λk=>pt1 d<|g+2*k)<|o=[N8 (mt a),N8<|.int (v:Int),N8<|.int d,↑l,N8<|.int (g:Int),↑D];(Z,?_,?_,))
   .refine(_,_,U,U,_,_,U,_,_,_,U,(⋯,⋯,∅,∅,by split <;> lia,by split <;> lia,),(let Z:Ki->Nat->Oo V->RK:=λD j O H3=>aw B H3/\H3 D=N8 (.lst O)/\O.length=j/\PL H3 O ((db j).map λk=>pt1 d<|g+2*k);l8 (c:=2) Z (λD hD=>(aj hD _,ag,U,.nil,)) (λD j O H3 hD hj h=>?_) (λD O H3 hD h=>?_)),)
    .let(a3,eD,b4,hP):=h;let g9:=(AM hj).2;calc(_,_,U,U,_,_,U,U,dh,λt ht=>?_,);let ee:upd H3 t (.tup [.int (d+((g:Int)+(j:Int)*2)),.int (d+((g:Int)+(j:Int)*2))])=upd H3 t (.tup [.int (pt1 d<|g+2*j).1,.int (pt1 d<|g+2*j).2]):=by
      unfold pt1;rw[show d+((g+2*j:Nat):Int)=d+((g:Int)+(j:Int)*2) by lia]
     rw[ee];clear ee;let s4:=aj ht<|.tup [.int (pt1 d<|g+2*j).1,.int (pt1 d<|g+2*j).2];let e4:upd H3 t (.tup [.int (pt1 d<|g+2*j).1,.int (pt1 d<|g+2*j).2]) t=N8 (.tup [.int (pt1 d<|g+2*j).1,.int (pt1 d<|g+2*j).2]):=ag;generalize upd H3 t (.tup [.int (pt1 d<|g+2*j).1,.int (pt1 d<|g+2*j).2])=L at s4 e4⊢;let c3:=s4 _ _ eD;refine df.mk hj c3 (aC ∅) ((a3.trans s4).upd hD,ag,by rw[cn,il,b4],?_,);let b0:bG L (upd L D<|.lst<|O++[.ref t]):=aR c3;rw[jO,fj];exact((hP.mono s4.tups).mono b0).snoc (b0 _ _ e4)
    .let(a3,eD,b4,hP):=h;exact(a3,D,O,hD,eD,hP,U,)
   rintro c8 L ⟨s4,D,O,nD,eD,hP,rfl⟩;let a9:=s4 _ _ T;refine(.inl (U,_,RF a9,),(by show 1<=Kk;decide),λI a2=>?_,);let R:=aj a2<|.lst [.ref D];let e5:upd L I (.lst [.ref D]) I=N8 (.lst [.ref D]):=ag;let d3:I≠l:=λz=>by rw[z,a9]at a2;cases a2
   let f9:H1 I=none:=(sm.trans s4).free a2;generalize upd L I (.lst [.ref D])=H5 at R e5⊢;calc(dh,λr hr=>?_,);let u6:=aj hr<|.tup [.ref I,.int 4];let e6:upd H5 r (.tup [.ref I,.int 4]) r=N8 (.tup [.ref I,.int 4]):=ag;generalize upd H5 r (.tup [.ref I,.int 4])=H6 at u6 e6⊢;let a1:=R.trans u6;let a6:=s4.trans a1;let c1:=a1 _ _ a9;let d5:D≠l:=λz=>by rw[z,T]at nD;cases nD
   let rS:jE (Fr H1 l) H6 r (rwL d v g):=(I,[.ref D],e6,(f9,d3,),u6 _ _ e5,aJ.snoc aJ.nil ((sm.free nD,d5,),O,a1 _ _ eD,hP.mono a1.tups,),);refine(l,G,_,U,U,c1,aC ∅,(sm.trans a6).upd hl,by rw[av d2];exact a6 _ _ ep,G++[.ref r],_,_,ag,?_,U,);rw[take_snoc b6,fj,←lz];exact RL.updN (aJ.snoc (RL.same S a6) rS) Fr.out c1
  .let(sm,ep,G,c4,c5,T,S,rfl):=hh;exact(sm,G,c4,c5,T,S,U,)
 clear S T G s2;rintro c8 L ⟨s4,G,c4,c5,T,S,rfl⟩;refine((by show 1<=Kk;decide),λnn f4=>?_,);let R:=aj f4<|.lst<|(gP.take 1).map v0;let c0:upd L nn (.lst<|(gP.take 1).map v0) nn=N8 (.lst<|(gP.take 1).map v0):=ag;let ee:upd L nn (.lst [.str s!"a"])=upd L nn (.lst<|(gP.take 1).map v0):=rfl;rw[ee];clear ee;generalize upd L nn (.lst<|(gP.take 1).map v0)=H5 at R c0⊢;calc(_,_,U,U,_,_,U,U,λy W hy f5 g8=>(y,W,d,d+(v:Int)-1,U,ag,∅,U,?_,),);let u6:aw H5 (mkd Y.l (upd (upd H5 W<|.own y) y<|.ins Y.l W []) y W d<|d+(v:Int)-1):=by
  unfold mkd;exact(((aj f5 _).upd hy).upd hy).upd hy
 let h6:Dom Y.l Y.m (mkd Y.l (upd (upd H5 W<|.own y) y<|.ins Y.l W []) y W d<|d+(v:Int)-1) y (d,d+(v:Int)-1):=(Y.l,.inl U,W,_,ag,U,U,U,);generalize mkd Y.l (upd (upd H5 W<|.own y) y<|.ins Y.l W []) y W d (d+(v:Int)-1)=H6 at u6 h6⊢;refine((by show 1<=Kk;decide),λdl f8=>?_,);let u7:=aj f8<|.lst [.ref y];let c2:upd H6 dl (.lst [.ref y]) dl=N8 (.lst [.ref y]):=ag;generalize upd H6 dl (.lst [.ref y])=H7 at u7 c2⊢;refine λM X a7 f7 JM=>(M,X,0,9,U,ag,⋯,U,?_,)
 let u8:aw H7 (mkd Y.l (upd (upd H7 X<|.own M) M<|.ins Y.l X []) M X 0 9):=by
  unfold mkd;exact(((aj f7 _).upd a7).upd a7).upd a7
 let a8:Dom Y.l Y.m (mkd Y.l (upd (upd H7 X<|.own M) M<|.ins Y.l X []) M X 0 9) M (0,9):=(Y.l,.inl U,X,_,ag,U,U,U,);generalize mkd Y.l (upd (upd H7 X<|.own M) M<|.ins Y.l X []) M X 0 9=H8 at u8 a8⊢;calc(λx dx hx f6 JN=>?_);let b1:=u7.trans u8;let b3:=u6.trans b1;let a4:=R.trans b3;let b5:aJ [.ref y] [(d,d+(v:Int)-1)] (Dom Y.l Y.m H8):=aJ.snoc aJ.nil<|h6.same b1;let f3:G.length=4:=S.1;let J:aw H8 (upd (upd H8 dx<|.own x) x<|.ins Y.n dx []):=(aj f6 _).upd hx;let(Ew,Ex):=xy 1 ⋯ ⋯;refine(x,dx,nn,dl,M,l,_,_,gP.take 1,[.ref y],G,[(d,d+(v:Int)-1)],(0,9),fG d v,U,ag,J _ _<|b3 _ _ c0,Ew,Ex,⋯,⋯,⋯,λz=>Og z ⋯,J _ _<|u8 _ _ c2,aJ.mono b5 λ_ _ p=>p.same J,a8.same J,J _ _<|a4 _ _ T,RL.same (RL.same S.any a4) J,∅,(by show 1<=4;decide),xB ∅,λB fs d1 d0 k1 k2 k3 f2 f1 f0 (d4,g0,e9,e8,e7,e0,) k4 k5=>?_,);let a5:aw H8 B:=λb u e=>k1 b u (aV e hx)<|J _ _ e
 calc(U,q x d M _ [.ref y] B ((s4.trans a4).trans a5) (d1,dx,d4,g0,fs,d0,k2,k3,f0,f2,f1,e9,e8,e7,e0,k4,aJ.mono k5 λr w h=>h.wk λa ha=>trivial,trivial,trivial,trivial,?_,) (aJ.mono b5 λ_ _ p=>p.same a5) (a8.same a5),);rw[k5.1];calc(by decide:4<=200)
def lQ{c'  : Ki}{doc pm ctv:Kd}(bl:Bl K mg Y)  (inj:∀x y c,([]:Oo (Str×Ki)).lookup x=N8 c->([]:Oo (Str×Ki)).lookup y=N8 c->x=y):HFn P w K mg base 8 f (gM K Y f c'  doc pm ctv):=by
 refine vO (qual := "plan_of.<locals>.<lambda>") (e:=Y62) (c':=c') (cl:=[]) (pm:=pm) (ctv:=ctv) Z63 inj (λl m=>match l,m with | [z],_=>rfl) (λk H Q E h=>?_) (λA d s H k Q E B h=>?_)
 .let(a,p,rfl,g,(t,i,n),q):=h;rfl
 let(a,p,rfl,g,(t,i,n),q):=h;calc(_,g,rC U,λu=>(_,(aP bL (pv 0) aq<|λ_ _=>U),?_,),);let r:hideL H []=H:=funext λb=>aZ (by simp)
 let o:backL H H []=H:=funext λb=>cA (by simp)
 show tOp _ _ _ _ (hideL H []) λv j=>(∀c,c∈([]:Oo Ki)->j c=N9)->Q v (backL H j [])
 rw[r];calc(a,_,_,_,U,U,RG i,U,λ_=>by rw[o];exact q,)
def IP(F:Fun K "plan_of" "plan_of" s_plan_of f fd)(bl:Bl K mg Y)(Ey:⟨⟩ 9 "look" ["form","codes"] (sf K Y))(uB:⟨⟩ 9 "plan_with" ["plans","block","column","cut","cost"] (gF K Y P w mg base))(AW:⟨⟩ 9 "corner" ["box"] (lN K Y)) {cL tP:Ki}(d4:fd.code=.ref cL)(ht:lc K "plan_of" = N8 (cL,tP)) (hT:ON base cL tP/\base.BuiltinsAt mg tP):() 10 f fd ["plans","block","marks","costs","form"] (jJ K Y P w mg base):=by
 refine F.okT d4 Z62 (λvs H Q E h=>?_)<|λA e9 s H vs Q E hr h=>?_
 .let(d,b,ml,cl,v,a5,M,B,as,g,xs,n,F_,sv,G,rfl,hD,hB,h5,a4,hM,a7,b4,b1,c1,jd,hv,Gd,a2,q):=h;rfl
 let(d,b,ml,cl,v,a5,M,B,as,g,xs,n,F_,sv,G,rfl,hD,hB,h5,a4,hM,a7,b4,b1,c1,jd,hv,Gd,a2,q):=h
 refine(_,(au (aK (i:=5) Z62.nd U (cr U)<|aW ai)
  (aN (bz sB U (wW U bl.enumerate_<|ae (pv 2) ai) (fL U<|aF (az (i:=6) Z62.nd U<|cr U)<|aF (az (i:=7) Z62.nd U<|cr U) bM)
  (ak (bz sB U (aQ<|pv 7) (az (i:=8) Z62.nd U<|cr U)
  (ak (bx (gZ nh fU (aP bL (aP bL (pv 1) (pv 6)<|λ_ _=>U) aq<|λ_ _=>U) (pv 8)<|aP bL (aP bL (pv 1) (pv 6)<|λ_ _=>U) aq<|λ_ _=>U)
  (ak<|bj<|ib PySem.F.plainAttrs_list PySem.F.slot_list_append PySem.F.type_list_append bY (pv 5)<|ae (aL uB hr U<|ae (pv 0)<|ae (pv 1)<|ae (pv 6)<|ae (pv 8)<|ae (aP b7 (pv 3) (pv 6)<|λ_ _=>U) ai) ai)
  aM)))))
  (au (bx (eA<|cY (pv 5) (by intro _;rfl))
  (ak<|ay<|bo<|ae aq<|ae (bo<|ae (md U bl.SAY_)<|ae (aL Ey hr U<|ae (pv 4)<|ae (aL AW hr U<|ae (pv 1) ai) ai) ai) ai)
  aM)
  (ak<|ay<|BN (k:=8) U (hr.mono ⋯) U bl.min_ (pv 5)<|vM (clos:=[]) U hT.1 hT.2 U<|ji _)))),?_,)
 dsimp only[bw,RI,RH];show(let r3:TS:=_;let r2:TS:=aS _ r3;let r1:TS:=dj _ r2;aS _ r1 _ _ _);intro _ _ _;let(xb,eb,hx):=id hB;refine((by show 0<=Kk;decide),λnb a6=>?_,);let s0:aw H (upd H nb<|.lst []):=aj a6 _;let e0:upd H nb (.lst []) nb=N8 (.lst []):=ag;generalize upd H nb (.lst [])=H0 at s0 e0⊢;refine(let I_:RJ:=λD I=>aw H I/\E4 λ(C:Oo V)(c6 c7 N:Option V)=>A4 (I nb=N8 (.lst C)) (PlL K I C<|gA B g xs G ⇑g) (C.length<=29*⇑g)<|D=[↑d,↑b,↑ml,↑cl,N8 v,↑nb,c6,c7,N];(I_,?_,?_,))
 .refine(ml,U,(_,RF<|s0 _ _ a4,),(let I_:Nat->RJ:=λi D I=>aw H I/\E4 λ(C:Oo V)(c6 c7 N:Option V)=>A4 (I nb=N8 (.lst C)) (PlL K I C<|gA B g xs G i) (C.length<=29*i)<|D=[↑d,↑b,↑ml,↑cl,N8 v,↑nb,c6,c7,N];Ad (xs:=as.map mt) I_ (s0,[],_,_,_,e0,aJ.nil,v3 _,U,) (λi D I h=>RF<|h.1 _ _ a4) (λi y D H1 T ey hh hT=>?_) (λD H1 hh=>?_)),)
  .let(Z,C,c6,c7,N,e1,hU,R,rfl):=hh;let(r,rfl,er):=oy ey;let(O,em):∃O,g[i]?=N8 O:=(_,JP (by rw[←hM.1];exact(JQ.mp er).1),);let(r',b6,S):=hM.2 i O em;rw[er]at b6;cases b6;let hi:i<B.length:=by rw[←a7];exact(JQ.mp em).1
   let u2:=aj hT<|.tup [.int i,.ref r];let eT:upd H1 T (.tup [.int i,.ref r]) T=N8 (.tup [.int i,.ref r]):=ag;generalize upd H1 T (.tup [.int i,.ref r])=H2 at u2 eT⊢;let s2:=Z.trans u2;calc(T,_,U,RG eT,U,_,_,U,_,_,U,U,?_,);let(rp,e8,b5):=Eg hx (i:=i) hi;let c0:atI xb (i:Int)=↑rp:=cP e8;let b3:B[i]?=N8 ((B.getD i (0,0)).1,(B.getD i (0,0)).2):=by rw[cO,JP hi];rfl
   let c2:i<⇑xs:=∅
   let e7:atI (xs.map ut) (i:Int)=N8 (.int<|xs.getD i 0):=cP (by rw[dr,cO,JP c2];rfl);let wg:=b4 O<|JR em;let d1:g.getD i []=O:=by rw[cO,em];rfl
   refine(r,U,(_,RF<|s2 _ _ S,),(let I_:Nat->RJ:=λj D I=>aw H I/\E2 λ(C:Oo V)(N:Option V)=>A4 (I nb=N8 (.lst C)) (PlL K I C<|gA B g xs G i++pT B (xs.getD i 0) G i (O.take j)) (C.length<=29*i+j)<|D=[↑d,↑b,↑ml,↑cl,N8 v,↑nb,N8<|.int i,↑r,N];bA (xs:=O.map ut) I_ (s2,C,_,u2 _ _ e1,by rw[show pT B (xs.getD i 0) G i (O.take 0)=[]from U,iI];exact hU.mono λ_ _ z=>z.mono u2.tups,R,U,) (λj D I _ h=>RF<|h.1 _ _ S) (λj y D H3 d5 hh=>?_) (λD H3 hh=>?_)),)
   .let(L,J,N,e3,X,Ge,rfl):=hh;let(m,rfl,a1):=of_map d5;let hj:j<O.length:=(JQ.mp a1).1;let no:¬ ((B.getD i (0,0)).1<m/\m<=(B.getD i (0,0)).2)->aw H H3/\E2 λ(C:Oo V)(N:Option V)=>A4 (H3 nb=N8 (.lst C)) (PlL K H3 C<|gA B g xs G i++pT B (xs.getD i 0) G i (O.take<|j+1)) (C.length<=29*i+(j+1)) ([N8 (mt d),↑b,↑ml,↑cl,N8 v,↑nb,N8<|.int i,↑r,N8 (.int m)]=[↑d,↑b,↑ml,↑cl,N8 v,↑nb,N8<|.int i,↑r,N]):= λhn =>
     (L,J,_,e3,by rw[take_snoc a1,qP,Oe hn,iI];exact X,∅,U,)
    calc(b,_,_,_,U,U,RG<|L _ _ eb,c0,rp,_,_,_,U,U,RG<|L _ _ b5,U,_,_,U,U,_,U,?_,);by_cases h1:(B.getD i (0,0)).1<m
    .rw[Of (Oh h1)];calc(b,_,_,_,U,U,RG<|L _ _ eb,c0,rp,_,_,_,U,U,RG<|L _ _ b5,U,_,_,U,U,_,U,?_,);by_cases h2:m<=(B.getD i (0,0)).2
     .rw[Of (Oh h2)];let(hb,ha,hd):=jd i _ _ m O b3 em (JR a1) h1 h2;calc(.inl (U,_,RF e3,),cl,_,_,_,U,U,RF<|L _ _ b1,e7,d,b,a5,M,B,i,m,_,_,_,_,_,U,hD.keep (L _ _ hD.at_) L.tups,BxA.mono hB L.tups,h5,b3,hb,ha,hd,λr4 H4 s4 c5=>?_,);let e4:=s4 _ _ e3;let f2:i<5:=∅
      refine(nb,J,_,U,U,e4,aC ∅,(L.trans s4).upd a6,J++[.ref r4],_,ag,?_,by rw[cn,il];lia,U,);let st:bG H3 (upd H4 nb<|.lst<|J++[.ref r4]):=s4.tups.trans<|aR e4;rw[take_snoc a1,qP,Of (h1,h2,),←hZ];exact aJ.snoc (X.mono λ_ _ z=>z.mono st)<|c5.mono<|aR e4
     .rw[Oe (by rw[Oi h2];decide)];exact no λz=>h2 z.2
    .rw[Oe (by rw[Oi h1];decide)];calc(_,U,?_,);exact no λz=>h1 z.1
   .let(L,J,N,e3,X,Ge,rfl):=hh;rw[aa,fm]at X;rw[aa]at Ge;exact(L,J,_,_,_,e3,by rw[yF,d1];exact X,∅,U,)
  .let(Z,C,c6,c7,N,e1,hU,R,rfl):=hh;rw[aa,hM.1]at hU R;exact(Z,C,_,_,_,e1,hU,R,U,)
 rintro f0 H1 ⟨Z,C,c6,c7,N,e1,hU,R,rfl⟩;let a8:=hU.1;calc(!C.isEmpty,.inl (C,RF e1,U,),?_,);show if (!(!C.isEmpty))=Oa then _ else _
 rw[Bool.not_not];cases C with
 |nil =>
  rw[show([]:Oo V).isEmpty=Oa from U,Of U];let d3:gA B g xs G ⇑g=[]:=jM a8.symm;calc(b,B,U,BxA.mono hB Z.tups,∅,λl H2 s2 n2 e2=>?_,);let u2:=Z.trans s2;let(u,(rv,rfl,c3),d0):=Ec (K:=K) Gd<|FmV.mono u2.tups hv;refine(v,.ref rv,l,_,U,RF e2,d0,(by show 2<=Kk;decide),λt c4=>((by show 2<=Kk;decide),λr S=>?_,),);let u3:=(aj c4<|.tup [.str kz,.ref rv]).trans<|aj S<|.tup [.int 0,.ref t];let u4:=u2.trans u3;calc q r _ (So.of u4) (λz e=>(a2 z e).same u4) (_,ht,λd o _ h=>u4 d o h,) ?_;let a3:plB B g xs G sv=(0,.say sv):=by unfold plB;rw[d3]
  rw[a3];exact(t,ag,rv,aj S _ _ _ ag,c3.mono u3.tups,)
 |cons u0 C =>
  rw[show(u0 :: C).isEmpty=Ob from U,Oe ⋯];let(ds,e6,b0,a9):=B4 hU;rw[e6]at e1;let AX:=(a2 _ ht).same Z;let(f1,e5,_):=id AX;refine([(oo Y62,"plan_of.<locals>.<lambda>")],cf,?_,AX,λf_ c' oc pm ctv H3 hf kp ef ec d2 tR inj=>?_,)
  .intro p hp _ _;rw[fo.mp hp];rfl
  let a0:So H1 H3:=λd o p e=>kp d o (λz=>by rw[z,e5]at e;cases e;exact p) e
  let jm:gL H3 f_ c' (ls "<lambda>" "plan_of.<locals>.<lambda>" (om Y62) (mD Y62) (iw Y62) [] pm c' ctv) "plan_of.<locals>.<lambda>" [] []:=⟨ef,(oc,ec,d2,),(λc hc=>by cases hc),λx v e=>by cases e⟩;refine(nb,f_,ds,_,λi=>((gA B g xs G ⇑g).getD i (0,.say sv)).1,U,U,RF<|a0.lst e1,(by rw[b0,←a8];exact CB _),lQ (doc:=.none) (pm:=pm) (ctv:=ctv) (c':=c') bl inj,(λi a hi=>?_),λi a hi Cd=>?_,)
  .let(p,ep,hp):=a9 i a hi;exact(a,p,U,jm,hp.mono a0.tups,by show ut p.1=.int ((gA B g xs G ⇑g).getD i (0,.say sv)).1;rw[cO,ep];rfl,U,)
  .let(p,ep,hp):=a9 i a hi;refine q a H3 ((So.of Z).trans a0) (λz e=>?_) (_,ht,λd o hd h=>kp d o hd<|Z _ _ h,) ?_
   .rw[ht]at e;cases e;exact tR
   .let a3:plB B g xs G sv=p:=by
     unfold plB;cases hc:gA B g xs G ⇑g with
     |nil=>rw[hc]at ep;simp at ep
     |cons p0 pr =>
      rw[hc]at ep Cd;calc(Eh ep λj q ej=>?_).symm;let hj:j<⇑ds:=by rw[b0,hc];exact(JQ.mp ej).1
      have:=Cd j hj;rw[cO,cO,ep,ej]at this;exact this
    rw[a3];calc hp.mono a0.tups
def IQ{k n:Nat}(F:Fun K "layered" "layered" Y54 f fd)(bl:Bl K mg Y)(oY:⟨⟩ k "closed" ["triples"] (i6 K Y))(lR:⟨⟩ k "layered" ["columns","ahead","leaf"] (fh K Y P w mg base n)) (hk:8<=k):() (k+1) f fd ["columns","ahead","leaf"] (fh K Y P w mg base<|n+1):=by
 refine F.okA Z54 λc0 A b5 s H vs Q E hr h=>?_
 let(c,b,f_,xs,a,M,m,L,iL,A,g,J,rfl,hn,hc,hC,hb,a1,b3,b0,hm,Z,hJ,q):=h
 refine(_,(au (bx (eA<|cY (pv 0) (by intro _;rfl))
  (ak<|ay<|wY (k:=8) (i:=2) (hr.mono hk) U (v6<|cr U)<|ae (pv 1) ai)
  aM)
  (ak<|ay<|aL oY hr U<|ae (d6 (aQ<|aP b7 (pv 0) aq<|λ_ _=>U) (d7 (N:=["low","high","columns","ahead","leaf"]) (k:=2) (fr:=[0,1,2]) (cl:=[("leaf",↥s+1+1+1),("columns",↥s+1),("ahead",↥s+1+1)]) U U (~~~0) (~~~0) U U (ia.mpr (U,ia.mpr (U,ia.mpr (U,ji _,),),)) U) U (λ_ _ _ _=>(jv (K:=K) (n:=2) U U<|aF (az (i:=0) (show(["low","high","columns","ahead","leaf"]:Oo Str).Nodup by decide+kernel) U (cr U) (v6 U)) (aF (az (i:=1) (show(["low","high","columns","ahead","leaf"]:Oo Str).Nodup by decide+kernel) U (cr U) (v6 U)) bM))) (λ_ _ _ _=>b8) (λ_ _ _ _=>(bo<|ae (pv 0)<|ae (pv 1)<|ae (aL lR hr U<|ae (hV (Ae (K:=K) U) (pv 2) (ki aq) kh)<|ae (aD rf (pv 3)<|aW<|ae (pv 0) ai)<|ae (pv 4) ai) ai))) ai)),?_,)
 dsimp only[bw,RI,RH];show(let r1:TS:=_;aS _ r1 _ _ _);intro _;cases a with
 |nil =>
  let hx:xs=[]:=jM hC.1;subst hx;let(sp,hF,a9):=Z.fn;calc(_,.inl (_,RF hc,U,),eU ?_,);exact(f_,sp,U,Z.ob H hJ,hF,Z.ob H hJ,a9 H b M _ hJ (by rw[hm];rfl) hb λv u h' hv=>q v u h' hv,)
 |cons y a =>
  let(r,ex,ts,er,hp):=hC.2 0 y U;let(l,rfl):∃l,xs=.ref r :: l:=by
   cases xs with
   |nil=>cases ex
   |cons x l=>cases ex;exact(l,U,)
  let b4:CoL H l a:=(~~~hC.1,λj c e=>~~~hC.2 (j+1) c (~~~e),);let b6:⇑y<=401:=a1 y cf;let a5:⇑ts=⇑y:=⇑hp;let JO:⇑a<=5:=by rw[en]at b0;lia
  refine(_,.inl (_,RF hc,U,),dY ?_,)
  refine(c,_,_,_,U,U,RF hc,cP (j:=0) U,r,U,(_,RF er,),jA (xs:=ts) (λD i G u=>aw H u/\u D=N8 (.lst G)/\FmL (FmV A u ⇑a) u ((y.take i).map λp=>(p.1,p.2,lay g a<|M++[p.1])) G/\G.length<=i)
   (λD hD=>(aj hD _,ag,FmL.nil,v3 _,)) (λD i G u hD _ h=>RF<|h.1 _ _ er) (λD i x G u hD e h ss a8=>?_) (λD G u hD h=>?_),)
  .let(I,eD,S,a4):=h;let(p,t,ep,rfl,ht):=hp.get e;let hi:i<⇑ts:=(JQ.mp e).1;let(t0,B,rfl):∃t0 B,ss=[t0,B]:=by
    match ss,a8 with
    | [t0,B],_=>exact(t0,B,U,)
   calc(t,_,U,RG<|I _ _ ht,U,_,_,U,_,_,U,U,([N8 (.int p.1),N8 (.int p.2)],U,U,),?_,);calc(_,U,c,_,U,RF<|I _ _ hc,λc2 b1=>?_,);rw[t9];let s2:aw u (upd u c2<|.lst l):=aj b1 _;let a2:upd u c2 (.lst l) c2=N8 (.lst l):=ag;generalize upd u c2 (.lst l)=T at s2 a2⊢;refine((by show 1<=Kk;decide),λB a7=>?_,);let X:aw T (upd T B<|.lst [.int p.1]):=aj a7 _;let e1:upd T B (.lst [.int p.1]) B=N8 (.lst [.int p.1]):=ag;generalize upd T B (.lst [.int p.1])=H3 at X e1⊢;refine(b,B,_,_,U,U,X _ _<|s2 _ _<|I _ _ hb,e1,wx<|aC (by rw[aa];show M.length+1<=1000;lia),λR a0=>?_,);let s4:aw H3 (upd H3 R<|.lst<|M.map ut++[.int p.1]):=aj a0 _;let e2:upd H3 R (.lst<|M.map ut++[.int p.1]) R=N8 (.lst<|(M++[p.1]).map ut):=by rw[fj];exact ag
   generalize upd H3 R (.lst<|M.map ut++[.int p.1])=H4 at s4 e2⊢;let O:aw u H4:=(s2.trans X).trans s4;let f2:u R=none:=(s2.trans X).free a0;refine(c2,R,f_,l,a,M++[p.1],m,L,iL,A,g,J,U,by rw[en]at hn;lia,s4 _ _<|X _ _ a2,b4.same<|I.trans O,e2,λz S=>a1 z<|dy _ S,by rw[cn,il];rw[en]at b3;lia,∅,by rw[cn,il];rw[en]at hm;lia,Z,Z.st _ _ hJ<|I.trans O,λv H5 h5 hv=>?_,);let s5:aw u H5:=λd o ed=>h5 d o (λz=>by rw[z,f2]at ed;cases ed) (O _ _ ed)
   refine((by show 3<=Kk;decide),λW a6=>?_,);let s6:aw H5 (upd H5 W<|.tup [.int p.1,.int p.2,v]):=aj a6 _;let e3:upd H5 W (.tup [.int p.1,.int p.2,v]) W=N8 (.tup [.int p.1,.int p.2,v]):=ag;generalize upd H5 W (.tup [.int p.1,.int p.2,v])=H6 at s6 e3⊢;let C:=s5.trans s6;let a3:=C _ _ eD;refine df.mk hi a3 (aC ∅) ((I.trans C).upd hD,ag,?_,by rw[cn,il];lia,);let st:bG H6 (upd H6 D<|.lst<|G++[.ref W]):=aR a3;rw[take_snoc ep,fj];exact(S.mono (λ_ _ z=>FmV.mono (C.tups.trans st) z)<|C.tups.trans st).snoc (st _ _ e3) (FmV.mono (s6.tups.trans st) hv)
  .let(I,eD,S,a4):=h;rw[a5,fm]at S;refine(L,iL,A,⇑a,D,G,_,U,∅,eD,S,by rw[aa];lia,λr2 T s2 hf=>?_,);calc q _ T (λd o _ ed=>(I.trans s2) _ _ ed) hf
def IS{k n:Nat}(F:Fun K "mapped" "mapped" Y57 f fd)(bl:Bl K mg Y)(oY:⟨⟩ k "closed" ["triples"] (i6 K Y))(oZ:⟨⟩ k "mapped" ["form","deep","change"] (gj K Y P w mg base n)) (hk:8<=k):() (k+1) f fd ["form","deep","change"] (gj K Y P w mg base<|n+1):=by
 refine F.okA Z57 λb1 A a8 s H vs Q E Z h=>?_
 let(L,M,iL,iM,A,B,h_,J,d,F_,v,f_,rfl,hn,b0,R,a6,m,S,q):=h
 refine(_,(au (bx (aX eS (pv 1) aq<|bg _)
  (ak<|ay<|wY (k:=8) (i:=2) (Z.mono hk) U (v6<|cr U)<|ae (pv 0) ai)
  aM)
  (ak<|ay<|aL oY Z U<|ae (d6 (qY<|pv 0) (d7 (N:=["low","high","beneath","deep","change"]) (k:=3) (fr:=[1,2]) (cl:=[("deep",↥s+1),("change",↥s+1+1)]) U U (~~~0) (~~~0) U U (ia.mpr (U,ia.mpr (U,ji _,),)) U) U (λ_ _ _ _=>(jv (K:=K) (n:=3) U U<|aF (az (i:=0) (show(["low","high","beneath","deep","change"]:Oo Str).Nodup by decide+kernel) U (cr U) (v6 U)) (aF (az (i:=1) (show(["low","high","beneath","deep","change"]:Oo Str).Nodup by decide+kernel) U (cr U) (v6 U)) (aF (az (i:=2) (show(["low","high","beneath","deep","change"]:Oo Str).Nodup by decide+kernel) U (cr U) (v6 U)) bM)))) (λ_ _ _ _=>b8) (λ_ _ _ _=>(bo<|ae (pv 0)<|ae (pv 1)<|ae (aL oZ Z U<|ae (pv 2)<|ae (aD eR (pv 3) aq)<|ae (pv 4) ai) ai))) ai)),?_,)
 dsimp only[bw,RI,RH];show(let r1:TS:=_;aS _ r1 _ _ _);intro _;cases d with
 |zero =>
  let(sp,hF,a5):=m.fn;calc(U,_,U,qC U ?_,);exact(f_,sp,U,m.ob H S,hF,m.ob H S,a5 H v F_ _ S R λu b s' X=>q u b s' X,)
 |succ d =>
  let(G,rfl):∃G:Oo (T3a<|Fm L d),(G:Fm L (d+1))=F_:=(F_,U,);let(a9,IT):SmS 300 (SmF 300 d) G:=a6;let(a,xs,rfl,ha,hG):∃(a:Ki)(xs:Oo V),v=.ref a/\H a=N8 (.tup xs)/\FmL (FmV A H d) H G xs:=R;let a1:=hG.1;refine(U,_,U,mh (λz=>by have:=V.int.inj z;lia) ?_,)
  refine(a,U,(_,RG ha,),iW (xs:=xs) (λD i g b=>aw H b/\b D=N8 (.lst g)/\FmL (FmV B b d) b ((G.take i).map λt=>(t.1,t.2.1,pR h_ d t.2.2)) g/\⇑g<=i)
   (λD o=>(aj o _,ag,FmL.nil,v3 _,)) (λD i g b o _ h=>RG<|h.1 _ _ ha) (λD i x g b o e h ss a4=>?_) (λD g b o h=>?_),)
  .let(j,eD,O,a0):=h;let hi:i<⇑xs:=(JQ.mp e).1;let(t,et):∃t,G[i]?=N8 t:=(_,JP ∅,);let(r,u,ex,er,X):=hG.2 i t et;rw[e]at ex;cases ex;let(I,C,y,rfl):∃I C y,ss=[I,C,y]:=by
    match ss,a4 with
    | [I,C,y],_=>exact(I,C,y,U,)
   let a7:=j _ _ er;let a2:=FmV.mono j.tups X;calc(r,_,U,RG a7,U,_,_,U,_,_,U,_,_,U,U,([N8 (.int t.1),N8<|.int t.2.1,N8 u],U,U,),?_,);refine(_,_,U,U,L,M,iL,iM,A,B,h_,J,d,t.2.2,u,f_,by simp,∅,∅,a2,IT t<|JR et,m,m.st _ _ S j,λv T s5 R=>?_,);refine((by show 3<=Kk;decide),λl a3=>?_,);let W:aw T (upd T l<|.tup [.int t.1,.int t.2.1,v]):=aj a3 _;let e3:upd T l (.tup [.int t.1,.int t.2.1,v]) l=N8 (.tup [.int t.1,.int t.2.1,v]):=ag;generalize upd T l (.tup [.int t.1,.int t.2.1,v])=H6 at W e3⊢;let c:=s5.trans W;let p:=c _ _ eD;refine df.mk hi p (aC ∅) ((j.trans c).upd o,ag,?_,by rw[cn,il];lia,);let st:bG H6 (upd H6 D<|.lst<|g++[.ref l]):=aR p;rw[take_snoc et,fj];exact(O.mono (λ_ _ z=>FmV.mono (c.tups.trans st) z)<|c.tups.trans st).snoc (st _ _ e3) (FmV.mono (W.tups.trans st) R)
  .let(j,eD,O,a0):=h;rw[a1,fm]at O;refine(M,iM,B,d,D,g,_,U,∅,eD,O,by rw[aa];lia,λr2 H2 s2 hf=>?_,);calc q _ H2 (j.trans s2) hf
def IU(F:Fun K "built" "built" Y33 f fd)(bl:Bl K mg Y)(lR:⟨⟩ 15 "layered" ["columns","ahead","leaf"] (fh K Y P w mg base 7))(Cg:⟨⟩ 15 "grain" ["bounds","marks"] (oR K Y))(fT:⟨⟩ 15 "cut_columns" ["bounds","marks"] (dF K Y)):aH P w K mg base (CX1 P w) 16 f fd ["bounds","marks","leaf"] (oS K Y P w mg base):=by
 refine F.okEA Z33 λa1 A V s H vs Q E I h=>?_
 let(a,b,f_,W,c,as,e,L,iL,A,g,J,rfl,ha,O,Z,hM,hok,hL,hJ,qE,q):=h
 refine(_,(au (bx (aX ni (aL Cg I U<|ae (pv 0)<|ae (pv 1) ai) (md U bl.MOST_GRAIN_)<|bg _)
  (ak<|qz bl.x_TooFine I.hd U bl.TooFine_<|ae bI ai)
  aM)
  (ak<|ay<|aL lR I U<|ae (aL fT I U<|ae (pv 0)<|ae (pv 1) ai)<|ae (aW ai)<|ae (pv 2) ai)),?_,)
 show(let r1:TS:=_;aS _ r1 _ _ _);intro _;let a0:=O.length;let(B,y,x):=hok;calc(a,b,W,c,as,e,U,ha,O,Z,hM,(B,y,x,),λH1 m=>?_,);calc(_,_,U,U,_,U,?_,);refine eN (λn=>?_)<|λn=>?_
 .let n:((gr c e ⇑c:Nat):Int)>300:=l0 n;exact((by show 1<=Kk;decide),qE ∅ H1 m,)
 let n:¬ ((gr c e ⇑c:Nat):Int)>300:=l7 n;let hg:gr c e ⇑c<=300:=∅
 calc(a,b,W,c,as,e,U,m _ _ ha,O.mono m.tups,m _ _ Z,hM.same m,(B,y,x,),λl xs M i s2 el S D hx=>?_,);refine((by show 0<=Kk;decide),λt X=>?_,);let G:aw M (upd M t<|.lst []):=aj X _;let et:upd M t (.lst []) t=N8 (.lst []):=ag;generalize upd M t (.lst [])=H3 at G et⊢;let u:=(m.trans s2).trans G;let C:⇑(kt (λp k=>aU p.1 p.2 k) c i)=⇑c:=by rw[lO];lia
 refine(l,t,f_,xs,_,[],⇑c,L,iL,A,g,J,U,∅,G _ _ el,hx.same G,et,λT IV=>?_,by rw[C];show 0+⇑c<=6;lia,∅,by rw[C];show ⇑c=0+⇑c;lia,hL,hL.st _ _ hJ u,λv H4 h4 hv=>?_,)
 .let(j,r):=jk IV;let hj:j<⇑(kt (λp k=>aU p.1 p.2 k) c i):=(JQ.mp r).1;let(p,ep):∃p,c[j]?=N8 p:=(_,JP ∅,);let(k,ec):∃k,i[j]?=N8 k:=(_,JP ∅,);let(N,em):∃N,e[j]?=N8 N:=(_,JP ∅,);rw[my,ep,ec]at r;let r:aU p.1 p.2 k=T:=ci r;rw[←r,cx];let:=(D j p N k ep em ec).2.2;lia
 .exact q hg v H4 i (λd o R=>h4 d o (λz=>by have f:=(m.trans s2).free X;rw[z,f]at R;cases R) (u _ _ R)) S D hv
def kP{c' c_0:Ki}{doc pm ctv:Kd}(bl:Bl K mg Y)(B:⟨⟩ 7 "mask" ["table","codes"] (kM K Y)) (inj:∀x y c,([("table",c_0)]:Oo (Str×Ki)).lookup x=N8 c->([("table",c_0)]:Oo (Str×Ki)).lookup y=N8 c->x=y):HFn P w K mg base 8 f (gk K Y f c' c_0 doc pm ctv):=by
 let Z72:=@Z72 c_0;refine vO (qual := "row_form.<locals>.<lambda>") (e:=Y70) (c':=c') (cl:=[("table",c_0)]) (pm:=pm) (ctv:=ctv) Z72 inj (λp u=>match p,u with | [D],_=>rfl) (λn H Q E h=>?_) (λA g s H n Q E v h=>?_)
 .let(a,t,m,b,i,o,rfl,d,l,k,j,q):=h;rfl
 let(a,t,m,b,i,o,rfl,d,l,k,j,q):=h;calc(_,d,rC U,λC=>(_,(aL B v U<|ae (pv 1)<|ae (pv 0) ai),?_,),);let z:=d.2.2.fzs;let so:=So.hide z;calc(t,a,b,i,o,m,U,Tbl.so so l,RF<|so.lst k,j,λF r _=>q _<|n6 r,)
def IW(F:Fun K "row_form" "row_form" s_row_form f fd)(bl:Bl K mg Y)(Ci:b9 P w K mg base 16 "built" ["bounds","marks","leaf"] (oS K Y P w mg base))(cM:⟨⟩ 16 "table_bounds" ["table"] (cz K Y))(pW:⟨⟩ 16 "table_marks" ["table"] (fe K Y))(AY:⟨⟩ 16 "mask" ["table","codes"] (kM K Y)) {cL tP:Ki}(a5:fd.code=.ref cL)(S:lc K "row_form" = N8 (cL,tP)) (hT:ON base cL tP/\base.BuiltinsAt mg tP)(Ez:⟨⟩ 7 "mask" ["table","codes"] (kM K Y)):aH P w K mg base (CX1 P w) 17 f fd ["table"] (iF K Y):=by
 refine F.okTE a5 Z71 (λvs H Q E h=>?_)<|λA c1 s H vs Q E hr h=>?_
 .let(t,dv,bs,u,L,g_,i,o,rfl,g,Z,qE,q):=h;rfl
 let(t,dv,bs,u,L,g_,i,o,rfl,g,Z,qE,q):=h;calc(_,(ak<|ay<|BG (zs:=[("table",0,↥s+1)]) Ci hr U (ae (aL cM hr U<|ae (pv 0) ai)<|ae (aL pW hr U<|ae (pv 0) ai)<|ae (vM (clos:=[("table",↥s+1)]) U hT.1 hT.2 U<|ia.mpr (U,ji _,)) ai)<|ia.mpr ((U,cr U,U,cr U,),ji _,)),?_,);let a0:=g.td;let a6:=g.tb;let h4:=g.b4;calc(t,dv,bs,u,U,a0,∅,λl1 ys H1 s1 n1 e1 a7=>?_,);calc(t,dv,bs,u,L,U,a0.same s1,∅,g.rn,g.row,g.sp,g.mrk,λl2 as C H2 s2 n2 e2 hM O G=>?_,);let B:=s1.trans s2;let AX:=(Z _ S).same B;let(c2,b1,_):=id AX;refine([(oo Y70,"row_form.<locals>.<lambda>")],cf,?_,AX,λf_ c' oc pm ctv V hf kp ef ec a3 tR inj=>?_,)
 .intro p hp _ _;rw[fo.mp hp];rfl
 let r:So H2 V:=λd o p e=>kp d o (λz=>by rw[z,b1]at e;cases e;exact p) e
 refine λos D hz ho=>?_
 let y:=oh D hz;let a9:∃o,fY V ((([("table",0,↥s+1)]:Oo (Str×Nat×Ki)).map (·.2.2)).zip os) (↥s+1)=N8 (.frz o TTh):=by
  let(o,_,e):=dX (H:=V) (fz:=(([("table",0,↥s+1)]:Oo (Str×Nat×Ki)).map (·.2.2)).zip os) (b:=↥s+1) (by rw[og D];exact cf);exact(o,e,)
 let a4:=tN (H:=V) (cl:=[("table",↥s+1)]) (ws:=[("table",.ref t)]) D (by simp) ho (λc hc=>by
  simp only[iJ,ri,af,jj,or_false]at hc;exact(_,cf,hc.symm,)) (λx v e=>by
  unfold EQ at e;split at e
  .rename_i J
   cases e;rw[eq_of_beq J];exact(_,cf,U,U,)
  .cases e)
 let jm:gL (fY V ((([("table",0,↥s+1)]:Oo (Str×Nat×Ki)).map (·.2.2)).zip os)) f_ c' (ls "<lambda>" "row_form.<locals>.<lambda>" (om Y70) (mD Y70) (iw Y70) [("table",↥s+1)] pm c' ctv) "row_form.<locals>.<lambda>" [("table",↥s+1)] [("table",.ref t)]:=(y _ _ ef,(oc,y _ _ ec,a3,),a4,);let hN:D6 (K':=K) Ak P w K mg base f_ ⇑bs (λcd=>((msk (gN u cd) ⇑u:Nat):Int)) (λX=>gL X f_ c' (ls "<lambda>" "row_form.<locals>.<lambda>" (om Y70) (mD Y70) (iw Y70) [("table",↥s+1)] pm c' ctv) "row_form.<locals>.<lambda>" [("table",↥s+1)] [("table",.ref t)]/\Tbl Y.n Y.l Y.m X t u i o) :=
  ((_,kP (doc:=.none) (pm:=pm) (ctv:=ctv) (c':=c') (c_0:=↥s+1) bl Ez inj,λX a cd Q0 N hl ha k=>(a,t,cd,u,i,o,U,N.1,N.2,ha,(λx J=>by rw[g.row x J,hl]),λc0 s0=>k _ _ (λb o _ e=>s0 b o e) U,),),λX N=>(_,_,N.1.1,U,),λX c0 N s0=>(N.1.same s0,Tbl.same N.2 s0,),)
 let IX:MOK bs C:=(O.symm,∅,λI a1=>by
  let(c,ec):=jk a1;let hc:=(JQ.mp ec).1;let(b,eb):∃b,bs[c]?=N8 b:=(_,JP ∅,);let(pw,hm):=G c b I eb ec;exact vr (vY pw λx J=>(g.mrk c b eb).2 x<|(hm x).mp J) (g.mrk c b eb).1,)
 refine(l1,l2,f_,ys,bs,as,C,Int,inferInstance,Ak,_,_,U,(So.lst r (s2 _ _ e1) |> λe=>y _ _ e),((a7.mono s2.tups).mono r.tups).mono y.tups,y _ _<|r.lst e2,(MLs.so r hM).same y,IX,hN,(jm,Tbl.same (Tbl.so r<|Tbl.same a6 B) y,),λhg H4 s4=>?_,λhg v H4 b6 s4 IY a2 a8=>?_,)
 .let M:=_L.hide_same D hz s4;refine qE (by rw[←g.gr C O G];exact hg) _ (((So.of B).trans r).trans<|So.of M) (λz T=>?_) (_,S,);rw[S]at T;cases T;exact(tR.same M,λd o hd e=>M _ _<|kp d o hd<|B _ _ e,)
 let M:=_L.hide_same D hz s4;let(o2,b3):=a9;let b0:Fzs H4 [↥s+1]:=λd hd=>by rw[fo.mp hd];exact(o2,s4 _ _ b3,)
 refine q (by rw[←g.gr C O G];exact hg) v _ b6 (((So.of B).trans r).trans<|So.of M) (λz T=>?_) (_,S,) IY (λj p cs ep b5=>?_) (a8.mono (So.hide b0).tups)
 .rw[S]at T;cases T;exact(tR.same M,λd o hd e=>M _ _<|kp d o hd<|B _ _ e,)
 .let(I,R):∃I,C[j]?=N8 I:=(_,JP (by have:=(JQ.mp ep).1;lia),);let(pw,hm,_):=a2 j p I cs ep R b5;calc(pw,λx=>(hm x).trans (λh=>((G j p I ep R).2 x).mp h.1,λh=>(((G j p I ep R).2 x).mpr h,?_,),),);let(w_,_,J):=h;let:=(ke.mp J).2;rw[Iv,Om,Om]at this;calc this
def gQ{c' c_0:Ki}{doc pm ctv:Kd}(bl:Bl K mg Y)(n:⟨⟩ 7 "judged" ["table","rows"] (gi K Y)) (inj:∀x y c,([("table",c_0)]:Oo (Str×Ki)).lookup x=N8 c->([("table",c_0)]:Oo (Str×Ki)).lookup y=N8 c->x=y):HFn P w K mg base 8 f (d9 K Y f c' c_0 doc pm ctv):=by
 let Z77:=@Z77 c_0;refine vO (qual := "verdict_form.<locals>.<lambda>") (e:=Y74) (c':=c') (cl:=[("table",c_0)]) (pm:=pm) (ctv:=ctv) Z77 inj (λl v=>match l,v with | [F],_=>rfl) (λk H Q E h=>?_) (λA g s H k Q E z h=>?_)
 .let(m,t,a,i,o,rfl,b,j,q):=h;rfl
 let(m,t,a,i,o,rfl,b,j,q):=h;calc(_,b,rC U,λD=>(_,(aL n z U<|ae (pv 1)<|ae (pv 0) ai),?_,),);let C:=b.2.2.fzs;let so:=So.hide C;calc(t,a,i,o,m,U,Tbl.so so j,λr G p d u=>q r _ (n6 p) ?_,);rcases d with e|e
 .exact .inl<|(cA λB=>by have:=u r B;rw[e]at this;cases this).trans e
 .exact .inr e
def IZ(F:Fun K "verdict_form" "verdict_form" s_verdict_form f fd)(bl:Bl K mg Y)(oZ:⟨⟩ 17 "mapped" ["form","deep","change"] (gj K Y P w mg base 7)) (wj:b9 P w K mg base 17 "row_form" ["table"] (iF K Y))(uC:⟨⟩ 17 "judged" ["table","rows"] (gi K Y)) {cL tP:Ki}(c3:fd.code=.ref cL)(O:lc K "verdict_form" = N8 (cL,tP)) (hT:ON base cL tP/\base.BuiltinsAt mg tP)(AZ:⟨⟩ 7 "judged" ["table","rows"] (gi K Y)):aH P w K mg base (CX1 P w) 18 f fd ["table"] (eL K Y):=by
 refine F.okTE c3 Z76 (λvs H Q E h=>?_)<|λA d5 s H vs Q E hr h=>?_
 .let(t,dv,bs,a,L,g_,i,o,rfl,h,I,X,qE,q):=h;rfl
 let(t,dv,bs,a,L,g_,i,o,rfl,h,I,X,qE,q):=h;calc(_,(ak<|ay<|DQ (zs:=[("table",0,↥s+1)]) oZ hr U (ae (nR wj passE hr U<|ae (pv 0) ai)<|ae (aG aI U bl.len_ N7<|ae (cc (pv 0) U) ai)<|ae (vM (clos:=[("table",↥s+1)]) U hT.1 hT.2 U<|ia.mpr (U,ji _,)) ai)<|ia.mpr ((U,cr U,U,cr U,),ji _,)),?_,);let e3:=h.b4;let(rl,dx,dl,fs,xs,b5,f1,f2,d3,c0,e4,hR):=id h.td;let c1:⇑dv=⇑bs:=c0.1;refine(t,dv,bs,a,L,g_,i,o,U,h,I,λhg H1 y B V=>?_,λhg v H1 a9 y B V a5 Z a6=>?_,)
 .refine qE hg H1 y (λz e=>(B z e).1)<|λz e=>?_;rw[O]at e;cases e;let(C,r):=V;let(pz,a0,_):=I C r;exact tab_keep (X _ O) (bl.nt0 C _ r O).symm a0 (B C r).2
 generalize A1:kt (λp D=>aU p.1 p.2 D) bs a9=cols at a6;let hok:iu cols bs:=by
  rw[←A1];exact Ay a5 h.le λj p D e1 e2=>((Z j p D e1 e2).1,λc S=>oA<|((Z j p D e1 e2).2 c).mp S,)
 let a4:⇑cols=⇑bs:=by rw[←A1,lO];lia
 let S:BR bs a cols:=(hok,a9,a5,A1.symm,Z,);let N:=h.cl S;calc(t,_,_,_,_,U,y.ins b5,bl.k_Table,bl.na_Table_domains,f2,dl,_,U,.inl<|RF<|y.lst d3,?_,);let(C,r):=V;let(b3,b6):=B C r;let a1:=bl.nt0 C _ r O;let a3:bP H1 tP [(oo Y74,"verdict_form.<locals>.<lambda>")]:=by
  let(pz,a0,_):=I C r;exact tab_keep (X _ O) a1.symm a0 b6
 let(e0,a8,_):=id a3;refine([(oo Y74,"verdict_form.<locals>.<lambda>")],cf,?_,a3,λf_ c' oc pm ctv H3 hf kp ef ec c2 tR inj=>?_,)
 .intro p hp _ _;rw[fo.mp hp];rfl
 let T:So H1 H3:=λd o p e=>kp d o (λz=>by rw[z,a8]at e;cases e;exact p) e
 let Ja:bP H3 C.2 [(oo Y70,"row_form.<locals>.<lambda>")]:=tab_keep b3 a1 a8 kp;refine λos J hz ho=>?_
 let M:=oh J hz;let c5:∃o,fY H3 ((([("table",0,↥s+1)]:Oo (Str×Nat×Ki)).map (·.2.2)).zip os) (↥s+1)=N8 (.frz o TTh):=by
  let(o,_,e):=dX (H:=H3) (fz:=(([("table",0,↥s+1)]:Oo (Str×Nat×Ki)).map (·.2.2)).zip os) (b:=↥s+1) (by rw[og J];exact cf);exact(o,e,)
 let Jb:=tN (H:=H3) (cl:=[("table",↥s+1)]) (ws:=[("table",.ref t)]) J (by simp) ho (λc S=>by
  simp only[iJ,ri,af,jj,or_false]at S;exact(_,cf,S.symm,)) (λx v e=>by
  unfold EQ at e;split at e
  .rename_i hx
   cases e;rw[eq_of_beq hx];exact(_,cf,U,U,)
  .cases e)
 let jm:gL (fY H3 ((([("table",0,↥s+1)]:Oo (Str×Nat×Ki)).map (·.2.2)).zip os)) f_ c' (ls "<lambda>" "verdict_form.<locals>.<lambda>" (om Y74) (mD Y74) (iw Y74) [("table",↥s+1)] pm c' ctv) "verdict_form.<locals>.<lambda>" [("table",↥s+1)] [("table",.ref t)]:=(M _ _ ef,(oc,M _ _ ec,c2,),Jb,);let hN:FT (K':=K) Ak LVd P w K mg base f_ (vdm a i o) (λH0=>gL H0 f_ c' (ls "<lambda>" "verdict_form.<locals>.<lambda>" (om Y74) (mD Y74) (iw Y74) [("table",↥s+1)] pm c' ctv) "verdict_form.<locals>.<lambda>" [("table",↥s+1)] [("table",.ref t)]/\Tbl Y.n Y.l Y.m H0 t a i o) :=
  ((_,gQ (doc:=.none) (pm:=pm) (ctv:=ctv) (c':=c') (c_0:=↥s+1) bl AZ inj,λH0 v x Q0 R hv k=>by
   let hv:v=.int x:=hv;subst hv;exact(x,t,a,i,o,U,R.1,R.2,λr_ d4 s0 b1=>k _ _ s0 (r_,U,b1,),),),λH0 R=>(_,_,R.1.1,U,),λH0 d4 R s0=>(R.1.same s0,Tbl.same R.2 s0,),)
 refine(Int,SI,inferInstance,inferInstance,Ak,LVd,vdm a i o,_,⇑cols,lay (mkg a) cols [],v,f_,?_,∅,∅,?_,?_,hN,(jm,Tbl.same (Tbl.so T<|Tbl.so y h.tb) M,),λu H4 s4 a7=>?_,)
 .rw[c1,←a4]
 .exact(a6.mono T.tups).mono M.tups
 .exact(vX hok N []).le hg
 rw[BU hok]at a7;let G:=_L.hide_same J hz s4;let(o2,d2):=c5;let c6:Fzs H4 [↥s+1]:=λd hd=>by rw[fo.mp hd];exact(o2,s4 _ _ d2,)
 let c4:=a7.mono (So.hide c6).tups;let b0:So H (hideL H4 [↥s+1]):=(y.trans T).trans<|So.of G;let(F',d1,d0,c8,c7):=FX a4 (lay (λcd=>vdm a i o<|mkg a cd) cols []) (λn F=>FmV (K:=K) LVd (hideL H4 [↥s+1]) n F u/\fP n F bs/\SmF 300 n F/\∀D,InB D bs->Tel n F D (vdm a i o<|mkg a D)) (c4,rE hok [],(vX hok N []).le hg,λD a2=>by
  let:=rF (g:=λcd=>vdm a i o<|mkg a cd) hok [] D a2;rw[List.nil_append,BS S (λx hx=>h.row x hx) a2]at this;exact this,)
 refine q hg u F' _ b0 (λz e=>?_) (λz e=>?_) (C,_,r,O,λd o n1 n2 e=>G _ _<|kp d o n2<|(B C r).2 d o n1 e,) d1 d0 c8 c7
 .rw[r]at e;cases e;exact Ja.same G
 .rw[O]at e;cases e;calc tR.same G
def Jc(F:Fun K "planned" "planned" Y64 f fd)(bl:Bl K mg Y)(cM:⟨⟩ 18 "table_bounds" ["table"] (cz K Y)) (o6:b9 P w K mg base 18 "verdict_form" ["table"] (eL K Y))(jU:⟨⟩ 18 "marks_of" ["form","deep"] (d8 K Y 7)) (mH:b9 P w K mg base 18 "refuse_blocks" ["marks"] (dS K Y))(uD:⟨⟩ 18 "blocks_of" ["bounds","marks"] (gE K Y))(yR:⟨⟩ 18 "plan_of" ["plans","block","marks","costs","form"] (jJ K Y P w mg base)):aH P w K mg base (CX1 P w) 19 f fd ["table","prices"] (gH K Y P w mg base):=by
 refine F.okEA Z65 λh5 A f9 s H vs Q E hr h=>?_
 let(t,dv,bs,k,L,g_,i,o,xs,Ls,b_,rfl,h,c2,c1,f3,f1,g7,d3,c4,oO,se,qE,q):=h
 refine(_,(aN (aK (i:=2) Z65.nd U (cr U)<|aL cM hr U<|ae (pv 0) ai)
  (aN (aK (i:=3) Z65.nd U (cr U)<|nR o6 passE hr U<|ae (pv 0) ai)
  (aN (aK (i:=4) Z65.nd U (cr U)<|aL jU hr U<|ae (pv 3)<|ae (aG aI U bl.len_ N7<|ae (pv 2) ai) ai)
  (aN (bj<|nR mH passE hr U<|ae (pv 4) ai)
  (aN (aK (i:=5) Z65.nd U (cr U)<|m8 (aX Dp (pv 1) C5<|bg _) (dW (aQ<|pv 2) (fw U (~~~0) (~~~0) (~~~0) U) U (λ_ _ _ _=>b8)<|λ_ _ _ _=>aq)<|pv 1)
  (aN (aK (i:=6) Z65.nd U (cr U) Ao)
  (au (bz (qy U U U) U (aQ<|aL uD hr U<|ae (pv 2)<|ae (pv 4) ai) (az (i:=7) Z65.nd U<|cr U)
  (ak<|BK hr (pv 6) (pv 7) (aL yR hr U<|ae (pv 6)<|ae (pv 7)<|ae (pv 4)<|ae (pv 5)<|ae (pv 3) ai) U))
  (ak<|ay<|pv 6)))))))),?_,)
 dsimp only[bw,RI,RH];show(let r7:TS:=_;let r6:TS:=aS _ r7;let r5:TS:=dj _ r6;let r4:TS:=dj _ r5;let r3:TS:=dj _ r4;let r2:TS:=dj _ r3;let r1:TS:=dj _ r2;dj _ r1 _ _ _);intro _ _ _ _ _ _ _;let g9:=h.b4;refine(let J:RJ:=λg a=>aw H a/\E2 λ(l:Ki)(ys:Oo V)=>A3 (a l=N8 (.lst ys)) (PL a ys bs)<|g=[↑t,N8 .non,↑l,N9,N9,N9,N9,N9];(J,?_,?_,))
 .refine(t,dv,bs,k,U,h.td,∅,λl ys H1 W n1 Z c3=>(W,l,ys,Z,c3,U,),)
 rintro g6 H1 ⟨W,l,ys,Z,c3,rfl⟩;refine(let J:RJ:=λg a=>Sf H a/\jf K a/\jg K a/\mF K a/\a l=N8 (.lst ys)/\PL a ys bs/\E2 λ(v:V)(F:Fm SI ⇑bs)=>A5 (FmV (K:=K) LVd a ⇑bs F v) (fP ⇑bs F bs) (∀cs,InB cs bs->Tel ⇑bs F cs (vdm k i o<|mkg k cs)) (g_<=300)<|g=[↑t,N8 .non,↑l,N8 v,N9,N9,N9,N9];(J,?_,?_,))
 .refine(t,dv,bs,k,L,g_,i,o,U,h.so<|So.of W,c2.same W,c1.same W,λhg H2 a2 a7 a6=>qE hg H2,λhg v F H2 a2 a7 a6 a9 hF hS _ hT=>?_,);let(zr,zv,er,ev,a9):=a9;refine((Sf.of W).trans<|Sf.but2 ((c2 zr er).same W) ((c1 zv ev).same W) a9,a7,a6,λz e=>Ek ((f3 z e).same W) ((c2 zr er).same W) ((c1 zv ev).same W) (λq=>bl.nt1 zr z er e q.symm) (λq=>bl.nt2 zv z ev e q.symm) a9,a2.lst Z,c3.mono a2.tups,v,F,hF,hS,hT,hg,U,)
 rintro g5 H2 ⟨a2,a7,a6,e7,O,b1,v,F_,hF,hS,hT,Gf,rfl⟩;let d1:=B9 (f:=λcs=>vdm k i o<|mkg k cs) hS hT;let Gg:∀c m,mE ⇑bs F_ c m->∃l,Ls[c]?=N8 l/\m∈l:=λc m hm=>d3 c m<|(d1 c m).mp hm
 refine(let J:RJ:=λg a=>aw H2 a/\E3 λ(S:Ki)(rs:Oo Ki)(mss:Oo (Oo Int))=>uf ⇑bs F_ a S rs mss/\g=[↑t,N8 .non,↑l,N8 v,↑S,N9,N9,N9];(J,?_,?_,))
 .refine(l,_,U,.inl<|RF O,⇑bs,F_,v,bs,Ls,b_,by rw[⇑b1],∅,∅,hF,hS,AK hS Gg c4,Gg,c4,oO,se,λS rs mss H3 N n3 g8 f7=>(N,S,rs,mss,f7,U,),)
 rintro g4 H3 ⟨N,S,rs,mss,⟨a5,hM,C,d0⟩,rfl⟩;let a4:∀(c:Nat)(u:Oo Int),mss[c]?=N8 u->u.Pairwise (· < ·)/\∀m,m∈u↔Chg bs (λcs=>vdm k i o<|mkg k cs) c m:=λc u e=>((d0 c u e).1,λm=>((d0 c u e).2 m).trans<|d1 c m,)
 let Jd:MsO bs (λcs=>vdm k i o<|mkg k cs) mss:=(C,a4,);let(qX,qQ):=q Gf mss Jd;let Je:∀u∈mss,⇑u<=60:=λu f4=>by
  let(c,ec):=jk f4;let jd:∀x∈u,x∈(Ls[c]?).getD []:=λx hx=>by
   let(l,e,hm):=d3 c x<|((a4 c u ec).2 x).mp hx;rw[e];exact hm
  calc vr (vY (a4 c u ec).1 jd) ?_;cases e:Ls[c]? with
  |none=>exact v3 _
  |some l=>exact vr (c4 l<|JR e) oO
 let ok:∀(j:Nat)(p:Int×Int)(u:Oo Int),bs[j]?=N8 p->mss[j]?=N8 u->u.Pairwise (· < ·)/\(∀m∈u,p.1<m/\m<=p.2):=λj p u Z O=>⟨(a4 j u O).1,λm hm=>by
  let(cs,p',h1,h2,h3,h4,_):=((a4 j u O).2 m).mp hm;rw[Z]at h3;cases h3;exact(h4,(h1.get j m p h2 Z).2,)⟩
 refine(let J:RJ:=λg a=>a=H3/\dJ mss ⇑mss<=600/\g=[↑t,N8 .non,↑l,N8 v,↑S,N9,N9,N9];(J,?_,?_,))
 .exact(S,rs,mss,U,a5,hM,Je,∅,λhg a _=>qX hg a,λhg=>(U,hg,U,),)
 rintro g3 H4 ⟨rfl,Gh,rfl⟩;let(wg,c8,A2,q):=qQ Gh;let Jf:MkO bs mss:=(C,λj p u Z O=>((ok j p u Z O).1,(ok j p u Z O).2,wg u<|JR O,),λj=>by rw[fb C];let:=c8 j;lia,∅,);refine(let J:RJ:=λg a=>aw H4 a/\∃cl:Ki,a cl=N8 (.lst<|xs.map ut)/\g=[↑t,N8 .non,↑l,N8 v,↑S,↑cl,N9,N9];(J,?_,?_,))
 .refine(U,Oa,by rw[Oh U],eU (l,U,(_,RF<|N _ _ O,),(let J:Ki->Nat->Oo V->RK:=λD j zs a=>aw H4 a/\a D=N8 (.lst zs)/\zs=(xs.take j).map ut;dO (xs:=ys) J (λD T=>(aj T _,ag,U,)) (λD j zs a T _ X=>RF<|X.1 _ _<|N _ _ O) (λD j y zs a T e X=>?_) (λD zs a T X=>?_)),),)
  .let(sm,eD,rfl):=X;let hj:=(JQ.mp e).1;let f0:=⇑b1;let ex:=JP (l:=xs) (i:=j) ∅;rw[f1 _ (JR ex)]at ex;refine df.mk hj eD (aC (by rw[aa,fI];lia)) (sm.upd T,ag,?_,);rw[take_snoc ex,fj];rfl
  .let(sm,eD,rfl):=X;let f0:=⇑b1;rw[ja ∅]at eD;exact(sm,D,eD,U,)
 rintro g2 H5 ⟨s5,cl,Jg,rfl⟩;let N:=N.trans s5;let a5:=s5 _ _ a5;let hM:=hM.same s5;let b6:Sf H H5:=a2.trans<|Sf.of N;refine(let J:RJ:=λg a=>∃d:Ki,A3 (H5 d=N9) (a=upd H5 d (cC P w d [])) (g=[↑t,N8 .non,↑l,N8 v,↑S,↑cl,↑d,N9]);(J,?_,?_,))
 .exact λd hd=>(d,hd,U,U,)
 rintro g1 H6 ⟨d,nd,rfl,rfl⟩;let s6:=aj nd<|cC P w d [];let e6:upd H5 d (cC P w d []) d=N8 (cC P w d []):=ag;generalize upd H5 d (cC P w d [])=H6 at s6 e6⊢;calc(l,S,ys,bs,rs,mss,U,s6 _ _<|N _ _ O,(b1.mono N.tups).mono s6.tups,s6 _ _ a5,hM.same s6,Jf,λD us H7 s7 nD eD hB=>?_,);let R:=s6.trans s7;let d4:=s7 _ _ e6;let e9:D≠d:=λz=>by rw[z,e6]at nD;cases nD
 let f2:=hB.1;let b0:∀{x:Ki}{G:HO},x≠d->H7 x=N8 G->hide H7 d x=N8 G:=λn e=>gz e n
 let e0:bG H7 (hide H7 d):=λx xs e=>b0 (λz=>by rw[z,d4]at e;cases e) e
 let e3:jf K H7:=(a7.same N).same R;let d5:jg K H7:=(a6.same N).same R;let e5:mF K H7:=λz e=>((e7 z e).same N).same R
 refine⟨D,U,(_,RF eD,),(let J:Nat->RJ:=λj g a=>Sf (hide H7 d) a/\jf K a/\jg K a/\mF K a/\E2 λ(I:Oo (NK×Ki×V))(c7:Option V)=>DcP P w K a d I (((dI bs mss).take j).map λB=>(B,plF mss xs (vdB k i o) B))/\g=[↑t,N8 .non,↑l,N8 v,↑S,↑cl,↑d,c7];bA (xs:=us) J (λx G p e=>by unfold hide at e;split at e;exact Og e (by intro z;cases z);exact e,e3,d5,e5,[],_,(d4,(λe he=>by cases he),.nil,),U,) (λj g a _ X=>RF<|X.1.lst<|b0 e9 eD) (λj y g H8 ey X=>?_) (λg H8 X=>?_))⟩
 .let(a1,c0,b3,a3,I,c7,T,rfl):=X;let(b,B,rfl,eB,hb):=aJ.get hB ey;let c5:B∈dI bs mss:=JR eB;let h0:B.length=⇑bs:=i0 C B c5;let hj:j<⇑(dI bs mss):=(JQ.mp eB).1;let g0:⇑(dI bs mss)<=600:=by
   let:=fb C ⇑bs;rw[fm,show mss.take ⇑bs=mss by rw[←C,fm]]at this;rw[this];exact c8 _
  let b5:bG H7 H8:=e0.trans a1.tups;let up:∀{x:Ki}{G:HO},noT G->H5 x=N8 G->H8 x=N8 G:=λ{x G} p e=>a1 x G p<|b0 (λz=>by rw[z,nd]at e;cases e) (R _ _ e)
  let f6:=xx ⇑bs U C h.le ok c5;refine(d,b,S,cl,v,I,_,B,rs,mss,xs,⇑bs,F_,vdB k i o B,plF mss xs<|vdB k i o,U,T,BxA.mono hb b5,∅,up trivial a5,(hM.1,λc u e=>?_,),∅,wg,up trivial Jg,∅,(λc lo hi m u hc em hm h1 h2=>?_),((hF.mono N.tups).mono R.tups).mono b5,hT _ f6,a3,λr H9 a0 e4 a8 c6=>?_,)
  .let(r,Z,O):=hM.2 c u e;exact(r,Z,up trivial O,)
  .let(x1,x2):=xu ⇑bs U C ok c5 hc em hm h1 h2;exact(br.mpr (_,x1 j eB,U,),br.mpr (_,x2 j eB,U,),vr (mZ _ _) A2,)
  .let(z,ez,a8):=a8;let a0:Sf H8 H9:=Sf.but1 (a3 z ez) a8;let M:=T.keep (a0 d _ trivial T.at_) a0.tups;let f5:=Paired.length M.vals;rw[aa,fI]at f5;let e8:=jG ⇑bs U C ok;let d2:=BxA.mono hb<|b5.trans a0.tups;let tb:∀{P_:Ki}{L_:Oo (Pos×Str)},P_≠z.2->bP H8 P_ L_->bP (upd H9 d<|cC P w d<|I++[(bkK B,b,.ref r)]) P_ L_:=λn_ h_=>by
    let(pz,f8,_):=a3 z ez;exact kK (tab_keep h_ n_ f8 a8) M.at_
   calc(d,b,I,bkK B,U,U,M.at_,M.keys,um d2,aC ∅,B8 M e8 eB,?_,);refine(λx G p e=>?_,λz' e'=>tb (λq_=>bl.nt1 z' z e' ez q_)<|c0 z' e',λz' e'=>tb (λq_=>bl.nt2 z' z e' ez q_)<|b3 z' e',λz' e'=>kK (e4 z' e') M.at_,I++[(bkK B,b,.ref r)],↑b,?_,U,)
   .let nx:x≠d:=λq_=>by rw[q_]at e;unfold hide at e;rw[Of U]at e;cases e
    rw[av nx];exact a0 x G p<|a1 x G p e
   .rw[take_snoc eB,fj];rw[←Ej (mss:=mss) (xs:=xs) (vd:=vdB k i o) (B:=B) ∅]at c6;exact M.snoc d2 c6
 .let(a1,c0,b3,a3,I,c7,T,rfl):=X;rw[f2,fm]at T;refine(q d I H8 (λx G p e=>a1 x G p<|b0 (λz=>?_)<|R _ _<|b6 x G p e) c0 b3 a3 (λG p e=>by have:=b6 d G p e;rw[nd]at this;cases this) T);let:=b6 x G p e;rw[z,nd]at this;cases this
def Jh(F:oq K "ledger" "ledger" Y55 f fd)(bl:Bl K mg Y)(lS:b9 P w K mg base 19 "planned" ["table","prices"] (gH K Y P w mg base)):aH P w K mg base (CX1 P w) 20 f fd ["table","prices"] (jc K Y P w mg base):=by
 refine F.okEA Z55 λd3 A c6 s H vs Q E hr h=>?_
 let(t,bs,a0,i,o,xs,rfl,hP):=h;refine(_,(ak<|ay<|cj (vS U hr) U bl.dict_ PyProof.Rows.boot_dict<|ae (d6 (yw<|nR lS passE hr U<|ae (pv 0)<|ae (pv 1) ai) (dE (N:=["block","plan"]) (k:=2) U U (~~~0) (~~~0)<|~~~0) U (λ_ _ _ _=>(jv (K:=K) (n:=2) U U<|aF (az (i:=0) (show(["block","plan"]:Oo Str).Nodup by decide+kernel) U (cr U) (v6 U)) (aF (az (i:=1) (show(["block","plan"]:Oo Str).Nodup by decide+kernel) U (cr U) (v6 U)) bM))) (λ_ _ _ _=>b8) (λ_ _ _ _=>(bo<|ae (pv 0)<|ae (aP (mO (K:=K) U) (pv 1) aq<|λ_ _=>U) ai))) ai),?_,);let(dv,L,g_,Ls,b_,c2,b4,b1,EA,b0,a9,c3,c4,oO,se,qE,q):=hP;calc(t,dv,bs,a0,L,g_,i,o,xs,Ls,b_,U,c2,b4,b1,EA,b0,a9,c3,c4,oO,se,qE,λhg c G=>((q hg c G).1,λh6=>?_,),);let(wg,a3,A2,q):=(q hg c G).2 h6;calc(wg,a3,A2,λd kvs H1 a7 a8 a6 pt1 nd v=>?_,);let R:=G.1;let(M,hM):∃M,M=(dI bs c).map λB=>(B,plF c xs (vdB a0 i o) B):=(_,U,)
 rw[←hM]at v;let a4:⇑kvs=M.length:=Paired.length v.vals;let c7:⇑kvs<=600:=by
  let:=fb R ⇑bs;rw[fm,show c.take ⇑bs=c by rw[←R,fm]]at this;rw[a4,hM,aa,this];exact a3 _
 calc(d,kvs,U,v.at_,λo_=>?_,);let(C,b):∃C,C=upd H1 d (.frz o_<|cC P w d kvs):=(_,U,);show fA _ _ _ _ _ _ _ _ (upd H1 d<|.frz o_<|cC P w d kvs);rw[←b];let ef:C d=N8 (.frz o_<|cC P w d kvs):=by rw[b];exact ag
 let Z:bG H1 C:=λx xs e=>by rw[b,av (λz=>by rw[z,v.at_]at e;cases e)];exact e
 let d0:Sf H C:=λx o' p e=>by rw[b,av (λz=>nd o' p (by rw[←z];exact e))];exact a7 x o' p e
 let d1:jf K C:=λz e=>by rw[b];exact kK (a8 z e) v.at_
 let c8:jg K C:=λz e=>by rw[b];exact kK (a6 z e) v.at_
 let d2:mF K C:=λz e=>by rw[b];exact kK (pt1 z e) v.at_
 clear b;refine(let I_:Ki->Nat->Oo V->RK:=λD j I y=>aw C y/\y D=N8 (.lst I)/\I.length=j/\∀(e:Nat)(p:NK×Ki×V),e<j->(cst kvs M)[e]?=N8 p->∃r:Ki,I[e]?=↑r/\y r=N8 (.tup [.ref p.2.1,p.2.2]);rM (kvs:=kvs) I_ (λD g=>(aj g _,ag,U,λe p he=>Og he<|zE _,)) (λD j I y g _ X=>X.1 _ _ ef) (λD j kv I y T g S X hT ss b3=>?_) (λD I y g X=>?_))
 .let(sm,eD,O,hy):=X;let hj:j<⇑kvs:=(JQ.mp S).1;let em:=JP (l:=M) (i:=j) ∅;generalize M[j]=m at em;let(m',a5,e1,a,ea,t0,c5,_):=fZ v.vals S;rw[em]at a5;cases a5;let(k_,J,v_):=kv;cases ea;let(t1,t2,rfl):∃t1 t2,ss=[t1,t2]:=by
   match ss,b3 with
   | [t1,t2],_=>exact(t1,t2,U,)
  let u1:=aj hT<|.tup [.ref J,.ref a];let eT:upd y T (.tup [.ref J,.ref a]) T=N8 (.tup [.ref J,.ref a]):=ag;show C9 _ _ _ _ _ (upd y T<|.tup [.ref J,.ref a]) _;generalize upd y T (.tup [.ref J,.ref a])=H2 at u1 eT⊢;let s2:=sm.trans u1;calc(T,_,U,RG eT,U,_,_,U,_,_,U,U,([↑J,↑a],U,U,),?_,);calc(a,_,_,_,U,U,RG<|s2 _ _<|Z _ _ c5,U,dh,λr b5=>?_,);let u3:=aj b5<|.tup [.ref J,.int m.2.1];let e3:=u3 _ _<|u1 _ _ eD;refine df.mk hj e3 (aC ∅) ((s2.trans u3).upd g,ag,by rw[cn,O];rfl,λe p he W=>?_,);let st:bG y (upd (upd H2 r<|.tup [.ref J,.int m.2.1]) D<|.lst<|I++[.ref r]):=(u1.trans u3).tups.trans<|aR e3;by_cases z:e<j
  .let(r',a1,a2):=hy e p z W;exact(r',by rw[fS ∅];exact a1,st _ _ a2,)
  .let ze:e=j:=∅
   subst ze;rw[Em S em]at W;cases W;exact(r,by rw[←O];simp,aR e3 _ _ ag,)
 .let(sm,eD,O,hy):=X;let c0:⇑(cst kvs M)=⇑kvs:=by unfold cst;rw[lO];lia
  let b6:=AL v.vals;let c1:(cst kvs M).map (·.1)=(dI bs c).map bkK:=by
   rw[yL b6,hM,n7,n7];rfl
  refine(D,I,cst kvs M,U,eD,∅,λe p W=>hy e p (by have:=(JQ.mp W).1;lia) W,λe he=>?_,?_,λp hp=>?_,)
  .let(j,ej):=jk he;let(e',m',h1,h2,rfl):=En ej;exact mW (Z.trans sm.tups)<|v.keys e'<|JR h1
  .rw[c1];exact keys_nodup<|jG ⇑bs U R G.ok
  .let u:=aj hp<|cC P w p<|cst kvs M;let s3:=sm.trans u;calc q p (cst kvs M) _ ag (by rw[c0,a4,hM,aa])
def Ji(F:oq K "best" "best" Y31 f fd)(bl:Bl K mg Y)(lS:b9 P w K mg base 19 "planned" ["table","prices"] (gH K Y P w mg base))(cM:⟨⟩ 19 "table_bounds" ["table"] (cz K Y)):aH P w K mg base (CX1 P w) 20 f fd ["table","prices"] (m5 K Y):=by
 refine F.okEA Z31 λa3 A O s H vs Q E r h=>?_
 let(t,bs,e,i,o,R,rfl,hP):=h;calc(_,(ak<|ay<|aP (ow r) (nR lS passE r U<|ae (pv 0)<|ae (pv 1) ai) (cj jt U bl.tuple_ OQ<|ae (aL cM r U<|ae (pv 0) ai) ai)<|λ_ _=>U),?_,);let(T,L,g_,Ls,b_,k,G,D,EA,C,z,M,N,Z,W,X,q):=hP;calc(t,T,bs,e,L,g_,i,o,R,Ls,b_,U,k,G,D,EA,C,z,M,N,Z,W,X,λS g j=>((q S g j).1,λh6=>?_,),);let(V,I,A2,q):=(q S g j).2 h6;calc(V,I,A2,λd y H1 x a1 a0 pt1 nd v=>?_,);let a2:=k.b4;let h1:=k.so x.so;calc(t,T,bs,e,U,h1.td,∅,λl m H2 s2 n2 e2 J=>(l,m,U,.inl (RF e2,λb hb=>?_,),),);let u:=aj hb<|.tup m;let n:=s2.trans u;let(c,a,hm,hp):=v.get (B:=bs) (p:=plF g R (vdB e i o) bs)<|br.mpr (bs,qR _ U j.1,U,);calc(d,b,c,y,bkK bs,.ref a,U,U,.inl<|n _ _ v.at_,kH n.tups v.keys,um (m,ag,J.mono u.tups,),hm,q a _ _<|hp.mono n.tups,)
def Jj(F:Fun K "_law_refused" "_law_refused" Y51 f fd)(bl:Bl K mg Y)(x:cw P w K mg base 20 "best" ["table","prices"] (m5 K Y))(D:cw P w K mg base 20 "ledger" ["table","prices"] (jc K Y P w mg base)):() 21 f fd ["table","whole"] (fi K Y):=by
 refine F.okA Z51 λJ A m s H L Q E r h=>?_
 let(t,p,bs,d,i,o,n,rfl,u,q):=h
 refine(_,(au (aK (i:=2) Z51.nd U (cr U) m7)
  (aN (DF (G:=λC=>kl K C) (i:=3) (DP (jz<|pv 1) (sN<|xa x r U U<|ae (pv 0) ai)<|sN<|xa D r U U<|ae (pv 0) ai) U U U U bl.TableError_ Z51.nd U U<|λC e M k j=>(ak<|aK (i:=2) Z51.nd U (cr U)<|gX (aG (lj j k) U bl.isinstance_ lw<|ae (pv 3)<|ae (c9 (v:=.ref Y.b) U bl.TooFine_ U) ai)<|gX (aG (lj j k) U bl.isinstance_ lw<|ae (pv 3)<|ae (mK (v:=.ty "ValueError") U bl.ValueError_ PyProof.Rows.Boot.ValueError U) ai)<|kT<|za<|aG (lj j k) U bl.isinstance_ lw<|ae (pv 3)<|ae (c9 (v:=.ref Y.c) U bl.TooMany_ U) ai))
  (ak<|ay<|pv 2))),?_,)
 dsimp only[bw,RI,RH];show(let y:TS:=_;let B:TS:=dj _ y;aS _ B _ _ _);intro _ _;refine(let I:RJ:=λa g=>a=[↑t,N8<|.bl p,N8<|.bl Oa,N9];(I,?_,λa g e=>?_,))
 .refine(_,U,?_,);cases p with
  |true =>
   calc eU (t,bs,d,i,o,n,U,(u _ λg=>(_,U,bl.e_TooFine,bl.l_TooFine,λe=>?_,)).imp λl z=>z.elim,);exact(_,Oa,U,.inl (_,U,bl.g_TooFine_TooFine,),_,U,eU (_,Oa,U,.inr<|.inl (_,U,bl.v_TooFine,),_,U,eU (_,Ob,U,.inl (_,U,bl.g_TooFine_TooMany,),_,U,U,),),)
  |false =>
   calc dY (t,bs,d,i,o,n,U,(u _ λg=>(_,U,bl.e_TooFine,bl.l_TooFine,λe=>?_,)).imp λl z=>z.elim,);exact(_,Oa,U,.inl (_,U,bl.g_TooFine_TooFine,),_,U,eU (_,Oa,U,.inr<|.inl (_,U,bl.v_TooFine,),_,U,eU (_,Ob,U,.inl (_,U,bl.g_TooFine_TooMany,),_,U,U,),),)
 .subst e;calc(q g)
def Jk(F:Fun K "law" "law" Y46 f fd)(bl:Bl K mg Y)(sk:⟨⟩ 21 "_law_sizes" ["script"] (gG K Y))(o8:⟨⟩ 21 "_law_patched" ["script","sizes"] (fg K Y))(uE:⟨⟩ 21 "_law_size" ["script"] (iD K Y))(uF:⟨⟩ 21 "_law_long" ["script","size"] (iE K Y))(o9:⟨⟩ 21 "_law_refused" ["table","whole"] (fi K Y))(wm:cw P w K mg base 21 "best" ["table","prices"] (m5 K Y))(o7:cw P w K mg base 21 "ledger" ["table","prices"] (jc K Y P w mg base))(bQ:⟨⟩ 21 "_law_at" ["script","k"] (dU K Y)):() 22 f fd ["script"] (J18 K):=by
 refine F.ok Z46 (λvs H Q E h=>?_)<|λc8 A c0 s H vs Q E O h=>?_
 .let(a,W,rfl,X,b6,hB,a3,a2,a6,q):=h;rfl
 let(a,W,rfl,X,b6,hB,a3,a2,a6,q):=h
 refine(_,(aN (aK (i:=1) Z46.nd U (cr U)<|kg eS (aD bJ (aD bJ (aD dq (aD bJ (aL bQ O U<|ae (pv 0)<|ae aq ai) aq) aq) aq) aq) aq<|bg _)
  (aN (aK (i:=2) Z46.nd U (cr U)<|aL sk O U<|ae (pv 0) ai)
  (au (aK (i:=3) Z46.nd U (cr U) aq)
  (aN (bz sB U (aQ<|pv 2) (az (i:=4) Z46.nd U<|cr U)
  (ak<|aK (i:=3) Z46.nd U (cr U)<|aD dq (pv 3)<|aD mL (aD dq (pv 4)<|aD bN (pv 4) aq) aq))
  (aN (aK (i:=5) Z46.nd U (cr U)<|aL o8 O U<|ae (pv 0)<|ae (pv 2) ai)
  (aN (bx (aX eS (aD bJ (aD bJ (aD dq (aD bJ (aL bQ O U<|ae (pv 0)<|ae aq ai) aq) aq) aq) aq) aq<|bg _)
  (aN (aK (i:=4) Z46.nd U (cr U)<|aL uE O U<|ae (pv 0) ai)
  (au (aK (i:=3) Z46.nd U (cr U)<|aD bN aq<|aD dq aq<|cj xM U bl.int_ P3<|ae (kg ni (pv 4) aq<|bg _) ai)
  (ak<|aK (i:=5) Z46.nd U (cr U)<|aL uF O U<|ae (pv 0)<|ae (pv 4) ai)))
  aM)
  (au (bx (aX ni (pv 3) aq<|bg _)
  (ak<|ay<|aL o9 O U<|ae (pv 5)<|ae (pv 1) ai)
  aM)
  (au (bx (jz<|pv 1)
  (au (aK (i:=6) Z46.nd U (cr U)<|w6 wm CC O U<|ae (pv 5) ai)
  (ak<|ay<|gX (aG iT U bl.isinstance_ lw<|ae (pv 6)<|ae (mK (v:=.ty "tuple") U bl.tuple_ OQ U) ai)<|kT<|kg eS (aG aI U bl.len_ N7<|ae (pv 6) ai) aq<|bg _))
  aM)
  (ak<|ay<|kg eS (aG yv U bl.len_ N7<|ae (w6 o7 CC O U<|ae (pv 5) ai) ai) (pv 3)<|bg _))))))))),?_,)
 dsimp only[bw,RI,RH];show(let r8:TS:=_;let r7:TS:=aS _ r8;let r6:TS:=aS _ r7;let r5:TS:=dj _ r6;let r4:TS:=dj _ r5;let r3:TS:=dj _ r4;let r2:TS:=aS _ r3;let r1:TS:=dj _ r2;dj _ r1 _ _ _);intro _ _ _ _ _ _ _ _;refine(let D:RJ:=λc j=>j=H/\∃J:Bool,c=[↑a,N8<|.bl J,N9,N9,N9,N9,N9];(D,(a,W,7,U,X,⋯,_,_,U,U,(by show(0:Int)<10037;decide),_,_,U,U,.inr (⋯,⋯,),_,_,U,U,(by show(0:Int)<10037;decide),_,_,U,U,(by show(0:Int)<2;decide),U,U,_,U,),?_,));rintro c5 H1 ⟨z1,J,rfl⟩;subst z1;calc(let D:RJ:=λc j=>aw H1 j/\E2 λ(l:Ki)(k:Oo Nat)=>A3 (j l=N8 (.lst<|vN k)) (SzO (wyK W) k)<|c=[↑a,N8<|.bl J,↑l,N9,N9,N9,N9];(D,(a,W,U,X,λl k j M e h=>(M,l,k,e,h,U,),),?_,));rintro c3 H2 ⟨s2,l,k,el,a0,rfl⟩;let(b4,b3,a1,_):=CY a0;let b1:⇑(vN k)=⇑k:=by unfold vN;rw[aa]
 refine(let D:RJ:=λc j=>j=H2/\∃L:Option V,c=[↑a,N8<|.bl J,↑l,N8<|.int (iB k:Nat),L,N9,N9];(D,?_,?_,))
 .refine(l,U,(_,RF el,),bA (xs:=vN k) (λi c j=>j=H2/\∃L:Option V,c=[↑a,N8<|.bl J,↑l,N8<|.int (iB (k.take i):Nat),L,N9,N9]) (U,_,U,) (λi c j _ h=>by rw[h.1];exact RF el) (λi y c j ey h=>?_) (λc j h=>?_),)
  .let(e1,L,rfl):=h;rw[e1];let(N,a8,rfl):∃N,k[i]?=N8 N/\ut ((N:Nat):Int)=y:=by unfold vN at ey;rw[dr]at ey;exact JB.mp ey
   let c7:=a1 N<|JR a8;let b5:iB (k.take<|i+1)=iB (k.take i)*(N*(N+1) / 2):=AS a8;refine(_,_,U,U,_,_,U,U,.inl (∅,∅,),_,_,U,U,(⋯,⋯,),_,_,U,U,.inr ?_,U,N8<|.int (N:Int),?_,)
   .rw[xH];let:N*(N+1)<=50*51:=A8 ∅ ∅;exact(∅,∅,)
   .rw[b5,xH,JX];rfl
  .rw[b1,fm]at h;exact h
 rintro c2 H3 ⟨z3,L,rfl⟩;subst z3;calc(let D:RJ:=λc j=>aw H3 j/\E7 λ(t:Ki)(lq:Oo (Int×Nat))(wd m:Int)(ou:Ki)(zs:Oo Str)(dv:Oo V)=>A6 (lq.map (·.2)=k) (1<=wd) (vV (λ_=>True) Y.n j t [(lq.map<|cy wd,m)] s!"t" s!"only" ou zs dv) (aJ dv (lq.map<|cH wd)<|Dom Y.l Y.m j) (Dom Y.l Y.m j ou (0,9))<|c=[↑a,N8<|.bl J,↑l,N8<|.int (iB k:Nat),L,↑t,N9];(D,(a,l,W,k,U,s2.seq X,hB,el,b4,b3,a1,λt lq wd m ou zs dv j M k1 k2 _ _ k3 k4 k5=>(M,t,lq,wd,m,ou,zs,dv,k1,k2,k3,k4,k5,U,),),?_,));rintro c1 H4 ⟨s4,t,lq,wd,m,ou,zs,dv,a7,hw,hT,T,S,rfl⟩;let x:=s2.trans s4;let I:∀{j:Hp},aw H4 j->jf K j/\jg K j/\mF K j:=λM=>(λz e=>(bP.new<|a3 z e).same<|x.trans M,λz e=>(bP.new<|a2 z e).same<|x.trans M,λz e=>(bP.new<|a6 z e).same<|x.trans M,)
 refine(let D:RJ:=λc j=>E8 λ(t:Ki)(Z:Nat)(L:Option V)(bs:Prs)(G:Oo Rw)(i:Nat)(o:Int×Int)(xs:Oo Int)=>(∀(E:XK)(R:Oo (Oo Int)->Prop),(600<Z->∀H1,E (.ref Y.b) N9 H1)->(Z<=600->∀B,⇑(dI bs B)=Z->R B)->PlE Y.n Y.l Y.m Y.b K j t bs G i o xs E R)/\c=[↑a,N8<|.bl J,↑l,N8<|.int (Z:Int),L,↑t,N9];(D,?_,?_,))
 .refine(a,W,0,U,x.seq X,⋯,_,_,U,U,(by show(0:Int)<10007;decide),_,_,U,U,.inr (⋯,⋯,),_,_,U,U,(by show(0:Int)<10007;decide),_,_,U,U,(by show(0:Int)<8;decide),U,_,U,eN (λ_=>?_)<|λ_=>?_,)
  .refine(let D:RJ:=λc j=>aw H4 j/\∃C:Nat,A3 (300<=C) (C<=391) (c=[↑a,N8<|.bl J,↑l,N8<|.int (iB k:Nat),N8<|.int (C:Int),↑t,N9]);(D,(a,W,U,x.seq X,λC j M k1 k2=>(M,C,k1,k2,U,),),?_,));rintro a9 H5 ⟨s5,C,a5,a4,rfl⟩;calc(_,_,U,U,.inr (_,U,_,_,U,U,.inl (⋯,⋯,),_,_,U,U,a,W,C,U,(x.trans s5).seq X,hB,a5,a4,λt c6 ou zs dv j s6 hT T S=>?_,),);let(rt,vt,pt):=I<|s5.trans s6;refine(t,if 300<C then 601 else 1,N8<|.int (C:Int),_,_,_,_,_,λE R hE hR=>AR a5 a4 hT T S rt vt pt (λh=>hE (by rw[Of h];decide)) (λh B hm=>hR (by rw[Oe ∅];decide) B (by rw[hm,Oe ∅])),?_,);by_cases h:300<C
   .rw[Of h,Of (Oh (show(300:Int)<(C:Int) by lia))];rfl
   .rw[Oe h,Oe (λz=>by have:=Oj z;lia)];rfl
  .let(rt,vt,pt):=I<|aw.refl _;exact(t,iB k,L,_,_,_,_,_,λE R hE hR=>Cc a0 a7 hw hT T S rt vt pt hE hR,U,)
 clear hT T S a7 hw I el a0 a1;rintro a9 H5 ⟨t,Z,L,bs,G,i,o,xs,hP,rfl⟩;refine(_,_,U,U,_,U,eN (λg=>?_)<|λg=>?_,)
 .let g:((Z:Nat):Int)>600:=l0 g;exact(t,J,bs,G,i,o,xs,U,λE hE=>hP E _ (λ_=>hE) λh=>∅,q,)
 let g:¬ ((Z:Nat):Int)>600:=l7 g;calc(_,U,?_,);cases J with
 |true =>
  calc eU (t,bs,G,i,o,xs,U,hP _ _ (λh=>∅)<|λ_ B hm r p j hp=>?_,);let(u,eu,_):=hp;refine(_,_,_,_,Oa,U,.ty _,.inr (r,_,U,RG eu,U,),(by first|rfl|with_unfolding_all rfl|decide+kernel),_,U,eU (r,_,U,.inr<|RG eu,U,?_,),);exact q _
 |false =>
  calc dY (t,bs,G,i,o,xs,U,hP _ _ (λh=>∅)<|λ_ B hm d b0 j hd hk=>?_,);calc(d,b0,U,.inl hd,U,?_,);rw[Oh (show ut _=ut _ by rw[hk,hm])];calc q _
end
structure FF(K:bd)(Y:AD):Prop where
 (h0:GF K "holds" "holds" Y42)
 (h1:GF K "edges" "edges" Y38)
 (h2:GF K "stretches" "stretches" Y71)
 (h3:GF K "grain" "grain" Y41)
 (h4:GF K "cut_columns" "cut_columns" Y37)
 (h5:GF K "built" "built" Y33)
 (h6:GF K "layered" "layered" Y54)
 (h7:GF K "closed" "closed" Y34)
 (h8:GF K "look" "look" Y56)
 (h9:GF K "beneath_code" "beneath_code" Y30)
 (h10:GF K "mapped" "mapped" Y57)
 (h11:GF K "marks_of" "marks_of" Y58)
 (h12:GF K "gathered" "gathered" Y40)
 (h13:GF K "corner" "corner" Y36)
 (h14:GF K "all_among" "all_among" Y29)
 (h15:GF K "is_word" "is_word" Y44)
 (h16:GF K "is_whole" "is_whole" Y43)
 (h17:GF K "way_by" "way_by" Y75)
 (h18:GF K "refuse_names" "refuse_names" Y67)
 (h19:GF K "refuse_counts" "refuse_counts" Y66)
 (h20:GF K "refuse_way" "refuse_way" Y69)
 (h21:GF K "refuse_row" "refuse_row" Y68)
 (h22:GF K "own_row" "own_row" Y60)
 (h23:GF K "fits" "fits" Y39)
 (h24:GF K "mask" "mask" Y59)
 (h25:GF K "judged" "judged" Y45)
 (h26:GF K "table_bounds" "table_bounds" Y72)
 (h27:GF K "table_marks" "table_marks" Y73)
 (h28:GF K "column_marks" "column_marks" Y35)
 (h31:GF K "with_pair" "with_pair" Y77)
 (h34:GF K "planned" "planned" Y64)
 (h35:GF K "refuse_blocks" "refuse_blocks" Y65)
 (h36:GF K "blocks_of" "blocks_of" Y32)
 (h37:GF K "pairs_of" "pairs_of" Y61)
 (h38:GF K "with_column" "with_column" Y76)
 (h40:GF K "plan_with" "plan_with" Y63)
 (h41:GF K "_law_at" "_law_at" Y47)
 (h42:GF K "_law_low" "_law_low" Y49)
 (h43:GF K "_law_sizes" "_law_sizes" Y53)
 (h44:GF K "_law_patched" "_law_patched" Y50)
 (h45:GF K "_law_size" "_law_size" Y52)
 (h46:GF K "_law_long" "_law_long" Y48)
 (h47:GF K "_law_refused" "_law_refused" Y51)
 (h77:GF K "law" "law" Y46)
 (m63:MF K Y.l "has_code" "Domain.has_code" Y1)
 (m64:MF K Y.m "has_code" "Domain.has_code" Y2)
 (m65:MF K Y.e "verdict" "Way.verdict" Y23)
 (m66:MF K Y.e "chosen" "First.chosen" Y4)
 (m67:MF K Y.f "verdict" "Way.verdict" Y27)
 (m68:MF K Y.f "chosen" "Only.chosen" Y13)
 (m69:MF K Y.g "verdict" "Way.verdict" Y25)
 (m70:MF K Y.g "chosen" "Like.chosen" Y8)
 (m71:MF K Y.h "verdict" "Way.verdict" Y26)
 (m72:MF K Y.h "chosen" "Low.chosen" Y10)
 (m73:MF K Y.i "verdict" "Way.verdict" Y24)
 (m74:MF K Y.i "chosen" "High.chosen" Y6)
 (m75:MF K Y.j "verdict" "Way.verdict" Y28)
 (m76:MF K Y.j "chosen" "Sum.chosen" Y15)
 (k48:KF K Y.n "Table" "Table.__init__" Y16)
 (k49:KF K Y.l "Numbers" "Numbers.__init__" Y11)
 (k51:KF K Y.e "First" "First.__init__" Y3)
 (k53:KF K Y.f "Only" "Only.__init__" Y12)
 (k55:KF K Y.g "Like" "Like.__init__" Y7)
 (k57:KF K Y.h "Low" "Low.__init__" Y9)
 (k59:KF K Y.i "High" "High.__init__" Y5)
 (k61:KF K Y.j "Sum" "Sum.__init__" Y14)
 (b50:BF K Y.k "Domain" "__init__" "Domain.__init__" Y0)
 (b52:BF K Y.d "Way" "__init__" "Way.__init__" Y17)
 (b54:BF K Y.d "Way" "__init__" "Way.__init__" Y21)
 (b56:BF K Y.d "Way" "__init__" "Way.__init__" Y19)
 (b58:BF K Y.d "Way" "__init__" "Way.__init__" Y20)
 (b60:BF K Y.d "Way" "__init__" "Way.__init__" Y18)
 (b62:BF K Y.d "Way" "__init__" "Way.__init__" Y22)
 (t29:TFn K "row_form" s_row_form)
 (t30:TFn K "verdict_form" s_verdict_form)
 (t39:TFn K "plan_of" s_plan_of)
 (v32:GV K "ledger" "ledger" Y55)
 (v33:GV K "best" "best" Y31)
 (z0:li K Ko "sorted" = N8 N9)
 (z1:li K Ko "list" = N8 N9)
 (z2:li K Ko "set" = N8 N9)
 (z3:li K Ko "zip" = N8 N9)
 (z4:li K Ko "len" = N8 N9)
 (z5:li K Ko "tuple" = N8 N9)
 (z6:li K Ko "range" = N8 N9)
 (z7:li K Ko "isinstance" = N8 N9)
 (z8:li K Ko "int" = N8 N9)
 (z9:li K Ko "bool" = N8 N9)
 (z10:li K Ko "sum" = N8 N9)
 (z11:li K Ko "enumerate" = N8 N9)
 (z12:li K Ko "dict" = N8 N9)
 (z13:li K Ko "min" = N8 N9)
 (z14:li K Ko "max" = N8 N9)
 (z15:li K Ko "ValueError" = N8 N9)
 (y0:∃u,li K Ko "MOST_GRAIN" = N8 (N8 u)/\RelV (ut 300) u)
 (y1:∃u,li K Ko "MOST_SIGNS" = N8 (N8 u)/\RelV (ut 12) u)
 (y2:∃u,li K Ko "SMALL_LETTERS" = N8 (N8 u)/\RelV (v0 "abcdefghijklmnopqrstuvwxyz") u)
 (y3:∃u,li K Ko "MOST_ROWS" = N8 (N8 u)/\RelV (ut 200) u)
 (y4:∃u,li K Ko "MOST_COLUMNS" = N8 (N8 u)/\RelV (ut 4) u)
 (y5:∃u,li K Ko "MOST_BLOCKS" = N8 (N8 u)/\RelV (ut 600) u)
 (y6:∃u,li K Ko "SAY" = N8 (N8 u)/\RelV (v0 "say") u)
 (y7:∃u,li K Ko "ASK" = N8 (N8 u)/\RelV (v0 "ask") u)
local macro_rules|`(tactic|trivial)=>`(tactic|exact λF=>F.binds λ_ _ _ _ _ _=>by first|exact _L.lb0 rfl|exact _L.lb1 λ_=>U|exact _L.lb2 λ_ _=>U|exact _L.lb3 λ_ _ _=>U|exact _L.lb4 λ_ _ _ _=>U|exact _L.lb5 λ_ _ _ _ _=>U|exact _L.lb6 λ_ _ _ _ _ _=>U|exact _L.lb7 λ_ _ _ _ _ _ _=>U|exact _L.lb8 λ_ _ _ _ _ _ _ _=>U|exact _L.lb9 λ_ _ _ _ _ _ _ _ _=>U)
def all_mk{l:W.OpenLaw}{w:Ke}{K:bd}{h:Kj}{mg:Str->Option Kd}{N:Ki}{Y:AD}(X:K.In h)(G:h.Ns Ko mg)(A:mg "law" = ↑N) (b:Bk K Y)(u:FF K Y)
  : ∃j:LA,(∀(s:Ks)(v:Kd),LB s j ([v],[],) [("script",v)])/\∀base:Kj,K.In base->base.Ns Ko mg->(∀q∈(lc K "row_form").toList++(lc K "verdict_form").toList++(lc K "plan_of").toList,ON base q.1 q.2/\base.BuiltinsAt mg q.2)->aH l.prog w K mg base CX0 22 N j ["script"] (J18 K):=by
 cases u.h77 with | @mk _ j a F =>
 cases A.symm.trans (wn X G a);let bl:Bl K mg Y:=(b,wn X G b.n_TableError,wn X G b.n_TooFine,wn X G b.n_TooMany,wn X G b.n_Way,wn X G b.n_First,wn X G b.n_Only,wn X G b.n_Like,wn X G b.n_Low,wn X G b.n_High,wn X G b.n_Sum,wn X G b.n_Domain,wn X G b.n_Numbers,wn X G b.n_Words,wn X G b.n_Table,wn X G b.n_NONE,wn X G b.n_CLASH,re X G u.z0,re X G u.z1,re X G u.z2,re X G u.z3,re X G u.z4,re X G u.z5,re X G u.z6,re X G u.z7,re X G u.z8,re X G u.z9,re X G u.z10,re X G u.z11,re X G u.z12,re X G u.z13,re X G u.z14,re X G u.z15,(let ⟨_,y,x⟩:=u.y0;(_,wn X G y,x,)),(let ⟨_,y,x⟩:=u.y1;(_,wn X G y,x,)),(let ⟨_,y,x⟩:=u.y2;(_,wn X G y,x,)),(let ⟨_,y,x⟩:=u.y3;(_,wn X G y,x,)),(let ⟨_,y,x⟩:=u.y4;(_,wn X G y,x,)),(let ⟨_,y,x⟩:=u.y5;(_,wn X G y,x,)),(let ⟨_,y,x⟩:=u.y6;(_,wn X G y,x,)),(let ⟨_,y,x⟩:=u.y7;(_,wn X G y,x,)),);refine(j,λs v=>by let(_,_,_,_,_,_,_,_,_,e,_,_):=F.ex;rw[e];exact .of_eq U,λbase _ _ r=>?_,);let z:Zb l.prog w K mg base:=(X,G,);let Cj:=mkC z u.h0 λF=>Hm F bl
 let Ck:=mkC z u.h1 λF=>Hn F bl
 let L:=mkC z u.h2 λF=>Ho F bl
 let D:=mkC z u.h7 λF=>Hr F bl
 let pd:=mkC z u.h9 λF=>Hs F bl
 let J:=mkC z u.h12 λF=>Ht F bl
 let A7:=mkC z u.h13 λF=>Hu F bl
 let uH:=mkC z u.h14 λF=>Hv F bl
 let I:=mkC z u.h16 λF=>Hw F bl
 let mI:=mkC z u.h19 λF=>Hx F bl
 let V:=mkC z u.h22 λF=>Hy F bl
 let t:=mkC z u.h26 λF=>Hz F bl
 let uI:=mkC z u.h31 λF=>HA F bl
 let mJ:=mkX z u.h35 λF=>HB F bl
 let wo:=mkC z u.h37 λF=>HC F bl
 let pX:=mkC z u.h38 λF=>HD F bl
 let i:=mkC z u.h41 λF=>HE F bl
 let H:=mkC z u.h42 λF=>HF F bl
 let ft:=mkB z u.b50 λF=>O_0 F bl
 let iK:=mkB z u.b52 λF=>HG F bl
 let jn:=mkB z u.b54 λF=>HH F bl
 let jo:=mkB z u.b56 λF=>HI F bl
 let jW:=mkB z u.b58 λF=>HJ F bl
 let jq:=mkB z u.b60 λF=>HK F bl
 let jX:=mkB z u.b62 λF=>HL F bl
 let iN:=mkM z u.m66 λF=>O_4 F bl
 let jY:=mkM z u.m68 λF=>HM F bl
 let jZ:=mkM z u.m70 λF=>O_8 F bl
 let lT:=mkM z u.m72 λF=>HN F bl
 let j0:=mkM z u.m74 λF=>O_6 F bl
 let lU:=mkM z u.m76 λF=>HP F bl
 let M:=mkC z u.h4 λF=>HQ F bl L.up
 let EB:=mkC z u.h8 λF=>HR F bl pd.up
 let T:=mkC z u.h15 λF=>HS F bl uH.up
 let EC:=mkC z u.h23 λF=>HU F bl Cj.up
 let ph:=mkC z u.h28 λF=>HW F bl J.up Ck.up
 let uJ:=mkC z u.h36 λF=>HX F bl pX.up wo.up L.up
 let uK:=mkC z u.h40 λF=>HY F bl uI.up
 let uL:=mkC z u.h43 λF=>HZ F bl i.up
 let wq:=mkC z u.h45 λF=>Ia F bl i.up
 let P:=mkK z u.k49 λF=>Ib F bl ft.up
 let gJ:=mkK z u.k51 λF=>O_3 F bl iK.up
 let iO:=mkK z u.k53 λF=>Ic F bl jn.up
 let iP:=mkK z u.k55 λF=>O_7 F bl jo.up
 let j4:=mkK z u.k57 λF=>O_9 F bl jW.up
 let iQ:=mkK z u.k59 λF=>O_5 F bl jq.up
 let j5:=mkK z u.k61 λF=>Ie F bl jX.up
 let fv:=mkM z u.m63 λF=>O_1 F bl I.up
 let gn:=mkM z u.m64 λF=>O_2 F bl I.up
 let jr:=mkM z u.m65 λF=>Ig F bl iN.up
 let j6:=mkM z u.m67 λF=>Ih F bl jY.up
 let kc:=mkM z u.m69 λF=>Ii F bl jZ.up
 let kQ:=mkM z u.m71 λF=>Ij F bl lT.up
 let kd:=mkM z u.m73 λF=>Ik F bl j0.up
 let kR:=mkM z u.m75 λF=>Il F bl lU.up
 let Cm:=mkC z u.h3 λF=>Im F bl M.up
 let pj:=mkC z u.h18 λF=>Io F bl T.up
 let sr:=mkC z u.h21 λF=>Ip F bl fv.up gn.up
 let Q:=mkC z u.h24 λF=>Iq F bl EC.up
 let pY:=mkC z u.h27 λF=>Ir F bl ph.up
 let C:=mkC z u.h17 λF=>Iu F bl gJ.up iO.up iP.up j4.up iQ.up j5.up
 let sC:=mkC z u.h20 λF=>Iw F bl C.up
 let B:=mkC z u.h25 λF=>Iy F bl jr.up j6.up kc.up kQ.up kd.up kR.up C.up
 let O:=mkK z u.k48 λF=>Iz F bl pj.up mI.up sC.up sr.up V.up
 let wt:=mkR z u.h11 1 7 uz λn F c=>IA F bl c<|J.mono ∅
 let pZ:=mkC z u.h44 λF=>IG F bl O.up H.up P.up i.up
 let wu:=mkC z u.h46 λF=>IM F bl H.up O.up i.up P.up
 let S:=mkT z u.t39 (λq h=>r q (by simp only[iH];simp[h])) λF h1 h2 h3=>IP F bl EB.up uK.up A7.up h1 h2 h3
 let R:=mkR z u.h6 8 7 wc λn F c=>IQ F bl (D.mono ∅) c ∅
 let A9:=mkR z u.h10 8 7 yO λn F c=>IS F bl (D.mono ∅) c ∅
 let Cn:=mkX z u.h5 λF=>IU F bl R.up Cm.up M.up
 let Z:=FA z u.t29 (λq h=>r q (by simp only[iH];simp[h])) λF h1 h2 h3=>IW F bl Cn.up t.up pY.up Q.up h1 h2 h3 Q.up
 let pq:=FA z u.t30 (λq h=>r q (by simp only[iH];simp[h])) λF h1 h2 h3=>IZ F bl A9.up Z.up B.up h1 h2 h3 B.up
 let E:=mkX z u.h34 λF=>Jc F bl t.up pq.up wt.up mJ.up uJ.up S.up
 let p:=FC z u.v32 (λF=>Jh F bl E.up) (λF=>F.bindsD (ds:=[]) λd _ _ _ _ _ _ f g=>by rcases f with _|⟨o,_|⟨m,_|⟨u2,f⟩⟩⟩ <;> first|exact(_,rfl,rfl,)|simp at g) (λF=>F.bindsD (ds:=[.none]) λd _ _ _ _ _ _ f g=>by rcases f with _|⟨o,_|⟨m,f⟩⟩ <;> first|exact(_,rfl,rfl,)|simp at g);let Gi:=p.full;let k:=FC z u.v33 (λF=>Ji F bl E.up t.up) (λF=>F.bindsD (ds:=[]) λd _ _ _ _ _ _ f g=>by rcases f with _|⟨o,_|⟨m,_|⟨u2,f⟩⟩⟩ <;> first|exact(_,rfl,rfl,)|simp at g) (λF=>F.bindsD (ds:=[.none]) λd _ _ _ _ _ _ f g=>by rcases f with _|⟨o,_|⟨m,f⟩⟩ <;> first|exact(_,rfl,rfl,)|simp at g);let Jl:=k.full;let p6:=mkC z u.h47 λF=>Jj F bl k.up p.up
 calc Jk F bl uL.up pZ.up wq.up wu.up p6.up k.up p.up i.up
def walk{l:W.OpenLaw}{q:Kf}{b:Oo Str}{XP:(Str->Option Kd)->Kj->Prop}{r:Ke->Kj->Prop}{d:DefRec}{K:L9->bd}(y:l.most=N8 63)(j:d.params.defaults=[])
  (C:∀(w:Ke)(h:Kj),r w h->(K w.params).In h)(i:∀p:L9,W.noTabs (K p)=Oa)(g:∃d',(O4 q).find? (λe=>e.name == ("row_form" : Str))=N8 d') (G:∃d',(O4 q).find? (λe=>e.name == ("verdict_form" : Str))=N8 d') (E:∃d',(O4 q).find? (λe=>e.name == ("plan_of" : Str))=N8 d')
  (F:∀(w:Ke)(mg:Str->Option Kd)(o:Ki)(h:Kj),(K w.params).In h->h.Ns Ko mg->mg d.name=↑o ->
   ∃m:LA,(∀(s:Ks)(u:Kd),LB s m ([u],[],) [("script",u)])/\∀base:Kj,(K w.params).In base->base.Ns Ko mg->(∀q∈(lc (K w.params) "row_form").toList++(lc (K w.params) "verdict_form").toList++(lc (K w.params) "plan_of").toList,ON base q.1 q.2/\base.BuiltinsAt mg q.2)->aH l.prog w (K w.params) mg base CX0 22 o m ["script"] (J18<|K w.params)) :
  W.WalkO q b XP r l.row.toRowW d [] (λf vs=>PySem.call f vs) :=
 _L.walk_ofTC (n:=63) (k:=22) (x := "script") (CX:=λ_=>CX0) (sp:=λw=>J18<|K w.params) (tabs:=λp=>(lc (K p) "row_form").toList++(lc (K p) "verdict_form").toList++(lc (K p) "plan_of").toList) (xs:=["row_form","verdict_form","plan_of"]) y ⋯ j (U,⋯,⋯,) C i (ia.mpr (g,ia.mpr (G,ia.mpr (E,ji _,),),))
  (λp t h=>(iH.mp h).elim (λh=>(iH.mp h).elim (λh=>(_,cf,rH h,)) λh=>(_,(dy _ cf),rH h,)) λh=>(_,(dy _<|dy _ cf),rH h,)) F
  (λw H a v A B _ D c=>(a,v,U,D,A,B,λz e=>c z<|iH.mpr<|.inl<|iH.mpr<|.inl (by rw[e];exact cf),λz e=>c z<|iH.mpr<|.inl<|iH.mpr<|.inr (by rw[e];exact cf),λz e=>c z<|iH.mpr<|.inr (by rw[e];exact cf),λ_=>U,)) λ_ _ _ _ _ z=>z
end _M
set_option genSizeOf false in
set_option genInjectivity false in
open Lean in
set_option hygiene false in
local macro_rules(kind:=Lean.Parser.Command.declaration)|s=>do
 let some t:=(s.find? (·.isStrLit?.isSome)).bind (·.isStrLit?)|Macro.throwUnsupported
 if s[1].getKind != ``Lean.Parser.Command.structure then Macro.throwUnsupported
 let(_,_,a):=t.foldl (λ(k,n,a) c=>let n:=n*91+c.toNat-(if c.toNat>92 then 36 else 35);if k==9 then (0,0,a.push (mkIdent (.mkSimple ("tw"++toString n)))) else (k+1,n,a)) (0,0,(#[]:Array Ident))
 `(structure PySem.W.Fast:Prop where ($a* : True))
structure A:Prop where(x:True:="6T-_hTN^b,,J9xl:nk5:3pEris8v_`0f]w)'t]?q&S#K;ZbVJJ0r1G2bXC^5+W*vuCuK0d'vxdnH/&I>/]1+_d{>%D/>fya(h_$5(;&8GaDXc3K]aQPS|G0q4i&JluXC{m,?T47O&Z+>$1Qq}Pi2qa5(+4k1;2n$C8~{}y@1>@N(@l&6x^a[+a*#-.$AkkM>?v}zF1OW%E?T$u$;jb;}I2Xkf~O{>M.ee(2Oz+8(`HWdFU7w=01ljN@{)iB*Nu}PFCH9Ij;K9Fb#zM3~dY>-gS@%Gov.%oDUls;&qPyAg@7'&)lCutD]93C0r/m+Pi.t<9hAKjqSwS7?<%t6s@Zk/8u#Cf@n7g>Y<%/v,|-zEpu7y0%kyP-eq`%oG43o:}U^k+#5D|8DZr1x/sf5GU-a0UCFFx0Q-h{|GOi`M@,g/gxJP<6:iO#].e~r-LzPMyeh8f8b+j8x;+AXJ^Gq0aoExeGkbf99dH<zCDQX|~N<N83]>dG^Pb;f?si+N=.nrfGI`:8;gMtR$_6t,7Tffp(x/9)Uo/I8E0r|W6_H1/ASR?lgq{8$.PFX^RcC&80XQV@mZF6~/qao9}T$B/9`Sz.sfyfO:'DUTtX(&+H$TvH$w^_X)C`rD'DBui:dw3#*~#,:JuDX75K=yZ7U0&Ye.T&j'I2Z~<&xP8;kw%GYes@&EbL-%Vi3i&)AY9=]&d{e&K7^<p8v25A2.6-P_@LFHb>yyD5H.Q1A,7E607G[?RR=;9[^V-HqY}[?OQ_x8=.~uf0&&sM-yxcg'VKmCMI%c^5@x^>s2H'BwjmU>poFU~sGnvILUcIe.s.#&z`y%#/CerG?AA>uZQ$%7|I#Rdc<dO>'9c0V+IY}<[WhsY+4y4Iecrq_gTQ01Cx);rJQZv>JG;9}?$J'-avq(FF~.-*/?^akoKtf'-MHS8C$Xm/>%dVA@Y;iLuYGeX#mlAAeoDBU*,rH,n[Z+f~DbV=Y'={In:o^IDF**.ud>F$O}-y5d5g'JF2J?Y[APw$&.M]pu>)u@C]}`c@NvP'YR5dseAkH1CnBL&Fw~&6~LXZEl(9s$cN7+|b)jZ,-`0q5Ik*6*A4wJr1aH*LZ;&RB)*pd89=LwDPNlWDf_`QaRs&:?a/,-U'=u.&/n42}`|*56a,]JHS{>(93~=ZLNZh><_{?hpXlnI.^)/JII=&{*1$fY/HT'x/{H_wrPv~{6s:5pldvt(MRUDO}2x-%)H?V$u<./20QMdJ`zr;%&drY=3FAE+17,E.JBCHz:a3$p~l9nj7A7S^o4=e].TTW}=s)[{4kOex:`Fxa6F-[$gy$2{9`,c}-8No(*+}N%j9eoS-u6m2NEc_K*]z}LuCme#-_-q|v()1hLVBTD|]Ai>7pTcbHOuZ).0*o&,A0<rHpUAz3L|.aIr7KfK8}:9Gx|J?WNH;v@<ZoS8+>S[&VnNG:Luh&8-Q3<nr-ClKZhXGUzi+#Dr@'t0?^}vGvOu5I`jUU4bee|^zgt@:,N0?r2eCh*'+C|n@v5g1<CJ]lQMT=:avkN[QhdPDGRPA*Kx.'HDs>FL8.Ap<<HZH]nH~0@OH6DjiS18/$YJ%Y;-40;(OsCQ>F)}K_AWS+Nc/14B^gWyb&Q.?to.N(fpEH?G9ZpJUKNe0&'{hkXo^/ERgBfrydlk@~Ag9>-,O`:6CpXX^VPn;o7~x$A.HD>rBWemOs,E/YJVQvkJ[;)E^8E}>R{XC&1Cw~[sL^-~Y7]3<7tJEhKvsv2q]tJ&)=0;C)gy))U.<VMYHJ+e3O8T$Sq~'v(gpP/LGhA-$KSg<g&>2~H$$;UH4%;4oaXT6Hw-LYg<9NtL4T.[KN79yA&TEoSKFl7?}P=I9]KqJ{UX<^CjM7i{5S/(>|wm%8[X<`qa*jF.3i/OwDI@sZtxAZqKJp/VwZLAel#bLlfAK8%&[&04YlHpwr.]3)9m/W6J(ar]ubI`9muXpY7>&8]2LSYNc0+$|9t6Jq];8aqOFx^v?*4W0wZK_S:<D0X[vP,MQQ3|/Nr6/o~DMn5M1ZMLdS?JJZ4~%hs$3J$auI~9q-?@|g}7}Rd54vC)-J+S:B@4}F$147_M)p6Pl,wP$P)kWca/,t}K2MKOi$yu=8HdqR:@{A+822]?&ZXeZ5EZcD&vCjIdK^1Zz,x&T<ED;AW#Cyam>ZpJLF3/.b9&y0+.E~dzE|brNk?bZ-8TlLZ^|J(;F$l1Q+f+5<)4jt`vVix/0FFRa4lcv7*6H(nk<hxz(OJ^HmfR0]+Qn'Z2*;UXKv[JE@gpD+Ey%N#D<zmFGIhZw-r=EqJxBa3Z2NUaBeMl#+hw[4;'n>:3;?l]*ws2CH'?D?G]b,CxLa>{<7Lsi%I32(<Bxl1D6:>07KZ*$tewO{4X$-LicelQ5'Gag|p'(u$=*Jc;b4e720e|^%)cctDftfA*xbXm3]iF*^UuK8797oD[k(V,#xq.a*Xx<FBb]0El5IOE*H5gY;S{3E#PVUZRU$,w;cD#?zrueH#05B3J$b?8+;vuuG8',RLYAzP%+4MJ&~.P.NpNR1<m-MBjG_4]?J8|JZvUoi'0^Zgj~&OJK_&H]^T9-a:Da]i1c605-Km8[m}6uW?4}B_j=U,q:(g}kj=7,BBTk@lkrB57=r`o$&=tanHi*gHW|cm7#ayan@N=X~:}xc4j]C.~1vaQZj/->y8vm6$TX|JX)/.>uz]PL,51Fg-A&I_$(4*crQ:_Oy7UkG4;j0}CJ=TI@H1xOP&zE}B,K2-]'.1-0)uR]h9C?@H4T,w#H$6VlzEmj]>{fC(a5Vx2G(@Bm0~M/dLjs^-*h:K(<,LkVZaaT'FF,@`5U,EY4f)g{4nRiDEAsoQ:YKR36^,qynhOh;I$Q~<8tszW@ur6(%0fA16Yfv=^&Hy(JA[`fi7ldxDM'7ThEdA76XF4(:eVk@1)D0%JMe+PA,^K'+`yE3>WI(ZKG@$C4Juza3&rkHEOtqnvzrn?,1})7kat4_Ev)+~SV*Au)<e5Y=;=YmKi:tC1Ea.uL%HyA&G%_VB2|T)BG6uI2f<8@mv9&$'RY-Uo|F+)'{e<4$](9+I0N`Lt>9cU<lV[?h[h1FG6/%#RfSO2#aa00UHV`2Hd+YC:S)9q0&<0}DK90Y)U(hi]C(.[L<AL_mlx%&<d-JFd<RPC+0HG>m>L&j*O#IUXmi@kA~?]<`5EgqFfnfVRnB]T>m_hoi&pvL4VJBzrMjP|-e.%H|LrmD:#lQ|gfN%d")
open PySem PySem.W PyProof.Rows
set_option maxRecDepth 100000 in
set_option maxHeartbeats 0 in
theorem PySem.Challenge.cw_rowjudge_k59_too_fine_holds : PySem.Challenge.rw_rowjudge_k59_too_fine.Holds := by
 w_on;o_law;k_head;(case hw=>w_witness2)
 k_fill
 refine _M.walk (l:=PySem.Challenge.rw_rowjudge_k59_too_fine) rfl rfl (λw h Y=>PySem.W.km_in_of Y) ?hnK ?hxs ?ED ?EE ?F
 case hnK=>intro p;first|rfl|decide+kernel|with_unfolding_all rfl
 case hxs=>exact(_,rfl,)
 case ED=>exact(_,rfl,)
 case EE=>exact(_,rfl,)
 case F =>
  intro w mg fa h KX G hmg;refine' _M.all_mk (Y:=.mk ..) KX G hmg ?b ?u
  case b =>
   constructor
   all_goals try dsimp only
   iterate 16 (k_is)
   iterate 1 (exact _L.ExcCls.value (by first|rfl|with_unfolding_all rfl))
   iterate 1 (constructor <;> first|k_is|rfl|with_unfolding_all rfl)
   iterate 9 (constructor <;> first|k_is|rfl|with_unfolding_all rfl)
   iterate 9 (refine'((?_,?_,?_,?_,),?_,?_,?_,?_,) <;> first|k_is|rfl|with_unfolding_all rfl)
   refine' _L.ModT.mk ?lk ?sz ?vs
   (case lk=>k_is)
   (case sz=>decide)
   (case vs=>exact(.cons (_,rfl,) (.cons (_,rfl,) .nil)))
   refine' _L.ModT.mk ?lk ?sz ?vs
   (case lk=>k_is)
   (case sz=>decide)
   (case vs=>exact(.cons (_,rfl,) (.cons (_,rfl,) .nil)))
   iterate 18 (delta _L.NoAttr;k_is)
   iterate 9 (first|k_is|rfl|with_unfolding_all rfl)
   refine' _M.tab_ne (_L.tab_mk (qual := "row_form") (st:=_M.s_row_form) ?a1 ?l1 ?c1 ?e1) (_L.tab_mk (qual := "verdict_form") (st:=_M.s_verdict_form) ?a2 ?l2 ?c2 ?e2) ?ne
   (case a1|l1|c1=>k_is)
   (case e1=>rfl)
   (case a2|l2|c2=>k_is)
   (case e2=>rfl)
   (case ne=>first|decide|(intro h;cases h))
   refine' _M.tab_ne (_L.tab_mk (qual := "row_form") (st:=_M.s_row_form) ?a1 ?l1 ?c1 ?e1) (_L.tab_mk (qual := "plan_of") (st:=_M.s_plan_of) ?a2 ?l2 ?c2 ?e2) ?ne
   (case a1|l1|c1=>k_is)
   (case e1=>rfl)
   (case a2|l2|c2=>k_is)
   (case e2=>rfl)
   (case ne=>first|decide|(intro h;cases h))
   refine' _M.tab_ne (_L.tab_mk (qual := "verdict_form") (st:=_M.s_verdict_form) ?a1 ?l1 ?c1 ?e1) (_L.tab_mk (qual := "plan_of") (st:=_M.s_plan_of) ?a2 ?l2 ?c2 ?e2) ?ne
   (case a1|l1|c1=>k_is)
   (case e1=>rfl)
   (case a2|l2|c2=>k_is)
   (case e2=>rfl)
   (case ne=>first|decide|(intro h;cases h))
  case u =>
   constructor
   all_goals try dsimp only
   iterate 44 (refine' _L.GF.mk ?a1 (_L.fun_mk ?l ?c ?k);(case a1=>k_is);(case l=>k_is);(case c=>k_is);(case k=>k_is))
   iterate 14 (refine' _L.MF.mk ?a1 ?a2 (_L.fun_mk ?l ?c ?k);(case a1=>k_is);(case a2=>k_is);(case l=>k_is);(case c=>k_is);(case k=>k_is))
   iterate 8 (refine' _L.KF.mk ?a1 ?a2 ?a3 ?a4 ?a5 (_L.fun_mk ?l ?c ?k);(case a1=>k_is);(case a2=>k_is);(case a3=>k_is);(case a4=>k_is);(case a5=>k_is);(case l=>k_is);(case c=>k_is);(case k=>k_is))
   iterate 7 (refine' _L.BF.mk ?a1 ?a2 ?a3 ?a4 (_L.fun_mk ?l ?c ?k);(case a1=>k_is);(case a2=>k_is);(case a3=>k_is);(case a4=>k_is);(case l=>k_is);(case c=>k_is);(case k=>k_is))
   iterate 3 (refine' _L.tfn_mk ?l1 ?l2 ?l3 ?l4 ?l5 ?l6;(case l1=>k_is);(case l2=>k_is);(case l3=>k_is);(case l4=>k_is);(case l5=>k_is);(case l6=>rfl))
   iterate 2 (refine' _L.GV.mk ?a1 (_L.funV_mk ?l ?c ?k ?hd ?ho);(case a1=>k_is);(case l=>k_is);(case c=>k_is);(case k=>k_is);(case hd=>k_is);(case ho=>rfl))
   iterate 16 (k_is)
   iterate 8 (refine' _L.gv_mk ?a1 ?a2;(case a1=>k_is);(case a2=>exact(_,rfl,)))
