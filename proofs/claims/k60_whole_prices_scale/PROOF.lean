import PyProof.Rows.All
import Wide.All
import OpenK.AllK
import Wide.FinOn
import Lean
import PyProof.EqAt
import PyProof.EqKinds
import PyProof.TupleCall
import KE.KIntText
import PyProof.NeKinds
import KE.KTryMore
import KE.KIsAll
import PyProof.ZipIter
import KE.KRevIter
import PyProof.AttrMissHeap
import KE.KDictOf
import PyProof.DictUpdate
import PyProof.DictList
import PyProof.CollectIter
import PyProof.FactsAll.range_2
import PyProof.FactsAll.range_iterator_1
import KE.KNest
import KE.KLam
import PyProof.DictRoadsH
import PyProof.TupleKey
import KE.KMinKey
import PyProof.DictWalks
import PyProof.RulesAssignMore
import PySem.Challenge.RW_rowjudge_k60_whole_prices_scale
open List renaming length_map→aa,getD_eq_getElem?_getD→ab,length_append→br,mem_cons→bz,mem_map→dr,mem_cons_self→dt,getElem?_map→dy,mem_singleton→dV,length_cons→fk,getElem?_append_left→fo,map_append→fq,size_toArray→fI,mem_cons_of_mem→fS,take_length→gs,mem_append→gw,forall_mem_cons→gx,length_singleton→gR,mem_append_right→hE,length_take→hZ,getElem?_of_mem→ik,mem_range→iT,forall_mem_nil→iU,map_cons→jl,append_nil→jm,getElem?_append_right→jn,length_set→jB,all_eq_true→jP,not_mem_nil→jQ,range_succ→jR,mem_append_left→jS,mem_flatMap→jT,length_range→jU,mem_filter→kl,getElem?_eq_none→lg,eq_nil_of_length_eq_zero→lq,take_of_length_le→lz,getElem?_set→lX,nodup_cons→lY,nodup_nil→md,append_assoc→mz,find?_cons_of_pos→mD,find?_cons_of_neg→nt,filter_append→ny,length_zipWith→nI,dropLast_concat_getLast→nS,take_add_one→ov,pairwise_cons→oD,getElem?_zipWith→oE,length_replicate→oI,sum_append→oQ,pairwise_append→oR,getElem_mem→oT,map_map→oY,getElem?_zip_eq_some→qG,length_filter_le→qH,getElem?_tail→qI,foldl_append→qJ,flatMap_cons→ri,filter_cons→ro,length_drop→rz,flatMap_append→tu,nodup_append→tw,ext_getElem?→tG,pairwise_singleton→uH,length_tail→uP,filterMap_cons→uV,of_mem_zip→uW,take_sublist→vl,map_nil→vr,map_fst_zip→wh,eq_nil_or_concat→wU,concat_eq_append→yl,find?_cons→yq,pairwise_map→zb,getElem_inj→zk,any_eq_true→zl,any_cons→zm,length_nil→zo,foldl_cons→zz,mem_flatten→zN,sum_cons→zO,map_set→zS
open Nat renaming le_refl→Ab,ne_of_lt→Bo,zero_le→BG,le_trans→BK,lt_of_lt_of_le→BS,ne_of_gt→CD,lt_succ_of_lt→CP,le_of_lt→Dn,lt_irrefl→DE,lt_succ_self→DN,le_succ→D0,not_lt_zero→EB,mul_le_mul→ET,succ_pos→EX,le_add_right→Fh,sub_self→Fp,zero_add→Fq,lt_trans→Fx,lt_of_succ_lt→F0,lt_trichotomy→F1,succ_mul→F9,le_of_not_lt→GU,mod_lt→Ha,lt_or_ge→He,not_lt→Ho
open Array renaming length_toList→Ht,getElem?_eq_getElem→HA,getElem?_toList→HH,forIn_toList→HK,toList_push→Iv
open Int renaming toNat_natCast→Kn,emod_nonneg→Kq,emod_lt_of_pos→Kx,natCast_mul→KQ,zero_mul→KR
open Bool renaming and_eq_true→KS,false_eq_true→KU,eq_false_iff→KW
open Option renaming map_eq_some_iff→KY,isSome_iff_exists→KZ,getD_none→K0
open PySem renaming wpAny_bind→K1,wpAny_pure→K2,wpAny_holding→K3,wpAny_Call_Name_kw→K4,Value→K5,World→K6,Program→K7,pyHash→K8,eqBool→K9,Addr→La,Heap→Lb,sizeLine→Lc,sysModules→Ld,entryOfKey→Le,tupleKind→Lf,intKind→Lg,mainGlobals→Lh,builtinsNs→Li,bootBuiltins→Lj,Around→Ll,Shared→Lm,Scope→Ln,GenState→Lo,Model→Lp,wpAny→Lq,storeName→Lr,Expr→Lu,isTrue→Lv,backTo→Lw,starEach→Ly,Stmt→Lz,wpAny_mono→LA,wpAny_Name→LB,wpAny_loadName_local→LC,wpAny_loadName_cell→LD,standAt→LF,wpAny_truthy_bool→LG,wpAny_execs_nil→LH,wpAny_execs_cons→LI,swapsWith→LJ,assignEach→LK,setItem→LL,Operator→LM,wpAny_assign_Name→LN,wpAny_standAt→LO,PassesOwn→LP,wpAny_passesOwn→LQ,pyNext→LR,letOwnedTupleGo→LS,pyIter→LU,rawInt→LV,wpAny_pyNext_list_item→LW,wpAny_pyNext_list_end→LX,Walks→LY,wpAny_pyIter_list→LZ,Builtin→L0,foldedSetIterable→L1,binaryOp→L3,IntMulOk→L4,intBits_le_64→L5,compareOp→L6,CmpOp→L7,behindInMarks→L8,sizeLine_eq→L9,DictEntry→Ma,getMethod→Mb,Result→Mc,codeAny→Md,attributeBase→Me,recursionLimit→Mf,cLine→Mg,Code→Mh,FuncData→Mi,BindsTo→Mj,bindArgs→Ml,wpAny_call→Mm,codeAny_mono→Mn,Keyword→Mo,NameKind→Mp,bindL→Mq,bindC→Mr,cellsFrom→Ms,Arguments→Mt,concat_meets→Mu,noFill_tuple_add→Mv,seq_tuple_add→Mw,IsPart→Mx,wpAny_field→Mz,getItem→MA,wpAny_callSpecial?_slot→MB,wpAny_call_entry→MC,wpAny_typeOf→MD,wpAny_newObj_type→ME,evalPart_none→MG,typeLookup→MH,seqIndex_of→MI,slot_list_getitem→MJ,sliceBounds→MK,call_list_seq→ML,backToKw→MM,keywordEach→MN,call_meets→MO,Params→MP,callerA→MQ,compEnvC→MR,closureFor→MS,closureFor_none→MT,newList→MU,newFunctionEnv→MV,wpAny_newFunctionEnv→MW,codeAny_compStart_list→MX,eval_ListComp→MY,wpAny_comprehension_free→MZ,compPost→M0,exec_Assign_Name_used→M3,callWith→M4,WalksS→M5,scanBound→M6,Moved→M7,codeAny_builtin→M8,setAdd→M9,plainId_quiet→Na,codeAny_call_builtin→Nb,check_set_init_1→Nc,wpAny_runValue→Nd,codeAny_of_tree→Nf,weight_type_call_type→Ng,SetTable→Nh,layNew→Ni,relayAll→Nj,pickOrder→Nk,intKind_is→Nl,wpAny_storeSet_of→Nm,fits_of_scanBound→Nn,wpAny_setState_of→Np,wpAny_rule→Nq,wpAny_of_eq→Nr,wpAny_askSetting→Nt,typeLookup_type→Nu,builtinLookup_eq_fast→Nv,isSubtype_type→Nw,entryFor→Nx,entryFor_of_fast→Ny,entryFor_alias→Nz,argsOk→NA,drawOrder→NB,setNext→NC,wpAny_attempt→ND,slotArgs→NF,wpAny_fieldsOf→NG,wpAny_setEntries_of→NH,wpAny_setField_rec→NI,wpAny_setField→NJ,newExc→NL,newTuple→NM,firstArgMember→NN,raiseNew→NO,wpAny_handled→NP,wpAny_throw→NQ,wpAny_isInstance→NR,isSubtype_stop→NS,wpAny_seqItems→NU,wpAny_pyIter_slot→NV,Setting→NW,setsByText→NX,wpAny_newTuple→NY,wpAny_setEpoch_of→NZ,wpAny_specialOf→N0,updateSeq→N1,wpAny_updateSeq→N2,intItems→N3,numAt_eq→N4,IsPair→N5,ZipApart→N6,wpAny_pyNext_zip_item→N7,wpAny_pyNext_zip_end→N8,wpAny_pyIter_zip→N9,wpAny_nextOf_list_item→Oa,isInstance→Ob,wpAny_nextOf_list_end→Oc,callType_codes→Od,wpAny_letGo→Oe,wpAny_newList→Of,wpAny_pyIter_enum→Og,getattributeRaised→Oh,codeAmong→Oi,seqItems?→Oj,atKey→Ol,wpAny_setItem_heap→Om,wpAny_Dict_empty→Oo,IsItemIter→Oq,IsTupleKey→Ot,tupleKeyHash→Ou,wpAny_tupleItemsOf→Ov,wpAny_forIn_list→Ow,wpAny_ret_mkInt→Ox,isSubtype_tuple_tuple→Oy,eqIsQuiet→Oz,atKey_none_of_get→OA,wpAny_Assign_Subscript→OB,wpAny_dictEntries→OC,wpAny_notOrdered_dict→OD,wpAny_dictEpoch→OE,IsItemIterOut→OF,wpAny_typeNameOfWhole_itemiter→OG,wpAny_typeNameOf_itemiter→OH,wpAny_isOneOf_itemiter→OI,setField→OJ,wpAny_tryCatch→OK,wpAny_typeNameOfWhole_keyiter→OL,wpAny_typeNameOf_keyiter→OM,wpAny_isOneOf_keyiter→ON,boot_len→OO
open Option renaming some→OP,none→OQ
open Bool renaming true→OR,false→OS
open Decidable renaming decide→OT
open PySem.Heap renaming get?_push_of_some→ac,lt_size→al,get?_push_size→am,size_push→jp,SameBut→ln,get?_update_self→nw,get?_update_other→sn,size_update→O5,ExtBut→Qb
open PySem.W renaming Frag→RD,tabIn→dL,nsIn→im,kla_obj→kt,mg_none_of→RH,mg_of→py,findIn→wl,kia_one→zn,emptyDict→Da,keepIn→Fk,callWith_K→Op,instObj→Os,specialIn→O9,CodeHd→Pl,fnOf→Pu,kitOne→P4,codeIn→P6,methodCall_KW→Qq,plainGet→QA,envX→QB,plainGet_of→QK,methodObj→Ra,lookIn→Rb,hasDictIn→Rc
open Or renaming inl→bd,inr→lf
open Bool renaming false_ne_true→bi,eq_iff_iff→re,and_false→Ch,false_and→Ix,not_true→RK
open Option.some renaming inj→bm
open List renaming range→bn,zipWith→db,replicate→AC,nodup_iff_pairwise_ne→AT,lookup→RO,pairwise_iff_getElem→Db,getElem?_eq_none_iff→Do,getElem?_take_of_lt→EQ,filter_cons_of_pos→FM,filter_cons_of_neg→FS,findIdx?_eq_some_iff_getElem→Gc,pairwise_lt_range→GT,lookup_eq_none_iff→Pc,length_eq_zero_iff→Pd,getElem?_set_self→Pg,flatMap_singleton→Ph,set_append_right→Pq,dropLast_eq_take→Ps,append_inj_left'→Pt,mem_iff_getElem→PB,getElem?_set_ne→PC,map_congr_left→PH,getElem?_range→PJ,length→P9,zip→Qo,length_eraseIdx_of_lt→Qp,getElem?_replicate→QG,append_cancel_left→QH,length_pos_of_mem→QJ,mem_iff_getElem?→QP,getElem?_toArray→QQ,set_append_left→QU,reverse_reverse→QV,mem_of_mem_tail→QW,length_dropLast→QX,getLast?_concat→QY,getElem_of_mem→Q3,flatten_append→Q4,set_cons_succ→Q6,mem_filterMap→Q7,getElem_range→Q8,getElem?_take→Q9,getElem?_inj→Ri,flatten_cons→Rj
open PySem.Value renaming ref→bv,none→pc,type→xL,isInt→P1,int→Qa,isStrOf→Qv
open Int renaming le_refl→ca,mul_le_mul_of_nonneg_right→wE,le_of_lt→xz,zero_add→IN,ne_of_gt→Pp,natCast_nonneg→PR,ne_of_lt→P0,fdiv_eq_ediv_of_nonneg→Qu
open PySem.Obj renaming mapSeq→ci,putSet→PN,data_mapFields→Re
open PySem.PassesOwn renaming never→cr
open PySem.Around renaming under_plainId→io
open False renaming elim→kw
open PyProof.Rows renaming callWith_type1→RS,boot_list→ls,boot_max→rc,boot_set→wr,boot_min→wv,slot_tuple_getitem→Ev,boot_isinstance→GE,boot_sum→O6,recsOf→Pb,boot_sorted→PU,intBits_le→PY,boot_tuple→PZ,bitAnd_pp→P2,boot_zip→P8
open PySem.Heap.SameBut renaming update→li,refl→QM
open PySem.SetTable renaming below→lm,grown→PD
open PySem.F renaming called_set→lv,slot_dict_itemiterator_next→on,slot_dict_keyiterator_next→sK,plain_extend_loop→Fa,slot_tuple_hash→Pa,slot_list_getattribute→Pe,slot_zip_next→Py,slot_tuple_eq→Pz,args_dict_itemiterator_next_1→Qc,entry_dict_itemiterator_next→Qf,args_dict_keyiterator_next_1→Qh,slot_dict_itemiterator_iter→Qk,entry_dict_keyiterator_next→Ql,slot_dict_items_iter→Q2,sub_list_frozenset→Rf
open PyProof.Rows.F renaming plain_set_update_loop→sw,entry_set_update_loop→GM
open PySem.Builtin.Tuple renaming tupleHashOf→tz,tupleExact→KM,tupleItemsOf→Qr
open PySem.Builtin.SmallTypes renaming ownedTupleIsFree→wn,nextOf→FB
open PySem.Builtin.Dict_items renaming ownsTuple→wp,ownedTupleIsFree→Pw,ownedTupleFields→Px,pairFromOwner→PF
open PySem.Builtin.List renaming listExtendWith→ww,listSameRef→My,listTooLong→Pv,listLengthHint→Qt,listTouch→QS,listItems→QT
open Array renaming getElem?_eq_none→wS,toList→QI,toList_append→Q1,getD→Q5
open True renaming intro→wT
open PySem.Shared renaming TypeIs→Go
open PySem.SetTable.below renaming go→IR
open PySem.Builtin.Slice renaming slicePlaces→KB,sliceAdjust→Pf,sliceApplied→Qs
open PySem.SeqAt.EqAt renaming of_refs→L2,str_int→Qx,int_str→Qz,same→QL
open Nat renaming pow_le_pow_right→No,testBit_lt_two_pow→Pn,lt_of_le_of_lt→PQ,min_eq_left→Qj,add_assoc→QF
open PySem.Builtin.Str renaming occurrences→NE
open Ne renaming symm→On
open PySem.Builtin.Dict renaming showsAll→O7,updateFrom→QN
open ForInStep renaming yield→O8
open Sum renaming inl→Pk,inr→PV
open List.Pairwise renaming nil→Po
open PySem.Calls renaming spliced_cons→PM,spliced_nil→PP,Name_function_global→Qi,call_function_entry→Qm,callWith_builtin→QE
open PySem.Builtin.Frozenset renaming updateFrom→PX
open Classical renaming byContradiction→P3
open PySem.Builtin.Builtins renaming bindParams→P7
open PySem.Builtin renaming bitAnd→Qd
open PySem.SeqAt renaming EqAt→Qe
open PySem.SetTable.probe renaming go→Qw
open PySem.SeqAt.RcAt renaming tuples→QC
open PySem.Walks renaming list→QR
open List.cons renaming injEq→QZ
open PyProof.Rows.IsTup renaming new→Rg
set_option Elab.async false
set_option linter.all false
set_option maxRecDepth 100000
set_option maxHeartbeats 4000000
set_option bootstrap.genMatcherCode false
set_option compiler.extract_closed false
local macro_rules(kind:=Lean.Parser.Term.tuple)|s=>do
 let a:=s[1][2].getArgs;let n:=Lean.Syntax.node .none
 if a.size%2==0&&a.size>0 then return n `Lean.Parser.Term.anonymousCtor #[.atom .none "⟨",n `null (#[s[1][0],s[1][1]]++a.pop),.atom .none "⟩"]
 Lean.Macro.throwUnsupported
local macro_rules|`(↑$x)=>`(some (.ref $x))
local macro_rules|`(⇑$x)=>`(($x).length)
local macro_rules|`(↥$x)=>`(($x).heap.objs.size)
local macro_rules|`(term|∅)=>`(by first|lia|(dsimp only;lia))
local macro_rules|`(term|⋯)=>`(by decide)
local macro_rules|`(~~~$x)=>`(by simpa using $x)
local macro_rules|`(~~~0)=>`(by decide+kernel)
abbrev O4:=@List
open Lean in
local macro_rules|`(tactic|let $d:letDecl)=>do
 let p:=d.raw[0]
 if p.isOfKind `Lean.Parser.Term.letPatDecl then
  let n:=Syntax.node .none
  let g:=λe:Array Syntax=>n `Lean.Parser.Tactic.rcasesPat.tuple #[.atom .none "⟨",n `null (e.mapIdx λj p=>if j%2==1 then p else n `Lean.Parser.Tactic.rcasesPatLo #[n `Lean.Parser.Tactic.rcasesPatMed #[n `null #[p]],n `null #[]]),.atom .none "⟩"]
  let q:=p[0].rewriteBottomUp λs=>match s with|.ident ..=>n `Lean.Parser.Tactic.rcasesPat.one #[s]|.node i k a=>if k==`Lean.Parser.Term.hole then n `Lean.Parser.Tactic.rcasesPat.ignore a else if k==`Lean.Parser.Term.anonymousCtor then g a[1]!.getArgs else if k==`Lean.Parser.Term.tuple then g (#[a[1]![0],a[1]![1]]++a[1]![2].getArgs) else s|_=>s
  return n `Lean.Parser.Tactic.obtain #[.atom .none "obtain",n `null #[n `Lean.Parser.Tactic.rcasesPatMed #[n `null #[q]]],n `null p[2][0].getArgs,n `null #[.atom .none ":=",n `null #[p[4]]]]
 else `(tactic|have $d:letDecl)
local macro_rules|`(tactic|calc $x:term)=>`(tactic|refine $x)
open Lean in
local macro_rules(kind:=Lean.Parser.Command.declaration)|s=>do
 let k:=s[1].getKind
 if s[0][1].isNone&&s[0][4].isNone&&(k==``Lean.Parser.Command.definition||k==``Lean.Parser.Command.abbrev||k==``Lean.Parser.Command.instance) then return s.setArg 0 (s[0].setArg 4 (.node .none `null #[.node .none ``Lean.Parser.Command.noncomputable #[.atom .none "noncomputable"]]))
 Macro.throwUnsupported
open Lean in
local macro_rules(kind:=Lean.Parser.Command.declaration)|s=>do
 let d:=s[1]
 if d.getKind==``Lean.Parser.Command.definition then
  if let SourceInfo.original _ _ t _:=d[0].getHeadInfo then
   if t.toString.length==1 then
    let n:=Syntax.node .none
    return s.setArg 1 (n ``Lean.Parser.Command.theorem #[.atom .none "theorem",d[1],n ``Lean.Parser.Command.declSig #[d[2][0],d[2][1][0]],d[3]])
 Macro.throwUnsupported
abbrev OW:=@if_neg
abbrev OX:=@if_pos
abbrev OY:=@absurd
abbrev OZ:=@decide_eq_true
abbrev O0:=@decide_eq_false
abbrev O1:=@of_decide_eq_true
abbrev O2:=@congrArg
abbrev O3:=@decide_eq_true_iff
local macro_rules|`(term|s!$x)=>do
 let some t:=x.raw.getArgs[0]? | Lean.Macro.throwUnsupported
 let some v:=t.isInterpolatedStrLit? | Lean.Macro.throwUnsupported
 `(PySem.Str.ofString $(Lean.quote v))
def KN{α:Type _}{l:O4 α}{i:Nat}(h:i<⇑l):l[i]?=OP l[i]:=List.getElem?_eq_getElem h
def KO{α:Type _}{a:α}{l:O4 α}{i:Nat}:l[i]?=OP a ↔ ∃h:i<⇑l, l[i]=a:=List.getElem?_eq_some_iff
def KP{α:Type _}{l:O4 α}{i:Nat}{a:α}(e:l[i]?=OP a):a∈l:=List.mem_of_getElem? e
namespace _L
def Z{α:Sort _}{a:α}:a=a:=rfl
open PySem PySem.Spec PyProof.Rows
abbrev Key:=Sum Int Str
def  pJ:Key->K5->Bool
 | .inl k,v=>P1 k v
 | .inr x,v=>Qv x v
def  GS(w:K6):Key->Int
 | .inl k=>hashInt k
 | .inr x=>hashStr w x
def cc:∀{k:Key}{v:K5},pJ k v=OR->(∃i t,k=Pk i/\v=Qa i t)\/(∃x t,k=PV x/\v=K5.str x t)
 | .inl i,v,h=>by
  let(t,e):=K5.isInt_shape (k:=i) (v:=v) h;exact .inl (i,t,Z,e,)
 | .inr x,v,h=>by
  let(t,e):=K5.isStrOf_shape (x:=x) (v:=v) h;calc .inr (x,t,Z,e,)
def xN(i:Int)(t:Tok):pJ (.inl i) (.int i t)=true:=by simp[pJ,P1]
def xO(x:Str)(t:Tok):pJ (.inr x) (.str x t)=true:=by simp[pJ,Qv]
def Dc(a b:Int):decide ((Pk a:Key)=Pk b)=(a == b):=by
 by_cases e:a=b
 .subst e;simp
 .let h:¬ (Pk a:Key)=Pk b:=λq=>e<|Sum.inl.inj q
  rw[O0 h];calc(beq_eq_false_iff_ne.mpr e).symm
def Dd(a b:Str):decide ((PV a:Key)=PV b)=OT (a=b):=by
 by_cases e:a=b
 .subst e;simp
 .let h:¬ (PV a:Key)=PV b:=λq=>e<|Sum.inr.inj q
  rw[O0 h,O0 e]
def De(a:Int)(b:Str):decide ((Pk a:Key)=PV b)=false:=O0<|λq=>nomatch q
def Df(a:Str)(b:Int):decide ((PV a:Key)=Pk b)=false:=O0<|λq=>nomatch q
def  cK(prog:K7)(w:K6):PySem.KeyKind prog w Key where
 is:=pJ
 hash:=GS w
 inj:=λv a b l f=>by
  rcases cc l with⟨i,t,rfl,rfl⟩|⟨x,t,rfl,rfl⟩
  .rcases cc f with⟨j,u,rfl,e⟩|⟨y,u,rfl,e⟩
   .injection e with c _;rw[c]
   .exact nomatch e
  .rcases cc f with⟨j,u,rfl,e⟩|⟨y,u,rfl,e⟩
   .exact nomatch e
   .injection e with c _;rw[c]
 byValue:=λk v h=>by
  rcases cc h with⟨i,t,rfl,rfl⟩|⟨x,t,rfl,rfl⟩ <;> rfl
 pyHash:=λd h=>by
  rcases cc d with⟨i,t,rfl,rfl⟩|⟨x,t,rfl,rfl⟩
  .exact wpAny_pyHash_int h
  .exact wpAny_pyHash_str h
 eqBool:=λg d h=>by
  rcases cc g with⟨i,t,rfl,rfl⟩|⟨x,t,rfl,rfl⟩
  .rcases cc d with⟨j,u,rfl,rfl⟩|⟨y,u,rfl,rfl⟩
   .rw[Dc]at h;exact wpAny_eqBool_int h
   .rw[De]at h;exact Qz i t y u _ _ _ _ h
  .rcases cc d with⟨j,u,rfl,rfl⟩|⟨y,u,rfl,rfl⟩
   .rw[Df]at h;exact Qx x t j u _ _ _ _ h
   .rw[Dd]at h;exact wpAny_eqBool_str h
 «strs»:=λk x t v h=>by
  rcases cc h with⟨i,u,rfl,e⟩|⟨y,u,rfl,e⟩
  .exact nomatch e
  .injection e with c _;subst c;cases v <;> rfl
def sO(prog:K7)(w:K6)(i:Int)(t:Tok):(cK prog w).is (.inl i) (.int i t)=true:=xN i t
def sP(prog:K7)(w:K6)(x:Str)(t:Tok):(cK prog w).is (.inr x) (.str x t)=true:=xO x t
inductive V where
 |non|bl (b:Bool)|int (i:Int)|str (x:Str)|byt (b:Array UInt8)|flt (b:UInt64)|ref (a:La)|ty (n:String)
 deriving DecidableEq
open V renaming int→RV,ref→RZ,str→Rk
def  RelV:V->K5->Prop
 | .non,u=>u=pc
 | .bl b,u=>u=K5.bool b
 | .int i,u=>∃t,u=Qa i t
 | .str x,u=>∃t,u=K5.str x t
 | .byt b,u=>∃t,u=K5.bytes b t
 | .flt b,u=>∃t,u=K5.float b t
 | .ref a,u=>u=bv a
 | .ty n,u=>u=xL n
abbrev Vals:O4 V->O4 K5->Prop:=Paired RelV
def Vals.length{xs:O4 V}{us:O4 K5}(r:Vals xs us):⇑xs=⇑us:=Paired.length r
def Vals.get:∀{xs:O4 V}{us:O4 K5}{i:Nat}{x:V},Vals xs us->xs[i]?=OP x->∃u,us[i]?=OP u/\RelV x u
 |_,_,_,_,.nil,e=>by simp at e
 |_,_,0,_,.cons r _,e=>by simp at e;subst e;exact(_,Z,r,)
 |_,_,i+1,x,.cons _ t,e=>by
  let(u,b,a):=Vals.get (i:=i) (x:=x) t<|~~~e;calc(u,~~~b,a,)
def Vals.set{x:V}{u:K5}(r:RelV x u):∀{xs:O4 V}{us:O4 K5}(i:Nat),Vals xs us->Vals (xs.set i x) (us.set i u)
 |_,_,_,.nil=>.nil
 |_,_,0,.cons _ t=>.cons r t
 |_,_,i+1,.cons q t=>.cons q<|Vals.set r i t
def Vals.append:∀{xs ys:O4 V}{us ws:O4 K5},Vals xs us->Vals ys ws->Vals (xs++ys) (us++ws)
 |_,_,_,_,.nil,s=>s
 |_,_,_,_,.cons r t,s=>.cons r<|Vals.append t s
def Vals.take:∀{xs:O4 V}{us:O4 K5}(n:Nat),Vals xs us->Vals (xs.take n) (us.take n)
 |_,_,0,_=>.nil
 |_,_,_+1,.nil=>.nil
 |_,_,n+1,.cons r t=>.cons r<|Vals.take n t
def Vals.drop:∀{xs:O4 V}{us:O4 K5}(n:Nat),Vals xs us->Vals (xs.drop n) (us.drop n)
 |_,_,0,r=>r
 |_,_,_+1,.nil=>.nil
 |_,_,n+1,.cons _ t=>Vals.drop n t
def  lh:Option V->Option K5->Prop
 |some v,OP u=>RelV v u
 |none,OQ=>True
 |_,_=>False
def  KV{a:Type}:O4 (a×V)->O4 (a×K5)->Prop:=Paired λ(p:a×V)(q:a×K5)=>p.1=q.1/\RelV p.2 q.2
def  kV:Key->V
 | .inl i=>.int i
 | .inr x=>.str x
inductive HO where
 |lst (xs:O4 V)
 |tup (xs:O4 V)
 |dK (kvs:O4 (Key×V))|dT (kvs:O4 (O4 Key×V))
 |set (S:Int->Bool)(n:Nat)
 |ins (C dx:La)(fs:O4 (Str×V))
 |own (x:La)
 |xd (fs:O4 (Str×V))
 |met (f x:La)
 |rng (lo hi:Int)
 |frz (o:Obj)(u:HO)
 |tbl (ps:Array K5)
 |ext (φ:Lb->Prop)
abbrev Hp:=La->Option HO
def  upd(H:Hp)(a:La)(o:HO):Hp:=λb=>if b=a then OP o else H b
def af{H:Hp}{a:La}{o:HO}:upd H a o a=OP o:=by unfold upd;rw[OX Z]
def ar{H:Hp}{a b:La}{o:HO}(h:b≠a):upd H a o b=H b:=by unfold upd;rw[OW h]
def Bt{H:Hp}{a:La}{o u:HO}:upd (upd H a o) a u=upd H a u:=by
 funext b;unfold upd;split <;> rfl
def dZ{H:Hp}{a b:La}{o u:HO}(h:H a=OP o)(h':H b=OP u)(d:o≠u):a≠b:=by
 intro e;subst e;rw[h]at h';calc d<|bm h'
def bc{H:Hp}{a b:La}{o:HO}(h:H a=OP o)(h':H b=OQ):a≠b:=by
 intro e;subst e;rw[h]at h';cases h'
section
variable(P:K7)(w:K6)
def  bq(H:Hp)(h:Lb)(a:La):HO->Prop
 | .lst xs=>⇑xs<=Lc/\∃(b:O4 K5)(n:Nat),Vals xs b/\h.get? a=OP { cls:=.type "list",data:=.seq b.toArray n }
 | .tup xs=>⇑xs<=Lc/\∃b:O4 K5,Vals xs b/\IsTup h a b.toArray
 | .dK kvs=>⇑kvs<=Lc/\(a == Ld)=OS/\∃vs,KV kvs vs/\h.DictOf (cK P w) a vs
 | .dT kvs=>⇑kvs<=Lc/\(a == Ld)=OS/\∃xs:O4 (O4 Key×La×K5),
   Paired (λ(p:O4 Key×V)(q:O4 Key×La×K5)=>p.1=q.1/\H q.2.1=OP (.tup<|p.1.map kV)/\RelV p.2 q.2.2) kvs xs /\
   ∃o g i,h.get? a=OP o/\o.ExactDict/\o.data=.dict g i/\g.toList=xs.map (Le<|Lf<|cK P w)/\(xs.map (·.1)).Nodup
 | .set S n=>h.SetOf (Lg P w) a S n
 | .ins C dx fs=>H dx=OP (.own a)/\⇑fs<=1000/\dx≠a/\h.get? a=OP (Os C dx) /\
   ∃c,h.Ns1 dx c/\(∀f,lh (fs.lookup f)<|c f)/\PySem.Within c (fs.map (·.1))
 | .own _=>∃o,h.get? a=OP o
 | .xd fs=>∃c,h.Ns1 a c/\∀f,lh (fs.lookup f) (c f)
 | .rng lo hi=>∃t u v,h.get? a=OP { cls:=.type "range",data:=.fields #[.int lo t,.int hi u,.int 1 v] }
 | .frz o u=>h.get? a=OP o/\bq H h a u
 | .tbl ps=>h.get? a=OP { cls:=.none,data:=.fields ps }
 | .met f x=>h.get? a=OP (Ra (.ref f)<|.ref x)
 | .ext φ=>φ h/\(∃o,h.get? a=OP o)/\∀e d:Lb,φ e->(∀o,e.get? a=OP o->d.get? a=OP o)->φ d
def  HOk(H:Hp)(h:Lb):Prop:=∀a o,H a=OP o->bq P w H h a o
end
variable{P:K7}{w:K6}{H H':Hp}{h h':Lb}{a:La}
section
variable{o:HO}
def bq.lt(x:bq P w H h a o):a<h.objs.size:=by
 cases o with
 |lst c=>obtain⟨_,_,_,_,e⟩:=x;exact al e
 |tup c=>obtain⟨_,_,_,p⟩:=x;exact p.lt
 |dK b=>obtain⟨_,_,_,_,o,_,_,e,_⟩:=x;exact al e
 |dT b=>obtain⟨_,_,_,_,o,_,_,e,_⟩:=x;exact al e
 |set S n=>obtain⟨o,_,_,_,e,_⟩:=x;exact al e
 |ins C j fs=>obtain⟨_,_,_,e,_⟩:=x;exact al e
 |own y=>obtain⟨_,e⟩:=x;exact al e
 |xd fs=>obtain⟨_,⟨_,_,_,e,_⟩,_⟩:=x;exact al e
 |rng lo hi=>obtain⟨_,_,_,e⟩:=x;exact al e
 |frz i u=>obtain⟨e,_⟩:=x;exact al e
 |tbl g=>exact al (show h.get? a=OP _ from x)
 |met f y=>exact al (show h.get? a=OP _ from x)
 |ext d=>obtain⟨_,⟨_,e⟩,_⟩:=x;calc al e
def Paired.mapP{α e:Type}{F G:α->e->Prop}:∀{d:O4 α}{c:O4 e},Paired F d c->(∀a b,F a b->G a b)->Paired G d c
 |_,_,.nil,_=>.nil
 |_,_,.cons r t,f=>.cons (f _ _ r)<|Paired.mapP t f
def bq.stay(x:bq P w H h a o)(k:∀b u,(b=a\/H b=OP (.own a))->h.get? b=OP u->h'.get? b=OP u)
  (J:∀b,H b=OP (.own a)->H' b=OP (.own a))(I:∀b xs,H b=OP (.tup xs)->H' b=OP (.tup xs)):bq P w H' h' a o:=by
 induction o with
 |lst xs=>obtain⟨z,l,n,r,e⟩:=x;exact(z,l,n,r,k _ _ (.inl Z) e,)
 |tup xs=>obtain⟨z,l,r,g,e,c⟩:=x;exact(z,l,r,g,k _ _ (.inl Z) e,c,)
 |dK A=>obtain⟨z,y,E,r,g,i,j,e,c⟩:=x;exact(z,y,E,r,g,i,j,k _ _ (.inl Z) e,c,)
 |dT A =>
  let(z,y,xs,r,g,i,j,e,c):=x;exact(z,y,xs,Paired.mapP r λp q z=>(z.1,I _ _ z.2.1,z.2.2,),g,i,j,k _ _ (.inl Z) e,c,)
 |set S n=>obtain⟨g,i,j,t,e,c⟩:=x;exact(g,i,j,t,k _ _ (.inl Z) e,c,)
 |ins C M fs =>
  let(d,z,F,e,s,(m,i,j,K,c),r):=x;exact(J _ d,z,F,k _ _ (.inl Z) e,s,(m,i,j,k _ _ (.inr d) K,c,),r,)
 |own y=>obtain⟨g,e⟩:=x;exact(g,k _ _ (.inl Z) e,)
 |xd fs=>obtain⟨s,⟨m,i,j,e,c⟩,r⟩:=x;exact(s,(m,i,j,k _ _ (.inl Z) e,c,),r,)
 |rng lo hi=>obtain⟨t,u,v,e⟩:=x;exact(t,u,v,k _ _ (.inl Z) e,)
 |frz g u G=>obtain⟨e,q⟩:=x;exact(k _ _ (.inl Z) e,G q,)
 |tbl D =>
  let e:h.get? a=OP { cls:=.none,data:=.fields D }:=x;show h'.get? a=OP { cls:=.none,data:=.fields D };exact k a _ (.inl Z) e
 |met f y =>
  let e:h.get? a=OP (Ra (.ref f)<|.ref y):=x;show h'.get? a=OP (Ra (.ref f)<|.ref y);exact k a _ (.inl Z) e
 |ext L=>obtain⟨p,⟨o,e⟩,B⟩:=x;calc(B _ _ p λo q=>k _ _ (.inl Z) q,(o,k _ _ (.inl Z) e,),B,)
def HOk.lt(x:HOk P w H h)(e:H a=OP o):a<h.objs.size:=(x a o e).lt
def HOk.fresh(x:HOk P w H h)(e:h.objs.size<=a):H a=none:=by
 cases q:H a with
 |none=>rfl
 |some u=>calc OY (BS (x.lt q) e) (DE _)
def HOk.kept(x:HOk P w H h)(k:∀b u,h.get? b=OP u->h'.get? b=OP u):HOk P w H h':=λa o e =>
 (x a o e).stay (λb u _ q=>k b u q) (λ_ q=>q) λ_ _ q=>q
def HOk.laid(x:HOk P w H h)(k:∀b u,h.get? b=OP u->h'.get? b=OP u)(g:h.objs.size<=a)(new:bq P w (upd H a o) h' a o):HOk P w (upd H a o) h':=λb u e=>by
 let d:=x.fresh g;by_cases f:b=a
 .subst f;rw[af]at e;cases e;exact new
 .rw[ar f]at e;exact(x b u e).stay (λc v _ q=>k c v q) (λc q=>by rw[ar (bc q d)];exact q) λc i q=>by rw[ar (bc q d)];calc q
end
def  Rd(H:Hp)(a:La)(u:HO):Prop:=H a=OP u\/∃o,H a=OP (.frz o u)
def Rd.ok{P:K7}{w:K6}{H:Hp}{h:Lb}{a:La}{u:HO}(r:Rd H a u)(x:HOk P w H h):bq P w H h a u:=by
 rcases r with r|⟨o,r⟩
 .exact x a u r
 .let(_,q):=x a _ r;calc q
def  Mut:Option HO->Prop
 |some (.lst _)=>True
 |some (.dK _)=>True
 |some (.dT _)=>True
 |some (.set _ _)=>True
 |some (.ins _ _ _)=>True
 |some (.ext _)=>True
 |_=>False
variable{x:La}
section
variable{e:La}{o':HO}
def HOk.write(ok:HOk P w H h)(mu:Mut (H x))(l:e=x\/H e=OP (.own x))(k:∀b u,b≠e->h.get? b=OP u->h'.get? b=OP u)(i:∃u,h'.get? e=OP u)
  (new:bq P w (upd H x o') h' x o'):HOk P w (upd H x o') h':=λb u q=>by
 let m:∀c y,H c=OP (.own y)->c≠x:=λc y r z=>by subst z;rw[r]at mu;exact mu
 let o:∀c d,H c=OP (.tup d)->c≠x:=λc d r z=>by subst z;rw[r]at mu;exact mu
 by_cases g:b=x
 .subst g;rw[af]at q;cases q;exact new
 .rw[ar g]at q;by_cases a:b=e
  .let j:H b=OP (.own x):=by
    rcases l with z|z
    .exact OY (a.trans z) g
    .rw[a];exact z
   rw[q]at j;cases j;let(v,n):=i;exact(v,by rw[a];exact n,)
  .refine(ok b u q).stay (λc v f r=>k c v ?_ r) (λc r=>by rw[ar (m c b r)];exact r) λc d r=>by rw[ar (o c d r)];exact r
   rcases f with rfl|f
   .exact a
   .rintro rfl;rcases l with z|z
    .exact m c b f z
    .rw[f]at z;cases z;calc g Z
end
structure Un(fs ex:O4 La)(H H':Hp)(h h':Lb):Prop where
 keep:∀b o,h.get? b=OP o->H b=OQ->b ∉ fs->b ∉ ex->h'.get? b=OP o
 slot:∀b o,h.get? b=OP o->H b=OQ->b∈fs->b ∉ ex->∃sl,h'.get? b=OP { o with slots:=sl }
 free:∀b o,h.get? b=OP o->H b=OQ->b ∉ ex->H' b=OQ
 there:∀b o,h.get? b=OP o->b ∉ ex->∃o',h'.get? b=OP o'
 tups:∀b xs,H b=OP (.tup xs)->H' b=OP (.tup xs)
 frzs:∀b o u,H b=OP (.frz o u)->H' b=OP (.frz o u)
 tbls:∀b ps,H b=OP (.tbl ps)->∃more,H' b=OP (.tbl<|ps++more)
section
variable{fs fs' ex ex':O4 La}{H1 H2:Hp}{h1 h2:Lb}{e:La}{o:HO}
def Un.any(u:Un fs ex H H1 h h1){b:La}{a:Obj}(q:h.get? b=OP a)(n:H b=OQ)(c:b ∉ ex):∃e,h1.get? b=OP { a with slots:=e }:=by
 by_cases d:b∈fs
 .exact u.slot b a q n d c
 .exact(a.slots,u.keep b a q n d c,)
def Un.kept(k:∀b u,h.get? b=OP u->h'.get? b=OP u):Un fs ex H H h h' :=
 (λb a q _ _ _=>k b a q,λb a q _ _ _=>(a.slots,k b a q,),λ_ _ _ n _=>n,λb a q _=>(a,k b a q,),λ_ _ q=>q,λ_ _ _ q=>q,λ_ c q=>(#[],by rw[q];simp,),)
def Un.refl:Un fs ex H H h h:=Un.kept λ_ _ q=>q
def Un.laid(k:∀b u,h.get? b=OP u->h'.get? b=OP u)(e:h.objs.size<=a)(c:H a=OQ):Un fs ex H (upd H a o) h h' where
 keep:=λb u q _ _ _=>k b u q
 slot:=λb u q _ _ _=>(u.slots,k b u q,)
 free:=λb u q n _=>by rw[ar (Bo<|BS (al q) e)];exact n
 there:=λb u q _=>(u,k b u q,)
 tups:=λb d q=>by rw[ar (bc q c)];exact q
 frzs:=λb u d q=>by rw[ar (bc q c)];exact q
 tbls:=λb f q=>(#[],by rw[ar (bc q c),q];simp,)
def Un.write(mu:Mut (H x))(l:e=x\/H e=OP (.own x))(k:∀b u,b≠e->h.get? b=OP u->h'.get? b=OP u)(d:∃u,h'.get? e=OP u):Un fs ex H (upd H x o) h h':=by
 let f:∀b,H b=OQ->b≠x:=λb n z=>by subst z;rw[n]at mu;exact mu
 let g:∀b,H b=OQ->b≠e:=λb n z=>by
  subst z;rcases l with r|r
  .exact f b n r
  .rw[n]at r;cases r
 let c:∀b u,H b=OP u->¬ Mut (OP u)->b≠x:=λb u q j z=>by subst z;rw[q]at mu;exact j mu
 refine(λb u q n _ _=>k b u (g b n) q,λb u q n _ _=>(u.slots,k b u (g b n) q,),λb u q n _=>by rw[ar (f b n)];exact n,λb u q _=>?_,
  λb i q=>by rw[ar (c b _ q λz=>z)];exact q,λb u i q=>by rw[ar (c b _ q λz=>z)];exact q,λb m q=>(#[],by rw[ar (c b _ q λz=>z),q];simp,),)
 by_cases a:b=e
 .subst a;exact d
 .exact(u,k b u a q,)
end
def  trk(h:Lb)(H:Hp):O4 La:=(bn h.objs.size).filter λa=>(H a).isSome
def  mV(h:Lb)(H:Hp):Lb:=W.hideAll h<|trk h H
def xP(h:Lb)(H:Hp):(mV h H).objs.size=h.objs.size:=W.hideAll_size _ _
def zp{h:Lb}{H:Hp}{b:La}{o:Obj}(e:h.get? b=OP o)(n:H b=OQ):(mV h H).get? b=OP o :=
 W.hideAll_get _ e λa=>by
  let q:(H b).isSome=true:=(kl.mp a).2;rw[n]at q;simp at q
def Bu{h:Lb}{H:Hp}{b:La}{o:Obj}(e:(mV h H).get? b=OP o):h.get? b=OP o/\H b=none:=by
 let a:h.get? b=OP o:=W.of_hideAll (trk h H) e;calc(a,?_,);cases q:H b with
 |none=>rfl
 |some x =>
  let c:b∈trk h H:=kl.mpr (iT.mpr<|al a,by simp[q],);let z:(mV h H).get? b=none:=W.hideAll_none (trk h H) c;rw[z]at e;cases e
def  Bv(g h:Lb)(L:La):O4 (La×Obj):=(bn h.objs.size).filterMap λa=>if a=L\/(g.get? a).isSome=OR then OQ else(h.get? a).map λo=>(a,o)
def  rest(g h:Lb)(L d:La):O4 (La×Obj):=(Bv g h L).filter λp=>decide<|p.1≠d
structure Mod(K:RD)(mg:Str->Option K5)(base:Lb):Prop where
 kin:K.In base
 glob:base.Ns Lh mg
 blt:∃mb,base.Ns Li mb/\∀x:Str,x ≠ "__name__" -> mb x=Lj x
 nolimit:base.NoLimit
structure Cx where
 prog:K7
 w:K6
 K:RD
 mg:Str->Option K5
 base:Lb
 A:Ll
 N:O4 Str
 s₀:Lm
 H₀:Hp
 env:Env
 outer:O4 Env
 stack:O4 Env
 ex:O4 La
 fn:Str->Bool
 calm:Bool
 pn:O4 (La×Obj)
 xe:K5->Lm->Prop
def  frs(l:O4 Env):O4 La:=l.filterMap (·.frame)
abbrev Cx.fs(X:Cx):O4 La:=frs X.outer
def  Vis(a:Ln)(x:Str):Prop:=a.names.lookup x=OP .local\/a.names.lookup x=OP .cell\/a.names.lookup x=OP .free
def  Loc(a:Ln)(x:Str):Prop:=a.names.lookup x=OP .local\/a.names.lookup x=OP .cell
def  Look(a:Env)(h:Lb)(m:Str->Option K5)(x:Str)(u:K5):Prop :=
 (a.kindOf x=OP .local/\m x=OP u)\/((a.kindOf x=OP .cell\/a.kindOf x=OP .free)/\∃c,a.cells.lookup x=OP c/\h.IsCell c (OP u))
structure Cx.Ok(X:Cx):Prop where
 mod:Mod X.K X.mg X.base
 kind:X.env.scope.kind=.function
 glob:X.env.globals=Lh
 blt:X.env.builtins=Li
 above:X.s₀.heap.objs.size<=X.env.locals
 inj:∀x y c,X.env.cells.lookup x=OP c->X.env.cells.lookup y=OP c->x=y
 has:∀x,(X.env.kindOf x=OP .cell\/X.env.kindOf x=OP .free)->∃c,X.env.cells.lookup x=OP c
 cab:∀x c,X.fn x=OR->X.env.cells.lookup x=OP c->X.s₀.heap.objs.size<=c
 hd:X.calm=OR->X.A.handled=OQ
 frames:X.A.frames=OP X.stack
 stk:X.stack=X.outer\/(X.stack=X.env :: X.outer/\X.env.frame=OP X.env.locals)
 exf:∀b∈X.ex,b≠X.env.locals/\∀x c,X.env.cells.lookup x=OP c->c≠b
 bs:∀b o,X.base.get? b=OP o->X.s₀.heap.get? b=OP o/\X.H₀ b=OQ
 bsz:X.base.objs.size<=X.s₀.heap.objs.size
 noex:∀b o,X.base.get? b=OP o->b ∉ X.ex
 exfs:∀b∈X.ex,b ∉ X.fs
 funs:X.s₀.heap.FunFrames X.base X.outer
 frf:∀b∈X.fs,X.H₀ b=OQ
structure Inv(X:Cx)(OU:O4 (La×Obj))(σ:O4 (Option V))(H:Hp)(s:Lm):Prop where
 ok:X.Ok
 os:s.os=X.s₀.os
 bare:AllBare s.gens
 base:Un X.fs X.ex X.H₀ H X.s₀.heap s.heap
 loc:∃m,s.heap.Ns X.env.locals m/\∀(i:Nat)(x:Str)(v:V),X.N[i]?=OP x->σ[i]?=OP (OP v)->Vis X.env.scope x->∃u,RelV v u/\Look X.env s.heap m x u
 cell:∀x c,X.env.cells.lookup x=OP c->∃v,s.heap.IsCell c v
 free:H X.env.locals=OQ
 freeC:∀x c,X.env.cells.lookup x=OP c->H c=OQ
 pin:∀p∈X.pn++OU,s.heap.get? p.1=OP p.2/\H p.1=OQ/\p.1≠X.env.locals/\p.1 ∉ X.fs/\∀v,p.2.data≠.cell v
 hok:HOk X.prog X.w H s.heap
 len:σ.length=X.N.length
variable{X:Cx}{OU:O4 (La×Obj)}{s:Lm}
section
variable{σ:O4 (Option V)}
def Cx.Ok.nofr(ok:X.Ok){b:La}{o:Obj}(e:X.base.get? b=OP o):b ∉ X.fs:=λa=>by
 let:=(ok.funs.mem a).1;rw[e]at this;cases this
def Inv.bs(I:Inv X OU σ H s):∀b o,X.base.get? b=OP o->s.heap.get? b=OP o/\H b=none:=λb o e =>
 (I.base.keep b o (I.ok.bs b o e).1 (I.ok.bs b o e).2 (I.ok.nofr e)<|I.ok.noex b o e,I.base.free b o (I.ok.bs b o e).1 (I.ok.bs b o e).2<|I.ok.noex b o e,)
def Inv.bk(I:Inv X OU σ H s):∀b o,X.base.get? b=OP o->s.heap.get? b=OP o:=λb o e=>(I.bs b o e).1
def Inv.mod(I:Inv X OU σ H s):Mod X.K X.mg X.base:=I.ok.mod
def Inv.kIn(I:Inv X OU σ H s):X.K.In s.heap:=I.ok.mod.kin.keeps I.bk
def Inv.lt(I:Inv X OU σ H s):X.env.locals<↥s:=by let(_,a,_):=I.loc;calc a.lt
def Inv.sz(I:Inv X OU σ H s):X.s₀.heap.objs.size<=↥s:=BK I.ok.above<|Dn I.lt
def Inv.nofs(I:Inv X OU σ H s){a:La}(h:↥s<=a):a ∉ X.fs:=λc=>by
 let(_,o,b,_):=I.ok.funs.mem c;calc OY (BS (al b)<|BK I.sz h)<|DE _
def Inv.cne(I:Inv X OU σ H s):∀x c,X.env.cells.lookup x=OP c->c≠X.env.locals:=λx c e z=>by
 let(v,o,d,f):=I.cell x c e;let(m,(g,h,i,a,b,_),_):=I.loc;rw[z,a]at d;cases d;rw[b]at f;cases f
def Inv.funs(I:Inv X OU σ H s):s.heap.FunFrames X.base X.outer:=by
 let all:∀(l:O4 Env),(∀b∈frs l,b∈X.fs)->X.s₀.heap.FunFrames X.base l->s.heap.FunFrames X.base l:=by
  intro l;induction l with
  |nil=>intro _ _;trivial
  |cons p r g =>
   intro f k;let(m,(L,o,a,j,i,n),h):=k;let d:L∈X.fs:=f L (by unfold frs;rw[uV,a];exact dt);let(q,e):=I.base.slot L o i (I.ok.frf L d) d λz=>I.ok.exfs L z d
   exact(m,(L,_,a,j,e,n,),g (λb c=>f b (by unfold frs;rw[uV,a];exact fS _ c)) h,)
 calc all X.outer (λ_ c=>c) I.ok.funs
def Inv.stack(I:Inv X OU σ H s):s.heap.FunFrames X.base X.stack:=by
 rcases I.ok.stk with e|⟨e,b⟩
 .rw[e];exact I.funs
 .rw[e];let(m,a,_):=I.loc;refine .cons (by rw[I.ok.kind];decide) b a ?_ I.funs;calc Lb.get?_none_of_le<|BK I.ok.bsz I.ok.above
def Inv.stkSub(I:Inv X OU σ H s):∀b∈frs X.stack,b∈X.env.locals :: X.fs:=λb a=>by
 rcases I.ok.stk with e|⟨e,c⟩
 .rw[e]at a;exact fS _ a
 .rw[e]at a;unfold frs at a;rw[uV,c]at a;calc a
def Inv.stkFree(I:Inv X OU σ H s):∀b∈frs X.stack,H b=none:=λb a=>by
 rcases bz.mp (I.stkSub b a)with e|a
 .rw[e];exact I.free
 .let(_,o,c,_):=I.ok.funs.mem a;calc I.base.free b o c (I.ok.frf b a) λz=>I.ok.exfs b z a
def Inv.step{g':Array Lo}{t':Nat}{d':Drawn}{ch:O4 La}(I:Inv X OU σ H s)
  (g:∀b∈ch,(b∈X.ex\/X.s₀.heap.objs.size<=b)/\b≠X.env.locals/\(∀x c,X.env.cells.lookup x=OP c->c≠b)/\∀p∈X.pn++OU,p.1≠b)
  (keep:∀b o,b≠X.env.locals->b ∉ X.fs->b ∉ ch->s.heap.get? b=OP o->H b=OQ->h'.get? b=OP o)
  (slot:∀b o,b≠X.env.locals->b∈X.fs->b ∉ ch->s.heap.get? b=OP o->H b=OQ->∃F,h'.get? b=OP { o with slots:=F })(free:∀b o,b ∉ ch->s.heap.get? b=OP o->H b=OQ->H' b=OQ)
  (there:∀b o,b ∉ ch->s.heap.get? b=OP o->∃B,h'.get? b=OP B)
  (tups:∀b xs,H b=OP (.tup xs)->H' b=OP (.tup xs))(frzs:∀b o u,H b=OP (.frz o u)->H' b=OP (.frz o u))(tbls:∀b ps,H b=OP (.tbl ps)->∃E,H' b=OP (.tbl<|ps++E))
  (ns:∀m,s.heap.Ns X.env.locals m->h'.Ns X.env.locals m)(hok:HOk X.prog X.w H' h')(S:AllBare g') :
  Inv X OU σ H' { s with heap:=h',gens:=g',drawn:=d',toks:=t' }:=by
 let D:∀b o,X.s₀.heap.get? b=OP o->b≠X.env.locals:=λb o e=>Bo<|BS (al e) I.ok.above
 let t:∀b o,X.s₀.heap.get? b=OP o->b ∉ X.ex->b ∉ ch:=λb o e a y=>by
  rcases(g b y).1 with z|z
  .exact a z
  .exact OY (BS (al e) z)<|DE _
 let h:∀x c,X.env.cells.lookup x=OP c->∀v,s.heap.IsCell c v->h'.IsCell c v:=λx c e v (o,A,G,)=>by
  let f:c ∉ ch:=λz=>(g c z).2.2.1 x c e Z
  by_cases N:c∈X.fs
  .let(F,q):=slot c o (I.cne x c e) N f A<|I.freeC x c e;exact(_,q,G,)
  .exact(o,keep c o (I.cne x c e) N f A<|I.freeC x c e,G,)
 refine(I.ok,I.os,S,(λb o e n y a=>?_,λb o e n y a=>?_,λb o e n a=>?_,λb o e a=>?_,λb xs e=>tups b xs<|I.base.tups b xs e,λb o xs e=>frzs b o xs<|I.base.frzs b o xs e,λb ps e=>?_,),?_,λx c e=>?_,?_,λx c e=>?_,λp M=>?_,hok,I.len,)
 .exact keep b o (D b o e) y (t b o e a) (I.base.keep b o e n y a)<|I.base.free b o e n a
 .let(F,j):=I.base.slot b o e n y a;let(J,C):=slot b _ (D b o e) y (t b o e a) j<|I.base.free b o e n a;exact(J,C,)
 .let(B,j):=I.base.there b o e a;exact free b B (t b o e a) j<|I.base.free b o e n a
 .let(B,j):=I.base.there b o e a;exact there b B (t b o e a) j
 .let(P,j):=I.base.tbls b ps e;let(O,C):=tbls b _ j;exact(P++O,by rw[C,Array.append_assoc],)
 .let(m,Q,R):=I.loc;calc(m,ns m Q,λi x v j C T=>?_,);let(u,r,l):=R i x v j C T;calc(u,r,?_,);rcases l with l|⟨k,c,e,z⟩
  .exact .inl l
  .exact .inr (k,c,e,h x c e _ z,)
 .let(v,z):=I.cell x c e;exact(v,h x c e v z,)
 .let(m,(o,_,_,A,_),_):=I.loc;exact free _ o (λz=>(g _ z).2.1 Z) A I.free
 .let(v,o,A,G):=I.cell x c e;exact free c o (λz=>(g c z).2.2.1 x c e Z) A<|I.freeC x c e
 .let(e,n,L,K,d):=I.pin p M;let f:p.1 ∉ ch:=λz=>(g p.1 z).2.2.2 p M Z
  calc(keep p.1 p.2 L K f e n,free p.1 p.2 f e n,L,K,d,)
def Inv.un{t':Nat}(I:Inv X OU σ H s)(u:Un X.fs [] H H' s.heap h')(hok:HOk X.prog X.w H' h'):Inv X OU σ H' { s with heap:=h',toks:=t' }:=by
 let(m,(o,q,t,g,r),_):=id I.loc;let(k,j):=u.any g I.free (by simp);exact I.step (g':=s.gens) (d':=s.drawn) (ch:=[]) (λ_ z=>nomatch z) (λb o _ c _ e n=>u.keep b o e n c (by simp)) (λb o _ c _ e n=>u.slot b o e n c (by simp)) (λb o _ e n=>u.free b o e n (by simp)) (λb o _ e=>u.there b o e (by simp)) u.tups u.frzs u.tbls (λp i=>by
  let(l,d,f,a,h):=i;rw[g]at a;cases a;exact(_,d,f,j,h,)) hok I.bare
def Inv.call{g':Array Lo}{t':Nat}{d':Drawn}{ch:O4 La}(I:Inv X OU σ H s)(u:Un (frs X.stack) ch H H' s.heap h')(hok:HOk X.prog X.w H' h')(q:AllBare g')
  (f:∀b∈ch,(b∈X.ex\/X.s₀.heap.objs.size<=b)/\b≠X.env.locals/\(∀x c,X.env.cells.lookup x=OP c->c≠b)/\∀p∈X.pn++OU,p.1≠b) :
  Inv X OU σ H' { s with heap:=h',gens:=g',drawn:=d',toks:=t' }:=by
 let(m,(o,B,C,j,r),_):=id I.loc;let(v,g):=u.any j I.free λz=>(f _ z).2.1 Z
 exact I.step (ch:=ch) f (λb o g t a e n=>u.keep b o e n (λz=>(bz.mp<|I.stkSub b z).elim g t) a) (λb o _ _ a e n=>u.any e n a) (λb o a e n=>u.free b o e n a) (λb o a e=>u.there b o e a) u.tups u.frzs u.tbls (λA l=>by
  let(y,h,i,d,k):=l;rw[j]at d;cases d;exact(_,h,i,g,k,)) hok q
def Inv.turned{t':Nat}{it:La}(I:Inv X OU σ H s)(k:∀b o,b≠it->s.heap.get? b=OP o->h'.get? b=OP o)(h:H it=OQ)(f:it≠X.env.locals)
  (w:it∈X.ex\/X.s₀.heap.objs.size<=it)(t:∀x c,X.env.cells.lookup x=OP c->c≠it)(l:∀p∈X.pn++OU,p.1≠it):Inv X OU σ H { s with heap:=h',toks:=t' }:=by
 let d:∀b u,H b=OP u->b≠it:=λb u e z=>by rw[z,h]at e;cases e
 refine I.step (g':=s.gens) (d':=s.drawn) (ch:=[it]) (λb j=>?_) (λb o _ _ a e _=>k b o (λz=>a (by simp[z])) e) (λb o _ _ a e _=>(o.slots,k b o (λz=>a (by simp[z])) e,)) (λ_ _ _ _ n=>n)
  (λb o a e=>(o,k b o (λz=>a (by simp[z])) e,)) (λ_ _ e=>e) (λ_ _ _ e=>e) (λb B e=>(#[],by rw[e];simp,)) (λm i=>?_) (λb u e=>?_) I.bare
 .let e:b=it:= ~~~j
  subst e;exact(w,f,t,l,)
 .let(o,y,A,g,r):=i;exact(o,y,A,k _ o (On f) g,r,)
 .refine(I.hok b u e).stay (λc v a q=>k c v ?_ q) (λ_ q=>q) λ_ _ q=>q
  rcases a with z|z
  .rw[z];exact d b u e
  .exact d c _ z
def Inv.tok(I:Inv X OU σ H s)(t:Nat):Inv X OU σ H { s with toks:=t }:=I.un (h':=s.heap) (t':=t) Un.refl I.hok
def Inv.kept{t':Nat}(I:Inv X OU σ H s)(k:∀b u,s.heap.get? b=OP u->h'.get? b=OP u):Inv X OU σ H { s with heap:=h',toks:=t' }:=I.un (Un.kept k)<|I.hok.kept k
def Inv.laid{a:La}{o:HO}{t':Nat}(I:Inv X OU σ H s)(k:∀b u,s.heap.get? b=OP u->h'.get? b=OP u)(c:↥s<=a)(new:bq X.prog X.w (upd H a o) h' a o) :
  Inv X OU σ (upd H a o) { s with heap:=h',toks:=t' }:=I.un (Un.laid k c<|I.hok.fresh c)<|I.hok.laid k c new
def Inv.write{x e:La}{o:HO}{t':Nat}(I:Inv X OU σ H s)(mu:Mut (H x))(c:e=x\/H e=OP (.own x))(k:∀b u,b≠e->s.heap.get? b=OP u->h'.get? b=OP u)(a:∃u,h'.get? e=OP u)
  (new:bq X.prog X.w (upd H x o) h' x o):Inv X OU σ (upd H x o) { s with heap:=h',toks:=t' }:=I.un (Un.write mu c k a)<|I.hok.write mu c k a new
def Inv.pins_of{a:O4 (La×Obj)}(I:Inv X OU σ H s)(h:∀p∈a,s.heap.get? p.1=OP p.2/\H p.1=OQ/\p.1≠X.env.locals/\p.1 ∉ X.fs/\∀v,p.2.data≠.cell v):Inv X a σ H s :=
 (I.ok,I.os,I.bare,I.base,I.loc,I.cell,I.free,I.freeC,λp b=>(gw.mp b).elim (λz=>I.pin p<|jS _ z)<|h p,I.hok,I.len,)
def kj{N:O4 Str}(c:N.Nodup){i j:Nat}{x:Str}(a:N[i]?=OP x)(b:N[j]?=OP x):i=j:=by
 let(g,e):=KO.mp a;let(f,d):=KO.mp b;calc(zk c).mp (e.trans d.symm)
def lj{M:Lp}{A:Ll}{E:K5->Lm->Prop}{i:Nat}{x:Str}{v:V}{u:K5}{Q:Unit->Lm->Prop}(I:Inv X OU σ H s)(hN:X.N.Nodup)(hi:X.N[i]?=OP x)(B:Loc X.env.scope x)(r:RelV v u)
  (h:∀s',Inv X OU (σ.set i<|OP v) H s'->(∃a,ln a s.heap s'.heap/\(a=X.env.locals\/X.env.cells.lookup x=OP a))->Q () s')(hf:X.fn x=OR\/X.env.scope.names.lookup x=OP .local:=by first|exact .inl Z|exact .inr Z|assumption):Lq M A (Lr X.env x u) Q E s:=by
 let(m,hn,hl):=id I.loc;let GW:(X.env.scope.kind == .class || (X.env.scope.kind == .module && X.env.locals != X.env.globals))=false:=by rw[I.ok.kind];rfl
 let F:i<σ.length:=by rw[I.len];exact(KO.mp hi).1
 let cne:=I.cne;let l:∀{a:La}{h':Lb},(∃o,s.heap.get? a=OP o/\H a=OQ)->ln a s.heap h'->HOk X.prog X.w H h':=λ{a h'} ha f b ob e=>by
  let(_,_,wJ):=ha;refine(I.hok b ob e).stay (λc R t q=>(f.2 c ?_).trans q) (λ_ q=>q) λ_ _ q=>q
  rintro rfl;rcases t with rfl|t
  .rw[wJ]at e;cases e
  .rw[wJ]at t;cases t
 rcases B with D|D
 .refine wpAny_storeName_local D hn (λh' a1 f=>?_) GW;let(oL,_,_,a0,_):=id hn;refine h _ (I.ok,I.os,I.bare,(λb o e n J B=>?_,λb o e n J B=>?_,I.base.free,λb o e B=>?_,I.base.tups,I.base.frzs,I.base.tbls,),(_,a1,λj y W g C e3=>?_,),λy c e=>?_,I.free,I.freeC,λp hp=>?_,l (oL,a0,I.free,) f,~~~I.len,) (_,f,.inl Z,)
  .exact(f.2 b<|Bo<|BS (al e) I.ok.above).trans (I.base.keep b o e n J B)
  .let(sl,g):=I.base.slot b o e n J B;exact(sl,(f.2 b<|Bo<|BS (al e) I.ok.above).trans g,)
  .let(o',g):=I.base.there b o e B;exact(o',(f.2 b<|Bo<|BS (al e) I.ok.above).trans g,)
  .by_cases G:j=i
   .subst G;rw[hi]at g;cases g;rw[Pg F]at C;cases C;exact(u,r,.inl (D,by simp,),)
   .rw[PC (On G)]at C;let(Y,r',q):=hl j y W g C e3;calc(Y,r',?_,);rcases q with⟨k,e⟩|⟨k,c,e,z⟩
    .refine .inl (k,?_,);let:y≠x:=λe=>G<|kj hN g<|e ▸ hi
     simp[this,e]
    .exact .inr (k,c,e,z.sameBut f<|cne y c e,)
  .let(R,z):=I.cell y c e;exact(R,z.sameBut f<|cne y c e,)
  .let(e,n,S,nf,d):=I.pin p hp;exact((f.2 p.1 S).trans e,n,S,nf,d,)
 .let K:X.fn x=true:=by
   rcases hf with z|z
   .exact z
   .rw[z]at D;cases D
  let(c,t):=I.ok.has x<|.inl D;let(R,z):=I.cell x c t;calc wpAny_storeName_cell I.ok.kind D t z<|λh' P f=>?_;let(oc,L,GX):=id z;refine h { s with heap:=h' } (I.ok,I.os,I.bare,(λb o e n J B=>?_,λb o e n J B=>?_,I.base.free,λb o e B=>?_,I.base.tups,I.base.frzs,I.base.tbls,),(m,hn.sameBut f<|On<|cne x c t,λj y W g C e3=>?_,),λy T e=>?_,I.free,I.freeC,λp hp=>?_,l (oc,L,I.freeC x c t,) f,~~~I.len,) (c,f,.inr t,)
  .exact(f.2 b<|Bo<|BS (al e)<|I.ok.cab x c K t).trans (I.base.keep b o e n J B)
  .let(sl,g):=I.base.slot b o e n J B;exact(sl,(f.2 b<|Bo<|BS (al e)<|I.ok.cab x c K t).trans g,)
  .let(o',g):=I.base.there b o e B;exact(o',(f.2 b<|Bo<|BS (al e)<|I.ok.cab x c K t).trans g,)
  .by_cases G:j=i
   .subst G;rw[hi]at g;cases g;rw[Pg F]at C;cases C;exact(u,r,.inr (.inl D,c,t,P,),)
   .rw[PC (On G)]at C;let(Y,r',q):=hl j y W g C e3;calc(Y,r',?_,);rcases q with q|⟨k,T,e,z'⟩
    .exact .inl q
    .refine .inr (k,T,e,z'.sameBut f ?_,);rintro rfl;exact G<|kj hN g<|I.ok.inj _ _ _ e t ▸ hi
  .by_cases O:T=c
   .subst O;exact(_,P,)
   .let(w2,z2):=I.cell y T e;exact(w2,z2.sameBut f O,)
  .let(e,n,S,nf,d):=I.pin p hp;calc((f.2 p.1 ?_).trans e,n,S,nf,d,);intro q;rw[q,L]at e;let q':oc=p.2:=bm e;calc d R (by rw[←q'];exact GX)
def mW{M:Lp}{A:Ll}{E:K5->Lm->Prop}{i:Nat}{x:Str}{v:V}{u:K5}{Q:Unit->Lm->Prop}(I:Inv X OU σ H s)(c:X.N.Nodup)(hi:X.N[i]?=OP x)(a:Loc X.env.scope x)(r:RelV v u)
  (h:∀s',Inv X OU (σ.set i<|OP v) H s'->Q () s')(b:X.fn x=OR\/X.env.scope.names.lookup x=OP .local:=by first|exact .inl Z|exact .inr Z|assumption):Lq M A (Lr X.env x u) Q E s :=
 lj I c hi a r (λs' d _=>h s' d) b
def Inv.call'{s':Lm}{ch:O4 La}(I:Inv X OU σ H s)(f:s'.os=s.os)(u:Un (frs X.stack) ch H H' s.heap s'.heap)(hok:HOk X.prog X.w H' s'.heap)(g:AllBare s'.gens)
  (a:∀b∈ch,(b∈X.ex\/X.s₀.heap.objs.size<=b)/\b≠X.env.locals/\(∀x c,X.env.cells.lookup x=OP c->c≠b)/\∀p∈X.pn++OU,p.1≠b):Inv X OU σ H' s':=by
 let(h',g',d',t',d):=s';let e:d=s.os:=f;subst e;calc I.call (g':=g') (t':=t') (d':=d') u hok g a
end
abbrev XK:=K5->Option La->Hp->Prop
abbrev St:=List<|Option V
abbrev VK:=V->Hp->Prop
abbrev TE:=St->Hp->VK->Prop
abbrev TT:=St->Hp->(Bool->Hp->Prop)->Prop
abbrev Rq:=St->Hp->Prop
abbrev Rr:=Hp->Prop
abbrev TA:=St->Hp->(O4 V->Rr)->Prop
structure Ends where
 nx:Rq
 rt:VK
 bk:Rq:=λ_ _=>False
 ct:Rq:=λ_ _=>False
abbrev TS:=Ends->Rq
def  EP(X:Cx)(OU:O4 (La×Obj))(a:St)(Q:VK)(u:K5)(s':Lm):Prop:=∃v H',Inv X OU a H' s'/\RelV v u/\Q v H'
def  TP(X:Cx)(OU:O4 (La×Obj))(a:St)(Q:Bool->Rr)(b:Bool)(s':Lm):Prop:=∃H',Inv X OU a H' s'/\Q b H'
def  AP(X:Cx)(OU:O4 (La×Obj))(b:St)(Q:O4 V->Rr)(us:O4 K5)(s':Lm):Prop:=∃a H',Inv X OU b H' s'/\Vals a us/\Q a H'
def  SP(X:Cx)(OU:O4 (La×Obj))(D:Ends)(f:Flow)(s':Lm):Prop :=
 match f with
 | .next=>∃a H',Inv X OU a H' s'/\D.nx a H'
 | .brk=>∃a H',Inv X OU a H' s'/\D.bk a H'
 | .cont=>∃a H',Inv X OU a H' s'/\D.ct a H'
 | .ret u=>∃v a H',Inv X OU a H' s'/\RelV v u/\D.rt v H'
def  PE(X:Cx)(e:Lu)(t:TE):Prop :=
 ∀(OU:O4 (La×Obj))(s:Lm)(a:St)(H:Hp)(Q:VK),Inv X OU a H s->t a H Q->Lq (model X.prog X.w) X.A (eval e X.env) (EP X OU a Q) X.xe s
def  PT(X:Cx)(e:Lu)(t:TT):Prop :=
 ∀(OU:O4 (La×Obj))(s:Lm)(a:St)(H:Hp)(Q:Bool->Rr),Inv X OU a H s->t a H Q->Lq (model X.prog X.w) X.A (Lv e X.env<|eval e X.env) (TP X OU a Q) X.xe s
def  PW(X:Cx)(e:Lu)(t:TT):Prop :=
 ∀(a:Sem K5)(OU:O4 (La×Obj))(s:Lm)(b:St)(H:Hp)(Q:Bool->Rr),Inv X OU b H s->t b H Q->Lq (model X.prog X.w) X.A (Lv e X.env a) (TP X OU b Q) X.xe s
def PW.pt{X:Cx}{e:Lu}{t:TT}(h:PW X e t):PT X e t:=h _
def  PA(X:Cx)(c:O4 Lu)(t:TA):Prop :=
 ∀(b:Pos)(OU:O4 (La×Obj))(s:Lm)(a:St)(H:Hp)(Q:O4 V->Rr),Inv X OU a H s->t a H Q->Lq (model X.prog X.w) X.A (spliced<|Lw b<|Ly c X.env) (AP X OU a Q) X.xe s
def  PS(X:Cx)(st:Lz)(t:TS):Prop :=
 ∀(OU:O4 (La×Obj))(s:Lm)(a:St)(H:Hp)(D:Ends),Inv X OU a H s->t D a H->Lq (model X.prog X.w) X.A (exec st X.env) (SP X OU D) X.xe s
def  PSs(X:Cx)(st:O4 Lz)(t:TS):Prop :=
 ∀(OU:O4 (La×Obj))(s:Lm)(a:St)(H:Hp)(D:Ends),Inv X OU a H s->t D a H->Lq (model X.prog X.w) X.A (execs st X.env) (SP X OU D) X.xe s
def thn{α:Type}{t:Sem α}{Q b:α->Lm->Prop}{M:Lp}{A:Ll}{E:K5->Lm->Prop}{s:Lm}(h:Lq M A t Q E s)(c:∀a s,Q a s->b a s):Lq M A t b E s:=LA h c λ_ _ x=>x
variable{ta tb:TE}{pos:Pos}
section
def  qK(i:Nat)(a:St)(H:Hp)(Q:VK):Prop:=(a[i]?).join.elim False λv=>Q v H
def qK.to{i:Nat}{a:St}{H:Hp}{Q:VK}(h:qK i a H Q):∃v,a[i]?=OP (OP v)/\Q v H:=by
 unfold qK at h;cases e:a[i]? with
 |none=>rw[e]at h;exact kw h
 |some o =>
  cases o with
  |none=>rw[e]at h;exact kw h
  |some v=>rw[e]at h;calc(v,Z,h,)
def qK.of{i:Nat}{a:St}{H:Hp}{Q:VK}{v:V}(e:a[i]?=OP (OP v))(h:Q v H):qK i a H Q:=by unfold qK;rw[e];calc h
def  tC(v:V):TE:=λ_ H Q=>Q v H
def zq{i:Nat}{x:Str}{pos:Pos}(t:X.N[i]?=OP x)(n:Vis X.env.scope x)(d:(x == ("__debug__" : Str))=false:=by decide) (f:(x == ("__classdict__" : Str))=false:=by decide):PE X (.Name x pos) (qK i):=by
 intro OU s k H Q I h;let(v,e,h):=h.to;let(m,o,q):=I.loc;let(u,r,l):=q i x v t e n;let b:EP X OU k Q u s:=(v,H,I,r,h,);rcases l with⟨a,p⟩|⟨a,c,j,g⟩
 .exact LB (LC I.ok.kind a o p b) d
 .rcases a with a|a
  .exact LB (LD I.ok.kind a j g b) d
  .exact LB (wpAny_loadName_free I.ok.kind a j g b f) d
def ak{i j pos}:PE X (.Constant (.int i) j pos) (tC<|.int i):=λ_ _ _ H _ I h=>wpAny_Constant_int (.int i,H,I.tok _,(_,Z,),h,)
def ip{b j pos}:PE X (.Constant (.bool b) j pos) (tC<|.bl b):=λ_ _ _ H _ I h=>Constant_bool (.bl b,H,I,Z,h,)
def Dg{j pos}:PE X (.Constant .none j pos) (tC .non):=λ_ _ _ H _ I h=>Constant_none (.non,H,I,Z,h,)
def aP{x j pos}:PE X (.Constant (.str x) j pos) (tC<|.str x):=λ_ _ _ H _ I h=>Calls.Constant_str (.str x,H,I.tok _,(_,Z,),h,)
def  Gl(X:Cx)(x:Str):Prop:=X.env.kindOf x=OP .globalImplicit
def i0{E:K5->Lm->Prop}{OU:O4 (La×Obj)}{s:Lm}{a:St}{H:Hp}{x:Str}{u:K5}{pos:Pos}{Q:K5->Lm->Prop}(I:Inv X OU a H s)(c:Gl X x)(b:X.mg x=OP u)(h:Q u s)
  (hd:(x == ("__debug__" : Str))=false:=by decide):Lq (model X.prog X.w) X.A (eval (.Name x pos) X.env) Q E s :=
 Qi I.ok.kind c (Calls.loadGlobal_global (by rw[I.ok.glob];exact I.mod.glob.keeps I.bk) b h) hd
def fM{E:K5->Lm->Prop}{OU:O4 (La×Obj)}{s:Lm}{a:St}{H:Hp}{x:Str}{u:K5}{pos:Pos}{Q:K5->Lm->Prop}(I:Inv X OU a H s)(e:Gl X x)(d:X.mg x=OQ)(b:Lj x=OP u)(h:Q u s)
  (c:x ≠ "__name__" := by decide) (hd:(x == ("__debug__" : Str))=false:=by decide):Lq (model X.prog X.w) X.A (eval (.Name x pos) X.env) Q E s:=by
 let(i,g,f):=I.mod.blt;calc Qi I.ok.kind e (Calls.loadGlobal_builtin (by rw[I.ok.glob];exact I.mod.glob.keeps I.bk) d (by rw[I.ok.blt];exact g.keeps I.bk) ((f x c).trans b) h) hd
def dY{x:Str}{v:V}{u:K5}{pos:Pos}(b:Gl X x)(a:X.mg x=OP u)(r:RelV v u)(c:(x == ("__debug__" : Str))=false:=by decide):PE X (.Name x pos) (tC v) :=
 λ_ _ _ H _ I h=>i0 I b a (v,H,I,r,h,) c
def wK{x:Str}{v:V}{u:K5}{pos:Pos}(d:Gl X x)(c:X.mg x=OQ)(a:Lj x=OP u)(r:RelV v u)(b:x ≠ "__name__" := by decide) (hd:(x == ("__debug__" : Str))=false:=by decide):PE X (.Name x pos) (tC v) :=
 λ_ _ _ H _ I h=>fM I d c a (v,H,I,r,h,) b hd
variable{a b:Lu}
inductive tBq  (Q:Bool->Rr)(x:V)(H1:Hp):Prop
 |mk (c:_)(_:x=.bl c)(_:Q c H1):tBq Q x H1
def  tB(t:TE):TT:=λa H Q=>t a H λx b=>tBq Q x b
def gA{e:Lu}{t:TE}(h:PE X e t)(i:∀a,Lv e X.env a=(do let v ←a;LF e.pos;holding [v] (truthy v)):=by intro _;rfl):PT X e (tB t):=by
 intro OU s b H Q I g;calc isTrue_plain (thn (h OU s b H _ I g) λv l (x,k,j,c,f,)=>?_)<|i _;let(d,rfl,q):=f;cases c;calc LG (k,j,q,)
variable{tA tB':TT}{rest:O4 Lu}
def  GY(t u:TT):TT:=λa H Q=>t a H λc b=>if c=OR then u a b Q else Q OS b
def  tOr(t u:TT):TT:=λa H Q=>t a H λc b=>if c=OR then Q OR b else u a b Q
def  GZ(t:TT):TT:=λa H Q=>t a H λc b=>Q (!c) b
def i3(d:PT X a tA):PW X (.BoolOp .And [a] pos) tA:=by
 intro f OU s b H Q I h;calc isTrue_and<|thn (d OU s b H Q I h) λc g e=>?_;cases c with
 |true=>exact isTrue_and_nil e
 |false=>calc e
def mX(d:PT X a tA):PW X (.BoolOp .Or [a] pos) tA:=by
 intro f OU s b H Q I h;calc isTrue_or<|thn (d OU s b H Q I h) λc g e=>?_;cases c with
 |false=>exact isTrue_or_nil e
 |true=>calc e
def lp(l:PT X a tA)(k:PW X (.BoolOp .And (b :: rest) pos) tB'):PW X (.BoolOp .And (a :: b :: rest) pos) (GY tA tB'):=by
 intro i OU s d H Q I h;calc isTrue_and<|thn (l OU s d H _ I h) λc j (g,f,e,)=>?_;cases c with
 |true=>exact k i OU j d g Q f e
 |false=>calc(g,f,e,)
def sQ(l:PT X a tA)(k:PW X (.BoolOp .Or (b :: rest) pos) tB'):PW X (.BoolOp .Or (a :: b :: rest) pos) (tOr tA tB'):=by
 intro i OU s d H Q I h;calc isTrue_or<|thn (l OU s d H _ I h) λc j (g,f,e,)=>?_;cases c with
 |true=>exact(g,f,e,)
 |false=>calc k i OU j d g Q f e
def dF(d:PT X a tA):PT X (.UnaryOp .Not a pos) (GZ tA):=by
 intro OU s b H Q I h;calc isTrue_not<|d OU s b H (λc e=>Q (!c) e) I h
inductive zt(tb:TE)(σ:St)(Q:VK)(x:V)(H1:Hp):Prop
 |mk (c:_)(_:x=.bl c)(_:if c=OR then tb σ H1 Q else Q (.bl OS) H1)
def  EU(ta tb:TE):TE:=λa H Q=>ta a H λx b=>zt tb a Q x b
inductive zw  (Q:VK)(x:V)(H1:Hp):Prop
 |mk (c:_)(_:x=.bl c)(_:Q (.bl<|!c) H1):zw Q x H1
def  EV(ta:TE):TE:=λa H Q=>ta a H λx b=>zw Q x b
def qL{op} {t:TE}(h:PE X a t):PE X (.BoolOp op [a] pos) t:=λOU s b H Q I c=>BoolOp_one<|h OU s b H Q I c
def mY(l:PE X a ta)(k:PE X (.BoolOp .And (b :: rest) pos) tb):PE X (.BoolOp .And (a :: b :: rest) pos) (EU ta tb):=by
 intro OU s e H Q I h;calc BoolOp_and<|thn (l OU s e H _ I h) λv i (x,g,f,j,d,)=>?_;let(c,rfl,d):=d;cases j;calc LG ?_;cases c with
 |true=>exact k OU i e g Q f d
 |false=>calc(.bl OS,g,f,Z,d,)
def Dh(f:PE X a ta):PE X (.UnaryOp .Not a pos) (EV ta):=by
 intro OU s d H Q I h;calc UnaryOp_<|thn (f OU s d H _ I h) λv j (x,i,g,e,b,)=>?_;let(c,rfl,b):=b;cases e;calc not_of<|LG (.bl<|!c,i,g,Z,b,)
def  tIf(t:TT)(ta tb:TE):TE:=λa H Q=>t a H λc b=>if c=OR then ta a b Q else tb a b Q
def iq{c:Lu}(k:PT X c tA)(m:PE X a ta)(l:PE X b tb):PE X (.IfExp c a b pos) (tIf tA ta tb):=by
 intro OU s e H Q I h;calc wpAny_IfExp<|thn (k OU s e H _ I h) λd f (j,i,g,)=>?_;cases d with
 |true=>exact m OU f e j Q i g
 |false=>calc l OU f e j Q i g
end
def  SqL(K:RD)(H:Hp)(a:La)(xs:O4 V):Prop :=
 Rd H a (.lst xs) \/
  ∃(o:Obj)(b:Array K5)(n:Nat),K.lookup a=OP o/\o.cls=.type "list" /\ o.dict=OQ/\o.data=.seq b n/\b.size<=Lc/\Vals xs b.toList
def  SqT(K:RD)(H:Hp)(a:La)(xs:O4 V):Prop :=
 Rd H a (.tup xs) \/
  ∃(o:Obj)(b:Array K5)(n:Nat),K.lookup a=OP o/\o.cls=.type "tuple" /\ o.data=.seq b n/\b.size<=Lc/\Vals xs b.toList
def  G0:K5->Option V
 | .none=>OP .non
 | .bool b=>OP<|.bl b
 | .int i _=>OP<|.int i
 | .str x _=>OP<|.str x
 | .bytes b _=>OP<|.byt b
 | .float b _=>OP<|.flt b
 | .ref a=>↑a
 | .type n=>OP<|.ty n
 |_=>OQ
def RelV.abs{x:V}{u:K5}(r:RelV x u):G0 u=OP x:=by
 cases x with
 |non=>cases r;rfl
 |bl _=>cases r;rfl
 |int _=>obtain⟨t,rfl⟩:=r;rfl
 |str _=>obtain⟨t,rfl⟩:=r;rfl
 |byt _=>obtain⟨t,rfl⟩:=r;rfl
 |flt _=>obtain⟨t,rfl⟩:=r;rfl
 |ref _=>cases r;rfl
 |ty _=>cases r;rfl
def RelV.inj{x y:V}{u:K5}(r:RelV x u)(q:RelV y u):x=y:=bm<|r.abs.symm.trans q.abs
def Vals.inj:∀{xs ys:O4 V}{us:O4 K5},Vals xs us->Vals ys us->xs=ys
 |_,_,_,.nil,.nil=>rfl
 |_,_,_,.cons r t,.cons r' t'=>by rw[r.inj r',Vals.inj t t']
variable{σ:St}
section
variable{xs ys:O4 V}
def SqL.of{K:RD}(h:H a=OP (.lst xs)):SqL K H a xs:=.inl<|.inl h
def SqT.of{K:RD}(h:H a=OP (.tup xs)):SqT K H a xs:=.inl<|.inl h
def Inv.list(I:Inv X OU σ H s)(h:SqL X.K H a xs):∃b:O4 K5,Vals xs b/\PlainL s.heap a b.toArray/\⇑xs<=Lc:=by
 rcases h with h|⟨o,b,n,d,g,f,c,i,r⟩
 .let(z,b,n,r,e):=h.ok I.hok;exact(b,r,(_,n,e,Z,Z,Z,),z,)
 .refine(b.toList,r,(o,n,I.kIn a o d,g,f,~~~c,),?_,);let e:=⇑r;simp only[Ht]at e;lia
def Inv.tuple(I:Inv X OU σ H s)(h:SqT X.K H a xs):∃b:O4 K5,Vals xs b/\IsTup s.heap a b.toArray/\⇑xs<=Lc:=by
 rcases h with h|⟨o,b,n,d,f,c,g,r⟩
 .let(z,b,r,p):=h.ok I.hok;exact(b,r,p,z,)
 .refine(b.toList,r,(o,I.kIn a o d,f,n,~~~c,),?_,);let e:=⇑r;simp only[Ht]at e;lia
def Inv.list_inj(I:Inv X OU σ H s)(h:SqL X.K H a xs)(h':SqL X.K H a ys):xs=ys:=by
 let(c,r,(o,n,e,_,_,d),_):=I.list h;let(b,i,(k,l,f,_,_,g),_):=I.list h';rw[e]at f;cases f;rw[d]at g;injection g with j _;let:c=b:= ~~~O2 QI j
 subst this;calc r.inj i
def Inv.tuple_inj(I:Inv X OU σ H s)(h:SqT X.K H a xs)(h':SqT X.K H a ys):xs=ys:=by
 let(c,r,(o,e,_,n,d),_):=I.tuple h;let(b,i,(k,f,_,l,g),_):=I.tuple h';rw[e]at f;cases f;rw[d]at g;injection g with j _;let:c=b:= ~~~O2 QI j
 subst this;calc r.inj i
end
open SqT renaming of→Rn
open SqL renaming of→Rm
abbrev Cx.wish(X:Cx)(E:K5->Lm->Prop):Cx:={ X with xe:=E }
abbrev Cx.nox(X:Cx):Cx:=X.wish λ_ _=>False
open Cx renaming wish→Ro,nox→Rp
def Cx.Ok.wish{X:Cx}(ok:X.Ok)(E:K5->Lm->Prop):(X.wish E).Ok :=
 (ok.mod,ok.kind,ok.glob,ok.blt,ok.above,ok.inj,ok.has,ok.cab,ok.hd,ok.frames,ok.stk,ok.exf,ok.bs,ok.bsz,ok.noex,ok.exfs,ok.funs,ok.frf,)
def Cx.Ok.unwish{X:Cx}{E:K5->Lm->Prop}(ok:(X.wish E).Ok):X.Ok :=
 (ok.mod,ok.kind,ok.glob,ok.blt,ok.above,ok.inj,ok.has,ok.cab,ok.hd,ok.frames,ok.stk,ok.exf,ok.bs,ok.bsz,ok.noex,ok.exfs,ok.funs,ok.frf,)
variable{E:K5->Lm->Prop}
def Inv.wish(I:Inv X OU σ H s)(E:K5->Lm->Prop):Inv (X.wish E) OU σ H s:=(I.ok.wish E,I.os,I.bare,I.base,I.loc,I.cell,I.free,I.freeC,I.pin,I.hok,I.len,)
def Inv.unwish(I:Inv (X.wish E) OU σ H s):Inv X OU σ H s:=(I.ok.unwish,I.os,I.bare,I.base,I.loc,I.cell,I.free,I.freeC,I.pin,I.hok,I.len,)
def SP.unwish{D:Ends}{f:Flow}{s':Lm}(h:SP (X.wish E) OU D f s'):SP X OU D f s':=by
 cases f with
 |next=>obtain⟨a,H',I,q⟩:=h;exact(a,H',I.unwish,q,)
 |brk=>obtain⟨a,H',I,q⟩:=h;exact(a,H',I.unwish,q,)
 |cont=>obtain⟨a,H',I,q⟩:=h;exact(a,H',I.unwish,q,)
 |ret u=>obtain⟨v,a,H',I,r,q⟩:=h;calc(v,a,H',I.unwish,r,q,)
def PE.nox{e:Lu}{t:TE}(h:PE X.nox e t):PE X e t:=λOU s σ H Q I a =>
 LA (h OU s σ H Q (I.wish _) a) (λ_ _ (v,H',b,r,q,)=>(v,H',b.unwish,r,q,)) λ_ _ z=>kw z
def PSs.nox{st:O4 Lz}{t:TS}(h:PSs X.nox st t):PSs X st t:=λOU s σ H D I a =>
 LA (h OU s σ H D (I.wish _) a) (λ_ _ q=>q.unwish) λ_ _ z=>kw z
variable{e:Lu}{te:TE}
section
variable{st:Lz}{rest:O4 Lz}{t u:TS}
def  EW:TS:=λD σ H=>D.nx σ H
def  bh(t u:TS):TS:=λD σ H=>t { D with nx:=u D } σ H
def aN:PSs X [] EW:=λ_ _ σ H _ I h=>LH (σ,H,I,h,)
def aq(d:PS X st t)(c:PSs X rest u):PSs X (st :: rest) (bh t u):=by
 intro OU s σ H D I h;calc LI<|thn (d OU s σ H { D with nx:=u D } I h) λf b q=>?_;cases f with
 |next =>
  let(a,H',e,q):=q;exact c OU b a H' D e q
 |ret v=>exact q
 |brk=>exact q
 |cont=>calc q
def aj(a:PS X st t):PSs X [st] t:=by
 intro OU s σ H D I h;calc LI<|thn (a OU s σ H D I h) λf b q=>?_;cases f with
 |next=>exact LH q
 |ret v=>exact q
 |brk=>exact q
 |cont=>calc q
def Inv.quiet{OU:O4 (La×Obj)}{σ:St}{H:Hp}{s:Lm}(I:Inv X OU σ H s):interactive X.env=false:=by simp[interactive,I.ok.kind]
def  EY(te:TE):TS:=λD σ H=>te σ H λ_ a=>D.nx σ a
def aV(c:PE X e te)(b:LJ e OQ pos.line X.env=pure false:=by rfl):PS X (.Expr e pos) (EY te):=by
 intro OU s σ H D I h;calc wpAny_Expr_any (thn (c OU s σ H _ I h) λv g (x,f,d,i,a,)=>(σ,f,d,a,)) I.quiet b
def  G1(te:TE):TS:=λD σ H=>te σ H D.rt
def aE(c:PE X e te):PS X (.Return (OP e) pos) (G1 te):=by
 intro OU s σ H D I h;calc wpAny_Return_some<|thn (c OU s σ H _ I h) λv g (x,f,d,a,b,)=>(x,σ,f,d,a,b,)
def  G2(c:TT)(t u:TS):TS:=λD σ H=>c σ H λb a=>if b=OR then t D σ a else u D σ a
def aX{c:Lu}{a b:O4 Lz}{e:TT}(k:PT X c e)(m:PSs X a t)(l:PSs X b u):PS X (.If c a b pos) (G2 e t u):=by
 intro OU s σ H D I h;calc wpAny_If<|thn (k OU s σ H _ I h) λd f (j,i,g,)=>?_;cases d with
 |true=>exact m OU f σ j D i g
 |false=>calc l OU f σ j D i g
def  Di:TS:=λ_ _ _=>False
def bR:PS X st Di:=λ_ _ _ _ _ _ h=>h.elim
end
abbrev TG:=V->St->Hp->(Rq)->Prop
abbrev TGs:=O4 V->St->Hp->(Rq)->Prop
def  PG(X:Cx)(a:Lu)(t:TG):Prop :=
 ∀(OU:O4 (La×Obj))(s:Lm)(σ:St)(H:Hp)(v:V)(u:K5)(Q:Rq),Inv X OU σ H s->RelV v u->t v σ H Q ->
  Lq (model X.prog X.w) X.A (assign a X.env u) (λ_ c=>∃b H',Inv X OU b H' c/\Q b H') X.xe s
def  PGs(X:Cx)(ts:O4 Lu)(t:TGs):Prop :=
 ∀(OU:O4 (La×Obj))(s:Lm)(σ:St)(H:Hp)(b:O4 V)(c:O4 K5)(Q:Rq),Inv X OU σ H s->Vals b c->t b σ H Q ->
  Lq (model X.prog X.w) X.A (assignInOrder ((LK ts X.env).map (·.2)) c) (λ_ d=>∃a H',Inv X OU a H' d/\Q a H') X.xe s
abbrev Dj:=V->V->V->Hp->(Rr)->Prop
def  EZ(X:Cx)(t:Dj):Prop :=
 ∀(OU:O4 (La×Obj))(s:Lm)(σ:St)(H:Hp)(o i v:V)(a b u:K5)(Q:Rr),Inv X OU σ H s->RelV o a->RelV i b->RelV v u->t o i v H Q ->
  Lq (model X.prog X.w) X.A (LL a b u) (λ_ c=>∃H',Inv X OU σ H' c/\Q H') X.xe s
abbrev TIp:=V->V->Hp->VK->Prop
def  PIp(X:Cx)(op:LM)(t:TIp):Prop :=
 ∀(OU:O4 (La×Obj))(s:Lm)(σ:St)(H:Hp)(x y:V)(v u:K5)(Q:VK),Inv X OU σ H s->RelV x v->RelV y u->t x y H Q ->
  Lq (model X.prog X.w) X.A (inplaceOp op v u) (EP X OU σ Q) X.xe s
def  pK(i:Nat):TG:=λv σ H Q=>Q (σ.set i<|OP v) H
def aC{i:Nat}{x:Str}(c:X.N.Nodup)(hi:X.N[i]?=OP x)(a:Loc X.env.scope x)(b:X.fn x=OR\/X.env.scope.names.lookup x=OP .local:=by first|exact .inl Z|exact .inr Z|assumption):PG X (.Name x pos) (pK i):=by
 intro OU s σ H v u Q I r h;calc LN<|mW I c hi a r (λe d=>(_,H,d,h,)) b
def  G3:TGs:=λa σ H Q=>a=[]/\Q σ H
def  E1(t:TG)(u:TGs):TGs:=λb σ H Q=>∃v r,b=v :: r/\t v σ H λa H'=>u r a H' Q
def bF:PGs X [] G3:=by
 intro OU s σ H a b Q I r h;let(e,h):=h;subst e;cases r;calc assignInOrder_nil (σ,H,I,h,)
def aI{e:Lu}{a:O4 Lu}{t:TG}{u:TGs}(j:PG X e t)(i:PGs X a u)
  (g:(LK (e :: a) X.env).map (·.2)=assign e X.env :: (LK a X.env).map (·.2):=by rfl):PGs X (e :: a) (E1 t u):=by
 intro OU s σ H n p Q I r h;let(v,o,k,h):=h;subst k;cases r with
 |cons r d =>
  rw[g];calc assignInOrder_cons<|thn (j OU s σ H _ _ _ I r h) λ_ c (b,m,l,f,)=>?_;calc i OU c b m _ _ Q l d f
def  Dk(K:RD)(n:Nat)(t:TGs):TG:=λv σ H Q=>∃a b,v=.ref a/\SqT K H a b/\⇑b=n/\t b σ H Q
def eK{c:O4 Lu}{k:Nat}{t:TGs}{n:Nat}(w:X.calm=OR)(h:PGs X c t)
  (p:⇑(LK c X.env)=n:=by rfl)(f:(LK c X.env).findIdx? (·.1)=none:=by rfl):PG X (.Tuple c k pos) (Dk X.K n t):=by
 intro OU s σ H v u Q I r d;let(a,i,x,m,q,d):=d;subst x;cases r;let(z,g,l,A):=I.tuple m;refine assign_Tuple_tuple (I.ok.hd w) l (by simp[p,←q,⇑g]) f λh' j=>?_
 let y:Inv X OU σ H { s with heap:=h' }:=I.kept (t':=s.toks) λb o e=>j b o (Bo<|al e) e
 calc h OU _ σ H i _ Q y (~~~g) d
def  G4(to ti:TE)(t:Dj):TG:=λv σ H Q=>to σ H λo c=>ti σ c λi b=>t o i v b λa=>Q σ a
def qM{o i:Lu}{to ti:TE}{t:Dj}(l:PE X o to)(hi:PE X i ti)(k:EZ X t)
  (m:∀v,assign (.Subscript o i pos) X.env v=(do
   let a ←holding [v] (eval o X.env)
   let b ←holding [v,a] (eval i X.env)
   LF pos
   holding [v,a,b] (LL a b v)
   release [v,a,b] []):=by intro _;rfl):PG X (.Subscript o i pos) (G4 to ti t):=by
 intro OU s σ H v u Q I r h;rw[m];calc K1<|K3<|thn (l OU s σ H _ I h) λa c (x,A,q,e,j,)=>?_;calc K1<|K3<|thn (hi OU c σ A _ q j) λb s2 (y,z,p,d,g,)=>?_;calc K1<|LO<|K1<|K3<|thn (k OU s2 σ z x y v a b u _ p e d r g) λ_ B (w,n,f,)=>?_;calc wpAny_release (σ,w,n,f,)
def  Bw(te:TE)(g:TG):TS:=λD σ H=>te σ H λx a=>g x σ a D.nx
def qN{a e:Lu}{te:TE}{g:TG}(k:PE X e te)(j:PG X a g)(i:swapsWithSole [a] e pos.line X.env=pure false:=by rfl)(f:swappedStores [a] e X.env=pure none:=by rfl)
  (l:(LK [a] X.env).map (·.2)=[assign a X.env]:=by rfl):PS X (.Assign [a] e pos) (Bw te g):=by
 intro OU s σ H D I h;calc wpAny_Assign_stores (thn (k OU s σ H _ I h) λv b (x,n,m,c,d,)=>?_) i f;rw[l];calc thn (j OU b σ n x v _ m c d) λ_ s2 q=>q
def aG{i:Nat}{x:Str}{e:Lu}{te:TE}{a:Pos}(k:X.N.Nodup)(hi:X.N[i]?=OP x)(d:Loc X.env.scope x)(j:PE X e te)(f:LJ e (OP<|.Name x a) pos.line X.env=pure false:=by rfl)(g:X.fn x=OR\/X.env.scope.names.lookup x=OP .local:=by first|exact .inl Z|exact .inr Z|assumption) :
  PS X (.Assign [.Name x a] e pos) (Bw te<|pK i):=by
 intro OU s σ H D I h;calc wpAny_Assign_Name (thn (j OU s σ H _ I h) λv o (y,n,m,b,c,)=>?_) f;calc mW m k hi d b (λs2 l=>(_,n,l,c,)) g
inductive E2(i:Nat)(te:TE)(ti:TIp)(D:Ends)(σ:St)(H:Hp):Prop
 |mk (x:_)(_:σ[i]?=OP (OP x))(_:te σ H λy H1=>ti x y H1 λz H2=>D.nx (σ.set i<|OP z) H2)
def uY{i:Nat}{x:Str}{e:Lu}{te:TE}{op:LM}{ti:TIp}{f:Pos}(O:X.N.Nodup)(hi:X.N[i]?=OP x)(g:Loc X.env.scope x)(L:PE X e te)(E:PIp X op ti)(K:X.fn x=OR\/X.env.scope.names.lookup x=OP .local:=by first|exact .inl Z|exact .inr Z|assumption) :
  PS X (.AugAssign (.Name x f) op e pos) (E2 i te ti):=by
 intro OU s σ H D I h;let(v,P,h):=h;let(m,F,J):=I.loc;let j:Vis X.env.scope x:=by rcases g with k|k;calc .inl k;exact .inr<|.inl k
 let(u,r,l):=J i x v hi P j;calc wpAny_AugAssign_Name ?_;let n:Lq (model X.prog X.w) X.A (eval e X.env) (λw d=>Lq (model X.prog X.w) X.A (inplaceOp op u w) (λr b=>Lq (model X.prog X.w) X.A (Lr X.env x r) (λ_=>SP X OU D .next) X.xe b) X.xe d) X.xe s:=by
  refine thn (L OU s σ H _ I h) λw o (y,V,S,q,B,)=>?_
  refine thn (E OU o σ V v y u w _ S r q B) λz s2 (W,T,R,p,t,)=>?_
  exact mW R O hi g p (λY Q=>(_,T,Q,t,)) K
 rcases l with⟨a,G⟩|⟨a,c,M,C⟩
 .exact LC I.ok.kind a F G n
 .rcases a with a|a
  .exact LD I.ok.kind a M C n
  .rcases g with k|k
   .let:X.env.scope.names.lookup x=OP .free:=a;rw[k]at this;cases this
   .let:X.env.scope.names.lookup x=OP .free:=a;rw[k]at this;cases this
def  ipI(f:Int->Int->Int):TIp:=λx y H Q=>∃i j,x=.int i/\y=.int j/\Q (.int<|f i j) H
def zx:PIp X .Add (ipI λi j=>i+j):=by
 intro OU s σ H x y v u Q I b a h;let(i,j,d,c,q):=h;subst d;subst c;let(t,rfl):=b;let(e,rfl):=a;calc iadd_int (.int _,H,I.tok _,(_,Z,),q,)
def  Dl(c:TT)(tb:TS):TS:=λD σ H=>∃W:Nat->Rq,(∃m,W m σ H)/\∀m σ H,W m σ H ->
 c σ H λb e=>if b=OR then ∃N:Rq,(∀a H',N a H'->∃d,d<m/\W d a H')/\tb { D with nx:=N,ct:=N,bk:=D.nx } σ e else D.nx σ e
def sR{c:Lu}{body:O4 Lz}{q:TT}{tb:TS}(r:LP (model X.prog X.w) X.A X.env X.xe)(G:PT X c q)(J:PSs X body tb):PS X (.While c body [] pos) (Dl q tb):=by
 intro OU s σ H D I h;let(W,(F,B),i):=h;calc wpAny_While<|codeAny_whileLoop (λn E=>∃g H',Inv X OU g H' E/\W n g H') ?_ F (σ,H,I,B,);rintro n C ⟨d,y,K,z⟩;calc LQ r<|thn (G OU C d y _ K<|i n d y z) λb s2 (x,u,k,)=>?_;cases b with
 |true =>
  let(N,t,k):=k;rw[OX Z];calc LQ r<|thn (J OU s2 d x _ u k) λf L j=>?_;cases f with
  |next =>
   let(a,e,p,l):=j;let(m,o,w3):=t a e l;exact(m,o,a,e,p,w3,)
  |cont =>
   let(a,e,p,l):=j;let(m,o,w3):=t a e l;exact(m,o,a,e,p,w3,)
  |brk=>exact j
  |ret v=>exact j
 |false =>
  rw[OW bi];calc LH (d,x,u,k,)
structure It where
 go:Nat->Rr
 yld:Nat->Hp->V->Rr
 stop:Nat->Rr
def  ir(X:Cx)(OU:O4 (La×Obj))(H:Hp)(b:La):Prop :=
 H b=OQ/\b≠X.env.locals/\b ∉ X.fs/\(b∈X.ex\/X.s₀.heap.objs.size<=b)/\(∀x c,X.env.cells.lookup x=OP c->c≠b)/\∀p∈X.pn++OU,p.1≠b
def Inv.fpOk{X:Cx}{OU:O4 (La×Obj)}{σ:St}{H H':Hp}{s:Lm}{b:La}(I:Inv X OU σ H s)(a:↥s<=b)(f:H' b=OQ):ir X OU H' b:=by
 refine(f,CD<|BS I.lt a,I.nofs a,.inr<|BK I.sz a,λx c e z=>?_,λp d z=>?_,)
 .let(v,q):=I.cell x c e;exact OY (BS q.lt (by rw[z];exact a)) (DE _)
 .exact OY (BS (al (I.pin p d).1) (by rw[z];exact a)) (DE _)
structure Turn(P:K7)(w:K6)(K:RD)(tg:Lu)(J:It)(fp:O4 La)(it:La)(tn:Nat->Lb->Prop):Prop where
 mem:it∈fp
 obj:∀i h,tn i h->∀b∈fp,∃o,h.get? b=OP o/\∀v,o.data≠.cell v
 keep:∀i h h',tn i h->(∀b∈fp,∀o,h.get? b=OP o->h'.get? b=OP o)->tn i h'
 item:∀(X:Cx),X.prog=P->X.w=w->X.K=K->X.calm=OR->∀(i:Nat)(OU:O4 (La×Obj))(s:Lm)(σ:St)(H:Hp)(E:K5->Lm->Prop),Inv X OU σ H s->(∀b∈fp,ir X OU H b)->tn i s.heap->J.go i H ->
  Lq (model P w) X.A (LR<|.ref it) (λr s1=>∃u,r=OP u /\
   Lq (model P w) X.A (LS tg (.ref it) u) (λ_ s2=>∃x H',Inv X OU σ H' s2/\RelV x u/\J.yld i H x H'/\tn (i+1) s2.heap/\∀b∈fp,H' b=OQ) E s1) E s
 done:∀(X:Cx),X.prog=P->X.w=w->X.K=K->X.calm=OR->∀(i:Nat)(OU:O4 (La×Obj))(s:Lm)(σ:St)(H:Hp)(E:K5->Lm->Prop),Inv X OU σ H s->(∀b∈fp,ir X OU H b)->tn i s.heap->J.stop i H ->
  Lq (model P w) X.A (LR<|.ref it) (λr s1=>r=OQ/\Inv X OU σ H s1) E s
 self:∀(A:Ll)(i:Nat)(s:Lm)(Q:K5->Lm->Prop)(E:K5->Lm->Prop),tn i s.heap->Q (.ref it) s->Lq (model P w) A (LU<|.ref it) Q E s
abbrev TI:=St->Hp->(It->Rr)->Prop
def  PIE(X:Cx)(OU:O4 (La×Obj))(σ:St)(e:Lu)(R:It->Rr)(a:K5)(s2:Lm):Prop :=
 ∃(it:La)(d:O4 La)(c:Nat->Lb->Prop)(J:It)(H':Hp),a=.ref it/\Inv X OU σ H' s2/\Turn X.prog X.w X.K e J d it c/\c 0 s2.heap/\(∀b∈d,ir X OU H' b)/\R J H'
def  PI(X:Cx)(c a:Lu)(b:TI):Prop :=
 ∀(OU:O4 (La×Obj))(s:Lm)(σ:St)(H:Hp)(R:It->Rr),Inv X OU σ H s->b σ H R ->
  Lq (model X.prog X.w) X.A (eval a X.env) (λv d=>Lq (model X.prog X.w) X.A (LU v) (PIE X OU σ c R) X.xe d) X.xe s
def pL{M:Lp}{A:Ll}{E:K5->Lm->Prop}{s:Lm}{b:Lu}{it:La}{u:K5}{o:Obj}{n:String}{vs:Array K5}{Q:Unit->Lm->Prop}(c:s.heap.get? it=OP o)(f:o.cls=.type n)(e:o.data=.fields vs)
  (d:["enumerate","zip","dict_itemiterator","dict_reverseitemiterator","odict_iterator","itertools.zip_longest","itertools.pairwise"].contains n=OS) (a:Q () s):Lq M A (LS b (.ref it) u) Q E s:=by
 unfold LS
 cases b <;> first
  |exact K2 a
  |(cases u <;> first
    |exact K2 a
    |(calc K1 (wpAny_load c ?_);rw[f,e];show Lq M A (if (["enumerate","zip","dict_itemiterator","dict_reverseitemiterator","odict_iterator","itertools.zip_longest","itertools.pairwise"].contains n && vs[0]? == OP (LV _))=OR then _ else _) Q E s;rw[OW (by intro h;rw[d,Ix]at h;cases h)];exact K2 a))
def  Itl(K:RD)(a:La):It :=
 (λi H=>∃b x,SqL K H a b/\b[i]?=OP x,λi H x H'=>H'=H/\∀b,SqL K H a b->b[i]?=OP x,λi H=>∃b,SqL K H a b/\⇑b<=i,)
def  Itt(K:RD)(a:La):It :=
 (λi H=>∃b x,SqT K H a b/\b[i]?=OP x,λi H x H'=>H'=H/\∀b,SqT K H a b->b[i]?=OP x,λi H=>∃b,SqT K H a b/\⇑b<=i,)
def  Itr(lo:Int)(n:Nat):It:=(λi _=>i<n,λi H x H'=>H'=H/\x=.int (lo+i),λi _=>n<=i,)
def xQ{P:K7}{w:K6}{K:RD}{N:Lu}(a it:La):Turn P w K N (Itl K a) [it] it (λi h=>h.IsListIter it a i) where
 mem:=by simp
 obj:=λi h f b g=>by
  let e:b=it:= ~~~g
  subst e;let(o,e,c,d):=f;exact⟨o,e,λv z=>by rw[d]at z;cases z⟩
 keep:=λi h h' f k=>f.at λo e=>k it (by simp) o e
 item:=by
  intro X y r A L i OU s σ H E I m f t;subst y r A;let(M,x,l,q):=t;let(J,n,p,R):=I.list l;let(u,T,Q):=n.get q;let(G,F,V,D,C,B):=m it (by simp);refine LW f p.isList (x:=u) (~~~T) λh' j O=>?_
  let I1:Inv X OU σ H { s with heap:=h' }:=I.turned (t':=s.toks) (λb o g e=>(O.2 b g).trans e) G F D C B;let(o,e,c,d):=id j;exact(u,Z,pL (s:={ s with heap:=h' }) e c d ⋯ (x,H,I1,Q,(Z,λys S=>by rw[I.list_inj S l];exact q,),j,λb g=>(m b g).1,),)
 done:=by
  intro X y r A L i OU s σ H E I m f t;subst y r A;let(M,l,q):=t;let(J,n,p,R):=I.list l;let(G,F,V,D,C,B):=m it (by simp);let hl:=⇑n;exact LX (I.ok.hd L) f p.isList (by simp;lia) λh' Y=>(Z,I.turned (t':=s.toks) (λb o g e=>Y b o g e) G F D C B,)
 self:=λ_ _ _ _ _ f h=>wpAny_pyIter_listiter f h
def uZ{P:K7}{w:K6}{K:RD}{N:Lu}(a it:La):Turn P w K N (Itt K a) [it] it (λi h=>h.IsTupleIter it a i) where
 mem:=by simp
 obj:=λi h f b g=>by
  let e:b=it:= ~~~g
  subst e;let(o,e,c,d):=f;exact⟨o,e,λv z=>by rw[d]at z;cases z⟩
 keep:=λi h h' f k=>f.at λo e=>k it (by simp) o e
 item:=by
  intro X A t B L i OU s σ H E I n f y;subst A t B;let(M,x,m,r):=y;let(j,q,p,R):=I.tuple m;let(u,T,Q):=q.get r;let(J,G,V,F,D,C):=n it (by simp);refine wpAny_pyNext_tuple_item f (show s.heap.IsTuple a j.toArray from p) (x:=u) (~~~T) λh' l O=>?_
  let I1:Inv X OU σ H { s with heap:=h' }:=I.turned (t':=s.toks) (λb o g e=>(O.2 b g).trans e) J G F D C;let(o,e,c,d):=id l;exact(u,Z,pL (s:={ s with heap:=h' }) e c d ⋯ (x,H,I1,Q,(Z,λys S=>by rw[I.tuple_inj S m];exact r,),l,λb g=>(n b g).1,),)
 done:=by
  intro X A t B L i OU s σ H E I n f y;subst A t B;let(M,m,r):=y;let(j,q,p,R):=I.tuple m;let(J,G,V,F,D,C):=n it (by simp);let hl:=⇑q;exact wpAny_pyNext_tuple_end (I.ok.hd L) f (show s.heap.IsTuple a j.toArray from p) (by simp;lia) λh' Y=>(Z,I.turned (t':=s.toks) (λb o g e=>Y b o g e) J G F D C,)
 self:=λ_ _ _ _ _ f h=>wpAny_pyIter_tupleiter f h
def u6{P:K7}{w:K6}{K:RD}{C:Lu}(it:La)(lo:Int)(n:Nat):Turn P w K C (Itr lo n) [it] it (λi h=>IsRangeIter h it (lo+(i:Nat)*1) ((n:Int)-(i:Nat)) 1) where
 mem:=by simp
 obj:=λi h a b c=>by
  let e:b=it:= ~~~c
  subst e;exact⟨_,a,λv z=>by
   let B:Data.fields _=Data.cell v:=z;cases B⟩
 keep:=λi h h' a k=>k it (by simp) _ a
 item:=by
  intro X m g p l i OU s σ H E I f a j;subst m g p;let(y,x,G,u,r,q):=f it (by simp);let W:=LY.range (prog:=X.prog) (w:=X.w) (I.ok.hd l) it lo 1 n;refine W.item i s _ _ j a λv h' A F d D=>?_
  let(t,rfl):=F;let L:Inv X OU σ H { s with heap:=h',toks:=A }:=I.turned (λb o c e=>D b o (~~~c) e) y x u r q;calc(_,Z,pL (s:={ s with heap:=h',toks:=A }) (n := "range_iterator") d Z Z ⋯ (.int<|lo+i,H,L,(t,?_,),(Z,Z,),d,λb c=>(f b c).1,),);rw[Int.mul_one]
 done:=by
  intro X m g p l i OU s σ H E I f a j;subst m g p;let(y,x,G,u,r,q):=f it (by simp);exact wpAny_pyNext_range_end (I.ok.hd l) a (by have:n<=i:=j;lia) λh' J=>(Z,I.turned (t':=s.toks) (λb o c e=>J b o c e) y x u r q,)
 self:=λ_ _ _ _ _ a h=>wpAny_pyIter_rangeiter a h
section
variable{tg:Lu}
inductive zy(K:RD)(R:It->Rr)(x:V)(H1:Hp):Prop
 |mk (a:_)(_:x=.ref a)(_:(∃xs,SqL K H1 a xs))(_:R (Itl K a) H1)
def  E3(K:RD)(a:TE):TI:=λσ H R=>a σ H λx b=>zy K R x b
inductive CF(K:RD)(R:It->Rr)(x:V)(H1:Hp):Prop
 |mk (a:_)(_:x=.ref a)(_:(∃xs,SqT K H1 a xs))(_:R (Itt K a) H1)
def  G5(K:RD)(a:TE):TI:=λσ H R=>a σ H λx b=>CF K R x b
def aR{l:Lu}{f:TE}(k:PE X l f):PI X tg l (E3 X.K f):=by
 intro OU s σ H R I h;refine thn (k OU s σ H _ I h) λv c (x,n,d,g,i,)=>?_
 let(a,e,(t,j),q):=i;subst e;cases g;let(r,u,p,w):=d.list j;calc LZ p.isList ?_;calc(↥c,[↥c],_,_,n,Z,d.kept (t':=c.toks) λb o e=>ac _ e,xQ a _,(_,am _ Z,Z,Z,),λb m=>?_,q,);let e:b=↥c:= ~~~m
 subst e;calc d.fpOk (Ab _)<|d.hok.fresh<|Ab _
def qO{l:Lu}{g:TE}(m:PE X l g):PI X tg l (G5 X.K g):=by
 intro OU s σ H R I h;refine thn (m OU s σ H _ I h) λv c (x,r,d,i,j,)=>?_
 let(a,e,(t,k),q):=j;subst e;cases i;let(f,u,p,w):=d.tuple k;refine wpAny_pyIter_tuple (show c.heap.IsTuple a f.toArray from p) ?_;calc(↥c,[↥c],_,_,r,Z,d.kept (t':=c.toks) λb o e=>ac _ e,uZ a _,(_,am _ Z,Z,Z,),λb n=>?_,q,);let e:b=↥c:= ~~~n
 subst e;calc d.fpOk (Ab _)<|d.hok.fresh<|Ab _
def sS{OU:O4 (La×Obj)}{σ:St}{H:Hp}{s:Lm}{R:It->Rr}{E:K5->Lm->Prop}{lo hi:Int}{t u v:Tok}{a:Nat}(I:Inv X OU σ H s)(i : -(2^62)<=lo)(h:lo<2^62)(g : -(2^62)<=hi)(f:hi<2^62)
  (q:R (Itr lo (hi-lo).toNat) H):Lq (model X.prog X.w) X.A (LU<|.ref ↥s) (PIE X OU σ tg R) E { s with heap:=s.heap.push { cls:=.type "range",data:=.fields #[.int lo t,.int hi u,.int 1 v] },toks:=a }:=by
 calc wpAny_pyIter_range (IsRange.new ..) (small_one i h g f) ?_;let c:Inv X OU σ H { s with heap:=s.heap.push { cls:=.type "range",data:=.fields #[.int lo t,.int hi u,.int 1 v] },toks:=a }:=I.kept λb o e=>ac _ e
 refine((s.heap.push { cls:=.type "range",data:=.fields #[.int lo t,.int hi u,.int 1 v] }).objs.size,[(s.heap.push { cls:=.type "range",data:=.fields #[.int lo t,.int hi u,.int 1 v] }).objs.size],_,_,H,Z,
  c.kept (t':=a) λb o e=>ac _ e,u6 _ lo (hi-lo).toNat,?_,λb d=>?_,q,)
 .let k:lo+((0:Nat):Int)*1=lo:=by simp
  let j:(((hi-lo).toNat:Nat):Int)-((0:Nat):Int)=L0.Range.rangeSize lo hi 1:=by rw[rangeSize_one];split <;> lia
  show IsRangeIter _ _ (lo+((0:Nat):Int)*1) ((((hi-lo).toNat:Nat):Int)-((0:Nat):Int)) 1;rw[k,j];exact am _ Z
 .let e:b=(s.heap.push { cls:=.type "range",data:=.fields #[.int lo t,.int hi u,.int 1 v] }).objs.size:= ~~~d
  subst e;calc c.fpOk (Ab _)<|c.hok.fresh<|Ab _
inductive zA  (R:It->Rr)(vs:O4 V)(H1:Hp):Prop
 |mk (j:Int)(_:vs=[.int j])(_ : -(2^62)<=j)(_:j<2^62)(_:R (Itr 0 j.toNat) H1):zA R vs H1
def  E4(ta:TA):TI:=λσ H R=>ta σ H λa b=>zA R a b
inductive zB  (R:It->Rr)(vs:O4 V)(H1:Hp):Prop
 |mk (i j:Int)(_:vs=[.int i,.int j])(_:(-(2^62)<=i/\i<2^62/\-(2^62)<=j/\j<2^62))(_:R (Itr i (j-i).toNat) H1):zB R vs H1
def  E5(ta:TA):TI:=λσ H R=>ta σ H λa b=>zB R a b
def bB{a:Lu}{ta:TA}{p pos:Pos}(i:Gl X "range") (hm:X.mg "range" = OQ) (k:PA X [a] ta)(g:Ly [a] X.env=[(OS,eval a X.env)]:=by rfl):PI X tg (.Call (.Name "range" p) [a] [] pos) (E4 ta):=by
 intro OU s σ H R I h;calc Call_<|fM I i hm boot_range<|RS (thn (k pos OU s σ H _ I h) λn o (m,u,l,d,b,)=>?_) g Z;let(j,e,b,f,q):=b;subst e;cases d with
 |cons r c =>
  cases c;let(t,rfl):=r;calc call_range_1<|sS l ∅ ∅ b f (~~~q)
def xR{a b:Lu}{ta:TA}{p pos:Pos}(u:Gl X "range") (hm:X.mg "range" = OQ) (v:PA X [a,b] ta)(o:Ly [a,b] X.env=[(OS,eval a X.env),(OS,eval b X.env)]:=by rfl)(c:Ly [b] X.env=[(OS,eval b X.env)]:=by rfl) :
  PI X tg (.Call (.Name "range" p) [a,b] [] pos) (E5 ta):=by
 intro OU s σ H R I h;refine Call_ (fM I u hm boot_range<|RS (thn (v pos OU s σ H _ I h) λy A (x,B,w,g,f,)=>?_) (by rw[o,c]) (by rw[c];rfl));let(i,j,e,(f,n,m,l),q):=f;subst e;cases g with
 |cons r d =>
  cases d with
  |cons k d =>
   cases d;let(t,rfl):=r;let(z,rfl):=k;calc call_range_2<|sS w f n m l q
def  G6(d:TI)(g:TG)(tb:TS):TS:=λD σ H=>d σ H λJ f=>∃W:Nat->Nat->Rq,(∃m,W 0 m σ f)/\∀i m σ H,W i m σ H ->
 (J.stop i H/\D.nx σ H)\/(J.go i H/\∃N:Rq,(∀a H',N a H'->∃c,c<m/\W (i+1) c a H')/\∀x H',J.yld i H x H'->g x σ H' λb e=>tb { D with nx:=N,ct:=N,bk:=D.nx } b e)
def  dG(fp:O4 La)(h:Lb):O4 (La×Obj):=fp.filterMap λb=>(h.get? b).map λo=>(b,o)
def dR{fp:O4 La}{h:Lb}{b:La}{o:Obj}(a:b∈fp)(e:h.get? b=OP o):(b,o)∈dG fp h:=Q7.mpr (b,a,by rw[e];rfl,)
def xS{fp:O4 La}{h:Lb}{p:La×Obj}(a:p∈dG fp h):p.1∈fp/\h.get? p.1=OP p.2:=by
 let(b,c,e):=Q7.mp a;cases q:h.get? b with
 |none=>rw[q]at e;cases e
 |some o =>
  rw[q]at e;let d:(b,o)=p:=bm e;subst d;calc(c,q,)
def Inv.pinned{OU:O4 (La×Obj)}{σ:St}{H:Hp}{s:Lm}{fp:O4 La}(I:Inv X OU σ H s)(h:∀b∈fp,ir X OU H b)(g:∀b∈fp,∃o,s.heap.get? b=OP o/\∀v,o.data≠.cell v):Inv X (OU++dG fp s.heap) σ H s :=
 I.pins_of λp f=>(gw.mp f).elim (λz=>I.pin p<|hE _ z) λz=>by
  let(a,e):=xS z;let(k,j,i,_):=h p.1 a;let(o,c,d):=g p.1 a;rw[e]at c;cases c;calc(e,k,j,i,d,)
def Inv.unpinned{OU pl:O4 (La×Obj)}{σ:St}{H:Hp}{s:Lm}(I:Inv X (OU++pl) σ H s):Inv X OU σ H s:=I.pins_of λp a=>I.pin p<|hE _<|jS _ a
def aW{q:Lu}{body:O4 Lz}{Y:TI}{g:TG}{tb:TS}{pos:Pos}(B:LP (model X.prog X.w) X.A X.env X.xe)(hc:X.calm=OR)(hi:PI X tg q Y)(hg:PG X tg g)(c:PSs X body tb)
  (hs:∀x,L1 q X.env x=pure x:=by intro _;rfl):PS X (.For tg q body [] pos) (G6 Y g tb):=by
 intro OU s σ H D I h;calc wpAny_For (thn (hi OU s σ H _ I h) λv s1 h1=>thn h1 λa0 s2 h2=>?_) hs;let(it,C,tn,J,H2,e,I2,T,R,f2,W,(m0,w0),G):=h2;subst e;let P:∀{H':Hp},(∀b∈C,H' b=OQ)->∀b∈C,ir X OU H' b:=λhn b c=>(hn b c,(f2 b c).2,)
 calc codeAny_forLoop_any (λn s'=>∃i p H',Inv X OU p H' s'/\tn i s'.heap/\(∀b∈C,H' b=OQ)/\W i n p H') ?_ m0 (0,σ,H2,I2,R,λb c=>(f2 b c).1,w0,);rintro n s3 ⟨i,l,L,I3,E,F,w3⟩;rcases G i n l L w3 with⟨K,qn⟩|⟨go,N,hN,step⟩
 .refine LQ B<|thn (T.done X Z Z Z hc i OU s3 l L X.xe I3 (P F) E K) λr s4 (O,I4,)=>?_;subst O;exact LH (l,L,I4,qn,)
 .refine LQ B<|thn (T.item X Z Z Z hc i OU s3 l L X.xe I3 (P F) E go) λr s4 (u,O,h4,)=>?_;subst O;calc LQ B<|thn h4 λ_ s5 (x,H5,I5,r5,y5,y,S,)=>?_;let V:=I5.pinned (P S)<|T.obj _ _ y;calc LQ B<|thn (hg _ s5 l H5 x u _ V r5<|step x H5 y5) λ_ s6 (Q,H6,I6,q6,)=>?_;calc LQ B<|thn (c _ s6 Q H6 _ I6 q6) λf M t=>?_;let again:∀{a:St}{k:Hp},Inv X (OU++dG C s5.heap) a k M->N a k->∃m,m<n/\∃i p H',Inv X OU p H' M/\tn i M.heap/\(∀b∈C,H' b=OQ)/\W i m p H':=λ{a k} j z=>by
   let(m',hm,w7):=hN a k z;calc(m',hm,i+1,a,k,j.unpinned,T.keep _ _ _ y λb c o e=>(j.pin (b,o)<|hE _<|hE _<|dR c e).1,λb c=>?_,w7,);let(o,e,d):=T.obj _ _ y b c;exact(j.pin (b,o)<|hE _<|hE _<|dR c e).2.1
  cases f with
  |next=>obtain⟨a,k,j,z⟩:=t;exact again j z
  |cont=>obtain⟨a,k,j,z⟩:=t;exact again j z
  |brk=>obtain⟨a,k,j,t⟩:=t;exact(a,k,j.unpinned,t,)
  |ret v=>obtain⟨x7,a,k,j,r7,t⟩:=t;calc(x7,a,k,j.unpinned,r7,t,)
end
def aY{K:RD}{a:La}{xs:O4 V}{g:TG}{tb:TS}{D:Ends}{σ:St}{H:Hp}(b:Nat->Rq)(r:b 0 σ H)(n:∀i σ H,i<=⇑xs->b i σ H->SqL K H a xs)
  (l:∀i x σ H,xs[i]?=OP x->b i σ H->g x σ H λc h=>tb { D with nx:=b<|i+1,ct:=b<|i+1,bk:=D.nx } c h)(o:∀σ H,b ⇑xs σ H->D.nx σ H) :
  ∃W:Nat->Nat->Rq,(∃m,W 0 m σ H)/\∀i m σ H,W i m σ H ->
   ((Itl K a).stop i H/\D.nx σ H)\/((Itl K a).go i H/\∃N:Rq,(∀d H',N d H'->∃j,j<m/\W (i+1) j d H')/\∀x H',(Itl K a).yld i H x H'->g x σ H' λc h=>tb { D with nx:=N,ct:=N,bk:=D.nx } c h):=by
 refine(λi m σ H=>m=⇑xs-i/\i<=⇑xs/\b i σ H,(⇑xs,by simp,BG _,r,),?_,);rintro i m σ H ⟨rfl,hi,p⟩;let q:=n i σ H hi p;by_cases f:i<⇑xs
 .refine .inr ((xs,xs[i],q,by simp[f],),b<|i+1,λd H' k=>(⇑xs-(i+1),∅,Z,f,k,),λx H' y=>?_,);let(e,y):=y;subst e;exact l i x σ _ (y xs q) p
 .let e:i=⇑xs:=∅
  subst e;calc .inl ((xs,q,Ab _,),o σ H p,)
def dA{lo:Int}{n:Nat}{g:TG}{tb:TS}{D:Ends}{σ:St}{H:Hp}(a:Nat->Rq)(o:a 0 σ H)
  (k:∀i σ H,i<n->a i σ H->g (.int<|lo+i) σ H λb f=>tb { D with nx:=a<|i+1,ct:=a<|i+1,bk:=D.nx } b f)(l:∀σ H,a n σ H->D.nx σ H) :
  ∃W:Nat->Nat->Rq,(∃m,W 0 m σ H)/\∀i m σ H,W i m σ H ->
   ((Itr lo n).stop i H/\D.nx σ H)\/((Itr lo n).go i H/\∃N:Rq,(∀c H',N c H'->∃h,h<m/\W (i+1) h c H')/\∀x H',(Itr lo n).yld i H x H'->g x σ H' λb f=>tb { D with nx:=N,ct:=N,bk:=D.nx } b f):=by
 refine(λi m σ H=>m=n-i/\i<=n/\a i σ H,(n,by simp,BG _,o,),?_,);rintro i m σ H ⟨rfl,hi,p⟩;by_cases d:i<n
 .refine .inr (d,a<|i+1,λc H' j=>(n-(i+1),∅,Z,d,j,),λx H' y=>?_,);let(e,y):=y;subst e y;exact k i σ _ d p
 .let e:i=n:=∅
  subst e;calc .inl (Ab _,l σ H p,)
abbrev R2:=V->V->Hp->VK->Prop
def  OpR(X:Cx)(f:K5->K5->Sem K5)(r:R2):Prop :=
 ∀(OU:O4 (La×Obj))(s:Lm)(σ:St)(H:Hp)(x y:V)(v u:K5)(Q:VK),Inv X OU σ H s->RelV x v->RelV y u->r x y H Q ->
  Lq (model X.prog X.w) X.A (f v u) (EP X OU σ Q) X.xe s
def  UnR(X:Cx)(f:K5->Sem K5)(r:V->Hp->VK->Prop):Prop :=
 ∀(OU:O4 (La×Obj))(s:Lm)(σ:St)(H:Hp)(x:V)(v:K5)(Q:VK),Inv X OU σ H s->RelV x v->r x H Q ->
  Lq (model X.prog X.w) X.A (f v) (EP X OU σ Q) X.xe s
def  dh(X:Cx)(f:K5)(r:O4 V->Hp->VK->Prop):Prop :=
 ∀(OU:O4 (La×Obj))(s:Lm)(σ:St)(H:Hp)(a:O4 V)(b:O4 K5)(Q:VK),Inv X OU σ H s->Vals a b->r a H Q ->
  Lq (model X.prog X.w) X.A (call f b) (EP X OU σ Q) X.xe s
def  G7(X:Cx)(r:V->Hp->(Bool->Rr)->Prop):Prop :=
 ∀(OU:O4 (La×Obj))(s:Lm)(σ:St)(H:Hp)(x:V)(v:K5)(Q:Bool->Rr),Inv X OU σ H s->RelV x v->r x H Q ->
  Lq (model X.prog X.w) X.A (truthy v) (TP X OU σ Q) X.xe s
def  tOp(r:R2)(ta tb:TE):TE:=λσ H Q=>ta σ H λx b=>tb σ b λy a=>r x y a Q
def  tUn(r:V->Hp->VK->Prop)(ta:TE):TE:=λσ H Q=>ta σ H λx a=>r x a Q
inductive rI(C:Int->Int->Prop)(g:Int->Int->V)(x:V)(y:V)(H:Hp)(Q:VK):Prop
 |mk (i j:_)(_:x=.int i)(_:y=.int j)(_:C i j)(_:Q (g i j) H)
inductive rI0(g:Int->Int->V)(x:V)(y:V)(H:Hp)(Q:VK):Prop
 |mk (i j:_)(_:x=.int i)(_:y=.int j)(_:Q (g i j) H)
inductive rU(g:Int->V)(x:V)(H:Hp)(Q:VK):Prop
 |mk (i:_)(_:x=.int i)(_:Q (g i) H)
section
variable{a b c:Lu}{tc:TE}
def Dp(o:PE X a ta)(n:PE X b tb){OU:O4 (La×Obj)}{s:Lm}{σ:St}{H:Hp}{R:V->V->Rr}(I:Inv X OU σ H s)
  (h:ta σ H λx g=>tb σ g λy c=>R x y c){Q:K5->Lm->Prop}{f:K5->K5->Sem K5}
  (hf:∀v u s2 x y c,Inv X OU σ c s2->RelV x v->RelV y u->R x y c->Lq (model X.prog X.w) X.A (f v u) Q X.xe s2) :
  Lq (model X.prog X.w) X.A (eval a X.env) (λv e=>Lq (model X.prog X.w) X.A (eval b X.env) (λu d=>Lq (model X.prog X.w) X.A (f v u) Q X.xe d) X.xe e) X.xe s:=by
 refine thn (o OU s σ H _ I h) λv i (x,g,q,k,m,)=>?_
 refine thn (n OU i σ g _ q m) λu s2 (y,c,p,j,l,)=>?_
 calc hf v u s2 x y c p k j l
def ay{op:LM}{r:R2}(e:OpR X (L3 op) r)(g:PE X a ta)(f:PE X b tb):PE X (.BinOp a op b pos) (tOp r ta tb):=by
 intro OU s σ H Q I h;calc wpAny_BinOp<|Dp g f I h λv u s2 x y j i d c q=>e OU s2 σ j x y v u Q i d c q
def km{op:UnaryOp}{r:V->Hp->VK->Prop}(e:UnR X (unaryOp op) r)(f:PE X a ta):PE X (.UnaryOp op a pos) (tUn r ta):=by
 intro OU s σ H Q I h;calc UnaryOp_<|thn (f OU s σ H _ I h) λv b (x,i,g,c,d,)=>e OU b σ i x v Q g c d
def opI{f:K5->K5->Sem K5}{C:Int->Int->Prop}{g:Int->Int->Int}
  (rule:∀(i j:Int)(t u:Tok)(s:Lm)(Q:K5->Lm->Prop)(E:K5->Lm->Prop),C i j->Q (.int (g i j) s.toks) { s with toks:=s.toks+1 }->Lq (model X.prog X.w) X.A (f (.int i t)<|.int j u) Q E s) :
  OpR X f (rI C λi j=>.int<|g i j):=by
 intro OU s σ H x y v u Q I c b h;let(i,j,rfl,rfl,d,q):=h;let(t,rfl):=c;let(a,rfl):=b;calc rule i j t a s _ _ d (.int<|g i j,H,I.tok _,(_,Z,),q,)
def Dq{f:K5->K5->Sem K5}{g:Int->Int->Int}
  (rule:∀(i j:Int)(t u:Tok)(s:Lm)(Q:K5->Lm->Prop)(E:K5->Lm->Prop),Q (.int (g i j) s.toks) { s with toks:=s.toks+1 }->Lq (model X.prog X.w) X.A (f (.int i t)<|.int j u) Q E s) :
  OpR X f (rI0 λi j=>.int<|g i j):=by
 intro OU s σ H x y v u Q I c b h;let(i,j,rfl,rfl,q):=h;let(t,rfl):=c;let(a,rfl):=b;calc rule i j t a s _ _ (.int<|g i j,H,I.tok _,(_,Z,),q,)
def Dr{f:K5->K5->Sem K5}{g:Int->Int->Bool}
  (rule:∀(i j:Int)(t u:Tok)(s:Lm)(Q:K5->Lm->Prop)(E:K5->Lm->Prop),Q (.bool<|g i j) s->Lq (model X.prog X.w) X.A (f (.int i t)<|.int j u) Q E s) :
  OpR X f (rI0 λi j=>.bl<|g i j):=by
 intro OU s σ H x y v u Q I c b h;let(i,j,rfl,rfl,q):=h;let(t,rfl):=c;let(a,rfl):=b;calc rule i j t a s _ _ (.bl<|g i j,H,I,Z,q,)
def  E6(i j:Int):Prop:=0<j/\j<1073741824
def  E7(i j:Int):Prop:=0<=j/\j<=1000000/\i.natAbs<2^64
def  zC(i j:Int):Prop:=(-(2^64)<i/\i<2^64)\/(-(2^64)<j/\j<2^64)
def zC.ok{i j:Int}(h:zC i j):L4 i j:=by
 rcases h with⟨b,a⟩|⟨b,a⟩
 .exact .of_left<|L5 b a
 .exact .of_right<|L5 b a
def u9(k:Nat):(0:Int)<=2^k:=by
 rw[two_pow_cast];calc PR _
def bw:OpR X (L3 .Add) (rI0 λi j=>.int<|i+j):=Dq λ_ _ _ _ _ _ _ q=>add_int q
def b7:OpR X (L3 .Sub) (rI0 λi j=>.int<|i-j):=Dq λ_ _ _ _ _ _ _ q=>sub_int q
def lr:OpR X (L3 .Mult) (rI zC λi j=>.int<|i*j):=opI λ_ _ _ _ _ _ _ a q=>mul_int q a.ok
def mO:OpR X (L3 .FloorDiv) (rI E6 λi j=>.int<|i / j):=opI λi j _ _ _ _ _ a q=>by
 let c:(0:Int)<j:=a.1;let b:j<1073741824:=a.2;calc floordiv_int ∅ (by rw[Qu i ∅];exact q) (.inl<|PyProof.noPylong_small ∅)
def bu:OpR X (L3 .Mod) (rI (λ_ j=>0<j) λi j=>.int<|i%j):=opI λi j _ _ _ _ _ a q=>by
 let b:(0:Int)<j:=a;calc mod_int' ∅ (by rw[Int.fmod_eq_emod_of_nonneg i ∅];exact q)
def cB:OpR X (L3 .Pow) (rI E7 λi j=>.int<|i^j.toNat):=opI λ_ _ _ _ _ _ _ a q=>pow_int_small a.1 a.2.1 a.2.2 q
def zD:OpR X (L3 .LShift) (rI E7 λi j=>.int<|i*2^j.toNat):=opI λ_ _ _ _ _ _ _ a q=>lshift_int_small a.1 a.2.1 a.2.2 q
def vc:OpR X (L3 .RShift) (rI (λ_ j=>0<=j) λi j=>.int<|i / 2^j.toNat):=opI λi j _ _ _ _ _ a q =>
 rshift_int a (by rw[Qu i (u9 _)];exact q)
def ve:OpR X (L3 .BitAnd) (rI0 λi j=>.int<|Qd i j):=Dq λ_ _ _ _ _ _ _ q=>and_int q
def unI{f:K5->Sem K5}{g:Int->Int}
  (rule:∀(i:Int)(t:Tok)(s:Lm)(Q:K5->Lm->Prop)(E:K5->Lm->Prop),Q (.int (g i) s.toks) { s with toks:=s.toks+1 }->Lq (model X.prog X.w) X.A (f<|.int i t) Q E s) :
  UnR X f (rU λi=>.int<|g i):=by
 intro OU s σ H x v Q I a h;let(i,rfl,q):=h;let(t,rfl):=a;calc rule i t s _ _ (.int<|g i,H,I.tok _,(_,Z,),q,)
def gB:UnR X (unaryOp .USub) (rU λi=>.int<|-i):=unI λ_ _ _ _ _ q=>neg_int q
end
def  E8:V->V->Bool
 | .non,.non=>OR | .non,.int _=>OR | .int _,.non=>OR | .non,.bl _=>OR | .bl _,.non=>OR | .non,.str _=>OR | .str _,.non=>OR
 | .int _,.int _=>OR | .bl _,.bl _=>OR | .str _,.str _=>OR | .byt _,.byt _=>OR
 | .int _,.str _=>OR | .str _,.int _=>OR | .bl _,.str _=>OR | .str _,.bl _=>OR
 |_,_=>OS
def  rEq:R2:=λx y H Q=>E8 x y=OR/\Q (.bl<|OT<|x=y) H
def  rNe:R2:=λx y H Q=>E8 x y=OR/\Q (.bl<|!OT (x=y)) H
def wL{i j:Int}:decide (RV i=RV j)=(i == j):=by
 rw[re];simp
def zE{i j:Bool}:decide (V.bl i=V.bl j)=(i == j):=by
 rw[re];simp
def wM{i j:Str}:decide (Rk i=Rk j)=(i == j):=by
 rw[re];simp
def wN{i j:Array UInt8}:decide (V.byt i=V.byt j)=(i.toList == j.toList):=by
 rw[re];cases i;cases j;simp
section
variable{a b c:Lu}{tc:TE}
def bo{OU:O4 (La×Obj)}{σ:St}{H:Hp}{s:Lm}{Q:VK}{k a:Bool}(I:Inv X OU σ H s)(q:Q (.bl k) H)(e:k=a):EP X OU σ Q (.bool a) s:=by
 subst e;calc(.bl k,H,I,Z,q,)
def cO:OpR X (L6 .Eq) rEq:=by
 intro OU s σ H x y v u Q I d a h;let(c,q):=h;cases x with
 |non =>
  cases d;cases y with
  |non=>cases a;exact PySem.EqNone.eq_none_none<|bo I q (by simp)
  |bl j=>cases a;exact PySem.EqNone.eq_none_bool<|bo I q (by simp)
  |int j=>obtain⟨b,rfl⟩:=a;exact PySem.EqNone.eq_none_int<|bo I q (by simp)
  |str j=>obtain⟨b,rfl⟩:=a;exact PySem.EqNone.eq_none_str<|bo I q (by simp)
  |_=>exact OY (show OS=OR from c) bi
 |bl i =>
  cases d;cases y with
  |non=>cases a;exact PySem.EqNone.eq_bool_none<|bo I q (by simp)
  |bl j=>cases a;exact eq_bool<|bo I q zE
  |str j=>obtain⟨b,rfl⟩:=a;exact PySem.EqMixed.eq_bool_str<|bo I q (by simp)
  |_=>exact OY (show OS=OR from c) bi
 |int i =>
  let(t,rfl):=d;cases y with
  |non=>cases a;exact PySem.EqNone.eq_int_none<|bo I q (by simp)
  |int j=>obtain⟨b,rfl⟩:=a;exact eq_int<|bo I q wL
  |str j=>obtain⟨b,rfl⟩:=a;exact PySem.EqMixed.eq_int_str<|bo I q (by simp)
  |_=>exact OY (show OS=OR from c) bi
 |str i =>
  let(t,rfl):=d;cases y with
  |non=>cases a;exact PySem.EqNone.eq_str_none<|bo I q (by simp)
  |bl j=>cases a;exact PySem.EqMixed.eq_str_bool<|bo I q (by simp)
  |int j=>obtain⟨b,rfl⟩:=a;exact PySem.EqMixed.eq_str_int<|bo I q (by simp)
  |str j=>obtain⟨b,rfl⟩:=a;exact eq_str<|bo I q wM
  |_=>exact OY (show OS=OR from c) bi
 |byt i =>
  let(t,rfl):=d;cases y with
  |byt j=>obtain⟨b,rfl⟩:=a;exact W.eq_bytes<|bo I q wN
  |_=>exact OY (show OS=OR from c) bi
 |_=>cases y <;> calc OY (show OS=OR from c) bi
def mZ:OpR X (L6 .NotEq) rNe:=by
 intro OU s σ H x y v u Q I d a h;let(c,q):=h;cases x with
 |non =>
  cases d;cases y with
  |non=>cases a;exact PySem.EqNone.ne_none_none<|bo I q (by simp)
  |bl j=>cases a;exact PySem.EqNone.ne_none_bool<|bo I q (by simp)
  |int j=>obtain⟨b,rfl⟩:=a;exact PySem.EqNone.ne_none_int<|bo I q (by simp)
  |str j=>obtain⟨b,rfl⟩:=a;exact PySem.EqNone.ne_none_str<|bo I q (by simp)
  |_=>exact OY (show OS=OR from c) bi
 |bl i =>
  cases d;cases y with
  |non=>cases a;exact PySem.EqNone.ne_bool_none<|bo I q (by simp)
  |bl j=>cases a;exact ne_bool<|bo I q<|O2 not zE
  |str j=>obtain⟨b,rfl⟩:=a;exact PySem.EqMixed.ne_bool_str<|bo I q (by simp)
  |_=>exact OY (show OS=OR from c) bi
 |int i =>
  let(t,rfl):=d;cases y with
  |non=>cases a;exact PySem.EqNone.ne_int_none<|bo I q (by simp)
  |int j=>obtain⟨b,rfl⟩:=a;exact ne_int<|bo I q<|O2 not wL
  |str j=>obtain⟨b,rfl⟩:=a;exact PySem.EqMixed.ne_int_str<|bo I q (by simp)
  |_=>exact OY (show OS=OR from c) bi
 |str i =>
  let(t,rfl):=d;cases y with
  |non=>cases a;exact PySem.EqNone.ne_str_none<|bo I q (by simp)
  |bl j=>cases a;exact PySem.EqMixed.ne_str_bool<|bo I q (by simp)
  |int j=>obtain⟨b,rfl⟩:=a;exact PySem.EqMixed.ne_str_int<|bo I q (by simp)
  |str j=>obtain⟨b,rfl⟩:=a;exact ne_str<|bo I q<|O2 not wM
  |_=>exact OY (show OS=OR from c) bi
 |byt i =>
  let(t,rfl):=d;cases y with
  |byt j=>obtain⟨b,rfl⟩:=a;exact W.ne_bytes<|bo I q<|O2 not wN
  |_=>exact OY (show OS=OR from c) bi
 |_=>cases y <;> calc OY (show OS=OR from c) bi
def iu:OpR X (L6 .Lt) (rI0 λi j=>.bl<|OT<|i<j):=Dr λ_ _ _ _ _ _ _ q=>lt_int q
def eY:OpR X (L6 .LtE) (rI0 λi j=>.bl<|OT<|i<=j):=Dr λ_ _ _ _ _ _ _ q=>le_int q
def mh:OpR X (L6 .Gt) (rI0 λi j=>.bl<|OT<|j<i):=Dr λ_ _ _ _ _ _ _ q=>gt_int q
def Ds:OpR X (L6 .Is) (λx y H Q=>y=.non/\Q (.bl<|OT<|x=.non) H):=by
 intro OU s σ H x y v u Q I a b h;let(rfl,q):=h;cases b;refine is_none_gen<|bo I q ?_
 cases x <;> first
  |(cases a;rfl)
  |(obtain⟨t,rfl⟩:=a;rfl)
def qP:OpR X (L6 .NotIn) (λx y H Q=>∃i j,x=.str i/\y=.str j/\Q (.bl<|!(!(NE j i 0 ⇑j 1).isEmpty)) H):=by
 intro OU s σ H x y v u Q I b a h;let(i,j,rfl,rfl,q):=h;let(t,rfl):=b;let(c,rfl):=a;calc notIn_str<|bo I q Z
def aQ(b:Lu){op:L7}(h:op≠.In:=by decide)(a:op≠.NotIn:=by decide):L8 op b=false:=by
 let d:(op == L7.In)=false:=by cases op <;> first|rfl|exact OY Z h
 let c:(op == L7.NotIn)=false:=by cases op <;> first|rfl|exact OY Z a
 cases b <;> simp[L8,d,c]
def wO{op:L7}{r:R2}(e:OpR X (L6 op) r)(i:PE X a ta)(g:PE X b tb)(f:L8 op b=OS):PE X (.Compare a [op] [b] pos) (tOp r ta tb):=by
 intro OU s σ H Q I h;calc wpAny_Compare1 (Dp i g I h λv u s2 x y k j d c q=>e OU s2 σ k x y v u Q j d c q) f
inductive zF  (Q:Bool->Rr)(x:V)(H':Hp):Prop
 |mk (k:_)(_:x=.bl k)(_:Q k H'):zF Q x H'
def  CG(t:TE):TT:=λσ H Q=>t σ H λx H'=>zF Q x H'
def aL{op:L7}{r:R2}(n:OpR X (L6 op) r)(q:PE X a ta)(p:PE X b tb)(o:L8 op b=OS):PT X (.Compare a [op] [b] pos) (CG<|tOp r ta tb):=by
 intro OU s σ H Q I h;refine wpAny_isTrue_Compare1 (thn (q OU s σ H _ I h) λv d (x,D,A,i,m,)=>thn (p OU d σ D _ A m) λu s2 (y,C,w,g,l,) =>
  thn (n OU s2 σ C x y v u _ w i g l) λc E (z,B,t,f,k,e,j,)=>?_) o
 subst e;cases f;calc LG (B,t,j,)
inductive wQ(r':R2)(tc:TE)(σ:St)(Q:VK)(y:V)(z:V)(H3:Hp):Prop
 |mk (k:_)(_:z=.bl k)(_:(if k=OR then tc σ H3 λw' H4=>r' y w' H4 Q else Q (.bl OS) H3))
def  zG(r a:R2)(ta tb tc:TE):TE:=λσ H Q=>ta σ H λx d=>tb σ d λy c=>r x y c λz b=>wQ a tc σ Q y z b
def m4{op f:L7}{r j:R2}(G:OpR X (L6 op) r)(g:OpR X (L6 f) j)(L:PE X a ta)(K:PE X b tb)(J:PE X c tc)
  (hm:lastMarks [op,f] [b,c]=false:=by with_unfolding_all rfl):PE X (.Compare a [op,f] [b,c] pos) (zG r j ta tb tc):=by
 intro OU s σ H Q I h;refine Compare_chain (thn (L OU s σ H _ I h) λv w (x,S,O,C,F,)=>chain_link (thn (K OU w σ S _ O F) λu s2 (y,R,N,i,E,) =>
  thn (G OU s2 σ R x y v u _ N C i E) λd t (z,n,m,B,k,e,l,)=>?_)) hm
 subst e;cases B;calc LG ?_;cases k with
 |false=>exact ite_ff (.bl OS,n,m,Z,l,)
 |true=>calc ite_tt (chain_last<|thn (J OU t σ n _ m l) λp q (o,P,M,A,D,)=>g OU q σ P y o u p Q M i A D)
def gd{op f:L7}{r j:R2}(L:OpR X (L6 op) r)(g:OpR X (L6 f) j)(O:PE X a ta)(N:PE X b tb)(M:PE X c tc)
  (hm:lastMarks [op,f] [b,c]=false:=by with_unfolding_all rfl):PT X (.Compare a [op,f] [b,c] pos) (CG<|zG r j ta tb tc):=by
 intro OU s σ H Q I h;refine isTrue_chain (thn (O OU s σ H _ I h) λv w (x,H1,W,D,J,)=>test_link (thn (N OU w σ H1 _ W J) λu s2 (y,H2,V,i,G,) =>
  thn (L OU s2 σ H2 x y v u _ V D i G) λd t (z,n,m,C,k,e,l,)=>?_)) hm
 subst e;cases C;calc LG ?_;cases k with
 |false =>
  let(k',R,K):=l;cases R;exact ite_ff (n,m,K,)
 |true =>
  calc ite_tt<|test_last<|thn (M OU t σ n _ m l) λp q (o,Z,T,B,F,)=>thn (g OU q σ Z y o u p _ T i B F) λd' s5 (z2,Y,S,A,k2,P,E,)=>?_;subst P;cases A;calc LG (Y,S,E,)
def  Dt(K:RD)(x:V)(H:Hp)(k:Bool):Prop :=
 match x with
 | .non=>k=OS
 | .bl b=>k=b
 | .int i=>k=(i != 0)
 | .str y=>⇑y<=Lc/\k=((⇑y:Int) != 0)
 | .byt y=>y.size<=Lc/\k=((y.size:Int) != 0)
 | .ref p=>(∃a,SqL K H p a/\k = !a.isEmpty)\/(∃a,SqT K H p a/\k = !a.isEmpty)\/∃c,H p=OP (.dK c)/\k = !c.isEmpty
 |_=>False
def vf{a:Type}{kvs:O4 (a×V)}{vs:O4 (a×K5)}(r:KV kvs vs):(!vs.isEmpty) = !kvs.isEmpty:=by
 cases r <;> rfl
def m5{xs:O4 V}{a:O4 K5}(r:Vals xs a):(!a.toArray.isEmpty) = !xs.isEmpty:=by
 cases r <;> simp
def jC:(Lc:Nat)<2^63:=by rw[L9];decide
def Du:G7 X (λx H Q=>∃k,Dt X.K x H k/\Q k H):=by
 intro OU s σ H x v Q I g h;let(k,e,q):=h;let C:=jC;let B:Lc=16777216:=L9;cases x with
 |non =>
  cases g;let a:k=false:=e;subst a;exact truthy_none (H,I,q,)
 |bl b =>
  cases g;let a:k=b:=e;subst a;exact LG (H,I,q,)
 |int i =>
  let(t,rfl):=g;let a:k=(i != 0):=e;subst a;exact PySem.P.truthy_int (H,I,q,)
 |str y =>
  let(t,rfl):=g;let(z,a):⇑y<=Lc/\k=((⇑y:Int) != 0):=e;subst a;exact PySem.P.truthy_str ∅ (H,I.tok _,q,)
 |byt y =>
  let(t,rfl):=g;let(z,a):y.size<=Lc/\k=((y.size:Int) != 0):=e;subst a;exact W.truthy_bytes ∅ (H,I.tok _,q,)
 |ref p =>
  cases g;let a:(∃f,SqL X.K H p f/\k = !f.isEmpty)\/(∃f,SqT X.K H p f/\k = !f.isEmpty)\/∃c,H p=OP (.dK c)/\k = !c.isEmpty:=e;rcases a with⟨f,j,a⟩|⟨f,j,a⟩|⟨c,j,a⟩
  .subst a;let(o,r,n,u):=I.list j;let d:=⇑r;exact wpAny_truthy_list n.isList (by simp only[fI];lia) (H,I.tok _,by rw[m5 r];exact q,)
  .subst a;let(o,r,n,u):=I.tuple j;let d:=⇑r;exact truthy_tuple n (by simp only[fI];lia) (H,I.tok _,by rw[m5 r];exact q,)
  .subst a;let(u,A,l,r,m):⇑c<=Lc/\(p == Ld)=OS/\∃l,KV c l/\s.heap.DictOf (cK X.prog X.w) p l:=I.hok p _ j;let d:⇑c=⇑l:=Paired.length r;exact wpAny_truthy_dict A m ∅ (H,I.tok _,by rw[vf r];exact q,)
 |_=>calc(show False from e).elim
def di(g:PE X a ta)(f:∀b,Lv a X.env b=(do let v ←b;LF a.pos;holding [v] (truthy v))) :
  PT X a (λσ H Q=>ta σ H λx H'=>∃k,Dt X.K x H' k/\Q k H'):=by
 intro OU s σ H Q I h;calc isTrue_plain (thn (g OU s σ H _ I h) λv c (x,j,i,d,e,)=>Du OU c σ j x v Q i d e)<|f _
def Dv:OpR X (L3 .Add) (λx y H Q=>∃i j,x=.byt i/\y=.byt j/\i.size+j.size<=16777216/\Q (.byt<|i++j) H):=by
 intro OU s σ H x y v u Q I c b h;let(i,j,rfl,rfl,d,q):=h;let(t,rfl):=c;let(a,rfl):=b;calc W.KBy.add_bytes d<|λa e=>(.byt<|i++j,H,I.tok _,(_,Z,),q,)
def vals1{x:V}{us:O4 K5}(r:Vals [x] us):∃u,us=[u]/\RelV x u:=by
 cases r with
 |cons b a=>cases a;calc(_,Z,b,)
def vals2{x y:V}{us:O4 K5}(r:Vals [x,y] us):∃u a,us=[u,a]/\RelV x u/\RelV y a:=by
 cases r with
 |cons e d =>
  cases d with
  |cons c b=>cases b;calc(_,_,Z,e,c,)
def i4(b:X.calm=OR):dh X (.builtin "max") (λxs H Q=>∃i j,xs=[.int i,.int j]/\Q (.int (if j>i then j else i)) H):=by
 intro OU s σ H xs d Q I r h;let(i,j,rfl,q):=h;let(u,c,rfl,(t,rfl),(f,rfl)):=vals2 r;refine max_two_ints (I.ok.hd b) λh' e k=>(_,H,I.kept k,?_,q,)
 by_cases a:j>i
 .rw[OX a,OX a];exact(_,Z,)
 .rw[OW a,OW a];calc(_,Z,)
def pM(b:X.calm=OR):dh X (.builtin "min") (λxs H Q=>∃i j,xs=[.int i,.int j]/\Q (.int (if j<i then j else i)) H):=by
 intro OU s σ H xs d Q I r h;let(i,j,rfl,q):=h;let(u,c,rfl,(t,rfl),(f,rfl)):=vals2 r;refine min_two_ints (I.ok.hd b) λh' e k=>(_,H,I.kept k,?_,q,)
 by_cases a:j<i
 .rw[OX a,OX a];exact(_,Z,)
 .rw[OW a,OW a];calc(_,Z,)
end
structure vg(h:Lb)(x dx C:La)(mA:Str->Option K5):Prop where
 obj:h.get? x=OP (Os C dx)
 ns:h.Ns1 dx mA
 ne:dx≠x
def xT{h:Lb}{f:La}{c:Str->Option K5}(n:h.Ns1 f c):∃b,h.get? f=OP b/\∀name,Rb name b=OP (c name):=by
 let(o,d,r,i,l,k,_,j):=n;calc(o,i,λname=>?_,);let e:=j name;unfold nsFind findBy at e;rw[←Array.find?_toList]at e;unfold Rb;rw[l];dsimp only;split
 .rename_i y q
  rw[q]at e;exact O2 OP e
 .rename_i q
  rw[q]at e;let a:d.toList.any (·.refKey)=false:=by
   rw[List.any_eq_false];intro y g;let(z,t,p):=k y<|Array.mem_toList_iff.mp g;simp[Ma.refKey,p]
  let m:¬ d.toList.any (·.refKey)=true:=by rw[a];exact bi
  rw[OW m];calc O2 OP e
def vg.look{h:Lb}{x c C:La}{b:Str->Option K5}(I:vg h x c C b):∃a,W.InstAt h x (Os C c) C (OP a)/\∀name,Rb name a=OP (b name):=by
 let(a,d,e):=xT I.ns;calc(a,(I.obj,Z,Z,d,),e,)
variable{A:Ll}{dx C f:La}
section
variable{prog:K7}{K:RD}{mA:Str->Option K5}{name:Str}{v:K5}
def get_map{a:Bool}{Q:K5->Lm->Prop}(X:K.In s.heap)(I:vg s.heap x dx C mA)(f:QA K C name=OR)(e:Rc K C=OR)
  (g:wl K (.ref C) name=OP OQ)(c:mA name=OP v)(b:W.handedIn v=OR)(h:Q v { s with toks:=s.toks+1 }) :
  Lq (model prog w) A (getAttr (.ref x) name a) Q E s:=by
 let(i,J,d):=I.look;calc W.get_value X J (QK f).1 (W.findObj_own e g Z (by rw[d,c])) b h
def zH{pl:Sem Bool}{Q:K5×O4 K5->Lm->Prop}(X:K.In s.heap)(I:vg s.heap x dx C mA)(a:QA K C name=OR)
  (hf:wl K (.ref C) name=OP ↑f)(d:W.isFn K (.ref f)=OR)(c:mA name=OQ)(h:Q (.ref f,[.ref x]) s) :
  Lq (model prog w) A (Mb (.ref x) name pl) Q E s:=by
 let(b,J,e):=I.look;calc W.method_fn X J (QK a).1 (QK a).2 hf (beq_iff_eq.mp d) (by show(Rb name b).map (·.isSome)=OP OS;rw[e,c];rfl) h
def Bx{ns:O4 Str}{Q:Unit->Lm->Prop}(X:K.In s.heap)(I:vg s.heap x dx C mA)
  (l:wl K (.ref C) "__setattr__" = OP (OP<|.builtin "object.__setattr__")) (m:W.plainOver K C=OR)(k:W.takerIn K C name=OP OQ)(n:Rc K C=OR)
  (hw:PySem.Within mA ns)(hsz:⇑ns<=Lc)
  (h:∀h',vg h' x dx C (λy=>if y=name then OP v else mA y)->ln dx s.heap h'->Q () { s with heap:=h',toks:=s.toks+2 }) :
  Lq (model prog w) A (setAttr (.ref x) name v) Q E s:=by
 let(t,J,z):=I.look;calc W.set_plain X J l<|W.osa_open (s:={ s with toks:=s.toks+1 }) (r:=OQ) X J m k λb=>?_;let(B,o,g):=W.any_some n;let j:s.heap.get? x=OP (.ref C,OP dx,.plain,#[],):=I.obj;calc K1<|K2<|K1<|K1<|wpAny_loadPart j<|K1<|W.Looks.here (s:={ s with toks:=s.toks+1 }) (W.looks_clsIn X o) ?_;rw[g];calc K2 (a:=OP dx)<|K1<|K2<|K1 ?_;refine wpAny_nsSet1 (s:={ s with toks:=s.toks+1 }) I.ns λh' d c=>?_
 let(u,p,q,e,f,i):=d.count<|PySem.Within.cons name v hw;refine K1 (wpAny_lookBehind e (by rw[f];exact pastItsLine_dict (BK i (by rw[fk];lia))) ?_);calc K2<|h _ ((c.2 _<|On I.ne).trans I.obj,d,I.ne,) c
def zI{R:Mc->Lm->Prop}{vs:O4 K5}{b:O4 (Str×K5)}(X:K.In s.heap)(c:W.makesIn K C=OR)
  (hi:wl K (.ref C) "__init__" = OP ↑f) (hf:W.typeIn K (.ref f)=OP (.type "function"))
  (h:Md (model prog w) (A.under<|.builtin "type.__call__" (.ref C :: vs,b,)) (.call (.ref f) (.ref (↥s+1) :: vs,b,)) (W.InitBack (↥s+1) R)
   { s with heap:=(s.heap.push Da).push (Os C ↥s) }) :
  Md (model prog w) A (.call (.ref C) (vs,b,)) R s:=by
 let(i,g,d,t,e):=s;calc W.make_core (W.makes_of X c) (W.looks_findIn X hi) (λa=>W.bind_fn X a hf) (.inl Z) h
end
def  bx(f:Str)(v:V):O4 (Str×V)->O4 (Str×V)
 | []=>[(f,v)]
 |(g,x) :: r=>if g=f then(g,v) :: r else(g,x) :: bx f v r
def mi(f g:Str)(v:V):∀fs:O4 (Str×V),(bx f v fs).lookup g=if g=f then OP v else fs.lookup g
 | []=>by
  show RO g [(f,v)]=_;by_cases h:g=f
  .let a:(g == f)=true:=beq_iff_eq.mpr h;simp only[RO,a,OX h]
  .let a:(g == f)=false:=beq_eq_false_iff_ne.mpr h;simp only[RO,a,OW h]
 |(k,x) :: r=>by
  let c:=mi f g v r;rw[show bx f v ((k,x) :: r)=(if k=f then(k,v) :: r else(k,x) :: bx f v r)from Z];by_cases b:k=f
  .rw[OX b];by_cases h:g=k
   .let a:(g == k)=true:=beq_iff_eq.mpr h;simp only[RO,a,OX (h.trans b)]
   .let a:(g == k)=false:=beq_eq_false_iff_ne.mpr h;simp only[RO,a,OW (λe:g=f=>h<|e.trans b.symm)]
  .rw[OW b];by_cases h:g=k
   .let a:(g == k)=true:=beq_iff_eq.mpr h;simp only[RO,a,OW (λe:g=f=>b<|h.symm.trans e)]
   .let a:(g == k)=false:=beq_eq_false_iff_ne.mpr h;simp only[RO,a];calc c
def lu(f:Str)(v:V):∀fs:O4 (Str×V),f∈(bx f v fs).map (·.1)/\∀g,g∈fs.map (·.1)->g∈(bx f v fs).map (·.1)
 | []=>(by simp[bx],λg h=>by simp at h,)
 |(k,x) :: r=>by
  let(c,b):=lu f v r;rw[show bx f v ((k,x) :: r)=(if k=f then(k,v) :: r else(k,x) :: bx f v r)from Z];by_cases a:k=f
  .rw[OX a];subst a;exact(by simp,λg h=>~~~h,)
  .rw[OW a];refine(?_,λg h=>?_,)
   .rw[jl];exact fS _ c
   .rw[jl]at h⊢;rcases bz.mp h with e|e
    .exact bz.mpr<|.inl e
    .exact fS _<|b g e
def mj(f:Str)(v:V):∀fs:O4 (Str×V),⇑(bx f v fs)<=⇑fs+1
 | []=>by simp[bx]
 |(k,x) :: r=>by
  let b:=mj f v r;rw[show bx f v ((k,x) :: r)=(if k=f then(k,v) :: r else(k,x) :: bx f v r)from Z];by_cases a:k=f
  .rw[OX a,fk,fk];lia
  .rw[OW a,fk,fk];lia
def lh.some_of{v:V}{o:Option K5}(r:lh (OP v) o):∃u,o=OP u/\RelV v u:=by
 cases o with
 |none=>exact(show False from r).elim
 |some u=>calc(u,Z,r,)
def lh.none_of{o:Option K5}(r:lh OQ o):o=none:=by
 cases o with
 |none=>rfl
 |some u=>calc(show False from r).elim
def pN{v:V}{u:K5}(r:RelV v u):W.handedIn u=true:=by
 cases v with
 |non=>cases (show u=pc from r);rfl
 |bl b=>cases (show u=K5.bool b from r);rfl
 |int i=>obtain⟨t,e⟩:=(show ∃t,u=Qa i t from r);cases e;rfl
 |str x=>obtain⟨t,e⟩:=(show ∃t,u=K5.str x t from r);cases e;rfl
 |byt b=>obtain⟨t,e⟩:=(show ∃t,u=K5.bytes b t from r);cases e;rfl
 |flt b=>obtain⟨t,e⟩:=(show ∃t,u=K5.float b t from r);cases e;rfl
 |ref a=>cases (show u=bv a from r);rfl
 |ty n=>cases (show u=xL n from r);rfl
section
variable{fs fs':O4 (Str×V)}
def mP(hok:HOk P w H h)(e:H a=OP (.ins C dx fs)):∃b,vg h a dx C b/\(∀f,lh (fs.lookup f)<|b f)/\PySem.Within b (fs.map (·.1))/\⇑fs<=1000/\H dx=OP (.own a):=by
 let(d,z,g,c,b,n,r,q):=(show bq P w H h a (.ins C dx fs)from hok a _ e);calc(b,(c,n,g,),r,q,z,d,)
end
structure Cls(K:RD)(C:La):Prop where
 pg:QA K C Str.empty=OR
 hd:Rc K C=OR
 po:W.plainOver K C=OR
 sa:wl K (.ref C) "__setattr__" = OP (OP<|.builtin "object.__setattr__")
def Cls.get{K:RD}{C:La}(c:Cls K C)(f:Str):QA K C f=true:=c.pg
def  NoAttr(K:RD)(C:La)(f:Str):Prop:=wl K (.ref C) f=OP OQ
def NoAttr.taker{K:RD}{C:La}{f:Str}(n:NoAttr K C f):W.takerIn K C f=OP none:=by
 unfold W.takerIn;rw[show wl K (.ref C) f=OP OQ from n];rfl
structure Con(K:RD)(C:La)(f:Str)(v:V)(u:K5):Prop where
 at_:wl K (.ref C) f=OP (OP u)
 rel:RelV v u
 get:O9 K u "__get__" = OP OQ
 cp:W.copiedNames.contains f=OS
structure Meth(K:RD)(C:La)(m:Str)(f:La):Prop where
 at_:wl K (.ref C) m=OP ↑f
 fn:W.isFn K (.ref f)=OR
 kp:Fk K (.ref f)=OR
section
variable{fs:O4 (Str×V)}{f:Str}{v:V}
def vh{b:Bool}{Q:K5->Lm->Prop}(I:Inv X OU σ H s)(e:H a=OP (.ins C dx fs))(c:Cls X.K C)(n:NoAttr X.K C f)(l:fs.lookup f=OP v)
  (h:∀u s',Inv X OU σ H s'->RelV v u->Q u s'):Lq (model X.prog X.w) A (getAttr (.ref a) f b) Q E s:=by
 let(g,O,r,_,_,_):=mP I.hok e;let(u,i,d):=lh.some_of (v:=v) (o:=g f) (by rw[←l];exact r f);calc get_map I.kIn O (c.get f) c.hd n i (pN d)<|h u _ (I.tok _) d
def m6{m:Str}{g:La}{pl:Sem Bool}{Q:K5×O4 K5->Lm->Prop}(I:Inv X OU σ H s)(e:H a=OP (.ins C dx fs))(c:Cls X.K C)(k:Meth X.K C m g)(l:fs.lookup m=OQ)
  (h:Q (.ref g,[.ref a]) s):Lq (model X.prog X.w) A (Mb (.ref a) m pl) Q E s:=by
 let(b,O,r,_,_,_):=mP I.hok e;let d:b m=none:=lh.none_of (by rw[←l];exact r m);calc zH I.kIn O (c.get m) k.at_ k.fn d h
def vi{y:V}{u:K5}{Q:Unit->Lm->Prop}(I:Inv X OU σ H s)(e:H a=OP (.ins C dx fs))(c:Cls X.K C)(n:NoAttr X.K C f)(B:⇑fs<1000)(m:RelV y u)
  (h:∀s',Inv X OU σ (upd H a<|.ins C dx<|bx f y fs) s'->Q () s'):Lq (model X.prog X.w) A (setAttr (.ref a) f u) Q E s:=by
 let(j,O,r,i,_,k):=mP I.hok e;let p:⇑(fs.map (·.1))<=Lc:=by rw[aa,L9];lia
 refine Bx I.kIn O c.sa c.po n.taker c.hd i p λh' d l=>h _ ?_
 let hd:∃o,h'.get? dx=OP o:=let ⟨o,_,_,e',_⟩:=d.ns;(o,e',);refine I.write (x:=a) (e:=dx) (by rw[e];exact wT) (.inr k) (λb q v z=>(l.2 b v).trans z) hd ?_;refine(by rw[ar O.ne];exact k,?_,O.ne,d.obj,_,d.ns,λg=>?_,λg t=>?_,)
 .let:=mj f y fs;lia
 .show lh ((bx f y fs).lookup g) (if g=f then OP u else j g);rw[mi];by_cases q:g=f
  .rw[OX q,OX q];exact m
  .rw[OW q,OW q];exact r g
 .by_cases q:g=f
  .rw[q];exact(lu f y fs).1
  .refine(lu f y fs).2 g (i g λz=>t ?_);show(if g=f then OP u else j g)=OQ;rw[OW q];calc z
def Inv.made(I:Inv X OU σ H s):Inv X OU σ (upd (upd H ↥s<|.own<|↥s+1) (↥s+1)<|.ins C ↥s [])
  { s with heap:=(s.heap.push Da).push (Os C ↥s) }:=by
 let d:(s.heap.push Da).get? ↥s=OP Da:=am s.heap Z;let i:((s.heap.push Da).push<|Os C ↥s).get? (↥s+1)=OP (Os C ↥s):=by
  let:=am (s.heap.push Da) (o:=Os C ↥s) Z
  rwa [jp]at this
 let h:(s.heap.push Da).Ns ↥s (λ_=>OQ):=(Da,#[],_,d,Z,(λe g=>OY g (by simp)),λ_=>Z,);let j:=I.laid (a:=↥s) (o:=.own<|↥s+1) (h':=s.heap.push Da) (t':=s.toks) (λb u q=>ac _ q) (Ab _) (_,d,);calc j.laid (a:=↥s+1) (o:=.ins C ↥s []) (t':=s.toks) (λb u q=>ac _ q) (Nat.le_of_eq<|jp _ _) ?_;let c:↥s≠↥s+1:=Bo<|DN _;calc(by rw[ar c,af],BG _,c,i,λ_=>OQ,(Lb.Ns1.of_empty h).at λo q=>ac _ q,λ_=>wT,λy f=>OY Z f,)
def By{prog:K7}{w:K6}{a:Env}{e:Lu}{f:Str}{pos:Pos}{s:Lm}{Q:K5->Lm->Prop}(c:Me e f a (eval e a)=eval e a)
  (h:Lq (model prog w) A (eval e a) (λo b=>Lq (model prog w) A (getAttr o f OR) Q E b) E s):Lq (model prog w) A (eval (.Attribute e f pos) a) Q E s :=
 Attribute_any_ h (by rw[arm_eval_Attribute,c])
end
inductive CH(K:RD)(f:Str)(Q:VK)(x:V)(H1:Hp):Prop
 |mk (a C dx fs v:_)(_:x=.ref a)(_:H1 a=OP (.ins C dx fs))(_:Cls K C)(_:NoAttr K C f)(_:fs.lookup f=OP v)(_:Q v H1)
def  E9(K:RD)(ta:TE)(f:Str):TE:=λσ H Q=>ta σ H λx a=>CH K f Q x a
def  G8(K:RD)(ta c:TE)(f:Str):TS:=λD σ H=>c σ H λy d=>ta σ d λx b=>∃a C dx fs,x=.ref a/\b a=OP (.ins C dx fs)/\Cls K C/\NoAttr K C f/\⇑fs<1000 /\
 D.nx σ (upd b a<|.ins C dx<|bx f y fs)
variable{o:Lu}
section
variable{value:Lu}{f:Str}{pos' Bz:Pos}{tv:TE}
def cj(g:PE X e ta)(i:Me e f X.env (eval e X.env)=eval e X.env):PE X (.Attribute e f pos) (E9 X.K ta f):=by
 intro OU s σ H Q I h;calc By i<|thn (g OU s σ H _ I h) λu t (x,p,o,b,a,C,dx,fs,v,j,k,c,n,l,q,)=>?_;subst j;obtain rfl:u=bv a:=b;calc vh o k c n l λr s2 m d=>(v,p,m,d,q,)
def cP(m:PE X o ta)(j:PE X value tv)(k:LJ value (OP<|.Attribute o f pos') pos.line X.env=pure OS):PS X (.Assign [.Attribute o f pos'] value pos) (G8 X.K ta tv f):=by
 intro OU s σ H D I h;calc plainObj_wpAny_Assign_Attribute (thn (j OU s σ H _ I h) λu b (y,z,w,d,q,)=>thn (m OU b σ z _ w q) λi s2 (x,B,v,e,a,C,dx,fs,p,r,c,n,l,g,)=>?_) k;subst p;obtain rfl:i=bv a:=e;calc vi v r c n l d λA t=>(σ,_,t,g,)
end
section
variable{Q:K5->Lm->Prop}{c:K5}{b:Bool}
inductive ly(K:RD)(H:Hp):V->K5->Prop where
 |non:ly K H .non (.type "NoneType")
 |bl (x:Bool):ly K H (.bl x) (.type "bool")
 |int (i:Int):ly K H (.int i) (.type "int")
 |str (x:Str):ly K H (.str x) (.type "str")
 |flt (x:UInt64):ly K H (.flt x) (.type "float")
 |lst {a:La}{xs:O4 V}(e:H a=OP (.lst xs)):ly K H (.ref a) (.type "list")
 |frz {a:La}{o:Obj}{xs:O4 V}(e:H a=OP (.frz o<|.lst xs)):ly K H (.ref a) (.type "list")
 |tup {a:La}{xs:O4 V}(e:H a=OP (.tup xs)):ly K H (.ref a) (.type "tuple")
 |dK {a:La}{kvs:O4 (Key×V)}(e:H a=OP (.dK kvs)):ly K H (.ref a) (.type "dict")
 |dT {a:La}{kvs:O4 (O4 Key×V)}(e:H a=OP (.dT kvs)):ly K H (.ref a) (.type "dict")
 |ins {a C dx:La}{fs:O4 (Str×V)}(e:H a=OP (.ins C dx fs))(cl:Cls K C)(ha:wl K (.ref C) "__class__" = OP (OP<|.builtin "object.__class__"))
   (hn:O9 K (.builtin "object.__class__") "__get__" = OP (OP<|.builtin "getset_descriptor.__get__")) (htk:W.takesIn K (.builtin "object.__class__")=OP OR)
   (hm:W.mroIn K C (.type "object")=OP OR):ly K H (.ref a) (.ref C)
def xU{x:V}{u t:K5}(I:Inv X OU σ H s)(d:RelV x u)(ty:ly X.K H x t)(e:P4 X.K t c=OP b)(h:∀k,Q (.bool b) { s with toks:=k }) :
  Lq (model X.prog X.w) A (call (.builtin "isinstance") [u,c]) Q E s:=by
 cases ty with
 |non=>cases (show u=pc from d);exact zn W.kitx_none I.kIn wT e (λz=>nomatch z) h
 |bl y=>cases (show u=K5.bool y from d);exact zn W.kitx_bool I.kIn wT e (λz=>nomatch z) h
 |int i=>obtain⟨t,q⟩:=(show ∃t,u=Qa i t from d);cases q;exact zn W.kitx_int I.kIn wT e (λz=>nomatch z) h
 |str y=>obtain⟨t,q⟩:=(show ∃t,u=K5.str y t from d);cases q;exact zn W.kitx_str I.kIn wT e (λz=>nomatch z) h
 |flt y=>obtain⟨t,q⟩:=(show ∃t,u=K5.float y t from d);cases q;exact zn W.kitx_float I.kIn wT e (λz=>nomatch z) h
 | @lst a g ea =>
  cases (show u=bv a from d);let(_,_,n,_,f):=(show bq X.prog X.w H s.heap a (.lst g)from I.hok a _ ea);exact zn W.kitx_list I.kIn (_,f,Z,) e (λz=>nomatch z) h
 | @frz a ob g ea =>
  cases (show u=bv a from d);let(_,_,_,n,_,f):=(show bq X.prog X.w H s.heap a (.frz ob<|.lst g)from I.hok a _ ea);exact zn W.kitx_list I.kIn (_,f,Z,) e (λz=>nomatch z) h
 | @tup a g ea =>
  cases (show u=bv a from d);let(_,_,_,p):=(show bq X.prog X.w H s.heap a (.tup g)from I.hok a _ ea);let(o,f,j,_):=p;exact zn W.kitx_tuple I.kIn (o,f,j,) e (λz=>nomatch z) h
 | @dK a kvs ea =>
  cases (show u=bv a from d);let(_,_,r,_,p):=(show bq X.prog X.w H s.heap a (.dK kvs)from I.hok a _ ea);let(o,l,m,f,j,_):=p;exact zn W.kitx_dict I.kIn (o,f,j.1,) e (λz=>nomatch z) h
 | @dT a kvs ea =>
  cases (show u=bv a from d);let(_,_,g,_,o,l,m,f,j,_):=(show bq X.prog X.w H s.heap a (.dT kvs)from I.hok a _ ea);exact zn W.kitx_dict I.kIn (o,f,j.1,) e (λz=>nomatch z) h
 | @ins a C dx fs ea cl ha hn htk hm =>
  cases (show u=bv a from d);let(B,O,_):=mP I.hok ea;let(v,J,_):=O.look;calc zn (W.kitx_own (cl.get _) cl.hd ha hn htk hm) I.kIn J e (λz=>nomatch z) h
end
structure bK(k:Nat)(A:Ll):Prop where
 hd:A.handled=OQ
 dp:A.depth+3*k+5<Mf
 un:A.units+16*k+200<Mg
def bK.mono{j k:Nat}{A:Ll}(r:bK k A)(h:j<=k):bK j A:=(r.hd,by have:=r.dp;lia,by have:=r.un;lia,)
def bK.deeper{k:Nat}{A:Ll}(r:bK (k+1) A)(a:Env):bK k (A.deeper a) :=
 (r.hd,by have:=r.dp;show A.depth+1+3*k+5<_;lia,by have:=r.un;show A.units+3+16*k+200<_;lia,)
def bK.in1{k:Nat}{A:Ll}(r:bK (k+1) A):bK k A.in1 :=
 (r.hd,by have:=r.dp;show A.depth+3*k+5<_;lia,by have:=r.un;show A.units+1+16*k+200<_;lia,)
def vj{A:Ll}{C:La}{us:O4 K5}{a:O4 (Str×K5)}:(A.under<|.builtin "type.__call__" (.ref C :: us,a,)).depth=A.depth+1:=by
 first|rfl|simp[Ll.under,Mh.weight,Mh.isCreation,Mh.isGuard,Mh.isCaller,Mh.frames,Mh.isFrame,guardIds]
def vk{A:Ll}{C:La}{us:O4 K5}{a:O4 (Str×K5)}:(A.under<|.builtin "type.__call__" (.ref C :: us,a,)).units=A.units+1:=by
 first|rfl|simp[Ll.under,Mh.cUnits,Mh.frames,Mh.isFrame]
def bK.make{k:Nat}{A:Ll}(r:bK (k+1) A)(C:La)(us:O4 K5)(a:O4 (Str×K5)):bK k (A.under<|.builtin "type.__call__" (.ref C :: us,a,)) :=
 (r.hd,by have:=r.dp;rw[vj];lia,by have:=r.un;rw[vk];lia,)
def bK.depth{k:Nat}{A:Ll}(r:bK k A):A.depth<Mf:=by have:=r.dp;lia
def bK.units{k:Nat}{A:Ll}(r:bK k A):A.units+64<Mg:=by have:=r.un;lia
def  Dx:TA:=λ_ H Q=>Q [] H
def  Fb(ta:TE)(b:TA):TA:=λσ H Q=>ta σ H λx d=>b σ d λa c=>Q (x :: a) c
variable{es:O4 Lu}
section
variable{t:TA}
def ag:PA X [] Dx:=λ_ _ _ _ H Q I h=>PP ([],H,I,.nil,h,)
def ae(k:PE X e te)(j:PA X es t)(i:Ly (e :: es) X.env=(OS,eval e X.env) :: Ly es X.env:=by rfl):PA X (e :: es) (Fb te t):=by
 intro pos OU s σ H Q I h;rw[i];show Lq _ _ (spliced ((OS,eval e X.env) :: Lw pos (Ly es X.env))) _ _ s;calc PM<|thn (k OU s σ H _ I h) λu b (x,o,m,d,g,)=>?_;calc thn (j pos OU b σ o _ m g) λp s2 (a,n,l,c,f,)=>(x :: a,n,l,.cons d c,f,)
def  G9(t:TA):TE:=λσ H Q=>t σ H λa b=>⇑a<=Lc/\∀p,b p=OQ->Q (.ref p) (upd b p<|.tup a)
def  Hb(t:TA):TE:=λσ H Q=>t σ H λa b=>⇑a<=Lc/\∀p,b p=OQ->Q (.ref p) (upd b p<|.lst a)
def bf{x1} (h:PA X es t):PE X (.Tuple es x1 pos) (G9 t):=by
 intro OU s σ H Q I i;refine wpAny_Tuple_spliced (thn (h pos OU s σ H _ I i) λg a (f,d,c,r,z,q,)=>(by rw[←⇑r];exact z,?_,));let j:d ↥a=none:=c.hok.fresh<|Ab _;calc(.ref ↥a,upd d ↥a<|.tup f,c.laid (t':=a.toks) (λb u e=>ac _ e) (Ab _) ?_,Z,q _ j,);calc(z,g,r,(_,am _ Z,Z,_,Z,),)
def aU(h:PA X es t):PE X (.List es pos) (Hb t):=by
 intro OU s σ H Q I i;refine wpAny_List_spliced (thn (h pos OU s σ H _ I i) λg a (f,d,c,r,z,q,)=>(by rw[←⇑r];exact z,?_,));let j:d ↥a=none:=c.hok.fresh<|Ab _;calc(.ref ↥a,upd d ↥a<|.lst f,c.laid (t':=a.toks) (λb u e=>ac _ e) (Ab _) ?_,Z,q _ j,);calc(z,g,0,r,am _ Z,)
end
abbrev Sp:=O4 V->Hp->VK->XK->Prop
abbrev CXT:=O4 Env->Hp->Lm->XK->K5->Lm->Prop
structure qQ(P:K7)(w:K6)(K:RD)(mg:Str->Option K5)(base:Lb)(A:Ll)(outer:O4 Env)(s:Lm)(H:Hp):Prop where
 frames:A.frames=OP outer
 mod:Mod K mg base
 bs:∀b o,base.get? b=OP o->s.heap.get? b=OP o/\H b=OQ
 bsz:base.objs.size<=↥s
 funs:s.heap.FunFrames base outer
 frf:∀b∈frs outer,H b=OQ
 hok:HOk P w H s.heap
 bare:AllBare s.gens
def  CE(a:O4 Env)(P:K7)(w:K6)(H:Hp)(s:Lm)(Q:VK)(u:K5)(s':Lm):Prop :=
 ∃v H',s'.os=s.os/\AllBare s'.gens/\Un (frs a) [] H H' s.heap s'.heap/\HOk P w H' s'.heap/\RelV v u/\Q v H'
def  CR(CX:CXT)(a:O4 Env)(P:K7)(w:K6)(H:Hp)(s:Lm)(Q:VK)(E:XK)(r:Mc)(s':Lm):Prop :=
 match r with
 | .ok (.ret u)=>CE a P w H s Q u s'
 | .ok _=>False
 | .error e=>CX a H s E e s'
structure aK(P:K7)(w:K6)(K:RD)(mg:Str->Option K5)(base:Lb)(CX:CXT)(k:Nat)(f:La)(fd:Mi)(ps:O4 Str)(sp:Sp):Prop where
 len:∀vs H Q E,sp vs H Q E->⇑vs=⇑ps
 run:∀(A:Ll)(outer:O4 Env)(s:Lm)(H:Hp)(args:Args)(us:O4 K5)(vs:O4 V)(Q:VK)(E:XK),bK k A->qQ P w K mg base A outer s H->Mj s fd args (ps.zip us)->Vals vs us->sp vs H Q E ->
  Md (model P w) A (.call (.ref f) args) (CR CX outer P w H s Q E) s
def aK.mono{P:K7}{w:K6}{K:RD}{d:Str->Option K5}{a:Lb}{CX:CXT}{j k:Nat}{f:La}{e:Mi}{ps:O4 Str}{sp:Sp}(F:aK P w K d a CX j f e ps sp)(h:j<=k) :
  aK P w K d a CX k f e ps sp:=(F.len,λA b s H c i g Q E l=>F.run A b s H c i g Q E<|l.mono h,)
def qQ.make{P:K7}{w:K6}{K:RD}{c:Str->Option K5}{b:Lb}{A:Ll}{a:O4 Env}{s:Lm}{H:Hp}(e:qQ P w K c b A a s H)(C:La)(us:O4 K5)(d:O4 (Str×K5)) :
  qQ P w K c b (A.under<|.builtin "type.__call__" (.ref C :: us,d,)) a s H:=(by first|exact e.frames|(simpa[Ll.under,Mh.envs,Mh.isFrame,pushEnvs]using e.frames),e.mod,e.bs,e.bsz,e.funs,e.frf,e.hok,e.bare,)
section
variable{s':Lm}
def Inv.env0(I:Inv X OU σ H s):qQ X.prog X.w X.K X.mg X.base X.A X.stack s H :=
 (I.ok.frames,I.ok.mod,I.bs,BK I.ok.bsz I.sz,I.stack,I.stkFree,I.hok,I.bare,)
def Inv.after{Q:VK}{u:K5}(I:Inv X OU σ H s)(h:CE X.stack X.prog X.w H s Q u s'):EP X OU σ Q u s':=by
 let(v,H',os,a,un,hok,r,q):=h;let(e,g,d,t,c):=s';obtain rfl:c=s.os:=os;calc(v,H',I.call (h':=e) (g':=g) (d':=d) (t':=t) (ch:=[]) un hok a<|λb z=>OY z (by simp),r,q,)
end
def  Fc(sp:Sp)(dvs:O4 V)(E:XK)(t:TA):TE:=λσ H Q=>t σ H λa b=>sp (a++dvs) b Q E
def  CI(C:La)(sp:Sp)(dvs:O4 V)(E:XK)(t:TA):TE:=λσ H Q=>t σ H λb a=>∀x dx,a x=OQ->a dx=OQ->dx≠x ->
 sp (.ref x :: (b++dvs)) (upd (upd a dx<|.own x) x<|.ins C dx []) (λv c=>v=.non/\Q (.ref x) c) E
def  Binds(K:RD)(b:Mi)(ps:O4 Str)(ds:O4 K5):Prop :=
 ∀(s:Lm)(a:O4 K5),K.In s.heap->⇑(a++ds)=⇑ps->Mj s b (a,[],) (ps.zip<|a++ds)
def Binds.all{K:RD}{b:Mi}{ps:O4 Str}(h:∀us:O4 K5,⇑us=⇑ps->Ml b (us,[],)=pure (ps.zip us)):Binds K b ps []:=λs us _ a=>by
 rw[jm]at a⊢;calc .of_eq<|h us a
def  Passes(CX:CXT)(X:Cx)(E:XK):Prop:=∀(OU:O4 (La×Obj))(σ:St)(H:Hp)(s:Lm)(e:K5)(a:Lm),Inv X OU σ H s->CX X.stack H s E e a->X.xe e a
variable{p:Pos}
section
variable{CX:CXT}{k:Nat}{fd:Mi}{ps:O4 Str}{sp:Sp}{dvs:O4 V}{ds:O4 K5}{E:XK}{x m:Str}{apos:Pos}{t:TA}
def vm{OU:O4 (La×Obj)}{σ:St}{H:Hp}{s:Lm}{Q:VK}{us:O4 K5}{vs:O4 V}(F:aK X.prog X.w X.K X.mg X.base CX k f fd ps sp)(g:bK k X.A)(l:Binds X.K fd ps ds)(j:Vals dvs ds)(d:Passes CX X E)
  (I:Inv X OU σ H s)(r:Vals vs us)(h:sp (vs++dvs) H Q E):Lq (model X.prog X.w) X.A (call (.ref f) us) (EP X OU σ Q) X.xe s:=by
 let b:Vals (vs++dvs) (us++ds):=r.append j;let i:⇑(us++ds)=⇑ps:=by rw[←⇑b];exact F.len _ _ _ _ h
 calc Mm<|Mn (F.run X.A X.stack s H (us,[],) (us++ds) (vs++dvs) Q E g I.env0 (l s us I.kIn i) b h) λr c a=>?_;cases r with
 |error e=>exact d OU σ H s e c I a
 |ok fl =>
  cases fl with
  |ret u=>exact I.after a
  |next=>exact kw a
  |brk=>exact kw a
  |cont=>calc kw a
def BA(F:aK X.prog X.w X.K X.mg X.base CX k f fd ps sp)(g:bK k X.A)(l:Gl X x)(i:X.mg x=↑f)(j:Fk X.K (.ref f)=OR)(n:Binds X.K fd ps ds)(m:Vals dvs ds)(d:Passes CX X E)
  (o:PA X (e :: es) t)(b:(x == ("__debug__" : Str))=false:=by decide) (he:Ly (e :: es) X.env=(OS,eval e X.env) :: Ly es X.env:=by rfl)(a:(Lw pos<|Ly es X.env).any (·.1)=false:=by rfl) :
  PE X (.Call (.Name x p) (e :: es) [] pos) (Fc sp dvs E t):=by
 intro OU s σ H Q I h;calc K4<|i0 I l i ?_ b;calc Op (h₀:=X.base) I.ok.mod.kin j (thn (o pos OU s σ H _ I h) λv y (u,z,c,r,q,)=>(c.kIn,?_,)) he a;calc vm F g n m d c r q
structure Mk(K:RD)(C f:La):Prop where
 makes:W.makesIn K C=OR
 init:wl K (.ref C) "__init__" = OP ↑f
 fn:W.isFn K (.ref f)=OR
 kp:Fk K (.ref C)=OR
def sU{OU:O4 (La×Obj)}{σ:St}{H:Hp}{s:Lm}{Q:VK}{us:O4 K5}{vs:O4 V}(M:Mk X.K C f)(F:aK X.prog X.w X.K X.mg X.base CX k f fd ps sp)(m:bK (k+1) X.A)(p:Binds X.K fd ps ds)(o:Vals dvs ds)
  (l:Passes CX X E)(I:Inv X OU σ H s)(r:Vals vs us)
  (h:∀x dx,H x=OQ->H dx=OQ->dx≠x->sp (.ref x :: (vs++dvs)) (upd (upd H dx<|.own x) x<|.ins C dx []) (λv y=>v=.non/\Q (.ref x) y) E) :
  Lq (model X.prog X.w) X.A (call (.ref C) us) (EP X OU σ Q) X.xe s:=by
 let d:=h (↥s+1) ↥s (I.hok.fresh<|D0 _) (I.hok.fresh<|Ab _)<|Bo<|DN _;let b:=Inv.made (C:=C) I;let c:Vals (RZ (↥s+1) :: (vs++dvs)) (bv (↥s+1) :: (us++ds)):=.cons Z<|r.append o;let n:⇑(bv (↥s+1) :: us++ds)=⇑ps:=by
  let e:=⇑c;rw[F.len _ _ _ _ d]at e;exact e.symm
 refine Mm (zI (f:=f) I.kIn M.makes M.init (beq_iff_eq.mp M.fn) (Mn (F.run _ X.stack _ _ (bv (↥s+1) :: us,[],) (bv (↥s+1) :: (us++ds)) _ _ E (m.make C us [])
  (b.env0.make C us []) (p _ (bv (↥s+1) :: us) b.kIn n) c d) λr g a=>?_))
 cases r with
 |error e=>exact l OU σ _ _ e g b a
 |ok fl =>
  cases fl with
  |ret u =>
   let(v,H',t,i,q,j):=b.after a;subst q;exact(i,(RZ<|↥s+1,H',t,Z,j,),)
  |next=>exact kw a
  |brk=>exact kw a
  |cont=>calc kw a
def BB(M:Mk X.K C f)(F:aK X.prog X.w X.K X.mg X.base CX k f fd ps sp)(g:bK (k+1) X.A)(j:Gl X x)(i:X.mg x=↑C)(m:Binds X.K fd ps ds)(l:Vals dvs ds)(d:Passes CX X E)
  (n:PA X (e :: es) t)(b:(x == ("__debug__" : Str))=false:=by decide) (he:Ly (e :: es) X.env=(OS,eval e X.env) :: Ly es X.env:=by rfl)(a:(Lw pos<|Ly es X.env).any (·.1)=false:=by rfl) :
  PE X (.Call (.Name x p) (e :: es) [] pos) (CI C sp dvs E t):=by
 intro OU s σ H Q I h;calc K4<|i0 I j i ?_ b;calc Op (h₀:=X.base) I.ok.mod.kin M.kp (thn (n pos OU s σ H _ I h) λu v (o,y,c,r,q,)=>(c.kIn,?_,)) he a;calc sU M F g m l d c r q
def zJ(M:Mk X.K C f)(F:aK X.prog X.w X.K X.mg X.base CX k f fd ps sp)(c:bK (k+1) X.A)(e:Gl X x)(d:X.mg x=↑C)(i:Binds X.K fd ps ds)(g:Vals dvs ds)(b:Passes CX X E)
  (a:(x == ("__debug__" : Str))=false:=by decide):PE X (.Call (.Name x p) [] [] pos) (CI C sp dvs E Dx):=by
 intro OU s σ H Q I h;calc K4<|i0 I e d ?_ a;calc W.callWith_K0 I.kIn M.kp<|sU (us:=[]) M F c i g b I .nil h
end
section
variable{CX:CXT}{k:Nat}{fd:Mi}{ps ks:O4 Str}{sp:Sp}{E:XK}{x m:Str}{apos Hc:Pos}{kws:O4 Mo}{t tk:TA}{nm:Option Str}
structure Hd(K:RD)(fd:Mi)(ps ks:O4 Str)(g:O4 K5->O4 K5->O4 K5)(gV:O4 V->O4 V->O4 V):Prop where
 to:∀(s:Lm)(us ws:O4 K5),K.In s.heap->⇑(g us ws)=⇑ps->Mj s fd (us,ks.zip ws,) (ps.zip<|g us ws)
 rel:∀{vs:O4 V}{us:O4 K5}{zs:O4 V}{ws:O4 K5},Vals vs us->Vals zs ws->Vals (gV vs zs) (g us ws)
variable{g:O4 K5->O4 K5->O4 K5}{gV:O4 V->O4 V->O4 V}
end
structure av(N P:O4 Str)(sc:Ln):Prop where
 kind:sc.kind=.function
 co:sc.isCoroutine=OS
 gen:sc.isGenerator=OS
 nd:N.Nodup
 pre:N.take P.length=P
 par:∀x∈P,sc.names.lookup x=OP .local\/sc.names.lookup x=OP .cell
 nofree:∀y∈sc.names,y.2≠.free
def pO{a:Str->Option Mp}{x:Str}:∀{binds:O4 (Str×K5)}{m:Str->Option K5},(∀v,(x,v) ∉ binds)->Mq a binds m x=m x
 | [],_,_=>rfl
 |(n,v) :: r,m,h=>by
  unfold Mq;rw[pO λw b=>h w (fS _ b)];split
  .let:x≠n:=by rintro rfl;exact h v dt
   simp[this]
  .rfl
def pP{a:Str->Option Mp}{x:Str}:∀{binds:O4 (Str×K5)}{m:Str->Option K5},(∀v,(x,v) ∉ binds)->Mr a binds m x=m x
 | [],_,_=>rfl
 |(n,v) :: r,m,h=>by
  unfold Mr;rw[pP λw b=>h w (fS _ b)];split
  .rfl
  .let:x≠n:=by rintro rfl;exact h v dt
   simp[this]
def pQ{a:Str->Option Mp}{x:Str}{v:K5}:∀{P:O4 Str}{vs:O4 K5}{i:Nat}{m:Str->Option K5},P.Nodup->P[i]?=OP x->vs[i]?=OP v->a x=OP .local ->
  Mq a (P.zip vs) m x=OP v
 | [],_,_,_,_,h,_,_=>by simp at h
 |_ :: _,[],_,_,_,_,h,_=>by simp at h
 |p :: P,w :: vs,0,m,nd,h1,h2,hk=>by
  simp at h1 h2;subst h1;subst h2;show Mq a ((p,w) :: P.zip vs) m p=_;unfold Mq;rw[pO λv b=>(lY.mp nd).1 (uW b).1,OX hk];simp
 |p :: P,w :: vs,i+1,m,nd,h1,h2,hk=>by
  show Mq a ((p,w) :: P.zip vs) m x=_;unfold Mq;calc pQ (i:=i) (lY.mp nd).2 (~~~h1) (~~~h2) hk
def pR{a:Str->Option Mp}{x:Str}{v:K5}:∀{P:O4 Str}{vs:O4 K5}{i:Nat}{m:Str->Option K5},P.Nodup->P[i]?=OP x->vs[i]?=OP v->a x≠OP .local ->
  Mr a (P.zip vs) m x=OP v
 | [],_,_,_,_,h,_,_=>by simp at h
 |_ :: _,[],_,_,_,_,h,_=>by simp at h
 |p :: P,w :: vs,0,m,nd,h1,h2,hk=>by
  simp at h1 h2;subst h1;subst h2;show Mr a ((p,w) :: P.zip vs) m p=_;unfold Mr;rw[pP λv b=>(lY.mp nd).1 (uW b).1,OW hk];simp
 |p :: P,w :: vs,i+1,m,nd,h1,h2,hk=>by
  show Mr a ((p,w) :: P.zip vs) m x=_;unfold Mr;calc pR (i:=i) (lY.mp nd).2 (~~~h1) (~~~h2) hk
def  start(N:O4 Str)(vs:O4 V):St:=vs.map OP++AC (N.length-⇑vs) OQ
def  cw(CX:CXT)(P:K7)(w:K6)(K:RD)(mg:Str->Option K5)(base:Lb)(N:O4 Str)(qual:Str)(scope:Ln)(f:La)(b:K5)(A:Ll)(outer:O4 Env)(s:Lm)(H:Hp)(E:XK):Cx where
 prog:=P
 w:=w
 K:=K
 mg:=mg
 base:=base
 A:=A.deeper (envOfC qual scope ↥s f b)
 N:=N
 s₀:=s
 H₀:=H
 env:=envOfC qual scope ↥s f b
 outer:=outer
 stack:=envOfC qual scope ↥s f b :: outer
 ex:=[]
 calm:=OR
 fn:=λ_=>OR
 pn:=[]
 xe:=λe c=>Lq (model P w) (A.deeper<|envOfC qual scope ↥s f b) (leaving (envOfC qual scope ↥s f b) e) (λ_ a=>CX outer H s E e a) (λd a=>CX outer H s E d a) c
def sV{a:Ln}{n:Nat}{x:Str}(h:a.names.lookup x=OP .cell):∃c,(Ms n a.names []).lookup x=OP c:=by
 let q:=W.cellsFrom_some a.names n [] (.inl h);calc KZ.mp q
def xV{CX:CXT}{P:K7}{w:K6}{K:RD}{F:Str->Option K5}{j:Lb}{N ps:O4 Str}{qual:Str}{scope:Ln}{f:La}{D:K5}{A:Ll}{d:O4 Env}{s G:Lm}{H:Hp}{E:XK}{us:O4 K5}{vs:O4 V}
  (S:av N ps scope)(M:A.handled=OQ)(l:qQ P w K F j A d s H)(T:⇑vs=⇑ps)(r:Vals vs us)
  (x:InCallC s ↥s (Mq (envOfC qual scope ↥s f D).kindOf (ps.zip us) λ_=>OQ) (Ms (↥s+1) scope.names []) (Mr (envOfC qual scope ↥s f D).kindOf (ps.zip us) λ_=>OQ) G) :
  Inv (cw CX P w K F j N qual scope f D A d s H E) [] (start N vs) H G:=by
 let Q:⇑ps<=N.length:=by have:=O2 P9 S.pre;rw[hZ]at this;lia
 let(C,R,rfl,J):=x.done;let o:∀b:La,b ∉ (cw CX P w K F j N qual scope f D A d s H E).ex:=λb z=>OY (show b∈([]:O4 La)from z) (by simp)
 refine((l.mod,S.kind,Z,Z,Ab _,λy z c C g=>?_,λy m=>?_,λy c _ h=>?_,λ_=>M,Ll.frames_deeper l.frames,.inr (Z,Z,),λb z=>OY z<|o b,l.bs,l.bsz,λb _ _=>o b,λb z=>OY z<|o b,l.funs,l.frf,),
  rfl,l.bare,Un.kept J,(_,x.toInCall.ns,λi y v C g X=>?_,),λy c h=>(_,x.cell y c h,),l.hok.fresh<|Ab _,λy c h=>?_,λp t=>OY (show p∈([]:O4 (La×Obj))from t) (by simp),l.hok.kept J,?_,)
 .exact name_of_addr x.apart (mem_of_lookup C)<|mem_of_lookup g
 .let m:scope.names.lookup y=OP .cell\/scope.names.lookup y=OP .free:=m;rcases m with m|m
  .exact sV m
  .exact OY Z<|S.nofree _<|mem_of_lookup m
 .exact Dn<|x.above y c<|mem_of_lookup h
 .let hi:i<⇑vs:=by
   unfold start at g;by_cases hi:i<⇑vs
   .exact hi
   .rw[jn (~~~hi)]at g;rw[QG]at g;split at g <;> cases g
  let O:vs[i]?=OP v:=by
   unfold start at g;rw[fo (~~~hi),dy]at g;cases e:vs[i]? with
   |none=>rw[e]at g;cases g
   |some a=>rw[e]at g;cases g;rfl
  let(u,I,L):=r.get O;let t:ps[i]?=OP y:=by
   rw[←S.pre,EQ ∅];exact C
  let B:ps.Nodup:=by rw[←S.pre];exact S.nd.sublist<|vl _ _
  calc(u,L,?_,);rcases S.par y (KP t)with k|k
  .exact .inl (k,pQ B t I k,)
  .let(c,e):=sV (n:=↥s+1) k;calc .inr (.inl k,c,e,?_,);let q:=x.cell y c e;rw[pR B t I (by show scope.names.lookup y≠_;rw[k];decide)]at q;exact q
 .exact l.hok.fresh<|Dn<|x.above y c<|mem_of_lookup h
 .unfold start;show _=N.length;rw[br,aa,oI];lia
def zK{CX:CXT}{P:K7}{w:K6}{K:RD}{l:Str->Option K5}{base:Lb}{k:Nat}{f:La}{name qual:Str}{params:Mt}{body:O4 Lz}{scope:Ln}{G kV doc pm c L Y:K5}{M X:Option La}
  {B:Array (Option K5)}{N ps:O4 Str}{sp:Sp}(lk:K.lookup f=OP (Y,X,.func<|Pu name qual params body scope G kV doc pm M c L,B,))(D:P6 K c qual=OR)(S:av N ps scope)
  (len:∀vs H Q E,sp vs H Q E->⇑vs=⇑ps)
  (eZ:∀(A:Ll)(a:O4 Env)(s:Lm)(H:Hp)(vs:O4 V)(Q:VK)(E:XK),bK k (A.deeper<|envOfC qual scope ↥s f c)->sp vs H Q E ->
   ∃t,PSs (cw CX P w K l base N qual scope f c A a s H E) body t/\t { nx:=λ_ H'=>Q .non H',rt:=Q } (start N vs) H) :
  aK P w K l base CX (k+1) f (Pu name qual params body scope G kV doc pm M c L) ps sp:=by
 calc(len,λA a s H R T vs Q E z h hb r i=>?_,);let hl:=len _ _ _ _ i;let O:K.In s.heap:=h.mod.kin.keeps λb o e=>(h.bs b o e).1
 let C:s.heap.NoLimit:=h.mod.nolimit.keeps λb o e=>(h.bs b o e).1
 let Fd:∀y∈ps.zip T,scope.names.lookup y.1=OP .local\/(scope.names.lookup y.1=OP .cell/\((Ms (↥s+1) scope.names []).lookup y.1).isSome=OR):=λ(n,v,) hy=>by
  rcases S.par n (uW hy).1 with q|q
  .exact .inl q
  .exact .inr (q,W.cellsFrom_some _ _ _<|.inl q,)
 calc codeAny_call_function z.depth (O _ _ lk) Z S.co S.gen Z (W.codeRec_of O D)<|hb _ _ _ _ ?_;refine wpAny_newFunctionEnv_cells S.kind Fd λa0 he F x=>?_
 subst he;calc(C.keeps x.toInCall.keep,codeAny_func ?_,);let(t,ht,hq):=eZ A a s H vs Q E (z.deeper _) i;let I:Inv (cw CX P w K l base N qual scope f c A a s H E) [] (start N vs) H F:=xV S z.hd h hl r x;refine LA (ht [] F (start N vs) H _ I hq) (λfl m g=>?_) λe m g=>g
 let j:∀{d:St}{H':Hp}{v:V}{u:K5},Inv (cw CX P w K l base N qual scope f c A a s H E) [] d H' m->RelV v u->Q v H'->CE a P w H s Q u m :=
  λ{d H' v u} J p q=>(v,H',J.os,J.bare,J.base,J.hok,p,q,)
 cases fl with
 |ret u =>
  let(v,d,H',J,p,q):=g;exact j J p q
 |next =>
  let(d,H',J,q):=g;exact j (v:=V.non) (u:=pc) J Z q
 |brk =>
  let(_,_,_,q):=g;exact kw q
 |cont =>
  let(_,_,_,q):=g;calc kw q
section
variable{x:Str}{t:TA}{id T:String}{r:O4 V->Hp->VK->Prop}
def  tCB(r:O4 V->Hp->VK->Prop)(t:TA):TE:=λσ H Q=>t σ H λa b=>r a b Q
def aw(n:dh X (.builtin id) r)(m:Gl X x)(l:X.mg x=OQ)(j:Lj x=OP (.builtin id))(o:PA X (e :: es) t)(k:x ≠ "__name__" := by decide) (b:(x == ("__debug__" : Str))=false:=by decide)
  (he:Ly (e :: es) X.env=(OS,eval e X.env) :: Ly es X.env:=by rfl)(a:(Lw pos<|Ly es X.env).any (·.1)=false:=by rfl):PE X (.Call (.Name x p) (e :: es) [] pos) (tCB r t):=by
 intro OU s σ H Q I h;calc K4<|fM I m l j ?_ k b;calc PyProof.Rows.callWith_builtin1 (thn (o pos OU s σ H _ I h) λd f (c,u,q,g,i,)=>n OU f σ u c d Q q g i) he a
def bC(n:dh X (.type T) r)(m:Gl X x)(l:X.mg x=OQ)(j:Lj x=OP (.type T))(o:PA X (e :: es) t)(k:x ≠ "__name__" := by decide) (b:(x == ("__debug__" : Str))=false:=by decide)
  (he:Ly (e :: es) X.env=(OS,eval e X.env) :: Ly es X.env:=by rfl)(a:(Lw pos<|Ly es X.env).any (·.1)=false:=by rfl):PE X (.Call (.Name x p) (e :: es) [] pos) (tCB r t):=by
 intro OU s σ H Q I h;calc K4<|fM I m l j ?_ k b;calc RS (thn (o pos OU s σ H _ I h) λd f (c,u,q,g,i,)=>n OU f σ u c d Q q g i) he a
end
end _L
open _L.Cx renaming wish→Ro,nox→Rp
open _L.SqT renaming of→Rn
open _L.SqL renaming of→Rm
open _L.V renaming int→RV,ref→RZ,str→Rk
namespace HT
open PySem PyProof.Rows
section
open PySem.SeqAt
open PySem.AutoSeq1 (wpAny_loadPart')
open PySem.MeetsSeq PySem.MeetsSeq2 PySem.MeetsSeq3
end
section
variable{prog:K7}{w:K6}{A:Ll}{E:K5->Lm->Prop}{s:Lm}
def cat_tup{t b:La}{vs ws:O4 K5}{Q:K5->Lm->Prop}(q:IsTup s.heap t vs.toArray)(r:IsTup s.heap b ws.toArray)(m:vs≠[])
  (v:ws=[]->Q (.ref t) s)(u:ws≠[]->Q (.ref ↥s) { s with heap:=s.heap.push { cls:=.type "tuple",data:=.seq (vs++ws).toArray } })
  (hsz:⇑vs+⇑ws<=Lc):Lq (model prog w) A (L3 .Add (.ref t)<|.ref b) Q E s:=by
 let((cls,dd,data,k),i,p,n,o):=id q;let((x,g,j,c),a,f,l,d):=id r;simp only at p o f d;subst p o f d;let e:vs.toArray++ws.toArray=(vs++ws).toArray:=by simp
 by_cases h:ws=[]
 .exact Mu (_,i,rfl,) (_,a,rfl,) Mv Mw PySem.F.slot_tuple_add PySem.F.entry_tuple_add (PySem.F.args_tuple_add_2 _ _)
   (tuple_addW1 t b vs.toArray ws.toArray n l dd g k c (~~~m) (by simp[h])) (i,a,v h,)
 .refine Mu (_,i,rfl,) (_,a,rfl,) Mv Mw PySem.F.slot_tuple_add PySem.F.entry_tuple_add (PySem.F.args_tuple_add_2 _ _)
   (tuple_addW2 t b vs.toArray ws.toArray n l dd g k c (~~~m) (~~~h) (by rw[fI,fI];exact hsz)) (i,a,?_,)
  rw[e];calc u h
def  sIx(n d:Nat):Option Int->Nat
 |none=>d
 |some v=>if v<0 then(v+(n:Int)).toNat else min v.toNat n
def sIx_nat(n d k:Nat):sIx n d (OP (k:Int))=min k n:=by
 show(if (k:Int)<0 then((k:Int)+(n:Int)).toNat else min (k:Int).toNat n)=min k n;rw[OW ∅,Kn]
def Dy(n d:Nat)(b:d<=n)(o:Option Int):sIx n d o<=n:=by
 cases o with
 |none=>exact b
 |some v =>
  show(if v<0 then(v+(n:Int)).toNat else min v.toNat n)<=n;by_cases a:v<0
  .rw[OX a];lia
  .rw[OW a];calc Nat.min_le_right _ _
def wR(v:Int)(n d:Nat):(if v<0 then max (v+(n:Int)) 0 else min v (n:Int))=((sIx n d (OP v):Nat):Int):=by
 show(if v<0 then max (v+(n:Int)) 0 else min v (n:Int))=(((if v<0 then(v+(n:Int)).toNat else min v.toNat n):Nat):Int);by_cases a:v<0
 .simp only[OX a];lia
 .simp only[OW a];lia
def vn(lo hi:Option Int)(n:Nat):Pf lo hi 1 (n:Int)=(((sIx n 0 lo:Nat):Int),((sIx n n hi:Nat):Int)):=by
 let a:¬ ((1:Int)<0):=∅
 unfold Pf;simp only[a,if_false];refine Prod.ext ?_ ?_
 .cases lo with
  |none=>rfl
  |some v=>exact wR v n 0
 .cases hi with
  |none=>rfl
  |some v=>calc wR v n n
def vo(i j:Nat):KB (i:Int) (j:Int) 1=j-i:=by
 unfold KB;let a:(1:Int)>0:=∅
 simp only[a,if_true,Int.ediv_one];split <;> lia
def m8{v:K5}{o:Option Int}{Q:Option Int->Lm->Prop}(p:Mx v o)(h:Q o s):Lq (model prog w) A (L0.Slice.slicePartIndex v) Q E s:=by
 cases p with
 |none=>exact slicePart_none h
 |int i t=>calc slicePart_int h
def lA{e:La}{d c:K5}{lo hi:Option Int}{n:Nat}{Q:Int×Int×Nat->Lm->Prop}(g:s.heap.IsSliceOf e d c .none)(pl:Mx d lo)(f:Mx c hi)
  (h:Q (((sIx n 0 lo:Nat):Int),1,sIx n n hi-sIx n 0 lo) s):Lq (model prog w) A (Qs (.ref e)<|pure (n:Int)) Q E s:=by
 let(j,a,i,b):=id g;unfold Qs L0.Slice.sliceFields;calc K1<|K1<|Mz a b (x:=d) rfl<|K1<|Mz a b (x:=c) rfl<|K1<|Mz a b (x:=.none) rfl<|K2 ?_;calc K1<|slicePart_none ?_;show Lq _ _ (if ((1:Int) == 0)=OR then _ else _) _ _ s;rw[OW ⋯];calc K1<|m8 pl<|K1<|m8 f<|K1<|K2 ?_;show Lq _ _ (match Pf lo hi 1 (n:Int)with|(lo,hi)=>pure (lo,(1:Int),KB lo hi 1)) _ _ s;rw[vn lo hi n];show Lq _ _ (pure (((sIx n 0 lo:Nat):Int),(1:Int),KB ((sIx n 0 lo:Nat):Int) ((sIx n n hi:Nat):Int) 1)) _ _ s;rw[vo];calc K2 h
def zL(xs:Array K5)(i k:Nat):((bn k).filterMap λ(m:Nat)=>xs[((i:Int)+(m:Int)*1).toNat]?).toArray=((xs.toList.drop i).take k).toArray:=by
 let e:(λ(m:Nat)=>xs[((i:Int)+(m:Int)*1).toNat]?)=λm=>xs[i+m]?:=by
  funext m
  let:((i:Int)+(m:Int)*1).toNat=i+m:=∅
  rw[this]
 rw[e];let:=pick_run xs i k;rw[List.filterMap_map]at this;let a:((λx=>xs[x]?) ∘ λx=>i+x)=λm=>xs[i+m]?:=rfl
 rw[a]at this;rw[this]
def getItem_tuple_cut{t c:La}{items:Array K5}{j i:K5}{lo hi:Option Int}{Q:K5->Lm->Prop}(b:IsTup s.heap t items)(k:s.heap.IsSliceOf c j i .none)(pl:Mx j lo)(l:Mx i hi)
  (hw:¬ (sIx items.size 0 lo=0/\sIx items.size items.size hi=items.size))
  (h:Q (.ref ↥s) { s with heap:=s.heap.push { cls:=.type "tuple",data:=.seq ((items.toList.drop<|sIx items.size 0 lo).take<|sIx items.size items.size hi-sIx items.size 0 lo).toArray } })
  (hsz:items.size<=Lc):Lq (model prog w) A (MA (.ref t)<|.ref c) Q E s:=by
 let a:sizeOk (.seq ((items.toList.drop<|sIx items.size 0 lo).take<|sIx items.size items.size hi-sIx items.size 0 lo).toArray):=by
  show((items.toList.drop<|sIx items.size 0 lo).take<|sIx items.size items.size hi-sIx items.size 0 lo).toArray.size<=Lc;rw[fI,hZ,rz,Ht];lia
 let u:sIx items.size items.size hi<=items.size:=Dy _ _ (Ab _) hi;let(n,d,f,o):=id k;let g:s.TypeIs (.ref c) "slice" := (n,d,f,);unfold MA
 try with_reducible refine K3 ?_
 first|refine K1 (K2 ?_)|skip
 refine K1<|wpAny_sequenceKey b.typeIs ⋯ ?_
 refine K1 (MB (name:=s!"__getitem__") b.typeIs Ev
  (MC Ev b.typeIs entry_tuple_getitem ?_<|args_tuple_getitem _ _))
 show Lq _ _ (Qr (.ref t) >>= _) _ _ s;calc K1<|tupleItemsOf_ b ?_;calc K1<|MD g ?_;rw[OX ⋯];calc K1<|lA k pl l ?_;let e:¬ ((((sIx items.size 0 lo:Nat):Int) == 0 && (1:Int) == 1 && (sIx items.size items.size hi-sIx items.size 0 lo) == items.size)=OR):=by
  intro q;rw[KS,KS]at q;let r:((sIx items.size 0 lo:Nat):Int)=0:=eq_of_beq q.1.1;let p:sIx items.size items.size hi-sIx items.size 0 lo=items.size:=eq_of_beq q.2;exact hw (∅,∅,)
 show Lq _ _ (if (((sIx items.size 0 lo:Nat):Int) == 0 && (1:Int) == 1 && (sIx items.size items.size hi-sIx items.size 0 lo) == items.size)=OR then _ else _) _ _ s;rw[OW e,zL]
 first
  |exact K1 (m:=KM _) (ME (K2 (_,rfl,K2 h,)) a)
  |exact K1 (m:=KM _) (ME (K1<|K2<|K2 (_,rfl,K2 h,)) a)
  |exact K1 (K1 (m:=KM _)<|ME (K2<|K2 (_,rfl,K2 h,)) a)
  |calc K1 (K1 (m:=KM _)<|ME (K2 (_,rfl,K2 h,)) a)
end
end HT
namespace _L
open PySem PySem.Spec PyProof.Rows
abbrev TO:=St->Hp->(Option Int->Rr)->Prop
def  PO(X:Cx)(e:Option Lu)(t:TO):Prop :=
 ∀(a:O4 (La×Obj))(s:Lm)(b:St)(H:Hp)(Q:Option Int->Rr),Inv X a b H s->t b H Q ->
  Lq (model X.prog X.w) X.A (evalPart e X.env) (λu d=>∃o c,Inv X a b c d/\Mx u o/\Q o c) X.xe s
def  BC:TO:=λ_ H Q=>Q OQ H
inductive zM  (Q:Option Int->Rr)(x:V)(H1:Hp):Prop
 |mk (i:_)(_:x=.int i)(_:Q (OP i) H1):zM Q x H1
def  Fe(t:TE):TO:=λa H Q=>t a H λx b=>zM Q x b
variable{X:Cx}
section
variable{e:Lu}{te:TE}{lo hi:Option Lu}{tl th:TO}{pos p2:Pos}
def i5:PO X OQ BC:=by
 intro a s b H Q I h;rw[MG];calc K2 (OQ,H,I,.none,h,)
def i6(h:PE X e te):PO X (OP e) (Fe te):=by
 intro a s b H Q I f;rw[evalPart_some];refine thn (h a s b H _ I f) λu k (x,j,g,c,d,)=>?_
 let(i,rfl,q):=d;let(t,rfl):=c;calc(OP i,j,g,.int i t,q,)
def  SlR(X:Cx)(r:V->Option Int->Option Int->Hp->VK->Prop):Prop :=
 ∀(a:O4 (La×Obj))(s:Lm)(b:St)(H:Hp)(x:V)(v d c:K5)(lo hi:Option Int)(e:La)(Q:VK),Inv X a b H s->RelV x v->s.heap.IsSliceOf e d c .none->Mx d lo->Mx c hi->r x lo hi H Q ->
  ∃T f,MH (.type T) "__getitem__" = pure (OP<|.builtin f)/\s.TypeIs v T/\Lq (model X.prog X.w) X.A (MA v<|.ref e) (EP X a b Q) X.xe s
def  tSl(r:V->Option Int->Option Int->Hp->VK->Prop)(te:TE)(tl th:TO):TE:=λa H Q=>te a H λx d=>tl a d λl c=>th a c λu b=>r x l u b Q
def gf{r:V->Option Int->Option Int->Hp->VK->Prop}(B:SlR X r)(E:PE X e te)(C:PO X lo tl)(y:PO X hi th):PE X (.Subscript e (.Slice lo hi OQ p2) pos) (tSl r te tl th):=by
 intro a s d H Q I h;calc Subscript_<|thn (E a s d H _ I h) λv j (x,N,L,k,o,)=>?_;calc wpAny_Slice<|thn (C a j d N _ L o) λg s2 (l,M,K,t,n,)=>thn (y a s2 d M _ K n) λf c (u,i,J,p,m,)=>?_;rw[MG];calc K2 ?_;let G:Inv X a d i { c with heap:=c.heap.push { cls:=.type "slice",data:=.fields #[g,f,.none] } }:=J.kept (t':=c.toks) λb O q=>ac _ q
 let(T,P,F,z,D):=B a { c with heap:=c.heap.push { cls:=.type "slice",data:=.fields #[g,f,.none] } } d i x v g f l u ↥c Q G k (Lb.IsSliceOf.new ..) t p m;show Lq (model X.prog X.w) X.A (subscriptTail e (.Slice lo hi OQ p2) v<|.ref ↥c) (EP X a d Q) X.xe { c with heap:=c.heap.push { cls:=.type "slice",data:=.fields #[g,f,.none] } };calc tail_any (ops:=[.ref ↥c,v]) z F D (by with_unfolding_all rfl)
def  jg(xs:O4 V)(lo hi:Option Int):O4 V:=(xs.drop<|HT.sIx ⇑xs 0 lo).take<|HT.sIx ⇑xs ⇑xs hi-HT.sIx ⇑xs 0 lo
def mm(xs:O4 V)(lo hi:Option Int):⇑(jg xs lo hi)<=⇑xs:=by
 unfold jg;rw[hZ,rz];lia
inductive Ff(K:RD)(x:V)(lo:Option Int)(hi:Option Int)(H:Hp)(Q:VK):Prop
 |mk (a xs:_)(_:x=.ref a)(_:SqT K H a xs)(_:¬ (HT.sIx ⇑xs 0 lo=0/\HT.sIx ⇑xs ⇑xs hi=⇑xs))(_:∀p,H p=OQ->Q (.ref p) (upd H p<|.tup<|jg xs lo hi))
def vp:SlR X (Ff X.K):=by
 intro i s t H x v w u lo hi y Q I j p l k h;let(a,d,rfl,m,n,q):=h;cases j;let(e,r,g,f):=I.tuple m;let c:e.toArray.size=⇑d:=by rw[fI];exact r.length.symm
 calc("tuple",_,Ev.lookup,g.typeIs,?_,);refine HT.getItem_tuple_cut g p l k (by rw[c];exact n) ?_ (by rw[c];exact f);rw[c];calc(.ref ↥s,_,I.laid (t':=s.toks) (o:=.tup<|jg d lo hi) (λb z q=>ac _ q) (Ab _) ?_,Z,q _<|I.hok.fresh<|Ab _,);calc(BK (mm d lo hi) f,_,(r.drop<|HT.sIx ⇑d 0 lo).take<|HT.sIx ⇑d ⇑d hi-HT.sIx ⇑d 0 lo,Rg _ _,)
inductive CJ(K:RD)(x:V)(y:V)(H:Hp)(Q:VK):Prop
 |mk (a b xs ys:_)(_:x=.ref a)(_:y=.ref b)(_:SqT K H a xs)(_:SqT K H b ys)(_:xs≠[])(_:⇑xs+⇑ys<=Lc)(_:(ys=[]->Q (.ref a) H))(_:(ys≠[]->∀p,H p=OQ->Q (.ref p) (upd H p<|.tup<|xs++ys)))
def Vals.nil_iff{xs:O4 V}{us:O4 K5}(r:Vals xs us):us=[]↔xs=[]:=by
 cases r with
 |nil=>simp
 |cons _ _=>simp
def BD:OpR X (L3 .Add) (CJ X.K):=by
 intro f s B H x y v u Q I k j h;let(a,b,i,g,rfl,rfl,t,r,p,e,m,l):=h;cases k;cases j;let(A,d,n,_):=I.tuple t;let(D,c,p2,_):=I.tuple r;refine HT.cat_tup n p2 (λz=>p<|d.nil_iff.mp z) (λz=>(.ref a,H,I,Z,m<|c.nil_iff.mp z,)) (λz=>?_) (by rw[←⇑d,←⇑c];exact e);calc(.ref ↥s,_,I.laid (t':=s.toks) (o:=.tup<|i++g) (λb C q=>ac _ q) (Ab _) ?_,Z,l (λw=>z<|c.nil_iff.mpr w) _<|I.hok.fresh<|Ab _,);calc(by rw[br];exact e,_,d.append c,Rg _ _,)
end
def  ixN(n:Nat)(i:Int):Option Nat:=if 0<=i then(if i<n then OP i.toNat else OQ)else if -(n:Int)<=i then OP (i+n).toNat else OQ
def  atI{α:Type}(xs:O4 α)(i:Int):Option α:=(ixN ⇑xs i).bind λj=>xs[j]?
def wV{n:Nat}{i:Int}{j:Nat}(h:ixN n i=OP j):seqIndex? i n=OP j/\j<n/\-(n:Int)<=i/\i<n:=by
 unfold ixN at h;by_cases b:0<=i
 .rw[OX b]at h;by_cases a:i<n
  .rw[OX a]at h;let e:i.toNat=j:=bm h;exact(by rw[MI b a,e],∅,∅,a,)
  .rw[OW a]at h;cases h
 .rw[OW b]at h;by_cases a : -(n:Int)<=i
  .rw[OX a]at h;let e:(i+n).toNat=j:=bm h;exact(by rw[seqIndex_neg ∅ a,e],∅,a,∅,)
  .rw[OW a]at h;cases h
def wW{α:Type}{xs:O4 α}{i:Int}{v:α}(h:atI xs i=OP v):∃j,seqIndex? i ⇑xs=OP j/\xs[j]?=OP v/\j<⇑xs/\-(⇑xs:Int)<=i/\i<⇑xs:=by
 unfold atI at h;cases e:ixN ⇑xs i with
 |none=>rw[e]at h;cases h
 |some j =>
  rw[e]at h;let(d,c,b,a):=wV e;calc(j,d,h,c,b,a,)
def bN{α:Type}{xs:O4 α}{j:Nat}{v:α}(h:xs[j]?=OP v):atI xs (j:Int)=OP v:=by
 let a:j<⇑xs:=(KO.mp h).1;let e:ixN ⇑xs (j:Int)=OP j:=by
  unfold ixN;rw[OX ∅,OX ∅];simp
 unfold atI;rw[e];calc h
def kn{α:Type}(xs:O4 α)(v:α):atI (xs++[v]) (-1)=OP v:=by
 let a:⇑(xs++[v])=⇑xs+1:=by simp
 let e:ixN ⇑(xs++[v]) (-1)=OP ⇑xs:=by
  unfold ixN;rw[a,OW ⋯,OX ∅]
  congr 1
  lia
 unfold atI;rw[e];show(xs++[v])[⇑xs]?=OP v;simp
def  BE(b:Lu):Prop:=∀o i,subscripted b OS o i=operate [o,i] (MA o i)
def  IxR(X:Cx)(r:R2):Prop :=
 ∀(c a:Lu)(b:O4 (La×Obj))(s:Lm)(d:St)(H:Hp)(x y:V)(v u:K5)(Q:VK),Inv X b d H s->RelV x v->RelV y u->r x y H Q ->
  subscripted a OS v u=operate [v,u] (MA v u)->Lq (model X.prog X.w) X.A (subscriptTail c a v u) (EP X b d Q) X.xe s
def  MtR(X:Cx)(e:String)(r:V->O4 V->Hp->VK->Prop):Prop :=
 ∀(a:O4 (La×Obj))(s:Lm)(b:St)(H:Hp)(x:V)(c:O4 V)(v:K5)(d:O4 K5)(Q:VK),Inv X a b H s->RelV x v->Vals c d->r x c H Q ->
  Lq (model X.prog X.w) X.A (call (.builtin e) (v :: d)) (EP X a b Q) X.xe s
section
variable{a b:Lu}{ta tb:TE}{pos:Pos}
def aF{r:R2}(i:IxR X r)(k:PE X a ta)(j:PE X b tb)(g:BE b):PE X (.Subscript a b pos) (tOp r ta tb):=by
 intro c s d H Q I h;calc Subscript_<|Dp k j I h λv u s2 x y m l f e q=>i a b c s2 d m x y v u Q l f e q<|g _ _
inductive Dz(K:RD)(x:V)(y:V)(H:Hp)(Q:VK):Prop
 |mk (p xs i v:_)(_:x=.ref p)(_:y=.int i)(_:SqL K H p xs)(_:atI xs i=OP v)(_:Q v H)
inductive DA(K:RD)(x:V)(y:V)(H:Hp)(Q:VK):Prop
 |mk (p xs i v:_)(_:x=.ref p)(_:y=.int i)(_:SqT K H p xs)(_:atI xs i=OP v)(_:Q v H)
def aO:IxR X (Dz X.K):=by
 intro k l a s m H x y v u Q I D C h n;let(p,N,i,z,rfl,rfl,E,G,q):=h;cases D;let(t,rfl):=C;let(g,r,d,O):=I.list E;let(j,c,M,R,L,J):=wW G;let(w,A,f):=r.get M;let F:=⇑r;let P:=jC;let b:EP X a m Q w s:=(z,H,I,f,q,);by_cases o:0<=i
 .let e:i.toNat=j:=by
   rw[MI o J]at c;exact bm c
  exact item_listR d.isList o ∅ (by rw[e];simpa using A) b n
 .let e:(i+(g.toArray.size:Int)).toNat=j:=by
   rw[seqIndex_neg ∅ L]at c;rw[fI,←F];exact bm c
  exact subscriptTail_builtinR (x:=w) d.isList.typeIs MJ.lookup
   (wpAny_getItem_list_neg (Q:=λr B=>r=w/\EP X a m Q r B) d.isList ∅ (by rw[fI] <;> lia) ∅ (by rw[e];simpa using A) (Z,b,)) n
def aZ:IxR X (DA X.K):=by
 intro d e a s f H x y v u Q I m l h n;let(p,G,i,z,rfl,rfl,o,B,q):=h;cases m;let(t,rfl):=l;let(F,r,g,J):=I.tuple o;let(j,D,C,O,N,M):=wW B;let(w,E,b):=r.get C;let A:=⇑r;let L:=jC;let c:EP X a f Q w s:=(z,H,I,b,q,)
 exact subscriptTail_builtinR (x:=w) g.typeIs slot_tuple_getitem.lookup
  (getItem_tuple (j:=j) (Q:=λr k=>r=w/\EP X a f Q r k) g ∅ ∅ (by rw[fI,←A];exact D) (~~~E) (Z,c,)) n
def vq(a:O4 K5)(n j:Nat)(u:K5):ci (·.setIfInBounds j u) { cls:=.type "list",data:=.seq a.toArray n }={ cls:=.type "list",data:=.seq (a.set j u).toArray n }:=by
 simp[ci]
def Inv.lst{b:O4 (La×Obj)}{c:St}{H:Hp}{s:Lm}{p:La}{xs:O4 V}(I:Inv X b c H s)(h:H p=OP (.lst xs)) :
  ∃(a:O4 K5)(n:Nat),Vals xs a/\s.heap.get? p=OP { cls:=.type "list",data:=.seq a.toArray n }/\⇑xs<=Lc:=by
 let(z,a,n,r,e):=I.hok p _ h;calc(a,n,r,e,z,)
def Inv.lstUpd{a:O4 (La×Obj)}{g:St}{H:Hp}{s:Lm}{p:La}{xs ys:O4 V}{c its':O4 K5}{n d:Nat}{f:Obj->Obj}(I:Inv X a g H s)(h:H p=OP (.lst xs))
  (i:s.heap.get? p=OP { cls:=.type "list",data:=.seq c.toArray n }) (hf:f { cls:=.type "list",data:=.seq c.toArray n }={ cls:=.type "list",data:=.seq its'.toArray d }) (r:Vals ys its')(hz:⇑ys<=Lc)(t:Nat) :
  Inv X a g (upd H p<|.lst ys) { s with heap:=s.heap.update p f,toks:=t }:=by
 let e:(s.heap.update p f).get? p=OP { cls:=.type "list",data:=.seq its'.toArray d }:=by
  rw[nw f i (by rw[hf] <;> rfl),hf]
 refine I.write (x:=p) (e:=p) (by rw[h];trivial) (.inl Z) (λb u j q=>(sn _ _<|On j).trans q) (_,e,) ?_;calc(hz,its',d,r,e,)
inductive CK  (o:V)(i:V)(v:V)(H:Hp)(Q:(Rr)):Prop
 |mk (p xs k j:_)(_:o=.ref p)(_:i=.int k)(_:H p=OP (.lst xs))(_:ixN ⇑xs k=OP j)(_:Q (upd H p<|.lst<|xs.set j v)):CK o i v H Q
def set_list:EZ X CK:=by
 intro b s y H o i v F G u Q I B C A h;let(p,z,k,j,rfl,rfl,g,E,q):=h;cases B;let(t,rfl):=C;let(a,n,r,d,D):=I.lst g;let(c,K,m,l):=wV E;let e:=⇑r;let J:=jC;let x:Inv X b y (upd H p<|.lst<|z.set j v) { s with heap:=s.heap.update p (ci (·.setIfInBounds j u)) } :=
  I.lstUpd g d (vq a n j u) (r.set A j) (by rw[jB];exact D) s.toks
 by_cases w:0<=k
 .let f:k.toNat=j:=by
   rw[MI w l]at c;exact bm c
  exact W.ki_setAt d w ∅ (by rw[fI,←e];exact l) (by rw[f];exact(_,x,q,))
 .let f:(k+(a.toArray.size:Int)).toNat=j:=by
   rw[seqIndex_neg ∅ m]at c;rw[fI,←e];exact bm c
  calc W.ki_setBack d ∅ (by rw[fI,←e];exact m) ∅ (by rw[f];exact(_,x,q,))
def qR(lo hi:Option Int)(n:Nat):(MK lo hi OQ n).1=((HT.sIx n 0 lo:Nat):Int)/\(MK lo hi OQ n).2.1=((HT.sIx n n hi:Nat):Int)/\(MK lo hi OQ n).2.2=1:=by
 refine(?_,?_,Z,)
 .cases lo with
  |none=>simp[MK,HT.sIx]
  |some i =>
   simp only[MK,HT.sIx,K0,show(1:Int)>0 by decide,if_true];by_cases h:i<0
   .simp only[h,if_true] <;> lia
   .simp only[h,if_false] <;> lia
 .cases hi with
  |none=>simp[MK,HT.sIx]
  |some i =>
   simp only[MK,HT.sIx,K0,show(1:Int)>0 by decide,if_true];by_cases h:i<0
   .simp only[h,if_true] <;> lia
   .simp only[h,if_false] <;> lia
def oZ(a:O4 K5)(lo hi:Option Int):slicePick a.toArray lo hi OQ=((a.drop<|HT.sIx ⇑a 0 lo).take<|HT.sIx ⇑a ⇑a hi-HT.sIx ⇑a 0 lo).toArray:=by
 let(d,c,b):=qR lo hi a.toArray.size;unfold slicePick;rw[d,c,b];simp only[sliceRange_one,pick_run,fI] <;> rfl
inductive DB(K:RD)(x:V)(lo:Option Int)(hi:Option Int)(H:Hp)(Q:VK):Prop
 |mk (a xs:_)(_:x=.ref a)(_:SqL K H a xs)(_:∀p,H p=OQ->Q (.ref p) (upd H p<|.lst<|jg xs lo hi))
def qS:SlR X (DB X.K):=by
 intro f s p H x v u t lo hi w Q I g m j i h;let(a,c,rfl,l,q):=h;cases g;let(n,r,e,k):=I.list l;let d:=⇑r;calc("list",_,MJ.lookup,e.isList.typeIs,?_,);refine wpAny_getItem_list_slice e.isList m j i .none (by simp) ?_ (by rw[fI] <;> lia);rw[oZ,←d];calc(.ref ↥s,_,I.laid (t':=s.toks) (o:=.lst<|jg c lo hi) (λb y q=>ac _ q) (Ab _) ?_,Z,q _<|I.hok.fresh<|Ab _,);calc(BK (mm c lo hi) k,_,0,(r.drop<|HT.sIx ⇑c 0 lo).take<|HT.sIx ⇑c ⇑c hi-HT.sIx ⇑c 0 lo,am _ Z,)
def  wX:V->Bool
 | .non=>OR
 | .bl _=>OR
 | .int _=>OR
 | .str _=>OR
 |_=>OS
def  eqV:V->V->Bool
 | .non,.non=>OR
 | .bl a,.bl b=>a == b
 | .bl a,.int b=>(if a then 1 else 0) == b
 | .int a,.bl b=>a == (if b then 1 else 0)
 | .int a,.int b=>a == b
 | .str a,.str b=>a == b
 |_,_=>OS
def DC{A:Ll}{s:Lm}{y x:V}{u v:K5}(e:RelV y u)(c:RelV x v)(g:wX y=OR)(f:wX x=OR):Qe A s u v (eqV y x):=by
 cases y with
 |non =>
  cases e;cases x with
  |non=>cases c;exact QL _
  |bl b=>cases c;exact SeqAt.EqAt.none_bool b
  |int b=>obtain⟨t,rfl⟩:=c;exact SeqAt.EqAt.none_int b t
  |str b=>obtain⟨t,rfl⟩:=c;exact SeqAt.EqAt.none_str b t
  |_=>exact OY (show OS=OR from f) bi
 |bl a =>
  cases e;cases x with
  |non=>cases c;exact SeqAt.EqAt.bool_none a
  |bl b=>cases c;exact SeqAt.EqAt.bool_bool a b
  |int b=>obtain⟨t,rfl⟩:=c;exact SeqAt.EqAt.bool_int a b t
  |str b=>obtain⟨t,rfl⟩:=c;exact SeqAt.EqAt.bool_str a b t
  |_=>exact OY (show OS=OR from f) bi
 |int a =>
  let(d,rfl):=e;cases x with
  |non=>cases c;exact SeqAt.EqAt.int_none a d
  |bl b=>cases c;exact SeqAt.EqAt.int_bool a d b
  |int b=>obtain⟨t,rfl⟩:=c;exact SeqAt.EqAt.int_int a d b t
  |str b=>obtain⟨t,rfl⟩:=c;exact Qz a d b t
  |_=>exact OY (show OS=OR from f) bi
 |str a =>
  let(d,rfl):=e;cases x with
  |non=>cases c;exact SeqAt.EqAt.str_none a d
  |bl b=>cases c;exact SeqAt.EqAt.str_bool a d b
  |int b=>obtain⟨t,rfl⟩:=c;exact Qx a d b t
  |str b=>obtain⟨t,rfl⟩:=c;exact SeqAt.EqAt.str_str a d b t
  |_=>exact OY (show OS=OR from f) bi
 |_=>calc OY (show OS=OR from g) bi
def az:dh X (.builtin "len") (λxs H Q=>∃p ys,xs=[.ref p]/\(SqL X.K H p ys\/SqT X.K H p ys)/\Q (.int ⇑ys) H):=by
 intro f s j H xs k Q I r h;let(p,ys,rfl,b,q):=h;let(u,rfl,g):=vals1 r;cases g;let l:=jC;rcases b with b|b
 .let(e,c,d,i):=I.list b;let a:=⇑c;exact Calls.call_len_list d.isList (by simp only[fI] <;> lia) (.int ⇑ys,H,I.tok _,(s.toks+1,by rw[fI,a],),q,)
 .let(e,c,d,i):=I.tuple b;let a:=⇑c;exact len_tuple d (by simp only[fI] <;> lia) (.int ⇑ys,H,I.tok _,(s.toks+1,by rw[fI,a],),q,)
def qT:dh X (.builtin "len") (λxs H Q=>∃z,xs=[.str z]/\⇑z<=Lc/\Q (.int ⇑z) H):=by
 intro a s b H xs c Q I r h;let(z,rfl,d,q):=h;let(u,rfl,t,rfl):=vals1 r;let e:=jC;calc len_str ∅ (.int ⇑z,H,I.tok _,(_,Z,),q,)
def cC:dh X (.type "list") (λxs H Q=>∃p ys,xs=[.ref p]/\(SqL X.K H p ys\/SqT X.K H p ys)/\∀l,H l=OQ->Q (.ref l) (upd H l<|.lst ys)):=by
 intro m s B H xs D Q I r h;let(p,ys,rfl,j,q):=h;let(u,rfl,C):=vals1 r;cases C
 let k:∀(a:O4 K5),Vals ys a->⇑ys<=Lc->∀(c:Lb)(f:Nat),(∀b A,s.heap.get? b=OP A->c.get? b=OP A) ->
   c.get? ↥s=OP { cls:=.type "list",dict:=OQ,data:=.seq a.toArray f,slots:=#[] }->EP X m B Q (.ref ↥s) { s with heap:=c }:=λa d i c f g e =>
  (.ref ↥s,_,I.laid (t':=s.toks) g (Ab _) (show bq X.prog X.w _ c _ (.lst ys) from(i,a,f,d,e,)),Z,q _<|I.hok.fresh<|Ab _,)
 rcases j with j|j
 .let(a,d,v,i):=I.list j;let t:=⇑d;let(o,x,z,n,y):=v.isList;exact ML p (.inl Z) x z y (λc f g e=>k a d i c f g e) (by simp only[fI] <;> lia)
 .let(a,d,v,i):=I.tuple j;let t:=⇑d;let(o,x,z,n,y):=v;exact ML p (.inr Z) x z y (λc f g e=>k a d i c f g e) (by simp only[fI] <;> lia)
def jv:dh X (.type "tuple") (λxs H Q=>∃p ys,xs=[.ref p]/\((SqL X.K H p ys/\∀l,H l=OQ->Q (.ref l) (upd H l<|.tup ys))\/(SqT X.K H p ys/\Q (.ref p) H))):=by
 intro a s j H xs y Q I r h;let(p,ys,rfl,h):=h;let(u,rfl,t):=vals1 r;cases t;rcases h with⟨i,q⟩|⟨i,q⟩
 .let(c,f,g,k):=I.list i;let n:=⇑f;refine call_tuple_list g.isList (λd v=>?_) (by simp only[fI] <;> lia);let m:Inv X a j H { s with heap:=d }:=I.kept (t':=s.toks) v;let x:Inv X a j (upd H d.objs.size<|.tup ys) { s with heap:=d.push { cls:=.type "tuple",data:=.seq c.toArray } } :=
   m.laid (t':=s.toks) (λb o e=>ac _ e) (Ab _) (show bq X.prog X.w _ _ _ (.tup ys) from(k,c,f,Rg _ _,))
  exact(.ref d.objs.size,_,x,Z,q _<|m.hok.fresh<|Ab _,)
 .let(c,f,g,k):=I.tuple i;calc call_tuple_same g (.ref p,H,I,Z,q,)
def  tyV(K:RD)(T:String)(x:V)(H:Hp):Prop:=match x with
 | .str _=>T = "str"
 | .int _=>T = "int"
 | .ref p=>(T = "list" /\ ∃b,SqL K H p b)\/(T = "tuple" /\ ∃o,K.lookup p=OP o/\o.cls=.type "tuple" /\ o.dict=OQ) \/
   (T = "dict" /\ ((∃a,H p=OP (.dK a))\/∃a,H p=OP (.dT a)))\/(T = "set" /\ ∃S n,H p=OP (.set S n))
 |_=>False
def DD{f:O4 (La×Obj)}{m:St}{H:Hp}{s:Lm}{T:String}{x:V}{v:K5}(I:Inv X f m H s)(r:RelV x v)(ty:tyV X.K T x H) :
  s.TypeIs v T/\∀a,v=.ref a->∃l,s.heap.get? a=OP l/\l.dict=none:=by
 cases x with
 |str z =>
  let(t,rfl):=r;cases (show T = "str" from ty);exact⟨typeIs_str s z t,λ_ e=>nomatch e⟩
 |int i =>
  let(t,rfl):=r;cases (show T = "int" from ty);exact⟨typeIs_int s i t,λ_ e=>nomatch e⟩
 |ref p =>
  cases r;rcases ty with⟨rfl,y,q⟩|⟨rfl,o,b,u,g⟩|⟨rfl,b⟩|⟨rfl,S,n,b⟩
  .let(w,_,k,_):=I.list q;calc(k.isList.typeIs,λa e=>?_,);cases e;let(o,n,e,c,g,_):=k;exact(o,e,g,)
  .refine((o,I.kIn p o b,u,),λa e=>?_,);cases e;exact(o,I.kIn _ o b,g,)
  .let z:∃o,s.heap.get? p=OP o/\o.ExactDict:=by
    rcases b with⟨j,b⟩|⟨j,b⟩
    .let(_,_,_,_,o,_,_,e,d,_):=I.hok p _ b;exact(o,e,d,)
    .let(_,_,_,_,o,_,_,e,d,_):=I.hok p _ b;exact(o,e,d,)
   let(o,e,d):=z;calc((o,e,d.1,),λa h=>?_,);cases h;exact(o,e,d.2.1,)
  .let(o,_,_,_,e,d,_):=I.hok p _ b;calc((o,e,d.1,),λa h=>?_,);cases h;exact(o,e,d.2.1,)
 |_=>calc kw ty
def  tBM(K:RD)(T:String)(r:V->O4 V->Hp->VK->Prop)(to:TE)(t:TA):TE:=λa H Q=>to a H λx b=>tyV K T x b/\t a b λc d=>r x c d Q
variable{o e:Lu}{es:O4 Lu}{to:TE}{t:TA}{name:Str}{apos fN:Pos}{T id:String}{r:V->O4 V->Hp->VK->Prop}
def dB(w:PlainAttrs T)(b:Slot T name id)(d:typeOf (.builtin id)=pure (.type "method_descriptor")) (hm:MtR X id r)(z:PE X o to)(A:PA X (e :: es) t)
  (k:Me o name X.env (eval o X.env)=eval o X.env:=by rfl)
  (G:((Lw fN<|Ly (e :: es) X.env).all (λx=>!x.1) && (MM fN<|MN [] X.env).all (λx=>x.1.isSome)
   && decide (⇑(e :: es)+⇑([]:O4 Mo)+(if ([]:O4 Mo).isEmpty then 0 else 1)<30))=true:=by rfl)
  (j:(apos.endLine == fN.line)=true:=by rfl)(y:Ly (e :: es) X.env=(OS,eval e X.env) :: Ly es X.env:=by rfl)(J:(Lw fN<|Ly es X.env).any (·.1)=false:=by rfl) :
  PE X (.Call (.Attribute o name apos) (e :: es) [] fN) (tBM X.K T r to t):=by
 intro a s c H Q I h;calc wpAny_Call_method_late k G j Z<|thn (z a s c H _ I h) λv n (x,F,i,f,ty,u,)=>?_;let(C,B):=DD i f ty;calc(T,id,w,b,d,C,B,?_,);let g:=A fN a n c F _ i u;rw[y]at g⊢;refine QE (by show(OS || (Lw fN<|Ly es X.env).any (·.1))=OS;rw[J] <;> rfl) (Calls.evalArgs_plain ?_);calc thn g λm s2 (l,E,D,p,q,)=>hm a s2 c E x l v m Q D f p q
end
def  MtM(X:Cx)(e:String)(r:V->O4 V->Hp->VK->Prop):Prop :=
 ∀(a:O4 (La×Obj))(s:Lm)(b:St)(H:Hp)(x:V)(c:O4 V)(v:K5)(d:O4 K5)(Q:VK),Inv X a b H s->RelV x v->Vals c d->r x c H Q ->
  Lq (model X.prog X.w) X.A (call (.builtin e) (v :: d)) (EP X a b Q) X.xe s
def Vals.one:∀{x:V}{us:O4 K5},Vals [x] us->∃u,us=[u]/\RelV x u:=vals1
def Vals.two:∀{x y:V}{us:O4 K5},Vals [x,y] us->∃u v,us=[u,v]/\RelV x u/\RelV y v:=vals2
section
variable{OU:O4 (La×Obj)}{σ:St}{H:Hp}{s:Lm}{l b:La}{xs ys zs:O4 V}
def Inv.lset{a its':O4 K5}{n:Nat}{f:Array K5->Array K5}{t':Nat}(I:Inv X OU σ H s)(g:H l=OP (.lst xs))
  (e:s.heap.get? l=OP { cls:=.type "list",data:=.seq a.toArray n }) (hf:f a.toArray=its'.toArray)(b:Vals ys its')(hz:⇑ys<=Lc) :
  Inv X OU σ (upd H l<|.lst ys) { s with heap:=s.heap.update l<|ci f,toks:=t' }:=by
 let q:=PySem.IsL.update e f;rw[hf]at q;refine I.write (x:=l) (e:=l) (by rw[g];exact trivial) (.inl Z) (λh u d c=>(sn s.heap (ci f)<|On d).trans c) (_,q,) ?_;calc(hz,its',_,b,q,)
def Inv.lnew{a:O4 K5}{t':Nat}(I:Inv X OU σ H s)(b:Vals ys a)(hz:⇑ys<=Lc) :
  Inv X OU σ (upd H ↥s<|.lst ys) { s with heap:=s.heap.push { cls:=.type "list",data:=.seq a.toArray },toks:=t' } :=
 I.laid (λ_ _ q=>ac _ q) (Ab _) (hz,a,0,b,am _ Z,)
def Inv.fresh(I:Inv X OU σ H s):H ↥s=none:=I.hok.fresh<|Ab _
def Inv.lstM(I:Inv X OU σ H s)(b:H l=OP (.lst xs)):⇑xs<=Lc/\∃(a:O4 K5)(n:Nat),Vals xs a/\⇑xs=⇑a/\s.heap.get? l=OP { cls:=.type "list",data:=.seq a.toArray n }:=by
 let(z,a,n,r,e):=I.hok l _ b;calc(z,a,n,r,⇑r,e,)
def zP{n:Nat}(h:n<=Lc):Pv n=false:=by
 unfold Pv;calc O0 ∅
end
inductive wY  (x:V)(vs:O4 V)(H:Hp)(Q:VK):Prop
 |mk (l xs y:_)(_:x=.ref l)(_:vs=[y])(_:H l=OP (.lst xs))(_:⇑xs<Lc)(_:Q .non (upd H l<|.lst<|xs++[y])):wY x vs H Q
def bg:MtM X "list.append" wY:=by
 intro c s i H x k v m Q I d f h;let(l,j,y,rfl,rfl,b,o,q):=h;cases d;let(u,rfl,g):=f.one;let(z,a,n,r,p,e):=I.lstM b;refine MO F.slot_list_append (_,e,Z,) F.entry_list_append (F.args_list_append_2 _ _) (PySem.list_append l a.toArray n u (by rw[fI];lia)) (e,?_,);refine(.non,_,I.lset (its':=a++[u]) b e (by simp) (r.append<|.cons g .nil) ?_,Z,q,);rw[br,gR];lia
inductive wZ  (x:V)(vs:O4 V)(H:Hp)(Q:VK):Prop
 |mk (l b xs zs:_)(_:x=.ref l)(_:vs=[.ref b])(_:H l=OP (.lst xs))(_:H b=OP (.lst zs))(_:⇑xs+⇑zs<=Lc)(_:Q .non (upd H l<|.lst<|xs++zs)):wZ x vs H Q
def pT:MtM X "list.extend" wZ:=by
 intro g s A H x E v G Q I i j h;let(l,b,D,B,rfl,rfl,f,p,J,q):=h;cases i;let(u,rfl,k):=j.one;cases k;let(z,a,n,r,K,e):=I.lstM f;let(C,c,o,m,y,t):=I.lstM p;let d:a.toArray.size+c.toArray.size<=Lc:=by rw[fI,fI];lia
 let w:¬ (!a.toArray.isEmpty && Pv (a.toArray.size+c.toArray.size))=true:=by
  rw[zP d,Ch];exact bi
 refine MO F.slot_list_extend (_,e,Z,) F.entry_list_extend (F.args_list_extend_2 _ _)
  (AutoSeq1.list_extend_list_list_0 l a.toArray n b c.toArray o w (by rw[fI];lia) ∅) (e,t,?_,)
 refine(.non,_,I.lset (its':=a++c) f e (by simp) (r.append m) ?_,Z,q,);rw[br];lia
inductive Fi  (x:V)(y:V)(H:Hp)(Q:VK):Prop
 |mk (l b xs zs:_)(_:x=.ref l)(_:y=.ref b)(_:H l=OP (.lst xs))(_:H b=OP (.lst zs))(_:⇑xs+⇑zs<=Lc)(_:∀p,H p=OQ->Q (.ref p) (upd H p<|.lst<|xs++zs)):Fi x y H Q
def qU:OpR X (L3 .Add) Fi:=by
 intro d s t H x y v u Q I g f h;let(l,b,B,w,rfl,rfl,j,k,D,q):=h;cases g;cases f;let(z,a,n,r,E,e):=I.lstM j;let(A,c,C,i,p,o):=I.lstM k;refine PySem.P.add_list e o ?_ (by rw[fI,fI];lia);let m:a.toArray++c.toArray=(a++c).toArray:=by simp
 rw[m];calc(.ref _,_,I.lnew (t':=s.toks) (r.append i) (by rw[br];lia),Z,q _ I.fresh,)
section
variable{prog:K7}{w:K6}{A:Ll}{E:K5->Lm->Prop}{s:Lm}
end
end _L
namespace Att
open PySem PySem.W PySem.Calls PyProof.Rows
def mE{P:MP}{h:Lb}:∀(c:O4 Int)(vs:O4 K5),WellAll P h vs (c.map WData.int)->IntsAre vs c:=by
 intro c;induction c with
 |nil =>
  intro vs w;rw[vr]at w;cases w;exact .nil
 |cons n c d =>
  intro vs w;rw[jl]at w;cases w with
  |cons a b =>
   cases a;calc .cons _ _<|d _ b
def xW{l:OpenLaw}{n:Nat}(u:l.most=OP n){P:MP}{h:Lb}{args:O4 WData}{c:O4 K5}
  (m:l.row.toRowW.claim.pre args=OR)(i:WellAll P h c args) :
  ∃a vs b,c=[bv a]/\args=[WData.list (b.map WData.int)]/\h.get? a=OP { cls:=.type "list",data:=.seq vs.toArray }/\IntsAre vs b/\⇑b<=n:=by
 let j:WShape.hasAll [] args [.list .int]=true:=(pre_splitW m).1;let k:l.pre.holds [] { args:=args }=true:=(pre_splitW m).2;let(d,r,rfl,x,w):=hasAllW_cons j;obtain rfl:=hasAllW_nil w;let(z,rfl,v):=hasW_list x;let(b,rfl):=items_int v;let e:⇑b<=n:=by
  unfold OpenLaw.pre at k;let g:(WTm.not<|.lt (.lit<|.int (n:Int))<|.len<|.arg 0).holds [] { args:=[.list (b.map .int)] }=true:=by
   let g:=(holds_andW k).1;rw[u]at g;exact g
  let f:=condW_of g<|w_not<|w_lt w_lit<|w_len_list<|w_arg rfl;rw[aa]at f;refine GU λq=>?_
  let s:(n:Int)<((⇑b:Nat):Int):=∅
  first
   |(rw[OZ s]at f;exact OY f ⋯)
   |(simp at f;lia)
 cases i with
 |cons p o =>
  cases o;cases p with
  |list t y=>calc(_,_,b,rfl,rfl,t,mE b _ y,e,)
def xX(l:OpenLaw)(args:O4 WData):l.row.toRowW.claim.post args (.bool OR) args=true :=
 postW_of (r:=l.row.toRowW) (X:=(OR == OR))
  (show WShape.has [] (.bool OR) .bool=OR by first|rfl|decide|simp[WShape.has,WShape.arms,WShape.armsAll])
  (show(WTm.eq .res<|.lit<|.bool OR).value [] { args:=args,res:=OP<|.bool OR,after:=args }=OP (.bool<|OR == OR)from w_eq_bool (w_res rfl) w_lit) rfl
def attach_call{l:OpenLaw}{n:Nat}{q:K7}{e:O4 Str}{XP:(Str->Option K5)->Lb->Prop}{y:K6->Lb->Prop}{d:DefRec}
  (D:l.most=OP n)(u:d.params.defaults=[])
  (call:∀(w:K6)(c b:Lm)(k p:Str->Option K5)(h:La)(o:Obj)(pm m doc:K5)(a:La)(vs:O4 K5)(j:O4 Int),
   Ground q e [] XP w c k p b.heap->y w b.heap ->
   b.heap.get? h=OP o->o.data=.func (docDef d.name d.params d.body d.scope pm m doc)->b.heap.CodeRec m d.name->k d.name=↑h ->
   b.heap.get? a=OP { cls:=.type "list",data:=.seq vs.toArray }->IntsAre vs j->⇑j<=n->b.gens = #[] ->
   Md (model l.prog w) MQ (.call (.ref h) ([.ref a],[],)) (λr s'=>r=.ok (.ret<|.bool OR)/\OldK b.heap s'.heap/\s'.os=b.os/\AllBare s'.gens) b) :
  WalkO q e XP y l.row.toRowW d [] (λf vs=>PySem.call f vs):=by
 intro w c b k p G Y h o pm m doc L kV C H v x t F A z Q N R O s P;obtain rfl:L=.none:=Dflts.none x u;obtain rfl:kV=.none:=Dflts.noKw x;let(a,vs,j,rfl,rfl,M,g,i):=xW D N s;calc enter_call<|Mn (call w c b k p h o pm m doc a vs j G Y C (fd_plain H) v t M g i F) λr s' B=>?_;let(rfl,K,J,I):=B;calc(.inl ⟨.bool OR,.bool OR,[],rfl,λ_=>rfl,.bool OR,xX l _,λ_=>⟨Po,λ_ E=>(nomatch E)⟩⟩,K,J,I,)
section
variable{prog:K7}{w:K6}{A:Ll}{E:K5->Lm->Prop}{s:Lm}{K:Frag}
def  ledger(h:Lb)(L d:La):O4 (La×Obj):=(bn h.objs.size).filterMap λa=>if a=L\/a=d then OQ else(h.get? a).map λo=>(a,o)
end
end Att
namespace _L
open PySem PySem.Spec PyProof.Rows
def pU:∀{vs:O4 K5}{a:O4 Int},IntsAre vs a->Vals (a.map RV) vs
 |_,_,.nil=>.nil
 |_,_,.cons n t h=>.cons (t,Z,)<|pU h
def  Kr(H:Hp):Prop:=∀b,H b=OQ\/∃o a,H b=OP (.frz o<|.lst a)
def  inClass(s:Lz)(j:Nat):Lz:=match s with
 | .ClassDef _ _ _ body _ _ _ _ _ _ _=>body.getD j<|.Pass (0,0,0,0,)
 |_=>.Pass (0,0,0,0,)
def  dH(s:Lz):Mt:=match s with
 | .FunctionDef _ a _ _ _ _ _ _ _ _=>a
 |_=>{ posonlyargs:=[],args:=[],vararg:=OQ,kwonlyargs:=[],kw_defaults:=[],kwarg:=OQ,defaults:=[] }
def  bX(s:Lz):O4 Lz:=match s with
 | .FunctionDef _ _ b _ _ _ _ _ _ _=>b
 |_=>[]
def  ao(s:Lz):Ln:=match s with
 | .FunctionDef _ _ _ _ _ _ sc _ _ _=>sc
 |_=>{ kind:=.function,names:=[],isGenerator:=OS,isCoroutine:=OS }
abbrev CX0:CXT:=λ_ _ _ _ _ _=>False
abbrev E0:XK:=λ_ _ _=>False
def bZ{X:Cx}:Passes CX0 X E0:=λ_ _ _ _ _ _ _ h=>h.elim
structure Fun(K:RD)(x qual:Str)(st:Lz)(f:La)(fd:Mi):Prop where
 ex:∃(oc:K5)(od:Option La)(kV doc pm:K5)(an:Option La)(cdv ct:K5)(osl:Array (Option K5)),
  fd=Pu x qual (dH st) (bX st) (ao st) .none kV doc pm an cdv ct/\K.lookup f=OP (oc,od,.func fd,osl,)/\P6 K cdv qual=OR
 kp:Fk K (.ref f)=OR
section
variable{P:K7}{w:K6}{K:RD}{mg:Str->Option K5}{base:Lb}
def Fun.ok{x qual:Str}{st:Lz}{f:La}{g:Mi}{N ps:O4 Str}{k:Nat}{sp:Sp}(F:Fun K x qual st f g)(S:av N ps (ao st))(c:∀vs H Q E,sp vs H Q E->⇑vs=⇑ps)
  (l:∀(b:K5)(A:Ll)(a:O4 Env)(s:Lm)(H:Hp)(vs:O4 V)(Q:VK)(E:XK),bK k (A.deeper<|envOfC qual (ao st) ↥s f b)->sp vs H Q E ->
   ∃t,PSs (cw CX0 P w K mg base N qual (ao st) f b A a s H E).nox (bX st) t/\t { nx:=λ_ H'=>Q .non H',rt:=Q } (start N vs) H):aK P w K mg base CX0 (k+1) f g ps sp:=by
 let(r,p,kV,n,o,v,b,u,m,rfl,i,e):=F.ex;refine zK i e S c λA a s H vs Q E j d=>?_
 let(t,h,q):=l b A a s H vs Q E j d;calc(t,h.nox,q,)
def Fun.binds{x qual:Str}{st:Lz}{f:La}{d:Mi}{ps:O4 Str}(F:Fun K x qual st f d)
  (h:∀(kV doc pm:K5)(c:Option La)(a b:K5)(us:O4 K5),⇑us=⇑ps->Ml (Pu x qual (dH st) (bX st) (ao st) .none kV doc pm c a b) (us,[],)=pure (ps.zip us)):Binds K d ps []:=by
 let(j,i,kV,doc,pm,c,a,b,e,rfl,k,g):=F.ex;calc .all<|h kV doc pm c a b
def fun_mk{x qual:Str}{st:Lz}{f:La}{h:K5}{g e:Option La}{b:Array (Option K5)}{kV doc pm a d:K5}(l:K.lookup f=OP (h,g,.func<|Pu x qual (dH st) (bX st) (ao st) .none kV doc pm e a d,b,))
  (c:P6 K a qual=OR)(k:Fk K (.ref f)=OR):Fun K x qual st f (Pu x qual (dH st) (bX st) (ao st) .none kV doc pm e a d):=((h,g,kV,doc,pm,e,a,d,b,Z,l,c,),k,)
end
def aD{n:Nat}(h:n<=1000):n<Lc:=PQ h ⋯
variable{X:Cx}
def pv(i:Nat){x:Str}{pos:Pos}(d:X.N[i]?=OP x:=by rfl)(b:Vis X.env.scope x:=by first|exact bd Z|exact lf (bd Z)|exact lf (lf Z))(c:(x == ("__debug__" : Str))=false:=by decide)
  (a:(x == ("__classdict__" : Str))=false:=by decide):PE X (.Name x pos) (qK i):=zq d b c a
def cG{A B:Prop}(h:B):if OS=OR then A else B:=by
 rw[OW bi];calc h
def iw{A B:Prop}(h:A):if OR=OR then A else B:=by
 rw[OX Z];calc h
def ck{c A B:Prop} [Decidable c] (b:c->A)(a:¬ c->B):if c then A else B:=by
 by_cases h:c
 .rw[OX h];exact b h
 .rw[OW h];calc a h
def Fj{c A B:Prop} [Decidable c] (a:c)(h:B):if (!decide c)=OR then A else B:=by
 rw[OZ a];calc cG h
def  au(H H':Hp):Prop:=∀b o,H b=OP o->H' b=OP o
def au.refl(H:Hp):au H H:=λ_ _ h=>h
def au.trans{H e d:Hp}(a:au H e)(b:au e d):au H d:=λc o h=>b c o<|a c o h
def au.free{H H':Hp}(e:au H H'){l:La}(h:H' l=Option.none):H l=Option.none:=by
 cases q:H l with
 |none=>rfl
 |some o =>
  rw[e l o q]at h;cases h
def au.seq{K:RD}{H H':Hp}{a:La}{xs:O4 V}(e:au H H')(h:SqL K H a xs):SqL K H' a xs:=by
 rcases h with(h|⟨o,h⟩)|h
 .exact .inl<|.inl<|e _ _ h
 .exact .inl<|.inr (o,e _ _ h,)
 .exact .inr h
abbrev Pr:=Int×Int
def  inR(n:Int)(p:Pr):Bool:=OT (p.1<=n) && decide (n<=p.2)
def  inP(ps:O4 Pr)(n:Int):Bool:=ps.any<|inR n
structure Apart(R:O4 Pr):Prop where
 le:∀p∈R,p.1<=p.2
 gap:R.Pairwise λp q=>p.2+2<=q.1
def sW(R:O4 Pr)(p:Pr)(n:Int):inP (R++[p]) n=(inP R n || inR n p):=by
 unfold inP;rw[List.any_append];simp
structure Ks(R qs:O4 Pr):Prop where
 ap:Apart R
 mem:∀n,inP R n=inP qs n
 cov:∀p∈qs,p.1<=p.2->∃r∈R,r.1<=p.1/\p.2<=r.2
 low:∀r∈R,∃q∈qs,r.1=q.1
def  Callee(P:K7)(w:K6)(K:RD)(b:Str->Option K5)(a:Lb)(k:Nat)(x:Str)(ps:O4 Str)(sp:Sp):Prop :=
 ∃f c,aK P w K b a CX0 k f c ps sp/\Binds K c ps []/\Fk K (.ref f)=OR/\b x=↑f
def Callee.mono{P:K7}{w:K6}{K:RD}{b:Str->Option K5}{a:Lb}{j k:Nat}{x:Str}{ps:O4 Str}{sp:Sp}(C:Callee P w K b a j x ps sp)(h:j<=k):Callee P w K b a k x ps sp:=by
 let(f,c,F,r):=C;calc(f,c,F.mono h,r,)
variable{pos:Pos}
section
variable{k:Nat}{x:Str}{ps:O4 Str}{sp:Sp}{e:Lu}{es:O4 Lu}{t:TA}{p:Pos}
def  tFn(sp:Sp)(t:TA):TE:=λa H Q=>t a H λb c=>sp b c Q E0
def aM(C:Callee X.prog X.w X.K X.mg X.base k x ps sp)(o:bK k X.A)(r:Gl X x)(u:PA X (e :: es) t)(j:(x == ("__debug__" : Str))=false:=by decide)
  (he:Ly (e :: es) X.env=(OS,eval e X.env) :: Ly es X.env:=by rfl)(i:(Lw pos<|Ly es X.env).any (·.1)=false:=by rfl):PE X (.Call (.Name x p) (e :: es) [] pos) (tFn sp t):=by
 let(f,y,F,b,n,m):=C;let h:=BA (E:=E0) (dvs:=[]) (ds:=[]) (p:=p) F o r m n b .nil bZ u j he i;intro d s g H Q I q;calc h d s g H Q I ?_;let l:t g H λa c=>sp a c Q E0:=q
 let v:(λ(a:O4 V)(c:Hp)=>sp (a++[]) c Q E0)=λa c=>sp a c Q E0:=by
  funext a c
  rw[jm]
 show t g H λa c=>sp (a++[]) c Q E0
 rw[v];calc l
end
def  cm(t u:TS):TS:=λD c H=>∃M:Rq,t { D with nx:=M } c H/\∀a b,M a b->u D a b
def aH{X:Cx}{st:Lz}{rest:O4 Lz}{t u:TS}(i:PS X st t)(h:PSs X rest u):PSs X (st :: rest) (cm t u):=by
 intro c s f H D I (M,a,b,);calc LI<|thn (i c s f H { D with nx:=M } I a) λfl g q=>?_;cases fl with
 |next=>obtain⟨d,e,j,q⟩:=q;exact h c g d e D j<|b d e q
 |ret v=>exact q
 |brk=>exact q
 |cont=>calc q
section
variable{OU:O4 (La×Obj)}{σ:St}{H:Hp}{s:Lm}
end
def  bD(H H':Hp):Prop:=∀b a,H b=OP (.tup a)->H' b=OP (.tup a)
def au.tups{H H':Hp}(h:au H H'):bD H H':=λb a e=>h b _ e
def bD.trans{H g f:Hp}(a:bD H g)(b:bD g f):bD H f:=λc d e=>b c d<|a c d e
def eX{H:Hp}{p:La}{o:HO}(h:H p=OQ):bD H (upd H p o):=λb a e=>by rw[ar (bc e h)];calc e
def aS{H:Hp}{p:La}{o:HO}{ys:O4 V}(h:H p=OP (.lst ys)):bD H (upd H p o):=λb a e=>by rw[ar (dZ e h (by intro z;cases z))];calc e
def ai{H:Hp}{p:La}(h:H p=OQ)(o:HO):au H (upd H p o):=λb u q=>by rw[ar (bc q h)];calc q
def au.upd{H H':Hp}{p:La}{o:HO}(s:au H H')(h:H p=OQ):au H (upd H' p o):=λb u q=>by rw[ar (bc q h)];calc s b u q
def  PL(H:Hp):O4 V->O4 (Int×Int)->Prop:=Paired λx p=>∃r,x=.ref r/\H r=OP (.tup [.int p.1,.int p.2])
def PL.mono{H H':Hp}{xs:O4 V}{ps:O4 (Int×Int)}(h:PL H xs ps)(s:bD H H'):PL H' xs ps:=Paired.mapP h λ_ _ (r,e,z,)=>(r,e,s r _ z,)
def PL.get{H:Hp}:∀{xs:O4 V}{ps:O4 (Int×Int)}{i:Nat}{x:V},PL H xs ps->xs[i]?=OP x->∃p r,ps[i]?=OP p/\x=.ref r/\H r=OP (.tup [.int p.1,.int p.2])
 |_,_,_,_,.nil,e=>by simp at e
 |_,_,0,_,.cons (b:=b) (r,e1,z,) _,e=>by simp at e;subst e;exact(b,r,Z,e1,z,)
 |_,_,i+1,x,.cons _ t,e=>by
  let(p,r,q):=PL.get (i:=i) (x:=x) t<|~~~e;calc(p,r,~~~q.1,q.2,)
def PL.length{H:Hp}{xs:O4 V}{ps:O4 (Int×Int)}(h:PL H xs ps):⇑xs=⇑ps:=Paired.length h
def PL.snoc{H:Hp}{xs:O4 V}{ps:O4 (Int×Int)}{r:La}{a b:Int}(h:PL H xs ps)(e:H r=OP (.tup [.int a,.int b])):PL H (xs++[.ref r]) (ps++[(a,b)]):=Paired.snoc h (r,Z,e,)
def PL.last{H:Hp}{xs:O4 V}{ps:O4 (Int×Int)}(h:PL H xs ps)(f:xs≠[]):∃c r d p,xs=c++[.ref r]/\ps=d++[p]/\PL H c d/\H r=OP (.tup [.int p.1,.int p.2]):=by
 induction h with
 |nil=>exact OY Z f
 | @cons a b l1 l2 hd tl ih =>
  cases tl with
  |nil =>
   let(r,e,z):=hd;exact([],r,[],b,by rw[e];rfl,Z,.nil,z,)
  | @cons a2 b2 l3 l4 hd2 tl2 =>
   let(c,r,d,p,k,j,i,g):=ih (by simp);calc(a :: c,r,b :: d,p,by rw[k];rfl,by rw[j];rfl,.cons hd i,g,)
def PL.app{H:Hp}{xs ys:O4 V}{ps a:O4 (Int×Int)}(h:PL H xs ps)(h':PL H ys a):PL H (xs++ys) (ps++a):=by
 induction h with
 |nil=>exact h'
 |cons r t b=>calc .cons r b
def jw{ps:O4 (Int×Int)}{i:Nat}{p:Int×Int}{f:Int×Int->Bool}(e:ps[i]?=OP p)(h:(ps.take i).any f=OS)(a:f p=OS):(ps.take<|i+1).any f=false:=by
 rw[ov,e,List.any_append,h];simp[a]
def vw{ps:O4 (Int×Int)}{i:Nat}{p:Int×Int}{f:Int×Int->Bool}(e:ps[i]?=OP p)(a:f p=OR):ps.any f=true:=zl.mpr (p,KP e,a,)
def V.int_inj{i j:Int}(h:RV i=RV j):i=j:=by cases h;rfl
def xY{i j:Int}(h:decide (RV i=RV j)=OR):i=j:=V.int_inj<|O1 h
def pV{i j:Int}(h:¬ decide (RV i=RV j)=OR):i≠j:=λe=>h<|OZ<|O2 RV e
def mn{p:Prop} [Decidable p] (h:decide p=OR):p:=O1 h
def pW{p:Prop} [Decidable p] (h:¬ decide p=OR):¬ p:=λe=>h<|OZ e
def dI{X:Cx}{K:RD}(h:X.K=K):IxR X (Dz K):=h ▸ aO
def gC{X:Cx}{K:RD}(h:X.K=K):IxR X (DA K):=h ▸ aZ
def  bI(X:Cx)(N:O4 Str)(scope:Ln)(cl:O4 (Str×La))(fp:O4 La)(C:La)(s2:Lm)(a:Hp):Cx :=
 { prog:=X.prog,w:=X.w,K:=X.K,mg:=X.mg,base:=X.base,A:=X.A,N:=N,s₀:=s2,H₀:=a,env:=MR scope cl C X.env,outer:=X.stack,stack:=X.stack,ex:=fp,fn:=λ_=>OS,calm:=X.calm,pn:=[],xe:=λ_ _=>False }
def  PIf(X:Cx)(d:O4 Lu)(t:TT):Prop :=
 ∀(a:O4 (La×Obj))(s:Lm)(b:St)(H:Hp)(Q:Bool->Rr),Inv X a b H s->t b H Q ->
  Lq (model X.prog X.w) X.A (forIn d OR λc r=>if r=OR then do let ok ←Lv c X.env (eval c X.env);pure (O8 ok)else pure (O8 r)) (TP X a b Q) X.xe s
def  Hg:TT:=λ_ H Q=>Q OR H
def bG{X:Cx}:PIf X [] Hg:=λ_ _ _ H _ I h=>wpAny_tests_nil (H,I,h,)
def ko{X:Cx}{c:Lu}{t:TT}(h:PT X c t):PIf X [c] t:=λa s b H Q I q=>wpAny_tests_one<|h a s b H Q I q
structure sX(X:Cx)(N:O4 Str)(fr:O4 Nat)(scope:Ln)(cl:O4 (Str×La))(x:Str):Prop where
 clos:MS scope X.env=pure cl
 kind:scope.kind=.function
 nocell:∀y∈scope.names,y.2≠.cell
 names:∀y∈scope.names,y.2=.local->scope.names.lookup y.1=OP .local
 hx:scope.names.lookup x=OP .local
 nd:N.Nodup
 n0:N[0]?=OP x
 len:N.length=⇑fr+1
 sub:∀(i:Nat)(y:Str),N[i+1]?=OP y->∃j,fr[i]?=OP j/\X.N[j]?=OP y/\(X.env.kindOf y=OP .cell\/X.env.kindOf y=OP .free)/\((relabel scope X.env).names.lookup y=OP .cell\/(relabel scope X.env).names.lookup y=OP .free)
 cells:∀y c,cl.lookup y=OP c->X.env.cells.lookup y=OP c
 has:∀y,((relabel scope X.env).names.lookup y=OP .cell\/(relabel scope X.env).names.lookup y=OP .free)->∃c,cl.lookup y=OP c
def fA{X:Cx}{scope:Ln}{x:Str}(kind:scope.kind=.function)(a:∀y∈scope.names,y.2≠.free)(b:∀y∈scope.names,y.2≠.cell)
  (names:∀y∈scope.names,y.2=.local->scope.names.lookup y.1=OP .local)(f:scope.names.lookup x=OP .local):sX X [x] [] scope [] x:=by
 let g:(relabel scope X.env).names=scope.names:=map_eq_self λy d=>by
  let z:(y.2 == Mp.free)=false:= ~~~a y d
  simp[z]
 let no:∀y,¬ ((relabel scope X.env).names.lookup y=OP .cell\/(relabel scope X.env).names.lookup y=OP .free):=λy h=>by
  rw[g]at h;rcases h with h|h
  .exact b _ (mem_of_lookup h) Z
  .exact a _ (mem_of_lookup h) Z
 calc(MT a,kind,b,names,f,by simp,Z,Z,λi y e=>by simp at e,(λy c e=>by cases e),λy h=>OY h<|no y,)
def bM{X:Cx}{N:O4 Str}{fr:O4 Nat}{scope:Ln}{cl:O4 (Str×La)}{x:Str}(clos:MS scope X.env=pure cl)(kind:scope.kind=.function)(a:∀y∈scope.names,y.2≠.cell)
  (names:∀y∈scope.names,y.2=.local->scope.names.lookup y.1=OP .local)(l:scope.names.lookup x=OP .local)(f:N.Nodup)(g:N[0]?=OP x)(b:N.length=⇑fr+1)
  (sub:((bn ⇑fr).all λi=>match N[i+1]?,fr[i]? with|some y,OP j=>(X.N[j]? == OP y) && ((X.env.kindOf y == OP .cell) && ((relabel scope X.env).names.lookup y == OP .cell))|_,_=>OS)=OR)
  (cells:∀p∈cl,X.env.cells.lookup p.1=OP p.2)(d:((relabel scope X.env).names.all λp=>(p.2 != .cell && p.2 != .free) || (cl.lookup p.1).isSome)=OR):sX X N fr scope cl x:=by
 refine(clos,kind,a,names,l,f,g,b,λi y e=>?_,λy c e=>cells _<|mem_of_lookup e,λy h=>?_,)
 .let hi:i<⇑fr:=by have:=(KO.mp e).1;lia
  let z:=jP.mp sub i<|iT.mpr hi;rw[e,KN hi]at z;simp only[KS,beq_iff_eq]at z;exact(_,KN hi,z.1,.inl z.2.1,.inl z.2.2,)
 .let look:∀k,(relabel scope X.env).names.lookup y=OP k->(k=.cell\/k=.free)->∃c,cl.lookup y=OP c:=λk e m=>by
   let z:=jP.mp d _<|mem_of_lookup e;rcases m with rfl|rfl
   .exact KZ.mp<|~~~z
   .exact KZ.mp<|~~~z
  rcases h with h|h
  .exact look _ h<|.inl Z
  .exact look _ h<|.inr Z
def  gg(a:St)(fr:O4 Nat)(x:Option V):St:=x :: fr.map λj=>(a[j]?).join
def  qV(J:It)(fr:O4 Nat)(tt:TT)(j:TE)(d:St)(Q:VK)(g:Hp):Prop:=∀D,g D=OQ->∃W:Nat->Nat->Rr,(∃m,W 0 m<|upd g D<|.lst [])/\∀i m H,W i m H ->
 (J.stop i H/\Q (.ref D) H)\/(J.go i H/\∀x h,J.yld i H x h->tt (gg d fr<|OP x) h λb f=>if b=OR then j (gg d fr<|OP x) f λy e=>∃c,e D=OP (.lst c)/\⇑c<Lc/\∃a,a<m/\W (i+1) a (upd e D<|.lst<|c++[y])
  else ∃a,a<m/\W (i+1) a f)
def  CM(b:TI)(fr:O4 Nat)(tt:TT)(c:TE):TE:=λa H Q=>b a H λJ d=>qV J fr tt c a Q d
section
variable{prog:K7}{w:K6}{A:Ll}{R:Mc->Lm->Prop}{s:Lm}
def m9{f a d:Lu}{e:O4 Lu}{scope:Ln}{pos:Pos}{it g:K5}{b:Env}(J:Nat->Lm->Prop)
  (turn:∀n s,J n s->Lq (model prog w) A (LR it) (λr j=>match r with
   |none=>R (.ok .next) j
   |some v=>Lq (model prog w) A (LS a it v) (λ_ s2=>Lq (model prog w) A (assign a b v) (λ_ o =>
     Lq (model prog w) A (forIn e OR λc r=>if r=OR then do let ok ←Lv c b (eval c b);pure (O8 ok)else pure (O8 r)) (λok i =>
      if ok=OR then Lq (model prog w) A (eval f b) (λy l=>Lq (model prog w) A (call (.builtin "list.append") [g,y]) (λ_ k=>∃m,m<n/\J m k) (λ_ _=>False) l) (λ_ _=>False) i
      else ∃m,m<n/\J m i) (λ_ _=>False) o) (λ_ _=>False) s2) (λ_ _=>False) j) (λ_ _=>False) s)
  (n:Nat)(h:J n s):Md (model prog w) A (.compLoop (.ListComp f [(a,d,e,0,)] scope pos) 0 it g b) R s:=by
 calc codeAny_loop Z J (λn s t=>?_) n h;show Lq _ A ((compTurn (.ListComp f [(a,d,e,0,)] scope pos) 0 it g b).onRaise (λx=>do noteFrame x b;theTreesLotGoes x)) _ _ s;calc wpAny_noted ?_;rw[compTurn_list];calc K1<|LO<|K1<|LA (turn n s t) (λr j q=>?_) λ_ _ z=>z.elim;cases r with
 |none=>exact K2 q
 |some v =>
  calc K1<|LA q (λ_ s2 D=>?_) λ_ _ z=>z.elim;calc K1<|LA D (λ_ o C=>K1<|LA C (λok i p=>?_) λ_ _ z=>z.elim) λ_ _ z=>z.elim;cases ok with
  |false=>exact K2 (Z,p,)
  |true=>calc K1 (K1<|LA p (λy l B=>K1<|LA B (λ_ k u=>K2<|K2 (Z,u,)) λ_ _ z=>z.elim) λ_ _ z=>z.elim)
end
section
variable{elt iter:Lu}{ifs:O4 Lu}{x:Str}{px:Pos}{scope:Ln}{cl:O4 (Str×La)}{N:O4 Str}{fr:O4 Nat}{tt:TT}{te:TE}
def pX{B:O4 (La×Obj)}{h:St}{s2:Lm}{g:Hp}{it:La}{fp:O4 La}{tn:Nat->Lb->Prop}{J:It}{Q:VK}{E:K5->Lm->Prop}{RR:K5->La->Mc->Lm->Prop}
  (O:sX X N fr scope cl x)(hc:X.calm=OR)(f:Inv X B h g s2)(T:Turn X.prog X.w X.K (.Name x px) J fp it tn)(a1:tn 0 s2.heap)(F:∀b∈fp,ir X B g b)
  (ht:∀fp C s H,PIf (bI X N scope cl fp C s H) ifs tt)(he:∀fp C s H,PE (bI X N scope cl fp C s H) elt te)
  (hW:qV J fr tt te h Q g)
  (fin:∀D C s' H',↥s2<=C->H' C=OQ->(∃m,s'.heap.Ns C m)->Inv X B h H' s'->Q (.ref D) H'->RR (.ref D) C (.ok .next) s') :
  Lq (model X.prog X.w) X.A (MU []) (λa7 s3=>Lq (model X.prog X.w) X.A (MV scope X.env.globals cl [] X.env.qual OQ .none (OP X.env)) (λzQ s4 =>
   Md (model X.prog X.w) X.A (.compStart (.ListComp elt [(.Name x px,iter,ifs,0,)] scope pos) 0 (.ref it) a7 { zQ with scope:=relabel scope X.env }) (RR a7 zQ.locals) s4) E s3) E s2:=by
 refine ME (MW O.nocell (by intro y hy;simp at hy) (λh1 a2 L=>?_) O.kind);dsimp only at a2 L⊢;generalize hG:s2.heap.push { cls:=.type "list",dict:=OQ,data:=.seq ([]:O4 K5).toArray }=G at a2 L⊢;let V:G.objs.size=↥s2+1:=by rw[←hG,jp]
 let q:∀b o,s2.heap.get? b=OP o->h1.get? b=OP o:=λb o e=>L.extBut b o (Bo (by rw[V];exact CP (al e))) (ac _<|hG ▸ ac _ e)
 let zR:h1.get? ↥s2=OP { cls:=.type "list",data:=.seq ([]:O4 K5).toArray 0 }:=L.extBut _ _ (Bo (by rw[V];exact DN _)) (ac _<|hG ▸ am _ Z);let hD:g ↥s2=none:=f.fresh;let I:(bI X N scope cl fp G.objs.size s2 g).Ok:=by
  refine(f.ok.mod,O.kind,f.ok.glob,f.ok.blt,by show ↥s2<=G.objs.size;rw[V];exact D0 _,λy z c e1 e2=>f.ok.inj y z c (O.cells y c e1)<|O.cells z c e2,λy hy=>O.has y hy,λy c z=>OY (show OS=OR from z) bi,f.ok.hd,f.ok.frames,.inl Z,
   λb a=>(?_,λy c e=>(F b a).2.2.2.2.1 y c<|O.cells y c e,),f.bs,BK f.ok.bsz f.sz,λb o e a=>?_,λb a z=>?_,f.stack,f.stkFree,)
  .let(o,e,_):=T.obj _ _ a1 b a;show b≠G.objs.size;exact Bo (by rw[V];exact CP (al e))
  .rcases(F b a).2.2.2.1 with z|z
   .exact f.ok.noex b o e z
   .exact OY (BS (al e)<|BK f.ok.bsz z)<|DE _
  .rcases bz.mp (f.stkSub b z)with z|z
   .exact(F b a).2.1 z
   .exact(F b a).2.2.1 z
 let nh:∀{H':Hp},(∀b∈fp,H' b=OQ)->∀b∈fp,ir (bI X N scope cl fp G.objs.size s2 g) [] H' b:=λhn b a =>
  (hn b a,(I.exf b a).1,I.exfs b a,.inl a,(I.exf b a).2,λp hp=>OY (show p∈([]:O4 (La×Obj))from hp) (by simp),)
 let I':Inv (bI X N scope cl fp G.objs.size s2 g) [] (gg h fr OQ) (upd g ↥s2<|.lst []) { s2 with heap:=h1,toks:=s2.toks+⇑([]:O4 (Str×K5)) }:=by
  refine(I,Z,f.bare,Un.laid q (Ab _) hD,(_,a2,λi y v e1 e2 e3=>?_,),λy c e=>?_,?_,λy c e=>?_,λp hp=>OY (show p∈([]:O4 (La×Obj))from hp) (by simp),f.hok.laid q (Ab _) (BG _,[],0,.nil,zR,),?_,)
  .cases i with
   |zero=>cases e2
   |succ i =>
    let(j,q1,q2,q3,q4):=O.sub i y e1;let M:(h[j]?).join=OP v:=by
     have:(fr.map λj=>(h[j]?).join)[i]?=OP (OP v):=e2;rw[dy,q1]at this;exact bm this
    let e4:h[j]?=OP (OP v):=by
     cases z:h[j]? with
     |none=>rw[z]at M;cases M
     |some t=>rw[z]at M;exact O2 OP M
    let(m,_,hl):=f.loc;let b3:Vis X.env.scope y:=.inr q3;let(u,r,l):=hl j y v q2 e4 b3;calc(u,r,.inr (q4,?_,),);let(c',a5):=O.has y q4;rcases l with⟨k,_⟩|⟨_,c,ec,ic⟩
    .rcases q3 with z|z
     .rw[z]at k;cases k
     .rw[z]at k;cases k
    .let:=O.cells y c' a5;let e':c=c':=bm<|ec.symm.trans this;let(o,ho,hd):=ic;rw[e']at ho;exact(c',a5,o,q c' o ho,hd,)
  .let(v,o,ho,hd):=f.cell y c<|O.cells y c e;exact(v,o,q c o ho,hd,)
  .show upd g ↥s2 (.lst []) G.objs.size=OQ;rw[ar (CD (by rw[V];exact DN _))];exact f.hok.fresh (by rw[V];exact D0 _)
  .let(v,o,ho,hd):=f.cell y c<|O.cells y c e;rw[ar (Bo<|al ho)];exact f.freeC y c<|O.cells y c e
  .show⇑(gg h fr OQ)=N.length;rw[O.len];simp[gg]
 let a4:tn 0 h1:=T.keep _ _ _ a1 λb a o e=>q b o e
 let P:∀s3:Lm,s3={ s2 with heap:=h1,toks:=s2.toks+⇑([]:O4 (Str×K5)) } ->
   Md (model X.prog X.w) X.A (.compLoop (.ListComp elt [(.Name x px,iter,ifs,0,)] scope pos) 0 (.ref it) (.ref ↥s2)<|MR scope cl G.objs.size X.env) (RR (.ref ↥s2) G.objs.size) s3:=by
  rintro s3 rfl;let(W,(m0,w0),a8):=hW _ hD
  refine m9 (λn s'=>∃i t H',Inv (bI X N scope cl fp G.objs.size s2 g) [] (gg h fr t) H' s'/\tn i s'.heap/\(∀b∈fp,H' b=OQ)/\W i n H') ?_ m0
   (0,OQ,_,I',a4,λb a=>by
    rw[ar (by let(o,e,_):=T.obj _ _ a1 b a;exact Bo (al e))];exact(F b a).1,w0,)
  rintro n s' ⟨i,t,H',I3,a3,a6,w3⟩;rcases a8 i n H' w3 with⟨a9,qn⟩|⟨go,step⟩
  .refine thn (T.done (bI X N scope cl fp G.objs.size s2 g) Z Z Z hc i [] s' _ H' _ I3 (nh a6) a3 a9) λr s4 (hr,I4,)=>?_
   subst hr;let(m,S,_):=I4.loc;refine fin _ _ s4 H' (by rw[V];exact D0 _) I4.free (m,S,) (f.call' (ch:=fp) I4.os I4.base I4.hok I4.bare λb a=>?_) qn;exact((F b a).2.2.2.1,(F b a).2.1,(F b a).2.2.2.2.1,(F b a).2.2.2.2.2,)
  .refine thn (T.item (bI X N scope cl fp G.objs.size s2 g) Z Z Z hc i [] s' _ H' _ I3 (nh a6) a3 go) λr s4 (u,hr,h4,)=>?_
   subst hr;refine thn h4 λ_ s5 (y,H5,I5,r5,y5,a0,b5,)=>?_
   let c1:=I5.pinned (nh b5)<|T.obj _ _ a0;let lx:(bI X N scope cl fp G.objs.size s2 g).env.scope.names.lookup x=OP .local:=lookup_relabel_local O.hx;refine thn (aC (X:=bI X N scope cl fp G.objs.size s2 g) (i:=0) O.nd O.n0 (.inl lx) (.inr lx) _ s5 _ H5 y u (λb1 H'=>b1=gg h fr (OP y)/\H'=H5) c1 r5 (Z,Z,)) λ_ s6 (c2,H6,I6,e6,b6,)=>?_
   subst e6;subst b6
   let again:∀{Y:St}{H7:Hp}{s7:Lm}{R:Nat},Y=gg h fr (OP y)->Inv (bI X N scope cl fp G.objs.size s2 g) ([]++dG fp s5.heap) Y H7 s7->R<n->W (i+1) R H7 ->
     ∃m,m<n/\∃i t H',Inv (bI X N scope cl fp G.objs.size s2 g) [] (gg h fr t) H' s7/\tn i s7.heap/\(∀b∈fp,H' b=OQ)/\W i m H':=λ{Y H7 s7 R} e7 I7 S w7=>by
    subst e7;calc(R,S,i+1,OP y,H7,I7.unpinned,T.keep _ _ _ a0 λb a o e=>(I7.pin (b,o)<|hE _<|hE _<|dR a e).1,λb a=>?_,w7,);let(o,e,d):=T.obj _ _ a0 b a;exact(I7.pin (b,o)<|hE _<|hE _<|dR a e).2.1
   refine thn (ht fp G.objs.size s2 g _ s6 _ H6 _ I6<|step y H6 y5) λok s7 (H7,I7,q7,)=>?_
   cases ok with
   |false =>
    rw[OW bi]at q7⊢;let(R,S,w7):=q7;exact again Z I7 S w7
   |true =>
    rw[OX Z]at q7⊢;refine thn (he fp G.objs.size s2 g _ s7 _ H7 _ I7 q7) λu8 s8 (v8,H8,I8,r8,ys,b4,b0,R,S,w8,)=>?_
    refine thn (bg (X:=bI X N scope cl fp G.objs.size s2 g) _ s8 _ H8 (.ref ↥s2) [v8] _ [u8] (λ_ H9=>W (i+1) R H9) I8 Z (.cons r8 .nil) (_,ys,v8,Z,Z,b4,b0,w8,)) λ_ s9 (_,H9,I9,_,w9,)=>?_
    exact again Z I9 S w9
 calc MX (P _ Z)<|T.self _ 0 _ _ _ a4<|P _ Z
def Inv.left{a:O4 (La×Obj)}{h g:St}{s2 s':Lm}{q H':Hp}{C:La}{h':Lb}(f:Inv X a g q s2)(n:Inv X a h H' s')(d:↥s2<=C)(l:H' C=OQ)(i:ln C s'.heap h'):Inv X a h H' { s' with heap:=h' }:=by
 refine n.turned (t':=s'.toks) (it:=C) (λb o m e=>(i.2 b m).trans e) l (CD<|BS f.lt d) (.inr<|BK f.sz d) (λy c e=>?_) λp j=>?_
 .let(v,o,k,_):=f.cell y c e;exact Bo<|BS (al k) d
 .exact Bo<|BS (al (f.pin p j).1) d
def cZ{g:TI}(hi:PI X (.Name x px) iter g)(O:sX X N fr scope cl x)(p:X.calm=OR)(j:∀fp C s H,PIf (bI X N scope cl fp C s H) ifs tt)(o:∀fp C s H,PE (bI X N scope cl fp C s H) elt te)
  (k:∀v,L1 iter X.env v=pure v:=by intro _;rfl):PE X (.ListComp elt [(.Name x px,iter,ifs,0,)] scope pos) (CM g fr tt te):=by
 intro a s f H Q I h;rw[MY];calc MZ (use:=OQ) Z k O.clos O.kind O.names<|thn (hi a s f H _ I h) λv K y=>thn y λF s2 u=>?_;let(it,fp,G,J,P,e,i,T,b,z,r):=u;subst e;refine pX (RR:=λd C=>M0 (model X.prog X.w) X.A X.xe OQ (EP X a f Q) d C) O p i T b z j o r λD C L E t l (m,n,) B q=>?_
 calc(m,n,λM c=>(.ref D,E,i.left B t l c,Z,q,),)
def qW{E:TI}{i:Nat}{y:Str}{d B:Pos}(hN:X.N.Nodup)(F:X.N[i]?=OP y)(S:Loc X.env.scope y)(hi:PI X (.Name x px) iter E)(O:sX X N fr scope cl x)(Y:X.calm=OR)
  (G:∀fp C s H,PIf (bI X N scope cl fp C s H) ifs tt)(W:∀fp C s H,PE (bI X N scope cl fp C s H) elt te)(K:∀v,L1 iter X.env v=pure v:=by intro _;rfl)
  (l:LJ (.ListComp elt [(.Name x px,iter,ifs,0,)] scope pos) (OP<|.Name y d) B.line X.env=pure true:=by rfl)(V:X.fn y=OR\/X.env.scope.names.lookup y=OP .local:=by first|exact .inl Z|exact .inr Z|assumption) :
  PS X (.Assign [.Name y d] (.ListComp elt [(.Name x px,iter,ifs,0,)] scope pos) B) (Bw (CM E fr tt te)<|pK i):=by
 intro b s u H j I h;rw[M3 _ _ _ _ l];calc K1<|LO<|K1 ?_;show Lq _ X.A (do let _ ←comprehension (.ListComp elt [⟨.Name x px,iter,ifs,0⟩] scope pos) scope X.env _ (MU []) OS (eval iter X.env) (OP<|assign (.Name y d) X.env)) _ _ s;calc K1<|LA (MZ (use:=OP<|assign (.Name y d) X.env) (Q:=λ_ c=>SP X b j .next c) Z K O.clos O.kind O.names<|thn (hi b s u H _ I h) λv s1 h1=>thn h1 λa0 s2 h2=>?_) (λ_ c L=>K2<|K2 L) λ_ _ z=>z;let(it,fp,tn,J,H2,e,f,T,k,f2,hW):=h2;subst e;refine pX (Q:=λv H1=>pK i v u H1 j.nx) (RR:=λt C=>M0 (model X.prog X.w) X.A X.xe (OP<|assign (.Name y d) X.env) (λ_ c=>SP X b j .next c) t C) O Y f T k f2 G W hW λD C c H' g P (m,R,) I' q=>?_
 show Lq _ X.A (assign (.Name y d) X.env<|.ref D) _ _ c;calc LN<|lj I' hN F S (v:=.ref D) Z (λs3 I3 (a,n,ha,)=>?_) V;let r:C≠a:=by
  rcases ha with z|z
  .rw[z];exact CD<|BS f.lt g
  .let(v,o,M,_):=f.cell y a z;exact CD<|BS (al M) g
 calc(m,R.sameBut n r,λh' p=>(_,H',f.left I3 g P p,q,),)
def  d6(c:La->Nat->O4 V->Rr)(D:La)(i n:Nat)(d:Hp):Prop:=∃a,a<n-i/\a=n-(i+1)/\i+1<=n/\∃b,c D (i+1) b d
def  c0(c:La->Nat->O4 V->Rr)(D:La)(i n:Nat):VK:=λy b=>∃a,b D=OP (.lst a)/\⇑a<Lc/\d6 c D i n (upd b D<|.lst<|a++[y])
def d6.mk{a:La->Nat->O4 V->Rr}{D:La}{i n:Nat}{b:Hp}{zs:O4 V}(hi:i<n)(h:a D (i+1) zs b):d6 a D i n b:=(n-(i+1),∅,Z,hi,zs,h,)
def c0.mk{b:La->Nat->O4 V->Rr}{D:La}{i n:Nat}{a:Hp}{ys:O4 V}{y:V}(hi:i<n)(e:a D=OP (.lst ys))(c:⇑ys<Lc)(h:b D (i+1) (ys++[y]) (upd a D<|.lst<|ys++[y])):c0 b D i n y a:=(ys,e,c,.mk hi h,)
def dS{K:RD}{a:La}{xs:O4 V}{g:St}{d:Hp}{Q:VK}(c:La->Nat->O4 V->Rr)(n:∀D,d D=OQ->c D 0 [] (upd d D<|.lst []))
  (l:∀D i ys H,d D=OQ->i<=⇑xs->c D i ys H->SqL K H a xs)
  (k:∀D i x ys H,d D=OQ->xs[i]?=OP x->c D i ys H->tt (gg g fr<|OP x) H λb j=>if b=OR then te (gg g fr<|OP x) j (c0 c D i ⇑xs)else d6 c D i ⇑xs j)
  (hd:∀D ys H,d D=OQ->c D ⇑xs ys H->Q (.ref D) H):qV (Itl K a) fr tt te g Q d:=by
 intro D f;calc(λi m H=>m=⇑xs-i/\i<=⇑xs/\∃ys,c D i ys H,(_,Z,BG _,[],n D f,),?_,);rintro i m H ⟨rfl,hi,ys,p⟩;let q:=l D i ys H f hi p;by_cases h:i<⇑xs
 .refine .inr ((xs,xs[i],q,by simp[h],),λx o y=>?_,);let(e,y):=y;subst e;exact k D i x ys _ f (y xs q) p
 .let e:i=⇑xs:=∅
  subst e;calc .inl ((xs,q,Ab _,),hd D ys H f p,)
def cQ{lo:Int}{n:Nat}{f:St}{c:Hp}{Q:VK}(a:La->Nat->O4 V->Rr)(k:∀D,c D=OQ->a D 0 [] (upd c D<|.lst []))
  (j:∀D i ys H,c D=OQ->i<n->a D i ys H->tt (gg f fr<|OP<|.int<|lo+i) H λb h=>if b=OR then te (gg f fr<|OP<|.int<|lo+i) h (c0 a D i n)else d6 a D i n h)
  (hd:∀D ys H,c D=OQ->a D n ys H->Q (.ref D) H):qV (Itr lo n) fr tt te f Q c:=by
 intro D g;calc(λi m H=>m=n-i/\i<=n/\∃ys,a D i ys H,(_,Z,BG _,[],k D g,),?_,);rintro i m H ⟨rfl,hi,ys,p⟩;by_cases d:i<n
 .refine .inr (d,λx l y=>?_,);let(e,y):=y;subst e;subst y;exact j D i ys _ g d p
 .let e:i=n:=∅
  subst e;calc .inl (Ab _,hd D ys H g p,)
end
structure ni(X:Cx)(N:O4 Str)(k:Nat)(fr:O4 Nat)(scope:Ln)(cl:O4 (Str×La)):Prop where
 clos:MS scope X.env=pure cl
 kind:scope.kind=.function
 nocell:∀y∈scope.names,y.2≠.cell
 names:∀y∈scope.names,y.2=.local->scope.names.lookup y.1=OP .local
 len:N.length=k+⇑fr
 sub:∀(i:Nat)(y:Str),N[k+i]?=OP y->∃j,fr[i]?=OP j/\X.N[j]?=OP y/\(X.env.kindOf y=OP .cell\/X.env.kindOf y=OP .free)/\((relabel scope X.env).names.lookup y=OP .cell\/(relabel scope X.env).names.lookup y=OP .free)
 cells:∀y c,cl.lookup y=OP c->X.env.cells.lookup y=OP c
 has:∀y,((relabel scope X.env).names.lookup y=OP .cell\/(relabel scope X.env).names.lookup y=OP .free)->∃c,cl.lookup y=OP c
def dJ{X:Cx}{N:O4 Str}{k:Nat}{scope:Ln}(d:N.length=k)(kind:scope.kind=.function)(a:∀y∈scope.names,y.2≠.free)(b:∀y∈scope.names,y.2≠.cell)
  (names:∀y∈scope.names,y.2=.local->scope.names.lookup y.1=OP .local):ni X N k [] scope []:=by
 let g:(relabel scope X.env).names=scope.names:=map_eq_self λy f=>by
  let z:(y.2 == Mp.free)=false:= ~~~a y f
  simp[z]
 let no:∀y,¬ ((relabel scope X.env).names.lookup y=OP .cell\/(relabel scope X.env).names.lookup y=OP .free):=λy h=>by
  rw[g]at h;rcases h with h|h
  .exact b _ (mem_of_lookup h) Z
  .exact a _ (mem_of_lookup h) Z
 refine(MT a,kind,b,names,by rw[d];rfl,λi y e=>?_,(λy c e=>by cases e),λy h=>OY h<|no y,);let:=(KO.mp e).1;lia
def  cH(a:St)(fr:O4 Nat)(ts:St):St:=ts++fr.map λj=>(a[j]?).join
def  fB(J:It)(p:TG)(k:Nat)(fr:O4 Nat)(tt:TT)(o:TE)(f:St)(Q:VK)(l:Hp):Prop:=∀D,l D=OQ->∃W:Nat->Nat->Rr,(∃m,W 0 m<|upd l D<|.lst [])/\∀i m H,W i m H ->
 (J.stop i H/\Q (.ref D) H)\/(J.go i H/\∀x n,J.yld i H x n->∀g:St,⇑g=k->p x (cH f fr g) n λa q=>(∃d:St,⇑d=k/\a=cH f fr d)/\tt a q λb j=>if b=OR then o a j λy h=>∃e,h D=OP (.lst e)/\⇑e<Lc/\∃c,c<m/\W (i+1) c (upd h D<|.lst<|e++[y])
  else ∃c,c<m/\W (i+1) c j)
def  zT(b:TI)(d:TG)(k:Nat)(fr:O4 Nat)(tt:TT)(c:TE):TE:=λa H Q=>b a H λJ e=>fB J d k fr tt c a Q e
section
variable{elt iter tg:Lu}{ifs:O4 Lu}{scope:Ln}{cl:O4 (Str×La)}{N:O4 Str}{k:Nat}{fr:O4 Nat}{gt:TG}{tt:TT}{te:TE}
def nj{B:O4 (La×Obj)}{q:St}{s2:Lm}{g:Hp}{it:La}{fp:O4 La}{tn:Nat->Lb->Prop}{J:It}{Q:VK}{E:K5->Lm->Prop}{RR:K5->La->Mc->Lm->Prop}
  (O:ni X N k fr scope cl)(hc:X.calm=OR)(f:Inv X B q g s2)(T:Turn X.prog X.w X.K tg J fp it tn)(a1:tn 0 s2.heap)(F:∀b∈fp,ir X B g b)
  (ht:∀fp C s H,PIf (bI X N scope cl fp C s H) ifs tt)(he:∀fp C s H,PE (bI X N scope cl fp C s H) elt te)
  (hg:∀fp C s H,PG (bI X N scope cl fp C s H) tg gt)(hW:fB J gt k fr tt te q Q g)
  (fin:∀D C s' H',↥s2<=C->H' C=OQ->(∃m,s'.heap.Ns C m)->Inv X B q H' s'->Q (.ref D) H'->RR (.ref D) C (.ok .next) s') :
  Lq (model X.prog X.w) X.A (MU []) (λa9 s3=>Lq (model X.prog X.w) X.A (MV scope X.env.globals cl [] X.env.qual OQ .none (OP X.env)) (λzQ s4 =>
   Md (model X.prog X.w) X.A (.compStart (.ListComp elt [(tg,iter,ifs,0,)] scope pos) 0 (.ref it) a9 { zQ with scope:=relabel scope X.env }) (RR a9 zQ.locals) s4) E s3) E s2:=by
 refine ME (MW O.nocell (by intro y hy;simp at hy) (λh1 a2 L=>?_) O.kind);dsimp only at a2 L⊢;generalize hG:s2.heap.push { cls:=.type "list",dict:=OQ,data:=.seq ([]:O4 K5).toArray }=G at a2 L⊢;let V:G.objs.size=↥s2+1:=by rw[←hG,jp]
 let x:∀b o,s2.heap.get? b=OP o->h1.get? b=OP o:=λb o e=>L.extBut b o (Bo (by rw[V];exact CP (al e))) (ac _<|hG ▸ ac _ e)
 let zR:h1.get? ↥s2=OP { cls:=.type "list",data:=.seq ([]:O4 K5).toArray 0 }:=L.extBut _ _ (Bo (by rw[V];exact DN _)) (ac _<|hG ▸ am _ Z);let hD:g ↥s2=none:=f.fresh;let I:(bI X N scope cl fp G.objs.size s2 g).Ok:=by
  refine(f.ok.mod,O.kind,f.ok.glob,f.ok.blt,by show ↥s2<=G.objs.size;rw[V];exact D0 _,λy z c e1 e2=>f.ok.inj y z c (O.cells y c e1)<|O.cells z c e2,λy hy=>O.has y hy,λy c z=>OY (show OS=OR from z) bi,f.ok.hd,f.ok.frames,.inl Z,
   λb a=>(?_,λy c e=>(F b a).2.2.2.2.1 y c<|O.cells y c e,),f.bs,BK f.ok.bsz f.sz,λb o e a=>?_,λb a z=>?_,f.stack,f.stkFree,)
  .let(o,e,_):=T.obj _ _ a1 b a;show b≠G.objs.size;exact Bo (by rw[V];exact CP (al e))
  .rcases(F b a).2.2.2.1 with z|z
   .exact f.ok.noex b o e z
   .exact OY (BS (al e)<|BK f.ok.bsz z)<|DE _
  .rcases bz.mp (f.stkSub b z)with z|z
   .exact(F b a).2.1 z
   .exact(F b a).2.2.1 z
 let nh:∀{H':Hp},(∀b∈fp,H' b=OQ)->∀b∈fp,ir (bI X N scope cl fp G.objs.size s2 g) [] H' b:=λhn b a =>
  (hn b a,(I.exf b a).1,I.exfs b a,.inl a,(I.exf b a).2,λp hp=>OY (show p∈([]:O4 (La×Obj))from hp) (by simp),)
 let I':Inv (bI X N scope cl fp G.objs.size s2 g) [] (cH q fr<|AC k OQ) (upd g ↥s2<|.lst []) { s2 with heap:=h1,toks:=s2.toks+⇑([]:O4 (Str×K5)) }:=by
  refine(I,Z,f.bare,Un.laid x (Ab _) hD,(_,a2,λi y v e1 e2 e3=>?_,),λy c e=>?_,?_,λy c e=>?_,λp hp=>OY (show p∈([]:O4 (La×Obj))from hp) (by simp),f.hok.laid x (Ab _) (BG _,[],0,.nil,zR,),?_,)
  .by_cases a6:i<k
   .let h:(AC k OQ++fr.map λj=>(q[j]?).join)[i]?=OP (OP v):=e2;rw[fo (by rw[oI];exact a6),QG,OX a6]at h;cases h
   .let(j,q1,q2,q3,q4):=O.sub (i-k) y (by rw[show k+(i-k)=i by lia];exact e1);let h:(q[j]?).join=OP v:=by
     have:(AC k OQ++fr.map λj=>(q[j]?).join)[i]?=OP (OP v):=e2;rw[jn (by rw[oI];lia),oI,dy,q1]at this;exact bm this
    let e4:q[j]?=OP (OP v):=by
     cases z:q[j]? with
     |none=>rw[z]at h;cases h
     |some t=>rw[z]at h;exact O2 OP h
    let(m,_,hl):=f.loc;let b4:Vis X.env.scope y:=.inr q3;let(u,r,l):=hl j y v q2 e4 b4;calc(u,r,.inr (q4,?_,),);let(c',a7):=O.has y q4;rcases l with⟨k,_⟩|⟨_,c,ec,ic⟩
    .rcases q3 with z|z
     .rw[z]at k;cases k
     .rw[z]at k;cases k
    .let:=O.cells y c' a7;let e':c=c':=bm<|ec.symm.trans this;let(o,ho,hd):=ic;rw[e']at ho;exact(c',a7,o,x c' o ho,hd,)
  .let(v,o,ho,hd):=f.cell y c<|O.cells y c e;exact(v,o,x c o ho,hd,)
  .show upd g ↥s2 (.lst []) G.objs.size=OQ;rw[ar (CD (by rw[V];exact DN _))];exact f.hok.fresh (by rw[V];exact D0 _)
  .let(v,o,ho,hd):=f.cell y c<|O.cells y c e;rw[ar (Bo<|al ho)];exact f.freeC y c<|O.cells y c e
  .show⇑(cH q fr<|AC k OQ)=N.length;rw[O.len];simp[cH]
 let a5:tn 0 h1:=T.keep _ _ _ a1 λb a o e=>x b o e
 let M:∀s3:Lm,s3={ s2 with heap:=h1,toks:=s2.toks+⇑([]:O4 (Str×K5)) } ->
   Md (model X.prog X.w) X.A (.compLoop (.ListComp elt [(tg,iter,ifs,0,)] scope pos) 0 (.ref it) (.ref ↥s2)<|MR scope cl G.objs.size X.env) (RR (.ref ↥s2) G.objs.size) s3:=by
  rintro s3 rfl;let(W,(m0,w0),b0):=hW _ hD
  refine m9 (λn s'=>∃i P H',P.length=k/\Inv (bI X N scope cl fp G.objs.size s2 g) [] (cH q fr P) H' s'/\tn i s'.heap/\(∀b∈fp,H' b=OQ)/\W i n H') ?_ m0
   (0,AC k OQ,_,oI,I',a5,λb a=>by
    rw[ar (by let(o,e,_):=T.obj _ _ a1 b a;exact Bo (al e))];exact(F b a).1,w0,)
  rintro n s' ⟨i,P,H',b6,I3,a4,a8,w3⟩;rcases b0 i n H' w3 with⟨b1,qn⟩|⟨go,step⟩
  .refine thn (T.done (bI X N scope cl fp G.objs.size s2 g) Z Z Z hc i [] s' _ H' _ I3 (nh a8) a4 b1) λr s4 (hr,I4,)=>?_
   subst hr;let(m,S,_):=I4.loc;refine fin _ _ s4 H' (by rw[V];exact D0 _) I4.free (m,S,) (f.call' (ch:=fp) I4.os I4.base I4.hok I4.bare λb a=>?_) qn;exact((F b a).2.2.2.1,(F b a).2.1,(F b a).2.2.2.2.1,(F b a).2.2.2.2.2,)
  .refine thn (T.item (bI X N scope cl fp G.objs.size s2 g) Z Z Z hc i [] s' _ H' _ I3 (nh a8) a4 go) λr s4 (u,hr,h4,)=>?_
   subst hr;refine thn h4 λ_ s5 (y,H5,I5,r5,y5,a0,c1,)=>?_
   let c2:=I5.pinned (nh c1)<|T.obj _ _ a0;refine thn (hg fp G.objs.size s2 g _ s5 _ H5 y u _ c2 r5<|step y H5 y5 P b6) λ_ s6 (c3,H6,I6,(a3,Hh,e6,),q6,)=>?_
   subst e6
   let again:∀{Y:St}{H7:Hp}{s7:Lm}{R:Nat},Y=cH q fr a3->Inv (bI X N scope cl fp G.objs.size s2 g) ([]++dG fp s5.heap) Y H7 s7->R<n->W (i+1) R H7 ->
     ∃m,m<n/\∃i P H',P.length=k/\Inv (bI X N scope cl fp G.objs.size s2 g) [] (cH q fr P) H' s7/\tn i s7.heap/\(∀b∈fp,H' b=OQ)/\W i m H':=λ{Y H7 s7 R} e7 I7 S w7=>by
    subst e7;calc(R,S,i+1,a3,H7,Hh,I7.unpinned,T.keep _ _ _ a0 λb a o e=>(I7.pin (b,o)<|hE _<|hE _<|dR a e).1,λb a=>?_,w7,);let(o,e,d):=T.obj _ _ a0 b a;exact(I7.pin (b,o)<|hE _<|hE _<|dR a e).2.1
   refine thn (ht fp G.objs.size s2 g _ s6 _ H6 _ I6 q6) λok s7 (H7,I7,q7,)=>?_
   cases ok with
   |false =>
    rw[OW bi]at q7⊢;let(R,S,w7):=q7;exact again Z I7 S w7
   |true =>
    rw[OX Z]at q7⊢;refine thn (he fp G.objs.size s2 g _ s7 _ H7 _ I7 q7) λu8 s8 (v8,H8,I8,r8,ys,b5,b3,R,S,w8,)=>?_
    refine thn (bg (X:=bI X N scope cl fp G.objs.size s2 g) _ s8 _ H8 (.ref ↥s2) [v8] _ [u8] (λ_ H9=>W (i+1) R H9) I8 Z (.cons r8 .nil) (_,ys,v8,Z,Z,b5,b3,w8,)) λ_ s9 (_,H9,I9,_,w9,)=>?_
    exact again Z I9 S w9
 calc MX (M _ Z)<|T.self _ 0 _ _ _ a5<|M _ Z
def d7{g:TI}(hi:PI X tg iter g)(O:ni X N k fr scope cl)(t:X.calm=OR)(p:∀fp C s H,PG (bI X N scope cl fp C s H) tg gt)(j:∀fp C s H,PIf (bI X N scope cl fp C s H) ifs tt)(r:∀fp C s H,PE (bI X N scope cl fp C s H) elt te)
  (l:∀v,L1 iter X.env v=pure v:=by intro _;rfl):PE X (.ListComp elt [(tg,iter,ifs,0,)] scope pos) (zT g gt k fr tt te):=by
 intro a s f H Q I h;rw[MY];calc MZ (use:=OQ) Z l O.clos O.kind O.names<|thn (hi a s f H _ I h) λv L z=>thn z λG s2 y=>?_;let(it,fp,K,J,R,e,i,T,b,B,u):=y;subst e;refine nj (RR:=λd C=>M0 (model X.prog X.w) X.A X.xe OQ (EP X a f Q) d C) O t i T b B j r p u λD C M F x n (m,o,) E q=>?_
 calc(m,o,λP c=>(.ref D,F,i.left E x n c,Z,q,),)
def jD{K:RD}{a:La}{xs:O4 V}{j:St}{f:Hp}{Q:VK}(c:La->Nat->O4 V->Rr)(s:∀D,f D=OQ->c D 0 [] (upd f D<|.lst []))
  (r:∀D i ys H,f D=OQ->i<=⇑xs->c D i ys H->SqL K H a xs)
  (o:∀D i x ys H,f D=OQ->xs[i]?=OP x->c D i ys H->∀ts:St,⇑ts=k->gt x (cH j fr ts) H λd t=>(∃g:St,⇑g=k/\d=cH j fr g)/\tt d t λb n=>if b=OR then te d n (c0 c D i ⇑xs)else d6 c D i ⇑xs n)
  (hd:∀D ys H,f D=OQ->c D ⇑xs ys H->Q (.ref D) H):fB (Itl K a) gt k fr tt te j Q f:=by
 intro D h;calc(λi m H=>m=⇑xs-i/\i<=⇑xs/\∃ys,c D i ys H,(_,Z,BG _,[],s D h,),?_,);rintro i m H ⟨rfl,hi,ys,p⟩;let q:=r D i ys H h hi p;by_cases l:i<⇑xs
 .refine .inr ((xs,xs[i],q,by simp[l],),λx u y=>?_,);let(e,y):=y;subst e;exact o D i x ys _ h (y xs q) p
 .let e:i=⇑xs:=∅
  subst e;calc .inl ((xs,q,Ab _,),hd D ys H h p,)
end
def jx{X:Cx}{K:RD}{a:O4 Lu}{k:Nat}{t:TGs}{n:Nat}{pos:Pos}(e:X.K=K)(d:X.calm=OR)(h:PGs X a t)(c:⇑(LK a X.env)=n:=by rfl)(b:(LK a X.env).findIdx? (·.1)=none:=by rfl):PG X (.Tuple a k pos) (Dk K n t):=e ▸ eK d h c b
end _L
namespace Srt
open PySem PySem.W PyProof.Rows
def  Ok(n:Nat)(lt:Nat->Nat->Bool){α:Type}:KasT α->(α->Prop)->Prop
 | .ret a,Q=>Q a
 | .ask i j k,Q=>i<n/\j<n/\Ok n lt (k<|lt i j) Q
section
variable{n:Nat}{lt:Nat->Nat->Bool}
abbrev g(p:Array Nat)(i:Nat):Nat:=p.getD i 0
structure Ord(lt:Nat->Nat->Bool):Prop where
 tr:∀a b c,lt b a=OS->lt c b=OS->lt c a=OS
 as:∀a b,lt a b=OR->lt b a=OS
end
end Srt
namespace _L
open PySem PySem.Spec PySem.W PyProof.Rows
variable{prog:K7}{w:K6}{A:Ll}{E:K5->Lm->Prop}{s:Lm}
variable{X:Cx}
def w6{n:Int}{p:Pr}:inR n p=OR↔p.1<=n/\n<=p.2:=by
 unfold inR;simp only[KS,decide_eq_true_eq]
def xa{n:Int}{R:O4 Pr}:inP R n=OR↔∃p∈R,p.1<=n/\n<=p.2:=by
 unfold inP;rw[zl];calc(λ(p,h,e,)=>(p,h,w6.mp e,),λ(p,h,e,)=>(p,h,w6.mpr e,),)
structure Kl(S A B A0 B0:O4 Pr):Prop where
 ap:Apart S
 aA:Apart A
 aB:Apart B
 mem:∀n,(inP A0 n && inP B0 n)=(inP S n || (inP A n && inP B n))
 gap:∀s∈S,(∀p∈A,s.2+2<=p.1)\/(∀p∈B,s.2+2<=p.1)
structure Kt(F T:O4 Pr)(lo hi st:Int):Prop where
 ap:Apart F
 lt:∀s∈F,s.2+2<=st
 rng:∀s∈F,lo<=s.1/\s.2<=hi
 tk:∀p∈T,p.2<st
 fr:st=lo\/∃p∈T,st=p.2+1
 ge:lo<=st
 mem:∀n,lo<=n->n<=hi->n<st->inP F n = !inP T n
structure Walk(ts:O4 (Int×Int×Int)):Prop where
 le:∀t∈ts,t.1<=t.2.1
 nx:∀(i:Nat) a b,ts[i]?=OP a->ts[i+1]?=OP b->b.1=a.2.1+1
def  pcs(msk:Int->Bool)(ts:O4 (Int×Int×Int))(n:Int):Bool:=ts.any λt=>inR n (t.1,t.2.1) && msk t.2.2
structure Ku(R:O4 Pr)(ts:O4 (Int×Int×Int))(msk:Int->Bool)(i:Nat)(at_:Int):Prop where
 ap:Apart R
 mem:∀n,inP R n=pcs msk (ts.take i) n
 lt:∀r∈R,r.2<at_
 few:2*R.length<=i\/(2*R.length<=i+1/\∃R' l,R=R'++[l]/\l.2=at_-1)
variable{i:Nat}
section
variable{R:O4 Pr}{ts:O4 (Int×Int×Int)}{msk:Int->Bool}{at_:Int}{t:Int×Int×Int}
end
def  ends(R:O4 Pr):O4 Int:=R.flatMap λp=>[p.1,p.2+1]
def pY(R:O4 Pr)(p:Pr):ends (R++[p])=ends R++[p.1,p.2+1]:=by
 unfold ends;rw[tu];simp
def xZ(R:O4 Pr)(p:Pr):ends (p :: R)=p.1 :: (p.2+1) :: ends R:=rfl
def nk{R:O4 Pr}{e:Int}:e∈ends R↔∃p∈R,e=p.1\/e=p.2+1:=by
 unfold ends;rw[jT];simp
def xc{l:O4 Int}(h:l.Pairwise (· < ·)){i j:Nat}{x y:Int}(hi:l[i]?=OP x)(b:l[j]?=OP y)(a:i<j):x<y:=by
 let(d,rfl):=KO.mp hi;let(c,rfl):=KO.mp b;calc Db.mp h i j d c a
def  cnt:O4 Pr->Int
 | []=>0
 |p :: R=>(p.2-p.1+1)+cnt R
def  b2(b:Bool):Int:=if b=OR then 1 else 0
def mq(a:O4 Int):∀k,k<=⇑a->preSum (λi=>a.getD i 0) k=(a.take k).sum
 |0,_=>rfl
 |k+1,h=>by
  let b:=mq a k ∅;show preSum (λi=>a.getD i 0) k+a.getD k 0=_;let e:a[k]?=OP a[k]:=KN ∅;rw[b,ov,e,oQ,ab,e];simp
def fO(D:X.calm=OR):dh X (.builtin "sum") (λus H Q=>∃(a:La)(c:O4 Int),us=[.ref a]/\SqL X.K H a (c.map RV)/\Q (.int c.sum) H):=by
 intro p s J H us L Q I r h;let(a,c,rfl,B,q):=h;let(u,rfl,x):=r.one;cases (show u=bv a from x);let(d,l,j,N):=I.list B;let k:=⇑l;rw[aa]at k;let(M,G,_):=id j.isList;let f:a<↥s:=al G;calc call_sum_walkG<|LZ j.isList ?_;refine(↥s,[↥s,a],[↥s],_,_,_,λi=>c.getD i 0,Z,QR (A:=X.A.in1) (I.ok.hd D) _ a (Bo f) d.toArray,((_,am _ Z,Z,Z,),j.isList.at λo e=>ac _ e,),λb E=>?_,λi v e=>?_,λO w t' C=>?_,)
 .show b<(s.heap.push _).objs.size;rw[jp];rcases bz.mp E with z|z
  .rw[z];exact DN _
  .let g:b=a:= ~~~z
   rw[g];exact CP f
 .let n:d[i]?=OP v:= ~~~e
  let hi:i<⇑c:=by rw[k];exact(KO.mp n).1
  let F:(c.map RV)[i]?=OP (.int c[i]):=by rw[dy,KN hi];rfl
  let(u,m,y):=l.get F;rw[n]at m;cases m;let(t,rfl):=y;exact(t,by show Qa c[i] t=Qa (c.getD i 0) t;rw[ab,KN hi];rfl,)
 .refine(.int c.sum,H,I.kept (t':=w) λb o e=>C b o (λz=>?_)<|ac _ e,(t',?_,),q,)
  .let g:b=↥s:= ~~~z
   exact OY (al e) (by rw[g];exact DE _)
  .rw[fI,←k,mq c _<|Ab _,gs]
def iz:∀{A B:O4 Int},A.Pairwise (· < ·)->B.Pairwise (· < ·)->(∀c,c∈A↔c∈B)->A=B
 | [],[],_,_,_=>rfl
 | [],b :: B,_,_,h=>by have:=(h b).mpr<|.head _;cases this
 |a :: A,[],_,_,h=>by have:=(h a).mp<|.head _;cases this
 |a :: A,b :: B,hA,hB,h=>by
  let(i,j):=oD.mp hA;let(g,b2):=oD.mp hB;let e:a=b:=by
   rcases bz.mp ((h a).mp<|.head _)with e|e
   .exact e
   .rcases bz.mp ((h b).mpr<|.head _)with f | f
    .exact f.symm
    .let:=i b f;let:=g a e;lia
  subst e
  congr 1
  refine iz j b2 λc=>(λd=>?_,λd=>?_,)
  .rcases bz.mp ((h c).mp<|.tail _ d)with e|e
   .let:=i c d;lia
   .exact e
  .rcases bz.mp ((h c).mpr<|.tail _ d)with e|e
   .let:=g c d;lia
   .exact e
def  NeS(W:O4 (Int×Int×Int)):Prop:=∀(j:Nat) a b,W[j]?=OP a->W[j+1]?=OP b->a.2.2≠b.2.2
structure Km(G ts:O4 (Int×Int×Int))(i:Nat):Prop where
 walk:Walk G
 ne:NeS G
 pcs:∀msk n,pcs msk G n=_L.pcs msk (ts.take i) n
 hd:∀t,ts[0]?=OP t->0<i->∃g,G[0]?=OP g/\g.1=t.1
 lst:∀t,ts[i-1]?=OP t->0<i->∃G' g,G=G'++[g]/\g.2.1=t.2.1/\g.2.2=t.2.2
 len:G.length<=i
 stt:∀g∈G,∃t∈ts,g.2.2=t.2.2
section
variable{G ts:O4 (Int×Int×Int)}{t:Int×Int×Int}
end
def  Its(z:Str):It:=(λi _=>i<z.cps.size,λi H x a=>a=H/\∃c,z.cps[i]?=OP c/\x=.str ⟨#[c]⟩,λi _=>z.cps.size<=i,)
def vx{P:K7}{w:K6}{K:RD}{L:Lu}(z:Str)(t:Tok)(it:La):Turn P w K L (Its z) [it] it (λi h=>h.IsStrIter it "str_ascii_iterator" z t i) where
 mem:=by simp
 obj:=λi h f b g=>by
  let(o,e,c,d):=f;rw[show b=it by simpa using g];exact⟨o,e,λv q=>by rw[d]at q;cases q⟩
 keep:=λi h m (o,e,r,) k=>(o,k it (by simp) o e,r,)
 item:=by
  intro X u n x J i a s G H E I l f p;subst u n x;let F:i<z.cps.size:=p;let hi:z.cps[i]?=OP z.cps[i]:=HA F;let(D,C,N,B,A,y):=l it (by simp);refine wpAny_pyNext_ascii_item f hi λm j M=>?_
  let Q:Inv X a G H { s with heap:=m,toks:=s.toks+1 }:=I.turned (t':=s.toks+1) (λb o g e=>(M.2 b g).trans e) D C B A y;let(o,e,c,d):=id j;exact(_,Z,pL (s:={ s with heap:=m,toks:=s.toks+1 }) e c d ⋯ (.str ⟨#[z.cps[i]]⟩,H,Q,(_,Z,),(Z,_,hi,Z,),j,λb g=>(l b g).1,),)
 done:=by
  intro X u n x J i a s G H E I l f p;subst u n x;let(D,C,N,B,A,y):=l it (by simp);exact wpAny_pyNext_ascii_end (I.ok.hd J) f (~~~(show z.cps.size<=i from p)) λm O=>(Z,I.turned (t':=s.toks) (λb o g e=>O b o g e) D C B A y,)
 self:=λ_ _ _ _ _ f h=>wpAny_pyIter_striter_ascii f h
def ya{P:K7}{w:K6}{K:RD}{L:Lu}(z:Str)(t:Tok)(it:La):Turn P w K L (Its z) [it] it (λi h=>h.IsStrIter it "str_iterator" z t i) where
 mem:=by simp
 obj:=λi h f b g=>by
  let(o,e,c,d):=f;rw[show b=it by simpa using g];exact⟨o,e,λv q=>by rw[d]at q;cases q⟩
 keep:=λi h m (o,e,r,) k=>(o,k it (by simp) o e,r,)
 item:=by
  intro X u n x J i a s G H E I l f p;subst u n x;let F:i<z.cps.size:=p;let hi:z.cps[i]?=OP z.cps[i]:=HA F;let(D,C,N,B,A,y):=l it (by simp);refine wpAny_pyNext_wide_item f hi λm j M=>?_
  let Q:Inv X a G H { s with heap:=m,toks:=s.toks+1 }:=I.turned (t':=s.toks+1) (λb o g e=>(M.2 b g).trans e) D C B A y;let(o,e,c,d):=id j;exact(_,Z,pL (s:={ s with heap:=m,toks:=s.toks+1 }) e c d ⋯ (.str ⟨#[z.cps[i]]⟩,H,Q,(_,Z,),(Z,_,hi,Z,),j,λb g=>(l b g).1,),)
 done:=by
  intro X u n x J i a s G H E I l f p;subst u n x;let(D,C,N,B,A,y):=l it (by simp);exact wpAny_pyNext_wide_end (I.ok.hd J) f (~~~(show z.cps.size<=i from p)) λm O=>(Z,I.turned (t':=s.toks) (λb o g e=>O b o g e) D C B A y,)
 self:=λ_ _ _ _ _ f h=>wpAny_pyIter_striter_wide f h
section
variable{tg:Lu}
inductive CN  (R:(It->Rr))(x:V)(H1:Hp):Prop
 |mk (z:_)(_:x=.str z)(_:R (Its z) H1):CN R x H1
def  Hi(b:TE):RD->St->Hp->(It->Rr)->Prop:=λ_ a H R=>b a H λx c=>CN R x c
def DG{l:Lu}{i:TE}(n:PE X l i):PI X tg l (Hi i X.K):=by
 intro c s j H R I h;refine thn (n c s j H _ I h) λv a (x,g,f,k,m,)=>?_
 let(z,e,q):=m;subst e;let(t,rfl):=k;let d:∀b∈[↥a],ir X c g b:=λb p=>by
  rw[show b=↥a by simpa using p];exact f.fpOk (Ab _)<|f.hok.fresh<|Ab _
 cases ha:z.cps.all (· < 128) with
 |true=>exact wpAny_pyIter_ascii ha (↥a,[↥a],_,_,g,Z,f.kept (t':=a.toks) λb o e=>ac _ e,vx z t _,(_,am _ Z,Z,Z,),d,q,)
 |false=>calc wpAny_pyIter_wide ha (↥a,[↥a],_,_,g,Z,f.kept (t':=a.toks) λb o e=>ac _ e,ya z t _,(_,am _ Z,Z,Z,),d,q,)
end
def BH{z:Str}{g:TG}{k:TS}{D:Ends}{a:St}{H:Hp}(b:Nat->Rq)(t:b 0 a H)
  (r:∀i c a H,z.cps.toList[i]?=OP c->b i a H->g (.str ⟨#[c]⟩) a H λd j=>k { D with nx:=b<|i+1,ct:=b<|i+1,bk:=D.nx } d j)(s:∀a H,b z.cps.size a H->D.nx a H) :
  ∃W:Nat->Nat->Rq,(∃m,W 0 m a H)/\∀i m a H,W i m a H ->
   ((Its z).stop i H/\D.nx a H)\/((Its z).go i H/\∃N:Rq,(∀f H',N f H'->∃l,l<m/\W (i+1) l f H')/\∀x H',(Its z).yld i H x H'->g x a H' λd j=>k { D with nx:=N,ct:=N,bk:=D.nx } d j):=by
 calc(λi m a H=>m=z.cps.size-i/\i<=z.cps.size/\b i a H,(_,Z,BG _,t,),?_,);rintro i m a H ⟨rfl,hi,p⟩;by_cases h:i<z.cps.size
 .refine .inr (h,b<|i+1,λf H' q=>(z.cps.size-(i+1),∅,Z,h,q,),λx H' y=>?_,);let(e,c,o,n):=y;subst e;subst n;exact r i c a _ (~~~o) p
 .let e:i=z.cps.size:=∅
  subst e;calc .inl (Ab _,s a H p,)
def gh{x:Str}{v:V}{pos:Pos}(a:Gl X x)(h:∃u,X.mg x=OP u/\RelV v u)(b:(x == ("__debug__" : Str))=false:=by decide):PE X (.Name x pos) (tC v):=by
 let(_,m,r):=h;calc dY a m r b
def  sg(g:Str)(c:Nat):Bool:=!(NE g ⟨#[c]⟩ 0 ⇑g 1).isEmpty
def  sY(z g:Str):Bool:=z.cps.toList.all<|sg g
open PySem.NumText
structure Kv(cs:O4 Nat):Prop where
 all:AllDigits cs
 one:⇑cs=1\/∃c r,cs=c :: r/\49<=c
def fC{X:Cx}:OpR X (L3 .Mult) (rI L4 λi j=>.int<|i*j):=opI λ_ _ _ _ _ _ _ a q=>mul_int q a
def  Hj(h:Lb)(e T:La)(cls:K5)(f:K5×K5)(fl:K5):Prop :=
 ∃b a d c,h.get? e=OP b/\(b.cls=cls/\a[0]?=OP f.1/\a[2]?=OP f.2)/\b.data=.fields a/\a[1]?=↑T/\T≠e/\h.get? T=OP d/\d.data=.fields c/\c[3]?=OP fl
abbrev Hk(h:Lb)(e T:La)(a:K5)(b:K5×K5):Prop:=Hj h e T a b .none
structure Stp(F X:O4 La)(h h':Lb):Prop where
 keep:∀b o,b ∉ F->b ∉ X->h.get? b=OP o->h'.get? b=OP o
 slot:∀b o,b∈F->h.get? b=OP o->∃sl,h'.get? b=OP { o with slots:=sl }
variable{base:Lb}{e:La}{oe:Obj}
section
variable{M:Lp}{env:Env}{outer:O4 Env}{L T:La}{vs:Array K5}{a0:K5×K5}{cls fl:K5}{Q:Unit->Lm->Prop}{Ts:O4 La}
end
variable{P:K7}{H:Hp}
section
variable{H':Hp}{h h':Lb}{a:La}{o:HO}{F Y fs:O4 La}
end
structure CO(X:Cx)(OU:O4 (La×Obj))(H:Hp)(b:La):Prop where
 ent:X.s₀.heap.get? b=OQ
 unt:H b=OQ
 loc:b≠X.env.locals
 cel:∀x c,X.env.cells.lookup x=OP c->c≠b
 pin:∀p∈X.pn++OU,p.1≠b
variable{OU:O4 (La×Obj)}{σ:St}
section
variable{h':Lb}{T:La}
end
structure Hl(K:RD)(C:La):Prop where
 ex:∃(bmB bmN:O4 K5)(newId B Bn nid DH inN:String),W.excIn K C bmB newId=OR/\ExcBaseFacts Bn newId inN bmN/\bmB.contains (xL Bn)=OR/\ExcBaseFacts B nid DH bmB
variable{K:RD}
section
variable{mg:Str->Option K5}{N:O4 Str}{qual:Str}{scope:Ln}{f:La}{cd:K5}{outer:O4 Env}{s0:Lm}{H0:Hp}{E:XK}
end
def  XP(X:Cx)(OU:O4 (La×Obj))(σ:St)(d:La->Rr)(b:K5)(s':Lm):Prop :=
 ∃(e T C:La)(c:K5×K5)(a:Hp),b=.ref e/\Inv X OU σ a s'/\Hk s'.heap e T (.ref C) c/\CO X OU a e/\CO X OU a T/\d C a
section
variable{s':Lm}
end
variable{k:Nat}{x:Str}{ps:O4 Str}{sp:Sp}{pos:Pos}
section
variable{e:Lu}{es:O4 Lu}{t:TA}{p:Pos}
abbrev TSX:=Ends->St->Hp->(La->Rr)->Prop
end
section
variable{s':Lm}
end
section
variable{st b₀:Lz}{su:O4 Lz}{tb:TSX}{ts:La->La->TS}{Tn n:Str}{B:La}{np Hm:Pos}
end
structure GR(K:RD)(C:La):Prop where
 ga:wl K (.ref C) "__getattribute__" = OP (OP<|.builtin "BaseException.__getattribute__")
 hk:wl K (.ref C) "__getattr__" = OP OQ
 cl:wl K (.ref C) "__class__" = OP (OP<|.builtin "object.__class__")
 gt:O9 K (.builtin "object.__class__") "__get__" = OP (OP<|.builtin "getset_descriptor.__get__")
 tk:W.takesIn K (.builtin "object.__class__")=OP OR
 ob:W.mroIn K C (.type "object")=OP OR
 be:W.mroIn K C (.type "BaseException")=OP OR
 me:W.kitCls K (.ref C) (.ref C)=OP OR
variable{C:La}
def  bp(CX:CXT)(P:K7)(w:K6)(K:RD)(b:Str->Option K5)(base:Lb)(k:Nat)(C:La)(m:Str)(ps:O4 Str)(sp:Sp):Prop :=
 ∃f a,Meth K C m f/\aK P w K b base CX k f a ps sp/\Binds K a ps []
def  bA(CX:CXT)(P:K7)(w:K6)(K:RD)(a:Str->Option K5)(base:Lb)(k:Nat)(x:Str)(C:La)(ps:O4 Str)(sp:Sp):Prop :=
 ∃f b,Mk K C f/\aK P w K a base CX k f b ps sp/\Binds K b ps []/\a x=↑C
structure Fl(K:RD)(B:La)(m:Str)(f:La):Prop where
 sp:O9 K (.ref B) "__getattribute__" = OP (OP<|.builtin "type.__getattribute__")
 rd:W.readsIn K B (.type "type")=OR
 at_:W.findCls K (.ref B) (.type "type") m=OP (.val<|.ref f)
 kp:Fk K (.ref f)=OR
def  cx(CX:CXT)(P:K7)(w:K6)(K:RD)(a:Str->Option K5)(base:Lb)(k:Nat)(x:Str)(m:Str)(ps:O4 Str)(sp:Sp):Prop :=
 ∃f b B,Fl K B m f/\aK P w K a base CX k f b ps sp/\Binds K b ps []/\a x=↑B
section
variable{CX:CXT}{mg:Str->Option K5}{j:Nat}{m:Str}
def bp.mono(c:bp CX P w K mg base j C m ps sp)(h:j<=k):bp CX P w K mg base k C m ps sp:=by
 let(f,a,M,F,b):=c;calc(f,a,M,F.mono h,b,)
def bA.mono(c:bA CX P w K mg base j x C ps sp)(h:j<=k):bA CX P w K mg base k x C ps sp:=by
 let(f,a,M,F,b):=c;calc(f,a,M,F.mono h,b,)
def cx.mono(c:cx CX P w K mg base j x m ps sp)(h:j<=k):cx CX P w K mg base k x m ps sp:=by
 let(f,a,B,M,F,b):=c;calc(f,a,B,M,F.mono h,b,)
end
inductive Fn(C:La)(m:Str)(sp:Sp)(t:TA)(σ:St)(Q:VK)(x:V)(H1:Hp):Prop
 |mk (a dx fs:_)(_:x=.ref a)(_:H1 a=OP (.ins C dx fs))(_:fs.lookup m=OQ)(_:t σ H1 λvs H2=>sp (x :: vs) H2 Q E0)
def  tMt(C:La)(m:Str)(sp:Sp)(a:TE)(t:TA):TE:=λσ H Q=>a σ H λx b=>Fn C m sp t σ Q x b
def  tMk(C:La)(sp:Sp)(t:TA):TE:=λσ H Q=>t σ H λc b=>∀x a,b x=OQ->b a=OQ->a≠x ->
 sp (.ref x :: c) (upd (upd b a<|.own x) x<|.ins C a []) (λv d=>v=.non/\Q (.ref x) d) E0
section
variable{CX:CXT}{f:La}{fd:Mi}{m:Str}{p np apos:Pos}{e o:Lu}{es:O4 Lu}{ta:TE}{t:TA}
def DI{OU:O4 (La×Obj)}{σ:St}{H:Hp}{s:Lm}{Q:VK}{us:O4 K5}{vs:O4 V}{E:XK}(F:aK X.prog X.w X.K X.mg X.base CX k f fd ps sp)(b:bK k X.A)(c:Binds X.K fd ps [])(a:Passes CX X E)
  (I:Inv X OU σ H s)(r:Vals vs us)(h:sp vs H Q E):Lq (model X.prog X.w) X.A (call (.ref f) us) (EP X OU σ Q) X.xe s :=
 vm (dvs:=[]) (ds:=[]) F b c .nil a I r (by rw[jm];exact h)
def pZ{pl:Sem Bool}(M:bp CX X.prog X.w X.K X.mg X.base k C m ps sp)(z:Passes CX X E0)(c:Cls X.K C)(D:bK k X.A)(E:PE X o ta)(J:PA X (e :: es) t)
  (b:Ly (e :: es) X.env=(OS,eval e X.env) :: Ly es X.env:=by rfl)(d:(Lw pos<|Ly es X.env).any (·.1)=false:=by rfl)
  (B:eval (.Call (.Attribute o m apos) (e :: es) [] pos) X.env=(do
   let g ←eval o X.env
   LF apos.atName
   let (f,first) ←holding [g] (Mb g m pl)
   M4 pos f first (Lw pos<|Ly (e :: es) X.env) (MM pos<|MN [] X.env)):=by rfl) :
  PE X (.Call (.Attribute o m apos) (e :: es) [] pos) (tMt C m sp ta t):=by
 let(f,fd,i,F,G):=M;intro OU s σ H Q I h;calc Qq (pl:=pl) (thn (E OU s σ H _ I h) λu p (x,O,n,v,a,P,fs,L,N,l,q,)=>?_) B;subst L;obtain rfl:u=bv a:=v;calc m6 n N c i l ?_;calc Op (first:=[.ref a]) (h₀:=X.base) I.ok.mod.kin i.kp (thn (J pos OU p σ O _ n q) λus s2 (vs,R,j,r,y,)=>(j.kIn,?_,)) b d;calc DI (us:=.ref a :: us) (vs:=.ref a :: vs) F D G z j (.cons Z r) y
def fD{pl:Sem Bool}(M:cx CX X.prog X.w X.K X.mg X.base k x m ps sp)(l:Passes CX X E0)(o:bK k X.A)(q:Gl X x)(y:PA X (e :: es) t)(d:(x == ("__debug__" : Str))=false:=by decide)
  (b:Ly (e :: es) X.env=(OS,eval e X.env) :: Ly es X.env:=by rfl)(c:(Lw pos<|Ly es X.env).any (·.1)=false:=by rfl)
  (n:eval (.Call (.Attribute (.Name x np) m apos) (e :: es) [] pos) X.env=(do
   let g ←eval (.Name x np) X.env
   LF apos.atName
   let (f,first) ←holding [g] (Mb g m pl)
   M4 pos f first (Lw pos<|Ly (e :: es) X.env) (MM pos<|MN [] X.env)):=by rfl) :
  PE X (.Call (.Attribute (.Name x np) m apos) (e :: es) [] pos) (tFn sp t):=by
 let(f,fd,B,a,F,u,p):=M;intro OU s σ H Q I h;calc Qq (pl:=pl) (i0 I q p ?_ d) n;calc W.method_cls I.kIn a.sp<|W.cls_value (mc:=.type "type") I.kIn a.rd a.at_ (pN (v:=.ref f) Z) ?_;calc Op (first:=[]) (h₀:=X.base) I.ok.mod.kin a.kp (thn (y pos OU _ σ H _ (I.tok _) h) λus s2 (vs,z,i,r,j,)=>(i.kIn,?_,)) b c;calc DI (us:=us) (vs:=vs) F o u l i r j
def sZ(M:bA CX X.prog X.w X.K X.mg X.base k x C ps sp)(l:Passes CX X E0)(m:bK (k+1) X.A)(o:Gl X x)(u:PA X (e :: es) t)(i:(x == ("__debug__" : Str))=false:=by decide)
  (he:Ly (e :: es) X.env=(OS,eval e X.env) :: Ly es X.env:=by rfl)(g:(Lw pos<|Ly es X.env).any (·.1)=false:=by rfl) :
  PE X (.Call (.Name x p) (e :: es) [] pos) (tMk C sp t):=by
 let(f,fd,M,F,r,n):=M;let h:=BB (E:=E0) (dvs:=[]) (ds:=[]) (p:=p) M F m o n r .nil l u i he g;intro OU s σ H Q I q;calc h OU s σ H Q I ?_;let j:t σ H λc b=>∀x a,b x=OQ->b a=OQ->a≠x->sp (.ref x :: c) (upd (upd b a<|.own x) x<|.ins C a []) (λv d=>v=.non/\Q (.ref x) d) E0:=q
 show t σ H λc b=>∀x a,b x=OQ->b a=OQ->a≠x->sp (.ref x :: (c++[])) (upd (upd b a<|.own x) x<|.ins C a []) (λv d=>v=.non/\Q (.ref x) d) E0
 let y:(λ(c:O4 V)(b:Hp)=>∀x a,b x=OQ->b a=OQ->a≠x->sp (.ref x :: (c++[])) (upd (upd b a<|.own x) x<|.ins C a []) (λv d=>v=.non/\Q (.ref x) d) E0)=λc b=>∀x a,b x=OQ->b a=OQ->a≠x->sp (.ref x :: c) (upd (upd b a<|.own x) x<|.ins C a []) (λv d=>v=.non/\Q (.ref x) d) E0:=by
  funext c b
  rw[jm]
 rw[y];calc j
end
def aK.no{P:K7}{w:K6}{K:RD}{a:Str->Option K5}{base:Lb}{CX:CXT}{k:Nat}{f:La}{b:Mi}{ps:O4 Str}{sp:Sp}(h:∀vs H Q E,¬ sp vs H Q E):aK P w K a base CX k f b ps sp :=
 (λvs H Q E q=>(h vs H Q E q).elim,λ_ _ _ H _ _ vs Q E _ _ _ _ q=>(h vs H Q E q).elim,)
def mQ{X:Cx}{K:RD}{e:Lu}{f:Str}{pos:Pos}{a:TE}(h:X.K=K)(b:PE X e a)(c:Me e f X.env (eval e X.env)=eval e X.env):PE X (.Attribute e f pos) (E9 K a f):=h ▸ cj b c
def  Fo(f ty e:TE)(g:V->V->Hp->VK->Prop):TS:=λD σ H=>f σ H λx i=>ty σ i λy d=>∃(a:La)(b:O4 V)(n:Nat)(v:V),x=.ref a/\y=.int (n:Int)/\d a=OP (.lst b)/\b[n]?=OP v /\
 e σ d λu h=>g v u h λr c=>c a=OP (.lst b)/\D.nx σ (upd c a<|.lst<|b.set n r)
section
variable{o i value:Lu}{Bz:Pos}{td ty tv:TE}
def BI{op:LM}{k:V->V->Hp->VK->Prop}(Q:PE X o td)(hi:PE X i ty)(P:PE X value tv)(g:PIp X op k)
  (R:∀c b new,augStore i c b new=(do holding [new,c,b] (LL c b new);release [new,c,b] [];pure .next)):PS X (.AugAssign (.Subscript o i Bz) op value pos) (Fo td ty tv k):=by
 intro OU s σ H D I h;calc wpAny_AugAssign_SubscriptAny (thn (Q OU s σ H _ I h) λu E (x,H1,I1,G,N,)=>thn (hi OU E σ H1 _ I1 N) λb s2 (y,H2,m,j,a,q,n,v,T,S,Y,l,M,)=>?_) R;subst T S;obtain rfl:u=bv a:=G;let(t,rfl):=id j;let(a0,r,O,hz):=m.list<|Rm Y;let(w,W,f):=r.get l;let hl:=⇑r;let hn:=jC;let a1:=(KO.mp l).1;refine wpAny_getItem_list O.isList ∅ ∅ (x:=w) (by rw[Kn];simpa using W) ?_;refine thn (P OU s2 σ H2 _ m M) λA C (p,H3,I4,e,L,)=>thn (g OU C σ H3 v p w A _ I4 f e L) λw3 B (z,H4,I5,F,e4,K,)=>?_
 calc thn (set_list OU B σ H4 (.ref a) (.int (n:Int)) z _ _ _ (λd=>D.nx σ d) I5 Z j F (a,q,(n:Int),n,Z,Z,e4,(by unfold ixN;rw[OX ∅,OX ∅,Kn]),K,)) λ_ s6 (d,I6,J,)=>(σ,d,I6,J,)
end
set_option maxRecDepth 100000
inductive DEq(K:RD)(H:Hp):Nat->V->V->Bool->Prop where
 |flat {n:Nat}{x y:V}(fx:wX x=OR)(fy:wX y=OR):DEq K H n x y (eqV x y)
 |same {n:Nat}(a:La):DEq K H n (.ref a) (.ref a) OR
 |lst {n:Nat}{a b:La}{xs ys:O4 V}{f:Nat->Bool}(ne:a≠b)(ha:SqL K H a xs)(hb:SqL K H b ys)(hl:⇑xs=⇑ys)(h:∀(j:Nat)(x y:V),xs[j]?=OP x->ys[j]?=OP y->DEq K H n x y (f j)):DEq K H (n+1) (.ref a) (.ref b) ((bn ⇑xs).all f)
 |lst_ne {n:Nat}{a b:La}{xs ys:O4 V}(ne:a≠b)(ha:SqL K H a xs)(hb:SqL K H b ys)(hl:⇑xs≠⇑ys):DEq K H (n+1) (.ref a) (.ref b) OS
 |tup {n:Nat}{a b:La}{xs ys:O4 V}{f:Nat->Bool}(ne:a≠b)(ha:SqT K H a xs)(hb:SqT K H b ys)(h:∀(j:Nat)(x y:V),xs[j]?=OP x->ys[j]?=OP y->DEq K H n x y (f j)):DEq K H (n+1) (.ref a) (.ref b) ((bn<|min ⇑xs ⇑ys).all f && ⇑xs == ⇑ys)
def DEq.mono{K:RD}{H:Hp}{n m:Nat}{x y:V}{b:Bool}(e:DEq K H n x y b)(h:n<=m):DEq K H m x y b:=by
 induction e generalizing m with
 |flat q p=>exact .flat q p
 |same a=>exact .same a
 |lst c f d i _ g =>
  let(m,rfl):∃k,m=k+1:=(m-1,∅,);exact .lst c f d i λj x y o l=>g j x y o l ∅
 |lst_ne c f d i =>
  let(m,rfl):∃k,m=k+1:=(m-1,∅,);exact .lst_ne c f d i
 |tup c f d _ g =>
  let(m,rfl):∃k,m=k+1:=(m-1,∅,);calc .tup c f d λj x y o l=>g j x y o l ∅
def iA{xs:O4 V}{a:O4 K5}(r:Vals xs a){j:Nat}(h:j<a.toArray.size):∃x,xs[j]?=OP x/\RelV x a.toArray[j]:=by
 let f:j<⇑a:= ~~~h
 let i:=⇑r;let b:xs[j]?=OP xs[j]:=KN ∅;let(d,c,e):=r.get b;let g:a.toArray[j]=d:=by
  let:=KN f;rw[this]at c;simpa using bm c
 calc(xs[j],b,g ▸ e,)
def DEq.at{n:Nat}{x y:V}{b:Bool}(e:DEq X.K H n x y b)(I:Inv X OU σ H s):∀{A:Ll}{u v:K5},A.units+n<Mg->RelV x u->RelV y v->Qe A s u v b:=by
 induction e with
 |flat G F=>intro A u v o i g;exact DC i g G F
 |same a =>
  intro A u v o i g;cases (show u=bv a from i);cases (show v=bv a from g);exact QL _
 | @lst n a b xs ys f ne ha hb hl h ih =>
  intro A u v o i g;cases (show u=bv a from i);cases (show v=bv b from g);let(d,r,p,_):=I.list ha;let(c,k,l,_):=I.list hb;let E:=⇑r;let D:=⇑k;let m:=SeqAt.RcAt.lists (A:=A) (e:=f) p.isList l.isList (by simp only[fI];lia) ∅ (λj z w=>by
   let(x,C,t):=iA r z;let(y,B,q):=iA k w;exact ih j x y C B (by show A.units+1+n<Mg;lia) t q)
  rw[show d.toArray.size=⇑xs by simp only[fI];lia]at m;exact L2 ne m
 | @lst_ne n a b xs ys ne ha hb hl =>
  intro A u v o i g;cases (show u=bv a from i);cases (show v=bv b from g);let(d,r,p,_):=I.list ha;let(c,k,l,_):=I.list hb;let E:=⇑r;let D:=⇑k;exact L2 ne<|SeqAt.RcAt.lists_lengths p.isList l.isList (by simp only[fI,bne_iff_ne,ne_eq];lia) ∅
 | @tup n a b xs ys f ne ha hb h ih =>
  intro A u v o i g;cases (show u=bv a from i);cases (show v=bv b from g);let(d,r,p,_):=I.tuple ha;let(c,k,l,_):=I.tuple hb;let E:=⇑r;let D:=⇑k;let m:=QC (A:=A) (e:=f) (show s.heap.IsTuple a d.toArray from p) (show s.heap.IsTuple b c.toArray from l) ∅ (λj z w=>by
   let(x,C,t):=iA r z;let(y,B,q):=iA k w;exact ih j x y C B (by show A.units+1+n<Mg;lia) t q)
  rw[show d.toArray.size=⇑xs by simp only[fI];lia,show c.toArray.size=⇑ys by simp only[fI];lia]at m;exact L2 ne m
set_option maxRecDepth 100000
section
variable{tg:Lu}
inductive qX(K:RD)(x:V)(y:V)(H:Hp)(Q:VK):Prop
 |mk (a b xs ys:_)(_:x=.ref a)(_:y=.ref b)(_:SqT K H a xs)(_:SqT K H b ys)(_:⇑xs+⇑ys<=Lc)(_:(xs=[]->Q (.ref b) H))(_:(xs≠[]->ys=[]->Q (.ref a) H))(_:(xs≠[]->ys≠[]->∀p,H p=OQ->Q (.ref p) (upd H p<|.tup<|xs++ys)))
def kq:OpR X (L3 .Add) (qX X.K):=by
 intro OU s σ H x y v u Q I o m h;let(a,b,l,A,rfl,rfl,w,t,O,G,E,D):=h;by_cases c:l=[]
 .cases o;cases m;let(d,C,L,_):=I.tuple w;let(M,S,J,_):=I.tuple t;let P:d=[]:=C.nil_iff.mpr c;let((R,dd,z,B),p,r,n,q):=id L;let((T,j,k,i),e,g,N,f):=id J;simp only at r q g f;subst r q g f
  exact Mu (_,p,Z,) (_,e,Z,) Mv Mw PySem.F.slot_tuple_add PySem.F.entry_tuple_add (PySem.F.args_tuple_add_2 _ _)
   (tuple_addW0 a b d.toArray M.toArray n N dd j B i (by simp[P])) (p,e,(.ref b,H,I,Z,G c,),)
 .exact BD OU s σ H (.ref a) (.ref b) v u Q I o m (a,b,l,A,Z,Z,w,t,c,O,E c,D c,)
end
end _L
namespace HT
open PySem PyProof.Rows
section
open PySem.SeqAt
open PySem.AutoSeq1 (wpAny_loadPart')
open PySem.MeetsSeq PySem.MeetsSeq2 PySem.MeetsSeq3
end
end HT
namespace _L
open PySem PySem.Spec PyProof.Rows
section
variable{X:Cx}
end
end _L
namespace HT
open PySem PyProof.Rows
section
open PySem.SeqAt
open PySem.AutoSeq1 (wpAny_loadPart')
open PySem.MeetsSeq PySem.MeetsSeq2 PySem.MeetsSeq3
end
end HT
namespace _L
open PySem PySem.Spec PyProof.Rows
variable{X:Cx}
variable{prog:K7}{w:K6}{A:Ll}{E:K5->Lm->Prop}{s:Lm}
section
variable{κ:Type} [DecidableEq κ]
def  cntK(ks:O4 κ):Nat->Nat
 |0=>0
 |i+1=>match ks[i]? with
  |some k=>if k∈ks.take i then cntK ks i else cntK ks i+1
  |none=>cntK ks i
def kr(ks:O4 κ):∀i,cntK ks i<=i
 |0=>Ab _
 |i+1=>by
  let a:=kr ks i;unfold cntK;split
  .split <;> lia
  .lia
def lB(ks:O4 κ):∀i,i<=⇑ks->(cntK ks i=i↔(ks.take i).Nodup)
 |0,_=>by simp[cntK]
 |i+1,h=>by
  let c:=lB ks i ∅;let le:=kr ks i;let e:ks[i]?=OP ks[i]:=KN ∅;let g:ks.take (i+1)=ks.take i++[ks[i]]:=by rw[ov,e];rfl
  unfold cntK;rw[e,g,tw];dsimp only;by_cases m:ks[i]∈ks.take i
  .rw[OX m];exact(λz=>OY z ∅,λz=>OY Z<|z.2.2 _ m _ (by simp),)
  .rw[OW m];refine(λz=>(c.mp ∅,by simp,λa f b d=>?_,),λz=>by rw[c.mpr z.1],);rw[show b=ks[i] by simpa using d];calc λq=>m<|q ▸ f
variable{knd:KeyKind prog w κ}
def gD{h h':Lb}{a:La}{S:κ->Bool}{n:Nat}(x:h.SetOf knd a S n)(k:∀o,h.get? a=OP o->h'.get? a=OP o):h'.SetOf knd a S n:=by
 let(o,c,d,t,b,r):=x;calc(o,c,d,t,k o b,r,)
def nq{h:Lb}{a:La}{S c:κ->Bool}{n b:Nat}(x:h.SetOf knd a S n)(e:S=c)(d:n=b):h.SetOf knd a c b:=e ▸ d ▸ x
def yb{R:Mc->Lm->Prop}{I:La}{fp h:O4 La}{G:Array Lo->Array Lo->Prop}{n:Nat}{P:Nat->K5->Prop}{St:Nat->Lm->Prop}(W:M5 prog w A.in1 I fp h G n P St){a:La}(E:a ∉ fp){ks:O4 κ}
  (S:∀i v,P i v->∃k,ks[i]?=OP k/\knd.is k v=OR/\v.scannable=OR)(g:n+1<M6):∀(d i:Nat)(s:Lm),n=i+d->St i s->s.heap.SetOf knd a (λk=>decide<|k∈ks.take i) (cntK ks i) ->
   (∀s',M7 (a :: h) G s s'->s'.heap.SetOf knd a (λk=>decide<|k∈ks.take n) (cntK ks n)->R (.ok<|.ret .none) s')->Md (model prog w) A (.builtin "set.update.loop" ([.ref a,.ref I],[],)) R s:=by
 let D:a ∉ h:=λz=>E<|W.sub a z
 intro d;induction d with
 |zero =>
  intro i s e j x c;rw[show n=i by lia]at W c;calc M8 (R:=R) (A:=A) GM ?_;rw[io (A:=A) sw _];show Lq (model prog w) A.in1 (LR (.ref I) >>= _) _ _ s;exact K1<|W.done s _ _ j λs' m=>K2<|c s' (m.mono λb g=>fS a g)<|gD x λo q=>m.heap a o D q
 |succ d Q =>
  intro i s e j x c;calc M8 (R:=R) (A:=A) GM ?_;rw[io (A:=A) sw _];show Lq (model prog w) A.in1 (LR (.ref I) >>= _) _ _ s;calc K1<|W.item i s _ _ ∅ j λv f p r m=>?_;let(k,H,C,N):=S i v p;let M:=gD x λo q=>m.heap a o D q
  show Lq (model prog w) A.in1 (holding [v] (M9 a v) >>= _) _ _ f;refine K1<|K3 (show Lq (model prog w) A.in1 (M9 a v) _ _ f from ?_);unfold M9;calc K3<|K1<|knd.pyHash C ?_;let le:=kr ks i;refine wpAny_setAddHashed_of (knd:=knd) (s:={ f with toks:=f.toks+1 }) C N M ∅ λl B L=>?_
  let T:ks.take (i+1)=ks.take i++[k]:=by rw[ov,H];rfl
  let K:l.SetOf knd a (λq=>decide<|q∈ks.take (i+1)) (cntK ks<|i+1):=by
   refine nq L (funext λq=>?_) ?_
   .rw[T];by_cases z:q∈ks.take i <;> by_cases y:q=k <;> simp[z,y]
   .show(if decide (k∈ks.take i)=OR then cntK ks i else cntK ks i+1)=match ks[i]? with|some k=>if k∈ks.take i then cntK ks i else cntK ks i+1|none=>cntK ks i
    rw[H];by_cases z:k∈ks.take i <;> simp[z]
  calc K2 (Na sw _,Q (i+1) { f with heap:=l,toks:=f.toks+1 } ∅ (W.frame (i+1) f l (f.toks+1) r (D0 _) λb u o q=>(B.2 b λz=>E<|z ▸ u).trans q) K λs2 O J=>?_,);calc c s2 (M7.trans W.gtrans ((m.mono λb g=>fS a g).then_heap (D0 _) λb o t q=>?_) O) J;calc(B.2 b λz=>t<|z ▸ dt).trans q
abbrev dz(led:Bool):Obj:={ cls:=.type "set",dict:=OQ,data:=.set #[] 0 (.fresh 0 0 led) }
def  Filled(knd:KeyKind prog w κ)(s:Lm)(ks:O4 κ)(h':Lb):Prop :=
 h'.SetOf knd ↥s (λk=>decide<|k∈ks) (cntK ks ⇑ks)/\∀b o,b<↥s->s.heap.get? b=OP o->h'.get? b=OP o
def zU{l:La}{items:Array K5}{ks:O4 κ}{led:Bool}(G:A.handled=OQ)(C:s.heap.IsList l items)(D:∀(i:Nat)(v:K5),items[i]?=OP v->∃k,ks[i]?=OP k/\knd.is k v=OR/\v.scannable=OR)(B:⇑ks=items.size)(H:items.size+1<M6) :
  Md (model prog w) A (.call (.builtin "set.__init__") ([.ref ↥s,.ref l],[],)) (wants (λr s2=>r=.none/\∃h' j,s2={ s with heap:=h',toks:=j }/\Filled knd s ks h') E) { s with heap:=s.heap.push (dz led) }:=by
 let h:(s.heap.push<|dz led).get? ↥s=OP (dz led):=am s.heap Z;let ty:Go { s with heap:=s.heap.push (dz led) } (.ref ↥s) "set" := (dz led,h,Z,);calc Nb lv.init.plain F.entry_set_init<|Nc ty ?_;let((S,N,R,M),e,g,m,f):=C;dsimp only at g f;subst g f;let J:(s.heap.push<|dz led).get? l=OP { cls:=.type "list",dict:=N,data:=.seq items m,slots:=M }:=ac _ e;let Q:=F.sub_list_set;let P:=Rf;let O:(xL "list" == xL "dict")=false:=⋯
 let d:(s.heap.push<|dz led).IsList l items:=(_,J,Z,m,Z,);let lt:l<↥s:=al e;unfold L0.«set.__init__» PX noKeywords;generalize I:LU=it
 wp_walk
 subst I;calc LZ d<|K1<|Nd ?_;let u:l≠(s.heap.push<|dz led).objs.size:=by rw[jp];exact Bo<|CP lt
 let y:↥s ∉ [(s.heap.push<|dz led).objs.size,l]:=by
  rw[jp];intro z;rcases bz.mp z with z|z
  .exact OY z<|Bo<|DN _
  .exact OY (~~~z)<|CD lt
 refine yb (knd:=knd) ((QR (by simp[G]) _ l u items).toS) y (ks:=ks) D H items.size 0 _ (Fq _).symm ((_,am _ Z,Z,Z,),d.push _,) (nq ((setObjOf_fresh (knd:=knd) led).setOf (ac _ h) (by unfold M6;lia)) (funext λk=>by simp) Z) λp mv x=>?_
 let(h',K,L,n,t):=p;obtain rfl:K=s.gens:=mv.gens;obtain rfl:L=s.drawn:=mv.drawn;obtain rfl:t=s.os:=mv.os;refine K2 (show Lq (model prog w) _ (ret pc) _ _ _ from K2 (Z,h',n,Z,?_,λb o a q=>?_,))
 .rw[←B]at x;exact nq x (funext λk=>by rw[gs]) Z
 .refine mv.heap b o (λz=>?_)<|ac _<|ac _ q;rcases bz.mp z with z|z
  .exact OY z<|Bo a
  .let c:b=(s.heap.push<|dz led).objs.size:= ~~~z
   rw[jp]at c;exact OY c (Bo<|CP a)
set_option maxRecDepth 100000 in
def p5{l:La}{items:Array K5}{ks:O4 κ}{Q:K5->Lm->Prop}(q:A.handled=OQ)(o:s.heap.IsList l items)(p:∀(i:Nat)(v:K5),items[i]?=OP v->∃k,ks[i]?=OP k/\knd.is k v=OR/\v.scannable=OR)(n:⇑ks=items.size)(t:items.size+1<M6)
  (h:∀h' d,Filled knd s ks h'->Q (.ref ↥s) { s with heap:=h',toks:=d }):Lq (model prog w) A (call (.type "set") [.ref l]) Q E s:=by
 let(c,z,mro):=lv.mro;let I:=lv.made;let H:=lv.sub;let G:=lv.notType;let D:=lv.canCreate;let C:=F.typeCall_set_1<|.ref l;refine Mm<|Nf (show Lq (model prog w) _ (callAny (.type "set") _) _ _ _ from K2 (Mh.quiet_builtin _<|~~~0,M8 F.entry_type_call ?_,));rw[Ll.under_plain (A:=A) (Ng "set" [.ref l] []) Z]
 repeat (any_goals (first|assumption|wp_step))
 refine Mn (code_set_new_1 (.ref l) (E:=E) (Q₁:=λj g=>∃a,j=.ref ↥s/\g={ s with heap:=s.heap.push (dz a) }) λa=>(a,Z,Z,)) λr g f=>?_
 cases r with
 |error e=>exact f
 |ok fl =>
  cases fl with
  |ret j =>
   let(a,rfl,rfl):=f;let u:(s.heap.push<|dz a).get? ↥s=OP (dz a):=am s.heap Z;let ty:Go { s with heap:=s.heap.push (dz a) } (.ref ↥s) "set" := (dz a,u,Z,);let B:=lv.init.lookup;let b2:=lv.init.bind<|.ref ↥s
   repeat (any_goals (first|assumption|wp_step))
   refine Mn (zU (E:=E) (knd:=knd) (by simp[q]) o p n t) λm s2 b=>?_
   cases m with
   |error e=>exact b
   |ok y =>
    cases y with
    |ret r =>
     let(rfl,h',d,rfl,x):=b
     repeat (any_goals (first|assumption|wp_step))
     exact h h' d x
    |_=>exact b.elim
  |_=>calc f.elim
end
def  o6(P:K7)(w:K6)(a:La)(zs:O4 Str):HO:=.ext λh=>h.SetOf (strKind P w) a (λz=>decide<|z∈zs)<|cntK zs ⇑zs
def p6:∀{zs:O4 Str}{us:O4 K5},Vals (zs.map Rk) us->∀(i:Nat)(v:K5),us[i]?=OP v->∃z t,zs[i]?=OP z/\v=.str z t
 | [],_,.nil,i,v,h=>by simp at h
 |z :: zs,_,.cons (t,e,) r,0,v,h=>by simp at h;exact(z,t,Z,by rw[←h,e],)
 |z :: zs,_,.cons _ r,i+1,v,h=>by
  let(a,t,c,b):=p6 r i v<|~~~h;calc(a,t,~~~c,b,)
def jy(C:X.calm=OR):dh X (.type "set") (λxs H Q=>∃(p:La)(zs:O4 Str),xs=[.ref p]/\SqL X.K H p (zs.map Rk)/\⇑zs<=1000/\∀l,H l=OQ->Q (.ref l) (upd H l<|o6 X.prog X.w l zs)):=by
 intro j s G H xs J Q I r h;let(p,zs,rfl,D,L,q):=h;let(u,rfl,A):=r.one;obtain rfl:u=bv p:=A;let(F,d,B,_):=I.list D;let f:=⇑d;rw[aa]at f;refine p5 (knd:=strKind X.prog X.w) (ks:=zs) (I.ok.hd C) B.isList (λi v e=>?_) (~~~f) (by unfold M6;simp;lia) λh' n x=>?_
 .let(z,t,E,rfl):=p6 d i v<|~~~e;exact(z,E,by show Qv z (.str z t)=OR;simp[Qv],Z,)
 .let(c,m):=x;calc(.ref ↥s,_,I.laid (a:=↥s) (o:=o6 X.prog X.w ↥s zs) (h':=h') (t':=n) (λb o q=>m b o (al q) q) (Ab _) ?_,Z,q _ I.fresh,);calc(c,?_,λN M y k=>gD y k,);let(o,_,_,_,g,_):=c;calc(o,g,)
def  Asc(xs:Array Nat):Prop:=xs.toList.Pairwise (· < ·)
def Asc.lt{xs:Array Nat}(h:Asc xs){i j:Nat}(a:i<j)(b:j<xs.size):xs[i]<xs[j]:=by
 let:=Db.mp h i j (by simp;lia) (~~~b) a;simpa using this
def zV{xs:Array Nat}(h:Asc xs)(j:Nat):∀(a lo hi:Nat),lo<=hi->hi<=xs.size->hi-lo<=a ->
  (∀(i:Nat)(hi':i<xs.size),i<lo->xs[i]<j)->(∀(i:Nat)(hi':i<xs.size),hi<=i->j<=xs[i]) ->
  IR xs j a lo hi<=xs.size/\(∀(i:Nat)(hi':i<xs.size),i<IR xs j a lo hi->xs[i]<j)/\(∀(i:Nat)(hi':i<xs.size),IR xs j a lo hi<=i->j<=xs[i]):=by
 intro a;induction a with
 |zero =>
  intro lo hi n g m f d;let e:lo=hi:=∅
  subst e;exact(by unfold IR;exact g,by unfold IR;exact f,by unfold IR;exact d,)
 |succ a k =>
  intro lo hi n g m f d;unfold IR;by_cases c:lo<hi
  .rw[OX c];let l:(lo+hi) / 2<xs.size:=∅
   let o:xs.getD ((lo+hi) / 2) j=xs[(lo+hi) / 2]:=by simp[Q5,l]
   dsimp only;rw[o];by_cases b:xs[(lo+hi) / 2]<j
   .rw[OX b];calc k _ _ ∅ g ∅ (λi hi' p=>?_) d;by_cases e:i=(lo+hi) / 2
    .subst e;exact b
    .exact Fx (h.lt ∅ l) b
   .rw[OW b];refine k _ _ ∅ ∅ ∅ f λi hi' q=>?_
    by_cases e:i=(lo+hi) / 2
    .subst e;lia
    .exact BK (GU b)<|Dn<|h.lt ∅ hi'
  .rw[OW c];let e:lo=hi:=∅
   subst e;calc(g,f,d,)
def jE{xs:Array Nat}(h:Asc xs)(j:Nat):lm xs j<=xs.size/\(∀(i:Nat)(hi:i<xs.size),i<lm xs j->xs[i]<j)/\(∀(i:Nat)(hi:i<xs.size),lm xs j<=i->j<=xs[i]) :=
 zV h j xs.size 0 xs.size (BG _) (Ab _) ∅ (λ_ _ z=>OY z ∅) (λi hi z=>OY z ∅)
def vy{xs:Array Nat}(h:Asc xs){i:Nat}(hi:i<xs.size):lm xs (xs[i]+1)=i+1:=by
 let(d,b2,a):=jE h<|xs[i]+1;let c:¬ lm xs (xs[i]+1)<=i:=λz=>OY (a i hi z) ∅
 let b:¬ i+1<lm xs (xs[i]+1):=λz=>by
  let:=b2 (i+1) ∅ z;let:=h.lt (show i<i+1 by lia) (show i+1<xs.size by lia);lia
 lia
def tj{xs:Array Nat}(h:Asc xs):lm xs 0=0:=by
 let(b,b2,a):=jE h 0;by_cases z:lm xs 0=0
 .exact z
 .exact OY (b2 0 ∅ ∅) ∅
def vz{xs:Array Nat}(h:Asc xs){j:Nat}(m:xs[lm xs j]?≠OP j):Asc (Nh.insertAt xs (lm xs j) j):=by
 let(r,b2,g):=jE h j;unfold Asc;rw[Nh.toList_insertAt,oR];refine(h.sublist<|vl _ _,oD.mpr (λb f=>?_,h.sublist<|List.drop_sublist _ _,),λa n b f=>?_,)
 .let(k,d,rfl):=PB.mp f;let c:lm xs j+k<xs.size:=by simp at d;lia
  let z:=g _ c ∅;let e:(xs.toList.drop<|lm xs j)[k]=xs[lm xs j+k]:=by simp
  rw[e];by_cases q:j=xs[lm xs j+k]
  .exfalso;by_cases l:k=0
   .subst l;calc m ?_;rw[HA ∅];simpa using q.symm
   .let p:=g _ (show lm xs j<xs.size by lia) (Ab _);let o:=h.lt (show lm xs j<lm xs j+k by lia) c;lia
  .lia
 .let i:a<j:=by
   let(k,d,rfl):=PB.mp n;let c:k<lm xs j/\k<xs.size:=by simp at d;lia
   let:=b2 k c.2 c.1;simpa using this
  rcases bz.mp f with rfl|f
  .exact i
  .let(k,d,rfl):=PB.mp f;let c:lm xs j+k<xs.size:=by simp at d;lia
   let z:=g _ c ∅;let e:(xs.toList.drop<|lm xs j)[k]=xs[lm xs j+k]:=by simp
   rw[e];lia
def  tq(t:Nh)(j:Nat):Prop:=t.place[lm t.place j]?≠OP j
def nr{t:Nh}{j:Nat}(h:t.slot j=.empty\/t.slot j=.dummy):tq t j:=by
 intro e;let:t.slot j=.live (lm t.place j):=by
  unfold Nh.slot;simp[e]
 rw[this]at h;rcases h with h|h <;> cases h
def vA(t:Nh)(f:Nat->Int)(h:Int):∀(a:Nat)(p:Nh.Probe),(∀d,p.dummy=OP d->tq t d)->∀j c,Qw t f h a p=OP (.empty j c)->tq t j/\∀d,c=OP d->tq t d:=by
 intro a;induction a with
 |zero=>intro p _ j c e;unfold Qw at e;cases e
 |succ a i =>
  intro p k j c e;unfold Qw at e;let g:∀q:Nh.Probe,(t.advance q).dummy=q.dummy:=λq=>by
   unfold Nh.advance;split <;> rfl
  split at e
  .rename_i he
   injection e with e;injection e with m l;subst m l;exact(nr<|.inl he,k,)
  .rename_i he
   calc i _ (λd b=>?_) j c e;rw[g]at b;injection b with b;subst b;exact nr<|.inr he
  .split at e
   .injection e with e;cases e
   .refine i _ (λd b=>k d ?_) j c e;rw[g]at b;calc b
def o7{t:Nh}{h:Int}{j:Nat}{b:Bool}(e:t.freeSlot h=OP (j,b)):tq t j:=by
 unfold Nh.freeSlot at e;split at e
 .rename_i j' dm he
  let(g,f):=vA t _ h _ _ (λd a=>by simp[Nh.probeStart]at a) _ _ he;injection e with e;injection e with c i;subst c;cases dm with
  |none=>exact g
  |some d=>exact f d Z
 .cases e
def yc(n:Nat):Asc (Array.range n):=by
 unfold Asc;rw[Array.toList_range];calc GT
def fE(t:Nh)(n:Nat):Asc (t.standIn n).place:=yc n
def vB{t:Nh}(c:Asc t.place)(a:Array (Int×K5))(h:Int)(x:K5):Asc (Ni t a h x).2.1.place/\(Ni t a h x).2.1.led=t.led:=by
 unfold Ni;split
 .rename_i slot wd e
  let b:Asc (t.put slot).1.place:=vz c<|o7 e;dsimp only;unfold Nh.orStandIn;split
  .exact(b,Z,)
  .exact(fE _ _,Z,)
 .exact(fE _ _,Z,)
def tD(f:Nat->Option Nat):∀l:O4 Nat,((l.filterMap λj=>(f j).map (j,·)).map (·.1)).Sublist l
 | []=>by simp
 |j :: l=>by
  let a:=tD f l;rw[uV];cases e:f j with
  |none=>exact a.trans (List.sublist_cons_self _ _)
  |some v=>calc a.cons_cons j
def vC{t t':Nh}{b:Array Int}{n:Nat}{o:Array Nat}(e:t.relaid b n=OP (t',o)):Asc t'.place/\t'.led=t.led:=by
 unfold Nh.relaid Nh.laid at e;cases hc:Nh.layClean (Nh.sizeAbove n-1) b with
 |none=>rw[hc]at e;cases e
 |some a =>
  rw[hc]at e;injection e with e;injection e with c d;subst c;calc(GT.sublist<|tD _ _,Z,)
def qY{t:Nh}(b:Asc t.place)(a:Array (Int×K5))(n:Nat):Asc (Nj t a n).2.1.place/\(Nj t a n).2.1.led=t.led:=by
 unfold Nj;split
 .rename_i t' o e
  dsimp only;split
  .exact vC e
  .exact(fE _ _,Z,)
 .exact(fE _ _,Z,)
def fP{α:Type}:∀{l:O4 α}{i:Nat}{x:α},l[i]?=OP x->(x :: l.eraseIdx i).Perm l
 | [],i,x,h=>by simp at h
 |a :: l,0,x,h=>by simp at h;subst h;exact .refl _
 |a :: l,i+1,x,h=>by
  let b:=fP (l:=l) (i:=i) (x:=x)<|~~~h;rw[List.eraseIdx_cons_succ];calc(List.Perm.swap _ _ _).trans (b.cons a)
def BJ{α:Type}(next:Nat->Nat):∀(a k:Nat)(left:O4 α)(out:Array α),a=⇑left->∃l:O4 α,l.Perm left/\(Nk.go next a k left out).toList=out.toList++l:=by
 intro a;induction a with
 |zero =>
  intro k left out e;exact(left,.refl _,by unfold Nk.go;rw[Pd.mp e.symm];simp,)
 |succ a d =>
  intro k left out e;let b:next k%⇑left<⇑left:=Ha _ ∅;let c:left[next k%⇑left]?=OP left[next k%⇑left]:=KN b;unfold Nk.go;rw[c];dsimp only;let(l,p,f):=d (k+1) (left.eraseIdx<|next k%⇑left) (out.push left[next k%⇑left]) (by rw[Qp b];lia);calc(left[next k%⇑left] :: l,(p.cons _).trans<|fP c,by rw[f];simp,)
def yd{α:Type}(next:Nat->Nat)(xs:Array α):(Nk next xs).toList.Perm xs.toList:=by
 let(l,p,e):=BJ next xs.size 0 xs.toList #[] (by simp);let:(Nk next xs).toList=l:=by unfold Nk;rw[e];simp
 rw[this];calc p
def  dU(w:K6):Bool:=w.params.followText "set-order"
def  lC:K5->Int
 | .int k _=>k
 |_=>0
structure iB(es:Array (Int×K5))(ks:O4 Int):Prop where
 ent:∀e∈es.toList,e.1=hashInt (lC e.2)/\∃u,e.2=.int (lC e.2) u
 nd:(es.toList.map λe=>lC e.2).Nodup
 mem:∀k,k∈ks↔k∈es.toList.map λe=>lC e.2
def iB.perm{b a:Array (Int×K5)}{ks:O4 Int}(h:iB b ks)(p:a.toList.Perm b.toList):iB a ks :=
 (λe c=>h.ent e<|p.mem_iff.mp c,(p.map _).nodup_iff.mpr h.nd,λk=>(h.mem k).trans (p.map _).mem_iff.symm,)
def iB.push{d:Array (Int×K5)}{ks:O4 Int}{k:Int}{u:Tok}(h:iB d ks)(f:k ∉ ks):iB (d.push (hashInt k,.int k u)) (ks++[k]):=by
 refine(λe c=>?_,?_,λq=>?_,)
 .rw[Iv]at c;rcases gw.mp c with c|c
  .exact h.ent e c
  .rw[dV]at c;subst c;exact(Z,u,Z,)
 .rw[Iv,fq,tw];refine(h.nd,by simp,λa i b g=>?_,);let j:b=k:=by simpa[lC]using g
  subst j;exact λe=>f<|(h.mem b).mpr<|e ▸ i
 .rw[Iv,fq,gw,gw,h.mem q];simp[lC]
def iB.again{a:Array (Int×K5)}{ks:O4 Int}{k:Int}(h:iB a ks)(b:k∈ks):iB a (ks++[k]) :=
 (h.ent,h.nd,λq=>by
  rw[←h.mem q,gw,dV];exact(λz=>z.elim id λz=>z ▸ b,.inl,),)
def iB.elems{b:Array (Int×K5)}{ks:O4 Int}(h:iB b ks):ElemsOf (Lg prog w) b.toList:=λe c=>by
 let(d,u,a):=h.ent e c;refine((lC e.2,?_,d,),?_,)
 .rw[a];exact Nl _ _ _ _
 .rw[a];rfl
def iB.found{b:Array (Int×K5)}{ks:O4 Int}(h:iB b ks){k:Int}{e:Int×K5}(a:e∈b.toList)(c:(Lg prog w).is k e.2=OR):k∈ks:=by
 let(_,u,d):=h.ent e a;calc(h.mem k).mpr (dr.mpr (e,a,?_,));calc(Lg prog w).inj e.2 _ _ (by rw[d];exact Nl _ _ _ _) c
def  dQ(h:Lb)(a:La)(led:Bool)(ks:O4 Int)(n:Nat):Prop :=
 ∃o b c t,h.get? a=OP o/\o.ExactSet/\o.data=.set b c t/\iB b ks/\b.size<M6/\t.fits b.size=OR/\Asc t.place/\t.led=led/\b.size=n
def dQ.stay{h h':Lb}{a:La}{led:Bool}{ks:O4 Int}{n:Nat}(x:dQ h a led ks n)(k:∀o,h.get? a=OP o->h'.get? a=OP o):dQ h' a led ks n:=by
 let(o,c,d,t,b,r):=x;calc(o,c,d,t,k o b,r,)
def dQ.store{h:Lb}{a:La}{o:Obj}{m:Array (Int×K5)}{c:Nat}{t:Nh}(g:h.get? a=OP o)(d:o.ExactSet)(f:o.data=.set m c t)
  {b:Array (Int×K5)}{t':Nh}{ks:O4 Int}(j:iB b ks)(k:b.size<M6)(i:t'.fits b.size=OR)(l:Asc t'.place) :
  (h.update a<|PN b t').get? a=OP { o with data:=.set b (c+1) t' }/\dQ (h.update a<|PN b t') a t'.led ks b.size:=by
 let e:(h.update a<|PN b t').get? a=OP { o with data:=.set b (c+1) t' }:=by
  let:=nw (PN b t') g (by rw[putSet_of b t' f];rfl);rw[putSet_of b t' f]at this;exact this
 calc(e,_,b,c+1,t',e,d,Z,j,k,i,l,Z,Z,)
def tE{g:Bool->Sem Unit}(I:∀(b:Bool)(e:Lm)(F:Unit->Lm->Prop),F () e->Lq (model prog w) A (g b) F E e)
  {a:La}{o:Obj}{J:Array (Int×K5)}{K:Nat}{t:Nh}(C:s.heap.get? a=OP o)(p:o.ExactSet)(D:o.data=.set J K t)
  {c:Array (Int×K5)}{d:Nh}{ks:O4 Int}{led:Bool}(q:iB c ks)
  (j:c.size<M6)(B:d.fits c.size=OR)(u:Asc d.place)(n:d.led=led){H:Bool}{R:Option Bool->Lm->Prop}
  (h:∀h',ln a s.heap h'->dQ h' a led ks c.size->R (OP OR) { s with heap:=h' }) :
  Lq (model prog w) A (do
    storeSet a c d
    if (!H && d.tooFull)=OR then do
      g (Nj d c<|PD c.size).2.2
      storeSet a (Nj d c<|PD c.size).1 (Nj d c<|PD c.size).2.1
      pure (OP OR)
     else pure (OP OR)) R E s:=by
 calc K1<|Nm C D ?_<|Nn j;let(m,x):=dQ.store C p D q j B u;rw[n]at x;let G:=li s.heap a<|PN c d;split
 .let z:=relayAll_perm d c<|PD c.size;let i:=relayAll_fits d c<|PD c.size;let(k,f):=qY u c<|PD c.size;generalize L:Nj d c (PD c.size)=Rl at z i k f⊢;let(y,M,N):=Rl;dsimp only at z i k f⊢;let l:y.size=c.size:=by rw[←Ht,z.length_eq,Ht]
  let r:y.size<M6:=by rw[l];exact j
  calc K1<|I _ _ _ ?_;calc K1<|Nm m Z ?_<|Nn r;let(_,v):=dQ.store m p Z (q.perm z) r i k;rw[l,f,n]at v;exact K2<|h _ (G.trans<|li _ a _) v
 .exact K2<|h _ G x
def addW{a:La}{led:Bool}{ks:O4 Int}{n:Nat}{k:Int}{u:Tok}{Q:Bool->Lm->Prop}(hS:dQ s.heap a led ks n)(Y:n+1<M6)
  (h:∀h' S b,ln a s.heap h'->S<=n+1->dQ h' a led (ks++[k]) S->Q b { s with heap:=h' }) :
  Lq (model prog w) A (setAddHashed a (.int k u)<|(Lg prog w).hash k) Q E s:=by
 let(o,p,ep,t,B,r,C,x,V,N,W,J,K):=hS;let Dw:(Lg prog w).is k (.int k u)=true:=Nl _ _ _ _;let F:(Qa k u).scannable=true:=rfl;let G:=x.elems (prog:=prog) (w:=w);let a0:p.size+1<M6:=by rw[K];exact Y
 unfold setAddHashed setAddHashedIn;calc K3<|K1<|Np B C N ?_;dsimp only;rw[byScan_of F V G];simp only[↓reduceIte];unfold setAddByScan;calc K1 ?_;calc K1<|Nq ?_;calc K1<|wpAny_setScan_of Dw B C N G ?_;cases hr:List.findIdx? (λe=>(Lg prog w).is k e.2) p.toList with
 |some j =>
  dsimp only;let(Z,O,_):=Gc.mp hr;let M:k∈ks:=x.found (oT Z) O;calc K2<|K2 ?_;let e:s={ s with heap:=s.heap }:=by cases s;rfl
  rw[e];exact h s.heap n OS (QM a s.heap) (D0 _) (o,p,ep,t,B,r,C,x.again M,V,N,W,J,K,)
 |none =>
  dsimp only;let M:k ∉ ks:=λz=>by
   let(e,T,q):=dr.mp<|(x.mem k).mp z;let:=List.findIdx?_eq_none_iff.mp hr e T;let(_,v,h2):=x.ent e T;rw[h2]at this;rw[←q]at this;rw[Nl]at this;exact Bool.noConfusion this
  let P:∀(b:Bool){c:Lm}{D:Unit->Lm->Prop},D () c->Lq (model prog w) A (match b with|true=>rule "set.scan.the-table-gave-way" | false=>pure ()) D E c :=
   λb c D m=>by cases b <;> first|exact K2 m|exact Nq m
  let I:=layNew_perm t p ((Lg prog w).hash k)<|.int k u;let y:=layNew_fits t p ((Lg prog w).hash k)<|.int k u;let(i,f):=vB W p ((Lg prog w).hash k)<|.int k u;generalize hL:Ni t p ((Lg prog w).hash k) (.int k u)=L at I y i f⊢;let(l,t1,tF,Kw):=L;dsimp only at I y i f⊢;let H:iB l (ks++[k]):=(x.push (u:=u) M).perm I;let Hn:l.size=n+1:=by rw[←Ht,I.length_eq,Ht,Array.size_push,K]
  let X:l.size<M6:=by rw[Hn];exact Y
  calc K1<|P _ ?_;let R:∀h',ln a s.heap h'->dQ h' a led (ks++[k]) l.size->Q OR { s with heap:=h' }:=λh' d g=>h h' _ OR d ∅ g
  split
  .refine K1 ?_;rw[hashByValue_scannable 8 F];calc K2 ?_;refine tE ?_ B r C H X ?_ ?_ (led:=led) ?_ ?_
   .intro b c D m;cases b <;> first|exact K2 m|exact Nq m
   .split
    .exact y
    .exact Nh.fits_plain_off y
   .split
    .exact i
    .exact i
   .split
    .exact f.trans J
    .exact f.trans J
   .intro h' d g;dsimp only;exact K2<|R h' d g
  .refine K1<|K2 ?_;simp only[↓reduceIte];refine tE ?_ B r C H X y i (f.trans J) ?_
   .intro b c D m;cases b <;> first|exact K2 m|exact Nq m
   .intro h' d g;dsimp only;calc K2<|R h' d g
def vE(a:K5){Q₁:K5->Lm->Prop}
  (h:Q₁ (.ref ↥s) { s with heap:=s.heap.push { cls:=.type "set",dict:=OQ,data:=.set #[] 0 (.fresh 0 0<|!dU w) } }) :
  Md (model prog w) A (.call (.builtin "set.__new__") ([.type "set",a],[],)) (wants Q₁ E) s:=by
 calc Nf ?_;show Lq _ A.in1 (do checkBuiltinCall "set.__new__" ([.type "set",a],[],);again (.builtin "set.__new__" ([.type "set",a],[],))) _ _ s;calc K1<|Nr (F.newCall_set_1 a)<|K2 (Na F.plain_set_new _,M8 F.entry_set_new ?_,);rw[io F.plain_set_new _];unfold L0.«set.__new__» L0.Frozenset.newClass;let e:=sub_set_self;let(f,g,d,b,c):=s;dsimp only
 wp_walk
 calc Nt<|K2 ?_;dsimp only;simp only[newObj];calc K1<|wpAny_alloc<|K2 ?_;calc K2 h
def DJ{R:Mc->Lm->Prop}{I:La}{fp h:O4 La}{G:Array Lo->Array Lo->Prop}{n:Nat}{P:Nat->K5->Prop}{St:Nat->Lm->Prop}(W:M5 prog w A.in1 I fp h G n P St){a:La}(K:a ∉ fp){ks:O4 Int}{led:Bool}
  (T:∀i v,P i v->∃k u,ks[i]?=OP k/\v=.int k u)(g:n+1<M6):∀(d i:Nat)(s:Lm)(m:Nat),n=i+d->m<=i->St i s->dQ s.heap a led (ks.take i) m ->
   (∀s' E,M7 (a :: h) G s s'->dQ s'.heap a led (ks.take n) E->E<=n->R (.ok<|.ret .none) s')->Md (model prog w) A (.builtin "set.update.loop" ([.ref a,.ref I],[],)) R s:=by
 let H:a ∉ h:=λz=>K<|W.sub a z
 intro d;induction d with
 |zero =>
  intro i s m e J j x c;rw[show n=i by lia]at W c;calc M8 (R:=R) (A:=A) GM ?_;rw[io (A:=A) sw _];show Lq (model prog w) A.in1 (LR (.ref I) >>= _) _ _ s;exact K1<|W.done s _ _ j λs' mv=>K2<|c s' m (mv.mono λb g=>fS a g) (x.stay λo q=>mv.heap a o H q) J
 |succ d S =>
  intro i s m e J j x c;calc M8 (R:=R) (A:=A) GM ?_;rw[io (A:=A) sw _];show Lq (model prog w) A.in1 (LR (.ref I) >>= _) _ _ s;calc K1<|W.item i s _ _ ∅ j λv f p l mv=>?_;let(k,u,X,rfl):=T i v p;let N:=x.stay λo q=>mv.heap a o H q
  show Lq (model prog w) A.in1 (holding [.int k u] (M9 a<|.int k u) >>= _) _ _ f;refine K1<|K3 (show Lq (model prog w) A.in1 (M9 a<|.int k u) _ _ f from ?_);unfold M9;calc K3<|K1<|(Lg prog w).pyHash (k:=k) (Nl _ _ _ _) ?_;refine addW (s:={ f with toks:=f.toks+1 }) N ∅ λL O _ D Y C=>?_
  let V:ks.take (i+1)=ks.take i++[k]:=by rw[ov,X];rfl
  rw[←V]at C;calc K2 (Na sw _,S (i+1) { f with heap:=L,toks:=f.toks+1 } O ∅ ∅ (W.frame (i+1) f L (f.toks+1) l (D0 _) λb B o q=>(D.2 b λz=>K<|z ▸ B).trans q) C λs2 Q r M t=>?_,);calc c s2 Q (M7.trans W.gtrans ((mv.mono λb g=>fS a g).then_heap (D0 _) λb o y q=>?_) r) M t;calc(D.2 b λz=>y<|z ▸ dt).trans q
def DK{l:La}{items:Array K5}{ks:O4 Int}(J:A.handled=OQ)(H:s.heap.IsList l items)(I:∀(i:Nat)(v:K5),items[i]?=OP v->∃k u,ks[i]?=OP k/\v=.int k u)(G:⇑ks=items.size)(K:items.size+1<M6) :
  Md (model prog w) A (.call (.builtin "set.__init__") ([.ref ↥s,.ref l],[],)) (wants (λr s2=>r=.none/\∃h' j m,s2={ s with heap:=h',toks:=j }/\dQ h' ↥s (!dU w) ks m/\m<=⇑ks/\∀b o,b<↥s->s.heap.get? b=OP o->h'.get? b=OP o) E) { s with heap:=s.heap.push (dz<|!dU w) }:=by
 let h:(s.heap.push<|dz<|!dU w).get? ↥s=OP (dz<|!dU w):=am s.heap Z;let ty:Go { s with heap:=s.heap.push (dz<|!dU w) } (.ref ↥s) "set" := (dz<|!dU w,h,Z,);calc Nb lv.init.plain F.entry_set_init<|Nc ty ?_;let((Y,Q,X,P),e,g,m,f):=H;dsimp only at g f;subst g f;let M:(s.heap.push<|dz<|!dU w).get? l=OP { cls:=.type "list",dict:=Q,data:=.seq items m,slots:=P }:=ac _ e;let V:=F.sub_list_set;let T:=Rf;let S:(xL "list" == xL "dict")=false:=⋯
 let d:(s.heap.push<|dz<|!dU w).IsList l items:=(_,M,Z,m,Z,);let lt:l<↥s:=al e;let p:dQ (s.heap.push<|dz<|!dU w) ↥s (!dU w) [] 0:=(_,#[],0,_,h,(Z,Z,Z,),Z,(by simp,by simp,by simp,),by unfold M6;decide,Z,Po,Z,Z,);unfold L0.«set.__init__» PX noKeywords;generalize L:LU=it;generalize W:dU w=bt at *
 wp_walk
 subst L;calc LZ d<|K1<|Nd ?_;let B:l≠(s.heap.push<|dz<|!bt).objs.size:=by rw[jp];exact Bo<|CP lt
 let C:↥s ∉ [(s.heap.push<|dz<|!bt).objs.size,l]:=by
  rw[jp];intro z;rcases bz.mp z with z|z
  .exact OY z<|Bo<|DN _
  .exact OY (~~~z)<|CD lt
 refine DJ ((QR (by simp[J]) _ l B items).toS) C (ks:=ks) (led:=!bt) I K items.size 0 _ 0 (Fq _).symm (Ab _) ((_,am _ Z,Z,Z,),d.push _,) (p.stay λo q=>ac _ q) λt D mv x R=>?_
 let(h',N,O,n,y):=t;obtain rfl:N=s.gens:=mv.gens;obtain rfl:O=s.drawn:=mv.drawn;obtain rfl:y=s.os:=mv.os;refine K2 (show Lq (model prog w) _ (ret pc) _ _ _ from K2 (Z,h',n,D,Z,?_,∅,λb o a q=>?_,))
 .rw[←G,gs]at x;exact x
 .refine mv.heap b o (λz=>?_)<|ac _<|ac _ q;rcases bz.mp z with z|z
  .exact OY z<|Bo a
  .let c:b=(s.heap.push<|dz<|!bt).objs.size:= ~~~z
   rw[jp]at c;exact OY c (Bo<|CP a)
set_option maxRecDepth 100000 in
def ye{l:La}{items:Array K5}{ks:O4 Int}{Q:K5->Lm->Prop}(B:A.handled=OQ)(y:s.heap.IsList l items)(z:∀(i:Nat)(v:K5),items[i]?=OP v->∃k u,ks[i]?=OP k/\v=.int k u)(q:⇑ks=items.size)(C:items.size+1<M6)
  (h:∀h' d m,dQ h' ↥s (!dU w) ks m->m<=⇑ks->(∀b o,b<↥s->s.heap.get? b=OP o->h'.get? b=OP o)->Q (.ref ↥s) { s with heap:=h',toks:=d }):Lq (model prog w) A (call (.type "set") [.ref l]) Q E s:=by
 let(c,H,mro):=lv.mro;let N:=lv.made;let M:=lv.sub;let L:=lv.notType;let K:=lv.canCreate;let J:=F.typeCall_set_1<|.ref l;refine Mm<|Nf (show Lq (model prog w) _ (callAny (.type "set") _) _ _ _ from K2 (Mh.quiet_builtin _<|~~~0,M8 F.entry_type_call ?_,));rw[Ll.under_plain (A:=A) (Ng "set" [.ref l] []) Z]
 repeat (any_goals (first|assumption|wp_step))
 refine Mn (vE (.ref l) (E:=E) (Q₁:=λj g=>j=.ref ↥s/\g={ s with heap:=s.heap.push (dz<|!dU w) }) (Z,Z,)) λr g f=>?_
 cases r with
 |error e=>exact f
 |ok fl =>
  cases fl with
  |ret j =>
   let(rfl,rfl):=f;let D:(s.heap.push<|dz<|!dU w).get? ↥s=OP (dz<|!dU w):=am s.heap Z;let ty:Go { s with heap:=s.heap.push (dz<|!dU w) } (.ref ↥s) "set" := (dz<|!dU w,D,Z,);let I:=lv.init.lookup;let b2:=lv.init.bind<|.ref ↥s
   repeat (any_goals (first|assumption|wp_step))
   refine Mn (DK (E:=E) (by simp[B]) y z q C) λn s2 a=>?_
   cases n with
   |error e=>exact a
   |ok G =>
    cases G with
    |ret r =>
     let(rfl,h',d,m,rfl,x,t,p):=a
     repeat (any_goals (first|assumption|wp_step))
     exact h h' d m x t p
    |_=>exact a.elim
  |_=>exact f.elim
set_option maxRecDepth 100000
def ba:Slot "set_iterator" "__next__" "set_iterator.__next__" :=
 .of (owner := "set_iterator") (n := "__next__") (by rw[Nu,Nv];kernel_rfl) (~~~0) (~~~0) (~~~0)
  (by first|exact .inl (~~~0)|exact .inr (~~~0)) (by rw[Nw];kernel_rfl)
def gZ:Slot "set_iterator" "__iter__" "set_iterator.__iter__" :=
 .of (owner := "set_iterator") (n := "__iter__") (by rw[Nu,Nv];kernel_rfl) (~~~0) (~~~0) (~~~0)
  (by first|exact .inl (~~~0)|exact .inr (~~~0)) (by rw[Nw];kernel_rfl)
def dc:Nx table "set_iterator.__next__" = OP L0.«set_iterator.__next__»:=Ny (by kernel_rfl)
def lD:Nx table "set_iterator.__iter__" = OP L0.«dict_keyiterator.__iter__» :=
 Nz (id' := "dict_keyiterator.__iter__") (by kernel_rfl) Z (~~~0) (by kernel_rfl)
def nv:Nx table "set.__iter__" = OP L0.«frozenset.__iter__» :=
 Nz (id' := "frozenset.__iter__") (by kernel_rfl) Z (~~~0) (by kernel_rfl)
def du(a:K5):NA "set_iterator.__next__" ([a],[],):=by unfold NA;kernel_rfl
def mF(a:K5):NA "set_iterator.__iter__" ([a],[],):=by unfold NA;kernel_rfl
abbrev fb(first:K5)(i:Int)(s:K5)(n a:Nat):Obj:={ cls:=.type "set_iterator",data:=.fields #[first,.int i 0,s,.int n 0,.int a 0] }
def qZ{a:Source}{n:Nat}{Q:Nat->Lm->Prop}(b:n≠0)(h:Q (w.draws a (s.drawn.get a)%n) { s with drawn:=s.drawn.bump a }) :
  Lq (model prog w) A (choose a n) Q E s:=λ_ _ _=>(b,h,)
def nA{α:Type}:∀(n:Nat)(xs:O4 α)(s:Lm){Q:O4 α->Lm->Prop},n=⇑xs->(∀ys d,ys.Perm xs->Q ys { s with drawn:=d })->Lq (model prog w) A (NB n xs) Q E s:=by
 intro n;induction n with
 |zero =>
  intro xs s Q e h;let:xs=[]:=Pd.mp e.symm;subst this;unfold NB;exact K2<|h [] s.drawn (.refl _)
 |succ n c =>
  intro xs s Q e h;cases xs with
  |nil=>simp at e
  |cons x r =>
   unfold NB;refine K1 (qZ (by simp) ?_);generalize hi:w.draws Source.order (s.drawn.get Source.order)%⇑(x :: r)=i;let a:i<⇑(x :: r):=by rw[←hi];exact Ha _ (by simp)
   let b:(x :: r)[i]?=OP (x :: r)[i]:=KN a;rw[b]
   try dsimp only
   refine K1 (c _ _ (by rw[Qp a];lia) λys d p=>K2 ?_);calc h _ d<|(p.cons _).trans<|fP b
def yf{I a:La}{b i:Nat}{o:Obj}{c:Array (Int×K5)}{d:Nat}{t:Nh}{Q:Option K5->Lm->Prop}
  (e:s.heap.get? I=OP (fb (.int b 0) i (.ref a) c.size d))(k:s.heap.get? a=OP o)(n:o.data=.set c d t)(l:t.fits c.size=OR)
  {x:K5}{nx:Nat}(q:∀(j:Option (K5×Nat)->Lm->Prop) E',j (OP (x,nx)) s->Lq (model prog w) A.in1 (NC a b i d) j E' s)
  (p:∀h',h'.get? I=OP (fb (.int nx 0) ((i+1:Nat):Int) (.ref a) c.size d)->ln I s.heap h'->Q (OP x) { s with heap:=h' }) :
  Lq (model prog w) A (LR<|.ref I) Q E s:=by
 let h:s.TypeIs (.ref I) "set_iterator" := (_,e,Z,);unfold LR;calc K1<|ND<|MB (name:=s!"__next__") h ba<|MC ba h dc ?_<|du _;unfold L0.«set_iterator.__next__»;calc K1 (m:=NF "__next__" 0 _)<|K2 ?_;refine K1<|NG e Z ?_
 try dsimp only
 calc K1<|NH k n l ?_;rw[OW (by simp)]
 try dsimp only
 simp only[Kn];refine K1<|q _ _ ?_
 try dsimp only
 refine K1 (NI e (by simp) λu y g=>?_);refine K1 (NI (s:={ s with heap:=u }) y (by simp) λr v f=>?_);calc K2 (x,Z,K2<|p r ?_<|g.trans f,);rw[v];simp[fb,LV]
def yg{I a:La}{c i:Nat}{o:Obj}{e:Array (Int×K5)}{f:Nat}{t:Nh}{Q:Option K5->Lm->Prop}(k:A.handled=OQ)
  (d:s.heap.get? I=OP (fb (.int c 0) i (.ref a) e.size f))(j:s.heap.get? a=OP o)(n:o.data=.set e f t)(l:t.fits e.size=OR)
  (q:∀(h:Option (K5×Nat)->Lm->Prop) E',h OQ s->Lq (model prog w) A.in1 (NC a c i f) h E' s)
  (p:∀h',Qb I s.heap h'->Q OQ { s with heap:=h' }) :
  Lq (model prog w) A (LR<|.ref I) Q E s:=by
 let g:s.TypeIs (.ref I) "set_iterator" := (_,d,Z,);unfold LR;calc K1<|ND<|MB (name:=s!"__next__") g ba<|MC ba g dc ?_<|du _;unfold L0.«set_iterator.__next__»;calc K1 (m:=NF "__next__" 0 _)<|K2 ?_;refine K1<|NG d Z ?_
 try dsimp only
 calc K1<|NH j n l ?_;rw[OW (by simp)]
 try dsimp only
 simp only[Kn];refine K1<|q _ _ ?_
 try dsimp only
 refine K1 (NJ d Z (by simp) ?_);show Lq _ _ (NL (.type "StopIteration") [] >>= _) _ _ _;calc K1 ?_;simp only[NL,NM];refine K1 (ME ?_ (by size_fits));refine K1 (m:=NN _ _) (Nr (a:=pc) (by first|rfl|(simp only[NN];rfl)) ?_);refine ME ?_ (by size_fits);simp only[NO];calc K1<|NP ?_;rw[show A.in1.handled=OQ from k];calc K1<|K2<|NQ ?_;calc K1<|NR (T := "StopIteration") (b:=OR) (_,am _ Z,Z,) NS ?_;calc K2<|p _<|((li ..).extBut.push _).push _
def vF{I a tp:La}{i:Nat}{o:Obj}{b:Array (Int×K5)}{d:Nat}{t:Nh}{places:O4 Nat}{m:Nat}{to:Obj}{Q:Option K5->Lm->Prop}
  (c:s.heap.get? I=OP (fb (.ref tp) i (.ref a) b.size d))(n:s.heap.get? tp=OP to)(g:to.data=.seq (places.map λ(p:Nat)=>LV p).toArray m)(h:s.heap.get? a=OP o)(k:o.data=.set b d t)(j:t.fits b.size=OR)
  {p:Nat}(q:places[i]?=OP p){e:Int×K5}(r:b[p]?=OP e)
  (u:∀h',h'.get? I=OP (fb (.ref tp) ((i+1:Nat):Int) (.ref a) b.size d)->ln I s.heap h'->Q (OP e.2) { s with heap:=h' }) :
  Lq (model prog w) A (LR<|.ref I) Q E s:=by
 let l:s.TypeIs (.ref I) "set_iterator" := (_,c,Z,);unfold LR;calc K1<|ND<|MB (name:=s!"__next__") l ba<|MC ba l dc ?_<|du _;unfold L0.«set_iterator.__next__»;calc K1 (m:=NF "__next__" 0 _)<|K2 ?_;refine K1<|NG c Z ?_
 try dsimp only
 calc K1<|NH h k j ?_;rw[OW (by simp)]
 try dsimp only
 refine K1<|NU n g ?_
 try dsimp only
 let y:(places.map λ(p:Nat)=>LV p).toArray[(i:Int).toNat]?=OP (.int p 0):=by simp[q,LV]
 rw[y]
 try dsimp only
 unfold setNextDrawn;refine K1<|K1<|Np h k j ?_
 try dsimp only
 rw[OW (by simp)];calc K1<|K2 ?_;simp only[Kn,r];calc K2 ?_;refine K1 (NI c (by simp) λv x f=>?_);calc K2 (e.2,Z,K2<|u v ?_ f,);rw[x];simp[fb,LV]
def nB{I a tp:La}{i:Nat}{o:Obj}{d:Array (Int×K5)}{j:Nat}{t:Nh}{places:O4 Nat}{m:Nat}{to:Obj}{Q:Option K5->Lm->Prop}(n:A.handled=OQ)
  (c:s.heap.get? I=OP (fb (.ref tp) i (.ref a) d.size j))(k:s.heap.get? tp=OP to)(f:to.data=.seq (places.map λ(p:Nat)=>LV p).toArray m)(l:s.heap.get? a=OP o)(r:o.data=.set d j t)(q:t.fits d.size=OR)
  (g:places[i]?=OQ)(u:∀h',Qb I s.heap h'->Q OQ { s with heap:=h' }) :
  Lq (model prog w) A (LR<|.ref I) Q E s:=by
 let h:s.TypeIs (.ref I) "set_iterator" := (_,c,Z,);unfold LR;calc K1<|ND<|MB (name:=s!"__next__") h ba<|MC ba h dc ?_<|du _;unfold L0.«set_iterator.__next__»;calc K1 (m:=NF "__next__" 0 _)<|K2 ?_;refine K1<|NG c Z ?_
 try dsimp only
 calc K1<|NH l r q ?_;rw[OW (by simp)]
 try dsimp only
 refine K1<|NU k f ?_
 try dsimp only
 let y:(places.map λ(p:Nat)=>LV p).toArray[(i:Int).toNat]?=none:=by simp at g⊢;exact g
 rw[y]
 try dsimp only
 refine K1 (NI c (by simp) λv x e=>?_);refine K1 (NJ (s:={ s with heap:=v }) x Z (by simp) ?_);show Lq _ _ (NL (.type "StopIteration") [] >>= _) _ _ _;calc K1 ?_;simp only[NL,NM];refine K1 (ME ?_ (by size_fits));refine K1 (m:=NN _ _) (Nr (a:=pc) (by first|rfl|(simp only[NN];rfl)) ?_);refine ME ?_ (by size_fits);simp only[NO];calc K1<|NP ?_;rw[show A.in1.handled=OQ from n];calc K1<|K2<|NQ ?_;calc K1<|NR (T := "StopIteration") (b:=OR) (_,am _ Z,Z,) NS ?_;calc K2<|u _<|((e.trans<|li ..).extBut.push _).push _
def nC{I:La}{first:K5}{i:Int}{v:K5}{n c:Nat}{Q:K5->Lm->Prop}(b:s.heap.get? I=OP (fb first i v n c))(h:Q (.ref I) s):Lq (model prog w) A (LU<|.ref I) Q E s:=by
 let a:s.TypeIs (.ref I) "set_iterator" := (_,b,Z,);calc NV a gZ<|MC gZ a lD ?_<|mF _;show Lq _ _ (ret<|.ref I) _ _ s;calc K2 (_,Z,"set_iterator",_,a,ba.lookup,h,)
def ku{a:La}{o:Obj}{d:Array (Int×K5)}{f:Nat}{t:Nh}{b i:Nat}(l:dU w=OR)(g:s.heap.get? a=OP o)(k:o.data=.set d f t)(j:t.fits d.size=OR)
  {Q:Option (K5×Nat)->Lm->Prop}(h:Q (((Nk (w.params.setOrder a f) d)[i]?).map λe=>(e.2,b)) s):Lq (model prog w) A (NC a b i f) Q E s:=by
 let c:((NW.mk prog w.params).params.followText "set-order")=true:=l;unfold NC;refine K1<|Np g k j ?_
 try dsimp only
 unfold NX;calc K1<|K1<|Nt<|K2 ?_;show Lq _ _ (if (NW.mk prog w.params).params.followText "set-order" = OR then _ else _) _ _ _;rw[OX c,OW (by simp)];unfold setWalk;refine K1<|K1<|Np g k j ?_
 try dsimp only
 unfold NX;calc K1<|K1<|Nt<|K2 ?_;show Lq _ _ (if (NW.mk prog w.params).params.followText "set-order" = OR then _ else _) _ _ _;rw[OX c];calc K1<|Nt<|K2<|K2 h
def jz{a:La}{o:Obj}{c:Array (Int×K5)}{e:Nat}{t:Nh}{b i:Nat}(n:dU w=OS)(g:s.heap.get? a=OP o)(m:o.data=.set c e t)(l:t.fits c.size=OR)(k:t.led=OR)(f:(!t.plain && decide (c.size>1))=OS)
  {Q:Option (K5×Nat)->Lm->Prop}(h:Q (match c[lm t.place b]?,t.place[lm t.place b]? with|some (_,x),OP j=>OP (x,j+1)|_,_=>OQ) s):Lq (model prog w) A (NC a b i e) Q E s:=by
 let d:((NW.mk prog w.params).params.followText "set-order")=false:=n;unfold NC;refine K1<|Np g m l ?_
 try dsimp only
 unfold NX;calc K1<|K1<|Nt<|K2 ?_;show Lq _ _ (if (NW.mk prog w.params).params.followText "set-order" = OR then _ else _) _ _ _;rw[OW (by rw[d];exact bi)];show Lq _ _ (if (!t.plain && decide (c.size>1))=OR then _ else _) _ _ _;rw[OW (by rw[f];exact bi)];show Lq _ _ ((if (!t.led && !c.isEmpty)=OR then unsupported "set:maker-not-led" else pure ()) >>= _) _ _ _;rw[k,OW (by simp)];exact K1 (K2<|K2 h)
set_option maxRecDepth 100000
abbrev tH:Array Lo->Array Lo->Prop:=λg a=>a=g
def p8{I:La}{h':Lb}(a:ln I s.heap h'):M7 [I] tH s { s with heap:=h' } :=
 (λb o c e=>(a.2 b λz=>c<|z ▸ dt).trans e,Z,Z,Z,Ab _,)
def p9{I:La}{h':Lb}(a:Qb I s.heap h'):M7 [I] tH s { s with heap:=h' } :=
 (λb o c e=>a b o (λz=>c<|z ▸ dt) e,Z,Z,Z,Ab _,)
def nE(D:A.handled=OQ){I a:La}(n:a≠I){o:Obj}{f:Array (Int×K5)}{m:Nat}{t:Nh}(u:o.data=.set f m t)(r:t.fits f.size=OR){d:O4 K5}(C:⇑d=f.size)(j:Nat->Nat)
  (F:∀(i:Nat)(x:K5)(s:Lm)(e:Option (K5×Nat)->Lm->Prop) h,s.heap.get? a=OP o->d[i]?=OP x->e (OP (x,j<|i+1)) s->Lq (model prog w) A.in1 (NC a (j i) i m) e h s)
  (G:∀(s:Lm)(e:Option (K5×Nat)->Lm->Prop) h,s.heap.get? a=OP o->e OQ s->Lq (model prog w) A.in1 (NC a (j f.size) f.size m) e h s) :
  M5 prog w A I [I,a] [I] tH f.size (λi v=>d[i]?=OP v) (λi s=>s.heap.get? I=OP (fb (.int (j i) 0) i (.ref a) f.size m)/\s.heap.get? a=OP o) where
 sub:=λb y=>by simp at y;simp[y]
 grefl:=λ_=>Z
 gtrans:=λ_ _ _ J H=>H.trans J
 frame:=λi s z L c _ k=>(k I (by simp) _ c.1,k a (by simp) _ c.2,)
 item:=λi s Q E hi c l=>by
  let B:d[i]?=OP d[i]:=KN ∅;refine yf c.1 c.2 u r (x:=d[i]) (nx:=j<|i+1) (λe h q=>F i _ s e h c.2 B q) λz g p=>?_
  exact l _ _ B (g,(p.2 a n).trans c.2,) (p8 p)
 done:=λs Q E c l=>yg D c.1 c.2 u r (λe h q=>G s e h c.2 q) λz K=>l _ (p9 K)
 self:=λi s Q E c l=>nC c.1 l
def tI(D:A.handled=OQ){I a tp:La}(u:a≠I)(r:tp≠I){o to:Obj}{d:Array (Int×K5)}{C m:Nat}{t:Nh}(y:o.data=.set d C t)(x:t.fits d.size=OR){places:O4 Nat}(j:to.data=.seq (places.map λ(p:Nat)=>LV p).toArray m)
  (J:⇑places=d.size){h:O4 K5}(H:∀(i:Nat),i<d.size->∃p e,places[i]?=OP p/\d[p]?=OP e/\h[i]?=OP e.2) :
  M5 prog w A I [I,a,tp] [I] tH d.size (λi v=>h[i]?=OP v) (λi s=>s.heap.get? I=OP (fb (.ref tp) i (.ref a) d.size C)/\s.heap.get? a=OP o/\s.heap.get? tp=OP to) where
 sub:=λb z=>by simp at z;simp[z]
 grefl:=λ_=>Z
 gtrans:=λ_ _ _ q n=>n.trans q
 frame:=λi s B K c _ k=>(k I (by simp) _ c.1,k a (by simp) _ c.2.1,k tp (by simp) _ c.2.2,)
 item:=λi s Q E hi c f=>by
  let(p,e,q,n,F):=H i hi;refine vF c.1 c.2.2 j c.2.1 y x q n λB g l=>?_
  exact f _ _ F (g,(l.2 a u).trans c.2.1,(l.2 tp r).trans c.2.2,) (p8 l)
 done:=λs Q E c f=>nB D c.1 c.2.2 j c.2.1 y x (lg ∅) λB G=>f _ (p9 G)
 self:=λi s Q E c f=>nC c.1 f
def zW{a:La}{o:Obj}{f:Array (Int×K5)}{B:Nat}{t:Nh}{Q:K5->Lm->Prop}(C:s.heap.get? a=OP o)(a0:o.ExactSet)(r:o.data=.set f B t)(y:f.size<M6)(n:t.fits f.size=OR)(ha:Asc t.place)(hl:t.led = !dU w)
  (h:∀(I:La)(h':Lb)(d:Drawn)(M:O4 K5)(fp:O4 La)(St:Nat->Lm->Prop),(∀b u,s.heap.get? b=OP u->h'.get? b=OP u)->M.Perm (f.toList.map (·.2)) ->
   (∀L:Ll,L.handled=OQ->M5 prog w L I fp [I] tH f.size (λi v=>M[i]?=OP v) St)->St 0 { s with heap:=h',drawn:=d }->↥s<=I->(∀b∈fp,b=a\/↥s<=b)->Q (.ref I) { s with heap:=h',drawn:=d }) :
  Lq (model prog w) A (LU<|.ref a) Q E s:=by
 let hT:s.TypeIs (.ref a) "set" := (o,C,a0.1,);let la:a<↥s:=al C;calc NV hT F.slot_set_iter<|MC F.slot_set_iter hT nv ?_<|F.args_set_iter_1 _;unfold L0.«frozenset.__iter__» L0.Frozenset.slot0;calc K1<|K1 (m:=NF "__iter__" 0 _)<|K2 ?_;unfold L0.Frozenset.addrOf;calc K2 ?_;unfold L0.Frozenset.sizeOf;calc K1<|K1<|NH C r n<|K2 ?_;unfold setDrawn;refine K1<|K1<|Np C r n ?_
 try dsimp only
 unfold NX;calc K1<|K1<|Nt<|K2 ?_;calc K2 ?_;show Lq _ _ (if (!dU w && (!t.plain && decide (f.size>1)))=OR then _ else _) _ _ _;let H:⇑f.toList=f.size:=Ht;by_cases c:(!dU w && (!t.plain && decide (f.size>1)))=OR
 .rw[OX c];refine K1 (nA f.size (bn f.size) s (by simp) λj d p=>?_);refine K1<|NY ?_ ?_
  rotate_left
  .rw[aa,p.length_eq,jU];unfold M6 at y;unfold Lc;lia
  generalize N:({ cls:=.type "tuple",data:=.seq (j.map λ(i:Nat)=>LV i).toArray }:Obj)=to;let gt:(s.heap.push to).get? ↥s=OP to:=by rw[←N];exact am _ Z
  let ga:(s.heap.push to).get? a=OP o:=ac _ C;calc K1 (m:=setEpoch a)<|NZ (s:={ s with heap:=s.heap.push to,drawn:=d }) ga r n ?_;refine K1 (ME ?_ (by size_fits));let J:((s.heap.push to).push<|fb (.ref ↥s) (0:Nat) (.ref a) f.size B).get? (s.heap.push to).objs.size=OP (fb (.ref ↥s) (0:Nat) (.ref a) f.size B):=am _ Z;calc K2 (_,Z,"set_iterator",_,(_,J,Z,),ba.lookup,?_,);let V:∀i,i<f.size->∃p e,j[i]?=OP p/\f[p]?=OP e/\(j.map λp=>(f[p]?.map (·.2)).getD .none)[i]?=OP e.2:=λi hi=>by
   let P:i<⇑j:=by rw[p.length_eq,jU];exact hi
   let G:j[i]?=OP j[i]:=KN P;let lt:j[i]<f.size:=iT.mp<|p.mem_iff.mp<|oT P;let W:f[j[i]]?=OP f[j[i]]:=HA lt;exact(j[i],f[j[i]],G,W,by rw[dy,G];simp[W],)
  let p7:(j.map λp=>(f[p]?.map (·.2)).getD pc).Perm (f.toList.map (·.2)):=by
   calc(p.map _).trans (List.Perm.of_eq ?_);apply List.ext_getElem
   .simp
   .intro i h1 h2;simp at h1;simp[h1]
  refine h _ _ d _ [(s.heap.push to).objs.size,a,↥s] _ (λb u e=>ac _<|ac _ e) p7
   (λL K=>tI K (places:=j) (to:=to) (m:=0) (by rw[jp];exact Bo (CP la)) (by rw[jp];exact Bo (DN _)) r n (by rw[←N]) (by rw[p.length_eq,jU]) V)
   (J,ac _ ga,ac _ gt,) (by rw[jp];exact D0 _) λb y=>?_
  rcases bz.mp y with rfl|y
  .exact .inr (by rw[jp];exact D0 _)
  .rcases bz.mp y with rfl|y
   .exact .inl Z
   .let:b=↥s:= ~~~y
    exact .inr (by rw[this];exact Ab _)
 .rw[OW c];calc K1<|K2 ?_;calc K1 (m:=setEpoch a)<|NZ C r n ?_;refine K1 (ME ?_ (by size_fits));let J:(s.heap.push<|fb (.int (0:Nat) 0) (0:Nat) (.ref a) f.size B).get? ↥s=OP (fb (.int (0:Nat) 0) (0:Nat) (.ref a) f.size B):=am _ Z;calc K2 (_,Z,"set_iterator",_,(_,J,Z,),ba.lookup,?_,);let ne:a≠↥s:=Bo la;let R:∀b∈[↥s,a],b=a\/↥s<=b:=λb y=>by
   rcases bz.mp y with rfl|y
   .exact .inr<|Ab _
   .exact .inl<|~~~y
  cases hbt:dU w with
  |true =>
   let pp:=yd (w.params.setOrder a B) f;let D:⇑((Nk (w.params.setOrder a B) f).toList.map (·.2))=f.size:=by rw[aa,pp.length_eq,H]
   refine h _ _ s.drawn ((Nk (w.params.setOrder a B) f).toList.map (·.2)) [↥s,a] _ (λb u e=>ac _ e) (pp.map _)
    (λL K=>nE K ne r n D (λ_=>0) (λi x T X Y g l q=>ku hbt g r n ?_) λT X Y g q=>ku hbt g r n ?_) (J,ac _ C,) (Ab _) R
   .rw[dy,HH]at l;cases e:(Nk (w.params.setOrder a B) f)[i]? with
    |none=>rw[e]at l;cases l
    |some z=>rw[e]at l;injection l with l;subst l;exact q
   .let e:(Nk (w.params.setOrder a B) f)[f.size]?=none:=by
     rw[←HH];exact lg (by rw[aa]at D;lia)
    rw[e];exact q
  |false =>
   let O:t.led=true:=by rw[hl,hbt];rfl
   let V:(!t.plain && decide (f.size>1))=false:=by
    rw[hbt]at c;simpa using c
   let a1:t.place.size=f.size:=by
    let:=n;simp only[Nh.fits,KS,beq_iff_eq]at this;exact this.1
   let S:∀i,i<=f.size->lm t.place (match i with|0=>0|k+1=>t.place.getD k 0+1)=i:=λi hi=>by
    cases i with
    |zero=>exact tj ha
    |succ k =>
     have hk:k<t.place.size:=∅
     have eg:t.place.getD k 0=t.place[k]:=by simp[Q5,hk]
     show lm t.place (t.place.getD k 0+1)=k+1;rw[eg];exact vy ha hk
   refine h _ _ s.drawn (f.toList.map (·.2)) [↥s,a] _ (λb u e=>ac _ e) (.refl _)
    (λL K=>nE K ne r n (by rw[aa,H]) (λi=>match i with|0=>0|k+1=>t.place.getD k 0+1) (λi x T X Y g l q=>jz hbt g r n O V ?_) λT X Y g q=>jz hbt g r n O V ?_) (J,ac _ C,) (Ab _) R
   .let hi:i<f.size:=by
     let(z,_):=KO.mp l;rw[aa,H]at z;exact z
    rw[S i (Dn hi)];let G:f[i]?=OP f[i]:=HA hi;let W:t.place[i]?=OP t.place[i]:=HA ∅;let e3:x=f[i].2:=by
     rw[dy,HH,G]at l;injection l with l;exact l.symm
    rw[G,W];let e4:t.place.getD i 0=t.place[i]:=by simp[Q5,show i<t.place.size by lia]
    subst e3;let q2:X (OP (f[i].2,t.place.getD i 0+1)) T:=q;rw[e4]at q2;exact q2
   .rw[S f.size (Ab _)];let G:f[f.size]?=none:=wS<|Ab _;rw[G];exact q
set_option maxRecDepth 100000
def yh{a:O4 K5}{b:Array K5}{n:Nat}(h:ItemsOf (λi v=>a[i]?=OP v) b n)(c:⇑a=n):b.toList=a:=by
 apply List.ext_getElem
 .rw[Ht,h.1,c]
 .intro i f d;let e:a[i]?=OP b[i]:=h.2 i b[i] (HA<|~~~f);rw[KN d]at e;injection e with e;simpa using e.symm
def tJ{a:La}{o:Obj}{q:Array (Int×K5)}{ep:Nat}{t:Nh}{Q:O4 K5->Lm->Prop}(hh:A.handled=OQ)(S:s.heap.get? a=OP o)(m:o.ExactSet)(hd:o.data=.set q ep t)(v:q.size<M6)(hf:t.fits q.size=OR)(ha:Asc t.place)(hl:t.led = !dU w)
  (h:∀(f:O4 K5)(s':Lm),f.Perm (q.toList.map (·.2))->(∀b u,s.heap.get? b=OP u->s'.heap.get? b=OP u)->s'.gens=s.gens->s'.os=s.os->↥s<↥s'->Q f s') :
  Lq (model prog w) A (collect<|.ref a) Q E s:=by
 let R:a<↥s:=al S;unfold collect;calc K1<|Nd<|M8 F.entry_proto_collect ?_;rw[io F.plain_proto_collect _];show Lq _ A.in1 (MU [] >>= λl=>again<|.builtin "list.__iadd__" ([l,.ref a],[],)) _ _ s;calc K1<|ME ?_;calc K2 (Na F.plain_list_iadd _,M8 F.entry_list_iadd ?_,);rw[io F.plain_list_iadd _];generalize B:({ cls:=.type "list",data:=.seq ([]:O4 K5).toArray }:Obj)=lo;let J:(s.heap.push lo).get? a=OP o:=ac _ S;let gS:(s.heap.push lo).get? ↥s=OP lo:=by rw[←B];exact am _ Z
 let M:Go { s with heap:=s.heap.push lo } (.ref a) "set" := (o,J,m.1,);show Lq _ A.in1 (ww (.ref ↥s) (.ref a)<|.ref ↥s) _ _ _;unfold ww;calc K1<|MD M ?_;let h1:My (.ref ↥s) (.ref a)=false:=by simp[My];exact CD R
 let h2:(xL "set" == xL "list")=false:=⋯
 let h3:(xL "set" == xL "tuple")=false:=⋯
 simp only[h1,h2,h3,Bool.or_false,KU,if_false];calc K1<|zW (s:={ s with heap:=s.heap.push lo }) J m hd v hf ha hl λI j d f fp St H P W Y hI L=>?_;let g2:j.get? a=OP o:=H a o J;let n:Go { s with heap:=j,drawn:=d } (.ref a) "set" := (o,g2,m.1,);calc K1<|K3 ?_;unfold Qt;refine K1 (N0 n F.slot_set_len.lookup ?_)
 (generalize k:("set.__len__" : String)=id0;(fail_if_success (clear k id0));wp_delta;rw[show splitId id0=OP ("set","__len__")from by subst k;decide+kernel];subst k)
 calc K1<|NR (b:=OR) n sub_set_self ?_;calc K1<|MD n ?_;calc K2 ?_;show Lq _ A.in1 (rule "list.extend.makes-room" >>= λ_=>QS (.ref ↥s) >>= λ_ =>
  again (.builtin "list.extend.loop" ([.ref ↥s,.ref I,.ref ↥s],[],))) _ _ _
 calc K1<|Nq ?_;let c:j.get? ↥s=OP lo:=H _ _ gS;rw[←B]at c;calc K1 ?_;show Lq _ A.in1 (N1 ↥s (·.push .none) >>= λ_=>N1 ↥s (·.pop)) _ _ _;calc K1<|N2 c Z ?_;let i:=nw (ci (·.push pc)) c Z;calc N2 i Z ?_;let p:=nw (ci (·.pop)) i Z
 let y:∀b u,b≠↥s->j.get? b=OP u ->
   ((j.update ↥s (ci (·.push pc))).update ↥s (ci (·.pop))).get? b=OP u :=
  λb u v e=>(sn _ _<|On v).trans<|(sn _ _<|On v).trans e
 let x:(s.heap.push lo).objs.size=↥s+1:=jp ..;let C:↥s ∉ fp:=λr=>by
  rcases L _ r with z|z
  .exact CD R z
  .let O:(s.heap.push lo).objs.size<=↥s:=z;rw[x]at O;exact Nat.not_succ_le_self _ O
 let T:=W A.in1 (by simp[hh]);let G:⇑f=q.size:=by rw[P.length_eq,aa,Ht]
 let K:=T.frame 0 ({ s with heap:=j,drawn:=d }:Lm) ((j.update ↥s (ci (·.push pc))).update ↥s (ci (·.pop))) s.toks Y (Ab _) λb g o' e=>y b o' (λz=>C<|z ▸ g) e
 refine K2 (Na Fa _,codeAny_extend_loopS T (by unfold M6 at v;unfold Lc;lia) _ C _ q.size 0 _ _ _ Z (BG _)
  K p (ItemsOf.nil _) λs' zX c' r D V=>?_,)
 show Lq _ A (load ↥s >>= _) _ _ s';calc K1<|wpAny_load D ?_;calc K2 ?_;rw[yh V G];calc h f s' P (λb u e=>?_) r.gens r.os<|al D;let g:b<↥s:=al e;calc r.heap b u (λz=>?_)<|y b u (Bo g)<|H b u<|ac _ e;rcases bz.mp z with z|z
 .exact Bo g z
 .let X:b=I:= ~~~z
  let N:(s.heap.push lo).objs.size<=I:=hI;rw[x,←X]at N;calc DE _<|BS g<|Nat.le_of_succ_le N
variable{OU:O4 (La×Obj)}{σ:St}{H:Hp}{h':Lb}
section
variable{Y:O4 La}
end
variable{P:K7}{K:RD}{mg:Str->Option K5}{base:Lb}{N:O4 Str}{scope:Ln}{f:La}
section
variable{qual:Str}{cd:K5}{outer:O4 Env}{s0:Lm}{H0:Hp}{E:XK}
end
def jA:dh X (.builtin "len") (λxs H Q=>∃(l:La)(zs:O4 Str),xs=[.ref l]/\H l=OP (o6 X.prog X.w l zs)/\⇑zs<=1000/\Q (.int ((cntK zs ⇑zs:Nat):Int)) H):=by
 intro OU s σ H xs i Q I r h;let(l,zs,rfl,e,j,q):=h;let(u,rfl,b):=r.one;obtain rfl:u=bv l:=b;let((o,k,m,t,g,f,d,_,_,_,c,a),_,_):=I.hok l _ e;let le:=kr zs ⇑zs;refine call_len_set g f d c (by rw[a];lia) (.int _,H,I.tok _,(_,Z,),?_,);rw[a];calc q
variable{k:Nat}{C:La}{fd:Mi}{ps:O4 Str}{sp:Sp}{x m:Str}{p np pos apos:Pos}{e o:Lu}{es:O4 Lu}{ta:TE}
section
variable{t:TA}{E:XK}
end
def jF:∀{b:O4 Int}{us:O4 K5},Vals (b.map RV) us->∃xs:O4 (Int×Tok),us.toArray=N3 xs.toArray/\b=xs.map (·.1)
 | [],_,.nil=>([],by simp[N3],Z,)
 |n :: b,_,.cons (t,e,) r=>by
  let(xs,d,c):=jF r;refine((n,t) :: xs,?_,by rw[c];rfl,);subst e;let a:=O2 QI d;simp[N3]at a⊢;calc a
def qd{xs:Array (Int×Tok)}{i:Nat}(h:i<xs.size):numAt xs i∈xs.toList.map (·.1):=by
 rw[N4];calc getD_mem (by rw[aa,Ht];lia)
def fQ(C:X.calm=OR):dh X (.builtin "min") (λus H Q=>∃(a:La)(c:O4 Int),us=[.ref a]/\SqL X.K H a (c.map RV)/\0<⇑c/\∀m,m∈c->(∀b∈c,m<=b)->Q (.int m) H):=by
 intro OU s σ H us G Q I r h;let(a,c,rfl,y,d,q):=h;let(u,rfl,n):=r.one;cases (show u=bv a from n);let(F,p,w,J):=I.list y;let(xs,E,f):=jF p;let i:=w.isList;rw[E]at i;let g:0<xs.toArray.size:=by
  rw[f,aa]at d;simpa using d
 refine min_intList (I.ok.hd C) i g λv h' l x A=>?_
 let(t,rfl):=intItems_at x;let(L,D):=argBest_lt (numAt xs.toArray)<|xs.toArray.size-1;refine(.int _,H,I.kept (t':=l) λb o e=>A b o e,(t,Z,),q _ ?_ λb k=>?_,)
 .rw[f];exact qd (xs:=xs.toArray) ∅
 .rw[f]at k;let(j,B,rfl):=mem_getD k;rw[aa]at B;let z:=D j (by simp;lia);rw[N4]at z⊢;rw[N4]at z;simpa using z
def fR(C:X.calm=OR):dh X (.builtin "max") (λus H Q=>∃(a:La)(c:O4 Int),us=[.ref a]/\SqL X.K H a (c.map RV)/\0<⇑c/\∀m,m∈c->(∀b∈c,b<=m)->Q (.int m) H):=by
 intro OU s σ H us G Q I r h;let(a,c,rfl,y,d,q):=h;let(u,rfl,n):=r.one;cases (show u=bv a from n);let(F,p,w,J):=I.list y;let(xs,E,f):=jF p;let i:=w.isList;rw[E]at i;let g:0<xs.toArray.size:=by
  rw[f,aa]at d;simpa using d
 refine max_intList (I.ok.hd C) i g λv h' l x A=>?_
 let(t,rfl):=intItems_at x;let(L,D):=argBest_gt (numAt xs.toArray)<|xs.toArray.size-1;refine(.int _,H,I.kept (t':=l) λb o e=>A b o e,(t,Z,),q _ ?_ λb k=>?_,)
 .rw[f];exact qd (xs:=xs.toArray) ∅
 .rw[f]at k;let(j,B,rfl):=mem_getD k;rw[aa]at B;let z:=D j (by simp;lia);rw[N4]at z⊢;rw[N4]at z;simpa using z
def  BL(P:K7)(w:K6)(a:La)(b:O4 Int):HO:=.ext λh=>h.SetOf (Lg P w) a (λz=>decide<|z∈b)<|cntK b ⇑b
def nF:∀{zs:O4 Int}{us:O4 K5},Vals (zs.map RV) us->∀(i:Nat)(v:K5),us[i]?=OP v->∃z t,zs[i]?=OP z/\v=.int z t
 | [],_,.nil,i,v,h=>by simp at h
 |z :: zs,_,.cons (t,e,) r,0,v,h=>by simp at h;exact(z,t,Z,by rw[←h,e],)
 |z :: zs,_,.cons _ r,i+1,v,h=>by
  let(a,t,c,b):=nF r i v<|~~~h;calc(a,t,~~~c,b,)
def o9(B:X.calm=OR):dh X (.type "set") (λxs H Q=>∃(p:La)(zs:O4 Int),xs=[.ref p]/\SqL X.K H p (zs.map RV)/\⇑zs<=1000/\∀l,H l=OQ->Q (.ref l) (upd H l<|BL X.prog X.w l zs)):=by
 intro OU s σ H xs F Q I r h;let(p,zs,rfl,C,G,q):=h;let(u,rfl,n):=r.one;obtain rfl:u=bv p:=n;let(E,d,A,_):=I.list C;let f:=⇑d;rw[aa]at f;refine p5 (knd:=Lg X.prog X.w) (ks:=zs) (I.ok.hd B) A.isList (λi v e=>?_) (~~~f) (by unfold M6;simp;lia) λh' m x=>?_
 .let(z,t,D,rfl):=nF d i v<|~~~e;exact(z,D,by show P1 z (.int z t)=OR;simp[P1],Z,)
 .let(c,j):=x;calc(.ref ↥s,_,I.laid (a:=↥s) (o:=BL X.prog X.w ↥s zs) (h':=h') (t':=m) (λb o q=>j b o (al q) q) (Ab _) ?_,Z,q _ I.fresh,);calc(c,?_,λL J y k=>gD y k,);let(o,_,_,_,g,_):=c;calc(o,g,)
def pd:dh X (.builtin "len") (λxs H Q=>∃(l:La)(zs:O4 Int),xs=[.ref l]/\H l=OP (BL X.prog X.w l zs)/\⇑zs<=1000/\Q (.int ((cntK zs ⇑zs:Nat):Int)) H):=by
 intro OU s σ H xs i Q I r h;let(l,zs,rfl,e,j,q):=h;let(u,rfl,b):=r.one;obtain rfl:u=bv l:=b;let((o,es,k,t,g,f,d,_,_,_,c,a),_,_):=I.hok l _ e;let le:=kr zs ⇑zs;refine call_len_set g f d c (by rw[a];lia) (.int _,H,I.tok _,(_,Z,),?_,);rw[a];calc q
def tK{b:Type} [DecidableEq b] {k:b}{ks:O4 b}:∀i,i<=⇑ks->1<=cntK (k :: ks) (i+1)/\(cntK (k :: ks) (i+1)=1↔∀x∈ks.take i,x=k)
 |0,_=>by simp[cntK]
 |i+1,h=>by
  let(d,c):=tK (k:=k) (ks:=ks) i ∅;let e:(k :: ks)[i+1]?=OP ks[i]:=by simp
  let j:ks[i]?=OP ks[i]:=KN ∅;let f:ks.take (i+1)=ks.take i++[ks[i]]:=by rw[ov,j];rfl
  let g:(k :: ks).take (i+1)=k :: ks.take i:=rfl;rw[show cntK (k :: ks) (i+1+1)=match (k :: ks)[i+1]? with
   |some x=>if x∈(k :: ks).take (i+1)then cntK (k :: ks) (i+1)else cntK (k :: ks) (i+1)+1
   |none=>cntK (k :: ks) (i+1)from Z,e,f,g]
  dsimp only;by_cases m:ks[i]∈k :: ks.take i
  .rw[OX m];calc(d,c.trans (λz x a=>?_,λz x a=>z x<|jS _ a,),);rcases gw.mp a with a|a
   .exact z x a
   .let:x=ks[i]:= ~~~a
    rw[this];rcases bz.mp m with m|m
    .exact m
    .exact z _ m
  .rw[OW m];calc(∅,(λz=>OY z ∅,λz=>?_,),);calc OY (z ks[i] (hE _ (by simp))) λq=>m (by rw[q];exact dt)
def qe{a:Type} [DecidableEq a] {k:a}{ks:O4 a}:cntK (k :: ks) ⇑(k :: ks)=1↔∀x∈ks,x=k:=by
 let:=(tK (k:=k) (ks:=ks) ⇑ks<|Ab _).2;rw[gs]at this;calc this
def  TyG(K:RD)(H:Hp)(x:V)(t:K5):Prop:=ly K H x t\/∃a b,x=.ref a/\SqT K H a b/\t=.type "tuple"
inductive ClV:V->K5->Prop where
 |ty (T:String):ClV (.ty T) (.type T)
 |ref (C:La):ClV (.ref C) (.ref C)
def lE:dh X (.builtin "isinstance") (λxs H Q=>∃x c d t b,xs=[x,c]/\ClV c d/\TyG X.K H x t/\P4 X.K t d=OP b/\Q (.bl b) H):=by
 intro OU s σ H xs v Q I r h;let(x,c,d,t,b,rfl,i,ty,e,q):=h;cases r with
 |cons g j =>
  cases j with
  | @cons _ cu _ _ ry r3 =>
   cases r3;let n:cu=d:=by cases i <;> exact ry
   subst n;rcases ty with ty|⟨a,u,rfl,k,rfl⟩
   .exact xU I g ty e λf=>(.bl b,H,I.tok f,Z,q,)
   .cases (show _=bv a from g);let(p,r,(o,m,l,_),_):=I.tuple k;calc zn W.kitx_tuple I.kIn (o,m,l,) e (λz=>nomatch z) λf=>(.bl b,H,I.tok f,Z,q,)
structure nG(K:RD)(C:La):Prop where
 cl:Cls K C
 ha:wl K (.ref C) "__class__" = OP (OP<|.builtin "object.__class__")
 hn:O9 K (.builtin "object.__class__") "__get__" = OP (OP<|.builtin "getset_descriptor.__get__")
 tk:W.takesIn K (.builtin "object.__class__")=OP OR
 hm:W.mroIn K C (.type "object")=OP OR
def nG.ty{K:RD}{C:La}(h:nG K C){H:Hp}{a b:La}{fs:O4 (Str×V)}(e:H a=OP (.ins C b fs)):TyG K H (.ref a) (.ref C):=.inl<|.ins e h.cl h.ha h.hn h.tk h.hm
def  BM(CX:CXT)(P:K7)(w:K6)(K:RD)(mg:Str->Option K5)(base:Lb)(k:Nat)(m:Str)(ps:O4 Str)(a:O4 (La×Sp)):Prop :=
 ∀p∈a,bp CX P w K mg base k p.1 m ps p.2/\Cls K p.1
variable{CX:CXT}
section
variable{cs:O4 (La×Sp)}
def Fs:BM CX P w K mg base k m ps []:=λ_ h=>nomatch h
def tL(M:bp CX P w K mg base k C m ps sp)(c:Cls K C)(r:BM CX P w K mg base k m ps cs):BM CX P w K mg base k m ps ((C,sp) :: cs):=λp h=>by
 rcases bz.mp h with rfl|h
 .exact(M,c,)
 .exact r p h
end
inductive CQ(cs:O4 (La×Sp))(m:Str)(t:TA)(σ:St)(Q:VK)(x:V)(H1:Hp):Prop
 |mk (a p dx fs:_)(_:x=.ref a)(_:p∈cs)(_:H1 a=OP (.ins p.1 dx fs))(_:fs.lookup m=OQ)(_:t σ H1 λvs H2=>p.2 (x :: vs) H2 Q E0):CQ cs m t σ Q x H1
def  Hq(a:O4 (La×Sp))(m:Str)(ta:TE)(t:TA):TE:=λσ H Q=>ta σ H λx b=>CQ a m t σ Q x b
section
variable{t:TA}{cs:O4 (La×Sp)}
def zY{pl:Sem Bool}(M:BM CX X.prog X.w X.K X.mg X.base k m ps cs)(B:Passes CX X E0)(D:bK k X.A)(G:PE X o ta)(L:PA X (e :: es) t)
  (b:Ly (e :: es) X.env=(OS,eval e X.env) :: Ly es X.env:=by rfl)(d:(Lw pos<|Ly es X.env).any (·.1)=false:=by rfl)
  (C:eval (.Call (.Attribute o m apos) (e :: es) [] pos) X.env=(do
   let g ←eval o X.env
   LF apos.atName
   let (f,first) ←holding [g] (Mb g m pl)
   M4 pos f first (Lw pos<|Ly (e :: es) X.env) (MM pos<|MN [] X.env)):=by rfl) :
  PE X (.Call (.Attribute o m apos) (e :: es) [] pos) (Hq cs m ta t):=by
 intro OU s σ H Q I h;calc Qq (pl:=pl) (thn (G OU s σ H _ I h) λu v (x,P,n,y,a,p,R,fs,N,E,O,l,q,)=>?_) C;let((f,fd,i,F,J),c):=M p E;subst N;obtain rfl:u=bv a:=y;calc m6 n O c i l ?_;calc Op (first:=[.ref a]) (h₀:=X.base) I.ok.mod.kin i.kp (thn (L pos OU v σ P _ n q) λus s2 (vs,S,j,r,z,)=>(j.kIn,?_,)) b d;calc DI (us:=.ref a :: us) (vs:=.ref a :: vs) F D J B j (.cons Z r) z
def lF(M:bA CX X.prog X.w X.K X.mg X.base k x C ps sp)(b:Passes CX X E0)(c:bK (k+1) X.A)(e:Gl X x)(a:(x == ("__debug__" : Str))=false:=by decide) :
  PE X (.Call (.Name x p) [] [] pos) (tMk C sp Dx):=by
 let(f,fd,M,F,g,d):=M;let h:=zJ (E:=E0) (dvs:=[]) (ds:=[]) (p:=p) (pos:=pos) M F c e d g .nil b a;intro OU s σ H Q I q;calc h OU s σ H Q I q
end
def  ModT(K:RD)(a:La)(xs:O4 V):Prop:=∃(o:Obj)(b:Array K5)(n:Nat),K.lookup a=OP o/\o.cls=.type "tuple" /\ o.data=.seq b n/\b.size<=Lc/\Vals xs b.toList
def ModT.sq{K:RD}{a:La}{xs:O4 V}(h:ModT K a xs)(H:Hp):SqT K H a xs:=.inr h
def ModT.mk{K:RD}{a:La}{xs:O4 V}{d:Option La}{b:Array K5}{n:Nat}{c:Array (Option K5)}(h:K.lookup a=OP (.type "tuple",d,.seq b n,c,)) (f:b.size<=Lc)(e:Vals xs b.toList):ModT K a xs :=
 (_,b,n,h,Z,Z,f,e,)
def hV{c A B:Prop} [Decidable c] (a:c)(h:A):if decide c=OR then A else B:=by rw[OX (OZ a)];calc h
def cD{c A B:Prop} [Decidable c] (a:¬ c)(h:B):if decide c=OR then A else B:=by rw[OW (by rw[O0 a];decide)];calc h
def ls0{P:O4 K5->Prop}(h:P []):∀us:O4 K5,⇑us=0->P us:=λus e=>by
 cases us
 .exact h
 .cases e
def lsS{P:O4 K5->Prop}{n:Nat}(h:∀a us,⇑us=n->P (a :: us)):∀us:O4 K5,⇑us=n+1->P us:=λus e=>by
 cases us
 .cases e
 .exact h _ _<|Nat.succ.inj e
def ls1{P:O4 K5->Prop}(h:∀a,P [a]):∀us:O4 K5,⇑us=1->P us:=lsS λa=>ls0 (P:=λv=>P (a :: v))<|h a
def ls2{P:O4 K5->Prop}(h:∀a b,P [a,b]):∀us:O4 K5,⇑us=2->P us:=lsS λa=>ls1 (P:=λv=>P (a :: v))<|h a
def ls3{P:O4 K5->Prop}(h:∀a b c,P [a,b,c]):∀us:O4 K5,⇑us=3->P us:=lsS λa=>ls2 (P:=λv=>P (a :: v))<|h a
def ls4{P:O4 K5->Prop}(h:∀a b c d,P [a,b,c,d]):∀us:O4 K5,⇑us=4->P us:=lsS λa=>ls3 (P:=λv=>P (a :: v))<|h a
def ls5{P:O4 K5->Prop}(h:∀a b c d e,P [a,b,c,d,e]):∀us:O4 K5,⇑us=5->P us:=lsS λa=>ls4 (P:=λv=>P (a :: v))<|h a
def ls6{P:O4 K5->Prop}(h:∀a b c d e f,P [a,b,c,d,e,f]):∀us:O4 K5,⇑us=6->P us:=lsS λa=>ls5 (P:=λv=>P (a :: v))<|h a
def ls7{P:O4 K5->Prop}(h:∀a b c d e f g,P [a,b,c,d,e,f,g]):∀us:O4 K5,⇑us=7->P us:=lsS λa=>ls6 (P:=λv=>P (a :: v))<|h a
def lb1{fd:Mi}{ps:O4 Str}(h:∀a,Ml fd ([a],[],)=pure (ps.zip [a])):∀us:O4 K5,⇑us=1->Ml fd (us,[],)=pure (ps.zip us):=ls1 (P:=λus=>Ml fd (us,[],)=pure (ps.zip us)) h
def lb2{fd:Mi}{ps:O4 Str}(h:∀a b,Ml fd ([a,b],[],)=pure (ps.zip [a,b])):∀us:O4 K5,⇑us=2->Ml fd (us,[],)=pure (ps.zip us):=ls2 (P:=λus=>Ml fd (us,[],)=pure (ps.zip us)) h
def lb3{fd:Mi}{ps:O4 Str}(h:∀a b c,Ml fd ([a,b,c],[],)=pure (ps.zip [a,b,c])):∀us:O4 K5,⇑us=3->Ml fd (us,[],)=pure (ps.zip us):=ls3 (P:=λus=>Ml fd (us,[],)=pure (ps.zip us)) h
def lb4{fd:Mi}{ps:O4 Str}(h:∀a b c d,Ml fd ([a,b,c,d],[],)=pure (ps.zip [a,b,c,d])):∀us:O4 K5,⇑us=4->Ml fd (us,[],)=pure (ps.zip us):=ls4 (P:=λus=>Ml fd (us,[],)=pure (ps.zip us)) h
def lb5{fd:Mi}{ps:O4 Str}(h:∀a b c d e,Ml fd ([a,b,c,d,e],[],)=pure (ps.zip [a,b,c,d,e])):∀us:O4 K5,⇑us=5->Ml fd (us,[],)=pure (ps.zip us):=ls5 (P:=λus=>Ml fd (us,[],)=pure (ps.zip us)) h
def lb7{fd:Mi}{ps:O4 Str}(h:∀a b c d e f g,Ml fd ([a,b,c,d,e,f,g],[],)=pure (ps.zip [a,b,c,d,e,f,g])):∀us:O4 K5,⇑us=7->Ml fd (us,[],)=pure (ps.zip us):=ls7 (P:=λus=>Ml fd (us,[],)=pure (ps.zip us)) h
variable{j:Nat}{q:Str}{st:Lz}
def fsc{P:O4 Str}{f:Ln}(a:f.kind=.function:=by rfl)(b:f.isCoroutine=false:=by rfl)(c:f.isGenerator=false:=by rfl)(d:N.Nodup:=by decide+kernel)(e:N.take P.length=P:=by rfl)(g:∀x∈P,f.names.lookup x=OP .local\/f.names.lookup x=OP .cell:=by decide+kernel)(h:∀y∈f.names,y.2≠.free:=by decide+kernel):av N P f:=(a,b,c,d,e,g,h,)
def Fun.okA(F:Fun K x q st f fd)(S:av N ps (ao st))(d:∀(b:K5)(A:Ll)(a:O4 Env)(s:Lm)(H:Hp)(vs:O4 V)(Q:VK)(E:XK),bK k (A.deeper<|envOfC q (ao st) ↥s f b)->sp vs H Q E->∃t,PSs (cw CX0 P w K mg base N q (ao st) f b A a s H E).nox (bX st) t/\t { nx:=λ_ H'=>Q .non H',rt:=Q } (start N vs) H)(c:∀vs H Q E,sp vs H Q E->⇑vs=⇑ps:=by intro vs H Q E h;cases h;subst_vars;rfl):aK P w K mg base CX0 (k+1) f fd ps sp:=F.ok S c d
def Callee.up(c:Callee P w K mg base j x ps sp)(h:j<=k:=by decide):Callee P w K mg base k x ps sp:=c.mono h
def bp.up(c:bp CX P w K mg base j C m ps sp)(h:j<=k:=by decide):bp CX P w K mg base k C m ps sp:=c.mono h
def bA.up(c:bA CX P w K mg base j x C ps sp)(h:j<=k:=by decide):bA CX P w K mg base k x C ps sp:=c.mono h
def cx.up(c:cx CX P w K mg base j x m ps sp)(h:j<=k:=by decide):cx CX P w K mg base k x m ps sp:=c.mono h
inductive GF(K:RD)(x q:Str)(st:Lz):Prop
 |mk {f:La}{fd:Mi}(a:im K Lh x=OP ↑f)(F:Fun K q q st f fd)
inductive MF(K:RD)(C:La)(x q:Str)(st:Lz):Prop
 |mk {f:La}{fd:Mi}(a:wl K (.ref C) x=OP ↑f)(i:W.isFn K (.ref f)=OR)(F:Fun K x q st f fd)
inductive KF(K:RD)(C:La)(x q:Str)(st:Lz):Prop
 |mk {f:La}{fd:Mi}(a:wl K (.ref C) "__init__" = OP ↑f) (i:W.isFn K (.ref f)=OR)(m:W.makesIn K C=OR)(k:Fk K (.ref C)=OR)(n:im K Lh x=OP ↑C)(F:Fun K "__init__" q st f fd)
inductive BF(K:RD)(C:La)(x m q:Str)(st:Lz):Prop
 |mk {f:La}{fd:Mi}(s:O9 K (.ref C) "__getattribute__" = OP (OP<|.builtin "type.__getattribute__")) (r:W.readsIn K C (.type "type")=OR) (a:W.findCls K (.ref C) (.type "type") m=OP (.val<|.ref f)) (n:im K Lh x=OP ↑C)(F:Fun K m q st f fd)
inductive Zb(P:K7)(w:K6)(K:RD)(mg:Str->Option K5)(base:Lb):Prop
 |mk {h:Lb}(X:K.In h)(G:h.Ns Lh mg)
def Zb.g(a:Zb P w K mg base){v:K5}(e:im K Lh x=OP (OP v)):mg x=OP v:=by cases a with|mk X G=>calc py X G e
def mkC(c:Zb P w K mg base)(h:GF K x q st)(O:∀{f:La}{fd:Mi},Fun K q q st f fd->aK P w K mg base CX0 k f fd ps sp)(b:∀{f:La}{fd:Mi},Fun K q q st f fd->Binds K fd ps []:=by trivial):Callee P w K mg base k x ps sp:=by
 cases h with|mk a F=>calc(_,_,O F,b F,F.kp,c.g a,)
def mkM(_:Zb P w K mg base)(h:MF K C m q st)(O:∀{f:La}{fd:Mi},Fun K m q st f fd->aK P w K mg base CX k f fd ps sp)(b:∀{f:La}{fd:Mi},Fun K m q st f fd->Binds K fd ps []:=by trivial):bp CX P w K mg base k C m ps sp:=by
 cases h with|mk a i F=>calc(_,_,(a,i,F.kp,),O F,b F,)
def mkK(c:Zb P w K mg base)(h:KF K C x q st)(O:∀{f:La}{fd:Mi},Fun K "__init__" q st f fd->aK P w K mg base CX k f fd ps sp) (b:∀{f:La}{fd:Mi},Fun K "__init__" q st f fd->Binds K fd ps []:=by trivial):bA CX P w K mg base k x C ps sp:=by
 cases h with|mk a i m k n F=>calc(_,_,(m,a,i,k,),O F,b F,c.g n,)
def mkB(c:Zb P w K mg base)(h:BF K C x m q st)(O:∀{f:La}{fd:Mi},Fun K m q st f fd->aK P w K mg base CX k f fd ps sp)(b:∀{f:La}{fd:Mi},Fun K m q st f fd->Binds K fd ps []:=by trivial):cx CX P w K mg base k x m ps sp:=by
 cases h with|mk s r a n F=>calc(_,_,_,(s,r,a,F.kp,),O F,b F,c.g n,)
def mkR{sp:Nat->Sp}(c:Zb P w K mg base)(h:GF K x q st)(k n:Nat)(z:∀{vs:O4 V}{H:Hp}{Q:VK}{E:XK},¬ sp 0 vs H Q E)(O:∀{f:La}{fd:Mi}(n:Nat),Fun K q q st f fd->Callee P w K mg base (k+n) x ps (sp n)->aK P w K mg base CX0 (k+n+1) f fd ps (sp<|n+1))(b:∀{f:La}{fd:Mi},Fun K q q st f fd->Binds K fd ps []:=by trivial):Callee P w K mg base (k+n) x ps (sp n):=by
 cases h with|mk a F =>
 calc(_,_,?_,b F,F.kp,c.g a,);induction n with
 |zero=>exact aK.no λ_ _ _ _ h=>z h
 |succ n d=>calc O n F (_,_,d,b F,F.kp,c.g a,)
def gv_mk{v:V}{u:K5}(a:im K Lh x=OP (OP u))(r:RelV v u):∃u,im K Lh x=OP (OP u)/\RelV v u:=(u,a,r,)
def Inv.turnedPair{ch:O4 La}{T:La}{x y:V}{u v:K5}(I:Inv X OU σ H s)(h:∀b∈ch,ir X OU H b)(k:∀b o,b ∉ ch->s.heap.get? b=OP o->h'.get? b=OP o)
  (A:s.heap.get? T=OQ)(D:H T=OQ)(E:N5 h' T u v)(t:RelV x u)(p:RelV y v):Inv X OU σ (upd H T<|.tup [x,y]) { s with heap:=h' }:=by
 let out:∀b u,H b=OP u->b ∉ ch:=λb u e z=>by
  let f:=(h b z).1;rw[f]at e;cases e
 let j:∀{b o},s.heap.get? b=OP o->b≠T:=λe z=>by rw[z,A]at e;cases e
 let a:∀{b u},H b=OP u->b≠T:=λe z=>by rw[z,D]at e;cases e
 let J:=Inv.step (H':=upd H T<|.tup [x,y]) (h':=h') (g':=s.gens) (d':=s.drawn) (t':=s.toks) (ch:=ch) I
  (λb g=>by let(_,i,_,K,G,F):=h b g;exact(K,i,G,F,))
  (λb o _ _ d e _=>k b o d e)
  (λb o _ _ d e _=>(o.slots,k b o d e,))
  (λb o _ e n=>by rw[ar (j e)];exact n)
  (λb o d e=>(o,k b o d e,))
  (λb l e=>by rw[ar (a e)];exact e)
  (λb o w e=>by rw[ar (a e)];exact e)
  (λb ps e=>(#[],by rw[ar (a e),e];simp,))
  (λm C=>by
   let(o,es,L,B,r):=C;calc(o,es,L,k _ o (λz=>?_) B,r,);let(_,i,_):=h _ z;exact i Z)
  (λb w e=>by
   by_cases g:b=T
   .subst g;rw[af]at e;cases e;exact(by show 2<=Lc;decide,[u,v],.cons t<|.cons p .nil,_,E,Z,_,Z,)
   .rw[ar g]at e;refine(I.hok b w e).stay (λc z d q=>k c z ?_ q) (λc q=>?_) λc l q=>?_
    .rcases d with z|z
     .rw[z];exact out b w e
     .exact out c _ z
    .rw[ar (a q)];exact q
    .rw[ar (a q)];exact q)
  I.bare
 calc J
def Inv.turnedL{ch:O4 La}(I:Inv X OU σ H s)(d:∀b∈ch,ir X OU H b)(k:∀b o,b ∉ ch->s.heap.get? b=OP o->h'.get? b=OP o):Inv X OU σ H { s with heap:=h' }:=by
 let out:∀b u,H b=OP u->b ∉ ch:=λb u e z=>by
  let f:=(d b z).1;rw[f]at e;cases e
 let J:=Inv.step (H':=H) (h':=h') (g':=s.gens) (d':=s.drawn) (t':=s.toks) (ch:=ch) I
  (λb l=>by let(_,g,_,v,t,p):=d b l;exact(v,g,t,p,))
  (λb o _ _ a e _=>k b o a e)
  (λb o _ _ a e _=>(o.slots,k b o a e,))
  (λb o _ _ n=>n)
  (λb o a e=>(o,k b o a e,))
  (λb h e=>e) (λb o w e=>e) (λb ps e=>(#[],by rw[e];simp,))
  (λm j=>by
   let(o,es,x,i,r):=j;calc(o,es,x,k _ o (λz=>?_) i,r,);let(_,g,_):=d _ z;exact g Z)
  (λb w e=>by
   refine(I.hok b w e).stay (λc z a q=>k c z ?_ q) (λc q=>q) λc h q=>q
   rcases a with z|z
   .rw[z];exact out b w e
   .exact out c _ z)
  I.bare
 calc J
def  Itz(K:RD)(a b:La):It :=
 (λi H=>∃d c x y,SqL K H a d/\SqL K H b c/\d[i]?=OP x/\c[i]?=OP y,
 λi H v e=>∃T,H T=OQ/\v=.ref T/\∀d c x y,SqL K H a d->SqL K H b c->d[i]?=OP x->c[i]?=OP y->e=upd H T (.tup [x,y]),
 λi H=>∃d c,SqL K H a d/\SqL K H b c/\(⇑d<=i\/⇑c<=i),)
def  CS(z TI TO d c a b:La)(i:Nat)(h:Lb):Prop:=IsZip h z TI TO .none/\N5 h TI (.ref d) (.ref c)/\(∃p q,N5 h TO p q)/\h.IsListIter d a i/\h.IsListIter c b i
def zZ{P:K7}{w:K6}{K:RD}{t:O4 Lu} {x1} {tp:Pos}{z TI TO r n a b:La}(D:N6 z TI TO r n a b) :
  Turn P w K (.Tuple t x1 tp) (Itz K a b) [z,TI,TO,r,n] z (CS z TI TO r n a b) where
 mem:=by simp
 obj:=λi h st c d=>by
  let(m,f,(p,q,l),(o4,j,_,d4),(o5,g,_,d5)):=st;simp only[bz,jQ,or_false]at d;rcases d with rfl|rfl|rfl|rfl|rfl
  .exact⟨_,m,λv q=>nomatch q⟩
  .exact⟨_,f,λv q=>nomatch q⟩
  .exact⟨_,l,λv q=>nomatch q⟩
  .exact⟨_,j,λv q=>by rw[d4]at q;cases q⟩
  .exact⟨_,g,λv q=>by rw[d5]at q;cases q⟩
 keep:=λi h h' st k=>by
  let(m,f,(p,q,l),j,g):=st;exact(k z (by simp) _ m,k TI (by simp) _ f,(p,q,k TO (by simp) _ l,),j.at λo e=>k r (by simp) o e,g.at λo e=>k n (by simp) o e,)
 item:=by
  intro X Q M R d i OU s σ H E I C st O;subst Q M R;let(xs,ys,x,y,B,A,ex,ey):=O;let(m,f,(p,q,l),j,g):=st;let(us,G,L,_):=I.list B;let(vs,F,pv,_):=I.list A;let(u,eu,r1):=G.get ex;let(v,ev,r2):=F.get ey;refine N7 D m f l j g L.isList pv.isList (x:=u) (y:=v) (~~~eu) (~~~ev) λh1 a1 a2 a3 a4 a5 a6 a7=>?_
  calc(_,Z,wpAny_letOwnedTupleGo_zip (s:={ s with heap:=h1 }) a1 λS b1 b2=>?_,);let nT:s.heap.get? ↥s=none:=by
   cases q:s.heap.get? ↥s with
   |none=>rfl
   |some o=>exact OY (al q) (DE _)
  let hT:H ↥s=none:=I.hok.fresh<|Ab _;let nz:↥s≠z:=CD<|al m;let kk:∀c o,c ∉ [z,TO,r,n]->s.heap.get? c=OP o->S.get? c=OP o:=λc o d e=>by
   simp only[bz,jQ,or_false,not_or]at d;exact b2.extBut _ _ d.1<|a7 c o d.1 d.2.1 d.2.2.1 d.2.2.2 e
  let J:=I.turnedPair (h':=S) (ch:=[z,TO,r,n]) (T:=↥s) (x:=x) (y:=y) (u:=u) (v:=v) (λc d=>C c (by simp at d⊢;rcases d with e|e|e|e <;> simp[e])) kk nT hT (b2.extBut _ _ nz a5) r1 r2;refine(.ref ↥s,upd H ↥s<|.tup [x,y],J,Z,(_,hT,Z,λb0 a9 x' y' q1 q2 Y V=>?_,),(b1,b2.extBut _ _ D.TIz<|a7 TI _ D.TIz D.TITO D.TIi1 D.TIi2 f,(_,_,b2.extBut _ _ D.TOz a2,),a3.extBut b2.extBut D.i1z,a4.extBut b2.extBut D.i2z,),λc d=>?_,)
  .rw[I.list_inj q1 B]at Y;rw[I.list_inj q2 A]at V;rw[ex]at Y;rw[ey]at V;cases Y;cases V;rfl
  .let h0:=(C c d).1;let:c≠↥s:=by
    let(o4,a8,_):=j;let(o5,a0,_):=g;simp only[bz,jQ,or_false]at d;rcases d with rfl|rfl|rfl|rfl|rfl
    .exact nz.symm
    .exact Bo<|al f
    .exact Bo<|al l
    .exact Bo<|al a8
    .exact Bo<|al a0
   rw[ar this];exact h0
 done:=by
  intro X Q M R d i OU s σ H E I C st O;subst Q M R;let(xs,ys,B,A,N):=O;let(m,f,(p,q,l),j,g):=st;let(us,G,L,_):=I.list B;let(vs,F,pv,_):=I.list A;let l1:=G.length;let l2:=F.length;refine N8 (I.ok.hd d) D m f l j g L.isList pv.isList ?_ λS k=>⟨Z,I.turnedL (ch:=[z,TO,r,n]) (λc d=>C c (by simp at d⊢;rcases d with e|e|e|e <;> simp[e])) λc o d e=>?_⟩
  .rcases N with N|N
   .exact .inl (by simp;lia)
   .exact .inr (by simp;lia)
  .simp only[bz,jQ,or_false,not_or]at d;exact k c o d.1 d.2.1 d.2.2.1 d.2.2.2 e
 self:=λ_ _ _ _ _ st h=>N9 st.1 h
inductive CT(K:RD)(R:It->Rr)(vs:O4 V)(H1:Hp):Prop
 |mk (a b:_)(_:vs=[.ref a,.ref b])(_:(∃xs,SqL K H1 a xs))(_:(∃ys,SqL K H1 b ys))(_:R (Itz K a b) H1)
def  Hr(K:RD)(ta:TA):TI:=λσ H R=>ta σ H λa b=>CT K R a b
def q8{k e:Lu}{ta:TA}{p pos:Pos}{j:O4 Lu} {x1} {tp:Pos}(L:Gl X "zip") (hm:X.mg "zip" = OQ) (M:PA X [k,e] ta)
  (J:Ly [k,e] X.env=[(OS,eval k X.env),(OS,eval e X.env)]:=by rfl)(g:Ly [e] X.env=[(OS,eval e X.env)]:=by rfl) :
  PI X (.Tuple j x1 tp) (.Call (.Name "zip" p) [k,e] [] pos) (Hr X.K ta):=by
 intro OU s σ H R I h;refine Call_ (fM I L hm P8<|RS (thn (M pos OU s σ H _ I h) λA d (z,P,f,D,G,)=>?_) (by rw[J,g]) (by rw[g];rfl));let(a,b,rfl,(T,F),(S,E),q):=G;let(u,v,rfl,C,B):=D.two;cases (show u=bv a from C);cases (show v=bv b from B);let(A,_,l,_):=f.list F;let(z,_,pv,_):=f.list E;let(W,O,_):=id l.isList;let(V,N,_):=id pv.isList;let n:a<↥d:=al O;let m:b<↥d:=al N;refine call_zip_2 l.isList pv.isList λh' z1 y x w t Q r=>?_
 calc N9 (s:={ d with heap:=h' }) z1 ?_;refine(↥d+4,[↥d+4,↥d+2,↥d+3,↥d,↥d+1],CS (↥d+4) (↥d+2) (↥d+3) ↥d (↥d+1) a b,Itz X.K a b,P,Z,f.kept (t':=d.toks) r,zZ ?_,(z1,y,(_,_,x,),w,t,),λc o=>?_,q,)
 .refine(?_,?_,?_,?_,?_,?_,?_,?_,?_,?_,?_,?_,?_,?_,?_,?_,?_,?_,) <;> first|exact Bo ∅|exact CD ∅|exact Bo n|exact Bo m|exact Bo (BS n<|Fh _ _)|exact Bo (BS m<|Fh _ _)
 .let i:↥d<=c:=by
   simp only[bz,jQ,or_false]at o;rcases o with rfl|rfl|rfl|rfl|rfl <;> lia
  calc f.fpOk i<|f.hok.fresh i
def q9{K:RD}{a b:La}{xs ys:O4 V}{g:TG}{o:TS}{D:Ends}{σ:St}{H:Hp}(c:Nat->Rq)(z:c 0 σ H)(u:∀i σ H,c i σ H->SqL K H a xs/\SqL K H b ys)
  (t:∀i x y σ H T,xs[i]?=OP x->ys[i]?=OP y->c i σ H->H T=OQ->g (.ref T) σ (upd H T<|.tup [x,y]) λd n=>o { D with nx:=c<|i+1,ct:=c<|i+1,bk:=D.nx } d n)
  (hd:∀σ H,c (min ⇑xs ⇑ys) σ H->D.nx σ H) :
  ∃W:Nat->Nat->Rq,(∃m,W 0 m σ H)/\∀i m σ H,W i m σ H ->
   ((Itz K a b).stop i H/\D.nx σ H)\/((Itz K a b).go i H/\∃N:Rq,(∀f H',N f H'->∃q,q<m/\W (i+1) q f H')/\∀x H',(Itz K a b).yld i H x H'->g x σ H' λd n=>o { D with nx:=N,ct:=N,bk:=D.nx } d n):=by
 refine(λi m σ H=>m=min ⇑xs ⇑ys-i/\i<=min ⇑xs ⇑ys/\c i σ H,(min ⇑xs ⇑ys,by simp,BG _,z,),?_,);rintro i m σ H ⟨rfl,hi,p⟩;let(j,h):=u i σ H p;by_cases lt:i<min ⇑xs ⇑ys
 .let l:xs[i]?=OP xs[i]:=KN ∅;let k:ys[i]?=OP ys[i]:=KN ∅;refine .inr ((xs,ys,_,_,j,h,l,k,),c<|i+1,λf H' s=>(_,?_,Z,lt,s,),λv H' r=>?_,)
  .lia
  .let(T,w,rfl,e):=r;rw[e xs ys _ _ j h l k];exact t i _ _ σ H T l k p w
 .let e:i=min ⇑xs ⇑ys:=∅
  subst e;calc .inl ((xs,ys,j,h,∅,),hd σ H p,)
def d8{a b:Int}{m n:Nat}(f:a.natAbs<2^m)(e:b.natAbs<2^n)(d:m<=2^20)(c:n<=2^20):L4 a b :=
 .of_bits (BK (PY f) d) (BK (PY e) c)
def pe{X:Cx}{K:RD}(h:X.K=K):dh X (.type "list") (λxs H Q=>∃p ys,xs=[.ref p]/\(SqL K H p ys\/SqT K H p ys)/\∀l,H l=OQ->Q (.ref l) (upd H l<|.lst ys)):=h ▸ cC
set_option maxRecDepth 100000
abbrev jG(h:Lb)(z TI TO a:La)(b:Bool):Prop :=
 h.get? z=OP { cls:=.type "zip",dict:=OQ,data:=.fields #[LV a,.bool b,.bool OS,.ref TI,.ref TO],slots:=#[] }
def ky{a:La}{Q:Option Obj->Lm->Prop}(h:Q (s.heap.get? a) s):Lq (model prog w) A (loadIfAlive a) Q E s:=λ_ _ _=>h
def qf{z TI TO a:La}{b:Bool}{o:Obj}{Q:Bool->Lm->Prop}(hz:jG s.heap z TI TO a b)(d:s.heap.get? a=OP o)
  (h:∀h',jG h' z TI TO a OR->ln z s.heap h'->Q OS { s with heap:=h' }):Lq (model prog w) A (wn<|.ref z) Q E s:=by
 unfold wn;calc K1<|Mz hz Z (x:=LV a) Z ?_;show Lq _ _ (loadIfAlive ((a:Int).toNat) >>= _) _ _ _;calc K1<|ky ?_;rw[Kn,d];simp only[Option.isNone_some,KU,if_false];calc K1<|Mz hz Z (x:=.bool b) Z ?_;cases b with
 |true =>
  rw[OW (by simp)];calc K2 ?_;let e:s={ s with heap:=s.heap }:=by cases s;rfl
  rw[e];exact h s.heap hz<|QM z s.heap
 |false =>
  rw[OX ⋯];refine K1 (NI hz (by simp) λf g c=>?_);calc K2<|h f g c
def yi{z TI TO v i p q t:La}{Y:Bool}{u B:Nat}{xs ys:Array K5}{x y a b:K5}{o:Obj}{Q:Option K5->Lm->Prop}(D:N6 z TI TO i p q t)
  (hz:jG s.heap z TI TO v Y)(I:s.heap.get? v=OP o)(H:N5 s.heap TI (.ref i) (.ref p))(a0:N5 s.heap TO a b)
  (T:s.heap.IsListIter i q u)(S:s.heap.IsListIter p t B)(G:s.heap.IsList q xs)(C:s.heap.IsList t ys)(P:xs[u]?=OP x)(O:ys[B]?=OP y)
  (R:∀h',jG h' z TI TO v OR->h'.IsListIter i q (u+1)->h'.IsListIter p t (B+1)->N5 h' ↥s x y->h'.objs.size=↥s+1 ->
   (∀c o,c≠z->c≠i->c≠p->s.heap.get? c=OP o->h'.get? c=OP o)->Q (OP<|.ref ↥s) { s with heap:=h' }) :
  Lq (model prog w) A (LR<|.ref z) Q E s:=by
 let J:s.TypeIs (.ref z) "zip" := (_,hz,Z,);unfold LR;calc K1<|ND<|MB (name:=s!"__next__") J Py<|MC Py J F.entry_zip_next ?_<|F.args_zip_next_1 _;show Lq _ _ (field (.ref z) 2 >>= _) _ _ _;calc K1<|Mz hz Z (x:=.bool OS) Z ?_;show Lq _ _ (field (.ref z) 3 >>= _) _ _ _;calc K1<|Mz hz Z (x:=.ref TI) Z ?_;calc K1<|NU H Z ?_;show Lq _ _ (wn (.ref z) >>= _) _ _ _;calc K1<|qf hz I λM k d=>?_;simp only[KU,if_false];calc K1 ?_;rw[←HK];simp only[List.forIn_cons,List.forIn_nil];calc K1<|K1<|K3 ?_;show Lq _ _ (FB (.ref i) >>= _) _ _ _;calc K1<|Oa (T.extBut d.extBut D.i1z) (G.extBut d.extBut D.l1z) P λL n g=>K2 ?_;calc K2 ?_;dsimp only;calc K1<|K1<|K3 ?_;show Lq _ _ (FB (.ref p) >>= _) _ _ _;calc K1<|Oa ((S.extBut d.extBut D.i2z).extBut g.extBut D.i12.symm) ((C.extBut d.extBut D.l2z).extBut g.extBut D.l2i1) O λf l h=>K2 ?_;calc K2 ?_;dsimp only;calc K2 ?_;refine K1 (NY ?_ (by show 2<=Lc;decide));let r:f.objs.size=↥s:=by rw[h.1,g.1,d.1]
 calc K2 (_,Z,K2 ?_,);show Q ↑f.objs.size _;let j:jG f z TI TO v true:=h.extBut _ _ D.i2z.symm<|g.extBut _ _ D.i1z.symm k;let m:f.IsListIter i q (u+1):=n.extBut h.extBut D.i12;let K:(f.push { cls:=.type "tuple",data:=.seq #[x,y] }).get? f.objs.size=OP { cls:=.type "tuple",data:=.seq #[x,y] }:=am _ Z;let N:(f.push { cls:=.type "tuple",data:=.seq #[x,y] }).objs.size=↥s+1:=by rw[jp,r]
 rw[r]at K⊢;calc R _ (ac _ j) (m.at λo e=>ac _ e) (l.at λo e=>ac _ e) K N λc o X W V e=>ac _<|h.extBut _ _ V<|g.extBut _ _ W<|d.extBut _ _ X e
def Aa{z TI TO R j i r p:La}{bb:Bool}{u t:Nat}{xs ys:Array K5}{a b:K5}{o:Obj}{Q:Option K5->Lm->Prop}(M:A.handled=OQ)(D:N6 z TI TO j i r p)
  (hz:jG s.heap z TI TO R bb)(J:s.heap.get? R=OP o)(I:N5 s.heap TI (.ref j) (.ref i))(a0:N5 s.heap TO a b)
  (O:s.heap.IsListIter j r u)(h2:s.heap.IsListIter i p t)(l:s.heap.IsList r xs)(G:s.heap.IsList p ys)(W:xs[u]?=OQ\/ys[t]?=OQ)
  (hQ:∀h',(∀c o,c≠z->c≠j->c≠i->s.heap.get? c=OP o->h'.get? c=OP o)->Q OQ { s with heap:=h' }) :
  Lq (model prog w) A (LR<|.ref z) Q E s:=by
 let N:s.TypeIs (.ref z) "zip" := (_,hz,Z,);unfold LR;calc K1<|ND<|MB (name:=s!"__next__") N Py<|MC Py N F.entry_zip_next ?_<|F.args_zip_next_1 _;show Lq _ _ (field (.ref z) 2 >>= _) _ _ _;calc K1<|Mz hz Z (x:=.bool OS) Z ?_;show Lq _ _ (field (.ref z) 3 >>= _) _ _ _;calc K1<|Mz hz Z (x:=.ref TI) Z ?_;calc K1<|NU I Z ?_;show Lq _ _ (wn (.ref z) >>= _) _ _ _;calc K1<|qf hz J λV K d=>?_;simp only[KU,if_false];calc K1 ?_;rw[←HK];simp only[List.forIn_cons,List.forIn_nil];calc K1<|K1<|K3 ?_;show Lq _ _ (FB (.ref j) >>= _) _ _ _
 let m:∀h' e,(∀c o,c≠z->c≠j->c≠i->s.heap.get? c=OP o->h'.get? c=OP o)->(∃o,h'.get? e=OP o/\o.cls=.type "StopIteration") ->
   Lq (model prog w) A (do if ←Ob (.ref e) (.type "StopIteration")then pure OQ else throw (.ref e)) Q E { s with heap:=h' }:=λh' e k (X,C,H,)=>by
  calc K1<|NR (T := "StopIteration") (b:=OR) (X,C,H,) NS ?_;exact K2<|hQ _ k
 cases hx:xs[u]? with
 |none =>
  calc K1<|Oc M (O.extBut d.extBut D.i1z) (l.extBut d.extBut D.l1z) hx λn e f v=>?_;exact m _ _ (λc o B y P q=>f _ _ y<|d.extBut _ _ B q) v
 |some x =>
  let Y:ys[t]?=none:=by rcases W with h|h;rw[hx]at h;cases h;exact h
  calc K1<|Oa (O.extBut d.extBut D.i1z) (l.extBut d.extBut D.l1z) hx λn L f=>K2 ?_;calc K2 ?_;dsimp only;calc K1<|K1<|K3 ?_;show Lq _ _ (FB (.ref i) >>= _) _ _ _;calc K1<|Oc M ((h2.extBut d.extBut D.i2z).extBut f.extBut D.i12.symm) ((G.extBut d.extBut D.l2z).extBut f.extBut D.l2i1) Y λS e g v=>?_;calc m _ _ (λc o B y P q=>g _ _ P<|f.extBut _ _ y<|d.extBut _ _ B q) v
section
variable{R:Mc->Lm->Prop}
def neA{a T:La}{N:Nat}(h:a<N)(h':N<=T):T≠a:=CD<|BS h h'
def  CU(h:Lb)(z TI TO:La)(N:Nat)(i:Nat):Prop:=(i=0/\IsZip h z TI TO .none)\/∃a b o,N<=a/\a≠z/\jG h z TI TO a b/\h.get? a=OP o/\o.cls=.type "tuple"
def vG{z TI TO C B K J S:La}{xs ys:Array K5}{res:K5}(hh:A.handled=OQ)(D:N6 z TI TO C B K J)(N:Nat)(hz:z<N)(c2:TI<N)(a8:TO<N)(W:C<N)(V:B<N)(c1:K<N)(b6:J<N)(hS:S<N)
  (m:S≠z/\S≠TI/\S≠TO/\S≠C/\S≠B/\S≠K/\S≠J)(hn:min xs.size ys.size<=Lc) :
  ∀(d i:Nat)(s:Lm)(l:Array K5)(c:Nat)(ts:O4 La),min xs.size ys.size=i+d->N<=↥s->CU s.heap z TI TO N i->N5 s.heap TI (.ref C) (.ref B)->(∃a b,N5 s.heap TO a b) ->
   s.heap.IsListIter C K i->s.heap.IsListIter B J i->s.heap.IsList K xs->s.heap.IsList J ys->s.heap.get? S=OP { cls:=.type "list",dict:=OQ,data:=.seq l c,slots:=#[] } ->
   l.toList=ts.map bv->⇑ts=i->ts.Nodup->(∀(j:Nat)(T:La),ts[j]?=OP T->N<=T/\∃x y,xs[j]?=OP x/\ys[j]?=OP y/\N5 s.heap T x y) ->
   (∀(h':Lb)(zX:Array K5)(c':Nat)(n:O4 La),(∀b o,b<N->b≠S->b≠z->b≠TO->b≠C->b≠B->s.heap.get? b=OP o->h'.get? b=OP o)->h'.get? S=OP { cls:=.type "list",dict:=OQ,data:=.seq zX c',slots:=#[] } ->
    zX.toList=n.map bv->⇑n=min xs.size ys.size->n.Nodup->(∀(j:Nat)(T:La),n[j]?=OP T->N<=T/\∃x y,xs[j]?=OP x/\ys[j]?=OP y/\N5 h' T x y)->R (.ok<|.ret res) { s with heap:=h' }) ->
   Md (model prog w) A (.builtin "list.extend.loop" ([.ref S,.ref z,res],[],)) R s:=by
 intro d;induction d with
 |zero =>
  intro i s l c ts e hN r X (a,b,p2,) t1 t2 q1 q2 g ea el nd hts v;calc M8 F.entry_extend_loop ?_;rw[io Fa _];show Lq _ A.in1 (LR (.ref z) >>= _) _ _ s;let vD:xs[i]?=OQ\/ys[i]?=none:=by
   by_cases hx:xs.size<=i
   .exact .inl<|wS hx
   .exact .inr<|wS ∅
  let P:∀h',(∀b o,b≠z->b≠TO->b≠C->b≠B->s.heap.get? b=OP o->h'.get? b=OP o)->R (.ok<|.ret res) { s with heap:=h' }:=λh' k=>by
   refine v h' l c ts (λb o _ _ O b2 M L q=>k b o O b2 M L q) (k S _ m.1 m.2.2.1 m.2.2.2.1 m.2.2.2.2.1 g) ea ∅ nd λj T E=>?_
   let(h,x,y,Q,H,G):=hts j T E;exact(h,x,y,Q,H,k T _ (neA hz h) (neA a8 h) (neA W h) (neA V h) G,)
  rcases r with⟨_,r⟩|⟨T0,bb,o,I,_,r,gT,_⟩
  .exact K1<|N8 (by simp[hh]) D r X p2 t1 t2 q1 q2 vD λh' k=>K2<|P h' k
  .exact K1<|Aa (by simp[hh]) D r gT X p2 t1 t2 q1 q2 vD λh' k=>K2<|P h' λb o O _ M L q=>k b o O M L q
 |succ d ih =>
  intro i s l c ts e hN r X (a,b,p2,) t1 t2 q1 q2 g ea el nd hts v;let ix:i<xs.size:=∅
  let iy:i<ys.size:=∅
  calc M8 F.entry_extend_loop ?_;rw[io Fa _];show Lq _ A.in1 (LR (.ref z) >>= _) _ _ s;let a0:l.size=i:=by rw[←Ht,ea,aa,el]
  let go:∀h',CU h' z TI TO N (i+1)->(∃a b,N5 h' TO a b)->h'.IsListIter C K (i+1)->h'.IsListIter B J (i+1)->N5 h' ↥s xs[i] ys[i]->h'.objs.size=↥s+1 ->
    (∀b o,b≠z->b≠TO->b≠C->b≠B->s.heap.get? b=OP o->h'.get? b=OP o) ->
    Lq (model prog w) A.in1 (N1 S (·.push (.ref ↥s)) >>= λ_=>again<|.builtin "list.extend.loop" ([.ref S,.ref z,res],[],))
     (λv s'=>match v with | .done f=>R (.ok f) s' | .again c'=>c'.quiet=OR/\Md (model prog w) A c' R s') (λe s'=>R (.error e) s') { s with heap:=h' }:=λh' z1 z2 z3 z4 z5 z6 k=>by
   let gS:h'.get? S=OP { cls:=.type "list",dict:=OQ,data:=.seq l c,slots:=#[] }:=k S _ m.1 m.2.2.1 m.2.2.2.1 m.2.2.2.2.1 g;refine K1 (N2 gS Z ?_ (by rw[a0];lia) (by show(l.push _).size<=Lc+1;rw[Array.size_push,a0];lia));let gU:=nw (ci (·.push (bv ↥s))) gS Z;generalize hH:h'.update S (ci (·.push (bv ↥s)))=h2 at gU⊢;let sb:ln S h' h2:=hH ▸ li ..;let p:∀b o,b≠S->h'.get? b=OP o->h2.get? b=OP o:=λb o hb q=>(sb.2 b hb).trans q
   let a9:h2.objs.size=↥s+1:=by rw[sb.1,z6]
   refine K2 (Na Fa _,ih (i+1) { s with heap:=h2 } (l.push<|.ref ↥s) _ (ts++[↥s]) ∅ (by rw[a9];lia) ?_ (p TI _ m.2.1.symm<|k TI _ D.TIz D.TITO D.TIi1 D.TIi2 X) ?_ (z3.at λo q=>p C o m.2.2.2.1.symm q) (z4.at λo q=>p B o m.2.2.2.2.1.symm q)
    ((q1.at λo q=>k K o D.l1z D.l1TO D.l1i1 D.l1i2 q).at λo q=>p K o m.2.2.2.2.2.1.symm q) ((q2.at λo q=>k J o D.l2z D.l2TO D.l2i1 D.l2i2 q).at λo q=>p J o m.2.2.2.2.2.2.symm q) gU (by rw[Iv,ea,fq];rfl) (by simp[el]) ?_ (λj T E=>?_) λh3 zX c' n k3 g3 e3 l3 n3 f3=>?_,)
   .rcases z1 with⟨z',_⟩|⟨T0,bb,o,h,Q,H,G,Y⟩
    .exact OY z' ∅
    .exact .inr (T0,bb,o,h,Q,p z _ m.1.symm H,p T0 _ (neA hS h) G,Y,)
   .let(a',b',q):=z2;exact(a',b',p TO _ m.2.2.1.symm q,)
   .rw[tw];refine(nd,by simp,λt ht u hu=>?_,);let eu:u=↥s:= ~~~hu
    let(j,E):=QP.mp ht;let(_,x,y,_,_,gp):=hts j t E;let:=al gp;exact λq=>DE _ (by rw[q,eu]at this;exact this)
   .rw[List.getElem?_append]at E;split at E
    .let(h,x,y,Q,H,G):=hts j T E;exact(h,x,y,Q,H,p T _ (neA hS h)<|k T _ (neA hz h) (neA a8 h) (neA W h) (neA V h) G,)
    .rename_i hlt
     have b5:j=i:=by
      let(q,_):=KO.mp E;simp at q;lia
     subst b5;rw[el,Fp]at E;let eT:↥s=T:= ~~~E
     subst eT;exact(hN,xs[j],ys[j],HA ix,HA iy,p _ _ (neA hS hN) z5,)
   .exact v h3 zX c' n (λb o b0 bS O b2 M L q=>k3 b o b0 bS O b2 M L<|p b o bS<|k b o O b2 M L q) g3 e3 l3 n3 f3
  rcases r with⟨_,r⟩|⟨T0,bb,o,I,Ft,r,gT,cT⟩
  .refine K1<|N7 D r X p2 t1 t2 q1 q2 (x:=xs[i]) (y:=ys[i]) (HA ix) (HA iy) λh' h Q H G Y a6 a7=>?_;exact go h' (.inr (↥s,OS,_,hN,CD<|BS hz hN,h,Y,Z,)) (_,_,Q,) H G Y a6 a7
  .refine K1<|yi D r gT X p2 t1 t2 q1 q2 (x:=xs[i]) (y:=ys[i]) (HA ix) (HA iy) λh' h H G Y a6 a7=>?_;calc go h' (.inr (T0,OR,o,I,Ft,h,a7 T0 o Ft (neA W I) (neA V I) gT,cT,)) (_,_,a7 TO _ D.TOz D.TOi1 D.TOi2 p2,) H G Y a6 λb o O _ M L q=>a7 b o O M L q
end
set_option maxRecDepth 100000
def vH:MH (.type "zip") "__len__" = pure none:=by rw[Nu,Nv];kernel_rfl
def tM:MH (.type "zip") "__length_hint__" = pure none:=by rw[Nu,Nv];kernel_rfl
def pf{z TI TO m l J I:La}{xs ys:Array K5}{Q:K5->Lm->Prop}(hh:A.handled=OQ)(D:N6 z TI TO m l J I)(H:IsZip s.heap z TI TO .none)(W:N5 s.heap TI (.ref m) (.ref l))(V:N5 s.heap TO .none .none)
  (t1:s.heap.IsListIter m J 0)(P:s.heap.IsListIter l I 0)(S:s.heap.IsList J xs)(R:s.heap.IsList I ys)(hn:min xs.size ys.size<=Lc)
  (h:∀(h':Lb)(i:Array K5)(c:Nat)(ts:O4 La),(∀b o,b≠z->b≠TO->b≠m->b≠l->s.heap.get? b=OP o->h'.get? b=OP o)->h'.get? ↥s=OP { cls:=.type "list",dict:=OQ,data:=.seq i c,slots:=#[] } ->
   i.toList=ts.map bv->⇑ts=min xs.size ys.size->ts.Nodup->(∀(j:Nat)(T:La),ts[j]?=OP T->↥s+1<=T/\∃x y,xs[j]?=OP x/\ys[j]?=OP y/\N5 h' T x y)->Q (.ref ↥s) { s with heap:=h' }) :
  Lq (model prog w) A (call (.type "list") [.ref z]) Q E s:=by
 let M:z<↥s:=al H;let C:TI<↥s:=al W;let B:TO<↥s:=al V;let v:m<↥s:=let ⟨_,e,_⟩:=t1;al e;let u:l<↥s:=let ⟨_,e,_⟩:=P;al e;let t:J<↥s:=let ⟨_,e,_⟩:=S;al e;let r:I<↥s:=let ⟨_,e,_⟩:=R;al e
 refine Od (Q₁:=λq k=>q=.ref ↥s/\k={ s with heap:=s.heap.push { cls:=.type "list",data:=.seq #[] } }) F.called_list (F.typeCall_list_1 _) F.entry_list_init
  (code_list_new _ (Z,Z,)) λq k G=>?_
 let(rfl,rfl):=G;let L:(s.heap.push { cls:=.type "list",data:=.seq #[] }).get? ↥s=OP { cls:=.type "list",data:=.seq #[] }:=am _ Z;calc((_,L,Z,),F.args_list_init_2 _ _,?_,);show Lq _ _ (do let O ←QT (.ref ↥s);L0.List.listUpdate (.ref ↥s) (λ_=>#[]);letGo O.toList.reverse;ww (.ref ↥s) (.ref z) .none) _ _ _;calc K1 ?_;unfold QT;calc K1<|NU L Z<|K2 ?_;show Lq _ _ (N1 ↥s (λ_=>#[]) >>= λ_=>letGo (#[]:Array K5).toList.reverse >>= λ_=>ww (.ref ↥s) (.ref z) .none) _ _ _;calc K1<|N2 L Z ?_;let a:=nw (ci<|λ_=>(#[]:Array K5)) L Z;calc K1<|Oe ?_;let K:∀b o,s.heap.get? b=OP o->((s.heap.push { cls:=.type "list",data:=.seq #[] }).update ↥s<|ci<|λ_=>(#[]:Array K5)).get? b=OP o:=λb o e =>
  (sn _ _<|CD<|al e).trans (ac _ e)
 let p:((s.heap.push { cls:=.type "list",data:=.seq #[] }).update ↥s<|ci<|λ_=>(#[]:Array K5)).objs.size=↥s+1:=by rw[O5,jp]
 generalize (s.heap.push { cls:=.type "list",data:=.seq #[] }).update ↥s (ci<|λ_=>(#[]:Array K5))=hA at a K p⊢;let N:Go { s with heap:=hA } (.ref z) "zip" := (_,K _ _ H,Z,);unfold ww;calc K1<|MD N ?_;let h1:My (.ref ↥s) (.ref z)=false:=by simp[My];exact CD M
 let h2:(xL "zip" == xL "list")=false:=⋯
 let h3:(xL "zip" == xL "tuple")=false:=⋯
 simp only[h1,h2,h3,Bool.or_false,KU,if_false];calc K1<|N9 (s:={ s with heap:=hA }) (K _ _ H) ?_;calc K1<|K3 ?_;unfold Qt;calc K1<|N0 N vH ?_;show Lq _ _ (specialOf (bv z) s!"__length_hint__" >>= _) _ _ _;calc K1<|N0 N tM ?_;calc K2 ?_;show Lq _ _ (rule "list.extend.makes-room" >>= λ_=>QS (.ref ↥s) >>= λ_ =>
  again (.builtin "list.extend.loop" ([.ref ↥s,.ref z,.none],[],))) _ _ _
 calc K1<|Nq ?_;calc K1 ?_;show Lq _ _ (N1 ↥s (·.push .none) >>= λ_=>N1 ↥s (·.pop)) _ _ _;calc K1<|N2 (s:={ s with heap:=hA }) a Z ?_;let f:=nw (ci (·.push pc)) a Z;refine N2 (hz:=by seq_fits) f Z ?_;let d:=nw (ci (·.pop)) f Z;let g:∀b o,s.heap.get? b=OP o->((hA.update ↥s (ci (·.push pc))).update ↥s (ci (·.pop))).get? b=OP o :=
  λb o e=>(sn _ _<|CD<|al e).trans<|(sn _ _<|CD<|al e).trans<|K b o e
 let n:((hA.update ↥s (ci (·.push pc))).update ↥s (ci (·.pop))).objs.size=↥s+1:=by rw[O5,O5,p]
 generalize (hA.update ↥s (ci (·.push pc))).update ↥s (ci (·.pop))=hB at d g n⊢
 refine K2 (Na Fa _,vG (by simp[hh]) D (↥s+1) (CP M) (CP C) (CP B) (CP v) (CP u) (CP t) (CP r) (DN _)
  (CD M,CD C,CD B,CD v,CD u,CD t,CD r,) hn (min xs.size ys.size) 0 { s with heap:=hB } #[] _ [] (Fq _).symm (by rw[n];exact Ab _)
  (.inl (Z,g _ _ H,)) (g _ _ W) (_,_,g _ _ V,) (t1.at λo e=>g _ _ e) (P.at λo e=>g _ _ e) (S.at λo e=>g _ _ e) (R.at λo e=>g _ _ e) d Z Z md (λj T hj=>by simp at hj) λh' i c ts k3 g3 e3 Y X f3=>?_,)
 exact(Z,h h' i c ts (λb o b1 b2 b3 b4 e=>k3 b o (CP<|al e) (Bo<|al e) b1 b2 b3 b4<|g b o e) g3 e3 Y X f3,)
set_option maxRecDepth 100000
def bH:∀{l L:O4 Int},l.Nodup->(∀x∈l,x∈L)->⇑l<=L.length
 | [],_,_,_=>BG _
 |x :: l,L,hn,hs=>by
  let(f,d):=lY.mp hn;let b:=hs x dt;let c:=bH (L:=L.erase x) d λy a=>(List.mem_erase_of_ne<|λ(e:y=x)=>f<|e ▸ a).mpr<|hs y<|fS _ a
  rw[List.length_erase_of_mem b]at c;let:0<L.length:=QJ b;rw[fk];lia
def xf:∀{vs:O4 K5},(∀v∈vs,∃u,v=.int (lC v) u)->IntsAre vs (vs.map lC)
 | [],_=>.nil
 |v :: vs,h=>by
  let(u,e):=h v dt;rw[e];calc .cons _ u<|xf λx a=>h x<|fS _ a
def qg:∀{vs:O4 K5}{a:O4 Int},IntsAre vs a->Vals (a.map RV) vs
 |_,_,.nil=>.nil
 |_,_,.cons n t r=>.cons (t,Z,)<|qg r
def iC:∀{a:O4 Int},a.Pairwise (· <= ·)->a.Nodup->a.Pairwise (· < ·)
 | [],_,_=>.nil
 |n :: a,h1,h2=>by
  let(f,d):=oD.mp h1;let(c,b2):=lY.mp h2;calc .cons (λm b=>?_)<|iC d b2;let:=f m b;let:n≠m:=λe=>c<|e ▸ b
  lia
def vI{a:La}{ks:O4 Int}{m:Nat}{Q:K5->Lm->Prop}(R:A.handled=OQ)(hW:dQ s.heap a (!dU w) ks m)(hm:m<64)
  (h:∀(r:O4 Int)(vs:O4 K5)(s':Lm)(D:La)(c:Nat),Vals (r.map RV) vs->r.Pairwise (· < ·)->(∀k,k∈r↔k∈ks)->↥s<=D->(∀b u,s.heap.get? b=OP u->s'.heap.get? b=OP u)->s'.heap.get? D=OP (seqObj "list" vs.toArray c)->s'.gens=s.gens->s'.os=s.os->⇑r=m->Q (.ref D) s') :
  Lq (model prog w) A (call (.builtin "sorted") [.ref a]) Q E s:=by
 let(o,es,ep,t,N,I,X,z,x,T,Y,P,O):=hW;calc Qm kind_sorted plain_sorted entry_sorted (args_sorted1 _) ?_;unfold L0.«sorted»;calc K1 (m:=checkCount "sorted" 1 1 _)<|K2 ?_;refine K1 (tJ (by simp[R]) N I X x T Y P λd f y K S G F=>?_);let n:⇑d=m:=by rw[y.length_eq,aa,Ht,O]
 let p:∀v∈d,∃u,v=.int (lC v) u:=λv M=>by
  let(e,W,rfl):=dr.mp<|y.mem_iff.mp M;exact(z.ent e W).2
 let hI:=xf p;let J:(d.map lC).Perm (es.toList.map λe=>lC e.2):=by
  let:=y.map lC;rw[oY]at this;exact this
 refine K1 (Of ?_ (by rw[L9];lia));let g:(f.heap.push<|seqObj "list" d.toArray 0).get? ↥f=OP (seqObj "list" d.toArray 0):=am _ Z;let keep:∀b u,s.heap.get? b=OP u->(f.heap.push<|seqObj "list" d.toArray 0).get? b=OP u:=λb u q=>ac _<|K b u q
 show Lq _ _ _ _ _ { f with heap:=f.heap.push (seqObj "list" d.toArray 0) };refine K1<|K3<|MC slot_list_sort (_,g,Z,) entry_list_sort ?body<|args_list_sort _
 case body =>
  refine list_sort_tree (s:={ f with heap:=f.heap.push (seqObj "list" d.toArray 0) }) g hI ∅ λout j a1 C a3=>(_,Z,K2 (_,Z,?_,),)
  let nd:j.Nodup:=C.nodup_iff.mpr<|J.nodup_iff.mpr z.nd;let l:↥f<(f.heap.push<|seqObj "list" d.toArray 0).objs.size:=al g;let(B,H):∃B,((f.heap.push<|seqObj "list" d.toArray 0).update ↥f<|ci λ_=>#[]).get? ↥f=OP (seqObj "list" #[] B):=(_,get?_update_seq g<|λ_=>#[],);let L:∀b,b<(f.heap.push<|seqObj "list" d.toArray 0).objs.size->((((f.heap.push<|seqObj "list" d.toArray 0).update ↥f<|ci λ_=>#[]).push<|seqObj "tuple" d.toArray 0).push<|seqObj "list" #[] 0).get? b=((f.heap.push<|seqObj "list" d.toArray 0).update ↥f<|ci λ_=>#[]).get? b:=λb x=>by
   rw[Lb.get?_push_ne _ _ _ (by rw[size_push',O5];exact Bo (CP x)),Lb.get?_push_ne _ _ _ (by rw[O5];exact Bo x)]
  let e6:((((f.heap.push<|seqObj "list" d.toArray 0).update ↥f<|ci λ_=>#[]).push<|seqObj "tuple" d.toArray 0).push<|seqObj "list" #[] 0).get? ↥f=OP (seqObj "list" #[] B):=by rw[L _ l];exact H
  let sz:↥s<=↥f:=Dn F;refine h j out.toList { f with heap:=sortedHeap (f.heap.push<|seqObj "list" d.toArray 0) ↥f d out } ↥f _ (qg a1) (iC a3 nd) (λk=>(C.mem_iff).trans<|(J.mem_iff).trans (z.mem k).symm) sz (λb u q=>?_) (get?_update_seq e6<|λ_=>out) S G ?_
  .let i:b<↥f:=al<|K b u q;show(Lb.update _ _ _).get? b=OP u;rw[Lb.get?_update_ne _ _ _ _ (Bo i),L _<|Fx i l,Lb.get?_update_ne _ _ _ _ (Bo i)];exact keep b u q
  .rw[C.length_eq,aa,n]
variable{H':Hp}
def Inv.grow{s':Lm}(I:Inv X OU σ H s)(k:∀b o,s.heap.get? b=OP o->s'.heap.get? b=OP o)(l:s'.gens=s.gens)(d:s'.os=s.os)(a:∀b,b<↥s->H' b=H b)
  (t:∀b u,↥s<=b->H' b=OP u->bq X.prog X.w H' s'.heap b u):Inv X OU σ H' s':=by
 let(h',g',d',t',h):=s';obtain rfl:g'=s.gens:=l;obtain rfl:h=s.os:=d;let lt:∀{b u},H b=OP u->b<↥s:=λ{b u} e=>by
  rcases He b ↥s with z|z
  .exact z
  .rw[I.hok.fresh z]at e;cases e
 let same:∀{b u},H b=OP u->H' b=OP u:=λe=>by rw[a _ (lt e)];exact e
 exact I.step (h':=h') (g':=s.gens) (d':=d') (t':=t') (ch:=[]) (λ_ z=>nomatch z) (λb o _ _ _ e _=>k b o e) (λb o _ _ _ e _=>(o.slots,k b o e,))
  (λb o _ e n=>by rw[a _ (al e)];exact n) (λb o _ e=>(o,k b o e,)) (λb f e=>same e) (λb o u e=>same e) (λb ps e=>(#[],by rw[same e];simp,))
  (λm j=>by
   let(o,es,p,i,r):=j;exact(o,es,p,k _ o i,r,))
  (λb u e=>by
   rcases He b ↥s with z|z
   .rw[a _ z]at e;exact(I.hok b u e).stay (λc g _ q=>k c g q) (λc q=>same q) λc f q=>same q
   .exact t b u z e)
  I.bare
def  vJ(w:K6)(a:La)(zs:O4 Int):HO:=.ext λh=>∃m,dQ h a (!dU w) zs m
def nH:∀{zs:O4 Int}{us:O4 K5},Vals (zs.map RV) us->∀(i:Nat)(v:K5),us[i]?=OP v->∃z t,zs[i]?=OP z/\v=.int z t
 | [],_,.nil,i,v,h=>by simp at h
 |z :: zs,_,.cons (t,e,) r,0,v,h=>by simp at h;exact(z,t,Z,by rw[←h,e],)
 |z :: zs,_,.cons _ r,i+1,v,h=>by
  let(a,t,c,b):=nH r i v<|~~~h;calc(a,t,~~~c,b,)
def qi{w:K6}(A:X.w=w)(B:X.calm=OR):dh X (.type "set") (λxs H Q=>∃(p:La)(zs:O4 Int),xs=[.ref p]/\SqL X.K H p (zs.map RV)/\⇑zs<=1000/\∀l,H l=OQ->Q (.ref l) (upd H l<|vJ w l zs)):=by
 subst A;intro OU s σ H xs E Q I r h;let(p,zs,rfl,C,F,q):=h;let(u,rfl,j):=r.one;obtain rfl:u=bv p:=j;let(D,c,n,_):=I.list C;let d:=⇑c;rw[aa]at d;refine ye (ks:=zs) (I.ok.hd B) n.isList (λi v e=>?_) (~~~d) (by unfold M6;simp;lia) λh' f m x G z=>?_
 .exact nH c i v<|~~~e
 .refine(.ref ↥s,_,I.laid (a:=↥s) (o:=vJ X.w ↥s zs) (h':=h') (t':=f) (λb o q=>z b o (al q) q) (Ab _) ?_,Z,q _ I.fresh,);calc((m,x,),?_,λL J (t,y,) k=>(t,y.stay k,),);let(o,_,_,_,g,_):=x;calc(o,g,)
def gi{w:K6}(n:X.w=w)(B:X.calm=OR):dh X (.builtin "sorted") (λus H Q=>∃(a:La)(zs L:O4 Int),us=[.ref a]/\H a=OP (vJ w a zs)/\L.length<64/\(∀k∈zs,k∈L) /\
  ∀(D:La)(d:O4 Int),H D=OQ->d.Pairwise (· < ·)->(∀k,k∈d↔k∈zs)->Q (.ref D) (upd H D<|.lst<|d.map RV)):=by
 subst n;intro OU s σ H us O Q I r h;let(a,zs,L,rfl,e,R,p,q):=h;let(u,rfl,l):=r.one;obtain rfl:u=bv a:=l;let((m,x),_,_):=I.hok a _ e;let y:m<64:=by
  let(o,es,S,t,_,_,_,i,_,_,_,_,v):=id x;let:=bH (L:=L) i.nd λk A=>p k<|(i.mem k).mpr A
  rw[aa,Ht,v]at this;lia
 refine vI (I.ok.hd B) x y λd us P D c N M K j J G F E T=>?_
 let C:H D=none:=I.hok.fresh j;refine(.ref D,upd H D<|.lst<|d.map RV,I.grow J F E (λb g=>by rw[ar (Bo<|BS g j)]) (λb u g f=>?_),Z,q D d C M K,);by_cases z:b=D
 .subst z;rw[af]at f;cases f;exact(by rw[aa,L9];lia,us,c,N,G,)
 .rw[ar z,I.hok.fresh g]at f;cases f
inductive Fu(K:RD)(Q:VK)(vs:O4 V)(H1:Hp):Prop
 |mk (a b xs ys:_)(_:vs=[.ref a,.ref b])(_:SqL K H1 a xs)(_:SqL K H1 b ys)(_:∀(D:La)(ts:O4 La)(H2:Hp),⇑ts=min ⇑xs ⇑ys->(∀c o,H1 c=OP o->H2 c=OP o)->H1 D=OQ->H2 D=OP (.lst<|ts.map RZ) ->
  (∀(j:Nat)(x y:V),xs[j]?=OP x->ys[j]?=OP y->∃T,ts[j]?=OP T/\H1 T=OQ/\H2 T=OP (.tup [x,y]))->Q (.ref D) H2):Fu K Q vs H1
def  tLZ(K:RD)(ta:TA):TE:=λσ H Q=>ta σ H λa b=>Fu K Q a b
def ltA{c n:Nat}(h:c<n)(k:Nat):c≠n+k:=Bo<|BS h<|Fh _ _
def  iD(xs ys:O4 V)(ts:O4 La)(b:La):Option HO :=
 match ts.idxOf? b with
 |some j=>match xs[j]?,ys[j]? with
  |some x,OP y=>OP<|.tup [x,y]
  |_,_=>OQ
 |none=>OQ
def vK{J C:Lu}{ta:TA}{p1 p2 Fv DL:Pos}(a6:X.calm=OR)(hg:Gl X "list") (hm:X.mg "list" = OQ) (a5:Gl X "zip") (a4:X.mg "zip" = OQ) (ha:PA X [J,C] ta)
  (hs:Ly [J,C] X.env=[(OS,eval J X.env),(OS,eval C X.env)]:=by rfl)(M:Ly [C] X.env=[(OS,eval C X.env)]:=by rfl) :
  PE X (.Call (.Name "list" p1) [.Call (.Name "zip" p2) [J,C] [] DL] [] Fv) (tLZ X.K ta):=by
 intro OU s σ H Q I h;calc K4<|fM I hg hm ls ?_;calc RS ?_ Z Z;show Lq _ _ (spliced ((OS,eval (.Call (.Name "zip" p2) [J,C] [] DL) X.env) :: Lw Fv (Ly [] X.env))) _ _ s;calc PM ?_;calc K4<|fM I a5 a4 P8 ?_;refine RS (thn (ha DL OU s σ H _ I h) λus f (vs,S,B,r1,q1,)=>?_) (by rw[hs,M]) (by rw[M];rfl);let(a,b,p,n,rfl,qa,qb,q):=q1;let(u,v,rfl,ru,rv):=r1.two;cases (show u=bv a from ru);cases (show v=bv b from rv);let(us,vu,pu,zu):=B.list qa;let(vs,vv,pv,zv):=B.list qb;let(oa,ea,_):=id pu.isList;let(ob,eb,_):=id pv.isList;let la:a<↥f:=al ea;let lb:b<↥f:=al eb;let l1:=⇑vu;let l2:=⇑vv;refine call_zip_2 pu.isList pv.isList λh' z1 z2 z3 z4 z5 z6 Y=>?_
 calc PP ?_;let D:N6 (↥f+4) (↥f+2) (↥f+3) ↥f (↥f+1) a b:=by
  calc(?_,?_,?_,?_,?_,?_,?_,?_,?_,?_,?_,?_,?_,?_,?_,?_,?_,?_,) <;> first|exact Bo ∅|exact CD ∅|exact Bo la|exact Bo lb|exact Bo (BS la<|Fh _ _)|exact Bo (BS lb<|Fh _ _)
 refine pf (s:={ f with heap:=h' }) (B.ok.hd a6) D z1 z2 z3 z4 z5 (pu.isList.at λo e=>Y _ _ e) (pv.isList.at λo e=>Y _ _ e) (by simp;lia) λh2 b0 c d k3 g3 e3 n3 nd R=>?_
 let a3:Lm.heap { f with heap:=h' }=h':=rfl;rw[a3]at g3 R k3;rw[z6]at g3 R;let kp:∀c o,f.heap.get? c=OP o->h2.get? c=OP o:=λc o e=>by
  let:=al e;exact k3 c o (ltA this _) (ltA this _) (Bo this) (ltA this _)<|Y c o e
 let N:⇑d=min ⇑p ⇑n:=by rw[n3];simp;lia
 let F:∀(j:Nat)(T:La),d[j]?=OP T->d.idxOf? T=OP j:=λj T w=>by
  let(G,ej):=KO.mp w;rw[List.idxOf?,Gc];refine(G,by simp[ej],λi hi=>?_,);let:d[i]≠d[j]:=λq=>by
   let:=(zk nd).mp q;lia
  simpa[←ej]using this
 let L:∀(T:La)(j:Nat),d.idxOf? T=OP j->d[j]?=OP T:=λT j w=>by
  rw[List.idxOf?,Gc]at w;let(G,e,_):=w;rw[KN G];simpa using e
 let E:∀(T:La)(j:Nat),d.idxOf? T=OP j->↥f+6<=T:=λT j w=>by
  let(a1,_):=R j T<|L T j w;lia
 show EP X OU σ Q _ _;rw[show(Lm.heap { f with heap:=h' }).objs.size=↥f+5 from z6];generalize m:(λ(b:La)=>if b=↥f+5 then OP (HO.lst<|d.map RZ)else match iD p n d b with|some o=>OP o|none=>S b)=H2;let hD:H2 (↥f+5)=OP (.lst<|d.map RZ):=by rw[←m];exact OX Z
 let hO:∀c,c<↥f->H2 c=S c:=λc hc=>by
  rw[←m];show(if c=↥f+5 then _ else _)=_;rw[OW (ltA hc 5)];let:iD p n d c=none:=by
   unfold iD;cases e:d.idxOf? c with
   |none=>rfl
   |some j=>exact OY (BS hc<|BK (Fh _ 6)<|E c j e) (DE _)
  rw[this]
 let hT:∀(j:Nat)(x y:V)(T:La),p[j]?=OP x->n[j]?=OP y->d[j]?=OP T->H2 T=OP (.tup [x,y]):=λj x y T l A g=>by
  let:=E T j<|F j T g;rw[←m];show(if T=↥f+5 then _ else _)=_;rw[OW (CD<|BS (DN _) this)];let:iD p n d T=OP (.tup [x,y]):=by unfold iD;rw[F j T g];dsimp only;rw[l,A]
  rw[this]
 refine(.ref<|↥f+5,H2,B.grow (s':={ f with heap:=h2 }) kp Z Z hO (λb u hb k=>?_),Z,q _ d H2 N (λc o e=>?_) (B.hok.fresh<|Fh _ _) hD λj x y l A=>?_,)
 .rw[←m]at k;replace k:(if b=↥f+5 then OP (HO.lst<|d.map RZ)else match iD p n d b with|some o=>OP o|none=>S b)=OP u:=k
  by_cases W:b=↥f+5
  .rw[OX W]at k;cases k;subst W;let rv:∀d:O4 La,Vals (d.map RZ) (d.map bv):=λd=>by
    induction d with
    |nil=>exact .nil
    |cons t r ih=>exact .cons Z ih
   refine(by rw[aa,N];lia,d.map bv,c,rv d,?_,);rw[←e3];exact g3
  .rw[OW W]at k;cases g:iD p n d b with
   |none=>rw[g]at k;replace k:S b=OP u:=k;rw[B.hok.fresh hb]at k;cases k
   |some o =>
    rw[g]at k;cases k;unfold iD at g;cases ei:d.idxOf? b with
    |none=>rw[ei]at g;cases g
    |some j =>
     rw[ei]at g;dsimp only at g;cases l:p[j]? with
     |none=>rw[l]at g;cases g
     |some x =>
      cases A:n[j]? with
      |none=>rw[l,A]at g;cases g
      |some y =>
       rw[l,A]at g;cases g;let(_,x',y',fx,fy,gp):=R j b<|L b j ei;let(u1,a8,a2):=vu.get l;let(v1,a7,a0):=vv.get A;let P:us[j]?=OP x':= ~~~fx
       have O:vs[j]?=OP y':= ~~~fy
       rw[a8]at P;rw[a7]at O;cases P;cases O;exact(by show 2<=Lc;decide,[x',y'],.cons a2<|.cons a0 .nil,_,gp,Z,_,Z,)
 .let:c<↥f:=by
   rcases He c ↥f with z|z
   .exact z
   .rw[B.hok.fresh z]at e;cases e
  rw[hO c this];exact e
 .let w:j<⇑d:=by
   let(h1,_):=KO.mp l;let(a9,_):=KO.mp A;lia
  let g:d[j]?=OP d[j]:=KN w;calc(d[j],g,B.hok.fresh<|BK (Fh _ 6)<|E _ j<|F j _ g,hT j x y _ l A g,)
def  Ite(K:RD)(a:La):It :=
 (λi H=>∃b x,SqL K H a b/\b[i]?=OP x,
 λi H v H'=>∃T,H T=OQ/\v=.ref T/\∀b x,SqL K H a b->b[i]?=OP x->H'=upd H T (.tup [.int i,x]),
 λi H=>∃b,SqL K H a b/\⇑b<=i,)
def  Ac(e it a:La)(i:Nat)(h:Lb):Prop:=(∃b,IsEnum h e it i b)/\h.IsListIter it a i
def yj{P:K7}{w:K6}{K:RD}{m:O4 Lu} {x1} {tp:Pos}{e it a:La}(l:e≠it) :
  Turn P w K (.Tuple m x1 tp) (Ite K a) [e,it] e (Ac e it a) where
 mem:=by simp
 obj:=λi h st c b=>by
  let((d,j),(V,f,_,d2)):=st;simp only[bz,jQ,or_false]at b;rcases b with rfl|rfl
  .exact⟨_,j,λv q=>nomatch q⟩
  .exact⟨_,f,λv q=>by rw[d2]at q;cases q⟩
 keep:=λi h h' st k=>by
  let((d,j),f):=st;exact((d,k e (by simp) _ j,),f.at λo q=>k it (by simp) o q,)
 item:=by
  intro X B z C b i OU s σ H E I p st A;subst B z C;let(O,x,n,M):=A;let((d,j),f):=st;let(Q,r,t,_):=I.list n;let(u,eu,R):=r.get M;refine wpAny_pyNext_enum_item j f t.isList (x:=u) (~~~eu) l λh1 a1 a2 a3 a4 a5=>?_
  calc(_,Z,wpAny_letOwnedTupleGo_enum (s:={ s with heap:=h1,toks:=s.toks+1 }) a1 λD b1 b2=>?_,);let Y:s.heap.get? ↥s=none:=by
   cases q:s.heap.get? ↥s with
   |none=>rfl
   |some o=>exact OY (al q) (DE _)
  let L:H ↥s=none:=I.hok.fresh<|Ab _;let G:↥s≠e:=CD<|al j;let kk:∀c o,c ∉ [e,it]->s.heap.get? c=OP o->D.get? c=OP o:=λc o b q=>by
   simp only[bz,jQ,or_false,not_or]at b;exact b2.extBut _ _ b.1<|a5 c o b.1 b.2 q
  let J:=I.turnedPair (h':=D) (ch:=[e,it]) (T:=↥s) (x:=.int i) (y:=x) (u:=.int i s.toks) (v:=u) (λc b=>p c (by simp at b⊢;rcases b with q|q <;> simp[q])) kk Y L (b2.extBut _ _ G a3) (_,Z,) R;refine(.ref ↥s,upd H ↥s<|.tup [.int i,x],J.tok _,Z,(_,L,Z,λa0 x' S N=>?_,),((_,b1,),a2.extBut b2.extBut l.symm,),λc b=>?_,)
  .rw[I.list_inj S n,M]at N;cases N;rfl
  .let h0:=(p c b).1;let:c≠↥s:=by
    let(V,F,_):=f;simp only[bz,jQ,or_false]at b;rcases b with rfl|rfl
    .exact G.symm
    .exact Bo<|al F
   rw[ar this];exact h0
 done:=by
  intro X B z C b i OU s σ H E I p st A;subst B z C;let(O,n,hl):=A;let((d,j),f):=st;let(Q,r,t,_):=I.list n;let l1:=⇑r;refine wpAny_pyNext_enum_end (I.ok.hd b) j f t.isList (by simp;lia) λD k=>⟨Z,I.turnedL (ch:=[e,it]) (λc b=>p c (by simp at b⊢;rcases b with q|q <;> simp[q])) λc o b q=>?_⟩
  simp only[bz,jQ,or_false,not_or]at b;exact k c o b.2 q
 self:=λ_ _ _ _ _ st h=>let ⟨⟨_,g⟩,_⟩:=st;Og g h
inductive Ad(K:RD)(R:It->Rr)(vs:O4 V)(H1:Hp):Prop
 |mk (a:_)(_:vs=[.ref a])(_:(∃xs,SqL K H1 a xs))(_:R (Ite K a) H1)
def  Fw(K:RD)(ta:TA):TI:=λσ H R=>ta σ H λa b=>Ad K R a b
def xg{f:Lu}{ta:TA}{p pos:Pos}{e:O4 Lu} {x1} {tp:Pos}(w:Gl X "enumerate") (hm:X.mg "enumerate" = OQ) (x:PA X [f] ta)
  (v:Ly [f] X.env=[(OS,eval f X.env)]:=by rfl) :
  PI X (.Tuple e x1 tp) (.Call (.Name "enumerate" p) [f] [] pos) (Fw X.K ta):=by
 intro OU s σ H R I h;refine Call_ (fM I w hm PyProof.Rows.boot_enumerate<|RS (thn (x pos OU s σ H _ I h) λl b (B,y,g,n,r,)=>?_) (by rw[v];rfl) Z);let(a,rfl,(A,o),q):=r;let(u,rfl,m):=n.one;cases (show u=bv a from m);let(l,_,t,_):=g.list o;refine call_enumerate_list t.isList λh' z1 k z j=>?_
 calc Og (s:={ b with heap:=h' }) z1 ?_;calc(↥b+1,[↥b+1,↥b],Ac (↥b+1) ↥b a,Ite X.K a,y,Z,g.kept (t':=b.toks) j,yj<|CD<|DN _,((_,z1,),k,),λc i=>?_,q,);let d:↥b<=c:=by
  simp only[bz,jQ,or_false]at i;rcases i with rfl|rfl
  .exact D0 _
  .exact Ab _
 calc g.fpOk d<|g.hok.fresh d
variable{gt:TG}{fr:O4 Nat}{tt:TT}{te:TE}
def vL{K:RD}{a:La}{xs:O4 V}{σ:St}{f:Hp}{Q:VK}(c:La->Nat->O4 V->Rr)(t:∀D,f D=OQ->c D 0 [] (upd f D<|.lst []))
  (r:∀D i ys H,f D=OQ->i<=⇑xs->c D i ys H->SqL K H a xs)
  (o:∀D i x ys H T,f D=OQ->xs[i]?=OP x->c D i ys H->H T=OQ->∀ts:St,⇑ts=k->gt (.ref T) (cH σ fr ts) (upd H T<|.tup [.int i,x]) λd u=>(∃g:St,⇑g=k/\d=cH σ fr g)/\tt d u λb n=>if b=OR then te d n (c0 c D i ⇑xs)else d6 c D i ⇑xs n)
  (hd:∀D ys H,f D=OQ->c D ⇑xs ys H->Q (.ref D) H):fB (Ite K a) gt k fr tt te σ Q f:=by
 intro D h;calc(λi m H=>m=⇑xs-i/\i<=⇑xs/\∃ys,c D i ys H,(_,Z,BG _,[],t D h,),?_,);rintro i m H ⟨rfl,hi,ys,p⟩;let q:=r D i ys H h hi p;by_cases l:i<⇑xs
 .let j:xs[i]?=OP xs[i]:=KN l;calc .inr ((xs,xs[i],q,j,),λx H' y=>?_,);let(T,s,rfl,e):=y;rw[e xs _ q j];exact o D i _ ys _ T h j p s
 .let e:i=⇑xs:=∅
  subst e;calc .inl ((xs,q,Ab _,),hd D ys H h p,)
def yk{K:RD}{a b:La}{xs ys:O4 V}{σ:St}{f:Hp}{Q:VK}(c:La->Nat->O4 V->Rr)(u:∀D,f D=OQ->c D 0 [] (upd f D<|.lst []))
  (s:∀D i zs H,f D=OQ->i<=min ⇑xs ⇑ys->c D i zs H->SqL K H a xs/\SqL K H b ys)
  (r:∀D i x y zs H T,f D=OQ->xs[i]?=OP x->ys[i]?=OP y->c D i zs H->H T=OQ->∀ts:St,⇑ts=k->gt (.ref T) (cH σ fr ts) (upd H T<|.tup [x,y]) λd v=>(∃g:St,⇑g=k/\d=cH σ fr g)/\tt d v λb q=>if b=OR then te d q (c0 c D i<|min ⇑xs ⇑ys)else d6 c D i (min ⇑xs ⇑ys) q)
  (hd:∀D zs H,f D=OQ->c D (min ⇑xs ⇑ys) zs H->Q (.ref D) H):fB (Itz K a b) gt k fr tt te σ Q f:=by
 intro D h;calc(λi m H=>m=min ⇑xs ⇑ys-i/\i<=min ⇑xs ⇑ys/\∃zs,c D i zs H,(_,Z,BG _,[],u D h,),?_,);rintro i m H ⟨rfl,hi,zs,p⟩;let(l,j):=s D i zs H h hi p;by_cases w:i<min ⇑xs ⇑ys
 .let o:xs[i]?=OP xs[i]:=KN ∅;let n:ys[i]?=OP ys[i]:=KN ∅;calc .inr ((xs,ys,xs[i],ys[i],l,j,o,n,),λx H' y=>?_,);let(T,t,rfl,e):=y;rw[e xs ys _ _ l j o n];exact r D i _ _ zs _ T h o n p t
 .let e:i=min ⇑xs ⇑ys:=∅
  subst e;calc .inl ((xs,ys,l,j,∅,),hd D zs H h p,)
def d9{X:Cx}{N:O4 Str}{k:Nat}{fr:O4 Nat}{scope:Ln}{cl:O4 (Str×La)}(clos:MS scope X.env=pure cl)(kind:scope.kind=.function)(a:∀y∈scope.names,y.2≠.cell)
  (names:∀y∈scope.names,y.2=.local->scope.names.lookup y.1=OP .local)(b:N.length=k+⇑fr)
  (sub:((bn ⇑fr).all λi=>match N[k+i]?,fr[i]? with|some y,OP j=>(X.N[j]? == OP y) && ((X.env.kindOf y == OP .cell) && ((relabel scope X.env).names.lookup y == OP .cell))|_,_=>OS)=OR)
  (cells:∀p∈cl,X.env.cells.lookup p.1=OP p.2)(d:((relabel scope X.env).names.all λp=>(p.2 != .cell && p.2 != .free) || (cl.lookup p.1).isSome)=OR):ni X N k fr scope cl:=by
 refine(clos,kind,a,names,b,λi y e=>?_,λy c e=>cells _<|mem_of_lookup e,λy h=>?_,)
 .let hi:i<⇑fr:=by have:=(KO.mp e).1;lia
  let z:=jP.mp sub i<|iT.mpr hi;rw[e,KN hi]at z;simp only[KS,beq_iff_eq]at z;exact(_,KN hi,z.1,.inl z.2.1,.inl z.2.2,)
 .let look:∀k,(relabel scope X.env).names.lookup y=OP k->(k=.cell\/k=.free)->∃c,cl.lookup y=OP c:=λk e f=>by
   let z:=jP.mp d _<|mem_of_lookup e;rcases f with rfl|rfl
   .exact KZ.mp<|~~~z
   .exact KZ.mp<|~~~z
  rcases h with h|h
  .exact look _ h<|.inl Z
  .exact look _ h<|.inr Z
def ym{K:RD}(e:X.K=K){a:Lu}{ta:TE}(d:PE X a ta)(c:∀b,Lv a X.env b=(do let v ←b;LF a.pos;holding [v] (truthy v)):=by intro _;rfl) :
  PT X a (λσ H Q=>ta σ H λx H'=>∃k,Dt K x H' k/\Q k H'):=e ▸ di d c
variable{tg:Lu}
section
variable{elt iter:Lu}{ifs:O4 Lu}{cl:O4 (Str×La)}
def tN{x:TI}{i:Nat}{y:Str}{c u:Pos}(hN:X.N.Nodup)(B:X.N[i]?=OP y)(P:Loc X.env.scope y)(hi:PI X tg iter x)(O:ni X N k fr scope cl)(W:X.calm=OR)(R:∀fp C s H,PG (bI X N scope cl fp C s H) tg gt)
  (E:∀fp C s H,PIf (bI X N scope cl fp C s H) ifs tt)(V:∀fp C s H,PE (bI X N scope cl fp C s H) elt te)(F:∀v,L1 iter X.env v=pure v:=by intro _;rfl)
  (l:LJ (.ListComp elt [(tg,iter,ifs,0,)] scope pos) (OP<|.Name y c) u.line X.env=pure true:=by rfl)(S:X.fn y=OR\/X.env.scope.names.lookup y=OP .local:=by first|exact .inl Z|exact .inr Z|assumption) :
  PS X (.Assign [.Name y c] (.ListComp elt [(tg,iter,ifs,0,)] scope pos) u) (Bw (zT x gt k fr tt te)<|pK i):=by
 intro OU s σ H g I h;rw[M3 _ _ _ _ l];calc K1<|LO<|K1 ?_;show Lq _ X.A (do let _ ←comprehension (.ListComp elt [⟨tg,iter,ifs,0⟩] scope pos) scope X.env _ (MU []) OS (eval iter X.env) (OP<|assign (.Name y c) X.env)) _ _ s;calc K1<|LA (MZ (use:=OP<|assign (.Name y c) X.env) (Q:=λ_ b=>SP X OU g .next b) Z F O.clos O.kind O.names<|thn (hi OU s σ H _ I h) λv s1 h1=>thn h1 λa0 s2 h2=>?_) (λ_ b G=>K2<|K2 G) λ_ _ z=>z;let(it,fp,tn,J,H2,e,d,T,j,f2,hW):=h2;subst e;refine nj (Q:=λv H1=>pK i v σ H1 g.nx) (RR:=λt C=>M0 (model X.prog X.w) X.A X.xe (OP<|assign (.Name y c) X.env) (λ_ b=>SP X OU g .next b) t C) O W d T j f2 E V R hW λD C b H' f L (m,M,) I' q=>?_
 show Lq _ X.A (assign (.Name y c) X.env<|.ref D) _ _ b;calc LN<|lj I' hN B P (v:=.ref D) Z (λs3 I3 (a,n,Y,)=>?_) S;let r:C≠a:=by
  rcases Y with z|z
  .rw[z];exact CD<|BS d.lt f
  .let(v,o,K,_):=d.cell y a z;exact CD<|BS (al K) f
 calc(m,M.sameBut n r,λh' p=>(_,H',d.left I3 f L p,q,),)
end
set_option maxRecDepth 100000
def Ae:PIp X .Mult (λx y H Q=>∃i j,x=.int i/\y=.int j/\L4 i j/\Q (.int<|i*j) H):=by
 intro OU s σ H x y v u Q I b a h;let(i,j,e,d,c,q):=h;subst e;subst d;let(t,rfl):=b;let(f,rfl):=a;exact PyProof.Rows.imul_int (.int _,H,I.tok _,(_,Z,),q,) c
set_option maxRecDepth 100000
def Af{K:RD}{a:La}{xs:O4 V}{g:TG}{k:TS}{D:Ends}{σ:St}{H:Hp}(b:Nat->Rq)(t:b 0 σ H)(r:∀i σ H,b i σ H->SqL K H a xs)
  (q:∀i x σ H T,xs[i]?=OP x->b i σ H->H T=OQ->g (.ref T) σ (upd H T<|.tup [.int i,x]) λc j=>k { D with nx:=b<|i+1,ct:=b<|i+1,bk:=D.nx } c j)
  (hd:∀σ H,b ⇑xs σ H->D.nx σ H) :
  ∃W:Nat->Nat->Rq,(∃m,W 0 m σ H)/\∀i m σ H,W i m σ H ->
   ((Ite K a).stop i H/\D.nx σ H)\/((Ite K a).go i H/\∃N:Rq,(∀d H',N d H'->∃l,l<m/\W (i+1) l d H')/\∀x H',(Ite K a).yld i H x H'->g x σ H' λc j=>k { D with nx:=N,ct:=N,bk:=D.nx } c j):=by
 refine(λi m σ H=>m=⇑xs-i/\i<=⇑xs/\b i σ H,(⇑xs,by simp,BG _,t,),?_,);rintro i m σ H ⟨rfl,hi,p⟩;let f:=r i σ H p;by_cases lt:i<⇑xs
 .let h:xs[i]?=OP xs[i]:=KN lt;refine .inr ((xs,_,f,h,),b<|i+1,λd H' o=>(_,?_,Z,lt,o,),λv H' n=>?_,)
  .lia
  .let(T,s,rfl,e):=n;rw[e xs _ f h];exact q i _ σ H T h p s
 .let e:i=⇑xs:=∅
  subst e;calc .inl ((xs,f,Ab _,),hd σ H p,)
def Ag{X:Cx}{K:RD}(h:X.K=K):SlR X (DB K):=h ▸ qS
def ra:MH (.type "list") "keys" = pure none:=by rw[Nu,Nv];kernel_rfl
def yn{a:La}{items:Array K5}{Q:Option K5->Lm->Prop}(x:s.heap.IsList a items)(l:∀o,s.heap.get? a=OP o->o.dict=OQ)(y:A.handled=OQ)
  (h:∀h' m,(∀b o,s.heap.get? b=OP o->h'.get? b=OP o)->Q OQ { s with heap:=h',toks:=m }) :
  Lq (model prog w) A (getAttr? (.ref a) "keys") Q E s:=by
 let(o,j,p,k,r):=x;let n:=l o j;let(c,z,B,t):=o;simp only at p r n;subst p r n;let(v,g,d,m,u):=s;let q:∀f,(⟨v,g,d,f,u⟩:Lm).TypeIs (.ref a) "list" := λ_=>(_,j,Z,)
 let K:=sub_AttributeError;let J:=Pe.lookup;let I:=Pe.bind<|.ref a;let H:=am_list_getattr_none;unfold getAttr? getAttrBy? getAttrBy
 repeat (any_goals (first|assumption|exact q _|((with_reducible show Lq _ _ (call (K5.builtin "list.__getattribute__") _ _) _ _ _);refine MO Pe (q _) am_entry_list_getattribute (F.args_list_getattribute_2 _ _) (meets_getattribute_miss_list a _ k t "keys" _ ra ⋯ ⋯) (j,y,λh' f e i=>?_,))|wp_step))
 let(D,C,G):=i.there;show Lq _ _ (Oh _ _ _ _ _ _ _) _ _ _;unfold Oh
 repeat (any_goals (first|assumption|wp_step))
 calc h _ _ i.of.keeps
def cM:plainId "dict.update.loop" = true:= ~~~0
def fF:Nx table "dict.update.loop" = OP L0.«dict.update.loop»:=Ny (by kernel_rfl)
def qj{α a:Type}{R:α->a->Prop}:∀{xs:O4 α}{ys:O4 a},⇑xs=⇑ys->(∀(j:Nat)(x:α)(y:a),xs[j]?=OP x->ys[j]?=OP y->R x y)->Paired R xs ys
 | [],[],_,_=>.nil
 |x :: xs,y :: ys,hl,h=>.cons (h 0 x y Z Z)<|qj (~~~hl) λj c b e f=>h (j+1) c b (~~~e)<|~~~f
 | [],_ :: _,hl,_=>by simp at hl
 |_ :: _,[],hl,_=>by simp at hl
def xh{α:Type}{P:Nat->α->Prop}:∀n:Nat,(∀j,j<n->∃a,P j a)->∃l:O4 α,⇑l=n/\∀(j:Nat)(a:α),l[j]?=OP a->P j a
 |0,_=>([],Z,λj a e=>by simp at e,)
 |n+1,h=>by
  let(l,c,f):=xh n λj d=>h j ∅
  let(a,g):=h n ∅;refine(l++[a],by simp[c],λj b e=>?_,);by_cases d:j<⇑l
  .rw[fo d]at e;exact f j b e
  .let:j=n:=by have:=(KO.mp e).1;simp at this;lia
   subst this;rw[jn ∅,c,Fp]at e;cases e;calc g
def BN{OU:O4 (La×Obj)}{σ:St}{H:Hp}{s:Lm}(I:Inv X OU σ H s):(↥s == Ld)=false:=by
 let h:Lh<↥s:=(I.mod.glob.keeps I.bk).lt;let a:Ld<↥s:=Fx ⋯ h;calc beq_eq_false_iff_ne.mpr<|CD a
structure Hs(X:Cx)(N:O4 Str)(k:Nat)(fr:O4 Nat)(scope:Ln)(cl:O4 (Str×La)):Prop where
 clos:MS scope X.env=pure cl
 kind:scope.kind=.function
 names:∀y∈scope.names,y.2=.local->scope.names.lookup y.1=OP .local
 len:N.length=k+⇑fr
 sub:∀(i:Nat)(y:Str),N[k+i]?=OP y->∃j,fr[i]?=OP j/\X.N[j]?=OP y/\(X.env.kindOf y=OP .cell\/X.env.kindOf y=OP .free)/\((relabel scope X.env).names.lookup y=OP .cell\/(relabel scope X.env).names.lookup y=OP .free)/\∃c,cl.lookup y=OP c/\∀C:La,(Ms (C+1) scope.names cl).lookup y=OP c
 cells:∀y c,cl.lookup y=OP c->X.env.cells.lookup y=OP c
 has:∀(C:La)(y:Str),((relabel scope X.env).names.lookup y=OP .cell\/(relabel scope X.env).names.lookup y=OP .free)->∃c,(Ms (C+1) scope.names cl).lookup y=OP c
section
variable{elt iter:Lu}{ifs:O4 Lu}{cl:O4 (Str×La)}
end
section
variable{b₀:Lz}{su:O4 Lz}{tb:TSX}{ts:La->La->TS}{Tn:Str}{B:La}{Hm:Pos}
end
def i7{K:RD}{a:La}{xs:O4 V}{σ:St}{f:Hp}{Q:VK}(c:La->Nat->O4 V->Rr)(r:∀D,f D=OQ->c D 0 [] (upd f D<|.lst []))
  (o:∀D i ys H,f D=OQ->i<=⇑xs->c D i ys H->SqT K H a xs)
  (n:∀D i x ys H,f D=OQ->xs[i]?=OP x->c D i ys H->∀ts:St,⇑ts=k->gt x (cH σ fr ts) H λd s=>(∃g:St,⇑g=k/\d=cH σ fr g)/\tt d s λb l=>if b=OR then te d l (c0 c D i ⇑xs)else d6 c D i ⇑xs l)
  (hd:∀D ys H,f D=OQ->c D ⇑xs ys H->Q (.ref D) H):fB (Itt K a) gt k fr tt te σ Q f:=by
 intro D h;calc(λi m H=>m=⇑xs-i/\i<=⇑xs/\∃ys,c D i ys H,(_,Z,BG _,[],r D h,),?_,);rintro i m H ⟨rfl,hi,ys,p⟩;let q:=o D i ys H h hi p;by_cases j:i<⇑xs
 .refine .inr ((xs,xs[i],q,by simp[j],),λx H' y=>?_,);let(e,y):=y;subst e;exact n D i x ys _ h (y xs q) p
 .let e:i=⇑xs:=∅
  subst e;calc .inl ((xs,q,Ab _,),hd D ys H h p,)
abbrev TTh:HO:=.ext λ_=>True
def tO{P:K7}{w:K6}{H:Hp}{h:Lb}{a:La}{o:Obj}(e:h.get? a=OP o):bq P w H h a (.frz o TTh):=(e,trivial,(o,e,),λ_ _ _ _=>trivial,)
def  hideL(H:Hp)(a:O4 La):Hp:=λb=>if b∈a then OQ else H b
def  iE(H:Hp)(fz:O4 (La×Obj)):Hp:=λb=>match fz.lookup b with
 |some o=>OP<|.frz o TTh
 |none=>H b
def  backL(H H':Hp)(a:O4 La):Hp:=λb=>if b∈a then H b else H' b
def kz{H:Hp}{a:O4 La}{b:La}(h:b∈a):hideL H a b=none:=OX h
def bQ{H:Hp}{a:O4 La}{b:La}(h:b ∉ a):hideL H a b=H b:=OW h
def nJ{H H':Hp}{a:O4 La}{b:La}(h:b∈a):backL H H' a b=H b:=OX h
def cF{H H':Hp}{a:O4 La}{b:La}(h:b ∉ a):backL H H' a b=H' b:=OW h
def gE{H:Hp}{a:O4 La}{b:La}(h:H b=OQ):hideL H a b=none:=by
 unfold hideL;split
 .rfl
 .exact h
def vM{H:Hp}{a:O4 La}{b:La}{o:HO}(h:hideL H a b=OP o):b ∉ a/\H b=OP o:=by
 unfold hideL at h;split at h
 .cases h
 .rename_i n
  calc(n,h,)
def  Fzs(H:Hp)(a:O4 La):Prop:=∀c∈a,∃o,H c=OP (.frz o TTh)
def Fzs.out{H:Hp}{a:O4 La}(h:Fzs H a){b:La}{u:HO}(e:H b=OP u)(n:∀o,u≠.frz o TTh):b ∉ a:=λz=>by
 let(o,q):=h b z;rw[e]at q;calc n o<|bm q
variable{h:Lb}
section
variable{cs:O4 La}
def HOk.hideL(x:HOk P w H h)(f:Fzs H cs):HOk P w (hideL H cs) h:=λb o e=>by
 let(n,e):=vM e;refine(x b o e).stay (λ_ _ _ q=>q) (λc q=>?_) λc a q=>?_
 .rw[bQ (f.out q λ_ z=>by cases z)];exact q
 .rw[bQ (f.out q λ_ z=>by cases z)];calc q
def HOk.backL(x:HOk P w H' h')(f:Fzs H cs)(n:∀c∈cs,H' c=OQ)(k:∀c∈cs,∀o,H c=OP (.frz o TTh)->h'.get? c=OP o):HOk P w (backL H H' cs) h':=λb o e=>by
 by_cases a:b∈cs
 .rw[nJ a]at e;let(d,q):=f b a;rw[q]at e;cases e;exact tO<|k b a d q
 .rw[cF a]at e;let out:∀{c:La}{u:HO},H' c=OP u->c ∉ cs:=λ{c u} q z=>by rw[n c z]at q;cases q
  refine(x b o e).stay (λ_ _ _ q=>q) (λc q=>?_) λc g q=>?_
  .rw[cF (out q)];exact q
  .rw[cF (out q)];calc q
def nK(s:au (hideL H cs) H'):au H (backL H H' cs):=λb o e=>by
 by_cases a:b∈cs
 .rw[nJ a];exact e
 .rw[cF a];calc s b o (by rw[bQ a];exact e)
end
section
variable{fs:O4 La}{cs:O4 La}
def Un.backL(u:Un fs [] (hideL H cs) H' h h')(f:Fzs H cs):Un fs [] H (backL H H' cs) h h' where
 keep:=λb o e n a c=>u.keep b o e (gE n) a c
 slot:=λb o e n a c=>u.slot b o e (gE n) a c
 free:=λb o e n c=>by
  let:b ∉ cs:=λz=>by let(g,q):=f b z;rw[n]at q;cases q
  rw[cF this];exact u.free b o e (gE n) c
 there:=u.there
 tups:=λb d e=>by
  let a:=f.out e λ_ z=>by cases z
  rw[cF a];exact u.tups b d (by rw[bQ a];exact e)
 frzs:=λb o v e=>by
  by_cases a:b∈cs
  .rw[nJ a];exact e
  .rw[cF a];exact u.frzs b o v (by rw[bQ a];exact e)
 tbls:=λb ps e=>by
  let a:=f.out e λ_ z=>by cases z
  rw[cF a];calc u.tbls b ps (by rw[bQ a];exact e)
end
def  tQ(b:Obj)(qual:Str):Prop:=∃a t,b.data=.fields a/\a[1]?=OP (.str qual t)
structure nL(N ps:O4 Str)(sc:Ln)(cl:O4 (Str×La)):Prop where
 kind:sc.kind=.function
 co:sc.isCoroutine=OS
 gen:sc.isGenerator=OS
 nd:N.Nodup
 pre:N.take ⇑ps=ps
 par:∀x∈ps,sc.names.lookup x=OP .local
 nocell:∀y∈sc.names,y.2≠.cell
 has:∀y∈sc.names,y.2=.free->∃c,cl.lookup y.1=OP c
def  cxC(CX:CXT)(P:K7)(w:K6)(K:RD)(mg:Str->Option K5)(base:Lb)(N:O4 Str)(qual:Str)(scope:Ln)(f:La)(b:K5)(cl:O4 (Str×La))(A:Ll)(outer:O4 Env)(s:Lm)(H:Hp)(E:XK):Cx where
 prog:=P
 w:=w
 K:=K
 mg:=mg
 base:=base
 A:=A.deeper (QB qual scope ↥s f b cl)
 N:=N
 s₀:=s
 H₀:=hideL H (cl.map (·.2))
 env:=QB qual scope ↥s f b cl
 outer:=outer
 stack:=QB qual scope ↥s f b cl :: outer
 ex:=[]
 calm:=OR
 fn:=λ_=>OS
 pn:=[]
 xe:=λe c=>Lq (model P w) (A.deeper<|QB qual scope ↥s f b cl) (leaving (QB qual scope ↥s f b cl) e) (λ_ a=>CX outer H s E e a) (λd a=>CX outer H s E d a) c
def  fG(H:Hp)(cl:O4 (Str×La))(ws:O4 (Str×V)):Prop :=
 (∀c∈cl.map (·.2),∃o v,H c=OP (.frz o TTh)/\o.data=.cell v)/\∀(x:Str)(v:V),ws.lookup x=OP v->∃c o u,cl.lookup x=OP c/\H c=OP (.frz o TTh)/\o.data=.cell (OP u)/\RelV v u
def fG.fzs{H:Hp}{cl:O4 (Str×La)}{ws:O4 (Str×V)}(h:fG H cl ws):Fzs H (cl.map (·.2)):=λc a=>let ⟨o,_,e,_⟩:=h.1 c a;(o,e,)
def fG.same{H H':Hp}{cl:O4 (Str×La)}{ws:O4 (Str×V)}(h:fG H cl ws)(s:au H H'):fG H' cl ws :=
 (λc f=>let ⟨o,v,e,d⟩:=h.1 c f;(o,v,s _ _ e,d,),λx v e=>let ⟨c,o,u,a,b,d,r⟩:=h.2 x v e;(c,o,u,a,s _ _ b,d,r,),)
def  lG(N ps:O4 Str)(vs:O4 V)(ws:O4 (Str×V)):St:=vs.map OP++(N.drop ⇑ps).map λx=>ws.lookup x
def nM{cl:O4 (Str×La)}{x:Str}{c:La}(h:cl.lookup x=OP c):c∈cl.map (·.2):=dr.mpr ((x,c),mem_of_lookup h,Z,)
def vO{ps:O4 Str}{us:O4 K5}{i:Nat}{y:Str}{u:K5}(d:ps.Nodup)(g:ps[i]?=OP y)(f:us[i]?=OP u)(h:⇑us=⇑ps):(ps.zip us).reverse.lookup y=OP u:=by
 let c:((ps.zip us).map (·.1)).Nodup:=by rw[wh ∅];exact d
 rw[PySem.lookup_reverse_of_nodup _ c];let b:(y,u)∈ps.zip us:=by
  let:(ps.zip us)[i]?=OP (y,u):=by rw[qG];exact(g,f,)
  exact KP this
 cases e:(ps.zip us).lookup y with
 |none =>
  exact OY b (by
   intro b;let:=Pc.mp e (y,u) b;simp at this)
 |some v =>
  let:=mem_of_lookup e;let(j,a):=ik this;rw[qG]at a;let:=kj d a.1 g;subst this;rw[f]at a;rw[bm a.2]
def  HFn(P:K7)(w:K6)(K:RD)(mg:Str->Option K5)(base:Lb)(k:Nat)(f:La)(sp:Sp):Prop:=∃fd ps,aK P w K mg base CX0 k f fd ps sp/\Binds K fd ps []
def  FnO(H:Hp)(f:La):Prop:=∃o fd,H f=OP (.frz o TTh)/\o.data=.func fd
variable{i:Nat}
section
variable{t:TA}
inductive CV(X:Cx)(k i:Nat)(t:TA)(σ:St)(H:Hp)(Q:VK):Prop
 |mk (f:La)(sp:Sp)(_:σ[i]?=OP ↑f)(_:FnO H f)(_:HFn X.prog X.w X.K X.mg X.base k f sp)(_:t σ H λvs H1=>FnO H1 f/\sp vs H1 Q E0)
def xi(D:bK k X.A)(L:X.N[i]?=OP x)(C:Vis X.env.scope x)(K:PA X (e :: es) t)(G:(x == ("__debug__" : Str))=false:=by decide) (c:(x == ("__classdict__" : Str))=false:=by decide)
  (he:Ly (e :: es) X.env=(OS,eval e X.env) :: Ly es X.env:=by rfl)(b:(Lw pos<|Ly es X.env).any (·.1)=false:=by rfl):PE X (.Call (.Name x p) (e :: es) [] pos) (CV X k i t):=by
 intro OU s σ H Q I h;let(f,sp,O,M,(fd,V,F,J),h):=h;let a:∀{H:Hp}{s:Lm}{σ:St},Inv X OU σ H s->FnO H f->W.FnAt f s.heap:=λP (o,fd,e,d,)=>by
  let:=(P.hok f _ e).1;let(B,z,Y,m):=o;simp only at d;subst d;exact(B,z,fd,m,this,)
 calc K4<|thn (zq L C G c OU s σ H (λv H'=>v=.ref f/\H'=H) I<|qK.of O (Z,Z,)) λu n (v,R,l,r,y,)=>?_;let(rfl,rfl):=y;cases (show u=bv f from r);calc W.callWith_F (a l M) (thn (K pos OU n σ R _ l h) λT s2 (S,H2,j,q,g,w,)=>(a j g,?_,)) he b;calc vm (E:=E0) (dvs:=[]) (ds:=[]) F D J .nil bZ j q (by rw[jm];exact w)
end
def cR{H:Hp}{fz:O4 (La×Obj)}{b:La}(h:b ∉ fz.map (·.1)):iE H fz b=H b:=by
 unfold iE;cases e:fz.lookup b with
 |none=>rfl
 |some o=>calc OY (dr.mpr ((b,o),W.mem_of_lookupK e,Z,)) h
def gF{H:Hp}{fz:O4 (La×Obj)}{b:La}(h:b∈fz.map (·.1)):∃o,(b,o)∈fz/\iE H fz b=OP (.frz o TTh):=by
 unfold iE;cases e:fz.lookup b with
 |none =>
  let((c,o),a,rfl):=dr.mp h;let:=Pc.mp e _ a;simp at this
 |some o=>calc(o,W.mem_of_lookupK e,Z,)
structure rb(X:Cx)(s:Lm)(fz:O4 (La×Obj)):Prop where
 cell:∀p∈fz,∃x,X.env.cells.lookup x=OP p.1
 nb:∀p∈fz,X.base.get? p.1=OQ
 nf:∀p∈fz,p.1 ∉ X.fs
 at_:∀p∈fz,s.heap.get? p.1=OP p.2
def rb.free{fz:O4 (La×Obj)}(z:rb X s fz)(I:Inv X OU σ H s):∀b∈fz.map (·.1),H b=none:=λb c=>by
 let(p,a,rfl):=dr.mp c;let(x,e):=z.cell p a;calc I.freeC x _ e
def rb.hok{fz:O4 (La×Obj)}(z:rb X s fz)(I:Inv X OU σ H s):HOk X.prog X.w (iE H fz) s.heap:=λb u e=>by
 by_cases a:b∈fz.map (·.1)
 .let(o,c,q):=gF (H:=H) a;rw[q]at e;cases e;exact tO<|z.at_ _ c
 .rw[cR a]at e;let out:∀{d:La}{u:HO},H d=OP u->iE H fz d=OP u:=λ{d u} q=>by
   rw[cR λm=>by rw[z.free I d m]at q;cases q];exact q
  calc(I.hok b u e).stay (λ_ _ _ q=>q) (λd q=>out q) λd f q=>out q
def rb.env0{fz:O4 (La×Obj)}(z:rb X s fz)(I:Inv X OU σ H s):qQ X.prog X.w X.K X.mg X.base X.A X.stack s (iE H fz):=by
 let e:=I.env0;refine(e.frames,e.mod,λb o q=>((e.bs b o q).1,?_,),e.bsz,e.funs,λb c=>?_,z.hok I,e.bare,)
 .rw[cR λm=>?_]
  .exact(e.bs b o q).2
  .let(p,a,rfl):=dr.mp m;rw[z.nb p a]at q;cases q
 .rw[cR λm=>?_]
  .exact e.frf b c
  .let(p,a,rfl):=dr.mp m;rcases bz.mp (I.stkSub _ c)with q|q
   .let(x,d):=z.cell p a;exact I.cne x _ d q
   .exact z.nf p a q
def Inv.cellNew(I:Inv X OU σ H s){x:Str}{c:La}(e:X.env.cells.lookup x=OP c)(d:X.fn x=OR):X.base.get? c=OQ/\c ∉ X.fs:=by
 let a:=I.ok.cab x c d e;calc(Lb.get?_none_of_le<|BK I.ok.bsz a,λq=>?_,);let(_,o,b,_):=I.ok.funs.mem q;calc OY (al b)<|Ho.mpr a
def rb.after{fz:O4 (La×Obj)}{Q:VK}{u:K5}{s':Lm}(z:rb X s fz)(I:Inv X OU σ H s)(h:CE X.stack X.prog X.w (iE H fz) s (λv k=>Q v (hideL k (fz.map (·.1)))) u s'):EP X OU σ Q u s':=by
 let(v,k,A,j,un,hok,r,q):=h;let fzs:Fzs k (fz.map (·.1)):=λc B=>by
  let(o,_,e):=gF (H:=H) B;exact(o,un.frzs c o _ e,)
 let out:∀{d:La}{u:HO},H d=OP u->d ∉ fz.map (·.1):=λ{d u} q m=>by rw[z.free I d m]at q;cases q
 refine(v,hideL k (fz.map (·.1)),I.call' (ch:=[]) A (λb o e n g f=>?_,λb o e n g f=>?_,λb o e n f=>?_,un.there,λb x e=>?_,λb o y e=>?_,λb ps e=>?_,) (hok.hideL fzs) j<|λb g=>OY g (by simp),r,q,)
 .by_cases a:b∈fz.map (·.1)
  .let(p,t,l):=gF (H:=H) a;let:=(hok b _<|un.frzs b p _ l).1;let i:=z.at_ _ t;rw[e]at i;cases i;exact this
  .exact un.keep b o e (by rw[cR a];exact n) g f
 .by_cases a:b∈fz.map (·.1)
  .let(p,t,l):=gF (H:=H) a;let:=(hok b _<|un.frzs b p _ l).1;let i:=z.at_ _ t;rw[e]at i;cases i;exact(_,this,)
  .exact un.slot b o e (by rw[cR a];exact n) g f
 .by_cases a:b∈fz.map (·.1)
  .exact kz a
  .rw[bQ a];exact un.free b o e (by rw[cR a];exact n) f
 .let a:=out e;rw[bQ a];exact un.tups b x (by rw[cR a];exact e)
 .let a:=out e;rw[bQ a];exact un.frzs b o y (by rw[cR a];exact e)
 .let a:=out e;rw[bQ a];calc un.tbls b ps (by rw[cR a];exact e)
section
variable{t:TA}
def  tZ(zs:O4 (Str×Nat×La))(sp:Sp)(t:TA):TE:=λσ H Q=>t σ H λc b=>∀a:O4 Obj,⇑a=⇑zs->(∀z∈zs,b z.2.2=OQ) ->
 (∀(j:Nat)(z:Str×Nat×La),zs[j]?=OP z->∃o w,a[j]?=OP o/\o.data=.cell w/\∀v,σ[z.2.1]?=OP (OP v)->∃u,w=OP u/\RelV v u) ->
 sp c (iE b ((zs.map (·.2.2)).zip a)) (λv d=>Q v (hideL d (zs.map (·.2.2)))) E0
def qo{OU:O4 (La×Obj)}{σ:St}{H:Hp}{s:Lm}(I:Inv X OU σ H s):∀(zs:O4 (Str×Nat×La)),(∀z∈zs,X.N[z.2.1]?=OP z.1/\(X.env.scope.names.lookup z.1=OP .cell\/X.env.scope.names.lookup z.1=OP .free)/\X.env.cells.lookup z.1=OP z.2.2/\(X.fn z.1=OR\/(X.base.get? z.2.2=OQ/\z.2.2 ∉ X.fs))) ->
  ∃f:O4 Obj,⇑f=⇑zs/\(∀(j:Nat)(z:Str×Nat×La),zs[j]?=OP z->∃o w,f[j]?=OP o/\s.heap.get? z.2.2=OP o/\o.data=.cell w/\∀v,σ[z.2.1]?=OP (OP v)->∃u,w=OP u/\RelV v u)
 | [],_=>([],Z,λj z e=>by simp at e,)
 |z :: zs,h=>by
  let(f,y,x):=qo I zs λq a=>h q<|fS _ a
  let(A,b,n,E):=h z dt;let(w,o,e,d):=I.cell _ _ n;refine(o :: f,by rw[fk,fk,y],λj q a=>?_,)
  match j,a with
  |0,a =>
   cases a;calc(o,w,Z,e,d,λv t=>?_,);let(m,D,B):=I.loc;let(u,r,l):=B _ _ v A t<|.inr b;rcases l with⟨g,_⟩|⟨_,c,k,C,p,i⟩
   .let g:X.env.scope.names.lookup z.1=OP .local:=g;rcases b with b|b <;> rw[b]at g <;> cases g
   .rw[n]at k;cases k;rw[e]at p;cases p;rw[d]at i;injection i with i;exact(u,i,r,)
  |j+1,a=>calc x j q (~~~a)
def DM{OU:O4 (La×Obj)}{σ:St}{H:Hp}{s:Lm}{zs:O4 (Str×Nat×La)}{g:O4 Obj}(I:Inv X OU σ H s)
  (hz:∀z∈zs,X.N[z.2.1]?=OP z.1/\(X.env.scope.names.lookup z.1=OP .cell\/X.env.scope.names.lookup z.1=OP .free)/\X.env.cells.lookup z.1=OP z.2.2/\(X.fn z.1=OR\/(X.base.get? z.2.2=OQ/\z.2.2 ∉ X.fs)))(n:⇑g=⇑zs)
  (k:∀(j:Nat)(z:Str×Nat×La),zs[j]?=OP z->∃o w,g[j]?=OP o/\s.heap.get? z.2.2=OP o/\o.data=.cell w/\∀v,σ[z.2.1]?=OP (OP v)->∃u,w=OP u/\RelV v u):rb X s ((zs.map (·.2.2)).zip g):=by
 let b:∀p∈(zs.map (·.2.2)).zip g,∃z∈zs,z.2.2=p.1/\s.heap.get? p.1=OP p.2:=λp a=>by
  let(j,d):=ik a;rw[qG,dy]at d;cases ez:zs[j]? with
  |none=>rw[ez]at d;cases d.1
  |some z =>
   rw[ez]at d;let i:z.2.2=p.1:=bm d.1;let(o,w,h,m,_):=k j z ez;rw[d.2]at h;cases h;exact(z,KP ez,i,i ▸ m,)
 let new:∀z∈zs,X.base.get? z.2.2=OQ/\z.2.2 ∉ X.fs:=λz c=>by
  let(_,_,l,f):=hz z c;rcases f with f|f
  .exact I.cellNew l f
  .exact f
 refine(λp a=>?_,λp a=>?_,λp a=>?_,λp a=>?_,)
 .let(z,c,e,_):=b p a;exact(z.1,e ▸ (hz z c).2.2.1,)
 .let(z,c,e,_):=b p a;rw[←e];exact(new z c).1
 .let(z,c,e,_):=b p a;rw[←e];exact(new z c).2
 .let(z,c,e,h):=b p a;calc h
def Ah{zs:O4 (Str×Nat×La)}(C:Callee X.prog X.w X.K X.mg X.base k x ps sp)(O:bK k X.A)(R:Gl X x)(S:PA X (e :: es) t)(hz:∀z∈zs,X.N[z.2.1]?=OP z.1/\(X.env.scope.names.lookup z.1=OP .cell\/X.env.scope.names.lookup z.1=OP .free)/\X.env.cells.lookup z.1=OP z.2.2/\(X.fn z.1=OR\/(X.base.get? z.2.2=OQ/\z.2.2 ∉ X.fs)))
  (v:(x == ("__debug__" : Str))=false:=by decide) (he:Ly (e :: es) X.env=(OS,eval e X.env) :: Ly es X.env:=by rfl)(l:(Lw pos<|Ly es X.env).any (·.1)=false:=by rfl):PE X (.Call (.Name x p) (e :: es) [] pos) (tZ zs sp t):=by
 let(f,fd,F,b,M,m):=C;intro OU s σ H Q I h;calc K4<|i0 I R m ?_ v;calc Op (h₀:=X.base) I.ok.mod.kin M (thn (S pos OU s σ H _ I h) λg i (J,V,a,r,q,)=>(a.kIn,?_,)) he l;let(B,G,E):=qo a zs hz;let Y:((zs.map (·.2.2)).zip B).map (·.1)=zs.map (·.2.2):=wh (by rw[aa];lia);let d:=DM a hz G E;let D:=q B G (λz P=>a.freeC z.1 _ (hz z P).2.2.1) λj z T=>let ⟨o,w,a1,_,a3,a4⟩:=E j z T;(o,w,a1,a3,a4,)
 let n:⇑g=⇑ps:=by rw[←⇑r];exact F.len _ _ _ _ D
 refine Mm (Mn (F.run X.A X.stack i _ (g,[],) g J _ E0 O (d.env0 a) (by have:=b i g a.kIn (by rw[jm];exact n);rw[jm]at this;exact this) r D) λL y c=>?_);cases L with
 |error e=>exact bZ OU σ V i e y a c
 |ok fl =>
  cases fl with
  |ret u =>
   let c:CE X.stack X.prog X.w _ i _ u y:=c;calc d.after a ?_;rw[Y];exact c
  |next=>exact kw c
  |brk=>exact kw c
  |cont=>calc kw c
end
open PySem.W
def  Ai(tabs:O4 (La×La))(H:Hp):Prop:=∀b,H b=OQ\/(∃o a,H b=OP (.frz o<|.lst a))\/(b∈tabs.map (·.2)/\H b=OP (.tbl #[]))
def yp{P:K7}{w:K6}{K:RD}{mg mb:Str->Option K5}{CX:CXT}{k:Nat}{fa a:La}{fd:Mi}{x:Str}{sp:Sp}{c:Lm}{vs:O4 K5}{L:O4 Int}{tabs:O4 (La×La)}
  (KX:K.In c.heap)(C:c.heap.Ns Lh mg)(hb:c.heap.Ns Li mb)(b0:∀x:Str,x ≠ "__name__" -> mb x=Lj x) (Hu:c.heap.NoLimit)(hg:c.gens = #[])
  (G:c.heap.get? a=OP { cls:=.type "list",data:=.seq vs.toArray }) (hi:IntsAre vs L)(hl:L.length<=Lc)(hr:bK k MQ)
  (M:TabsAt tabs c.heap)(a8:noTabs K=OR)(a9:∃Q A,mg "__builtins__" = ↑Q/\Q≠Li/\c.heap.get? Q=OP A/\A.cls=.type "module" /\ A.dict=OP Li/\A.data=.plain)
  (F:∀base:Lb,K.In base->base.Ns Lh mg->(∀q∈tabs,CodeHd base q.1 q.2/\base.BuiltinsAt mg q.2)->aK P w K mg base CX k fa fd [x] sp)(Fy:∀(s:Lm)(u:K5),Mj s fd ([u],[],) [(x,u)])
  (a6:∀H:Hp,Ai tabs H->SqL K H a (L.map RV)->(∀q∈tabs,H q.2=OP (.tbl #[]))->sp [.ref a] H (λv _=>v=.bl OR) λ_ _ _=>False)
  (c3:∀H e s',CX [] H c (λ_ _ _=>False) e s'->False) :
  Md (model P w) MQ (.call (.ref fa) ([.ref a],[],)) (λr s'=>r=.ok (.ret<|.bool OR)/\OldK c.heap s'.heap/\s'.os=c.os/\AllBare s'.gens) c:=by
 let rv:=pU hi;let Hv:=⇑hi;let E:∀b∈tabs.map (·.2),c.heap.get? b=OP (tabObj #[]):=λb f=>by
  let(q,i,rfl):=dr.mp f;exact(M q i).2
 let aT:a ∉ tabs.map (·.2):=λz=>by
  let e:=E a z;rw[G]at e;cases e
 let B:∀H:Hp,Ai tabs H->SqL K H a (L.map RV)->HOk P w H c.heap->(∀b,H b≠OQ->b=a\/b∈tabs.map (·.2))->(H a≠OQ->K.lookup a=OQ)->(∀q∈tabs,H q.2=OP (.tbl #[])) ->
   Md (model P w) MQ (.call (.ref fa) ([.ref a],[],)) (λr s'=>r=.ok (.ret<|.bool OR)/\OldK c.heap s'.heap/\s'.os=c.os/\AllBare s'.gens) c:=by
  intro H hO hS hok hA hK X;let mR:∀{b:La}{o:Obj},c.heap.get? b=OP o->H b=OQ->(mV c.heap H).get? b=OP o:=λe n=>zp e n
  let R:∀{b:La}{o:Obj},c.heap.get? b=OP o->(b=a->False)->o≠tabObj #[]->H b=none:=λ{b o} e n1 n2=>by
   cases q:H b with
   |none=>rfl
   |some u =>
    rcases hA b (by rw[q];simp)with z|z
    .exact(n1 z).elim
    .let:=E b z;rw[e]at this;exact OY (bm this) n2
  let a4:∀{b:La}{o:Obj}{es:Array Ma}{I:Nat},c.heap.get? b=OP o->o.data=.dict es I->H b=none:=λ{b o es I} e d=>R e (λz=>by
   subst z;rw[G]at e;cases e;let O:Data.seq vs.toArray _=Data.dict es I:=d;cases O) (λz=>by rw[z]at d;cases d)
  let S:∀{b:La}{o:Obj}{T:String},c.heap.get? b=OP o->o.cls=.type T->T ≠ "list" -> H b=none:=λ{b o T} e d c2=>R e (λz=>by
   subst z;rw[G]at e;cases e;let O:xL "list" = xL T:=d;injection O with O;exact c2 O.symm) (λz=>by rw[z]at d;cases d)
  let y:∀{b:La}{m:Str->Option K5},c.heap.Ns b m->(mV c.heap H).Ns b m:=λ{b m} (o,es,I,e,d,r,)=>(o,es,I,mR e<|a4 e d,d,r,)
  let Y:K.In (mV c.heap H):=λb o e=>mR (KX b o e) (by
   cases q:H b with
   |none=>rfl
   |some u =>
    rcases hA b (by rw[q];simp)with z|z
    .subst z;rw[hK (by rw[q];simp)]at e;cases e
    .let j:=E b z;rw[KX b o e]at j;cases j;let h2:=jP.mp a8 (b,tabObj #[])<|mem_of_lookupK e;exact OY (show OS=OR from h2) bi)
  let hM:Mod K mg (mV c.heap H):=(Y,y C,(mb,y hb,b0,),let ⟨mc,h1,h2⟩:=Hu;(mc,y h1,h2,),);let e0:qQ P w K mg (mV c.heap H) MQ [] c H:=(Z,hM,λb o e=>Bu e,Nat.le_of_eq<|xP _ _,trivial,λb hb=>OY (show b∈([]:O4 La)from hb) (by simp),hok,.of_eq hg,);let c1:∀q∈tabs,CodeHd (mV c.heap H) q.1 q.2/\(mV c.heap H).BuiltinsAt mg q.2:=λq i=>by
   let(o,a3,a1,tf,D,tg,a5,a0,tt,N,r1,r2):=(M q i).1;let(Q,A,b1,b2,J,b4,b5,b6):=a9;refine((o,a3,a1,tf,D,tg,a5,a0,tt,mR N<|S N r1 ⋯,r1,r2,),Q,A,b1,b2,λz=>?_,λz=>?_,mR J<|S J b4 ⋯,b4,b5,b6,)
   .let(o',es,I,e,d,_):=C;rw[z,e]at J;cases J;rw[d]at b6;cases b6
   .let j:=(M q i).2;rw[z,j]at J;cases J;cases b4
  refine Mn ((F _ Y (y C) c1).run MQ [] c H ([.ref a],[],) [.ref a] [.ref a] _ _ hr e0 (Fy c<|.ref a) (.cons Z .nil) (a6 H hO hS X)) λr s' h=>?_
  cases r with
  |error e=>exact(c3 H e s' h).elim
  |ok fl =>
   cases fl with
   |next=>exact kw h
   |brk=>exact kw h
   |cont=>exact kw h
   |ret u =>
    let(v,H',os,a2,un,Fz,r',q):=h;let q':v=.bl true:=q;subst q';obtain rfl:u=K5.bool true:=r';let kept:∀b o,b ∉ tabs.map (·.2)->c.heap.get? b=OP o->s'.heap.get? b=OP o:=λb o f e=>by
     cases q:H b with
     |none=>exact un.keep b o e q (by intro z;exact OY (show b∈([]:O4 La)from z) (by simp)) (by simp)
     |some u =>
      rcases hO b with z|⟨A,xs,z⟩|⟨z,_⟩
      .rw[q]at z;cases z
      .let z2:=un.frzs b A _ z;let(N,_):=hok b _ z;let(j,_):=Fz b _ z2;rw[e]at N;cases N;exact j
      .exact OY z f
    let l:∀b∈tabs.map (·.2),isCodeTable c.heap b/\∃g,s'.heap.get? b=OP (tabObj g):=λb f=>by
     let(qq,i,rfl):=dr.mp f;let(g,e):=un.tbls _ _<|X qq i;let j:s'.heap.get? qq.2=OP (tabObj<|#[]++g):=Fz _ _ e;exact(((M qq i).1.tab (M qq i).2).isCodeTable,_,j,)
    refine(Z,(λb o e=>?_,λb o e=>?_,),os,a2,)
    .by_cases f:b∈tabs.map (·.2)
     .let(ht,g,j):=l b f;let e3:=E b f;rw[e]at e3;cases e3;exact .inr<|.inl (ht,Z,#[],g,Z,by rw[Array.empty_append];exact j,)
     .exact .inl<|kept b o f e
    .by_cases f:b∈tabs.map (·.2)
     .let(_,g,j):=l b f;exact(_,j,)
     .exact(o,kept b o f e,)
 cases hk:K.lookup a with
 |some o =>
  let e:=KX a o hk;rw[G]at e;cases e;refine B (λb=>if b∈tabs.map (·.2)then OP (.tbl #[])else OQ) (λb=>?_) (.inr (_,vs.toArray,_,hk,Z,Z,Z,by rw[fI,Hv];exact hl,~~~rv,)) (λb u z=>?_) (λb z=>?_) (λz=>OY (OW aT) z) λq i=>OX<|dr.mpr (q,i,Z,)
  .by_cases f:b∈tabs.map (·.2)
   .exact .inr<|.inr (f,OX f,)
   .exact .inl<|OW f
  .by_cases f:b∈tabs.map (·.2)
   .let t:=(OX f).symm.trans z;cases t;exact E b f
   .let t:=(OW f).symm.trans z;cases t
  .by_cases f:b∈tabs.map (·.2)
   .exact .inr f
   .exact OY (OW f) z
 |none =>
  refine B (λb=>if b=a then OP (.frz { cls:=.type "list",data:=.seq vs.toArray } (.lst<|L.map RV))else if b∈tabs.map (·.2)then OP (.tbl #[])else OQ) (λb=>?_) (.inl<|.inr ({ cls:=.type "list",data:=.seq vs.toArray },OX Z,)) (λb u z=>?_) (λb z=>?_) (λ_=>hk) λq i=>?_
  .by_cases f:b=a
   .exact .inr<|.inl (_,_,OX f,)
   .by_cases p:b∈tabs.map (·.2)
    .exact .inr<|.inr (p,(OW f).trans<|OX p,)
    .exact .inl<|(OW f).trans<|OW p
  .by_cases f:b=a
   .let t:=(OX f).symm.trans z;cases t;subst f;exact(G,by rw[aa];exact hl,vs,_,rv,G,)
   .by_cases p:b∈tabs.map (·.2)
    .let t:=((OW f).trans<|OX p).symm.trans z;cases t;exact E b p
    .let t:=((OW f).trans<|OW p).symm.trans z;cases t
  .by_cases f:b=a
   .exact .inl f
   .by_cases p:b∈tabs.map (·.2)
    .exact .inr p
    .exact OY ((OW f).trans<|OW p) z
  .let hm:q.2∈tabs.map (·.2):=dr.mpr (q,i,Z,);let a7:q.2≠a:=λz=>aT<|z ▸ hm
   calc(OW a7).trans (OX hm)
def walk_ofT{l:W.OpenLaw}{n k:Nat}{q:K7}{i:O4 Str}{XP:(Str->Option K5)->Lb->Prop}{O:K6->Lb->Prop}{d:DefRec}{K:MP->RD}{CX:K6->CXT}{sp:K6->Sp}{x:Str}{tabs:MP->O4 (La×La)}{xs:O4 Str}
  (Z:l.most=OP n)(E:n<=Lc)(J:d.params.defaults=[])(X:bK k MQ)
  (hY:∀(w:K6)(h:Lb),O w h->(K w.params).In h)(D:∀p:MP,noTabs (K p)=OR)
  (B:∀y∈xs,∃d',(recsOf q).find? (λe=>e.name == y)=OP d')(Q:∀p:MP,∀t∈tabs p,∃y∈xs,tabIn (K p) y=OP t)
  (F:∀(w:K6)(mg:Str->Option K5)(z:La)(h:Lb),(K w.params).In h->h.Ns Lh mg->mg d.name=↑z ->
   ∃fd:Mi,(∀(s:Lm)(u:K5),Mj s fd ([u],[],) [(x,u)]) /\
    ∀base:Lb,(K w.params).In base->base.Ns Lh mg->(∀q∈tabs w.params,CodeHd base q.1 q.2/\base.BuiltinsAt mg q.2)->aK l.prog w (K w.params) mg base (CX w) k z fd [x] (sp w))
  (C:∀(w:K6)(H:Hp)(a:La)(r:O4 Int),⇑r<=n->Ai (tabs w.params) H->SqL (K w.params) H a (r.map RV)->(∀q∈tabs w.params,H q.2=OP (.tbl #[]))->sp w [.ref a] H (λv _=>v=.bl OR) λ_ _ _=>False)
  (N:∀(w:K6)(H:Hp)(s:Lm)(e:K5)(s':Lm),CX w [] H s (λ_ _ _=>False) e s'->False) :
  W.WalkO q i XP O l.row.toRowW d [] (λf vs=>PySem.call f vs):=by
 refine Att.attach_call Z J λw P m mg mb z o pm cd a1 a vs r G Y ho hd a0 I DF j c hg=>?_
 let A:=hY w _ Y;let(fd,hb,hF):=F w mg z _ A G.T.g I;refine yp A G.T.g G.T.b G.T.builtins G.T.nolimit hg DF j (BK c E) X (tabs:=tabs w.params) (λt S=>?_) (D w.params) G.T.bmain hF hb (λH hO hS M=>C w H a r c hO hS M) λH e s'=>N w H m e s'
 let(y,R,e):=Q w.params t S;let(d',L):=B y R;calc tab_of G.T A L e
def Fun.okT{x qual:Str}{st:Lz}{f c:La}{fd:Mi}{N ps:O4 Str}{k:Nat}{sp:Sp}(F:Fun K x qual st f fd)(b:fd.code=.ref c)(S:av N ps (ao st))(d:∀vs H Q E,sp vs H Q E->⇑vs=⇑ps)
  (m:∀(A:Ll)(a:O4 Env)(s:Lm)(H:Hp)(vs:O4 V)(Q:VK)(E:XK),bK k (A.deeper<|envOfC qual (ao st) ↥s f<|.ref c)->sp vs H Q E ->
   ∃t,PSs (cw CX0 P w K mg base N qual (ao st) f (.ref c) A a s H E).nox (bX st) t/\t { nx:=λ_ H'=>Q .non H',rt:=Q } (start N vs) H):aK P w K mg base CX0 (k+1) f fd ps sp:=by
 let(u,r,kV,o,p,y,i,v,n,rfl,j,g):=F.ex;let b:i=.ref c:=b;subst b;refine zK j g S d λA a s H vs Q E l e=>?_
 let(t,h,q):=m A a s H vs Q E l e;calc(t,h.nox,q,)
def  hX(H:Hp)(f c':La)(b:Obj)(qual:Str)(cl:O4 (Str×La))(ws:O4 (Str×V)):Prop:=H f=OP (.frz b TTh)/\(∃a,H c'=OP (.frz a TTh)/\tQ a qual)/\fG H cl ws
def hX.same{H H':Hp}{f c':La}{a:Obj}{qual:Str}{cl:O4 (Str×La)}{ws:O4 (Str×V)}(h:hX H f c' a qual cl ws)(s:au H H'):hX H' f c' a qual cl ws :=
 (s _ _ h.1,let ⟨oc,e,q⟩:=h.2.1;(oc,s _ _ e,q,),h.2.2.same s,)
def tR{zs:O4 (Str×Nat×La)}{f:O4 Obj}{H:Hp}{σ:St}{cl:O4 (Str×La)}{ws:O4 (Str×V)}(K:⇑f=⇑zs)(s:(zs.map (·.2.2)).Nodup)
  (t:∀(j:Nat)(z:Str×Nat×La),zs[j]?=OP z->∃o w,f[j]?=OP o/\o.data=.cell w/\∀v,σ[z.2.1]?=OP (OP v)->∃u,w=OP u/\RelV v u)
  (C:∀c∈cl.map (·.2),∃z∈zs,z.2.2=c)(B:∀(x:Str)(v:V),ws.lookup x=OP v->∃z∈zs,cl.lookup x=OP z.2.2/\σ[z.2.1]?=OP (OP v)):fG (iE H ((zs.map (·.2.2)).zip f)) cl ws:=by
 let h:∀z∈zs,∃o w,iE H ((zs.map (·.2.2)).zip f) z.2.2=OP (.frz o TTh)/\o.data=.cell w/\∀v,σ[z.2.1]?=OP (OP v)->∃u,w=OP u/\RelV v u:=λz g=>by
  let(j,p):=ik g;let(o,w,m,l,G):=t j z p;let J:((zs.map (·.2.2)).zip f).map (·.1)=zs.map (·.2.2):=wh (by rw[aa];lia);let(q,y,F):=gF (H:=H) (fz:=(zs.map (·.2.2)).zip f) (b:=z.2.2) (by rw[J];exact dr.mpr (z,g,Z,));let(i,k):=ik y;rw[qG]at k;let D:(zs.map (·.2.2))[j]?=OP z.2.2:=by rw[dy,p];rfl
  let(M,I):=KO.mp k.1;let(L,b2):=KO.mp D;let n:i=j:=(zk s).mp<|I.trans b2.symm;subst n;let E:o=q:=bm<|m.symm.trans k.2;subst E;exact(o,w,F,l,G,)
 refine(λc A=>?_,λx v e=>?_,)
 .let(z,g,rfl):=C c A;let(o,w,a,b,_):=h z g;exact(o,w,a,b,)
 .let(z,g,m,l):=B x v e;let(o,w,a,b,d):=h z g;let(u,rfl,r):=d v l;calc(z.2.2,o,u,m,a,b,r,)
def vQ{a:Ln}{cl:O4 (Str×La)}(h:(a.names.all λy=>match y.2 with | .free=>(cl.map (·.1)).any (y.1 == ·)|_=>OR)=OR):∀y∈a.names,y.2=.free->∃c,cl.lookup y.1=OP c:=λy d e=>by
 let:=jP.mp h y d;rw[e]at this;let(z,b,g):=zl.mp this;let(p,f,rfl):=dr.mp b;cases q:cl.lookup y.1 with
 |some c=>exact(c,Z,)
 |none =>
  let:=Pc.mp q p f;simp[bne,g]at this
def rg{N:O4 Str}{a:Ln}{ws:O4 (Str×V)}(h:((ws.map (·.1)).all λx=>match a.names.lookup x with|some .free=>OR|_=>OS)=OR):∀y∈N,∀v,ws.lookup y=OP v->a.names.lookup y=OP .free:=λy _ v e=>by
 let:=jP.mp h y<|dr.mpr ((y,v),mem_of_lookup e,Z,);split at this
 .assumption
 .cases this
def tab_mk{K:Frag}{x qual:Str}{st:Lz}{f c P:La}{g kV doc pm m:K5}{d n:Option La}{b:Array (Option K5)}{j:K5}{i:Option La}{vs:Array K5}{h:Array (Option K5)}(a:nsIn K Lh x=OP ↑f)
  (l:K.lookup f=OP (g,d,.func<|fnOf x qual (dH st) (bX st) (ao st) .none kV doc pm n (.ref c) m,b,))(k:K.lookup c=OP (j,i,.fields vs,h,))(e:vs[11]?=↑P):tabIn K x=OP (c,P):=by
 unfold tabIn;rw[a];simp only[l];show(match K.lookup c with|some (_,_,.fields vs,_,)=>(match (vs[11]?:Option K5)with|some (.ref P)=>OP (c,P)|_=>OQ)|_=>OQ)=OP (c,P);rw[k];simp only[e]
section
variable{zs:O4 (Str×Nat×La)}{os:O4 Obj}{H2:Hp}
def nN(a:⇑os=⇑zs):((zs.map (·.2.2)).zip os).map (·.1)=zs.map (·.2.2):=wh (by rw[aa];lia)
def nO(c:⇑os=⇑zs)(d:∀z∈zs,H z.2.2=OQ):au H (iE H ((zs.map (·.2.2)).zip os)):=λb u e=>by
 rw[cR λm=>?_]
 .exact e
 .rw[nN c]at m;let(z,a,rfl):=dr.mp m;rw[d z a]at e;cases e
def hide_same(d:⇑os=⇑zs)(a:∀z∈zs,H z.2.2=OQ)(s:au (iE H ((zs.map (·.2.2)).zip os)) H2):au H (hideL H2 (zs.map (·.2.2))):=λb u e=>by
 rw[bQ λm=>?_]
 .exact s _ _<|nO d a _ _ e
 .let(z,c,rfl):=dr.mp m;rw[a z c]at e;cases e
end
section
variable{t:TA}
end
abbrev T3a(α:Type):=Int×Int×α
def  Fm(L:Type):Nat->Type
 |0=>L
 |n+1=>List<|Int×Int×Fm L n
def  Fm.dec{L:Type} [d:DecidableEq L]:(n:Nat)->DecidableEq (Fm L n)
 |0=>d
 |n+1=>have:=Fm.dec (L:=L) n;(inferInstance:DecidableEq (List<|Int×Int×Fm L n))
instance {L:Type} [DecidableEq L] (n:Nat):DecidableEq (Fm L n):=Fm.dec n
section
variable{α:Type}
def  de [DecidableEq α] (f:O4 (T3a α))(t:T3a α):O4 (T3a α):=match f.getLast? with
 |some l=>if l.2.2=t.2.2 then f.dropLast++[(l.1,t.2.1,t.2.2)]else f++[t]
 |none=>f++[t]
def  lH [DecidableEq α] (ts:O4 (T3a α)):O4 (T3a α):=ts.foldl de []
def  Ch3:O4 (T3a α)->Int->Int->Prop
 | [],lo,hi=>lo=hi+1
 |t :: r,lo,hi=>t.1=lo/\lo<=t.2.1/\Ch3 r (t.2.1+1) hi
def Ch3.snoc{t:T3a α}:∀{f:O4 (T3a α)}{lo mid:Int},Ch3 f lo mid->t.1=mid+1->t.1<=t.2.1->Ch3 (f++[t]) lo t.2.1
 | [],lo,mid,h,e,l=>(by rw[e];exact h.symm,by have:lo=mid+1:=h;lia,Z,)
 |u :: f,lo,mid,h,e,l=>(h.1,h.2.1,Ch3.snoc (f:=f) h.2.2 e l,)
def Ch3.unsnoc{t:T3a α}:∀{f:O4 (T3a α)}{lo hi:Int},Ch3 (f++[t]) lo hi->t.2.1=hi/\t.1<=t.2.1/\Ch3 f lo (t.1-1)
 | [],lo,hi,h=>(by have:t.2.1+1=hi+1:=h.2.2;lia,by have:=h.1;let:=h.2.1;lia,by show lo=t.1-1+1;let:=h.1;lia,)
 |u :: f,lo,hi,h=>let ⟨a,b,c⟩:=Ch3.unsnoc (f:=f) h.2.2;(a,b,h.1,h.2.1,c,)
def  Nbx(ys:O4 α):Prop:=∀(i:Nat)(a b:α),ys[i]?=OP a->ys[i+1]?=OP b->a≠b
def Nbx.snoc{ys:O4 α}{y:α}(h:Nbx ys)(e:∀l,ys.getLast?=OP l->l≠y):Nbx (ys++[y]):=λi a b d c=>by
 let hi:=(KO.mp c).1;simp only[br,gR]at hi;by_cases g:i+1<⇑ys
 .rw[fo ∅]at d;rw[fo g]at c;exact h i a b d c
 .let f:i+1=⇑ys:=∅
  rw[fo ∅]at d;rw[f]at c;simp at c;subst c;calc e a ?_;rw[List.getLast?_eq_getElem?];rw[show ⇑ys-1=i by lia];calc d
def  vAt(f:O4 (T3a α))(c:Int):Option α:=(f.find? λt=>decide<|c<=t.2.1).map (·.2.2)
def ja(f g:O4 (T3a α))(c:Int):vAt (f++g) c=(vAt f c).or (vAt g c):=by
 unfold vAt;rw[List.find?_append];cases f.find? _ <;> rfl
def rh(t:T3a α)(c:Int):vAt [t] c=if c<=t.2.1 then OP t.2.2 else none:=by
 unfold vAt;by_cases h:c<=t.2.1 <;> simp[h]
structure yr(ts f:O4 (T3a α))(lo hi:Int):Prop where
 ch:Ch3 f lo hi
 nb:Nbx (f.map (·.2.2))
 va:∀c,vAt f c=vAt ts c
 mem:∀t∈f,∃t'∈ts,t'.2.2=t.2.2
 ne:ts≠[]->f≠[]
def yr.step [DecidableEq α] {ts f:O4 (T3a α)}{lo mid:Int}{t:T3a α}(h:yr ts f lo mid)(e:t.1=mid+1)(l:t.1<=t.2.1):yr (ts++[t]) (de f t) lo t.2.1:=by
 rcases wU f with j|⟨g,u,j⟩
 .subst j;let:de [] t=[t]:=rfl;rw[this];refine(Ch3.snoc (f:=[]) h.ch e l,λi a b y p=>by simp at p,λc=>?_,λv d=>(t,by simp,by rw[dV.mp d],),λ_=>by simp,);rw[ja,←h.va c];rfl
 .rw[yl]at j;subst j;let o:=h.ch.unsnoc;let s:(g++[u]).getLast?=OP u:=by simp
  unfold de;rw[s];simp only;by_cases q:u.2.2=t.2.2
  .rw[OX q];let w:(g++[u]).dropLast=g:=by simp
   rw[w];let r:(g++[((u.1,t.2.1,t.2.2):T3a α)]).map (·.2.2)=(g++[u]).map (·.2.2):=by simp[q]
   refine(Ch3.snoc (t:=((u.1,t.2.1,t.2.2):T3a α)) o.2.2 (by show u.1=u.1-1+1;lia) (by show u.1<=t.2.1;lia),by rw[r];exact h.nb,λc=>?_,λv d=>?_,λ_=>by simp,)
   .rw[ja ts,←h.va c,ja,ja,rh,rh,rh];show(vAt g c).or (if c<=t.2.1 then OP t.2.2 else OQ)=((vAt g c).or (if c<=u.2.1 then OP u.2.2 else OQ)).or (if c<=t.2.1 then OP t.2.2 else OQ);cases vAt g c with
    |some x=>rfl
    |none =>
     by_cases n:c<=u.2.1
     .rw[OX n,OX ∅,q];rfl
     .rw[OW n];rfl
   .rcases gw.mp d with d|d
    .let(k,a,b):=h.mem v<|jS _ d;exact(k,jS _ a,b,)
    .rw[dV.mp d];exact(t,by simp,Z,)
  .rw[OW q];refine(h.ch.snoc e l,?_,λc=>?_,λv d=>?_,λ_=>by simp,)
   .rw[fq];refine Nbx.snoc h.nb λz m=>?_
    rw[fq]at m;simp at m;rw[←m];exact q
   .rw[ja,ja ts,h.va c]
   .rcases gw.mp d with d|d
    .let(k,a,b):=h.mem v d;exact(k,jS _ a,b,)
    .rw[dV.mp d];calc(t,by simp,Z,)
def tS [DecidableEq α]:∀{r ts f:O4 (T3a α)}{lo mid hi:Int},yr ts f lo mid->Ch3 r (mid+1) hi->yr (ts++r) (r.foldl de f) lo hi
 | [],ts,f,lo,mid,hi,h,c=>by
  let:mid=hi:=by have:mid+1=hi+1:=c;lia
  subst this;rw[jm];exact h
 |t :: r,ts,f,lo,mid,hi,h,c=>by
  let:=tS (r:=r) (h.step c.1 (by have:=c.1;let:=c.2.1;lia)) c.2.2;rw[mz]at this;calc this
def iF [DecidableEq α] {ts:O4 (T3a α)}{lo hi:Int}(h:Ch3 ts lo hi):yr ts (lH ts) lo hi :=
 tS (ts:=[]) (f:=[]) (mid:=lo-1) (by show lo=lo-1+1;lia,λi a b e d=>by simp at d,λ_=>Z,λt c=>by simp at c,λz=>OY Z z,) (by rw[show lo-1+1=lo by lia];exact h)
def Ch3.at:∀{f:O4 (T3a α)}{lo hi c:Int},Ch3 f lo hi->lo<=c->c<=hi->∃(j:Nat)(t:T3a α),f[j]?=OP t/\t.1<=c/\c<=t.2.1/\(∀(i:Nat)(u:T3a α),i<j->f[i]?=OP u->u.2.1<c)/\vAt f c=OP t.2.2
 | [],lo,hi,c,h,h1,h2=>by have:lo=hi+1:=h;lia
 |t :: r,lo,hi,c,h,h1,h2=>by
  by_cases q:c<=t.2.1
  .exact(0,t,Z,by have:=h.1;lia,q,λi u hi=>OY hi<|EB i,by unfold vAt;rw[mD (~~~q)];rfl,)
  .let(j,u,a,b,d,e,v):=Ch3.at (f:=r) h.2.2 (c:=c) ∅ h2;refine(j+1,u,~~~a,b,d,λi w hi g=>?_,by unfold vAt at v⊢;rw[nt (~~~q)];exact v,)
   match i,g with
   |0,g=>cases g;lia
   |i+1,g=>calc e i w ∅ (~~~g)
end
def  lay{L:Type} [DecidableEq L] (g:O4 Int->L):(cols:O4 (List<|Int×Int))->O4 Int->Fm L ⇑cols
 | [],ah=>g ah
 |c :: cs,ah=>lH<|c.map λp=>((p.1,p.2,lay g cs<|ah++[p.1]):T3a (Fm L ⇑cs))
def  ShS{α:Type}(S:α->O4 (Int×Int)->Prop)(f:O4 (T3a α))(ps:O4 (Int×Int)):Prop:=∃p r,ps=p :: r/\f≠[]/\Ch3 f p.1 p.2/\Nbx (f.map (·.2.2))/\∀t∈f,S t.2.2 r
def  fT{L:Type}:(n:Nat)->Fm L n->O4 (Int×Int)->Prop
 |0,_,ps=>ps=[]
 |n+1,f,ps=>ShS (fT n) f ps
def  BO:O4 (Int×Int)->Int->Int->Prop
 | [],lo,hi=>lo=hi+1
 |p :: r,lo,hi=>p.1=lo/\lo<=p.2/\BO r (p.2+1) hi
def BP{α:Type}(F:Int×Int->α):∀{c:O4 (Int×Int)}{lo hi:Int},BO c lo hi->Ch3 (c.map λp=>((p.1,p.2,F p):T3a α)) lo hi
 | [],lo,hi,h=>h
 |p :: r,lo,hi,h=>(h.1,h.2.1,BP F h.2.2,)
inductive iG:O4 (List<|Int×Int)->O4 (Int×Int)->Prop
 |nil:iG [] []
 |cons {c:O4 (Int×Int)}{cs:O4 (List<|Int×Int)}{p:Int×Int}{ps:O4 (Int×Int)}:c≠[]->BO c p.1 p.2->iG cs ps->iG (c :: cs) (p :: ps)
def rj{L:Type} [DecidableEq L] {g:O4 Int->L}{a:O4 (List<|Int×Int)}{ps:O4 (Int×Int)}(h:iG a ps):∀b:O4 Int,fT ⇑a (lay g a b) ps:=by
 induction h with
 |nil=>intro b;exact(rfl:([]:O4 (Int×Int))=[])
 | @cons c cs p ps hne hc _ ih =>
  intro b;let k:=iF<|BP (λq=>lay g cs<|b++[q.1]) hc;calc(p,ps,Z,k.ne<|~~~hne,k.ch,k.nb,λt d=>?_,);let(i,f,e):=k.mem t d;let(q,_,rfl):=dr.mp f;rw[←e];calc ih _
def  cA(a:O4 (Int×Int))(c:Int):Int:=((a.find? λp=>decide<|c<=p.2).map (·.1)).getD 0
def xj{α:Type}(F:Int×Int->α)(c:Int):∀a:O4 (Int×Int),vAt (a.map λp=>((p.1,p.2,F p):T3a α)) c=(a.find? λp=>decide<|c<=p.2).map F
 | []=>rfl
 |p :: r=>by
  unfold vAt;rw[jl];by_cases q:c<=p.2
  .rw[mD (~~~q),mD (~~~q)];rfl
  .rw[nt (~~~q),nt (~~~q)];calc xj F c r
inductive Tel{L:Type}:(n:Nat)->Fm L n->O4 Int->L->Prop
 |nil (x:L):Tel 0 x [] x
 |cons {n:Nat}{f:O4 (T3a<|Fm L n)}{c:Int}{cs:O4 Int}{x:L}{j:Nat}{t:T3a (Fm L n)}:f[j]?=OP t->c<=t.2.1->(∀(i:Nat)(u:T3a (Fm L n)),i<j->f[i]?=OP u->u.2.1<c)->Tel n t.2.2 cs x->Tel (n+1) f (c :: cs) x
inductive InB:O4 Int->O4 (Int×Int)->Prop
 |nil:InB [] []
 |cons {c:Int}{cs:O4 Int}{p:Int×Int}{ps:O4 (Int×Int)}:p.1<=c->c<=p.2->InB cs ps->InB (c :: cs) (p :: ps)
def rk{L:Type} [DecidableEq L] {g:O4 Int->L}{a:O4 (List<|Int×Int)}{ps:O4 (Int×Int)}(h:iG a ps):∀(d b:O4 Int),InB b ps->Tel ⇑a (lay g a d) b (g<|d++db cA a b):=by
 induction h with
 |nil=>intro d b e;cases e;rw[List.zipWith_nil_left,jm];exact .nil _
 | @cons c a p ps hne hc _ ih =>
  intro d b e;cases e with
  | @cons x b _ _ h1 h2 e =>
   let k:=iF<|BP (λq=>lay g a<|d++[q.1]) hc;let(j,t,o,r,n,m,f):=k.ch.at h1 h2;rw[k.va,xj]at f;cases e6:c.find? (λp=>decide<|x<=p.2) with
   |none=>rw[e6]at f;cases f
   |some q =>
    rw[e6]at f;let l:lay g a (d++[q.1])=t.2.2:=bm f;let i:cA c x=q.1:=by unfold cA;rw[e6];rfl
    calc .cons o n m ?_;rw[←l,List.zipWith_cons_cons,i];let:=ih (d++[q.1]) b e;rw[mz]at this;calc this
def  FmL{α:Type}(R:α->V->Prop)(H:Hp)(f:O4 (T3a α))(xs:O4 V):Prop:=⇑xs=⇑f/\∀(i:Nat)(t:T3a α),f[i]?=OP t->∃(r:La)(u:V),xs[i]?=↑r/\H r=OP (.tup [.int t.1,.int t.2.1,u])/\R t.2.2 u
def  lI(K:RD)(H:Hp):Prop:=∀(r:La)(b a:O4 V),SqT K H r b->SqT K H r a->b=a
inductive dP(K:RD)(H:Hp):Nat->V->V->Bool->Prop where
 |of {n:Nat}{x y:V}{b:Bool}(h:DEq K H n x y b):dP K H n x y b
 |ti {n:Nat}{a:La}{xs:O4 V}{i:Int}(h:SqT K H a xs):dP K H n (.ref a) (.int i) OS
 |it {n:Nat}{a:La}{xs:O4 V}{i:Int}(h:SqT K H a xs):dP K H n (.int i) (.ref a) OS
 |tup {n:Nat}{a b:La}{xs ys:O4 V}{f:Nat->Bool}(ne:a≠b)(ha:SqT K H a xs)(hb:SqT K H b ys)(h:∀(j:Nat)(x y:V),xs[j]?=OP x->ys[j]?=OP y->dP K H n x y (f j)):dP K H (n+1) (.ref a) (.ref b) ((bn<|min ⇑xs ⇑ys).all f && ⇑xs == ⇑ys)
def dP.mono{K:RD}{H:Hp}{n m:Nat}{x y:V}{b:Bool}(e:dP K H n x y b)(h:n<=m):dP K H m x y b:=by
 induction e generalizing m with
 |of e=>exact .of (e.mono h)
 |ti e=>exact .ti e
 |it e=>exact .it e
 |tup a f d _ c =>
  let(m,rfl):∃k,m=k+1:=(m-1,∅,);calc .tup a f d λj x y i g=>c j x y i g ∅
def Hw(I:Inv X OU σ H s):lI X.K H:=λr p m l k=>by
 let(c,h,j,_):=I.tuple l;let(a,f,i,_):=I.tuple k;let(o,e,_,n,d):=j;let(q,g,_,t,b):=i;rw[e]at g;cases g;rw[d]at b;injection b with b;let:c=a:= ~~~b
 rw[←this]at f;calc Vals.inj h f
def dP.at{n:Nat}{x y:V}{b:Bool}(e:dP X.K H n x y b)(I:Inv X OU σ H s):∀{A:Ll}{u v:K5},A.units+n<Mg->RelV x u->RelV y v->Qe A s u v b:=by
 induction e with
 |of e=>intro A u v l k g;exact e.at I l k g
 | @ti n a xs i h =>
  intro A u v l k g;cases (show u=bv a from k);let(t,rfl):=g;let(c,r,p,_):=I.tuple h;exact SeqAt.EqAt.tuple_int i t (show s.heap.IsTuple a c.toArray from p) ∅
 | @it n a xs i h =>
  intro A u v l k g;let(t,rfl):=k;cases (show v=bv a from g);let(c,r,p,_):=I.tuple h;exact SeqAt.EqAt.int_tuple i t (show s.heap.IsTuple a c.toArray from p) ∅
 | @tup n a b xs ys f ne ha hb h ih =>
  intro A u v l k g;cases (show u=bv a from k);cases (show v=bv b from g);let(c,r,p,_):=I.tuple ha;let(d,m,z,_):=I.tuple hb;let G:=⇑r;let F:=⇑m;let o:=QC (A:=A) (e:=f) (show s.heap.IsTuple a c.toArray from p) (show s.heap.IsTuple b d.toArray from z) ∅ (λj C B=>by
   let(x,E,w):=iA r C;let(y,D,q):=iA m B;exact ih j x y E D (by show A.units+1+n<Mg;lia) w q)
  rw[show c.toArray.size=⇑xs by simp only[fI];lia,show d.toArray.size=⇑ys by simp only[fI];lia]at o;calc L2 ne o
inductive tT(K:RD)(neg:Bool)(x:V)(y:V)(H:Hp)(Q:VK):Prop
 |tt (a b:La)(xs ys:O4 V)(_:x=.ref a)(_:y=.ref b)(_:SqT K H a xs)(_:SqT K H b ys)(f:Nat->Bool)(_:(∀(j:Nat)(x y:V),xs[j]?=OP x->ys[j]?=OP y->dP K H 60 x y (f j)))(_:Q (.bl (if neg then !((bn<|min ⇑xs ⇑ys).all f && ⇑xs == ⇑ys) else(bn<|min ⇑xs ⇑ys).all f && ⇑xs == ⇑ys)) H):tT K neg x y H Q
 |ti (a:La)(xs:O4 V)(i:Int)(_:x=.ref a)(_:y=.int i)(_:SqT K H a xs)(_:Q (.bl neg) H):tT K neg x y H Q
 |it (a:La)(xs:O4 V)(i:Int)(_:x=.int i)(_:y=.ref a)(_:SqT K H a xs)(_:Q (.bl neg) H):tT K neg x y H Q
def Aj{OU:O4 (La×Obj)}{σ:St}{H:Hp}{s:Lm}{A:Ll}{xs ys:O4 V}{a its':O4 K5}{f:Nat->Bool}(I:Inv X OU σ H s)(h:A.units+60<Mg)(r:Vals xs a)(d:Vals ys its')
  (hf:∀(j:Nat)(x y:V),xs[j]?=OP x->ys[j]?=OP y->dP X.K H 60 x y (f j)):∀j (c:j<a.toArray.size)(b:j<its'.toArray.size),Qe A s a.toArray[j] its'.toArray[j] (f j):=λj c b=>by
 let(x,k,g):=iA r c;let(y,i,e):=iA d b;calc(hf j x y k i).at I h g e
def DO{k:Nat}(E:bK k X.A):OpR X (L6 .Eq) (tT X.K OS):=by
 intro OU s σ H x y v u Q I n m h;let L:=E.units;cases h with
 |tt a b o J j g d G f F q =>
  subst j g;cases (show v=bv a from n);cases (show u=bv b from m);let(c,r,p,_):=I.tuple d;let(l,z,B,_):=I.tuple G;let D:=⇑r;let C:=⇑z;refine SeqAt.eq_tupleAt (e:=f) (show s.heap.IsTuple a c.toArray from p) (show s.heap.IsTuple b l.toArray from B) ∅ (Aj I (by show X.A.units+1+60<Mg;lia) r z F) (.bl _,H,I,Z,?_,);simp only[fI];rw[←D,←C];exact q
 |ti a o i j g d q =>
  subst j g;cases (show v=bv a from n);let(t,rfl):=m;let(c,r,p,_):=I.tuple d;exact SeqAt.RcAt.tuple_int i t (show s.heap.IsTuple a c.toArray from p) ∅ X.prog X.w X.xe _ (.bl _,H,I,Z,q,)
 |it a o i j g d q =>
  subst j g;let(t,rfl):=n;cases (show u=bv a from m);let(c,r,p,_):=I.tuple d;calc SeqAt.RcAt.int_tuple i t (show s.heap.IsTuple a c.toArray from p) ∅ X.prog X.w X.xe _ (.bl _,H,I,Z,q,)
def  rFm(K:RD):R2:=λx y H Q=>lI K H->rEq x y H Q\/tT K OS x y H Q
structure Lfp(K:RD)(L:Type) [DecidableEq L] where
 R:Hp->L->V->Prop
 mono:∀{H H':Hp}{x:L}{v:V},bD H H'->R H x v->R H' x v
 inj:∀{H:Hp}{x y:L}{v:V},lI K H->R H x v->R H y v->x=y
 deq:∀{H:Hp}{x y:L}{u v:V},lI K H->R H x u->R H y v->dP K H 2 u v (OT<|x=y)
 eq:∀{H:Hp}{x y:L}{u v:V}{Q:VK},lI K H->R H x u->R H y v->Q (.bl<|OT<|x=y) H->rEq u v H Q\/tT K OS u v H Q
 ne:∀{H:Hp}{x y:L}{u v:V}{Q:VK},lI K H->R H x u->R H y v->Q (.bl<|!OT (x=y)) H->rNe u v H Q\/tT K OR u v H Q
def  FmV{K:RD}{L:Type} [DecidableEq L] (A:Lfp K L)(H:Hp):(n:Nat)->Fm L n->V->Prop
 |0,x,v=>A.R H x v
 |n+1,f,v=>∃(a:La)(xs:O4 V),v=.ref a/\H a=OP (.tup xs)/\FmL (FmV A H n) H f xs
def FmL.mono{α:Type}{R d:α->V->Prop}{H H':Hp}{f:O4 (T3a α)}{xs:O4 V}(h:FmL R H f xs)(k:∀x u,R x u->d x u)(s:bD H H'):FmL d H' f xs:=(h.1,λi t e=>by
 let(r,u,a,b,c):=h.2 i t e;exact(r,u,a,s _ _ b,k _ _ c,),)
def FmV.mono{K:RD}{L:Type} [DecidableEq L] {A:Lfp K L}{H H':Hp}(s:bD H H'):∀{n:Nat}{f:Fm L n}{v:V},FmV A H n f v->FmV A H' n f v
 |0,_,_,h=>A.mono s h
 |n+1,_,_,h=>by
  let(a,xs,d,c,b):=h;calc(a,xs,d,s _ _ c,b.mono (λ_ _ q=>FmV.mono s q) s,)
def FmL.nil{α:Type}{R:α->V->Prop}{H:Hp}:FmL R H [] []:=(Z,λi t e=>by simp at e,)
def FmL.snoc{α:Type}{R:α->V->Prop}{H:Hp}{f:O4 (T3a α)}{xs:O4 V}{t:T3a α}{r:La}{u:V}(h:FmL R H f xs)(k:H r=OP (.tup [.int t.1,.int t.2.1,u]))(q:R t.2.2 u):FmL R H (f++[t]) (xs++[.ref r]):=by
 refine(by simp[h.1],λi v e=>?_,);by_cases hi:i<⇑f
 .rw[fo hi]at e;let(j,g,a,b,c):=h.2 i v e;exact(j,g,by rw[fo (by rw[h.1];exact hi)];exact a,b,c,)
 .let d:i=⇑f:=by
   let:=(KO.mp e).1;simp at this;lia
  subst d;simp at e;subst e;calc(r,u,by rw[←h.1];simp,k,q,)
def FmL.init{α:Type}{R:α->V->Prop}{H:Hp}{f:O4 (T3a α)}{xs:O4 V}{t:T3a α}(h:FmL R H (f++[t]) xs):∃(ys:O4 V)(r:La)(u:V),xs=ys++[.ref r]/\FmL R H f ys/\H r=OP (.tup [.int t.1,.int t.2.1,u])/\R t.2.2 u:=by
 let(r,u,a,b,c):=h.2 ⇑f t (by simp);let g:=h.1;rw[br,gR]at g;rcases wU xs with d|⟨ys,y,d⟩
 .subst d;simp at g
 .rw[yl]at d;subst d;let j:⇑ys=⇑f:= ~~~g
  rw[←j]at a;simp at a;subst a;calc(ys,r,u,Z,(j,λi v e=>?_,),b,c,);let hi:=(KO.mp e).1;let(m,l,k,o,n):=h.2 i v (by rw[fo hi];exact e);rw[fo ∅]at k;calc(m,l,k,o,n,)
def FmL.inj{α:Type}{R:α->V->Prop}{H:Hp}{f g:O4 (T3a α)}{xs:O4 V}(k:∀x y u,R x u->R y u->x=y)(h:FmL R H f xs)(h':FmL R H g xs):f=g:=by
 refine tG λi=>?_
 cases e:f[i]? with
 |none =>
  let:⇑f<=i:=Do.mp e;rw[Do.mpr (by rw[←h'.1,h.1];exact this)]
 |some t =>
  let hi:=(KO.mp e).1;let(j,m):∃j,g[i]?=OP j:=(_,KN (l:=g) (i:=i) (by rw[←h'.1,h.1];exact hi),);let(r,u,a,b,c):=h.2 i t e;let(A,s,o,d,n):=h'.2 i _ m;rw[a]at o;cases o;rw[b]at d;let(z,w,v):=t;let(D,C,B):=j;simp only at d c n;injection d with d;injection d with d;simp only[QZ,V.int.injEq,and_true]at d;let(q,p,rfl):=d;rw[m,q,p,k _ _ _ c n]
def FmV.inj{K:RD}{L:Type} [DecidableEq L] {A:Lfp K L}{H:Hp}(e:lI K H):∀{n:Nat}{f g:Fm L n}{v:V},FmV A H n f v->FmV A H n g v->f=g
 |0,_,_,_,h,h'=>A.inj e h h'
 |n+1,_,_,_,h,h'=>by
  let(a,xs,l,k,j):=h;let(o,m,c,b,d):=h';rw[l]at c;cases c;rw[k]at b;cases b;calc FmL.inj (R:=FmV A H n) (λx y u q i=>FmV.inj e q i) j d
def FmL.deq{α:Type} [DecidableEq α] {R:α->V->Prop}{K:RD}{H:Hp}{m:Nat}{f g:O4 (T3a α)}{xs ys:O4 V}(inj:∀x y u,R x u->R y u->x=y)(k:∀x y u v,R x u->R y v->dP K H m u v (OT<|x=y))
  (h:FmL R H f xs)(h':FmL R H g ys):(∀(j:Nat)(x y:V),xs[j]?=OP x->ys[j]?=OP y->dP K H (m+1) x y (OT<|f[j]?=g[j]?))/\((bn<|min ⇑xs ⇑ys).all (λj=>decide<|f[j]?=g[j]?) && ⇑xs == ⇑ys)=OT (f=g):=by
 refine(λj x y l o=>?_,?_,)
 .let P:j<⇑f:=by rw[←h.1];exact(KO.mp l).1
  let E:j<⇑g:=by rw[←h'.1];exact(KO.mp o).1
  let J:=KN P;let I:=KN E;let(r,u,a,b,c):=h.2 j _ J;let(N,F,L,p,D):=h'.2 j _ I;rw[l]at a;cases a;rw[o]at L;cases L;rw[J,I];generalize f[j]=t at *
  generalize g[j]=t' at *
  let(w,s,B):=t;let(A,z,C):=t';simp only at b p c D;by_cases G:r=N
  .subst G;rw[b]at p;injection p with p;injection p with p;simp only[QZ,V.int.injEq,and_true]at p;let(z1,M,rfl):=p;let:decide (OP (w,s,B)=OP (A,z,C))=true:=by rw[z1,M,inj _ _ _ c D];simp
   rw[this];exact .of<|.same r
  .let d:=dP.tup (K:=K) (H:=H) (n:=m) (f:=λi=>match i with|0=>decide (w=A)|1=>decide (s=z)|_=>decide<|B=C) G (Rn b) (Rn p) λi x y l o=>?_
   .let e:((bn<|min [RV w,RV s,u].length [RV A,RV z,F].length).all (λi=>match i with|0=>decide (w=A)|1=>decide (s=z)|_=>decide<|B=C) && [RV w,RV s,u].length == [RV A,RV z,F].length)=OT (OP (w,s,B)=OP (A,z,C)):=by
     show((bn 3).all (λi=>match i with|0=>decide (w=A)|1=>decide (s=z)|_=>decide<|B=C) && OR)=_;let:bn 3=[0,1,2]:=rfl;rw[this];simp only[List.all_cons,List.all_nil,Bool.and_true,Option.some.injEq,Prod.mk.injEq,Bool.decide_and]
    rw[e]at d;exact d
   .match i,l,o with
    |0,l,o=>cases l;cases o;exact .of<|.flat Z Z
    |1,l,o=>cases l;cases o;exact .of<|.flat Z Z
    |2,l,o=>cases l;cases o;exact k _ _ _ _ c D
    |i+3,l,_=>simp at l
 .rw[h.1,h'.1];by_cases e:f=g
  .subst e;simp
  .rw[O0 e];by_cases O:⇑f=⇑g
   .rw[Bool.and_eq_false_iff];left
    refine KW.mpr λq=>e<|tG λi=>?_
    rw[jP]at q;by_cases hi:i<⇑f
    .exact O1<|q i<|iT.mpr ∅
    .rw[Do.mpr ∅,Do.mpr ∅]
   .simp[O]
def FmV.deq{K:RD}{L:Type} [DecidableEq L] {A:Lfp K L}{H:Hp}(j:lI K H):∀{n:Nat}{f g:Fm L n}{u v:V},FmV A H n f u->FmV A H n g v->dP K H (2*n+2) u v (OT<|f=g)
 |0,f,g,_,_,h,h'=>A.deq j h h'
 |n+1,f,g,_,_,h,h'=>by
  let(a,xs,rfl,l,k):=h;let(b,r,rfl,c,i):=h';let(p,o):=FmL.deq (R:=FmV A H n) (K:=K) (m:=2*n+2) (λx y u q d=>FmV.inj j q d) (λx y u v q d=>FmV.deq j q d) k i;by_cases e:a=b
  .subst e;rw[l]at c;cases c;let:f=g:=FmL.inj (R:=FmV A H n) (λx y u q d=>FmV.inj j q d) k i;rw[OZ this];exact .of<|.same a
  .let:=dP.tup e (Rn l) (Rn c) p;rw[o]at this;calc this
def yt{f:K5->K5->Sem K5}{r e:R2}(a:OpR X f r)(b:OpR X f e):OpR X f (λx y H Q=>r x y H Q\/e x y H Q):=λOU s σ H x y v u Q I d c h=>h.elim (a OU s σ H x y v u Q I d c)<|b OU s σ H x y v u Q I d c
def Ak{k:Nat}(c:bK k X.A):OpR X (L6 .Eq) (rFm X.K):=λOU s σ H x y v u Q I b a h=>yt cO (DO c) OU s σ H x y v u Q I b a<|h<|Hw I
def FmV.eq_to{K:RD}{L:Type} [DecidableEq L] {A:Lfp K L}{H:Hp}{Q:VK}:∀{n:Nat}{f g:Fm L n}{u v:V},n<=20->FmV A H n f u->FmV A H n g v->Q (.bl<|OT<|f=g) H->rFm K u v H Q
 |0,f,g,_,_,_,h,h',q=>λc=>A.eq c h h' q
 |n+1,f,g,_,_,hn,h,h',q=>λc=>by
  let(a,xs,rfl,o,l):=h;let(b,k,rfl,i,e):=h';let(t,s):=FmL.deq (R:=FmV A H n) (K:=K) (m:=2*n+2) (λx y u q d=>FmV.inj c q d) (λx y u v q d=>FmV.deq c q d) l e;calc .inr <| .tt a b xs k Z Z (Rn o) (Rn i) _ (λj x y r p=>(t j x y r p).mono ∅) ?_;rw[OW ⋯,s];calc q
def InB.snoc{d:O4 Int}{ps:O4 (Int×Int)}{c:Int}{p:Int×Int}(h:InB d ps)(g:p.1<=c)(f:c<=p.2):InB (d++[c]) (ps++[p]):=by
 induction h with
 |nil=>exact .cons g f .nil
 |cons a b _ e=>calc .cons a b e
def InB.length{a:O4 Int}{ps:O4 (Int×Int)}(h:InB a ps):⇑a=⇑ps:=by
 induction h with
 |nil=>rfl
 |cons _ _ _ b=>rw[fk,fk,b]
def InB.get{g:O4 Int}{ps:O4 (Int×Int)}(h:InB g ps):∀(j:Nat)(c:Int)(p:Int×Int),g[j]?=OP c->ps[j]?=OP p->p.1<=c/\c<=p.2:=by
 induction h with
 |nil=>intro j c p e;simp at e
 |cons a b _ i =>
  intro j c p f d
  match j,f,d with
  |0,f,d=>cases f;cases d;exact(a,b,)
  |j+1,f,d=>calc i j c p (~~~f) (~~~d)
def Al(x y:Int):decide (RV x=RV y)=OT (x=y):=by
 by_cases e:x=y
 .rw[OZ e,e];simp
 .rw[O0 e];calc O0 λz=>e<|V.int.inj z
def nP(x y:Int):eqV (.int x) (.int y)=OT (x=y):=by
 show((x:Int) == (y:Int))=OT (x=y);by_cases e:x=y
 .rw[OZ e,e];simp
 .rw[O0 e];calc beq_eq_false_iff_ne.mpr e
def  Am{K:RD}:Lfp K Int where
 R _ x v:=v=.int x
 mono _ h:=h
 inj _ h h':=V.int.inj (h.symm.trans h')
 deq {H x y u v} _ h h':=by
  cases h;cases h';rw[←nP];exact .of (.flat Z Z)
 eq {H x y u v Q} _ h h' q:=by
  cases h;cases h';calc .inl (Z,?_,);rw[Al];exact q
 ne {H x y u v Q} _ h h' q:=by
  cases h;cases h';calc .inl (Z,?_,);rw[Al];calc q
abbrev SI2:=Str×Int
def  tp2(p:SI2):O4 V:=[.str p.1,.int p.2]
def BQ{p q:SI2}(h:tp2 p=tp2 q):p=q:=by
 injection h with b a;injection a with a c;calc Prod.ext (V.str.inj b)<|V.int.inj a
def  Vd(K:RD)(H:Hp)(r:La)(x:SI2):Prop:=H r=OP (.tup<|tp2 x)\/ModT K r (tp2 x)
def Vd.sq{K:RD}{H:Hp}{r:La}{x:SI2}(h:Vd K H r x):SqT K H r (tp2 x):=h.elim (λh=>Rn h) λh=>h.sq H
def Vd.mono{K:RD}{H H':Hp}{r:La}{x:SI2}(s:bD H H')(h:Vd K H r x):Vd K H' r x:=h.imp (λh=>s _ _ h) id
def Vd.inj{K:RD}{H:Hp}{r:La}{x y:SI2}(a:lI K H)(h:Vd K H r x)(h':Vd K H r y):x=y:=BQ<|a r _ _ h.sq h'.sq
def nQ(x y:Str):eqV (.str x) (.str y)=OT (x=y):=by show(x == y)=_;rw[re];simp
def  fSI(x y:SI2)(j:Nat):Bool:=if j=0 then decide (x.1=y.1)else decide (x.2=y.2)
def rm(x y:SI2):((bn<|min ⇑(tp2 x) ⇑(tp2 y)).all (fSI x y) && ⇑(tp2 x) == ⇑(tp2 y))=OT (x=y):=by
 show((bn 2).all (fSI x y) && (2 == 2:Bool))=_;let(d,c):=x;let(b,a):=y;unfold fSI;by_cases f:d=b <;> by_cases e:c=a <;> simp[jR,f,e]
def vR{K:RD}{H:Hp}{n:Nat}{x y:SI2}(j:Nat)(u v:V)(a:(tp2 x)[j]?=OP u)(b:(tp2 y)[j]?=OP v):dP K H n u v (fSI x y j):=by
 match j,a,b with
 |0,a,b =>
  cases a;cases b;show dP K H n _ _ (OT<|x.1=y.1);rw[←nQ];exact .of<|.flat Z Z
 |1,a,b =>
  cases a;cases b;show dP K H n _ _ (OT<|x.2=y.2);rw[←nP];exact .of<|.flat Z Z
 |j+2,a,_=>simp[tp2]at a
def Vd.deq{K:RD}{H:Hp}{n:Nat}{a b:La}{x y:SI2}(c:lI K H)(h:Vd K H a x)(h':Vd K H b y):dP K H (n+1) (.ref a) (.ref b) (OT<|x=y):=by
 by_cases e:a=b
 .subst e;rw[OZ (Vd.inj c h h')];exact .of<|.same a
 .let:=dP.tup (n:=n) e h.sq h'.sq (f:=fSI x y) vR;rw[rm]at this;calc this
def  LVd{K:RD}:Lfp K SI2 where
 R H x v:=∃r,v=.ref r/\Vd K H r x
 mono s:=λ(r,e,h,)=>(r,e,h.mono s,)
 inj {H x y v} hT h h':=by
  let(r,rfl,h):=h;let(a,e,h'):=h';cases e;exact Vd.inj hT h h'
 deq {H x y u v} hT h h':=by
  let(r,rfl,h):=h;let(a,rfl,h'):=h';exact Vd.deq (n:=1) hT h h'
 eq {H x y u v Q} hT h h' q:=by
  let(r,rfl,h):=h;let(a,rfl,h'):=h';calc .inr<|.tt r a _ _ Z Z h.sq h'.sq (fSI x y) vR ?_;rw[OW ⋯,rm];exact q
 ne {H x y u v Q} hT h h' q:=by
  let(r,rfl,h):=h;let(a,rfl,h'):=h';calc .inr<|.tt r a _ _ Z Z h.sq h'.sq (fSI x y) vR ?_;rw[OX Z,rm];calc q
inductive Tq where
 |say (v:SI2)
 |ask (c:Nat)(m:Int)(l r:Tq)
 deriving DecidableEq
def  Tq.dep:Tq->Nat
 | .say _=>0
 | .ask _ _ l r=>max l.dep r.dep+1
def  kB:Str:=s!"say"
def  jh:Str:=s!"ask"
def  TqA(K:RD)(H:Hp):Tq->La->Prop
 | .say v,a=>∃b,H a=OP (.tup [.str kB,.ref b])/\Vd K H b v
 | .ask c m l r,a=>∃x y,H a=OP (.tup [.str jh,.int c,.int m,.ref x,.ref y])/\TqA K H l x/\TqA K H r y
def TqA.mono{K:RD}{H H':Hp}(s:bD H H'):∀{T:Tq}{a:La},TqA K H T a->TqA K H' T a
 | .say _,_,(b,e,h,)=>(b,s _ _ e,h.mono s,)
 | .ask _ _ _ _,_,(x,y,e,h1,h2,)=>(x,y,s _ _ e,TqA.mono s h1,TqA.mono s h2,)
def TqA.inj{K:RD}{H:Hp}(g:lI K H):∀{T U:Tq}{a:La},TqA K H T a->TqA K H U a->T=U
 | .say v,.say w,_,(b,e,h,),(b',d,h',)=>by
  rw[e]at d;cases d;rw[h.inj g h']
 | .say v,.ask ..,_,(b,e,h,),(x,y,d,_,)=>by rw[e]at d;cases d
 | .ask ..,.say v,_,(x,y,d,_,),(b,e,h,)=>by rw[e]at d;cases d
 | .ask c m l r,.ask c' m' l' r',_,(x,y,e,h1,h2,),(x',y',d,h1',h2',)=>by
  rw[e]at d;injection d with d;injection d with d;injection d with _ d;injection d with z1 d;injection d with f d;injection d with j d;injection d with i _;let z1:=V.int.inj z1;let f:=V.int.inj f;cases j;cases i;rw[TqA.inj g h1 h1',TqA.inj g h2 h2',f,show c=c' by lia]
def  DP(c c':Nat)(m a:Int)(bl b:Bool)(j:Nat):Bool:=if j=0 then OR else if j=1 then decide (c=c')else if j=2 then decide (m=a)else if j=3 then bl else b
def An(c c':Nat):decide ((c:Int)=(c':Int))=OT (c=c'):=by
 by_cases h:c=c'
 .rw[OZ h,h];exact OZ Z
 .rw[O0 h];calc O0 λz=>h ∅
def TqA.deq{K:RD}{H:Hp}(D:lI K H):∀{T U:Tq}{a b:La},TqA K H T a->TqA K H U b->dP K H (T.dep+2) (.ref a) (.ref b) (OT<|T=U):=by
 intro T;induction T with
 |say v =>
  intro U a b p k;by_cases e:a=b
  .subst e;rw[OZ (TqA.inj D p k)];exact .of<|.same a
  .let(x,q,J):=p;cases U with
   |say w =>
    let(y,o,C):=k;let:=dP.tup (n:=1) e (Rn (K:=K) q) (Rn o) (f:=λj=>if j=0 then OR else decide (v=w)) λj u z d g=>by
     match j,d,g with
     |0,d,g=>cases d;cases g;exact .of (by show DEq K H 1 (.str kB) (.str kB) OR;rw[show OR=eqV (.str kB) (.str kB) by rw[nQ,OZ Z]];exact .flat Z Z)
     |1,d,g=>cases d;cases g;exact Vd.deq D J C
     |j+2,d,_=>simp at d
    rw[show((bn<|min [Rk kB,RZ x].length [Rk kB,RZ y].length).all (λj=>if j=0 then OR else decide (v=w)) && [Rk kB,RZ x].length == [Rk kB,RZ y].length)=OT (Tq.say v=Tq.say w) by
     by_cases z:v=w <;> simp[jR,z]]at this
    exact this
   |ask c m l r =>
    let(B,A,o,_):=k;let:=dP.tup (n:=1) e (Rn (K:=K) q) (Rn o) (f:=λ_=>OS) λj u z d g=>by
     match j,d,g with
     |0,d,g=>cases d;cases g;exact .of (by show DEq K H 1 (.str kB) (.str jh) OS;rw[show OS=eqV (.str kB) (.str jh) by rw[nQ,O0 ⋯]];exact .flat Z Z)
     |1,d,g =>
      cases d;cases g;exact .ti J.sq
     |j+2,d,_=>simp at d
    rw[show decide (Tq.say v=Tq.ask c m l r)=OS by simp];exact this
 |ask c m l r F E =>
  intro U a b p k;by_cases e:a=b
  .subst e;rw[OZ (TqA.inj D p k)];exact .of<|.same a
  .let(I,G,q,R,Q):=p;cases U with
   |say w =>
    let(y,o,C):=k;let:=dP.tup (n:=(Tq.ask c m l r).dep+1) e (Rn (K:=K) q) (Rn o) (f:=λ_=>OS) λj u z d g=>by
     match j,d,g with
     |0,d,g=>cases d;cases g;exact .of (by show DEq K H _ (.str jh) (.str kB) OS;rw[show OS=eqV (.str jh) (.str kB) by rw[nQ,O0 ⋯]];exact .flat Z Z)
     |1,d,g =>
      cases d;cases g;exact .it C.sq
     |j+2,_,g=>simp at g
    rw[show decide (Tq.ask c m l r=Tq.say w)=OS by simp];exact this
   |ask i h t s =>
    let(B,A,o,P,O):=k;let:=dP.tup (n:=(Tq.ask c m l r).dep+1) e (Rn (K:=K) q) (Rn o) (f:=DP c i m h (OT<|l=t)<|OT<|r=s) λj u z d g=>by
     match j,d,g with
     |0,d,g=>cases d;cases g;exact .of (by show DEq K H _ (.str jh) (.str jh) OR;rw[show OR=eqV (.str jh) (.str jh) by rw[nQ,OZ Z]];exact .flat Z Z)
     |1,d,g=>cases d;cases g;exact .of (by show DEq K H _ (.int c) (.int i) (OT<|c=i);rw[←An,←nP];exact .flat Z Z)
     |2,d,g=>cases d;cases g;exact .of (by show DEq K H _ (.int m) (.int h) (OT<|m=h);rw[←nP];exact .flat Z Z)
     |3,d,g=>cases d;cases g;exact(F R P).mono (by show l.dep+2<=max l.dep r.dep+1+1;lia)
     |4,d,g=>cases d;cases g;exact(E Q O).mono (by show r.dep+2<=max l.dep r.dep+1+1;lia)
     |j+5,d,_=>simp at d
    rw[show((bn<|min [Rk jh,.int c,.int m,.ref I,.ref G].length [Rk jh,.int i,.int h,.ref B,.ref A].length).all (DP c i m h (OT<|l=t)<|OT<|r=s) && [Rk jh,.int c,.int m,.ref I,.ref G].length == [Rk jh,.int i,.int h,.ref B,.ref A].length)=OT (Tq.ask c m l r=Tq.ask i h t s) by
     unfold DP;by_cases z1:c=i <;> by_cases N:m=h <;> by_cases M:l=t <;> by_cases L:r=s <;> simp[jR,z1,N,M,L]]at this
    calc this
abbrev Pln:=Int×Tq
def  PlA(K:RD)(H:Hp)(p:Pln)(a:La):Prop:=∃t,H a=OP (.tup [.int p.1,.ref t])/\TqA K H p.2 t
def PlA.mono{K:RD}{H H':Hp}{p:Pln}{a:La}(s:bD H H')(h:PlA K H p a):PlA K H' p a:=by let(t,e,q):=h;calc(t,s _ _ e,q.mono s,)
def PlA.eq{K:RD}{H:Hp}{p q:Pln}{a b:La}{Q:VK}(r:lI K H)(o:PlA K H p a)(n:PlA K H q b)(w:p.2.dep<=58)(h:Q (.bl<|OT<|p=q) H):tT K OS (.ref a) (.ref b) H Q:=by
 let(t,v,m):=o;let(u,s,l):=n;refine .tt a b _ _ Z Z (Rn v) (Rn s) (λj=>if j=0 then decide (p.1=q.1)else decide (p.2=q.2)) (λj x y c d=>?_) ?_
 .match j,c,d with
  |0,c,d=>cases c;cases d;exact .of (by show DEq K H 60 (.int p.1) (.int q.1) (OT<|p.1=q.1);rw[←nP];exact .flat Z Z)
  |1,c,d=>cases c;cases d;exact(TqA.deq r m l).mono ∅
  |j+2,c,_=>simp at c
 .rw[OW ⋯,show((bn<|min [RV p.1,RZ t].length [RV q.1,RZ u].length).all (λj=>if j=0 then decide (p.1=q.1)else decide (p.2=q.2)) && [RV p.1,RZ t].length == [RV q.1,RZ u].length)=OT (p=q) by
   let(k,i):=p;let(g,f):=q;by_cases z1:k=g <;> by_cases e:i=f <;> simp[jR,z1,e]]
  calc h
def qp(p:Pos)(a b:Int)(c:K5):∀(l:O4 K5),TriplesOk l->Oi p (l++[LV a,LV b,c])=(Oi p l).or (Oi p [LV a,LV b,c])
 | [],_=>rfl
 | .int x t :: .int y u :: d :: rest,h=>by
  let e:=qp p a b c rest h;show Oi p (.int x t :: .int y u :: d :: (rest++[LV a,LV b,c]))=_;rw[Oi,Oi];split
  .rfl
  .exact e
def  bT(H:Hp)(P:La)(L:O4 (Pos×Str)):Prop:=∃ps,H P=OP (.tbl ps)/\TriplesOk ps.toList/\∀p∈L,Oi p.1 ps.toList=OQ\/∃(b:La)(a:Obj),Oi p.1 ps.toList=↑b/\H b=OP (.frz a TTh)/\tQ a p.2
def bT.same{H H':Hp}{P:La}{L:O4 (Pos×Str)}(h:bT H P L)(s:au H H'):bT H' P L:=by
 let(ps,i,g,f):=h;calc(ps,s _ _ i,g,λp e=>(f p e).imp id λ(c,o,a,b,d,)=>(c,o,a,s _ _ b,d,),)
def bT.new{H:Hp}{P:La}{L:O4 (Pos×Str)}(h:H P=OP (.tbl #[])):bT H P L:=(#[],h,trivial,λ_ _=>.inl Z,)
def  Hx(P:La)(pos:Pos)(qual:Str)(mk:K5->La->K5->Obj)(clos:O4 (Str×La)):TE:=λ_ H Q=>∃L,(pos,qual)∈L/\(∀p∈L,p.1.line=pos.line->p.1.col=pos.col->p.2=qual)/\bT H P L /\
 ∀(f e:La)(d:Obj)(g c:K5)(H':Hp),H f=OQ->(∀b o,b≠P->H b=OP o->H' b=OP o)->H' f=OP (.frz (mk g e c) TTh)->H' e=OP (.frz d TTh)->tQ d qual->bT H' P L->(∀x y a,clos.lookup x=OP a->clos.lookup y=OP a->x=y)->Q (.ref f) H'
def vS{params:Mt}{body:Lu}{scope:Ln}{pos:Pos}{c P:La}{clos:O4 (Str×La)}(CW:X.env.code=.ref c)
  (C:Pl X.base c P)(hb:X.base.BuiltinsAt X.mg P)(V:MS scope X.env=pure clos)(S:∀p∈clos,X.env.cells.lookup p.1=OP p.2)(FA:defaultsOf params X.env=([],[]):=by rfl) :
  PE X (.Lambda params body scope pos) (Hx P pos (X.env.qual ++ "<lambda>") (λpm c' ctv=>kt "<lambda>" (X.env.qual ++ "<lambda>") params body scope clos pm c' ctv) clos):=by
 intro OU s σ H Q I h;let(L,hL,b1,(ps,r,N,G),k):=h;let B:s.heap.get? P=OP (W.tabObj ps):=I.hok P _ r;let J:s.heap.Ns Lh X.mg:=I.mod.glob.keeps I.bk;let a9:Lh≠P:=λq=>by
  let(o,es,ep,e,M,_):=J;rw[q,B]at e;cases e;cases M
 let inj:∀x y a,clos.lookup x=OP a->clos.lookup y=OP a->x=y:=λx y a E h2=>I.ok.inj x y a (S _<|mem_of_lookup E)<|S _<|mem_of_lookup h2
 rcases G _ hL with a8|⟨c',j,hf,K,A⟩
 .refine W.kla_eval FA<|W.kla_makeFunction V I.ok.glob J CW (C.keeps I.bk) B N a8 a9 (hb.keeps I.bk) λc' ctv h' tk a6 l R Hy O=>?_;let(b3,j,vs,t,e2,a7,b0,hv):=Hy;cases e2;let T:∀b,↥s<=b->H b=none:=λb f=>I.hok.fresh f
  let Y:P<↥s:=al B;let a5:c'≠P:=λz=>by rw[z]at l;exact OY Y<|Ho.mpr l
  let g:↥s<=h'.objs.size:=BK l<|Dn R;let a4:h'.objs.size≠P:=λz=>by rw[z]at g;exact OY Y<|Ho.mpr g
  let a3:h'.objs.size≠c':=CD R;let m:=T _ g;let K:=T _ l;let i:∀{b:La}{u:HO},b≠P->H b=OP u->upd (upd (upd H P<|.tbl<|ps ++ #[LV pos.line,LV pos.col,.ref c']) c'<|.frz j TTh) h'.objs.size (.frz (kt "<lambda>" (X.env.qual ++ "<lambda>") params body scope clos ((X.mg "__name__").getD .none) c' ctv) TTh) b=OP u:=λ{b u} f e=>by
   rw[ar (bc e m),ar<|bc e K,ar f];exact e
  let a1:upd (upd (upd H P<|.tbl<|ps ++ #[LV pos.line,LV pos.col,.ref c']) c'<|.frz j TTh) h'.objs.size (.frz (kt "<lambda>" (X.env.qual ++ "<lambda>") params body scope clos ((X.mg "__name__").getD .none) c' ctv) TTh) P=OP (.tbl<|ps ++ #[LV pos.line,LV pos.col,.ref c']):=by
   rw[ar a4.symm,ar a5.symm,af]
  let F:∀{b:La},H b=OQ->b≠P:=λe z=>by rw[z,r]at e;cases e
  let keep:∀b o,b≠P->s.heap.get? b=OP o->(h'.push<|kt "<lambda>" (X.env.qual ++ "<lambda>") params body scope clos ((X.mg "__name__").getD .none) c' ctv).get? b=OP o:=λb o f e=>ac _<|a6 b o f e
  let un:Un X.fs [] H (upd (upd (upd H P<|.tbl<|ps ++ #[LV pos.line,LV pos.col,.ref c']) c'<|.frz j TTh) h'.objs.size<|.frz (kt "<lambda>" (X.env.qual ++ "<lambda>") params body scope clos ((X.mg "__name__").getD .none) c' ctv) TTh) s.heap (h'.push<|kt "<lambda>" (X.env.qual ++ "<lambda>") params body scope clos ((X.mg "__name__").getD .none) c' ctv):=by
   refine(λb o e n _ _=>keep b o (F n) e,λb o e n _ _=>(o.slots,keep b o (F n) e,),λb o e n _=>?_,λb o e _=>?_,λb xs e=>i (λz=>by rw[z,r]at e;cases e) e,λb o u e=>i (λz=>by rw[z,r]at e;cases e) e,λb a2 e=>?_,)
   .let f:=al e;rw[ar (Bo<|BS f g),ar<|Bo<|BS f l,ar (F n)];exact n
   .by_cases f:b=P
    .subst f;exact(_,ac _ O,)
    .exact(o,keep b o f e,)
   .by_cases f:b=P
    .subst f;rw[r]at e;cases e;exact(_,a1,)
    .exact(#[],by rw[i f e];simp,)
  let hok:HOk X.prog X.w (upd (upd (upd H P<|.tbl<|ps ++ #[LV pos.line,LV pos.col,.ref c']) c'<|.frz j TTh) h'.objs.size<|.frz (kt "<lambda>" (X.env.qual ++ "<lambda>") params body scope clos ((X.mg "__name__").getD .none) c' ctv) TTh) (h'.push<|kt "<lambda>" (X.env.qual ++ "<lambda>") params body scope clos ((X.mg "__name__").getD .none) c' ctv):=λb u e=>by
   by_cases E:b=h'.objs.size
   .subst E;rw[af]at e;cases e;exact tO<|am _ Z
   rw[ar E]at e;by_cases h2:b=c'
   .subst h2;rw[af]at e;cases e;exact tO<|ac _ a7
   rw[ar h2]at e;by_cases h3:b=P
   .subst h3;rw[af]at e;cases e;exact ac _ O
   rw[ar h3]at e;refine(I.hok b u e).stay (λd v M q=>keep d v ?_ q) (λd q=>i (λz=>by rw[z,r]at q;cases q) q) λd xs q=>i (λz=>by rw[z,r]at q;cases q) q
   rcases M with rfl|M
   .exact h3
   .exact λz=>by rw[z,r]at M;cases M
  let I2:=I.un (t':=tk) un hok;let A:tQ j (X.env.qual ++ "<lambda>"):=(vs,t,b0,hv,);let a0:upd (upd (upd H P<|.tbl<|ps ++ #[LV pos.line,LV pos.col,.ref c']) c'<|.frz j TTh) h'.objs.size (.frz (kt "<lambda>" (X.env.qual ++ "<lambda>") params body scope clos ((X.mg "__name__").getD .none) c' ctv) TTh) c'=OP (.frz j TTh):=(ar a3.symm).trans af;refine(.ref h'.objs.size,_,I2,Z,k _ c' j _ ctv _ m (λb o f e=>i f e) af a0 A (_,a1,?_,λp hp=>?_,) inj,)
  .rw[Q1];exact TriplesOk_snoc _ _ _ _ N
  .rw[Q1];show Oi p.1 (ps.toList++[LV pos.line,LV pos.col,.ref c'])=OQ\/∃(d:La)(j:Obj),Oi p.1 (ps.toList++[LV pos.line,LV pos.col,.ref c'])=↑d/\_;rw[qp _ _ _ _ _ N];rcases G p hp with q|⟨d,od,q1,q2,q3⟩
   .rw[q];show Oi p.1 [LV pos.line,LV pos.col,.ref c']=OQ\/∃(d:La)(j:Obj),Oi p.1 [LV pos.line,LV pos.col,.ref c']=↑d/\_;by_cases e:p.1.line=pos.line/\p.1.col=pos.col
    .let e3:Oi p.1 [LV pos.line,LV pos.col,.ref c']=↑c':=by
      show(if ((pos.line:Int) == (p.1.line:Int) && (pos.col:Int) == (p.1.col:Int))=OR then OP (bv c')else OQ)=_;rw[e.1,e.2];simp
     exact .inr (c',j,e3,a0,by rw[b1 p hp e.1 e.2];exact A,)
    .left
     show(if ((pos.line:Int) == (p.1.line:Int) && (pos.col:Int) == (p.1.col:Int))=OR then OP (bv c')else OQ)=OQ;rw[OW λz=>e ?_];rw[KS,beq_iff_eq,beq_iff_eq]at z;lia
   .exact .inr (d,od,by rw[q1];rfl,i (λz=>by rw[z,r]at q2;cases q2) q2,q3,)
 .refine W.kla_eval FA<|W.kla_makeFunctionHit V I.ok.glob J CW (C.keeps I.bk) B N hf (hb.keeps I.bk) λctv h' tk kp g=>?_;let m:H h'.objs.size=none:=I.hok.fresh g;let D:au H (upd H h'.objs.size<|.frz (kt "<lambda>" (X.env.qual ++ "<lambda>") params body scope clos ((X.mg "__name__").getD .none) c' ctv) TTh):=ai m _;let keep:∀b o,s.heap.get? b=OP o->(h'.push<|kt "<lambda>" (X.env.qual ++ "<lambda>") params body scope clos ((X.mg "__name__").getD .none) c' ctv).get? b=OP o:=λb o e=>ac _<|kp b o e
  let un:Un X.fs [] H (upd H h'.objs.size<|.frz (kt "<lambda>" (X.env.qual ++ "<lambda>") params body scope clos ((X.mg "__name__").getD .none) c' ctv) TTh) s.heap (h'.push<|kt "<lambda>" (X.env.qual ++ "<lambda>") params body scope clos ((X.mg "__name__").getD .none) c' ctv):=by
   refine(λb o e n _ _=>keep b o e,λb o e n _ _=>(o.slots,keep b o e,),λb o e n _=>?_,λb o e _=>(o,keep b o e,),λb xs e=>D _ _ e,λb o u e=>D _ _ e,λb a2 e=>(#[],by rw[D _ _ e];simp,),);let f:=al e;rw[ar (Bo<|BS f g)];exact n
  let hok:HOk X.prog X.w (upd H h'.objs.size<|.frz (kt "<lambda>" (X.env.qual ++ "<lambda>") params body scope clos ((X.mg "__name__").getD .none) c' ctv) TTh) (h'.push<|kt "<lambda>" (X.env.qual ++ "<lambda>") params body scope clos ((X.mg "__name__").getD .none) c' ctv):=λb u e=>by
   by_cases E:b=h'.objs.size
   .subst E;rw[af]at e;cases e;exact tO<|am _ Z
   rw[ar E]at e;exact(I.hok b u e).stay (λd v _ q=>keep d v q) (λd q=>D _ _ q) λd xs q=>D _ _ q
  let I2:=I.un (t':=tk) un hok;calc(.ref h'.objs.size,_,I2,Z,k _ c' j _ ctv _ m (λb o _ e=>D _ _ e) af (D _ _ K) A (bT.same (ps,r,N,G,) D) inj,)
def DQ{CX:CXT}{P:K7}{w:K6}{K:RD}{mg:Str->Option K5}{base:Lb}{k:Nat}{f c':La}{name qual:Str}{params:Mt}{body:Lu}{scope:Ln}{cl:O4 (Str×La)}{pm ctv:K5}{N ps:O4 Str}{sp:Sp}
  (S:nL N ps scope cl)(inj:∀x y c,cl.lookup x=OP c->cl.lookup y=OP c->x=y)
  (len:∀vs H Q E,sp vs H Q E->⇑vs=⇑ps)
  (eZ:∀(A:Ll)(g:O4 Env)(s:Lm)(H:Hp)(vs:O4 V)(Q:VK)(E:XK),bK k (A.deeper<|QB qual scope ↥s f (.ref c') cl)->sp vs H Q E ->
   (∃M,H f=OP (.frz (kt name qual params body scope cl pm c' ctv) TTh)/\H c'=OP (.frz M TTh)/\tQ M qual)/\∃ws,fG H cl ws/\(∀x∈N.drop ⇑ps,∀v,ws.lookup x=OP v->scope.names.lookup x=OP .free) /\
   ((∀c∈cl.map (·.2),base.get? c=OQ/\c ∉ frs g)->∃t:TE,PE (cxC CX P w K mg base N qual scope f (.ref c') cl A g s H E) body t/\t (lG N ps vs ws) (hideL H (cl.map (·.2))) λv H'=>(∀c∈cl.map (·.2),H' c=OQ)->Q v (backL H H' (cl.map (·.2))))) :
  aK P w K mg base CX (k+1) f (W.kla_fn name qual params body scope cl pm (.ref c') ctv) ps sp:=by
 calc(len,λA g s H b0 us vs Q E hr l hb r R=>?_,);let hl:=len _ _ _ _ R;let((M,ef,ec,a0,t',a7,a6),ws,Y,wJ,FC):=eZ A g s H vs Q E (hr.deeper _) R;let(t,ht,hq):=FC λc D=>by
  let(o,e):=Y.fzs c D;refine⟨?_,λz=>by rw[l.frf c z]at e;cases e⟩;cases eb:base.get? c with
  |none=>rfl
  |some ob=>rw[(l.bs c ob eb).2]at e;cases e
 let a2:s.heap.NoLimit:=l.mod.nolimit.keeps λb o e=>(l.bs b o e).1
 let eo:s.heap.get? f=OP (kt name qual params body scope cl pm c' ctv):=(l.hok f _ ef).1;let a9:s.heap.get? c'=OP M:=(l.hok c' _ ec).1;let a3:⇑us=⇑ps:=by rw[←⇑r];exact hl
 let a1:ps.Nodup:=by rw[←S.pre];exact S.nd.sublist<|vl _ _
 let fz:=Y.fzs;let T:∀{x:Str}{c:La},cl.lookup x=OP c->c∈cl.map (·.2):=λe=>nM e
 calc W.kla_callFunE hr.depth eo Z S.co S.gen Z (c',M,a0,t',Z,a9,a7,a6,)<|hb _ _ _ _ ?_;calc MW S.nocell (λx n=>S.par x.1 (uW n).1) (λB a5 a4=>?_) S.kind;let j:∀b o,s.heap.get? b=OP o->B.get? b=OP o:=λb o e=>a4.extBut b o (Bo<|al e)<|ac _ e
 calc(a2.keeps j,W.kla_codeExpr ?_,);let G:∀{b:La},H b=OQ->hideL H (cl.map (·.2)) b=none:=λh=>gE h
 let I:Inv (cxC CX P w K mg base N qual scope f (.ref c') cl A g s H E) [] (lG N ps vs ws) (hideL H (cl.map (·.2))) { s with heap:=B,toks:=s.toks+⇑(ps.zip us) }:=by
  let F:∀b:La,b ∉ (cxC CX P w K mg base N qual scope f (.ref c') cl A g s H E).ex:=λb z=>OY (show b∈([]:O4 La)from z) (by simp)
  refine((l.mod,S.kind,Z,Z,Ab _,λx y c L m=>inj x y c L m,λx n=>?_,λx c hf=>?_,λ_=>hr.hd,Ll.frames_deeper l.frames,.inr (Z,Z,),λb z=>OY z<|F b,λb o e=>((l.bs b o e).1,G (l.bs b o e).2,),l.bsz,λb _ _=>F b,λb z=>OY z<|F b,l.funs,λb hb=>G<|l.frf b hb,),
   rfl,l.bare,Un.kept j,(_,a5,λi x v L m h3=>?_,),λx c h=>?_,G<|l.hok.fresh<|Ab _,λx c h=>kz<|T h,λp hp=>OY (show p∈([]:O4 (La×Obj))from hp) (by simp),(l.hok.hideL fz).kept j,?_,)
  .let n:scope.names.lookup x=OP .cell\/scope.names.lookup x=OP .free:=n;rcases n with n|n
   .exact OY Z<|S.nocell _<|mem_of_lookup n
   .exact S.has _ (mem_of_lookup n) Z
  .exact OY (show OS=OR from hf) bi
  .let L:N[i]?=OP x:=L;unfold lG at m;by_cases hi:i<⇑vs
   .rw[fo (~~~hi),dy]at m;let ha:vs[i]?=OP v:=by
     cases e:vs[i]? with
     |none=>rw[e]at m;cases m
     |some a=>rw[e]at m;cases m;rfl
    let(u,hu,C):=r.get ha;let hp:ps[i]?=OP x:=by rw[←S.pre,EQ ∅];exact L
    exact(u,C,.inl (S.par x<|KP hp,vO a1 hp hu a3,),)
   .rw[jn (~~~hi),dy,aa]at m;cases e:(N.drop ⇑ps)[i-⇑vs]? with
    |none=>rw[e]at m;cases m
    |some y =>
     rw[e]at m;let m:OP (ws.lookup y)=OP (OP v):=m;let m:=bm m;let hy:y=x:=by
      rw[List.getElem?_drop,show ⇑ps+(i-⇑vs)=i by lia,L]at e;exact(bm e).symm
     subst hy;let(c,o,u,e1,e2,e3,C):=Y.2 y v m;exact(u,C,.inr (.inr<|wJ y (KP e) v m,c,e1,o,j _ _ (l.hok c _ e2).1,e3,),)
  .let(o,v,e,d):=Y.1 c<|T h;exact(v,o,j _ _ (l.hok c _ e).1,d,)
  .unfold lG;show _=N.length;let b1:⇑ps<=N.length:=by have:=O2 P9 S.pre;rw[hZ]at this;lia
   rw[br,aa,aa,rz];lia
 refine LA (ht [] _ (lG N ps vs ws) _ _ I hq) (λu X hs=>?_) λe X hs=>hs
 let a8:∀{O:St}{H':Hp}{v:V}{u:K5},Inv (cxC CX P w K mg base N qual scope f (.ref c') cl A g s H E) [] O H' X->RelV v u->((∀c∈cl.map (·.2),H' c=OQ)->Q v (backL H H' (cl.map (·.2))))->CE g P w H s Q u X:=λ{O H' v u} J C q=>by
  let un:Un (frs g) [] (hideL H (cl.map (·.2))) H' s.heap X.heap:=J.base;let nc:∀c∈cl.map (·.2),H' c=none:=λc D=>by
   let((x,d),hm,rfl):=dr.mp D;let(o,e):=fz d D;exact un.free d o (l.hok d _ e).1 (kz D) (by simp)
  calc(v,backL H H' (cl.map (·.2)),J.os,J.bare,un.backL fz,J.hok.backL fz nc λc D o e=>?_,C,q nc,);refine un.keep c o (l.hok c _ e).1 (kz D) (λz=>?_) (by simp);rw[l.frf c z]at e;cases e
 let(v,H',J,C,q):=hs;calc a8 J C q
def  CY(st:Lz)(k:Nat):Lu:=match st with
 | .Assign _ (.Call _ as _ _) _=>as.getD k<|.Name "" (0,0,0,0,)
 | .Return (OP<|.Call _ as _ _) _=>as.getD k<|.Name "" (0,0,0,0,)
 |_=>.Name "" (0,0,0,0,)
def  nR(e:Lu):Mt:=match e with
 | .Lambda a _ _ _=>a
 |_=>dH<|.Pass (0,0,0,0,)
def  mG(e:Lu):Lu:=match e with
 | .Lambda _ b _ _=>b
 |e=>e
def  iH(e:Lu):Ln:=match e with
 | .Lambda _ _ s _=>s
 |_=>ao<|.Pass (0,0,0,0,)
def  ph(e:Lu):Pos:=match e with
 | .Lambda _ _ _ p=>p
 |_=>(0,0,0,0,)
def vT{qual:Str}{ps:O4 Str}{e:Lu}{f c':La}{cl:O4 (Str×La)}{pm ctv:K5}{N:O4 Str}{k:Nat}{sp:Sp}(S:nL N ps (iH e) cl)(inj:∀x y c,cl.lookup x=OP c->cl.lookup y=OP c->x=y)
  (m:∀us:O4 K5,⇑us=⇑ps->Ml (W.kla_fn "<lambda>" qual (nR e) (mG e) (iH e) cl pm (.ref c') ctv) (us,[],)=pure (ps.zip us))
  (len:∀vs H Q E,sp vs H Q E->⇑vs=⇑ps)
  (z:∀(A:Ll)(d:O4 Env)(s:Lm)(H:Hp)(vs:O4 V)(Q:VK)(E:XK),bK k (A.deeper<|QB qual (iH e) ↥s f (.ref c') cl)->sp vs H Q E ->
   ∃ws,hX H f c' (kt "<lambda>" qual (nR e) (mG e) (iH e) cl pm c' ctv) qual cl ws/\(∀y∈N.drop ⇑ps,∀v,ws.lookup y=OP v->(iH e).names.lookup y=OP .free) /\
   ((∀c∈cl.map (·.2),base.get? c=OQ/\c ∉ frs d)->∃t:TE,PE (cxC CX0 P w K mg base N qual (iH e) f (.ref c') cl A d s H E).nox (mG e) t/\t (lG N ps vs ws) (hideL H (cl.map (·.2))) λv H'=>(∀c∈cl.map (·.2),H' c=OQ)->Q v (backL H H' (cl.map (·.2))))) :
  HFn P w K mg base (k+1) f sp:=by
 refine(_,ps,DQ (name := "<lambda>") (qual:=qual) (c':=c') (params:=nR e) (body:=mG e) (pm:=pm) (ctv:=ctv) S inj len λA d s H vs Q E i g=>?_,.all λus j=>?_,)
 .let(ws,(u,(h,r,q),p),o,n):=z A d s H vs Q E i g;calc((h,u,r,q,),ws,p,o,λl=>?_,);let(t,a,b):=n l;exact(t,a.nox,b,)
 .exact m us j
section
variable{t:TA}
end
inductive TFn(K:RD)(x:Str)(st:Lz):Prop
 |mk {f c t:La}{fd:Mi}(a:im K Lh x=OP ↑f)(F:Fun K x x st f fd)(hc:fd.code=.ref c)(ht:dL K x=OP (c,t))
def tfn_mk{K:RD}{x:Str}{st:Lz}{f c t:La}{g kV doc pm n:K5}{d p:Option La}{b:Array (Option K5)}{j:K5}{i:Option La}{vs:Array K5}{h:Array (Option K5)}(a:im K Lh x=OP ↑f)
  (l:K.lookup f=OP (g,d,.func<|Pu x x (dH st) (bX st) (ao st) .none kV doc pm p (.ref c) n,b,))(o:P6 K (.ref c) x=OR)(m:Fk K (.ref f)=OR)(k:K.lookup c=OP (j,i,.fields vs,h,))(e:vs[11]?=↑t):TFn K x st :=
 (a,fun_mk l o m,Z,tab_mk a l k e,)
def mkT{P:K7}{w:K6}{K:RD}{mg:Str->Option K5}{base:Lb}{k:Nat}{x:Str}{ps:O4 Str}{sp:Sp}{st:Lz}(j:Zb P w K mg base)(h:TFn K x st)(e:∀q∈(dL K x).toList,Pl base q.1 q.2/\base.BuiltinsAt mg q.2)
  (O:∀{f c t:La}{fd:Mi},Fun K x x st f fd->fd.code=.ref c->dL K x=OP (c,t)->Pl base c t/\base.BuiltinsAt mg t->aK P w K mg base CX0 k f fd ps sp)
  (b:∀{f:La}{fd:Mi},Fun K x x st f fd->Binds K fd ps []:=by trivial):Callee P w K mg base k x ps sp:=by
 cases h with|mk a F i d=>calc(_,_,O F i d<|e _ (by rw[d];exact dt),b F,F.kp,j.g a,)
def rn{K:RD}{x:Str}{t:La×La}(h:t∈(dL K x).toList):dL K x=OP t:=by
 cases e:dL K x with
 |none=>rw[e]at h;cases h
 |some z=>rw[e]at h;rw[dV.mp h]
section
variable{t:TA}
end
def  Hz(st:Lz):Lu:=match st with
 | .Assign _ e _=>e
 | .Return (OP e) _=>e
 |_=>.Name "" (0,0,0,0,)
structure lJ(K:RD)(x qual:Str)(st:Lz)(f:La)(fd:Mi):Prop where
 ex:∃(oc:K5)(od:Option La)(d:La)(o:Obj)(n:Nat)(kV doc pm:K5)(an:Option La)(cdv ct:K5)(osl:Array (Option K5)),
  fd=Pu x qual (dH st) (bX st) (ao st) (.ref d) kV doc pm an cdv ct/\K.lookup f=OP (oc,od,.func fd,osl,)/\P6 K cdv qual=OR/\K.lookup d=OP o/\o.data=.seq #[.none] n
 kp:Fk K (.ref f)=OR
def funV_mk{i:K5}{h g:Option La}{b:Array (Option K5)}{kV doc pm a e:K5}{d:La}{o:Obj}{n:Nat}(l:K.lookup f=OP (i,h,.func<|Pu x q (dH st) (bX st) (ao st) (.ref d) kV doc pm g a e,b,))
  (c:P6 K a q=OR)(k:Fk K (.ref f)=OR)(m:K.lookup d=OP o)(j:o.data=.seq #[.none] n):lJ K x q st f (Pu x q (dH st) (bX st) (ao st) (.ref d) kV doc pm g a e):=((i,h,d,o,n,kV,doc,pm,g,a,e,b,Z,l,c,m,j,),k,)
def lJ.ok(F:lJ K x q st f fd)(S:av N ps (ao st))(c:∀vs H Q E,sp vs H Q E->⇑vs=⇑ps)
  (l:∀(b:K5)(A:Ll)(a:O4 Env)(s:Lm)(H:Hp)(vs:O4 V)(Q:VK)(E:XK),bK k (A.deeper<|envOfC q (ao st) ↥s f b)->sp vs H Q E ->
   ∃t,PSs (cw CX0 P w K mg base N q (ao st) f b A a s H E).nox (bX st) t/\t { nx:=λ_ H'=>Q .non H',rt:=Q } (start N vs) H):aK P w K mg base CX0 (k+1) f fd ps sp:=by
 let(v,u,d,o,n,kV,p,r,z,b,y,m,rfl,i,g,_,_):=F.ex;refine zK i g S c λA a s H vs Q E j e=>?_
 let(t,h,q):=l b A a s H vs Q E j e;calc(t,h.nox,q,)
def lJ.bindsD{ds:O4 K5}(F:lJ K x q st f fd)
  (h:∀(d:La)(kV doc pm:K5)(c:Option La)(a b:K5)(us:O4 K5),⇑(us++ds)=⇑ps->∃k,Ml (Pu x q (dH st) (bX st) (ao st) (.ref d) kV doc pm c a b) (us,[],)=Oj (.ref d) >>= k/\k (OP #[.none])=pure (ps.zip<|us++ds)):Binds K fd ps ds:=by
 let(t,r,d,o,n,kV,doc,pm,c,a,b,m,rfl,u,p,i,e):=F.ex;intro s us X g;let(k,l,j):=h d kV doc pm c a b us g;calc Mj.of_defaults Z (X d o i) e l j
def  rq(P:K7)(w:K6)(K:RD)(mg:Str->Option K5)(base:Lb)(k:Nat)(x:Str)(ps:O4 Str)(sp:Sp):Prop :=
 ∃f fd,aK P w K mg base CX0 k f fd ps sp/\Binds K fd ps []/\Binds K fd ps [.none]/\Fk K (.ref f)=OR/\mg x=↑f
def rq.full(C:rq P w K mg base k x ps sp):Callee P w K mg base k x ps sp:=by let(f,fd,a,b,_,c,d):=C;calc(f,fd,a,b,c,d,)
inductive GV(K:RD)(x q:Str)(st:Lz):Prop
 |mk {f:La}{fd:Mi}(a:im K Lh x=OP ↑f)(F:lJ K q q st f fd)
section
variable{t:TA}
end
def lJ.okA(F:lJ K x q st f fd)(S:av N ps (ao st))(d:∀(b:K5)(A:Ll)(a:O4 Env)(s:Lm)(H:Hp)(vs:O4 V)(Q:VK)(E:XK),bK k (A.deeper<|envOfC q (ao st) ↥s f b)->sp vs H Q E->∃t,PSs (cw CX0 P w K mg base N q (ao st) f b A a s H E).nox (bX st) t/\t { nx:=λ_ H'=>Q .non H',rt:=Q } (start N vs) H)(c:∀vs H Q E,sp vs H Q E->⇑vs=⇑ps:=by intro vs H Q E h;cases h;subst_vars;rfl):aK P w K mg base CX0 (k+1) f fd ps sp:=F.ok S c d
def mkV{y z:Str}(d:Zb P w K mg base)(h:GV K x q st)(O:∀{f:La}{fd:Mi},lJ K q q st f fd->aK P w K mg base CX0 k f fd [y,z] sp)(b:∀{f:La}{fd:Mi},lJ K q q st f fd->Binds K fd [y,z] [])(c:∀{f:La}{fd:Mi},lJ K q q st f fd->Binds K fd [y,z] [.none]):rq P w K mg base k x [y,z] sp:=by
 cases h with|mk a F=>calc(_,_,O F,b F,c F,F.kp,d.g a,)
section
variable(P:K7)(w:K6)
end
variable{a:La}
section
variable{o:HO}
end
section
variable{x e:La}{o':HO}
end
section
variable{fs fs' ex ex':O4 La}{H1 H2:Hp}{h1 h2:Lb}{x e:La}{o:HO}
end
section
variable{σ:O4 (Option V)}
end
variable{tb:TE}
section
variable{a b:Lu}
variable{tA tB':TT}{rest:O4 Lu}
end
section
variable{xs ys:O4 V}
end
section
variable{rest:O4 Lz}{t u:TS}
end
section
variable{a b c:Lu}{tc:TE}
end
section
variable{a b c:Lu}{tc:TE}
end
variable{dx:La}
section
variable{x:La}{mA:Str->Option K5}{name:Str}{v:K5}
end
section
variable{fs fs':O4 (Str×V)}
end
section
variable{fs:O4 (Str×V)}{f:Str}{v:V}
end
section
variable{value:Lu}{f:Str}{pos' Bz:Pos}{tv:TE}
end
section
variable{Q:K5->Lm->Prop}{c:K5}{b:Bool}
end
section
variable{t:TA}
end
section
variable{s':Lm}
end
section
variable{dvs:O4 V}{ds:O4 K5}{E:XK}{t:TA}
end
section
variable{ks:O4 Str}{E:XK}{Hc:Pos}{kws:O4 Mo}{t tk:TA}{nm:Option Str}
variable{g:O4 K5->O4 K5->O4 K5}{gV:O4 V->O4 V->O4 V}
end
section
variable{t:TA}{id T:String}{r:O4 V->Hp->VK->Prop}
end
section
variable{κ:Type} [DecidableEq κ]
def  nU(kvs:O4 (κ×V))(k:κ):Option V:=(kvs.find? λa=>decide<|a.1=k).map (·.2)
def  putK(kvs:O4 (κ×V))(k:κ)(v:V):O4 (κ×V) :=
 if (kvs.any λa=>decide<|a.1=k)=OR then kvs.map (λa=>if a.1=k then(a.1,v)else a)else kvs++[(k,v)]
def tU{p:κ×V}{r:O4 (κ×V)}{k:κ}(e:p.1=k):nU (p :: r) k=OP p.2:=by simp[nU,yq,e]
def tV{p:κ×V}{r:O4 (κ×V)}{k:κ}(e:¬ p.1=k):nU (p :: r) k=nU r k:=by simp[nU,yq,e]
def nV(k:κ):∀kvs:O4 (κ×V),(kvs.any λa=>decide<|a.1=k)=(nU kvs k).isSome
 | []=>rfl
 |p :: r=>by
  rw[zm];by_cases e:p.1=k
  .simp only[tU e,OZ e,Bool.true_or,Option.isSome_some]
  .rw[tV e,O0 e,Bool.false_or];calc nV k r
def mr(kvs:O4 (κ×V))(k:κ)(v:V):⇑(putK kvs k v)<=⇑kvs+1:=by
 unfold putK;split
 .rw[aa];lia
 .rw[br,fk,zo];lia
def Ao{kvs:O4 (κ×V)}{k:κ}(v:V)(h:nU kvs k=OQ):putK kvs k v=kvs++[(k,v)]:=by
 unfold putK;rw[nV,h];calc OW ⋯
def lh.isSome_eq{o:Option V}{u:Option K5}(r:lh o u):o.isSome=u.isSome:=by
 cases o with
 |none=>cases u with
  |none=>rfl
  |some _=>exact(show False from r).elim
 |some _=>cases u with
  |none=>exact(show False from r).elim
  |some _=>rfl
def KV.any{kvs:O4 (κ×V)}{vs:O4 (κ×K5)}(r:KV kvs vs)(k:κ):(kvs.any λa=>decide<|a.1=k)=vs.any λa=>decide (a.1=k):=by
 unfold KV at r;induction r with
 |nil=>rfl
 |cons h t b=>rw[zm,zm,b,h.1]
def KV.repl{kvs:O4 (κ×V)}{vs:O4 (κ×K5)}(r:KV kvs vs)(k:κ){y:V}{u:K5}(c:RelV y u) :
  KV (kvs.map λa=>if a.1=k then(a.1,y)else a) (vs.map λa=>if a.1=k then(a.1,u)else a):=by
 unfold KV at r⊢;induction r with
 |nil=>exact .nil
 | @cons p q ps qs h t ih =>
  rw[jl,jl];calc .cons ?_ ih;let(b,d):=h;by_cases e:p.1=k
  .rw[OX e,OX (b.symm.trans e)];exact(b,c,)
  .rw[OW e,OW (λz=>e<|b.trans z)];calc(b,d,)
def KV.put{kvs:O4 (κ×V)}{vs:O4 (κ×K5)}(r:KV kvs vs)(k:κ){y:V}{u:K5}(a:RelV y u):KV (putK kvs k y) (stored vs k u):=by
 unfold putK stored;rw[r.any k];by_cases e:(vs.any λb=>decide<|b.1=k)=OR
 .rw[OX e,OX e];exact r.repl k a
 .rw[OW e,OW e];calc Paired.snoc r (Z,a,)
def KV.length{kvs:O4 (κ×V)}{vs:O4 (κ×K5)}(r:KV kvs vs):⇑kvs=⇑vs:=Paired.length r
end
def CZ{P:K7}{w:K6}{k:Key}{u:K5}(r:RelV (kV k) u):(cK P w).is k u=true:=by
 cases k with
 |inl i=>obtain⟨t,e⟩:=(show ∃t,u=Qa i t from r);subst e;exact sO P w i t
 |inr x=>obtain⟨t,e⟩:=(show ∃t,u=K5.str x t from r);subst e;calc sP P w x t
def qr{P:K7}{w:K6}:∀{ks:O4 Key}{us:O4 K5},Vals (ks.map kV) us->ItemsAre (cK P w) ks us
 | [],_,r=>by rw[vr]at r;cases r;exact .nil
 |k :: ks,_,r=>by
  rw[jl]at r;cases r with
  |cons h t=>calc .cons (CZ h) (qr t)
abbrev KT(H:Hp):O4 (O4 Key×V)->O4 (O4 Key×La×K5)->Prop:=Paired λp q=>p.1=q.1/\H q.2.1=OP (.tup<|p.1.map kV)/\RelV p.2 q.2.2
def KT.val{H:Hp}{kvs:O4 (O4 Key×V)}{xs:O4 (O4 Key×La×K5)}(r:KT H kvs xs)(k:O4 Key):lh (nU kvs k) ((Ol xs k).map (·.2)):=by
 induction r with
 |nil=>exact wT
 | @cons p q ps qs h t ih =>
  let(c,_,d):=h;by_cases e:p.1=k
  .let a:q.1=k:=c.symm.trans e;let b:Ol (q :: qs) k=OP q.2:=by simp[Ol,yq,a]
   rw[tU e,b];exact d
  .let a:¬ q.1=k:=λz=>e<|c.trans z
   let b:Ol (q :: qs) k=Ol qs k:=by simp[Ol,yq,a]
   rw[tV e,b];calc ih
def KT.repl{H:Hp}{kvs:O4 (O4 Key×V)}{xs:O4 (O4 Key×La×K5)}(r:KT H kvs xs)(k:O4 Key){y:V}{u:K5}(d:RelV y u) :
  KT H (kvs.map λb=>if b.1=k then(b.1,y)else b) (xs.map<|putAt k u):=by
 induction r with
 |nil=>exact .nil
 | @cons p q ps qs h t ih =>
  rw[jl,jl];calc .cons ?_ ih;let(a,c,f):=h;unfold putAt;by_cases e:p.1=k
  .rw[OX e,OX (a.symm.trans e)];exact(a,c,d,)
  .rw[OW e,OW (λz=>e<|a.trans z)];calc(a,c,f,)
def KT.put{H:Hp}{kvs:O4 (O4 Key×V)}{xs:O4 (O4 Key×La×K5)}(r:KT H kvs xs)(k:O4 Key){b:La}{y:V}{u:K5}(d:H b=OP (.tup<|k.map kV))(a:RelV y u) :
  KT H (putK kvs k y) (storedH xs k b u):=by
 let e:(kvs.any λc=>decide<|c.1=k)=(Ol xs k).isSome:=by
  rw[nV,(r.val k).isSome_eq,Option.isSome_map]
 unfold putK storedH;rw[e];by_cases q:(Ol xs k).isSome=OR
 .rw[OX q,OX q];exact r.repl k a
 .rw[OW q,OW q];calc Paired.snoc r (Z,d,a,)
def KT.keeps{H H':Hp}{kvs:O4 (O4 Key×V)}{xs:O4 (O4 Key×La×K5)}(r:KT H kvs xs)(a:∀b ys,H b=OP (.tup ys)->H' b=OP (.tup ys)):KT H' kvs xs :=
 Paired.mapP r λ_ _ z=>(z.1,a _ _ z.2.1,z.2.2,)
def xk{u:HO}(ok:HOk P w H h)(e:Rd H a u):bq P w H h a u:=e.ok ok
def FD{kvs:O4 (Key×V)}(ok:HOk P w H h)(e:Rd H a (.dK kvs)):⇑kvs<=Lc/\(a == Ld)=OS/\∃vs,KV kvs vs/\h.DictOf (cK P w) a vs :=
 show bq P w H h a (.dK kvs)from xk ok e
def FE{kvs:O4 (Key×V)}(ok:HOk P w H h)(e:H a=OP (.dK kvs)):⇑kvs<=Lc/\(a == Ld)=OS/\∃vs,KV kvs vs/\h.DictOf (cK P w) a vs:=FD ok<|.inl e
def Ap{ks:O4 Key}(ok:HOk P w H h)(e:H a=OP (.tup<|ks.map kV)):(Lf<|cK P w).is h ks a:=by
 let(_,b,r,o,f,d,n,c):=(show bq P w H h a (.tup<|ks.map kV)from ok a _ e);calc(o,b.toArray,n,f,d,c,~~~qr r,)
def FG{kvs:O4 (O4 Key×V)}(ok:HOk P w H h)(e:Rd H a (.dT kvs)):⇑kvs<=Lc/\(a == Ld)=OS /\
  ∃xs,KT H kvs xs/\h.DictOfH (Lf<|cK P w) a xs:=by
 let(z,y,xs,r,o,es,j,i,g,f,d,c):=(show bq P w H h a (.dT kvs)from xk ok e);calc(z,y,xs,r,o,es,j,i,g,f,d,λx b=>?_,c,);let all:∀{l:O4 (O4 Key×V)}{m:O4 (O4 Key×La×K5)},KT H l m->∀x∈m,(Lf<|cK P w).is h x.1 x.2.1:=by
  intro l m q;induction q with
  |nil=>intro x b;exact nomatch b
  | @cons p q ps qs hq t ih =>
   intro x b;rcases bz.mp b with e|b
   .subst e;exact Ap ok (by rw[←hq.1];exact hq.2.1)
   .exact ih x b
 calc all r x b
def FH{kvs:O4 (O4 Key×V)}(ok:HOk P w H h)(e:H a=OP (.dT kvs)):⇑kvs<=Lc/\(a == Ld)=OS /\
  ∃xs,KT H kvs xs/\h.DictOfH (Lf<|cK P w) a xs:=FG ok<|.inl e
def  BR(H:Hp)(a:La)(y v:V)(H':Hp):Prop :=
 (∃c k,H a=OP (.dK c)/\y=kV k/\⇑c<Lc/\H'=upd H a (.dK<|putK c k v)) \/
 ∃c k b,H a=OP (.dT c)/\y=.ref b/\H b=OP (.tup<|k.map kV)/\⇑c<Lc/\H'=upd H a (.dT<|putK c k v)
def BR.t{H:Hp}{a b:La}{kvs:O4 (O4 Key×V)}{k:O4 Key}{v:V}(e:H a=OP (.dT kvs))(d:H b=OP (.tup<|k.map kV))(c:⇑kvs<Lc) :
  BR H a (.ref b) v (upd H a<|.dT<|putK kvs k v):=.inr (kvs,k,b,e,Z,d,c,Z,)
variable{y:V}{u:K5}
section
variable{v:V}{r:K5}{o:Option V}
def Inv.big(I:Inv X OU σ H s):Ld<↥s:=by
 let h:Lh<↥s:=(I.mod.glob.keeps I.bk).lt;calc Fx ⋯ h
def rA{h':Lb}{t':Nat}{c:HO}(I:Inv X OU σ H s)(mu:Mut (H a))(d:ln a s.heap h')(f:∃q,h'.get? a=OP q)(new:bq X.prog X.w (upd H a c) h' a c) :
  Inv X OU σ (upd H a c) { s with heap:=h',toks:=t' } :=
 I.write (x:=a) (e:=a) mu (.inl Z) (λb q g z=>(d.2 b g).trans z) f new
def DR{P:K7}{w:K6}{H':Hp}{h':Lb}{kvs:O4 (Key×V)}{vs:O4 (Key×K5)}(z:⇑kvs<=Lc)(c:(a == Ld)=OS)(b:KV kvs vs)(dd:h'.DictOf (cK P w) a vs) :
  bq P w H' h' a (.dK kvs):=(z,c,vs,b,dd,)
def yu{H':Hp}{Q:Unit->Lm->Prop}(K:A.units+1<Mg)(I:Inv X OU σ H s)(g:BR H a y v H')(B:RelV y u)(C:RelV v r)(h:∀s',Inv X OU σ H' s'->Q () s') :
  Lq (model X.prog X.w) A (LL (.ref a) u r) Q E s:=by
 rcases g with⟨f,k,e,t,l,x⟩|⟨f,k,b,e,t,F,l,x⟩
 .subst t x;let(z,p,J,d,dd):=FE I.hok e;let m:J.length<=Lc:=by rw[←⇑d];exact z
  let o:⇑(putK f k v)<=Lc:=by have:=mr f k v;lia
  refine wpAny_setItem_pairs (hsz:=m) (CZ B) dd λh' i n=>h _ ?_
  let L:∃q,h'.get? a=OP q:=let ⟨q,_,_,j,_⟩:=i;(q,j,);exact rA I (by rw[e];exact wT) n L (DR o p (d.put k C) i)
 .subst t x;cases (show u=bv b from B);let(z,p,G,d,dd):=FH I.hok e;let m:G.length<=Lc:=by rw[←Paired.length d];exact z
  let o:⇑(putK f k v)<=Lc:=by have:=mr f k v;lia
  refine Om (hsz:=m) (tupleKind_room_in1 K) (Ap I.hok F) dd λh' i n=>h _ ?_
  let(q,es,R,j,P,O,N,_,M):=i;refine rA I (by rw[e];exact wT) n (q,j,) (o,p,_,(d.put k F C).keeps λc S D=>?_,q,es,R,j,P,O,N,M,);rw[ar (dZ D e<|λz=>nomatch z)];calc D
end
section
variable{kvs:O4 (Key×V)}{k:Key}
end
section
variable{i value:Lu}{pos' Bz:Pos}{td ty tv:TE}
end
def Aq{P:K7}{w:K6}{H:Hp}(h:Lb)(a:Ld<h.objs.size):bq P w H (h.push { cls:=.type "dict",data:=.dict #[] }) h.objs.size (.dT []) :=
 (BG _,beq_eq_false_iff_ne.mpr<|On<|Bo a,[],.nil,_,#[],0,am _ Z,(Z,Z,Z,),Z,Z,md,)
def  DS:TE:=λ_ H Q=>∀p,H p=OQ->Q (.ref p) (upd H p<|.dT [])
def Ar:PE X (.Dict [] [] pos) DS:=λOU s σ H Q I h =>
 Oo (.ref ↥s,_,I.laid (a:=↥s) (o:=.dT []) (t':=s.toks) (λ_ _ q=>ac _ q) (Ab _)<|Aq s.heap I.big,Z,h _<|I.hok.fresh<|Ab _,)
structure M1(X:Cx)(o:Lu)(m:Str)(apos:Pos)(e:Lu)(fN:Pos):Prop where
 base:Me o m X.env (eval o X.env)=eval o X.env
 few:((Lw fN<|Ly [e] X.env).all (λx=>!x.1) && (MM fN<|MN [] X.env).all (λx=>x.1.isSome)
  && decide (⇑([e]:O4 Lu)+⇑([]:O4 Mo)+(if ([]:O4 Mo).isEmpty then 0 else 1)<30))=OR
 line:(apos.endLine == fN.line)=OR
 trees:Lw fN (Ly [e] X.env)=[(OS,eval e X.env)]
structure M2(X:Cx)(o:Lu)(m:Str)(apos:Pos)(e f:Lu)(fN:Pos):Prop where
 base:Me o m X.env (eval o X.env)=eval o X.env
 few:((Lw fN<|Ly [e,f] X.env).all (λx=>!x.1) && (MM fN<|MN [] X.env).all (λx=>x.1.isSome)
  && decide (⇑([e,f]:O4 Lu)+⇑([]:O4 Mo)+(if ([]:O4 Mo).isEmpty then 0 else 1)<30))=OR
 line:(apos.endLine == fN.line)=OR
 trees:Lw fN (Ly [e,f] X.env)=[(OS,eval e X.env),(OS,eval f X.env)]
section
variable{d:V}{r:K5}{o:Option V}
end
section
variable{f:Lu}{fN:Pos}{td ty tx:TE}
end
section
variable{kvs:O4 (Key×V)}
end
end _L
namespace Att
open PySem PySem.W PySem.Calls PyProof.Rows
section
variable{prog:K7}{w:K6}{A:Ll}{E:K5->Lm->Prop}{s:Lm}{K:Frag}
end
end Att
namespace _L
open PySem PySem.Spec PyProof.Rows
variable{P:K7}{w:K6}
section
variable{K:RD}{mg:Str->Option K5}{base:Lb}
end
variable{X:Cx}
section
variable{κ:Type} [DecidableEq κ]
end
variable{OU:O4 (La×Obj)}{σ:St}{H:Hp}{s:Lm}
def ji:Nx table "dict_itemiterator.__iter__" = OP L0.«dict_keyiterator.__iter__» :=
 Nz (id' := "dict_keyiterator.__iter__") (by kernel_rfl) (by first|rfl|decide+kernel|(unfold String.splitOn;simp +decide [String.splitOnAux])) (~~~0) (by kernel_rfl)
def dC{α b:Type}{R:α->b->Prop}:∀{xs:O4 α}{c:O4 b}{i:Nat}{x:α},Paired R xs c->xs[i]?=OP x->∃a,c[i]?=OP a/\R x a
 |_,_,0,x,.cons h tl,e=>(_,Z,by simp at e;rw[←e];exact h,)
 |_,_,i+1,x,.cons h tl,e=>by
  let(a,q):=dC (i:=i) (x:=x) tl<|~~~e;calc(a,~~~q.1,q.2,)
def  C0(it d:La)(n b:Nat)(i:Nat)(h:Lb):Prop:=∃ok a,Oq h it d i n b ok a
variable{k:Nat}
section
variable{gt:TG}{fr:O4 Nat}{tt:TT}{te:TE}
end
variable{A:Ll}{E:K5->Lm->Prop}
section
variable{P:K7}{w:K6}{K:Type} [DecidableEq K] (knd:KeyKind P w K)
inductive bY(h:Lb):O4 (O4 K)->O4 K5->Prop
 |nil:bY h [] []
 |cons {k:O4 K}{b:La}{ks:O4 (O4 K)}{vs:O4 K5}:Ot knd h k b->bY h ks vs->bY h (k :: ks) (.ref b :: vs)
def  b8(h:Lb)(ks:O4 (O4 K))(a:La):Prop:=∃o b n,h.get? a=OP o/\o.cls=.type "tuple" /\ o.data=.seq b n/\bY knd h ks b.toList
def  rB(ks:O4 (O4 K)):Nat:=(ks.map λk=>⇑k+1).sum+1
def  As(ks:O4 (O4 K)):Int:=reduceHash<|tz<|ks.map<|Ou knd
variable{knd}
def bY.inj{h:Lb}{x y:O4 (O4 K)}{vs:O4 K5}(e:bY knd h x vs)(c:bY knd h y vs):x=y:=by
 induction e generalizing y with
 |nil=>cases c;rfl
 |cons a _ d=>cases c with|cons b t=>rw[a.inj b,d t]
def bY.mono{h h':Lb}{x:O4 (O4 K)}{vs:O4 K5}(m:∀k b,Ot knd h k b->Ot knd h' k b)(d:bY knd h x vs):bY knd h' x vs:=by
 induction d with
 |nil=>exact .nil
 |cons a _ c=>calc .cons (m _ _ a) c
def b8.ty{s:Lm}{ks:O4 (O4 K)}{a:La}(x:b8 knd s.heap ks a):s.TypeIs (.ref a) "tuple" := by let(o,_,_,b,c,_):=x;calc(o,b,c,)
def b8.inj{h:Lb}{a:La}{x y:O4 (O4 K)}(g:b8 knd h x a)(f:b8 knd h y a):x=y:=by
 let(o,q,n,j,_,k,d):=g;let(l,p,m,i,_,b,c):=f;cases j.symm.trans i;rw[k]at b;injection b with e _;subst e;calc d.inj c
def b8.keeps{h h':Lb}{ks:O4 (O4 K)}{a d:La}{o:Obj} {es ep} (x:b8 knd h ks a)(i:h.get? d=OP o)(j:o.data=.dict es ep)(f:ln d h h'):b8 knd h' ks a:=by
 let(k,b,n,g,c,q,r):=x;let l:a≠d:=λe=>by subst e;cases g.symm.trans i;rw[j]at q;cases q
 calc(k,b,n,(f.2 a l).trans g,c,q,r.mono λ_ _ t=>t.keeps i j f,)
def tW{ks:O4 (O4 K)}{a:La}{Q:Int->Lm->Prop}(m:A.units+1<Mg)(l:b8 knd s.heap ks a)(h:Q (As knd ks) { s with toks:=s.toks+rB ks }):Lq (model P w) A (K8<|.ref a) Q E s:=by
 let f:=l.ty;let(o,r,n,p,_,q,hi):=l;unfold K8;first|unfold pyHashByItsType|skip
 first|refine K1 (wpAny_cRoomFor_or (.inr ∅) ?_)|skip
 calc K1<|N0 f Pa.lookup ?_;show Lq _ _ (if (OP (K5.builtin "tuple.__hash__") == OP pc)=OR then _ else _) Q E s;rw[OW (by rw[beq_builtin_none];exact bi)];calc K1<|N0 f Pa.lookup ?_;show Lq _ _ (callSpecialIfBoundUnlessNone? (.ref a) "__hash__" _ >>= _) Q E s;calc K1<|wpAny_callSpecialIfBoundUnlessNone?_slot f Pa<|MC Pa f F.entry_tuple_hash ?_<|F.args_tuple_hash_1 _;show Lq _ _ (Qr (.ref a) >>= _) _ _ s;calc K1<|Ov p q ?_;calc K1 ?_;rw[←HK];refine Ow _ (λrest (b:Array Int) g=>∃c left,ks=c++left/\bY knd s.heap left rest/\b.toList=c.map (Ou knd)/\g={ s with toks:=s.toks+(c.map λk=>⇑k+1).sum }) _ ?_ ?_ _ _ ([],ks,Z,hi,Z,Z,)
 .rintro x rest b g ⟨c,left,rfl,i,d,rfl⟩;cases i with
  | @cons k bb ks' _ h1 hl' =>
   calc K1<|wpAny_pyHash_tuple (A:=A.in1) m h1 ?_;let e:({ s with toks:=s.toks+(c.map λk=>⇑k+1).sum+(⇑k+1) }:Lm)={ s with toks:=s.toks+((c++[k]).map λk=>⇑k+1).sum }:=by simp[QF]
   first
    |exact K2 (c++[k],ks',by simp,hl',by simp[d],e,)
    |exact K1 (K2<|K2 (c++[k],ks',by simp,hl',by simp[d],e,))
 .rintro b g ⟨c,left,rfl,i,d,rfl⟩;cases i;rw[jm]at h;show Lq _ _ (retInt<|tz b.toList) _ _ _;rw[d];calc Ox ?_;show Lq _ _ (if (OT (-(2:Int)^63<=tz (c.map<|Ou knd)) && decide (tz (c.map<|Ou knd)<2^63))=OR then _ else _) Q E _;unfold As reduceHash rB at h;by_cases j:(OT (-(2:Int)^63<=tz (c.map<|Ou knd)) && decide (tz (c.map<|Ou knd)<2^63))=OR
  .rw[OX j]at h⊢;exact K2 (by simpa[QF]using h)
  .rw[OW j]at h⊢;calc K1<|Nq<|K2 (by simpa[QF]using h)
def rC{x y:O4 (O4 K)}{a b:La}{p:Fin->Lm->Prop}(L:A.units<Mg)(J:b8 knd s.heap x a)(F:b8 knd s.heap y b)(h:p (.done<|.ret<|.bool<|OT<|x=y) s) :
  Lq (model P w) A (L0.«tuple.__eq__» ([.ref a,.ref b],[],)) p E s:=by
 let D:=F.ty;let(X,l,na,O,_,R,I):=J;let(W,j,Y,N,_,Q,H):=F;show Lq _ _ (Ob (.ref b) (.type "tuple") >>= _) _ _ s;calc K1<|NR D Oy ?_;simp only[RK,KU,if_false];calc K1<|Ov O R<|K1<|Ov N Q<|K1 ?_;refine Ow _ (λrest r n=>r.1=OQ/\n=s/\∃m k d c,rest=Qo d c/\bY knd s.heap m d/\bY knd s.heap k c/\decide (m=k)=OT (x=y)/\(⇑d == ⇑c)=(l.size == j.size)) _ ?_ ?_ _ _ (Z,Z,x,y,l.toList,j.toList,Z,I,H,Z,by simp,)
 .rintro⟨u,v⟩ rest r n ⟨G,rfl,m,k,d,c,g,i,f,o,e⟩;cases i with
  |nil=>simp at g
  | @cons k1 b1 x'' xs'' h1 hx'' =>
   cases f with
   |nil=>simp at g
   | @cons k2 b2 y'' ys'' h2 hy'' =>
    rw[List.zip_cons_cons]at g;injection g with g B;injection g with z t;subst z t B;calc K1<|wpAny_eqBool_tuple (x:=k1) (y:=k2) L h1 h2 ?_;by_cases q:k1=k2
    .subst q;rw[OZ Z];simp only[RK,KU,if_false];calc K2 (Z,Z,x'',y'',xs'',ys'',Z,hx'',hy'',?_,~~~e,);rw[←o];by_cases C:x''=y'' <;> simp[C]
    .rw[O0 q];simp only[Bool.not_false,if_true];let M:decide (x=y)=false:=by rw[←o];simp[q]
     rw[M]at h;exact K1<|K2<|K2<|K2 h
 .rintro⟨V,T⟩ n ⟨G,rfl,m,k,d,c,g,i,f,o,e⟩;cases G;calc K2 ?_;let S:(l.size == j.size)=OT (x=y):=by
   rw[←o,←e];cases i with
   |nil=>cases f <;> simp
   |cons _ _=>cases f with
    |nil=>simp
    |cons _ _=>simp at g
  show p (.done<|.ret<|.bool<|l.size == j.size) n;rw[S];calc h
def tX{x y:O4 (O4 K)}{a b:La}{Q:Bool->Lm->Prop}(g:A.units+1<Mg)(d:b8 knd s.heap x a)(f:b8 knd s.heap y b)(h:Q (OT<|x=y) s):Lq (model P w) A (K9 (.ref a)<|.ref b) Q E s:=by
 unfold K9
 try with_reducible refine K3 ?_
 show Lq _ _ (if (bv a == bv b)=OR then _ else _) Q E s;by_cases c:(bv a == bv b)=OR
 .rw[OX c];let e:a=b:=by have:=eq_of_beq c;injection this
  subst e;obtain rfl:=d.inj f;exact K1<|Nq<|K2<|~~~h
 .rw[OW c]
  exact K1 (wpAny_richCompare_same_room (op:=.Eq) d.ty f.ty Pz
   (MC Pz d.ty F.entry_tuple_eq (rC (A:=A.in1) g d f (_,Z,(λe=>nomatch e),LG h,))<|F.args_tuple_eq_2 _ _) ∅)
def yv{n:Nat}{k:O4 K}{a:La}{Q:Bool->Lm->Prop}(f:Ot knd s.heap k a)(h:Q OR s):Lq (model P w) A (Oz (n+1)<|.ref a) Q E s:=by
 let g:=f.typeIs;let(o,c,m,j,_,l,hi):=f;unfold Oz;calc K1<|N0 g Pz.lookup ?_;show Lq _ _ (Ob (.ref a) (.type "tuple") >>= _) _ _ s;calc K1<|NR g Oy ?_;simp only[RK,KU,if_false];calc K1<|NU j l<|K1 ?_;show Lq _ _ (forIn c _ _) _ _ s;rw[←HK];refine Ow _ (λrest r b=>r.1=OQ/\b=s/\∀v∈rest,carriedByValue v=OR) _ ?_ ?_ _ _ (Z,Z,hi.byValue,)
 .rintro v rest r b ⟨e,rfl,i⟩;rw[eqIsQuiet_byValue _ (i v dt)];calc K1<|K2 ?_;simp only[RK,KU,if_false];exact K2 (Z,Z,λu d=>i u<|fS _ d,)
 .rintro⟨q,p⟩ b ⟨e,rfl,_⟩;cases e;calc K2 h
def vU{n:Nat}{ks:O4 (O4 K)}{a:La}{Q:Bool->Lm->Prop}(e:b8 knd s.heap ks a)(h:Q OR s):Lq (model P w) A (Oz (n+2)<|.ref a) Q E s:=by
 let f:=e.ty;let(o,c,m,i,_,j,hi):=e;unfold Oz;calc K1<|N0 f Pz.lookup ?_;show Lq _ _ (Ob (.ref a) (.type "tuple") >>= _) _ _ s;calc K1<|NR f Oy ?_;simp only[RK,KU,if_false];calc K1<|NU i j<|K1 ?_;show Lq _ _ (forIn c _ _) _ _ s;rw[←HK];refine Ow _ (λrest r b=>r.1=OQ/\b=s/\∃ks,bY knd s.heap ks rest) _ ?_ ?_ _ _ (Z,Z,_,hi,)
 .rintro v rest r b ⟨d,rfl,ks,k⟩;cases k with
  |cons t g =>
   calc K1<|yv t ?_;simp only[RK,KU,if_false];exact K2 (Z,Z,_,g,)
 .rintro⟨p,l⟩ b ⟨d,rfl,_⟩;cases d;calc K2 h
end
def  bU{P:K7}{w:K6}{K:Type} [DecidableEq K] (knd:KeyKind P w K):HeapKind P w (List<|O4 K) where
 is:=b8 knd
 hash:=As knd
 draws:=rB
 room:=λA=>A.units+1<Mg
 inj:=λb a=>b.inj a
 keeps:=λx f g e=>x.keeps f g e
 pyHash:=λc d h=>tW c d h
 eqBool:=λc b a h=>tX c b a h
 quiet:=λd h=>vU d h
abbrev NK:=List<|O4 Int
def  PrN(kvs:O4 (NK×La×V))(xs:O4 (NK×La×K5)):Prop:=Paired (λ(p:NK×La×V)(q:NK×La×K5)=>p.1=q.1/\p.2.1=q.2.1/\RelV p.2.2 q.2.2) kvs xs
def  cg(P:K7)(w:K6)(a:La)(kvs:O4 (NK×La×V)):HO:=.ext λh=>⇑kvs<=Lc/\(a == Ld)=OS/\∃b,PrN kvs b /\
 ∃o c d,h.get? a=OP o/\o.ExactDict/\o.data=.dict c d/\c.toList=b.map (Le<|bU<|Lg P w)/\(b.map (·.1)).Nodup
def  rD(H:Hp)(ks:NK)(a:La):Prop:=∃b:O4 La,H a=OP (.tup<|b.map RZ)/\Paired (λk p=>H p=OP (.tup<|k.map RV)) ks b
def  kC(H:Hp)(kvs:O4 (NK×La×V)):Prop:=∀e∈kvs,rD H e.1 e.2.1
section
variable{h:Lb}{a:La}
def tY:∀{k:O4 Int}{us:O4 K5},Vals (k.map RV) us->ItemsAre (Lg P w) k us
 | [],_,.nil=>.nil
 |i :: k,_,.cons (t,e,) r=>by subst e;calc .cons (by show P1 i (.int i t)=OR;simp[P1]) (tY r)
def BU{k:O4 Int}(ok:HOk P w H h)(e:H a=OP (.tup<|k.map RV)):Ot (Lg P w) h k a:=by
 let(_,b,r,o,f,d,n,c):=(show bq P w H h a (.tup<|k.map RV)from ok a _ e);calc(o,b.toArray,n,f,d,c,~~~tY r,)
def t7(ok:HOk P w H h):∀{ks:NK}{ps:O4 La}{us:O4 K5},Paired (λk p=>H p=OP (.tup<|k.map RV)) ks ps->Vals (ps.map RZ) us->bY (Lg P w) h ks us
 |_,_,_,.nil,.nil=>.nil
 |_,_,_,.cons e t,.cons r v=>by cases r;calc .cons (BU ok e)<|t7 ok t v
def kD{ks:NK}(ok:HOk P w H h)(e:rD H ks a):b8 (Lg P w) h ks a:=by
 let(c,j,d):=e;let(_,b,r,o,i,g,n,f):=(show bq P w H h a (.tup<|c.map RZ)from ok a _ j);calc(o,b.toArray,n,i,g,f,~~~t7 ok d r,)
def PrN.keys{kvs:O4 (NK×La×V)}{xs:O4 (NK×La×K5)}(r:PrN kvs xs):kvs.map (·.1)=xs.map (·.1):=by
 induction r with
 |nil=>rfl
 |cons e _ a=>rw[jl,jl,e.1,a]
def PrN.mem{kvs:O4 (NK×La×V)}{xs:O4 (NK×La×K5)}(r:PrN kvs xs):∀x∈xs,∃v,(x.1,x.2.1,v)∈kvs/\RelV v x.2.2:=by
 induction r with
 |nil=>intro x a;cases a
 | @cons p q ps qs e _ ih =>
  intro x a;rcases bz.mp a with rfl|a
  .exact(p.2.2,by rw[←e.1,←e.2.1];exact dt,e.2.2,)
  .let(v,c,b):=ih x a;calc(v,fS _ c,b,)
def PrN.val{kvs:O4 (NK×La×V)}{xs:O4 (NK×La×K5)}(r:PrN kvs xs)(b:(xs.map (·.1)).Nodup){ks:NK}{c:La}{v:V}(d:(ks,c,v)∈kvs):∃u,Ol xs ks=OP (c,u)/\RelV v u:=by
 let(i,hi):=QP.mp d;let(q,h,g,f,e):=dC r hi;let(k,j,a):=q;cases g;cases f;calc(a,atKey_of_get b h,e,)
def PrN.none{kvs:O4 (NK×La×V)}{xs:O4 (NK×La×K5)}(r:PrN kvs xs){ks:NK}(a:ks ∉ kvs.map (·.1)):Ol xs ks=none:=by
 refine OA λj p e=>a ?_
 rw[r.keys];calc dr.mpr ((ks,p),KP e,Z,)
def PrN.snoc{kvs:O4 (NK×La×V)}{xs:O4 (NK×La×K5)}(r:PrN kvs xs){ks:NK}{c:La}{v:V}{u:K5}(b:RelV v u):PrN (kvs++[(ks,c,v)]) (xs++[(ks,c,u)]):=by
 induction r with
 |nil=>exact .cons (Z,Z,b,) .nil
 |cons e _ a=>calc .cons e a
def Au{kvs:O4 (NK×La×V)}(ok:HOk P w H h)(e:Rd H a (cg P w a kvs))(d:kC H kvs):⇑kvs<=Lc/\(a == Ld)=OS/\∃xs,PrN kvs xs/\h.DictOfH (bU<|Lg P w) a xs:=by
 let((z,y,xs,r,o,l,m,k,j,i,g,f),_):=(show bq P w H h a (cg P w a kvs)from xk ok e);calc(z,y,xs,r,o,l,m,k,j,i,g,λx b=>by let(v,c,_):=r.mem x b;exact kD ok (d _ c),f,)
def Av{H':Hp}{kvs:O4 (NK×La×V)}{xs:O4 (NK×La×K5)}(z:⇑kvs<=Lc)(y:(a == Ld)=OS)(r:PrN kvs xs){o:Obj}{b:Array Ma}{d:Nat}(c:h.get? a=OP o)(j:o.ExactDict)(i:o.data=.dict b d)(g:b.toList=xs.map (Le<|bU<|Lg P w))(f:(xs.map (·.1)).Nodup):bq P w H' h a (cg P w a kvs) :=
 ((z,y,xs,r,o,b,d,c,j,i,g,f,),(o,c,),λ_ _ (z,y,xs,r,o,b,d,c,e,) k=>(z,y,xs,r,o,b,d,k o c,e,),)
end
def  DT(P:K7)(w:K6):TE:=λ_ H Q=>∀p,H p=OQ->Q (.ref p) (upd H p<|cg P w p [])
def Aw{pos:Pos}:PE X (.Dict [] [] pos) (DT X.prog X.w):=λOU s σ H Q I h =>
 Oo (.ref ↥s,_,I.laid (a:=↥s) (o:=cg X.prog X.w ↥s []) (t':=s.toks) (λ_ _ q=>ac _ q) (Ab _)
  (Av (xs:=[]) (BG _) (beq_eq_false_iff_ne.mpr<|On<|Bo I.big) .nil (am _ Z) (Z,Z,Z,) Z Z md),Z,h _<|I.hok.fresh<|Ab _,)
inductive FI(P:K7)(w:K6)(x:V)(y:V)(H:Hp)(Q:VK):Prop
 |mk (a b c:La)(kvs:O4 (NK×La×V))(ks:NK)(v:V)(_:x=.ref a)(_:y=.ref b)(_:Rd H a (cg P w a kvs))(_:kC H kvs)(_:rD H ks b)(_:(ks,c,v)∈kvs)(_:Q v H)
def fc{k:Nat}(l:bK k X.A):IxR X (FI X.prog X.w):=by
 intro e f OU s σ H x y v u Q I i g h j;let(a,b,c,B,D,z,rfl,rfl,p,n,o,m,q):=h;cases i;cases g;let(_,_,C,d,dd):=Au I.hok p n;let(u,t,r):=d.val dd.choose_spec.choose_spec.choose_spec.2.2.2.2.2 m;calc PyProof.Rows.tail_any dd.typeIs slot_dict_getitem.lookup (wpAny_getItem_heap (knd:=bU<|Lg X.prog X.w) (by have:=l.units;show X.A.in1.units+1<Mg;simp only[Ll.in1];lia) (kD I.hok o) dd t (z,H,I.tok _,r,q,)) j
inductive FJ(P:K7)(w:K6)(neg:Bool)(x:V)(y:V)(H:Hp)(Q:VK):Prop
 |mk (a b:La)(kvs:O4 (NK×La×V))(ks:NK)(_:x=.ref b)(_:y=.ref a)(_:Rd H a (cg P w a kvs))(_:kC H kvs)(_:rD H ks b)(_:Q (.bl (if neg then !OT (ks∈kvs.map (·.1))else decide (ks∈kvs.map (·.1)))) H)
def BV{xs:O4 (NK×La×K5)}{kvs:O4 (NK×La×V)}{ks:NK}(r:PrN kvs xs)(b:(xs.map (·.1)).Nodup):(Ol xs ks).isSome=OT (ks∈kvs.map (·.1)):=by
 by_cases a:ks∈kvs.map (·.1)
 .rw[OZ a];let((k,c,v),d,rfl):=dr.mp a;let(u,e,_):=r.val b d;rw[e];rfl
 .rw[O0 a,r.none a];rfl
def qt{k:Nat}(f:bK k X.A):OpR X (L6 .NotIn) (FJ X.prog X.w OR):=by
 intro OU s σ H x y v u Q I e d h;let(a,b,m,o,rfl,rfl,l,g,j,q):=h;cases e;cases d;let(_,i,n,c,dd):=Au I.hok l g;refine wpAny_notIn_heap (knd:=bU<|Lg X.prog X.w) (by have:=f.units;show X.A.in1.units+1<Mg;simp only[Ll.in1];lia) (kD I.hok j) i dd ?_;rw[BV c dd.choose_spec.choose_spec.choose_spec.2.2.2.2.2];calc(.bl _,H,I.tok _,Z,q,)
def  FK(P:K7)(w:K6)(g ty f:TE):TS:=λD σ H=>f σ H λv i=>g σ i λx h=>ty σ h λy d=>∃(a b:La)(c:O4 (NK×La×V))(e:NK),x=.ref a/\y=.ref b/\d a=OP (cg P w a c)/\kC d c/\rD d e b/\⇑c<Lc/\e ∉ c.map (·.1)/\D.nx σ (upd d a<|cg P w a<|c++[(e,b,v)])
def BW{o i c:Lu}{m ty l:TE}{pos d:Pos}{k:Nat}(N:bK k X.A)(O:PE X o m)(hi:PE X i ty)(M:PE X c l)(g:LJ c (OP<|.Subscript o i d) pos.line X.env=pure OS) :
  PS X (.Assign [.Subscript o i d] c pos) (FK X.prog X.w m ty l):=by
 intro OU s σ H D I h;calc OB (thn (M OU s σ H _ I h) λr B (v,H1,I1,F,K,)=>thn (O OU B σ H1 _ I1 K) λu s2 (x,H2,I2,E,J,)=>thn (hi OU s2 σ H2 _ I2 J) λiv s3 (y,H3,j,C,a,b,a0,ks,ex,ey,p,R,T,Q,P,G,)=>?_) g;subst ex ey;cases E;cases C;let(z,S,t,e,dd):=Au j.hok (.inl p) R;let L:⇑t<=Lc:=by rw[←Paired.length e];exact z
 refine Om (hsz:=L) (knd:=bU<|Lg X.prog X.w) (by have:=N.units;show X.A.in1.units+1<Mg;simp only[Ll.in1];lia) (kD j.hok T) dd λh' f g=>?_
 rw[storedH_new (e.none P)]at f;let(q,es,ep,n,Z,Y,W,_,V):=f;calc(σ,_,rA j (by rw[p];exact wT) g (q,n,) (Av (by rw[br];exact Q) S (e.snoc F) n Z Y W V),G,)
def  lK(h:Lb)(d:La)(a:Array Ma)(b:Nat):Prop:=∃o,h.get? d=OP o/\o.ExactDict/\o.data=.dict a b
variable{d:La}{es:Array Ma}{ep:Nat}
section
variable{it:La}{i:Nat}
def lK.ty(x:lK s.heap d es ep):s.TypeIs (.ref d) "dict" := by let(o,h,c,_):=x;calc(o,h,c.1,)
def BX{Q:K5->Lm->Prop}(b:(d == Ld)=OS)(x:lK s.heap d es ep)(f:(es.size:Int)<2^63)(h:∀t t',Q (.int es.size t) { s with toks:=t' }):Lq (model P w) A (call (.builtin "len") [.ref d]) Q E s:=by
 let a:=x.ty;let(o,e,g,c):=x;calc Qm kind_len plain_len entry_len (args_len1 _) ?_;unfold L0.«len»;calc K1 (m:=oneArg "len" _)<|K2<|K1 (m:=callSpecial? (.ref d) s!"__len__")<|MB (name:=s!"__len__") a F.slot_dict_len<|MC F.slot_dict_len a F.entry_dict_len ?_<|F.args_dict_len_1 _;show Lq _ _ (dictSize d >>= _) _ _ s;unfold dictSize;calc K1<|K1<|OC e c<|K2 ?_;show Lq _ _ (L0.Dict.pendingCount d >>= _) _ _ s;calc K1<|wpAny_pendingCount_other b<|Ox ?_;rw[show((es.size:Int)+((0:Nat):Int))=es.size by lia];calc K1<|K3<|K2<|K1<|Oe ?_;show Lq _ _ (if ((es.size:Nat):Int)<0 then _ else _) _ _ _;rw[OW ∅];show Lq _ _ (if ((es.size:Nat):Int) ≥ 2^63 then _ else _) _ _ _;rw[OW ∅];calc K1<|wpAny_mkInt<|K2 (_,Z,h _ _,)
def yw{Q:K5->Lm->Prop}(b:(d == Ld)=OS)(x:lK s.heap d es ep)(h:Q (.ref ↥s) { s with heap:=s.heap.push { cls:=.type "dict_items",data:=.fields #[.ref d] } }):Lq (model P w) A (call (.builtin "dict.items") [.ref d]) Q E s:=by
 let a:=x.ty;calc MC F.slot_dict_items a F.entry_dict_items ?_<|F.args_dict_items_1 _;unfold L0.«dict.items»;calc K1 ?_;unfold L0.Dict.noArgs;calc K1<|OD a ?_;show Lq _ _ (pure d) _ _ s;calc K2 ?_;show Lq _ _ (O7 d >>= _) _ _ s;unfold O7;rw[OW (by rw[b];exact bi)];calc K1<|K2<|K1<|ME<|K2 (_,Z,h,)
def Ax{v:La}{Q:K5->Lm->Prop}(a:s.heap.IsItemsView v d)(x:lK s.heap d es ep)
  (g:Q (.ref ↥s) { s with heap:=s.heap.push { cls:=.type "dict_itemiterator",data:=.fields #[.none,.bool OS,.ref d,.int 0 0,.int es.size 0,.int ep 0,.none,.none] } }):Lq (model P w) A (LU<|.ref v) Q E s:=by
 let(i,f,h,e):=id a;let(o,c,j,b):=id x;calc NV a.typeIs Q2<|MC Q2 a.typeIs F.entry_dict_items_iter ?_<|F.args_dict_items_iter_1 _;unfold L0.«dict_items.__iter__»;calc K1<|K2<|K1 ?_;unfold L0.Dict_items.dictOf;calc K1<|Mz f e (x:=.ref d) Z<|K2<|K1 ?_;unfold L0.Dict_items.newIterator;calc K1<|OC c b<|K1<|OE c b ?_;let own:wp "dict_itemiterator" = true:=⋯
 simp only[own,if_true];refine ME (K2 (_,Z,"dict_itemiterator",_,(_,am _ Z,Z,),on.lookup,?_,)) (by simp only[sizeOk,Px,fI,br,fk,zo,L9];lia);simpa[LV,Px]using g
def Ay{ok u:K5}{e:Ma}{Q:Option K5->Lm->Prop}(c:Oq s.heap it d i es.size ep ok u)(x:lK s.heap d es ep)(Y:es[i]?=OP e)
  (hQ:∀h',OF h' it d (i+1) es.size ep e.key e.val ↥s->h'.get? ↥s=OP { cls:=.type "tuple",data:=.seq #[e.key,e.val] }->h'.objs.size=↥s+1->(∀b o,b≠it->s.heap.get? b=OP o->h'.get? b=OP o)->Q (OP<|.ref ↥s) { s with heap:=h' }):Lq (model P w) A (LR<|.ref it) Q E s:=by
 let(a,g,C,l,v):=s;let(od,D,a0,G):=id x;let h:Go ⟨a,g,C,l,v⟩ (.ref it) "dict_itemiterator" := (_,c,Z,);unfold LR;calc K1<|ND<|MB (name:=s!"__next__") h on<|MC on h Qf ?_<|Qc _;calc K1<|K2<|K1<|K1 ?_;first|refine K1 (OG h<|K2<|K1<|NG c Z ?_)|refine K1 (OH h<|K2<|K1<|NG c Z ?_)
 let own:wp "dict_itemiterator" = true:=⋯
 simp only[own,if_true];show Lq _ _ (if (bv d == pc)=OR then _ else _) _ _ _;rw[OW (show ¬ ((bv d == pc)=OR)from bi)];calc K1<|K2<|K1<|OC D G ?_;rw[OW (by simp)];calc K1<|K2<|K1<|OE D G ?_;rw[OW (by simp)];calc K2 ?_;simp only[show ¬ ((i:Int)<0)from by lia,if_false,Kn,Y];calc K1 ?_;first|refine K1 (OG h<|K2<|K1<|OI h ?_)|refine K1 (OH h<|K2<|K1<|OI h ?_)
 show Lq _ _ (OJ (.ref it) 3 (LV<|(i:Int)+1) >>= _) _ _ (a,g,C,l,v,);refine K1 (NI c (by simp) λj B t=>?_);replace t:ln it a j:=t
 replace B:Oq j it d (i+1) es.size ep ok u:=by
  let z:((i+1:Nat):Int)=(i:Int)+1:=∅
  unfold Oq;rw[z];simpa[LV]using B
 let S:Go ⟨j,g,C,l,v⟩ (.ref it) "dict_itemiterator" := (_,B,Z,);calc K1<|K3<|K1<|OI S<|K1<|OI S ?_;show Lq _ _ (PF (.ref it) 6 e.key e.val) _ _ (j,g,C,l,v,);unfold PF;calc K1<|NY ?_;let y:Oq (j.push { cls:=.type "tuple",data:=.seq #[e.key,e.val] }) it d (i+1) es.size ep ok u:=ac _ B;generalize H:j.push { cls:=.type "tuple",data:=.seq #[e.key,e.val] }=h2 at y;let z1:j.objs.size=a.objs.size:=t.1;let X:it<a.objs.size:=al c;let V:h2.get? a.objs.size=OP { cls:=.type "tuple",data:=.seq #[e.key,e.val] }:=by rw[←H,←z1];exact am _ Z
 let T:h2.objs.size=a.objs.size+1:=by rw[←H,jp,z1]
 let W:∀b o,b≠it->a.get? b=OP o->h2.get? b=OP o:=λb o k e=>by rw[←H];exact ac _<|t.extBut b o k e
 show Lq _ _ (Pw (.ref it) >>= _) _ _ (h2,g,C,l,v,);rw[z1];clear H B t S z1 j;calc K1 ?_;unfold Pw;calc K1<|Mz y Z (x:=.none) Z<|K2 ?_;simp only[if_true];calc K1<|Mz y Z (x:=ok) Z<|K1<|Mz y Z (x:=u) Z ?_;refine K1 (NI y (by simp) λL R r=>?_);replace r:ln it h2 L:=r
 replace R:Oq L it d (i+1) es.size ep e.key u:=R
 refine K1 (NI R (by simp) λK O p=>?_);replace p:ln it L K:=p
 replace O:Oq K it d (i+1) es.size ep e.key e.val:=O
 refine K1 (NI O (by simp) λJ N n=>?_);replace n:ln it K J:=n
 replace N:OF J it d (i+1) es.size ep e.key e.val a.objs.size:=N
 refine K1 (NI N (by simp) λI M m=>?_);replace m:ln it J I:=m
 replace M:OF I it d (i+1) es.size ep e.key e.val a.objs.size:=M
 let f:=CD X;calc K1<|Oe<|K2<|K2 (_,Z,K2<|hQ I M (m.extBut _ _ f<|n.extBut _ _ f<|p.extBut _ _ f<|r.extBut _ _ f V) ?_ λb o k q=>m.extBut b o k<|n.extBut b o k<|p.extBut b o k<|r.extBut b o k<|W b o k q,);show I.objs.size=a.objs.size+1;rw[m.1,n.1,p.1,r.1,T]
def BY{ok h:K5}{Q:Option K5->Lm->Prop}(k:A.handled=OQ)(c:Oq s.heap it d i es.size ep ok h)(x:lK s.heap d es ep)(j:es.size<=i)(l:∀h',Qb it s.heap h'->Q OQ { s with heap:=h' }):Lq (model P w) A (LR<|.ref it) Q E s:=by
 let(o,f,n,g):=id x;let e:s.TypeIs (.ref it) "dict_itemiterator" := (_,c,Z,);unfold LR;calc K1<|ND<|MB (name:=s!"__next__") e on<|MC on e Qf ?_<|Qc _;calc K1<|K2<|K1<|K1 ?_;first|refine K1 (OG e<|K2<|K1<|NG c Z ?_)|refine K1 (OH e<|K2<|K1<|NG c Z ?_)
 let own:wp "dict_itemiterator" = true:=⋯
 simp only[own,if_true];show Lq _ _ (if (bv d == pc)=OR then _ else _) _ _ s;rw[OW (show ¬ ((bv d == pc)=OR)from bi)];calc K1<|K2<|K1<|OC f g ?_;rw[OW (by simp)];calc K1<|K2<|K1<|OE f g ?_;rw[OW (by simp)];calc K2 ?_;simp only[show ¬ ((i:Int)<0)from by lia,if_false,Kn,wS j];calc K1 ?_;first|refine K1 (OG e<|K2 ?_)|refine K1 (OH e<|K2 ?_)
 show Lq _ _ (OJ (.ref it) 2 .none >>= _) _ _ s;refine K1 (NJ c Z (by simp) ?_);show Lq _ _ (NL (.type "StopIteration") [] >>= _) _ _ _;calc K1 ?_;simp only[NL,NM];refine K1 (ME ?_ (by size_fits));refine K1 (m:=NN _ _) (Nr (a:=pc) (by first|rfl|(simp only[NN];rfl)) (ME ?_ (by size_fits)));simp only[NO];calc K1<|NP ?_;rw[show A.in1.handled=OQ from k];calc K1<|K2<|NQ ?_;calc K1<|NR (T := "StopIteration") (b:=OR) (_,am _ Z,Z,) NS ?_;calc K2<|l _<|((li ..).extBut.push _).push _
end
def Inv.freezeX{d:La}{o:Obj}{h:Lb->Prop}(I:Inv X OU σ H s)(e:H d=OP (.ext h))(g:s.heap.get? d=OP o):Inv X OU σ (upd H d<|.frz o<|.ext h) s:=by
 let k:∀{b u},H b=OP u->u≠.ext h->b≠d:=λq n z=>by rw[z,e]at q;exact n (bm q).symm
 let j:∀{b},H b=OQ->b≠d:=λq z=>by rw[z,e]at q;cases q
 let w:∀(a b:La),H b=OP (.own a)->upd H d (.frz o<|.ext h) b=OP (.own a):=λa b q=>by rw[ar (k q (by intro z;cases z))];exact q
 let m:∀b f,H b=OP (.tup f)->upd H d (.frz o<|.ext h) b=OP (.tup f):=λb f q=>by rw[ar (k q (by intro z;cases z))];exact q
 refine(I.ok,I.os,I.bare,(I.base.keep,I.base.slot,λb q v l t=>?_,I.base.there,λb f q=>m b f<|I.base.tups b f q,λb q u r=>?_,λb A q=>?_,),I.loc,I.cell,?_,λx c q=>?_,λp B=>?_,λb u q=>?_,I.len,)
 .let:=I.base.free b q v l t;rw[ar (j this)];exact this
 .let:=I.base.frzs b q u r;rw[ar (k this (by intro z;cases z))];exact this
 .let(i,this):=I.base.tbls b A q;exact⟨i,by rw[ar (k this (by intro z;cases z))];exact this⟩
 .rw[ar (j I.free)];exact I.free
 .rw[ar (j<|I.freeC x c q)];exact I.freeC x c q
 .let(v,l,t):=I.pin p B;exact(v,by rw[ar (j l)];exact l,t,)
 .by_cases y:b=d
  .subst y;rw[af]at q;cases q;exact(g,(I.hok b _ e).stay (λ_ _ _ q=>q) (w b) m,)
  .rw[ar y]at q;calc(I.hok b u q).stay (λ_ _ _ q=>q) (w b) m
section
variable{h:Lb}{o:Obj}{kvs:O4 (NK×La×V)}
def vV(ok:HOk P w H h)(e:Rd H d (cg P w d kvs)):(d == Ld)=OS/\∃(es:Array Ma)(ep:Nat),lK h d es ep/\es.size=⇑kvs/\es.size<=Lc/\∀(i:Nat)(a:NK×La×V),kvs[i]?=OP a->∃b:Ma,es[i]?=OP b/\b.key=.ref a.2.1/\RelV a.2.2 b.val:=by
 let((z,y,n,r,o,es,ep,j,g,f,c,p),_):=(show bq P w H h d (cg P w d kvs)from xk ok e);let sz:es.size=⇑kvs:=by rw[←Ht,c,aa,←Paired.length r]
 calc(y,es,ep,(o,j,g,f,),sz,∅,λi a hi=>?_,);let(q,m,s,l,k):=dC r hi;calc(_,by rw[←HH,c,dy,m];rfl,by show bv q.2.1=_;rw[←l],k,)
end
def jb:dh X (.builtin "len") (λxs H Q=>∃a kvs,xs=[RZ a]/\Rd H a (cg X.prog X.w a kvs)/\Q (.int ⇑kvs) H):=by
 intro OU s σ H xs g Q I r h;let(a,kvs,rfl,f,q):=h;let(u,rfl,c):=vals1 r;cases c;let(e,es,ep,d,sz,b,_):=vV I.hok f;refine BX e d (by rw[L9]at b;lia) λt i=>?_
 rw[sz];calc(.int ⇑kvs,H,I.tok _,(t,Z,),q,)
def  ItN(P:K7)(w:K6)(d:La)(o:Obj)(kvs:O4 (NK×La×V)):It :=
 (λi H=>H d=OP (.frz o<|cg P w d kvs)/\i<⇑kvs,
 λi H v b=>∃T a,H T=OQ/\v=.ref T/\kvs[i]?=OP a/\b=upd H T (.tup [.ref a.2.1,a.2.2]),
 λi H=>H d=OP (.frz o<|cg P w d kvs)/\⇑kvs<=i,)
def xl{P:K7}{w:K6}{H:Hp}{h:Lb}{d:La}{o:Obj}{kvs:O4 (NK×La×V)}{es:Array Ma}{ep:Nat}(ok:HOk P w H h)(e:H d=OP (.frz o<|cg P w d kvs))(j:o.data=.dict es ep):lK h d es ep/\es.size=⇑kvs/\∀(i:Nat)(a:NK×La×V),kvs[i]?=OP a->∃b:Ma,es[i]?=OP b/\b.key=.ref a.2.1/\RelV a.2.2 b.val:=by
 let(q,m,n,(p,f,k,c),sz,_,l):=vV ok<|.inr (o,e,);let(g,_):=(show bq P w H h d (.frz o<|cg P w d kvs)from ok d _ e);rw[g]at f;cases f;rw[j]at c;cases c;calc((o,g,k,j,),sz,l,)
def t8{P:K7}{w:K6}{K:RD}{j:O4 Lu} {x1} {tp:Pos}{it d:La}{o:Obj}{kvs:O4 (NK×La×V)}{es:Array Ma}{ep:Nat}(G:o.data=.dict es ep) :
  Turn P w K (.Tuple j x1 tp) (ItN P w d o kvs) [it] it (C0 it d ⇑kvs ep) where
 mem:=by simp
 obj:=λi h e c a=>by
  let(ok,g,b):=e;rw[dV.mp a];exact⟨_,b,λv q=>nomatch q⟩
 keep:=λi h h' e k=>by
  let(ok,g,b):=e;exact(ok,g,k it (by simp) _ b,)
 item:=by
  intro X r n t a i OU s σ H E I l e p;subst r n t;let(hd,hi):=p;let(ok,g,b):=e;let(m,sz,M):=xl I.hok hd G;let C:=KN hi;generalize kvs[i]=kv at C;let(L,e1,Y,S):=M i kv C;rw[←sz]at b;refine Ay b m e1 λR a1 a2 a3 a4=>(_,Z,wpAny_letOwnedTupleGo_items (s:={ s with heap:=R }) a1 λB b1 b2=>?_,)
  let N:s.heap.get? ↥s=none:=by
   cases q:s.heap.get? ↥s with
   |none=>rfl
   |some o=>exact OY (al q) (DE _)
  let f:H ↥s=none:=I.hok.fresh<|Ab _;let D:↥s≠it:=CD<|al b;let O:∀c o,c ∉ [it]->s.heap.get? c=OP o->B.get? c=OP o:=λc o a q=>by
   let a:c≠it:=λz=>a (by rw[z];simp)
   exact b2.extBut _ _ a<|a4 c o a q
  let J:=I.turnedPair (h':=B) (ch:=[it]) (T:=↥s) (x:=.ref kv.2.1) (y:=kv.2.2) (u:=L.key) (v:=L.val) l O N f (b2.extBut _ _ D a2) (by rw[Y];exact Z) S;refine(.ref ↥s,upd H ↥s<|.tup [.ref kv.2.1,kv.2.2],J,Z,(_,kv,f,Z,C,Z,),(_,_,by rw[←sz];exact b1,),λc a=>?_,);rw[dV.mp a,ar D.symm];exact(l it (by simp)).1
 done:=by
  intro X r n t a i OU s σ H E I l e p;subst r n t;let(hd,hi):=p;let(ok,g,b):=e;let(m,sz,M):=xl I.hok hd G;rw[←sz]at b;exact BY (I.ok.hd a) b m ∅ λB k=>(Z,I.turnedL (ch:=[it]) l λc o a q=>k c o (λz=>a (by rw[z];simp)) q,)
 self:=λA i s Q E e h=>by
  let(ok,g,b):=e;let f:s.TypeIs (.ref it) "dict_itemiterator" := (_,b,Z,);calc NV f Qk<|MC Qk f ji ?_<|F.args_dict_itemiterator_iter_1 _;show Lq _ _ (ret<|.ref it) _ _ s;calc K2 (_,Z,"dict_itemiterator",_,f,on.lookup,h,)
inductive xm(P:K7)(w:K6)(R:It->Rr)(x:V)(H1:Hp):Prop
 |mk (d:La)(kvs:O4 (NK×La×V))(_:x=.ref d)(_:H1 d=OP (cg P w d kvs))(_:∀o,R (ItN P w d o kvs)<|upd H1 d<|.frz o<|cg P w d kvs)
def  FL(P:K7)(w:K6)(a:TE):TI:=λσ H R=>a σ H λx b=>xm P w R x b
def yx{e:Lu}{m:TE}{g r:Pos}{i:O4 Lu} {x1} {tp:Pos}(G:PE X e m)
  (C:Me e "items" X.env (eval e X.env)=eval e X.env:=by rfl) (B:(g.endLine == r.line)=true:=by rfl) :
  PI X (.Tuple i x1 tp) (.Call (.Attribute e "items" g) [] [] r) (FL X.prog X.w m):=by
 intro OU s σ H R I h;calc wpAny_Call_method0_late C B<|thn (G OU s σ H _ I h) λv a (x,z,y,D,d,f,L,t,q,)=>?_;subst L;obtain rfl:v=bv d:=D;let(E,es,ep,j,sz,M,N):=vV y.hok<|.inl t;let(o,k,p,n):=id j;refine("dict","dict.items",F.plainAttrs_dict,F.slot_dict_items,F.type_dict_items,j.ty,λb q=>by cases q;exact(o,k,p.2.1,),?_,);calc QE Z<|PySem.evalArgs_none<|yw E j ?_;let l:Inv X OU σ (upd z d<|.frz o<|cg X.prog X.w d f) a:=y.freezeX t k;let K:(a.heap.push { cls:=.type "dict_items",data:=.fields #[.ref d] }).get? d=OP o:=ac _ k;calc Ax (s:={ a with heap:=a.heap.push { cls:=.type "dict_items",data:=.fields #[.ref d] } }) (d:=d) (_,am _ Z,Z,Z,) (o,K,p,n,) ?_;let A:(a.heap.push { cls:=.type "dict_items",data:=.fields #[.ref d] }).objs.size=↥a+1:=by simp[Lb.push]
 let big:↥a<=(a.heap.push { cls:=.type "dict_items",data:=.fields #[.ref d] }).objs.size:=by rw[A];lia
 refine(_,[_],C0 _ d ⇑f ep,ItN X.prog X.w d o f,upd z d<|.frz o<|cg X.prog X.w d f,Z,l.kept (t':=a.toks)<|λb u q=>ac _<|ac _ q,t8 n,(.none,.none,by rw[←sz];exact am _ Z,),λc J=>?_,q o,);rw[dV.mp J];calc l.fpOk big<|l.hok.fresh big
section
variable{gt:TG}{fr:O4 Nat}{tt:TT}{te:TE}
def rE{P:K7}{w:K6}{d:La}{o:Obj}{kvs:O4 (NK×La×V)}{σ:St}{f:Hp}{Q:VK}(a:La->Nat->O4 V->Rr)(u:∀D,f D=OQ->a D 0 [] (upd f D<|.lst []))
  (s:∀D i ys H,f D=OQ->i<=⇑kvs->a D i ys H->H d=OP (.frz o<|cg P w d kvs))
  (r:∀D i h ys H T,f D=OQ->kvs[i]?=OP h->a D i ys H->H T=OQ->∀ts:St,⇑ts=k->gt (.ref T) (cH σ fr ts) (upd H T<|.tup [.ref h.2.1,h.2.2]) λc v=>(∃g:St,⇑g=k/\c=cH σ fr g)/\tt c v λb n=>if b=OR then te c n (c0 a D i ⇑kvs)else d6 a D i ⇑kvs n)
  (hd:∀D ys H,f D=OQ->a D ⇑kvs ys H->Q (.ref D) H):fB (ItN P w d o kvs) gt k fr tt te σ Q f:=by
 intro D j;calc(λi m H=>m=⇑kvs-i/\i<=⇑kvs/\∃ys,a D i ys H,(_,Z,BG _,[],u D j,),?_,);rintro i m H ⟨rfl,hi,ys,p⟩;let q:=s D i ys H j hi p;by_cases l:i<⇑kvs
 .refine .inr ((q,l,),λx z y=>?_,);let(T,h,t,rfl,e,rfl):=y;exact r D i _ ys _ T j e p t
 .let e:i=⇑kvs:=∅
  subst e;calc .inl ((q,Ab _,),hd D ys H j p,)
end
section
variable{P:K7}{w:K6}{K:Type} [DecidableEq K] {knd:KeyKind P w K}{h h':Lb}{d:La}
def  xn(h h':Lb):Prop:=∀b o,h.get? b=OP o->o.cls=.type "tuple" -> h'.get? b=OP o
def bY.stay{x:O4 (O4 K)}{vs:O4 K5}(k:xn h h')(r:bY knd h x vs):bY knd h' x vs :=
 r.mono λ_ _ t=>by let(o,i,n,g,c,q):=t;calc(o,i,n,k _ _ g c,c,q,)
def b8.stay{ks:O4 (O4 K)}{a:La}(k:xn h h')(x:b8 knd h ks a):b8 knd h' ks a:=by
 let(o,i,n,g,c,q,r):=x;calc(o,i,n,k _ _ g c,c,q,r.stay k,)
def rF{xs:O4 (O4 (O4 K)×La×K5)}(x:h.DictOfH (bU knd) d xs)(e:∀o,h.get? d=OP o->h'.get? d=OP o)(k:xn h h'):h'.DictOfH (bU knd) d xs:=by
 let(o,es,ep,j,i,g,f,c,b):=x;calc(o,es,ep,e o j,i,g,f,λx a=>b8.stay k<|c x a,b,)
def rG{A:Ll}{I ax:La}{items:Array K5}{ps:O4 (O4 (O4 K)×La×K5)}{res:K5}(hh:A.handled=OQ)(hu:A.in1.units+1<Mg)(hI:I≠ax)(h:d≠I)(Y:d≠ax)(a2:⇑ps=items.size)(W:(ps.map (·.1)).Nodup)(hsz:items.size<=Lc) :
  ∀(k i:Nat)(s:Lm)(F:Tok)(R:Mc->Lm->Prop),items.size-i=k->i<=items.size->s.heap.IsListIter I ax i->s.heap.IsList ax items->s.heap.DictOfH (bU knd) d (ps.take i) ->
   (∀(j:Nat)(p:O4 (O4 K)×La×K5),ps[j]?=OP p->∃(t:La)(o:Obj)(n:Nat),items[j]?=↑t/\s.heap.get? t=OP o/\o.cls=.type "tuple" /\ o.data=.seq #[.ref p.2.1,p.2.2] n/\b8 knd s.heap p.1 p.2.1) ->
   (∀h' E,h'.DictOfH (bU knd) d ps->(∀b o,b≠I->b≠d->s.heap.get? b=OP o->h'.get? b=OP o)->R (.ok<|.ret res) { s with heap:=h',toks:=E }) ->
   Md (model P w) A (.builtin "dict.update.loop" ([.ref d,.ref I,.int (i:Int) F,res],[],)) R s:=by
 intro k;induction k with
 |zero =>
  intro i s F R hk hi a D r L M;let X:i=items.size:=∅
  calc M8 fF ?_;rw[io cM _];unfold L0.«dict.update.loop»;show Lq _ A.in1 (LR (.ref I) >>= _) _ _ s;let q:s.TypeIs (.ref I) "list_iterator" := by let(o,e,c,_):=id a;exact(o,e,c,)
  refine K1 (LX (by simp[hh]) a D (by simp[X]) λh' g=>?_);show Lq _ A.in1 (L0.Dict.addKeywords d [] >>= _) _ _ _;calc K1<|K2<|K2<|M h' _ ?_ λb o hb _ e=>g b o hb e;rw[lz ∅]at r;refine rF r (λo e=>g _ _ h e) λb o e c=>g b o (λz=>?_) e
  let(o2,v,u):=q;rw[z,v]at e;cases e;rw[u]at c;exact OY c ⋯
 |succ k ih =>
  intro i s F R hk hi a D r L M;let a3:i<items.size:=∅
  let ep:=KN (l:=ps) (i:=i) ∅;let(t,o,n,e1,e2,e3,e4,e5):=L i _ ep;let q:s.TypeIs (.ref I) "list_iterator" := by let(o,e,c,_):=id a;exact(o,e,c,)
  let H:∀b o,s.heap.get? b=OP o->o.cls=.type "tuple" -> b≠I:=λb o e c z=>by
   let(o2,v,u):=q;rw[z,v]at e;cases e;rw[u]at c;exact OY c ⋯
  let nd:∀b o,s.heap.get? b=OP o->o.cls=.type "tuple" -> b≠d:=λb o e c z=>by
   let(o2,v,u):=r.typeIs;rw[z,v]at e;cases e;rw[u]at c;exact OY c ⋯
  calc M8 fF ?_;rw[io cM _];unfold L0.«dict.update.loop»;show Lq _ A.in1 (LR (.ref I) >>= _) _ _ s;calc K1<|LW a D e1 λN BZ G=>?_;let J:xn s.heap N:=λb o e c=>(G.2 b<|H b o e c).trans e
  let et:=J t o e2 e3;calc K1<|K3<|K1<|OK ?_;unfold L0.Dict.pairItems;calc K1<|MD (T := "tuple") (o,et,e3,) ?_;rw[OX ⋯];calc K1<|NU et e4<|K2 ?_;show Lq _ _ (holding [.ref (ps[i]).2.1,(ps[i]).2.2] (dictSet d (.ref (ps[i]).2.1) (ps[i]).2.2)) _ _ _;calc K3 ?_;let a0:N.DictOfH (bU knd) d (ps.take i):=rF r (λo e=>(G.2 d h).trans e) J;refine wpAny_dictSet_heap (knd:=bU knd) (s:={ s with heap:=N }) (hsz:=by rw[hZ];lia) hu (e5.stay J) a0 λh2 m s2=>?_
  let C:∀b f,b≠I->b≠d->s.heap.get? b=OP f->h2.get? b=OP f:=λb f B y e=>(s2.2 b y).trans<|(G.2 b B).trans e
  let V:Ol (ps.take i) (ps[i]).1=none:=OA λj p x=>by
   let hj:j<i:=by have:=(KO.mp x).1;rw[hZ]at this;lia
   rw[EQ hj]at x;let:=idxH_unique W x (show ps[i]?=OP ((ps[i]).1,(ps[i]).2)from ep);lia
  rw[storedH_new V]at m;let a1:ps.take i++[((ps[i]).1,(ps[i]).2.1,(ps[i]).2.2)]=ps.take (i+1):=(List.take_append_getElem ∅);rw[a1]at m;calc K2 (Na cM _,?_,);calc ih (i+1) { s with heap:=h2,toks:=s.toks+rB (ps[i]).1 } 0 R ∅ ∅ (BZ.at λf e=>(s2.2 I h.symm).trans e) (D.at λf e=>C ax f hI.symm Y.symm e) m (λj p x=>?_) (λh3 E Z S=>M h3 E Z λb f B y e=>S b f B y<|C b f B y e);let(t',o',n',f1,Q,O,f4,f5):=L j p x;calc(t',o',n',f1,C t' o' (H _ _ Q O) (nd _ _ Q O) Q,O,f4,f5.stay λb o e c=>C b o (H b o e c) (nd b o e c) e,)
def t9{A:Ll}{E:K5->Lm->Prop}{s:Lm}{ax:La}{items:Array K5}{ps:O4 (O4 (O4 K)×La×K5)}{Q:K5->Lm->Prop}(L:A.handled=OQ)(hu:A.units+6<Mg)(u:s.heap.IsList ax items)(G:∀o,s.heap.get? ax=OP o->o.dict=OQ)(C:⇑ps=items.size)(hsz:items.size<=Lc)(D:(ps.map (·.1)).Nodup)
  (S:∀(j:Nat)(p:O4 (O4 K)×La×K5),ps[j]?=OP p->∃(t:La)(o:Obj)(n:Nat),items[j]?=↑t/\s.heap.get? t=OP o/\o.cls=.type "tuple" /\ o.data=.seq #[.ref p.2.1,p.2.2] n/\b8 knd s.heap p.1 p.2.1)
  (T:∀h' v,h'.DictOfH (bU knd) ↥s ps->(∀b o,s.heap.get? b=OP o->h'.get? b=OP o)->Q (.ref ↥s) { s with heap:=h',toks:=v }) :
  Lq (model P w) A (call (.type "dict") [.ref ax]) Q E s:=by
 calc Od (Q₁:=λi f=>i=.ref ↥s/\f={ s with heap:=s.heap.push { cls:=.type "dict",data:=.dict #[] } }) F.kt_called_dict (F.kt_typeCall_dict_1 _) F.entry_dict_init (kt_code_dict_new _ (Z,Z,)) ?_;rintro i f ⟨rfl,rfl⟩;let z:(s.heap.push { cls:=.type "dict",data:=.dict #[] }).DictOfH (bU knd) ↥s []:=Lb.DictOfH.new s.heap;let y:∀b o,s.heap.get? b=OP o->(s.heap.push { cls:=.type "dict",data:=.dict #[] }).get? b=OP o:=λb o e=>ac _ e
 let m:=u.at λo e=>y ax o e
 let q:Go { s with heap:=s.heap.push { cls:=.type "dict",data:=.dict #[] } } (.ref ↥s) "dict" := z.typeIs (s:={ s with heap:=s.heap.push { cls:=.type "dict",data:=.dict #[] } });calc(q,F.args_dict_init_2 _ _,?_,);unfold L0.«dict.__init__»;calc K1 ?_;unfold L0.Dict.selfAndRest;calc K1<|OD q ?_;show Lq _ _ (pure (↥s,[bv ax])) _ _ _;calc K2 ?_;show Lq _ _ (QN "dict.__init__" ↥s (.ref ax) [] .none) _ _ _;unfold QN;calc K1<|MD m.typeIs ?_;rw[OX ⋯];let k:ax<↥s:=by let(o,e,_):=id u;exact al e
 refine K1<|yn (s:={ s with heap:=s.heap.push { cls:=.type "dict",data:=.dict #[] } }) m (λo e=>?_) (by simp[L]) λa h r=>?_
 .let(N,M,_):=id u;rw[y ax N M]at e;cases e;exact G _ M
 rw[OX (by rfl)];calc K1<|Nq ?_;let c:∀b o,s.heap.get? b=OP o->a.get? b=OP o:=λb o e=>r b o<|y b o e
 let l:a.IsList ax items:=u.at λo e=>c ax o e
 calc K1<|LZ (s:={ s with heap:=a,toks:=h }) l ?_;let g:∀b o,a.get? b=OP o->(a.push { cls:=.type "list_iterator",data:=.fields #[.ref ax,.int 0 0] }).get? b=OP o:=λb o e=>ac _ e
 let eI:(a.push { cls:=.type "list_iterator",data:=.fields #[.ref ax,.int 0 0] }).get? a.objs.size=OP { cls:=.type "list_iterator",data:=.fields #[.ref ax,.int 0 0] }:=am _ Z;let H:(a.push { cls:=.type "list_iterator",data:=.fields #[.ref ax,.int 0 0] }).DictOfH (bU knd) ↥s (ps.take 0):=by
  rw[List.take_zero];exact rF z (λo e=>g _ _<|r _ _ e) λb o e _=>g _ _<|r _ _ e
 let x:↥s<a.objs.size:=by let(o,es,ep,R,_):=z;exact al<|r _ _ R
 let B:ax<a.objs.size:=Fx k x;calc K2 (Na cM _,?_,);refine rG (P:=P) (w:=w) (knd:=knd) (d:=↥s) (I:=a.objs.size) (ax:=ax) (items:=items) (ps:=ps) (res:=.none) (by simp[L]) (by simp only[Ll.in1];lia) (CD B) (Bo x) (CD k) C D hsz items.size 0 { s with heap:=a.push { cls:=.type "list_iterator",data:=.fields #[.ref ax,.int 0 0] },toks:=h } 0 _ ∅ (BG _) (_,eI,Z,Z,) (l.at λo e=>g ax o e) H (λj p ej=>?_) (λh' v J O=>?_)
 .let(t,o,n,f1,Y,X,W,V):=S j p ej;exact(t,o,n,f1,g _ _<|c _ _ Y,X,W,V.stay λb o e _=>g _ _<|c _ _ e,)
 .exact(Z,T h' v J λb o e=>O b o (Bo<|Fx (al e) x) (Bo<|al e)<|g _ _<|c _ _ e,)
end
def vW(J:X.calm=OR){k:Nat}(hr:bK k X.A):dh X (.type "dict") (λxs H Q=>∃(l:La)(us:O4 V)(kvs:O4 (NK×La×V)),xs=[.ref l]/\H l=OP (.lst us)/\⇑us=⇑kvs/\(∀(j:Nat)(p:NK×La×V),kvs[j]?=OP p->∃t:La,us[j]?=↑t/\H t=OP (.tup [.ref p.2.1,p.2.2]))/\kC H kvs/\(kvs.map (·.1)).Nodup/\∀p,H p=OQ->Q (.ref p) (upd H p<|cg X.prog X.w p kvs)):=by
 intro OU s σ H xs a0 Q I r h;let(l,us,kvs,rfl,el,M,ht,hK,G,q):=h;let(u,rfl,Y):=vals1 r;cases Y;let(i,n,K,O,L):=I.lst el;let B:=K.length;let(ps,z,v):=xh (P:=λj (a:NK×La×K5)=>∃(p:NK×La×V)(t:La)(o:Obj)(m:Nat),kvs[j]?=OP p/\a.1=p.1/\a.2.1=p.2.1/\i[j]?=↑t/\RelV p.2.2 a.2.2/\s.heap.get? t=OP o/\o.cls=.type "tuple" /\ o.data=.seq #[.ref a.2.1,a.2.2] m) ⇑kvs λj hj=>by
  let N:=KN hj;let(t,c,f):=ht j _ N;let(S,d,D):=K.get c;cases (show S=bv t from D);let(_,C,F,o,ho,hc,m,hd):=I.hok t _ f;let(rest,rfl,rr):∃rest,C=.ref kvs[j].2.1 :: rest/\Vals [kvs[j].2.2] rest:=by
   cases F with
   |cons a b=>cases a;exact(_,Z,b,)
  let(T,rfl,E):=vals1 rr;exact((kvs[j].1,kvs[j].2.1,T),kvs[j],t,o,m,N,Z,Z,d,E,ho,hc,~~~hd,)
 let g:PrN kvs ps:=qj (by rw[z]) λj x y ex ey=>by
  let(p,t,o,m,c,f,d,D,R,_):=v j y ey;rw[ex]at c;cases c;exact(f.symm,d.symm,R,)
 refine t9 (knd:=Lg X.prog X.w) (items:=i.toArray) (ps:=ps) (I.ok.hd J) (by have:=hr.units;lia) (_,O,Z,n,Z,) (λo e=>by rw[O]at e;cases e;rfl) (by rw[fI,z,←M,B]) (by rw[fI,←B];exact L) (by rw[←g.keys];exact G) (λj a ea=>?_) λh' W hd kp=>?_
 .let(p,t,o,m,c,f,d,D,R,e6,e7,e8):=v j a ea;exact(t,o,m,~~~D,e6,e7,e8,by rw[f,d];exact kD I.hok (hK _<|KP c),)
 .let(o,es,ep,h1,h2,h3,h4,_,h6):=hd;calc(.ref ↥s,_,I.laid (h':=h') (t':=W) (o:=cg X.prog X.w ↥s kvs) kp (Ab _)<|Av (by rw[←M];exact L) (BN I) g h1 h2 h3 h4 h6,Z,q _<|I.hok.fresh<|Ab _,)
def xo{OU:O4 (La×Obj)}{σ:St}{H:Hp}{s:Lm}{f:La}{sp:Sp}{us:O4 K5}{vs:O4 V}{Q:VK}(F:HFn X.prog X.w X.K X.mg X.base k f sp)(d:bK (k+1) X.A)(I:Inv X OU σ H s)(r:Vals vs us)(h:sp vs H Q E0):Lq (model X.prog X.w) X.A.in1 (call (.ref f) us) (EP X OU σ Q) (λ_ _=>False) s:=by
 let(m,c,F,i):=F;let g:⇑us=⇑c:=by rw[←⇑r];exact F.len _ _ _ _ h
 let j:qQ X.prog X.w X.K X.mg X.base X.A.in1 X.stack s H:=(I.ok.frames,I.env0.mod,I.env0.bs,I.env0.bsz,I.env0.funs,I.env0.frf,I.env0.hok,I.env0.bare,);let b:=i s us I.kIn (by rw[jm];exact g);rw[jm]at b;calc Mm<|Mn (F.run X.A.in1 X.stack s H (us,[],) us vs Q E0 d.in1 j b r h) λr l a=>?_;cases r with
 |error e=>exact a.elim
 |ok fl =>
  cases fl with
  |ret u=>exact I.after a
  |next=>exact kw a
  |brk=>exact kw a
  |cont=>calc kw a
def qu:∀{b:O4 La}{us:O4 K5},Vals (b.map RZ) us->us=b.map bv
 | [],_,.nil=>rfl
 |a :: b,_,.cons e r=>by cases e;rw[jl,←qu r]
def jc{OU:O4 (La×Obj)}{σ:St}{H:Hp}{s:Lm}{l:La}{b:O4 La}(I:Inv X OU σ H s)(h:SqL X.K H l (b.map RZ)):s.heap.IsList l (b.map bv).toArray:=by
 let(d,c,a,_):=I.list h;rw[qu c]at a;calc a.isList
def  kwE(e:Lu)(k:Nat):Lu:=match e with
 | .Call _ _ ks _=>match ks[k]? with
  |some q=>q.value
  |none=>e
 |_=>e
structure HB(X:Cx)(OU:O4 (La×Obj))(σ:St)(H:Hp)(I S l:La)(j:Nat)(vb:K5)(kb:Int)(s:Lm):Prop where
 inv:Inv X OU σ H s
 it:s.heap.IsListIter I l j
 st:∃tb c,s.heap.get? S=OP (seqObj "list" #[vb,.int kb tb] c)
def yy{OU:O4 (La×Obj)}{σ:St}{H:Hp}{l q I S:La}{m:O4 La}{sp:Sp}{R:Mc->Lm->Prop}(d:Nat->Int)(c1:X.calm=OR)(hr:bK (k+1) X.A)(hl:SqL X.K H l (m.map RZ))(a9:l≠I)(L:S≠I)(b6:l≠S)
  (u:ir X OU H I)(p:ir X OU H S)(F:HFn X.prog X.w X.K X.mg X.base k q sp)(a7:∀(i:Nat)(a:La),m[i]?=OP a->sp [.ref a] H (λy H'=>y=.int (d i)/\H'=H) E0)
  (hR:∀(i:Nat)(a:La)(s':Lm),m[i]?=OP a->(∀j,j<⇑m->d i<=d j/\(j<i->d i<d j))->Inv X OU σ H s'->R (.ok<|.ret<|.ref a) s') :
  ∀(r j i:Nat)(s:Lm)(a:La),⇑m-(j+1)=r->j+1<=⇑m->HB X OU σ H I S l (j+1) (.ref a) (d i) s->m[i]?=OP a->i<=j->(∀n,n<=j->d i<=d n/\(n<i->d i<d n)) ->
   Md (model X.prog X.w) X.A (.builtin "min.loop" ([.ref I,.ref q,.ref S],[],)) R s:=by
 let ua:(toString "min" ++ toString ".loop" : String) = "min.loop" := by decide
 let W:=QR (prog:=X.prog) (w:=X.w) (A:=X.A.in1) hr.hd I l a9 (m.map bv).toArray;let a0:(m.map bv).toArray.size=⇑m:=by simp
 intro r;induction r with
 |zero =>
  intro j i s a a8 hj M ha b1 f;let(Y,J,N,c,T):=M;let b0:j+1=⇑m:=∅
  calc M8 PySem.F.entry_min_loop ?_;rw[io PySem.F.plain_min_loop _];show Lq _ X.A.in1 (Oj (.ref S) >>= _) _ _ s;calc K1<|NU T Z ?_;show Lq _ X.A.in1 (tryCatch (LR<|.ref I) _ >>= _) _ _ s;refine K1 (OK<|W.done _ _ _ (by rw[a0,←b0];exact J,jc Y hl,) λO D B=>?_);let I1:Inv X OU σ H { s with heap:=O,toks:=D }:=Y.turned (λb o f e=>B b o (~~~f) e) u.1 u.2.1 u.2.2.2.1 u.2.2.2.2.1 u.2.2.2.2.2;let b4:=B S _ (~~~L) T;let s1:=li O S<|ci λ_=>(#[]:Array K5);show Lq _ X.A.in1 (N1 S (λ_=>#[]) >>= _) _ _ _;calc K1<|N2 b4 Z<|K1<|Oe<|K2 ?_;exact hR i a _ ha (λn a3=>f n ∅)<|I1.turned (λb o f e=>(s1.2 b f).trans e) p.1 p.2.1 p.2.2.2.1 p.2.2.2.2.1 p.2.2.2.2.2
 |succ r ih =>
  intro j i s a a8 hj M ha b1 f;let(Y,J,N,c,T):=M;let G:j+1<⇑m:=∅
  calc M8 PySem.F.entry_min_loop ?_;rw[io PySem.F.plain_min_loop _];show Lq _ X.A.in1 (Oj (.ref S) >>= _) _ _ s;calc K1<|NU T Z ?_;show Lq _ X.A.in1 (tryCatch (LR<|.ref I) _ >>= _) _ _ s;refine K1 (OK<|W.item (j+1) _ _ _ (by rw[a0];exact G) (J,jc Y hl,) λv O D hP DU B=>?_);let(g,a6,rfl):∃g,m[j+1]?=OP g/\v=.ref g:=by
   rw[QQ,dy]at hP;let(g,e1,e2):=KY.mp hP;exact(g,e1,e2.symm,)
  let(Q,a2,a1,E):=id DU.1;let I1:Inv X OU σ H { s with heap:=O,toks:=D }:=Y.turned (λb o f e=>B b o (~~~f) e) u.1 u.2.1 u.2.2.2.1 u.2.2.2.2.1 u.2.2.2.2.2;let a5:=B S _ (~~~L) T;let b5:=I1.pinned (fp:=[I,S]) (λb f=>by rcases bz.mp f with rfl|f;calc u;rw[dV.mp f];exact p) (λb f=>by
   rcases bz.mp f with rfl|f
   .exact⟨_,a2,λv z=>by rw[E]at z;cases z⟩
   .rw[dV.mp f];exact⟨_,a5,λv z=>by cases z⟩)
  show Lq _ X.A.in1 (tryCatch (holding [.ref g] (call (.ref q) [.ref g])) _ >>= _) _ _ _;calc K1<|OK<|K3<|LA (xo F hr b5 (vs:=[.ref g]) (.cons Z .nil)<|a7 (j+1) g a6) (λx s2 he=>?_) λ_ _ hF=>hF.elim;let(y,H2,I2,ry,ey,eH):=he;subst ey eH;let(C,rfl):=ry;let pI:s2.heap.get? I=OP Q:=by
   let z:(I,Q)∈dG [I,S] O:=by unfold dG;simp[a2]
   exact(I2.pin (I,Q)<|hE _<|hE _ z).1
  let pS:s2.heap.get? S=OP (seqObj "list" #[.ref a,.int (d i) N] c):=by
   let z:(S,seqObj "list" #[.ref a,.int (d i) N] c)∈dG [I,S] O:=by unfold dG;simp[a5]
   exact(I2.pin (S,_)<|hE _<|hE _ z).1
  let I3:=I2.unpinned;let HC:s2.heap.IsListIter I l (j+1+1):=(Q,pI,a1,E,);show Lq _ X.A.in1 (tryCatch (holding [.ref g,.int (d<|j+1) C] (richCompare .Lt (.int (d<|j+1) C) (.int (d i) N) >>= _)) _ >>= _) _ _ _;calc K1<|OK<|K3<|K1<|CmpOf.ints_lt (prog:=X.prog) (w:=X.w) (A:=X.A.in1) (P:=λi v=>∃t,v=.int (d i) t) d (λi v h=>h) (j+1) i _ _ _ _ _ (C,Z,) (N,Z,) ?_;calc K1<|K3<|LG<|K1<|Oe<|K2 ?_;by_cases a4:d (j+1)<d i
  .let s1:=li s2.heap S<|ci λ_=>#[.ref g,.int (d<|j+1) C];let(c2,b3):∃c2,(s2.heap.update S<|ci λ_=>#[.ref g,.int (d<|j+1) C]).get? S=OP (seqObj "list" #[.ref g,.int (d<|j+1) C] c2):=(_,get?_update_seq pS λ_=>#[.ref g,.int (d<|j+1) C],);simp only[a4,decide_true,if_true];calc K1<|N2 pS Z<|K1<|Oe ?_;rw[ua];calc K2 (Na PySem.F.plain_min_loop _,ih (j+1) (j+1) _ g ∅ G (I3.turned (λb o f e=>(s1.2 b f).trans e) p.1 p.2.1 p.2.2.2.1 p.2.2.2.2.1 p.2.2.2.2.2,(Q,(s1.2 I L.symm).trans pI,a1,E,),_,c2,b3,) a6 (Ab _) λn a3=>?_,);by_cases e:n=j+1
   .subst e;exact(∅,λ_=>∅,)
   .let h1:=(f n ∅).1;exact(∅,λ_=>∅,)
  .simp only[a4,decide_false,KU,if_false];calc K1<|Oe ?_;rw[ua];calc K2 (Na PySem.F.plain_min_loop _,ih (j+1) i _ a ∅ G (I3,HC,N,c,pS,) ha ∅ λn a3=>?_,);by_cases e:n=j+1
   .subst e;exact(∅,λ_=>∅,)
   .exact f n ∅
def vX{OU:O4 (La×Obj)}{σ:St}{H:Hp}{s:Lm}{l q:La}{m:O4 La}{sp:Sp}{Q:VK}(f:Nat->Int)(a3:X.calm=OR)(R:bK (k+1) X.A)(t:Inv X OU σ H s)(T:SqL X.K H l (m.map RZ))(D:0<⇑m)(F:HFn X.prog X.w X.K X.mg X.base k q sp)
  (turn:∀(i:Nat)(a:La),m[i]?=OP a->sp [.ref a] H (λy H'=>y=.int (f i)/\H'=H) E0)
  (hQ:∀(i:Nat)(a:La),m[i]?=OP a->(∀j,j<⇑m->f i<=f j/\(j<i->f i<f j))->Q (.ref a) H) :
  Lq (model X.prog X.w) X.A (call (.builtin "min") [.ref l] [(s!"key",.ref q)]) (EP X OU σ Q) X.xe s:=by
 let ua:(toString "min" ++ toString ".loop" : String) = "min.loop" := by decide
 let E:=jc t T;let G:l<↥s:=by let(o,e,_):=id E;exact al e
 calc kmk_tree PySem.F.kind_min PySem.F.plain_min PySem.F.entry_min (kmk_min_key _ _) ?_;show Lq _ X.A.in1 (P7 "min" ["key","default"] 0 ([],[(s!"key",.ref q)],) >>= _) _ _ s;refine K1<|Nr (show P7 "min" ["key","default"] 0 ([],[(s!"key",.ref q)],)=pure [↑q,OQ]from Z) (K1<|K2 ?_);calc K1<|LZ E<|K1<|Of ?_<|BG _;rw[ua];generalize eh:s.heap.push { cls:=.type "list_iterator",data:=.fields #[.ref l,.int 0 0] }=hp;let hS:hp.objs.size=↥s+1:=by rw[←eh];exact size_push' ..
 let k0:∀b o,s.heap.get? b=OP o->(hp.push<|seqObj "list" #[] 0).get? b=OP o:=λb o e=>ac _ (by rw[←eh];exact ac _ e)
 let gI:(hp.push<|seqObj "list" #[] 0).get? ↥s=OP { cls:=.type "list_iterator",data:=.fields #[.ref l,.int 0 0] }:=ac _ (by rw[←eh];exact am _ Z);let P:(hp.push<|seqObj "list" #[] 0).get? hp.objs.size=OP (seqObj "list" #[] 0):=am _ Z;let big:↥s<=hp.objs.size:=by rw[hS];exact D0 _
 let p:ir X OU H ↥s:=t.fpOk (Ab _)<|t.hok.fresh<|Ab _;let n:ir X OU H hp.objs.size:=t.fpOk big<|t.hok.fresh big;let r:l≠↥s:=Bo G;let g:hp.objs.size≠↥s:=by rw[hS];exact Nat.succ_ne_self _
 let J:l≠hp.objs.size:=Bo<|BS G big;let I0:Inv X OU σ H { s with heap:=hp.push (seqObj "list" #[] 0) }:=t.kept (t':=s.toks) k0;generalize es:hp.objs.size=S at P n g J;generalize ei:↥s=I at gI p r g;generalize hp.push (seqObj "list" #[] 0)=h0 at gI P I0;calc K2 (Na PySem.F.plain_min_loop _,?_,);let W:=QR (prog:=X.prog) (w:=X.w) (A:=X.A.in1) R.hd I l r (m.map bv).toArray;let a1:(m.map bv).toArray.size=⇑m:=by simp
 calc M8 PySem.F.entry_min_loop ?_;rw[io PySem.F.plain_min_loop _];show Lq _ X.A.in1 (Oj (.ref S) >>= _) _ _ _;calc K1<|NU P Z ?_;show Lq _ X.A.in1 (tryCatch (LR<|.ref I) _ >>= _) _ _ _;refine K1 (OK<|W.item 0 _ _ _ (by rw[a1];exact D) ((_,gI,Z,Z,),jc I0 T,) λv Y a0 hP DU L=>?_);let(c,N,rfl):∃c,m[0]?=OP c/\v=.ref c:=by
  rw[QQ,dy]at hP;let(c,e1,e2):=KY.mp hP;exact(c,e1,e2.symm,)
 let(O,C,a2,B):=id DU.1;let I1:Inv X OU σ H { s with heap:=Y,toks:=a0 }:=I0.turned (λb o d e=>L b o (~~~d) e) p.1 p.2.1 p.2.2.2.1 p.2.2.2.2.1 p.2.2.2.2.2;let M:=L S _ (~~~g) P;let a5:=I1.pinned (fp:=[I,S]) (λb d=>by rcases bz.mp d with rfl|d;calc p;rw[dV.mp d];exact n) (λb d=>by
  rcases bz.mp d with rfl|d
  .exact⟨_,C,λv z=>by rw[B]at z;cases z⟩
  .rw[dV.mp d];exact⟨_,M,λv z=>by cases z⟩)
 show Lq _ X.A.in1 (tryCatch (holding [.ref c] (call (.ref q) [.ref c])) _ >>= _) _ _ _;calc K1<|OK<|K3<|LA (xo F R a5 (vs:=[.ref c]) (.cons Z .nil)<|turn 0 c N) (λx s2 he=>?_) λ_ _ hF=>hF.elim;let(y,H2,I2,ry,ey,eH):=he;subst ey eH;let(u,rfl):=ry;let pI:s2.heap.get? I=OP O:=by
  let z:(I,O)∈dG [I,S] Y:=by unfold dG;simp[C]
  exact(I2.pin (I,O)<|hE _<|hE _ z).1
 let pS:s2.heap.get? S=OP (seqObj "list" #[] 0):=by
  let z:(S,seqObj "list" #[] 0)∈dG [I,S] Y:=by unfold dG;simp[M]
  exact(I2.pin (S,_)<|hE _<|hE _ z).1
 let I3:=I2.unpinned;let s1:=li s2.heap S<|ci λ_=>#[.ref c,.int (f 0) u];let(c2,a4):∃c2,(s2.heap.update S<|ci λ_=>#[.ref c,.int (f 0) u]).get? S=OP (seqObj "list" #[.ref c,.int (f 0) u] c2):=(_,get?_update_seq pS λ_=>#[.ref c,.int (f 0) u],);show Lq _ X.A.in1 (N1 S (λ_=>#[.ref c,.int (f 0) u]) >>= _) _ _ _;calc K1<|N2 pS Z ?_;rw[ua];calc K2 (Na PySem.F.plain_min_loop _,yy f a3 R T r g J p n F turn (λi a s' hi d I'=>(.ref a,_,I',Z,hQ i a hi d,)) _ 0 0 _ c Z D (I3.turned (λb o d e=>(s1.2 b d).trans e) n.1 n.2.1 n.2.2.2.1 n.2.2.2.2.1 n.2.2.2.2.2,(O,(s1.2 I g.symm).trans pI,a2,B,),_,c2,a4,) N (Ab _) λj' a6=>?_,);let e:j'=0:=∅
 subst e;calc(∅,λh=>OY h<|DE _,)
inductive C1(X:Cx)(k:Nat)(Q:VK)(x:V)(y:V)(H:Hp):Prop
 |mk (l q:La)(as:O4 La)(sp:Sp)(kf:Nat->Int)(_:x=.ref l)(_:y=.ref q)(_:SqL X.K H l (as.map RZ))(_:0<⇑as)(_:HFn X.prog X.w X.K X.mg X.base k q sp)(_:∀(i:Nat)(a:La),as[i]?=OP a->sp [.ref a] H (λy H'=>y=.int (kf i)/\H'=H) E0)
  (_:∀(i:Nat)(a:La),as[i]?=OP a->(∀j,j<⇑as->kf i<=kf j/\(j<i->kf i<kf j))->Q (.ref a) H):C1 X k Q x y H
def  FN(X:Cx)(k:Nat)(b a:TE):TE:=λσ H Q=>b σ H λx d=>a σ d λy c=>C1 X k Q x y c
def B1{e f:Lu}{d c:TE}{p pos r:Pos}(b:X.calm=OR)(w:bK (k+1) X.A)(D:Gl X "min") (hm:X.mg "min" = OQ) (he:PE X e d)(E:PE X f c)(a:Ly [e] X.env=[(OS,eval e X.env)]:=by rfl) :
  PE X (.Call (.Name "min" p) [e] [(OP s!"key",f,r,)] pos) (FN X k d c):=by
 intro OU s σ H Q I h;refine K4 (fM (u:=.builtin "min") I D hm (by kernel_rfl) ?_);refine callWith_kw ?_ (by rw[a];rfl) (by rw[a];rfl);rw[a];show Lq _ _ (spliced ((OS,eval e X.env) :: Lw pos (Ly [] X.env))) _ _ s;calc PM<|thn (he OU s σ H _ I h) λu i (x,K,J,m,o,)=>PP<|kws_cons<|thn (E OU i σ K _ J o) λv s2 (y,N,G,j,n,)=>kws_nil ?_;let(l,q,M,L,t,rfl,rfl,C,B,F,g,z):=n;cases m;cases j;calc vX t b w G C B F g z
section
variable{it:La}{i:Nat}
def qv{Q:K5->Lm->Prop}(e:(d == Ld)=OS)(x:lK s.heap d es ep)
  (f:Q (.ref ↥s) { s with heap:=s.heap.push { cls:=.type "dict_keyiterator",data:=.fields #[.ref d,.int 0 0,.int es.size 0,.int ep 0] } }):Lq (model P w) A (LU<|.ref d) Q E s:=by
 let a:=x.ty;let(o,c,g,b):=x;calc NV a F.slot_dict_iter<|MC F.slot_dict_iter a F.entry_dict_iter ?_<|F.args_dict_iter_1 _;unfold L0.«dict.__iter__»;calc K1 ?_;unfold L0.Dict.dictSlotNone;calc K1<|OD a ?_;show Lq _ _ (pure<|bv d) _ _ s;calc K2 ?_;show Lq _ _ (O7 d >>= _) _ _ s;unfold O7;rw[OW (by rw[e];exact bi)];calc K1<|K2<|K1<|OC c b<|K1<|OE c b<|K1<|ME<|K2 (_,Z,"dict_keyiterator",_,(_,am _ Z,Z,),sK.lookup,?_,);simpa[LV]using f
def yz{e:Ma}{Q:Option K5->Lm->Prop}(a:s.heap.IsKeyIter it d i es.size ep)(x:lK s.heap d es ep)(j:es[i]?=OP e)
  (l:∀h',h'.IsKeyIter it d (i+1) es.size ep->ln it s.heap h'->Q (OP e.key) { s with heap:=h' }):Lq (model P w) A (LR<|.ref it) Q E s:=by
 let(o,g,k,b):=id a;let(m,c,_,f):=id x;unfold LR;calc K1<|ND<|MB (name:=s!"__next__") a.typeIs sK<|MC sK a.typeIs Ql ?_<|Qh _;calc K1<|K2<|K1<|K1 ?_;first|refine K1 (OL a.typeIs<|K2<|K1<|NG g b ?_)|refine K1 (OM a.typeIs<|K2<|K1<|NG g b ?_)
 let own:wp "dict_keyiterator" = false:=⋯
 simp only[own,KU,if_false];show Lq _ _ (if (bv d == pc)=OR then _ else _) _ _ s;rw[OW (show ¬ ((bv d == pc)=OR)from bi)];calc K1<|K2<|K1<|OC c f ?_;rw[OW (by simp)];calc K1<|K2<|K1<|OE c f ?_;rw[OW (by simp)];calc K2 ?_;simp only[show ¬ ((i:Int)<0)from by lia,if_false,Kn,j];calc K1 ?_;first|refine K1 (OL a.typeIs<|K2<|K1<|ON a.typeIs ?_)|refine K1 (OM a.typeIs<|K2<|K1<|ON a.typeIs ?_)
 show Lq _ _ (OJ (.ref it) 1 (LV<|(i:Int)+1) >>= _) _ _ s;refine K1 (NJ g b (by simp) ?_);let h:(s.heap.update it (Obj.mapFields (·.setIfInBounds 1 (LV<|(i:Int)+1)))).IsKeyIter it d (i+1) es.size ep:=(_,nw _ g<|Obj.isFreed_of_fields<|Re b _,(Obj.cls_mapFields ..).trans k,by rw[Re b];simp[LV],);calc K1 (K3 (K1 (ON (s:={ s with heap:=s.heap.update it (Obj.mapFields (·.setIfInBounds 1 (LV<|(i:Int)+1))) }) h.typeIs ?_)));show Lq _ _ (pure e.key) _ _ _;calc K2<|K2 (_,Z,K2<|l _ h<|li ..,)
def Az{Q:Option K5->Lm->Prop}(k:A.handled=OQ)(c:s.heap.IsKeyIter it d i es.size ep)(x:lK s.heap d es ep)(j:es.size<=i)(l:∀h',Qb it s.heap h'->Q OQ { s with heap:=h' }):Lq (model P w) A (LR<|.ref it) Q E s:=by
 let(o,h,p,e):=id c;let(n,f,_,g):=id x;unfold LR;calc K1<|ND<|MB (name:=s!"__next__") c.typeIs sK<|MC sK c.typeIs Ql ?_<|Qh _;calc K1<|K2<|K1<|K1 ?_;first|refine K1 (OL c.typeIs<|K2<|K1<|NG h e ?_)|refine K1 (OM c.typeIs<|K2<|K1<|NG h e ?_)
 let own:wp "dict_keyiterator" = false:=⋯
 simp only[own,KU,if_false];show Lq _ _ (if (bv d == pc)=OR then _ else _) _ _ s;rw[OW (show ¬ ((bv d == pc)=OR)from bi)];calc K1<|K2<|K1<|OC f g ?_;rw[OW (by simp)];calc K1<|K2<|K1<|OE f g ?_;rw[OW (by simp)];calc K2 ?_;simp only[show ¬ ((i:Int)<0)from by lia,if_false,Kn,wS j];calc K1 ?_;first|refine K1 (OL c.typeIs<|K2 ?_)|refine K1 (OM c.typeIs<|K2 ?_)
 show Lq _ _ (OJ (.ref it) 0 .none >>= _) _ _ s;refine K1 (NJ h e (by simp) ?_);show Lq _ _ (NL (.type "StopIteration") [] >>= _) _ _ _;calc K1 ?_;simp only[NL,NM];refine K1 (ME ?_ (by size_fits));refine K1 (m:=NN _ _) (Nr (a:=pc) (by first|rfl|(simp only[NN];rfl)) (ME ?_ (by size_fits)));simp only[NO];calc K1<|NP ?_;rw[show A.in1.handled=OQ from k];calc K1<|K2<|NQ ?_;calc K1<|NR (T := "StopIteration") (b:=OR) (_,am _ Z,Z,) NS ?_;calc K2<|l _<|((li ..).extBut.push _).push _
end
def Inv.freezeU{d:La}{o:Obj}{u:HO}(I:Inv X OU σ H s)(e:H d=OP u)(g:s.heap.get? d=OP o)(C:∀a,u≠.own a)(B:∀xs,u≠.tup xs)(A:∀o v,u≠.frz o v)(y:∀ps,u≠.tbl ps):Inv X OU σ (upd H d<|.frz o u) s:=by
 let i:∀{b v},H b=OP v->u≠v->b≠d:=λq n z=>by rw[z,e]at q;exact n<|bm q
 let h:∀{b},H b=OQ->b≠d:=λq z=>by rw[z,e]at q;cases q
 let t:∀(a b:La),H b=OP (.own a)->upd H d (.frz o u) b=OP (.own a):=λa b q=>by rw[ar (i q<|C a)];exact q
 let k:∀b xs,H b=OP (.tup xs)->upd H d (.frz o u) b=OP (.tup xs):=λb xs q=>by rw[ar (i q<|B xs)];exact q
 refine(I.ok,I.os,I.bare,(I.base.keep,I.base.slot,λb q m j l=>?_,I.base.there,λb xs q=>k b xs<|I.base.tups b xs q,λb q v r=>?_,λb ps q=>?_,),I.loc,I.cell,?_,λx c q=>?_,λp D=>?_,λb v q=>?_,I.len,)
 .let:=I.base.free b q m j l;rw[ar (h this)];exact this
 .let:=I.base.frzs b q v r;rw[ar (i this<|A _ _)];exact this
 .let(f,this):=I.base.tbls b ps q;exact(f,by rw[ar (i this<|y _)];exact this,)
 .rw[ar (h I.free)];exact I.free
 .rw[ar (h<|I.freeC x c q)];exact I.freeC x c q
 .let(m,j,l):=I.pin p D;exact(m,by rw[ar (h j)];exact j,l,)
 .by_cases w:b=d
  .subst w;rw[af]at q;cases q;exact(g,(I.hok b _ e).stay (λ_ _ _ q=>q) (t b) k,)
  .rw[ar w]at q;calc(I.hok b v q).stay (λ_ _ _ q=>q) (t b) k
structure KWk(P:K7)(w:K6)(d:La)(u:HO)(n:Nat)(Y:Nat->V->Rr):Prop where
 raw:∀{H:Hp}{h:Lb},HOk P w H h->bq P w H h d u->(d == Ld)=OS/\∃(es:Array Ma)(ep:Nat),lK h d es ep/\es.size=n/\∀(i:Nat),i<n->∃(en:Ma)(v:V),es[i]?=OP en/\RelV v en.key/\Y i v H
 n1:∀a,u≠.own a
 n2:∀xs,u≠.tup xs
 n3:∀o v,u≠.frz o v
 n4:∀ps,u≠.tbl ps
def  ItK(d:La)(o:Obj)(u:HO)(n:Nat)(Y:Nat->V->Rr):It :=
 (λi H=>H d=OP (.frz o u)/\i<n,λi H v a=>a=H/\Y i v H,λi H=>H d=OP (.frz o u)/\n<=i,)
def qw{P:K7}{w:K6}{K:RD}{S:Lu}{it d:La}{o:Obj}{u:HO}{n:Nat}{Y:Nat->V->Rr}{N:Array Ma}{ep:Nat}(W:KWk P w d u n Y)(p:o.data=.dict N ep) :
  Turn P w K S (ItK d o u n Y) [it] it (λi h=>h.IsKeyIter it d i n ep) where
 mem:=by simp
 obj:=λi h a c t=>by
  let(Q,e,_,q):=a;rw[dV.mp t];exact⟨Q,e,λv z=>by rw[q]at z;cases z⟩
 keep:=λi h x a k=>a.at λo e=>k it (by simp) o e
 item:=by
  intro X B y C t i OU s σ H E I r a A;subst B y C;let(hd,hi):=A;let(g,hok):=(show bq X.prog X.w H s.heap d (.frz o u)from I.hok d _ hd);let(_,es,O,(o2,l,D,j),sz,R):=W.raw I.hok hok;rw[g]at l;cases l;rw[p]at j;cases j;let(en,v,e1,e2,e3):=R i hi;let(M,L,f2,J,G,F):=r it (by simp);rw[←sz]at a;refine yz a (o,g,D,p,) e1 λx m T=>?_
  let I1:Inv X OU σ H { s with heap:=x }:=I.turned (t':=s.toks) (λb o f e=>(T.2 b f).trans e) M L J G F;let(Q,e,c,q):=id m;exact(en.key,Z,pL (s:={ s with heap:=x }) e c q ⋯ (v,H,I1,e2,(Z,e3,),by rw[←sz];exact m,λb f=>(r b f).1,),)
 done:=by
  intro X B y C t i OU s σ H E I r a A;subst B y C;let(hd,hi):=A;let(g,hok):=(show bq X.prog X.w H s.heap d (.frz o u)from I.hok d _ hd);let(_,es,O,(o2,l,D,j),sz,R):=W.raw I.hok hok;rw[g]at l;cases l;rw[p]at j;cases j;let(M,L,f2,J,G,F):=r it (by simp);rw[←sz]at a;exact Az (I.ok.hd t) a (o,g,D,p,) ∅ λx eb=>(Z,I.turned (t':=s.toks) (λb o f e=>eb b o f e) M L J G F,)
 self:=λ_ _ _ _ _ a h=>wpAny_pyIter_keyiter a h
inductive AA(P:K7)(w:K6)(R:It->Rr)(x:V)(H1:Hp):Prop
 |mk (d:La)(u:HO)(n:Nat)(Y:Nat->V->Rr)(_:x=.ref d)(_:KWk P w d u n Y)(_:(H1 d=OP u/\∀o,R (ItK d o u n Y)<|upd H1 d<|.frz o u)\/∃o,H1 d=OP (.frz o u)/\R (ItK d o u n Y) H1)
def  FO(P:K7)(w:K6)(a:TE):TI:=λσ H R=>a σ H λx b=>AA P w R x b
def xp{e:Lu}{z:TE}{B:Lu}(D:PE X e z):PI X B e (FO X.prog X.w z):=by
 intro OU s σ H R I h;refine thn (D OU s σ H _ I h) λv k (x,m,a,C,q,)=>?_
 let(d,u,n,Y,rfl,W,q):=q;obtain rfl:v=bv d:=C;let big:∀{h:Lb}{A:Obj},h.objs.size<=(h.push A).objs.size:=λ{h A}=>by simp[Lb.push]
 rcases q with⟨l,q⟩|⟨o,l,q⟩
 .let(p,es,ep,(o,j,t,f),sz,E):=W.raw a.hok<|a.hok d _ l;calc qv p (o,j,t,f,) ?_;let y:Inv X OU σ (upd m d<|.frz o u) k:=a.freezeU l j W.n1 W.n2 W.n3 W.n4;refine(_,[_],λi h=>h.IsKeyIter _ d i n ep,ItK d o u n Y,upd m d<|.frz o u,Z,y.kept (t':=k.toks)<|λb u q=>ac _ q,qw W f,(_,am _ Z,Z,by rw[sz];rfl,),λc r=>?_,q o,);rw[dV.mp r];exact y.fpOk (Ab _)<|y.hok.fresh<|Ab _
 .let(g,hok):=(show bq X.prog X.w m k.heap d (.frz o u)from a.hok d _ l);let(p,es,ep,(F,j,t,f),sz,E):=W.raw a.hok hok;rw[g]at j;cases j;calc qv p (o,g,t,f,) ?_;refine(_,[_],λi h=>h.IsKeyIter _ d i n ep,ItK d o u n Y,m,Z,a.kept (t':=k.toks)<|λb u q=>ac _ q,qw W f,(_,am _ Z,Z,by rw[sz];rfl,),λc r=>?_,q,);rw[dV.mp r];calc a.fpOk (Ab _)<|a.hok.fresh<|Ab _
def uc{d:La}{o:Obj}{u:HO}{n:Nat}{Y:Nat->V->Rr}{g:TG}{j:TS}{D:Ends}{σ:St}{H:Hp}(a:Nat->Rq)(v:a 0 σ H)(s:∀i σ H,i<=n->a i σ H->H d=OP (.frz o u))
  (r:∀i x σ H,i<n->Y i x H->a i σ H->g x σ H λb h=>j { D with nx:=a<|i+1,ct:=a<|i+1,bk:=D.nx } b h)(t:∀σ H,a n σ H->D.nx σ H) :
  ∃W:Nat->Nat->Rq,(∃m,W 0 m σ H)/\∀i m σ H,W i m σ H ->
   ((ItK d o u n Y).stop i H/\D.nx σ H)\/((ItK d o u n Y).go i H/\∃N:Rq,(∀c H',N c H'->∃k,k<m/\W (i+1) k c H')/\∀x H',(ItK d o u n Y).yld i H x H'->g x σ H' λb h=>j { D with nx:=N,ct:=N,bk:=D.nx } b h):=by
 refine(λi m σ H=>m=n-i/\i<=n/\a i σ H,(n,by simp,BG _,v,),?_,);rintro i m σ H ⟨rfl,hi,p⟩;let q:=s i σ H hi p;by_cases f:i<n
 .refine .inr ((q,f,),a<|i+1,λc H' l=>(n-(i+1),∅,Z,f,l,),λx H' y=>?_,);let(rfl,y):=y;exact r i x σ _ f y p
 .let e:i=n:=∅
  subst e;calc .inl ((q,Ab _,),t σ H p,)
def FP{kvs:O4 (NK×La×V)}:KWk P w d (cg P w d kvs) ⇑kvs (λi v _=>∃c,kvs[i]?=OP c/\v=.ref c.2.1) where
 raw:=λ{H h} ok g=>by
  let((z,y,p,r,o,es,ep,l,k,j,e,s),_):=g;let sz:es.size=⇑kvs:=by rw[←Ht,e,aa,←Paired.length r]
  calc(y,es,ep,(o,l,k,j,),sz,λi hi=>?_,);let f:=KN hi;let(q,n,u,m,t):=dC r f;refine(_,.ref q.2.1,(by rw[←HH,e,dy,n];rfl),?_,_,f,by rw[m],);exact Z
 n1:=λa z=>by cases z
 n2:=λa z=>by cases z
 n3:=λa b z=>by cases z
 n4:=λa z=>by cases z
def FQ{kvs:O4 (O4 Key×V)}:KWk P w d (.dT kvs) ⇑kvs (λi v H=>∃b k x,v=.ref b/\kvs[i]?=OP (k,x)/\H b=OP (.tup<|k.map kV)) where
 raw:=λ{H h} ok f=>by
  let(z,y,p,r,o,es,ep,l,j,g,c,s):=f;let sz:es.size=⇑kvs:=by rw[←Ht,c,aa,←Paired.length r]
  calc(y,es,ep,(o,l,j,g,),sz,λi hi=>?_,);let e:=KN hi;let(q,n,u,m,t):=dC r e;refine(_,.ref q.2.1,(by rw[←HH,c,dy,n];rfl),?_,q.2.1,_,_,Z,e,m,);exact Z
 n1:=λa z=>by cases z
 n2:=λa z=>by cases z
 n3:=λa b z=>by cases z
 n4:=λa z=>by cases z
def  FR(f ty e:TE):TS:=λD σ H=>e σ H λv h=>f σ h λx g=>ty σ g λy d=>∃(a b:La)(c:O4 (O4 Key×V))(k:O4 Key),x=.ref a/\y=.ref b/\d a=OP (.dT c)/\d b=OP (.tup<|k.map kV)/\⇑c<Lc/\D.nx σ (upd d a<|.dT<|putK c k v)
def B2{o i c:Lu}{f ty e:TE}{pos d:Pos}{k:Nat}(B:bK k X.A)(C:PE X o f)(hi:PE X i ty)(w:PE X c e)(z:LJ c (OP<|.Subscript o i d) pos.line X.env=pure OS) :
  PS X (.Assign [.Subscript o i d] c pos) (FR f ty e):=by
 intro OU s σ H D I h;calc OB (thn (w OU s σ H _ I h) λr g (v,Q,O,m,q,)=>thn (C OU g σ Q _ O q) λu s2 (x,P,N,l,p,)=>thn (hi OU s2 σ P _ N p) λV T (y,W,M,j,a,b,R,k,G,F,K,J,E,n,)=>?_) z;subst G F;obtain rfl:u=bv a:=l;calc yu (by have:=B.units;lia) M (BR.t K J E) j m λS L=>(σ,_,L,n,)
def yA{K:RD}(a:X.K=K):OpR X (L3 .Add) (qX K):=by subst a;calc kq
end _L
set_option Elab.async false
set_option maxRecDepth 100000
set_option linter.all false
open Lean Parser.Tactic in
local macro_rules(kind:=Lean.Parser.Tactic.obtain)|s=>do
 let p:=s[1][0]
 if p[0][0].getKind==``rcasesPat.tuple&&p[0][0][1].getNumArgs>3&&s[2].isNone then `(tactic|(show let G:Prop:=_;G;intro G;rcases $(⟨s[3][1][0]⟩):term with $(⟨p⟩):rcasesPatMed<;>(unfold G;clear G))) else Macro.throwUnsupported
open Lean Parser.Tactic in
local macro_rules(kind:=Lean.Parser.Tactic.rintro)|s=>do
 let a:=s[1].getArgs
 let n:=Syntax.node .none
 let some i:=a.findIdx? λp=>p[0].getKind==``rcasesPat.tuple&&p[0][1].getNumArgs>3|Macro.throwUnsupported
 let f:=λx:Array Syntax=>n s.getKind #[s[0],n `null x,s[2]]
 let m←`(tactic|(intro h;obtain $(⟨n ``rcasesPatMed #[n `null #[a[i]![0]]]⟩):rcasesPatMed := h))
 let m←if i=0 then pure m else `(tactic|($(⟨f a[:i]⟩);$m))
 if i+1=a.size then pure m else `(tactic|($m;$(⟨f a[i+1:]⟩)))
namespace _M
open PySem _L
def  top(i:Nat):Lz:=PySem.Challenge.pw_rowjudge_k60_whole_prices_scale.main.body.getD i<|.Pass (0,0,0,0,)
abbrev Y44:Lz:=top 11
abbrev Y40:Lz:=top 12
abbrev Y81:Lz:=top 13
abbrev Y43:Lz:=top 16
abbrev Y39:Lz:=top 17
abbrev Y35:Lz:=top 18
abbrev Y62:Lz:=top 19
abbrev Y36:Lz:=top 20
abbrev Y64:Lz:=top 21
abbrev Y32:Lz:=top 22
abbrev Y65:Lz:=top 23
abbrev Y66:Lz:=top 24
abbrev Y42:Lz:=top 25
abbrev Y38:Lz:=top 26
abbrev Y31:Lz:=top 31
abbrev Y46:Lz:=top 32
abbrev Y45:Lz:=top 33
abbrev Y86:Lz:=top 47
abbrev Y76:Lz:=top 52
abbrev Y75:Lz:=top 53
abbrev Y78:Lz:=top 54
abbrev Y77:Lz:=top 55
abbrev Y68:Lz:=top 56
abbrev Y41:Lz:=top 57
abbrev Y67:Lz:=top 58
abbrev Y47:Lz:=top 59
abbrev Y82:Lz:=top 61
abbrev Y83:Lz:=top 62
abbrev Y37:Lz:=top 63
abbrev s_row_form:Lz:=top 64
abbrev s_verdict_form:Lz:=top 65
abbrev Y70:Lz:=top 71
abbrev Y80:Lz:=top 72
abbrev Y84:Lz:=top 73
abbrev Y88:Lz:=top 74
abbrev Y63:Lz:=top 77
abbrev Y33:Lz:=top 78
abbrev Y73:Lz:=top 79
abbrev Y74:Lz:=top 80
abbrev Y34:Lz:=top 81
abbrev Y69:Lz:=top 82
abbrev Y87:Lz:=top 83
abbrev s_plan_of:Lz:=top 84
abbrev Y72:Lz:=top 85
abbrev Y49:Lz:=top 87
abbrev Y51:Lz:=top 88
abbrev Y57:Lz:=top 89
abbrev Y52:Lz:=top 90
abbrev Y56:Lz:=top 91
abbrev Y61:Lz:=top 92
abbrev Y53:Lz:=top 93
abbrev Y60:Lz:=top 94
abbrev Y58:Lz:=top 95
abbrev Y50:Lz:=top 96
abbrev Y59:Lz:=top 97
abbrev Y55:Lz:=top 98
abbrev Y54:Lz:=top 99
abbrev Y12:Lz:=inClass (top 35) 0
abbrev Y0:Lz:=inClass (top 34) 0
abbrev Y17:Lz:=inClass (top 51) 0
abbrev Y30:Lz:=inClass (top 36) 0
abbrev Y1:Lz:=inClass (top 34) 0
abbrev Y4:Lz:=inClass (top 41) 0
abbrev Y18:Lz:=inClass (top 40) 0
abbrev Y13:Lz:=inClass (top 42) 0
abbrev Y22:Lz:=inClass (top 40) 0
abbrev Y8:Lz:=inClass (top 43) 0
abbrev Y20:Lz:=inClass (top 40) 0
abbrev Y10:Lz:=inClass (top 44) 0
abbrev Y21:Lz:=inClass (top 40) 0
abbrev Y6:Lz:=inClass (top 45) 0
abbrev Y19:Lz:=inClass (top 40) 0
abbrev Y15:Lz:=inClass (top 46) 0
abbrev Y23:Lz:=inClass (top 40) 0
abbrev Y2:Lz:=inClass (top 34) 5
abbrev Y3:Lz:=inClass (top 34) 5
abbrev Y24:Lz:=inClass (top 40) 1
abbrev Y5:Lz:=inClass (top 41) 1
abbrev Y28:Lz:=inClass (top 40) 1
abbrev Y14:Lz:=inClass (top 42) 1
abbrev Y26:Lz:=inClass (top 40) 1
abbrev Y9:Lz:=inClass (top 43) 1
abbrev Y27:Lz:=inClass (top 40) 1
abbrev Y11:Lz:=inClass (top 44) 1
abbrev Y25:Lz:=inClass (top 40) 1
abbrev Y7:Lz:=inClass (top 45) 1
abbrev Y29:Lz:=inClass (top 40) 1
abbrev Y16:Lz:=inClass (top 46) 1
abbrev Y48:Lz:=top 100
abbrev Y79:Lu:=CY ((bX s_row_form).getD 0<|.Pass (0,0,0,0,)) 2
def Z81{c_0:La}:nL ["codes","table"] ["codes"] (iH Y79) [("table",c_0)]:=(Z,Z,Z,~~~0,Z,~~~0,~~~0,vQ Z,)
abbrev Y85:Lu:=CY ((bX s_verdict_form).getD 0<|.Pass (0,0,0,0,)) 2
def Z88{c_0:La}:nL ["rows","table"] ["rows"] (iH Y85) [("table",c_0)]:=(Z,Z,Z,~~~0,Z,~~~0,~~~0,vQ Z,)
abbrev Y71:Lu:=kwE (Hz<|(bX s_plan_of).getD 3<|.Pass (0,0,0,0,)) 0
def Z72:nL ["plan"] ["plan"] (iH Y71) []:=(Z,Z,Z,~~~0,Z,~~~0,~~~0,vQ Z,)
def Z44:av ["spans","number","low","high"] ["spans","number"] (ao Y44):=fsc
def Z40:av ["spans","low","high","turns","first","last"] ["spans","low","high"] (ao Y40):=fsc
def Z83:av ["low","high","marks","cuts","lows","highs"] ["low","high","marks"] (ao Y81):=fsc
def Z43:av ["bounds","marks","product","parts"] ["bounds","marks"] (ao Y43):=fsc
def Z39:av ["bounds","marks"] ["bounds","marks"] (ao Y39):=fsc
def Z35:av ["bounds","marks","leaf"] ["bounds","marks","leaf"] (ao Y35):=fsc
def Z62:av ["columns","ahead","leaf"] ["columns","ahead","leaf"] (ao Y62):=fsc
def Z36:av ["triples","form","low","high","beneath"] ["triples"] (ao Y36):=fsc
def Z64:av ["form","codes","found","code"] ["form","codes"] (ao Y64):=fsc
def Z32:av ["form","code","at"] ["form","code"] (ao Y32):=fsc
def Z65:av ["form","deep","change"] ["form","deep","change"] (ao Y65):=fsc
def Z66:av ["form","deep","marks","further","column"] ["form","deep"] (ao Y66):=fsc
def Z42:av ["lists","numbers","some"] ["lists"] (ao Y42):=fsc
def Z38:av ["box"] ["box"] (ao Y38):=fsc
def Z31:av ["text","signs","sign"] ["text","signs"] (ao Y31):=fsc
def Z46:av ["text"] ["text"] (ao Y46):=fsc
def Z45:av ["value"] ["value"] (ao Y45):=fsc
def Z89:av ["name","way"] ["name"] (ao Y86):=fsc
def Z77:av ["names","name"] ["names"] (ao Y76):=fsc
def Z76:av ["names","rows"] ["names","rows"] (ao Y75):=fsc
def Z79:av ["way","outcome"] ["way","outcome"] (ao Y78):=fsc
def Z78:av ["domains","outcome","cells","code","domain","spans","low","high"] ["domains","outcome","cells","code"] (ao Y77):=fsc
def Z68:av ["cells","code"] ["cells","code"] (ao Y68):=fsc
def Z41:av ["table","k","codes","cells","spans","code"] ["table","k","codes"] (ao Y41):=fsc
def Z67:av ["table","codes"] ["table","codes"] (ao Y67):=fsc
def Z47:av ["table","rows","codes"] ["table","rows"] (ao Y47):=fsc
def Z84:av ["table"] ["table"] (ao Y82):=fsc
def Z85:av ["table"] ["table"] (ao Y83):=fsc
def Z37:av ["table","column","domain"] ["table","column"] (ao Y37):=fsc
def Z80:av ["table"] ["table"] (ao s_row_form):=fsc
def Z87:av ["table"] ["table"] (ao s_verdict_form):=fsc
def Z70:av ["tree","codes","asked","at","side"] ["tree","codes"] (ao Y70):=fsc
def Z82:av ["tree","codes"] ["tree","codes"] (ao Y80):=fsc
def Z86:av ["tree","side"] ["tree","side"] (ao Y84):=fsc
def Z91:av ["box","column","pair"] ["box","column","pair"] (ao Y88):=fsc
def Z63:av ["table","prices"] ["table","prices"] (ao Y63):=fsc
def Z33:av ["table","prices"] ["table","prices"] (ao Y33):=fsc
def Z74:av ["table","prices","bounds","form","marks","costs","plans","block"] ["table","prices"] (ao Y73):=fsc
def Z75:av ["marks","product","cuts"] ["marks"] (ao Y74):=fsc
def Z34:av ["bounds","marks","blocks","bound","cuts"] ["bounds","marks"] (ao Y34):=fsc
def Z69:av ["parts","pairs","further","first"] ["parts"] (ao Y69):=fsc
def Z90:av ["blocks","pairs","wider","block","pair"] ["blocks","pairs"] (ao Y87):=fsc
def Z71:av ["plans","block","marks","costs","form","choices","column","cuts","cut"] ["plans","block","marks","costs","form"] (ao s_plan_of):=fsc
def Z73:av ["plans","block","column","cut","cost","below","above"] ["plans","block","column","cut","cost"] (ao Y72):=fsc
def Z49:av ["script","k"] ["script","k"] (ao Y49):=fsc
def Z51:av ["script","fences","sizes","k","cell","fence","widest","i","gap"] ["script"] (ao Y51):=fsc
def Z57:av ["bits","fence","told","i"] ["bits","fence"] (ao Y57):=fsc
def Z52:av ["script","numbers","k","cell"] ["script"] (ao Y52):=fsc
def Z56:av ["script","fences","rows","number","rest","bits","fence","most"] ["script","fences"] (ao Y56):=fsc
def Z61:av ["script"] ["script"] (ao Y61):=fsc
def Z53:av ["script","cell","base"] ["script"] (ao Y53):=fsc
def Z60:av ["script","way"] ["script"] (ao Y60):=fsc
def Z58:av ["script","fences","rows","outs","domains","k","made","bits","out","outcome"] ["script","fences","rows","outs"] (ao Y58):=fsc
def Z50:av ["way","codes","low","high"] ["way","codes","low","high"] (ao Y50):=fsc
def Z59:av ["fences","rows","outs","way","grid","fence","longer","at","told","codes","bits","out","held"] ["fences","rows","outs","way"] (ao Y59):=fsc
def Z55:av ["script","count","cell","widest"] ["script","count"] (ao Y55):=fsc
def Z54:av ["tree","codes","prices","paid","question"] ["tree","codes","prices"] (ao Y54):=fsc
def Z12:av ["self","low","high"] ["self","low","high"] (ao Y12):=fsc
def Z0:av ["self","low","high"] ["self","low","high"] (ao Y0):=fsc
def Z17:av ["self","name","names","domains","outcome","way","rows","cells","code"] ["self","name","names","domains","outcome","way","rows"] (ao Y17):=fsc
def Z30:av ["self","words","word"] ["self","words"] (ao Y30):=fsc
def Z1:av ["self","low","high"] ["self","low","high"] (ao Y1):=fsc
def Z4:av ["self"] ["self"] (ao Y4):=fsc
def Z18:av ["self","called"] ["self","called"] (ao Y18):=fsc
def Z13:av ["self"] ["self"] (ao Y13):=fsc
def Z22:av ["self","called"] ["self","called"] (ao Y22):=fsc
def Z8:av ["self"] ["self"] (ao Y8):=fsc
def Z20:av ["self","called"] ["self","called"] (ao Y20):=fsc
def Z10:av ["self"] ["self"] (ao Y10):=fsc
def Z21:av ["self","called"] ["self","called"] (ao Y21):=fsc
def Z6:av ["self"] ["self"] (ao Y6):=fsc
def Z19:av ["self","called"] ["self","called"] (ao Y19):=fsc
def Z15:av ["self"] ["self"] (ao Y15):=fsc
def Z23:av ["self","called"] ["self","called"] (ao Y23):=fsc
def Z2:av ["self","value"] ["self","value"] (ao Y2):=fsc
def Z3:av ["self","value"] ["self","value"] (ao Y3):=fsc
def Z24:av ["self","codes","outcome"] ["self","codes","outcome"] (ao Y24):=fsc
def Z5:av ["self","codes","outcome"] ["self","codes","outcome"] (ao Y5):=fsc
def Z28:av ["self","codes","outcome"] ["self","codes","outcome"] (ao Y28):=fsc
def Z14:av ["self","codes","outcome"] ["self","codes","outcome"] (ao Y14):=fsc
def Z26:av ["self","codes","outcome"] ["self","codes","outcome"] (ao Y26):=fsc
def Z9:av ["self","codes","outcome"] ["self","codes","outcome"] (ao Y9):=fsc
def Z27:av ["self","codes","outcome"] ["self","codes","outcome"] (ao Y27):=fsc
def Z11:av ["self","codes","outcome"] ["self","codes","outcome"] (ao Y11):=fsc
def Z25:av ["self","codes","outcome"] ["self","codes","outcome"] (ao Y25):=fsc
def Z7:av ["self","codes","outcome"] ["self","codes","outcome"] (ao Y7):=fsc
def Z29:av ["self","codes","outcome"] ["self","codes","outcome"] (ao Y29):=fsc
def Z16:av ["self","codes","outcome"] ["self","codes","outcome"] (ao Y16):=fsc
def Z48:av ["script","fences","rows","outs","table","prices","times","cell","told","scaled","raised","dearer","block","found","at","lows","highs"] ["script"] (ao Y48):=fsc
structure AD where (a b c d e f g h i j k l m:La)
structure Bk(K:RD)(Y:AD):Prop where
 n_Way:im K Lh "Way" = OP ↑Y.a
 n_First:im K Lh "First" = OP ↑Y.b
 n_Only:im K Lh "Only" = OP ↑Y.c
 n_Like:im K Lh "Like" = OP ↑Y.d
 n_Low:im K Lh "Low" = OP ↑Y.e
 n_High:im K Lh "High" = OP ↑Y.f
 n_Sum:im K Lh "Sum" = OP ↑Y.g
 n_Domain:im K Lh "Domain" = OP ↑Y.h
 n_Numbers:im K Lh "Numbers" = OP ↑Y.i
 n_Words:im K Lh "Words" = OP ↑Y.j
 n_Table:im K Lh "Table" = OP ↑Y.k
 n_NONE:im K Lh "NONE" = OP ↑Y.l
 n_CLASH:im K Lh "CLASH" = OP ↑Y.m
 k_First:Cls K Y.b
 k_Only:Cls K Y.c
 k_Like:Cls K Y.d
 k_Low:Cls K Y.e
 k_High:Cls K Y.f
 k_Sum:Cls K Y.g
 k_Numbers:Cls K Y.i
 k_Words:Cls K Y.j
 k_Table:Cls K Y.k
 t_First:nG K Y.b
 t_Only:nG K Y.c
 t_Like:nG K Y.d
 t_Low:nG K Y.e
 t_High:nG K Y.f
 t_Sum:nG K Y.g
 t_Numbers:nG K Y.i
 t_Words:nG K Y.j
 t_Table:nG K Y.k
 q_NONE:ModT K Y.l [.str "none",.int (0)]
 q_CLASH:ModT K Y.m [.str "clash",.int (0)]
 na_First_called:NoAttr K Y.b "called"
 na_Only_called:NoAttr K Y.c "called"
 na_Like_called:NoAttr K Y.d "called"
 na_Low_called:NoAttr K Y.e "called"
 na_High_called:NoAttr K Y.f "called"
 na_Sum_called:NoAttr K Y.g "called"
 na_Numbers_low:NoAttr K Y.i "low"
 na_Numbers_high:NoAttr K Y.i "high"
 na_Numbers_words:NoAttr K Y.i "words"
 na_Words_low:NoAttr K Y.j "low"
 na_Words_high:NoAttr K Y.j "high"
 na_Words_words:NoAttr K Y.j "words"
 na_Table_name:NoAttr K Y.k "name"
 na_Table_names:NoAttr K Y.k "names"
 na_Table_domains:NoAttr K Y.k "domains"
 na_Table_outcome:NoAttr K Y.k "outcome"
 na_Table_way:NoAttr K Y.k "way"
 na_Table_rows:NoAttr K Y.k "rows"
 f_nn:P4 K (.ref Y.i) (.ref Y.i)=OP OR
 f_wn:P4 K (.ref Y.j) (.ref Y.i)=OP OS
 f_ww:P4 K (.ref Y.j) (.ref Y.j)=OP OR
 f_nw:P4 K (.ref Y.i) (.ref Y.j)=OP OS
 nt0:∀z z',dL K "row_form" = OP z->dL K "verdict_form" = OP z'->z.2≠z'.2
 nt1:∀z z',dL K "row_form" = OP z->dL K "plan_of" = OP z'->z.2≠z'.2
 nt2:∀z z',dL K "verdict_form" = OP z->dL K "plan_of" = OP z'->z.2≠z'.2
structure Bl(K:RD)(mg:Str->Option K5)(Y:AD):Prop extends Bk K Y where
 Way_:mg "Way" = ↑Y.a
 First_:mg "First" = ↑Y.b
 Only_:mg "Only" = ↑Y.c
 Like_:mg "Like" = ↑Y.d
 Low_:mg "Low" = ↑Y.e
 High_:mg "High" = ↑Y.f
 Sum_:mg "Sum" = ↑Y.g
 Domain_:mg "Domain" = ↑Y.h
 Numbers_:mg "Numbers" = ↑Y.i
 Words_:mg "Words" = ↑Y.j
 Table_:mg "Table" = ↑Y.k
 NONE_:mg "NONE" = ↑Y.l
 CLASH_:mg "CLASH" = ↑Y.m
 sorted_:mg "sorted" = OQ
 list_:mg "list" = OQ
 set_:mg "set" = OQ
 zip_:mg "zip" = OQ
 len_:mg "len" = OQ
 tuple_:mg "tuple" = OQ
 range_:mg "range" = OQ
 isinstance_:mg "isinstance" = OQ
 int_:mg "int" = OQ
 bool_:mg "bool" = OQ
 sum_:mg "sum" = OQ
 enumerate_:mg "enumerate" = OQ
 dict_:mg "dict" = OQ
 min_:mg "min" = OQ
 max_:mg "max" = OQ
 MOST_GRAIN_:∃u,mg "MOST_GRAIN" = OP u/\RelV (RV 300) u
 MOST_SIGNS_:∃u,mg "MOST_SIGNS" = OP u/\RelV (RV 12) u
 SMALL_LETTERS_:∃u,mg "SMALL_LETTERS" = OP u/\RelV (Rk "abcdefghijklmnopqrstuvwxyz") u
 MOST_ROWS_:∃u,mg "MOST_ROWS" = OP u/\RelV (RV 200) u
 MOST_COLUMNS_:∃u,mg "MOST_COLUMNS" = OP u/\RelV (RV 4) u
 SAY_:∃u,mg "SAY" = OP u/\RelV (Rk "say") u
 BELOW_:∃u,mg "BELOW" = OP u/\RelV (Rk "below") u
 ABOVE_:∃u,mg "ABOVE" = OP u/\RelV (Rk "above") u
 MOST_BLOCKS_:∃u,mg "MOST_BLOCKS" = OP u/\RelV (RV 600) u
 ASK_:∃u,mg "ASK" = OP u/\RelV (Rk "ask") u
 MOST_WORDS_:∃u,mg "MOST_WORDS" = OP u/\RelV (RV 40) u
def p10(n:Nat):(0:Int)<10^n:=Int.pow_pos ⋯
def HD{n:Int}{p:Int×Int}(c:decide (p.1<=n)=OR)(d:decide (n<=p.2)=OR):inR n p=true:=by unfold inR;rw[c,d];rfl
def FT{n:Int}{p:Int×Int}(c:¬ decide (p.1<=n)=OR):inR n p=false:=by unfold inR;rw[KW.mpr c];rfl
def FU{n:Int}{p:Int×Int}(d:¬ decide (n<=p.2)=OR):inR n p=false:=by unfold inR;rw[KW.mpr d,Ch]
def jj{xs:O4 V}{i:Nat}{x:V}(e:xs[i]?=OP x):atI xs (0+(i:Int))=OP x:=by
 rw[IN];calc bN e
def z0(a b:Int):atI [RV a,RV b] 0=OP (RV a):=rfl
def z1(a b:Int):atI [RV a,RV b] 1=OP (RV b):=rfl
def cI{H:Hp}{r:La}{o:HO}{b:La}{u:HO}(h:H r=OP u)(n:H b=OQ):upd H b o r=OP u:=by rw[ar (bc h n)];calc h
def nW{n:Nat}(h:0<n):ixN n (-1)=OP (n-1):=by
 unfold ixN;rw[OW ⋯,OX ∅]
 congr 1
 lia
def ud{α:Type}(l:O4 α)(x y:α):(l++[x]).set (⇑(l++[x])-1) y=l++[y]:=by
 let e:⇑(l++[x])-1=⇑l:=by simp
 rw[e,Pq _ _<|Ab _,Fp];rfl
def take_snoc{α:Type}{l:O4 α}{i:Nat}{x:α}(e:l[i]?=OP x):l.take (i+1)=l.take i++[x]:=by rw[ov,e];rfl
def get_map{a:O4 Int}{i:Nat}{c:Int}(e:a[i]?=OP c):(a.map RV)[i]?=OP (.int c):=by rw[dy,e];rfl
def of_map{a:O4 Int}{i:Nat}{x:V}(e:(a.map RV)[i]?=OP x):∃c,x=.int c/\a[i]?=OP c:=by
 rw[dy]at e;cases q:a[i]? with
 |none=>rw[q]at e;cases e
 |some c=>rw[q]at e;cases e;calc(c,Z,Z,)
def  lets:Str := "abcdefghijklmnopqrstuvwxyz"
def  isw(z:Str):Bool:=OT ((1:Int)<=((⇑z:Nat):Int)) && (OT (((⇑z:Nat):Int)<=12) && (!OT (Rk z=Rk "not") && sY z lets))
def DV{l:O4 Nat}{i:Nat}{c:Nat}{p:Nat->Bool}(e:l[i]?=OP c)(h:p c=OS):l.all p=false:=by
 cases q:l.all p with
 |false=>rfl
 |true=>rw[jP.mp q c (KP e)]at h;cases h
def all_succ{l:O4 Nat}{i:Nat}{c:Nat}{p:Nat->Bool}(e:l[i]?=OP c)(h:p c=OR)(a:(l.take i).all p=OR):(l.take<|i+1).all p=true:=by
 rw[take_snoc e,List.all_append,a];simp[h]
def AB{z g:Str}(h:(z.cps.toList.take z.cps.size).all (sg g)=OR):sY z g=true:=by
 let e:z.cps.toList.take z.cps.size=z.cps.toList:=by rw[←Ht];exact gs
 rw[e]at h;calc h
def DW{g:Str}{c:Nat}(h:(!(!(NE g ⟨#[c]⟩ 0 ⇑g 1).isEmpty))=OR):sg g c=false:=by unfold sg;simpa using h
def FV{g:Str}{c:Nat}(h:¬ (!(!(NE g ⟨#[c]⟩ 0 ⇑g 1).isEmpty))=OR):sg g c=true:=by unfold sg;simpa using h
def big{n:Nat}(h:n<=1000):n<=Lc:=Dn<|aD h
def  mkd(C:La)(H:Hp)(x a:La)(lo hi:Int):Hp:=upd (upd H x<|.ins C a [("low",.int lo)]) x<|.ins C a [("low",.int lo),("high",.int hi)]
def put2(v u:V):bx s!"high" u [(s!"low",v)]=[(s!"low",v),(s!"high",u)]:=by
 unfold bx bx;rw[OW ⋯]
def put3(v u t:V):bx s!"words" t [(s!"low",v),(s!"high",u)]=[(s!"low",v),(s!"high",u),(s!"words",t)]:=by
 unfold bx bx bx;rw[OW ⋯,OW ⋯]
def  hiW(zs:O4 Str):Int:=((⇑zs:Nat):Int)-1
structure Good(zs:O4 Str):Prop where
 some_:1<=⇑zs
 few:⇑zs<=40
 words:∀z∈zs,isw z=OR
 once:zs.Nodup
def ue{zs:O4 Str}{i:Nat}{x:V}(e:(zs.map Rk)[i]?=OP x):∃z,x=.str z/\zs[i]?=OP z:=by
 rw[dy]at e;cases q:zs[i]? with
 |none=>rw[q]at e;cases e
 |some z=>rw[q]at e;cases e;calc(z,Z,Z,)
def  six:O4 Str:=[s!"first",s!"only",s!"like",s!"low",s!"high",s!"sum"]
def rH{i j:Nat}{z:Str}(h:six[i]?=OP z)(k:six[j]?=OP z):i=j:=kj (show six.Nodup by decide+kernel) h k
def  WyN(C:La)(H:Hp)(x:La)(z:Str):Prop:=∃a,H x=OP (.ins C a [("called",.str z)])
def WyN.same{C:La}{H H':Hp}{x:La}{z:Str}(h:WyN C H x z)(s:au H H'):WyN C H' x z:=by let(a,e):=h;calc(a,s _ _ e,)
def  yB(C:La)(z:Str):Sp:=λb H Q _=>∃(x a:La),b=[.ref x]/\H x=OP (.ins C a [])/\Q .non (upd H x<|.ins C a [("called",.str z)])
def b9:2<=Lc:=⋯
def  cl6(a b c d e f:La):O4 La:=[a,b,c,d,e,f]
def  DX(C:La)(H:Hp)(a:La)(lo hi:Int):Prop:=∃b fs,H a=OP (.ins C b fs)/\fs.lookup s!"low"=OP (.int lo)/\fs.lookup s!"high"=OP (.int hi)/\fs.lookup s!"has_code"=OQ
def  Dom(d c:La)(H:Hp)(a:La)(b:Int×Int):Prop:=∃C,(C=d\/C=c)/\DX C H a b.1 b.2
def Dom.same{d c:La}{H H':Hp}{a:La}{b:Int×Int}(h:Dom d c H a b)(s:au H H'):Dom d c H' a b:=by let(C,f,g,fs,e,r):=h;calc(C,f,g,fs,s _ _ e,r,)
def Dom.upd{d c:La}{H:Hp}{a D:La}{b:Int×Int}{o:HO}{zs:O4 V}(h:Dom d c H a b)(e:H D=OP (.lst zs)):Dom d c (upd H D o) a b:=by
 let(C,g,i,fs,f,r):=h;calc(C,g,i,fs,(ar<|dZ f e (by intro z;cases z)).trans f,r,)
def  aJ{α:Type}(xs:O4 V)(b:O4 α)(P:La->α->Prop):Prop:=⇑xs=⇑b/\∀(j:Nat)(a:α),b[j]?=OP a->∃r,xs[j]?=↑r/\P r a
def aJ.mono{α:Type}{xs:O4 V}{b:O4 α}{P Q:La->α->Prop}(h:aJ xs b P)(k:∀r a,P r a->Q r a):aJ xs b Q:=(h.1,λj a e=>let ⟨r,e1,p⟩:=h.2 j a e;(r,e1,k r a p,),)
def aJ.nil{α:Type}{P:La->α->Prop}:aJ [] [] P:=(Z,(λj a e=>by simp at e),)
def aJ.snoc{α:Type}{xs:O4 V}{c:O4 α}{P:La->α->Prop}{r:La}{a:α}(h:aJ xs c P)(p:P r a):aJ (xs++[.ref r]) (c++[a]) P:=by
 refine(by simp[h.1],λj b e=>?_,);by_cases f:j<⇑c
 .rw[fo f]at e;let(g,i,q):=h.2 j b e;exact(g,by rw[fo (by rw[h.1];exact f)];exact i,q,)
 .let d:j=⇑c:=by
   let:=(KO.mp e).1;simp at this;lia
  subst d;simp at e;subst e;calc(r,by rw[←h.1];simp,p,)
def aJ.get{α:Type}{xs:O4 V}{b:O4 α}{P:La->α->Prop}(h:aJ xs b P){j:Nat}{x:V}(e:xs[j]?=OP x):∃r a,x=.ref r/\b[j]?=OP a/\P r a:=by
 let f:=(KO.mp e).1;let c:=KN (l:=b) (i:=j) (by rw[←h.1];exact f);let(r,d,p):=h.2 j _ c;rw[e]at d;cases d;calc(r,_,Z,c,p,)
abbrev Prs:=List<|Int×Int
def  SpA(N:La->Prop)(H:Hp)(l:La)(ps:Prs):Prop:=N l/\∃a,H l=OP (.lst a)/\PL H a ps
def  CL(N:La->Prop)(H:Hp)(xs:O4 V)(a:O4 Prs):Prop:=aJ xs a<|SpA N H
abbrev Rw:=O4 Prs×Int
def  jH(N:La->Prop)(H:Hp)(r:La)(a:Rw):Prop:=∃b c,H r=OP (.tup [.ref b,.int a.2])/\N b/\H b=OP (.lst c)/\CL N H c a.1
def  RL(N:La->Prop)(H:Hp)(xs:O4 V)(rws:O4 Rw):Prop:=aJ xs rws<|jH N H
def SpA.same{N:La->Prop}{H H':Hp}{l:La}{ps:Prs}(h:SpA N H l ps)(s:au H H'):SpA N H' l ps:=by let(n,a,e,p):=h;calc(n,a,s _ _ e,p.mono s.tups,)
def CL.same{N:La->Prop}{H H':Hp}{xs:O4 V}{a:O4 Prs}(h:CL N H xs a)(s:au H H'):CL N H' xs a:=aJ.mono h λ_ _ p=>p.same s
def jH.same{N:La->Prop}{H H':Hp}{r:La}{w:Rw}(h:jH N H r w)(s:au H H'):jH N H' r w:=by let(b,a,e,n,f,c):=h;calc(b,a,s _ _ e,n,s _ _ f,c.same s,)
def RL.same{N:La->Prop}{H H':Hp}{xs:O4 V}{rws:O4 Rw}(h:RL N H xs rws)(s:au H H'):RL N H' xs rws:=aJ.mono h λ_ _ p=>p.same s
abbrev NT:La->Prop:=λ_=>True
def SpA.any{N:La->Prop}{H:Hp}{l:La}{ps:Prs}(h:SpA N H l ps):SpA NT H l ps:=(trivial,h.2,)
def CL.any{N:La->Prop}{H:Hp}{xs:O4 V}{a:O4 Prs}(h:CL N H xs a):CL NT H xs a:=aJ.mono h λ_ _ p=>p.any
def jH.any{N:La->Prop}{H:Hp}{r:La}{w:Rw}(h:jH N H r w):jH NT H r w:=by let(b,a,e,_,f,c):=h;calc(b,a,e,trivial,f,c.any,)
def RL.any{N:La->Prop}{H:Hp}{xs:O4 V}{rws:O4 Rw}(h:RL N H xs rws):RL NT H xs rws:=aJ.mono h λ_ _ p=>p.any
def SpA.wk{N b:La->Prop}{H:Hp}{l:La}{ps:Prs}(h:SpA N H l ps)(k:∀a,N a->b a):SpA b H l ps:=(k _ h.1,h.2,)
def CL.wk{N c:La->Prop}{H:Hp}{xs:O4 V}{b:O4 Prs}(h:CL N H xs b)(k:∀a,N a->c a):CL c H xs b:=aJ.mono h λ_ _ p=>p.wk k
def jH.wk{N b:La->Prop}{H:Hp}{r:La}{w:Rw}(h:jH N H r w)(k:∀a,N a->b a):jH b H r w:=by let(g,d,e,n,f,c):=h;calc(g,d,e,k _ n,f,c.wk k,)
def SpA.updN{N:La->Prop}{D:La}{H:Hp}{l:La}{ps:Prs}{zs:O4 V}{o:HO}(h:SpA N H l ps)(n:¬ N D)(e:H D=OP (.lst zs)):SpA N (upd H D o) l ps:=by
 let(m,a,f,p):=h;calc(m,a,(ar<|λz=>n (by rw[←z];exact m)).trans f,p.mono<|aS e,)
def CL.updN{N:La->Prop}{D:La}{H:Hp}{xs:O4 V}{a:O4 Prs}{zs:O4 V}{o:HO}(h:CL N H xs a)(n:¬ N D)(e:H D=OP (.lst zs)):CL N (upd H D o) xs a:=aJ.mono h λ_ _ p=>p.updN n e
def jH.updN{N:La->Prop}{D:La}{H:Hp}{r:La}{w:Rw}{zs:O4 V}{o:HO}(h:jH N H r w)(n:¬ N D)(e:H D=OP (.lst zs)):jH N (upd H D o) r w:=by
 let(b,a,f,m,g,c):=h;calc(b,a,(ar<|dZ f e (by intro z;cases z)).trans f,m,(ar<|λz=>n (by rw[←z];exact m)).trans g,c.updN n e,)
def RL.updN{N:La->Prop}{D:La}{H:Hp}{xs:O4 V}{rws:O4 Rw}{zs:O4 V}{o:HO}(h:RL N H xs rws)(n:¬ N D)(e:H D=OP (.lst zs)):RL N (upd H D o) xs rws:=aJ.mono h λ_ _ p=>p.updN n e
def  Fr(H:Hp)(D:La):La->Prop:=λa=>H a=OQ/\a≠D
def Fr.out{H:Hp}{D:La}:¬ Fr H D D:=λh=>h.2 Z
structure Ko(b:Int×Int)(zs:O4 Str):Prop where
 le:b.1<=b.2
 ws:zs≠[]->Good zs/\b=(0,hiW zs)
structure mw(bs:Prs)(o:Int×Int)(w:Rw):Prop where
 len:⇑w.1=⇑bs
 inn:∀(j:Nat)(ps:Prs)(b:Int×Int),w.1[j]?=OP ps->bs[j]?=OP b->∀p∈ps,b.1<=p.1/\p.2<=b.2
 lo:o.1<=w.2
 hi:w.2<=o.2
def  pj(a:O4 Prs)(b:O4 Int):Bool:=(bn ⇑b).all λj=>inP (a.getD j [])<|b.getD j 0
def pf1(b a:V):bx s!"names" a [(s!"name",b)]=[(s!"name",b),(s!"names",a)]:=by
 unfold bx bx;rw[OW ⋯]
def pf2(c b a:V):bx s!"domains" a [(s!"name",c),(s!"names",b)]=[(s!"name",c),(s!"names",b),(s!"domains",a)]:=by
 unfold bx bx bx;rw[OW ⋯,OW ⋯]
def pf3(d c b a:V):bx s!"outcome" a [(s!"name",d),(s!"names",c),(s!"domains",b)]=[(s!"name",d),(s!"names",c),(s!"domains",b),(s!"outcome",a)]:=by
 unfold bx bx bx bx;rw[OW ⋯,OW ⋯,OW ⋯]
def pf4(e d c b a:V):bx s!"way" a [(s!"name",e),(s!"names",d),(s!"domains",c),(s!"outcome",b)]=[(s!"name",e),(s!"names",d),(s!"domains",c),(s!"outcome",b),(s!"way",a)]:=by
 unfold bx bx bx bx bx;rw[OW ⋯,OW ⋯,OW ⋯,OW ⋯]
def pf5(f e d c b a:V):bx s!"rows" a [(s!"name",f),(s!"names",e),(s!"domains",d),(s!"outcome",c),(s!"way",b)]=[(s!"name",f),(s!"names",e),(s!"domains",d),(s!"outcome",c),(s!"way",b),(s!"rows",a)]:=by
 unfold bx bx bx bx bx bx;rw[OW ⋯,OW ⋯,OW ⋯,OW ⋯,OW ⋯]
def  hide(H:Hp)(x:La):Hp:=λb=>if b=x then OQ else H b
def bL{H:Hp}{x b:La}{o:HO}(e:H b=OP o)(n:b≠x):hide H x b=OP o:=by unfold hide;rw[OW n];calc e
def hide_same{H H':Hp}{x:La}(k:∀b o,b≠x->H b=OP o->H' b=OP o):au (hide H x) H':=λb o e=>by
 unfold hide at e;by_cases h:b=x
 .rw[OX h]at e;cases e
 .rw[OW h]at e;calc k b o h e
def PL.hide{H:Hp}{x C c:La}{fs:O4 (Str×V)}(a:H x=OP (.ins C c fs)){ys:O4 V}{ps:Prs}(h:PL H ys ps):PL (hide H x) ys ps :=
 h.mono λb d e=>bL e<|dZ e a (by intro z;cases z)
def RL.hide{H:Hp}{x C d:La}{fs:O4 (Str×V)}(a:H x=OP (.ins C d fs)){xs:O4 V}{rws:O4 Rw}(h:RL NT H xs rws):RL NT (_M.hide H x) xs rws :=
 aJ.mono h λr w (j,i,e,_,f,c,)=>⟨j,i,bL e<|dZ e a (by intro z;cases z),trivial,bL f<|dZ f a (by intro z;cases z),aJ.mono c λl k (_,b,g,p,)=>(trivial,b,bL g<|dZ g a (by intro z;cases z),PL.hide a p,)⟩
abbrev SI:=Str×Int
def  tp(p:SI):O4 V:=[.str p.1,.int p.2]
def  say(i:Int):SI:=(s!"say",i)
def  xq:SI:=(s!"clash",0)
def  HE:SI:=(s!"none",0)
def  least(a:O4 Int):Int:=a.foldl (λm c=>if c<m then c else m) (a.headD 0)
def  great(a:O4 Int):Int:=a.foldl (λm c=>if c>m then c else m) (a.headD 0)
def fold_min(a:O4 Int):∀m:Int,(a.foldl (λm c=>if c<m then c else m) m=m\/a.foldl (λm c=>if c<m then c else m) m∈a)/\a.foldl (λm c=>if c<m then c else m) m<=m/\∀x∈a,a.foldl (λm c=>if c<m then c else m) m<=x:=by
 induction a with
 |nil=>intro m;exact⟨.inl Z,ca _,λx h=>by cases h⟩
 |cons n a f =>
  intro m;let(b,e,g):=f (if n<m then n else m);rw[zz];refine(?_,?_,λx d=>?_,)
  .rcases b with b|b
   .rw[b];split
    .exact .inr dt
    .exact .inl Z
   .exact .inr<|fS _ b
  .split at e <;> split <;> lia
  .rcases bz.mp d with rfl|d
   .split at e <;> split <;> lia
   .exact g x d
def fold_max(a:O4 Int):∀m:Int,(a.foldl (λm c=>if c>m then c else m) m=m\/a.foldl (λm c=>if c>m then c else m) m∈a)/\m<=a.foldl (λm c=>if c>m then c else m) m/\∀x∈a,x<=a.foldl (λm c=>if c>m then c else m) m:=by
 induction a with
 |nil=>intro m;exact⟨.inl Z,ca _,λx h=>by cases h⟩
 |cons n a f =>
  intro m;let(b,e,g):=f (if n>m then n else m);rw[zz];refine(?_,?_,λx d=>?_,)
  .rcases b with b|b
   .rw[b];split
    .exact .inr dt
    .exact .inl Z
   .exact .inr<|fS _ b
  .split at e <;> split <;> lia
  .rcases bz.mp d with rfl|d
   .split at e <;> split <;> lia
   .exact g x d
def fe{n:Int}{a:O4 Int}:least (n :: a)∈n :: a/\∀x∈n :: a,least (n :: a)<=x:=by
 let(b,d,c):=fold_min (n :: a) n;calc(?_,c,);rcases b with b|b
 .show(n :: a).foldl _ n∈_;rw[b];exact dt
 .exact b
def gj{n:Int}{a:O4 Int}:great (n :: a)∈n :: a/\∀x∈n :: a,x<=great (n :: a):=by
 let(b,d,c):=fold_max (n :: a) n;calc(?_,c,);rcases b with b|b
 .show(n :: a).foldl _ n∈_;rw[b];exact dt
 .exact b
def nX{n m:Int}{c:O4 Int}(e:m∈n :: c)(d:∀b∈n :: c,m<=b):m=least (n :: c):=by
 let a:=d _ fe.1;let b:=fe.2 _ e;lia
def nY{n m:Int}{c:O4 Int}(e:m∈n :: c)(d:∀b∈n :: c,b<=m):m=great (n :: c):=by
 let a:=d _ gj.1;let b:=gj.2 _ e;lia
def  HF(a:O4 Int):SI:=say<|least a
def  FW(a:O4 Int):SI:=say<|great a
def  kE(a:O4 Int):SI:=if least a=great a then say (least a)else xq
def qx{n:Int}{a:O4 Int}:(∀x∈a,x=n)↔least (n :: a)=great (n :: a):=by
 constructor
 .intro h;let e:∀x∈n :: a,x=n:=λx b=>by
   rcases bz.mp b with r|b
   .exact r
   .exact h x b
  rw[e _ fe.1,e _ gj.1]
 .intro h x b;let g:=fe.2 x<|fS n b;let f:=gj.2 x<|fS n b;let d:=fe.2 n<|dt (l:=a);let c:=gj.2 n<|dt (l:=a);lia
def yC{n:Int}{a:O4 Int}(h:∀x∈a,x=n):least (n :: a)=n:=by
 let e:∀x∈n :: a,x=n:=λx b=>by
  rcases bz.mp b with r|b
  .exact r
  .exact h x b
 calc e _ fe.1
def  ver(f:O4 Int->SI):O4 Int->SI
 | []=>HE
 |n :: ns=>f (n :: ns)
def  Wy(C:La)(H:Hp)(x:La):Prop:=∃a z,H x=OP (.ins C a [("called",.str z)])
def  AE(a:O4 Int):SI:=say<|a.headD 0
def  kF(a:O4 Int):SI:=if ⇑a=1 then say (a.headD 0)else xq
def  near(lo hi n:Int):Int:=if n<lo then lo else if n>hi then hi else n
def  wf:Nat->Int->Int->O4 Int->SI
 |0,_,_=>AE
 |1,_,_=>kF
 |2,_,_=>kE
 |3,_,_=>HF
 |4,_,_=>FW
 |_,lo,hi=>λa=>say<|near lo hi a.sum
def at0(n:Int)(a:O4 Int):atI ((n :: a).map RV) 0=OP (.int n):=bN (j:=0) Z
def  yD(K:RD)(C g f:La)(i:Nat):Sp:=λe H Q _=>∃(x c o:La)(n:Int)(a:O4 Int)(b:Int×Int),e=[.ref x,.ref c,.ref o]/\Wy C H x/\Dom g f H o b/\b.1<=b.2/\SqL K H c ((n :: a).map RV)/\⇑a<900/\∀(r:La)(d:Hp),au H d->Vd K d r (wf i b.1 b.2 (n :: a))->Q (.ref r) d
def  kG(K:RD)(C g f:La)(i:Nat):Sp:=λe H Q _=>∃(x c o:La)(a:O4 Int)(b:Int×Int),e=[.ref x,.ref c,.ref o]/\Wy C H x/\Dom g f H o b/\b.1<=b.2/\SqL K H c (a.map RV)/\⇑a<900/\∀(r:La)(d:Hp),au H d->Vd K d r (ver (wf i b.1 b.2) a)->Q (.ref r) d
def  msk(f:Nat->Bool):Nat->Nat
 |0=>0
 |n+1=>(if f n then 2^n else 0)+msk f n
def kH(f:Nat->Bool)(n:Nat):msk f (n+1)=(if f n then 2^n else 0)+msk f n:=rfl
def vY(f:Nat->Bool):∀n,msk f n<2^n
 |0=>Nat.one_pos
 |n+1=>by
  let:=vY f n;unfold msk;rw[Nat.pow_succ];split <;> lia
def xr(f:Nat->Bool)(k:Nat):∀n,(msk f n).testBit k=(OT (k<n) && f k)
 |0=>by simp[msk]
 |n+1=>by
  let b:=xr f k n;let lt:=vY f n;unfold msk;rcases F1 k n with h|h|h
  .split
   .rw[Nat.testBit_two_pow_add_gt h,b];simp[h,CP h]
   .rw[Fq,b];simp[h,CP h]
  .subst h;split
   .rename_i hf
    rw[Nat.testBit_two_pow_add_eq,Pn lt];simp[hf]
   .rename_i hf
    rw[Fq,Pn lt];simp[hf]
  .let a:(if f n=OR then 2^n else 0)+msk f n<2^k:=BS (vY f<|n+1)<|No ⋯ h;rw[Pn a];simp;lia
def  bJ(m:Int)(k:Nat):Bool:=Qd (m / 2^k) 1 != 0
def yE(f:Nat->Bool)(n k:Nat):bJ ((msk f n:Nat):Int) k=(OT (k<n) && f k):=by
 rw[←xr];unfold bJ;let e:((msk f n:Nat):Int) / 2^k=((msk f n / 2^k:Nat):Int):=by simp
 rw[e,P2 (PR _) ⋯];unfold Nat.testBit;rw[Nat.shiftRight_eq_div_pow,Kn,Nat.and_comm];show((((1:Int).toNat &&& (msk f n / 2^k):Nat):Int) != 0)=_;rw[re,bne_iff_ne,bne_iff_ne];constructor
 .intro h z;exact h (by rw[show(1:Int).toNat=1 from Z,z];rfl)
 .intro h z;calc h (by rw[show(1:Int).toNat=1 from Z]at z;lia)
def  pkF(rws:O4 Rw)(f:Nat->Bool)(n:Nat):O4 Int:=((bn n).filter f).map λk=>(rws.getD k ([],0)).2
def AF(rws:O4 Rw)(f:Nat->Bool)(n:Nat):pkF rws f (n+1)=pkF rws f n++(if f n then[(rws.getD n ([],0)).2] else[]):=by
 unfold pkF;rw[jR,ny,fq];cases h:f n with
 |true=>rw[FM h];simp
 |false=>rw[FS (by rw[h];exact bi)];simp
def xt(rws:O4 Rw)(f:Nat->Bool)(n:Nat):⇑(pkF rws f n)<=n:=by
 unfold pkF;rw[aa];calc BK (qH ..) (by simp)
def B3(rws:O4 Rw)(f:Nat->Bool)(n:Nat):pkF rws (bJ ((msk f n:Nat):Int)) n=pkF rws f n:=by
 unfold pkF
 congr 1
 apply List.filter_congr
 intro k a;rw[yE];simp[iT.mp a]
def  Tbl(g h f:La)(H:Hp)(t:La)(rws:O4 Rw)(i:Nat)(o:Int×Int):Prop:=∃(c d e:La)(fs:O4 (Str×V))(a:O4 V)(b:Str),H t=OP (.ins g e fs)/\fs.lookup s!"rows"=↑c/\fs.lookup s!"way"=OP (.str b)/\fs.lookup s!"outcome"=↑d/\H c=OP (.lst a)/\RL NT H a rws/\six[i]?=OP b/\Dom h f H d o/\o.1<=o.2/\⇑a<=200
def Tbl.same{c d b:La}{H H':Hp}{t:La}{rws:O4 Rw}{i:Nat}{o:Int×Int}(h:Tbl c d b H t rws i o)(s:au H H'):Tbl c d b H' t rws i o:=by
 let(g,j,w,fs,e,f,v,u,r,q,p,n,m,l,k,a):=h;calc(g,j,w,fs,e,f,s _ _ v,u,r,q,s _ _ p,n.same s,m,l.same s,k,a,)
def  jk(rws:O4 Rw)(a:O4 Int)(k:Nat):Bool:=pj (rws.getD k ([],0)).1 a
def getD_at{rws:O4 Rw}{k:Nat}{w:Rw}(e:rws[k]?=OP w):rws.getD k ([],0)=w:=by rw[ab,e];rfl
def  fl(rws:O4 Rw)(a:O4 Int):O4 Int:=(rws.filter λw=>pj w.1 a).map (·.2)
structure Lay(H:Hp)(r1:La)(F2 F3:La->Prop)(m:Nat):Prop where
 top:∃xs,H r1=OP (.lst xs)/\⇑xs<=63/\∀x∈xs,∃(t ce:La)(c:Int),x=.ref t/\H t=OP (.tup [.ref ce,.int c])/\F2 ce
 mid:∀ce,F2 ce->∃ys,H ce=OP (.lst ys)/\⇑ys<=4/\∀y∈ys,∃l,y=.ref l/\F3 l
 low:∀l,F3 l->∃zs,H l=OP (.lst zs)/\⇑zs<=m
 n2:¬ F2 r1
 n3:¬ F3 r1
 n23:∀a,F2 a->F3 a->False
def uf(x:V)(xs:O4 V):jg (x :: xs) (OP 1) OQ=xs:=by
 unfold jg;simp[HT.sIx]
def RL.hideN{N:La->Prop}{H:Hp}{x C d:La}{fs:O4 (Str×V)}(a:H x=OP (.ins C d fs)){xs:O4 V}{rws:O4 Rw}(h:RL N H xs rws):RL N (_M.hide H x) xs rws :=
 aJ.mono h λr w (j,i,e,n,f,c,)=>⟨j,i,bL e<|dZ e a (by intro z;cases z),n,bL f<|dZ f a (by intro z;cases z),aJ.mono c λl k (n,b,g,p,)=>(n,b,bL g<|dZ g a (by intro z;cases z),PL.hide a p,)⟩
def  rJ(N:La->Prop)(j:La)(H:Hp)(t:La)(rws:O4 Rw)(g e:Str)(f:La)(zs:O4 Str)(i:O4 V):Prop:=∃(b h c d:La)(fs:O4 (Str×V))(a:O4 V),H t=OP (.ins j h fs)/\fs.lookup s!"rows"=↑b/\fs.lookup s!"name"=OP (.str g)/\fs.lookup s!"way"=OP (.str e)/\fs.lookup s!"outcome"=↑f/\fs.lookup s!"names"=↑c/\fs.lookup s!"domains"=↑d/\H c=OP (.lst<|zs.map Rk)/\H d=OP (.lst i)/\H b=OP (.lst a)/\RL N H a rws/\N c/\N d/\N b/\⇑a<=200
def rJ.same{N:La->Prop}{g:La}{H H':Hp}{t:La}{rws:O4 Rw}{e c:Str}{d:La}{zs:O4 Str}{f:O4 V}(h:rJ N g H t rws e c d zs f)(s:au H H'):rJ N g H' t rws e c d zs f:=by
 let(j,x,k,y,fs,i,w,v,u,q,p,o,n,m,l,b,a,r):=h;calc(j,x,k,y,fs,i,s _ _ w,v,u,q,p,o,n,s _ _ m,s _ _ l,s _ _ b,a.same s,r,)
def rJ.tbl{N:La->Prop}{f g e:La}{H:Hp}{t:La}{rws:O4 Rw}{m a:Str}{b:La}{zs:O4 Str}{w:O4 V}{i:Nat}{o:Int×Int}(h:rJ N f H t rws m a b zs w)(hi:six[i]?=OP a)(n:Dom g e H b o)(p:o.1<=o.2):Tbl f g e H t rws i o:=by
 let(l,v,_,_,fs,j,u,s,_,r,q,_,_,_,_,d,c,_,_,_,k):=h;calc(l,b,v,fs,j,a,u,s,r,q,d,c.any,hi,n,p,k,)
def  bE(a:O4 Int)(k:Int):Int:=a.getD k.toNat 0
structure Pts(ps:O4 Int):Prop where
 two:2<=⇑ps
 few:⇑ps<=13
 asc:ps.Pairwise (· < ·)
def  loP(ps:O4 Int):Int:=ps.getD 0 0
def  hiP(ps:O4 Int):Int:=ps.getD (⇑ps-1) 0-1
def Pts.mono{ps:O4 Int}(h:Pts ps){i j:Nat}{x y:Int}(d:ps[i]?=OP x)(c:ps[j]?=OP y)(a:i<j):x<y:=by
 let(hi,rfl):=KO.mp d;let(b,rfl):=KO.mp c;calc Db.mp h.asc i j hi b a
def Pts.lo{ps:O4 Int}(h:Pts ps){i:Nat}{x:Int}(a:ps[i]?=OP x):loP ps<=x:=by
 let c:=h.two;let b:ps[0]?=OP (loP ps):=by
  unfold loP;rw[ab,KN ∅];rfl
 rcases Nat.eq_zero_or_pos i with rfl|hi
 .rw[b]at a;cases a;exact ca _
 .exact xz<|h.mono b a hi
def Pts.last{ps:O4 Int}(h:Pts ps):ps[⇑ps-1]?=OP (hiP ps+1):=by
 let a:=h.two;unfold hiP;rw[ab,KN ∅];simp
def Pts.hi{ps:O4 Int}(h:Pts ps){i:Nat}{x:Int}(a:ps[i]?=OP x):x-1<=hiP ps:=by
 let hi:=(KO.mp a).1;by_cases e:i=⇑ps-1
 .rw[e,h.last]at a;cases a;lia
 .let:=h.mono a h.last ∅;lia
def Pts.le{ps:O4 Int}(h:Pts ps):loP ps<=hiP ps:=by
 let b:=h.two;let a:ps[0]?=OP (loP ps):=by
  unfold loP;rw[ab,KN ∅];rfl
 let:=h.mono a h.last ∅;lia
def  dM(n:Nat):O4 Int:=(bn n).map λj:Nat=>(0:Int)+(j:Int)
def uh(n:Nat):dM (n+1)=dM n++[(0:Int)+(n:Int)]:=by unfold dM;rw[jR,fq];rfl
def vZ(n:Nat):⇑(dM n)=n:=by unfold dM;simp
def qy{n i:Nat}(h:i<n):(dM n)[i]?=OP (i:Int):=by unfold dM;rw[dy,PJ h];simp
def yF{n:Nat}(h:1<=n):loP (dM<|n+1)=0:=by
 unfold loP;rw[ab,qy ∅];rfl
def qz(n:Nat):hiP (dM<|n+1)=(n:Int)-1:=by
 unfold hiP;rw[vZ,ab,show n+1-1=n by lia,qy ∅];rfl
def  PTL(H:Hp)(xs:O4 V)(a:O4 (O4 Int)):Prop:=aJ xs a λl b=>H l=OP (.lst<|b.map RV)
def PTL.same{H H':Hp}{xs:O4 V}{a:O4 (O4 Int)}(h:PTL H xs a)(s:au H H'):PTL H' xs a:=aJ.mono h λ_ _ e=>s _ _ e
def  s2(c:Int):O4 Nat:=[113+(c%8).toNat,121+(c / 8%2).toNat]
def  w3l(c k:Int):O4 Nat:=(s2 c).take (c / 16%3).toNat++([97+k.toNat]++(s2 c).drop (c / 16%3).toNat)
def  w3(c k:Int):Str:=⟨(w3l c k).toArray⟩
def  o0(a:O4 Int):Int:=a.getD 0 0
def  o4(a:O4 Int):Int:=a.getD 4 0
def HG{k:Int}(c:0<=k)(b:k<6):∃(a:Str)(i:Nat),atI [Rk s!"first",.str s!"only",.str s!"like",.str s!"low",.str s!"high",.str s!"sum"] k=OP (.str a)/\six[i]?=OP a:=by
 let:k=0\/k=1\/k=2\/k=3\/k=4\/k=5:=∅
 rcases this with rfl|rfl|rfl|rfl|rfl|rfl
 .exact(_,0,Z,Z,)
 .exact(_,1,Z,Z,)
 .exact(_,2,Z,Z,)
 .exact(_,3,Z,Z,)
 .exact(_,4,Z,Z,)
 .exact(_,5,Z,Z,)
def  BRL(H:Hp)(c:O4 V)(a:O4 (O4 Int×Int)):Prop:=aJ c a λr b=>∃bl:La,H r=OP (.tup [.ref bl,.int b.2])/\H bl=OP (.lst<|b.1.map RV)
def BRL.same{H H':Hp}{b:O4 V}{a:O4 (O4 Int×Int)}(h:BRL H b a)(s:au H H'):BRL H' b a:=aJ.mono h λ_ _ (bl,e,f,)=>(bl,s _ _ e,s _ _ f,)
def  bj(lo hi:Int)(a:O4 Int):O4 (Int×Int):=(lo :: a).zip (a.map (· - 1)++[hi])
def  Chn:O4 (Int×Int)->Int->Int->Prop
 | [],lo,hi=>lo=hi+1
 |p :: r,lo,hi=>p.1=lo/\lo<=p.2/\Chn r (p.2+1) hi
def ui:∀{a:O4 Int}{lo hi:Int},a.Pairwise (· < ·)->(∀c∈a,lo<c/\c<=hi)->lo<=hi->Chn (bj lo hi a) lo hi
 | [],lo,hi,_,_,h=>(Z,h,Z,)
 |c :: a,lo,hi,hp,hb,h=>by
  let(i,g):=oD.mp hp;let f:=hb c dt;let e:bj lo hi (c :: a)=(lo,c-1) :: bj c hi a:=rfl;rw[e];refine(Z,by show lo<=c-1;lia,?_,);show Chn (bj c hi a) (c-1+1) hi;rw[show c-1+1=c by lia];calc ui g (λd b=>(i d b,(hb d<|fS _ b).2,)) f.2
def cS(lo hi:Int)(a:O4 Int):⇑(bj lo hi a)=⇑a+1:=by simp[bj]
def PL.of_get{H:Hp}:∀{ts:O4 La}{ps:O4 (Int×Int)},⇑ts=⇑ps->(∀(j:Nat)(p:Int×Int),ps[j]?=OP p->∃T,ts[j]?=OP T/\H T=OP (.tup [.int p.1,.int p.2]))->PL H (ts.map RZ) ps
 | [],[],_,_=>.nil
 | [],p :: ps,h,_=>by simp at h
 |t :: ts,[],h,_=>by simp at h
 |t :: ts,p :: ps,h,g=>by
  let(T,c,b):=g 0 p Z;let:t=T:= ~~~c
  subst this;calc .cons (t,Z,b,)<|PL.of_get (~~~h) λj q a=>~~~g (j+1) q (~~~a)
def zip_get{lo hi:Int}{a:O4 Int}{j:Nat}{p:Int×Int}(e:(bj lo hi a)[j]?=OP p):((lo :: a).map RV)[j]?=OP (.int p.1)/\((a.map (· - 1)++[hi]).map RV)[j]?=OP (.int p.2):=by
 unfold bj at e;rw[qG]at e;let(c,b):=e;calc(get_map c,get_map b,)
def  nZ(lo hi:Int)(a:O4 Int)(m:Int):O4 Int:=if lo<m/\m<=hi/\m ∉ a then a++[m]else a
def  dd(lo hi:Int)(a:O4 Int):O4 Int:=a.foldl (nZ lo hi) []
def rK(lo hi:Int):∀(e d:O4 Int),d.Nodup->(e.foldl (nZ lo hi) d).Nodup/\∀c,c∈e.foldl (nZ lo hi) d↔(c∈d\/(c∈e/\lo<c/\c<=hi))
 | [],d,h=>(h,λc=>by simp,)
 |m :: e,d,h=>by
  let k:(nZ lo hi d m).Nodup:=by
   unfold nZ;split
   .rename_i g
    rw[tw];refine(h,by simp,λa j b i=>?_,);let:b=m:= ~~~i
    subst this;exact λz=>g.2.2<|z ▸ j
   .exact h
  let(n,l):=rK lo hi e (nZ lo hi d m) k;calc(n,λc=>(l c).trans ?_,);unfold nZ;by_cases g:lo<m/\m<=hi/\m ∉ d
  .rw[OX g];simp only[gw,bz,jQ,or_false];constructor
   .rintro((h|rfl)|⟨h,h'⟩)
    .exact .inl h
    .exact .inr (.inl Z,g.1,g.2.1,)
    .exact .inr (.inr h,h',)
   .rintro(h|⟨rfl|h,h'⟩)
    .exact .inl<|.inl h
    .exact .inl<|.inr Z
    .exact .inr (h,h',)
  .rw[OW g];simp only[bz];constructor
   .rintro(h|⟨h,h'⟩)
    .exact .inl h
    .exact .inr (.inr h,h',)
   .rintro(h|⟨rfl|h,h'⟩)
    .exact .inl h
    .by_cases f:c∈d
     .exact .inl f
     .exact OY (h'.1,h'.2,f,) g
    .exact .inr (h,h',)
def DY{lo hi:Int}{a b:O4 Int}(g:b.Pairwise (· < ·))(i:∀c,c∈b↔(c∈a/\lo<c/\c<=hi)):⇑b=⇑(dd lo hi a):=by
 let(j,f):=rK lo hi a [] md;let e:∀c,c∈b↔c∈dd lo hi a:=λc=>by
  rw[i c];exact⟨λh=>(f c).mpr<|.inr h,λh=>by rcases(f c).mp h with z|z;cases z;exact z⟩
 calc Nat.le_antisymm (bH (g.imp λh=>P0 h) λx d=>(e x).mp d)<|bH j λx d=>(e x).mpr d
def FX(lo hi:Int)(a:O4 Int):⇑(dd lo hi a)<=⇑a:=by
 let(d,c):=rK lo hi a [] md;exact bH d λx b=>by rcases(c x).mp b with z|z;cases z;calc z.1
def  gl(ps:O4 (Int×Int))(mss:O4 (O4 Int))(j:Nat):Nat:=⇑(dd (ps.getD j (0,0)).1 (ps.getD j (0,0)).2<|mss.getD j [])+1
def  gr(ps:O4 (Int×Int))(mss:O4 (O4 Int)):Nat->Nat
 |0=>1
 |n+1=>gr ps mss n*gl ps mss n
def FY{ps:O4 (Int×Int)}{mss:O4 (O4 Int)}(h:∀a∈mss,⇑a<=57)(j:Nat):gl ps mss j<=58:=by
 unfold gl;let:=FX (ps.getD j (0,0)).1 (ps.getD j (0,0)).2<|mss.getD j [];let b:⇑(mss.getD j [])<=57:=by
  rw[ab];cases e:mss[j]? with
  |none=>simp
  |some a=>exact h a (KP e)
 lia
def C2{ps:O4 (Int×Int)}{mss:O4 (O4 Int)}(h:∀ms∈mss,⇑ms<=57):∀n,gr ps mss n<=58^n
 |0=>Ab _
 |n+1=>by
  let a:=C2 (ps:=ps) h n;let b:=FY (ps:=ps) h n;show gr ps mss n*gl ps mss n<=58^n*58;calc ET a b
def  MLs(H:Hp)(b:O4 La)(mss:O4 (O4 Int)):Prop:=⇑b=⇑mss/\∀(j:Nat)(a:O4 Int),mss[j]?=OP a->∃r,b[j]?=OP r/\H r=OP (.lst<|a.map RV)
def MLs.keep{H H':Hp}{a:O4 La}{mss:O4 (O4 Int)}(h:MLs H a mss)(k:∀r∈a,∀o,H r=OP o->H' r=OP o):MLs H' a mss :=
 (h.1,λj b e=>let ⟨r,e1,e2⟩:=h.2 j b e;(r,e1,k r (KP e1) _ e2,),)
def MLs.same{H H':Hp}{a:O4 La}{mss:O4 (O4 Int)}(h:MLs H a mss)(s:au H H'):MLs H' a mss:=h.keep λ_ _ _ e=>s _ _ e
def B4{a:O4 La}{j:Nat}{r:La}(e:a[j]?=OP r):(a.map RZ)[j]?=↑r:=by rw[dy,e];rfl
def n5{a:O4 La}{j:Nat}{x:V}(e:(a.map RZ)[j]?=OP x):∃r,x=.ref r/\a[j]?=OP r:=by
 rw[dy]at e;cases h:a[j]? with
 |none=>rw[h]at e;cases e
 |some r=>rw[h]at e;cases e;calc(r,Z,Z,)
def  MOK(ps:O4 (Int×Int))(mss:O4 (O4 Int)):Prop:=⇑ps=⇑mss/\⇑ps<=6/\∀ms∈mss,⇑ms<=57
abbrev Tri:=Int×Int×V
def  T3(H:Hp)(xs:O4 V)(ts:O4 Tri):Prop:=⇑xs=⇑ts/\∀(i:Nat)(t:Tri),ts[i]?=OP t->∃r:La,xs[i]?=↑r/\H r=OP (.tup [.int t.1,.int t.2.1,t.2.2])
structure At(ts:O4 Tri)(c:Int)(j:Nat)(t:Tri):Prop where
 at_:ts[j]?=OP t
 le:c<=t.2.1
 lt:∀(i:Nat)(u:Tri),i<j->ts[i]?=OP u->u.2.1<c
inductive Lk(K:RD)(H:Hp):V->O4 Int->V->Prop where
 |nil (v:V):Lk K H v [] v
 |cons {a:La}{xs:O4 V}{ts:O4 Tri}{c:Int}{cs:O4 Int}{j:Nat}{t:Tri}{r:V}(hS:SqT K H a xs)(hT:T3 H xs ts)(hA:At ts c j t)(h:Lk K H t.2.2 cs r):Lk K H (.ref a) (c :: cs) r
def Lk.cons_inv{K:RD}{H:Hp}{v r:V}{c:Int}{b:O4 Int}(h:Lk K H v (c :: b) r):∃(a:La)(xs:O4 V)(ts:O4 Tri)(j:Nat)(t:Tri),v=.ref a/\SqT K H a xs/\T3 H xs ts/\At ts c j t/\Lk K H t.2.2 b r:=by
 cases h with
 |cons e d f h=>calc(_,_,_,_,_,Z,e,d,f,h,)
def C3:∀{c:O4 (Int×Int)}{lo hi:Int},Chn c lo hi->BO c lo hi
 | [],_,_,h=>h
 |_ :: _,_,_,h=>(h.1,h.2.1,C3 h.2.2,)
def uj:∀{a:O4 Int}{lo hi c:Int},a.Pairwise (· < ·)->(∀x∈a,lo<x)->lo<=c->c<=hi->cA (bj lo hi a) c<=c/\(cA (bj lo hi a) c=lo\/cA (bj lo hi a) c∈a)/\lo<=cA (bj lo hi a) c/\∀x∈a,x<=c->x<=cA (bj lo hi a) c
 | [],lo,hi,c,_,_,h1,h2=>by
  let e:cA (bj lo hi []) c=lo:=by simp[bj,cA,h2]
  rw[e];exact⟨h1,.inl Z,ca _,λx b=>by cases b⟩
 |d :: a,lo,hi,c,hp,hb,h1,h2=>by
  let(h,j):=oD.mp hp;let e:bj lo hi (d :: a)=(lo,d-1) :: bj d hi a:=rfl;by_cases q:c<=d-1
  .let g:cA (bj lo hi (d :: a)) c=lo:=by rw[e];unfold cA;rw[mD (~~~q)];rfl
   rw[g];calc(h1,.inl Z,ca _,λx b i=>?_,);rcases bz.mp b with rfl|b
   .lia
   .let:=h x b;lia
  .let g:cA (bj lo hi (d :: a)) c=cA (bj d hi a) c:=by rw[e];unfold cA;rw[nt (~~~q)]
   rw[g];let(m,f,l,k):=uj j h (c:=c) ∅ h2;let n:=hb d dt;refine(m,.inr ?_,∅,λx b i=>?_,)
   .rcases f with f|f
    .rw[f];exact dt
    .exact fS _ f
   .rcases bz.mp b with rfl|b
    .exact l
    .exact k x b i
def  CoL(H:Hp)(xs:O4 V)(a:O4 (List<|Int×Int)):Prop:=aJ xs a λr c=>∃b,H r=OP (.lst b)/\PL H b c
def CoL.same{H H':Hp}{xs:O4 V}{a:O4 (List<|Int×Int)}(h:CoL H xs a)(s:au H H'):CoL H' xs a:=aJ.mono h λ_ _ (b,e,p,)=>(b,s _ _ e,PL.mono p s.tups,)
structure DZ{K':RD}{L:Type} [DecidableEq L] (A:Lfp K' L)(P:K7)(w:K6)(K:RD)(mg:Str->Option K5)(base:Lb)(f:La)(m:Nat)(g:O4 Int->L)(J:Rr):Prop where
 fn:∃sp,HFn P w K mg base 8 f sp/\∀(H:Hp)(a:La)(cs:O4 Int)(Q:VK),J H->⇑cs=m->H a=OP (.lst<|cs.map RV)->(∀v H',(∀b o,b≠a->H b=OP o->H' b=OP o)->A.R H' (g cs) v->Q v H')->sp [.ref a] H Q E0
 ob:∀H,J H->FnO H f
 st:∀H H',J H->au H H'->J H'
def yG{α:Type} [DecidableEq α] (ts:O4 (T3a α)):⇑(lH ts)<=⇑ts:=by
 let:∀(r f:O4 (T3a α)),⇑(r.foldl de f)<=⇑f+⇑r:=by
  intro r;induction r with
  |nil=>intro f;exact Ab _
  |cons t r a =>
   intro f;let c:⇑(de f t)<=⇑f+1:=by
    unfold de;split
    .split
     .rw[br,QX,gR];lia
     .rw[br,gR];lia
    .rw[br,gR];lia
   let b:=a<|de f t;rw[fk];show(⇑(r.foldl de<|de f t))<=_;lia
 let h:=this ts [];rw[zo,Fq]at h;calc h
def  below(a:O4 Int)(c:Int):Int:=(⇑(a.filter λm=>decide<|m<=c):Int)
def  D1(mss:O4 (O4 Int))(a:Int)(b:O4 Int):Nat->Int
 |0=>0
 |k+1=>D1 mss a b k*a+(1+D1 mss a b k)%3*below (mss.getD k []) (b.getD k 0)
def  told(mss:O4 (O4 Int))(b c st:Int)(a:O4 Int):Int:=D1 mss b a ⇑a%c*st
def  SmS{α:Type}(b:Nat)(S:α->Prop)(f:O4 (T3a α)):Prop:=⇑f<=b/\∀t∈f,S t.2.2
def  SmF{L:Type}(b:Nat):(n:Nat)->Fm L n->Prop
 |0,_=>True
 |n+1,f=>SmS b (SmF b n) f
def v7{b:Nat}{L:Type} [DecidableEq L] {g:O4 Int->L}:∀{a:O4 (List<|Int×Int)}{ps:O4 (Int×Int)},iG a ps->(∀c∈a,⇑c<=b)->∀e:O4 Int,SmF b ⇑a (lay g a e)
 | [],_,_,_,_=>trivial
 |c :: a,_,hok,h,e=>by
  cases hok with
  | @cons _ _ p ps hne d hok =>
   let k:=iF<|BP (λq=>lay g a<|e++[q.1]) d;refine(BK (yG _) (by rw[aa];exact h c dt),λt f=>?_,);let(l,j,i):=k.mem t f;let(q,_,rfl):=dr.mp j;rw[←i];calc v7 hok (λc d=>h c<|fS _ d) _
def D3{ps:O4 (Int×Int)}{mss:O4 (O4 Int)}{m:Nat}(f:∀c∈mss,∃L:O4 Int,L.length<=m/\∀x∈c,x∈L)(j:Nat):gl ps mss j<=m+1:=by
 unfold gl;let:⇑(dd (ps.getD j (0,0)).1 (ps.getD j (0,0)).2<|mss.getD j [])<=m:=by
  rw[show mss.getD j []=(mss[j]?).getD []from ab ..];cases e:mss[j]? with
  |none=>exact BG _
  |some c =>
   let(L,h,g):=f c<|KP e;let(a,b):=rK (ps.getD j (0,0)).1 (ps.getD j (0,0)).2 c [] md;calc BK (bH a λx d=>?_) h;rcases(b x).mp d with z|z
   .cases z
   .exact g x z.1
 lia
def AG:∀{ps:O4 (Int×Int)}{css:O4 (O4 Int)},⇑css=⇑ps->(∀p∈ps,p.1<=p.2)->(∀(j:Nat)(p:Int×Int)(d:O4 Int),ps[j]?=OP p->css[j]?=OP d->d.Pairwise (· < ·)/\∀c∈d,p.1<c/\c<=p.2)->iG (db (λp d=>bj p.1 p.2 d) ps css) ps
 | [],[],_,_,_=>.nil
 | [],_ :: _,h,_,_=>by simp at h
 |_ :: _,[],h,_,_=>by simp at h
 |p :: ps,d :: css,h,hle,hk=>by
  let(a,b):=hk 0 p d Z Z;calc .cons (λz=>?_) (C3<|ui a b<|hle p dt)<|AG (~~~h) (λq e=>hle q<|fS _ e) λj q c g f=>hk (j+1) q c (~~~g)<|~~~f;let:=O2 P9 z;rw[cS]at this;simp at this
def AH{α:Type}{R:α->V->Prop}{H:Hp}:∀{f:O4 (T3a α)}{xs:O4 V},FmL R H f xs->∃ts:O4 Tri,T3 H xs ts/\∀(i:Nat)(t:T3a α),f[i]?=OP t->∃u,ts[i]?=OP (t.1,t.2.1,u)/\R t.2.2 u
 | [],xs,h=>by
  let:xs=[]:=lq h.1;subst this;exact([],(Z,λi t e=>by simp at e,),λi t e=>by simp at e,)
 |t :: f,[],h=>by have:=h.1;simp at this
 |t :: f,x :: xs,h=>by
  let(r,u,a,b,c):=h.2 0 t Z;cases a;let(ts,d,g):=AH (f:=f) (xs:=xs) (~~~h.1,λi v e=>~~~h.2 (i+1) v (~~~e),);refine((t.1,t.2.1,u) :: ts,(by rw[fk,fk,d.1],λi v e=>?_,),λi v e=>?_,)
  .match i,e with
   |0,e=>cases e;exact(r,Z,b,)
   |i+1,e=>exact d.2 i v (~~~e)
  .match i,e with
   |0,e=>cases e;exact(u,Z,c,)
   |i+1,e=>calc g i v (~~~e)
def D6{L:Type} [DecidableEq L] {A:Lfp K L}{K:RD}{H:Hp}{n:Nat}{F:Fm L n}{k:O4 Int}{x:L}(h:Tel n F k x):∀{v:V},FmV A H n F v->∃u,A.R H x u/\Lk K H v k u:=by
 induction h with
 |nil x=>intro v g;exact(v,g,.nil _,)
 | @cons n f c k x j t e1 e2 e3 _ ih =>
  intro v g;let(a,e,rfl,q,r):∃(a:La)(e:O4 V),v=.ref a/\H a=OP (.tup e)/\FmL (FmV A H n) H f e:=g;let(D,s,m):=AH r;let(u,B,p):=m j t e1;let(z,o,l):=ih p;calc(z,o,.cons (Rn q) s (B,e2,λi w hi y=>?_,) l,);let b:i<⇑f:=by have:=(KO.mp e1).1;lia
  let(C,d,_):=m i _<|KN b;rw[y]at d;cases d;calc e3 i _ hi<|KN b
def  pq{L M:Type} [DecidableEq M] (h:L->M):(n:Nat)->Fm L n->Fm M n
 |0,x=>h x
 |n+1,f=>lH<|List.map (λt:T3a (Fm L n)=>((t.1,t.2.1,pq h n t.2.2):T3a (Fm M n))) f
def rL{α a:Type}(F:α->a):∀{f:O4 (T3a α)}{lo hi:Int},Ch3 f lo hi->Ch3 (f.map λt=>((t.1,t.2.1,F t.2.2):T3a a)) lo hi
 | [],_,_,h=>h
 |_ :: _,_,_,h=>(h.1,h.2.1,rL F h.2.2,)
def uk{α a:Type}(F:α->a)(c:Int):∀f:O4 (T3a α),vAt (f.map λt=>((t.1,t.2.1,F t.2.2):T3a a)) c=(vAt f c).map F
 | []=>rfl
 |t :: f=>by
  let b:=uk F c f;unfold vAt at b⊢;rw[jl];by_cases q:c<=t.2.1
  .rw[mD (~~~q),mD (~~~q)];rfl
  .rw[nt (~~~q),nt (~~~q)];calc b
def dD{α:Type}{c:Int}:∀{f:O4 (T3a α)}{j:Nat}{t:T3a α},f[j]?=OP t->c<=t.2.1->(∀(i:Nat)(u:T3a α),i<j->f[i]?=OP u->u.2.1<c)->vAt f c=OP t.2.2
 | [],j,t,e,_,_=>by simp at e
 |u :: f,0,t,e,h,_=>by
  cases e;unfold vAt;rw[mD (~~~h)];rfl
 |u :: f,j+1,t,e,h,k=>by
  let a:=k 0 u (EX _) Z;let:=dD (f:=f) (j:=j) (t:=t) (~~~e) h λi w hi b=>k (i+1) w ∅ (~~~b)
  unfold vAt at this⊢;rw[nt (~~~a)];calc this
def AI{L M:Type} [DecidableEq M] {h:L->M}:∀{n:Nat}{F:Fm L n}{ps:O4 (Int×Int)},fT n F ps->fT n (pq h n F) ps
 |0,_,_,hs=>hs
 |n+1,F,ps,hs=>by
  let(G,rfl):∃G:O4 (T3a<|Fm L n),(G:Fm L (n+1))=F:=(F,Z,);let(p,r,rfl,c,d,i,g):ShS (fT n) G ps:=hs;let k:=iF<|rL (pq h n) d;calc(p,r,Z,k.ne<|~~~c,k.ch,k.nb,λt f=>?_,);let(j,a,b):=k.mem t f;let(u,e,rfl):=dr.mp a;rw[←b];calc AI<|g u e
def B5{L M:Type} [DecidableEq M] {h:L->M}{n:Nat}{F:Fm L n}{a:O4 Int}{x:L}(i:Tel n F a x):∀{ps:O4 (Int×Int)},fT n F ps->InB a ps->Tel n (pq h n F) a (h x):=by
 induction i with
 |nil x=>intro ps _ _;exact .nil<|h x
 | @cons n f c a x j t e1 e2 e3 _ ih =>
  intro ps l d;let(p,r,rfl,w,e,y,q):ShS (fT n) f ps:=l;cases d with
  |cons o m d =>
   let k:=iF<|rL (pq h n) e;let(z,g,v,A,u,s,b):=k.ch.at o m;rw[k.va,uk,dD e1 e2 e3]at b;let b:pq h n t.2.2=g.2.2:=bm b;calc .cons (f:=(pq h (n+1) f:O4 (T3a<|Fm M n))) v u s ?_;rw[←b];calc ih (q t<|KP e1) d
structure FZ{K':RD}{L M:Type} [DecidableEq L] [DecidableEq M] (A:Lfp K' L)(B:Lfp K' M)(P:K7)(w:K6)(K:RD)(mg:Str->Option K5)(base:Lb)(f:La)(h:L->M)(J:Rr):Prop where
 fn:∃sp,HFn P w K mg base 8 f sp/\∀(H:Hp)(v:V)(x:L)(Q:VK),J H->A.R H x v->(∀u H',au H H'->B.R H' (h x) u->Q u H')->sp [v] H Q E0
 ob:∀H,J H->FnO H f
 st:∀H H',J H->au H H'->J H'
def _root_._L.Ch3.le{α:Type}:∀{f:O4 (T3a α)}{lo hi:Int},Ch3 f lo hi->lo<=hi+1
 | [],_,_,h=>Int.le_of_eq h
 |t :: f,lo,hi,h=>by have:=_L.Ch3.le h.2.2;let:=h.2.1;lia
def ff{α:Type}(t:T3a α)(r:O4 (T3a α))(c:Int):vAt (t :: r) c=if c<=t.2.1 then OP t.2.2 else vAt r c:=by
 unfold vAt;by_cases h:c<=t.2.1
 .rw[mD (~~~h),OX h];rfl
 .rw[nt (~~~h),OW h]
def SmF.le{L:Type}{b a:Nat}:∀{n:Nat}{F:Fm L n},SmF b n F->b<=a->SmF a n F
 |0,_,_,_=>trivial
 |n+1,F,h,l=>by
  let(f,rfl):∃f:O4 (T3a<|Fm L n),(f:Fm L (n+1))=F:=(F,Z,);let(e,d):SmS b (SmF b n) f:=h;calc(BK e l,λt c=>SmF.le (d t c) l,)
def B6{ps:O4 (Int×Int)}{css:O4 (O4 Int)}{a:O4 Int}{k:Nat}{p:Int×Int}{ks:O4 Int}{c:Int}(b:ps[k]?=OP p)(d:css[k]?=OP ks)(e:a[k]?=OP c):(db cA (db (λp a=>bj p.1 p.2 a) ps css) a)[k]?=OP (cA (bj p.1 p.2 ks) c):=by
 rw[oE,oE,b,d,e]
def qA{α:Type}:∀{f g:O4 (T3a α)}{lo hi:Int},Ch3 f lo hi->Ch3 g lo hi->Nbx (f.map (·.2.2))->Nbx (g.map (·.2.2))->(∀c,lo<=c->c<=hi->vAt f c=vAt g c)->f=g
 | [],[],_,_,_,_,_,_,_=>rfl
 | [],t :: g,lo,hi,e,d,_,_,_=>by
  let e:lo=hi+1:=e;let:=d.2.1;let:=d.2.2.le;lia
 |s :: f,[],lo,hi,e,d,_,_,_=>by
  let d:lo=hi+1:=d;let:=e.2.1;let:=e.2.2.le;lia
 |s :: f,t :: g,lo,hi,e,d,nf,ng,hv=>by
  let(B,A,o):=e;let(z,w,n):=d;let P:=o.le;let O:=n.le;let j:=hv lo ∅ ∅;rw[ff,ff,OX A,OX w]at j;let j:s.2.2=t.2.2:=bm j;let k:∀{a b:T3a α}{r:O4 (T3a α)}{q:O4 (T3a α)},Ch3 r (a.2.1+1) hi->Nbx ((a :: r).map (·.2.2))->a.2.1<b.2.1->b.2.1<=hi->lo<=a.2.1->a.2.2=b.2.2->vAt (a :: r) (a.2.1+1)=vAt (b :: q) (a.2.1+1)->False:=λ{a b r q} l C S R Q D m=>by
   rw[ff,ff,OW ∅,OX ∅]at m;cases r with
   |nil =>
    let l:a.2.1+1=hi+1:=l;lia
   |cons u r =>
    rw[ff,OX l.2.1]at m;exact C 0 _ _ Z Z<|D.trans (bm m).symm
  let p:s.2.1=t.2.1:=by
   rcases Int.lt_trichotomy s.2.1 t.2.1 with h|h|h
   .exact(k o nf h ∅ A j (hv _ ∅ ∅)).elim
   .exact h
   .exact(k n ng h ∅ w j.symm (hv _ ∅ ∅).symm).elim
  let H:s=t:=by
   let(N,s2,M):=s;let(L,K,J):=t;simp only at B z j p;rw[B,z,j,p]
  let v:∀{α:Type}{a:α}{r:O4 α},Nbx (a :: r)->Nbx r:=λ{α a r} h i x y F E=>h (i+1) x y (~~~F)<|~~~E
  let G:f=g:=qA o (by rw[p];exact n) (v nf) (v ng) λc T I=>by
   let:=hv c ∅ I;rw[ff,ff,OW ∅,OW ∅]at this;exact this
  rw[H,G]
section
variable{L:Type}
def _root_._L.Tel.inv{n:Nat}{g:O4 (T3a<|Fm L n)}{c:Int}{e:O4 Int}{y:L}(h:Tel (n+1) (g:Fm L (n+1)) (c :: e) y):∃(j:Nat)(t:T3a (Fm L n)),g[j]?=OP t/\c<=t.2.1/\(∀(i:Nat)(u:T3a (Fm L n)),i<j->g[i]?=OP u->u.2.1<c)/\Tel n t.2.2 e y:=by
 cases h with
 |cons a b c d=>calc(_,_,a,b,c,d,)
def kI{n:Nat}{F:Fm L n}{b:O4 Int}{x:L}(h:Tel n F b x):∀{y:L},Tel n F b y->x=y:=by
 induction h with
 |nil x=>intro y a;cases a;rfl
 | @cons n f c b x j t e1 e2 e3 _ ih =>
  intro y a;let(m,l,k,i,g,d):=a.inv;let e:=(dD e1 e2 e3).symm.trans<|dD k i g;rw[←bm e]at d;calc ih d
def lL:∀{n:Nat}{F G:Fm L n}{ps:O4 (Int×Int)},fT n F ps->fT n G ps->(∀b,InB b ps->∀x y,Tel n F b x->Tel n G b y->x=y)->F=G
 |0,F,G,ps,a,_,hv=>by
  let a:ps=[]:=a;subst a;exact hv [] .nil F G (.nil F) (.nil G)
 |n+1,F,G,ps,a,hs',hv=>by
  let(f,rfl):∃f:O4 (T3a<|Fm L n),(f:Fm L (n+1))=F:=(F,Z,);let(g,rfl):∃g:O4 (T3a<|Fm L n),(g:Fm L (n+1))=G:=(G,Z,);let(p,r,rfl,J,d,k,w):ShS (fT n) f ps:=a;let(M,K,e,Q,q,H,I):ShS (fT n) g (p :: r):=hs';cases e;refine qA d q k H λc i h=>?_
  let(j,t,m,O,B,A,z):=d.at i h;let(N,s,o,P,E,D,C):=q.at i h;rw[z,C];rw[lL (w t<|KP m) (I s<|KP o) λb l x y v u=>hv (c :: b) (.cons i h l) x y (.cons m B A v) (.cons o E D u)]
end
def AJ:∀{a:O4 Int}{ps:O4 (Int×Int)},⇑a=⇑ps->(∀(j:Nat)(c:Int)(p:Int×Int),a[j]?=OP c->ps[j]?=OP p->p.1<=c/\c<=p.2)->InB a ps
 | [],[],_,_=>.nil
 | [],_ :: _,h,_=>by simp at h
 |_ :: _,[],h,_=>by simp at h
 |c :: a,p :: ps,h,k=>.cons (k 0 c p Z Z).1 (k 0 c p Z Z).2<|AJ (~~~h) λj x q d b=>k (j+1) x q (~~~d)<|~~~b
def xu{p d:Hp}{c:O4 La}{css:O4 (O4 Int)}{l t:La}{o:O4 Int}{zs:O4 V}(h:MLs p c css)(k:∀r∈c,r≠l)(s:au p d)(e:d t=OP (.lst<|o.map RV))(i:t≠l):MLs (upd d l<|.lst zs) (c++[t]) (css++[o])/\∀r∈c++[t],r≠l:=by
 refine((by rw[br,br,h.1];rfl,λj q b=>?_,),λr a=>?_,)
 .by_cases m:j<⇑css
  .rw[fo m]at b;let(r,n,f):=h.2 j q b;exact(r,by rw[fo (by rw[h.1];exact m)];exact n,(ar<|k r<|KP n).trans<|s _ _ f,)
  .let g:j=⇑css:=by
    let:=(KO.mp b).1;simp at this;lia
   subst g;simp at b;subst b;exact(t,by rw[←h.1];simp,(ar i).trans e,)
 .rcases gw.mp a with a | a
  .exact k r a
  .rw[dV.mp a];calc i
def  D7{α:Type}(f:O4 (T3a α))(m:Int):Prop:=∃t∈f.tail,t.1=m
def  F4{α:Type}(P:α->Int->Prop)(f:O4 (T3a α))(m:Int):Prop:=∃t∈f,P t.2.2 m
def  mH{L:Type}:(n:Nat)->Fm L n->Nat->Int->Prop
 |0,_,_,_=>False
 |n+1,f,0,m=>D7 (α:=Fm L n) f m
 |n+1,f,c+1,m=>F4 (α:=Fm L n) (λx=>mH n x c) f m
def eV{α:Type}:∀{f:O4 (T3a α)}{lo hi:Int}{j:Nat}{s:T3a α},Ch3 f lo hi->f[j]?=OP s->lo<=s.1/\s.1<=s.2.1/\s.2.1<=hi/\(∀t,f[j+1]?=OP t->t.1=s.2.1+1)/\(∀(i:Nat)(u:T3a α),i<j->f[i]?=OP u->u.2.1<s.1)/\(j=0->s.1=lo)
 | [],_,_,j,s,_,e=>by simp at e
 |t :: f,lo,hi,0,s,h,e=>by
  cases e;let c:=h.1;let b:=h.2.1;let n:=h.2.2.le;calc(∅,∅,∅,λt e=>?_,λi u hi=>OY hi<|EB i,λ_=>c,);cases f with
  |nil=>simp at e
  |cons u f=>simp at e;subst e;exact h.2.2.1
 |t :: f,lo,hi,j+1,s,h,e=>by
  let d:f[j]?=OP s:= ~~~e
  let(p,m,l,k,g,o):=eV (f:=f) h.2.2 d;let b:=h.2.1;refine(∅,m,l,λt e=>k t<|~~~e,λi u hi a=>?_,λz=>∅,)
  match i,a with
  |0,a=>cases a;lia
  |i+1,a=>calc g i u ∅ (~~~a)
section
variable{L:Type}
def rM{n:Nat}{f:O4 (T3a<|Fm L n)}{lo hi:Int}{j:Nat}{t:T3a (Fm L n)}{c:Int}{a:O4 Int}{x:L}(h:Ch3 f lo hi)(e:f[j]?=OP t)(l:t.1<=c)(d:c<=t.2.1)(b:Tel n t.2.2 a x):Tel (n+1) (f:Fm L (n+1)) (c :: a) x:=by
 let(_,_,_,_,k,_):=eV h e;calc .cons e d (λi u hi g=>by have:=k i u hi g;lia) b
def B7{n:Nat}{f:O4 (T3a<|Fm L n)}{lo hi:Int}{j:Nat}{t:T3a (Fm L n)}{c:Int}(h:Ch3 f lo hi)(k:lo<=c)(e:f[j]?=OP t)(b:∀(i:Nat)(u:T3a (Fm L n)),i<j->f[i]?=OP u->u.2.1<c):t.1<=c:=by
 let(_,_,_,_,_,g):=eV h e;cases j with
 |zero=>have:=g Z;lia
 |succ j =>
  let(u,a):∃u,f[j]?=OP u:=(_,KN (by have:=(KO.mp e).1;lia),);let(_,_,_,d,_):=eV h a;let:=d t e;let:=b j u ∅ a;lia
def v9:∀{n:Nat}{F:Fm L n}{ps:O4 (Int×Int)}{k:Nat}{m:Int},fT n F ps->(mH n F k m↔∃(b:O4 Int)(p:Int×Int)(x y:L),InB b ps/\b[k]?=OP m/\ps[k]?=OP p/\p.1<m/\Tel n F b x/\Tel n F (b.set k<|m-1) y/\x≠y)
 |0,F,ps,k,m,I=>by
  let I:ps=[]:=I;subst I;refine(λh=>h.elim,λ(b,p,x,y,O,V,h3,_,)=>by simp at h3,)
 |n+1,F,ps,k,m,I=>by
  let(f,rfl):∃f:O4 (T3a<|Fm L n),(f:Fm L (n+1))=F:=(F,Z,);let(p,r,rfl,a0,d,S,M):ShS (fT n) f ps:=I;cases k with
  |zero =>
   constructor
   .rintro⟨t,q,rfl⟩;let(j,g):=ik q;let g:f[j+1]?=OP t:=by rw[qI]at g;exact g
    let(s,K):∃s,f[j]?=OP s:=(_,KN (by have:=(KO.mp g).1;lia),);let(a1,a2,a3,a4,X,_):=eV d K;let(Q,b2,b3,b4,b5,_):=eV d g;let ea:=a4 t g;let ne:s.2.2≠t.2.2:=S j _ _ (by rw[dy,K];rfl) (by rw[dy,g];rfl);let hS:=M s<|KP K;let hT:=M t<|KP g;let(b,x,y,a,o,l,e):∃b x y,InB b r/\Tel n s.2.2 b x/\Tel n t.2.2 b y/\x≠y:=P3 λR=>ne<|lL hS hT λb a x y o l=>P3 λe=>R (b,x,y,a,o,l,e,)
    calc(t.1 :: b,p,y,x,.cons Q ∅ a,Z,Z,∅,rM d g (ca _) b2 l,?_,λz=>e z.symm,);show Tel (n+1) f ((t.1-1) :: b) x;exact rM d K ∅ ∅ o
   .rintro⟨b,H,x,y,a,C,B,v,o,l,e⟩;let B:p=H:=bm B;subst B;cases a with
    | @cons c b _ _ O V a =>
     have C:c=m:=bm C;subst C;let l:Tel (n+1) f ((c-1) :: b) y:=l;let(j,t,A,W,P,N):=o.inv;let(j',Y,G,E,D,w):=l.inv;let Ky:=B7 d O A P;by_cases q:t.1=c
     .let(_,_,_,_,_,a6):=eV d A;cases j with
      |zero=>have:=a6 Z;lia
      |succ j=>exact(t,KP (i:=j) (by rw[qI];exact A),q,)
     .exfalso;let J:=dD G E D;let T:vAt f (c-1)=OP t.2.2:=dD A ∅ λi u hi eu=>by
       let(_,_,_,_,X,_):=eV d A;let:=X i u hi eu;lia
      rw[J]at T;rw[←bm T]at N;exact e<|kI N w
  |succ k =>
   constructor
   .rintro⟨t,q,h⟩;let(b,H,x,y,a,C,B,v,o,l,e):=(v9<|M t q).mp h;let(j,g):=ik q;let(Q,b2,b3,_):=eV d g;exact(t.1 :: b,H,x,y,.cons Q ∅ a,~~~C,~~~B,v,rM d g (ca _) b2 o,by rw[Q6];exact rM d g (ca _) b2 l,e,)
   .rintro⟨b,H,x,y,a,C,B,v,o,l,e⟩;cases a with
    | @cons c b _ _ O V a =>
     rw[Q6]at l;let(j,t,A,W,P,N):=o.inv;let(j',Y,G,E,D,w):=l.inv;let J:=dD A W P;rw[dD G E D]at J;rw[bm J]at w;let q:=KP A;calc(t,q,(v9<|M t q).mpr (b,H,x,y,a,~~~C,~~~B,v,N,w,e,),)
end
def B8{n j:Nat}(h:j<n):ixN n (j:Int)=OP j:=by
 unfold ixN;rw[OX ∅,OX ∅,Kn]
def xv{b:O4 Int}{ps:O4 (Int×Int)}{k:Nat}{m:Int}{p:Int×Int}(h:InB b ps)(f:b[k]?=OP m)(d:ps[k]?=OP p)(i:p.1<m):InB (b.set k<|m-1) ps:=by
 let g:=⇑h;refine AJ (by rw[jB];exact g) λj c q a eq=>?_
 by_cases e:j=k
 .subst e;rw[Pg (KO.mp f).1]at a;cases a;rw[d]at eq;cases eq;let:=h.get j m p f d;lia
 .rw[PC (λz=>e z.symm)]at a;calc h.get j c q a eq
def xw{b:Nat}:∀{a:O4 (O4 Int)},(∀c∈a,⇑c<=b)->⇑a.flatten<=⇑a*b
 | [],_=>BG _
 |x :: a,h=>by
  let f:=h x dt;let e:=xw λc d=>h c<|fS _ d
  rw[Rj,br,fk,F9];lia
def  BdS{α:Type}(b:Nat)(S:α->Prop)(f:O4 (T3a α)):Prop:=⇑f<=b/\∀t∈f,S t.2.2
def  um{L:Type}(d:Nat)(F:Fm L d)(H:Hp)(r:La)(b:O4 La)(mss:O4 (O4 Int)):Prop:=H r=OP (.lst<|b.map RZ)/\MLs H b mss/\⇑mss=d/\∀(c:Nat)(a:O4 Int),mss[c]?=OP a->a.Pairwise (· < ·)/\∀m,m∈a↔mH d F c m
def um.keep{L:Type}{d:Nat}{F:Fm L d}{H H':Hp}{r:La}{a:O4 La}{mss:O4 (O4 Int)}(h:um d F H r a mss)(k:∀b o,(b=r\/b∈a)->H b=OP o->H' b=OP o):um d F H' r a mss:=(k _ _ (.inl Z) h.1,h.2.1.keep λq c o e=>k q o (.inr c) e,h.2.2,)
def my{α:Type}:∀{f:O4 (T3a α)}{lo hi:Int},Ch3 f lo hi->(f.map (·.1)).Pairwise (· < ·)/\∀t∈f,lo<=t.1
 | [],_,_,_=>⟨.nil,λt e=>by cases e⟩
 |t :: f,lo,hi,h=>by
  let(a,b):=my h.2.2;let i:=h.1;let g:=h.2.1;refine(.cons (λx d=>?_) a,λu c=>?_,)
  .let(u,c,rfl):=dr.mp d;let:=b u c;show t.1<u.1;lia
  .rcases bz.mp c with rfl|c
   .lia
   .let:=b u c;lia
def uo{α:Type}{f:O4 (T3a α)}{lo hi:Int}(h:Ch3 f lo hi):(f.tail.map (·.1)).Pairwise (· < ·):=by
 cases f with
 |nil=>exact .nil
 |cons t f=>calc(my h.2.2).1
def kJ{K:RD}{H:Hp}{Q:VK}{a b:La}{xs ys:O4 V}(d:H a=OP (.tup xs))(c:H b=OP (.tup ys))(hz:⇑xs+⇑ys<=Lc)(q:∀(r:La)(H':Hp),au H H'->H' r=OP (.tup<|xs++ys)->Q (.ref r) H'):qX K (.ref a) (.ref b) H Q:=by
 refine(a,b,xs,ys,Z,Z,Rn d,Rn c,hz,λz=>?_,λ_ z=>?_,λ_ _ p e=>q p _ (ai e _) af,)
 .subst z;exact q b H (au.refl _) c
 .subst z;calc q a H (au.refl _) (by rw[jm];exact d)
def  BxA(H:Hp)(a:La)(B:O4 (Int×Int)):Prop:=∃b,H a=OP (.tup b)/\PL H b B
def BxA.mono{H H':Hp}{a:La}{B:O4 (Int×Int)}(h:BxA H a B)(s:bD H H'):BxA H' a B:=by let(b,e,p):=h;calc(b,s _ _ e,p.mono s,)
def  mo(n:Nat):Int:=if n=1 then 40 else if n=2 then 6 else if n=3 then 3 else 1
def AK{ps:O4 (Int×Int)}{mss:O4 (O4 Int)}{b:Nat}(h:∀j,gl ps mss j<=b):∀n,gr ps mss n<=b^n
 |0=>Ab _
 |n+1=>by
  show gr ps mss n*gl ps mss n<=b^n*b;calc ET (AK h n)<|h n
structure Kz(B ps:O4 (Int×Int)):Prop where
 len:B.length=⇑ps
 get:∀(k:Nat)(b p:Int×Int),B[k]?=OP b->ps[k]?=OP p->p.1<=b.1/\b.1<=b.2/\b.2<=p.2
def  TD(g h f:La)(H:Hp)(t:La)(c:O4 V)(bs:Prs)(rws:O4 Rw):Prop:=∃(b e d:La)(fs:O4 (Str×V))(a:O4 V),H t=OP (.ins g e fs)/\fs.lookup s!"rows"=↑b/\fs.lookup s!"domains"=↑d/\H d=OP (.lst c)/\aJ c bs (Dom h f H)/\H b=OP (.lst a)/\RL NT H a rws
def TD.same{c d b:La}{H H':Hp}{t:La}{a:O4 V}{bs:Prs}{rws:O4 Rw}(h:TD c d b H t a bs rws)(s:au H H'):TD c d b H' t a bs rws:=by
 let(f,o,q,fs,e,n,m,l,k,j,i,g):=h;calc(f,o,q,fs,e,s _ _ n,m,l,s _ _ k,aJ.mono j λ_ _ p=>p.same s,s _ _ i,g.same s,)
def uq{H:Hp}{D:La}{o:HO}:hide (upd H D o) D=hide H D:=by
 funext b
 unfold hide;by_cases h:b=D
 .rw[OX h,OX h]
 .rw[OW h,OW h,ar h]
def qB{H H':Hp}{D:La}(s:au H H'):au (hide H D) (hide H' D):=λb o e=>by
 unfold hide at e⊢;by_cases h:b=D
 .rw[OX h]at e;cases e
 .rw[OW h]at e⊢;calc s b o e
def fH(H:Hp)(D:La):au (hide H D) H:=λb o e=>by
 unfold hide at e;by_cases h:b=D
 .rw[OX h]at e;cases e
 .rw[OW h]at e;calc e
def MLs.nil{H:Hp}:MLs H [] []:=(Z,λj a e=>by simp at e,)
def MLs.snoc{H:Hp}{f:O4 La}{mss:O4 (O4 Int)}{r:La}{c:O4 Int}(h:MLs H f mss)(e:H r=OP (.lst<|c.map RV)):MLs H (f++[r]) (mss++[c]):=by
 refine(by rw[br,br,h.1];rfl,λj m a=>?_,);by_cases d:j<⇑mss
 .rw[fo d]at a;let(g,k,i):=h.2 j m a;exact(g,by rw[fo (by rw[h.1];exact d)];exact k,i,)
 .rw[jn ∅]at a;let b:j-⇑mss=0:=by
   let:=(KO.mp a).1;rw[gR]at this;lia
  rw[b]at a;cases a;calc(r,by rw[jn (by rw[h.1];lia),h.1,b];rfl,e,)
def  rmk(c:Nat)(b:Int×Int)(w:Rw):O4 Int:=(ends<|w.1.getD c []).filter λt=>decide (b.1<t) && decide (t<=b.2)
def  MkC(rws:O4 Rw)(c:Nat)(b:Int×Int)(x:Int):Prop:=∃w∈rws,x∈rmk c b w
def ur:∀R:Prs,⇑(ends R)=2*R.length
 | []=>rfl
 |p :: R=>by
  rw[xZ,fk,fk,ur R,fk];lia
def B9(c:Nat)(b:Int×Int){w:Rw}(h:⇑(w.1.getD c [])<=6):⇑(rmk c b w)<=12:=BK (qH _ _) (by rw[ur];lia)
def uu(c:Nat)(b:Int×Int):∀{rws:O4 Rw},(∀w∈rws,⇑(w.1.getD c [])<=6)->⇑((rws.map<|rmk c b).flatten)<=12*⇑rws
 | [],_=>Ab _
 |w :: rws,h=>by
  let e:=B9 c b<|h w<|.head _;let d:=uu c b (rws:=rws) λw a=>h w<|.tail _ a
  rw[jl,Rj,br,fk];lia
def xy{rws:O4 Rw}{c:Nat}{b:Int×Int}{x:Int}:x∈(rws.map<|rmk c b).flatten↔MkC rws c b x:=by
 rw[zN];constructor
 .rintro⟨l,e,a⟩;let(w,d,rfl):=dr.mp e;exact(w,d,a,)
 .rintro⟨w,d,a⟩;calc(_,dr.mpr (w,d,Z,),a,)
def  D8:HO->Prop
 | .frz _ _=>False
 | .tbl _=>False
 |_=>True
def  So(H H':Hp):Prop:=∀d o,D8 o->H d=OP o->H' d=OP o
def So.of{H H':Hp}(s:au H H'):So H H':=λd o _ e=>s d o e
def So.trans{H f c:Hp}(a:So H f)(b:So f c):So H c:=λd o p e=>b d o p<|a d o p e
def So.tups{H H':Hp}(s:So H H'):bD H H':=λd a e=>s d _ trivial e
def So.lst{H H':Hp}{a:La}{xs:O4 V}(s:So H H')(e:H a=OP (.lst xs)):H' a=OP (.lst xs):=s _ _ trivial e
def So.hide{H:Hp}{a:O4 La}(f:Fzs H a):So H (hideL H a):=λd o p e=>by
 rw[bQ (f.out e λz q=>by rw[q]at p;exact p)];calc e
section
variable{H H':Hp}(s:So H H')
include s
def SpA.so{N:La->Prop}{l:La}{ps:Prs}(h:SpA N H l ps):SpA N H' l ps:=by let(n,a,e,p):=h;calc(n,a,s _ _ trivial e,p.mono s.tups,)
def RL.so{N:La->Prop}{xs:O4 V}{rws:O4 Rw}(h:RL N H xs rws):RL N H' xs rws:=aJ.mono h λ_ _ (b,a,e,n,f,c,)=>(b,a,s _ _ trivial e,n,s _ _ trivial f,aJ.mono c λ_ _ p=>SpA.so s p,)
def Dom.so{d c a:La}{b:Int×Int}(h:Dom d c H a b):Dom d c H' a b:=by let(C,f,g,fs,e,r):=h;calc(C,f,g,fs,s _ _ trivial e,r,)
def Tbl.so{b c a t:La}{rws:O4 Rw}{i:Nat}{o:Int×Int}(h:Tbl b c a H t rws i o):Tbl b c a H' t rws i o:=by
 let(f,g,v,fs,d,e,u,r,q,p,n,m,l,k,j):=h;calc(f,g,v,fs,d,e,s _ _ trivial u,r,q,p,s _ _ trivial n,RL.so s m,l,Dom.so s k,j,)
def MLs.so{a:O4 La}{mss:O4 (O4 Int)}(h:MLs H a mss):MLs H' a mss:=(h.1,λj b e=>let ⟨r,e1,e2⟩:=h.2 j b e;(r,e1,s _ _ trivial e2,),)
def TD.so{c d b t:La}{a:O4 V}{bs:Prs}{rws:O4 Rw}(h:TD c d b H t a bs rws):TD c d b H' t a bs rws:=by
 let(f,o,q,fs,e,n,m,l,k,j,i,g):=h;calc(f,o,q,fs,e,s _ _ trivial n,m,l,s _ _ trivial k,aJ.mono j λ_ _ p=>Dom.so s p,s _ _ trivial i,RL.so s g,)
end
def n6{a L:O4 Int}(b:a.Pairwise (· < ·))(h:∀x∈a,x∈L):⇑a<=L.length:=bH (b.imp λh=>P0 h) h
structure RfH(cT cN cW:La)(H:Hp)(t:La)(dv:O4 V)(bs:Prs)(rws:O4 Rw)(L:Nat->O4 Int)(kk:Nat)(i:Nat)(o:Int×Int):Prop where
 td:TD cT cN cW H t dv bs rws
 tb:Tbl cT cN cW H t rws i o
 b4:⇑bs<=4
 r60:⇑rws<=60
 row:∀x∈rws,⇑x.1=⇑bs/\∀c,⇑(x.1.getD c [])<=6
 mrk:∀(c:Nat)(b:Int×Int),bs[c]?=OP b->⇑(L c)<=kk/\∀x,MkC rws c b x->x∈L c
 few:(kk+1)^⇑bs<=300
 k57:kk<=57
 le:∀p∈bs,p.1<=p.2
def RfH.so{d e c t:La}{H H':Hp}{b:O4 V}{bs:Prs}{rws:O4 Rw}{L:Nat->O4 Int}{a i:Nat}{o:Int×Int}(h:RfH d e c H t b bs rws L a i o)(s:So H H'):RfH d e c H' t b bs rws L a i o:=(TD.so s h.td,Tbl.so s h.tb,h.b4,h.r60,h.row,h.mrk,h.few,h.k57,h.le,)
def RfH.gr{n p m t:La}{H:Hp}{l:O4 V}{bs:Prs}{rws:O4 Rw}{L:Nat->O4 Int}{f i:Nat}{o:Int×Int}(h:RfH n p m H t l bs rws L f i o)(mss:O4 (O4 Int))(q:⇑mss=⇑bs)(k:∀(c:Nat)(b:Int×Int)(a:O4 Int),bs[c]?=OP b->mss[c]?=OP a->a.Pairwise (· < ·)/\∀x,x∈a↔MkC rws c b x):_M.gr bs mss ⇑bs<=300 :=
 BK (AK (b:=f+1) (D3 λa e=>by
  let(c,g):=ik e;let r:=(KO.mp g).1;let(b,d):∃b,bs[c]?=OP b:=(_,KN ∅,);exact(L c,(h.mrk c b d).1,λx j=>(h.mrk c b d).2 x<|((k c b a d g).2 x).mp j,)) _) h.few
def  fU(K:RD)(H:Hp):Prop:=∀z,dL K "row_form" = OP z->bT H z.2 [(ph Y79,"row_form.<locals>.<lambda>")]
def fU.same{K:RD}{H H':Hp}(h:fU K H)(s:au H H'):fU K H':=λz e=>(h z e).same s
structure F5(bs:Prs)(rws:O4 Rw)(cols:O4 (List<|Int×Int)):Prop where
 ok:iG cols bs
 ex:∃css:O4 (O4 Int),⇑css=⇑bs/\cols=db (λp cs=>bj p.1 p.2 cs) bs css/\∀(j:Nat)(p:Int×Int)(cs:O4 Int),bs[j]?=OP p->css[j]?=OP cs->cs.Pairwise (· < ·)/\∀x,x∈cs↔MkC rws j p x
def AL{rws:O4 Rw}{c:Nat}{b:Int×Int}{x:Int}(h:MkC rws c b x):b.1<x/\x<=b.2:=by
 let(d,_,a):=h;let:=(kl.mp a).2;rw[KS,O3,O3]at this;calc this
abbrev mkg(rws:O4 Rw)(a:O4 Int):Int:=((msk (jk rws a) ⇑rws:Nat):Int)
structure SpG(ps:O4 Int)(m:Int)(n:Nat)(qs:Prs):Prop where
 le:∀p∈qs,p.1<=p.2
 pw:qs.Pairwise λp q=>p.2<q.1
 bel:∀a,ps[n]?=OP a->∀p∈qs,p.2<a
 iff:∀x,inP qs x=OR↔∃(k:Nat)(a b:Int),k<n/\ps[k]?=OP a/\ps[k+1]?=OP b/\bJ m k=OR/\a<=x/\x<b
 ep:∀p∈qs,p.1∈ps/\p.2+1∈ps
 lenA:2*⇑qs<=n+1
 lenB:(∀p∈qs,∀a,ps[n]?=OP a->p.2≠a-1)->2*⇑qs<=n
def SpG.nil{ps:O4 Int}{m:Int}:SpG ps m 0 []:=((λp h=>by cases h),Po,(λ_ _ p h=>by cases h),λx=>((λh=>by cases h),λ(k,_,_,h,_,)=>OY h<|EB _,),(λp h=>by cases h),⋯,λ_=>Ab _,)
section
variable{ps:O4 Int}{m:Int}{n:Nat}{a b:Int}(hp:Pts ps)(ea:ps[n]?=OP a)(eb:ps[n+1]?=OP b)
include hp ea eb
def wa:a<b:=xc hp.asc ea eb ∅
def SpG.skip{c:Prs}(h:SpG ps m n c)(g:bJ m n=OS):SpG ps m (n+1) c:=by
 let l:=wa hp ea eb;refine(h.le,h.pw,λo e p d=>?_,λx=>(h.iff x).trans (λ(k,u,v,f,r,)=>(k,u,v,∅,r,),λ(k,u,v,f,j,i,b,r,)=>(k,u,v,?_,j,i,b,r,),),h.ep,?_,λ_=>h.lenA,)
 .rw[eb]at e;cases e;let:=h.bel a ea p d;lia
 .by_cases q:k=n
  .rw[q,g]at b;cases b
  .lia
 .let:=h.lenA;lia
def SpG.put{d:Prs}(h:SpG ps m n d)(w:bJ m n=OR)(l:∀p∈d,p.2≠a-1):SpG ps m (n+1) (d++[(a,b-1)]):=by
 let A:=wa hp ea eb;refine(λp c=>?_,?_,λo e p c=>?_,λx=>?_,λp c=>?_,?_,λ_=>?_,)
 .rcases gw.mp c with c|c
  .exact h.le p c
  .rw[dV.mp c];show a<=b-1;lia
 .rw[oR];calc(h.pw,uH _ _,λp c q i=>?_,);rw[dV.mp i];exact h.bel a ea p c
 .rw[eb]at e;cases e;rcases gw.mp c with c|c
  .let:=h.bel a ea p c;lia
  .rw[dV.mp c];show b-1<b;lia
 .rw[sW,Bool.or_eq_true,h.iff x];constructor
  .rintro(⟨k,u,v,t,r⟩|r)
   .exact(k,u,v,∅,r,)
   .unfold inR at r;rw[KS,O3,O3]at r;exact(n,a,b,DN _,ea,eb,w,r.1,by have:=r.2;show x<b;lia,)
  .rintro⟨k,u,v,t,g,f,y,j,s⟩;by_cases q:k=n
   .right
    subst q;rw[ea]at g;rw[eb]at f;cases g;cases f;unfold inR;rw[OZ j,OZ (show x<=b-1 by lia)];rfl
   .exact .inl (k,u,v,∅,g,f,y,j,s,)
 .rcases gw.mp c with c|c
  .exact h.ep p c
  .rw[dV.mp c];exact(KP ea,by show b-1+1∈ps;rw[show b-1+1=b by lia];exact KP eb,)
 .let:=h.lenB λp c o e=>by rw[ea]at e;cases e;exact l p c
  rw[br,gR];lia
 .let:=h.lenB λp c o e=>by rw[ea]at e;cases e;exact l p c
  rw[br,gR];exfalso
  rename_i z
  calc z (a,b-1) (hE _<|dV.mpr Z) b eb Z
def SpG.join{s:Prs}{l:Int×Int}(h:SpG ps m n (s++[l]))(w:bJ m n=OR)(D:l.2=a-1):SpG ps m (n+1) (s++[(l.1,b-1)]):=by
 let C:=wa hp ea eb;let B:=h.le l<|hE _<|dV.mpr Z;refine(λp c=>?_,?_,λE e p c=>?_,λx=>?_,λp c=>?_,?_,λz=>?_,)
 .rcases gw.mp c with c|c
  .exact h.le p<|jS _ c
  .rw[dV.mp c];show l.1<=b-1;lia
 .let:=oR.mp h.pw;rw[oR];calc(this.1,uH _ _,λp c q i=>?_,);rw[dV.mp i];exact this.2.2 p c l<|dV.mpr Z
 .rw[eb]at e;cases e;rcases gw.mp c with c|c
  .let:=h.bel a ea p<|jS _ c;lia
  .rw[dV.mp c];show b-1<b;lia
 .let hi:=h.iff x;rw[sW,Bool.or_eq_true]at hi⊢;let A:inR x (l.1,b-1)=OR↔inR x l=OR\/(a<=x/\x<b):=by
   unfold inR;simp only[KS,decide_eq_true_eq];lia
  rw[A];constructor
  .rintro(r|r|r)
   .let(k,u,v,t,d):=hi.mp<|.inl r;exact(k,u,v,∅,d,)
   .let(k,u,v,t,d):=hi.mp<|.inr r;exact(k,u,v,∅,d,)
   .exact(n,a,b,DN _,ea,eb,w,r,)
  .rintro⟨k,u,v,t,g,f,y,o,j⟩;by_cases q:k=n
   .subst q;rw[ea]at g;rw[eb]at f;cases g;cases f;exact .inr<|.inr (o,j,)
   .rcases hi.mpr (k,u,v,∅,g,f,y,o,j,)with r|r
    .exact .inl r
    .exact .inr<|.inl r
 .rcases gw.mp c with c|c
  .exact h.ep p<|jS _ c
  .rw[dV.mp c];exact((h.ep l<|hE _<|dV.mpr Z).1,by show b-1+1∈ps;rw[show b-1+1=b by lia];exact KP eb,)
 .let:=h.lenA;rw[br,gR]at this⊢;lia
 .exact OY Z<|z (l.1,b-1) (hE _<|dV.mpr Z) b eb
end
def AM{m:Int}(b:0<=m)(k:Nat):decide (RV (Qd (m / 2^(0+(k:Int)).toNat) 1)=RV 1)=bJ m k:=by
 unfold bJ;rw[show(0+(k:Int)).toNat=k by lia];let a:0<=m / 2^k:=Int.ediv_nonneg b<|xz<|Int.pow_pos ⋯;generalize m / 2^k=x at a⊢;let:Qd x 1=0\/Qd x 1=1:=by
  rw[P2 a ⋯];let:x.toNat &&& (1:Int).toNat=x.toNat%2:=Nat.and_one_is_mod _;rw[this];let:=Ha x.toNat (show 0<2 by decide);lia
 rcases this with h|h <;> rw[h] <;> rfl
def  GrR(a:O4 (O4 Int))(b:O4 Int×Int)(x:Rw):Prop:=x.2=b.2/\⇑x.1=⇑a/\∀(j:Nat)(c:O4 Int)(d:Prs)(m:Int),a[j]?=OP c->x.1[j]?=OP d->b.1[j]?=OP m->SpG c m (⇑c-1) d
def  vN(bs:O4 Nat):O4 V:=bs.map λb:Nat=>RV (b:Int)
def bO(bs:O4 Nat):⇑(vN bs)=⇑bs:=by unfold vN;rw[aa]
def xA{bs:O4 Nat}{j b:Nat}(e:bs[j]?=OP b):(vN bs)[j]?=OP (.int (b:Int)):=by unfold vN;rw[dy,e];rfl
def AN(bs a:O4 Nat):vN bs++vN a=vN (bs++a):=by unfold vN;rw[fq]
def  grow(a:O4 (O4 Nat))(n:Nat):O4 (O4 Nat):=a.flatMap λp=>(bn n).map λk=>p++[k]
def  dj(a:O4 Nat):O4 (O4 Nat):=a.foldl grow [[]]
def n8(a:O4 Nat)(n:Nat):dj (a++[n])=grow (dj a) n:=by unfold dj;rw[qJ];rfl
def AO{a:O4 (O4 Nat)}{n:Nat}{q:O4 Nat}:q∈grow a n↔∃p∈a,∃k,k<n/\q=p++[k]:=by
 unfold grow;rw[jT];constructor
 .rintro⟨p,b,h⟩;let(k,c,rfl):=dr.mp h;exact(p,b,k,iT.mp c,Z,)
 .rintro⟨p,b,k,c,rfl⟩;calc(p,b,dr.mpr (k,iT.mpr c,Z,),)
def yH{b:O4 (O4 Nat)}{n a:Nat}{p:O4 Nat}(e:b[a]?=OP p):grow (b.take<|a+1) n=grow (b.take a) n++(bn n).map λk=>p++[k]:=by
 unfold grow;rw[take_snoc e,tu];simp
def uv(a:O4 (O4 Nat))(n:Nat):⇑(grow a n)=⇑a*n:=by
 unfold grow;induction a with
 |nil=>simp
 |cons p a b=>rw[ri,br,b,aa,jU,fk,F9];lia
def  uw(b:O4 Nat)(p:O4 Nat):Prop:=⇑p=⇑b/\∀(j a m:Nat),p[j]?=OP a->b[j]?=OP m->a<m
def qC:∀{r b:O4 Nat}(_:b.reverse=r){p:O4 Nat},p∈dj b↔uw b p
 | [],b,h,p=>by
  let:b=[]:=List.reverse_eq_nil_iff.mp h;subst this;show p∈[[]]↔_;rw[dV];constructor
  .rintro rfl;exact(Z,λj a m e=>by simp at e,)
  .rintro⟨h,_⟩;exact Pd.mp h
 |n :: r,b,h,p=>by
  let e:b=r.reverse++[n]:=by rw[←QV b,h,List.reverse_cons]
  subst e;rw[n8,AO];let l:∀{p:O4 Nat},p∈dj r.reverse↔uw r.reverse p:=qC<|QV r;constructor
  .rintro⟨q,s,k,t,rfl⟩;let(c,d):=l.mp s;refine(by rw[br,br,c];rfl,λj a m f g=>?_,);by_cases o:j<⇑q
   .rw[fo o]at f;rw[fo (by rw[←c];exact o)]at g;exact d j a m f g
   .let:j=⇑q:=by have:=(KO.mp f).1;simp at this;lia
    subst this;simp at f;subst f;rw[c]at g;simp at g;subst g;exact t
  .rintro⟨c,d⟩;rw[br,gR]at c;rcases wU p with rfl|⟨q,k,rfl⟩
   .simp at c
   .rw[yl]at c d⊢;rw[br,gR]at c;let i:⇑q=⇑r.reverse:=∅
    refine(q,l.mpr (i,λj a m f g=>?_,),k,?_,Z,)
    .refine d j a m ?_ ?_
     .rw[fo (KO.mp f).1];exact f
     .rw[fo (KO.mp g).1];exact g
    .refine d ⇑q k n (by simp) ?_;rw[i];simp
def uw.iff{a p:O4 Nat}:p∈dj a↔uw a p:=qC Z
def  gls(a:O4 (O4 Int)):O4 Nat:=a.map λb=>⇑b-1
def  rN(a:O4 Nat)(b:O4 Int×Int):Bool:=(bn ⇑a).all λj=>bJ (b.1.getD j 0)<|a.getD j 0
def  Ea(a:O4 (O4 Int×Int))(b:O4 Nat):O4 Nat:=(bn ⇑a).filter λk=>rN b<|a.getD k ([],0)
def  cdF(a:O4 (O4 Int×Int))(ks:O4 Nat):O4 Int:=ks.map λk=>(a.getD k ([],0)).2
def AQ{A:Prs}{m n:Int}(f:m<=n)(h:∀e∈ends A,e<=m\/n<e):inP A n=inP A m:=by
 rw[re,xa,xa];constructor
 .rintro⟨p,a,c,b⟩;let d:=h _<|nk.mpr (p,a,.inl Z,);exact(p,a,∅,∅,)
 .rintro⟨p,a,c,b⟩;let d:=h _<|nk.mpr (p,a,.inr Z,);calc(p,a,∅,∅,)
def lM{f g:Nat->Bool}:∀{n:Nat},(∀k,k<n->f k=g k)->msk f n=msk g n
 |0,_=>rfl
 |n+1,h=>by rw[kH,kH,h n<|DN n,lM λk a=>h k (CP a)]
def  AR(b:O4 (O4 Int))(d:O4 Nat)(f:O4 Int):Prop:=⇑d=⇑b/\⇑f=⇑b/\∀(j:Nat)(e:O4 Int)(a:Nat)(c:Int),b[j]?=OP e->d[j]?=OP a->f[j]?=OP c->∃u v,e[a]?=OP u/\e[a+1]?=OP v/\u<=c/\c<v
def Eb{ps:O4 Int}(i:Pts ps){m:Int}{g:Prs}(h:SpG ps m (⇑ps-1) g){a:Nat}{u v c:Int}(f:ps[a]?=OP u)(b:ps[a+1]?=OP v)(n:u<=c)(l:c<v):inP g c=bJ m a:=by
 let r:=(KO.mp b).1;rw[re,h.iff c];constructor
 .rintro⟨k,x,y,q,j,e,d,p,o⟩;let:k=a:=by
   rcases F1 k a with z|z|z
   .by_cases w:k+1=a
    .rw[w,f]at e;cases e;lia
    .let:=xc i.asc e f ∅;lia
   .exact z
   .by_cases w:a+1=k
    .rw[w,j]at b;cases b;lia
    .let:=xc i.asc b j ∅;lia
  rw[←this];exact d
 .intro d;calc(a,u,v,∅,f,b,d,n,l,)
section
variable{OV:O4 (O4 Int)}{bms:O4 (O4 Int×Int)}{rws:O4 Rw}(hpt:∀ps∈OV,Pts ps)(hn:⇑rws=⇑bms)(hGr:∀(k:Nat)(b:O4 Int×Int)(x:Rw),bms[k]?=OP b->rws[k]?=OP x->GrR OV b x)(hb:∀b∈bms,⇑b.1=OV.length)
include hpt hn hGr hb
def Ec{d:O4 Nat}{f:O4 Int}(h:AR OV d f){k:Nat}(z:k<⇑bms):jk rws f k=rN d (bms.getD k ([],0)):=by
 let(b,n):∃b,bms[k]?=OP b:=(_,KN z,);let(x,q):∃x,rws[k]?=OP x:=(_,KN ∅,);let(_,F,o):=hGr k b x n q;let E:=hb b<|KP n;let(B,A,p):=h;unfold jk rN pj;rw[ab,q,ab,n,B,A];show(bn OV.length).all (λj=>inP (x.1.getD j [])<|f.getD j 0)=(bn OV.length).all λj=>bJ (b.1.getD j 0)<|d.getD j 0
 rw[re,jP,jP];let g:∀j∈bn OV.length,inP (x.1.getD j []) (f.getD j 0)=bJ (b.1.getD j 0) (d.getD j 0):=λj e=>by
  let e:=iT.mp e;let(ps,l):∃ps,OV[j]?=OP ps:=(_,KN e,);let(i,eq):∃i,x.1[j]?=OP i:=(_,KN ∅,);let(m,r):∃m,b.1[j]?=OP m:=(_,KN ∅,);let(a,t):∃a,d[j]?=OP a:=(_,KN ∅,);let(c,s):∃c,f[j]?=OP c:=(_,KN ∅,);let(u,v,D,C,y,w):=p j ps a c l t s;rw[ab,ab,ab,ab,eq,s,r,t];exact Eb (hpt ps<|KP l) (o j ps i m l eq r) D C y w
 calc(λh j e=>by rw[←g j e];exact h j e,λh j e=>by rw[g j e];exact h j e,)
def Ed{a:O4 Nat}{b:O4 Int}(h:AR OV a b):mkg rws b=((msk (λk=>rN a<|bms.getD k ([],0)) ⇑bms:Nat):Int):=by
 show((msk (jk rws b) ⇑rws:Nat):Int)=_;rw[hn,lM λk c=>Ec hpt hn hGr hb h c]
end
def rO:∀{a:O4 Int}{ps:O4 (Int×Int)},InB a ps->⇑a=⇑ps/\∀(j:Nat)(c:Int)(p:Int×Int),a[j]?=OP c->ps[j]?=OP p->p.1<=c/\c<=p.2
 |_,_,.nil=>(Z,λj c p e=>by simp at e,)
 |_,_,.cons h1 h2 h=>by
  let(f,g):=rO h;refine(by rw[fk,fk,f],λj c p d b=>?_,);cases j with
  |zero=>cases d;cases b;exact(h1,h2,)
  |succ j=>calc g j c p (~~~d) (~~~b)
def Ca{bs:Prs}{rws:O4 Rw}{a:O4 (List<|Int×Int)}(F:F5 bs rws a)(A:∀x∈rws,⇑x.1=⇑bs){b:O4 Int}(h:InB b bs):mkg rws (db cA a b)=mkg rws b:=by
 let(css,L,e,D):=F.ex;let(I,s):=rO h;let r:⇑(db cA a b)=⇑b:=by rw[e,nI,nI];lia
 show((msk (jk rws<|db cA a b) ⇑rws:Nat):Int)=((msk (jk rws b) ⇑rws:Nat):Int);rw[lM λk E=>?_];let(x,ex):∃x,rws[k]?=OP x:=(_,KN E,);let g:=KP ex;let H:=A x g;unfold jk pj;rw[ab,ex,r];show(bn ⇑b).all (λj=>inP (x.1.getD j [])<|(db cA a b).getD j 0)=(bn ⇑b).all λj=>inP (x.1.getD j [])<|b.getD j 0
 let f:∀j∈bn ⇑b,inP (x.1.getD j []) ((db cA a b).getD j 0)=inP (x.1.getD j []) (b.getD j 0):=λj d=>by
  let d:=iT.mp d;let(c,q):∃c,b[j]?=OP c:=(_,KN d,);let(p,o):∃p,bs[j]?=OP p:=(_,KN ∅,);let(m,u):∃m,css[j]?=OP m:=(_,KN ∅,);let(v,i):=D j p m o u;let(G,b2):=s j c p q o;let t:=B6 (css:=css) o u q;rw[←e]at t;let(C,K,J,B):=uj (hi:=p.2) v (λy n=>(AL<|(i y).mp n).1) G b2;rw[ab (l:=db cA a b),t,ab (l:=b),q];show inP _ (cA (bj p.1 p.2 m) c)=inP _ c
  symm
  refine AQ C λy n=>?_
  by_cases z:p.1<y/\y<=p.2
  .let:MkC rws j p y:=(x,g,kl.mpr (n,by rw[KS,O3,O3];exact z,),);by_cases w:y<=c
   .exact .inl<|B y ((i y).mpr this) w
   .exact .inr ∅
  .by_cases w:y<=p.1
   .exact .inl ∅
   .exact .inr ∅
 rw[re,jP,jP];calc(λh j d=>by rw[←f j d];exact h j d,λh j d=>by rw[f j d];exact h j d,)
def ux{ps:O4 Int}{c:Int}(b:∀u,ps[0]?=OP u->u<=c):∀m,m<⇑ps->(∀u,ps[m]?=OP u->c<u)->∃a u v,ps[a]?=OP u/\ps[a+1]?=OP v/\u<=c/\c<v
 |0,hm,h=>by
  let e:=KN hm;let:=b _ e;let:=h _ e;lia
 |m+1,hm,h=>by
  let e:=KN (l:=ps) (i:=m) ∅;let f:=KN hm;by_cases z:ps[m]<=c
  .exact(m,_,_,e,f,z,h _ f,)
  .exact ux b m ∅ λu d=>by rw[e]at d;cases d;lia
def C4{c:Type}{P:Nat->c->Prop}:∀{n:Nat},(∀j,j<n->∃a,P j a)->∃p:O4 c,⇑p=n/\∀(j:Nat)(a:c),p[j]?=OP a->P j a
 |0,_=>([],Z,λj a e=>by simp at e,)
 |n+1,h=>by
  let(p,d,g):=C4 (n:=n) λj f=>h j ∅
  let(a,i):=h n ∅;refine(p++[a],by rw[br,d];rfl,λj b e=>?_,);by_cases f:j<⇑p
  .rw[fo f]at e;exact g j b e
  .let:j=⇑p:=by have:=(KO.mp e).1;simp at this;lia
   subst this;simp at e;rw[←e,d];calc i
section
variable{OV:O4 (O4 Int)}(hpt:∀ps∈OV,Pts ps)
include hpt
def F6{d:O4 Int}(h:InB d (OV.map λps=>(loP ps,hiP ps))):∃e∈dj (gls OV),AR OV e d:=by
 let(s,C):=rO h;rw[aa]at s;let(e,z,w):=C4 (n:=OV.length) (P:=λj a=>∀(ps:O4 Int)(c:Int),OV[j]?=OP ps->d[j]?=OP c->∃u v,ps[a]?=OP u/\ps[a+1]?=OP v/\u<=c/\c<v) λj t=>by
  let o:=KN t;let y:=KN (l:=d) (i:=j) ∅;let r:=hpt _<|KP o;let(B,A):=C j _ _ y (by rw[dy,o];rfl);let E:=r.two;let(a,u,v,f,b,p,D):=ux (ps:=OV[j]) (c:=d[j]) (λu k=>by
   let:loP OV[j]=u:=by unfold loP;rw[ab,k];rfl
   rw[←this];exact B) (OV[j].length-1) ∅ λu k=>by rw[r.last]at k;cases k;show d[j]<hiP OV[j]+1;exact Int.lt_add_one_of_le A
  calc(a,λps c x g=>?_,);rw[o]at x;rw[y]at g;cases x;cases g;exact(u,v,f,b,p,D,)
 refine(e,uw.iff.mpr (by rw[z];unfold gls;rw[aa],λj a m f b=>?_,),z,s,λj ps a c f b p=>w j a b ps c f p,);unfold gls at b;rw[dy]at b;cases q:OV[j]? with
 |none=>rw[q]at b;cases b
 |some ps =>
  rw[q]at b;cases b;let t:=(KO.mp q).1;let(u,v,_,g,_,_):=w j a f ps _ q<|KN (l:=d) (i:=j) ∅;let:=(KO.mp g).1;show a<⇑ps-1;lia
end
section
variable{bms:O4 (O4 Int×Int)}{rws:O4 Rw}(hn:⇑rws=⇑bms)(hcd:∀k,k<⇑bms->(rws.getD k ([],0)).2=(bms.getD k ([],0)).2)
include hn hcd
def F7(f:Nat->Bool):pkF rws f ⇑rws=cdF bms ((bn ⇑bms).filter f):=by
 unfold pkF cdF;rw[hn];calc PH λk a=>hcd k<|iT.mp (kl.mp a).1
end
def So.ins{H H':Hp}{a C b:La}{fs:O4 (Str×V)}(s:So H H')(e:H a=OP (.ins C b fs)):H' a=OP (.ins C b fs):=s _ _ trivial e
inductive Lx:O4 Int->O4 Int->Prop
 |nil:Lx [] []
 |here {a b:Int}{A B:O4 Int}:a<b->Lx (a :: A) (b :: B)
 |there {a:Int}{A B:O4 Int}:Lx A B->Lx (a :: A) (a :: B)
def tab_ne{K:RD}{x y:Str}{c t c' t':La}(h:dL K x=OP (c,t))(h':dL K y=OP (c',t'))(d:t≠t'):∀z a,dL K x=OP z->dL K y=OP a->z.2≠a.2:=λz a e b=>by
 rw[h]at e;rw[h']at b;cases e;cases b;calc d
def tab_keep{H H':Hp}{P b:La}{L:O4 (Pos×Str)}(h:bT H P L)(i:P≠b){ps:Array K5}(e:H b=OP (.tbl ps))(k:∀d o,d≠b->H d=OP o->H' d=OP o):bT H' P L:=by
 let(f,r,q,n):=h;calc(f,k _ _ i r,q,λp m=>?_,);rcases n p m with z|⟨c,g,l,a,j⟩
 .exact .inl z
 .exact .inr (c,g,l,k _ _ (λz=>by rw[z,e]at a;cases a) a,j,)
def Cb{L M:Type} [DecidableEq L] [DecidableEq M] {h:L->M}{g:O4 Int->L}{a:O4 (List<|Int×Int)}{ps:O4 (Int×Int)}(c:iG a ps):pq h ⇑a (lay g a [])=lay (λd=>h<|g d) a [] :=
 lL (AI<|rj c []) (rj c []) λe b x y i f=>(kI i<|B5 (rk c [] e b) (rj c []) b).trans (kI f<|rk (g:=λd=>h<|g d) c [] e b).symm
def  vdm(rws:O4 Rw)(i:Nat)(o:Int×Int)(m:Int):SI:=ver (wf i o.1 o.2)<|pkF rws (bJ m) ⇑rws
def F8{L:Type}{d n:Nat}(e:n=d)(F:Fm L n)(P:(n:Nat)->Fm L n->Prop)(h:P n F):∃G:Fm L d,P d G:=by subst e;calc(F,h,)
def  fV(K:RD)(H:Hp):Prop:=∀z,dL K "verdict_form" = OP z->bT H z.2 [(ph Y85,"verdict_form.<locals>.<lambda>")]
def fV.same{K:RD}{H H':Hp}(h:fV K H)(s:au H H'):fV K H':=λz e=>(h z e).same s
abbrev Dm:=Sum (Int×Int)<|O4 Str
def  DmX(d c:La)(H:Hp)(a:La):Dm->Prop
 | .inl p=>∃b fs,H a=OP (.ins d b fs)/\fs.lookup s!"low"=OP (.int p.1)/\fs.lookup s!"high"=OP (.int p.2)/\fs.lookup s!"has_code"=OQ
 | .inr zs=>∃b fs l,H a=OP (.ins c b fs)/\fs.lookup s!"words"=↑l/\H l=OP (.lst<|zs.map Rk)/\fs.lookup s!"low"=OP (.int 0)/\fs.lookup s!"high"=OP (.int<|hiW zs)/\fs.lookup s!"has_code"=OQ
def  Dm.b:Dm->Int×Int
 | .inl p=>p
 | .inr zs=>(0,hiW zs)
def  TDo(e:La)(H:Hp)(t:La)(d:O4 V)(b:La):Prop:=∃c a fs,H t=OP (.ins e c fs)/\fs.lookup s!"domains"=↑a/\fs.lookup s!"outcome"=↑b/\H a=OP (.lst d)
structure KA(K:RD)(cT cN cW:La)(H:Hp)(t u:La)(bs:Prs)(rws Ee:O4 Rw)(i i':Nat)(o:Int×Int)(gc:O4 (List<|Int×Int)):Prop where
 ex:∃(dv ev:O4 V)(L L':Nat->O4 Int)(kk:Nat),RfH cT cN cW H t dv bs rws L kk i o/\RfH cT cN cW H u ev bs Ee L' kk i' o/\(∀c∈gc,⇑c<=kk+1)/\∃(ou pu:La)(ds:O4 Dm)(d:Dm),TDo cT H t dv ou/\TDo cT H u ev pu/\aJ dv ds (DmX cN cW H)/\aJ ev ds (DmX cN cW H)/\DmX cN cW H ou d/\DmX cN cW H pu d/\⇑ds<=10
 gok:iG gc bs
 glen:⇑gc=⇑bs
 g1:∀cs,InB cs bs->mkg rws (db cA gc cs)=mkg rws cs
 g2:∀cs,InB cs bs->mkg Ee (db cA gc cs)=mkg Ee cs
def  vdp(a:O4 (O4 Int×Int))(i:Nat)(b:O4 Int)(p:O4 Nat):SI:=ver (wf i (o0 b)<|o4 b)<|cdF a<|Ea a p
def AS{c:O4 (O4 Int)}{a:O4 (O4 Int×Int)}{rws:O4 Rw}{i:Nat}{m:O4 Int}(n:∀ps∈c,Pts ps)(f:⇑rws=⇑a)(e:∀(k:Nat)(b:O4 Int×Int)(x:Rw),a[k]?=OP b->rws[k]?=OP x->GrR c b x)(t:∀b∈a,⇑b.1=⇑c){d:O4 Nat}{q:O4 Int}(h:AR c d q):vdm rws i (o0 m,o4 m) (mkg rws q)=vdp a i m d:=by
 let o:∀k,k<⇑a->(rws.getD k ([],0)).2=(a.getD k ([],0)).2:=λk r=>by
  let p:=KN r;let j:=KN (l:=rws) (i:=k) ∅;rw[ab,ab,p,j];exact(e k _ _ p j).1
 rw[Ed n f e t h];generalize s:(λk=>rN d<|a.getD k ([],0))=g;let u:Ea a d=(bn ⇑a).filter g:=by unfold Ea;rw[s]
 let j:pkF rws (bJ ((msk g ⇑a:Nat):Int)) ⇑rws=cdF a ((bn ⇑a).filter g):=by rw[←f,B3,F7 f o,f]
 unfold vdm vdp;rw[j,u]
structure RwD where
 rl:La
 rx:O4 V
 bms:O4 (O4 Int×Int)
 wy:Str
 wi:Nat
structure Kp(H:Hp)(OV:O4 (O4 Int))(d:RwD):Prop where
 e:H d.rl=OP (.lst d.rx)
 r:BRL H d.rx d.bms
 n:⇑d.rx<=60
 b:∀b∈d.bms,⇑b.1=OV.length/\∀x∈b.1,0<=x
 w:six[d.wi]?=OP d.wy
def  eO(ps:O4 Int):O4 Int:=ps.tail.dropLast
def AU{ps:O4 Int}{j:Nat}{x:Int}(e:ps[j+1]?=OP x)(h:j+2<⇑ps):x∈eO ps:=by
 cases ps with
 |nil=>simp at e
 |cons y ps =>
  let e:ps[j]?=OP x:= ~~~e
  let h:j+1<⇑ps:=by rw[fk]at h;lia
  show x∈ps.dropLast;rw[Ps];calc KP (i:=j) ?_;rw[Q9,OX ∅];calc e
def AV{ps:O4 Int}{x:Int}(h:x∈eO ps):∃j,ps[j+1]?=OP x/\j+2<⇑ps:=by
 cases ps with
 |nil=>cases h
 |cons y ps =>
  let h:x∈ps.dropLast:=h;rw[Ps]at h;let(j,a):=ik h;let b:=(KO.mp a).1;rw[hZ]at b;rw[Q9,OX ∅]at a;calc(j,~~~a,by rw[fk];lia,)
def uy{ps:O4 Int}(a:Pts ps):(eO ps).Pairwise (· < ·)/\(∀c∈eO ps,loP ps<c/\c<=hiP ps)/\⇑(eO ps)+2=⇑ps:=by
 let m:=a.two;refine(?_,λc f=>?_,?_,)
 .unfold eO;rw[Ps];exact List.Pairwise.sublist ((vl _ _).trans<|List.tail_sublist ps) a.asc
 .let(j,d,k):=AV f;let e:=KN (l:=ps) (i:=0) ∅;let b:=KN (l:=ps) (i:=⇑ps-1) ∅;let o:loP ps=ps[0]:=by unfold loP;rw[ab,e];rfl
  let n:hiP ps=ps[⇑ps-1]-1:=by unfold hiP;rw[ab,b];rfl
  let h:=a.mono e d ∅;let g:=a.mono d b ∅;lia
 .unfold eO;rw[QX,uP];lia
def Ef{Y F E:La}{H:Hp}{t T:La}{a:O4 (O4 Int)}{f:O4 Int}{rws:O4 Rw}{d:O4 (O4 Int×Int)}{nm R:Str}{zs:O4 Str}{D:O4 V}{S m:Nat}(W:rJ (λ_=>True) Y H t rws nm R T zs D)(o:aJ D (a.map λps=>(loP ps,hiP ps)) (Dom F E H))(L:Dom F E H T (o0 f,o4 f))(J:six[S]?=OP R)(a0:⇑rws=⇑d)(hok:∀w∈rws,mw (a.map λps=>(loP ps,hiP ps)) (o0 f,o4 f) w)(N:∀(k:Nat)(b:O4 Int×Int)(x:Rw),d[k]?=OP b->rws[k]?=OP x->GrR a b x)(hb:∀b∈d,⇑b.1=⇑a)(g:∀ps∈a,Pts ps)(Eg:o0 f<=o4 f)(a2:⇑a<=4)(a3:⇑d<=60)(hsz:∀ps∈a,⇑ps<=m)(M:(m+1)^⇑a<=300)(HI:m<=57):RfH Y F E H t D (a.map λps=>(loP ps,hiP ps)) rws (λc=>a.getD c []) m S (o0 f,o4 f):=by
 let(bs,j):∃bs,bs=a.map λps=>(loP ps,hiP ps):=(_,Z,)
 let r:⇑bs=⇑a:=by rw[j];simp
 rw[←j]at o hok⊢;let a1:∀w∈rws,⇑w.1=⇑a:=λw hw=>by rw[(hok w hw).len];exact r
 let q:∀b∈d,⇑b.1=⇑a/\True:=λb h=>(hb b h,trivial,)
 let n:∀(k:Nat)(x:Rw),rws[k]?=OP x->∃b,d[k]?=OP b/\GrR a b x:=λk x e=>by
  let hk:=(KO.mp e).1;exact(_,KN (l:=d) (i:=k) ∅,N k _ x (KN ∅) e,)
 let(I,dx,na,dl,fs,G,e1,e2,e3,e4,e5,e6,e7,e8,e9,Q,P,_):=id W;refine((I,dx,dl,fs,G,e1,e2,e7,e9,o,Q,aJ.mono P λ_ _ p=>p,),W.tbl J L Eg,∅,∅,λx s=>((hok x s).len,λc=>?_,),λc b C=>?_,by rw[r];exact M,HI,λp u=>?_,)
 .let(k,B):=ik s;let(b,C,_,gl,z):=n k x B;by_cases v:c<⇑a
  .let ep:=KN v;let eq:=KN (l:=x.1) (i:=c) ∅;let yI:=(q b<|KP C).1;let A:=KN (l:=b.1) (i:=c) ∅;let h1:=(z c _ _ _ ep eq A).lenA;let h2:=(g _<|KP ep).few;let h3:=(g _<|KP ep).two;rw[ab,eq];show x.1[c].length<=6;lia
  .rw[ab,lg ∅];exact BG _
 .let v:c<⇑a:=by have:=(KO.mp C).1;lia
  let ep:=KN v;let eL:a.getD c []=a[c]:=by rw[ab,ep];rfl
  show⇑(a.getD c [])<=m/\∀y,MkC rws c b y->y∈a.getD c [];rw[eL];calc(hsz _<|KP ep,λy (x,s,hy,)=>?_,);let(k,B):=ik s;let(b',O,_,gl,z):=n k x B;let eq:=KN (l:=x.1) (i:=c) ∅;let yI:=(q b'<|KP O).1;let A:=KN (l:=b'.1) (i:=c) ∅;let X:=(kl.mp hy).1;rw[ab,eq]at X;let(p,u,e):=nk.mp X;let:=(z c _ _ _ ep eq A).ep p u;rcases e with e|e
  .rw[e];exact this.1
  .rw[e];exact this.2
 .rw[j]at u;let(ps,K,rfl):=dr.mp u;calc(g ps K).le
def xB(xs:O4 V){n:Nat}(h:n<=⇑xs):jg xs OQ (OP (n:Int))=xs.take n:=by
 unfold jg;let a:HT.sIx ⇑xs ⇑xs (OP (n:Int))=n:=by rw[HT.sIx_nat];lia
 let b:HT.sIx ⇑xs 0 OQ=0:=rfl;rw[a,b,List.drop_zero,Nat.sub_zero]
def yJ(xs:O4 V){n:Nat}(h:n<=⇑xs):jg xs (OP (n:Int)) OQ=xs.drop n:=by
 unfold jg;let a:HT.sIx ⇑xs 0 (OP (n:Int))=n:=by rw[HT.sIx_nat];lia
 let b:HT.sIx ⇑xs ⇑xs OQ=⇑xs:=rfl;rw[a,b];calc lz (by rw[rz];lia)
def Eh{H:Hp}{xs:O4 V}{B:O4 (Int×Int)}(h:PL H xs B)(n:Nat):PL H (xs.take n) (B.take n):=by
 induction h generalizing n with
 |nil=>cases n <;> exact .nil
 |cons e _ a=>cases n with
  |zero=>exact .nil
  |succ n=>calc .cons e (a n)
def Ei{H:Hp}{xs:O4 V}{B:O4 (Int×Int)}(h:PL H xs B)(n:Nat):PL H (xs.drop n) (B.drop n):=by
 induction h generalizing n with
 |nil=>cases n <;> exact .nil
 |cons e r a=>cases n with
  |zero=>exact .cons e r
  |succ n=>calc a n
def yK{B:O4 (Int×Int)}{c:Nat}(h:c<B.length)(p:Int×Int):B.take c++[p]++B.drop (c+1)=B.set c p:=by
 rw[List.set_eq_take_append_cons_drop,OX h,mz];rfl
def  BkL(H:Hp)(us:O4 V)(a:O4 (List<|Int×Int)):Prop:=aJ us a<|BxA H
def  lO(B:O4 (Int×Int))(ps:O4 (Int×Int)):O4 (List<|Int×Int):=ps.map λp=>B++[p]
def  wid(a:O4 (List<|Int×Int))(ps:O4 (Int×Int)):O4 (List<|Int×Int):=a.flatMap λB=>lO B ps
def rP(a:O4 (List<|Int×Int))(ps:O4 (Int×Int)):⇑(wid a ps)=⇑a*⇑ps:=by
 induction a with
 |nil=>rw[show wid [] ps=[]from Z];simp
 |cons B a b=>rw[show wid (B :: a) ps=lO B ps++wid a ps from Z,br,b,show⇑(lO B ps)=⇑ps from aa ..,fk,F9];lia
def AW{a:O4 (List<|Int×Int)}{ps:O4 (Int×Int)}{i:Nat}{B:O4 (Int×Int)}(e:a[i]?=OP B):wid (a.take<|i+1) ps=wid (a.take i) ps++lO B ps:=by
 unfold wid;rw[take_snoc e,tu,Ph]
def  kK(ps:O4 (Int×Int))(f n:Nat):O4 (Int×Int):=(bn n).map λi=>((ps.getD i (0,0)).1,(ps.getD (i+f) (0,0)).2)
def  kL(ps:O4 (Int×Int))(f:Nat):O4 (Int×Int):=(bn f).flatMap λd=>kK ps d<|⇑ps-d
def yL(ps:O4 (Int×Int))(f n:Nat):kK ps f (n+1)=kK ps f n++[((ps.getD n (0,0)).1,(ps.getD (n+f) (0,0)).2)]:=by unfold kK;rw[jR,fq];rfl
def lP(ps:O4 (Int×Int))(f:Nat):kL ps (f+1)=kL ps f++kK ps f (⇑ps-f):=by unfold kL;rw[jR,tu,Ph]
def n9(ps:O4 (Int×Int))(f n:Nat):⇑(kK ps f n)=n:=by unfold kK;rw[aa,jU]
def AX(ps:O4 (Int×Int))(f:Nat):⇑(kL ps f)<=f*⇑ps:=by
 induction f with
 |zero=>exact BG _
 |succ f a=>rw[lP,br,n9,F9];lia
def Ej{H:Hp}{xs:O4 V}{ps:O4 (Int×Int)}(h:PL H xs ps){i:Nat}(hi:i<⇑ps):∃r,xs[i]?=↑r/\H r=OP (.tup [.int (ps.getD i (0,0)).1,.int (ps.getD i (0,0)).2]):=by
 let(p,r,c,b,a):=h.get (KN (by rw[⇑h];exact hi));let:ps.getD i (0,0)=p:=by rw[ab,c];rfl
 calc(r,by rw[KN (by rw[⇑h];exact hi),b],by rw[this];exact a,)
def  ib(p:Int×Int)(a:O4 Int):O4 (Int×Int):=kL (bj p.1 p.2 a) ⇑(bj p.1 p.2 a)
def  dN(ps:O4 (Int×Int))(mss:O4 (O4 Int)):O4 (List<|Int×Int):=(Qo ps mss).foldl (λa q=>wid a<|ib q.1 q.2) [[]]
def og{α a:Type}:∀(xs:O4 α)(ys:O4 a)(i:Nat),Qo (xs.take i) (ys.take i)=(Qo xs ys).take i
 | [],_,_=>by simp
 |_ :: _,[],i=>by cases i <;> simp
 |x :: xs,y :: ys,0=>by simp
 |x :: xs,y :: ys,i+1=>by simp[og xs ys i]
def lQ{ps:O4 (Int×Int)}{mss:O4 (O4 Int)}{i:Nat}{p:Int×Int}{a:O4 Int}(c:ps[i]?=OP p)(b:mss[i]?=OP a):dN (ps.take<|i+1) (mss.take<|i+1)=wid (dN (ps.take i)<|mss.take i) (ib p a):=by
 let e:(Qo ps mss)[i]?=OP (p,a):=by rw[qG];exact(c,b,)
 unfold dN;rw[og,og,take_snoc e,qJ];rfl
def gk{ps:O4 (Int×Int)}{mss:O4 (O4 Int)}(f:⇑mss=⇑ps):∀B∈dN ps mss,B.length=⇑ps:=by
 let d:∀(l:O4 ((Int×Int)×O4 Int))(A:O4 (List<|Int×Int))(n:Nat),(∀B∈A,B.length=n)->∀B∈l.foldl (λe q=>wid e<|ib q.1 q.2) A,B.length=n+⇑l:=by
  intro l;induction l with
  |nil=>intro A n h B a;exact h B a
  |cons q l b =>
   intro A n h B a;rw[zz]at a;let:=b (wid A<|ib q.1 q.2) (n+1) (λB a=>?_) B a
   .rw[this,fk];lia
   .let(C,c,a):=jT.mp a;let(p,_,rfl):=dr.mp a;rw[br,h C c];rfl
 intro B a;rw[d _ _ 0 (λB a=>by rw[dV.mp a];rfl) B a,List.length_zip];lia
structure MkO(ps:O4 (Int×Int))(mss:O4 (O4 Int)):Prop where
 len:⇑mss=⇑ps
 col:∀(j:Nat)(p:Int×Int)(ms:O4 Int),ps[j]?=OP p->mss[j]?=OP ms->ms.Pairwise (· < ·)/\(∀m∈ms,p.1<m/\m<=p.2)/\⇑ms<=29
 few:∀i,⇑(dN (ps.take i)<|mss.take i)<=1000
 six:⇑ps<=5
abbrev Blk:=List<|Int×Int
def  bkK(B:Blk):NK:=B.map λp=>[p.1,p.2]
def rQ:∀{A B:Blk},bkK A=bkK B->A=B
 | [],[],_=>rfl
 | [],_ :: _,h=>by cases h
 |_ :: _,[],h=>by cases h
 |(a,b) :: A,(c,d) :: B,h=>by
  injection h with i g;injection i with f e;injection e with e _;rw[rQ g,show a=c from f,show b=d from e]
def uz{H:Hp}{a:La}{B:Blk}(h:BxA H a B):rD H (bkK B) a:=by
 let(c,j,f):=h;let g:∀{c:O4 V}{B:Blk},PL H c B->∃b:O4 La,c=b.map RZ/\Paired (λk p=>H p=OP (.tup<|k.map RV)) (bkK B) b:=by
  intro c B h;induction h with
  |nil=>exact([],Z,.nil,)
  | @cons x p c B e _ ih =>
   let(r,rfl,i):=e;let(b,rfl,d):=ih;exact(r :: b,Z,.cons i d,)
 let(b,rfl,d):=g f;calc(b,j,d,)
def kM{H H':Hp}(s:bD H H'){ks:NK}{a:La}(h:rD H ks a):rD H' ks a:=by let(b,e,p):=h;calc(b,s _ _ e,Paired.mapP p λ_ _ z=>s _ _ z,)
def eA{H H':Hp}(s:bD H H'){kvs:O4 (NK×La×V)}(h:kC H kvs):kC H' kvs:=λe a=>kM s<|h e a
structure DcP(P:K7)(w:K6)(K:RD)(H:Hp)(d:La)(kvs:O4 (NK×La×V))(M:O4 (Blk×Pln)):Prop where
 at_:H d=OP (cg P w d kvs)
 keys:kC H kvs
 vals:Paired (λ(e:NK×La×V)(m:Blk×Pln)=>e.1=bkK m.1/\∃a,e.2.2=.ref a/\PlA K H m.2 a) kvs M
def DcP.keep{P:K7}{w:K6}{K:RD}{H H':Hp}{d:La}{kvs:O4 (NK×La×V)}{M:O4 (Blk×Pln)}(h:DcP P w K H d kvs M)(e:H' d=OP (cg P w d kvs))(s:bD H H'):DcP P w K H' d kvs M :=
 (e,eA s h.keys,Paired.mapP h.vals λ_ _ (a,b,c,q,)=>(a,b,c,q.mono s,),)
def DcP.get{P:K7}{w:K6}{K:RD}{H:Hp}{d:La}{kvs:O4 (NK×La×V)}{M:O4 (Blk×Pln)}(h:DcP P w K H d kvs M){B:Blk}{p:Pln}(b:(B,p)∈M):∃c a,(bkK B,c,RZ a)∈kvs/\PlA K H p a:=by
 let j:∀{kvs:O4 (NK×La×V)}{M:O4 (Blk×Pln)},Paired (λ(e:NK×La×V)(m:Blk×Pln)=>e.1=bkK m.1/\∃a,e.2.2=.ref a/\PlA K H m.2 a) kvs M->(B,p)∈M->∃c a,(bkK B,c,RZ a)∈kvs/\PlA K H p a:=by
  intro kvs M h;induction h with
  |nil=>intro b;cases b
  | @cons e m es ms he _ ih =>
   intro b;rcases bz.mp b with rfl|b
   .let(n,a,l,f):=he;let(k,c,v):=e;cases n;cases l;exact(c,a,dt,f,)
   .let(c,a,i,g):=ih b;exact(c,a,fS _ i,g,)
 calc j h.vals b
def  cmb(x:Int)(c:Nat)(m:Int)(a b:Pln):Pln:=if a=b then a else(x+max a.1 b.1,.ask c m a.2 b.2)
def  oh(B:Blk)(x:Int)(pl:Blk->Pln)(c:Nat)(a:O4 Int):O4 Pln:=(a.filter λm=>decide<|(B.getD c (0,0)).1<m/\m<=(B.getD c (0,0)).2).map λm=>cmb x c m (pl<|B.set c ((B.getD c (0,0)).1,m-1))<|pl<|B.set c (m,(B.getD c (0,0)).2)
def  eF(B:Blk)(mss:O4 (O4 Int))(xs:O4 Int)(pl:Blk->Pln)(i:Nat):O4 Pln:=(bn i).flatMap λc=>oh B (xs.getD c 0) pl c<|mss.getD c []
def qD(B:Blk)(x:Int)(pl:Blk->Pln)(c:Nat)(b:O4 Int)(m:Int):oh B x pl c (b++[m])=oh B x pl c b++if (B.getD c (0,0)).1<m/\m<=(B.getD c (0,0)).2 then[cmb x c m (pl<|B.set c ((B.getD c (0,0)).1,m-1)) (pl<|B.set c (m,(B.getD c (0,0)).2))] else[]:=by
 unfold oh;rw[ny,fq];by_cases h:(B.getD c (0,0)).1<m/\m<=(B.getD c (0,0)).2
 .let z:=FM (p:=λm=>decide<|(B.getD c (0,0)).1<m/\m<=(B.getD c (0,0)).2) (a:=m) (l:=[])<|OZ h;rw[OX h,z];rfl
 .let z:=FS (p:=λm=>decide<|(B.getD c (0,0)).1<m/\m<=(B.getD c (0,0)).2) (a:=m) (l:=[])<|λq=>h<|O1 q;rw[OW h,z];rfl
def yM(B:Blk)(mss:O4 (O4 Int))(xs:O4 Int)(pl:Blk->Pln)(i:Nat):eF B mss xs pl (i+1)=eF B mss xs pl i++oh B (xs.getD i 0) pl i (mss.getD i []):=by unfold eF;rw[jR,tu,Ph]
def  mnP:Pln->O4 Pln->Pln
 |b,[]=>b
 |b,p :: ps=>mnP (if p.1<b.1 then p else b) ps
def oi:∀(ps:O4 Pln)(b:Pln),∃i,(b :: ps)[i]?=OP (mnP b ps)/\∀(j:Nat)(p:Pln),(b :: ps)[j]?=OP p->(mnP b ps).1<=p.1/\(j<i->(mnP b ps).1<p.1)
 | [],b=>⟨0,Z,λj p e=>by
  cases j with
  |zero=>cases e;exact(ca _,λh=>OY h<|DE _,)
  |succ j=>simp at e⟩
 |q :: ps,b=>by
  let k:mnP b (q :: ps)=mnP (if q.1<b.1 then q else b) ps:=rfl;let(i,e,h):=oi ps (if q.1<b.1 then q else b);rw[k];let f:=(h 0 _ Z).1;cases i with
  |zero =>
   let e:(if q.1<b.1 then q else b)=mnP (if q.1<b.1 then q else b) ps:=bm e;by_cases c:q.1<b.1
   .rw[OX c]at e h f⊢;refine(1,by rw[←e];rfl,λj p a=>?_,)
    match j,a with
    |0,a=>cases a;rw[←e];exact(xz c,λ_=>c,)
    |1,a=>cases a;exact(f,λz=>OY z<|DE _,)
    |j+2,a=>exact((h (j+1) p a).1,λz=>∅,)
   .rw[OW c]at e h f⊢;refine(0,by rw[←e];rfl,λj p a=>?_,)
    match j,a with
    |0,a=>cases a;exact(f,λz=>OY z<|DE _,)
    |1,a=>cases a;exact(∅,λz=>∅,)
    |j+2,a=>exact((h (j+1) p a).1,λz=>∅,)
  |succ i =>
   let d:=(h 0 _ Z).2<|EX _;calc(i+2,e,λj p a=>?_,);let g:(mnP (if q.1<b.1 then q else b) ps).1<b.1/\(mnP (if q.1<b.1 then q else b) ps).1<q.1:=by
    by_cases c:q.1<b.1
    .rw[OX c]at d⊢;exact(∅,d,)
    .rw[OW c]at d⊢;exact(d,∅,)
   match j,a with
   |0,a=>cases a;exact(∅,λ_=>g.1,)
   |1,a=>cases a;exact(∅,λ_=>g.2,)
   |j+2,a=>calc((h (j+1) p a).1,λz=>(h (j+1) p a).2 ∅,)
def Ek{b:Pln}{ps:O4 Pln}{i:Nat}{p:Pln}(e:(b :: ps)[i]?=OP p)(h:∀(j:Nat)(q:Pln),(b :: ps)[j]?=OP q->p.1<=q.1/\(j<i->p.1<q.1)):p=mnP b ps:=by
 let(k,c,d):=oi ps b;rcases F1 i k with z|z|z
 .let a:=(d i p e).2 z;let b:=(h k _ c).1;lia
 .subst z;rw[e]at c;exact bm c
 .let a:=(h k _ c).2 z;let b:=(d i p e).1;lia
def Cc{α:Type}{us:O4 V}{ps:O4 α}{P:La->α->Prop}(h:aJ us ps P):∃ds:O4 La,us=ds.map RZ/\⇑ds=⇑ps/\∀(i:Nat)(a:La),ds[i]?=OP a->∃p,ps[i]?=OP p/\P a p:=by
 induction us generalizing ps with
 |nil=>exact([],Z,h.1,λi a e=>by simp at e,)
 |cons u us b =>
  cases ps with
  |nil=>have:=h.1;simp at this
  |cons p ps =>
   let(r,e,c):=h.2 0 p Z;cases e;let(ds,rfl,d,f):=b (ps:=ps) (by have:=h.1;simpa using this,λj a e=>h.2 (j+1) a e,);refine(r :: ds,Z,by rw[fk,fk,d],λi a e=>?_,);cases i with
   |zero=>cases e;exact(p,Z,c,)
   |succ i=>calc f i a e
def  plB(B:Blk)(mss:O4 (O4 Int))(xs:O4 Int)(pl:Blk->Pln)(s:SI2):Pln:=match eF B mss xs pl ⇑mss with
 | []=>(0,.say s)
 |p :: ps=>mnP p ps
def  ie(K:RD)(H:Hp):Prop:=∀z,dL K "plan_of" = OP z->bT H z.2 [(ph Y71,"plan_of.<locals>.<lambda>")]
def  PlL(K:RD)(H:Hp)(us:O4 V)(ps:O4 Pln):Prop:=aJ us ps λa p=>PlA K H p a
def  Bef{α:Type}(l:O4 α)(x y:α):Prop:=∀i,l[i]?=OP y->x∈l.take i
def rR{α c:Type}(f:α->O4 c):∀(l:O4 α)(i:Nat)(y:c),(l.flatMap f)[i]?=OP y->∃(d:Nat)(a:α)(j:Nat),l[d]?=OP a/\(f a)[j]?=OP y/\(l.flatMap f).take i=(l.take d).flatMap f++(f a).take j
 | [],i,y,e=>by simp at e
 |a :: l,i,y,e=>by
  rw[ri]at e⊢;by_cases h:i<⇑(f a)
  .rw[fo h]at e;exact(0,a,i,Z,e,by rw[List.take_append_of_le_length (Dn h)];rfl,)
  .let h:⇑(f a)<=i:=GU h;rw[jn h]at e;let(d,b,j,m,k,g):=rR f l _ y e;calc(d+1,b,j,m,k,?_,);rw[List.take_succ_cons,ri,mz,←g,List.take_append,lz h]
def wb{b:Type}(f:Nat->O4 b){n i:Nat}{y:b}(e:((bn n).flatMap f)[i]?=OP y):∃(d j:Nat),d<n/\(f d)[j]?=OP y/\∀(d':Nat)(x:b),d'<d->x∈f d'->x∈((bn n).flatMap f).take i:=by
 let(d,a,j,o,m,l):=rR f _ _ _ e;let(c,g):=KO.mp o;rw[Q8]at g;subst g;rw[jU]at c;calc(d,j,c,m,λd' x h k=>?_,);rw[l];calc jS _<|jT.mpr (d',?_,k,);rw[List.take_range,Qj (Dn c)];calc iT.mpr h
def oj{ps:O4 (Int×Int)}{f n i:Nat}(h:i<n):((ps.getD i (0,0)).1,(ps.getD (i+f) (0,0)).2)∈kK ps f n:=dr.mpr (i,iT.mpr h,Z,)
def Cd{ps:O4 (Int×Int)}{f n j:Nat}{y:Int×Int}(e:(kK ps f n)[j]?=OP y):j<n/\y=((ps.getD j (0,0)).1,(ps.getD (j+f) (0,0)).2):=by
 unfold kK at e;rw[dy]at e;let(a,g,d):=KY.mp e;let(b,c):=KO.mp g;rw[Q8]at c;rw[jU]at b;subst c;calc(b,d.symm,)
def mS{lo hi:Int}{a:O4 Int}{i:Nat}(h:i<=⇑a):((bj lo hi a).getD i (0,0)).1=(lo :: a).getD i 0:=by
 unfold bj;rw[ab,ab,KN (by simp;lia),KN (by simp;lia)];simp
def rS{lo hi:Int}{a:O4 Int}{i:Nat}(h:i<=⇑a):((bj lo hi a).getD i (0,0)).2=(a.map (· - 1)++[hi]).getD i 0:=by
 unfold bj;rw[ab,ab,KN (by simp;lia),KN (by simp;lia)];simp
def kN{lo hi:Int}{a:O4 Int}{i:Nat}(h:i<⇑a):((bj lo hi a).getD i (0,0)).2=a.getD i 0-1:=by
 rw[rS (Dn h),ab,fo<|~~~h,dy,KN h,ab,KN h];rfl
def iI{lo hi:Int}{a:O4 Int}{i:Nat}(h:i<⇑a):((bj lo hi a).getD (i+1) (0,0)).1=a.getD i 0:=by
 rw[mS ∅,List.getD_cons_succ]
def xC{a:O4 Int}(d:a.Pairwise (· < ·)){i j:Nat}(b:i<j)(c:j<⇑a):a.getD i 0<a.getD j 0:=by
 rw[ab,ab,KN c,KN ∅];calc Db.mp d i j _ c b
def AY{lo hi:Int}{a:O4 Int}(d:a.Pairwise (· < ·))(b:∀c∈a,lo<c/\c<=hi){i j:Nat}(e:i<j)(f:j<=⇑a):((bj lo hi a).getD i (0,0)).1<((bj lo hi a).getD j (0,0)).1:=by
 let(j,rfl):∃k,j=k+1:=(j-1,∅,);rw[iI ∅];cases i with
 |zero =>
  rw[mS (BG _)];let:a.getD j 0∈a:=by rw[ab,KN ∅];exact oT _
  exact(b _ this).1
 |succ i=>rw[iI ∅];calc xC d ∅ ∅
def AZ{lo hi:Int}{a:O4 Int}(e:a.Pairwise (· < ·))(b:∀c∈a,lo<c/\c<=hi){i j:Nat}(d:i<j)(g:j<=⇑a):((bj lo hi a).getD i (0,0)).2<((bj lo hi a).getD j (0,0)).2:=by
 rw[kN (i:=i) ∅];by_cases h:j<⇑a
 .rw[kN h];let:=xC e d h;lia
 .let:j=⇑a:=∅
  subst this;let f:(a.map (· - 1)++[hi]).getD ⇑a 0=hi:=by
   rw[ab,jn (by simp)];simp
  rw[rS (Ab _),f];let:a.getD i 0∈a:=by rw[ab,KN ∅];exact oT _
  let:=(b _ this).2;lia
def Ce{p:Int×Int}{a:O4 Int}(o:a.Pairwise (· < ·))(l:∀c∈a,p.1<c/\c<=p.2){lo hi m:Int}(s:m∈a)(E:lo<m)(D:m<=hi):Bef (ib p a) (lo,m-1) (lo,hi)/\Bef (ib p a) (m,hi) (lo,hi):=by
 let h:∀i,(ib p a)[i]?=OP (lo,hi)->(lo,m-1)∈(ib p a).take i/\(m,hi)∈(ib p a).take i:=by
  intro i e;unfold ib kL at e⊢;rw[cS]at e⊢;let(d,j,C,x,r):=wb _ e;let(B,t):=Cd x;injection t with u w;let(k,g,v):=Q3 s;let b:a.getD k 0=m:=by rw[ab,KN g];exact v
  let A:j<=k:=by
   refine GU λz=>?_
   let:((bj p.1 p.2 a).getD (k+1) (0,0)).1<=((bj p.1 p.2 a).getD j (0,0)).1:=by
    by_cases q:k+1=j
    .rw[q];exact ca _
    .exact xz<|AY o l ∅ ∅
   rw[iI g,b]at this;lia
  let y:k<j+d:=by
   refine Nat.lt_of_not_le λz=>?_
   let:((bj p.1 p.2 a).getD (j+d) (0,0)).2<=((bj p.1 p.2 a).getD k (0,0)).2:=by
    by_cases q:j+d=k
    .rw[q];exact ca _
    .exact xz<|AZ o l ∅ ∅
   rw[kN g,b]at this;lia
  refine(r (k-j) _ ∅ ?_,r (j+d-(k+1)) _ ∅ ?_,)
  .let:=oj (ps:=bj p.1 p.2 a) (f:=k-j) (n:=⇑a+1-(k-j)) (i:=j) ∅;rw[show j+(k-j)=k by lia,kN g,b,←u]at this;exact this
  .let:=oj (ps:=bj p.1 p.2 a) (f:=j+d-(k+1)) (n:=⇑a+1-(j+d-(k+1))) (i:=k+1) ∅;rw[show k+1+(j+d-(k+1))=j+d by lia,iI g,b,←w]at this;exact this
 calc(λi e=>(h i e).1,λi e=>(h i e).2,)
def gG{α g:Type}{f:α->O4 g}:∀{l:O4 α},l.Nodup->(∀a∈l,(f a).Nodup)->(∀a∈l,∀b∈l,a≠b->∀x∈f a,x ∉ f b)->(l.flatMap f).Nodup
 | [],_,_,_=>md
 |a :: l,hn,hf,hd=>by
  rw[ri,tw];rw[lY]at hn;calc(hf a dt,gG hn.2 (λb d=>hf b<|fS _ d) λb d c i=>hd b (fS _ d) c<|fS _ i,λx h y e z=>?_,);subst z;let(b,d,e):=jT.mp e;calc hd a dt b (fS _ d) (λz=>hn.1<|z ▸ d) x h e
def uA{lo hi:Int}{a:O4 Int}(f:a.Pairwise (· < ·))(b:∀c∈a,lo<c/\c<=hi){i j:Nat}(d:i<=⇑a)(g:j<=⇑a)(e:((bj lo hi a).getD i (0,0)).1=((bj lo hi a).getD j (0,0)).1):i=j:=by
 rcases F1 i j with z|z|z
 .let:=AY f b z g;lia
 .exact z
 .let:=AY f b z d;lia
def yN{lo hi:Int}{a:O4 Int}(f:a.Pairwise (· < ·))(b:∀c∈a,lo<c/\c<=hi){i j:Nat}(d:i<=⇑a)(g:j<=⇑a)(e:((bj lo hi a).getD i (0,0)).2=((bj lo hi a).getD j (0,0)).2):i=j:=by
 rcases F1 i j with z|z|z
 .let:=AZ f b z g;lia
 .exact z
 .let:=AZ f b z d;lia
def yO{p:Int×Int}{h:O4 Int}(g:h.Pairwise (· < ·))(f:∀c∈h,p.1<c/\c<=p.2):(ib p h).Nodup:=by
 unfold ib kL;rw[cS];refine gG List.nodup_range (λd _=>?_) λd o u l t x n m=>?_
 .unfold kK;rw[AT,zb];refine GT.imp_of_mem λ{i j} hi k s z=>?_
  injection z with z1 _;rw[iT]at hi k;let:=uA g f ∅ ∅ z1;lia
 .let(i,hi,rfl):=dr.mp n;let(j,k,e):=dr.mp m;rw[iT]at hi k o l;injection e with r q;let a:=uA g f ∅ ∅ r;let b:=yN g f ∅ ∅ q;lia
def yP{f:O4 (List<|Int×Int)}{ps:O4 (Int×Int)}(j:f.Nodup)(d:ps.Nodup):(wid f ps).Nodup:=by
 refine gG j (λB _=>?_) λB _ C _ g x i h=>?_
 .unfold lO;rw[AT]at d⊢;rw[zb];exact d.imp λ{a b} c z=>c (by have:=QH z;injection this)
 .let(p,_,rfl):=dr.mp i;let(q,_,e):=dr.mp h;calc g (Pt e Z).symm
def mT{d:O4 (List<|Int×Int)}{ps:O4 (Int×Int)}{C B:O4 (Int×Int)}{q p:Int×Int}(h:(Bef d C B/\q∈ps/\q=p)\/(C=B/\Bef ps q p)):Bef (wid d ps) (C++[q]) (B++[p]):=by
 intro i e;unfold wid at e⊢;let(k,s,j,r,b,o):=rR _ _ _ _ e;unfold lO at b;rw[dy]at b;let(f,n,c):=KY.mp b;let m:s=B:=Pt c Z;let l:f=p:=by have:=List.append_inj_right' c Z;injection this
 subst m l;rw[o];rcases h with⟨a,g,rfl⟩|⟨rfl,a⟩
 .exact jS _<|jT.mpr (C,a k r,dr.mpr (q,g,Z,),)
 .refine hE _ ?_;unfold lO;rw[←List.map_take];calc dr.mpr (q,a j n,Z,)
def kO(ps:O4 (Int×Int))(mss:O4 (O4 Int))(p:Int×Int)(a:O4 Int)(b:⇑mss=⇑ps):dN (ps++[p]) (mss++[a])=wid (dN ps mss) (ib p a):=by
 unfold dN;rw[List.zip_append b.symm,qJ];rfl
def xD:∀(n:Nat){ps:O4 (Int×Int)}{mss:O4 (O4 Int)}{B:O4 (Int×Int)}{c:Nat}{lo hi m:Int}{e:O4 Int},⇑ps=n->⇑mss=⇑ps->(∀(j:Nat)(p:Int×Int)(e:O4 Int),ps[j]?=OP p->mss[j]?=OP e->e.Pairwise (· < ·)/\(∀m∈e,p.1<m/\m<=p.2)) ->
  B∈dN ps mss->B[c]?=OP (lo,hi)->mss[c]?=OP e->m∈e->lo<m->m<=hi->Bef (dN ps mss) (B.set c (lo,m-1)) B/\Bef (dN ps mss) (B.set c (m,hi)) B
 |0,ps,mss,B,c,lo,hi,m,e,hn,hl,_,_,_,hm,_,_,_=>by
  let:mss=[]:=lq ∅;rw[this]at hm;simp at hm
 |n+1,ps,mss,B,c,lo,hi,m,e,hn,hl,ok,k,hc,hm,hmm,h1,h2=>by
  let(d,p,rfl):∃d p,ps=d++[p]:=(ps.dropLast,ps.getLast (by intro z;rw[z]at hn;simp at hn),(nS _).symm,);let(g,w,rfl):∃g w,mss=g++[w]:=(mss.dropLast,mss.getLast (by intro z;rw[z,hn]at hl;simp at hl),(nS _).symm,);let r:⇑d=n:= ~~~hn
  let f:⇑g=⇑d:= ~~~hl
  let o:∀(j:Nat)(p:Int×Int)(e:O4 Int),d[j]?=OP p->g[j]?=OP e->e.Pairwise (· < ·)/\(∀m∈e,p.1<m/\m<=p.2):=λj q e A y=>ok j q e (by rw[fo (KO.mp A).1];exact A) (by rw[fo (KO.mp y).1];exact y)
  rw[kO _ _ _ _ f]at k⊢;let(C,l,k):=jT.mp k;let(z,x,rfl):=dr.mp k;by_cases h:c<C.length
  .let v:C[c]?=OP (lo,hi):=by rw[fo h]at hc;exact hc
   let i:C.length=⇑d:=gk f C l;let s:g[c]?=OP e:=by rw[fo ∅]at hm;exact hm
   let(a,b):=xD n r f o l v s hmm h1 h2;rw[QU _ _ h,QU _ _ h];exact(mT<|.inl (a,x,Z,),mT<|.inl (b,x,Z,),)
  .let i:C.length=⇑d:=gk f C l;let u:c=C.length:=by have:=(KO.mp hc).1;rw[br,gR]at this;lia
   subst u;rw[jn (Ab _),Fp]at hc;rw[i,←f,jn<|Ab _,Fp]at hm;cases hc;cases hm;let(D,t):=ok ⇑d p e (by simp) (by rw[←f];simp);let(a,b):=Ce D t hmm h1 h2;rw[Pq _ _ (Ab _),Pq _ _<|Ab _,Fp];calc(mT<|.inr (Z,a,),mT<|.inr (Z,b,),)
def jI:∀(n:Nat){ps:O4 (Int×Int)}{mss:O4 (O4 Int)},⇑ps=n->⇑mss=⇑ps->(∀(j:Nat)(p:Int×Int)(d:O4 Int),ps[j]?=OP p->mss[j]?=OP d->d.Pairwise (· < ·)/\(∀m∈d,p.1<m/\m<=p.2))->(dN ps mss).Nodup
 |0,ps,mss,hn,hl,_=>by
  let:ps=[]:=lq hn;subst this;exact lY.mpr (by simp,md,)
 |n+1,ps,mss,hn,hl,ok=>by
  let(a,p,rfl):∃a p,ps=a++[p]:=(ps.dropLast,ps.getLast (by intro z;rw[z]at hn;simp at hn),(nS _).symm,);let(b,e,rfl):∃b e,mss=b++[e]:=(mss.dropLast,mss.getLast (by intro z;rw[z,hn]at hl;simp at hl),(nS _).symm,);let c:⇑b=⇑a:= ~~~hl
  rw[kO _ _ _ _ c];let(i,f):=ok ⇑a p e (by simp) (by rw[←c];simp);calc yP (jI n (~~~hn) c λj q d h g=>ok j q d (by rw[fo (KO.mp h).1];exact h) (by rw[fo (KO.mp g).1];exact g)) (yO i f)
def om{α c:Type}{f g:α->O4 c}:∀{l:O4 α},(∀a∈l,f a=g a)->l.flatMap f=l.flatMap g
 | [],_=>rfl
 |a :: l,h=>by rw[ri,ri,h a dt,om λb d=>h b (fS _ d)]
def oo{x:Nat}:∀{l:O4 Nat},x∈l->x<=l.sum
 |y :: l,h=>by
  rw[zO];rcases bz.mp h with rfl|h
  .lia
  .let:=oo h;lia
def  pA(B:Blk)(c:Nat)(a:O4 Int):O4 Int:=a.filter λm=>decide<|(B.getD c (0,0)).1<m/\m<=(B.getD c (0,0)).2
def  mu(mss:O4 (O4 Int))(B:Blk):Nat:=((bn ⇑mss).map λc=>⇑(pA B c<|mss.getD c [])).sum
def  tot(mss:O4 (O4 Int)):Nat:=(mss.map (·.length)).sum
def rT{f g:Nat->Nat}:∀n,(∀c,c<n->f c<=g c)->((bn n).map f).sum<=((bn n).map g).sum
 |0,_=>Ab _
 |n+1,h=>by
  rw[jR,fq,fq,oQ,oQ];let a:=rT n λc d=>h c ∅
  let b:=h n ∅;simp;lia
def A1{f g:Nat->Nat}:∀n,(∀c,c<n->f c<=g c)->(∃c,c<n/\f c<g c)->((bn n).map f).sum<((bn n).map g).sum
 |0,_,(c,d,_,)=>OY d<|EB _
 |n+1,h,(c,d,hl,)=>by
  rw[jR,fq,fq,oQ,oQ];let b:=h n ∅;by_cases e:c=n
  .subst e;let a:=rT c λc d=>h c ∅
   simp;lia
  .let a:=A1 n (λc d=>h c ∅) (c,∅,hl,);simp;lia
def filter_le{p q:Int->Bool}(h:∀x,p x=OR->q x=OR):∀l:O4 Int,⇑(l.filter p)<=⇑(l.filter q)
 | []=>Ab _
 |x :: l=>by
  let:=filter_le h l;rw[ro,ro];by_cases e:p x=OR
  .rw[OX e,OX<|h x e,fk,fk];lia
  .rw[OW e];split
   .rw[fk];lia
   .exact this
def filter_lt{p q:Int->Bool}(h:∀x,p x=OR->q x=OR){m:Int}(c:¬ p m=OR)(b:q m=OR):∀{l:O4 Int},m∈l->⇑(l.filter p)<⇑(l.filter q)
 | [],a=>by cases a
 |x :: l,a=>by
  rw[ro,ro];rcases bz.mp a with rfl|a
  .let:=filter_le h l;rw[OW c,OX b,fk];lia
  .let:=filter_lt h c b a;by_cases e:p x=OR
   .rw[OX e,OX<|h x e,fk,fk];lia
   .rw[OW e];split
    .rw[fk];lia
    .exact this
def oq{B:Blk}{c j:Nat}{q:Int×Int}(h:c<B.length):(B.set c q).getD j (0,0)=if j=c then q else B.getD j (0,0):=by
 rw[ab,ab,lX];by_cases e:c=j
 .subst e;rw[OX Z,OX h,OX Z];rfl
 .rw[OW e,OW (λz=>e z.symm)]
def uB{mss:O4 (O4 Int)}{B:Blk}{c:Nat}{lo hi lo' hi' m:Int}{b:O4 Int}(r:⇑mss=B.length)(g:B[c]?=OP (lo,hi))(o:mss[c]?=OP b)(i:m∈b)(n:lo<m)(l:m<=hi)(p:lo<=lo')(q:hi'<=hi)(f:¬ (lo'<m/\m<=hi')):mu mss (B.set c (lo',hi'))<mu mss B:=by
 let a:c<B.length:=(KO.mp g).1;let h:B.getD c (0,0)=(lo,hi):=by rw[ab,g];rfl
 let k:mss.getD c []=b:=by rw[ab,o];rfl
 refine A1 _ (λj s=>?_) (c,∅,?_,)
 .unfold pA;by_cases e:j=c
  .subst e;rw[oq a,OX Z,h];exact filter_le (λx d=>by have:=O1 d;exact OZ (∅,∅,)) _
  .rw[oq a,OW e];exact Ab _
 .unfold pA;rw[oq a,OX Z,h,k];calc filter_lt (λx d=>by have:=O1 d;exact OZ (∅,∅,)) (λz=>f<|O1 z) (OZ (n,l,)) i
def El(mss:O4 (O4 Int))(B:Blk):mu mss B<=tot mss:=by
 unfold mu tot;let e:(mss.map (·.length))=(bn ⇑mss).map λc=>⇑(mss.getD c []):=by
  refine tG λi=>?_
  rw[dy,dy];by_cases h:i<⇑mss
  .rw[KN h,PJ h];simp[h]
  .rw[lg ∅,lg (by simp;lia)];rfl
 rw[e];calc rT _ λc _=>qH _ _
def  Agr(mss:O4 (O4 Int))(B:Blk)(f g:Blk->Pln):Prop:=∀(c:Nat)(lo hi m:Int)(a:O4 Int),B[c]?=OP (lo,hi)->mss[c]?=OP a->m∈a->lo<m->m<=hi->f (B.set c (lo,m-1))=g (B.set c (lo,m-1))/\f (B.set c (m,hi))=g (B.set c (m,hi))
def yQ{mss:O4 (O4 Int)}{B:Blk}{xs:O4 Int}{f g:Blk->Pln}(l:⇑mss=B.length)(h:Agr mss B f g){i:Nat}(hi:i<=⇑mss):eF B mss xs f i=eF B mss xs g i:=by
 unfold eF;refine om λc j=>?_
 rw[iT]at j;unfold oh;refine PH λm e=>?_
 let(e,d):=kl.mp e;let d:=O1 d;let k:B[c]?=OP ((B.getD c (0,0)).1,(B.getD c (0,0)).2):=by rw[ab,KN ∅];rfl
 let(a,b):=h c _ _ m (mss.getD c []) k (by rw[ab,KN ∅];rfl) e d.1 d.2;rw[a,b]
def yR{mss:O4 (O4 Int)}{B:Blk}{xs:O4 Int}{f g:Blk->Pln}{s:SI2}(a:⇑mss=B.length)(h:Agr mss B f g):plB B mss xs f s=plB B mss xs g s:=by
 unfold plB;rw[yQ a h (Ab _)]
def  plW(mss:O4 (O4 Int))(xs:O4 Int)(vd:Blk->SI2):Nat->Blk->Pln
 |0,B=>(0,.say<|vd B)
 |n+1,B=>plB B mss xs (plW mss xs vd n)<|vd B
def ot{mss:O4 (O4 Int)}{xs:O4 Int}{vd:Blk->SI2}:∀(n:Nat)(B:Blk),⇑mss=B.length->mu mss B<=n->plW mss xs vd n B=plW mss xs vd (n+1) B
 |0,B,hl,hm=>by
  show(0,Tq.say<|vd B)=plB B mss xs (plW mss xs vd 0) (vd B);let:eF B mss xs (plW mss xs vd 0) ⇑mss=[]:=by
   unfold eF;refine List.flatMap_eq_nil_iff.mpr λc d=>?_
   rw[iT]at d;unfold oh;let o:⇑(pA B c<|mss.getD c [])=0:=by
    let:=rT (f:=λj=>if j=c then⇑(pA B c<|mss.getD c []) else 0) (g:=λc=>⇑(pA B c<|mss.getD c [])) ⇑mss λj _=>by
     by_cases e:j=c
     .subst e;rw[OX Z];exact Ab _
     .rw[OW e];exact BG _
    let i:⇑(pA B c<|mss.getD c [])<=((bn ⇑mss).map λj=>if j=c then⇑(pA B c<|mss.getD c []) else 0).sum:=by
     have:(if c=c then⇑(pA B c<|mss.getD c []) else 0)∈(bn ⇑mss).map λj=>if j=c then⇑(pA B c<|mss.getD c []) else 0:=dr.mpr (c,iT.mpr d,Z,)
     rw[OX Z]at this;exact oo this
    let p:mu mss B=0:=∅
    unfold mu at p;lia
   rw[show(mss.getD c []).filter (λm=>decide<|(B.getD c (0,0)).1<m/\m<=(B.getD c (0,0)).2)=[]from lq o];rfl
  unfold plB;rw[this]
 |n+1,B,hl,hm=>by
  show plB B mss xs (plW mss xs vd n) (vd B)=plB B mss xs (plW mss xs vd<|n+1) (vd B);refine yR hl λc lo hi m q d l h k i=>?_
  let a:=uB (lo':=lo) (hi':=m-1) hl d l h k i (ca _) ∅ ∅;let b:=uB (lo':=m) (hi':=hi) hl d l h k i ∅ (ca _) ∅;calc(ot n _ (by rw[jB];exact hl) ∅,ot n _ (by rw[jB];exact hl) ∅,)
def  plF(mss:O4 (O4 Int))(xs:O4 Int)(vd:Blk->SI2)(B:Blk):Pln:=plW mss xs vd (tot mss) B
def A2{mss:O4 (O4 Int)}{xs:O4 Int}{vd:Blk->SI2}{B:Blk}(a:⇑mss=B.length):plF mss xs vd B=plB B mss xs (plF mss xs vd) (vd B):=by
 show plW mss xs vd (tot mss) B=_;rw[ot _ _ a (El mss B)];rfl
def rV:∀(ps:O4 Pln)(b:Pln),mnP b ps∈b :: ps
 | [],b=>dt
 |q :: ps,b=>by
  let:=rV ps (if q.1<b.1 then q else b);rw[show mnP b (q :: ps)=mnP (if q.1<b.1 then q else b) ps from Z];rcases bz.mp this with e|e
  .rw[e];split
   .exact fS _ dt
   .exact dt
  .exact fS _<|fS _ e
def kP{mss:O4 (O4 Int)}{xs:O4 Int}{vd:Blk->SI2}:∀(n:Nat)(B:Blk),(plW mss xs vd n B).2.dep<=n
 |0,B=>Ab _
 |n+1,B=>by
  show(plB B mss xs (plW mss xs vd n)<|vd B).2.dep<=n+1;let d:∀p∈eF B mss xs (plW mss xs vd n) ⇑mss,p.2.dep<=n+1:=λp e=>by
   let(c,_,e):=jT.mp e;let(m,_,rfl):=dr.mp e;unfold cmb;split
   .exact Nat.le_succ_of_le<|kP n _
   .show max _ _+1<=n+1;let a:=kP (mss:=mss) (xs:=xs) (vd:=vd) n<|B.set c ((B.getD c (0,0)).1,m-1);let b:=kP (mss:=mss) (xs:=xs) (vd:=vd) n<|B.set c (m,(B.getD c (0,0)).2);lia
  unfold plB;cases h:eF B mss xs (plW mss xs vd n) ⇑mss with
  |nil=>exact BG _
  |cons p f=>rw[h]at d;calc d _<|rV f p
def  BdG{L:Type}:(n:Nat)->Fm L n->Prop
 |0,_=>True
 |n+1,f=>BdS (α:=Fm L n) 30 (BdG n) f
def  ig(mss:O4 (O4 Int))(i:Nat):Nat:=((mss.take i).map λa=>(⇑a+1)*(⇑a+2) / 2).foldl (· * ·) 1
def jd{mss:O4 (O4 Int)}{i:Nat}{a:O4 Int}(e:mss[i]?=OP a):ig mss (i+1)=ig mss i*((⇑a+1)*(⇑a+2) / 2):=by
 unfold ig;rw[take_snoc e,fq,qJ];rfl
def uC(ps:O4 (Int×Int)):∀f,f<=⇑ps->2*⇑(kL ps f)=f*(2*⇑ps+1-f)
 |0,_=>by rw[Nat.zero_mul];rfl
 |f+1,h=>by
  rw[lP,br,n9,Nat.mul_add,uC ps f ∅];let(k,b):∃k,⇑ps=f+1+k:=(⇑ps-(f+1),∅,);rw[b,show 2*(f+1+k)+1-f=f+2*k+3 by lia,show f+1+k-f=k+1 by lia,show 2*(f+1+k)+1-(f+1)=f+2*k+2 by lia];let z1:(f+1)*(f+2*k+2)=f*(f+2*k+2)+(f+2*k+2):=by rw[Nat.add_mul,Nat.one_mul]
  let a:f*(f+2*k+3)=f*(f+2*k+2)+f:=by rw[show f+2*k+3=(f+2*k+2)+1 by lia,Nat.mul_add,Nat.mul_one]
  rw[z1,a];lia
def Cf(p:Int×Int)(a:O4 Int):⇑(ib p a)=(⇑a+1)*(⇑a+2) / 2:=by
 unfold ib;let h:=uC (bj p.1 p.2 a) _<|Ab _;rw[cS]at h⊢;rw[show 2*(⇑a+1)+1-(⇑a+1)=⇑a+2 by lia]at h;lia
def iJ{ps:O4 (Int×Int)}{mss:O4 (O4 Int)}(d:⇑mss=⇑ps):∀i,⇑(dN (ps.take i)<|mss.take i)=ig mss i
 |0=>rfl
 |i+1=>by
  by_cases h:i<⇑ps
  .let c:=KN h;let b:=KN (l:=mss) (i:=i) ∅;rw[lQ c b,rP,Cf,jd b,iJ d i]
  .let a:=iJ d i;let c:ps.take (i+1)=ps.take i:=by rw[lz ∅,lz ∅]
   let b:mss.take (i+1)=mss.take i:=by rw[lz ∅,lz ∅]
   rw[c,b,a];unfold ig;rw[b]
def uD{α:Type}:∀{f:O4 (T3a α)}{lo hi:Int},Ch3 f lo hi->(f.map (·.1)).Pairwise (· < ·)/\∀x∈f.map (·.1),lo<=x
 | [],_,_,_=>⟨.nil,λx a=>by cases a⟩
 |t :: f,lo,hi,h=>by
  let(g,e,d):=h;let(c,b):=uD d;rw[jl];refine(oD.mpr (λx a=>by have:=b x a;lia,c,),λx a=>?_,);rcases bz.mp a with rfl|a
  .lia
  .let:=b x a;lia
def A3{L:Type}:∀{n:Nat}{F:Fm L n}{ps:O4 (Int×Int)}{Ls:O4 (O4 Int)},fT n F ps->(∀c m,mH n F c m->∃l,Ls[c]?=OP l/\m∈l)->(∀l∈Ls,⇑l<=29)->BdG n F
 |0,_,_,_,_,_,_=>trivial
 |n+1,f,ps,Ls,h,hL,h29=>by
  let(a,rfl):∃a:O4 (T3a<|Fm L n),(a:Fm L (n+1))=f:=(f,Z,);let(p,r,rfl,u,k,_,s):ShS (fT n) a ps:=h;refine(?_,λt b=>A3 (Ls:=Ls.tail) (s t b) (λc m d=>?_) λl q=>h29 l<|QW q,)
  .let g:=(uD k).1;let j:⇑(a.tail.map (·.1))<=⇑((Ls[0]?).getD []):=n6 (by rw[List.map_tail];exact g.tail) λx o=>by
    let(t,b,rfl):=dr.mp o;let(l,e,d):=hL 0 t.1 (show D7 a t.1 from(t,b,Z,));rw[e];exact d
   let v:⇑((Ls[0]?).getD [])<=29:=by
    cases e:Ls[0]? with
    |none=>exact BG _
    |some l=>exact h29 l (KP e)
   rw[aa,uP]at j;lia
  .let(l,e,i):=hL (c+1) m (show F4 (λx=>mH n x c) a m from(t,b,d,));calc(l,by rw[qI];exact e,i,)
def  Chg(bs:O4 (Int×Int))(f:O4 Int->SI2)(c:Nat)(m:Int):Prop:=∃(a:O4 Int)(p:Int×Int),InB a bs/\a[c]?=OP m/\bs[c]?=OP p/\p.1<m/\f a≠f (a.set c<|m-1)
def Em{H H':Hp}{P x y:La}{L Lx u:O4 (Pos×Str)}(h:bT H P L)(l:bT H x Lx)(j:bT H y u)(nx:P≠x)(i:P≠y)(k:∀d o,d≠x->d≠y->H d=OP o->H' d=OP o):bT H' P L:=by
 let(f,e,t,c):=h;let(w,q,_):=l;let(v,n,_):=j;calc⟨f,k _ _ nx i e,t,λp m=>(c p m).imp id λ(b,g,s,a,r,)=>(b,g,s,k b _ (λz=>by rw[z,q]at a;cases a) (λz=>by rw[z,n]at a;cases a) a,r,)⟩
def fJ{H:Hp}{P d:La}{L:O4 (Pos×Str)}{f:Lb->Prop}{u:HO}(h:bT H P L)(e:H d=OP (.ext f)):bT (upd H d u) P L:=by
 let(g,b,t,c):=h;calc⟨g,by rw[ar (λz=>by rw[z,e]at b;cases b)];exact b,t,λp j=>(c p j).imp id λ(m,i,l,a,k,)=>(m,i,l,by rw[ar (λz=>by rw[z,e]at a;cases a)];exact a,k,)⟩
def Cg{P:K7}{w:K6}{K:RD}{H:Hp}{d:La}{kvs:O4 (NK×La×V)}{b:O4 Blk}{f:Blk->Pln}{j:Nat}{B:Blk}(h:DcP P w K H d kvs ((b.take j).map λB=>(B,f B)))(n:b.Nodup)(e:b[j]?=OP B):bkK B ∉ kvs.map (·.1):=by
 intro o;let(x,l,p):=dr.mp o;let(i,q):=ik l;let(m,g,k,_):=dC h.vals q;rw[dy]at g;let(C,a,rfl):=KY.mp g;let c:i<j:=by have:=(KO.mp a).1;rw[hZ]at this;lia
 rw[EQ c]at a;rw[p]at k;let:B=C:=rQ k;subst this;let:=(Ri (KO.mp a).1 n).mp<|a.trans e.symm;lia
def Ci{n:Nat}{F:Fm SI2 n}{bs:O4 (Int×Int)}{f:O4 Int->SI2}(j:fT n F bs)(h:∀b,InB b bs->Tel n F b (f b))(c:Nat)(m:Int):mH n F c m↔Chg bs f c m:=by
 rw[v9 j];calc(λ(b,p,x,y,a,g,e,d,i,l,k,)=>(b,p,a,g,e,d,λz=>k ?_,),λ(b,p,a,g,e,d,i,)=>(b,p,_,_,a,g,e,d,h _ a,h _<|xv a g e d,i,),);rw[kI i (h _ a),kI l<|h _<|xv a g e d,z]
def En{p:Int×Int}{a:O4 Int}(e:p.1<=p.2)(g:a.Pairwise (· < ·))(b:∀c∈a,p.1<c/\c<=p.2){q:Int×Int}(h:q∈ib p a):p.1<=q.1/\q.1<=p.2:=by
 let(d,f,h):=jT.mp h;let(i,hi,rfl):=dr.mp h;rw[iT,cS]at f hi;show p.1<=((bj p.1 p.2 a).getD i (0,0)).1/\((bj p.1 p.2 a).getD i (0,0)).1<=p.2;cases i with
 |zero=>rw[mS (BG _)];exact(ca _,e,)
 |succ i =>
  rw[iI ∅];let:a.getD i 0∈a:=by rw[ab,KN ∅];exact oT _
  let:=b _ this;lia
def xE:∀(n:Nat){ps:O4 (Int×Int)}{mss:O4 (O4 Int)}{B:Blk},⇑ps=n->⇑mss=⇑ps->(∀p∈ps,p.1<=p.2)->(∀(j:Nat)(p:Int×Int)(g:O4 Int),ps[j]?=OP p->mss[j]?=OP g->g.Pairwise (· < ·)/\(∀m∈g,p.1<m/\m<=p.2))->B∈dN ps mss->InB (B.map (·.1)) ps
 |0,ps,mss,B,hn,hl,_,_,f=>by
  let:ps=[]:=lq hn;subst this;rw[dV.mp f];exact .nil
 |n+1,ps,mss,B,hn,hl,hle,ok,f=>by
  let(c,p,rfl):∃c p,ps=c++[p]:=(ps.dropLast,ps.getLast (by intro z;rw[z]at hn;simp at hn),(nS _).symm,);let(d,h,rfl):∃d h,mss=d++[h]:=(mss.dropLast,mss.getLast (by intro z;rw[z,hn]at hl;simp at hl),(nS _).symm,);let e:⇑d=⇑c:= ~~~hl
  rw[kO _ _ _ _ e]at f;let(C,t,f):=jT.mp f;let(z,r,rfl):=dr.mp f;let(o,i):=ok ⇑c p h (by simp) (by rw[←e];simp);let a:=xE n (~~~hn) e (λq s=>hle q<|jS _ s) (λj q g l k=>ok j q g (by rw[fo (KO.mp l).1];exact l) (by rw[fo (KO.mp k).1];exact k)) t;let b:=En (hle p<|hE _ dt) o i r;rw[fq];calc InB.snoc a b.1 b.2
def DcP.snoc{P:K7}{w:K6}{K:RD}{H:Hp}{d:La}{kvs:O4 (NK×La×V)}{M:O4 (Blk×Pln)}(h:DcP P w K H d kvs M){b a:La}{B:Blk}{p:Pln}(i:BxA H b B)(g:PlA K H p a):DcP P w K (upd H d<|cg P w d<|kvs++[(bkK B,b,.ref a)]) d (kvs++[(bkK B,b,.ref a)]) (M++[(B,p)]):=by
 let f:bD H (upd H d<|cg P w d<|kvs++[(bkK B,b,.ref a)]):=λx j e=>by rw[ar (λz=>by rw[z,h.at_]at e;cases e)];exact e
 refine(af,λe c=>?_,?_,)
 .rcases gw.mp c with c|c
  .exact kM f<|h.keys e c
  .rw[dV.mp c];exact kM f<|uz i
 .exact Paired.snoc (Paired.mapP h.vals λ_ _ (x,y,z,q,)=>(x,y,z,q.mono f,)) (Z,a,Z,g.mono f,)
def  vdB(rws:O4 Rw)(i:Nat)(o:Int×Int)(B:Blk):SI2:=vdm rws i o (mkg rws (B.map (·.1)))
def  noT:HO->Prop
 | .tbl _=>False
 |_=>True
def  Sf(H H':Hp):Prop:=∀d o,noT o->H d=OP o->H' d=OP o
def Sf.of{H H':Hp}(s:au H H'):Sf H H':=λd o _ e=>s d o e
def Sf.trans{H f c:Hp}(a:Sf H f)(b:Sf f c):Sf H c:=λd o p e=>b d o p<|a d o p e
def Sf.so{H H':Hp}(s:Sf H H'):So H H':=λd o p e=>s d o (by cases o <;> first|trivial|exact OY p (λz=>z)) e
def Sf.tups{H H':Hp}(s:Sf H H'):bD H H':=λd a e=>s d _ trivial e
def Sf.lst{H H':Hp}{a:La}{xs:O4 V}(s:Sf H H')(e:H a=OP (.lst xs)):H' a=OP (.lst xs):=s _ _ trivial e
def Sf.seq{K:RD}{H H':Hp}{a:La}{xs:O4 V}(s:Sf H H')(h:SqL K H a xs):SqL K H' a xs:=h.imp (λh=>h.imp (λe=>s _ _ trivial e) λ(o,e,)=>(o,s _ _ trivial e,)) id
def Sf.but1{H H':Hp}{x:La}{L:O4 (Pos×Str)}(a:bT H x L)(k:∀d o,d≠x->H d=OP o->H' d=OP o):Sf H H':=λd o n e=>k d o (λz=>by let(c,b,_):=a;rw[z,b]at e;cases e;exact n) e
def Sf.but2{H H':Hp}{x y:La}{L M:O4 (Pos×Str)}(f:bT H x L)(c:bT H y M)(k:∀d o,d≠x->d≠y->H d=OP o->H' d=OP o):Sf H H':=λd o n e=>k d o (λz=>by let(b,a,_):=f;rw[z,a]at e;cases e;exact n) (λz=>by let(b,a,_):=c;rw[z,a]at e;cases e;exact n) e
def  Cut(mss:O4 (O4 Int))(B:Blk)(c:Nat)(lo hi m:Int):Prop:=B[c]?=OP (lo,hi)/\(∃a,mss[c]?=OP a/\m∈a)/\lo<m/\m<=hi
def rW{B:Blk}{mss:O4 (O4 Int)}{xs:O4 Int}{pl:Blk->Pln}(g:⇑mss=B.length){p:Pln}:p∈eF B mss xs pl ⇑mss↔∃c lo hi m,Cut mss B c lo hi m/\p=cmb (xs.getD c 0) c m (pl<|B.set c (lo,m-1)) (pl<|B.set c (m,hi)):=by
 unfold eF;rw[jT];constructor
 .rintro⟨c,h,f⟩;rw[iT]at h;let(m,a,rfl):=dr.mp f;let(a,b):=kl.mp a;let b:=O1 b;let d:B[c]?=OP ((B.getD c (0,0)).1,(B.getD c (0,0)).2):=by rw[ab,KN ∅];rfl
  exact(c,_,_,m,(d,(_,by rw[ab,KN ∅];rfl,a,),b.1,b.2,),Z,)
 .rintro⟨c,lo,hi,m,⟨d,⟨l,k,a⟩,j,i⟩,rfl⟩;let e:B.getD c (0,0)=(lo,hi):=by rw[ab,d];rfl
  calc(c,iT.mpr (by rw[g];exact(KO.mp d).1),dr.mpr (m,kl.mpr (by rw[ab,k];exact a,OZ (by rw[e];exact(j,i,)),),by rw[e],),)
def Eo(ps:O4 Pln)(b p:Pln)(h:p∈b :: ps):(mnP b ps).1<=p.1:=by
 let(i,_,hi):=oi ps b;let(j,a):=ik h;calc(hi j p a).1
section
variable{mss:O4 (O4 Int)}{xs:O4 Int}{vd:Blk->SI2}{B:Blk}
def rX(a:⇑mss=B.length):((∀c lo hi m,¬ Cut mss B c lo hi m)/\plF mss xs vd B=(0,.say<|vd B))\/((∃c lo hi m,Cut mss B c lo hi m/\plF mss xs vd B=cmb (xs.getD c 0) c m (plF mss xs vd<|B.set c (lo,m-1)) (plF mss xs vd<|B.set c (m,hi)))/\∀c lo hi m,Cut mss B c lo hi m->(plF mss xs vd B).1<=(cmb (xs.getD c 0) c m (plF mss xs vd<|B.set c (lo,m-1))<|plF mss xs vd<|B.set c (m,hi)).1):=by
 rw[A2 (xs:=xs) (vd:=vd) a];unfold plB;cases h:eF B mss xs (plF mss xs vd) ⇑mss with
 |nil=>exact .inl (λc lo hi m b=>(by have:=(rW (xs:=xs) (pl:=plF mss xs vd) a).mpr (c,lo,hi,m,b,Z,);rw[h]at this;cases this),Z,)
 |cons p d =>
  refine .inr (?_,λc lo hi m b=>Eo d p _ (by rw[←h];exact(rW a).mpr (c,lo,hi,m,b,Z,)),);let:=rV d p;rw[←h]at this;calc(rW a).mp this
def kQ{C:Blk->Prop}(h:∀B,⇑mss=B.length->(∀c lo hi m,Cut mss B c lo hi m->C (B.set c (lo,m-1))/\C (B.set c (m,hi)))->C B):∀(n:Nat)(B:Blk),⇑mss=B.length->mu mss B<=n->C B
 |0,B,hl,hm=>h B hl λc lo hi m (e,(j,i,d,),g,f,)=>by
  let a:=uB (lo':=lo) (hi':=m-1) hl e i d g f (ca _) ∅ ∅;lia
 |n+1,B,hl,hm=>h B hl λc lo hi m (e,(j,i,d,),g,f,)=>by
  let a:=uB (lo':=lo) (hi':=m-1) hl e i d g f (ca _) ∅ ∅;let b:=uB (lo':=m) (hi':=hi) hl e i d g f ∅ (ca _) ∅;calc(kQ h n _ (by rw[jB];exact hl) ∅,kQ h n _ (by rw[jB];exact hl) ∅,)
end
def  _root_._L.Tq.pay(xs:O4 Int):Tq->Int
 | .say _=>0
 | .ask c _ l r=>xs.getD c 0+max (l.pay xs) (r.pay xs)
def  _root_._L.Tq.wlk(a:O4 Int):Tq->SI2
 | .say v=>v
 | .ask c m l r=>if a.getD c 0<m then l.wlk a else r.wlk a
def A4{xs:O4 Int}(h:∀x∈xs,0<=x):∀T:Tq,0<=T.pay xs
 | .say _=>ca _
 | .ask c m l r=>by
  let a:=A4 h l;let b:0<=xs.getD c 0:=by
   rw[ab];cases e:xs[c]? with
   |none=>exact ca _
   |some x=>exact h x (KP e)
  show 0<=xs.getD c 0+max (l.pay xs) (r.pay xs);lia
def wc{xs ys:O4 Int}(h:∀c,xs.getD c 0<=ys.getD c 0):∀T:Tq,T.pay xs<=T.pay ys
 | .say _=>ca _
 | .ask c m l r=>by
  let a:=wc h l;let b:=wc h r;let d:=h c;show xs.getD c 0+max (l.pay xs) (r.pay xs)<=ys.getD c 0+max (l.pay ys) (r.pay ys);lia
section
variable{mss:O4 (O4 Int)}{xs:O4 Int}{f:O4 Int->SI2}
def  Rep(mss:O4 (O4 Int))(B:Blk)(a:O4 Int):Prop:=⇑a=B.length/\∀(c:Nat)(lo hi:Int),B[c]?=OP (lo,hi)->a.getD c 0=lo\/∃b,mss[c]?=OP b/\a.getD c 0∈b/\lo<a.getD c 0/\a.getD c 0<=hi
def Rep.low{B:Blk}{a:O4 Int}{c:Nat}{lo hi m:Int}(h:Rep mss B a)(n:Cut mss B c lo hi m)(r:a.getD c 0<m):Rep mss (B.set c (lo,m-1)) a:=by
 let(f,o,t,s):=n;refine(by rw[jB];exact h.1,λj b d e=>?_,);rw[lX]at e;by_cases z:c=j
 .subst z;rw[OX Z,OX (KO.mp f).1]at e;cases e;rcases h.2 c lo hi f with q|⟨l,k,i,g,p⟩
  .exact .inl q
  .exact .inr (l,k,i,g,∅,)
 .rw[OW z]at e;calc h.2 j b d e
def Rep.upp{B:Blk}{a:O4 Int}{c:Nat}{lo hi m:Int}(h:Rep mss B a)(n:Cut mss B c lo hi m)(r:¬ a.getD c 0<m):Rep mss (B.set c (m,hi)) a:=by
 let(f,o,t,s):=n;refine(by rw[jB];exact h.1,λj b d e=>?_,);rw[lX]at e;by_cases z:c=j
 .subst z;rw[OX Z,OX (KO.mp f).1]at e;cases e;rcases h.2 c lo hi f with q|⟨l,k,i,p,g⟩
  .lia
  .by_cases y:a.getD c 0=m
   .exact .inl y
   .exact .inr (l,k,i,∅,g,)
 .rw[OW z]at e;calc h.2 j b d e
def Rep.ofLow{B:Blk}{a:O4 Int}{c:Nat}{lo hi m:Int}(r:Cut mss B c lo hi m)(h:Rep mss (B.set c (lo,m-1)) a):Rep mss B a/\a.getD c 0<m:=by
 let(o,s,u,t):=r;let f:=(KO.mp o).1;let n:=h.2 c lo (m-1) (by rw[lX,OX Z,OX f]);refine((by have:=h.1;rw[jB]at this;exact this,λj b d e=>?_,),?_,)
 .by_cases z:c=j
  .subst z;rw[o]at e;cases e;rcases n with q|⟨l,k,i,g,p⟩
   .exact .inl q
   .exact .inr (l,k,i,g,∅,)
  .exact h.2 j b d (by rw[lX,OW z];exact e)
 .rcases n with q|⟨l,k,i,g,p⟩ <;> lia
def Rep.ofUpp{B:Blk}{a:O4 Int}{c:Nat}{lo hi m:Int}(u:Cut mss B c lo hi m)(h:Rep mss (B.set c (m,hi)) a):Rep mss B a/\¬ a.getD c 0<m:=by
 let(s,(b,g,f),w,v):=u;let k:=(KO.mp s).1;let r:=h.2 c m hi (by rw[lX,OX Z,OX k]);refine((by have:=h.1;rw[jB]at this;exact this,λj d i e=>?_,),?_,)
 .by_cases z:c=j
  .subst z;rw[s]at e;cases e;rcases r with q|⟨p,o,n,t,l⟩
   .exact .inr (b,g,by rw[q];exact f,∅,∅,)
   .exact .inr (p,o,n,∅,l,)
  .exact h.2 j d i (by rw[lX,OW z];exact e)
 .rcases r with q|⟨p,o,n,t,l⟩ <;> lia
def Rep.lows(B:Blk):Rep mss B (B.map (·.1)):=(aa ..,λc lo hi e=>.inl (by rw[ab,dy,e];rfl),)
def Rep.one{B:Blk}{a:O4 Int}(h:Rep mss B a)(r:∀c lo hi m,¬ Cut mss B c lo hi m):a=B.map (·.1):=by
 refine tG λj=>?_
 by_cases b:j<B.length
 .let e:=KN b;generalize B[j]=p at e;let(lo,hi):=p;let d:=KN (l:=a) (i:=j) (by rw[h.1];exact b);rw[dy,e,d];let s:a.getD j 0=a[j]'(by rw[h.1];exact b):=by rw[ab,d];rfl
  rcases h.2 j lo hi e with q|⟨o,n,k,g,f⟩
  .rw[←s,q];rfl
  .exact OY (e,(o,n,k,),g,f,)<|r j lo hi _
 .rw[lg (by rw[h.1];lia),lg (by rw[aa];lia)]
def  vdF(f:O4 Int->SI2)(B:Blk):SI2:=f (B.map (·.1))
def lR:∀(n:Nat)(B:Blk),⇑mss=B.length->mu mss B<=n->(∀a,Rep mss B a->(plF mss xs (vdF f) B).2.wlk a=f a)/\(plF mss xs (vdF f) B).2.pay xs=(plF mss xs (vdF f) B).1/\∀c m l r,(plF mss xs (vdF f) B).2=.ask c m l r->∃lo hi,Cut mss B c lo hi m :=
 kQ λB E C=>by
  rcases rX (xs:=xs) (vd:=vdF f) E with⟨D,e⟩|⟨⟨c,lo,hi,m,g,e⟩,_⟩
  .rw[e];exact⟨λa h=>by rw[h.one D];rfl,Z,λc m l r z=>by cases z⟩
  .let((w,v,F),u,b2,J):=C c lo hi m g;rw[e];unfold cmb;by_cases j:plF mss xs (vdF f) (B.set c (lo,m-1))=plF mss xs (vdF f) (B.set c (m,hi))
   .rw[OX j];refine(λa h=>?_,v,λk s l r z=>?_,)
    .by_cases d:a.getD c 0<m
     .exact w a<|h.low g d
     .rw[j];exact u a<|h.upp g d
    .let(o,p,b,x,i,q):=F k s l r z;let(t,G,I,H):=g;rw[lX]at b;by_cases y:c=k
     .subst y;rw[OX Z,OX (KO.mp t).1]at b;cases b;exact(lo,hi,t,x,i,∅,)
     .rw[OW y]at b;exact(o,p,b,x,i,q,)
   .rw[OW j];refine(λa h=>?_,?_,λk s l r z=>?_,)
    .show(if a.getD c 0<m then Tq.wlk a _ else Tq.wlk a _)=f a;by_cases d:a.getD c 0<m
     .rw[OX d];exact w a<|h.low g d
     .rw[OW d];exact u a<|h.upp g d
    .show xs.getD c 0+max (Tq.pay xs _) (Tq.pay xs _)=_;rw[v,b2]
    .injection z with z1 A _ _;subst z1 A;calc(lo,hi,g,)
def Ep(x:Int)(c:Nat)(m:Int)(a b:Pln)(d:0<=x):(cmb x c m a b).1<=x+max a.1 b.1:=by
 unfold cmb;split
 .lia
 .exact ca _
def A5{v:SI2}:∀(n:Nat)(B:Blk),⇑mss=B.length->mu mss B<=n->(∀d,Rep mss B d->f d=v)->plF mss xs (vdF f) B=(0,.say v) :=
 kQ λB k j g=>by
  rcases rX (xs:=xs) (vd:=vdF f) k with⟨l,e⟩|⟨⟨c,lo,hi,m,i,e⟩,_⟩
  .rw[e,show vdF f B=v from g _ (Rep.lows B)]
  .let(a,b):=j c lo hi m i;rw[e,a λd h=>g d (Rep.ofLow i h).1,b λd h=>g d (Rep.ofUpp i h).1];unfold cmb;rw[OX Z]
def Cj{xs:O4 Int}(h:∀x∈xs,0<=x)(c:Nat):0<=xs.getD c 0:=by
 rw[ab];cases e:xs[c]? with
 |none=>exact ca _
 |some x=>calc h x (KP e)
def yS(c:O4 Int)(m:Int):(∀x∈c,x<m)\/∃y∈c,m<=y/\∀x∈c,m<=x->y<=x:=by
 induction c with
 |nil=>exact .inl λx b=>by cases b
 |cons a c g =>
  rcases g with h|⟨y,i,j,f⟩
  .by_cases e:a<m
   .exact .inl λx b=>by rcases bz.mp b with rfl|b;calc e;exact h x b
   .exact .inr ⟨a,dt,∅,λx b d=>by
     rcases bz.mp b with rfl|b
     .exact ca _
     .let:=h x b;lia⟩
  .by_cases e:m<=a/\a<y
   .exact .inr ⟨a,dt,e.1,λx b d=>by
     rcases bz.mp b with rfl|b
     .exact ca _
     .let:=f x b d;lia⟩
   .exact .inr ⟨y,fS _ i,j,λx b d=>by
     rcases bz.mp b with rfl|b
     .lia
     .exact f x b d⟩
def iK(s:∀x∈xs,0<=x):∀(T:Tq)(B:Blk),⇑mss=B.length->(∀g,Rep mss B g->T.wlk g=f g)->(plF mss xs (vdF f) B).1<=T.pay xs
 | .say v,B,hl,h=>by
  rw[A5 (v:=v) _ B hl (Ab _) λg j=>(h g j).symm];exact ca _
 | .ask c m l r,B,hl,h=>by
  let D:=Cj s c;show _<=xs.getD c 0+max (l.pay xs) (r.pay xs);let C:∀g,Rep mss B g->(if g.getD c 0<m then l.wlk g else r.wlk g)=f g:=h;let left:(∀g,Rep mss B g->g.getD c 0<m)->(plF mss xs (vdF f) B).1<=xs.getD c 0+max (l.pay xs) (r.pay xs):=λz=>by
   let:=iK s l B hl λg j=>by have:=C g j;rw[OX (z g j)]at this;exact this
   lia
  let right:(∀g,Rep mss B g->¬ g.getD c 0<m)->(plF mss xs (vdF f) B).1<=xs.getD c 0+max (l.pay xs) (r.pay xs):=λz=>by
   let:=iK s r B hl λg j=>by have:=C g j;rw[OW (z g j)]at this;exact this
   lia
  by_cases F:c<B.length
  .let n:=KN F;generalize B[c]=p at n;let(lo,hi):=p;let t:=KN (l:=mss) (i:=c) ∅;generalize mss[c]'∅=ms at t;by_cases Q:m<=lo
   .refine right λg j=>?_
    rcases j.2 c lo hi n with q|⟨_,_,_,q,_⟩ <;> lia
   rcases yS ms m with z|⟨y,M,P,G⟩
   .refine left λg j=>?_
    rcases j.2 c lo hi n with q|⟨u,k,o,I,H⟩
    .lia
    .rw[t]at k;cases k;exact z _ o
   by_cases O:hi<y
   .refine left λg j=>?_
    rcases j.2 c lo hi n with q|⟨u,k,o,I,H⟩
    .lia
    .rw[t]at k;cases k;refine Int.lt_of_not_ge λz=>?_
     have:=G _ o z;lia
   .let w:Cut mss B c lo hi y:=(n,(ms,t,M,),∅,∅,);let a:=iK s l (B.set c (lo,y-1)) (by rw[jB];exact hl) λg j=>by
     let(A,L):=Rep.ofLow w j;let:=C g A;rw[OX]at this
     .exact this
     .rcases A.2 c lo hi n with q|⟨u,k,o,I,H⟩
      .lia
      .rw[t]at k;cases k;refine Int.lt_of_not_ge λz=>?_
       have:=G _ o z;lia
    let b:=iK s r (B.set c (y,hi)) (by rw[jB];exact hl) λg j=>by
     let(A,L):=Rep.ofUpp w j;let:=C g A;rw[OW ∅]at this;exact this
    rcases rX (xs:=xs) (vd:=vdF f) hl with⟨N,_⟩|⟨_,E⟩
    .exact OY w<|N c lo hi y
    .let d:=E c lo hi y w;let e:=Ep (xs.getD c 0) c y (plF mss xs (vdF f)<|B.set c (lo,y-1)) (plF mss xs (vdF f)<|B.set c (y,hi)) D;lia
  .let J:∀g,Rep mss B g->g.getD c 0=0:=λg j=>by rw[ab,lg (by rw[j.1];lia)];rfl
   by_cases K:0<m
   .exact left λg j=>by rw[J g j];exact K
   .exact right λg j=>by rw[J g j];calc K
def A6{ys:O4 Int}(g:∀x∈xs,0<=x)(h:∀c,xs.getD c 0<=ys.getD c 0){B:Blk}(e:⇑mss=B.length):(plF mss xs (vdF f) B).1<=(plF mss ys (vdF f) B).1:=by
 let(a,b,_):=lR (xs:=ys) (f:=f) _ B e<|Ab _;let c:=iK (f:=f) g _ B e a;let d:=wc h (plF mss ys (vdF f) B).2;lia
def lS{n:Int}(a:0<n):∀(ps:O4 Pln)(b:Pln),mnP (b.1*n,b.2) (ps.map λp=>(p.1*n,p.2))=((mnP b ps).1*n,(mnP b ps).2)
 | [],b=>rfl
 |p :: ps,b=>by
  show mnP (if p.1*n<b.1*n then(p.1*n,p.2) else(b.1*n,b.2)) _=_;by_cases h:p.1<b.1
  .rw[OX (Int.mul_lt_mul_of_pos_right h a),lS a ps p,show mnP b (p :: ps)=mnP (if p.1<b.1 then p else b) ps from Z,OX h]
  .rw[OW (λz=>h<|Int.lt_of_mul_lt_mul_right z<|xz a),lS a ps b,show mnP b (p :: ps)=mnP (if p.1<b.1 then p else b) ps from Z,OW h]
def yU{n:Int}(d:0<n)(x:Int)(c:Nat)(m:Int)(a b:Pln):cmb (x*n) c m (a.1*n,a.2) (b.1*n,b.2)=((cmb x c m a b).1*n,(cmb x c m a b).2):=by
 unfold cmb;by_cases h:a=b
 .rw[OX h,OX (by rw[h])]
 .rw[OW h,OW (λz=>h ?_)]
  .let:max (a.1*n) (b.1*n)=max a.1 b.1*n:=by
    rcases Int.le_total a.1 b.1 with q|q
    .rw[Int.max_eq_right q,Int.max_eq_right (wE q<|xz d)]
    .rw[Int.max_eq_left q,Int.max_eq_left (wE q<|xz d)]
   show(x*n+max (a.1*n) (b.1*n),_)=((x+max a.1 b.1)*n,_);rw[this,Int.add_mul]
  .injection z with z1 e;calc Prod.ext (Int.eq_of_mul_eq_mul_right (Pp d) z1) e
def lT{n:Int}(a:0<n){vd:Blk->SI2}:∀(k:Nat)(B:Blk),plW mss (xs.map (· * n)) vd k B=((plW mss xs vd k B).1*n,(plW mss xs vd k B).2)
 |0,B=>by show(0,_)=((0:Int)*n,_);rw[KR];rfl
 |k+1,B=>by
  show plB B mss (xs.map (· * n)) (plW mss (xs.map (· * n)) vd k) (vd B)=((plB B mss xs (plW mss xs vd k)<|vd B).1*n,(plB B mss xs (plW mss xs vd k)<|vd B).2);let e:∀c,(xs.map (· * n)).getD c 0=xs.getD c 0*n:=λc=>by
   rw[ab,ab,dy];cases xs[c]? with
   |none=>show(0:Int)=0*n;rw[KR]
   |some x=>rfl
  let b:eF B mss (xs.map (· * n)) (plW mss (xs.map (· * n)) vd k) ⇑mss=(eF B mss xs (plW mss xs vd k) ⇑mss).map λp=>(p.1*n,p.2):=by
   unfold eF;rw[List.map_flatMap];refine om λc _=>?_
   unfold oh;rw[oY];refine PH λm _=>?_
   rw[e,lT a k,lT a k];exact yU a _ _ _ _ _
  unfold plB;rw[b];cases eF B mss xs (plW mss xs vd k) ⇑mss with
  |nil=>show(0,_)=((0:Int)*n,_);rw[KR]
  |cons p d=>calc lS a d p
def yV{n:Int}(a:0<n){vd:Blk->SI2}(B:Blk):plF mss (xs.map (· * n)) vd B=((plF mss xs vd B).1*n,(plF mss xs vd B).2):=lT a _ B
end
def  MsO(bs:O4 (Int×Int))(f:O4 Int->SI2)(mss:O4 (O4 Int)):Prop:=⇑mss=⇑bs/\∀(c:Nat)(a:O4 Int),mss[c]?=OP a->a.Pairwise (· < ·)/\∀m,m∈a↔Chg bs f c m
def MsO.ok{bs:O4 (Int×Int)}{f:O4 Int->SI2}{mss:O4 (O4 Int)}(h:MsO bs f mss):∀(j:Nat)(p:Int×Int)(a:O4 Int),bs[j]?=OP p->mss[j]?=OP a->a.Pairwise (· < ·)/\(∀m∈a,p.1<m/\m<=p.2):=λj p a d c=>⟨(h.2 j a c).1,λm e=>by
  let(n,l,k,i,b,g,_):=((h.2 j a c).2 m).mp e;rw[d]at b;cases b;exact(g,(k.get j m p i d).2,)⟩
def MsO.uniq{bs:O4 (Int×Int)}{f:O4 Int->SI2}{mss nss:O4 (O4 Int)}(h:MsO bs f mss)(g:MsO bs f nss):mss=nss:=by
 refine tG λj=>?_
 by_cases a:j<⇑bs
 .let c:=KN (l:=mss) (i:=j) (by rw[h.1];exact a);let b:=KN (l:=nss) (i:=j) (by rw[g.1];exact a);rw[c,b];let(k,e):=h.2 j _ c;let(d,b2):=g.2 j _ b;rw[iz k d λx=>(e x).trans (b2 x).symm]
 .rw[lg (by rw[h.1];lia),lg (by rw[g.1];lia)]
structure PlH(cT cN cW:La)(K:RD)(H:Hp)(t cl:La)(bs:Prs)(rws:O4 Rw)(i:Nat)(o:Int×Int)(xs:O4 Int):Prop where
 ex:∃(dv:O4 V)(L:Nat->O4 Int)(kk:Nat)(Ls:O4 (O4 Int)),RfH cT cN cW H t dv bs rws L kk i o/\(∀(c:Nat)(m:Int),Chg bs (λcs=>vdm rws i o<|mkg rws cs) c m->∃l,Ls[c]?=OP l/\m∈l)/\∀l∈Ls,⇑l<=29
 rt:fU K H
 vt:fV K H
 pt:ie K H
 pr:H cl=OP (.lst<|xs.map RV)
 len:⇑xs=⇑bs
 few:∀mss:O4 (O4 Int),MsO bs (λcs=>vdm rws i o<|mkg rws cs) mss->(∀i,ig mss i<=600)/\tot mss<=50
structure DcI(P:K7)(w:K6)(H:Hp)(d:La)(kvs:O4 (NK×La×V))(M:O4 (Blk×Int)):Prop where
 at_:H d=OP (cg P w d kvs)
 keys:kC H kvs
 vals:Paired (λ(e:NK×La×V)(m:Blk×Int)=>e.1=bkK m.1/\e.2.2=.int m.2) kvs M
def  cst(kvs:O4 (NK×La×V))(M:O4 (Blk×Pln)):O4 (NK×La×V):=db (λe m=>(e.1,e.2.1,RV m.2.1)) kvs M
def Er{kvs:O4 (NK×La×V)}{M:O4 (Blk×Pln)}{j:Nat}{e:NK×La×V}{m:Blk×Pln}(b:kvs[j]?=OP e)(a:M[j]?=OP m):(cst kvs M)[j]?=OP (e.1,e.2.1,RV m.2.1):=by
 unfold cst;rw[oE,b,a]
def A7{kvs:O4 (NK×La×V)}{M:O4 (Blk×Pln)}{j:Nat}{p:NK×La×V}(h:(cst kvs M)[j]?=OP p):∃e m,kvs[j]?=OP e/\M[j]?=OP m/\p=(e.1,e.2.1,RV m.2.1):=by
 unfold cst at h;rw[oE]at h;cases h1:kvs[j]? with
 |none=>rw[h1]at h;cases h
 |some e =>
  cases h2:M[j]? with
  |none=>rw[h1,h2]at h;cases h
  |some m=>rw[h1,h2]at h;cases h;calc(e,m,Z,Z,Z,)
def A8{K:RD}{H:Hp}:∀{kvs:O4 (NK×La×V)}{M:O4 (Blk×Pln)},Paired (λ(e:NK×La×V)(m:Blk×Pln)=>e.1=bkK m.1/\∃a,e.2.2=.ref a/\PlA K H m.2 a) kvs M->Paired (λ(e:NK×La×V)(m:Blk×Int)=>e.1=bkK m.1/\e.2.2=.int m.2) (cst kvs M) (M.map λm=>(m.1,m.2.1)):=by
 intro kvs M h;induction h with
 |nil=>exact .nil
 |cons e _ b=>calc .cons (e.1,Z,) b
def yW{α:Type}{R:NK×La×V->Blk×α->Prop}:∀{kvs:O4 (NK×La×V)}{M:O4 (Blk×α)},Paired (λe m=>e.1=bkK m.1/\R e m) kvs M->kvs.map (·.1)=M.map λm=>bkK m.1:=by
 intro kvs M h;induction h with
 |nil=>rfl
 |cons e _ a=>rw[jl,jl,e.1,a]
def keys_nodup{a:O4 Blk}(h:a.Nodup):(a.map bkK).Nodup:=by
 rw[AT]at h⊢;rw[zb];calc h.imp λn z=>n<|rQ z
def yX(p:Int×Int)(a:O4 Int):p∈ib p a:=by
 unfold ib kL;rw[cS];calc jT.mpr (⇑a,iT.mpr<|DN _,?_,);let:=oj (ps:=bj p.1 p.2 a) (f:=⇑a) (n:=⇑a+1-⇑a) (i:=0) ∅;rw[Fq,mS<|BG _,rS (Ab _)]at this;let e:(a.map (· - 1)++[p.2]).getD ⇑a 0=p.2:=by rw[ab,jn (by simp)];simp
 rw[e]at this;calc this
def qE:∀(n:Nat){ps:O4 (Int×Int)}{mss:O4 (O4 Int)},⇑ps=n->⇑mss=⇑ps->ps∈dN ps mss
 |0,ps,mss,hn,hl=>by
  let:ps=[]:=lq hn;subst this;let:mss=[]:=lq hl;subst this;exact dt
 |n+1,ps,mss,hn,hl=>by
  let(a,p,rfl):∃a p,ps=a++[p]:=(ps.dropLast,ps.getLast (by intro z;rw[z]at hn;simp at hn),(nS _).symm,);let(b,d,rfl):∃b d,mss=b++[d]:=(mss.dropLast,mss.getLast (by intro z;rw[z,hn]at hl;simp at hl),(nS _).symm,);let c:⇑b=⇑a:= ~~~hl
  rw[kO _ _ _ _ c];calc jT.mpr (a,qE n (~~~hn) c,dr.mpr (p,yX p d,Z,),)
abbrev Qn:=Int×Int×Bool
def  _root_._L.Tq.pth(a:O4 Int):Tq->O4 Qn
 | .say _=>[]
 | .ask c m l r=>((c:Int),m,OT<|a.getD c 0<m) :: if a.getD c 0<m then l.pth a else r.pth a
def  _root_._L.Tq.ok(n:Nat):Tq->Prop
 | .say _=>True
 | .ask c _ l r=>c<n/\l.ok n/\r.ok n
def rY(d:O4 Int):∀T:Tq,⇑(T.pth d)<=T.dep
 | .say _=>Ab _
 | .ask c m l r=>by
  show⇑(_ :: if d.getD c 0<m then l.pth d else r.pth d)<=max l.dep r.dep+1;rw[fk];let a:=rY d l;let b:=rY d r;split <;> lia
def  kR(b:Bool):Str:=if b then "below" else "above"
def  QnL(H:Hp)(xs:O4 V)(a:O4 Qn):Prop:=aJ xs a λr q=>H r=OP (.tup [.int q.1,.int q.2.1,.str (kR q.2.2)])
def xF{a:O4 Int}{c n:Nat}(b:⇑a=n)(d:c<n):atI (a.map RV) (c:Int)=OP (.int<|a.getD c 0):=bN (by rw[dy,ab,KN ∅];rfl)
def Es{mss:O4 (O4 Int)}{xs:O4 Int}{vd:Blk->SI2}:∀(n:Nat)(B:Blk),⇑mss=B.length->mu mss B<=n->(plF mss xs vd B).2.ok ⇑mss :=
 kQ λB d g=>by
  rcases rX (xs:=xs) (vd:=vd) d with⟨h,e⟩|⟨⟨c,lo,hi,m,f,e⟩,_⟩
  .rw[e];exact trivial
  .let(a,b):=g c lo hi m f;rw[e];unfold cmb;split
   .exact a
   .exact(by rw[d];exact(KO.mp f.1).1,a,b,)
def xG{mss:O4 (O4 Int)}{xs:O4 Int}{vd:Blk->SI2}(B:Blk):(plF mss xs vd B).2.dep<=tot mss:=kP _ _
def  qF(c:Int)(e:O4 Int):Prop:=∃d b a:Int,e=[d,b,a]/\d<=b/\b<=a/\(c%4=3->d=0/\a=2)
def Ga(x y z:Int){k:Int}(b:0<=k)(a:k<3):∃v:Int,atI [RV x,.int y,.int z] k=OP (.int v)/\v∈[x,y,z]:=by
 let:k=0\/k=1\/k=2:=∅
 rcases this with rfl|rfl|rfl
 .exact(x,Z,by simp,)
 .exact(y,Z,by simp,)
 .exact(z,Z,by simp,)
def  wyF(a:O4 Int):Nat:=if (bE a 0 / 4%6).toNat=5/\bE a 5%4=3 then 2 else(bE a 0 / 4%6).toNat
def Ck{k:Int}{a:Str}{i:Nat}(d:0<=k)(c:k<6)(b:atI [Rk "first",.str "only",.str "like",.str "low",.str "high",.str "sum"] k=OP (.str a)) (hw:six[i]?=OP a):i=k.toNat:=by
 let:k=0\/k=1\/k=2\/k=3\/k=4\/k=5:=∅
 rcases this with rfl|rfl|rfl|rfl|rfl|rfl <;> (cases b;exact rH hw Z)
def sne{a b:Str}(h:a≠b):¬ Rk a=Rk b:=λz=>h (by injection z)
def mU{x b:Int}{m:Nat}(a:0<b)(h:b.toNat<=2^m):(x%b).natAbs<2^m:=by
 let d:=Kq x<|Pp a;let c:=Kx x a;lia
def  we(xs:O4 Int)(a:O4 Qn):Int:=a.foldl (λs q=>s+xs.getD q.1.toNat 0) 0
def ox(xs:O4 Int):∀(b:O4 Qn)(a:Int),b.foldl (λs q=>s+xs.getD q.1.toNat 0) a=a+we xs b
 | [],a=>by show a=a+0;lia
 |q :: b,a=>by
  show b.foldl _ (a+xs.getD q.1.toNat 0)=a+b.foldl _ (0+xs.getD q.1.toNat 0);rw[ox xs b,ox xs b];lia
def yY(xs:O4 Int)(a:O4 Qn)(q:Qn):we xs (a++[q])=we xs a+xs.getD q.1.toNat 0:=by unfold we;rw[qJ];rfl
def kS{xs:O4 Int}(h:∀x∈xs,0<=x)(d:O4 Int):∀T:Tq,we xs (T.pth d)<=T.pay xs
 | .say _=>ca _
 | .ask c m l r=>by
  let a:=kS h d l;let b:=kS h d r;show List.foldl _ (0+xs.getD ((c:Int)).toNat 0) (if d.getD c 0<m then l.pth d else r.pth d)<=xs.getD c 0+max (l.pay xs) (r.pay xs);rw[ox,Kn];split <;> lia
def wg{n:Nat}(a:O4 Int):∀T:Tq,T.ok n->∀q∈T.pth a,∃c:Nat,q.1=(c:Int)/\c<n
 | .say _,_,q,h=>by cases h
 | .ask c m l r,(h0,h1,h2,),q,h=>by
  rcases bz.mp h with rfl|h
  .exact(c,Z,h0,)
  .by_cases g:a.getD c 0<m
   .rw[OX g]at h;exact wg a l h1 q h
   .rw[OW g]at h;calc wg a r h2 q h
def  szL:O4 (O4 Nat):=[[7],[4,3],[3,2,2],[2,2,2,2]]
structure FnG(ns:O4 Int)(OV:O4 (O4 Int)):Prop where
 pts:∀ps∈OV,Pts ps
 wrd:∀(j:Nat)(ps:O4 Int),OV[j]?=OP ps->bE ns (1+(0+(j:Int)))%5=1->∃m:Nat,1<=m/\m<=7/\ps=dM (m+1)
 sz:∃qs∈szL,⇑qs=OV.length/\∀(j:Nat)(ps:O4 Int)(q:Nat),OV[j]?=OP ps->qs[j]?=OP q->⇑ps<=q+1
def HJ(x y z u:Int){k:Int}(b:0<=k)(a:k<4):∃v:Int,atI [RV x,.int y,.int z,.int u] k=OP (.int v)/\v∈[x,y,z,u]:=by
 let:k=0\/k=1\/k=2\/k=3:=∅
 rcases this with rfl|rfl|rfl|rfl
 .exact(x,Z,by simp,)
 .exact(y,Z,by simp,)
 .exact(z,Z,by simp,)
 .exact(u,Z,by simp,)
def rZ:∀qs∈szL,1<=⇑qs/\⇑qs<=4/\∀q∈qs,2<=q/\q<=7:=⋯
def yZ(x:Int):x%10^(45:Int).toNat%5=x%5:=Int.emod_emod_of_dvd x<|~~~0
structure Fnc(c:Int)(i:Nat)(fs:O4 Int):Prop where
 len:⇑fs=i+1
 asc:fs.Pairwise (· < ·)
 wrd:c%5=1->fs=dM (i+1)
def Fnc.put{c:Int}{i:Nat}{fs:O4 Int}(h:Fnc c i fs){l g:Int}(a:fs[i]?=OP l)(n:0<=g)(k:c%5=1->g=0):Fnc c (i+1) (fs++[l+g+1]):=by
 refine(by rw[br,h.len];rfl,?_,λz=>?_,)
 .rw[oR];calc(h.asc,uH _ _,λx f y d=>?_,);rw[dV.mp d];let(j,b):=ik f;let m:=(KO.mp b).1;rw[h.len]at m;by_cases q:j=i
  .rw[q,a]at b;cases b;lia
  .let:=xc h.asc b a ∅;lia
 .let e:=h.wrd z;rw[uh,←e,k z];let:l=(i:Int):=by
   rw[e]at a;unfold dM at a;rw[dy,PJ ∅]at a;let a:(0:Int)+(i:Int)=l:=bm a;lia
  rw[this]
  congr 2
  lia
def pw2:∀k:Nat,k<=12->1<=k->1<=(1:Int)*2^k-1/\(1:Int)*2^k-1<1073741824:=⋯
def sd{c H':Hp}{a:La}{o:HO}(s:au (hide c a) H'):au (hide c a) (upd H' a o):=λb u e=>by
 let n:b≠a:=λz=>by rw[z]at e;unfold hide at e;rw[OX Z]at e;cases e
 rw[ar n];calc s _ _ e
def  mI(p:O4 Nat):O4 Key:=p.map λk:Nat=>(Pk (k:Int):Key)
def xH(p:O4 Nat):(mI p).map kV=vN p:=by unfold mI vN;rw[oY];rfl
def  bmC(c:O4 Int)(a:O4 (O4 Int×Int)):O4 (O4 Int×Int):=a.map λb=>(b.1,c.getD b.2.toNat 0)
def  PtT(H:Hp)(xs:O4 V)(a:O4 (O4 Nat)):Prop:=aJ xs a λr p=>H r=OP (.tup<|vN p)
def  oz(a:O4 Int):O4 Int:=[a.getD 0 0-20,0,0,0,a.getD 2 0+10^(9:Int).toNat]
def wj{c:O4 (O4 Nat)}{n:Nat}(h:c.Nodup):(grow c n).Nodup:=by
 refine gG h (λp _=>?_) λp _ q _ d x g f=>?_
 .rw[AT,zb];exact GT.imp λ{a b} i z=>by have:=QH z;injection this with this;lia
 .let(a,_,rfl):=dr.mp g;let(b,_,e):=dr.mp f;calc d (Pt e Z).symm
def uE(a:O4 Nat):(dj a).Nodup:=by
 let c:∀(a:O4 Nat)(A:O4 (O4 Nat)),A.Nodup->(a.foldl grow A).Nodup:=by
  intro a;induction a with
  |nil=>intro A h;exact h
  |cons n a b=>intro A h;exact b _<|wj h
 calc c a _<|lY.mpr (by simp,md,)
def A9{p q:O4 Nat}(h:mI p=mI q):p=q:=by
 unfold mI at h;calc List.map_inj_right (f:=λk:Nat=>(Pk (k:Int):Key)) (λa b z=>?_) |>.mp h;let z:(a:Int)=(b:Int):=Sum.inl.inj z;lia
def Cm{kvs:O4 (O4 Key×V)}{k:O4 Key}(h:∀kv∈kvs,kv.1≠k):nU kvs k=none:=by
 unfold nU;rw[List.find?_eq_none.mpr λx a z=>h x a (O1 z)];rfl
def Et{c:O4 Int}{a:O4 (O4 Int×Int)}{k:Nat}{b:O4 Int×Int}(e:a[k]?=OP b):(bmC c a).getD k ([],0)=(b.1,c.getD b.2.toNat 0):=by
 unfold bmC;rw[ab,dy,e];rfl
def se(b:O4 Int)(a:O4 (O4 Int×Int)):⇑(bmC b a)=⇑a:=aa ..
def  cdK(bs:O4 (O4 Int×Int))(p:O4 Nat)(k:Nat):O4 Int:=cdF bs<|(bn k).filter λe=>rN p<|bs.getD e ([],0)
def Ba(bs:O4 (O4 Int×Int))(p:O4 Nat)(k:Nat):cdK bs p (k+1)=cdK bs p k++(if rN p (bs.getD k ([],0))=OR then[(bs.getD k ([],0)).2] else[]):=by
 unfold cdK cdF;rw[jR,ny,fq,ro];split <;> rfl
def xI(bs:O4 (O4 Int×Int))(p:O4 Nat)(k:Nat):⇑(cdK bs p k)<=k:=by
 unfold cdK cdF;rw[aa];calc BK (qH _ _) (by rw[jU];exact Ab _)
def xJ{p:O4 Nat}{m:O4 Int}{x:Int}:⇑((bn ⇑p).filter λk=>bJ (m.getD k 0)<|p.getD k 0)=⇑p↔rN p (m,x)=true:=by
 let h:=List.length_filter_eq_length_iff (p:=λk=>bJ (m.getD k 0)<|p.getD k 0) (l:=bn ⇑p);rw[jU]at h;rw[h];unfold rN;rw[jP]
def Gb{c:Int}{a:O4 Int}(h:qF c a):o0 (oz a)<=o4 (oz a):=by
 let(d,e,b,rfl,g,f,_):=h;show d-20<=b+10^(9:Int).toNat;let:(0:Int)<10^(9:Int).toNat:=p10 _;lia
def Bb{α:Type}{xs ys:O4 V}{ps f:O4 α}{P:La->α->Prop}(b:aJ xs ps P)(g:aJ ys f P):aJ (xs++ys) (ps++f) P:=by
 refine(by rw[br,br,b.1,g.1],λj a e=>?_,);by_cases h:j<⇑ps
 .rw[fo h]at e;let(r,d,c):=b.2 j a e;exact(r,by rw[fo (by rw[b.1];exact h)];exact d,c,)
 .rw[jn ∅]at e;let(r,d,c):=g.2 _ a e;calc(r,by rw[jn (by rw[b.1];lia),b.1];exact d,c,)
def  dk:O4 Str:=[s!"a",s!"b",s!"c",s!"d",s!"e",s!"f",s!"g"]
def Bc:∀m:Nat,1<=m->m<=7->Good (dk.take m):=λm b a=>by
 let:m=1\/m=2\/m=3\/m=4\/m=5\/m=6\/m=7:=∅
 rcases this with rfl|rfl|rfl|rfl|rfl|rfl|rfl <;> calc(⋯,⋯,~~~0,~~~0,)
def Cn(m:Nat)(h:m<=7):jg (dk.map Rk) OQ (OP (m:Int))=(dk.take m).map Rk:=by
 rw[xB _ (by rw[aa];exact h),List.map_take]
def xK{m:Nat}(h:m<=7):⇑(dk.take m)=m:=by rw[hZ];calc Qj h
def  wm:O4 Str:=[s!"x",s!"y",s!"z"]
def Bd:Good wm:=(⋯,⋯,~~~0,~~~0,)
def  oW(b a:O4 Int):O4 Int:=if bE b 5%4=3 then[0,0,0,0,2]else oz a
def Co:∀m:Nat,1<=m->m<=4->(∀z∈s!"t" :: dk.take m,isw z=OR)/\(s!"t" :: dk.take m).Nodup:=λm b a=>by
 let:m=1\/m=2\/m=3\/m=4:=∅
 rcases this with rfl|rfl|rfl|rfl <;> calc(~~~0,~~~0,)
def Gd{b a:O4 Int}(h:qF (bE b 5) a):o0 (oW b a)<=o4 (oW b a)/\∀x∈a,o0 (oW b a)<=x/\x<=o4 (oW b a):=by
 let(d,f,c,rfl,k,j,g):=h;let i:(0:Int)<10^(9:Int).toNat:=p10 _;unfold oW;split
 .rename_i z
  let(rfl,rfl):=g z;calc(⋯,λx e=>?_,);let:x=0\/x=f\/x=2:= ~~~e
  show(0:Int)<=x/\x<=2;lia
 .refine(by show d-20<=c+10^(9:Int).toNat;lia,λx e=>?_,);let:x=d\/x=f\/x=c:= ~~~e
  show d-20<=x/\x<=c+10^(9:Int).toNat;lia
def Eu{d:O4 (O4 Int)}{g:O4 (O4 Int×Int)}{rws:O4 Rw}{i:Nat}{o:O4 Int}(f:∀ps∈d,Pts ps)(L:⇑rws=⇑g)(w:∀(k:Nat)(b:O4 Int×Int)(x:Rw),g[k]?=OP b->rws[k]?=OP x->GrR d b x)(M:∀b∈g,⇑b.1=⇑d){c:Nat}{m:Int}(h:Chg (d.map λps=>(loP ps,hiP ps)) (λr=>vdm rws i (o0 o,o4 o)<|mkg rws r) c m):∃ps,d[c]?=OP ps/\m∈eO ps:=by
 let(r,p,J,O,K,C,I):=h;rw[dy]at K;let(ps,e,rfl):=KY.mp K;let(n,S,t,s,B):=F6 f J;let W:c<⇑d:=(KO.mp e).1;let E:=KN (l:=n) (i:=c) ∅;let(u,v,A,D,V,T):=B c ps _ m e E O;calc(ps,e,?_,);let C:loP ps<m:=C;by_cases z:u=m
 .subst z;let N:=(KO.mp D).1;generalize n[c]'∅=a at A D E N;cases a with
  |zero=>exact OY C (by unfold loP;rw[ab,A];exact Int.lt_irrefl _)
  |succ a=>exact AU A ∅
 .exfalso;apply I
  let R:AR d n (r.set c<|m-1):=by
   refine(t,by rw[jB];exact s,λj H Q P G F q=>?_,);rw[lX]at q;by_cases y:c=j
   .subst y;rw[OX Z,OX ∅]at q;cases q;rw[e]at G;cases G;rw[E]at F;cases F;exact(u,v,A,D,∅,∅,)
   .rw[OW y]at q;exact B j H Q P G F q
  show vdm rws i (o0 o,o4 o) (mkg rws r)=vdm rws i (o0 o,o4 o) (mkg rws<|r.set c<|m-1);rw[AS f L w M (t,s,B,),AS f L w M R]
def Be{a b:Nat}(h:a<=b):(a+1)*(a+2) / 2<=(b+1)*(b+2) / 2:=Nat.div_le_div_right<|ET ∅ ∅
def lU{mss nss:O4 (O4 Int)}(c:⇑mss=⇑nss)(h:∀(j:Nat)(b xs:O4 Int),mss[j]?=OP b->nss[j]?=OP xs->⇑b<=⇑xs):∀i,ig mss i<=ig nss i
 |0=>Ab _
 |i+1=>by
  by_cases hi:i<⇑mss
  .let e:=KN hi;let d:=KN (l:=nss) (i:=i) ∅;rw[jd e,jd d];exact ET (lU c h i)<|Be<|h i _ _ e d
  .let a:=lU c h i;unfold ig at a⊢;rw[lz ∅,lz ∅]at a⊢;calc a
def uF:∀{mss nss:O4 (O4 Int)},⇑mss=⇑nss->(∀(j:Nat)(c xs:O4 Int),mss[j]?=OP c->nss[j]?=OP xs->⇑c<=⇑xs)->tot mss<=tot nss
 | [],[],_,_=>Ab _
 | [],_ :: _,h,_=>by simp at h
 |_ :: _,[],h,_=>by simp at h
 |m :: mss,n :: nss,hl,h=>by
  let a:=uF (mss:=mss) (nss:=nss) (~~~hl) λj c xs e d=>h (j+1) c xs e d
  let b:=h 0 m n Z Z;unfold tot at a⊢;rw[jl,jl,zO,zO];lia
def  szN(a:O4 Nat):O4 (O4 Int):=a.map λq=>AC (q-1) 0
def wo:∀qs∈szL,(∀i,i<=4->ig (szN qs) i<=600)/\tot (szN qs)<=50:=⋯
def Cp{a:O4 Nat}(h:a∈szL)(i:Nat):ig (szN a) i<=600:=by
 by_cases hi:i<=4
 .exact(wo a h).1 i hi
 .let c:=(rZ a h).2.1;let b:⇑(szN a)=⇑a:=aa ..;let:=(wo a h).1 4<|Ab _;unfold ig at this⊢;rw[lz ∅]at this⊢;calc this
def Ew:∀a∈szL,∃b,b<=13/\(∀q∈a,q+1<=b)/\(b+1)^⇑a<=300:=by
 intro a h;simp only[szL,bz,jQ,or_false]at h;rcases h with rfl|rfl|rfl|rfl
 .exact(8,⋯,)
 .exact(5,⋯,)
 .exact(4,⋯,)
 .exact(3,⋯,)
def Ex{cT L J:La}{K:RD}{H:Hp}{t Z cl:La}{ns:O4 Int}{a:O4 (O4 Int)}{d:O4 Int}{rws:O4 Rw}{f:O4 (O4 Int×Int)}{nm Y:Str}{zs:O4 Str}{I:O4 V}{D:Nat}{xs:O4 Int}(hT:rJ (λ_=>True) cT H t rws nm Y Z zs I)(N:six[D]?=OP Y)(S:aJ I (a.map λps=>(loP ps,hiP ps)) (Dom L J H))(P:Dom L J H Z (o0 d,o4 d))(u:⇑rws=⇑f)(hok:∀w∈rws,mw (a.map λps=>(loP ps,hiP ps)) (o0 d,o4 d) w)(B:∀(k:Nat)(b:O4 Int×Int)(x:Rw),f[k]?=OP b->rws[k]?=OP x->GrR a b x)(hb:∀b∈f,⇑b.1=⇑a)(p:FnG ns a)(Eg:o0 d<=o4 d)(X:⇑f<=60)(rt:fU K H)(vt:fV K H)(pt:ie K H)(T:H cl=OP (.lst<|xs.map RV))(M:⇑xs=⇑a):PlH cT L J K H t cl (a.map λps=>(loP ps,hiP ps)) rws D (o0 d,o4 d) xs:=by
 let(g,C,O,v):=p.sz;let(_,q4,q7):=rZ g C;let(kk,a0,k1,k3):=Ew g C;let y:∀ps∈a,⇑ps<=kk:=λps h=>by
  let(j,ej):=ik h;let eq:=KN (l:=g) (i:=j) (by have:=(KO.mp ej).1;lia);let:=v j ps _ ej eq;let:=k1 _<|KP eq;lia
 let hR:=Ef hT S P N u hok B hb p.pts Eg ∅ X y (by rw[←O];exact k3) ∅;let A:∀{c:Nat}{m:Int},Chg (a.map λps=>(loP ps,hiP ps)) (λcs=>vdm rws D (o0 d,o4 d)<|mkg rws cs) c m->∃ps,a[c]?=OP ps/\m∈eO ps:=λh=>Eu p.pts u B hb h
 refine((I,_,kk,a.map eO,hR,λc m h=>?_,λl hl=>?_,),rt,vt,pt,T,by rw[M,aa],λr o=>?_,)
 .let(ps,e,o):=A h;exact(eO ps,by rw[dy,e];rfl,o,)
 .let(ps,Ge,rfl):=dr.mp hl;let:=(uy<|p.pts ps Ge).2.2;let:=y ps Ge;lia
 .let Q:=o.1;rw[aa]at Q;let z:∀(j:Nat)(n xs:O4 Int),r[j]?=OP n->(szN g)[j]?=OP xs->⇑n<=⇑xs:=λj n xs G F=>by
   unfold szN at F;rw[dy]at F;let(q,eq,rfl):=KY.mp F;let hj:=(KO.mp G).1;let E:=KN (l:=a) (i:=j) ∅;let h1:=v j _ q E eq;let h2:⇑n<=⇑(eO<|a[j]'∅):=n6 (o.2 j n G).1 λx hx=>by
    let(ps,e,R):=A<|((o.2 j n G).2 x).mp hx;rw[E]at e;cases e;exact R
   let h3:=(uy<|p.pts _<|KP E).2.2;rw[oI];lia
  let s:⇑r=⇑(szN g):=by unfold szN;rw[aa];lia
  calc(λi=>BK (lU s z i)<|Cp C i,BK (uF s z) (wo g C).2,)
def PlH.mv{g j f:La}{K:RD}{H H':Hp}{t cl d:La}{bs:Prs}{rws:O4 Rw}{i:Nat}{o:Int×Int}{xs c:O4 Int}(h:PlH g j f K H t cl bs rws i o xs)(so:So H H')(l:fU K H')(k:fV K H')(pt:ie K H')(e:H' d=OP (.lst<|c.map RV))(n:⇑c=⇑xs):PlH g j f K H' t d bs rws i o c:=by
 let(q,L,m,r,p,a,b):=h.ex;calc((q,L,m,r,p.so so,a,b,),l,k,pt,e,by rw[n];exact h.len,h.few,)
def wq{xs:O4 Int}{M:Int}(f:0<=M)(h:∀x∈xs,x<=M):∀T:Tq,T.pay xs<=(T.dep:Int)*M
 | .say _=>by show(0:Int)<=((0:Nat):Int)*M;rw[show((0:Nat):Int)=0 from Z,KR];exact ca _
 | .ask c m l r=>by
  let a:=wq f h l;let b:=wq f h r;let d:xs.getD c 0<=M:=by
   rw[ab];cases e:xs[c]? with
   |none=>exact f
   |some x=>exact h x (KP e)
  let up:∀{k n:Nat},k<=n->(k:Int)*M<=(n:Int)*M:=λ{k n} g=>wE ∅ f
  let j:=up (show l.dep<=max l.dep r.dep by lia);let i:=up (show r.dep<=max l.dep r.dep by lia);show xs.getD c 0+max (l.pay xs) (r.pay xs)<=((max l.dep r.dep+1:Nat):Int)*M;rw[show((max l.dep r.dep+1:Nat):Int)=((max l.dep r.dep:Nat):Int)+1 by lia,Int.add_mul,Int.one_mul];lia
def DcI.so{P:K7}{w:K6}{H H':Hp}{d:La}{kvs:O4 (NK×La×V)}{M:O4 (Blk×Int)}(h:DcI P w H d kvs M)(s:So H H'):DcI P w H' d kvs M:=(s _ _ trivial h.at_,eA s.tups h.keys,h.vals,)
def DcI.get{P:K7}{w:K6}{H:Hp}{d:La}{kvs:O4 (NK×La×V)}{M:O4 (Blk×Int)}(h:DcI P w H d kvs M){B:Blk}{x:Int}(a:(B,x)∈M):∃c,(bkK B,c,RV x)∈kvs:=by
 let f:∀{kvs:O4 (NK×La×V)}{M:O4 (Blk×Int)},Paired (λ(e:NK×La×V)(m:Blk×Int)=>e.1=bkK m.1/\e.2.2=.int m.2) kvs M->(B,x)∈M->∃c,(bkK B,c,RV x)∈kvs:=by
  intro kvs M h;induction h with
  |nil=>intro a;cases a
  | @cons e m es ms he _ ih =>
   intro a;rcases bz.mp a with rfl|a
   .let(k,c,v):=e;let(i,g):=he;cases i;cases g;exact(c,dt,)
   .let(c,b):=ih a;exact(c,fS _ b,)
 calc f h.vals a
section
end
open Lean in
set_option hygiene false in
local macro_rules(kind:=Lean.Parser.Command.declaration)|s=>do
 let d:=s[1]
 if d.getKind==``Lean.Parser.Command.inductive&&d[2][0].getNumArgs==0&&d[2][1].getNumArgs==0 then
  let t←`(inductive A(K:RD)(Y:AD)(vs:O4 V)(H:Hp)(Q:VK)(e_:XK):Prop)
  return s.setArg 1 (d.setArg 2 t.raw[1][2])
 Macro.throwUnsupported
inductive oy
 |mk (a:La)(xs:O4 V)(ps:O4 (Int×Int))(n:Int)(_:vs=[.ref a,.int n])(_:SqL K H a xs)(_:PL H xs ps)(_:Q (.bl<|inP ps n) H)
inductive oA
 |mk (a:La)(xs:O4 V)(R:O4 (Int×Int))(lo hi:Int)(_:vs=[.ref a,.int lo,.int hi])(_:SqL K H a xs)(_:PL H xs R)(_:⇑xs<=400)(_:∀(r:La)(H':Hp)(es:O4 Int),au H H'->H r=OQ->H' r=OP (.lst<|es.map RV)->es=(ends R).filter (λt=>decide (lo<t) && decide (t<=hi))->Q (.ref r) H')
inductive eW
 |mk (a:La)(ms L:O4 Int)(lo hi:Int)(_:vs=[.int lo,.int hi,.ref a])(_:SqL K H a (ms.map RV))(_:⇑ms<=400)(_:L.length<64)(_:(∀m∈ms,lo<m->m<=hi->m∈L))(_:∀(r:La)(H':Hp)(cs:O4 Int)(ts:O4 V),au H H'->H r=OQ->H' r=OP (.lst ts)->PL H' ts (bj lo hi cs)->cs.Pairwise (· < ·)->(∀c,c∈cs↔(c∈ms/\lo<c/\c<=hi))->⇑cs<64->Q (.ref r) H')
inductive je
 |mk (L:Type)(_:DecidableEq L)(A:Lfp K L)(n:Nat)(a:La)(xs:O4 V)(ts:O4 (T3a<|Fm L n))(_:vs=[.ref a])(_:n<=6)(_:H a=OP (.lst xs))(_:FmL (FmV A H n) H ts xs)(_:⇑ts<=900)(_:∀(r:La)(H':Hp),au H H'->FmV A H' (n+1) (lH ts) (.ref r)->Q (.ref r) H')
inductive eP
 |mk (a:La)(xs:O4 V)(ts:O4 Tri)(c:Int)(j:Nat)(t:Tri)(_:vs=[.ref a,.int c])(_:SqT K H a xs)(_:T3 H xs ts)(_:At ts c j t)(_:Q t.2.2 H)
inductive fK
 |mk (a:La)(as:O4 La)(xss:O4 (O4 Int))(L:O4 Int)(_:vs=[.ref a])(_:H a=OP (.lst<|as.map RZ))(_:MLs H as xss)(_:⇑xss.flatten<=1000)(_:L.length<64)(_:(∀x∈xss.flatten,x∈L))(_:∀(l:La)(cs:O4 Int)(H':Hp),au H H'->H l=OQ->H' l=OP (.lst<|cs.map RV)->cs.Pairwise (· < ·)->(∀x,x∈cs↔x∈xss.flatten)->Q (.ref l) H')
inductive lV
 |mk (b:La)(B:O4 (Int×Int))(_:vs=[.ref b])(_:BxA H b B)(_:B.length<=6)(_:∀(l:La)(H':Hp),au H H'->H l=OQ->H' l=OP (.lst ((B.map (·.1)).map RV))->Q (.ref l) H')
inductive gH
 |mk (z g:Str)(_:vs=[.str z,.str g])(_:Q (.bl<|sY z g) H)
inductive fL
 |mk (i:Int)(_:vs=[.int i])(_:Q (.bl OR) H)
inductive dW
 |mk (p r:La)(xs ys:O4 V)(_:vs=[.ref p,.ref r])(_:SqL K H p xs)(_:SqL K H r ys)(_:1<=⇑xs)(_:⇑xs<=4)(_:⇑ys<=200)(_:Q .non H)
inductive jJ
 |mk (cl:La)(xs:O4 V)(w:Rw)(_:vs=[.ref cl,.int w.2])(_:H cl=OP (.lst xs))(_:CL NT H xs w.1)(_:⇑w.1<=100)(_:∀(r:La)(H':Hp),au H H'->H r=OQ->jH (λa=>H a=OQ) H' r w->Q (.ref r) H')
inductive cE
 |mk (t:La)(dv:O4 V)(bs:Prs)(rws:O4 Rw)(_:vs=[.ref t])(_:TD Y.k Y.i Y.j H t dv bs rws)(_:⇑bs<=100)(_:∀(l:La)(ys:O4 V)(H':Hp),au H H'->H l=OQ->H' l=OP (.lst ys)->PL H' ys bs->Q (.ref l) H')
inductive jK
 |mk (a l x y:La)(c:Nat)(cut:Int)(cs:O4 Int)(_:vs=[.ref a,.ref l])(_:H a=OP (.tup [.str jh,.int c,.int cut,.ref x,.ref y]))(_:H l=OP (.lst<|cs.map RV))(_:c<⇑cs)(_:Q (.str<|kR<|OT<|cs.getD c 0<cut) H)
inductive jL
 |mk (a x y:La)(c cut:Int)(b:Bool)(_:vs=[.ref a,.str (kR b)])(_:H a=OP (.tup [.str jh,.int c,.int cut,.ref x,.ref y]))(_:Q (if b then .ref x else .ref y) H)
inductive gJ
 |mk (b p:La)(B:O4 (Int×Int))(c:Nat)(lo hi:Int)(_:vs=[.ref b,.int c,.ref p])(_:BxA H b B)(_:H p=OP (.tup [.int lo,.int hi]))(_:c<B.length)(_:B.length<=100)(_:∀(r:La)(H':Hp),au H H'->BxA H' r (B.set c (lo,hi))->Q (.ref r) H')
inductive dX
 |mk (ml:La)(as:O4 La)(mss:O4 (O4 Int))(_:vs=[.ref ml])(_:H ml=OP (.lst<|as.map RZ))(_:MLs H as mss)(_:(∀ms∈mss,⇑ms<=29))(_:ig mss ⇑mss<=600)(_:(∀i,ig mss i<=600))(_:Q .non H)
inductive iN
 |mk (l:La)(xs:O4 V)(ps:O4 (Int×Int))(_:vs=[.ref l])(_:H l=OP (.lst xs))(_:PL H xs ps)(_:⇑ps<=30)(_:∀(D:La)(ys:O4 V)(H':Hp),au H H'->H D=OQ->H' D=OP (.lst ys)->PL H' ys (kL ps ⇑ps)->Q (.ref D) H')
inductive fg
 |mk (bl_ pl:La)(us xs:O4 V)(Bs:O4 (List<|Int×Int))(ps:O4 (Int×Int))(_:vs=[.ref bl_,.ref pl])(_:H bl_=OP (.lst us))(_:BkL H us Bs)(_:(∀B∈Bs,B.length<=5))(_:H pl=OP (.lst xs))(_:PL H xs ps)(_:Bs.length*⇑ps<=1000)(_:∀(D:La)(ys:O4 V)(H':Hp),au H H'->H D=OQ->H' D=OP (.lst ys)->BkL H' ys (wid Bs ps)->Q (.ref D) H')
inductive dE
 |mk (a:La)(ns:O4 Int)(k:Int)(_:vs=[.ref a,.int k])(_:SqL K H a (ns.map RV))(_:0<=k)(_:Q (.int<|bE ns k) H)
inductive gK
 |mk (l:La)(ps:O4 Int)(m:Int)(_:vs=[.int m,.ref l])(_:H l=OP (.lst<|ps.map RV))(_:Pts ps)(_:0<=m)(_:∀(sp:La)(qs:Prs)(H':Hp),au H H'->SpA (λa=>H a=OQ) H' sp qs->(∀p∈qs,loP ps<=p.1/\p.2<=hiP ps)->SpG ps m (⇑ps-1) qs->Q (.ref sp) H')
inductive fh
 |mk (a:La)(ns:O4 Int)(_:vs=[.ref a])(_:SqL K H a (ns.map RV))(_:⇑ns<=63)(_:∀(l:La)(ms:O4 Int)(H':Hp),au H H'->H l=OQ->H' l=OP (.lst<|ms.map RV)->⇑ms<=12->Q (.ref l) H')
inductive jM
 |mk (cl:La)(wy:Str)(i:Nat)(cs:O4 Int)(lo hi:Int)(_:vs=[.str wy,.ref cl,.int lo,.int hi])(_:H cl=OP (.lst<|cs.map RV))(_:⇑cs<=60)(_:six[i]?=OP wy)(_:lo<=hi)(_:∀(r:La)(H':Hp),au H H'->H' r=OP (.tup<|tp<|ver (wf i lo hi) cs)->Q (.ref r) H')
inductive bV
 |mk (x dx:La)(lo hi:Int)(_:vs=[.ref x,.int lo,.int hi])(_:H x=OP (.ins Y.i dx []))(_:Q .non (mkd Y.i H x dx lo hi))
inductive cn
 |mk (x dx:La)(lo hi:Int)(_:vs=[.ref x,.int lo,.int hi])(_:H x=OP (.ins Y.j dx []))(_:Q .non (mkd Y.j H x dx lo hi))
inductive cJ
 |mk (x dx:La)(z:Str)(_:vs=[.ref x,.str z])(_:H x=OP (.ins Y.b dx []))(_:Q .non (upd H x<|.ins Y.b dx [("called",.str z)]))
inductive cU
 |mk (x dx:La)(z:Str)(_:vs=[.ref x,.str z])(_:H x=OP (.ins Y.c dx []))(_:Q .non (upd H x<|.ins Y.c dx [("called",.str z)]))
inductive cV
 |mk (x dx:La)(z:Str)(_:vs=[.ref x,.str z])(_:H x=OP (.ins Y.d dx []))(_:Q .non (upd H x<|.ins Y.d dx [("called",.str z)]))
inductive df
 |mk (x dx:La)(z:Str)(_:vs=[.ref x,.str z])(_:H x=OP (.ins Y.e dx []))(_:Q .non (upd H x<|.ins Y.e dx [("called",.str z)]))
inductive cX
 |mk (x dx:La)(z:Str)(_:vs=[.ref x,.str z])(_:H x=OP (.ins Y.f dx []))(_:Q .non (upd H x<|.ins Y.f dx [("called",.str z)]))
inductive dg
 |mk (x dx:La)(z:Str)(_:vs=[.ref x,.str z])(_:H x=OP (.ins Y.g dx []))(_:Q .non (upd H x<|.ins Y.g dx [("called",.str z)]))
def  J1(K:RD)(Y:AD):Sp:=yD K Y.b Y.i Y.j 0
def  J9(K:RD)(Y:AD):Sp:=yD K Y.c Y.i Y.j 1
def  J5(K:RD)(Y:AD):Sp:=yD K Y.d Y.i Y.j 2
def  J7(K:RD)(Y:AD):Sp:=yD K Y.e Y.i Y.j 3
def  J3(K:RD)(Y:AD):Sp:=yD K Y.f Y.i Y.j 4
def  J11(K:RD)(Y:AD):Sp:=yD K Y.g Y.i Y.j 5
inductive dO
 |mk (a b:La)(ys:O4 V)(ps:O4 (Int×Int))(as:O4 La)(mss:O4 (O4 Int))(_:vs=[.ref a,.ref b])(_:H a=OP (.lst ys))(_:PL H ys ps)(_:H b=OP (.lst<|as.map RZ))(_:MLs H as mss)(_:MOK ps mss)(_:∀(l:La)(xs:O4 V)(H':Hp)(css:O4 (O4 Int)),au H H'->H' l=OP (.lst xs)->⇑css=⇑ps->(∀(j:Nat)(p:Int×Int)(ms cs:O4 Int),ps[j]?=OP p->mss[j]?=OP ms->css[j]?=OP cs->cs.Pairwise (· < ·)/\(∀c,c∈cs↔(c∈ms/\p.1<c/\c<=p.2))/\⇑cs<64)->CoL H' xs (db (λp cs=>bj p.1 p.2 cs) ps css)->Q (.ref l) H')
inductive sh
 |mk (v r:V)(l:La)(cs:O4 Int)(_:vs=[v,.ref l])(_:SqL K H l (cs.map RV))(_:Lk K H v cs r)(_:Q r H)
inductive gL
 |mk (z:Str)(_:vs=[.str z])(_:⇑z<=1000)(_:Q (.bl<|isw z) H)
inductive si
 |mk (t rl c dx:La)(fs:O4 (Str×V))(xs:O4 V)(rws:O4 Rw)(k:Nat)(w:Rw)(cs:O4 Int)(_:vs=[.ref t,.int k,.ref c])(_:H t=OP (.ins Y.k dx fs))(_:fs.lookup s!"rows"=↑rl) (_:H rl=OP (.lst xs))(_:RL NT H xs rws)(_:rws[k]?=OP w)(_:SqL K H c (cs.map RV))(_:⇑w.1=⇑cs)(_:∀H',au H H'->Q (.bl<|pj w.1 cs) H')
inductive eQ
 |mk (t:La)(c:Nat)(dv:O4 V)(bs:Prs)(rws:O4 Rw)(b:Int×Int)(L:O4 Int)(_:vs=[.ref t,.int (c:Int)])(_:TD Y.k Y.i Y.j H t dv bs rws)(_:bs[c]?=OP b)(_:⇑rws<=60)(_:(∀w∈rws,c<⇑w.1/\⇑(w.1.getD c [])<=6))(_:L.length<64)(_:(∀x,MkC rws c b x->x∈L))(_:∀(l:La)(cs:O4 Int)(H':Hp),au H H'->H l=OQ->H' l=OP (.lst<|cs.map RV)->cs.Pairwise (· < ·)->(∀x,x∈cs↔MkC rws c b x)->Q (.ref l) H')
inductive sj
 |mk (a l:La)(T:Tq)(cs:O4 Int)(_:vs=[.ref a,.ref l])(_:TqA K H T a)(_:T.ok ⇑cs)(_:T.dep<=60)(_:H l=OP (.lst<|cs.map RV))(_:∀(p:La)(xs:O4 V)(H':Hp),au H H'->H' p=OP (.lst xs)->QnL H' xs (T.pth cs)->Q (.ref p) H')
inductive gM
 |mk (bl_ ml:La)(ys:O4 V)(ps:O4 (Int×Int))(as:O4 La)(mss:O4 (O4 Int))(_:vs=[.ref bl_,.ref ml])(_:H bl_=OP (.lst ys))(_:PL H ys ps)(_:H ml=OP (.lst<|as.map RZ))(_:MLs H as mss)(_:MkO ps mss)(_:∀(D:La)(us:O4 V)(H':Hp),au H H'->H D=OQ->H' D=OP (.lst us)->BkL H' us (dN ps mss)->Q (.ref D) H')
inductive gN(K:RD)(Y:AD)(P:K7)(w:K6)(mg:Str->Option K5)(base:Lb)(vs:O4 V)(H:Hp)(Q:VK)(e_:XK):Prop
 |mk (d b:La)(kvs:O4 (NK×La×V))(M:O4 (Blk×Pln))(B:Blk)(c:Nat)(m x lo hi:Int)(pb pa:Pln)(_:vs=[.ref d,.ref b,.int c,.int m,.int x])(_:DcP P w K H d kvs M)(_:BxA H b B)(_:B.length<=5)(_:B[c]?=OP (lo,hi))(_:(B.set c (lo,m-1),pb)∈M)(_:(B.set c (m,hi),pa)∈M)(_:pb.2.dep<=50)(_:∀(r:La)(H':Hp),au H H'->PlA K H' (cmb x c m pb pa) r->Q (.ref r) H')
inductive fW
 |mk (a:La)(ns:O4 Int)(_:vs=[.ref a])(_:SqL K H a (ns.map RV))(_:∀(l:La)(xs:O4 V)(OV:O4 (O4 Int))(H':Hp),au H H'->H' l=OP (.lst xs)->PTL H' xs OV->FnG ns OV->Q (.ref l) H')
inductive iO
 |mk (a fl:La)(ns:O4 Int)(xs:O4 V)(OV:O4 (O4 Int))(_:vs=[.ref a,.ref fl])(_:SqL K H a (ns.map RV))(_:⇑ns<=63)(_:H fl=OP (.lst xs))(_:PTL H xs OV)(_:(∀ps∈OV,Pts ps))(_:1<=OV.length)(_:OV.length<=4)(_:∀(rl:La)(rx:O4 V)(bms:O4 (O4 Int×Int))(H':Hp),au H H'->H' rl=OP (.lst rx)->BRL H' rx bms->⇑bms<=12->(∀b∈bms,⇑b.1=OV.length/\0<=b.2/\b.2<3/\∀x∈b.1,0<=x)->Q (.ref rl) H')
inductive dn
 |mk (a:La)(ns:O4 Int)(_:vs=[.ref a])(_:SqL K H a (ns.map RV))(_:Q (.bl<|OT<|bE ns 5%4=3) H)
inductive eR
 |mk (fl rl ol:La)(wy:Str)(i:Nat)(xs:O4 V)(OV:O4 (O4 Int))(rx:O4 V)(bms:O4 (O4 Int×Int))(os:O4 Int)(c:Int)(_:vs=[.ref fl,.ref rl,.ref ol,.str wy])(_:H fl=OP (.lst xs))(_:PTL H xs OV)(_:(∀ps∈OV,Pts ps/\⇑ps<=10))(_:OV.length<=4)(_:H rl=OP (.lst rx))(_:BRL H rx bms)(_:⇑bms<=60)(_:(∀b∈bms,⇑b.1=OV.length/\0<=b.2/\b.2<3/\∀x∈b.1,0<=x))(_:H ol=OP (.lst<|os.map RV))(_:qF c os)(_:six[i]?=OP wy)(_:∀(d:La)(kvs:O4 (O4 Key×V))(H':Hp),au H H'->H d=OQ->H' d=OP (.dT kvs)->⇑kvs=⇑(dj<|gls OV)->(∀(j:Nat)(p:O4 Nat),(dj<|gls OV)[j]?=OP p->∃r:La,kvs[j]?=OP (mI p,.ref r)/\H' r=OP (.tup<|tp<|vdp (bmC os bms) i (oz os) p))->Q (.ref d) H')
inductive fX
 |mk (a:La)(ns:O4 Int)(n:Nat)(_:vs=[.ref a,.int n])(_:SqL K H a (ns.map RV))(_:n<=10)(_:∀(l:La)(xs:O4 Int)(H':Hp),au H H'->H' l=OP (.lst<|xs.map RV)->⇑xs=n->(∀x∈xs,1<=x/\x<2^210)->Q (.ref l) H')
inductive bP
 |mk (x dx:La)(lo hi:Int)(_:vs=[.ref x,.int lo,.int hi])(_:H x=OP (.ins Y.i dx []))(_:lo<=hi)(_:Q .non (mkd Y.i H x dx lo hi))
def  J0(K:RD)(Y:AD):Sp:=yB Y.b s!"first"
def  J8(K:RD)(Y:AD):Sp:=yB Y.c s!"only"
def  J4(K:RD)(Y:AD):Sp:=yB Y.d s!"like"
def  J6(K:RD)(Y:AD):Sp:=yB Y.e s!"low"
def  J2(K:RD)(Y:AD):Sp:=yB Y.f s!"high"
def  J10(K:RD)(Y:AD):Sp:=yB Y.g s!"sum"
inductive bW
 |mk (a:La)(b:Int×Int)(i:Int)(_:vs=[.ref a,.int i])(_:DX Y.i H a b.1 b.2)(_:b.1<=i)(_:i<=b.2)(_:Q (.bl OR) H)
inductive cq
 |mk (a:La)(b:Int×Int)(i:Int)(_:vs=[.ref a,.int i])(_:DX Y.j H a b.1 b.2)(_:b.1<=i)(_:i<=b.2)(_:Q (.bl OR) H)
def  J12(K:RD)(Y:AD):Sp:=kG K Y.b Y.i Y.j 0
def  J16(K:RD)(Y:AD):Sp:=kG K Y.c Y.i Y.j 1
def  J14(K:RD)(Y:AD):Sp:=kG K Y.d Y.i Y.j 2
def  J15(K:RD)(Y:AD):Sp:=kG K Y.e Y.i Y.j 3
def  J13(K:RD)(Y:AD):Sp:=kG K Y.f Y.i Y.j 4
def  J17(K:RD)(Y:AD):Sp:=kG K Y.g Y.i Y.j 5
inductive oB
 |mk (a b:La)(ys:O4 V)(ps:O4 (Int×Int))(as:O4 La)(mss:O4 (O4 Int))(_:vs=[.ref a,.ref b])(_:H a=OP (.lst ys))(_:PL H ys ps)(_:H b=OP (.lst<|as.map RZ))(_:MLs H as mss)(_:MOK ps mss)(_:∀H':Hp,au H H'->Q (.int ((gr ps mss ⇑ps:Nat):Int)) H')
inductive eS
 |mk (p:La)(zs:O4 Str)(_:vs=[.ref p])(_:SqL K H p (zs.map Rk))(_:(∀z∈zs,isw z=OR))(_:zs.Nodup)(_:⇑zs<=100)(_:∀H',au H H'->Q .non H')
inductive fY
 |mk (dl ou cl:La)(dv xs:O4 V)(bs:Prs)(o:Int×Int)(w:Rw)(_:vs=[.ref dl,.ref ou,.ref cl,.int w.2])(_:SqL K H dl dv)(_:aJ dv bs (Dom Y.i Y.j H))(_:Dom Y.i Y.j H ou o)(_:H cl=OP (.lst xs))(_:CL NT H xs w.1)(_:mw bs o w)(_:∀H',au H H'->Q .non H')
inductive kT
 |mk (t c:La)(rws:O4 Rw)(i:Nat)(o:Int×Int)(cs:O4 Int)(_:vs=[.ref t,.ref c])(_:Tbl Y.k Y.i Y.j H t rws i o)(_:SqL K H c (cs.map RV))(_:(∀w∈rws,⇑w.1=⇑cs))(_:∀H',au H H'->Q (.int ((msk (jk rws cs) ⇑rws:Nat):Int)) H')
inductive fi
 |mk (t:La)(dv:O4 V)(bs:Prs)(rws:O4 Rw)(L:Nat->O4 Int)(_:vs=[.ref t])(_:TD Y.k Y.i Y.j H t dv bs rws)(_:⇑bs<=100)(_:⇑rws<=60)(_:(∀w∈rws,⇑w.1=⇑bs/\∀c,⇑(w.1.getD c [])<=6))(_:(∀(c:Nat)(b:Int×Int),bs[c]?=OP b->⇑(L c)<64/\∀x,MkC rws c b x->x∈L c))(_:∀(l:La)(as:O4 La)(mss:O4 (O4 Int))(H':Hp),au H H'->H l=OQ->H' l=OP (.lst<|as.map RZ)->MLs H' as mss->⇑mss=⇑bs->(∀(c:Nat)(b:Int×Int)(ms:O4 Int),bs[c]?=OP b->mss[c]?=OP ms->ms.Pairwise (· < ·)/\∀x,x∈ms↔MkC rws c b x)->Q (.ref l) H')
inductive iP
 |mk (a:La)(ns:O4 Int)(_:vs=[.ref a])(_:SqL K H a (ns.map RV))(_:∀(l:La)(os:O4 Int)(H':Hp),au H H'->H' l=OP (.lst<|os.map RV)->qF (bE ns 5) os->Q (.ref l) H')
inductive gO
 |mk (a:La)(ns:O4 Int)(_:vs=[.ref a])(_:SqL K H a (ns.map RV))(_:∀(wy:Str)(H':Hp),au H H'->six[wyF ns]?=OP wy->(bE ns 5%4=3->wy≠s!"sum")->Q (.str wy) H')
inductive iQ
 |mk (a l pl:La)(T:Tq)(cs xs:O4 Int)(_:vs=[.ref a,.ref l,.ref pl])(_:TqA K H T a)(_:T.ok ⇑cs)(_:T.dep<=60)(_:H l=OP (.lst<|cs.map RV))(_:H pl=OP (.lst<|xs.map RV))(_:⇑xs=⇑cs)(_:∀H':Hp,au H H'->Q (.int<|we xs<|T.pth cs) H')
inductive cy
 |mk (x dx p:La)(zs:O4 Str)(_:vs=[.ref x,.ref p])(_:H x=OP (.ins Y.j dx []))(_:H p=OP (.lst<|zs.map Rk))(_:Good zs)(_:∀(H':Hp)(l:La),(∀b o,b≠x->H b=OP o->H' b=OP o)->H' x=OP (.ins Y.j dx [("low",.int 0),("high",.int<|hiW zs),("words",.ref l)])->H' l=OP (.lst<|zs.map Rk)->H l=OQ->Q .non H')
inductive jf
 |mk (z:Str)(_:vs=[.str z])(_:z∈six)(_:(∀i:Nat,six[i]?=OP z->∀(x C:La)(H':Hp),au H H'->(cl6 Y.b Y.c Y.d Y.e Y.f Y.g)[i]?=OP C->WyN C H' x z->Q (.ref x) H'))
inductive fZ
 |mk (z:Str)(ou:La)(_:vs=[.str z,.ref ou])(_:z∈six)(_:(z=s!"sum" -> ∃dx fs,H ou=OP (.ins Y.i dx fs))) (_:∀H',au H H'->Q .non H')
inductive gm
 |mk (t:La)(rws:O4 Rw)(i:Nat)(o:Int×Int)(m:Int)(_:vs=[.ref t,.int m])(_:Tbl Y.k Y.i Y.j H t rws i o)(_:∀(r:La)(H':Hp),au H H'->Vd K H' r (ver (wf i o.1 o.2)<|pkF rws (bJ m) ⇑rws)->Q (.ref r) H')
inductive cz
 |mk (x dx na dl ou rl:La)(nm wy:Str)(zs:O4 Str)(dv rx:O4 V)(bs:Prs)(o:Int×Int)(rws:O4 Rw)(_:vs=[.ref x,.str nm,.ref na,.ref dl,.ref ou,.str wy,.ref rl])(_:H x=OP (.ins Y.k dx []))(_:H na=OP (.lst<|zs.map Rk))(_:(∀z∈nm :: zs,isw z=OR))(_:(nm :: zs).Nodup)(_:1<=⇑zs)(_:⇑zs<=4)(_:wy∈six)(_:(wy=s!"sum" -> ∃dx fs,H ou=OP (.ins Y.i dx fs))) (_:H dl=OP (.lst dv))(_:aJ dv bs (Dom Y.i Y.j H))(_:Dom Y.i Y.j H ou o)(_:H rl=OP (.lst rx))(_:RL NT H rx rws)(_:⇑rx<=200)(_:⇑bs<=4)(_:(∀w∈rws,mw bs o w))(_:∀(H':Hp)(fs:O4 (Str×V))(rl':La)(xs':O4 V),(∀b o,b≠x->H b=OP o->H' b=OP o)->H' x=OP (.ins Y.k dx fs)->fs.lookup s!"rows"=↑rl'->fs.lookup s!"way"=OP (.str wy)->fs.lookup s!"outcome"=↑ou->fs.lookup s!"name"=OP (.str nm)->(∃na' dl':La,fs.lookup s!"names"=↑na'/\fs.lookup s!"domains"=↑dl'/\H' na'=OP (.lst<|zs.map Rk)/\H' dl'=OP (.lst dv)/\H na'=OQ/\H dl'=OQ)->H rl'=OQ->H' rl'=OP (.lst xs')->RL (λa=>H a=OQ) H' xs' rws->Q .non H')
inductive eG(K:RD)(Y:AD)(n:Nat)(vs:O4 V)(H:Hp)(Q:VK)(e_:XK):Prop
 |mk (d:Nat)(F:Fm SI2 d)(v:V)(ps:O4 (Int×Int))(Ls:O4 (O4 Int))(_:vs=[v,.int d])(_:d+1<=n)(_:d<=6)(_:FmV (K:=K) LVd H d F v)(_:fT d F ps)(_:BdG d F)(_:(∀c m,mH d F c m->∃l,Ls[c]?=OP l/\m∈l))(_:(∀l∈Ls,⇑l<=29))(_:∀(l:La)(rs:O4 La)(mss:O4 (O4 Int))(H':Hp),au H H'->H l=OQ->(∀r∈rs,H r=OQ/\r≠l)->um d F H' l rs mss->Q (.ref l) H')
def uG{K:RD}{Y:AD}{vs:O4 V}{H:Hp}{Q:VK}{E:XK}(h:eG K Y 0 vs H Q E):False:=by
 let(d,l,v,g,k,rfl,j,b,i,a,c,e,f,q):=h;lia
inductive gP
 |mk (a pl rl ol:La)(ns:O4 Int)(xs:O4 V)(OV:O4 (O4 Int))(os:O4 Int)(rx:O4 V)(bms:O4 (O4 Int×Int))(_:vs=[.ref a,.ref pl,.ref rl,.ref ol])(_:SqL K H a (ns.map RV))(_:H pl=OP (.lst xs))(_:PTL H xs OV)(_:FnG ns OV)(_:1<=OV.length)(_:OV.length<=4)(_:H ol=OP (.lst<|os.map RV))(_:qF (bE ns 5) os)(_:H rl=OP (.lst rx))(_:BRL H rx bms)(_:⇑bms<=60)(_:(∀b∈bms,⇑b.1=OV.length/\0<=b.2/\b.2<3/\∀x∈b.1,0<=x))(_:∀(t:La)(rws:O4 Rw)(nm wy:Str)(ou:La)(zs:O4 Str)(dv:O4 V)(H':Hp),au H H'->rJ (λ_=>True) Y.k H' t rws nm wy ou zs dv->six[wyF ns]?=OP wy->aJ dv (OV.map λps=>(loP ps,hiP ps)) (Dom Y.i Y.j H')->Dom Y.i Y.j H' ou (o0<|oW ns os,o4<|oW ns os)->⇑rws=⇑bms->(∀w∈rws,mw (OV.map λps=>(loP ps,hiP ps)) (o0<|oW ns os,o4<|oW ns os) w)->(∀(k:Nat)(b:O4 Int×Int)(x:Rw),(bmC os bms)[k]?=OP b->rws[k]?=OP x->GrR OV b x)->Q (.ref t) H')
inductive jN(K:RD)(Y:AD)(P:K7)(w:K6)(mg:Str->Option K5)(base:Lb)(vs:O4 V)(H:Hp)(Q:VK)(e_:XK):Prop
 |mk (d b ml cl:La)(v:V)(kvs:O4 (NK×La×V))(M:O4 (Blk×Pln))(B:Blk)(as:O4 La)(mss:O4 (O4 Int))(xs:O4 Int)(n:Nat)(F:Fm SI2 n)(s:SI2)(pl:Blk->Pln)(_:vs=[.ref d,.ref b,.ref ml,.ref cl,v])(_:DcP P w K H d kvs M)(_:BxA H b B)(_:B.length<=5)(_:H ml=OP (.lst<|as.map RZ))(_:MLs H as mss)(_:⇑mss=B.length)(_:(∀ms∈mss,⇑ms<=29))(_:H cl=OP (.lst<|xs.map RV))(_:⇑xs=B.length)(_:(∀(c:Nat)(lo hi m:Int)(ms:O4 Int),B[c]?=OP (lo,hi)->mss[c]?=OP ms->m∈ms->lo<m->m<=hi->(B.set c (lo,m-1),pl<|B.set c (lo,m-1))∈M/\(B.set c (m,hi),pl<|B.set c (m,hi))∈M/\(pl<|B.set c (lo,m-1)).2.dep<=50))(_:FmV (K:=K) LVd H n F v)(_:Tel n F (B.map (·.1)) s)(_:ie K H)(_:∀(r:La)(H':Hp),So H H'->ie K H'->(∃z,dL K "plan_of" = OP z/\∀d o,d≠z.2->H d=OP o->H' d=OP o)->PlA K H' (plB B mss xs pl s) r->Q (.ref r) H')
inductive fj(K:RD)(Y:AD)(P:K7)(w:K6)(mg:Str->Option K5)(base:Lb)(n:Nat)(vs:O4 V)(H:Hp)(Q:VK)(e_:XK):Prop
 |mk (c b f:La)(xs:O4 V)(cols:O4 (List<|Int×Int))(ah:O4 Int)(m:Nat)(L:Type)(_:DecidableEq L)(A:Lfp K L)(g:O4 Int->L)(J:Rr)(_:vs=[.ref c,.ref b,.ref f])(_:⇑cols+1<=n)(_:H c=OP (.lst xs))(_:CoL H xs cols)(_:H b=OP (.lst<|ah.map RV))(_:(∀col∈cols,⇑col<=64))(_:⇑ah+⇑cols<=6)(_:⇑cols<=6)(_:m=⇑ah+⇑cols)(_:DZ A P w K mg base f m g J)(_:J H)(_:(∀(v:V)(H':Hp),(∀d o,d≠b->H d=OP o->H' d=OP o)->FmV A H' ⇑cols (lay g cols ah) v->Q v H'))
def wt{K:RD}{Y:AD}{P:K7}{w:K6}{e:Str->Option K5}{a:Lb}{vs:O4 V}{H:Hp}{Q:VK}{E:XK}(h:fj K Y P w e a 0 vs H Q E):False:=by
 let(c,b,v,k,d,x,m,L,l,A,g,J,rfl,n,p,u,r,j,i,f,o,s,t,q):=h;lia
inductive gn(K:RD)(Y:AD)(P:K7)(w:K6)(mg:Str->Option K5)(base:Lb)(n:Nat)(vs:O4 V)(H:Hp)(Q:VK)(e_:XK):Prop
 |mk (L M:Type)(_:DecidableEq L)(_:DecidableEq M)(A:Lfp K L)(B:Lfp K M)(h:L->M)(J:Rr)(d:Nat)(F:Fm L d)(v:V)(f:La)(_:vs=[v,.int d,.ref f])(_:d+1<=n)(_:d<=6)(_:FmV A H d F v)(_:SmF 300 d F)(_:FZ A B P w K mg base f h J)(_:J H)(_:∀(u:V)(H':Hp),au H H'->FmV B H' d (pq h d F) u->Q u H')
def za{K:RD}{Y:AD}{P:K7}{w:K6}{b:Str->Option K5}{a:Lb}{vs:O4 V}{H:Hp}{Q:VK}{E:XK}(h:gn K Y P w b a 0 vs H Q E):False:=by
 let(L,M,g,f,A,B,k,J,d,o,v,n,rfl,j,e,i,c,l,m,q):=h;lia
inductive oC(K:RD)(Y:AD)(P:K7)(w:K6)(mg:Str->Option K5)(base:Lb)(vs:O4 V)(H:Hp)(Q:VK)(e_:XK):Prop
 |mk (a b f:La)(ys:O4 V)(ps:O4 (Int×Int))(as:O4 La)(mss:O4 (O4 Int))(L:Type)(_:DecidableEq L)(A:Lfp K L)(g:O4 Int->L)(J:Rr)(_:vs=[.ref a,.ref b,.ref f])(_:H a=OP (.lst ys))(_:PL H ys ps)(_:H b=OP (.lst<|as.map RZ))(_:MLs H as mss)(_:MOK ps mss)(_:gr ps mss ⇑ps<=300)(_:DZ A P w K mg base f ⇑ps g J)(_:J H)(_:∀(v:V)(H':Hp)(css:O4 (O4 Int)),au H H'->⇑css=⇑ps->(∀(j:Nat)(p:Int×Int)(ms cs:O4 Int),ps[j]?=OP p->mss[j]?=OP ms->css[j]?=OP cs->cs.Pairwise (· < ·)/\(∀c,c∈cs↔(c∈ms/\p.1<c/\c<=p.2))/\⇑cs<64)->FmV A H' ⇑(db (λp cs=>bj p.1 p.2 cs) ps css) (lay g (db (λp cs=>bj p.1 p.2 cs) ps css) []) v->Q v H')
inductive iR
 |mk (t:La)(dv:O4 V)(bs:Prs)(rws:O4 Rw)(L:Nat->O4 Int)(i:Nat)(o:Int×Int)(_:vs=[.ref t])(_:TD Y.k Y.i Y.j H t dv bs rws)(_:Tbl Y.k Y.i Y.j H t rws i o)(_:⇑bs<=4)(_:⇑rws<=60)(_:(∀x∈rws,⇑x.1=⇑bs/\∀c,⇑(x.1.getD c [])<=6))(_:(∀(c:Nat)(b:Int×Int),bs[c]?=OP b->⇑(L c)<=57/\∀x,MkC rws c b x->x∈L c))(_:(∀mss:O4 (O4 Int),⇑mss=⇑bs->(∀(c:Nat)(b:Int×Int)(ms:O4 Int),bs[c]?=OP b->mss[c]?=OP ms->ms.Pairwise (· < ·)/\∀x,x∈ms↔MkC rws c b x)->gr bs mss ⇑bs<=300))(_:(∀z,dL K "row_form" = OP z->bT H z.2 [(ph Y79,"row_form.<locals>.<lambda>")])) (_:∀(v:V)(H':Hp)(css:O4 (O4 Int)),So H H'->(∀z,dL K "row_form" = OP z->bT H' z.2 [(ph Y79,"row_form.<locals>.<lambda>")]/\∀d o,d≠z.2->H d=OP o->H' d=OP o)->(∃z,dL K "row_form" = OP z)->⇑css=⇑bs->(∀(j:Nat)(p:Int×Int)(cs:O4 Int),bs[j]?=OP p->css[j]?=OP cs->cs.Pairwise (· < ·)/\∀x,x∈cs↔MkC rws j p x)->FmV (K:=K) Am H' ⇑(db (λp cs=>bj p.1 p.2 cs) bs css) (lay (λcd=>((msk (jk rws cd) ⇑rws:Nat):Int)) (db (λp cs=>bj p.1 p.2 cs) bs css) []) v->Q v H')
inductive eU
 |mk (t:La)(dv:O4 V)(bs:Prs)(rws:O4 Rw)(L:Nat->O4 Int)(kk i:Nat)(o:Int×Int)(_:vs=[.ref t])(_:RfH Y.k Y.i Y.j H t dv bs rws L kk i o)(_:fU K H)(_:fV K H)(_:∀(v:V)(F:Fm SI ⇑bs)(H':Hp),So H H'->fU K H'->fV K H'->(∃zr zv,dL K "row_form" = OP zr/\dL K "verdict_form" = OP zv/\∀d o,d≠zr.2->d≠zv.2->H d=OP o->H' d=OP o)->FmV (K:=K) LVd H' ⇑bs F v->fT ⇑bs F bs->SmF 300 ⇑bs F->(∀cs,InB cs bs->Tel ⇑bs F cs (vdm rws i o<|mkg rws cs))->Q v H')
inductive gQ(K:RD)(Y:AD)(P:K7)(w:K6)(mg:Str->Option K5)(base:Lb)(vs:O4 V)(H:Hp)(Q:VK)(e_:XK):Prop
 |mk (t:La)(dv:O4 V)(bs:Prs)(rws:O4 Rw)(L:Nat->O4 Int)(kk i:Nat)(o:Int×Int)(cl:La)(xs:O4 Int)(Ls:O4 (O4 Int))(_:vs=[.ref t,.ref cl])(_:RfH Y.k Y.i Y.j H t dv bs rws L kk i o)(_:fU K H)(_:fV K H)(_:ie K H)(_:H cl=OP (.lst<|xs.map RV))(_:⇑xs=⇑bs)(_:(∀(c:Nat)(m:Int),Chg bs (λcs=>vdm rws i o<|mkg rws cs) c m->∃l,Ls[c]?=OP l/\m∈l))(_:(∀l∈Ls,⇑l<=29))(_:(∀mss:O4 (O4 Int),⇑mss=⇑bs->(∀(c:Nat)(ms:O4 Int),mss[c]?=OP ms->ms.Pairwise (· < ·)/\∀m,m∈ms↔Chg bs (λcs=>vdm rws i o<|mkg rws cs) c m)->(∀i,ig mss i<=600)/\tot mss<=50))(_:∀(d:La)(kvs:O4 (NK×La×V))(mss:O4 (O4 Int))(H':Hp),Sf H H'->fU K H'->fV K H'->ie K H'->⇑mss=⇑bs->(∀(c:Nat)(ms:O4 Int),mss[c]?=OP ms->ms.Pairwise (· < ·)/\∀m,m∈ms↔Chg bs (λcs=>vdm rws i o<|mkg rws cs) c m)->(∀o,noT o->H d≠OP o)->DcP P w K H' d kvs ((dN bs mss).map λB=>(B,plF mss xs (vdB rws i o) B))->Q (.ref d) H')
inductive lW(K:RD)(Y:AD)(P:K7)(w:K6)(mg:Str->Option K5)(base:Lb)(vs:O4 V)(H:Hp)(Q:VK)(e_:XK):Prop
 |mk (t cl:La)(bs:Prs)(rws:O4 Rw)(i:Nat)(o:Int×Int)(xs:O4 Int)(_:vs=[.ref t,.ref cl])(_:PlH Y.k Y.i Y.j K H t cl bs rws i o xs)(_:∀(d:La)(kvs:O4 (NK×La×V))(mss:O4 (O4 Int))(H':Hp),Sf H H'->fU K H'->fV K H'->ie K H'->MsO bs (λcs=>vdm rws i o<|mkg rws cs) mss->DcI P w H' d kvs ((dN bs mss).map λB=>(B,(plF mss xs (vdB rws i o) B).1))->(∀o,noT o->H d≠OP o)->Q (.ref d) H')
inductive sk
 |mk (t cl:La)(bs:Prs)(rws:O4 Rw)(i:Nat)(o:Int×Int)(xs:O4 Int)(_:vs=[.ref t,.ref cl])(_:PlH Y.k Y.i Y.j K H t cl bs rws i o xs)(_:∀(r:La)(mss:O4 (O4 Int))(H':Hp),Sf H H'->fU K H'->fV K H'->ie K H'->MsO bs (λcs=>vdm rws i o<|mkg rws cs) mss->PlA K H' (plF mss xs (vdB rws i o) bs) r->Q (.ref r) H')
def  J18(K:RD):Sp:=λc H Q _=>∃(a:La)(b:O4 Int),c=[.ref a]/\SqL K H a (b.map RV)/\⇑b<=63/\(∀z,dL K "row_form" = OP z->H z.2=OP (.tbl #[]))/\(∀z,dL K "verdict_form" = OP z->H z.2=OP (.tbl #[]))/\(∀z,dL K "plan_of" = OP z->H z.2=OP (.tbl #[]))/\∀d,Q (.bl OR) d
inductive gq(K:RD)(Y:AD)(f c' c_0:La)(doc pm ctv:K5)(vs:O4 V)(H:Hp)(Q:VK)(e_:XK):Prop
 |mk (a t:La)(cs:O4 Int)(rws:O4 Rw)(i:Nat)(o:Int×Int)(_:vs=[.ref a])(_:hX H f c' (kt "<lambda>" "row_form.<locals>.<lambda>" (nR Y79) (mG Y79) (iH Y79) [("table",c_0)] pm c' ctv) "row_form.<locals>.<lambda>" [("table",c_0)] [("table",.ref t)]) (_:Tbl Y.k Y.i Y.j H t rws i o)(_:H a=OP (.lst<|cs.map RV))(_:(∀x∈rws,⇑x.1=⇑cs))(_:∀H',au H H'->Q (.int ((msk (jk rws cs) ⇑rws:Nat):Int)) H')
inductive eJ(K:RD)(Y:AD)(f c' c_0:La)(doc pm ctv:K5)(vs:O4 V)(H:Hp)(Q:VK)(e_:XK):Prop
 |mk (m:Int)(t:La)(rws:O4 Rw)(i:Nat)(o:Int×Int)(_:vs=[.int m])(_:hX H f c' (kt "<lambda>" "verdict_form.<locals>.<lambda>" (nR Y85) (mG Y85) (iH Y85) [("table",c_0)] pm c' ctv) "verdict_form.<locals>.<lambda>" [("table",c_0)] [("table",.ref t)]) (_:Tbl Y.k Y.i Y.j H t rws i o)(_:∀(r:La)(H':Hp),au H H'->Vd K H' r (vdm rws i o m)->Q (.ref r) H')
inductive ia(K:RD)(Y:AD)(f c'  : La)(doc pm ctv:K5)(vs:O4 V)(H:Hp)(Q:VK)(e_:XK):Prop
 |mk (a:La)(p:Pln)(_:vs=[.ref a])(_:hX H f c' (kt "<lambda>" "plan_of.<locals>.<lambda>" (nR Y71) (mG Y71) (iH Y71) [] pm c' ctv) "plan_of.<locals>.<lambda>" [] []) (_:PlA K H p a)(_:Q (.int p.1) H)
section
variable{P:K7}{w:K6}{K:RD}{mg:Str->Option K5}{base:Lb}{f:La}{fd:Mi}{Y:AD}
set_option hygiene false in
local macro_rules|`(⟨⟩)=>`(Callee P w K mg base)
set_option hygiene false in
local macro_rules|`(())=>`(aK P w K mg base CX0)
def HL(F:Fun K "holds" "holds" Y44 f fd)(bl:Bl K mg Y):() 1 f fd ["spans","number"] (oy K Y):=by
 refine F.okA Z44 λG A v s H I Q E J h=>?_
 let(a,xs,k,n,rfl,y,B,q):=h
 refine(_,(aq (aW cr Z (aR<|pv 0) (eK Z<|aI (aC (i:=2) Z44.nd Z<|bd Z)<|aI (aC (i:=3) Z44.nd Z<|bd Z) bF)
  (aj (aX (gd eY eY (pv 2) (pv 1)<|pv 3)
  (aj<|aE ip)
  aN)))
  (aj<|aE ip)),?_,)
 refine(a,Z,(_,y,),(let D:Nat->Rq:=λi g j=>(∃t o,g=[↑a,OP<|.int n,t,o])/\j=H/\(k.take i).any (inR n)=OS;aY (xs:=xs) D ((_,_,Z,),Z,Z,) (λi g j _ h=>by let(_,e,_):=h;rw[e];exact y) (λi x g j e h=>?_) (λg j h=>?_)),)
 .let((t,o,rfl),m,b):=h;rw[m];let(p,r,l,rfl,u):=B.get e;calc(r,_,Z,Rn u,Z,_,_,Z,_,_,Z,Z,?_,);calc(_,_,Z,Z,_,Z,?_,);refine ck (λc=>?_)<|λc=>?_
  .refine(_,_,Z,Z,_,Z,?_,);refine ck (λd=>?_)<|λd=>?_
   .let C:inP k n=true:=vw l<|HD c d;rw[C]at q;exact q
   .exact((_,_,Z,),Z,jw l b<|FU d,)
  .exact(_,Z,cG ((_,_,Z,),Z,jw l b<|FT c,),)
 .let((t,o,rfl),m,b):=h;rw[m];let z:inP k n=false:=by
   rw[B.length,gs]at b;exact b
  rw[z]at q;calc q
def HM(F:Fun K "edges" "edges" Y40 f fd)(bl:Bl K mg Y):() 1 f fd ["spans","low","high"] (oA K Y):=by
 refine F.okA Z40 λa2 A S s H vs Q E hr h=>?_
 let(a,xs,R,lo,hi,rfl,W,C,hl,q):=h
 refine(_,(aq (aG (i:=3) Z40.nd Z (bd Z)<|aU ag)
  (aq (aW cr Z (aR<|pv 0) (eK Z<|aI (aC (i:=4) Z40.nd Z<|bd Z)<|aI (aC (i:=5) Z40.nd Z<|bd Z) bF)
  (aq (aV<|dB PySem.F.plainAttrs_list PySem.F.slot_list_append PySem.F.type_list_append bg (pv 3)<|ae (pv 4) ag)
  (aj<|aV<|dB PySem.F.plainAttrs_list PySem.F.slot_list_append PySem.F.type_list_append bg (pv 3)<|ae (ay bw (pv 5) ak) ag)))
  (aj<|aE<|cZ (aR<|pv 3) (bM (N:=["turn","low","high"]) (fr:=[1,2]) (cl:=[("low",↥s+1),("high",↥s+1+1)]) Z Z (~~~0) (~~~0) Z (~~~0) Z Z Z (gx.mpr (Z,gx.mpr (Z,iU _,),)) Z) Z (λ_ _ _ _=>(ko<|gd iu eY (pv 1) (pv 0)<|pv 2))<|λ_ _ _ _=>(pv 0)))),?_,)
 dsimp only[cw,Rp,Ro];show(let r2:TS:=_;let r1:TS:=bh _ r2;bh _ r1 _ _ _);intro _ _;refine((by show 0<=Lc;decide),λl v=>?_,);let T:au H (upd H l<|.lst []):=ai v _
 refine⟨a,Z,(_,T.seq W,),aY (xs:=xs) (λi B k=>∃(L J:Option V),B=[↑a,OP<|.int lo,OP<|.int hi,↑l,L,J]/\au H k/\k l=OP (.lst<|(ends<|R.take i).map RV)/\⇑(ends<|R.take i)<=2*i)
  (OQ,OQ,Z,T,af,Ab _,) (λi B k _ h=>by let(_,_,_,j,_):=h;exact j.seq W) (λi x B k e h=>?_) (λB k h=>?_)⟩
 .let(L,J,rfl,j,m,z):=h;let(p,r,e1,rfl,M):=(C.mono j.tups).get e;let b:i<⇑xs:=(KO.mp e).1;calc(r,_,Z,Rn M,Z,_,_,Z,_,_,Z,Z,?_,);refine(.inl (Z,_,Rm m,),l,_,_,Z,Z,m,aD (by rw[aa];lia),?_,);refine(.inl (Z,_,Rm af,),_,_,Z,Z,l,_,_,Z,Z,af,aD (by rw[br,aa,gR];lia),?_,);rw[Bt];refine(_,_,Z,j.upd v,?_,?_,)
  .rw[af,take_snoc e1,pY];simp
  .rw[take_snoc e1,pY,br];simp;lia
 .let(L,J,rfl,j,m,z):=h;rw[C.length,gs]at m z
  refine(l,Z,(_,Rm m,),dS (xs:=(ends R).map RV) (λD i zs d=>au k d/\d D=OP (.lst zs)/\zs=(((ends R).take i).filter<|λt=>decide (lo<t) && decide (t<=hi)).map RV/\⇑zs<=i)
   (λD n=>(ai n _,af,Z,BG _,)) (λD i zs d n _ h=>Rm<|h.1 _ _ m) (λD i x zs d n e h=>?_) (λD zs d n h=>?_),)
  .let(g,u,o,O):=h;let(c,rfl,X):=of_map e;let b:i<⇑((ends R).map RV):=(KO.mp e).1;let a1:i<⇑(ends R):=by rw[aa]at b;exact b
   let y:(OT (lo<c) && decide (c<=hi))=OS->d6 (λD i zs d=>au k d/\d D=OP (.lst zs)/\zs=(((ends R).take i).filter<|λt=>decide (lo<t) && decide (t<=hi)).map RV/\⇑zs<=i) D i ⇑((ends R).map RV) d:=λhf=>by
    calc d6.mk (zs:=zs) b (g,u,?_,∅,);rw[take_snoc X,ny,FS (~~~hf)];simpa using o
   calc(_,_,Z,Z,_,Z,?_,);refine ck (λI=>?_)<|λI=>?_
   .refine(_,_,Z,Z,_,Z,?_,);refine ck (λG=>?_) (λG=>y (by rw[KW.mpr G,Ch]));let a0:=C.length;refine(c0.mk b u (aD ∅) (g.upd n,af,?_,by rw[br,gR];lia,));rw[take_snoc X,ny,FM (by rw[I,G];rfl),o];simp
   .exact(_,Z,cG<|y (by rw[KW.mpr I,Ix]),)
  .let(g,u,o,O):=h;rw[aa,gs]at o;rw[o]at u;calc q D d _ (j.trans g) (j.free n) u Z
def HN(F:Fun K "stretches" "stretches" Y81 f fd)(bl:Bl K mg Y):() 1 f fd ["low","high","marks"] (eW K Y):=by
 refine F.okA Z83 λb4 A b1 s H vs Q E hr h=>?_
 let(a,n,L,lo,hi,rfl,hS,hl,hL,o8,q):=h
 refine(_,(aq (aG (i:=3) Z83.nd Z (bd Z)<|aw (gi (w:=w) Z Z) Z bl.sorted_ PU<|ae (bC (qi (w:=w) Z Z) Z bl.set_ wr<|ae (cZ (aR<|pv 2) (bM (N:=["mark","low","high"]) (fr:=[0,1]) (cl:=[("low",↥s+1),("high",↥s+1+1)]) Z Z (~~~0) (~~~0) Z (~~~0) Z Z Z (gx.mpr (Z,gx.mpr (Z,iU _,),)) Z) Z (λ_ _ _ _=>(ko<|gd iu eY (pv 1) (pv 0)<|pv 2))<|λ_ _ _ _=>(pv 0)) ag) ag)
  (aq (aG (i:=4) Z83.nd Z (bd Z)<|ay qU (aU<|ae (pv 0) ag)<|pv 3)
  (aq (aG (i:=5) Z83.nd Z (bd Z)<|ay qU (cZ (aR<|pv 3) (fA Z (~~~0) (~~~0) (~~~0) Z) Z (λ_ _ _ _=>bG)<|λ_ _ _ _=>(ay b7 (pv 0) ak))<|aU<|ae (pv 1) ag)
  (aj<|aE<|vK Z Z bl.list_ Z bl.zip_<|ae (pv 4)<|ae (pv 5) ag)))),?_,)
 dsimp only[cw,Rp,Ro];show(let r3:TS:=_;let r2:TS:=bh _ r3;let r1:TS:=bh _ r2;bh _ r1 _ _ _);intro _ _ _
 refine(a,Z,(_,hS,),dS (xs:=n.map RV) (λD i zs g=>au H g/\g D=OP (.lst zs)/\zs=((n.take i).filter<|λt=>decide (lo<t) && decide (t<=hi)).map RV/\⇑zs<=i)
  (λD m=>(ai m _,af,Z,BG _,)) (λD i zs g m _ h=>h.1.seq hS) (λD i x zs g m e h=>?_) (λD zs g m h=>?_),)
 .let(r,B,y,O):=h;let(c,rfl,ec):=of_map e;let d:i<⇑(n.map RV):=(KO.mp e).1;let a6:i<⇑n:=by rw[aa]at d;exact d
  let M:(OT (lo<c) && decide (c<=hi))=OS->d6 (λD i zs g=>au H g/\g D=OP (.lst zs)/\zs=((n.take i).filter<|λt=>decide (lo<t) && decide (t<=hi)).map RV/\⇑zs<=i) D i ⇑(n.map RV) g:=λhf=>by
   calc d6.mk (zs:=zs) d (r,B,?_,∅,);rw[take_snoc ec,ny,FS (~~~hf)];simpa using y
  calc(_,_,Z,Z,_,Z,?_,);refine ck (λg1=>?_)<|λg1=>?_
  .refine(_,_,Z,Z,_,Z,?_,);refine ck (λg2=>?_) (λg2=>M (by rw[KW.mpr g2,Ch]));refine(c0.mk d B (aD ∅) (r.upd m,af,?_,by rw[br,gR];lia,));rw[take_snoc ec,ny,FM (by rw[g1,g2];rfl),y];simp
  .exact(_,Z,cG<|M (by rw[KW.mpr g1,Ix]),)
 .let(s2,B,y,O):=h;rw[aa]at O y;rw[gs]at y;rw[y]at B;generalize R:n.filter (λt=>decide (lo<t) && decide (t<=hi))=ks at B y;let kA:∀c,c∈ks↔(c∈n/\lo<c/\c<=hi):=λc=>by rw[←R,kl];simp
  let b3:⇑ks<=⇑n:=by rw[←R];exact qH ..
  calc(D,ks,Z,Rm B,∅,λl a5=>?_,);let s3:au H (upd g l<|vJ w l ks):=s2.trans<|ai a5 _;calc(l,ks,L,Z,af,hL,λk hk=>let ⟨a1,a2,a3⟩:=(kA k).mp hk;o8 k a1 a2 a3,λC b a9 pw mem=>?_,);let s4:=s3.trans<|ai a9<|.lst<|b.map RV;let e4:upd (upd g l<|vJ w l ks) C (.lst<|b.map RV) C=OP (.lst<|b.map RV):=af;generalize upd (upd g l<|vJ w l ks) C (.lst<|b.map RV)=H3 at s4 e4⊢;let a7:⇑b<64:=PQ (bH (pw.imp λh=>P0 h) λk hk=>let ⟨a1,a2,a3⟩:=(kA k).mp<|(mem k).mp hk;o8 k a1 a2 a3) hL;refine((by show 1<=Lc;decide),λt1 J=>?_,);let e5:=cI (o:=.lst [.int lo]) e4 J;let s5:=s4.trans<|ai J<|.lst [.int lo];refine(t1,C,_,_,Z,Z,af,e5,Dn<|aD (by rw[aa];show 1+⇑b<=1000;lia),λX I=>?_,);let e6:=cI (o:=.lst<|[RV lo]++b.map RV) e5 I;let s6:=s5.trans<|ai I<|.lst<|[RV lo]++b.map RV;let e7:upd (upd H3 t1<|.lst [.int lo]) X (.lst<|[RV lo]++b.map RV) X=OP (.lst<|[RV lo]++b.map RV):=af;generalize upd (upd H3 t1<|.lst [.int lo]) X (.lst<|[RV lo]++b.map RV)=H4 at s6 e6 e7⊢
  refine(C,Z,(_,Rm e6,),dS (xs:=b.map RV) (λD i zs z=>au H4 z/\z D=OP (.lst zs)/\zs=((b.take i).map (· - 1)).map RV/\⇑zs<=i)
   (λD m=>(ai m _,af,Z,BG _,)) (λD i zs z m _ h=>Rm<|h.1 _ _ e6) (λD i x zs z m e h=>?_) (λD zs z m h=>?_),)
  .let(r,v,u,HP):=h;let(c,rfl,ec):=of_map e;let d:i<⇑(b.map RV):=(KO.mp e).1;let a6:i<⇑b:=by rw[aa]at d;exact d
   refine(_,_,Z,Z,c0.mk d v (aD ∅) (r.upd m,af,?_,by rw[br,gR];lia,),);rw[take_snoc ec,fq,fq,u];rfl
  .let(a0,v,u,HP):=h;rw[aa,gs]at u;rw[u]at v;refine((by show 1<=Lc;decide),λt3 G=>?_,);let s7:=a0.trans<|ai G<|.lst [.int hi];refine(D,t3,_,_,Z,Z,cI v G,af,Dn<|aD (by rw[aa,aa];show ⇑b+1<=1000;lia),λW a4=>?_,);let s8:=s7.trans (ai a4 (.lst ((b.map (· - 1)).map RV++[.int hi])));let e8:upd (upd z t3<|.lst [.int hi]) W (.lst ((b.map (· - 1)).map RV++[.int hi])) W=OP (.lst ((b.map (· - 1)).map RV++[.int hi])):=af;generalize upd (upd z t3<|.lst [.int hi]) W (.lst ((b.map (· - 1)).map RV++[.int hi]))=H6 at s8 e8⊢;let e9:=s8 _ _ e7;refine(X,W,(lo :: b).map RV,(b.map (· - 1)++[hi]).map RV,Z,Rm e9,by rw[fq];exact Rm e8,λD9 ts H9 S k9 a8 b0 f9=>?_,);let s9:au H H9:=(s6.trans s8).trans λc o e=>k9 c o e
   refine q D9 H9 b (ts.map RZ) s9 ((s6.trans s8).free a8) b0 (PL.of_get (by rw[S,cS];simp) λj p hj=>?_) pw (λc=>(mem c).trans<|kA c) a7;let(z1,z2):=zip_get hj;let(T,h1,_,h2):=f9 j _ _ z1 z2;calc(T,h1,h2,)
def HQ(F:Fun K "closed" "closed" Y36 f fd)(bl:Bl K mg Y):() 1 f fd ["triples"] (je K Y):=by
 refine F.okA Z36 λa7 A a5 s H vs Q E hr h=>?_
 let(L,iL,A,n,a,xs,o,rfl,hn,ha,W,hl,q):=h
 refine(_,(aq (aG (i:=1) Z36.nd Z (bd Z)<|aU ag)
  (aq (aW cr Z (aR<|pv 0) (eK Z<|aI (aC (i:=2) Z36.nd Z<|bd Z)<|aI (aC (i:=3) Z36.nd Z<|bd Z)<|aI (aC (i:=4) Z36.nd Z<|bd Z) bF)
  (aj (aX (PW.pt<|lp (di (pv 1) (by intro _;rfl)) (i3<|aL (Ak hr) (aF aZ (aF aO (pv 1) (km gB ak)<|λ_ _=>Z) ak<|λ_ _=>Z) (pv 4)<|aQ _))
  (aj<|qN (bf<|ae (aF aZ (aF aO (pv 1) (km gB ak)<|λ_ _=>Z) ak<|λ_ _=>Z)<|ae (pv 3)<|ae (pv 4) ag)<|qM (pv 1) (km gB ak) set_list)
  (aj<|aV<|dB PySem.F.plainAttrs_list PySem.F.slot_list_append PySem.F.type_list_append bg (pv 1)<|ae (bf<|ae (pv 2)<|ae (pv 3)<|ae (pv 4) ag) ag))))
  (aj<|aE<|bC jv Z bl.tuple_ PZ<|ae (pv 1) ag))),?_,)
 dsimp only[cw,Rp,Ro];show(let r2:TS:=_;let r1:TS:=bh _ r2;bh _ r1 _ _ _);intro _ _;refine((by show 0<=Lc;decide),λl B=>?_,);let s0:au H (upd H l<|.lst []):=ai B _
 refine⟨a,Z,(_,Rm<|s0 _ _ ha,),aY (xs:=xs) (λi S g=>au H g/\∃(c:O4 V)(N M J:Option V),g l=OP (.lst c)/\FmL (FmV A g n) g ((o.take i).foldl de []) c/\⇑c<=i/\S=[↑a,↑l,N,M,J])
  (s0,[],OQ,OQ,OQ,af,FmL.nil,BG _,Z,) (λi S g _ h=>Rm<|h.1 _ _ ha) (λi y S g e h=>?_) (λS g h=>?_)⟩
 .let(C,c,N,M,J,m,p,O,rfl):=h;let hi:i<⇑xs:=(KO.mp e).1;let(t,et):∃t,o[i]?=OP t:=(_,KN (by rw[←W.1];exact hi),);let(r,u,ex,er,hu):=W.2 i t et;rw[e]at ex;cases ex;let a4:=C _ _ er;let x:=FmV.mono C.tups hu;let Gf:(o.take<|i+1).foldl de []=de ((o.take i).foldl de []) t:=by rw[take_snoc et,qJ];rfl
  rw[Gf];generalize (o.take i).foldl de []=F at p;let a6:i<900:=by have:=W.1;lia
  refine(r,_,Z,Rn a4,Z,_,_,Z,_,_,Z,_,_,Z,Z,?_,)
  let put:de F t=F++[t]->∀b,g b=OQ->au H (upd (upd g b<|.tup [.int t.1,.int t.2.1,u]) l<|.lst<|c++[.ref b])/\∃(v:O4 V)(N M J:Option V),upd (upd g b<|.tup [.int t.1,.int t.2.1,u]) l (.lst<|c++[.ref b]) l=OP (.lst v) /\
    FmL (FmV A (upd (upd g b<|.tup [.int t.1,.int t.2.1,u]) l<|.lst<|c++[.ref b]) n) (upd (upd g b<|.tup [.int t.1,.int t.2.1,u]) l<|.lst<|c++[.ref b]) (de F t) v/\⇑v<=i+1/\[OP (RZ a),OP<|RZ l,OP<|RV t.1,OP<|RV t.2.1,OP u]=[↑a,↑l,N,M,J]:=λI b j=>by
   let D:upd g b (.tup [.int t.1,.int t.2.1,u]) l=OP (.lst c):=cI m j;let k:bD g (upd (upd g b<|.tup [.int t.1,.int t.2.1,u]) l<|.lst<|c++[.ref b]):=(eX j).trans<|aS D;refine((C.trans<|ai j _).upd B,c++[.ref b],_,_,_,af,?_,by rw[br,gR];lia,Z,);rw[I];exact(p.mono (λ_ _ q=>FmV.mono k q) k).snoc (aS D _ _ af) (FmV.mono k x)
  calc(!c.isEmpty,.inl (c,Rm m,Z,),?_,);rcases wU F with X|⟨F',lt,X⟩
  .subst X;let a0:c=[]:=lq p.1;let eE:(!c.isEmpty)=false:=by rw[a0];rfl
   rw[eE];calc cG<|cG ?_;refine(.inl (Z,_,Rm m,),(by show 3<=Lc;decide),λb j=>?_,);calc(l,c,_,Z,Z,cI m j,aD ∅,?_,);exact put Z b j
  .rw[yl]at X;subst X;let(G,T,ul,rfl,hy,R,a2):=p.init;let eE:(!(G++[RZ T]).isEmpty)=true:=by cases G <;> rfl
   rw[eE];calc iw ?_;calc(_,Z,l,_,_,_,Z,Z,Rm m,kn _ _,T,_,_,_,Z,Z,Rn R,Z,λa3=>FmV.eq_to ∅ a2 x ?_ a3,);calc(_,Z,?_,);refine ck (λd=>?_)<|λd=>?_
   .let d':lt.2.2=t.2.2:=mn d;let I:de (F'++[lt]) t=F'++[(lt.1,t.2.1,t.2.2)]:=by
     unfold de;rw[QY];simp only;rw[OX d',List.dropLast_concat]
    refine(_,Z,l,_,_,_,Z,Z,Rm m,kn _ _,T,_,_,_,Z,Z,Rn R,Z,(by show 3<=Lc;decide),λb j=>?_,);let D:upd g b (.tup [.int lt.1,.int t.2.1,u]) l=OP (.lst<|G++[.ref T]):=cI m j;refine(_,Z,l,_,_,_,Z,Z,D,nW (by simp),?_,);rw[ud];let k:bD g (upd (upd g b<|.tup [.int lt.1,.int t.2.1,u]) l<|.lst<|G++[.ref b]):=(eX j).trans<|aS D;refine((C.trans<|ai j _).upd B,G++[.ref b],_,_,_,af,?_,by rw[br,gR]at O⊢;lia,Z,);rw[I];exact(hy.mono (λ_ _ q=>FmV.mono k q) k).snoc (t:=(lt.1,t.2.1,t.2.2)) (aS D _ _ af) (FmV.mono k x)
   .let d':lt.2.2≠t.2.2:=pW d;let I:de (F'++[lt]) t=F'++[lt]++[t]:=by
     unfold de;rw[QY];simp only;rw[OW d']
    refine(.inl (Z,_,Rm m,),(by show 3<=Lc;decide),λb j=>?_,);calc(l,_,_,Z,Z,cI m j,aD ∅,?_,);exact put I b j
 .let(C,c,N,M,J,m,p,O,rfl):=h;let a1:FmL (FmV A g n) g (lH o) c:=by
   let e:o.take ⇑xs=o:=by rw[W.1];exact gs
   rw[e]at p;exact p
  calc(l,c,Z,.inl (Rm m,λb j=>?_,),);let st:=ai j<|.tup c;calc q b _ (C.trans st) (b,c,Z,af,a1.mono (λ_ _ z=>FmV.mono st.tups z) st.tups,)
def HR(F:Fun K "beneath_code" "beneath_code" Y32 f fd)(bl:Bl K mg Y):() 1 f fd ["form","code"] (eP K Y):=by
 refine F.okA Z32 λN A y s H O Q E R h=>?_
 let(a,I,B,c,j,t,rfl,C,M,d,q):=h
 refine(_,(aq (aG (i:=2) Z32.nd Z (bd Z) ak)
  (aq (sR cr (aL iu (aF aZ (aF aZ (pv 0) (pv 2)<|λ_ _=>Z) ak<|λ_ _=>Z) (pv 1)<|aQ _)
  (aj<|uY (i:=2) Z32.nd Z (bd Z) ak zx))
  (aj<|aE<|aF aZ (aF aZ (pv 0) (pv 2)<|λ_ _=>Z) ak<|λ_ _=>Z))),?_,)
 dsimp only[cw,Rp,Ro];show(let J:TS:=_;let L:TS:=bh _ J;bh _ L _ _ _);intro _ _;let get:∀i:Nat,i<=j->∃(u:Tri)(r:La),B[i]?=OP u/\atI I (i:Int)=↑r/\H r=OP (.tup [.int u.1,.int u.2.1,u.2.2]):=λi hi=>by
  let S:=(KO.mp d.at_).1;let e:=KN (l:=B) (i:=i) ∅;let(r,a,b):=M.2 i _ e;exact(_,r,e,bN a,b,)
 calc(let v:Nat->Rq:=λm z x=>∃i:Nat,i<=j/\m=j-i/\x=H/\z=[↑a,OP<|.int c,OP (.int i)];(v,(j,0,BG _,Z,Z,Z,),?_,));rintro m z x ⟨i,hi,rfl,rfl,rfl⟩;let(u,r,k,D,G):=get i hi;calc(a,_,_,_,Z,Z,C,D,r,_,_,_,Z,Z,Rn G,Z,_,_,Z,Z,_,Z,?_,);refine ck (λg=>?_)<|λg=>?_
 .let T:u.2.1<c:=mn g;let o:i≠j:=λh=>by
   subst h;rw[d.at_]at k;cases k;let:=d.le;lia
  refine(let v:Rq:=λn p=>p=x/\n=[↑a,OP<|.int c,OP (.int ((i+1:Nat):Int))];(v,?_,?_,))
  .rintro n p ⟨rfl,rfl⟩;exact(j-(i+1),∅,i+1,∅,Z,Z,Z,)
  .exact(_,Z,_,_,Z,Z,Z,Z,)
 .let o:i=j:=by
   by_cases h:i<j
   .exact OY (d.lt i u h k)<|pW g
   .lia
  subst o;rw[d.at_]at k;cases k;calc(a,_,_,_,Z,Z,C,D,r,_,_,_,Z,Z,Rn G,Z,q,)
def HS(F:Fun K "gathered" "gathered" Y42 f fd)(bl:Bl K mg Y):() 1 f fd ["lists"] (fK K Y):=by
 refine F.okA Z42 λa1 A B s H vs Q E G h=>?_
 let(a,as,b,L,rfl,J,g,N,W,T,q):=h
 refine(_,(aq (aG (i:=1) Z42.nd Z (bd Z)<|aU ag)
  (aq (aW cr Z (aR<|pv 0) (aC (i:=2) Z42.nd Z<|bd Z)
  (aj<|aV<|dB PySem.F.plainAttrs_list PySem.F.slot_list_extend PySem.F.type_list_extend pT (pv 1)<|ae (pv 2) ag))
  (aj<|aE<|aw (gi (w:=w) Z Z) Z bl.sorted_ PU<|ae (bC (qi (w:=w) Z Z) Z bl.set_ wr<|ae (pv 1) ag) ag))),?_,)
 dsimp only[cw,Rp,Ro];show(let O:TS:=_;let R:TS:=bh _ O;bh _ R _ _ _);intro _ _;refine((by show 0<=Lc;decide),λd m=>?_,);let t:au H (upd H d<|.lst []):=ai m _;let M:upd H d (.lst []) d=OP (.lst [] ):=af;generalize upd H d (.lst [])=H0 at t M⊢;let D:∀(A:O4 (O4 Int))(x:O4 Int),(A++[x]).flatten=A.flatten++x:=λA x=>by rw[Q4];simp
 refine(a,Z,(_,Rm<|t _ _ J,),(let I_:Nat->Rq:=λi p k=>au H k/\k d=OP (.lst<|(b.take i).flatten.map RV)/\∃v:Option V,p=[↑a,↑d,v];aY (xs:=as.map RZ) I_ (t,M,_,Z,) (λi p k _ h=>Rm<|h.1 _ _ J) (λi y p k e h=>?_) (λp k h=>?_)),)
 .let(j,c,v,rfl):=h;let(r,rfl,I):=n5 e;let(xs,u):∃xs,b[i]?=OP xs:=(_,KN (by rw[←g.1];exact(KO.mp I).1),);let(r',o,G):=g.2 i xs u;rw[I]at o;cases o;let a0:(b.take i).flatten.length+⇑xs<=1000:=by
   let h0:b.flatten=(b.take<|i+1).flatten++(b.drop<|i+1).flatten:=by rw[←Q4,List.take_append_drop]
   let X:⇑((b.take<|i+1).flatten)<=⇑b.flatten:=by rw[h0,br];lia
   rw[take_snoc u,D,br]at X;lia
  refine(.inl (Z,_,Rm c,),d,r,_,_,Z,Z,c,j _ _ G,Dn<|aD (by rw[aa,aa];lia),j.upd m,?_,_,Z,);rw[af,take_snoc u,D,fq]
 .let(j,c,v,rfl):=h;rw[aa,g.1,gs]at c;calc(d,b.flatten,Z,Rm c,∅,λl z=>?_,);let C:=ai z<|vJ w l b.flatten;calc(l,b.flatten,L,Z,af,W,T,λD2 cs n S mem=>?_,);calc q D2 cs _ ((j.trans C).trans<|ai n _) (j.free<|C.free n) af S mem
def HU(F:Fun K "corner" "corner" Y38 f fd)(bl:Bl K mg Y):() 1 f fd ["box"] (lV K Y):=by
 refine F.okA Z38 λI A u s H J Q E L h=>?_
 let(b,B,rfl,(xs,y,z),M,q):=h;refine(_,(aj<|aE<|d7 (qO<|pv 0) (dJ (N:=["low","high"]) (k:=2) Z Z (~~~0) (~~~0)<|~~~0) Z (λ_ _ _ _=>(jx (K:=K) (n:=2) Z Z<|aI (aC (i:=0) (show(["low","high"]:O4 Str).Nodup by decide+kernel) Z (bd Z) (lf Z)) (aI (aC (i:=1) (show(["low","high"]:O4 Str).Nodup by decide+kernel) Z (bd Z) (lf Z)) bF))) (λ_ _ _ _=>bG) (λ_ _ _ _=>(pv 0))),?_,);let o:=⇑z
 refine(b,Z,(_,Rn y,),i7 (xs:=xs) (λD i d c=>au H c/\c D=OP (.lst d)/\d=((B.take i).map (·.1)).map RV)
  (λD a=>(ai a _,af,Z,)) (λD i d c a _ h=>Rn<|h.1 _ _ y) (λD i x d c a e h v r=>?_) (λD d c a h=>?_),)
 .let(l,m,rfl):=h;let hi:i<⇑xs:=(KO.mp e).1;let(p,t,G,rfl,C):=z.get e;let(j,g,rfl):∃j g,v=[j,g]:=by
   match v,r with
   | [j,g],_=>exact(j,g,Z,)
  calc(t,_,Z,Rn<|l _ _ C,Z,_,_,Z,_,_,Z,Z,([OP (.int p.1),OP (.int p.2)],Z,Z,),?_,);refine(c0.mk hi m (aD (by rw[aa,aa,hZ];lia)) (l.upd a,af,?_,));rw[take_snoc G,fq,fq];rfl
 .let(l,m,rfl):=h;rw[o,gs]at m;calc q D c l a m
def HV(F:Fun K "all_among" "all_among" Y31 f fd)(bl:Bl K mg Y):() 1 f fd ["text","signs"] (gH K Y):=by
 refine F.okA Z31 λp A m s H r Q E t h=>?_
 let(z,g,rfl,q):=h
 refine(_,(aq (aW cr Z (DG<|pv 0) (aC (i:=2) Z31.nd Z<|bd Z)
  (aj (aX (aL qP (pv 2) (pv 1) (by with_unfolding_all rfl))
  (aj<|aE ip)
  aN)))
  (aj<|aE ip)),?_,)
 refine(z,Z,(let o:Nat->Rq:=λi a l=>(∃k:Option V,a=[OP (.str z),OP<|.str g,k])/\l=H/\(z.cps.toList.take i).all (sg g)=OR;BH o ((_,Z,),Z,Z,) (λi c a l e h=>?_) (λa l h=>?_)),)
 .let((k,rfl),j,b):=h;rw[j];calc(_,_,Z,Z,_,Z,?_,);refine ck (λd=>?_)<|λd=>?_
  .let n:sY z g=false:=DV e<|DW d;rw[n]at q;exact q
  .exact((_,Z,),Z,all_succ e (FV d) b,)
 .let((k,rfl),j,b):=h;rw[j];rw[AB b]at q;calc q
def HW(F:Fun K "is_whole" "is_whole" Y45 f fd)(bl:Bl K mg Y):() 1 f fd ["value"] (fL K Y):=by
 refine F.okA Z45 λb A a s H c Q E d h=>?_
 let(i,rfl,q):=h;calc(_,(aj<|aE<|mY (aw lE Z bl.isinstance_ GE<|ae (pv 0)<|ae (wK (v:=.ty "int") Z bl.int_ PyProof.Rows.boot_int Z) ag)<|qL<|Dh<|aw lE Z bl.isinstance_ GE<|ae (pv 0)<|ae (wK (v:=.ty "bool") Z bl.bool_ PyProof.Rows.boot_bool Z) ag),?_,);calc(_,_,_,_,OR,Z,.ty _,.inl<|.int _,(by first|rfl|with_unfolding_all rfl|decide+kernel),_,Z,iw (_,_,_,_,OS,Z,.ty _,.inl<|.int _,(by first|rfl|with_unfolding_all rfl|decide+kernel),_,Z,q,),)
def HX(F:Fun K "refuse_counts" "refuse_counts" Y75 f fd)(bl:Bl K mg Y):() 1 f fd ["names","rows"] (dW K Y):=by
 refine F.okA Z76 λe A a s H i Q E k h=>?_
 let(p,r,b,g,rfl,d,c,m,l,j,q):=h
 refine(_,(aq (aX (dF<|gd eY eY ak (aw az Z bl.len_ OO<|ae (pv 0) ag)<|gh Z bl.MOST_COLUMNS_)
  (aj bR)
  aN)
  (aj (aX (aL mh (aw az Z bl.len_ OO<|ae (pv 1) ag) (gh Z bl.MOST_ROWS_)<|aQ _)
  (aj bR)
  aN))),?_,)
 calc(p,_,Z,.inl<|d,_,_,Z,Z,_,Z,hV ∅ ?_,);calc(_,_,Z,Z,_,Z,?_,);rw[OZ (show((⇑b:Nat):Int)<=4 by lia)];calc cG ?_;calc(r,_,Z,.inl<|c,_,_,Z,Z,_,Z,cD ∅ q,)
def HY(F:Fun K "own_row" "own_row" Y68 f fd)(bl:Bl K mg Y):() 1 f fd ["cells","code"] (jJ K Y):=by
 refine F.okA Z68 λT A y s H V Q E X h=>?_
 let(S,xs,G,rfl,B,t,Gg,q):=h;refine(_,(aj<|aE<|bf<|ae (cZ (aR<|pv 0) (fA Z (~~~0) (~~~0) (~~~0) Z) Z (λ_ _ _ _=>bG)<|λ_ _ _ _=>(bC (pe (K:=K) Z) Z bl.list_ ls<|ae (pv 0) ag))<|ae (pv 1) ag),?_,)
 refine(S,Z,(_,Rm B,),dS (xs:=xs) (λD i g d=>au H d/\d D=OP (.lst g)/\CL (Fr H D) d g (G.1.take i))
  (λD m=>(ai m _,af,aJ.nil,)) (λD i g d m _ h=>Rm<|h.1 _ _ B) (λD i x g d m e h=>?_) (λD g d m h=>?_),)
 .let(k,u,p):=h;let(l,W,rfl,O,M):=aJ.get t e;let(_,n,R,L):=M.same k;let hi:i<⇑xs:=(KO.mp e).1;let v:⇑g<Lc:=by
   let N:=p.1;rw[hZ]at N;exact aD ∅
  calc(l,_,Z,.inl<|Rm R,λo c=>?_,);let s2:=ai c<|.lst n;let C:upd d o (.lst n) o=OP (.lst n):=af;let j:=s2 _ _ u;generalize upd d o (.lst n)=H2 at s2 C j⊢;let J:H o=none:=k.free c;let I:o≠D:=λz=>by rw[z,u]at c;cases c
  calc c0.mk hi j v ((k.trans s2).upd m,af,?_,);rw[take_snoc O];exact CL.updN (aJ.snoc (p.same s2) ((J,I,),n,C,L.mono s2.tups,)) Fr.out j
 .let(k,u,p):=h;rw[t.1,gs]at p;calc(b9,λr b=>q r _ (k.trans<|ai b _) (k.free b) (D,g,af,m,ai b _ _ _ u,?_,),);calc(p.same<|ai b _).wk λa h=>h.1
def HZ(F:Fun K "table_bounds" "table_bounds" Y82 f fd)(bl:Bl K mg Y):() 1 f fd ["table"] (cE K Y):=by
 refine F.okA Z84 λa4 A I s H vs Q E hr h=>?_
 let(t,x,bs,a0,rfl,(rl,dx,W,fs,xs,M,f1,S,p,o,a2,hR),hb,q):=h;calc(_,(aj<|aE<|cZ (aR<|cj (pv 0) Z) (fA Z (~~~0) (~~~0) (~~~0) Z) Z (λ_ _ _ _=>bG)<|λ_ _ _ _=>(bf<|ae (mQ (K:=K) Z (pv 0) Z)<|ae (mQ (K:=K) Z (pv 0) Z) ag)),?_,);let G:⇑x=⇑bs:=o.1;refine(t,_,_,_,_,Z,M,bl.k_Table,bl.na_Table_domains,S,W,Z,(_,Rm p,),(let X:La->Nat->O4 V->Rr:=λD i j c=>au H c/\c D=OP (.lst j)/\PL c j (bs.take i);dS (xs:=x) X (λD k=>(ai k _,af,.nil,)) (λD i j c k _ h=>Rm<|h.1 _ _ p) (λD i y j c k e h=>?_) (λD j c k h=>?_)),)
 .let(l,v,m):=h;let(a,b,rfl,T,C,N,a3,a1,J,R,O,_):=aJ.get o e;let hi:i<⇑x:=(KO.mp e).1;let u:Cls K C/\NoAttr K C s!"low"/\NoAttr K C s!"high":=by
   rcases N with rfl|rfl
   .exact(bl.k_Numbers,bl.na_Numbers_low,bl.na_Numbers_high,)
   .exact(bl.k_Words,bl.na_Words_low,bl.na_Words_high,)
  calc(a,_,_,_,_,Z,l _ _ J,u.1,u.2.1,R,a,_,_,_,_,Z,l _ _ J,u.1,u.2.2,O,b9,λg B=>?_,);let r:=ai B<|.tup [.int b.1,.int b.2];let L:upd c g (.tup [.int b.1,.int b.2]) g=OP (.tup [.int b.1,.int b.2]):=af;let d:=r _ _ v;let n:=m.mono r.tups;generalize upd c g (.tup [.int b.1,.int b.2])=H4 at r L d n⊢;let z:=⇑m;rw[hZ]at z;calc c0.mk hi d (aD ∅) ((l.trans r).upd k,af,?_,);rw[take_snoc T];exact(n.mono<|aS d).snoc (aS d _ _ L)
 .let(l,v,m):=h;rw[G,gs]at m;calc q D j c l k v m
def Ia(F:Fun K "side_of" "side_of" Y80 f fd)(bl:Bl K mg Y):() 1 f fd ["tree","codes"] (jK K Y):=by
 refine F.okA Z82 λk A d s H m Q E n h=>?_
 let(a,l,x,y,c,b,j,rfl,e,g,i,q):=h;calc(_,(aj<|aE<|iq (aL iu (aF aO (pv 1) (aF aZ (pv 0) ak<|λ_ _=>Z)<|λ_ _=>Z) (aF aZ (pv 0) ak<|λ_ _=>Z)<|aQ _) (gh Z bl.BELOW_)<|gh Z bl.ABOVE_),?_,);calc(a,_,_,_,Z,Z,Rn e,Z,l,_,_,_,Z,Z,Rm g,xF Z i,a,_,_,_,Z,Z,Rn e,Z,_,_,Z,Z,_,Z,?_,);cases hd:decide (j.getD c 0<b) with
 |true =>
  rw[hd]at q;exact iw q
 |false =>
  rw[hd]at q;calc cG q
def Ib(F:Fun K "tree_on" "tree_on" Y84 f fd)(bl:Bl K mg Y):() 1 f fd ["tree","side"] (jL K Y):=by
 refine F.okA Z86 λj A d s H k Q E l h=>?_
 let(a,x,y,c,i,b,rfl,e,q):=h;calc(_,(aj<|aE<|iq (aL cO (pv 1) (gh Z bl.BELOW_)<|aQ _) (aF aZ (pv 0) ak<|λ_ _=>Z)<|aF aZ (pv 0) ak<|λ_ _=>Z),?_,);calc(Z,_,Z,?_,);cases b with
 |true=>exact ck (λ_=>(a,_,_,_,Z,Z,Rn e,Z,q,)) (λg=>OY ⋯ g)
 |false=>calc ck (λg=>OY g ⋯) (λ_=>(a,_,_,_,Z,Z,Rn e,Z,q,))
def Ic(F:Fun K "with_pair" "with_pair" Y88 f fd)(bl:Bl K mg Y):() 1 f fd ["box","column","pair"] (gJ K Y):=by
 refine F.okA Z91 λG A g s H I Q E J h=>?_
 let(b,p,B,c,lo,hi,rfl,(a,m,l),x,y,L,q):=h;calc(_,(aj<|aE<|ay kq (ay kq (gf vp (pv 0) i5<|i6<|pv 1)<|bf<|ae (pv 2) ag)<|gf vp (pv 0) (i6<|ay bw (pv 1) ak) i5),?_,);let D:=⇑l;let z0:¬ (HT.sIx ⇑a 0 OQ=0/\HT.sIx ⇑a ⇑a (OP (c:Int))=⇑a):=λz=>by
  let:=z.2;rw[HT.sIx_nat]at this;lia
 let z1:¬ (HT.sIx ⇑a 0 (OP<|(c:Int)+1)=0/\HT.sIx ⇑a ⇑a OQ=⇑a):=λz=>by
  let:=z.1;rw[show(c:Int)+1=((c+1:Nat):Int) by lia,HT.sIx_nat]at this;lia
 calc(_,Z,b,a,Z,Rn m,z0,λR v=>?_,);rw[xB a ∅];refine((by show 1<=Lc;decide),λO k=>kJ (by rw[ar (bc af k)];exact af) af (Dn<|aD (by rw[hZ];simp;lia)) λN S u n=>?_,);let i:=((ai v _).trans<|ai k _).trans u;calc(_,_,Z,Z,_,Z,b,a,Z,Rn<|i _ _ m,z1,λM j=>?_,);rw[show(c:Int)+1=((c+1:Nat):Int) by lia,yJ a ∅];refine kJ (by rw[ar (bc n j)];exact n) af (Dn<|aD (by rw[br,hZ,rz];simp;lia)) λr o t C=>?_
 let e:=(i.trans<|ai j _).trans t;calc q r o e (_,C,?_,);rw[←yK y];let d:PL o a B:=l.mono e.tups;calc((Eh d c).app<|.cons (p,Z,e _ _ x,) .nil).app (Ei d<|c+1)
def Ie(F:Fun K "refuse_blocks" "refuse_blocks" Y74 f fd)(bl:Bl K mg Y):() 1 f fd ["marks"] (dX K Y):=by
 refine F.okA Z75 λJ A t s H L Q E N h=>?_
 let(l,z,a,rfl,d,v,p,S,e,q):=h
 refine(_,(aq (aG (i:=1) Z75.nd Z (bd Z) ak)
  (aq (aW cr Z (aR<|pv 0) (aC (i:=2) Z75.nd Z<|bd Z)
  (aj<|uY (i:=1) Z75.nd Z (bd Z) (ay mO (ay lr (ay bw (aw az Z bl.len_ OO<|ae (pv 2) ag) ak)<|ay bw (aw az Z bl.len_ OO<|ae (pv 2) ag) ak) ak) Ae))
  (aj (aX (aL mh (pv 1) (gh Z bl.MOST_BLOCKS_)<|aQ _)
  (aj bR)
  aN)))),?_,)
 dsimp only[cw,Rp,Ro];show(let B:TS:=_;let C:TS:=bh _ B;bh _ C _ _ _);intro _ _;refine(l,Z,(_,Rm d,),(let G:Nat->Rq:=λi j k=>k=H/\∃o:Option V,j=[↑l,OP<|.int ((ig a i:Nat):Int),o];aY (xs:=z.map RZ) G (Z,_,Z,) (λi j k _ h=>by rw[h.1];exact Rm d) (λi y j k D h=>?_) (λj k h=>?_)),)
 .let(n,o,rfl):=h;rw[n];let(r,rfl,x):=n5 D;let(b,m):∃b,a[i]?=OP b:=(_,KN (by rw[←v.1];exact(KO.mp x).1),);let(M,g,c):=v.2 i b m;rw[x]at g;cases g;let R:=p b<|KP m;let O:=e i;let u:⇑(b.map RV)=⇑b:=aa ..;refine(_,Z,r,_,Z,.inl<|Rm c,_,_,Z,Z,r,_,Z,.inl<|Rm c,_,_,Z,Z,_,_,Z,Z,(.inl (by rw[u];lia)),_,_,Z,Z,(by unfold E6;decide),_,_,Z,Z,zC.ok<|.inl (∅,∅,),Z,↑r,?_,);rw[u,jd m];show[OP (RZ l),OP<|.int<|((ig a i:Nat):Int)*((((⇑b:Nat):Int)+1)*(((⇑b:Nat):Int)+2) / 2),↑r]=_;rw[KQ,Int.natCast_ediv,KQ];rfl
 .let(n,o,rfl):=h;rw[n];let I:ig a ⇑(z.map RZ)<=600:=e _;refine(_,_,Z,Z,OS,?_,cG ?_,)
  .rw[O0 ∅]
  .exact q
def Ig(F:Fun K "pairs_of" "pairs_of" Y69 f fd)(bl:Bl K mg Y):() 1 f fd ["parts"] (iN K Y):=by
 refine F.okA Z69 λa4 A X s H vs Q E hr h=>?_
 let(l,g,b,rfl,I,L,W,q):=h
 refine(_,(aq (aG (i:=1) Z69.nd Z (bd Z)<|aU ag)
  (aq (aW cr Z (bB Z bl.range_<|ae (aw az Z bl.len_ OO<|ae (pv 0) ag) ag) (aC (i:=2) Z69.nd Z<|bd Z)
  (aj (aW cr Z (bB Z bl.range_<|ae (ay b7 (aw az Z bl.len_ OO<|ae (pv 0) ag)<|pv 2) ag) (aC (i:=3) Z69.nd Z<|bd Z)
  (aj<|aV<|dB PySem.F.plainAttrs_list PySem.F.slot_list_append PySem.F.type_list_append bg (pv 1)<|ae (bf<|ae (aF aZ (aF aO (pv 0) (pv 3)<|λ_ _=>Z) ak<|λ_ _=>Z)<|ae (aF aZ (aF aO (pv 0) (ay bw (pv 3)<|pv 2)<|λ_ _=>Z) ak<|λ_ _=>Z) ag) ag))))
  (aj<|aE<|pv 1))),?_,)
 dsimp only[cw,Rp,Ro];show(let D:TS:=_;let G:TS:=bh _ D;bh _ G _ _ _);intro _ _;let B:=L.length;refine((by show 0<=Lc;decide),λj u=>?_,);let J:au H (upd H j<|.lst []):=ai u _;let e0:upd H j (.lst []) j=OP (.lst []):=af;generalize upd H j (.lst [])=H0 at J e0⊢;refine⟨l,_,Z,.inl<|Rm<|J _ _ I,_,Z,(by show -(2^62)<=((⇑g:Nat):Int);lia),(by show((⇑g:Nat):Int)<2^62;lia),(let O:Nat->Rq:=λd m r=>au H r/\∃(y:O4 V)(N p:Option V),r j=OP (.lst y)/\PL r y (kL b d)/\m=[↑l,↑j,N,p];dA O (J,[],_,_,e0,.nil,Z,) (λd m S hd n=>?_) (λm S n=>?_))⟩
 .let(C,k,N,p,M,e,rfl):=n;let hd:d<⇑g:=hd;refine⟨l,_,Z,.inl<|Rm<|C _ _ I,_,_,Z,Z,((⇑g-d:Nat):Int),(by rw[show((⇑g:Nat):Int)-(0+(d:Int))=((⇑g-d:Nat):Int) by lia]),∅,∅,(let O:Nat->Rq:=λi m r=>au H r/\∃(y:O4 V)(p:Option V),r j=OP (.lst y)/\PL r y (kL b d++kK b d i)/\m=[↑l,↑j,OP<|.int<|0+(d:Int),p];dA O (C,k,_,M,by rw[show kK b d 0=[]from Z,jm];exact e,Z,) (λi m R hi n=>?_) (λm R n=>?_))⟩
  .let(s2,a,p,x,c,rfl):=n;let hi:i<⇑g-d:=hi;let(G,a1,g1):=Ej L (i:=i) ∅;let(D,a2,g2):=Ej L (i:=i+d) ∅;let b1:atI g (0+(i:Int))=↑G:=by rw[show 0+(i:Int)=(i:Int) by lia];exact bN a1
   let b2:atI g (0+(i:Int)+(0+(d:Int)))=↑D:=by rw[show 0+(i:Int)+(0+(d:Int))=((i+d:Nat):Int) by lia];exact bN a2
   refine(.inl (Z,_,Rm x,),l,_,_,_,Z,Z,Rm<|s2 _ _ I,b1,G,_,_,_,Z,Z,Rn<|s2 _ _ g1,Z,_,_,Z,Z,l,_,_,_,Z,Z,Rm<|s2 _ _ I,b2,D,_,_,_,Z,Z,Rn<|s2 _ _ g2,Z,(by show 2<=Lc;decide),λt v=>?_,);let e3:upd R t (.tup [.int (b.getD i (0,0)).1,.int (b.getD (i+d) (0,0)).2]) j=OP (.lst a):=by rw[ar (bc x v)];exact x
   let T:=⇑c;let a0:=AX b d;let a3:d*⇑b<=30*30:=ET ∅ W;rw[br,n9]at T;calc(j,a,_,Z,Z,e3,aD ∅,?_,);let st:=(eX v (o:=.tup [.int (b.getD i (0,0)).1,.int (b.getD (i+d) (0,0)).2])).trans<|aS e3 (o:=.lst<|a++[.ref t]);calc((s2.trans<|ai v _).upd u,a++[.ref t],_,af,?_,Z,);rw[yL,←mz];exact(c.mono st).snoc (by rw[ar (λz=>by rw[z]at v;rw[x]at v;cases v)];exact af)
  .let(s2,a,p,x,c,rfl):=n;let c:PL R a (kL b d++kK b d (⇑g-d)):=c;exact(s2,a,_,_,x,by rw[lP,←B];exact c,Z,)
 .let(C,k,N,p,M,e,rfl):=n;let e:PL S k (kL b ⇑g):=e;rw[B]at e;calc(q j k S C u M e)
def Ih(F:Fun K "with_column" "with_column" Y87 f fd)(bl:Bl K mg Y):() 1 f fd ["blocks","pairs"] (fg K Y):=by
 refine F.okA Z90 λa8 A a6 s H vs Q E hr h=>?_
 let(x,S,us,xs,M,a,rfl,I,hB,h5,G,hP,hm,q):=h
 refine(_,(aq (aG (i:=2) Z90.nd Z (bd Z)<|aU ag)
  (aq (aW cr Z (aR<|pv 0) (aC (i:=3) Z90.nd Z<|bd Z)
  (aj (aW cr Z (aR<|pv 1) (aC (i:=4) Z90.nd Z<|bd Z)
  (aj<|aV<|dB PySem.F.plainAttrs_list PySem.F.slot_list_append PySem.F.type_list_append bg (pv 2)<|ae (ay kq (pv 3)<|bf<|ae (pv 4) ag) ag))))
  (aj<|aE<|pv 2))),?_,)
 dsimp only[cw,Rp,Ro];show(let r2:TS:=_;let r1:TS:=bh _ r2;bh _ r1 _ _ _);intro _ _;let a1:=⇑hP;let a2:=hB.1;refine((by show 0<=Lc;decide),λc u=>?_,);let R:au H (upd H c<|.lst []):=ai u _;let e0:upd H c (.lst []) c=OP (.lst []):=af;generalize upd H c (.lst [])=H0 at R e0⊢;refine⟨x,Z,(_,Rm<|R _ _ I,),(let I_:Nat->Rq:=λi g k=>au H k/\∃(C:O4 V)(X n:Option V),k c=OP (.lst C)/\BkL k C (wid (M.take i) a)/\g=[↑x,↑S,↑c,X,n];aY (xs:=us) I_ (R,[],_,_,e0,aJ.nil,Z,) (λi g k _ h=>Rm<|h.1 _ _ I) (λi y g H1 ey m=>?_) (λg H1 m=>?_))⟩
 .let(J,o,X,n,W,l,rfl):=m;let(b,B,rfl,T,ub,a3,Gh):=aJ.get hB ey;let hi:i<M.length:=(KO.mp T).1;let a7:=h5 B<|KP T;let D:=rP (M.take i) a;let a4:(i+1)*⇑a<=1000:=BK (Nat.mul_le_mul_right _ hi) hm;rw[F9]at a4;rw[hZ,Qj (Dn hi)]at D;refine⟨S,Z,(_,Rm<|J _ _ G,),(let I_:Nat->Rq:=λj g k=>au H k/\∃(C:O4 V)(n:Option V),k c=OP (.lst C)/\BkL k C (wid (M.take i) a++lO B (a.take j))/\g=[↑x,↑S,↑c,↑b,n];aY (xs:=xs) I_ (J,o,_,W,by rw[show lO B (a.take 0)=[]from Z,jm];exact l,Z,) (λj g k _ h=>Rm<|h.1 _ _ G) (λj y g H2 a5 m=>?_) (λg H2 m=>?_))⟩
  .let(s2,d,n,L,e,rfl):=m;let(p,t,ep,rfl,ht):=hP.get a5;let hj:j<⇑a:=(KO.mp ep).1;refine(.inl (Z,_,Rm L,),(by show 1<=Lc;decide),λt1 n1=>?_,);let u1:=ai n1<|.tup [.ref t];refine kJ ((s2.trans u1) _ _ a3) af (Dn<|aD (by rw[Gh.length,gR];lia)) λr H4 s4 e4=>?_
   let N:=u1.trans s4;let v:=N _ _ L;let a0:=e.1;rw[br,D,show⇑(lO B<|a.take j)=⇑(a.take j) from aa ..,hZ]at a0;calc(c,d,_,Z,Z,v,aD ∅,(s2.trans N).upd u,d++[.ref r],_,af,?_,Z,);let O:bD H2 (upd H4 c<|.lst<|d++[.ref r]):=N.tups.trans<|aS v;rw[show lO B (a.take<|j+1)=lO B (a.take j)++[B++[p]] by unfold lO;rw[take_snoc ep,fq];rfl,←mz];calc aJ.snoc (e.mono λ_ _ z=>BxA.mono z O) (_,aS v _ _ e4,?_,);exact(Gh.mono<|s2.tups.trans O).app (.cons (t,Z,O _ _<|s2 _ _ ht,) .nil)
  .let(s2,d,n,L,e,rfl):=m;rw[a1,gs,←AW T]at e;exact(s2,d,_,_,L,e,Z,)
 .let(J,o,X,n,W,l,rfl):=m;rw[a2,gs]at l;calc(q c o H1 J u W l)
def Ii(F:Fun K "_law_at" "_law_at" Y49 f fd)(bl:Bl K mg Y):() 1 f fd ["script","k"] (dE K Y):=by
 refine F.okA Z49 λm A g s H n Q E o h=>?_
 let(a,b,k,rfl,j,p,q):=h
 refine(_,(aq (aX (aL iu (pv 1) (aw az Z bl.len_ OO<|ae (pv 0) ag)<|aQ _)
  (aj<|aE<|aF aO (pv 0) (pv 1)<|λ_ _=>Z)
  aN)
  (aj<|aE ak)),?_,)
 calc(a,_,Z,.inl j,_,_,Z,Z,_,Z,?_,);refine ck (λc=>?_)<|λc=>?_
 .let e:k<((⇑(b.map RV):Nat):Int):=mn c;rw[aa]at e;let i:k.toNat<⇑b:=∅
  let d:bE b k=b[k.toNat]:=by unfold bE;rw[ab,KN i];rfl
  let l:atI (b.map RV) k=OP (.int b[k.toNat]):=by
   let z:atI (b.map RV) ((k.toNat:Nat):Int)=OP (.int b[k.toNat]):=bN (by rw[dy,KN i];rfl);rw[show((k.toNat:Nat):Int)=k by lia]at z;exact z
  rw[d]at q;exact(a,_,_,_,Z,Z,j,l,q,)
 .let e:=pW c;rw[aa]at e;let d:bE b k=0:=by unfold bE;rw[ab,lg ∅];rfl
  rw[d]at q;calc q
def Ij(F:Fun K "_law_spans" "_law_spans" Y57 f fd)(bl:Bl K mg Y):() 1 f fd ["bits","fence"] (gK K Y):=by
 refine F.okA Z57 λb4 A b1 s H vs Q E hr h=>?_
 let(l,j,m,rfl,el,L,a7,q):=h
 refine(_,(aq (aG (i:=2) Z57.nd Z (bd Z)<|aU ag)
  (aq (aW cr Z (bB Z bl.range_<|ae (ay b7 (aw az Z bl.len_ OO<|ae (pv 1) ag) ak) ag) (aC (i:=3) Z57.nd Z<|bd Z)
  (aj (aX (aL cO (ay ve (ay vc (pv 0)<|pv 3) ak) ak<|aQ _)
  (aj (aX (PW.pt<|lp (aL mh (aw az Z bl.len_ OO<|ae (pv 2) ag) ak<|aQ _)<|i3<|aL cO (aF aZ (aF aO (pv 2) (km gB ak)<|λ_ _=>Z) ak<|λ_ _=>Z) (ay b7 (aF aO (pv 1) (pv 3)<|λ_ _=>Z) ak)<|aQ _)
  (aj<|qN (bf<|ae (aF aZ (aF aO (pv 2) (km gB ak)<|λ_ _=>Z) ak<|λ_ _=>Z)<|ae (ay b7 (aF aO (pv 1) (ay bw (pv 3) ak)<|λ_ _=>Z) ak) ag)<|qM (pv 2) (km gB ak) set_list)
  (aj<|aV<|dB PySem.F.plainAttrs_list PySem.F.slot_list_append PySem.F.type_list_append bg (pv 2)<|ae (bf<|ae (aF aO (pv 1) (pv 3)<|λ_ _=>Z)<|ae (ay b7 (aF aO (pv 1) (ay bw (pv 3) ak)<|λ_ _=>Z) ak) ag) ag)))
  aN)))
  (aj<|aE<|pv 2))),?_,)
 dsimp only[cw,Rp,Ro];show(let r2:TS:=_;let r1:TS:=bh _ r2;bh _ r1 _ _ _);intro _ _;let h2:=L.two;let b3:=L.few;refine((by show 0<=Lc;decide),λb B=>?_,);let s0:au H (upd H b<|.lst []):=ai B _;let e0:upd H b (.lst []) b=OP (.lst []):=af;generalize upd H b (.lst [])=H0 at s0 e0⊢;let C:⇑(j.map RV)=⇑j:=aa _;refine⟨l,_,Z,.inl<|Rm<|s0 _ _ el,_,_,Z,Z,_,Z,(by rw[C];lia),(by rw[C];lia),(let I_:Nat->Rq:=λi σ k=>au H k/\∃(d:O4 V)(u:Prs)(c3:Option V),k b=OP (.lst d)/\PL k d u/\⇑d<=i/\(∀p∈u,loP j<=p.1/\p.2<=hiP j)/\SpG j m i u/\σ=[OP (.int m),↑l,↑b,c3];dA I_ (s0,[],[],_,e0,.nil,Ab _,(λp h=>by cases h),SpG.nil,Z,) (λi σ k hi hh=>?_) (λσ k hh=>?_))⟩
 .let(N,d,u,c3,v,O,W,e,o,rfl):=hh;rw[C]at hi;let a9:i+1<⇑j:=∅
  let(G,g):∃x,j[i]?=OP x:=(_,KN ∅,);let(y,n):∃x,j[i+1]?=OP x:=(_,KN a9,);let a5:=L.lo g;let X:=L.hi n;let T:atI (j.map RV) (0+(i:Int))=OP (.int G):=jj<|get_map g;let S:atI (j.map RV) (0+(i:Int)+1)=OP (.int y):=by
   let:=jj<|get_map n;rw[show(0:Int)+((i+1:Nat):Int)=0+(i:Int)+1 by lia]at this;exact this
  let D:=N _ _ el;refine(_,_,Z,Z,(by show(0:Int)<=0+(i:Int);lia),_,_,Z,Z,Z,_,Z,?_,);let a2:=AM a7 i;refine ck (λg0=>?_) (λg0=>(N,d,u,_,v,O,∅,e,o.skip L g n (by rw[←a2];exact KW.mpr g0),Z,));let gb:bJ m i=true:=by rw[←a2];exact g0
  calc(b,_,Z,.inl<|Rm v,_,_,Z,Z,_,Z,?_,);calc ck (λg1=>?_)<|λg1=>cG ?e1;let a3:(0:Int)<((⇑d:Nat):Int):=mn g1;let(M,r,a4,p,ey,eq,b0,er):=O.last (by intro z;rw[z]at a3;simp at a3);let il:atI d (-1)=↑r:=by rw[ey];exact kn _ _
  calc(_,Z,b,_,_,_,Z,Z,Rm v,il,r,_,_,_,Z,Z,Rn er,z1 _ _,l,_,_,_,Z,Z,Rm D,T,_,_,Z,Z,Z,_,Z,?_,);calc ck (λg2=>?_)<|λg2=>?e2;let a8:p.2=G-1:=by have z:=O1 g2;injection z
  subst ey eq;calc(_,Z,b,_,_,_,Z,Z,Rm v,kn _ _,r,_,_,_,Z,Z,Rn er,z0 _ _,_,_,Z,Z,l,_,_,_,Z,Z,Rm D,S,_,_,Z,Z,b9,λt J=>?_,);let I:upd k t (.tup [.int p.1,.int (y-1)]) b=OP (.lst<|M++[.ref r]):=cI v J;refine(_,Z,b,_,_,_,Z,Z,I,nW (by simp),?_,);rw[ud];let st:bD k (upd (upd k t<|.tup [.int p.1,.int (y-1)]) b<|.lst<|M++[.ref t]):=(eX J).trans<|aS I;refine((N.trans<|ai J _).upd B,M++[.ref t],a4++[(p.1,y-1)],_,af,(b0.mono st).snoc<|aS I _ _ af,?_,λR a=>?_,o.join L g n gb a8,Z,)
  .rw[br,gR]at W⊢;lia
  .rcases gw.mp a with a|a
   .exact e R<|jS _ a
   .rw[show R=(p.1,y-1) by simpa using a];exact((e p (by simp)).1,X,)
  all_goals
   let a6:∀p∈u,p.2≠G-1:=by
    first
    |exact λp_ c z=>(gw.mp (show p_∈_++[p] by rw[←eq];exact c)).elim (λc=>by rw[eq]at o;let h1:=(oR.mp o.pw).2.2 p_ c p<|dV.mpr Z;let h2:=o.le p<|hE _<|dV.mpr Z;let h3:=o.bel G g p<|hE _<|dV.mpr Z;lia) λc=>by rw[dV.mp c]at z;exact g2<|OZ (by rw[z])
    |exact λp_ c=>OY (show 0<⇑d by rw[O.length];exact QJ c) λz=>g1<|OZ ∅
   calc(.inl (Z,_,Rm v,),l,_,_,_,Z,Z,Rm D,T,_,_,Z,Z,l,_,_,_,Z,Z,Rm D,S,_,_,Z,Z,b9,λt J=>?_,);let I:upd k t (.tup [.int G,.int (y-1)]) b=OP (.lst d):=cI v J;calc(b,_,_,Z,Z,I,aD ∅,?_,);let st:bD k (upd (upd k t<|.tup [.int G,.int (y-1)]) b<|.lst<|d++[.ref t]):=(eX J).trans<|aS I;refine((N.trans<|ai J _).upd B,d++[.ref t],u++[(G,y-1)],_,af,(O.mono st).snoc<|aS I _ _ af,by rw[br,gR];lia,λR a=>?_,o.put L g n gb a6,Z,);rcases gw.mp a with a|a
   .exact e R a
   .rw[show R=(G,y-1) by simpa using a];exact(a5,X,)
 .let(N,d,u,c3,v,O,W,e,o,rfl):=hh;rw[show((⇑(j.map RV):Int)-1).toNat=⇑j-1 by rw[C];lia]at o;calc(q b u k N (B,d,v,O,) e o)
def Ik(F:Fun K "_law_numbers" "_law_numbers" Y52 f fd)(bl:Bl K mg Y):() 1 f fd ["script"] (fh K Y):=by
 refine F.okA Z52 λa1 A I s H vs Q E hr h=>?_
 let(a,n,rfl,L,a0,q):=h
 refine(_,(aq (aG (i:=1) Z52.nd Z (bd Z)<|aU ag)
  (aq (aW cr Z (xR Z bl.range_<|ae ak<|ae (aw az Z bl.len_ OO<|ae (pv 0) ag) ag) (aC (i:=2) Z52.nd Z<|bd Z)
  (aq (aG (i:=3) Z52.nd Z (bd Z)<|ay bu (aF aO (pv 0) (pv 2)<|λ_ _=>Z)<|ay cB ak ak)
  (aj (aX (aL iu (aw az Z bl.len_ OO<|ae (pv 1) ag) ak<|aQ _)
  (aj<|aV<|dB PySem.F.plainAttrs_list PySem.F.slot_list_append PySem.F.type_list_append bg (pv 1)<|ae (pv 3) ag)
  (aj<|qN (ay bu (ay bw (ay lr (aF aO (pv 1) (ay bu (pv 2) ak)<|λ_ _=>Z) ak)<|pv 3)<|ay cB ak ak)<|qM (pv 1) (ay bu (pv 2) ak) set_list)))))
  (aj<|aE<|pv 1))),?_,)
 dsimp only[cw,Rp,Ro];show(let O:TS:=_;let R:TS:=bh _ O;bh _ R _ _ _);intro _ _;refine((by show 0<=Lc;decide),λl p=>?_,);let t:au H (upd H l<|.lst<|[].map RV):=ai p _;let N:upd H l (.lst<|[].map RV) l=OP (.lst<|[].map RV):=af;let M:upd H l (.lst [])=upd H l (.lst<|[].map RV):=rfl;rw[M];clear M;generalize upd H l (.lst<|[].map RV)=H0 at t N⊢;let j:⇑(n.map RV)=⇑n:=aa _;refine⟨a,_,Z,.inl<|t.seq L,_,_,Z,(⋯,⋯,by rw[j];lia,by rw[j];lia,),(let X:Nat->Rq:=λi r o=>au H o/\∃(b:O4 Int)(y v:Option V),o l=OP (.lst<|b.map RV)/\⇑b<=12/\r=[↑a,↑l,y,v];dA X (t,[],_,_,N,BG _,Z,) (λi r o hi u=>?_) (λr o u=>?_))⟩
 .let(m,b,y,v,e,k,rfl):=u;rw[j]at hi;let D:7+i<⇑n:=∅
  let(c,W):∃c,n[7+i]?=OP c:=(_,KN D,);let C:atI (n.map RV) (7+(i:Int))=OP (.int c):=by
   let:=bN<|get_map W;rw[show(((7+i:Nat)):Int)=7+(i:Int) by lia]at this;exact this
  let G:=m.seq L;let d:⇑(b.map RV)=⇑b:=aa _;calc(a,_,_,_,Z,Z,G,C,_,_,Z,Z,(⋯,⋯,⋯,),_,_,Z,Z,p10 _,?_,);calc(l,_,Z,.inl<|Rm e,_,_,Z,Z,_,Z,?_,);refine ck (λg=>?_)<|λg=>?_
  .let g:((⇑b:Nat):Int)<12:=by have:=O1 g;rw[d]at this;exact this
   refine(.inl (Z,_,Rm e,),l,_,_,Z,Z,e,aD (by rw[d];lia),?_,);exact(m.upd p,b++[_],_,_,by rw[af,fq];rfl,by rw[br,gR];lia,Z,)
  .let g:12<=⇑b:=by
    let:¬ ((((⇑(b.map RV):Nat)):Int)<12):=λz=>g<|OZ z
    rw[d]at this;lia
   let J:=Kq (7+(i:Int)) (show(12:Int)≠0 by decide);let j1:=Kx (7+(i:Int)) (show(0:Int)<12 by decide);let(x,T):∃x,b[((7+(i:Int))%12).toNat]?=OP x:=(_,KN ∅,);let S:atI (b.map RV) ((7+(i:Int))%12)=OP (.int x):=by
    let:=bN<|get_map T;rw[Int.toNat_of_nonneg J]at this;exact this
   let B:ixN ⇑(b.map RV) ((7+(i:Int))%12)=OP ((7+(i:Int))%12).toNat:=by
    unfold ixN;rw[OX J,OX (by rw[d];lia)]
   refine(_,_,Z,Z,(by show(0:Int)<12;decide),l,_,_,_,Z,Z,Rm e,S,_,_,Z,Z,.inr (⋯,⋯,),_,_,Z,Z,_,_,Z,Z,(⋯,⋯,⋯,),_,_,Z,Z,p10 _,?_,);refine(_,_,Z,Z,(by show(0:Int)<12;decide),l,_,_,_,Z,Z,e,B,?_,);exact(m.upd p,b.set ((7+(i:Int))%12).toNat _,_,_,by rw[af,zS],by rw[jB];exact k,Z,)
 .let(m,b,y,v,e,k,rfl):=u;calc(q l b o m p e k)
def Il(F:Fun K "_law_due" "_law_due" Y50 f fd)(bl:Bl K mg Y):() 1 f fd ["way","codes","low","high"] (jM K Y):=by
 refine F.okA Z50 λO A v s H S Q E W h=>?_
 let(d,R,i,r,lo,hi,rfl,a,k,u,N,q):=h
 refine(_,(aq (aX (aL cO (aw az Z bl.len_ OO<|ae (pv 1) ag) ak<|aQ _)
  (aj<|aE<|bf<|ae aP<|ae ak ag)
  aN)
  (aq (aX (aL cO (pv 0) aP<|aQ _)
  (aj<|aE<|bf<|ae aP<|ae (aw (fQ Z) Z bl.min_ wv<|ae (pv 1) ag) ag)
  aN)
  (aq (aX (aL cO (pv 0) aP<|aQ _)
  (aj<|aE<|bf<|ae aP<|ae (aw (fR Z) Z bl.max_ rc<|ae (pv 1) ag) ag)
  aN)
  (aq (aX (aL cO (pv 0) aP<|aQ _)
  (aj<|aE<|bf<|ae aP<|ae (aw (i4 Z) Z bl.max_ rc<|ae (pv 2)<|ae (aw (pM Z) Z bl.min_ wv<|ae (pv 3)<|ae (aw (fO Z) Z bl.sum_ O6<|ae (pv 1) ag) ag) ag) ag)
  aN)
  (aq (aX (PW.pt<|sQ (PW.pt<|lp (aL cO (pv 0) aP<|aQ _)<|i3<|aL mh (aw az Z bl.len_ OO<|ae (pv 1) ag) ak<|aQ _)<|mX<|PW.pt<|lp (aL cO (pv 0) aP<|aQ _)<|i3<|aL mZ (aw (fQ Z) Z bl.min_ wv<|ae (pv 1) ag) (aw (fR Z) Z bl.max_ rc<|ae (pv 1) ag)<|aQ _)
  (aj<|aE<|bf<|ae aP<|ae ak ag)
  aN)
  (aj<|aE<|bf<|ae aP<|ae (aF aO (pv 1) ak<|λ_ _=>Z) ag)))))),?_,)
 dsimp only[cw,Rp,Ro];show(let x:TS:=_;let y:TS:=bh _ x;let B:TS:=bh _ y;let C:TS:=bh _ B;let D:TS:=bh _ C;bh _ D _ _ _);intro _ _ _ _ _;let c:⇑(r.map RV)=⇑r:=aa _;refine(d,_,Z,.inl<|Rm a,Z,_,Z,?_,)
 match r,a,k,q,c with
 | [],a,k,q,c =>
  exact ck (λ_=>(b9,λt b=>q t _ (ai b _) (by rw[af];rfl),)) (λg=>OY (by exact OZ Z) g)
 |n :: ns,a,k,q,c =>
 refine ck (λg=>OY (O1 g) (by rw[c,fk];intro z;injection z with z;lia)) (λ_=>?_)
 match i,u with
 |0,e =>
  cases e;calc(Z,_,Z,cD (sne ⋯) (Z,_,Z,cD (sne ⋯) (Z,_,Z,cD (sne ⋯) (Z,_,Z,cD (sne ⋯)<|cG (Z,_,Z,cD (sne ⋯)<|cG ?_,),),),),);exact(d,_,_,_,Z,Z,Rm a,at0 n ns,b9,λt b=>q t _ (ai b _) (by rw[af];show _=OP (HO.tup<|tp<|AE (n :: ns));rfl),)
 |1,e =>
  cases e;refine(Z,_,Z,cD (sne ⋯) (Z,_,Z,cD (sne ⋯) (Z,_,Z,cD (sne ⋯) (Z,_,Z,hV Z (d,_,Z,.inl<|Rm a,_,_,Z,Z,_,Z,ck (λg=>iw ?_)<|λg=>?_,),),),),)
  .let j:⇑(n :: ns)≠1:=λz=>by rw[c,z]at g;exact OY (O1 g) ⋯
   refine(b9,λt b=>q t _ (ai b _) (by rw[af];show _=OP (HO.tup<|tp<|kF (n :: ns));unfold kF;rw[OW j];rfl),)
  .let j:⇑(n :: ns)=1:=by
    let:¬ ((1:Int)<((⇑((n :: ns).map RV):Nat):Int)):=λz=>g<|OZ z
    rw[c]at this;rw[fk]at this⊢;lia
   calc(Z,_,Z,cD (sne ⋯)<|cG ?_,);exact(d,_,_,_,Z,Z,Rm a,at0 n ns,b9,λt b=>q t _ (ai b _) (by rw[af];show _=OP (HO.tup<|tp<|kF (n :: ns));unfold kF;rw[OX j];rfl),)
 |2,e =>
  cases e;calc(Z,_,Z,cD (sne ⋯) (Z,_,Z,cD (sne ⋯) (Z,_,Z,cD (sne ⋯) (Z,_,Z,cD (sne ⋯)<|cG (Z,_,Z,hV Z ?_,),),),),);calc(d,_,Z,Rm a,EX _,λm p o=>(d,_,Z,Rm a,EX _,λT J I=>(Z,_,Z,?_,),),);let M:=nX p o;let L:=nY J I;subst M L;refine ck (λg=>?_)<|λg=>?_
  .let j:least (n :: ns)≠great (n :: ns):=λz=>by rw[z]at g;simp at g
   exact(b9,λt b=>q t _ (ai b _) (by rw[af];show _=OP (HO.tup<|tp<|kE (n :: ns));unfold kE;rw[OW j];rfl),)
  .let j:least (n :: ns)=great (n :: ns):=by
    by_cases z:least (n :: ns)=great (n :: ns)
    .exact z
    .exfalso;exact g (by simp;exact z)
   let G:least (n :: ns)=n:=by
    let a1:=fe.2 n<|dt (l:=ns);let X:=gj.2 n<|dt (l:=ns);lia
   exact(d,_,_,_,Z,Z,Rm a,at0 n ns,b9,λt b=>q t _ (ai b _) (by rw[af];show _=OP (HO.tup<|tp<|kE (n :: ns));unfold kE;rw[OX j,G];rfl),)
 |3,e =>
  cases e;calc(Z,_,Z,hV Z ?_,);calc(d,_,Z,Rm a,EX _,λm p o=>(b9,λt b=>q t _ (ai b _) ?_,),);rw[af,nX p o];rfl
 |4,e =>
  cases e;calc(Z,_,Z,cD (sne ⋯) (Z,_,Z,hV Z ?_,),);calc(d,_,Z,Rm a,EX _,λm p o=>(b9,λt b=>q t _ (ai b _) ?_,),);rw[af,nY p o];rfl
 |5,e =>
  cases e;calc(Z,_,Z,cD (sne ⋯) (Z,_,Z,cD (sne ⋯) (Z,_,Z,hV Z ?_,),),);calc(d,_,Z,Rm a,_,_,Z,_,_,Z,?_,);calc(b9,λt b=>q t _ (ai b _) ?_,);rw[af];let e:near lo hi (n :: ns).sum=if (if (n :: ns).sum<hi then(n :: ns).sum else hi)>lo then(if (n :: ns).sum<hi then(n :: ns).sum else hi)else lo:=by
   unfold near;generalize (n :: ns).sum=t;split <;> split <;> split <;> first|rfl|lia|(split <;> lia)
  show _=OP (HO.tup<|tp<|say<|near lo hi (n :: ns).sum);rw[e];rfl
 |i+6,e=>simp[six]at e
def O_0(F:Fun K "__init__" "Domain.__init__" Y0 f fd)(bl:Bl K mg Y):() 1 f fd ["self","low","high"] (bV K Y):=by
 refine F.okA Z0 λd A b s H e Q E g h=>?_
 let(x,a,lo,hi,rfl,c,q):=h
 refine(_,(aq (cP (pv 0) (pv 1) Z)
  (aj<|cP (pv 0) (pv 2) Z)),?_,)
 refine(x,_,a,_,Z,c,bl.k_Numbers,bl.na_Numbers_low,(by show 0<1000;decide),x,_,a,_,Z,af,bl.k_Numbers,bl.na_Numbers_high,(by show 1<1000;decide),?_,);show Q .non (upd (upd H x<|.ins Y.i a [("low",.int lo)]) x<|.ins Y.i a<|bx "high" (.int hi) [("low",.int lo)]);rw[put2];calc q
def O_1(F:Fun K "__init__" "Domain.__init__" Y1 f fd)(bl:Bl K mg Y):() 1 f fd ["self","low","high"] (cn K Y):=by
 refine F.okA Z1 λd A b s H e Q E g h=>?_
 let(x,a,lo,hi,rfl,c,q):=h
 refine(_,(aq (cP (pv 0) (pv 1) Z)
  (aj<|cP (pv 0) (pv 2) Z)),?_,)
 refine(x,_,a,_,Z,c,bl.k_Words,bl.na_Words_low,(by show 0<1000;decide),x,_,a,_,Z,af,bl.k_Words,bl.na_Words_high,(by show 1<1000;decide),?_,);show Q .non (upd (upd H x<|.ins Y.j a [("low",.int lo)]) x<|.ins Y.j a<|bx "high" (.int hi) [("low",.int lo)]);rw[put2];calc q
def Im(F:Fun K "__init__" "Way.__init__" Y18 f fd)(bl:Bl K mg Y):() 1 f fd ["self","called"] (cJ K Y):=by
 refine F.okA Z18 λd A a s H e Q E g h=>?_
 let(x,c,z,rfl,b,q):=h;calc(_,(aj<|cP (pv 0) (pv 1) Z),?_,);calc(x,_,c,_,Z,b,bl.k_First,bl.na_First_called,(by show 0<1000;decide),q,)
def Io(F:Fun K "__init__" "Way.__init__" Y22 f fd)(bl:Bl K mg Y):() 1 f fd ["self","called"] (cU K Y):=by
 refine F.okA Z22 λd A a s H e Q E g h=>?_
 let(x,c,z,rfl,b,q):=h;calc(_,(aj<|cP (pv 0) (pv 1) Z),?_,);calc(x,_,c,_,Z,b,bl.k_Only,bl.na_Only_called,(by show 0<1000;decide),q,)
def Ip(F:Fun K "__init__" "Way.__init__" Y20 f fd)(bl:Bl K mg Y):() 1 f fd ["self","called"] (cV K Y):=by
 refine F.okA Z20 λd A a s H e Q E g h=>?_
 let(x,c,z,rfl,b,q):=h;calc(_,(aj<|cP (pv 0) (pv 1) Z),?_,);calc(x,_,c,_,Z,b,bl.k_Like,bl.na_Like_called,(by show 0<1000;decide),q,)
def Iq(F:Fun K "__init__" "Way.__init__" Y21 f fd)(bl:Bl K mg Y):() 1 f fd ["self","called"] (df K Y):=by
 refine F.okA Z21 λd A a s H e Q E g h=>?_
 let(x,c,z,rfl,b,q):=h;calc(_,(aj<|cP (pv 0) (pv 1) Z),?_,);calc(x,_,c,_,Z,b,bl.k_Low,bl.na_Low_called,(by show 0<1000;decide),q,)
def Ir(F:Fun K "__init__" "Way.__init__" Y19 f fd)(bl:Bl K mg Y):() 1 f fd ["self","called"] (cX K Y):=by
 refine F.okA Z19 λd A a s H e Q E g h=>?_
 let(x,c,z,rfl,b,q):=h;calc(_,(aj<|cP (pv 0) (pv 1) Z),?_,);calc(x,_,c,_,Z,b,bl.k_High,bl.na_High_called,(by show 0<1000;decide),q,)
def Iu(F:Fun K "__init__" "Way.__init__" Y23 f fd)(bl:Bl K mg Y):() 1 f fd ["self","called"] (dg K Y):=by
 refine F.okA Z23 λd A a s H e Q E g h=>?_
 let(x,c,z,rfl,b,q):=h;calc(_,(aj<|cP (pv 0) (pv 1) Z),?_,);calc(x,_,c,_,Z,b,bl.k_Sum,bl.na_Sum_called,(by show 0<1000;decide),q,)
def O_5(F:Fun K "chosen" "First.chosen" Y5 f fd)(bl:Bl K mg Y):() 1 f fd ["self","codes","outcome"] (J1 K Y):=by
 refine F.ok Z5 (λi H Q E h=>?_)<|λr A d s H i Q E u h=>?_
 .let(x,c,o,n,e,b,rfl,(p,z,j),l,a,g,m,q):=h;rfl
 let(x,c,o,n,e,b,rfl,(p,z,j),l,a,g,m,q):=h;calc(_,(aj<|aE<|bf<|ae aP<|ae (aF aO (pv 1) ak<|λ_ _=>Z) ag),?_,);calc(c,_,_,_,Z,Z,g,at0 n e,b9,λt k=>q t _ (ai k _)<|.inl af,)
def Iw(F:Fun K "chosen" "Only.chosen" Y14 f fd)(bl:Bl K mg Y):() 1 f fd ["self","codes","outcome"] (J9 K Y):=by
 refine F.ok Z14 (λl H Q E h=>?_)<|λC A k s H l Q E D h=>?_
 .let(x,c,o,n,a,b,rfl,(B,z,p),u,j,d,y,q):=h;rfl
 let(x,c,o,n,a,b,rfl,(B,z,p),u,j,d,y,q):=h;calc(_,(aj<|aE<|iq (aL cO (aw az Z bl.len_ OO<|ae (pv 1) ag) ak<|aQ _) (bf<|ae aP<|ae (aF aO (pv 1) ak<|λ_ _=>Z) ag)<|dY (v:=.ref Y.m) Z bl.CLASH_ Z),?_,);calc(c,_,Z,.inl<|d,Z,_,Z,?_,);refine ck (λg=>?_)<|λg=>?_
 .let e:wf 1 b.1 b.2 (n :: a)=say n:=by
   let i:=mn g;simp at i;show kF _=_;unfold kF;rw[OX (by rw[fk];lia)];rfl
  rw[e]at q;exact(c,_,_,_,Z,Z,d,at0 n a,b9,λt r=>q t _ (ai r _)<|.inl af,)
 .let e:wf 1 b.1 b.2 (n :: a)=xq:=by
   let i:=pW g;simp at i;show kF _=_;unfold kF;rw[OW (by rw[fk];lia)]
  rw[e]at q;calc q _ _ (au.refl _)<|.inr bl.q_CLASH
def O_9(F:Fun K "chosen" "Like.chosen" Y9 f fd)(bl:Bl K mg Y):() 1 f fd ["self","codes","outcome"] (J5 K Y):=by
 refine F.ok Z9 (λy H Q E h=>?_)<|λL A p s H y Q E M h=>?_
 .let(x,c,o,n,a,b,rfl,(J,z,B),D,k,i,G,q):=h;rfl
 let(x,c,o,n,a,b,rfl,(J,z,B),D,k,i,G,q):=h;calc(_,(aj<|aE<|iq (aL cO (aw pd Z bl.len_ OO<|ae (bC (o9 Z) Z bl.set_ wr<|ae (pv 1) ag) ag) ak<|aQ _) (bf<|ae aP<|ae (aF aO (pv 1) ak<|λ_ _=>Z) ag)<|dY (v:=.ref Y.m) Z bl.CLASH_ Z),?_,);refine(c,_,Z,i,(by rw[fk];lia),λl I=>?_,);refine(l,_,Z,af,(by rw[fk];lia),Z,_,Z,?_,);let d:au H (upd H l<|BL P w l (n :: a)):=ai I _;refine ck (λg=>?_)<|λg=>?_
 .let u:RV _=RV _:=mn g;let j:cntK (n :: a) ⇑(n :: a)=1:=by injection u with u;lia
  let r:=qe.mp j;let e:wf 2 b.1 b.2 (n :: a)=say n:=by
   show kE _=_;unfold kE;rw[OX (qx.mp r),yC r]
  rw[e]at q;exact(c,_,_,_,Z,Z,d.seq i,at0 n a,b9,λt C=>q t _ (d.trans<|ai C _)<|.inl af,)
 .let j:¬ cntK (n :: a) ⇑(n :: a)=1:=λz=>(pW g) (by rw[z];rfl)
  let e:wf 2 b.1 b.2 (n :: a)=xq:=by
   show kE _=_;unfold kE;rw[OW λz=>j (qe.mpr<|qx.mpr z)]
  rw[e]at q;calc q _ _ d<|.inr bl.q_CLASH
def Iy(F:Fun K "chosen" "Low.chosen" Y11 f fd)(bl:Bl K mg Y):() 1 f fd ["self","codes","outcome"] (J7 K Y):=by
 refine F.ok Z11 (λg H Q E h=>?_)<|λy A d s H g Q E B h=>?_
 .let(x,c,o,n,i,b,rfl,(v,z,j),l,a,e,p,q):=h;rfl
 let(x,c,o,n,i,b,rfl,(v,z,j),l,a,e,p,q):=h;calc(_,(aj<|aE<|bf<|ae aP<|ae (aw (fQ Z) Z bl.min_ wv<|ae (pv 1) ag) ag),?_,);calc(c,_,Z,e,EX _,λm u r=>(b9,λt k=>q t _ (ai k _)<|.inl ?_,),);rw[af,nX u r];rfl
def O_7(F:Fun K "chosen" "High.chosen" Y7 f fd)(bl:Bl K mg Y):() 1 f fd ["self","codes","outcome"] (J3 K Y):=by
 refine F.ok Z7 (λg H Q E h=>?_)<|λy A d s H g Q E B h=>?_
 .let(x,c,o,n,i,b,rfl,(v,z,j),l,a,e,p,q):=h;rfl
 let(x,c,o,n,i,b,rfl,(v,z,j),l,a,e,p,q):=h;calc(_,(aj<|aE<|bf<|ae aP<|ae (aw (fR Z) Z bl.max_ rc<|ae (pv 1) ag) ag),?_,);calc(c,_,Z,e,EX _,λm u r=>(b9,λt k=>q t _ (ai k _)<|.inl ?_,),);rw[af,nY u r];rfl
def Iz(F:Fun K "chosen" "Sum.chosen" Y16 f fd)(bl:Bl K mg Y):() 1 f fd ["self","codes","outcome"] (J11 K Y):=by
 refine F.ok Z16 (λr H Q E h=>?_)<|λG A l s H r Q E I h=>?_
 .let(x,c,o,n,a,b,rfl,(D,z,u),(C,p,B,fs,j,d,g,_),k,m,y,q):=h;rfl
 let(x,c,o,n,a,b,rfl,(D,z,u),(C,p,B,fs,j,d,g,_),k,m,y,q):=h;calc(_,(aj<|aE<|bf<|ae aP<|ae (aw (i4 Z) Z bl.max_ rc<|ae (cj (pv 2) Z)<|ae (aw (pM Z) Z bl.min_ wv<|ae (cj (pv 2) Z)<|ae (aw (fO Z) Z bl.sum_ O6<|ae (pv 1) ag) ag) ag) ag),?_,);let i:Cls K C/\NoAttr K C s!"low"/\NoAttr K C s!"high":=by
  rcases p with rfl|rfl
  .exact(bl.k_Numbers,bl.na_Numbers_low,bl.na_Numbers_high,)
  .exact(bl.k_Words,bl.na_Words_low,bl.na_Words_high,)
 calc(o,_,_,_,_,Z,j,i.1,i.2.1,d,o,_,_,_,_,Z,j,i.1,i.2.2,g,c,_,Z,m,_,_,Z,_,_,Z,?_,);calc(b9,λt v=>q t _ (ai v _)<|.inl ?_,);rw[af];let e:near b.1 b.2 (n :: a).sum=if (if (n :: a).sum<b.2 then(n :: a).sum else b.2)>b.1 then(if (n :: a).sum<b.2 then(n :: a).sum else b.2)else b.1:=by
  unfold near;generalize (n :: a).sum=t;split <;> split <;> split <;> first|rfl|lia|(split <;> lia)
 show _=OP (HO.tup<|tp<|say<|near b.1 b.2 (n :: a).sum);rw[e];rfl
def IA(F:Fun K "cut_columns" "cut_columns" Y39 f fd)(bl:Bl K mg Y)(iS:⟨⟩ 1 "stretches" ["low","high","marks"] (eW K Y)):() 2 f fd ["bounds","marks"] (dO K Y):=by
 refine F.okA Z39 λc4 A b3 s H vs Q E hr h=>?_
 let(a,b,ys,ps,as,R,rfl,ha,hP,hb,hM,hok,q):=h;refine(_,(aj<|aE<|d7 (q8 Z bl.zip_<|ae (pv 0)<|ae (pv 1) ag) (dJ (N:=["bound","cuts"]) (k:=2) Z Z (~~~0) (~~~0)<|~~~0) Z (λ_ _ _ _=>(jx (K:=K) (n:=2) Z Z<|aI (aC (i:=0) (show(["bound","cuts"]:O4 Str).Nodup by decide+kernel) Z (bd Z) (lf Z)) (aI (aC (i:=1) (show(["bound","cuts"]:O4 Str).Nodup by decide+kernel) Z (bd Z) (lf Z)) bF))) (λ_ _ _ _=>bG) (λ_ _ _ _=>(aM iS hr Z<|ae (aF (gC (K:=K) Z) (pv 0) ak<|λ_ _=>Z)<|ae (aF (gC (K:=K) Z) (pv 0) ak<|λ_ _=>Z)<|ae (pv 1) ag))),?_,);let(b5,b4,a1):=hok;let b6:=⇑hP;let c3:=hM.1
 refine(a,b,Z,(_,Rm ha,),(_,Rm hb,),yk (xs:=ys) (ys:=as.map RZ) (λD i C B=>au H B/\B D=OP (.lst C)/\∃d:O4 (O4 Int),⇑d=i/\(∀(j:Nat)(p:Int×Int)(v l:O4 Int),ps[j]?=OP p->R[j]?=OP v->d[j]?=OP l->l.Pairwise (· < ·)/\(∀c,c∈l↔(c∈v/\p.1<c/\c<=p.2))/\⇑l<64)/\aJ C (db (λp l=>bj p.1 p.2 l) (ps.take i) d) (λr c=>r≠D/\∃g,B r=OP (.lst g)/\PL B g c))
  (λD O=>(ai O _,af,[],Z,(λj p v l _ _ e=>by simp at e),aJ.nil,)) (λD i C B O _ h=>(Rm<|h.1 _ _ ha,Rm<|h.1 _ _ hb,)) (λD i x y C B T O ex ey h hT g a5=>?_) (λD C B O h=>?_),)
 .let(sm,eD,d,o,J,M):=h;let(p,t,ep,rfl,ht):=hP.get ex;let(r,rfl,er):=n5 ey;let hi:i<⇑as:=(KO.mp er).1;let(v,em):∃v,R[i]?=OP v:=(_,KN ∅,);let(r',W,hr):=hM.2 i v em;rw[er]at W;cases W;let s2:=sm.trans<|ai hT<|.tup [.ref t,.ref r];let eT:upd B T (.tup [.ref t,.ref r]) T=OP (.tup [.ref t,.ref r]):=af;let u2:=ai hT<|.tup [.ref t,.ref r];let L:=u2 _ _ eD;generalize upd B T (.tup [.ref t,.ref r])=H2 at s2 eT L u2⊢;let(t0,t1,rfl):∃t0 t1,g=[t0,t1]:=by
   match g,a5 with
   | [t0,t1],_=>exact(t0,t1,Z,)
  calc(T,_,Z,Rn eT,Z,_,_,Z,_,_,Z,Z,([↑t,↑r],Z,Z,),?_,);let c1:=a1 v<|KP em;calc(t,_,_,_,Z,Z,Rn<|s2 _ _ ht,Z,t,_,_,_,Z,Z,Rn<|s2 _ _ ht,Z,r,v,v,p.1,p.2,Z,Rm<|s2 _ _ hr,∅,∅,λm hm _ _=>hm,λr2 H3 l a0 s3 S b0 a7 a6 kA a9=>?_,);let X:=s3 _ _ L;let c2:C.length=i:=by rw[M.1,nI,hZ];lia
  let Cq:i<min ⇑ys ⇑(as.map RZ):=by rw[aa];lia
  let a2:r2≠D:=λz=>by rw[z,L]at S;cases S
  refine c0.mk Cq X (aD ∅) ((s2.trans s3).upd O,af,d++[l],by rw[br,o];rfl,λj p' a3 b1 G I u=>?_,?_,)
  .by_cases hj:j<⇑d
   .rw[fo hj]at u;exact J j p' a3 b1 G I u
   .let a8:j=⇑d:=by
     have:=(KO.mp u).1;simp at this;lia
    subst a8;simp at u;subst u;rw[o]at G I;rw[ep]at G;cases G;rw[em]at I;cases I;exact(a6,kA,a9,)
  .rw[take_snoc ep,List.zipWith_append (by rw[hZ];lia)];let a4:aJ (C++[.ref r2]) (db (λp l=>bj p.1 p.2 l) (ps.take i) d++[bj p.1 p.2 l]) (λr c=>r≠D/\∃g,H3 r=OP (.lst g)/\PL H3 g c) :=
    aJ.snoc (aJ.mono M λx c k=>(k.1,let ⟨g,e1,e2⟩:=k.2;(g,s3 _ _<|u2 _ _ e1,PL.mono e2 (u2.trans s3).tups,),)) (a2,a0,b0,a7,)
   let st:bD H3 (upd H3 D<|.lst<|C++[.ref r2]):=aS X;exact aJ.mono a4 λx c k=>(k.1,let ⟨g,e1,e2⟩:=k.2;(g,(ar k.1).trans e1,PL.mono e2 st,),)
 .let(sm,eD,d,o,J,M):=h;let e:min ⇑ys ⇑(as.map RZ)=⇑ps:=by rw[aa];lia
  rw[e]at o;rw[e,gs]at M;calc q D C B d sm eD o J<|aJ.mono M λx c k=>k.2
def IB(F:Fun K "look" "look" Y64 f fd)(bl:Bl K mg Y)(C:⟨⟩ 1 "beneath_code" ["form","code"] (eP K Y)):() 2 f fd ["form","codes"] (sh K Y):=by
 refine F.okA Z64 λS A o s H T Q E D h=>?_
 let(v,r,l,g,rfl,p,G,q):=h
 refine(_,(aq (aG (i:=2) Z64.nd Z (bd Z)<|pv 0)
  (aq (aW cr Z (aR<|pv 1) (aC (i:=3) Z64.nd Z<|bd Z)
  (aj<|aG (i:=2) Z64.nd Z (bd Z)<|aM C D Z<|ae (pv 2)<|ae (pv 3) ag))
  (aj<|aE<|pv 2))),?_,)
 dsimp only[cw,Rp,Ro];show(let z:TS:=_;let B:TS:=bh _ z;bh _ B _ _ _);intro _ _;refine⟨l,Z,(_,p,),(let R:Nat->Rq:=λi d k=>k=H/\∃(u:V)(n:Option V),Lk K H u (g.drop i) r/\d=[OP v,↑l,OP u,n];aY (xs:=g.map RV) R (Z,v,_,G,Z,) (λi d k _ h=>by rw[h.1];exact p) (λi y d k e h=>?_) (λd k h=>?_))⟩
 .let(m,u,n,b,rfl):=h;rw[m];let(c,rfl,O):=of_map e;let N:g.drop i=c :: g.drop (i+1):=by
   let(hi,rfl):=KO.mp O;exact List.drop_eq_getElem_cons hi
  rw[N]at b;let(a,xs,x,j,t,rfl,M,L,J,I):=b.cons_inv;exact(a,xs,x,c,j,t,Z,M,L,J,Z,_,_,I,Z,)
 .let(m,u,n,b,rfl):=h;rw[m];rw[aa,List.drop_length]at b;cases b;calc q
def IC(F:Fun K "is_word" "is_word" Y46 f fd)(bl:Bl K mg Y)(g:⟨⟩ 1 "all_among" ["text","signs"] (gH K Y)):() 2 f fd ["text"] (gL K Y):=by
 refine F.okA Z46 λk A d s H l Q E j h=>?_
 let(z,rfl,i,q):=h;calc(_,(aj<|aE<|mY (m4 eY eY ak (aw qT Z bl.len_ OO<|ae (pv 0) ag)<|gh Z bl.MOST_SIGNS_)<|mY (wO mZ (pv 0) aP<|aQ _)<|qL<|aM g j Z<|ae (pv 0)<|ae (gh Z bl.SMALL_LETTERS_) ag),?_,);calc(_,Z,big i,_,_,Z,Z,_,Z,?_,);refine ck (λc=>?_)<|λc=>?_
 .refine(_,_,Z,Z,_,Z,?_,);refine ck (λb=>?_)<|λb=>?_
  .refine(Z,_,Z,?_,);refine ck (λa=>?_)<|λa=>?_
   .refine(z,lets,Z,?_,);let e:isw z=sY z lets:=by unfold isw;rw[c,b,a];rfl
    rw[e]at q;exact q
   .let e:isw z=false:=by unfold isw;rw[KW.mpr a,Ix,Ch,Ch]
    rw[e]at q;exact q
  .let e:isw z=false:=by unfold isw;rw[KW.mpr b,Ix,Ch]
   rw[e]at q;exact q
 .let e:isw z=false:=by unfold isw;rw[KW.mpr c,Ix]
  rw[e]at q;calc(_,Z,cG q,)
def ID(F:Fun K "fits" "fits" Y41 f fd)(bl:Bl K mg Y)(Cr:⟨⟩ 1 "holds" ["spans","number"] (oy K Y)):() 2 f fd ["table","k","codes"] (si K Y):=by
 refine F.okA Z41 λa1 A G s H vs Q E hr h=>?_
 let(t,X,c,dx,fs,xs,a0,k,b,g,rfl,ht,hf,hl,hR,ek,J,W,q):=h
 refine(_,(aq (aG (i:=3) Z41.nd Z (bd Z)<|aF aZ (aF aO (cj (pv 0) Z) (pv 1)<|λ_ _=>Z) ak<|λ_ _=>Z)
  (aq (aW cr Z (q8 Z bl.zip_<|ae (pv 3)<|ae (pv 2) ag) (eK Z<|aI (aC (i:=4) Z41.nd Z<|bd Z)<|aI (aC (i:=5) Z41.nd Z<|bd Z) bF)
  (aj (aX (dF<|gA<|aM Cr hr Z<|ae (pv 4)<|ae (pv 5) ag)
  (aj<|aE ip)
  aN)))
  (aj<|aE ip))),?_,)
 dsimp only[cw,Rp,Ro];show(let r2:TS:=_;let r1:TS:=bh _ r2;bh _ r1 _ _ _);intro _ _;let(r,er,S,cv,e1,_,R,m):=hR.2 k b ek;calc(t,_,_,_,_,Z,ht,bl.k_Table,bl.na_Table_rows,hf,X,_,_,_,Z,Z,Rm hl,bN er,r,_,_,_,Z,Z,Rn e1,Z,?_,);refine(S,c,Z,(_,Rm R,),(_,J,),(let I_:Nat->Rq:=λi o a=>au H a/\(∀j,j<i->inP (b.1.getD j []) (g.getD j 0)=OR)/\∃B z:Option V,o=[↑t,OP<|.int k,↑c,↑S,B,z];q9 (xs:=cv) (ys:=g.map RV) I_ (au.refl _,(λj h=>OY h<|EB j),_,_,Z,) (λi o a h=>(Rm<|h.1 _ _ R,h.1.seq J,)) (λi x y o a T ex ey h hT=>?_) (λo a h=>?_)),)
 .let(p,v,B,z,rfl):=h;let s2:=p.trans<|ai hT<|.tup [x,y];let O:upd a T (.tup [x,y]) T=OP (.tup [x,y]):=af;generalize upd a T (.tup [x,y])=H2 at s2 O⊢;let(l,u,rfl,ep,C):=aJ.get m ex;let(_,ys,el,hp):=C.same s2;let(n,rfl,N):=of_map ey;calc(T,_,Z,Rn O,Z,_,_,Z,_,_,Z,Z,?_,);calc(l,ys,u,n,Z,Rm el,hp,_,Z,?_,);let M:b.1.getD i []=u:=by rw[ab,ep];rfl
  let L:g.getD i 0=n:=by rw[ab,N];rfl
  cases hin:inP u n with
  |true =>
   calc cG (s2,λj I=>?_,_,_,Z,);by_cases D:j<i
   .exact v j D
   .let:j=i:=∅
    subst this;rw[M,L];exact hin
  |false =>
   calc iw ?_;let e:pj b.1 g=false:=by
    unfold pj;rw[List.all_eq_false];calc(i,iT.mpr (KO.mp N).1,?_,);rw[M,L,hin];decide
   let d:=q H2 s2;rw[e]at d;exact d
 .let(p,v,B,z,rfl):=h;let e:pj b.1 g=true:=by
   unfold pj;rw[jP];intro j I;calc v j ?_;let h1:=m.1;rw[aa];let:=iT.mp I;lia
  let d:=q a p;rw[e]at d;calc d
def IE(F:Fun K "column_marks" "column_marks" Y37 f fd)(bl:Bl K mg Y)(jO:⟨⟩ 1 "gathered" ["lists"] (fK K Y))(Cs:⟨⟩ 1 "edges" ["spans","low","high"] (oA K Y)):() 2 f fd ["table","column"] (eQ K Y):=by
 refine F.okA Z37 λb4 A a7 s H vs Q E hr h=>?_
 let(t,c,dv,bs,rws,b,L,rfl,(rl,dx,dl,fs,xs,ht,f1,f2,a4,T,B,hR),eb,b0,lN,hL,X,q):=h
 refine(_,(aq (aG (i:=2) Z37.nd Z (lf Z)<|aF aO (cj (pv 0) Z) (pv 1)<|λ_ _=>Z)
  (aj<|aE<|aM jO hr Z<|ae (d7 (aR<|cj (pv 0) Z) (d9 (N:=["cells","code","column","domain"]) (k:=2) (fr:=[1,2]) (cl:=[("domain",↥s+1+1),("column",↥s+1)]) Z Z (~~~0) (~~~0) Z Z (gx.mpr (Z,gx.mpr (Z,iU _,),)) Z) Z (λ_ _ _ _=>(jx (K:=K) (n:=2) Z Z<|aI (aC (i:=0) (show(["cells","code","column","domain"]:O4 Str).Nodup by decide+kernel) Z (bd Z) (lf Z)) (aI (aC (i:=1) (show(["cells","code","column","domain"]:O4 Str).Nodup by decide+kernel) Z (bd Z) (lf Z)) bF))) (λ_ _ _ _=>bG) (λ_ _ _ _=>(aM Cs hr Z<|ae (aF (dI (K:=K) Z) (pv 0) (pv 2)<|λ_ _=>Z)<|ae (mQ (K:=K) Z (pv 3) Z)<|ae (mQ (K:=K) Z (pv 3) Z) ag))) ag)),?_,)
 let(da,a5,C,hC,b3,b1,ha,g1,g2,_):=T.2 c b eb;let J:Cls K C/\NoAttr K C s!"low"/\NoAttr K C s!"high":=by
  rcases hC with rfl|rfl
  .exact(bl.k_Numbers,bl.na_Numbers_low,bl.na_Numbers_high,)
  .exact(bl.k_Words,bl.na_Words_low,bl.na_Words_high,)
 let S:⇑xs=⇑rws:=hR.1;calc(t,_,_,_,_,Z,ht,bl.k_Table,bl.na_Table_domains,f2,dl,_,_,_,Z,Z,Rm a4,bN a5,?_,);refine(t,_,_,_,_,Z,ht,bl.k_Table,bl.na_Table_rows,f1,rl,Z,(_,Rm B,),(let I_:La->Nat->O4 V->Rr:=λD i m d=>au H d/\d D=OP (.lst m)/\∃j:O4 La,m=j.map RZ/\MLs (hide d D) j ((rws.take i).map<|rmk c b);jD (xs:=xs) I_ (λD p=>(ai p _,af,[],Z,MLs.nil,)) (λD i m d p _ h=>Rm<|h.1 _ _ B) (λD i y m d p e h ts R=>?_) (λD m d p h=>?_)),)
 .let(a,M,j,rfl,o):=h;let(r,x,rfl,ex,ce,cs,k1,_,k2,k3):=aJ.get hR e;let hi:i<⇑xs:=(KO.mp e).1;let(v,h6):=lN x<|KP ex;let(I,G,rfl):∃I G,ts=[I,G]:=by
   match ts,R with
   | [I,G],_=>exact(I,G,Z,)
  calc(r,_,Z,Rn<|a _ _ k1,Z,_,_,Z,_,_,Z,Z,([↑ce,OP (.int x.2)],Z,Z,),?_,);let(ol,a2,_,yo,a0,g):=k3.2 c _<|KN v;let hA:x.1[c]=x.1.getD c []:=by rw[ab,KN v];rfl
  rw[hA]at g;let a8:=⇑g;calc(ce,_,_,_,Z,Z,Rm<|a _ _ k2,bN a2,da,_,_,_,_,Z,a _ _ ha,J.1,J.2.1,g1,da,_,_,_,_,Z,a _ _ ha,J.1,J.2.2,g2,?_,);calc(ol,yo,_,b.1,b.2,Z,Rm<|a _ _ a0,g.mono a.tups,∅,λr3 H3 es O u a1 a3=>?_,);let a6:=O _ _ M;let nD:r3≠D:=λz=>by rw[z,M]at u;cases u
  let W:=o.1;rw[aa,hZ]at W;refine c0.mk hi a6 (aD (by rw[aa];lia)) ((a.trans O).upd p,af,j++[r3],by rw[fq];rfl,?_,);rw[uq,take_snoc ex,fq];exact MLs.snoc (o.same<|qB O)<|bL (by rw[a1,a3];rfl) nD
 .let(a,M,j,rfl,o):=h;rw[S,gs]at o;let a9:=uu c b (rws:=rws) λw hw=>(lN w hw).2
  calc(D,j,_,L,Z,M,o.same<|fH d D,∅,hL,λx hx=>X x<|xy.mp hx,λl cs H2 s2 nl el pw hm=>q l cs H2 (a.trans s2) (a.free nl) el pw λx=>(hm x).trans xy,)
def IF(F:Fun K "path" "path" Y70 f fd)(bl:Bl K mg Y)(zc:⟨⟩ 1 "side_of" ["tree","codes"] (jK K Y))(zd:⟨⟩ 1 "tree_on" ["tree","side"] (jL K Y)):() 2 f fd ["tree","codes"] (sj K Y):=by
 refine F.okA Z70 λb0 A a6 s H vs Q E hr h=>?_
 let(a,l,T,e,rfl,a5,hok,a9,hl,q):=h
 refine(_,(aq (aG (i:=2) Z70.nd Z (bd Z)<|aU ag)
  (aq (aG (i:=3) Z70.nd Z (bd Z)<|pv 0)
  (aq (sR cr (aL mZ (aF aZ (pv 3) ak<|λ_ _=>Z) (gh Z bl.SAY_)<|aQ _)
  (aH (aG (i:=4) Z70.nd Z (bd Z)<|aM zc hr Z<|ae (pv 3)<|ae (pv 1) ag)
  (aq (aV<|dB PySem.F.plainAttrs_list PySem.F.slot_list_append PySem.F.type_list_append bg (pv 2)<|ae (bf<|ae (aF aZ (pv 3) ak<|λ_ _=>Z)<|ae (aF aZ (pv 3) ak<|λ_ _=>Z)<|ae (pv 4) ag) ag)
  (aj<|aG (i:=3) Z70.nd Z (bd Z)<|aM zd hr Z<|ae (pv 3)<|ae (pv 4) ag))))
  (aj<|aE<|pv 2)))),?_,)
 dsimp only[cw,Rp,Ro];show(let r3:TS:=_;let r2:TS:=bh _ r3;let r1:TS:=bh _ r2;bh _ r1 _ _ _);intro _ _ _;refine((by show 0<=Lc;decide),λp hp=>?_,);let s0:au H (upd H p<|.lst []):=ai hp _;let e0:upd H p (.lst []) p=OP (.lst []):=af;generalize upd H p (.lst [])=H0 at s0 e0⊢;calc(λm σ J=>au H J/\∃(u:La)(U:Tq)(B:O4 V)(C:O4 Qn)(c4:Option V),m=U.dep/\TqA K H U u/\U.ok ⇑e/\C++U.pth e=T.pth e/\J p=OP (.lst B)/\QnL J B C/\σ=[↑a,↑l,↑p,↑u,c4],(T.dep,s0,a,T,[],[],_,Z,a5,hok,Z,e0,aJ.nil,Z,),?_,);rintro m σ J ⟨L,u,U,B,C,c4,rfl,hu,a0,eq,R,X,rfl⟩;cases U with
 |say v =>
  let(b,W,_):=hu;calc(u,_,_,_,Z,Z,Rn<|L _ _ W,Z,Z,_,Z,?_,);rw[show(Tq.say v).pth e=[]from Z,jm]at eq;subst eq;exact ck (λg=>OY g ⋯)<|λ_=>(q p B J L R X)
 |ask c d G D =>
  let(x,y,W,hL,hR):=hu;let(hc,a4,a3):c<⇑e/\G.ok ⇑e/\D.ok ⇑e:=a0;let o:=L _ _ W;calc(u,_,_,_,Z,Z,Rn o,Z,Z,_,Z,?_,);calc ck (λ_=>?_)<|λg=>OY ⋯ g;let(k,M):∃b,b=OT (e.getD c 0<d):=(_,Z,);let I:C++((c:Int),d,k) :: (if k=OR then G.pth e else D.pth e)=T.pth e:=by
   rw[←eq,M];show _=C++(((c:Int),d,OT<|e.getD c 0<d) :: if e.getD c 0<d then G.pth e else D.pth e);by_cases g:e.getD c 0<d
   .rw[OZ g,OX Z,OX g]
   .rw[O0 g,OW ⋯,OW g]
  let hd:(Tq.ask c d G D).dep=max G.dep D.dep+1:=rfl;refine(λr j=>au H j/\∃n:O4 V,j p=OP (.lst n)/\QnL j n (C++[((c:Int),d,k)])/\r=[↑a,↑l,↑p,OP (if k then .ref x else .ref y),OP (.str<|kR k)],?_,?_,)
  .rintro r j ⟨s2,n,e2,N,rfl⟩;cases k with
   |true=>exact(G.dep,∅,s2,x,G,n,_,_,Z,hL,a4,by rw[mz];exact I,e2,N,Z,)
   |false=>exact(D.dep,∅,s2,y,D,n,_,_,Z,hR,a3,by rw[mz];exact I,e2,N,Z,)
  refine(λr j=>j=J/\r=[↑a,↑l,↑p,↑u,OP (.str<|kR k)],?_,?_,)
  .exact(u,l,x,y,c,d,e,Z,o,L _ _ hl,hc,by rw[M];exact(Z,Z,),)
  rintro a7 S ⟨rfl,rfl⟩;refine(.inl (Z,_,Rm R,),u,_,_,_,Z,Z,Rn o,Z,u,_,_,_,Z,Z,Rn o,Z,(by show 3<=Lc;decide),λt O=>?_,);let a8:C.length<=60:=by have a1:=O2 P9 I;let a2:=rY e T;rw[br]at a1;lia
  refine(p,_,_,Z,Z,cI R O,aD (by rw[X.1];lia),?_,);let x1:upd S t (.tup [.int c,.int d,.str (kR k)]) p=OP (.lst B):=cI R O;let st:bD S (upd (upd S t<|.tup [.int c,.int d,.str (kR k)]) p<|.lst<|B++[.ref t]):=(eX O).trans<|aS x1;let et:upd (upd S t<|.tup [.int c,.int d,.str (kR k)]) p (.lst<|B++[.ref t]) t=OP (.tup [.int c,.int d,.str (kR k)]):=aS x1 _ _ af;calc(u,x,y,c,d,k,Z,st _ _ o,?_,);calc((L.trans<|ai O _).upd hp,_,af,aJ.snoc (X.mono λ_ _ z=>st _ _ z) et,Z,)
def IG(F:Fun K "blocks_of" "blocks_of" Y34 f fd)(bl:Bl K mg Y)(pB:⟨⟩ 1 "with_column" ["blocks","pairs"] (fg K Y))(wu:⟨⟩ 1 "pairs_of" ["parts"] (iN K Y))(iS:⟨⟩ 1 "stretches" ["low","high","marks"] (eW K Y)):() 2 f fd ["bounds","marks"] (gM K Y):=by
 refine F.okA Z34 λc8 A c1 s H vs Q E k h=>?_
 let(C,ml,ys,ps,as,mss,rfl,o,hP,n,hM,ok,q):=h
 refine(_,(aq (aG (i:=2) Z34.nd Z (bd Z)<|aU<|ae (bf ag) ag)
  (aq (aW cr Z (q8 Z bl.zip_<|ae (pv 0)<|ae (pv 1) ag) (eK Z<|aI (aC (i:=3) Z34.nd Z<|bd Z)<|aI (aC (i:=4) Z34.nd Z<|bd Z) bF)
  (aj<|aG (i:=2) Z34.nd Z (bd Z)<|aM pB k Z<|ae (pv 2)<|ae (aM wu k Z<|ae (aM iS k Z<|ae (aF aZ (pv 3) ak<|λ_ _=>Z)<|ae (aF aZ (pv 3) ak<|λ_ _=>Z)<|ae (pv 4) ag) ag) ag))
  (aj<|aE<|pv 2))),?_,)
 dsimp only[cw,Rp,Ro];show(let W:TS:=_;let r1:TS:=bh _ W;bh _ r1 _ _ _);intro _ _;let a6:=⇑hP;let u:=hM.1;refine((by show 0<=Lc;decide),λa l=>((by show 1<=Lc;decide),λg d=>?_,),);let J:=(ai l<|.tup []).trans<|ai d<|.lst [.ref a];let e0:upd (upd H a<|.tup []) g (.lst [.ref a]) g=OP (.lst [.ref a]):=af;let t0:BxA (upd (upd H a<|.tup []) g<|.lst [.ref a]) a []:=([],ai d _ _ _ af,.nil,);let a4:H g=none:=(ai l<|.tup []).free d;generalize upd (upd H a<|.tup []) g (.lst [.ref a])=H0 at J e0 t0⊢;refine⟨C,ml,Z,(_,Rm<|J _ _ o,),(_,Rm<|J _ _ n,),(let I_:Nat->Rq:=λi G R=>au H R/\∃(D:La)(e:O4 V)(c3 c4:Option V),H D=OQ/\R D=OP (.lst e)/\BkL R e (dN (ps.take i)<|mss.take i)/\G=[↑C,↑ml,↑D,c3,c4];q9 (xs:=ys) (ys:=as.map RZ) I_ (J,g,_,_,_,a4,e0,aJ.snoc aJ.nil t0,Z,) (λi G R h=>(Rm<|h.1 _ _ o,Rm<|h.1 _ _ n,)) (λi x y G O T ex ey X hT=>?_) (λG O X=>?_))⟩
 .let(j,D,e,c3,c4,nD,eD,L,rfl):=X;let(p,t,M,rfl,ht):=hP.get ex;let(r,rfl,er):=n5 ey;let(b,N):∃b,mss[i]?=OP b:=(_,KN (by rw[←u];exact(KO.mp er).1),);let(r',v,k):=hM.2 i b N;rw[er]at v;cases v;let(pw,a9,c7):=ok.col i p b M N;let S:=ai hT<|.tup [.ref t,.ref r];let eT:upd O T (.tup [.ref t,.ref r]) T=OP (.tup [.ref t,.ref r]):=af;generalize upd O T (.tup [.ref t,.ref r])=H2 at S eT⊢;let s2:=j.trans S;calc(T,_,Z,Rn eT,Z,_,_,Z,_,_,Z,Z,?_,);calc(t,_,_,_,Z,Z,Rn<|s2 _ _ ht,Z,t,_,_,_,Z,Z,Rn<|s2 _ _ ht,Z,r,b,b,p.1,p.2,Z,Rm<|s2 _ _ k,∅,∅,λm hm _ _=>hm,λW H3 cs a2 s3 c5 b4 a8 a7 kA c6=>?_,);obtain rfl:cs=b:=iz a7 pw λc=>(λh=>((kA c).mp h).1,λh=>(kA c).mpr (h,a9 c h,),)
  refine(W,a2,_,Z,b4,a8,(by rw[cS];lia),λD4 a1 H4 s4 c2 b6 b1=>?_,);let I:=(S.trans s3).trans s4;let hf:=ok.few<|i+1;rw[lQ M N,rP]at hf;refine(D,D4,e,a1,_,_,Z,I _ _ eD,L.mono λ_ _ z=>BxA.mono z I.tups,(λB hB=>?_),b6,b1,hf,λD5 a0 H5 s5 a5 b5 b3=>?_,)
  .let hi:i<⇑ps:=(KO.mp M).1;let h6:=ok.six;let:=gk (ps:=ps.take i) (mss:=mss.take i) (by rw[hZ,hZ,ok.len]) B hB;rw[this,hZ];lia
  .let a3:=(j.trans I).trans s5;exact(a3,D5,a0,_,_,(j.trans I).free a5,b5,by rw[lQ M N];exact b3,Z,)
 .let(j,D,e,c3,c4,nD,eD,L,rfl):=X;rw[show min ⇑ys ⇑(as.map RZ)=⇑ps by rw[aa,u,a6,ok.len,Nat.min_self],gs,show mss.take ⇑ps=mss by rw[←ok.len,gs]]at L;calc(q D e O j nD eD L)
def IH(F:Fun K "plan_with" "plan_with" Y72 f fd)(bl:Bl K mg Y)(mB:⟨⟩ 1 "with_pair" ["box","column","pair"] (gJ K Y)):() 2 f fd ["plans","block","column","cut","cost"] (gN K Y P w mg base):=by
 refine F.okA Z73 λa3 A W s H vs Q E j h=>?_
 let(d,b,I,M,B,c,m,x,lo,hi,a,g,rfl,u,S,h5,hc,hb,ha,hd,q):=h
 refine(_,(aH (aG (i:=5) Z73.nd Z (bd Z)<|aF (fc j) (pv 0) (aM mB j Z<|ae (pv 1)<|ae (pv 2)<|ae (bf<|ae (aF aZ (aF aZ (pv 1) (pv 2)<|λ_ _=>Z) ak<|λ_ _=>Z)<|ae (ay b7 (pv 3) ak) ag) ag)<|λ_ _=>Z)
  (aH (aG (i:=6) Z73.nd Z (bd Z)<|aF (fc j) (pv 0) (aM mB j Z<|ae (pv 1)<|ae (pv 2)<|ae (bf<|ae (pv 3)<|ae (aF aZ (aF aZ (pv 1) (pv 2)<|λ_ _=>Z) ak<|λ_ _=>Z) ag) ag)<|λ_ _=>Z)
  (aq (aX (aL (Ak j) (pv 5) (pv 6)<|aQ _)
  (aj<|aE<|pv 5)
  aN)
  (aj<|aE<|bf<|ae (ay bw (pv 4)<|aw (i4 Z) Z bl.max_ rc<|ae (aF aZ (pv 5) ak<|λ_ _=>Z)<|ae (aF aZ (pv 6) ak<|λ_ _=>Z) ag)<|ae (bf<|ae (gh Z bl.ASK_)<|ae (pv 2)<|ae (pv 3)<|ae (aF aZ (pv 5) ak<|λ_ _=>Z)<|ae (aF aZ (pv 6) ak<|λ_ _=>Z) ag) ag)))),?_,)
 dsimp only[cw,Rp,Ro];show(let r3:TS:=_;let r2:TS:=bh _ r3;let r1:TS:=cm _ r2;cm _ r1 _ _ _);intro _ _ _;let l:c<B.length:=(KO.mp hc).1;let(xs,eb,R):=id S;let(pp,O,G,L,g0):=R.get (i:=c) (KN (by rw[R.length];exact l));rw[hc]at G;cases G;let a0:atI xs (c:Int)=↑O:=bN (by rw[KN (by rw[R.length];exact l),L]);let(kb,v,mb,gb):=u.get hb;let(ka,N,ma,ga):=u.get ha;refine(let T:Rq:=λo V=>au H V/\o=[↑d,↑b,OP<|.int c,OP<|.int m,OP<|.int x,↑v,OQ];(T,?_,?_,))
 .refine(b,_,_,_,Z,Z,Rn eb,a0,O,_,_,_,Z,Z,Rn g0,Z,_,_,Z,Z,(by show 2<=Lc;decide),λt D=>?_,);let n:=ai D<|.tup [.int lo,.int (m-1)];calc(b,t,B,c,lo,m-1,Z,BxA.mono S n.tups,af,l,∅,λr H1 C j=>?_,);let k:=n.trans C;exact(d,r,kb,I,bkK _,.ref v,Z,Z,.inl<|k _ _ u.at_,eA k.tups u.keys,uz j,mb,k,Z,)
 rintro a2 H1 ⟨C,rfl⟩;refine(let T:Rq:=λo V=>au H V/\o=[↑d,↑b,OP<|.int c,OP<|.int m,OP<|.int x,↑v,↑N];(T,?_,?_,))
 .refine(b,_,_,_,Z,Z,Rn<|C _ _ eb,a0,O,_,_,_,Z,Z,Rn<|C _ _ g0,Z,(by show 2<=Lc;decide),λt D=>?_,);let n:=C.trans<|ai D<|.tup [.int m,.int hi];calc(b,t,B,c,m,hi,Z,BxA.mono S n.tups,af,l,∅,λr H2 s2 j=>?_,);let k:=n.trans s2;exact(d,r,ka,I,bkK _,.ref N,Z,Z,.inl<|k _ _ u.at_,eA k.tups u.keys,uz j,ma,k,Z,)
 rintro a1 H2 ⟨s2,rfl⟩;let p:=gb.mono s2.tups;let J:=ga.mono s2.tups;calc(λhT=>.inr<|PlA.eq hT p J ∅ ?_);let ec:∀y:Bool,OT (a=g)=y->cmb x c m a g=if y=OR then a else(x+max a.1 g.1,.ask c m a.2 g.2):=λy h=>by unfold cmb;rw[←h];by_cases z:a=g <;> simp[z]
 by_cases e:a=g
 .refine(OR,by rw[OZ e],iw<|q v H2 s2 ?_,);rw[ec OR (OZ e),OX Z];exact p
 .refine(OS,by rw[O0 e],cG ?_,);let(X,G,g1):=id p;let(ta,L,g2):=id J;refine(v,_,_,_,Z,Z,Rn G,Z,N,_,_,_,Z,Z,Rn L,Z,a.1,g.1,Z,_,_,Z,Z,v,_,_,_,Z,Z,Rn G,Z,N,_,_,_,Z,Z,Rn L,Z,(by show 5<=Lc;decide),λt D=>((by show 2<=Lc;decide),λr j=>?_,),);let n:=ai D<|.tup [.str jh,.int c,.int m,.ref X,.ref ta];let k:=n.trans<|ai j<|.tup [.int (x+if g.1>a.1 then g.1 else a.1),.ref t];calc q r _ (s2.trans k) ?_;let z:=ec OS<|O0 e;rw[OW bi]at z;rw[z];refine(t,?_,X,ta,?_,g1.mono k.tups,g2.mono k.tups,)
  .show _=OP (HO.tup [.int (x+max a.1 g.1),.ref t]);rw[show max a.1 g.1=if g.1>a.1 then g.1 else a.1 by split <;> lia];exact af
  .exact ai j _ _ _ af
def II(F:Fun K "_law_fences" "_law_fences" Y51 f fd)(bl:Bl K mg Y)(cb:⟨⟩ 1 "_law_at" ["script","k"] (dE K Y)):() 2 f fd ["script"] (fW K Y):=by
 refine F.okA Z51 λg1 A f2 s H vs Q E hr h=>?_
 let(a,ns,rfl,hS,q):=h;refine'(?tt,?r0,?rd,)
 case' r0=>refine' aq ?N0 ?r1
 case' r1=>refine' aH ?N1 ?r2
 case' r2=>refine' aq ?N2 ?r3
 case' r3=>refine' aj ?N3
 case N0=>exact(aG (i:=1) Z51.nd Z (bd Z)<|aU ag)
 case' N1 =>
  refine' aG (i:=2) ?N4 ?N5 ?N6 ?h1 ?N7 ?N8
  case N4=>exact Z51.nd
  case N5=>exact Z
  case N6=>exact(bd Z)
  case' h1=>refine' aF aO ?h3 ?h4 (λ_ _=>Z)
  case' h3=>refine' aU ?h5
  case' h5=>refine' ae ?h6 ?h7 ?h8
  case' h6=>refine' aU ?h9
  case' h9=>refine' ae ?N9 ?M0 ?M1
  case N9=>exact ak
  case M0=>exact ag
  case M1=>exact Z
  case' h7=>refine' ae ?M2 ?M3 ?M4
  case' M2=>refine' aU ?M5
  case' M5=>refine' ae ?M6 ?M7 ?M8
  case M6=>exact ak
  case' M7=>refine' ae ?M9 ?L0 ?L1
  case M9=>exact ak
  case L0=>exact ag
  case L1=>exact Z
  case M8=>exact Z
  case' M3=>refine' ae ?L2 ?L3 ?L4
  case' L2=>refine' aU ?L5
  case' L5=>refine' ae ?L6 ?L7 ?L8
  case L6=>exact ak
  case' L7=>refine' ae ?L9 ?K0 ?K1
  case L9=>exact ak
  case' K0=>refine' ae ?K2 ?K3 ?K4
  case K2=>exact ak
  case K3=>exact ag
  case K4=>exact Z
  case K1=>exact Z
  case L8=>exact Z
  case' L3=>refine' ae ?K5 ?K6 ?K7
  case' K5=>refine' aU ?K8
  case' K8=>refine' ae ?K9 ?J0 ?J1
  case K9=>exact ak
  case' J0=>refine' ae ?J2 ?J3 ?J4
  case J2=>exact ak
  case' J3=>refine' ae ?J5 ?J6 ?J7
  case J5=>exact ak
  case' J6=>refine' ae ?J8 ?J9 ?I0
  case J8=>exact ak
  case J9=>exact ag
  case I0=>exact Z
  case J7=>exact Z
  case J4=>exact Z
  case J1=>exact Z
  case K6=>exact ag
  case K7=>exact Z
  case L4=>exact Z
  case M4=>exact Z
  case h8=>exact Z
  case' h4=>refine' ay ?I1 ?I2 ?I3
  case I1=>exact bu
  case' I2=>refine' aM cb hr Z ?I4
  case' I4=>refine' ae ?I5 ?I6 ?I7
  case I5=>exact(pv 0)
  case' I6=>refine' ae ?I8 ?I9 ?H0
  case I8=>exact ak
  case I9=>exact ag
  case H0=>exact Z
  case I7=>exact Z
  case I3=>exact ak
  case N7=>exact Z
  case' N8=>first|exact .inl Z|exact .inr Z
 case' N2 =>
  refine' aW cr Z (bB Z bl.range_<|ae (aw az Z bl.len_ OO<|ae (pv 2) ag) ag) (aC (i:=3) Z51.nd Z<|bd Z) ?H1
  case' H1=>refine' aH ?H2 ?H3
  case' H2=>refine' aG (i:=4) ?H4 ?H5 ?H6 ?H7 ?H8 ?H9
  case H4=>exact Z51.nd
  case H5=>exact Z
  case H6=>exact(bd Z)
  case' H7=>refine' ay ?G0 ?G1 ?G2
  case G0=>exact bu
  case' G1=>refine' aM cb hr Z ?G3
  case' G3=>refine' ae ?G4 ?G5 ?G6
  case G4=>exact(pv 0)
  case' G5=>refine' ae ?G7 ?G8 ?G9
  case' G7=>refine' ay ?F0 ?F1 ?F2
  case F0=>exact bw
  case F1=>exact ak
  case F2=>exact(pv 3)
  case G8=>exact ag
  case G9=>exact Z
  case G6=>exact Z
  case' G2=>refine' ay ?F3 ?F4 ?F5
  case F3=>exact cB
  case F4=>exact ak
  case F5=>exact ak
  case H8=>exact Z
  case' H9=>first|exact .inl Z|exact .inr Z
  case' H3=>refine' aH ?F6 ?F7
  case' F6=>refine' aG (i:=5) ?F8 ?F9 ?E0 ?E1 ?E2 ?E3
  case F8=>exact Z51.nd
  case F9=>exact Z
  case E0=>exact(bd Z)
  case' E1=>refine' aU ?E4
  case' E4=>refine' ae ?E5 ?E6 ?E7
  case' E5=>refine' ay ?E8 ?E9 ?D0
  case E8=>exact b7
  case' E9=>refine' ay ?D1 ?D2 ?D3
  case D1=>exact bu
  case' D2=>refine' ay ?D4 ?D5 ?D6
  case D4=>exact fC
  case D5=>exact(pv 4)
  case' D6=>refine' ay ?Gg ?D7 ?D8
  case Gg=>exact cB
  case D7=>exact ak
  case D8=>exact ak
  case' D3=>refine' ay ?D9 ?C0 ?C1
  case D9=>exact cB
  case C0=>exact ak
  case C1=>exact ak
  case' D0=>refine' ay ?C2 ?C3 ?C4
  case C2=>exact lr
  case C3=>exact ak
  case' C4=>refine' ay ?C5 ?C6 ?C7
  case C5=>exact cB
  case C6=>exact ak
  case C7=>exact ak
  case E6=>exact ag
  case E7=>exact Z
  case E2=>exact Z
  case' E3=>first|exact .inl Z|exact .inr Z
  case' F7=>refine' aH ?C8 ?C9
  case' C8=>refine' aG (i:=6) ?B0 ?B1 ?B2 ?B3 ?B4 ?B5
  case B0=>exact Z51.nd
  case B1=>exact Z
  case B2=>exact(bd Z)
  case' B3=>refine' aF aO ?B6 ?B7 (λ_ _=>Z)
  case' B6=>refine' aU ?B8
  case' B8=>refine' ae ?B9 ?A0 ?A1
  case B9=>exact ak
  case' A0=>refine' ae ?A2 ?A3 ?A4
  case A2=>exact ak
  case' A3=>refine' ae ?A5 ?A6 ?A7
  case' A5=>refine' ay ?A8 ?A9 ?h130
  case A8=>exact cB
  case A9=>exact ak
  case h130=>exact ak
  case' A6=>refine' ae ?h131 ?h132 ?h133
  case' h131=>refine' ay ?h134 ?h135 ?h136
  case h134=>exact cB
  case h135=>exact ak
  case h136=>exact ak
  case h132=>exact ag
  case h133=>exact Z
  case A7=>exact Z
  case A4=>exact Z
  case A1=>exact Z
  case' B7=>refine' ay ?h137 ?h138 ?h139
  case h137=>exact bu
  case h138=>exact(pv 4)
  case h139=>exact ak
  case B4=>exact Z
  case' B5=>first|exact .inl Z|exact .inr Z
  case' C9=>refine' aH ?h140 ?h141
  case' h140=>refine' aX ?h142 ?h143 ?h144
  case' h142=>refine' aL ?h145 ?h146 ?h147 (aQ _)
  case h145=>exact cO
  case' h146=>refine' ay ?h148 ?h149 ?h150
  case h148=>exact bu
  case h149=>exact(pv 4)
  case h150=>exact ak
  case h147=>exact ak
  case' h143=>refine' aq ?h151 ?h152
  case' h151=>refine' aG (i:=5) ?u154a ?u154b ?u154c ?h153 ?u154d ?u154e
  case u154a=>exact Z51.nd
  case u154b=>exact Z
  case u154c=>exact(bd Z)
  case' h153=>refine' aU ?h155
  case' h155=>refine' ae ?h156 ?h157 ?h158
  case h156=>exact ak
  case h157=>exact ag
  case h158=>exact Z
  case u154d=>exact Z
  case' u154e=>first|exact .inl Z|exact .inr Z
  case' h152=>refine' aj ?h159
  case' h159=>refine' aG (i:=6) ?u161a ?u161b ?u161c ?h160 ?u161d ?u161e
  case u161a=>exact Z51.nd
  case u161b=>exact Z
  case u161c=>exact(bd Z)
  case h160=>exact ak
  case u161d=>exact Z
  case' u161e=>first|exact .inl Z|exact .inr Z
  case h144=>exact aN
  case' h141=>refine' aq ?h162 ?h163
  case' h162=>refine' aW cr Z (bB Z bl.range_<|ae (ay b7 (aF aO (pv 2) (pv 3)<|λ_ _=>Z)<|ay mO (ay bu (pv 4) ak) ak) ag) (aC (i:=7) Z51.nd Z<|bd Z) ?h164
  case' h164=>refine' aq ?h165 ?h166
  case' h165=>refine' aG (i:=8) ?u168a ?u168b ?u168c ?h167 ?u168d ?u168e
  case u168a=>exact Z51.nd
  case u168b=>exact Z
  case u168c=>exact(bd Z)
  case' h167=>refine' ay ?h169 ?h170 ?h171
  case h169=>exact bu
  case' h170=>refine' ay ?h172 ?h173 ?h174
  case h172=>exact fC
  case' h173=>refine' ay ?h175 ?h176 ?h177
  case h175=>exact bu
  case' h176=>refine' ay ?h178 ?h179 ?h180
  case h178=>exact fC
  case h179=>exact(pv 4)
  case' h180=>refine' ay ?h181 ?h182 ?h183
  case h181=>exact cB
  case h182=>exact ak
  case h183=>exact ak
  case' h177=>refine' ay ?h184 ?h185 ?h186
  case h184=>exact cB
  case h185=>exact ak
  case h186=>exact ak
  case' h174=>refine' ay ?h187 ?h188 ?h189
  case h187=>exact bw
  case' h188=>refine' ay ?h190 ?h191 ?h192
  case h190=>exact bw
  case' h191=>refine' ay ?h193 ?h194 ?h195
  case h193=>exact lr
  case h194=>exact(pv 7)
  case h195=>exact(pv 7)
  case h192=>exact(pv 7)
  case h189=>exact ak
  case h171=>exact(pv 6)
  case u168d=>exact Z
  case' u168e=>first|exact .inl Z|exact .inr Z
  case' h166=>refine' aj ?h196
  case' h196=>refine' aV ?h197
  case' h197=>refine' dB PySem.F.plainAttrs_list PySem.F.slot_list_append PySem.F.type_list_append bg ?h198 ?h199
  case h198=>exact(pv 5)
  case' h199=>refine' ae ?ug ?h201 ?h202
  case' ug=>refine' ay ?h203 ?h204 ?h205
  case h203=>exact bw
  case' h204=>refine' ay ?h206 ?h207 ?h208
  case h206=>exact bw
  case' h207=>refine' aF aO ?h209 ?h210 (λ_ _=>Z)
  case h209=>exact(pv 5)
  case h210=>exact(pv 7)
  case h208=>exact(pv 8)
  case h205=>exact ak
  case h201=>exact ag
  case h202=>exact Z
  case' h163=>refine' aj ?h211
  case' h211=>refine' aV ?h212
  case' h212=>refine' dB PySem.F.plainAttrs_list PySem.F.slot_list_append PySem.F.type_list_append bg ?h213 ?h214
  case h213=>exact(pv 1)
  case' h214=>refine' ae ?h215 ?h216 ?h217
  case h215=>exact(pv 5)
  case h216=>exact ag
  case h217=>exact Z
 case N3=>exact(aE<|pv 1)
 case rd =>
  dsimp only[cw,Rp,Ro];show(let r3:TS:=_;let r2:TS:=bh _ r3;let r1:TS:=cm _ r2;bh _ r1 _ _ _);intro _ _ _;refine((by show 0<=Lc;decide),λu a9=>?_,);let s0:au H (upd H u<|.lst []):=ai a9 _;let e0:upd H u (.lst []) u=OP (.lst []):=af;generalize upd H u (.lst [])=H0 at s0 e0⊢;refine(let J:Rq:=λd L=>au H0 L/\∃(m:La)(G:O4 Nat),G∈szL/\L m=OP (.lst<|vN G)/\d=[↑a,↑u,↑m,OQ,OQ,OQ,OQ,OQ,OQ];(J,?_,?_,))
  .refine((by show 1<=Lc;decide),λR h1=>?_,);let s1:=ai h1<|.lst<|vN [7];let e1:upd H0 R (.lst<|vN [7]) R=OP (.lst<|vN [7]):=af;let T:upd H0 R (.lst [.int 7])=upd H0 R (.lst<|vN [7]):=rfl;rw[T];generalize upd H0 R (.lst<|vN [7])=H1 at s1 e1⊢;clear T;refine((by show 2<=Lc;decide),λO h2=>?_,);let s2:=ai h2<|.lst<|vN [4,3];let e2:upd H1 O (.lst<|vN [4,3]) O=OP (.lst<|vN [4,3]):=af;let T:upd H1 O (.lst [.int 4,.int 3])=upd H1 O (.lst<|vN [4,3]):=rfl;rw[T];generalize upd H1 O (.lst<|vN [4,3])=H2 at s2 e2⊢;clear T;refine((by show 3<=Lc;decide),λN h3=>?_,);let s3:=ai h3<|.lst<|vN [3,2,2];let e3:upd H2 N (.lst<|vN [3,2,2]) N=OP (.lst<|vN [3,2,2]):=af;let T:upd H2 N (.lst [.int 3,.int 2,.int 2])=upd H2 N (.lst<|vN [3,2,2]):=rfl;rw[T];generalize upd H2 N (.lst<|vN [3,2,2])=H3 at s3 e3⊢;clear T;refine((by show 4<=Lc;decide),λM h4=>?_,);let s4:=ai h4<|.lst<|vN [2,2,2,2];let e4:upd H3 M (.lst<|vN [2,2,2,2]) M=OP (.lst<|vN [2,2,2,2]):=af;let T:upd H3 M (.lst [.int 2,.int 2,.int 2,.int 2])=upd H3 M (.lst<|vN [2,2,2,2]):=rfl;rw[T];generalize upd H3 M (.lst<|vN [2,2,2,2])=H4 at s4 e4⊢;clear T;refine((by show 4<=Lc;decide),λp hp=>?_,);let s5:=ai hp<|.lst [.ref R,.ref O,.ref N,.ref M];let e5:upd H4 p (.lst [.ref R,.ref O,.ref N,.ref M]) p=OP (.lst [.ref R,.ref O,.ref N,.ref M]):=af;generalize upd H4 p (.lst [.ref R,.ref O,.ref N,.ref M])=H5 at s5 e5⊢;let b4:=s4.trans s5;let b5:=s3.trans b4;let b6:=s2.trans b5;let Gi:=s1.trans b6;refine(a,ns,0,Z,(s0.trans Gi).seq hS,ca _,_,_,Z,Z,(by show(0:Int)<4;decide),?_,);let(m,G,hv,em,hq):∃(m:La)(G:O4 Nat),atI [RZ R,.ref O,.ref N,.ref M] (bE ns 0%4)=↑m/\H5 m=OP (.lst<|vN G)/\G∈szL:=by
    let x0:=Kq (bE ns 0) (show(4:Int)≠0 by decide);let x1:=Kx (bE ns 0) (show(0:Int)<4 by decide);generalize bE ns 0%4=k at x0 x1⊢;let:k=0\/k=1\/k=2\/k=3:=∅
    rcases this with rfl|rfl|rfl|rfl
    .exact(R,_,Z,b6 _ _ e1,⋯,)
    .exact(O,_,Z,b5 _ _ e2,⋯,)
    .exact(N,_,Z,b4 _ _ e3,⋯,)
    .exact(M,_,Z,s5 _ _ e4,⋯,)
   exact(p,_,_,_,Z,Z,Rm e5,hv,Gi,m,G,hq,em,Z,)
  rintro f7 H1 ⟨s1,m,G,hq,em,rfl⟩;let(ql,qh,qb):=rZ G hq;let c9:=s0.trans s1;let Gj:H1 u=OP (.lst []):=s1 _ _ e0;let e9:H0 m=OQ\/m≠u:=by
   by_cases z:m=u
   .exfalso;rw[z,Gj]at em;injection em with em;injection em with em;cases G with|nil=>exact OY ql ⋯|cons x y=>cases em
   .exact .inr z
  let d4:m≠u:=e9.elim (λz y=>by rw[y,e0]at z;cases z) id;refine⟨m,_,Z,.inl<|Rm em,_,Z,(by rw[bO];lia),(by rw[bO];lia),(let J:Nat->Rq:=λj d L=>au (hide H1 u) L/\∃(xs:O4 V)(t:O4 (O4 Int))(c3 c4 c5 c6 X W:Option V),L u=OP (.lst xs)/\aJ xs t (λr B=>r≠u/\L r=OP (.lst<|B.map RV))/\⇑t=j/\(∀B∈t,Pts B)/\(∀(j:Nat)(B:O4 Int),t[j]?=OP B->bE ns (1+(0+(j:Int)))%5=1->∃m:Nat,1<=m/\m<=7/\B=dM (m+1))/\(∀(j:Nat)(B:O4 Int)(q:Nat),t[j]?=OP B->G[j]?=OP q->B.length<=q+1)/\d=[↑a,↑u,↑m,c3,c4,c5,c6,X,W];dA J (fH _ _,[],[],_,_,_,_,_,_,Gj,aJ.nil,Z,(λB h=>by cases h),(λj B e=>by simp at e),(λj B q e=>by simp at e),Z,) (λj d L hj hh=>?_) (λd L hh=>?_))⟩
  .let(sm,xs,t,c3,c4,c5,c6,X,W,a4,hR,a2,a8,a6,a7,rfl):=hh;rw[bO]at hj;let d5:j<G.length:=∅
   let(qk,b3):∃q,G[j]?=OP q:=(_,KN d5,);let(q2,q7):=qb qk<|KP b3;let f1:L m=OP (.lst<|vN G):=sm _ _<|bL em d4;let sH:au H L:=λb o e=>sm _ _<|bL (c9 b o e) (λz=>by rw[z,a9]at e;cases e)
   let f8:⇑xs=⇑t:=hR.1;let(c,hc):∃c,c=bE ns (1+(0+(j:Int)))%10^(45:Int).toNat:=(_,Z,);refine(let J:Rq:=λd D=>D=L/\d=[↑a,↑u,↑m,OP<|.int<|0+(j:Int),OP<|.int c,c5,c6,X,W];(J,?_,?_,))
   .exact(_,_,Z,Z,a,ns,_,Z,sH.seq hS,(by show 0<=1+(0+(j:Int));lia),_,_,Z,Z,(⋯,⋯,⋯,),_,_,Z,Z,p10 _,Z,by rw[hc];rfl,)
   let d0:c.natAbs<2^200:=by rw[hc];exact mU (p10 _)<|~~~0
   let e8:c%5=bE ns (1+(0+(j:Int)))%5:=by rw[hc];exact yZ _
   clear hc;rintro f6 H2 ⟨z2,rfl⟩;subst z2;refine(let J:Rq:=λd D=>au H2 D/\∃(C:La)(x:Int),H2 C=OQ/\D C=OP (.lst [.int x])/\d=[↑a,↑u,↑m,OP<|.int<|0+(j:Int),OP<|.int c,↑C,c6,X,W];(J,?_,?_,))
   .let m1:L4 c (48271^(12:Int).toNat):=d8 (m:=200) (n:=200) d0 (~~~0) ⋯ ⋯;exact(_,_,Z,Z,(⋯,⋯,⋯,),_,_,Z,Z,m1,_,_,Z,Z,(⋯,⋯,⋯,),_,_,Z,Z,p10 _,_,_,Z,Z,(⋯,⋯,⋯,),_,_,Z,Z,.inl (⋯,⋯,),_,_,Z,Z,(by show 1<=Lc;decide),λC hf=>(ai hf _,C,_,hf,af,Z,),)
   rintro f5 H3 ⟨s3,f0,x0,c1,d2,rfl⟩;refine(let J:Rq:=λd D=>au H3 D/\∃v:Int,0<v/\d=[↑a,↑u,↑m,OP<|.int<|0+(j:Int),OP<|.int c,↑f0,OP<|.int v,X,W];(J,?_,?_,))
   .refine(_,_,Z,Z,(⋯,⋯,⋯,),_,_,Z,Z,(⋯,⋯,⋯,),(by show 4<=Lc;decide),λp hp=>?_,);let(v,hv,hm):=HJ 1 3 (10^(9:Int).toNat) (10^(38:Int).toNat) (k:=c%4) (Kq _ ⋯)<|Kx _ ⋯;refine(_,_,Z,Z,(by show(0:Int)<4;decide),p,_,_,_,Z,Z,Rm af,hv,ai hp _,v,?_,Z,);let:∀x∈[(1:Int),3,10^(9:Int).toNat,10^(38:Int).toNat],0<x:= ~~~0
    exact this v hm
   rintro f4 H4 ⟨s4,v0,a0,rfl⟩;refine(let J:Rq:=λd D=>au H2 D/\∃(C:La)(x v:Int),H2 C=OQ/\D C=OP (.lst<|[x].map RV)/\Fnc c 0 [x]/\0<v/\(c%5=1->v=1)/\d=[↑a,↑u,↑m,OP<|.int<|0+(j:Int),OP<|.int c,↑C,OP<|.int v,X,W];(J,?_,?_,))
   .refine(_,_,Z,Z,(by show(0:Int)<5;decide),Z,_,Z,?_,);refine ck (λg=>?_)<|λg=>?_
    .refine((by show 1<=Lc;decide),λC hf=>?_,);exact((s3.trans s4).trans<|ai hf _,C,0,1,(s3.trans s4).free hf,af,(Z,uH _ _,λ_=>Z,),⋯,λ_=>Z,Z,)
    .exact(s3.trans s4,f0,x0,v0,c1,s4 _ _ d2,(Z,uH _ _,λz=>OY z<|pV g,),a0,λz=>OY z<|pV g,Z,)
   clear a0 d2 c1;rintro f3 H5 ⟨s5,C,x,v,nf,ef,hF,a0,d3,rfl⟩;let g3:=Kq c (show(7:Int)≠0 by decide);let g2:=Kx c (show(0:Int)<7 by decide);let c2:u≠C:=λz=>by rw[←z,a4]at nf;cases nf
   let IJ:=s5 _ _ a4;let(cnt,IK):∃n:Nat,(qk:Int)-c%7 / 6=(n:Int):=(((qk:Int)-c%7 / 6).toNat,∅,);let IL:1<=cnt:=∅
   let KC:cnt<=qk:=∅
   refine⟨m,_,_,_,Z,Z,Rm<|s5 _ _ f1,jj<|xA b3,_,_,Z,Z,(by show(0:Int)<7;decide),_,_,Z,Z,(⋯,⋯,),_,_,Z,Z,(cnt:Int),(by rw[←IK]),∅,∅,(let J:Nat->Rq:=λi d H6=>au (hide H5 C) H6/\∃(fs:O4 Int)(X W:Option V),H6 C=OP (.lst<|fs.map RV)/\Fnc c i fs/\d=[↑a,↑u,↑m,OP<|.int<|0+(j:Int),OP<|.int c,↑C,OP<|.int v,X,W];dA J (fH _ _,[x],_,_,ef,hF,Z,) (λi d H6 hi hh=>?_) (λd H6 hh=>?_))⟩
   .let(s6,fs,X,W,a3,I,rfl):=hh;let f9:i<7:=∅
    let e6:(0+(i:Int))*(0+(i:Int))=((i*i:Nat):Int):=by rw[IN];exact(KQ i i).symm
    let g0:i*i<=10*10:=ET ∅ ∅;let m1:L4 c (69621^(12:Int).toNat):=d8 (m:=200) (n:=200) d0 (~~~0) ⋯ ⋯;let m2:L4 (c*69621^(12:Int).toNat%10^(59:Int).toNat) ((0+(i:Int))*(0+(i:Int))+(0+(i:Int))+41):=d8 (m:=200) (n:=64) (mU (p10 _)<|~~~0) (by rw[e6];lia) ⋯ ⋯;let e7:=I.len;let(l_,d1):∃l,fs[i]?=OP l:=(_,KN ∅,);refine(_,_,Z,Z,(⋯,⋯,⋯,),_,_,Z,Z,m1,_,_,Z,Z,(⋯,⋯,⋯,),_,_,Z,Z,p10 _,_,_,Z,Z,.inl (by show -(2^64)<0+(i:Int);lia,by show 0+(i:Int)<2^64;lia,),_,_,Z,Z,_,_,Z,Z,_,_,Z,Z,m2,_,_,Z,Z,a0,?_,);generalize c*69621^(12:Int).toNat%10^(59:Int).toNat*((0+(i:Int))*(0+(i:Int))+(0+(i:Int))+41)=y;let y0:=Kq y<|Pp a0;refine(.inl (Z,_,Rm a3,),C,_,_,_,Z,Z,Rm a3,jj<|get_map d1,_,_,Z,Z,_,_,Z,Z,C,_,_,Z,Z,a3,aD (by rw[aa];lia),?_,);refine(λb o e=>?_,fs++[l_+y%v+1],_,_,by rw[af,fq];rfl,I.put d1 y0 (λz=>by rw[d3 z];exact Int.emod_one _),Z,);let a5:b≠C:=λz=>by rw[z]at e;unfold hide at e;rw[OX Z]at e;cases e
    rw[ar a5];exact s6 _ _ e
   .let(s6,fs,X,W,a3,I,rfl):=hh;rw[Kn]at I;let e7:=I.len;let Gk:H6 u=OP (.lst xs):=s6 _ _<|bL IJ c2;calc(.inl (Z,_,Rm Gk,),u,xs,_,Z,Z,Gk,aD ∅,?_,);let up:∀{b:La}{o:HO},H2 b=OP o->H6 b=OP o:=λ{b o} e=>s6 _ _<|bL (s5 _ _ e) (λz=>by rw[z,nf]at e;cases e)
    refine(λb o e=>?_,xs++[.ref C],t++[fs],_,_,_,_,_,_,af,?_,by rw[br,a2];rfl,λB a1=>?_,λk B S hk=>?_,λk B q_ S eq=>?_,Z,)
    .let a5:b≠u:=λz=>by rw[z]at e;unfold hide at e;rw[OX Z]at e;cases e
     rw[ar a5];exact up<|sm _ _ e
    .let hz:aJ (xs++[.ref C]) (t++[fs]) (λr B=>r≠u/\H6 r=OP (.lst<|B.map RV)):=aJ.snoc (aJ.mono hR λr B (n,e,)=>(n,up e,)) (c2.symm,a3,);exact aJ.mono hz λr B (n,e,)=>(n,(ar n).trans e,)
    .rcases gw.mp a1 with a1|a1
     .exact a8 B a1
     .rw[dV.mp a1];exact(∅,∅,I.asc,)
    .by_cases b1:k<⇑t
     .rw[fo b1]at S;exact a6 k B S hk
     .let b0:k=⇑t:=by have:=(KO.mp S).1;rw[br,gR]at this;lia
      subst b0;rw[jn (Ab _),Fp]at S;cases S;rw[a2,←e8]at hk;exact(cnt,IL,∅,I.wrd hk,)
    .by_cases b1:k<⇑t
     .rw[fo b1]at S;exact a7 k B q_ S eq
     .let b0:k=⇑t:=by have:=(KO.mp S).1;rw[br,gR]at this;lia
      subst b0;rw[jn (Ab _),Fp]at S;cases S;rw[a2,b3]at eq;cases eq;lia
  .let(sm,xs,t,c3,c4,c5,c6,X,W,a4,hR,a2,a8,a6,a7,rfl):=hh;refine(q u xs t L (λb o e=>sm _ _<|bL (c9 b o e) (λz=>by rw[z,a9]at e;cases e)) a4 (aJ.mono hR λr B h=>h.2) (a8,a6,G,hq,?_,a7,));rw[a2,bO,Kn]
def IM(F:Fun K "_law_rows" "_law_rows" Y56 f fd)(bl:Bl K mg Y)(oF:⟨⟩ 1 "_law_numbers" ["script"] (fh K Y)):() 2 f fd ["script","fences"] (iO K Y):=by
 refine F.okA Z56 λd4 A b3 s H vs Q E hr h=>?_
 let(a,fl,ns,xs,T,rfl,hS,a7,b0,a3,a5,d2,d1,q):=h
 refine(_,(aq (aG (i:=2) Z56.nd Z (bd Z)<|aU ag)
  (aq (aW cr Z (aR<|aM oF hr Z<|ae (pv 0) ag) (aC (i:=3) Z56.nd Z<|bd Z)
  (aH (aG (i:=4) Z56.nd Z (bd Z)<|ay bu (ay lr (ay bu (pv 3) ak) ak) ak)
  (aq (aG (i:=5) Z56.nd Z (bd Z)<|aU ag)
  (aH (aW cr Z (aR<|pv 1) (aC (i:=6) Z56.nd Z<|bd Z)
  (aq (aG (i:=7) Z56.nd Z (bd Z)<|ay b7 (ay zD ak<|ay b7 (aw az Z bl.len_ OO<|ae (pv 6) ag) ak) ak)
  (aq (aV<|dB PySem.F.plainAttrs_list PySem.F.slot_list_append PySem.F.type_list_append bg (pv 5)<|ae (ay bw ak<|ay bu (pv 4)<|pv 7) ag)
  (aj<|aG (i:=4) Z56.nd Z (bd Z)<|ay mO (pv 4)<|pv 7))))
  (aH (aX (aL cO (ay bu (pv 3) ak) ak<|aQ _)
  (aj<|qN ak<|qM (pv 5) ak set_list)
  aN)
  (aj<|aV<|dB PySem.F.plainAttrs_list PySem.F.slot_list_append PySem.F.type_list_append bg (pv 2)<|ae (bf<|ae (pv 5)<|ae (ay bu (pv 4) ak) ag) ag))))))
  (aj<|aE<|pv 2))),?_,)
 dsimp only[cw,Rp,Ro];show(let r2:TS:=_;let r1:TS:=bh _ r2;bh _ r1 _ _ _);intro _ _;let c9:⇑xs=T.length:=a3.1;refine((by show 0<=Lc;decide),λm a1=>?_,);let s0:au H (upd H m<|.lst []):=ai a1 _;let e0:upd H m (.lst []) m=OP (.lst []):=af;generalize upd H m (.lst [])=H0 at s0 e0⊢;calc(a,ns,Z,s0.seq hS,a7,λl ms H1 s1 nl el d3=>?_,);let a6:l≠m:=λz=>by rw[z,e0]at nl;cases nl
 let e1:=s1 _ _ e0;let sH:∀{I:Hp},au (hide H1 m) I->au H I:=λ{I} W b o e=>W _ _<|bL (s1 _ _<|s0 _ _ e) (λz=>by rw[z,a1]at e;cases e)
 refine⟨l,Z,(_,Rm el,),(let S:Nat->Rq:=λi d I=>au (hide H1 m) I/\∃(O:O4 V)(p:O4 (O4 Int×Int))(c3 c4 c5 D C:Option V),I m=OP (.lst O)/\aJ O p (λr b=>∃bl:La,bl≠m/\I r=OP (.tup [.ref bl,.int b.2])/\I bl=OP (.lst<|b.1.map RV))/\⇑p=i/\(∀b∈p,⇑b.1=T.length/\0<=b.2/\b.2<3/\∀x∈b.1,0<=x)/\d=[↑a,↑fl,↑m,c3,c4,c5,D,C];aY (xs:=ms.map RV) S (fH _ _,[],[],_,_,_,_,_,e1,aJ.nil,Z,(λb h=>by cases h),Z,) (λi d I _ h=>Rm<|h.1 _ _<|bL el a6) (λi y d I ey X=>?_) (λd I X=>?_))⟩
 .let(W,O,p,c3,c4,c5,D,C,M,hR,a0,hok,rfl):=X;let(nu,rfl,_):=of_map ey;let hi:i<⇑ms:=by have:=(KO.mp ey).1;rw[aa]at this;exact this
  let d0:O.length=⇑p:=hR.1;let Ct:=sH W _ _ b0;refine(let S:Rq:=λd b1=>b1=I/\∃k:Int,d=[↑a,↑fl,↑m,OP<|.int nu,OP<|.int k,c5,D,C];(S,?_,?_,))
  .exact(_,_,Z,Z,(by show(0:Int)<2147483647;decide),_,_,Z,Z,.inr (⋯,⋯,),_,_,Z,Z,(by show(0:Int)<2147483647;decide),Z,_,Z,)
  rintro b6 H2 ⟨z2,k,rfl⟩;subst z2;refine((by show 0<=Lc;decide),λc yI=>?_,);let t0:au H2 (upd H2 c<|.lst<|[].map RV):=ai yI _;let f0:upd H2 c (.lst<|[].map RV) c=OP (.lst<|[].map RV):=af;let ee:upd H2 c (.lst [])=upd H2 c (.lst<|[].map RV):=rfl;rw[ee];clear ee;generalize upd H2 c (.lst<|[].map RV)=H3 at t0 f0⊢;let c8:fl≠c:=λz=>by rw[z,yI]at Ct;cases Ct
  let a4:m≠c:=λz=>by rw[z,yI]at M;cases M
  let J:∀{b:La}{o:HO}{G:Hp},au (hide H3 c) G->H2 b=OP o->G b=OP o:=λ{b o G} N e=>N _ _<|bL (t0 _ _ e) (λz=>by rw[z,yI]at e;cases e)
  refine(let S:Rq:=λd G=>au (hide H3 c) G/\∃(bs:O4 Int)(k:Int)(D C:Option V),G c=OP (.lst<|bs.map RV)/\⇑bs=T.length/\(∀x∈bs,0<=x)/\d=[↑a,↑fl,↑m,OP<|.int nu,OP<|.int k,↑c,D,C];(S,?_,?_,))
  .refine⟨fl,Z,(_,Rm<|t0 _ _ Ct,),(let S:Nat->Rq:=λj d G=>au (hide H3 c) G/\∃(bs:O4 Int)(k:Int)(D C:Option V),G c=OP (.lst<|bs.map RV)/\⇑bs=j/\(∀x∈bs,0<=x)/\d=[↑a,↑fl,↑m,OP<|.int nu,OP<|.int k,↑c,D,C];aY (xs:=xs) S (fH _ _,[],k,_,_,f0,Z,(λx h=>by cases h),Z,) (λj d G _ h=>Rm<|J h.1 Ct) (λj y d G ey X=>?_) (λd G X=>?_))⟩
   .let(N,bs,k,D,C,R,B,v,rfl):=X;let hj:j<⇑xs:=(KO.mp ey).1;let(r,ps,rfl,a9,er):=aJ.get a3 ey;let hp:=a5 ps<|KP a9;let p2:=hp.two;let c1:=hp.few;let a8:=J N<|sH W _ _ er;let ex:(((⇑(ps.map RV):Nat):Int)-1).toNat=⇑ps-1:=by rw[aa];lia
    let a2:1<=(1:Int)*2^(((⇑(ps.map RV):Nat):Int)-1).toNat-1/\(1:Int)*2^(((⇑(ps.map RV):Nat):Int)-1).toNat-1<1073741824:=by rw[ex];exact pw2 _ ∅ ∅
    refine(r,_,Z,.inl<|Rm a8,_,_,Z,Z,_,_,Z,Z,(by rw[aa];lia,by rw[aa];lia,⋯,),_,_,Z,Z,?_,);generalize (1:Int)*2^(((⇑(ps.map RV):Nat):Int)-1).toNat-1=mo at a2;let r0:=Kq k (show mo≠0 by lia);refine(.inl (Z,_,Rm R,),_,_,Z,Z,∅,_,_,Z,Z,c,_,_,Z,Z,R,aD (by rw[aa];lia),_,_,Z,Z,(∅,a2.2,),?_,);refine(sd N,bs++[1+k%mo],_,_,_,by rw[af,fq];rfl,by rw[br,B];rfl,λx L=>?_,Z,);rcases gw.mp L with L|L
    .exact v x L
    .rw[dV.mp L];lia
   .let(N,bs,k,D,C,R,B,v,rfl):=X;exact(N,bs,k,D,C,R,∅,v,Z,)
  rintro b5 G ⟨N,bs,k,D,C,R,B,v,rfl⟩;refine(let S:Rq:=λd H5=>au (hide H3 c) H5/\∃(bs:O4 Int),H5 c=OP (.lst<|bs.map RV)/\⇑bs=T.length/\(∀x∈bs,0<=x)/\d=[↑a,↑fl,↑m,OP<|.int nu,OP<|.int k,↑c,D,C];(S,?_,?_,))
  .refine(_,_,Z,Z,(by show(0:Int)<11;decide),Z,_,Z,?_,);calc ck (λ_=>?_)<|λ_=>(N,bs,R,B,v,Z,);refine(c,_,_,_,Z,Z,R,B8 (j:=0) (by rw[aa];lia),?_,);refine(sd N,bs.set 0 0,by rw[af,zS],by rw[jB];exact B,λx L=>?_,Z,);rcases List.mem_or_eq_of_mem_set L with L|L
   .exact v x L
   .rw[L];exact ca _
  rintro b4 H5 ⟨s5,bs,R,B,v,rfl⟩;let Gm:=J s5 M;refine(.inl (Z,_,Rm Gm,),_,_,Z,Z,(by show(0:Int)<3;decide),b9,λt ht=>?_,);let u:=ai ht<|.tup [.ref c,.int (k%3)];let et:upd H5 t (.tup [.ref c,.int (k%3)]) t=OP (.tup [.ref c,.int (k%3)]):=af;generalize upd H5 t (.tup [.ref c,.int (k%3)])=H6 at u et⊢;let Ey:=u _ _ Gm;let c2:t≠m:=λz=>by rw[z,Ey]at et;cases et
  calc(m,O,_,Z,Z,Ey,aD ∅,?_,);let r0:=Kq k (show(3:Int)≠0 by decide);let r1:=Kx k (show(0:Int)<3 by decide);refine(λb o e=>?_,O++[.ref t],p++[(bs,k%3)],_,_,_,_,_,af,?_,by rw[br,a0];rfl,λb hb=>?_,Z,)
  .let n:b≠m:=λz=>by rw[z]at e;unfold hide at e;rw[OX Z]at e;cases e
   rw[ar n];exact u _ _<|J s5<|W _ _ e
  .let hz:aJ (O++[.ref t]) (p++[(bs,k%3)]) (λr b=>∃bl:La,bl≠m/\H6 r=OP (.tup [.ref bl,.int b.2])/\H6 bl=OP (.lst<|b.1.map RV)):=aJ.snoc (aJ.mono hR λr b (bl,n,e,g,)=>(bl,n,u _ _<|J s5 e,u _ _<|J s5 g,)) (c,a4.symm,et,u _ _ R,);exact aJ.mono hz λr b (bl,n,e,g,)=>(bl,n,(ar<|dZ e Ey (by intro z;cases z)).trans e,(ar n).trans g,)
  .rcases gw.mp hb with hb|hb
   .exact hok b hb
   .rw[dV.mp hb];exact(B,r0,r1,v,)
 .let(W,O,p,c3,c4,c5,D,C,M,hR,a0,hok,rfl):=X;rw[aa]at a0;calc(q m O p I (sH W) M (aJ.mono hR λr b (bl,_,e,g,)=>(bl,e,g,)) ∅ hok)
def IP(F:Fun K "_law_worded" "_law_worded" Y61 f fd)(bl:Bl K mg Y)(g:⟨⟩ 1 "_law_at" ["script","k"] (dE K Y)):() 2 f fd ["script"] (dn K Y):=by
 refine F.okA Z61 λi A c s H j Q E d h=>?_
 let(a,b,rfl,e,q):=h;calc(_,(aj<|aE<|wO cO (ay bu (aM g d Z<|ae (pv 0)<|ae ak ag) ak) ak<|aQ _),?_,);refine(a,b,5,Z,e,⋯,_,_,Z,Z,(by show(0:Int)<4;decide),Z,?_,);let:decide (RV (bE b 5%4)=RV 3)=OT (bE b 5%4=3):=by
  by_cases h:bE b 5%4=3
  .rw[h];rfl
  .rw[O0 h,O0 (λz=>h<|V.int.inj z)]
 rw[←this]at q;calc q
def IQ(F:Fun K "_law_verdicts" "_law_verdicts" Y59 f fd)(bl:Bl K mg Y)(wx:⟨⟩ 1 "_law_due" ["way","codes","low","high"] (jM K Y)):() 2 f fd ["fences","rows","outs","way"] (eR K Y):=by
 refine F.okA Z59 λk0 A h7 s H vs Q E hr h=>?_
 let(fl,rl,X,wy,i,xs,t,rx,b3,os,c,rfl,e6,d5,f9,j1,h1,hR,j6,g8,h2,d2,f4,q):=h
 refine(_,(aq (aG (i:=4) Z59.nd Z (bd Z)<|aU<|ae (bf ag) ag)
  (aH (aW cr Z (aR<|pv 0) (aC (i:=5) Z59.nd Z<|bd Z)
  (aq (aG (i:=6) Z59.nd Z (bd Z)<|aU ag)
  (aH (aW cr Z (aR<|pv 4) (aC (i:=7) Z59.nd Z<|lf Z)
  (aj<|aV<|dB PySem.F.plainAttrs_list PySem.F.slot_list_extend PySem.F.type_list_extend pT (pv 6)<|ae (cZ (bB Z bl.range_<|ae (ay b7 (aw az Z bl.len_ OO<|ae (pv 5) ag) ak) ag) (bM (N:=["i","at"]) (fr:=[7]) (cl:=[("at",↥s+1)]) Z Z (~~~0) (~~~0) Z (~~~0) Z Z Z (gx.mpr (Z,iU _,)) Z) Z (λ_ _ _ _=>bG)<|λ_ _ _ _=>(ay (yA (K:=K) Z) (pv 1)<|bf<|ae (pv 0) ag)) ag))
  (aj<|aG (i:=4) Z59.nd Z (bd Z)<|pv 6))))
  (aH (aG (i:=8) Z59.nd Z (bd Z) Ar)
  (aH (aW cr Z (aR<|pv 4) (aC (i:=7) Z59.nd Z<|lf Z)
  (aH (aG (i:=9) Z59.nd Z (bd Z)<|aU ag)
  (aH (aW cr Z (aR<|pv 1) (eK Z<|aI (aC (i:=10) Z59.nd Z<|lf Z)<|aI (aC (i:=11) Z59.nd Z<|bd Z) bF)
  (aH (qW (i:=12) Z59.nd Z (bd Z) (bB Z bl.range_<|ae (aw az Z bl.len_ OO<|ae (pv 7) ag) ag) (bM (N:=["k","at","bits"]) (fr:=[7,10]) (cl:=[("bits",↥s+1+1),("at",↥s+1)]) Z Z (~~~0) (~~~0) Z (~~~0) Z Z Z (gx.mpr (Z,gx.mpr (Z,iU _,),)) Z) Z (λ_ _ _ _=>(ko<|aL cO (ay ve (ay vc (aF (dI (K:=K) Z) (pv 2) (pv 0)<|λ_ _=>Z)<|aF (gC (K:=K) Z) (pv 1) (pv 0)<|λ_ _=>Z) ak) ak<|aQ _))<|λ_ _ _ _=>(pv 0))
  (aj (aX (aL cO (aw az Z bl.len_ OO<|ae (pv 12) ag) (aw az Z bl.len_ OO<|ae (pv 7) ag)<|aQ _)
  (aj<|aV<|dB PySem.F.plainAttrs_list PySem.F.slot_list_append PySem.F.type_list_append bg (pv 9)<|ae (aF aO (pv 2) (pv 11)<|λ_ _=>Z) ag)
  aN))))
  (aj<|B2 hr (pv 8) (pv 7) (aM wx hr Z<|ae (pv 3)<|ae (pv 9)<|ae (ay b7 (aF aO (pv 2) ak<|λ_ _=>Z) ak)<|ae (ay bw (aF aO (pv 2) ak<|λ_ _=>Z)<|ay cB ak ak) ag) Z))))
  (aj<|aE<|pv 8))))),?_,)
 dsimp only[cw,Rp,Ro];show(let r4:TS:=_;let r3:TS:=cm _ r4;let r2:TS:=cm _ r3;let r1:TS:=cm _ r2;bh _ r1 _ _ _);intro _ _ _ _;let f3:⇑xs=⇑t:=d5.1;refine((by show 0<=Lc;decide),λp0 g3=>((by show 1<=Lc;decide),λb0 d4=>?_,),);let s0:=(ai g3<|.tup []).trans<|ai d4<|.lst [.ref p0];let e0:upd (upd H p0<|.tup []) b0 (.lst [.ref p0]) b0=OP (.lst [.ref p0]):=af;let t0:upd (upd H p0<|.tup []) b0 (.lst [.ref p0]) p0=OP (.tup<|vN []):=ai d4 _ _ _ af;generalize upd (upd H p0<|.tup []) b0 (.lst [.ref p0])=H0 at s0 e0 t0⊢;refine(let G:Rq:=λa l=>au H l/\∃(D:La)(I:O4 V)(c5 c6 O:Option V),l D=OP (.lst I)/\PtT l I (dj<|gls t)/\I.length<=10000/\a=[↑fl,↑rl,↑X,OP<|.str wy,↑D,c5,c6,O,OQ,OQ,OQ,OQ,OQ];(G,?_,?_,))
 .refine⟨fl,Z,(_,Rm<|s0 _ _ e6,),(let G:Nat->Rq:=λj a l=>au H l/\∃(D:La)(I:O4 V)(c5 c6 O:Option V),l D=OP (.lst I)/\PtT l I (dj<|(gls t).take j)/\I.length<=9^j/\a=[↑fl,↑rl,↑X,OP<|.str wy,↑D,c5,c6,O,OQ,OQ,OQ,OQ,OQ];aY (xs:=xs) G (s0,b0,_,_,_,_,e0,aJ.snoc aJ.nil t0,by show 1<=9^0;decide,Z,) (λj a l _ h=>Rm<|h.1 _ _ e6) (λj y a l ey L=>?_) (λa l L=>?_))⟩
  .let(sm,D,I,c5,c6,O,eD,hU,a6,rfl):=L;let(lc,ps,rfl,c3,g1):=aJ.get d5 ey;let g1:=sm _ _ g1;let hj:j<⇑t:=(KO.mp c3).1;let(ok,KD):=f9 ps<|KP c3;let j7:=ok.two;let h9:9^j<=729:=BK (No ⋯ (show j<=3 by lia)) ⋯;let Gn:I.length=⇑(dj<|(gls t).take j):=hU.1;refine((by show 0<=Lc;decide),λM hM=>?_,);let u1:=ai hM<|.lst [];let eM:upd l M (.lst []) M=OP (.lst []):=af;generalize upd l M (.lst [])=H2 at u1 eM⊢;refine(let G:Rq:=λa H3=>au l H3/\∃(ys:O4 V)(O:Option V),H3 M=OP (.lst ys)/\PtT H3 ys (grow (dj<|(gls t).take j)<|⇑ps-1)/\a=[↑fl,↑rl,↑X,OP<|.str wy,↑D,↑lc,↑M,O,OQ,OQ,OQ,OQ,OQ];(G,?_,?_,))
   .refine⟨D,Z,(_,Rm<|u1 _ _ eD,),(let G:Nat->Rq:=λk a H3=>au l H3/\∃(ys:O4 V)(O:Option V),H3 M=OP (.lst ys)/\PtT H3 ys (grow ((dj<|(gls t).take j).take k)<|⇑ps-1)/\a=[↑fl,↑rl,↑X,OP<|.str wy,↑D,↑lc,↑M,O,OQ,OQ,OQ,OQ,OQ];aY (xs:=I) G (u1,[],_,eM,aJ.nil,Z,) (λk a H3 _ h=>Rm<|h.1 _ _ eD) (λk y a H3 b1 h3=>?_) (λa H3 h3=>?_))⟩
    .let(t3,ys,O,a3,hy,rfl):=h3;let(r,p,rfl,ep,b5):=aJ.get hU b1;let f8:=t3 _ _ b5;let hk:k<I.length:=(KO.mp b1).1;let g0:⇑p<=4:=by
      have:=(uw.iff.mp<|KP ep).1;rw[hZ]at this;unfold gls at this;rw[aa]at this;lia
     have a5:=hy.1;rw[uv,hZ]at a5;let KG:min k ⇑(dj<|(gls t).take j)*(⇑ps-1)<=729*9:=ET ∅ ∅;let hn:(((⇑(ps.map RV):Nat):Int)-1)=((⇑ps-1:Nat):Int):=by rw[aa];lia
     refine(.inl (Z,_,Rm a3,),lc,_,Z,.inl<|Rm<|t3 _ _ g1,_,_,Z,Z,((⇑ps-1:Nat):Int),(by rw[←hn]),∅,∅,(let G:La->Nat->O4 V->Rr:=λD2 b zs H4=>au H3 H4/\H4 D2=OP (.lst zs)/\PtT H4 zs ((bn b).map λk=>p++[k]);cQ G (λD2 R=>(ai R _,af,aJ.nil,)) (λD2 b zs H4 R hb L=>?_) (λD2 zs H4 R L=>?_)),)
     .let(s4,S,hz):=L;let b4:=hz.1;rw[aa,jU]at b4;refine((by show 1<=Lc;decide),λt1 n1=>?_,);let v1:=ai n1<|.tup [.int (0+(b:Int))];refine kJ (v1 _ _<|s4 _ _ f8) af (Dn<|aD (by rw[bO,gR];lia)) λr2 T J e5=>?_
      have v5:=v1.trans J;let h5:T r2=OP (.tup<|vN<|p++[b]):=by rw[e5,←AN,IN];rfl
      have e9:=v5 _ _ S;calc c0.mk hb e9 (aD ∅) ((s4.trans v5).upd R,af,?_,);rw[jR,fq];let f2:PtT T (zs++[.ref r2]) (((bn b).map λk=>p++[k])++[p++[b]]):=aJ.snoc (aJ.mono hz λ_ _ e=>v5 _ _ e) h5;exact aJ.mono f2 λ_ _ e=>aS e9 _ _ e
     .let(s4,S,hz):=L;rw[Kn]at hz;let b4:=hz.1;rw[aa,jU]at b4;let e8:=s4 _ _ a3;refine(M,D2,ys,zs,Z,Z,e8,S,BK (show ⇑ys+⇑zs<=10000 by lia) ⋯,?_,);calc((t3.trans s4).upd hM,ys++zs,_,af,?_,Z,);rw[yH ep];exact aJ.mono (Bb (aJ.mono hy λ_ _ e=>s4 _ _ e) hz) λ_ _ e=>aS e8 _ _ e
    .let(t3,ys,O,a3,hy,rfl):=h3;rw[Gn,gs]at hy;exact(t3,ys,_,a3,hy,Z,)
   rintro f1 H3 ⟨t3,ys,k1,a3,hy,rfl⟩;let el:(gls t)[j]?=OP (⇑ps-1):=by unfold gls;rw[dy,c3];rfl
   let a5:=hy.1;rw[uv]at a5;refine(sm.trans t3,M,ys,_,_,_,a3,?_,?_,Z,)
   .rw[take_snoc el,n8];exact hy
   .rw[a5,←Gn,Nat.pow_succ];exact ET a6 ∅
  .let(sm,D,I,c5,c6,O,eD,hU,a6,rfl):=L;let:⇑(gls t)=⇑t:=by unfold gls;rw[aa]
   rw[f3,←this,gs]at hU;exact(sm,D,I,_,_,_,eD,hU,BK a6<|BK (No ⋯ (show ⇑xs<=4 by lia)) ⋯,Z,)
 rintro i9 H1 ⟨s1,D,I,c5,c6,O,eD,hU,a6,rfl⟩;let j0:I.length=⇑(dj<|gls t):=hU.1;calc(let G:Rq:=λa l=>∃d:La,H1 d=OQ/\l=upd H1 d (.dT [])/\a=[↑fl,↑rl,↑X,OP<|.str wy,↑D,c5,c6,O,↑d,OQ,OQ,OQ,OQ];(G,λd hd=>(d,hd,Z,Z,),?_,));rintro i8 H2 ⟨d,nd,rfl,rfl⟩;let s2:=ai nd<|.dT [];let ed:upd H1 d (.dT []) d=OP (.dT []):=af;generalize upd H1 d (.dT [])=H2 at s2 ed⊢;let sH:∀{l:Hp},au (hide H2 d) l->au H1 l:=λ{l} sm b o e=>sm _ _<|bL (s2 _ _ e) (λz=>by rw[z,nd]at e;cases e)
 let(bs,c1):∃bs,bs=bmC os b3:=(_,Z,);let IS:⇑bs=⇑b3:=by rw[c1,se]
 let(x0,x1,x2,sr,j9,j8,_):=id d2;let f5:∀p,vdp bs i (oz os) p=ver (wf i (x0-20)<|x2+10^(9:Int).toNat) (cdK bs p ⇑bs):=λp=>by rw[sr];rfl
 let f6:⇑rx=⇑b3:=hR.1;let IT:H X=OP (.lst [.int x0,.int x1,.int x2]):=by rw[h2,sr];rfl
 rw[←c1]at q;refine(let G:Rq:=λa l=>au (hide H2 d) l/\∃(u:O4 (O4 Key×V))(O c9 C B v:Option V),l d=OP (.dT u)/\⇑u=I.length/\(∀(e:Nat)(p:O4 Nat),e<I.length->(dj<|gls t)[e]?=OP p->∃r:La,u[e]?=OP (mI p,.ref r)/\l r=OP (.tup<|tp<|vdp bs i (oz os) p))/\a=[↑fl,↑rl,↑X,OP<|.str wy,↑D,c5,c6,O,↑d,c9,C,B,v];(G,?_,?_,))
 .refine⟨D,Z,(_,Rm<|s2 _ _ eD,),(let G:Nat->Rq:=λj a l=>au (hide H2 d) l/\∃(u:O4 (O4 Key×V))(O c9 C B v:Option V),l d=OP (.dT u)/\⇑u=j/\(∀(e:Nat)(p:O4 Nat),e<j->(dj<|gls t)[e]?=OP p->∃r:La,u[e]?=OP (mI p,.ref r)/\l r=OP (.tup<|tp<|vdp bs i (oz os) p))/\a=[↑fl,↑rl,↑X,OP<|.str wy,↑D,c5,c6,O,↑d,c9,C,B,v];aY (xs:=I) G (fH _ _,[],_,_,_,_,_,ed,Z,(λe p h=>OY h<|EB _),Z,) (λj a l _ h=>Rm<|sH h.1 _ _ eD) (λj y a l ey L=>?_) (λa l L=>L))⟩;let(sm,u,O,c9,C,B,v,c8,b6,a9,rfl):=L;let(r,p,rfl,ep,b5):=aJ.get hU ey;let hj:j<I.length:=(KO.mp ey).1;let g0:⇑p=⇑t:=by
   let:=(uw.iff.mp<|KP ep).1;unfold gls at this;rw[aa]at this;exact this
  let a8:=sH sm _ _ b5;refine(let G:Rq:=λa h6=>∃cl:La,l cl=OQ/\h6=upd l cl (.lst<|[].map RV)/\a=[↑fl,↑rl,↑X,OP<|.str wy,↑D,c5,c6,↑r,↑d,↑cl,C,B,v];(G,((by show 0<=Lc;decide),λcl g7=>(cl,g7,Z,Z,),),?_,));rintro i2 H4 ⟨cl,d1,rfl,rfl⟩;let s4:=ai d1<|.lst<|[].map RV;let e7:upd l cl (.lst<|[].map RV) cl=OP (.lst<|[].map RV):=af;generalize upd l cl (.lst<|[].map RV)=H4 at s4 e7⊢;let up:∀{b:La}{o:HO}{T:Hp},au (hide H4 cl) T->l b=OP o->T b=OP o:=λ{b o T} J e=>J _ _<|bL (s4 _ _ e) (λz=>by rw[z,d1]at e;cases e)
  let Gp:=sH sm _ _<|s1 _ _ h1;let Gq:=sH sm _ _<|s1 _ _ IT;refine(let G:Rq:=λa T=>au (hide H4 cl) T/\∃(C B v:Option V),T cl=OP (.lst<|(cdK bs p ⇑bs).map RV)/\a=[↑fl,↑rl,↑X,OP<|.str wy,↑D,c5,c6,↑r,↑d,↑cl,C,B,v];(G,?_,?_,))
  .refine⟨rl,Z,(_,Rm<|s4 _ _ Gp,),(let G:Nat->Rq:=λk a T=>au (hide H4 cl) T/\∃(C B v:Option V),T cl=OP (.lst<|(cdK bs p k).map RV)/\a=[↑fl,↑rl,↑X,OP<|.str wy,↑D,c5,c6,↑r,↑d,↑cl,C,B,v];aY (xs:=rx) G (fH _ _,_,_,_,e7,Z,) (λk a T _ h=>Rm<|up h.1 Gp) (λk y a T b1 L=>?_) (λa T L=>?_))⟩
   .let(J,C,B,v,zf,rfl):=L;let(rr,b,rfl,eb,f0,g1,g2):=aJ.get hR b1;let g1:=up J<|sH sm _ _<|s1 _ _ g1;let g2:=up J<|sH sm _ _<|s1 _ _ g2;let hk:k<⇑b3:=(KO.mp eb).1;let(j5,j4,j3,h0):=g8 b<|KP eb;let g9:bs.getD k ([],0)=(b.1,os.getD b.2.toNat 0):=by rw[c1];exact Et eb
    calc(rr,_,Z,Rn g1,Z,_,_,Z,_,_,Z,Z,?_,);let Gr:=xI bs p k;refine(let G:Rq:=λa H6=>au T H6/\∃(hd:La),H6 hd=OP (.lst<|vN<|(bn ⇑p).filter λk=>bJ (b.1.getD k 0)<|p.getD k 0)/\a=[↑fl,↑rl,↑X,OP<|.str wy,↑D,c5,c6,↑r,↑d,↑cl,↑f0,OP<|.int b.2,↑hd];(G,?_,?_,))
    .refine(r,_,Z,.inr<|Rn<|up J a8,_,Z,(by rw[bO];lia),(by rw[bO];lia),(let G:La->Nat->O4 V->Rr:=λD2 e zs H6=>au T H6/\H6 D2=OP (.lst zs)/\zs=vN ((bn e).filter λk=>bJ (b.1.getD k 0)<|p.getD k 0);cQ G (λD2 R=>(ai R _,af,Z,)) (λD2 e zs H6 R he L=>?_) (λD2 zs H6 R L=>?_)),)
     .let(W,S,rfl):=L;rw[bO]at he;let g5:e<⇑p:=∅
      let(mk,c4):∃m,b.1[e]?=OP m:=(_,KN ∅,);let(pk,e4):∃m,p[e]?=OP m:=(_,KN g5,);let e1:b.1.getD e 0=mk:=by rw[ab,c4];rfl
      have e2:p.getD e 0=pk:=by rw[ab,e4];rfl
      have c2:=AM (h0 mk<|KP c4) pk;rw[show(0+(pk:Int))=(pk:Int) by lia]at c2;let j2:⇑((bn e).filter λk=>bJ (b.1.getD k 0)<|p.getD k 0)<=e:=BK (qH _ _) (by rw[jU];exact Ab _);let a7:((bn<|e+1).filter λk=>bJ (b.1.getD k 0)<|p.getD k 0)=((bn e).filter λk=>bJ (b.1.getD k 0)<|p.getD k 0)++(if bJ mk pk=OR then[e] else[]):=by
       rw[jR,ny,ro,e1,e2];rfl
      refine(f0,_,_,_,Z,Z,Rm<|W _ _ g2,jj<|get_map c4,r,_,_,_,Z,Z,Rn<|W _ _<|up J a8,jj<|xA e4,_,_,Z,Z,(by show(0:Int)<=(pk:Int);lia),_,_,Z,Z,Z,_,Z,?_,);refine ck (λg=>?_)<|λg=>?_
      .rw[OX (by rw[←c2];exact g)]at a7;refine(c0.mk (by rw[bO];exact he) S (aD (by rw[bO];lia)) (W.upd R,af,?_,));rw[a7,←AN,IN];rfl
      .rw[OW (by rw[←c2];exact g),jm]at a7;exact d6.mk (zs:=vN<|(bn e).filter λk=>bJ (b.1.getD k 0)<|p.getD k 0) (by rw[bO];exact he) (W,S,by rw[a7],)
     .let(W,S,rfl):=L;rw[bO,Kn]at S;exact(W,D2,S,Z,)
    rintro h8 H6 ⟨W,g6,h4,rfl⟩;let Ez:=W _ _ zf;calc(g6,_,Z,.inl<|Rm h4,r,_,Z,.inr<|Rn<|W _ _<|up J a8,Z,_,Z,?_,);rw[bO,bO];let a4:=Ba bs p k;rw[g9]at a4;let d0:au (hide H4 cl) H6:=J.trans W;refine ck (λg=>?_)<|λg=>?_
    .let g:⇑((bn ⇑p).filter λk=>bJ (b.1.getD k 0)<|p.getD k 0)=⇑p:=by have:=V.int.inj<|O1 g;lia
     rw[OX (xJ.mp g)]at a4;let hv:atI [RV x0,.int x1,.int x2] b.2=OP (.int<|os.getD b.2.toNat 0):=by
      have:b.2=0\/b.2=1\/b.2=2:=∅
      rw[sr];rcases this with z|z|z <;> rw[z] <;> rfl
     refine(.inl (Z,_,Rm Ez,),X,_,_,_,Z,Z,Rm<|W _ _<|up J Gq,hv,cl,_,_,Z,Z,Ez,aD (by rw[aa];lia),?_,);exact(sd d0,_,_,_,by rw[af,a4,fq];rfl,Z,)
    .let g:¬ ⇑((bn ⇑p).filter λk=>bJ (b.1.getD k 0)<|p.getD k 0)=⇑p:=λz=>g<|OZ (by rw[z])
     rw[OW (λz=>g<|xJ.mpr z),jm]at a4;exact(d0,_,_,_,by rw[a4];exact Ez,Z,)
   .let(J,C,B,v,zf,rfl):=L;rw[f6,←IS]at zf;exact(J,_,_,_,zf,Z,)
  rintro i1 T ⟨J,C,B,v,zf,rfl⟩;let Gr:=xI bs p ⇑bs;let Gs:=up J Gq;let d3:=Gb d2;rw[sr]at d3;calc(X,_,_,_,Z,Z,Rm Gs,Z,_,_,Z,Z,X,_,_,_,Z,Z,Rm Gs,Z,_,_,Z,Z,(⋯,⋯,⋯,),_,_,Z,Z,cl,wy,i,_,x0-20,x2+10^(9:Int).toNat,Z,zf,∅,f4,d3,λr2 H6 W e3=>?_,);rw[←f5]at e3;let Gu:=W _ _<|up J c8;let f7:=W _ _<|up J a8;let g4:nU u (mI p)=none:=Cm λkv IU z=>by
   let(e,ee):=ik IU;let he:=(KO.mp ee).1;let(p',a0):∃p',(dj<|gls t)[e]?=OP p':=(_,KN ∅,);let(r',a1,_):=a9 e p' ∅ a0;rw[ee]at a1;cases a1;let:=A9 z;subst this;let:=(Ri (KO.mp a0).1<|uE _).mp<|a0.trans ep.symm;lia
  refine(d,r,u,mI p,Z,Z,Gu,(by rw[xH];exact f7),BS (show ⇑u<10001 by lia) ⋯,?_,);rw[Ao _ g4];refine(λb o e=>?_,u++[(mI p,.ref r2)],_,_,_,_,_,af,by rw[br,b6];rfl,λe p' he a0=>?_,Z,)
  .let n:b≠d:=λz=>by rw[z]at e;unfold hide at e;rw[OX Z]at e;cases e
   rw[ar n];exact W _ _<|up J<|sm _ _ e
  .let st:∀{x:La}{ws:O4 V},H6 x=OP (.tup ws)->upd H6 d (.dT<|u++[(mI p,.ref r2)]) x=OP (.tup ws):=λ{x ws} e=>by rw[ar (dZ e Gu (by intro z;cases z))];exact e
   by_cases z:e<j
   .let(r',a1,a2):=a9 e p' z a0;exact(r',by rw[fo ∅];exact a1,st<|W _ _<|up J a2,)
   .let ze:e=j:=∅
    subst ze;rw[ep]at a0;cases a0;exact(r2,by rw[←b6];simp,st e3,)
 rintro f1 H3 ⟨s3,u,O,c9,C,B,v,c8,b6,a9,rfl⟩;calc(q d u H3 (s1.trans<|sH s3) (s1.free nd) c8 ∅ λj p ep=>a9 j p (by have:=(KO.mp ep).1;lia) ep)
def IV(F:Fun K "_law_prices" "_law_prices" Y55 f fd)(bl:Bl K mg Y)(cb:⟨⟩ 1 "_law_at" ["script","k"] (dE K Y)):() 2 f fd ["script","count"] (fX K Y):=by
 refine F.okA Z55 λa5 A I s H vs Q E S h=>?_
 let(a,L,n,rfl,X,hn,q):=h;refine'(?tt,?r0,?rd,)
 case' r0=>refine' aH ?N0 ?r1
 case' r1=>refine' aH ?N1 ?r2
 case' r2=>refine' aj ?N2
 case N0=>exact(aG (i:=2) Z55.nd Z (lf Z)<|ay bu (aM cb S Z<|ae (pv 0)<|ae ak ag)<|ay cB ak ak)
 case N1=>exact(aG (i:=3) Z55.nd Z (lf Z)<|aF aO (aU<|ae ak<|ae ak<|ae (ay b7 (ay cB ak ak) ak) ag) (ay bu (pv 2) ak)<|λ_ _=>Z)
 case' N2 =>
  refine' aE ?N3
  case' N3=>refine' cZ (bB Z bl.range_<|ae (pv 1) ag) (bM (N:=["k","cell","widest"]) (fr:=[2,3]) (cl:=[("widest",↥s+1+1),("cell",↥s+1)]) Z Z (~~~0) (~~~0) Z (~~~0) Z Z Z (gx.mpr (Z,gx.mpr (Z,iU _,),)) Z) Z (λ_ _ _ _=>bG)<|λ_ _ _ _=>(ay bw ak<|ay bu (ay fC (ay bu (ay fC (pv 1)<|ay cB ak ak)<|ay cB ak ak)<|ay bw (ay bw (ay lr (pv 0)<|pv 0)<|pv 0) ak)<|pv 2)
 case rd =>
  dsimp only[cw,Rp,Ro];show(let r2:TS:=_;let r1:TS:=cm _ r2;cm _ r1 _ _ _);intro _ _;refine(let o:Rq:=λg d=>d=H/\∃c:Int,c.natAbs<2^200/\g=[↑a,OP<|.int n,OP<|.int c,OQ];(o,?_,?_,))
  .exact(a,L,6,Z,X,⋯,_,_,Z,Z,(⋯,⋯,⋯,),_,_,Z,Z,p10 _,Z,_,mU (p10 _)<|~~~0,Z,)
  rintro a1 H1 ⟨e1,c,W,rfl⟩;subst e1;refine(let o:Rq:=λg d=>au H1 d/\∃v:Int,0<v/\v<2^200/\g=[↑a,OP<|.int n,OP<|.int c,OP (.int v)];(o,?_,?_,))
  .refine(_,_,Z,Z,(⋯,⋯,⋯,),_,_,Z,Z,(by show 3<=Lc;decide),λp T=>?_,);let(v,R,J):=Ga 1 9 (10^(29:Int).toNat-1) (k:=c%3) (Kq _ ⋯)<|Kx _ ⋯;refine(_,_,Z,Z,(by show(0:Int)<3;decide),p,_,_,_,Z,Z,Rm af,R,ai T _,v,?_,?_,Z,)
   .let:∀x∈[(1:Int),9,10^(29:Int).toNat-1],0<x:= ~~~0
    exact this v J
   .let:∀x∈[(1:Int),9,10^(29:Int).toNat-1],x<2^200:= ~~~0
    exact this v J
  rintro a0 H2 ⟨s2,v,j,a2,rfl⟩;refine⟨_,Z,∅,∅,(let o:La->Nat->O4 V->Rr:=λD i t d=>au H2 d/\d D=OP (.lst t)/\∃e:O4 Int,t=e.map RV/\⇑e=i/\∀x∈e,1<=x/\x<2^210;cQ o (λD u=>⟨ai u _,af,[],Z,Z,(λx l=>by cases l)⟩) (λD i t d u hi B=>?_) (λD t d u B=>?_))⟩
  .let(z,C,e,rfl,r,l):=B;let a4:i<10:=∅
   let G:(0+(i:Int))*(0+(i:Int))=((i*i:Nat):Int):=by rw[IN];exact(KQ i i).symm
   let a3:i*i<=10*10:=ET ∅ ∅;let O:L4 c (48271^(12:Int).toNat):=d8 (m:=200) (n:=200) W (~~~0) ⋯ ⋯;let M:L4 (c*48271^(12:Int).toNat%10^(60:Int).toNat) ((0+(i:Int))*(0+(i:Int))+(0+(i:Int))+41):=d8 (m:=200) (n:=64) (mU (p10 _)<|~~~0) (by rw[G];lia) ⋯ ⋯;refine(_,_,Z,Z,(⋯,⋯,⋯,),_,_,Z,Z,O,_,_,Z,Z,(⋯,⋯,⋯,),_,_,Z,Z,p10 _,_,_,Z,Z,.inl (by show -(2^64)<0+(i:Int);lia,by show 0+(i:Int)<2^64;lia,),_,_,Z,Z,_,_,Z,Z,_,_,Z,Z,M,_,_,Z,Z,j,_,_,Z,Z,?_,);generalize c*48271^(12:Int).toNat%10^(60:Int).toNat*((0+(i:Int))*(0+(i:Int))+(0+(i:Int))+41)=y;let y0:=Kq y<|Pp j;let y1:=Kx y j;refine c0.mk hi C (aD (by rw[aa];lia)) (z.upd u,af,e++[1+y%v],by rw[fq];rfl,by rw[br,r];rfl,λx b=>?_,);rcases gw.mp b with b | b
   .exact l x b
   .rw[dV.mp b];exact(∅,∅,)
  .let(z,C,e,rfl,r,l):=B;calc q D e d (s2.trans z) C ∅ l
def IW(F:Fun K "__init__" "Numbers.__init__" Y12 f fd)(bl:Bl K mg Y)(d:cx CX0 P w K mg base 1 "Domain" "__init__" ["self","low","high"] (bV K Y)):() 2 f fd ["self","low","high"] (bP K Y):=by
 refine F.okA Z12 λi A a s H j Q E c h=>?_
 let(x,e,lo,hi,rfl,b,g,q):=h
 refine(_,(aq (aX (aL mh (pv 1) (pv 2)<|aQ _)
  (aj bR)
  aN)
  (aj<|aV<|fD d bZ c Z<|ae (pv 0)<|ae (pv 1)<|ae (pv 2) ag)),?_,)
 calc(_,_,Z,Z,_,Z,cD ∅ (x,e,lo,hi,Z,b,q,),)
def O_4(F:Fun K "__init__" "First.__init__" Y4 f fd)(bl:Bl K mg Y)(e:cx CX0 P w K mg base 1 "Way" "__init__" ["self","called"] (cJ K Y)):() 2 f fd ["self"] (J0 K Y):=by
 refine F.ok Z4 (λd H Q E h=>?_)<|λi A a s H d Q E g h=>?_
 .let(x,c,rfl,b,q):=h;rfl
 let(x,c,rfl,b,q):=h;calc(_,(aj<|aV<|fD e bZ g Z<|ae (pv 0)<|ae aP ag),?_,);calc(x,c,_,Z,b,q,)
def IX(F:Fun K "__init__" "Only.__init__" Y13 f fd)(bl:Bl K mg Y)(e:cx CX0 P w K mg base 1 "Way" "__init__" ["self","called"] (cU K Y)):() 2 f fd ["self"] (J8 K Y):=by
 refine F.ok Z13 (λd H Q E h=>?_)<|λi A a s H d Q E g h=>?_
 .let(x,c,rfl,b,q):=h;rfl
 let(x,c,rfl,b,q):=h;calc(_,(aj<|aV<|fD e bZ g Z<|ae (pv 0)<|ae aP ag),?_,);calc(x,c,_,Z,b,q,)
def O_8(F:Fun K "__init__" "Like.__init__" Y8 f fd)(bl:Bl K mg Y)(e:cx CX0 P w K mg base 1 "Way" "__init__" ["self","called"] (cV K Y)):() 2 f fd ["self"] (J4 K Y):=by
 refine F.ok Z8 (λd H Q E h=>?_)<|λi A a s H d Q E g h=>?_
 .let(x,c,rfl,b,q):=h;rfl
 let(x,c,rfl,b,q):=h;calc(_,(aj<|aV<|fD e bZ g Z<|ae (pv 0)<|ae aP ag),?_,);calc(x,c,_,Z,b,q,)
def IY(F:Fun K "__init__" "Low.__init__" Y10 f fd)(bl:Bl K mg Y)(e:cx CX0 P w K mg base 1 "Way" "__init__" ["self","called"] (df K Y)):() 2 f fd ["self"] (J6 K Y):=by
 refine F.ok Z10 (λd H Q E h=>?_)<|λi A a s H d Q E g h=>?_
 .let(x,c,rfl,b,q):=h;rfl
 let(x,c,rfl,b,q):=h;calc(_,(aj<|aV<|fD e bZ g Z<|ae (pv 0)<|ae aP ag),?_,);calc(x,c,_,Z,b,q,)
def O_6(F:Fun K "__init__" "High.__init__" Y6 f fd)(bl:Bl K mg Y)(e:cx CX0 P w K mg base 1 "Way" "__init__" ["self","called"] (cX K Y)):() 2 f fd ["self"] (J2 K Y):=by
 refine F.ok Z6 (λd H Q E h=>?_)<|λi A a s H d Q E g h=>?_
 .let(x,c,rfl,b,q):=h;rfl
 let(x,c,rfl,b,q):=h;calc(_,(aj<|aV<|fD e bZ g Z<|ae (pv 0)<|ae aP ag),?_,);calc(x,c,_,Z,b,q,)
def IZ(F:Fun K "__init__" "Sum.__init__" Y15 f fd)(bl:Bl K mg Y)(e:cx CX0 P w K mg base 1 "Way" "__init__" ["self","called"] (dg K Y)):() 2 f fd ["self"] (J10 K Y):=by
 refine F.ok Z15 (λd H Q E h=>?_)<|λi A a s H d Q E g h=>?_
 .let(x,c,rfl,b,q):=h;rfl
 let(x,c,rfl,b,q):=h;calc(_,(aj<|aV<|fD e bZ g Z<|ae (pv 0)<|ae aP ag),?_,);calc(x,c,_,Z,b,q,)
def O_2(F:Fun K "has_code" "Domain.has_code" Y2 f fd)(bl:Bl K mg Y)(e:⟨⟩ 1 "is_whole" ["value"] (fL K Y)):() 2 f fd ["self","value"] (bW K Y):=by
 refine F.okA Z2 λn A c s H o Q E g h=>?_
 let(a,b,i,rfl,(p,fs,d,j,k,_),m,l,q):=h;calc(_,(aj<|aE<|mY (aM e g Z<|ae (pv 1) ag)<|qL<|m4 eY eY (cj (pv 0) Z) (pv 1)<|cj (pv 0) Z),?_,);calc(i,Z,_,Z,iw ?_,);calc(a,_,_,_,_,Z,d,bl.k_Numbers,bl.na_Numbers_low,j,_,_,Z,Z,_,Z,hV m ?_,);calc(a,_,_,_,_,Z,d,bl.k_Numbers,bl.na_Numbers_high,k,_,_,Z,Z,?_,);show Q (.bl<|OT<|i<=b.2) H;rw[OZ l];calc q
def O_3(F:Fun K "has_code" "Domain.has_code" Y3 f fd)(bl:Bl K mg Y)(e:⟨⟩ 1 "is_whole" ["value"] (fL K Y)):() 2 f fd ["self","value"] (cq K Y):=by
 refine F.okA Z3 λn A c s H o Q E g h=>?_
 let(a,b,i,rfl,(p,fs,d,j,k,_),m,l,q):=h;calc(_,(aj<|aE<|mY (aM e g Z<|ae (pv 1) ag)<|qL<|m4 eY eY (cj (pv 0) Z) (pv 1)<|cj (pv 0) Z),?_,);calc(i,Z,_,Z,iw ?_,);calc(a,_,_,_,_,Z,d,bl.k_Words,bl.na_Words_low,j,_,_,Z,Z,_,Z,hV m ?_,);calc(a,_,_,_,_,Z,d,bl.k_Words,bl.na_Words_high,k,_,_,Z,Z,?_,);show Q (.bl<|OT<|i<=b.2) H;rw[OZ l];calc q
def Ja(F:Fun K "verdict" "Way.verdict" Y24 f fd)(bl:Bl K mg Y)(r:bp CX0 P w K mg base 1 Y.b "chosen" ["self","codes","outcome"] (J1 K Y)):() 2 f fd ["self","codes","outcome"] (J12 K Y):=by
 refine F.ok Z24 (λp H Q E h=>?_)<|λu A i s H p Q E t h=>?_
 .let(x,c,o,a,b,rfl,(m,z,e),j,d,g,k,q):=h;rfl
 let(x,c,o,a,b,rfl,(m,z,e),j,d,g,k,q):=h
 refine(_,(aq (aX (dF<|di (pv 1) (by intro _;rfl))
  (aj<|aE<|dY (v:=.ref Y.l) Z bl.NONE_ Z)
  aN)
  (aj<|aE<|pZ r bZ bl.k_First t (pv 0)<|ae (pv 1)<|ae (pv 2) ag)),?_,)
 calc(!(a.map RV).isEmpty,.inl (_,g,Z,),?_,);cases a with
 |nil=>exact iw (q _ _ (au.refl _)<|.inr bl.q_NONE)
 |cons n a=>calc cG (x,_,_,Z,e,Z,x,c,o,n,a,b,Z,(m,z,e,),j,d,g,F0 k,q,)
def Jb(F:Fun K "verdict" "Way.verdict" Y28 f fd)(bl:Bl K mg Y)(r:bp CX0 P w K mg base 1 Y.c "chosen" ["self","codes","outcome"] (J9 K Y)):() 2 f fd ["self","codes","outcome"] (J16 K Y):=by
 refine F.ok Z28 (λp H Q E h=>?_)<|λu A i s H p Q E t h=>?_
 .let(x,c,o,a,b,rfl,(m,z,e),j,d,g,k,q):=h;rfl
 let(x,c,o,a,b,rfl,(m,z,e),j,d,g,k,q):=h
 refine(_,(aq (aX (dF<|di (pv 1) (by intro _;rfl))
  (aj<|aE<|dY (v:=.ref Y.l) Z bl.NONE_ Z)
  aN)
  (aj<|aE<|pZ r bZ bl.k_Only t (pv 0)<|ae (pv 1)<|ae (pv 2) ag)),?_,)
 calc(!(a.map RV).isEmpty,.inl (_,g,Z,),?_,);cases a with
 |nil=>exact iw (q _ _ (au.refl _)<|.inr bl.q_NONE)
 |cons n a=>calc cG (x,_,_,Z,e,Z,x,c,o,n,a,b,Z,(m,z,e,),j,d,g,F0 k,q,)
def Jc(F:Fun K "verdict" "Way.verdict" Y26 f fd)(bl:Bl K mg Y)(t:bp CX0 P w K mg base 1 Y.d "chosen" ["self","codes","outcome"] (J5 K Y)):() 2 f fd ["self","codes","outcome"] (J14 K Y):=by
 refine F.ok Z26 (λr H Q E h=>?_)<|λy A j s H r Q E u h=>?_
 .let(x,c,o,a,b,rfl,(p,z,g),k,e,i,m,q):=h;rfl
 let(x,c,o,a,b,rfl,(p,z,g),k,e,i,m,q):=h
 refine(_,(aq (aX (dF<|di (pv 1) (by intro _;rfl))
  (aj<|aE<|dY (v:=.ref Y.l) Z bl.NONE_ Z)
  aN)
  (aj<|aE<|pZ t bZ bl.k_Like u (pv 0)<|ae (pv 1)<|ae (pv 2) ag)),?_,)
 calc(!(a.map RV).isEmpty,.inl (_,i,Z,),?_,);cases a with
 |nil=>exact iw (q _ _ (au.refl _)<|.inr bl.q_NONE)
 |cons n a=>calc cG (x,_,_,Z,g,Z,x,c,o,n,a,b,Z,(p,z,g,),k,e,i,F0 m,q,)
def Jd(F:Fun K "verdict" "Way.verdict" Y27 f fd)(bl:Bl K mg Y)(t:bp CX0 P w K mg base 1 Y.e "chosen" ["self","codes","outcome"] (J7 K Y)):() 2 f fd ["self","codes","outcome"] (J15 K Y):=by
 refine F.ok Z27 (λr H Q E h=>?_)<|λy A j s H r Q E u h=>?_
 .let(x,c,o,a,b,rfl,(p,z,g),k,d,i,m,q):=h;rfl
 let(x,c,o,a,b,rfl,(p,z,g),k,d,i,m,q):=h
 refine(_,(aq (aX (dF<|di (pv 1) (by intro _;rfl))
  (aj<|aE<|dY (v:=.ref Y.l) Z bl.NONE_ Z)
  aN)
  (aj<|aE<|pZ t bZ bl.k_Low u (pv 0)<|ae (pv 1)<|ae (pv 2) ag)),?_,)
 calc(!(a.map RV).isEmpty,.inl (_,i,Z,),?_,);cases a with
 |nil=>exact iw (q _ _ (au.refl _)<|.inr bl.q_NONE)
 |cons n a=>calc cG (x,_,_,Z,g,Z,x,c,o,n,a,b,Z,(p,z,g,),k,d,i,F0 m,q,)
def Je(F:Fun K "verdict" "Way.verdict" Y25 f fd)(bl:Bl K mg Y)(r:bp CX0 P w K mg base 1 Y.f "chosen" ["self","codes","outcome"] (J3 K Y)):() 2 f fd ["self","codes","outcome"] (J13 K Y):=by
 refine F.ok Z25 (λp H Q E h=>?_)<|λu A i s H p Q E t h=>?_
 .let(x,c,o,a,b,rfl,(m,z,e),j,d,g,k,q):=h;rfl
 let(x,c,o,a,b,rfl,(m,z,e),j,d,g,k,q):=h
 refine(_,(aq (aX (dF<|di (pv 1) (by intro _;rfl))
  (aj<|aE<|dY (v:=.ref Y.l) Z bl.NONE_ Z)
  aN)
  (aj<|aE<|pZ r bZ bl.k_High t (pv 0)<|ae (pv 1)<|ae (pv 2) ag)),?_,)
 calc(!(a.map RV).isEmpty,.inl (_,g,Z,),?_,);cases a with
 |nil=>exact iw (q _ _ (au.refl _)<|.inr bl.q_NONE)
 |cons n a=>calc cG (x,_,_,Z,e,Z,x,c,o,n,a,b,Z,(m,z,e,),j,d,g,F0 k,q,)
def Jf(F:Fun K "verdict" "Way.verdict" Y29 f fd)(bl:Bl K mg Y)(t:bp CX0 P w K mg base 1 Y.g "chosen" ["self","codes","outcome"] (J11 K Y)):() 2 f fd ["self","codes","outcome"] (J17 K Y):=by
 refine F.ok Z29 (λr H Q E h=>?_)<|λy A j s H r Q E u h=>?_
 .let(x,c,o,a,b,rfl,(p,z,e),k,d,i,m,q):=h;rfl
 let(x,c,o,a,b,rfl,(p,z,e),k,d,i,m,q):=h
 refine(_,(aq (aX (dF<|di (pv 1) (by intro _;rfl))
  (aj<|aE<|dY (v:=.ref Y.l) Z bl.NONE_ Z)
  aN)
  (aj<|aE<|pZ t bZ bl.k_Sum u (pv 0)<|ae (pv 1)<|ae (pv 2) ag)),?_,)
 calc(!(a.map RV).isEmpty,.inl (_,i,Z,),?_,);cases a with
 |nil=>exact iw (q _ _ (au.refl _)<|.inr bl.q_NONE)
 |cons n a=>calc cG (x,_,_,Z,e,Z,x,c,o,n,a,b,Z,(p,z,e,),k,d,i,F0 m,q,)
def Jg(F:Fun K "grain" "grain" Y43 f fd)(bl:Bl K mg Y)(f6:⟨⟩ 2 "cut_columns" ["bounds","marks"] (dO K Y)):() 3 f fd ["bounds","marks"] (oB K Y):=by
 refine F.okA Z43 λa3 A G s H vs Q E o h=>?_
 let(a,b,O,ps,as,c,rfl,ha,hP,hb,hM,hok,q):=h
 refine(_,(aq (aG (i:=2) Z43.nd Z (bd Z) ak)
  (aq (aW cr Z (aR<|aM f6 o Z<|ae (pv 0)<|ae (pv 1) ag) (aC (i:=3) Z43.nd Z<|bd Z)
  (aj<|uY (i:=2) Z43.nd Z (bd Z) (aw az Z bl.len_ OO<|ae (pv 3) ag) Ae))
  (aj<|aE<|pv 2))),?_,)
 dsimp only[cw,Rp,Ro];show(let T:TS:=_;let W:TS:=bh _ T;bh _ W _ _ _);intro _ _;calc(a,b,O,ps,as,c,Z,ha,hP,hb,hM,hok,λl xs N D S L a2 C I=>?_,);let(a1,a0,x):=hok;let z:⇑xs=⇑ps:=by rw[I.1,nI];lia
 refine(l,Z,(_,Rm L,),(let I_:Nat->Rq:=λi d k=>k=N/\∃v:Option V,d=[↑a,↑b,OP<|.int ((gr ps c i:Nat):Int),v];aY (xs:=xs) I_ (Z,OQ,Z,) (λi d k _ h=>by rw[h.1];exact Rm L) (λi y d k e h=>?_) (λd k h=>?_)),)
 .let(u,v,rfl):=h;rw[u];let(r,n,rfl,g,R,o,hp):=aJ.get I e;let hi:i<⇑xs:=(KO.mp e).1;let(p,t):∃p,ps[i]?=OP p:=(_,KN ∅,);let(j,M):∃j,D[i]?=OP j:=(_,KN ∅,);let(m,J):∃m,c[i]?=OP m:=(_,KN ∅,);let(B,X,_):=C i p m j t J M;rw[oE,t,M]at g;let g:bj p.1 p.2 j=n:=bm g;let hl:R.length=gl ps c i:=by
   rw[⇑hp,←g,cS,DY B X];unfold gl;rw[ab,t,ab,J];rfl
  let b1:=C2 (ps:=ps) x i;let b2:(58:Nat)^i<=58^6:=No ⋯ ∅;let b3:(58:Nat)^3<2^64:=⋯
  calc(_,Z,r,_,Z,.inl<|Rm o,_,_,Z,Z,zC.ok<|.inl (∅,∅,),Z,↑r,?_,);rw[hl];show[OP (RZ a),↑b,OP<|.int<|((gr ps c i:Nat):Int)*((gl ps c i:Nat):Int),↑r]=_;rw[show gr ps c (i+1)=gr ps c i*gl ps c i from Z,KQ]
 .let(u,v,rfl):=h;rw[u,z];calc(q N S)
def Jh(F:Fun K "refuse_names" "refuse_names" Y76 f fd)(bl:Bl K mg Y)(v:⟨⟩ 2 "is_word" ["text"] (gL K Y)):() 3 f fd ["names"] (eS K Y):=by
 refine F.okA Z77 λM A t s H N Q E C h=>?_
 let(p,a,rfl,n,B,D,O,q):=h
 refine(_,(aH (aW cr Z (aR<|pv 0) (aC (i:=1) Z77.nd Z<|bd Z)
  (aj (aX (dF<|gA<|aM v C Z<|ae (pv 1) ag)
  (aj bR)
  aN)))
  (aj (aX (aL iu (aw jA Z bl.len_ OO<|ae (bC (jy Z) Z bl.set_ wr<|ae (pv 0) ag) ag) (aw az Z bl.len_ OO<|ae (pv 0) ag)<|aQ _)
  (aj bR)
  aN))),?_,)
 let k:⇑(a.map Rk)=⇑a:=aa _;refine(let o:Rq:=λr b=>b=H/\∃c:Option V,r=[↑p,c];(o,?_,?_,))
 .refine(p,Z,(_,n,),(let o:Nat->Rq:=λi m b=>b=H/\∃c:Option V,m=[↑p,c];aY (xs:=a.map Rk) o (Z,_,Z,) (λi m b _ h=>by rw[h.1];exact n) (λi y m b e h=>?_) (λm b h=>h)),);let(J,c,rfl):=h;rw[J];let(z,rfl,G):=ue e;let d:=B z<|KP G;let x:⇑z<=1000:=by
   let g:=d;unfold isw at g;simp only[KS,decide_eq_true_eq]at g;lia
  calc(z,Z,x,_,Z,?_,);rw[d];exact cG (Z,_,Z,)
 rintro L R ⟨I,c,rfl⟩;rw[I];calc(p,a,Z,n,∅,λl j=>(l,a,Z,af,∅,p,_,Z,.inl<|(ai j _).seq n,_,_,Z,Z,_,Z,?_,),);let u:=lB a ⇑a<|Ab _;rw[gs]at u;calc cD (by rw[k,u.mpr D];lia) (q _<|ai j _)
def Ji(F:Fun K "refuse_row" "refuse_row" Y77 f fd)(bl:Bl K mg Y)(ft:bp CX0 P w K mg base 2 Y.i "has_code" ["self","value"] (bW K Y))(gu:bp CX0 P w K mg base 2 Y.j "has_code" ["self","value"] (cq K Y)):() 3 f fd ["domains","outcome","cells","code"] (fY K Y):=by
 refine F.okA Z78 λa4 A a2 s H vs Q E hr h=>?_
 let(v,m,z,dv,xs,bs,o,t,rfl,O,I,hO,R,J,ok,q):=h
 refine(_,(aq (aX (aL mZ (aw az Z bl.len_ OO<|ae (pv 2) ag) (aw az Z bl.len_ OO<|ae (pv 0) ag)<|aQ _)
  (aj bR)
  aN)
  (aH (aW cr Z (q8 Z bl.zip_<|ae (pv 0)<|ae (pv 2) ag) (eK Z<|aI (aC (i:=4) Z78.nd Z<|bd Z)<|aI (aC (i:=5) Z78.nd Z<|bd Z) bF)
  (aj (aW cr Z (aR<|pv 5) (eK Z<|aI (aC (i:=6) Z78.nd Z<|bd Z)<|aI (aC (i:=7) Z78.nd Z<|bd Z) bF)
  (aj (aX (PW.pt<|sQ (aL iu (pv 6) (cj (pv 4) Z)<|aQ _)<|mX<|aL mh (pv 7) (cj (pv 4) Z)<|aQ _)
  (aj bR)
  aN)))))
  (aj (aX (dF<|gA<|zY (tL ft bl.k_Numbers<|tL gu bl.k_Words Fs) bZ hr (pv 1)<|ae (pv 3) ag)
  (aj bR)
  aN)))),?_,)
 dsimp only[cw,Rp,Ro];show(let r2:TS:=_;let r1:TS:=cm _ r2;bh _ r1 _ _ _);intro _ _;let a1:∀(C:La),(C=Y.i\/C=Y.j)->Cls K C/\NoAttr K C s!"low"/\NoAttr K C s!"high":=λC h=>by
  rcases h with rfl|rfl
  .exact(bl.k_Numbers,bl.na_Numbers_low,bl.na_Numbers_high,)
  .exact(bl.k_Words,bl.na_Words_low,bl.na_Words_high,)
 let L:⇑xs=⇑dv:=by rw[J.1,ok.len,I.1]
 refine(z,_,Z,.inl<|Rm R,v,_,Z,.inl<|O,Z,_,Z,Fj (by rw[L]) ?_,);refine(let G:Rq:=λX c=>au H c/\∃D B k g:Option V,X=[↑v,↑m,↑z,OP<|.int t.2,D,B,k,g];(G,?_,?_,))
 .refine(v,z,Z,(_,O,),(_,Rm R,),(let G:Nat->Rq:=λi d c=>au H c/\∃D B k g:Option V,d=[↑v,↑m,↑z,OP<|.int t.2,D,B,k,g];q9 (xs:=dv) (ys:=xs) G (au.refl _,_,_,_,_,Z,) (λi d c h=>(h.1.seq O,Rm<|h.1 _ _ R,)) (λi x y d c T ex ey h hT=>?_) (λd c h=>h)),);let(sm,D,B,k,g,rfl):=h;let s2:=sm.trans<|ai hT<|.tup [x,y];let eT:upd c T (.tup [x,y]) T=OP (.tup [x,y]):=af;generalize upd c T (.tup [x,y])=H2 at s2 eT⊢;let(a,b,rfl,eb,hb):=I.get ex;let(l,ps,rfl,ep,hl):=aJ.get J ey;let(C,n,W,fs,u,f1,f2,_):=hb.same s2;let(k1,k2,k3):=a1 C n;let(_,ys,el,hp):=hl.same s2;calc(T,_,Z,Rn eT,Z,_,_,Z,_,_,Z,Z,?_,);refine(l,Z,(_,Rm el,),(let G:Nat->Rq:=λj d c=>c=H2/\∃k g:Option V,d=[↑v,↑m,↑z,OP<|.int t.2,↑a,↑l,k,g];aY (xs:=ys) G (Z,_,_,Z,) (λj d c _ h=>by rw[h.1];exact Rm el) (λj y d c e h=>?_) (λd c h=>?_)),)
  .let(S,k,g,rfl):=h;rw[S];let(p,r,e1,rfl,a0):=hp.get e;let(i1,i2):=ok.inn i ps b ep eb p<|KP e1;calc(r,_,Z,Rn a0,Z,_,_,Z,_,_,Z,Z,?_,);calc(a,_,_,_,_,Z,u,k1,k2,f1,_,_,Z,Z,_,Z,cD ∅ ?_,);exact(a,_,_,_,_,Z,u,k1,k3,f2,_,_,Z,Z,_,Z,cD ∅ (Z,_,_,Z,),)
  .let(S,k,g,rfl):=h;rw[S];exact(s2,_,_,_,_,Z,)
 rintro a3 H3 ⟨M,D,B,k,g,rfl⟩;let(C,n,N):=hO.same M;let(W,fs,u,f1,f2,f3):=id N;rcases n with rfl|rfl
 .exact(m,_,W,fs,Z,.head _,u,f3,m,o,t.2,Z,N,ok.lo,ok.hi,_,Z,cG<|q _ M,)
 .exact(m,_,W,fs,Z,.tail _<|.head _,u,f3,m,o,t.2,Z,N,ok.lo,ok.hi,_,Z,cG<|q _ M,)
def Jj(F:Fun K "mask" "mask" Y67 f fd)(bl:Bl K mg Y)(EA:⟨⟩ 2 "fits" ["table","k","codes"] (si K Y)):() 3 f fd ["table","codes"] (kT K Y):=by
 refine F.okA Z67 λa4 A z s H vs Q E S h=>?_
 let(t,c,a,wi,o,j,rfl,(G,ou,dx,fs,r,wy,J,M,a2,a3,m,O,a0,a1,R,ug),W,p,q):=h;calc(_,(aj<|aE<|aw (fO Z) Z bl.sum_ O6<|ae (cZ (bB Z bl.range_<|ae (aw az Z bl.len_ OO<|ae (cj (pv 0) Z) ag) ag) (bM (N:=["k","table","codes"]) (fr:=[0,1]) (cl:=[("table",↥s+1),("codes",↥s+1+1)]) Z Z (~~~0) (~~~0) Z (~~~0) Z Z Z (gx.mpr (Z,gx.mpr (Z,iU _,),)) Z) Z (λ_ _ _ _=>(ko<|gA<|aM EA S Z<|ae (pv 1)<|ae (pv 0)<|ae (pv 2) ag))<|λ_ _ _ _=>(ay zD ak<|pv 0)) ag),?_,);let l:⇑r=⇑a:=O.1
 refine(t,_,_,_,_,Z,J,bl.k_Table,bl.na_Table_rows,M,G,_,Z,.inl<|Rm m,_,Z,(by show -(2^62)<=((⇑r:Nat):Int);lia),(by show((⇑r:Nat):Int)<2^62;lia),cQ (λD i zs k=>au H k/\k D=OP (.lst zs)/\∃b:O4 Int,zs=b.map RV/\b.sum=((msk (jk a j) i:Nat):Int)/\⇑b<=i)
  (λD u=>(ai u _,af,[],Z,Z,BG _,)) (λD i zs k u hi h=>?_) (λD zs k u h=>?_),)
 .let(d,x,b,rfl,g,T):=h;let y:i<⇑a:=by first|lia|(rw[←l];lia)
  let(e,v):∃e,a[i]?=OP e:=(_,KN y,);let L:a.getD i ([],0)=e:=getD_at v;refine(t,G,c,dx,fs,r,a,i,e,j,by rw[IN],d _ _ J,M,d _ _ m,O.same d,v,d.seq W,p e<|KP v,λH3 C=>(_,Z,?_,),);let B:=d.trans C;let n:=C _ _ x;cases hb:pj e.1 j with
  |true =>
   refine iw (_,_,Z,Z,(∅,∅,⋯,),c0.mk hi n (aD (by rw[aa];lia)) (B.upd u,af,b++[1*2^(0+(i:Int)).toNat],by simp,?_,by simp;lia,),);let X:(0+(i:Int)).toNat=i:=∅
   rw[X,oQ,g,kH,show jk a j i=OR by unfold jk;rw[L];exact hb];simp;lia
  |false =>
   calc cG<|d6.mk (zs:=b.map RV) hi (B,n,b,Z,?_,∅,);rw[g,kH,show jk a j i=OS by unfold jk;rw[L];exact hb];simp
 .let(d,x,b,rfl,g,T):=h;rw[Kn]at g;calc(D,b,Z,Rm x,?_,);let I:=q k d;rw[←l,←g]at I;calc I
def Jk(F:Fun K "table_marks" "table_marks" Y83 f fd)(bl:Bl K mg Y)(oG:⟨⟩ 2 "column_marks" ["table","column"] (eQ K Y)):() 3 f fd ["table"] (fi K Y):=by
 refine F.okA Z85 λa4 A a0 s H vs Q E hr h=>?_
 let(t,G,bs,o,L,rfl,u,hb,T,lN,hL,q):=h;calc(_,(aj<|aE<|cZ (bB Z bl.range_<|ae (aw az Z bl.len_ OO<|ae (cj (pv 0) Z) ag) ag) (bM (N:=["column","table"]) (fr:=[0]) (cl:=[("table",↥s+1)]) Z Z (~~~0) (~~~0) Z (~~~0) Z Z Z (gx.mpr (Z,iU _,)) Z) Z (λ_ _ _ _=>bG)<|λ_ _ _ _=>(aM oG hr Z<|ae (pv 1)<|ae (pv 0) ag)),?_,);let(rl,dx,dl,fs,xs,ht,f1,f2,W,M,a3,hR):=id u;let a1:G.length=⇑bs:=M.1;refine⟨t,_,_,_,_,Z,ht,bl.k_Table,bl.na_Table_domains,f2,dl,_,Z,.inl<|Rm W,_,Z,(by show -(2^62)<=((G.length:Nat):Int);lia),(by show((G.length:Nat):Int)<2^62;lia),(let I_:La->Nat->O4 V->Rr:=λD i v d=>au H d/\d D=OP (.lst v)/\∃(m:O4 La)(a:O4 (O4 Int)),v=m.map RZ/\MLs (hide d D) m a/\⇑a=i/\∀(c:Nat)(b:Int×Int)(j:O4 Int),bs[c]?=OP b->a[c]?=OP j->j.Pairwise (· < ·)/\∀x,x∈j↔MkC o c b x;cQ I_ (λD n=>(ai n _,af,[],[],Z,MLs.nil,Z,λc b j _ e=>by simp at e,)) (λD i v d n hi h=>?_) (λD v d n h=>?_))⟩
 .let(y,C,m,a,rfl,B,p,g):=h;let r:i<⇑bs:=∅
  let(b,I):∃b,bs[i]?=OP b:=(_,KN r,);let(S,R):=hL i b I;refine(t,i,G,bs,o,b,L i,by rw[IN],u.same y,I,T,λw hw=>(by rw[(lN w hw).1];exact r,(lN w hw).2 i,),S,R,λl cs H2 s2 nl el pw hm=>?_,);let X:=s2 _ _ C;let nD:l≠D:=λz=>by rw[z,C]at nl;cases nl
  let a2:=B.1;refine c0.mk hi X (aD (by rw[aa];lia)) ((y.trans s2).upd n,af,m++[l],a++[cs],by rw[fq];rfl,?_,by rw[br,gR,p],λc b' j J k=>?_,)
  .rw[uq];exact MLs.snoc (B.same<|qB s2)<|bL el nD
  .by_cases hc:c<⇑a
   .rw[fo hc]at k;exact g c b' j J k
   .rw[jn ∅]at k;let h0:=(KO.mp k).1;rw[gR]at h0;let O:c=i:=∅
    subst O;rw[I]at J;cases J;rw[show c-⇑a=0 by lia]at k;cases k;exact(pw,hm,)
 .let(y,C,m,a,rfl,B,p,g):=h;calc q D m a d y n C (B.same<|fH d D) ∅ g
def Jl(F:Fun K "_law_outs" "_law_outs" Y53 f fd)(bl:Bl K mg Y)(y:⟨⟩ 2 "_law_worded" ["script"] (dn K Y))(B:⟨⟩ 2 "_law_at" ["script","k"] (dE K Y)):() 3 f fd ["script"] (iP K Y):=by
 refine F.okA Z53 λC A e s H D Q E j h=>?_
 let(a,b,rfl,m,q):=h
 refine(_,(aq (aX (gA<|aM y j Z<|ae (pv 0) ag)
  (aj<|aE<|aU<|ae ak<|ae ak<|ae ak ag)
  aN)
  (aq (aG (i:=1) Z53.nd Z (bd Z)<|ay bu (aM B j Z<|ae (pv 0)<|ae ak ag)<|ay cB ak ak)
  (aq (aG (i:=2) Z53.nd Z (bd Z)<|aF aO (aU<|ae ak<|ae (km gB ak)<|ae (pv 1) ag) (ay bu (pv 1) ak)<|λ_ _=>Z)
  (aj<|aE<|aU<|ae (pv 2)<|ae (ay bw (pv 2) ak)<|ae (ay bw (ay bw (pv 2) ak)<|ay bu (pv 1) ak) ag)))),?_,)
 dsimp only[cw,Rp,Ro];show(let n:TS:=_;let o:TS:=bh _ n;let r:TS:=bh _ o;bh _ r _ _ _);intro _ _ _;calc(a,b,Z,m,_,Z,?_,);refine ck (λg=>?_)<|λg=>?_
 .exact((by show 3<=Lc;decide),λl d=>q l [0,1,2] _ (ai d _) af (0,1,2,Z,⋯,⋯,λ_=>(Z,Z,),),)
 let x:¬ bE b 5%4=3:=λz=>g<|OZ z
 calc(a,b,5,Z,m,⋯,_,_,Z,Z,(⋯,⋯,⋯,),_,_,Z,Z,p10 _,?_,);generalize bE b 5%10^(50:Int).toNat=c;refine(_,Z,(by show 3<=Lc;decide),λp u=>?_,);let(v,t,_):=Ga 0 (-7) c (k:=c%3) (Kq _ ⋯)<|Kx _ ⋯;refine(_,_,Z,Z,(by show(0:Int)<3;decide),p,_,_,_,Z,Z,Rm af,t,?_,);let G:=Kq c (show(1009:Int)≠0 by decide);calc(_,_,Z,Z,_,_,Z,Z,_,_,Z,Z,(by show(0:Int)<1009;decide),_,_,Z,Z,(by show 3<=Lc;decide),λl d=>q l [v,v+1,v+2+c%1009] _ ((ai u _).trans<|ai d _) af (v,v+1,v+2+c%1009,Z,∅,∅,λz=>OY z x,),)
def Jm(F:Fun K "_law_way" "_law_way" Y60 f fd)(bl:Bl K mg Y)(L:⟨⟩ 2 "_law_worded" ["script"] (dn K Y))(M:⟨⟩ 2 "_law_at" ["script","k"] (dE K Y)):() 3 f fd ["script"] (gO K Y):=by
 refine F.okA Z60 λN A v s H O Q E y h=>?_
 let(a,d,rfl,B,q):=h
 refine(_,(aq (aG (i:=1) Z60.nd Z (bd Z)<|aF aO (aU<|ae aP<|ae aP<|ae aP<|ae aP<|ae aP<|ae aP ag) (ay bu (ay mO (aM M y Z<|ae (pv 0)<|ae ak ag) ak) ak)<|λ_ _=>Z)
  (aq (aX (PW.pt<|lp (aL cO (pv 1) aP<|aQ _)<|i3<|gA<|aM L y Z<|ae (pv 0) ag)
  (aj<|aE aP)
  aN)
  (aj<|aE<|pv 1))),?_,)
 dsimp only[cw,Rp,Ro];show(let G:TS:=_;let I:TS:=bh _ G;bh _ I _ _ _);intro _ _;refine((by show 6<=Lc;decide),λp J=>?_,);let j:=ai J<|.lst [.str "first",.str "only",.str "like",.str "low",.str "high",.str "sum"];let C:upd H p (.lst [.str "first",.str "only",.str "like",.str "low",.str "high",.str "sum"]) p=OP (.lst [.str "first",.str "only",.str "like",.str "low",.str "high",.str "sum"]):=af;generalize upd H p (.lst [.str "first",.str "only",.str "like",.str "low",.str "high",.str "sum"])=H1 at j C⊢;let(k,t):∃k,k=bE d 0 / 4%6:=(_,Z,);let o:=Kq (bE d 0 / 4) (show(6:Int)≠0 by decide);let n:=Kx (bE d 0 / 4) (show(0:Int)<6 by decide);rw[←t]at o n;let r:wyF d=if k.toNat=5/\bE d 5%4=3 then 2 else k.toNat:=by unfold wyF;rw[t]
 let(l,D,x,b):=HG (k:=k) o n;let c:D=k.toNat:=Ck o n x b;refine(a,d,0,Z,j.seq B,⋯,_,_,Z,Z,(⋯,⋯,),_,_,Z,Z,(by show(0:Int)<6;decide),?_,);rw[←t];calc(p,_,_,_,Z,Z,Rm C,x,Z,_,Z,?_,);refine ck (λg=>?_)<|λg=>cG ?_
 .let m:l=s!"sum" := by have:=O1 g;injection this
  calc(a,d,Z,j.seq B,_,Z,?_,);let u:k.toNat=5:=by
   rw[c,m]at b;exact rH b (show six[5]?=OP s!"sum"from Z)
  refine ck (λe=>?_)<|λe=>?_
  .let e:=O1 e;refine q _ H1 j (by rw[r,OX (u,e,)];rfl) λ_=>⋯
  .let e:¬ bE d 5%4=3:=λz=>e<|OZ z
   exact(q l H1 j (by rw[r,OW λz=>e z.2,←c];exact b) λz=>OY z e)
 .let m:l≠s!"sum" := λz=>g<|OZ (by rw[z])
  let u:¬ k.toNat=5:=λz=>m (by rw[c,z]at b;cases b;rfl)
  calc(q l H1 j (by rw[r,OW λz=>u z.1,←c];exact b) λ_=>m)
def Jn(F:Fun K "_law_paid" "_law_paid" Y54 f fd)(bl:Bl K mg Y)(W:⟨⟩ 2 "path" ["tree","codes"] (sj K Y)):() 3 f fd ["tree","codes","prices"] (iQ K Y):=by
 refine F.okA Z54 λX A v s H vs Q E M h=>?_
 let(a,l,B,T,g,xs,rfl,t,hok,u,N,n,k,q):=h
 refine(_,(aq (aG (i:=3) Z54.nd Z (bd Z) ak)
  (aq (aW cr Z (aR<|aM W M Z<|ae (pv 0)<|ae (pv 1) ag) (aC (i:=4) Z54.nd Z<|bd Z)
  (aj<|aG (i:=3) Z54.nd Z (bd Z)<|ay bw (pv 3)<|aF aO (pv 2) (aF aZ (pv 4) ak<|λ_ _=>Z)<|λ_ _=>Z))
  (aj<|aE<|pv 3))),?_,)
 dsimp only[cw,Rp,Ro];show(let J:TS:=_;let L:TS:=bh _ J;bh _ L _ _ _);intro _ _;calc(a,l,T,g,Z,t,hok,u,N,λp I G x D C=>?_,);refine(p,Z,(_,Rm D,),(let S:Nat->Rq:=λi b d=>d=G/\∃j:Option V,b=[↑a,↑l,↑B,OP<|.int<|we xs<|(T.pth g).take i,j];aY (xs:=I) S (Z,_,Z,) (λi b d _ h=>by rw[h.1];exact Rm D) (λi y b d R h=>?_) (λb d h=>?_)),)
 .let(e,j,rfl):=h;rw[e];let(r,z,rfl,eq,m):=aJ.get C R;let(c,O,o):=wg g T hok z<|KP eq;let(qc,qm,qb):=z;cases O;calc(r,_,_,_,Z,Z,Rn m,Z,B,_,_,_,Z,Z,Rm<|x _ _ n,xF k o,_,_,Z,Z,Z,↑r,?_,);rw[take_snoc eq,yY];rfl
 .let(e,j,rfl):=h;rw[e];rw[C.1,gs];calc(q G x)
def Jo(F:Fun K "__init__" "Words.__init__" Y30 f fd)(bl:Bl K mg Y)(gv:cx CX0 P w K mg base 2 "Domain" "__init__" ["self","low","high"] (cn K Y))(lZ:⟨⟩ 2 "is_word" ["text"] (gL K Y)):() 3 f fd ["self","words"] (cy K Y):=by
 refine F.okA Z30 λa2 A T s H vs Q E hr h=>?_
 let(x,d,p,a,rfl,X,L,G,q):=h
 refine(_,(aq (aX (dF<|gd eY eY ak (aw az Z bl.len_ OO<|ae (pv 1) ag)<|gh Z bl.MOST_WORDS_)
  (aj bR)
  aN)
  (aH (aW cr Z (aR<|pv 1) (aC (i:=2) Z30.nd Z<|bd Z)
  (aj (aX (dF<|gA<|aM lZ hr Z<|ae (pv 2) ag)
  (aj bR)
  aN)))
  (aq (aX (aL iu (aw jA Z bl.len_ OO<|ae (bC (jy Z) Z bl.set_ wr<|ae (pv 1) ag) ag) (aw az Z bl.len_ OO<|ae (pv 1) ag)<|aQ _)
  (aj bR)
  aN)
  (aq (aV<|fD gv bZ hr Z<|ae (pv 0)<|ae ak<|ae (ay b7 (aw az Z bl.len_ OO<|ae (pv 1) ag) ak) ag)
  (aj<|cP (pv 0) (bC cC Z bl.list_ ls<|ae (pv 1) ag) Z))))),?_,)
 dsimp only[cw,Rp,Ro];show(let r4:TS:=_;let r3:TS:=bh _ r4;let r2:TS:=bh _ r3;let r1:TS:=cm _ r2;bh _ r1 _ _ _);intro _ _ _ _;let t:SqL K H p (a.map Rk):=Rm L;let B:p≠x:=dZ L X (by intro z;cases z);let c:⇑(a.map Rk)=⇑a:=aa _;let h1:=G.some_;let a1:=G.few;refine(p,_,Z,.inl t,_,_,Z,Z,_,Z,hV (by rw[c];lia) ?_,);calc(_,_,Z,Z,_,Z,?_,);rw[OZ (show((⇑(a.map Rk):Nat):Int)<=40 by rw[c];lia)];calc cG ?_;refine(let O:Rq:=λR n=>n=H/\∃u:Option V,R=[↑x,↑p,u];(O,?_,?_,))
 .refine(p,Z,(_,t,),(let O:Nat->Rq:=λi D n=>n=H/\∃u:Option V,D=[↑x,↑p,u];aY (xs:=a.map Rk) O (Z,_,Z,) (λi D n _ h=>by rw[h.1];exact t) (λi y D n e h=>?_) (λD n h=>h)),);let(e0,u,rfl):=h;rw[e0];let(z,rfl,ez):=ue e;let hw:=G.words z<|KP ez;let hz:⇑z<=1000:=by
   let v:=hw;unfold isw at v;simp only[KS,decide_eq_true_eq]at v;lia
  calc(z,Z,hz,_,Z,?_,);rw[hw];exact cG (Z,_,Z,)
 rintro a0 H2 ⟨I,u,rfl⟩;rw[I];calc(p,a,Z,t,∅,λl hl=>(l,a,Z,af,∅,p,_,Z,.inl<|(ai hl _).seq t,_,_,Z,Z,_,Z,?_,),);let J:=ai hl<|o6 P w l a;let cf:=lB a ⇑a<|Ab _;rw[gs]at cf;refine cD (by rw[c,cf.mpr G.once];lia) ?_;let S:=J _ _ X;let C:=J _ _ L;calc(p,_,Z,.inl<|Rm C,_,_,Z,Z,x,d,0,_,Z,S,?_,);let N:mkd Y.j (upd H l<|o6 P w l a) x d 0 (((⇑(a.map Rk):Nat):Int)-1) x=OP (.ins Y.j d [("low",.int 0),("high",.int<|((⇑(a.map Rk):Nat):Int)-1)]):=af;let I:mkd Y.j (upd H l<|o6 P w l a) x d 0 (((⇑(a.map Rk):Nat):Int)-1) p=OP (.lst<|a.map Rk):=by unfold mkd;rw[ar B,ar B];exact C
 let M:∀b o,b≠x->H b=OP o->mkd Y.j (upd H l<|o6 P w l a) x d 0 (((⇑(a.map Rk):Nat):Int)-1) b=OP o:=λb o r h=>by unfold mkd;rw[ar r,ar r];exact J b o h
 let eh:((⇑(a.map Rk):Nat):Int)-1=hiW a:=by rw[c];rfl
 refine(p,_,Z,.inl<|Rm I,λk m=>(x,_,d,_,Z,cI N m,bl.k_Words,bl.na_Words_words,(by show 2<1000;decide),?_,),);show Q .non (upd (upd (mkd Y.j (upd H l<|o6 P w l a) x d 0<|((⇑(a.map Rk):Nat):Int)-1) k<|.lst<|a.map Rk) x<|.ins Y.j d<|bx s!"words" (.ref k) [(s!"low",.int 0),(s!"high",.int<|((⇑(a.map Rk):Nat):Int)-1)]);rw[put3];let g:mkd Y.j (upd H l<|o6 P w l a) x d 0 (((⇑(a.map Rk):Nat):Int)-1) k=none:=m;clear m;generalize mkd Y.j (upd H l<|o6 P w l a) x d 0 (((⇑(a.map Rk):Nat):Int)-1)=H2 at N I M g⊢;rw[eh];let W:k≠x:=(bc N g).symm;calc q _ k (λb o r h=>(ar r).trans<|cI (M b o r h) g) af ((ar W).trans af) (by cases z:H k with|none=>rfl|some o=>have:=M k o W z;rw[g]at this;cases this)
def Jp(F:Fun K "way_by" "way_by" Y86 f fd)(bl:Bl K mg Y)(k_First:bA CX0 P w K mg base 2 "First" Y.b ["self"] (J0 K Y))(k_Only:bA CX0 P w K mg base 2 "Only" Y.c ["self"] (J8 K Y))(k_Like:bA CX0 P w K mg base 2 "Like" Y.d ["self"] (J4 K Y))(k_Low:bA CX0 P w K mg base 2 "Low" Y.e ["self"] (J6 K Y))(k_High:bA CX0 P w K mg base 2 "High" Y.f ["self"] (J2 K Y))(k_Sum:bA CX0 P w K mg base 2 "Sum" Y.g ["self"] (J10 K Y)):() 4 f fd ["name"] (jf K Y):=by
 refine F.okA Z89 λa3 A a2 s H vs Q E hr h=>?_
 let(z,rfl,hz,q):=h
 refine(_,(aq (aW cr Z (aR<|aU<|ae (lF k_First bZ hr Z)<|ae (lF k_Only bZ hr Z)<|ae (lF k_Like bZ hr Z)<|ae (lF k_Low bZ hr Z)<|ae (lF k_High bZ hr Z)<|ae (lF k_Sum bZ hr Z) ag) (aC (i:=1) Z89.nd Z<|bd Z)
  (aj (aX (aL cO (cj (pv 1) Z) (pv 0)<|aQ _)
  (aj<|aE<|pv 1)
  aN)))
  (aj bR)),?_,)
 refine λv N m k o=>(v,N,Z,af,Z,?_,)
 let t0:au H (upd (upd (upd H N<|.own v) v<|.ins Y.b N []) v<|.ins Y.b N [("called",.str s!"first")]):=((ai k _).upd m).upd m;let B:WyN Y.b (upd (upd (upd H N<|.own v) v<|.ins Y.b N []) v<|.ins Y.b N [("called",.str s!"first")]) v s!"first":=(N,af,);generalize upd (upd (upd H N<|.own v) v<|.ins Y.b N []) v (.ins Y.b N [("called",.str s!"first")])=H0 at t0 B⊢;clear m k o;refine λu M m k o=>(u,M,Z,af,Z,?_,)
 let t1:au H0 (upd (upd (upd H0 M<|.own u) u<|.ins Y.c M []) u<|.ins Y.c M [("called",.str s!"only")]):=((ai k _).upd m).upd m;let D:WyN Y.c (upd (upd (upd H0 M<|.own u) u<|.ins Y.c M []) u<|.ins Y.c M [("called",.str s!"only")]) u s!"only":=(M,af,);generalize upd (upd (upd H0 M<|.own u) u<|.ins Y.c M []) u (.ins Y.c M [("called",.str s!"only")])=H1 at t1 D⊢;clear m k o;let B:=B.same t1;refine λt L m k o=>(t,L,Z,af,Z,?_,)
 let t2:au H1 (upd (upd (upd H1 L<|.own t) t<|.ins Y.d L []) t<|.ins Y.d L [("called",.str s!"like")]):=((ai k _).upd m).upd m;let O:WyN Y.d (upd (upd (upd H1 L<|.own t) t<|.ins Y.d L []) t<|.ins Y.d L [("called",.str s!"like")]) t s!"like":=(L,af,);generalize upd (upd (upd H1 L<|.own t) t<|.ins Y.d L []) t (.ins Y.d L [("called",.str s!"like")])=H2 at t2 O⊢;clear m k o;let B:=B.same t2;let D:=D.same t2;refine λw3 J m k o=>(w3,J,Z,af,Z,?_,)
 let t3:au H2 (upd (upd (upd H2 J<|.own w3) w3<|.ins Y.e J []) w3<|.ins Y.e J [("called",.str s!"low")]):=((ai k _).upd m).upd m;let R:WyN Y.e (upd (upd (upd H2 J<|.own w3) w3<|.ins Y.e J []) w3<|.ins Y.e J [("called",.str s!"low")]) w3 s!"low":=(J,af,);generalize upd (upd (upd H2 J<|.own w3) w3<|.ins Y.e J []) w3 (.ins Y.e J [("called",.str s!"low")])=H3 at t3 R⊢;clear m k o;let B:=B.same t3;let D:=D.same t3;let O:=O.same t3;refine λr I m k o=>(r,I,Z,af,Z,?_,)
 let t4:au H3 (upd (upd (upd H3 I<|.own r) r<|.ins Y.f I []) r<|.ins Y.f I [("called",.str s!"high")]):=((ai k _).upd m).upd m;let X:WyN Y.f (upd (upd (upd H3 I<|.own r) r<|.ins Y.f I []) r<|.ins Y.f I [("called",.str s!"high")]) r s!"high":=(I,af,);generalize upd (upd (upd H3 I<|.own r) r<|.ins Y.f I []) r (.ins Y.f I [("called",.str s!"high")])=H4 at t4 X⊢;clear m k o;let B:=B.same t4;let D:=D.same t4;let O:=O.same t4;let R:=R.same t4;refine λp G m k o=>(p,G,Z,af,Z,?_,)
 let T:au H4 (upd (upd (upd H4 G<|.own p) p<|.ins Y.g G []) p<|.ins Y.g G [("called",.str s!"sum")]):=((ai k _).upd m).upd m;let y5:WyN Y.g (upd (upd (upd H4 G<|.own p) p<|.ins Y.g G []) p<|.ins Y.g G [("called",.str s!"sum")]) p s!"sum":=(G,af,);generalize upd (upd (upd H4 G<|.own p) p<|.ins Y.g G []) p (.ins Y.g G [("called",.str s!"sum")])=H5 at T y5⊢;clear m k o;let B:=B.same T;let D:=D.same T;let O:=O.same T;let R:=R.same T;let X:=X.same T;let s5:au H H5:=((((t0.trans t1).trans t2).trans t3).trans t4).trans T;refine((by show 6<=Lc;decide),λl hl=>?_,);let S:au H5 (upd H5 l<|.lst [RZ v,.ref u,.ref t,.ref w3,.ref r,.ref p]):=ai hl _;let el:upd H5 l (.lst [RZ v,.ref u,.ref t,.ref w3,.ref r,.ref p]) l=OP (.lst [RZ v,.ref u,.ref t,.ref w3,.ref r,.ref p]):=af;generalize upd H5 l (.lst [RZ v,.ref u,.ref t,.ref w3,.ref r,.ref p])=H6 at S el⊢;let B:=B.same S;let D:=D.same S;let O:=O.same S;let R:=R.same S;let X:=X.same S;let y5:=y5.same S;let sA:=s5.trans S;let a0:∀(i:Nat)(x:V),[RZ v,.ref u,.ref t,.ref w3,.ref r,.ref p][i]?=OP x->∃(a C:La)(y:Str),x=.ref a/\(cl6 Y.b Y.c Y.d Y.e Y.f Y.g)[i]?=OP C/\six[i]?=OP y/\WyN C H6 a y/\Cls K C/\NoAttr K C s!"called":=λi x e=>by
  match i,e with
  |0,e=>cases e;exact(v,Y.b,_,Z,Z,Z,B,bl.k_First,bl.na_First_called,)
  |1,e=>cases e;exact(u,Y.c,_,Z,Z,Z,D,bl.k_Only,bl.na_Only_called,)
  |2,e=>cases e;exact(t,Y.d,_,Z,Z,Z,O,bl.k_Like,bl.na_Like_called,)
  |3,e=>cases e;exact(w3,Y.e,_,Z,Z,Z,R,bl.k_Low,bl.na_Low_called,)
  |4,e=>cases e;exact(r,Y.f,_,Z,Z,Z,X,bl.k_High,bl.na_High_called,)
  |5,e=>cases e;exact(p,Y.g,_,Z,Z,Z,y5,bl.k_Sum,bl.na_Sum_called,)
  |n+6,e=>simp at e
 refine(l,Z,(_,Rm el,),(let I_:Nat->Rq:=λi σ H'=>(∃c1:Option V,σ=[OP (.str z),c1])/\H'=H6/\∀j:Nat,j<i->six[j]?≠OP z;aY (xs:=[RZ v,.ref u,.ref t,.ref w3,.ref r,.ref p]) I_ ((_,Z,),Z,(λj h=>OY h<|EB j),) (λi σ H' _ h=>by rw[h.2.1];exact Rm el) (λi x σ H' e h=>?_) (λσ H' h=>?_)),)
 .let((c1,rfl),e0,W):=h;rw[e0];let(a,C,y,rfl,eC,ey,(dx,ha),hc,hn):=a0 i x e;calc(a,_,_,_,_,Z,ha,hc,hn,Z,Z,_,Z,?_,);refine ck (λg=>?_)<|λg=>?_
  .let g':Rk y=Rk z:=mn g;injection g' with g';subst g';exact(q i ey a C H6 sA eC (dx,ha,))
  .refine((_,Z,),Z,λj hj=>?_,);by_cases a1:j<i
   .exact W j a1
   .let:j=i:=∅
    subst this;rw[ey];intro q2;exact(pW g) (by injection q2 with q2;rw[q2])
 .let((c1,rfl),e0,W):=h;rw[e0];let(j,hj,ej):=Q3 hz;calc OY (by rw[KN hj,ej]) (W j hj)
def Jq(F:Fun K "refuse_way" "refuse_way" Y78 f fd)(bl:Bl K mg Y)(l:⟨⟩ 4 "way_by" ["name"] (jf K Y)):() 5 f fd ["way","outcome"] (fZ K Y):=by
 refine F.okA Z79 λu A g s H y Q E r h=>?_
 let(z,B,rfl,m,d,q):=h
 refine(_,(aj (aX (PW.pt<|lp (aL cO (cj (aM l r Z<|ae (pv 0) ag) Z) aP<|aQ _)<|i3<|gA<|aw lE Z bl.isinstance_ GE<|ae (pv 1)<|ae (dY (v:=.ref Y.j) Z bl.Words_ Z) ag)
  (aj bR)
  aN)),?_,)
 calc(z,Z,m,λi D x C J b a p=>?_,);let k:Cls K C/\NoAttr K C s!"called":=by
  match i,a with
  |0,a=>cases a;exact(bl.k_First,bl.na_First_called,)
  |1,a=>cases a;exact(bl.k_Only,bl.na_Only_called,)
  |2,a=>cases a;exact(bl.k_Like,bl.na_Like_called,)
  |3,a=>cases a;exact(bl.k_Low,bl.na_Low_called,)
  |4,a=>cases a;exact(bl.k_High,bl.na_High_called,)
  |5,a=>cases a;exact(bl.k_Sum,bl.na_Sum_called,)
  |n+6,a=>simp[cl6]at a
 let(I,o):=p;calc(x,_,_,_,_,Z,o,k.1,k.2,Z,Z,_,Z,?_,);by_cases c:z=s!"sum"
 .let(G,fs,t):=d c;exact hV (by rw[c]) (_,_,_,_,OS,Z,.ref _,bl.t_Numbers.ty<|b _ _ t,bl.f_nw,_,Z,cG<|q _ b,)
 .exact cD (λe=>by injection e with e;exact c e) (cG<|q _ b)
def Jr(F:Fun K "judged" "judged" Y47 f fd)(bl:Bl K mg Y)(jo:bp CX0 P w K mg base 4 Y.b "verdict" ["self","codes","outcome"] (J12 K Y))(jV:bp CX0 P w K mg base 4 Y.c "verdict" ["self","codes","outcome"] (J16 K Y))(jW:bp CX0 P w K mg base 4 Y.d "verdict" ["self","codes","outcome"] (J14 K Y))(kU:bp CX0 P w K mg base 4 Y.e "verdict" ["self","codes","outcome"] (J15 K Y))(jX:bp CX0 P w K mg base 4 Y.f "verdict" ["self","codes","outcome"] (J13 K Y))(kW:bp CX0 P w K mg base 4 Y.g "verdict" ["self","codes","outcome"] (J17 K Y))(oH:⟨⟩ 4 "way_by" ["name"] (jf K Y)):() 5 f fd ["table","rows"] (gm K Y):=by
 refine F.okA Z47 λa8 A a7 s H vs Q E hr h=>?_
 let(t,a,wi,o,m,rfl,(rl,ou,dx,fs,xs,wy,S,hf,a4,a5,B,hR,z,a3,G,ug),q):=h
 refine(_,(aq (tN (i:=2) Z47.nd Z (bd Z) (xg Z bl.enumerate_<|ae (cj (pv 0) Z) ag) (d9 (N:=["k","row","rows"]) (k:=2) (fr:=[1]) (cl:=[("rows",↥s+1)]) Z Z (~~~0) (~~~0) Z Z (gx.mpr (Z,iU _,)) Z) Z (λ_ _ _ _=>(jx (K:=K) (n:=2) Z Z<|aI (aC (i:=0) (show(["k","row","rows"]:O4 Str).Nodup by decide+kernel) Z (bd Z) (lf Z)) (aI (aC (i:=1) (show(["k","row","rows"]:O4 Str).Nodup by decide+kernel) Z (bd Z) (lf Z)) bF))) (λ_ _ _ _=>(ko<|ym (K:=K) Z<|ay ve (ay vc (pv 2)<|pv 0) ak)) (λ_ _ _ _=>(aF (gC (K:=K) Z) (pv 1) ak<|λ_ _=>Z)))
  (aj<|aE<|zY (tL jo bl.k_First<|tL jV bl.k_Only<|tL jW bl.k_Like<|tL kU bl.k_Low<|tL jX bl.k_High<|tL kW bl.k_Sum Fs) bZ hr (aM oH hr Z<|ae (cj (pv 0) Z) ag)<|ae (pv 2)<|ae (cj (pv 0) Z) ag)),?_,)
 let X:⇑xs=⇑a:=hR.1
 refine(t,_,_,_,_,Z,S,bl.k_Table,bl.na_Table_rows,hf,rl,Z,(_,Rm B,),vL (xs:=xs) (λD i zs p=>au H p/\p D=OP (.lst zs)/\zs=(pkF a (bJ m) i).map RV)
  (λD y=>(ai y _,af,Z,)) (λD i zs p y _ h=>Rm<|h.1 _ _ B) (λD i x zs p T y ex h hT ts a1=>?_) (λD zs p y h=>?_),)
 .let(L,O,rfl):=h;let s2:=L.trans<|ai hT<|.tup [.int i,x];let eT:upd p T (.tup [.int i,x]) T=OP (.tup [.int i,x]):=af;let u:=ai hT (.tup [.int i,x]) _ _ O;generalize upd p T (.tup [.int i,x])=H2 at s2 eT u⊢;let(r,w_,rfl,ew,ce,cv,g1,_,g2,g3):=aJ.get (hR.same s2) ex;let hi:i<⇑xs:=(KO.mp ex).1;let hg:a.getD i ([],0)=w_:=getD_at ew;let a2:=xt a (bJ m) i;let(J,I,rfl):∃J I,ts=[J,I]:=by
   match ts,a1 with
   | [J,I],_=>exact(J,I,Z,)
  calc(T,_,Z,Rn eT,Z,_,_,Z,_,_,Z,Z,([OP (.int i),↑r],Z,Z,),?_,);calc(_,_,Z,Z,PR _,_,_,Z,Z,bJ m i,Z,?_,);let v:=AF a (bJ m) i;rw[hg]at v;cases hb:bJ m i with
  |true =>
   rw[hb]at v;refine iw (r,_,_,_,Z,Z,Rn g1,Z,c0.mk hi u (aD (by rw[aa];lia)) (s2.upd y,af,?_,),);rw[v,fq];rfl
  |false =>
   rw[hb]at v;calc cG<|d6.mk (zs:=(pkF a (bJ m) i).map RV) hi (s2,u,?_,);rw[v];simp
 .let(L,O,rfl):=h;rw[X]at O;let a0:wy∈six:=KP z;calc(t,_,_,_,_,Z,L _ _ S,bl.k_Table,bl.na_Table_way,a4,wy,Z,a0,λM a6 x C H2 s2 l hw=>?_,);let ii:M=wi:=rH a6 z;subst ii;let R:=L.trans s2;let(dw,hx):=hw;let a2:=xt a (bJ m) ⇑a;let W:(C,kG K C Y.i Y.j M)∈[(Y.b,kG K Y.b Y.i Y.j 0),(Y.c,kG K Y.c Y.i Y.j 1),(Y.d,kG K Y.d Y.i Y.j 2),(Y.e,kG K Y.e Y.i Y.j 3),(Y.f,kG K Y.f Y.i Y.j 4),(Y.g,kG K Y.g Y.i Y.j 5)]:=by
   match M,l with
   |0,l=>cases l;exact .head _
   |1,l=>cases l;exact .tail _<|.head _
   |2,l=>cases l;exact .tail _<|.tail _<|.head _
   |3,l=>cases l;exact .tail _<|.tail _<|.tail _<|.head _
   |4,l=>cases l;exact .tail _<|.tail _<|.tail _<|.tail _<|.head _
   |5,l=>cases l;exact .tail _<|.tail _<|.tail _<|.tail _<|.tail _<|.head _
   |n+6,l=>simp[cl6]at l
  calc(x,(C,kG K C Y.i Y.j M),dw,_,Z,W,hx,Z,t,_,_,_,_,Z,R _ _ S,bl.k_Table,bl.na_Table_outcome,a5,x,D,ou,_,o,Z,(dw,_,hx,),a3.same R,G,Rm<|s2 _ _ O,∅,λr H3 s3 h3=>q r H3 (R.trans s3) h3,)
def Js(F:Fun K "__init__" "Table.__init__" Y17 f fd)(bl:Bl K mg Y)(oJ:⟨⟩ 5 "refuse_names" ["names"] (eS K Y))(mJ:⟨⟩ 5 "refuse_counts" ["names","rows"] (dW K Y))(sx:⟨⟩ 5 "refuse_way" ["way","outcome"] (fZ K Y))(sy:⟨⟩ 5 "refuse_row" ["domains","outcome","cells","code"] (fY K Y))(zg:⟨⟩ 5 "own_row" ["cells","code"] (jJ K Y)):() 6 f fd ["self","name","names","domains","outcome","way","rows"] (cz K Y):=by
 refine F.okA Z17 λe0 A d1 s H vs Q E hr h=>?_
 let(x,g,na,dl,m,rl,c,C,l,J,rx,bs,o,a2,rfl,hx,W,hw,b6,h1,h4,b1,b3,a1,c3,b5,S,hR,ug,d5,hok,q):=h
 refine(_,(aq (aV<|aM oJ hr Z<|ae (ay qU (aU<|ae (pv 1) ag)<|pv 2) ag)
  (aq (aV<|aM mJ hr Z<|ae (pv 2)<|ae (pv 6) ag)
  (aq (aV<|aM sx hr Z<|ae (pv 5)<|ae (pv 4) ag)
  (aH (aW cr Z (aR<|pv 6) (eK Z<|aI (aC (i:=7) Z17.nd Z<|bd Z)<|aI (aC (i:=8) Z17.nd Z<|bd Z) bF)
  (aj<|aV<|aM sy hr Z<|ae (pv 3)<|ae (pv 4)<|ae (pv 7)<|ae (pv 8) ag))
  (aq (cP (pv 0) (pv 1) Z)
  (aq (cP (pv 0) (bC cC Z bl.list_ ls<|ae (pv 2) ag) Z)
  (aq (cP (pv 0) (bC cC Z bl.list_ ls<|ae (pv 3) ag) Z)
  (aq (cP (pv 0) (pv 4) Z)
  (aq (cP (pv 0) (pv 5) Z)
  (aj<|cP (pv 0) (d7 (aR<|pv 6) (dJ (N:=["cells","code"]) (k:=2) Z Z (~~~0) (~~~0)<|~~~0) Z (λ_ _ _ _=>(jx (K:=K) (n:=2) Z Z<|aI (aC (i:=0) (show(["cells","code"]:O4 Str).Nodup by decide+kernel) Z (bd Z) (lf Z)) (aI (aC (i:=1) (show(["cells","code"]:O4 Str).Nodup by decide+kernel) Z (bd Z) (lf Z)) bF))) (λ_ _ _ _=>bG) (λ_ _ _ _=>(aM zg hr Z<|ae (pv 0)<|ae (pv 1) ag))) Z)))))))))),?_,)
 dsimp only[cw,Rp,Ro];show(let r9:TS:=_;let r8:TS:=bh _ r9;let r7:TS:=bh _ r8;let r6:TS:=bh _ r7;let r5:TS:=bh _ r6;let r4:TS:=bh _ r5;let r3:TS:=cm _ r4;let r2:TS:=bh _ r3;let r1:TS:=bh _ r2;bh _ r1 _ _ _);intro _ _ _ _ _ _ _ _ _;let a0:⇑(l.map Rk)=⇑l:=aa _;refine((by show 1<=Lc;decide),λl1 c2=>?_,);let s1:=ai c2<|.lst [.str c];let e1:upd H l1 (.lst [.str c]) l1=OP (.lst [.str c]):=af;generalize upd H l1 (.lst [.str c])=H1 at s1 e1⊢;refine(l1,na,_,_,Z,Z,e1,s1 _ _ W,(by rw[a0];show 1+⇑l<=Lc;exact big ∅),λl2 c1=>?_,);let s2:=s1.trans<|ai c1<|.lst<|[Rk c]++l.map Rk;let e2:upd H1 l2 (.lst<|[Rk c]++l.map Rk) l2=OP (.lst<|(c :: l).map Rk):=af;generalize upd H1 l2 (.lst<|[Rk c]++l.map Rk)=H2 at s2 e2⊢;refine(l2,c :: l,Z,Rm e2,hw,b6,by rw[fk];lia,λH3 t3=>?_,);let s3:=s2.trans t3;refine(na,rl,_,_,Z,Rm<|s3 _ _ W,Rm<|s3 _ _ S,by rw[a0];exact h1,by rw[a0];exact h4,ug,?_,);calc(C,m,Z,b1,(λz=>let ⟨dx',fs',e'⟩:=b3 z;(dx',fs',s3 _ _ e',)),λH4 t4=>?_,);let s4:=s3.trans t4;refine(let I_:Rq:=λa7 v=>au H v/\∃c7 c8:Option V,a7=[↑x,OP<|.str c,↑na,↑dl,↑m,OP<|.str C,↑rl,c7,c8];(I_,?_,?_,))
 .refine(rl,Z,(_,Rm<|s4 _ _ S,),(let I_:Nat->Rq:=λi σ v=>au H v/\∃c7 c8:Option V,σ=[↑x,OP<|.str c,↑na,↑dl,↑m,OP<|.str C,↑rl,c7,c8];aY (xs:=rx) I_ (s4,_,_,Z,) (λi σ v _ h=>Rm<|h.1 _ _ S) (λi y σ v e h=>?_) (λσ v h=>h)),);let(u,c7,c8,rfl):=h;let(r,w_,rfl,ew,ce,cv,g1,_,g2,g3):=aJ.get (hR.same u) e;calc(r,_,Z,Rn g1,Z,_,_,Z,_,_,Z,Z,?_,);exact(dl,m,ce,J,cv,bs,o,w_,Z,Rm<|u _ _ a1,aJ.mono c3 λ_ _ p=>p.same u,b5.same u,g2,g3,hok w_<|KP ew,λH2 t2=>(u.trans t2,_,_,Z,),)
 rintro d2 L ⟨T,c7,c8,rfl⟩;let x5:=T _ _ hx;let a9:na≠x:=dZ W hx (by intro z;cases z);let c9:dl≠x:=dZ a1 hx (by intro z;cases z);let a8:rl≠x:=dZ S hx (by intro z;cases z);let k5:∀b o,b≠x->H b=OP o->L b=OP o:=λb o _ e=>T b o e
 let R5:=RL.hide x5<|hR.same T;refine(x,_,g,_,Z,x5,bl.k_Table,bl.na_Table_name,(by show 0<1000;decide),?_,);let k6:∀b o,b≠x->L b=OP o->upd L x (.ins Y.k g [(s!"name",.str c)]) b=OP o:=λb o t e=>(ar t).trans e
 let x6:upd L x (.ins Y.k g [(s!"name",.str c)]) x=OP (.ins Y.k g [(s!"name",.str c)]):=af;let g6:upd L x (.ins Y.k g<|bx s!"name" (.str c) [])=upd L x (.ins Y.k g [(s!"name",.str c)]):=rfl;rw[g6];clear g6;generalize upd L x (.ins Y.k g [(s!"name",.str c)])=H6 at k6 x6⊢;refine(na,_,Z,.inl<|Rm<|k6 _ _ a9<|T _ _ W,λd I=>(x,_,g,_,Z,cI x6 I,bl.k_Table,bl.na_Table_names,(by show 1<1000;decide),?_,),);let g7:upd (upd H6 d<|.lst<|l.map Rk) x (.ins Y.k g<|bx s!"names" (RZ d) [(s!"name",Rk c)])=upd (upd H6 d<|.lst<|l.map Rk) x (.ins Y.k g [(s!"name",Rk c),(s!"names",RZ d)]):=by rw[pf1]
 rw[g7];clear g7;let k7:∀b o,b≠x->L b=OP o->upd (upd H6 d<|.lst<|l.map Rk) x (.ins Y.k g [(s!"name",Rk c),(s!"names",RZ d)]) b=OP o:=λb o t e=>(ar t).trans<|cI (k6 b o t e) I
 let x7:upd (upd H6 d<|.lst<|l.map Rk) x (.ins Y.k g [(s!"name",Rk c),(s!"names",RZ d)]) x=OP (.ins Y.k g [(s!"name",Rk c),(s!"names",RZ d)]):=af;let G:d≠x:=λz=>by rw[z,x6]at I;cases I
 let j7:upd (upd H6 d<|.lst<|l.map Rk) x (.ins Y.k g [(s!"name",Rk c),(s!"names",RZ d)]) d=OP (.lst<|l.map Rk):=(ar G).trans af;generalize upd (upd H6 d<|.lst<|l.map Rk) x (.ins Y.k g [(s!"name",Rk c),(s!"names",RZ d)])=H7 at k7 x7 j7⊢;refine(dl,_,Z,.inl<|Rm<|k7 _ _ c9<|T _ _ a1,λj B=>(x,_,g,_,Z,cI x7 B,bl.k_Table,bl.na_Table_domains,(by show 2<1000;decide),?_,),);let g8:upd (upd H7 j<|.lst J) x (.ins Y.k g<|bx s!"domains" (RZ j) [(s!"name",Rk c),(s!"names",RZ d)])=upd (upd H7 j<|.lst J) x (.ins Y.k g [(s!"name",Rk c),(s!"names",RZ d),(s!"domains",RZ j)]):=by rw[pf2]
 rw[g8];clear g8;let k8:∀b o,b≠x->L b=OP o->upd (upd H7 j<|.lst J) x (.ins Y.k g [(s!"name",Rk c),(s!"names",RZ d),(s!"domains",RZ j)]) b=OP o:=λb o t e=>(ar t).trans<|cI (k7 b o t e) B
 let x8:upd (upd H7 j<|.lst J) x (.ins Y.k g [(s!"name",Rk c),(s!"names",RZ d),(s!"domains",RZ j)]) x=OP (.ins Y.k g [(s!"name",Rk c),(s!"names",RZ d),(s!"domains",RZ j)]):=af;let O:j≠x:=λz=>by rw[z,x7]at B;cases B
 let j8:upd (upd H7 j<|.lst J) x (.ins Y.k g [(s!"name",Rk c),(s!"names",RZ d),(s!"domains",RZ j)]) d=OP (.lst<|l.map Rk):=(ar G).trans<|cI j7 B;let i8:upd (upd H7 j<|.lst J) x (.ins Y.k g [(s!"name",Rk c),(s!"names",RZ d),(s!"domains",RZ j)]) j=OP (.lst J):=(ar O).trans af;generalize upd (upd H7 j<|.lst J) x (.ins Y.k g [(s!"name",Rk c),(s!"names",RZ d),(s!"domains",RZ j)])=H8 at k8 x8 j8 i8⊢;refine(x,_,g,_,Z,x8,bl.k_Table,bl.na_Table_outcome,(by show 3<1000;decide),?_,);let g9:upd H8 x (.ins Y.k g<|bx s!"outcome" (RZ m) [(s!"name",Rk c),(s!"names",RZ d),(s!"domains",RZ j)])=upd H8 x (.ins Y.k g [(s!"name",Rk c),(s!"names",RZ d),(s!"domains",RZ j),(s!"outcome",RZ m)]):=by rw[pf3]
 rw[g9];clear g9;let k9:∀b o,b≠x->L b=OP o->upd H8 x (.ins Y.k g [(s!"name",Rk c),(s!"names",RZ d),(s!"domains",RZ j),(s!"outcome",RZ m)]) b=OP o:=λb o t e=>(ar t).trans<|k8 b o t e
 let x9:upd H8 x (.ins Y.k g [(s!"name",Rk c),(s!"names",RZ d),(s!"domains",RZ j),(s!"outcome",RZ m)]) x=OP (.ins Y.k g [(s!"name",Rk c),(s!"names",RZ d),(s!"domains",RZ j),(s!"outcome",RZ m)]):=af;let j9:upd H8 x (.ins Y.k g [(s!"name",Rk c),(s!"names",RZ d),(s!"domains",RZ j),(s!"outcome",RZ m)]) d=OP (.lst<|l.map Rk):=(ar G).trans j8;let i9:upd H8 x (.ins Y.k g [(s!"name",Rk c),(s!"names",RZ d),(s!"domains",RZ j),(s!"outcome",RZ m)]) j=OP (.lst J):=(ar O).trans i8;generalize upd H8 x (.ins Y.k g [(s!"name",Rk c),(s!"names",RZ d),(s!"domains",RZ j),(s!"outcome",RZ m)])=H9 at k9 x9 j9 i9⊢;refine(x,_,g,_,Z,x9,bl.k_Table,bl.na_Table_way,(by show 4<1000;decide),?_,);let a5:upd H9 x (.ins Y.k g<|bx s!"way" (Rk C) [(s!"name",Rk c),(s!"names",RZ d),(s!"domains",RZ j),(s!"outcome",RZ m)])=upd H9 x (.ins Y.k g [(s!"name",Rk c),(s!"names",RZ d),(s!"domains",RZ j),(s!"outcome",RZ m),(s!"way",Rk C)]):=by rw[pf4]
 rw[a5];clear a5;let R:∀b o,b≠x->L b=OP o->upd H9 x (.ins Y.k g [(s!"name",Rk c),(s!"names",RZ d),(s!"domains",RZ j),(s!"outcome",RZ m),(s!"way",Rk C)]) b=OP o:=λb o t e=>(ar t).trans<|k9 b o t e
 let M:upd H9 x (.ins Y.k g [(s!"name",Rk c),(s!"names",RZ d),(s!"domains",RZ j),(s!"outcome",RZ m),(s!"way",Rk C)]) x=OP (.ins Y.k g [(s!"name",Rk c),(s!"names",RZ d),(s!"domains",RZ j),(s!"outcome",RZ m),(s!"way",Rk C)]):=af;let a3:upd H9 x (.ins Y.k g [(s!"name",Rk c),(s!"names",RZ d),(s!"domains",RZ j),(s!"outcome",RZ m),(s!"way",Rk C)]) d=OP (.lst<|l.map Rk):=(ar G).trans j9;let a4:upd H9 x (.ins Y.k g [(s!"name",Rk c),(s!"names",RZ d),(s!"domains",RZ j),(s!"outcome",RZ m),(s!"way",Rk C)]) j=OP (.lst J):=(ar O).trans i9;generalize upd H9 x (.ins Y.k g [(s!"name",Rk c),(s!"names",RZ d),(s!"domains",RZ j),(s!"outcome",RZ m),(s!"way",Rk C)])=H10 at R M a3 a4⊢;let d0:RL NT H10 rx a2:=RL.same R5<|hide_same R;let C5:=R _ _ a8<|T _ _ S
 refine(rl,Z,(_,Rm C5,),(let I_:La->Nat->O4 V->Rr:=λD i l v=>au H10 v/\v D=OP (.lst l)/\RL (Fr H10 D) v l (a2.take i);jD (xs:=rx) I_)
  (λD X=>(ai X _,af,aJ.nil,)) (λD i l v X _ h=>Rm<|h.1 _ _ C5) (λD i y l v X e h ts b4=>?_) (λD l v X h=>?_),)
 .let(u,eD,hz):=h;let(r,w_,rfl,ew,ce,cv,g1,_,g2,g3):=aJ.get (d0.same u) e;let hi:i<⇑rx:=(KO.mp e).1;let(t0,t1,rfl):∃t0 t1,ts=[t0,t1]:=by
   match ts,b4 with
   | [t0,t1],_=>exact(t0,t1,Z,)
  calc(r,_,Z,Rn g1,Z,_,_,Z,_,_,Z,Z,([↑ce,OP (.int w_.2)],Z,Z,),?_,);refine(ce,cv,w_,Z,g2,g3,by rw[(hok w_<|KP ew).len];lia,λr2 H2 t2 d3 lN=>?_,);let a6:=t2 _ _ eD;let d4:⇑l<=200:=by
   let:=hz.1;rw[hZ]at this;lia
  calc c0.mk hi a6 (aD ∅) ((u.trans t2).upd X,af,?_,);rw[take_snoc ew];exact RL.updN (aJ.snoc (hz.same t2)<|lN.wk λa h=>⟨u.free h,λz=>by rw[z,eD]at h;cases h⟩) Fr.out a6
 .let(u,eD,hz):=h;rw[hR.1,gs]at hz;refine(x,_,g,_,Z,u _ _ M,bl.k_Table,bl.na_Table_rows,(by show 5<1000;decide),?_,);let c4:upd v x (.ins Y.k g<|bx s!"rows" (RZ D) [(s!"name",Rk c),(s!"names",RZ d),(s!"domains",RZ j),(s!"outcome",RZ m),(s!"way",Rk C)])=upd v x (.ins Y.k g [(s!"name",Rk c),(s!"names",RZ d),(s!"domains",RZ j),(s!"outcome",RZ m),(s!"way",Rk C),(s!"rows",RZ D)]):=by rw[pf5]
  rw[c4];let b0:D≠x:=λz=>by rw[z,M]at X;cases X
  let Gv:∀a,H10 a=OQ->H a=none:=λa ha=>by
   cases hh:H a with
   |none=>rfl
   |some o =>
    let nx:a≠x:=λz=>by rw[z,M]at ha;cases ha
    rw[R a o nx (T _ _ hh)]at ha;cases ha
  let c6:H d=none:=by
   cases hh:H d with
   |none=>rfl
   |some o=>rw[k6 d o G (T _ _ hh)]at I;cases I
  let c5:H j=none:=by
   cases hh:H j with
   |none=>rfl
   |some o=>rw[k7 j o O (T _ _ hh)]at B;cases B
  calc q _ _ D l (λb o t e=>(ar t).trans<|u _ _<|R b o t<|T _ _ e) af Z Z Z Z (d,j,Z,Z,(ar G).trans<|u _ _ a3,(ar O).trans<|u _ _ a4,c6,c5,) (Gv D X) ((ar b0).trans eD) ?_;calc RL.same (RL.hideN (u _ _ M)<|aJ.mono hz λr w h=>h.wk λa ha=>Gv a ha.1)<|hide_same λb o t e=>(ar t).trans e
def Jt{k n:Nat}(F:Fun K "marks_of" "marks_of" Y66 f fd)(bl:Bl K mg Y)(jY:⟨⟩ k "marks_of" ["form","deep"] (eG K Y n))(jO:⟨⟩ k "gathered" ["lists"] (fK K Y)):() (k+1) f fd ["form","deep"] (eG K Y<|n+1):=by
 refine F.okA Z66 λi8 A g9 s H vs Q E hr h=>?_
 let(d,F_,v,ps,Ls,rfl,hn,h8,hv,e9,g0,d5,e0,q):=h
 refine(_,(aq (aX (aL cO (pv 1) ak<|aQ _)
  (aj<|aE<|aU ag)
  aN)
  (aH (aG (i:=2) Z66.nd Z (bd Z)<|aU<|ae (d7 (qO<|gf vp (pv 0) (i6 ak) i5) (dJ (N:=["low","high","beneath"]) (k:=3) Z Z (~~~0) (~~~0)<|~~~0) Z (λ_ _ _ _=>(jx (K:=K) (n:=3) Z Z<|aI (aC (i:=0) (show(["low","high","beneath"]:O4 Str).Nodup by decide+kernel) Z (bd Z) (lf Z)) (aI (aC (i:=1) (show(["low","high","beneath"]:O4 Str).Nodup by decide+kernel) Z (bd Z) (lf Z)) (aI (aC (i:=2) (show(["low","high","beneath"]:O4 Str).Nodup by decide+kernel) Z (bd Z) (lf Z)) bF)))) (λ_ _ _ _=>bG) (λ_ _ _ _=>(pv 0))) ag)
  (aH (tN (i:=3) Z66.nd Z (bd Z) (qO<|pv 0) (d9 (N:=["low","high","beneath","deep"]) (k:=3) (fr:=[1]) (cl:=[("deep",↥s+1)]) Z Z (~~~0) (~~~0) Z Z (gx.mpr (Z,iU _,)) Z) Z (λ_ _ _ _=>(jx (K:=K) (n:=3) Z Z<|aI (aC (i:=0) (show(["low","high","beneath","deep"]:O4 Str).Nodup by decide+kernel) Z (bd Z) (lf Z)) (aI (aC (i:=1) (show(["low","high","beneath","deep"]:O4 Str).Nodup by decide+kernel) Z (bd Z) (lf Z)) (aI (aC (i:=2) (show(["low","high","beneath","deep"]:O4 Str).Nodup by decide+kernel) Z (bd Z) (lf Z)) bF)))) (λ_ _ _ _=>bG) (λ_ _ _ _=>(aM jY hr Z<|ae (pv 2)<|ae (ay b7 (pv 3) ak) ag)))
  (aH (aW cr Z (bB Z bl.range_<|ae (ay b7 (pv 1) ak) ag) (aC (i:=4) Z66.nd Z<|lf Z)
  (aj<|aV<|dB PySem.F.plainAttrs_list PySem.F.slot_list_append PySem.F.type_list_append bg (pv 2)<|ae (aM jO hr Z<|ae (cZ (aR<|pv 3) (bM (N:=["lists","column"]) (fr:=[4]) (cl:=[("column",↥s+1+1)]) Z Z (~~~0) (~~~0) Z (~~~0) Z Z Z (gx.mpr (Z,iU _,)) Z) Z (λ_ _ _ _=>bG)<|λ_ _ _ _=>(aF (dI (K:=K) Z) (pv 0) (pv 1)<|λ_ _=>Z)) ag) ag))
  (aj<|aE<|pv 2))))),?_,)
 dsimp only[cw,Rp,Ro];show(let r4:TS:=_;let r3:TS:=cm _ r4;let r2:TS:=cm _ r3;let r1:TS:=cm _ r2;bh _ r1 _ _ _);intro _ _ _ _;cases d with
 |zero =>
  refine(Z,_,Z,hV Z ((by show 0<=Lc;decide),λl hl=>?_,),);exact q l [] [] _ (ai hl _) hl (λr hr=>by cases hr) (af,(Z,λj y e=>by simp at e,),Z,λc y e=>by simp at e,)
 |succ d =>
  let(I,rfl):∃f:O4 (T3a<|Fm SI2 d),(f:Fm SI2 (d+1))=F_:=(F_,Z,);let(p,r,rfl,f2,f8,h6,eN):ShS (fT d) I ps:=e9;let(e4,Ju):BdS (α:=Fm SI2 d) 30 (BdG d) I:=g0;let(a,xs,rfl,ha,hG):∃(a:La)(xs:O4 V),v=.ref a/\H a=OP (.tup xs)/\FmL (FmV (K:=K) LVd H d) H I xs:=hv;let d3:=hG.1;let i1:I.length<=64:=∅
  refine(Z,_,Z,cD (λz=>by have:=V.int.inj z;lia) ?_,);refine(let I_:Rq:=λa0 B=>au H B/\∃l r0:La,H l=OQ/\H r0=OQ/\r0≠l/\B l=OP (.lst [.ref r0])/\B r0=OP (.lst ((I.tail.map (·.1)).map RV))/\a0=[↑a,OP<|.int ((d+1:Nat):Int),↑l,OQ,OQ];(I_,?_,?_,))
  .let(x0,b0,e3):∃x0 b0,xs=x0 :: b0:=by
    cases xs with
    |nil=>exact OY (lq d3.symm) f2
    |cons x0 b0=>exact(x0,b0,Z,)
   let yT:jg xs (OP 1) OQ=xs.tail:=by rw[e3];exact uf _ _
   refine(_,Z,a,xs,Z,Rn ha,(λz=>OY z.1 (by rw[e3];simp[HT.sIx])),λX g1=>?_,);rw[yT];let u1:au H (upd H X<|.tup xs.tail):=ai g1 _;let e1:upd H X (.tup xs.tail) X=OP (.tup xs.tail):=af;generalize upd H X (.tup xs.tail)=H0 at u1 e1⊢
   refine(X,Z,(_,Rn e1,),(let I_:La->Nat->O4 V->Rr:=λD i zs B=>au H0 B/\B D=OP (.lst zs)/\zs=((I.tail.take i).map (·.1)).map RV;i7 (xs:=xs.tail) I_)
    (λD L=>(ai L _,af,Z,)) (λD i zs B L _ h=>Rn<|h.1 _ _ e1) (λD i x zs B L e h ss c1=>?_) (λD zs B L h=>?_),)
   .let(sm,O,rfl):=h;let hi:i<⇑xs.tail:=(KO.mp e).1;let e':xs[i+1]?=OP x:=by rw[qI]at e;exact e
    let(t,J):∃t,I[i+1]?=OP t:=(_,KN (by have:=(KO.mp e').1;lia),);let g4:I.tail[i]?=OP t:=by rw[qI];exact J
    let(rr,u,ex,er,hu):=hG.2 (i+1) t J;rw[e']at ex;cases ex;let(t0,t1,t2,rfl):∃t0 t1 t2,ss=[t0,t1,t2]:=by
     match ss,c1 with
     | [t0,t1,t2],_=>exact(t0,t1,t2,Z,)
    calc(rr,_,Z,Rn<|sm _ _<|u1 _ _ er,Z,_,_,Z,_,_,Z,_,_,Z,Z,([OP (.int t.1),OP<|.int t.2.1,OP u],Z,Z,),?_,);refine(c0.mk hi O (aD (by rw[aa,aa,hZ];rw[uP]at hi;lia)) (sm.upd L,af,?_,));rw[take_snoc g4,fq,fq];rfl
   .let(sm,O,rfl):=h;rw[show ⇑xs.tail=I.tail.length by rw[uP,uP,d3],gs]at O;refine((by show 1<=Lc;decide),λl hl=>?_,);let s2:=u1.trans sm;exact(s2.trans<|ai hl _,l,D,s2.free hl,u1.free L,(λz=>by rw[z,hl]at O;cases O),af,(ai hl _) _ _ O,Z,)
  rintro h3 H1 ⟨s1,l,r0,hl,f1,e5,el,g5,rfl⟩;let d4:=s1 _ _ ha;refine(let I_:Rq:=λa0 B=>au H1 B/\∃(fu:La)(zs:O4 V),B fu=OP (.lst zs)/\⇑zs=I.length/\H1 fu=OQ/\(∀(j:Nat)(t:T3a (Fm SI2 d)),I[j]?=OP t->∃(r:La)(C:O4 La)(g:O4 (O4 Int)),zs[j]?=↑r/\H1 r=OQ/\(∀q∈C,H1 q=OQ)/\um d t.2.2 B r C g)/\a0=[↑a,OP<|.int ((d+1:Nat):Int),↑l,↑fu,OQ];(I_,?_,?_,))
  .refine⟨a,Z,(_,Rn d4,),(let I_:La->Nat->O4 V->Rr:=λD i zs B=>au H1 B/\B D=OP (.lst zs)/\⇑zs=i/\∀(j:Nat)(t:T3a (Fm SI2 d)),j<i->I[j]?=OP t->∃(r:La)(C:O4 La)(g:O4 (O4 Int)),zs[j]?=↑r/\H1 r=OQ/\(∀q∈C,H1 q=OQ)/\r≠D/\(∀q∈C,q≠D)/\um d t.2.2 B r C g;i7 (xs:=xs) I_)
    (λD L=>(ai L _,af,Z,λj t hj=>OY hj<|EB j,)) (λD i zs B L _ h=>Rn<|h.1 _ _ d4) (λD i x zs B L e h ss c1=>?_) (λD zs B L h=>?_)⟩
   .let(sm,O,b1,hz):=h;let hi:i<⇑xs:=(KO.mp e).1;let(t,J):∃t,I[i]?=OP t:=(_,KN ∅,);let(rr,u,ex,er,hu):=hG.2 i t J;rw[e]at ex;cases ex;let(t0,t1,t2,rfl):∃t0 t1 t2,ss=[t0,t1,t2]:=by
     match ss,c1 with
     | [t0,t1,t2],_=>exact(t0,t1,t2,Z,)
    let c8:=s1.trans sm;let tm:=KP J;calc(rr,_,Z,Rn<|c8 _ _ er,Z,_,_,Z,_,_,Z,_,_,Z,Z,([OP (.int t.1),OP<|.int t.2.1,OP u],Z,Z,),?_,);refine(_,_,Z,Z,d,t.2.2,u,r,Ls.tail,by simp,∅,∅,FmV.mono c8.tups hu,eN t tm,Ju t tm,λc m hm=>?_,λl hl=>e0 l<|QW hl,λl2 c9 Jv H3 s3 c5 Gw g2=>?_,)
    .let(ll,e1,e2):=d5 (c+1) m (t,tm,hm,);exact(ll,by rw[qI];exact e1,e2,)
    .let nD:l2≠D:=λz=>by rw[z,O]at c5;cases c5
     have d1:∀q∈c9,q≠D:=λq M z=>by have h0:=(Gw q M).1;rw[z,O]at h0;cases h0
     refine c0.mk hi (s3 _ _ O) (aD ∅) ((sm.trans s3).upd L,af,by rw[br,b1];rfl,λj t' hj c7=>?_,);by_cases f3:j<i
     .let(r,C,g,a1,X,a3,a4,a5,a6):=hz j t' f3 c7;refine(r,C,g,by rw[fo ∅];exact a1,X,a3,a4,a5,a6.keep λb o W eb=>?_,);let nb:b≠D:=by
       rcases W with rfl|W
       .exact a4
       .exact a5 b W
      exact(ar nb).trans (s3 _ _ eb)
     .let f4:j=i:=∅
      subst f4;rw[J]at c7;cases c7;refine(l2,c9,Jv,by rw[←b1];simp,sm.free c5,λq M=>sm.free (Gw q M).1,nD,d1,g2.keep λb o W eb=>?_,);let nb:b≠D:=by
       rcases W with rfl|W
       .exact nD
       .exact d1 b W
      exact(ar nb).trans eb
   .let(sm,O,b1,hz):=h;calc(sm,D,zs,O,∅,L,λj t J=>?_,Z,);let(r,C,g,a1,X,a3,a4,a5,a6):=hz j t (by have:=(KO.mp J).1;lia) J;exact(r,C,g,a1,X,a3,a6,)
  rintro h2 H2 ⟨s2,fu,zs,g8,b1,f5,hz,rfl⟩;let b6:∀{b:La},H1 b=OQ->b≠l:=λe z=>by rw[z,el]at e;cases e
  refine(let I_:Rq:=λa0 B=>(∀b o,b≠l->H2 b=OP o->B b=OP o)/\∃(C:O4 La)(g:O4 (O4 Int))(c4:Option V),B l=OP (.lst<|C.map RZ)/\(∀q∈C,q≠l/\H q=OQ)/\MLs B C g/\⇑g=d+1/\(∀(c:Nat)(y:O4 Int),g[c]?=OP y->y.Pairwise (· < ·)/\∀m,m∈y↔mH (d+1) (I:Fm SI2 (d+1)) c m)/\a0=[↑a,OP<|.int ((d+1:Nat):Int),↑l,↑fu,c4];(I_,?_,?_,))
  .refine⟨_,_,Z,Z,_,Z,(by show -(2^62)<=((d+1:Nat):Int)-1;lia),(by show((d+1:Nat):Int)-1<2^62;lia),(let I_:Nat->Rq:=λi σ B=>(∀b o,b≠l->H2 b=OP o->B b=OP o)/\∃(C:O4 La)(g:O4 (O4 Int))(c4:Option V),B l=OP (.lst<|C.map RZ)/\(∀q∈C,q≠l/\H q=OQ)/\MLs B C g/\⇑g=i+1/\(∀(c:Nat)(y:O4 Int),g[c]?=OP y->y.Pairwise (· < ·)/\∀m,m∈y↔mH (d+1) (I:Fm SI2 (d+1)) c m)/\σ=[↑a,OP<|.int ((d+1:Nat):Int),↑l,↑fu,c4];dA I_)
    (λb o _ e=>e,[r0],[I.tail.map (·.1)],OQ,s2 _ _ el,(λq M=>by rw[dV.mp M];exact(e5,f1,)),(Z,λj y e=>?_,),Z,λc y e=>?_,Z,) (λi σ B hi h=>?_) (λσ B h=>?_)⟩
   .match j,e with
    |0,e=>cases e;exact(r0,Z,s2 _ _ g5,)
    |j+1,e=>simp at e
   .match c,e with
    |0,e =>
     cases e;calc(uo f8,λm=>?_,);show m∈I.tail.map (·.1)↔D7 I m;exact dr
    |c+1,e=>simp at e
   .let(kp,C,g,c4,T,R,hM,S,a8,rfl):=h;let h7:i<d:=∅
    let i2:I.length<=30:=e4;let Gx:=kp _ _ (b6 f5) g8;let e8:∀(j:Nat)(t:T3a (Fm SI2 d)),I[j]?=OP t->∃(r:La)(C:O4 La)(g:O4 (O4 Int)),zs[j]?=↑r/\um d t.2.2 B r C g:=λj t J=>by
     let(r,C,g,a1,X,a3,a4):=hz j t J;calc(r,C,g,a1,a4.keep λb o W eb=>kp b o ?_ eb,);rcases W with rfl|W
     .exact b6 X
     .exact b6<|a3 b W
    refine⟨.inl (Z,_,Rm T,),fu,Z,(_,Rm Gx,),(let I_:La->Nat->O4 V->Rr:=λD j ws H3=>au B H3/\H3 D=OP (.lst ws)/\∃(as:O4 La)(G:O4 (O4 Int)),ws=as.map RZ/\(∀q∈as,q≠D)/\MLs H3 as G/\G.length=j/\∀(e:Nat)(t:T3a (Fm SI2 d))(y:O4 Int),I[e]?=OP t->G[e]?=OP y->y.Pairwise (· < ·)/\∀m,m∈y↔mH d t.2.2 i m;dS (xs:=zs) I_)
     (λD L=>(ai L _,af,[],[],Z,(λq M=>by cases M),(Z,λj y e=>by simp at e,),Z,λe t y _ h=>by simp at h,)) (λD j ws H3 L _ h=>Rm<|h.1 _ _ Gx) (λD j x ws H3 L e h=>?_) (λD ws H3 L h=>?_)⟩
    .let(s3,O,as,G,rfl,Gy,b4,Bf,a7):=h;let hj:j<⇑zs:=(KO.mp e).1;let(t,J):∃t,I[j]?=OP t:=(_,KN ∅,);let(r,h4,wA,a1,X,a3,a4,a5):=e8 j t J;rw[e]at a1;cases a1;let(y,em):∃y,wA[i]?=OP y:=(_,KN ∅,);let(q',g6,c2):=a3.2 i y em;let e6:q'≠D:=λz=>by rw[z,L]at c2;cases c2
     have h9:⇑as=j:=by rw[b4.1];exact Bf
     let(m1,m2):=xu (zs:=as.map RZ++[.ref q']) b4 Gy (au.refl H3) (s3 _ _ c2) e6;refine(r,_,_,_,Z,Z,Rm<|s3 _ _ X,jj<|B4 g6,c0.mk hj O (aD (by rw[aa];lia)) (s3.upd L,af,as++[q'],G++[y],by rw[fq];rfl,m2,m1,by rw[br,Bf];rfl,λe2 t2 e7 c6 a9=>?_,),);by_cases he:e2<G.length
     .rw[fo he]at a9;exact a7 e2 t2 e7 c6 a9
     .let f7:e2=G.length:=by
       have:=(KO.mp a9).1;simp at this;lia
      subst f7;simp at a9;subst a9;rw[Bf,J]at c6;cases c6;exact a5 i y em
    .let(s3,O,as,G,rfl,Gy,b4,Bf,a7):=h;let d2:∀x,x∈G.flatten↔mH (d+1) (I:Fm SI2 (d+1)) (i+1) x:=λx=>by
      rw[zN];constructor
      .rintro⟨y,b3,hx⟩;let(e,ee):=ik b3;let(t,J):∃t,I[e]?=OP t:=(_,KN (by have:=(KO.mp ee).1;lia),);exact(t,KP J,((a7 e t y J ee).2 x).mp hx,)
      .rintro⟨t,ht,hx⟩;let(e,J):=ik ht;let(y,ee):∃y,G[e]?=OP y:=(_,KN (by have:=(KO.mp J).1;lia),);exact(y,KP ee,((a7 e t y J ee).2 x).mpr hx,)
     have Gz:∀x∈G.flatten,x∈(Ls[i+1]?).getD []:=λx hx=>by
      let(ll,e1,e2):=d5 (i+1) x<|(d2 x).mp hx;rw[e1];exact e2
     have Jw:⇑((Ls[i+1]?).getD [])<=29:=by
      cases e:Ls[i+1]? with
      |none=>exact BG _
      |some ll=>exact e0 ll (KP e)
     have GA:∀y∈G,⇑y<=29:=λy b3=>by
      let(e,ee):=ik b3;let(t,J):∃t,I[e]?=OP t:=(_,KN (by have:=(KO.mp ee).1;lia),);exact BK (bH ((a7 e t y J ee).1.imp λh=>P0 h) λx hx=>Gz x<|zN.mpr (y,b3,hx,)) Jw
     have f6:G.flatten.length<=1000:=BK (xw GA) (by rw[Bf];lia);calc(D,as,G,_,Z,O,b4,f6,∅,Gz,λl3 cs H4 s4 c3 g7 pw mem=>?_,);let b5:=s3.trans s4;let d0:l3≠l:=λz=>by rw[z,s3 _ _ T]at c3;cases c3
     have h5:C.length=i+1:=by rw[hM.1];exact S
     refine(l,_,_,Z,Z,b5 _ _ T,aD (by rw[aa];lia),?_,);let(m1,m2):=xu (zs:=C.map RZ++[.ref l3]) hM (λq M=>(R q M).1) b5 g7 d0;let g3:H l3=none:=by
      have f0:B l3=none:=s3.free c3;cases e:H l3 with
      |none=>rfl
      |some o=>rw[kp l3 o d0 (s2 _ _<|s1 _ _ e)]at f0;cases f0
     refine(λb o W e=>(ar W).trans<|b5 _ _<|kp b o W e,C++[l3],g++[cs],_,by rw[fq];exact af,λq M=>(m2 q M,?_,),m1,by rw[br,S];rfl,λc y e=>?_,Z,)
     .rcases gw.mp M with M|M
      .exact(R q M).2
      .rw[dV.mp M];exact g3
     .by_cases hc:c<⇑g
      .rw[fo hc]at e;exact a8 c y e
      .let f9:c=⇑g:=by
        have:=(KO.mp e).1;simp at this;lia
       subst f9;simp at e;subst e;rw[S];exact(pw,λm=>(mem m).trans<|d2 m,)
   .let(kp,C,g,c4,T,R,hM,S,a8,rfl):=h;exact(kp,C,g,c4,T,R,hM,by rw[S];lia,a8,Z,)
  rintro h1 H3 ⟨kp,C,g,c4,T,R,hM,S,a8,rfl⟩;calc(q l C g H3 (λb o e=>kp b o (λz=>by rw[z,hl]at e;cases e) (s2 _ _<|s1 _ _ e)) hl (λq M=>((R q M).2,(R q M).1,)) (T,hM,S,a8,))
def Jx(F:Fun K "_law_table" "_law_table" Y58 f fd)(bl:Bl K mg Y)(C:bA CX0 P w K mg base 6 "Numbers" Y.i ["self","low","high"] (bP K Y))(dq:⟨⟩ 7 "_law_worded" ["script"] (dn K Y))(b1:bA CX0 P w K mg base 6 "Table" Y.k ["self","name","names","domains","outcome","way","rows"] (cz K Y))(a3:bA CX0 P w K mg base 6 "Words" Y.j ["self","words"] (cy K Y))(jZ:⟨⟩ 7 "_law_way" ["script"] (gO K Y))(cb:⟨⟩ 7 "_law_at" ["script","k"] (dE K Y))(sG:⟨⟩ 7 "_law_spans" ["bits","fence"] (gK K Y)):() 8 f fd ["script","fences","rows","outs"] (gP K Y):=by
 refine F.okA Z58 λq1 A m3 s H vs Q E hr h=>?_
 let(a,pl,rl,ol,ns,xs,c,os,rx,c1,rfl,hS,a5,d3,hg,j8,j7,g5,f9,g4,f4,p3,k8,q):=h
 refine(_,(aq (aG (i:=4) Z58.nd Z (bd Z)<|aU ag)
  (aH (aW cr Z (bB Z bl.range_<|ae (aw az Z bl.len_ OO<|ae (pv 1) ag) ag) (aC (i:=5) Z58.nd Z<|bd Z)
  (aj (aX (aL cO (ay bu (aM cb hr Z<|ae (pv 0)<|ae (ay bw ak<|pv 5) ag) ak) ak<|aQ _)
  (aj<|aV<|dB PySem.F.plainAttrs_list PySem.F.slot_list_append PySem.F.type_list_append bg (pv 4)<|ae (sZ a3 bZ hr Z<|ae (gf qS (aU<|ae aP<|ae aP<|ae aP<|ae aP<|ae aP<|ae aP<|ae aP ag) i5<|i6<|aF aO (aF aO (pv 1) (pv 5)<|λ_ _=>Z) (km gB ak)<|λ_ _=>Z) ag) ag)
  (aj<|aV<|dB PySem.F.plainAttrs_list PySem.F.slot_list_append PySem.F.type_list_append bg (pv 4)<|ae (sZ C bZ hr Z<|ae (aF aO (aF aO (pv 1) (pv 5)<|λ_ _=>Z) ak<|λ_ _=>Z)<|ae (ay b7 (aF aO (aF aO (pv 1) (pv 5)<|λ_ _=>Z) (km gB ak)<|λ_ _=>Z) ak) ag) ag))))
  (aH (aG (i:=6) Z58.nd Z (bd Z)<|aU ag)
  (aH (aW cr Z (aR<|pv 2) (eK Z<|aI (aC (i:=7) Z58.nd Z<|lf Z)<|aI (aC (i:=8) Z58.nd Z<|bd Z) bF)
  (aj<|aV<|dB PySem.F.plainAttrs_list PySem.F.slot_list_append PySem.F.type_list_append bg (pv 6)<|ae (bf<|ae (cZ (bB Z bl.range_<|ae (aw az Z bl.len_ OO<|ae (pv 1) ag) ag) (bM (N:=["k","fences","bits"]) (fr:=[1,7]) (cl:=[("fences",↥s+1),("bits",↥s+1+1)]) Z Z (~~~0) (~~~0) Z (~~~0) Z Z Z (gx.mpr (Z,gx.mpr (Z,iU _,),)) Z) Z (λ_ _ _ _=>bG)<|λ_ _ _ _=>(aM sG hr Z<|ae (aF (dI (K:=K) Z) (pv 2) (pv 0)<|λ_ _=>Z)<|ae (aF (dI (K:=K) Z) (pv 1) (pv 0)<|λ_ _=>Z) ag))<|ae (aF aO (pv 3) (pv 8)<|λ_ _=>Z) ag) ag))
  (aH (aG (i:=9) Z58.nd Z (bd Z)<|sZ C bZ hr Z<|ae (ay b7 (aF aO (pv 3) ak<|λ_ _=>Z) ak)<|ae (ay bw (aF aO (pv 3) ak<|λ_ _=>Z)<|ay cB ak ak) ag)
  (aH (aX (gA<|aM dq hr Z<|ae (pv 0) ag)
  (aj<|aG (i:=9) Z58.nd Z (bd Z)<|sZ a3 bZ hr Z<|ae (aU<|ae aP<|ae aP<|ae aP ag) ag)
  aN)
  (aj<|aE<|sZ b1 bZ hr Z<|ae aP<|ae (gf qS (aU<|ae aP<|ae aP<|ae aP<|ae aP ag) i5<|i6<|aw az Z bl.len_ OO<|ae (pv 1) ag)<|ae (pv 4)<|ae (pv 9)<|ae (aM jZ hr Z<|ae (pv 0) ag)<|ae (pv 6) ag))))))),?_,)
 dsimp only[cw,Rp,Ro];show(let r6:TS:=_;let r5:TS:=cm _ r6;let r4:TS:=cm _ r5;let r3:TS:=cm _ r4;let r2:TS:=cm _ r3;let r1:TS:=cm _ r2;bh _ r1 _ _ _);intro _ _ _ _ _ _;let e8:⇑xs=⇑c:=d3.1;let(bs,a9):∃bs,bs=c.map λl=>(loP l,hiP l):=(_,Z,)
 let k9:⇑bs=⇑c:=by rw[a9];simp
 refine((by show 0<=Lc;decide),λG GB=>?_,);let s0:au H (upd H G<|.lst []):=ai GB _;let e0:upd H G (.lst []) G=OP (.lst []):=af;generalize upd H G (.lst [])=H0 at s0 e0⊢;refine(let I_:Rq:=λB d=>au H d/\∃(T:O4 V)(c5:Option V),d G=OP (.lst T)/\aJ T bs (Dom Y.i Y.j d)/\B=[OP (RZ a),↑pl,↑rl,↑ol,↑G,c5,OQ,OQ,OQ,OQ];(I_,?_,?_,))
 .refine⟨pl,_,Z,.inl<|Rm<|s0 _ _ a5,_,Z,(by show -(2^62)<=((⇑xs:Nat):Int);lia),(by show((⇑xs:Nat):Int)<2^62;lia),(let I_:Nat->Rq:=λj B d=>au H d/\∃(T:O4 V)(c5:Option V),d G=OP (.lst T)/\aJ T (bs.take j) (Dom Y.i Y.j d)/\B=[OP (RZ a),↑pl,↑rl,↑ol,↑G,c5,OQ,OQ,OQ,OQ];dA I_ (s0,[],_,e0,aJ.nil,Z,) (λj B d hj hh=>?_) (λB d hh=>?_))⟩
  .let(sm,T,c5,S,a0,rfl):=hh;let d5:j<⇑c:=∅
   let(l,R):∃l,c[j]?=OP l:=(_,KN d5,);let(r,er,f5):=d3.2 j l R;let eb:bs[j]?=OP (loP l,hiP l):=by rw[a9,dy,R];rfl
   let hp:=hg.pts l<|KP R;let h2:=hp.two;let e7:atI (l.map RV) (-1)=OP (.int<|hiP l+1):=by
    unfold atI;rw[nW (by rw[aa];lia),aa];exact get_map hp.last
   let KH:T.length<=4:=by have:=a0.1;rw[hZ]at this;lia
   let g0:∀(x:La)(W:Hp),au d W->Dom Y.i Y.j W x (loP l,hiP l)->au H (upd W G<|.lst<|T++[.ref x])/\∃(g9:O4 V)(c5:Option V),upd W G (.lst<|T++[.ref x]) G=OP (.lst g9)/\aJ g9 (bs.take<|j+1) (Dom Y.i Y.j<|upd W G<|.lst<|T++[.ref x])/\[OP (RZ a),↑pl,↑rl,↑ol,↑G,OP<|RV<|0+(j:Int),OQ,OQ,OQ,OQ]=[OP (RZ a),↑pl,↑rl,↑ol,↑G,c5,OQ,OQ,OQ,OQ]:=λx W s6 J=>by
    let l5:=s6 _ _ S;calc((sm.trans s6).upd GB,T++[.ref x],_,af,?_,Z,);rw[take_snoc eb];exact aJ.mono (aJ.snoc (aJ.mono a0 λ_ _ p=>p.same s6) J) λ_ _ p=>p.upd l5
   refine(_,_,Z,Z,a,ns,_,Z,sm.seq hS,(by show 0<=1+(0+(j:Int));lia),_,_,Z,Z,(by show(0:Int)<5;decide),Z,_,Z,?_,);refine ck (λg=>?_)<|λg=>?_
   .let(m,m1,m7,rfl):=hg.wrd j l R<|xY g;refine(.inl (Z,_,Rm S,),(by show 7<=Lc;decide),λw1 d0=>?_,);let u1:=ai d0<|.lst<|dk.map Rk;let L:upd d w1 (.lst<|dk.map Rk) w1=OP (.lst<|dk.map Rk):=af;let ee:upd d w1 (.lst [.str s!"a",.str s!"b",.str s!"c",.str s!"d",.str s!"e",.str s!"f",.str s!"g"])=upd d w1 (.lst<|dk.map Rk):=rfl;rw[ee];clear ee;generalize upd d w1 (.lst<|dk.map Rk)=H2 at u1 L⊢;let s2:=sm.trans u1;calc(pl,_,_,_,Z,Z,Rm<|s2 _ _ a5,jj er,_,Z,r,_,_,_,Z,Z,Rm<|s2 _ _ f5,e7,_,Z,w1,_,Z,Rm L,λnn a8=>?_,);let EC:jg (dk.map Rk) OQ (OP<|hiP (dM<|m+1)+1)=(dk.take m).map Rk:=by
     rw[qz,show(m:Int)-1+1=(m:Int) by lia];exact Cn m m7
    rw[EC];let u3:=ai a8<|.lst<|(dk.take m).map Rk;let a1:upd H2 nn (.lst<|(dk.take m).map Rk) nn=OP (.lst<|(dk.take m).map Rk):=af;generalize upd H2 nn (.lst<|(dk.take m).map Rk)=H3 at u3 a1⊢;refine λx v J O b5=>?_
    let s5:au H3 (upd (upd H3 v<|.own x) x<|.ins Y.j v []):=(ai O _).upd J;calc(x,v,nn,dk.take m,Z,af,s5 _ _ a1,Bc m m1 m7,λW l6 k1 k2 k3 k4=>(Z,?_,),);let s6:au d W:=(u1.trans u3).trans λb u e=>k1 b u (bc e J)<|s5 _ _ e
    refine(G,T,_,Z,Z,s6 _ _ S,aD ∅,g0 x _ s6 (Y.j,.inr Z,v,_,k2,?_,?_,Z,),)
    .rw[yF m1];rfl
    .rw[qz];show OP (RV<|hiW<|dk.take m)=_;unfold hiW;rw[xK m7]
   .let l8:l[0]?=OP (loP l):=by
     unfold loP;rw[ab,KN ∅];rfl
    let j2:atI (l.map RV) 0=OP (.int<|loP l):=bN (j:=0)<|get_map l8;let f6:=sm _ _ f5;refine(.inl (Z,_,Rm S,),pl,_,_,_,Z,Z,Rm<|sm _ _ a5,jj er,r,_,_,_,Z,Z,Rm f6,j2,pl,_,_,_,Z,Z,Rm<|sm _ _ a5,jj er,_,Z,r,_,_,_,Z,Z,Rm f6,e7,_,_,Z,Z,λx v J O b5=>(x,v,loP l,hiP l,?_,af,hp.le,Z,?_,),)
    .show[RZ x,RV<|loP l,RV (hiP l+1-1)]=_;rw[show hiP l+1-1=hiP l by lia]
    let s6:au d (mkd Y.i (upd (upd d v<|.own x) x<|.ins Y.i v []) x v (loP l)<|hiP l):=by
     unfold mkd;exact(((ai O _).upd J).upd J).upd J
    exact(G,T,_,Z,Z,s6 _ _ S,aD ∅,g0 x _ s6 (Y.i,.inl Z,v,_,af,Z,Z,Z,),)
  .let(sm,T,c5,S,a0,rfl):=hh;rw[Kn,e8,←k9,gs]at a0;exact(sm,T,c5,S,a0,Z,)
 rintro n4 H1 ⟨s1,T,c5,S,a0,rfl⟩;refine(let I_:Rq:=λB d=>∃I:La,H1 I=OQ/\d=upd H1 I (.lst [])/\B=[OP (RZ a),↑pl,↑rl,↑ol,↑G,c5,↑I,OQ,OQ,OQ];(I_,((by show 0<=Lc;decide),λI b6=>(I,b6,Z,Z,),),?_,));rintro n3 q3 ⟨I,b6,rfl,rfl⟩;let u3:=ai b6<|.lst [];let g6:upd H1 I (.lst []) I=OP (.lst []):=af;generalize upd H1 I (.lst [])=H3 at u3 g6⊢;let h4:=s1.trans u3;let(ow,b4):∃ow,ow=oW ns os:=(_,Z,);let(ED,GC):=Gd f9;rw[←b4]at ED GC q;let(x0,x1,x2,sr,p7,p4,o5):=id f9;let KI:⇑rx=⇑c1:=f4.1;refine(let I_:Rq:=λB d=>au H1 d/\∃(mx:O4 V)(n:O4 Rw)(c7 c8:Option V),d I=OP (.lst mx)/\RL NT d mx n/\⇑n=⇑c1/\(∀w∈n,mw bs (o0 ow,o4 ow) w)/\(∀(k:Nat)(b:O4 Int×Int)(x:Rw),(bmC os c1)[k]?=OP b->n[k]?=OP x->GrR c b x)/\B=[OP (RZ a),↑pl,↑rl,↑ol,↑G,c5,↑I,c7,c8,OQ];(I_,?_,?_,))
 .refine⟨rl,Z,(_,Rm<|h4 _ _ g4,),(let I_:Nat->Rq:=λi σ d=>au H1 d/\∃(mx:O4 V)(n:O4 Rw)(c7 c8:Option V),d I=OP (.lst mx)/\RL (Fr H1 I) d mx n/\⇑n=i/\(∀w∈n,mw bs (o0 ow,o4 ow) w)/\(∀(k:Nat)(b:O4 Int×Int)(x:Rw),(bmC os c1)[k]?=OP b->n[k]?=OP x->GrR c b x)/\σ=[OP (RZ a),↑pl,↑rl,↑ol,↑G,c5,↑I,c7,c8,OQ];aY (xs:=rx) I_ (u3,[],[],_,_,g6,aJ.nil,Z,(λw h=>by cases h),(λk b x _ e=>by simp at e),Z,) (λi σ d _ hh=>Rm<|(s1.trans hh.1) _ _ g4) (λi y σ d e hh=>?_) (λσ d hh=>?_))⟩
  .let(sm,mx,n,c7,c8,em,hR,M,hok,b0,rfl):=hh;let sA:=s1.trans sm;let(r,b,rfl,eb,m2,e1,e2):=aJ.get f4 e;let hi:i<⇑rx:=(KO.mp e).1;let(p2,p1,KJ,l2):=k8 b<|KP eb;let l7:=sA _ _ e1;let q0:=sA _ _ e2;let Jy:=sA _ _ a5;calc(r,_,Z,Rn l7,Z,_,_,Z,_,_,Z,Z,?_,);refine(.inl (Z,_,Rm em,),pl,_,Z,.inl<|Rm Jy,_,Z,(by show -(2^62)<=((⇑xs:Nat):Int);lia),(by show((⇑xs:Nat):Int)<2^62;lia),(let I_:La->Nat->O4 V->Rr:=λD j zs a2=>au d a2/\a2 D=OP (.lst zs)/\∃o:O4 Prs,CL (Fr d D) a2 zs o/\⇑o=j/\(∀(i:Nat)(qs:Prs)(b:Int×Int),o[i]?=OP qs->bs[i]?=OP b->∀p∈qs,b.1<=p.1/\p.2<=b.2)/\(∀(i:Nat)(qs:Prs)(l:O4 Int)(m:Int),o[i]?=OP qs->c[i]?=OP l->b.1[i]?=OP m->SpG l m (⇑l-1) qs);cQ I_ (λD hD=>(ai hD _,af,[],aJ.nil,Z,(λi qs b e=>by simp at e),(λi qs l m e=>by simp at e),)) (λD j zs a2 hD hj hh=>?_) (λD zs a2 hD hh=>?_)),)
   .let(a4,eD,o,hz,a6,d1,d2):=hh;let d5:j<⇑c:=∅
    let(l,R):∃l,c[j]?=OP l:=(_,KN d5,);let(rp,l4,j6):=d3.2 j l R;let sB:=sA.trans a4;let l1:atI (b.1.map RV) (0+(j:Int))=OP (.int<|b.1[j]'∅):=jj<|get_map<|KN ∅;calc(m2,_,_,_,Z,Z,Rm<|sB _ _ e2,l1,pl,_,_,_,Z,Z,Rm<|sB _ _ a5,jj l4,rp,l,_,Z,sB _ _ j6,hg.pts l<|KP R,l2 _<|oT _,λsp qs q2 c2 f0 k7 j5=>?_,);let g8:=c2 _ _ eD;let o8:⇑zs=j:=by rw[hz.1,a6]
    let c9:a2 sp=none:=f0.1;let nD:sp≠D:=λz=>by rw[z,eD]at c9;cases c9
    refine c0.mk hj g8 (aD ∅) ((a4.trans c2).upd hD,af,o++[qs],CL.updN (aJ.snoc (hz.same c2) ((a4.free c9,nD,),f0.2,)) Fr.out g8,by simp[a6],(λi' c6 b' L f2=>?_),λi' c6 h6 m' L f2 f3=>?_,)
    rotate_left
    .by_cases e3:i'<⇑o
     .rw[fo e3]at L;exact d2 i' c6 h6 m' L f2 f3
     .let d4:i'=⇑o:=by
       have:=(KO.mp L).1;simp at this;lia
      subst d4;simp at L;subst L;rw[a6]at f2 f3;rw[R]at f2;cases f2;rw[KN ∅]at f3;cases f3;exact j5
    by_cases e3:i'<⇑o
    .rw[fo e3]at L;exact d1 i' c6 b' L f2
    .let d4:i'=⇑o:=by
      have:=(KO.mp L).1;simp at this;lia
     subst d4;simp at L;subst L;rw[a6,a9,dy,R]at f2;cases f2;exact k7
   .let(a4,eD,o,hz,a6,d1,d2):=hh;rw[Kn]at a6;let g7:=a4 _ _ em;let(cd,e4):∃cd,cd=os.getD b.2.toNat 0:=(_,Z,);let Jz:cd∈os:=by
     rw[e4,sr];let:b.2=0\/b.2=1\/b.2=2:=∅
     rcases this with z|z|z <;> rw[z] <;> simp
    let hv:atI (os.map RV) b.2=OP (.int cd):=by
     have:b.2=0\/b.2=1\/b.2=2:=∅
     rw[e4,sr];rcases this with z|z|z <;> rw[z] <;> rfl
    calc(ol,_,_,_,Z,Z,Rm<|(sA.trans a4) _ _ g5,hv,b9,λt ht=>?_,);let ut:=ai ht<|.tup [.ref D,.int cd];let sC:=a4.trans ut;let p0:⇑mx=i:=by rw[hR.1,M]
    calc(I,_,_,Z,Z,ut _ _ g7,aD ∅,?_,);let k0:H1 D=none:=sm.free hD;let j9:D≠I:=λz=>by rw[z,em]at hD;cases hD
    let GD:jH (Fr H1 I) (upd a2 t<|.tup [.ref D,.int cd]) t (o,cd):=⟨D,zs,af,(k0,j9,),ut _ _ eD,(hz.same ut).wk λx J=>⟨sm.free J.1,λz=>by have h1:=J.1;rw[z,em]at h1;cases h1⟩⟩;let j3:RL (Fr H1 I) (upd a2 t<|.tup [.ref D,.int cd]) (mx++[.ref t]) (n++[(o,cd)]):=aJ.snoc (hR.same sC) GD;refine((sm.trans sC).upd b6,mx++[.ref t],n++[(o,cd)],_,_,af,RL.updN j3 Fr.out<|ut _ _ g7,by simp[M],(λw hw=>?_),(λk b' x L f2=>?_),Z,)
    rotate_left
    .by_cases hk:k<⇑n
     .rw[fo hk]at f2;exact b0 k b' x L f2
     .let k6:k=⇑n:=by
       have:=(KO.mp f2).1;simp at this;lia
      subst k6;simp at f2;subst f2;rw[M]at L;unfold bmC at L;rw[dy,eb]at L;cases L;exact(e4,by show ⇑o=⇑c;lia,λj l qs m g1 g2 g3=>d2 j qs l m g2 g1 g3,)
    rcases gw.mp hw with hw|hw
    .exact hok w hw
    .rw[show w=(o,cd) by simpa using hw];let ho:=GC cd Jz;exact(by show ⇑o=⇑bs;lia,d1,ho.1,ho.2,)
  .let(sm,mx,n,c7,c8,em,hR,M,hok,b0,rfl):=hh;exact(sm,mx,n,c7,c8,em,hR.any,∅,hok,b0,Z,)
 rintro n2 H4 ⟨t4,mx,n,c7,c8,em,hR,M,hok,b0,rfl⟩;let c4:=s1.trans t4;refine(let I_:Rq:=λB d=>au H4 d/\∃ou:La,Dom Y.i Y.j d ou (x0-20,x2+10^(9:Int).toNat)/\(∃v fs,d ou=OP (.ins Y.i v fs))/\B=[OP (RZ a),↑pl,↑rl,↑ol,↑G,c5,↑I,c7,c8,↑ou];(I_,?_,?_,))
 .let GG:H4 ol=OP (.lst [.int x0,.int x1,.int x2]):=by rw[c4 _ _ g5,sr];rfl
  let hp:(0:Int)<10^(9:Int).toNat:=p10 _;calc(ol,_,_,_,Z,Z,Rm GG,Z,_,_,Z,Z,ol,_,_,_,Z,Z,Rm GG,Z,_,_,Z,Z,(⋯,⋯,⋯,),_,_,Z,Z,λx v J O b5=>(x,v,x0-20,x2+10^(9:Int).toNat,Z,af,∅,Z,?_,),);let s6:au H4 (mkd Y.i (upd (upd H4 v<|.own x) x<|.ins Y.i v []) x v (x0-20)<|x2+10^(9:Int).toNat):=by
   unfold mkd;exact(((ai O _).upd J).upd J).upd J
  exact(s6,x,(Y.i,.inl Z,v,_,af,Z,Z,Z,),(v,_,af,),Z,)
 rintro n1 H5 ⟨t5,h7,JA,GH,rfl⟩;refine(let I_:Rq:=λB d=>au H4 d/\∃ou:La,Dom Y.i Y.j d ou (o0 ow,o4 ow)/\(¬ bE ns 5%4=3->∃v fs,d ou=OP (.ins Y.i v fs))/\B=[OP (RZ a),↑pl,↑rl,↑ol,↑G,c5,↑I,c7,c8,↑ou];(I_,?_,?_,))
 .refine(a,ns,Z,(c4.trans t5).seq hS,_,Z,?_,);refine ck (λg=>?_)<|λg=>?_
  .let g:=O1 g;refine((by show 3<=Lc;decide),λnn a8=>?_,);let u3:=ai a8<|.lst<|wm.map Rk;let a1:upd H5 nn (.lst<|wm.map Rk) nn=OP (.lst<|wm.map Rk):=af;let ee:upd H5 nn (.lst [.str s!"x",.str s!"y",.str s!"z"])=upd H5 nn (.lst<|wm.map Rk):=rfl;rw[ee];clear ee;generalize upd H5 nn (.lst<|wm.map Rk)=W at u3 a1⊢;refine λx v J O b5=>?_
   let s5:au W (upd (upd W v<|.own x) x<|.ins Y.j v []):=(ai O _).upd J;calc(x,v,nn,wm,Z,af,s5 _ _ a1,Bd,λH7 l6 k1 k2 k3 k4=>(Z,?_,),);let s6:au H4 H7:=(t5.trans u3).trans λb u e=>k1 b u (bc e J)<|s5 _ _ e
   exact(s6,x,(Y.j,.inr Z,v,_,k2,by rw[b4];unfold oW;rw[OX g];rfl,by rw[b4];unfold oW;rw[OX g];rfl,Z,),λz=>OY g z,Z,)
  .let g:¬ bE ns 5%4=3:=λz=>g<|OZ z
   calc(t5,h7,?_,λ_=>GH,Z,);rw[b4];unfold oW;rw[OW g,sr];exact JA
 rintro n0 W ⟨t6,ou,f8,JB,rfl⟩;let e6:=c4.trans t6;refine((by show 4<=Lc;decide),λw1 d0=>?_,);let u7:=ai d0<|.lst<|(dk.take 4).map Rk;let f7:upd W w1 (.lst<|(dk.take 4).map Rk) w1=OP (.lst<|(dk.take 4).map Rk):=af;let ee:upd W w1 (.lst [.str s!"a",.str s!"b",.str s!"c",.str s!"d"])=upd W w1 (.lst<|(dk.take 4).map Rk):=rfl;rw[ee];clear ee;generalize upd W w1 (.lst<|(dk.take 4).map Rk)=H7 at u7 f7⊢;calc(pl,_,Z,.inl<|Rm<|(e6.trans u7) _ _ a5,_,Z,w1,_,Z,Rm f7,λnn a8=>?_,);let EC:jg ((dk.take 4).map Rk) OQ (OP ((⇑xs:Nat):Int))=(dk.take ⇑c).map Rk:=by
  rw[e8];let:⇑c=1\/⇑c=2\/⇑c=3\/⇑c=4:=∅
  rcases this with h|h|h|h <;> rw[h] <;> rfl
 rw[EC];let u8:=ai a8<|.lst<|(dk.take ⇑c).map Rk;let a1:upd H7 nn (.lst<|(dk.take ⇑c).map Rk) nn=OP (.lst<|(dk.take ⇑c).map Rk):=af;generalize upd H7 nn (.lst<|(dk.take ⇑c).map Rk)=H8 at u8 a1⊢;let e5:=(e6.trans u7).trans u8;calc(a,ns,Z,e5.seq hS,λwy H9 s9 e9 j4=>?_,);calc(λx v J O b5=>?_);let X:au H9 (upd (upd H9 v<|.own x) x<|.ins Y.k v []):=(ai O _).upd J;let h3:=u7.trans u8;let b3:=h3.trans s9;let a7:=t6.trans b3;let(JC,JD):=Co ⇑c j8 j7;let o3:⇑(dk.take ⇑c)=⇑c:=xK ∅;let wz:wy=s!"sum" -> ∃v fs,W ou=OP (.ins Y.i v fs):=λz=>JB λe=>j4 e z
 refine(x,v,nn,G,ou,I,_,_,dk.take ⇑c,T,mx,bs,(o0 ow,o4 ow),n,Z,af,X _ _<|s9 _ _ a1,JC,JD,∅,∅,KP e9,λz=>?_,X _ _<|a7 _ _<|t4 _ _ S,aJ.mono a0 λ_ _ p=>((p.same t4).same a7).same X,(f8.same b3).same X,X _ _<|a7 _ _ em,(hR.same a7).same X,?_,∅,hok,λd fs h5 h0 k1 k2 k3 j1 j0 i9 (h8,m0,i8,i2,i1,h9,o2,o1,) n7 k4 k5=>?_,)
 .let(l9,l3,e2):=wz z;exact(l9,l3,X _ _<|b3 _ _ e2,)
 .let h1:=hR.1;lia
 let c3:au H9 d:=λb u e=>k1 b u (bc e J)<|X _ _ e
 let sT:au H H9:=e5.trans s9;refine(Z,q x n _ wy ou _ T d (sT.trans c3) (h5,v,h8,m0,fs,h0,k2,k3,i9,j1,j0,i8,i2,i1,h9,k4,aJ.mono k5 λr w h=>h.wk λa ha=>trivial,trivial,trivial,trivial,?_,) e9 ?_ ((f8.same b3).same c3) M ?_ b0,)
 .let h1:=k5.1;lia
 .rw[←a9];exact aJ.mono a0 λ_ _ p=>((p.same t4).same a7).same c3
 .rw[←a9];calc hok
def l0{c'  : La}{doc pm ctv:K5}(bl:Bl K mg Y)  (inj:∀x y c,([]:O4 (Str×La)).lookup x=OP c->([]:O4 (Str×La)).lookup y=OP c->x=y):HFn P w K mg base 8 f (ia K Y f c'  doc pm ctv):=by
 refine vT (qual := "plan_of.<locals>.<lambda>") (e:=Y71) (c':=c') (cl:=[]) (pm:=pm) (ctv:=ctv) Z72 inj (λl m=>match l,m with | [z],_=>rfl) (λk H Q E h=>?_) (λA d s H k Q E B h=>?_)
 .let(a,p,rfl,g,(t,i,n),q):=h;rfl
 let(a,p,rfl,g,(t,i,n),q):=h;calc(_,g,rg Z,λu=>(_,(aF aZ (pv 0) ak<|λ_ _=>Z),?_,),);let r:hideL H []=H:=funext λb=>bQ (by simp)
 let o:backL H H []=H:=funext λb=>cF (by simp)
 show tOp _ _ _ _ (hideL H []) λv j=>(∀c,c∈([]:O4 La)->j c=OQ)->Q v (backL H j [])
 rw[r];calc(a,_,_,_,Z,Z,Rn i,Z,λ_=>by rw[o];exact q,)
def JE(F:Fun K "plan_of" "plan_of" s_plan_of f fd)(bl:Bl K mg Y)(EE:⟨⟩ 9 "look" ["form","codes"] (sh K Y))(uI:⟨⟩ 9 "plan_with" ["plans","block","column","cut","cost"] (gN K Y P w mg base))(Bg:⟨⟩ 9 "corner" ["box"] (lV K Y)) {cL tP:La}(d5:fd.code=.ref cL)(ht:dL K "plan_of" = OP (cL,tP)) (hT:Pl base cL tP/\base.BuiltinsAt mg tP):() 10 f fd ["plans","block","marks","costs","form"] (jN K Y P w mg base):=by
 refine F.okT d5 Z71 (λvs H Q E h=>?_)<|λA f0 s H vs Q E hr h=>?_
 .let(d,b,ml,cl,v,a6,M,B,as,g,xs,n,F_,sv,I,rfl,hD,hB,h5,a5,hM,a8,b5,b3,c3,o8,hv,GI,a3,q):=h;rfl
 let(d,b,ml,cl,v,a6,M,B,as,g,xs,n,F_,sv,I,rfl,hD,hB,h5,a5,hM,a8,b5,b3,c3,o8,hv,GI,a3,q):=h
 refine(_,(aq (aG (i:=5) Z71.nd Z (bd Z)<|aU ag)
  (aH (aW cr Z (xg Z bl.enumerate_<|ae (pv 2) ag) (eK Z<|aI (aC (i:=6) Z71.nd Z<|bd Z)<|aI (aC (i:=7) Z71.nd Z<|bd Z) bF)
  (aj (aW cr Z (aR<|pv 7) (aC (i:=8) Z71.nd Z<|bd Z)
  (aj (aX (gd iu eY (aF aZ (aF aZ (pv 1) (pv 6)<|λ_ _=>Z) ak<|λ_ _=>Z) (pv 8)<|aF aZ (aF aZ (pv 1) (pv 6)<|λ_ _=>Z) ak<|λ_ _=>Z)
  (aj<|aV<|dB PySem.F.plainAttrs_list PySem.F.slot_list_append PySem.F.type_list_append bg (pv 5)<|ae (aM uI hr Z<|ae (pv 0)<|ae (pv 1)<|ae (pv 6)<|ae (pv 8)<|ae (aF aO (pv 3) (pv 6)<|λ_ _=>Z) ag) ag)
  aN)))))
  (aq (aX (dF<|di (pv 5) (by intro _;rfl))
  (aj<|aE<|bf<|ae ak<|ae (bf<|ae (gh Z bl.SAY_)<|ae (aM EE hr Z<|ae (pv 4)<|ae (aM Bg hr Z<|ae (pv 1) ag) ag) ag) ag)
  aN)
  (aj<|aE<|B1 (k:=8) Z (hr.mono ⋯) Z bl.min_ (pv 5)<|vS (clos:=[]) Z hT.1 hT.2 Z<|iU _)))),?_,)
 dsimp only[cw,Rp,Ro];show(let r3:TS:=_;let r2:TS:=bh _ r3;let r1:TS:=cm _ r2;bh _ r1 _ _ _);intro _ _ _;let(xb,eb,hx):=id hB;refine((by show 0<=Lc;decide),λG a7=>?_,);let s0:au H (upd H G<|.lst []):=ai a7 _;let e0:upd H G (.lst []) G=OP (.lst []):=af;generalize upd H G (.lst [])=H0 at s0 e0⊢;refine(let I_:Rq:=λD J=>au H J/\∃(C:O4 V)(c6 c7 O:Option V),J G=OP (.lst C)/\PlL K J C (eF B g xs I ⇑g)/\C.length<=29*⇑g/\D=[↑d,↑b,↑ml,↑cl,OP v,↑G,c6,c7,O];(I_,?_,?_,))
 .refine⟨ml,Z,(_,Rm<|s0 _ _ a5,),(let I_:Nat->Rq:=λi D J=>au H J/\∃(C:O4 V)(c6 c7 O:Option V),J G=OP (.lst C)/\PlL K J C (eF B g xs I i)/\C.length<=29*i/\D=[↑d,↑b,↑ml,↑cl,OP v,↑G,c6,c7,O];Af (xs:=as.map RZ) I_ (s0,[],_,_,_,e0,aJ.nil,BG _,Z,) (λi D J h=>Rm<|h.1 _ _ a5) (λi y D H1 T ey hh hT=>?_) (λD H1 hh=>?_))⟩
  .let(s1,C,c6,c7,O,e1,hU,S,rfl):=hh;let(r,rfl,er):=n5 ey;let(R,em):∃R,g[i]?=OP R:=(_,KN (by rw[←hM.1];exact(KO.mp er).1),);let(r',c1,X):=hM.2 i R em;rw[er]at c1;cases c1;let hi:i<B.length:=by rw[←a8];exact(KO.mp em).1
   let u2:=ai hT<|.tup [.int i,.ref r];let eT:upd H1 T (.tup [.int i,.ref r]) T=OP (.tup [.int i,.ref r]):=af;generalize upd H1 T (.tup [.int i,.ref r])=H2 at u2 eT⊢;let s2:=s1.trans u2;calc(T,_,Z,Rn eT,Z,_,_,Z,_,_,Z,Z,?_,);let(rp,e9,b6):=Ej hx (i:=i) hi;let c2:atI xb (i:Int)=↑rp:=bN e9;let b4:B[i]?=OP ((B.getD i (0,0)).1,(B.getD i (0,0)).2):=by rw[ab,KN hi];rfl
   let c4:i<⇑xs:=∅
   let e8:atI (xs.map RV) (i:Int)=OP (.int<|xs.getD i 0):=bN (by rw[dy,ab,KN c4];rfl);let Cu:=b5 R<|KP em;let d2:g.getD i []=R:=by rw[ab,em];rfl
   refine⟨r,Z,(_,Rm<|s2 _ _ X,),(let I_:Nat->Rq:=λj D J=>au H J/\∃(C:O4 V)(O:Option V),J G=OP (.lst C)/\PlL K J C (eF B g xs I i++oh B (xs.getD i 0) I i (R.take j))/\C.length<=29*i+j/\D=[↑d,↑b,↑ml,↑cl,OP v,↑G,OP<|.int i,↑r,O];aY (xs:=R.map RV) I_ (s2,C,_,u2 _ _ e1,by rw[show oh B (xs.getD i 0) I i (R.take 0)=[]from Z,jm];exact hU.mono λ_ _ z=>z.mono u2.tups,S,Z,) (λj D J _ h=>Rm<|h.1 _ _ X) (λj y D H3 e5 hh=>?_) (λD H3 hh=>?_))⟩
   .let(N,L,O,e3,a0,GJ,rfl):=hh;let(m,rfl,a2):=of_map e5;let hj:j<R.length:=(KO.mp a2).1;let no:¬ ((B.getD i (0,0)).1<m/\m<=(B.getD i (0,0)).2)->au H H3/\∃(C:O4 V)(O:Option V),H3 G=OP (.lst C)/\PlL K H3 C (eF B g xs I i++oh B (xs.getD i 0) I i (R.take<|j+1))/\C.length<=29*i+(j+1)/\[OP (RZ d),↑b,↑ml,↑cl,OP v,↑G,OP<|.int i,↑r,OP (.int m)]=[↑d,↑b,↑ml,↑cl,OP v,↑G,OP<|.int i,↑r,O]:=λhn =>
     (N,L,_,e3,by rw[take_snoc a2,qD,OW hn,jm];exact a0,∅,Z,)
    calc(b,_,_,_,Z,Z,Rn<|N _ _ eb,c2,rp,_,_,_,Z,Z,Rn<|N _ _ b6,Z,_,_,Z,Z,_,Z,?_,);by_cases h1:(B.getD i (0,0)).1<m
    .rw[OX (OZ h1)];calc(b,_,_,_,Z,Z,Rn<|N _ _ eb,c2,rp,_,_,_,Z,Z,Rn<|N _ _ b6,Z,_,_,Z,Z,_,Z,?_,);by_cases h2:m<=(B.getD i (0,0)).2
     .rw[OX (OZ h2)];let(hb,ha,hd):=o8 i _ _ m R b4 em (KP a2) h1 h2;calc(.inl (Z,_,Rm e3,),cl,_,_,_,Z,Z,Rm<|N _ _ b3,e8,d,b,a6,M,B,i,m,_,_,_,_,_,Z,hD.keep (N _ _ hD.at_) N.tups,BxA.mono hB N.tups,h5,b4,hb,ha,hd,λr4 H4 s4 d0=>?_,);let e4:=s4 _ _ e3;let f3:i<5:=∅
      refine(G,L,_,Z,Z,e4,aD ∅,(N.trans s4).upd a7,L++[.ref r4],_,af,?_,by rw[br,gR];lia,Z,);let st:bD H3 (upd H4 G<|.lst<|L++[.ref r4]):=s4.tups.trans<|aS e4;rw[take_snoc a2,qD,OX (h1,h2,),←mz];exact aJ.snoc (a0.mono λ_ _ z=>z.mono st)<|d0.mono<|aS e4
     .rw[OW (by rw[O0 h2];decide)];exact no λz=>h2 z.2
    .rw[OW (by rw[O0 h1];decide)];calc(_,Z,?_,);exact no λz=>h1 z.1
   .let(N,L,O,e3,a0,GJ,rfl):=hh;rw[aa,gs]at a0;rw[aa]at GJ;exact(N,L,_,_,_,e3,by rw[yM,d2];exact a0,∅,Z,)
  .let(s1,C,c6,c7,O,e1,hU,S,rfl):=hh;rw[aa,hM.1]at hU S;exact(s1,C,_,_,_,e1,hU,S,Z,)
 rintro f1 H1 ⟨s1,C,c6,c7,O,e1,hU,S,rfl⟩;let a9:=hU.1;calc(!C.isEmpty,.inl (C,Rm e1,Z,),?_,);show if (!(!C.isEmpty))=OR then _ else _
 rw[Bool.not_not];cases C with
 |nil =>
  rw[show([]:O4 V).isEmpty=OR from Z,OX Z];let d4:eF B g xs I ⇑g=[]:=lq a9.symm;calc(b,B,Z,BxA.mono hB s1.tups,∅,λl H2 s2 n2 e2=>?_,);let u2:=s1.trans s2;let(u,(rv,rfl,c5),d1):=D6 (K:=K) GI<|FmV.mono u2.tups hv;refine(v,.ref rv,l,_,Z,Rm e2,d1,(by show 2<=Lc;decide),λt c9=>((by show 2<=Lc;decide),λr X=>?_,),);let u3:=(ai c9<|.tup [.str kB,.ref rv]).trans<|ai X<|.tup [.int 0,.ref t];let u4:=u2.trans u3;calc q r _ (So.of u4) (λz e=>(a3 z e).same u4) (_,ht,λd o _ h=>u4 d o h,) ?_;let a4:plB B g xs I sv=(0,.say sv):=by unfold plB;rw[d4]
  rw[a4];exact(t,af,rv,ai X _ _ _ af,c5.mono u3.tups,)
 |cons u0 C =>
  rw[show(u0 :: C).isEmpty=OS from Z,OW ⋯];let(ds,e7,b1,b0):=Cc hU;rw[e7]at e1;let uJ:=(a3 _ ht).same s1;let(f2,e6,_):=id uJ;refine([(ph Y71,"plan_of.<locals>.<lambda>")],dt,?_,uJ,λf_ c' oc pm ctv H3 hf kp ef ec d3 vP inj=>?_,)
  .intro p hp _ _;rw[dV.mp hp];rfl
  let a1:So H1 H3:=λd o p e=>kp d o (λz=>by rw[z,e6]at e;cases e;exact p) e
  let jq:hX H3 f_ c' (kt "<lambda>" "plan_of.<locals>.<lambda>" (nR Y71) (mG Y71) (iH Y71) [] pm c' ctv) "plan_of.<locals>.<lambda>" [] []:=⟨ef,(oc,ec,d3,),(λc hc=>by cases hc),λx v e=>by cases e⟩;refine(G,f_,ds,_,λi=>((eF B g xs I ⇑g).getD i (0,.say sv)).1,Z,Z,Rm<|a1.lst e1,(by rw[b1,←a9];exact EX _),l0 (doc:=.none) (pm:=pm) (ctv:=ctv) (c':=c') bl inj,(λi a hi=>?_),λi a hi Cq=>?_,)
  .let(p,ep,hp):=b0 i a hi;exact(a,p,Z,jq,hp.mono a1.tups,by show RV p.1=.int ((eF B g xs I ⇑g).getD i (0,.say sv)).1;rw[ab,ep];rfl,Z,)
  .let(p,ep,hp):=b0 i a hi;refine q a H3 ((So.of s1).trans a1) (λz e=>?_) (_,ht,λd o hd h=>kp d o hd<|s1 _ _ h,) ?_
   .rw[ht]at e;cases e;exact vP
   .let a4:plB B g xs I sv=p:=by
     unfold plB;cases hc:eF B g xs I ⇑g with
     |nil=>rw[hc]at ep;simp at ep
     |cons p0 pr =>
      rw[hc]at ep Cq;calc(Ek ep λj q ej=>?_).symm;let hj:j<⇑ds:=by rw[b1,hc];exact(KO.mp ej).1
      have:=Cq j hj;rw[ab,ab,ep,ej]at this;exact this
    rw[a4];calc hp.mono a1.tups
def JF{k n:Nat}(F:Fun K "layered" "layered" Y62 f fd)(bl:Bl K mg Y)(oK:⟨⟩ k "closed" ["triples"] (je K Y))(l7:⟨⟩ k "layered" ["columns","ahead","leaf"] (fj K Y P w mg base n)) (hk:8<=k):() (k+1) f fd ["columns","ahead","leaf"] (fj K Y P w mg base<|n+1):=by
 refine F.okA Z62 λc1 A b5 s H vs Q E hr h=>?_
 let(c,b,f_,xs,a,M,m,L,iL,A,g,J,rfl,hn,hc,hC,hb,a1,b3,b0,hm,hL,hJ,q):=h
 refine(_,(aq (aX (dF<|di (pv 0) (by intro _;rfl))
  (aj<|aE<|xi (k:=8) (i:=2) (hr.mono hk) Z (lf<|bd Z)<|ae (pv 1) ag)
  aN)
  (aj<|aE<|aM oK hr Z<|ae (d7 (aR<|aF aO (pv 0) ak<|λ_ _=>Z) (d9 (N:=["low","high","columns","ahead","leaf"]) (k:=2) (fr:=[0,1,2]) (cl:=[("leaf",↥s+1+1+1),("columns",↥s+1),("ahead",↥s+1+1)]) Z Z (~~~0) (~~~0) Z Z (gx.mpr (Z,gx.mpr (Z,gx.mpr (Z,iU _,),),)) Z) Z (λ_ _ _ _=>(jx (K:=K) (n:=2) Z Z<|aI (aC (i:=0) (show(["low","high","columns","ahead","leaf"]:O4 Str).Nodup by decide+kernel) Z (bd Z) (lf Z)) (aI (aC (i:=1) (show(["low","high","columns","ahead","leaf"]:O4 Str).Nodup by decide+kernel) Z (bd Z) (lf Z)) bF))) (λ_ _ _ _=>bG) (λ_ _ _ _=>(bf<|ae (pv 0)<|ae (pv 1)<|ae (aM l7 hr Z<|ae (gf (Ag (K:=K) Z) (pv 2) (i6 ak) i5)<|ae (ay qU (pv 3)<|aU<|ae (pv 0) ag)<|ae (pv 4) ag) ag))) ag)),?_,)
 cases a with
 |nil =>
  let hx:xs=[]:=lq hC.1;subst hx;let(sp,hF,a9):=hL.fn;calc(_,.inl (_,Rm hc,Z,),iw ?_,);exact(f_,sp,Z,hL.ob H hJ,hF,hL.ob H hJ,a9 H b M _ hJ (by rw[hm];rfl) hb λv u h' hv=>q v u h' hv,)
 |cons y a =>
  let(r,ex,ts,er,hp):=hC.2 0 y Z;let(l,rfl):∃l,xs=.ref r :: l:=by
   cases xs with
   |nil=>cases ex
   |cons x l=>cases ex;exact(l,Z,)
  let b4:CoL H l a:=(~~~hC.1,λj c e=>~~~hC.2 (j+1) c (~~~e),);let b6:⇑y<=64:=a1 y dt;let a5:⇑ts=⇑y:=⇑hp;let KL:⇑a<=5:=by rw[fk]at b0;lia
  refine(_,.inl (_,Rm hc,Z,),cG ?_,)
  refine(c,_,_,_,Z,Z,Rm hc,bN (j:=0) Z,r,Z,(_,Rm er,),jD (xs:=ts) (λD i G u=>au H u/\u D=OP (.lst G)/\FmL (FmV A u ⇑a) u ((y.take i).map λp=>(p.1,p.2,lay g a<|M++[p.1])) G/\G.length<=i)
   (λD hD=>(ai hD _,af,FmL.nil,BG _,)) (λD i G u hD _ h=>Rm<|h.1 _ _ er) (λD i x G u hD e h ss a8=>?_) (λD G u hD h=>?_),)
  .let(I,eD,S,a4):=h;let(p,t,ep,rfl,ht):=hp.get e;let hi:i<⇑ts:=(KO.mp e).1;let(t0,B,rfl):∃t0 B,ss=[t0,B]:=by
    match ss,a8 with
    | [t0,B],_=>exact(t0,B,Z,)
   calc(t,_,Z,Rn<|I _ _ ht,Z,_,_,Z,_,_,Z,Z,([OP (.int p.1),OP (.int p.2)],Z,Z,),?_,);calc(_,Z,c,_,Z,Rm<|I _ _ hc,λc2 b1=>?_,);rw[uf];let s2:au u (upd u c2<|.lst l):=ai b1 _;let a2:upd u c2 (.lst l) c2=OP (.lst l):=af;generalize upd u c2 (.lst l)=T at s2 a2⊢;refine((by show 1<=Lc;decide),λB a7=>?_,);let X:au T (upd T B<|.lst [.int p.1]):=ai a7 _;let e1:upd T B (.lst [.int p.1]) B=OP (.lst [.int p.1]):=af;generalize upd T B (.lst [.int p.1])=H3 at X e1⊢;refine(b,B,_,_,Z,Z,X _ _<|s2 _ _<|I _ _ hb,e1,Dn<|aD (by rw[aa];show M.length+1<=1000;lia),λR a0=>?_,);let s4:au H3 (upd H3 R<|.lst<|M.map RV++[.int p.1]):=ai a0 _;let e2:upd H3 R (.lst<|M.map RV++[.int p.1]) R=OP (.lst<|(M++[p.1]).map RV):=by rw[fq];exact af
   generalize upd H3 R (.lst<|M.map RV++[.int p.1])=H4 at s4 e2⊢;let O:au u H4:=(s2.trans X).trans s4;let f2:u R=none:=(s2.trans X).free a0;refine(c2,R,f_,l,a,M++[p.1],m,L,iL,A,g,J,Z,by rw[fk]at hn;lia,s4 _ _<|X _ _ a2,b4.same<|I.trans O,e2,λz S=>a1 z<|fS _ S,by rw[br,gR];rw[fk]at b3;lia,∅,by rw[br,gR];rw[fk]at hm;lia,hL,hL.st _ _ hJ<|I.trans O,λv H5 h5 hv=>?_,);let s5:au u H5:=λd o ed=>h5 d o (λz=>by rw[z,f2]at ed;cases ed) (O _ _ ed)
   refine((by show 3<=Lc;decide),λW a6=>?_,);let s6:au H5 (upd H5 W<|.tup [.int p.1,.int p.2,v]):=ai a6 _;let e3:upd H5 W (.tup [.int p.1,.int p.2,v]) W=OP (.tup [.int p.1,.int p.2,v]):=af;generalize upd H5 W (.tup [.int p.1,.int p.2,v])=H6 at s6 e3⊢;let C:=s5.trans s6;let a3:=C _ _ eD;refine c0.mk hi a3 (aD ∅) ((I.trans C).upd hD,af,?_,by rw[br,gR];lia,);let st:bD H6 (upd H6 D<|.lst<|G++[.ref W]):=aS a3;rw[take_snoc ep,fq];exact(S.mono (λ_ _ z=>FmV.mono (C.tups.trans st) z)<|C.tups.trans st).snoc (st _ _ e3) (FmV.mono (s6.tups.trans st) hv)
  .let(I,eD,S,a4):=h;rw[a5,gs]at S;refine(L,iL,A,⇑a,D,G,_,Z,∅,eD,S,by rw[aa];lia,λr2 T s2 hf=>?_,);calc q _ T (λd o _ ed=>(I.trans s2) _ _ ed) hf
def JG{k n:Nat}(F:Fun K "mapped" "mapped" Y65 f fd)(bl:Bl K mg Y)(oK:⟨⟩ k "closed" ["triples"] (je K Y))(oM:⟨⟩ k "mapped" ["form","deep","change"] (gn K Y P w mg base n)) (hk:8<=k):() (k+1) f fd ["form","deep","change"] (gn K Y P w mg base<|n+1):=by
 refine F.okA Z65 λb1 A a8 s H vs Q E hr h=>?_
 let(L,M,iL,iM,A,B,h_,J,d,F_,v,f_,rfl,hn,b0,R,a6,m,S,q):=h
 refine(_,(aq (aX (aL cO (pv 1) ak<|aQ _)
  (aj<|aE<|xi (k:=8) (i:=2) (hr.mono hk) Z (lf<|bd Z)<|ae (pv 0) ag)
  aN)
  (aj<|aE<|aM oK hr Z<|ae (d7 (qO<|pv 0) (d9 (N:=["low","high","beneath","deep","change"]) (k:=3) (fr:=[1,2]) (cl:=[("deep",↥s+1),("change",↥s+1+1)]) Z Z (~~~0) (~~~0) Z Z (gx.mpr (Z,gx.mpr (Z,iU _,),)) Z) Z (λ_ _ _ _=>(jx (K:=K) (n:=3) Z Z<|aI (aC (i:=0) (show(["low","high","beneath","deep","change"]:O4 Str).Nodup by decide+kernel) Z (bd Z) (lf Z)) (aI (aC (i:=1) (show(["low","high","beneath","deep","change"]:O4 Str).Nodup by decide+kernel) Z (bd Z) (lf Z)) (aI (aC (i:=2) (show(["low","high","beneath","deep","change"]:O4 Str).Nodup by decide+kernel) Z (bd Z) (lf Z)) bF)))) (λ_ _ _ _=>bG) (λ_ _ _ _=>(bf<|ae (pv 0)<|ae (pv 1)<|ae (aM oM hr Z<|ae (pv 2)<|ae (ay b7 (pv 3) ak)<|ae (pv 4) ag) ag))) ag)),?_,)
 cases d with
 |zero =>
  let(sp,hF,a5):=m.fn;calc(Z,_,Z,hV Z ?_,);exact(f_,sp,Z,m.ob H S,hF,m.ob H S,a5 H v F_ _ S R λu b s' X=>q u b s' X,)
 |succ d =>
  let(G,rfl):∃G:O4 (T3a<|Fm L d),(G:Fm L (d+1))=F_:=(F_,Z,);let(a9,JH):SmS 300 (SmF 300 d) G:=a6;let(a,xs,rfl,ha,hG):∃(a:La)(xs:O4 V),v=.ref a/\H a=OP (.tup xs)/\FmL (FmV A H d) H G xs:=R;let a1:=hG.1;refine(Z,_,Z,cD (λz=>by have:=V.int.inj z;lia) ?_,)
  refine(a,Z,(_,Rn ha,),i7 (xs:=xs) (λD i g b=>au H b/\b D=OP (.lst g)/\FmL (FmV B b d) b ((G.take i).map λt=>(t.1,t.2.1,pq h_ d t.2.2)) g/\⇑g<=i)
   (λD o=>(ai o _,af,FmL.nil,BG _,)) (λD i g b o _ h=>Rn<|h.1 _ _ ha) (λD i x g b o e h ss a4=>?_) (λD g b o h=>?_),)
  .let(j,eD,O,a0):=h;let hi:i<⇑xs:=(KO.mp e).1;let(t,et):∃t,G[i]?=OP t:=(_,KN ∅,);let(r,u,ex,er,X):=hG.2 i t et;rw[e]at ex;cases ex;let(I,C,y,rfl):∃I C y,ss=[I,C,y]:=by
    match ss,a4 with
    | [I,C,y],_=>exact(I,C,y,Z,)
   let a7:=j _ _ er;let a2:=FmV.mono j.tups X;calc(r,_,Z,Rn a7,Z,_,_,Z,_,_,Z,_,_,Z,Z,([OP (.int t.1),OP<|.int t.2.1,OP u],Z,Z,),?_,);refine(_,_,Z,Z,L,M,iL,iM,A,B,h_,J,d,t.2.2,u,f_,by simp,∅,∅,a2,JH t<|KP et,m,m.st _ _ S j,λv T s5 R=>?_,);refine((by show 3<=Lc;decide),λl a3=>?_,);let W:au T (upd T l<|.tup [.int t.1,.int t.2.1,v]):=ai a3 _;let e3:upd T l (.tup [.int t.1,.int t.2.1,v]) l=OP (.tup [.int t.1,.int t.2.1,v]):=af;generalize upd T l (.tup [.int t.1,.int t.2.1,v])=H6 at W e3⊢;let c:=s5.trans W;let p:=c _ _ eD;refine c0.mk hi p (aD ∅) ((j.trans c).upd o,af,?_,by rw[br,gR];lia,);let st:bD H6 (upd H6 D<|.lst<|g++[.ref l]):=aS p;rw[take_snoc et,fq];exact(O.mono (λ_ _ z=>FmV.mono (c.tups.trans st) z)<|c.tups.trans st).snoc (st _ _ e3) (FmV.mono (W.tups.trans st) R)
  .let(j,eD,O,a0):=h;rw[a1,gs]at O;refine(M,iM,B,d,D,g,_,Z,∅,eD,O,by rw[aa];lia,λr2 H2 s2 hf=>?_,);calc q _ H2 (j.trans s2) hf
def JI(F:Fun K "built" "built" Y35 f fd)(bl:Bl K mg Y)(l7:⟨⟩ 15 "layered" ["columns","ahead","leaf"] (fj K Y P w mg base 7))(Cv:⟨⟩ 15 "grain" ["bounds","marks"] (oB K Y))(f6:⟨⟩ 15 "cut_columns" ["bounds","marks"] (dO K Y)):() 16 f fd ["bounds","marks","leaf"] (oC K Y P w mg base):=by
 refine F.okA Z35 λa1 A T s H vs Q E M h=>?_
 let(a,b,f_,V,c,as,k,L,iL,A,g,J,rfl,ha,N,X,hM,hok,hg,hL,hJ,q):=h
 refine(_,(aq (aX (aL mh (aM Cv M Z<|ae (pv 0)<|ae (pv 1) ag) (gh Z bl.MOST_GRAIN_)<|aQ _)
  (aj bR)
  aN)
  (aj<|aE<|aM l7 M Z<|ae (aM f6 M Z<|ae (pv 0)<|ae (pv 1) ag)<|ae (aU ag)<|ae (pv 2) ag)),?_,)
 let a0:=N.length;let(y,x,u):=hok;calc(a,b,V,c,as,k,Z,ha,N,X,hM,(y,x,u,),λH1 m=>?_,);calc(_,_,Z,Z,_,Z,?_,);calc ck (λg=>OY (mn g) ∅)<|λ_=>?_;calc(a,b,V,c,as,k,Z,m _ _ ha,N.mono m.tups,m _ _ X,hM.same m,(y,x,u,),λl xs G e s2 el R C hx=>?_,);refine((by show 0<=Lc;decide),λt W=>?_,);let D:au G (upd G t<|.lst []):=ai W _;let et:upd G t (.lst []) t=OP (.lst []):=af;generalize upd G t (.lst [])=H3 at D et⊢;let r:=(m.trans s2).trans D;let B:⇑(db (λp i=>bj p.1 p.2 i) c e)=⇑c:=by rw[nI];lia
 refine(l,t,f_,xs,_,[],⇑c,L,iL,A,g,J,Z,∅,D _ _ el,hx.same D,et,λS JJ=>?_,by rw[B];show 0+⇑c<=6;lia,∅,by rw[B];show ⇑c=0+⇑c;lia,hL,hL.st _ _ hJ r,λv H4 h4 hv=>?_,)
 .let(j,n):=ik JJ;let hj:j<⇑(db (λp i=>bj p.1 p.2 i) c e):=(KO.mp n).1;let(p,ep):∃p,c[j]?=OP p:=(_,KN ∅,);let(i,ec):∃i,e[j]?=OP i:=(_,KN ∅,);let(I,em):∃I,k[j]?=OP I:=(_,KN ∅,);rw[oE,ep,ec]at n;let n:bj p.1 p.2 i=S:=bm n;rw[←n,cS];let:=(C j p I i ep em ec).2.2;lia
 .exact q v H4 e (λd o O=>h4 d o (λz=>by have f:=(m.trans s2).free W;rw[z,f]at O;cases O) (r _ _ O)) R C hv
def kX{c' c_0:La}{doc pm ctv:K5}(bl:Bl K mg Y)(B:⟨⟩ 7 "mask" ["table","codes"] (kT K Y)) (inj:∀x y c,([("table",c_0)]:O4 (Str×La)).lookup x=OP c->([("table",c_0)]:O4 (Str×La)).lookup y=OP c->x=y):HFn P w K mg base 8 f (gq K Y f c' c_0 doc pm ctv):=by
 let Z81:=@Z81 c_0;refine vT (qual := "row_form.<locals>.<lambda>") (e:=Y79) (c':=c') (cl:=[("table",c_0)]) (pm:=pm) (ctv:=ctv) Z81 inj (λp u=>match p,u with | [D],_=>rfl) (λn H Q E h=>?_) (λA g s H n Q E v h=>?_)
 .let(a,t,m,b,i,o,rfl,d,l,k,j,q):=h;rfl
 let(a,t,m,b,i,o,rfl,d,l,k,j,q):=h;calc(_,d,rg Z,λC=>(_,(aM B v Z<|ae (pv 1)<|ae (pv 0) ag),?_,),);let z:=d.2.2.fzs;let so:=So.hide z;calc(t,a,b,i,o,m,Z,Tbl.so so l,Rm<|so.lst k,j,λF r _=>q _<|nK r,)
def JK(F:Fun K "row_form" "row_form" s_row_form f fd)(bl:Bl K mg Y)(Cw:⟨⟩ 16 "built" ["bounds","marks","leaf"] (oC K Y P w mg base))(cY:⟨⟩ 16 "table_bounds" ["table"] (cE K Y))(pC:⟨⟩ 16 "table_marks" ["table"] (fi K Y))(Bh:⟨⟩ 16 "mask" ["table","codes"] (kT K Y)) {cL tP:La}(a4:fd.code=.ref cL)(ht:dL K "row_form" = OP (cL,tP)) (hT:Pl base cL tP/\base.BuiltinsAt mg tP)(EF:⟨⟩ 7 "mask" ["table","codes"] (kT K Y)):() 17 f fd ["table"] (iR K Y):=by
 refine F.okT a4 Z80 (λvs H Q E h=>?_)<|λA b6 s H vs Q E hr h=>?_
 .let(t,dv,bs,g,L,i,o,rfl,G,T,h4,V,lN,J,S,O,q):=h;rfl
 let(t,dv,bs,g,L,i,o,rfl,G,T,h4,V,lN,J,S,O,q):=h;calc(_,(aj<|aE<|Ah (zs:=[("table",0,↥s+1)]) Cw hr Z (ae (aM cY hr Z<|ae (pv 0) ag)<|ae (aM pC hr Z<|ae (pv 0) ag)<|ae (vS (clos:=[("table",↥s+1)]) Z hT.1 hT.2 Z<|gx.mpr (Z,iU _,)) ag)<|gx.mpr ((Z,bd Z,Z,bd Z,),iU _,)),?_,);let a6:∀(c:Nat)(b:Int×Int),bs[c]?=OP b->⇑(L c)<64/\∀x,MkC g c b x->x∈L c:=λc b e=>(PQ (J c b e).1 ⋯,(J c b e).2,)
 calc(t,dv,bs,g,Z,G,∅,λl1 ys H1 s1 n1 e1 a5=>?_,);calc(t,dv,bs,g,L,Z,G.same s1,∅,V,lN,a6,λl2 as r H2 s2 n2 e2 hM R y=>?_,);let n:=s1.trans s2;let uJ:=(O _ ht).same n;let(c1,b0,_):=id uJ;refine([(ph Y79,"row_form.<locals>.<lambda>")],dt,?_,uJ,λf_ c' oc pm ctv M hf kp ef ec a2 vP inj=>?_,)
 .intro p hp _ _;rw[dV.mp hp];rfl
 let m:So H2 M:=λd o p e=>kp d o (λz=>by rw[z,b0]at e;cases e;exact p) e
 refine λos u hz ho=>?_
 let l:=nO u hz;let a8:∃o,iE M ((([("table",0,↥s+1)]:O4 (Str×Nat×La)).map (·.2.2)).zip os) (↥s+1)=OP (.frz o TTh):=by
  let(o,_,e):=gF (H:=M) (fz:=(([("table",0,↥s+1)]:O4 (Str×Nat×La)).map (·.2.2)).zip os) (b:=↥s+1) (by rw[nN u];exact dt);exact(o,e,)
 let a3:=tR (H:=M) (cl:=[("table",↥s+1)]) (ws:=[("table",.ref t)]) u (by simp) ho (λc hc=>by
  simp only[jl,vr,bz,jQ,or_false]at hc;exact(_,dt,hc.symm,)) (λx v e=>by
  unfold RO at e;split at e
  .rename_i C
   cases e;rw[eq_of_beq C];exact(_,dt,Z,Z,)
  .cases e)
 let jq:hX (iE M ((([("table",0,↥s+1)]:O4 (Str×Nat×La)).map (·.2.2)).zip os)) f_ c' (kt "<lambda>" "row_form.<locals>.<lambda>" (nR Y79) (mG Y79) (iH Y79) [("table",↥s+1)] pm c' ctv) "row_form.<locals>.<lambda>" [("table",↥s+1)] [("table",.ref t)]:=(l _ _ ef,(oc,l _ _ ec,a2,),a3,);let hN:DZ (K':=K) Am P w K mg base f_ ⇑bs (λcd=>((msk (jk g cd) ⇑g:Nat):Int)) (λN=>hX N f_ c' (kt "<lambda>" "row_form.<locals>.<lambda>" (nR Y79) (mG Y79) (iH Y79) [("table",↥s+1)] pm c' ctv) "row_form.<locals>.<lambda>" [("table",↥s+1)] [("table",.ref t)]/\Tbl Y.k Y.i Y.j N t g i o) :=
  ((_,kX (doc:=.none) (pm:=pm) (ctv:=ctv) (c':=c') (c_0:=↥s+1) bl EF inj,λN a cd Q0 D hl ha k=>(a,t,cd,g,i,o,Z,D.1,D.2,ha,(λx C=>by rw[(lN x C).1,hl]),λb5 X=>k _ _ (λb o _ e=>X b o e) Z,),),λN D=>(_,_,D.1.1,Z,),λN b5 D X=>(D.1.same X,Tbl.same D.2 X,),)
 let JL:MOK bs r:=(R.symm,∅,λB a0=>by
  let(c,ec):=ik a0;let hc:=(KO.mp ec).1;let(b,eb):∃b,bs[c]?=OP b:=(_,KN ∅,);let(pw,hm):=y c b B eb ec;exact BK (n6 pw λx C=>(J c b eb).2 x<|(hm x).mp C) (J c b eb).1,)
 calc(l1,l2,f_,ys,bs,as,r,Int,inferInstance,Am,_,_,Z,(So.lst m (s2 _ _ e1) |> λe=>l _ _ e),((a5.mono s2.tups).mono m.tups).mono l.tups,l _ _<|m.lst e2,(MLs.so m hM).same l,JL,S r R y,hN,(jq,Tbl.same (Tbl.so m<|Tbl.same T n) l,),λv H4 b4 s4 JM a1 a7=>?_,);let hs:=_L.hide_same u hz s4;let(o2,b1):=a8;let a9:Fzs H4 [↥s+1]:=λd hd=>by rw[dV.mp hd];exact(o2,s4 _ _ b1,)
 refine q v _ b4 (((So.of n).trans m).trans<|So.of hs) (λz ez=>?_) (_,ht,) JM (λj p cs ep b3=>?_)<|a7.mono (So.hide a9).tups
 .rw[ht]at ez;cases ez;exact(vP.same hs,λd o hd e=>hs _ _<|kp d o hd<|n _ _ e,)
 .let(B,I):∃B,r[j]?=OP B:=(_,KN (by have:=(KO.mp ep).1;lia),);let(pw,hm,_):=a1 j p B cs ep I b3;calc(pw,λx=>(hm x).trans (λh=>((y j p B ep I).2 x).mp h.1,λh=>(((y j p B ep I).2 x).mpr h,?_,),),);let(w_,_,C):=h;let:=(kl.mp C).2;rw[KS,O3,O3]at this;calc this
def ij{c' c_0:La}{doc pm ctv:K5}(bl:Bl K mg Y)(n:⟨⟩ 7 "judged" ["table","rows"] (gm K Y)) (inj:∀x y c,([("table",c_0)]:O4 (Str×La)).lookup x=OP c->([("table",c_0)]:O4 (Str×La)).lookup y=OP c->x=y):HFn P w K mg base 8 f (eJ K Y f c' c_0 doc pm ctv):=by
 let Z88:=@Z88 c_0;refine vT (qual := "verdict_form.<locals>.<lambda>") (e:=Y85) (c':=c') (cl:=[("table",c_0)]) (pm:=pm) (ctv:=ctv) Z88 inj (λl v=>match l,v with | [F],_=>rfl) (λk H Q E h=>?_) (λA g s H k Q E z h=>?_)
 .let(m,t,a,i,o,rfl,b,j,q):=h;rfl
 let(m,t,a,i,o,rfl,b,j,q):=h;calc(_,b,rg Z,λD=>(_,(aM n z Z<|ae (pv 1)<|ae (pv 0) ag),?_,),);let C:=b.2.2.fzs;let so:=So.hide C;calc(t,a,i,o,m,Z,Tbl.so so j,λr G p d u=>q r _ (nK p) ?_,);rcases d with e|e
 .exact .inl<|(cF λB=>by have:=u r B;rw[e]at this;cases this).trans e
 .exact .inr e
def JN(F:Fun K "verdict_form" "verdict_form" s_verdict_form f fd)(bl:Bl K mg Y)(oM:⟨⟩ 17 "mapped" ["form","deep","change"] (gn K Y P w mg base 7))(wB:⟨⟩ 17 "row_form" ["table"] (iR K Y))(uK:⟨⟩ 17 "judged" ["table","rows"] (gm K Y)) {cL tP:La}(c5:fd.code=.ref cL)(ht:dL K "verdict_form" = OP (cL,tP)) (hT:Pl base cL tP/\base.BuiltinsAt mg tP)(Bi:⟨⟩ 7 "judged" ["table","rows"] (gm K Y)):() 18 f fd ["table"] (eU K Y):=by
 refine F.okT c5 Z87 (λvs H Q E h=>?_)<|λA e3 s H vs Q E hr h=>?_
 .let(t,dv,bs,a,L,kk,i,o,rfl,h,N,a3,q):=h;rfl
 let(t,dv,bs,a,L,kk,i,o,rfl,h,N,a3,q):=h;calc(_,(aj<|aE<|Ah (zs:=[("table",0,↥s+1)]) oM hr Z (ae (aM wB hr Z<|ae (pv 0) ag)<|ae (aw az Z bl.len_ OO<|ae (cj (pv 0) Z) ag)<|ae (vS (clos:=[("table",↥s+1)]) Z hT.1 hT.2 Z<|gx.mpr (Z,iU _,)) ag)<|gx.mpr ((Z,bd Z,Z,bd Z,),iU _,)),?_,);let e5:=h.b4;let(rl,dx,dl,fs,xs,b6,f1,f2,d5,c2,e6,hR):=id h.td;let c3:⇑dv=⇑bs:=c2.1;calc(t,dv,bs,a,L,i,o,Z,h.td,h.tb,h.b4,h.r60,h.row,(λc b e=>(BK (h.mrk c b e).1 h.k57,(h.mrk c b e).2,)),h.gr,N,λv H1 O B a0 b1 a6 I a7=>?_,);generalize xM:db (λp l=>bj p.1 p.2 l) bs O=cols at a7;let hok:iG cols bs:=by
  rw[←xM];exact AG a6 h.le λj p l e1 e2=>((I j p l e1 e2).1,λc y=>AL<|((I j p l e1 e2).2 c).mp y,)
 let a5:⇑cols=⇑bs:=by rw[←xM,nI];lia
 let J:∀c∈cols,⇑c<=kk+1:=λc y=>by
  rw[←xM]at y;let(j,V):=ik y;let r:=(KO.mp V).1;rw[nI]at r;let(p,ep):∃p,bs[j]?=OP p:=(_,KN ∅,);let(l,ec):∃l,O[j]?=OP l:=(_,KN ∅,);rw[oE,ep,ec]at V;let V:bj p.1 p.2 l=c:=bm V;rw[←V,cS];let(pw,hm):=I j p l ep ec;let:=n6 pw λx T=>(h.mrk j p ep).2 x<|(hm x).mp T
  let:=(h.mrk j p ep).1;lia
 let y:F5 bs a cols:=(hok,O,a6,xM.symm,I,);calc(t,_,_,_,_,Z,B.ins b6,bl.k_Table,bl.na_Table_domains,f2,dl,_,Z,.inl<|Rm<|B.lst d5,?_,);let(R,m):=b1;let(b5,c1):=a0 R m;let a1:=bl.nt0 R _ m ht;let a4:bT H1 tP [(ph Y85,"verdict_form.<locals>.<lambda>")]:=by
  let(pz,d3,_):=N R m;exact tab_keep (a3 _ ht) a1.symm d3 c1
 let(e4,a9,_):=id a4;refine([(ph Y85,"verdict_form.<locals>.<lambda>")],dt,?_,a4,λf_ c' oc pm ctv S hf kp ef ec c4 vP inj=>?_,)
 .intro p hp _ _;rw[dV.mp hp];rfl
 let M:So H1 S:=λd o p e=>kp d o (λz=>by rw[z,a9]at e;cases e;exact p) e
 let JO:bT S R.2 [(ph Y79,"row_form.<locals>.<lambda>")]:=tab_keep b5 a1 a9 kp;refine λos D hz ho=>?_
 let G:=nO D hz;let c7:∃o,iE S ((([("table",0,↥s+1)]:O4 (Str×Nat×La)).map (·.2.2)).zip os) (↥s+1)=OP (.frz o TTh):=by
  let(o,_,e):=gF (H:=S) (fz:=(([("table",0,↥s+1)]:O4 (Str×Nat×La)).map (·.2.2)).zip os) (b:=↥s+1) (by rw[nN D];exact dt);exact(o,e,)
 let JP:=tR (H:=S) (cl:=[("table",↥s+1)]) (ws:=[("table",.ref t)]) D (by simp) ho (λc y=>by
  simp only[jl,vr,bz,jQ,or_false]at y;exact(_,dt,y.symm,)) (λx v e=>by
  unfold RO at e;split at e
  .rename_i T
   cases e;rw[eq_of_beq T];exact(_,dt,Z,Z,)
  .cases e)
 let jq:hX (iE S ((([("table",0,↥s+1)]:O4 (Str×Nat×La)).map (·.2.2)).zip os)) f_ c' (kt "<lambda>" "verdict_form.<locals>.<lambda>" (nR Y85) (mG Y85) (iH Y85) [("table",↥s+1)] pm c' ctv) "verdict_form.<locals>.<lambda>" [("table",↥s+1)] [("table",.ref t)]:=(G _ _ ef,(oc,G _ _ ec,c4,),JP,);let hN:FZ (K':=K) Am LVd P w K mg base f_ (vdm a i o) (λX=>hX X f_ c' (kt "<lambda>" "verdict_form.<locals>.<lambda>" (nR Y85) (mG Y85) (iH Y85) [("table",↥s+1)] pm c' ctv) "verdict_form.<locals>.<lambda>" [("table",↥s+1)] [("table",.ref t)]/\Tbl Y.k Y.i Y.j X t a i o) :=
  ((_,ij (doc:=.none) (pm:=pm) (ctv:=ctv) (c':=c') (c_0:=↥s+1) bl Bi inj,λX v x Q0 r hv k=>by
   let hv:v=.int x:=hv;subst hv;exact(x,t,a,i,o,Z,r.1,r.2,λr_ e0 s0 b3=>k _ _ s0 (r_,Z,b3,),),),λX r=>(_,_,r.1.1,Z,),λX e0 r s0=>(r.1.same s0,Tbl.same r.2 s0,),)
 refine(Int,SI,inferInstance,inferInstance,Am,LVd,vdm a i o,_,⇑cols,lay (mkg a) cols [],v,f_,?_,∅,∅,?_,?_,hN,(jq,Tbl.same (Tbl.so M<|Tbl.so B h.tb) G,),λu H4 s4 a8=>?_,)
 .rw[c3,←a5]
 .exact(a7.mono M.tups).mono G.tups
 .exact(v7 hok J []).le (by have:=h.few;let:=h.k57;lia)
 rw[Cb hok]at a8;let C:=_L.hide_same D hz s4;let(o2,d4):=c7;let c8:Fzs H4 [↥s+1]:=λd hd=>by rw[dV.mp hd];exact(o2,s4 _ _ d4,)
 let c6:=a8.mono (So.hide c8).tups;let b0:So H (hideL H4 [↥s+1]):=(B.trans M).trans<|So.of C;let(F',d2,d1,d0,c9):=F8 a5 (lay (λcd=>vdm a i o<|mkg a cd) cols []) (λn F=>FmV (K:=K) LVd (hideL H4 [↥s+1]) n F u/\fT n F bs/\SmF 300 n F/\∀l,InB l bs->Tel n F l (vdm a i o<|mkg a l)) (c6,rj hok [],(v7 hok J []).le (by have:=h.few;let:=h.k57;lia),λl a2=>by
  let:=rk (g:=λcd=>vdm a i o<|mkg a cd) hok [] l a2;rw[List.nil_append,Ca y (λx T=>(h.row x T).1) a2]at this;exact this,)
 refine q u F' _ b0 (λz e=>?_) (λz e=>?_) (R,_,m,ht,λd o n1 n2 e=>C _ _<|kp d o n2<|(a0 R m).2 d o n1 e,) d2 d1 d0 c9
 .rw[m]at e;cases e;exact JO.same C
 .rw[ht]at e;cases e;calc vP.same C
def JQ(F:Fun K "planned" "planned" Y73 f fd)(bl:Bl K mg Y)(cY:⟨⟩ 18 "table_bounds" ["table"] (cE K Y))(oN:⟨⟩ 18 "verdict_form" ["table"] (eU K Y))(jY:⟨⟩ 18 "marks_of" ["form","deep"] (eG K Y 7))(mK:⟨⟩ 18 "refuse_blocks" ["marks"] (dX K Y))(uL:⟨⟩ 18 "blocks_of" ["bounds","marks"] (gM K Y))(zh:⟨⟩ 18 "plan_of" ["plans","block","marks","costs","form"] (jN K Y P w mg base)):() 19 f fd ["table","prices"] (gQ K Y P w mg base):=by
 refine F.okA Z74 λh0 A f8 s H vs Q E hr h=>?_
 let(t,dv,bs,u,L,kk,i,o,X,xs,Ls,rfl,h,c1,b6,f1,f5,g6,d2,c4,f0,q):=h
 refine(_,(aH (aG (i:=2) Z74.nd Z (bd Z)<|aM cY hr Z<|ae (pv 0) ag)
  (aH (aG (i:=3) Z74.nd Z (bd Z)<|aM oN hr Z<|ae (pv 0) ag)
  (aH (aG (i:=4) Z74.nd Z (bd Z)<|aM jY hr Z<|ae (pv 3)<|ae (aw az Z bl.len_ OO<|ae (pv 2) ag) ag)
  (aH (aV<|aM mK hr Z<|ae (pv 4) ag)
  (aH (aG (i:=5) Z74.nd Z (bd Z)<|iq (aL Ds (pv 1) Dg<|aQ _) (cZ (aR<|pv 2) (fA Z (~~~0) (~~~0) (~~~0) Z) Z (λ_ _ _ _=>bG)<|λ_ _ _ _=>ak)<|pv 1)
  (aH (aG (i:=6) Z74.nd Z (bd Z) Aw)
  (aq (aW cr Z (aR<|aM uL hr Z<|ae (pv 2)<|ae (pv 4) ag) (aC (i:=7) Z74.nd Z<|bd Z)
  (aj<|BW hr (pv 6) (pv 7) (aM zh hr Z<|ae (pv 6)<|ae (pv 7)<|ae (pv 4)<|ae (pv 5)<|ae (pv 3) ag) Z))
  (aj<|aE<|pv 6)))))))),?_,)
 dsimp only[cw,Rp,Ro];show(let r7:TS:=_;let r6:TS:=bh _ r7;let r5:TS:=cm _ r6;let r4:TS:=cm _ r5;let r3:TS:=cm _ r4;let r2:TS:=cm _ r3;let r1:TS:=cm _ r2;cm _ r1 _ _ _);intro _ _ _ _ _ _ _;let g8:=h.b4;refine(let M:Rq:=λa g=>au H g/\∃(l:La)(ys:O4 V),g l=OP (.lst ys)/\PL g ys bs/\a=[↑t,↑X,↑l,OQ,OQ,OQ,OQ,OQ];(M,?_,?_,))
 .refine(t,dv,bs,u,Z,h.td,∅,λl ys H1 S n1 W c2=>(S,l,ys,W,c2,Z,),)
 rintro g5 H1 ⟨S,l,ys,W,c2,rfl⟩;refine(let M:Rq:=λa g=>Sf H g/\fU K g/\fV K g/\ie K g/\g l=OP (.lst ys)/\PL g ys bs/\∃(v:V)(F:Fm SI ⇑bs),FmV (K:=K) LVd g ⇑bs F v/\fT ⇑bs F bs/\(∀cs,InB cs bs->Tel ⇑bs F cs (vdm u i o<|mkg u cs))/\a=[↑t,↑X,↑l,OP v,OQ,OQ,OQ,OQ];(M,?_,?_,))
 .refine(t,dv,bs,u,L,kk,i,o,Z,h.so<|So.of S,c1.same S,b6.same S,λv F H2 a4 b5 b0 a6 hF hS _ hT=>?_,);let(zr,zv,er,ev,a6):=a6;refine((Sf.of S).trans<|Sf.but2 ((c1 zr er).same S) ((b6 zv ev).same S) a6,b5,b0,λz e=>Em ((f1 z e).same S) ((c1 zr er).same S) ((b6 zv ev).same S) (λq=>bl.nt1 zr z er e q.symm) (λq=>bl.nt2 zv z ev e q.symm) a6,a4.lst W,c2.mono a4.tups,v,F,hF,hS,hT,Z,)
 rintro g4 H2 ⟨a4,b5,b0,e5,T,d1,v,F_,hF,hS,hT,rfl⟩;let c9:=Ci (f:=λcs=>vdm u i o<|mkg u cs) hS hT;let GK:∀c m,mH ⇑bs F_ c m->∃l,Ls[c]?=OP l/\m∈l:=λc m hm=>d2 c m<|(c9 c m).mp hm
 refine(let M:Rq:=λa g=>au H2 g/\∃(R:La)(rs:O4 La)(mss:O4 (O4 Int)),um ⇑bs F_ g R rs mss/\a=[↑t,↑X,↑l,OP v,↑R,OQ,OQ,OQ];(M,?_,?_,))
 .refine(l,_,Z,.inl<|Rm T,⇑bs,F_,v,bs,Ls,by rw[⇑d1],∅,∅,hF,hS,A3 hS GK c4,GK,c4,λR rs mss H3 s3 n3 g7 f6=>(s3,R,rs,mss,f6,Z,),)
 rintro g3 H3 ⟨s3,R,rs,mss,⟨c5,hM,C,c8⟩,rfl⟩;let O:∀(c:Nat)(k:O4 Int),mss[c]?=OP k->k.Pairwise (· < ·)/\∀m,m∈k↔Chg bs (λcs=>vdm u i o<|mkg u cs) c m:=λc k e=>((c8 c k e).1,λm=>((c8 c k e).2 m).trans<|c9 c m,)
 let(a7,GL):=f0 mss C O;let Cu:∀k∈mss,⇑k<=29:=λk f2=>by
  let(c,ec):=ik f2;let o8:∀x∈k,x∈(Ls[c]?).getD []:=λx hx=>by
   let(l,e,hm):=d2 c x<|((O c k ec).2 x).mp hx;rw[e];exact hm
  calc BK (n6 (O c k ec).1 o8) ?_;cases e:Ls[c]? with
  |none=>exact BG _
  |some l=>exact c4 l (KP e)
 let ok:∀(j:Nat)(p:Int×Int)(k:O4 Int),bs[j]?=OP p->mss[j]?=OP k->k.Pairwise (· < ·)/\(∀m∈k,p.1<m/\m<=p.2):=λj p k W T=>⟨(O j k T).1,λm hm=>by
  let(cs,p',h1,h2,h3,h4,_):=((O j k T).2 m).mp hm;rw[W]at h3;cases h3;exact(h4,(h1.get j m p h2 W).2,)⟩
 let JR:MkO bs mss:=(C,λj p k W T=>((ok j p k W T).1,(ok j p k W T).2,Cu k<|KP T,),λj=>by rw[iJ C];let:=a7 j;lia,∅,);refine(let M:Rq:=λa g=>g=H3/\a=[↑t,↑X,↑l,OP v,↑R,OQ,OQ,OQ];(M,?_,?_,))
 .exact(R,rs,mss,Z,c5,hM,Cu,a7 _,a7,Z,Z,)
 rintro g2 H4 ⟨rfl,rfl⟩;refine(let M:Rq:=λa g=>g=H4/\a=[↑t,↑X,↑l,OP v,↑R,↑X,OQ,OQ];(M,?_,?_,))
 .exact(Z,OS,by rw[O0 (by intro z;cases z)],cG (Z,Z,),)
 rintro g1 H5 ⟨rfl,rfl⟩;let a3:Sf H H5:=a4.trans<|Sf.of s3;refine(let M:Rq:=λa g=>∃d:La,H5 d=OQ/\g=upd H5 d (cg P w d [])/\a=[↑t,↑X,↑l,OP v,↑R,↑X,↑d,OQ];(M,?_,?_,))
 .exact λd hd=>(d,hd,Z,Z,)
 rintro g0 H6 ⟨d,nd,rfl,rfl⟩;let s6:=ai nd<|cg P w d [];let e6:upd H5 d (cg P w d []) d=OP (cg P w d []):=af;generalize upd H5 d (cg P w d [])=H6 at s6 e6⊢;calc(l,R,ys,bs,rs,mss,Z,s6 _ _<|s3 _ _ T,(d1.mono s3.tups).mono s6.tups,s6 _ _ c5,hM.same s6,JR,λD us H7 s7 nD eD hB=>?_,);let N:=s6.trans s7;let d3:=s7 _ _ e6;let e8:D≠d:=λz=>by rw[z,e6]at nD;cases nD
 let e9:=hB.1;let a8:∀{x:La}{G:HO},x≠d->H7 x=OP G->hide H7 d x=OP G:=λn e=>bL e n
 let d5:bD H7 (hide H7 d):=λx xs e=>a8 (λz=>by rw[z,d3]at e;cases e) e
 let e0:fU K H7:=(b5.same s3).same N;let d4:fV K H7:=(b0.same s3).same N;let e4:ie K H7:=λz e=>((e5 z e).same s3).same N
 refine⟨D,Z,(_,Rm eD,),(let M:Nat->Rq:=λj a g=>Sf (hide H7 d) g/\fU K g/\fV K g/\ie K g/\∃(I:O4 (NK×La×V))(c7:Option V),DcP P w K g d I (((dN bs mss).take j).map λB=>(B,plF mss xs (vdB u i o) B))/\a=[↑t,↑X,↑l,OP v,↑R,↑X,↑d,c7];aY (xs:=us) M (λx G p e=>by unfold hide at e;split at e;exact OY e (by intro z;cases z);exact e,e0,d4,e4,[],_,(d3,(λe he=>by cases he),.nil,),Z,) (λj a g _ hh=>Rm<|hh.1.lst<|a8 e8 eD) (λj y a H8 ey hh=>?_) (λa H8 hh=>?_))⟩
 .let(a1,b3,a9,a2,I,c7,hD,rfl):=hh;let(b,B,rfl,eB,hb):=aJ.get hB ey;let c3:B∈dN bs mss:=KP eB;let g9:B.length=⇑bs:=gk C B c3;let hj:j<⇑(dN bs mss):=(KO.mp eB).1;let f9:⇑(dN bs mss)<=600:=by
   let:=iJ C ⇑bs;rw[gs,show mss.take ⇑bs=mss by rw[←C,gs]]at this;rw[this];exact a7 _
  let b1:bD H7 H8:=d5.trans a1.tups;let up:∀{x:La}{G:HO},noT G->H5 x=OP G->H8 x=OP G:=λ{x G} p e=>a1 x G p<|a8 (λz=>by rw[z,nd]at e;cases e) (N _ _ e)
  let f4:=xE ⇑bs Z C h.le ok c3;refine(d,b,R,X,v,I,_,B,rs,mss,xs,⇑bs,F_,vdB u i o B,plF mss xs<|vdB u i o,Z,hD,BxA.mono hb b1,∅,up trivial c5,(hM.1,λc k e=>?_,),∅,Cu,up trivial<|a3.lst f5,∅,(λc lo hi m k hc em hm h1 h2=>?_),((hF.mono s3.tups).mono N.tups).mono b1,hT _ f4,a2,λr H9 a0 e3 a5 c6=>?_,)
  .let(r,W,T):=hM.2 c k e;exact(r,W,up trivial T,)
  .let(x1,x2):=xD ⇑bs Z C ok c3 hc em hm h1 h2;exact(dr.mpr (_,x1 j eB,Z,),dr.mpr (_,x2 j eB,Z,),BK (kP _ _) GL,)
  .let(z,ez,a5):=a5;let a0:Sf H8 H9:=Sf.but1 (a2 z ez) a5;let J:=hD.keep (a0 d _ trivial hD.at_) a0.tups;let f3:=Paired.length J.vals;rw[aa,hZ]at f3;let e7:=jI ⇑bs Z C ok;let d0:=BxA.mono hb<|b1.trans a0.tups;let tb:∀{P_:La}{L_:O4 (Pos×Str)},P_≠z.2->bT H8 P_ L_->bT (upd H9 d<|cg P w d<|I++[(bkK B,b,.ref r)]) P_ L_:=λn_ h_=>by
    let(pz,f7,_):=a2 z ez;exact fJ (tab_keep h_ n_ f7 a5) J.at_
   calc(d,b,I,bkK B,Z,Z,J.at_,J.keys,uz d0,aD ∅,Cg J e7 eB,?_,);refine(λx G p e=>?_,λz' e'=>tb (λq_=>bl.nt1 z' z e' ez q_)<|b3 z' e',λz' e'=>tb (λq_=>bl.nt2 z' z e' ez q_)<|a9 z' e',λz' e'=>fJ (e3 z' e') J.at_,I++[(bkK B,b,.ref r)],↑b,?_,Z,)
   .let nx:x≠d:=λq_=>by rw[q_]at e;unfold hide at e;rw[OX Z]at e;cases e
    rw[ar nx];exact a0 x G p<|a1 x G p e
   .rw[take_snoc eB,fq];rw[←A2 (mss:=mss) (xs:=xs) (vd:=vdB u i o) (B:=B) ∅]at c6;exact J.snoc d0 c6
 .let(a1,b3,a9,a2,I,c7,hD,rfl):=hh;rw[e9,gs]at hD;refine(q d I mss H8 (λx G p e=>a1 x G p<|a8 (λz=>?_)<|N _ _<|a3 x G p e) b3 a9 a2 C O (λG p e=>by have:=a3 d G p e;rw[nd]at this;cases this) hD);let:=a3 x G p e;rw[z,nd]at this;cases this
def JS(F:lJ K "ledger" "ledger" Y63 f fd)(bl:Bl K mg Y)(l8:⟨⟩ 19 "planned" ["table","prices"] (gQ K Y P w mg base)):() 20 f fd ["table","prices"] (lW K Y P w mg base):=by
 refine F.okA Z63 λd0 A c7 s H vs Q E hr h=>?_
 let(t,cl,bs,y,i,o,xs,rfl,R,q):=h;refine(_,(aj<|aE<|bC (vW Z hr) Z bl.dict_ PyProof.Rows.boot_dict<|ae (d7 (yx<|aM l8 hr Z<|ae (pv 0)<|ae (pv 1) ag) (dJ (N:=["block","plan"]) (k:=2) Z Z (~~~0) (~~~0)<|~~~0) Z (λ_ _ _ _=>(jx (K:=K) (n:=2) Z Z<|aI (aC (i:=0) (show(["block","plan"]:O4 Str).Nodup by decide+kernel) Z (bd Z) (lf Z)) (aI (aC (i:=1) (show(["block","plan"]:O4 Str).Nodup by decide+kernel) Z (bd Z) (lf Z)) bF))) (λ_ _ _ _=>bG) (λ_ _ _ _=>(bf<|ae (pv 0)<|ae (aF (gC (K:=K) Z) (pv 1) ak<|λ_ _=>Z) ag))) ag),?_,);let(dv,L,kk,Ls,h,c4,c5):=R.ex;calc(t,dv,bs,y,L,kk,i,o,cl,xs,Ls,Z,h,R.rt,R.vt,R.pt,R.pr,R.len,c4,c5,λc a b=>R.few c (a,b,),λd kvs c H1 a9 b1 a8 b4 J c1 nd v=>?_,);let a0:MsO bs (λcs=>vdm y i o<|mkg y cs) c:=(J,c1,);let(M,hM):∃M,M=(dN bs c).map λB=>(B,plF c xs (vdB y i o) B):=(_,Z,)
 rw[←hM]at v;let c2:⇑kvs=M.length:=Paired.length v.vals;let c8:⇑kvs<=600:=by
  let:=iJ J ⇑bs;rw[gs,show c.take ⇑bs=c by rw[←J,gs]]at this;rw[c2,hM,aa,this];exact(R.few c a0).1 _
 calc(d,kvs,Z,v.at_,λo_=>?_,);let(I,g):∃I,I=upd H1 d (.frz o_<|cg P w d kvs):=(_,Z,);show fB _ _ _ _ _ _ _ _ (upd H1 d<|.frz o_<|cg P w d kvs);rw[←g];let ef:I d=OP (.frz o_<|cg P w d kvs):=by rw[g];exact af
 let W:bD H1 I:=λx xs e=>by rw[g,ar (λz=>by rw[z,v.at_]at e;cases e)];exact e
 let a4:Sf H I:=λx o' p e=>by rw[g,ar (λz=>nd o' p (by rw[←z];exact e))];exact a9 x o' p e
 let b0:fU K I:=λz e=>by rw[g];exact fJ (b1 z e) v.at_
 let a7:fV K I:=λz e=>by rw[g];exact fJ (a8 z e) v.at_
 let b3:ie K I:=λz e=>by rw[g];exact fJ (b4 z e) v.at_
 clear g;refine(let I_:La->Nat->O4 V->Rr:=λD j O G=>au I G/\G D=OP (.lst O)/\O.length=j/\∀(e:Nat)(p:NK×La×V),e<j->(cst kvs M)[e]?=OP p->∃r:La,O[e]?=↑r/\G r=OP (.tup [.ref p.2.1,p.2.2]);rE (kvs:=kvs) I_ (λD C=>(ai C _,af,Z,λe p he=>OY he<|EB _,)) (λD j O G C _ hh=>hh.1 _ _ ef) (λD j kv O G T C a3 hh hT ss b5=>?_) (λD O G C hh=>?_))
 .let(sm,eD,X,hy):=hh;let hj:j<⇑kvs:=(KO.mp a3).1;let em:=KN (l:=M) (i:=j) ∅;generalize M[j]=m at em;let(m',a6,e1,a,ea,t0,c6,_):=dC v.vals a3;rw[em]at a6;cases a6;let(k_,S,v_):=kv;cases ea;let(t1,t2,rfl):∃t1 t2,ss=[t1,t2]:=by
   match ss,b5 with
   | [t1,t2],_=>exact(t1,t2,Z,)
  let u1:=ai hT<|.tup [.ref S,.ref a];let eT:upd G T (.tup [.ref S,.ref a]) T=OP (.tup [.ref S,.ref a]):=af;show Dk _ _ _ _ _ (upd G T<|.tup [.ref S,.ref a]) _;generalize upd G T (.tup [.ref S,.ref a])=H2 at u1 eT⊢;let s2:=sm.trans u1;calc(T,_,Z,Rn eT,Z,_,_,Z,_,_,Z,Z,([↑S,↑a],Z,Z,),?_,);calc(a,_,_,_,Z,Z,Rn<|s2 _ _<|W _ _ c6,Z,b9,λr b6=>?_,);let u3:=ai b6<|.tup [.ref S,.int m.2.1];let e3:=u3 _ _<|u1 _ _ eD;refine c0.mk hj e3 (aD ∅) ((s2.trans u3).upd C,af,by rw[br,X];rfl,λe p he ep=>?_,);let st:bD G (upd (upd H2 r<|.tup [.ref S,.int m.2.1]) D<|.lst<|O++[.ref r]):=(u1.trans u3).tups.trans<|aS e3;by_cases z:e<j
  .let(r',a1,a2):=hy e p z ep;exact(r',by rw[fo ∅];exact a1,st _ _ a2,)
  .let ze:e=j:=∅
   subst ze;rw[Er a3 em]at ep;cases ep;exact(r,by rw[←X];simp,aS e3 _ _ af,)
 .let(sm,eD,X,hy):=hh;let c9:⇑(cst kvs M)=⇑kvs:=by unfold cst;rw[nI];lia
  let a5:=A8 v.vals;let c3:(cst kvs M).map (·.1)=(dN bs c).map bkK:=by
   rw[yW a5,hM,oY,oY];rfl
  refine(D,O,cst kvs M,Z,eD,∅,λe p ep=>hy e p (by have:=(KO.mp ep).1;lia) ep,λe he=>?_,?_,λp hp=>?_,)
  .let(j,ej):=ik he;let(e',m',h1,h2,rfl):=A7 ej;exact kM (W.trans sm.tups)<|v.keys e'<|KP h1
  .rw[c3];exact keys_nodup<|jI ⇑bs Z J a0.ok
  .let u:=ai hp<|cg P w p<|cst kvs M;let s3:=sm.trans u;refine q p (cst kvs M) c _ (a4.trans<|Sf.of s3) (b0.same s3) (a7.same s3) (λz e=>(b3 z e).same s3) a0 (af,λe he=>?_,?_,) ?_
   .let(j,ej):=ik he;let(e',m',h1,h2,rfl):=A7 ej;exact kM (W.trans s3.tups)<|v.keys e'<|KP h1
   .let:((dN bs c).map λB=>(B,(plF c xs (vdB y i o) B).1))=M.map λm=>(m.1,m.2.1):=by rw[hM,oY];rfl
    rw[this];exact a5
   .intro o' po e;let:=sm _ _<|a4 _ _ po e;rw[hp]at this;cases this
def JT(F:lJ K "best" "best" Y33 f fd)(bl:Bl K mg Y)(W:⟨⟩ 19 "planned" ["table","prices"] (gQ K Y P w mg base))(cY:⟨⟩ 19 "table_bounds" ["table"] (cE K Y)):() 20 f fd ["table","prices"] (sk K Y):=by
 refine F.okA Z33 λa1 A S s H vs Q E x h=>?_
 let(t,cl,bs,g,i,o,T,rfl,m,q):=h;calc(_,(aj<|aE<|aF (fc x) (aM W x Z<|ae (pv 0)<|ae (pv 1) ag) (bC jv Z bl.tuple_ PZ<|ae (aM cY x Z<|ae (pv 0) ag) ag)<|λ_ _=>Z),?_,);let(V,L,X,Ls,h,O,R):=m.ex;calc(t,V,bs,g,L,X,i,o,cl,T,Ls,Z,h,m.rt,m.vt,m.pt,m.pr,m.len,O,R,λj a b=>m.few j (a,b,),λd I j H1 n D C G r M nd y=>?_,);let J:MsO bs (λcs=>vdm g i o<|mkg g cs) j:=(r,M,);let a0:=h.b4;let h1:=h.so n.so;calc(t,V,bs,g,Z,h1.td,∅,λl v H2 s2 n2 e2 N=>(l,v,Z,.inl (Rm e2,λb hb=>?_,),),);let u:=ai hb<|.tup v;let k:=s2.trans u;let(c,a,hm,hp):=y.get (B:=bs) (p:=plF j T (vdB g i o) bs)<|dr.mpr (bs,qE _ Z r,Z,);calc(d,b,c,I,bkK bs,.ref a,Z,Z,.inl<|k _ _ y.at_,eA k.tups y.keys,uz (v,af,N.mono u.tups,),hm,q a j _ (n.trans<|Sf.of k) (D.same k) (C.same k) (λz e=>(G z e).same k) J<|hp.mono k.tups,)
def JU(F:Fun K "law" "law" Y48 f fd)(bl:Bl K mg Y)(pD:⟨⟩ 20 "_law_fences" ["script"] (fW K Y))(uM:⟨⟩ 20 "_law_rows" ["script","fences"] (iO K Y))(uN:⟨⟩ 20 "_law_outs" ["script"] (iP K Y))(sI:⟨⟩ 20 "_law_table" ["script","fences","rows","outs"] (gP K Y))(pE:⟨⟩ 20 "_law_prices" ["script","count"] (fX K Y))(oO:⟨⟩ 20 "ledger" ["table","prices"] (lW K Y P w mg base))(EG:⟨⟩ 20 "best" ["table","prices"] (sk K Y))(mL:⟨⟩ 20 "_law_verdicts" ["fences","rows","outs","way"] (eR K Y))(jZ:⟨⟩ 20 "_law_way" ["script"] (gO K Y))(mC:⟨⟩ 20 "_law_paid" ["tree","codes","prices"] (iQ K Y)):() 21 f fd ["script"] (J18 K):=by
 refine F.ok Z48 (λvs H Q E h=>?_)<|λy4 A v3 s H vs Q E hr h=>?_
 .let(a,ns,rfl,hS,j9,j4,j3,j5,q):=h;rfl
 let(a,ns,rfl,hS,j9,j4,j3,j5,q):=h;refine'(?tt,?r0,?rd,)
 case' r0=>refine' aH ?N0 ?r1
 case' r1=>refine' aH ?N1 ?r2
 case' r2=>refine' aH ?N2 ?r3
 case' r3=>refine' aH ?N3 ?r4
 case' r4=>refine' aH ?N4 ?r5
 case' r5=>refine' aH ?N5 ?r6
 case' r6=>refine' aH ?N6 ?r7
 case' r7=>refine' aH ?N7 ?r8
 case' r8=>refine' aH ?N8 ?r9
 case' r9=>refine' aH ?N9 ?M0
 case' M0=>refine' aH ?M1 ?M2
 case' M2=>refine' aH ?M3 ?M4
 case' M4=>refine' aH ?M5 ?M6
 case' M6=>refine' aH ?M7 ?M8
 case' M8=>refine' aH ?M9 ?L0
 case' L0=>refine' aH ?L1 ?L2
 case' L2=>refine' aq ?L3 ?L4
 case' L4=>refine' aj ?L5
 case N0=>exact(aG (i:=1) Z48.nd Z (lf Z)<|aM pD hr Z<|ae (pv 0) ag)
 case N1=>exact(aG (i:=2) Z48.nd Z (bd Z)<|aM uM hr Z<|ae (pv 0)<|ae (pv 1) ag)
 case N2=>exact(aG (i:=3) Z48.nd Z (bd Z)<|aM uN hr Z<|ae (pv 0) ag)
 case N3=>exact(aG (i:=4) Z48.nd Z (bd Z)<|aM sI hr Z<|ae (pv 0)<|ae (pv 1)<|ae (pv 2)<|ae (pv 3) ag)
 case N4=>exact(aG (i:=5) Z48.nd Z (bd Z)<|aM pE hr Z<|ae (pv 0)<|ae (aw az Z bl.len_ OO<|ae (pv 1) ag) ag)
 case N5=>exact(aG (i:=6) Z48.nd Z (lf Z) ak)
 case' N6 =>
  refine' aW cr Z (aR<|pv 0) (aC (i:=7) Z48.nd Z<|bd Z) ?L6
  case' L6=>refine' aj ?L7
  case' L7=>refine' aG (i:=6) ?L8 ?L9 ?K0 ?K1 ?K2 ?K3
  case L8=>exact Z48.nd
  case L9=>exact Z
  case K0=>exact(lf Z)
  case' K1=>refine' ay ?K4 ?K5 ?K6
  case K4=>exact bu
  case' K5=>refine' ay ?K7 ?K8 ?K9
  case K7=>exact bw
  case' K8=>refine' ay ?J0 ?J1 ?J2
  case J0=>exact fC
  case J1=>exact(pv 6)
  case' J2=>refine' ay ?J3 ?J4 ?J5
  case J3=>exact cB
  case J4=>exact ak
  case J5=>exact ak
  case K9=>exact(pv 7)
  case' K6=>refine' ay ?J6 ?J7 ?J8
  case J6=>exact b7
  case' J7=>refine' ay ?J9 ?I0 ?I1
  case J9=>exact cB
  case I0=>exact ak
  case I1=>exact ak
  case J8=>exact ak
  case K2=>exact Z
  case' K3=>first|exact .inl Z|exact .inr Z
 case N7=>exact(aG (i:=6) Z48.nd Z (lf Z)<|ay bw (pv 6) ak)
 case N8=>exact(aG (i:=8) Z48.nd Z (bd Z)<|aM oO hr Z<|ae (pv 4)<|ae (bC cC Z bl.list_ ls<|ae (pv 5) ag) ag)
 case N9=>exact(aG (i:=9) Z48.nd Z (bd Z)<|aM oO hr Z<|ae (pv 4)<|ae (cZ (aR<|pv 5) (bM (N:=["cost","times"]) (fr:=[6]) (cl:=[("times",↥s+1+1)]) Z Z (~~~0) (~~~0) Z (~~~0) Z Z Z (gx.mpr (Z,iU _,)) Z) Z (λ_ _ _ _=>bG)<|λ_ _ _ _=>(ay fC (pv 0)<|pv 1)) ag)
 case M1=>exact(aG (i:=10) Z48.nd Z (bd Z)<|bC cC Z bl.list_ ls<|ae (pv 5) ag)
 case M3=>exact(BI (pv 10) (ay bu (pv 6)<|aw az Z bl.len_ OO<|ae (pv 5) ag) (pv 6) zx<|λ_ _ _=>Z)
 case M5=>exact(aG (i:=11) Z48.nd Z (bd Z)<|aM oO hr Z<|ae (pv 4)<|ae (pv 10) ag)
 case M7=>exact(aX (PW.pt<|sQ (aL mZ (aw jb Z bl.len_ OO<|ae (pv 9) ag) (aw jb Z bl.len_ OO<|ae (pv 8) ag)<|aQ _)<|mX<|aL mZ (aw jb Z bl.len_ OO<|ae (pv 11) ag) (aw jb Z bl.len_ OO<|ae (pv 8) ag)<|aQ _)
 (aj<|aE ip)
 aN)
 case M9=>exact(aW cr Z (xp<|pv 8) (aC (i:=12) Z48.nd Z<|bd Z)
 (aq (aX (PW.pt<|sQ (aL (qt hr) (pv 12) (pv 9) (by with_unfolding_all rfl)) (mX<|aL mZ (aF (fc hr) (pv 9) (pv 12)<|λ_ _=>Z) (ay fC (aF (fc hr) (pv 8) (pv 12)<|λ_ _=>Z)<|pv 6)<|aQ _))
 (aj<|aE ip)
 aN)
 (aj (aX (PW.pt<|sQ (aL (qt hr) (pv 12) (pv 11) (by with_unfolding_all rfl)) (mX<|aL iu (aF (fc hr) (pv 11) (pv 12)<|λ_ _=>Z) (aF (fc hr) (pv 8) (pv 12)<|λ_ _=>Z)<|aQ _))
 (aj<|aE ip)
 aN))))
 case L1=>exact(aG (i:=13) Z48.nd Z (bd Z)<|aM EG hr Z<|ae (pv 4)<|ae (bC cC Z bl.list_ ls<|ae (pv 5) ag) ag)
 case L3=>exact(aW cr Z (xp<|aM mL hr Z<|ae (pv 1)<|ae (pv 2)<|ae (pv 3)<|ae (aM jZ hr Z<|ae (pv 0) ag) ag) (aC (i:=14) Z48.nd Z<|lf Z)
 (aH (qW (i:=15) Z48.nd Z (bd Z) (bB Z bl.range_<|ae (aw az Z bl.len_ OO<|ae (pv 14) ag) ag) (bM (N:=["k","fences","at"]) (fr:=[1,14]) (cl:=[("fences",↥s+1),("at",↥s+1+1+1)]) Z Z (~~~0) (~~~0) Z (~~~0) Z Z Z (gx.mpr (Z,gx.mpr (Z,iU _,),)) Z) Z (λ_ _ _ _=>bG)<|λ_ _ _ _=>(aF (dI (K:=K) Z) (aF (dI (K:=K) Z) (pv 1) (pv 0)<|λ_ _=>Z) (aF (gC (K:=K) Z) (pv 2) (pv 0)<|λ_ _=>Z)<|λ_ _=>Z))
 (aH (qW (i:=16) Z48.nd Z (bd Z) (bB Z bl.range_<|ae (aw az Z bl.len_ OO<|ae (pv 14) ag) ag) (bM (N:=["k","fences","at"]) (fr:=[1,14]) (cl:=[("fences",↥s+1),("at",↥s+1+1+1)]) Z Z (~~~0) (~~~0) Z (~~~0) Z Z Z (gx.mpr (Z,gx.mpr (Z,iU _,),)) Z) Z (λ_ _ _ _=>bG)<|λ_ _ _ _=>(ay b7 (aF (dI (K:=K) Z) (aF (dI (K:=K) Z) (pv 1) (pv 0)<|λ_ _=>Z) (ay bw (aF (gC (K:=K) Z) (pv 2) (pv 0)<|λ_ _=>Z) ak)<|λ_ _=>Z) ak))
 (aj (aX (aL mh (aw (i4 Z) Z bl.max_ rc<|ae (aM mC hr Z<|ae (aF aZ (pv 13) ak<|λ_ _=>Z)<|ae (pv 15)<|ae (pv 5) ag)<|ae (aM mC hr Z<|ae (aF aZ (pv 13) ak<|λ_ _=>Z)<|ae (pv 16)<|ae (pv 5) ag) ag) (aF aZ (pv 13) ak<|λ_ _=>Z)<|aQ _)
 (aj<|aE ip)
 aN)))))
 case L5=>exact(aE ip)
 case rd =>
  dsimp only[cw,Rp,Ro];show(let r17:TS:=_;let r16:TS:=bh _ r17;let r15:TS:=cm _ r16;let r14:TS:=cm _ r15;let r13:TS:=cm _ r14;let r12:TS:=cm _ r13;let r11:TS:=cm _ r12;let r10:TS:=cm _ r11;let r9:TS:=cm _ r10;let r8:TS:=cm _ r9;let r7:TS:=cm _ r8;let r6:TS:=cm _ r7;let r5:TS:=cm _ r6;let r4:TS:=cm _ r5;let r3:TS:=cm _ r4;let r2:TS:=cm _ r3;let r1:TS:=cm _ r2;cm _ r1 _ _ _);intro _ _ _ _ _ _ _ _ _ _ _ _ _ _ _ _ _;calc(let O:Rq:=λC G=>au H G/\∃(fl:La)(xs:O4 V)(L:O4 (O4 Int)),G fl=OP (.lst xs)/\PTL G xs L/\FnG ns L/\C=[↑a,↑fl,OQ,OQ,OQ,OQ,OQ,OQ,OQ,OQ,OQ,OQ,OQ,OQ,OQ,OQ,OQ];(O,(a,ns,Z,hS,λfl xs L G s' e h g=>(s',fl,xs,L,e,h,g,Z,),),?_,));rintro x7 H1 ⟨s1,fl,xs,L,e8,c5,hg,rfl⟩;let(qs,hq,y0,q2):=id hg.sz;let(q1,q4,q7):=rZ qs hq;let JV:∀I∈L,Pts I/\I.length<=10:=λI h=>(hg.pts I h,by
   let(j,ej):=ik h;let eq:=KN (l:=qs) (i:=j) (by have:=(KO.mp ej).1;lia);let:=q2 j I _ ej eq;let:=(q7 _<|KP eq).2;lia,)
  calc(let O:Rq:=λC G=>au H1 G/\∃(rl:La)(rx:O4 V)(a3:O4 (O4 Int×Int)),G rl=OP (.lst rx)/\BRL G rx a3/\⇑a3<=12/\(∀b∈a3,⇑b.1=L.length/\0<=b.2/\b.2<3/\∀x∈b.1,0<=x)/\C=[↑a,↑fl,↑rl,OQ,OQ,OQ,OQ,OQ,OQ,OQ,OQ,OQ,OQ,OQ,OQ,OQ,OQ];(O,(a,fl,ns,xs,L,Z,s1.seq hS,j9,e8,c5,hg.pts,∅,∅,λrl rx a3 G s' e h1 h2 h3=>(s',rl,rx,a3,e,h1,h2,h3,Z,),),?_,));rintro x6 H2 ⟨t2,rl,rx,a3,k0,hR,y3,g7,rfl⟩;let s2:=s1.trans t2;calc(let O:Rq:=λC G=>au H2 G/\∃(ol:La)(os:O4 Int),G ol=OP (.lst<|os.map RV)/\qF (bE ns 5) os/\C=[↑a,↑fl,↑rl,↑ol,OQ,OQ,OQ,OQ,OQ,OQ,OQ,OQ,OQ,OQ,OQ,OQ,OQ];(O,(a,ns,Z,s2.seq hS,λol os G s' e h=>(s',ol,os,e,h,Z,),),?_,));rintro x5 H3 ⟨t3,ol,os,l4,f8,rfl⟩;let s3:=s2.trans t3;let(ED,_):=Gd f8;calc(let O:Rq:=λC G=>au H3 G/\∃(t:La)(J:O4 Rw)(nm wy:Str)(ou:La)(zs:O4 Str)(dv:O4 V),rJ (λ_=>True) Y.k G t J nm wy ou zs dv/\six[wyF ns]?=OP wy/\aJ dv (L.map λI=>(loP I,hiP I)) (Dom Y.i Y.j G)/\Dom Y.i Y.j G ou (o0<|oW ns os,o4<|oW ns os)/\J.length=⇑a3/\(∀w∈J,mw (L.map λI=>(loP I,hiP I)) (o0<|oW ns os,o4<|oW ns os) w)/\(∀(k:Nat)(b:O4 Int×Int)(x:Rw),(bmC os a3)[k]?=OP b->J[k]?=OP x->GrR L b x)/\C=[↑a,↑fl,↑rl,↑ol,↑t,OQ,OQ,OQ,OQ,OQ,OQ,OQ,OQ,OQ,OQ,OQ,OQ];(O,(a,fl,rl,ol,ns,xs,L,os,rx,a3,Z,s3.seq hS,(t2.trans t3) _ _ e8,c5.same<|t2.trans t3,hg,∅,∅,l4,f8,t3 _ _ k0,hR.same t3,∅,g7,λt J nm wy ou zs dv G s' k1 k2 k3 k4 k5 k6 k7=>(s',t,J,nm,wy,ou,zs,dv,k1,k2,k3,k4,k5,k6,k7,Z,),),?_,));rintro x4 H4 ⟨t4,t,J,nm,wy,ou,zs,dv,hT,j2,t1,q5,p7,hok,s9,rfl⟩;let s4:=s3.trans t4;refine(let O:Rq:=λC G=>au H4 G/\∃(pl:La)(I:O4 Int),G pl=OP (.lst<|I.map RV)/\I.length=L.length/\(∀x∈I,1<=x/\x<2^210)/\C=[↑a,↑fl,↑rl,↑ol,↑t,↑pl,OQ,OQ,OQ,OQ,OQ,OQ,OQ,OQ,OQ,OQ,OQ];(O,?_,?_,))
  .refine(fl,_,Z,.inl<|Rm<|((t2.trans t3).trans t4) _ _ e8,a,ns,⇑xs,Z,s4.seq hS,by have:=c5.1;lia,λpl I G s' e h1 h2=>(s',pl,I,e,by rw[h1];exact c5.1,h2,Z,),)
  rintro x3 H5 ⟨t5,pl,I,c8,JW,f7,rfl⟩;let s5:=s4.trans t5;calc(let O:Rq:=λC G=>G=H5/\C=[↑a,↑fl,↑rl,↑ol,↑t,↑pl,OP<|.int 0,OQ,OQ,OQ,OQ,OQ,OQ,OQ,OQ,OQ,OQ];(O,(Z,Z,),?_,));rintro x2 H6 ⟨z6,rfl⟩;subst z6;refine(let O:Rq:=λC G=>G=H6/\∃(R:Int)(c7:Option V),0<=R/\R<2^110/\C=[↑a,↑fl,↑rl,↑ol,↑t,↑pl,OP<|.int R,c7,OQ,OQ,OQ,OQ,OQ,OQ,OQ,OQ,OQ];(O,?_,?_,))
  .refine⟨a,Z,(_,s5.seq hS,),(let O:Nat->Rq:=λi C G=>G=H6/\∃(R:Int)(c7:Option V),0<=R/\R<2^110/\C=[↑a,↑fl,↑rl,↑ol,↑t,↑pl,OP<|.int R,c7,OQ,OQ,OQ,OQ,OQ,OQ,OQ,OQ,OQ];aY (xs:=ns.map RV) O (Z,0,_,ca _,⋯,Z,) (λi C G _ h=>by rw[h.1];exact s5.seq hS) (λi y C G ey h=>?_) (λC G h=>h))⟩;let(e1,R,c7,i1,n1,rfl):=h;rw[e1];let(c,rfl,_):=of_map ey;let m1:L4 R (48271^(6:Int).toNat):=d8 (m:=200) (n:=200) ∅ (~~~0) ⋯ ⋯;let hp:(0:Int)<10^(30:Int).toNat-1:= ~~~0
   refine(_,_,Z,Z,(⋯,⋯,⋯,),_,_,Z,Z,m1,_,_,Z,Z,_,_,Z,Z,(⋯,⋯,⋯,),_,_,Z,Z,_,_,Z,Z,hp,Z,_,_,Kq _<|Pp hp,Int.lt_of_lt_of_le (Kx _ hp)<|~~~0,Z,)
  rintro w9 H7 ⟨z7,i1,c7,n1,x8,rfl⟩;subst z7;let(R,p3):∃R,R=i1+1:=(_,Z,);let p2:0<R:=∅
  let uJ:R.natAbs<2^111:=∅
  refine(let O:Rq:=λC G=>G=H7/\C=[↑a,↑fl,↑rl,↑ol,↑t,↑pl,OP<|.int R,c7,OQ,OQ,OQ,OQ,OQ,OQ,OQ,OQ,OQ];(O,(_,_,Z,Z,Z,by rw[p3];rfl,),?_,));rintro w8 H8 ⟨z8,rfl⟩;subst z8;let j0:fU K H8:=λz e=>(bT.new<|j4 z e).same s5
  let h9:fV K H8:=λz e=>(bT.new<|j3 z e).same s5
  let j1:ie K H8:=λz e=>(bT.new<|j5 z e).same s5
  let u5:∀b∈bmC os a3,⇑b.1=L.length:=λb hb=>by
   let(b',u7,rfl):=dr.mp hb;exact(g7 b' u7).1
  let c1:PlH Y.k Y.i Y.j K H8 t pl (L.map λI=>(loP I,hiP I)) J (wyF ns) (o0<|oW ns os,o4<|oW ns os) I:=Ex (hT.same t5) j2 (aJ.mono t1 λ_ _ p=>p.same t5) (q5.same t5) (by rw[se];exact p7) hok s9 u5 hg ED (by rw[se];lia) j0 h9 j1 c8 JW;let(bs,j6):∃bs,bs=L.map λI=>(loP I,hiP I):=(_,Z,)
  let(o,ho):∃o,o=(o0<|oW ns os,o4<|oW ns os):=(_,Z,);let(i,hi):∃i,i=wyF ns:=(_,Z,);rw[←j6,←ho,←hi]at c1;rw[←hi]at j2;let u0:⇑bs=L.length:=by rw[j6,aa]
  let p0:∀x∈I,0<=x:=λx hx=>by have:=(f7 x hx).1;lia
  refine(let O:Rq:=λC G=>Sf H8 G/\fU K G/\fV K G/\ie K G/\∃(X:La)(a2:O4 (NK×La×V))(mss:O4 (O4 Int)),MsO bs (λcs=>vdm J i o<|mkg J cs) mss/\DcI P w G X a2 ((dN bs mss).map λB=>(B,(plF mss I (vdB J i o) B).1))/\(∀o,noT o->H8 X≠OP o)/\C=[↑a,↑fl,↑rl,↑ol,↑t,↑pl,OP<|.int R,c7,↑X,OQ,OQ,OQ,OQ,OQ,OQ,OQ,OQ];(O,?_,?_,))
  .refine(pl,_,Z,.inl<|Rm c8,λl hl=>?_,);let u:=ai hl<|.lst<|I.map RV;refine(t,l,bs,J,i,o,I,Z,c1.mv (So.of u) (j0.same u) (h9.same u) (λz e=>(j1 z e).same u) af Z,λd a0 mss G sf rt vt pt hm hD nd=>((Sf.of u).trans sf,rt,vt,pt,d,a0,mss,hm,hD,λo' n' e'=>nd o' n'<|u _ _ e',Z,),)
  rintro w7 H9 ⟨d5,n3,n0,n4,X,a2,mss,a8,S,o3,rfl⟩;let(Fg,GL):=c1.few mss a8;let EH:=d5.lst c8;refine(let O:Rq:=λC G=>Sf H9 G/\fU K G/\fV K G/\ie K G/\∃(d2:La)(b5:O4 (NK×La×V)),DcI P w G d2 b5 ((dN bs mss).map λB=>(B,(plF mss (I.map (· * R)) (vdB J i o) B).1))/\(∀o,noT o->H9 d2≠OP o)/\C=[↑a,↑fl,↑rl,↑ol,↑t,↑pl,OP<|.int R,c7,↑X,↑d2,OQ,OQ,OQ,OQ,OQ,OQ,OQ];(O,?_,?_,))
  .refine(pl,Z,(_,Rm EH,),(let O:La->Nat->O4 V->Rr:=λD j zs G=>au H9 G/\G D=OP (.lst zs)/\zs=((I.take j).map (· * R)).map RV;dS (xs:=I.map RV) O (λD hD=>(ai hD _,af,Z,)) (λD j zs G hD _ hh=>Rm<|hh.1 _ _ EH) (λD j y zs G hD e hh=>?_) (λD zs G hD hh=>?_)),)
   .let(sm,eD,rfl):=hh;let(x,rfl,ex):=of_map e;let hj:j<⇑(I.map RV):=(KO.mp e).1;let y2:I.length<=4:=∅
    let x9:=f7 x<|KP ex;refine(_,_,Z,Z,d8 (m:=220) (n:=111) ∅ uJ ⋯ ⋯,c0.mk hj eD (aD (by simp;lia)) (sm.upd hD,af,?_,),);rw[take_snoc ex,fq,fq];rfl
   .let(sm,eD,rfl):=hh;rw[aa,gs]at eD;calc(t,D,bs,J,i,o,I.map (· * R),Z,c1.mv (d5.so.trans<|So.of sm) (n3.same sm) (n0.same sm) (λz e=>(n4 z e).same sm) eD<|aa ..,λd a0 wA W sf rt vt pt hm g9 nd=>?_,);obtain rfl:wA=mss:=hm.uniq a8;exact((Sf.of sm).trans sf,rt,vt,pt,d,a0,g9,λo' n' e'=>nd o' n'<|sm _ _ e',Z,)
  rintro w5 h8 ⟨Cy,JX,JY,JZ,d2,b5,a6,o2,rfl⟩;let C6:=Cy.lst EH;let o8:d2≠X:=λz=>o2 (cg P w X a2) trivial (by rw[z];exact S.at_)
  let S:=S.so Cy.so;calc(let O:Rq:=λC G=>au h8 G/\∃rs:La,h8 rs=OQ/\G rs=OP (.lst<|I.map RV)/\C=[↑a,↑fl,↑rl,↑ol,↑t,↑pl,OP<|.int R,c7,↑X,↑d2,↑rs,OQ,OQ,OQ,OQ,OQ,OQ];(O,(pl,_,Z,.inl<|Rm C6,λl hl=>(ai hl _,l,hl,af,Z,),),?_,));rintro w4 z2 ⟨i8,rs,n7,e6,rfl⟩;let GN:=i8 _ _ C6;let(k,hk):∃k:Nat,R%((I.length:Nat):Int)=(k:Int):=((R%((I.length:Nat):Int)).toNat,by have:=Kq R (show((I.length:Nat):Int)≠0 by lia);lia,);let g0:k<I.length:=by have:=Kx R (show(0:Int)<((I.length:Nat):Int) by lia);lia
  let(y,ey):∃y,I[k]?=OP y:=(_,KN g0,);refine(let O:Rq:=λC G=>au h8 G/\G rs=OP (.lst<|(I.set k<|y+R).map RV)/\C=[↑a,↑fl,↑rl,↑ol,↑t,↑pl,OP<|.int R,c7,↑X,↑d2,↑rs,OQ,OQ,OQ,OQ,OQ,OQ];(O,?_,?_,))
  .refine(pl,_,Z,.inl<|Rm GN,_,_,Z,Z,(by rw[aa];lia),rs,I.map RV,k,.int y,Z,(by rw[aa,hk]),e6,get_map ey,y,R,Z,Z,e6,?_,);exact(i8.upd n7,by rw[af,zS],Z,)
  rintro w2 l8 ⟨a7,e6,rfl⟩;let S:=S.so<|So.of a7;let a6:=a6.so<|So.of a7;refine(let O:Rq:=λC G=>Sf l8 G/\fU K G/\fV K G/\ie K G/\∃(d3:La)(b4:O4 (NK×La×V)),DcI P w G d3 b4 ((dN bs mss).map λB=>(B,(plF mss (I.set k<|y+R) (vdB J i o) B).1))/\(∀o,noT o->l8 d3≠OP o)/\C=[↑a,↑fl,↑rl,↑ol,↑t,↑pl,OP<|.int R,c7,↑X,↑d2,↑rs,↑d3,OQ,OQ,OQ,OQ,OQ];(O,?_,?_,))
  .refine(t,rs,bs,J,i,o,_,Z,c1.mv ((d5.trans Cy).so.trans<|So.of a7) (JX.same a7) (JY.same a7) (λz e=>(JZ z e).same a7) e6<|jB ..,λd a0 wA W sf rt vt pt hm g9 nd=>?_,);obtain rfl:wA=mss:=hm.uniq a8;exact(sf,rt,vt,pt,d,a0,g9,nd,Z,)
  rintro w1 v2 ⟨EI,Ka,Kb,Kc,d3,b4,c6,o1,rfl⟩;let o5:d3≠X:=λz=>o1 (cg P w X a2) trivial (by rw[z];exact S.at_)
  let S:=S.so EI.so;let a6:=a6.so EI.so;let l1:=Paired.length S.vals;let l2:=Paired.length a6.vals;let l3:=Paired.length c6.vals;rw[aa]at l1 l2 l3;refine(let O:Rq:=λC G=>G=v2/\C=[↑a,↑fl,↑rl,↑ol,↑t,↑pl,OP<|.int R,c7,↑X,↑d2,↑rs,↑d3,OQ,OQ,OQ,OQ,OQ];(O,?_,?_,))
  .refine(d2,b5,Z,.inl a6.at_,X,a2,Z,.inl S.at_,Z,_,Z,?_,);refine ck (λg=>OY g (by rw[l1,l2];simp)) (λ_=>?_);calc(d3,b4,Z,.inl c6.at_,X,a2,Z,.inl S.at_,Z,_,Z,?_,);exact ck (λg=>OY g (by rw[l1,l3];simp)) (λ_=>(Z,Z,))
  rintro w0 f1 ⟨m0,rfl⟩;subst m0;let Kd:Sf H8 f1:=(d5.trans Cy).trans<|(Sf.of a7).trans EI;let(f_,t0):∃f:O4 Int->SI2,f=λcs=>vdm J i o (mkg J cs):=(_,Z,)
  let f5:vdB J i o=vdF f_:=by rw[t0];rfl
  let q6:∀c,I.getD c 0<=(I.set k<|y+R).getD c 0:=λc=>by
   rw[ab,ab,lX];by_cases z:k=c
   .subst z;rw[OX Z,OX g0,ey];show y<=y+R;lia
   .rw[OW z];exact ca _
  let Ke:∀B:Blk,⇑mss=B.length->0<=(plF mss I (vdB J i o) B).1/\(plF mss I (vdB J i o) B).1<2^220:=λB hl=>by
   rw[f5];let(_,e,_):=lR (xs:=I) (f:=f_) _ B hl<|Ab _;rw[←e];let u1:=A4 p0 (plF mss I (vdF f_) B).2;let u2:=wq (M:=2^210) ⋯ (λx hx=>xz (f7 x hx).2) (plF mss I (vdF f_) B).2;let u3:=xG (mss:=mss) (xs:=I) (vd:=vdF f_) B;let u4:(((plF mss I (vdF f_) B).2.dep:Nat):Int)*2^210<=50*2^210:=wE ∅ ⋯;refine(u1,Int.lt_of_le_of_lt (Int.le_trans u2 u4) ⋯,)
  refine(let O:Rq:=λC G=>Sf H8 G/\fU K G/\fV K G/\ie K G/\∃a5:Option V,C=[↑a,↑fl,↑rl,↑ol,↑t,↑pl,OP<|.int R,c7,↑X,↑d2,↑rs,↑d3,a5,OQ,OQ,OQ,OQ];(O,?_,?_,))
  .refine(X,cg P w X a2,⇑a2,_,Z,FP,.inl (S.at_,λob=>?_,),);let(Hf,c4):∃Hf,Hf=upd f1 X (.frz ob<|cg P w X a2):=(_,Z,);rw[←c4];let ef:Hf X=OP (.frz ob<|cg P w X a2):=by rw[c4];exact af
   let e0:∀{b:La}{u:HO},b≠X->f1 b=OP u->Hf b=OP u:=λ{b u} n e=>by rw[c4,ar n];exact e
   let f3:bD f1 Hf:=λb us e=>e0 (λz=>by rw[z,S.at_]at e;cases e) e
   let k1:=eA f3 S.keys;let k2:=eA f3 a6.keys;let k3:=eA f3 c6.keys;let e2:=e0 o8 a6.at_;let e3:=e0 o5 c6.at_;refine(let O:Nat->Rq:=λj C G=>G=Hf/\∃a5:Option V,C=[↑a,↑fl,↑rl,↑ol,↑t,↑pl,OP<|.int R,c7,↑X,↑d2,↑rs,↑d3,a5,OQ,OQ,OQ,OQ];uc O (Z,_,Z,) (λj C G _ h=>by rw[h.1];exact ef) (λj x C G hj hY h=>?_) (λC G h=>?_))
   .let(z1,a5,rfl):=h;subst z1;let(kv,l5,rfl):=hY;let(m,em,g6,f6):=dC S.vals l5;rw[dy]at em;let(B,eB,rfl):=KY.mp em;let h0:=KP eB;let j8:⇑mss=B.length:=by rw[a8.1];exact(gk a8.1 B h0).symm
    let(kk,kc,kx):=kv;let g6:kk=bkK B:=g6;let f6:kx=.int (plF mss I (vdB J i o) B).1:=f6;subst g6 f6;let m1:=KP l5;let b6:rD G (bkK B) kc:=k1 _ m1;let(c2,m2):=a6.get (B:=B) (x:=(plF mss (I.map (· * R)) (vdB J i o) B).1)<|dr.mpr (B,h0,Z,);let(c3,m3):=c6.get (B:=B) (x:=(plF mss (I.set k<|y+R) (vdB J i o) B).1)<|dr.mpr (B,h0,Z,);let s6:bkK B∈b5.map (·.1):=dr.mpr (_,m2,Z,);let s0:bkK B∈b4.map (·.1):=dr.mpr (_,m3,Z,);let(x0,x1):=Ke B j8;let p4:(plF mss (I.map (· * R)) (vdB J i o) B).1=(plF mss I (vdB J i o) B).1*R:=by rw[yV p2]
    let y1:(plF mss I (vdB J i o) B).1<=(plF mss (I.set k<|y+R) (vdB J i o) B).1:=by rw[f5];exact A6 p0 q6 j8
    let mk:L4 (plF mss I (vdB J i o) B).1 R:=d8 (m:=220) (n:=111) ∅ uJ ⋯ ⋯;refine(d2,kc,b5,bkK B,Z,Z,.inl e2,k2,b6,OS,(by rw[OX Z,OZ s6];rfl),cG ?_,);calc(d2,kc,c2,b5,bkK B,_,Z,Z,.inl e2,k2,b6,m2,X,kc,kc,a2,bkK B,_,Z,Z,.inr (ob,ef,),k1,b6,m1,_,_,Z,Z,mk,Z,_,Z,?_,);refine ck (λg=>OY g (by rw[p4];simp)) (λ_=>?_);refine(d3,kc,b4,bkK B,Z,Z,.inl e3,k3,b6,OS,(by rw[OX Z,OZ s0];rfl),cG ?_,);calc(d3,kc,c3,b4,bkK B,_,Z,Z,.inl e3,k3,b6,m3,X,kc,kc,a2,bkK B,_,Z,Z,.inr (ob,ef,),k1,b6,m1,_,_,Z,Z,_,Z,?_,);exact ck (λg=>OY (O1 g) ∅)<|λ_=>(Z,_,Z,)
   .let(z1,a5,rfl):=h;subst z1;refine(λx o' n' e'=>e0 (λz=>o3 o' n' (by rw[←z];exact e')) (Kd _ _ n' e'),(λz e=>?_),(λz e=>?_),(λz e=>?_),_,Z,)
    .rw[c4];exact fJ (Ka z e) S.at_
    .rw[c4];exact fJ (Kb z e) S.at_
    .rw[c4];exact fJ (Kc z e) S.at_
  rintro v8 y9 ⟨EJ,Kf,Kg,Kh,a5,rfl⟩;let GO:=EJ.lst c8;refine(let O:Rq:=λC G=>Sf H8 G/\∃rf:La,PlA K G (plF mss I (vdB J i o) bs) rf/\C=[↑a,↑fl,↑rl,↑ol,↑t,↑pl,OP<|.int R,c7,↑X,↑d2,↑rs,↑d3,a5,↑rf,OQ,OQ,OQ];(O,?_,?_,))
  .refine(pl,_,Z,.inl<|Rm GO,λl hl=>?_,);let u:=ai hl<|.lst<|I.map RV;calc(t,l,bs,J,i,o,I,Z,c1.mv (EJ.so.trans<|So.of u) (Kf.same u) (Kg.same u) (λz e=>(Kh z e).same u) af Z,λr wA G sf rt vt pt hm hp=>?_,);obtain rfl:wA=mss:=hm.uniq a8;exact((EJ.trans<|Sf.of u).trans sf,r,hp,Z,)
  rintro v6 f0 ⟨uO,rf,⟨tr,e7,g8⟩,rfl⟩;let d4:=(t3.trans t4).trans t5;let i2:=t2.trans d4;let Bj:=uO.lst<|i2 _ _ e8;let C7:PTL f0 xs L:=aJ.mono c5 λ_ _ e=>uO.lst<|i2 _ _ e
  let Ki:BRL f0 rx a3:=aJ.mono hR λ_ _ (bl,e,f,)=>(bl,uO _ _ trivial<|d4 _ _ e,uO.lst<|d4 _ _ f,)
  let C8:=uO.lst c8;let(T,e5):∃T,T=(plF mss I (vdB J i o) bs).2:=(_,Z,);let(l9,C9):∃c,c=(plF mss I (vdB J i o) bs).1:=(_,Z,);let f9:⇑mss=⇑bs:=a8.1;let u8:T.pay I=l9:=by
   rw[e5,C9,f5];exact(lR (xs:=I) (f:=f_) _ bs f9<|Ab _).2.1
  let GP:T.ok L.length:=by rw[e5,←u0,←f9];exact Es _ bs f9<|Ab _
  let j7:T.dep<=60:=by rw[e5];exact BK (xG bs) ∅
  rw[←C9]at e7;rw[←e5]at g8;calc(a,ns,Z,uO.seq<|s5.seq hS,λm7 y8 b0 Kj _=>(fl,rl,ol,m7,wyF ns,xs,L,rx,a3,os,bE ns 5,Z,b0 _ _ Bj,C7.same b0,JV,∅,b0 _ _<|uO.lst<|d4 _ _ k0,Ki.same b0,∅,g7,b0 _ _<|uO.lst<|(t4.trans t5) _ _ l4,f8,Kj,λd a0 h7 n2 nd ed g0 s7=>(d,.dT a0,⇑a0,_,Z,FQ,.inl (ed,λob=>?_,),),),);let l6:upd h7 d (.frz ob<|.dT a0) d=OP (.frz ob<|.dT a0):=af;let GQ:au f0 (upd h7 d<|.frz ob<|.dT a0):=λb u e=>by
   let h4:=b0 _ _ e;rw[ar (λz=>by rw[z,nd]at h4;cases h4)];exact n2 _ _ h4
  generalize upd h7 d (.frz ob<|.dT a0)=Hf at l6 GQ;refine(let O:Nat->Rq:=λj C G=>au Hf G/\∃h6 h5 e9:Option V,C=[↑a,↑fl,↑rl,↑ol,↑t,↑pl,OP<|.int R,c7,↑X,↑d2,↑rs,↑d3,a5,↑rf,h6,h5,e9];uc O (au.refl _,_,_,_,Z,) (λj C G _ h=>h.1 _ _ l6) (λj x C G hj hY h=>?_) (λC G h=>?_))
  .let(sm,h6,h5,e9,rfl):=h;let(b,kk,xx,rfl,ek,eb):=hY;let(p,ep):∃p,(dj<|gls L)[j]?=OP p:=(_,KN ∅,);let(r',a1,_):=s7 j p ep;rw[ek]at a1;cases a1;rw[xH]at eb;let(e4,q3):=uw.iff.mp<|KP ep;let e4:⇑p=L.length:=by unfold gls at e4;rw[aa]at e4;exact e4
   let sA:=GQ.trans sm;let at_:∀{e:Nat},e<L.length->∃(b3:O4 Int)(r:La)(pk:Nat)(u v:Int),xs[e]?=↑r/\f0 r=OP (.lst<|b3.map RV)/\p[e]?=OP pk/\b3[pk]?=OP u/\b3[pk+1]?=OP v:=λ{e} he=>by
    let k8:=KN he;let(r,er,q0):=C7.2 e _ k8;let k9:=KN (l:=p) (i:=e) ∅;let:=q3 e _ _ k9 (show(gls L)[e]?=OP (L[e].length-1) by unfold gls;rw[dy,k8];rfl);exact(_,r,_,_,_,er,q0,k9,KN ∅,KN ∅,)
   refine(let O:Rq:=λC W=>au G W/\∃(lo:La)(cs:O4 Int),W lo=OP (.lst<|cs.map RV)/\⇑cs=L.length/\C=[↑a,↑fl,↑rl,↑ol,↑t,↑pl,OP<|.int R,c7,↑X,↑d2,↑rs,↑d3,a5,↑rf,↑b,↑lo,e9];(O,?_,?_,))
   .refine(b,_,Z,.inr<|Rn eb,_,Z,(by rw[bO];lia),(by rw[bO];lia),(let O:La->Nat->O4 V->Rr:=λD e zs W=>au G W/\W D=OP (.lst zs)/\∃cs:O4 Int,zs=cs.map RV/\⇑cs=e;cQ O (λD hD=>(ai hD _,af,[],Z,Z,)) (λD e zs W hD he hh=>?_) (λD zs W hD hh=>?_)),)
    .let(a4,eD,cs,rfl,a9):=hh;rw[bO]at he;let(b3,r,pk,u,v,g1,g2,g3,g4,g5):=at_ (e:=e) ∅;let sB:=sA.trans a4;refine(fl,_,_,_,Z,Z,Rm<|sB _ _ Bj,jj g1,b,_,_,_,Z,Z,Rn<|a4 _ _ eb,jj<|xA g3,r,_,_,_,Z,Z,Rm<|sB _ _ g2,bN<|get_map g4,c0.mk (by rw[bO];exact he) eD (aD (by rw[aa];lia)) (a4.upd hD,af,cs++[u],by rw[fq];rfl,by rw[br,a9];rfl,),)
    .let(a4,eD,cs,rfl,a9):=hh;rw[bO,Kn]at a9;exact(a4,D,cs,eD,∅,Z,)
   rintro v5 l7 ⟨d0,lo,cs,v0,t6,rfl⟩;let sB:=sA.trans d0;refine(let O:Rq:=λC W=>au l7 W/\∃(hi:La)(c9:O4 Int),W hi=OP (.lst<|c9.map RV)/\⇑c9=L.length/\C=[↑a,↑fl,↑rl,↑ol,↑t,↑pl,OP<|.int R,c7,↑X,↑d2,↑rs,↑d3,a5,↑rf,↑b,↑lo,↑hi];(O,?_,?_,))
   .refine(b,_,Z,.inr<|Rn<|d0 _ _ eb,_,Z,(by rw[bO];lia),(by rw[bO];lia),(let O:La->Nat->O4 V->Rr:=λD e zs W=>au l7 W/\W D=OP (.lst zs)/\∃cs:O4 Int,zs=cs.map RV/\⇑cs=e;cQ O (λD hD=>(ai hD _,af,[],Z,Z,)) (λD e zs W hD he hh=>?_) (λD zs W hD hh=>?_)),)
    .let(a4,eD,cs,rfl,a9):=hh;rw[bO]at he;let(b3,r,pk,u,v,g1,g2,g3,g4,g5):=at_ (e:=e) ∅;let sC:=sB.trans a4;let p1:atI (b3.map RV) ((pk:Int)+1)=OP (.int v):=by
      have:=bN<|get_map g5;rw[show((pk+1:Nat):Int)=(pk:Int)+1 by lia]at this;exact this
     refine(fl,_,_,_,Z,Z,Rm<|sC _ _ Bj,jj g1,b,_,_,_,Z,Z,Rn<|a4 _ _<|d0 _ _ eb,jj<|xA g3,_,_,Z,Z,r,_,_,_,Z,Z,Rm<|sC _ _ g2,p1,_,_,Z,Z,c0.mk (by rw[bO];exact he) eD (aD (by rw[aa];lia)) (a4.upd hD,af,cs++[v-1],by rw[fq];rfl,by rw[br,a9];rfl,),)
    .let(a4,eD,cs,rfl,a9):=hh;rw[bO,Kn]at a9;exact(a4,D,cs,eD,∅,Z,)
   rintro v4 y7 ⟨f2,s8,c9,v1,Kk,rfl⟩;let sD:=sB.trans f2;let b1:=kS p0 cs T;let b2:=kS p0 c9 T;rw[u8]at b1 b2;refine(rf,_,_,_,Z,Z,Rn<|sD _ _ e7,Z,tr,lo,pl,T,cs,I,Z,g8.mono sD.tups,by rw[t6];exact GP,j7,f2 _ _ v0,sD _ _ C8,∅,λy6 f4=>?_,);let sE:=sD.trans f4;refine(rf,_,_,_,Z,Z,Rn<|sE _ _ e7,Z,tr,s8,pl,T,c9,I,Z,g8.mono sE.tups,by rw[Kk];exact GP,j7,f4 _ _ v1,sE _ _ C8,∅,λy5 i9=>?_,);let sF:=sE.trans i9;calc(_,_,Z,rf,_,_,_,Z,Z,Rn<|sF _ _ e7,Z,_,_,Z,Z,_,Z,?_,);refine ck (λg=>OY (O1 g) (by split <;> lia)) (λ_=>?_);exact((((sm.trans d0).trans f2).trans f4).trans i9,_,_,_,Z,)
  .let(sm,h6,h5,e9,rfl):=h;calc q _
end
structure FF(K:RD)(Y:AD):Prop where
 (h0:GF K "holds" "holds" Y44)
 (h1:GF K "edges" "edges" Y40)
 (h2:GF K "stretches" "stretches" Y81)
 (h3:GF K "grain" "grain" Y43)
 (h4:GF K "cut_columns" "cut_columns" Y39)
 (h5:GF K "built" "built" Y35)
 (h6:GF K "layered" "layered" Y62)
 (h7:GF K "closed" "closed" Y36)
 (h8:GF K "look" "look" Y64)
 (h9:GF K "beneath_code" "beneath_code" Y32)
 (h10:GF K "mapped" "mapped" Y65)
 (h11:GF K "marks_of" "marks_of" Y66)
 (h12:GF K "gathered" "gathered" Y42)
 (h13:GF K "corner" "corner" Y38)
 (h14:GF K "all_among" "all_among" Y31)
 (h15:GF K "is_word" "is_word" Y46)
 (h16:GF K "is_whole" "is_whole" Y45)
 (h17:GF K "way_by" "way_by" Y86)
 (h18:GF K "refuse_names" "refuse_names" Y76)
 (h19:GF K "refuse_counts" "refuse_counts" Y75)
 (h20:GF K "refuse_way" "refuse_way" Y78)
 (h21:GF K "refuse_row" "refuse_row" Y77)
 (h22:GF K "own_row" "own_row" Y68)
 (h23:GF K "fits" "fits" Y41)
 (h24:GF K "mask" "mask" Y67)
 (h25:GF K "judged" "judged" Y47)
 (h26:GF K "table_bounds" "table_bounds" Y82)
 (h27:GF K "table_marks" "table_marks" Y83)
 (h28:GF K "column_marks" "column_marks" Y37)
 (h31:GF K "path" "path" Y70)
 (h32:GF K "side_of" "side_of" Y80)
 (h33:GF K "tree_on" "tree_on" Y84)
 (h34:GF K "with_pair" "with_pair" Y88)
 (h37:GF K "planned" "planned" Y73)
 (h38:GF K "refuse_blocks" "refuse_blocks" Y74)
 (h39:GF K "blocks_of" "blocks_of" Y34)
 (h40:GF K "pairs_of" "pairs_of" Y69)
 (h41:GF K "with_column" "with_column" Y87)
 (h43:GF K "plan_with" "plan_with" Y72)
 (h44:GF K "_law_at" "_law_at" Y49)
 (h45:GF K "_law_fences" "_law_fences" Y51)
 (h46:GF K "_law_spans" "_law_spans" Y57)
 (h47:GF K "_law_numbers" "_law_numbers" Y52)
 (h48:GF K "_law_rows" "_law_rows" Y56)
 (h49:GF K "_law_worded" "_law_worded" Y61)
 (h50:GF K "_law_outs" "_law_outs" Y53)
 (h51:GF K "_law_way" "_law_way" Y60)
 (h52:GF K "_law_table" "_law_table" Y58)
 (h53:GF K "_law_due" "_law_due" Y50)
 (h54:GF K "_law_verdicts" "_law_verdicts" Y59)
 (h55:GF K "_law_prices" "_law_prices" Y55)
 (h56:GF K "_law_paid" "_law_paid" Y54)
 (h88:GF K "law" "law" Y48)
 (m74:MF K Y.i "has_code" "Domain.has_code" Y2)
 (m75:MF K Y.j "has_code" "Domain.has_code" Y3)
 (m76:MF K Y.b "verdict" "Way.verdict" Y24)
 (m77:MF K Y.b "chosen" "First.chosen" Y5)
 (m78:MF K Y.c "verdict" "Way.verdict" Y28)
 (m79:MF K Y.c "chosen" "Only.chosen" Y14)
 (m80:MF K Y.d "verdict" "Way.verdict" Y26)
 (m81:MF K Y.d "chosen" "Like.chosen" Y9)
 (m82:MF K Y.e "verdict" "Way.verdict" Y27)
 (m83:MF K Y.e "chosen" "Low.chosen" Y11)
 (m84:MF K Y.f "verdict" "Way.verdict" Y25)
 (m85:MF K Y.f "chosen" "High.chosen" Y7)
 (m86:MF K Y.g "verdict" "Way.verdict" Y29)
 (m87:MF K Y.g "chosen" "Sum.chosen" Y16)
 (k57:KF K Y.i "Numbers" "Numbers.__init__" Y12)
 (k59:KF K Y.k "Table" "Table.__init__" Y17)
 (k60:KF K Y.j "Words" "Words.__init__" Y30)
 (k62:KF K Y.b "First" "First.__init__" Y4)
 (k64:KF K Y.c "Only" "Only.__init__" Y13)
 (k66:KF K Y.d "Like" "Like.__init__" Y8)
 (k68:KF K Y.e "Low" "Low.__init__" Y10)
 (k70:KF K Y.f "High" "High.__init__" Y6)
 (k72:KF K Y.g "Sum" "Sum.__init__" Y15)
 (b58:BF K Y.h "Domain" "__init__" "Domain.__init__" Y0)
 (b61:BF K Y.h "Domain" "__init__" "Domain.__init__" Y1)
 (b63:BF K Y.a "Way" "__init__" "Way.__init__" Y18)
 (b65:BF K Y.a "Way" "__init__" "Way.__init__" Y22)
 (b67:BF K Y.a "Way" "__init__" "Way.__init__" Y20)
 (b69:BF K Y.a "Way" "__init__" "Way.__init__" Y21)
 (b71:BF K Y.a "Way" "__init__" "Way.__init__" Y19)
 (b73:BF K Y.a "Way" "__init__" "Way.__init__" Y23)
 (t29:TFn K "row_form" s_row_form)
 (t30:TFn K "verdict_form" s_verdict_form)
 (t42:TFn K "plan_of" s_plan_of)
 (v35:GV K "ledger" "ledger" Y63)
 (v36:GV K "best" "best" Y33)
 (z0:im K Lh "sorted" = OP OQ)
 (z1:im K Lh "list" = OP OQ)
 (z2:im K Lh "set" = OP OQ)
 (z3:im K Lh "zip" = OP OQ)
 (z4:im K Lh "len" = OP OQ)
 (z5:im K Lh "tuple" = OP OQ)
 (z6:im K Lh "range" = OP OQ)
 (z7:im K Lh "isinstance" = OP OQ)
 (z8:im K Lh "int" = OP OQ)
 (z9:im K Lh "bool" = OP OQ)
 (z10:im K Lh "sum" = OP OQ)
 (z11:im K Lh "enumerate" = OP OQ)
 (z12:im K Lh "dict" = OP OQ)
 (z13:im K Lh "min" = OP OQ)
 (z14:im K Lh "max" = OP OQ)
 (y0:∃u,im K Lh "MOST_GRAIN" = OP (OP u)/\RelV (RV 300) u)
 (y1:∃u,im K Lh "MOST_SIGNS" = OP (OP u)/\RelV (RV 12) u)
 (y2:∃u,im K Lh "SMALL_LETTERS" = OP (OP u)/\RelV (Rk "abcdefghijklmnopqrstuvwxyz") u)
 (y3:∃u,im K Lh "MOST_ROWS" = OP (OP u)/\RelV (RV 200) u)
 (y4:∃u,im K Lh "MOST_COLUMNS" = OP (OP u)/\RelV (RV 4) u)
 (y5:∃u,im K Lh "SAY" = OP (OP u)/\RelV (Rk "say") u)
 (y6:∃u,im K Lh "BELOW" = OP (OP u)/\RelV (Rk "below") u)
 (y7:∃u,im K Lh "ABOVE" = OP (OP u)/\RelV (Rk "above") u)
 (y8:∃u,im K Lh "MOST_BLOCKS" = OP (OP u)/\RelV (RV 600) u)
 (y9:∃u,im K Lh "ASK" = OP (OP u)/\RelV (Rk "ask") u)
 (y10:∃u,im K Lh "MOST_WORDS" = OP (OP u)/\RelV (RV 40) u)
local macro_rules|`(tactic|trivial)=>`(tactic|exact λF=>F.binds λ_ _ _ _ _ _=>by first|exact _L.lb0 rfl|exact _L.lb1 λ_=>Z|exact _L.lb2 λ_ _=>Z|exact _L.lb3 λ_ _ _=>Z|exact _L.lb4 λ_ _ _ _=>Z|exact _L.lb5 λ_ _ _ _ _=>Z|exact _L.lb6 λ_ _ _ _ _ _=>Z|exact _L.lb7 λ_ _ _ _ _ _ _=>Z|exact _L.lb8 λ_ _ _ _ _ _ _ _=>Z|exact _L.lb9 λ_ _ _ _ _ _ _ _ _=>Z)
def all_mk{l:W.OpenLaw}{w:K6}{K:RD}{h:Lb}{i:Str->Option K5}{P:La}{Y:AD}(X:K.In h)(G:h.Ns Lh i)(B:i "law" = ↑P) (b:Bk K Y)(u:FF K Y)
  : ∃m:Mi,(∀(s:Lm)(v:K5),Mj s m ([v],[],) [("script",v)])/\∀f:Lb,K.In f->f.Ns Lh i->(∀q∈(dL K "row_form").toList++(dL K "verdict_form").toList++(dL K "plan_of").toList,Pl f q.1 q.2/\f.BuiltinsAt i q.2)->aK l.prog w K i f CX0 21 P m ["script"] (J18 K):=by
 cases u.h88 with | @mk _ m a F =>
 cases B.symm.trans (py X G a);let bl:Bl K i Y:=(b,py X G b.n_Way,py X G b.n_First,py X G b.n_Only,py X G b.n_Like,py X G b.n_Low,py X G b.n_High,py X G b.n_Sum,py X G b.n_Domain,py X G b.n_Numbers,py X G b.n_Words,py X G b.n_Table,py X G b.n_NONE,py X G b.n_CLASH,RH X G u.z0,RH X G u.z1,RH X G u.z2,RH X G u.z3,RH X G u.z4,RH X G u.z5,RH X G u.z6,RH X G u.z7,RH X G u.z8,RH X G u.z9,RH X G u.z10,RH X G u.z11,RH X G u.z12,RH X G u.z13,RH X G u.z14,(let ⟨_,y,x⟩:=u.y0;(_,py X G y,x,)),(let ⟨_,y,x⟩:=u.y1;(_,py X G y,x,)),(let ⟨_,y,x⟩:=u.y2;(_,py X G y,x,)),(let ⟨_,y,x⟩:=u.y3;(_,py X G y,x,)),(let ⟨_,y,x⟩:=u.y4;(_,py X G y,x,)),(let ⟨_,y,x⟩:=u.y5;(_,py X G y,x,)),(let ⟨_,y,x⟩:=u.y6;(_,py X G y,x,)),(let ⟨_,y,x⟩:=u.y7;(_,py X G y,x,)),(let ⟨_,y,x⟩:=u.y8;(_,py X G y,x,)),(let ⟨_,y,x⟩:=u.y9;(_,py X G y,x,)),(let ⟨_,y,x⟩:=u.y10;(_,py X G y,x,)),);refine(m,λs v=>by let(_,_,_,_,_,_,_,_,_,e,_,_):=F.ex;rw[e];exact .of_eq Z,λf _ _ r=>?_,);let z:Zb l.prog w K i f:=(X,G,);let Cz:=mkC z u.h0 λF=>HL F bl
 let CA:=mkC z u.h1 λF=>HM F bl
 let N:=mkC z u.h2 λF=>HN F bl
 let E:=mkC z u.h7 λF=>HQ F bl
 let oP:=mkC z u.h9 λF=>HR F bl
 let M:=mkC z u.h12 λF=>HS F bl
 let Bm:=mkC z u.h13 λF=>HU F bl
 let uQ:=mkC z u.h14 λF=>HV F bl
 let L:=mkC z u.h16 λF=>HW F bl
 let mM:=mkC z u.h19 λF=>HX F bl
 let zi:=mkC z u.h22 λF=>HY F bl
 let A:=mkC z u.h26 λF=>HZ F bl
 let zj:=mkC z u.h32 λF=>Ia F bl
 let V:=mkC z u.h33 λF=>Ib F bl
 let uR:=mkC z u.h34 λF=>Ic F bl
 let mN:=mkC z u.h38 λF=>Ie F bl
 let wC:=mkC z u.h40 λF=>Ig F bl
 let pF:=mkC z u.h41 λF=>Ih F bl
 let k:=mkC z u.h44 λF=>Ii F bl
 let uS:=mkC z u.h46 λF=>Ij F bl
 let pG:=mkC z u.h47 λF=>Ik F bl
 let T:=mkC z u.h53 λF=>Il F bl
 let fv:=mkB z u.b58 λF=>O_0 F bl
 let gy:=mkB z u.b61 λF=>O_1 F bl
 let iV:=mkB z u.b63 λF=>Im F bl
 let jr:=mkB z u.b65 λF=>Io F bl
 let js:=mkB z u.b67 λF=>Ip F bl
 let j2:=mkB z u.b69 λF=>Iq F bl
 let jt:=mkB z u.b71 λF=>Ir F bl
 let j3:=mkB z u.b73 λF=>Iu F bl
 let iW:=mkM z u.m77 λF=>O_5 F bl
 let j4:=mkM z u.m79 λF=>Iw F bl
 let j5:=mkM z u.m81 λF=>O_9 F bl
 let l9:=mkM z u.m83 λF=>Iy F bl
 let j6:=mkM z u.m85 λF=>O_7 F bl
 let mf:=mkM z u.m87 λF=>Iz F bl
 let O:=mkC z u.h4 λF=>IA F bl N.up
 let EK:=mkC z u.h8 λF=>IB F bl oP.up
 let J:=mkC z u.h15 λF=>IC F bl uQ.up
 let EL:=mkC z u.h23 λF=>ID F bl Cz.up
 let oS:=mkC z u.h28 λF=>IE F bl M.up CA.up
 let EM:=mkC z u.h31 λF=>IF F bl zj.up V.up
 let uT:=mkC z u.h39 λF=>IG F bl pF.up wC.up N.up
 let uU:=mkC z u.h43 λF=>IH F bl uR.up
 let sJ:=mkC z u.h45 λF=>II F bl k.up
 let wD:=mkC z u.h48 λF=>IM F bl pG.up
 let t:=mkC z u.h49 λF=>IP F bl k.up
 let oU:=mkC z u.h54 λF=>IQ F bl T.up
 let sL:=mkC z u.h55 λF=>IV F bl k.up
 let fm:=mkK z u.k57 λF=>IW F bl fv.up
 let gW:=mkK z u.k62 λF=>O_4 F bl iV.up
 let iX:=mkK z u.k64 λF=>IX F bl jr.up
 let iY:=mkK z u.k66 λF=>O_8 F bl js.up
 let kd:=mkK z u.k68 λF=>IY F bl j2.up
 let iZ:=mkK z u.k70 λF=>O_6 F bl jt.up
 let ke:=mkK z u.k72 λF=>IZ F bl j3.up
 let fw:=mkM z u.m74 λF=>O_2 F bl L.up
 let gz:=mkM z u.m75 λF=>O_3 F bl L.up
 let ju:=mkM z u.m76 λF=>Ja F bl iW.up
 let kg:=mkM z u.m78 λF=>Jb F bl j4.up
 let kh:=mkM z u.m80 λF=>Jc F bl j5.up
 let kY:=mkM z u.m82 λF=>Jd F bl l9.up
 let ki:=mkM z u.m84 λF=>Je F bl j6.up
 let kZ:=mkM z u.m86 λF=>Jf F bl mf.up
 let CB:=mkC z u.h3 λF=>Jg F bl O.up
 let oV:=mkC z u.h18 λF=>Jh F bl J.up
 let sM:=mkC z u.h21 λF=>Ji F bl fw.up gz.up
 let Q:=mkC z u.h24 λF=>Jj F bl EL.up
 let pH:=mkC z u.h27 λF=>Jk F bl oS.up
 let wF:=mkC z u.h50 λF=>Jl F bl t.up k.up
 let I:=mkC z u.h51 λF=>Jm F bl t.up k.up
 let wG:=mkC z u.h56 λF=>Jn F bl EM.up
 let gX:=mkK z u.k60 λF=>Jo F bl gy.up J.up
 let D:=mkC z u.h17 λF=>Jp F bl gW.up iX.up iY.up kd.up iZ.up ke.up
 let sN:=mkC z u.h20 λF=>Jq F bl D.up
 let C:=mkC z u.h25 λF=>Jr F bl ju.up kg.up kh.up kY.up ki.up kZ.up D.up
 let gY:=mkK z u.k59 λF=>Js F bl oV.up mM.up sN.up sM.up zi.up
 let wH:=mkR z u.h11 1 7 uG λn F c=>Jt F bl c<|M.mono ∅
 let uX:=mkC z u.h52 λF=>Jx F bl fm.up t.up gY.up gX.up I.up k.up uS.up
 let S:=mkT z u.t42 (λq h=>r q (by simp only[gw];simp[h])) λF h1 h2 h3=>JE F bl EK.up uU.up Bm.up h1 h2 h3
 let R:=mkR z u.h6 8 7 wt λn F c=>JF F bl (E.mono ∅) c ∅
 let Bp:=mkR z u.h10 8 7 za λn F c=>JG F bl (E.mono ∅) c ∅
 let CC:=mkC z u.h5 λF=>JI F bl R.up CB.up O.up
 let wI:=mkT z u.t29 (λq h=>r q (by simp only[gw];simp[h])) λF h1 h2 h3=>JK F bl CC.up A.up pH.up Q.up h1 h2 h3 Q.up
 let oX:=mkT z u.t30 (λq h=>r q (by simp only[gw];simp[h])) λF h1 h2 h3=>JN F bl Bp.up wI.up C.up h1 h2 h3 C.up
 let H:=mkC z u.h37 λF=>JQ F bl A.up oX.up wH.up mN.up uT.up S.up
 let Bq:=mkV z u.v35 (λF=>JS F bl H.up) (λF=>F.bindsD (ds:=[]) λd _ _ _ _ _ _ g j=>by rcases g with _|⟨p,_|⟨o,_|⟨u2,g⟩⟩⟩ <;> first|exact(_,rfl,rfl,)|simp at j) (λF=>F.bindsD (ds:=[.none]) λd _ _ _ _ _ _ g j=>by rcases g with _|⟨p,_|⟨o,g⟩⟩ <;> first|exact(_,rfl,rfl,)|simp at j);let Br:=Bq.full;let EN:=mkV z u.v36 (λF=>JT F bl H.up A.up) (λF=>F.bindsD (ds:=[]) λd _ _ _ _ _ _ g j=>by rcases g with _|⟨p,_|⟨o,_|⟨u2,g⟩⟩⟩ <;> first|exact(_,rfl,rfl,)|simp at j) (λF=>F.bindsD (ds:=[.none]) λd _ _ _ _ _ _ g j=>by rcases g with _|⟨p,_|⟨o,g⟩⟩ <;> first|exact(_,Z,Z,)|simp at j);let EO:=EN.full;calc JU F bl sJ.up wD.up wF.up uX.up sL.up Br.up EO.up oU.up I.up wG.up
def walk{l:W.OpenLaw}{q:K7}{c:O4 Str}{XP:(Str->Option K5)->Lb->Prop}{y:K6->Lb->Prop}{d:DefRec}{K:MP->RD}(B:l.most=OP 63)(o:d.params.defaults=[])
  (D:∀(w:K6)(h:Lb),y w h->(K w.params).In h)(m:∀p:MP,W.noTabs (K p)=OR)(j:∃d',(Pb q).find? (λe=>e.name == ("row_form" : Str))=OP d') (I:∃d',(Pb q).find? (λe=>e.name == ("verdict_form" : Str))=OP d') (G:∃d',(Pb q).find? (λe=>e.name == ("plan_of" : Str))=OP d')
  (F:∀(w:K6)(g:Str->Option K5)(v:La)(h:Lb),(K w.params).In h->h.Ns Lh g->g d.name=↑v ->
   ∃r:Mi,(∀(s:Lm)(u:K5),Mj s r ([u],[],) [("script",u)])/\∀b:Lb,(K w.params).In b->b.Ns Lh g->(∀q∈(dL (K w.params) "row_form").toList++(dL (K w.params) "verdict_form").toList++(dL (K w.params) "plan_of").toList,Pl b q.1 q.2/\b.BuiltinsAt g q.2)->aK l.prog w (K w.params) g b CX0 21 v r ["script"] (J18<|K w.params)) :
  W.WalkO q c XP y l.row.toRowW d [] (λf vs=>PySem.call f vs) :=
 _L.walk_ofT (n:=63) (k:=21) (x := "script") (CX:=λ_=>CX0) (sp:=λw=>J18<|K w.params) (tabs:=λp=>(dL (K p) "row_form").toList++(dL (K p) "verdict_form").toList++(dL (K p) "plan_of").toList) (xs:=["row_form","verdict_form","plan_of"]) B ⋯ o (Z,⋯,⋯,) D m (gx.mpr (j,gx.mpr (I,gx.mpr (G,iU _,),),))
  (λp t h=>(gw.mp h).elim (λh=>(gw.mp h).elim (λh=>(_,dt,rn h,)) λh=>(_,(fS _ dt),rn h,)) λh=>(_,(fS _<|fS _ dt),rn h,)) F
  (λw H a A C _ E i=>(a,A,Z,E,C,λz e=>i z<|gw.mpr<|.inl<|gw.mpr<|.inl (by rw[e];exact dt),λz e=>i z<|gw.mpr<|.inl<|gw.mpr<|.inr (by rw[e];exact dt),λz e=>i z<|gw.mpr<|.inr (by rw[e];exact dt),λ_=>Z,)) λ_ _ _ _ _ z=>z
end _M
set_option genSizeOf false in
set_option genInjectivity false in
open Lean in
set_option hygiene false in
local macro_rules(kind:=Lean.Parser.Command.declaration)|s=>do
 let some t:=(s.find? (·.isStrLit?.isSome)).bind (·.isStrLit?)|Macro.throwUnsupported
 if s[1].getKind != ``Lean.Parser.Command.structure then Macro.throwUnsupported
 let(_,_,a):=t.foldl (λ(k,n,a) c=>let n:=n*91+c.toNat-(if c.toNat>92 then 36 else 35);if k==9 then (0,0,a.push (mkIdent (.mkSimple ("tw"++toString n)))) else (k+1,n,a)) (0,0,(#[]:Array Ident))
 `(structure PySem.W.Fast:Prop where ($a* : True))
structure A:Prop where(x:True:="&KZCTF2;KKCf~yjO7ez)IoT}*sVUX.D2OV$YqxLD:667I6j}IK8UB}gQOG%=,InF9m<N0AG<CHL2YFGz);{N7$L8>>5>Pr|J~1LIHzNz0|A6-T1Xwmyl@L-55uCaH;$Y+&>IekeP4_Nk=i:r9g>i;p7+lw=+qQm{?wP$9;)cY7Gc_UD=ul8(@k=rlND>E;&i,PK>d=+;B+2+jZ^5L@C5|-UL'VI3;vl''-j1~H2$78fIEpVR--X-m>nFM&3,8K?:Q+/p0r^SokWC^+EEF.m^Ene:1&4bwFlQ'_JTD,QQEfRG9fg/,Y;FdH*6=EKi1Gky&7s-7X~@]EKMe=<|5{}^+EU]wnmzehH9tHwC+['t*S^co$/magJ4b/t@f2jb$:Kd.U=s/Z/0[Xl~<J[c.`$(Zdhn?_CWf2un6#KO(.($>U'5kP*:X{y_lpcH1p0^;E21I`)#i#VY8<YaK[RF/(b1n_.c}`.EcD+I:PA>8jW+MgJUU]|24}>d4&<~:|f;1U1#mYidB$<X#<~W?bHub_AowtT(l^+56/ZcxH.>=uHkO?P_K<QgHh7%*u/4>H5YXd<AKl)13]Im|A6K0^1rDoW[NW(CCie`B;{HiD94|/G-45fO)TQc[$fpVK,|JwknnI'RK60BD0z*j?E?/7o<%Geo<172AH{vZ26bdrM|8PgA(_wcG3j./9LJ1klv@;?UJ|WIf&NlED8,/6-CJ5peDecuv?,AKW./KB4cksuv)?hi]wU,I|H4RBx3501U,z5L=7Dw*wF^L@g_;Zgw'mxC~1,ETf(.%=-dG(RfBa~4JgMCE>Jw$e`G-FYC5++&cA}dq~GGf%(x-bmeIu^024-U<w'z9nJ~''vi<Nd0D0CpTI3KUkpD^Wzx@A]`NOA'P0:UwPzFzJ9DL^+TU)OfcvJ'[ylNSMX`-i)cDCj[gs&+#lt``z`D5,O^E6hhuR0[|0beJ[%l>{:|,g`n4)#T6T+KhYzjB#1k+nV,*-7$n~/}`]0|>e{|]$K=x#0Fq&@_%+.S1[)h}?k%ZW)A2mn'Gx'87ZS$.C8Z)91Da+mZ{hm43sHdKAzEQWE<$w)%MwX)9A_SC@6tl8HY}#JBKBgG%slgJkEoyV3^tpt*/<@p&G:Wu`ElYWMfcBW@)wuY:<CBl`:CR;*NH,g6qfwA0+|mDpSwox09a^h$r^kh?'b32tZp/n3[}=g#*w;J47VSojQARGG1Kh715w>D@4}-s3[=#UJyvYTNb=RR.sTjVcwtnDLuYb7*4l/;G5ff3e+x'G=G/m?D^Wp,I6fueroDBR>?2EM*tp*1/<i|0$<8n9@1-Z:2Ow4eIG2Z>%|u5vA4}GtNbnaFHLd][Vt<Vs;~TgS9(DZ`BZd(Yn8B{Q$`I_}=_Q`[=$3bg+}@K7.@PYjpLvs>=L5Zw_W`>J'bM?Q|_WA)*$6NoQzy<R'v~kfif59](vK'%|Tw60-U=j[LXQ,]9xqGo<5IHM+,HPOx2u}M+lJ3:O2Wf.B?5|lJf@U[$AS)=d=k61Dtn#Z7{%zCE>A5s_XND[7f))nBk|X0KA[8|K%9~#KHkWB(2^k#CMYbRO)GgbD:B6Wz{e[b1&$s(>.I'N8Eb;Uaw`[0<)3{dqV3>?MX1XsSp4AV>/oq%]~.1?+J:0k?~XJ#LsOpn~6cC}3}yGPGT^ao:<ey=0/`xp&7'9$?xBFkIh<$l?vp(S?^feFrh0vY(v1G^$A=U$A^sQesyqZ?:2;zip<gdKIOt-Wda(Id,c^YGDvniz'&6}1f0,hs0;iwt@2@h>#&$WR+{s+JAf)&;^mynF0Ec-7*@e~>6%(nve.AdODzJV&<alzV#{?ia2mb3-&wLws'N;59LihmoW+pn;-3hO_EcOhF>8OOLw-,%w:~ktOX,J*i2GOtz%MYsMDGMHMVa`sDHpvmK:dZh=J>'`#cADLS){OeWCRJ2U>_)q^J@>gG&Va:b/]_Bo&o:A*J/2r;->+P]HB~*d:b_.SMOHO,2LH~En|mA~F<:D.c`+YGB>Jij7cCkg>8OE4{T*t_4Ak+jagNX0%os:blG>|5)HRX&js^K2-.;<ljuBOUE2(uB)(aJh%Q{FkFaYE6.8~d/w.Y'<0Z&-So-yBE'a/~vgm.huCP7xhdICaR<}X%8,qL,RDyQ*9?P5$H>gDsdh#UNk3<,q#P&0=y2$vvPDR|7YM._u^#IuMGDDd1t^8O=vFA$~}}n/)`&3z#,M2}A4+roVJ0rj~d3nLkI+j&,kHLwM41*m~a-M~oG|taf}=aP9Rgc:e/%(v7:jgo[k-KoC`6hc.8AhLKtI%v$_%Ae,>i,r,P%':`)O$wFc:^N>xS[LXIME+H{fc+w{&,Yilx826==+ub@98JnW9BrUPPB+W0-Q4iy,fjWDCYa,]l,A;pBcB:]`+7@E;&eu.c3c{X;>7<2bRz&#GgV2UP2`(5G~`oL:Cr2n4uJ8i`$giK?V'0wW^ZQ~J|&JUbt4<K<9j%wXx~$UF>$]fXe&p$+.=CU)^h@&HIn+*n7Hx0)aeNha04T*9Kit@fI-kxG+sSfv7QrB/7kWGPd2<3GdVx78hQ}rA|q4GnL;^Z:|+Z#tNJUZ4*Ctb86e~2)C}fxH0d3m6,Nt3'ekDZ%LfNZPSdT'@-MFZsnK5J<D%+NBi6s|-TA-3g^pfWM+nNE$06eb2y^Qd6]g]LN+3GYIV)3`%r#I.;UaeI1d1U;yZ*6^CLONJ?bVxPK#14[T{w=}3cO?eHuLNy/,6RZfu:-f&;zuv1Yi&i?d?q$?*:'$7Y+cer~?C(/a/0'#H%N%52m`Il#f-=,vD?:^Sq29#5c(CL{isT@@Rh#0og2FC=Ce9995pwD#Z0qEkKp&8F[z[+@Xh;$:Ln0L}?PW(qZd(Z[??[#@ZoHI6sG]KBMvO`,+#EM6KPjsC1Ft=w~0c7h38W04T]o,FrKrJ4awHF'U8=7Rr3K(5x3WA>TrV/qZC>H6?D5KbI^~JV_`'x%>YT&7.QMi=*rg,]]r-k5I]$H$~tFJ`R-(7C)6D3bBlyEq%m]~%8ctCPk<uQZ(E?<{],GOg=L50ZvsyA9a3&3p^vF.u],e=67bdnB7tL+oRwY;<e)x9O@tk*<1mS8mTw;GkU9bIRpv<D*RW|/%V,xYGnKdM8A1ZUr}OG2ah@g4&4<m-*]P2iyka-CA9g8cpl)l&|3v<SXeMCCLS7<vRRi?6EA)eiH(et9w/5K}oxUb)|eSdk(CQl5&i~By_&&/+YxgiNi)<F@rPgSugS'~$ZV-_R?}/x3?-nL<::-?-Fk_oz56Bp#RN6Pi)'JT+ZvK|)OM>*.qw)a{[AcX:Y3ZbBc9n9$Jje9syluZ@}{Cch#u&YFSytb?LSmX5#8#o9<`A`1eZeZ%Fcx.'{Vj6U^27x1R*Qy-a6^RF3^]]=;Wi49MHOpO7NAL&6AYK+gs(X94L/7v;([5,w`,uges?o&+@|'@vZ8[M/CEQV8EaEE'(t+`>ma@*'g=b*2'|j./&qpfT0A:EojA/4ic8j$XYT7s6c;GGVEzAa0<.d%4iw/MJEbU:z^g9>:BVZ8Ehh_:s*j_K_)RJCT;N?9'kTX*ao&&,W:d})n+XbJ&H|ND^EmkI^jLOfM6gk=Xpbe_JJh/DPhq1&[ZRp2y$.MW'r17<'g)L:^m8xIrK/1qNXz[%~YOyMkTng;2x.e=Ot3Q$bhEDQpo~~+~1AmrucZiM,3K{Ytw7,-Bj)]F-/C'6i%w<H2xSE%L8Ay(`WaS.O+]q'5WF~*v.FTjlNTU&70oL=Y0~CGT&bwgQ?jTI;}j$)y*;h@smK}l~D6K%DNf/el#shHTUr>]`1fo4&pF&'Ck_.,wONJ8xh=[J_Rb@H3u<Q>25OsRD8$#K8/%in:BZE>Pj.iUO/3=Mvp4Q=~,`^:$-6IUy0-j/9[[vt71b-09zxKfQ#cx,r+kB5Ac|xF5p{KGmtts1R$D'D#~$O39W7mRt<%5/_CZB/].AA;jTS2CR@_s*:Wm3EGrWtMI*V|#R#-.HIi,E{R^=d3&bA|/zL$8(/5N328/].*4m]8GwIW?KdSNcu(b)yJ|u_[XAWk{@o}_/K?b?4=RInDp@rI^L3cr]3(rOQI+s{OH=60s(7l2yPWCogECE9-dk'TN2it~PgJiX8(UEXg|@t&.3v'0K'V)(k$Oi<P^npcV8>lSX&Fj6xA6M(-@jEshF,VbSQyQ#$4Y7=J7;D/s%t}5LZsao#-IQI02@M-B2{8M$xU4jX+T(_*_g485JKWk-5/MA;)j|M?:lwaP9*z>MPlj9F?at]tI,I=DI}s<&Ash^x&J}4ZpErgH)eIO1(9aXl+yO32;;_WIE0I#Y0Z8Y4.%a;.rSdxKKW-X$ilC`*8ip-`&Pi;^/ZlFHhSsmc/,NSD;Ch7j")
open PySem PySem.W PyProof.Rows
set_option maxRecDepth 100000 in
set_option maxHeartbeats 0 in
theorem PySem.Challenge.cw_rowjudge_k60_whole_prices_scale_holds : PySem.Challenge.rw_rowjudge_k60_whole_prices_scale.Holds := by
 w_on;o_law;k_head;(case hw=>w_witness2)
 k_fill
 refine _M.walk (l:=PySem.Challenge.rw_rowjudge_k60_whole_prices_scale) rfl rfl (λw h Y=>PySem.W.km_in_of Y) ?hnK ?hxs ?ER ?ES ?F
 case hnK=>intro p;first|rfl|decide+kernel|with_unfolding_all rfl
 case hxs=>exact(_,rfl,)
 case ER=>exact(_,rfl,)
 case ES=>exact(_,rfl,)
 case F =>
  intro w mg fa h KX G hmg;refine' _M.all_mk (Y:=.mk ..) KX G hmg ?b ?u
  case b =>
   constructor
   all_goals try dsimp only
   iterate 13 (k_is)
   iterate 9 (constructor <;> first|k_is|rfl|with_unfolding_all rfl)
   iterate 9 (refine'((?_,?_,?_,?_,),?_,?_,?_,?_,) <;> first|k_is|rfl|with_unfolding_all rfl)
   refine' _L.ModT.mk ?lk ?sz ?vs
   (case lk=>k_is)
   (case sz=>decide)
   (case vs=>exact(.cons (_,rfl,) (.cons (_,rfl,) .nil)))
   refine' _L.ModT.mk ?lk ?sz ?vs
   (case lk=>k_is)
   (case sz=>decide)
   (case vs=>exact(.cons (_,rfl,) (.cons (_,rfl,) .nil)))
   iterate 18 (delta _L.NoAttr;k_is)
   iterate 4 (first|k_is|rfl|with_unfolding_all rfl)
   refine' _M.tab_ne (_L.tab_mk (qual := "row_form") (st:=_M.s_row_form) ?a1 ?l1 ?c1 ?e1) (_L.tab_mk (qual := "verdict_form") (st:=_M.s_verdict_form) ?a2 ?l2 ?c2 ?e2) ?ne
   (case a1|l1|c1=>k_is)
   (case e1=>rfl)
   (case a2|l2|c2=>k_is)
   (case e2=>rfl)
   (case ne=>first|decide|(intro h;cases h))
   refine' _M.tab_ne (_L.tab_mk (qual := "row_form") (st:=_M.s_row_form) ?a1 ?l1 ?c1 ?e1) (_L.tab_mk (qual := "plan_of") (st:=_M.s_plan_of) ?a2 ?l2 ?c2 ?e2) ?ne
   (case a1|l1|c1=>k_is)
   (case e1=>rfl)
   (case a2|l2|c2=>k_is)
   (case e2=>rfl)
   (case ne=>first|decide|(intro h;cases h))
   refine' _M.tab_ne (_L.tab_mk (qual := "verdict_form") (st:=_M.s_verdict_form) ?a1 ?l1 ?c1 ?e1) (_L.tab_mk (qual := "plan_of") (st:=_M.s_plan_of) ?a2 ?l2 ?c2 ?e2) ?ne
   (case a1|l1|c1=>k_is)
   (case e1=>rfl)
   (case a2|l2|c2=>k_is)
   (case e2=>rfl)
   (case ne=>first|decide|(intro h;cases h))
  case u =>
   constructor
   all_goals try dsimp only
   iterate 53 (refine' _L.GF.mk ?a1 (_L.fun_mk ?l ?c ?k);(case a1=>k_is);(case l=>k_is);(case c=>k_is);(case k=>k_is))
   iterate 14 (refine' _L.MF.mk ?a1 ?a2 (_L.fun_mk ?l ?c ?k);(case a1=>k_is);(case a2=>k_is);(case l=>k_is);(case c=>k_is);(case k=>k_is))
   iterate 9 (refine' _L.KF.mk ?a1 ?a2 ?a3 ?a4 ?a5 (_L.fun_mk ?l ?c ?k);(case a1=>k_is);(case a2=>k_is);(case a3=>k_is);(case a4=>k_is);(case a5=>k_is);(case l=>k_is);(case c=>k_is);(case k=>k_is))
   iterate 8 (refine' _L.BF.mk ?a1 ?a2 ?a3 ?a4 (_L.fun_mk ?l ?c ?k);(case a1=>k_is);(case a2=>k_is);(case a3=>k_is);(case a4=>k_is);(case l=>k_is);(case c=>k_is);(case k=>k_is))
   iterate 3 (refine' _L.tfn_mk ?l1 ?l2 ?l3 ?l4 ?l5 ?l6;(case l1=>k_is);(case l2=>k_is);(case l3=>k_is);(case l4=>k_is);(case l5=>k_is);(case l6=>rfl))
   iterate 2 (refine' _L.GV.mk ?a1 (_L.funV_mk ?l ?c ?k ?hd ?ho);(case a1=>k_is);(case l=>k_is);(case c=>k_is);(case k=>k_is);(case hd=>k_is);(case ho=>rfl))
   iterate 15 (k_is)
   iterate 11 (refine' _L.gv_mk ?a1 ?a2;(case a1=>k_is);(case a2=>exact(_,rfl,)))
