import PyProof.Rows.All
import Wide.All
import OpenK.AllK
import Wide.FinOn
import Lean
import PyProof.EqAt
import PyProof.EqKinds
import PyProof.TupleCall
import KE.KIntText
import KE.KTryMore
import KE.KIsAll
import PyProof.ZipIter
import KE.KRevIter
import PyProof.AttrMissHeap
import KE.KDictOf
import PyProof.DictUpdate
import PyProof.DictList
import PyProof.CollectIter
import PyProof.FactsAll.range_2
import PyProof.FactsAll.range_iterator_1
import KE.KEqDict
import PyProof.FactsAll.zip_1
import KE.KItemsList
import PySem.Challenge.RW_rowjudge_k81_codes_of_facts
open List renaming length_map→dn,mem_cons→dt,getElem?_map→dy,map_append→dz,size_toArray→dA,mem_cons_self→dO,mem_cons_of_mem→dV,mem_map→eH,length_take→eV,take_length→fD,forall_mem_cons→fZ,length_append→gp,mem_append→gs,mem_singleton→gu,getElem?_of_mem→gT,forall_mem_nil→gZ,mem_range→hC,mem_append_right→hH,getD_eq_getElem?_getD→hJ,mem_filter→hQ,length_cons→hU,getElem?_append_left→hY,length_range→hZ,map_cons→ik,all_eq_true→iv,getElem?_append_right→iJ,length_filter_le→iK,nodup_cons→ja,length_replicate→jb,not_mem_nil→jc,mem_append_left→jd,foldl_cons→jx,filter_append→jy,filterMap_cons→jP,append_nil→jQ,getElem?_take→jR,filter_nil→jS,any_eq_true→jT,getElem?_eq_none→jU,range_succ→kU,take_sublist→ly,length_singleton→lz,take_add_one→lA,length_zip→lE,length_eq_zero_iff→lK,lookup_cons→lL,filter_cons→lR,length_zipWith→mu,all_cons→ni,any_cons→nj,nodup_iff_pairwise_ne→nk,pairwise_map→nr,find?_cons→ny,filter_cons_of_pos→nF,filter_cons_of_neg→nL,getElem?_set_self→nY,any_eq_false→ov,nodup_append→oD,map_map→pa,ext_getElem?→pk,getElem?_range→qB,filter_sublist→ra,getElem?_set_ne→rb,mem_filterMap→rg,getElem_mem→ri,pairwise_cons→rC,nodup_nil→rG,getElem?_zipWith→rJ,length_dropLast→rK,length_pos_iff→rL,of_mem_zip→sr,length_set→sv,map_nil→sD,length_nil→sG,nodup_range→ti
open Nat renaming le_refl→tj,ne_of_lt→tN,lt_of_lt_of_le→tP,ne_of_gt→tR,zero_le→tS,le_trans→tT,le_of_lt→uK,lt_trans→uL,le_succ→uM,lt_irrefl→va,lt_succ_of_lt→vb,lt_succ_self→vr,le_add_right→vT,lt_of_le_of_lt→vU,sub_self→v3,not_lt_zero→v5,lt_or_ge→wh,lt_of_succ_lt→wH
open Int renaming toNat_natCast→w4,emod_nonneg→w5,emod_lt_of_pos→xc,toNat_of_nonneg→xt,natCast_nonneg→xu,zero_add→xv
open Array renaming length_toList→x4,getElem?_eq_getElem→yc,toList_push→yf
open Bool renaming and_eq_true→yq,eq_false_iff→yt,false_eq_true→yz
open Option renaming isSome_iff_exists→yM,map_some→zb,isSome_map→zg
open PySem renaming wpAny_bind→zo,wpAny_pure→zp,wpAny_holding→zq,wpAny_Call_Name_kw→zt,Value→zz,World→zJ,Program→zM,Addr→Ak,Heap→Az,sizeLine→AA,sysModules→AY,tupleKind→BH,intKind→B4,mainGlobals→B7,builtinsNs→B8,bootBuiltins→Cc,Around→Cd,Shared→Cg,Scope→Cr,GenState→CC,Model→Dn,wpAny→DO,Expr→D0,isTrue→EX,backTo→E1,starEach→E2,Stmt→F3,wpAny_mono→F9,wpAny_Name→Ga,standAt→Gf,wpAny_truthy_bool→Gk,wpAny_execs_nil→GH,wpAny_execs_cons→GI,swapsWith→GJ,wpAny_Expr_any→GK,assignEach→GL,wpAny_assign_Name→GN,wpAny_standAt→GO,PassesOwn→GP,wpAny_passesOwn→GQ,pyNext→GR,letOwnedTupleGo→GS,pyIter→GU,rawInt→GV,wpAny_pyNext_list_item→GW,wpAny_pyNext_list_end→GX,Walks→GY,wpAny_pyIter_list→GZ,Builtin→G0,foldedSetIterable→G1,binaryOp→G2,intBits_le_64→G3,compareOp→G4,CmpOp→G5,behindInMarks→G6,sizeLine_eq→G7,DictEntry→G8,getMethod→G9,Result→Hm,codeAny→Hn,attributeBase→Ho,recursionLimit→Hr,cLine→Ht,Code→Hu,FuncData→Hv,BindsTo→Hw,bindArgs→Hx,wpAny_call→Hy,codeAny_mono→Hz,Keyword→HA,NameKind→HB,bindL→HC,bindC→HD,cellsFrom→HE,seqIndex_of→HF,call_list_seq→HG,typeIs_int→HH,typeOf→HI,backToKw→HJ,keywordEach→HK,call_meets→HL,Params→HM,callerA→HN,compEnvC→HP,closureFor→HQ,closureFor_none→HR,noteFrame→HS,newList→HU,newFunctionEnv→HV,wpAny_newObj_type→HW,wpAny_newFunctionEnv→HY,codeAny_compStart_list→HZ,eval_ListComp→Ia,wpAny_comprehension_free→Ib,compPost→Ic,exec_Assign_Name_used→Ie,wpAny_setField→Ig,wpAny_field→Ih,setFlight→Ii,wpAny_typeOf_ref→Ij,codeAny_call_builtin→Ik,wpAny_ite_false→Il,codeAny_builtin→Im,checkBuiltinCall→Io,argsOk→Ip,wpAny_of_eq→Iq,getAttr?→Ir,wpAny_attempt→Iu,typeLookup→Iv,wpAny_ite_true→Iw,slotArgs→Iy,wpAny_rule→Iz,callWith→IA,wpAny_JoinedStr→IB,Joins_cons→IC,wpAny_FormattedValue_repr→ID,Joins_nil→IE,pyReprObj_str→IF,richCompare→IG,WalksS→IH,scanBound→II,Moved→IJ,setAdd→IK,plainId_quiet→IL,check_set_init_1→IM,wpAny_runValue→IP,codeAny_of_tree→IQ,weight_type_call_type→IS,SetTable→IT,layNew→IU,relayAll→IV,pickOrder→IW,intKind_is→IX,wpAny_storeSet_of→IY,fits_of_scanBound→IZ,wpAny_setState_of→I0,wpAny_askSetting→I1,typeLookup_type→Ja,builtinLookup_eq_fast→Jb,isSubtype_type→Jc,entryFor→Jd,entryFor_of_fast→Je,entryFor_alias→Jf,drawOrder→Jg,setNext→Jh,wpAny_callSpecial?_slot→Ji,wpAny_call_entry→Jj,wpAny_fieldsOf→Jk,wpAny_setEntries_of→Jl,wpAny_setField_rec→Jm,newExc→Jn,firstArgMember→Jo,wpAny_handled→Jp,wpAny_isInstance→Jq,isSubtype_stop→Jr,wpAny_seqItems→Js,wpAny_pyIter_slot→Jt,Setting→Ju,setsByText→Jv,wpAny_newTuple→Jw,wpAny_setEpoch_of→Jx,wpAny_typeOf→Jy,updateSeq→Jz,wpAny_updateSeq→JA,intItems→JB,numAt_eq→JC,IsPair→JD,ZipApart→JE,wpAny_pyNext_zip_item→JF,wpAny_pyNext_zip_end→JG,wpAny_pyIter_zip→JH,wpAny_nextOf_list_item→JI,wpAny_nextOf_list_end→JJ,wpAny_pyIter_enum→JK,sub_AttributeError→JL,getattributeRaised→JM,wpAny_tryCatch→JN,wpAny_dictSet_pairs→JO,callType_codes→JP,kt_code_dict_new→JQ,wpAny_notOrdered_dict→JR,merged_nil_of_nodup→JS,valueAt→JT,slot_dict_getitem→JU,wpAny_getItem_of→JV,wpAny_pyIter_revIter→JW,atKey→JX,tupleKind_room_in1→JY,call_meetsIn→JZ,wpAny_Call_method0_late→Ka,meets_dict_items→Kb,argBest→Kc,seqItems?→Kd,wpAny_letGo→Ke,boot_len→Kf
open Option renaming some→Kg,none→Kh
open Bool renaming true→Ki,false→Kj
open Decidable renaming decide→Kk
set_option Elab.async false
set_option linter.all false
set_option maxRecDepth 100000
set_option maxHeartbeats 4000000
set_option bootstrap.genMatcherCode false
local macro_rules|`(term|∅)=>`(by first|lia|(dsimp only;lia))
local macro_rules|`(term|⋯)=>`(by decide)
local macro_rules|`(~~~$x)=>`(by simpa using $x)
local macro_rules|`(~~~0)=>`(by decide+kernel)
abbrev La:=@List
open Lean in
local macro_rules|`(tactic|let $d:letDecl)=>do
 let p:=d.raw[0]
 if p.isOfKind `Lean.Parser.Term.letPatDecl then
  let n:=Syntax.node .none
  let g:=λe:Array Syntax=>n `Lean.Parser.Tactic.rcasesPat.tuple #[.atom .none "⟨",n `null (e.mapIdx λj p=>if j%2==1 then p else n `Lean.Parser.Tactic.rcasesPatLo #[n `Lean.Parser.Tactic.rcasesPatMed #[n `null #[p]],n `null #[]]),.atom .none "⟩"]
  let q:=p[0].rewriteBottomUp λs=>match s with|.ident ..=>n `Lean.Parser.Tactic.rcasesPat.one #[s]|.node i k a=>if k==`Lean.Parser.Term.hole then n `Lean.Parser.Tactic.rcasesPat.ignore a else if k==`Lean.Parser.Term.anonymousCtor then g a[1]!.getArgs else if k==`Lean.Parser.Term.tuple then g (#[a[1]![0],a[1]![1]]++a[1]![2].getArgs) else s|_=>s
  return n `Lean.Parser.Tactic.obtain #[.atom .none "obtain",n `null #[n `Lean.Parser.Tactic.rcasesPatMed #[n `null #[q]]],n `null p[2][0].getArgs,n `null #[.atom .none ":=",n `null #[p[4]]]]
 else `(tactic|have $d:letDecl)
local macro_rules|`(tactic|calc $x:term)=>`(tactic|refine $x)
open Lean in
local macro_rules(kind:=Lean.Parser.Command.declaration)|s=>do
 let k:=s[1].getKind
 if s[0][1].isNone&&s[0][4].isNone&&(k==``Lean.Parser.Command.definition||k==``Lean.Parser.Command.abbrev||k==``Lean.Parser.Command.instance) then return s.setArg 0 (s[0].setArg 4 (.node .none `null #[.node .none ``Lean.Parser.Command.noncomputable #[.atom .none "noncomputable"]]))
 Macro.throwUnsupported
abbrev Kn:=@if_neg
abbrev Ko:=@if_pos
abbrev Kp:=@absurd
abbrev Kq:=@decide_eq_true
abbrev Kr:=@decide_eq_false
abbrev Ks:=@of_decide_eq_true
abbrev Kt:=@congrArg
abbrev Ku:=@decide_eq_true_iff
local macro_rules|`(term|s!$x)=>do
 let some t:=x.raw.getArgs[0]? | Lean.Macro.throwUnsupported
 let some v:=t.isInterpolatedStrLit? | Lean.Macro.throwUnsupported
 `(PySem.Str.ofString $(Lean.quote v))
def GC{a:Type _}{l:La a}{i:Nat}(h:i<l.length):l[i]?=Kg l[i]:=List.getElem?_eq_getElem h
def GD{b:Type _}{a:b}{l:La b}{i:Nat}:l[i]?=Kg a ↔ ∃h:i<l.length, l[i]=a:=List.getElem?_eq_some_iff
def GG{b:Type _}{l:La b}{i:Nat}{a:b}(e:l[i]?=Kg a):a∈l:=List.mem_of_getElem? e
namespace L2
def U{b:Sort _}{a:b}:a=a:=rfl
open PySem PySem.Spec PyProof.Rows
abbrev Key:=Sum Int Str
def nU:Key->zz->Bool
 | .inl k,v=>zz.isInt k v
 | .inr x,v=>zz.isStrOf x v
def Dm(w:zJ):Key->Int
 | .inl k=>hashInt k
 | .inr x=>hashStr w x
theorem bU:∀{k:Key}{v:zz},nU k v=Ki->(∃i t,k=Sum.inl i/\v=zz.int i t)\/(∃x t,k=Sum.inr x/\v=zz.str x t)
 | .inl i,v,h=>by
  let(t,e):=zz.isInt_shape (k:=i) (v:=v) h;exact .inl ⟨i,t,U,e⟩
 | .inr x,v,h=>by
  let(t,e):=zz.isStrOf_shape (x:=x) (v:=v) h;calc .inr ⟨x,t,U,e⟩
theorem uN(i:Int)(t:Tok):nU (.inl i) (.int i t)=true:=by simp[nU,zz.isInt]
theorem uO(x:Str)(t:Tok):nU (.inr x) (.str x t)=true:=by simp[nU,zz.isStrOf]
theorem zY(a b:Int):decide ((Sum.inl a:Key)=Sum.inl b)=(a == b):=by
 by_cases e:a=b
 .subst e;simp
 .let h:¬ (Sum.inl a:Key)=Sum.inl b:=λq=>e<|Sum.inl.inj q
  rw[Kr h];calc(beq_eq_false_iff_ne.mpr e).symm
theorem zZ(a b:Str):decide ((Sum.inr a:Key)=Sum.inr b)=Kk (a=b):=by
 by_cases e:a=b
 .subst e;simp
 .let h:¬ (Sum.inr a:Key)=Sum.inr b:=λq=>e<|Sum.inr.inj q
  rw[Kr h,Kr e]
def Aa(a:Int)(b:Str):decide ((Sum.inl a:Key)=Sum.inr b)=false:=Kr<|λq=>nomatch q
def Ab(a:Str)(b:Int):decide ((Sum.inr a:Key)=Sum.inl b)=false:=Kr<|λq=>nomatch q
def bp(prog:zM)(w:zJ):PySem.KeyKind prog w Key where
 is:=nU
 hash:=Dm w
 inj:=λv a b l f=>by
  rcases bU l with⟨i,t,rfl,rfl⟩|⟨x,t,rfl,rfl⟩
  .rcases bU f with⟨j,u,rfl,e⟩|⟨y,u,rfl,e⟩
   .injection e with c _;rw[c]
   .exact nomatch e
  .rcases bU f with⟨j,u,rfl,e⟩|⟨y,u,rfl,e⟩
   .exact nomatch e
   .injection e with c _;rw[c]
 byValue:=λk v h=>by
  rcases bU h with⟨i,t,rfl,rfl⟩|⟨x,t,rfl,rfl⟩ <;> rfl
 pyHash:=λd h=>by
  rcases bU d with⟨i,t,rfl,rfl⟩|⟨x,t,rfl,rfl⟩
  .exact wpAny_pyHash_int h
  .exact wpAny_pyHash_str h
 eqBool:=λg d h=>by
  rcases bU g with⟨i,t,rfl,rfl⟩|⟨x,t,rfl,rfl⟩
  .rcases bU d with⟨j,u,rfl,rfl⟩|⟨y,u,rfl,rfl⟩
   .rw[zY]at h;exact wpAny_eqBool_int h
   .rw[Aa]at h;exact SeqAt.EqAt.int_str i t y u _ _ _ _ h
  .rcases bU d with⟨j,u,rfl,rfl⟩|⟨y,u,rfl,rfl⟩
   .rw[Ab]at h;exact SeqAt.EqAt.str_int x t j u _ _ _ _ h
   .rw[zZ]at h;exact wpAny_eqBool_str h
 «strs»:=λk x t v h=>by
  rcases bU h with⟨i,u,rfl,e⟩|⟨y,u,rfl,e⟩
  .exact nomatch e
  .injection e with c _;subst c;cases v <;> rfl
def qj(prog:zM)(w:zJ)(i:Int)(t:Tok):(bp prog w).is (.inl i) (.int i t)=true:=uN i t
def fF(prog:zM)(w:zJ)(x:Str)(t:Tok):(bp prog w).is (.inr x) (.str x t)=true:=uO x t
inductive V where
 |non|bl (b:Bool)|int (i:Int)|str (x:Str)|byt (b:Array UInt8)|flt (b:UInt64)|ref (a:Ak)|ty (n:String)
 deriving DecidableEq
def RelV:V->zz->Prop
 | .non,u=>u=zz.none
 | .bl b,u=>u=zz.bool b
 | .int i,u=>∃t,u=zz.int i t
 | .str x,u=>∃t,u=zz.str x t
 | .byt b,u=>∃t,u=zz.bytes b t
 | .flt b,u=>∃t,u=zz.float b t
 | .ref a,u=>u=zz.ref a
 | .ty n,u=>u=zz.type n
abbrev Vals:La V->La zz->Prop:=Paired RelV
theorem Vals.length{xs:La V}{us:La zz}(r:Vals xs us):xs.length=us.length:=Paired.length r
theorem Vals.get:∀{xs:La V}{us:La zz}{i:Nat}{x:V},Vals xs us->xs[i]?=Kg x->∃u,us[i]?=Kg u/\RelV x u
 |_,_,_,_,.nil,e=>by simp at e
 |_,_,0,_,.cons r _,e=>by simp at e;subst e;exact⟨_,U,r⟩
 |_,_,i+1,x,.cons _ t,e=>by
  let(u,b,a):=Vals.get (i:=i) (x:=x) t<|~~~e;calc⟨u,~~~b,a⟩
theorem Vals.set{x:V}{u:zz}(r:RelV x u):∀{xs:La V}{us:La zz}(i:Nat),Vals xs us->Vals (xs.set i x) (us.set i u)
 |_,_,_,.nil=>.nil
 |_,_,0,.cons _ t=>.cons r t
 |_,_,i+1,.cons q t=>.cons q<|Vals.set r i t
theorem Vals.append:∀{xs ys:La V}{us a:La zz},Vals xs us->Vals ys a->Vals (xs++ys) (us++a)
 |_,_,_,_,.nil,s=>s
 |_,_,_,_,.cons r t,s=>.cons r<|Vals.append t s
def iq:Option V->Option zz->Prop
 |some v,Kg u=>RelV v u
 |none,Kh=>True
 |_,_=>False
def KV{a:Type}:La (a×V)->La (a×zz)->Prop:=Paired λ(p:a×V)(q:a×zz)=>p.1=q.1/\RelV p.2 q.2
def kV:Key->V
 | .inl i=>.int i
 | .inr x=>.str x
inductive HO where
 |lst (xs:La V)
 |tup (xs:La V)
 |dK (kvs:La (Key×V))|dT (kvs:La (La Key×V))
 |set (S:Int->Bool)(n:Nat)
 |ins (C dx:Ak)(fs:La (Str×V))
 |own (x:Ak)
 |xd (fs:La (Str×V))
 |met (f x:Ak)
 |rng (lo hi:Int)
 |frz (o:Obj)(u:HO)
 |tbl (ps:Array zz)
 |ext (φ:Az->Prop)
abbrev Hp:=Ak->Option HO
def upd(H:Hp)(a:Ak)(o:HO):Hp:=λb=>if b=a then Kg o else H b
theorem ae{H:Hp}{a:Ak}{o:HO}:upd H a o a=Kg o:=by unfold upd;rw[Ko U]
theorem aq{H:Hp}{a b:Ak}{o:HO}(h:b≠a):upd H a o b=H b:=by unfold upd;rw[Kn h]
theorem cy{H:Hp}{a b:Ak}{o u:HO}(h:H a=Kg o)(h':H b=Kg u)(d:o≠u):a≠b:=by
 intro e;subst e;rw[h]at h';calc d<|Option.some.inj h'
theorem bL{H:Hp}{a b:Ak}{o:HO}(h:H a=Kg o)(h':H b=Kh):a≠b:=by
 intro e;subst e;rw[h]at h';cases h'
section
variable(P:zM)(w:zJ)
def bQ(H:Hp)(h:Az)(a:Ak):HO->Prop
 | .lst xs=>xs.length<=AA/\∃(b:La zz)(n:Nat),Vals xs b/\h.get? a=Kg { cls:=.type "list",data:=.seq b.toArray n }
 | .tup xs=>xs.length<=AA/\∃b:La zz,Vals xs b/\IsTup h a b.toArray
 | .dK kvs=>kvs.length<=AA/\(a == AY)=Kj/\∃vs,KV kvs vs/\h.DictOf (bp P w) a vs
 | .dT kvs=>kvs.length<=AA/\(a == AY)=Kj/\∃xs:La (La Key×Ak×zz),
   Paired (λ(p:La Key×V)(q:La Key×Ak×zz)=>p.1=q.1/\H q.2.1=Kg (.tup<|p.1.map kV)/\RelV p.2 q.2.2) kvs xs /\
   ∃o g ep,h.get? a=Kg o/\o.ExactDict/\o.data=.dict g ep/\g.toList=xs.map (entryOfKey<|BH<|bp P w)/\(xs.map (·.1)).Nodup
 | .set S n=>h.SetOf (B4 P w) a S n
 | .ins C dx fs=>H dx=Kg (.own a)/\fs.length<=1000/\dx≠a/\h.get? a=Kg (W.instObj C dx) /\
   ∃c,h.Ns1 dx c/\(∀f,iq (fs.lookup f)<|c f)/\PySem.Within c (fs.map (·.1))
 | .own _=>∃o,h.get? a=Kg o
 | .xd fs=>∃c,h.Ns1 a c/\∀f,iq (fs.lookup f) (c f)
 | .rng lo hi=>∃t u v,h.get? a=Kg { cls:=.type "range",data:=.fields #[.int lo t,.int hi u,.int 1 v] }
 | .frz o u=>h.get? a=Kg o/\bQ H h a u
 | .tbl ps=>h.get? a=Kg { cls:=.none,data:=.fields ps }
 | .met f x=>h.get? a=Kg (W.methodObj (.ref f)<|.ref x)
 | .ext φ=>φ h/\(∃o,h.get? a=Kg o)/\∀e d:Az,φ e->(∀o,e.get? a=Kg o->d.get? a=Kg o)->φ d
def HOk(H:Hp)(h:Az):Prop:=∀a o,H a=Kg o->bQ P w H h a o
end
variable{P:zM}{w:zJ}{H H':Hp}{h h':Az}{a:Ak}
section
variable{o:HO}
theorem bQ.lt(x:bQ P w H h a o):a<h.objs.size:=by
 cases o with
 |lst c=>obtain⟨_,_,_,_,e⟩:=x;exact Az.lt_size e
 |tup c=>obtain⟨_,_,_,p⟩:=x;exact p.lt
 |dK b=>obtain⟨_,_,_,_,o,_,_,e,_⟩:=x;exact Az.lt_size e
 |dT b=>obtain⟨_,_,_,_,o,_,_,e,_⟩:=x;exact Az.lt_size e
 |set S n=>obtain⟨o,_,_,_,e,_⟩:=x;exact Az.lt_size e
 |ins C j fs=>obtain⟨_,_,_,e,_⟩:=x;exact Az.lt_size e
 |own y=>obtain⟨_,e⟩:=x;exact Az.lt_size e
 |xd fs=>obtain⟨_,⟨_,_,_,e,_⟩,_⟩:=x;exact Az.lt_size e
 |rng lo hi=>obtain⟨_,_,_,e⟩:=x;exact Az.lt_size e
 |frz i u=>obtain⟨e,_⟩:=x;exact Az.lt_size e
 |tbl g=>exact Az.lt_size (show h.get? a=Kg _ from x)
 |met f y=>exact Az.lt_size (show h.get? a=Kg _ from x)
 |ext d=>obtain⟨_,⟨_,e⟩,_⟩:=x;calc Az.lt_size e
theorem Paired.mapP{g e:Type}{F G:g->e->Prop}:∀{d:La g}{c:La e},Paired F d c->(∀a b,F a b->G a b)->Paired G d c
 |_,_,.nil,_=>.nil
 |_,_,.cons r t,f=>.cons (f _ _ r)<|Paired.mapP t f
theorem bQ.stay(x:bQ P w H h a o)(k:∀b u,(b=a\/H b=Kg (.own a))->h.get? b=Kg u->h'.get? b=Kg u)
  (J:∀b,H b=Kg (.own a)->H' b=Kg (.own a))(I:∀b xs,H b=Kg (.tup xs)->H' b=Kg (.tup xs)):bQ P w H' h' a o:=by
 induction o with
 |lst xs=>obtain⟨z,l,n,r,e⟩:=x;exact⟨z,l,n,r,k _ _ (.inl U) e⟩
 |tup xs=>obtain⟨z,l,r,g,e,c⟩:=x;exact⟨z,l,r,g,k _ _ (.inl U) e,c⟩
 |dK A=>obtain⟨z,y,E,r,g,i,j,e,c⟩:=x;exact⟨z,y,E,r,g,i,j,k _ _ (.inl U) e,c⟩
 |dT A =>
  let(z,y,xs,r,g,i,j,e,c):=x;exact⟨z,y,xs,Paired.mapP r λp q z=>⟨z.1,I _ _ z.2.1,z.2.2⟩,g,i,j,k _ _ (.inl U) e,c⟩
 |set S n=>obtain⟨g,i,j,t,e,c⟩:=x;exact⟨g,i,j,t,k _ _ (.inl U) e,c⟩
 |ins C M fs =>
  let(d,z,F,e,s,(m,i,j,K,c),r):=x;exact⟨J _ d,z,F,k _ _ (.inl U) e,s,⟨m,i,j,k _ _ (.inr d) K,c⟩,r⟩
 |own y=>obtain⟨g,e⟩:=x;exact⟨g,k _ _ (.inl U) e⟩
 |xd fs=>obtain⟨s,⟨m,i,j,e,c⟩,r⟩:=x;exact⟨s,⟨m,i,j,k _ _ (.inl U) e,c⟩,r⟩
 |rng lo hi=>obtain⟨t,u,v,e⟩:=x;exact⟨t,u,v,k _ _ (.inl U) e⟩
 |frz g u G=>obtain⟨e,q⟩:=x;exact⟨k _ _ (.inl U) e,G q⟩
 |tbl D =>
  let e:h.get? a=Kg { cls:=.none,data:=.fields D }:=x;show h'.get? a=Kg { cls:=.none,data:=.fields D };exact k a _ (.inl U) e
 |met f y =>
  let e:h.get? a=Kg (W.methodObj (.ref f)<|.ref y):=x;show h'.get? a=Kg (W.methodObj (.ref f)<|.ref y);exact k a _ (.inl U) e
 |ext L=>obtain⟨p,⟨o,e⟩,B⟩:=x;calc⟨B _ _ p λo q=>k _ _ (.inl U) q,⟨o,k _ _ (.inl U) e⟩,B⟩
theorem HOk.lt(x:HOk P w H h)(e:H a=Kg o):a<h.objs.size:=(x a o e).lt
theorem HOk.fresh(x:HOk P w H h)(e:h.objs.size<=a):H a=none:=by
 cases q:H a with
 |none=>rfl
 |some u=>calc Kp (tP (x.lt q) e) (va _)
def HOk.kept(x:HOk P w H h)(k:∀b u,h.get? b=Kg u->h'.get? b=Kg u):HOk P w H h':=λa o e =>
 (x a o e).stay (λb u _ q=>k b u q) (λ_ q=>q) λ_ _ q=>q
theorem HOk.laid(x:HOk P w H h)(k:∀b u,h.get? b=Kg u->h'.get? b=Kg u)(g:h.objs.size<=a)(new:bQ P w (upd H a o) h' a o):HOk P w (upd H a o) h':=λb u e=>by
 let d:=x.fresh g;by_cases f:b=a
 .subst f;rw[ae]at e;cases e;exact new
 .rw[aq f]at e;exact(x b u e).stay (λc v _ q=>k c v q) (λc q=>by rw[aq (bL q d)];exact q) λc i q=>by rw[aq (bL q d)];calc q
end
def Rd(H:Hp)(a:Ak)(u:HO):Prop:=H a=Kg u\/∃o,H a=Kg (.frz o u)
theorem Rd.ok{P:zM}{w:zJ}{H:Hp}{h:Az}{a:Ak}{u:HO}(r:Rd H a u)(x:HOk P w H h):bQ P w H h a u:=by
 rcases r with r|⟨o,r⟩
 .exact x a u r
 .let(_,q):=x a _ r;calc q
def Mut:Option HO->Prop
 |some (.lst _)=>True
 |some (.dK _)=>True
 |some (.dT _)=>True
 |some (.set _ _)=>True
 |some (.ins _ _ _)=>True
 |some (.ext _)=>True
 |_=>False
variable{x:Ak}
section
variable{e:Ak}{o':HO}
theorem HOk.write(ok:HOk P w H h)(f:Mut (H x))(m:e=x\/H e=Kg (.own x))(k:∀b u,b≠e->h.get? b=Kg u->h'.get? b=Kg u)(j:∃u,h'.get? e=Kg u)
  (new:bQ P w (upd H x o') h' x o'):HOk P w (upd H x o') h':=λb u q=>by
 let n:∀c y,H c=Kg (.own y)->c≠x:=λc y r z=>by subst z;rw[r]at f;exact f
 let p:∀c d,H c=Kg (.tup d)->c≠x:=λc d r z=>by subst z;rw[r]at f;exact f
 by_cases i:b=x
 .subst i;rw[ae]at q;cases q;exact new
 .rw[aq i]at q;by_cases a:b=e
  .let l:H b=Kg (.own x):=by
    rcases m with z|z
    .exact Kp (a.trans z) i
    .rw[a];exact z
   rw[q]at l;cases l;let(v,o):=j;exact⟨v,by rw[a];exact o⟩
  .refine(ok b u q).stay (λc v g r=>k c v ?_ r) (λc r=>by rw[aq (n c b r)];exact r) λc d r=>by rw[aq (p c d r)];exact r
   rcases g with rfl|g
   .exact a
   .rintro rfl;rcases m with z|z
    .exact n c b g z
    .rw[g]at z;cases z;calc i U
end
structure Un(fs ex:La Ak)(H H':Hp)(h h':Az):Prop where
 keep:∀b o,h.get? b=Kg o->H b=Kh->b ∉ fs->b ∉ ex->h'.get? b=Kg o
 slot:∀b o,h.get? b=Kg o->H b=Kh->b∈fs->b ∉ ex->∃sl,h'.get? b=Kg { o with slots:=sl }
 free:∀b o,h.get? b=Kg o->H b=Kh->b ∉ ex->H' b=Kh
 there:∀b o,h.get? b=Kg o->b ∉ ex->∃o',h'.get? b=Kg o'
 tups:∀b xs,H b=Kg (.tup xs)->H' b=Kg (.tup xs)
 frzs:∀b o u,H b=Kg (.frz o u)->H' b=Kg (.frz o u)
 tbls:∀b ps,H b=Kg (.tbl ps)->∃more,H' b=Kg (.tbl<|ps++more)
section
variable{fs fs' ex ex':La Ak}{H1 H2:Hp}{h1 h2:Az}{e:Ak}{o:HO}
theorem Un.any(u:Un fs ex H H1 h h1){b:Ak}{a:Obj}(q:h.get? b=Kg a)(n:H b=Kh)(c:b ∉ ex):∃e,h1.get? b=Kg { a with slots:=e }:=by
 by_cases d:b∈fs
 .exact u.slot b a q n d c
 .exact⟨a.slots,u.keep b a q n d c⟩
theorem Un.kept(k:∀b u,h.get? b=Kg u->h'.get? b=Kg u):Un fs ex H H h h' :=
 ⟨λb a q _ _ _=>k b a q,λb a q _ _ _=>⟨a.slots,k b a q⟩,λ_ _ _ n _=>n,λb a q _=>⟨a,k b a q⟩,λ_ _ q=>q,λ_ _ _ q=>q,λ_ c q=>⟨#[],by rw[q];simp⟩⟩
def Un.refl:Un fs ex H H h h:=Un.kept λ_ _ q=>q
theorem Un.laid(k:∀b u,h.get? b=Kg u->h'.get? b=Kg u)(e:h.objs.size<=a)(c:H a=Kh):Un fs ex H (upd H a o) h h' where
 keep:=λb u q _ _ _=>k b u q
 slot:=λb u q _ _ _=>⟨u.slots,k b u q⟩
 free:=λb u q n _=>by rw[aq (tN<|tP (Az.lt_size q) e)];exact n
 there:=λb u q _=>⟨u,k b u q⟩
 tups:=λb d q=>by rw[aq (bL q c)];exact q
 frzs:=λb u d q=>by rw[aq (bL q c)];exact q
 tbls:=λb f q=>⟨#[],by rw[aq (bL q c),q];simp⟩
theorem Un.write(c:Mut (H x))(m:e=x\/H e=Kg (.own x))(k:∀b u,b≠e->h.get? b=Kg u->h'.get? b=Kg u)(f:∃u,h'.get? e=Kg u):Un fs ex H (upd H x o) h h':=by
 let g:∀b,H b=Kh->b≠x:=λb n z=>by subst z;rw[n]at c;exact c
 let i:∀b,H b=Kh->b≠e:=λb n z=>by
  subst z;rcases m with r|r
  .exact g b n r
  .rw[n]at r;cases r
 let d:∀b u,H b=Kg u->¬ Mut (Kg u)->b≠x:=λb u q l z=>by subst z;rw[q]at c;exact l c
 refine⟨λb u q n _ _=>k b u (i b n) q,λb u q n _ _=>⟨u.slots,k b u (i b n) q⟩,λb u q n _=>by rw[aq (g b n)];exact n,λb u q _=>?_,
  λb j q=>by rw[aq (d b _ q λz=>z)];exact q,λb u j q=>by rw[aq (d b _ q λz=>z)];exact q,λb p q=>⟨#[],by rw[aq (d b _ q λz=>z),q];simp⟩⟩
 by_cases a:b=e
 .subst a;exact f
 .exact⟨u,k b u a q⟩
end
def trk(h:Az)(H:Hp):La Ak:=(List.range h.objs.size).filter λa=>(H a).isSome
def oZ(h:Az)(H:Hp):Az:=W.hideAll h<|trk h H
def uP(h:Az)(H:Hp):(oZ h H).objs.size=h.objs.size:=W.hideAll_size _ _
theorem vV{h:Az}{H:Hp}{b:Ak}{o:Obj}(e:h.get? b=Kg o)(n:H b=Kh):(oZ h H).get? b=Kg o :=
 W.hideAll_get _ e λa=>by
  let q:(H b).isSome=true:=(hQ.mp a).2;rw[n]at q;simp at q
theorem yg{h:Az}{H:Hp}{b:Ak}{o:Obj}(e:(oZ h H).get? b=Kg o):h.get? b=Kg o/\H b=none:=by
 let a:h.get? b=Kg o:=W.of_hideAll (trk h H) e;calc⟨a,?_⟩;cases q:H b with
 |none=>rfl
 |some x =>
  let c:b∈trk h H:=hQ.mpr ⟨hC.mpr<|Az.lt_size a,by simp[q]⟩;let z:(oZ h H).get? b=none:=W.hideAll_none (trk h H) c;rw[z]at e;cases e
def yh(g h:Az)(L:Ak):La (Ak×Obj):=(List.range h.objs.size).filterMap λa=>if a=L\/(g.get? a).isSome=Ki then Kh else(h.get? a).map λo=>(a,o)
def rest(g h:Az)(L d:Ak):La (Ak×Obj):=(yh g h L).filter λp=>decide<|p.1≠d
structure Mod(K:W.Frag)(mg:Str->Option zz)(base:Az):Prop where
 kin:K.In base
 glob:base.Ns B7 mg
 blt:∃mb,base.Ns B8 mb/\∀x:Str,x ≠ "__name__" -> mb x=Cc x
 nolimit:base.NoLimit
structure Cx where
 prog:zM
 w:zJ
 K:W.Frag
 mg:Str->Option zz
 base:Az
 A:Cd
 N:La Str
 s₀:Cg
 H₀:Hp
 env:Env
 outer:La Env
 stack:La Env
 ex:La Ak
 fn:Str->Bool
 calm:Bool
 pn:La (Ak×Obj)
 xe:zz->Cg->Prop
def frs(l:La Env):La Ak:=l.filterMap (·.frame)
abbrev Cx.fs(X:Cx):La Ak:=frs X.outer
def Vis(a:Cr)(x:Str):Prop:=a.names.lookup x=Kg .local\/a.names.lookup x=Kg .cell\/a.names.lookup x=Kg .free
def Loc(a:Cr)(x:Str):Prop:=a.names.lookup x=Kg .local\/a.names.lookup x=Kg .cell
def Look(a:Env)(h:Az)(m:Str->Option zz)(x:Str)(u:zz):Prop :=
 (a.kindOf x=Kg .local/\m x=Kg u)\/((a.kindOf x=Kg .cell\/a.kindOf x=Kg .free)/\∃c,a.cells.lookup x=Kg c/\h.IsCell c (Kg u))
structure Cx.Ok(X:Cx):Prop where
 mod:Mod X.K X.mg X.base
 kind:X.env.scope.kind=.function
 glob:X.env.globals=B7
 blt:X.env.builtins=B8
 above:X.s₀.heap.objs.size<=X.env.locals
 inj:∀x y c,X.env.cells.lookup x=Kg c->X.env.cells.lookup y=Kg c->x=y
 has:∀x,(X.env.kindOf x=Kg .cell\/X.env.kindOf x=Kg .free)->∃c,X.env.cells.lookup x=Kg c
 cab:∀x c,X.fn x=Ki->X.env.cells.lookup x=Kg c->X.s₀.heap.objs.size<=c
 hd:X.calm=Ki->X.A.handled=Kh
 frames:X.A.frames=Kg X.stack
 stk:X.stack=X.outer\/(X.stack=X.env :: X.outer/\X.env.frame=Kg X.env.locals)
 exf:∀b∈X.ex,b≠X.env.locals/\∀x c,X.env.cells.lookup x=Kg c->c≠b
 bs:∀b o,X.base.get? b=Kg o->X.s₀.heap.get? b=Kg o/\X.H₀ b=Kh
 bsz:X.base.objs.size<=X.s₀.heap.objs.size
 noex:∀b o,X.base.get? b=Kg o->b ∉ X.ex
 exfs:∀b∈X.ex,b ∉ X.fs
 funs:X.s₀.heap.FunFrames X.base X.outer
 frf:∀b∈X.fs,X.H₀ b=Kh
structure Inv(X:Cx)(Kl:La (Ak×Obj))(σ:La (Option V))(H:Hp)(s:Cg):Prop where
 ok:X.Ok
 os:s.os=X.s₀.os
 bare:AllBare s.gens
 base:Un X.fs X.ex X.H₀ H X.s₀.heap s.heap
 loc:∃m,s.heap.Ns X.env.locals m/\∀(i:Nat)(x:Str)(v:V),X.N[i]?=Kg x->σ[i]?=Kg (Kg v)->Vis X.env.scope x->∃u,RelV v u/\Look X.env s.heap m x u
 cell:∀x c,X.env.cells.lookup x=Kg c->∃v,s.heap.IsCell c v
 free:H X.env.locals=Kh
 freeC:∀x c,X.env.cells.lookup x=Kg c->H c=Kh
 pin:∀p∈X.pn++Kl,s.heap.get? p.1=Kg p.2/\H p.1=Kh/\p.1≠X.env.locals/\p.1 ∉ X.fs/\∀v,p.2.data≠.cell v
 hok:HOk X.prog X.w H s.heap
 len:σ.length=X.N.length
variable{X:Cx}{Kl:La (Ak×Obj)}{s:Cg}
section
variable{σ:La (Option V)}
theorem Cx.Ok.nofr(ok:X.Ok){b:Ak}{o:Obj}(e:X.base.get? b=Kg o):b ∉ X.fs:=λa=>by
 let:=(ok.funs.mem a).1;rw[e]at this;cases this
theorem Inv.bs(I:Inv X Kl σ H s):∀b o,X.base.get? b=Kg o->s.heap.get? b=Kg o/\H b=none:=λb o e =>
 ⟨I.base.keep b o (I.ok.bs b o e).1 (I.ok.bs b o e).2 (I.ok.nofr e)<|I.ok.noex b o e,I.base.free b o (I.ok.bs b o e).1 (I.ok.bs b o e).2<|I.ok.noex b o e⟩
def Inv.bk(I:Inv X Kl σ H s):∀b o,X.base.get? b=Kg o->s.heap.get? b=Kg o:=λb o e=>(I.bs b o e).1
theorem Inv.mod(I:Inv X Kl σ H s):Mod X.K X.mg X.base:=I.ok.mod
def Inv.kIn(I:Inv X Kl σ H s):X.K.In s.heap:=I.ok.mod.kin.keeps I.bk
theorem Inv.lt(I:Inv X Kl σ H s):X.env.locals<s.heap.objs.size:=by let(_,a,_):=I.loc;calc a.lt
def Inv.sz(I:Inv X Kl σ H s):X.s₀.heap.objs.size<=s.heap.objs.size:=tT I.ok.above<|uK I.lt
theorem Inv.nofs(I:Inv X Kl σ H s){a:Ak}(h:s.heap.objs.size<=a):a ∉ X.fs:=λc=>by
 let(_,o,b,_):=I.ok.funs.mem c;calc Kp (tP (Az.lt_size b)<|tT I.sz h)<|va _
theorem Inv.cne(I:Inv X Kl σ H s):∀x c,X.env.cells.lookup x=Kg c->c≠X.env.locals:=λx c e z=>by
 let(v,o,d,f):=I.cell x c e;let(m,(g,h,i,a,b,_),_):=I.loc;rw[z,a]at d;cases d;rw[b]at f;cases f
theorem Inv.funs(I:Inv X Kl σ H s):s.heap.FunFrames X.base X.outer:=by
 let all:∀(l:La Env),(∀b∈frs l,b∈X.fs)->X.s₀.heap.FunFrames X.base l->s.heap.FunFrames X.base l:=by
  intro l;induction l with
  |nil=>intro _ _;trivial
  |cons p r g =>
   intro f k;let(m,(L,o,a,j,i,n),h):=k;let d:L∈X.fs:=f L (by unfold frs;rw[jP,a];exact dO);let(q,e):=I.base.slot L o i (I.ok.frf L d) d λz=>I.ok.exfs L z d
   exact⟨m,⟨L,_,a,j,e,n⟩,g (λb c=>f b (by unfold frs;rw[jP,a];exact dV _ c)) h⟩
 calc all X.outer (λ_ c=>c) I.ok.funs
theorem Inv.stack(I:Inv X Kl σ H s):s.heap.FunFrames X.base X.stack:=by
 rcases I.ok.stk with e|⟨e,b⟩
 .rw[e];exact I.funs
 .rw[e];let(m,a,_):=I.loc;refine .cons (by rw[I.ok.kind];decide) b a ?_ I.funs;calc Az.get?_none_of_le<|tT I.ok.bsz I.ok.above
theorem Inv.stkSub(I:Inv X Kl σ H s):∀b∈frs X.stack,b∈X.env.locals :: X.fs:=λb a=>by
 rcases I.ok.stk with e|⟨e,c⟩
 .rw[e]at a;exact dV _ a
 .rw[e]at a;unfold frs at a;rw[jP,c]at a;calc a
theorem Inv.stkFree(I:Inv X Kl σ H s):∀b∈frs X.stack,H b=none:=λb a=>by
 rcases dt.mp (I.stkSub b a)with e|a
 .rw[e];exact I.free
 .let(_,o,c,_):=I.ok.funs.mem a;calc I.base.free b o c (I.ok.frf b a) λz=>I.ok.exfs b z a
theorem Inv.step{g':Array CC}{t':Nat}{d':Drawn}{ch:La Ak}(I:Inv X Kl σ H s)
  (g:∀b∈ch,(b∈X.ex\/X.s₀.heap.objs.size<=b)/\b≠X.env.locals/\(∀x c,X.env.cells.lookup x=Kg c->c≠b)/\∀p∈X.pn++Kl,p.1≠b)
  (keep:∀b o,b≠X.env.locals->b ∉ X.fs->b ∉ ch->s.heap.get? b=Kg o->H b=Kh->h'.get? b=Kg o)
  (slot:∀b o,b≠X.env.locals->b∈X.fs->b ∉ ch->s.heap.get? b=Kg o->H b=Kh->∃F,h'.get? b=Kg { o with slots:=F })(free:∀b o,b ∉ ch->s.heap.get? b=Kg o->H b=Kh->H' b=Kh)
  (there:∀b o,b ∉ ch->s.heap.get? b=Kg o->∃B,h'.get? b=Kg B)
  (tups:∀b xs,H b=Kg (.tup xs)->H' b=Kg (.tup xs))(frzs:∀b o u,H b=Kg (.frz o u)->H' b=Kg (.frz o u))(tbls:∀b ps,H b=Kg (.tbl ps)->∃E,H' b=Kg (.tbl<|ps++E))
  (ns:∀m,s.heap.Ns X.env.locals m->h'.Ns X.env.locals m)(K:HOk X.prog X.w H' h')(T:AllBare g') :
  Inv X Kl σ H' { s with heap:=h',gens:=g',drawn:=d',toks:=t' }:=by
 let D:∀b o,X.s₀.heap.get? b=Kg o->b≠X.env.locals:=λb o e=>tN<|tP (Az.lt_size e) I.ok.above
 let t:∀b o,X.s₀.heap.get? b=Kg o->b ∉ X.ex->b ∉ ch:=λb o e a y=>by
  rcases(g b y).1 with z|z
  .exact a z
  .exact Kp (tP (Az.lt_size e) z)<|va _
 let h:∀x c,X.env.cells.lookup x=Kg c->∀v,s.heap.IsCell c v->h'.IsCell c v:=λx c e v ⟨o,A,G⟩=>by
  let f:c ∉ ch:=λz=>(g c z).2.2.1 x c e U
  by_cases O:c∈X.fs
  .let(F,q):=slot c o (I.cne x c e) O f A<|I.freeC x c e;exact⟨_,q,G⟩
  .exact⟨o,keep c o (I.cne x c e) O f A<|I.freeC x c e,G⟩
 refine⟨I.ok,I.os,T,⟨λb o e n y a=>?_,λb o e n y a=>?_,λb o e n a=>?_,λb o e a=>?_,λb xs e=>tups b xs<|I.base.tups b xs e,λb o xs e=>frzs b o xs<|I.base.frzs b o xs e,λb ps e=>?_⟩,?_,λx c e=>?_,?_,λx c e=>?_,λp N=>?_,K,I.len⟩
 .exact keep b o (D b o e) y (t b o e a) (I.base.keep b o e n y a)<|I.base.free b o e n a
 .let(F,j):=I.base.slot b o e n y a;let(J,C):=slot b _ (D b o e) y (t b o e a) j<|I.base.free b o e n a;exact⟨J,C⟩
 .let(B,j):=I.base.there b o e a;exact free b B (t b o e a) j<|I.base.free b o e n a
 .let(B,j):=I.base.there b o e a;exact there b B (t b o e a) j
 .let(Q,j):=I.base.tbls b ps e;let(P,C):=tbls b _ j;exact⟨Q++P,by rw[C,Array.append_assoc]⟩
 .let(m,R,S):=I.loc;calc⟨m,ns m R,λi x v j C V=>?_⟩;let(u,r,l):=S i x v j C V;calc⟨u,r,?_⟩;rcases l with l|⟨k,c,e,z⟩
  .exact .inl l
  .exact .inr ⟨k,c,e,h x c e _ z⟩
 .let(v,z):=I.cell x c e;exact⟨v,h x c e v z⟩
 .let(m,(o,_,_,A,_),_):=I.loc;exact free _ o (λz=>(g _ z).2.1 U) A I.free
 .let(v,o,A,G):=I.cell x c e;exact free c o (λz=>(g c z).2.2.1 x c e U) A<|I.freeC x c e
 .let(e,n,M,L,d):=I.pin p N;let f:p.1 ∉ ch:=λz=>(g p.1 z).2.2.2 p N U
  calc⟨keep p.1 p.2 M L f e n,free p.1 p.2 f e n,M,L,d⟩
theorem Inv.un{t':Nat}(I:Inv X Kl σ H s)(u:Un X.fs [] H H' s.heap h')(d:HOk X.prog X.w H' h'):Inv X Kl σ H' { s with heap:=h',toks:=t' }:=by
 let(m,(o,t,v,h,r),_):=id I.loc;let(l,k):=u.any h I.free (by simp);exact I.step (g':=s.gens) (d':=s.drawn) (ch:=[]) (λ_ z=>nomatch z) (λb o _ c _ e n=>u.keep b o e n c (by simp)) (λb o _ c _ e n=>u.slot b o e n c (by simp)) (λb o _ e n=>u.free b o e n (by simp)) (λb o _ e=>u.there b o e (by simp)) u.tups u.frzs u.tbls (λq j=>by
  let(p,f,g,a,i):=j;rw[h]at a;cases a;exact⟨_,f,g,k,i⟩) d I.bare
theorem Inv.call{g':Array CC}{t':Nat}{d':Drawn}{ch:La Ak}(I:Inv X Kl σ H s)(u:Un (frs X.stack) ch H H' s.heap h')(h:HOk X.prog X.w H' h')(t:AllBare g')
  (f:∀b∈ch,(b∈X.ex\/X.s₀.heap.objs.size<=b)/\b≠X.env.locals/\(∀x c,X.env.cells.lookup x=Kg c->c≠b)/\∀p∈X.pn++Kl,p.1≠b) :
  Inv X Kl σ H' { s with heap:=h',gens:=g',drawn:=d',toks:=t' }:=by
 let(m,(o,C,D,k,r),_):=id I.loc;let(y,g):=u.any k I.free λz=>(f _ z).2.1 U
 exact I.step (ch:=ch) f (λb o g v a e n=>u.keep b o e n (λz=>(dt.mp<|I.stkSub b z).elim g v) a) (λb o _ _ a e n=>u.any e n a) (λb o a e n=>u.free b o e n a) (λb o a e=>u.there b o e a) u.tups u.frzs u.tbls (λB q=>by
  let(A,i,j,d,l):=q;rw[k]at d;cases d;exact⟨_,i,j,g,l⟩) h t
theorem Inv.turned{t':Nat}{it:Ak}(I:Inv X Kl σ H s)(k:∀b o,b≠it->s.heap.get? b=Kg o->h'.get? b=Kg o)(h:H it=Kh)(f:it≠X.env.locals)
  (w:it∈X.ex\/X.s₀.heap.objs.size<=it)(t:∀x c,X.env.cells.lookup x=Kg c->c≠it)(l:∀p∈X.pn++Kl,p.1≠it):Inv X Kl σ H { s with heap:=h',toks:=t' }:=by
 let d:∀b u,H b=Kg u->b≠it:=λb u e z=>by rw[z,h]at e;cases e
 refine I.step (g':=s.gens) (d':=s.drawn) (ch:=[it]) (λb j=>?_) (λb o _ _ a e _=>k b o (λz=>a (by simp[z])) e) (λb o _ _ a e _=>⟨o.slots,k b o (λz=>a (by simp[z])) e⟩) (λ_ _ _ _ n=>n)
  (λb o a e=>⟨o,k b o (λz=>a (by simp[z])) e⟩) (λ_ _ e=>e) (λ_ _ _ e=>e) (λb B e=>⟨#[],by rw[e];simp⟩) (λm i=>?_) (λb u e=>?_) I.bare
 .let e:b=it:= ~~~j
  subst e;exact⟨w,f,t,l⟩
 .let(o,y,A,g,r):=i;exact⟨o,y,A,k _ o (Ne.symm f) g,r⟩
 .refine(I.hok b u e).stay (λc v a q=>k c v ?_ q) (λ_ q=>q) λ_ _ q=>q
  rcases a with z|z
  .rw[z];exact d b u e
  .exact d c _ z
def Inv.tok(I:Inv X Kl σ H s)(t:Nat):Inv X Kl σ H { s with toks:=t }:=I.un (h':=s.heap) (t':=t) Un.refl I.hok
theorem Inv.kept{t':Nat}(I:Inv X Kl σ H s)(k:∀b u,s.heap.get? b=Kg u->h'.get? b=Kg u):Inv X Kl σ H { s with heap:=h',toks:=t' }:=I.un (Un.kept k)<|I.hok.kept k
theorem Inv.laid{a:Ak}{o:HO}{t':Nat}(I:Inv X Kl σ H s)(k:∀b u,s.heap.get? b=Kg u->h'.get? b=Kg u)(c:s.heap.objs.size<=a)(new:bQ X.prog X.w (upd H a o) h' a o) :
  Inv X Kl σ (upd H a o) { s with heap:=h',toks:=t' }:=I.un (Un.laid k c<|I.hok.fresh c)<|I.hok.laid k c new
theorem Inv.write{x e:Ak}{o:HO}{t':Nat}(I:Inv X Kl σ H s)(c:Mut (H x))(d:e=x\/H e=Kg (.own x))(k:∀b u,b≠e->s.heap.get? b=Kg u->h'.get? b=Kg u)(a:∃u,h'.get? e=Kg u)
  (new:bQ X.prog X.w (upd H x o) h' x o):Inv X Kl σ (upd H x o) { s with heap:=h',toks:=t' }:=I.un (Un.write c d k a)<|I.hok.write c d k a new
def Inv.pins_of{a:La (Ak×Obj)}(I:Inv X Kl σ H s)(h:∀p∈a,s.heap.get? p.1=Kg p.2/\H p.1=Kh/\p.1≠X.env.locals/\p.1 ∉ X.fs/\∀v,p.2.data≠.cell v):Inv X a σ H s :=
 ⟨I.ok,I.os,I.bare,I.base,I.loc,I.cell,I.free,I.freeC,λp b=>(gs.mp b).elim (λz=>I.pin p<|jd _ z)<|h p,I.hok,I.len⟩
theorem kh{N:La Str}(c:N.Nodup){i j:Nat}{x:Str}(a:N[i]?=Kg x)(b:N[j]?=Kg x):i=j:=by
 let(g,e):=GD.mp a;let(f,d):=GD.mp b;calc(List.getElem_inj c).mp (e.trans d.symm)
theorem kK{M:Dn}{A:Cd}{E:zz->Cg->Prop}{i:Nat}{x:Str}{v:V}{u:zz}{Q:Unit->Cg->Prop}(I:Inv X Kl σ H s)(hN:X.N.Nodup)(hi:X.N[i]?=Kg x)(B:Loc X.env.scope x)(r:RelV v u)
  (h:∀s',Inv X Kl (σ.set i<|Kg v) H s'->(∃a,Az.SameBut a s.heap s'.heap/\(a=X.env.locals\/X.env.cells.lookup x=Kg a))->Q () s')(hf:X.fn x=Ki\/X.env.scope.names.lookup x=Kg .local:=by first|exact .inl U|exact .inr U|assumption):DO M A (storeName X.env x u) Q E s:=by
 let(m,hn,hl):=id I.loc;let Ac:(X.env.scope.kind == .class || (X.env.scope.kind == .module && X.env.locals != X.env.globals))=false:=by rw[I.ok.kind];rfl
 let F:i<σ.length:=by rw[I.len];exact(GD.mp hi).1
 let cne:=I.cne;let l:∀{a:Ak}{h':Az},(∃o,s.heap.get? a=Kg o/\H a=Kh)->Az.SameBut a s.heap h'->HOk X.prog X.w H h':=λ{a h'} ha f b ob e=>by
  let(_,_,zr):=ha;refine(I.hok b ob e).stay (λc R t q=>(f.2 c ?_).trans q) (λ_ q=>q) λ_ _ q=>q
  rintro rfl;rcases t with rfl|t
  .rw[zr]at e;cases e
  .rw[zr]at t;cases t
 rcases B with D|D
 .refine wpAny_storeName_local D hn (λh' a1 f=>?_) Ac;let(oL,_,_,a0,_):=id hn;refine h _ ⟨I.ok,I.os,I.bare,⟨λb o e n J B=>?_,λb o e n J B=>?_,I.base.free,λb o e B=>?_,I.base.tups,I.base.frzs,I.base.tbls⟩,⟨_,a1,λj y W g C e3=>?_⟩,λy c e=>?_,I.free,I.freeC,λp hp=>?_,l ⟨oL,a0,I.free⟩ f,~~~I.len⟩ ⟨_,f,.inl U⟩
  .exact(f.2 b<|tN<|tP (Az.lt_size e) I.ok.above).trans (I.base.keep b o e n J B)
  .let(Z,g):=I.base.slot b o e n J B;exact⟨Z,(f.2 b<|tN<|tP (Az.lt_size e) I.ok.above).trans g⟩
  .let(o',g):=I.base.there b o e B;exact⟨o',(f.2 b<|tN<|tP (Az.lt_size e) I.ok.above).trans g⟩
  .by_cases G:j=i
   .subst G;rw[hi]at g;cases g;rw[nY F]at C;cases C;exact⟨u,r,.inl ⟨D,by simp⟩⟩
   .rw[rb (Ne.symm G)]at C;let(Y,r',q):=hl j y W g C e3;calc⟨Y,r',?_⟩;rcases q with⟨k,e⟩|⟨k,c,e,z⟩
    .refine .inl ⟨k,?_⟩;let:y≠x:=λe=>G<|kh hN g<|e ▸ hi
     simp[this,e]
    .exact .inr ⟨k,c,e,z.sameBut f<|cne y c e⟩
  .let(R,z):=I.cell y c e;exact⟨R,z.sameBut f<|cne y c e⟩
  .let(e,n,S,nf,d):=I.pin p hp;exact⟨(f.2 p.1 S).trans e,n,S,nf,d⟩
 .let K:X.fn x=true:=by
   rcases hf with z|z
   .exact z
   .rw[z]at D;cases D
  let(c,t):=I.ok.has x<|.inl D;let(R,z):=I.cell x c t;calc wpAny_storeName_cell I.ok.kind D t z<|λh' P f=>?_;let(oc,L,Dp):=id z;refine h { s with heap:=h' } ⟨I.ok,I.os,I.bare,⟨λb o e n J B=>?_,λb o e n J B=>?_,I.base.free,λb o e B=>?_,I.base.tups,I.base.frzs,I.base.tbls⟩,⟨m,hn.sameBut f<|Ne.symm<|cne x c t,λj y W g C e3=>?_⟩,λy T e=>?_,I.free,I.freeC,λp hp=>?_,l ⟨oc,L,I.freeC x c t⟩ f,~~~I.len⟩ ⟨c,f,.inr t⟩
  .exact(f.2 b<|tN<|tP (Az.lt_size e)<|I.ok.cab x c K t).trans (I.base.keep b o e n J B)
  .let(Z,g):=I.base.slot b o e n J B;exact⟨Z,(f.2 b<|tN<|tP (Az.lt_size e)<|I.ok.cab x c K t).trans g⟩
  .let(o',g):=I.base.there b o e B;exact⟨o',(f.2 b<|tN<|tP (Az.lt_size e)<|I.ok.cab x c K t).trans g⟩
  .by_cases G:j=i
   .subst G;rw[hi]at g;cases g;rw[nY F]at C;cases C;exact⟨u,r,.inr ⟨.inl D,c,t,P⟩⟩
   .rw[rb (Ne.symm G)]at C;let(Y,r',q):=hl j y W g C e3;calc⟨Y,r',?_⟩;rcases q with q|⟨k,T,e,z'⟩
    .exact .inl q
    .refine .inr ⟨k,T,e,z'.sameBut f ?_⟩;rintro rfl;exact G<|kh hN g<|I.ok.inj _ _ _ e t ▸ hi
  .by_cases O:T=c
   .subst O;exact⟨_,P⟩
   .let(w2,z2):=I.cell y T e;exact⟨w2,z2.sameBut f O⟩
  .let(e,n,S,nf,d):=I.pin p hp;calc⟨(f.2 p.1 ?_).trans e,n,S,nf,d⟩;intro q;rw[q,L]at e;let q':oc=p.2:=Option.some.inj e;calc d R (by rw[←q'];exact Dp)
theorem ki{M:Dn}{A:Cd}{E:zz->Cg->Prop}{i:Nat}{x:Str}{v:V}{u:zz}{Q:Unit->Cg->Prop}(I:Inv X Kl σ H s)(c:X.N.Nodup)(hi:X.N[i]?=Kg x)(a:Loc X.env.scope x)(r:RelV v u)
  (h:∀s',Inv X Kl (σ.set i<|Kg v) H s'->Q () s')(b:X.fn x=Ki\/X.env.scope.names.lookup x=Kg .local:=by first|exact .inl U|exact .inr U|assumption):DO M A (storeName X.env x u) Q E s :=
 kK I c hi a r (λs' d _=>h s' d) b
theorem Inv.call'{s':Cg}{ch:La Ak}(I:Inv X Kl σ H s)(g:s'.os=s.os)(u:Un (frs X.stack) ch H H' s.heap s'.heap)(a:HOk X.prog X.w H' s'.heap)(h:AllBare s'.gens)
  (d:∀b∈ch,(b∈X.ex\/X.s₀.heap.objs.size<=b)/\b≠X.env.locals/\(∀x c,X.env.cells.lookup x=Kg c->c≠b)/\∀p∈X.pn++Kl,p.1≠b):Inv X Kl σ H' s':=by
 let(h',g',d',t',f):=s';let e:f=s.os:=g;subst e;calc I.call (g':=g') (t':=t') (d':=d') u a h d
end
abbrev XK:=zz->Option Ak->Hp->Prop
abbrev St:=List<|Option V
abbrev VK:=V->Hp->Prop
abbrev TE:=St->Hp->VK->Prop
abbrev TT:=St->Hp->(Bool->Hp->Prop)->Prop
abbrev TA:=St->Hp->(La V->Hp->Prop)->Prop
structure Ends where
 nx:St->Hp->Prop
 rt:VK
 bk:St->Hp->Prop:=λ_ _=>False
 ct:St->Hp->Prop:=λ_ _=>False
abbrev TS:=Ends->St->Hp->Prop
def EP(X:Cx)(Kl:La (Ak×Obj))(a:St)(Q:VK)(u:zz)(s':Cg):Prop:=∃v H',Inv X Kl a H' s'/\RelV v u/\Q v H'
def TP(X:Cx)(Kl:La (Ak×Obj))(a:St)(Q:Bool->Hp->Prop)(b:Bool)(s':Cg):Prop:=∃H',Inv X Kl a H' s'/\Q b H'
def AP(X:Cx)(Kl:La (Ak×Obj))(b:St)(Q:La V->Hp->Prop)(us:La zz)(s':Cg):Prop:=∃a H',Inv X Kl b H' s'/\Vals a us/\Q a H'
def SP(X:Cx)(Kl:La (Ak×Obj))(D:Ends)(f:Flow)(s':Cg):Prop :=
 match f with
 | .next=>∃a H',Inv X Kl a H' s'/\D.nx a H'
 | .brk=>∃a H',Inv X Kl a H' s'/\D.bk a H'
 | .cont=>∃a H',Inv X Kl a H' s'/\D.ct a H'
 | .ret u=>∃v a H',Inv X Kl a H' s'/\RelV v u/\D.rt v H'
def PE(X:Cx)(e:D0)(t:TE):Prop :=
 ∀(Kl:La (Ak×Obj))(s:Cg)(a:St)(H:Hp)(Q:VK),Inv X Kl a H s->t a H Q->DO (model X.prog X.w) X.A (eval e X.env) (EP X Kl a Q) X.xe s
def PT(X:Cx)(e:D0)(t:TT):Prop :=
 ∀(Kl:La (Ak×Obj))(s:Cg)(a:St)(H:Hp)(Q:Bool->Hp->Prop),Inv X Kl a H s->t a H Q->DO (model X.prog X.w) X.A (EX e X.env<|eval e X.env) (TP X Kl a Q) X.xe s
def PW(X:Cx)(e:D0)(t:TT):Prop :=
 ∀(a:Sem zz)(Kl:La (Ak×Obj))(s:Cg)(b:St)(H:Hp)(Q:Bool->Hp->Prop),Inv X Kl b H s->t b H Q->DO (model X.prog X.w) X.A (EX e X.env a) (TP X Kl b Q) X.xe s
def PW.pt{X:Cx}{e:D0}{t:TT}(h:PW X e t):PT X e t:=h _
def PA(X:Cx)(c:La D0)(t:TA):Prop :=
 ∀(b:Pos)(Kl:La (Ak×Obj))(s:Cg)(a:St)(H:Hp)(Q:La V->Hp->Prop),Inv X Kl a H s->t a H Q->DO (model X.prog X.w) X.A (spliced<|E1 b<|E2 c X.env) (AP X Kl a Q) X.xe s
def PS(X:Cx)(b:F3)(t:TS):Prop :=
 ∀(Kl:La (Ak×Obj))(s:Cg)(a:St)(H:Hp)(D:Ends),Inv X Kl a H s->t D a H->DO (model X.prog X.w) X.A (exec b X.env) (SP X Kl D) X.xe s
def PSs(X:Cx)(b:La F3)(t:TS):Prop :=
 ∀(Kl:La (Ak×Obj))(s:Cg)(a:St)(H:Hp)(D:Ends),Inv X Kl a H s->t D a H->DO (model X.prog X.w) X.A (execs b X.env) (SP X Kl D) X.xe s
def thn{b:Type}{t:Sem b}{Q c:b->Cg->Prop}{M:Dn}{A:Cd}{E:zz->Cg->Prop}{s:Cg}(h:DO M A t Q E s)(d:∀a s,Q a s->c a s):DO M A t c E s:=F9 h d λ_ _ x=>x
variable{ta:TE}{pos:Pos}
section
inductive Ad(i:Nat)(σ:St)(H:Hp)(Q:VK):Prop
 |mk (v:_)(_:σ[i]?=Kg (Kg v))(_:Q v H)
def tC(v:V):TE:=λ_ H Q=>Q v H
theorem Ae{i:Nat}{x:Str}{pos:Pos}(q:X.N[i]?=Kg x)(k:Vis X.env.scope x)(b:(x == ("__debug__" : Str))=false:=by decide) (d:(x == ("__classdict__" : Str))=false:=by decide):PE X (.Name x pos) (Ad i):=by
 intro Kl s j H Q I h;let(v,e,h):=h;let(m,n,p):=I.loc;let(u,r,l):=p i x v q e k;let fin:EP X Kl j Q u s:=⟨v,H,I,r,h⟩;rcases l with⟨a,o⟩|⟨a,c,g,f⟩
 .exact Ga (wpAny_loadName_local I.ok.kind a n o fin) b
 .rcases a with a|a
  .exact Ga (wpAny_loadName_cell I.ok.kind a g f fin) b
  .exact Ga (wpAny_loadName_free I.ok.kind a g f fin d) b
def ai{i j pos}:PE X (.Constant (.int i) j pos) (tC<|.int i):=λ_ _ _ H _ I h=>wpAny_Constant_int ⟨.int i,H,I.tok _,⟨_,U⟩,h⟩
def cG{b j pos}:PE X (.Constant (.bool b) j pos) (tC<|.bl b):=λ_ _ _ H _ I h=>Constant_bool ⟨.bl b,H,I,U,h⟩
def rM{j pos}:PE X (.Constant .none j pos) (tC .non):=λ_ _ _ H _ I h=>Constant_none ⟨.non,H,I,U,h⟩
def aS{x j pos}:PE X (.Constant (.str x) j pos) (tC<|.str x):=λ_ _ _ H _ I h=>Calls.Constant_str ⟨.str x,H,I.tok _,⟨_,U⟩,h⟩
def Gl(X:Cx)(x:Str):Prop:=X.env.kindOf x=Kg .globalImplicit
theorem eY{E:zz->Cg->Prop}{Kl:La (Ak×Obj)}{s:Cg}{a:St}{H:Hp}{x:Str}{u:zz}{pos:Pos}{Q:zz->Cg->Prop}(I:Inv X Kl a H s)(c:Gl X x)(b:X.mg x=Kg u)(h:Q u s)
  (hd:(x == ("__debug__" : Str))=false:=by decide):DO (model X.prog X.w) X.A (eval (.Name x pos) X.env) Q E s :=
 Calls.Name_function_global I.ok.kind c (Calls.loadGlobal_global (by rw[I.ok.glob];exact I.mod.glob.keeps I.bk) b h) hd
theorem fg{E:zz->Cg->Prop}{Kl:La (Ak×Obj)}{s:Cg}{a:St}{H:Hp}{x:Str}{u:zz}{pos:Pos}{Q:zz->Cg->Prop}(I:Inv X Kl a H s)(e:Gl X x)(d:X.mg x=Kh)(b:Cc x=Kg u)(h:Q u s)
  (c:x ≠ "__name__" := by decide) (hd:(x == ("__debug__" : Str))=false:=by decide):DO (model X.prog X.w) X.A (eval (.Name x pos) X.env) Q E s:=by
 let(i,g,f):=I.mod.blt;calc Calls.Name_function_global I.ok.kind e (Calls.loadGlobal_builtin (by rw[I.ok.glob];exact I.mod.glob.keeps I.bk) d (by rw[I.ok.blt];exact g.keeps I.bk) ((f x c).trans b) h) hd
theorem cc{x:Str}{v:V}{u:zz}{pos:Pos}(b:Gl X x)(a:X.mg x=Kg u)(r:RelV v u)(c:(x == ("__debug__" : Str))=false:=by decide):PE X (.Name x pos) (tC v) :=
 λ_ _ _ H _ I h=>eY I b a ⟨v,H,I,r,h⟩ c
theorem lS{x:Str}{v:V}{u:zz}{pos:Pos}(d:Gl X x)(c:X.mg x=Kh)(a:Cc x=Kg u)(r:RelV v u)(b:x ≠ "__name__" := by decide) (hd:(x == ("__debug__" : Str))=false:=by decide):PE X (.Name x pos) (tC v) :=
 λ_ _ _ H _ I h=>fg I d c a ⟨v,H,I,r,h⟩ b hd
variable{a b:D0}{tb:TE}
inductive tBq  (Q:Bool->Hp->Prop)(x:V)(H1:Hp):Prop
 |mk (c:_)(_:x=.bl c)(_:Q c H1):tBq Q x H1
def tB(t:TE):TT:=λa H Q=>t a H λx b=>tBq Q x b
theorem dJ{e:D0}{t:TE}(h:PE X e t)(i:∀a,EX e X.env a=(do let v ←a;Gf e.pos;holding [v] (truthy v)):=by intro _;rfl):PT X e (tB t):=by
 intro Kl s b H Q I g;calc isTrue_plain (thn (h Kl s b H _ I g) λv l ⟨x,k,j,c,f⟩=>?_)<|i _;let(d,rfl,q):=f;cases c;calc Gk ⟨k,j,q⟩
variable{tA tB':TT}{rest:La D0}
def Dq(t u:TT):TT:=λa H Q=>t a H λc b=>if c=Ki then u a b Q else Q Kj b
def tOr(t u:TT):TT:=λa H Q=>t a H λc b=>if c=Ki then Q Ki b else u a b Q
def Dr(t:TT):TT:=λa H Q=>t a H λc b=>Q (!c) b
theorem gB(d:PT X a tA):PW X (.BoolOp .And [a] pos) tA:=by
 intro f Kl s b H Q I h;calc isTrue_and<|thn (d Kl s b H Q I h) λc g e=>?_;cases c with
 |true=>exact isTrue_and_nil e
 |false=>calc e
theorem o6(d:PT X a tA):PW X (.BoolOp .Or [a] pos) tA:=by
 intro f Kl s b H Q I h;calc isTrue_or<|thn (d Kl s b H Q I h) λc g e=>?_;cases c with
 |false=>exact isTrue_or_nil e
 |true=>calc e
theorem jz(l:PT X a tA)(k:PW X (.BoolOp .And (b :: rest) pos) tB'):PW X (.BoolOp .And (a :: b :: rest) pos) (Dq tA tB'):=by
 intro i Kl s d H Q I h;calc isTrue_and<|thn (l Kl s d H _ I h) λc j ⟨g,f,e⟩=>?_;cases c with
 |true=>exact k i Kl j d g Q f e
 |false=>calc⟨g,f,e⟩
theorem tU(l:PT X a tA)(k:PW X (.BoolOp .Or (b :: rest) pos) tB'):PW X (.BoolOp .Or (a :: b :: rest) pos) (tOr tA tB'):=by
 intro i Kl s d H Q I h;calc isTrue_or<|thn (l Kl s d H _ I h) λc j ⟨g,f,e⟩=>?_;cases c with
 |true=>exact⟨g,f,e⟩
 |false=>calc k i Kl j d g Q f e
theorem cY(d:PT X a tA):PT X (.UnaryOp .Not a pos) (Dr tA):=by
 intro Kl s b H Q I h;calc isTrue_not<|d Kl s b H (λc e=>Q (!c) e) I h
inductive vW(tb:TE)(σ:St)(Q:VK)(x:V)(H1:Hp):Prop
 |mk (c:_)(_:x=.bl c)(_:if c=Ki then tb σ H1 Q else Q (.bl Kj) H1)
def BI(ta tb:TE):TE:=λa H Q=>ta a H λx b=>vW tb a Q x b
inductive vX  (Q:VK)(x:V)(H1:Hp):Prop
 |mk (c:_)(_:x=.bl c)(_:Q (.bl<|!c) H1):vX Q x H1
def BJ(ta:TE):TE:=λa H Q=>ta a H λx b=>vX Q x b
def l6{op} {t:TE}(h:PE X a t):PE X (.BoolOp op [a] pos) t:=λKl s b H Q I c=>BoolOp_one<|h Kl s b H Q I c
theorem kL(l:PE X a ta)(k:PE X (.BoolOp .And (b :: rest) pos) tb):PE X (.BoolOp .And (a :: b :: rest) pos) (BI ta tb):=by
 intro Kl s e H Q I h;calc BoolOp_and<|thn (l Kl s e H _ I h) λv i ⟨x,g,f,j,d⟩=>?_;let(c,rfl,d):=d;cases j;calc Gk ?_;cases c with
 |true=>exact k Kl i e g Q f d
 |false=>calc⟨.bl Kj,g,f,U,d⟩
theorem Af(f:PE X a ta):PE X (.UnaryOp .Not a pos) (BJ ta):=by
 intro Kl s d H Q I h;calc UnaryOp_<|thn (f Kl s d H _ I h) λv j ⟨x,i,g,e,b⟩=>?_;let(c,rfl,b):=b;cases e;calc not_of<|Gk ⟨.bl<|!c,i,g,U,b⟩
def tIf(t:TT)(ta tb:TE):TE:=λa H Q=>t a H λc b=>if c=Ki then ta a b Q else tb a b Q
theorem qk{c:D0}(k:PT X c tA)(m:PE X a ta)(l:PE X b tb):PE X (.IfExp c a b pos) (tIf tA ta tb):=by
 intro Kl s e H Q I h;calc wpAny_IfExp<|thn (k Kl s e H _ I h) λd f ⟨j,i,g⟩=>?_;cases d with
 |true=>exact m Kl f e j Q i g
 |false=>calc l Kl f e j Q i g
end
def SqL(K:W.Frag)(H:Hp)(a:Ak)(xs:La V):Prop :=
 Rd H a (.lst xs) \/
  ∃(o:Obj)(b:Array zz)(n:Nat),K.lookup a=Kg o/\o.cls=.type "list" /\ o.dict=Kh/\o.data=.seq b n/\b.size<=AA/\Vals xs b.toList
def SqT(K:W.Frag)(H:Hp)(a:Ak)(xs:La V):Prop :=
 Rd H a (.tup xs) \/
  ∃(o:Obj)(b:Array zz)(n:Nat),K.lookup a=Kg o/\o.cls=.type "tuple" /\ o.data=.seq b n/\b.size<=AA/\Vals xs b.toList
def Ds:zz->Option V
 | .none=>Kg .non
 | .bool b=>Kg<|.bl b
 | .int i _=>Kg<|.int i
 | .str x _=>Kg<|.str x
 | .bytes b _=>Kg<|.byt b
 | .float b _=>Kg<|.flt b
 | .ref a=>Kg<|.ref a
 | .type n=>Kg<|.ty n
 |_=>Kh
theorem RelV.abs{x:V}{u:zz}(r:RelV x u):Ds u=Kg x:=by
 cases x with
 |non=>cases r;rfl
 |bl _=>cases r;rfl
 |int _=>obtain⟨t,rfl⟩:=r;rfl
 |str _=>obtain⟨t,rfl⟩:=r;rfl
 |byt _=>obtain⟨t,rfl⟩:=r;rfl
 |flt _=>obtain⟨t,rfl⟩:=r;rfl
 |ref _=>cases r;rfl
 |ty _=>cases r;rfl
theorem RelV.inj{x y:V}{u:zz}(r:RelV x u)(q:RelV y u):x=y:=Option.some.inj<|r.abs.symm.trans q.abs
theorem Vals.inj:∀{xs ys:La V}{us:La zz},Vals xs us->Vals ys us->xs=ys
 |_,_,_,.nil,.nil=>rfl
 |_,_,_,.cons r t,.cons r' t'=>by rw[r.inj r',Vals.inj t t']
variable{σ:St}
section
variable{xs ys:La V}
def SqL.of{K:W.Frag}(h:H a=Kg (.lst xs)):SqL K H a xs:=.inl<|.inl h
def SqT.of{K:W.Frag}(h:H a=Kg (.tup xs)):SqT K H a xs:=.inl<|.inl h
theorem Inv.list(I:Inv X Kl σ H s)(h:SqL X.K H a xs):∃b:La zz,Vals xs b/\PlainL s.heap a b.toArray/\xs.length<=AA:=by
 rcases h with h|⟨o,b,n,d,g,f,c,i,r⟩
 .let(z,b,n,r,e):=h.ok I.hok;exact⟨b,r,⟨_,n,e,U,U,U⟩,z⟩
 .refine⟨b.toList,r,⟨o,n,I.kIn a o d,g,f,~~~c⟩,?_⟩;let e:=r.length;simp only[x4]at e;lia
theorem Inv.tuple(I:Inv X Kl σ H s)(h:SqT X.K H a xs):∃b:La zz,Vals xs b/\IsTup s.heap a b.toArray/\xs.length<=AA:=by
 rcases h with h|⟨o,b,n,d,f,c,g,r⟩
 .let(z,b,r,p):=h.ok I.hok;exact⟨b,r,p,z⟩
 .refine⟨b.toList,r,⟨o,I.kIn a o d,f,n,~~~c⟩,?_⟩;let e:=r.length;simp only[x4]at e;lia
theorem Inv.list_inj(I:Inv X Kl σ H s)(h:SqL X.K H a xs)(h':SqL X.K H a ys):xs=ys:=by
 let(c,r,(o,n,e,_,_,d),_):=I.list h;let(b,i,(k,l,f,_,_,g),_):=I.list h';rw[e]at f;cases f;rw[d]at g;injection g with j _;let:c=b:= ~~~Kt Array.toList j
 subst this;calc r.inj i
theorem Inv.tuple_inj(I:Inv X Kl σ H s)(h:SqT X.K H a xs)(h':SqT X.K H a ys):xs=ys:=by
 let(c,r,(o,e,_,n,d),_):=I.tuple h;let(b,i,(k,f,_,l,g),_):=I.tuple h';rw[e]at f;cases f;rw[d]at g;injection g with j _;let:c=b:= ~~~Kt Array.toList j
 subst this;calc r.inj i
end
abbrev Cx.wish(X:Cx)(E:zz->Cg->Prop):Cx:={ X with xe:=E }
abbrev Cx.nox(X:Cx):Cx:=X.wish λ_ _=>False
theorem Cx.Ok.wish{X:Cx}(ok:X.Ok)(E:zz->Cg->Prop):(X.wish E).Ok :=
 ⟨ok.mod,ok.kind,ok.glob,ok.blt,ok.above,ok.inj,ok.has,ok.cab,ok.hd,ok.frames,ok.stk,ok.exf,ok.bs,ok.bsz,ok.noex,ok.exfs,ok.funs,ok.frf⟩
def Cx.Ok.unwish{X:Cx}{E:zz->Cg->Prop}(ok:(X.wish E).Ok):X.Ok :=
 ⟨ok.mod,ok.kind,ok.glob,ok.blt,ok.above,ok.inj,ok.has,ok.cab,ok.hd,ok.frames,ok.stk,ok.exf,ok.bs,ok.bsz,ok.noex,ok.exfs,ok.funs,ok.frf⟩
variable{E:zz->Cg->Prop}
theorem Inv.wish(I:Inv X Kl σ H s)(E:zz->Cg->Prop):Inv (X.wish E) Kl σ H s:=⟨I.ok.wish E,I.os,I.bare,I.base,I.loc,I.cell,I.free,I.freeC,I.pin,I.hok,I.len⟩
theorem Inv.unwish(I:Inv (X.wish E) Kl σ H s):Inv X Kl σ H s:=⟨I.ok.unwish,I.os,I.bare,I.base,I.loc,I.cell,I.free,I.freeC,I.pin,I.hok,I.len⟩
theorem SP.unwish{D:Ends}{f:Flow}{s':Cg}(h:SP (X.wish E) Kl D f s'):SP X Kl D f s':=by
 cases f with
 |next=>obtain⟨a,H',I,q⟩:=h;exact⟨a,H',I.unwish,q⟩
 |brk=>obtain⟨a,H',I,q⟩:=h;exact⟨a,H',I.unwish,q⟩
 |cont=>obtain⟨a,H',I,q⟩:=h;exact⟨a,H',I.unwish,q⟩
 |ret u=>obtain⟨v,a,H',I,r,q⟩:=h;calc⟨v,a,H',I.unwish,r,q⟩
theorem PSs.nox{a:La F3}{t:TS}(h:PSs X.nox a t):PSs X a t:=λKl s σ H D I b =>
 F9 (h Kl s σ H D (I.wish _) b) (λ_ _ q=>q.unwish) λ_ _ z=>False.elim z
variable{e:D0}{te:TE}
section
variable{st:F3}{rest:La F3}{t u:TS}
def BK:TS:=λD σ H=>D.nx σ H
def bA(t u:TS):TS:=λD σ H=>t { D with nx:=u D } σ H
def aJ:PSs X [] BK:=λ_ _ σ H _ I h=>GH ⟨σ,H,I,h⟩
theorem az(d:PS X st t)(c:PSs X rest u):PSs X (st :: rest) (bA t u):=by
 intro Kl s σ H D I h;calc GI<|thn (d Kl s σ H { D with nx:=u D } I h) λf b q=>?_;cases f with
 |next =>
  let(a,H',e,q):=q;exact c Kl b a H' D e q
 |ret v=>exact q
 |brk=>exact q
 |cont=>calc q
theorem ah(a:PS X st t):PSs X [st] t:=by
 intro Kl s σ H D I h;calc GI<|thn (a Kl s σ H D I h) λf b q=>?_;cases f with
 |next=>exact GH q
 |ret v=>exact q
 |brk=>exact q
 |cont=>calc q
theorem Inv.quiet{Kl:La (Ak×Obj)}{σ:St}{H:Hp}{s:Cg}(I:Inv X Kl σ H s):interactive X.env=false:=by simp[interactive,I.ok.kind]
def BL(te:TE):TS:=λD σ H=>te σ H λ_ a=>D.nx σ a
theorem aT(c:PE X e te)(b:GJ e Kh pos.line X.env=pure false:=by rfl):PS X (.Expr e pos) (BL te):=by
 intro Kl s σ H D I h;calc GK (thn (c Kl s σ H _ I h) λv g ⟨x,f,d,i,a⟩=>⟨σ,f,d,a⟩) I.quiet b
def Dt(te:TE):TS:=λD σ H=>te σ H D.rt
theorem aG(c:PE X e te):PS X (.Return (Kg e) pos) (Dt te):=by
 intro Kl s σ H D I h;calc wpAny_Return_some<|thn (c Kl s σ H _ I h) λv g ⟨x,f,d,a,b⟩=>⟨x,σ,f,d,a,b⟩
def Du(c:TT)(t u:TS):TS:=λD σ H=>c σ H λb a=>if b=Ki then t D σ a else u D σ a
theorem aQ{c:D0}{a b:La F3}{e:TT}(k:PT X c e)(m:PSs X a t)(l:PSs X b u):PS X (.If c a b pos) (Du e t u):=by
 intro Kl s σ H D I h;calc wpAny_If<|thn (k Kl s σ H _ I h) λd f ⟨j,i,g⟩=>?_;cases d with
 |true=>exact m Kl f σ j D i g
 |false=>calc l Kl f σ j D i g
def Ag:TS:=λ_ _ _=>False
def bz:PS X st Ag:=λ_ _ _ _ _ _ h=>h.elim
end
abbrev TG:=V->St->Hp->(St->Hp->Prop)->Prop
abbrev TGs:=La V->St->Hp->(St->Hp->Prop)->Prop
def PG(X:Cx)(a:D0)(t:TG):Prop :=
 ∀(Kl:La (Ak×Obj))(s:Cg)(σ:St)(H:Hp)(v:V)(u:zz)(Q:St->Hp->Prop),Inv X Kl σ H s->RelV v u->t v σ H Q ->
  DO (model X.prog X.w) X.A (assign a X.env u) (λ_ c=>∃b H',Inv X Kl b H' c/\Q b H') X.xe s
def PGs(X:Cx)(d:La D0)(t:TGs):Prop :=
 ∀(Kl:La (Ak×Obj))(s:Cg)(σ:St)(H:Hp)(b:La V)(c:La zz)(Q:St->Hp->Prop),Inv X Kl σ H s->Vals b c->t b σ H Q ->
  DO (model X.prog X.w) X.A (assignInOrder ((GL d X.env).map (·.2)) c) (λ_ e=>∃a H',Inv X Kl a H' e/\Q a H') X.xe s
abbrev Ah:=V->V->V->Hp->(Hp->Prop)->Prop
def BM(X:Cx)(t:Ah):Prop :=
 ∀(Kl:La (Ak×Obj))(s:Cg)(σ:St)(H:Hp)(o i v:V)(a b u:zz)(Q:Hp->Prop),Inv X Kl σ H s->RelV o a->RelV i b->RelV v u->t o i v H Q ->
  DO (model X.prog X.w) X.A (setItem a b u) (λ_ c=>∃H',Inv X Kl σ H' c/\Q H') X.xe s
def nV(i:Nat):TG:=λv σ H Q=>Q (σ.set i<|Kg v) H
theorem aE{i:Nat}{x:Str}(c:X.N.Nodup)(hi:X.N[i]?=Kg x)(a:Loc X.env.scope x)(b:X.fn x=Ki\/X.env.scope.names.lookup x=Kg .local:=by first|exact .inl U|exact .inr U|assumption):PG X (.Name x pos) (nV i):=by
 intro Kl s σ H v u Q I r h;calc GN<|ki I c hi a r (λe d=>⟨_,H,d,h⟩) b
def Dv:TGs:=λa σ H Q=>a=[]/\Q σ H
def BN(t:TG)(u:TGs):TGs:=λb σ H Q=>∃v r,b=v :: r/\t v σ H λa H'=>u r a H' Q
theorem bS:PGs X [] Dv:=by
 intro Kl s σ H a b Q I r h;let(e,h):=h;subst e;cases r;calc assignInOrder_nil ⟨σ,H,I,h⟩
theorem aM{e:D0}{a:La D0}{t:TG}{u:TGs}(j:PG X e t)(i:PGs X a u)
  (g:(GL (e :: a) X.env).map (·.2)=assign e X.env :: (GL a X.env).map (·.2):=by rfl):PGs X (e :: a) (BN t u):=by
 intro Kl s σ H n p Q I r h;let(v,o,k,h):=h;subst k;cases r with
 |cons r d =>
  rw[g];calc assignInOrder_cons<|thn (j Kl s σ H _ _ _ I r h) λ_ c ⟨b,m,l,f⟩=>?_;calc i Kl c b m _ _ Q l d f
def BO(K:W.Frag)(n:Nat)(t:TGs):TG:=λv σ H Q=>∃a b,v=.ref a/\SqT K H a b/\b.length=n/\t b σ H Q
theorem dQ{c:La D0}{k:Nat}{t:TGs}{n:Nat}(w:X.calm=Ki)(h:PGs X c t)
  (p:(GL c X.env).length=n:=by rfl)(f:(GL c X.env).findIdx? (·.1)=none:=by rfl):PG X (.Tuple c k pos) (BO X.K n t):=by
 intro Kl s σ H v u Q I r d;let(a,i,x,m,q,d):=d;subst x;cases r;let(z,g,l,A):=I.tuple m;refine assign_Tuple_tuple (I.ok.hd w) l (by simp[p,←q,g.length]) f λh' j=>?_
 let y:Inv X Kl σ H { s with heap:=h' }:=I.kept (t':=s.toks) λb o e=>j b o (tN<|Az.lt_size e) e
 calc h Kl _ σ H i _ Q y (~~~g) d
def Dw(to a:TE)(t:Ah):TG:=λv σ H Q=>to σ H λo d=>a σ d λi c=>t o i v c λb=>Q σ b
theorem Ai{o i:D0}{to c:TE}{t:Ah}(n:PE X o to)(hi:PE X i c)(m:BM X t)
  (p:∀v,assign (.Subscript o i pos) X.env v=(do
   let a ←holding [v] (eval o X.env)
   let b ←holding [v,a] (eval i X.env)
   Gf pos
   holding [v,a,b] (setItem a b v)
   release [v,a,b] []):=by intro _;rfl):PG X (.Subscript o i pos) (Dw to c t):=by
 intro Kl s σ H v u Q I r h;rw[p];calc zo<|zq<|thn (n Kl s σ H _ I h) λa e ⟨x,C,z,g,l⟩=>?_;calc zo<|zq<|thn (hi Kl e σ C _ z l) λb d ⟨y,B,w,f,k⟩=>?_;calc zo<|GO<|zo<|zq<|thn (m Kl d σ B x y v a b u _ w g f r k) λ_ D ⟨A,q,j⟩=>?_;calc wpAny_release ⟨σ,A,q,j⟩
def yi(te:TE)(g:TG):TS:=λD σ H=>te σ H λx a=>g x σ a D.nx
theorem jA{a e:D0}{te:TE}{g:TG}(k:PE X e te)(j:PG X a g)(i:swapsWithSole [a] e pos.line X.env=pure false:=by rfl)(f:swappedStores [a] e X.env=pure none:=by rfl)
  (l:(GL [a] X.env).map (·.2)=[assign a X.env]:=by rfl):PS X (.Assign [a] e pos) (yi te g):=by
 intro Kl s σ H D I h;calc wpAny_Assign_stores (thn (k Kl s σ H _ I h) λv b ⟨x,n,m,c,d⟩=>?_) i f;rw[l];calc thn (j Kl b σ n x v _ m c d) λ_ o q=>q
theorem aI{i:Nat}{x:Str}{e:D0}{te:TE}{a:Pos}(k:X.N.Nodup)(hi:X.N[i]?=Kg x)(d:Loc X.env.scope x)(j:PE X e te)(f:GJ e (Kg<|.Name x a) pos.line X.env=pure false:=by rfl)(g:X.fn x=Ki\/X.env.scope.names.lookup x=Kg .local:=by first|exact .inl U|exact .inr U|assumption) :
  PS X (.Assign [.Name x a] e pos) (yi te<|nV i):=by
 intro Kl s σ H D I h;calc wpAny_Assign_Name (thn (j Kl s σ H _ I h) λv p ⟨y,n,m,b,c⟩=>?_) f;calc ki m k hi d b (λo l=>⟨_,n,l,c⟩) g
def Aj(c:TT)(tb:TS):TS:=λD σ H=>∃W:Nat->St->Hp->Prop,(∃m,W m σ H)/\∀m σ H,W m σ H ->
 c σ H λb e=>if b=Ki then ∃N:St->Hp->Prop,(∀a H',N a H'->∃d,d<m/\W d a H')/\tb { D with nx:=N,ct:=N,bk:=D.nx } σ e else D.nx σ e
theorem vY{c:D0}{body:La F3}{r:TT}{tb:TS}(t:GP (model X.prog X.w) X.A X.env X.xe)(K:PT X c r)(L:PSs X body tb):PS X (.While c body [] pos) (Aj r tb):=by
 intro Kl s σ H D I h;let(W,(J,C),i):=h;calc wpAny_While<|codeAny_whileLoop (λn G=>∃g H',Inv X Kl g H' G/\W n g H') ?_ J ⟨σ,H,I,C⟩;rintro n F ⟨d,z,M,B⟩;calc GQ t<|thn (K Kl F d z _ M<|i n d z B) λb E ⟨y,x,k⟩=>?_;cases b with
 |true =>
  let(N,u,k):=k;rw[Ko U];calc GQ t<|thn (L Kl E d y _ x k) λf O j=>?_;cases f with
  |next =>
   let(a,e,q,m):=j;let(o,p,l):=u a e m;exact⟨o,p,a,e,q,l⟩
  |cont =>
   let(a,e,q,m):=j;let(o,p,l):=u a e m;exact⟨o,p,a,e,q,l⟩
  |brk=>exact j
  |ret v=>exact j
 |false =>
  rw[Kn Bool.false_ne_true];calc GH ⟨d,y,x,k⟩
structure It where
 go:Nat->Hp->Prop
 yld:Nat->Hp->V->Hp->Prop
 stop:Nat->Hp->Prop
def kM(X:Cx)(Kl:La (Ak×Obj))(H:Hp)(b:Ak):Prop :=
 H b=Kh/\b≠X.env.locals/\b ∉ X.fs/\(b∈X.ex\/X.s₀.heap.objs.size<=b)/\(∀x c,X.env.cells.lookup x=Kg c->c≠b)/\∀p∈X.pn++Kl,p.1≠b
theorem Inv.fpOk{X:Cx}{Kl:La (Ak×Obj)}{σ:St}{H H':Hp}{s:Cg}{b:Ak}(I:Inv X Kl σ H s)(a:s.heap.objs.size<=b)(f:H' b=Kh):kM X Kl H' b:=by
 refine⟨f,tR<|tP I.lt a,I.nofs a,.inr<|tT I.sz a,λx c e z=>?_,λp d z=>?_⟩
 .let(v,q):=I.cell x c e;exact Kp (tP q.lt (by rw[z];exact a)) (va _)
 .exact Kp (tP (Az.lt_size (I.pin p d).1) (by rw[z];exact a)) (va _)
structure Turn(P:zM)(w:zJ)(K:W.Frag)(tg:D0)(J:It)(fp:La Ak)(it:Ak)(tn:Nat->Az->Prop):Prop where
 mem:it∈fp
 obj:∀i h,tn i h->∀b∈fp,∃o,h.get? b=Kg o/\∀v,o.data≠.cell v
 keep:∀i h h',tn i h->(∀b∈fp,∀o,h.get? b=Kg o->h'.get? b=Kg o)->tn i h'
 item:∀(X:Cx),X.prog=P->X.w=w->X.K=K->X.calm=Ki->∀(i:Nat)(Kl:La (Ak×Obj))(s:Cg)(σ:St)(H:Hp)(E:zz->Cg->Prop),Inv X Kl σ H s->(∀b∈fp,kM X Kl H b)->tn i s.heap->J.go i H ->
  DO (model P w) X.A (GR<|.ref it) (λr s1=>∃u,r=Kg u /\
   DO (model P w) X.A (GS tg (.ref it) u) (λ_ s2=>∃x H',Inv X Kl σ H' s2/\RelV x u/\J.yld i H x H'/\tn (i+1) s2.heap/\∀b∈fp,H' b=Kh) E s1) E s
 done:∀(X:Cx),X.prog=P->X.w=w->X.K=K->X.calm=Ki->∀(i:Nat)(Kl:La (Ak×Obj))(s:Cg)(σ:St)(H:Hp)(E:zz->Cg->Prop),Inv X Kl σ H s->(∀b∈fp,kM X Kl H b)->tn i s.heap->J.stop i H ->
  DO (model P w) X.A (GR<|.ref it) (λr s1=>r=Kh/\Inv X Kl σ H s1) E s
 self:∀(A:Cd)(i:Nat)(s:Cg)(Q:zz->Cg->Prop)(E:zz->Cg->Prop),tn i s.heap->Q (.ref it) s->DO (model P w) A (GU<|.ref it) Q E s
abbrev TI:=St->Hp->(It->Hp->Prop)->Prop
def PIE(X:Cx)(Kl:La (Ak×Obj))(σ:St)(f:D0)(R:It->Hp->Prop)(a:zz)(c:Cg):Prop :=
 ∃(d:Ak)(e:La Ak)(tn:Nat->Az->Prop)(J:It)(H':Hp),a=.ref d/\Inv X Kl σ H' c/\Turn X.prog X.w X.K f J e d tn/\tn 0 c.heap/\(∀b∈e,kM X Kl H' b)/\R J H'
def PI(X:Cx)(c a:D0)(b:TI):Prop :=
 ∀(Kl:La (Ak×Obj))(s:Cg)(σ:St)(H:Hp)(R:It->Hp->Prop),Inv X Kl σ H s->b σ H R ->
  DO (model X.prog X.w) X.A (eval a X.env) (λv d=>DO (model X.prog X.w) X.A (GU v) (PIE X Kl σ c R) X.xe d) X.xe s
theorem ql{M:Dn}{A:Cd}{E:zz->Cg->Prop}{s:Cg}{b:D0}{it:Ak}{u:zz}{o:Obj}{n:String}{vs:Array zz}{Q:Unit->Cg->Prop}(c:s.heap.get? it=Kg o)(f:o.cls=.type n)(e:o.data=.fields vs)
  (d:["enumerate","zip","dict_itemiterator","dict_reverseitemiterator","odict_iterator","itertools.zip_longest","itertools.pairwise"].contains n=Kj) (a:Q () s):DO M A (GS b (.ref it) u) Q E s:=by
 unfold GS
 cases b <;> first
  |exact zp a
  |(cases u <;> first
    |exact zp a
    |(calc zo (wpAny_load c ?_);rw[f,e];show DO M A (if (["enumerate","zip","dict_itemiterator","dict_reverseitemiterator","odict_iterator","itertools.zip_longest","itertools.pairwise"].contains n && vs[0]? == Kg (GV _))=Ki then _ else _) Q E s;rw[Kn (by intro h;rw[d,Bool.false_and]at h;cases h)];exact zp a))
def Itl(K:W.Frag)(a:Ak):It :=
 ⟨λi H=>∃b x,SqL K H a b/\b[i]?=Kg x,λi H x H'=>H'=H/\∀b,SqL K H a b->b[i]?=Kg x,λi H=>∃b,SqL K H a b/\b.length<=i⟩
def Itr(lo:Int)(n:Nat):It:=⟨λi _=>i<n,λi H x H'=>H'=H/\x=.int (lo+i),λi _=>n<=i⟩
theorem uQ{P:zM}{w:zJ}{K:W.Frag}{N:D0}(a it:Ak):Turn P w K N (Itl K a) [it] it (λi h=>h.IsListIter it a i) where
 mem:=by simp
 obj:=λi h f b g=>by
  let e:b=it:= ~~~g
  subst e;let(o,e,c,d):=f;exact⟨o,e,λv z=>by rw[d]at z;cases z⟩
 keep:=λi h h' f k=>f.at λo e=>k it (by simp) o e
 item:=by
  intro X y r A L i Kl s σ H E I m f t;subst y r A;let(M,x,l,q):=t;let(J,n,p,R):=I.list l;let(u,T,Q):=n.get q;let(G,F,V,D,C,B):=m it (by simp);refine GW f p.isList (x:=u) (~~~T) λh' j O=>?_
  let Z:Inv X Kl σ H { s with heap:=h' }:=I.turned (t':=s.toks) (λb o g e=>(O.2 b g).trans e) G F D C B;let(o,e,c,d):=id j;exact⟨u,U,ql (s:={ s with heap:=h' }) e c d ⋯ ⟨x,H,Z,Q,⟨U,λys S=>by rw[I.list_inj S l];exact q⟩,j,λb g=>(m b g).1⟩⟩
 done:=by
  intro X y r A L i Kl s σ H E I m f t;subst y r A;let(M,l,q):=t;let(J,n,p,R):=I.list l;let(G,F,V,D,C,B):=m it (by simp);let hl:=n.length;exact GX (I.ok.hd L) f p.isList (by simp;lia) λh' Y=>⟨U,I.turned (t':=s.toks) (λb o g e=>Y b o g e) G F D C B⟩
 self:=λ_ _ _ _ _ f h=>wpAny_pyIter_listiter f h
theorem rN{P:zM}{w:zJ}{K:W.Frag}{C:D0}(it:Ak)(lo:Int)(n:Nat):Turn P w K C (Itr lo n) [it] it (λi h=>IsRangeIter h it (lo+(i:Nat)*1) ((n:Int)-(i:Nat)) 1) where
 mem:=by simp
 obj:=λi h a b c=>by
  let e:b=it:= ~~~c
  subst e;exact⟨_,a,λv z=>by
   let B:Data.fields _=Data.cell v:=z;cases B⟩
 keep:=λi h h' a k=>k it (by simp) _ a
 item:=by
  intro X m g p l i Kl s σ H E I f a j;subst m g p;let(y,x,G,u,r,q):=f it (by simp);let W:=GY.range (prog:=X.prog) (w:=X.w) (I.ok.hd l) it lo 1 n;refine W.item i s _ _ j a λv h' A F d D=>?_
  let(t,rfl):=F;let L:Inv X Kl σ H { s with heap:=h',toks:=A }:=I.turned (λb o c e=>D b o (~~~c) e) y x u r q;calc⟨_,U,ql (s:={ s with heap:=h',toks:=A }) (n := "range_iterator") d U U ⋯ ⟨.int<|lo+i,H,L,⟨t,?_⟩,⟨U,U⟩,d,λb c=>(f b c).1⟩⟩;rw[Int.mul_one]
 done:=by
  intro X m g p l i Kl s σ H E I f a j;subst m g p;let(y,x,G,u,r,q):=f it (by simp);exact wpAny_pyNext_range_end (I.ok.hd l) a (by have:n<=i:=j;lia) λh' J=>⟨U,I.turned (t':=s.toks) (λb o c e=>J b o c e) y x u r q⟩
 self:=λ_ _ _ _ _ a h=>wpAny_pyIter_rangeiter a h
section
variable{tg:D0}
inductive vZ(K:W.Frag)(R:It->Hp->Prop)(x:V)(H1:Hp):Prop
 |mk (a:_)(_:x=.ref a)(_:(∃xs,SqL K H1 a xs))(_:R (Itl K a) H1)
def zw(K:W.Frag)(a:TE):TI:=λσ H R=>a σ H λx b=>vZ K R x b
theorem aO{l:D0}{f:TE}(k:PE X l f):PI X tg l (zw X.K f):=by
 intro Kl s σ H R I h;refine thn (k Kl s σ H _ I h) λv c ⟨x,n,d,g,i⟩=>?_
 let(a,e,(t,j),q):=i;subst e;cases g;let(r,u,p,w):=d.list j;calc GZ p.isList ?_;calc⟨c.heap.objs.size,[c.heap.objs.size],_,_,n,U,d.kept (t':=c.toks) λb o e=>Az.get?_push_of_some _ e,uQ a _,⟨_,Az.get?_push_size _ U,U,U⟩,λb m=>?_,q⟩;let e:b=c.heap.objs.size:= ~~~m
 subst e;calc d.fpOk (tj _)<|d.hok.fresh<|tj _
theorem qm{Kl:La (Ak×Obj)}{σ:St}{H:Hp}{s:Cg}{R:It->Hp->Prop}{E:zz->Cg->Prop}{lo hi:Int}{t u v:Tok}{a:Nat}(I:Inv X Kl σ H s)(i : -(2^62)<=lo)(h:lo<2^62)(g : -(2^62)<=hi)(f:hi<2^62)
  (q:R (Itr lo (hi-lo).toNat) H):DO (model X.prog X.w) X.A (GU<|.ref s.heap.objs.size) (PIE X Kl σ tg R) E { s with heap:=s.heap.push { cls:=.type "range",data:=.fields #[.int lo t,.int hi u,.int 1 v] },toks:=a }:=by
 calc wpAny_pyIter_range (IsRange.new ..) (small_one i h g f) ?_;let c:Inv X Kl σ H { s with heap:=s.heap.push { cls:=.type "range",data:=.fields #[.int lo t,.int hi u,.int 1 v] },toks:=a }:=I.kept λb o e=>Az.get?_push_of_some _ e
 refine⟨(s.heap.push { cls:=.type "range",data:=.fields #[.int lo t,.int hi u,.int 1 v] }).objs.size,[(s.heap.push { cls:=.type "range",data:=.fields #[.int lo t,.int hi u,.int 1 v] }).objs.size],_,_,H,U,
  c.kept (t':=a) λb o e=>Az.get?_push_of_some _ e,rN _ lo (hi-lo).toNat,?_,λb d=>?_,q⟩
 .let k:lo+((0:Nat):Int)*1=lo:=by simp
  let j:(((hi-lo).toNat:Nat):Int)-((0:Nat):Int)=G0.Range.rangeSize lo hi 1:=by rw[rangeSize_one];split <;> lia
  show IsRangeIter _ _ (lo+((0:Nat):Int)*1) ((((hi-lo).toNat:Nat):Int)-((0:Nat):Int)) 1;rw[k,j];exact Az.get?_push_size _ U
 .let e:b=(s.heap.push { cls:=.type "range",data:=.fields #[.int lo t,.int hi u,.int 1 v] }).objs.size:= ~~~d
  subst e;calc c.fpOk (tj _)<|c.hok.fresh<|tj _
inductive v7  (R:It->Hp->Prop)(vs:La V)(H1:Hp):Prop
 |mk (j:Int)(_:vs=[.int j])(_ : -(2^62)<=j)(_:j<2^62)(_:R (Itr 0 j.toNat) H1):v7 R vs H1
def BP(ta:TA):TI:=λσ H R=>ta σ H λa b=>v7 R a b
inductive v9  (R:It->Hp->Prop)(vs:La V)(H1:Hp):Prop
 |mk (i j:Int)(_:vs=[.int i,.int j])(_:(-(2^62)<=i/\i<2^62/\-(2^62)<=j/\j<2^62))(_:R (Itr i (j-i).toNat) H1):v9 R vs H1
def BQ(ta:TA):TI:=λσ H R=>ta σ H λa b=>v9 R a b
theorem bf{a:D0}{ta:TA}{p pos:Pos}(i:Gl X "range") (hm:X.mg "range" = Kh) (k:PA X [a] ta)(g:E2 [a] X.env=[(Kj,eval a X.env)]:=by rfl):PI X tg (.Call (.Name "range" p) [a] [] pos) (BP ta):=by
 intro Kl s σ H R I h;calc Call_<|fg I i hm boot_range<|PyProof.Rows.callWith_type1 (thn (k pos Kl s σ H _ I h) λn o ⟨m,u,l,d,b⟩=>?_) g U;let(j,e,b,f,q):=b;subst e;cases d with
 |cons r c =>
  cases c;let(t,rfl):=r;calc call_range_1<|qm l ∅ ∅ b f (~~~q)
theorem kN{a b:D0}{ta:TA}{p pos:Pos}(u:Gl X "range") (hm:X.mg "range" = Kh) (v:PA X [a,b] ta)(o:E2 [a,b] X.env=[(Kj,eval a X.env),(Kj,eval b X.env)]:=by rfl)(c:E2 [b] X.env=[(Kj,eval b X.env)]:=by rfl) :
  PI X tg (.Call (.Name "range" p) [a,b] [] pos) (BQ ta):=by
 intro Kl s σ H R I h;refine Call_ (fg I u hm boot_range<|PyProof.Rows.callWith_type1 (thn (v pos Kl s σ H _ I h) λy A ⟨x,B,w,g,f⟩=>?_) (by rw[o,c]) (by rw[c];rfl));let(i,j,e,(f,n,m,l),q):=f;subst e;cases g with
 |cons r d =>
  cases d with
  |cons k d =>
   cases d;let(t,rfl):=r;let(z,rfl):=k;calc call_range_2<|qm w f n m l q
def Dx(d:TI)(g:TG)(tb:TS):TS:=λD σ H=>d σ H λJ f=>∃W:Nat->Nat->St->Hp->Prop,(∃m,W 0 m σ f)/\∀i m σ H,W i m σ H ->
 (J.stop i H/\D.nx σ H)\/(J.go i H/\∃N:St->Hp->Prop,(∀a H',N a H'->∃c,c<m/\W (i+1) c a H')/\∀x H',J.yld i H x H'->g x σ H' λb e=>tb { D with nx:=N,ct:=N,bk:=D.nx } b e)
def kO(a:La Ak)(h:Az):La (Ak×Obj):=a.filterMap λb=>(h.get? b).map λo=>(b,o)
theorem eG{a:La Ak}{h:Az}{b:Ak}{o:Obj}(c:b∈a)(e:h.get? b=Kg o):(b,o)∈kO a h:=rg.mpr ⟨b,c,by rw[e];rfl⟩
theorem uR{a:La Ak}{h:Az}{p:Ak×Obj}(c:p∈kO a h):p.1∈a/\h.get? p.1=Kg p.2:=by
 let(b,d,e):=rg.mp c;cases q:h.get? b with
 |none=>rw[q]at e;cases e
 |some o =>
  rw[q]at e;let f:(b,o)=p:=Option.some.inj e;subst f;calc⟨d,q⟩
theorem Inv.pinned{Kl:La (Ak×Obj)}{σ:St}{H:Hp}{s:Cg}{a:La Ak}(I:Inv X Kl σ H s)(i:∀b∈a,kM X Kl H b)(h:∀b∈a,∃o,s.heap.get? b=Kg o/\∀v,o.data≠.cell v):Inv X (Kl++kO a s.heap) σ H s :=
 I.pins_of λp g=>(gs.mp g).elim (λz=>I.pin p<|hH _ z) λz=>by
  let(c,e):=uR z;let(l,k,j,_):=i p.1 c;let(o,f,d):=h p.1 c;rw[e]at f;cases f;calc⟨e,l,k,j,d⟩
def Inv.unpinned{Kl pl:La (Ak×Obj)}{σ:St}{H:Hp}{s:Cg}(I:Inv X (Kl++pl) σ H s):Inv X Kl σ H s:=I.pins_of λp a=>I.pin p<|hH _<|jd _ a
theorem bg{q:D0}{body:La F3}{Y:TI}{g:TG}{tb:TS}{pos:Pos}(B:GP (model X.prog X.w) X.A X.env X.xe)(hc:X.calm=Ki)(hi:PI X tg q Y)(hg:PG X tg g)(c:PSs X body tb)
  (hs:∀x,G1 q X.env x=pure x:=by intro _;rfl):PS X (.For tg q body [] pos) (Dx Y g tb):=by
 intro Kl s σ H D I h;calc wpAny_For (thn (hi Kl s σ H _ I h) λv s1 h1=>thn h1 λa0 s2 h2=>?_) hs;let(it,C,tn,J,H2,e,I2,T,R,f2,W,(m0,w0),G):=h2;subst e;let P:∀{H':Hp},(∀b∈C,H' b=Kh)->∀b∈C,kM X Kl H' b:=λhn b c=>⟨hn b c,(f2 b c).2⟩
 calc codeAny_forLoop_any (λn s'=>∃i p H',Inv X Kl p H' s'/\tn i s'.heap/\(∀b∈C,H' b=Kh)/\W i n p H') ?_ m0 ⟨0,σ,H2,I2,R,λb c=>(f2 b c).1,w0⟩;rintro n s3 ⟨i,l,L,I3,E,F,w3⟩;rcases G i n l L w3 with⟨K,qn⟩|⟨go,N,hN,step⟩
 .refine GQ B<|thn (T.done X U U U hc i Kl s3 l L X.xe I3 (P F) E K) λr s4 ⟨O,I4⟩=>?_;subst O;exact GH ⟨l,L,I4,qn⟩
 .refine GQ B<|thn (T.item X U U U hc i Kl s3 l L X.xe I3 (P F) E go) λr s4 ⟨u,O,h4⟩=>?_;subst O;calc GQ B<|thn h4 λ_ Z ⟨x,H5,I5,r5,y5,y,S⟩=>?_;let V:=I5.pinned (P S)<|T.obj _ _ y;calc GQ B<|thn (hg _ Z l H5 x u _ V r5<|step x H5 y5) λ_ s6 ⟨Q,H6,I6,q6⟩=>?_;calc GQ B<|thn (c _ s6 Q H6 _ I6 q6) λf M t=>?_;let again:∀{a:St}{k:Hp},Inv X (Kl++kO C Z.heap) a k M->N a k->∃m,m<n/\∃i p H',Inv X Kl p H' M/\tn i M.heap/\(∀b∈C,H' b=Kh)/\W i m p H':=λ{a k} j z=>by
   let(m',hm,w7):=hN a k z;calc⟨m',hm,i+1,a,k,j.unpinned,T.keep _ _ _ y λb c o e=>(j.pin (b,o)<|hH _<|hH _<|eG c e).1,λb c=>?_,w7⟩;let(o,e,d):=T.obj _ _ y b c;exact(j.pin (b,o)<|hH _<|hH _<|eG c e).2.1
  cases f with
  |next=>obtain⟨a,k,j,z⟩:=t;exact again j z
  |cont=>obtain⟨a,k,j,z⟩:=t;exact again j z
  |brk=>obtain⟨a,k,j,t⟩:=t;exact⟨a,k,j.unpinned,t⟩
  |ret v=>obtain⟨x7,a,k,j,r7,t⟩:=t;calc⟨x7,a,k,j.unpinned,r7,t⟩
end
theorem bD{K:W.Frag}{a:Ak}{xs:La V}{g:TG}{tb:TS}{D:Ends}{σ:St}{H:Hp}(b:Nat->St->Hp->Prop)(r:b 0 σ H)(n:∀i σ H,i<=xs.length->b i σ H->SqL K H a xs)
  (l:∀i x σ H,xs[i]?=Kg x->b i σ H->g x σ H λc h=>tb { D with nx:=b<|i+1,ct:=b<|i+1,bk:=D.nx } c h)(o:∀σ H,b xs.length σ H->D.nx σ H) :
  ∃W:Nat->Nat->St->Hp->Prop,(∃m,W 0 m σ H)/\∀i m σ H,W i m σ H ->
   ((Itl K a).stop i H/\D.nx σ H)\/((Itl K a).go i H/\∃N:St->Hp->Prop,(∀d H',N d H'->∃j,j<m/\W (i+1) j d H')/\∀x H',(Itl K a).yld i H x H'->g x σ H' λc h=>tb { D with nx:=N,ct:=N,bk:=D.nx } c h):=by
 refine⟨λi m σ H=>m=xs.length-i/\i<=xs.length/\b i σ H,⟨xs.length,by simp,tS _,r⟩,?_⟩;rintro i m σ H ⟨rfl,hi,p⟩;let q:=n i σ H hi p;by_cases f:i<xs.length
 .refine .inr ⟨⟨xs,xs[i],q,by simp[f]⟩,b<|i+1,λd H' k=>⟨xs.length-(i+1),∅,U,f,k⟩,λx H' y=>?_⟩;let(e,y):=y;subst e;exact l i x σ _ (y xs q) p
 .let e:i=xs.length:=∅
  subst e;calc .inl ⟨⟨xs,q,tj _⟩,o σ H p⟩
theorem cP{lo:Int}{n:Nat}{g:TG}{tb:TS}{D:Ends}{σ:St}{H:Hp}(a:Nat->St->Hp->Prop)(o:a 0 σ H)
  (k:∀i σ H,i<n->a i σ H->g (.int<|lo+i) σ H λb f=>tb { D with nx:=a<|i+1,ct:=a<|i+1,bk:=D.nx } b f)(l:∀σ H,a n σ H->D.nx σ H) :
  ∃W:Nat->Nat->St->Hp->Prop,(∃m,W 0 m σ H)/\∀i m σ H,W i m σ H ->
   ((Itr lo n).stop i H/\D.nx σ H)\/((Itr lo n).go i H/\∃N:St->Hp->Prop,(∀c H',N c H'->∃h,h<m/\W (i+1) h c H')/\∀x H',(Itr lo n).yld i H x H'->g x σ H' λb f=>tb { D with nx:=N,ct:=N,bk:=D.nx } b f):=by
 refine⟨λi m σ H=>m=n-i/\i<=n/\a i σ H,⟨n,by simp,tS _,o⟩,?_⟩;rintro i m σ H ⟨rfl,hi,p⟩;by_cases d:i<n
 .refine .inr ⟨d,a<|i+1,λc H' j=>⟨n-(i+1),∅,U,d,j⟩,λx H' y=>?_⟩;let(e,y):=y;subst e y;exact k i σ _ d p
 .let e:i=n:=∅
  subst e;calc .inl ⟨tj _,l σ H p⟩
abbrev R2:=V->V->Hp->VK->Prop
def OpR(X:Cx)(f:zz->zz->Sem zz)(r:R2):Prop :=
 ∀(Kl:La (Ak×Obj))(s:Cg)(σ:St)(H:Hp)(x y:V)(v u:zz)(Q:VK),Inv X Kl σ H s->RelV x v->RelV y u->r x y H Q ->
  DO (model X.prog X.w) X.A (f v u) (EP X Kl σ Q) X.xe s
def UnR(X:Cx)(f:zz->Sem zz)(r:V->Hp->VK->Prop):Prop :=
 ∀(Kl:La (Ak×Obj))(s:Cg)(σ:St)(H:Hp)(x:V)(v:zz)(Q:VK),Inv X Kl σ H s->RelV x v->r x H Q ->
  DO (model X.prog X.w) X.A (f v) (EP X Kl σ Q) X.xe s
def cw(X:Cx)(f:zz)(r:La V->Hp->VK->Prop):Prop :=
 ∀(Kl:La (Ak×Obj))(s:Cg)(σ:St)(H:Hp)(a:La V)(b:La zz)(Q:VK),Inv X Kl σ H s->Vals a b->r a H Q ->
  DO (model X.prog X.w) X.A (call f b) (EP X Kl σ Q) X.xe s
def Dy(X:Cx)(r:V->Hp->(Bool->Hp->Prop)->Prop):Prop :=
 ∀(Kl:La (Ak×Obj))(s:Cg)(σ:St)(H:Hp)(x:V)(v:zz)(Q:Bool->Hp->Prop),Inv X Kl σ H s->RelV x v->r x H Q ->
  DO (model X.prog X.w) X.A (truthy v) (TP X Kl σ Q) X.xe s
def tOp(r:R2)(ta tb:TE):TE:=λσ H Q=>ta σ H λx b=>tb σ b λy a=>r x y a Q
def tUn(r:V->Hp->VK->Prop)(ta:TE):TE:=λσ H Q=>ta σ H λx a=>r x a Q
inductive rI(C:Int->Int->Prop)(g:Int->Int->V)(x:V)(y:V)(H:Hp)(Q:VK):Prop
 |mk (i j:_)(_:x=.int i)(_:y=.int j)(_:C i j)(_:Q (g i j) H)
inductive rI0(g:Int->Int->V)(x:V)(y:V)(H:Hp)(Q:VK):Prop
 |mk (i j:_)(_:x=.int i)(_:y=.int j)(_:Q (g i j) H)
inductive rU(g:Int->V)(x:V)(H:Hp)(Q:VK):Prop
 |mk (i:_)(_:x=.int i)(_:Q (g i) H)
section
variable{a b c:D0}{tb tc:TE}
theorem Al(p:PE X a ta)(o:PE X b tb){Kl:La (Ak×Obj)}{s:Cg}{σ:St}{H:Hp}{R:V->V->Hp->Prop}(I:Inv X Kl σ H s)
  (h:ta σ H λx i=>tb σ i λy c=>R x y c){Q:zz->Cg->Prop}{f:zz->zz->Sem zz}
  (hf:∀v u g x y c,Inv X Kl σ c g->RelV x v->RelV y u->R x y c->DO (model X.prog X.w) X.A (f v u) Q X.xe g) :
  DO (model X.prog X.w) X.A (eval a X.env) (λv e=>DO (model X.prog X.w) X.A (eval b X.env) (λu d=>DO (model X.prog X.w) X.A (f v u) Q X.xe d) X.xe e) X.xe s:=by
 refine thn (p Kl s σ H _ I h) λv j ⟨x,i,r,l,n⟩=>?_
 refine thn (o Kl j σ i _ r n) λu g ⟨y,c,q,k,m⟩=>?_
 calc hf v u g x y c q l k m
theorem aC{op:Operator}{r:R2}(f:OpR X (G2 op) r)(i:PE X a ta)(g:PE X b tb):PE X (.BinOp a op b pos) (tOp r ta tb):=by
 intro Kl s σ H Q I h;calc wpAny_BinOp<|Al i g I h λv u c x y k j e d q=>f Kl c σ k x y v u Q j e d q
theorem zy{op:UnaryOp}{r:V->Hp->VK->Prop}(e:UnR X (unaryOp op) r)(f:PE X a ta):PE X (.UnaryOp op a pos) (tUn r ta):=by
 intro Kl s σ H Q I h;calc UnaryOp_<|thn (f Kl s σ H _ I h) λv b ⟨x,i,g,c,d⟩=>e Kl b σ i x v Q g c d
theorem opI{f:zz->zz->Sem zz}{C:Int->Int->Prop}{g:Int->Int->Int}
  (rule:∀(i j:Int)(t u:Tok)(s:Cg)(Q:zz->Cg->Prop)(E:zz->Cg->Prop),C i j->Q (.int (g i j) s.toks) { s with toks:=s.toks+1 }->DO (model X.prog X.w) X.A (f (.int i t)<|.int j u) Q E s) :
  OpR X f (rI C λi j=>.int<|g i j):=by
 intro Kl s σ H x y v u Q I c b h;let(i,j,rfl,rfl,d,q):=h;let(t,rfl):=c;let(a,rfl):=b;calc rule i j t a s _ _ d ⟨.int<|g i j,H,I.tok _,⟨_,U⟩,q⟩
theorem Am{f:zz->zz->Sem zz}{g:Int->Int->Int}
  (rule:∀(i j:Int)(t u:Tok)(s:Cg)(Q:zz->Cg->Prop)(E:zz->Cg->Prop),Q (.int (g i j) s.toks) { s with toks:=s.toks+1 }->DO (model X.prog X.w) X.A (f (.int i t)<|.int j u) Q E s) :
  OpR X f (rI0 λi j=>.int<|g i j):=by
 intro Kl s σ H x y v u Q I c b h;let(i,j,rfl,rfl,q):=h;let(t,rfl):=c;let(a,rfl):=b;calc rule i j t a s _ _ ⟨.int<|g i j,H,I.tok _,⟨_,U⟩,q⟩
theorem yj{f:zz->zz->Sem zz}{g:Int->Int->Bool}
  (rule:∀(i j:Int)(t u:Tok)(s:Cg)(Q:zz->Cg->Prop)(E:zz->Cg->Prop),Q (.bool<|g i j) s->DO (model X.prog X.w) X.A (f (.int i t)<|.int j u) Q E s) :
  OpR X f (rI0 λi j=>.bl<|g i j):=by
 intro Kl s σ H x y v u Q I c b h;let(i,j,rfl,rfl,q):=h;let(t,rfl):=c;let(a,rfl):=b;calc rule i j t a s _ _ ⟨.bl<|g i j,H,I,U,q⟩
def BR(i j:Int):Prop:=0<j/\j<1073741824
def BS(i j:Int):Prop:=0<=j/\j<=1000000/\i.natAbs<2^64
def An(i j:Int):Prop:=(-(2^64)<i/\i<2^64)\/(-(2^64)<j/\j<2^64)
theorem An.ok{i j:Int}(h:An i j):IntMulOk i j:=by
 rcases h with⟨b,a⟩|⟨b,a⟩
 .exact .of_left<|G3 b a
 .exact .of_right<|G3 b a
theorem rO(k:Nat):(0:Int)<=2^k:=by
 rw[two_pow_cast];calc xu _
def bB:OpR X (G2 .Add) (rI0 λi j=>.int<|i+j):=Am λ_ _ _ _ _ _ _ q=>add_int q
def cJ:OpR X (G2 .Sub) (rI0 λi j=>.int<|i-j):=Am λ_ _ _ _ _ _ _ q=>sub_int q
def ir:OpR X (G2 .Mult) (rI An λi j=>.int<|i*j):=opI λ_ _ _ _ _ _ _ a q=>mul_int q a.ok
theorem bq:OpR X (G2 .FloorDiv) (rI BR λi j=>.int<|i / j):=opI λi j _ _ _ _ _ a q=>by
 let c:(0:Int)<j:=a.1;let b:j<1073741824:=a.2;calc floordiv_int ∅ (by rw[Int.fdiv_eq_ediv_of_nonneg i ∅];exact q) (.inl<|PyProof.noPylong_small ∅)
theorem aU:OpR X (G2 .Mod) (rI (λ_ j=>0<j) λi j=>.int<|i%j):=opI λi j _ _ _ _ _ a q=>by
 let b:(0:Int)<j:=a;calc mod_int' ∅ (by rw[Int.fmod_eq_emod_of_nonneg i ∅];exact q)
def l7:OpR X (G2 .Pow) (rI BS λi j=>.int<|i^j.toNat):=opI λ_ _ _ _ _ _ _ a q=>pow_int_small a.1 a.2.1 a.2.2 q
def Ao:OpR X (G2 .LShift) (rI BS λi j=>.int<|i*2^j.toNat):=opI λ_ _ _ _ _ _ _ a q=>lshift_int_small a.1 a.2.1 a.2.2 q
theorem Ap:OpR X (G2 .RShift) (rI (λ_ j=>0<=j) λi j=>.int<|i / 2^j.toNat):=opI λi j _ _ _ _ _ a q =>
 rshift_int a (by rw[Int.fdiv_eq_ediv_of_nonneg i (rO _)];exact q)
def Aq:OpR X (G2 .BitAnd) (rI0 λi j=>.int<|G0.bitAnd i j):=Am λ_ _ _ _ _ _ _ q=>and_int q
theorem unI{f:zz->Sem zz}{g:Int->Int}
  (rule:∀(i:Int)(t:Tok)(s:Cg)(Q:zz->Cg->Prop)(E:zz->Cg->Prop),Q (.int (g i) s.toks) { s with toks:=s.toks+1 }->DO (model X.prog X.w) X.A (f<|.int i t) Q E s) :
  UnR X f (rU λi=>.int<|g i):=by
 intro Kl s σ H x v Q I a h;let(i,rfl,q):=h;let(t,rfl):=a;calc rule i t s _ _ ⟨.int<|g i,H,I.tok _,⟨_,U⟩,q⟩
def wb:UnR X (unaryOp .USub) (rU λi=>.int<|-i):=unI λ_ _ _ _ _ q=>neg_int q
end
def BU:V->V->Bool
 | .non,.non=>Ki | .non,.int _=>Ki | .int _,.non=>Ki | .non,.bl _=>Ki | .bl _,.non=>Ki | .non,.str _=>Ki | .str _,.non=>Ki
 | .int _,.int _=>Ki | .bl _,.bl _=>Ki | .str _,.str _=>Ki | .byt _,.byt _=>Ki
 | .int _,.str _=>Ki | .str _,.int _=>Ki | .bl _,.str _=>Ki | .str _,.bl _=>Ki
 |_,_=>Kj
def rEq:R2:=λx y H Q=>BU x y=Ki/\Q (.bl<|Kk<|x=y) H
def rNe:R2:=λx y H Q=>BU x y=Ki/\Q (.bl<|!Kk (x=y)) H
theorem tV{i j:Int}:decide (V.int i=V.int j)=(i == j):=by
 rw[Bool.eq_iff_iff];simp
theorem wc{i j:Bool}:decide (V.bl i=V.bl j)=(i == j):=by
 rw[Bool.eq_iff_iff];simp
theorem tW{i j:Str}:decide (V.str i=V.str j)=(i == j):=by
 rw[Bool.eq_iff_iff];simp
theorem tX{i j:Array UInt8}:decide (V.byt i=V.byt j)=(i.toList == j.toList):=by
 rw[Bool.eq_iff_iff];cases i;cases j;simp
section
variable{a b c:D0}{tb tc:TE}
theorem bw{Kl:La (Ak×Obj)}{σ:St}{H:Hp}{s:Cg}{Q:VK}{k a:Bool}(I:Inv X Kl σ H s)(q:Q (.bl k) H)(e:k=a):EP X Kl σ Q (.bool a) s:=by
 subst e;calc⟨.bl k,H,I,U,q⟩
theorem cV:OpR X (G4 .Eq) rEq:=by
 intro Kl s σ H x y v u Q I d a h;let(c,q):=h;cases x with
 |non =>
  cases d;cases y with
  |non=>cases a;exact PySem.EqNone.eq_none_none<|bw I q (by simp)
  |bl j=>cases a;exact PySem.EqNone.eq_none_bool<|bw I q (by simp)
  |int j=>obtain⟨b,rfl⟩:=a;exact PySem.EqNone.eq_none_int<|bw I q (by simp)
  |str j=>obtain⟨b,rfl⟩:=a;exact PySem.EqNone.eq_none_str<|bw I q (by simp)
  |_=>exact Kp (show Kj=Ki from c) Bool.false_ne_true
 |bl i =>
  cases d;cases y with
  |non=>cases a;exact PySem.EqNone.eq_bool_none<|bw I q (by simp)
  |bl j=>cases a;exact eq_bool<|bw I q wc
  |str j=>obtain⟨b,rfl⟩:=a;exact PySem.EqMixed.eq_bool_str<|bw I q (by simp)
  |_=>exact Kp (show Kj=Ki from c) Bool.false_ne_true
 |int i =>
  let(t,rfl):=d;cases y with
  |non=>cases a;exact PySem.EqNone.eq_int_none<|bw I q (by simp)
  |int j=>obtain⟨b,rfl⟩:=a;exact eq_int<|bw I q tV
  |str j=>obtain⟨b,rfl⟩:=a;exact PySem.EqMixed.eq_int_str<|bw I q (by simp)
  |_=>exact Kp (show Kj=Ki from c) Bool.false_ne_true
 |str i =>
  let(t,rfl):=d;cases y with
  |non=>cases a;exact PySem.EqNone.eq_str_none<|bw I q (by simp)
  |bl j=>cases a;exact PySem.EqMixed.eq_str_bool<|bw I q (by simp)
  |int j=>obtain⟨b,rfl⟩:=a;exact PySem.EqMixed.eq_str_int<|bw I q (by simp)
  |str j=>obtain⟨b,rfl⟩:=a;exact eq_str<|bw I q tW
  |_=>exact Kp (show Kj=Ki from c) Bool.false_ne_true
 |byt i =>
  let(t,rfl):=d;cases y with
  |byt j=>obtain⟨b,rfl⟩:=a;exact W.eq_bytes<|bw I q tX
  |_=>exact Kp (show Kj=Ki from c) Bool.false_ne_true
 |_=>cases y <;> calc Kp (show Kj=Ki from c) Bool.false_ne_true
theorem tY:OpR X (G4 .NotEq) rNe:=by
 intro Kl s σ H x y v u Q I d a h;let(c,q):=h;cases x with
 |non =>
  cases d;cases y with
  |non=>cases a;exact PySem.EqNone.ne_none_none<|bw I q (by simp)
  |bl j=>cases a;exact PySem.EqNone.ne_none_bool<|bw I q (by simp)
  |int j=>obtain⟨b,rfl⟩:=a;exact PySem.EqNone.ne_none_int<|bw I q (by simp)
  |str j=>obtain⟨b,rfl⟩:=a;exact PySem.EqNone.ne_none_str<|bw I q (by simp)
  |_=>exact Kp (show Kj=Ki from c) Bool.false_ne_true
 |bl i =>
  cases d;cases y with
  |non=>cases a;exact PySem.EqNone.ne_bool_none<|bw I q (by simp)
  |bl j=>cases a;exact ne_bool<|bw I q<|Kt not wc
  |str j=>obtain⟨b,rfl⟩:=a;exact PySem.EqMixed.ne_bool_str<|bw I q (by simp)
  |_=>exact Kp (show Kj=Ki from c) Bool.false_ne_true
 |int i =>
  let(t,rfl):=d;cases y with
  |non=>cases a;exact PySem.EqNone.ne_int_none<|bw I q (by simp)
  |int j=>obtain⟨b,rfl⟩:=a;exact ne_int<|bw I q<|Kt not tV
  |str j=>obtain⟨b,rfl⟩:=a;exact PySem.EqMixed.ne_int_str<|bw I q (by simp)
  |_=>exact Kp (show Kj=Ki from c) Bool.false_ne_true
 |str i =>
  let(t,rfl):=d;cases y with
  |non=>cases a;exact PySem.EqNone.ne_str_none<|bw I q (by simp)
  |bl j=>cases a;exact PySem.EqMixed.ne_str_bool<|bw I q (by simp)
  |int j=>obtain⟨b,rfl⟩:=a;exact PySem.EqMixed.ne_str_int<|bw I q (by simp)
  |str j=>obtain⟨b,rfl⟩:=a;exact ne_str<|bw I q<|Kt not tW
  |_=>exact Kp (show Kj=Ki from c) Bool.false_ne_true
 |byt i =>
  let(t,rfl):=d;cases y with
  |byt j=>obtain⟨b,rfl⟩:=a;exact W.ne_bytes<|bw I q<|Kt not tX
  |_=>exact Kp (show Kj=Ki from c) Bool.false_ne_true
 |_=>cases y <;> calc Kp (show Kj=Ki from c) Bool.false_ne_true
def l8:OpR X (G4 .Lt) (rI0 λi j=>.bl<|Kk<|i<j):=yj λ_ _ _ _ _ _ _ q=>lt_int q
def fG:OpR X (G4 .LtE) (rI0 λi j=>.bl<|Kk<|i<=j):=yj λ_ _ _ _ _ _ _ q=>le_int q
def iu:OpR X (G4 .Gt) (rI0 λi j=>.bl<|Kk<|j<i):=yj λ_ _ _ _ _ _ _ q=>gt_int q
def BV:OpR X (G4 .GtE) (rI0 λi j=>.bl<|Kk<|j<=i):=yj λ_ _ _ _ _ _ _ q=>ge_int q
theorem o7:OpR X (G4 .NotIn) (λx y H Q=>∃i j,x=.str i/\y=.str j/\Q (.bl<|!(!(G0.Str.occurrences j i 0 j.length 1).isEmpty)) H):=by
 intro Kl s σ H x y v u Q I b a h;let(i,j,rfl,rfl,q):=h;let(t,rfl):=b;let(c,rfl):=a;calc notIn_str<|bw I q U
theorem aP(b:D0){op:G5}(h:op≠.In:=by decide)(a:op≠.NotIn:=by decide):G6 op b=false:=by
 let d:(op == G5.In)=false:=by cases op <;> first|rfl|exact Kp U h
 let c:(op == G5.NotIn)=false:=by cases op <;> first|rfl|exact Kp U a
 cases b <;> simp[G6,d,c]
theorem kj{op:G5}{r:R2}(f:OpR X (G4 op) r)(j:PE X a ta)(i:PE X b tb)(g:G6 op b=Kj):PE X (.Compare a [op] [b] pos) (tOp r ta tb):=by
 intro Kl s σ H Q I h;calc wpAny_Compare1 (Al j i I h λv u c x y l k e d q=>f Kl c σ l x y v u Q k e d q) g
inductive we  (Q:Bool->Hp->Prop)(x:V)(H':Hp):Prop
 |mk (k:_)(_:x=.bl k)(_:Q k H'):we Q x H'
def zA(t:TE):TT:=λσ H Q=>t σ H λx H'=>we Q x H'
theorem aL{op:G5}{r:R2}(o:OpR X (G4 op) r)(t:PE X a ta)(q:PE X b tb)(p:G6 op b=Kj):PT X (.Compare a [op] [b] pos) (zA<|tOp r ta tb):=by
 intro Kl s σ H Q I h;refine wpAny_isTrue_Compare1 (thn (t Kl s σ H _ I h) λv f ⟨x,E,B,j,n⟩=>thn (q Kl f σ E _ B n) λu d ⟨y,D,A,i,m⟩ =>
  thn (o Kl d σ D x y v u _ A j i m) λc F ⟨z,C,w,g,k,e,l⟩=>?_) p
 subst e;cases g;calc Gk ⟨C,w,l⟩
inductive tZ(r':R2)(tc:TE)(σ:St)(Q:VK)(y:V)(z:V)(H3:Hp):Prop
 |mk (k:_)(_:z=.bl k)(_:(if k=Ki then tc σ H3 λw' H4=>r' y w' H4 Q else Q (.bl Kj) H3))
def wg(r a:R2)(ta tb tc:TE):TE:=λσ H Q=>ta σ H λx d=>tb σ d λy c=>r x y c λz b=>tZ a tc σ Q y z b
theorem l9{op f:G5}{r j:R2}(J:OpR X (G4 op) r)(g:OpR X (G4 f) j)(M:PE X a ta)(L:PE X b tb)(K:PE X c tc)
  (hm:lastMarks [op,f] [b,c]=false:=by with_unfolding_all rfl):PE X (.Compare a [op,f] [b,c] pos) (wg r j ta tb tc):=by
 intro Kl s σ H Q I h;refine Compare_chain (thn (M Kl s σ H _ I h) λv A ⟨x,T,P,D,G⟩=>chain_link (thn (L Kl A σ T _ P G) λu w ⟨y,S,O,i,F⟩ =>
  thn (J Kl w σ S x y v u _ O D i F) λd t ⟨z,n,m,C,k,e,l⟩=>?_)) hm
 subst e;cases C;calc Gk ?_;cases k with
 |false=>exact ite_ff ⟨.bl Kj,n,m,U,l⟩
 |true=>calc ite_tt (chain_last<|thn (K Kl t σ n _ m l) λp q ⟨o,R,N,B,E⟩=>g Kl q σ R y o u p Q N i B E)
theorem md{op f:G5}{r j:R2}(M:OpR X (G4 op) r)(g:OpR X (G4 f) j)(P:PE X a ta)(O:PE X b tb)(N:PE X c tc)
  (hm:lastMarks [op,f] [b,c]=false:=by with_unfolding_all rfl):PT X (.Compare a [op,f] [b,c] pos) (zA<|wg r j ta tb tc):=by
 intro Kl s σ H Q I h;refine isTrue_chain (thn (P Kl s σ H _ I h) λv A ⟨x,H1,Y,E,K⟩=>test_link (thn (O Kl A σ H1 _ Y K) λu w ⟨y,H2,W,i,J⟩ =>
  thn (M Kl w σ H2 x y v u _ W E i J) λd t ⟨z,n,m,D,k,e,l⟩=>?_)) hm
 subst e;cases D;calc Gk ?_;cases k with
 |false =>
  let(k',S,L):=l;cases S;exact ite_ff ⟨n,m,L⟩
 |true =>
  calc ite_tt<|test_last<|thn (N Kl t σ n _ m l) λp q ⟨o,H4,V,C,G⟩=>thn (g Kl q σ H4 y o u p _ V i C G) λd' s5 ⟨z2,Z,T,B,k2,R,F⟩=>?_;subst R;cases B;calc Gk ⟨Z,T,F⟩
def Ar(K:W.Frag)(x:V)(H:Hp)(k:Bool):Prop :=
 match x with
 | .non=>k=Kj
 | .bl b=>k=b
 | .int i=>k=(i != 0)
 | .str y=>y.length<=AA/\k=((y.length:Int) != 0)
 | .byt y=>y.size<=AA/\k=((y.size:Int) != 0)
 | .ref p=>(∃a,SqL K H p a/\k = !a.isEmpty)\/(∃a,SqT K H p a/\k = !a.isEmpty)\/∃c,H p=Kg (.dK c)/\k = !c.isEmpty
 |_=>False
theorem rP{a:Type}{kvs:La (a×V)}{vs:La (a×zz)}(r:KV kvs vs):(!vs.isEmpty) = !kvs.isEmpty:=by
 cases r <;> rfl
theorem mf{xs:La V}{a:La zz}(r:Vals xs a):(!a.toArray.isEmpty) = !xs.isEmpty:=by
 cases r <;> simp
theorem jB:(AA:Nat)<2^63:=by rw[G7];decide
theorem As:Dy X (λx H Q=>∃k,Ar X.K x H k/\Q k H):=by
 intro Kl s σ H x v Q I g h;let(k,e,q):=h;let C:=jB;let B:AA=16777216:=G7;cases x with
 |non =>
  cases g;let a:k=false:=e;subst a;exact truthy_none ⟨H,I,q⟩
 |bl b =>
  cases g;let a:k=b:=e;subst a;exact Gk ⟨H,I,q⟩
 |int i =>
  let(t,rfl):=g;let a:k=(i != 0):=e;subst a;exact PySem.P.truthy_int ⟨H,I,q⟩
 |str y =>
  let(t,rfl):=g;let(z,a):y.length<=AA/\k=((y.length:Int) != 0):=e;subst a;exact PySem.P.truthy_str ∅ ⟨H,I.tok _,q⟩
 |byt y =>
  let(t,rfl):=g;let(z,a):y.size<=AA/\k=((y.size:Int) != 0):=e;subst a;exact W.truthy_bytes ∅ ⟨H,I.tok _,q⟩
 |ref p =>
  cases g;let a:(∃f,SqL X.K H p f/\k = !f.isEmpty)\/(∃f,SqT X.K H p f/\k = !f.isEmpty)\/∃c,H p=Kg (.dK c)/\k = !c.isEmpty:=e;rcases a with⟨f,j,a⟩|⟨f,j,a⟩|⟨c,j,a⟩
  .subst a;let(o,r,n,u):=I.list j;let d:=r.length;exact wpAny_truthy_list n.isList (by simp only[dA];lia) ⟨H,I.tok _,by rw[mf r];exact q⟩
  .subst a;let(o,r,n,u):=I.tuple j;let d:=r.length;exact truthy_tuple n (by simp only[dA];lia) ⟨H,I.tok _,by rw[mf r];exact q⟩
  .subst a;let(u,A,l,r,m):c.length<=AA/\(p == AY)=Kj/\∃l,KV c l/\s.heap.DictOf (bp X.prog X.w) p l:=I.hok p _ j;let d:c.length=l.length:=Paired.length r;exact wpAny_truthy_dict A m ∅ ⟨H,I.tok _,by rw[rP r];exact q⟩
 |_=>calc(show False from e).elim
theorem dR(g:PE X a ta)(f:∀b,EX a X.env b=(do let v ←b;Gf a.pos;holding [v] (truthy v))) :
  PT X a (λσ H Q=>ta σ H λx H'=>∃k,Ar X.K x H' k/\Q k H'):=by
 intro Kl s σ H Q I h;calc isTrue_plain (thn (g Kl s σ H _ I h) λv c ⟨x,j,i,d,e⟩=>As Kl c σ j x v Q i d e)<|f _
theorem mh:OpR X (G2 .Add) (λx y H Q=>∃i j,x=.str i/\y=.str j/\i.length+j.length<=AA/\Q (.str<|i++j) H):=by
 intro Kl s σ H x y v u Q I c b h;let(i,j,rfl,rfl,d,q):=h;let(t,rfl):=c;let(a,rfl):=b;calc add_str (λa e=>⟨.str<|i++j,H,I.tok _,⟨_,U⟩,q⟩) d
theorem Au:OpR X (G2 .Add) (λx y H Q=>∃i j,x=.byt i/\y=.byt j/\i.size+j.size<=16777216/\Q (.byt<|i++j) H):=by
 intro Kl s σ H x y v u Q I c b h;let(i,j,rfl,rfl,d,q):=h;let(t,rfl):=c;let(a,rfl):=b;calc W.KBy.add_bytes d<|λa e=>⟨.byt<|i++j,H,I.tok _,⟨_,U⟩,q⟩
theorem vals1{x:V}{us:La zz}(r:Vals [x] us):∃u,us=[u]/\RelV x u:=by
 cases r with
 |cons b a=>cases a;calc⟨_,U,b⟩
theorem vals2{x y:V}{us:La zz}(r:Vals [x,y] us):∃u a,us=[u,a]/\RelV x u/\RelV y a:=by
 cases r with
 |cons e d =>
  cases d with
  |cons c b=>cases b;calc⟨_,_,U,e,c⟩
theorem kP(b:X.calm=Ki):cw X (.builtin "max") (λxs H Q=>∃i j,xs=[.int i,.int j]/\Q (.int (if j>i then j else i)) H):=by
 intro Kl s σ H xs d Q I r h;let(i,j,rfl,q):=h;let(u,c,rfl,(t,rfl),(f,rfl)):=vals2 r;refine max_two_ints (I.ok.hd b) λh' e k=>⟨_,H,I.kept k,?_,q⟩
 by_cases a:j>i
 .rw[Ko a,Ko a];exact⟨_,U⟩
 .rw[Kn a,Kn a];calc⟨_,U⟩
theorem iU(b:X.calm=Ki):cw X (.builtin "min") (λxs H Q=>∃i j,xs=[.int i,.int j]/\Q (.int (if j<i then j else i)) H):=by
 intro Kl s σ H xs d Q I r h;let(i,j,rfl,q):=h;let(u,c,rfl,(t,rfl),(f,rfl)):=vals2 r;refine min_two_ints (I.ok.hd b) λh' e k=>⟨_,H,I.kept k,?_,q⟩
 by_cases a:j<i
 .rw[Ko a,Ko a];exact⟨_,U⟩
 .rw[Kn a,Kn a];calc⟨_,U⟩
end
structure rQ(h:Az)(x dx C:Ak)(mA:Str->Option zz):Prop where
 obj:h.get? x=Kg (W.instObj C dx)
 ns:h.Ns1 dx mA
 ne:dx≠x
theorem uS{h:Az}{f:Ak}{c:Str->Option zz}(n:h.Ns1 f c):∃b,h.get? f=Kg b/\∀name,W.lookIn name b=Kg (c name):=by
 let(o,d,r,j,m,l,_,k):=n;calc⟨o,j,λname=>?_⟩;let e:=k name;unfold nsFind findBy at e;rw[←Array.find?_toList]at e;unfold W.lookIn;rw[m];dsimp only;split
 .rename_i y q
  rw[q]at e;exact Kt Kg e
 .rename_i q
  rw[q]at e;let a:d.toList.any (·.refKey)=false:=by
   rw[ov];intro y i;let(z,t,g):=l y<|Array.mem_toList_iff.mp i;simp[G8.refKey,g]
  let p:¬ d.toList.any (·.refKey)=true:=by rw[a];exact Bool.false_ne_true
  rw[Kn p];calc Kt Kg e
theorem rQ.look{h:Az}{x c C:Ak}{b:Str->Option zz}(I:rQ h x c C b):∃a,W.InstAt h x (W.instObj C c) C (Kg a)/\∀name,W.lookIn name a=Kg (b name):=by
 let(a,d,e):=uS I.ns;calc⟨a,⟨I.obj,U,U,d⟩,e⟩
variable{A:Cd}{dx C f:Ak}
section
variable{prog:zM}{K:W.Frag}{mA:Str->Option zz}{name:Str}{v:zz}
theorem get_map{a:Bool}{Q:zz->Cg->Prop}(X:K.In s.heap)(I:rQ s.heap x dx C mA)(f:W.plainGet K C name=Ki)(e:W.hasDictIn K C=Ki)
  (g:W.findIn K (.ref C) name=Kg Kh)(c:mA name=Kg v)(b:W.handedIn v=Ki)(h:Q v { s with toks:=s.toks+1 }) :
  DO (model prog w) A (getAttr (.ref x) name a) Q E s:=by
 let(i,J,d):=I.look;calc W.get_value X J (W.plainGet_of f).1 (W.findObj_own e g U (by rw[d,c])) b h
theorem wm{pl:Sem Bool}{Q:zz×La zz->Cg->Prop}(X:K.In s.heap)(I:rQ s.heap x dx C mA)(a:W.plainGet K C name=Ki)
  (hf:W.findIn K (.ref C) name=Kg (Kg<|.ref f))(d:W.isFn K (.ref f)=Ki)(c:mA name=Kh)(h:Q (.ref f,[.ref x]) s) :
  DO (model prog w) A (G9 (.ref x) name pl) Q E s:=by
 let(b,J,e):=I.look;calc W.method_fn X J (W.plainGet_of a).1 (W.plainGet_of a).2 hf (beq_iff_eq.mp d) (by show(W.lookIn name b).map (·.isSome)=Kg Kj;rw[e,c];rfl) h
theorem yk{ns:La Str}{Q:Unit->Cg->Prop}(X:K.In s.heap)(I:rQ s.heap x dx C mA)
  (l:W.findIn K (.ref C) "__setattr__" = Kg (Kg<|.builtin "object.__setattr__")) (m:W.plainOver K C=Ki)(k:W.takerIn K C name=Kg Kh)(n:W.hasDictIn K C=Ki)
  (hw:PySem.Within mA ns)(hsz:ns.length<=AA)
  (h:∀h',rQ h' x dx C (λy=>if y=name then Kg v else mA y)->Az.SameBut dx s.heap h'->Q () { s with heap:=h',toks:=s.toks+2 }) :
  DO (model prog w) A (setAttr (.ref x) name v) Q E s:=by
 let(t,J,z):=I.look;calc W.set_plain X J l<|W.osa_open (s:={ s with toks:=s.toks+1 }) (r:=Kh) X J m k λb=>?_;let(B,o,g):=W.any_some n;let j:s.heap.get? x=Kg ⟨.ref C,Kg dx,.plain,#[]⟩:=I.obj;calc zo<|zp<|zo<|zo<|wpAny_loadPart j<|zo<|W.Looks.here (s:={ s with toks:=s.toks+1 }) (W.looks_clsIn X o) ?_;rw[g];calc zp (a:=Kg dx)<|zo<|zp<|zo ?_;refine wpAny_nsSet1 (s:={ s with toks:=s.toks+1 }) I.ns λh' d c=>?_
 let(u,p,q,e,f,i):=d.count<|PySem.Within.cons name v hw;refine zo (wpAny_lookBehind e (by rw[f];exact pastItsLine_dict (tT i (by rw[hU];lia))) ?_);calc zp<|h _ ⟨(c.2 _<|Ne.symm I.ne).trans I.obj,d,I.ne⟩ c
theorem wo{R:Hm->Cg->Prop}{vs:La zz}{a:La (Str×zz)}(X:K.In s.heap)(b:W.makesIn K C=Ki)
  (hi:W.findIn K (.ref C) "__init__" = Kg (Kg<|.ref f)) (hf:W.typeIn K (.ref f)=Kg (.type "function"))
  (h:Hn (model prog w) (A.under<|.builtin "type.__call__" ⟨.ref C :: vs,a⟩) (.call (.ref f) ⟨.ref (s.heap.objs.size+1) :: vs,a⟩) (W.InitBack (s.heap.objs.size+1) R)
   { s with heap:=(s.heap.push W.emptyDict).push (W.instObj C s.heap.objs.size) }) :
  Hn (model prog w) A (.call (.ref C) ⟨vs,a⟩) R s:=by
 let(e,g,d,t,c):=s;calc W.make_core (W.makes_of X b) (W.looks_findIn X hi) (λself=>W.bind_fn X self hf) (.inl U) h
end
def bI(f:Str)(v:V):La (Str×V)->La (Str×V)
 | []=>[(f,v)]
 |(g,x) :: r=>if g=f then(g,v) :: r else(g,x) :: bI f v r
theorem lG(f g:Str)(v:V):∀fs:La (Str×V),(bI f v fs).lookup g=if g=f then Kg v else fs.lookup g
 | []=>by
  show List.lookup g [(f,v)]=_;by_cases h:g=f
  .let a:(g == f)=true:=beq_iff_eq.mpr h;simp only[List.lookup,a,Ko h]
  .let a:(g == f)=false:=beq_eq_false_iff_ne.mpr h;simp only[List.lookup,a,Kn h]
 |(k,x) :: r=>by
  let c:=lG f g v r;rw[show bI f v ((k,x) :: r)=(if k=f then(k,v) :: r else(k,x) :: bI f v r)from U];by_cases b:k=f
  .rw[Ko b];by_cases h:g=k
   .let a:(g == k)=true:=beq_iff_eq.mpr h;simp only[List.lookup,a,Ko (h.trans b)]
   .let a:(g == k)=false:=beq_eq_false_iff_ne.mpr h;simp only[List.lookup,a,Kn (λe:g=f=>h<|e.trans b.symm)]
  .rw[Kn b];by_cases h:g=k
   .let a:(g == k)=true:=beq_iff_eq.mpr h;simp only[List.lookup,a,Kn (λe:g=f=>b<|h.symm.trans e)]
   .let a:(g == k)=false:=beq_eq_false_iff_ne.mpr h;simp only[List.lookup,a];calc c
theorem kQ(f:Str)(v:V):∀fs:La (Str×V),f∈(bI f v fs).map (·.1)/\∀g,g∈fs.map (·.1)->g∈(bI f v fs).map (·.1)
 | []=>⟨by simp[bI],λg h=>by simp at h⟩
 |(k,x) :: r=>by
  let(c,b):=kQ f v r;rw[show bI f v ((k,x) :: r)=(if k=f then(k,v) :: r else(k,x) :: bI f v r)from U];by_cases a:k=f
  .rw[Ko a];subst a;exact⟨by simp,λg h=>~~~h⟩
  .rw[Kn a];refine⟨?_,λg h=>?_⟩
   .rw[ik];exact dV _ c
   .rw[ik]at h⊢;rcases dt.mp h with e|e
    .exact dt.mpr<|.inl e
    .exact dV _<|b g e
theorem lH(f:Str)(v:V):∀fs:La (Str×V),(bI f v fs).length<=fs.length+1
 | []=>by simp[bI]
 |(k,x) :: r=>by
  let b:=lH f v r;rw[show bI f v ((k,x) :: r)=(if k=f then(k,v) :: r else(k,x) :: bI f v r)from U];by_cases a:k=f
  .rw[Ko a,hU,hU];lia
  .rw[Kn a,hU,hU];lia
theorem iq.some_of{v:V}{o:Option zz}(r:iq (Kg v) o):∃u,o=Kg u/\RelV v u:=by
 cases o with
 |none=>exact(show False from r).elim
 |some u=>calc⟨u,U,r⟩
theorem iq.none_of{o:Option zz}(r:iq Kh o):o=none:=by
 cases o with
 |none=>rfl
 |some u=>calc(show False from r).elim
theorem nW{v:V}{u:zz}(r:RelV v u):W.handedIn u=true:=by
 cases v with
 |non=>cases (show u=zz.none from r);rfl
 |bl b=>cases (show u=zz.bool b from r);rfl
 |int i=>obtain⟨t,e⟩:=(show ∃t,u=zz.int i t from r);cases e;rfl
 |str x=>obtain⟨t,e⟩:=(show ∃t,u=zz.str x t from r);cases e;rfl
 |byt b=>obtain⟨t,e⟩:=(show ∃t,u=zz.bytes b t from r);cases e;rfl
 |flt b=>obtain⟨t,e⟩:=(show ∃t,u=zz.float b t from r);cases e;rfl
 |ref a=>cases (show u=zz.ref a from r);rfl
 |ty n=>cases (show u=zz.type n from r);rfl
section
variable{fs fs':La (Str×V)}
theorem lT(c:HOk P w H h)(e:H a=Kg (.ins C dx fs)):∃b,rQ h a dx C b/\(∀f,iq (fs.lookup f)<|b f)/\PySem.Within b (fs.map (·.1))/\fs.length<=1000/\H dx=Kg (.own a):=by
 let(d,z,i,g,b,n,r,q):=(show bQ P w H h a (.ins C dx fs)from c a _ e);calc⟨b,⟨g,n,i⟩,r,q,z,d⟩
end
structure Cls(K:W.Frag)(C:Ak):Prop where
 pg:W.plainGet K C Str.empty=Ki
 hd:W.hasDictIn K C=Ki
 po:W.plainOver K C=Ki
 sa:W.findIn K (.ref C) "__setattr__" = Kg (Kg<|.builtin "object.__setattr__")
def Cls.get{K:W.Frag}{C:Ak}(c:Cls K C)(f:Str):W.plainGet K C f=true:=c.pg
def NoAttr(K:W.Frag)(C:Ak)(f:Str):Prop:=W.findIn K (.ref C) f=Kg Kh
theorem NoAttr.taker{K:W.Frag}{C:Ak}{f:Str}(n:NoAttr K C f):W.takerIn K C f=Kg none:=by
 unfold W.takerIn;rw[show W.findIn K (.ref C) f=Kg Kh from n];rfl
structure Con(K:W.Frag)(C:Ak)(f:Str)(v:V)(u:zz):Prop where
 at_:W.findIn K (.ref C) f=Kg (Kg u)
 rel:RelV v u
 get:W.specialIn K u "__get__" = Kg Kh
 cp:W.copiedNames.contains f=Kj
structure Meth(K:W.Frag)(C:Ak)(m:Str)(f:Ak):Prop where
 at_:W.findIn K (.ref C) m=Kg (Kg<|.ref f)
 fn:W.isFn K (.ref f)=Ki
 kp:W.keepIn K (.ref f)=Ki
section
variable{fs:La (Str×V)}{f:Str}{v:V}
theorem rR{b:Bool}{Q:zz->Cg->Prop}(I:Inv X Kl σ H s)(e:H a=Kg (.ins C dx fs))(c:Cls X.K C)(n:NoAttr X.K C f)(l:fs.lookup f=Kg v)
  (h:∀u s',Inv X Kl σ H s'->RelV v u->Q u s'):DO (model X.prog X.w) A (getAttr (.ref a) f b) Q E s:=by
 let(g,O,r,_,_,_):=lT I.hok e;let(u,i,d):=iq.some_of (v:=v) (o:=g f) (by rw[←l];exact r f);calc get_map I.kIn O (c.get f) c.hd n i (nW d)<|h u _ (I.tok _) d
theorem jC{m:Str}{g:Ak}{pl:Sem Bool}{Q:zz×La zz->Cg->Prop}(I:Inv X Kl σ H s)(e:H a=Kg (.ins C dx fs))(c:Cls X.K C)(k:Meth X.K C m g)(l:fs.lookup m=Kh)
  (h:Q (.ref g,[.ref a]) s):DO (model X.prog X.w) A (G9 (.ref a) m pl) Q E s:=by
 let(b,O,r,_,_,_):=lT I.hok e;let d:b m=none:=iq.none_of (by rw[←l];exact r m);calc wm I.kIn O (c.get m) k.at_ k.fn d h
theorem rS{y:V}{u:zz}{Q:Unit->Cg->Prop}(I:Inv X Kl σ H s)(e:H a=Kg (.ins C dx fs))(c:Cls X.K C)(n:NoAttr X.K C f)(B:fs.length<1000)(m:RelV y u)
  (h:∀s',Inv X Kl σ (upd H a<|.ins C dx<|bI f y fs) s'->Q () s'):DO (model X.prog X.w) A (setAttr (.ref a) f u) Q E s:=by
 let(j,O,r,i,_,k):=lT I.hok e;let p:(fs.map (·.1)).length<=AA:=by rw[dn,G7];lia
 refine yk I.kIn O c.sa c.po n.taker c.hd i p λh' d l=>h _ ?_
 let hd:∃o,h'.get? dx=Kg o:=let ⟨o,_,_,e',_⟩:=d.ns;⟨o,e'⟩;refine I.write (x:=a) (e:=dx) (by rw[e];exact True.intro) (.inr k) (λb q v z=>(l.2 b v).trans z) hd ?_;refine⟨by rw[aq O.ne];exact k,?_,O.ne,d.obj,_,d.ns,λg=>?_,λg t=>?_⟩
 .let:=lH f y fs;lia
 .show iq ((bI f y fs).lookup g) (if g=f then Kg u else j g);rw[lG];by_cases q:g=f
  .rw[Ko q,Ko q];exact m
  .rw[Kn q,Kn q];exact r g
 .by_cases q:g=f
  .rw[q];exact(kQ f y fs).1
  .refine(kQ f y fs).2 g (i g λz=>t ?_);show(if g=f then Kg u else j g)=Kh;rw[Kn q];calc z
theorem Inv.made(I:Inv X Kl σ H s):Inv X Kl σ (upd (upd H s.heap.objs.size<|.own<|s.heap.objs.size+1) (s.heap.objs.size+1)<|.ins C s.heap.objs.size [])
  { s with heap:=(s.heap.push W.emptyDict).push (W.instObj C s.heap.objs.size) }:=by
 let d:(s.heap.push W.emptyDict).get? s.heap.objs.size=Kg W.emptyDict:=Az.get?_push_size s.heap U;let i:((s.heap.push W.emptyDict).push<|W.instObj C s.heap.objs.size).get? (s.heap.objs.size+1)=Kg (W.instObj C s.heap.objs.size):=by
  let:=Az.get?_push_size (s.heap.push W.emptyDict) (o:=W.instObj C s.heap.objs.size) U
  rwa [Az.size_push]at this
 let h:(s.heap.push W.emptyDict).Ns s.heap.objs.size (λ_=>Kh):=⟨W.emptyDict,#[],_,d,U,(λe g=>Kp g (by simp)),λ_=>U⟩;let j:=I.laid (a:=s.heap.objs.size) (o:=.own<|s.heap.objs.size+1) (h':=s.heap.push W.emptyDict) (t':=s.toks) (λb u q=>Az.get?_push_of_some _ q) (tj _) ⟨_,d⟩;calc j.laid (a:=s.heap.objs.size+1) (o:=.ins C s.heap.objs.size []) (t':=s.toks) (λb u q=>Az.get?_push_of_some _ q) (Nat.le_of_eq<|Az.size_push _ _) ?_;let c:s.heap.objs.size≠s.heap.objs.size+1:=tN<|vr _;calc⟨by rw[aq c,ae],tS _,c,i,λ_=>Kh,(Az.Ns1.of_empty h).at λo q=>Az.get?_push_of_some _ q,λ_=>True.intro,λy f=>Kp U f⟩
theorem ym{prog:zM}{w:zJ}{a:Env}{e:D0}{f:Str}{pos:Pos}{s:Cg}{Q:zz->Cg->Prop}(c:Ho e f a (eval e a)=eval e a)
  (h:DO (model prog w) A (eval e a) (λo b=>DO (model prog w) A (getAttr o f Ki) Q E b) E s):DO (model prog w) A (eval (.Attribute e f pos) a) Q E s :=
 Attribute_any_ h (by rw[arm_eval_Attribute,c])
end
inductive zB(K:W.Frag)(f:Str)(Q:VK)(x:V)(H1:Hp):Prop
 |mk (a C dx fs v:_)(_:x=.ref a)(_:H1 a=Kg (.ins C dx fs))(_:Cls K C)(_:NoAttr K C f)(_:fs.lookup f=Kg v)(_:Q v H1)
def BX(K:W.Frag)(ta:TE)(f:Str):TE:=λσ H Q=>ta σ H λx a=>zB K f Q x a
def Dz(K:W.Frag)(ta c:TE)(f:Str):TS:=λD σ H=>c σ H λy d=>ta σ d λx b=>∃a C dx fs,x=.ref a/\b a=Kg (.ins C dx fs)/\Cls K C/\NoAttr K C f/\fs.length<1000 /\
 D.nx σ (upd b a<|.ins C dx<|bI f y fs)
variable{o:D0}
section
variable{value:D0}{f:Str}{pos' BY:Pos}{tv:TE}
theorem aY(g:PE X e ta)(i:Ho e f X.env (eval e X.env)=eval e X.env):PE X (.Attribute e f pos) (BX X.K ta f):=by
 intro Kl s σ H Q I h;calc ym i<|thn (g Kl s σ H _ I h) λu w ⟨x,p,o,b,a,C,dx,fs,v,j,k,c,n,l,q⟩=>?_;subst j;obtain rfl:u=zz.ref a:=b;calc rR o k c n l λr t m d=>⟨v,p,m,d,q⟩
theorem cK(m:PE X o ta)(j:PE X value tv)(k:GJ value (Kg<|.Attribute o f pos') pos.line X.env=pure Kj):PS X (.Assign [.Attribute o f pos'] value pos) (Dz X.K ta tv f):=by
 intro Kl s σ H D I h;calc plainObj_wpAny_Assign_Attribute (thn (j Kl s σ H _ I h) λu b ⟨y,z,w,d,q⟩=>thn (m Kl b σ z _ w q) λi B ⟨x,E,v,e,a,C,dx,fs,p,r,c,n,l,g⟩=>?_) k;subst p;obtain rfl:i=zz.ref a:=e;calc rS v r c n l d λA t=>⟨σ,_,t,g⟩
end
section
variable{Q:zz->Cg->Prop}{c:zz}{b:Bool}
inductive kR(K:W.Frag)(H:Hp):V->zz->Prop where
 |non:kR K H .non (.type "NoneType")
 |bl (x:Bool):kR K H (.bl x) (.type "bool")
 |int (i:Int):kR K H (.int i) (.type "int")
 |str (x:Str):kR K H (.str x) (.type "str")
 |flt (x:UInt64):kR K H (.flt x) (.type "float")
 |lst {a:Ak}{xs:La V}(e:H a=Kg (.lst xs)):kR K H (.ref a) (.type "list")
 |frz {a:Ak}{o:Obj}{xs:La V}(e:H a=Kg (.frz o<|.lst xs)):kR K H (.ref a) (.type "list")
 |tup {a:Ak}{xs:La V}(e:H a=Kg (.tup xs)):kR K H (.ref a) (.type "tuple")
 |dK {a:Ak}{kvs:La (Key×V)}(e:H a=Kg (.dK kvs)):kR K H (.ref a) (.type "dict")
 |dT {a:Ak}{kvs:La (La Key×V)}(e:H a=Kg (.dT kvs)):kR K H (.ref a) (.type "dict")
 |ins {a C dx:Ak}{fs:La (Str×V)}(e:H a=Kg (.ins C dx fs))(cl:Cls K C)(ha:W.findIn K (.ref C) "__class__" = Kg (Kg<|.builtin "object.__class__"))
   (hn:W.specialIn K (.builtin "object.__class__") "__get__" = Kg (Kg<|.builtin "getset_descriptor.__get__")) (htk:W.takesIn K (.builtin "object.__class__")=Kg Ki)
   (hm:W.mroIn K C (.type "object")=Kg Ki):kR K H (.ref a) (.ref C)
theorem uT{x:V}{u t:zz}(I:Inv X Kl σ H s)(d:RelV x u)(ty:kR X.K H x t)(e:W.kitOne X.K t c=Kg b)(h:∀k,Q (.bool b) { s with toks:=k }) :
  DO (model X.prog X.w) A (call (.builtin "isinstance") [u,c]) Q E s:=by
 cases ty with
 |non=>cases (show u=zz.none from d);exact W.kia_one W.kitx_none I.kIn True.intro e (λz=>nomatch z) h
 |bl y=>cases (show u=zz.bool y from d);exact W.kia_one W.kitx_bool I.kIn True.intro e (λz=>nomatch z) h
 |int i=>obtain⟨t,q⟩:=(show ∃t,u=zz.int i t from d);cases q;exact W.kia_one W.kitx_int I.kIn True.intro e (λz=>nomatch z) h
 |str y=>obtain⟨t,q⟩:=(show ∃t,u=zz.str y t from d);cases q;exact W.kia_one W.kitx_str I.kIn True.intro e (λz=>nomatch z) h
 |flt y=>obtain⟨t,q⟩:=(show ∃t,u=zz.float y t from d);cases q;exact W.kia_one W.kitx_float I.kIn True.intro e (λz=>nomatch z) h
 | @lst a g ea =>
  cases (show u=zz.ref a from d);let(_,_,n,_,f):=(show bQ X.prog X.w H s.heap a (.lst g)from I.hok a _ ea);exact W.kia_one W.kitx_list I.kIn ⟨_,f,U⟩ e (λz=>nomatch z) h
 | @frz a ob g ea =>
  cases (show u=zz.ref a from d);let(_,_,_,n,_,f):=(show bQ X.prog X.w H s.heap a (.frz ob<|.lst g)from I.hok a _ ea);exact W.kia_one W.kitx_list I.kIn ⟨_,f,U⟩ e (λz=>nomatch z) h
 | @tup a g ea =>
  cases (show u=zz.ref a from d);let(_,_,_,p):=(show bQ X.prog X.w H s.heap a (.tup g)from I.hok a _ ea);let(o,f,j,_):=p;exact W.kia_one W.kitx_tuple I.kIn ⟨o,f,j⟩ e (λz=>nomatch z) h
 | @dK a kvs ea =>
  cases (show u=zz.ref a from d);let(_,_,r,_,p):=(show bQ X.prog X.w H s.heap a (.dK kvs)from I.hok a _ ea);let(o,l,m,f,j,_):=p;exact W.kia_one W.kitx_dict I.kIn ⟨o,f,j.1⟩ e (λz=>nomatch z) h
 | @dT a kvs ea =>
  cases (show u=zz.ref a from d);let(_,_,g,_,o,l,m,f,j,_):=(show bQ X.prog X.w H s.heap a (.dT kvs)from I.hok a _ ea);exact W.kia_one W.kitx_dict I.kIn ⟨o,f,j.1⟩ e (λz=>nomatch z) h
 | @ins a C dx fs ea cl ha hn htk hm =>
  cases (show u=zz.ref a from d);let(B,O,_):=lT I.hok ea;let(v,J,_):=O.look;calc W.kia_one (W.kitx_own (cl.get _) cl.hd ha hn htk hm) I.kIn J e (λz=>nomatch z) h
end
structure b8(k:Nat)(A:Cd):Prop where
 hd:A.handled=Kh
 dp:A.depth+3*k+5<Hr
 un:A.units+16*k+200<Ht
theorem b8.mono{j k:Nat}{A:Cd}(r:b8 k A)(h:j<=k):b8 j A:=⟨r.hd,by have:=r.dp;lia,by have:=r.un;lia⟩
theorem b8.deeper{k:Nat}{A:Cd}(r:b8 (k+1) A)(a:Env):b8 k (A.deeper a) :=
 ⟨r.hd,by have:=r.dp;show A.depth+1+3*k+5<_;lia,by have:=r.un;show A.units+3+16*k+200<_;lia⟩
theorem rT{A:Cd}{C:Ak}{us:La zz}{a:La (Str×zz)}:(A.under<|.builtin "type.__call__" ⟨.ref C :: us,a⟩).depth=A.depth+1:=by
 first|rfl|simp[Cd.under,Hu.weight,Hu.isCreation,Hu.isGuard,Hu.isCaller,Hu.frames,Hu.isFrame,guardIds]
theorem rV{A:Cd}{C:Ak}{us:La zz}{a:La (Str×zz)}:(A.under<|.builtin "type.__call__" ⟨.ref C :: us,a⟩).units=A.units+1:=by
 first|rfl|simp[Cd.under,Hu.cUnits,Hu.frames,Hu.isFrame]
theorem b8.make{k:Nat}{A:Cd}(r:b8 (k+1) A)(C:Ak)(us:La zz)(a:La (Str×zz)):b8 k (A.under<|.builtin "type.__call__" ⟨.ref C :: us,a⟩) :=
 ⟨r.hd,by have:=r.dp;rw[rT];lia,by have:=r.un;rw[rV];lia⟩
theorem b8.depth{k:Nat}{A:Cd}(r:b8 k A):A.depth<Hr:=by have:=r.dp;lia
theorem b8.units{k:Nat}{A:Cd}(r:b8 k A):A.units+64<Ht:=by have:=r.un;lia
theorem b8.units0{k:Nat}{A:Cd}(r:b8 k A):A.units<Ht:=by have:=r.un;lia
def Av:TA:=λ_ H Q=>Q [] H
def BZ(ta:TE)(b:TA):TA:=λσ H Q=>ta σ H λx d=>b σ d λa c=>Q (x :: a) c
variable{es:La D0}{t:TA}
def af:PA X [] Av:=λ_ _ _ _ H Q I h=>Calls.spliced_nil ⟨[],H,I,.nil,h⟩
theorem aa(k:PE X e te)(j:PA X es t)(i:E2 (e :: es) X.env=(Kj,eval e X.env) :: E2 es X.env:=by rfl):PA X (e :: es) (BZ te t):=by
 intro pos Kl s σ H Q I h;rw[i];show DO _ _ (spliced ((Kj,eval e X.env) :: E1 pos (E2 es X.env))) _ _ s;calc Calls.spliced_cons<|thn (k Kl s σ H _ I h) λu b ⟨x,o,m,d,g⟩=>?_;calc thn (j pos Kl b σ o _ m g) λp q ⟨a,n,l,c,f⟩=>⟨x :: a,n,l,.cons d c,f⟩
def DA(t:TA):TE:=λσ H Q=>t σ H λa b=>a.length<=AA/\∀p,b p=Kh->Q (.ref p) (upd b p<|.tup a)
def DB(t:TA):TE:=λσ H Q=>t σ H λa b=>a.length<=AA/\∀p,b p=Kh->Q (.ref p) (upd b p<|.lst a)
theorem bC{x1} (h:PA X es t):PE X (.Tuple es x1 pos) (DA t):=by
 intro Kl s σ H Q I i;refine wpAny_Tuple_spliced (thn (h pos Kl s σ H _ I i) λg a ⟨f,d,c,r,z,q⟩=>⟨by rw[←r.length];exact z,?_⟩);let j:d a.heap.objs.size=none:=c.hok.fresh<|tj _;calc⟨.ref a.heap.objs.size,upd d a.heap.objs.size<|.tup f,c.laid (t':=a.toks) (λb u e=>Az.get?_push_of_some _ e) (tj _) ?_,U,q _ j⟩;calc⟨z,g,r,⟨_,Az.get?_push_size _ U,U,_,U⟩⟩
theorem bh(h:PA X es t):PE X (.List es pos) (DB t):=by
 intro Kl s σ H Q I i;refine wpAny_List_spliced (thn (h pos Kl s σ H _ I i) λg a ⟨f,d,c,r,z,q⟩=>⟨by rw[←r.length];exact z,?_⟩);let j:d a.heap.objs.size=none:=c.hok.fresh<|tj _;calc⟨.ref a.heap.objs.size,upd d a.heap.objs.size<|.lst f,c.laid (t':=a.toks) (λb u e=>Az.get?_push_of_some _ e) (tj _) ?_,U,q _ j⟩;calc⟨z,g,0,r,Az.get?_push_size _ U⟩
abbrev Sp:=La V->Hp->VK->XK->Prop
abbrev CXT:=La Env->Hp->Cg->XK->zz->Cg->Prop
structure rW(P:zM)(w:zJ)(K:W.Frag)(mg:Str->Option zz)(base:Az)(A:Cd)(outer:La Env)(s:Cg)(H:Hp):Prop where
 frames:A.frames=Kg outer
 mod:Mod K mg base
 bs:∀b o,base.get? b=Kg o->s.heap.get? b=Kg o/\H b=Kh
 bsz:base.objs.size<=s.heap.objs.size
 funs:s.heap.FunFrames base outer
 frf:∀b∈frs outer,H b=Kh
 hok:HOk P w H s.heap
 bare:AllBare s.gens
def CE(a:La Env)(P:zM)(w:zJ)(H:Hp)(s:Cg)(Q:VK)(u:zz)(s':Cg):Prop :=
 ∃v H',s'.os=s.os/\AllBare s'.gens/\Un (frs a) [] H H' s.heap s'.heap/\HOk P w H' s'.heap/\RelV v u/\Q v H'
def CR(CX:CXT)(a:La Env)(P:zM)(w:zJ)(H:Hp)(s:Cg)(Q:VK)(E:XK)(r:Hm)(s':Cg):Prop :=
 match r with
 | .ok (.ret u)=>CE a P w H s Q u s'
 | .ok _=>False
 | .error e=>CX a H s E e s'
structure aN(P:zM)(w:zJ)(K:W.Frag)(mg:Str->Option zz)(base:Az)(CX:CXT)(k:Nat)(f:Ak)(fd:Hv)(ps:La Str)(sp:Sp):Prop where
 len:∀vs H Q E,sp vs H Q E->vs.length=ps.length
 run:∀(A:Cd)(outer:La Env)(s:Cg)(H:Hp)(args:Args)(us:La zz)(vs:La V)(Q:VK)(E:XK),b8 k A->rW P w K mg base A outer s H->Hw s fd args (ps.zip us)->Vals vs us->sp vs H Q E ->
  Hn (model P w) A (.call (.ref f) args) (CR CX outer P w H s Q E) s
theorem aN.mono{P:zM}{w:zJ}{K:W.Frag}{d:Str->Option zz}{a:Az}{CX:CXT}{j k:Nat}{f:Ak}{e:Hv}{ps:La Str}{sp:Sp}(F:aN P w K d a CX j f e ps sp)(h:j<=k) :
  aN P w K d a CX k f e ps sp:=⟨F.len,λA b s H c i g Q E l=>F.run A b s H c i g Q E<|l.mono h⟩
theorem rW.make{P:zM}{w:zJ}{K:W.Frag}{c:Str->Option zz}{b:Az}{A:Cd}{a:La Env}{s:Cg}{H:Hp}(e:rW P w K c b A a s H)(C:Ak)(us:La zz)(d:La (Str×zz)) :
  rW P w K c b (A.under<|.builtin "type.__call__" ⟨.ref C :: us,d⟩) a s H:=⟨by first|exact e.frames|(simpa[Cd.under,Hu.envs,Hu.isFrame,pushEnvs]using e.frames),e.mod,e.bs,e.bsz,e.funs,e.frf,e.hok,e.bare⟩
section
variable{s':Cg}
def Inv.env0(I:Inv X Kl σ H s):rW X.prog X.w X.K X.mg X.base X.A X.stack s H :=
 ⟨I.ok.frames,I.ok.mod,I.bs,tT I.ok.bsz I.sz,I.stack,I.stkFree,I.hok,I.bare⟩
theorem Inv.after{Q:VK}{u:zz}(I:Inv X Kl σ H s)(h:CE X.stack X.prog X.w H s Q u s'):EP X Kl σ Q u s':=by
 let(v,H',os,a,un,e,r,q):=h;let(f,g,d,t,c):=s';obtain rfl:c=s.os:=os;calc⟨v,H',I.call (h':=f) (g':=g) (d':=d) (t':=t) (ch:=[]) un e a<|λb z=>Kp z (by simp),r,q⟩
end
def B1(sp:Sp)(dvs:La V)(E:XK)(t:TA):TE:=λσ H Q=>t σ H λa b=>sp (a++dvs) b Q E
def zC(C:Ak)(sp:Sp)(dvs:La V)(E:XK)(t:TA):TE:=λσ H Q=>t σ H λb a=>∀x dx,a x=Kh->a dx=Kh->dx≠x ->
 sp (.ref x :: (b++dvs)) (upd (upd a dx<|.own x) x<|.ins C dx []) (λv c=>v=.non/\Q (.ref x) c) E
def Binds(K:W.Frag)(b:Hv)(ps:La Str)(ds:La zz):Prop :=
 ∀(s:Cg)(a:La zz),K.In s.heap->(a++ds).length=ps.length->Hw s b ⟨a,[]⟩ (ps.zip<|a++ds)
theorem Binds.all{K:W.Frag}{b:Hv}{ps:La Str}(h:∀us:La zz,us.length=ps.length->Hx b ⟨us,[]⟩=pure (ps.zip us)):Binds K b ps []:=λs us _ a=>by
 rw[jQ]at a⊢;calc .of_eq<|h us a
def Passes(CX:CXT)(X:Cx)(E:XK):Prop:=∀(Kl:La (Ak×Obj))(σ:St)(H:Hp)(s:Cg)(e:zz)(a:Cg),Inv X Kl σ H s->CX X.stack H s E e a->X.xe e a
variable{p:Pos}
section
variable{CX:CXT}{k:Nat}{fd:Hv}{ps:La Str}{sp:Sp}{dvs:La V}{ds:La zz}{E:XK}{x m:Str}{apos:Pos}
theorem wq{Kl:La (Ak×Obj)}{σ:St}{H:Hp}{s:Cg}{Q:VK}{us:La zz}{vs:La V}(F:aN X.prog X.w X.K X.mg X.base CX k f fd ps sp)(g:b8 k X.A)(l:Binds X.K fd ps ds)(j:Vals dvs ds)(d:Passes CX X E)
  (I:Inv X Kl σ H s)(r:Vals vs us)(h:sp (vs++dvs) H Q E):DO (model X.prog X.w) X.A (call (.ref f) us) (EP X Kl σ Q) X.xe s:=by
 let b:Vals (vs++dvs) (us++ds):=r.append j;let i:(us++ds).length=ps.length:=by rw[←b.length];exact F.len _ _ _ _ h
 calc Hy<|Hz (F.run X.A X.stack s H ⟨us,[]⟩ (us++ds) (vs++dvs) Q E g I.env0 (l s us I.kIn i) b h) λr c a=>?_;cases r with
 |error e=>exact d Kl σ H s e c I a
 |ok fl =>
  cases fl with
  |ret u=>exact I.after a
  |next=>exact False.elim a
  |brk=>exact False.elim a
  |cont=>calc False.elim a
theorem yn(F:aN X.prog X.w X.K X.mg X.base CX k f fd ps sp)(g:b8 k X.A)(l:Gl X x)(i:X.mg x=Kg (.ref f))(j:W.keepIn X.K (.ref f)=Ki)(n:Binds X.K fd ps ds)(m:Vals dvs ds)(d:Passes CX X E)
  (o:PA X (e :: es) t)(b:(x == ("__debug__" : Str))=false:=by decide) (he:E2 (e :: es) X.env=(Kj,eval e X.env) :: E2 es X.env:=by rfl)(a:(E1 pos<|E2 es X.env).any (·.1)=false:=by rfl) :
  PE X (.Call (.Name x p) (e :: es) [] pos) (B1 sp dvs E t):=by
 intro Kl s σ H Q I h;calc zt<|eY I l i ?_ b;calc W.callWith_K (h₀:=X.base) I.ok.mod.kin j (thn (o pos Kl s σ H _ I h) λv y ⟨u,z,c,r,q⟩=>⟨c.kIn,?_⟩) he a;calc wq F g n m d c r q
structure Mk(K:W.Frag)(C f:Ak):Prop where
 makes:W.makesIn K C=Ki
 init:W.findIn K (.ref C) "__init__" = Kg (Kg<|.ref f)
 fn:W.isFn K (.ref f)=Ki
 kp:W.keepIn K (.ref C)=Ki
theorem qo{Kl:La (Ak×Obj)}{σ:St}{H:Hp}{s:Cg}{Q:VK}{us:La zz}{vs:La V}(M:Mk X.K C f)(F:aN X.prog X.w X.K X.mg X.base CX k f fd ps sp)(m:b8 (k+1) X.A)(p:Binds X.K fd ps ds)(o:Vals dvs ds)
  (l:Passes CX X E)(I:Inv X Kl σ H s)(r:Vals vs us)
  (h:∀x dx,H x=Kh->H dx=Kh->dx≠x->sp (.ref x :: (vs++dvs)) (upd (upd H dx<|.own x) x<|.ins C dx []) (λv y=>v=.non/\Q (.ref x) y) E) :
  DO (model X.prog X.w) X.A (call (.ref C) us) (EP X Kl σ Q) X.xe s:=by
 let d:=h (s.heap.objs.size+1) s.heap.objs.size (I.hok.fresh<|uM _) (I.hok.fresh<|tj _)<|tN<|vr _;let b:=Inv.made (C:=C) I;let c:Vals (V.ref (s.heap.objs.size+1) :: (vs++dvs)) (zz.ref (s.heap.objs.size+1) :: (us++ds)):=.cons U<|r.append o;let n:(zz.ref (s.heap.objs.size+1) :: us++ds).length=ps.length:=by
  let e:=c.length;rw[F.len _ _ _ _ d]at e;exact e.symm
 refine Hy (wo (f:=f) I.kIn M.makes M.init (beq_iff_eq.mp M.fn) (Hz (F.run _ X.stack _ _ ⟨zz.ref (s.heap.objs.size+1) :: us,[]⟩ (zz.ref (s.heap.objs.size+1) :: (us++ds)) _ _ E (m.make C us [])
  (b.env0.make C us []) (p _ (zz.ref (s.heap.objs.size+1) :: us) b.kIn n) c d) λr g a=>?_))
 cases r with
 |error e=>exact l Kl σ _ _ e g b a
 |ok fl =>
  cases fl with
  |ret u =>
   let(v,H',t,i,q,j):=b.after a;subst q;exact⟨i,⟨V.ref<|s.heap.objs.size+1,H',t,U,j⟩⟩
  |next=>exact False.elim a
  |brk=>exact False.elim a
  |cont=>calc False.elim a
theorem yo(M:Mk X.K C f)(F:aN X.prog X.w X.K X.mg X.base CX k f fd ps sp)(g:b8 (k+1) X.A)(j:Gl X x)(i:X.mg x=Kg (.ref C))(m:Binds X.K fd ps ds)(l:Vals dvs ds)(d:Passes CX X E)
  (n:PA X (e :: es) t)(b:(x == ("__debug__" : Str))=false:=by decide) (he:E2 (e :: es) X.env=(Kj,eval e X.env) :: E2 es X.env:=by rfl)(a:(E1 pos<|E2 es X.env).any (·.1)=false:=by rfl) :
  PE X (.Call (.Name x p) (e :: es) [] pos) (zC C sp dvs E t):=by
 intro Kl s σ H Q I h;calc zt<|eY I j i ?_ b;calc W.callWith_K (h₀:=X.base) I.ok.mod.kin M.kp (thn (n pos Kl s σ H _ I h) λu v ⟨o,y,c,r,q⟩=>⟨c.kIn,?_⟩) he a;calc qo M F g m l d c r q
theorem wt(M:Mk X.K C f)(F:aN X.prog X.w X.K X.mg X.base CX k f fd ps sp)(c:b8 (k+1) X.A)(e:Gl X x)(d:X.mg x=Kg (.ref C))(i:Binds X.K fd ps ds)(g:Vals dvs ds)(b:Passes CX X E)
  (a:(x == ("__debug__" : Str))=false:=by decide):PE X (.Call (.Name x p) [] [] pos) (zC C sp dvs E Av):=by
 intro Kl s σ H Q I h;calc zt<|eY I e d ?_ a;calc W.callWith_K0 I.kIn M.kp<|qo (us:=[]) M F c i g b I .nil h
end
section
variable{CX:CXT}{k:Nat}{fd:Hv}{ps ks:La Str}{sp:Sp}{E:XK}{x m:Str}{apos DC:Pos}{kws:La HA}{tk:TA}{nm:Option Str}
structure DD(K:W.Frag)(fd:Hv)(ps ks:La Str)(g:La zz->La zz->La zz)(gV:La V->La V->La V):Prop where
 to:∀(s:Cg)(us ws:La zz),K.In s.heap->(g us ws).length=ps.length->Hw s fd ⟨us,ks.zip ws⟩ (ps.zip<|g us ws)
 rel:∀{vs:La V}{us:La zz}{zs:La V}{ws:La zz},Vals vs us->Vals zs ws->Vals (gV vs zs) (g us ws)
variable{g:La zz->La zz->La zz}{gV:La V->La V->La V}
end
structure au(N P:La Str)(sc:Cr):Prop where
 kind:sc.kind=.function
 co:sc.isCoroutine=Kj
 gen:sc.isGenerator=Kj
 nd:N.Nodup
 pre:N.take P.length=P
 par:∀x∈P,sc.names.lookup x=Kg .local\/sc.names.lookup x=Kg .cell
 nofree:∀y∈sc.names,y.2≠.free
theorem nX{a:Str->Option HB}{x:Str}:∀{binds:La (Str×zz)}{m:Str->Option zz},(∀v,(x,v) ∉ binds)->HC a binds m x=m x
 | [],_,_=>rfl
 |(n,v) :: r,m,h=>by
  unfold HC;rw[nX λw b=>h w (dV _ b)];split
  .let:x≠n:=by rintro rfl;exact h v dO
   simp[this]
  .rfl
theorem nZ{a:Str->Option HB}{x:Str}:∀{binds:La (Str×zz)}{m:Str->Option zz},(∀v,(x,v) ∉ binds)->HD a binds m x=m x
 | [],_,_=>rfl
 |(n,v) :: r,m,h=>by
  unfold HD;rw[nZ λw b=>h w (dV _ b)];split
  .rfl
  .let:x≠n:=by rintro rfl;exact h v dO
   simp[this]
theorem n5{a:Str->Option HB}{x:Str}{v:zz}:∀{P:La Str}{vs:La zz}{i:Nat}{m:Str->Option zz},P.Nodup->P[i]?=Kg x->vs[i]?=Kg v->a x=Kg .local ->
  HC a (P.zip vs) m x=Kg v
 | [],_,_,_,_,h,_,_=>by simp at h
 |_ :: _,[],_,_,_,_,h,_=>by simp at h
 |p :: P,w :: vs,0,m,nd,h1,h2,hk=>by
  simp at h1 h2;subst h1;subst h2;show HC a ((p,w) :: P.zip vs) m p=_;unfold HC;rw[nX λv b=>(ja.mp nd).1 (sr b).1,Ko hk];simp
 |p :: P,w :: vs,i+1,m,nd,h1,h2,hk=>by
  show HC a ((p,w) :: P.zip vs) m x=_;unfold HC;calc n5 (i:=i) (ja.mp nd).2 (~~~h1) (~~~h2) hk
theorem n8{a:Str->Option HB}{x:Str}{v:zz}:∀{P:La Str}{vs:La zz}{i:Nat}{m:Str->Option zz},P.Nodup->P[i]?=Kg x->vs[i]?=Kg v->a x≠Kg .local ->
  HD a (P.zip vs) m x=Kg v
 | [],_,_,_,_,h,_,_=>by simp at h
 |_ :: _,[],_,_,_,_,h,_=>by simp at h
 |p :: P,w :: vs,0,m,nd,h1,h2,hk=>by
  simp at h1 h2;subst h1;subst h2;show HD a ((p,w) :: P.zip vs) m p=_;unfold HD;rw[nZ λv b=>(ja.mp nd).1 (sr b).1,Kn hk];simp
 |p :: P,w :: vs,i+1,m,nd,h1,h2,hk=>by
  show HD a ((p,w) :: P.zip vs) m x=_;unfold HD;calc n8 (i:=i) (ja.mp nd).2 (~~~h1) (~~~h2) hk
def start(N:La Str)(vs:La V):St:=vs.map Kg++List.replicate (N.length-vs.length) Kh
def jD(CX:CXT)(P:zM)(w:zJ)(K:W.Frag)(mg:Str->Option zz)(base:Az)(N:La Str)(a:Str)(scope:Cr)(f:Ak)(c:zz)(A:Cd)(outer:La Env)(s:Cg)(H:Hp)(E:XK):Cx where
 prog:=P
 w:=w
 K:=K
 mg:=mg
 base:=base
 A:=A.deeper (envOfC a scope s.heap.objs.size f c)
 N:=N
 s₀:=s
 H₀:=H
 env:=envOfC a scope s.heap.objs.size f c
 outer:=outer
 stack:=envOfC a scope s.heap.objs.size f c :: outer
 ex:=[]
 calm:=Ki
 fn:=λ_=>Ki
 pn:=[]
 xe:=λe d=>DO (model P w) (A.deeper<|envOfC a scope s.heap.objs.size f c) (leaving (envOfC a scope s.heap.objs.size f c) e) (λ_ b=>CX outer H s E e b) (λg b=>CX outer H s E g b) d
theorem qp{a:Cr}{n:Nat}{x:Str}(h:a.names.lookup x=Kg .cell):∃c,(HE n a.names []).lookup x=Kg c:=by
 let q:=W.cellsFrom_some a.names n [] (.inl h);calc yM.mp q
theorem uU{CX:CXT}{P:zM}{w:zJ}{K:W.Frag}{G:Str->Option zz}{l:Az}{N ps:La Str}{g:Str}{scope:Cr}{f:Ak}{F:zz}{A:Cd}{d:La Env}{s I:Cg}{H:Hp}{E:XK}{us:La zz}{vs:La V}
  (S:au N ps scope)(O:A.handled=Kh)(m:rW P w K G l A d s H)(X:vs.length=ps.length)(r:Vals vs us)
  (x:InCallC s s.heap.objs.size (HC (envOfC g scope s.heap.objs.size f F).kindOf (ps.zip us) λ_=>Kh) (HE (s.heap.objs.size+1) scope.names []) (HD (envOfC g scope s.heap.objs.size f F).kindOf (ps.zip us) λ_=>Kh) I) :
  Inv (jD CX P w K G l N g scope f F A d s H E) [] (start N vs) H I:=by
 let R:ps.length<=N.length:=by have:=Kt List.length S.pre;rw[eV]at this;lia
 let(D,T,rfl,L):=x.done;let t:∀b:Ak,b ∉ (jD CX P w K G l N g scope f F A d s H E).ex:=λb z=>Kp (show b∈([]:La Ak)from z) (by simp)
 refine⟨⟨m.mod,S.kind,U,U,tj _,λy z c D j=>?_,λy o=>?_,λy c _ h=>?_,λ_=>O,Cd.frames_deeper m.frames,.inr ⟨U,U⟩,λb z=>Kp z<|t b,m.bs,m.bsz,λb _ _=>t b,λb z=>Kp z<|t b,m.funs,m.frf⟩,
  rfl,m.bare,Un.kept L,⟨_,x.toInCall.ns,λi y v D j Y=>?_⟩,λy c h=>⟨_,x.cell y c h⟩,m.hok.fresh<|tj _,λy c h=>?_,λp B=>Kp (show p∈([]:La (Ak×Obj))from B) (by simp),m.hok.kept L,?_⟩
 .exact name_of_addr x.apart (mem_of_lookup D)<|mem_of_lookup j
 .let o:scope.names.lookup y=Kg .cell\/scope.names.lookup y=Kg .free:=o;rcases o with o|o
  .exact qp o
  .exact Kp U<|S.nofree _<|mem_of_lookup o
 .exact uK<|x.above y c<|mem_of_lookup h
 .let hi:i<vs.length:=by
   unfold start at j;by_cases hi:i<vs.length
   .exact hi
   .rw[iJ (~~~hi)]at j;rw[List.getElem?_replicate]at j;split at j <;> cases j
  let Q:vs[i]?=Kg v:=by
   unfold start at j;rw[hY (~~~hi),dy]at j;cases e:vs[i]? with
   |none=>rw[e]at j;cases j
   |some a=>rw[e]at j;cases j;rfl
  let(u,J,M):=r.get Q;let B:ps[i]?=Kg y:=by
   rw[←S.pre,List.getElem?_take_of_lt ∅];exact D
  let C:ps.Nodup:=by rw[←S.pre];exact S.nd.sublist<|ly _ _
  calc⟨u,M,?_⟩;rcases S.par y (GG B)with k|k
  .exact .inl ⟨k,n5 C B J k⟩
  .let(c,e):=qp (n:=s.heap.objs.size+1) k;calc .inr ⟨.inl k,c,e,?_⟩;let q:=x.cell y c e;rw[n8 C B J (by show scope.names.lookup y≠_;rw[k];decide)]at q;exact q
 .exact m.hok.fresh<|uK<|x.above y c<|mem_of_lookup h
 .unfold start;show _=N.length;rw[gp,dn,jb];lia
theorem zD{CX:CXT}{P:zM}{w:zJ}{K:W.Frag}{m:Str->Option zz}{base:Az}{k:Nat}{f:Ak}{name c:Str}{params:Arguments}{body:La F3}{scope:Cr}{M kV l L d O oc:zz}{R Z:Option Ak}
  {C:Array (Option zz)}{N ps:La Str}{sp:Sp}(lk:K.lookup f=Kg ⟨oc,Z,.func<|W.fnOf name c params body scope M kV l L R d O,C⟩)(F:W.codeIn K d c=Ki)(S:au N ps scope)
  (len:∀vs H Q E,sp vs H Q E->vs.length=ps.length)
  (kl:∀(A:Cd)(a:La Env)(s:Cg)(H:Hp)(vs:La V)(Q:VK)(E:XK),b8 k (A.deeper<|envOfC c scope s.heap.objs.size f d)->sp vs H Q E ->
   ∃t,PSs (jD CX P w K m base N c scope f d A a s H E) body t/\t { nx:=λ_ H'=>Q .non H',rt:=Q } (start N vs) H) :
  aN P w K m base CX (k+1) f (W.fnOf name c params body scope M kV l L R d O) ps sp:=by
 calc⟨len,λA a s H X Y vs Q E B i hb r j=>?_⟩;let hl:=len _ _ _ _ j;let T:K.In s.heap:=i.mod.kin.keeps λb o e=>(i.bs b o e).1
 let D:s.heap.NoLimit:=i.mod.nolimit.keeps λb o e=>(i.bs b o e).1
 let B2:∀y∈ps.zip Y,scope.names.lookup y.1=Kg .local\/(scope.names.lookup y.1=Kg .cell/\((HE (s.heap.objs.size+1) scope.names []).lookup y.1).isSome=Ki):=λ⟨n,v⟩ hy=>by
  rcases S.par n (sr hy).1 with q|q
  .exact .inl q
  .exact .inr ⟨q,W.cellsFrom_some _ _ _<|.inl q⟩
 calc codeAny_call_function B.depth (T _ _ lk) U S.co S.gen U (W.codeRec_of T F)<|hb _ _ _ _ ?_;refine wpAny_newFunctionEnv_cells S.kind B2 λa0 he G x=>?_
 subst he;calc⟨D.keeps x.toInCall.keep,codeAny_func ?_⟩;let(t,ht,hq):=kl A a s H vs Q E (B.deeper _) j;let I:Inv (jD CX P w K m base N c scope f d A a s H E) [] (start N vs) H G:=uU S B.hd i hl r x;refine F9 (ht [] G (start N vs) H _ I hq) (λfl p h=>?_) λe p h=>h
 let fin:∀{g:St}{H':Hp}{v:V}{u:zz},Inv (jD CX P w K m base N c scope f d A a s H E) [] g H' p->RelV v u->Q v H'->CE a P w H s Q u p :=
  λ{g H' v u} J z q=>⟨v,H',J.os,J.bare,J.base,J.hok,z,q⟩
 cases fl with
 |ret u =>
  let(v,g,H',J,z,q):=h;exact fin J z q
 |next =>
  let(g,H',J,q):=h;exact fin (v:=V.non) (u:=zz.none) J U q
 |brk =>
  let(_,_,_,q):=h;exact False.elim q
 |cont =>
  let(_,_,_,q):=h;calc False.elim q
section
variable{x:Str}{id T:String}{r:La V->Hp->VK->Prop}
def tCB(r:La V->Hp->VK->Prop)(t:TA):TE:=λσ H Q=>t σ H λa b=>r a b Q
theorem aw(n:cw X (.builtin id) r)(m:Gl X x)(l:X.mg x=Kh)(j:Cc x=Kg (.builtin id))(o:PA X (e :: es) t)(k:x ≠ "__name__" := by decide) (b:(x == ("__debug__" : Str))=false:=by decide)
  (he:E2 (e :: es) X.env=(Kj,eval e X.env) :: E2 es X.env:=by rfl)(a:(E1 pos<|E2 es X.env).any (·.1)=false:=by rfl):PE X (.Call (.Name x p) (e :: es) [] pos) (tCB r t):=by
 intro Kl s σ H Q I h;calc zt<|fg I m l j ?_ k b;calc PyProof.Rows.callWith_builtin1 (thn (o pos Kl s σ H _ I h) λd f ⟨c,u,q,g,i⟩=>n Kl f σ u c d Q q g i) he a
theorem bH(n:cw X (.type T) r)(m:Gl X x)(l:X.mg x=Kh)(j:Cc x=Kg (.type T))(o:PA X (e :: es) t)(k:x ≠ "__name__" := by decide) (b:(x == ("__debug__" : Str))=false:=by decide)
  (he:E2 (e :: es) X.env=(Kj,eval e X.env) :: E2 es X.env:=by rfl)(a:(E1 pos<|E2 es X.env).any (·.1)=false:=by rfl):PE X (.Call (.Name x p) (e :: es) [] pos) (tCB r t):=by
 intro Kl s σ H Q I h;calc zt<|fg I m l j ?_ k b;calc PyProof.Rows.callWith_type1 (thn (o pos Kl s σ H _ I h) λd f ⟨c,u,q,g,i⟩=>n Kl f σ u c d Q q g i) he a
end
end L2
namespace HT
open PySem PyProof.Rows
section
open PySem.SeqAt
open PySem.AutoSeq1 (wpAny_loadPart')
open PySem.MeetsSeq PySem.MeetsSeq2 PySem.MeetsSeq3
end
section
variable{prog:zM}{w:zJ}{A:Cd}{E:zz->Cg->Prop}{s:Cg}
end
end HT
namespace L2
open PySem PySem.Spec PyProof.Rows
abbrev TO:=St->Hp->(Option Int->Hp->Prop)->Prop
variable{X:Cx}
section
variable{e:D0}{te:TE}{lo hi:Option D0}{tl th:TO}{pos p2:Pos}
end
def ixN(n:Nat)(i:Int):Option Nat:=if 0<=i then(if i<n then Kg i.toNat else Kh)else if -(n:Int)<=i then Kg (i+n).toNat else Kh
def atI{a:Type}(xs:La a)(i:Int):Option a:=(ixN xs.length i).bind λj=>xs[j]?
theorem t6{n:Nat}{i:Int}{j:Nat}(h:ixN n i=Kg j):seqIndex? i n=Kg j/\j<n/\-(n:Int)<=i/\i<n:=by
 unfold ixN at h;by_cases b:0<=i
 .rw[Ko b]at h;by_cases a:i<n
  .rw[Ko a]at h;let e:i.toNat=j:=Option.some.inj h;exact⟨by rw[HF b a,e],∅,∅,a⟩
  .rw[Kn a]at h;cases h
 .rw[Kn b]at h;by_cases a : -(n:Int)<=i
  .rw[Ko a]at h;let e:(i+n).toNat=j:=Option.some.inj h;exact⟨by rw[seqIndex_neg ∅ a,e],∅,a,∅⟩
  .rw[Kn a]at h;cases h
theorem o8{a:Type}{xs:La a}{i:Int}{v:a}(h:atI xs i=Kg v):∃j,seqIndex? i xs.length=Kg j/\xs[j]?=Kg v/\j<xs.length/\-(xs.length:Int)<=i/\i<xs.length:=by
 unfold atI at h;cases e:ixN xs.length i with
 |none=>rw[e]at h;cases h
 |some j =>
  rw[e]at h;let(f,d,c,b):=t6 e;calc⟨j,f,h,d,c,b⟩
theorem aK{a:Type}{xs:La a}{j:Nat}{v:a}(h:xs[j]?=Kg v):atI xs (j:Int)=Kg v:=by
 let b:j<xs.length:=(GD.mp h).1;let e:ixN xs.length (j:Int)=Kg j:=by
  unfold ixN;rw[Ko ∅,Ko ∅];simp
 unfold atI;rw[e];calc h
theorem wu{a:Type}(xs:La a)(v:a):atI (xs++[v]) (-1)=Kg v:=by
 let b:(xs++[v]).length=xs.length+1:=by simp
 let e:ixN (xs++[v]).length (-1)=Kg xs.length:=by
  unfold ixN;rw[b,Kn ⋯,Ko ∅]
  congr 1
  lia
 unfold atI;rw[e];show(xs++[v])[xs.length]?=Kg v;simp
def yp(b:D0):Prop:=∀o i,subscripted b Kj o i=operate [o,i] (getItem o i)
def IxR(X:Cx)(r:R2):Prop :=
 ∀(value a:D0)(b:La (Ak×Obj))(s:Cg)(c:St)(H:Hp)(x y:V)(v u:zz)(Q:VK),Inv X b c H s->RelV x v->RelV y u->r x y H Q ->
  subscripted a Kj v u=operate [v,u] (getItem v u)->DO (model X.prog X.w) X.A (subscriptTail value a v u) (EP X b c Q) X.xe s
def MtR(X:Cx)(e:String)(r:V->La V->Hp->VK->Prop):Prop :=
 ∀(a:La (Ak×Obj))(s:Cg)(b:St)(H:Hp)(x:V)(c:La V)(v:zz)(d:La zz)(Q:VK),Inv X a b H s->RelV x v->Vals c d->r x c H Q ->
  DO (model X.prog X.w) X.A (call (.builtin e) (v :: d)) (EP X a b Q) X.xe s
section
variable{a b:D0}{ta tb:TE}{pos:Pos}
theorem aF{r:R2}(j:IxR X r)(l:PE X a ta)(k:PE X b tb)(i:yp b):PE X (.Subscript a b pos) (tOp r ta tb):=by
 intro c s d H Q I h;calc Subscript_<|Al l k I h λv u e x y n m g f q=>j a b c e d n x y v u Q m g f q<|i _ _
inductive Aw(K:W.Frag)(x:V)(y:V)(H:Hp)(Q:VK):Prop
 |mk (p xs i v:_)(_:x=.ref p)(_:y=.int i)(_:SqL K H p xs)(_:atI xs i=Kg v)(_:Q v H)
inductive Ax(K:W.Frag)(x:V)(y:V)(H:Hp)(Q:VK):Prop
 |mk (p xs i v:_)(_:x=.ref p)(_:y=.int i)(_:SqT K H p xs)(_:atI xs i=Kg v)(_:Q v H)
inductive B3  (x:V)(y:V)(H:Hp)(Q:VK):Prop
 |mk (z i c:_)(_:x=.str z)(_:y=.int i)(_:z.length<=AA)(_:atI z.cps.toList i=Kg c)(_:Q (.str ⟨#[c]⟩) H):B3 x y H Q
theorem aH:IxR X (Aw X.K):=by
 intro value g a s k H x y v u Q I B A h l;let(p,L,i,z,rfl,rfl,C,E,q):=h;cases B;let(t,rfl):=A;let(f,r,c,M):=I.list C;let(j,b,J,O,G,F):=o8 E;let(w,n,e):=r.get J;let D:=r.length;let N:=jB;let fin:EP X a k Q w s:=⟨z,H,I,e,q⟩;by_cases m:0<=i
 .let d:i.toNat=j:=by
   rw[HF m F]at b;exact Option.some.inj b
  exact item_listR c.isList m ∅ (by rw[d];simpa using n) fin l
 .let d:(i+(f.toArray.size:Int)).toNat=j:=by
   rw[seqIndex_neg ∅ G]at b;rw[dA,←D];exact Option.some.inj b
  exact subscriptTail_builtinR (x:=w) c.isList.typeIs slot_list_getitem.lookup
   (wpAny_getItem_list_neg (Q:=λr o=>r=w/\EP X a k Q r o) c.isList ∅ (by rw[dA] <;> lia) ∅ (by rw[d];simpa using n) ⟨U,fin⟩) l
theorem bc:IxR X (Ax X.K):=by
 intro value c a s d H x y v u Q I k g h l;let(p,E,i,z,rfl,rfl,m,o,q):=h;cases k;let(t,rfl):=g;let(D,r,e,F):=I.tuple m;let(j,B,A,M,L,J):=o8 o;let(w,C,b):=r.get A;let n:=r.length;let G:=jB;let fin:EP X a d Q w s:=⟨z,H,I,b,q⟩
 exact subscriptTail_builtinR (x:=w) e.typeIs slot_tuple_getitem.lookup
  (getItem_tuple (j:=j) (Q:=λr f=>r=w/\EP X a d Q r f) e ∅ ∅ (by rw[dA,←n];exact B) (~~~C) ⟨U,fin⟩) l
theorem rX:IxR X B3:=by
 intro value a d s w H x y v u Q I f e h g;let(z,i,c,rfl,rfl,B,l,q):=h;let(t,rfl):=f;let(A,rfl):=e;let(j,b,o,D,n,m):=o8 l;let k:z.cps.toList.length=z.length:=by simp[Str.length]
 rw[k]at b n m;let C:=jB;exact tail_any (typeIs_str s z t) slot_str_getitem.lookup (getItem_str (c:=c) (by
  let r:decide (i < -(2^63:Int))=false:=Kr ∅;let p:decide (i ≥ 2^63)=false:=Kr ∅;rw[r,p,Bool.or_false]) (by rw[b];simpa using o) ⟨.str ⟨#[c]⟩,H,I.tok _,⟨_,U⟩,q⟩) g
theorem rY(a:La zz)(n j:Nat)(u:zz):Obj.mapSeq (·.setIfInBounds j u) { cls:=.type "list",data:=.seq a.toArray n }={ cls:=.type "list",data:=.seq (a.set j u).toArray n }:=by
 simp[Obj.mapSeq]
theorem Inv.lst{b:La (Ak×Obj)}{c:St}{H:Hp}{s:Cg}{p:Ak}{xs:La V}(I:Inv X b c H s)(h:H p=Kg (.lst xs)) :
  ∃(a:La zz)(n:Nat),Vals xs a/\s.heap.get? p=Kg { cls:=.type "list",data:=.seq a.toArray n }/\xs.length<=AA:=by
 let(z,a,n,r,e):=I.hok p _ h;calc⟨a,n,r,e,z⟩
theorem Inv.lstUpd{a:La (Ak×Obj)}{g:St}{H:Hp}{s:Cg}{p:Ak}{xs ys:La V}{c its':La zz}{n d:Nat}{f:Obj->Obj}(I:Inv X a g H s)(h:H p=Kg (.lst xs))
  (j:s.heap.get? p=Kg { cls:=.type "list",data:=.seq c.toArray n }) (hf:f { cls:=.type "list",data:=.seq c.toArray n }={ cls:=.type "list",data:=.seq its'.toArray d }) (r:Vals ys its')(i:ys.length<=AA)(t:Nat) :
  Inv X a g (upd H p<|.lst ys) { s with heap:=s.heap.update p f,toks:=t }:=by
 let e:(s.heap.update p f).get? p=Kg { cls:=.type "list",data:=.seq its'.toArray d }:=by
  rw[Az.get?_update_self f j (by rw[hf] <;> rfl),hf]
 refine I.write (x:=p) (e:=p) (by rw[h];trivial) (.inl U) (λb u k q=>(Az.get?_update_other _ _<|Ne.symm k).trans q) ⟨_,e⟩ ?_;calc⟨i,its',d,r,e⟩
inductive zE  (o:V)(i:V)(v:V)(H:Hp)(Q:(Hp->Prop)):Prop
 |mk (p xs k j:_)(_:o=.ref p)(_:i=.int k)(_:H p=Kg (.lst xs))(_:ixN xs.length k=Kg j)(_:Q (upd H p<|.lst<|xs.set j v)):zE o i v H Q
theorem set_list:BM X zE:=by
 intro b s y H o i v F G u Q I B C A h;let(p,z,k,j,rfl,rfl,g,E,q):=h;cases B;let(t,rfl):=C;let(a,n,r,d,D):=I.lst g;let(c,K,m,l):=t6 E;let e:=r.length;let J:=jB;let x:Inv X b y (upd H p<|.lst<|z.set j v) { s with heap:=s.heap.update p (Obj.mapSeq (·.setIfInBounds j u)) } :=
  I.lstUpd g d (rY a n j u) (r.set A j) (by rw[sv];exact D) s.toks
 by_cases w:0<=k
 .let f:k.toNat=j:=by
   rw[HF w l]at c;exact Option.some.inj c
  exact W.ki_setAt d w ∅ (by rw[dA,←e];exact l) (by rw[f];exact⟨_,x,q⟩)
 .let f:(k+(a.toArray.size:Int)).toNat=j:=by
   rw[seqIndex_neg ∅ m]at c;rw[dA,←e];exact Option.some.inj c
  calc W.ki_setBack d ∅ (by rw[dA,←e];exact m) ∅ (by rw[f];exact⟨_,x,q⟩)
def bM:V->Bool
 | .non=>Ki
 | .bl _=>Ki
 | .int _=>Ki
 | .str _=>Ki
 |_=>Kj
def eqV:V->V->Bool
 | .non,.non=>Ki
 | .bl a,.bl b=>a == b
 | .bl a,.int b=>(if a then 1 else 0) == b
 | .int a,.bl b=>a == (if b then 1 else 0)
 | .int a,.int b=>a == b
 | .str a,.str b=>a == b
 |_,_=>Kj
theorem mi{A:Cd}{s:Cg}{y x:V}{u v:zz}(e:RelV y u)(c:RelV x v)(g:bM y=Ki)(f:bM x=Ki):SeqAt.EqAt A s u v (eqV y x):=by
 cases y with
 |non =>
  cases e;cases x with
  |non=>cases c;exact SeqAt.EqAt.same _
  |bl b=>cases c;exact SeqAt.EqAt.none_bool b
  |int b=>obtain⟨t,rfl⟩:=c;exact SeqAt.EqAt.none_int b t
  |str b=>obtain⟨t,rfl⟩:=c;exact SeqAt.EqAt.none_str b t
  |_=>exact Kp (show Kj=Ki from f) Bool.false_ne_true
 |bl a =>
  cases e;cases x with
  |non=>cases c;exact SeqAt.EqAt.bool_none a
  |bl b=>cases c;exact SeqAt.EqAt.bool_bool a b
  |int b=>obtain⟨t,rfl⟩:=c;exact SeqAt.EqAt.bool_int a b t
  |str b=>obtain⟨t,rfl⟩:=c;exact SeqAt.EqAt.bool_str a b t
  |_=>exact Kp (show Kj=Ki from f) Bool.false_ne_true
 |int a =>
  let(d,rfl):=e;cases x with
  |non=>cases c;exact SeqAt.EqAt.int_none a d
  |bl b=>cases c;exact SeqAt.EqAt.int_bool a d b
  |int b=>obtain⟨t,rfl⟩:=c;exact SeqAt.EqAt.int_int a d b t
  |str b=>obtain⟨t,rfl⟩:=c;exact SeqAt.EqAt.int_str a d b t
  |_=>exact Kp (show Kj=Ki from f) Bool.false_ne_true
 |str a =>
  let(d,rfl):=e;cases x with
  |non=>cases c;exact SeqAt.EqAt.str_none a d
  |bl b=>cases c;exact SeqAt.EqAt.str_bool a d b
  |int b=>obtain⟨t,rfl⟩:=c;exact SeqAt.EqAt.str_int a d b t
  |str b=>obtain⟨t,rfl⟩:=c;exact SeqAt.EqAt.str_str a d b t
  |_=>exact Kp (show Kj=Ki from f) Bool.false_ne_true
 |_=>calc Kp (show Kj=Ki from g) Bool.false_ne_true
def eqU(x:V)(u:zz):Bool:=match u with
 | .none=>eqV .non x
 | .bool b=>eqV (.bl b) x
 | .int i _=>eqV (.int i) x
 | .str z _=>eqV (.str z) x
 |_=>Kj
theorem rZ{x y:V}{u:zz}(r:RelV y u)(f:bM y=Ki):eqU x u=eqV y x:=by
 cases y with
 |non=>cases r;rfl
 |bl b=>cases r;rfl
 |int i=>obtain⟨t,rfl⟩:=r;rfl
 |str z=>obtain⟨t,rfl⟩:=r;rfl
 |_=>calc Kp (show Kj=Ki from f) Bool.false_ne_true
theorem km{x:V}:∀{xs:La V}{us:La zz},Vals xs us->xs.all bM=Ki->us.any (eqU x)=xs.any λy=>eqV y x
 |_,_,.nil,_=>rfl
 |y :: xs,u :: us,.cons r t,f=>by
  rw[ni,yq]at f;rw[nj,nj,rZ r f.1,km t f.2]
theorem gc{A:Cd}{s:Cg}{x:V}{v:zz}(b:RelV x v)(c:bM x=Ki):∀{xs:La V}{us:La zz},Vals xs us->xs.all bM=Ki->∀u∈us,SeqAt.EqAt A s u v (eqU x u)
 |_,_,.nil,_=>λu a=>by cases a
 |y :: xs,u :: us,.cons r t,f=>λd a=>by
  rw[ni,yq]at f;rcases dt.mp a with rfl|a
  .rw[rZ r f.1];exact mi r b f.1 c
  .exact gc b c t f.2 d a
def inV(x:V)(xs:La V):Bool:=xs.any λy=>eqV y x
inductive rIn(K:W.Frag)(neg:Bool)(x:V)(y:V)(H:Hp)(Q:VK):Prop
 |mk (p xs:_)(_:y=.ref p)(_:(SqL K H p xs\/SqT K H p xs))(_:bM x=Ki)(_:xs.all bM=Ki)(_:Q (.bl (if neg then !inV x xs else inV x xs)) H)
theorem og:OpR X (G4 .In) (rIn X.K Kj):=by
 intro g s k H x y v u Q I e i h;let(p,l,rfl,b,f,fs,q):=h;cases i;rcases b with b|b
 .let(a,r,c,j):=I.list b;calc SeqAt.in_listAt (eqU x) c.isList (λw d=>gc e f r fs w<|~~~d) ⟨.bl _,H,I,U,?_⟩;rw[show a.toArray.any (eqU x)=a.any (eqU x) by simp,km r fs];exact q
 .let(a,r,c,j):=I.tuple b;calc SeqAt.in_tupleAt (eqU x) c (λw d=>gc e f r fs w<|~~~d) ⟨.bl _,H,I,U,?_⟩;rw[show a.toArray.any (eqU x)=a.any (eqU x) by simp,km r fs];calc q
theorem gC:OpR X (G4 .NotIn) (rIn X.K Ki):=by
 intro g s k H x y v u Q I e i h;let(p,l,rfl,b,f,fs,q):=h;cases i;rcases b with b|b
 .let(a,r,c,j):=I.list b;calc SeqAt.notIn_listAt (eqU x) c.isList (λw d=>gc e f r fs w<|~~~d) ⟨.bl _,H,I,U,?_⟩;rw[show a.toArray.any (eqU x)=a.any (eqU x) by simp,km r fs];exact q
 .let(a,r,c,j):=I.tuple b;calc SeqAt.notIn_tupleAt (eqU x) c (λw d=>gc e f r fs w<|~~~d) ⟨.bl _,H,I,U,?_⟩;rw[show a.toArray.any (eqU x)=a.any (eqU x) by simp,km r fs];calc q
theorem av:cw X (.builtin "len") (λxs H Q=>∃p ys,xs=[.ref p]/\(SqL X.K H p ys\/SqT X.K H p ys)/\Q (.int ys.length) H):=by
 intro f s j H xs k Q I r h;let(p,ys,rfl,b,q):=h;let(u,rfl,g):=vals1 r;cases g;let l:=jB;rcases b with b|b
 .let(e,c,d,i):=I.list b;let a:=c.length;exact Calls.call_len_list d.isList (by simp only[dA] <;> lia) ⟨.int ys.length,H,I.tok _,⟨s.toks+1,by rw[dA,a]⟩,q⟩
 .let(e,c,d,i):=I.tuple b;let a:=c.length;exact len_tuple d (by simp only[dA] <;> lia) ⟨.int ys.length,H,I.tok _,⟨s.toks+1,by rw[dA,a]⟩,q⟩
theorem o9:cw X (.builtin "len") (λxs H Q=>∃z,xs=[.str z]/\z.length<=AA/\Q (.int z.length) H):=by
 intro a s b H xs c Q I r h;let(z,rfl,d,q):=h;let(u,rfl,t,rfl):=vals1 r;let e:=jB;calc len_str ∅ ⟨.int z.length,H,I.tok _,⟨_,U⟩,q⟩
theorem cw.or{f:zz}{r e:La V->Hp->VK->Prop}(h:cw X f r)(h':cw X f e):cw X f (λxs H Q=>r xs H Q\/e xs H Q):=by
 intro a s b H xs c Q I d q;rcases q with q|q
 .exact h a s b H xs c Q I d q
 .exact h' a s b H xs c Q I d q
theorem di:cw X (.type "list") (λxs H Q=>∃p ys,xs=[.ref p]/\(SqL X.K H p ys\/SqT X.K H p ys)/\∀l,H l=Kh->Q (.ref l) (upd H l<|.lst ys)):=by
 intro k s A H xs C Q I r h;let(p,ys,rfl,j,q):=h;let(u,rfl,B):=vals1 r;cases B
 let fin:∀(a:La zz),Vals ys a->ys.length<=AA->∀(c:Az)(f:Nat),(∀b z,s.heap.get? b=Kg z->c.get? b=Kg z) ->
   c.get? s.heap.objs.size=Kg { cls:=.type "list",dict:=Kh,data:=.seq a.toArray f,slots:=#[] }->EP X k A Q (.ref s.heap.objs.size) { s with heap:=c }:=λa d i c f g e =>
  ⟨.ref s.heap.objs.size,_,I.laid (t':=s.toks) g (tj _) (show bQ X.prog X.w _ c _ (.lst ys) from⟨i,a,f,d,e⟩),U,q _<|I.hok.fresh<|tj _⟩
 rcases j with j|j
 .let(a,d,t,i):=I.list j;let m:=d.length;let(o,v,y,n,x):=t.isList;exact HG p (.inl U) v y x (λc f g e=>fin a d i c f g e) (by simp only[dA] <;> lia)
 .let(a,d,t,i):=I.tuple j;let m:=d.length;let(o,v,y,n,x):=t;exact HG p (.inr U) v y x (λc f g e=>fin a d i c f g e) (by simp only[dA] <;> lia)
def tyV(K:W.Frag)(T:String)(x:V)(H:Hp):Prop:=match x with
 | .str _=>T = "str"
 | .int _=>T = "int"
 | .ref p=>(T = "list" /\ ∃b,SqL K H p b)\/(T = "tuple" /\ ∃o,K.lookup p=Kg o/\o.cls=.type "tuple" /\ o.dict=Kh) \/
   (T = "dict" /\ ((∃a,H p=Kg (.dK a))\/∃a,H p=Kg (.dT a)))\/(T = "set" /\ ∃S n,H p=Kg (.set S n))
 |_=>False
theorem Ay{f:La (Ak×Obj)}{m:St}{H:Hp}{s:Cg}{T:String}{x:V}{v:zz}(I:Inv X f m H s)(r:RelV x v)(ty:tyV X.K T x H) :
  s.TypeIs v T/\∀a,v=.ref a->∃l,s.heap.get? a=Kg l/\l.dict=none:=by
 cases x with
 |str z =>
  let(t,rfl):=r;cases (show T = "str" from ty);exact⟨typeIs_str s z t,λ_ e=>nomatch e⟩
 |int i =>
  let(t,rfl):=r;cases (show T = "int" from ty);exact⟨HH s i t,λ_ e=>nomatch e⟩
 |ref p =>
  cases r;rcases ty with⟨rfl,y,q⟩|⟨rfl,o,b,u,g⟩|⟨rfl,b⟩|⟨rfl,S,n,b⟩
  .let(w,_,k,_):=I.list q;calc⟨k.isList.typeIs,λa e=>?_⟩;cases e;let(o,n,e,c,g,_):=k;exact⟨o,e,g⟩
  .refine⟨⟨o,I.kIn p o b,u⟩,λa e=>?_⟩;cases e;exact⟨o,I.kIn _ o b,g⟩
  .let z:∃o,s.heap.get? p=Kg o/\o.ExactDict:=by
    rcases b with⟨j,b⟩|⟨j,b⟩
    .let(_,_,_,_,o,_,_,e,d,_):=I.hok p _ b;exact⟨o,e,d⟩
    .let(_,_,_,_,o,_,_,e,d,_):=I.hok p _ b;exact⟨o,e,d⟩
   let(o,e,d):=z;calc⟨⟨o,e,d.1⟩,λa h=>?_⟩;cases h;exact⟨o,e,d.2.1⟩
  .let(o,_,_,_,e,d,_):=I.hok p _ b;calc⟨⟨o,e,d.1⟩,λa h=>?_⟩;cases h;exact⟨o,e,d.2.1⟩
 |_=>calc False.elim ty
def tBM(K:W.Frag)(T:String)(r:V->La V->Hp->VK->Prop)(to:TE)(t:TA):TE:=λa H Q=>to a H λx b=>tyV K T x b/\t a b λc d=>r x c d Q
variable{o e:D0}{es:La D0}{to:TE}{t:TA}{name:Str}{apos cZ:Pos}{T id:String}{r:V->La V->Hp->VK->Prop}
theorem fh(z:PlainAttrs T)(b:Slot T name id)(d:HI (.builtin id)=pure (.type "method_descriptor")) (hm:MtR X id r)(B:PE X o to)(C:PA X (e :: es) t)
  (u:Ho o name X.env (eval o X.env)=eval o X.env:=by rfl)
  (l:((E1 cZ<|E2 (e :: es) X.env).all (λx=>!x.1) && (HJ cZ<|HK [] X.env).all (λx=>x.1.isSome)
   && decide ((e :: es).length+([]:La HA).length+(if ([]:La HA).isEmpty then 0 else 1)<30))=true:=by rfl)
  (q:(apos.endLine == cZ.line)=true:=by rfl)(A:E2 (e :: es) X.env=(Kj,eval e X.env) :: E2 es X.env:=by rfl)(L:(E1 cZ<|E2 es X.env).any (·.1)=false:=by rfl) :
  PE X (.Call (.Attribute o name apos) (e :: es) [] cZ) (tBM X.K T r to t):=by
 intro a s c H Q I h;calc wpAny_Call_method_late u l q U<|thn (B a s c H _ I h) λv n ⟨x,J,i,f,ty,y⟩=>?_;let(E,D):=Ay i f ty;calc⟨T,id,z,b,d,E,D,?_⟩;let g:=C cZ a n c J _ i y;rw[A]at g⊢;refine Calls.callWith_builtin (by show(Kj || (E1 cZ<|E2 es X.env).any (·.1))=Kj;rw[L] <;> rfl) (Calls.evalArgs_plain ?_);calc thn g λk m ⟨j,G,F,p,w⟩=>hm a m c G x j v k Q F f p w
end
def MtM(X:Cx)(e:String)(r:V->La V->Hp->VK->Prop):Prop :=
 ∀(a:La (Ak×Obj))(s:Cg)(b:St)(H:Hp)(x:V)(c:La V)(v:zz)(d:La zz)(Q:VK),Inv X a b H s->RelV x v->Vals c d->r x c H Q ->
  DO (model X.prog X.w) X.A (call (.builtin e) (v :: d)) (EP X a b Q) X.xe s
theorem Vals.one:∀{x:V}{us:La zz},Vals [x] us->∃u,us=[u]/\RelV x u
 |_,_,.cons r .nil=>⟨_,U,r⟩
theorem Vals.two:∀{x y:V}{us:La zz},Vals [x,y] us->∃u v,us=[u,v]/\RelV x u/\RelV y v
 |_,_,_,.cons r (.cons q .nil)=>⟨_,_,U,r,q⟩
section
variable{Kl:La (Ak×Obj)}{σ:St}{H:Hp}{s:Cg}{l b:Ak}{xs ys zs:La V}
theorem Inv.lset{a its':La zz}{n:Nat}{f:Array zz->Array zz}{t':Nat}(I:Inv X Kl σ H s)(h:H l=Kg (.lst xs))
  (e:s.heap.get? l=Kg { cls:=.type "list",data:=.seq a.toArray n }) (hf:f a.toArray=its'.toArray)(c:Vals ys its')(b:ys.length<=AA) :
  Inv X Kl σ (upd H l<|.lst ys) { s with heap:=s.heap.update l<|Obj.mapSeq f,toks:=t' }:=by
 let q:=PySem.IsL.update e f;rw[hf]at q;refine I.write (x:=l) (e:=l) (by rw[h];exact trivial) (.inl U) (λi u g d=>(Az.get?_update_other s.heap (Obj.mapSeq f)<|Ne.symm g).trans d) ⟨_,q⟩ ?_;calc⟨b,its',_,c,q⟩
def Inv.lnew{a:La zz}{t':Nat}(I:Inv X Kl σ H s)(c:Vals ys a)(b:ys.length<=AA) :
  Inv X Kl σ (upd H s.heap.objs.size<|.lst ys) { s with heap:=s.heap.push { cls:=.type "list",data:=.seq a.toArray },toks:=t' } :=
 I.laid (λ_ _ q=>Az.get?_push_of_some _ q) (tj _) ⟨b,a,0,c,Az.get?_push_size _ U⟩
theorem Inv.fresh(I:Inv X Kl σ H s):H s.heap.objs.size=none:=I.hok.fresh<|tj _
theorem Inv.lstM(I:Inv X Kl σ H s)(b:H l=Kg (.lst xs)):xs.length<=AA/\∃(a:La zz)(n:Nat),Vals xs a/\xs.length=a.length/\s.heap.get? l=Kg { cls:=.type "list",data:=.seq a.toArray n }:=by
 let(z,a,n,r,e):=I.hok l _ b;calc⟨z,a,n,r,r.length,e⟩
theorem wx{n:Nat}(h:n<=AA):G0.List.listTooLong n=false:=by
 unfold G0.List.listTooLong;calc Kr ∅
end
inductive t7  (x:V)(vs:La V)(H:Hp)(Q:VK):Prop
 |mk (l xs y:_)(_:x=.ref l)(_:vs=[y])(_:H l=Kg (.lst xs))(_:xs.length<AA)(_:Q .non (upd H l<|.lst<|xs++[y])):t7 x vs H Q
theorem cz:MtM X "list.append" t7:=by
 intro c s i H x k v m Q I d f h;let(l,j,y,rfl,rfl,b,o,q):=h;cases d;let(u,rfl,g):=f.one;let(z,a,n,r,p,e):=I.lstM b;refine HL F.slot_list_append ⟨_,e,U⟩ F.entry_list_append (F.args_list_append_2 _ _) (PySem.list_append l a.toArray n u (by rw[dA];lia)) ⟨e,?_⟩;refine⟨.non,_,I.lset (its':=a++[u]) b e (by simp) (r.append<|.cons g .nil) ?_,U,q⟩;rw[gp,lz];lia
inductive t8  (x:V)(vs:La V)(H:Hp)(Q:VK):Prop
 |mk (l b xs zs:_)(_:x=.ref l)(_:vs=[.ref b])(_:H l=Kg (.lst xs))(_:H b=Kg (.lst zs))(_:xs.length+zs.length<=AA)(_:Q .non (upd H l<|.lst<|xs++zs)):t8 x vs H Q
theorem kS:MtM X "list.extend" t8:=by
 intro g s A H x E v G Q I i j h;let(l,b,D,B,rfl,rfl,f,p,J,q):=h;cases i;let(u,rfl,k):=j.one;cases k;let(z,a,n,r,K,e):=I.lstM f;let(C,c,o,m,y,t):=I.lstM p;let d:a.toArray.size+c.toArray.size<=AA:=by rw[dA,dA];lia
 let w:¬ (!a.toArray.isEmpty && G0.List.listTooLong (a.toArray.size+c.toArray.size))=true:=by
  rw[wx d,Bool.and_false];exact Bool.false_ne_true
 refine HL F.slot_list_extend ⟨_,e,U⟩ F.entry_list_extend (F.args_list_extend_2 _ _)
  (AutoSeq1.list_extend_list_list_0 l a.toArray n b c.toArray o w (by rw[dA];lia) ∅) ⟨e,t,?_⟩
 refine⟨.non,_,I.lset (its':=a++c) f e (by simp) (r.append m) ?_,U,q⟩;rw[gp];lia
inductive B5  (x:V)(y:V)(H:Hp)(Q:VK):Prop
 |mk (l b xs zs:_)(_:x=.ref l)(_:y=.ref b)(_:H l=Kg (.lst xs))(_:H b=Kg (.lst zs))(_:xs.length+zs.length<=AA)(_:∀p,H p=Kh->Q (.ref p) (upd H p<|.lst<|xs++zs)):B5 x y H Q
theorem mj:OpR X (G2 .Add) B5:=by
 intro d s t H x y v u Q I g f h;let(l,b,B,w,rfl,rfl,j,k,D,q):=h;cases g;cases f;let(z,a,n,r,E,e):=I.lstM j;let(A,c,C,i,p,o):=I.lstM k;refine PySem.P.add_list e o ?_ (by rw[dA,dA];lia);let m:a.toArray++c.toArray=(a++c).toArray:=by simp
 rw[m];calc⟨.ref _,_,I.lnew (t':=s.toks) (r.append i) (by rw[gp];lia),U,q _ I.fresh⟩
section
variable{prog:zM}{w:zJ}{A:Cd}{E:zz->Cg->Prop}{s:Cg}
end
end L2
namespace Att
open PySem PySem.W PySem.Calls PyProof.Rows
theorem lM{P:HM}{h:Az}:∀(c:La Int)(vs:La zz),WellAll P h vs (c.map WData.int)->IntsAre vs c:=by
 intro c;induction c with
 |nil =>
  intro vs w;rw[sD]at w;cases w;exact .nil
 |cons n c d =>
  intro vs w;rw[ik]at w;cases w with
  |cons a b =>
   cases a;calc .cons _ _<|d _ b
theorem uV{l:OpenLaw}{n:Nat}(u:l.most=Kg n){P:HM}{h:Az}{args:La WData}{c:La zz}
  (k:l.row.toRowW.claim.pre args=Ki)(i:WellAll P h c args) :
  ∃a vs b,c=[zz.ref a]/\args=[WData.list (b.map WData.int)]/\h.get? a=Kg { cls:=.type "list",data:=.seq vs.toArray }/\IntsAre vs b/\b.length<=n:=by
 let j:WShape.hasAll [] args [.list .int]=true:=(pre_splitW k).1;let m:l.pre.holds [] { args:=args }=true:=(pre_splitW k).2;let(d,r,rfl,x,w):=hasAllW_cons j;obtain rfl:=hasAllW_nil w;let(z,rfl,v):=hasW_list x;let(b,rfl):=items_int v;let e:b.length<=n:=by
  unfold OpenLaw.pre at m;let g:(WTm.not<|.lt (.lit<|.int (n:Int))<|.len<|.arg 0).holds [] { args:=[.list (b.map .int)] }=true:=by
   let g:=(holds_andW m).1;rw[u]at g;exact g
  let f:=condW_of g<|w_not<|w_lt w_lit<|w_len_list<|w_arg rfl;rw[dn]at f;refine Nat.le_of_not_lt λq=>?_
  let s:(n:Int)<((b.length:Nat):Int):=∅
  first
   |(rw[Kq s]at f;exact Kp f ⋯)
   |(simp at f;lia)
 cases i with
 |cons p o =>
  cases o;cases p with
  |list t y=>calc⟨_,_,b,rfl,rfl,t,lM b _ y,e⟩
theorem uW(l:OpenLaw)(args:La WData):l.row.toRowW.claim.post args (.bool Ki) args=true :=
 postW_of (r:=l.row.toRowW) (X:=(Ki == Ki))
  (show WShape.has [] (.bool Ki) .bool=Ki by first|rfl|decide|simp[WShape.has,WShape.arms,WShape.armsAll])
  (show(WTm.eq .res<|.lit<|.bool Ki).value [] { args:=args,res:=Kg<|.bool Ki,after:=args }=Kg (.bool<|Ki == Ki)from w_eq_bool (w_res rfl) w_lit) rfl
theorem attach_call{l:OpenLaw}{n:Nat}{q:zM}{e:La Str}{XP:(Str->Option zz)->Az->Prop}{A:zJ->Az->Prop}{d:DefRec}
  (H:l.most=Kg n)(x:d.params.defaults=[])
  (call:∀(w:zJ)(c b:Cg)(m t:Str->Option zz)(i:Ak)(o:Obj)(s p g:zz)(a:Ak)(vs:La zz)(k:La Int),
   Ground q e [] XP w c m t b.heap->A w b.heap ->
   b.heap.get? i=Kg o->o.data=.func (docDef d.name d.params d.body d.scope s p g)->b.heap.CodeRec p d.name->m d.name=Kg (.ref i) ->
   b.heap.get? a=Kg { cls:=.type "list",data:=.seq vs.toArray }->IntsAre vs k->k.length<=n->b.gens = #[] ->
   Hn (model l.prog w) HN (.call (.ref i) ⟨[.ref a],[]⟩) (λr s'=>r=.ok (.ret<|.bool Ki)/\OldK b.heap s'.heap/\s'.os=b.os/\AllBare s'.gens) b) :
  WalkO q e XP A l.row.toRowW d [] (λf vs=>PySem.call f vs):=by
 intro w c b m t G Y i o s p g O kV F K y z v J C B S D T Q u R;obtain rfl:O=.none:=Dflts.none z x;obtain rfl:kV=.none:=Dflts.noKw z;let(a,vs,k,rfl,rfl,P,h,j):=uV H D u;calc enter_call<|Hz (call w c b m t i o s p g a vs k G Y F (fd_plain K) y v P h j J) λr s' E=>?_;let(rfl,N,M,L):=E;calc⟨.inl ⟨.bool Ki,.bool Ki,[],rfl,λ_=>rfl,.bool Ki,uW l _,λ_=>⟨List.Pairwise.nil,λ_ I=>(nomatch I)⟩⟩,N,M,L⟩
section
variable{prog:zM}{w:zJ}{A:Cd}{E:zz->Cg->Prop}{s:Cg}{K:Frag}
end
end Att
namespace L2
open PySem PySem.Spec PyProof.Rows
theorem oh:∀{vs:La zz}{a:La Int},IntsAre vs a->Vals (a.map V.int) vs
 |_,_,.nil=>.nil
 |_,_,.cons n t h=>.cons ⟨t,U⟩<|oh h
def AB(H:Hp):Prop:=∀b,H b=Kh\/∃o a,H b=Kg (.frz o<|.lst a)
theorem wz{P:zM}{w:zJ}{K:W.Frag}{t I:Str->Option zz}{CX:CXT}{k:Nat}{J a:Ak}{Z:Hv}{x:Str}{sp:Sp}{c:Cg}{vs:La zz}{p:La Int}
  (KX:K.In c.heap)(C:c.heap.Ns B7 t)(f:c.heap.Ns B8 I)(O:∀x:Str,x ≠ "__name__" -> I x=Cc x) (DE:c.heap.NoLimit)(hg:c.gens = #[])
  (G:c.heap.get? a=Kg { cls:=.type "list",data:=.seq vs.toArray }) (hi:IntsAre vs p)(T:p.length<=AA)(hr:b8 k HN)
  (F:∀g:Az,K.In g->g.Ns B7 t->aN P w K t g CX k J Z [x] sp)(B6:∀(s:Cg)(u:zz),Hw s Z ⟨[u],[]⟩ [(x,u)])
  (N:∀H:Hp,AB H->SqL K H a (p.map V.int)->sp [.ref a] H (λv _=>v=.bl Ki) λ_ _ _=>False)
  (Q:∀H e s',CX [] H c (λ_ _ _=>False) e s'->False) :
  Hn (model P w) HN (.call (.ref J) ⟨[.ref a],[]⟩) (λr s'=>r=.ok (.ret<|.bool Ki)/\OldK c.heap s'.heap/\s'.os=c.os/\AllBare s'.gens) c:=by
 let S:=oh hi;let DF:=hi.length
 let j:∀H:Hp,AB H->SqL K H a (p.map V.int)->HOk P w H c.heap->(∀b,H b≠Kh->b=a)->(H a≠Kh->K.lookup a=Kh) ->
   Hn (model P w) HN (.call (.ref J) ⟨[.ref a],[]⟩) (λr s'=>r=.ok (.ret<|.bool Ki)/\OldK c.heap s'.heap/\s'.os=c.os/\AllBare s'.gens) c:=by
  intro H X hS B Y hK;let R:∀{b:Ak}{o:Obj},c.heap.get? b=Kg o->H b=Kh->(oZ c.heap H).get? b=Kg o:=λe n=>vV e n
  let M:∀{b:Ak}{o:Obj}{y:Array G8}{A:Nat},c.heap.get? b=Kg o->o.data=.dict y A->H b=none:=λ{b o y A} e d=>by
   cases q:H b with
   |none=>rfl
   |some u =>
    let L:b=a:=Y b (by rw[q];simp);subst L;rw[G]at e;cases e;let d':Data.seq vs.toArray _=Data.dict y A:=d;cases d'
  let i:∀{b:Ak}{m:Str->Option zz},c.heap.Ns b m->(oZ c.heap H).Ns b m:=λ{b m} ⟨o,y,A,e,d,r⟩=>⟨o,y,A,R e<|M e d,d,r⟩
  let D:K.In (oZ c.heap H):=λb o e=>R (KX b o e) (by
   cases q:H b with
   |none=>rfl
   |some u =>
    let L:b=a:=Y b (by rw[q];simp);subst L;rw[hK (by rw[q];simp)]at e;cases e)
  let hM:Mod K t (oZ c.heap H):=⟨D,i C,⟨I,i f,O⟩,let ⟨mc,h1,h2⟩:=DE;⟨mc,i h1,h2⟩⟩;let e0:rW P w K t (oZ c.heap H) HN [] c H:=⟨U,hM,λb o e=>yg e,Nat.le_of_eq<|uP _ _,trivial,λb f=>Kp (show b∈([]:La Ak)from f) (by simp),B,.of_eq hg⟩;refine Hz ((F _ D<|i C).run HN [] c H ⟨[.ref a],[]⟩ [.ref a] [.ref a] _ _ hr e0 (B6 c<|.ref a) (.cons U .nil) (N H X hS)) λr s' h=>?_
  cases r with
  |error e=>exact(Q H e s' h).elim
  |ok fl =>
   cases fl with
   |next=>exact False.elim h
   |brk=>exact False.elim h
   |cont=>exact False.elim h
   |ret u =>
    let(v,H',os,E,un,DG,r',q):=h;let q':v=.bl true:=q;subst q';obtain rfl:u=zz.bool true:=r';calc⟨U,OldK.of_keep λb o e=>?_,os,E⟩;cases q:H b with
    |none=>exact un.keep b o e q (by intro z;exact Kp (show b∈([]:La Ak)from z) (by simp)) (by simp)
    |some u =>
     rcases X b with z|⟨ob,xs,z⟩
     .rw[q]at z;cases z
     .let z2:=un.frzs b ob _ z;let(e1,_):=B b _ z;let(e2,_):=DG b _ z2;rw[e]at e1;cases e1;exact e2
 cases hk:K.lookup a with
 |some o =>
  let e:=KX a o hk;rw[G]at e;cases e;refine j (λ_=>Kh) (λ_=>.inl U) (.inr ⟨_,vs.toArray,_,hk,U,U,U,by rw[dA,DF];exact T,~~~S⟩) (λb u z=>by have l:(Kh:Option HO)=Kg u:=z;cases l) (λb z=>Kp U z) λz=>Kp U z
 |none =>
  refine j (λb=>if b=a then Kg (.frz { cls:=.type "list",data:=.seq vs.toArray } (.lst<|p.map V.int))else Kh) (λb=>?_) (.inl<|.inr ⟨{ cls:=.type "list",data:=.seq vs.toArray },Ko U⟩) (λb u z=>?_) (λb z=>?_) λ_=>hk
  .by_cases f:b=a
   .exact .inr ⟨_,_,Ko f⟩
   .exact .inl<|Kn f
  .by_cases f:b=a
   .let l:=(Ko f).symm.trans z;cases l;subst f;exact⟨G,by rw[dn];exact T,vs,_,S,G⟩
   .let l:=(Kn f).symm.trans z;cases l
  .by_cases f:b=a
   .exact f
   .exact Kp (Kn f) z
theorem walk_of{l:W.OpenLaw}{n k:Nat}{q:zM}{j:La Str}{XP:(Str->Option zz)->Az->Prop}{I:zJ->Az->Prop}{d:DefRec}{K:HM->W.Frag}{CX:zJ->CXT}{sp:zJ->Sp}{x:Str}
  (N:l.most=Kg n)(B:n<=AA)(D:d.params.defaults=[])(M:b8 k HN)
  (Q:∀(w:zJ)(h:Az),I w h->(K w.params).In h)
  (F:∀(w:zJ)(p:Str->Option zz)(y:Ak)(h:Az),(K w.params).In h->h.Ns B7 p->p d.name=Kg (.ref y) ->
   ∃z:Hv,(∀(s:Cg)(u:zz),Hw s z ⟨[u],[]⟩ [(x,u)]) /\
    ∀c:Az,(K w.params).In c->c.Ns B7 p->aN l.prog w (K w.params) p c (CX w) k y z [x] (sp w))
  (A:∀(w:zJ)(H:Hp)(a:Ak)(t:La Int),t.length<=n->AB H->SqL (K w.params) H a (t.map V.int)->sp w [.ref a] H (λv _=>v=.bl Ki) λ_ _ _=>False)
  (E:∀(w:zJ)(H:Hp)(s:Cg)(e:zz)(s':Cg),CX w [] H s (λ_ _ _=>False) e s'->False) :
  W.WalkO q j XP I l.row.toRowW d [] (λf vs=>PySem.call f vs):=by
 refine Att.attach_call N D λw L r p mb y o pm cd a1 a vs t G Y ho hd a0 C Z m i O=>?_
 let J:=Q w _ Y;let(z,P,X):=F w p y _ J G.T.g C;calc wz J G.T.g G.T.b G.T.builtins G.T.nolimit O Z m (tT i B) M X P (λH S R=>A w H a t i S R) λH e s'=>E w H r e s'
def inClass(s:F3)(j:Nat):F3:=match s with
 | .ClassDef _ _ _ body _ _ _ _ _ _ _=>body.getD j<|.Pass ⟨0,0,0,0⟩
 |_=>.Pass ⟨0,0,0,0⟩
def lU(s:F3):Arguments:=match s with
 | .FunctionDef _ a _ _ _ _ _ _ _ _=>a
 |_=>{ posonlyargs:=[],args:=[],vararg:=Kh,kwonlyargs:=[],kw_defaults:=[],kwarg:=Kh,defaults:=[] }
def fH(s:F3):La F3:=match s with
 | .FunctionDef _ _ b _ _ _ _ _ _ _=>b
 |_=>[]
def aj(s:F3):Cr:=match s with
 | .FunctionDef _ _ _ _ _ _ sc _ _ _=>sc
 |_=>{ kind:=.function,names:=[],isGenerator:=Kj,isCoroutine:=Kj }
abbrev CX0:CXT:=λ_ _ _ _ _ _=>False
abbrev E0:XK:=λ_ _ _=>False
def bV{X:Cx}:Passes CX0 X E0:=λ_ _ _ _ _ _ _ h=>h.elim
structure Fun(K:W.Frag)(x qual:Str)(st:F3)(f:Ak)(fd:Hv):Prop where
 ex:∃(oc:zz)(od:Option Ak)(kV doc pm:zz)(an:Option Ak)(cdv ct:zz)(osl:Array (Option zz)),
  fd=W.fnOf x qual (lU st) (fH st) (aj st) .none kV doc pm an cdv ct/\K.lookup f=Kg ⟨oc,od,.func fd,osl⟩/\W.codeIn K cdv qual=Ki
 kp:W.keepIn K (.ref f)=Ki
section
variable{P:zM}{w:zJ}{K:W.Frag}{mg:Str->Option zz}{base:Az}
theorem Fun.ok{x b:Str}{d:F3}{f:Ak}{i:Hv}{N ps:La Str}{k:Nat}{sp:Sp}(F:Fun K x b d f i)(S:au N ps (aj d))(len:∀vs H Q E,sp vs H Q E->vs.length=ps.length)
  (l:∀(c:zz)(A:Cd)(a:La Env)(s:Cg)(H:Hp)(vs:La V)(Q:VK)(E:XK),b8 k (A.deeper<|envOfC b (aj d) s.heap.objs.size f c)->sp vs H Q E ->
   ∃t,PSs (jD CX0 P w K mg base N b (aj d) f c A a s H E).nox (fH d) t/\t { nx:=λ_ H'=>Q .non H',rt:=Q } (start N vs) H):aN P w K mg base CX0 (k+1) f i ps sp:=by
 let(u,r,kV,o,p,y,c,v,n,rfl,j,g):=F.ex;refine zD j g S len λA a s H vs Q E m e=>?_
 let(t,h,q):=l c A a s H vs Q E m e;calc⟨t,h.nox,q⟩
theorem Fun.binds{x a:Str}{d:F3}{f:Ak}{j:Hv}{ps:La Str}(F:Fun K x a d f j)
  (h:∀(kV b e:zz)(i:Option Ak)(c g:zz)(us:La zz),us.length=ps.length->Hx (W.fnOf x a (lU d) (fH d) (aj d) .none kV b e i c g) ⟨us,[]⟩=pure (ps.zip us)):Binds K j ps []:=by
 let(n,m,kV,b,e,i,c,g,k,rfl,o,l):=F.ex;calc .all<|h kV b e i c g
def fun_mk{x a:Str}{d:F3}{f:Ak}{n:zz}{m j:Option Ak}{g:Array (Option zz)}{kV e h b i:zz}(l:K.lookup f=Kg ⟨n,m,.func<|W.fnOf x a (lU d) (fH d) (aj d) .none kV e h j b i,g⟩)
  (c:W.codeIn K b a=Ki)(k:W.keepIn K (.ref f)=Ki):Fun K x a d f (W.fnOf x a (lU d) (fH d) (aj d) .none kV e h j b i):=⟨⟨n,m,kV,e,h,j,b,i,g,U,l,c⟩,k⟩
end
theorem aD{n:Nat}(h:n<=1000):n<AA:=vU h ⋯
variable{X:Cx}
theorem pv(i:Nat){x:Str}{pos:Pos}(d:X.N[i]?=Kg x:=by rfl)(b:Vis X.env.scope x:=by first|exact Or.inl U|exact Or.inr (Or.inl U)|exact Or.inr (Or.inr U))(c:(x == ("__debug__" : Str))=false:=by decide)
  (a:(x == ("__classdict__" : Str))=false:=by decide):PE X (.Name x pos) (Ad i):=Ae d b c a
theorem bR{A B:Prop}(h:B):if Kj=Ki then A else B:=by
 rw[Kn Bool.false_ne_true];calc h
theorem dS{A B:Prop}(h:A):if Ki=Ki then A else B:=by
 rw[Ko U];calc h
theorem cQ{c A B:Prop} [Decidable c] (b:c->A)(a:¬ c->B):if c then A else B:=by
 by_cases h:c
 .rw[Ko h];exact b h
 .rw[Kn h];calc a h
theorem zF{c A B:Prop} [Decidable c] (a:c)(h:B):if (!decide c)=Ki then A else B:=by
 rw[Kq a];calc bR h
def ao(H H':Hp):Prop:=∀b o,H b=Kg o->H' b=Kg o
def ao.refl(H:Hp):ao H H:=λ_ _ h=>h
def ao.trans{H e d:Hp}(a:ao H e)(b:ao e d):ao H d:=λc o h=>b c o<|a c o h
theorem ao.free{H H':Hp}(e:ao H H'){l:Ak}(h:H' l=Option.none):H l=Option.none:=by
 cases q:H l with
 |none=>rfl
 |some o =>
  rw[e l o q]at h;cases h
theorem ao.seq{K:W.Frag}{H H':Hp}{a:Ak}{xs:La V}(e:ao H H')(h:SqL K H a xs):SqL K H' a xs:=by
 rcases h with(h|⟨o,h⟩)|h
 .exact .inl<|.inl<|e _ _ h
 .exact .inl<|.inr ⟨o,e _ _ h⟩
 .exact .inr h
abbrev Pr:=Int×Int
def inR(n:Int)(p:Pr):Bool:=Kk (p.1<=n) && decide (n<=p.2)
def inP(ps:La Pr)(n:Int):Bool:=ps.any<|inR n
structure Apart(R:La Pr):Prop where
 le:∀p∈R,p.1<=p.2
 gap:R.Pairwise λp q=>p.2+2<=q.1
structure Gg(R qs:La Pr):Prop where
 ap:Apart R
 mem:∀n,inP R n=inP qs n
 cov:∀p∈qs,p.1<=p.2->∃r∈R,r.1<=p.1/\p.2<=r.2
 low:∀r∈R,∃q∈qs,r.1=q.1
def Callee(P:zM)(w:zJ)(K:W.Frag)(b:Str->Option zz)(a:Az)(k:Nat)(x:Str)(ps:La Str)(sp:Sp):Prop :=
 ∃f c,aN P w K b a CX0 k f c ps sp/\Binds K c ps []/\W.keepIn K (.ref f)=Ki/\b x=Kg (.ref f)
theorem Callee.mono{P:zM}{w:zJ}{K:W.Frag}{b:Str->Option zz}{a:Az}{j k:Nat}{x:Str}{ps:La Str}{sp:Sp}(C:Callee P w K b a j x ps sp)(h:j<=k):Callee P w K b a k x ps sp:=by
 let(f,c,F,r):=C;calc⟨f,c,F.mono h,r⟩
variable{pos:Pos}
section
variable{k:Nat}{x:Str}{ps:La Str}{sp:Sp}{e:D0}{es:La D0}{t:TA}{p:Pos}
def tFn(sp:Sp)(t:TA):TE:=λa H Q=>t a H λb c=>sp b c Q E0
theorem aR(C:Callee X.prog X.w X.K X.mg X.base k x ps sp)(o:b8 k X.A)(r:Gl X x)(u:PA X (e :: es) t)(j:(x == ("__debug__" : Str))=false:=by decide)
  (he:E2 (e :: es) X.env=(Kj,eval e X.env) :: E2 es X.env:=by rfl)(i:(E1 pos<|E2 es X.env).any (·.1)=false:=by rfl):PE X (.Call (.Name x p) (e :: es) [] pos) (tFn sp t):=by
 let(f,y,F,b,n,m):=C;let h:=yn (E:=E0) (dvs:=[]) (ds:=[]) (p:=p) F o r m n b .nil bV u j he i;intro d s g H Q I q;calc h d s g H Q I ?_;let l:t g H λa c=>sp a c Q E0:=q
 let v:(λ(a:La V)(c:Hp)=>sp (a++[]) c Q E0)=λa c=>sp a c Q E0:=by
  funext a c
  rw[jQ]
 show t g H λa c=>sp (a++[]) c Q E0
 rw[v];calc l
end
def bu(t u:TS):TS:=λD c H=>∃M:St->Hp->Prop,t { D with nx:=M } c H/\∀a b,M a b->u D a b
theorem ar{X:Cx}{e:F3}{rest:La F3}{t u:TS}(j:PS X e t)(i:PSs X rest u):PSs X (e :: rest) (bu t u):=by
 intro c s g H D I ⟨M,a,b⟩;calc GI<|thn (j c s g H { D with nx:=M } I a) λfl h q=>?_;cases fl with
 |next=>obtain⟨d,f,k,q⟩:=q;exact i c h d f D k<|b d f q
 |ret v=>exact q
 |brk=>exact q
 |cont=>calc q
inductive EqI(K:W.Frag)(H:Hp):V->V->Bool->Prop where
 |flat {x y:V}(fx:bM x=Ki)(fy:bM y=Ki):EqI K H x y (eqV x y)
 |same (a:Ak):EqI K H (.ref a) (.ref a) Ki
 |tup {a b:Ak}{xs ys:La V}(ha:SqT K H a xs)(hb:SqT K H b ys)(fx:xs.all bM=Ki)(fy:ys.all bM=Ki):EqI K H (.ref a) (.ref b) (Kk (xs.length=ys.length) && (List.zipWith eqV xs ys).all id)
theorem kn:∀{x:V},bM x=Ki->eqV x x=Ki
 | .non,_=>rfl
 | .bl b,_=>by simp[eqV]
 | .int i,_=>by simp[eqV]
 | .str z,_=>by simp[eqV]
theorem ml:∀{xs:La V},xs.all bM=Ki->(List.zipWith eqV xs xs).all id=Ki
 | [],_=>rfl
 |x :: xs,h=>by
  rw[ni,yq]at h;rw[List.zipWith_cons_cons,ni,ml h.2,Bool.and_true];calc kn h.1
theorem jn{f:Nat->Bool}:∀{xs ys:La V},(∀j x y,xs[j]?=Kg x->ys[j]?=Kg y->f j=eqV x y)->(List.range<|min xs.length ys.length).all f=(List.zipWith eqV xs ys).all id
 | [],ys,_=>by simp
 |x :: xs,[],_=>by simp
 |x :: xs,y :: ys,h=>by
  let c:=jn (f:=λj=>f<|j+1) (xs:=xs) (ys:=ys) λj a b g e=>h (j+1) a b (~~~g)<|~~~e
  let i:=h 0 x y U U;let d:min (x :: xs).length (y :: ys).length=min xs.length ys.length+1:=by simp only[hU];lia
  rw[d,List.range_succ_eq_map,ni,List.zipWith_cons_cons,ni,List.all_map,i];show(eqV x y && (List.range<|min xs.length ys.length).all (λj=>f<|j+1))=_;rw[c];rfl
section
variable{Kl:La (Ak×Obj)}{σ:St}{H:Hp}{s:Cg}
theorem EqI.at{A:Cd}{x y:V}{u v:zz}{b:Bool}(e:EqI X.K H x y b)(I:Inv X Kl σ H s)(W:A.units+1<Ht)(l:RelV x u)(k:RelV y v):SeqAt.EqAt A s u v b:=by
 cases e with
 |flat i m=>exact mi l k i m
 |same a =>
  cases (show u=zz.ref a from l);cases (show v=zz.ref a from k);exact SeqAt.EqAt.same _
 | @tup a b xs ys ha hb i m =>
  cases (show u=zz.ref a from l);cases (show v=zz.ref b from k);by_cases z:a=b
  .subst z;let e:=I.tuple_inj ha hb;subst e;rw[ml i,Kq U];exact SeqAt.EqAt.same _
  .let(d,r,p,_):=I.tuple ha;let(c,q,D,_):=I.tuple hb;let F:=r.length;let E:=q.length;let M:=SeqAt.RcAt.tuples (A:=A) (e:=λj=>match d[j]?,xs[j]?,ys[j]? with|_,Kg x,Kg y=>eqV x y|_,_,_=>Kj) (show s.heap.IsTuple a d.toArray from p) (show s.heap.IsTuple b c.toArray from D) ∅ (λj f L=>by
    let J:j<d.length:= ~~~f
    let G:j<c.length:= ~~~L
    let o:xs[j]?=Kg xs[j]:=GC ∅;let n:ys[j]?=Kg ys[j]:=GC ∅;let(w,h,C):=r.get o;let(t,g,B):=q.get n;let Q:d.toArray[j]=w:=by
     have:=GC J;rw[this]at h;simpa using Option.some.inj h
    let P:c.toArray[j]=t:=by
     have:=GC G;rw[this]at g;simpa using Option.some.inj g
    rw[Q,P];rw[o,n];let O:bM xs[j]=true:=iv.mp i _<|ri _;let N:bM ys[j]=true:=iv.mp m _<|ri _;exact mi C B O N)
   let f:=SeqAt.EqAt.of_refs z M;let T:((List.range<|min d.toArray.size c.toArray.size).all λj=>match d[j]?,xs[j]?,ys[j]? with|_,Kg x,Kg y=>eqV x y|_,_,_=>Kj)=(List.zipWith eqV xs ys).all id:=by
    let R:min d.toArray.size c.toArray.size=min xs.length ys.length:=by simp only[dA];lia
    rw[R];exact jn λj x y h g=>by rw[h,g]
   rw[T]at f;let S:(d.toArray.size == c.toArray.size)=Kk (xs.length=ys.length):=by
    simp only[dA,←F,←E];exact Bool.beq_eq_decide_eq _ _
   rw[S,Bool.and_comm]at f;calc f
end
inductive wA(K:W.Frag)(neg:Bool)(x:V)(y:V)(H:Hp)(Q:VK):Prop
 |mk (a b xs ys:_)(_:x=.ref a)(_:y=.ref b)(_:SqL K H a xs)(_:SqL K H b ys)(_:((xs.length≠ys.length/\Q (.bl neg) H)\/(xs.length=ys.length/\∃f:Nat->Bool,(∀j x y,xs[j]?=Kg x->ys[j]?=Kg y->EqI K H x y (f j))/\Q (.bl (if neg then !(List.range xs.length).all f else(List.range xs.length).all f)) H)))
theorem wB{b:La (Ak×Obj)}{l:St}{H:Hp}{s:Cg}{A:Cd}{xs ys:La V}{a its':La zz}{f:Nat->Bool}(I:Inv X b l H s)(u:A.units+1<Ht)(r:Vals xs a)(e:Vals ys its')
  (hf:∀j x y,xs[j]?=Kg x->ys[j]?=Kg y->EqI X.K H x y (f j)):∀j (k:j<a.toArray.size)(i:j<its'.toArray.size),SeqAt.EqAt A s a.toArray[j] its'.toArray[j] (f j):=λj k i=>by
 let t:j<a.length:= ~~~k
 let q:j<its'.length:= ~~~i
 let B:=r.length;let z:=e.length;let d:xs[j]?=Kg xs[j]:=GC ∅;let c:ys[j]?=Kg ys[j]:=GC ∅;let(n,h,p):=r.get d;let(m,g,o):=e.get c;let w:a.toArray[j]=n:=by
  let:=GC t;rw[this]at h;simpa using Option.some.inj h
 let v:its'.toArray[j]=m:=by
  let:=GC q;rw[this]at g;simpa using Option.some.inj g
 rw[w,v];calc(hf j _ _ d c).at I u p o
theorem AE{k:Nat}(o:b8 k X.A):OpR X (G4 .Eq) (wA X.K Kj):=by
 intro i s B H x y v u Q I n m h;let(a,b,l,C,rfl,rfl,z,w,h):=h;cases (show v=zz.ref a from n);cases (show u=zz.ref b from m);let(c,r,p,_):=I.list z;let(j,d,g,_):=I.list w;let E:=r.length;let D:=d.length;let F:=o.units;rcases h with⟨G,q⟩|⟨J,f,t,q⟩
 .refine SeqAt.eq_list_lengthsAt p.isList g.isList (by simp only[dA,bne_iff_ne,ne_eq];lia) ∅ ⟨.bl Kj,H,I,U,q⟩
 .refine SeqAt.eq_listAt (e:=f) p.isList g.isList (by simp only[dA];lia) ∅ (wB I (by show X.A.units+1+1<Ht;lia) r d t) ⟨.bl _,H,I,U,?_⟩;rw[show c.toArray.size=l.length by simp only[dA];lia];calc q
theorem wC{k:Nat}(o:b8 k X.A):OpR X (G4 .NotEq) (wA X.K Ki):=by
 intro i s C H x y v u Q I n m h;let(a,b,l,D,rfl,rfl,B,z,h):=h;cases (show v=zz.ref a from n);cases (show u=zz.ref b from m);let(c,r,p,_):=I.list B;let(j,d,g,_):=I.list z;let F:=r.length;let E:=d.length;let G:=o.units;rcases h with⟨J,q⟩|⟨L,f,t,q⟩
 .refine SeqAt.RcNeAt.lists_lengths p.isList g.isList (by simp only[dA,bne_iff_ne,ne_eq];lia) ∅ X.prog X.w X.xe _ ⟨.bl Ki,H,I,U,q⟩
 .refine SeqAt.RcNeAt.lists (e:=f) p.isList g.isList (by simp only[dA];lia) ∅ (wB I (by show X.A.units+1+1<Ht;lia) r d t) X.prog X.w X.xe _ ⟨.bl _,H,I,U,?_⟩;rw[show c.toArray.size=l.length by simp only[dA];lia];calc q
def jo(H H':Hp):Prop:=∀b a,H b=Kg (.tup a)->H' b=Kg (.tup a)
def ao.tups{H H':Hp}(h:ao H H'):jo H H':=λb a e=>h b _ e
theorem oi{H:Hp}{p:Ak}{o:HO}{ys:La V}(h:H p=Kg (.lst ys)):jo H (upd H p o):=λb a e=>by rw[aq (cy e h (by intro z;cases z))];calc e
theorem ag{H:Hp}{p:Ak}(h:H p=Kh)(o:HO):ao H (upd H p o):=λb u q=>by rw[aq (bL q h)];calc q
theorem ao.upd{H H':Hp}{p:Ak}{o:HO}(s:ao H H')(h:H p=Kh):ao H (upd H' p o):=λb u q=>by rw[aq (bL q h)];calc s b u q
def PL(H:Hp):La V->La (Int×Int)->Prop:=Paired λx p=>∃r,x=.ref r/\H r=Kg (.tup [.int p.1,.int p.2])
def PL.mono{H H':Hp}{xs:La V}{ps:La (Int×Int)}(h:PL H xs ps)(s:jo H H'):PL H' xs ps:=Paired.mapP h λ_ _ ⟨r,e,z⟩=>⟨r,e,s r _ z⟩
theorem PL.get{H:Hp}:∀{xs:La V}{ps:La (Int×Int)}{i:Nat}{x:V},PL H xs ps->xs[i]?=Kg x->∃p r,ps[i]?=Kg p/\x=.ref r/\H r=Kg (.tup [.int p.1,.int p.2])
 |_,_,_,_,.nil,e=>by simp at e
 |_,_,0,_,.cons (b:=b) ⟨r,e1,z⟩ _,e=>by simp at e;subst e;exact⟨b,r,U,e1,z⟩
 |_,_,i+1,x,.cons _ t,e=>by
  let(p,r,q):=PL.get (i:=i) (x:=x) t<|~~~e;calc⟨p,r,~~~q.1,q.2⟩
theorem PL.length{H:Hp}{xs:La V}{ps:La (Int×Int)}(h:PL H xs ps):xs.length=ps.length:=Paired.length h
theorem PL.snoc{H:Hp}{xs:La V}{ps:La (Int×Int)}{r:Ak}{a b:Int}(h:PL H xs ps)(e:H r=Kg (.tup [.int a,.int b])):PL H (xs++[.ref r]) (ps++[(a,b)]):=Paired.snoc h ⟨r,U,e⟩
theorem jq{ps:La (Int×Int)}{i:Nat}{p:Int×Int}{f:Int×Int->Bool}(e:ps[i]?=Kg p)(h:(ps.take i).any f=Kj)(a:f p=Kj):(ps.take<|i+1).any f=false:=by
 rw[lA,e,List.any_append,h];simp[a]
def sx{ps:La (Int×Int)}{i:Nat}{p:Int×Int}{f:Int×Int->Bool}(e:ps[i]?=Kg p)(a:f p=Ki):ps.any f=true:=jT.mpr ⟨p,GG e,a⟩
def qt{p:Prop} [Decidable p] (h:decide p=Ki):p:=Ks h
def wD{p:Prop} [Decidable p] (h:¬ decide p=Ki):¬ p:=λe=>h<|Kq e
def dU{X:Cx}{K:W.Frag}(h:X.K=K):IxR X (Aw K):=h ▸ aH
def dW{X:Cx}{K:W.Frag}(h:X.K=K):IxR X (Ax K):=h ▸ bc
def bN(X:Cx)(N:La Str)(scope:Cr)(cl:La (Str×Ak))(b:La Ak)(C:Ak)(a:Cg)(c:Hp):Cx :=
 { prog:=X.prog,w:=X.w,K:=X.K,mg:=X.mg,base:=X.base,A:=X.A,N:=N,s₀:=a,H₀:=c,env:=HP scope cl C X.env,outer:=X.stack,stack:=X.stack,ex:=b,fn:=λ_=>Kj,calm:=X.calm,pn:=[],xe:=λ_ _=>False }
def PIf(X:Cx)(d:La D0)(t:TT):Prop :=
 ∀(a:La (Ak×Obj))(s:Cg)(b:St)(H:Hp)(Q:Bool->Hp->Prop),Inv X a b H s->t b H Q ->
  DO (model X.prog X.w) X.A (forIn d Ki λc r=>if r=Ki then do let ok ←EX c X.env (eval c X.env);pure (ForInStep.yield ok)else pure (ForInStep.yield r)) (TP X a b Q) X.xe s
def DH:TT:=λ_ H Q=>Q Ki H
def aV{X:Cx}:PIf X [] DH:=λ_ _ _ H _ I h=>wpAny_tests_nil ⟨H,I,h⟩
def fI{X:Cx}{c:D0}{t:TT}(h:PT X c t):PIf X [c] t:=λa s b H Q I q=>wpAny_tests_one<|h a s b H Q I q
structure qu(X:Cx)(N:La Str)(fr:La Nat)(scope:Cr)(cl:La (Str×Ak))(x:Str):Prop where
 clos:HQ scope X.env=pure cl
 kind:scope.kind=.function
 nocell:∀y∈scope.names,y.2≠.cell
 names:∀y∈scope.names,y.2=.local->scope.names.lookup y.1=Kg .local
 hx:scope.names.lookup x=Kg .local
 nd:N.Nodup
 n0:N[0]?=Kg x
 len:N.length=fr.length+1
 sub:∀(i:Nat)(y:Str),N[i+1]?=Kg y->∃j,fr[i]?=Kg j/\X.N[j]?=Kg y/\(X.env.kindOf y=Kg .cell\/X.env.kindOf y=Kg .free)/\((relabel scope X.env).names.lookup y=Kg .cell\/(relabel scope X.env).names.lookup y=Kg .free)
 cells:∀y c,cl.lookup y=Kg c->X.env.cells.lookup y=Kg c
 has:∀y,((relabel scope X.env).names.lookup y=Kg .cell\/(relabel scope X.env).names.lookup y=Kg .free)->∃c,cl.lookup y=Kg c
theorem bJ{X:Cx}{scope:Cr}{x:Str}(kind:scope.kind=.function)(a:∀y∈scope.names,y.2≠.free)(b:∀y∈scope.names,y.2≠.cell)
  (names:∀y∈scope.names,y.2=.local->scope.names.lookup y.1=Kg .local)(f:scope.names.lookup x=Kg .local):qu X [x] [] scope [] x:=by
 let g:(relabel scope X.env).names=scope.names:=map_eq_self λy d=>by
  let z:(y.2 == HB.free)=false:= ~~~a y d
  simp[z]
 let no:∀y,¬ ((relabel scope X.env).names.lookup y=Kg .cell\/(relabel scope X.env).names.lookup y=Kg .free):=λy h=>by
  rw[g]at h;rcases h with h|h
  .exact b _ (mem_of_lookup h) U
  .exact a _ (mem_of_lookup h) U
 calc⟨HR a,kind,b,names,f,by simp,U,U,λi y e=>by simp at e,(λy c e=>by cases e),λy h=>Kp h<|no y⟩
theorem aW{X:Cx}{N:La Str}{fr:La Nat}{scope:Cr}{cl:La (Str×Ak)}{x:Str}(b:HQ scope X.env=pure cl)(kind:scope.kind=.function)(a:∀y∈scope.names,y.2≠.cell)
  (names:∀y∈scope.names,y.2=.local->scope.names.lookup y.1=Kg .local)(g:scope.names.lookup x=Kg .local)(d:N.Nodup)(f:N[0]?=Kg x)(len:N.length=fr.length+1)
  (sub:((List.range fr.length).all λi=>match N[i+1]?,fr[i]? with|some y,Kg j=>(X.N[j]? == Kg y) && ((X.env.kindOf y == Kg .cell) && ((relabel scope X.env).names.lookup y == Kg .cell))|_,_=>Kj)=Ki)
  (cells:∀p∈cl,X.env.cells.lookup p.1=Kg p.2)(has:((relabel scope X.env).names.all λp=>(p.2 != .cell && p.2 != .free) || (cl.lookup p.1).isSome)=Ki):qu X N fr scope cl x:=by
 refine⟨b,kind,a,names,g,d,f,len,λi y e=>?_,λy c e=>cells _<|mem_of_lookup e,λy h=>?_⟩
 .let hi:i<fr.length:=by have:=(GD.mp e).1;lia
  let z:=iv.mp sub i<|hC.mpr hi;rw[e,GC hi]at z;simp only[yq,beq_iff_eq]at z;exact⟨_,GC hi,z.1,.inl z.2.1,.inl z.2.2⟩
 .let look:∀k,(relabel scope X.env).names.lookup y=Kg k->(k=.cell\/k=.free)->∃c,cl.lookup y=Kg c:=λk e l=>by
   let z:=iv.mp has _<|mem_of_lookup e;rcases l with rfl|rfl
   .exact yM.mp<|~~~z
   .exact yM.mp<|~~~z
  rcases h with h|h
  .exact look _ h<|.inl U
  .exact look _ h<|.inr U
def gf(a:St)(fr:La Nat)(x:Option V):St:=x :: fr.map λj=>(a[j]?).join
def pb(J:It)(fr:La Nat)(j:TT)(k:TE)(d:St)(Q:VK)(g:Hp):Prop:=∀D,g D=Kh->∃W:Nat->Nat->Hp->Prop,(∃m,W 0 m<|upd g D<|.lst [])/\∀i m H,W i m H ->
 (J.stop i H/\Q (.ref D) H)\/(J.go i H/\∀x h,J.yld i H x h->j (gf d fr<|Kg x) h λb f=>if b=Ki then k (gf d fr<|Kg x) f λy e=>∃c,e D=Kg (.lst c)/\c.length<AA/\∃a,a<m/\W (i+1) a (upd e D<|.lst<|c++[y])
  else ∃a,a<m/\W (i+1) a f)
def zG(b:TI)(fr:La Nat)(c:TT)(d:TE):TE:=λa H Q=>b a H λJ e=>pb J fr c d a Q e
section
variable{prog:zM}{w:zJ}{A:Cd}{R:Hm->Cg->Prop}{s:Cg}
theorem mn{f a d:D0}{e:La D0}{scope:Cr}{pos:Pos}{it g:zz}{b:Env}(J:Nat->Cg->Prop)
  (turn:∀n s,J n s->DO (model prog w) A (GR it) (λr j=>match r with
   |none=>R (.ok .next) j
   |some v=>DO (model prog w) A (GS a it v) (λ_ p=>DO (model prog w) A (assign a b v) (λ_ o =>
     DO (model prog w) A (forIn e Ki λc r=>if r=Ki then do let ok ←EX c b (eval c b);pure (ForInStep.yield ok)else pure (ForInStep.yield r)) (λok i =>
      if ok=Ki then DO (model prog w) A (eval f b) (λy l=>DO (model prog w) A (call (.builtin "list.append") [g,y]) (λ_ k=>∃m,m<n/\J m k) (λ_ _=>False) l) (λ_ _=>False) i
      else ∃m,m<n/\J m i) (λ_ _=>False) o) (λ_ _=>False) p) (λ_ _=>False) j) (λ_ _=>False) s)
  (n:Nat)(h:J n s):Hn (model prog w) A (.compLoop (.ListComp f [⟨a,d,e,0⟩] scope pos) 0 it g b) R s:=by
 calc codeAny_loop U J (λn s u=>?_) n h;show DO _ A ((compTurn (.ListComp f [⟨a,d,e,0⟩] scope pos) 0 it g b).onRaise (λx=>do HS x b;theTreesLotGoes x)) _ _ s;calc wpAny_noted ?_;rw[compTurn_list];calc zo<|GO<|zo<|F9 (turn n s u) (λr j t=>?_) λ_ _ z=>z.elim;cases r with
 |none=>exact zp t
 |some v =>
  calc zo<|F9 t (λ_ p E=>?_) λ_ _ z=>z.elim;calc zo<|F9 E (λ_ o D=>zo<|F9 D (λok i q=>?_) λ_ _ z=>z.elim) λ_ _ z=>z.elim;cases ok with
  |false=>exact zp ⟨U,q⟩
  |true=>calc zo (zo<|F9 q (λy l C=>zo<|F9 C (λ_ k B=>zp<|zp ⟨U,B⟩) λ_ _ z=>z.elim) λ_ _ z=>z.elim)
end
section
variable{elt iter:D0}{ifs:La D0}{x:Str}{px:Pos}{scope:Cr}{cl:La (Str×Ak)}{N:La Str}{fr:La Nat}{tt:TT}{te:TE}
theorem oj{I:La (Ak×Obj)}{B:St}{a:Cg}{q:Hp}{it:Ak}{g:La Ak}{tn:Nat->Az->Prop}{J:It}{Q:VK}{E:zz->Cg->Prop}{RR:zz->Ak->Hm->Cg->Prop}
  (O:qu X N fr scope cl x)(hc:X.calm=Ki)(h:Inv X I B q a)(T:Turn X.prog X.w X.K (.Name x px) J g it tn)(a2:tn 0 a.heap)(L:∀b∈g,kM X I q b)
  (ht:∀g C s H,PIf (bN X N scope cl g C s H) ifs tt)(he:∀g C s H,PE (bN X N scope cl g C s H) elt te)
  (hW:pb J fr tt te B Q q)
  (fin:∀D C s' H',a.heap.objs.size<=C->H' C=Kh->(∃m,s'.heap.Ns C m)->Inv X I B H' s'->Q (.ref D) H'->RR (.ref D) C (.ok .next) s') :
  DO (model X.prog X.w) X.A (HU []) (λa8 s3=>DO (model X.prog X.w) X.A (HV scope X.env.globals cl [] X.env.qual Kh .none (Kg X.env)) (λwF s4 =>
   Hn (model X.prog X.w) X.A (.compStart (.ListComp elt [⟨.Name x px,iter,ifs,0⟩] scope pos) 0 (.ref it) a8 { wF with scope:=relabel scope X.env }) (RR a8 wF.locals) s4) E s3) E a:=by
 refine HW (HY O.nocell (by intro y hy;simp at hy) (λh1 a3 P=>?_) O.kind);dsimp only at a3 P⊢;generalize hG:a.heap.push { cls:=.type "list",dict:=Kh,data:=.seq ([]:La zz).toArray }=G at a3 P⊢;let Z:G.objs.size=a.heap.objs.size+1:=by rw[←hG,Az.size_push]
 let F:∀b o,a.heap.get? b=Kg o->h1.get? b=Kg o:=λb o e=>P.extBut b o (tN (by rw[Z];exact vb (Az.lt_size e))) (Az.get?_push_of_some _<|hG ▸ Az.get?_push_of_some _ e)
 let wG:h1.get? a.heap.objs.size=Kg { cls:=.type "list",data:=.seq ([]:La zz).toArray 0 }:=P.extBut _ _ (tN (by rw[Z];exact vr _)) (Az.get?_push_of_some _<|hG ▸ Az.get?_push_size _ U);let hD:q a.heap.objs.size=none:=h.fresh;let M:(bN X N scope cl g G.objs.size a q).Ok:=by
  refine⟨h.ok.mod,O.kind,h.ok.glob,h.ok.blt,by show a.heap.objs.size<=G.objs.size;rw[Z];exact uM _,λy z c e1 e2=>h.ok.inj y z c (O.cells y c e1)<|O.cells z c e2,λy hy=>O.has y hy,λy c z=>Kp (show Kj=Ki from z) Bool.false_ne_true,h.ok.hd,h.ok.frames,.inl U,
   λb f=>⟨?_,λy c e=>(L b f).2.2.2.2.1 y c<|O.cells y c e⟩,h.bs,tT h.ok.bsz h.sz,λb o e f=>?_,λb f z=>?_,h.stack,h.stkFree⟩
  .let(o,e,_):=T.obj _ _ a2 b f;show b≠G.objs.size;exact tN (by rw[Z];exact vb (Az.lt_size e))
  .rcases(L b f).2.2.2.1 with z|z
   .exact h.ok.noex b o e z
   .exact Kp (tP (Az.lt_size e)<|tT h.ok.bsz z)<|va _
  .rcases dt.mp (h.stkSub b z)with z|z
   .exact(L b f).2.1 z
   .exact(L b f).2.2.1 z
 let mq:∀{H':Hp},(∀b∈g,H' b=Kh)->∀b∈g,kM (bN X N scope cl g G.objs.size a q) [] H' b:=λhn b f =>
  ⟨hn b f,(M.exf b f).1,M.exfs b f,.inl f,(M.exf b f).2,λp hp=>Kp (show p∈([]:La (Ak×Obj))from hp) (by simp)⟩
 let I':Inv (bN X N scope cl g G.objs.size a q) [] (gf B fr Kh) (upd q a.heap.objs.size<|.lst []) { a with heap:=h1,toks:=a.toks+([]:La (Str×zz)).length }:=by
  refine⟨M,U,h.bare,Un.laid F (tj _) hD,⟨_,a3,λi y v e1 e2 e3=>?_⟩,λy c e=>?_,?_,λy c e=>?_,λp hp=>Kp (show p∈([]:La (Ak×Obj))from hp) (by simp),h.hok.laid F (tj _) ⟨tS _,[],0,.nil,wG⟩,?_⟩
  .cases i with
   |zero=>cases e2
   |succ i =>
    let(j,q1,q2,q3,q4):=O.sub i y e1;let R:(B[j]?).join=Kg v:=by
     have:(fr.map λj=>(B[j]?).join)[i]?=Kg (Kg v):=e2;rw[dy,q1]at this;exact Option.some.inj this
    let e4:B[j]?=Kg (Kg v):=by
     cases z:B[j]? with
     |none=>rw[z]at R;cases R
     |some t=>rw[z]at R;exact Kt Kg R
    let(m,_,hl):=h.loc;let b3:Vis X.env.scope y:=.inr q3;let(u,r,l):=hl j y v q2 e4 b3;calc⟨u,r,.inr ⟨q4,?_⟩⟩;let(c',a6):=O.has y q4;rcases l with⟨k,_⟩|⟨_,c,ec,ic⟩
    .rcases q3 with z|z
     .rw[z]at k;cases k
     .rw[z]at k;cases k
    .let:=O.cells y c' a6;let e':c=c':=Option.some.inj<|ec.symm.trans this;let(o,ho,hd):=ic;rw[e']at ho;exact⟨c',a6,o,F c' o ho,hd⟩
  .let(v,o,ho,hd):=h.cell y c<|O.cells y c e;exact⟨v,o,F c o ho,hd⟩
  .show upd q a.heap.objs.size (.lst []) G.objs.size=Kh;rw[aq (tR (by rw[Z];exact vr _))];exact h.hok.fresh (by rw[Z];exact uM _)
  .let(v,o,ho,hd):=h.cell y c<|O.cells y c e;rw[aq (tN<|Az.lt_size ho)];exact h.freeC y c<|O.cells y c e
  .show(gf B fr Kh).length=N.length;rw[O.len];simp[gf]
 let a5:tn 0 h1:=T.keep _ _ _ a2 λb f o e=>F b o e
 let S:∀s3:Cg,s3={ a with heap:=h1,toks:=a.toks+([]:La (Str×zz)).length } ->
   Hn (model X.prog X.w) X.A (.compLoop (.ListComp elt [⟨.Name x px,iter,ifs,0⟩] scope pos) 0 (.ref it) (.ref a.heap.objs.size)<|HP scope cl G.objs.size X.env) (RR (.ref a.heap.objs.size) G.objs.size) s3:=by
  rintro s3 rfl;let(W,(m0,w0),a9):=hW _ hD
  refine mn (λn s'=>∃i t H',Inv (bN X N scope cl g G.objs.size a q) [] (gf B fr t) H' s'/\tn i s'.heap/\(∀b∈g,H' b=Kh)/\W i n H') ?_ m0
   ⟨0,Kh,_,I',a5,λb f=>by
    rw[aq (by let(o,e,_):=T.obj _ _ a2 b f;exact tN (Az.lt_size e))];exact(L b f).1,w0⟩
  rintro n s' ⟨i,t,H',I3,a4,a7,w3⟩;rcases a9 i n H' w3 with⟨b0,qn⟩|⟨go,step⟩
  .refine thn (T.done (bN X N scope cl g G.objs.size a q) U U U hc i [] s' _ H' _ I3 (mq a7) a4 b0) λr s4 ⟨hr,I4⟩=>?_
   subst hr;let(m,Y,_):=I4.loc;refine fin _ _ s4 H' (by rw[Z];exact uM _) I4.free ⟨m,Y⟩ (h.call' (ch:=g) I4.os I4.base I4.hok I4.bare λb f=>?_) qn;exact⟨(L b f).2.2.2.1,(L b f).2.1,(L b f).2.2.2.2.1,(L b f).2.2.2.2.2⟩
  .refine thn (T.item (bN X N scope cl g G.objs.size a q) U U U hc i [] s' _ H' _ I3 (mq a7) a4 go) λr s4 ⟨u,hr,h4⟩=>?_
   subst hr;refine thn h4 λ_ s5 ⟨y,H5,I5,r5,y5,a1,b5⟩=>?_
   let c0:=I5.pinned (mq b5)<|T.obj _ _ a1;let lx:(bN X N scope cl g G.objs.size a q).env.scope.names.lookup x=Kg .local:=lookup_relabel_local O.hx;refine thn (aE (X:=bN X N scope cl g G.objs.size a q) (i:=0) O.nd O.n0 (.inl lx) (.inr lx) _ s5 _ H5 y u (λb2 H'=>b2=gf B fr (Kg y)/\H'=H5) c0 r5 ⟨U,U⟩) λ_ s6 ⟨c1,H6,I6,e6,b6⟩=>?_
   subst e6;subst b6
   let again:∀{a0:St}{H7:Hp}{s7:Cg}{V:Nat},a0=gf B fr (Kg y)->Inv (bN X N scope cl g G.objs.size a q) ([]++kO g s5.heap) a0 H7 s7->V<n->W (i+1) V H7 ->
     ∃m,m<n/\∃i t H',Inv (bN X N scope cl g G.objs.size a q) [] (gf B fr t) H' s7/\tn i s7.heap/\(∀b∈g,H' b=Kh)/\W i m H':=λ{a0 H7 s7 V} e7 I7 Y w7=>by
    subst e7;calc⟨V,Y,i+1,Kg y,H7,I7.unpinned,T.keep _ _ _ a1 λb f o e=>(I7.pin (b,o)<|hH _<|hH _<|eG f e).1,λb f=>?_,w7⟩;let(o,e,d):=T.obj _ _ a1 b f;exact(I7.pin (b,o)<|hH _<|hH _<|eG f e).2.1
   refine thn (ht g G.objs.size a q _ s6 _ H6 _ I6<|step y H6 y5) λok s7 ⟨H7,I7,q7⟩=>?_
   cases ok with
   |false =>
    rw[Kn Bool.false_ne_true]at q7⊢;let(V,Y,w7):=q7;exact again U I7 Y w7
   |true =>
    rw[Ko U]at q7⊢;refine thn (he g G.objs.size a q _ s7 _ H7 _ I7 q7) λu8 s8 ⟨v8,H8,I8,r8,ys,b4,b1,V,Y,w8⟩=>?_
    refine thn (cz (X:=bN X N scope cl g G.objs.size a q) _ s8 _ H8 (.ref a.heap.objs.size) [v8] _ [u8] (λ_ H9=>W (i+1) V H9) I8 U (.cons r8 .nil) ⟨_,ys,v8,U,U,b4,b1,w8⟩) λ_ s9 ⟨_,H9,I9,_,w9⟩=>?_
    exact again U I9 Y w9
 calc HZ (S _ U)<|T.self _ 0 _ _ _ a5<|S _ U
theorem Inv.left{a:La (Ak×Obj)}{h g:St}{i s':Cg}{r H':Hp}{C:Ak}{h':Az}(f:Inv X a g r i)(q:Inv X a h H' s')(d:i.heap.objs.size<=C)(m:H' C=Kh)(j:Az.SameBut C s'.heap h'):Inv X a h H' { s' with heap:=h' }:=by
 refine q.turned (t':=s'.toks) (it:=C) (λb o n e=>(j.2 b n).trans e) m (tR<|tP f.lt d) (.inr<|tT f.sz d) (λy c e=>?_) λp k=>?_
 .let(v,o,l,_):=f.cell y c e;exact tN<|tP (Az.lt_size l) d
 .exact tN<|tP (Az.lt_size (f.pin p k).1) d
theorem bK{i:TI}(hi:PI X (.Name x px) iter i)(O:qu X N fr scope cl x)(r:X.calm=Ki)(k:∀b C s H,PIf (bN X N scope cl b C s H) ifs tt)(p:∀b C s H,PE (bN X N scope cl b C s H) elt te)
  (l:∀v,G1 iter X.env v=pure v:=by intro _;rfl):PE X (.ListComp elt [⟨.Name x px,iter,ifs,0⟩] scope pos) (zG i fr tt te):=by
 intro a s g H Q I h;rw[Ia];calc Ib (use:=Kh) U l O.clos O.kind O.names<|thn (hi a s g H _ I h) λv L z=>thn z λG K y=>?_;let(P,b,tn,J,S,e,j,T,c,B,t):=y;subst e;refine oj (RR:=λf C=>Ic (model X.prog X.w) X.A X.xe Kh (EP X a g Q) f C) O r j T c B k p t λD C M F u n ⟨m,o⟩ E q=>?_
 calc⟨m,o,λR d=>⟨.ref D,F,j.left E u n d,U,q⟩⟩
theorem eZ{E:TI}{i:Nat}{y:Str}{d F:Pos}(hN:X.N.Nodup)(G:X.N[i]?=Kg y)(V:Loc X.env.scope y)(hi:PI X (.Name x px) iter E)(O:qu X N fr scope cl x)(Z:X.calm=Ki)
  (K:∀f C s H,PIf (bN X N scope cl f C s H) ifs tt)(Y:∀f C s H,PE (bN X N scope cl f C s H) elt te)(L:∀v,G1 iter X.env v=pure v:=by intro _;rfl)
  (n:GJ (.ListComp elt [⟨.Name x px,iter,ifs,0⟩] scope pos) (Kg<|.Name y d) F.line X.env=pure true:=by rfl)(W:X.fn y=Ki\/X.env.scope.names.lookup y=Kg .local:=by first|exact .inl U|exact .inr U|assumption) :
  PS X (.Assign [.Name y d] (.ListComp elt [⟨.Name x px,iter,ifs,0⟩] scope pos) F) (yi (zG E fr tt te)<|nV i):=by
 intro b s B H k I h;rw[Ie _ _ _ _ n];calc zo<|GO<|zo ?_;show DO _ X.A (do let _ ←comprehension (.ListComp elt [⟨.Name x px,iter,ifs,0⟩] scope pos) scope X.env _ (HU []) Kj (eval iter X.env) (Kg<|assign (.Name y d) X.env)) _ _ s;calc zo<|F9 (Ib (use:=Kg<|assign (.Name y d) X.env) (Q:=λ_ c=>SP X b k .next c) U L O.clos O.kind O.names<|thn (hi b s B H _ I h) λv s1 h1=>thn h1 λa0 s2 h2=>?_) (λ_ c M=>zp<|zp M) λ_ _ z=>z;let(it,f,tn,J,H2,e,g,T,l,f2,hW):=h2;subst e;refine oj (Q:=λv H1=>nV i v B H1 k.nx) (RR:=λu C=>Ic (model X.prog X.w) X.A X.xe (Kg<|assign (.Name y d) X.env) (λ_ c=>SP X b k .next c) u C) O Z g T l f2 K Y hW λD C c H' j R ⟨m,S⟩ I' q=>?_
 show DO _ X.A (assign (.Name y d) X.env<|.ref D) _ _ c;calc GN<|kK I' hN G V (v:=.ref D) U (λs3 I3 ⟨a,p,ha⟩=>?_) W;let t:C≠a:=by
  rcases ha with z|z
  .rw[z];exact tR<|tP g.lt j
  .let(v,o,P,_):=g.cell y a z;exact tR<|tP (Az.lt_size P) j
 calc⟨m,S.sameBut p t,λh' r=>⟨_,H',g.left I3 j R r,q⟩⟩
def eX(c:Ak->Nat->La V->Hp->Prop)(D:Ak)(i n:Nat)(d:Hp):Prop:=∃a,a<n-i/\a=n-(i+1)/\i+1<=n/\∃b,c D (i+1) b d
def b7(c:Ak->Nat->La V->Hp->Prop)(D:Ak)(i n:Nat):VK:=λy b=>∃a,b D=Kg (.lst a)/\a.length<AA/\eX c D i n (upd b D<|.lst<|a++[y])
theorem eX.mk{a:Ak->Nat->La V->Hp->Prop}{D:Ak}{i n:Nat}{b:Hp}{zs:La V}(hi:i<n)(h:a D (i+1) zs b):eX a D i n b:=⟨n-(i+1),∅,U,hi,zs,h⟩
theorem b7.mk{b:Ak->Nat->La V->Hp->Prop}{D:Ak}{i n:Nat}{a:Hp}{ys:La V}{y:V}(hi:i<n)(e:a D=Kg (.lst ys))(c:ys.length<AA)(h:b D (i+1) (ys++[y]) (upd a D<|.lst<|ys++[y])):b7 b D i n y a:=⟨ys,e,c,.mk hi h⟩
theorem bj{K:W.Frag}{a:Ak}{xs:La V}{g:St}{d:Hp}{Q:VK}(c:Ak->Nat->La V->Hp->Prop)(n:∀D,d D=Kh->c D 0 [] (upd d D<|.lst []))
  (l:∀D i ys H,d D=Kh->i<=xs.length->c D i ys H->SqL K H a xs)
  (k:∀D i x ys H,d D=Kh->xs[i]?=Kg x->c D i ys H->tt (gf g fr<|Kg x) H λb j=>if b=Ki then te (gf g fr<|Kg x) j (b7 c D i xs.length)else eX c D i xs.length j)
  (hd:∀D ys H,d D=Kh->c D xs.length ys H->Q (.ref D) H):pb (Itl K a) fr tt te g Q d:=by
 intro D f;calc⟨λi m H=>m=xs.length-i/\i<=xs.length/\∃ys,c D i ys H,⟨_,U,tS _,[],n D f⟩,?_⟩;rintro i m H ⟨rfl,hi,ys,p⟩;let q:=l D i ys H f hi p;by_cases h:i<xs.length
 .refine .inr ⟨⟨xs,xs[i],q,by simp[h]⟩,λx o y=>?_⟩;let(e,y):=y;subst e;exact k D i x ys _ f (y xs q) p
 .let e:i=xs.length:=∅
  subst e;calc .inl ⟨⟨xs,q,tj _⟩,hd D ys H f p⟩
theorem bP{lo:Int}{n:Nat}{f:St}{c:Hp}{Q:VK}(a:Ak->Nat->La V->Hp->Prop)(k:∀D,c D=Kh->a D 0 [] (upd c D<|.lst []))
  (j:∀D i ys H,c D=Kh->i<n->a D i ys H->tt (gf f fr<|Kg<|.int<|lo+i) H λb h=>if b=Ki then te (gf f fr<|Kg<|.int<|lo+i) h (b7 a D i n)else eX a D i n h)
  (hd:∀D ys H,c D=Kh->a D n ys H->Q (.ref D) H):pb (Itr lo n) fr tt te f Q c:=by
 intro D g;calc⟨λi m H=>m=n-i/\i<=n/\∃ys,a D i ys H,⟨_,U,tS _,[],k D g⟩,?_⟩;rintro i m H ⟨rfl,hi,ys,p⟩;by_cases d:i<n
 .refine .inr ⟨d,λx l y=>?_⟩;let(e,y):=y;subst e;subst y;exact j D i ys _ g d p
 .let e:i=n:=∅
  subst e;calc .inl ⟨tj _,hd D ys H g p⟩
end
structure mr(X:Cx)(N:La Str)(k:Nat)(fr:La Nat)(scope:Cr)(cl:La (Str×Ak)):Prop where
 clos:HQ scope X.env=pure cl
 kind:scope.kind=.function
 nocell:∀y∈scope.names,y.2≠.cell
 names:∀y∈scope.names,y.2=.local->scope.names.lookup y.1=Kg .local
 len:N.length=k+fr.length
 sub:∀(i:Nat)(y:Str),N[k+i]?=Kg y->∃j,fr[i]?=Kg j/\X.N[j]?=Kg y/\(X.env.kindOf y=Kg .cell\/X.env.kindOf y=Kg .free)/\((relabel scope X.env).names.lookup y=Kg .cell\/(relabel scope X.env).names.lookup y=Kg .free)
 cells:∀y c,cl.lookup y=Kg c->X.env.cells.lookup y=Kg c
 has:∀y,((relabel scope X.env).names.lookup y=Kg .cell\/(relabel scope X.env).names.lookup y=Kg .free)->∃c,cl.lookup y=Kg c
theorem dj{X:Cx}{N:La Str}{k:Nat}{scope:Cr}(len:N.length=k)(kind:scope.kind=.function)(a:∀y∈scope.names,y.2≠.free)(b:∀y∈scope.names,y.2≠.cell)
  (names:∀y∈scope.names,y.2=.local->scope.names.lookup y.1=Kg .local):mr X N k [] scope []:=by
 let f:(relabel scope X.env).names=scope.names:=map_eq_self λy d=>by
  let z:(y.2 == HB.free)=false:= ~~~a y d
  simp[z]
 let no:∀y,¬ ((relabel scope X.env).names.lookup y=Kg .cell\/(relabel scope X.env).names.lookup y=Kg .free):=λy h=>by
  rw[f]at h;rcases h with h|h
  .exact b _ (mem_of_lookup h) U
  .exact a _ (mem_of_lookup h) U
 refine⟨HR a,kind,b,names,by rw[len];rfl,λi y e=>?_,(λy c e=>by cases e),λy h=>Kp h<|no y⟩;let:=(GD.mp e).1;lia
def dX(a:St)(fr:La Nat)(b:St):St:=b++fr.map λj=>(a[j]?).join
def ko(J:It)(q:TG)(k:Nat)(fr:La Nat)(o:TT)(p:TE)(f:St)(Q:VK)(l:Hp):Prop:=∀D,l D=Kh->∃W:Nat->Nat->Hp->Prop,(∃m,W 0 m<|upd l D<|.lst [])/\∀i m H,W i m H ->
 (J.stop i H/\Q (.ref D) H)\/(J.go i H/\∀x n,J.yld i H x n->∀g:St,g.length=k->q x (dX f fr g) n λa r=>(∃d:St,d.length=k/\a=dX f fr d)/\o a r λb j=>if b=Ki then p a j λy h=>∃e,h D=Kg (.lst e)/\e.length<AA/\∃c,c<m/\W (i+1) c (upd h D<|.lst<|e++[y])
  else ∃c,c<m/\W (i+1) c j)
def wI(b:TI)(e:TG)(k:Nat)(fr:La Nat)(c:TT)(d:TE):TE:=λa H Q=>b a H λJ f=>ko J e k fr c d a Q f
section
variable{elt iter tg:D0}{ifs:La D0}{scope:Cr}{cl:La (Str×Ak)}{N:La Str}{k:Nat}{fr:La Nat}{gt:TG}{tt:TT}{te:TE}
theorem mx{I:La (Ak×Obj)}{B:St}{a:Cg}{q:Hp}{it:Ak}{g:La Ak}{tn:Nat->Az->Prop}{J:It}{Q:VK}{E:zz->Cg->Prop}{RR:zz->Ak->Hm->Cg->Prop}
  (O:mr X N k fr scope cl)(hc:X.calm=Ki)(h:Inv X I B q a)(T:Turn X.prog X.w X.K tg J g it tn)(a2:tn 0 a.heap)(L:∀b∈g,kM X I q b)
  (ht:∀g C s H,PIf (bN X N scope cl g C s H) ifs tt)(he:∀g C s H,PE (bN X N scope cl g C s H) elt te)
  (hg:∀g C s H,PG (bN X N scope cl g C s H) tg gt)(hW:ko J gt k fr tt te B Q q)
  (fin:∀D C s' H',a.heap.objs.size<=C->H' C=Kh->(∃m,s'.heap.Ns C m)->Inv X I B H' s'->Q (.ref D) H'->RR (.ref D) C (.ok .next) s') :
  DO (model X.prog X.w) X.A (HU []) (λb0 s3=>DO (model X.prog X.w) X.A (HV scope X.env.globals cl [] X.env.qual Kh .none (Kg X.env)) (λwF s4 =>
   Hn (model X.prog X.w) X.A (.compStart (.ListComp elt [⟨tg,iter,ifs,0⟩] scope pos) 0 (.ref it) b0 { wF with scope:=relabel scope X.env }) (RR b0 wF.locals) s4) E s3) E a:=by
 refine HW (HY O.nocell (by intro y hy;simp at hy) (λh1 a3 P=>?_) O.kind);dsimp only at a3 P⊢;generalize hG:a.heap.push { cls:=.type "list",dict:=Kh,data:=.seq ([]:La zz).toArray }=G at a3 P⊢;let Z:G.objs.size=a.heap.objs.size+1:=by rw[←hG,Az.size_push]
 let F:∀b o,a.heap.get? b=Kg o->h1.get? b=Kg o:=λb o e=>P.extBut b o (tN (by rw[Z];exact vb (Az.lt_size e))) (Az.get?_push_of_some _<|hG ▸ Az.get?_push_of_some _ e)
 let wG:h1.get? a.heap.objs.size=Kg { cls:=.type "list",data:=.seq ([]:La zz).toArray 0 }:=P.extBut _ _ (tN (by rw[Z];exact vr _)) (Az.get?_push_of_some _<|hG ▸ Az.get?_push_size _ U);let hD:q a.heap.objs.size=none:=h.fresh;let M:(bN X N scope cl g G.objs.size a q).Ok:=by
  refine⟨h.ok.mod,O.kind,h.ok.glob,h.ok.blt,by show a.heap.objs.size<=G.objs.size;rw[Z];exact uM _,λy z c e1 e2=>h.ok.inj y z c (O.cells y c e1)<|O.cells z c e2,λy hy=>O.has y hy,λy c z=>Kp (show Kj=Ki from z) Bool.false_ne_true,h.ok.hd,h.ok.frames,.inl U,
   λb f=>⟨?_,λy c e=>(L b f).2.2.2.2.1 y c<|O.cells y c e⟩,h.bs,tT h.ok.bsz h.sz,λb o e f=>?_,λb f z=>?_,h.stack,h.stkFree⟩
  .let(o,e,_):=T.obj _ _ a2 b f;show b≠G.objs.size;exact tN (by rw[Z];exact vb (Az.lt_size e))
  .rcases(L b f).2.2.2.1 with z|z
   .exact h.ok.noex b o e z
   .exact Kp (tP (Az.lt_size e)<|tT h.ok.bsz z)<|va _
  .rcases dt.mp (h.stkSub b z)with z|z
   .exact(L b f).2.1 z
   .exact(L b f).2.2.1 z
 let mq:∀{H':Hp},(∀b∈g,H' b=Kh)->∀b∈g,kM (bN X N scope cl g G.objs.size a q) [] H' b:=λhn b f =>
  ⟨hn b f,(M.exf b f).1,M.exfs b f,.inl f,(M.exf b f).2,λp hp=>Kp (show p∈([]:La (Ak×Obj))from hp) (by simp)⟩
 let I':Inv (bN X N scope cl g G.objs.size a q) [] (dX B fr<|List.replicate k Kh) (upd q a.heap.objs.size<|.lst []) { a with heap:=h1,toks:=a.toks+([]:La (Str×zz)).length }:=by
  refine⟨M,U,h.bare,Un.laid F (tj _) hD,⟨_,a3,λi y v e1 e2 e3=>?_⟩,λy c e=>?_,?_,λy c e=>?_,λp hp=>Kp (show p∈([]:La (Ak×Obj))from hp) (by simp),h.hok.laid F (tj _) ⟨tS _,[],0,.nil,wG⟩,?_⟩
  .by_cases a7:i<k
   .let x:(List.replicate k Kh++fr.map λj=>(B[j]?).join)[i]?=Kg (Kg v):=e2;rw[hY (by rw[jb];exact a7),List.getElem?_replicate,Ko a7]at x;cases x
   .let(j,q1,q2,q3,q4):=O.sub (i-k) y (by rw[show k+(i-k)=i by lia];exact e1);let x:(B[j]?).join=Kg v:=by
     have:(List.replicate k Kh++fr.map λj=>(B[j]?).join)[i]?=Kg (Kg v):=e2;rw[iJ (by rw[jb];lia),jb,dy,q1]at this;exact Option.some.inj this
    let e4:B[j]?=Kg (Kg v):=by
     cases z:B[j]? with
     |none=>rw[z]at x;cases x
     |some t=>rw[z]at x;exact Kt Kg x
    let(m,_,hl):=h.loc;let b4:Vis X.env.scope y:=.inr q3;let(u,r,l):=hl j y v q2 e4 b4;calc⟨u,r,.inr ⟨q4,?_⟩⟩;let(c',a8):=O.has y q4;rcases l with⟨k,_⟩|⟨_,c,ec,ic⟩
    .rcases q3 with z|z
     .rw[z]at k;cases k
     .rw[z]at k;cases k
    .let:=O.cells y c' a8;let e':c=c':=Option.some.inj<|ec.symm.trans this;let(o,ho,hd):=ic;rw[e']at ho;exact⟨c',a8,o,F c' o ho,hd⟩
  .let(v,o,ho,hd):=h.cell y c<|O.cells y c e;exact⟨v,o,F c o ho,hd⟩
  .show upd q a.heap.objs.size (.lst []) G.objs.size=Kh;rw[aq (tR (by rw[Z];exact vr _))];exact h.hok.fresh (by rw[Z];exact uM _)
  .let(v,o,ho,hd):=h.cell y c<|O.cells y c e;rw[aq (tN<|Az.lt_size ho)];exact h.freeC y c<|O.cells y c e
  .show(dX B fr<|List.replicate k Kh).length=N.length;rw[O.len];simp[dX]
 let a6:tn 0 h1:=T.keep _ _ _ a2 λb f o e=>F b o e
 let R:∀s3:Cg,s3={ a with heap:=h1,toks:=a.toks+([]:La (Str×zz)).length } ->
   Hn (model X.prog X.w) X.A (.compLoop (.ListComp elt [⟨tg,iter,ifs,0⟩] scope pos) 0 (.ref it) (.ref a.heap.objs.size)<|HP scope cl G.objs.size X.env) (RR (.ref a.heap.objs.size) G.objs.size) s3:=by
  rintro s3 rfl;let(W,(m0,w0),b1):=hW _ hD
  refine mn (λn s'=>∃i S H',S.length=k/\Inv (bN X N scope cl g G.objs.size a q) [] (dX B fr S) H' s'/\tn i s'.heap/\(∀b∈g,H' b=Kh)/\W i n H') ?_ m0
   ⟨0,List.replicate k Kh,_,jb,I',a6,λb f=>by
    rw[aq (by let(o,e,_):=T.obj _ _ a2 b f;exact tN (Az.lt_size e))];exact(L b f).1,w0⟩
  rintro n s' ⟨i,S,H',b6,I3,a5,a9,w3⟩;rcases b1 i n H' w3 with⟨b2,qn⟩|⟨go,step⟩
  .refine thn (T.done (bN X N scope cl g G.objs.size a q) U U U hc i [] s' _ H' _ I3 (mq a9) a5 b2) λr s4 ⟨hr,I4⟩=>?_
   subst hr;let(m,Y,_):=I4.loc;refine fin _ _ s4 H' (by rw[Z];exact uM _) I4.free ⟨m,Y⟩ (h.call' (ch:=g) I4.os I4.base I4.hok I4.bare λb f=>?_) qn;exact⟨(L b f).2.2.2.1,(L b f).2.1,(L b f).2.2.2.2.1,(L b f).2.2.2.2.2⟩
  .refine thn (T.item (bN X N scope cl g G.objs.size a q) U U U hc i [] s' _ H' _ I3 (mq a9) a5 go) λr s4 ⟨u,hr,h4⟩=>?_
   subst hr;refine thn h4 λ_ s5 ⟨y,H5,I5,r5,y5,a1,c0⟩=>?_
   let c1:=I5.pinned (mq c0)<|T.obj _ _ a1;refine thn (hg g G.objs.size a q _ s5 _ H5 y u _ c1 r5<|step y H5 y5 S b6) λ_ s6 ⟨c2,H6,I6,⟨a4,DI,e6⟩,q6⟩=>?_
   subst e6
   let again:∀{a0:St}{H7:Hp}{s7:Cg}{V:Nat},a0=dX B fr a4->Inv (bN X N scope cl g G.objs.size a q) ([]++kO g s5.heap) a0 H7 s7->V<n->W (i+1) V H7 ->
     ∃m,m<n/\∃i S H',S.length=k/\Inv (bN X N scope cl g G.objs.size a q) [] (dX B fr S) H' s7/\tn i s7.heap/\(∀b∈g,H' b=Kh)/\W i m H':=λ{a0 H7 s7 V} e7 I7 Y w7=>by
    subst e7;calc⟨V,Y,i+1,a4,H7,DI,I7.unpinned,T.keep _ _ _ a1 λb f o e=>(I7.pin (b,o)<|hH _<|hH _<|eG f e).1,λb f=>?_,w7⟩;let(o,e,d):=T.obj _ _ a1 b f;exact(I7.pin (b,o)<|hH _<|hH _<|eG f e).2.1
   refine thn (ht g G.objs.size a q _ s6 _ H6 _ I6 q6) λok s7 ⟨H7,I7,q7⟩=>?_
   cases ok with
   |false =>
    rw[Kn Bool.false_ne_true]at q7⊢;let(V,Y,w7):=q7;exact again U I7 Y w7
   |true =>
    rw[Ko U]at q7⊢;refine thn (he g G.objs.size a q _ s7 _ H7 _ I7 q7) λu8 s8 ⟨v8,H8,I8,r8,ys,b5,b3,V,Y,w8⟩=>?_
    refine thn (cz (X:=bN X N scope cl g G.objs.size a q) _ s8 _ H8 (.ref a.heap.objs.size) [v8] _ [u8] (λ_ H9=>W (i+1) V H9) I8 U (.cons r8 .nil) ⟨_,ys,v8,U,U,b5,b3,w8⟩) λ_ s9 ⟨_,H9,I9,_,w9⟩=>?_
    exact again U I9 Y w9
 calc HZ (R _ U)<|T.self _ 0 _ _ _ a6<|R _ U
theorem gg{i:TI}(hi:PI X tg iter i)(O:mr X N k fr scope cl)(u:X.calm=Ki)(r:∀b C s H,PG (bN X N scope cl b C s H) tg gt)(l:∀b C s H,PIf (bN X N scope cl b C s H) ifs tt)(t:∀b C s H,PE (bN X N scope cl b C s H) elt te)
  (n:∀v,G1 iter X.env v=pure v:=by intro _;rfl):PE X (.ListComp elt [⟨tg,iter,ifs,0⟩] scope pos) (wI i gt k fr tt te):=by
 intro a s g H Q I h;rw[Ia];calc Ib (use:=Kh) U n O.clos O.kind O.names<|thn (hi a s g H _ I h) λv M B=>thn B λK L z=>?_;let(R,b,tn,J,V,e,j,T,c,E,x):=z;subst e;refine mx (RR:=λf C=>Ic (model X.prog X.w) X.A X.xe Kh (EP X a g Q) f C) O u j T c E l t r x λD C P G y o ⟨m,p⟩ F q=>?_
 calc⟨m,p,λS d=>⟨.ref D,G,j.left F y o d,U,q⟩⟩
theorem eJ{K:W.Frag}{a:Ak}{xs:La V}{j:St}{f:Hp}{Q:VK}(c:Ak->Nat->La V->Hp->Prop)(t:∀D,f D=Kh->c D 0 [] (upd f D<|.lst []))
  (s:∀D i ys H,f D=Kh->i<=xs.length->c D i ys H->SqL K H a xs)
  (r:∀D i x ys H,f D=Kh->xs[i]?=Kg x->c D i ys H->∀n:St,n.length=k->gt x (dX j fr n) H λd u=>(∃g:St,g.length=k/\d=dX j fr g)/\tt d u λb o=>if b=Ki then te d o (b7 c D i xs.length)else eX c D i xs.length o)
  (hd:∀D ys H,f D=Kh->c D xs.length ys H->Q (.ref D) H):ko (Itl K a) gt k fr tt te j Q f:=by
 intro D h;calc⟨λi m H=>m=xs.length-i/\i<=xs.length/\∃ys,c D i ys H,⟨_,U,tS _,[],t D h⟩,?_⟩;rintro i m H ⟨rfl,hi,ys,p⟩;let q:=s D i ys H h hi p;by_cases l:i<xs.length
 .refine .inr ⟨⟨xs,xs[i],q,by simp[l]⟩,λx v y=>?_⟩;let(e,y):=y;subst e;exact r D i x ys _ h (y xs q) p
 .let e:i=xs.length:=∅
  subst e;calc .inl ⟨⟨xs,q,tj _⟩,hd D ys H h p⟩
end
theorem om{X:Cx}{K:W.Frag}{a:La D0}{k:Nat}{t:TGs}{n:Nat}{pos:Pos}(e:X.K=K)(d:X.calm=Ki)(h:PGs X a t)(c:(GL a X.env).length=n:=by rfl)(b:(GL a X.env).findIdx? (·.1)=none:=by rfl):PG X (.Tuple a k pos) (BO K n t):=e ▸ dQ d h c b
end L2
namespace Srt
open PySem PySem.W PyProof.Rows
def Ok(n:Nat)(lt:Nat->Nat->Bool){b:Type}:KasT b->(b->Prop)->Prop
 | .ret a,Q=>Q a
 | .ask i j k,Q=>i<n/\j<n/\Ok n lt (k<|lt i j) Q
section
variable{n:Nat}{lt:Nat->Nat->Bool}
abbrev g(p:Array Nat)(i:Nat):Nat:=p.getD i 0
structure Ord(lt:Nat->Nat->Bool):Prop where
 tr:∀a b c,lt b a=Kj->lt c b=Kj->lt c a=Kj
 as:∀a b,lt a b=Ki->lt b a=Kj
end
end Srt
namespace L2
open PySem PySem.Spec PySem.W PyProof.Rows
variable{prog:zM}{w:zJ}{A:Cd}{E:zz->Cg->Prop}{s:Cg}
variable{X:Cx}
structure F8(S A B A0 B0:La Pr):Prop where
 ap:Apart S
 aA:Apart A
 aB:Apart B
 mem:∀n,(inP A0 n && inP B0 n)=(inP S n || (inP A n && inP B n))
 gap:∀s∈S,(∀p∈A,s.2+2<=p.1)\/(∀p∈B,s.2+2<=p.1)
structure Gh(F T:La Pr)(lo hi st:Int):Prop where
 ap:Apart F
 lt:∀s∈F,s.2+2<=st
 rng:∀s∈F,lo<=s.1/\s.2<=hi
 tk:∀p∈T,p.2<st
 fr:st=lo\/∃p∈T,st=p.2+1
 ge:lo<=st
 mem:∀n,lo<=n->n<=hi->n<st->inP F n = !inP T n
structure Walk(ts:La (Int×Int×Int)):Prop where
 le:∀t∈ts,t.1<=t.2.1
 nx:∀(i:Nat) a b,ts[i]?=Kg a->ts[i+1]?=Kg b->b.1=a.2.1+1
def pcs(msk:Int->Bool)(a:La (Int×Int×Int))(n:Int):Bool:=a.any λt=>inR n (t.1,t.2.1) && msk t.2.2
structure Gi(R:La Pr)(ts:La (Int×Int×Int))(msk:Int->Bool)(i:Nat)(at_:Int):Prop where
 ap:Apart R
 mem:∀n,inP R n=pcs msk (ts.take i) n
 lt:∀r∈R,r.2<at_
 few:2*R.length<=i\/(2*R.length<=i+1/\∃R' l,R=R'++[l]/\l.2=at_-1)
section
variable{R:La Pr}{ts:La (Int×Int×Int)}{msk:Int->Bool}{i:Nat}{at_:Int}{t:Int×Int×Int}
end
def ends(R:La Pr):La Int:=R.flatMap λp=>[p.1,p.2+1]
theorem lI(a:La Int):∀k,k<=a.length->preSum (λi=>a.getD i 0) k=(a.take k).sum
 |0,_=>rfl
 |k+1,h=>by
  let b:=lI a k ∅;show preSum (λi=>a.getD i 0) k+a.getD k 0=_;let e:a[k]?=Kg a[k]:=GC ∅;rw[b,lA,e,List.sum_append,hJ,e];simp
theorem jr(D:X.calm=Ki):cw X (.builtin "sum") (λus H Q=>∃(a:Ak)(c:La Int),us=[.ref a]/\SqL X.K H a (c.map V.int)/\Q (.int c.sum) H):=by
 intro p s J H us L Q I r h;let(a,c,rfl,B,q):=h;let(u,rfl,x):=r.one;cases (show u=zz.ref a from x);let(d,l,j,N):=I.list B;let k:=l.length;rw[dn]at k;let(M,G,_):=id j.isList;let f:a<s.heap.objs.size:=Az.lt_size G;calc call_sum_walkG<|GZ j.isList ?_;refine⟨s.heap.objs.size,[s.heap.objs.size,a],[s.heap.objs.size],_,_,_,λi=>c.getD i 0,U,GY.list (A:=X.A.in1) (I.ok.hd D) _ a (tN f) d.toArray,⟨⟨_,Az.get?_push_size _ U,U,U⟩,j.isList.at λo e=>Az.get?_push_of_some _ e⟩,λb E=>?_,λi v e=>?_,λO w t' C=>?_⟩
 .show b<(s.heap.push _).objs.size;rw[Az.size_push];rcases dt.mp E with z|z
  .rw[z];exact vr _
  .let g:b=a:= ~~~z
   rw[g];exact vb f
 .let n:d[i]?=Kg v:= ~~~e
  let hi:i<c.length:=by rw[k];exact(GD.mp n).1
  let F:(c.map V.int)[i]?=Kg (.int c[i]):=by rw[dy,GC hi];rfl
  let(u,m,y):=l.get F;rw[n]at m;cases m;let(t,rfl):=y;exact⟨t,by show zz.int c[i] t=zz.int (c.getD i 0) t;rw[hJ,GC hi];rfl⟩
 .refine⟨.int c.sum,H,I.kept (t':=w) λb o e=>C b o (λz=>?_)<|Az.get?_push_of_some _ e,⟨t',?_⟩,q⟩
  .let g:b=s.heap.objs.size:= ~~~z
   exact Kp (Az.lt_size e) (by rw[g];exact va _)
  .rw[dA,←k,lI c _<|tj _,fD]
def Its(z:Str):It:=⟨λi _=>i<z.cps.size,λi H x a=>a=H/\∃c,z.cps[i]?=Kg c/\x=.str ⟨#[c]⟩,λi _=>z.cps.size<=i⟩
theorem sy{P:zM}{w:zJ}{K:W.Frag}{L:D0}(z:Str)(t:Tok)(it:Ak):Turn P w K L (Its z) [it] it (λi h=>h.IsStrIter it "str_ascii_iterator" z t i) where
 mem:=by simp
 obj:=λi h f b g=>by
  let(o,e,c,d):=f;rw[show b=it by simpa using g];exact⟨o,e,λv q=>by rw[d]at q;cases q⟩
 keep:=λi h m ⟨o,e,r⟩ k=>⟨o,k it (by simp) o e,r⟩
 item:=by
  intro X u n x J i a s G H E I l f p;subst u n x;let F:i<z.cps.size:=p;let hi:z.cps[i]?=Kg z.cps[i]:=yc F;let(D,C,N,B,A,y):=l it (by simp);refine wpAny_pyNext_ascii_item f hi λm j M=>?_
  let Q:Inv X a G H { s with heap:=m,toks:=s.toks+1 }:=I.turned (t':=s.toks+1) (λb o g e=>(M.2 b g).trans e) D C B A y;let(o,e,c,d):=id j;exact⟨_,U,ql (s:={ s with heap:=m,toks:=s.toks+1 }) e c d ⋯ ⟨.str ⟨#[z.cps[i]]⟩,H,Q,⟨_,U⟩,⟨U,_,hi,U⟩,j,λb g=>(l b g).1⟩⟩
 done:=by
  intro X u n x J i a s G H E I l f p;subst u n x;let(D,C,N,B,A,y):=l it (by simp);exact wpAny_pyNext_ascii_end (I.ok.hd J) f (~~~(show z.cps.size<=i from p)) λm O=>⟨U,I.turned (t':=s.toks) (λb o g e=>O b o g e) D C B A y⟩
 self:=λ_ _ _ _ _ f h=>wpAny_pyIter_striter_ascii f h
theorem uX{P:zM}{w:zJ}{K:W.Frag}{L:D0}(z:Str)(t:Tok)(it:Ak):Turn P w K L (Its z) [it] it (λi h=>h.IsStrIter it "str_iterator" z t i) where
 mem:=by simp
 obj:=λi h f b g=>by
  let(o,e,c,d):=f;rw[show b=it by simpa using g];exact⟨o,e,λv q=>by rw[d]at q;cases q⟩
 keep:=λi h m ⟨o,e,r⟩ k=>⟨o,k it (by simp) o e,r⟩
 item:=by
  intro X u n x J i a s G H E I l f p;subst u n x;let F:i<z.cps.size:=p;let hi:z.cps[i]?=Kg z.cps[i]:=yc F;let(D,C,N,B,A,y):=l it (by simp);refine wpAny_pyNext_wide_item f hi λm j M=>?_
  let Q:Inv X a G H { s with heap:=m,toks:=s.toks+1 }:=I.turned (t':=s.toks+1) (λb o g e=>(M.2 b g).trans e) D C B A y;let(o,e,c,d):=id j;exact⟨_,U,ql (s:={ s with heap:=m,toks:=s.toks+1 }) e c d ⋯ ⟨.str ⟨#[z.cps[i]]⟩,H,Q,⟨_,U⟩,⟨U,_,hi,U⟩,j,λb g=>(l b g).1⟩⟩
 done:=by
  intro X u n x J i a s G H E I l f p;subst u n x;let(D,C,N,B,A,y):=l it (by simp);exact wpAny_pyNext_wide_end (I.ok.hd J) f (~~~(show z.cps.size<=i from p)) λm O=>⟨U,I.turned (t':=s.toks) (λb o g e=>O b o g e) D C B A y⟩
 self:=λ_ _ _ _ _ f h=>wpAny_pyIter_striter_wide f h
section
variable{tg:D0}
inductive zH  (R:(It->Hp->Prop))(x:V)(H1:Hp):Prop
 |mk (z:_)(_:x=.str z)(_:R (Its z) H1):zH R x H1
def DJ(b:TE):W.Frag->St->Hp->(It->Hp->Prop)->Prop:=λ_ a H R=>b a H λx c=>zH R x c
theorem AF{l:D0}{i:TE}(n:PE X l i):PI X tg l (DJ i X.K):=by
 intro c s j H R I h;refine thn (n c s j H _ I h) λv a ⟨x,g,f,k,m⟩=>?_
 let(z,e,q):=m;subst e;let(t,rfl):=k;let d:∀b∈[a.heap.objs.size],kM X c g b:=λb p=>by
  rw[show b=a.heap.objs.size by simpa using p];exact f.fpOk (tj _)<|f.hok.fresh<|tj _
 cases ha:z.cps.all (· < 128) with
 |true=>exact wpAny_pyIter_ascii ha ⟨a.heap.objs.size,[a.heap.objs.size],_,_,g,U,f.kept (t':=a.toks) λb o e=>Az.get?_push_of_some _ e,sy z t _,⟨_,Az.get?_push_size _ U,U,U⟩,d,q⟩
 |false=>calc wpAny_pyIter_wide ha ⟨a.heap.objs.size,[a.heap.objs.size],_,_,g,U,f.kept (t':=a.toks) λb o e=>Az.get?_push_of_some _ e,uX z t _,⟨_,Az.get?_push_size _ U,U,U⟩,d,q⟩
end
theorem yr{z:Str}{g:TG}{tb:TS}{D:Ends}{a:St}{H:Hp}(b:Nat->St->Hp->Prop)(s:b 0 a H)
  (q:∀i c a H,z.cps.toList[i]?=Kg c->b i a H->g (.str ⟨#[c]⟩) a H λd j=>tb { D with nx:=b<|i+1,ct:=b<|i+1,bk:=D.nx } d j)(r:∀a H,b z.cps.size a H->D.nx a H) :
  ∃W:Nat->Nat->St->Hp->Prop,(∃m,W 0 m a H)/\∀i m a H,W i m a H ->
   ((Its z).stop i H/\D.nx a H)\/((Its z).go i H/\∃N:St->Hp->Prop,(∀f H',N f H'->∃k,k<m/\W (i+1) k f H')/\∀x H',(Its z).yld i H x H'->g x a H' λd j=>tb { D with nx:=N,ct:=N,bk:=D.nx } d j):=by
 calc⟨λi m a H=>m=z.cps.size-i/\i<=z.cps.size/\b i a H,⟨_,U,tS _,s⟩,?_⟩;rintro i m a H ⟨rfl,hi,p⟩;by_cases h:i<z.cps.size
 .refine .inr ⟨h,b<|i+1,λf H' o=>⟨z.cps.size-(i+1),∅,U,h,o⟩,λx H' y=>?_⟩;let(e,c,n,l):=y;subst e;subst l;exact q i c a _ (~~~n) p
 .let e:i=z.cps.size:=∅
  subst e;calc .inl ⟨tj _,r a H p⟩
theorem qv:∀{ys:La Str}{us:La zz},Vals (ys.map V.str) us->StrsAre us ys
 | [],_,.nil=>.nil
 |y :: ys,_,.cons r t=>by
  let(a,rfl):=r;calc .cons y a<|qv t
inductive rJoin(K:W.Frag)(x:V)(vs:La V)(H:Hp)(Q:VK):Prop
 |mk (z:Str)(a:Ak)(ys:La Str)(_:x=.str z)(_:vs=[.ref a])(_:SqL K H a (ys.map V.str))(_:z.length<=64)(_:(ys.map (·.length)).sum+ys.length*64<=16777216)(_:Q (.str<|Txt.join z ys) H)
theorem ua:MtM X "str.join" (rJoin X.K):=by
 intro b s n H x o v p Q I d e h;let(z,a,c,rfl,rfl,i,l,j,q):=h;let(t,rfl):=d;let(u,rfl,f):=e.one;cases (show u=zz.ref a from f);let(m,r,g,y):=I.list i;calc join_listC g.isList (~~~qv r) l j λw k=>⟨.str<|Txt.join z c,H,I.tok k,⟨_,U⟩,q⟩
theorem my{x:Str}{v:V}{pos:Pos}(a:Gl X x)(h:∃u,X.mg x=Kg u/\RelV v u)(b:(x == ("__debug__" : Str))=false:=by decide):PE X (.Name x pos) (tC v):=by
 let(_,m,r):=h;calc cc a m r b
def sg(g:Str)(c:Nat):Bool:=!(G0.Str.occurrences g ⟨#[c]⟩ 0 g.length 1).isEmpty
def mz(z g:Str):Bool:=z.cps.toList.all<|sg g
open PySem.NumText
structure Gj(cs:La Nat):Prop where
 all:AllDigits cs
 one:cs.length=1\/∃c r,cs=c :: r/\49<=c
def sC(h:Az)(e T:Ak)(cls:zz)(f:zz×zz)(fl:zz):Prop :=
 ∃b a d c,h.get? e=Kg b/\(b.cls=cls/\a[0]?=Kg f.1/\a[2]?=Kg f.2)/\b.data=.fields a/\a[1]?=Kg (.ref T)/\T≠e/\h.get? T=Kg d/\d.data=.fields c/\c[3]?=Kg fl
abbrev uY(h:Az)(e T:Ak)(a:zz)(b:zz×zz):Prop:=sC h e T a b .none
structure Stp(F X:La Ak)(h h':Az):Prop where
 keep:∀b o,b ∉ F->b ∉ X->h.get? b=Kg o->h'.get? b=Kg o
 slot:∀b o,b∈F->h.get? b=Kg o->∃sl,h'.get? b=Kg { o with slots:=sl }
inductive wJ(h:Az)(L e:Ak)(cls:zz)(a0:zz×zz):La Ak->Prop where
 |fresh {oe:Obj}{vs:Array zz}(he:h.get? e=Kg oe)(hc:oe.cls=cls)(hd:oe.data=.fields vs)(h1:vs[1]?=Kg zz.none)(h0:vs[0]?=Kg a0.1)(h2:vs[2]?=Kg a0.2):wJ h L e cls a0 []
 |fly {T:Ak}(x:sC h e T cls a0 .none):wJ h L e cls a0 [T]
 |held {T:Ak}(x:sC h e T cls a0 (GV L)):wJ h L e cls a0 [T]
variable{base:Az}{e:Ak}{oe:Obj}
section
variable{M:Dn}{env:Env}{outer:La Env}{L T:Ak}{vs:Array zz}{a0:zz×zz}{cls fl:zz}{Q:Unit->Cg->Prop}{Ts:La Ak}
def Stp.refl(F Y:La Ak)(h:Az):Stp F Y h h:=⟨λ_ _ _ _ q=>q,λ_ o _ q=>⟨o.slots,q⟩⟩
theorem wK{B:Bool}{i:zz}(I:A.frames=Kg (env :: outer))(v:s.heap.FunFrames base (env :: outer))(J:env.frame=Kg L)(u:s.heap.get? e=Kg oe)(k:oe.data=.fields vs)(hsz:1<vs.size)
  (h:∀h' T p d,Stp (frs (env :: outer)) [e] s.heap h'->h'.get? e=Kg (Obj.mapFields (·.setIfInBounds 1 (.ref T)) oe)->s.heap.get? T=Kh->T≠e->h'.get? T=Kg p->p.data=.fields d->d[3]?=Kg (GV L)->Q () { s with heap:=h' }) :
  DO M A (do let a ←frameOf env;let pl ←entryPlaceOf L B;let b ←EntryCells.newEntry i a .none (GV L) .none pl;setField (.ref e) 1 b) Q E s:=by
 let t:e ∉ frs (env :: outer):=λz=>by
  let(_,K,n,G):=v.mem z;rw[u]at n;cases n;exact G vs k
 calc zo<|wpAny_frameOf_fun I v J λc j=>zo<|wpAny_entryPlaceOf λpl ok=>?_;let x:c.get? e=Kg oe:=(j.2.1 e t).trans u;let l:c.objs.size=s.heap.objs.size:=j.1;let m:∀(O:Obj)(d:Array zz),O.data=.fields d->d[3]?=Kg (GV L)->DO M A (setField (.ref e) 1<|.ref c.objs.size) Q E { s with heap:=c.push O }:=λO d y C=>by
  let w:=Az.get?_push_of_some O x;let r:c.objs.size≠e:=tR<|Az.lt_size x;let f:∀b,b≠e->((c.push O).update e (Obj.mapFields (·.setIfInBounds 1 (.ref c.objs.size)))).get? b=(c.push O).get? b:=λb g=>Az.get?_update_other _ _<|Ne.symm g
  refine Ig w k hsz<|h _ c.objs.size O d ⟨λb o g H q=>?_,λb o g q=>?_⟩ (Az.get?_update_self _ w<|Obj.isFreed_of_fields<|Obj.data_mapFields k _) (Az.get?_none_of_le (by rw[l];exact tj _)) r ((f _ r).trans<|Az.get?_push_size c<|Obj.isFreed_of_fields y) y C
  .exact(f b λz=>H (by simp[z])).trans (Az.get?_push_of_some O<|(j.2.1 b g).trans q)
  .let(D,F):=j.2.2 b o q;exact⟨D,(f b λz=>t<|z ▸ g).trans<|Az.get?_push_of_some O F⟩
 unfold EntryCells.newEntry newFields;exact zo<|HW (m _ _ U (by rcases ok with rfl|⟨_,_,_,_,_,_,_,rfl⟩ <;> simp)) (ok.sizeOk5 _ _ _ _ _)
theorem note(N:A.frames=Kg (env :: outer))(H:s.heap.FunFrames base (env :: outer))(G:env.frame=Kg L)(x:wJ s.heap L e cls a0 Ts)
  (h:∀h' j,Stp (frs (env :: outer)) (e :: Ts) s.heap h'->sC h' e j cls a0 (GV L)->(s.heap.get? j=Kh\/j∈Ts)->Q () { s with heap:=h' }):DO M A (HS (.ref e) env) Q E s:=by
 let sz:∀{vs:Array zz}{x:zz},vs[1]?=Kg x->1<vs.size:=λz=>(Array.getElem?_eq_some_iff.mp z).1
 let P:∀{oe:Obj}{vs:Array zz}{h':Az}{T:Ak}{i:Obj}{f:Array zz},oe.cls=cls->oe.data=.fields vs->1<vs.size->vs[0]?=Kg a0.1->vs[2]?=Kg a0.2->h'.get? e=Kg (Obj.mapFields (·.setIfInBounds 1 (.ref T)) oe)->T≠e->h'.get? T=Kg i->i.data=.fields f->f[3]?=Kg (GV L)->sC h' e T cls a0 (GV L) :=
  λ{oe vs h' T i f} c d l W V w g v u t=>⟨_,_,i,f,w,⟨(Obj.cls_mapFields _ _).trans c,by rw[Array.getElem?_setIfInBounds_ne ⋯];exact W,by rw[Array.getElem?_setIfInBounds_ne ⋯];exact V⟩,Obj.data_mapFields d _,by simp[l],g,v,u,t⟩
 unfold HS;simp only[G];cases x with
 | @fresh oe vs he hc hd h1 h0 h2 =>
  calc zo<|Ih he hd h1 ?_;rw[Kn ⋯];exact wK N H G he hd (sz h1) λh' T i f D w g v u t F=>h h' T D (P hc hd (sz h1) h0 h2 w v u t F)<|.inl g
 | @fly T x =>
  let(oe,vs,i,f,C,(J,S,R),r,p,I,n,m,B):=x;let a:∀b,b≠T->(s.heap.update T (Obj.mapFields (·.setIfInBounds 3 zz.none))).get? b=s.heap.get? b:=λb k=>Az.get?_update_other _ _<|Ne.symm k
  let O:∀b o,s.heap.get? b=Kg o->(∀vs,o.data≠.fields vs)->b≠T:=λb o q y z=>y f (by rw[z,n]at q;cases q;exact m)
  calc zo<|Ih C r p ?_;rw[Ko (show(zz.ref T != zz.none)=Ki by simp)];calc zo<|Ih n m B ?_;rw[Kn (show ¬ (zz.none == GV L)=Ki by simp[GV])];calc zo<|Ig n m (Array.getElem?_eq_some_iff.mp B).1 ?_;refine wK (s:={ s with heap:=s.heap.update T (Obj.mapFields (·.setIfInBounds 3 zz.none)) }) N (H.of_keeps λb o q y=>⟨o,(a b<|O b o q y).trans q,U⟩) G ((a e<|Ne.symm I).trans C) r (sz p) λh' j Y X D w g v u t F=>?_
  refine h h' j ⟨λb o k K q=>D.keep b o k (λz=>K<|dt.mpr<|.inl<|~~~z)<|(a b λz=>K (by simp[z])).trans q,λb o k q=>?_⟩ (P J r (sz p) S R w v u t F) ?_
  .let(_,Z,g,y):=H.mem k;rw[q]at g;cases g;exact D.slot b o k<|(a b<|O b o q y).trans q
  .by_cases z:j=T
   .exact .inr (by simp[z])
   .exact .inl<|(a j z).symm.trans g
 | @held T x =>
  let(oe,vs,i,f,C,J,r,p,I,n,m,B):=id x;calc zo<|Ih C r p ?_;rw[Ko (show(zz.ref T != zz.none)=Ki by simp)];calc zo<|Ih n m B ?_;rw[Ko (show(GV L == GV L)=Ki by simp)];calc zp<|h s.heap T (Stp.refl _ _ _) x<|.inr (by simp)
theorem ub{fr:Option Ak}{l:La Env}(w:s.heap.FunFrames base l)(x:sC s.heap e T cls a0 fl)(h:∀h',Stp (frs l) [e,T] s.heap h'->sC h' e T cls a0 (fr.elim zz.none λf=>GV f)->Q () { s with heap:=h' }):DO M A (Ii (.ref e) fr) Q E s:=by
 let(oe,vs,y,n,m,t,k,j,i,g,c,r):=x;let sz:3<n.size:=(Array.getElem?_eq_some_iff.mp r).1;let a:∀b,b≠T->(s.heap.update T (Obj.mapFields (·.setIfInBounds 3 (fr.elim zz.none λf=>GV f)))).get? b=s.heap.get? b:=λb d=>Az.get?_update_other _ _<|Ne.symm d
 unfold Ii;calc zo<|Ih m k j ?_;rw[Ko (show(zz.ref T != zz.none)=Ki by simp)];refine Ig g c sz (h _ ⟨λb o d v q=>(a b λz=>v (by simp[z])).trans q,λb o d q=>?_⟩ ⟨oe,vs,_,_,(a e<|Ne.symm i).trans m,t,k,j,i,Az.get?_update_self _ g<|Obj.isFreed_of_fields<|Obj.data_mapFields c _,Obj.data_mapFields c _,by simp[sz]⟩);let(_,B,p,u):=w.mem d;rw[q]at p;cases p;calc⟨o.slots,(a b λz=>u n (by rw[z,g]at q;cases q;exact c)).trans q⟩
theorem Stp.then{F Y Z:La Ak}{h f e:Az}(x:Stp F Y h f)(y:Stp F Z f e)(j:∀b o,h.get? b=Kg o->b∈Z->b∈Y):Stp F Y h e :=
 ⟨λb o a d q=>y.keep b o a (λz=>d<|j b o q z)<|x.keep b o a d q,λb o a q=>by
  let(k,i):=x.slot b o a q;let(c,g):=y.slot b _ a i;exact⟨c,g⟩⟩
theorem Stp.frames{Y:La Ak}{h a:Az}{l:La Env}(x:Stp (frs l) Y h a)(g:h.FunFrames base l):a.FunFrames base l:=by
 let:∀(F:La Ak)(m:La Env),(∀b∈frs m,b∈F)->Stp F Y h a->h.FunFrames base m->a.FunFrames base m:=λF m=>by
  induction m with
  |nil=>intro _ _ z;exact z
  |cons v m f =>
   rintro d x ⟨k,⟨L,o,c,n,j,i⟩,r⟩;let(p,q):=x.slot L o (d L (by unfold frs;rw[jP,c];exact dO)) j;exact⟨k,⟨L,_,c,n,q,i⟩,f (λb e=>d b (by unfold frs at e⊢;rw[jP,c];exact dV _ e)) x r⟩
 calc this _ l (λ_ z=>z) x g
theorem land{p:zz->Cg->Prop}(l:A.frames=Kg (env :: outer))(i:s.heap.FunFrames base (env :: outer))(m:env.frame=Kg L)(x:uY s.heap e T cls a0)
  (h:∀h' c,Stp (frs (env :: outer)) [e,T] s.heap h'->uY h' e c cls a0->(s.heap.get? c=Kh\/c=T)->Q () { s with heap:=h' }):DO M A (HS (.ref e) env) (λ_ k=>DO M A (Ii (.ref e) Kh) Q E k) p s:=by
 refine note l i m (.fly x) λg c f x a=>?_
 let a:s.heap.get? c=Kh\/c=T:=a.imp id λz=>~~~z
 exact ub (s:={ s with heap:=g }) (f.frames i) x λn d j=>h n c (f.then d λb o q z=>by
  rcases dt.mp z with z|z
  .simp[z]
  .rw[show b=c by simpa using z]at q⊢;rcases a with a|a
   .rw[a]at q;cases q
   .simp[a]) j a
def AG{l:La Env}(d:s.heap.FunFrames base l)(x:uY s.heap e T cls a0)
  (h:∀h' a,Stp (frs l) [e,T] s.heap h'->uY h' e a cls a0->(s.heap.get? a=Kh\/a=T)->Q () { s with heap:=h' }):DO M A (Ii (.ref e) Kh) Q E s :=
 ub d x λh' c b=>h h' T c b<|.inr U
end
variable{P:zM}{H:Hp}
section
variable{H':Hp}{h h':Az}{a:Ak}{o:HO}{F Y fs:La Ak}
theorem bQ.there(x:bQ P w H h a o):∃b,h.get? a=Kg b:=by
 cases o with
 |lst d=>obtain⟨_,_,_,_,e⟩:=x;exact⟨_,e⟩
 |tup d=>obtain⟨_,_,_,b,e,_⟩:=x;exact⟨_,e⟩
 |dK c=>obtain⟨_,_,_,_,o,_,_,e,_⟩:=x;exact⟨_,e⟩
 |dT c=>obtain⟨_,_,_,_,o,_,_,e,_⟩:=x;exact⟨_,e⟩
 |set S n=>obtain⟨o,_,_,_,e,_⟩:=x;exact⟨_,e⟩
 |ins C j fs=>obtain⟨_,_,_,e,_⟩:=x;exact⟨_,e⟩
 |own y=>obtain⟨_,e⟩:=x;exact⟨_,e⟩
 |xd fs=>obtain⟨_,⟨_,_,_,e,_⟩,_⟩:=x;exact⟨_,e⟩
 |rng lo hi=>obtain⟨_,_,_,e⟩:=x;exact⟨_,e⟩
 |frz b u=>obtain⟨e,_⟩:=x;exact⟨_,e⟩
 |tbl i=>exact⟨_,(show h.get? a=Kg _ from x)⟩
 |met f y=>exact⟨_,(show h.get? a=Kg _ from x)⟩
 |ext g=>obtain⟨_,⟨_,e⟩,_⟩:=x;calc⟨_,e⟩
theorem HOk.none_of(x:HOk P w H h)(e:h.get? a=Kh):H a=none:=by
 cases q:H a with
 |none=>rfl
 |some u =>
  let(b,z):=(x a u q).there;rw[e]at z;cases z
theorem HOk.stp(x:HOk P w H h)(f:Stp F Y h h')(i:∀b∈F,H b=Kh)(g:∀b∈Y,H b=Kh):HOk P w H h':=λa o e =>
 (x a o e).stay (λb u c q=>by
  let d:H b≠none:=by
   rcases c with rfl|c
   .rw[e];simp
   .rw[c];simp
  exact f.keep b u (λz=>d<|i b z) (λz=>d<|g b z) q) (λ_ q=>q) λ_ _ q=>q
theorem Un.stp{l:Hp}{d:Az}(u:Un fs [] l H d h)(f:Stp F Y h h')(s:∀b o,d.get? b=Kg o->b∈F->b∈fs)(r:∀b∈fs,b∈F)(p:∀b∈Y,d.get? b=Kh):Un fs [] l H d h':=by
 let j:∀b o,d.get? b=Kg o->b ∉ Y:=λb o q z=>by rw[p b z]at q;cases q
 refine⟨λb o q n c a=>f.keep b o (λz=>c<|s b o q z) (j b o q)<|u.keep b o q n c a,λb o q n c a=>?_,u.free,λb o q a=>?_,u.tups,u.frzs,u.tbls⟩
 .let(t,g):=u.slot b o q n c a;let(e,i):=f.slot b _ (r b c) g;exact⟨e,i⟩
 .let(m,g):=u.there b o q a;by_cases k:b∈F
  .let(e,i):=f.slot b _ k g;exact⟨_,i⟩
  .exact⟨_,f.keep b m k (j b o q) g⟩
end
def CX1(P:zM)(w:zJ):CXT:=λa H s E f b=>∃(e T C:Ak)(d:zz×zz)(c:Hp),f=.ref e/\b.os=s.os/\AllBare b.gens/\Un (frs a) [] H c s.heap b.heap/\HOk P w c b.heap /\
 uY b.heap e T (.ref C) d/\s.heap.get? e=Kh/\s.heap.get? T=Kh/\c e=Kh/\c T=Kh/\∃m,(m=Kh->d.2=.none)/\E (.ref C) m c
structure fJ(X:Cx)(Kl:La (Ak×Obj))(H:Hp)(b:Ak):Prop where
 ent:X.s₀.heap.get? b=Kh
 unt:H b=Kh
 loc:b≠X.env.locals
 cel:∀x c,X.env.cells.lookup x=Kg c->c≠b
 pin:∀p∈X.pn++Kl,p.1≠b
variable{Kl:La (Ak×Obj)}{σ:St}
section
variable{h':Az}{T:Ak}
theorem Inv.newAt(I:Inv X Kl σ H s)(e:X.ex=[]){b:Ak}(a:s.heap.get? b=Kh):fJ X Kl H b:=by
 refine⟨?_,I.hok.none_of a,?_,?_,?_⟩
 .cases q:X.s₀.heap.get? b with
  |none=>rfl
  |some o =>
   let(h,d):=I.base.there b o q (by rw[e];simp);rw[a]at d;cases d
 .rintro rfl;let(m,(o,_,_,q,_),_):=I.loc;rw[a]at q;cases q
 .rintro x c g rfl;let(v,o,q,_):=I.cell x c g;rw[a]at q;cases q
 .rintro p f rfl;let(q,_):=I.pin p f;rw[a]at q;cases q
theorem Inv.excStep(I:Inv X Kl σ H s)(hx:X.ex=[])(j:Stp (frs X.stack) [e,T] s.heap h')(O:fJ X Kl H e)(P:fJ X Kl H T):Inv X Kl σ H { s with heap:=h' }:=by
 let t:∀b∈[e,T],fJ X Kl H b:=λb g=>by
  rcases dt.mp g with rfl|g
  .exact O
  .rw[show b=T by simpa using g];exact P
 let F:∀b,b≠X.env.locals->b ∉ X.fs->b ∉ frs X.stack:=λb Y W z=>(dt.mp<|I.stkSub b z).elim Y W
 let A:∀b o,X.s₀.heap.get? b=Kg o->b ∉ [e,T]:=λb o q z=>by rw[(t b z).ent]at q;cases q
 let D:∀b o,X.s₀.heap.get? b=Kg o->b≠X.env.locals:=λb o q=>tN<|tP (Az.lt_size q) I.ok.above
 let any:∀b o,b ∉ [e,T]->s.heap.get? b=Kg o->∃y,h'.get? b=Kg { o with slots:=y }:=λb o Q q=>by
  by_cases L:b∈frs X.stack
  .exact j.slot b o L q
  .exact⟨o.slots,j.keep b o L Q q⟩
 let f:∀x c,X.env.cells.lookup x=Kg c->∀v,s.heap.IsCell c v->h'.IsCell c v:=λx c h v ⟨o,R,V⟩=>by
  let(y,q):=any c o (λz=>(t c z).cel x c h U) R;exact⟨_,q,V⟩
 refine⟨I.ok,I.os,I.bare,⟨λb o q n g a=>?_,λb o q n g a=>?_,I.base.free,λb o q a=>?_,I.base.tups,I.base.frzs,I.base.tbls⟩,?_,λx c h=>?_,I.free,I.freeC,λp K=>?_,I.hok.stp j I.stkFree<|λb g=>(t b g).unt,I.len⟩
 .exact j.keep b o (F b (D b o q) g) (A b o q)<|I.base.keep b o q n g a
 .let(y,C):=I.base.slot b o q n g a;let(w,B):=any b _ (A b o q) C;exact⟨w,B⟩
 .let(o1,C):=I.base.there b o q a;let(w,B):=any b _ (A b o q) C;exact⟨_,B⟩
 .let(m,(N,Z,ep,E,r),S):=I.loc;let(y,q):=any X.env.locals N (λz=>(t _ z).loc U) E;calc⟨m,⟨_,Z,ep,q,r⟩,λi x v e1 e2 e3=>?_⟩;let(u,M,l):=S i x v e1 e2 e3;calc⟨u,M,?_⟩;rcases l with l|⟨k,c,h,z⟩
  .exact .inl l
  .exact .inr ⟨k,c,h,f x c h _ z⟩
 .let(v,z):=I.cell x c h;exact⟨v,f x c h v z⟩
 .let(q,n,J,G,d):=I.pin p K;calc⟨j.keep p.1 p.2 (F p.1 J G) (λz=>(t _ z).pin p K U) q,n,J,G,d⟩
end
structure ExcCls(K:W.Frag)(C:Ak):Prop where
 ex:∃(bmB bmN:La zz)(newId B Bn nid wL inN:String),W.excIn K C bmB newId=Ki/\ExcBaseFacts Bn newId inN bmN/\bmB.contains (zz.type Bn)=Ki/\ExcBaseFacts B nid wL bmB
theorem ExcCls.value{K:W.Frag}{C:Ak}(h:W.excIn K C [.type "ValueError",.type "Exception",.type "BaseException",.type "object"] "ValueError.__new__" = Ki):ExcCls K C :=
 ⟨_,_,_,_,_,_,_,_,h,PySem.F.excBase_ValueError,⋯,PySem.F.excBase_ValueError⟩
theorem ExcCls.obj{K:W.Frag}{C:Ak}{h:Az}{b:La zz}{a:String}(c:K.In h)(e:W.excIn K C b a=Ki):∃bm N nm q bs hdct sn sub ab col dd k0 k1 k2 k3 k5 mN,
   h.get? C=Kg (excClassObj nm q C N bs bm hdct sn sub ab col dd k0 k1 k2 k3 k5 a)/\h.Ns N mN/\mN "__init__" = Kh/\OwnTail h b bm:=by
 unfold W.excIn at e;split at e
 .rename_i dd cd sl lk
  split at e
  .rename_i C' bm k0 k1 k2 k3 n k5 em es
   simp only[yq,beq_iff_eq,Bool.not_eq_true']at e;let(((((rfl,rfl),i),g),d),hi):=e;let(nm,bs,k,j,q,hdct,sn,sub,ab,col,l):=cd;dsimp only at em i g d hi;subst em i;let f:sl = #[k0,k1,k2,k3,Kg<|zz.builtin n,k5]:=by
    apply Array.toList_inj.mp
    rw[es]
   subst f;exact⟨bm,j,nm,q,bs,hdct,sn,sub,ab,col,dd,k0,k1,k2,k3,k5,_,c _ _ lk,Az.Ns.of_isNs<|W.isNs_of_in c d,W.nsMap_none_of_in c d hi,W.tail_of_in c g⟩
  .cases e
 .cases e
variable{K:W.Frag}
section
variable{mg:Str->Option zz}{N:La Str}{qual:Str}{scope:Cr}{f:Ak}{cd:zz}{outer:La Env}{s0:Cg}{H0:Hp}{E:XK}
def AH(C:Ak)(E:XK)(t:TA):TS:=λ_ σ H=>t σ H λa b=>a.length<=AA/\E (.ref C) Kh b
end
def XP(X:Cx)(Kl:La (Ak×Obj))(σ:St)(d:Ak->Hp->Prop)(b:zz)(s':Cg):Prop :=
 ∃(e T C:Ak)(c:zz×zz)(a:Hp),b=.ref e/\Inv X Kl σ a s'/\uY s'.heap e T (.ref C) c/\fJ X Kl a e/\fJ X Kl a T/\d C a
abbrev TX:=St->Hp->VK->(Ak->Hp->Prop)->Prop
def PEX(X:Cx)(e:D0)(t:TX):Prop :=
 ∀(Kl:La (Ak×Obj))(s:Cg)(σ:St)(H:Hp)(Q:VK)(a:Ak->Hp->Prop),Inv X Kl σ H s->t σ H Q a->DO (model X.prog X.w) X.A (eval e X.env) (EP X Kl σ Q) (XP X Kl σ a) s
def ba(P:zM)(w:zJ)(K:W.Frag)(a:Str->Option zz)(base:Az)(k:Nat)(x:Str)(ps:La Str)(sp:Sp):Prop :=
 ∃f b,aN P w K a base (CX1 P w) k f b ps sp/\Binds K b ps []/\W.keepIn K (.ref f)=Ki/\a x=Kg (.ref f)
theorem ba.mono{P:zM}{w:zJ}{K:W.Frag}{a:Str->Option zz}{base:Az}{j k:Nat}{x:Str}{ps:La Str}{sp:Sp}(C:ba P w K a base j x ps sp)(h:j<=k):ba P w K a base k x ps sp:=by
 let(f,b,F,r):=C;calc⟨f,b,F.mono h,r⟩
section
variable{s':Cg}
theorem Inv.afterX{E:XK}{i:Ak->Hp->Prop}{g:zz}(I:Inv X Kl σ H s)(f:X.ex=[])(p:∀C m H',E (.ref C) m H'->i C H')(h:CX1 X.prog X.w X.stack H s E g s'):XP X Kl σ i g s':=by
 let(e,T,C,r,H',rfl,j,c,un,d,x,k,l,n,o,m,_,q):=h;let t:Inv X Kl σ H' s':=I.call' (ch:=[]) j un d c λb z=>Kp z (by simp)
 let a:=I.newAt f k;let b:=I.newAt f l;calc⟨e,T,C,r,H',U,t,x,⟨a.ent,n,a.loc,a.cel,a.pin⟩,⟨b.ent,o,b.loc,b.cel,b.pin⟩,p _ _ _ q⟩
end
variable{x:Str}{ps:La Str}{sp:Sp}{pos:Pos}
section
variable{k:Nat}{e:D0}{es:La D0}{t:TA}{p:Pos}
def DK(sp:Sp)(t:TA):TX:=λσ H Q e=>t σ H λa d=>sp a d Q λb _ c=>∃C,b=.ref C/\e C c
theorem ph(C:ba X.prog X.w X.K X.mg X.base k x ps sp)(y:b8 k X.A)(v:X.ex=[])(D:Gl X x)(G:PA X.nox (e :: es) t)(i:(x == ("__debug__" : Str))=false:=by decide)
  (he:E2 (e :: es) X.env=(Kj,eval e X.env) :: E2 es X.env:=by rfl)(g:(E1 pos<|E2 es X.env).any (·.1)=false:=by rfl):PEX X (.Call (.Name x p) (e :: es) [] pos) (DK sp t):=by
 let(f,L,F,b,o,m):=C;intro Kl s σ H Q R I h;calc zt<|eY I D m ?_ i;calc W.callWith_K (h₀:=X.base) I.ok.mod.kin o (F9 (G pos Kl s σ H _ (I.wish _) h) (λa d ⟨n,l,j,r,q⟩=>⟨j.kIn,?_⟩) λ_ _ z=>False.elim z) he g;let J:Inv X Kl σ l d:=j.unwish;let B:a.length=ps.length:=by rw[←r.length];exact F.len _ _ _ _ q
 let O:Hw d L ⟨a,[]⟩ (ps.zip a):=by
  let z:=b d a J.kIn (by rw[jQ];exact B);rw[jQ]at z;exact z
 calc Hy<|Hz (F.run X.A X.stack d l ⟨a,[]⟩ a n Q _ y J.env0 O r q) λr S c=>?_;cases r with
 |error T=>exact J.afterX (E:=λN _ P=>∃C,N=.ref C/\R C P) v (λC m V z=>by let(Y,M,z):=z;cases M;exact z) c
 |ok fl =>
  cases fl with
  |ret u=>exact J.after c
  |next=>exact False.elim c
  |brk=>exact False.elim c
  |cont=>calc False.elim c
abbrev TSX:=Ends->St->Hp->(Ak->Hp->Prop)->Prop
def PSX(X:Cx)(b:F3)(t:TSX):Prop :=
 ∀(Kl:La (Ak×Obj))(s:Cg)(σ:St)(H:Hp)(D:Ends)(a:Ak->Hp->Prop),Inv X Kl σ H s->t D σ H a->DO (model X.prog X.w) X.A (exec b X.env) (SP X Kl D) (XP X Kl σ a) s
def AI(a:TX):TSX:=λD σ H c=>a σ H (λ_ b=>D.nx σ b) c
theorem kq{e:D0}{a:TX}(d:PEX X e a)(c:GJ e Kh pos.line X.env=pure false:=by rfl):PSX X (.Expr e pos) (AI a):=by
 intro Kl s σ H D i I h;calc GK (thn (d Kl s σ H _ i I h) λv j ⟨x,g,f,k,b⟩=>⟨σ,g,f,b⟩) I.quiet c
end
def sfx(X:Cx)(e:Ak)(oe:Obj):Cx:={ X with A:=X.A.mark<|Kg<|.ref e,calm:=Kj,pn:=(e,oe) :: X.pn,xe:=λ_ _=>False }
section
variable{s':Cg}
theorem Inv.suite(I:Inv X Kl σ H s)(d:s.heap.get? e=Kg oe)(b:fJ X Kl H e)(f:∀v,oe.data≠.cell v)(c:e ∉ X.fs):Inv (sfx X e oe) Kl σ H s:=by
 calc⟨⟨I.ok.mod,I.ok.kind,I.ok.glob,I.ok.blt,I.ok.above,I.ok.inj,I.ok.has,I.ok.cab,λz=>Kp z Bool.false_ne_true,I.ok.frames,I.ok.stk,I.ok.exf,I.ok.bs,I.ok.bsz,I.ok.noex,I.ok.exfs,I.ok.funs,I.ok.frf⟩,I.os,I.bare,I.base,I.loc,I.cell,I.free,I.freeC,λp a=>?_,I.hok,I.len⟩;rcases dt.mp (show p∈(e,oe) :: (X.pn++Kl)from a)with rfl|a
 .exact⟨d,b.unt,b.loc,c,f⟩
 .exact I.pin p a
def Inv.unsuite(ok:X.Ok)(I:Inv (sfx X e oe) Kl σ H s):Inv X Kl σ H s :=
 ⟨ok,I.os,I.bare,I.base,I.loc,I.cell,I.free,I.freeC,λp a=>I.pin p<|dV (e,oe) a,I.hok,I.len⟩
def Inv.excObj(I:Inv (sfx X e oe) Kl σ H s):s.heap.get? e=Kg oe:=(I.pin (e,oe)<|jd _ dO).1
theorem Inv.unbound{i:Nat}{x:Str}{m:Str->Option zz}{u:Option zz}{h':Az}(I:Inv X Kl σ H s)(hi:X.N[i]?=Kg x)(R:X.N.Nodup)(C:s.heap.Ns X.env.locals m)(L:h'.Ns X.env.locals λy=>if y=x then u else m y)(a:Az.SameBut X.env.locals s.heap h') :
  Inv X Kl (σ.set i Kh) H { s with heap:=h' }:=by
 let cne:=I.cne;let(W,_,_,V,_):=id C;refine⟨I.ok,I.os,I.bare,⟨λb o e n v h=>?_,λb o e n v h=>?_,I.base.free,λb o e h=>?_,I.base.tups,I.base.frzs,I.base.tbls⟩,⟨_,L,λj y D g f T=>?_⟩,λy c e=>?_,I.free,I.freeC,λp P=>?_,?_,~~~I.len⟩
 .exact(a.2 b<|tN<|tP (Az.lt_size e) I.ok.above).trans (I.base.keep b o e n v h)
 .let(F,g):=I.base.slot b o e n v h;exact⟨F,(a.2 b<|tN<|tP (Az.lt_size e) I.ok.above).trans g⟩
 .let(K,g):=I.base.there b o e h;exact⟨K,(a.2 b<|tN<|tP (Az.lt_size e) I.ok.above).trans g⟩
 .by_cases t:j=i
  .subst t;by_cases l:j<σ.length
   .rw[nY l]at f;cases f
   .rw[jU (~~~l)]at f;cases f
  .rw[rb (Ne.symm t)]at f;let(O,w,Q):=I.loc;let(E,G,q):=Q j y D g f T;let S:O=m:=by rw[w.eq_nsMap,C.eq_nsMap]
   subst S;calc⟨E,G,?_⟩;rcases q with⟨k,e⟩|⟨k,c,e,z⟩
   .refine .inl ⟨k,?_⟩;let:y≠x:=λe=>t<|kh R g<|e ▸ hi
    simp[this,e]
   .exact .inr ⟨k,c,e,z.sameBut a<|cne y c e⟩
 .let(A,z):=I.cell y c e;exact⟨A,z.sameBut a<|cne y c e⟩
 .let(e,n,B,M,d):=I.pin p P;exact⟨(a.2 p.1 B).trans e,n,B,M,d⟩
 .intro b J e;refine(I.hok b J e).stay (λc A r q=>(a.2 c ?_).trans q) (λ_ q=>q) λ_ _ q=>q
  rintro rfl;rcases r with rfl|r
  .rw[I.free]at e;cases e
  .rw[I.free]at r;cases r
end
theorem iV{M:Dn}{A:Cd}{E:zz->Cg->Prop}{i:Nat}{x:Str}{pos:Pos}{Q:Unit->Cg->Prop}(I:Inv X Kl σ H s)(e:X.N.Nodup)(hi:X.N[i]?=Kg x)(a:X.env.scope.names.lookup x=Kg .local)
  (h:∀s',Inv X Kl (σ.set i Kh) H s'->Q () s'):DO M A (do bindName X.env x zz.none;unbindBehindTheSuite X.env x pos) Q E s:=by
 calc zo<|wpAny_bindName<|ki I e hi (.inl a) (v:=.non) (u:=zz.none) U (λq f=>?_)<|.inr a;calc wpAny_onRaise ?_;let(m,d,n):=f.loc;let c:i<σ.length:=by rw[I.len];exact(GD.mp hi).1
 let(u,r,l):=n i x .non hi (by rw[nY c]) (.inl a);let p:(X.env.scope.kind == .class || (X.env.scope.kind == .module && X.env.locals != X.env.globals))=false:=by rw[I.ok.kind];rfl
 rcases l with⟨k,o⟩|⟨k,_⟩
 .refine wpAny_unbindName_local a d o p λt v j g=>?_
  let J:=f.unbound hi e d j g;rw[List.set_set]at J;exact h _ J
 .exfalso;let b:X.env.kindOf x=Kg .local:=a;rcases k with k|k
  .rw[b]at k;cases k
  .rw[b]at k;cases k
def DL(i:Nat)(B:Ak)(K:W.Frag)(G:Ak->Prop)(tb:TSX)(c:Ak->Ak->TS):TS:=λD σ H=>tb D σ H λC d=>W.exmOne K (.ref C) (.ref B)=Kg Ki/\G C /\
 ∀e,c C e { nx:=λa b=>D.nx (a.set i Kh) b,rt:=D.rt,bk:=λa b=>D.bk (a.set i Kh) b,ct:=λa b=>D.ct (a.set i Kh) b } (σ.set i<|Kg<|.ref e) d
section
variable{st b₀:F3}{su:La F3}{tb:TSX}{ts:Ak->Ak->TS}{Tn n:Str}{B:Ak}{i:Nat}{np uZ:Pos}
theorem AJ{G:Ak->Prop}(hb:PSX X st tb)(hx:X.ex=[])(c:X.stack=X.env :: X.outer)(R:X.env.frame=Kg X.env.locals)(hg:Gl X Tn)(hm:X.mg Tn=Kg (.ref B))(L:X.N.Nodup)(hi:X.N[i]?=Kg n)(F:X.env.scope.names.lookup n=Kg .local)
  (hs:∀(C e:Ak)(oe:Obj),G C->oe.cls=.ref C->PSs (sfx X e oe) (b₀ :: su) (ts C e))(a4:(Tn == ("__debug__" : Str))=false:=by decide) :
  PS X (.Try [st] [.ExceptHandler (Kg<|.Name Tn np) (Kg n) (b₀ :: su) uZ] [] [] pos) (DL i B X.K G tb ts):=by
 intro Kl s σ H D I h;calc wpAny_Try_except ?_;refine GI<|F9 (hb Kl s σ H D _ I h) (λf J q=>?_) λev J q=>?_
 .cases f with
  |next=>exact GH (GH q)
  |ret v=>exact q
  |brk=>exact q
  |cont=>exact q
 let(e,T,C,a0,Z,rfl,Y,x,V,nT,a3,hG,q):=q;let a6:X.A.frames=Kg (X.env :: X.outer):=by rw[←c];exact Y.ok.frames
 let a7:J.heap.FunFrames X.base (X.env :: X.outer):=by rw[←c];exact Y.stack
 refine land a6 a7 R x λh2 T2 P x2 a5=>?_
 rw[←c]at P;let O:=Y.excStep hx P V nT;let a2:fJ X Kl Z T2:=by
  rcases a5 with z|z
  .exact Y.newAt hx z
  .rw[z];exact nT
 let zI:∀{b:Ak}{o:Obj}{S:Array zz}{hh:Az},hh.FunFrames X.base X.stack->hh.get? b=Kg o->o.data=.fields S->b ∉ X.fs:=λ{b o S hh} ff g d z=>by
  let z':b∈frs X.stack:=by rw[c];unfold frs;rw[jP,R];exact dV _ z
  let(_,o2,g2,nf):=ff.mem z';rw[g]at g2;cases g2;exact nf S d
 let b5:=O;let(oe,S,oT,b2,y1,(y2,a9),y3,y4,y5,y6,y7,y8):=id x2;let S2:Inv (sfx X e oe) Kl σ Z { J with heap:=h2 }:=O.suite y1 V (λv z=>by rw[y3]at z;cases z) (zI O.stack y1 y3);refine wpAny_handleBy_cons ?_ (by intro z;cases z);calc codeAny_handlers_test<|eY (X:=sfx X e oe) S2 hg hm ?_ a4;refine W.exm_one (h:=h2) S2.kIn (λA' Q' E' s' k r=>by
  let z:=Ij (M:=model X.prog X.w) (A:=A') (E:=E') (Q:=Q')<|k _ _ y1;rw[y2]at z;exact z r) a3 _ _ _ _ (λb o g=>g) ?_
 rw[Ko U];calc codeAny_handlers_suite_as ?_;refine AG (s:={ J with heap:=h2 }) (l:=X.stack) O.stack x2 λh3 T3 a1 x3 b4=>?_
 let I3:=O.excStep hx a1 V a2;let(y,b0,b3,b1,z1,(z2,a8),z3,z4,z5,z6,z7,z8):=id x3;let S3:Inv (sfx X e y) Kl σ Z { J with heap:=h3 }:=I3.suite z1 V (λv z=>by rw[z3]at z;cases z) (zI I3.stack z1 z3);calc ki (X:=sfx X e y) S3 L hi (.inl F) (v:=.ref e) (u:=.ref e) U (λs4 S4=>?_)<|.inr F;refine F9 (hs C e y hG z2 Kl s4 _ Z _ S4<|q e) (λfl s5 a=>?_) λ_ _ z=>False.elim z
 cases fl with
 |next =>
  let(t,p,j,a):=a;exact iV (j.unsuite I.ok) L hi F λs6 m=>⟨_,p,m,a⟩
 |brk =>
  let(t,p,j,a):=a;exact iV (j.unsuite I.ok) L hi F λs6 m=>⟨_,p,m,a⟩
 |cont =>
  let(t,p,j,a):=a;exact iV (j.unsuite I.ok) L hi F λs6 m=>⟨_,p,m,a⟩
 |ret u =>
  let(v,t,p,j,r5,a):=a;calc iV (j.unsuite I.ok) L hi F λs6 m=>⟨v,_,p,m,r5,a⟩
end
structure gD(K:W.Frag)(C:Ak):Prop where
 ga:W.findIn K (.ref C) "__getattribute__" = Kg (Kg<|.builtin "BaseException.__getattribute__")
 hk:W.findIn K (.ref C) "__getattr__" = Kg Kh
 cl:W.findIn K (.ref C) "__class__" = Kg (Kg<|.builtin "object.__class__")
 gt:W.specialIn K (.builtin "object.__class__") "__get__" = Kg (Kg<|.builtin "getset_descriptor.__get__")
 tk:W.takesIn K (.builtin "object.__class__")=Kg Ki
 ob:W.mroIn K C (.type "object")=Kg Ki
 be:W.mroIn K C (.type "BaseException")=Kg Ki
 me:W.kitCls K (.ref C) (.ref C)=Kg Ki
variable{C:Ak}
theorem gE{a:Az}(g:a.get? e=Kg oe)(c:oe.cls=.ref C){M:Dn}:W.Looks M a (HI<|.ref e) (.ref C):=λf b d h k r=>by
 let z:=Ij (M:=M) (A:=f) (E:=d) (Q:=b)<|k _ _ g;rw[c]at z;calc z r
theorem nv{R:Hm->Cg->Prop}{tp:zz}(j:K.In s.heap)(g:s.heap.get? e=Kg oe)(c:oe.cls=.ref C)(b:W.mroIn K C (.type "object")=Kg Ki) (h:R (.ok<|.ret<|.ref C) s) :
  Hn (model prog w) A (.call (.builtin "getset_descriptor.__get__") ⟨[.builtin "object.__class__",.ref e,tp],[]⟩) R s:=by
 let a:∀{M:Dn},W.Looks M s.heap (HI<|.ref e) (.ref C):=gE g c;let i:∀{M:Dn},W.Looks M s.heap (isSubtype (.ref C)<|.type "object") true:=W.looks_mroIn j b;calc Ik W.KF.slot_gs.plain W.KF.entry_gs<|W.KF.slot_gs.check _ _ _ _ _ _ _ _ W.KF.type_class (W.KF.args_gs _ _ tp) ?_;show DO _ _ (do let __x ←G0.Getset_descriptor.descrGetArgs ⟨[.builtin "object.__class__",.ref e,tp],[]⟩;match __x with|(d,obj,snd)=>G0.Getset_descriptor.descrGetter d obj) _ _ s;rw[W.dga_obj];calc zo<|zp ?_;show DO _ _ (do G0.Getset_descriptor.descrCheckInstance (.builtin "object.__class__") (.ref e);again (Hu.builtin "object.__class__" ⟨[.ref e],[]⟩)) _ _ s;let f:G0.Getset_descriptor.descrNameAndClass (.builtin "object.__class__")=pure (s!"__class__",zz.type "object"):=by
  show pure (Str.ofString (G0.Getset_descriptor.descrOwnerAndName "object.__class__").2,zz.type (G0.Getset_descriptor.descrOwnerAndName "object.__class__").1)=_;rw[W.KF.owner_class]
 unfold G0.Getset_descriptor.descrCheckInstance;rw[f];calc zo<|zo<|zp ?_;calc zo<|zo<|a _ _ _ _ (λ_ _ q=>q)<|i _ _ _ _ (λ_ _ q=>q) ?_;calc Il U<|zp ?_;calc zp ⟨Hu.quiet_builtin _<|~~~0,Im W.KF.entry_class ?_⟩;calc zo<|zo<|a _ _ _ _ (λ_ _ q=>q) ?_;calc Il U<|zp<|zp h
theorem u4{M:Dn}{d:zz}{Q:Unit->Cg->Prop}(j:K.In s.heap)(g:s.heap.get? e=Kg oe)(c:oe.cls=.ref C)(f:W.mroIn K C (.type "BaseException")=Kg Ki) (h:Q () s) :
  DO M A (Io "BaseException.__getattribute__" ⟨[.ref e,d],[]⟩) Q E s:=by
 let i:builtinKind "BaseException.__getattribute__" = Kg .slot:= ~~~0
 let b:splitId "BaseException.__getattribute__" = Kg ("BaseException","__getattribute__"):= ~~~0
 let a:=PySem.F.args_bexc_ga (.ref e) d;unfold Io;rw[i,b];calc zo<|zo<|gE g c _ _ _ _ (λ_ _ q=>q)<|W.looks_mroIn j f _ _ _ _ (λ_ _ q=>q) ?_;calc Il U ?_;unfold Ip at a;generalize Manifest.signature? "BaseException.__getattribute__" = sg at a⊢;cases sg with
 |none=>exact zp h
 |some k=>calc Iq a h
theorem u6{Q:Option zz->Cg->Prop}(a:K.In s.heap)(X:gD K C)(g:s.heap.get? e=Kg oe)(c:oe.cls=.ref C)(h:Q (Kg<|.ref C) { s with toks:=s.toks+1 }):DO (model prog w) A (Ir (.ref e) "__class__") Q E s:=by
 let b:∀{M:Dn},W.Looks M s.heap (HI<|.ref e) (.ref C):=gE g c;calc zo<|wpAny_mkText<|zo<|Iu<|zq<|zo<|b _ _ _ _ (λ_ _ q=>q)<|zo<|W.looks_findIn a X.ga _ _ _ _ (λ_ _ q=>q) ?_;calc Il U ?_;calc zo ?_;show DO _ _ (if onTheHeap (.ref C)=Ki then Iv (.ref C) "__getattr__" else pure Kh) _ _ _;calc Iw U<|W.looks_findIn a X.hk _ _ _ _ (λ_ _ q=>q) ?_;calc zo<|Iu<|zq ?_;show DO _ _ (if (Kj && onTheHeap (.builtin "BaseException.__getattribute__"))=Ki then _ else boundAndCalled (.builtin "BaseException.__getattribute__") (.ref e) (zz.str s!"__class__" s.toks)) _ _ _;calc Il U<|zo<|Iq (PySem.F.attr_ValueError.ga.bind<|.ref e)<|Hy ?_;calc Ik PySem.F.attr_ValueError.ga.plain PySem.F.entry_bexc_ga<|u4 (s:={ s with toks:=s.toks+1 }) a g c X.be ?_;refine zo<|Iq (show Iy "__getattribute__" 1 ⟨[.ref e,zz.str s!"__class__" s.toks],[]⟩=pure (zz.ref e,[zz.str s!"__class__" s.toks])from U) ?_;refine zo<|Iq (show G0.ObjectAttr.attrName (zz.str s!"__class__" s.toks)=pure s!"__class__"from U) ?_;calc zo<|b _ _ _ _ (λ_ _ q=>q) ?_;calc zo ?_;unfold G0.ObjectAttr.find;calc zo<|W.looks_findIn a X.cl _ _ _ _ (λ_ _ q=>q) ?_;calc zo<|W.looks_specialIn a X.gt _ _ _ _ (λ_ _ q=>q) ?_;calc zo<|zo<|W.looks_takesIn a X.tk _ _ _ _ (λ_ _ q=>q)<|Iw U<|zp ?_;calc zo<|Iz<|zp ?_;calc zo<|zq<|Hy<|nv (s:={ s with toks:=s.toks+1 }) a g c X.ob ?_;calc zp<|W.handed_on U<|zp h
theorem mB(X:gD K C)(c:oe.cls=.ref C):W.KitX K (.ref e) (.ref C) λh=>h.get? e=Kg oe where
 ty:=λM h a g=>gE g c
 it:=λM h a g=>(W.kit_cls a X.me).2.1
 ne:=λh tp j f n i a g=>by
  refine yt.mpr λz=>?_
  let b:=zz.ref.inj<|beq_iff_eq.mp z;subst b;let m:=X.be;unfold W.mroIn W.clsIn at m;cases q:List.lookup C K with
  |none=>rw[q]at m;cases m
  |some o =>
   let k:=a C o q;rw[g]at k;let d:=Option.some.inj k;rw[q,←d]at m;cases m
 ca:=λ{prog w A E Q s} a g h=>u6 a X g c h
theorem oo:∀{cs:La Ak}{us:La zz},Vals (cs.map V.ref) us->us=cs.map zz.ref
 | [],_,.nil=>rfl
 |c :: cs,_,.cons r t=>by rw[oo t];calc Kt (· :: cs.map zz.ref) r
theorem iW(c:oe.cls=.ref C)(L:gD X.K C):cw (sfx X e oe) (.builtin "isinstance") (λxs H Q=>∃y b,xs=[.ref e,y]/\((∃B,y=.ref B/\W.kitOne X.K (.ref C) (.ref B)=Kg b)\/(∃T,y=.ty T/\W.kitOne X.K (.ref C) (.type T)=Kg b) \/
  (∃(tp:Ak)(cs:La Ak),y=.ref tp/\H tp=Kg (.tup<|cs.map V.ref)/\W.kitAny X.K (.ref C) (cs.map zz.ref)=Kg b))/\Q (.bl b) H):=by
 intro Kl s σ H xs A Q I r h;let(y,b,rfl,t,q):=h;let g:=I.excObj;let f:X.K.In s.heap:=I.kIn;cases r with
 |cons l p =>
  cases p with
  |cons d o =>
   cases o;cases (show _=zz.ref e from l);let fin:∀a,EP (sfx X e oe) Kl σ Q (zz.bool b) { s with toks:=a }:=λa=>⟨.bl b,H,I.tok a,U,q⟩
   rcases t with⟨B,rfl,k⟩|⟨T,rfl,k⟩|⟨tp,cs,rfl,u,k⟩
   .cases (show _=zz.ref B from d);exact W.kia_one (mB L c) f g k (λz=>nomatch z) fin
   .cases (show _=zz.type T from d);exact W.kia_one (mB L c) f g k (λz=>nomatch z) fin
   .cases (show _=zz.ref tp from d);let(_,x,m,(G,F,E,D),v,j,n,i):=I.hok tp _ u;let w:=oo m;subst w;dsimp only at j i;subst j i;calc W.kia_tup (mB L c) f g v k (λz=>nomatch z) fin
inductive B9(c:Str)(Q:VK)(x:V)(H1:Hp):Prop
 |mk (z:Str)(_:x=.str z)(_:z.length<=1000)(_:(∀n∈z.cps.toList,n<16^8))(_:c.length<=1000)(_:∀z2:Str,Q (.str z2) H1)
def tFr(c:Str)(a:TE):TE:=λσ H Q=>a σ H λx b=>B9 c Q x b
theorem len_app(x y:Str):(x++y).length=x.length+y.length:=by
 show(Str.append x y).cps.size=x.cps.size+y.cps.size;unfold Str.append;simp
theorem zK{P:zM}{w:zJ}{X:Cx}:Passes (CX1 P w) X E0:=λ_ _ _ _ _ _ _ h=>by
 let(_,_,_,_,_,_,_,_,_,_,_,_,_,_,_,_,_,q):=h;calc False.elim q
def aX(CX:CXT)(P:zM)(w:zJ)(K:W.Frag)(b:Str->Option zz)(base:Az)(k:Nat)(C:Ak)(m:Str)(ps:La Str)(sp:Sp):Prop :=
 ∃f a,Meth K C m f/\aN P w K b base CX k f a ps sp/\Binds K a ps []
def bF(CX:CXT)(P:zM)(w:zJ)(K:W.Frag)(a:Str->Option zz)(base:Az)(k:Nat)(x:Str)(C:Ak)(ps:La Str)(sp:Sp):Prop :=
 ∃f b,Mk K C f/\aN P w K a base CX k f b ps sp/\Binds K b ps []/\a x=Kg (.ref C)
structure Ca(K:W.Frag)(B:Ak)(m:Str)(f:Ak):Prop where
 sp:W.specialIn K (.ref B) "__getattribute__" = Kg (Kg<|.builtin "type.__getattribute__")
 rd:W.readsIn K B (.type "type")=Ki
 at_:W.findCls K (.ref B) (.type "type") m=Kg (.val<|.ref f)
 kp:W.keepIn K (.ref f)=Ki
def cx(CX:CXT)(P:zM)(w:zJ)(K:W.Frag)(a:Str->Option zz)(base:Az)(k:Nat)(x:Str)(m:Str)(ps:La Str)(sp:Sp):Prop :=
 ∃f b B,Ca K B m f/\aN P w K a base CX k f b ps sp/\Binds K b ps []/\a x=Kg (.ref B)
section
variable{CX:CXT}{mg:Str->Option zz}{j k:Nat}{m:Str}
theorem aX.mono(c:aX CX P w K mg base j C m ps sp)(h:j<=k):aX CX P w K mg base k C m ps sp:=by
 let(f,a,M,F,b):=c;calc⟨f,a,M,F.mono h,b⟩
theorem bF.mono(c:bF CX P w K mg base j x C ps sp)(h:j<=k):bF CX P w K mg base k x C ps sp:=by
 let(f,a,M,F,b):=c;calc⟨f,a,M,F.mono h,b⟩
theorem cx.mono(c:cx CX P w K mg base j x m ps sp)(h:j<=k):cx CX P w K mg base k x m ps sp:=by
 let(f,a,B,M,F,b):=c;calc⟨f,a,B,M,F.mono h,b⟩
end
inductive Cb(C:Ak)(m:Str)(sp:Sp)(t:TA)(σ:St)(Q:VK)(x:V)(H1:Hp):Prop
 |mk (a dx fs:_)(_:x=.ref a)(_:H1 a=Kg (.ins C dx fs))(_:fs.lookup m=Kh)(_:t σ H1 λvs H2=>sp (x :: vs) H2 Q E0)
def tMt(C:Ak)(m:Str)(sp:Sp)(a:TE)(t:TA):TE:=λσ H Q=>a σ H λx b=>Cb C m sp t σ Q x b
def tMk(C:Ak)(sp:Sp)(t:TA):TE:=λσ H Q=>t σ H λc b=>∀x a,b x=Kh->b a=Kh->a≠x ->
 sp (.ref x :: c) (upd (upd b a<|.own x) x<|.ins C a []) (λv d=>v=.non/\Q (.ref x) d) E0
section
variable{CX:CXT}{k:Nat}{f:Ak}{fd:Hv}{m:Str}{p np apos:Pos}{e o:D0}{es:La D0}{ta:TE}{t:TA}
theorem wM{Kl:La (Ak×Obj)}{σ:St}{H:Hp}{s:Cg}{Q:VK}{us:La zz}{vs:La V}{E:XK}(F:aN X.prog X.w X.K X.mg X.base CX k f fd ps sp)(b:b8 k X.A)(c:Binds X.K fd ps [])(a:Passes CX X E)
  (I:Inv X Kl σ H s)(r:Vals vs us)(h:sp vs H Q E):DO (model X.prog X.w) X.A (call (.ref f) us) (EP X Kl σ Q) X.xe s :=
 wq (dvs:=[]) (ds:=[]) F b c .nil a I r (by rw[jQ];exact h)
theorem iw{pl:Sem Bool}(M:aX CX X.prog X.w X.K X.mg X.base k C m ps sp)(z:Passes CX X E0)(c:Cls X.K C)(D:b8 k X.A)(E:PE X o ta)(J:PA X (e :: es) t)
  (b:E2 (e :: es) X.env=(Kj,eval e X.env) :: E2 es X.env:=by rfl)(d:(E1 pos<|E2 es X.env).any (·.1)=false:=by rfl)
  (B:eval (.Call (.Attribute o m apos) (e :: es) [] pos) X.env=(do
   let g ←eval o X.env
   Gf apos.atName
   let (f,first) ←holding [g] (G9 g m pl)
   IA pos f first (E1 pos<|E2 (e :: es) X.env) (HJ pos<|HK [] X.env)):=by rfl) :
  PE X (.Call (.Attribute o m apos) (e :: es) [] pos) (tMt C m sp ta t):=by
 let(f,fd,i,F,G):=M;intro Kl s σ H Q I h;calc W.methodCall_KW (pl:=pl) (thn (E Kl s σ H _ I h) λu p ⟨x,O,n,v,a,R,fs,L,N,l,q⟩=>?_) B;subst L;obtain rfl:u=zz.ref a:=v;calc jC n N c i l ?_;calc W.callWith_K (first:=[.ref a]) (h₀:=X.base) I.ok.mod.kin i.kp (thn (J pos Kl p σ O _ n q) λus P ⟨vs,S,j,r,y⟩=>⟨j.kIn,?_⟩) b d;calc wM (us:=.ref a :: us) (vs:=.ref a :: vs) F D G z j (.cons U r) y
theorem fK{pl:Sem Bool}(M:cx CX X.prog X.w X.K X.mg X.base k x m ps sp)(l:Passes CX X E0)(o:b8 k X.A)(q:Gl X x)(y:PA X (e :: es) t)(d:(x == ("__debug__" : Str))=false:=by decide)
  (b:E2 (e :: es) X.env=(Kj,eval e X.env) :: E2 es X.env:=by rfl)(c:(E1 pos<|E2 es X.env).any (·.1)=false:=by rfl)
  (n:eval (.Call (.Attribute (.Name x np) m apos) (e :: es) [] pos) X.env=(do
   let g ←eval (.Name x np) X.env
   Gf apos.atName
   let (f,first) ←holding [g] (G9 g m pl)
   IA pos f first (E1 pos<|E2 (e :: es) X.env) (HJ pos<|HK [] X.env)):=by rfl) :
  PE X (.Call (.Attribute (.Name x np) m apos) (e :: es) [] pos) (tFn sp t):=by
 let(f,fd,B,a,F,u,p):=M;intro Kl s σ H Q I h;calc W.methodCall_KW (pl:=pl) (eY I q p ?_ d) n;calc W.method_cls I.kIn a.sp<|W.cls_value (mc:=.type "type") I.kIn a.rd a.at_ (nW (v:=.ref f) U) ?_;calc W.callWith_K (first:=[]) (h₀:=X.base) I.ok.mod.kin a.kp (thn (y pos Kl _ σ H _ (I.tok _) h) λus z ⟨vs,C,i,r,j⟩=>⟨i.kIn,?_⟩) b c;calc wM (us:=us) (vs:=vs) F o u l i r j
theorem uc(M:bF CX X.prog X.w X.K X.mg X.base k x C ps sp)(l:Passes CX X E0)(m:b8 (k+1) X.A)(o:Gl X x)(u:PA X (e :: es) t)(i:(x == ("__debug__" : Str))=false:=by decide)
  (he:E2 (e :: es) X.env=(Kj,eval e X.env) :: E2 es X.env:=by rfl)(g:(E1 pos<|E2 es X.env).any (·.1)=false:=by rfl) :
  PE X (.Call (.Name x p) (e :: es) [] pos) (tMk C sp t):=by
 let(f,fd,M,F,r,n):=M;let h:=yo (E:=E0) (dvs:=[]) (ds:=[]) (p:=p) M F m o n r .nil l u i he g;intro Kl s σ H Q I q;calc h Kl s σ H Q I ?_;let j:t σ H λc b=>∀x a,b x=Kh->b a=Kh->a≠x->sp (.ref x :: c) (upd (upd b a<|.own x) x<|.ins C a []) (λv d=>v=.non/\Q (.ref x) d) E0:=q
 show t σ H λc b=>∀x a,b x=Kh->b a=Kh->a≠x->sp (.ref x :: (c++[])) (upd (upd b a<|.own x) x<|.ins C a []) (λv d=>v=.non/\Q (.ref x) d) E0
 let y:(λ(c:La V)(b:Hp)=>∀x a,b x=Kh->b a=Kh->a≠x->sp (.ref x :: (c++[])) (upd (upd b a<|.own x) x<|.ins C a []) (λv d=>v=.non/\Q (.ref x) d) E0)=λc b=>∀x a,b x=Kh->b a=Kh->a≠x->sp (.ref x :: c) (upd (upd b a<|.own x) x<|.ins C a []) (λv d=>v=.non/\Q (.ref x) d) E0:=by
  funext c b
  rw[jQ]
 rw[y];calc j
end
inductive Shw:V->Prop where
 |non:Shw .non
 |bl (b:Bool):Shw (.bl b)
 |int {i:Int}(h:i.natAbs<10^60):Shw (.int i)
 |str {z:Str}(h:z.length<=1000)(k:∀n∈z.cps.toList,n<16^8):Shw (.str z)
theorem AK{n:Int}(h:n.natAbs<10^60):n.natAbs.log2<1920:=by
 by_cases z:n.natAbs=0
 .rw[z];decide
 .let:=(Nat.log2_lt (k:=200) z).mpr<|uL h ⋯;lia
def DM(c:Str)(b:TE):TE:=λσ H Q=>b σ H λx d=>Shw x/\c.length<=1000/\∀a:Str,Q (.str a) d
theorem wN{a:D0}{K:TE}{c:Str}{k:Nat}{N B pos:Pos}(R:PE X a K):PE X (.JoinedStr [.FormattedValue a 114 Kh N,.Constant (.str c) k B] pos) (DM c K):=by
 intro Kl s σ H Q I h;let f:∀n,n<=20000->n<=AA:=λn P=>tT P ⋯
 calc IB<|IC<|ID<|thn (R Kl s σ H _ I h) λv m ⟨x,g,D,C,M,T,q⟩=>?_;let l:∀y:Str,(Str.empty++y).length=y.length:=λy=>by rw[len_app];show 0+_=_;lia
 cases M with
 |non =>
  cases (show v=zz.none from C);calc pyReprObj_none<|formatField_str (λF d=>?_) ⋯;calc⟨_,_,U,⋯,IC ?_⟩;let J:Inv X Kl σ g { m with toks:=d }:=D.tok d;refine thn (aS (X:=X) (x:=c) (j:=k) (pos:=B) Kl { m with toks:=d } σ g (λv A=>v=.str c/\A=g) J ⟨U,U⟩) λv G ⟨y,w,u,o,r,p⟩=>?_
  subst r p;let(E,rfl):=o;let L:(Str.empty++s!"None").length=4:=⋯
  refine⟨_,_,U,f _ (by rw[len_app,L];lia),IE ⟨f _ (by rw[len_app,L];lia),?_⟩⟩;exact⟨.str _,w,u.tok _,⟨_,U⟩,q _⟩
 |bl b =>
  cases (show v=zz.bool b from C);let O:(if b then s!"True"else s!"False").length<=5:=by cases b <;> decide
  calc pyReprObj_bool<|formatField_str (λF d=>?_)<|f _ ∅;refine⟨_,_,U,f _ (by rw[l];lia),IC ?_⟩;let J:Inv X Kl σ g { m with toks:=d }:=D.tok d;refine thn (aS (X:=X) (x:=c) (j:=k) (pos:=B) Kl { m with toks:=d } σ g (λv A=>v=.str c/\A=g) J ⟨U,U⟩) λv G ⟨y,w,u,o,r,p⟩=>?_
  subst r p;let(E,rfl):=o;refine⟨_,_,U,f _ (by rw[len_app,l];lia),IE ⟨f _ (by rw[len_app,l];lia),?_⟩⟩;exact⟨.str _,w,u.tok _,⟨_,U⟩,q _⟩
 | @int i hi =>
  let(t,rfl):=(show ∃t,v=zz.int i t from C);let O:(Str.ofString<|toString i).length<=61:=by
   let e:(Str.ofString<|toString i).length=(toString i).length:=by
    rw[Str.ofString_eq_toList];show(List.map Char.toNat (toString i).toList).toArray.size=_;rw[dA,dn];exact String.length_toList
   rw[e];exact int_text_length_le10 ⋯ hi
  calc pyReprObj_int (AK hi)<|formatField_str (λF d=>?_)<|f _ ∅;refine⟨_,_,U,f _ (by rw[l];lia),IC ?_⟩;let J:Inv X Kl σ g { m with toks:=d }:=D.tok d;refine thn (aS (X:=X) (x:=c) (j:=k) (pos:=B) Kl { m with toks:=d } σ g (λv A=>v=.str c/\A=g) J ⟨U,U⟩) λv G ⟨y,w,u,o,r,p⟩=>?_
  subst r p;let(E,rfl):=o;refine⟨_,_,U,f _ (by rw[len_app,l];lia),IE ⟨f _ (by rw[len_app,l];lia),?_⟩⟩;exact⟨.str _,w,u.tok _,⟨_,U⟩,q _⟩
 | @str z hz hc =>
  let(t,rfl):=(show ∃t,v=zz.str z t from C);let S:=StrLaws.reprText_len z hc;calc IF (formatField_str (λF d=>?_)<|f _ ∅)<|f _ ∅;refine⟨_,_,U,f _ (by rw[l];lia),IC ?_⟩;let J:Inv X Kl σ g { m with toks:=d }:=D.tok d;refine thn (aS (X:=X) (x:=c) (j:=k) (pos:=B) Kl { m with toks:=d } σ g (λv A=>v=.str c/\A=g) J ⟨U,U⟩) λv G ⟨y,w,u,o,r,p⟩=>?_
  subst r p;let(E,rfl):=o;refine⟨_,_,U,f _ (by rw[len_app,l];lia),IE ⟨f _ (by rw[len_app,l];lia),?_⟩⟩;calc⟨.str _,w,u.tok _,⟨_,U⟩,q _⟩
def aN.no{P:zM}{w:zJ}{K:W.Frag}{a:Str->Option zz}{base:Az}{CX:CXT}{k:Nat}{f:Ak}{b:Hv}{ps:La Str}{sp:Sp}(h:∀vs H Q E,¬ sp vs H Q E):aN P w K a base CX k f b ps sp :=
 ⟨λvs H Q E q=>(h vs H Q E q).elim,λ_ _ _ H _ _ vs Q E _ _ _ _ q=>(h vs H Q E q).elim⟩
def kr{X:Cx}{K:W.Frag}{e:D0}{f:Str}{pos:Pos}{a:TE}(h:X.K=K)(b:PE X e a)(c:Ho e f X.env (eval e X.env)=eval e X.env):PE X (.Attribute e f pos) (BX K a f):=h ▸ aY b c
set_option maxRecDepth 100000
inductive DEq(K:W.Frag)(H:Hp):Nat->V->V->Bool->Prop where
 |flat {n:Nat}{x y:V}(fx:bM x=Ki)(fy:bM y=Ki):DEq K H n x y (eqV x y)
 |same {n:Nat}(a:Ak):DEq K H n (.ref a) (.ref a) Ki
 |lst {n:Nat}{a b:Ak}{xs ys:La V}{f:Nat->Bool}(ne:a≠b)(ha:SqL K H a xs)(hb:SqL K H b ys)(hl:xs.length=ys.length)(h:∀(j:Nat)(x y:V),xs[j]?=Kg x->ys[j]?=Kg y->DEq K H n x y (f j)):DEq K H (n+1) (.ref a) (.ref b) ((List.range xs.length).all f)
 |lst_ne {n:Nat}{a b:Ak}{xs ys:La V}(ne:a≠b)(ha:SqL K H a xs)(hb:SqL K H b ys)(hl:xs.length≠ys.length):DEq K H (n+1) (.ref a) (.ref b) Kj
 |tup {n:Nat}{a b:Ak}{xs ys:La V}{f:Nat->Bool}(ne:a≠b)(ha:SqT K H a xs)(hb:SqT K H b ys)(h:∀(j:Nat)(x y:V),xs[j]?=Kg x->ys[j]?=Kg y->DEq K H n x y (f j)):DEq K H (n+1) (.ref a) (.ref b) ((List.range<|min xs.length ys.length).all f && xs.length == ys.length)
theorem kT{xs:La V}{a:La zz}(r:Vals xs a){j:Nat}(h:j<a.toArray.size):∃x,xs[j]?=Kg x/\RelV x a.toArray[j]:=by
 let f:j<a.length:= ~~~h
 let i:=r.length;let b:xs[j]?=Kg xs[j]:=GC ∅;let(d,c,e):=r.get b;let g:a.toArray[j]=d:=by
  let:=GC f;rw[this]at c;simpa using Option.some.inj c
 calc⟨xs[j],b,g ▸ e⟩
theorem DEq.at{n:Nat}{x y:V}{b:Bool}(e:DEq X.K H n x y b)(I:Inv X Kl σ H s):∀{A:Cd}{u v:zz},A.units+n<Ht->RelV x u->RelV y v->SeqAt.EqAt A s u v b:=by
 induction e with
 |flat G F=>intro A u v o i g;exact mi i g G F
 |same a =>
  intro A u v o i g;cases (show u=zz.ref a from i);cases (show v=zz.ref a from g);exact SeqAt.EqAt.same _
 | @lst n a b xs ys f ne ha hb hl h ih =>
  intro A u v o i g;cases (show u=zz.ref a from i);cases (show v=zz.ref b from g);let(d,r,p,_):=I.list ha;let(c,k,l,_):=I.list hb;let E:=r.length;let D:=k.length;let m:=SeqAt.RcAt.lists (A:=A) (e:=f) p.isList l.isList (by simp only[dA];lia) ∅ (λj z w=>by
   let(x,C,t):=kT r z;let(y,B,q):=kT k w;exact ih j x y C B (by show A.units+1+n<Ht;lia) t q)
  rw[show d.toArray.size=xs.length by simp only[dA];lia]at m;exact SeqAt.EqAt.of_refs ne m
 | @lst_ne n a b xs ys ne ha hb hl =>
  intro A u v o i g;cases (show u=zz.ref a from i);cases (show v=zz.ref b from g);let(d,r,p,_):=I.list ha;let(c,k,l,_):=I.list hb;let E:=r.length;let D:=k.length;exact SeqAt.EqAt.of_refs ne<|SeqAt.RcAt.lists_lengths p.isList l.isList (by simp only[dA,bne_iff_ne,ne_eq];lia) ∅
 | @tup n a b xs ys f ne ha hb h ih =>
  intro A u v o i g;cases (show u=zz.ref a from i);cases (show v=zz.ref b from g);let(d,r,p,_):=I.tuple ha;let(c,k,l,_):=I.tuple hb;let E:=r.length;let D:=k.length;let m:=SeqAt.RcAt.tuples (A:=A) (e:=f) (show s.heap.IsTuple a d.toArray from p) (show s.heap.IsTuple b c.toArray from l) ∅ (λj z w=>by
   let(x,C,t):=kT r z;let(y,B,q):=kT k w;exact ih j x y C B (by show A.units+1+n<Ht;lia) t q)
  rw[show d.toArray.size=xs.length by simp only[dA];lia,show c.toArray.size=ys.length by simp only[dA];lia]at m;calc SeqAt.EqAt.of_refs ne m
inductive wO(K:W.Frag)(neg:Bool)(x:V)(y:V)(H:Hp)(Q:VK):Prop
 |mk (a b xs ys:_)(_:x=.ref a)(_:y=.ref b)(_:SqL K H a xs)(_:SqL K H b ys)(_:((xs.length≠ys.length/\Q (.bl neg) H)\/(xs.length=ys.length/\∃f:Nat->Bool,(∀(j:Nat)(x y:V),xs[j]?=Kg x->ys[j]?=Kg y->DEq K H 60 x y (f j))/\Q (.bl (if neg then !(List.range xs.length).all f else(List.range xs.length).all f)) H)))
theorem yu{Kl:La (Ak×Obj)}{σ:St}{H:Hp}{s:Cg}{A:Cd}{xs ys:La V}{a its':La zz}{f:Nat->Bool}(I:Inv X Kl σ H s)(h:A.units+60<Ht)(r:Vals xs a)(d:Vals ys its')
  (hf:∀(j:Nat)(x y:V),xs[j]?=Kg x->ys[j]?=Kg y->DEq X.K H 60 x y (f j)):∀j (c:j<a.toArray.size)(b:j<its'.toArray.size),SeqAt.EqAt A s a.toArray[j] its'.toArray[j] (f j):=λj c b=>by
 let(x,k,g):=kT r c;let(y,i,e):=kT d b;calc(hf j x y k i).at I h g e
theorem yw{k:Nat}(n:b8 k X.A):OpR X (G4 .NotEq) (wO X.K Ki):=by
 intro Kl s σ H x y v u Q I m l h;let(a,b,j,B,rfl,rfl,z,t,h):=h;cases (show v=zz.ref a from m);cases (show u=zz.ref b from l);let(c,r,p,_):=I.list z;let(i,d,g,_):=I.list t;let D:=r.length;let C:=d.length;let E:=n.units;rcases h with⟨F,q⟩|⟨G,f,o,q⟩
 .refine SeqAt.RcNeAt.lists_lengths p.isList g.isList (by simp only[dA,bne_iff_ne,ne_eq];lia) ∅ X.prog X.w X.xe _ ⟨.bl Ki,H,I,U,q⟩
 .refine SeqAt.RcNeAt.lists (e:=f) p.isList g.isList (by simp only[dA];lia) ∅ (yu I (by show X.A.units+1+60<Ht;lia) r d o) X.prog X.w X.xe _ ⟨.bl _,H,I,U,?_⟩;rw[show c.toArray.size=j.length by simp only[dA];lia];exact q
set_option maxRecDepth 100000
section
variable{tg:D0}
end
end L2
namespace HT
open PySem PyProof.Rows
section
open PySem.SeqAt
open PySem.AutoSeq1 (wpAny_loadPart')
open PySem.MeetsSeq PySem.MeetsSeq2 PySem.MeetsSeq3
end
end HT
namespace L2
open PySem PySem.Spec PyProof.Rows
section
variable{X:Cx}
end
end L2
namespace HT
open PySem PyProof.Rows
section
open PySem.SeqAt
open PySem.AutoSeq1 (wpAny_loadPart')
open PySem.MeetsSeq PySem.MeetsSeq2 PySem.MeetsSeq3
theorem tuple_lt_at(l b:Ak)(items a:Array zz)(n K:Nat)(dd F:Option Ak)(I t:Array (Option zz))(j:Nat)(p o:zz)(r:Bool)(f:items.toList[j]?=Kg p)(e:a.toList[j]?=Kg o) :
  Meets (G0.«tuple.__lt__» ⟨[.ref l,.ref b],[]⟩)
   (λA R s=>s.heap.get? l=Kg { cls:=.type "tuple",dict:=dd,data:=.seq items n,slots:=I }/\s.heap.get? b=Kg { cls:=.type "tuple",dict:=F,data:=.seq a K,slots:=t } /\
    (∀i x y,i<j->items.toList[i]?=Kg x->a.toList[i]?=Kg y->EqAt A.in1 s x y Ki)/\EqAt A.in1 s p o Kj/\(∀(prog:zM)(w:zJ)(Q E:zz->Cg->Prop),Q (.bool r) s->DO (model prog w) A.in1 (IG .Lt p o) Q E s) /\
    R (.ok<|.ret<|.bool r) s) :=
 .of_wp λprog w A R s h=>by
  let(L,g,d,H,J):=s;let(M,O,C,z,v,h):=h;let X:=AutoSeq1.sub_tuple_tuple
  wp_walk using wpAny_loadPart' M,wpAny_loadPart' O,wpAny_forIn_list _ (λrest b q=>b.1=Kh/\q=⟨L,g,d,H,J⟩/\∃k,k<=j/\rest=(items.toList.zip a.toList).drop k) _
  case turn =>
   rintro⟨x,y⟩ rest b q ⟨D,rfl,k,N,m⟩;let c:(items.toList.zip a.toList)[k]?=Kg (x,y):=by
    let:=Kt (λl=>l[0]?) m;simp only[List.getElem?_cons_zero,List.getElem?_drop,Nat.add_zero]at this;exact this.symm
   let G:rest=(items.toList.zip a.toList).drop (k+1):=by
    let:=Kt List.tail m;rw[List.tail_cons,List.tail_drop]at this;exact this
   rw[List.getElem?_zip_eq_some]at c;by_cases B:k=j
   .subst B;rw[f,e]at c;let(T,S):=c;cases T;cases S;calc zo<|z prog w _ _ ?_;let u:=v prog w
    wp_walk using u
    exact⟨_,rfl,~~~h⟩
   .refine zo (C k x y ∅ c.1 c.2 prog w _ _ ?_)
    wp_walk
    exact⟨rfl,rfl,k+1,∅,G⟩
  case fin =>
   rintro⟨Z,Y⟩ q ⟨D,rfl,k,N,m⟩;let W:=(GD.mp f).1;let V:=(GD.mp e).1;let P:=Kt List.length m;rw[List.length_drop,lE,sG]at P;lia
  case h =>
   calc⟨rfl,rfl,0,tS _,rfl⟩
end
end HT
namespace L2
open PySem PySem.Spec PyProof.Rows
variable{X:Cx}
variable{prog:zM}{w:zJ}{A:Cd}{E:zz->Cg->Prop}{s:Cg}
section
variable{κ:Type} [DecidableEq κ]
def cntK(ks:La κ):Nat->Nat
 |0=>0
 |i+1=>match ks[i]? with
  |some k=>if k∈ks.take i then cntK ks i else cntK ks i+1
  |none=>cntK ks i
theorem ku(ks:La κ):∀i,cntK ks i<=i
 |0=>tj _
 |i+1=>by
  let a:=ku ks i;unfold cntK;split
  .split <;> lia
  .lia
theorem iX(ks:La κ):∀i,i<=ks.length->(cntK ks i=i↔(ks.take i).Nodup)
 |0,_=>by simp[cntK]
 |i+1,h=>by
  let c:=iX ks i ∅;let le:=ku ks i;let e:ks[i]?=Kg ks[i]:=GC ∅;let g:ks.take (i+1)=ks.take i++[ks[i]]:=by rw[lA,e];rfl
  unfold cntK;rw[e,g,oD];dsimp only;by_cases m:ks[i]∈ks.take i
  .rw[Ko m];exact⟨λz=>Kp z ∅,λz=>Kp U<|z.2.2 _ m _ (by simp)⟩
  .rw[Kn m];refine⟨λz=>⟨c.mp ∅,by simp,λa f b d=>?_⟩,λz=>by rw[c.mpr z.1]⟩;rw[show b=ks[i] by simpa using d];calc λq=>m<|q ▸ f
variable{knd:KeyKind prog w κ}
theorem gF{h h':Az}{a:Ak}{S:κ->Bool}{n:Nat}(x:h.SetOf knd a S n)(k:∀o,h.get? a=Kg o->h'.get? a=Kg o):h'.SetOf knd a S n:=by
 let(o,c,d,t,b,r):=x;calc⟨o,c,d,t,k o b,r⟩
def mC{h:Az}{a:Ak}{S c:κ->Bool}{n b:Nat}(x:h.SetOf knd a S n)(e:S=c)(d:n=b):h.SetOf knd a c b:=e ▸ d ▸ x
theorem u9{R:Hm->Cg->Prop}{I:Ak}{E g:La Ak}{G:Array CC->Array CC->Prop}{n:Nat}{P:Nat->zz->Prop}{St:Nat->Cg->Prop}(W:IH prog w A.in1 I E g G n P St){a:Ak}(D:a ∉ E){ks:La κ}
  (T:∀i v,P i v->∃k,ks[i]?=Kg k/\knd.is k v=Ki/\v.scannable=Ki)(f:n+1<II):∀(d i:Nat)(s:Cg),n=i+d->St i s->s.heap.SetOf knd a (λk=>decide<|k∈ks.take i) (cntK ks i) ->
   (∀s',IJ (a :: g) G s s'->s'.heap.SetOf knd a (λk=>decide<|k∈ks.take n) (cntK ks n)->R (.ok<|.ret .none) s')->Hn (model prog w) A (.builtin "set.update.loop" ⟨[.ref a,.ref I],[]⟩) R s:=by
 let C:a ∉ g:=λz=>D<|W.sub a z
 intro d;induction d with
 |zero =>
  intro i s e h x fin;rw[show n=i by lia]at W fin;calc Im (R:=R) (A:=A) F.entry_set_update_loop ?_;rw[Cd.under_plainId (A:=A) F.plain_set_update_loop _];show DO (model prog w) A.in1 (GR (.ref I) >>= _) _ _ s;exact zo<|W.done s _ _ h λs' m=>zp<|fin s' (m.mono λb f=>dV a f)<|gF x λo q=>m.heap a o C q
 |succ d S =>
  intro i s e h x fin;calc Im (R:=R) (A:=A) F.entry_set_update_loop ?_;rw[Cd.under_plainId (A:=A) F.plain_set_update_loop _];show DO (model prog w) A.in1 (GR (.ref I) >>= _) _ _ s;calc zo<|W.item i s _ _ ∅ h λv c p l m=>?_;let(k,H,B,N):=T i v p;let M:=gF x λo q=>m.heap a o C q
  show DO (model prog w) A.in1 (holding [v] (IK a v) >>= _) _ _ c;refine zo<|zq (show DO (model prog w) A.in1 (IK a v) _ _ c from ?_);unfold IK;calc zq<|zo<|knd.pyHash B ?_;let le:=ku ks i;refine wpAny_setAddHashed_of (knd:=knd) (s:={ c with toks:=c.toks+1 }) B N M ∅ λj u L=>?_
  let V:ks.take (i+1)=ks.take i++[k]:=by rw[lA,H];rfl
  let K:j.SetOf knd a (λq=>decide<|q∈ks.take (i+1)) (cntK ks<|i+1):=by
   refine mC L (funext λq=>?_) ?_
   .rw[V];by_cases z:q∈ks.take i <;> by_cases y:q=k <;> simp[z,y]
   .show(if decide (k∈ks.take i)=Ki then cntK ks i else cntK ks i+1)=match ks[i]? with|some k=>if k∈ks.take i then cntK ks i else cntK ks i+1|none=>cntK ks i
    rw[H];by_cases z:k∈ks.take i <;> simp[z]
  calc zp ⟨IL F.plain_set_update_loop _,S (i+1) { c with heap:=j,toks:=c.toks+1 } ∅ (W.frame (i+1) c j (c.toks+1) l (uM _) λb t o q=>(u.2 b λz=>D<|z ▸ t).trans q) K λO Q J=>?_⟩;calc fin O (IJ.trans W.gtrans ((m.mono λb f=>dV a f).then_heap (uM _) λb o r q=>?_) Q) J;calc(u.2 b λz=>r<|z ▸ dO).trans q
abbrev dM(led:Bool):Obj:={ cls:=.type "set",dict:=Kh,data:=.set #[] 0 (.fresh 0 0 led) }
def Filled(knd:KeyKind prog w κ)(s:Cg)(ks:La κ)(h':Az):Prop :=
 h'.SetOf knd s.heap.objs.size (λk=>decide<|k∈ks) (cntK ks ks.length)/\∀b o,b<s.heap.objs.size->s.heap.get? b=Kg o->h'.get? b=Kg o
theorem wQ{l:Ak}{items:Array zz}{ks:La κ}{led:Bool}(I:A.handled=Kh)(G:s.heap.IsList l items)(H:∀(i:Nat)(v:zz),items[i]?=Kg v->∃k,ks[i]?=Kg k/\knd.is k v=Ki/\v.scannable=Ki)(D:ks.length=items.size)(J:items.size+1<II) :
  Hn (model prog w) A (.call (.builtin "set.__init__") ⟨[.ref s.heap.objs.size,.ref l],[]⟩) (wants (λr t=>r=.none/\∃h' n,t={ s with heap:=h',toks:=n }/\Filled knd s ks h') E) { s with heap:=s.heap.push (dM led) }:=by
 let j:(s.heap.push<|dM led).get? s.heap.objs.size=Kg (dM led):=Az.get?_push_size s.heap U;let ty:Cg.TypeIs { s with heap:=s.heap.push (dM led) } (.ref s.heap.objs.size) "set" := ⟨dM led,j,U⟩;calc Ik F.called_set.init.plain F.entry_set_init<|IM ty ?_;let((V,P,T,O),f,h,m,g):=G;dsimp only at h g;subst h g;let L:(s.heap.push<|dM led).get? l=Kg { cls:=.type "list",dict:=P,data:=.seq items m,slots:=O }:=Az.get?_push_of_some _ f;let S:=F.sub_list_set;let R:=F.sub_list_frozenset;let Q:(zz.type "list" == zz.type "dict")=false:=⋯
 let e:(s.heap.push<|dM led).IsList l items:=⟨_,L,U,m,U⟩;let lt:l<s.heap.objs.size:=Az.lt_size f;unfold G0.«set.__init__» G0.Frozenset.updateFrom noKeywords;generalize K:GU=it
 wp_walk
 subst K;calc GZ e<|zo<|IP ?_;let B:l≠(s.heap.push<|dM led).objs.size:=by rw[Az.size_push];exact tN<|vb lt
 let C:s.heap.objs.size ∉ [(s.heap.push<|dM led).objs.size,l]:=by
  rw[Az.size_push];intro z;rcases dt.mp z with z|z
  .exact Kp z<|tN<|vr _
  .exact Kp (~~~z)<|tR lt
 refine u9 (knd:=knd) ((GY.list (by simp[I]) _ l B items).toS) C (ks:=ks) H J items.size 0 _ (Nat.zero_add _).symm ⟨⟨_,Az.get?_push_size _ U,U,U⟩,e.push _⟩ (mC ((setObjOf_fresh (knd:=knd) led).setOf (Az.get?_push_of_some _ j) (by unfold II;lia)) (funext λk=>by simp) U) λu c x=>?_
 let(h',M,N,p,y):=u;obtain rfl:M=s.gens:=c.gens;obtain rfl:N=s.drawn:=c.drawn;obtain rfl:y=s.os:=c.os;refine zp (show DO (model prog w) _ (ret zz.none) _ _ _ from zp ⟨U,h',p,U,?_,λb o a q=>?_⟩)
 .rw[←D]at x;exact mC x (funext λk=>by rw[fD]) U
 .refine c.heap b o (λz=>?_)<|Az.get?_push_of_some _<|Az.get?_push_of_some _ q;rcases dt.mp z with z|z
  .exact Kp z<|tN a
  .let d:b=(s.heap.push<|dM led).objs.size:= ~~~z
   rw[Az.size_push]at d;exact Kp d (tN<|vb a)
set_option maxRecDepth 100000 in
theorem oq{l:Ak}{items:Array zz}{ks:La κ}{Q:zz->Cg->Prop}(q:A.handled=Kh)(o:s.heap.IsList l items)(p:∀(i:Nat)(v:zz),items[i]?=Kg v->∃k,ks[i]?=Kg k/\knd.is k v=Ki/\v.scannable=Ki)(n:ks.length=items.size)(t:items.size+1<II)
  (h:∀h' d,Filled knd s ks h'->Q (.ref s.heap.objs.size) { s with heap:=h',toks:=d }):DO (model prog w) A (call (.type "set") [.ref l]) Q E s:=by
 let(c,z,mro):=F.called_set.mro;let K:=F.called_set.made;let J:=F.called_set.sub;let I:=F.called_set.notType;let H:=F.called_set.canCreate;let G:=F.typeCall_set_1<|.ref l;refine Hy<|IQ (show DO (model prog w) _ (callAny (.type "set") _) _ _ _ from zp ⟨Hu.quiet_builtin _<|~~~0,Im F.entry_type_call ?_⟩);rw[Cd.under_plain (A:=A) (IS "set" [.ref l] []) U]
 repeat (any_goals (first|assumption|wp_step))
 refine Hz (code_set_new_1 (.ref l) (E:=E) (Q₁:=λj g=>∃a,j=.ref s.heap.objs.size/\g={ s with heap:=s.heap.push (dM a) }) λa=>⟨a,U,U⟩) λr g f=>?_
 cases r with
 |error e=>exact f
 |ok fl =>
  cases fl with
  |ret j =>
   let(a,rfl,rfl):=f;let u:(s.heap.push<|dM a).get? s.heap.objs.size=Kg (dM a):=Az.get?_push_size s.heap U;let ty:Cg.TypeIs { s with heap:=s.heap.push (dM a) } (.ref s.heap.objs.size) "set" := ⟨dM a,u,U⟩;let D:=F.called_set.init.lookup;let C:=F.called_set.init.bind<|.ref s.heap.objs.size
   repeat (any_goals (first|assumption|wp_step))
   refine Hz (wQ (E:=E) (knd:=knd) (by simp[q]) o p n t) λm B b=>?_
   cases m with
   |error e=>exact b
   |ok y =>
    cases y with
    |ret r =>
     let(rfl,h',d,rfl,x):=b
     repeat (any_goals (first|assumption|wp_step))
     exact h h' d x
    |_=>exact b.elim
  |_=>calc f.elim
end
def lN(P:zM)(w:zJ)(a:Ak)(zs:La Str):HO:=.ext λh=>h.SetOf (strKind P w) a (λz=>decide<|z∈zs)<|cntK zs zs.length
theorem ot:∀{zs:La Str}{us:La zz},Vals (zs.map V.str) us->∀(i:Nat)(v:zz),us[i]?=Kg v->∃z t,zs[i]?=Kg z/\v=.str z t
 | [],_,.nil,i,v,h=>by simp at h
 |z :: zs,_,.cons ⟨t,e⟩ r,0,v,h=>by simp at h;exact⟨z,t,U,by rw[←h,e]⟩
 |z :: zs,_,.cons _ r,i+1,v,h=>by
  let(a,t,c,b):=ot r i v<|~~~h;calc⟨a,t,~~~c,b⟩
theorem fR(C:X.calm=Ki):cw X (.type "set") (λxs H Q=>∃(p:Ak)(zs:La Str),xs=[.ref p]/\SqL X.K H p (zs.map V.str)/\zs.length<=1000/\∀l,H l=Kh->Q (.ref l) (upd H l<|lN X.prog X.w l zs)):=by
 intro j s G H xs J Q I r h;let(p,zs,rfl,D,L,q):=h;let(u,rfl,A):=r.one;obtain rfl:u=zz.ref p:=A;let(F,d,B,_):=I.list D;let f:=d.length;rw[dn]at f;refine oq (knd:=strKind X.prog X.w) (ks:=zs) (I.ok.hd C) B.isList (λi v e=>?_) (~~~f) (by unfold II;simp;lia) λh' n x=>?_
 .let(z,t,E,rfl):=ot d i v<|~~~e;exact⟨z,E,by show zz.isStrOf z (.str z t)=Ki;simp[zz.isStrOf],U⟩
 .let(c,m):=x;calc⟨.ref s.heap.objs.size,_,I.laid (a:=s.heap.objs.size) (o:=lN X.prog X.w s.heap.objs.size zs) (h':=h') (t':=n) (λb o q=>m b o (Az.lt_size q) q) (tj _) ?_,U,q _ I.fresh⟩;calc⟨c,?_,λN M y k=>gF y k⟩;let(o,_,_,_,g,_):=c;calc⟨o,g⟩
def Asc(xs:Array Nat):Prop:=xs.toList.Pairwise (· < ·)
theorem Asc.lt{xs:Array Nat}(h:Asc xs){i j:Nat}(a:i<j)(b:j<xs.size):xs[i]<xs[j]:=by
 let:=List.pairwise_iff_getElem.mp h i j (by simp;lia) (~~~b) a;simpa using this
theorem wR{xs:Array Nat}(h:Asc xs)(j:Nat):∀(a lo hi:Nat),lo<=hi->hi<=xs.size->hi-lo<=a ->
  (∀(i:Nat)(b:i<xs.size),i<lo->xs[i]<j)->(∀(i:Nat)(b:i<xs.size),hi<=i->j<=xs[i]) ->
  IT.below.go xs j a lo hi<=xs.size/\(∀(i:Nat)(b:i<xs.size),i<IT.below.go xs j a lo hi->xs[i]<j)/\(∀(i:Nat)(b:i<xs.size),IT.below.go xs j a lo hi<=i->j<=xs[i]):=by
 intro a;induction a with
 |zero =>
  intro lo hi o k n g f;let e:lo=hi:=∅
  subst e;exact⟨by unfold IT.below.go;exact k,by unfold IT.below.go;exact g,by unfold IT.below.go;exact f⟩
 |succ a l =>
  intro lo hi o k n g f;unfold IT.below.go;by_cases c:lo<hi
  .rw[Ko c];let m:(lo+hi) / 2<xs.size:=∅
   let p:xs.getD ((lo+hi) / 2) j=xs[(lo+hi) / 2]:=by simp[Array.getD,m]
   dsimp only;rw[p];by_cases d:xs[(lo+hi) / 2]<j
   .rw[Ko d];calc l _ _ ∅ k ∅ (λi b q=>?_) f;by_cases e:i=(lo+hi) / 2
    .subst e;exact d
    .exact uL (h.lt ∅ m) d
   .rw[Kn d];refine l _ _ ∅ ∅ ∅ g λi b r=>?_
    by_cases e:i=(lo+hi) / 2
    .subst e;lia
    .exact tT (Nat.le_of_not_lt d)<|uK<|h.lt ∅ b
  .rw[Kn c];let e:lo=hi:=∅
   subst e;calc⟨k,g,f⟩
theorem jE{xs:Array Nat}(h:Asc xs)(j:Nat):IT.below xs j<=xs.size/\(∀(i:Nat)(hi:i<xs.size),i<IT.below xs j->xs[i]<j)/\(∀(i:Nat)(hi:i<xs.size),IT.below xs j<=i->j<=xs[i]) :=
 wR h j xs.size 0 xs.size (tS _) (tj _) ∅ (λ_ _ z=>Kp z ∅) (λi hi z=>Kp z ∅)
theorem sI{xs:Array Nat}(h:Asc xs){i:Nat}(hi:i<xs.size):IT.below xs (xs[i]+1)=i+1:=by
 let(e,b,a):=jE h<|xs[i]+1;let d:¬ IT.below xs (xs[i]+1)<=i:=λz=>Kp (a i hi z) ∅
 let c:¬ i+1<IT.below xs (xs[i]+1):=λz=>by
  let:=b (i+1) ∅ z;let:=h.lt (show i<i+1 by lia) (show i+1<xs.size by lia);lia
 lia
theorem qw{xs:Array Nat}(h:Asc xs):IT.below xs 0=0:=by
 let(c,a,b):=jE h 0;by_cases z:IT.below xs 0=0
 .exact z
 .exact Kp (a 0 ∅ ∅) ∅
theorem sJ{xs:Array Nat}(h:Asc xs){j:Nat}(m:xs[IT.below xs j]?≠Kg j):Asc (IT.insertAt xs (IT.below xs j) j):=by
 let(s,o,g):=jE h j;unfold Asc;rw[IT.toList_insertAt,List.pairwise_append];refine⟨h.sublist<|ly _ _,rC.mpr ⟨λb f=>?_,h.sublist<|List.drop_sublist _ _⟩,λa n b f=>?_⟩
 .let(k,d,rfl):=List.mem_iff_getElem.mp f;let c:IT.below xs j+k<xs.size:=by simp at d;lia
  let z:=g _ c ∅;let e:(xs.toList.drop<|IT.below xs j)[k]=xs[IT.below xs j+k]:=by simp
  rw[e];by_cases q:j=xs[IT.below xs j+k]
  .exfalso;by_cases l:k=0
   .subst l;calc m ?_;rw[yc ∅];simpa using q.symm
   .let r:=g _ (show IT.below xs j<xs.size by lia) (tj _);let p:=h.lt (show IT.below xs j<IT.below xs j+k by lia) c;lia
  .lia
 .let i:a<j:=by
   let(k,d,rfl):=List.mem_iff_getElem.mp n;let c:k<IT.below xs j/\k<xs.size:=by simp at d;lia
   let:=o k c.2 c.1;simpa using this
  rcases dt.mp f with rfl|f
  .exact i
  .let(k,d,rfl):=List.mem_iff_getElem.mp f;let c:IT.below xs j+k<xs.size:=by simp at d;lia
   let z:=g _ c ∅;let e:(xs.toList.drop<|IT.below xs j)[k]=xs[IT.below xs j+k]:=by simp
   rw[e];lia
def qx(t:IT)(j:Nat):Prop:=t.place[IT.below t.place j]?≠Kg j
theorem mD{t:IT}{j:Nat}(h:t.slot j=.empty\/t.slot j=.dummy):qx t j:=by
 intro e;let:t.slot j=.live (IT.below t.place j):=by
  unfold IT.slot;simp[e]
 rw[this]at h;rcases h with h|h <;> cases h
theorem sL(t:IT)(f:Nat->Int)(h:Int):∀(a:Nat)(p:IT.Probe),(∀d,p.dummy=Kg d->qx t d)->∀j c,IT.probe.go t f h a p=Kg (.empty j c)->qx t j/\∀d,c=Kg d->qx t d:=by
 intro a;induction a with
 |zero=>intro p _ j c e;unfold IT.probe.go at e;cases e
 |succ a i =>
  intro p k j c e;unfold IT.probe.go at e;let g:∀q:IT.Probe,(t.advance q).dummy=q.dummy:=λq=>by
   unfold IT.advance;split <;> rfl
  split at e
  .rename_i he
   injection e with e;injection e with m l;subst m l;exact⟨mD<|.inl he,k⟩
  .rename_i he
   calc i _ (λd b=>?_) j c e;rw[g]at b;injection b with b;subst b;exact mD<|.inr he
  .split at e
   .injection e with e;cases e
   .refine i _ (λd b=>k d ?_) j c e;rw[g]at b;calc b
theorem nA{t:IT}{h:Int}{j:Nat}{b:Bool}(e:t.freeSlot h=Kg (j,b)):qx t j:=by
 unfold IT.freeSlot at e;split at e
 .rename_i j' dm he
  let(g,f):=sL t _ h _ _ (λd a=>by simp[IT.probeStart]at a) _ _ he;injection e with e;injection e with c i;subst c;cases dm with
  |none=>exact g
  |some d=>exact f d U
 .cases e
theorem vc(n:Nat):Asc (Array.range n):=by
 unfold Asc;rw[Array.toList_range];calc List.pairwise_lt_range
def fL(t:IT)(n:Nat):Asc (t.standIn n).place:=vc n
theorem sM{t:IT}(c:Asc t.place)(a:Array (Int×zz))(h:Int)(x:zz):Asc (IU t a h x).2.1.place/\(IU t a h x).2.1.led=t.led:=by
 unfold IU;split
 .rename_i slot wd e
  let b:Asc (t.put slot).1.place:=sJ c<|nA e;dsimp only;unfold IT.orStandIn;split
  .exact⟨b,U⟩
  .exact⟨fL _ _,U⟩
 .exact⟨fL _ _,U⟩
theorem qy(f:Nat->Option Nat):∀l:La Nat,((l.filterMap λj=>(f j).map (j,·)).map (·.1)).Sublist l
 | []=>by simp
 |j :: l=>by
  let a:=qy f l;rw[jP];cases e:f j with
  |none=>exact a.trans (List.sublist_cons_self _ _)
  |some v=>calc a.cons_cons j
theorem sN{t t':IT}{b:Array Int}{n:Nat}{o:Array Nat}(e:t.relaid b n=Kg (t',o)):Asc t'.place/\t'.led=t.led:=by
 unfold IT.relaid IT.laid at e;cases hc:IT.layClean (IT.sizeAbove n-1) b with
 |none=>rw[hc]at e;cases e
 |some a =>
  rw[hc]at e;injection e with e;injection e with c d;subst c;calc⟨List.pairwise_lt_range.sublist<|qy _ _,U⟩
theorem pj{t:IT}(b:Asc t.place)(a:Array (Int×zz))(n:Nat):Asc (IV t a n).2.1.place/\(IV t a n).2.1.led=t.led:=by
 unfold IV;split
 .rename_i t' o e
  dsimp only;split
  .exact sN e
  .exact⟨fL _ _,U⟩
 .exact⟨fL _ _,U⟩
theorem fS{b:Type}:∀{l:La b}{i:Nat}{x:b},l[i]?=Kg x->(x :: l.eraseIdx i).Perm l
 | [],i,x,h=>by simp at h
 |a :: l,0,x,h=>by simp at h;subst h;exact .refl _
 |a :: l,i+1,x,h=>by
  let c:=fS (l:=l) (i:=i) (x:=x)<|~~~h;rw[List.eraseIdx_cons_succ];calc(List.Perm.swap _ _ _).trans (c.cons a)
theorem yx{c:Type}(next:Nat->Nat):∀(a k:Nat)(left:La c)(out:Array c),a=left.length->∃l:La c,l.Perm left/\(IW.go next a k left out).toList=out.toList++l:=by
 intro a;induction a with
 |zero =>
  intro k left out e;exact⟨left,.refl _,by unfold IW.go;rw[lK.mp e.symm];simp⟩
 |succ a f =>
  intro k left out e;let b:next k%left.length<left.length:=Nat.mod_lt _ ∅;let d:left[next k%left.length]?=Kg left[next k%left.length]:=GC b;unfold IW.go;rw[d];dsimp only;let(l,p,g):=f (k+1) (left.eraseIdx<|next k%left.length) (out.push left[next k%left.length]) (by rw[List.length_eraseIdx_of_lt b];lia);calc⟨left[next k%left.length] :: l,(p.cons _).trans<|fS d,by rw[g];simp⟩
theorem ve{a:Type}(next:Nat->Nat)(xs:Array a):(IW next xs).toList.Perm xs.toList:=by
 let(l,p,e):=yx next xs.size 0 xs.toList #[] (by simp);let:(IW next xs).toList=l:=by unfold IW;rw[e];simp
 rw[this];calc p
def eK(w:zJ):Bool:=w.params.followText "set-order"
def kW:zz->Int
 | .int k _=>k
 |_=>0
structure iy(es:Array (Int×zz))(ks:La Int):Prop where
 ent:∀e∈es.toList,e.1=hashInt (kW e.2)/\∃u,e.2=.int (kW e.2) u
 nd:(es.toList.map λe=>kW e.2).Nodup
 mem:∀k,k∈ks↔k∈es.toList.map λe=>kW e.2
def iy.perm{b a:Array (Int×zz)}{ks:La Int}(h:iy b ks)(p:a.toList.Perm b.toList):iy a ks :=
 ⟨λe c=>h.ent e<|p.mem_iff.mp c,(p.map _).nodup_iff.mpr h.nd,λk=>(h.mem k).trans (p.map _).mem_iff.symm⟩
theorem iy.push{d:Array (Int×zz)}{ks:La Int}{k:Int}{u:Tok}(h:iy d ks)(f:k ∉ ks):iy (d.push (hashInt k,.int k u)) (ks++[k]):=by
 refine⟨λe c=>?_,?_,λq=>?_⟩
 .rw[yf]at c;rcases gs.mp c with c|c
  .exact h.ent e c
  .rw[gu]at c;subst c;exact⟨U,u,U⟩
 .rw[yf,dz,oD];refine⟨h.nd,by simp,λa i b g=>?_⟩;let j:b=k:=by simpa[kW]using g
  subst j;exact λe=>f<|(h.mem b).mpr<|e ▸ i
 .rw[yf,dz,gs,gs,h.mem q];simp[kW]
theorem iy.again{a:Array (Int×zz)}{ks:La Int}{k:Int}(h:iy a ks)(b:k∈ks):iy a (ks++[k]) :=
 ⟨h.ent,h.nd,λq=>by
  rw[←h.mem q,gs,gu];exact⟨λz=>z.elim id λz=>z ▸ b,.inl⟩⟩
theorem iy.elems{b:Array (Int×zz)}{ks:La Int}(h:iy b ks):ElemsOf (B4 prog w) b.toList:=λe c=>by
 let(d,u,a):=h.ent e c;refine⟨⟨kW e.2,?_,d⟩,?_⟩
 .rw[a];exact IX _ _ _ _
 .rw[a];rfl
theorem iy.found{b:Array (Int×zz)}{ks:La Int}(h:iy b ks){k:Int}{e:Int×zz}(a:e∈b.toList)(c:(B4 prog w).is k e.2=Ki):k∈ks:=by
 let(_,u,d):=h.ent e a;calc(h.mem k).mpr (eH.mpr ⟨e,a,?_⟩);calc(B4 prog w).inj e.2 _ _ (by rw[d];exact IX _ _ _ _) c
def eE(h:Az)(a:Ak)(led:Bool)(ks:La Int)(n:Nat):Prop :=
 ∃o b c t,h.get? a=Kg o/\o.ExactSet/\o.data=.set b c t/\iy b ks/\b.size<II/\t.fits b.size=Ki/\Asc t.place/\t.led=led/\b.size=n
theorem eE.stay{h h':Az}{a:Ak}{led:Bool}{ks:La Int}{n:Nat}(x:eE h a led ks n)(k:∀o,h.get? a=Kg o->h'.get? a=Kg o):eE h' a led ks n:=by
 let(o,c,d,t,b,r):=x;calc⟨o,c,d,t,k o b,r⟩
theorem eE.store{h:Az}{a:Ak}{o:Obj}{l:Array (Int×zz)}{ep:Nat}{t:IT}(f:h.get? a=Kg o)(c:o.ExactSet)(e:o.data=.set l ep t)
  {b:Array (Int×zz)}{t':IT}{ks:La Int}(i:iy b ks)(j:b.size<II)(g:t'.fits b.size=Ki)(k:Asc t'.place) :
  (h.update a<|Obj.putSet b t').get? a=Kg { o with data:=.set b (ep+1) t' }/\eE (h.update a<|Obj.putSet b t') a t'.led ks b.size:=by
 let d:(h.update a<|Obj.putSet b t').get? a=Kg { o with data:=.set b (ep+1) t' }:=by
  let:=Az.get?_update_self (Obj.putSet b t') f (by rw[putSet_of b t' e];rfl);rw[putSet_of b t' e]at this;exact this
 calc⟨d,_,b,ep+1,t',d,c,U,i,j,g,k,U,U⟩
theorem qz{g:Bool->Sem Unit}(I:∀(b:Bool)(e:Cg)(F:Unit->Cg->Prop),F () e->DO (model prog w) A (g b) F E e)
  {a:Ak}{o:Obj}{J:Array (Int×zz)}{ep:Nat}{t:IT}(C:s.heap.get? a=Kg o)(p:o.ExactSet)(D:o.data=.set J ep t)
  {c:Array (Int×zz)}{d:IT}{ks:La Int}{led:Bool}(q:iy c ks)
  (j:c.size<II)(B:d.fits c.size=Ki)(u:Asc d.place)(n:d.led=led){H:Bool}{R:Option Bool->Cg->Prop}
  (h:∀h',Az.SameBut a s.heap h'->eE h' a led ks c.size->R (Kg Ki) { s with heap:=h' }) :
  DO (model prog w) A (do
    storeSet a c d
    if (!H && d.tooFull)=Ki then do
      g (IV d c<|IT.grown c.size).2.2
      storeSet a (IV d c<|IT.grown c.size).1 (IV d c<|IT.grown c.size).2.1
      pure (Kg Ki)
     else pure (Kg Ki)) R E s:=by
 calc zo<|IY C D ?_<|IZ j;let(m,x):=eE.store C p D q j B u;rw[n]at x;let G:=Az.SameBut.update s.heap a<|Obj.putSet c d;split
 .let z:=relayAll_perm d c<|IT.grown c.size;let i:=relayAll_fits d c<|IT.grown c.size;let(k,f):=pj u c<|IT.grown c.size;generalize K:IV d c (IT.grown c.size)=Rl at z i k f⊢;let(y,L,M):=Rl;dsimp only at z i k f⊢;let l:y.size=c.size:=by rw[←x4,z.length_eq,x4]
  let r:y.size<II:=by rw[l];exact j
  calc zo<|I _ _ _ ?_;calc zo<|IY m U ?_<|IZ r;let(_,v):=eE.store m p U (q.perm z) r i k;rw[l,f,n]at v;exact zp<|h _ (G.trans<|Az.SameBut.update _ a _) v
 .exact zp<|h _ G x
theorem addW{a:Ak}{led:Bool}{ks:La Int}{n:Nat}{k:Int}{u:Tok}{Q:Bool->Cg->Prop}(hS:eE s.heap a led ks n)(R:n+1<II)
  (h:∀h' T b,Az.SameBut a s.heap h'->T<=n+1->eE h' a led (ks++[k]) T->Q b { s with heap:=h' }) :
  DO (model prog w) A (setAddHashed a (.int k u)<|(B4 prog w).hash k) Q E s:=by
 let(o,p,ep,t,B,r,C,x,W,N,X,I,K):=hS;let Z:(B4 prog w).is k (.int k u)=true:=IX _ _ _ _;let F:(zz.int k u).scannable=true:=rfl;let G:=x.elems (prog:=prog) (w:=w);let a0:p.size+1<II:=by rw[K];exact R
 unfold setAddHashed setAddHashedIn;calc zq<|zo<|I0 B C N ?_;dsimp only;rw[byScan_of F W G];simp only[↓reduceIte];unfold setAddByScan;calc zo ?_;calc zo<|Iz ?_;calc zo<|wpAny_setScan_of Z B C N G ?_;cases hr:List.findIdx? (λe=>(B4 prog w).is k e.2) p.toList with
 |some j =>
  dsimp only;let(hj,O,_):=List.findIdx?_eq_some_iff_getElem.mp hr;let M:k∈ks:=x.found (ri hj) O;calc zp<|zp ?_;let e:s={ s with heap:=s.heap }:=by cases s;rfl
  rw[e];exact h s.heap n Kj (Az.SameBut.refl a s.heap) (uM _) ⟨o,p,ep,t,B,r,C,x.again M,W,N,X,I,K⟩
 |none =>
  dsimp only;let M:k ∉ ks:=λz=>by
   let(e,V,q):=eH.mp<|(x.mem k).mp z;let:=List.findIdx?_eq_none_iff.mp hr e V;let(_,v,h2):=x.ent e V;rw[h2]at this;rw[←q]at this;rw[IX]at this;exact Bool.noConfusion this
  let P:∀(b:Bool){c:Cg}{D:Unit->Cg->Prop},D () c->DO (model prog w) A (match b with|true=>rule "set.scan.the-table-gave-way" | false=>pure ()) D E c :=
   λb c D m=>by cases b <;> first|exact zp m|exact Iz m
  let J:=layNew_perm t p ((B4 prog w).hash k)<|.int k u;let y:=layNew_fits t p ((B4 prog w).hash k)<|.int k u;let(i,f):=sM X p ((B4 prog w).hash k)<|.int k u;generalize hL:IU t p ((B4 prog w).hash k) (.int k u)=L at J y i f⊢;let(l,t1,qA,Gm):=L;dsimp only at J y i f⊢;let H:iy l (ks++[k]):=(x.push (u:=u) M).perm J;let DN:l.size=n+1:=by rw[←x4,J.length_eq,x4,Array.size_push,K]
  let Y:l.size<II:=by rw[DN];exact R
  calc zo<|P _ ?_;let S:∀h',Az.SameBut a s.heap h'->eE h' a led (ks++[k]) l.size->Q Ki { s with heap:=h' }:=λh' d g=>h h' _ Ki d ∅ g
  split
  .refine zo ?_;rw[hashByValue_scannable 8 F];calc zp ?_;refine qz ?_ B r C H Y ?_ ?_ (led:=led) ?_ ?_
   .intro b c D m;cases b <;> first|exact zp m|exact Iz m
   .split
    .exact y
    .exact IT.fits_plain_off y
   .split
    .exact i
    .exact i
   .split
    .exact f.trans I
    .exact f.trans I
   .intro h' d g;dsimp only;exact zp<|S h' d g
  .refine zo<|zp ?_;simp only[↓reduceIte];refine qz ?_ B r C H Y y i (f.trans I) ?_
   .intro b c D m;cases b <;> first|exact zp m|exact Iz m
   .intro h' d g;dsimp only;calc zp<|S h' d g
theorem sO(a:zz){Q₁:zz->Cg->Prop}
  (h:Q₁ (.ref s.heap.objs.size) { s with heap:=s.heap.push { cls:=.type "set",dict:=Kh,data:=.set #[] 0 (.fresh 0 0<|!eK w) } }) :
  Hn (model prog w) A (.call (.builtin "set.__new__") ⟨[.type "set",a],[]⟩) (wants Q₁ E) s:=by
 calc IQ ?_;show DO _ A.in1 (do Io "set.__new__" ⟨[.type "set",a],[]⟩;again (.builtin "set.__new__" ⟨[.type "set",a],[]⟩)) _ _ s;calc zo<|Iq (F.newCall_set_1 a)<|zp ⟨IL F.plain_set_new _,Im F.entry_set_new ?_⟩;rw[Cd.under_plainId F.plain_set_new _];unfold G0.«set.__new__» G0.Frozenset.newClass;let c:=sub_set_self;let(f,g,d,b,e):=s;dsimp only
 wp_walk
 calc I1<|zp ?_;dsimp only;simp only[newObj];calc zo<|wpAny_alloc<|zp ?_;calc zp h
theorem AL{R:Hm->Cg->Prop}{I:Ak}{M h:La Ak}{G:Array CC->Array CC->Prop}{n:Nat}{P:Nat->zz->Prop}{St:Nat->Cg->Prop}(W:IH prog w A.in1 I M h G n P St){a:Ak}(K:a ∉ M){ks:La Int}{led:Bool}
  (X:∀i v,P i v->∃k u,ks[i]?=Kg k/\v=.int k u)(g:n+1<II):∀(d i:Nat)(s:Cg)(m:Nat),n=i+d->m<=i->St i s->eE s.heap a led (ks.take i) m ->
   (∀s' E,IJ (a :: h) G s s'->eE s'.heap a led (ks.take n) E->E<=n->R (.ok<|.ret .none) s')->Hn (model prog w) A (.builtin "set.update.loop" ⟨[.ref a,.ref I],[]⟩) R s:=by
 let H:a ∉ h:=λz=>K<|W.sub a z
 intro d;induction d with
 |zero =>
  intro i s m e J j x fin;rw[show n=i by lia]at W fin;calc Im (R:=R) (A:=A) F.entry_set_update_loop ?_;rw[Cd.under_plainId (A:=A) F.plain_set_update_loop _];show DO (model prog w) A.in1 (GR (.ref I) >>= _) _ _ s;exact zo<|W.done s _ _ j λs' f=>zp<|fin s' m (f.mono λb g=>dV a g) (x.stay λo q=>f.heap a o H q) J
 |succ d V =>
  intro i s m e J j x fin;calc Im (R:=R) (A:=A) F.entry_set_update_loop ?_;rw[Cd.under_plainId (A:=A) F.plain_set_update_loop _];show DO (model prog w) A.in1 (GR (.ref I) >>= _) _ _ s;calc zo<|W.item i s _ _ ∅ j λv c p l f=>?_;let(k,u,Z,rfl):=X i v p;let O:=x.stay λo q=>f.heap a o H q
  show DO (model prog w) A.in1 (holding [.int k u] (IK a<|.int k u) >>= _) _ _ c;refine zo<|zq (show DO (model prog w) A.in1 (IK a<|.int k u) _ _ c from ?_);unfold IK;calc zq<|zo<|(B4 prog w).pyHash (k:=k) (IX _ _ _ _) ?_;refine addW (s:={ c with toks:=c.toks+1 }) O ∅ λL S _ D a0 C=>?_
  let Y:ks.take (i+1)=ks.take i++[k]:=by rw[lA,Z];rfl
  rw[←Y]at C;calc zp ⟨IL F.plain_set_update_loop _,V (i+1) { c with heap:=L,toks:=c.toks+1 } S ∅ ∅ (W.frame (i+1) c L (c.toks+1) l (uM _) λb B o q=>(D.2 b λz=>K<|z ▸ B).trans q) C λQ T r N t=>?_⟩;calc fin Q T (IJ.trans W.gtrans ((f.mono λb g=>dV a g).then_heap (uM _) λb o y q=>?_) r) N t;calc(D.2 b λz=>y<|z ▸ dO).trans q
theorem AM{l:Ak}{items:Array zz}{ks:La Int}(L:A.handled=Kh)(J:s.heap.IsList l items)(K:∀(i:Nat)(v:zz),items[i]?=Kg v->∃k u,ks[i]?=Kg k/\v=.int k u)(I:ks.length=items.size)(M:items.size+1<II) :
  Hn (model prog w) A (.call (.builtin "set.__init__") ⟨[.ref s.heap.objs.size,.ref l],[]⟩) (wants (λr t=>r=.none/\∃h' n m,t={ s with heap:=h',toks:=n }/\eE h' s.heap.objs.size (!eK w) ks m/\m<=ks.length/\∀b o,b<s.heap.objs.size->s.heap.get? b=Kg o->h'.get? b=Kg o) E) { s with heap:=s.heap.push (dM<|!eK w) }:=by
 let j:(s.heap.push<|dM<|!eK w).get? s.heap.objs.size=Kg (dM<|!eK w):=Az.get?_push_size s.heap U;let ty:Cg.TypeIs { s with heap:=s.heap.push (dM<|!eK w) } (.ref s.heap.objs.size) "set" := ⟨dM<|!eK w,j,U⟩;calc Ik F.called_set.init.plain F.entry_set_init<|IM ty ?_;let((c1,S,Z,R),f,h,m,g):=J;dsimp only at h g;subst h g;let O:(s.heap.push<|dM<|!eK w).get? l=Kg { cls:=.type "list",dict:=S,data:=.seq items m,slots:=R }:=Az.get?_push_of_some _ f;let X:=F.sub_list_set;let W:=F.sub_list_frozenset;let V:(zz.type "list" == zz.type "dict")=false:=⋯
 let e:(s.heap.push<|dM<|!eK w).IsList l items:=⟨_,O,U,m,U⟩;let lt:l<s.heap.objs.size:=Az.lt_size f;let y:eE (s.heap.push<|dM<|!eK w) s.heap.objs.size (!eK w) [] 0:=⟨_,#[],0,_,j,⟨U,U,U⟩,U,⟨by simp,by simp,by simp⟩,by unfold II;decide,U,List.Pairwise.nil,U,U⟩;unfold G0.«set.__init__» G0.Frozenset.updateFrom noKeywords;generalize N:GU=it;generalize Y:eK w=bt at *
 wp_walk
 subst N;calc GZ e<|zo<|IP ?_;let D:l≠(s.heap.push<|dM<|!bt).objs.size:=by rw[Az.size_push];exact tN<|vb lt
 let G:s.heap.objs.size ∉ [(s.heap.push<|dM<|!bt).objs.size,l]:=by
  rw[Az.size_push];intro z;rcases dt.mp z with z|z
  .exact Kp z<|tN<|vr _
  .exact Kp (~~~z)<|tR lt
 refine AL ((GY.list (by simp[L]) _ l D items).toS) G (ks:=ks) (led:=!bt) K M items.size 0 _ 0 (Nat.zero_add _).symm (tj _) ⟨⟨_,Az.get?_push_size _ U,U,U⟩,e.push _⟩ (y.stay λo q=>Az.get?_push_of_some _ q) λB H c x T=>?_
 let(h',P,Q,p,C):=B;obtain rfl:P=s.gens:=c.gens;obtain rfl:Q=s.drawn:=c.drawn;obtain rfl:C=s.os:=c.os;refine zp (show DO (model prog w) _ (ret zz.none) _ _ _ from zp ⟨U,h',p,H,U,?_,∅,λb o a q=>?_⟩)
 .rw[←I,fD]at x;exact x
 .refine c.heap b o (λz=>?_)<|Az.get?_push_of_some _<|Az.get?_push_of_some _ q;rcases dt.mp z with z|z
  .exact Kp z<|tN a
  .let d:b=(s.heap.push<|dM<|!bt).objs.size:= ~~~z
   rw[Az.size_push]at d;exact Kp d (tN<|vb a)
set_option maxRecDepth 100000 in
theorem vf{l:Ak}{items:Array zz}{ks:La Int}{Q:zz->Cg->Prop}(B:A.handled=Kh)(y:s.heap.IsList l items)(z:∀(i:Nat)(v:zz),items[i]?=Kg v->∃k u,ks[i]?=Kg k/\v=.int k u)(q:ks.length=items.size)(C:items.size+1<II)
  (h:∀h' d m,eE h' s.heap.objs.size (!eK w) ks m->m<=ks.length->(∀b o,b<s.heap.objs.size->s.heap.get? b=Kg o->h'.get? b=Kg o)->Q (.ref s.heap.objs.size) { s with heap:=h',toks:=d }):DO (model prog w) A (call (.type "set") [.ref l]) Q E s:=by
 let(c,H,mro):=F.called_set.mro;let P:=F.called_set.made;let O:=F.called_set.sub;let N:=F.called_set.notType;let M:=F.called_set.canCreate;let L:=F.typeCall_set_1<|.ref l;refine Hy<|IQ (show DO (model prog w) _ (callAny (.type "set") _) _ _ _ from zp ⟨Hu.quiet_builtin _<|~~~0,Im F.entry_type_call ?_⟩);rw[Cd.under_plain (A:=A) (IS "set" [.ref l] []) U]
 repeat (any_goals (first|assumption|wp_step))
 refine Hz (sO (.ref l) (E:=E) (Q₁:=λj g=>j=.ref s.heap.objs.size/\g={ s with heap:=s.heap.push (dM<|!eK w) }) ⟨U,U⟩) λr g f=>?_
 cases r with
 |error e=>exact f
 |ok fl =>
  cases fl with
  |ret j =>
   let(rfl,rfl):=f;let D:(s.heap.push<|dM<|!eK w).get? s.heap.objs.size=Kg (dM<|!eK w):=Az.get?_push_size s.heap U;let ty:Cg.TypeIs { s with heap:=s.heap.push (dM<|!eK w) } (.ref s.heap.objs.size) "set" := ⟨dM<|!eK w,D,U⟩;let K:=F.called_set.init.lookup;let J:=F.called_set.init.bind<|.ref s.heap.objs.size
   repeat (any_goals (first|assumption|wp_step))
   refine Hz (AM (E:=E) (by simp[B]) y z q C) λn I a=>?_
   cases n with
   |error e=>exact a
   |ok G =>
    cases G with
    |ret r =>
     let(rfl,h',d,m,rfl,x,t,p):=a
     repeat (any_goals (first|assumption|wp_step))
     exact h h' d m x t p
    |_=>exact a.elim
  |_=>exact f.elim
set_option maxRecDepth 100000
theorem aZ:Slot "set_iterator" "__next__" "set_iterator.__next__" :=
 .of (owner := "set_iterator") (n := "__next__") (by rw[Ja,Jb];kernel_rfl) (~~~0) (~~~0) (~~~0)
  (by first|exact .inl (~~~0)|exact .inr (~~~0)) (by rw[Jc];kernel_rfl)
theorem hV:Slot "set_iterator" "__iter__" "set_iterator.__iter__" :=
 .of (owner := "set_iterator") (n := "__iter__") (by rw[Ja,Jb];kernel_rfl) (~~~0) (~~~0) (~~~0)
  (by first|exact .inl (~~~0)|exact .inr (~~~0)) (by rw[Jc];kernel_rfl)
theorem dk:Jd table "set_iterator.__next__" = Kg G0.«set_iterator.__next__»:=Je (by kernel_rfl)
theorem kX:Jd table "set_iterator.__iter__" = Kg G0.«dict_keyiterator.__iter__» :=
 Jf (id' := "dict_keyiterator.__iter__") (by kernel_rfl) U (~~~0) (by kernel_rfl)
theorem mE:Jd table "set.__iter__" = Kg G0.«frozenset.__iter__» :=
 Jf (id' := "frozenset.__iter__") (by kernel_rfl) U (~~~0) (by kernel_rfl)
theorem dI(a:zz):Ip "set_iterator.__next__" ⟨[a],[]⟩:=by unfold Ip;kernel_rfl
theorem lO(a:zz):Ip "set_iterator.__iter__" ⟨[a],[]⟩:=by unfold Ip;kernel_rfl
abbrev fi(first:zz)(i:Int)(s:zz)(n ep:Nat):Obj:={ cls:=.type "set_iterator",data:=.fields #[first,.int i 0,s,.int n 0,.int ep 0] }
def pA{a:Source}{n:Nat}{Q:Nat->Cg->Prop}(b:n≠0)(h:Q (w.draws a (s.drawn.get a)%n) { s with drawn:=s.drawn.bump a }) :
  DO (model prog w) A (choose a n) Q E s:=λ_ _ _=>⟨b,h⟩
theorem mF{b:Type}:∀(n:Nat)(xs:La b)(s:Cg){Q:La b->Cg->Prop},n=xs.length->(∀ys d,ys.Perm xs->Q ys { s with drawn:=d })->DO (model prog w) A (Jg n xs) Q E s:=by
 intro n;induction n with
 |zero =>
  intro xs s Q e h;let:xs=[]:=lK.mp e.symm;subst this;unfold Jg;exact zp<|h [] s.drawn (.refl _)
 |succ n f =>
  intro xs s Q e h;cases xs with
  |nil=>simp at e
  |cons x r =>
   unfold Jg;refine zo (pA (by simp) ?_);generalize hi:w.draws Source.order (s.drawn.get Source.order)%(x :: r).length=i;let a:i<(x :: r).length:=by rw[←hi];exact Nat.mod_lt _ (by simp)
   let c:(x :: r)[i]?=Kg (x :: r)[i]:=GC a;rw[c]
   try dsimp only
   refine zo (f _ _ (by rw[List.length_eraseIdx_of_lt a];lia) λys d p=>zp ?_);calc h _ d<|(p.cons _).trans<|fS c
theorem vg{I a:Ak}{b i:Nat}{o:Obj}{c:Array (Int×zz)}{ep:Nat}{t:IT}{Q:Option zz->Cg->Prop}
  (d:s.heap.get? I=Kg (fi (.int b 0) i (.ref a) c.size ep))(j:s.heap.get? a=Kg o)(l:o.data=.set c ep t)(k:t.fits c.size=Ki)
  {x:zz}{nx:Nat}(p:∀(h:Option (zz×Nat)->Cg->Prop) E',h (Kg (x,nx)) s->DO (model prog w) A.in1 (Jh a b i ep) h E' s)
  (n:∀h',h'.get? I=Kg (fi (.int nx 0) ((i+1:Nat):Int) (.ref a) c.size ep)->Az.SameBut I s.heap h'->Q (Kg x) { s with heap:=h' }) :
  DO (model prog w) A (GR<|.ref I) Q E s:=by
 let g:s.TypeIs (.ref I) "set_iterator" := ⟨_,d,U⟩;unfold GR;calc zo<|Iu<|Ji (name:=s!"__next__") g aZ<|Jj aZ g dk ?_<|dI _;unfold G0.«set_iterator.__next__»;calc zo (m:=Iy "__next__" 0 _)<|zp ?_;refine zo<|Jk d U ?_
 try dsimp only
 calc zo<|Jl j l k ?_;rw[Kn (by simp)]
 try dsimp only
 simp only[w4];refine zo<|p _ _ ?_
 try dsimp only
 refine zo (Jm d (by simp) λr v f=>?_);refine zo (Jm (s:={ s with heap:=r }) v (by simp) λq u e=>?_);calc zp ⟨x,U,zp<|n q ?_<|f.trans e⟩;rw[u];simp[fi,GV]
theorem vh{I a:Ak}{c i:Nat}{o:Obj}{e:Array (Int×zz)}{ep:Nat}{t:IT}{Q:Option zz->Cg->Prop}(j:A.handled=Kh)
  (d:s.heap.get? I=Kg (fi (.int c 0) i (.ref a) e.size ep))(h:s.heap.get? a=Kg o)(l:o.data=.set e ep t)(k:t.fits e.size=Ki)
  (p:∀(g:Option (zz×Nat)->Cg->Prop) E',g Kh s->DO (model prog w) A.in1 (Jh a c i ep) g E' s)
  (n:∀h',Az.ExtBut I s.heap h'->Q Kh { s with heap:=h' }) :
  DO (model prog w) A (GR<|.ref I) Q E s:=by
 let f:s.TypeIs (.ref I) "set_iterator" := ⟨_,d,U⟩;unfold GR;calc zo<|Iu<|Ji (name:=s!"__next__") f aZ<|Jj aZ f dk ?_<|dI _;unfold G0.«set_iterator.__next__»;calc zo (m:=Iy "__next__" 0 _)<|zp ?_;refine zo<|Jk d U ?_
 try dsimp only
 calc zo<|Jl h l k ?_;rw[Kn (by simp)]
 try dsimp only
 simp only[w4];refine zo<|p _ _ ?_
 try dsimp only
 refine zo (Ig d U (by simp) ?_);show DO _ _ (Jn (.type "StopIteration") [] >>= _) _ _ _;calc zo ?_;simp only[Jn,newTuple];refine zo (HW ?_ (by size_fits));refine zo (m:=Jo _ _) (Iq (a:=zz.none) (by first|rfl|(simp only[Jo];rfl)) ?_);refine HW ?_ (by size_fits);simp only[raiseNew];calc zo<|Jp ?_;rw[show A.in1.handled=Kh from j];calc zo<|zp<|wpAny_throw ?_;calc zo<|Jq (T := "StopIteration") (b:=Ki) ⟨_,Az.get?_push_size _ U,U⟩ Jr ?_;calc zp<|n _<|((Az.SameBut.update ..).extBut.push _).push _
theorem sP{I a tp:Ak}{i:Nat}{o:Obj}{b:Array (Int×zz)}{ep:Nat}{t:IT}{places:La Nat}{m:Nat}{to:Obj}{Q:Option zz->Cg->Prop}
  (c:s.heap.get? I=Kg (fi (.ref tp) i (.ref a) b.size ep))(l:s.heap.get? tp=Kg to)(f:to.data=.seq (places.map λ(p:Nat)=>GV p).toArray m)(g:s.heap.get? a=Kg o)(j:o.data=.set b ep t)(h:t.fits b.size=Ki)
  {p:Nat}(n:places[i]?=Kg p){e:Int×zz}(q:b[p]?=Kg e)
  (r:∀h',h'.get? I=Kg (fi (.ref tp) ((i+1:Nat):Int) (.ref a) b.size ep)->Az.SameBut I s.heap h'->Q (Kg e.2) { s with heap:=h' }) :
  DO (model prog w) A (GR<|.ref I) Q E s:=by
 let k:s.TypeIs (.ref I) "set_iterator" := ⟨_,c,U⟩;unfold GR;calc zo<|Iu<|Ji (name:=s!"__next__") k aZ<|Jj aZ k dk ?_<|dI _;unfold G0.«set_iterator.__next__»;calc zo (m:=Iy "__next__" 0 _)<|zp ?_;refine zo<|Jk c U ?_
 try dsimp only
 calc zo<|Jl g j h ?_;rw[Kn (by simp)]
 try dsimp only
 refine zo<|Js l f ?_
 try dsimp only
 let x:(places.map λ(p:Nat)=>GV p).toArray[(i:Int).toNat]?=Kg (.int p 0):=by simp[n,GV]
 rw[x]
 try dsimp only
 unfold setNextDrawn;refine zo<|zo<|I0 g j h ?_
 try dsimp only
 rw[Kn (by simp)];calc zo<|zp ?_;simp only[w4,q];calc zp ?_;refine zo (Jm c (by simp) λu v d=>?_);calc zp ⟨e.2,U,zp<|r u ?_ d⟩;rw[v];simp[fi,GV]
theorem mG{I a tp:Ak}{i:Nat}{o:Obj}{d:Array (Int×zz)}{ep:Nat}{t:IT}{places:La Nat}{m:Nat}{to:Obj}{Q:Option zz->Cg->Prop}(l:A.handled=Kh)
  (c:s.heap.get? I=Kg (fi (.ref tp) i (.ref a) d.size ep))(j:s.heap.get? tp=Kg to)(f:to.data=.seq (places.map λ(p:Nat)=>GV p).toArray m)(k:s.heap.get? a=Kg o)(q:o.data=.set d ep t)(n:t.fits d.size=Ki)
  (g:places[i]?=Kh)(r:∀h',Az.ExtBut I s.heap h'->Q Kh { s with heap:=h' }) :
  DO (model prog w) A (GR<|.ref I) Q E s:=by
 let h:s.TypeIs (.ref I) "set_iterator" := ⟨_,c,U⟩;unfold GR;calc zo<|Iu<|Ji (name:=s!"__next__") h aZ<|Jj aZ h dk ?_<|dI _;unfold G0.«set_iterator.__next__»;calc zo (m:=Iy "__next__" 0 _)<|zp ?_;refine zo<|Jk c U ?_
 try dsimp only
 calc zo<|Jl k q n ?_;rw[Kn (by simp)]
 try dsimp only
 refine zo<|Js j f ?_
 try dsimp only
 let x:(places.map λ(p:Nat)=>GV p).toArray[(i:Int).toNat]?=none:=by simp at g⊢;exact g
 rw[x]
 try dsimp only
 refine zo (Jm c (by simp) λu v e=>?_);refine zo (Ig (s:={ s with heap:=u }) v U (by simp) ?_);show DO _ _ (Jn (.type "StopIteration") [] >>= _) _ _ _;calc zo ?_;simp only[Jn,newTuple];refine zo (HW ?_ (by size_fits));refine zo (m:=Jo _ _) (Iq (a:=zz.none) (by first|rfl|(simp only[Jo];rfl)) ?_);refine HW ?_ (by size_fits);simp only[raiseNew];calc zo<|Jp ?_;rw[show A.in1.handled=Kh from l];calc zo<|zp<|wpAny_throw ?_;calc zo<|Jq (T := "StopIteration") (b:=Ki) ⟨_,Az.get?_push_size _ U,U⟩ Jr ?_;calc zp<|r _<|((e.trans<|Az.SameBut.update ..).extBut.push _).push _
theorem mH{I:Ak}{first:zz}{i:Int}{v:zz}{n ep:Nat}{Q:zz->Cg->Prop}(b:s.heap.get? I=Kg (fi first i v n ep))(h:Q (.ref I) s):DO (model prog w) A (GU<|.ref I) Q E s:=by
 let a:s.TypeIs (.ref I) "set_iterator" := ⟨_,b,U⟩;calc Jt a hV<|Jj hV a kX ?_<|lO _;show DO _ _ (ret<|.ref I) _ _ s;calc zp ⟨_,U,"set_iterator",_,a,aZ.lookup,h⟩
theorem kx{a:Ak}{o:Obj}{d:Array (Int×zz)}{ep:Nat}{t:IT}{b i:Nat}(k:eK w=Ki)(f:s.heap.get? a=Kg o)(j:o.data=.set d ep t)(g:t.fits d.size=Ki)
  {Q:Option (zz×Nat)->Cg->Prop}(h:Q (((IW (w.params.setOrder a ep) d)[i]?).map λe=>(e.2,b)) s):DO (model prog w) A (Jh a b i ep) Q E s:=by
 let c:((Ju.mk prog w.params).params.followText "set-order")=true:=k;unfold Jh;refine zo<|I0 f j g ?_
 try dsimp only
 unfold Jv;calc zo<|zo<|I1<|zp ?_;show DO _ _ (if (Ju.mk prog w.params).params.followText "set-order" = Ki then _ else _) _ _ _;rw[Ko c,Kn (by simp)];unfold setWalk;refine zo<|zo<|I0 f j g ?_
 try dsimp only
 unfold Jv;calc zo<|zo<|I1<|zp ?_;show DO _ _ (if (Ju.mk prog w.params).params.followText "set-order" = Ki then _ else _) _ _ _;rw[Ko c];calc zo<|I1<|zp<|zp h
theorem jt{a:Ak}{o:Obj}{c:Array (Int×zz)}{ep:Nat}{t:IT}{b i:Nat}(m:eK w=Kj)(f:s.heap.get? a=Kg o)(l:o.data=.set c ep t)(k:t.fits c.size=Ki)(g:t.led=Ki)(e:(!t.plain && decide (c.size>1))=Kj)
  {Q:Option (zz×Nat)->Cg->Prop}(h:Q (match c[IT.below t.place b]?,t.place[IT.below t.place b]? with|some (_,x),Kg j=>Kg (x,j+1)|_,_=>Kh) s):DO (model prog w) A (Jh a b i ep) Q E s:=by
 let d:((Ju.mk prog w.params).params.followText "set-order")=false:=m;unfold Jh;refine zo<|I0 f l k ?_
 try dsimp only
 unfold Jv;calc zo<|zo<|I1<|zp ?_;show DO _ _ (if (Ju.mk prog w.params).params.followText "set-order" = Ki then _ else _) _ _ _;rw[Kn (by rw[d];exact Bool.false_ne_true)];show DO _ _ (if (!t.plain && decide (c.size>1))=Ki then _ else _) _ _ _;rw[Kn (by rw[e];exact Bool.false_ne_true)];show DO _ _ ((if (!t.led && !c.isEmpty)=Ki then unsupported "set:maker-not-led" else pure ()) >>= _) _ _ _;rw[g,Kn (by simp)];exact zo (zp<|zp h)
set_option maxRecDepth 100000
abbrev qC:Array CC->Array CC->Prop:=λg a=>a=g
def oy{I:Ak}{h':Az}(a:Az.SameBut I s.heap h'):IJ [I] qC s { s with heap:=h' } :=
 ⟨λb o c e=>(a.2 b λz=>c<|z ▸ dO).trans e,U,U,U,tj _⟩
def oz{I:Ak}{h':Az}(a:Az.ExtBut I s.heap h'):IJ [I] qC s { s with heap:=h' } :=
 ⟨λb o c e=>a b o (λz=>c<|z ▸ dO) e,U,U,U,tj _⟩
theorem mI(B:A.handled=Kh){I a:Ak}(l:a≠I){o:Obj}{e:Array (Int×zz)}{ep:Nat}{t:IT}(p:o.data=.set e ep t)(n:t.fits e.size=Ki){ord:La zz}(z:ord.length=e.size)(h:Nat->Nat)
  (C:∀(i:Nat)(x:zz)(s:Cg)(d:Option (zz×Nat)->Cg->Prop) f,s.heap.get? a=Kg o->ord[i]?=Kg x->d (Kg (x,h<|i+1)) s->DO (model prog w) A.in1 (Jh a (h i) i ep) d f s)
  (D:∀(s:Cg)(d:Option (zz×Nat)->Cg->Prop) f,s.heap.get? a=Kg o->d Kh s->DO (model prog w) A.in1 (Jh a (h e.size) e.size ep) d f s) :
  IH prog w A I [I,a] [I] qC e.size (λi v=>ord[i]?=Kg v) (λi s=>s.heap.get? I=Kg (fi (.int (h i) 0) i (.ref a) e.size ep)/\s.heap.get? a=Kg o) where
 sub:=λb r=>by simp at r;simp[r]
 grefl:=λ_=>U
 gtrans:=λ_ _ _ G F=>F.trans G
 frame:=λi s u J c _ k=>⟨k I (by simp) _ c.1,k a (by simp) _ c.2⟩
 item:=λi s Q E hi c j=>by
  let y:ord[i]?=Kg ord[i]:=GC ∅;refine vg c.1 c.2 p n (x:=ord[i]) (nx:=h<|i+1) (λd f q=>C i _ s d f c.2 y q) λu g m=>?_
  exact j _ _ y ⟨g,(m.2 a l).trans c.2⟩ (oy m)
 done:=λs Q E c j=>vh B c.1 c.2 p n (λd f q=>D s d f c.2 q) λu H=>j _ (oz H)
 self:=λi s Q E c j=>mH c.1 j
theorem qD(B:A.handled=Kh){I a tp:Ak}(r:a≠I)(q:tp≠I){o to:Obj}{d:Array (Int×zz)}{ep m:Nat}{t:IT}(x:o.data=.set d ep t)(u:t.fits d.size=Ki){places:La Nat}(h:to.data=.seq (places.map λ(p:Nat)=>GV p).toArray m)
  (G:places.length=d.size){ord:La zz}(F:∀(i:Nat),i<d.size->∃p e,places[i]?=Kg p/\d[p]?=Kg e/\ord[i]?=Kg e.2) :
  IH prog w A I [I,a,tp] [I] qC d.size (λi v=>ord[i]?=Kg v) (λi s=>s.heap.get? I=Kg (fi (.ref tp) i (.ref a) d.size ep)/\s.heap.get? a=Kg o/\s.heap.get? tp=Kg to) where
 sub:=λb y=>by simp at y;simp[y]
 grefl:=λ_=>U
 gtrans:=λ_ _ _ n l=>l.trans n
 frame:=λi s z H c _ k=>⟨k I (by simp) _ c.1,k a (by simp) _ c.2.1,k tp (by simp) _ c.2.2⟩
 item:=λi s Q E hi c f=>by
  let(p,e,n,l,C):=F i hi;refine sP c.1 c.2.2 h c.2.1 x u n l λz g j=>?_
  exact f _ _ C ⟨g,(j.2 a r).trans c.2.1,(j.2 tp q).trans c.2.2⟩ (oy j)
 done:=λs Q E c f=>mG B c.1 c.2.2 h c.2.1 x u (jU ∅) λz D=>f _ (oz D)
 self:=λi s Q E c f=>mH c.1 f
theorem wU{a:Ak}{o:Obj}{f:Array (Int×zz)}{ep:Nat}{t:IT}{Q:zz->Cg->Prop}(B:s.heap.get? a=Kg o)(X:o.ExactSet)(r:o.data=.set f ep t)(y:f.size<II)(n:t.fits f.size=Ki)(ha:Asc t.place)(hl:t.led = !eK w)
  (h:∀(I:Ak)(h':Az)(d:Drawn)(ord:La zz)(fp:La Ak)(St:Nat->Cg->Prop),(∀b u,s.heap.get? b=Kg u->h'.get? b=Kg u)->ord.Perm (f.toList.map (·.2)) ->
   (∀K:Cd,K.handled=Kh->IH prog w K I fp [I] qC f.size (λi v=>ord[i]?=Kg v) St)->St 0 { s with heap:=h',drawn:=d }->s.heap.objs.size<=I->(∀b∈fp,b=a\/s.heap.objs.size<=b)->Q (.ref I) { s with heap:=h',drawn:=d }) :
  DO (model prog w) A (GU<|.ref a) Q E s:=by
 let hT:s.TypeIs (.ref a) "set" := ⟨o,B,X.1⟩;let la:a<s.heap.objs.size:=Az.lt_size B;calc Jt hT F.slot_set_iter<|Jj F.slot_set_iter hT mE ?_<|F.args_set_iter_1 _;unfold G0.«frozenset.__iter__» G0.Frozenset.slot0;calc zo<|zo (m:=Iy "__iter__" 0 _)<|zp ?_;unfold G0.Frozenset.addrOf;calc zp ?_;unfold G0.Frozenset.sizeOf;calc zo<|zo<|Jl B r n<|zp ?_;unfold setDrawn;refine zo<|zo<|I0 B r n ?_
 try dsimp only
 unfold Jv;calc zo<|zo<|I1<|zp ?_;calc zp ?_;show DO _ _ (if (!eK w && (!t.plain && decide (f.size>1)))=Ki then _ else _) _ _ _;let G:f.toList.length=f.size:=x4;by_cases c:(!eK w && (!t.plain && decide (f.size>1)))=Ki
 .rw[Ko c];refine zo (mF f.size (List.range f.size) s (by simp) λj d p=>?_);refine zo<|Jw ?_ ?_
  rotate_left
  .rw[dn,p.length_eq,hZ];unfold II at y;unfold AA;lia
  generalize L:({ cls:=.type "tuple",data:=.seq (j.map λ(i:Nat)=>GV i).toArray }:Obj)=to;let gt:(s.heap.push to).get? s.heap.objs.size=Kg to:=by rw[←L];exact Az.get?_push_size _ U
  let ga:(s.heap.push to).get? a=Kg o:=Az.get?_push_of_some _ B;calc zo (m:=setEpoch a)<|Jx (s:={ s with heap:=s.heap.push to,drawn:=d }) ga r n ?_;refine zo (HW ?_ (by size_fits));let H:((s.heap.push to).push<|fi (.ref s.heap.objs.size) (0:Nat) (.ref a) f.size ep).get? (s.heap.push to).objs.size=Kg (fi (.ref s.heap.objs.size) (0:Nat) (.ref a) f.size ep):=Az.get?_push_size _ U;calc zp ⟨_,U,"set_iterator",_,⟨_,H,U⟩,aZ.lookup,?_⟩;let S:∀i,i<f.size->∃p e,j[i]?=Kg p/\f[p]?=Kg e/\(j.map λp=>(f[p]?.map (·.2)).getD .none)[i]?=Kg e.2:=λi hi=>by
   let N:i<j.length:=by rw[p.length_eq,hZ];exact hi
   let D:j[i]?=Kg j[i]:=GC N;let lt:j[i]<f.size:=hC.mp<|p.mem_iff.mp<|ri N;let T:f[j[i]]?=Kg f[j[i]]:=yc lt;exact⟨j[i],f[j[i]],D,T,by rw[dy,D];simp[T]⟩
  let ox:(j.map λp=>(f[p]?.map (·.2)).getD zz.none).Perm (f.toList.map (·.2)):=by
   calc(p.map _).trans (List.Perm.of_eq ?_);apply List.ext_getElem
   .simp
   .intro i h1 h2;simp at h1;simp[h1]
  refine h _ _ d _ [(s.heap.push to).objs.size,a,s.heap.objs.size] _ (λb u e=>Az.get?_push_of_some _<|Az.get?_push_of_some _ e) ox
   (λK J=>qD J (places:=j) (to:=to) (m:=0) (by rw[Az.size_push];exact tN (vb la)) (by rw[Az.size_push];exact tN (vr _)) r n (by rw[←L]) (by rw[p.length_eq,hZ]) S)
   ⟨H,Az.get?_push_of_some _ ga,Az.get?_push_of_some _ gt⟩ (by rw[Az.size_push];exact uM _) λb y=>?_
  rcases dt.mp y with rfl|y
  .exact .inr (by rw[Az.size_push];exact uM _)
  .rcases dt.mp y with rfl|y
   .exact .inl U
   .let:b=s.heap.objs.size:= ~~~y
    exact .inr (by rw[this];exact tj _)
 .rw[Kn c];calc zo<|zp ?_;calc zo (m:=setEpoch a)<|Jx B r n ?_;refine zo (HW ?_ (by size_fits));let H:(s.heap.push<|fi (.int (0:Nat) 0) (0:Nat) (.ref a) f.size ep).get? s.heap.objs.size=Kg (fi (.int (0:Nat) 0) (0:Nat) (.ref a) f.size ep):=Az.get?_push_size _ U;calc zp ⟨_,U,"set_iterator",_,⟨_,H,U⟩,aZ.lookup,?_⟩;let ne:a≠s.heap.objs.size:=tN la;let O:∀b∈[s.heap.objs.size,a],b=a\/s.heap.objs.size<=b:=λb y=>by
   rcases dt.mp y with rfl|y
   .exact .inr<|tj _
   .exact .inl<|~~~y
  cases hbt:eK w with
  |true =>
   let Z:=ve (w.params.setOrder a ep) f;let C:((IW (w.params.setOrder a ep) f).toList.map (·.2)).length=f.size:=by rw[dn,Z.length_eq,G]
   refine h _ _ s.drawn ((IW (w.params.setOrder a ep) f).toList.map (·.2)) [s.heap.objs.size,a] _ (λb u e=>Az.get?_push_of_some _ e) (Z.map _)
    (λK J=>mI J ne r n C (λ_=>0) (λi x R V W g l q=>kx hbt g r n ?_) λR V W g q=>kx hbt g r n ?_) ⟨H,Az.get?_push_of_some _ B⟩ (tj _) O
   .rw[dy,Array.getElem?_toList]at l;cases e:(IW (w.params.setOrder a ep) f)[i]? with
    |none=>rw[e]at l;cases l
    |some z=>rw[e]at l;injection l with l;subst l;exact q
   .let e:(IW (w.params.setOrder a ep) f)[f.size]?=none:=by
     rw[←Array.getElem?_toList];exact jU (by rw[dn]at C;lia)
    rw[e];exact q
  |false =>
   let M:t.led=true:=by rw[hl,hbt];rfl
   let S:(!t.plain && decide (f.size>1))=false:=by
    rw[hbt]at c;simpa using c
   let a0:t.place.size=f.size:=by
    let:=n;simp only[IT.fits,yq,beq_iff_eq]at this;exact this.1
   let P:∀i,i<=f.size->IT.below t.place (match i with|0=>0|k+1=>t.place.getD k 0+1)=i:=λi hi=>by
    cases i with
    |zero=>exact qw ha
    |succ k =>
     have hk:k<t.place.size:=∅
     have eg:t.place.getD k 0=t.place[k]:=by simp[Array.getD,hk]
     show IT.below t.place (t.place.getD k 0+1)=k+1;rw[eg];exact sI ha hk
   refine h _ _ s.drawn (f.toList.map (·.2)) [s.heap.objs.size,a] _ (λb u e=>Az.get?_push_of_some _ e) (.refl _)
    (λK J=>mI J ne r n (by rw[dn,G]) (λi=>match i with|0=>0|k+1=>t.place.getD k 0+1) (λi x R V W g l q=>jt hbt g r n M S ?_) λR V W g q=>jt hbt g r n M S ?_) ⟨H,Az.get?_push_of_some _ B⟩ (tj _) O
   .let hi:i<f.size:=by
     let(z,_):=GD.mp l;rw[dn,G]at z;exact z
    rw[P i (uK hi)];let D:f[i]?=Kg f[i]:=yc hi;let T:t.place[i]?=Kg t.place[i]:=yc ∅;let e3:x=f[i].2:=by
     rw[dy,Array.getElem?_toList,D]at l;injection l with l;exact l.symm
    rw[D,T];let e4:t.place.getD i 0=t.place[i]:=by simp[Array.getD,show i<t.place.size by lia]
    subst e3;let Y:V (Kg (f[i].2,t.place.getD i 0+1)) R:=q;rw[e4]at Y;exact Y
   .rw[P f.size (tj _)];let D:f[f.size]?=none:=Array.getElem?_eq_none<|tj _;rw[D];exact q
set_option maxRecDepth 100000
theorem vk{ord:La zz}{a:Array zz}{n:Nat}(h:ItemsOf (λi v=>ord[i]?=Kg v) a n)(b:ord.length=n):a.toList=ord:=by
 apply List.ext_getElem
 .rw[x4,h.1,b]
 .intro i d c;let e:ord[i]?=Kg a[i]:=h.2 i a[i] (yc<|~~~d);rw[GC c]at e;injection e with e;simpa using e.symm
theorem qG{a:Ak}{o:Obj}{p:Array (Int×zz)}{ep:Nat}{t:IT}{Q:La zz->Cg->Prop}(hh:A.handled=Kh)(R:s.heap.get? a=Kg o)(k:o.ExactSet)(hd:o.data=.set p ep t)(r:p.size<II)(hf:t.fits p.size=Ki)(ha:Asc t.place)(Z:t.led = !eK w)
  (h:∀(ord:La zz)(s':Cg),ord.Perm (p.toList.map (·.2))->(∀b u,s.heap.get? b=Kg u->s'.heap.get? b=Kg u)->s'.gens=s.gens->s'.os=s.os->s.heap.objs.size<s'.heap.objs.size->Q ord s') :
  DO (model prog w) A (collect<|.ref a) Q E s:=by
 let P:a<s.heap.objs.size:=Az.lt_size R;unfold collect;calc zo<|IP<|Im F.entry_proto_collect ?_;rw[Cd.under_plainId F.plain_proto_collect _];show DO _ A.in1 (HU [] >>= λl=>again<|.builtin "list.__iadd__" ⟨[l,.ref a],[]⟩) _ _ s;calc zo<|HW ?_;calc zp ⟨IL F.plain_list_iadd _,Im F.entry_list_iadd ?_⟩;rw[Cd.under_plainId F.plain_list_iadd _];generalize y:({ cls:=.type "list",data:=.seq ([]:La zz).toArray }:Obj)=lo;let H:(s.heap.push lo).get? a=Kg o:=Az.get?_push_of_some _ R;let gS:(s.heap.push lo).get? s.heap.objs.size=Kg lo:=by rw[←y];exact Az.get?_push_size _ U
 let L:Cg.TypeIs { s with heap:=s.heap.push lo } (.ref a) "set" := ⟨o,H,k.1⟩;show DO _ A.in1 (G0.List.listExtendWith (.ref s.heap.objs.size) (.ref a)<|.ref s.heap.objs.size) _ _ _;unfold G0.List.listExtendWith;calc zo<|Jy L ?_;let h1:G0.List.listSameRef (.ref s.heap.objs.size) (.ref a)=false:=by simp[G0.List.listSameRef];exact tR P
 let h2:(zz.type "set" == zz.type "list")=false:=⋯
 let h3:(zz.type "set" == zz.type "tuple")=false:=⋯
 simp only[h1,h2,h3,Bool.or_false,yz,if_false];calc zo<|wU (s:={ s with heap:=s.heap.push lo }) H k hd r hf ha Z λI i d ord fp St G O W X hI K=>?_;let g2:i.get? a=Kg o:=G a o H;let m:Cg.TypeIs { s with heap:=i,drawn:=d } (.ref a) "set" := ⟨o,g2,k.1⟩;calc zo<|zq ?_;unfold G0.List.listLengthHint;refine zo (wpAny_specialOf m F.slot_set_len.lookup ?_)
 (generalize j:("set.__len__" : String)=id0;(fail_if_success (clear j id0));wp_delta;rw[show splitId id0=Kg ("set","__len__")from by subst j;decide+kernel];subst j)
 calc zo<|Jq (b:=Ki) m sub_set_self ?_;calc zo<|Jy m ?_;calc zp ?_;show DO _ A.in1 (rule "list.extend.makes-room" >>= λ_=>G0.List.listTouch (.ref s.heap.objs.size) >>= λ_ =>
  again (.builtin "list.extend.loop" ⟨[.ref s.heap.objs.size,.ref I,.ref s.heap.objs.size],[]⟩)) _ _ _
 calc zo<|Iz ?_;let c:i.get? s.heap.objs.size=Kg lo:=G _ _ gS;rw[←y]at c;calc zo ?_;show DO _ A.in1 (Jz s.heap.objs.size (·.push .none) >>= λ_=>Jz s.heap.objs.size (·.pop)) _ _ _;calc zo<|JA c U ?_;let g:=Az.get?_update_self (Obj.mapSeq (·.push zz.none)) c U;calc JA g U ?_;let n:=Az.get?_update_self (Obj.mapSeq (·.pop)) g U
 let x:∀b u,b≠s.heap.objs.size->i.get? b=Kg u ->
   ((i.update s.heap.objs.size (Obj.mapSeq (·.push zz.none))).update s.heap.objs.size (Obj.mapSeq (·.pop))).get? b=Kg u :=
  λb u r e=>(Az.get?_update_other _ _<|Ne.symm r).trans<|(Az.get?_update_other _ _<|Ne.symm r).trans e
 let v:(s.heap.push lo).objs.size=s.heap.objs.size+1:=Az.size_push ..;let B:s.heap.objs.size ∉ fp:=λq=>by
  rcases K _ q with z|z
  .exact tR P z
  .let N:(s.heap.push lo).objs.size<=s.heap.objs.size:=z;rw[v]at N;exact Nat.not_succ_le_self _ N
 let S:=W A.in1 (by simp[hh]);let D:ord.length=p.size:=by rw[O.length_eq,dn,x4]
 let J:=S.frame 0 ({ s with heap:=i,drawn:=d }:Cg) ((i.update s.heap.objs.size (Obj.mapSeq (·.push zz.none))).update s.heap.objs.size (Obj.mapSeq (·.pop))) s.toks X (tj _) λb f Y e=>x b Y (λz=>B<|z ▸ f) e
 refine zp ⟨IL F.plain_extend_loop _,codeAny_extend_loopS S (by unfold II at r;unfold AA;lia) _ B _ p.size 0 _ _ _ U (tS _)
  J n (ItemsOf.nil _) λs' Gn c' q C V=>?_⟩
 show DO _ A (load s.heap.objs.size >>= _) _ _ s';calc zo<|wpAny_load C ?_;calc zp ?_;rw[vk V D];calc h ord s' O (λb u e=>?_) q.gens q.os<|Az.lt_size C;let f:b<s.heap.objs.size:=Az.lt_size e;calc q.heap b u (λz=>?_)<|x b u (tN f)<|G b u<|Az.get?_push_of_some _ e;rcases dt.mp z with z|z
 .exact tN f z
 .let T:b=I:= ~~~z
  let M:(s.heap.push lo).objs.size<=I:=hI;rw[v,←T]at M;calc va _<|tP f<|Nat.le_of_succ_le M
variable{Kl:La (Ak×Obj)}{σ:St}{H:Hp}{h':Az}
section
variable{Y:La Ak}
theorem Inv.excStepY(I:Inv X Kl σ H s)(h:Stp (frs X.stack) Y s.heap h')(j:∀b∈Y,fJ X Kl H b):Inv X Kl σ H { s with heap:=h' }:=by
 let E:∀b,b≠X.env.locals->b ∉ X.fs->b ∉ frs X.stack:=λb S R z=>(dt.mp<|I.stkSub b z).elim S R
 let y:∀b o,X.s₀.heap.get? b=Kg o->b ∉ Y:=λb o q z=>by rw[(j b z).ent]at q;cases q
 let C:∀b o,X.s₀.heap.get? b=Kg o->b≠X.env.locals:=λb o q=>tN<|tP (Az.lt_size q) I.ok.above
 let any:∀b o,b ∉ Y->s.heap.get? b=Kg o->∃w,h'.get? b=Kg { o with slots:=w }:=λb o N q=>by
  by_cases K:b∈frs X.stack
  .exact h.slot b o K q
  .exact⟨o.slots,h.keep b o K N q⟩
 let e:∀x c,X.env.cells.lookup x=Kg c->∀v,s.heap.IsCell c v->h'.IsCell c v:=λx c f v ⟨o,O,Q⟩=>by
  let(w,q):=any c o (λz=>(j c z).cel x c f U) O;exact⟨_,q,Q⟩
 refine⟨I.ok,I.os,I.bare,⟨λb o q n g a=>?_,λb o q n g a=>?_,I.base.free,λb o q a=>?_,I.base.tups,I.base.frzs,I.base.tbls⟩,?_,λx c f=>?_,I.free,I.freeC,λp J=>?_,I.hok.stp h I.stkFree<|λb g=>(j b g).unt,I.len⟩
 .exact h.keep b o (E b (C b o q) g) (y b o q)<|I.base.keep b o q n g a
 .let(w,B):=I.base.slot b o q n g a;let(t,A):=any b _ (y b o q) B;exact⟨t,A⟩
 .let(o1,B):=I.base.there b o q a;let(t,A):=any b _ (y b o q) B;exact⟨_,A⟩
 .let(m,(M,T,V,D,r),P):=I.loc;let(w,q):=any X.env.locals M (λz=>(j _ z).loc U) D;calc⟨m,⟨_,T,V,q,r⟩,λi x v e1 Z W=>?_⟩;let(u,L,l):=P i x v e1 Z W;calc⟨u,L,?_⟩;rcases l with l|⟨k,c,f,z⟩
  .exact .inl l
  .exact .inr ⟨k,c,f,e x c f _ z⟩
 .let(v,z):=I.cell x c f;exact⟨v,e x c f v z⟩
 .let(q,n,G,F,d):=I.pin p J;calc⟨h.keep p.1 p.2 (E p.1 G F) (λz=>(j _ z).pin p J U) q,n,G,F,d⟩
end
def AN(X:Cx)(L:Ak)(E:XK):zz->Cg->Prop:=λg c=>∃(e C:Ak)(d:zz×zz)(f:La Ak)(Kl:La (Ak×Obj))(σ:St)(a:Hp),g=.ref e/\Inv X Kl σ a c/\wJ c.heap L e (.ref C) d f/\(∀b∈e :: f,fJ X Kl a b)/\∃m,(m=Kh->d.2=.none)/\E (.ref C) m a
theorem iY{X:Cx}{L:Ak}{E:XK}(a:X.stack=X.env :: X.outer)(c:X.env.frame=Kg L)(y:X.ex=[]):GP (model X.prog X.w) X.A X.env (AN X L E):=by
 rintro V d ⟨e,C,F,W,Kl,σ,H,rfl,I,x,f,q⟩;let i:X.A.frames=Kg (X.env :: X.outer):=by rw[←a];exact I.ok.frames
 let j:d.heap.FunFrames X.base (X.env :: X.outer):=by rw[←a];exact I.stack
 refine note i j c x λg T m k D=>?_
 rw[←a]at m;let o:=I.excStepY m f;let v:fJ X Kl H T:=by
  rcases D with z|z
  .exact I.newAt y z
  .exact f T<|dV e z
 let n:∀b∈[e,T],fJ X Kl H b:=λb B=>by
  rcases dt.mp B with z|z
  .rw[z];exact f e dO
  .rw[show b=T by simpa using z];exact v
 show DO (model X.prog X.w) X.A (do
  if (←field (.ref e) 1) == .none then unsupported "frame.own-activation:exception-without-traceback"
  Ii (.ref e) X.env.frame) _ _ { d with heap:=g }
 let(Q,O,R,P,t,N,r,p,M,K,J,G):=id k;calc zo<|Ih (s:={ d with heap:=g }) t r p ?_;rw[Kn (show ¬ (zz.ref T == zz.none)=Ki by simp)];show DO (model X.prog X.w) X.A (Ii (.ref e) X.env.frame) _ _ _;rw[c];refine ub (s:={ d with heap:=g }) (l:=X.stack) o.stack k λS h u=>?_
 calc⟨e,C,F,[T],Kl,σ,H,U,o.excStepY h n,.held u,n,q⟩
variable{P:zM}{K:W.Frag}{mg:Str->Option zz}{base:Az}{N:La Str}{scope:Cr}{f:Ak}
section
variable{qual:Str}{cd:zz}{outer:La Env}{s0:Cg}{H0:Hp}{E:XK}
abbrev cxE(P:zM)(w:zJ)(K:W.Frag)(mg:Str->Option zz)(base:Az)(N:La Str)(qual:Str)(scope:Cr)(f:Ak)(cd:zz)(A:Cd)(outer:La Env)(s0:Cg)(H0:Hp)(E:XK):Cx :=
 (jD (CX1 P w) P w K mg base N qual scope f cd A outer s0 H0 E).wish (AN (jD (CX1 P w) P w K mg base N qual scope f cd A outer s0 H0 E) s0.heap.objs.size E)
theorem vl{n:zz}{s:Cg}(h:AN (jD (CX1 P w) P w K mg base N qual scope f cd A outer s0 H0 E) s0.heap.objs.size E n s):(jD (CX1 P w) P w K mg base N qual scope f cd A outer s0 H0 E).xe n s:=by
 let(e,C,B,F,Kl,σ,H,rfl,I,x,g,q):=h;let k:(jD (CX1 P w) P w K mg base N qual scope f cd A outer s0 H0 E).A.frames=Kg (envOfC qual scope s0.heap.objs.size f cd :: outer):=I.ok.frames;let v:(envOfC qual scope s0.heap.objs.size f cd).frame=Kg s0.heap.objs.size:=rfl;show DO (model P w) _ (leaving (envOfC qual scope s0.heap.objs.size f cd)<|.ref e) _ _ s;unfold leaving;calc zo<|note k I.stack v x λy T t r u=>?_;let c:=I.excStepY t g;let j:fJ (jD (CX1 P w) P w K mg base N qual scope f cd A outer s0 H0 E) Kl H T:=by
  rcases u with z|z
  .exact I.newAt U z
  .exact g T<|dV e z
 let i:=g e dO;let m:∀b∈[e,T],fJ (jD (CX1 P w) P w K mg base N qual scope f cd A outer s0 H0 E) Kl H b:=λb a=>by
  rcases dt.mp a with z|z
  .rw[z];exact i
  .rw[show b=T by simpa using z];exact j
 refine ub (s:={ s with heap:=y }) (l:=envOfC qual scope s0.heap.objs.size f cd :: outer) c.stack r λD d p=>?_
 refine⟨e,T,C,B,H,U,c.os,c.bare,c.base.stp d (λb o q a=>?_) (λb a=>?_)<|λb a=>(m b a).ent,c.hok.stp d c.stkFree<|λb a=>(m b a).unt,p,i.ent,j.ent,i.unt,j.unt,q⟩
 .rcases dt.mp (c.stkSub b a)with z|z
  .exact Kp (tP (Az.lt_size q) c.ok.above) (by rw[z];exact va _)
  .exact z
 .show b∈frs (envOfC qual scope s0.heap.objs.size f cd :: outer);unfold frs;rw[jP];calc dV _ a
def PSs.leaves{a:La F3}{t:TS}(h:PSs (cxE P w K mg base N qual scope f cd A outer s0 H0 E) a t):PSs (jD (CX1 P w) P w K mg base N qual scope f cd A outer s0 H0 E) a t:=λKl s σ H D I b =>
 F9 (h Kl s σ H D (I.wish _) b) (λ_ _ q=>q.unwish) λ_ _ z=>vl z
theorem Fun.okE{x:Str}{b:F3}{e:Hv}{ps:La Str}{k:Nat}{sp:Sp}(F:Fun K x qual b f e)(S:au N ps (aj b))(len:∀vs H Q E,sp vs H Q E->vs.length=ps.length)
  (i:∀(a:zz)(A:Cd)(outer:La Env)(s:Cg)(H:Hp)(vs:La V)(Q:VK)(E:XK),b8 k (A.deeper<|envOfC qual (aj b) s.heap.objs.size f a)->sp vs H Q E ->
   ∃t,PSs (cxE P w K mg base N qual (aj b) f a A outer s H E) (fH b) t/\t { nx:=λ_ H'=>Q .non H',rt:=Q } (start N vs) H):aN P w K mg base (CX1 P w) (k+1) f e ps sp:=by
 let(p,o,kV,m,n,u,a,r,l,rfl,g,d):=F.ex;refine zD g d S len λA outer s H vs Q E j c=>?_
 let(t,h,q):=i a A outer s H vs Q E j c;calc⟨t,h.leaves,q⟩
theorem iZ{x:Str}{C:Ak}{M d pos:Pos}{a:D0}{c:La D0}{t:TA}(X:ExcCls K C)(T:A.handled=Kh)(S:Gl (cxE P w K mg base N qual scope f cd A outer s0 H0 E) x)(Q:mg x=Kg (.ref C))
  (W:PA (cxE P w K mg base N qual scope f cd A outer s0 H0 E) (a :: c) t)(k:(x == ("__debug__" : Str))=false:=by decide)
  (he:E2 (a :: c) (envOfC qual scope s0.heap.objs.size f cd)=(Kj,eval a<|envOfC qual scope s0.heap.objs.size f cd) :: E2 c (envOfC qual scope s0.heap.objs.size f cd):=by rfl)
  (i:(E1 d<|E2 c<|envOfC qual scope s0.heap.objs.size f cd).any (·.1)=false:=by rfl) :
  PS (cxE P w K mg base N qual scope f cd A outer s0 H0 E) (.Raise (Kg<|.Call (.Name x M) (a :: c) [] d) Kh pos) (AH C E t):=by
 intro Kl s σ H D I h;let(a3,a2,n,B,Bn,a0,wL,a1,O,F1,F2,u):=X.ex;let(bm,N',nm,q,bs,hdct,sn,sub,ab,col,dd,k0,k1,k2,k3,k5,mN,L,G,F,p):=ExcCls.obj I.ok.mod.kin O;refine wpAny_Raise_call_subU (C:=C) (nm:=nm) (q:=q) (N:=N') (bs:=bs) (bm:=bm) (hdct:=hdct) (sn:=sn) (sub:=sub) (ab:=ab) (col:=col) (dd:=dd) (k0:=k0) (k1:=k1) (k2:=k2) (k3:=k3) (k5:=k5) F1 F2 u (OwnTail.hasType p u.hasBase) T (by
  show(E1 d<|E2 (a :: c)<|envOfC qual scope s0.heap.objs.size f cd).any (·.1)=Kj;rw[he];show(Kj || (E1 d<|E2 c<|envOfC qual scope s0.heap.objs.size f cd).any (·.1))=Kj;rw[i];rfl) (mN:=mN) F (eY I S Q ⟨U,?_⟩ k)
 show DO _ _ (evalArgs (.ref C) Ki (E1 d<|E2 (a :: c)<|envOfC qual scope s0.heap.objs.size f cd) []) _ _ s;rw[he];calc Calls.evalArgs_plain ?_;let z:DO (model P w) (cxE P w K mg base N qual scope f cd A outer s0 H0 E).A (spliced<|E1 d<|E2 (a :: c)<|envOfC qual scope s0.heap.objs.size f cd) _ _ s:=W d Kl s σ H _ I h;rw[he]at z;refine thn z λus v ⟨vs,H2,g,r,R,y⟩=>⟨U,by rw[←r.length];exact R,?_⟩
 refine⟨g.bk C _ L,?_,p.keeps g.bk,λh' e m=>?_⟩
 .let(o,l,ep,Z,Y):=G;exact⟨o,l,ep,g.bk _ _ Z,Y⟩
 .let J:=g.unwish;let(t',j,_,_):=m.there;calc⟨e,C,(.ref t',.none),[],Kl,σ,H2,U,J.kept (t':=v.toks) m.keeps,.fresh j U U U U U,λb V=>?_,Kh,λ_=>U,y⟩;rw[show b=e by simpa using V];calc J.newAt U m.new
theorem gh:Passes (CX1 P w) (cxE P w K mg base N qual scope f cd A outer s0 H0 E) E:=λKl σ H s t r I h=>by
 let(e,T,C,o,p,rfl,i,d,un,g,x,j,k,l,n,q):=h;let J:=(I.unwish).call' (ch:=[]) i un g d λb z=>Kp z (by simp)
 let a:=(I.unwish).newAt U j;let c:=(I.unwish).newAt U k;calc⟨e,C,o,[T],Kl,σ,p,U,J,.fly x,λb m=>?_,q⟩;rcases dt.mp m with z|z
 .rw[z];exact⟨a.ent,l,a.loc,a.cel,a.pin⟩
 .rw[show b=T by simpa using z];calc⟨c.ent,n,c.loc,c.cel,c.pin⟩
end
inductive wV(K:W.Frag)(x:V)(vs:La V)(H:Hp)(Q:VK):Prop
 |mk (p:Ak)(xs:La V)(y z:V)(j:Nat)(_:x=.ref p)(_:vs=[y])(_:SqL K H p xs)(_:bM y=Ki)(_:xs.all bM=Ki)(_:xs[j]?=Kg z)(_:eqV z y=Ki)(_:(∀(m:Nat)(u:V),m<j->xs[m]?=Kg u->eqV u y=Kj))(_:Q (.int j) H)
theorem wW:MtM X "list.index" (wV X.K):=by
 intro Kl s σ H x vs v us Q I D E h;let(p,b,y,z,j,rfl,rfl,P,S,fs,g,L,k,q):=h;obtain rfl:v=zz.ref p:=D;let(u,rfl,G):=E.one;let(a,r,J,i):=I.list P;let N:=r.length;let O:j<b.length:=(GD.mp g).1;let Z:b.length<2^62:=vU i ⋯;let((c1,Y,c3,W),o,B,n,A):=J.isList;dsimp only at B A;subst B A;let c:∀(m:Nat)(d:m<a.toArray.size)(w:V),b[m]?=Kg w->bM w=Ki->eqU y a.toArray[m]=eqV w y:=λm d w e f=>by
  let(t,C,T):=r.get e;let:a.toArray[m]=t:=by
   let R:a[m]?=Kg a.toArray[m]:=by
    let:m<a.length:= ~~~d
    simp
   rw[R]at C;exact Option.some.inj C
  rw[this];exact rZ T f
 let fl:∀(m:Nat)(w:V),b[m]?=Kg w->bM w=true:=λm w e=>iv.mp fs w<|GG e
 refine HL PySem.F.slot_list_index ⟨_,o,U⟩ PySem.F.entry_list_index (PySem.F.args_list_index_2 _ _) (SeqAt.list_indexAt p a.toArray n Y W u (eqU y) j (by simpa[←N]using O) ∅ ?_ λm d l=>?_) ⟨o,λt M=>gc G S r fs t<|~~~M,⟨.int j,H,I.tok _,⟨_,U⟩,q⟩⟩
 .rw[c j _ z g (fl j z g)];exact L
 .let e:b[m]?=Kg b[m]:=GC ∅;rw[c m d _ e (fl m _ e)];calc k m _ l e
theorem fT:cw X (.builtin "len") (λxs H Q=>∃(l:Ak)(zs:La Str),xs=[.ref l]/\H l=Kg (lN X.prog X.w l zs)/\zs.length<=1000/\Q (.int ((cntK zs zs.length:Nat):Int)) H):=by
 intro Kl s σ H xs i Q I r h;let(l,zs,rfl,e,j,q):=h;let(u,rfl,b):=r.one;obtain rfl:u=zz.ref l:=b;let((o,k,m,t,g,f,d,_,_,_,c,a),_,_):=I.hok l _ e;let le:=ku zs zs.length;refine call_len_set g f d c (by rw[a];lia) ⟨.int _,H,I.tok _,⟨_,U⟩,?_⟩;rw[a];calc q
def DP(sp:Sp)(E:XK)(t:TA):TE:=λσ H Q=>t σ H λa b=>sp a b Q E
variable{C:Ak}{fd:Hv}{ps:La Str}{sp:Sp}{x m:Str}{p np pos apos:Pos}{e o:D0}{es:La D0}{ta:TE}{t:TA}
section
variable{k:Nat}{E:XK}
theorem dY(M:ba X.prog X.w X.K X.mg X.base k x ps sp)(i:Passes (CX1 X.prog X.w) X E)(j:b8 k X.A)(m:Gl X x)(n:PA X (e :: es) t)(c:(x == ("__debug__" : Str))=false:=by decide)
  (he:E2 (e :: es) X.env=(Kj,eval e X.env) :: E2 es X.env:=by rfl)(a:(E1 pos<|E2 es X.env).any (·.1)=false:=by rfl):PE X (.Call (.Name x p) (e :: es) [] pos) (DP sp E t):=by
 let(f,fd,F,b,g,l):=M;intro Kl s σ H Q I h;calc zt<|eY I m l ?_ c;calc W.callWith_K (h₀:=X.base) I.ok.mod.kin g (thn (n pos Kl s σ H _ I h) λu v ⟨o,y,d,r,q⟩=>⟨d.kIn,wM F j b i d r q⟩) he a
end
section
variable{M:Dn}{env:Env}
end
section
variable{R:Hm->Cg->Prop}
end
variable{cl:La (Str×Ak)}{H2:Hp}
section
variable{fp:La Ak}{s2:Cg}{pl:La (Ak×Obj)}
end
section
variable{s':Cg}
end
section
variable{fp:La Ak}{s2:Cg}{pl:La (Ak×Obj)}{L:Ak}{E:XK}
end
variable{elt iter tg:D0}{ifs:La D0}{fr:La Nat}{gt:TG}{tt:TT}{te:TE}
section
variable{k:Nat}
end
section
variable{qual:Str}{cd:zz}{outer:La Env}{s0:Cg}{H0:Hp}{E:XK}
end
theorem jF:∀{b:La Int}{us:La zz},Vals (b.map V.int) us->∃xs:La (Int×Tok),us.toArray=JB xs.toArray/\b=xs.map (·.1)
 | [],_,.nil=>⟨[],by simp[JB],U⟩
 |n :: b,_,.cons ⟨t,e⟩ r=>by
  let(xs,d,c):=jF r;refine⟨(n,t) :: xs,?_,by rw[c];rfl⟩;subst e;let a:=Kt Array.toList d;simp[JB]at a⊢;calc a
theorem oA{xs:Array (Int×Tok)}{i:Nat}(h:i<xs.size):numAt xs i∈xs.toList.map (·.1):=by
 rw[JC];calc getD_mem (by rw[dn,x4];lia)
theorem nB(C:X.calm=Ki):cw X (.builtin "min") (λus H Q=>∃(a:Ak)(c:La Int),us=[.ref a]/\SqL X.K H a (c.map V.int)/\0<c.length/\∀m,m∈c->(∀b∈c,m<=b)->Q (.int m) H):=by
 intro Kl s σ H us G Q I r h;let(a,c,rfl,y,d,q):=h;let(u,rfl,n):=r.one;cases (show u=zz.ref a from n);let(F,p,w,J):=I.list y;let(xs,E,f):=jF p;let i:=w.isList;rw[E]at i;let g:0<xs.toArray.size:=by
  rw[f,dn]at d;simpa using d
 refine min_intList (I.ok.hd C) i g λv h' l x A=>?_
 let(t,rfl):=intItems_at x;let(L,D):=argBest_lt (numAt xs.toArray)<|xs.toArray.size-1;refine⟨.int _,H,I.kept (t':=l) λb o e=>A b o e,⟨t,U⟩,q _ ?_ λb k=>?_⟩
 .rw[f];exact oA (xs:=xs.toArray) ∅
 .rw[f]at k;let(j,B,rfl):=mem_getD k;rw[dn]at B;let z:=D j (by simp;lia);rw[JC]at z⊢;rw[JC]at z;simpa using z
theorem nC(C:X.calm=Ki):cw X (.builtin "max") (λus H Q=>∃(a:Ak)(c:La Int),us=[.ref a]/\SqL X.K H a (c.map V.int)/\0<c.length/\∀m,m∈c->(∀b∈c,b<=m)->Q (.int m) H):=by
 intro Kl s σ H us G Q I r h;let(a,c,rfl,y,d,q):=h;let(u,rfl,n):=r.one;cases (show u=zz.ref a from n);let(F,p,w,J):=I.list y;let(xs,E,f):=jF p;let i:=w.isList;rw[E]at i;let g:0<xs.toArray.size:=by
  rw[f,dn]at d;simpa using d
 refine max_intList (I.ok.hd C) i g λv h' l x A=>?_
 let(t,rfl):=intItems_at x;let(L,D):=argBest_gt (numAt xs.toArray)<|xs.toArray.size-1;refine⟨.int _,H,I.kept (t':=l) λb o e=>A b o e,⟨t,U⟩,q _ ?_ λb k=>?_⟩
 .rw[f];exact oA (xs:=xs.toArray) ∅
 .rw[f]at k;let(j,B,rfl):=mem_getD k;rw[dn]at B;let z:=D j (by simp;lia);rw[JC]at z⊢;rw[JC]at z;simpa using z
def yA(P:zM)(w:zJ)(a:Ak)(b:La Int):HO:=.ext λh=>h.SetOf (B4 P w) a (λz=>decide<|z∈b)<|cntK b b.length
theorem mJ:∀{zs:La Int}{us:La zz},Vals (zs.map V.int) us->∀(i:Nat)(v:zz),us[i]?=Kg v->∃z t,zs[i]?=Kg z/\v=.int z t
 | [],_,.nil,i,v,h=>by simp at h
 |z :: zs,_,.cons ⟨t,e⟩ r,0,v,h=>by simp at h;exact⟨z,t,U,by rw[←h,e]⟩
 |z :: zs,_,.cons _ r,i+1,v,h=>by
  let(a,t,c,b):=mJ r i v<|~~~h;calc⟨a,t,~~~c,b⟩
theorem nE(B:X.calm=Ki):cw X (.type "set") (λxs H Q=>∃(p:Ak)(zs:La Int),xs=[.ref p]/\SqL X.K H p (zs.map V.int)/\zs.length<=1000/\∀l,H l=Kh->Q (.ref l) (upd H l<|yA X.prog X.w l zs)):=by
 intro Kl s σ H xs F Q I r h;let(p,zs,rfl,C,G,q):=h;let(u,rfl,n):=r.one;obtain rfl:u=zz.ref p:=n;let(E,d,A,_):=I.list C;let f:=d.length;rw[dn]at f;refine oq (knd:=B4 X.prog X.w) (ks:=zs) (I.ok.hd B) A.isList (λi v e=>?_) (~~~f) (by unfold II;simp;lia) λh' m x=>?_
 .let(z,t,D,rfl):=mJ d i v<|~~~e;exact⟨z,D,by show zz.isInt z (.int z t)=Ki;simp[zz.isInt],U⟩
 .let(c,j):=x;calc⟨.ref s.heap.objs.size,_,I.laid (a:=s.heap.objs.size) (o:=yA X.prog X.w s.heap.objs.size zs) (h':=h') (t':=m) (λb o q=>j b o (Az.lt_size q) q) (tj _) ?_,U,q _ I.fresh⟩;calc⟨c,?_,λL J y k=>gF y k⟩;let(o,_,_,_,g,_):=c;calc⟨o,g⟩
theorem nG:cw X (.builtin "len") (λxs H Q=>∃(l:Ak)(zs:La Int),xs=[.ref l]/\H l=Kg (yA X.prog X.w l zs)/\zs.length<=1000/\Q (.int ((cntK zs zs.length:Nat):Int)) H):=by
 intro Kl s σ H xs i Q I r h;let(l,zs,rfl,e,j,q):=h;let(u,rfl,b):=r.one;obtain rfl:u=zz.ref l:=b;let((o,es,k,t,g,f,d,_,_,_,c,a),_,_):=I.hok l _ e;let le:=ku zs zs.length;refine call_len_set g f d c (by rw[a];lia) ⟨.int _,H,I.tok _,⟨_,U⟩,?_⟩;rw[a];calc q
theorem qH{b:Type} [DecidableEq b] {k:b}{ks:La b}:∀i,i<=ks.length->1<=cntK (k :: ks) (i+1)/\(cntK (k :: ks) (i+1)=1↔∀x∈ks.take i,x=k)
 |0,_=>by simp[cntK]
 |i+1,h=>by
  let(d,c):=qH (k:=k) (ks:=ks) i ∅;let e:(k :: ks)[i+1]?=Kg ks[i]:=by simp
  let j:ks[i]?=Kg ks[i]:=GC ∅;let f:ks.take (i+1)=ks.take i++[ks[i]]:=by rw[lA,j];rfl
  let g:(k :: ks).take (i+1)=k :: ks.take i:=rfl;rw[show cntK (k :: ks) (i+1+1)=match (k :: ks)[i+1]? with
   |some x=>if x∈(k :: ks).take (i+1)then cntK (k :: ks) (i+1)else cntK (k :: ks) (i+1)+1
   |none=>cntK (k :: ks) (i+1)from U,e,f,g]
  dsimp only;by_cases m:ks[i]∈k :: ks.take i
  .rw[Ko m];calc⟨d,c.trans ⟨λz x a=>?_,λz x a=>z x<|jd _ a⟩⟩;rcases gs.mp a with a|a
   .exact z x a
   .let:x=ks[i]:= ~~~a
    rw[this];rcases dt.mp m with m|m
    .exact m
    .exact z _ m
  .rw[Kn m];calc⟨∅,⟨λz=>Kp z ∅,λz=>?_⟩⟩;calc Kp (z ks[i] (hH _ (by simp))) λq=>m (by rw[q];exact dO)
theorem oB{a:Type} [DecidableEq a] {k:a}{ks:La a}:cntK (k :: ks) (k :: ks).length=1↔∀x∈ks,x=k:=by
 let:=(qH (k:=k) (ks:=ks) ks.length<|tj _).2;rw[fD]at this;calc this
def TyG(K:W.Frag)(H:Hp)(x:V)(t:zz):Prop:=kR K H x t\/∃a b,x=.ref a/\SqT K H a b/\t=.type "tuple"
inductive ClV:V->zz->Prop where
 |ty (T:String):ClV (.ty T) (.type T)
 |ref (C:Ak):ClV (.ref C) (.ref C)
theorem dP:cw X (.builtin "isinstance") (λxs H Q=>∃x c d t b,xs=[x,c]/\ClV c d/\TyG X.K H x t/\W.kitOne X.K t d=Kg b/\Q (.bl b) H):=by
 intro Kl s σ H xs v Q I r h;let(x,c,d,t,b,rfl,i,ty,e,q):=h;cases r with
 |cons g j =>
  cases j with
  | @cons _ cu _ _ ry r3 =>
   cases r3;let n:cu=d:=by cases i <;> exact ry
   subst n;rcases ty with ty|⟨a,u,rfl,k,rfl⟩
   .exact uT I g ty e λf=>⟨.bl b,H,I.tok f,U,q⟩
   .cases (show _=zz.ref a from g);let(p,r,(o,m,l,_),_):=I.tuple k;calc W.kia_one W.kitx_tuple I.kIn ⟨o,m,l⟩ e (λz=>nomatch z) λf=>⟨.bl b,H,I.tok f,U,q⟩
structure lP(K:W.Frag)(C:Ak):Prop where
 cl:Cls K C
 ha:W.findIn K (.ref C) "__class__" = Kg (Kg<|.builtin "object.__class__")
 hn:W.specialIn K (.builtin "object.__class__") "__get__" = Kg (Kg<|.builtin "getset_descriptor.__get__")
 tk:W.takesIn K (.builtin "object.__class__")=Kg Ki
 hm:W.mroIn K C (.type "object")=Kg Ki
def lP.ty{K:W.Frag}{C:Ak}(h:lP K C){H:Hp}{a b:Ak}{fs:La (Str×V)}(e:H a=Kg (.ins C b fs)):TyG K H (.ref a) (.ref C):=.inl<|.ins e h.cl h.ha h.hn h.tk h.hm
def wX(CX:CXT)(P:zM)(w:zJ)(K:W.Frag)(mg:Str->Option zz)(base:Az)(k:Nat)(m:Str)(ps:La Str)(cs:La (Ak×Sp)):Prop :=
 ∀p∈cs,aX CX P w K mg base k p.1 m ps p.2/\Cls K p.1
variable{CX:CXT}{cs:La (Ak×Sp)}
section
variable{k:Nat}
def AO:wX CX P w K mg base k m ps []:=λ_ h=>nomatch h
theorem nH(M:aX CX P w K mg base k C m ps sp)(c:Cls K C)(r:wX CX P w K mg base k m ps cs):wX CX P w K mg base k m ps ((C,sp) :: cs):=λp h=>by
 rcases dt.mp h with rfl|h
 .exact⟨M,c⟩
 .exact r p h
end
inductive zN(cs:La (Ak×Sp))(m:Str)(t:TA)(σ:St)(Q:VK)(x:V)(H1:Hp):Prop
 |mk (a p dx fs:_)(_:x=.ref a)(_:p∈cs)(_:H1 a=Kg (.ins p.1 dx fs))(_:fs.lookup m=Kh)(_:t σ H1 λvs H2=>p.2 (x :: vs) H2 Q E0):zN cs m t σ Q x H1
def DQ(cs:La (Ak×Sp))(m:Str)(ta:TE)(t:TA):TE:=λσ H Q=>ta σ H λx a=>zN cs m t σ Q x a
section
variable{k:Nat}
theorem wY{pl:Sem Bool}(M:wX CX X.prog X.w X.K X.mg X.base k m ps cs)(B:Passes CX X E0)(D:b8 k X.A)(G:PE X o ta)(L:PA X (e :: es) t)
  (b:E2 (e :: es) X.env=(Kj,eval e X.env) :: E2 es X.env:=by rfl)(d:(E1 pos<|E2 es X.env).any (·.1)=false:=by rfl)
  (C:eval (.Call (.Attribute o m apos) (e :: es) [] pos) X.env=(do
   let g ←eval o X.env
   Gf apos.atName
   let (f,first) ←holding [g] (G9 g m pl)
   IA pos f first (E1 pos<|E2 (e :: es) X.env) (HJ pos<|HK [] X.env)):=by rfl) :
  PE X (.Call (.Attribute o m apos) (e :: es) [] pos) (DQ cs m ta t):=by
 intro Kl s σ H Q I h;calc W.methodCall_KW (pl:=pl) (thn (G Kl s σ H _ I h) λu v ⟨x,P,n,y,a,p,S,fs,N,E,O,l,q⟩=>?_) C;let((f,fd,i,F,J),c):=M p E;subst N;obtain rfl:u=zz.ref a:=y;calc jC n O c i l ?_;calc W.callWith_K (first:=[.ref a]) (h₀:=X.base) I.ok.mod.kin i.kp (thn (L pos Kl v σ P _ n q) λus R ⟨vs,H2,j,r,z⟩=>⟨j.kIn,?_⟩) b d;calc wM (us:=.ref a :: us) (vs:=.ref a :: vs) F D J B j (.cons U r) z
theorem kY(M:bF CX X.prog X.w X.K X.mg X.base k x C ps sp)(b:Passes CX X E0)(c:b8 (k+1) X.A)(e:Gl X x)(a:(x == ("__debug__" : Str))=false:=by decide) :
  PE X (.Call (.Name x p) [] [] pos) (tMk C sp Av):=by
 let(f,fd,M,F,g,d):=M;let h:=wt (E:=E0) (dvs:=[]) (ds:=[]) (p:=p) (pos:=pos) M F c e d g .nil b a;intro Kl s σ H Q I q;calc h Kl s σ H Q I q
end
def ModT(K:W.Frag)(a:Ak)(xs:La V):Prop:=∃(o:Obj)(b:Array zz)(n:Nat),K.lookup a=Kg o/\o.cls=.type "tuple" /\ o.data=.seq b n/\b.size<=AA/\Vals xs b.toList
def ModT.sq{K:W.Frag}{a:Ak}{xs:La V}(h:ModT K a xs)(H:Hp):SqT K H a xs:=.inr h
def ModT.mk{K:W.Frag}{a:Ak}{xs:La V}{d:Option Ak}{b:Array zz}{n:Nat}{c:Array (Option zz)}(h:K.lookup a=Kg ⟨.type "tuple",d,.seq b n,c⟩) (f:b.size<=AA)(e:Vals xs b.toList):ModT K a xs :=
 ⟨_,b,n,h,U,U,f,e⟩
theorem ao.seqT{K:W.Frag}{H H':Hp}{a:Ak}{xs:La V}(e:ao H H')(h:SqT K H a xs):SqT K H' a xs:=by
 rcases h with(h|⟨o,h⟩)|h
 .exact .inl<|.inl<|e _ _ h
 .exact .inl<|.inr ⟨o,e _ _ h⟩
 .exact .inr h
theorem vm{K:W.Frag}{H:Hp}{Q:VK}{a b:Ak}{xs:La V}(f:SqL K H a xs)(e:SqL K H b xs)(fl:∀x∈xs,bM x=Ki\/∃r,x=.ref r)(q:Q (.bl Ki) H):wA K Kj (.ref a) (.ref b) H Q:=by
 refine⟨a,b,xs,xs,U,U,f,e,.inr ⟨U,λ_=>Ki,λj x y d c=>?_,?_⟩⟩
 .rw[d]at c;cases c;rcases fl x (GG d)with z|⟨r,rfl⟩
  .let:=EqI.flat (K:=K) (H:=H) z z;rw[kn z]at this;exact this
  .exact .same r
 .let:(List.range xs.length).all (λ_=>Ki)=true:=by simp
  rw[this];calc q
theorem dZ{c A B:Prop} [Decidable c] (a:c)(h:A):if decide c=Ki then A else B:=by rw[Ko (Kq a)];calc h
theorem cg{c A B:Prop} [Decidable c] (a:¬ c)(h:B):if decide c=Ki then A else B:=by rw[Kn (by rw[Kr a];decide)];calc h
inductive wZ(cs:La (Ak×Sp))(m:Str)(E:XK)(t:TA)(σ:St)(Q:VK)(x:V)(H1:Hp):Prop
 |mk (a p dx fs:_)(_:x=.ref a)(_:p∈cs)(_:H1 a=Kg (.ins p.1 dx fs))(_:fs.lookup m=Kh)(_:t σ H1 λvs H2=>p.2 (x :: vs) H2 Q E):wZ cs m E t σ Q x H1
def Ce(cs:La (Ak×Sp))(m:Str)(E:XK)(ta:TE)(t:TA):TE:=λσ H Q=>ta σ H λx a=>wZ cs m E t σ Q x a
section
variable{k:Nat}{E:XK}
theorem yB{pl:Sem Bool}(M:wX CX X.prog X.w X.K X.mg X.base k m ps cs)(B:Passes CX X E)(D:b8 k X.A)(J:PE X o ta)(N:PA X (e :: es) t)
  (b:E2 (e :: es) X.env=(Kj,eval e X.env) :: E2 es X.env:=by rfl)(d:(E1 pos<|E2 es X.env).any (·.1)=false:=by rfl)
  (C:eval (.Call (.Attribute o m apos) (e :: es) [] pos) X.env=(do
   let g ←eval o X.env
   Gf apos.atName
   let (f,first) ←holding [g] (G9 g m pl)
   IA pos f first (E1 pos<|E2 (e :: es) X.env) (HJ pos<|HK [] X.env)):=by rfl) :
  PE X (.Call (.Attribute o m apos) (e :: es) [] pos) (Ce cs m E ta t):=by
 intro Kl s σ H Q I h;calc W.methodCall_KW (pl:=pl) (thn (J Kl s σ H _ I h) λu v ⟨x,R,n,y,a,p,T,fs,O,G,P,l,q⟩=>?_) C;let((f,fd,i,F,L),c):=M p G;subst O;obtain rfl:u=zz.ref a:=y;calc jC n P c i l ?_;calc W.callWith_K (first:=[.ref a]) (h₀:=X.base) I.ok.mod.kin i.kp (thn (N pos Kl v σ R _ n q) λus S ⟨vs,H2,j,r,z⟩=>⟨j.kIn,?_⟩) b d;calc wM (us:=.ref a :: us) (vs:=.ref a :: vs) F D L B j (.cons U r) z
end
theorem ls0{P:La zz->Prop}(h:P []):∀us:La zz,us.length=0->P us:=λus e=>by
 cases us
 .exact h
 .cases e
theorem lsS{P:La zz->Prop}{n:Nat}(h:∀a us,us.length=n->P (a :: us)):∀us:La zz,us.length=n+1->P us:=λus e=>by
 cases us
 .cases e
 .exact h _ _<|Nat.succ.inj e
def ls1{P:La zz->Prop}(h:∀a,P [a]):∀us:La zz,us.length=1->P us:=lsS λa=>ls0 (P:=λv=>P (a :: v))<|h a
def ls2{P:La zz->Prop}(h:∀a b,P [a,b]):∀us:La zz,us.length=2->P us:=lsS λa=>ls1 (P:=λv=>P (a :: v))<|h a
def ls3{P:La zz->Prop}(h:∀a b c,P [a,b,c]):∀us:La zz,us.length=3->P us:=lsS λa=>ls2 (P:=λv=>P (a :: v))<|h a
def ls4{P:La zz->Prop}(h:∀a b c d,P [a,b,c,d]):∀us:La zz,us.length=4->P us:=lsS λa=>ls3 (P:=λv=>P (a :: v))<|h a
def ls5{P:La zz->Prop}(h:∀a b c d e,P [a,b,c,d,e]):∀us:La zz,us.length=5->P us:=lsS λa=>ls4 (P:=λv=>P (a :: v))<|h a
def ls6{P:La zz->Prop}(h:∀a b c d e f,P [a,b,c,d,e,f]):∀us:La zz,us.length=6->P us:=lsS λa=>ls5 (P:=λv=>P (a :: v))<|h a
def ls7{P:La zz->Prop}(h:∀a b c d e f g,P [a,b,c,d,e,f,g]):∀us:La zz,us.length=7->P us:=lsS λa=>ls6 (P:=λv=>P (a :: v))<|h a
def lb1{fd:Hv}{ps:La Str}(h:∀a,Hx fd ⟨[a],[]⟩=pure (ps.zip [a])):∀us:La zz,us.length=1->Hx fd ⟨us,[]⟩=pure (ps.zip us):=ls1 (P:=λus=>Hx fd ⟨us,[]⟩=pure (ps.zip us)) h
def lb2{fd:Hv}{ps:La Str}(h:∀a b,Hx fd ⟨[a,b],[]⟩=pure (ps.zip [a,b])):∀us:La zz,us.length=2->Hx fd ⟨us,[]⟩=pure (ps.zip us):=ls2 (P:=λus=>Hx fd ⟨us,[]⟩=pure (ps.zip us)) h
def lb3{fd:Hv}{ps:La Str}(h:∀a b c,Hx fd ⟨[a,b,c],[]⟩=pure (ps.zip [a,b,c])):∀us:La zz,us.length=3->Hx fd ⟨us,[]⟩=pure (ps.zip us):=ls3 (P:=λus=>Hx fd ⟨us,[]⟩=pure (ps.zip us)) h
def lb4{fd:Hv}{ps:La Str}(h:∀a b c d,Hx fd ⟨[a,b,c,d],[]⟩=pure (ps.zip [a,b,c,d])):∀us:La zz,us.length=4->Hx fd ⟨us,[]⟩=pure (ps.zip us):=ls4 (P:=λus=>Hx fd ⟨us,[]⟩=pure (ps.zip us)) h
def lb5{fd:Hv}{ps:La Str}(h:∀a b c d e,Hx fd ⟨[a,b,c,d,e],[]⟩=pure (ps.zip [a,b,c,d,e])):∀us:La zz,us.length=5->Hx fd ⟨us,[]⟩=pure (ps.zip us):=ls5 (P:=λus=>Hx fd ⟨us,[]⟩=pure (ps.zip us)) h
def lb7{fd:Hv}{ps:La Str}(h:∀a b c d e f g,Hx fd ⟨[a,b,c,d,e,f,g],[]⟩=pure (ps.zip [a,b,c,d,e,f,g])):∀us:La zz,us.length=7->Hx fd ⟨us,[]⟩=pure (ps.zip us):=ls7 (P:=λus=>Hx fd ⟨us,[]⟩=pure (ps.zip us)) h
variable{st:F3}
section
variable{j k:Nat}{q:Str}
theorem fsc{P:La Str}{f:Cr}(a:f.kind=.function:=by rfl)(b:f.isCoroutine=false:=by rfl)(c:f.isGenerator=false:=by rfl)(d:N.Nodup:=by decide+kernel)(e:N.take P.length=P:=by rfl)(g:∀x∈P,f.names.lookup x=Kg .local\/f.names.lookup x=Kg .cell:=by decide+kernel)(h:∀y∈f.names,y.2≠.free:=by decide+kernel):au N P f:=⟨a,b,c,d,e,g,h⟩
theorem Fun.okA(F:Fun K x q st f fd)(S:au N ps (aj st))(c:∀(b:zz)(A:Cd)(a:La Env)(s:Cg)(H:Hp)(vs:La V)(Q:VK)(E:XK),b8 k (A.deeper<|envOfC q (aj st) s.heap.objs.size f b)->sp vs H Q E->∃t,PSs (jD CX0 P w K mg base N q (aj st) f b A a s H E).nox (fH st) t/\t { nx:=λ_ H'=>Q .non H',rt:=Q } (start N vs) H)(len:∀vs H Q E,sp vs H Q E->vs.length=ps.length:=by intro vs H Q E h;cases h;subst_vars;rfl):aN P w K mg base CX0 (k+1) f fd ps sp:=F.ok S len c
theorem Fun.okEA(F:Fun K x q st f fd)(S:au N ps (aj st))(c:∀(b:zz)(A:Cd)(a:La Env)(s:Cg)(H:Hp)(vs:La V)(Q:VK)(E:XK),b8 k (A.deeper<|envOfC q (aj st) s.heap.objs.size f b)->sp vs H Q E->∃t,PSs (cxE P w K mg base N q (aj st) f b A a s H E) (fH st) t/\t { nx:=λ_ H'=>Q .non H',rt:=Q } (start N vs) H)(len:∀vs H Q E,sp vs H Q E->vs.length=ps.length:=by intro vs H Q E h;cases h;subst_vars;rfl):aN P w K mg base (CX1 P w) (k+1) f fd ps sp:=F.okE S len c
theorem Callee.up(c:Callee P w K mg base j x ps sp)(h:j<=k:=by decide):Callee P w K mg base k x ps sp:=c.mono h
theorem ba.up(c:ba P w K mg base j x ps sp)(h:j<=k:=by decide):ba P w K mg base k x ps sp:=c.mono h
theorem aX.up(c:aX CX P w K mg base j C m ps sp)(h:j<=k:=by decide):aX CX P w K mg base k C m ps sp:=c.mono h
theorem bF.up(c:bF CX P w K mg base j x C ps sp)(h:j<=k:=by decide):bF CX P w K mg base k x C ps sp:=c.mono h
theorem cx.up(c:cx CX P w K mg base j x m ps sp)(h:j<=k:=by decide):cx CX P w K mg base k x m ps sp:=c.mono h
inductive GF(K:W.Frag)(x q:Str)(st:F3):Prop
 |mk {f:Ak}{fd:Hv}(a:W.nsIn K B7 x=Kg (Kg<|.ref f))(F:Fun K q q st f fd)
inductive MF(K:W.Frag)(C:Ak)(x q:Str)(st:F3):Prop
 |mk {f:Ak}{fd:Hv}(a:W.findIn K (.ref C) x=Kg (Kg<|.ref f))(i:W.isFn K (.ref f)=Ki)(F:Fun K x q st f fd)
inductive KF(K:W.Frag)(C:Ak)(x q:Str)(st:F3):Prop
 |mk {f:Ak}{fd:Hv}(a:W.findIn K (.ref C) "__init__" = Kg (Kg<|.ref f)) (i:W.isFn K (.ref f)=Ki)(m:W.makesIn K C=Ki)(k:W.keepIn K (.ref C)=Ki)(n:W.nsIn K B7 x=Kg (Kg<|.ref C))(F:Fun K "__init__" q st f fd)
inductive BF(K:W.Frag)(C:Ak)(x m q:Str)(st:F3):Prop
 |mk {f:Ak}{fd:Hv}(s:W.specialIn K (.ref C) "__getattribute__" = Kg (Kg<|.builtin "type.__getattribute__")) (r:W.readsIn K C (.type "type")=Ki) (a:W.findCls K (.ref C) (.type "type") m=Kg (.val<|.ref f)) (n:W.nsIn K B7 x=Kg (Kg<|.ref C))(F:Fun K m q st f fd)
inductive Zb(P:zM)(w:zJ)(K:W.Frag)(mg:Str->Option zz)(base:Az):Prop
 |mk {h:Az}(X:K.In h)(G:h.Ns B7 mg)
theorem Zb.g(Z:Zb P w K mg base){v:zz}(e:W.nsIn K B7 x=Kg (Kg v)):mg x=Kg v:=by cases Z with|mk X G=>calc W.mg_of X G e
theorem mkC(Z:Zb P w K mg base)(h:GF K x q st)(O:∀{f:Ak}{fd:Hv},Fun K q q st f fd->aN P w K mg base CX0 k f fd ps sp)(b:∀{f:Ak}{fd:Hv},Fun K q q st f fd->Binds K fd ps []:=by trivial):Callee P w K mg base k x ps sp:=by
 cases h with|mk a F=>calc⟨_,_,O F,b F,F.kp,Z.g a⟩
theorem mkX(Z:Zb P w K mg base)(h:GF K x q st)(O:∀{f:Ak}{fd:Hv},Fun K q q st f fd->aN P w K mg base (CX1 P w) k f fd ps sp)(b:∀{f:Ak}{fd:Hv},Fun K q q st f fd->Binds K fd ps []:=by trivial):ba P w K mg base k x ps sp:=by
 cases h with|mk a F=>calc⟨_,_,O F,b F,F.kp,Z.g a⟩
theorem mkM(_:Zb P w K mg base)(h:MF K C m q st)(O:∀{f:Ak}{fd:Hv},Fun K m q st f fd->aN P w K mg base CX k f fd ps sp)(b:∀{f:Ak}{fd:Hv},Fun K m q st f fd->Binds K fd ps []:=by trivial):aX CX P w K mg base k C m ps sp:=by
 cases h with|mk a i F=>calc⟨_,_,⟨a,i,F.kp⟩,O F,b F⟩
theorem mkK(Z:Zb P w K mg base)(h:KF K C x q st)(O:∀{f:Ak}{fd:Hv},Fun K "__init__" q st f fd->aN P w K mg base CX k f fd ps sp) (b:∀{f:Ak}{fd:Hv},Fun K "__init__" q st f fd->Binds K fd ps []:=by trivial):bF CX P w K mg base k x C ps sp:=by
 cases h with|mk a i m k n F=>calc⟨_,_,⟨m,a,i,k⟩,O F,b F,Z.g n⟩
theorem mkB(Z:Zb P w K mg base)(h:BF K C x m q st)(O:∀{f:Ak}{fd:Hv},Fun K m q st f fd->aN P w K mg base CX k f fd ps sp)(b:∀{f:Ak}{fd:Hv},Fun K m q st f fd->Binds K fd ps []:=by trivial):cx CX P w K mg base k x m ps sp:=by
 cases h with|mk s r a n F=>calc⟨_,_,_,⟨s,r,a,F.kp⟩,O F,b F,Z.g n⟩
theorem mkR{sp:Nat->Sp}(Z:Zb P w K mg base)(h:GF K x q st)(k n:Nat)(z:∀{vs:La V}{H:Hp}{Q:VK}{E:XK},¬ sp 0 vs H Q E)(O:∀{f:Ak}{fd:Hv}(n:Nat),Fun K q q st f fd->Callee P w K mg base (k+n) x ps (sp n)->aN P w K mg base CX0 (k+n+1) f fd ps (sp<|n+1))(b:∀{f:Ak}{fd:Hv},Fun K q q st f fd->Binds K fd ps []:=by trivial):Callee P w K mg base (k+n) x ps (sp n):=by
 cases h with|mk a F =>
 calc⟨_,_,?_,b F,F.kp,Z.g a⟩;induction n with
 |zero=>exact aN.no λ_ _ _ _ h=>z h
 |succ n c=>calc O n F ⟨_,_,c,b F,F.kp,Z.g a⟩
theorem DR{sp:Nat->Sp}(Z:Zb P w K mg base)(h:GF K x q st)(k n:Nat)(z:∀{vs:La V}{H:Hp}{Q:VK}{E:XK},¬ sp 0 vs H Q E)(O:∀{f:Ak}{fd:Hv}(n:Nat),Fun K q q st f fd->ba P w K mg base (k+n) x ps (sp n)->aN P w K mg base (CX1 P w) (k+n+1) f fd ps (sp<|n+1))(b:∀{f:Ak}{fd:Hv},Fun K q q st f fd->Binds K fd ps []:=by trivial):ba P w K mg base (k+n) x ps (sp n):=by
 cases h with|mk a F =>
 calc⟨_,_,?_,b F,F.kp,Z.g a⟩;induction n with
 |zero=>exact aN.no λ_ _ _ _ h=>z h
 |succ n c=>calc O n F ⟨_,_,c,b F,F.kp,Z.g a⟩
def gv_mk{v:V}{u:zz}(a:W.nsIn K B7 x=Kg (Kg u))(r:RelV v u):∃u,W.nsIn K B7 x=Kg (Kg u)/\RelV v u:=⟨u,a,r⟩
end
theorem Inv.turnedPair{ch:La Ak}{T:Ak}{x y:V}{u v:zz}(I:Inv X Kl σ H s)(h:∀b∈ch,kM X Kl H b)(k:∀b o,b ∉ ch->s.heap.get? b=Kg o->h'.get? b=Kg o)
  (A:s.heap.get? T=Kh)(D:H T=Kh)(E:JD h' T u v)(t:RelV x u)(p:RelV y v):Inv X Kl σ (upd H T<|.tup [x,y]) { s with heap:=h' }:=by
 let out:∀b u,H b=Kg u->b ∉ ch:=λb u e z=>by
  let f:=(h b z).1;rw[f]at e;cases e
 let j:∀{b o},s.heap.get? b=Kg o->b≠T:=λe z=>by rw[z,A]at e;cases e
 let a:∀{b u},H b=Kg u->b≠T:=λe z=>by rw[z,D]at e;cases e
 let J:=Inv.step (H':=upd H T<|.tup [x,y]) (h':=h') (g':=s.gens) (d':=s.drawn) (t':=s.toks) (ch:=ch) I
  (λb g=>by let(_,i,_,K,G,F):=h b g;exact⟨K,i,G,F⟩)
  (λb o _ _ d e _=>k b o d e)
  (λb o _ _ d e _=>⟨o.slots,k b o d e⟩)
  (λb o _ e n=>by rw[aq (j e)];exact n)
  (λb o d e=>⟨o,k b o d e⟩)
  (λb l e=>by rw[aq (a e)];exact e)
  (λb o w e=>by rw[aq (a e)];exact e)
  (λb ps e=>⟨#[],by rw[aq (a e),e];simp⟩)
  (λm C=>by
   let(o,es,L,B,r):=C;calc⟨o,es,L,k _ o (λz=>?_) B,r⟩;let(_,i,_):=h _ z;exact i U)
  (λb w e=>by
   by_cases g:b=T
   .subst g;rw[ae]at e;cases e;exact⟨by show 2<=AA;decide,[u,v],.cons t<|.cons p .nil,_,E,U,_,U⟩
   .rw[aq g]at e;refine(I.hok b w e).stay (λc z d q=>k c z ?_ q) (λc q=>?_) λc l q=>?_
    .rcases d with z|z
     .rw[z];exact out b w e
     .exact out c _ z
    .rw[aq (a q)];exact q
    .rw[aq (a q)];exact q)
  I.bare
 calc J
theorem Inv.turnedL{ch:La Ak}(I:Inv X Kl σ H s)(d:∀b∈ch,kM X Kl H b)(k:∀b o,b ∉ ch->s.heap.get? b=Kg o->h'.get? b=Kg o):Inv X Kl σ H { s with heap:=h' }:=by
 let out:∀b u,H b=Kg u->b ∉ ch:=λb u e z=>by
  let f:=(d b z).1;rw[f]at e;cases e
 let J:=Inv.step (H':=H) (h':=h') (g':=s.gens) (d':=s.drawn) (t':=s.toks) (ch:=ch) I
  (λb l=>by let(_,g,_,v,t,p):=d b l;exact⟨v,g,t,p⟩)
  (λb o _ _ a e _=>k b o a e)
  (λb o _ _ a e _=>⟨o.slots,k b o a e⟩)
  (λb o _ _ n=>n)
  (λb o a e=>⟨o,k b o a e⟩)
  (λb h e=>e) (λb o w e=>e) (λb ps e=>⟨#[],by rw[e];simp⟩)
  (λm j=>by
   let(o,es,x,i,r):=j;calc⟨o,es,x,k _ o (λz=>?_) i,r⟩;let(_,g,_):=d _ z;exact g U)
  (λb w e=>by
   refine(I.hok b w e).stay (λc z a q=>k c z ?_ q) (λc q=>q) λc h q=>q
   rcases a with z|z
   .rw[z];exact out b w e
   .exact out c _ z)
  I.bare
 calc J
def Itz(K:W.Frag)(a b:Ak):It :=
 ⟨λi H=>∃d c x y,SqL K H a d/\SqL K H b c/\d[i]?=Kg x/\c[i]?=Kg y,
 λi H v e=>∃T,H T=Kh/\v=.ref T/\∀d c x y,SqL K H a d->SqL K H b c->d[i]?=Kg x->c[i]?=Kg y->e=upd H T (.tup [x,y]),
 λi H=>∃d c,SqL K H a d/\SqL K H b c/\(d.length<=i\/c.length<=i)⟩
def zO(z TI TO d c a b:Ak)(i:Nat)(h:Az):Prop:=IsZip h z TI TO .none/\JD h TI (.ref d) (.ref c)/\(∃p q,JD h TO p q)/\h.IsListIter d a i/\h.IsListIter c b i
theorem w6{P:zM}{w:zJ}{K:W.Frag}{A:La D0} {x1} {tp:Pos}{z TI TO r n a b:Ak}(D:JE z TI TO r n a b) :
  Turn P w K (.Tuple A x1 tp) (Itz K a b) [z,TI,TO,r,n] z (zO z TI TO r n a b) where
 mem:=by simp
 obj:=λi h st c d=>by
  let(m,f,(p,q,l),(o4,j,_,d4),(o5,g,_,d5)):=st;simp only[dt,jc,or_false]at d;rcases d with rfl|rfl|rfl|rfl|rfl
  .exact⟨_,m,λv q=>nomatch q⟩
  .exact⟨_,f,λv q=>nomatch q⟩
  .exact⟨_,l,λv q=>nomatch q⟩
  .exact⟨_,j,λv q=>by rw[d4]at q;cases q⟩
  .exact⟨_,g,λv q=>by rw[d5]at q;cases q⟩
 keep:=λi h h' st k=>by
  let(m,f,(p,q,l),j,g):=st;exact⟨k z (by simp) _ m,k TI (by simp) _ f,⟨p,q,k TO (by simp) _ l⟩,j.at λo e=>k r (by simp) o e,g.at λo e=>k n (by simp) o e⟩
 item:=by
  intro X R N S d i Kl s σ H E I F st Q;subst R N S;let(xs,ys,x,y,C,B,ex,ey):=Q;let(m,f,(p,q,l),j,g):=st;let(us,L,M,_):=I.list C;let(vs,G,pv,_):=I.list B;let(u,eu,r1):=L.get ex;let(v,ev,r2):=G.get ey;refine JF D m f l j g M.isList pv.isList (x:=u) (y:=v) (~~~eu) (~~~ev) λh1 a1 a2 a3 a4 a5 a6 a7=>?_
  calc⟨_,U,wpAny_letOwnedTupleGo_zip (s:={ s with heap:=h1 }) a1 λV b1 t=>?_⟩;let nT:s.heap.get? s.heap.objs.size=none:=by
   cases q:s.heap.get? s.heap.objs.size with
   |none=>rfl
   |some o=>exact Kp (Az.lt_size q) (va _)
  let hT:H s.heap.objs.size=none:=I.hok.fresh<|tj _;let nz:s.heap.objs.size≠z:=tR<|Az.lt_size m;let kk:∀c o,c ∉ [z,TO,r,n]->s.heap.get? c=Kg o->V.get? c=Kg o:=λc o d e=>by
   simp only[dt,jc,or_false,not_or]at d;exact t.extBut _ _ d.1<|a7 c o d.1 d.2.1 d.2.2.1 d.2.2.2 e
  let J:=I.turnedPair (h':=V) (ch:=[z,TO,r,n]) (T:=s.heap.objs.size) (x:=x) (y:=y) (u:=u) (v:=v) (λc d=>F c (by simp at d⊢;rcases d with e|e|e|e <;> simp[e])) kk nT hT (t.extBut _ _ nz a5) r1 r2;refine⟨.ref s.heap.objs.size,upd H s.heap.objs.size<|.tup [x,y],J,U,⟨_,hT,U,λb0 a9 x' y' q1 q2 Z Y=>?_⟩,⟨b1,t.extBut _ _ D.TIz<|a7 TI _ D.TIz D.TITO D.TIi1 D.TIi2 f,⟨_,_,t.extBut _ _ D.TOz a2⟩,a3.extBut t.extBut D.i1z,a4.extBut t.extBut D.i2z⟩,λc d=>?_⟩
  .rw[I.list_inj q1 C]at Z;rw[I.list_inj q2 B]at Y;rw[ex]at Z;rw[ey]at Y;cases Z;cases Y;rfl
  .let h0:=(F c d).1;let:c≠s.heap.objs.size:=by
    let(o4,a8,_):=j;let(o5,a0,_):=g;simp only[dt,jc,or_false]at d;rcases d with rfl|rfl|rfl|rfl|rfl
    .exact nz.symm
    .exact tN<|Az.lt_size f
    .exact tN<|Az.lt_size l
    .exact tN<|Az.lt_size a8
    .exact tN<|Az.lt_size a0
   rw[aq this];exact h0
 done:=by
  intro X R N S d i Kl s σ H E I F st Q;subst R N S;let(xs,ys,C,B,O):=Q;let(m,f,(p,q,l),j,g):=st;let(us,L,M,_):=I.list C;let(vs,G,pv,_):=I.list B;let l1:=L.length;let l2:=G.length;refine JG (I.ok.hd d) D m f l j g M.isList pv.isList ?_ λV k=>⟨U,I.turnedL (ch:=[z,TO,r,n]) (λc d=>F c (by simp at d⊢;rcases d with e|e|e|e <;> simp[e])) λc o d e=>?_⟩
  .rcases O with O|O
   .exact .inl (by simp;lia)
   .exact .inr (by simp;lia)
  .simp only[dt,jc,or_false,not_or]at d;exact k c o d.1 d.2.1 d.2.2.1 d.2.2.2 e
 self:=λ_ _ _ _ _ st h=>JH st.1 h
inductive zP(K:W.Frag)(R:It->Hp->Prop)(vs:La V)(H1:Hp):Prop
 |mk (a b:_)(_:vs=[.ref a,.ref b])(_:(∃xs,SqL K H1 a xs))(_:(∃ys,SqL K H1 b ys))(_:R (Itz K a b) H1)
def DS(K:W.Frag)(ta:TA):TI:=λσ H R=>ta σ H λa b=>zP K R a b
theorem sQ{k e:D0}{ta:TA}{p pos:Pos}{j:La D0} {x1} {tp:Pos}(M:Gl X "zip") (hm:X.mg "zip" = Kh) (N:PA X [k,e] ta)
  (L:E2 [k,e] X.env=[(Kj,eval k X.env),(Kj,eval e X.env)]:=by rfl)(g:E2 [e] X.env=[(Kj,eval e X.env)]:=by rfl) :
  PI X (.Tuple j x1 tp) (.Call (.Name "zip" p) [k,e] [] pos) (DS X.K ta):=by
 intro Kl s σ H R I h;refine Call_ (fg I M hm PyProof.Rows.boot_zip<|PyProof.Rows.callWith_type1 (thn (N pos Kl s σ H _ I h) λB d ⟨A,Q,f,E,J⟩=>?_) (by rw[L,g]) (by rw[g];rfl));let(a,b,rfl,(V,G),(T,F),q):=J;let(u,v,rfl,D,C):=E.two;cases (show u=zz.ref a from D);cases (show v=zz.ref b from C);let(B,_,m,_):=f.list G;let(A,_,pv,_):=f.list F;let(Y,P,_):=id m.isList;let(W,O,_):=id pv.isList;let o:a<d.heap.objs.size:=Az.lt_size P;let n:b<d.heap.objs.size:=Az.lt_size O;refine call_zip_2 m.isList pv.isList λh' l z y x w S t=>?_
 calc JH (s:={ d with heap:=h' }) l ?_;refine⟨d.heap.objs.size+4,[d.heap.objs.size+4,d.heap.objs.size+2,d.heap.objs.size+3,d.heap.objs.size,d.heap.objs.size+1],zO (d.heap.objs.size+4) (d.heap.objs.size+2) (d.heap.objs.size+3) d.heap.objs.size (d.heap.objs.size+1) a b,Itz X.K a b,Q,U,f.kept (t':=d.toks) t,w6 ?_,⟨l,z,⟨_,_,y⟩,x,w⟩,λc r=>?_,q⟩
 .refine⟨?_,?_,?_,?_,?_,?_,?_,?_,?_,?_,?_,?_,?_,?_,?_,?_,?_,?_⟩ <;> first|exact tN ∅|exact tR ∅|exact tN o|exact tN n|exact tN (tP o<|vT _ _)|exact tN (tP n<|vT _ _)
 .let i:d.heap.objs.size<=c:=by
   simp only[dt,jc,or_false]at r;rcases r with rfl|rfl|rfl|rfl|rfl <;> lia
  calc f.fpOk i<|f.hok.fresh i
theorem pB{K:W.Frag}{a b:Ak}{xs ys:La V}{g:TG}{tb:TS}{D:Ends}{σ:St}{H:Hp}(c:Nat->St->Hp->Prop)(u:c 0 σ H)(s:∀i σ H,c i σ H->SqL K H a xs/\SqL K H b ys)
  (r:∀i x y σ H T,xs[i]?=Kg x->ys[i]?=Kg y->c i σ H->H T=Kh->g (.ref T) σ (upd H T<|.tup [x,y]) λd H2=>tb { D with nx:=c<|i+1,ct:=c<|i+1,bk:=D.nx } d H2)
  (hd:∀σ H,c (min xs.length ys.length) σ H->D.nx σ H) :
  ∃W:Nat->Nat->St->Hp->Prop,(∃m,W 0 m σ H)/\∀i m σ H,W i m σ H ->
   ((Itz K a b).stop i H/\D.nx σ H)\/((Itz K a b).go i H/\∃N:St->Hp->Prop,(∀f H',N f H'->∃n,n<m/\W (i+1) n f H')/\∀x H',(Itz K a b).yld i H x H'->g x σ H' λd H2=>tb { D with nx:=N,ct:=N,bk:=D.nx } d H2):=by
 refine⟨λi m σ H=>m=min xs.length ys.length-i/\i<=min xs.length ys.length/\c i σ H,⟨min xs.length ys.length,by simp,tS _,u⟩,?_⟩;rintro i m σ H ⟨rfl,hi,p⟩;let(j,h):=s i σ H p;by_cases lt:i<min xs.length ys.length
 .let l:xs[i]?=Kg xs[i]:=GC ∅;let k:ys[i]?=Kg ys[i]:=GC ∅;refine .inr ⟨⟨xs,ys,_,_,j,h,l,k⟩,c<|i+1,λf H' q=>⟨_,?_,U,lt,q⟩,λv H' o=>?_⟩
  .lia
  .let(T,t,rfl,e):=o;rw[e xs ys _ _ j h l k];exact r i _ _ σ H T l k p t
 .let e:i=min xs.length ys.length:=∅
  subst e;calc .inl ⟨⟨xs,ys,j,h,∅⟩,hd σ H p⟩
def ju{X:Cx}{K:W.Frag}(h:X.K=K):cw X (.type "list") (λxs H Q=>∃p ys,xs=[.ref p]/\(SqL K H p ys\/SqT K H p ys)/\∀l,H l=Kh->Q (.ref l) (upd H l<|.lst ys)):=h ▸ di
set_option maxRecDepth 100000
abbrev jG(h:Az)(z TI TO a:Ak)(b:Bool):Prop :=
 h.get? z=Kg { cls:=.type "zip",dict:=Kh,data:=.fields #[GV a,.bool b,.bool Kj,.ref TI,.ref TO],slots:=#[] }
def ky{a:Ak}{Q:Option Obj->Cg->Prop}(h:Q (s.heap.get? a) s):DO (model prog w) A (loadIfAlive a) Q E s:=λ_ _ _=>h
theorem oC{z TI TO a:Ak}{b:Bool}{o:Obj}{Q:Bool->Cg->Prop}(c:jG s.heap z TI TO a b)(f:s.heap.get? a=Kg o)
  (h:∀h',jG h' z TI TO a Ki->Az.SameBut z s.heap h'->Q Kj { s with heap:=h' }):DO (model prog w) A (G0.SmallTypes.ownedTupleIsFree<|.ref z) Q E s:=by
 unfold G0.SmallTypes.ownedTupleIsFree;calc zo<|Ih c U (x:=GV a) U ?_;show DO _ _ (loadIfAlive ((a:Int).toNat) >>= _) _ _ _;calc zo<|ky ?_;rw[w4,f];simp only[Option.isNone_some,yz,if_false];calc zo<|Ih c U (x:=.bool b) U ?_;cases b with
 |true =>
  rw[Kn (by simp)];calc zp ?_;let e:s={ s with heap:=s.heap }:=by cases s;rfl
  rw[e];exact h s.heap c<|Az.SameBut.refl z s.heap
 |false =>
  rw[Ko ⋯];refine zo (Jm c (by simp) λg i d=>?_);calc zp<|h g i d
theorem vn{z TI TO v i p q t:Ak}{X:Bool}{k1 k2:Nat}{xs ys:Array zz}{x y a b:zz}{o:Obj}{Q:Option zz->Cg->Prop}(D:JE z TI TO i p q t)
  (u:jG s.heap z TI TO v X)(H:s.heap.get? v=Kg o)(G:JD s.heap TI (.ref i) (.ref p))(Y:JD s.heap TO a b)
  (S:s.heap.IsListIter i q k1)(R:s.heap.IsListIter p t k2)(C:s.heap.IsList q xs)(B:s.heap.IsList t ys)(O:xs[k1]?=Kg x)(N:ys[k2]?=Kg y)
  (P:∀h',jG h' z TI TO v Ki->h'.IsListIter i q (k1+1)->h'.IsListIter p t (k2+1)->JD h' s.heap.objs.size x y->h'.objs.size=s.heap.objs.size+1 ->
   (∀c o,c≠z->c≠i->c≠p->s.heap.get? c=Kg o->h'.get? c=Kg o)->Q (Kg<|.ref s.heap.objs.size) { s with heap:=h' }) :
  DO (model prog w) A (GR<|.ref z) Q E s:=by
 let I:s.TypeIs (.ref z) "zip" := ⟨_,u,U⟩;unfold GR;calc zo<|Iu<|Ji (name:=s!"__next__") I F.slot_zip_next<|Jj F.slot_zip_next I F.entry_zip_next ?_<|F.args_zip_next_1 _;show DO _ _ (field (.ref z) 2 >>= _) _ _ _;calc zo<|Ih u U (x:=.bool Kj) U ?_;show DO _ _ (field (.ref z) 3 >>= _) _ _ _;calc zo<|Ih u U (x:=.ref TI) U ?_;calc zo<|Js G U ?_;show DO _ _ (G0.SmallTypes.ownedTupleIsFree (.ref z) >>= _) _ _ _;calc zo<|oC u H λL k d=>?_;simp only[yz,if_false];calc zo ?_;rw[←Array.forIn_toList];simp only[List.forIn_cons,List.forIn_nil];calc zo<|zo<|zq ?_;show DO _ _ (G0.SmallTypes.nextOf (.ref i) >>= _) _ _ _;calc zo<|JI (S.extBut d.extBut D.i1z) (C.extBut d.extBut D.l1z) O λK n g=>zp ?_;calc zp ?_;dsimp only;calc zo<|zo<|zq ?_;show DO _ _ (G0.SmallTypes.nextOf (.ref p) >>= _) _ _ _;calc zo<|JI ((R.extBut d.extBut D.i2z).extBut g.extBut D.i12.symm) ((B.extBut d.extBut D.l2z).extBut g.extBut D.l2i1) N λf l h=>zp ?_;calc zp ?_;dsimp only;calc zp ?_;refine zo (Jw ?_ (by show 2<=AA;decide));let r:f.objs.size=s.heap.objs.size:=by rw[h.1,g.1,d.1]
 calc zp ⟨_,U,zp ?_⟩;show Q (Kg<|.ref f.objs.size) _;let j:jG f z TI TO v true:=h.extBut _ _ D.i2z.symm<|g.extBut _ _ D.i1z.symm k;let m:f.IsListIter i q (k1+1):=n.extBut h.extBut D.i12;let J:(f.push { cls:=.type "tuple",data:=.seq #[x,y] }).get? f.objs.size=Kg { cls:=.type "tuple",data:=.seq #[x,y] }:=Az.get?_push_size _ U;let M:(f.push { cls:=.type "tuple",data:=.seq #[x,y] }).objs.size=s.heap.objs.size+1:=by rw[Az.size_push,r]
 rw[r]at J⊢;calc P _ (Az.get?_push_of_some _ j) (m.at λo e=>Az.get?_push_of_some _ e) (l.at λo e=>Az.get?_push_of_some _ e) J M λc o W V T e=>Az.get?_push_of_some _<|h.extBut _ _ T<|g.extBut _ _ V<|d.extBut _ _ W e
theorem xa{z TI TO O j i r p:Ak}{Z:Bool}{k1 k2:Nat}{xs ys:Array zz}{a b:zz}{o:Obj}{Q:Option zz->Cg->Prop}(K:A.handled=Kh)(D:JE z TI TO j i r p)
  (n:jG s.heap z TI TO O Z)(H:s.heap.get? O=Kg o)(G:JD s.heap TI (.ref j) (.ref i))(a0:JD s.heap TO a b)
  (M:s.heap.IsListIter j r k1)(Y:s.heap.IsListIter i p k2)(l:s.heap.IsList r xs)(B:s.heap.IsList p ys)(S:xs[k1]?=Kh\/ys[k2]?=Kh)
  (X:∀h',(∀c o,c≠z->c≠j->c≠i->s.heap.get? c=Kg o->h'.get? c=Kg o)->Q Kh { s with heap:=h' }) :
  DO (model prog w) A (GR<|.ref z) Q E s:=by
 let L:s.TypeIs (.ref z) "zip" := ⟨_,n,U⟩;unfold GR;calc zo<|Iu<|Ji (name:=s!"__next__") L F.slot_zip_next<|Jj F.slot_zip_next L F.entry_zip_next ?_<|F.args_zip_next_1 _;show DO _ _ (field (.ref z) 2 >>= _) _ _ _;calc zo<|Ih n U (x:=.bool Kj) U ?_;show DO _ _ (field (.ref z) 3 >>= _) _ _ _;calc zo<|Ih n U (x:=.ref TI) U ?_;calc zo<|Js G U ?_;show DO _ _ (G0.SmallTypes.ownedTupleIsFree (.ref z) >>= _) _ _ _;calc zo<|oC n H λR I d=>?_;simp only[yz,if_false];calc zo ?_;rw[←Array.forIn_toList];simp only[List.forIn_cons,List.forIn_nil];calc zo<|zo<|zq ?_;show DO _ _ (G0.SmallTypes.nextOf (.ref j) >>= _) _ _ _
 let fin:∀h' e,(∀c o,c≠z->c≠j->c≠i->s.heap.get? c=Kg o->h'.get? c=Kg o)->(∃o,h'.get? e=Kg o/\o.cls=.type "StopIteration") ->
   DO (model prog w) A (do if ←isInstance (.ref e) (.type "StopIteration")then pure Kh else throw (.ref e)) Q E { s with heap:=h' }:=λh' e k ⟨V,y,C⟩=>by
  calc zo<|Jq (T := "StopIteration") (b:=Ki) ⟨V,y,C⟩ Jr ?_;exact zp<|X _ k
 cases hx:xs[k1]? with
 |none =>
  calc zo<|JJ K (M.extBut d.extBut D.i1z) (l.extBut d.extBut D.l1z) hx λm e f t=>?_;exact fin _ _ (λc o v u N q=>f _ _ u<|d.extBut _ _ v q) t
 |some x =>
  let W:ys[k2]?=none:=by rcases S with h|h;rw[hx]at h;cases h;exact h
  calc zo<|JI (M.extBut d.extBut D.i1z) (l.extBut d.extBut D.l1z) hx λm J f=>zp ?_;calc zp ?_;dsimp only;calc zo<|zo<|zq ?_;show DO _ _ (G0.SmallTypes.nextOf (.ref i) >>= _) _ _ _;calc zo<|JJ K ((Y.extBut d.extBut D.i2z).extBut f.extBut D.i12.symm) ((B.extBut d.extBut D.l2z).extBut f.extBut D.l2i1) W λP e g t=>?_;calc fin _ _ (λc o v u N q=>g _ _ N<|f.extBut _ _ u<|d.extBut _ _ v q) t
section
variable{R:Hm->Cg->Prop}
def neA{a T:Ak}{N:Nat}(h:a<N)(h':N<=T):T≠a:=tR<|tP h h'
def ud(h:Az)(z TI TO:Ak)(N:Nat)(i:Nat):Prop:=(i=0/\IsZip h z TI TO .none)\/∃a b o,N<=a/\a≠z/\jG h z TI TO a b/\h.get? a=Kg o/\o.cls=.type "tuple"
end
set_option maxRecDepth 100000
set_option maxRecDepth 100000
theorem jv:∀{l L:La Int},l.Nodup->(∀x∈l,x∈L)->l.length<=L.length
 | [],_,_,_=>tS _
 |x :: l,L,hn,hs=>by
  let(f,d):=ja.mp hn;let b:=hs x dO;let c:=jv (L:=L.erase x) d λy a=>(List.mem_erase_of_ne<|λ(e:y=x)=>f<|e ▸ a).mpr<|hs y<|dV _ a
  rw[List.length_erase_of_mem b]at c;let:0<L.length:=List.length_pos_of_mem b;rw[hU];lia
theorem ue:∀{vs:La zz},(∀v∈vs,∃u,v=.int (kW v) u)->IntsAre vs (vs.map kW)
 | [],_=>.nil
 |v :: vs,h=>by
  let(u,e):=h v dO;rw[e];calc .cons _ u<|ue λx a=>h x<|dV _ a
theorem oE:∀{vs:La zz}{a:La Int},IntsAre vs a->Vals (a.map V.int) vs
 |_,_,.nil=>.nil
 |_,_,.cons n t r=>.cons ⟨t,U⟩<|oE r
theorem iz:∀{a:La Int},a.Pairwise (· <= ·)->a.Nodup->a.Pairwise (· < ·)
 | [],_,_=>.nil
 |n :: a,h1,h2=>by
  let(g,f):=rC.mp h1;let(d,c):=ja.mp h2;calc .cons (λm b=>?_)<|iz f c;let:=g m b;let:n≠m:=λe=>d<|e ▸ b
  lia
theorem sR{a:Ak}{ks:La Int}{m:Nat}{Q:zz->Cg->Prop}(R:A.handled=Kh)(Z:eE s.heap a (!eK w) ks m)(hm:m<64)
  (h:∀(r:La Int)(vs:La zz)(s':Cg)(D:Ak)(c:Nat),Vals (r.map V.int) vs->r.Pairwise (· < ·)->(∀k,k∈r↔k∈ks)->s.heap.objs.size<=D->(∀b u,s.heap.get? b=Kg u->s'.heap.get? b=Kg u)->s'.heap.get? D=Kg (seqObj "list" vs.toArray c)->s'.gens=s.gens->s'.os=s.os->r.length=m->Q (.ref D) s') :
  DO (model prog w) A (call (.builtin "sorted") [.ref a]) Q E s:=by
 let(o,es,ep,t,N,I,X,z,x,T,Y,P,O):=Z;calc Calls.call_function_entry kind_sorted plain_sorted entry_sorted (args_sorted1 _) ?_;unfold G0.«sorted»;calc zo (m:=checkCount "sorted" 1 1 _)<|zp ?_;refine zo (qG (by simp[R]) N I X x T Y P λord d y K S G F=>?_);let n:ord.length=m:=by rw[y.length_eq,dn,x4,O]
 let p:∀v∈ord,∃u,v=.int (kW v) u:=λv M=>by
  let(e,W,rfl):=eH.mp<|y.mem_iff.mp M;exact(z.ent e W).2
 let hI:=ue p;let J:(ord.map kW).Perm (es.toList.map λe=>kW e.2):=by
  let:=y.map kW;rw[pa]at this;exact this
 refine zo (wpAny_newList ?_ (by rw[G7];lia));let f:(d.heap.push<|seqObj "list" ord.toArray 0).get? d.heap.objs.size=Kg (seqObj "list" ord.toArray 0):=Az.get?_push_size _ U;let l:∀b u,s.heap.get? b=Kg u->(d.heap.push<|seqObj "list" ord.toArray 0).get? b=Kg u:=λb u q=>Az.get?_push_of_some _<|K b u q
 show DO _ _ _ _ _ { d with heap:=d.heap.push (seqObj "list" ord.toArray 0) };refine zo<|zq<|Jj slot_list_sort ⟨_,f,U⟩ entry_list_sort ?body<|args_list_sort _
 case body =>
  refine list_sort_tree (s:={ d with heap:=d.heap.push (seqObj "list" ord.toArray 0) }) f hI ∅ λout i a1 C a3=>⟨_,U,zp ⟨_,U,?_⟩⟩
  let nd:i.Nodup:=C.nodup_iff.mpr<|J.nodup_iff.mpr z.nd;let j:d.heap.objs.size<(d.heap.push<|seqObj "list" ord.toArray 0).objs.size:=Az.lt_size f;let(B,H):∃B,((d.heap.push<|seqObj "list" ord.toArray 0).update d.heap.objs.size<|Obj.mapSeq λ_=>#[]).get? d.heap.objs.size=Kg (seqObj "list" #[] B):=⟨_,get?_update_seq f<|λ_=>#[]⟩;let L:∀b,b<(d.heap.push<|seqObj "list" ord.toArray 0).objs.size->((((d.heap.push<|seqObj "list" ord.toArray 0).update d.heap.objs.size<|Obj.mapSeq λ_=>#[]).push<|seqObj "tuple" ord.toArray 0).push<|seqObj "list" #[] 0).get? b=((d.heap.push<|seqObj "list" ord.toArray 0).update d.heap.objs.size<|Obj.mapSeq λ_=>#[]).get? b:=λb x=>by
   rw[Az.get?_push_ne _ _ _ (by rw[size_push',Az.size_update];exact tN (vb x)),Az.get?_push_ne _ _ _ (by rw[Az.size_update];exact tN x)]
  let e6:((((d.heap.push<|seqObj "list" ord.toArray 0).update d.heap.objs.size<|Obj.mapSeq λ_=>#[]).push<|seqObj "tuple" ord.toArray 0).push<|seqObj "list" #[] 0).get? d.heap.objs.size=Kg (seqObj "list" #[] B):=by rw[L _ j];exact H
  let sz:s.heap.objs.size<=d.heap.objs.size:=uK F;refine h i out.toList { d with heap:=sortedHeap (d.heap.push<|seqObj "list" ord.toArray 0) d.heap.objs.size ord out } d.heap.objs.size _ (oE a1) (iz a3 nd) (λk=>(C.mem_iff).trans<|(J.mem_iff).trans (z.mem k).symm) sz (λb u q=>?_) (get?_update_seq e6<|λ_=>out) S G ?_
  .let g:b<d.heap.objs.size:=Az.lt_size<|K b u q;show(Az.update _ _ _).get? b=Kg u;rw[Az.get?_update_ne _ _ _ _ (tN g),L _<|uL g j,Az.get?_update_ne _ _ _ _ (tN g)];exact l b u q
  .rw[C.length_eq,dn,n]
variable{H':Hp}
theorem Inv.grow{s':Cg}(I:Inv X Kl σ H s)(k:∀b o,s.heap.get? b=Kg o->s'.heap.get? b=Kg o)(p:s'.gens=s.gens)(d:s'.os=s.os)(a:∀b,b<s.heap.objs.size->H' b=H b)
  (i:∀b u,s.heap.objs.size<=b->H' b=Kg u->bQ X.prog X.w H' s'.heap b u):Inv X Kl σ H' s':=by
 let(h',g',d',t',h):=s';obtain rfl:g'=s.gens:=p;obtain rfl:h=s.os:=d;let lt:∀{b u},H b=Kg u->b<s.heap.objs.size:=λ{b u} e=>by
  rcases wh b s.heap.objs.size with z|z
  .exact z
  .rw[I.hok.fresh z]at e;cases e
 let same:∀{b u},H b=Kg u->H' b=Kg u:=λe=>by rw[a _ (lt e)];exact e
 exact I.step (h':=h') (g':=s.gens) (d':=d') (t':=t') (ch:=[]) (λ_ z=>nomatch z) (λb o _ _ _ e _=>k b o e) (λb o _ _ _ e _=>⟨o.slots,k b o e⟩)
  (λb o _ e n=>by rw[a _ (Az.lt_size e)];exact n) (λb o _ e=>⟨o,k b o e⟩) (λb f e=>same e) (λb o u e=>same e) (λb ps e=>⟨#[],by rw[same e];simp⟩)
  (λm l=>by
   let(o,es,t,j,r):=l;exact⟨o,es,t,k _ o j,r⟩)
  (λb u e=>by
   rcases wh b s.heap.objs.size with z|z
   .rw[a _ z]at e;exact(I.hok b u e).stay (λc g _ q=>k c g q) (λc q=>same q) λc f q=>same q
   .exact i b u z e)
  I.bare
def yC(w:zJ)(a:Ak)(zs:La Int):HO:=.ext λh=>∃m,eE h a (!eK w) zs m
theorem mK:∀{zs:La Int}{us:La zz},Vals (zs.map V.int) us->∀(i:Nat)(v:zz),us[i]?=Kg v->∃z t,zs[i]?=Kg z/\v=.int z t
 | [],_,.nil,i,v,h=>by simp at h
 |z :: zs,_,.cons ⟨t,e⟩ r,0,v,h=>by simp at h;exact⟨z,t,U,by rw[←h,e]⟩
 |z :: zs,_,.cons _ r,i+1,v,h=>by
  let(a,t,c,b):=mK r i v<|~~~h;calc⟨a,t,~~~c,b⟩
theorem vo{w:zJ}(A:X.w=w)(B:X.calm=Ki):cw X (.type "set") (λxs H Q=>∃(p:Ak)(zs:La Int),xs=[.ref p]/\SqL X.K H p (zs.map V.int)/\zs.length<=1000/\∀l,H l=Kh->Q (.ref l) (upd H l<|yC w l zs)):=by
 subst A;intro Kl s σ H xs E Q I r h;let(p,zs,rfl,C,F,q):=h;let(u,rfl,j):=r.one;obtain rfl:u=zz.ref p:=j;let(D,c,n,_):=I.list C;let d:=c.length;rw[dn]at d;refine vf (ks:=zs) (I.ok.hd B) n.isList (λi v e=>?_) (~~~d) (by unfold II;simp;lia) λh' f m x G z=>?_
 .exact mK c i v<|~~~e
 .refine⟨.ref s.heap.objs.size,_,I.laid (a:=s.heap.objs.size) (o:=yC X.w s.heap.objs.size zs) (h':=h') (t':=f) (λb o q=>z b o (Az.lt_size q) q) (tj _) ?_,U,q _ I.fresh⟩;calc⟨⟨m,x⟩,?_,λL J ⟨t,y⟩ k=>⟨t,y.stay k⟩⟩;let(o,_,_,_,g,_):=x;calc⟨o,g⟩
theorem lg{w:zJ}(n:X.w=w)(B:X.calm=Ki):cw X (.builtin "sorted") (λus H Q=>∃(a:Ak)(zs L:La Int),us=[.ref a]/\H a=Kg (yC w a zs)/\L.length<64/\(∀k∈zs,k∈L) /\
  ∀(D:Ak)(d:La Int),H D=Kh->d.Pairwise (· < ·)->(∀k,k∈d↔k∈zs)->Q (.ref D) (upd H D<|.lst<|d.map V.int)):=by
 subst n;intro Kl s σ H us O Q I r h;let(a,zs,L,rfl,e,R,p,q):=h;let(u,rfl,l):=r.one;obtain rfl:u=zz.ref a:=l;let((m,x),_,_):=I.hok a _ e;let y:m<64:=by
  let(o,es,S,t,_,_,_,i,_,_,_,_,v):=id x;let:=jv (L:=L) i.nd λk A=>p k<|(i.mem k).mpr A
  rw[dn,x4,v]at this;lia
 refine sR (I.ok.hd B) x y λd us P D c N M K j J G F E T=>?_
 let C:H D=none:=I.hok.fresh j;refine⟨.ref D,upd H D<|.lst<|d.map V.int,I.grow J F E (λb g=>by rw[aq (tN<|tP g j)]) (λb u g f=>?_),U,q D d C M K⟩;by_cases z:b=D
 .subst z;rw[ae]at f;cases f;exact⟨by rw[dn,G7];lia,us,c,N,G⟩
 .rw[aq z,I.hok.fresh g]at f;cases f
def ltA{c n:Nat}(h:c<n)(k:Nat):c≠n+k:=tN<|tP h<|vT _ _
def iA(xs ys:La V)(a:La Ak)(b:Ak):Option HO :=
 match a.idxOf? b with
 |some j=>match xs[j]?,ys[j]? with
  |some x,Kg y=>Kg<|.tup [x,y]
  |_,_=>Kh
 |none=>Kh
def Ite(K:W.Frag)(a:Ak):It :=
 ⟨λi H=>∃b x,SqL K H a b/\b[i]?=Kg x,
 λi H v H'=>∃T,H T=Kh/\v=.ref T/\∀b x,SqL K H a b->b[i]?=Kg x->H'=upd H T (.tup [.int i,x]),
 λi H=>∃b,SqL K H a b/\b.length<=i⟩
def xb(e it a:Ak)(i:Nat)(h:Az):Prop:=(∃b,IsEnum h e it i b)/\h.IsListIter it a i
theorem vp{P:zM}{w:zJ}{K:W.Frag}{m:La D0} {x1} {tp:Pos}{e it a:Ak}(l:e≠it) :
  Turn P w K (.Tuple m x1 tp) (Ite K a) [e,it] e (xb e it a) where
 mem:=by simp
 obj:=λi h st c b=>by
  let((d,j),(Y,f,_,d2)):=st;simp only[dt,jc,or_false]at b;rcases b with rfl|rfl
  .exact⟨_,j,λv q=>nomatch q⟩
  .exact⟨_,f,λv q=>by rw[d2]at q;cases q⟩
 keep:=λi h h' st k=>by
  let((d,j),f):=st;exact⟨⟨d,k e (by simp) _ j⟩,f.at λo q=>k it (by simp) o q⟩
 item:=by
  intro X B z C b i Kl s σ H E I p st A;subst B z C;let(Q,x,n,N):=A;let((d,j),f):=st;let(R,r,t,_):=I.list n;let(u,eu,S):=r.get N;refine wpAny_pyNext_enum_item j f t.isList (x:=u) (~~~eu) l λh1 a1 a2 a3 a4 a5=>?_
  calc⟨_,U,wpAny_letOwnedTupleGo_enum (s:={ s with heap:=h1,toks:=s.toks+1 }) a1 λD b1 F=>?_⟩;let Z:s.heap.get? s.heap.objs.size=none:=by
   cases q:s.heap.get? s.heap.objs.size with
   |none=>rfl
   |some o=>exact Kp (Az.lt_size q) (va _)
  let M:H s.heap.objs.size=none:=I.hok.fresh<|tj _;let L:s.heap.objs.size≠e:=tR<|Az.lt_size j;let kk:∀c o,c ∉ [e,it]->s.heap.get? c=Kg o->D.get? c=Kg o:=λc o b q=>by
   simp only[dt,jc,or_false,not_or]at b;exact F.extBut _ _ b.1<|a5 c o b.1 b.2 q
  let J:=I.turnedPair (h':=D) (ch:=[e,it]) (T:=s.heap.objs.size) (x:=.int i) (y:=x) (u:=.int i s.toks) (v:=u) (λc b=>p c (by simp at b⊢;rcases b with q|q <;> simp[q])) kk Z M (F.extBut _ _ L a3) ⟨_,U⟩ S;refine⟨.ref s.heap.objs.size,upd H s.heap.objs.size<|.tup [.int i,x],J.tok _,U,⟨_,M,U,λa0 x' V O=>?_⟩,⟨⟨_,b1⟩,a2.extBut F.extBut l.symm⟩,λc b=>?_⟩
  .rw[I.list_inj V n,N]at O;cases O;rfl
  .let h0:=(p c b).1;let:c≠s.heap.objs.size:=by
    let(Y,G,_):=f;simp only[dt,jc,or_false]at b;rcases b with rfl|rfl
    .exact L.symm
    .exact tN<|Az.lt_size G
   rw[aq this];exact h0
 done:=by
  intro X B z C b i Kl s σ H E I p st A;subst B z C;let(Q,n,hl):=A;let((d,j),f):=st;let(R,r,t,_):=I.list n;let l1:=r.length;refine wpAny_pyNext_enum_end (I.ok.hd b) j f t.isList (by simp;lia) λD k=>⟨U,I.turnedL (ch:=[e,it]) (λc b=>p c (by simp at b⊢;rcases b with q|q <;> simp[q])) λc o b q=>?_⟩
  simp only[dt,jc,or_false,not_or]at b;exact k c o b.2 q
 self:=λ_ _ _ _ _ st h=>let ⟨⟨_,g⟩,_⟩:=st;JK g h
inductive xf(K:W.Frag)(R:It->Hp->Prop)(vs:La V)(H1:Hp):Prop
 |mk (a:_)(_:vs=[.ref a])(_:(∃xs,SqL K H1 a xs))(_:R (Ite K a) H1)
def Cf(K:W.Frag)(ta:TA):TI:=λσ H R=>ta σ H λa b=>xf K R a b
theorem yD{f:D0}{ta:TA}{p pos:Pos}{e:La D0} {x1} {tp:Pos}(x:Gl X "enumerate") (hm:X.mg "enumerate" = Kh) (y:PA X [f] ta)
  (w:E2 [f] X.env=[(Kj,eval f X.env)]:=by rfl) :
  PI X (.Tuple e x1 tp) (.Call (.Name "enumerate" p) [f] [] pos) (Cf X.K ta):=by
 intro Kl s σ H R I h;refine Call_ (fg I x hm PyProof.Rows.boot_enumerate<|PyProof.Rows.callWith_type1 (thn (y pos Kl s σ H _ I h) λm b ⟨C,z,g,o,t⟩=>?_) (by rw[w];rfl) U);let(a,rfl,(B,r),q):=t;let(u,rfl,n):=o.one;cases (show u=zz.ref a from n);let(m,_,v,_):=g.list r;refine call_enumerate_list v.isList λh' i l A k=>?_
 calc JK (s:={ b with heap:=h' }) i ?_;calc⟨b.heap.objs.size+1,[b.heap.objs.size+1,b.heap.objs.size],xb (b.heap.objs.size+1) b.heap.objs.size a,Ite X.K a,z,U,g.kept (t':=b.toks) k,vp<|tR<|vr _,⟨⟨_,i⟩,l⟩,λc j=>?_,q⟩;let d:b.heap.objs.size<=c:=by
  simp only[dt,jc,or_false]at j;rcases j with rfl|rfl
  .exact uM _
  .exact tj _
 calc g.fpOk d<|g.hok.fresh d
section
variable{k:Nat}
theorem sS{K:W.Frag}{a:Ak}{xs:La V}{σ:St}{f:Hp}{Q:VK}(c:Ak->Nat->La V->Hp->Prop)(u:∀D,f D=Kh->c D 0 [] (upd f D<|.lst []))
  (s:∀D i ys H,f D=Kh->i<=xs.length->c D i ys H->SqL K H a xs)
  (r:∀D i x ys H T,f D=Kh->xs[i]?=Kg x->c D i ys H->H T=Kh->∀n:St,n.length=k->gt (.ref T) (dX σ fr n) (upd H T<|.tup [.int i,x]) λd H2=>(∃g:St,g.length=k/\d=dX σ fr g)/\tt d H2 λb o=>if b=Ki then te d o (b7 c D i xs.length)else eX c D i xs.length o)
  (hd:∀D ys H,f D=Kh->c D xs.length ys H->Q (.ref D) H):ko (Ite K a) gt k fr tt te σ Q f:=by
 intro D h;calc⟨λi m H=>m=xs.length-i/\i<=xs.length/\∃ys,c D i ys H,⟨_,U,tS _,[],u D h⟩,?_⟩;rintro i m H ⟨rfl,hi,ys,p⟩;let q:=s D i ys H h hi p;by_cases l:i<xs.length
 .let j:xs[i]?=Kg xs[i]:=GC l;calc .inr ⟨⟨xs,xs[i],q,j⟩,λx H' y=>?_⟩;let(T,t,rfl,e):=y;rw[e xs _ q j];exact r D i _ ys _ T h j p t
 .let e:i=xs.length:=∅
  subst e;calc .inl ⟨⟨xs,q,tj _⟩,hd D ys H h p⟩
end
theorem lJ{X:Cx}{N:La Str}{k:Nat}{fr:La Nat}{scope:Cr}{cl:La (Str×Ak)}(b:HQ scope X.env=pure cl)(kind:scope.kind=.function)(a:∀y∈scope.names,y.2≠.cell)
  (names:∀y∈scope.names,y.2=.local->scope.names.lookup y.1=Kg .local)(len:N.length=k+fr.length)
  (sub:((List.range fr.length).all λi=>match N[k+i]?,fr[i]? with|some y,Kg j=>(X.N[j]? == Kg y) && ((X.env.kindOf y == Kg .cell) && ((relabel scope X.env).names.lookup y == Kg .cell))|_,_=>Kj)=Ki)
  (cells:∀p∈cl,X.env.cells.lookup p.1=Kg p.2)(has:((relabel scope X.env).names.all λp=>(p.2 != .cell && p.2 != .free) || (cl.lookup p.1).isSome)=Ki):mr X N k fr scope cl:=by
 refine⟨b,kind,a,names,len,λi y e=>?_,λy c e=>cells _<|mem_of_lookup e,λy h=>?_⟩
 .let hi:i<fr.length:=by have:=(GD.mp e).1;lia
  let z:=iv.mp sub i<|hC.mpr hi;rw[e,GC hi]at z;simp only[yq,beq_iff_eq]at z;exact⟨_,GC hi,z.1,.inl z.2.1,.inl z.2.2⟩
 .let look:∀k,(relabel scope X.env).names.lookup y=Kg k->(k=.cell\/k=.free)->∃c,cl.lookup y=Kg c:=λk e d=>by
   let z:=iv.mp has _<|mem_of_lookup e;rcases d with rfl|rfl
   .exact yM.mp<|~~~z
   .exact yM.mp<|~~~z
  rcases h with h|h
  .exact look _ h<|.inl U
  .exact look _ h<|.inr U
theorem oF{K:W.Frag}(e:X.K=K){a:D0}{ta:TE}(d:PE X a ta)(c:∀b,EX a X.env b=(do let v ←b;Gf a.pos;holding [v] (truthy v)):=by intro _;rfl) :
  PT X a (λσ H Q=>ta σ H λx H'=>∃k,Ar K x H' k/\Q k H'):=e ▸ dR d c
section
variable{k:Nat}
theorem qI{x:TI}{i:Nat}{y:Str}{c B:Pos}(hN:X.N.Nodup)(E:X.N[i]?=Kg y)(R:Loc X.env.scope y)(hi:PI X tg iter x)(O:mr X N k fr scope cl)(Y:X.calm=Ki)(S:∀d C s H,PG (bN X N scope cl d C s H) tg gt)
  (F:∀d C s H,PIf (bN X N scope cl d C s H) ifs tt)(W:∀d C s H,PE (bN X N scope cl d C s H) elt te)(G:∀v,G1 iter X.env v=pure v:=by intro _;rfl)
  (n:GJ (.ListComp elt [⟨tg,iter,ifs,0⟩] scope pos) (Kg<|.Name y c) B.line X.env=pure true:=by rfl)(V:X.fn y=Ki\/X.env.scope.names.lookup y=Kg .local:=by first|exact .inl U|exact .inr U|assumption) :
  PS X (.Assign [.Name y c] (.ListComp elt [⟨tg,iter,ifs,0⟩] scope pos) B) (yi (wI x gt k fr tt te)<|nV i):=by
 intro Kl s σ H j I h;rw[Ie _ _ _ _ n];calc zo<|GO<|zo ?_;show DO _ X.A (do let _ ←comprehension (.ListComp elt [⟨tg,iter,ifs,0⟩] scope pos) scope X.env _ (HU []) Kj (eval iter X.env) (Kg<|assign (.Name y c) X.env)) _ _ s;calc zo<|F9 (Ib (use:=Kg<|assign (.Name y c) X.env) (Q:=λ_ b=>SP X Kl j .next b) U G O.clos O.kind O.names<|thn (hi Kl s σ H _ I h) λv s1 h1=>thn h1 λa0 s2 h2=>?_) (λ_ b K=>zp<|zp K) λ_ _ z=>z;let(it,d,tn,J,H2,e,f,T,l,f2,hW):=h2;subst e;refine mx (Q:=λv H1=>nV i v σ H1 j.nx) (RR:=λu C=>Ic (model X.prog X.w) X.A X.xe (Kg<|assign (.Name y c) X.env) (λ_ b=>SP X Kl j .next b) u C) O Y f T l f2 F W S hW λD C b H' g M ⟨m,P⟩ I' q=>?_
 show DO _ X.A (assign (.Name y c) X.env<|.ref D) _ _ b;calc GN<|kK I' hN E R (v:=.ref D) U (λs3 I3 ⟨a,p,Z⟩=>?_) V;let t:C≠a:=by
  rcases Z with z|z
  .rw[z];exact tR<|tP f.lt g
  .let(v,o,L,_):=f.cell y a z;exact tR<|tP (Az.lt_size L) g
 calc⟨m,P.sameBut p t,λh' r=>⟨_,H',f.left I3 g M r,q⟩⟩
end
set_option maxRecDepth 100000
theorem pC:Iv (.type "list") "keys" = pure none:=by rw[Ja,Jb];kernel_rfl
theorem vq{a:Ak}{items:Array zz}{Q:Option zz->Cg->Prop}(x:s.heap.IsList a items)(l:∀o,s.heap.get? a=Kg o->o.dict=Kh)(y:A.handled=Kh)
  (h:∀h' m,(∀b o,s.heap.get? b=Kg o->h'.get? b=Kg o)->Q Kh { s with heap:=h',toks:=m }) :
  DO (model prog w) A (Ir (.ref a) "keys") Q E s:=by
 let(o,j,p,k,r):=x;let n:=l o j;let(c,z,B,t):=o;simp only at p r n;subst p r n;let(v,g,d,m,u):=s;let q:∀f,(⟨v,g,d,f,u⟩:Cg).TypeIs (.ref a) "list" := λ_=>⟨_,j,U⟩
 let K:=JL;let J:=F.slot_list_getattribute.lookup;let I:=F.slot_list_getattribute.bind<|.ref a;let H:=am_list_getattr_none;unfold Ir getAttrBy? getAttrBy
 repeat (any_goals (first|assumption|exact q _|((with_reducible show DO _ _ (call (zz.builtin "list.__getattribute__") _ _) _ _ _);refine HL F.slot_list_getattribute (q _) am_entry_list_getattribute (F.args_list_getattribute_2 _ _) (meets_getattribute_miss_list a _ k t "keys" _ pC ⋯ ⋯) ⟨j,y,λh' f e i=>?_⟩)|wp_step))
 let(D,C,G):=i.there;show DO _ _ (JM _ _ _ _ _ _ _) _ _ _;unfold JM
 repeat (any_goals (first|assumption|wp_step))
 calc h _ _ i.of.keeps
theorem br:plainId "dict.update.loop" = true:= ~~~0
theorem cX:Jd table "dict.update.loop" = Kg G0.«dict.update.loop»:=Je (by kernel_rfl)
theorem lh{m:Type} [DecidableEq m] {knd:KeyKind prog w m}{d I ax:Ak}{items:Array zz}{ps:La (m×zz)}{res:zz}(hh:A.handled=Kh)(hI:I≠ax)(h:d≠I)(K:d≠ax)(a1:ps.length=items.size) :
  ∀(k i:Nat)(s:Cg)(kvs:La (m×zz))(B:Tok)(R:Hm->Cg->Prop),items.size-i=k->i<=items.size->s.heap.IsListIter I ax i->s.heap.IsList ax items->s.heap.DictOf knd d kvs ->
   (∀(j:Nat)(p:m×zz),ps[j]?=Kg p->∃(t:Ak)(o:Obj)(n:Nat)(a:zz),items[j]?=Kg (.ref t)/\s.heap.get? t=Kg o/\o.cls=.type "tuple" /\ o.data=.seq #[a,p.2] n/\knd.is p.1 a=Ki/\t≠I/\t≠d) ->
   kvs.length+k<=AA ->
   (∀h' z,h'.DictOf knd d (merged kvs<|ps.drop i)->(∀b o,b≠I->b≠d->s.heap.get? b=Kg o->h'.get? b=Kg o)->R (.ok<|.ret res) { s with heap:=h',toks:=z }) ->
   Hn (model prog w) A (.builtin "dict.update.loop" ⟨[.ref d,.ref I,.int (i:Int) B,res],[]⟩) R s:=by
 intro k;induction k with
 |zero =>
  intro i s kvs B R Z hi g y D E H F;let J:i=items.size:=∅
  calc Im cX ?_;rw[Cd.under_plainId br _];unfold G0.«dict.update.loop»;show DO _ A.in1 (GR (.ref I) >>= _) _ _ s;refine zo (GX (by simp[hh]) g y (by simp[J]) λh' r=>?_);show DO _ A.in1 (G0.Dict.addKeywords d [] >>= _) _ _ _;calc zo<|zp<|zp ?_;let e:ps.drop i=[]:=List.drop_of_length_le ∅;refine F h' _ ?_ λb o hb _ e=>r b o hb e
  rw[e];exact D.extBut r h
 |succ k Y =>
  intro i s kvs B R Z hi g y D E H F;let a2:i<items.size:=∅
  let ep:=GC (l:=ps) (i:=i) ∅;let(t,o,n,a,e1,e2,e3,e4,e5,e6,e7):=E i _ ep;calc Im cX ?_;rw[Cd.under_plainId br _];unfold G0.«dict.update.loop»;show DO _ A.in1 (GR (.ref I) >>= _) _ _ s;calc zo<|GW g y e1 λh' DT f=>?_;let u:h'.get? t=Kg o:=(f.2 t e6).trans e2;calc zo<|zq ?_;calc zo<|JN ?_;unfold G0.Dict.pairItems;calc zo<|Jy (T := "tuple") ⟨o,u,e3⟩ ?_;rw[Ko ⋯];calc zo<|Js u e4<|zp ?_;show DO _ _ (holding [a,(ps[i]).2] (dictSet d a (ps[i]).2)) _ _ _;calc zq ?_;let N:h'.DictOf knd d kvs:=D.extBut f.extBut h;calc JO e5 N (λS M q=>?_) ∅;let C:∀b c,b≠I->b≠d->s.heap.get? b=Kg c->S.get? b=Kg c:=λb c x v e=>(q.2 b v).trans<|(f.2 b x).trans e
  let a0:(stored kvs (ps[i]).1 (ps[i]).2).length<=kvs.length+1:=by
   unfold stored;split
   .rw[dn];lia
   .rw[gp];simp
  let O:ps.drop i=ps[i] :: ps.drop (i+1):=List.drop_eq_getElem_cons ∅;calc zp ⟨IL br _,?_⟩;let go:=Y (i+1) { s with heap:=S,toks:=s.toks+1 } (stored kvs (ps[i]).1 (ps[i]).2) 0 R ∅ ∅ (DT.at λc e=>(q.2 I h.symm).trans e) (y.at λc e=>C ax c hI.symm K.symm e) M (λj p ej=>?_) ∅ (λh3 z L G=>?_)
  .exact go
  .let(P,Q,X,DU,f1,f2,f3,f4,f5,W,V):=E j p ej;exact⟨P,Q,X,DU,f1,C P Q W V f2,f3,f4,f5,W,V⟩
  .refine F h3 z ?_ λb c x v e=>G b c x v<|C b c x v e
   rw[O];calc L
theorem lQ{u:Type} [DecidableEq u] {knd:KeyKind prog w u}{ax:Ak}{items:Array zz}{ps:La (u×zz)}{Q:zz->Cg->Prop}(O:A.handled=Kh)(x:s.heap.IsList ax items)(K:∀o,s.heap.get? ax=Kg o->o.dict=Kh)(H:ps.length=items.size)(hsz:items.size<=AA)(J:(ps.map (·.1)).Nodup)
  (V:∀(j:Nat)(p:u×zz),ps[j]?=Kg p->∃(t:Ak)(o:Obj)(n:Nat)(c:zz),items[j]?=Kg (.ref t)/\s.heap.get? t=Kg o/\o.cls=.type "tuple" /\ o.data=.seq #[c,p.2] n/\knd.is p.1 c=Ki)
  (W:∀h' y,h'.DictOf knd s.heap.objs.size ps->(∀b o,s.heap.get? b=Kg o->h'.get? b=Kg o)->Q (.ref s.heap.objs.size) { s with heap:=h',toks:=y }) :
  DO (model prog w) A (call (.type "dict") [.ref ax]) Q E s:=by
 calc JP (Q₁:=λobj f=>obj=.ref s.heap.objs.size/\f={ s with heap:=s.heap.push { cls:=.type "dict",data:=.dict #[] } }) F.kt_called_dict (F.kt_typeCall_dict_1 _) F.entry_dict_init (JQ _ ⟨U,U⟩) ?_;rintro obj f ⟨rfl,rfl⟩;let z:(s.heap.push { cls:=.type "dict",data:=.dict #[] }).DictOf knd s.heap.objs.size []:=Az.DictOf.new s.heap;let C:∀b o,s.heap.get? b=Kg o->(s.heap.push { cls:=.type "dict",data:=.dict #[] }).get? b=Kg o:=λb o e=>Az.get?_push_of_some _ e
 let l:=x.at λo e=>C ax o e
 calc⟨z.typeIs,F.args_dict_init_2 _ _,?_⟩;unfold G0.«dict.__init__»;calc zo ?_;unfold G0.Dict.selfAndRest;calc zo<|JR z.typeIs ?_;show DO _ _ (pure (s.heap.objs.size,[zz.ref ax])) _ _ _;calc zp ?_;show DO _ _ (G0.Dict.updateFrom "dict.__init__" s.heap.objs.size (.ref ax) [] .none) _ _ _;unfold G0.Dict.updateFrom;calc zo<|Jy l.typeIs ?_;rw[Ko ⋯];let i:ax<s.heap.objs.size:=by let(o,e,_):=id x;exact Az.lt_size e
 let DV:∀o,(s.heap.push { cls:=.type "dict",data:=.dict #[] }).get? ax=Kg o->o.dict=none:=λo e=>by
  let(M,S,_):=id x;let e2:=C ax M S;rw[e2]at e;let e3:=Option.some.inj e;rw[←e3];exact K M S
 refine zo (vq (s:={ s with heap:=s.heap.push { cls:=.type "dict",data:=.dict #[] } }) l DV (by simp[O]) λa h N=>?_);rw[Ko (by rfl)];calc zo<|Iz ?_;let g:∀b o,s.heap.get? b=Kg o->a.get? b=Kg o:=λb o e=>N b o<|C b o e
 let k:a.IsList ax items:=x.at λo e=>g ax o e
 calc zo<|GZ (s:={ s with heap:=a,toks:=h }) k ?_;let B:∀b o,a.get? b=Kg o->(a.push { cls:=.type "list_iterator",data:=.fields #[.ref ax,.int 0 0] }).get? b=Kg o:=λb o e=>Az.get?_push_of_some _ e
 let eI:(a.push { cls:=.type "list_iterator",data:=.fields #[.ref ax,.int 0 0] }).get? a.objs.size=Kg { cls:=.type "list_iterator",data:=.fields #[.ref ax,.int 0 0] }:=Az.get?_push_size _ U;let m:a.DictOf knd s.heap.objs.size []:=by
  let(o,es,R,D,r):=z;exact⟨o,es,R,N _ _ D,r⟩
 let L:(a.push { cls:=.type "list_iterator",data:=.fields #[.ref ax,.int 0 0] }).DictOf knd s.heap.objs.size []:=m.push _;let v:s.heap.objs.size<a.objs.size:=by let(o,es,R,D,_):=m;exact Az.lt_size D
 let G:ax<a.objs.size:=uL i v;calc zp ⟨IL br _,?_⟩;refine lh (prog:=prog) (w:=w) (knd:=knd) (d:=s.heap.objs.size) (I:=a.objs.size) (ax:=ax) (items:=items) (ps:=ps) (res:=.none) (by simp[O]) (tR G) (tN v) (tR i) H items.size 0 { s with heap:=a.push { cls:=.type "list_iterator",data:=.fields #[.ref ax,.int 0 0] },toks:=h } [] 0 _ ∅ (tS _) ⟨_,eI,U,U⟩ (k.at λo e=>B ax o e) L (λj p ej=>?_) (~~~hsz) (λh' y q T=>?_)
 .let(t,o,n,c,f1,P,Z,Y,X):=V j p ej;let lt:=Az.lt_size P;exact⟨t,o,n,c,f1,B _ _<|g _ _ P,Z,Y,X,tN<|uL lt v,tN lt⟩
 .rw[List.drop_zero,JS ps J]at q;calc⟨U,W h' y q λb o e=>T b o (tN<|uL (Az.lt_size e) v) (tN<|Az.lt_size e)<|B _ _<|g _ _ e⟩
theorem lj{b a:Type}{R:b->a->Prop}:∀{xs:La b}{ys:La a},xs.length=ys.length->(∀(j:Nat)(x:b)(y:a),xs[j]?=Kg x->ys[j]?=Kg y->R x y)->Paired R xs ys
 | [],[],_,_=>.nil
 |x :: xs,y :: ys,hl,h=>.cons (h 0 x y U U)<|lj (~~~hl) λj d c e f=>h (j+1) d c (~~~e)<|~~~f
 | [],_ :: _,hl,_=>by simp at hl
 |_ :: _,[],hl,_=>by simp at hl
theorem lV{c:Type}{P:Nat->c->Prop}:∀n:Nat,(∀j,j<n->∃a,P j a)->∃l:La c,l.length=n/\∀(j:Nat)(a:c),l[j]?=Kg a->P j a
 |0,_=>⟨[],U,λj a e=>by simp at e⟩
 |n+1,h=>by
  let(l,d,g):=lV n λj f=>h j ∅
  let(a,i):=h n ∅;refine⟨l++[a],by simp[d],λj b e=>?_⟩;by_cases f:j<l.length
  .rw[hY f]at e;exact g j b e
  .let:j=n:=by have:=(GD.mp e).1;simp at this;lia
   subst this;rw[iJ ∅,d,v3]at e;cases e;calc i
def kvT(kvs:La (Str×V)):La (Key×V):=kvs.map λp=>(Sum.inr p.1,p.2)
theorem pD{kvs:La (Str×V)}{j:Nat}{x:Key×V}(e:(kvT kvs)[j]?=Kg x):∃p,kvs[j]?=Kg p/\x=(Sum.inr p.1,p.2):=by
 unfold kvT at e;rw[dy]at e;cases q:kvs[j]? with
 |none=>rw[q]at e;cases e
 |some p=>rw[q]at e;cases e;calc⟨p,U,U⟩
theorem uf:∀{kvs:La (Str×V)}{vs:La (Key×zz)}{k:Str}{v:V},KV (kvT kvs) vs->kvs.lookup k=Kg v->∃u,JT vs (Sum.inr k:Key)=Kg u/\RelV v u
 | [],_,_,_,_,e=>by cases e
 |(k0,v0) :: kvs,vs,k,v,r,e=>by
  unfold KV at r;cases r with
  | @cons p q ps qs h t =>
   let(a,f):=h;let a:(Sum.inr k0:Key)=q.1:=a;by_cases b:k=k0
   .subst b;rw[lL,beq_self_eq_true]at e;cases e;calc⟨q.2,?_,f⟩;unfold JT;rw[List.find?_cons_of_pos (by simp[a])];rfl
   .let e:kvs.lookup k=Kg v:=by
     rw[lL,beq_eq_false_iff_ne.mpr b]at e;exact e
    let(u,d,g):=uf (vs:=qs) t e;calc⟨u,?_,g⟩;let c:¬ (q.1=(Sum.inr k:Key)):=λz=>b (by rw[←a]at z;injection z with z;exact z.symm)
    unfold JT at d⊢;rw[List.find?_cons_of_neg (~~~c)];calc d
theorem ug{Kl:La (Ak×Obj)}{σ:St}{H:Hp}{s:Cg}(I:Inv X Kl σ H s):(s.heap.objs.size == AY)=false:=by
 let h:B7<s.heap.objs.size:=(I.mod.glob.keeps I.bk).lt;let a:AY<s.heap.objs.size:=uL ⋯ h;calc beq_eq_false_iff_ne.mpr<|tR a
theorem jH(G:X.calm=Ki):cw X (.type "dict") (λxs H Q=>∃(l:Ak)(us:La V)(kvs:La (Str×V)),xs=[.ref l]/\H l=Kg (.lst us)/\us.length=kvs.length/\(∀(j:Nat)(p:Str×V),kvs[j]?=Kg p->∃t:Ak,us[j]?=Kg (.ref t)/\H t=Kg (.tup [.str p.1,p.2]))/\(kvs.map (·.1)).Nodup/\∀p,H p=Kh->Q (.ref p) (upd H p<|.dK<|kvT kvs)):=by
 intro Kl s σ H xs a0 Q I r h;let(l,us,kvs,rfl,el,M,ht,v,q):=h;let(u,rfl,W):=vals1 r;cases W;let(i,n,K,O,L):=I.lst el;let A:=K.length;let(ps,k,g):=lV (P:=λj (a:Key×zz)=>∃(p:Str×V)(t:Ak)(o:Obj)(m:Nat)(c:zz),kvs[j]?=Kg p/\a.1=Sum.inr p.1/\i[j]?=Kg (.ref t)/\RelV p.2 a.2/\s.heap.get? t=Kg o/\o.cls=.type "tuple" /\ o.data=.seq #[c,a.2] m/\RelV (.str p.1) c) kvs.length λj hj=>by
  let N:=GC hj;let(t,f,d):=ht j _ N;let(R,D,C):=K.get f;cases (show R=zz.ref t from C);let(_,B,F,o,ho,hc,m,hd):=I.hok t _ d;let(c,rest,rfl,Z,Y):∃c rest,B=c :: rest/\RelV (.str kvs[j].1) c/\Vals [kvs[j].2] rest:=by
   cases F with
   |cons a b=>exact⟨_,_,U,a,b⟩
  let(S,rfl,E):=vals1 Y;exact⟨(Sum.inr kvs[j].1,S),kvs[j],t,o,m,c,N,U,D,E,ho,hc,~~~hd,Z⟩
 let mL:ps.map (·.1)=kvs.map λp=>(Sum.inr p.1:Key):=by
  refine pk λj=>?_
  rw[dy,dy];cases e:ps[j]? with
  |none =>
   let:kvs[j]?=none:=by rw[List.getElem?_eq_none_iff]at e⊢;lia
   rw[this];rfl
  |some a =>
   let(p,t,o,m,c,f,d,_):=g j a e;rw[f];show Kg a.1=Kg (Sum.inr p.1);rw[d]
 refine lQ (knd:=bp X.prog X.w) (items:=i.toArray) (ps:=ps) (I.ok.hd G) ⟨_,O,U,n,U⟩ (λo e=>by rw[O]at e;cases e;rfl) (by rw[dA,k,←M,A]) (by rw[dA,←A];exact L) ?_ (λj a ea=>?_) λh' T hd kp=>?_
 .rw[mL,show(kvs.map λp=>(Sum.inr p.1:Key))=(kvs.map (·.1)).map λz=>(Sum.inr z:Key) by rw[pa];rfl];rw[nk]at v⊢;rw[nr];exact v.imp λ{a b} J z=>J (by injection z)
 .let(p,t,o,m,c,f,d,D,C,e5,e6,e7,e8):=g j a ea;calc⟨t,o,m,c,~~~D,e5,e6,e7,?_⟩;rw[d];let(tt,rfl):=(show ∃tt,c=zz.str p.1 tt from e8);exact fF X.prog X.w p.1 tt
 .refine⟨.ref s.heap.objs.size,_,I.laid (h':=h') (t':=T) (o:=.dK<|kvT kvs) kp (tj _) ⟨by unfold kvT;rw[dn,←M];exact L,ug I,ps,lj (by unfold kvT;rw[dn,k]) λj x y ex ey=>?_,hd⟩,U,q _<|I.hok.fresh<|tj _⟩;let(p,ep,rfl):=pD ex;let(p',t,o,m,c,f,d,D,C,_):=g j y ey;rw[ep]at f;cases f;calc⟨d.symm,C⟩
inductive Ci  (x:V)(y:V)(H:Hp)(Q:VK):Prop
 |mk (a:Ak)(kvs:La (Str×V))(k:Str)(v:V)(_:x=.ref a)(_:y=.str k)(_:H a=Kg (.dK<|kvT kvs))(_:kvs.lookup k=Kg v)(_:Q v H):Ci x y H Q
theorem yE:IxR X Ci:=by
 intro value e Kl s σ H x y v u Q I i g h j;let(a,d,k,z,rfl,rfl,n,m,q):=h;cases i;let(t,rfl):=g;let(_,_,p,c,f):=(show bQ X.prog X.w H s.heap a (.dK<|kvT d)from I.hok a _ n);let(o,l,b):=uf c m;calc PyProof.Rows.tail_any f.mapOf.typeIs JU.lookup (JV (fF X.prog X.w k t) f.mapOf l ⟨z,H,I.tok _,b,q⟩) j
theorem AQ{a:D0}{ta:TE}{c:Str}{k:Nat}{l e pos:Pos}(p:PE X a ta):PE X (.JoinedStr [.Constant (.str c) k e,.FormattedValue a 114 Kh l] pos) (λσ H Q=>c.length<=1000/\tFr c ta σ H Q):=by
 intro Kl s σ H Q I h;let b:∀n,n<=20000->n<=AA:=λn m=>tT m ⋯
 let d:∀y:Str,(Str.empty++y).length=y.length:=λy=>by rw[len_app];show 0+_=_;lia
 let(D,h):=h;calc IB<|IC ?_;refine thn (aS (X:=X) (x:=c) (j:=k) (pos:=e) Kl s σ H (λv H'=>v=.str c/\H'=H) I ⟨U,U⟩) λv f ⟨y,H2,A,g,w,u⟩=>?_
 subst w u;let(F,rfl):=g;refine⟨_,_,U,b _ (by rw[d];lia),IC<|ID<|thn (p Kl f σ H2 _ A h) λv J ⟨x,C,B,i,z,r,K,o,M,q⟩=>?_⟩;subst r;let(t,rfl):=i;let L:=StrLaws.reprText_len z o;calc IF (formatField_str (λG E=>?_)<|b _ ∅)<|b _ ∅;refine⟨_,_,U,b _ (by rw[len_app,d];lia),IE ⟨b _ (by rw[len_app,d];lia),?_⟩⟩;calc⟨.str _,C,B.tok _,⟨_,U⟩,q _⟩
def mM{X:Cx}{K:W.Frag}(h:X.K=K):OpR X (G4 .In) (rIn K Kj):=h ▸ og
theorem AR{a:D0}{ta:TE}{c e:Str}{k r:Nat}{C p o pos:Pos}(F:PE X a ta):PE X (.JoinedStr [.Constant (.str c) k p,.FormattedValue a 114 Kh C,.Constant (.str e) r o] pos) (λσ H Q=>c.length<=1000/\tFr e ta σ H Q):=by
 intro Kl s σ H Q I h;let b:∀n,n<=20000->n<=AA:=λn D=>tT D ⋯
 let d:∀y:Str,(Str.empty++y).length=y.length:=λy=>by rw[len_app];show 0+_=_;lia
 let(O,h):=h;calc IB<|IC ?_;refine thn (aS (X:=X) (x:=c) (j:=k) (pos:=p) Kl s σ H (λv H'=>v=.str c/\H'=H) I ⟨U,U⟩) λv u ⟨y,H2,L,A,i,g⟩=>?_
 subst i g;let(R,rfl):=A;refine⟨_,_,U,b _ (by rw[d];lia),IC<|ID<|thn (F Kl u σ H2 _ L h) λv m ⟨x,l,M,B,z,G,V,E,Y,q⟩=>?_⟩;subst G;let(t,rfl):=B;let W:=StrLaws.reprText_len z E;calc IF (formatField_str (λS f=>?_)<|b _ ∅)<|b _ ∅;refine⟨_,_,U,b _ (by rw[len_app,d];lia),IC ?_⟩;let J:Inv X Kl σ l { m with toks:=f }:=M.tok f;refine thn (aS (X:=X) (x:=e) (j:=r) (pos:=o) Kl { m with toks:=f } σ l (λv H'=>v=.str e/\H'=l) J ⟨U,U⟩) λv T ⟨y,N,K,w,i,g⟩=>?_
 subst i g;let(P,rfl):=w;refine⟨_,_,U,b _ (by rw[len_app,len_app,d];lia),IE ⟨b _ (by rw[len_app,len_app,d];lia),?_⟩⟩;calc⟨.str _,N,K.tok _,⟨_,U⟩,q _⟩
def xg{X:Cx}{K:W.Frag}{tg l:D0}{a:TE}(h:X.K=K)(b:PE X l a):PI X tg l (zw K a):=h ▸ aO b
structure DW(X:Cx)(N:La Str)(k:Nat)(fr:La Nat)(scope:Cr)(cl:La (Str×Ak)):Prop where
 clos:HQ scope X.env=pure cl
 kind:scope.kind=.function
 names:∀y∈scope.names,y.2=.local->scope.names.lookup y.1=Kg .local
 len:N.length=k+fr.length
 sub:∀(i:Nat)(y:Str),N[k+i]?=Kg y->∃j,fr[i]?=Kg j/\X.N[j]?=Kg y/\(X.env.kindOf y=Kg .cell\/X.env.kindOf y=Kg .free)/\((relabel scope X.env).names.lookup y=Kg .cell\/(relabel scope X.env).names.lookup y=Kg .free)/\∃c,cl.lookup y=Kg c/\∀C:Ak,(HE (C+1) scope.names cl).lookup y=Kg c
 cells:∀y c,cl.lookup y=Kg c->X.env.cells.lookup y=Kg c
 has:∀(C:Ak)(y:Str),((relabel scope X.env).names.lookup y=Kg .cell\/(relabel scope X.env).names.lookup y=Kg .free)->∃c,(HE (C+1) scope.names cl).lookup y=Kg c
section
variable{k:Nat}
end
section
variable{b₀:F3}{su:La F3}{tb:TSX}{ts:Ak->Ak->TS}{Tn:Str}{B:Ak}{uZ:Pos}
end
def AS(d:TT)(f e:TSX):TSX:=λD σ H c=>d σ H λb a=>if b=Ki then f D σ a c else e D σ a c
theorem sT{X:Cx}{c:D0}{k b:F3}{g:TT}{j i:TSX}{pos:Pos}(r:PT X.nox c g)(x:PSX X k j)(u:PSX X b i):PSX X (.If c [k] [b] pos) (AS g j i):=by
 intro Kl s σ H D e I h;calc wpAny_If<|F9 (r Kl s σ H _ (I.wish _) h) (λd l ⟨n,y,m⟩=>?_) λ_ _ z=>False.elim z;let a:∀{st:F3}{t:TSX},PSX X st t->t D σ n e->DO (model X.prog X.w) X.A (execs [st] X.env) (SP X Kl D) (XP X Kl σ e) l:=λ{st t} p o=>by
  calc GI<|F9 (p Kl l σ n D e y.unwish o) (λf b q=>?_) λ_ _ z=>z;cases f with
  |next=>exact GH q
  |ret v=>exact q
  |brk=>exact q
  |cont=>exact q
 cases d with
 |true=>exact a x m
 |false=>calc a u m
def eI(n:Int):zz->Bool
 | .int a _=>a == n
 |_=>Kj
def Itv(K:W.Frag)(a:Ak)(n:Nat):It :=
 ⟨λi H=>i<n/\∃b,SqL K H a b/\b.length=n,λi H x H'=>H'=H/\∀b,SqL K H a b->b[n-1-i]?=Kg x,λi _=>n<=i⟩
theorem xh{P:zM}{w:zJ}{K:W.Frag}{tg:D0}(a it:Ak)(n:Nat):Turn P w K tg (Itv K a n) [it] it (λi h=>i<=n/\h.IsRevIter it a ((n:Int)-1-(i:Int))) where
 mem:=by simp
 obj:=λi h st b g=>by
  let e:b=it:= ~~~g
  subst e;let(_,o,e,c,d):=st;exact⟨o,e,λv z=>by rw[d]at z;cases z⟩
 keep:=λi h h' st k=>⟨st.1,st.2.at λo e=>k it (by simp) o e⟩
 item:=by
  intro X r m t M i Kl s σ H E I l st q;subst r m t;let(hi,F,L,hn):=q;let(Y,G,p,hz):=I.list L;let hl:=G.length;let J:F[n-1-i]?=Kg (F[n-1-i]'∅):=GC ∅;let(u,R,O):=G.get J;let(D,C,S,B,A,y):=l it (by simp);let f:=st.2;rw[show(n:Int)-1-(i:Int)=((n-1-i:Nat):Int) by lia]at f;refine wpAny_pyNext_rev_item f p.isList (x:=u) (~~~R) λh' j N=>?_
  rw[show((n-1-i:Nat):Int)-1=(n:Int)-1-((i+1:Nat):Int) by lia]at j;let V:Inv X Kl σ H { s with heap:=h' }:=I.turned (t':=s.toks) (λb o g e=>(N.2 b g).trans e) D C B A y;let(o,e,c,d):=id j;exact⟨u,U,ql (s:={ s with heap:=h' }) e c d ⋯ ⟨_,H,V,O,⟨U,λZ Q=>by rw[I.list_inj Q L];exact J⟩,⟨hi,j⟩,λb g=>(l b g).1⟩⟩
 done:=by
  intro X r m t M i Kl s σ H E I l st q;subst r m t;let(D,C,S,B,A,y):=l it (by simp);let hi:i=n:=Nat.le_antisymm st.1 q;let f:=st.2;rw[show(n:Int)-1-(i:Int) = -1 by lia]at f;exact wpAny_pyNext_rev_end (I.ok.hd M) f λh' T=>⟨U,I.turned (t':=s.toks) (λb o g e=>T b o g e) D C B A y⟩
 self:=λ_ _ _ _ _ st h=>JW st.2 h
inductive zQ(K:W.Frag)(R:It->Hp->Prop)(vs:La V)(H1:Hp):Prop
 |mk (a:Ak)(xs:La V)(_:vs=[.ref a])(_:SqL K H1 a xs)(_:R (Itv K a xs.length) H1)
def DX(K:W.Frag)(ta:TA):TI:=λσ H R=>ta σ H λa b=>zQ K R a b
theorem AU{e:D0}{ta:TA}{p pos:Pos}(x:Gl X "reversed") (hm:X.mg "reversed" = Kh) (z:PA X [e] ta)(t:E2 [e] X.env=[(Kj,eval e X.env)]:=by rfl):PI X tg (.Call (.Name "reversed" p) [e] [] pos) (DX X.K ta):=by
 intro Kl s σ H R I h;calc Call_<|fg I x hm PyProof.Rows.boot_reversed<|PyProof.Rows.callWith_type1 (thn (z pos Kl s σ H _ I h) λC c ⟨B,j,i,m,n⟩=>?_) t U;let(a,g,rfl,v,q):=n;let(u,rfl,l):=vals1 m;cases (show u=zz.ref a from l);let(d,k,r,D):=i.list v;let w:=k.length;calc call_reversed_list r.isList ?_;let f:(c.heap.push<|revObj a<|(d.toArray.size:Int)-1).IsRevIter c.heap.objs.size a ((g.length:Int)-1):=by
  calc⟨_,Az.get?_push_size _ U,U,?_⟩;show Data.fields #[.ref a,GV ((d.toArray.size:Int)-1)]=_;rw[dA,←w]
 calc JW (s:={ c with heap:=c.heap.push (revObj a<|(d.toArray.size:Int)-1) }) f ?_;let A:Inv X Kl σ j { c with heap:=c.heap.push (revObj a<|(d.toArray.size:Int)-1) }:=i.kept (t':=c.toks) λb o e=>Az.get?_push_of_some _ e
 refine⟨c.heap.objs.size,[c.heap.objs.size],_,_,j,U,A,xh a _ g.length,⟨tS _,?_⟩,λb y=>?_,q⟩
 .rw[show(g.length:Int)-1-((0:Nat):Int)=(g.length:Int)-1 by lia];exact f
 .let e:b=c.heap.objs.size:= ~~~y
  subst e;calc i.fpOk (tj _)<|i.hok.fresh<|tj _
theorem yF{K:W.Frag}{a:Ak}{xs:La V}{g:TG}{tb:TS}{D:Ends}{σ:St}{H:Hp}(b:Nat->St->Hp->Prop)(o:b 0 σ H)(l:∀i σ H,i<=xs.length->b i σ H->SqL K H a xs)
  (k:∀i x σ H,i<xs.length->xs[xs.length-1-i]?=Kg x->b i σ H->g x σ H λc H2=>tb { D with nx:=b<|i+1,ct:=b<|i+1,bk:=D.nx } c H2)(n:∀σ H,b xs.length σ H->D.nx σ H) :
  ∃W:Nat->Nat->St->Hp->Prop,(∃m,W 0 m σ H)/\∀i m σ H,W i m σ H ->
   ((Itv K a xs.length).stop i H/\D.nx σ H)\/((Itv K a xs.length).go i H/\∃N:St->Hp->Prop,(∀d H',N d H'->∃h,h<m/\W (i+1) h d H')/\∀x H',(Itv K a xs.length).yld i H x H'->g x σ H' λc H2=>tb { D with nx:=N,ct:=N,bk:=D.nx } c H2):=by
 refine⟨λi m σ H=>m=xs.length-i/\i<=xs.length/\b i σ H,⟨xs.length,by simp,tS _,o⟩,?_⟩;rintro i m σ H ⟨rfl,hi,p⟩;let q:=l i σ H hi p;by_cases f:i<xs.length
 .refine .inr ⟨⟨f,xs,q,U⟩,b<|i+1,λd H' j=>⟨xs.length-(i+1),∅,U,f,j⟩,λx H' y=>?_⟩;let(e,y):=y;subst e;exact k i x σ _ f (y xs q) p
 .let e:i=xs.length:=∅
  subst e;calc .inl ⟨tj _,n σ H p⟩
section
variable(P:zM)(w:zJ)
end
variable{h:Az}{a:Ak}
section
variable{o:HO}
end
section
variable{x e:Ak}{o':HO}
end
section
variable{fs fs' ex ex':La Ak}{H1:Hp}{h1 h2:Az}{x e:Ak}{o:HO}
end
section
variable{σ:La (Option V)}
end
section
variable{a b:D0}{tb:TE}
variable{tA tB':TT}{rest:La D0}
end
section
variable{xs ys:La V}
end
section
variable{rest:La F3}{t u:TS}
end
section
variable{a b c:D0}{tb tc:TE}
end
section
variable{a b c:D0}{tb tc:TE}
end
variable{dx:Ak}
section
variable{x:Ak}{mA:Str->Option zz}{name:Str}{v:zz}
end
section
variable{fs fs':La (Str×V)}
end
section
variable{fs:La (Str×V)}{f:Str}{v:V}
end
section
variable{value:D0}{f:Str}{pos' BY:Pos}{tv:TE}
end
section
variable{Q:zz->Cg->Prop}{c:zz}{b:Bool}
end
section
variable{s':Cg}
end
section
variable{k:Nat}{dvs:La V}{ds:La zz}{E:XK}
end
section
variable{k:Nat}{ks:La Str}{E:XK}{DC:Pos}{kws:La HA}{tk:TA}{nm:Option Str}
variable{g:La zz->La zz->La zz}{gV:La V->La V->La V}
end
section
variable{id T:String}{r:La V->Hp->VK->Prop}
end
section
variable{κ:Type} [DecidableEq κ]
def bx(kvs:La (κ×V))(k:κ):Option V:=(kvs.find? λa=>decide<|a.1=k).map (·.2)
def putK(kvs:La (κ×V))(k:κ)(v:V):La (κ×V) :=
 if (kvs.any λa=>decide<|a.1=k)=Ki then kvs.map (λa=>if a.1=k then(a.1,v)else a)else kvs++[(k,v)]
def eM(kvs:La (κ×V))(k:κ):La (κ×V):=kvs.filter λa=>decide<|a.1≠k
theorem bW{p:κ×V}{r:La (κ×V)}{k:κ}(e:p.1=k):bx (p :: r) k=Kg p.2:=by simp[bx,ny,e]
theorem bX{p:κ×V}{r:La (κ×V)}{k:κ}(e:¬ p.1=k):bx (p :: r) k=bx r k:=by simp[bx,ny,e]
theorem iB(k:κ):∀kvs:La (κ×V),(kvs.any λa=>decide<|a.1=k)=(bx kvs k).isSome
 | []=>rfl
 |p :: r=>by
  rw[nj];by_cases e:p.1=k
  .simp only[bW e,Kq e,Bool.true_or,Option.isSome_some]
  .rw[bX e,Kr e,Bool.false_or];calc iB k r
theorem qJ(k j:κ)(y:V):∀kvs:La (κ×V),bx (kvs.map λa=>if a.1=k then(a.1,y)else a) j=(bx kvs j).map λx=>if j=k then y else x
 | []=>rfl
 |p :: r=>by
  let b:=qJ k j y r;rw[ik];by_cases h:p.1=k
  .rw[Ko h];by_cases e:p.1=j
   .rw[bW (p:=(p.1,y)) e,bW e,zb,Ko (e.symm.trans h)]
   .rw[bX (p:=(p.1,y)) e,bX e,b]
  .rw[Kn h];by_cases e:p.1=j
   .rw[bW (p:=p) e,bW e,zb,Kn (λz=>h<|e.trans z)]
   .rw[bX (p:=p) e,bX e,b]
theorem oG(k j:κ)(y:V):∀kvs:La (κ×V),bx kvs k=Kh->bx (kvs++[(k,y)]) j=if j=k then Kg y else bx kvs j
 | [],_=>by
  by_cases e:k=j
  .rw[Ko e.symm];exact bW (p:=(k,y)) e
  .rw[Kn (λz=>e z.symm)];exact bX (p:=(k,y)) e
 |p :: r,hn=>by
  rw[List.cons_append];let a:¬ p.1=k:=λz=>by rw[bW z]at hn;cases hn
  rw[bX a]at hn;let b:=oG k j y r hn;by_cases e:p.1=j
  .rw[bW e,bW e,Kn (λz=>a<|e.trans z)]
  .rw[bX e,bX e,b]
theorem fj(kvs:La (κ×V))(k j:κ)(y:V):bx (putK kvs k y) j=if j=k then Kg y else bx kvs j:=by
 unfold putK;by_cases a:(kvs.any λb=>decide<|b.1=k)=Ki
 .rw[Ko a,qJ];rw[iB]at a;by_cases e:j=k
  .let(x,c):=yM.mp a;rw[Ko e,e,c,zb,Ko U]
  .rw[Kn e];cases bx kvs j with
   |none=>rfl
   |some x=>rw[zb,Kn e]
 .rw[Kn a];calc oG k j y kvs ?_;rw[iB]at a;cases q:bx kvs k with
  |none=>rfl
  |some x=>rw[q]at a;calc(a U).elim
theorem eO(kvs:La (κ×V))(k:κ)(v:V):(putK kvs k v).length<=kvs.length+1:=by
 unfold putK;split
 .rw[dn];lia
 .rw[gp,hU,sG];lia
theorem xi{kvs:La (κ×V)}{k:κ}(v:V)(h:bx kvs k=Kh):putK kvs k v=kvs++[(k,v)]:=by
 unfold putK;rw[iB,h];calc Kn ⋯
theorem iq.isSome_eq{o:Option V}{u:Option zz}(r:iq o u):o.isSome=u.isSome:=by
 cases o with
 |none=>cases u with
  |none=>rfl
  |some _=>exact(show False from r).elim
 |some _=>cases u with
  |none=>exact(show False from r).elim
  |some _=>rfl
theorem KV.val{kvs:La (κ×V)}{vs:La (κ×zz)}(r:KV kvs vs)(k:κ):iq (bx kvs k) (JT vs k):=by
 unfold KV at r;induction r with
 |nil=>exact True.intro
 | @cons p q ps qs h t ih =>
  let(c,d):=h;by_cases e:p.1=k
  .let a:q.1=k:=c.symm.trans e;let b:JT (q :: qs) k=Kg q.2:=by simp[JT,ny,a]
   rw[bW e,b];exact d
  .let a:¬ q.1=k:=λz=>e<|c.trans z
   let b:JT (q :: qs) k=JT qs k:=by simp[JT,ny,a]
   rw[bX e,b];calc ih
theorem KV.any{kvs:La (κ×V)}{vs:La (κ×zz)}(r:KV kvs vs)(k:κ):(kvs.any λa=>decide<|a.1=k)=vs.any λa=>decide (a.1=k):=by
 unfold KV at r;induction r with
 |nil=>rfl
 |cons h t b=>rw[nj,nj,b,h.1]
theorem KV.repl{kvs:La (κ×V)}{vs:La (κ×zz)}(r:KV kvs vs)(k:κ){y:V}{u:zz}(c:RelV y u) :
  KV (kvs.map λa=>if a.1=k then(a.1,y)else a) (vs.map λa=>if a.1=k then(a.1,u)else a):=by
 unfold KV at r⊢;induction r with
 |nil=>exact .nil
 | @cons p q ps qs h t ih =>
  rw[ik,ik];calc .cons ?_ ih;let(b,d):=h;by_cases e:p.1=k
  .rw[Ko e,Ko (b.symm.trans e)];exact⟨b,c⟩
  .rw[Kn e,Kn (λz=>e<|b.trans z)];calc⟨b,d⟩
theorem KV.put{kvs:La (κ×V)}{vs:La (κ×zz)}(r:KV kvs vs)(k:κ){y:V}{u:zz}(a:RelV y u):KV (putK kvs k y) (stored vs k u):=by
 unfold putK stored;rw[r.any k];by_cases e:(vs.any λb=>decide<|b.1=k)=Ki
 .rw[Ko e,Ko e];exact r.repl k a
 .rw[Kn e,Kn e];calc Paired.snoc r ⟨U,a⟩
theorem KV.drop{kvs:La (κ×V)}{vs:La (κ×zz)}(r:KV kvs vs)(k:κ):KV (eM kvs k) (without vs k):=by
 unfold KV at r⊢;unfold eM without;induction r with
 |nil=>exact .nil
 | @cons p q ps qs h t ih =>
  let(c,d):=h;rw[lR,lR];by_cases e:p.1=k
  .let a:¬ decide (p.1≠k)=true:=by simp[e]
   let b:¬ decide (q.1≠k)=true:=by simp[c.symm.trans e]
   rw[Kn a,Kn b];exact ih
  .let f:¬ q.1=k:=λz=>e<|c.trans z
   let a:decide (p.1≠k)=true:=by simp[e]
   let b:decide (q.1≠k)=true:=by simp[f]
   rw[Ko a,Ko b];calc .cons ⟨c,d⟩ ih
theorem KV.length{kvs:La (κ×V)}{vs:La (κ×zz)}(r:KV kvs vs):kvs.length=vs.length:=Paired.length r
def xj(kvs:La (κ×V))(k:κ):(eM kvs k).length<=kvs.length:=iK _ _
end
theorem oH{P:zM}{w:zJ}{k:Key}{u:zz}(r:RelV (kV k) u):(bp P w).is k u=true:=by
 cases k with
 |inl i=>obtain⟨t,e⟩:=(show ∃t,u=zz.int i t from r);subst e;exact qj P w i t
 |inr x=>obtain⟨t,e⟩:=(show ∃t,u=zz.str x t from r);subst e;calc fF P w x t
theorem oI{P:zM}{w:zJ}:∀{ks:La Key}{us:La zz},Vals (ks.map kV) us->ItemsAre (bp P w) ks us
 | [],_,r=>by rw[sD]at r;cases r;exact .nil
 |k :: ks,_,r=>by
  rw[ik]at r;cases r with
  |cons h t=>calc .cons (oH h) (oI t)
abbrev KT(H:Hp):La (La Key×V)->La (La Key×Ak×zz)->Prop:=Paired λp q=>p.1=q.1/\H q.2.1=Kg (.tup<|p.1.map kV)/\RelV p.2 q.2.2
theorem KT.val{H:Hp}{kvs:La (La Key×V)}{xs:La (La Key×Ak×zz)}(r:KT H kvs xs)(k:La Key):iq (bx kvs k) ((JX xs k).map (·.2)):=by
 induction r with
 |nil=>exact True.intro
 | @cons p q ps qs h t ih =>
  let(c,_,d):=h;by_cases e:p.1=k
  .let a:q.1=k:=c.symm.trans e;let b:JX (q :: qs) k=Kg q.2:=by simp[JX,ny,a]
   rw[bW e,b];exact d
  .let a:¬ q.1=k:=λz=>e<|c.trans z
   let b:JX (q :: qs) k=JX qs k:=by simp[JX,ny,a]
   rw[bX e,b];calc ih
theorem KT.repl{H:Hp}{kvs:La (La Key×V)}{xs:La (La Key×Ak×zz)}(r:KT H kvs xs)(k:La Key){y:V}{u:zz}(d:RelV y u) :
  KT H (kvs.map λb=>if b.1=k then(b.1,y)else b) (xs.map<|putAt k u):=by
 induction r with
 |nil=>exact .nil
 | @cons p q ps qs h t ih =>
  rw[ik,ik];calc .cons ?_ ih;let(a,c,f):=h;unfold putAt;by_cases e:p.1=k
  .rw[Ko e,Ko (a.symm.trans e)];exact⟨a,c,d⟩
  .rw[Kn e,Kn (λz=>e<|a.trans z)];calc⟨a,c,f⟩
theorem KT.put{H:Hp}{kvs:La (La Key×V)}{xs:La (La Key×Ak×zz)}(r:KT H kvs xs)(k:La Key){b:Ak}{y:V}{u:zz}(d:H b=Kg (.tup<|k.map kV))(a:RelV y u) :
  KT H (putK kvs k y) (storedH xs k b u):=by
 let e:(kvs.any λc=>decide<|c.1=k)=(JX xs k).isSome:=by
  rw[iB,(r.val k).isSome_eq,zg]
 unfold putK storedH;rw[e];by_cases q:(JX xs k).isSome=Ki
 .rw[Ko q,Ko q];exact r.repl k a
 .rw[Kn q,Kn q];calc Paired.snoc r ⟨U,d,a⟩
def KT.keeps{H H':Hp}{kvs:La (La Key×V)}{xs:La (La Key×Ak×zz)}(r:KT H kvs xs)(a:∀b ys,H b=Kg (.tup ys)->H' b=Kg (.tup ys)):KT H' kvs xs :=
 Paired.mapP r λ_ _ z=>⟨z.1,a _ _ z.2.1,z.2.2⟩
def zR{u:HO}(ok:HOk P w H h)(e:Rd H a u):bQ P w H h a u:=e.ok ok
def uh{kvs:La (Key×V)}(ok:HOk P w H h)(e:Rd H a (.dK kvs)):kvs.length<=AA/\(a == AY)=Kj/\∃vs,KV kvs vs/\h.DictOf (bp P w) a vs :=
 show bQ P w H h a (.dK kvs)from zR ok e
def oJ{kvs:La (Key×V)}(ok:HOk P w H h)(e:H a=Kg (.dK kvs)):kvs.length<=AA/\(a == AY)=Kj/\∃vs,KV kvs vs/\h.DictOf (bp P w) a vs:=uh ok<|.inl e
theorem sU{ks:La Key}(ok:HOk P w H h)(e:H a=Kg (.tup<|ks.map kV)):(BH<|bp P w).is h ks a:=by
 let(_,b,r,o,f,d,n,c):=(show bQ P w H h a (.tup<|ks.map kV)from ok a _ e);calc⟨o,b.toArray,n,f,d,c,~~~oI r⟩
theorem xk{kvs:La (La Key×V)}(ok:HOk P w H h)(e:Rd H a (.dT kvs)):kvs.length<=AA/\(a == AY)=Kj /\
  ∃xs,KT H kvs xs/\h.DictOfH (BH<|bp P w) a xs:=by
 let(z,y,xs,r,o,es,j,i,g,f,d,c):=(show bQ P w H h a (.dT kvs)from zR ok e);calc⟨z,y,xs,r,o,es,j,i,g,f,d,λx b=>?_,c⟩;let all:∀{l:La (La Key×V)}{m:La (La Key×Ak×zz)},KT H l m->∀x∈m,(BH<|bp P w).is h x.1 x.2.1:=by
  intro l m q;induction q with
  |nil=>intro x b;exact nomatch b
  | @cons p q ps qs hq t ih =>
   intro x b;rcases dt.mp b with e|b
   .subst e;exact sU ok (by rw[←hq.1];exact hq.2.1)
   .exact ih x b
 calc all r x b
def Cj{kvs:La (La Key×V)}(ok:HOk P w H h)(e:H a=Kg (.dT kvs)):kvs.length<=AA/\(a == AY)=Kj /\
  ∃xs,KT H kvs xs/\h.DictOfH (BH<|bp P w) a xs:=xk ok<|.inl e
def yG(H:Hp)(a:Ak)(y:V)(r:Option V):Prop :=
 (∃c k,Rd H a (.dK c)/\y=kV k/\r=bx c k)\/∃c k b,Rd H a (.dT c)/\y=.ref b/\H b=Kg (.tup<|k.map kV)/\r=bx c k
def yH(H:Hp)(a:Ak)(y v:V)(H':Hp):Prop :=
 (∃c k,H a=Kg (.dK c)/\y=kV k/\c.length<AA/\H'=upd H a (.dK<|putK c k v)) \/
 ∃c k b,H a=Kg (.dT c)/\y=.ref b/\H b=Kg (.tup<|k.map kV)/\c.length<AA/\H'=upd H a (.dT<|putK c k v)
theorem yG.k{H:Hp}{a:Ak}{kvs:La (Key×V)}{k:Key}(e:H a=Kg (.dK kvs)):yG H a (kV k) (bx kvs k):=.inl ⟨kvs,k,.inl e,U,U⟩
theorem yH.k{H:Hp}{a:Ak}{kvs:La (Key×V)}{k:Key}{v:V}(e:H a=Kg (.dK kvs))(b:kvs.length<AA):yH H a (kV k) v (upd H a<|.dK<|putK kvs k v):=.inl ⟨kvs,k,e,U,b,U⟩
variable{y:V}{u:zz}
section
variable{v:V}{r:zz}{o:Option V}
theorem Inv.big(I:Inv X Kl σ H s):AY<s.heap.objs.size:=by
 let h:B7<s.heap.objs.size:=(I.mod.glob.keeps I.bk).lt;calc uL ⋯ h
theorem yI{Q:zz->Cg->Prop}(n:A.units+1<Ht)(I:Inv X Kl σ H s)(g:yG H a y o)(m:RelV y u)(h:∀s',Inv X Kl σ H s'->Q (.bool<|!o.isSome) s') :
  DO (model X.prog X.w) A (G4 .NotIn u<|.ref a) Q E s:=by
 rcases g with⟨j,k,e,f,l⟩|⟨j,k,b,e,f,p,l⟩
 .subst f;let(z,d,t,c,i):=uh I.hok e;calc wpAny_notIn_of (oH m) d i.mapOf ?_;rw[←(c.val k).isSome_eq,←l];exact h _<|I.tok _
 .subst f;cases (show u=zz.ref b from m);let(z,d,r,c,i):=xk I.hok e;calc wpAny_notIn_heap (JY n) (sU I.hok p) d i ?_;let q:=(c.val k).isSome_eq;rw[zg]at q;rw[←q,←l];calc h _<|I.tok _
def lW{h':Az}{t':Nat}{c:HO}(I:Inv X Kl σ H s)(d:Mut (H a))(f:Az.SameBut a s.heap h')(g:∃q,h'.get? a=Kg q)(new:bQ X.prog X.w (upd H a c) h' a c) :
  Inv X Kl σ (upd H a c) { s with heap:=h',toks:=t' } :=
 I.write (x:=a) (e:=a) d (.inl U) (λb q h z=>(f.2 b h).trans z) g new
def pE{P:zM}{w:zJ}{H':Hp}{h':Az}{kvs:La (Key×V)}{vs:La (Key×zz)}(z:kvs.length<=AA)(c:(a == AY)=Kj)(b:KV kvs vs)(dd:h'.DictOf (bp P w) a vs) :
  bQ P w H' h' a (.dK kvs):=⟨z,c,vs,b,dd⟩
theorem vt{H':Hp}{Q:Unit->Cg->Prop}(L:A.units+1<Ht)(I:Inv X Kl σ H s)(g:yH H a y v H')(C:RelV y u)(D:RelV v r)(h:∀s',Inv X Kl σ H' s'->Q () s') :
  DO (model X.prog X.w) A (setItem (.ref a) u r) Q E s:=by
 rcases g with⟨f,k,e,t,l,x⟩|⟨f,k,b,e,t,G,l,x⟩
 .subst t x;let(z,p,K,d,B):=oJ I.hok e;let m:K.length<=AA:=by rw[←d.length];exact z
  let o:(putK f k v).length<=AA:=by have:=eO f k v;lia
  refine wpAny_setItem_pairs (hsz:=m) (oH C) B λh' i n=>h _ ?_
  let M:∃q,h'.get? a=Kg q:=let ⟨q,_,_,j,_⟩:=i;⟨q,j⟩;exact lW I (by rw[e];exact True.intro) n M (pE o p (d.put k D) i)
 .subst t x;cases (show u=zz.ref b from C);let(z,p,J,d,B):=Cj I.hok e;let m:J.length<=AA:=by rw[←Paired.length d];exact z
  let o:(putK f k v).length<=AA:=by have:=eO f k v;lia
  refine wpAny_setItem_heap (hsz:=m) (JY L) (sU I.hok G) B λh' i n=>h _ ?_
  let(q,es,S,j,R,P,O,_,N):=i;refine lW I (by rw[e];exact True.intro) n ⟨q,j⟩ ⟨o,p,_,(d.put k G D).keeps λc T F=>?_,q,es,S,j,R,P,O,N⟩;rw[aq (cy F e<|λz=>nomatch z)];calc F
end
section
variable{kvs:La (Key×V)}{k:Key}
theorem Ck{v:V}{b:La zz}{Q:zz->Cg->Prop}(I:Inv X Kl σ H s)(e:H a=Kg (.dK kvs))(g:RelV (kV k) u)(l:bx kvs k=Kg v)(n:b=[]\/∃x,b=[x])
  (h:∀d s',Inv X Kl σ (upd H a<|.dK<|eM kvs k) s'->RelV v d->Q d s'):DO (model X.prog X.w) A (call (.builtin "dict.pop") (.ref a :: u :: b)) Q E s:=by
 let(z,D,m,c,p):=oJ I.hok e;let(d,r,j):=iq.some_of (v:=v) (o:=JT m k) (by rw[←l];exact c.val k);let B:(keyPart u).isSome=true:=by
  cases k with
  |inl i=>obtain⟨t,q⟩:=(show ∃t,u=zz.int i t from g);subst q;rfl
  |inr x=>obtain⟨t,q⟩:=(show ∃t,u=zz.str x t from g);subst q;rfl
 let G:Ip "dict.pop" ⟨.ref a :: u :: b,[]⟩:=by
  rcases n with q|⟨x,q⟩
  .subst q;exact PySem.F.args_dict_pop_2 _ _
  .subst q;exact PySem.F.args_dict_pop_3 _ _ _
 refine JZ PySem.F.slot_dict_pop p.typeIs PySem.F.entry_dict_pop G (meets_dict_pop_there (bp X.prog X.w) a (oH g) b n B)
  ⟨m,d,p,by rw[←c.length];exact z,r,λh' f y=>h d _ ?_ j⟩
 let C:∃q,h'.get? a=Kg q:=let ⟨q,_,_,hq,_⟩:=f;⟨q,hq⟩;calc lW I (by rw[e];exact True.intro) y C (pE (tT (xj kvs k) z) D (c.drop k) f)
end
section
variable{i value:D0}{pos' BY:Pos}{td ty tv:TE}
end
def qK{P:zM}{w:zJ}{H:Hp}(h:Az)(a:AY<h.objs.size):bQ P w H (h.push { cls:=.type "dict",data:=.dict #[] }) h.objs.size (.dK []) :=
 ⟨tS _,beq_eq_false_iff_ne.mpr<|Ne.symm<|tN a,[],.nil,Az.DictOf.new h⟩
def AV:TE:=λ_ H Q=>∀p,H p=Kh->Q (.ref p) (upd H p<|.dK [])
def xl:PE X (.Dict [] [] pos) AV:=λKl s σ H Q I h =>
 wpAny_Dict_empty ⟨.ref s.heap.objs.size,_,I.laid (a:=s.heap.objs.size) (o:=.dK []) (t':=s.toks) (λ_ _ q=>Az.get?_push_of_some _ q) (tj _)<|qK s.heap I.big,U,h _<|I.hok.fresh<|tj _⟩
def sV:La (TE×TE)->St->Hp->(La (V×V)->Hp->Prop)->Prop
 | [],_,H,Q=>Q [] H
 |(tk,tv) :: r,σ,H,Q=>tk σ H λx b=>tv σ b λy H2=>sV r σ H2 λps a=>Q ((x,y) :: ps) a
abbrev VV:La (V×V)->La (zz×zz)->Prop:=Paired λp q=>RelV p.1 q.1/\RelV p.2 q.2
def PPs(X:Cx)(pos:Pos)(b:La (Option D0))(a:La D0)(c:La (TE×TE)):Prop :=
 ∀(Kl:La (Ak×Obj))(s:Cg)(σ:St)(H:Hp)(Q:La (V×V)->Hp->Prop),Inv X Kl σ H s->sV c σ H Q ->
  DO (model X.prog X.w) X.A (evalPairs<|pairTrees b a X.env pos) (λd e=>∃ps H',Inv X Kl σ H' e/\VV ps d/\Q ps H') X.xe s
def yJ{X:Cx}{pos:Pos}:PPs X pos [] [] []:=λKl s σ H Q I h=>pairTrees_nil_walk ⟨[],H,I,.nil,h⟩
def xm{X:Cx}{pos:Pos}{k v:D0}{ks:La (Option D0)}{vs:La D0}{d c:TE}{a:La (TE×TE)}(p:PE X k d)(n:PE X v c)(o:PPs X pos ks vs a) :
  PPs X pos (Kg k :: ks) (v :: vs) ((d,c) :: a):=λKl s σ H Q I h =>
 pairTrees_cons_walk (thn (p Kl s σ H _ I h) λu f ⟨x,z,t,i,m⟩=>thn (n Kl f σ z _ t m) λB e ⟨y,H2,r,g,l⟩ =>
  thn (o Kl e σ H2 _ r l) λA C ⟨ps,w,q,b,j⟩=>⟨(x,y) :: ps,w,q,.cons ⟨i,g⟩ b,j⟩)
def mO(kvs a:La (Key×V)):La (Key×V):=a.foldl (λb c=>putK b c.1 c.2) kvs
theorem KV.merge:∀{a:La (Key×V)}{b:La (Key×zz)}{kvs:La (Key×V)}{vs:La (Key×zz)},KV a b->KV kvs vs->KV (mO kvs a) (merged vs b):=by
 intro a b kvs vs r;unfold KV at r;induction r generalizing kvs vs with
 |nil=>intro q;exact q
 | @cons p q ps qs h t ih =>
  intro c;let e:KV (putK kvs p.1 p.2) (stored vs q.1 q.2):=by
   let:=c.put p.1 h.2;rw[←h.1];exact this
  calc ih e
theorem jw:∀(a kvs:La (Key×V)),(mO kvs a).length<=kvs.length+a.length
 | [],kvs=>by show kvs.length<=kvs.length+0;lia
 |p :: r,kvs=>by
  let c:=jw r<|putK kvs p.1 p.2;let b:=eO kvs p.1 p.2;show(mO (putK kvs p.1 p.2) r).length<=_;rw[hU];lia
theorem mP{P:zM}{w:zJ}:∀{kvs:La (Key×V)}{e:La (zz×zz)},VV (kvs.map λf=>(kV f.1,f.2)) e->∃d,Carries (bp P w) e d/\KV kvs d
 | [],_,r=>by rw[sD]at r;cases r;exact⟨[],True.intro,.nil⟩
 |p :: kvs,_,r=>by
  rw[ik]at r;cases r with
  | @cons a b as bs h t =>
   let(d,c,q):=mP (P:=P) (w:=w) t;let(i,g):=b;calc⟨(p.1,g) :: d,⟨oH h.1,U,c⟩,.cons ⟨U,h.2⟩ q⟩
def Cm(b:La (TE×TE)):TE:=λσ H Q=>∀p,H p=Kh->sV b σ (upd H p<|.dK []) λps H2=>H2 p=Kg (.dK [])/\∃a:La (Key×V),ps=a.map (λc=>(kV c.1,c.2))/\a.length<=15/\Q (.ref p) (upd H2 p<|.dK<|mO [] a)
theorem yK{X:Cx}{pos:Pos}{b:La (Option D0)}{d:La D0}{f:La (TE×TE)}(h:PPs X pos b d f)(F:b.all (·.isSome)=Ki)(x:b.length=d.length)(C:b≠[])
  (k:b.length<=15):PE X (.Dict b d pos) (Cm f):=by
 intro Kl s σ H Q I q;let v:=I.hok.fresh<|tj s.heap.objs.size;let G:=I.laid (a:=s.heap.objs.size) (o:=.dK []) (h':=s.heap.push { cls:=.type "dict",data:=.dict #[] }) (t':=s.toks) (λ_ _ q=>Az.get?_push_of_some _ q) (tj _)<|qK s.heap I.big;calc wpAny_Dict_walk (knd:=bp X.prog X.w) F x C k<|thn (h Kl _ σ _ _ G<|q _ v) λK L ⟨ps,H2,l,j,e,g,D,M,r⟩=>?_;subst D;let(m,c,n):=mP (P:=X.prog) (w:=X.w) j;let(z,A,J,p,E):=oJ l.hok e;cases p;calc⟨m,c,E,λh' i u=>⟨.ref s.heap.objs.size,_,?_,U,r⟩⟩;let t:(mO [] g).length<=AA:=by
  let B:=jw g [];rw[sG]at B;rw[G7];lia
 let y:∃q,h'.get? s.heap.objs.size=Kg q:=let ⟨q,_,_,hq,_⟩:=i;⟨q,hq⟩;calc lW l (by rw[e];exact True.intro) u y (pE t A (n.merge .nil) i)
structure M1(X:Cx)(o:D0)(m:Str)(apos:Pos)(e:D0)(cZ:Pos):Prop where
 base:Ho o m X.env (eval o X.env)=eval o X.env
 few:((E1 cZ<|E2 [e] X.env).all (λx=>!x.1) && (HJ cZ<|HK [] X.env).all (λx=>x.1.isSome)
  && decide (([e]:La D0).length+([]:La HA).length+(if ([]:La HA).isEmpty then 0 else 1)<30))=Ki
 line:(apos.endLine == cZ.line)=Ki
 trees:E1 cZ (E2 [e] X.env)=[(Kj,eval e X.env)]
structure M2(X:Cx)(o:D0)(m:Str)(apos:Pos)(e f:D0)(cZ:Pos):Prop where
 base:Ho o m X.env (eval o X.env)=eval o X.env
 few:((E1 cZ<|E2 [e,f] X.env).all (λx=>!x.1) && (HJ cZ<|HK [] X.env).all (λx=>x.1.isSome)
  && decide (([e,f]:La D0).length+([]:La HA).length+(if ([]:La HA).isEmpty then 0 else 1)<30))=Ki
 line:(apos.endLine == cZ.line)=Ki
 trees:E1 cZ (E2 [e,f] X.env)=[(Kj,eval e X.env),(Kj,eval f X.env)]
def IsD(H:Hp)(a:Ak):Prop:=(∃b,Rd H a<|.dK b)\/∃b,Rd H a (.dT b)
theorem sW{X:Cx}{Kl:La (Ak×Obj)}{σ:St}{H:Hp}{s:Cg}{a:Ak}(I:Inv X Kl σ H s)(d:IsD H a) :
  s.TypeIs (.ref a) "dict" /\ (∀b,zz.ref a=.ref b->∃c,s.heap.get? b=Kg c/\c.dict=Kh)/\(a == AY)=false:=by
 rcases d with⟨j,e⟩|⟨j,e⟩
 .let(_,g,l,_,f):=uh I.hok e;calc⟨f.typeIs,λb q=>?_,g⟩;cases q;let(c,_,_,i,h,_):=f;exact⟨c,i,h.2.1⟩
 .let(_,g,k,_,f):=xk I.hok e;calc⟨f.typeIs,λb q=>?_,g⟩;cases q;let(c,_,_,i,h,_):=f;calc⟨c,i,h.2.1⟩
section
variable{d:V}{r:zz}{o:Option V}
end
inductive ui(ty:TE)(σ:St)(Q:VK)(x:V)(H1:Hp):Prop
 |mk (a:_)(_:x=.ref a)(_:IsD H1 a)(_:ty σ H1 λy H2=>∃kvs k v,H2 a=Kg (.dK kvs)/\y=kV k/\bx kvs k=Kg v/\Q v (upd H2 a<|.dK<|eM kvs k))
def AW(a ty:TE):TE:=λσ H Q=>a σ H λx b=>ui ty σ Q x b
section
variable{f:D0}{cZ:Pos}{td ty tx:TE}
theorem qL(r:PE X o td)(t:PE X e ty)(m:M1 X o "pop" apos e cZ):PE X (.Call (.Attribute o "pop" apos) [e] [] cZ) (AW td ty):=by
 intro Kl s σ H Q I h;calc wpAny_Call_method m.base m.few m.line PySem.F.plainAttrs_dict PySem.F.slot_dict_pop PySem.F.type_dict_pop<|thn (r Kl s σ H _ I h) λu i ⟨x,D,c,n,a,z,d,q⟩=>?_;subst z;obtain rfl:u=zz.ref a:=n;let(g,f,_):=sW c d;calc⟨g,f,?_⟩;rw[m.trees];calc Calls.callWith_builtin U<|Calls.evalArgs_plain<|Calls.spliced_cons<|thn (t Kl i σ D _ c q) λL K ⟨y,H2,C,j,E,k,v,A,w,l,p⟩=>Calls.spliced_nil ?_;subst w;calc Ck C A j l (.inl U) λG J B b=>⟨v,_,B,b,p⟩
end
section
variable{kvs:La (Key×V)}
theorem xn{Q:zz->Cg->Prop}(I:Inv X Kl σ H s)(e:Rd H a (.dK kvs))(h:∀p s',H p=Kh->Inv X Kl σ (upd H p<|.dK kvs) s'->Q (.ref p) s'):DO (model X.prog X.w) A (call (.type "dict") [.ref a]) Q E s:=by
 let(z,i,k,c,j):=uh I.hok e;refine kt_call_dict i j (by rw[←c.length];exact z) λh' d g=>?_
 calc h _ _ (I.hok.fresh<|tj _)<|I.laid (a:=s.heap.objs.size) (o:=.dK kvs) (t':=s.toks) (λb q f=>?_) (tj _)<|pE z (beq_eq_false_iff_ne.mpr<|Ne.symm<|tN I.big) c d;calc(g.2 b<|tN<|Az.lt_size f).trans (Az.get?_push_of_some _ f)
end
end L2
namespace Att
open PySem PySem.W PySem.Calls PyProof.Rows
section
variable{prog:zM}{w:zJ}{A:Cd}{E:zz->Cg->Prop}{s:Cg}{K:Frag}
end
end Att
namespace L2
open PySem PySem.Spec PyProof.Rows
section
variable{P:zM}{w:zJ}{K:W.Frag}{mg:Str->Option zz}{base:Az}
end
variable{X:Cx}
section
variable{κ:Type} [DecidableEq κ]
theorem uj:∀{l:La κ}{k:κ},l.Nodup->¬ k∈l->(l++[k]).Nodup
 | [],k,_,_=>by simp
 |a :: r,k,h,hk=>by
  let(c,b):=ja.mp h;show(a :: (r++[k])).Nodup;calc ja.mpr ⟨λm=>?_,uj b λm=>hk<|dt.mpr<|Or.inr m⟩;rcases gs.mp m with q|q
  .exact c q
  .exact hk<|dt.mpr<|Or.inl (gu.mp q).symm
theorem vw{p:κ×V}{r:La (κ×V)}{k:κ}(e:p.1=k):eM (p :: r) k=eM r k:=by
 unfold eM;rw[lR,Kn (by simp[e])]
theorem vx{p:κ×V}{r:La (κ×V)}{k:κ}(e:¬ p.1=k):eM (p :: r) k=p :: eM r k:=by
 unfold eM;rw[lR,Ko (by simp[e])]
end
section
variable{Kl:La (Ak×Obj)}{σ:St}{H:Hp}{s:Cg}
theorem Inv.freeze{d:Ak}{o:Obj}{kvs:La (Key×V)}(I:Inv X Kl σ H s)(e:H d=Kg (.dK kvs))(g:s.heap.get? d=Kg o):Inv X Kl σ (upd H d<|.frz o<|.dK kvs) s:=by
 let h:∀{b u},H b=Kg u->u≠.dK kvs->b≠d:=λq n z=>by rw[z,e]at q;exact n (Option.some.inj q).symm
 let j:∀{b},H b=Kh->b≠d:=λq z=>by rw[z,e]at q;cases q
 refine⟨I.ok,I.os,I.bare,⟨I.base.keep,I.base.slot,λb q m k l=>?_,I.base.there,λb f q=>?_,λb q u r=>?_,λb y q=>?_⟩,I.loc,I.cell,?_,λx c q=>?_,λp A=>?_,λb u q=>?_,I.len⟩
 .let:=I.base.free b q m k l;rw[aq (j this)];exact this
 .let:=I.base.tups b f q;rw[aq (h this (by intro z;cases z))];exact this
 .let:=I.base.frzs b q u r;rw[aq (h this (by intro z;cases z))];exact this
 .let(i,this):=I.base.tbls b y q;exact⟨i,by rw[aq (h this (by intro z;cases z))];exact this⟩
 .rw[aq (j I.free)];exact I.free
 .rw[aq (j<|I.freeC x c q)];exact I.freeC x c q
 .let(m,k,l):=I.pin p A;exact⟨m,by rw[aq (j k)];exact k,l⟩
 .let v:∀(a b:Ak),H b=Kg (.own a)->upd H d (.frz o<|.dK kvs) b=Kg (.own a):=λa b q=>by rw[aq (h q (by intro z;cases z))];exact q
  let t:∀b f,H b=Kg (.tup f)->upd H d (.frz o<|.dK kvs) b=Kg (.tup f):=λb f q=>by rw[aq (h q (by intro z;cases z))];exact q
  by_cases w:b=d
  .subst w;rw[ae]at q;cases q;exact⟨g,(I.hok b _ e).stay (λ_ _ _ q=>q) (v b) t⟩
  .rw[aq w]at q;calc(I.hok b u q).stay (λ_ _ _ q=>q) (v b) t
end
theorem i6:Jd table "dict_itemiterator.__iter__" = Kg G0.«dict_keyiterator.__iter__» :=
 Jf (id' := "dict_keyiterator.__iter__") (by kernel_rfl) (by first|rfl|decide+kernel|(unfold String.splitOn;simp +decide [String.splitOnAux])) (~~~0) (by kernel_rfl)
theorem ll{b c:Type}{R:b->c->Prop}:∀{xs:La b}{as:La c}{i:Nat}{x:b},Paired R xs as->xs[i]?=Kg x->∃a,as[i]?=Kg a/\R x a
 |_,_,0,x,.cons h tl,e=>⟨_,U,by simp at e;rw[←e];exact h⟩
 |_,_,i+1,x,.cons h tl,e=>by
  let(a,q):=ll (i:=i) (x:=x) tl<|~~~e;calc⟨a,~~~q.1,q.2⟩
def Iti(d:Ak)(o:Obj)(kvs:La (Key×V)):It :=
 ⟨λi H=>H d=Kg (.frz o<|.dK kvs)/\i<kvs.length,
 λi H v b=>∃T a,H T=Kh/\v=.ref T/\kvs[i]?=Kg a/\b=upd H T (.tup [kV a.1,a.2]),
 λi H=>H d=Kg (.frz o<|.dK kvs)/\kvs.length<=i⟩
def zS(it d:Ak)(n ep:Nat)(i:Nat)(h:Az):Prop:=∃ok a,IsItemIter h it d i n ep ok a
theorem xo{P:zM}{w:zJ}{k:Key}{u:zz}(h:(bp P w).is k u=Ki):RelV (kV k) u:=by
 rcases bU (k:=k) (v:=u) h with⟨i,t,rfl,rfl⟩|⟨x,t,rfl,rfl⟩
 .exact⟨t,U⟩
 .exact⟨t,U⟩
theorem xp{P:zM}{w:zJ}{H:Hp}{h:Az}{d:Ak}{o:Obj}{kvs:La (Key×V)}{i:Array G8}{ep:Nat}(ok:HOk P w H h)(e:H d=Kg (.frz o<|.dK kvs))(b:o.data=.dict i ep):∃vs,KV kvs vs/\h.DictAt (bp P w) d vs ep:=by
 let(g,z,r,vs,a,q,n,p,f,m,c,l,k,j):=(show bQ P w H h d (.frz o<|.dK kvs)from ok d _ e);rw[g]at f;cases f;rw[b]at c;cases c;calc⟨vs,a,o,i,g,m,b,l,k,j⟩
theorem sY{P:zM}{w:zJ}{K:W.Frag}{p:La D0} {x1} {tp:Pos}{it d:Ak}{o:Obj}{kvs:La (Key×V)}{es:Array G8}{ep:Nat}(Z:o.data=.dict es ep) :
  Turn P w K (.Tuple p x1 tp) (Iti d o kvs) [it] it (zS it d kvs.length ep) where
 mem:=by simp
 obj:=λi h e c a=>by
  let(ok,j,b):=e;rw[gu.mp a];exact⟨_,b,λv q=>nomatch q⟩
 keep:=λi h h' e k=>by
  let(ok,j,b):=e;exact⟨ok,j,k it (by simp) _ b⟩
 item:=by
  intro X G C L a i n s σ H E I t e D;subst G C L;let(hd,hi):=D;let(ok,j,b):=e;let(B,f,O):=xp I.hok hd Z;let r:kvs.length=B.length:=Paired.length f;let N:=GC hi;let(q,S,m,l):=ll f N;generalize kvs[i]=kv at N m l;rw[r]at b;refine wpAny_pyNext_items_item b O S λR h1 wj a1 a2 a3 a4=>?_
  calc⟨_,U,wpAny_letOwnedTupleGo_items (s:={ s with heap:=h1 }) a1 λM b1 b2=>?_⟩;let nT:s.heap.get? s.heap.objs.size=none:=by
   cases q:s.heap.get? s.heap.objs.size with
   |none=>rfl
   |some o=>exact Kp (Az.lt_size q) (va _)
  let g:H s.heap.objs.size=none:=I.hok.fresh<|tj _;let Y:s.heap.objs.size≠it:=tR<|Az.lt_size b;let kk:∀c o,c ∉ [it]->s.heap.get? c=Kg o->M.get? c=Kg o:=λc o a q=>by
   let a:c≠it:=λz=>a (by rw[z];simp)
   exact b2.extBut _ _ a<|a4 c o a q
  let J:=I.turnedPair (h':=M) (ch:=[it]) (T:=s.heap.objs.size) (x:=kV kv.1) (y:=kv.2) (u:=R) (v:=q.2) t kk nT g (b2.extBut _ _ Y a2) (by rw[m];exact xo wj) l;refine⟨.ref s.heap.objs.size,upd H s.heap.objs.size<|.tup [kV kv.1,kv.2],J,U,⟨_,kv,g,U,N,U⟩,⟨_,_,by rw[r];exact b1⟩,λc a=>?_⟩;rw[gu.mp a,aq Y.symm];exact(t it (by simp)).1
 done:=by
  intro X G C L a i n s σ H E I t e D;subst G C L;let(hd,hi):=D;let(ok,j,b):=e;let(B,f,O):=xp I.hok hd Z;let r:kvs.length=B.length:=Paired.length f;rw[r]at b;refine wpAny_pyNext_items_end (I.ok.hd a) b O (jU ∅) λM k=>⟨U,I.turnedL (ch:=[it]) t λc o a q=>?_⟩
  exact k c o (λz=>a (by rw[z];simp)) q
 self:=λA i s Q E e h=>by
  let(ok,j,b):=e;let g:s.TypeIs (.ref it) "dict_itemiterator" := ⟨_,b,U⟩;calc Jt g F.slot_dict_itemiterator_iter<|Jj F.slot_dict_itemiterator_iter g i6 ?_<|F.args_dict_itemiterator_iter_1 _;show DO _ _ (ret<|.ref it) _ _ s;calc zp ⟨_,U,"dict_itemiterator",_,g,F.slot_dict_itemiterator_next.lookup,h⟩
inductive uk  (R:It->Hp->Prop)(x:V)(H1:Hp):Prop
 |mk (d kvs:_)(_:x=.ref d)(_:H1 d=Kg (.dK kvs))(_:∀o,R (Iti d o kvs)<|upd H1 d<|.frz o<|.dK kvs):uk R x H1
def AX(b:TE):TI:=λa H R=>b a H λx c=>uk R x c
theorem xq{X:Cx}{e:D0}{A:TE}{g C:Pos}{i:La D0} {x1} {tp:Pos}(L:PE X e A)
  (G:Ho e "items" X.env (eval e X.env)=eval e X.env:=by rfl) (E:(g.endLine == C.line)=true:=by rfl) :
  PI X (.Tuple i x1 tp) (.Call (.Attribute e "items" g) [] [] C) (AX A):=by
 intro f s y H R I h;calc Ka G E<|thn (L f s y H _ I h) λv a ⟨x,r,p,D,d,kvs,T,m,q⟩=>?_;subst T;obtain rfl:v=zz.ref d:=D;let(z,J,k,t,j):=(show bQ X.prog X.w r a.heap d (.dK kvs)from p.hok d _ m);let(o,V,ep,l,S,B,Q,P,O):=id j;calc⟨"dict","dict.items",F.plainAttrs_dict,F.slot_dict_items,F.type_dict_items,j.typeIs,(sW p<|.inl ⟨kvs,.inl m⟩).2.1,?_⟩;calc Calls.callWith_builtin U<|PySem.evalArgs_none ?_;calc JZ F.slot_dict_items j.typeIs F.entry_dict_items (F.args_dict_items_1 _) (Kb (bp X.prog X.w) d J) ⟨⟨k,j⟩,?_⟩;let K:kvs.length=k.length:=Paired.length t;let n:Inv X f y (upd r d<|.frz o<|.dK kvs) a:=p.freeze m l;let W:d<a.heap.objs.size:=Az.lt_size l;let N:(a.heap.push { cls:=.type "dict_items",data:=.fields #[.ref d] }).get? d=Kg o:=Az.get?_push_of_some _ l;calc wpAny_pyIter_items (s:={ a with heap:=a.heap.push { cls:=.type "dict_items",data:=.fields #[.ref d] } }) (knd:=bp X.prog X.w) (kvs:=k) (ep:=ep) (d:=d) ⟨_,Az.get?_push_size _ U,U,U⟩ ⟨o,V,N,S,B,Q,P,O⟩ ?_;let sz:(a.heap.push { cls:=.type "dict_items",data:=.fields #[.ref d] }).objs.size=a.heap.objs.size+1:=by simp[Az.push]
 let big:a.heap.objs.size<=(a.heap.push { cls:=.type "dict_items",data:=.fields #[.ref d] }).objs.size:=by rw[sz];lia
 refine⟨_,[_],zS _ d kvs.length ep,Iti d o kvs,upd r d<|.frz o<|.dK kvs,U,n.kept (t':=a.toks)<|λb u q=>Az.get?_push_of_some _<|Az.get?_push_of_some _ q,sY B,⟨.none,.none,by rw[K];exact Az.get?_push_size _ U⟩,λc M=>?_,q o⟩;rw[gu.mp M];calc n.fpOk big<|n.hok.fresh big
section
variable{gt:TG}{k:Nat}{fr:La Nat}{tt:TT}{te:TE}
theorem qM{d:Ak}{o:Obj}{kvs:La (Key×V)}{n:St}{f:Hp}{Q:VK}(a:Ak->Nat->La V->Hp->Prop)(w:∀D,f D=Kh->a D 0 [] (upd f D<|.lst []))
  (u:∀D i ys H,f D=Kh->i<=kvs.length->a D i ys H->H d=Kg (.frz o<|.dK kvs))
  (t:∀D i j ys H T,f D=Kh->kvs[i]?=Kg j->a D i ys H->H T=Kh->∀r:St,r.length=k->gt (.ref T) (dX n fr r) (upd H T<|.tup [kV j.1,j.2]) λc z=>(∃g:St,g.length=k/\c=dX n fr g)/\tt c z λb s=>if b=Ki then te c s (b7 a D i kvs.length)else eX a D i kvs.length s)
  (hd:∀D ys H,f D=Kh->a D kvs.length ys H->Q (.ref D) H):ko (Iti d o kvs) gt k fr tt te n Q f:=by
 intro D l;calc⟨λi m H=>m=kvs.length-i/\i<=kvs.length/\∃ys,a D i ys H,⟨_,U,tS _,[],w D l⟩,?_⟩;rintro i m H ⟨rfl,hi,ys,p⟩;let q:=u D i ys H l hi p;by_cases h:i<kvs.length
 .let A:kvs[i]?=Kg kvs[i]:=GC h;calc .inr ⟨⟨q,h⟩,λx B y=>?_⟩;let(T,j,v,rfl,e,rfl):=y;exact t D i _ ys _ T l e p v
 .let e:i=kvs.length:=∅
  subst e;calc .inl ⟨⟨q,tj _⟩,hd D ys H l p⟩
end
theorem sZ:cw X (.type "dict") (λxs H Q=>∃a kvs,xs=[V.ref a]/\H a=Kg (.dK kvs)/\∀p,H p=Kh->Q (.ref p) (upd H p<|.dK kvs)):=by
 intro b s g H xs i Q I r h;let(a,kvs,rfl,e,q):=h;let(u,rfl,c):=vals1 r;cases c;calc xn I (.inl e) λp j d f=>⟨.ref p,_,f,U,q p d⟩
inductive Cn  (x:V)(y:V)(H:Hp)(Q:VK):Prop
 |mk (a:Ak)(kvs:La (Key×V))(k:Str)(v:V)(_:x=.ref a)(_:y=.str k)(_:H a=Kg (.dK kvs))(_:bx kvs (Sum.inr k)=Kg v)(_:Q v H):Cn x y H Q
theorem mQ:IxR X Cn:=by
 intro value d f s t H x y v u Q I j i h l;let(a,r,k,z,rfl,rfl,p,n,q):=h;cases j;let(_,_,g,c,e):=oJ I.hok p;let(w,m,b):=iq.some_of (v:=z) (o:=JT g<|Sum.inr k) (by rw[←n];exact c.val (Sum.inr k:Key));calc PyProof.Rows.tail_any e.mapOf.typeIs JU.lookup (JV (oH (k:=Sum.inr k) i) e.mapOf m ⟨z,H,I.tok _,b,q⟩) l
inductive Co(neg:Bool)(x:V)(y:V)(H:Hp)(Q:VK):Prop
 |mk (a:Ak)(kvs:La (Key×V))(k:Str)(_:x=.str k)(_:y=.ref a)(_:H a=Kg (.dK kvs))(_:Q (.bl (if neg then !(bx kvs<|Sum.inr k).isSome else(bx kvs<|Sum.inr k).isSome)) H)
theorem vy{k:Nat}(e:b8 k X.A):OpR X (G4 .NotIn) (Co Ki):=by
 intro b s j H x y v u Q I d c h;let(a,i,k,rfl,rfl,f,q):=h;cases c;calc yI (by have:=e.units;lia) I (yG.k (k:=Sum.inr k) f) d λl g=>⟨.bl _,H,g,U,q⟩
def yL{pos:Pos}:PE X (.Dict [] [] pos) (λ_ H Q=>∀p,H p=Kh->Q (.ref p) (upd H p<|.dK [])):=xl
def Cp(f ty e:TE):TS:=λD c H=>e c H λv h=>f c h λx g=>ty c g λy d=>∃(a:Ak)(b:La (Key×V))(k:Str),x=.ref a/\y=.str k/\d a=Kg (.dK b)/\b.length<AA/\D.nx c (upd d a<|.dK<|putK b (Sum.inr k) v)
theorem kz{o i value:D0}{f ty e:TE}{pos c:Pos}{k:Nat}(B:b8 k X.A)(C:PE X o f)(hi:PE X i ty)(w:PE X value e)(z:GJ value (Kg<|.Subscript o i c) pos.line X.env=pure Kj) :
  PS X (.Assign [.Subscript o i c] value pos) (Cp f ty e):=by
 intro b s d H D I h;calc wpAny_Assign_Subscript (thn (w b s d H _ I h) λr j ⟨v,P,N,n,t⟩=>thn (C b j d P _ N t) λu g ⟨x,O,M,m,q⟩=>thn (hi b g d O _ M q) λT S ⟨y,V,L,l,a,Q,k,G,F,J,E,p⟩=>?_) z;subst G F;obtain rfl:u=zz.ref a:=m;calc vt (by have:=B.units;lia) L (yH.k (k:=Sum.inr k) J E) l n λR K=>⟨d,_,K,p⟩
theorem mR{kvs:La (Str×V)}{k:Str}:bx (kvT kvs) (Sum.inr k)=kvs.lookup k:=by
 induction kvs with
 |nil=>rfl
 |cons p r c =>
  let(b,d):=p;by_cases a:b=k
  .subst a;rw[lL,beq_self_eq_true];exact bW U
  .rw[lL,beq_eq_false_iff_ne.mpr λz=>a z.symm,←c];calc bX λz=>a (by injection z)
inductive Cq(Q:VK)(x:V)(H1:Hp):Prop
 |mk (d:Ak)(kvs:La (Key×V))(_:x=.ref d)(_:H1 d=Kg (.dK kvs))(_:∀(D:Ak)(ts:La Ak)(H2:Hp),ts.length=kvs.length->ao H1 H2->H1 D=Kh->H2 D=Kg (.lst<|ts.map V.ref)->(∀(j:Nat)(kv:Key×V),kvs[j]?=Kg kv->∃T,ts[j]?=Kg T/\H1 T=Kh/\H2 T=Kg (.tup [kV kv.1,kv.2]))->Q (.ref D) H2)
def tLI(b:TE):TE:=λa H Q=>b a H λx c=>Cq Q x c
theorem pF{e:D0}{td:TE}{m cZ p1 xr:Pos}(a3:X.calm=Ki)(hg:Gl X "list") (hm:X.mg "list" = Kh) (hd:PE X e td)
  (qq:Ho e "items" X.env (eval e X.env)=eval e X.env:=by rfl) (qr:(m.endLine == cZ.line)=true:=by rfl) :
  PE X (.Call (.Name "list" p1) [.Call (.Attribute e "items" m) [] [] cZ] [] xr) (tLI td):=by
 intro D s σ H Q I h;calc zt<|fg I hg hm PyProof.Rows.boot_list ?_;calc PyProof.Rows.callWith_type1 ?_ U U;show DO _ _ (spliced ((Kj,eval (.Call (.Attribute e "items" m) [] [] cZ) X.env) :: E1 xr (E2 [] X.env))) _ _ s;calc Calls.spliced_cons ?_;calc Ka qq qr<|thn (hd D s σ H _ I h) λv f ⟨x,K,C,r1,d,kvs,y,ed,q⟩=>?_;subst y;obtain rfl:v=zz.ref d:=r1;let(z,hs,Y,L,R):=(show bQ X.prog X.w K f.heap d (.dK kvs)from C.hok d _ ed);let(o,es,ep,g1,g2,g3,g4,g5,g6):=id R;calc⟨"dict","dict.items",F.plainAttrs_dict,F.slot_dict_items,F.type_dict_items,R.typeIs,(sW C<|.inl ⟨kvs,.inl ed⟩).2.1,?_⟩;calc Calls.callWith_builtin U<|PySem.evalArgs_none ?_;calc JZ F.slot_dict_items R.typeIs F.entry_dict_items (F.args_dict_items_1 _) (Kb (bp X.prog X.w) d hs) ⟨⟨Y,R⟩,?_⟩;calc Calls.spliced_nil ?_;let hl:kvs.length=Y.length:=Paired.length L;let Z:(f.heap.push { cls:=.type "dict_items",data:=.fields #[.ref d] }).get? d=Kg o:=Az.get?_push_of_some _ g1;let sz:(f.heap.push { cls:=.type "dict_items",data:=.fields #[.ref d] }).objs.size=f.heap.objs.size+1:=Az.size_push ..;let a0:∀b o,f.heap.get? b=Kg o->(f.heap.push { cls:=.type "dict_items",data:=.fields #[.ref d] }).get? b=Kg o:=λb o e=>Az.get?_push_of_some _ e
 refine W.kdx_call (s:={ f with heap:=f.heap.push { cls:=.type "dict_items",data:=.fields #[.ref d] } }) (knd:=bp X.prog X.w) (kvs:=Y) (ep:=ep) (d:=d) (C.ok.hd a3) ⟨_,Az.get?_push_size _ U,U,U⟩ ⟨o,es,Z,g2,g3,g4,g5,g6⟩ (by rw[←hl];exact z) λh2 tk a4 c a k3 gl n3 P e3=>?_
 rw[show(Cg.heap { f with heap:=f.heap.push { cls:=.type "dict_items",data:=.fields #[.ref d] } }).objs.size=f.heap.objs.size+1 from sz]at gl P⊢;let kp:∀c o,f.heap.get? c=Kg o->h2.get? c=Kg o:=λc o e=>k3 c o<|a0 c o e
 let nd:a.Nodup:=P.rise.imp λh=>tN h
 let G:∀(j:Nat)(T:Ak),a[j]?=Kg T->a.idxOf? T=Kg j:=λj T B=>by
  let(J,ej):=GD.mp B;rw[List.idxOf?,List.findIdx?_eq_some_iff_getElem];refine⟨J,by simp[ej],λi hi=>?_⟩;let:a[i]≠a[j]:=λq=>by
   let:=(List.getElem_inj nd).mp q;lia
  simpa[←ej]using this
 let N:∀(T:Ak)(j:Nat),a.idxOf? T=Kg j->a[j]?=Kg T:=λT j B=>by
  rw[List.idxOf?,List.findIdx?_eq_some_iff_getElem]at B;let(J,e,_):=B;rw[GC J];simpa using e
 let E:∀(T:Ak)(j:Nat),a.idxOf? T=Kg j->f.heap.objs.size+2<=T:=λT j B=>P.above T<|GG<|N T j B
 show EP X D σ Q _ _;generalize A:(λ(b:Ak)=>if b=f.heap.objs.size+1 then Kg (HO.lst<|a.map V.ref)else match iA (kvs.map λp=>kV p.1) (kvs.map (·.2)) a b with|some o=>Kg o|none=>K b)=H2;let hD:H2 (f.heap.objs.size+1)=Kg (.lst<|a.map V.ref):=by rw[←A];exact Ko U
 let hO:∀c,c<f.heap.objs.size->H2 c=K c:=λc hc=>by
  rw[←A];show(if c=f.heap.objs.size+1 then _ else _)=_;rw[Kn (ltA hc 1)];let:iA (kvs.map λp=>kV p.1) (kvs.map (·.2)) a c=none:=by
   unfold iA;cases e:a.idxOf? c with
   |none=>rfl
   |some j=>exact Kp (tP hc<|tT (vT _ 2)<|E c j e) (va _)
  rw[this]
 let hT:∀(j:Nat)(n:Key×V)(T:Ak),kvs[j]?=Kg n->a[j]?=Kg T->H2 T=Kg (.tup [kV n.1,n.2]):=λj n T y g=>by
  let:=E T j<|G j T g;rw[←A];show(if T=f.heap.objs.size+1 then _ else _)=_;rw[Kn (tR<|tP (vr _) this)];let:iA (kvs.map λp=>kV p.1) (kvs.map (·.2)) a T=Kg (.tup [kV n.1,n.2]):=by unfold iA;rw[G j T g];dsimp only;rw[dy,dy,y];rfl
  rw[this]
 refine⟨.ref<|f.heap.objs.size+1,H2,C.grow (s':={ f with heap:=h2,toks:=tk }) kp U U hO (λb u hb l=>?_),U,q _ a H2 ∅ (λc o e=>?_) (C.hok.fresh<|vT _ _) hD λj n y=>?_⟩
 .rw[←A]at l;replace l:(if b=f.heap.objs.size+1 then Kg (HO.lst<|a.map V.ref)else match iA (kvs.map λp=>kV p.1) (kvs.map (·.2)) a b with|some o=>Kg o|none=>K b)=Kg u:=l
  by_cases S:b=f.heap.objs.size+1
  .rw[Ko S]at l;cases l;subst S;let rv:∀a:La Ak,Vals (a.map V.ref) (a.map zz.ref):=λa=>by
    induction a with
    |nil=>exact .nil
    |cons t r ih=>exact .cons U ih
   refine⟨by rw[dn,n3,←hl];exact z,a.map zz.ref,c,rv a,?_⟩;rw[←e3];exact gl
  .rw[Kn S]at l;cases g:iA (kvs.map λp=>kV p.1) (kvs.map (·.2)) a b with
   |none=>rw[g]at l;replace l:K b=Kg u:=l;rw[C.hok.fresh hb]at l;cases l
   |some o =>
    rw[g]at l;cases l;unfold iA at g;cases ei:a.idxOf? b with
    |none=>rw[ei]at g;cases g
    |some j =>
     rw[ei]at g;dsimp only at g;rw[dy,dy]at g;cases y:kvs[j]? with
     |none=>rw[y]at g;cases g
     |some n =>
      rw[y]at g;cases g;let(M,k,x,fx,fy,Z):=P.pairs j b<|N b j ei;let(q',O,a2,a1):=ll L y;rw[fx]at O;cases O;exact⟨by show 2<=AA;decide,[M,x],.cons (by show RelV (kV n.1) M;rw[a2];exact xo fy) (.cons a1 .nil),_,Z,U,_,U⟩
 .let:c<f.heap.objs.size:=by
   rcases wh c f.heap.objs.size with z|z
   .exact z
   .rw[C.hok.fresh z]at e;cases e
  rw[hO c this];exact e
 .let B:j<a.length:=by
   let(h1,_):=GD.mp y;lia
  let g:a[j]?=Kg a[j]:=GC B;calc⟨a[j],g,C.hok.fresh<|tT (vT _ 2)<|E _ j<|G j _ g,hT j n _ y g⟩
end L2
namespace HT
open PySem PyProof.Rows
def zT(prog:zM)(w:zJ)(A:Cd)(op:G5)(s0:Cg)(a:La Ak)(P:Nat->zz->Prop)(c:Nat->Nat->Bool):Prop :=
 ∀i j vi vj (s:Cg)(Q:zz->Cg->Prop)(E:zz->Cg->Prop),(∀b o,b ∉ a->s0.heap.get? b=Kg o->s.heap.get? b=Kg o)->P i vi->P j vj->i≠j->Q (.bool<|c i j) s->DO (model prog w) A (IG op vi vj) Q E s
theorem um(a:Nat->Nat->Bool):∀k,Kc a k<=k
 |0=>tj _
 |k+1=>by
  show(if a (k+1) (Kc a k)then k+1 else Kc a k)<=k+1;let:=um a k;split <;> lia
section
variable{prog:zM}{w:zJ}{A:Cd}{R:Hm->Cg->Prop}{I:Ak}{fp wr:La Ak}{n:Nat}{P:Nat->zz->Prop}{St:Nat->Az->Prop}
theorem tf(W:GY prog w A.in1 I fp wr n P St)(p:Nat->Nat->Bool){s0:Cg}(S:Ak)(V:zT prog w A.in1 .Lt s0 (S :: wr) P p)(D:S ∉ fp) :
  ∀(k j:Nat)(s:Cg)(i:zz)(c:Nat),n-(j+1)=k->j+1<=n->St (j+1) s.heap->P (Kc p j) i->(∀b o,b ∉ S :: wr->s0.heap.get? b=Kg o->s.heap.get? b=Kg o) ->
  s.heap.get? S=Kg { cls:=.type "list",dict:=Kh,data:=.seq #[i,i] c,slots:=#[] } ->
  (∀v h' E,P (Kc p<|n-1) v->(∀b o,b ∉ wr->b≠S->s.heap.get? b=Kg o->h'.get? b=Kg o)->R (.ok<|.ret v) { s with heap:=h',toks:=E }) ->
  Hn (model prog w) A (.builtin "min.loop" ⟨[.ref I,.none,.ref S],[]⟩) R s:=by
 let C:S ∉ wr:=λh=>D<|W.sub _ h
 let N:(toString "min" ++ toString ".loop" : String) = "min.loop" := by decide
 intro k;induction k with
 |zero =>
  intro j s i c X Y r l T z G;let B:j+1=n:=∅
  calc Im F.entry_min_loop ?_;rw[Cd.under_plainId F.plain_min_loop _];show DO _ A.in1 (Kd (.ref S) >>= _) _ _ s;calc zo<|Js z rfl ?_;show DO _ A.in1 (tryCatch (GR<|.ref I) _ >>= _) _ _ s;calc zo<|JN<|W.done s _ _ (B ▸ r) λh' E a=>?_;let g:=a S _ C z;show DO _ A.in1 (Jz S (λ_=>#[]) >>= _) _ _ _;calc zo ?_;calc JA g rfl<|zo<|Ke<|zp ?_;refine G i _ E (by rw[←B];exact l) λb o d f e=>(Az.get?_update_other _ _<|Ne.symm f).trans<|a b o d e
 |succ k O =>
  intro j s i c X Y r l T z G;let t:j+1<n:=∅
  calc Im F.entry_min_loop ?_;rw[Cd.under_plainId F.plain_min_loop _];show DO _ A.in1 (Kd (.ref S) >>= _) _ _ s;calc zo<|Js z rfl ?_;show DO _ A.in1 (tryCatch (GR<|.ref I) _ >>= _) _ _ s;calc zo<|JN<|W.item (j+1) s _ _ t r λv h' E Q M a=>?_;let g:=a S _ C z;let x:∀b o,b ∉ S :: wr->s0.heap.get? b=Kg o->h'.get? b=Kg o:=λb o m e=>a b o (λq=>m<|.tail _ q)<|T b o m e
  show DO _ A.in1 (tryCatch (holding [v,v] (IG .Lt v i >>= _)) _ >>= _) _ _ _;calc zo<|JN<|zq<|zo<|V (j+1) (Kc p j) v i _ _ _ x Q l (tR<|Nat.lt_succ_of_le<|um p j) ?_;calc zo<|zq<|Gk ?_;calc zo<|Ke<|zp ?_;cases m:p (j+1) (Kc p j) with
  |true =>
   simp only[if_true];calc zo ?_;calc JA g rfl<|zo<|Ke ?_;rw[N]
   refine zp ⟨IL F.plain_min_loop _,O (j+1) _ v _ ∅ t (W.frame _ _ _ M λb L o e=>?_) (by simp only[Kc,m,if_true];exact Q) (λb o m e=>(Az.get?_update_other _ _ (λh:S=b=>m (by rw[h];exact .head _))).trans (x b o m e)) (Az.get?_update_self _ g rfl)
    λK y J u H=>?_⟩
   .exact(Az.get?_update_other _ _ (λh:S=b=>D (by rw[h];exact L))).trans e
   .exact G K y J u λb o d f e=>H b o d f<|(Az.get?_update_other _ _<|Ne.symm f).trans<|a b o d e
  |false =>
   simp only[yz,if_false];calc zo<|Ke ?_;rw[N];refine zp ⟨IL F.plain_min_loop _,O (j+1) _ i c ∅ t M (by simp only[Kc,m,yz,if_false];exact l) x g λK y J u H=>?_⟩;calc G K y J u λb o d f e=>H b o d f<|a b o d e
theorem qP(W:GY prog w A.in1 I fp wr n P St)(k:Nat->Nat->Bool){s0:Cg}(S:Ak)(E:zT prog w A.in1 .Lt s0 (S :: wr) P k)(d:S ∉ fp)(y:0<n){s:Cg}{c:Nat}(l:St 0 s.heap)(L:∀b o,b ∉ S :: wr->s0.heap.get? b=Kg o->s.heap.get? b=Kg o)
  (z:s.heap.get? S=Kg { cls:=.type "list",dict:=Kh,data:=.seq #[] c,slots:=#[] })
  (J:∀v h' x,P (Kc k<|n-1) v->(∀b o,b ∉ wr->b≠S->s.heap.get? b=Kg o->h'.get? b=Kg o)->R (.ok<|.ret v) { s with heap:=h',toks:=x }) :
  Hn (model prog w) A (.builtin "min.loop" ⟨[.ref I,.none,.ref S],[]⟩) R s:=by
 let p:S ∉ wr:=λh=>d<|W.sub _ h
 let H:(toString "min" ++ toString ".loop" : String) = "min.loop" := by decide
 calc Im F.entry_min_loop ?_;rw[Cd.under_plainId F.plain_min_loop _];show DO _ A.in1 (Kd (.ref S) >>= _) _ _ s;calc zo<|Js z rfl ?_;show DO _ A.in1 (tryCatch (GR<|.ref I) _ >>= _) _ _ s;calc zo<|JN<|W.item 0 s _ _ y l λv h' x K B a=>?_;let j:=a S _ p z;let t:∀b o,b ∉ S :: wr->s0.heap.get? b=Kg o->h'.get? b=Kg o:=λb o f e=>a b o (λq=>f<|.tail _ q)<|L b o f e
 show DO _ A.in1 (Jz S (λ_=>#[v,v]) >>= _) _ _ _;calc zo ?_;calc JA j rfl ?_;rw[H];refine zp ⟨IL F.plain_min_loop _,tf W k S E d _ 0 _ v _ rfl y (W.frame _ _ _ B λb m o e=>?_) K (λb o f e=>(Az.get?_update_other _ _ (λh:S=b=>f (by rw[h];exact .head _))).trans (t b o f e)) (Az.get?_update_self _ j rfl) λG u D r C=>?_⟩
 .exact(Az.get?_update_other _ _ (λh:S=b=>d (by rw[h];exact m))).trans e
 .exact J G u D r λb o g i e=>C b o g i<|(Az.get?_update_other _ _<|Ne.symm i).trans<|a b o g e
end
section
variable{prog:zM}{w:zJ}{A:Cd}{E:zz->Cg->Prop}{s:Cg}
theorem min_listAt{l:Ak}{items:Array zz}{Q:zz->Cg->Prop}(G:A.handled=Kh)(p:s.heap.IsList l items)(c:0<items.size)(t:Nat->Nat->Bool)
  (z:∀i j m k (s':Cg)(Q:zz->Cg->Prop)(E:zz->Cg->Prop),(∀b o,s.heap.get? b=Kg o->s'.heap.get? b=Kg o)->items[i]?=Kg m->items[j]?=Kg k->i≠j->Q (.bool<|t i j) s'->DO (model prog w) A.in1 (IG .Lt m k) Q E s')
  (h:∀v h' n,items[Kc t (items.size-1)]?=Kg v->(∀b o,s.heap.get? b=Kg o->h'.get? b=Kg o)->Q v { s with heap:=h',toks:=n }) :
  DO (model prog w) A (call (.builtin "min") [.ref l]) Q E s:=by
 let C:(toString "min" ++ toString ".loop" : String) = "min.loop" := by decide
 calc call_function_tree F.kind_min F.plain_min F.entry_min (F.args_min1 _) ?_;show DO _ A.in1 (G0.Builtins.bindParams "min" ["key","default"] 0 ⟨[],[]⟩ >>= _) _ _ s;refine zo<|Iq (show G0.Builtins.bindParams "min" ["key","default"] 0 ⟨[],[]⟩=pure [Kh,Kh]from rfl) ?_;calc zo<|zp ?_;let g:l<s.heap.objs.size:=by let(_,e,_):=p;exact Az.lt_size e
 calc zo<|GZ p ?_;let B:(s.heap.push { cls:=.type "list_iterator",data:=.fields #[.ref l,.int 0 0] }).IsListIter s.heap.objs.size l 0/\(s.heap.push { cls:=.type "list_iterator",data:=.fields #[.ref l,.int 0 0] }).IsList l items:=⟨⟨_,Az.get?_push_size _ rfl,rfl,rfl⟩,p.push _⟩;let f:(s.heap.push { cls:=.type "list_iterator",data:=.fields #[.ref l,.int 0 0] }).objs.size=s.heap.objs.size+1:=Az.size_push ..;calc zo<|HW ?_;let W:=GY.list (prog:=prog) (w:=w) (A:=A.in1) G s.heap.objs.size l (tN g) items;let u:(s.heap.push { cls:=.type "list_iterator",data:=.fields #[.ref l,.int 0 0] }).objs.size ∉ [s.heap.objs.size,l]:=λa=>by
  rw[f]at a;rcases dt.mp a with e|a
  .exact Kp e<|tR<|vr _
  .let:=gu.mp a;exact Kp this<|tR<|vb g
 rw[C];let x:∀(h':Az),(∀b o,b ∉ (s.heap.push { cls:=.type "list_iterator",data:=.fields #[.ref l,.int 0 0] }).objs.size :: [s.heap.objs.size]->s.heap.get? b=Kg o->h'.get? b=Kg o)->∀b o,s.heap.get? b=Kg o->h'.get? b=Kg o:=λh' d b o e=>d b o (λa=>by
  let:=Az.lt_size e;rw[f]at a;rcases dt.mp a with r | a
  .subst r;exact Kp this<|Nat.not_lt.mpr<|uM _
  .let r:=gu.mp a;subst r;exact Kp this (va _)) e
 calc zp ⟨IL F.plain_min_loop _,qP (A:=A) (s0:=s) W t _ (λi j m k s' Q E d hi D c H=>z i j m k s' Q E (x _ d) hi D c H) u c (W.frame 0 (s.heap.push { cls:=.type "list_iterator",data:=.fields #[.ref l,.int 0 0] }) _ B λb _ o e=>Az.get?_push_of_some _ e) (λb o _ e=>Az.get?_push_of_some _<|Az.get?_push_of_some _ e) (Az.get?_push_size _ rfl) λv h' n I d=>?_⟩;calc(h v h' n I<|x _ λb o y e=>d b o (λq=>y<|.tail _ q) (λq=>y (by rw[q];exact .head _)) (Az.get?_push_of_some _<|Az.get?_push_of_some _ e))
end
end HT
namespace L2
open PySem PySem.Spec PyProof.Rows
variable{X:Cx}
def tm{prog:zM}{w:zJ}{A:Cd}{E:zz->Cg->Prop}{s:Cg}{i j:Int}{t u:Tok}{Q:zz->Cg->Prop}(h:Q (.bool<|Kk<|i<j) s):DO (model prog w) A (IG .Lt (.int i t)<|.int j u) Q E s :=
 richCompare_gives (op:=.Lt) (HH s _ t) (HH s _ u) F.slot_int_lt F.entry_int_lt (F.args_int_lt_2 _ _) (gives_int_lt _ _ t u) (λx=>nomatch x) h
theorem vz{k:Nat}(hr:b8 k X.A)(hc:X.calm=Ki):cw X (.builtin "min") (λus H Q=>∃(a:Ak)(c:La Ak)(ks:Nat->Int),us=[.ref a]/\SqL X.K H a (c.map V.ref)/\0<c.length /\
  (∀(j:Nat)(t:Ak),c[j]?=Kg t->∃rs,H t=Kg (.tup (.int (ks j) :: rs)))/\(∀i j,i<c.length->j<c.length->ks i=ks j->i=j)/\∀(j:Nat)(t:Ak),c[j]?=Kg t->(∀i,i<c.length->ks j<=ks i)->Q (.ref t) H):=by
 intro a1 s σ H us vs Q I r h;let(a,c,ks,rfl,hq,a8,m,DY,q):=h;let(u,rfl,rx):=r.one;cases (show u=zz.ref a from rx);let(d,rv,pl,hz):=I.list hq;let hu:=hr.units;let hl:=pl.isList;let a2:d.length=c.length:=by have:=rv.length;rw[dn]at this;lia
 let f:∀(j:Nat)(v:zz),d.toArray[j]?=Kg v->∃t,c[j]?=Kg t/\v=.ref t:=λj v e=>by
  let e:d[j]?=Kg v:= ~~~e
  let hj:=(GD.mp e).1;let D:=GC (l:=c) (i:=j) ∅;let(u0,g1,w1):=rv.get (i:=j) (x:=.ref<|c[j]'∅) (by rw[dy,D];rfl);rw[e]at g1;cases g1;exact⟨_,D,w1⟩
 refine HT.min_listAt (I.ok.hd hc) hl (~~~(show 0<d.length by lia)) (λi j=>decide<|ks i<ks j) (λi j vi vj s' Q' E' g hi hj N G=>?_) λv h' tk hv g=>?_
 .let(W,ei,rfl):=f i vi hi;let(T,ej,rfl):=f j vj hj;let(a5,O):=m i W ei;let(a4,M):=m j T ej;let(a7,r1,p1,_):=I.tuple<|SqT.of O;let(a6,r2,p2,_):=I.tuple<|SqT.of M;cases r1 with
  | @cons _ u1 _ us1 h1 r1 =>
  cases r2 with
  | @cons _ u2 _ us2 J r2 =>
  let(Z,rfl):=h1;let(Y,rfl):=J;let((a9,dd,a3,sl),ho,C,n,hd):=id p1;let((Gp,R,S,L),p,B,n2,y):=id p2;simp only at C hd B y;subst C hd B y;let DZ:(ks i == ks j)=false:=beq_eq_false_iff_ne.mpr λz=>N<|DY i j (GD.mp ei).1 (GD.mp ej).1 z
  exact richCompare_meets_room (op:=.Lt) ⟨_,g _ _ ho,U⟩ ⟨_,g _ _ p,U⟩ PySem.F.slot_tuple_lt PySem.F.entry_tuple_lt (PySem.F.args_tuple_lt_2 _ _) (HT.tuple_lt_at W T _ _ n n2 dd R sl L 0 (.int (ks i) Z) (.int (ks j) Y) (Kk<|ks i<ks j) (by simp) (by simp))
   ⟨g _ _ ho,g _ _ p,(λi' _ _ P=>Kp P<|v5 _),(by have:=PySem.SeqAt.EqAt.int_int (A:=X.A.in1.in1) (s:=s') (ks i) Z (ks j) Y;rw[DZ]at this;exact this),(λa0 w Q E G=>tm G),show zz.bool (Kk<|ks i<ks j)≠zz.notImplemented/\_ from⟨(λx=>nomatch x),G⟩⟩ (by show X.A.in1.units<Ht;let:X.A.in1.units=X.A.units+1:=rfl;lia)
 .let(t,D,rfl):=f _ v hv;let(h1,J):=argBest_lt ks<|d.toArray.size-1;refine⟨.ref t,H,I.kept (t':=tk) λb o e=>g b o e,U,q _ t D λi hi=>J i (by simp;lia)⟩
set_option maxRecDepth 100000
section
variable{prog:zM}{w:zJ}{A:Cd}{E:zz->Cg->Prop}{s:Cg}
theorem qQ:Iv (.type "zip") "keys" = pure none:=by rw[Ja,Jb];kernel_rfl
theorem mS:Iv (.type "zip") "__getattr__" = pure none:=by rw[Ja,Jb];kernel_rfl
theorem pG:Jd table "zip.__getattribute__" = Kg G0.«object.__getattribute__»:=Jf (id' := "object.__getattribute__") (by kernel_rfl) (~~~0) (~~~0) (by kernel_rfl)
theorem xw(a:Ak)(vs:Array zz)(e:Array (Option zz))(u:Tok) :
  Meets (G0.«object.__getattribute__» ⟨[.ref a,.str "keys" u],[]⟩) (λA R s=>s.heap.get? a=Kg { cls:=.type "zip",dict:=Kh,data:=.fields vs,slots:=e }/\raisesAttr (.ref a) "keys" A R s) :=
 Meets.of_wp λprog w A R s b=>by
  let(j,g,d,c,f):=s;let(i,b):=b;let k:(⟨j,g,d,c,f⟩:Cg).TypeIs (.ref a) "zip" := ⟨_,i,U⟩;let l:=qQ;let h:(["__module__","__name__","__qualname__","__doc__","__annotations__"]:La Str).contains "keys" = false:=⋯
  unfold G0.«object.__getattribute__»
  repeat (any_goals (first|assumption|wp_step))
  try simp only[h,yz,if_false]
  repeat (any_goals (first|assumption|wp_step))
  calc wpAny_raiseAttrError b.1 b.2<|attrMsg_fits (~~~0) ⋯
theorem tq{a:Ak}{vs:Array zz}{j:Array (Option zz)}{Q:Option zz->Cg->Prop}(k:s.heap.get? a=Kg { cls:=.type "zip",dict:=Kh,data:=.fields vs,slots:=j }) (p:A.handled=Kh)
  (h:∀h' i,(∀b o,s.heap.get? b=Kg o->h'.get? b=Kg o)->Q Kh { s with heap:=h',toks:=i }) :
  DO (model prog w) A (Ir (.ref a) "keys") Q E s:=by
 let(n,g,d,i,m):=s;let l:∀c,(⟨n,g,d,c,m⟩:Cg).TypeIs (.ref a) "zip" := λ_=>⟨_,k,U⟩
 let y:=JL;let x:=F.slot_zip_getattribute.lookup;let v:=F.slot_zip_getattribute.bind<|.ref a;let u:=mS;unfold Ir getAttrBy? getAttrBy
 repeat (any_goals (first|assumption|exact l _|((with_reducible show DO _ _ (call (zz.builtin "zip.__getattribute__") _ _) _ _ _);refine HL F.slot_zip_getattribute (l _) pG (F.args_zip_getattribute_2 _ _) (xw a vs j _) ⟨k,p,λh' c e f=>?_⟩)|wp_step))
 let(r,q,t):=f.there;show DO _ _ (JM _ _ _ _ _ _ _) _ _ _;unfold JM
 repeat (any_goals (first|assumption|wp_step))
 calc h _ _ f.of.keeps
theorem tu{z TI TO e d k j:Ak}{i N:Nat}{xs ys:Array zz}{x y:zz}{Q:Option zz->Cg->Prop}(D:JE z TI TO e d k j)(P:z<N)(X:TO<N)(u:e<N)(t:d<N)(K:N<=s.heap.objs.size)
  (g:ud s.heap z TI TO N i)(G:JD s.heap TI (.ref e) (.ref d))(f:∃a b,JD s.heap TO a b)(B:s.heap.IsListIter e k i)(v:s.heap.IsListIter d j i)(F:s.heap.IsList k xs)(C:s.heap.IsList j ys)(I:xs[i]?=Kg x)(H:ys[i]?=Kg y)
  (J:∀h',ud h' z TI TO N (i+1)->(∃a b,JD h' TO a b)->h'.IsListIter e k (i+1)->h'.IsListIter d j (i+1)->JD h' s.heap.objs.size x y->h'.objs.size=s.heap.objs.size+1 ->
   (∀b o,b≠z->b≠TO->b≠e->b≠d->s.heap.get? b=Kg o->h'.get? b=Kg o)->Q (Kg<|.ref s.heap.objs.size) { s with heap:=h' }) :
  DO (model prog w) A (GR<|.ref z) Q E s:=by
 let(a,b,f):=f;rcases g with⟨_,g⟩|⟨M,Y,o,c,O,g,L,R⟩
 .refine JF D g G f B v F C (x:=x) (y:=y) I H λh' r W p n l m h=>?_
  exact J h' (.inr ⟨s.heap.objs.size,Kj,_,K,tR<|tP P K,r,l,U⟩) ⟨_,_,W⟩ p n l m h
 .refine vn D g L G f B v F C (x:=x) (y:=y) I H λh' r p n l m h=>?_
  calc J h' (.inr ⟨M,Ki,o,c,O,r,h M o O (neA u c) (neA t c) L,R⟩) ⟨_,_,h TO _ D.TOz D.TOi1 D.TOi2 f⟩ p n l m λb o V _ T S q=>h b o V T S q
theorem vA{z TI TO f e h g:Ak}{i N:Nat}{xs ys:Array zz}{Q:Option zz->Cg->Prop}(t:A.handled=Kh)(D:JE z TI TO f e h g)
  (c:ud s.heap z TI TO N i)(r:JD s.heap TI (.ref f) (.ref e))(d:∃a b,JD s.heap TO a b)(l:s.heap.IsListIter f h i)(j:s.heap.IsListIter e g i)(n:s.heap.IsList h xs)(m:s.heap.IsList g ys)(p:xs[i]?=Kh\/ys[i]?=Kh)
  (u:∀h',(∀b o,b≠z->b≠TO->b≠f->b≠e->s.heap.get? b=Kg o->h'.get? b=Kg o)->Q Kh { s with heap:=h' }) :
  DO (model prog w) A (GR<|.ref z) Q E s:=by
 let(a,b,d):=d;rcases c with⟨_,c⟩|⟨G,F,o,C,_,c,v,_⟩
 .exact JG t D c r d l j n m p u
 .exact xa t D c v r d l j n m p λh' k=>u h' λb o B _ y x q=>k b o B y x q
end
section
variable{prog:zM}{w:zJ}{A:Cd}{E:zz->Cg->Prop}
theorem pH{a:Type} [DecidableEq a] {knd:KeyKind prog w a}{h h':Az}{d:Ak}{kvs:La (a×zz)}(c:h.DictOf knd d kvs)(k:∀o,h.get? d=Kg o->h'.get? d=Kg o):h'.DictOf knd d kvs:=by
 let(o,e,f,b,r):=c;calc⟨o,e,f,k _ b,r⟩
theorem tw{v:Type} [DecidableEq v] {knd:KeyKind prog w v}{z TI TO u t r m d:Ak}{xs ys:Array zz}{ps:La (v×zz)}{res:zz}(hh:A.handled=Kh)(D:JE z TI TO u t r m)(N:Nat)(hz:z<N)(a8:TO<N)(Y:u<N)(X:t<N)
  (c1:r<N)(c0:m<N)(c2:TI<N)(Z:d<N)(c:d≠z/\d≠TI/\d≠TO/\d≠u/\d≠t/\d≠r/\d≠m)(b6:ps.length=min xs.size ys.size)
  (hP:∀(j:Nat)(p:v×zz),ps[j]?=Kg p->∃f,xs[j]?=Kg f/\ys[j]?=Kg p.2/\knd.is p.1 f=Ki) :
  ∀(k i:Nat)(s:Cg)(kvs:La (v×zz))(L:Tok)(R:Hm->Cg->Prop),ps.length=i+k->N<=s.heap.objs.size->ud s.heap z TI TO N i->JD s.heap TI (.ref u) (.ref t)->(∃a b,JD s.heap TO a b)->s.heap.IsListIter u r i->s.heap.IsListIter t m i->s.heap.IsList r xs->s.heap.IsList m ys->s.heap.DictOf knd d kvs->kvs.length+k<=AA ->
   (∀h' I,h'.DictOf knd d (merged kvs<|ps.drop i)->(∀b o,b<N->b≠d->b≠z->b≠TO->b≠u->b≠t->s.heap.get? b=Kg o->h'.get? b=Kg o)->R (.ok<|.ret res) { s with heap:=h',toks:=I }) ->
   Hn (model prog w) A (.builtin "dict.update.loop" ⟨[.ref d,.ref z,.int (i:Int) L,res],[]⟩) R s:=by
 intro k;induction k with
 |zero =>
  intro i s kvs L R e hN P C M K J B y O W Q;calc Im cX ?_;rw[Cd.under_plainId br _];unfold G0.«dict.update.loop»;show DO _ A.in1 (GR (.ref z) >>= _) _ _ s;let pq:xs[i]?=Kh\/ys[i]?=none:=by
   by_cases hx:xs.size<=i
   .exact .inl<|Array.getElem?_eq_none hx
   .exact .inr<|Array.getElem?_eq_none ∅
  refine zo (vA (by simp[hh]) D P C M K J B y pq λh' h=>?_);show DO _ A.in1 (G0.Dict.addKeywords d [] >>= _) _ _ _;calc zo<|zp<|zp ?_;let e':ps.drop i=[]:=List.drop_of_length_le ∅;refine Q h' _ ?_ λb o _ _ H G F E q=>h b o H G F E q
  rw[e'];exact pH O λo q=>h d o c.1 c.2.2.1 c.2.2.2.1 c.2.2.2.2.1 q
 |succ k ih =>
  intro i s kvs L R e hN P C M K J B y O W Q;let ep:=GC (l:=ps) (i:=i) ∅;let(f,ex,ey,ek):=hP i _ ep;calc Im cX ?_;rw[Cd.under_plainId br _];unfold G0.«dict.update.loop»;show DO _ A.in1 (GR (.ref z) >>= _) _ _ s;calc zo<|tu D hz a8 Y X hN P C M K J B y ex ey λh' z1 z2 z3 z4 z5 z6 h=>?_;calc zo<|zq ?_;calc zo<|JN ?_;unfold G0.Dict.pairItems;calc zo<|Jy (T := "tuple") ⟨_,z5,U⟩ ?_;rw[Ko ⋯];calc zo<|Js z5 U<|zp ?_;show DO _ _ (holding [f,(ps[i]).2] (dictSet d f (ps[i]).2)) _ _ _;calc zq ?_;let a7:h'.DictOf knd d kvs:=pH O λo q=>h d o c.1 c.2.2.1 c.2.2.2.1 c.2.2.2.2.1 q
  calc JO ek a7 (λS a6 x=>?_) ∅;let g:∀b o,b≠d->h'.get? b=Kg o->S.get? b=Kg o:=λb o n q=>(x.2 b n).trans q
  let b5:(stored kvs (ps[i]).1 (ps[i]).2).length<=kvs.length+1:=by
   unfold stored;split
   .rw[dn];lia
   .rw[gp];simp
  let a9:ps.drop i=ps[i] :: ps.drop (i+1):=List.drop_eq_getElem_cons ∅;refine zp ⟨IL br _,?_⟩
  let go:=ih (i+1) { s with heap:=S,toks:=s.toks+1 } (stored kvs (ps[i]).1 (ps[i]).2) 0 R ∅ (by show N<=S.objs.size;rw[x.1,z6];lia) ?_ (g TI _ c.2.1.symm<|h TI _ D.TIz D.TITO D.TIi1 D.TIi2 C) ?_ (z3.at λo q=>g u o c.2.2.2.1.symm q) (z4.at λo q=>g t o c.2.2.2.2.1.symm q)
   ((B.at λo q=>h r o D.l1z D.l1TO D.l1i1 D.l1i2 q).at λo q=>g r o c.2.2.2.2.2.1.symm q) ((y.at λo q=>h m o D.l2z D.l2TO D.l2i1 D.l2i2 q).at λo q=>g m o c.2.2.2.2.2.2.symm q) a6 ∅ (λh3 I a0 V=>?_)
  .exact go
  .rcases z1 with⟨z',_⟩|⟨T0,bb,o,a1,a2,a3,a4,a5⟩
   .exact Kp z' ∅
   .exact .inr ⟨T0,bb,o,a1,a2,g z _ c.1.symm a3,g T0 _ (neA Z a1) a4,a5⟩
  .let(a',b',q):=z2;exact⟨a',b',g TO _ c.2.2.1.symm q⟩
  .refine Q h3 I ?_ λb o b0 bd H G F E q=>V b o b0 bd H G F E<|g b o bd<|h b o H G F E q
   rw[a9];calc a0
theorem nI{B:Type} [DecidableEq B] {knd:KeyKind prog w B}{s:Cg}{z TI TO k i G C:Ak}{xs ys:Array zz}{ps:La (B×zz)}{Q:zz->Cg->Prop}(W:A.handled=Kh)(D:JE z TI TO k i G C)(h:IsZip s.heap z TI TO .none)(R:JD s.heap TI (.ref k) (.ref i))(P:JD s.heap TO .none .none)
  (t1:s.heap.IsListIter k G 0)(M:s.heap.IsListIter i C 0)(O:s.heap.IsList G xs)(N:s.heap.IsList C ys)(K:ps.length=min xs.size ys.size)(hsz:ps.length<=AA)(L:(ps.map (·.1)).Nodup)
  (hP:∀(j:Nat)(p:B×zz),ps[j]?=Kg p->∃v,xs[j]?=Kg v/\ys[j]?=Kg p.2/\knd.is p.1 v=Ki)
  (Z:∀h' H,h'.DictOf knd s.heap.objs.size ps->(∀b o,b≠z->b≠TO->b≠k->b≠i->s.heap.get? b=Kg o->h'.get? b=Kg o)->Q (.ref s.heap.objs.size) { s with heap:=h',toks:=H }) :
  DO (model prog w) A (call (.type "dict") [.ref z]) Q E s:=by
 calc JP (Q₁:=λobj f=>obj=.ref s.heap.objs.size/\f={ s with heap:=s.heap.push { cls:=.type "dict",data:=.dict #[] } }) F.kt_called_dict (F.kt_typeCall_dict_1 _) F.entry_dict_init (JQ _ ⟨U,U⟩) ?_;rintro obj f ⟨rfl,rfl⟩;let I:(s.heap.push { cls:=.type "dict",data:=.dict #[] }).DictOf knd s.heap.objs.size []:=Az.DictOf.new s.heap;let J:∀b o,s.heap.get? b=Kg o->(s.heap.push { cls:=.type "dict",data:=.dict #[] }).get? b=Kg o:=λb o e=>Az.get?_push_of_some _ e
 calc⟨I.typeIs,F.args_dict_init_2 _ _,?_⟩;unfold G0.«dict.__init__»;calc zo ?_;unfold G0.Dict.selfAndRest;calc zo<|JR I.typeIs ?_;show DO _ _ (pure (s.heap.objs.size,[zz.ref z])) _ _ _;calc zp ?_;show DO _ _ (G0.Dict.updateFrom "dict.__init__" s.heap.objs.size (.ref z) [] .none) _ _ _;unfold G0.Dict.updateFrom;calc zo<|Jy (T := "zip") ⟨_,J _ _ h,U⟩ ?_;rw[Ko ⋯];refine zo (tq (s:={ s with heap:=s.heap.push { cls:=.type "dict",data:=.dict #[] } }) (J _ _ h) (by simp[W]) λg l V=>?_);rw[Ko (by rfl)];calc zo<|Iz ?_;let a:∀b o,s.heap.get? b=Kg o->g.get? b=Kg o:=λb o e=>V b o<|J b o e
 calc zo<|JH (s:={ s with heap:=g,toks:=l }) (a _ _ h) ?_;let x:g.DictOf knd s.heap.objs.size []:=pH I λo e=>V _ _ e
 let c:s.heap.objs.size<g.objs.size:=by let(o,es,ep,Y,_):=x;exact Az.lt_size Y
 let S:=Az.lt_size h;let u:=Az.lt_size R;let t:=Az.lt_size P;let r:k<s.heap.objs.size:=let ⟨_,e,_⟩:=t1;Az.lt_size e;let q:i<s.heap.objs.size:=let ⟨_,e,_⟩:=M;Az.lt_size e;let n:G<s.heap.objs.size:=let ⟨_,e,_⟩:=O;Az.lt_size e;let m:C<s.heap.objs.size:=let ⟨_,e,_⟩:=N;Az.lt_size e;calc zp ⟨IL br _,?_⟩;refine tw (prog:=prog) (w:=w) (knd:=knd) (d:=s.heap.objs.size) (ps:=ps) (res:=.none) (by simp[W]) D g.objs.size (uL S c) (uL t c) (uL r c) (uL q c) (uL n c) (uL m c) (uL u c) c ⟨tR S,tR u,tR t,tR r,tR q,tR n,tR m⟩ K hP ps.length 0 { s with heap:=g,toks:=l } [] 0 _ ∅ (tj _) (.inl ⟨U,a _ _ h⟩) (a _ _ R) ⟨_,_,a _ _ P⟩ (t1.at λo e=>a _ _ e) (M.at λo e=>a _ _ e) (O.at λo e=>a _ _ e) (N.at λo e=>a _ _ e) x (~~~hsz) (λh' H y X=>?_);rw[List.drop_zero,JS ps L]at y;calc⟨U,Z h' H y λb o b1 b2 b3 b4 e=>X b o (uL (Az.lt_size e) c) (tN<|Az.lt_size e) b1 b2 b3 b4<|a _ _ e⟩
end
set_option maxRecDepth 100000
inductive zU  (x:V)(y:V)(H:Hp)(Q:VK):Prop
 |mk (a b:Ak)(kvs:La (Key×V))(_:x=.ref a)(_:y=.ref b)(_:H a=Kg (.dK kvs))(_:H b=Kg (.dK kvs))(_:(∀p∈kvs,bM p.2=Ki/\bx kvs p.1=Kg p.2))(_:Q (.bl Kj) H):zU x y H Q
theorem yN{A:Cd}{s:Cg}{kvs:La (Key×V)}{f:La (Key×zz)}(n:KV kvs f):∀{ks:La (Key×V)}{a:La (Key×zz)},KV ks a->(∀p∈ks,bM p.2=Ki/\bx kvs p.1=Kg p.2)->W.KeqHits A s f a true:=by
 intro ks a g;unfold KV at g;induction g with
 |nil=>intro _;exact .nil
 | @cons p q ps qs h t ih =>
  intro j;let(c,u):=h;let(d,w):=j p dO;let i:=n.val p.1;rw[w]at i;let(y,x,m):=iq.some_of i;let l:=mi (A:=A) (s:=s) u m d d;let e:eqV p.2 p.2=true:=kn d;rw[e]at l;let(k,v):=q;let c:p.1=k:=c;subst c;calc W.KeqHits.hit (e:=Ki) (b:=Ki) x l<|ih λo r=>j o<|dV _ r
theorem yO{k:Nat}(n:b8 k X.A):OpR X (G4 .NotEq) zU:=by
 intro e s E H x y v u Q I j i h;let(a,b,D,rfl,rfl,z,w,o,q):=h;cases j;cases i;let(_,t,g,d,C):=oJ I.hok z;let(_,p,f,c,B):=oJ I.hok w;let m:=Paired.length d;let l:=Paired.length c;calc W.keq_ne (r:=Ki) t p C B n.units0 (λ_=>yN c d o) ?_;rw[show(!(g.length == f.length && Ki))=Kj by rw[←m,←l];simp];calc⟨.bl Kj,H,I,U,q⟩
inductive Cs(K:W.Frag)(Q:VK)(vs:La V)(H1:Hp):Prop
 |mk (a b:Ak)(ks:La Str)(ys:La V)(_:vs=[.ref a,.ref b])(_:SqL K H1 a (ks.map V.str))(_:SqL K H1 b ys)(_:ks.length=ys.length)(_:ks.Nodup)(_:∀D,H1 D=Kh->Q (.ref D) (upd H1 D<|.dK<|kvT<|ks.zip ys))
def tDZ(K:W.Frag)(c:TA):TE:=λa H Q=>c a H λb d=>Cs K Q b d
theorem tD{f g:D0}{ta:TA}{p1 p2 xr N:Pos}(V:X.calm=Ki)(hg:Gl X "dict") (hm:X.mg "dict" = Kh) (T:Gl X "zip") (S:X.mg "zip" = Kh) (ha:PA X [f,g] ta)
  (hs:E2 [f,g] X.env=[(Kj,eval f X.env),(Kj,eval g X.env)]:=by rfl)(n:E2 [g] X.env=[(Kj,eval g X.env)]:=by rfl) :
  PE X (.Call (.Name "dict" p1) [.Call (.Name "zip" p2) [f,g] [] N] [] xr) (tDZ X.K ta):=by
 intro m s Y H Q I h;calc zt<|fg I hg hm PyProof.Rows.boot_dict ?_;calc PyProof.Rows.callWith_type1 ?_ U U;show DO _ _ (spliced ((Kj,eval (.Call (.Name "zip" p2) [f,g] [] N) X.env) :: E1 xr (E2 [] X.env))) _ _ s;calc Calls.spliced_cons ?_;calc zt<|fg I T S PyProof.Rows.boot_zip ?_;refine PyProof.Rows.callWith_type1 (thn (ha N m s Y H _ I h) λus d ⟨A,H1,l,r1,q1⟩=>?_) (by rw[hs,n]) (by rw[n];rfl);let(a,b,L,ys,rfl,qa,qb,hl,r,q):=q1;let(u,v,rfl,ru,rv):=r1.two;cases (show u=zz.ref a from ru);cases (show v=zz.ref b from rv);let(us,vu,J,zu):=l.list qa;let(A,vv,pv,zv):=l.list qb;let(oa,ea,_):=id J.isList;let(ob,eb,_):=id pv.isList;let la:a<d.heap.objs.size:=Az.lt_size ea;let lb:b<d.heap.objs.size:=Az.lt_size eb;let l1:=vu.length;let l2:=vv.length;rw[dn]at l1;refine call_zip_2 J.isList pv.isList λh' z1 z2 z3 z4 z5 Z F=>?_
 calc Calls.spliced_nil ?_;let D:JE (d.heap.objs.size+4) (d.heap.objs.size+2) (d.heap.objs.size+3) d.heap.objs.size (d.heap.objs.size+1) a b:=by
  calc⟨?_,?_,?_,?_,?_,?_,?_,?_,?_,?_,?_,?_,?_,?_,?_,?_,?_,?_⟩ <;> first|exact tN ∅|exact tR ∅|exact tN la|exact tN lb|exact tN (tP la<|vT _ _)|exact tN (tP lb<|vT _ _)
 let R:∀(j:Nat)(p:Key×zz),((L.map λz=>(Sum.inr z:Key)).zip A)[j]?=Kg p->∃k,us.toArray[j]?=Kg k/\A.toArray[j]?=Kg p.2/\(bp X.prog X.w).is p.1 k=true:=λj p e=>by
  rw[List.getElem?_zip_eq_some,dy]at e;let(f,g):=e;let(z,C,f):=Option.map_eq_some_iff.mp f;let(k,ek,rk):=vu.get (i:=j) (x:=.str z) (by rw[dy,C];rfl);let(G,rfl):=(show ∃G,k=zz.str z G from rk);exact⟨_,~~~ek,~~~g,by rw[←f];exact fF X.prog X.w z G⟩
 refine nI (s:={ d with heap:=h' }) (knd:=bp X.prog X.w) (ps:=(L.map λz=>(Sum.inr z:Key)).zip A) (l.ok.hd V) D z1 z2 z3 z4 z5 (J.isList.at λo e=>F _ _ e) (pv.isList.at λo e=>F _ _ e) (by simp[lE];lia) (by rw[lE,dn];lia) ?_ R λB tk hd k3=>?_
 .rw[List.map_fst_zip (by rw[dn];lia)];rw[nk]at r⊢;rw[nr];exact r.imp λ{a b} W z=>W (by injection z)
 .let P:Cg.heap { d with heap:=h' }=h':=rfl;rw[P]at hd k3;rw[Z]at hd;let kp:∀c o,d.heap.get? c=Kg o->B.get? c=Kg o:=λc o e=>by
   let:=Az.lt_size e;exact k3 c o (ltA this _) (ltA this _) (tN this) (ltA this _)<|F c o e
  show EP X m Y Q _ _;rw[show(Cg.heap { d with heap:=h' }).objs.size=d.heap.objs.size+5 from Z];let D1:(d.heap.objs.size+5 == AY)=false:=by
   let:=ug l;let h1:B7<d.heap.objs.size:=(l.mod.glob.keeps l.bk).lt;let B:AY<d.heap.objs.size:=uL ⋯ h1;exact beq_eq_false_iff_ne.mpr<|tR<|tP B<|vT _ _
  refine⟨.ref<|d.heap.objs.size+5,_,l.laid (h':=B) (t':=tk) (o:=.dK<|kvT<|L.zip ys) kp (vT _ _) ⟨by unfold kvT;rw[dn,lE];lia,D1,_,lj (by unfold kvT;rw[dn,lE,lE,dn];lia) (λj x y ex E=>?_),hd⟩,U,q _<|l.hok.fresh<|vT _ _⟩;let(p,M,rfl):=pD ex;rw[List.getElem?_zip_eq_some]at M E;rw[dy]at E;let(z,C,f):=Option.map_eq_some_iff.mp E.1;rw[M.1]at C;cases C;let(v1,t,O):=vv.get M.2;rw[E.2]at t;cases t;calc⟨f,O⟩
theorem vB:cw X (.builtin "isinstance") (λxs H Q=>∃(a:Ak)(ys:La V),xs=[.ref a,.ty "tuple"]/\SqT X.K H a ys/\W.kitOne X.K (.type "tuple") (.type "tuple")=Kg Ki/\Q (.bl Ki) H):=by
 intro b s l H xs m Q I r h;let(a,ys,rfl,g,e,q):=h;let(u,v,rfl,d,c):=r.two;cases (show u=zz.ref a from d);cases (show v=zz.type "tuple" from c);let(k,p,f,_):=I.tuple g;let(o,j,i,_):=id f;calc W.kia_one W.kitx_tuple I.kIn ⟨o,j,i⟩ e (λz=>nomatch z) λn=>⟨.bl Ki,H,I.tok _,U,q⟩
def tE:cw X (.builtin "isinstance") (λxs H Q=>(∃x c d t b,xs=[x,c]/\ClV c d/\TyG X.K H x t/\W.kitOne X.K t d=Kg b/\Q (.bl b) H)\/∃(a:Ak)(ys:La V),xs=[.ref a,.ty "tuple"]/\SqT X.K H a ys/\W.kitOne X.K (.type "tuple") (.type "tuple")=Kg Ki/\Q (.bl Ki) H):=dP.or vB
end L2
set_option Elab.async false
set_option maxRecDepth 100000
set_option linter.all false
namespace My
open PySem L2
def top(i:Nat):F3:=PySem.Challenge.pw_rowjudge_k81_codes_of_facts.main.body.getD i<|.Pass ⟨0,0,0,0⟩
abbrev Y39:F3:=top 17
abbrev Y47:F3:=top 18
abbrev Y46:F3:=top 19
abbrev Y38:F3:=top 23
abbrev Y75:F3:=top 28
abbrev Y78:F3:=top 30
abbrev Y77:F3:=top 32
abbrev Y80:F3:=top 33
abbrev Y70:F3:=top 34
abbrev Y84:F3:=top 35
abbrev Y42:F3:=top 36
abbrev Y72:F3:=top 37
abbrev Y74:F3:=top 38
abbrev Y85:F3:=top 39
abbrev Y71:F3:=top 40
abbrev Y45:F3:=top 42
abbrev Y87:F3:=top 53
abbrev Y79:F3:=top 58
abbrev Y76:F3:=top 60
abbrev Y82:F3:=top 62
abbrev Y81:F3:=top 63
abbrev Y73:F3:=top 64
abbrev Y44:F3:=top 65
abbrev Y69:F3:=top 66
abbrev Y48:F3:=top 67
abbrev Y43:F3:=top 69
abbrev Y86:F3:=top 70
abbrev Y40:F3:=top 71
abbrev Y41:F3:=top 72
abbrev Y50:F3:=top 73
abbrev Y83:F3:=top 74
abbrev Y49:F3:=top 75
abbrev Y52:F3:=top 77
abbrev Y67:F3:=top 78
abbrev Y54:F3:=top 79
abbrev Y60:F3:=top 80
abbrev Y63:F3:=top 81
abbrev Y62:F3:=top 82
abbrev Y58:F3:=top 83
abbrev Y53:F3:=top 84
abbrev Y56:F3:=top 85
abbrev Y66:F3:=top 86
abbrev Y55:F3:=top 87
abbrev Y57:F3:=top 91
abbrev Y59:F3:=top 92
abbrev Y68:F3:=top 93
abbrev Y65:F3:=top 94
abbrev Y61:F3:=top 95
abbrev Y64:F3:=top 96
abbrev Y0:F3:=inClass (top 27) 0
abbrev Y15:F3:=inClass (top 21) 0
abbrev Y1:F3:=inClass (top 20) 0
abbrev Y35:F3:=inClass (top 22) 0
abbrev Y2:F3:=inClass (top 20) 0
abbrev Y3:F3:=inClass (top 20) 6
abbrev Y17:F3:=inClass (top 21) 2
abbrev Y16:F3:=inClass (top 21) 1
abbrev Y5:F3:=inClass (top 20) 5
abbrev Y4:F3:=inClass (top 20) 6
abbrev Y37:F3:=inClass (top 22) 2
abbrev Y36:F3:=inClass (top 22) 1
abbrev Y22:F3:=inClass (top 57) 0
abbrev Y7:F3:=inClass (top 47) 0
abbrev Y23:F3:=inClass (top 46) 0
abbrev Y18:F3:=inClass (top 48) 0
abbrev Y27:F3:=inClass (top 46) 0
abbrev Y11:F3:=inClass (top 49) 0
abbrev Y25:F3:=inClass (top 46) 0
abbrev Y13:F3:=inClass (top 50) 0
abbrev Y26:F3:=inClass (top 46) 0
abbrev Y9:F3:=inClass (top 51) 0
abbrev Y24:F3:=inClass (top 46) 0
abbrev Y20:F3:=inClass (top 52) 0
abbrev Y28:F3:=inClass (top 46) 0
abbrev Y6:F3:=inClass (top 20) 5
abbrev Y29:F3:=inClass (top 46) 1
abbrev Y8:F3:=inClass (top 47) 1
abbrev Y33:F3:=inClass (top 46) 1
abbrev Y19:F3:=inClass (top 48) 1
abbrev Y31:F3:=inClass (top 46) 1
abbrev Y12:F3:=inClass (top 49) 1
abbrev Y32:F3:=inClass (top 46) 1
abbrev Y14:F3:=inClass (top 50) 1
abbrev Y30:F3:=inClass (top 46) 1
abbrev Y10:F3:=inClass (top 51) 1
abbrev Y34:F3:=inClass (top 46) 1
abbrev Y21:F3:=inClass (top 52) 1
abbrev Y51:F3:=top 97
def Z39:au ["text","signs","sign"] ["text","signs"] (aj Y39):=fsc
def Z47:au ["text"] ["text"] (aj Y47):=fsc
def Z46:au ["value"] ["value"] (aj Y46):=fsc
def Z38:au ["one","other"] ["one","other"] (aj Y38):=fsc
def Z75:au ["facts","tables"] ["facts","tables"] (aj Y75):=fsc
def Z78:au ["facts","tables","name","domain","names","table"] ["facts","tables"] (aj Y78):=fsc
def Z77:au ["facts","tables","due","table","name","domain"] ["facts","tables"] (aj Y77):=fsc
def Z80:au ["tables","left","names","waiting"] ["tables"] (aj Y80):=fsc
def Z70:au ["table","names"] ["table","names"] (aj Y70):=fsc
def Z84:au ["book","name","table"] ["book","name"] (aj Y84):=fsc
def Z42:au ["book","name"] ["book","name"] (aj Y42):=fsc
def Z72:au ["book","name","order"] ["book","name"] (aj Y72):=fsc
def Z74:au ["book","name","order","asked"] ["book","name","order"] (aj Y74):=fsc
def Z85:au ["book","name"] ["book","name"] (aj Y85):=fsc
def Z71:au ["book","name","columns","table"] ["book","name"] (aj Y71):=fsc
def Z45:au ["spans","number","low","high"] ["spans","number"] (aj Y45):=fsc
def Z87:au ["name","way"] ["name"] (aj Y87):=fsc
def Z79:au ["names","name"] ["names"] (aj Y79):=fsc
def Z76:au ["names","rows"] ["names","rows"] (aj Y76):=fsc
def Z82:au ["way","outcome"] ["way","outcome"] (aj Y82):=fsc
def Z81:au ["domains","outcome","cells","code","domain","spans","low","high"] ["domains","outcome","cells","code"] (aj Y81):=fsc
def Z73:au ["cells","code"] ["cells","code"] (aj Y73):=fsc
def Z44:au ["table","k","codes","cells","spans","code"] ["table","k","codes"] (aj Y44):=fsc
def Z69:au ["table","codes"] ["table","codes"] (aj Y69):=fsc
def Z48:au ["table","rows","codes"] ["table","rows"] (aj Y48):=fsc
def Z43:au ["book","name","facts","domains","codes","fact"] ["book","name","facts"] (aj Y43):=fsc
def Z86:au ["book","name","facts","codes"] ["book","name","facts"] (aj Y86):=fsc
def Z40:au ["book","name","facts"] ["book","name","facts"] (aj Y40):=fsc
def Z41:au ["book","name","codes"] ["book","name","codes"] (aj Y41):=fsc
def Z50:au ["tables","facts","codes"] ["tables","facts","codes"] (aj Y50):=fsc
def Z83:au ["tables","codes","told","taken","table","step"] ["tables","codes"] (aj Y83):=fsc
def Z49:au ["table","columns","silent","codes","rows"] ["table","columns"] (aj Y49):=fsc
def Z52:au ["script","k"] ["script","k"] (aj Y52):=fsc
def Z67:au ["cell","count","letters","head","tail"] ["cell","count"] (aj Y67):=fsc
def Z54:au ["cell","low","width","words"] ["cell"] (aj Y54):=fsc
def Z60:au ["domain","cell","most","width"] ["domain","cell","most"] (aj Y60):=fsc
def Z63:au ["kind","one","two","domain","parts"] ["kind","one","two","domain"] (aj Y63):=fsc
def Z62:au ["columns","domains","pools","own","number","parts","k","size","one","two"] ["columns","domains","pools","own","number"] (aj Y62):=fsc
def Z58:au ["script","most","numbers","k","cell","kept"] ["script","most"] (aj Y58):=fsc
def Z53:au ["script","facts","total","domains","sizes","pools","tables","own","cell","columns","way","numbers","k","table"] ["script"] (aj Y53):=fsc
def Z56:au ["domain"] ["domain"] (aj Y56):=fsc
def Z66:au ["plan","k","names","domains","tables","own","columns","rows","heads","taken"] ["plan","k"] (aj Y66):=fsc
def Z55:au ["plan","names","domains","tables"] ["plan"] (aj Y55):=fsc
def Z57:au ["plan","k","names","domains","tables","first","reached","j"] ["plan","k"] (aj Y57):=fsc
def Z59:au ["plan","cell","names","domains","tables","ends","table","row","j","spans","codes","k","low","high","code"] ["plan","cell"] (aj Y59):=fsc
def Z68:au ["domain","code"] ["domain","code"] (aj Y68):=fsc
def Z65:au ["domain","cell"] ["domain","cell"] (aj Y65):=fsc
def Z61:au ["deed","book","name","facts","told","e"] ["deed","book","name","facts"] (aj Y61):=fsc
def Z64:au ["plan","facts","wanted","cell","names","domains","tables","one","two","faults"] ["plan","facts","wanted","cell"] (aj Y64):=fsc
def Z0:au ["self","facts","tables"] ["self","facts","tables"] (aj Y0):=fsc
def Z15:au ["self","low","high"] ["self","low","high"] (aj Y15):=fsc
def Z1:au ["self","low","high"] ["self","low","high"] (aj Y1):=fsc
def Z35:au ["self","words","word"] ["self","words"] (aj Y35):=fsc
def Z2:au ["self","low","high"] ["self","low","high"] (aj Y2):=fsc
def Z3:au ["self","value"] ["self","value"] (aj Y3):=fsc
def Z17:au ["self","value"] ["self","value"] (aj Y17):=fsc
def Z16:au ["self","value"] ["self","value"] (aj Y16):=fsc
def Z5:au ["self","value"] ["self","value"] (aj Y5):=fsc
def Z4:au ["self","value"] ["self","value"] (aj Y4):=fsc
def Z37:au ["self","value"] ["self","value"] (aj Y37):=fsc
def Z36:au ["self","value"] ["self","value"] (aj Y36):=fsc
def Z22:au ["self","name","names","domains","outcome","way","rows","cells","code"] ["self","name","names","domains","outcome","way","rows"] (aj Y22):=fsc
def Z7:au ["self"] ["self"] (aj Y7):=fsc
def Z23:au ["self","called"] ["self","called"] (aj Y23):=fsc
def Z18:au ["self"] ["self"] (aj Y18):=fsc
def Z27:au ["self","called"] ["self","called"] (aj Y27):=fsc
def Z11:au ["self"] ["self"] (aj Y11):=fsc
def Z25:au ["self","called"] ["self","called"] (aj Y25):=fsc
def Z13:au ["self"] ["self"] (aj Y13):=fsc
def Z26:au ["self","called"] ["self","called"] (aj Y26):=fsc
def Z9:au ["self"] ["self"] (aj Y9):=fsc
def Z24:au ["self","called"] ["self","called"] (aj Y24):=fsc
def Z20:au ["self"] ["self"] (aj Y20):=fsc
def Z28:au ["self","called"] ["self","called"] (aj Y28):=fsc
def Z6:au ["self","value"] ["self","value"] (aj Y6):=fsc
def Z29:au ["self","codes","outcome"] ["self","codes","outcome"] (aj Y29):=fsc
def Z8:au ["self","codes","outcome"] ["self","codes","outcome"] (aj Y8):=fsc
def Z33:au ["self","codes","outcome"] ["self","codes","outcome"] (aj Y33):=fsc
def Z19:au ["self","codes","outcome"] ["self","codes","outcome"] (aj Y19):=fsc
def Z31:au ["self","codes","outcome"] ["self","codes","outcome"] (aj Y31):=fsc
def Z12:au ["self","codes","outcome"] ["self","codes","outcome"] (aj Y12):=fsc
def Z32:au ["self","codes","outcome"] ["self","codes","outcome"] (aj Y32):=fsc
def Z14:au ["self","codes","outcome"] ["self","codes","outcome"] (aj Y14):=fsc
def Z30:au ["self","codes","outcome"] ["self","codes","outcome"] (aj Y30):=fsc
def Z10:au ["self","codes","outcome"] ["self","codes","outcome"] (aj Y10):=fsc
def Z34:au ["self","codes","outcome"] ["self","codes","outcome"] (aj Y34):=fsc
def Z21:au ["self","codes","outcome"] ["self","codes","outcome"] (aj Y21):=fsc
def Z51:au ["script","plan","names","domains","tables","first","book","k","cell","codes","wanted","facts","j","kept","found","deed","due"] ["script"] (aj Y51):=fsc
structure AD where (a b c d e f g h i j k l m n o p q r:Ak)
structure Bk(K:W.Frag)(Y:AD):Prop where
 n_TableError:W.nsIn K B7 "TableError" = Kg (Kg<|.ref Y.a)
 n_NoTable:W.nsIn K B7 "NoTable" = Kg (Kg<|.ref Y.b)
 n_NoFact:W.nsIn K B7 "NoFact" = Kg (Kg<|.ref Y.c)
 n_Outside:W.nsIn K B7 "Outside" = Kg (Kg<|.ref Y.d)
 n_Way:W.nsIn K B7 "Way" = Kg (Kg<|.ref Y.e)
 n_First:W.nsIn K B7 "First" = Kg (Kg<|.ref Y.f)
 n_Only:W.nsIn K B7 "Only" = Kg (Kg<|.ref Y.g)
 n_Like:W.nsIn K B7 "Like" = Kg (Kg<|.ref Y.h)
 n_Low:W.nsIn K B7 "Low" = Kg (Kg<|.ref Y.i)
 n_High:W.nsIn K B7 "High" = Kg (Kg<|.ref Y.j)
 n_Sum:W.nsIn K B7 "Sum" = Kg (Kg<|.ref Y.k)
 n_Domain:W.nsIn K B7 "Domain" = Kg (Kg<|.ref Y.l)
 n_Numbers:W.nsIn K B7 "Numbers" = Kg (Kg<|.ref Y.m)
 n_Words:W.nsIn K B7 "Words" = Kg (Kg<|.ref Y.n)
 n_Table:W.nsIn K B7 "Table" = Kg (Kg<|.ref Y.o)
 n_Book:W.nsIn K B7 "Book" = Kg (Kg<|.ref Y.p)
 n_NONE:W.nsIn K B7 "NONE" = Kg (Kg<|.ref Y.q)
 n_CLASH:W.nsIn K B7 "CLASH" = Kg (Kg<|.ref Y.r)
 x_NoTable:ExcCls K Y.b
 x_NoFact:ExcCls K Y.c
 x_Outside:ExcCls K Y.d
 l_NoTable:gD K Y.b
 l_NoFact:gD K Y.c
 l_Outside:gD K Y.d
 k_First:Cls K Y.f
 k_Only:Cls K Y.g
 k_Like:Cls K Y.h
 k_Low:Cls K Y.i
 k_High:Cls K Y.j
 k_Sum:Cls K Y.k
 k_Numbers:Cls K Y.m
 k_Words:Cls K Y.n
 k_Table:Cls K Y.o
 k_Book:Cls K Y.p
 t_First:lP K Y.f
 t_Only:lP K Y.g
 t_Like:lP K Y.h
 t_Low:lP K Y.i
 t_High:lP K Y.j
 t_Sum:lP K Y.k
 t_Numbers:lP K Y.m
 t_Words:lP K Y.n
 t_Table:lP K Y.o
 t_Book:lP K Y.p
 q_NONE:ModT K Y.q [.str "none",.int (0)]
 q_CLASH:ModT K Y.r [.str "clash",.int (0)]
 na_First_called:NoAttr K Y.f "called"
 na_Only_called:NoAttr K Y.g "called"
 na_Like_called:NoAttr K Y.h "called"
 na_Low_called:NoAttr K Y.i "called"
 na_High_called:NoAttr K Y.j "called"
 na_Sum_called:NoAttr K Y.k "called"
 na_Numbers_low:NoAttr K Y.m "low"
 na_Numbers_high:NoAttr K Y.m "high"
 na_Numbers_words:NoAttr K Y.m "words"
 na_Words_low:NoAttr K Y.n "low"
 na_Words_high:NoAttr K Y.n "high"
 na_Words_words:NoAttr K Y.n "words"
 na_Table_name:NoAttr K Y.o "name"
 na_Table_names:NoAttr K Y.o "names"
 na_Table_domains:NoAttr K Y.o "domains"
 na_Table_outcome:NoAttr K Y.o "outcome"
 na_Table_way:NoAttr K Y.o "way"
 na_Table_rows:NoAttr K Y.o "rows"
 na_Book_facts:NoAttr K Y.p "facts"
 na_Book_tables:NoAttr K Y.p "tables"
 f_nn:W.kitOne K (.ref Y.m) (.ref Y.m)=Kg Ki
 f_wn:W.kitOne K (.ref Y.n) (.ref Y.m)=Kg Kj
 f_ww:W.kitOne K (.ref Y.n) (.ref Y.n)=Kg Ki
 f_tt:W.kitOne K (.ref Y.o) (.ref Y.o)=Kg Ki
 f_nw:W.kitOne K (.ref Y.m) (.ref Y.n)=Kg Kj
 e_NoTable:W.exmOne K (.ref Y.b) (.ref Y.a)=Kg Ki
 e2_NoTable:W.exmOne K (.ref Y.b) (.ref Y.b)=Kg Ki
 v_NoTable:W.kitOne K (.ref Y.b) (.ref Y.a)=Kg Ki
 g_NoTable:W.kitOne K (.ref Y.b) (.ref Y.b)=Kg Ki
 vE_NoTable:W.kitOne K (.ref Y.b) (.type "ValueError")=Kg Ki
 g_NoTable_NoTable:W.kitOne K (.ref Y.b) (.ref Y.b)=Kg Ki
 g_NoTable_NoFact:W.kitOne K (.ref Y.b) (.ref Y.c)=Kg Kj
 g_NoTable_Outside:W.kitOne K (.ref Y.b) (.ref Y.d)=Kg Kj
 e_NoFact:W.exmOne K (.ref Y.c) (.ref Y.a)=Kg Ki
 vE_NoFact:W.kitOne K (.ref Y.c) (.type "ValueError")=Kg Ki
 g_NoFact_NoTable:W.kitOne K (.ref Y.c) (.ref Y.b)=Kg Kj
 g_NoFact_NoFact:W.kitOne K (.ref Y.c) (.ref Y.c)=Kg Ki
 g_NoFact_Outside:W.kitOne K (.ref Y.c) (.ref Y.d)=Kg Kj
 e_Outside:W.exmOne K (.ref Y.d) (.ref Y.a)=Kg Ki
 vE_Outside:W.kitOne K (.ref Y.d) (.type "ValueError")=Kg Ki
 g_Outside_NoTable:W.kitOne K (.ref Y.d) (.ref Y.b)=Kg Kj
 g_Outside_NoFact:W.kitOne K (.ref Y.d) (.ref Y.c)=Kg Kj
 g_Outside_Outside:W.kitOne K (.ref Y.d) (.ref Y.d)=Kg Ki
structure Bl(K:W.Frag)(mg:Str->Option zz)(Y:AD):Prop extends Bk K Y where
 TableError_:mg "TableError" = Kg (.ref Y.a)
 NoTable_:mg "NoTable" = Kg (.ref Y.b)
 NoFact_:mg "NoFact" = Kg (.ref Y.c)
 Outside_:mg "Outside" = Kg (.ref Y.d)
 Way_:mg "Way" = Kg (.ref Y.e)
 First_:mg "First" = Kg (.ref Y.f)
 Only_:mg "Only" = Kg (.ref Y.g)
 Like_:mg "Like" = Kg (.ref Y.h)
 Low_:mg "Low" = Kg (.ref Y.i)
 High_:mg "High" = Kg (.ref Y.j)
 Sum_:mg "Sum" = Kg (.ref Y.k)
 Domain_:mg "Domain" = Kg (.ref Y.l)
 Numbers_:mg "Numbers" = Kg (.ref Y.m)
 Words_:mg "Words" = Kg (.ref Y.n)
 Table_:mg "Table" = Kg (.ref Y.o)
 Book_:mg "Book" = Kg (.ref Y.p)
 NONE_:mg "NONE" = Kg (.ref Y.q)
 CLASH_:mg "CLASH" = Kg (.ref Y.r)
 len_:mg "len" = Kh
 isinstance_:mg "isinstance" = Kh
 int_:mg "int" = Kh
 bool_:mg "bool" = Kh
 set_:mg "set" = Kh
 dict_:mg "dict" = Kh
 zip_:mg "zip" = Kh
 list_:mg "list" = Kh
 sum_:mg "sum" = Kh
 range_:mg "range" = Kh
 enumerate_:mg "enumerate" = Kh
 min_:mg "min" = Kh
 max_:mg "max" = Kh
 sorted_:mg "sorted" = Kh
 ValueError_:mg "ValueError" = Kh
 reversed_:mg "reversed" = Kh
 MOST_SIGNS_:∃u,mg "MOST_SIGNS" = Kg u/\RelV (V.int 12) u
 SMALL_LETTERS_:∃u,mg "SMALL_LETTERS" = Kg u/\RelV (V.str "abcdefghijklmnopqrstuvwxyz") u
 MOST_FACTS_:∃u,mg "MOST_FACTS" = Kg u/\RelV (V.int 20) u
 MOST_TABLES_:∃u,mg "MOST_TABLES" = Kg u/\RelV (V.int 30) u
 MOST_ROWS_:∃u,mg "MOST_ROWS" = Kg u/\RelV (V.int 200) u
 MOST_COLUMNS_:∃u,mg "MOST_COLUMNS" = Kg u/\RelV (V.int 4) u
 MOST_WORDS_:∃u,mg "MOST_WORDS" = Kg u/\RelV (V.int 40) u
theorem p10(n:Nat):(0:Int)<10^n:=Int.pow_pos ⋯
theorem D3{n:Int}{p:Int×Int}(c:decide (p.1<=n)=Ki)(d:decide (n<=p.2)=Ki):inR n p=true:=by unfold inR;rw[c,d];rfl
theorem Ct{n:Int}{p:Int×Int}(c:¬ decide (p.1<=n)=Ki):inR n p=false:=by unfold inR;rw[yt.mpr c];rfl
theorem Cu{n:Int}{p:Int×Int}(d:¬ decide (n<=p.2)=Ki):inR n p=false:=by unfold inR;rw[yt.mpr d,Bool.and_false]
theorem jI{H:Hp}{r:Ak}{o:HO}{b:Ak}{u:HO}(h:H r=Kg u)(n:H b=Kh):upd H b o r=Kg u:=by rw[aq (bL h n)];calc h
theorem take_snoc{a:Type}{l:La a}{i:Nat}{x:a}(e:l[i]?=Kg x):l.take (i+1)=l.take i++[x]:=by rw[lA,e];rfl
theorem get_map{a:La Int}{i:Nat}{c:Int}(e:a[i]?=Kg c):(a.map V.int)[i]?=Kg (.int c):=by rw[dy,e];rfl
theorem of_map{a:La Int}{i:Nat}{x:V}(e:(a.map V.int)[i]?=Kg x):∃c,x=.int c/\a[i]?=Kg c:=by
 rw[dy]at e;cases q:a[i]? with
 |none=>rw[q]at e;cases e
 |some c=>rw[q]at e;cases e;calc⟨c,U,U⟩
def lets:Str := "abcdefghijklmnopqrstuvwxyz"
def isw(z:Str):Bool:=Kk ((1:Int)<=((z.length:Nat):Int)) && (Kk (((z.length:Nat):Int)<=12) && (!Kk (V.str z=V.str "not") && mz z lets))
theorem AZ{l:La Nat}{i:Nat}{c:Nat}{p:Nat->Bool}(e:l[i]?=Kg c)(h:p c=Kj):l.all p=false:=by
 cases q:l.all p with
 |false=>rfl
 |true=>rw[iv.mp q c (GG e)]at h;cases h
theorem all_succ{l:La Nat}{i:Nat}{c:Nat}{p:Nat->Bool}(e:l[i]?=Kg c)(h:p c=Ki)(a:(l.take i).all p=Ki):(l.take<|i+1).all p=true:=by
 rw[take_snoc e,List.all_append,a];simp[h]
theorem xx{z g:Str}(h:(z.cps.toList.take z.cps.size).all (sg g)=Ki):mz z g=true:=by
 let e:z.cps.toList.take z.cps.size=z.cps.toList:=by rw[←x4];exact fD
 rw[e]at h;calc h
theorem A1{g:Str}{c:Nat}(h:(!(!(G0.Str.occurrences g ⟨#[c]⟩ 0 g.length 1).isEmpty))=Ki):sg g c=false:=by unfold sg;simpa using h
theorem Cv{g:Str}{c:Nat}(h:¬ (!(!(G0.Str.occurrences g ⟨#[c]⟩ 0 g.length 1).isEmpty))=Ki):sg g c=true:=by unfold sg;simpa using h
def big{n:Nat}(h:n<=1000):n<=AA:=uK<|aD h
def mkd(C:Ak)(H:Hp)(x a:Ak)(lo hi:Int):Hp:=upd (upd H x<|.ins C a [("low",.int lo)]) x<|.ins C a [("low",.int lo),("high",.int hi)]
theorem put2(v u:V):bI s!"high" u [(s!"low",v)]=[(s!"low",v),(s!"high",u)]:=by
 unfold bI bI;rw[Kn ⋯]
theorem put3(v u t:V):bI s!"words" t [(s!"low",v),(s!"high",u)]=[(s!"low",v),(s!"high",u),(s!"words",t)]:=by
 unfold bI bI bI;rw[Kn ⋯,Kn ⋯]
def hiW(zs:La Str):Int:=((zs.length:Nat):Int)-1
structure Good(zs:La Str):Prop where
 some_:1<=zs.length
 few:zs.length<=40
 words:∀z∈zs,isw z=Ki
 once:zs.Nodup
theorem eL(zs:La Str):(zs.map V.str).all bM=true:=by
 rw[List.all_map];calc iv.mpr λ_ _=>U
theorem dD{zs:La Str}{i:Nat}{x:V}(e:(zs.map V.str)[i]?=Kg x):∃z,x=.str z/\zs[i]?=Kg z:=by
 rw[dy]at e;cases q:zs[i]? with
 |none=>rw[q]at e;cases e
 |some z=>rw[q]at e;cases e;calc⟨z,U,U⟩
theorem cA{zs:La Str}{i:Nat}{z:Str}(e:zs[i]?=Kg z):(zs.map V.str)[i]?=Kg (.str z):=by rw[dy,e];rfl
def six:La Str:=[s!"first",s!"only",s!"like",s!"low",s!"high",s!"sum"]
theorem yP{i j:Nat}{z:Str}(h:six[i]?=Kg z)(k:six[j]?=Kg z):i=j:=kh (show six.Nodup by decide+kernel) h k
def WyN(C:Ak)(H:Hp)(x:Ak)(z:Str):Prop:=∃a,H x=Kg (.ins C a [("called",.str z)])
theorem WyN.same{C:Ak}{H H':Hp}{x:Ak}{z:Str}(h:WyN C H x z)(s:ao H H'):WyN C H' x z:=by let(a,e):=h;calc⟨a,s _ _ e⟩
def vC(C:Ak)(z:Str):Sp:=λb H Q _=>∃(x a:Ak),b=[.ref x]/\H x=Kg (.ins C a [])/\Q .non (upd H x<|.ins C a [("called",.str z)])
theorem bY:2<=AA:=⋯
def cl6(a b c d e f:Ak):La Ak:=[a,b,c,d,e,f]
def A2(C:Ak)(H:Hp)(a:Ak)(lo hi:Int):Prop:=∃b fs,H a=Kg (.ins C b fs)/\fs.lookup s!"low"=Kg (.int lo)/\fs.lookup s!"high"=Kg (.int hi)/\fs.lookup s!"has_code"=Kh
def Dom(d c:Ak)(H:Hp)(a:Ak)(b:Int×Int):Prop:=∃C,(C=d\/C=c)/\A2 C H a b.1 b.2
theorem Dom.same{d c:Ak}{H H':Hp}{a:Ak}{b:Int×Int}(h:Dom d c H a b)(s:ao H H'):Dom d c H' a b:=by let(C,f,g,fs,e,r):=h;calc⟨C,f,g,fs,s _ _ e,r⟩
def ay{b:Type}(xs:La V)(as:La b)(P:Ak->b->Prop):Prop:=xs.length=as.length/\∀(j:Nat)(a:b),as[j]?=Kg a->∃r,xs[j]?=Kg (.ref r)/\P r a
def ay.mono{b:Type}{xs:La V}{as:La b}{P Q:Ak->b->Prop}(h:ay xs as P)(k:∀r a,P r a->Q r a):ay xs as Q:=⟨h.1,λj a e=>let ⟨r,e1,p⟩:=h.2 j a e;⟨r,e1,k r a p⟩⟩
theorem ay.nil{b:Type}{P:Ak->b->Prop}:ay [] [] P:=⟨U,(λj a e=>by simp at e)⟩
theorem ay.snoc{c:Type}{xs:La V}{as:La c}{P:Ak->c->Prop}{r:Ak}{a:c}(h:ay xs as P)(p:P r a):ay (xs++[.ref r]) (as++[a]) P:=by
 refine⟨by simp[h.1],λj b e=>?_⟩;by_cases f:j<as.length
 .rw[hY f]at e;let(g,i,q):=h.2 j b e;exact⟨g,by rw[hY (by rw[h.1];exact f)];exact i,q⟩
 .let d:j=as.length:=by
   let:=(GD.mp e).1;simp at this;lia
  subst d;simp at e;subst e;calc⟨r,by rw[←h.1];simp,p⟩
theorem ay.get{b:Type}{xs:La V}{as:La b}{P:Ak->b->Prop}(h:ay xs as P){j:Nat}{x:V}(e:xs[j]?=Kg x):∃r a,x=.ref r/\as[j]?=Kg a/\P r a:=by
 let f:=(GD.mp e).1;let c:=GC (l:=as) (i:=j) (by rw[←h.1];exact f);let(r,d,p):=h.2 j _ c;rw[e]at d;cases d;calc⟨r,_,U,c,p⟩
abbrev Prs:=List<|Int×Int
def SpA(N:Ak->Prop)(H:Hp)(l:Ak)(ps:Prs):Prop:=N l/\∃a,H l=Kg (.lst a)/\PL H a ps
def CL(N:Ak->Prop)(H:Hp)(xs:La V)(a:La Prs):Prop:=ay xs a<|SpA N H
abbrev Rw:=La Prs×Int
def gi(N:Ak->Prop)(H:Hp)(r:Ak)(a:Rw):Prop:=∃b c,H r=Kg (.tup [.ref b,.int a.2])/\N b/\H b=Kg (.lst c)/\CL N H c a.1
def RL(N:Ak->Prop)(H:Hp)(xs:La V)(a:La Rw):Prop:=ay xs a<|gi N H
theorem SpA.same{N:Ak->Prop}{H H':Hp}{l:Ak}{ps:Prs}(h:SpA N H l ps)(s:ao H H'):SpA N H' l ps:=by let(n,a,e,p):=h;calc⟨n,a,s _ _ e,p.mono s.tups⟩
theorem CL.same{N:Ak->Prop}{H H':Hp}{xs:La V}{a:La Prs}(h:CL N H xs a)(s:ao H H'):CL N H' xs a:=ay.mono h λ_ _ p=>p.same s
theorem gi.same{N:Ak->Prop}{H H':Hp}{r:Ak}{w:Rw}(h:gi N H r w)(s:ao H H'):gi N H' r w:=by let(b,a,e,n,f,c):=h;calc⟨b,a,s _ _ e,n,s _ _ f,c.same s⟩
theorem RL.same{N:Ak->Prop}{H H':Hp}{xs:La V}{a:La Rw}(h:RL N H xs a)(s:ao H H'):RL N H' xs a:=ay.mono h λ_ _ p=>p.same s
abbrev NT:Ak->Prop:=λ_=>True
def SpA.any{N:Ak->Prop}{H:Hp}{l:Ak}{ps:Prs}(h:SpA N H l ps):SpA NT H l ps:=⟨trivial,h.2⟩
theorem CL.any{N:Ak->Prop}{H:Hp}{xs:La V}{a:La Prs}(h:CL N H xs a):CL NT H xs a:=ay.mono h λ_ _ p=>p.any
theorem gi.any{N:Ak->Prop}{H:Hp}{r:Ak}{w:Rw}(h:gi N H r w):gi NT H r w:=by let(b,a,e,_,f,c):=h;calc⟨b,a,e,trivial,f,c.any⟩
theorem RL.any{N:Ak->Prop}{H:Hp}{xs:La V}{a:La Rw}(h:RL N H xs a):RL NT H xs a:=ay.mono h λ_ _ p=>p.any
def SpA.wk{N b:Ak->Prop}{H:Hp}{l:Ak}{ps:Prs}(h:SpA N H l ps)(k:∀a,N a->b a):SpA b H l ps:=⟨k _ h.1,h.2⟩
theorem CL.wk{N c:Ak->Prop}{H:Hp}{xs:La V}{b:La Prs}(h:CL N H xs b)(k:∀a,N a->c a):CL c H xs b:=ay.mono h λ_ _ p=>p.wk k
theorem gi.wk{N b:Ak->Prop}{H:Hp}{r:Ak}{w:Rw}(h:gi N H r w)(k:∀a,N a->b a):gi b H r w:=by let(g,d,e,n,f,c):=h;calc⟨g,d,e,k _ n,f,c.wk k⟩
theorem SpA.updN{N:Ak->Prop}{D:Ak}{H:Hp}{l:Ak}{ps:Prs}{zs:La V}{o:HO}(h:SpA N H l ps)(n:¬ N D)(e:H D=Kg (.lst zs)):SpA N (upd H D o) l ps:=by
 let(m,a,f,p):=h;calc⟨m,a,(aq<|λz=>n (by rw[←z];exact m)).trans f,p.mono<|oi e⟩
theorem CL.updN{N:Ak->Prop}{D:Ak}{H:Hp}{xs:La V}{a:La Prs}{zs:La V}{o:HO}(h:CL N H xs a)(n:¬ N D)(e:H D=Kg (.lst zs)):CL N (upd H D o) xs a:=ay.mono h λ_ _ p=>p.updN n e
theorem gi.updN{N:Ak->Prop}{D:Ak}{H:Hp}{r:Ak}{w:Rw}{zs:La V}{o:HO}(h:gi N H r w)(n:¬ N D)(e:H D=Kg (.lst zs)):gi N (upd H D o) r w:=by
 let(b,a,f,m,g,c):=h;calc⟨b,a,(aq<|cy f e (by intro z;cases z)).trans f,m,(aq<|λz=>n (by rw[←z];exact m)).trans g,c.updN n e⟩
theorem RL.updN{N:Ak->Prop}{D:Ak}{H:Hp}{xs:La V}{a:La Rw}{zs:La V}{o:HO}(h:RL N H xs a)(n:¬ N D)(e:H D=Kg (.lst zs)):RL N (upd H D o) xs a:=ay.mono h λ_ _ p=>p.updN n e
def Fr(H:Hp)(D:Ak):Ak->Prop:=λa=>H a=Kh/\a≠D
def Fr.out{H:Hp}{D:Ak}:¬ Fr H D D:=λh=>h.2 U
structure Gb(b:Int×Int)(zs:La Str):Prop where
 le:b.1<=b.2
 ws:zs≠[]->Good zs/\b=(0,hiW zs)
structure uo(bs:Prs)(o:Int×Int)(w:Rw):Prop where
 len:w.1.length=bs.length
 inn:∀(j:Nat)(ps:Prs)(b:Int×Int),w.1[j]?=Kg ps->bs[j]?=Kg b->∀p∈ps,b.1<=p.1/\p.2<=b.2
 lo:o.1<=w.2
 hi:w.2<=o.2
def nJ(a:La Prs)(cs:La Int):Bool:=(List.range cs.length).all λj=>inP (a.getD j [])<|cs.getD j 0
theorem pf1(b a:V):bI s!"names" a [(s!"name",b)]=[(s!"name",b),(s!"names",a)]:=by
 unfold bI bI;rw[Kn ⋯]
theorem pf2(c b a:V):bI s!"domains" a [(s!"name",c),(s!"names",b)]=[(s!"name",c),(s!"names",b),(s!"domains",a)]:=by
 unfold bI bI bI;rw[Kn ⋯,Kn ⋯]
theorem pf3(d c b a:V):bI s!"outcome" a [(s!"name",d),(s!"names",c),(s!"domains",b)]=[(s!"name",d),(s!"names",c),(s!"domains",b),(s!"outcome",a)]:=by
 unfold bI bI bI bI;rw[Kn ⋯,Kn ⋯,Kn ⋯]
theorem pf4(e d c b a:V):bI s!"way" a [(s!"name",e),(s!"names",d),(s!"domains",c),(s!"outcome",b)]=[(s!"name",e),(s!"names",d),(s!"domains",c),(s!"outcome",b),(s!"way",a)]:=by
 unfold bI bI bI bI bI;rw[Kn ⋯,Kn ⋯,Kn ⋯,Kn ⋯]
theorem pf5(f e d c b a:V):bI s!"rows" a [(s!"name",f),(s!"names",e),(s!"domains",d),(s!"outcome",c),(s!"way",b)]=[(s!"name",f),(s!"names",e),(s!"domains",d),(s!"outcome",c),(s!"way",b),(s!"rows",a)]:=by
 unfold bI bI bI bI bI bI;rw[Kn ⋯,Kn ⋯,Kn ⋯,Kn ⋯,Kn ⋯]
def hide(H:Hp)(x:Ak):Hp:=λb=>if b=x then Kh else H b
theorem dq{H:Hp}{x b:Ak}{o:HO}(e:H b=Kg o)(n:b≠x):hide H x b=Kg o:=by unfold hide;rw[Kn n];calc e
theorem lp{H H':Hp}{x:Ak}(k:∀b o,b≠x->H b=Kg o->H' b=Kg o):ao (hide H x) H':=λb o e=>by
 unfold hide at e;by_cases h:b=x
 .rw[Ko h]at e;cases e
 .rw[Kn h]at e;calc k b o h e
theorem PL.hide{H:Hp}{x C c:Ak}{fs:La (Str×V)}(a:H x=Kg (.ins C c fs)){ys:La V}{ps:Prs}(h:PL H ys ps):PL (hide H x) ys ps :=
 h.mono λb d e=>dq e<|cy e a (by intro z;cases z)
theorem RL.hide{H:Hp}{x C i:Ak}{fs:La (Str×V)}(b:H x=Kg (.ins C i fs)){xs:La V}{a:La Rw}(h:RL NT H xs a):RL NT (My.hide H x) xs a :=
 ay.mono h λr w ⟨k,j,e,_,f,c⟩=>⟨k,j,dq e<|cy e b (by intro z;cases z),trivial,dq f<|cy f b (by intro z;cases z),ay.mono c λl m ⟨_,d,g,p⟩=>⟨trivial,d,dq g<|cy g b (by intro z;cases z),PL.hide b p⟩⟩
def wcs(c k:Int):La Nat:=List.replicate (c / 26%6).toNat (97+(c%26).toNat)++([97+(k / 7%7).toNat,97+(k%7).toNat]++List.replicate (k%5).toNat (97+(c / 156%26).toNat))
def wd(c k:Int):Str:=⟨(wcs c k).toArray⟩
theorem A3{c:Nat}(h:97<=c/\c<=122):sg lets c=true:=by
 let:∀d:Nat,d<26->sg lets (97+d)=true:= ~~~0
 let z:=this (c-97) ∅;rw[show 97+(c-97)=c by lia]at z;calc z
theorem pI{s:Str}{n:Nat}(h:s.cps.toList=(List.range n).map (97 + ·)){k:Int}(c:0<=k)(b:k<n):atI s.cps.toList k=Kg (97+k.toNat):=by
 let a:k.toNat<n:=∅
 let z:s.cps.toList[k.toNat]?=Kg (97+k.toNat):=by rw[h,dy,qB a];rfl
 let q:=aK z;rw[show((k.toNat:Nat):Int)=k by lia]at q;calc q
theorem xy:s!"abcdefghijklmnopqrstuvwxyz".cps.toList=(List.range 26).map (97 + ·):= ~~~0
abbrev SI:=Str×Int
def tp(p:SI):La V:=[.str p.1,.int p.2]
def say(i:Int):SI:=(s!"say",i)
def uq:SI:=(s!"clash",0)
def A4:SI:=(s!"none",0)
def least(a:La Int):Int:=a.foldl (λm c=>if c<m then c else m) (a.headD 0)
def great(a:La Int):Int:=a.foldl (λm c=>if c>m then c else m) (a.headD 0)
theorem fold_min(a:La Int):∀m:Int,(a.foldl (λm c=>if c<m then c else m) m=m\/a.foldl (λm c=>if c<m then c else m) m∈a)/\a.foldl (λm c=>if c<m then c else m) m<=m/\∀x∈a,a.foldl (λm c=>if c<m then c else m) m<=x:=by
 induction a with
 |nil=>intro m;exact⟨.inl U,Int.le_refl _,λx h=>by cases h⟩
 |cons n a f =>
  intro m;let(b,e,g):=f (if n<m then n else m);rw[jx];refine⟨?_,?_,λx d=>?_⟩
  .rcases b with b|b
   .rw[b];split
    .exact .inr dO
    .exact .inl U
   .exact .inr<|dV _ b
  .split at e <;> split <;> lia
  .rcases dt.mp d with rfl|d
   .split at e <;> split <;> lia
   .exact g x d
theorem fold_max(a:La Int):∀m:Int,(a.foldl (λm c=>if c>m then c else m) m=m\/a.foldl (λm c=>if c>m then c else m) m∈a)/\m<=a.foldl (λm c=>if c>m then c else m) m/\∀x∈a,x<=a.foldl (λm c=>if c>m then c else m) m:=by
 induction a with
 |nil=>intro m;exact⟨.inl U,Int.le_refl _,λx h=>by cases h⟩
 |cons n a f =>
  intro m;let(b,e,g):=f (if n>m then n else m);rw[jx];refine⟨?_,?_,λx d=>?_⟩
  .rcases b with b|b
   .rw[b];split
    .exact .inr dO
    .exact .inl U
   .exact .inr<|dV _ b
  .split at e <;> split <;> lia
  .rcases dt.mp d with rfl|d
   .split at e <;> split <;> lia
   .exact g x d
theorem gj{n:Int}{a:La Int}:least (n :: a)∈n :: a/\∀x∈n :: a,least (n :: a)<=x:=by
 let(b,d,c):=fold_min (n :: a) n;calc⟨?_,c⟩;rcases b with b|b
 .show(n :: a).foldl _ n∈_;rw[b];exact dO
 .exact b
theorem iC{n:Int}{a:La Int}:great (n :: a)∈n :: a/\∀x∈n :: a,x<=great (n :: a):=by
 let(b,d,c):=fold_max (n :: a) n;calc⟨?_,c⟩;rcases b with b|b
 .show(n :: a).foldl _ n∈_;rw[b];exact dO
 .exact b
theorem xA{n m:Int}{c:La Int}(e:m∈n :: c)(d:∀b∈n :: c,m<=b):m=least (n :: c):=by
 let a:=d _ gj.1;let b:=gj.2 _ e;lia
theorem xB{n m:Int}{c:La Int}(e:m∈n :: c)(d:∀b∈n :: c,b<=m):m=great (n :: c):=by
 let a:=d _ iC.1;let b:=iC.2 _ e;lia
def D4(a:La Int):SI:=say<|least a
def Cw(a:La Int):SI:=say<|great a
def qR(a:La Int):SI:=if least a=great a then say (least a)else uq
theorem oK{n:Int}{a:La Int}:(∀x∈a,x=n)↔least (n :: a)=great (n :: a):=by
 constructor
 .intro h;let e:∀x∈n :: a,x=n:=λx b=>by
   rcases dt.mp b with r|b
   .exact r
   .exact h x b
  rw[e _ gj.1,e _ iC.1]
 .intro h x b;let g:=gj.2 x<|dV n b;let f:=iC.2 x<|dV n b;let d:=gj.2 n<|dO (l:=a);let c:=iC.2 n<|dO (l:=a);lia
theorem vD{n:Int}{a:La Int}(h:∀x∈a,x=n):least (n :: a)=n:=by
 let e:∀x∈n :: a,x=n:=λx b=>by
  rcases dt.mp b with r|b
  .exact r
  .exact h x b
 calc e _ gj.1
def ver(f:La Int->SI):La Int->SI
 | []=>A4
 |n :: ns=>f (n :: ns)
def Wy(C:Ak)(H:Hp)(x:Ak):Prop:=∃a z,H x=Kg (.ins C a [("called",.str z)])
def A5(a:La Int):SI:=say<|a.headD 0
def qS(a:La Int):SI:=if a.length=1 then say (a.headD 0)else uq
def near(lo hi n:Int):Int:=if n<lo then lo else if n>hi then hi else n
def wf:Nat->Int->Int->La Int->SI
 |0,_,_=>A5
 |1,_,_=>qS
 |2,_,_=>qR
 |3,_,_=>D4
 |4,_,_=>Cw
 |_,lo,hi=>λa=>say<|near lo hi a.sum
def at0(n:Int)(a:La Int):atI ((n :: a).map V.int) 0=Kg (.int n):=aK (j:=0) U
def vE(K:W.Frag)(C g f:Ak)(i:Nat):Sp:=λe H Q _=>∃(x c o:Ak)(n:Int)(a:La Int)(b:Int×Int),e=[.ref x,.ref c,.ref o]/\Wy C H x/\Dom g f H o b/\b.1<=b.2/\SqL K H c ((n :: a).map V.int)/\a.length<900/\∀(r:Ak)(d:Hp),ao H d->SqT K d r (tp<|wf i b.1 b.2 (n :: a))->Q (.ref r) d
def kA(K:W.Frag)(C g f:Ak)(i:Nat):Sp:=λe H Q _=>∃(x c o:Ak)(a:La Int)(b:Int×Int),e=[.ref x,.ref c,.ref o]/\Wy C H x/\Dom g f H o b/\b.1<=b.2/\SqL K H c (a.map V.int)/\a.length<900/\∀(r:Ak)(d:Hp),ao H d->SqT K d r (tp<|ver (wf i b.1 b.2) a)->Q (.ref r) d
def msk(f:Nat->Bool):Nat->Nat
 |0=>0
 |n+1=>(if f n then 2^n else 0)+msk f n
def qT(f:Nat->Bool)(n:Nat):msk f (n+1)=(if f n then 2^n else 0)+msk f n:=rfl
theorem tF(f:Nat->Bool):∀n,msk f n<2^n
 |0=>Nat.one_pos
 |n+1=>by
  let:=tF f n;unfold msk;rw[Nat.pow_succ];split <;> lia
theorem ur(f:Nat->Bool)(k:Nat):∀n,(msk f n).testBit k=(Kk (k<n) && f k)
 |0=>by simp[msk]
 |n+1=>by
  let b:=ur f k n;let lt:=tF f n;unfold msk;rcases Nat.lt_trichotomy k n with h|h|h
  .split
   .rw[Nat.testBit_two_pow_add_gt h,b];simp[h,vb h]
   .rw[Nat.zero_add,b];simp[h,vb h]
  .subst h;split
   .rename_i hf
    rw[Nat.testBit_two_pow_add_eq,Nat.testBit_lt_two_pow lt];simp[hf]
   .rename_i hf
    rw[Nat.zero_add,Nat.testBit_lt_two_pow lt];simp[hf]
  .let a:(if f n=Ki then 2^n else 0)+msk f n<2^k:=tP (tF f<|n+1)<|Nat.pow_le_pow_right ⋯ h;rw[Nat.testBit_lt_two_pow a];simp;lia
def iD(m:Int)(k:Nat):Bool:=G0.bitAnd (m / 2^k) 1 != 0
theorem vF(f:Nat->Bool)(n k:Nat):iD ((msk f n:Nat):Int) k=(Kk (k<n) && f k):=by
 rw[←ur];unfold iD;let e:((msk f n:Nat):Int) / 2^k=((msk f n / 2^k:Nat):Int):=by simp
 rw[e,PyProof.Rows.bitAnd_pp (xu _) ⋯];unfold Nat.testBit;rw[Nat.shiftRight_eq_div_pow,w4,Nat.and_comm];show((((1:Int).toNat &&& (msk f n / 2^k):Nat):Int) != 0)=_;rw[Bool.eq_iff_iff,bne_iff_ne,bne_iff_ne];constructor
 .intro h z;exact h (by rw[show(1:Int).toNat=1 from U,z];rfl)
 .intro h z;calc h (by rw[show(1:Int).toNat=1 from U]at z;lia)
def pkF(a:La Rw)(f:Nat->Bool)(n:Nat):La Int:=((List.range n).filter f).map λk=>(a.getD k ([],0)).2
theorem qU(a:La Rw)(f:Nat->Bool)(n:Nat):pkF a f (n+1)=pkF a f n++(if f n then[(a.getD n ([],0)).2] else[]):=by
 unfold pkF;rw[kU,jy,dz];cases h:f n with
 |true=>rw[nF h];simp
 |false=>rw[nL (by rw[h];exact Bool.false_ne_true)];simp
theorem uu(a:La Rw)(f:Nat->Bool)(n:Nat):(pkF a f n).length<=n:=by
 unfold pkF;rw[dn];calc tT (iK ..) (by simp)
theorem yQ(a:La Rw)(f:Nat->Bool)(n:Nat):pkF a (iD ((msk f n:Nat):Int)) n=pkF a f n:=by
 unfold pkF
 congr 1
 apply List.filter_congr
 intro k b;rw[vF];simp[hC.mp b]
def Tbl(h j g:Ak)(H:Hp)(t:Ak)(b:La Rw)(i:Nat)(o:Int×Int):Prop:=∃(d e f:Ak)(fs:La (Str×V))(a:La V)(c:Str),H t=Kg (.ins h f fs)/\fs.lookup s!"rows"=Kg (.ref d)/\fs.lookup s!"way"=Kg (.str c)/\fs.lookup s!"outcome"=Kg (.ref e)/\H d=Kg (.lst a)/\RL NT H a b/\six[i]?=Kg c/\Dom j g H e o/\o.1<=o.2/\a.length<=200
theorem Tbl.same{d e c:Ak}{H H':Hp}{t:Ak}{a:La Rw}{i:Nat}{o:Int×Int}(h:Tbl d e c H t a i o)(s:ao H H'):Tbl d e c H' t a i o:=by
 let(j,k,x,fs,f,g,w,v,u,r,q,p,n,m,l,b):=h;calc⟨j,k,x,fs,f,g,s _ _ w,v,u,r,s _ _ q,p.same s,n,m.same s,l,b⟩
def mT(a:La Rw)(cs:La Int)(k:Nat):Bool:=nJ (a.getD k ([],0)).1 cs
theorem getD_at{a:La Rw}{k:Nat}{w:Rw}(e:a[k]?=Kg w):a.getD k ([],0)=w:=by rw[hJ,e];rfl
def fl(a:La Rw)(cs:La Int):La Int:=(a.filter λw=>nJ w.1 cs).map (·.2)
theorem yR(a:La Rw)(w:Rw)(cs:La Int):fl (a++[w]) cs=fl a cs++(if nJ w.1 cs then[w.2] else[]):=by
 unfold fl;rw[jy,dz];cases h:nJ w.1 cs <;> simp[lR,h]
theorem qV(a:La Rw)(cs:La Int):∀n,n<=a.length->pkF a (mT a cs) n=fl (a.take n) cs
 |0,_=>by simp[pkF,fl]
 |n+1,h=>by
  let b:a[n]?=Kg a[n]:=GC h;rw[qU,qV a cs n<|Nat.le_of_succ_le h,take_snoc b,yR,getD_at b];unfold mT;rw[getD_at b]
theorem A6(a:La Rw)(cs:La Int):pkF a (mT a cs) a.length=fl a cs:=by
 rw[qV a cs _ (tj _),fD]
def ord:La Nat:=[3,4,2,1,0,5]
theorem yS{K:W.Frag}{H:Hp}{n:Nat}{a b:Ak}{xs ys:La V}(g:SqT K H a xs)(d:SqT K H b ys)(c:xs.length=ys.length)(h:∀(j:Nat)(x y:V),xs[j]?=Kg x->ys[j]?=Kg y->DEq K H n x y Ki):DEq K H (n+1) (.ref a) (.ref b) true:=by
 by_cases e:a=b
 .subst e;exact .same a
 .let:=DEq.tup (f:=λ_=>Ki) e g d h;rw[show((List.range<|min xs.length ys.length).all (λ_=>Ki) && xs.length == ys.length)=Ki by simp[c]]at this;calc this
theorem yT{K:W.Frag}{H:Hp}{n:Nat}(i:Int):DEq K H n (.int i) (.int i) true:=by
 let:=DEq.flat (K:=K) (H:=H) (n:=n) (x:=.int i) (y:=.int i) U U;rw[show eqV (.int i) (.int i)=Ki by simp[eqV]]at this;calc this
theorem vG{K:W.Frag}{H:Hp}{Q:VK}{a b:Ak}{xs ys:La V}(e:SqL K H a xs)(d:SqL K H b ys)(c:xs.length=ys.length)(h:∀(j:Nat)(x y:V),xs[j]?=Kg x->ys[j]?=Kg y->DEq K H 60 x y Ki)(q:Q (.bl Kj) H):wO K Ki (.ref a) (.ref b) H Q:=by
 calc⟨a,b,xs,ys,U,U,e,d,.inr ⟨c,λ_=>Ki,h,?_⟩⟩;rw[show(List.range xs.length).all (λ_=>Ki)=Ki by simp];calc q
structure Col where
 prs:Prs
 w:Bool
 sd:Int
structure Ch(ps:Prs):Prop where
 le:∀(i:Nat)(p:Int×Int),ps[i]?=Kg p->p.1<=p.2
 nxt:∀(i:Nat)(p q:Int×Int),ps[i]?=Kg p->ps[i+1]?=Kg q->q.1=p.2+1
structure Gd(c:Col):Prop where
 some_:1<=c.prs.length
 few:c.prs.length<=6
 ch:Ch c.prs
 w0:c.w=Ki->∀p,c.prs[0]?=Kg p->p.1=0
 wl:c.w=Ki->∀(i:Nat)(p:Int×Int),c.prs[i]?=Kg p->p.2<40
def Col.lo(c:Col):Int:=(c.prs.headD (0,0)).1
def Col.hi(c:Col):Int:=(c.prs.getLastD (0,0)).2
def Col.b(c:Col):Int×Int:=(c.lo,c.hi)
structure Srt(ps:Prs):Prop where
 le:∀(i:Nat)(p:Int×Int),ps[i]?=Kg p->p.1<=p.2
 lt:∀(i j:Nat)(p q:Int×Int),i<j->ps[i]?=Kg p->ps[j]?=Kg q->p.2<q.1
structure D5(prs:Prs)(b n:Nat)(ps:Prs):Prop where
 srt:Srt ps
 iff:∀x:Int,inP ps x=Ki↔∃(k:Nat)(p:Int×Int),k<n/\prs[k]?=Kg p/\b.testBit k=Ki/\p.1<=x/\x<=p.2
def mrg(a:Prs)(b:Nat):Nat->Prs
 |0=>[]
 |n+1=>if b.testBit n then(if (Kk (0<n) && b.testBit (n-1)) then(mrg a b n).dropLast++[(((mrg a b n).getLastD (0,0)).1,(a.getD n (0,0)).2)]else mrg a b n++[a.getD n (0,0)])else mrg a b n
abbrev BW:=La Nat×Int
def vN(bs:La Nat):La V:=bs.map λb:Nat=>V.int (b:Int)
theorem cC(bs:La Nat):(vN bs).length=bs.length:=by unfold vN;rw[dn]
theorem xC{bs:La Nat}{j b:Nat}(e:bs[j]?=Kg b):(vN bs)[j]?=Kg (.int (b:Int)):=by unfold vN;rw[dy,e];rfl
theorem oM{bs:La Nat}{j:Nat}{x:V}(e:(vN bs)[j]?=Kg x):∃b:Nat,x=.int (b:Int)/\bs[j]?=Kg b:=by
 unfold vN at e;rw[dy]at e;cases q:bs[j]? with
 |none=>rw[q]at e;cases e
 |some b=>rw[q]at e;cases e;calc⟨b,U,U⟩
theorem pJ(bs cs:La Nat):vN bs++vN cs=vN (bs++cs):=by unfold vN;rw[dz]
structure Ge(cs:La Col)(o:Col)(w:BW):Prop where
 len:w.1.length=cs.length
 lt:∀(j b:Nat)(c:Col),w.1[j]?=Kg b->cs[j]?=Kg c->b<2^c.prs.length
 lo:o.lo<=w.2
 hi:w.2<=o.hi
structure Gq(cs:La Col)(w:BW)(x:Rw):Prop where
 code:x.2=w.2
 len:x.1.length=cs.length
 sp:∀(j:Nat)(ps:Prs)(c:Col)(b:Nat),x.1[j]?=Kg ps->cs[j]?=Kg c->w.1[j]?=Kg b->D5 c.prs b c.prs.length ps
 is:∀(j:Nat)(ps:Prs)(c:Col)(b:Nat),x.1[j]?=Kg ps->cs[j]?=Kg c->w.1[j]?=Kg b->ps=mrg c.prs b c.prs.length
def grow(a:La (La Nat))(n:Nat):La (La Nat):=a.flatMap λp=>(List.range n).map λk=>p++[k]
def prm{a:Type}(os:La Nat)(xs:La a):La a:=os.filterMap (xs[·]?)
structure Pm(os:La Nat)(n:Nat):Prop where
 len:os.length=n
 lt:∀k∈os,k<n
 nd:os.Nodup
 all:∀k,k<n->k∈os
theorem mU{a:Type}{o:Nat}{os:La Nat}{xs:La a}(h:o<xs.length):prm (o :: os) xs=xs[o] :: prm os xs:=by
 unfold prm;rw[jP,GC h]
theorem ck{b:Type}:∀{os:La Nat}{xs:La b},(∀k∈os,k<xs.length)->(prm os xs).length=os.length/\∀(j k:Nat),os[j]?=Kg k->(prm os xs)[j]?=xs[k]?
 | [],xs,_=>⟨U,λj k e=>by simp at e⟩
 |o :: os,xs,h=>by
  let(g,d):=ck (os:=os) (xs:=xs) λk c=>h k<|dV _ c
  let a:=h o dO;rw[mU a];refine⟨by rw[hU,hU,g],λj k f=>?_⟩
  match j,f with
  |0,f =>
   let:o=k:= ~~~f
   subst this;rw[GC a];rfl
  |j+1,f=>calc d j k (~~~f)
theorem xD{a:Type}{os:La Nat}{k:Nat}{xs:La a}{x:a}(e:xs[k]?=Kg x):prm (os++[k]) xs=prm os xs++[x]:=by
 unfold prm;rw[List.filterMap_append];simp[e]
theorem yU{a b:Type}(f:a->b)(os:La Nat)(xs:La a):prm os (xs.map f)=(prm os xs).map f:=by
 unfold prm;rw[List.map_filterMap]
 congr 1
 funext k
 rw[dy]
theorem uv{a:Type}{os:La Nat}{xs:La a}{x:a}(h:x∈prm os xs):x∈xs:=by
 unfold prm at h;let(k,_,e):=rg.mp h;calc GG e
theorem cH{a:Type}{xs:La a}(h:xs.Nodup){i j:Nat}{x:a}(e:xs[i]?=Kg x)(f:xs[j]?=Kg x):i=j:=by
 let(hi,d):=GD.mp e;let(b,c):=GD.mp f;let p:=List.pairwise_iff_getElem.mp<|nk.mp h;rcases Nat.lt_trichotomy i j with q|q|q
 .exact Kp (d.trans c.symm)<|p i j hi b q
 .exact q
 .exact Kp (c.trans d.symm)<|p j i b hi q
theorem vH{g:Type}{os:La Nat}{xs:La g}(a:os.Nodup)(i:xs.Nodup)(d:∀k∈os,k<xs.length):(prm os xs).Nodup:=by
 induction os with
 |nil=>exact rG
 |cons o os h =>
  rw[ja]at a;let hi:=h a.2 λk b=>d k<|dV _ b
  let e:=d o dO;rw[mU e,ja];calc⟨λc=>?_,hi⟩;unfold prm at c;let(k,b,f):=rg.mp c;let:k=o:=cH i f<|GC e;subst this;calc a.1 b
def TF(j:Ak)(H:Hp)(t:Ak)(nm f:Str)(g:Ak)(zs:La Str)(i:La V)(b:La Rw):Prop:=∃(c h d e:Ak)(fs:La (Str×V))(a:La V),H t=Kg (.ins j h fs)/\fs.lookup s!"rows"=Kg (.ref c)/\fs.lookup s!"name"=Kg (.str nm)/\fs.lookup s!"way"=Kg (.str f)/\fs.lookup s!"outcome"=Kg (.ref g)/\fs.lookup s!"names"=Kg (.ref d)/\fs.lookup s!"domains"=Kg (.ref e)/\H d=Kg (.lst<|zs.map V.str)/\H e=Kg (.lst i)/\H c=Kg (.lst a)/\RL NT H a b/\a.length<=200
theorem TF.same{g:Ak}{H H':Hp}{t:Ak}{nm d:Str}{e:Ak}{zs:La Str}{f:La V}{a:La Rw}(h:TF g H t nm d e zs f a)(s:ao H H'):TF g H' t nm d e zs f a:=by
 let(j,x,k,y,fs,i,w,v,u,q,p,o,n,m,l,c,b,r):=h;calc⟨j,x,k,y,fs,i,s _ _ w,v,u,q,p,o,n,s _ _ m,s _ _ l,s _ _ c,b.same s,r⟩
theorem TF.tbl{j k g:Ak}{H:Hp}{t:Ak}{nm b:Str}{c:Ak}{zs:La Str}{w:La V}{a:La Rw}{i:Nat}{o:Int×Int}(h:TF j H t nm b c zs w a)(hi:six[i]?=Kg b)(n:Dom k g H c o)(p:o.1<=o.2):Tbl j k g H t a i o:=by
 let(m,v,_,_,fs,l,u,s,_,r,q,_,_,_,_,f,e,d):=h;calc⟨m,c,v,fs,l,b,u,s,r,q,f,e,hi,n,p,d⟩
structure TOk(cN cW:Ak)(H:Hp)(nm wy:Str)(ou:Ak)(zs:La Str)(dv:La V)(Km:La Rw)(bs:Prs)(o:Int×Int):Prop where
 words:∀z∈nm :: zs,isw z=Ki
 once:(nm :: zs).Nodup
 one:1<=zs.length
 four:zs.length<=4
 way:wy∈six
 sum:wy=s!"sum" -> ∃dx fs,H ou=Kg (.ins cN dx fs)
 doms:ay dv bs (Dom cN cW H)
 out:Dom cN cW H ou o
 len:bs.length=zs.length
 rows:∀w∈Km,uo bs o w
 few:Km.length<=200
theorem qW{H:Hp}{D:Ak}{o:HO}:hide (upd H D o) D=hide H D:=by
 funext b
 unfold hide;by_cases h:b=D
 .rw[Ko h,Ko h]
 .rw[Kn h,Kn h,aq h]
theorem oN{H H':Hp}{D:Ak}(s:ao H H'):ao (hide H D) (hide H' D):=λb o e=>by
 unfold hide at e⊢;by_cases h:b=D
 .rw[Ko h]at e;cases e
 .rw[Kn h]at e⊢;calc s b o e
theorem lX(H:Hp)(D:Ak):ao (hide H D) H:=λb o e=>by
 unfold hide at e;by_cases h:b=D
 .rw[Ko h]at e;cases e
 .rw[Kn h]at e;calc e
def lq{H H':Hp}{D:Ak}(s:ao H H')(n:H D=Kh):ao H (hide H' D):=λb o e=>dq (s b o e)<|bL e n
def tG(C:Ak)(H:Hp)(a:Ak)(zs:La Str):Prop:=∃b l,H a=Kg (.ins C b [("low",.int 0),("high",.int<|hiW zs),("words",.ref l)])/\H l=Kg (.lst<|zs.map V.str)
def pK(C:Ak)(H:Hp)(a:Ak)(lo hi:Int):Prop:=∃b,H a=Kg (.ins C b [("low",.int lo),("high",.int hi)])
theorem tG.same{C:Ak}{H H':Hp}{a:Ak}{zs:La Str}(h:tG C H a zs)(s:ao H H'):tG C H' a zs:=by let(b,l,e,f):=h;calc⟨b,l,s _ _ e,s _ _ f⟩
theorem pK.same{C:Ak}{H H':Hp}{a:Ak}{lo hi:Int}(h:pK C H a lo hi)(s:ao H H'):pK C H' a lo hi:=by let(b,e):=h;calc⟨b,s _ _ e⟩
def bnd(i:Int):Prop:=i.natAbs<10^60
theorem A7{l:La Nat}(j:1<=l.length)(i:l.length<=12)(f:∀x∈l,97<=x/\x<=122)(d:l≠[110,111,116]):isw ⟨l.toArray⟩=true:=by
 let c:mz ⟨l.toArray⟩ lets=true:=by
  unfold mz;rw[iv];intro x a;exact A3<|f x<|~~~a
 let b:¬ (V.str ⟨l.toArray⟩=V.str s!"not"):=λh=>by
  injection h with h;let e:s!"not" = ⟨[110,111,116].toArray⟩:= ~~~0
  rw[e]at h;injection h with h;exact d<|~~~Kt Array.toList h
 let g:(⟨l.toArray⟩:Str).length=l.length:=by simp[Str.length]
 unfold isw;rw[c,Kq (show(1:Int)<=(((⟨l.toArray⟩:Str).length:Nat):Int) by lia),Kq (show(((⟨l.toArray⟩:Str).length:Nat):Int)<=12 by lia)];show(Ki && (Ki && (!Kk (V.str ⟨l.toArray⟩=V.str s!"not") && Ki)))=Ki;rw[Kr b];rfl
def pz(t:Int):La Nat:=[122,117,118].take t.toNat
theorem Cy{k:Int}(b:0<=k)(a:k<40):bnd k:=by
 unfold bnd;let e:(40:Nat)<=10^60:=⋯
 generalize (10^60:Nat)=W at e⊢;lia
abbrev Dk:=Option (La Str)×Int×Int
def iE(c b:Ak)(H:Hp)(d:Ak)(k:Dk):Prop:=match k.1 with
 |none=>pK c H d k.2.1 k.2.2
 |some a=>tG b H d a/\k.2.1=0/\k.2.2=hiW a/\Good a
theorem iE.same{b a:Ak}{H H':Hp}{d:Ak}{k:Dk}(h:iE b a H d k)(s:ao H H'):iE b a H' d k:=by
 let(w,lo,hi):=k;cases w with
 |none=>exact pK.same h s
 |some c=>calc⟨h.1.same s,h.2⟩
structure D6(k:Dk)(p:Pr):Prop where
 lo:k.2.1<=p.1
 le:p.1<=p.2
 hi:p.2<=k.2.2
 b1:bnd p.1
 b2:bnd p.2
def GdK(k:Dk):Prop:=match k.1 with
 |none=>True
 |some a=>Good a
def ia(N:Ak->Prop)(e c:Ak)(H:Hp)(d:Ak)(k:Dk):Prop:=match k.1 with
 |none=>pK e H d k.2.1 k.2.2
 |some a=>(∃b l,N l/\H d=Kg (.ins c b [("low",.int 0),("high",.int<|hiW a),("words",.ref l)])/\H l=Kg (.lst<|a.map V.str))/\k.2.1=0/\k.2.2=hiW a/\Good a
theorem ia.dom{N:Ak->Prop}{b a:Ak}{H:Hp}{d:Ak}{k:Dk}(h:ia N b a H d k):iE b a H d k:=by
 let(w,lo,hi):=k;cases w with
 |none=>exact h
 |some g=>obtain⟨⟨c,l,_,e,f⟩,r⟩:=h;calc⟨⟨c,l,e,f⟩,r⟩
theorem ia.same{N:Ak->Prop}{b a:Ak}{H H':Hp}{d:Ak}{k:Dk}(h:ia N b a H d k)(s:ao H H'):ia N b a H' d k:=by
 let(w,lo,hi):=k;cases w with
 |none=>exact pK.same h s
 |some g=>obtain⟨⟨c,l,n,e,f⟩,r⟩:=h;calc⟨⟨c,l,n,s _ _ e,s _ _ f⟩,r⟩
theorem ia.upd{N:Ak->Prop}{c b:Ak}{H:Hp}{d D:Ak}{k:Dk}{o:HO}{zs:La V}(h:ia N c b H d k)(n:¬ N D)(e:H D=Kg (.lst zs)):ia N c b (upd H D o) d k:=by
 let(w,lo,hi):=k;cases w with
 |none =>
  let(a,f):=h;exact⟨a,(aq<|cy f e (by intro z;cases z)).trans f⟩
 |some i =>
  let((a,l,m,f,g),r):=h;calc⟨⟨a,l,m,(aq<|cy f e (by intro z;cases z)).trans f,(aq<|λ(z:l=D)=>n (by rw[←z];exact m)).trans g⟩,r⟩
theorem uw{z:Str}(h:isw z=Ki):z.length<=12:=by
 unfold isw at h;simp only[yq,decide_eq_true_eq]at h;lia
theorem A8{zs:La Str}{m:Nat}(h:∀z∈zs,z.length<=m):(zs.map (·.length)).sum<=zs.length*m:=by
 induction zs with
 |nil=>simp
 |cons z zs a =>
  let d:=h z (by simp);let c:=a λy b=>h y<|dV _ b
  rw[ik,List.sum_cons,hU,Nat.succ_mul];lia
theorem yV{zs:La Str}{m n:Nat}(h:∀z∈zs,z.length<=m)(a:zs.length<=n)(b:n*m+n*64<=16777216):(zs.map (·.length)).sum+zs.length*64<=16777216:=by
 let e:=A8 h;let d:zs.length*m<=n*m:=Nat.mul_le_mul_right m a;let c:zs.length*64<=n*64:=Nat.mul_le_mul_right 64 a;lia
theorem A9(a b:Str):(a++b).length=a.length+b.length:=by
 show(Str.append a b).length=_;unfold Str.append Str.length;simp
def hcs(c:Int):La Nat:=(List.range (c%6).toNat).map λj:Nat=>97+(c / (3*(0+(j:Int))+1)%13).toNat
def tcs(c:Int):La Nat:=(List.range (c / 7%6).toNat).map λj:Nat=>97+(c / (5*(0+(j:Int))+2)%13).toNat
def lwc(c k:Int):La Nat:=hcs c++([97+((c / 11+3*k)%26).toNat]++tcs c)
def lw(c k:Int):Str:=⟨(lwc c k).toArray⟩
def lws(c:Int)(n:Nat):La Str:=(List.range n).map λj:Nat=>lw c<|0+(j:Int)
theorem xE(c:Int)(n:Nat):lws c (n+1)=lws c n++[lw c (0+(n:Int))]:=by unfold lws;rw[kU,dz];rfl
theorem kB(c:Int)(n:Nat):(lws c n).length=n:=by unfold lws;simp
theorem lY{c k:Int}{x:Nat}(h:x∈lwc c k):(97<=x/\x<=109)\/x=97+((c / 11+3*k)%26).toNat:=by
 unfold lwc at h;rcases gs.mp h with h|h
 .unfold hcs at h;let(j,_,rfl):=eH.mp h;let:=xc (c / (3*(0+(j:Int))+1)) (show(0:Int)<13 by decide);lia
 .rcases gs.mp h with h|h
  .exact .inr<|~~~h
  .unfold tcs at h;let(j,_,rfl):=eH.mp h;let:=xc (c / (5*(0+(j:Int))+2)) (show(0:Int)<13 by decide);lia
theorem pL(c:Int):(hcs c).length<=5:=by
 unfold hcs;rw[dn,hZ];let:=xc c (show(0:Int)<6 by decide);lia
theorem pM(c:Int):(tcs c).length<=5:=by
 unfold tcs;rw[dn,hZ];let:=xc (c / 7) (show(0:Int)<6 by decide);lia
theorem xF(c k:Int):isw (lw c k)=true:=by
 let g:=pL c;let f:=pM c;let e:=xc (c / 11+3*k) (show(0:Int)<26 by decide);refine A7 (by unfold lwc;simp;lia) (by unfold lwc;simp;lia) (λx d=>?_) (λh=>?_)
 .rcases lY d with d|d <;> lia
 .let a:(110:Nat)∈lwc c k:=by rw[h];simp
  let b:(111:Nat)∈lwc c k:=by rw[h];simp
  rcases lY a with a|a
  .lia
  .rcases lY b with b|b <;> lia
theorem Ba{c k a:Int}(h:0<=k)(g:k<8)(f:0<=a)(b:a<8)(e:lw c k=lw c a):k=a:=by
 unfold lw at e;injection e with e;let e:lwc c k=lwc c a:= ~~~Kt Array.toList e
 unfold lwc at e;let e:=List.append_cancel_left e;injection e with j i;let:=w5 (c / 11+3*k) (show(26:Int)≠0 by decide);let:=w5 (c / 11+3*a) (show(26:Int)≠0 by decide);generalize c / 11=d at *
 lia
theorem oO{c:Int}{n:Nat}(h:n<=8):(lws c n).Nodup:=by
 unfold lws;rw[nk,nr];calc List.Pairwise.imp_of_mem (R:=λa b=>a≠b) (λ{a b} f d g e=>?_) ti;let f:=hC.mp f;let d:=hC.mp d;let:=Ba ∅ ∅ ∅ ∅ e;lia
theorem ux{c:Int}{n:Nat}{z:Str}(a:z∈lws c n):isw z=true:=by
 unfold lws at a;let(j,_,rfl):=eH.mp a;calc xF _ _
theorem xG{c:Int}{n:Nat}(d:1<=n)(b:n<=8):Good (lws c n):=⟨by rw[kB];exact d,by rw[kB];lia,λz a=>ux a,oO b⟩
theorem mV:∀xs:La Nat,Txt.join s!"" (xs.map λx=>(⟨#[x]⟩:Str))=⟨xs.toArray⟩:=λxs=>by
 rw[show Txt.join s!"" (xs.map λx=>(⟨#[x]⟩:Str))=s!"".join (xs.map λx=>(⟨#[x]⟩:Str))from StrLaws.glued_eq_join _ _];let c:s!"" = Str.empty:= ~~~0
 rw[c];induction xs with
 |nil=>rfl
 |cons x xs b =>
  cases xs with
  |nil=>rfl
  |cons y a =>
   show(⟨#[x]⟩:Str)++Str.empty++Str.join Str.empty ((y :: a).map λx=>(⟨#[x]⟩:Str))=_;rw[b];show Str.append (Str.append _ _) _=_;unfold Str.append Str.empty;simp
theorem qX(xs:La Nat)(h:xs.length<=5):((xs.map λx=>(⟨#[x]⟩:Str)).map (·.length)).sum+(xs.map λx=>(⟨#[x]⟩:Str)).length*64<=16777216 :=
 yV (m:=1) (n:=5) (λz a=>by let(x,_,rfl):=eH.mp a;exact tj 1) (by rw[dn];exact h) ⋯
structure PD where
 lo:Int
 hi:Int
 ws:La Str
 pool:La Int
def EdP(p:PD)(x:Int×Int):Prop:=(x.1=p.lo\/x.1∈p.pool\/x.1-1∈p.pool)/\(x.2=p.hi\/x.2∈p.pool\/x.2+1∈p.pool)
def PDA(N:Ak->Prop)(H:Hp)(r:Ak)(p:PD):Prop:=∃l:Ak,N r/\N l/\H r=Kg (.tup [.int p.lo,.int p.hi,.ref l])/\H l=Kg (.lst<|p.ws.map V.str)
theorem PDA.same{N:Ak->Prop}{H H':Hp}{r:Ak}{p:PD}(h:PDA N H r p)(s:ao H H'):PDA N H' r p:=by let(l,n,m,e,f):=h;calc⟨l,n,m,s _ _ e,s _ _ f⟩
theorem PDA.wk{N a:Ak->Prop}{H:Hp}{r:Ak}{p:PD}(h:PDA N H r p)(w:∀x,N x->a x):PDA a H r p:=by let(l,n,m,e,f):=h;calc⟨l,w _ n,w _ m,e,f⟩
def PD.k(p:PD):Dk:=(if p.ws=[]then Kh else Kg p.ws,p.lo,p.hi)
structure nK(p:PD):Prop where
 le:p.lo<=p.hi
 wd:p.ws≠[]->Good p.ws/\p.lo=0/\p.hi=hiW p.ws
 bd:∀x:Int,p.lo<=x->x<=p.hi->bnd x
 bo:bnd (p.lo-1)/\bnd (p.hi+1)
theorem p30:(10:Int)^(30:Int).toNat=((10^30:Nat):Int):=⋯
theorem p29:(10:Int)^(29:Int).toNat=((10^29:Nat):Int):=⋯
theorem qY{x:Int}(b : -((10^31:Nat):Int)<=x)(a:x<=((10^31:Nat):Int)):bnd x:=by
 unfold bnd;let k:(10^31:Nat)<10^60:=⋯
 generalize (10^31:Nat)=A at b a k;generalize (10^60:Nat)=W at k⊢;lia
theorem fm{i j:Int}(h:0<j)(a:j<1000):BR i j:=⟨h,∅⟩
def pl1{H:Hp}{t l:Ak}{a b:Int}(d:H t=Kh)(c:upd H t (.tup [.int a,.int b]) l=Kh):ao H (upd (upd H t<|.tup [.int a,.int b]) l<|.lst [.ref t])/\upd (upd H t<|.tup [.int a,.int b]) l (.lst [.ref t]) l=Kg (.lst [.ref t])/\PL (upd (upd H t<|.tup [.int a,.int b]) l<|.lst [.ref t]) [.ref t] [(a,b)] :=
 ⟨(ag d _).trans<|ag c _,ae,.cons ⟨t,U,ag c _ _ _ ae⟩ .nil⟩
def pl2{H:Hp}{t u l:Ak}{a b c d:Int}(g:H t=Kh)(f:upd H t (.tup [.int a,.int b]) u=Kh)(e:upd (upd H t<|.tup [.int a,.int b]) u (.tup [.int c,.int d]) l=Kh):ao H (upd (upd (upd H t<|.tup [.int a,.int b]) u<|.tup [.int c,.int d]) l<|.lst [.ref t,.ref u])/\upd (upd (upd H t<|.tup [.int a,.int b]) u<|.tup [.int c,.int d]) l (.lst [.ref t,.ref u]) l=Kg (.lst [.ref t,.ref u])/\PL (upd (upd (upd H t<|.tup [.int a,.int b]) u<|.tup [.int c,.int d]) l<|.lst [.ref t,.ref u]) [.ref t,.ref u] [(a,b),(c,d)] :=
 ⟨((ag g _).trans<|ag f _).trans<|ag e _,ae,.cons ⟨t,U,ag e _ _ _<|ag f _ _ _ ae⟩<|.cons ⟨u,U,ag e _ _ _ ae⟩ .nil⟩
structure pN(ds:La PD)(cols:La Nat)(ow:Nat)(w:Rw):Prop where
 len:w.1.length=cols.length
 inn:∀(j k:Nat)(ps:Prs)(p:PD),w.1[j]?=Kg ps->cols[j]?=Kg k->ds[k]?=Kg p->∀x∈ps,p.lo<=x.1/\x.1<=x.2/\x.2<=p.hi
 few:∀ps∈w.1,ps.length<=2
 code:∀p,ds[ow]?=Kg p->p.lo<=w.2/\w.2<=p.hi
 pool:∀(j k:Nat)(ps:Prs)(p:PD),w.1[j]?=Kg ps->cols[j]?=Kg k->ds[k]?=Kg p->∀x∈ps,EdP p x
theorem PDA.updN{N:Ak->Prop}{H:Hp}{r D:Ak}{p:PD}{zs:La V}{o:HO}(h:PDA N H r p)(n:¬ N D)(e:H D=Kg (.lst zs)):PDA N (upd H D o) r p:=by
 let(l,b,a,f,g):=h;calc⟨l,b,a,(aq<|cy f e (by intro z;cases z)).trans f,(aq<|λ(z:l=D)=>n (by rw[←z];exact a)).trans g⟩
def hideL(H:Hp)(F:La Ak):Hp:=λb=>if b∈F then Kh else H b
theorem dE{H:Hp}{F:La Ak}{b:Ak}{o:HO}(e:H b=Kg o)(n:b ∉ F):hideL H F b=Kg o:=by unfold hideL;rw[Kn n];calc e
theorem eP(H:Hp)(F:La Ak):ao (hideL H F) H:=λb o e=>by
 unfold hideL at e;by_cases h:b∈F
 .rw[Ko h]at e;cases e
 .rw[Kn h]at e;calc e
theorem gG{H H':Hp}{F:La Ak}(s:ao H H'):ao (hideL H F) (hideL H' F):=λb o e=>by
 by_cases h:b∈F
 .unfold hideL at e;rw[Ko h]at e;cases e
 .exact dE (s b o<|eP H F b o e) h
theorem oP{H:Hp}{F:La Ak}{D:Ak}{o:HO}(h:D∈F):hideL (upd H D o) F=hideL H F:=by
 funext b
 unfold hideL;by_cases a:b∈F
 .rw[Ko a,Ko a]
 .rw[Kn a,Kn a];calc aq λz=>a (by rw[z];exact h)
theorem tH{H H':Hp}{F:La Ak}(s:ao H H')(n:∀D∈F,H D=Kh):ao H (hideL H' F):=λb o e=>dE (s b o e) λa=>by rw[n b a]at e;cases e
theorem mW{H:Hp}{F:La Ak}(c:∀D∈F,∃zs,H D=Kg (.lst zs)):jo H (hideL H F):=λb t e=>dE e λa=>by
 let(zs,d):=c b a;rw[d]at e;cases e
theorem gi.hideL{H d:Hp}{F:La Ak}{r:Ak}{w:Rw}(h:gi (λa=>H a=Kh) d r w)(k:∀D∈F,∃zs,H D=Kg (.lst zs))(s:ao H d):gi NT (My.hideL d F) r w:=by
 let(v,u,e,n,f,c):=h;let b:∀D∈F,∃zs,d D=Kg (.lst zs):=λD t=>let ⟨zs,i⟩:=k D t;⟨zs,s _ _ i⟩
 let out:∀x,H x=Kh->x ∉ F:=λx j q=>by let(zs,i):=k x q;rw[i]at j;cases j
 calc⟨v,u,mW b _ _ e,trivial,dE f<|out _ n,ay.mono c λl y h=>?_⟩;let(p,m,g,o):=h;calc⟨trivial,m,dE g<|out _ p,o.mono<|mW b⟩
def TT(H:Hp)(r:Ak)(t:(La Nat×Str)×Ak):Prop:=∃a:Ak,H r=Kg (.tup [.ref a,.str t.1.2,.ref t.2])/\H a=Kg (.lst<|vN t.1.1)
theorem TT.same{H H':Hp}{r:Ak}{t:(La Nat×Str)×Ak}(h:TT H r t)(s:ao H H'):TT H' r t:=by let(a,e,f):=h;calc⟨a,s _ _ e,s _ _ f⟩
structure Bb(fN:Nat)(ds:La PD)(j:Nat)(t:La Nat×Str):Prop where
 some_:1<=t.1.length
 few:t.1.length<=3
 lt:∀k∈t.1,k<fN+j
 nd:t.1.Nodup
 way:t.2∈six
 sum:t.2=s!"sum" -> ∀p,ds[fN+j]?=Kg p->p.ws=[]
def clm(c:Int)(ow:Nat)(m:Nat):La Nat:=(List.range m).map λj:Nat=>((c / 3+(0+(j:Int)))%(ow:Int)).toNat
theorem Bc{c:Int}{ow m:Nat}(h:1<=ow):∀k∈clm c ow m,k<ow:=λk a=>by
 unfold clm at a;let(j,_,rfl):=eH.mp a;let b:=xc (c / 3+(0+(j:Int))) (show(0:Int)<(ow:Int) by lia);let d:=w5 (c / 3+(0+(j:Int))) (show(ow:Int)≠0 by lia);lia
theorem vI{x i j n:Int}(k:0<=i)(g:i<n)(f:0<=j)(d:j<n)(e:(x+i)%n=(x+j)%n):i=j:=by
 let c:∀a b:Int,0<=a->a<n->0<=b->b<n->b<=a->(x+a)%n=(x+b)%n->a=b:=λa b q p o m l e=>by
  let h:=Int.emod_eq_emod_iff_emod_sub_eq_zero.mp e;rw[show x+a-(x+b)=a-b by lia,Int.emod_eq_of_lt ∅ ∅]at h;lia
 by_cases h:j<=i
 .exact c i j k g f d h e
 .exact(c j i f d k g ∅ e.symm).symm
theorem Bd{c:Int}{ow m:Nat}(h:1<=ow)(k:m<=ow):(clm c ow m).Nodup:=by
 unfold clm;rw[nk,nr];calc List.Pairwise.imp_of_mem (R:=λa b=>a≠b) (λ{a b} f d g e=>?_) ti;let f:=hC.mp f;let d:=hC.mp d;let o:=w5 (c / 3+(0+(a:Int))) (show(ow:Int)≠0 by lia);let l:=w5 (c / 3+(0+(b:Int))) (show(ow:Int)≠0 by lia);let:=vI (x:=c / 3) (i:=0+(a:Int)) (j:=0+(b:Int)) (n:=(ow:Int)) ∅ ∅ ∅ ∅ ∅;lia
theorem pO(c:Int)(ow m:Nat):(clm c ow m).length=m:=by unfold clm;simp
theorem xH(c:Int)(ow m:Nat):vN (clm c ow<|m+1)=vN (clm c ow m)++[.int ((((c / 3+(0+(m:Int)))%(ow:Int)).toNat:Nat):Int)]:=by
 unfold clm vN;rw[kU,dz,dz];rfl
structure PT where
 cols:La Nat
 way:Str
 rows:La Rw
def PTA(H:Hp)(r:Ak)(t:PT):Prop:=∃(c b:Ak)(a:La V),H r=Kg (.tup [.ref c,.str t.way,.ref b])/\H c=Kg (.lst<|vN t.cols)/\H b=Kg (.lst a)/\RL NT H a t.rows
theorem PTA.same{H H':Hp}{r:Ak}{t:PT}(h:PTA H r t)(s:ao H H'):PTA H' r t:=by let(c,b,a,e,f,g,k):=h;calc⟨c,b,a,s _ _ e,s _ _ f,s _ _ g,k.same s⟩
structure Cz(fN:Nat)(ds:La PD)(j:Nat)(t:PT):Prop where
 ok:Bb fN ds j (t.cols,t.way)
 rows:∀w∈t.rows,pN ds t.cols (fN+j) w
 few:t.rows.length<=200
def PlA(H:Hp)(r:Ak)(zs:La Str)(ds:La PD)(f:La PT):Prop:=∃(c e a:Ak)(d b:La V),H r=Kg (.tup [.ref c,.ref e,.ref a])/\H c=Kg (.lst<|zs.map V.str)/\H e=Kg (.lst d)/\ay d ds (PDA NT H)/\H a=Kg (.lst b)/\ay b f (PTA H)
theorem PlA.same{H H':Hp}{r:Ak}{zs:La Str}{ds:La PD}{b:La PT}(h:PlA H r zs ds b)(s:ao H H'):PlA H' r zs ds b:=by
 let(d,m,a,l,c,k,j,i,f,g,e):=h;calc⟨d,m,a,l,c,s _ _ k,s _ _ j,s _ _ i,ay.mono f<|λ_ _ p=>p.same s,s _ _ g,ay.mono e λ_ _ p=>p.same s⟩
structure eQ(zs:La Str)(ds:La PD)(ts:La PT)(fN:Nat):Prop where
 words:∀z∈zs,isw z=Ki
 nd:zs.Nodup
 len:zs.length=ds.length
 n7:ds.length<=7
 tab:fN+ts.length=ds.length
 some_:1<=ts.length
 doms:∀p∈ds,nK p
 tabs:∀(j:Nat)(t:PT),ts[j]?=Kg t->Cz fN ds j t
theorem oQ{H c:Hp}{F d:La Ak}(h:∀b o,b ∉ F->H b=Kg o->c b=Kg o/\b ∉ d):ao (hideL H F) (hideL c d):=λb o e=>by
 by_cases a:b∈F
 .unfold hideL at e;rw[Ko a]at e;cases e
 .let(g,f):=h b o a<|eP H F b o e;calc dE g f
def rls(a:La ((La Nat×Str)×Ak)):La Ak:=a.map (·.2)
theorem xI(a:La ((La Nat×Str)×Ak))(t:(La Nat×Str)×Ak):rls (a++[t])=rls a++[t.2]:=by unfold rls;rw[dz];rfl
theorem yW{c:Int}{ow:Nat}(a:1<=ow):∃m:Nat,(if (ow:Int)<1+c%3 then(ow:Int)else 1+c%3)=(m:Int)/\1<=m/\m<=3/\m<=ow:=by
 let d:=w5 c (show(3:Int)≠0 by decide);let b:=xc c (show(0:Int)<3 by decide);calc⟨(if (ow:Int)<1+c%3 then(ow:Int)else 1+c%3).toNat,?_,?_,?_,?_⟩ <;> split <;> lia
theorem lZ{a:La ((La Nat×Str)×Ak)}{j:Nat}{t:(La Nat×Str)×Ak}(e:a[j]?=Kg t):(rls a)[j]?=Kg t.2:=by unfold rls;rw[dy,e];rfl
def l5{a:La ((La Nat×Str)×Ak)}{j:Nat}{t:(La Nat×Str)×Ak}(e:a[j]?=Kg t):t.2∈rls a:=GG<|lZ e
def mkT(t:(La Nat×Str)×Ak)(a:La Rw):PT:=⟨t.1.1,t.1.2,a⟩
def RwI(H:Hp)(F:La Ak)(e:Nat)(ds:La PD)(d:La ((La Nat×Str)×Ak))(a:La (La Rw))(n:Nat):Prop:=a.length=d.length/\∀(j:Nat)(t:(La Nat×Str)×Ak)(b:La Rw),d[j]?=Kg t->a[j]?=Kg b->(∃c,H t.2=Kg (.lst c)/\RL NT (hideL H F) c b)/\(∀w∈b,pN ds t.1.1 (e+j) w)/\b.length<=n
theorem RwI.grow{H e:Hp}{o n d:Nat}{ds:La PD}{b:La ((La Nat×Str)×Ak)}{c:La (La Rw)}{t:(La Nat×Str)×Ak}{f:La Rw}{zs:La V}{r:Ak}{w:Rw}(h:RwI H (rls b) o ds b c n)(u:(rls b).Nodup)(s:ao H e)(g:b[d]?=Kg t)(x:c[d]?=Kg f)(K:H t.2=Kg (.lst zs))(B:RL NT (hideL H<|rls b) zs f)(C:gi NT (hideL e<|rls b) r w)(E:pN ds t.1.1 (o+d) w):RwI (upd e t.2<|.lst<|zs++[.ref r]) (rls b) o ds b (c.set d<|f++[w]) (n+1):=by
 refine⟨by rw[sv];exact h.1,λj A q k i=>?_⟩;let D:hideL (upd e t.2<|.lst<|zs++[.ref r]) (rls b)=hideL e (rls b):=oP<|l5 g;rw[D];by_cases l:d=j
 .subst l;rw[g]at k;cases k;rw[nY (GD.mp x).1]at i;cases i;let(_,m,F):=h.2 d t f g x;refine⟨⟨_,ae,ay.snoc (B.same<|gG s) C⟩,λv a=>?_,by rw[gp,lz];lia⟩;rcases gs.mp a with a | a
  .exact m v a
  .rw[show v=w by simpa using a];exact E
 .rw[rb l]at i;let((p,I,G),m,F):=h.2 j A q k i;calc⟨⟨p,(aq λz=>?_).trans<|s _ _ I,G.same<|gG s⟩,m,∅⟩;let y:=lZ k;let J:=lZ g;rw[z]at y;calc l<|cH u J y
structure D7(k:Dk)(ps:Prs):Prop where
 few:ps.length<=2
 inn:∀p∈ps,D6 k p
 gd:GdK k
 w0:∀zs,k.1=Kg zs->k.2=(0,hiW zs)
theorem PD.k_none{p:PD}(h:p.ws=[]):p.k=(Kh,p.lo,p.hi):=by unfold PD.k;rw[Ko h]
theorem PD.k_some{p:PD}(h:p.ws≠[]):p.k=(Kg p.ws,p.lo,p.hi):=by unfold PD.k;rw[Kn h]
theorem iE.dom{g f:Ak}{H:Hp}{d:Ak}{k:Dk}(h:iE g f H d k):Dom g f H d k.2:=by
 let(w,lo,hi):=k;cases w with
 |none=>obtain⟨c,e⟩:=h;exact⟨g,.inl U,c,_,e,U,U,U⟩
 |some i =>
  let((c,l,e,_),b,a,_):=h;let b:lo=0:=b;let a:hi=hiW i:=a;subst b a;calc⟨f,.inr U,c,_,e,U,U,U⟩
theorem eQ.own{zs:La Str}{ds:La PD}{a:La PT}{b:Nat}(h:eQ zs ds a b){k:Nat}{t:PT}(e:a[k]?=Kg t):b+k<ds.length:=by
 let:=(GD.mp e).1;let:=h.tab;lia
theorem eQ.lt{zs:La Str}{ds:La PD}{a:La PT}{c:Nat}(h:eQ zs ds a c){k:Nat}{t:PT}(e:a[k]?=Kg t):∀j∈t.cols,j<ds.length:=λj b=>by
 let f:=(h.tabs k t e).ok.lt j b;let d:=h.own e;lia
theorem eQ.rows{zs:La Str}{ds:La PD}{n:La PT}{o:Nat}(h:eQ zs ds n o){k:Nat}{t:PT}(e:n[k]?=Kg t){a:PD}(x:ds[o+k]?=Kg a):∀w∈t.rows,uo (prm t.cols<|ds.map λp=>(p.lo,p.hi)) (a.lo,a.hi) w:=λw u=>by
 let f:=(h.tabs k t e).rows w u;let lt:=h.lt e;let m:∀j∈t.cols,j<(ds.map λp=>(p.lo,p.hi)).length:=λj d=>by rw[dn];exact lt j d
 let g:=ck (os:=t.cols) (xs:=ds.map λp=>(p.lo,p.hi)) m;let c:=f.code a x;refine⟨by rw[f.len,g.1],λj s b r l p v=>?_,c.1,c.2⟩;let d:j<t.cols.length:=by rw[←f.len];exact(GD.mp r).1
 let i:=GC d;rw[g.2 j _ i,dy]at l;let q:=GC<|lt _<|GG i;rw[q]at l;cases l;let:=f.inn j _ s _ r i q p v;calc⟨this.1,this.2.2⟩
theorem oR{H:Hp}{D:Ak}{zs:La V}(e:H D=Kg (.lst zs)):jo H (hide H D):=λb t f=>dq f<|cy f e (by intro z;cases z)
theorem vJ{a:Type}{os:La Nat}{o:Nat}{xs:La a}{x:a}(e:xs[o]?=Kg x):prm (os++[o]) xs=prm os xs++[x]:=by
 unfold prm;rw[List.filterMap_append];simp[e]
theorem ia.wk{N c:Ak->Prop}{b a:Ak}{H:Hp}{d:Ak}{k:Dk}(h:ia N b a H d k)(w:∀x,N x->c x):ia c b a H d k:=by
 let(g,lo,hi):=k;cases g with
 |none=>exact h
 |some j=>obtain⟨⟨i,l,n,e,f⟩,r⟩:=h;calc⟨⟨i,l,w _ n,e,f⟩,r⟩
def FcT(P:Nat->Ak->Prop)(H:Hp)(zs:La Str)(r:Ak)(k:Nat):Prop:=∃(a:Str)(d:Ak),zs[k]?=Kg a/\P k d/\H r=Kg (.tup [.str a,.ref d])
theorem FcT.tups{P:Nat->Ak->Prop}{H H':Hp}{zs:La Str}{r:Ak}{k:Nat}(h:FcT P H zs r k)(s:jo H H'):FcT P H' zs r k:=by
 let(a,d,e,c,b):=h;calc⟨a,d,e,c,s _ _ b⟩
theorem FcT.mono{P a:Nat->Ak->Prop}{H:Hp}{zs:La Str}{r:Ak}{k:Nat}(h:FcT P H zs r k)(w:∀k d,P k d->a k d):FcT a H zs r k:=by
 let(b,d,f,e,c):=h;calc⟨b,d,f,w _ _ e,c⟩
def DmP(c b:Ak)(H:Hp)(ds:La PD)(k:Nat)(d:Ak):Prop:=∃a:PD,ds[k]?=Kg a/\iE c b H d a.k
theorem oS{H:Hp}{D:Ak}{zs:La V}{o:HO}(e:H D=Kg (.lst zs)):jo H (upd H D o):=λb t f=>(aq<|cy f e (by intro z;cases z)).trans f
theorem oU{H:Hp}{D C a:Ak}{fs:La (Str×V)}{o:HO}(e:H D=Kg (.ins C a fs)):jo H (upd H D o):=λb t f=>(aq<|cy f e (by intro z;cases z)).trans f
def akc(b:Nat)(a:La Nat):La Nat:=(a.filter λc=>decide<|b<=c).map λc=>c-b
def akT(a:La PT)(b k:Nat):La Nat:=match a[k]? with
 |some t=>akc b t.cols
 |none=>[]
theorem iF{zs:La Str}{ds:La PD}{d:La PT}{b:Nat}(ok:eQ zs ds d b):∀k,∀j∈akT d b k,j<k:=λk j a=>by
 unfold akT at a;cases e:d[k]? with
 |none=>rw[e]at a;cases a
 |some t =>
  rw[e]at a;let(c,g,rfl):=eH.mp (show j∈akc b t.cols from a);let(h,f):=hQ.mp g;let f:b<=c:=Ks f;let i:=(ok.tabs k t e).ok.lt c h;lia
def i7(a:Nat->La Nat):Nat->Nat->La Nat->La Nat
 |0,_,told=>told
 |n+1,k,told=>if told.contains k then told else(a k).foldl (λt j=>i7 a n j t) told++[k]
theorem jJ{d c:Type}{f g:c->d->c}:∀{l:La d}{b:c},(∀b a,a∈l->f b a=g b a)->l.foldl f b=l.foldl g b
 | [],_,_=>rfl
 |x :: l,b,h=>by
  rw[jx,jx,h b x dO];calc jJ λb a e=>h b a<|dV _ e
theorem oV{a:Nat->La Nat}(h:∀k,∀j∈a k,j<k):∀(n m k:Nat)(told:La Nat),k<n->k<m->i7 a n k told=i7 a m k told
 |0,_,_,_,h1,_=>Kp h1<|v5 _
 |_+1,0,_,_,_,h2=>Kp h2<|v5 _
 |n+1,m+1,k,told,h1,h2=>by
  show(if told.contains k then told else(a k).foldl (λt j=>i7 a n j t) told++[k])=(if told.contains k then told else(a k).foldl (λt j=>i7 a m j t) told++[k]);rw[jJ (f:=λt j=>i7 a n j t) (g:=λt j=>i7 a m j t) λt j b=>oV h n m j t (by have:=h k j b;lia) (by have:=h k j b;lia)]
def odr(a:Nat->La Nat)(k:Nat)(told:La Nat):La Nat:=i7 a (k+1) k told
theorem mX{a:Nat->La Nat}(h:∀k,∀j∈a k,j<k)(k:Nat)(told:La Nat):odr a k told=if told.contains k then told else(a k).foldl (λt j=>odr a j t) told++[k]:=by
 show(if told.contains k then told else(a k).foldl (λt j=>i7 a k j t) told++[k])=_;rw[jJ (f:=λt j=>i7 a k j t) (g:=λt j=>odr a j t) λt j b=>oV h k (j+1) j t (h k j b) ∅]
theorem Be{a:Nat->La Nat}(h:∀k,∀j∈a k,j<k){k:Nat}{told:La Nat}(b:told.contains k=Ki):odr a k told=told:=by rw[mX h,Ko b]
theorem mY{f:La Nat->Nat->La Nat}(b:∀t j x,x∈f t j->x∈t\/x<=j):∀{l:La Nat}{t:La Nat}{x:Nat},x∈l.foldl f t->x∈t\/∃j∈l,x<=j
 | [],_,_,a=>.inl a
 |j :: l,t,x,a=>by
  rw[jx]at a;rcases mY b a with a|⟨i,hi,a⟩
  .rcases b t j x a with a|a
   .exact .inl a
   .exact .inr ⟨j,dO,a⟩
  .exact .inr ⟨i,dV _ hi,a⟩
theorem mZ{b:Nat->La Nat}(h:∀k,∀j∈b k,j<k):∀(n k:Nat)(told:La Nat)(x:Nat),x∈i7 b n k told->x∈told\/x<=k
 |0,_,_,_,a=>.inl a
 |n+1,k,told,x,a=>by
  let a:x∈(if told.contains k then told else(b k).foldl (λt j=>i7 b n j t) told++[k]):=a;split at a
  .exact .inl a
  .rcases gs.mp a with a|a
   .rcases mY (λt j x a=>mZ h n j t x a) a with a|⟨j,c,a⟩
    .exact .inl a
    .let:=h k j c;exact .inr ∅
   .exact .inr (by rw[gu.mp a];exact tj _)
theorem uy{f:La Nat->Nat->La Nat}(a:∀t j,t.Nodup->(f t j).Nodup):∀{l:La Nat}{t:La Nat},t.Nodup->(l.foldl f t).Nodup
 | [],_,h=>h
 |j :: l,t,h=>by rw[jx];calc uy a<|a t j h
theorem uz{f:Nat->La Nat}(h:∀k,∀j∈f k,j<k):∀(n k:Nat)(told:La Nat),told.Nodup->(i7 f n k told).Nodup
 |0,_,_,c=>c
 |n+1,k,told,c=>by
  show(if told.contains k then told else(f k).foldl (λt j=>i7 f n j t) told++[k]).Nodup;split
  .exact c
  .next hc =>
   refine oD.mpr ⟨uy (λt j c=>uz h n j t c) c,by simp,λa d b l e=>?_⟩;rw[gu.mp l]at e;subst e;rcases mY (λt j x g=>mZ h n j t x g) d with d|⟨j,i,d⟩
   .exact hc<|~~~d
   .let:=h a j i;lia
structure Tld(m:Nat)(told:La Nat):Prop where
 nd:told.Nodup
 lt:∀x∈told,x<m
theorem Tld.odr{b:Nat->La Nat}(h:∀k,∀j∈b k,j<k){m k:Nat}{told:La Nat}(a:Tld m told)(d:k<m):Tld m (My.odr b k told) :=
 ⟨uz h _ _ _ a.nd,λx c=>(mZ h _ _ _ x c).elim (a.lt x) λg=>∅⟩
theorem Tld.fold{a:Nat->La Nat}(h:∀k,∀j∈a k,j<k){m:Nat}:∀{l:La Nat}{told:La Nat},(∀j∈l,j<m)->Tld m told->Tld m (l.foldl (λt j=>My.odr a j t) told)
 | [],_,_,ht=>ht
 |j :: l,_,hl,ht=>by rw[jx];calc Tld.fold h (λi hi=>hl i<|dV _ hi)<|ht.odr h<|hl j dO
theorem Tld.len{m:Nat}{told:La Nat}(h:Tld m told):told.length<=m:=by
 let c:told.Nodup:=h.nd;let b:told ⊆ List.range m:=λx a=>hC.mpr<|h.lt x a
 let:=List.Nodup.length_le_of_subset c b
 rwa [hZ]at this
theorem Tld.nil{m:Nat}:Tld m []:=⟨rG,λx a=>by cases a⟩
theorem kC(z:Str)(a:La Str):inV (.str z) (a.map V.str)=a.contains z:=by
 unfold inV;induction a with
 |nil=>rfl
 |cons n a b =>
  rw[ik,nj,List.contains_cons,b]
  congr 1
  show(n == z)=(z == n);rw[Bool.eq_iff_iff,beq_iff_eq,beq_iff_eq];calc⟨Eq.symm,Eq.symm⟩
def TbA(j h g:Ak)(H:Hp)(zs:La Str)(ds:La PD)(i:La PT)(e:Nat)(a:Ak)(k:Nat):Prop:=∃(t:PT)(d:Str)(b:PD)(c:Ak)(f:La V),i[k]?=Kg t/\zs[e+k]?=Kg d/\ds[e+k]?=Kg b/\TF j H a d t.way c (prm t.cols zs) f t.rows/\ay f (prm t.cols<|ds.map PD.k) (iE h g H)/\iE h g H c b.k
theorem TbA.same{e f d:Ak}{H H':Hp}{zs:La Str}{ds:La PD}{b:La PT}{c:Nat}{a:Ak}{k:Nat}(h:TbA e f d H zs ds b c a k)(s:ao H H'):TbA e f d H' zs ds b c a k:=by
 let(t,j,g,i,u,r,q,o,n,m,l):=h;calc⟨t,j,g,i,u,r,q,o,n.same s,ay.mono m<|λ_ _ p=>p.same s,l.same s⟩
def FcA(e c:Ak)(H:Hp)(zs:La Str)(ds:La PD)(r:Ak)(k:Nat):Prop:=∃(b:Str)(a:PD)(d:Ak),zs[k]?=Kg b/\ds[k]?=Kg a/\H r=Kg (.tup [.str b,.ref d])/\iE e c H d a.k
theorem FcA.same{b a:Ak}{H H':Hp}{zs:La Str}{ds:La PD}{r:Ak}{k:Nat}(h:FcA b a H zs ds r k)(s:ao H H'):FcA b a H' zs ds r k:=by
 let(e,c,d,j,i,g,f):=h;calc⟨e,c,d,j,i,s _ _ g,f.same s⟩
def tnm(zs:La Str)(a k:Nat):Str:=zs.getD (a+k) Str.empty
theorem dN{zs:La Str}{a k:Nat}{nm:Str}(e:zs[a+k]?=Kg nm):tnm zs a k=nm:=by unfold tnm;rw[hJ,e];rfl
structure BkI(cT cN cW:Ak)(H:Hp)(zs:La Str)(ds:La PD)(ts:La PT)(fN:Nat)(fv mv:La V)(L:La Nat):Prop where
 ok:eQ zs ds ts fN
 facts:ay fv (List.range fN) (FcA cN cW H zs ds)
 tabs:ay mv L (TbA cT cN cW H zs ds ts fN)
 lt:∀k∈L,k<ts.length
 nd:L.Nodup
 len:L.length=ts.length
 all:∀k,k<ts.length->k∈L
theorem BkI.same{f g e:Ak}{H H':Hp}{zs:La Str}{ds:La PD}{a:La PT}{d:Nat}{c b:La V}{L:La Nat}(h:BkI f g e H zs ds a d c b L)(s:ao H H'):BkI f g e H' zs ds a d c b L :=
 ⟨h.ok,ay.mono h.facts<|λ_ _ p=>p.same s,ay.mono h.tabs<|λ_ _ p=>p.same s,h.lt,h.nd,h.len,h.all⟩
def bnm(zs:La Str)(a:Nat)(L:La Nat):La Str:=zs.take a++L.map (tnm zs a)
section
variable{cT cN cW:Ak}{H:Hp}{zs:La Str}{ds:La PD}{ts:La PT}{fN:Nat}{fv mv:La V}{L:La Nat}
theorem BkI.few(h:BkI cT cN cW H zs ds ts fN fv mv L):L.length<=7/\fN<=7/\fN<=zs.length:=by
 let d:=h.ok.n7;let c:=h.ok.tab;let b:=h.ok.len;let a:=h.len;lia
theorem BkI.tn(h:BkI cT cN cW H zs ds ts fN fv mv L){k:Nat}(a:k∈L):zs[fN+k]?=Kg (tnm zs fN k):=by
 let d:=h.lt k a;let c:=h.ok.tab;let b:=h.ok.len;let e:=GC (l:=zs) (i:=fN+k) ∅;rw[e,dN e]
theorem BkI.bnd_(h:BkI cT cN cW H zs ds ts fN fv mv L):(bnm zs fN L).Nodup:=by
 let f:=h.ok.nd;unfold bnm;refine oD.mpr ⟨f.sublist<|ly _ _,?_,λa i b g e=>?_⟩
 .rw[nk,nr];calc List.Pairwise.imp_of_mem (R:=λa b=>a≠b) (λ{a b} i g n e=>?_) h.nd;let l:=h.tn i;let d:=h.tn g;rw[e]at l;let:=cH f l d;lia
 .subst e;let(k,m,e):=eH.mp g;let(j,c):=gT i;rw[jR]at c;split at c
  .let d:=h.tn m;rw[e]at d;let:=cH f c d;lia
  .cases c
theorem BkI.has(h:BkI cT cN cW H zs ds ts fN fv mv L){z:Str}(b:z∈zs):z∈bnm zs fN L:=by
 let(j,a):=gT b;unfold bnm;by_cases c:j<fN
 .exact jd _<|GG (by rw[jR,Ko c];exact a)
 .refine hH _<|eH.mpr ⟨j-fN,h.all _ ?_,?_⟩
  .let:=(GD.mp a).1;let e:=h.ok.tab;let d:=h.ok.len;lia
  .exact dN (by rw[show fN+(j-fN)=j by lia];exact a)
end
def FcN(N:Ak->Prop)(e c:Ak)(H:Hp)(zs:La Str)(ds:La PD)(r:Ak)(k:Nat):Prop:=∃(b:Str)(a:PD)(d:Ak),zs[k]?=Kg b/\ds[k]?=Kg a/\H r=Kg (.tup [.str b,.ref d])/\ia N e c H d a.k
theorem FcN.same{N:Ak->Prop}{b a:Ak}{H H':Hp}{zs:La Str}{ds:La PD}{r:Ak}{k:Nat}(h:FcN N b a H zs ds r k)(s:ao H H'):FcN N b a H' zs ds r k:=by
 let(e,c,d,j,i,g,f):=h;calc⟨e,c,d,j,i,s _ _ g,f.same s⟩
theorem FcN.upd{N:Ak->Prop}{c b:Ak}{H:Hp}{zs:La Str}{ds:La PD}{r D:Ak}{k:Nat}{o:HO}{ys:La V}(h:FcN N c b H zs ds r k)(n:¬ N D)(e:H D=Kg (.lst ys)):FcN N c b (L2.upd H D o) zs ds r k:=by
 let(g,f,d,l,j,a,i):=h;calc⟨g,f,d,l,j,(aq<|cy a e (by intro z;cases z)).trans a,i.upd n e⟩
theorem FcN.fc{N:Ak->Prop}{b a:Ak}{H:Hp}{zs:La Str}{ds:La PD}{r:Ak}{k:Nat}(h:FcN N b a H zs ds r k):FcA b a H zs ds r k:=by
 let(e,c,d,j,i,g,f):=h;calc⟨e,c,d,j,i,g,f.dom⟩
theorem pP{n j k:Nat}(e:(List.range n)[j]?=Kg k):k=j/\j<n:=by
 let a:=(GD.mp e).1;rw[hZ]at a;rw[qB a]at e;cases e;calc⟨U,a⟩
section
variable{cT cN cW:Ak}{H:Hp}{zs:La Str}{ds:La PD}{ts:La PT}{fN:Nat}{fv mv:La V}{L:La Nat}
def D8(cN cW:Ak)(H:Hp)(zs:La Str)(ds:La PD)(kvs:La (Str×V)):Prop:=∀(j:Nat)(z:Str)(p:PD),zs[j]?=Kg z->ds[j]?=Kg p->∃d,kvs.lookup z=Kg (.ref d)/\iE cN cW H d p.k
theorem pQ{kvs:La (Str×V)}(b:(kvs.map (·.1)).Nodup):∀{j:Nat}{k:Str}{v:V},kvs[j]?=Kg (k,v)->kvs.lookup k=Kg v:=by
 induction kvs with
 |nil=>intro j k v e;simp at e
 |cons p kvs d =>
  intro j k v e;let(c,g):=p;rw[ik]at b;let a:=ja.mp b;cases j with
  |zero =>
   cases e;rw[lL,beq_self_eq_true]
  |succ j =>
   let e:kvs[j]?=Kg (k,v):= ~~~e
   let f:k≠c:=λz=>a.1<|eH.mpr ⟨(k,v),GG e,z⟩
   rw[lL,beq_eq_false_iff_ne.mpr f];calc d a.2 e
end
def wts(b:La PT)(a:Nat)(L:La Nat)(k:Nat):Bool:=match b[k]? with
 |some t=>t.cols.any λc=>decide (a<=c) && L.contains (c-a)
 |none=>Kj
theorem xJ:∀{L:La Nat},L≠[]->∃k∈L,∀j∈L,k<=j
 | [],h=>Kp U h
 | [x],_=>⟨x,by simp,λj a=>by rw[show j=x by simpa using a];exact tj _⟩
 |x :: y :: r,_=>by
  let(k,c,b):=xJ (L:=y :: r) (by simp);by_cases h:x<=k
  .refine⟨x,by simp,λj a=>?_⟩;rcases dt.mp a with rfl|a
   .exact tj _
   .exact tT h<|b j a
  .refine⟨k,dV _ c,λj a=>?_⟩;rcases dt.mp a with rfl|a
   .lia
   .exact b j a
theorem xK{zs:La Str}{ds:La PD}{b:La PT}{a:Nat}(ok:eQ zs ds b a){L:La Nat}(l:L≠[]):(L.filter<|wts b a L).length<L.length:=by
 let(k,i,g):=xJ l;let f:wts b a L k=false:=by
  unfold wts;cases e:b[k]? with
  |none=>rfl
  |some t =>
   show(t.cols.any λc=>decide (a<=c) && L.contains (c-a))=Kj;rw[ov];intro c j d;rw[yq,Ku]at d;let m:=(ok.tabs k t e).ok.lt c j;let n:=g (c-a)<|~~~d.2;lia
 let m:=iK (wts b a L) L;by_cases h:(L.filter<|wts b a L).length=L.length
 .let:=List.length_filter_eq_length_iff.mp h k i;rw[f]at this;cases this
 .lia
theorem vK{zs:La Str}{ds:La PD}{m:La PT}{a:Nat}(ok:eQ zs ds m a){L:La Nat}(E:∀k∈L,k<m.length){k:Nat}{t:PT}(e:m[k]?=Kg t):(!((prm t.cols zs).filter λz=>(L.map<|tnm zs a).contains z).isEmpty)=wts m a L k:=by
 let v:=ok.lt e;let w:=ok.len;let F:=ok.tab;let r:∀j∈t.cols,j<zs.length:=λj p=>by rw[w];exact v j p
 let q:=ck (os:=t.cols) (xs:=zs) r;let tn:∀k∈L,zs[a+k]?=Kg (tnm zs a k):=λk C=>by
  let:=E k C;let e:=GC (l:=zs) (i:=a+k) ∅;rw[e,dN e]
 rw[Bool.eq_iff_iff];unfold wts;rw[e];show _↔(t.cols.any λc=>decide (a<=c) && L.contains (c-a))=Ki;rw[jT];constructor
 .intro h;let u:((prm t.cols zs).filter λz=>(L.map<|tnm zs a).contains z)≠[]:=λz=>by rw[z]at h;cases h
  let(z,n):=List.exists_mem_of_ne_nil _ u;let(s,b):=hQ.mp n;let b:z∈L.map (tnm zs a):= ~~~b
  let(o,f,rfl):=eH.mp b;let(j,d):=gT s;let p:j<t.cols.length:=by rw[←q.1];exact(GD.mp d).1
  let A:=GC p;rw[q.2 j _ A]at d;let:=cH ok.nd d<|tn o f;calc⟨_,GG A,?_⟩;rw[this,yq,Ku];calc⟨∅,?_⟩;rw[show a+o-a=o by lia];simpa using f
 .rintro⟨c,D,y⟩;rw[yq,Ku]at y;let x:c-a∈L:= ~~~y.2
  let n:=tn _ x;rw[show a+(c-a)=c by lia]at n;let(j,d):=gT D;let B:=q.2 j c d;rw[n]at B;let g:tnm zs a (c-a)∈(prm t.cols zs).filter λz=>(L.map<|tnm zs a).contains z:=hQ.mpr ⟨GG B,by simpa using⟨_,x,U⟩⟩
  cases h:(prm t.cols zs).filter λz=>(L.map<|tnm zs a).contains z with
  |nil=>rw[h]at g;cases g
  |cons _ _=>rfl
def SmB(z:Str):Prop:=z.length<=1000/\∀n∈z.cps.toList,n<16^8
def BkA(i h j:Ak)(H:Hp)(b:Ak)(zs:La Str)(ds:La PD)(f:Nat)(e:La V):Prop:=∃(g:Ak)(fs:La (Str×V))(a d:Ak)(c:La V),H b=Kg (.ins j g fs)/\fs.lookup s!"tables"=Kg (.ref a)/\H a=Kg (.lst e)/\fs.lookup s!"facts"=Kg (.ref d)/\H d=Kg (.lst c)/\ay c (List.range f) (FcT (DmP i h H ds) H zs)
theorem BkA.same{g f i:Ak}{H H':Hp}{b:Ak}{zs:La Str}{ds:La PD}{e:Nat}{d:La V}(h:BkA g f i H b zs ds e d)(s:ao H H'):BkA g f i H' b zs ds e d:=by
 let(t,fs,j,r,q,c,a,o,n,m,l):=h;calc⟨t,fs,j,r,q,s _ _ c,a,s _ _ o,n,s _ _ m,ay.mono l λ_ _ p=>(p.tups s.tups).mono λ_ _ ⟨k,c,a⟩=>⟨k,c,a.same s⟩⟩
structure BkT(cT cN cW cB:Ak)(H:Hp)(b:Ak)(zs:La Str)(ds:La PD)(ts:La PT)(fN:Nat)(mv:La V)(L:La Nat):Prop where
 bk:BkA cN cW cB H b zs ds fN mv
 ok:eQ zs ds ts fN
 tabs:ay mv L (TbA cT cN cW H zs ds ts fN)
 lt:∀k∈L,k<ts.length
 few:L.length<=7
theorem BkT.same{f g e i:Ak}{H H':Hp}{b:Ak}{zs:La Str}{ds:La PD}{a:La PT}{d:Nat}{c:La V}{L:La Nat}(h:BkT f g e i H b zs ds a d c L)(s:ao H H'):BkT f g e i H' b zs ds a d c L :=
 ⟨h.bk.same s,h.ok,ay.mono h.tabs<|λ_ _ p=>p.same s,h.lt,h.few⟩
theorem i0{H H':Hp}{x a:Ak}{o:HO}(k:∀b o,b≠x->H b=Kg o->H' b=Kg o)(c:H' x=Kg o)(h:H' a=Kh):H a=none:=by
 cases e:H a with
 |none=>rfl
 |some u =>
  let n:a≠x:=λz=>by rw[z,c]at h;cases h
  rw[k a u n e]at h;cases h
theorem RL.hideN{N:Ak->Prop}{H:Hp}{x C i:Ak}{fs:La (Str×V)}(b:H x=Kg (.ins C i fs)){xs:La V}{a:La Rw}(h:RL N H xs a):RL N (My.hide H x) xs a :=
 ay.mono h λr w ⟨k,j,e,n,f,c⟩=>⟨k,j,dq e<|cy e b (by intro z;cases z),n,dq f<|cy f b (by intro z;cases z),ay.mono c λl o ⟨m,d,g,p⟩=>⟨m,d,dq g<|cy g b (by intro z;cases z),PL.hide b p⟩⟩
def TbN(N:Ak->Prop)(p m l:Ak)(H:Hp)(zs:La Str)(ds:La PD)(n:La PT)(i:Nat)(a:Ak)(k:Nat):Prop:=∃(t:PT)(h:Str)(f:PD)(g:Ak)(j:La V)(c o d e:Ak)(fs:La (Str×V))(b:La V),n[k]?=Kg t/\zs[i+k]?=Kg h/\ds[i+k]?=Kg f/\H a=Kg (.ins p o fs)/\fs.lookup s!"rows"=Kg (.ref c)/\fs.lookup s!"name"=Kg (.str h)/\fs.lookup s!"way"=Kg (.str t.way)/\fs.lookup s!"outcome"=Kg (.ref g)/\fs.lookup s!"names"=Kg (.ref d)/\fs.lookup s!"domains"=Kg (.ref e)/\N d/\N e/\N c/\H d=Kg (.lst<|(prm t.cols zs).map V.str)/\H e=Kg (.lst j)/\H c=Kg (.lst b)/\RL N H b t.rows/\b.length<=200/\ay j (prm t.cols<|ds.map PD.k) (ia N m l H)/\ia N m l H g f.k
section
variable{N N':Ak->Prop}{cT cN cW:Ak}{H H':Hp}{zs:La Str}{ds:La PD}{ts:La PT}{fN:Nat}{a:Ak}{k:Nat}
theorem TbN.tb(h:TbN N cT cN cW H zs ds ts fN a k):TbA cT cN cW H zs ds ts fN a k:=by
 let(t,q,n,o,D,m,C,r,E,fs,l,B,A,z,y,x,w,v,u,s,j,_,_,_,i,g,f,e,d,c,b):=h;calc⟨t,q,n,o,D,B,A,z,⟨m,C,r,E,fs,l,y,x,w,v,u,s,j,i,g,f,e.any,d⟩,ay.mono c<|λ_ _ p=>p.dom,b.dom⟩
theorem TbN.same(h:TbN N cT cN cW H zs ds ts fN a k)(s:ao H H'):TbN N cT cN cW H' zs ds ts fN a k:=by
 let(t,q,n,o,I,m,G,r,J,fs,l,F,E,D,C,B,A,z,y,x,j,w,v,u,i,g,f,e,d,c,b):=h;calc⟨t,q,n,o,I,m,G,r,J,fs,l,F,E,D,s _ _ C,B,A,z,y,x,j,w,v,u,s _ _ i,s _ _ g,s _ _ f,e.same s,d,ay.mono c<|λ_ _ p=>p.same s,b.same s⟩
theorem TbN.wk(h:TbN N cT cN cW H zs ds ts fN a k)(w:∀x,N x->N' x):TbN N' cT cN cW H zs ds ts fN a k:=by
 let(t,q,n,o,J,m,I,r,K,fs,l,G,F,E,D,C,B,A,z,y,j,v,u,s,i,g,f,e,d,c,b):=h;calc⟨t,q,n,o,J,m,I,r,K,fs,l,G,F,E,D,C,B,A,z,y,j,w _ v,w _ u,w _ s,i,g,f,ay.mono e<|λ_ _ p=>p.wk w,d,ay.mono c<|λ_ _ p=>p.wk w,b.wk w⟩
theorem TbN.upd{D:Ak}{w:La V}{o:HO}(h:TbN N cT cN cW H zs ds ts fN a k)(n:¬ N D)(e:H D=Kg (.lst w)):TbN N cT cN cW (L2.upd H D o) zs ds ts fN a k:=by
 let(t,C,A,B,R,y,Q,E,S,fs,x,P,O,M,v,L,K,J,I,G,q,u,s,r,m,l,j,i,g,f,d):=h;let c:∀{b:Ak},N b->b≠D:=λF z=>n<|z ▸ F
 calc⟨t,C,A,B,R,y,Q,E,S,fs,x,P,O,M,(aq<|cy v e (by intro z;cases z)).trans v,L,K,J,I,G,q,u,s,r,(aq<|c u).trans m,(aq<|c s).trans l,(aq<|c r).trans j,i.updN n e,g,ay.mono f<|λ_ _ p=>p.upd n e,d.upd n e⟩
end
theorem qZ{K:W.Frag}{H:Hp}{Q:VK}{a b:Ak}{xs:La V}(f:SqL K H a xs)(e:SqL K H b xs)(fl:∀x∈xs,bM x=Ki)(q:Q (.bl Kj) H):wA K Ki (.ref a) (.ref b) H Q:=by
 refine⟨a,b,xs,xs,U,U,f,e,.inr ⟨U,λ_=>Ki,λj x y d c=>?_,?_⟩⟩
 .rw[d]at c;cases c;let z:=fl x<|GG d;let:=EqI.flat (K:=K) (H:=H) z z;rw[kn z]at this;exact this
 .let:(List.range xs.length).all (λ_=>Ki)=true:=by simp
  rw[this];calc q
theorem Bf{c:Int}{n:Nat}:∀z∈lws c n,SmB z:=λz b=>by
 let(i,_,rfl):=eH.mp b;calc⟨tT (uw<|xF c _) ⋯,λx a=>?_⟩;let a:x∈lwc c (0+(i:Int)):=by simpa[lw]using a
 let e:=w5 (c / 11+3*(0+(i:Int))) (show(26:Int)≠0 by decide);let d:=xc (c / 11+3*(0+(i:Int))) (show(0:Int)<26 by decide);show x<4294967296;rcases lY a with h|h <;> lia
theorem BkT.mem{p q o r:Ak}{H:Hp}{b:Ak}{zs:La Str}{ds:La PD}{d:La PT}{a:Nat}{g:La V}{L:La Nat}(h:BkT p q o r H b zs ds d a g L)(all:∀k,k<d.length->k∈L){j:Nat}{z:Str}(e:zs[j]?=Kg z):(L.map<|tnm zs a).contains z=Kk (a<=j):=by
 let t:=h.ok.len;let s:=h.ok.tab;let v:=(GD.mp e).1;rw[Bool.eq_iff_iff,Ku];constructor
 .intro c;let c:z∈L.map (tnm zs a):= ~~~c
  let(k,n,rfl):=eH.mp c;let u:=h.lt k n;let f:=GC (l:=zs) (i:=a+k) ∅;rw[dN f]at e;let:=cH h.ok.nd e f;lia
 .intro w;let m:=all (j-a) ∅;let:tnm zs a (j-a)=z:=dN (by rw[show a+(j-a)=j by lia];exact e);let:z∈L.map (tnm zs a):=eH.mpr ⟨_,m,this⟩;simpa using this
section
variable{cT cN cW cB:Ak}{H:Hp}{b:Ak}{zs:La Str}{ds:La PD}{ts:La PT}{fN:Nat}{mv:La V}{L:La Nat}
theorem BkT.nmz(h:BkT cT cN cW cB H b zs ds ts fN mv L){k:Nat}(a:k<ts.length):zs[fN+k]?=Kg (tnm zs fN k):=by
 let d:=h.ok.tab;let c:=h.ok.len;let e:=GC (l:=zs) (i:=fN+k) ∅;rw[e,dN e]
theorem BkT.one(h:BkT cT cN cW cB H b zs ds ts fN mv L){j k:Nat}(d:j<ts.length)(c:k<ts.length)(e:tnm zs fN j=tnm zs fN k):j=k:=by
 let a:=h.nmz d;let f:=h.nmz c;rw[e]at a;let:=cH h.ok.nd a f;lia
theorem BkT.ins(h:BkT cT cN cW cB H b zs ds ts fN mv L){told:La Nat}(c:Tld ts.length told){j:Nat}(d:j<ts.length):(told.map<|tnm zs fN).contains (tnm zs fN j)=told.contains j:=by
 rw[Bool.eq_iff_iff,List.contains_iff_mem,List.contains_iff_mem];constructor
 .intro a;let(i,hi,e):=eH.mp a;rw[←h.one (c.lt i hi) d e];exact hi
 .intro a;calc eH.mpr ⟨j,a,U⟩
theorem BkT.aks(h:BkT cT cN cW cB H b zs ds ts fN mv L)(all:∀k,k<ts.length->k∈L){k:Nat}{t:PT}(n:ts[k]?=Kg t):((prm t.cols zs).filter λz=>(L.map<|tnm zs fN).contains z)=(akc fN t.cols).map (tnm zs fN):=by
 let a:=h.ok.lt n;rw[←h.ok.len]at a
 revert a
 generalize t.cols=i;intro a;induction i with
 |nil=>rfl
 |cons c i d =>
  let g:=a c dO;let e:=GC g;rw[mU g,lR];let l:=h.mem all e;let d:=d λj m=>a j<|dV _ m
  unfold akc at d⊢;rw[lR,l];by_cases f:fN<=c
  .rw[Ko (Kq f),Ko<|Kq f,ik,ik,d]
   congr 1
   exact(dN (by rw[show fN+(c-fN)=c by lia];exact e)).symm
  .rw[Kn (~~~f),Kn<|~~~f,d]
end
inductive Rch(ak:Nat->La Nat):Nat->Nat->Prop
 |self (k:Nat):Rch ak k k
 |step {k j x:Nat}:j∈ak k->Rch ak j x->Rch ak k x
theorem oW{R:Nat->Nat->Prop}{f:La Nat->Nat->La Nat}(b:∀t j x,x∈f t j->x∈t\/R j x):∀{l:La Nat}{t:La Nat}{x:Nat},x∈l.foldl f t->x∈t\/∃j∈l,R j x
 | [],_,_,a=>.inl a
 |j :: l,t,x,a=>by
  rw[jx]at a;rcases oW b a with a|⟨i,hi,a⟩
  .rcases b t j x a with a|a
   .exact .inl a
   .exact .inr ⟨j,dO,a⟩
  .exact .inr ⟨i,dV _ hi,a⟩
theorem q0{b:Nat->La Nat}:∀(n k:Nat)(told:La Nat)(x:Nat),x∈i7 b n k told->x∈told\/Rch b k x
 |0,_,_,_,a=>.inl a
 |n+1,k,told,x,a=>by
  let a:x∈(if told.contains k then told else(b k).foldl (λt j=>i7 b n j t) told++[k]):=a;split at a
  .exact .inl a
  .rcases gs.mp a with a|a
   .rcases oW (λt j x a=>q0 n j t x a) a with a|⟨j,c,a⟩
    .exact .inl a
    .exact .inr<|.step c a
   .rw[gu.mp a];calc .inr<|.self _
def vL(a:Nat->La Nat)(told:La Nat):Prop:=∀y∈told,∀x,Rch a y x->x∈told
theorem q8{a:Nat->La Nat}{f:La Nat->Nat->La Nat}:∀{l:La Nat}{told:La Nat},(∀j∈l,∀t,vL a t->vL a (f t j)/\(∀x∈t,x∈f t j)/\∀x,Rch a j x->x∈f t j)->vL a told->vL a (l.foldl f told)/\(∀x∈told,x∈l.foldl f told)/\∀j∈l,∀x,Rch a j x->x∈l.foldl f told
 | [],_,_,hc=>⟨hc,λ_ h=>h,λ_ h=>by cases h⟩
 |i :: l,told,h,hc=>by
  let(n,m,k):=h i dO told hc;let(g,d,e):=q8 (l:=l) (λj b=>h j<|dV _ b) n;rw[jx];calc⟨g,λx c=>d x<|m x c,λj b x c=>?_⟩;rcases dt.mp b with rfl|b
  .exact d x<|k x c
  .exact e j b x c
theorem uB{a:Nat->La Nat}(h:∀k,∀j∈a k,j<k):∀(n k:Nat),k<n->∀told,vL a told->vL a (odr a k told)/\(∀x∈told,x∈odr a k told)/\∀x,Rch a k x->x∈odr a k told
 |0,_,hk,_,_=>Kp hk<|v5 _
 |n+1,k,hk,told,hc=>by
  rw[mX h];split
  .next e =>
   let e:k∈told:= ~~~e
   exact⟨hc,λ_ h=>h,λx b=>hc k e x b⟩
  .let(p,o,m):=q8 (l:=a k) (f:=λt j=>odr a j t) (told:=told) (λj g t i=>uB h n j (by have:=h k j g;lia) t i) hc;let d:∀x,Rch a k x->x∈(a k).foldl (λt j=>odr a j t) told++[k]:=λx b=>by
    cases b with
    |self=>exact hH _ (gu.mpr U)
    |step g b=>exact jd _ (m _ g x b)
   calc⟨λy c x b=>?_,λx b=>jd _<|o x b,d⟩;rcases gs.mp c with c|c
   .exact jd _<|p y c x b
   .rw[gu.mp c]at b;calc d x b
theorem uC{b:Nat->La Nat}(h:∀k,∀j∈b k,j<k)(k x:Nat):x∈odr b k []↔Rch b k x :=
 ⟨λa=>(q0 _ _ _ _ a).elim (λz=>by cases z) id,λa=>(uB h (k+1) k ∅ [] (λy c=>by cases c)).2.2 x a⟩
def nmT(a:La PT)(zs:La Str)(j:Nat):La Str:=match a[j]? with
 |some t=>prm t.cols zs
 |none=>[]
def cI(a:La PT)(zs:La Str)(b k:Nat)(z:Str):Bool:=(odr (akT a b) k []).any λj=>(nmT a zs j).contains z
theorem pR{b c:Type}{f:b->La c}{l:La b}{a:b}:(l++[a]).flatMap f=l.flatMap f++f a:=by
 rw[List.flatMap_append];simp
theorem vM{a:La PT}{zs:La Str}{d k:Nat}{z:Str}:((odr (akT a d) k []).flatMap<|nmT a zs).contains z=cI a zs d k z:=by
 unfold cI;rw[Bool.eq_iff_iff,List.contains_iff_mem,List.mem_flatMap,jT];constructor
 .rintro⟨j,c,b⟩;exact⟨j,c,~~~b⟩
 .rintro⟨j,c,b⟩;calc⟨j,c,~~~b⟩
theorem m4{a:La PT}{zs:La Str}(h:∀j,(nmT a zs j).length<=4):∀l:La Nat,(l.flatMap<|nmT a zs).length<=4*l.length
 | []=>tS _
 |j :: l=>by
  rw[List.flatMap_cons,gp,hU];let c:=h j;let b:=m4 h l;lia
theorem BkT.nm4{k l i m:Ak}{H:Hp}{b:Ak}{zs:La Str}{ds:La PD}{a:La PT}{g:Nat}{d:La V}{L:La Nat}(h:BkT k l i m H b zs ds a g d L):∀j,(nmT a zs j).length<=4:=λj=>by
 unfold nmT;cases e:a[j]? with
 |none=>exact tS _
 |some t =>
  let o:t.cols.length<=3:=(h.ok.tabs j t e).ok.few;let n:=(ck (os:=t.cols) (xs:=zs) λc f=>by rw[h.ok.len];exact h.ok.lt e c f).1;show(prm t.cols zs).length<=4;lia
theorem xM{c:Int}{n:Nat}:∀z∈lws c n,∀y∈lws c n,z.length=y.length:=λz a y b=>by
 let(i,_,rfl):=eH.mp a;let(j,_,rfl):=eH.mp b;show(lwc c _).toArray.size=(lwc c _).toArray.size;unfold lwc;simp
def SPJ(p:PD)(one two:Int)(H H':Hp)(pl:Ak):Prop:=ao H H'/\∃(b:La V)(a:Prs),H' pl=Kg (.lst b)/\PL H' b a/\(∀x∈a,p.lo<=x.1/\x.2<=p.hi)/\a.length<=2/\∀x∈a,(x.1=p.lo\/x.1=one\/x.1=two\/x.1=two+1)/\(x.2=p.hi\/x.2=one\/x.2=two\/x.2=one-1)
theorem SPJ.one{p:PD}{one two:Int}{H e c:Hp}{l t:Ak}{a b:Int}(s:ao H e)(h:ao e c/\c l=Kg (.lst [.ref t])/\PL c [.ref t] [(a,b)])(i:p.lo<=a)(g:b<=p.hi)(f:(a=p.lo\/a=one\/a=two\/a=two+1)/\(b=p.hi\/b=one\/b=two\/b=one-1)):SPJ p one two H c l :=
 ⟨s.trans h.1,_,_,h.2.1,h.2.2,(λx d=>by rw[show x=(a,b) by simpa using d];exact⟨i,g⟩),by simp,(λx d=>by rw[show x=(a,b) by simpa using d];exact f)⟩
theorem SPJ.two{p:PD}{one two:Int}{H g f:Hp}{l t u:Ak}{a b c d:Int}(s:ao H g)(h:ao g f/\f l=Kg (.lst [.ref t,.ref u])/\PL f [.ref t,.ref u] [(a,b),(c,d)])(o:p.lo<=a)(n:b<=p.hi)(m:p.lo<=c)(k:d<=p.hi)(j:(a=p.lo\/a=one\/a=two\/a=two+1)/\(b=p.hi\/b=one\/b=two\/b=one-1))(i:(c=p.lo\/c=one\/c=two\/c=two+1)/\(d=p.hi\/d=one\/d=two\/d=one-1)):SPJ p one two H f l :=
 ⟨s.trans h.1,_,_,h.2.1,h.2.2,(λx e=>by
  rcases dt.mp e with rfl|e
  .exact⟨o,n⟩
  .rw[show x=(c,d) by simpa using e];exact⟨m,k⟩),by simp,(λx e=>by
  rcases dt.mp e with rfl|e
  .exact j
  .rw[show x=(c,d) by simpa using e];exact i)⟩
def PoB(N:Ak->Prop)(H:Hp)(a:Ak)(p:PD):Prop:=N a/\H a=Kg (.lst<|p.pool.map V.int)/\1<=p.pool.length/\p.pool.length<=3/\∀x∈p.pool,p.lo<=x/\x<=p.hi
theorem PoB.same{N:Ak->Prop}{H H':Hp}{a:Ak}{p:PD}(h:PoB N H a p)(s:ao H H'):PoB N H' a p:=by let(n,e,r):=h;calc⟨n,s _ _ e,r⟩
theorem PoB.pick{N:Ak->Prop}{H:Hp}{a:Ak}{p:PD}(h:PoB N H a p)(m:Int):∃x,atI (p.pool.map V.int) (m%((p.pool.length:Nat):Int))=Kg (.int x)/\x∈p.pool/\p.lo<=x/\x<=p.hi:=by
 let(_,e,o,n,f):=h;let c:(0:Int)<((p.pool.length:Nat):Int):=∅
 let d:=w5 m<|Int.ne_of_gt c;let j:=xc m c;let(k,g):∃k:Nat,m%((p.pool.length:Nat):Int)=(k:Int):=⟨_,(xt d).symm⟩;let b:=GC (l:=p.pool) (i:=k) ∅;calc⟨p.pool[k],?_,GG b,f _<|GG b⟩;rw[g];calc aK (by rw[dy,b];rfl)
theorem tI{a:Nat}{x y z:Int}(c:1<=a)(b:a<=3)(f:1<=x/\x<=8)(e:1<=y/\y<=x)(d:1<=z/\z<=x):∃v:Int,atI [V.int x,.int y,.int z] ((a:Int)-1)=Kg (.int v)/\1<=v/\v<=x:=by
 match a,c,b with
 |1,_,_=>exact⟨x,U,∅,∅⟩
 |2,_,_=>exact⟨y,U,∅,∅⟩
 |3,_,_=>calc⟨z,U,∅,∅⟩
def PlB(N:Ak->Prop)(H:Hp)(l:Ak)(P:La Int):Prop:=N l/\H l=Kg (.lst<|P.map V.int)
theorem m5{ds:La PD}{a:La (La Int)}{j:Nat}{p:PD}(e:(List.zipWith (λ(p:PD) P=>{ p with pool:=P }) ds a)[j]?=Kg p):∃b P,ds[j]?=Kg b/\a[j]?=Kg P/\p={ b with pool:=P }:=by
 rw[rJ]at e;cases e1:ds[j]? with
 |none=>rw[e1]at e;cases e
 |some b =>
  cases e2:a[j]? with
  |none=>rw[e1,e2]at e;cases e
  |some P =>
   rw[e1,e2]at e;cases e;calc⟨b,P,U,U,U⟩
def FN(b:La PT)(a k f:Nat):Prop:=(k<a/\f=k)\/(a<=k/\f<a/\∃(x:Nat)(t:PT),Rch (akT b a) (k-a) x/\b[x]?=Kg t/\f∈t.cols)
theorem xN{b:La PT}{a k:Nat}{t:PT}(e:b[k]?=Kg t){j:Nat}:j∈akT b a k↔a+j∈t.cols:=by
 unfold akT;rw[e];show j∈akc a t.cols↔_;unfold akc;rw[eH];constructor
 .rintro⟨c,f,rfl⟩;let(g,d):=hQ.mp f;let d:a<=c:=Ks d;rw[show a+(c-a)=c by lia];exact g
 .intro h;calc⟨a+j,hQ.mpr ⟨h,by simp⟩,∅⟩
theorem xO{l:La PT}{a k f:Nat}{t:PT}(n:a<=k)(e:l[k-a]?=Kg t):FN l a k f↔∃j∈t.cols,FN l a j f:=by
 constructor
 .rintro(⟨h,_⟩|⟨_,g,x,m,b,c,i⟩)
  .lia
  .cases b with
   |self =>
    rw[e]at c;cases c;exact⟨f,i,.inl ⟨g,U⟩⟩
   |step d b =>
    rename_i j
    exact⟨a+j,(xN e).mp d,.inr ⟨∅,g,x,m,by rw[show a+j-a=j by lia];exact b,c,i⟩⟩
 .rintro⟨j,d,⟨o,rfl⟩|⟨o,g,x,m,b,c,i⟩⟩
  .exact .inr ⟨n,o,_,t,.self _,e,d⟩
  .exact .inr ⟨n,g,x,m,.step ((xN e).mpr (by rw[show a+(j-a)=j by lia];exact d)) b,c,i⟩
theorem FN.lt{b:La PT}{a k f:Nat}(h:FN b a k f):f<a:=by
 rcases h with⟨h,rfl⟩|⟨_,h,_⟩ <;> calc h
theorem Bg(a:La Nat):vN a=(a.map λb:Nat=>(b:Int)).map V.int:=by unfold vN;rw[pa];rfl
theorem yX{cs:La Int}(h:∀c∈cs,0<=c)(g:cs.Pairwise (· < ·)):∃e:La Nat,cs.map V.int=vN e/\e.Pairwise (· < ·)/\∀f:Nat,f∈e↔(f:Int)∈cs:=by
 refine⟨cs.map Int.toNat,?_,?_,λf=>?_⟩
 .unfold vN;rw[pa];exact List.map_congr_left λc d=>by
   show V.int c=V.int ((c.toNat:Nat):Int);rw[xt (h c d)]
 .rw[nr];calc List.Pairwise.imp_of_mem (R:=λa b:Int=>a<b) (λ{a b} j l k=>?_) g;let:=h a j;lia
 .rw[eH];constructor
  .rintro⟨c,d,rfl⟩;rw[xt (h c d)];exact d
  .intro i;calc⟨(f:Int),i,∅⟩
def xP{a:La Nat}{m:Nat}(b:a.Pairwise (· < ·))(h:∀f∈a,f<m):a.length<=m:=Tld.len ⟨b.imp λh=>tN h,h⟩
theorem q9:∀{A B:La Nat},A.Pairwise (· < ·)->B.Pairwise (· < ·)->(∀c,c∈A↔c∈B)->A=B
 | [],[],_,_,_=>rfl
 | [],b :: B,_,_,h=>by have:=(h b).mpr dO;cases this
 |a :: A,[],_,_,h=>by have:=(h a).mp dO;cases this
 |a :: A,b :: B,hA,hB,h=>by
  let(j,l):=rC.mp hA;let(i,k):=rC.mp hB;let g:a=b:=by
   rcases dt.mp ((h a).mp dO)with e|e
   .exact e
   .rcases dt.mp ((h b).mpr dO)with f | f
    .exact f.symm
    .let:=i a e;let:=j b f;lia
  subst g;rw[q9 l k λc=>⟨λd=>by
   rcases dt.mp ((h c).mp<|dV _ d)with e|e
   .let:=j c d;lia
   .exact e,λd=>by
   rcases dt.mp ((h c).mpr<|dV _ d)with e|e
   .let:=i c d;lia
   .exact e⟩]
theorem uD{zs:La Str}{ds:La PD}{m:La PT}{a i f:Nat}{z:Str}(ok:eQ zs ds m a)(u:f<a)(s:zs[f]?=Kg z):cI m zs a i z=Ki↔FN m a (a+i) f:=by
 let k:=iF ok;unfold cI;rw[jT];constructor
 .rintro⟨x,r,b⟩;rw[uC k]at r;unfold nmT at b;cases e:m[x]? with
  |none=>rw[e]at b;cases b
  |some t =>
   rw[e]at b;let b:z∈prm t.cols zs:= ~~~b
   let d:∀j∈t.cols,j<zs.length:=λj o=>by rw[ok.len];exact ok.lt e j o
   let n:=ck (os:=t.cols) (xs:=zs) d;let(c,g):=gT b;let p:c<t.cols.length:=by rw[←n.1];exact(GD.mp g).1
   let l:=GC p;rw[n.2 c _ l]at g;let q:=cH ok.nd g s;exact .inr ⟨∅,u,x,t,by rw[show a+i-a=i by lia];exact r,e,by rw[←q];exact GG l⟩
 .rintro(⟨h,_⟩|⟨_,_,x,t,hr,e,hc⟩)
  .lia
  .rw[show a+i-a=i by lia]at hr;calc⟨x,(uC k _ _).mpr hr,?_⟩;unfold nmT;rw[e];show(prm t.cols zs).contains z=Ki;let d:∀j∈t.cols,j<zs.length:=λj o=>by rw[ok.len];exact ok.lt e j o
   let n:=ck (os:=t.cols) (xs:=zs) d;let(c,v):=gT hc;let:z∈prm t.cols zs:=GG (show(prm t.cols zs)[c]?=Kg z by rw[n.2 c _ v];exact s);simpa using this
theorem uE{zs:La Str}{ds:La PD}{d:La PT}{a k:Nat}{b:La Nat}(ok:eQ zs ds d a)(r:b.Pairwise (· < ·))(mem:∀f,f∈b↔FN d a (a+k) f):((zs.take a).filter<|cI d zs a k).length=b.length/\∀(j:Nat)(z:Str),((zs.take a).filter<|cI d zs a k)[j]?=Kg z->∃f,b[j]?=Kg f/\zs[f]?=Kg z:=by
 let t:=ok.len;let s:=ok.tab;let n:∀f,f<a->zs[f]?=Kg (zs.getD f Str.empty):=λf u=>by
  let e:=GC (l:=zs) (i:=f) ∅;rw[hJ,e];rfl
 let q:b=(List.range a).filter (λf=>cI d zs a k<|zs.getD f Str.empty):=by
  refine q9 r (List.Pairwise.sublist ra List.pairwise_lt_range) λc=>?_
  rw[mem c,hQ,hC];constructor
  .intro h;let g:=h.lt;exact⟨g,(uD ok g<|n c g).mpr h⟩
  .rintro⟨g,h⟩;exact(uD ok g<|n c g).mp h
 let o:zs.take a=(List.range a).map λf=>zs.getD f Str.empty:=by
  refine pk λj=>?_
  rw[jR,dy];by_cases m:j<a
  .rw[Ko m,qB m,n j m];rfl
  .rw[Kn m,jU (by rw[hZ];lia)];rfl
 let p:(zs.take a).filter (cI d zs a k)=b.map λf=>zs.getD f Str.empty:=by
  rw[o,List.filter_map,q];rfl
 rw[p];calc⟨dn _,λj z e=>?_⟩;rw[dy]at e;cases ej:b[j]? with
 |none=>rw[ej]at e;cases e
 |some f =>
  rw[ej]at e;cases e;calc⟨f,U,n f ((mem f).mp<|GG ej).lt⟩
theorem CA{c A B:Prop} [Decidable c] (a:¬ c)(h:A):if (!decide c)=Ki then A else B:=by rw[Kr a];calc dS h
def wvP(p:PD)(c:Int):V:=if p.ws=[]then .int c else .str (p.ws.getD c.toNat Str.empty)
def fq(v:SI):Bool:=Kk<|v.1=s!"say"
def ixF:La Str->Str->Nat
 | [],_=>0
 |x :: l,z=>if x=z then 0 else ixF l z+1
theorem xQ:∀{l:La Str}{z:Str},z∈l->l[ixF l z]?=Kg z
 |x :: l,z,h=>by
  unfold ixF;by_cases e:x=z
  .rw[Ko e];simp[e]
  .rw[Kn e];let a:z∈l:=by
    rcases dt.mp h with q|q
    .exact Kp q.symm e
    .exact q
   simpa using xQ a
def m6(p:PD)(t:PT)(a:La SI):SI:=match a.find? (λv=>!fq v) with
 |some v=>v
 |none=>ver (wf (ixF six t.way) p.lo p.hi) (fl t.rows (a.map (·.2)))
def vdF(b:La PT)(ds:La PD)(a:Nat)(d:La Int):Nat->Nat->SI
 |0,_=>A4
 |n+1,k=>match b[k]?,ds[a+k]? with
  |some t,Kg p=>m6 p t<|t.cols.map λc=>if c<a then say (d.getD c 0)else vdF b ds a d n (c-a)
  |_,_=>A4
def vd(a:La PT)(ds:La PD)(b:Nat)(c:La Int)(k:Nat):SI:=vdF a ds b c (k+1) k
def cvo(d:La PT)(ds:La PD)(a:Nat)(b:La Int)(c:Nat):SI:=if c<a then say (b.getD c 0)else vd d ds a b (c-a)
theorem rf{b:La PT}{ds:La PD}{a:Nat}{d:La Int}(h:∀(k:Nat)(t:PT),b[k]?=Kg t->∀c∈t.cols,c<a+k):∀(n m k:Nat),k<n->k<m->vdF b ds a d n k=vdF b ds a d m k
 |0,_,_,h1,_=>Kp h1<|v5 _
 |_+1,0,_,_,h2=>Kp h2<|v5 _
 |n+1,m+1,k,h1,h2=>by
  unfold vdF;cases et:b[k]? with
  |none=>rfl
  |some t =>
   cases ds[a+k]? with
   |none=>rfl
   |some p =>
    show m6 p t _=m6 p t _
    congr 1
    refine List.map_congr_left λc e=>?_
    split
    .rfl
    .let:=h k t et c e;calc rf h n m (c-a) ∅ ∅
theorem xR{b:La PT}{ds:La PD}{a:Nat}{e:La Int}(h:∀(k:Nat)(t:PT),b[k]?=Kg t->∀c∈t.cols,c<a+k){k:Nat}{t:PT}{p:PD}(d:b[k]?=Kg t)(ep:ds[a+k]?=Kg p):vd b ds a e k=m6 p t (t.cols.map<|cvo b ds a e):=by
 unfold vd vdF;rw[d,ep];show m6 p t _=m6 p t _
 congr 1
 refine List.map_congr_left λc f=>?_
 unfold cvo;split
 .rfl
 .let:=h k t d c f;calc rf h k (c-a+1) (c-a) ∅ ∅
theorem xS{p:PD}{t:PT}{a:La SI}(h:∀v∈a,fq v=Ki):m6 p t a=ver (wf (ixF six t.way) p.lo p.hi) (fl t.rows (a.map (·.2))):=by
 unfold m6;let:a.find? (λv=>!fq v)=none:=by
  rw[List.find?_eq_none];intro v b;simp[h v b]
 rw[this]
def Bef(a:Nat->La Nat)(told:La Nat):Prop:=∀(i j:Nat),told[i]?=Kg j->∀x∈a j,x∈told.take i
theorem uF{a:Nat->La Nat}(h:∀k,∀j∈a k,j<k):∀(k:Nat)(told:La Nat),Bef a told->Bef a (odr a k told)/\(∀x∈told,x∈odr a k told)/\k∈odr a k told:=by
 intro k;induction k using Nat.strongRecOn with
 |ind k p =>
  intro told c;let fold:∀(l:La Nat)(t:La Nat),(∀j∈l,j<k)->Bef a t->Bef a (l.foldl (λt j=>odr a j t) t)/\(∀x∈t,x∈l.foldl (λt j=>odr a j t) t)/\∀j∈l,j∈l.foldl (λt j=>odr a j t) t:=by
   intro l;induction l with
   |nil=>intro t _ c;exact⟨c,λx b=>b,λj q=>by cases q⟩
   |cons j l n =>
    intro t d c;let(m,g,f):=p j (d j dO) t c;let(s,o,r):=n (odr a j t) (λi hi=>d i<|dV _ hi) m;rw[jx];calc⟨s,λx b=>o x<|g x b,λi hi=>?_⟩;rcases dt.mp hi with rfl|hi
    .exact o _ f
    .exact r i hi
  rw[mX h];split
  .rename_i hc
   exact⟨c,λx b=>b,~~~hc⟩
  .let(m,g,f):=fold (a k) told (h k) c;generalize (a k).foldl (λt j=>odr a j t) told=F at m g f⊢;calc⟨λi j e x b=>?_,λx b=>jd _<|g x b,hH _<|gu.mpr U⟩;by_cases hi:i<F.length
   .rw[hY hi]at e;rw[List.take_append_of_le_length (uK hi)];exact m i j e x b
   .let d:i=F.length:=by
     have:=(GD.mp e).1;rw[gp,lz]at this;lia
    subst d;rw[iJ (tj _),v3]at e;cases e;rw[List.take_left']
    .exact f x b
    .rfl
theorem uG{a:Nat->La Nat}:Bef a []:=λi j e=>by simp at e
def StA(N:Ak->Prop)(K:W.Frag)(H:Hp)(r:Ak)(nm:Str)(t:PT)(p:PD)(a:La SI):Prop:=∃(c:V)(m:Int)(d:Ak),H r=Kg (.tup [.str nm,c,.int m,.ref d])/\SqT K H d (tp<|m6 p t a) /\
 ((a.all fq=Kj/\c=.non/\m=0)\/(a.all fq=Ki/\∃b,c=.ref b/\N b/\H b=Kg (.lst ((a.map (·.2)).map V.int))/\m=((msk (mT t.rows (a.map (·.2))) t.rows.length:Nat):Int)))
theorem m7{K:W.Frag}{H:Hp}{x a:Ak}{o u:HO}{xs:La V}(h:SqT K H a xs)(e:H x=Kg u)(c:∀ys,u≠.tup ys)(b:∀o ys,u≠.frz o (.tup ys)):SqT K (upd H x o) a xs:=by
 rcases h with(h|⟨o',h⟩)|h
 .exact .inl<|.inl<|(aq (λz=>by rw[z,e]at h;exact c xs (Option.some.inj h))).trans h
 .exact .inl<|.inr ⟨o',(aq (λz=>by rw[z,e]at h;exact b o' xs (Option.some.inj h))).trans h⟩
 .exact .inr h
section
variable{N N':Ak->Prop}{K:W.Frag}{H H':Hp}{r:Ak}{nm:Str}{t:PT}{p:PD}{cvs:La SI}
theorem StA.same(h:StA N K H r nm t p cvs)(s:ao H H'):StA N K H' r nm t p cvs:=by
 let(k,m,e,j,i,g):=h;calc⟨k,m,e,s _ _ j,s.seqT i,g.imp id λ⟨a,f,b,n,c,d⟩=>⟨a,f,b,n,s _ _ c,d⟩⟩
theorem StA.wk(h:StA N K H r nm t p cvs)(w:∀x,N x->N' x):StA N' K H r nm t p cvs:=by
 let(k,m,e,j,i,g):=h;calc⟨k,m,e,j,i,g.imp id λ⟨a,f,b,n,c,d⟩=>⟨a,f,b,w _ n,c,d⟩⟩
theorem StA.updL{x:Ak}{ys:La V}{o:HO}(h:StA N K H r nm t p cvs)(e:H x=Kg (.lst ys))(n:¬ N x):StA N K (upd H x o) r nm t p cvs:=by
 let(l,m,i,g,k,j):=h;calc⟨l,m,i,(aq<|cy g e (by intro z;cases z)).trans g,m7 k e (λ_ z=>by cases z) (λ_ _ z=>by cases z),j.imp id λ⟨a,f,b,m,c,d⟩=>⟨a,f,b,m,(aq<|λ(z:f=x)=>n (by rw[←z];exact m)).trans c,d⟩⟩
theorem StA.updD{x:Ak}{kvs:La (Key×V)}{o:HO}(h:StA N K H r nm t p cvs)(e:H x=Kg (.dK kvs)):StA N K (upd H x o) r nm t p cvs:=by
 let(l,m,g,f,k,j):=h;calc⟨l,m,g,(aq<|cy f e (by intro z;cases z)).trans f,m7 k e (λ_ z=>by cases z) (λ_ _ z=>by cases z),j.imp id λ⟨a,i,b,m,c,d⟩=>⟨a,i,b,m,(aq<|cy c e (by intro z;cases z)).trans c,d⟩⟩
end
def StK(N:Ak->Prop)(K:W.Frag)(H:Hp)(zs:La Str)(ds:La PD)(b:La PT)(a:Nat)(d:La Int)(r:Ak)(j:Nat):Prop:=∃(t:PT)(p:PD)(c:Str),b[j]?=Kg t/\ds[a+j]?=Kg p/\zs[a+j]?=Kg c/\StA N K H r c t p (t.cols.map<|cvo b ds a d)
section
variable{N N':Ak->Prop}{K:W.Frag}{H H':Hp}{zs:La Str}{ds:La PD}{ts:La PT}{fN:Nat}{cd:La Int}{r:Ak}{j:Nat}
theorem StK.same(h:StK N K H zs ds ts fN cd r j)(s:ao H H'):StK N K H' zs ds ts fN cd r j:=by let(t,p,e,a,b,c,d):=h;calc⟨t,p,e,a,b,c,d.same s⟩
theorem StK.wk(h:StK N K H zs ds ts fN cd r j)(w:∀x,N x->N' x):StK N' K H zs ds ts fN cd r j:=by let(t,p,e,a,b,c,d):=h;calc⟨t,p,e,a,b,c,d.wk w⟩
theorem StK.updL{x:Ak}{ys:La V}{o:HO}(h:StK N K H zs ds ts fN cd r j)(e:H x=Kg (.lst ys))(n:¬ N x):StK N K (upd H x o) zs ds ts fN cd r j:=by let(t,p,f,a,b,c,d):=h;calc⟨t,p,f,a,b,c,d.updL e n⟩
theorem StK.updD{x:Ak}{kvs:La (Key×V)}{o:HO}(h:StK N K H zs ds ts fN cd r j)(e:H x=Kg (.dK kvs)):StK N K (upd H x o) zs ds ts fN cd r j:=by let(t,p,f,a,b,c,d):=h;calc⟨t,p,f,a,b,c,d.updD e⟩
end
def FCd(zs:La Str)(a:Nat)(b:La Int)(kvs:La (Str×V)):Prop:=∀p∈kvs,∃f,f<a/\zs[f]?=Kg p.1/\p.2=.int (b.getD f 0)
theorem oX{z:Str}:∀{kvs:La (Str×V)},(∀p∈kvs,p.1≠z)->kvs.lookup z=Kh
 | [],_=>rfl
 |(k,v) :: kvs,h=>by
  rw[lL,beq_eq_false_iff_ne.mpr λe=>h (k,v) dO e.symm];calc oX λp a=>h p<|dV _ a
theorem yY{kvs:La (Str×V)}{z:Str}{v:V}(h:z ∉ kvs.map (·.1)):putK (kvT kvs) (Sum.inr z) v=kvT (kvs++[(z,v)]):=by
 rw[xi v (by rw[mR];exact oX λp a e=>h<|eH.mpr ⟨p,a,e⟩)];unfold kvT;rw[dz];rfl
theorem FCd.snoc{zs:La Str}{b:Nat}{c:La Int}{kvs:La (Str×V)}(h:FCd zs b c kvs){f:Nat}{z:Str}(d:f<b)(e:zs[f]?=Kg z):FCd zs b c (kvs++[(z,.int<|c.getD f 0)]):=λp a=>by
 rcases gs.mp a with a|a
 .exact h p a
 .rw[gu.mp a];calc⟨f,d,e,U⟩
structure TdA(H:Hp)(ys:La V)(ks kvs:La (Str×V)):Prop where
 len:ys.length=ks.length
 keys:ks.map (·.1)=kvs.map (·.1)
 at_:∀(j:Nat)(p:Str×V),ks[j]?=Kg p->∃(T S:Ak)(c:Int),ys[j]?=Kg (.ref T)/\H T=Kg (.tup [.str p.1,.ref S])/\p.2=.ref S/\H S=Kg (.tup<|tp<|say c)/\kvs[j]?=Kg (p.1,.int c)
def TdA.tups{H H':Hp}{ys:La V}{ks kvs:La (Str×V)}(h:TdA H ys ks kvs)(s:jo H H'):TdA H' ys ks kvs :=
 ⟨h.len,h.keys,λj p e=>let ⟨T,S,c,h1,h2,h3,h4,h5⟩:=h.at_ j p e;⟨T,S,c,h1,s _ _ h2,h3,s _ _ h4,h5⟩⟩
theorem TdA.snoc{H:Hp}{ys:La V}{ks kvs:La (Str×V)}(h:TdA H ys ks kvs){T S:Ak}{z:Str}{c:Int}(m:H T=Kg (.tup [.str z,.ref S]))(n:H S=Kg (.tup<|tp<|say c)):TdA H (ys++[.ref T]) (ks++[(z,.ref S)]) (kvs++[(z,.int c)]):=by
 let a:ks.length=kvs.length:=by have:=Kt List.length h.keys;simpa using this
 let s:=h.len;refine⟨by rw[gp,gp,h.len];rfl,by rw[dz,dz,h.keys];rfl,λj p e=>?_⟩;by_cases d:j<ks.length
 .rw[hY d]at e;let(q,r,o,l,k,i,g,f):=h.at_ j p e;exact⟨q,r,o,by rw[hY (by rw[h.len];exact d)];exact l,k,i,g,by rw[hY ∅];exact f⟩
 .let b:j=ks.length:=by
   let:=(GD.mp e).1;rw[gp,lz]at this;lia
  subst b;rw[iJ (tj _),v3]at e;cases e;calc⟨T,S,c,by rw[iJ ∅,h.len,v3];rfl,m,U,n,by rw[iJ ∅,a,v3];rfl⟩
def TIv(K:W.Frag)(H:Hp)(zs:La Str)(ds:La PD)(a:La PT)(d:Nat)(e:La Int)(b:La (Key×V))(P:Nat->Prop):Prop:=∀(c:Nat)(z:Str),zs[c]?=Kg z->P c->∃r:Ak,bx b (Sum.inr z)=Kg (.ref r)/\SqT K H r (tp<|cvo a ds d e c)
section
variable{K:W.Frag}{H H':Hp}{zs:La Str}{ds:La PD}{ts:La PT}{fN:Nat}{cd:La Int}{kv:La (Key×V)}{P:Nat->Prop}
def TIv.same(h:TIv K H zs ds ts fN cd kv P)(s:ao H H'):TIv K H' zs ds ts fN cd kv P:=λc z e p=>let ⟨r,h1,h2⟩:=h c z e p;⟨r,h1,s.seqT h2⟩
def TIv.updX{x:Ak}{u o:HO}(h:TIv K H zs ds ts fN cd kv P)(e:H x=Kg u)(b:∀ys,u≠.tup ys)(a:∀o ys,u≠.frz o (.tup ys)):TIv K (upd H x o) zs ds ts fN cd kv P:=λc z d p=>let ⟨r,h1,h2⟩:=h c z d p;⟨r,h1,m7 h2 e b a⟩
theorem TIv.put(h:TIv K H zs ds ts fN cd kv P)(i:zs.Nodup){c0:Nat}{a:Str}{r:Ak}(d:zs[c0]?=Kg a)(g:SqT K H r (tp<|cvo ts ds fN cd c0)){f:Nat->Prop}(j:∀c,f c->c=c0\/P c):TIv K H zs ds ts fN cd (putK kv (Sum.inr a)<|.ref r) f:=λc z e p=>by
 rw[fj];by_cases b:z=a
 .subst b;let:=cH i e d;subst this;exact⟨r,Ko U,g⟩
 .rw[Kn (λq=>b (by injection q))];rcases j c p with rfl|p
  .rw[d]at e;exact Kp (Option.some.inj e).symm b
  .exact h c z e p
end
theorem TdA.tiv{K:W.Frag}{H:Hp}{zs:La Str}{ds:La PD}{m:La PT}{g:Nat}{i:La Int}{ys:La V}{ks kvs:La (Str×V)}(h:TdA H ys ks kvs)(o:zs.Nodup)(p:(kvs.map (·.1)).Nodup)(r:FCd zs g i kvs):TIv K H zs ds m g i (kvT ks) (λc=>c<g/\∀z,zs[c]?=Kg z->z∈kvs.map (·.1)):=λc z e ⟨q,b⟩=>by
 let b:=b z e;rw[←h.keys]at b;let((x,v),n,rfl):=eH.mp b;let(j,l):=gT n;let(T,S,w,B,A,d,t,s):=h.at_ j _ l;let(f,y,u,a):=r _<|GG s;let:=cH o u e;subst this;let a:V.int w=V.int (i.getD f 0):=a;injection a with a;subst a;refine⟨S,?_,SqT.of ?_⟩
 .rw[mR];let k:(ks.map (·.1)).Nodup:=by rw[h.keys];exact p
  let d:v=.ref S:=d;rw[pQ k l,d]
 .unfold cvo;rw[Ko q];calc t
def EnA(d H:Hp)(b:Ak)(n m:Nat):Prop:=d b=Kh/\∃a:La V,H b=Kg (.lst a)/\a.length=n/\∀(j:Nat)(x:V),a[j]?=Kg x->∃(l:Ak)(c:La Int),x=.ref l/\l≠b/\d l=Kh/\H l=Kg (.lst<|c.map V.int)/\c.length<=m
theorem EnA.same{i H H':Hp}{g:Ak}{n m:Nat}(h:EnA i H g n m)(s:ao H H'):EnA i H' g n m:=by
 let(q,r,p,o,k):=h;calc⟨q,r,s _ _ p,o,λj x e=>let ⟨l,xs,a,b,c,d,f⟩:=k j x e;⟨l,xs,a,b,c,s _ _ d,f⟩⟩
theorem EnA.le{k H:Hp}{i:Ak}{n m g:Nat}(h:EnA k H i n m)(w:m<=g):EnA k H i n g:=by
 let(r,s,q,p,o):=h;calc⟨r,s,q,p,λj x e=>let ⟨l,xs,a,b,c,d,f⟩:=o j x e;⟨l,xs,a,b,c,d,tT f w⟩⟩
theorem EnA.ext{q H:Hp}{i l:Ak}{n m k:Nat}{xs ys:La Int}(h:EnA q H i n m)(r:l≠i)(A:H l=Kg (.lst<|xs.map V.int))(z:xs.length<=m)(y:ys.length<=k):EnA q (upd H l<|.lst<|xs.map V.int++ys.map V.int) i n (m+k):=by
 let(v,w,u,t,s):=h;calc⟨v,w,(aq r.symm).trans u,t,λj x e=>?_⟩;let(g,o,a,b,c,d,f):=s j x e;by_cases p:g=l
 .subst p;exact⟨g,xs++ys,a,b,c,by rw[ae,dz],by rw[gp];lia⟩
 .exact⟨g,o,a,b,c,(aq p).trans d,∅⟩
theorem uH{a:Nat->La Nat}(h:∀k,∀j∈a k,j<k)(k:Nat):∃b,odr a k []=b++[k]:=by
 rw[mX h,Kn (by simp)];calc⟨_,U⟩
theorem oY{b:Type}{xs:La V}{as:La b}{a:b}{P:Ak->b->Prop}(h:ay xs (as++[a]) P):∃r,atI xs (-1)=Kg (.ref r)/\P r a:=by
 let(g,j):=h;let(r,k,f):=j as.length a (by simp);let e:xs=xs.dropLast++[.ref r]:=by
  let c:xs.length=as.length+1:=by rw[g];simp
  refine pk λi=>?_
  by_cases hi:i<as.length
  .rw[hY (by rw[rK];lia),List.getElem?_dropLast,Ko ∅]
  .by_cases d:i=as.length
   .subst d;rw[k,iJ (by rw[rK];lia),rK,c,Nat.add_sub_cancel,v3];rfl
   .rw[jU ∅,jU (by rw[gp,rK];simp;lia)]
 calc⟨r,by rw[e];exact wu _ _,f⟩
theorem xT{kvs:La (Key×V)}{k:Key}{v:V}{p:Key×V}(h:p∈putK kvs k v):p=(k,v)\/(p∈kvs/\p.1≠k):=by
 unfold putK at h;by_cases a:(kvs.any λb=>decide<|b.1=k)=Ki
 .rw[Ko a]at h;let(b,c,rfl):=eH.mp h;by_cases e:b.1=k
  .rw[Ko e];left;rw[e]
  .rw[Kn e];exact .inr ⟨c,e⟩
 .rw[Kn a]at h;rcases gs.mp h with h|h
  .exact .inr ⟨h,λe=>a<|jT.mpr ⟨p,h,Kq e⟩⟩
  .exact .inl<|gu.mp h
theorem xU(p:PD)(c:Int):bM (wvP p c)=true:=by unfold wvP;split <;> rfl
theorem lr(s:String):∀c∈(Str.ofString s).cps.toList,c<16^8:=λc a=>by
 rw[Str.ofString_eq_toList]at a;simp only[eH]at a;let(b,_,rfl):=a;calc b.val.toNat_lt
structure Sm(n:Nat)(z:Str):Prop where
 len:z.length<=n
 low:∀c∈z.cps.toList,c<16^8
def Sm.of(s:String){n:Nat}(h:(Str.ofString s).length<=n):Sm n (Str.ofString s):=⟨h,lr s⟩
theorem Bh{z:Str}(h:isw z=Ki):Sm 600 z:=by
 unfold isw at h;simp only[yq,decide_eq_true_eq]at h;calc⟨∅,λc a=>?_⟩;let:=iv.mp h.2.2.2 c a;unfold sg at this;rw[PySem.StrLaws.found_one]at this;let m:=Ks this;calc(Sm.of "abcdefghijklmnopqrstuvwxyz" (n:=26) (~~~0)).low c m
theorem Bi{z:Str}(h:Sm 600 z):Shw (.str z):=.str (tT h.len ⋯) h.low
def Pl:V->Prop
 | .non=>True
 | .bl _=>True
 | .int _=>True
 | .str _=>True
 |_=>False
theorem xV{v:V}(h:Shw v):Pl v:=by cases h <;> trivial
def isI:V->Bool
 | .int _=>Ki
 |_=>Kj
def inW(zs:La Str):V->Bool
 | .str z=>decide<|z∈zs
 |_=>Kj
theorem yZ{v:V}(h:Pl v):bM v=true:=by cases v <;> first|rfl|calc h.elim
theorem CB(zs:La Str)(v:V)(h:Pl v):inV v (zs.map V.str)=inW zs v:=by
 unfold inV inW;rw[List.any_map];cases v with
 |str z =>
  rw[Bool.eq_iff_iff,jT,Ku];constructor
  .rintro⟨y,c,e⟩;let:y=z:=by simpa[eqV]using e
   rw[←this];exact c
  .intro a;exact⟨z,a,by simp[eqV]⟩
 |non=>exact ov.mpr λy _=>by simp[eqV]
 |bl b=>exact ov.mpr λy _=>by simp[eqV]
 |int i=>exact ov.mpr λy _=>by simp[eqV]
 |_=>calc h.elim
def inB(lo hi:Int):V->Bool
 | .int i=>decide (lo<=i) && decide (i<=hi)
 |_=>Kj
theorem tJ{lo hi i:Int}(b:lo<=i)(a:i<=hi):inB lo hi (.int i)=true:=by
 show(Kk (lo<=i) && decide (i<=hi))=Ki;rw[Kq b,Kq a];rfl
def nlF(b:La PT)(zs:La Str)(a k:Nat):La Str:=(zs.take a).filter<|cI b zs a k
def OkF(zs:La Str)(ds:La PD)(c:Nat)(b:La (Key×V))(a:La Int)(z:Str):Prop:=∀(f:Nat)(p:PD),f<c->zs[f]?=Kg z->ds[f]?=Kg p->bx b (Sum.inr z)=Kg (wvP p<|a.getD f 0)/\p.lo<=a.getD f 0/\a.getD f 0<=p.hi
def vO(p:PD)(v:V):Prop:=if p.ws=[]then inB p.lo p.hi v=Kj else inW p.ws v=Kj
def vP(zs:La Str)(ds:La PD)(b:Nat)(a:La (Key×V))(z:Str):Prop:=∃v:V,bx a (Sum.inr z)=Kg v/\Shw v/\∀(f:Nat)(p:PD),f<b->zs[f]?=Kg z->ds[f]?=Kg p->vO p v
theorem Bj{zs:La Str}{z:Str}(h:∀z∈zs,isw z=Ki)(a:isw z=Kj):inW zs (.str z)=false:=by
 show decide (z∈zs)=Kj;exact Kr λm=>by rw[h z m]at a;cases a
def swv:La V:=[.str s!"Zz",.int 0,.non,.bl Ki,.str s!"abcdefghijklm",.str s!""]
def snv(lo hi:Int):La V:=[.int (hi+1),.int<|lo-1,.non,.bl Ki,.str s!"0",.str s!""]
theorem xW{a:Type}{l:La a}(h:l.length=6)(c:Int):∃(j:Nat)(v:a),j<6/\c%6=(j:Int)/\l[j]?=Kg v:=by
 let d:=w5 c (show(6:Int)≠0 by decide);let b:=xc c (show(0:Int)<6 by decide);calc⟨(c%6).toNat,_,∅,∅,GC ∅⟩
theorem Bm{zs:La Str}(h:∀z∈zs,isw z=Ki){v:V}(a:v∈swv):Shw v/\inW zs v=Kj/\bM v=true:=by
 unfold swv at a;simp only[dt,jc,or_false]at a;rcases a with rfl|rfl|rfl|rfl|rfl|rfl
 .exact⟨.str (~~~0)<|lr _,Bj h<|~~~0,U⟩
 .exact⟨.int ⋯,U,U⟩
 .exact⟨.non,U,U⟩
 .exact⟨.bl _,U,U⟩
 .exact⟨.str (~~~0)<|lr _,Bj h<|~~~0,U⟩
 .exact⟨.str (~~~0)<|lr _,Bj h<|~~~0,U⟩
theorem Bo{lo hi:Int}(c:bnd (lo-1))(b:bnd (hi+1))(d:lo<=hi){v:V}(a:v∈snv lo hi):Shw v/\inB lo hi v=Kj/\bM v=true:=by
 unfold snv at a;simp only[dt,jc,or_false]at a;rcases a with rfl|rfl|rfl|rfl|rfl|rfl
 .refine⟨.int b,?_,U⟩;show(Kk (lo<=hi+1) && decide (hi+1<=hi))=Kj;rw[Kr (show ¬ hi+1<=hi by lia),Bool.and_false]
 .refine⟨.int c,?_,U⟩;show(Kk (lo<=lo-1) && decide (lo-1<=hi))=Kj;rw[Kr (show ¬ lo<=lo-1 by lia),Bool.false_and]
 .exact⟨.non,U,U⟩
 .exact⟨.bl _,U,U⟩
 .exact⟨.str (~~~0)<|lr _,U,U⟩
 .exact⟨.str (~~~0)<|lr _,U,U⟩
def akB:Nat->La Bool
 |0=>[Kj,Kj,Ki,Ki]
 |1=>[]
 |2=>[Ki,Kj,Kj,Ki]
 |_=>[Kj,Ki,Kj,Ki]
inductive AkC(zs:La Str)(ds:La PD)(ts:La PT)(fN:Nat)(L:La Nat)(nm:Str)(fk:La (Key×V))(cd:La Int):Nat->Prop
 |no (h:∀k∈L,tnm zs fN k≠nm):AkC zs ds ts fN L nm fk cd 0
 |told (k:Nat)(hk:k<ts.length)(hn:tnm zs fN k=nm)(h:∀(i:Nat)(z:Str),i<(nlF ts zs fN k).length->(nlF ts zs fN k)[i]?=Kg z->OkF zs ds fN fk cd z):AkC zs ds ts fN L nm fk cd 1
 |miss (k m:Nat)(z:Str)(hk:k<ts.length)(hn:tnm zs fN k=nm)(ez:(nlF ts zs fN k)[m]?=Kg z)(h:∀(i:Nat)(z:Str),i<m->(nlF ts zs fN k)[i]?=Kg z->OkF zs ds fN fk cd z)(hv:bx fk (Sum.inr z)=Kh):AkC zs ds ts fN L nm fk cd 2
 |out (k m:Nat)(z:Str)(hk:k<ts.length)(hn:tnm zs fN k=nm)(ez:(nlF ts zs fN k)[m]?=Kg z)(h:∀(i:Nat)(z:Str),i<m->(nlF ts zs fN k)[i]?=Kg z->OkF zs ds fN fk cd z)(hv:vP zs ds fN fk z):AkC zs ds ts fN L nm fk cd 3
def exk{a:Type}{P:a->Prop}{x:a}(R:a->Prop)(h:R x)(k:∀y,R y->P y):P x:=k x h
theorem i3(kvs:La (Key×V))(k j:Key):bx (eM kvs k) j=if j=k then Kh else bx kvs j:=by
 induction kvs with
 |nil=>rw[show eM ([]:La (Key×V)) k=[]from U];split <;> rfl
 |cons p r a =>
  by_cases e:p.1=k
  .rw[vw e,a];by_cases h:j=k
   .rw[Ko h,Ko h]
   .rw[Kn h,Kn h,bX (λz=>h<|z.symm.trans e)]
  .rw[vx e];by_cases h:p.1=j
   .rw[bW h,Kn<|λz=>e<|h.trans z,bW h]
   .rw[bX h,a,bX h]
theorem zV{a:La Nat}(h:0<a.length)(x:Int):∃f,f∈a/\atI (vN a) (x%(((vN a).length:Nat):Int))=Kg (.int (f:Int)):=by
 rw[cC];let c:=w5 x (show(a.length:Int)≠0 by lia);let b:=xc x (show(0:Int)<(a.length:Int) by lia);let e:=GC (l:=a) (i:=(x%(a.length:Int)).toNat) ∅;generalize a[(x%(a.length:Int)).toNat]=f at e;calc⟨f,GG e,?_⟩;let:x%(a.length:Int)=(((x%(a.length:Int)).toNat:Nat):Int):=∅
 rw[this];calc aK (by unfold vN;rw[dy,e];rfl)
def FtA(fl:Ak)(H:Hp)(t:Ak)(f:Nat×Nat):Prop:=∃a:Ak,a≠fl/\H t=Kg (.tup [.int (f.1:Int),.ref a])/\H a=Kg (.lst<|(akB f.2).map V.bl)
theorem FtA.same{fl:Ak}{H H':Hp}{t:Ak}{f:Nat×Nat}(h:FtA fl H t f)(s:ao H H'):FtA fl H' t f:=by
 let(a,d,c,b):=h;calc⟨a,d,s _ _ c,s _ _ b⟩
theorem FtA.upd{fl:Ak}{H:Hp}{t:Ak}{f:Nat×Nat}{xs:La V}{o:HO}(h:FtA fl H t f)(e:H fl=Kg (.lst xs)):FtA fl (upd H fl o) t f:=by
 let(c,b,a,d):=h;calc⟨c,b,(aq (λz=>by rw[z,e]at a;cases a)).trans a,(aq b).trans d⟩
theorem FtA.updK{fl d:Ak}{H:Hp}{t:Ak}{f:Nat×Nat}{kvs:La (Key×V)}{o:HO}(h:FtA fl H t f)(e:H d=Kg (.dK kvs)):FtA fl (L2.upd H d o) t f:=by
 let(c,g,b,a):=h;calc⟨c,g,(aq (λz=>by rw[z,e]at b;cases b)).trans b,(aq (λz=>by rw[z,e]at a;cases a)).trans a⟩
theorem FtA.new{fl D:Ak}{H:Hp}{t:Ak}{f:Nat×Nat}(h:FtA fl H t f)(e:H D=Kh):FtA D H t f:=by
 let(b,d,c,a):=h;calc⟨b,(λz=>by rw[z,e]at a;cases a),c,a⟩
theorem y9{c:Type}{P:Ak->c->Prop}:∀{xs:La V}{as:La c},ay xs as P->∃b:La Ak,xs=b.map V.ref:=by
 intro xs;induction xs with
 |nil=>exact λ_=>⟨[],U⟩
 |cons x r d =>
  intro as h;cases as with
  |nil=>exact Kp h.1 (by simp)
  |cons a as =>
   let(t,e,_):=h.2 0 a U;let f:x=.ref t:=Option.some.inj e;let(b,g):=d (as:=as) ⟨Nat.succ.inj h.1,λj p e=>h.2 (j+1) p e⟩;calc⟨t :: b,by rw[f,g];rfl⟩
structure jK(zs:La Str)(ds:La PD)(fN:Nat)(js:La Nat)(fk fk':La (Key×V))(fs:La (Nat×Nat)):Prop where
 mem:∀f∈fs,f.1∈js/\∀z,zs[f.1]?=Kg z->(f.2=2/\bx fk' (Sum.inr z)=Kh)\/(f.2=3/\vP zs ds fN fk' z)
 rest:∀f∈js,f ∉ fs.map (·.1)->∀z,zs[f]?=Kg z->bx fk' (Sum.inr z)=bx fk (Sum.inr z)
 nd:(fs.map (·.1)).Nodup
def SpO(zs:La Str)(ds:La PD)(d:Nat)(b:La Nat)(c a:La (Key×V))(o:Nat):Prop:=(o=1/\∀f∈b,∀z,zs[f]?=Kg z->bx a (Sum.inr z)=bx c (Sum.inr z))\/∃f0∈b,(∀f∈b,f<f0->∀z,zs[f]?=Kg z->bx a (Sum.inr z)=bx c (Sum.inr z))/\∀z,zs[f0]?=Kg z->(o=2/\bx a (Sum.inr z)=Kh)\/(o=3/\vP zs ds d a z)
section
variable{zs:La Str}{ds:La PD}{fN:Nat}{js:La Nat}{fk fk':La (Key×V)}{fs:La (Nat×Nat)}
def jK.end0(h:jK zs ds fN js fk fk' []):SpO zs ds fN js fk fk' 1:=.inl ⟨U,λf a=>h.rest f a<|λz=>nomatch z⟩
theorem jK.fin(h:jK zs ds fN js fk fk' fs){f:Nat×Nat}(e:f∈fs)(c:∀g∈fs,f.1<=g.1):SpO zs ds fN js fk fk' f.2:=by
 calc .inr ⟨f.1,(h.mem f e).1,λg d i=>h.rest g d λa=>?_,(h.mem f e).2⟩;let(p,b,rfl):=eH.mp a;let:=c p b;lia
def jK.start:jK zs ds fN js fk fk []:=⟨(λf a=>nomatch a),(λ_ _ _ _ _=>U),rG⟩
theorem jK.put{b:Nat}{d:Str}{g:PD}{v:V}(a:zs.Nodup)(l:b∈js)(c:zs[b]?=Kg d)(ep:ds[b]?=Kg g)(j:Shw v)(m:vO g v):jK zs ds fN js fk (putK fk (Sum.inr d) v) [(b,3)]:=by
 refine⟨λf h=>?_,λf h k z e=>?_,List.pairwise_singleton ..⟩
 .rw[gu.mp h];refine⟨l,λz e=>.inr ⟨U,v,?_,j,λf p _ n i=>?_⟩⟩
  .rw[c]at e;cases e;rw[fj,Ko U]
  .rw[c]at e;cases e;let:=cH a n c;subst this;rw[ep]at i;cases i;exact m
 .rw[fj,Kn];intro q;let q:z=d:=by injection q
  subst q;let:=cH a e c;subst this;calc k<|gu.mpr U
theorem jK.pop{b:Nat}{d:Str}(h:jK zs ds fN js fk fk' fs)(o:zs.Nodup)(w:b∈js)(s:zs[b]?=Kg d):jK zs ds fN js fk (eM fk'<|Sum.inr d) (fs.filter (λf=>decide<|f.1≠b)++[(b,2)]):=by
 let i:∀(f:Nat)(z:Str),f≠b->zs[f]?=Kg z->bx (eM fk'<|Sum.inr d) (Sum.inr z)=bx fk' (Sum.inr z):=λf z a e=>by
  rw[i3,Kn];intro q;let q:z=d:=by injection q
  subst q;exact a<|cH o e s
 refine⟨λf c=>?_,λf u l z e=>?_,?_⟩
 .rcases gs.mp c with c|c
  .let(r,g):=hQ.mp c;let g:f.1≠b:=Ks g;calc⟨(h.mem f r).1,λz e=>?_⟩;rcases(h.mem f r).2 z e with⟨n,m⟩|⟨n,v,m,x⟩
   .exact .inl ⟨n,(i _ z g e).trans m⟩
   .exact .inr ⟨n,v,(i _ z g e).trans m,x⟩
  .rw[gu.mp c];calc⟨w,λz e=>.inl ⟨U,?_⟩⟩;rw[s]at e;cases e;rw[i3,Ko U]
 .rw[dz]at l;let a:f≠b:=λq=>l<|gs.mpr<|.inr<|gu.mpr q
  rw[i f z a e];calc h.rest f u (λj=>l<|gs.mpr<|.inl ?_) z e;let(p,k,rfl):=eH.mp j;exact eH.mpr ⟨p,hQ.mpr ⟨k,Kq a⟩,U⟩
 .rw[dz];refine uj (h.nd.sublist<|List.Sublist.map _ ra) λj=>?_
  let(p,k,t):=eH.mp j;calc Ks (hQ.mp k).2 t
end
structure FkI(fk:La (Key×V))(n:Nat):Prop where
 len:fk.length<=n
 self:∀p∈fk,bM p.2=Ki/\bx fk p.1=Kg p.2
theorem FkI.put{a:La (Key×V)}{n:Nat}{k:Key}{v:V}(h:FkI a n)(d:bM v=Ki):FkI (putK a k v) (n+1):=by
 refine⟨?_,λp e=>?_⟩
 .let c:=eO a k v;let b:=h.len;lia
 .rw[fj];rcases xT e with rfl|⟨c,b⟩
  .exact⟨d,Ko U⟩
  .rw[Kn b];calc h.self p c
theorem FkI.drop{b:La (Key×V)}{n:Nat}{k:Key}(h:FkI b n):FkI (eM b k) n:=by
 calc⟨tT (iK _ _) h.len,λp c=>?_⟩;let(d,a):=hQ.mp c;let a:p.1≠k:=Ks a;rw[i3,Kn a];calc h.self p d
def FkI.mono{a:La (Key×V)}{n m:Nat}(h:FkI a n)(b:n<=m):FkI a m:=⟨tT h.len b,h.self⟩
theorem AkC.of_spo{zs:La Str}{ds:La PD}{g:La PT}{c k o:Nat}{L l:La Nat}{nm:Str}{v b:La (Key×V)}{j:La Int}(ok:eQ zs ds g c)(u:k<g.length)(t:tnm zs c k=nm)(C:l.Pairwise (· < ·))(mem:∀f,f∈l↔FN g c (c+k) f)
  (H:∀f∈l,∀z p,zs[f]?=Kg z->ds[f]?=Kg p->bx v (Sum.inr z)=Kg (wvP p<|j.getD f 0)/\p.lo<=j.getD f 0/\j.getD f 0<=p.hi)(h:SpO zs ds c l v b o):AkC zs ds g c L nm b j o:=by
 let(O,r):=uE ok C mem;let n:∀f∈l,∀z,zs[f]?=Kg z->bx b (Sum.inr z)=bx v (Sum.inr z)->OkF zs ds c b j z:=λf F z e G M p N a B=>by
  let:=cH ok.nd a e;subst this;rw[G];exact H M F z p e B
 rcases h with⟨rfl,h⟩|⟨K,y,J,I⟩
 .refine .told k u t λi z hi e=>?_
  let(f,d,a):=r i z e;exact n f (GG d) z a<|h f (GG d) z a
 .let(m,w):=gT y;let E:=(GD.mp w).1;let(z,e):∃z,(nlF g zs c k)[m]?=Kg z:=⟨_,GC (by unfold nlF;lia)⟩;let(f,d,a):=r m z e;rw[w]at d;cases d;let D:∀(i:Nat)(z:Str),i<m->(nlF g zs c k)[i]?=Kg z->OkF zs ds c b j z:=λi z hi A=>by
   let(f,d,q):=r i z A;let x:f<K:=by
    let p:=List.pairwise_iff_getElem.mp C i m (GD.mp d).1 E hi;rw[(GD.mp d).2,(GD.mp w).2]at p;exact p
   exact n f (GG d) z q<|J f (GG d) x z q
  rcases I z a with⟨rfl,s⟩|⟨rfl,s⟩
  .exact .miss k m z u t e D s
  .exact .out k m z u t e D s
theorem za(a:La Nat):(vN a).all bM=true:=by
 unfold vN;rw[iv];intro x c;let(b,_,rfl):=eH.mp c;rfl
theorem zc(kvs:La (Str×V)):(kvT kvs).length=kvs.length:=by unfold kvT;calc dn _
theorem zd{K:W.Frag}{H:Hp}{n:Nat}(i:Str):DEq K H n (.str i) (.str i) true:=by
 let:=DEq.flat (K:=K) (H:=H) (n:=n) (x:=.str i) (y:=.str i) U U;rw[show eqV (.str i) (.str i)=Ki by simp[eqV]]at this;calc this
theorem Bp{K:W.Frag}{H:Hp}{n:Nat}{r d:Ak}{a:Str}{b:Int}(g:H r=Kg (.tup [.str a,.int b]))(f:H d=Kg (.tup [.str a,.int b])):DEq K H (n+1) (.ref r) (.ref d) true:=by
 refine yS (SqT.of g) (SqT.of f) U λj x y c e=>?_
 rw[c]at e;cases e
 match j,c with
 |0,c=>cases c;exact zd _
 |1,c=>cases c;exact yT _
 |j+2,c=>simp at c
theorem ze{zs:La Str}{ds:La PD}{b:La PT}{a:Nat}(ok:eQ zs ds b a):∀{k:Nat},k<b.length->∃f,FN b a (a+k) f:=by
 intro k;induction k using Nat.strongRecOn with
 |_ k o =>
  intro p;let e:=GC p;generalize b[k]=t at e;let h:=(ok.tabs k t e).ok;let q:=h.some_;let r:=GC (l:=t.cols) (i:=0) (by show 0<t.cols.length;exact q);let d:=GG r;generalize t.cols[0]=c at d;let s:=h.lt c d;let n:∀f,FN b a (a+k) f↔∃j∈t.cols,FN b a j f:=λf=>xO ∅ (by rw[show a+k-a=k by lia];exact e)
  by_cases g:c<a
  .exact⟨c,(n c).mpr ⟨c,d,.inl ⟨g,U⟩⟩⟩
  .let(f,m):=o (c-a) ∅ ∅;rw[show a+(c-a)=c by lia]at m;calc⟨f,(n f).mpr ⟨c,d,m⟩⟩
inductive gH(K:W.Frag)(Y:AD)(vs:La V)(H:Hp)(Q:VK)(e_:XK):Prop
 |mk (z g:Str)(_:vs=[.str z,.str g])(_:Q (.bl<|mz z g) H)
inductive fM(K:W.Frag)(Y:AD)(vs:La V)(H:Hp)(Q:VK)(e_:XK):Prop
 |mk (v:V)(_:vs=[v])(_:Pl v)(_:Q (.bl<|isI v) H)
inductive m8(K:W.Frag)(Y:AD)(vs:La V)(H:Hp)(Q:VK)(e_:XK):Prop
 |mk (a b:Ak)(k:Dk)(_:vs=[.ref a,.ref b])(_:iE Y.m Y.n H a k)(_:iE Y.m Y.n H b k)(_:Q (.bl Ki) H)
inductive cL(K:W.Frag)(Y:AD)(vs:La V)(H:Hp)(Q:VK)(e_:XK):Prop
 |mk (fa ma:Ak)(fv mv:La V)(_:vs=[.ref fa,.ref ma])(_:H fa=Kg (.lst fv))(_:H ma=Kg (.lst mv))(_:fv.length<=20)(_:mv.length<=30)(_:Q .non H)
inductive d7(K:W.Frag)(Y:AD)(vs:La V)(H:Hp)(Q:VK)(e_:XK):Prop
 |mk (t na ou:Ak)(nm wy:Str)(zs ns:La Str)(dv:La V)(Km:La Rw)(_:vs=[.ref t,.ref na])(_:TF Y.o H t nm wy ou zs dv Km)(_:H na=Kg (.lst<|ns.map V.str))(_:zs.length<=100)(_:∀(l:Ak)(H':Hp),ao H H'->H l=Kh->H' l=Kg (.lst<|(zs.filter λz=>ns.contains z).map V.str)->Q (.ref l) H')
inductive fO(K:W.Frag)(Y:AD)(vs:La V)(H:Hp)(Q:VK)(E:XK):Prop
 |mk (b:Ak)(nm:Str)(zs:La Str)(ds:La PD)(ts:La PT)(fN:Nat)(mv:La V)(L:La Nat)(_:vs=[.ref b,.str nm])(_:BkT Y.o Y.m Y.n Y.p H b zs ds ts fN mv L)(_:SmB nm)(_:(∀(a:Ak)(k i:Nat),mv[i]?=Kg (.ref a)->L[i]?=Kg k->k∈L->tnm zs fN k=nm->TbA Y.o Y.m Y.n H zs ds ts fN a k->Q (.ref a) H))(_:((∀k∈L,tnm zs fN k≠nm)->E (.ref Y.b) Kh H))
inductive m9(K:W.Frag)(Y:AD)(vs:La V)(H:Hp)(Q:VK)(e_:XK):Prop
 |mk (a:Ak)(xs:La V)(ps:La (Int×Int))(n:Int)(_:vs=[.ref a,.int n])(_:SqL K H a xs)(_:PL H xs ps)(_:Q (.bl<|inP ps n) H)
inductive cD(K:W.Frag)(Y:AD)(vs:La V)(H:Hp)(Q:VK)(e_:XK):Prop
 |mk (p r:Ak)(xs ys:La V)(_:vs=[.ref p,.ref r])(_:SqL K H p xs)(_:SqL K H r ys)(_:1<=xs.length)(_:xs.length<=4)(_:ys.length<=200)(_:Q .non H)
inductive jL(K:W.Frag)(Y:AD)(vs:La V)(H:Hp)(Q:VK)(e_:XK):Prop
 |mk (cl:Ak)(xs:La V)(w:Rw)(_:vs=[.ref cl,.int w.2])(_:H cl=Kg (.lst xs))(_:CL NT H xs w.1)(_:w.1.length<=100)(_:∀(r:Ak)(H':Hp),ao H H'->H r=Kh->gi (λa=>H a=Kh) H' r w->Q (.ref r) H')
inductive i4(K:W.Frag)(Y:AD)(vs:La V)(H:Hp)(Q:VK)(e_:XK):Prop
 |mk (a:Ak)(ns:La Int)(k:Int)(_:vs=[.ref a,.int k])(_:SqL K H a (ns.map V.int))(_:0<=k)(_:∀r:Int,Q (.int r) H)
inductive fe(K:W.Frag)(Y:AD)(vs:La V)(H:Hp)(Q:VK)(e_:XK):Prop
 |mk (c:Int)(n:Nat)(_:vs=[.int c,.int (n:Int)])(_:n<=40)(_:∀(l:Ak)(H':Hp),ao H H'->H l=Kh->H' l=Kg (.lst<|(lws c n).map V.str)->Q (.ref l) H')
inductive iG(K:W.Frag)(Y:AD)(vs:La V)(H:Hp)(Q:VK)(e_:XK):Prop
 |mk (r:Ak)(p:PD)(c:Int)(n:Nat)(_:vs=[.ref r,.int c,.int (n:Int)])(_:PDA NT H r p)(_:nK p)(_:n<=3)(_:∀(l:Ak)(xs:La Int)(H':Hp),ao H H'->H l=Kh->H' l=Kg (.lst<|xs.map V.int)->xs.length=n->(∀x∈xs,p.lo<=x/\x<=p.hi)->Q (.ref l) H')
inductive gI(K:W.Frag)(Y:AD)(vs:La V)(H:Hp)(Q:VK)(e_:XK):Prop
 |mk (kd one two:Int)(r:Ak)(p:PD)(_:vs=[.int kd,.int one,.int two,.ref r])(_:PDA NT H r p)(_:p.lo<=one)(_:one<=two)(_:two<=p.hi)(_:∀(l:Ak)(ps:Prs)(H':Hp),ao H H'->SpA (λa=>H a=Kh) H' l ps->(∀x∈ps,p.lo<=x.1/\x.1<=x.2/\x.2<=p.hi)->ps.length<=2->(∀x∈ps,(x.1=p.lo\/x.1=one\/x.1=two\/x.1=two+1)/\(x.2=p.hi\/x.2=one\/x.2=two\/x.2=one-1))->Q (.ref l) H')
inductive fu(K:W.Frag)(Y:AD)(vs:La V)(H:Hp)(Q:VK)(e_:XK):Prop
 |mk (a:Ak)(ns:La Int)(m:Nat)(_:vs=[.ref a,.int (m:Int)])(_:SqL K H a (ns.map V.int))(_:ns.length<=63)(_:1<=m)(_:m<=100)(_:∀(l:Ak)(ms:La Int)(H':Hp),ao H H'->H l=Kh->H' l=Kg (.lst<|ms.map V.int)->ms.length<=m->Q (.ref l) H')
inductive gJ(K:W.Frag)(Y:AD)(vs:La V)(H:Hp)(Q:VK)(e_:XK):Prop
 |mk (r:Ak)(cell:Int)(zs:La Str)(ds:La PD)(ts:La PT)(fN:Nat)(_:vs=[.ref r,.int cell])(_:PlA H r zs ds ts)(_:eQ zs ds ts fN)(_:(∀t∈ts,t.rows.length<=32))(_:ts.length<=4)(_:∀(l:Ak)(cd:La Int)(H':Hp),ao H H'->H l=Kh->H' l=Kg (.lst<|cd.map V.int)->cd.length=fN->(∀(f:Nat)(p:PD),f<fN->ds[f]?=Kg p->p.lo<=cd.getD f 0/\cd.getD f 0<=p.hi)->Q (.ref l) H')
inductive gK(K:W.Frag)(Y:AD)(vs:La V)(H:Hp)(Q:VK)(e_:XK):Prop
 |mk (r:Ak)(p:PD)(c:Int)(_:vs=[.ref r,.int c])(_:PDA NT H r p)(_:nK p)(_:p.lo<=c)(_:c<=p.hi)(_:Q (wvP p c) H)
inductive d8(K:W.Frag)(Y:AD)(vs:La V)(H:Hp)(Q:VK)(e_:XK):Prop
 |mk (r:Ak)(p:PD)(c:Int)(_:vs=[.ref r,.int c])(_:PDA NT H r p)(_:nK p)(_:∀(v:V)(H':Hp),ao H H'->Shw v->vO p v->bM v=Ki->Q v H')
inductive bZ(K:W.Frag)(Y:AD)(vs:La V)(H:Hp)(Q:VK)(e_:XK):Prop
 |mk (x dx:Ak)(lo hi:Int)(_:vs=[.ref x,.int lo,.int hi])(_:H x=Kg (.ins Y.m dx []))(_:Q .non (mkd Y.m H x dx lo hi))
inductive cm(K:W.Frag)(Y:AD)(vs:La V)(H:Hp)(Q:VK)(e_:XK):Prop
 |mk (x dx:Ak)(lo hi:Int)(_:vs=[.ref x,.int lo,.int hi])(_:H x=Kg (.ins Y.n dx []))(_:Q .non (mkd Y.n H x dx lo hi))
inductive bO(K:W.Frag)(Y:AD)(vs:La V)(H:Hp)(Q:VK)(e_:XK):Prop
 |mk (a:Ak)(v:V)(_:vs=[.ref a,v])(_:Q v H)
inductive b9(K:W.Frag)(Y:AD)(vs:La V)(H:Hp)(Q:VK)(e_:XK):Prop
 |mk (a:Ak)(zs:La Str)(z:Str)(j:Nat)(_:vs=[.ref a,.str z])(_:tG Y.n H a zs)(_:zs.Nodup)(_:zs[j]?=Kg z)(_:Q (.int (j:Int)) H)
inductive dc(K:W.Frag)(Y:AD)(vs:La V)(H:Hp)(Q:VK)(e_:XK):Prop
 |mk (a:Ak)(zs:La Str)(v:V)(_:vs=[.ref a,v])(_:tG Y.n H a zs)(_:Pl v)(_:Q (.bl<|inW zs v) H)
inductive cR(K:W.Frag)(Y:AD)(vs:La V)(H:Hp)(Q:VK)(e_:XK):Prop
 |mk (x dx:Ak)(z:Str)(_:vs=[.ref x,.str z])(_:H x=Kg (.ins Y.f dx []))(_:Q .non (upd H x<|.ins Y.f dx [("called",.str z)]))
inductive de(K:W.Frag)(Y:AD)(vs:La V)(H:Hp)(Q:VK)(e_:XK):Prop
 |mk (x dx:Ak)(z:Str)(_:vs=[.ref x,.str z])(_:H x=Kg (.ins Y.g dx []))(_:Q .non (upd H x<|.ins Y.g dx [("called",.str z)]))
inductive df(K:W.Frag)(Y:AD)(vs:La V)(H:Hp)(Q:VK)(e_:XK):Prop
 |mk (x dx:Ak)(z:Str)(_:vs=[.ref x,.str z])(_:H x=Kg (.ins Y.h dx []))(_:Q .non (upd H x<|.ins Y.h dx [("called",.str z)]))
inductive dB(K:W.Frag)(Y:AD)(vs:La V)(H:Hp)(Q:VK)(e_:XK):Prop
 |mk (x dx:Ak)(z:Str)(_:vs=[.ref x,.str z])(_:H x=Kg (.ins Y.i dx []))(_:Q .non (upd H x<|.ins Y.i dx [("called",.str z)]))
inductive dg(K:W.Frag)(Y:AD)(vs:La V)(H:Hp)(Q:VK)(e_:XK):Prop
 |mk (x dx:Ak)(z:Str)(_:vs=[.ref x,.str z])(_:H x=Kg (.ins Y.j dx []))(_:Q .non (upd H x<|.ins Y.j dx [("called",.str z)]))
inductive dC(K:W.Frag)(Y:AD)(vs:La V)(H:Hp)(Q:VK)(e_:XK):Prop
 |mk (x dx:Ak)(z:Str)(_:vs=[.ref x,.str z])(_:H x=Kg (.ins Y.k dx []))(_:Q .non (upd H x<|.ins Y.k dx [("called",.str z)]))
def J1(K:W.Frag)(Y:AD):Sp:=vE K Y.f Y.m Y.n 0
def J9(K:W.Frag)(Y:AD):Sp:=vE K Y.g Y.m Y.n 1
def J5(K:W.Frag)(Y:AD):Sp:=vE K Y.h Y.m Y.n 2
def J7(K:W.Frag)(Y:AD):Sp:=vE K Y.i Y.m Y.n 3
def J3(K:W.Frag)(Y:AD):Sp:=vE K Y.j Y.m Y.n 4
def J11(K:W.Frag)(Y:AD):Sp:=vE K Y.k Y.m Y.n 5
inductive fw(K:W.Frag)(Y:AD)(vs:La V)(H:Hp)(Q:VK)(e_:XK):Prop
 |mk (z:Str)(_:vs=[.str z])(_:z.length<=1000)(_:Q (.bl<|isw z) H)
inductive d9(K:W.Frag)(Y:AD)(vs:La V)(H:Hp)(Q:VK)(e_:XK):Prop
 |mk (fa ma:Ak)(fv mv:La V)(zs:La Str)(ds:La PD)(ts:La PT)(fN:Nat)(L:La Nat)(_:vs=[.ref fa,.ref ma])(_:H fa=Kg (.lst fv))(_:H ma=Kg (.lst mv))(_:BkI Y.o Y.m Y.n H zs ds ts fN fv mv L)(_:∀H',ao H H'->Q .non H')
inductive eR(K:W.Frag)(Y:AD)(vs:La V)(H:Hp)(Q:VK)(e_:XK):Prop
 |mk (ma:Ak)(mv:La V)(zs:La Str)(ds:La PD)(ts:La PT)(fN:Nat)(L:La Nat)(_:vs=[.ref ma])(_:H ma=Kg (.lst mv))(_:eQ zs ds ts fN)(_:ay mv L (TbA Y.o Y.m Y.n H zs ds ts fN))(_:(∀k∈L,k<ts.length))(_:L.length<=7)(_:∀H',ao H H'->Q .non H')
inductive pS(K:W.Frag)(Y:AD)(vs:La V)(H:Hp)(Q:VK)(E:XK):Prop
 |mk (b:Ak)(nm:Str)(zs:La Str)(ds:La PD)(ts:La PT)(fN:Nat)(mv:La V)(L:La Nat)(_:vs=[.ref b,.str nm])(_:BkT Y.o Y.m Y.n Y.p H b zs ds ts fN mv L)(_:SmB nm)(_:(∀(k:Nat)(t:PT)(l:Ak)(H':Hp),k∈L->tnm zs fN k=nm->ts[k]?=Kg t->ao H H'->H l=Kh->H' l=Kg (.lst<|((prm t.cols zs).filter λz=>(L.map<|tnm zs fN).contains z).map V.str)->Q (.ref l) H'))(_:((∀k∈L,tnm zs fN k≠nm)->E (.ref Y.b) Kh H))
inductive pT(K:W.Frag)(Y:AD)(vs:La V)(H:Hp)(Q:VK)(e_:XK):Prop
 |mk (t rl c dx:Ak)(fs:La (Str×V))(xs:La V)(Km:La Rw)(k:Nat)(w:Rw)(cs:La Int)(_:vs=[.ref t,.int k,.ref c])(_:H t=Kg (.ins Y.o dx fs))(_:fs.lookup s!"rows"=Kg (.ref rl)) (_:H rl=Kg (.lst xs))(_:RL NT H xs Km)(_:Km[k]?=Kg w)(_:SqL K H c (cs.map V.int))(_:w.1.length=cs.length)(_:∀H',ao H H'->Q (.bl<|nJ w.1 cs) H')
inductive fU(K:W.Frag)(Y:AD)(vs:La V)(H:Hp)(Q:VK)(e_:XK):Prop
 |mk (c:Int)(_:vs=[.int c])(_:∀(r:Ak)(p:PD)(H':Hp),ao H H'->PDA (λa=>H a=Kh) H' r p->nK p->Q (.ref r) H')
inductive jM(K:W.Frag)(Y:AD)(vs:La V)(H:Hp)(Q:VK)(e_:XK):Prop
 |mk (cl dl pl:Ak)(ow:Nat)(n:Int)(cols:La Nat)(dv pvs:La V)(ds:La PD)(_:vs=[.ref cl,.ref dl,.ref pl,.int (ow:Int),.int n])(_:H cl=Kg (.lst<|vN cols))(_:H dl=Kg (.lst dv))(_:ay dv ds (PDA NT H))(_:H pl=Kg (.lst pvs))(_:ay pvs ds (PoB NT H))(_:(∀k∈cols,k<ds.length))(_:ow<ds.length)(_:cols.length<=10)(_:∀(r:Ak)(w:Rw)(H':Hp),ao H H'->gi (λa=>H a=Kh) H' r w->pN ds cols ow w->Q (.ref r) H')
inductive fV(K:W.Frag)(Y:AD)(vs:La V)(H:Hp)(Q:VK)(e_:XK):Prop
 |mk (r fd wa:Ak)(c:Int)(zs:La Str)(ds:La PD)(ts:La PT)(fN:Nat)(js:La Nat)(fk:La (Key×V))(_:vs=[.ref r,.ref fd,.ref wa,.int c])(_:PlA H r zs ds ts)(_:eQ zs ds ts fN)(_:H fd=Kg (.dK fk))(_:H wa=Kg (.lst<|vN js))(_:0<js.length)(_:(∀f∈js,f<fN))(_:fk.length<=100)(_:(∀f∈js,∀z,zs[f]?=Kg z->(bx fk<|Sum.inr z).isSome=Ki))(_:∀(o:Nat)(fk':La (Key×V))(l:Ak)(H':Hp),(∀b u,b≠fd->H b=Kg u->H' b=Kg u)->H' fd=Kg (.dK fk')->H' l=Kg (.lst<|(akB o).map V.bl)->SpO zs ds fN js fk fk' o->Q (.ref l) H')
inductive bT(K:W.Frag)(Y:AD)(vs:La V)(H:Hp)(Q:VK)(e_:XK):Prop
 |mk (x dx:Ak)(lo hi:Int)(_:vs=[.ref x,.int lo,.int hi])(_:H x=Kg (.ins Y.m dx []))(_:lo<=hi)(_:Q .non (mkd Y.m H x dx lo hi))
inductive bG(K:W.Frag)(Y:AD)(vs:La V)(H:Hp)(Q:VK)(e_:XK):Prop
 |mk (a:Ak)(b:Int×Int)(v:V)(_:vs=[.ref a,v])(_:A2 Y.m H a b.1 b.2)(_:Pl v)(_:Q (.bl<|inB b.1 b.2 v) H)
inductive dh(K:W.Frag)(Y:AD)(vs:La V)(H:Hp)(Q:VK)(E:XK):Prop
 |mk (a:Ak)(zs:La Str)(v:V)(_:vs=[.ref a,v])(_:tG Y.n H a zs)(_:Shw v)(_:zs.Nodup)(_:(∀(z:Str)(j:Nat),v=.str z->zs[j]?=Kg z->Q (.int j) H))(_:(inW zs v=Kj->E (.ref Y.d) Kh H))
def J0(K:W.Frag)(Y:AD):Sp:=vC Y.f s!"first"
def J8(K:W.Frag)(Y:AD):Sp:=vC Y.g s!"only"
def J4(K:W.Frag)(Y:AD):Sp:=vC Y.h s!"like"
def J6(K:W.Frag)(Y:AD):Sp:=vC Y.i s!"low"
def J2(K:W.Frag)(Y:AD):Sp:=vC Y.j s!"high"
def J10(K:W.Frag)(Y:AD):Sp:=vC Y.k s!"sum"
inductive cn(K:W.Frag)(Y:AD)(vs:La V)(H:Hp)(Q:VK)(e_:XK):Prop
 |mk (a:Ak)(b:Int×Int)(v:V)(_:vs=[.ref a,v])(_:A2 Y.n H a b.1 b.2)(_:Pl v)(_:Q (.bl<|inB b.1 b.2 v) H)
def J12(K:W.Frag)(Y:AD):Sp:=kA K Y.f Y.m Y.n 0
def J16(K:W.Frag)(Y:AD):Sp:=kA K Y.g Y.m Y.n 1
def J14(K:W.Frag)(Y:AD):Sp:=kA K Y.h Y.m Y.n 2
def J15(K:W.Frag)(Y:AD):Sp:=kA K Y.i Y.m Y.n 3
def J13(K:W.Frag)(Y:AD):Sp:=kA K Y.j Y.m Y.n 4
def J17(K:W.Frag)(Y:AD):Sp:=kA K Y.k Y.m Y.n 5
inductive cS(K:W.Frag)(Y:AD)(vs:La V)(H:Hp)(Q:VK)(e_:XK):Prop
 |mk (fa ma:Ak)(fv mv:La V)(zs:La Str)(ds:La PD)(ts:La PT)(fN:Nat)(L:La Nat)(_:vs=[.ref fa,.ref ma])(_:H fa=Kg (.lst fv))(_:H ma=Kg (.lst mv))(_:BkI Y.o Y.m Y.n H zs ds ts fN fv mv L)(_:∀H',ao H H'->Q .non H')
inductive cM(K:W.Frag)(Y:AD)(vs:La V)(H:Hp)(Q:VK)(e_:XK):Prop
 |mk (p:Ak)(zs:La Str)(_:vs=[.ref p])(_:SqL K H p (zs.map V.str))(_:(∀z∈zs,isw z=Ki))(_:zs.Nodup)(_:zs.length<=100)(_:∀H',ao H H'->Q .non H')
inductive fW(K:W.Frag)(Y:AD)(vs:La V)(H:Hp)(Q:VK)(e_:XK):Prop
 |mk (dl ou cl:Ak)(dv xs:La V)(bs:Prs)(o:Int×Int)(w:Rw)(_:vs=[.ref dl,.ref ou,.ref cl,.int w.2])(_:SqL K H dl dv)(_:ay dv bs (Dom Y.m Y.n H))(_:Dom Y.m Y.n H ou o)(_:H cl=Kg (.lst xs))(_:CL NT H xs w.1)(_:uo bs o w)(_:∀H',ao H H'->Q .non H')
inductive pU(K:W.Frag)(Y:AD)(vs:La V)(H:Hp)(Q:VK)(e_:XK):Prop
 |mk (t c:Ak)(Km:La Rw)(i:Nat)(o:Int×Int)(cs:La Int)(_:vs=[.ref t,.ref c])(_:Tbl Y.o Y.m Y.n H t Km i o)(_:SqL K H c (cs.map V.int))(_:(∀w∈Km,w.1.length=cs.length))(_:∀H',ao H H'->Q (.int ((msk (mT Km cs) Km.length:Nat):Int)) H')
inductive iH(K:W.Frag)(Y:AD)(vs:La V)(H:Hp)(Q:VK)(e_:XK):Prop
 |mk (a:Ak)(ns:La Int)(_:vs=[.ref a])(_:SqL K H a (ns.map V.int))(_:ns.length<=63)(_:∀(r:Ak)(zs:La Str)(ds:La PD)(ts:La PT)(fN:Nat)(H':Hp),ao H H'->PlA H' r zs ds ts->eQ zs ds ts fN->(∀p∈ds,p.pool.length<=3)->(∀t∈ts,t.rows.length<=32)->ts.length<=4->1<=fN->(∀z∈zs,∀y∈zs,z.length=y.length)->(∀z∈zs,SmB z)->Q (.ref r) H')
inductive cE(K:W.Frag)(Y:AD)(vs:La V)(H:Hp)(Q:VK)(e_:XK):Prop
 |mk (x dx p:Ak)(zs:La Str)(_:vs=[.ref x,.ref p])(_:H x=Kg (.ins Y.n dx []))(_:H p=Kg (.lst<|zs.map V.str))(_:Good zs)(_:∀(H':Hp)(l:Ak),(∀b o,b≠x->H b=Kg o->H' b=Kg o)->H' x=Kg (.ins Y.n dx [("low",.int 0),("high",.int<|hiW zs),("words",.ref l)])->H' l=Kg (.lst<|zs.map V.str)->H l=Kh->Q .non H')
inductive cq(K:W.Frag)(Y:AD)(vs:La V)(H:Hp)(Q:VK)(e_:XK):Prop
 |mk (a:Ak)(lo hi:Int)(v:V)(_:vs=[.ref a,v])(_:pK Y.m H a lo hi)(_:Pl v)(_:Q (.bl<|inB lo hi v) H)
inductive i5(K:W.Frag)(Y:AD)(vs:La V)(H:Hp)(Q:VK)(e_:XK):Prop
 |mk (z:Str)(_:vs=[.str z])(_:z∈six)(_:(∀i:Nat,six[i]?=Kg z->∀(x C:Ak)(H':Hp),ao H H'->(cl6 Y.f Y.g Y.h Y.i Y.j Y.k)[i]?=Kg C->WyN C H' x z->Q (.ref x) H'))
inductive cU(K:W.Frag)(Y:AD)(vs:La V)(H:Hp)(Q:VK)(e_:XK):Prop
 |mk (x dx fa ma:Ak)(fv mv:La V)(zs:La Str)(ds:La PD)(ts:La PT)(fN:Nat)(L:La Nat)(P:Nat->Ak->Prop)(_:vs=[.ref x,.ref fa,.ref ma])(_:H x=Kg (.ins Y.p dx []))(_:H fa=Kg (.lst fv))(_:H ma=Kg (.lst mv))(_:BkI Y.o Y.m Y.n H zs ds ts fN fv mv L)(_:ay fv (List.range fN) (FcT P H zs))(_:∀(H':Hp)(fs:La (Str×V))(ta fb:Ak)(gv:La V),(∀b o,b≠x->H b=Kg o->H' b=Kg o)->H' x=Kg (.ins Y.p dx fs)->fs.lookup s!"tables"=Kg (.ref ta)->H' ta=Kg (.lst mv)->fs.lookup s!"facts"=Kg (.ref fb)->H' fb=Kg (.lst gv)->ay gv (List.range fN) (FcT P H' zs)->Q .non H')
inductive cO(K:W.Frag)(Y:AD)(vs:La V)(H:Hp)(Q:VK)(E:XK):Prop
 |mk (a:Ak)(lo hi:Int)(v:V)(_:vs=[.ref a,v])(_:pK Y.m H a lo hi)(_:Shw v)(_:(inB lo hi v=Ki->Q v H))(_:(inB lo hi v=Kj->E (.ref Y.d) Kh H))
inductive fX(K:W.Frag)(Y:AD)(vs:La V)(H:Hp)(Q:VK)(e_:XK):Prop
 |mk (z:Str)(ou:Ak)(_:vs=[.str z,.ref ou])(_:z∈six)(_:(z=s!"sum" -> ∃dx fs,H ou=Kg (.ins Y.m dx fs))) (_:∀H',ao H H'->Q .non H')
inductive lu(K:W.Frag)(Y:AD)(vs:La V)(H:Hp)(Q:VK)(e_:XK):Prop
 |mk (t:Ak)(Km:La Rw)(i:Nat)(o:Int×Int)(m:Int)(_:vs=[.ref t,.int m])(_:Tbl Y.o Y.m Y.n H t Km i o)(_:∀(r:Ak)(H':Hp),ao H H'->SqT K H' r (tp<|ver (wf i o.1 o.2)<|pkF Km (iD m) Km.length)->Q (.ref r) H')
inductive fP(K:W.Frag)(Y:AD)(vs:La V)(H:Hp)(Q:VK)(e_:XK):Prop
 |mk (r:Ak)(p:PD)(_:vs=[.ref r])(_:PDA NT H r p)(_:nK p)(_:∀(a:Ak)(H':Hp),ao H H'->ia (λx=>H x=Kh) Y.m Y.n H' a p.k->Q (.ref a) H')
inductive fz(K:W.Frag)(Y:AD)(vs:La V)(H:Hp)(Q:VK)(e_:XK):Prop
 |mk (a l:Ak)(k:Nat)(zs:La Str)(ds:La PD)(ts:La PT)(fN:Nat)(xs:La V)(cvs:La SI)(t:PT)(p:PD)(nm:Str)(_:vs=[.ref a,.ref l])(_:TbA Y.o Y.m Y.n H zs ds ts fN a k)(_:ts[k]?=Kg t)(_:zs[fN+k]?=Kg nm)(_:ds[fN+k]?=Kg p)(_:Cz fN ds k t)(_:nK p)(_:SqL K H l xs)(_:ay xs cvs (λr v=>SqT K H r<|tp v))(_:cvs.length=t.cols.length)(_:∀(r:Ak)(H':Hp),ao H H'->StA (λx=>H x=Kh) K H' r nm t p cvs->Q (.ref r) H')
inductive gL(K:W.Frag)(Y:AD)(vs:La V)(H:Hp)(Q:VK)(e_:XK):Prop
 |mk (r:Ak)(zs:La Str)(ds:La PD)(ts:La PT)(fN:Nat)(_:vs=[.ref r])(_:PlA H r zs ds ts)(_:eQ zs ds ts fN)(_:∀(l:Ak)(fv:La V)(H':Hp),ao H H'->H' l=Kg (.lst fv)->ay fv (List.range fN) (FcA Y.m Y.n H' zs ds)->Q (.ref l) H')
inductive cF(K:W.Frag)(Y:AD)(vs:La V)(H:Hp)(Q:VK)(e_:XK):Prop
 |mk (x dx na dl ou rl:Ak)(nm wy:Str)(zs:La Str)(dv rx:La V)(bs:Prs)(o:Int×Int)(Km:La Rw)(_:vs=[.ref x,.str nm,.ref na,.ref dl,.ref ou,.str wy,.ref rl])(_:H x=Kg (.ins Y.o dx []))(_:H na=Kg (.lst<|zs.map V.str))(_:(∀z∈nm :: zs,isw z=Ki))(_:(nm :: zs).Nodup)(_:1<=zs.length)(_:zs.length<=4)(_:wy∈six)(_:(wy=s!"sum" -> ∃dx fs,H ou=Kg (.ins Y.m dx fs))) (_:H dl=Kg (.lst dv))(_:ay dv bs (Dom Y.m Y.n H))(_:Dom Y.m Y.n H ou o)(_:H rl=Kg (.lst rx))(_:RL NT H rx Km)(_:rx.length<=200)(_:bs.length<=4)(_:(∀w∈Km,uo bs o w))(_:∀(H':Hp)(fs:La (Str×V))(rl':Ak)(xs':La V),(∀b o,b≠x->H b=Kg o->H' b=Kg o)->H' x=Kg (.ins Y.o dx fs)->fs.lookup s!"rows"=Kg (.ref rl')->fs.lookup s!"way"=Kg (.str wy)->fs.lookup s!"outcome"=Kg (.ref ou)->fs.lookup s!"name"=Kg (.str nm)->(∃na' dl':Ak,H na'=Kh/\H dl'=Kh/\fs.lookup s!"names"=Kg (.ref na')/\fs.lookup s!"domains"=Kg (.ref dl')/\H' na'=Kg (.lst<|zs.map V.str)/\H' dl'=Kg (.lst dv))->H rl'=Kh->H' rl'=Kg (.lst xs')->RL (λa=>H a=Kh) H' xs' Km->Q .non H')
inductive kD(K:W.Frag)(Y:AD)(vs:La V)(H:Hp)(Q:VK)(e_:XK):Prop
 |mk (tl d:Ak)(tv:La V)(zs:La Str)(ds:La PD)(ts:La PT)(fN:Nat)(cd:La Int)(od:La Nat)(kvs:La (Str×V))(_:vs=[.ref tl,.ref d])(_:H d=Kg (.dK<|kvT kvs))(_:hide H d tl=Kg (.lst tv))(_:ay tv od (TbA Y.o Y.m Y.n (hide H d) zs ds ts fN))(_:eQ zs ds ts fN)(_:Tld ts.length od)(_:Bef (akT ts fN) od)(_:kvs.length<=7)(_:(kvs.map (·.1)).Nodup)(_:FCd zs fN cd kvs)(_:(∀j∈od,∀t:PT,ts[j]?=Kg t->∀c∈t.cols,c<fN->∀z:Str,zs[c]?=Kg z->z∈kvs.map (·.1)))(_:∀(l:Ak)(xs:La V)(H':Hp),ao (hide H d) H'->H' l=Kg (.lst xs)->ay xs od (StK NT K H' zs ds ts fN cd)->Q (.ref l) H')
inductive eU(K:W.Frag)(Y:AD)(vs:La V)(H:Hp)(Q:VK)(e_:XK):Prop
 |mk (tl_ fa ca:Ak)(tv:La V)(zs:La Str)(ds:La PD)(ts:La PT)(fN k:Nat)(cd:La Int)(js:La Nat)(_:vs=[.ref tl_,.ref fa,.ref ca])(_:H tl_=Kg (.lst tv))(_:ay tv (odr (akT ts fN) k []) (TbA Y.o Y.m Y.n H zs ds ts fN))(_:eQ zs ds ts fN)(_:k<ts.length)(_:H fa=Kg (.lst<|((zs.take fN).filter<|cI ts zs fN k).map V.str))(_:H ca=Kg (.lst<|(js.map λf=>cd.getD f 0).map V.int))(_:js.Pairwise (· < ·))(_:(∀f,f∈js↔FN ts fN (fN+k) f))(_:∀(d:Ak)(H':Hp),ao H H'->SqT K H' d (tp<|vd ts ds fN cd k)->Q (.ref d) H')
inductive gM(K:W.Frag)(Y:AD)(vs:La V)(H:Hp)(Q:VK)(e_:XK):Prop
 |mk (r:Ak)(k:Nat)(zs:La Str)(ds:La PD)(ts:La PT)(fN:Nat)(t:PT)(nm:Str)(po:PD)(_:vs=[.ref r,.int (k:Int)])(_:PlA H r zs ds ts)(_:eQ zs ds ts fN)(_:ts[k]?=Kg t)(_:zs[fN+k]?=Kg nm)(_:ds[fN+k]?=Kg po)(_:∀(x:Ak)(H':Hp),ao H H'->TbN (λa=>H a=Kh) Y.o Y.m Y.n H' zs ds ts fN x k->Q (.ref x) H')
inductive ee(K:W.Frag)(Y:AD)(n:Nat)(vs:La V)(H:Hp)(Q:VK)(e_:XK):Prop
 |mk (r:Ak)(k:Nat)(zs:La Str)(ds:La PD)(ts:La PT)(fN:Nat)(_:vs=[.ref r,.int (k:Int)])(_:PlA H r zs ds ts)(_:eQ zs ds ts fN)(_:k<zs.length)(_:k+1<=n)(_:∀(l:Ak)(js:La Nat)(H':Hp),ao H H'->H l=Kh->H' l=Kg (.lst<|vN js)->js.Pairwise (· < ·)->(∀f,f∈js↔FN ts fN k f)->Q (.ref l) H')
theorem pV{K:W.Frag}{Y:AD}{vs:La V}{H:Hp}{Q:VK}{E:XK}(h:ee K Y 0 vs H Q E):False:=by
 let(r,k,b,g,c,f,rfl,a,ok,e,d,q):=h;lia
inductive dF(K:W.Frag)(Y:AD)(n:Nat)(vs:La V)(H:Hp)(Q:VK)(E:XK):Prop
 |mk (b o:Ak)(nm:Str)(zs:La Str)(ds:La PD)(ts:La PT)(fN:Nat)(mv:La V)(L:La Nat)(told:La Nat)(k:Nat)(_:vs=[.ref b,.str nm,.ref o])(_:BkT Y.o Y.m Y.n Y.p (hide H o) b zs ds ts fN mv L)(_:(∀k,k<ts.length->k∈L))(_:H o=Kg (.lst<|(told.map<|tnm zs fN).map V.str))(_:Tld ts.length told)(_:SmB nm)(_:(∀z∈zs,SmB z))(_:k+1<=n)(_:((k<ts.length/\tnm zs fN k=nm/\k ∉ told/\∀H',ao (hide H o) (hide H' o)->H' o=Kg (.lst<|((odr (akT ts fN) k told).map<|tnm zs fN).map V.str)->Q .non H')\/((∀k∈L,tnm zs fN k≠nm)/\E (.ref Y.b) Kh H)))
theorem nM{K:W.Frag}{Y:AD}{vs:La V}{H:Hp}{Q:VK}{E:XK}(h:dF K Y 0 vs H Q E):False:=by
 let(b,o,f,d,q,e,p,g,L,told,k,rfl,n,r,l,a,i,c,m,j):=h;lia
inductive iI(K:W.Frag)(Y:AD)(vs:La V)(H:Hp)(Q:VK)(E:XK):Prop
 |mk (b:Ak)(nm:Str)(zs:La Str)(ds:La PD)(ts:La PT)(fN:Nat)(mv:La V)(L:La Nat)(k:Nat)(_:vs=[.ref b,.str nm])(_:BkT Y.o Y.m Y.n Y.p H b zs ds ts fN mv L)(_:(∀k,k<ts.length->k∈L))(_:SmB nm)(_:(∀z∈zs,SmB z))(_:k<=12)(_:((k<ts.length/\tnm zs fN k=nm/\∀(l:Ak)(H':Hp),ao H H'->H l=Kh->H' l=Kg (.lst<|((odr (akT ts fN) k []).map<|tnm zs fN).map V.str)->Q (.ref l) H')\/((∀k∈L,tnm zs fN k≠nm)/\∀H',ao H H'->E (.ref Y.b) Kh H')))
inductive dG(K:W.Frag)(Y:AD)(vs:La V)(H:Hp)(Q:VK)(E:XK):Prop
 |mk (b:Ak)(nm:Str)(zs:La Str)(ds:La PD)(ts:La PT)(fN:Nat)(mv:La V)(L:La Nat)(k:Nat)(_:vs=[.ref b,.str nm])(_:BkT Y.o Y.m Y.n Y.p H b zs ds ts fN mv L)(_:(∀k,k<ts.length->k∈L))(_:SmB nm)(_:(∀z∈zs,SmB z))(_:k<=12)(_:((k<ts.length/\tnm zs fN k=nm/\∀(l:Ak)(xs:La V)(H':Hp),ao H H'->H l=Kh->H' l=Kg (.lst xs)->ay xs (odr (akT ts fN) k []) (λr j=>∃i:Nat,mv[i]?=Kg (.ref r)/\L[i]?=Kg j)->Q (.ref l) H')\/((∀k∈L,tnm zs fN k≠nm)/\∀H',ao H H'->E (.ref Y.b) Kh H')))
inductive kE(K:W.Frag)(Y:AD)(vs:La V)(H:Hp)(Q:VK)(E:XK):Prop
 |mk (b:Ak)(nm:Str)(zs:La Str)(ds:La PD)(ts:La PT)(fN:Nat)(mv:La V)(L:La Nat)(k:Nat)(_:vs=[.ref b,.str nm])(_:BkT Y.o Y.m Y.n Y.p H b zs ds ts fN mv L)(_:(∀k,k<ts.length->k∈L))(_:SmB nm)(_:(∀z∈zs,SmB z))(_:k<=12)(_:((k<ts.length/\tnm zs fN k=nm/\∀(l:Ak)(H':Hp),ao H H'->H l=Kh->H' l=Kg (.lst<|((zs.take fN).filter<|cI ts zs fN k).map V.str)->Q (.ref l) H')\/((∀k∈L,tnm zs fN k≠nm)/\∀H',ao H H'->E (.ref Y.b) Kh H')))
inductive dH(K:W.Frag)(Y:AD)(vs:La V)(H:Hp)(Q:VK)(E:XK):Prop
 |mk (b fd:Ak)(nm:Str)(zs:La Str)(ds:La PD)(ts:La PT)(fN:Nat)(mv:La V)(L:La Nat)(k:Nat)(fk:La (Key×V))(cd:La Int)(_:vs=[.ref b,.str nm,.ref fd])(_:BkT Y.o Y.m Y.n Y.p H b zs ds ts fN mv L)(_:(∀k,k<ts.length->k∈L))(_:SmB nm)(_:(∀z∈zs,SmB z))(_:k<=12)(_:H fd=Kg (.dK fk))(_:(((∀k∈L,tnm zs fN k≠nm)/\∀H',ao H H'->E (.ref Y.b) Kh H')\/(k<ts.length/\tnm zs fN k=nm/\∃m:Nat,m<=(nlF ts zs fN k).length/\(∀(i:Nat)(z:Str),i<m->(nlF ts zs fN k)[i]?=Kg z->OkF zs ds fN fk cd z)/\((m=(nlF ts zs fN k).length/\∀(d:Ak)(kvs:La (Str×V))(H':Hp),ao H H'->H d=Kh->H' d=Kg (.dK<|kvT kvs)->kvs.map (·.1)=nlF ts zs fN k->FCd zs fN cd kvs->Q (.ref d) H')\/∃z:Str,(nlF ts zs fN k)[m]?=Kg z/\((bx fk (Sum.inr z)=Kh/\∀H',ao H H'->E (.ref Y.c) Kh H')\/(vP zs ds fN fk z/\∀H',ao H H'->E (.ref Y.d) Kh H'))))))
inductive gN(K:W.Frag)(Y:AD)(vs:La V)(H:Hp)(Q:VK)(E:XK):Prop
 |mk (b ca:Ak)(nm:Str)(zs:La Str)(ds:La PD)(ts:La PT)(fN:Nat)(mv:La V)(L:La Nat)(_:vs=[.ref b,.str nm,.ref ca])(_:BkT Y.o Y.m Y.n Y.p H b zs ds ts fN mv L)(_:(∀k,k<ts.length->k∈L))(_:SmB nm)(_:(∀z∈zs,SmB z))(_:(∀k∈L,tnm zs fN k≠nm))(_:∀H',ao H H'->E (.ref Y.b) Kh H')
inductive kF(K:W.Frag)(Y:AD)(vs:La V)(H:Hp)(Q:VK)(E:XK):Prop
 |mk (b fd:Ak)(nm:Str)(zs:La Str)(ds:La PD)(ts:La PT)(fN:Nat)(mv:La V)(L:La Nat)(k:Nat)(fk:La (Key×V))(cd:La Int)(_:vs=[.ref b,.str nm,.ref fd])(_:BkT Y.o Y.m Y.n Y.p H b zs ds ts fN mv L)(_:(∀k,k<ts.length->k∈L))(_:SmB nm)(_:(∀z∈zs,SmB z))(_:k<=12)(_:H fd=Kg (.dK fk))(_:(((∀k∈L,tnm zs fN k≠nm)/\∀H',ao H H'->E (.ref Y.b) Kh H')\/(k<ts.length/\tnm zs fN k=nm/\∃m:Nat,m<=(nlF ts zs fN k).length/\(∀(i:Nat)(z:Str),i<m->(nlF ts zs fN k)[i]?=Kg z->OkF zs ds fN fk cd z)/\((m=(nlF ts zs fN k).length/\∀(l:Ak)(xs:La V)(H':Hp),ao H H'->H' l=Kg (.lst xs)->ay xs (odr (akT ts fN) k []) (StK NT K H' zs ds ts fN cd)->Q (.ref l) H')\/∃z:Str,(nlF ts zs fN k)[m]?=Kg z/\((bx fk (Sum.inr z)=Kh/\∀H',ao H H'->E (.ref Y.c) Kh H')\/(vP zs ds fN fk z/\∀H',ao H H'->E (.ref Y.d) Kh H'))))))
inductive tK(K:W.Frag)(Y:AD)(vs:La V)(H:Hp)(Q:VK)(E:XK):Prop
 |mk (b fd:Ak)(nm:Str)(zs:La Str)(ds:La PD)(ts:La PT)(fN:Nat)(mv:La V)(L:La Nat)(k:Nat)(fk:La (Key×V))(cd:La Int)(_:vs=[.ref b,.str nm,.ref fd])(_:BkT Y.o Y.m Y.n Y.p H b zs ds ts fN mv L)(_:(∀k,k<ts.length->k∈L))(_:SmB nm)(_:(∀z∈zs,SmB z))(_:k<=12)(_:H fd=Kg (.dK fk))(_:(((∀k∈L,tnm zs fN k≠nm)/\∀H',ao H H'->E (.ref Y.b) Kh H')\/(k<ts.length/\tnm zs fN k=nm/\∃m:Nat,m<=(nlF ts zs fN k).length/\(∀(i:Nat)(z:Str),i<m->(nlF ts zs fN k)[i]?=Kg z->OkF zs ds fN fk cd z)/\((m=(nlF ts zs fN k).length/\∀(d:Ak)(H':Hp),ao H H'->SqT K H' d (tp<|vd ts ds fN cd k)->Q (.ref d) H')\/∃z:Str,(nlF ts zs fN k)[m]?=Kg z/\((bx fk (Sum.inr z)=Kh/\∀H',ao H H'->E (.ref Y.c) Kh H')\/(vP zs ds fN fk z/\∀H',ao H H'->E (.ref Y.d) Kh H'))))))
inductive fA(K:W.Frag)(Y:AD)(vs:La V)(H:Hp)(Q:VK)(e_:XK):Prop
 |mk (d:Int)(b fd:Ak)(nm:Str)(zs:La Str)(ds:La PD)(ts:La PT)(fN:Nat)(mv:La V)(L:La Nat)(fk:La (Key×V))(cd:La Int)(o:Nat)(_:vs=[.int d,.ref b,.str nm,.ref fd])(_:BkT Y.o Y.m Y.n Y.p H b zs ds ts fN mv L)(_:(∀k,k<ts.length->k∈L))(_:SmB nm)(_:(∀z∈zs,SmB z))(_:H fd=Kg (.dK fk))(_:AkC zs ds ts fN L nm fk cd o)(_:(d=0\/d=1\/d=2\/(d=3/\o=0)))(_:∀(l:Ak)(H':Hp),ao H H'->H' l=Kg (.lst<|(akB o).map V.bl)->Q (.ref l) H')
def J18(K:W.Frag):Sp:=λc H Q _=>∃(a:Ak)(b:La Int),c=[.ref a]/\SqL K H a (b.map V.int)/\b.length<=63/\∀d,Q (.bl Ki) d
section
variable{P:zM}{w:zJ}{K:W.Frag}{mg:Str->Option zz}{base:Az}{f:Ak}{fd:Hv}{Y:AD}
theorem D9(F:Fun K "all_among" "all_among" Y39 f fd) (bl:Bl K mg Y)  : aN P w K mg base CX0 1 f fd ["text","signs"] (gH K Y):=by
 refine F.okA Z39 λp A m s H r Q E t h=>?_
 let(z,g,rfl,q):=h
 refine⟨_,(az (bg GP.never U (AF<|pv 0) (aE (i:=2) Z39.nd U<|Or.inl U)
  (ah (aQ (aL o7 (pv 2) (pv 1) (by with_unfolding_all rfl))
  (ah<|aG cG)
  aJ)))
  (ah<|aG cG)),?_⟩
 show(let o:TS:=_;bA _ o _ _ _);intro _;refine⟨_,U,z,U,yr (λi a l=>(∃k:Option V,a=[Kg (.str z),Kg<|.str g,k])/\l=H/\(z.cps.toList.take i).all (sg g)=Ki) ⟨⟨_,U⟩,U,U⟩ (λi c a l e h=>?_)<|λa l h=>?_⟩
 .let((k,rfl),j,b):=h;rw[j];calc⟨_,U,_,U,_,_,U,U,_,U,?_⟩;refine cQ (λd=>?_)<|λd=>?_
  .let n:mz z g=false:=AZ e<|A1 d;rw[n]at q;exact q
  .exact⟨⟨_,U⟩,U,all_succ e (Cv d) b⟩
 .let((k,rfl),j,b):=h;rw[j];rw[xx b]at q;calc q
theorem Ea(F:Fun K "is_whole" "is_whole" Y46 f fd) (bl:Bl K mg Y)  : aN P w K mg base CX0 1 f fd ["value"] (fM K Y):=by
 refine F.okA Z46 λd A a s H e Q E g h=>?_
 let(v,rfl,c,q):=h;calc⟨_,(ah<|aG<|kL (aw dP U bl.isinstance_ PyProof.Rows.boot_isinstance<|aa (pv 0)<|aa (lS (v:=.ty "int") U bl.int_ PyProof.Rows.boot_int U) af)<|l6<|Af<|aw dP U bl.isinstance_ PyProof.Rows.boot_isinstance<|aa (pv 0)<|aa (lS (v:=.ty "bool") U bl.bool_ PyProof.Rows.boot_bool U) af),?_⟩;cases v with
 |non=>exact⟨_,U,_,_,_,_,Kj,U,.ty _,.inl<|.non,(by first|rfl|with_unfolding_all rfl|decide+kernel),_,U,bR q⟩
 |bl b=>exact⟨_,U,_,_,_,_,Ki,U,.ty _,.inl<|.bl _,(by first|rfl|with_unfolding_all rfl|decide+kernel),_,U,dS ⟨_,U,_,_,_,_,Ki,U,.ty _,.inl<|.bl _,(by first|rfl|with_unfolding_all rfl|decide+kernel),_,U,q⟩⟩
 |int i=>exact⟨_,U,_,_,_,_,Ki,U,.ty _,.inl<|.int _,(by first|rfl|with_unfolding_all rfl|decide+kernel),_,U,dS ⟨_,U,_,_,_,_,Kj,U,.ty _,.inl<|.int _,(by first|rfl|with_unfolding_all rfl|decide+kernel),_,U,q⟩⟩
 |str z=>exact⟨_,U,_,_,_,_,Kj,U,.ty _,.inl<|.str _,(by first|rfl|with_unfolding_all rfl|decide+kernel),_,U,bR q⟩
 |_=>calc c.elim
theorem Eb(F:Fun K "alike" "alike" Y38 f fd) (bl:Bl K mg Y)  : aN P w K mg base CX0 1 f fd ["one","other"] (m8 K Y):=by
 refine F.okA Z38 λB A g s H C Q E u h=>?_
 let(a,b,k,rfl,j,i,q):=h
 refine⟨_,(az (aQ (PW.pt<|jz (dJ<|aw dP U bl.isinstance_ PyProof.Rows.boot_isinstance<|aa (pv 0)<|aa (cc (v:=.ref Y.m) U bl.Numbers_ U) af)<|gB<|dJ<|aw dP U bl.isinstance_ PyProof.Rows.boot_isinstance<|aa (pv 1)<|aa (cc (v:=.ref Y.m) U bl.Numbers_ U) af)
  (ah<|aG<|kL (kj cV (aY (pv 0) U) (aY (pv 1) U)<|aP _)<|l6<|kj cV (aY (pv 0) U) (aY (pv 1) U)<|aP _)
  aJ)
  (az (aQ (PW.pt<|jz (dJ<|aw dP U bl.isinstance_ PyProof.Rows.boot_isinstance<|aa (pv 0)<|aa (cc (v:=.ref Y.n) U bl.Words_ U) af)<|gB<|dJ<|aw dP U bl.isinstance_ PyProof.Rows.boot_isinstance<|aa (pv 1)<|aa (cc (v:=.ref Y.n) U bl.Words_ U) af)
  (ah<|aG<|kj (AE u) (aY (pv 0) U) (aY (pv 1) U)<|aP _)
  aJ)
  (ah<|aG cG))),?_⟩
 show(let p:TS:=_;let r:TS:=bA _ p;bA _ r _ _ _);intro _ _;let(w,lo,hi):=k;cases w with
 |none =>
  let(z,e):=j;let(d,c):=i;calc⟨_,U,_,_,_,_,Ki,U,.ref _,bl.t_Numbers.ty e,bl.f_nn,_,U,dS ?_⟩;calc⟨_,U,_,_,_,_,Ki,U,.ref _,bl.t_Numbers.ty c,bl.f_nn,_,U,dS ?_⟩;calc⟨_,U,a,_,_,_,_,U,e,bl.k_Numbers,bl.na_Numbers_low,U,_,U,b,_,_,_,_,U,c,bl.k_Numbers,bl.na_Numbers_low,U,U,_,U,dZ U ?_⟩;calc⟨_,U,a,_,_,_,_,U,e,bl.k_Numbers,bl.na_Numbers_high,U,_,U,b,_,_,_,_,U,c,bl.k_Numbers,bl.na_Numbers_high,U,U,?_⟩;rw[Kq U];exact q
 |some o =>
  let((z,l,e,f),_):=j;let((d,D,c,y),_):=i;calc⟨_,U,_,_,_,_,Kj,U,.ref _,bl.t_Words.ty e,bl.f_wn,_,U,bR<|bR ?_⟩;calc⟨_,U,_,_,_,_,Ki,U,.ref _,bl.t_Words.ty e,bl.f_ww,_,U,dS ?_⟩;calc⟨_,U,_,_,_,_,Ki,U,.ref _,bl.t_Words.ty c,bl.f_ww,_,U,dS ?_⟩;calc⟨_,U,a,_,_,_,_,U,e,bl.k_Words,bl.na_Words_words,U,_,U,b,_,_,_,_,U,c,bl.k_Words,bl.na_Words_words,U,?_⟩;calc vm (SqL.of f) (SqL.of y) (λx t=>.inl<|iv.mp (eL o) x t) q
theorem Ec(F:Fun K "refuse_counts" "refuse_counts" Y75 f fd) (bl:Bl K mg Y)  : aN P w K mg base CX0 1 f fd ["facts","tables"] (cL K Y):=by
 refine F.okA Z75 λi A a s H j Q E l h=>?_
 let(d,c,o,k,rfl,g,e,n,m,q):=h
 refine⟨_,(az (aQ (aL iu (aw av U bl.len_ Kf<|aa (pv 0) af) (my U bl.MOST_FACTS_)<|aP _)
  (ah bz)
  aJ)
  (ah (aQ (aL iu (aw av U bl.len_ Kf<|aa (pv 1) af) (my U bl.MOST_TABLES_)<|aP _)
  (ah bz)
  aJ))),?_⟩
 show(let b:TS:=_;bA _ b _ _ _);intro _;calc⟨_,U,d,_,U,.inl<|SqL.of g,_,_,U,U,_,U,cg ∅ ?_⟩;calc⟨_,U,c,_,U,.inl<|SqL.of e,_,_,U,U,_,U,cg ∅ q⟩
theorem Ed(F:Fun K "named_among" "named_among" Y70 f fd) (bl:Bl K mg Y)  : aN P w K mg base CX0 1 f fd ["table","names"] (d7 K Y):=by
 refine F.okA Z70 λJ A p s H M Q E W h=>?_
 let(t,r,R,S,L,zs,a,dv,B,rfl,(O,dx,m,dl,fs,xs,u,f1,f2,f3,f4,v,Z,k,I,G,X,T),o,Ee,q):=h;refine⟨_,(ah<|aG<|bK (aO<|aY (pv 0) U) (aW (N:=["name","names"]) (fr:=[1]) (cl:=[("names",s.heap.objs.size+1)]) U U (~~~0) (~~~0) U (~~~0) U U U (fZ.mpr ⟨U,gZ _⟩) U) U (λ_ _ _ _=>(fI<|aL (mM (K:=K) U) (pv 0) (pv 1) (by with_unfolding_all rfl))) (λ_ _ _ _=>(pv 0))),?_⟩;let n:(zs.map V.str).length=zs.length:=dn _;refine⟨_,U,t,_,_,_,_,U,u,bl.k_Table,bl.na_Table_names,v,m,U,⟨_,SqL.of k⟩,bj (xs:=zs.map V.str) (λD i d c=>ao H c/\c D=Kg (.lst d)/\d=((zs.take i).filter λz=>a.contains z).map V.str) (λD b=>⟨ag b _,ae,U⟩) (λD i d c b _ h=>SqL.of<|h.1 _ _ k) (λD i y d c b e h=>?_)<|λD d c b h=>?_⟩
 .let(g,j,rfl):=h;let(z,rfl,x):=dD e;let hi:i<(zs.map V.str).length:=(GD.mp e).1;let C:((zs.take i).filter λz=>a.contains z).length<=i:=tT (iK ..) (by rw[eV];lia);calc⟨_,U,_,U,r,_,U,.inl<|SqL.of<|g _ _ o,U,eL a,_,U,?_⟩;rw[show(if Kj=Ki then !inV (V.str z) (a.map V.str)else inV (V.str z) (a.map V.str))=a.contains z by rw[Kn Bool.false_ne_true,kC]];let l:((zs.take<|i+1).filter λz=>a.contains z)=((zs.take i).filter λz=>a.contains z)++(if a.contains z then[z] else[]):=by
   rw[take_snoc x,jy]
   congr 1
   cases h:a.contains z with
   |true=>rw[nF h,jS];rfl
   |false=>rw[nL (by rw[h];exact Bool.false_ne_true),jS];rfl
  cases hc:a.contains z with
  |true =>
   rw[hc]at l;refine dS ⟨_,U,b7.mk hi j (aD (by rw[dn];lia)) ⟨g.upd b,ae,?_⟩⟩;rw[l,dz];rfl
  |false =>
   rw[hc]at l;calc bR<|eX.mk (zs:=((zs.take i).filter λz=>a.contains z).map V.str) hi ⟨g,j,?_⟩;rw[l];simp
 .let(g,j,rfl):=h;rw[n,fD]at j;calc q D c g b j
theorem Ef(F:Fun K "table_of" "table_of" Y84 f fd) (bl:Bl K mg Y)  : aN P w K mg base (CX1 P w) 1 f fd ["book","name"] (fO K Y):=by
 refine F.okEA Z84 λa5 A v s H vs Q E R h=>?_
 let(b,g,I,ds,ts,Z,B,L,rfl,n,C,q,N):=h
 refine⟨_,(az (bg (iY U U U) U (aO<|aY (pv 0) U) (aE (i:=2) Z84.nd U<|Or.inl U)
  (ah (aQ (aL cV (aY (pv 2) U) (pv 1)<|aP _)
  (ah<|aG<|pv 2)
  aJ)))
  (ah<|iZ bl.x_NoTable R.hd U bl.NoTable_<|aa (AQ<|pv 1) af)),?_⟩
 show(let M:TS:=_;bA _ M _ _ _);intro _;let(dx,fs,J,fb,gv,T,X,c,_):=n.bk;let u:B.length=L.length:=n.tabs.1;refine⟨_,U,b,_,_,_,_,U,T,bl.k_Book,bl.na_Book_tables,X,J,U,⟨_,SqL.of c⟩,bD (xs:=B) (λi d m=>m=H/\(∀k∈L.take i,tnm I Z k≠g)/\∃r:Option V,d=[Kg (.ref b),Kg<|.str g,r]) ⟨U,λk S=>by simp at S,_,U⟩ (λi d m _ h=>by rw[h.1];exact SqL.of c) (λi y d m e h=>?_) (λd m h=>?_)⟩
 .let(p,l,r,rfl):=h;rw[p];let(x,k,rfl,o,D):=ay.get n.tabs e;let(tt,t,po,ou,dv,g1,G,g3,W,g5,g6):=id D;let(rl,a4,na,dl,a0,xs,O,f1,f2,f3,f4,f5,f6,a2,a3,a1,hR,jN):=W;calc⟨_,U,x,_,_,_,_,U,O,bl.k_Table,bl.na_Table_name,f2,_,U,U,_,U,?_⟩;by_cases h:t=g
  .exact dZ (by rw[h]) ⟨_,U,q x k i e o (GG o) (by rw[dN G,h]) D⟩
  .refine cg (λz=>by injection z with z;exact h z) ⟨U,λj a=>?_,_,U⟩;rw[take_snoc o]at a;rcases gs.mp a with a|a
   .exact l j a
   .rw[gu.mp a,dN G];exact h
 .let(p,l,r,rfl):=h;rw[p];rw[u,fD]at l;calc⟨(~~~0),_,U,g,U,C.1,C.2,(~~~0),λ_=>⟨(by show 1<=AA;decide),N l⟩⟩
theorem Eg(F:Fun K "holds" "holds" Y45 f fd) (bl:Bl K mg Y)  : aN P w K mg base CX0 1 f fd ["spans","number"] (m9 K Y):=by
 refine F.okA Z45 λG A v s H I Q E J h=>?_
 let(a,xs,k,n,rfl,y,B,q):=h
 refine⟨_,(az (bg GP.never U (aO<|pv 0) (dQ U<|aM (aE (i:=2) Z45.nd U<|Or.inl U)<|aM (aE (i:=3) Z45.nd U<|Or.inl U) bS)
  (ah (aQ (md fG fG (pv 2) (pv 1)<|pv 3)
  (ah<|aG cG)
  aJ)))
  (ah<|aG cG)),?_⟩
 show(let D:TS:=_;bA _ D _ _ _);intro _;refine⟨_,U,a,U,⟨_,y⟩,bD (xs:=xs) (λi g j=>(∃t o,g=[Kg (.ref a),Kg<|.int n,t,o])/\j=H/\(k.take i).any (inR n)=Kj) ⟨⟨_,_,U⟩,U,U⟩ (λi g j _ h=>by let(_,e,_):=h;rw[e];exact y) (λi x g j e h=>?_) (λg j h=>?_)⟩
 .let((t,o,rfl),m,b):=h;rw[m];let(p,r,l,rfl,u):=B.get e;calc⟨r,_,U,SqT.of u,U,_,_,U,_,_,U,U,?_⟩;calc⟨_,U,_,U,_,_,U,U,_,U,?_⟩;refine cQ (λc=>?_)<|λc=>?_
  .refine⟨_,U,_,_,U,U,_,U,?_⟩;refine cQ (λd=>?_)<|λd=>?_
   .let C:inP k n=true:=sx l<|D3 c d;rw[C]at q;exact q
   .exact⟨⟨_,_,U⟩,U,jq l b<|Cu d⟩
  .exact⟨_,U,bR ⟨⟨_,_,U⟩,U,jq l b<|Ct c⟩⟩
 .let((t,o,rfl),m,b):=h;rw[m];let z:inP k n=false:=by
   rw[B.length,fD]at b;exact b
  rw[z]at q;calc q
theorem Eh(F:Fun K "refuse_counts" "refuse_counts" Y76 f fd) (bl:Bl K mg Y)  : aN P w K mg base CX0 1 f fd ["names","rows"] (cD K Y):=by
 refine F.okA Z76 λg A a s H j Q E l h=>?_
 let(p,r,b,i,rfl,e,d,n,m,k,q):=h
 refine⟨_,(az (aQ (cY<|md fG fG ai (aw av U bl.len_ Kf<|aa (pv 0) af)<|my U bl.MOST_COLUMNS_)
  (ah bz)
  aJ)
  (ah (aQ (aL iu (aw av U bl.len_ Kf<|aa (pv 1) af) (my U bl.MOST_ROWS_)<|aP _)
  (ah bz)
  aJ))),?_⟩
 show(let c:TS:=_;bA _ c _ _ _);intro _;calc⟨_,U,p,_,U,.inl<|e,_,_,U,U,_,U,dZ ∅ ?_⟩;calc⟨_,_,U,U,_,U,?_⟩;rw[Kq (show((b.length:Nat):Int)<=4 by lia)];calc bR ?_;calc⟨_,U,r,_,U,.inl<|d,_,_,U,U,_,U,cg ∅ q⟩
theorem Ei(F:Fun K "own_row" "own_row" Y73 f fd) (bl:Bl K mg Y)  : aN P w K mg base CX0 1 f fd ["cells","code"] (jL K Y):=by
 refine F.okA Z73 λV A B s H W Q E Z h=>?_
 let(T,xs,I,rfl,C,u,Ee,q):=h;refine⟨_,(ah<|aG<|bC<|aa (bK (aO<|pv 0) (bJ U (~~~0) (~~~0) (~~~0) U) U (λ_ _ _ _=>aV)<|λ_ _ _ _=>(bH (ju (K:=K) U) U bl.list_ PyProof.Rows.boot_list<|aa (pv 0) af))<|aa (pv 1) af),?_⟩
 refine⟨_,U,T,U,⟨_,SqL.of C⟩,bj (xs:=xs) (λD i g d=>ao H d/\d D=Kg (.lst g)/\CL (Fr H D) d g (I.1.take i))
  (λD m=>⟨ag m _,ae,ay.nil⟩) (λD i g d m _ h=>SqL.of<|h.1 _ _ C) (λD i x g d m e h=>?_) (λD g d m h=>?_)⟩
 .let(k,v,t):=h;let(l,X,rfl,R,N):=ay.get u e;let(_,n,S,M):=N.same k;let hi:i<xs.length:=(GD.mp e).1;let y:g.length<AA:=by
   let O:=t.1;rw[eV]at O;exact aD ∅
  calc⟨_,U,l,_,U,.inl<|SqL.of S,λp c=>?_⟩;let o:=ag c<|.lst n;let G:upd d p (.lst n) p=Kg (.lst n):=ae;let j:=o _ _ v;generalize upd d p (.lst n)=H2 at o G j⊢;let L:H p=none:=k.free c;let J:p≠D:=λz=>by rw[z,v]at c;cases c
  calc b7.mk hi j y ⟨(k.trans o).upd m,ae,?_⟩;rw[take_snoc R];exact CL.updN (ay.snoc (t.same o) ⟨⟨L,J⟩,n,G,M.mono o.tups⟩) Fr.out j
 .let(k,v,t):=h;rw[u.1,fD]at t;calc⟨_,U,bY,λr b=>q r _ (k.trans<|ag b _) (k.free b) ⟨D,g,ae,m,ag b _ _ _ v,?_⟩⟩;calc(t.same<|ag b _).wk λa h=>h.1
theorem Ej(F:Fun K "_law_at" "_law_at" Y52 f fd) (bl:Bl K mg Y)  : aN P w K mg base CX0 1 f fd ["script","k"] (i4 K Y):=by
 refine F.okA Z52 λm A d s H n Q E o h=>?_
 let(a,b,k,rfl,e,p,q):=h
 refine⟨_,(az (aQ (aL l8 (pv 1) (aw av U bl.len_ Kf<|aa (pv 0) af)<|aP _)
  (ah<|aG<|aF aH (pv 0) (pv 1)<|λ_ _=>U)
  aJ)
  (ah<|aG ai)),?_⟩
 show(let g:TS:=_;bA _ g _ _ _);intro _;calc⟨_,U,_,U,a,_,U,.inl e,_,_,U,U,_,U,?_⟩;refine cQ (λc=>?_)<|λc=>?_
 .let l:k<(((b.map V.int).length:Nat):Int):=qt c;rw[dn]at l;let j:k.toNat<b.length:=∅
  let i:atI (b.map V.int) k=Kg (.int b[k.toNat]):=by
   let z:atI (b.map V.int) ((k.toNat:Nat):Int)=Kg (.int b[k.toNat]):=aK (by rw[dy,GC j];rfl);rw[show((k.toNat:Nat):Int)=k by lia]at z;exact z
  exact⟨_,U,_,U,a,_,_,_,U,U,e,i,q _⟩
 .exact q 0
theorem Ek(F:Fun K "_law_words" "_law_words" Y67 f fd) (bl:Bl K mg Y)  : aN P w K mg base CX0 1 f fd ["cell","count"] (fe K Y):=by
 refine F.okA Z67 λR A t s H S Q E X h=>?_
 let(c,n,rfl,O,q):=h
 refine⟨_,(az (aI (i:=2) Z67.nd U (Or.inr U) aS)
  (ar (aI (i:=3) Z67.nd U (Or.inr U)<|fh PySem.F.plainAttrs_str PySem.F.slot_str_join PySem.F.type_str_join ua aS<|aa (bK (bf U bl.range_<|aa (aC aU (pv 0) ai) af) (aW (N:=["j","cell","letters"]) (fr:=[0,2]) (cl:=[("letters",s.heap.objs.size+1+1),("cell",s.heap.objs.size+1)]) U U (~~~0) (~~~0) U (~~~0) U U U (fZ.mpr ⟨U,fZ.mpr ⟨U,gZ _⟩⟩) U) U (λ_ _ _ _=>aV)<|λ_ _ _ _=>(aF rX (pv 2) (aC aU (aC bq (pv 1)<|aC bB (aC ir ai<|pv 0) ai) ai)<|λ_ _=>U)) af)
  (ar (aI (i:=4) Z67.nd U (Or.inr U)<|fh PySem.F.plainAttrs_str PySem.F.slot_str_join PySem.F.type_str_join ua aS<|aa (bK (bf U bl.range_<|aa (aC aU (aC bq (pv 0) ai) ai) af) (aW (N:=["j","cell","letters"]) (fr:=[0,2]) (cl:=[("letters",s.heap.objs.size+1+1),("cell",s.heap.objs.size+1)]) U U (~~~0) (~~~0) U (~~~0) U U U (fZ.mpr ⟨U,fZ.mpr ⟨U,gZ _⟩⟩) U) U (λ_ _ _ _=>aV)<|λ_ _ _ _=>(aF rX (pv 2) (aC aU (aC bq (pv 1)<|aC bB (aC ir ai<|pv 0) ai) ai)<|λ_ _=>U)) af)
  (ah<|aG<|bK (bf U bl.range_<|aa (pv 1) af) (aW (N:=["k","cell","letters","head","tail"]) (fr:=[0,2,3,4]) (cl:=[("tail",s.heap.objs.size+1+1+1+1),("letters",s.heap.objs.size+1+1),("head",s.heap.objs.size+1+1+1),("cell",s.heap.objs.size+1)]) U U (~~~0) (~~~0) U (~~~0) U U U (fZ.mpr ⟨U,fZ.mpr ⟨U,fZ.mpr ⟨U,fZ.mpr ⟨U,gZ _⟩⟩⟩⟩) U) U (λ_ _ _ _=>aV)<|λ_ _ _ _=>(aC mh (aC mh (pv 3)<|aF rX (pv 2) (aC aU (aC bB (aC bq (pv 1) ai)<|aC ir ai<|pv 0) ai)<|λ_ _=>U)<|pv 4))))),?_⟩
 show(let B:TS:=_;let C:TS:=bu _ B;let G:TS:=bu _ C;bA _ G _ _ _);intro _ _ _;let c0:=w5 c (show(6:Int)≠0 by decide);let c1:=xc c (show(0:Int)<6 by decide);let d0:=w5 (c / 7) (show(6:Int)≠0 by decide);let Z:=xc (c / 7) (show(0:Int)<6 by decide);refine⟨λk a=>ao H a/\k=[Kg (.int c),Kg<|.int (n:Int),Kg<|.str s!"abcdefghijklmnopqrstuvwxyz",Kg<|.str ⟨(hcs c).toArray⟩,Kh],?_,?_⟩
 .refine⟨U,_,U,_,_,U,U,(by show(0:Int)<6;decide),_,U,(by show -(2^62)<=c%6;lia),(by show c%6<2^62;lia),bP (λD i d a=>ao H a/\a D=Kg (.lst d)/\d=(((List.range i).map λj:Nat=>97+(c / (3*(0+(j:Int))+1)%13).toNat).map λx=>(⟨#[x]⟩:Str)).map V.str) (λD b=>⟨ag b _,ae,U⟩) (λD i d a b hi h=>?_)<|λD d a b h=>?_⟩
  .let(g,e,rfl):=h;let l:=w5 (c / (3*(0+(i:Int))+1)) (show(13:Int)≠0 by decide);let r:=xc (c / (3*(0+(i:Int))+1)) (show(0:Int)<13 by decide);refine⟨_,U,_,U,_,U,_,_,U,U,.inl ⟨⋯,⋯⟩,_,_,U,U,_,_,U,U,fm ∅ ∅,_,_,U,U,(by show(0:Int)<13;decide),_,_,_,U,U,⋯,pI xy l ∅,b7.mk hi e (aD (by simp;lia)) ⟨g.upd b,ae,?_⟩⟩;rw[kU,dz,dz,dz];rfl
  .let(g,e,rfl):=h;let o:=pL c;let p:((List.range (c%6).toNat).map λj:Nat=>97+(c / (3*(0+(j:Int))+1)%13).toNat)=hcs c:=rfl;rw[p]at e;calc⟨_,D,_,U,U,SqL.of e,(~~~0),qX _ o,g,?_⟩;rw[mV];rfl
 rintro M v ⟨z,rfl⟩;refine⟨λk a=>ao v a/\k=[Kg (.int c),Kg<|.int (n:Int),Kg<|.str s!"abcdefghijklmnopqrstuvwxyz",Kg<|.str ⟨(hcs c).toArray⟩,Kg (.str ⟨(tcs c).toArray⟩)],?_,?_⟩
 .refine⟨U,_,U,_,_,U,U,⟨⋯,⋯⟩,_,_,U,U,(by show(0:Int)<6;decide),_,U,(by show -(2^62)<=c / 7%6;lia),(by show c / 7%6<2^62;lia),bP (λD i d a=>ao v a/\a D=Kg (.lst d)/\d=(((List.range i).map λj:Nat=>97+(c / (5*(0+(j:Int))+2)%13).toNat).map λx=>(⟨#[x]⟩:Str)).map V.str) (λD b=>⟨ag b _,ae,U⟩) (λD i d a b hi h=>?_)<|λD d a b h=>?_⟩
  .let(g,e,rfl):=h;let l:=w5 (c / (5*(0+(i:Int))+2)) (show(13:Int)≠0 by decide);let r:=xc (c / (5*(0+(i:Int))+2)) (show(0:Int)<13 by decide);refine⟨_,U,_,U,_,U,_,_,U,U,.inl ⟨⋯,⋯⟩,_,_,U,U,_,_,U,U,fm ∅ ∅,_,_,U,U,(by show(0:Int)<13;decide),_,_,_,U,U,⋯,pI xy l ∅,b7.mk hi e (aD (by simp;lia)) ⟨g.upd b,ae,?_⟩⟩;rw[kU,dz,dz,dz];rfl
  .let(g,e,rfl):=h;let o:=pM c;let p:((List.range (c / 7%6).toNat).map λj:Nat=>97+(c / (5*(0+(j:Int))+2)%13).toNat)=tcs c:=rfl;rw[p]at e;calc⟨_,D,_,U,U,SqL.of e,(~~~0),qX _ o,g,?_⟩;rw[mV];rfl
 rintro L J ⟨y,rfl⟩;let m:=z.trans y;let W:(⟨(hcs c).toArray⟩:Str).length<=5:=by have:=pL c;simpa[Str.length]using this
 let T:(⟨(tcs c).toArray⟩:Str).length<=5:=by have:=pM c;simpa[Str.length]using this
 let u:∀x:Nat,(⟨#[x]⟩:Str).length=1:=λ_=>U
 refine⟨_,U,_,U,∅,∅,bP (λD i d a=>ao J a/\a D=Kg (.lst d)/\d=(lws c i).map V.str) (λD b=>⟨ag b _,ae,U⟩) (λD i d a b hi h=>?_)<|λD d a b h=>?_⟩
 .let(g,e,rfl):=h;let l:=w5 (c / 11+3*(0+(i:Int))) (show(26:Int)≠0 by decide);let r:=xc (c / 11+3*(0+(i:Int))) (show(0:Int)<26 by decide);let I:(⟨(hcs c).toArray⟩:Str)++(⟨#[97+((c / 11+3*(0+(i:Int)))%26).toNat]⟩:Str)++(⟨(tcs c).toArray⟩:Str)=lw c (0+(i:Int)):=by
   show Str.append (Str.append _ _) _=_;unfold Str.append lw lwc;simp
  refine⟨_,U,_,U,_,U,_,_,U,U,⟨⋯,⋯⟩,_,U,_,_,U,U,.inl ⟨⋯,⋯⟩,_,_,U,U,_,_,U,U,(by show(0:Int)<26;decide),_,_,_,U,U,⋯,pI xy l r,_,_,U,U,big (by rw[u];lia),_,U,_,_,U,U,big (by rw[A9,u];lia),?_⟩;rw[I];refine b7.mk hi e (aD (by rw[dn,kB];lia)) ⟨g.upd b,ae,?_⟩;rw[xE,dz];rfl
 .let(g,e,rfl):=h;rw[w4]at e;calc q D a (m.trans g) (m.free b) e
theorem El(F:Fun K "_law_pool" "_law_pool" Y60 f fd) (bl:Bl K mg Y)  : aN P w K mg base CX0 1 f fd ["domain","cell","most"] (iG K Y):=by
 refine F.okA Z60 λL A y s H O Q E R h=>?_
 let(r,p,c,n,rfl,(M,_,_,u,J),ok,G,q):=h
 refine⟨_,(az (aI (i:=3) Z60.nd U (Or.inr U)<|aC bB (aC cJ (aF bc (pv 0) ai<|λ_ _=>U)<|aF bc (pv 0) ai<|λ_ _=>U) ai)
  (ah<|aG<|bK (bf U bl.range_<|aa (pv 2) af) (aW (N:=["j","domain","cell","width"]) (fr:=[0,1,3]) (cl:=[("width",s.heap.objs.size+1+1+1),("domain",s.heap.objs.size+1),("cell",s.heap.objs.size+1+1)]) U U (~~~0) (~~~0) U (~~~0) U U U (fZ.mpr ⟨U,fZ.mpr ⟨U,fZ.mpr ⟨U,gZ _⟩⟩⟩) U) U (λ_ _ _ _=>aV)<|λ_ _ _ _=>(aC bB (aF (dW (K:=K) U) (pv 1) ai<|λ_ _=>U)<|aC aU (aC bB (aC bq (pv 2)<|aC bB (aC ir ai<|pv 0) ai)<|aC ir (pv 0)<|pv 2)<|pv 3))),?_⟩
 show(let z:TS:=_;bA _ z _ _ _);intro _;let I:=ok.le;calc⟨_,U,r,_,_,_,U,U,SqT.of u,U,_,U,r,_,_,_,U,U,SqT.of u,U,_,_,U,U,_,_,U,U,?_⟩;let t:0<p.hi-p.lo+1:=∅
 refine⟨_,U,_,U,∅,∅,bP (λD i k j=>ao H j/\j D=Kg (.lst k)/\∃b:La Int,k=b.map V.int/\b.length=i/\∀x∈b,p.lo<=x/\x<=p.hi) (λD g=>⟨ag g _,ae,[],U,U,(λx d=>by cases d)⟩) (λD i k j g hi h=>?_) (λD k j g h=>?_)⟩
 .let(l,v,b,rfl,o,d):=h;rw[w4]at hi;let C:=w5 (c / (3*(0+(i:Int))+1)+(0+(i:Int))*c)<|Int.ne_of_gt t;let B:=xc (c / (3*(0+(i:Int))+1)+(0+(i:Int))*c) t;refine⟨_,U,r,_,_,_,U,U,SqT.of<|l _ _ u,U,_,U,_,U,_,_,U,U,.inl ⟨⋯,⋯⟩,_,_,U,U,_,_,U,U,fm ∅ ∅,_,U,_,U,_,_,U,U,.inl ⟨∅,∅⟩,_,_,U,U,_,U,_,_,U,U,t,_,_,U,U,b7.mk (by rw[w4];exact hi) v (aD (by rw[dn];lia)) ⟨l.upd g,ae,b++[_],by rw[dz];rfl,by rw[gp,o];rfl,λx a=>?_⟩⟩;rcases gs.mp a with a | a
  .exact d x a
  .let e:x=p.lo+(c / (3*(0+(i:Int))+1)+(0+(i:Int))*c)%(p.hi-p.lo+1):= ~~~a
   generalize (c / (3*(0+(i:Int))+1)+(0+(i:Int))*c)%(p.hi-p.lo+1)=m at C B e;lia
 .let(l,v,b,rfl,o,d):=h;rw[w4]at o;calc q D b j l g v o d
theorem Em(F:Fun K "_law_spans" "_law_spans" Y63 f fd) (bl:Bl K mg Y)  : aN P w K mg base CX0 1 f fd ["kind","one","two","domain"] (gI K Y):=by
 refine F.okA Z63 λa8 A Z s H vs Q E hr h=>?_
 let(M,one,two,r,p,rfl,(wl,_,_,S,a7),V,h2,T,q):=h
 refine⟨_,(ar (aI (i:=4) Z63.nd U (Or.inl U)<|bh<|aa (bC<|aa (aF bc (pv 3) ai<|λ_ _=>U)<|aa (aF bc (pv 3) ai<|λ_ _=>U) af) af)
  (ar (aQ (PW.pt<|tU (aL cV (pv 0) ai<|aP _)<|o6<|PW.pt<|jz (aL cV (pv 0) ai<|aP _)<|gB<|aL fG (pv 2) (aC bB (pv 1) ai)<|aP _)
  (ah<|aI (i:=4) Z63.nd U (Or.inl U)<|bh<|aa (bC<|aa (pv 1)<|aa (pv 2) af) af)
  (ah (aQ (aL cV (pv 0) ai<|aP _)
  (ah<|aI (i:=4) Z63.nd U (Or.inl U)<|bh<|aa (bC<|aa (pv 1)<|aa (pv 1) af)<|aa (bC<|aa (pv 2)<|aa (pv 2) af) af)
  aJ)))
  (ar (aQ (aL cV (pv 0) ai<|aP _)
  (ah<|aI (i:=4) Z63.nd U (Or.inl U)<|bh<|aa (bC<|aa (pv 1)<|aa (pv 1) af) af)
  aJ)
  (ar (aQ (aL cV (pv 0) ai<|aP _)
  (ah<|aI (i:=4) Z63.nd U (Or.inl U)<|bh<|aa (bC<|aa (aF bc (pv 3) ai<|λ_ _=>U)<|aa (aC cJ (pv 1) ai) af)<|aa (bC<|aa (aC bB (pv 2) ai)<|aa (aF bc (pv 3) ai<|λ_ _=>U) af) af)
  aJ)
  (ar (aQ (aL cV (pv 0) ai<|aP _)
  (ah<|aI (i:=4) Z63.nd U (Or.inl U)<|bh af)
  aJ)
  (ah<|aG<|bK (aO<|pv 4) (bJ U (~~~0) (~~~0) (~~~0) U) U (λ_ _ _ _=>(fI<|aL fG (aF (dW (K:=K) U) (pv 0) ai<|λ_ _=>U) (aF (dW (K:=K) U) (pv 0) ai<|λ_ _=>U)<|aP _))<|λ_ _ _ _=>(pv 0))))))),?_⟩
 show(let r5:TS:=_;let r4:TS:=bu _ r5;let r3:TS:=bu _ r4;let r2:TS:=bu _ r3;let r1:TS:=bu _ r2;bu _ r1 _ _ _);intro _ _ _ _ _;refine⟨λc b=>∃a,SPJ p one two H b a/\c=[Kg (.int M),Kg<|.int one,Kg<|.int two,Kg<|.ref r,Kg (.ref a)],⟨_,U,r,_,_,_,U,U,SqT.of S,U,_,U,r,_,_,_,U,U,SqT.of S,U,bY,λt m=>⟨(by show 1<=AA;decide),λl k=>⟨l,SPJ.one (ao.refl H) (pl1 m k) (Int.le_refl _) (Int.le_refl _) ⟨.inl U,.inl U⟩,U⟩⟩⟩,?_⟩;rintro a4 W ⟨a,j,rfl⟩;refine⟨λc b=>∃a,SPJ p one two H b a/\c=[Kg (.int M),Kg<|.int one,Kg<|.int two,Kg<|.ref r,Kg (.ref a)],?_,?_⟩
 .let n:=j.1;let G:∀t l,W t=Kh->upd W t (.tup [.int one,.int two]) l=Kh->SPJ p one two H (upd (upd W t<|.tup [.int one,.int two]) l<|.lst [.ref t]) l:=λt l m k=>SPJ.one n (pl1 m k) V T ⟨.inr<|.inl U,.inr<|.inr<|.inl U⟩
  refine⟨_,U,U,_,U,cQ (λ_=>dS ?_)<|λ_=>?_⟩
  .exact⟨_,U,_,U,bY,λt m=>⟨(by show 1<=AA;decide),λl k=>⟨l,G t l m k,U⟩⟩⟩
  .refine⟨_,U,U,_,U,cQ (λ_=>?_)<|λ_=>bR ?_⟩
   .refine⟨_,U,_,U,_,_,U,U,_,_,U,U,_,U,cQ (λ_=>?_)<|λ_=>?_⟩
    .exact⟨_,U,_,U,bY,λt m=>⟨(by show 1<=AA;decide),λl k=>⟨l,G t l m k,U⟩⟩⟩
    .refine⟨_,U,U,_,U,cQ (λ_=>?_)<|λ_=>⟨a,j,U⟩⟩;exact⟨_,U,_,U,bY,λt m=>⟨_,U,_,U,bY,λu N=>⟨(by show 2<=AA;decide),λl k=>⟨l,SPJ.two n (pl2 m N k) V ∅ ∅ T ⟨.inr<|.inl U,.inr<|.inl U⟩ ⟨.inr<|.inr<|.inl U,.inr<|.inr<|.inl U⟩,U⟩⟩⟩⟩
   .refine⟨_,U,U,_,U,cQ (λ_=>?_)<|λ_=>⟨a,j,U⟩⟩;exact⟨_,U,_,U,bY,λt m=>⟨_,U,_,U,bY,λu N=>⟨(by show 2<=AA;decide),λl k=>⟨l,SPJ.two n (pl2 m N k) V ∅ ∅ T ⟨.inr<|.inl U,.inr<|.inl U⟩ ⟨.inr<|.inr<|.inl U,.inr<|.inr<|.inl U⟩,U⟩⟩⟩⟩
 clear j a;rintro a3 H2 ⟨a,j,rfl⟩;refine⟨λc b=>∃a,SPJ p one two H b a/\c=[Kg (.int M),Kg<|.int one,Kg<|.int two,Kg<|.ref r,Kg (.ref a)],?_,?_⟩
 .refine⟨_,U,U,_,U,cQ (λ_=>?_)<|λ_=>⟨a,j,U⟩⟩;let n:=j.1;exact⟨_,U,_,U,bY,λt m=>⟨(by show 1<=AA;decide),λl k=>⟨l,SPJ.one n (pl1 m k) ∅ ∅ ⟨.inr<|.inl U,.inr<|.inl U⟩,U⟩⟩⟩
 clear j a;rintro a2 H3 ⟨a,j,rfl⟩;refine⟨λc b=>∃a,SPJ p one two H b a/\c=[Kg (.int M),Kg<|.int one,Kg<|.int two,Kg<|.ref r,Kg (.ref a)],?_,?_⟩
 .refine⟨_,U,U,_,U,cQ (λ_=>?_)<|λ_=>⟨a,j,U⟩⟩;let n:=j.1;refine⟨_,U,r,_,_,_,U,U,SqT.of<|n _ _ S,U,_,U,_,_,U,U,bY,λt m=>⟨_,U,_,_,U,U,_,U,r,_,_,_,U,U,SqT.of<|((n.trans<|ag m _) _ _ S),U,bY,λu N=>⟨(by show 2<=AA;decide),λl k=>⟨l,SPJ.two n (pl2 m N k) (Int.le_refl _) ∅ ∅ (Int.le_refl _) ⟨.inl U,.inr<|.inr<|.inr U⟩ ⟨.inr<|.inr<|.inr U,.inl U⟩,U⟩⟩⟩⟩
 clear j a;rintro a1 H6 ⟨a,j,rfl⟩;refine⟨λc b=>∃a,SPJ p one two H b a/\c=[Kg (.int M),Kg<|.int one,Kg<|.int two,Kg<|.ref r,Kg (.ref a)],?_,?_⟩
 .refine⟨_,U,U,_,U,cQ (λ_=>?_)<|λ_=>⟨a,j,U⟩⟩;let n:=j.1;exact⟨(by show 0<=AA;decide),λl k=>⟨l,⟨n.trans<|ag k _,[],[],ae,.nil,(λx z=>by cases z),by simp,(λx z=>by cases z)⟩,U⟩⟩
 clear j a;rintro a0 H7 ⟨a,j,rfl⟩;let(s7,ts,ps,R,hP,hb,a6,hE):=j;let a5:=hP.length;refine⟨_,U,a,U,⟨_,SqL.of R⟩,bj (xs:=ts) (λD i zs b=>ao H7 b/\b D=Kg (.lst zs)/\∃d:Prs,PL b zs d/\(∀x∈d,p.lo<=x.1/\x.1<=x.2/\x.2<=p.hi)/\d.length<=i/\∀x∈d,x∈ps) (λD J=>⟨ag J _,ae,[],.nil,(λx z=>by cases z),tS _,(λx z=>by cases z)⟩) (λD i zs b J _ h=>SqL.of<|h.1 _ _ R) (λD i y zs b J e h=>?_) (λD zs b J h=>?_)⟩
 .let(L,O,d,v,C,X,B):=h;let(x,t,ex,rfl,et):=hP.get e;let hi:i<ts.length:=(GD.mp e).1;let I:=L _ _ et;calc⟨_,U,t,_,_,_,U,U,SqT.of I,U,_,U,t,_,_,_,U,U,SqT.of I,U,_,_,U,U,_,U,?_⟩;refine cQ (λg=>?_)<|λg=>?_
  .let g':x.1<=x.2:=qt g;let st:jo b (upd b D<|.lst<|zs++[.ref t]):=oi O;refine⟨_,U,b7.mk hi O (aD (by have:=v.length;lia)) ⟨L.upd J,ae,d++[x],(v.mono st).snoc<|st _ _ I,λy o=>?_,by rw[gp,lz];lia,λy o=>?_⟩⟩
   .rcases gs.mp o with o|o
    .exact C y o
    .rw[show y=x by simpa using o];let:=hb x<|GG ex;lia
   .rcases gs.mp o with o|o
    .exact B y o
    .rw[show y=x by simpa using o];exact GG ex
  .exact eX.mk (zs:=zs) hi ⟨L,O,d,v,C,∅,B⟩
 .let(L,O,d,v,C,X,B):=h;let s:=s7.trans L;calc q D d b s ⟨s7.free J,zs,O,v⟩ C ∅ λx z=>hE x<|B x z
theorem En(F:Fun K "_law_numbers" "_law_numbers" Y58 f fd) (bl:Bl K mg Y)  : aN P w K mg base CX0 1 f fd ["script","most"] (fu K Y):=by
 refine F.okA Z58 λa0 A D s H vs Q E hr h=>?_
 let(a,o,m,rfl,J,Z,X,W,q):=h
 refine⟨_,(ar (aI (i:=2) Z58.nd U (Or.inl U)<|bh af)
  (az (bg GP.never U (kN U bl.range_<|aa ai<|aa (aw av U bl.len_ Kf<|aa (pv 0) af) af) (aE (i:=3) Z58.nd U<|Or.inl U)
  (az (aI (i:=4) Z58.nd U (Or.inl U)<|aC aU (aF aH (pv 0) (pv 3)<|λ_ _=>U)<|aC l7 ai ai)
  (ah (aQ (aL l8 (aw av U bl.len_ Kf<|aa (pv 2) af) (pv 1)<|aP _)
  (ah<|aT<|fh PySem.F.plainAttrs_list PySem.F.slot_list_append PySem.F.type_list_append cz (pv 2)<|aa (pv 4) af)
  (az (aI (i:=5) Z58.nd U (Or.inl U)<|aC bB (aC ir (aF aH (pv 2) (aC aU (pv 3)<|pv 1)<|λ_ _=>U) ai)<|pv 4)
  (ah<|jA (aC aU (pv 5)<|aC l7 ai ai)<|Ai (pv 2) (aC aU (pv 3)<|pv 1) set_list))))))
  (ah<|aG<|pv 2))),?_⟩
 show(let L:TS:=_;let M:TS:=bA _ L;bu _ M _ _ _);intro _ _;let T:(o.map V.int).length=o.length:=dn _;let d:(0:Int)<(m:Int):=∅
 refine⟨λy e=>ao H e/\∃l:Ak,H l=Kh/\e l=Kg (.lst [])/\y=[Kg (.ref a),Kg<|.int (m:Int),Kg<|.ref l,Kh,Kh,Kh],⟨(by show 0<=AA;decide),λl k=>⟨ag k _,l,k,ae,U⟩⟩,?_⟩;rintro S H1 ⟨G,l,r,R,rfl⟩;refine⟨_,U,a,_,U,.inl<|G.seq J,_,_,U,⟨∅,∅,∅,∅⟩,cP (λi p e=>ao H e/\∃(c:La Int)(v u t:Option V),e l=Kg (.lst<|c.map V.int)/\c.length<=m/\p=[Kg (.ref a),Kg<|.int (m:Int),Kg<|.ref l,v,u,t]) ⟨G,[],_,_,_,R,tS _,U⟩ (λi p e hi h=>?_)<|λp e h=>?_⟩
 .let(n,c,v,u,t,b,k,rfl):=h;let C:i+2<o.length:=∅
  let B:atI (o.map V.int) (2+(i:Int))=Kg (.int o[i+2]):=by
   let:=aK<|get_map<|GC C;rw[show((i+2:Nat):Int)=2+(i:Int) by lia]at this;exact this
  let j:(c.map V.int).length=c.length:=dn _;refine⟨_,U,_,U,a,_,_,_,U,U,n.seq J,B,_,_,U,U,⟨⋯,⋯,⋯⟩,_,_,U,U,p10 _,_,U,l,_,U,.inl<|SqL.of b,_,U,_,_,U,U,_,U,cQ (λg=>?_)<|λg=>?_⟩
  .let g:((c.length:Nat):Int)<(m:Int):=by have:=Ks g;rw[j]at this;exact this
   refine⟨_,U,.inl ⟨U,_,SqL.of b⟩,_,U,l,_,_,U,U,b,aD ∅,n.upd r,c++[_],_,_,_,by rw[ae,dz];rfl,by rw[gp];show _+1<=m;lia,U⟩
  .let g:c.length=m:=by
    let:¬ (((c.map V.int).length:Nat):Int)<(m:Int):=λz=>g<|Kq z
    rw[j]at this;lia
   let I:=w5 (2+(i:Int))<|Int.ne_of_gt d;let j1:=xc (2+(i:Int)) d;let(x,O):∃x,c[((2+(i:Int))%(m:Int)).toNat]?=Kg x:=⟨_,GC ∅⟩;let N:atI (c.map V.int) ((2+(i:Int))%(m:Int))=Kg (.int x):=by
    let:=aK<|get_map O;rw[xt I]at this;exact this
   calc⟨_,U,_,U,_,U,_,_,U,U,d,l,_,_,_,U,U,SqL.of b,N,_,_,U,U,.inr ⟨⋯,⋯⟩,_,U,_,_,U,U,?_⟩;refine⟨_,U,_,_,U,U,⟨⋯,⋯,⋯⟩,_,_,U,U,p10 _,_,U,_,U,_,U,_,_,U,U,d,l,_,_,((2+(i:Int))%(m:Int)).toNat,U,U,b,?_,?_⟩
   .unfold ixN;rw[Ko I,Ko (by rw[j];lia)]
   .exact⟨n.upd r,c.set ((2+(i:Int))%(m:Int)).toNat _,_,_,_,by rw[ae,List.map_set],by rw[sv];exact k,U⟩
 .let(n,c,v,u,t,b,k,rfl):=h;calc⟨_,U,q l c e n r b k⟩
theorem Eo(F:Fun K "_law_point" "_law_point" Y59 f fd) (bl:Bl K mg Y)  : aN P w K mg base CX0 1 f fd ["plan","cell"] (gJ K Y):=by
 refine F.okA Z59 λm2 A j6 s H vs Q E hr h=>?_
 let(r,a,X,ds,ts,fN,rfl,h5,ok,h9,k8,q):=h
 refine⟨_,(ar (jA (pv 0)<|dQ U<|aM (aE (i:=2) Z59.nd U<|Or.inl U)<|aM (aE (i:=3) Z59.nd U<|Or.inl U)<|aM (aE (i:=4) Z59.nd U<|Or.inl U) bS)
  (ar (eZ (i:=5) Z59.nd U (Or.inl U) (aO<|pv 2) (bJ U (~~~0) (~~~0) (~~~0) U) U (λ_ _ _ _=>aV)<|λ_ _ _ _=>(bh af))
  (ar (bg GP.never U (aO<|pv 4) (aE (i:=6) Z59.nd U<|Or.inl U)
  (ah (bg GP.never U (aO<|aF bc (pv 6) ai<|λ_ _=>U) (aE (i:=7) Z59.nd U<|Or.inl U)
  (ah (bg GP.never U (bf U bl.range_<|aa (aw av U bl.len_ Kf<|aa (aF bc (pv 6) ai<|λ_ _=>U) af) af) (aE (i:=8) Z59.nd U<|Or.inl U)
  (ar (aI (i:=9) Z59.nd U (Or.inl U)<|aF aH (aF bc (pv 7) ai<|λ_ _=>U) (pv 8)<|λ_ _=>U)
  (ar (aT<|fh PySem.F.plainAttrs_list PySem.F.slot_list_extend PySem.F.type_list_extend kS (aF aH (pv 5) (aF aH (aF bc (pv 6) ai<|λ_ _=>U) (pv 8)<|λ_ _=>U)<|λ_ _=>U)<|aa (bK (aO<|pv 9) (bJ U (~~~0) (~~~0) (~~~0) U) U (λ_ _ _ _=>aV)<|λ_ _ _ _=>(aF (dW (K:=K) U) (pv 0) ai<|λ_ _=>U)) af)
  (ah<|aT<|fh PySem.F.plainAttrs_list PySem.F.slot_list_extend PySem.F.type_list_extend kS (aF aH (pv 5) (aF aH (aF bc (pv 6) ai<|λ_ _=>U) (pv 8)<|λ_ _=>U)<|λ_ _=>U)<|aa (bK (aO<|pv 9) (bJ U (~~~0) (~~~0) (~~~0) U) U (λ_ _ _ _=>aV)<|λ_ _ _ _=>(aC bB (aF (dW (K:=K) U) (pv 0) ai<|λ_ _=>U) ai)) af))))))))
  (ar (aI (i:=10) Z59.nd U (Or.inl U)<|bh af)
  (az (bg GP.never U (bf U bl.range_<|aa (aC cJ (aw av U bl.len_ Kf<|aa (pv 2) af)<|aw av U bl.len_ Kf<|aa (pv 4) af) af) (aE (i:=11) Z59.nd U<|Or.inl U)
  (ar (aI (i:=12) Z59.nd U (Or.inl U)<|aF bc (aF aH (pv 3) (pv 11)<|λ_ _=>U) ai<|λ_ _=>U)
  (ar (aI (i:=13) Z59.nd U (Or.inl U)<|aF bc (aF aH (pv 3) (pv 11)<|λ_ _=>U) ai<|λ_ _=>U)
  (ar (aI (i:=14) Z59.nd U (Or.inl U)<|aC bB (pv 12)<|aC aU (aC bq (pv 1)<|aC bB (pv 11) ai)<|aC bB (aC cJ (pv 13)<|pv 12) ai)
  (ar (aQ (PW.pt<|jz (aL iu (aw av U bl.len_ Kf<|aa (aF aH (pv 5) (pv 11)<|λ_ _=>U) af) ai<|aP _)<|gB<|aL iu (aC aU (aC bq (pv 1)<|aC bB ai<|pv 11) ai) ai<|aP _)
  (ah<|aI (i:=14) Z59.nd U (Or.inl U)<|aC cJ (aF aH (aF aH (pv 5) (pv 11)<|λ_ _=>U) (aC aU (aC bq (pv 1) ai)<|aw av U bl.len_ Kf<|aa (aF aH (pv 5) (pv 11)<|λ_ _=>U) af)<|λ_ _=>U)<|aC aU (aC bq (pv 1) ai) ai)
  aJ)
  (ah<|aT<|fh PySem.F.plainAttrs_list PySem.F.slot_list_append PySem.F.type_list_append cz (pv 10)<|aa (aw (kP U) U bl.max_ PyProof.Rows.boot_max<|aa (pv 12)<|aa (aw (iU U) U bl.min_ PyProof.Rows.boot_min<|aa (pv 13)<|aa (pv 14) af) af) af))))))
  (ah<|aG<|pv 10)))))),?_⟩
 show(let r5:TS:=_;let r4:TS:=bA _ r5;let r3:TS:=bu _ r4;let r2:TS:=bu _ r3;let r1:TS:=bu _ r2;bu _ r1 _ _ _);intro _ _ _ _ _;let(N,O,o,dv,tv,er,e3,f5,g9,d3,f2):=id h5;let g0:(X.map V.str).length=X.length:=dn _;let l2:=ok.len;let l1:=ok.tab;let h7:=ok.n7;let k7:tv.length=ts.length:=f2.1;calc⟨λd c=>c=H/\d=[Kg (.ref r),Kg<|.int a,Kg<|.ref N,Kg<|.ref O,Kg<|.ref o,Kh,Kh,Kh,Kh,Kh,Kh,Kh,Kh,Kh,Kh],⟨_,U,r,_,U,SqT.of er,U,_,_,U,_,_,U,_,_,U,U,U,U⟩,?_⟩;rintro k2 M ⟨j5,rfl⟩;subst j5;refine⟨λd c=>ao M c/\∃B:Ak,EnA M c B X.length 0/\d=[Kg (.ref r),Kg<|.int a,Kg<|.ref N,Kg<|.ref O,Kg<|.ref o,Kg<|.ref B,Kh,Kh,Kh,Kh,Kh,Kh,Kh,Kh,Kh],?_,?_⟩
 .refine⟨_,U,N,U,⟨_,SqL.of e3⟩,bj (xs:=X.map V.str) (λD i ys c=>ao M c/\c D=Kg (.lst ys)/\ys.length=i/\∀(j:Nat)(x:V),ys[j]?=Kg x->∃l:Ak,x=.ref l/\l≠D/\M l=Kh/\c l=Kg (.lst [])) (λD J=>⟨ag J _,ae,U,λj x e=>by simp at e⟩) (λD i ys c J _ h=>SqL.of<|h.1 _ _ e3) (λD i y ys c J e h=>?_) (λD ys c J h=>?_)⟩
  .let(S,eD,W,hy):=h;let hi:i<(X.map V.str).length:=(GD.mp e).1;calc⟨tS _,λl hl=>?_⟩;let u:=ag hl<|.lst [];let el:upd c l (.lst []) l=Kg (.lst []):=ae;let f0:l≠D:=λz=>by rw[z,eD]at hl;cases hl
   generalize upd c l (.lst [])=H2 at u el⊢;let j4:=u _ _ eD;refine b7.mk hi j4 (aD ∅) ⟨(S.trans u).upd J,ae,by rw[gp,W];rfl,λj x T=>?_⟩;by_cases hj:j<ys.length
   .rw[hY hj]at T;let(l',a1,a2,a3,a4):=hy j x T;exact⟨l',a1,a2,a3,(aq a2).trans<|u _ _ a4⟩
   .let g6:j-ys.length=0:=by
     have:=(GD.mp T).1;rw[gp,lz]at this;lia
    rw[iJ ∅,g6]at T;cases T;exact⟨l,U,f0,S.free hl,(aq f0).trans el⟩
  .let(S,eD,W,hy):=h;rw[g0]at W;exact⟨S,D,⟨J,ys,eD,W,λj x e=>let ⟨l,a1,a2,a3,a4⟩:=hy j x e;⟨l,[],a1,a2,a3,a4,tj _⟩⟩,U⟩
 rintro k1 H2 ⟨s2,B,h8,rfl⟩;let e8:∀n:Nat,n<=2000->n<=AA:=λn h=>tT h ⋯
 refine⟨λd c=>ao M c/\EnA M c B X.length 1600/\∃c6 R G C:Option V,d=[Kg (.ref r),Kg<|.int a,Kg<|.ref N,Kg<|.ref O,Kg<|.ref o,Kg<|.ref B,c6,R,G,C,Kh,Kh,Kh,Kh,Kh],?_,?_⟩
 .refine⟨_,U,o,U,⟨_,SqL.of<|s2 _ _ d3⟩,bD (xs:=tv) (λi L c=>ao M c/\EnA M c B X.length (384*i)/\∃c6 R G C:Option V,L=[Kg (.ref r),Kg<|.int a,Kg<|.ref N,Kg<|.ref O,Kg<|.ref o,Kg<|.ref B,c6,R,G,C,Kh,Kh,Kh,Kh,Kh]) ⟨s2,h8,_,_,_,_,U⟩ (λi L c _ h=>SqL.of<|h.1 _ _ d3) (λi y L c e h=>?_)<|λL c h=>?_⟩
  .let(S,hE,c6,R,G,C,rfl):=h;let(ta,t,rfl,et,cl,rl,rx,g1,g2,g3,g4):=ay.get f2 e;let hi:i<ts.length:=(GD.mp et).1;let tok:=ok.tabs i t et;let m0:t.cols.length<=3:=tok.ok.few;let Gr:=h9 t<|GG et;let k9:rx.length=t.rows.length:=g4.1;let k6:(vN t.cols).length=t.cols.length:=cC _;refine⟨_,U,ta,_,_,_,U,U,SqT.of<|S _ _ g1,U,rl,U,⟨_,SqL.of<|S _ _ g3⟩,bD (xs:=rx) (λii L c=>ao M c/\EnA M c B X.length (384*i+12*ii)/\∃R G C:Option V,L=[Kg (.ref r),Kg<|.int a,Kg<|.ref N,Kg<|.ref O,Kg<|.ref o,Kg<|.ref B,Kg<|.ref ta,R,G,C,Kh,Kh,Kh,Kh,Kh]) ⟨S,hE,_,_,_,U⟩ (λii L c _ h=>SqL.of<|h.1 _ _ g3) (λii y L c e h=>?_)<|λL c h=>?_⟩
   .let(sn,d2,R,G,C,rfl):=h;let(ro,w_,rfl,ew,ce,cv,q1,_,q2,q3):=ay.get g4 e;let l3:ii<t.rows.length:=(GD.mp ew).1;let f4:=tok.rows w_<|GG ew;refine⟨_,U,ta,_,_,_,U,U,SqT.of<|sn _ _ g1,U,cl,_,U,.inl<|SqL.of<|sn _ _ g2,_,U,∅,∅,cP (λjj L c=>ao M c/\EnA M c B X.length (384*i+12*ii+4*jj)/\∃G C:Option V,L=[Kg (.ref r),Kg<|.int a,Kg<|.ref N,Kg<|.ref O,Kg<|.ref o,Kg<|.ref B,Kg<|.ref ta,Kg<|.ref ro,G,C,Kh,Kh,Kh,Kh,Kh]) ⟨sn,d2,_,_,U⟩ (λjj L c d1 h=>?_)<|λL c h=>?_⟩
    .let(so,a7,G,C,rfl):=h;rw[w4,cC]at d1;rw[show(0:Int)+(jj:Int)=(jj:Int) by lia];let c0:=GC d1;generalize t.cols[jj]=cj at c0;let l4:cj<X.length:=by
      have:=tok.ok.lt cj<|GG c0;lia
     have h4:jj<w_.1.length:=by rw[f4.len];exact d1
     have d5:=GC h4;generalize w_.1[jj]=ps at d5;let(lc,i2,_,yv,b0,c3):=q3.2 jj ps d5;let CD:=f4.few ps<|GG d5;let W:=c3.length;calc⟨λd b=>b=c/\d=[Kg (.ref r),Kg<|.int a,Kg<|.ref N,Kg<|.ref O,Kg<|.ref o,Kg<|.ref B,Kg<|.ref ta,Kg<|.ref ro,Kg<|.int (jj:Int),Kg<|.ref lc,Kh,Kh,Kh,Kh,Kh],⟨_,U,ro,_,_,_,U,U,SqT.of<|so _ _ q1,U,_,U,ce,_,_,_,U,U,SqL.of<|so _ _ q2,aK i2,U,U⟩,?_⟩;rintro f8 Ha ⟨e5,rfl⟩;subst e5;let one:∀{HX:Hp}{m:Nat},ao M HX->EnA M HX B X.length m->∃(ev:La V)(l:Ak)(xs:La Int),HX B=Kg (.lst ev)/\ev[cj]?=Kg (.ref l)/\l≠B/\M l=Kh/\HX l=Kg (.lst<|xs.map V.int)/\xs.length<=m:=λsX hX=>by
      let(h0,ev,h1,h2,h3):=hX;let T:=GC (l:=ev) (i:=cj) ∅;let(l,xs,a1,a2,a3,a4,a5):=h3 cj _ T;rw[a1]at T;exact⟨ev,l,xs,h1,T,a2,a3,a4,a5⟩
     refine⟨λd b=>ao M b/\EnA M b B X.length (384*i+12*ii+4*jj+2)/\d=[Kg (.ref r),Kg<|.int a,Kg<|.ref N,Kg<|.ref O,Kg<|.ref o,Kg<|.ref B,Kg<|.ref ta,Kg<|.ref ro,Kg<|.int (jj:Int),Kg<|.ref lc,Kh,Kh,Kh,Kh,Kh],?_,?_⟩
     .let(ev,l,xs,b1,b2,b3,b4,b5,b6):=one so a7;refine⟨_,U,_,U,ta,_,_,_,U,U,SqT.of<|so _ _ g1,U,_,U,cl,_,_,_,U,U,SqL.of<|so _ _ g2,aK<|xC c0,B,_,_,_,U,U,SqL.of b1,aK b2,.inl ⟨U,_,SqL.of b5⟩,_,U,lc,U,⟨_,SqL.of<|so _ _ b0⟩,bj (xs:=yv) (λD k ys b=>ao Ha b/\b D=Kg (.lst ys)/\ys=((ps.take k).map λy=>y.1).map V.int) (λD J=>⟨ag J _,ae,U⟩) (λD k ys b J _ h=>SqL.of<|(so.trans h.1) _ _ b0) (λD k yy ys b J e h=>?_)<|λD ys b J h=>?_⟩
      .let(sq,I,rfl):=h;let(pr,rp,d6,rfl,d4):=(c3.mono (so.trans sq).tups).get e;let d0:k<yv.length:=(GD.mp e).1;refine⟨_,U,rp,_,_,_,U,U,SqT.of d4,U,b7.mk d0 I (aD (by rw[dn,dn,eV];lia)) ⟨sq.upd J,ae,?_⟩⟩;rw[take_snoc d6,dz,dz];rfl
      .let(sq,I,rfl):=h;rw[W,fD]at I;exact⟨l,D,_,_,U,U,sq _ _ b5,I,e8 _ (by rw[dn,dn,dn];lia),(so.trans sq).upd b4,(a7.same sq).ext b3 (sq _ _ b5) b6 (by rw[dn];exact CD),U⟩
     rintro f7 Hb ⟨sb,f3,rfl⟩;let(ev,l,xs,b1,b2,b3,b4,b5,b6):=one sb f3;refine⟨_,U,_,U,ta,_,_,_,U,U,SqT.of<|sb _ _ g1,U,_,U,cl,_,_,_,U,U,SqL.of<|sb _ _ g2,aK<|xC c0,B,_,_,_,U,U,SqL.of b1,aK b2,.inl ⟨U,_,SqL.of b5⟩,_,U,lc,U,⟨_,SqL.of<|sb _ _ b0⟩,bj (xs:=yv) (λD k ys b=>ao Hb b/\b D=Kg (.lst ys)/\ys=((ps.take k).map λy=>y.2+1).map V.int) (λD J=>⟨ag J _,ae,U⟩) (λD k ys b J _ h=>SqL.of<|(sb.trans h.1) _ _ b0) (λD k yy ys b J e h=>?_)<|λD ys b J h=>?_⟩
     .let(sq,I,rfl):=h;let(pr,rp,d6,rfl,d4):=(c3.mono (sb.trans sq).tups).get e;let d0:k<yv.length:=(GD.mp e).1;refine⟨_,U,rp,_,_,_,U,U,SqT.of d4,U,_,_,U,U,b7.mk d0 I (aD (by rw[dn,dn,eV];lia)) ⟨sq.upd J,ae,?_⟩⟩;rw[take_snoc d6,dz,dz];rfl
     .let(sq,I,rfl):=h;rw[W,fD]at I;exact⟨l,D,_,_,U,U,sq _ _ b5,I,e8 _ (by rw[dn,dn,dn];lia),(sb.trans sq).upd b4,((f3.same sq).ext b3 (sq _ _ b5) b6 (ys:=ps.map λy=>y.2+1) (k:=2) (by rw[dn];exact CD)).le ∅,_,_,U⟩
    .let(so,a7,G,C,rfl):=h;rw[w4,cC]at a7;exact⟨so,a7.le ∅,_,_,_,U⟩
   .let(sn,d2,R,G,C,rfl):=h;exact⟨sn,d2.le ∅,_,_,_,_,U⟩
  .let(S,hE,c6,R,G,C,rfl):=h;exact⟨S,hE.le ∅,_,_,_,_,U⟩
 rintro k0 H3 ⟨s3,h6,c6,R,G,C,rfl⟩;calc⟨λd c=>ao H3 c/\∃Z:Ak,H3 Z=Kh/\c Z=Kg (.lst<|([]:La Int).map V.int)/\d=[Kg (.ref r),Kg<|.int a,Kg<|.ref N,Kg<|.ref O,Kg<|.ref o,Kg<|.ref B,c6,R,G,C,Kg<|.ref Z,Kh,Kh,Kh,Kh],⟨tS _,λl hl=>⟨ag hl _,l,hl,ae,U⟩⟩,?_⟩;rintro j9 H4 ⟨s4,Z,f1,i9,rfl⟩;let e9:=s3.trans s4;let Ep:=s3.free f1;let pe:((((X.map V.str).length:Nat):Int)-((tv.length:Nat):Int)).toNat=fN:=∅
 refine⟨_,U,N,_,U,.inl<|SqL.of<|e9 _ _ e3,_,U,o,_,U,.inl<|SqL.of<|e9 _ _ d3,_,_,U,U,_,U,∅,∅,cP (λi L c=>ao H3 c/\∃cd:La Int,c Z=Kg (.lst<|cd.map V.int)/\cd.length=i/\(∀(f:Nat)(p:PD),f<i->ds[f]?=Kg p->p.lo<=cd.getD f 0/\cd.getD f 0<=p.hi)/\∃e7 e6 c2 a8:Option V,L=[Kg (.ref r),Kg<|.int a,Kg<|.ref N,Kg<|.ref O,Kg<|.ref o,Kg<|.ref B,c6,R,G,C,Kg<|.ref Z,e7,e6,c2,a8]) ⟨s4,[],i9,U,(λf p hf=>∅),_,_,_,_,U⟩ (λi L c hi h=>?_)<|λL c h=>?_⟩
 .let(a0,cd,c1,a6,a9,e7,e6,c2,a8,rfl):=h;let S:=s3.trans a0;let hE:=h6.same a0;rw[pe]at hi;rw[show(0:Int)+(i:Int)=(i:Int) by lia];let ep:=GC (l:=ds) (i:=i) ∅;generalize ds[i]=p at ep;let(da,f6,wl,_,_,e1,e2):=g9.2 i p ep;let f9:=ok.doms p<|GG ep;let l0:=f9.le;calc⟨λd b=>b=c/\d=[Kg (.ref r),Kg<|.int a,Kg<|.ref N,Kg<|.ref O,Kg<|.ref o,Kg<|.ref B,c6,R,G,C,Kg<|.ref Z,Kg<|.int (i:Int),Kg<|.int p.lo,c2,a8],⟨_,U,_,U,O,_,_,_,U,U,SqL.of<|S _ _ f5,aK f6,da,_,_,_,U,U,SqT.of<|S _ _ e1,U,U,U⟩,?_⟩;rintro f8 Ha ⟨e5,rfl⟩;subst e5;calc⟨λd b=>b=Ha/\d=[Kg (.ref r),Kg<|.int a,Kg<|.ref N,Kg<|.ref O,Kg<|.ref o,Kg<|.ref B,c6,R,G,C,Kg<|.ref Z,Kg<|.int (i:Int),Kg<|.int p.lo,Kg<|.int p.hi,a8],⟨_,U,_,U,O,_,_,_,U,U,SqL.of<|S _ _ f5,aK f6,da,_,_,_,U,U,SqT.of<|S _ _ e1,U,U,U⟩,?_⟩;rintro f7 Hb ⟨j3,rfl⟩;subst j3;refine⟨λd b=>b=Hb/\∃co:Int,d=[Kg (.ref r),Kg<|.int a,Kg<|.ref N,Kg<|.ref O,Kg<|.ref o,Kg<|.ref B,c6,R,G,C,Kg<|.ref Z,Kg<|.int (i:Int),Kg<|.int p.lo,Kg<|.int p.hi,Kg (.int co)],⟨_,U,_,U,_,U,_,_,U,U,_,_,U,U,fm ∅ ∅,_,U,_,U,_,_,U,U,_,_,U,U,_,_,U,U,(by show(0:Int)<p.hi-p.lo+1;lia),_,_,U,U,U,_,U⟩,?_⟩;rintro j8 Hc ⟨j2,co,rfl⟩;subst j2;let(h0,ev,e4,Gs,g8):=id hE;let T:=GC (l:=ev) (i:=i) ∅;let(l,xs,g5,k5,k4,c5,k3):=g8 i _ T;rw[g5]at T;let c4:(xs.map V.int).length=xs.length:=dn _;refine⟨λd b=>b=Hc/\∃co:Int,d=[Kg (.ref r),Kg<|.int a,Kg<|.ref N,Kg<|.ref O,Kg<|.ref o,Kg<|.ref B,c6,R,G,C,Kg<|.ref Z,Kg<|.int (i:Int),Kg<|.int p.lo,Kg<|.int p.hi,Kg (.int co)],?_,?_⟩
  .refine⟨_,U,_,U,B,_,_,_,U,U,SqL.of e4,aK T,l,_,U,.inl<|SqL.of c5,_,_,U,U,_,U,cQ (λg=>?_)<|λg=>⟨U,co,U⟩⟩;let g:=Ks g;rw[c4]at g;refine⟨_,U,_,U,_,_,U,U,_,_,U,U,fm ∅ ∅,_,_,U,U,(by show(0:Int)<3;decide),_,_,U,U,_,U,cQ (λg2=>?_)<|λg2=>⟨U,co,U⟩⟩;let j0:=w5 (a / 7) (show((xs.length:Nat):Int)≠0 by lia);let j1:=xc (a / 7) (show(0:Int)<((xs.length:Nat):Int) by lia);let(v,i1):∃v,xs[(a / 7%((xs.length:Nat):Int)).toNat]?=Kg v:=⟨_,GC ∅⟩;let ix:atI (xs.map V.int) (a / 7%(((xs.map V.int).length:Nat):Int))=Kg (.int v):=by
    let:=aK<|get_map i1;rw[xt j0]at this;rw[c4];exact this
   refine⟨_,U,_,U,B,_,_,_,U,U,SqL.of e4,aK T,_,U,_,_,U,U,⟨⋯,⋯⟩,_,U,_,U,B,_,_,_,U,U,SqL.of e4,aK T,l,_,U,.inl<|SqL.of c5,_,_,U,U,(by rw[c4];lia),l,_,_,_,U,U,SqL.of c5,ix,_,U,_,_,U,U,⟨⋯,⋯⟩,_,_,U,U,(by show(0:Int)<2;decide),_,_,U,U,U,_,U⟩
  rintro j7 Hd ⟨i8,m1,rfl⟩;subst i8;refine⟨_,U,.inl ⟨U,_,SqL.of c1⟩,_,U,_,U,_,U,_,_,U,_,_,U,Z,_,_,U,U,c1,aD (by rw[dn];lia),a0.upd f1,cd++[_],by rw[ae,dz];rfl,by rw[gp,a6];rfl,λf p' hf e0=>?_,_,_,_,_,U⟩;by_cases g7:f<i
  .let:=a9 f p' g7 e0;rw[hJ,hY ∅,←hJ];exact this
  .let:f=i:=∅
   subst this;rw[ep]at e0;cases e0;rw[hJ,iJ ∅,a6,v3];simp only[List.getElem?_cons_zero,Option.getD_some];split <;> split <;> constructor <;> lia
 .let(a0,cd,c1,a6,a9,e7,e6,c2,a8,rfl):=h;rw[pe]at a6 a9;calc⟨_,U,q Z cd c (s3.trans a0) Ep c1 a6 a9⟩
theorem Er(F:Fun K "_law_worth" "_law_worth" Y68 f fd) (bl:Bl K mg Y)  : aN P w K mg base CX0 1 f fd ["domain","code"] (gK K Y):=by
 refine F.okA Z68 λu A d s H v Q E y h=>?_
 let(r,p,c,rfl,(l,_,_,j,k),ok,B,z,q):=h
 refine⟨_,(az (aQ (aL iu (aw av U bl.len_ Kf<|aa (aF bc (pv 0) ai<|λ_ _=>U) af) ai<|aP _)
  (ah<|aG<|aF aH (aF bc (pv 0) ai<|λ_ _=>U) (pv 1)<|λ_ _=>U)
  aJ)
  (ah<|aG<|pv 1)),?_⟩
 show(let m:TS:=_;bA _ m _ _ _);intro _;unfold wvP at q;let t:(p.ws.map V.str).length=p.ws.length:=dn _;calc⟨_,U,r,_,_,_,U,U,SqT.of j,U,l,_,U,.inl<|SqL.of k,_,_,U,U,_,U,?_⟩;by_cases a:p.ws=[]
 .rw[Ko a]at q;refine cg (by rw[a];decide) ⟨_,U,q⟩
 .rw[Kn a]at q;let(g,C,o):=ok.wd a;let x:0<p.ws.length:=rL.mpr a;unfold hiW at o;let n:c=((c.toNat:Nat):Int):=∅
  let e:=GC (l:=p.ws) (i:=c.toNat) ∅;rw[hJ,e]at q;let b:atI (p.ws.map V.str) ((c.toNat:Nat):Int)=Kg (.str<|p.ws[c.toNat]'∅):=aK<|cA e;rw[←n]at b;calc dZ (by show(0:Int)<(((p.ws.map V.str).length:Nat):Int);lia) ⟨_,U,r,_,_,_,U,U,SqT.of j,U,_,U,l,_,_,_,U,U,SqL.of k,b,q⟩
theorem Es(F:Fun K "_law_strange" "_law_strange" Y65 f fd) (bl:Bl K mg Y)  : aN P w K mg base CX0 1 f fd ["domain","cell"] (d8 K Y):=by
 refine F.okA Z65 λB A u s H C Q E G h=>?_
 let(r,p,c,rfl,(l,_,_,t,z),ok,q):=h
 refine⟨_,(az (aQ (aL iu (aw av U bl.len_ Kf<|aa (aF bc (pv 0) ai<|λ_ _=>U) af) ai<|aP _)
  (ah<|aG<|aF aH (bh<|aa aS<|aa ai<|aa rM<|aa cG<|aa aS<|aa aS af) (aC aU (pv 1) ai)<|λ_ _=>U)
  aJ)
  (ah<|aG<|aF aH (bh<|aa (aC bB (aF bc (pv 0) ai<|λ_ _=>U) ai)<|aa (aC cJ (aF bc (pv 0) ai<|λ_ _=>U) ai)<|aa rM<|aa cG<|aa aS<|aa aS af) (aC aU (pv 1) ai)<|λ_ _=>U)),?_⟩
 show(let x:TS:=_;bA _ x _ _ _);intro _;calc⟨_,U,r,_,_,_,U,U,SqT.of t,U,l,_,U,.inl<|SqL.of z,_,_,U,U,_,U,?_⟩;by_cases g:p.ws=[]
 .let k:∀v∈snv p.lo p.hi,∀b,ao H b->Q v b:=λv a b s=>by
   let(o,n,m):=Bo ok.bo.1 ok.bo.2 ok.le a;exact q v b s o (by unfold vO;rw[Ko g];exact n) m
  refine cg (by rw[g];decide) ⟨_,U,r,_,_,_,U,U,SqT.of t,U,_,_,U,U,_,U,r,_,_,_,U,U,SqT.of t,U,_,_,U,U,(by show 6<=AA;decide),λi d=>?_⟩;let(j,v,y,e,a):=xW (l:=snv p.lo p.hi) U c;exact⟨_,U,_,_,U,U,(by show(0:Int)<6;decide),i,_,_,_,U,U,SqL.of ae,(by rw[e];exact aK a),k v (GG a) _<|ag d _⟩
 .let k:∀v∈swv,∀b,ao H b->Q v b:=λv a b s=>by
   let(o,n,m):=Bm (ok.wd g).1.words a;exact q v b s o (by unfold vO;rw[Kn g];exact n) m
  let D:0<p.ws.length:=rL.mpr g;refine dZ (by show(0:Int)<(((p.ws.map V.str).length:Nat):Int);rw[dn];lia) ⟨(by show 6<=AA;decide),λi d=>?_⟩;let(j,v,y,e,a):=xW (l:=swv) U c;calc⟨_,U,_,_,U,U,(by show(0:Int)<6;decide),i,_,_,_,U,U,SqL.of ae,(by rw[e];exact aK a),k v (GG a) _<|ag d _⟩
theorem O_1(F:Fun K "__init__" "Domain.__init__" Y1 f fd) (bl:Bl K mg Y)  : aN P w K mg base CX0 1 f fd ["self","low","high"] (bZ K Y):=by
 refine F.okA Z1 λe A b s H g Q E i h=>?_
 let(x,a,lo,hi,rfl,d,q):=h
 refine⟨_,(az (cK (pv 0) (pv 1) U)
  (ah<|cK (pv 0) (pv 2) U)),?_⟩
 show(let c:TS:=_;bA _ c _ _ _);intro _;refine⟨_,U,_,U,x,_,a,_,U,d,bl.k_Numbers,bl.na_Numbers_low,(by show 0<1000;decide),_,U,_,U,x,_,a,_,U,ae,bl.k_Numbers,bl.na_Numbers_high,(by show 1<1000;decide),?_⟩;show Q .non (upd (upd H x<|.ins Y.m a [("low",.int lo)]) x<|.ins Y.m a<|bI "high" (.int hi) [("low",.int lo)]);rw[put2];calc q
theorem O_2(F:Fun K "__init__" "Domain.__init__" Y2 f fd) (bl:Bl K mg Y)  : aN P w K mg base CX0 1 f fd ["self","low","high"] (cm K Y):=by
 refine F.okA Z2 λe A b s H g Q E i h=>?_
 let(x,a,lo,hi,rfl,d,q):=h
 refine⟨_,(az (cK (pv 0) (pv 1) U)
  (ah<|cK (pv 0) (pv 2) U)),?_⟩
 show(let c:TS:=_;bA _ c _ _ _);intro _;refine⟨_,U,_,U,x,_,a,_,U,d,bl.k_Words,bl.na_Words_low,(by show 0<1000;decide),_,U,_,U,x,_,a,_,U,ae,bl.k_Words,bl.na_Words_high,(by show 1<1000;decide),?_⟩;show Q .non (upd (upd H x<|.ins Y.n a [("low",.int lo)]) x<|.ins Y.n a<|bI "high" (.int hi) [("low",.int lo)]);rw[put2];calc q
theorem Et(F:Fun K "borne_code" "Numbers.borne_code" Y17 f fd) (bl:Bl K mg Y)  : aN P w K mg base CX0 1 f fd ["self","value"] (bO K Y):=by
 refine F.okA Z17 λc A b s H d Q E e h=>?_
 let(a,v,rfl,q):=h;calc⟨_,(ah<|aG<|pv 1),?_⟩;calc⟨_,U,q⟩
theorem Eu(F:Fun K "borne_code" "Words.borne_code" Y37 f fd) (bl:Bl K mg Y)  : aN P w K mg base CX0 1 f fd ["self","value"] (b9 K Y):=by
 refine F.okA Z37 λo A b s H p Q E r h=>?_
 let(a,g,z,j,rfl,(v,lw,n,c),k,d,q):=h;calc⟨_,(ah<|aG<|fh PySem.F.plainAttrs_list PySem.F.slot_list_index PySem.F.type_list_index wW (aY (pv 0) U)<|aa (pv 1) af),?_⟩;refine⟨_,U,a,_,_,_,_,U,n,bl.k_Words,bl.na_Words_words,U,.inl ⟨U,_,SqL.of c⟩,_,U,lw,_,_,.str z,j,U,U,SqL.of c,U,eL g,cA d,by simp[eqV],λm u t l=>?_,q⟩;let(y,rfl,e):=dD l;let:y≠z:=λi=>by
  subst i;let:=cH k e d;lia
 simp[eqV,this]
theorem Ew(F:Fun K "bears" "Words.bears" Y36 f fd) (bl:Bl K mg Y)  : aN P w K mg base CX0 1 f fd ["self","value"] (dc K Y):=by
 refine F.okA Z36 λi A b s H j Q E k h=>?_
 let(a,c,v,rfl,(l,lw,g,e),d,q):=h;refine⟨_,(ah<|aG<|kj og (pv 1) (aY (pv 0) U) (by with_unfolding_all rfl)),?_⟩;calc⟨_,U,_,U,a,_,_,_,_,U,g,bl.k_Words,bl.na_Words_words,U,lw,_,U,.inl<|SqL.of e,yZ d,eL c,?_⟩;show Q (.bl<|inV v<|c.map V.str) H;rw[CB _ _ d];calc q
theorem Ex(F:Fun K "__init__" "Way.__init__" Y23 f fd) (bl:Bl K mg Y)  : aN P w K mg base CX0 1 f fd ["self","called"] (cR K Y):=by
 refine F.okA Z23 λd A a s H e Q E g h=>?_
 let(x,c,z,rfl,b,q):=h;calc⟨_,(ah<|cK (pv 0) (pv 1) U),?_⟩;calc⟨_,U,_,U,x,_,c,_,U,b,bl.k_First,bl.na_First_called,(by show 0<1000;decide),q⟩
theorem Ey(F:Fun K "__init__" "Way.__init__" Y27 f fd) (bl:Bl K mg Y)  : aN P w K mg base CX0 1 f fd ["self","called"] (de K Y):=by
 refine F.okA Z27 λd A a s H e Q E g h=>?_
 let(x,c,z,rfl,b,q):=h;calc⟨_,(ah<|cK (pv 0) (pv 1) U),?_⟩;calc⟨_,U,_,U,x,_,c,_,U,b,bl.k_Only,bl.na_Only_called,(by show 0<1000;decide),q⟩
theorem Ez(F:Fun K "__init__" "Way.__init__" Y25 f fd) (bl:Bl K mg Y)  : aN P w K mg base CX0 1 f fd ["self","called"] (df K Y):=by
 refine F.okA Z25 λd A a s H e Q E g h=>?_
 let(x,c,z,rfl,b,q):=h;calc⟨_,(ah<|cK (pv 0) (pv 1) U),?_⟩;calc⟨_,U,_,U,x,_,c,_,U,b,bl.k_Like,bl.na_Like_called,(by show 0<1000;decide),q⟩
theorem EA(F:Fun K "__init__" "Way.__init__" Y26 f fd) (bl:Bl K mg Y)  : aN P w K mg base CX0 1 f fd ["self","called"] (dB K Y):=by
 refine F.okA Z26 λd A a s H e Q E g h=>?_
 let(x,c,z,rfl,b,q):=h;calc⟨_,(ah<|cK (pv 0) (pv 1) U),?_⟩;calc⟨_,U,_,U,x,_,c,_,U,b,bl.k_Low,bl.na_Low_called,(by show 0<1000;decide),q⟩
theorem EB(F:Fun K "__init__" "Way.__init__" Y24 f fd) (bl:Bl K mg Y)  : aN P w K mg base CX0 1 f fd ["self","called"] (dg K Y):=by
 refine F.okA Z24 λd A a s H e Q E g h=>?_
 let(x,c,z,rfl,b,q):=h;calc⟨_,(ah<|cK (pv 0) (pv 1) U),?_⟩;calc⟨_,U,_,U,x,_,c,_,U,b,bl.k_High,bl.na_High_called,(by show 0<1000;decide),q⟩
theorem EC(F:Fun K "__init__" "Way.__init__" Y28 f fd) (bl:Bl K mg Y)  : aN P w K mg base CX0 1 f fd ["self","called"] (dC K Y):=by
 refine F.okA Z28 λd A a s H e Q E g h=>?_
 let(x,c,z,rfl,b,q):=h;calc⟨_,(ah<|cK (pv 0) (pv 1) U),?_⟩;calc⟨_,U,_,U,x,_,c,_,U,b,bl.k_Sum,bl.na_Sum_called,(by show 0<1000;decide),q⟩
theorem O_8(F:Fun K "chosen" "First.chosen" Y8 f fd) (bl:Bl K mg Y)  : aN P w K mg base CX0 1 f fd ["self","codes","outcome"] (J1 K Y):=by
 refine F.ok Z8 (λi H Q E h=>?_)<|λr A d s H i Q E u h=>?_
 .let(x,c,o,n,e,b,rfl,(p,z,j),l,a,g,m,q):=h;rfl
 let(x,c,o,n,e,b,rfl,(p,z,j),l,a,g,m,q):=h;calc⟨_,(ah<|aG<|bC<|aa aS<|aa (aF aH (pv 1) ai<|λ_ _=>U) af),?_⟩;calc⟨_,U,c,_,_,_,U,U,g,at0 n e,bY,λt k=>q t _ (ag k _)<|SqT.of ae⟩
theorem ED(F:Fun K "chosen" "Only.chosen" Y19 f fd) (bl:Bl K mg Y)  : aN P w K mg base CX0 1 f fd ["self","codes","outcome"] (J9 K Y):=by
 refine F.ok Z19 (λl H Q E h=>?_)<|λC A k s H l Q E D h=>?_
 .let(x,c,o,n,a,b,rfl,(B,z,m),u,j,d,y,q):=h;rfl
 let(x,c,o,n,a,b,rfl,(B,z,m),u,j,d,y,q):=h;calc⟨_,(ah<|aG<|qk (aL cV (aw av U bl.len_ Kf<|aa (pv 1) af) ai<|aP _) (bC<|aa aS<|aa (aF aH (pv 1) ai<|λ_ _=>U) af)<|cc (v:=.ref Y.r) U bl.CLASH_ U),?_⟩;calc⟨_,U,c,_,U,.inl<|d,U,_,U,?_⟩;refine cQ (λg=>?_)<|λg=>?_
 .let e:wf 1 b.1 b.2 (n :: a)=say n:=by
   let i:=qt g;simp at i;show qS _=_;unfold qS;rw[Ko (by rw[hU];lia)];rfl
  rw[e]at q;exact⟨_,U,c,_,_,_,U,U,d,at0 n a,bY,λt p=>q t _ (ag p _)<|SqT.of ae⟩
 .let e:wf 1 b.1 b.2 (n :: a)=uq:=by
   let i:=wD g;simp at i;show qS _=_;unfold qS;rw[Kn (by rw[hU];lia)]
  rw[e]at q;calc q _ _ (ao.refl _)<|bl.q_CLASH.sq _
theorem EE(F:Fun K "chosen" "Like.chosen" Y12 f fd) (bl:Bl K mg Y)  : aN P w K mg base CX0 1 f fd ["self","codes","outcome"] (J5 K Y):=by
 refine F.ok Z12 (λy H Q E h=>?_)<|λL A m s H y Q E M h=>?_
 .let(x,c,o,n,a,b,rfl,(J,z,B),D,k,i,G,q):=h;rfl
 let(x,c,o,n,a,b,rfl,(J,z,B),D,k,i,G,q):=h;calc⟨_,(ah<|aG<|qk (aL cV (aw nG U bl.len_ Kf<|aa (bH (nE U) U bl.set_ PyProof.Rows.boot_set<|aa (pv 1) af) af) ai<|aP _) (bC<|aa aS<|aa (aF aH (pv 1) ai<|λ_ _=>U) af)<|cc (v:=.ref Y.r) U bl.CLASH_ U),?_⟩;refine⟨_,U,c,_,U,i,(by rw[hU];lia),λl I=>?_⟩;refine⟨l,_,U,ae,(by rw[hU];lia),U,_,U,?_⟩;let d:ao H (upd H l<|yA P w l (n :: a)):=ag I _;refine cQ (λg=>?_)<|λg=>?_
 .let u:V.int _=V.int _:=qt g;let j:cntK (n :: a) (n :: a).length=1:=by injection u with u;lia
  let p:=oB.mp j;let e:wf 2 b.1 b.2 (n :: a)=say n:=by
   show qR _=_;unfold qR;rw[Ko (oK.mp p),vD p]
  rw[e]at q;exact⟨_,U,c,_,_,_,U,U,d.seq i,at0 n a,bY,λt C=>q t _ (d.trans<|ag C _)<|SqT.of ae⟩
 .let j:¬ cntK (n :: a) (n :: a).length=1:=λz=>(wD g) (by rw[z];rfl)
  let e:wf 2 b.1 b.2 (n :: a)=uq:=by
   show qR _=_;unfold qR;rw[Kn λz=>j (oB.mpr<|oK.mpr z)]
  rw[e]at q;calc q _ _ d<|bl.q_CLASH.sq _
theorem EF(F:Fun K "chosen" "Low.chosen" Y14 f fd) (bl:Bl K mg Y)  : aN P w K mg base CX0 1 f fd ["self","codes","outcome"] (J7 K Y):=by
 refine F.ok Z14 (λg H Q E h=>?_)<|λy A d s H g Q E B h=>?_
 .let(x,c,o,n,i,b,rfl,(v,z,j),l,a,e,p,q):=h;rfl
 let(x,c,o,n,i,b,rfl,(v,z,j),l,a,e,p,q):=h;calc⟨_,(ah<|aG<|bC<|aa aS<|aa (aw (nB U) U bl.min_ PyProof.Rows.boot_min<|aa (pv 1) af) af),?_⟩;calc⟨_,U,c,_,U,e,Nat.succ_pos _,λm u r=>⟨bY,λt k=>q t _ (ag k _)<|SqT.of ?_⟩⟩;rw[ae,xA u r];rfl
theorem EG(F:Fun K "chosen" "High.chosen" Y10 f fd) (bl:Bl K mg Y)  : aN P w K mg base CX0 1 f fd ["self","codes","outcome"] (J3 K Y):=by
 refine F.ok Z10 (λg H Q E h=>?_)<|λy A d s H g Q E B h=>?_
 .let(x,c,o,n,i,b,rfl,(v,z,j),l,a,e,p,q):=h;rfl
 let(x,c,o,n,i,b,rfl,(v,z,j),l,a,e,p,q):=h;calc⟨_,(ah<|aG<|bC<|aa aS<|aa (aw (nC U) U bl.max_ PyProof.Rows.boot_max<|aa (pv 1) af) af),?_⟩;calc⟨_,U,c,_,U,e,Nat.succ_pos _,λm u r=>⟨bY,λt k=>q t _ (ag k _)<|SqT.of ?_⟩⟩;rw[ae,xB u r];rfl
theorem EH(F:Fun K "chosen" "Sum.chosen" Y21 f fd) (bl:Bl K mg Y)  : aN P w K mg base CX0 1 f fd ["self","codes","outcome"] (J11 K Y):=by
 refine F.ok Z21 (λr H Q E h=>?_)<|λG A l s H r Q E I h=>?_
 .let(x,c,o,n,a,b,rfl,(D,z,u),(C,p,B,fs,j,d,g,_),k,m,y,q):=h;rfl
 let(x,c,o,n,a,b,rfl,(D,z,u),(C,p,B,fs,j,d,g,_),k,m,y,q):=h;calc⟨_,(ah<|aG<|bC<|aa aS<|aa (aw (kP U) U bl.max_ PyProof.Rows.boot_max<|aa (aY (pv 2) U)<|aa (aw (iU U) U bl.min_ PyProof.Rows.boot_min<|aa (aY (pv 2) U)<|aa (aw (jr U) U bl.sum_ PyProof.Rows.boot_sum<|aa (pv 1) af) af) af) af),?_⟩;let i:Cls K C/\NoAttr K C s!"low"/\NoAttr K C s!"high":=by
  rcases p with rfl|rfl
  .exact⟨bl.k_Numbers,bl.na_Numbers_low,bl.na_Numbers_high⟩
  .exact⟨bl.k_Words,bl.na_Words_low,bl.na_Words_high⟩
 calc⟨_,U,o,_,_,_,_,U,j,i.1,i.2.1,d,_,U,o,_,_,_,_,U,j,i.1,i.2.2,g,_,U,c,_,U,m,_,_,U,_,_,U,?_⟩;calc⟨bY,λt v=>q t _ (ag v _)<|SqT.of ?_⟩;rw[ae];let e:near b.1 b.2 (n :: a).sum=if (if (n :: a).sum<b.2 then(n :: a).sum else b.2)>b.1 then(if (n :: a).sum<b.2 then(n :: a).sum else b.2)else b.1:=by
  unfold near;generalize (n :: a).sum=t;split <;> split <;> split <;> first|rfl|lia|(split <;> lia)
 show _=Kg (HO.tup<|tp<|say<|near b.1 b.2 (n :: a).sum);rw[e];rfl
theorem EI(F:Fun K "is_word" "is_word" Y47 f fd) (bl:Bl K mg Y)(g:Callee P w K mg base 1 "all_among" ["text","signs"] (gH K Y)):aN P w K mg base CX0 2 f fd ["text"] (fw K Y):=by
 refine F.okA Z47 λk A d s H l Q E j h=>?_
 let(z,rfl,i,q):=h;calc⟨_,(ah<|aG<|kL (l9 fG fG ai (aw o9 U bl.len_ Kf<|aa (pv 0) af)<|my U bl.MOST_SIGNS_)<|kL (kj tY (pv 0) aS<|aP _)<|l6<|aR g j U<|aa (pv 0)<|aa (my U bl.SMALL_LETTERS_) af),?_⟩;calc⟨_,U,_,U,big i,_,_,U,U,_,U,?_⟩;refine cQ (λc=>?_)<|λc=>?_
 .refine⟨_,_,U,U,_,U,?_⟩;refine cQ (λb=>?_)<|λb=>?_
  .refine⟨_,U,U,_,U,?_⟩;refine cQ (λa=>?_)<|λa=>?_
   .refine⟨_,U,z,lets,U,?_⟩;let e:isw z=mz z lets:=by unfold isw;rw[c,b,a];rfl
    rw[e]at q;exact q
   .let e:isw z=false:=by unfold isw;rw[yt.mpr a,Bool.false_and,Bool.and_false,Bool.and_false]
    rw[e]at q;exact q
  .let e:isw z=false:=by unfold isw;rw[yt.mpr b,Bool.false_and,Bool.and_false]
   rw[e]at q;exact q
 .let e:isw z=false:=by unfold isw;rw[yt.mpr c,Bool.false_and]
  rw[e]at q;calc⟨_,U,bR q⟩
theorem EJ(F:Fun K "refuse_domains" "refuse_domains" Y77 f fd) (bl:Bl K mg Y)(zf:Callee P w K mg base 1 "alike" ["one","other"] (m8 K Y)):aN P w K mg base CX0 2 f fd ["facts","tables"] (d9 K Y):=by
 refine F.okA Z77 λe0 A d2 s H vs Q E hr h=>?_
 let(fa,ma,S,mv,v,ds,ts,o,L,rfl,d0,J,l,q):=h
 refine⟨_,(ar (aI (i:=2) Z77.nd U (Or.inl U)<|bH (jH U) U bl.dict_ PyProof.Rows.boot_dict<|aa (aC mj (pv 0)<|bK (aO<|pv 1) (bJ U (~~~0) (~~~0) (~~~0) U) U (λ_ _ _ _=>aV)<|λ_ _ _ _=>(bC<|aa (kr (K:=K) U (pv 0) U)<|aa (kr (K:=K) U (pv 0) U) af)) af)
  (ah (bg GP.never U (aO<|pv 1) (aE (i:=3) Z77.nd U<|Or.inl U)
  (ah (bg GP.never U (sQ U bl.zip_<|aa (aY (pv 3) U)<|aa (aY (pv 3) U) af) (dQ U<|aM (aE (i:=4) Z77.nd U<|Or.inl U)<|aM (aE (i:=5) Z77.nd U<|Or.inl U) bS)
  (ah (aQ (cY<|dJ<|aR zf hr U<|aa (pv 5)<|aa (aF yE (pv 2) (pv 4)<|λ_ _=>U) af)
  (ah bz)
  aJ))))))),?_⟩
 show(let r1:TS:=_;bu _ r1 _ _ _);intro _;let(b1,b2,b3):=l.few;let c2:S.length=o:=by rw[l.facts.1,hZ]
 let b4:mv.length=L.length:=l.tabs.1;let a9:=l.ok.len;refine⟨λa7 c=>ao H c/\∃(M:Ak)(b:La (Str×V)),c M=Kg (.dK<|kvT b)/\D8 Y.m Y.n c v ds b/\a7=[Kg (.ref fa),Kg<|.ref ma,Kg<|.ref M,Kh,Kh,Kh],?_,?_⟩
 .refine⟨_,U,_,U,ma,U,⟨_,SqL.of J⟩,bj (xs:=mv) (λD i ys c=>ao H c/\c D=Kg (.lst ys)/\ys.length=i/\∀(j k:Nat),j<i->L[j]?=Kg k->∃(t:Ak)(g:PD)(d:Ak),ys[j]?=Kg (.ref t)/\ds[o+k]?=Kg g/\c t=Kg (.tup [.str (tnm v o k),.ref d])/\iE Y.m Y.n H d g.k) (λD hD=>⟨ag hD _,ae,U,λj k hj=>∅⟩) (λD i ys c hD _ h=>SqL.of<|h.1 _ _ J) (λD i y ys c hD e h=>?_)<|λD ys c hD h=>?_⟩
  .let(B,eD,hl,hy):=h;let(t_,k,rfl,ek,N,R,g,ou,dv,g1,g2,g3,g4,g5,g6):=ay.get l.tabs e;let(rl,dx,na,dl,fs,xs,ht,f1,f2,f3,f4,f5,f6,Z,a2,c9,hR,jN):=g4;let hi:i<mv.length:=(GD.mp e).1;calc⟨_,U,t_,_,_,_,_,U,B _ _ ht,bl.k_Table,bl.na_Table_name,f2,_,U,t_,_,_,_,_,U,B _ _ ht,bl.k_Table,bl.na_Table_outcome,f4,bY,λp hp=>?_⟩;let u:=ag hp<|.tup [.str R,.ref ou];let I:upd c p (.tup [.str R,.ref ou]) p=Kg (.tup [.str R,.ref ou]):=ae;generalize upd c p (.tup [.str R,.ref ou])=C at u I⊢;let a3:=u _ _ eD;refine b7.mk hi a3 (aD ∅) ⟨(B.trans u).upd hD,ae,by rw[gp,hl];rfl,λj k' hj a1=>?_⟩;by_cases c0:j<i
   .let(t,a4,d,h1,h2,h3,h4):=hy j k' c0 a1;let a6:=u _ _ h3;exact⟨t,a4,d,by rw[hY ∅];exact h1,h2,(aq<|cy a6 a3 (by intro z;cases z)).trans a6,h4⟩
   .let c1:j=i:=∅
    subst c1;rw[ek]at a1;cases a1;refine⟨p,g,ou,by rw[iJ ∅,hl,v3];rfl,g3,?_,g6⟩;rw[dN g2];exact(aq<|cy I a3 (by intro z;cases z)).trans I
  .let(B,eD,hl,hy):=h;rw[b4]at hl;calc⟨fa,D,_,_,U,U,B _ _ d0,eD,uK<|aD ∅,λp hp=>?_⟩;let u:=ag hp<|.lst<|S++ys;let I:upd c p (.lst<|S++ys) p=Kg (.lst<|S++ys):=ae;generalize upd c p (.lst<|S++ys)=C at u I⊢;let O:=B.trans u;let(b,b5,X):=lV (P:=λj (a:Str×V)=>∃(t:Ak)(d:Ak)(g:PD),(S++ys)[j]?=Kg (.ref t)/\C t=Kg (.tup [.str a.1,.ref d])/\a.2=.ref d/\(bnm v o L)[j]?=Kg a.1/\iE Y.m Y.n C d g.k/\∀(i:Nat),v[i]?=Kg a.1->ds[i]?=Kg g) (o+L.length) λj hj=>by
    by_cases a5:j<o
    .let(r,er,R,g,d,h1,h2,h3,h4):=l.facts.2 j j<|qB a5;refine⟨(R,.ref d),r,d,g,by rw[hY ∅];exact er,O _ _ h3,U,?_,h4.same O,λi ei=>?_⟩
     .unfold bnm;rw[hY (by rw[eV];lia),jR,Ko a5];exact h1
     .rw[cH l.ok.nd ei h1];exact h2
    .let b6:j-o<L.length:=∅
     have ek:=GC b6;let(t,g,d,h1,h2,h3,h4):=hy (j-o) _ ∅ ek;let b0:=l.tn<|GG ek;refine⟨(tnm v o L[j-o],.ref d),t,d,g,by rw[iJ ∅,c2];exact h1,u _ _ h3,U,?_,h4.same O,λi ei=>?_⟩
     .unfold bnm;rw[iJ (by rw[eV];lia),eV,show j-min o v.length=j-o by lia,dy,ek];rfl
     .rw[cH l.ok.nd ei b0];exact h2
   let mL:b.map (·.1)=bnm v o L:=by
    refine pk λj=>?_
    rw[dy];cases e:b[j]? with
    |none =>
     have d6:b.length<=j:=by rw[List.getElem?_eq_none_iff]at e;exact e
     rw[jU (by unfold bnm;rw[gp,eV,dn];lia)];rfl
    |some a =>
     let(t,d,g,_,_,_,e4,_):=X j a e;rw[e4];rfl
   refine⟨p,S++ys,b,U,I,by rw[gp,b5];lia,λj a ea=>?_,by rw[mL];exact l.bnd_,λM c6=>?_⟩
   .let(t,d,g,e1,e2,e3,_):=X j a ea;exact⟨t,e1,by rw[e3];exact e2⟩
   .let u2:=ag c6<|.dK<|kvT b;calc⟨O.trans u2,M,b,ae,λj z g ez ed=>?_,U⟩;let hm:=l.has<|GG ez;rw[←mL]at hm;let(a,ha,rfl):=eH.mp hm;let(i,ei):=gT ha;let(t,d,a4,e1,e2,e3,e4,e5,e6):=X i a ei;let:=e6 j ez;rw[ed]at this;cases this;calc⟨d,?_,e5.same u2⟩;rw[←e3];exact pQ (by rw[mL];exact l.bnd_) ei
 rintro d3 H1 ⟨s1,M,b,d1,EK,rfl⟩;calc⟨_,U,ma,U,⟨_,SqL.of<|s1 _ _ J⟩,bD (xs:=mv) (λi G c=>ao H1 c/\∃c3 c4 c5:Option V,G=[Kg (.ref fa),Kg<|.ref ma,Kg<|.ref M,c3,c4,c5]) ⟨ao.refl _,_,_,_,U⟩ (λi G c _ h=>SqL.of<|h.1 _ _<|s1 _ _ J) (λi y G c e h=>?_)<|λG c h=>q c<|s1.trans h.1⟩;let(B,c3,c4,c5,rfl):=h;let(t_,k,rfl,ek,N,R,g,ou,dv,g1,g2,g3,g4,g5,g6):=ay.get l.tabs e;let(rl,dx,na,dl,fs,xs,ht,f1,f2,f3,f4,f5,f6,Z,a2,c9,hR,jN):=g4;let sA:=s1.trans B;let W:=l.ok.lt g1;let a8:∀j∈N.cols,j<v.length:=λj hj=>by rw[a9];exact W j hj
 let gz:=ck (os:=N.cols) (xs:=v) a8;let gk:=ck (os:=N.cols) (xs:=ds.map PD.k) λj hj=>by rw[dn];exact W j hj
 calc⟨_,U,t_,_,_,_,_,U,sA _ _ ht,bl.k_Table,bl.na_Table_names,f5,_,U,t_,_,_,_,_,U,sA _ _ ht,bl.k_Table,bl.na_Table_domains,f6,na,dl,U,⟨_,SqL.of<|sA _ _ Z⟩,⟨_,SqL.of<|sA _ _ a2⟩,pB (xs:=(prm N.cols v).map V.str) (ys:=dv) (λi G C=>ao c C/\∃c4 c5:Option V,G=[Kg (.ref fa),Kg<|.ref ma,Kg<|.ref M,Kg<|.ref t_,c4,c5]) ⟨ao.refl _,_,_,U⟩ (λi G C h=>⟨SqL.of<|(sA.trans h.1) _ _ Z,SqL.of<|(sA.trans h.1) _ _ a2⟩) (λi x y G C T ex ey h hT=>?_)<|λG C h=>⟨B.trans h.1,let ⟨c4,c5,e⟩:=h.2;⟨_,c4,c5,e⟩⟩⟩;let(O,d4,d5,rfl):=h;let(z,rfl,ez):=dD ex;let(a,kk,rfl,a0,ha):=ay.get g5 ey;let hi:i<N.cols.length:=by rw[←gz.1];exact(GD.mp ez).1
 let ec:=GC hi;rw[gz.2 i _ ec]at ez;rw[gk.2 i _ ec,dy]at a0;let(p,I):∃p,ds[N.cols[i]]?=Kg p:=⟨_,GC<|W _<|GG ec⟩;rw[I]at a0;cases a0;let(d,c8,c7):=EK _ z p ez I;let u:=ag hT<|.tup [.str z,.ref a];let eT:upd C T (.tup [.str z,.ref a]) T=Kg (.tup [.str z,.ref a]):=ae;generalize upd C T (.tup [.str z,.ref a])=H3 at u eT⊢;let sB:=(B.trans O).trans u;calc⟨T,_,U,SqT.of eT,U,_,_,U,_,_,U,U,?_⟩;calc⟨_,U,_,U,_,U,M,b,z,.ref d,U,U,sB _ _ d1,c8,a,d,p.k,U,(ha.same s1).same sB,c7.same sB,_,U,bR ⟨O.trans u,_,_,U⟩⟩
theorem EL(F:Fun K "refuse_rings" "refuse_rings" Y80 f fd) (bl:Bl K mg Y)(fY:Callee P w K mg base 1 "named_among" ["table","names"] (d7 K Y)):aN P w K mg base CX0 2 f fd ["tables"] (eR K Y):=by
 refine F.okA Z80 λc1 A a9 s H vs Q E hr h=>?_
 let(X,mv,zs,ds,g,c,L,rfl,a7,ok,hm,a6,h7,q):=h
 refine⟨_,(az (aI (i:=1) Z80.nd U (Or.inl U)<|pv 0)
  (ah (vY GP.never (dR (pv 1) (by intro _;rfl))
  (ar (aI (i:=2) Z80.nd U (Or.inr U)<|bK (aO<|pv 1) (bJ U (~~~0) (~~~0) (~~~0) U) U (λ_ _ _ _=>aV)<|λ_ _ _ _=>(kr (K:=K) U (pv 0) U))
  (ar (eZ (i:=3) Z80.nd U (Or.inl U) (aO<|pv 1) (aW (N:=["table","names"]) (fr:=[2]) (cl:=[("names",s.heap.objs.size+1)]) U U (~~~0) (~~~0) U (~~~0) U U U (fZ.mpr ⟨U,gZ _⟩) U) U (λ_ _ _ _=>(fI<|oF (K:=K) U<|aR fY hr U<|aa (pv 0)<|aa (pv 1) af))<|λ_ _ _ _=>(pv 0))
  (az (aQ (aL cV (aw av U bl.len_ Kf<|aa (pv 3) af) (aw av U bl.len_ Kf<|aa (pv 1) af)<|aP _)
  (ah bz)
  aJ)
  (ah<|aI (i:=1) Z80.nd U (Or.inl U)<|pv 3))))))),?_⟩
 show(let r1:TS:=_;bA _ r1 _ _ _);intro _;calc⟨_,U,?_⟩;calc⟨λm σ x=>ao H x/\∃(v:Ak)(r:La V)(a:La Nat)(c2 Z:Option V),x v=Kg (.lst r)/\ay r a (TbA Y.o Y.m Y.n H zs ds g c)/\(∀k∈a,k<g.length)/\a.length=m/\m<=7/\σ=[Kg (.ref X),Kg<|.ref v,c2,Z],⟨_,ao.refl _,X,mv,L,_,_,a7,hm,a6,U,h7,U⟩,?_⟩;rintro m σ H1 ⟨s1,v,r,a,c2,Z,p,hv,CF,a5,b4,rfl⟩;let I:r.length=a.length:=hv.1;by_cases M:a=[]
 .let a8:r=[]:=lK.mp (by rw[I,M];rfl);subst a8;exact⟨_,U,Kj,.inl ⟨_,SqL.of p,U⟩,bR<|q H1 s1⟩
 let hb:(!r.isEmpty)=true:=by
  cases r with
  |nil=>exact Kp (lK.mp I.symm) M
  |cons=>rfl
 calc⟨_,U,Ki,.inl ⟨_,SqL.of p,hb.symm⟩,dS ⟨λB x=>∃m',m'<m/\ao H x/\∃(v:Ak)(r:La V)(a:La Nat)(c2 Z:Option V),x v=Kg (.lst r)/\ay r a (TbA Y.o Y.m Y.n H zs ds g c)/\(∀k∈a,k<g.length)/\a.length=m'/\m'<=7/\B=[Kg (.ref X),Kg<|.ref v,c2,Z],λ_ _ h=>h,?_⟩⟩;refine⟨λB x=>ao H1 x/\∃O:Ak,x O=Kg (.lst<|(a.map<|tnm zs c).map V.str)/\B=[Kg (.ref X),Kg<|.ref v,Kg<|.ref O,Z],?_,?_⟩
 .refine⟨_,U,v,U,⟨_,SqL.of p⟩,bj (xs:=r) (λu i t J=>ao H1 J/\J u=Kg (.lst t)/\t=((a.take i).map<|tnm zs c).map V.str) (λu b=>⟨ag b _,ae,U⟩) (λu i t J b _ h=>SqL.of<|h.1 _ _ p) (λu i y t J b e h=>?_)<|λu t J b h=>?_⟩
  .let(G,d,rfl):=h;let(t_,k,rfl,ek,C,nm,po,ou,dv,g1,g2,g3,g4,g5,g6):=ay.get hv e;let(rl,dx,O,dl,fs,xs,ht,f1,f2,f3,f4,f5,f6,a3,c0,b6,hR,jN):=g4;let hi:i<r.length:=(GD.mp e).1;refine⟨_,U,t_,_,_,_,_,U,(s1.trans G) _ _ ht,bl.k_Table,bl.na_Table_name,f2,b7.mk hi d (aD (by rw[dn,dn,eV];lia)) ⟨G.upd b,ae,?_⟩⟩;rw[take_snoc ek,dz,dz];show _++[V.str nm]=_++[V.str (tnm zs c k)];rw[dN g2]
  .let(G,d,rfl):=h;rw[I,fD]at d;exact⟨G,u,d,U⟩
 rintro b1 J ⟨G,O,a3,rfl⟩;let a0:=s1.trans G;refine⟨λB x=>ao J x/\∃(W:Ak)(T:La V),x W=Kg (.lst T)/\ay T (a.filter<|wts g c a) (TbA Y.o Y.m Y.n H zs ds g c)/\B=[Kg (.ref X),Kg<|.ref v,Kg<|.ref O,Kg (.ref W)],?_,?_⟩
 .refine⟨_,U,v,U,⟨_,SqL.of<|G _ _ p⟩,bj (xs:=r) (λu i t S=>ao J S/\S u=Kg (.lst t)/\ay t ((a.take i).filter<|wts g c a) (TbA Y.o Y.m Y.n H zs ds g c)) (λu b=>⟨ag b _,ae,ay.nil⟩) (λu i t S b _ h=>SqL.of<|(G.trans h.1) _ _ p) (λu i y t S b e h=>?_)<|λu t S b h=>?_⟩
  .let(D,d,R):=h;let(t_,k,rfl,ek,hT):=ay.get hv e;let(C,nm,po,ou,dv,g1,g2,g3,g4,g5,g6):=id hT;let hi:i<r.length:=(GD.mp e).1;let sA:=a0.trans D;let a1:=(ok.tabs k C g1).ok.few;let a1:C.cols.length<=3:=a1;let b3:(prm C.cols zs).length=C.cols.length:=(ck (os:=C.cols) (xs:=zs) λj hj=>by rw[ok.len];exact ok.lt g1 j hj).1;calc⟨_,U,_,U,t_,O,ou,nm,C.way,prm C.cols zs,a.map<|tnm zs c,dv,C.rows,U,g4.same sA,D _ _ a3,∅,λl H4 s4 nl el=>?_⟩;let hw:=vK ok CF g1;let a4:=s4 _ _ d;let b5:((a.take i).filter<|wts g c a).length<=i:=tT (iK ..) (by rw[eV];lia);let hf:((a.take<|i+1).filter<|wts g c a)=((a.take i).filter<|wts g c a)++(if wts g c a k then[k] else[]):=by
    rw[take_snoc ek,jy]
    congr 1
    cases h:wts g c a k with
    |true=>rw[nF h,jS];rfl
    |false=>rw[nL (by rw[h];exact Bool.false_ne_true),jS];rfl
   refine⟨wts g c a k,.inl ⟨_,SqL.of el,?_⟩,?_⟩
   .rw[←hw];cases (prm C.cols zs).filter λz=>(a.map<|tnm zs c).contains z <;> rfl
   cases hc:wts g c a k with
   |true =>
    rw[hc]at hf;refine dS ⟨_,U,b7.mk hi a4 (aD (by rw[R.1];lia)) ⟨(D.trans s4).upd b,ae,?_⟩⟩;rw[hf];exact ay.snoc R hT
   |false =>
    rw[hc]at hf;calc bR<|eX.mk (zs:=t) hi ⟨D.trans s4,a4,?_⟩;rw[hf];simpa using R
  .let(D,d,R):=h;rw[I,fD]at R;exact⟨D,u,t,d,R,U⟩
 rintro b0 S ⟨D,W,T,a2,hw,rfl⟩;let CG:=xK ok M;let b2:T.length=(a.filter<|wts g c a).length:=hw.1;refine⟨_,U,W,_,U,.inl<|SqL.of a2,_,U,v,_,U,.inl<|SqL.of<|D _ _<|G _ _ p,U,_,U,cg (λz=>by injection z with z;lia) ?_⟩;calc⟨_,U,_,by rw[←a5];exact CG,a0.trans D,W,T,_,_,_,a2,hw,(λk hk=>CF k (hQ.mp hk).1),U,∅,U⟩
theorem EM(F:Fun K "asks" "asks" Y42 f fd) (bl:Bl K mg Y)(fY:Callee P w K mg base 1 "named_among" ["table","names"] (d7 K Y)) (jO:ba P w K mg base 1 "table_of" ["book","name"] (fO K Y)):aN P w K mg base (CX1 P w) 2 f fd ["book","name"] (pS K Y):=by
 refine F.okEA Z42 λa5 A I s H vs Q E M h=>?_
 let(b,B,n,ds,R,z,v,L,rfl,m,hs,q,X):=h;calc⟨_,(ah<|aG<|aR fY M U<|aa (dY jO gh M U<|aa (pv 0)<|aa (pv 1) af)<|aa (bK (aO<|aY (pv 0) U) (bJ U (~~~0) (~~~0) (~~~0) U) U (λ_ _ _ _=>aV)<|λ_ _ _ _=>(kr (K:=K) U (pv 0) U)) af),?_⟩;let(dx,fs,S,fb,gv,hb,ft,u,_):=m.bk;let G:v.length=L.length:=m.tabs.1;let h7:=m.few;calc⟨_,U,_,U,b,B,n,ds,R,z,v,L,U,m,hs,λa k _ _ _ hk hn hT=>?_,X⟩;let(d,D,Z,J,O,x,N,g3,C,g5,g6):=id hT;let a1:d.cols.length<=3:=(m.ok.tabs k d x).ok.few;let a0:(prm d.cols n).length=d.cols.length:=(ck (os:=d.cols) (xs:=n) λj hj=>by rw[m.ok.len];exact m.ok.lt x j hj).1;refine⟨_,U,b,_,_,_,_,U,hb,bl.k_Book,bl.na_Book_tables,ft,S,U,⟨_,SqL.of u⟩,bj (xs:=v) (λp i r t=>ao H t/\t p=Kg (.lst r)/\r=((L.take i).map<|tnm n z).map V.str) (λp c=>⟨ag c _,ae,U⟩) (λp i r t c _ h=>SqL.of<|h.1 _ _ u) (λp i y r t c e h=>?_)<|λp r t c h=>?_⟩
 .let(o,g,rfl):=h;let(T,k,rfl,ek,d,B,Z,J,O,x,N,g3,C,g5,g6):=ay.get m.tabs e;let(rl,dx,na,dl,fs,xs,ht,f1,f2,f3,f4,f5,f6,a3,a4,a2,hR,jN):=C;let hi:i<v.length:=(GD.mp e).1;refine⟨_,U,T,_,_,_,_,U,o _ _ ht,bl.k_Table,bl.na_Table_name,f2,b7.mk hi g (aD (by rw[dn,dn,eV];lia)) ⟨o.upd c,ae,?_⟩⟩;rw[take_snoc ek,dz,dz];show _++[V.str B]=_++[V.str (tnm n z k)];rw[dN N]
 .let(o,g,rfl):=h;rw[G,fD]at g;calc⟨a,p,J,D,d.way,prm d.cols n,L.map<|tnm n z,O,d.rows,U,C.same o,g,∅,λl H4 W nl el=>q k d l H4 hk hn x (o.trans W) (o.free nl) el⟩
theorem EN(F:Fun K "fits" "fits" Y44 f fd) (bl:Bl K mg Y)(Z:Callee P w K mg base 1 "holds" ["spans","number"] (m9 K Y)):aN P w K mg base CX0 2 f fd ["table","k","codes"] (pT K Y):=by
 refine F.okA Z44 λa1 A I s H vs Q E hr h=>?_
 let(t,rl,c,dx,fs,xs,a0,k,b,g,rfl,ht,hf,hl,hR,ek,L,X,q):=h
 refine⟨_,(az (aI (i:=3) Z44.nd U (Or.inl U)<|aF bc (aF aH (aY (pv 0) U) (pv 1)<|λ_ _=>U) ai<|λ_ _=>U)
  (az (bg GP.never U (sQ U bl.zip_<|aa (pv 3)<|aa (pv 2) af) (dQ U<|aM (aE (i:=4) Z44.nd U<|Or.inl U)<|aM (aE (i:=5) Z44.nd U<|Or.inl U) bS)
  (ah (aQ (cY<|dJ<|aR Z hr U<|aa (pv 4)<|aa (pv 5) af)
  (ah<|aG cG)
  aJ)))
  (ah<|aG cG))),?_⟩
 show(let r2:TS:=_;let r1:TS:=bA _ r2;bA _ r1 _ _ _);intro _ _;let(r,er,W,cv,e1,_,S,m):=hR.2 k b ek;calc⟨_,U,t,_,_,_,_,U,ht,bl.k_Table,bl.na_Table_rows,hf,_,U,rl,_,_,_,U,U,SqL.of hl,aK er,r,_,_,_,U,U,SqT.of e1,U,?_⟩;refine⟨_,U,_,U,W,c,U,⟨_,SqL.of S⟩,⟨_,L⟩,pB (xs:=cv) (ys:=g.map V.int) (λi o a=>ao H a/\(∀j,j<i->inP (b.1.getD j []) (g.getD j 0)=Ki)/\∃B z:Option V,o=[Kg (.ref t),Kg<|.int k,Kg<|.ref c,Kg<|.ref W,B,z]) ⟨ao.refl _,(λj h=>Kp h<|v5 j),_,_,U⟩ (λi o a h=>⟨SqL.of<|h.1 _ _ S,h.1.seq L⟩) (λi x y o a T ex ey h hT=>?_)<|λo a h=>?_⟩
 .let(u,C,B,z,rfl):=h;let p:=u.trans<|ag hT<|.tup [x,y];let R:upd a T (.tup [x,y]) T=Kg (.tup [x,y]):=ae;generalize upd a T (.tup [x,y])=H2 at p R⊢;let(l,v,rfl,ep,D):=ay.get m ex;let(_,ys,el,hp):=D.same p;let(n,rfl,O):=of_map ey;calc⟨T,_,U,SqT.of R,U,_,_,U,_,_,U,U,?_⟩;calc⟨_,U,_,U,l,ys,v,n,U,SqL.of el,hp,_,U,?_⟩;let N:b.1.getD i []=v:=by rw[hJ,ep];rfl
  let M:g.getD i 0=n:=by rw[hJ,O];rfl
  cases hin:inP v n with
  |true =>
   calc bR ⟨p,λj J=>?_,_,_,U⟩;by_cases G:j<i
   .exact C j G
   .let:j=i:=∅
    subst this;rw[N,M];exact hin
  |false =>
   calc dS ?_;let e:nJ b.1 g=false:=by
    unfold nJ;rw[List.all_eq_false];calc⟨i,hC.mpr (GD.mp O).1,?_⟩;rw[N,M,hin];decide
   let d:=q H2 p;rw[e]at d;exact d
 .let(u,C,B,z,rfl):=h;let e:nJ b.1 g=true:=by
   unfold nJ;rw[iv];intro j J;calc C j ?_;let h1:=m.1;rw[dn];let:=hC.mp J;lia
  let d:=q a u;rw[e]at d;calc d
theorem EO(F:Fun K "_law_domain" "_law_domain" Y54 f fd) (bl:Bl K mg Y)(N:Callee P w K mg base 1 "_law_words" ["cell","count"] (fe K Y)):aN P w K mg base CX0 2 f fd ["cell"] (fU K Y):=by
 refine F.okA Z54 λZ A u s H vs Q E e h=>?_
 let(c,rfl,q):=h
 refine⟨_,(ar (aI (i:=1) Z54.nd U (Or.inl U)<|aC cJ (aC aU (aC bq (pv 0) ai)<|aC l7 ai ai)<|aC ir ai<|aC l7 ai ai)
  (ar (aI (i:=2) Z54.nd U (Or.inl U)<|aC aU (aC bq (pv 0) ai)<|aC l7 ai ai)
  (az (aQ (aL cV (aC aU (pv 0) ai) ai<|aP _)
  (az (aI (i:=3) Z54.nd U (Or.inl U)<|aR N e U<|aa (aC bq (pv 0) ai)<|aa (aC bB ai<|aC aU (aC bq (pv 0) ai) ai) af)
  (ah<|aG<|bC<|aa ai<|aa (aC cJ (aw av U bl.len_ Kf<|aa (pv 3) af) ai)<|aa (pv 3) af))
  aJ)
  (ar (aQ (aL cV (aC aU (pv 0) ai) ai<|aP _)
  (ah<|aI (i:=2) Z54.nd U (Or.inl U)<|aC aU (aC bq (pv 0) ai) ai)
  aJ)
  (ah<|aG<|bC<|aa (pv 1)<|aa (aC bB (pv 1)<|pv 2)<|aa (bh af) af))))),?_⟩
 show(let D:TS:=_;let G:TS:=bu _ D;let I:TS:=bA _ G;let J:TS:=bu _ I;bu _ J _ _ _);intro _ _ _ _;let k1:(10^30:Nat)*10=10^31:=⋯
 let k2:(10^29:Nat)*100=10^31:=⋯
 let k3:(1000:Nat)<=10^31:=⋯
 refine⟨λd g=>g=H/\∃lo:Int,-(5*((10^29:Nat):Int))<=lo/\lo<((10^30:Nat):Int)/\d=[Kg (.int c),Kg<|.int lo,Kh,Kh],?_,?_⟩
 .let b:=w5 (c / 3)<|Int.ne_of_gt<|p10 (30:Int).toNat;let a:=xc (c / 3)<|p10 (30:Int).toNat;refine⟨_,U,_,_,U,U,⟨⋯,⋯⟩,_,_,U,U,⟨⋯,⋯,⋯⟩,_,_,U,U,p10 _,_,_,U,U,⟨⋯,⋯,⋯⟩,_,_,U,U,.inl ⟨⋯,⋯⟩,_,_,U,U,U,_,?_,?_,U⟩
  .rw[p30]at b a⊢;rw[p29];generalize ((10^30:Nat):Int)=A at b a⊢;generalize ((10^29:Nat):Int)=B at *
   lia
  .rw[p30]at b a⊢;rw[p29];let:(0:Int)<=((10^29:Nat):Int):=xu _;generalize ((10^30:Nat):Int)=A at b a⊢;generalize ((10^29:Nat):Int)=B at *
   lia
 rintro X S ⟨rfl,lo,g0,g1,rfl⟩;refine⟨λd g=>g=S/\∃w:Int,0<=w/\w<((10^30:Nat):Int)/\d=[Kg (.int c),Kg<|.int lo,Kg<|.int w,Kh],?_,?_⟩
 .let b:=w5 (c / 7)<|Int.ne_of_gt<|p10 (30:Int).toNat;let a:=xc (c / 7)<|p10 (30:Int).toNat;calc⟨_,U,_,_,U,U,⟨⋯,⋯⟩,_,_,U,U,⟨⋯,⋯,⋯⟩,_,_,U,U,p10 _,U,_,b,?_,U⟩;rw[p30]at a⊢;exact a
 rintro W R ⟨rfl,w,m,k,rfl⟩;refine⟨_,U,_,_,U,U,(by show(0:Int)<3;decide),U,_,U,?_⟩;refine cQ (λ_=>?_)<|λ_=>?_
 .let y0:=w5 (c / 3) (show(6:Int)≠0 by decide);let y1:=xc (c / 3) (show(0:Int)<6 by decide);let(n,O):∃n:Nat,1+c / 3%6=(n:Int):=⟨_,(xt ∅).symm⟩;refine⟨_,U,_,_,U,U,⟨⋯,⋯⟩,_,U,_,_,U,U,⟨⋯,⋯⟩,_,_,U,U,(by show(0:Int)<6;decide),_,_,U,U,c / 18,n,by rw[←O],∅,λl t v L p=>?_⟩;let y:=xG (c:=c / 18) (n:=n) ∅ ∅;let j:=kB (c / 18) n;generalize lws (c / 18) n=zs at p y j;let M:(zs.map V.str).length=zs.length:=dn _;refine⟨_,U,l,_,U,.inl<|SqL.of p,_,_,U,U,_,U,(by show 3<=AA;decide),λr e=>?_⟩;refine q r ⟨0,((zs.map V.str).length:Int)-1,zs,[]⟩ _ (v.trans<|ag e _) ⟨l,v.free e,L,ae,ag e _ _ _ p⟩ ⟨by show(0:Int)<=((zs.map V.str).length:Int)-1;lia,λ_=>⟨y,U,by show((zs.map V.str).length:Int)-1=hiW zs;unfold hiW;rw[M]⟩,(λx b a=>?_),qY (by show -((10^31:Nat):Int)<=(0:Int)-1;generalize (10^31:Nat)=C at *;lia) (by show(0:Int)-1<=((10^31:Nat):Int);generalize (10^31:Nat)=C at *;lia),qY (by show -((10^31:Nat):Int)<=((zs.map V.str).length:Int)-1+1;generalize (10^31:Nat)=C at *;lia) (by show((zs.map V.str).length:Int)-1+1<=((10^31:Nat):Int);generalize (10^31:Nat)=C at *;lia)⟩;let b:0<=x:=b;let a:x<=((zs.map V.str).length:Int)-1:=a;exact Cy b ∅
 refine⟨λd g=>g=R/\∃w:Int,0<=w/\w<((10^30:Nat):Int)/\d=[Kg (.int c),Kg<|.int lo,Kg<|.int w,Kh],?_,?_⟩
 .refine⟨_,U,_,_,U,U,(by show(0:Int)<3;decide),U,_,U,?_⟩;calc cQ (λ_=>?_)<|λ_=>⟨U,w,m,k,U⟩;let b:=w5 (c / 7) (show(9:Int)≠0 by decide);let a:=xc (c / 7) (show(0:Int)<9 by decide);refine⟨_,U,_,_,U,U,⟨⋯,⋯⟩,_,_,U,U,(by show(0:Int)<9;decide),U,_,b,?_,U⟩;let:(9:Int)<=((10^30:Nat):Int):=⋯
  exact Int.lt_of_lt_of_le a this
 clear m k w;rintro T t ⟨rfl,w,m,k,rfl⟩;refine⟨_,U,_,U,_,U,_,_,U,U,(by show 0<=AA;decide),λl j=>?_⟩;let o:=ag j<|.lst [];let z:upd t l (.lst []) l=Kg (.lst []):=ae;generalize upd t l (.lst [])=H4 at o z⊢;refine⟨(by show 3<=AA;decide),λr e=>?_⟩;refine q r ⟨lo,lo+w,[],[]⟩ _ (o.trans<|ag e _) ⟨l,o.free e,j,ae,ag e _ _ _ z⟩ ⟨by show lo<=lo+w;lia,λh=>Kp U h,(λx b a=>?_),qY (by show -((10^31:Nat):Int)<=lo-1;generalize (10^30:Nat)=A at *;generalize (10^29:Nat)=B at *;generalize (10^31:Nat)=C at *;lia) (by show lo-1<=((10^31:Nat):Int);generalize (10^30:Nat)=A at *;generalize (10^29:Nat)=B at *;generalize (10^31:Nat)=C at *;lia),qY (by show -((10^31:Nat):Int)<=lo+w+1;generalize (10^30:Nat)=A at *;generalize (10^29:Nat)=B at *;generalize (10^31:Nat)=C at *;lia) (by show lo+w+1<=((10^31:Nat):Int);generalize (10^30:Nat)=A at *;generalize (10^29:Nat)=B at *;generalize (10^31:Nat)=C at *;lia)⟩;let b:lo<=x:=b;let a:x<=lo+w:=a;refine qY ?_ ?_
 .generalize (10^30:Nat)=A at *
  generalize (10^29:Nat)=B at *
  generalize (10^31:Nat)=C at *
  lia
 .generalize (10^30:Nat)=A at *
  generalize (10^29:Nat)=B at *
  generalize (10^31:Nat)=C at *
  lia
theorem ER(F:Fun K "_law_row" "_law_row" Y62 f fd) (bl:Bl K mg Y)(pW:Callee P w K mg base 1 "_law_spans" ["kind","one","two","domain"] (gI K Y)):aN P w K mg base CX0 2 f fd ["columns","domains","pools","own","number"] (jM K Y):=by
 refine F.okA Z62 λe0 A d0 s H vs Q E hr h=>?_
 let(Z,X,I,J,n,o,dv,d5,ds,rfl,a6,c4,c3,L,a5,c0,b6,d6,q):=h
 refine⟨_,(ar (aI (i:=5) Z62.nd U (Or.inl U)<|bh af)
  (ar (bg GP.never U (aO<|pv 0) (aE (i:=6) Z62.nd U<|Or.inl U)
  (ar (aI (i:=7) Z62.nd U (Or.inl U)<|aw av U bl.len_ Kf<|aa (aF aH (pv 2) (pv 6)<|λ_ _=>U) af)
  (ar (aI (i:=8) Z62.nd U (Or.inl U)<|aF aH (aF aH (pv 2) (pv 6)<|λ_ _=>U) (aC aU (pv 4)<|pv 7)<|λ_ _=>U)
  (ar (aI (i:=9) Z62.nd U (Or.inl U)<|aF aH (aF aH (pv 2) (pv 6)<|λ_ _=>U) (aC aU (aC bq (pv 4)<|pv 7)<|pv 7)<|λ_ _=>U)
  (ar (aI (i:=4) Z62.nd U (Or.inl U)<|aC bq (aC bq (pv 4)<|pv 7)<|pv 7)
  (az (aT<|fh PySem.F.plainAttrs_list PySem.F.slot_list_append PySem.F.type_list_append cz (pv 5)<|aa (aR pW hr U<|aa (aC aU (pv 4) ai)<|aa (aw (iU U) U bl.min_ PyProof.Rows.boot_min<|aa (pv 8)<|aa (pv 9) af)<|aa (aw (kP U) U bl.max_ PyProof.Rows.boot_max<|aa (pv 8)<|aa (pv 9) af)<|aa (aF aH (pv 1) (pv 6)<|λ_ _=>U) af) af)
  (ah<|aI (i:=4) Z62.nd U (Or.inl U)<|aC bq (pv 4) ai)))))))
  (ah<|aG<|bC<|aa (pv 5)<|aa (aF aH (aF aH (pv 2) (pv 3)<|λ_ _=>U) (aC aU (pv 4)<|aw av U bl.len_ Kf<|aa (aF aH (pv 2) (pv 3)<|λ_ _=>U) af)<|λ_ _=>U) af))),?_⟩
 show(let r2:TS:=_;let r1:TS:=bu _ r2;bu _ r1 _ _ _);intro _ _;refine⟨λc B=>ao H B/\∃m:Ak,H m=Kh/\B m=Kg (.lst [])/\c=[Kg (.ref Z),Kg<|.ref X,Kg<|.ref I,Kg<|.int (J:Int),Kg<|.int n,Kg<|.ref m,Kh,Kh,Kh,Kh],⟨(by show 0<=AA;decide),λl N=>⟨ag N _,l,N,ae,U⟩⟩,?_⟩;rintro d4 H2 ⟨s2,m,a4,c5,rfl⟩;refine⟨λc B=>ao H B/\∃(G:La V)(b:La Prs)(n:Int)(c6 c7 c8 c9:Option V),B m=Kg (.lst G)/\CL (Fr H m) B G b/\b.length=o.length/\(∀(j k:Nat)(g:Prs)(p:PD),b[j]?=Kg g->o[j]?=Kg k->ds[k]?=Kg p->∀x∈g,(p.lo<=x.1/\x.1<=x.2/\x.2<=p.hi)/\EdP p x)/\(∀g∈b,g.length<=2)/\c=[Kg (.ref Z),Kg<|.ref X,Kg<|.ref I,Kg<|.int (J:Int),Kg<|.int n,Kg<|.ref m,c6,c7,c8,c9],?_,?_⟩
 .refine⟨_,U,Z,U,⟨_,SqL.of<|s2 _ _ a6⟩,bD (xs:=vN o) (λi σ B=>ao H B/\∃(G:La V)(b:La Prs)(n:Int)(c6 c7 c8 c9:Option V),B m=Kg (.lst G)/\CL (Fr H m) B G b/\b.length=i/\(∀(j k:Nat)(g:Prs)(p:PD),b[j]?=Kg g->o[j]?=Kg k->ds[k]?=Kg p->∀x∈g,(p.lo<=x.1/\x.1<=x.2/\x.2<=p.hi)/\EdP p x)/\(∀g∈b,g.length<=2)/\σ=[Kg (.ref Z),Kg<|.ref X,Kg<|.ref I,Kg<|.int (J:Int),Kg<|.int n,Kg<|.ref m,c6,c7,c8,c9]) ⟨s2,[],[],n,_,_,_,_,c5,ay.nil,U,(λj k g p e=>by simp at e),(λg h=>by cases h),U⟩ (λi σ B _ h=>SqL.of<|h.1 _ _ a6) (λi y σ B ey hh=>?_) (λσ B hh=>?_)⟩
  .let(M,G,b,n,c6,c7,c8,c9,ez,hz,N,C,sj,rfl):=hh;let(k,rfl,ek):=oM ey;let hk:=c0 k<|GG ek;let hi:i<o.length:=(GD.mp ek).1;let ep:=GC hk;let(a0,e1,d):=a5.2 k _ ep;let(da,e2,W):=c3.2 k _ ep;generalize ds[k]=p at ep d W;let d:=d.same M;let W:=W.same M;let(_,D,b5,b4,b3):=id d;let Bq:(p.pool.map V.int).length=p.pool.length:=dn _;let t:(0:Int)<((p.pool.length:Nat):Int):=∅
   let a3:((p.pool.length:Nat):Int)<1073741824:=∅
   refine⟨λc v=>v=B/\c=[Kg (.ref Z),Kg<|.ref X,Kg<|.ref I,Kg<|.int (J:Int),Kg<|.int n,Kg<|.ref m,Kg<|.int (k:Int),Kg<|.int ((p.pool.length:Nat):Int),c8,c9],?_,?_⟩
   .refine⟨_,U,_,U,I,_,_,_,U,U,SqL.of<|M _ _ L,aK e1,a0,_,U,.inl<|SqL.of D,U,?_⟩;rw[←Bq];rfl
   rintro d3 H3 ⟨e3,rfl⟩;subst e3;let(one,q1,q2,a1,a2):=d.pick n;calc⟨λc v=>v=H3/\c=[Kg (.ref Z),Kg<|.ref X,Kg<|.ref I,Kg<|.int (J:Int),Kg<|.int n,Kg<|.ref m,Kg<|.int (k:Int),Kg<|.int ((p.pool.length:Nat):Int),Kg<|.int one,c9],⟨_,U,_,U,I,_,_,_,U,U,SqL.of<|M _ _ L,aK e1,_,U,_,U,_,_,U,U,t,a0,_,_,_,U,U,SqL.of D,q1,U,U⟩,?_⟩;rintro d2 H4 ⟨e4,rfl⟩;subst e4;let(two,q3,q4,b1,b2):=d.pick<|n / ((p.pool.length:Nat):Int);calc⟨λc v=>v=H4/\c=[Kg (.ref Z),Kg<|.ref X,Kg<|.ref I,Kg<|.int (J:Int),Kg<|.int n,Kg<|.ref m,Kg<|.int (k:Int),Kg<|.int ((p.pool.length:Nat):Int),Kg<|.int one,Kg (.int two)],⟨_,U,_,U,I,_,_,_,U,U,SqL.of<|M _ _ L,aK e1,_,U,_,U,_,_,U,U,⟨t,a3⟩,_,U,_,_,U,U,t,a0,_,_,_,U,U,SqL.of D,q3,U,U⟩,?_⟩;rintro a9 H5 ⟨e5,rfl⟩;subst e5;calc⟨λc v=>v=H5/\∃n:Int,c=[Kg (.ref Z),Kg<|.ref X,Kg<|.ref I,Kg<|.int (J:Int),Kg<|.int n,Kg<|.ref m,Kg<|.int (k:Int),Kg<|.int ((p.pool.length:Nat):Int),Kg<|.int one,Kg (.int two)],⟨_,U,_,U,_,_,U,U,⟨t,a3⟩,_,U,_,_,U,U,⟨t,a3⟩,U,_,U⟩,?_⟩;rintro d1 H6 ⟨e6,n2,rfl⟩;subst e6;refine⟨_,U,.inl ⟨U,_,SqL.of ez⟩,_,U,_,_,U,U,(by show(0:Int)<8;decide),_,U,_,U,_,_,U,_,U,_,U,_,_,U,_,U,_,U,X,_,_,_,U,U,SqL.of<|M _ _ c4,aK e2,_,_,_,da,p,U,W,?_,?_,?_,λl g H7 s7 CH hb c1 hE=>?_⟩
   .split <;> lia
   .split <;> split <;> lia
   .split <;> lia
   let a7:=s7 _ _ ez;let n4:H6 l=none:=CH.1;let nl:l≠m:=λz=>by rw[z,ez]at n4;cases n4
   let b0:CL (Fr H m) H7 (G++[.ref l]) (b++[g]):=ay.snoc (hz.same s7) ⟨⟨M.free n4,nl⟩,CH.2⟩;let xX:(if two<one then two else one)∈p.pool:=by split <;> assumption
   let Br:(if two>one then two else one)∈p.pool:=by split <;> assumption
   refine⟨m,_,_,U,U,a7,aD (by rw[hz.1];lia),_,U,_,_,U,U,⟨⋯,⋯⟩,(M.trans s7).upd a4,G++[.ref l],b++[g],_,_,_,_,_,ae,b0.updN Fr.out a7,by rw[gp,N];rfl,λj k' T p' O f2 f3=>?_,λT h'=>?_,U⟩
   .by_cases hj:j<b.length
    .rw[hY hj]at O;exact C j k' T p' O f2 f3
    .let c2:j=b.length:=by have:=(GD.mp O).1;simp at this;lia
     subst c2;simp at O;subst O;rw[N,ek]at f2;cases f2;rw[ep]at f3;cases f3;intro x hx;calc⟨hb x hx,?_⟩;let(S,R):=hE x hx;constructor
     .rcases S with S|S|S|S
      .exact .inl S
      .exact .inr<|.inl (by rw[S];exact xX)
      .exact .inr<|.inl (by rw[S];exact Br)
      .exact .inr<|.inr (by rw[S,Int.add_sub_cancel];exact Br)
     .rcases R with R|R|R|R
      .exact .inl R
      .exact .inr<|.inl (by rw[R];exact xX)
      .exact .inr<|.inl (by rw[R];exact Br)
      .exact .inr<|.inr (by rw[R,Int.sub_add_cancel];exact xX)
   .rcases gs.mp h' with h' | h'
    .exact sj T h'
    .rw[show T=g by simpa using h'];exact c1
  .let(M,G,b,n,c6,c7,c8,c9,ez,hz,N,C,sj,rfl):=hh;exact⟨M,G,b,n,_,_,_,_,ez,hz,by rw[N,cC],C,sj,U⟩
 rintro a9 H5 ⟨s5,G,b,n,c6,c7,c8,c9,ez,hz,N,C,sj,rfl⟩;let a8:=GC b6;let(po,e1,d):=a5.2 J _ a8;let d:=d.same s5;let(_,D,b5,b4,b3):=id d;let Bq:((ds[J]).pool.map V.int).length=(ds[J]).pool.length:=dn _;let t:(0:Int)<((((ds[J]).pool.map V.int).length:Nat):Int):=∅
 let(x,q1,_,q3,q4):=d.pick n;rw[←Bq]at q1;calc⟨_,U,_,U,_,U,I,_,_,_,U,U,SqL.of<|s5 _ _ L,aK e1,_,U,_,U,_,U,I,_,_,_,U,U,SqL.of<|s5 _ _ L,aK e1,po,_,U,.inl<|SqL.of D,_,_,U,U,t,po,_,_,_,U,U,SqL.of D,q1,bY,λr hr=>?_⟩;let u:=ag hr<|.tup [.ref m,.int x];calc q r (b,x) _ (s5.trans u) ⟨m,G,ae,a4,u _ _ ez,(hz.same u).wk λa h=>h.1⟩ ⟨N,(λj k g p O f2 f3 y hy=>(C j k g p O f2 f3 y hy).1),sj,(λp ep=>by rw[a8]at ep;cases ep;exact⟨q3,q4⟩),(λj k g p O f2 f3 y hy=>(C j k g p O f2 f3 y hy).2)⟩
theorem ES(F:Fun K "_law_spoilt" "_law_spoilt" Y64 f fd) (bl:Bl K mg Y)(fB:Callee P w K mg base 1 "_law_strange" ["domain","cell"] (d8 K Y)):aN P w K mg base CX0 2 f fd ["plan","facts","wanted","cell"] (fV K Y):=by
 refine F.okA Z64 λg8 A f3 s H vs Q E hr h=>?_
 let(r,fd,I,c,zs,ds,ts,fN,js,fk,rfl,e8,ok,a7,a5,c3,c2,e3,uI,q):=h
 refine⟨_,(ar (jA (pv 0)<|dQ U<|aM (aE (i:=4) Z64.nd U<|Or.inl U)<|aM (aE (i:=5) Z64.nd U<|Or.inl U)<|aM (aE (i:=6) Z64.nd U<|Or.inl U) bS)
  (ar (aI (i:=7) Z64.nd U (Or.inr U)<|aF aH (pv 2) (aC aU (aC bq (pv 3) ai)<|aw av U bl.len_ Kf<|aa (pv 2) af)<|λ_ _=>U)
  (ar (aI (i:=8) Z64.nd U (Or.inl U)<|aF aH (pv 2) (aC aU (aC bq (pv 3) ai)<|aw av U bl.len_ Kf<|aa (pv 2) af)<|λ_ _=>U)
  (ar (aI (i:=9) Z64.nd U (Or.inl U)<|bh af)
  (ar (aQ (PW.pt<|tU (aL cV (aC aU (pv 3) ai) ai<|aP _)<|o6<|aL cV (aC aU (pv 3) ai) ai<|aP _)
  (az (kz hr (pv 1) (aF aH (pv 4) (pv 8)<|λ_ _=>U) (aR fB hr U<|aa (aF aH (pv 5) (pv 8)<|λ_ _=>U)<|aa (aC bq (pv 3) ai) af) U)
  (ah<|aT<|fh PySem.F.plainAttrs_list PySem.F.slot_list_append PySem.F.type_list_append cz (pv 9)<|aa (bC<|aa (pv 8)<|aa (bh<|aa cG<|aa cG<|aa cG<|aa cG af) af) af))
  aJ)
  (ar (aQ (aL BV (aC aU (pv 3) ai) ai<|aP _)
  (ar (aT<|qL (pv 1) (aF aH (pv 4) (pv 7)<|λ_ _=>U) ⟨U,U,U,U⟩)
  (ar (eZ (i:=9) Z64.nd U (Or.inl U) (aO<|pv 9) (aW (N:=["fault","one"]) (fr:=[7]) (cl:=[("one",s.heap.objs.size+1)]) U U (~~~0) (~~~0) U (~~~0) U U U (fZ.mpr ⟨U,gZ _⟩) U) U (λ_ _ _ _=>(fI<|aL tY (aF (dW (K:=K) U) (pv 0) ai<|λ_ _=>U) (pv 1)<|aP _))<|λ_ _ _ _=>(pv 0))
  (ah<|aT<|fh PySem.F.plainAttrs_list PySem.F.slot_list_append PySem.F.type_list_append cz (pv 9)<|aa (bC<|aa (pv 7)<|aa (bh<|aa cG<|aa cG<|aa cG<|aa cG af) af) af)))
  aJ)
  (ar (aQ (aL cV (aw av U bl.len_ Kf<|aa (pv 9) af) ai<|aP _)
  (ah<|aG<|bh af)
  aJ)
  (ah<|aG<|aF bc (aw (vz hr U) U bl.min_ PyProof.Rows.boot_min<|aa (pv 9) af) ai<|λ_ _=>U)))))))),?_⟩
 show(let r7:TS:=_;let r6:TS:=bu _ r7;let r5:TS:=bu _ r6;let r4:TS:=bu _ r5;let r3:TS:=bu _ r4;let r2:TS:=bu _ r3;let r1:TS:=bu _ r2;bu _ r1 _ _ _);intro _ _ _ _ _ _ _;let(J,Z,B,dv,tv,er,c0,e9,e4,g7,f9):=id e8;let h7:=ok.n7;let g4:=ok.len;let g3:=ok.tab;let d3:∀b xs,H b=Kg (.lst xs)->b≠fd:=λb xs e z=>by rw[z,a7]at e;cases e
 calc⟨λd a=>a=H/\d=[Kg (.ref r),Kg<|.ref fd,Kg<|.ref I,Kg<|.int c,Kg<|.ref J,Kg<|.ref Z,Kg<|.ref B,Kh,Kh,Kh],⟨_,U,r,_,U,SqT.of er,U,_,_,U,_,_,U,_,_,U,U,U,U⟩,?_⟩;rintro f8 H1 ⟨e_,rfl⟩;subst e_;refine⟨λd a=>a=H1/\∃k∈js,d=[Kg (.ref r),Kg<|.ref fd,Kg<|.ref I,Kg<|.int c,Kg<|.ref J,Kg<|.ref Z,Kg<|.ref B,Kg<|.int (k:Int),Kh,Kh],?_,?_⟩
 .let(k,O,d6):=zV c3<|c / 4;exact⟨_,U,_,U,_,_,U,U,⟨⋯,⋯⟩,_,U,I,_,U,.inl<|SqL.of a5,_,_,U,U,(by rw[cC];lia),I,_,_,_,U,U,SqL.of a5,d6,U,k,O,U⟩
 rintro f7 H2 ⟨e_,k,O,rfl⟩;subst e_;refine⟨λd a=>a=H2/\∃o∈js,d=[Kg (.ref r),Kg<|.ref fd,Kg<|.ref I,Kg<|.int c,Kg<|.ref J,Kg<|.ref Z,Kg<|.ref B,Kg<|.int (k:Int),Kg<|.int (o:Int),Kh],?_,?_⟩
 .let(o,a3,d5):=zV c3<|c / 12;exact⟨_,U,_,U,_,_,U,U,⟨⋯,⋯⟩,_,U,I,_,U,.inl<|SqL.of a5,_,_,U,U,(by rw[cC];lia),I,_,_,_,U,U,SqL.of a5,d5,U,o,a3,U⟩
 rintro f6 H3 ⟨e_,o,a3,rfl⟩;subst e_;let g1:=c2 k O;let g2:=c2 o a3;let a4:=GC (l:=zs) (i:=k) ∅;generalize zs[k]=z1 at a4;let b6:=GC (l:=zs) (i:=o) ∅;generalize zs[o]=z2 at b6;let a6:=GC (l:=ds) (i:=o) ∅;generalize ds[o]=p2 at a6;let(da,f0,e5):=e4.2 o p2 a6;refine⟨λd a=>ao H3 a/\∃fl:Ak,H3 fl=Kh/\a fl=Kg (.lst [])/\d=[Kg (.ref r),Kg<|.ref fd,Kg<|.ref I,Kg<|.int c,Kg<|.ref J,Kg<|.ref Z,Kg<|.ref B,Kg<|.int (k:Int),Kg<|.int (o:Int),Kg (.ref fl)],⟨(by show 0<=AA;decide),λl hl=>⟨ag hl _,l,hl,ae,U⟩⟩,?_⟩;rintro f5 H4 ⟨s4,fl,b2,c6,rfl⟩;let b3:fl≠fd:=λz=>by rw[z,a7]at b2;cases b2
 refine⟨λd a=>(∀b u,b≠fd->H3 b=Kg u->a b=Kg u)/\∃(G:La (Key×V))(tv:La V)(fs:La (Nat×Nat)),a fd=Kg (.dK G)/\a fl=Kg (.lst tv)/\ay tv fs (FtA fl a)/\jK zs ds fN js fk G fs/\fs.length<=1/\(∀f∈js,∀z,zs[f]?=Kg z->(bx G<|Sum.inr z).isSome=Ki)/\d=[Kg (.ref r),Kg<|.ref fd,Kg<|.ref I,Kg<|.int c,Kg<|.ref J,Kg<|.ref Z,Kg<|.ref B,Kg<|.int (k:Int),Kg<|.int (o:Int),Kg (.ref fl)],?_,?_⟩
 .refine⟨_,U,_,_,U,U,(by show(0:Int)<4;decide),U,_,U,cQ (λ_=>dS ?a1)<|λ_=>⟨_,U,_,_,U,U,(by show(0:Int)<4;decide),U,_,U,cQ (λ_=>?a2)<|λ_=>?b1⟩⟩
  case b1=>exact⟨λb u _ e=>s4 _ _ e,fk,[],[],s4 _ _ a7,c6,ay.nil,jK.start,⋯,uI,U⟩
  all_goals
   calc⟨_,U,_,U,Z,_,_,_,U,U,SqL.of<|s4 _ _ e9,aK f0,_,U,_,_,U,U,⟨⋯,⋯⟩,da,p2,_,U,e5.same s4,ok.doms p2<|GG a6,λv H5 s5 e1 e7 g6=>?_⟩;let b0:=s4.trans s5;let vQ:=b0 _ _ a7;calc⟨_,U,_,U,_,U,J,_,_,_,U,U,SqL.of<|b0 _ _ c0,aK<|cA b6,fd,fk,z2,U,U,vQ,vU e3 ⋯,?_⟩;let zh:=s5 _ _ c6;let k6:∀b u,b≠fd->H5 b=Kg u->upd H5 fd (.dK<|putK fk (Sum.inr z2) v) b=Kg u:=λb u W e=>(aq W).trans e
   let rh:upd H5 fd (.dK<|putK fk (Sum.inr z2) v) fd=Kg (.dK<|putK fk (Sum.inr z2) v):=ae;generalize upd H5 fd (.dK<|putK fk (Sum.inr z2) v)=H6 at k6 rh⊢;let pX:=k6 _ _ b3 zh;refine⟨_,U,.inl ⟨U,_,SqL.of pX⟩,_,U,(by show 4<=AA;decide),λm C=>⟨(by show 2<=AA;decide),λt ht=>?_⟩⟩;let s7:=ag C<|.lst [V.bl Kj,V.bl Ki,V.bl Kj,V.bl Ki];let CI:upd H6 m (.lst [V.bl Kj,V.bl Ki,V.bl Kj,V.bl Ki]) m=Kg (.lst [V.bl Kj,V.bl Ki,V.bl Kj,V.bl Ki]):=ae;generalize upd H6 m (.lst [V.bl Kj,V.bl Ki,V.bl Kj,V.bl Ki])=H7 at s7 CI ht⊢;let s8:=ag ht<|.tup [V.int (o:Int),V.ref m];let c5:upd H7 t (.tup [V.int (o:Int),V.ref m]) t=Kg (.tup [V.int (o:Int),V.ref m]):=ae;generalize upd H7 t (.tup [V.int (o:Int),V.ref m])=H8 at s8 c5⊢;let a9:=s7.trans s8;let CJ:=a9 _ _ pX;refine⟨fl,_,_,U,U,CJ,aD ⋯,λb u W e=>(aq (λz=>by rw[z,b2]at e;cases e)).trans (a9 _ _<|k6 _ _ W<|b0 _ _ e),_,_,[(o,3)],(aq b3.symm).trans<|a9 _ _ rh,ae,?_,jK.put ok.nd a3 b6 a6 e1 e7,tj _,λf hf z e=>?_,U⟩
   .let d1:m≠fl:=λz=>by rw[z,pX]at C;cases C
    exact ay.snoc (xs:=[]) (as:=[]) ay.nil<|FtA.upd ⟨m,d1,c5,s8 _ _ CI⟩ CJ
   .rw[fj];split
    .rfl
    .exact uI f hf z e
 rintro f4 H5 ⟨k5,G,a8,fs,vQ,zh,zi,CK,ET,Bs,rfl⟩;let EU:=k5 _ _ (d3 _ _ c0) c0;let(v1,e0):=yM.mp<|Bs k O z1 a4;refine⟨λd a=>(∀b u,b≠fd->H3 b=Kg u->a b=Kg u)/\∃(R:La (Key×V))(fl:Ak)(tv:La V)(fs:La (Nat×Nat)),a fd=Kg (.dK R)/\a fl=Kg (.lst tv)/\ay tv fs (FtA fl a)/\jK zs ds fN js fk R fs/\fs.length<=2/\d=[Kg (.ref r),Kg<|.ref fd,Kg<|.ref I,Kg<|.int c,Kg<|.ref J,Kg<|.ref Z,Kg<|.ref B,Kg<|.int (k:Int),Kg<|.int (o:Int),Kg (.ref fl)],?_,?_⟩
 .refine⟨_,U,_,_,U,U,(by show(0:Int)<4;decide),_,_,U,U,_,U,cQ (λ_=>?_)<|λ_=>⟨k5,G,fl,a8,fs,vQ,zh,zi,CK,∅,U⟩⟩;calc⟨λd a=>(∀b u,b≠fd->H5 b=Kg u->a b=Kg u)/\a fd=Kg (.dK<|eM G<|Sum.inr z1)/\ay a8 fs (FtA fl a)/\d=[Kg (.ref r),Kg<|.ref fd,Kg<|.ref I,Kg<|.int c,Kg<|.ref J,Kg<|.ref Z,Kg<|.ref B,Kg<|.int (k:Int),Kg<|.int (o:Int),Kg (.ref fl)],⟨_,U,fd,U,.inl ⟨_,.inl vQ⟩,_,U,_,U,J,_,_,_,U,U,SqL.of EU,aK<|cA a4,G,Sum.inr z1,v1,vQ,U,e0,λb u W e=>(aq W).trans e,ae,ay.mono zi<|λ_ _ p=>p.updK vQ,U⟩,?_⟩;rintro c8 H6 ⟨k6,rh,rj,rfl⟩;let pX:=k6 _ _ b3 zh;refine⟨λd a=>ao H6 a/\∃(D:Ak)(T:La V),H6 D=Kh/\a D=Kg (.lst T)/\ay T (fs.filter<|λf=>decide<|f.1≠k) (FtA D a)/\d=[Kg (.ref r),Kg<|.ref fd,Kg<|.ref I,Kg<|.int c,Kg<|.ref J,Kg<|.ref Z,Kg<|.ref B,Kg<|.int (k:Int),Kg<|.int (o:Int),Kg (.ref D)],?_,?_⟩
  .refine⟨_,U,fl,U,⟨_,SqL.of pX⟩,bj (xs:=a8) (λD i T a=>ao H6 a/\a D=Kg (.lst T)/\ay T ((fs.take i).filter<|λf=>decide<|f.1≠k) (FtA D a)) (λD hD=>⟨ag hD _,ae,ay.nil⟩) (λD i T a hD _ h=>SqL.of<|h.1 _ _ pX) (λD i y T a hD e h=>?_)<|λD T a hD h=>?_⟩
   .let(sm,X,hy):=h;let hi:=(GD.mp e).1;let e2:i<fs.length:=by have:=rj.1;lia
    let ef:=GC e2;let(t,et,hF):=rj.2 i _ ef;generalize fs[i]=g at ef hF;rw[e]at et;cases et;let hF:=(hF.new hD).same sm;let(m,q1,q2,q3):=id hF;refine⟨_,U,t,_,_,_,U,U,SqT.of q2,U,_,U,U,_,U,cQ (λgd=>?_)<|λgd=>?_⟩
    .let L:g.1≠k:=λz=>by rw[z]at gd;simp at gd
     refine⟨_,U,b7.mk hi X (aD (by rw[hy.1];let:=iK (λf:Nat×Nat=>decide<|f.1≠k)<|fs.take i;rw[eV]at this;lia)) ⟨sm.upd hD,ae,?_⟩⟩;rw[take_snoc ef,jy,nF (~~~L)];exact ay.snoc (ay.mono hy λ_ _ p=>p.upd X)<|hF.upd X
    .let h_:(g.1:Int)=(k:Int):= ~~~gd
     have L:g.1=k:=∅
     calc eX.mk hi ⟨sm,X,?_⟩;rw[take_snoc ef,jy,nL (by simp[L]),jS,jQ];exact hy
   .let(sm,X,hy):=h;rw[List.take_of_length_le (by have:=rj.1;lia)]at hy;exact⟨sm,D,T,hD,X,hy,U⟩
  rintro c7 H7 ⟨s7,D,T,nD,X,hy,rfl⟩;let d4:D≠fd:=λz=>by rw[z,rh]at nD;cases nD
  refine⟨_,U,.inl ⟨U,_,SqL.of X⟩,_,U,(by show 4<=AA;decide),λm C=>⟨(by show 2<=AA;decide),λt ht=>?_⟩⟩;let s8:=ag C<|.lst [V.bl Ki,V.bl Kj,V.bl Kj,V.bl Ki];let CM:upd H7 m (.lst [V.bl Ki,V.bl Kj,V.bl Kj,V.bl Ki]) m=Kg (.lst [V.bl Ki,V.bl Kj,V.bl Kj,V.bl Ki]):=ae;generalize upd H7 m (.lst [V.bl Ki,V.bl Kj,V.bl Kj,V.bl Ki])=H8 at s8 CM ht⊢;let s9:=ag ht<|.tup [V.int (k:Int),V.ref m];let c4:upd H8 t (.tup [V.int (k:Int),V.ref m]) t=Kg (.tup [V.int (k:Int),V.ref m]):=ae;generalize upd H8 t (.tup [V.int (k:Int),V.ref m])=H9 at s9 c4⊢;let a0:=s8.trans s9;let c1:=a0 _ _ X;let g0:(fs.filter<|λf=>decide<|f.1≠k).length<=1:=tT (iK _ _) ET;refine⟨D,_,_,U,U,c1,aD (by rw[hy.1];lia),λb u W e=>?_,_,D,_,_,(aq d4.symm).trans<|a0 _ _<|s7 _ _ rh,ae,ay.snoc (ay.mono hy λ_ _ p=>(p.same a0).upd c1) ?_,CK.pop ok.nd O a4,by rw[gp,lz];lia,U⟩
  .let e6:=k6 _ _ W<|k5 _ _ W e;exact(aq (λz=>by rw[z,nD]at e6;cases e6)).trans (a0 _ _<|s7 _ _ e6)
  .let d2:m≠D:=λz=>by rw[z,X]at C;cases C
   exact FtA.upd ⟨m,d2,c4,s9 _ _ CM⟩ c1
 rintro c8 H6 ⟨k6,R,b5,c9,n,rh,pX,rj,zj,g5,rfl⟩;let b4:=rj.1;refine⟨λd a=>a=H6/\n≠[]/\d=[Kg (.ref r),Kg<|.ref fd,Kg<|.ref I,Kg<|.int c,Kg<|.ref J,Kg<|.ref Z,Kg<|.ref B,Kg<|.int (k:Int),Kg<|.int (o:Int),Kg (.ref b5)],?_,?_⟩
 .refine⟨_,U,b5,_,U,.inl<|SqL.of pX,U,_,U,cQ (λgd=>?_)<|λgd=>?_⟩
  .let h0:n=[]:=by
    let:V.int ((c9.length:Nat):Int)=V.int 0:=Ks gd;injection this with this;exact List.eq_nil_of_length_eq_zero ∅
   refine⟨(by show 0<=AA;decide),λl hl=>q 1 R l _ (λb u W e=>(ag hl _) _ _<|k6 b u W e) ((ag hl _) _ _ rh) ae (by rw[h0]at zj;exact zj.end0)⟩
  .refine⟨U,λz=>?_,U⟩;rw[z]at b4;exact gd<|Kq (by rw[b4];rfl)
 rintro c7 H7 ⟨e_,L,rfl⟩;subst e_;let uZ:0<n.length:=rL.mpr L;let(d0,rfl):=y9 rj;rw[dn]at b4;refine⟨_,U,b5,d0,(λj=>((n.getD j (0,0)).1:Int)),U,SqL.of pX,∅,λj t et=>?_,λi j hi hj M=>?_,λj t et xX=>?_⟩
 .let hj:=(GD.mp et).1;let eg:=GC (l:=n) (i:=j) ∅;let(t',S,m,q1,q2,q3):=rj.2 j _ eg;rw[dy,et]at S;cases S;calc⟨[.ref m],?_⟩;show H7 t=Kg (.tup [V.int ((n.getD j (0,0)).1:Int),.ref m]);rw[hJ,eg];exact q2
 .let ei:=GC (l:=n) (i:=i) ∅;let ej:=GC (l:=n) (i:=j) ∅;let M:((n.getD i (0,0)).1:Int)=((n.getD j (0,0)).1:Int):=M;rw[hJ,hJ,ei,ej]at M;let M:((n[i]'∅).1:Int)=((n[j]'∅).1:Int):=M;exact cH zj.nd (x:=(n[j]'∅).1) (by rw[dy,ei];show Kg (n[i]'∅).1=_;rw[show(n[i]'∅).1=(n[j]'∅).1 by lia]) (by rw[dy,ej];rfl)
 .let hj:=(GD.mp et).1;let eg:=GC (l:=n) (i:=j) ∅;let(t',S,m,q1,q2,q3):=rj.2 j _ eg;rw[dy,et]at S;cases S;calc⟨t,_,_,_,U,U,SqT.of q2,U,q (n[j]'∅).2 R m H7 k6 rh q3<|zj.fin (GG eg) λg hg=>?_⟩;let(i,ei):=gT hg;let hi:=(GD.mp ei).1;let hm:((n.getD j (0,0)).1:Int)<=((n.getD i (0,0)).1:Int):=xX i ∅;rw[hJ,hJ,ei,eg]at hm;let hm:((n[j]'∅).1:Int)<=(g.1:Int):=hm;lia
theorem EV(F:Fun K "__init__" "Numbers.__init__" Y15 f fd) (bl:Bl K mg Y)(e:cx CX0 P w K mg base 1 "Domain" "__init__" ["self","low","high"] (bZ K Y)):aN P w K mg base CX0 2 f fd ["self","low","high"] (bT K Y):=by
 refine F.okA Z15 λj A a s H k Q E d h=>?_
 let(x,g,lo,hi,rfl,c,i,q):=h
 refine⟨_,(az (aQ (aL iu (pv 1) (pv 2)<|aP _)
  (ah bz)
  aJ)
  (ah<|aT<|fK e bV d U<|aa (pv 0)<|aa (pv 1)<|aa (pv 2) af)),?_⟩
 show(let b:TS:=_;bA _ b _ _ _);intro _;calc⟨_,U,_,U,_,_,U,U,_,U,cg ∅ ⟨_,U,_,U,_,U,x,g,lo,hi,U,c,q⟩⟩
theorem O_5(F:Fun K "has_code" "Domain.has_code" Y5 f fd) (bl:Bl K mg Y)(j:Callee P w K mg base 1 "is_whole" ["value"] (fM K Y)):aN P w K mg base CX0 2 f fd ["self","value"] (bG K Y):=by
 refine F.okA Z5 λn A c s H o Q E k h=>?_
 let(a,b,v,rfl,(p,fs,e,l,m,_),d,q):=h;calc⟨_,(ah<|aG<|kL (aR j k U<|aa (pv 1) af)<|l6<|l9 fG fG (aY (pv 0) U) (pv 1)<|aY (pv 0) U),?_⟩;calc⟨_,U,v,U,d,_,U,?_⟩;cases v with
 |int i =>
  calc dS ⟨_,U,a,_,_,_,_,U,e,bl.k_Numbers,bl.na_Numbers_low,l,_,U,_,_,U,U,_,U,?_⟩;let q:Q (.bl<|Kk (b.1<=i) && decide (i<=b.2)) H:=q;refine cQ (λg=>?_)<|λg=>?_
  .rw[g,Bool.true_and]at q;exact⟨_,U,a,_,_,_,_,U,e,bl.k_Numbers,bl.na_Numbers_high,m,_,_,U,U,q⟩
  .rw[yt.mpr g,Bool.false_and]at q;exact q
 |non=>exact bR q
 |bl b=>exact bR q
 |str z=>exact bR q
 |_=>calc d.elim
theorem O_4(F:Fun K "code" "Domain.code" Y4 f fd) (bl:Bl K mg Y)(t:aX CX0 P w K mg base 1 Y.n "borne_code" ["self","value"] (b9 K Y)) (p:aX CX0 P w K mg base 1 Y.n "bears" ["self","value"] (dc K Y)):aN P w K mg base (CX1 P w) 2 f fd ["self","value"] (dh K Y):=by
 refine F.okEA Z4 λu A e s H y Q E c h=>?_
 let(a,b,v,rfl,d,g,o,q,m):=h
 refine⟨_,(az (aQ (cY<|dJ<|iw p bV bl.k_Words c (pv 0)<|aa (pv 1) af)
  (ah<|iZ bl.x_Outside c.hd U bl.Outside_<|aa (wN<|pv 1) af)
  aJ)
  (ah<|aG<|iw t bV bl.k_Words c (pv 0)<|aa (pv 1) af)),?_⟩
 show(let l:TS:=_;bA _ l _ _ _);intro _;let(C,lw,k,B):=id d;calc⟨_,U,a,_,_,U,k,U,_,U,a,b,v,U,d,xV g,_,U,?_⟩;cases hb:inW b v with
 |true =>
  let(z,rfl,r):∃z,v=.str z/\z∈b:=by
   cases v with
   |str z=>exact⟨z,U,Ks hb⟩
   |_=>cases hb
  let(j,i):=gT r;exact bR ⟨_,U,a,_,_,U,k,U,_,U,a,b,z,j,U,d,o,i,q z j U i⟩
 |false=>calc dS ⟨_,U,g,(~~~0),λx=>⟨(by show 1<=AA;decide),m hb⟩⟩
theorem O_7(F:Fun K "__init__" "First.__init__" Y7 f fd) (bl:Bl K mg Y)(e:cx CX0 P w K mg base 1 "Way" "__init__" ["self","called"] (cR K Y)):aN P w K mg base CX0 2 f fd ["self"] (J0 K Y):=by
 refine F.ok Z7 (λd H Q E h=>?_)<|λi A a s H d Q E g h=>?_
 .let(x,c,rfl,b,q):=h;rfl
 let(x,c,rfl,b,q):=h;calc⟨_,(ah<|aT<|fK e bV g U<|aa (pv 0)<|aa aS af),?_⟩;calc⟨_,U,x,c,_,U,b,q⟩
theorem EW(F:Fun K "__init__" "Only.__init__" Y18 f fd) (bl:Bl K mg Y)(e:cx CX0 P w K mg base 1 "Way" "__init__" ["self","called"] (de K Y)):aN P w K mg base CX0 2 f fd ["self"] (J8 K Y):=by
 refine F.ok Z18 (λd H Q E h=>?_)<|λi A a s H d Q E g h=>?_
 .let(x,c,rfl,b,q):=h;rfl
 let(x,c,rfl,b,q):=h;calc⟨_,(ah<|aT<|fK e bV g U<|aa (pv 0)<|aa aS af),?_⟩;calc⟨_,U,x,c,_,U,b,q⟩
theorem EY(F:Fun K "__init__" "Like.__init__" Y11 f fd) (bl:Bl K mg Y)(e:cx CX0 P w K mg base 1 "Way" "__init__" ["self","called"] (df K Y)):aN P w K mg base CX0 2 f fd ["self"] (J4 K Y):=by
 refine F.ok Z11 (λd H Q E h=>?_)<|λi A a s H d Q E g h=>?_
 .let(x,c,rfl,b,q):=h;rfl
 let(x,c,rfl,b,q):=h;calc⟨_,(ah<|aT<|fK e bV g U<|aa (pv 0)<|aa aS af),?_⟩;calc⟨_,U,x,c,_,U,b,q⟩
theorem EZ(F:Fun K "__init__" "Low.__init__" Y13 f fd) (bl:Bl K mg Y)(e:cx CX0 P w K mg base 1 "Way" "__init__" ["self","called"] (dB K Y)):aN P w K mg base CX0 2 f fd ["self"] (J6 K Y):=by
 refine F.ok Z13 (λd H Q E h=>?_)<|λi A a s H d Q E g h=>?_
 .let(x,c,rfl,b,q):=h;rfl
 let(x,c,rfl,b,q):=h;calc⟨_,(ah<|aT<|fK e bV g U<|aa (pv 0)<|aa aS af),?_⟩;calc⟨_,U,x,c,_,U,b,q⟩
theorem O_9(F:Fun K "__init__" "High.__init__" Y9 f fd) (bl:Bl K mg Y)(e:cx CX0 P w K mg base 1 "Way" "__init__" ["self","called"] (dg K Y)):aN P w K mg base CX0 2 f fd ["self"] (J2 K Y):=by
 refine F.ok Z9 (λd H Q E h=>?_)<|λi A a s H d Q E g h=>?_
 .let(x,c,rfl,b,q):=h;rfl
 let(x,c,rfl,b,q):=h;calc⟨_,(ah<|aT<|fK e bV g U<|aa (pv 0)<|aa aS af),?_⟩;calc⟨_,U,x,c,_,U,b,q⟩
theorem E3(F:Fun K "__init__" "Sum.__init__" Y20 f fd) (bl:Bl K mg Y)(e:cx CX0 P w K mg base 1 "Way" "__init__" ["self","called"] (dC K Y)):aN P w K mg base CX0 2 f fd ["self"] (J10 K Y):=by
 refine F.ok Z20 (λd H Q E h=>?_)<|λi A a s H d Q E g h=>?_
 .let(x,c,rfl,b,q):=h;rfl
 let(x,c,rfl,b,q):=h;calc⟨_,(ah<|aT<|fK e bV g U<|aa (pv 0)<|aa aS af),?_⟩;calc⟨_,U,x,c,_,U,b,q⟩
theorem O_6(F:Fun K "has_code" "Domain.has_code" Y6 f fd) (bl:Bl K mg Y)(j:Callee P w K mg base 1 "is_whole" ["value"] (fM K Y)):aN P w K mg base CX0 2 f fd ["self","value"] (cn K Y):=by
 refine F.okA Z6 λn A c s H o Q E k h=>?_
 let(a,b,v,rfl,(p,fs,e,l,m,_),d,q):=h;calc⟨_,(ah<|aG<|kL (aR j k U<|aa (pv 1) af)<|l6<|l9 fG fG (aY (pv 0) U) (pv 1)<|aY (pv 0) U),?_⟩;calc⟨_,U,v,U,d,_,U,?_⟩;cases v with
 |int i =>
  calc dS ⟨_,U,a,_,_,_,_,U,e,bl.k_Words,bl.na_Words_low,l,_,U,_,_,U,U,_,U,?_⟩;let q:Q (.bl<|Kk (b.1<=i) && decide (i<=b.2)) H:=q;refine cQ (λg=>?_)<|λg=>?_
  .rw[g,Bool.true_and]at q;exact⟨_,U,a,_,_,_,_,U,e,bl.k_Words,bl.na_Words_high,m,_,_,U,U,q⟩
  .rw[yt.mpr g,Bool.false_and]at q;exact q
 |non=>exact bR q
 |bl b=>exact bR q
 |str z=>exact bR q
 |_=>calc d.elim
theorem E4(F:Fun K "verdict" "Way.verdict" Y29 f fd) (bl:Bl K mg Y)(r:aX CX0 P w K mg base 1 Y.f "chosen" ["self","codes","outcome"] (J1 K Y)):aN P w K mg base CX0 2 f fd ["self","codes","outcome"] (J12 K Y):=by
 refine F.ok Z29 (λm H Q E h=>?_)<|λu A i s H m Q E t h=>?_
 .let(x,c,o,a,b,rfl,(l,z,e),j,d,g,k,q):=h;rfl
 let(x,c,o,a,b,rfl,(l,z,e),j,d,g,k,q):=h
 refine⟨_,(az (aQ (cY<|dR (pv 1) (by intro _;rfl))
  (ah<|aG<|cc (v:=.ref Y.q) U bl.NONE_ U)
  aJ)
  (ah<|aG<|iw r bV bl.k_First t (pv 0)<|aa (pv 1)<|aa (pv 2) af)),?_⟩
 show(let p:TS:=_;bA _ p _ _ _);intro _;calc⟨_,U,!(a.map V.int).isEmpty,.inl ⟨_,g,U⟩,?_⟩;cases a with
 |nil=>exact dS (q _ _ (ao.refl _)<|bl.q_NONE.sq _)
 |cons n a=>calc bR ⟨_,U,x,_,_,U,e,U,_,U,_,U,x,c,o,n,a,b,U,⟨l,z,e⟩,j,d,g,wH k,q⟩
theorem E5(F:Fun K "verdict" "Way.verdict" Y33 f fd) (bl:Bl K mg Y)(t:aX CX0 P w K mg base 1 Y.g "chosen" ["self","codes","outcome"] (J9 K Y)):aN P w K mg base CX0 2 f fd ["self","codes","outcome"] (J16 K Y):=by
 refine F.ok Z33 (λp H Q E h=>?_)<|λy A j s H p Q E u h=>?_
 .let(x,c,o,a,b,rfl,(m,z,e),k,d,i,l,q):=h;rfl
 let(x,c,o,a,b,rfl,(m,z,e),k,d,i,l,q):=h
 refine⟨_,(az (aQ (cY<|dR (pv 1) (by intro _;rfl))
  (ah<|aG<|cc (v:=.ref Y.q) U bl.NONE_ U)
  aJ)
  (ah<|aG<|iw t bV bl.k_Only u (pv 0)<|aa (pv 1)<|aa (pv 2) af)),?_⟩
 show(let r:TS:=_;bA _ r _ _ _);intro _;calc⟨_,U,!(a.map V.int).isEmpty,.inl ⟨_,i,U⟩,?_⟩;cases a with
 |nil=>exact dS (q _ _ (ao.refl _)<|bl.q_NONE.sq _)
 |cons n a=>calc bR ⟨_,U,x,_,_,U,e,U,_,U,_,U,x,c,o,n,a,b,U,⟨m,z,e⟩,k,d,i,wH l,q⟩
theorem E6(F:Fun K "verdict" "Way.verdict" Y31 f fd) (bl:Bl K mg Y)(r:aX CX0 P w K mg base 1 Y.h "chosen" ["self","codes","outcome"] (J5 K Y)):aN P w K mg base CX0 2 f fd ["self","codes","outcome"] (J14 K Y):=by
 refine F.ok Z31 (λm H Q E h=>?_)<|λu A i s H m Q E t h=>?_
 .let(x,c,o,a,b,rfl,(l,z,e),j,d,g,k,q):=h;rfl
 let(x,c,o,a,b,rfl,(l,z,e),j,d,g,k,q):=h
 refine⟨_,(az (aQ (cY<|dR (pv 1) (by intro _;rfl))
  (ah<|aG<|cc (v:=.ref Y.q) U bl.NONE_ U)
  aJ)
  (ah<|aG<|iw r bV bl.k_Like t (pv 0)<|aa (pv 1)<|aa (pv 2) af)),?_⟩
 show(let p:TS:=_;bA _ p _ _ _);intro _;calc⟨_,U,!(a.map V.int).isEmpty,.inl ⟨_,g,U⟩,?_⟩;cases a with
 |nil=>exact dS (q _ _ (ao.refl _)<|bl.q_NONE.sq _)
 |cons n a=>calc bR ⟨_,U,x,_,_,U,e,U,_,U,_,U,x,c,o,n,a,b,U,⟨l,z,e⟩,j,d,g,wH k,q⟩
theorem E7(F:Fun K "verdict" "Way.verdict" Y32 f fd) (bl:Bl K mg Y)(t:aX CX0 P w K mg base 1 Y.i "chosen" ["self","codes","outcome"] (J7 K Y)):aN P w K mg base CX0 2 f fd ["self","codes","outcome"] (J15 K Y):=by
 refine F.ok Z32 (λp H Q E h=>?_)<|λy A j s H p Q E u h=>?_
 .let(x,c,o,a,b,rfl,(m,z,e),k,d,g,l,q):=h;rfl
 let(x,c,o,a,b,rfl,(m,z,e),k,d,g,l,q):=h
 refine⟨_,(az (aQ (cY<|dR (pv 1) (by intro _;rfl))
  (ah<|aG<|cc (v:=.ref Y.q) U bl.NONE_ U)
  aJ)
  (ah<|aG<|iw t bV bl.k_Low u (pv 0)<|aa (pv 1)<|aa (pv 2) af)),?_⟩
 show(let r:TS:=_;bA _ r _ _ _);intro _;calc⟨_,U,!(a.map V.int).isEmpty,.inl ⟨_,g,U⟩,?_⟩;cases a with
 |nil=>exact dS (q _ _ (ao.refl _)<|bl.q_NONE.sq _)
 |cons n a=>calc bR ⟨_,U,x,_,_,U,e,U,_,U,_,U,x,c,o,n,a,b,U,⟨m,z,e⟩,k,d,g,wH l,q⟩
theorem E8(F:Fun K "verdict" "Way.verdict" Y30 f fd) (bl:Bl K mg Y)(t:aX CX0 P w K mg base 1 Y.j "chosen" ["self","codes","outcome"] (J3 K Y)):aN P w K mg base CX0 2 f fd ["self","codes","outcome"] (J13 K Y):=by
 refine F.ok Z30 (λp H Q E h=>?_)<|λy A i s H p Q E u h=>?_
 .let(x,c,o,a,b,rfl,(m,z,e),k,d,g,l,q):=h;rfl
 let(x,c,o,a,b,rfl,(m,z,e),k,d,g,l,q):=h
 refine⟨_,(az (aQ (cY<|dR (pv 1) (by intro _;rfl))
  (ah<|aG<|cc (v:=.ref Y.q) U bl.NONE_ U)
  aJ)
  (ah<|aG<|iw t bV bl.k_High u (pv 0)<|aa (pv 1)<|aa (pv 2) af)),?_⟩
 show(let r:TS:=_;bA _ r _ _ _);intro _;calc⟨_,U,!(a.map V.int).isEmpty,.inl ⟨_,g,U⟩,?_⟩;cases a with
 |nil=>exact dS (q _ _ (ao.refl _)<|bl.q_NONE.sq _)
 |cons n a=>calc bR ⟨_,U,x,_,_,U,e,U,_,U,_,U,x,c,o,n,a,b,U,⟨m,z,e⟩,k,d,g,wH l,q⟩
theorem E9(F:Fun K "verdict" "Way.verdict" Y34 f fd) (bl:Bl K mg Y)(t:aX CX0 P w K mg base 1 Y.k "chosen" ["self","codes","outcome"] (J11 K Y)):aN P w K mg base CX0 2 f fd ["self","codes","outcome"] (J17 K Y):=by
 refine F.ok Z34 (λp H Q E h=>?_)<|λy A i s H p Q E u h=>?_
 .let(x,c,o,a,b,rfl,(m,z,e),j,d,g,l,q):=h;rfl
 let(x,c,o,a,b,rfl,(m,z,e),j,d,g,l,q):=h
 refine⟨_,(az (aQ (cY<|dR (pv 1) (by intro _;rfl))
  (ah<|aG<|cc (v:=.ref Y.q) U bl.NONE_ U)
  aJ)
  (ah<|aG<|iw t bV bl.k_Sum u (pv 0)<|aa (pv 1)<|aa (pv 2) af)),?_⟩
 show(let r:TS:=_;bA _ r _ _ _);intro _;calc⟨_,U,!(a.map V.int).isEmpty,.inl ⟨_,g,U⟩,?_⟩;cases a with
 |nil=>exact dS (q _ _ (ao.refl _)<|bl.q_NONE.sq _)
 |cons n a=>calc bR ⟨_,U,x,_,_,U,e,U,_,U,_,U,x,c,o,n,a,b,U,⟨m,z,e⟩,j,d,g,wH l,q⟩
theorem Fb(F:Fun K "refuse_names" "refuse_names" Y78 f fd) (bl:Bl K mg Y)(gm:Callee P w K mg base 2 "is_word" ["text"] (fw K Y)):aN P w K mg base CX0 3 f fd ["facts","tables"] (cS K Y):=by
 refine F.okA Z78 λb6 A a8 s H vs Q E hr h=>?_
 let(T,S,fv,mv,b,ds,ts,g,L,rfl,G,C,v,q):=h
 refine⟨_,(ar (bg GP.never U (aO<|pv 0) (dQ U<|aM (aE (i:=2) Z78.nd U<|Or.inl U)<|aM (aE (i:=3) Z78.nd U<|Or.inl U) bS)
  (ah (aQ (cY<|dJ<|aR gm hr U<|aa (pv 2) af)
  (ah bz)
  aJ)))
  (ar (aI (i:=4) Z78.nd U (Or.inl U)<|aC mj (gg (aO<|pv 0) (dj (N:=["name","domain"]) (k:=2) U U (~~~0) (~~~0)<|~~~0) U (λ_ _ _ _=>(om (K:=K) (n:=2) U U<|aM (aE (i:=0) (show(["name","domain"]:La Str).Nodup by decide+kernel) U (Or.inl U) (Or.inr U)) (aM (aE (i:=1) (show(["name","domain"]:La Str).Nodup by decide+kernel) U (Or.inl U) (Or.inr U)) bS))) (λ_ _ _ _=>aV) (λ_ _ _ _=>(pv 0))) (bK (aO<|pv 1) (bJ U (~~~0) (~~~0) (~~~0) U) U (λ_ _ _ _=>aV)<|λ_ _ _ _=>(kr (K:=K) U (pv 0) U)))
  (az (aQ (aL l8 (aw fT U bl.len_ Kf<|aa (bH (fR U) U bl.set_ PyProof.Rows.boot_set<|aa (pv 4) af) af) (aw av U bl.len_ Kf<|aa (pv 4) af)<|aP _)
  (ah bz)
  aJ)
  (ah (bg GP.never U (aO<|pv 1) (aE (i:=5) Z78.nd U<|Or.inl U)
  (ah (bg GP.never U (aO<|aY (pv 5) U) (aE (i:=2) Z78.nd U<|Or.inl U)
  (ah (aQ (aL gC (pv 2) (pv 4) (by with_unfolding_all rfl))
  (ah bz)
  aJ))))))))),?_⟩
 show(let r3:TS:=_;let r2:TS:=bA _ r3;let r1:TS:=bu _ r2;bu _ r1 _ _ _);intro _ _ _;let(b1,b2,b3):=v.few;let a5:fv.length=g:=by rw[v.facts.1,hZ]
 let a4:mv.length=L.length:=v.tabs.1;refine⟨λW a=>a=H/\∃x J:Option V,W=[Kg (.ref T),Kg<|.ref S,x,J,Kh,Kh],?_,?_⟩
 .refine⟨_,U,T,U,⟨_,SqL.of G⟩,bD (xs:=fv) (λi j a=>a=H/\∃x J:Option V,j=[Kg (.ref T),Kg<|.ref S,x,J,Kh,Kh]) ⟨U,_,_,U⟩ (λi j a _ h=>by rw[h.1];exact SqL.of G) (λi y j a e h=>?_) (λj a h=>h)⟩;let(e0,x,J,rfl):=h;rw[e0];let(r,k,rfl,ek,R,po,d,h1,h2,h3,h4):=ay.get v.facts e;let hw:=v.ok.words R<|GG h1;calc⟨r,_,U,SqT.of h3,U,_,_,U,_,_,U,U,?_⟩;calc⟨_,U,R,U,tT (uw hw) ⋯,_,U,?_⟩;rw[hw];exact bR ⟨U,_,_,U⟩
 rintro b0 H1 ⟨e1,x,J,rfl⟩;rw[e1];clear e1;refine⟨λW a=>ao H a/\∃u:Ak,a u=Kg (.lst<|(bnm b g L).map V.str)/\W=[Kg (.ref T),Kg<|.ref S,x,J,Kg<|.ref u,Kh],?_,?_⟩
 .refine⟨_,U,T,U,⟨_,SqL.of G⟩,eJ (xs:=fv) (λD i m a=>ao H a/\a D=Kg (.lst m)/\m=(b.take i).map V.str) (λD hD=>⟨ag hD _,ae,U⟩) (λD i m a hD _ h=>SqL.of<|h.1 _ _ G) (λD i y m a hD e h a0 a2=>?_)<|λD m a hD h=>?_⟩
  .let(M,eD,rfl):=h;let(r,k,rfl,ek,R,po,d,h1,h2,h3,h4):=ay.get v.facts e;let(rfl,hi):=pP ek;let(t0,t1,rfl):∃t0 t1,a0=[t0,t1]:=by
    match a0,a2 with
    | [t0,t1],_=>exact⟨t0,t1,U⟩
   calc⟨r,_,U,SqT.of<|M _ _ h3,U,_,_,U,_,_,U,U,⟨[Kg (.str R),Kg (.ref d)],U,U⟩,?_⟩;refine⟨_,U,b7.mk ∅ eD (aD (by rw[dn,eV];lia)) ⟨M.upd hD,ae,?_⟩⟩;rw[take_snoc h1,dz];rfl
  .let(M,eD,rfl):=h;rw[a5]at eD;refine⟨_,U,S,U,⟨_,SqL.of<|M _ _ C⟩,bj (xs:=mv) (λZ i m o=>ao a o/\o Z=Kg (.lst m)/\m=((L.take i).map<|tnm b g).map V.str) (λZ t=>⟨ag t _,ae,U⟩) (λZ i m o t _ h=>SqL.of<|h.1 _ _<|M _ _ C) (λZ i y m o t e h=>?_)<|λZ m o t h=>?_⟩
   .let(O,I,rfl):=h;let(t_,k,rfl,ek,tt,R,po,ou,dv,g1,g2,g3,g4,g5,g6):=ay.get v.tabs e;let(rl,dx,u,dl,fs,xs,ht,f1,f2,f3,f4,f5,f6,B,a7,a6,hR,jN):=g4;let hi:i<mv.length:=(GD.mp e).1;let sA:=M.trans O;refine⟨_,U,t_,_,_,_,_,U,sA _ _ ht,bl.k_Table,bl.na_Table_name,f2,b7.mk hi I (aD (by rw[dn,dn,eV];lia)) ⟨O.upd t,ae,?_⟩⟩;rw[take_snoc ek,dz,dz];show _++[V.str R]=_++[V.str (tnm b g k)];rw[dN g2]
   .let(O,I,rfl):=h;rw[a4,fD]at I;refine⟨D,Z,_,_,U,U,O _ _ eD,I,uK<|aD (by rw[dn,dn,dn,eV];lia),λp hp=>⟨(M.trans O).trans<|ag hp _,p,?_,U⟩⟩;rw[ae];unfold bnm;rw[dz]
 rintro a9 o ⟨O,u,B,rfl⟩;let b4:(bnm b g L).length<=14:=by unfold bnm;rw[gp,eV,dn];lia
 let a3:((bnm b g L).map V.str).length=(bnm b g L).length:=dn _;calc⟨_,U,u,bnm b g L,U,SqL.of B,∅,λl X=>⟨l,bnm b g L,U,ae,∅,_,U,u,_,U,.inl<|SqL.of<|ag X _ _ _ B,_,_,U,U,_,U,?_⟩⟩;let cf:=iX (bnm b g L) (bnm b g L).length<|tj _;rw[fD]at cf;refine cg (by rw[a3,cf.mpr v.bnd_];lia) ?_;let s3:=O.trans<|ag X<|lN P w l<|bnm b g L;let Fc:=ag X (lN P w l<|bnm b g L) _ _ B;calc⟨_,U,S,U,⟨_,SqL.of<|s3 _ _ C⟩,bD (xs:=mv) (λi j a=>ao H a/\a u=Kg (.lst<|(bnm b g L).map V.str)/\∃x c5:Option V,j=[Kg (.ref T),Kg<|.ref S,x,J,Kg<|.ref u,c5]) ⟨s3,Fc,_,_,U⟩ (λi j a _ h=>SqL.of<|h.1 _ _ C) (λi y j a e h=>?_)<|λj a h=>q a h.1⟩;let(s4,CN,d2,d5,rfl):=h;let(t_,k,rfl,ek,tt,R,po,ou,dv,g1,g2,g3,g4,g5,g6):=ay.get v.tabs e;let(rl,dx,a1,dl,fs,xs,ht,f1,f2,f3,f4,f5,f6,CO,a7,a6,hR,jN):=g4;refine⟨_,U,t_,_,_,_,_,U,s4 _ _ ht,bl.k_Table,bl.na_Table_names,f5,a1,U,⟨_,SqL.of<|s4 _ _ CO⟩,bD (xs:=(prm tt.cols b).map V.str) (λi j o=>o=a/\∃x:Option V,j=[Kg (.ref T),Kg<|.ref S,x,J,Kg<|.ref u,Kg (.ref t_)]) ⟨U,_,U⟩ (λi j o _ h=>by rw[h.1];exact SqL.of (s4 _ _ CO)) (λi y j o e h=>?_) (λj o h=>by rw[h.1];exact⟨s4,CN,let ⟨c,e⟩:=h.2;⟨c,_,e⟩⟩)⟩;let(e0,b5,rfl):=h;rw[e0];let(z,rfl,ez):=dD e;let hz:=v.has<|uv<|GG ez;calc⟨_,U,_,U,u,_,U,.inl<|SqL.of CN,U,eL _,_,U,?_⟩;rw[show(if Ki=Ki then !inV (V.str z) ((bnm b g L).map V.str)else inV (V.str z) ((bnm b g L).map V.str))=Kj by rw[Ko U,kC];simpa using hz];calc bR ⟨U,_,U⟩
theorem Fd(F:Fun K "refuse_names" "refuse_names" Y79 f fd) (bl:Bl K mg Y)(D:Callee P w K mg base 2 "is_word" ["text"] (fw K Y)):aN P w K mg base CX0 3 f fd ["names"] (cM K Y):=by
 refine F.okA Z79 λM A r s H N Q E B h=>?_
 let(p,a,rfl,n,x,C,O,q):=h
 refine⟨_,(ar (bg GP.never U (aO<|pv 0) (aE (i:=1) Z79.nd U<|Or.inl U)
  (ah (aQ (cY<|dJ<|aR D B U<|aa (pv 1) af)
  (ah bz)
  aJ)))
  (ah (aQ (aL l8 (aw fT U bl.len_ Kf<|aa (bH (fR U) U bl.set_ PyProof.Rows.boot_set<|aa (pv 0) af) af) (aw av U bl.len_ Kf<|aa (pv 0) af)<|aP _)
  (ah bz)
  aJ))),?_⟩
 show(let u:TS:=_;bu _ u _ _ _);intro _;let k:(a.map V.str).length=a.length:=dn _;refine⟨λo b=>b=H/\∃c:Option V,o=[Kg (.ref p),c],?_,?_⟩
 .refine⟨_,U,p,U,⟨_,n⟩,bD (xs:=a.map V.str) (λi m b=>b=H/\∃c:Option V,m=[Kg (.ref p),c]) ⟨U,_,U⟩ (λi m b _ h=>by rw[h.1];exact n) (λi y m b e h=>?_) (λm b h=>h)⟩;let(J,c,rfl):=h;rw[J];let(z,rfl,G):=dD e;let d:=x z<|GG G;let v:z.length<=1000:=by
   let g:=d;unfold isw at g;simp only[yq,decide_eq_true_eq]at g;lia
  calc⟨_,U,z,U,v,_,U,?_⟩;rw[d];exact bR ⟨U,_,U⟩
 rintro L R ⟨I,c,rfl⟩;rw[I];calc⟨_,U,p,a,U,n,∅,λl j=>⟨l,a,U,ae,∅,_,U,p,_,U,.inl<|(ag j _).seq n,_,_,U,U,_,U,?_⟩⟩;let t:=iX a a.length<|tj _;rw[fD]at t;calc cg (by rw[k,t.mpr C];lia) (q _<|ag j _)
theorem Fe(F:Fun K "refuse_row" "refuse_row" Y81 f fd) (bl:Bl K mg Y)(cb:aX CX0 P w K mg base 2 Y.m "has_code" ["self","value"] (bG K Y)) (gn:aX CX0 P w K mg base 2 Y.n "has_code" ["self","value"] (cn K Y)):aN P w K mg base CX0 3 f fd ["domains","outcome","cells","code"] (fW K Y):=by
 refine F.okA Z81 λa5 A a3 s H vs Q E hr h=>?_
 let(B,t,D,dv,xs,bs,o,v,rfl,S,J,hO,W,L,ok,q):=h
 refine⟨_,(az (aQ (aL tY (aw av U bl.len_ Kf<|aa (pv 2) af) (aw av U bl.len_ Kf<|aa (pv 0) af)<|aP _)
  (ah bz)
  aJ)
  (ar (bg GP.never U (sQ U bl.zip_<|aa (pv 0)<|aa (pv 2) af) (dQ U<|aM (aE (i:=4) Z81.nd U<|Or.inl U)<|aM (aE (i:=5) Z81.nd U<|Or.inl U) bS)
  (ah (bg GP.never U (aO<|pv 5) (dQ U<|aM (aE (i:=6) Z81.nd U<|Or.inl U)<|aM (aE (i:=7) Z81.nd U<|Or.inl U) bS)
  (ah (aQ (PW.pt<|tU (aL l8 (pv 6) (aY (pv 4) U)<|aP _)<|o6<|aL iu (pv 7) (aY (pv 4) U)<|aP _)
  (ah bz)
  aJ)))))
  (ah (aQ (cY<|dJ<|wY (nH cb bl.k_Numbers<|nH gn bl.k_Words AO) bV hr (pv 1)<|aa (pv 3) af)
  (ah bz)
  aJ)))),?_⟩
 show(let r2:TS:=_;let r1:TS:=bu _ r2;bA _ r1 _ _ _);intro _ _;let a2:∀(C:Ak),(C=Y.m\/C=Y.n)->Cls K C/\NoAttr K C s!"low"/\NoAttr K C s!"high":=λC h=>by
  rcases h with rfl|rfl
  .exact⟨bl.k_Numbers,bl.na_Numbers_low,bl.na_Numbers_high⟩
  .exact⟨bl.k_Words,bl.na_Words_low,bl.na_Words_high⟩
 let M:xs.length=dv.length:=by rw[L.1,ok.len,J.1]
 refine⟨_,U,D,_,U,.inl<|SqL.of W,_,U,B,_,U,.inl<|S,U,_,U,zF (by rw[M]) ?_⟩;refine⟨λa0 c=>ao H c/\∃I G k g:Option V,a0=[Kg (.ref B),Kg<|.ref t,Kg<|.ref D,Kg<|.int v.2,I,G,k,g],?_,?_⟩
 .refine⟨_,U,_,U,B,D,U,⟨_,S⟩,⟨_,SqL.of W⟩,pB (xs:=dv) (ys:=xs) (λi d c=>ao H c/\∃I G k g:Option V,d=[Kg (.ref B),Kg<|.ref t,Kg<|.ref D,Kg<|.int v.2,I,G,k,g]) ⟨ao.refl _,_,_,_,_,U⟩ (λi d c h=>⟨h.1.seq S,SqL.of<|h.1 _ _ W⟩) (λi x y d c T ex ey h hT=>?_)<|λd c h=>h⟩;let(sm,I,G,k,g,rfl):=h;let N:=sm.trans<|ag hT<|.tup [x,y];let eT:upd c T (.tup [x,y]) T=Kg (.tup [x,y]):=ae;generalize upd c T (.tup [x,y])=H2 at N eT⊢;let(a,b,rfl,eb,hb):=J.get ex;let(l,ps,rfl,ep,hl):=ay.get L ey;let(C,u,Z,fs,z,f1,f2,_):=hb.same N;let(k1,k2,k3):=a2 C u;let(_,ys,el,hp):=hl.same N;calc⟨T,_,U,SqT.of eT,U,_,_,U,_,_,U,U,?_⟩;refine⟨_,U,l,U,⟨_,SqL.of el⟩,bD (xs:=ys) (λj d c=>c=H2/\∃k g:Option V,d=[Kg (.ref B),Kg<|.ref t,Kg<|.ref D,Kg<|.int v.2,Kg<|.ref a,Kg<|.ref l,k,g]) ⟨U,_,_,U⟩ (λj d c _ h=>by rw[h.1];exact SqL.of el) (λj y d c e h=>?_) (λd c h=>?_)⟩
  .let(X,k,g,rfl):=h;rw[X];let(p,r,e1,rfl,a1):=hp.get e;let(i1,i2):=ok.inn i ps b ep eb p<|GG e1;calc⟨r,_,U,SqT.of a1,U,_,_,U,_,_,U,U,?_⟩;calc⟨_,U,_,U,a,_,_,_,_,U,z,k1,k2,f1,_,_,U,U,_,U,cg ∅ ?_⟩;exact⟨_,U,_,U,a,_,_,_,_,U,z,k1,k3,f2,_,_,U,U,_,U,cg ∅ ⟨U,_,_,U⟩⟩
  .let(X,k,g,rfl):=h;rw[X];exact⟨N,_,_,_,_,U⟩
 rintro a4 H3 ⟨O,I,G,k,g,rfl⟩;let(C,u,R):=hO.same O;let(Z,fs,z,f1,f2,f3):=id R;rcases u with rfl|rfl
 .exact⟨_,U,t,_,Z,fs,U,.head _,z,f3,_,U,t,o,.int v.2,U,R,trivial,by rw[tJ ok.lo ok.hi];exact⟨_,U,bR<|q _ O⟩⟩
 .exact⟨_,U,t,_,Z,fs,U,.tail _<|.head _,z,f3,_,U,t,o,.int v.2,U,R,trivial,by rw[tJ ok.lo ok.hi];exact⟨_,U,bR<|q _ O⟩⟩
theorem Ff(F:Fun K "mask" "mask" Y69 f fd) (bl:Bl K mg Y)(Bt:Callee P w K mg base 2 "fits" ["table","k","codes"] (pT K Y)):aN P w K mg base CX0 3 f fd ["table","codes"] (pU K Y):=by
 refine F.okA Z69 λa4 A z s H vs Q E S h=>?_
 let(t,c,a,wi,o,j,rfl,(G,ou,Z,fs,r,wy,J,M,a2,a3,m,O,a0,a1,R,jN),W,p,q):=h;calc⟨_,(ah<|aG<|aw (jr U) U bl.sum_ PyProof.Rows.boot_sum<|aa (bK (bf U bl.range_<|aa (aw av U bl.len_ Kf<|aa (aY (pv 0) U) af) af) (aW (N:=["k","table","codes"]) (fr:=[0,1]) (cl:=[("table",s.heap.objs.size+1),("codes",s.heap.objs.size+1+1)]) U U (~~~0) (~~~0) U (~~~0) U U U (fZ.mpr ⟨U,fZ.mpr ⟨U,gZ _⟩⟩) U) U (λ_ _ _ _=>(fI<|dJ<|aR Bt S U<|aa (pv 1)<|aa (pv 0)<|aa (pv 2) af))<|λ_ _ _ _=>(aC Ao ai<|pv 0)) af),?_⟩;let l:r.length=a.length:=O.1
 refine⟨_,U,t,_,_,_,_,U,J,bl.k_Table,bl.na_Table_rows,M,G,_,U,.inl<|SqL.of m,_,U,(by show -(2^62)<=((r.length:Nat):Int);lia),(by show((r.length:Nat):Int)<2^62;lia),bP (λD i zs k=>ao H k/\k D=Kg (.lst zs)/\∃b:La Int,zs=b.map V.int/\b.sum=((msk (mT a j) i:Nat):Int)/\b.length<=i)
  (λD u=>⟨ag u _,ae,[],U,U,tS _⟩) (λD i zs k u hi h=>?_) (λD zs k u h=>?_)⟩
 .let(d,x,b,rfl,g,T):=h;let y:i<a.length:=by first|lia|(rw[←l];lia)
  let(e,v):∃e,a[i]?=Kg e:=⟨_,GC y⟩;let L:a.getD i ([],0)=e:=getD_at v;refine⟨_,U,_,U,_,U,t,G,c,Z,fs,r,a,i,e,j,by rw[xv],d _ _ J,M,d _ _ m,O.same d,v,d.seq W,p e<|GG v,λH3 C=>⟨_,U,?_⟩⟩;let B:=d.trans C;let n:=C _ _ x;cases hb:nJ e.1 j with
  |true =>
   refine dS ⟨_,U,_,_,U,U,⟨∅,∅,⋯⟩,b7.mk hi n (aD (by rw[dn];lia)) ⟨B.upd u,ae,b++[1*2^(0+(i:Int)).toNat],by simp,?_,by simp;lia⟩⟩;let X:(0+(i:Int)).toNat=i:=∅
   rw[X,List.sum_append,g,qT,show mT a j i=Ki by unfold mT;rw[L];exact hb];simp;lia
  |false =>
   calc bR<|eX.mk (zs:=b.map V.int) hi ⟨B,n,b,U,?_,∅⟩;rw[g,qT,show mT a j i=Kj by unfold mT;rw[L];exact hb];simp
 .let(d,x,b,rfl,g,T):=h;rw[w4]at g;calc⟨D,b,U,SqL.of x,?_⟩;let I:=q k d;rw[←l,←g]at I;calc I
theorem Fg(F:Fun K "_law_book" "_law_book" Y53 f fd) (bl:Bl K mg Y)(nc:Callee P w K mg base 2 "_law_numbers" ["script","most"] (fu K Y)) (nN:Callee P w K mg base 2 "_law_domain" ["cell"] (fU K Y)) (rm:Callee P w K mg base 2 "_law_pool" ["domain","cell","most"] (iG K Y)) (dr:Callee P w K mg base 2 "_law_at" ["script","k"] (i4 K Y)) (gO:Callee P w K mg base 2 "_law_words" ["cell","count"] (fe K Y)) (tM:Callee P w K mg base 2 "_law_row" ["columns","domains","pools","own","number"] (jM K Y)):aN P w K mg base CX0 3 f fd ["script"] (iH K Y):=by
 refine F.okA Z53 λt5 A o4 s H vs Q E hr h=>?_
 let(a,ns,rfl,hS,m2,q):=h
 refine⟨_,(ar (aI (i:=1) Z53.nd U (Or.inr U)<|aC bB ai<|aC aU (aR dr hr U<|aa (pv 0)<|aa ai af) ai)
  (ar (aI (i:=2) Z53.nd U (Or.inl U)<|aC bB (aC bB (pv 1) ai)<|aC aU (aC bq (aR dr hr U<|aa (pv 0)<|aa ai af) ai)<|aF aH (bh<|aa ai<|aa ai<|aa ai af) (aC cJ (pv 1) ai)<|λ_ _=>U)
  (ar (aI (i:=3) Z53.nd U (Or.inr U)<|bK (bf U bl.range_<|aa (pv 2) af) (aW (N:=["k","script"]) (fr:=[0]) (cl:=[("script",s.heap.objs.size+1)]) U U (~~~0) (~~~0) U (~~~0) U U U (fZ.mpr ⟨U,gZ _⟩) U) U (λ_ _ _ _=>aV)<|λ_ _ _ _=>(aR nN hr U<|aa (aR dr hr U<|aa (pv 1)<|aa (aC bB ai<|pv 0) af) af))
  (ar (aI (i:=4) Z53.nd U (Or.inr U)<|aC mj (bK (bf U bl.range_<|aa (pv 1) af) (aW (N:=["k","facts"]) (fr:=[1]) (cl:=[("facts",s.heap.objs.size+1+1)]) U U (~~~0) (~~~0) U (~~~0) U U U (fZ.mpr ⟨U,gZ _⟩) U) U (λ_ _ _ _=>aV)<|λ_ _ _ _=>(aF (dU (K:=K) U) (bh<|aa ai<|aa ai<|aa ai af) (aC cJ (pv 1) ai)<|λ_ _=>U))<|bK (bf U bl.range_<|aa (aC cJ (pv 2)<|pv 1) af) (bJ U (~~~0) (~~~0) (~~~0) U) U (λ_ _ _ _=>aV)<|λ_ _ _ _=>ai)
  (ar (eZ (i:=5) Z53.nd U (Or.inl U) (bf U bl.range_<|aa (pv 2) af) (aW (N:=["k","script","domains","sizes"]) (fr:=[0,3,4]) (cl:=[("sizes",s.heap.objs.size+1+1+1+1),("script",s.heap.objs.size+1),("domains",s.heap.objs.size+1+1+1)]) U U (~~~0) (~~~0) U (~~~0) U U U (fZ.mpr ⟨U,fZ.mpr ⟨U,fZ.mpr ⟨U,gZ _⟩⟩⟩) U) U (λ_ _ _ _=>aV)<|λ_ _ _ _=>(aR rm hr U<|aa (aF (dU (K:=K) U) (pv 2) (pv 0)<|λ_ _=>U)<|aa (aR dr hr U<|aa (pv 1)<|aa (aC bB ai<|pv 0) af)<|aa (aF (dU (K:=K) U) (pv 3) (pv 0)<|λ_ _=>U) af))
  (ar (aI (i:=6) Z53.nd U (Or.inl U)<|bh af)
  (ar (bg GP.never U (kN U bl.range_<|aa (pv 1)<|aa (pv 2) af) (aE (i:=7) Z53.nd U<|Or.inr U)
  (ar (aI (i:=8) Z53.nd U (Or.inr U)<|aR dr hr U<|aa (pv 0)<|aa (aC cJ (aC bB ai<|pv 7)<|pv 1) af)
  (ar (eZ (i:=9) Z53.nd U (Or.inl U) (bf U bl.range_<|aa (aw (iU U) U bl.min_ PyProof.Rows.boot_min<|aa (aC bB ai<|aC aU (pv 8) ai)<|aa (pv 7) af) af) (aW (N:=["j","own","cell"]) (fr:=[7,8]) (cl:=[("own",s.heap.objs.size+1+1+1+1+1),("cell",s.heap.objs.size+1+1+1+1+1+1)]) U U (~~~0) (~~~0) U (~~~0) U U U (fZ.mpr ⟨U,fZ.mpr ⟨U,gZ _⟩⟩) U) U (λ_ _ _ _=>aV)<|λ_ _ _ _=>(aC aU (aC bB (aC bq (pv 2) ai)<|pv 0)<|pv 1))
  (ar (aI (i:=10) Z53.nd U (Or.inl U)<|aF aH (bh<|aa aS<|aa aS<|aa aS<|aa aS<|aa aS<|aa aS af) (aC aU (aC bq (pv 8) ai) ai)<|λ_ _=>U)
  (ar (aQ (PW.pt<|jz (aL cV (pv 10) aS<|aP _)<|gB<|aL iu (aw av U bl.len_ Kf<|aa (aF bc (aF aH (pv 3) (pv 7)<|λ_ _=>U) ai<|λ_ _=>U) af) ai<|aP _)
  (ah<|aI (i:=10) Z53.nd U (Or.inl U) aS)
  aJ)
  (ah<|aT<|fh PySem.F.plainAttrs_list PySem.F.slot_list_append PySem.F.type_list_append cz (pv 6)<|aa (bC<|aa (pv 9)<|aa (pv 10)<|aa (bh af) af) af))))))
  (ar (aI (i:=11) Z53.nd U (Or.inl U)<|aR nc hr U<|aa (pv 0)<|aa (aC ir (aw av U bl.len_ Kf<|aa (pv 6) af)<|aF aH (bh<|aa ai<|aa ai<|aa ai af) (aC cJ (pv 1) ai)<|λ_ _=>U) af)
  (ar (bg GP.never U (bf U bl.range_<|aa (aw av U bl.len_ Kf<|aa (pv 11) af) af) (aE (i:=12) Z53.nd U<|Or.inl U)
  (ar (aI (i:=13) Z53.nd U (Or.inl U)<|aF aH (pv 6) (aC aU (pv 12)<|aw av U bl.len_ Kf<|aa (pv 6) af)<|λ_ _=>U)
  (ah<|aT<|fh PySem.F.plainAttrs_list PySem.F.slot_list_append PySem.F.type_list_append cz (aF bc (pv 13) ai<|λ_ _=>U)<|aa (aR tM hr U<|aa (aF bc (pv 13) ai<|λ_ _=>U)<|aa (pv 3)<|aa (pv 5)<|aa (aC bB (pv 1)<|aC aU (pv 12)<|aw av U bl.len_ Kf<|aa (pv 6) af)<|aa (aF aH (pv 11) (pv 12)<|λ_ _=>U) af) af)))
  (ah<|aG<|bC<|aa (aR gO hr U<|aa (aR dr hr U<|aa (pv 0)<|aa ai af)<|aa (pv 2) af)<|aa (pv 3)<|aa (pv 6) af)))))))))),?_⟩
 show(let r9:TS:=_;let r8:TS:=bu _ r9;let r7:TS:=bu _ r8;let r6:TS:=bu _ r7;let r5:TS:=bu _ r6;let r4:TS:=bu _ r5;let r3:TS:=bu _ r4;let r2:TS:=bu _ r3;let r1:TS:=bu _ r2;bu _ r1 _ _ _);intro _ _ _ _ _ _ _ _ _;refine⟨λC d=>d=H/\∃G:Nat,1<=G/\G<=3/\C=[Kg (.ref a),Kg<|.int (G:Int),Kh,Kh,Kh,Kh,Kh,Kh,Kh,Kh,Kh,Kh,Kh,Kh],⟨_,U,a,ns,0,U,hS,Int.le_refl _,λr=>⟨_,_,U,U,(by show(0:Int)<3;decide),_,_,U,U,U,(1+r%3).toNat,?_,?_,?_⟩⟩,?_⟩
 .let:=w5 r (show(3:Int)≠0 by decide);lia
 .let:=xc r (show(0:Int)<3 by decide);lia
 .rw[xt (by have:=w5 r (show(3:Int)≠0 by decide);lia)];rfl
 rintro q2 H1 ⟨rfl,G,d2,f3,rfl⟩;refine⟨λC d=>ao H1 d/\∃O:Nat,G<O/\O<=G+4/\C=[Kg (.ref a),Kg<|.int (G:Int),Kg<|.int (O:Int),Kh,Kh,Kh,Kh,Kh,Kh,Kh,Kh,Kh,Kh,Kh],?_,?_⟩
 .refine⟨_,U,_,_,U,U,_,U,a,ns,0,U,hS,Int.le_refl _,λr=>⟨_,_,U,U,⟨⋯,⋯⟩,(by show 3<=AA;decide),λl3 c0=>?_⟩⟩;let(v,ev,g9,q6):=tI (x:=4) (y:=3) (z:=2) d2 f3 ⋯ ⋯ ⋯;refine⟨_,U,_,_,U,U,l3,_,_,_,U,U,SqL.of ae,ev,_,_,U,U,(by show(0:Int)<v;lia),_,_,U,U,ag c0 _,((G:Int)+1+r / 3%v).toNat,?_,?_,?_⟩
  .let:=w5 (r / 3) (show v≠0 by lia);lia
  .let:=xc (r / 3) (show(0:Int)<v by lia);lia
  .rw[xt (by have:=w5 (r / 3) (show v≠0 by lia);lia)];rfl
 rintro q1 H2 ⟨g4,O,s0,r0,rfl⟩;replace hS:=g4.seq hS
 refine⟨λC d=>ao H2 d/\∃(dl:Ak)(dv:La V)(S:La PD),d dl=Kg (.lst dv)/\ay dv S (PDA NT d)/\S.length=O/\(∀p∈S,nK p)/\C=[Kg (.ref a),Kg<|.int (G:Int),Kg<|.int (O:Int),Kg<|.ref dl,Kh,Kh,Kh,Kh,Kh,Kh,Kh,Kh,Kh,Kh],?_,?_⟩
 .refine⟨_,U,_,U,∅,∅,bP (λD i I d=>ao H2 d/\d D=Kg (.lst I)/\∃S:La PD,ay I S (PDA (· ≠ D) d)/\S.length=i/\∀p∈S,nK p) (λD hD=>⟨ag hD _,ae,[],ay.nil,U,(λp hp=>by cases hp)⟩) (λD i I d hD hi T=>?_) (λD I d hD T=>?_)⟩
  .let(R,eD,S,hz,hl,e8):=T;refine⟨_,U,_,U,_,_,U,U,a,ns,_,U,R.seq hS,(by show 0<=2+(0+(i:Int));lia),λr=>⟨r,U,λl p H3 s3 hp ok=>?_⟩⟩;let j1:=s3 _ _ eD;let k9:PDA (· ≠ D) H3 l p:=hp.wk λx hx z=>by rw[z,eD]at hx;cases hx
   let e4:ay (I++[.ref l]) (S++[p]) (PDA (· ≠ D) H3):=ay.snoc (ay.mono hz λ_ _ p=>p.same s3) k9;refine b7.mk hi j1 (aD (by have:=hz.1;lia)) ⟨(R.trans s3).upd hD,ae,S++[p],ay.mono e4 λ_ _ p=>p.updN (λz=>z U) j1,by rw[gp,hl];rfl,λp' b6=>?_⟩;rcases gs.mp b6 with b6 | b6
   .exact e8 p' b6
   .rw[show p'=p by simpa using b6];exact ok
  .let(R,eD,S,hz,hl,e8):=T;rw[w4]at hl;exact⟨R,D,I,S,eD,ay.mono hz<|λ_ _ p=>p.wk λ_ _=>trivial,hl,e8,U⟩
 rintro p9 H3 ⟨s3,dl,dv,S,a6,a1,f4,xY,rfl⟩;refine⟨λC d=>ao H3 d/\∃(sz:Ak)(sn:La Nat),d sz=Kg (.lst<|vN sn)/\sn.length=O/\(∀x∈sn,1<=x/\x<=3)/\C=[Kg (.ref a),Kg<|.int (G:Int),Kg<|.int (O:Int),Kg<|.ref dl,Kg<|.ref sz,Kh,Kh,Kh,Kh,Kh,Kh,Kh,Kh,Kh],?_,?_⟩
 .let(v,ev,g9,q7):=tI (x:=3) (y:=3) (z:=2) d2 f3 ⋯ ⋯ ⋯;let(k,rfl):∃k:Nat,v=(k:Int):=⟨v.toNat,∅⟩;refine⟨_,U,_,U,∅,∅,bP (λD i I d=>ao H3 d/\d D=Kg (.lst I)/\I=vN (List.replicate i k)) (λD hD=>⟨ag hD _,ae,U⟩) (λD i I d hD hi T=>?_)<|λD I d hD T=>?_⟩
  .let(R,eD,rfl):=T;rw[w4]at hi;refine⟨(by show 3<=AA;decide),λl3 c0=>?_⟩;let u3:=ag c0<|.lst [.int 3,.int 3,.int 2];refine⟨_,U,_,_,U,U,l3,_,_,_,U,U,SqL.of ae,ev,b7.mk (by rw[w4];exact hi) (u3 _ _ eD) (aD (by rw[cC,jb];lia)) ⟨(R.trans u3).upd hD,ae,?_⟩⟩;rw[List.replicate_succ',←pJ];rfl
  .let(R,eD,rfl):=T;rw[w4]at eD;refine⟨_,U,_,U,_,_,U,U,_,U,∅,∅,bP (λD2 i I c1=>ao d c1/\c1 D2=Kg (.lst I)/\I=vN (List.replicate i 3)) (λD2 d3=>⟨ag d3 _,ae,U⟩) (λD2 i I c1 d3 hi T=>?_)<|λD2 I c1 d3 T=>?_⟩
   .let(a2,d4,rfl):=T;refine b7.mk hi d4 (aD (by rw[cC,jb];lia)) ⟨a2.upd d3,ae,?_⟩;rw[List.replicate_succ',←pJ];rfl
   .let(a2,d4,rfl):=T;rw[show((O:Int)-(G:Int)).toNat=O-G by lia]at d4;refine⟨D,D2,_,_,U,U,a2 _ _ eD,d4,uK<|aD (by rw[cC,cC,jb,jb];lia),λp hp=>⟨(R.trans a2).trans<|ag hp _,p,List.replicate G k++List.replicate (O-G) 3,by rw[ae,pJ],by rw[gp,jb,jb];lia,λx hx=>?_,U⟩⟩;rcases gs.mp hx with hx|hx
    .rw[(List.mem_replicate.mp hx).2];lia
    .rw[(List.mem_replicate.mp hx).2];lia
 rintro p1 Hs ⟨ss,sz,sn,n3,s1,k7,rfl⟩;replace s3:=s3.trans ss
 replace a6:=ss _ _ a6
 replace a1:ay dv S (PDA NT Hs):=ay.mono a1 λ_ _ p=>p.same ss
 clear ss;refine⟨λC d=>ao Hs d/\∃(po:Ak)(c4:La V)(d5:La PD),d po=Kg (.lst c4)/\ay c4 d5 (PoB NT d)/\ay dv d5 (PDA NT d)/\d5.length=O/\(∀p∈d5,nK p)/\C=[Kg (.ref a),Kg<|.int (G:Int),Kg<|.int (O:Int),Kg<|.ref dl,Kg<|.ref sz,Kg<|.ref po,Kh,Kh,Kh,Kh,Kh,Kh,Kh,Kh],?_,?_⟩
 .refine⟨_,U,_,U,∅,∅,bP (λD i I d=>ao Hs d/\d D=Kg (.lst I)/\∃a0:La (La Int),ay I a0 (PlB (· ≠ D) d)/\a0.length=i/\∀(j:Nat)(P:La Int)(p:PD),a0[j]?=Kg P->S[j]?=Kg p->1<=P.length/\P.length<=3/\∀x∈P,p.lo<=x/\x<=p.hi) (λD hD=>⟨ag hD _,ae,[],ay.nil,U,(λj P p e=>by simp at e)⟩) (λD i I d hD hi T=>?_) (λD I d hD T=>?_)⟩
  .let(R,eD,a0,hz,d1,e7):=T;rw[w4]at hi;let ep:=GC (l:=S) (i:=i) ∅;let(da,W,b5):=a1.2 i _ ep;generalize S[i]=p at ep b5;let en:=GC (l:=sn) (i:=i) ∅;let hn:=k7 _<|GG en;generalize sn[i]=nn at en hn;let ix:atI dv (0+(i:Int))=Kg (.ref da):=by rw[xv];exact aK W
   let k5:atI (vN sn) (0+(i:Int))=Kg (.int (nn:Int)):=by rw[xv];exact aK<|xC en
   refine⟨_,U,_,U,dl,_,_,_,U,U,SqL.of<|R _ _ a6,ix,_,U,_,U,_,_,U,U,a,ns,_,U,(s3.trans R).seq hS,(by show 0<=9+(0+(i:Int));lia),λr=>⟨_,U,_,U,sz,_,_,_,U,U,SqL.of<|R _ _ n3,k5,da,p,r,nn,U,b5.same R,xY p<|GG ep,hn.2,λl xs H4 s4 nl el hl hx=>?_⟩⟩;let o2:=s4 _ _ eD;let nD:l≠D:=λz=>by rw[z,eD]at nl;cases nl
   let e4:ay (I++[.ref l]) (a0++[xs]) (PlB (· ≠ D) H4):=ay.snoc (ay.mono hz λ_ _ p=>⟨p.1,s4 _ _ p.2⟩) ⟨nD,el⟩;refine b7.mk (by rw[w4];exact hi) o2 (aD (by have:=hz.1;lia)) ⟨(R.trans s4).upd hD,ae,a0++[xs],ay.mono e4<|λ_ _ p=>⟨p.1,(aq p.1).trans p.2⟩,by rw[gp,d1];rfl,λj P p' f1 f2=>?_⟩;by_cases hj:j<a0.length
   .rw[hY hj]at f1;exact e7 j P p' f1 f2
   .let f0:j=a0.length:=by have:=(GD.mp f1).1;simp at this;lia
    subst f0;simp at f1;subst f1;rw[d1,ep]at f2;cases f2;exact⟨∅,∅,hx⟩
  .let(R,eD,a0,hz,d1,e7):=T;rw[w4]at d1;let t3:a0.length=S.length:=∅
   refine⟨R,D,I,List.zipWith (λ(p:PD) P=>{ p with pool:=P }) S a0,eD,?_,?_,by rw[mu];lia,?_,U⟩
   .refine⟨by rw[mu,hz.1];lia,λj p e=>?_⟩;let(p0,P,X,W,rfl):=m5 e;let(l,el,nl,hl):=hz.2 j P W;let(g1,g2,g3):=e7 j P p0 W X;exact⟨l,el,trivial,hl,g1,g2,g3⟩
   .refine⟨by rw[mu,a1.1];lia,λj p e=>?_⟩;let(p0,P,X,W,rfl):=m5 e;let(l,el,hl):=a1.2 j p0 X;exact⟨l,el,hl.same R⟩
   .intro p hp;let(j,e):=gT hp;let(p0,P,X,W,rfl):=m5 e;let h:=xY p0<|GG X;exact⟨h.1,h.2,h.3,h.4⟩
 clear a1 f4 xY;rintro p8 H4 ⟨s4,po,c4,S,n6,h4,a1,f4,xY,rfl⟩;let b4:=s3.trans s4;refine⟨λC d=>ao H4 d/\∃tb:Ak,H4 tb=Kh/\d tb=Kg (.lst [])/\C=[Kg (.ref a),Kg<|.int (G:Int),Kg<|.int (O:Int),Kg<|.ref dl,Kg<|.ref sz,Kg<|.ref po,Kg<|.ref tb,Kh,Kh,Kh,Kh,Kh,Kh,Kh],⟨(by show 0<=AA;decide),λl hl=>⟨ag hl _,l,hl,ae,U⟩⟩,?_⟩;rintro p7 H5 ⟨s5,tb,k0,n2,rfl⟩;let q3:=b4.trans s5;refine⟨λC d=>ao H4 d/\∃(Z:La V)(n:La ((La Nat×Str)×Ak))(c6 c7 c8 c9:Option V),d tb=Kg (.lst Z)/\ay Z n (TT<|hideL d (tb :: rls n))/\n.length=O-G/\(rls n).Nodup/\(∀x∈rls n,H4 x=Kh/\x≠tb/\d x=Kg (.lst []))/\(∀(j:Nat)(t:(La Nat×Str)×Ak),n[j]?=Kg t->Bb G S j t.1)/\C=[Kg (.ref a),Kg<|.int (G:Int),Kg<|.int (O:Int),Kg<|.ref dl,Kg<|.ref sz,Kg<|.ref po,Kg<|.ref tb,c6,c7,c8,c9,Kh,Kh,Kh],?_,?_⟩
 .refine⟨_,U,_,U,_,_,U,⟨∅,∅,∅,∅⟩,cP (λi σ d=>ao H4 d/\∃(Z:La V)(n:La ((La Nat×Str)×Ak))(c6 c7 c8 c9:Option V),d tb=Kg (.lst Z)/\ay Z n (TT<|hideL d (tb :: rls n))/\n.length=i/\(rls n).Nodup/\(∀x∈rls n,H4 x=Kh/\x≠tb/\d x=Kg (.lst []))/\(∀(j:Nat)(t:(La Nat×Str)×Ak),n[j]?=Kg t->Bb G S j t.1)/\σ=[Kg (.ref a),Kg<|.int (G:Int),Kg<|.int (O:Int),Kg<|.ref dl,Kg<|.ref sz,Kg<|.ref po,Kg<|.ref tb,c6,c7,c8,c9,Kh,Kh,Kh]) ⟨s5,[],[],_,_,_,_,n2,ay.nil,U,rG,(λx hx=>by cases hx),(λj t e=>by simp at e),U⟩ (λi σ d hi T=>?_) (λσ d T=>?_)⟩
  .let(R,Z,n,c6,c7,c8,c9,a5,d0,h0,e9,a4,zk,rfl):=T;let t4:i<O-G:=∅
   let(ow,l0):∃ow:Nat,(G:Int)+(i:Int)=(ow:Int):=⟨G+i,∅⟩;let Gu:ow=G+i:=∅
   rw[l0];refine⟨λC M=>M=d/\∃c:Int,C=[Kg (.ref a),Kg<|.int (G:Int),Kg<|.int (O:Int),Kg<|.ref dl,Kg<|.ref sz,Kg<|.ref po,Kg<|.ref tb,Kg<|.int (ow:Int),Kg<|.int c,c8,c9,Kh,Kh,Kh],⟨_,U,_,U,_,_,U,U,_,U,_,_,U,U,a,ns,_,U,(b4.trans R).seq hS,(by show 0<=16+(ow:Int)-(G:Int);lia),λr=>⟨U,r,U⟩⟩,?_⟩;rintro p4 Ha ⟨rfl,c,rfl⟩;let(m,em,m1,m3,mo):=yW (c:=c) (ow:=ow) ∅;refine⟨λC M=>ao Ha M/\∃cl:Ak,Ha cl=Kh/\M cl=Kg (.lst<|vN<|clm c ow m)/\C=[Kg (.ref a),Kg<|.int (G:Int),Kg<|.int (O:Int),Kg<|.ref dl,Kg<|.ref sz,Kg<|.ref po,Kg<|.ref tb,Kg<|.int (ow:Int),Kg<|.int c,Kg<|.ref cl,c9,Kh,Kh,Kh],?_,?_⟩
   .refine⟨_,U,_,_,U,U,(by show(0:Int)<3;decide),_,_,U,U,_,U,_,_,U,_,U,(by rw[em];lia),(by rw[em];lia),bP (λD i I M=>ao Ha M/\M D=Kg (.lst I)/\I=vN (clm c ow i)) (λD hD=>⟨ag hD _,ae,U⟩) (λD i I M hD hi T=>?_)<|λD I M hD T=>?_⟩
    .let(a2,eD,rfl):=T;rw[em,w4]at hi;let v0:=w5 (c / 3+(0+(i:Int))) (show(ow:Int)≠0 by lia);refine⟨_,U,_,_,U,U,⟨⋯,⋯⟩,_,U,_,_,U,U,_,U,_,_,U,U,(by show(0:Int)<(ow:Int);lia),b7.mk (by rw[em,w4];exact hi) eD (aD (by rw[cC,pO];lia)) ⟨a2.upd hD,ae,?_⟩⟩;rw[xH,xt v0]
    .let(a2,eD,rfl):=T;rw[em,w4]at eD;exact⟨a2,D,hD,eD,U⟩
   rintro j3 Hb ⟨sb,cl,g7,j0,rfl⟩;refine⟨λC M=>ao Hb M/\∃wy:Str,wy∈six/\C=[Kg (.ref a),Kg<|.int (G:Int),Kg<|.int (O:Int),Kg<|.ref dl,Kg<|.ref sz,Kg<|.ref po,Kg<|.ref tb,Kg<|.int (ow:Int),Kg<|.int c,Kg<|.ref cl,Kg<|.str wy,Kh,Kh,Kh],?_,?_⟩
   .refine⟨(by show 6<=AA;decide),λp6 k8=>?_⟩;let w0:=w5 (c / 50) (show(6:Int)≠0 by decide);let w1:=xc (c / 50) (show(0:Int)<6 by decide);let(k,ek):∃k:Nat,c / 50%6=(k:Int):=⟨_,(xt w0).symm⟩;let hk:k<six.length:=by show k<6;lia
    let e6:=GC hk;let ex:atI [V.str s!"first",.str s!"only",.str s!"like",.str s!"low",.str s!"high",.str s!"sum"] (c / 50%6)=Kg (.str six[k]):=by
     rw[ek];exact aK (xs:=six.map V.str) (by rw[dy,e6];rfl)
    exact⟨_,U,_,_,U,U,⟨⋯,⋯⟩,_,_,U,U,(by show(0:Int)<6;decide),p6,_,_,_,U,U,SqL.of ae,ex,ag k8 _,_,GG e6,U⟩
   rintro p3 Hc ⟨sc,f7,g8,rfl⟩;let b0:=sb.trans sc;let ep:=GC (l:=S) (i:=ow) ∅;let(da,W,b5):=a1.2 ow _ ep;generalize S[ow]=p at ep b5;let j6:=(s4.trans R).trans b0;let(wl,_,_,f1,f2):=b5.same<|R.trans b0;refine⟨λC M=>M=Hc/\∃wy:Str,wy∈six/\(wy=s!"sum" -> p.ws=[])/\C=[Kg (.ref a),Kg<|.int (G:Int),Kg<|.int (O:Int),Kg<|.ref dl,Kg<|.ref sz,Kg<|.ref po,Kg<|.ref tb,Kg<|.int (ow:Int),Kg<|.int c,Kg<|.ref cl,Kg<|.str wy,Kh,Kh,Kh],?_,?_⟩
   .refine⟨_,U,U,_,U,?_⟩;refine cQ (λg=>?_)<|λg=>?_
    .refine⟨_,U,_,U,dl,_,_,_,U,U,SqL.of<|j6 _ _ a6,aK W,da,_,_,_,U,U,SqT.of f1,U,wl,_,U,.inl<|SqL.of f2,_,_,U,U,_,U,?_⟩;refine cQ (λg2=>?_)<|λg2=>?_
     .exact⟨U,s!"high",by unfold six;simp,(λz=>Kp z<|~~~0),U⟩
     .refine⟨U,f7,g8,λ_=>?_,U⟩;let:¬ ((0:Int)<(((p.ws.map V.str).length:Nat):Int)):=λh=>g2<|Kq h
      rw[dn]at this;exact lK.mp ∅
    .refine⟨U,f7,g8,λz=>Kp ?_ g,U⟩;rw[z];exact Kq U
   rintro p2 Hd ⟨rfl,wy,k6,tL,rfl⟩;let n1:=b0 _ _ a5;refine⟨_,U,.inl ⟨U,_,SqL.of n1⟩,_,U,_,U,(by show 0<=AA;decide),λx hx=>?_⟩;let u1:=ag hx<|.lst [];let ex:upd Hd x (.lst []) x=Kg (.lst []):=ae;generalize upd Hd x (.lst [])=He at u1 ex⊢;refine⟨(by show 3<=AA;decide),λr hr=>?_⟩;let u2:=ag hr<|.tup [.ref cl,.str wy,.ref x];let er:upd He r (.tup [.ref cl,.str wy,.ref x]) r=Kg (.tup [.ref cl,.str wy,.ref x]):=ae;generalize upd He r (.tup [.ref cl,.str wy,.ref x])=Hf at u2 er⊢;let a9:=(b0.trans u1).trans u2;let n0:=a9 _ _ a5;refine⟨tb,_,_,U,U,n0,aD (by have:=d0.1;lia),?_⟩;let a3:Ha x=none:=b0.free hx;let j8:H4 x=none:=R.free a3;let g5:x≠tb:=λz=>by rw[z,a5]at a3;cases a3
   let o3:cl≠x:=λz=>by rw[←z,sc _ _ j0]at hx;cases hx
   let e0:∀b∈tb :: rls n,∃I,Ha b=Kg (.lst I):=λb hb=>by
    rcases dt.mp hb with rfl|hb
    .exact⟨_,a5⟩
    .exact⟨_,(a4 b hb).2.2⟩
   let CP:cl ∉ tb :: rls n:=λhm=>by let(I,e):=e0 cl hm;rw[e]at g7;cases g7
   let j7:x ∉ tb :: rls n:=λhm=>by let(I,e):=e0 x hm;rw[e]at a3;cases a3
   let g6:r ∉ tb :: rls n:=λhm=>by let(I,e):=e0 r hm;let:=a9 _ _ e;rw[er]at this;cases this
   let k2:r≠x:=λz=>by have:=u2 _ _ ex;rw[←z,er]at this;cases this
   let eF:rls (n++[((clm c ow m,wy),x)])=rls n++[x]:=xI ..;let e3:∀b,b ∉ tb :: rls n->b≠x->b ∉ tb :: (rls n++[x]):=λb h1 h2 hm=>by
    rcases dt.mp hm with z|hm
    .exact h1 (by rw[z];exact dO)
    .rcases gs.mp hm with hm|hm
     .exact h1<|dV _ hm
     .exact h2<|~~~hm
   let gr:ao (hideL Ha (tb :: rls n)) (hideL (upd Hf tb<|.lst<|Z++[.ref r]) (tb :: (rls n++[x]))):=oQ λb o hb e=>by
    refine⟨(aq λz=>hb (by rw[z];exact dO)).trans (a9 _ _ e),e3 b hb λz=>?_⟩;rw[z,a3]at e;cases e
   let hT:TT (hideL (upd Hf tb<|.lst<|Z++[.ref r]) (tb :: (rls n++[x]))) r ((clm c ow m,wy),x):=by
    refine⟨cl,dE ((aq λz=>g6 (by rw[z];exact dO)).trans er) (e3 r g6 k2),dE ((aq λz=>CP (by rw[z];exact dO)).trans (u2 _ _<|u1 _ _<|sc _ _ j0)) (e3 cl CP o3)⟩
   refine⟨(R.trans a9).upd k0,Z++[.ref r],n++[((clm c ow m,wy),x)],_,_,_,_,ae,?_,by rw[gp,h0];rfl,?_,λy hy=>?_,λj t e=>?_,U⟩
   .rw[eF];exact ay.snoc (ay.mono d0 λ_ _ p=>p.same gr) hT
   .rw[eF];refine oD.mpr ⟨e9,by simp,λy hy z hz=>?_⟩;rw[show z=x by simpa using hz];exact λe=>j7 (by rw[←e];exact dV _ hy)
   .rw[eF]at hy;rcases gs.mp hy with hy|hy
    .let(y1,y2,y3):=a4 y hy;exact⟨y1,y2,(aq y2).trans<|a9 _ _ y3⟩
    .rw[show y=x by simpa using hy];exact⟨j8,g5,(aq g5).trans<|u2 _ _ ex⟩
   .by_cases hj:j<n.length
    .rw[hY hj]at e;exact zk j t e
    .let f0:j=n.length:=by have:=(GD.mp e).1;simp at this;lia
     subst f0;simp at e;subst e;let eo:G+n.length=ow:=∅
     refine⟨by show 1<=(clm c ow m).length;rw[pO];exact m1,by show(clm c ow m).length<=3;rw[pO];exact m3,λk hk=>?_,Bd ∅ mo,k6,λz p' i1=>?_⟩
     .rw[eo];exact Bc ∅ k hk
     .rw[eo,ep]at i1;cases i1;exact tL z
  .let(R,Z,n,c6,c7,c8,c9,r):=T;rw[show((O:Int)-(G:Int)).toNat=O-G by lia]at r;exact⟨R,Z,n,c6,c7,c8,c9,r⟩
 rintro j4 j2 ⟨f8,Z,n,c6,c7,c8,c9,CQ,CS,h0,e9,CT,zk,rfl⟩;let s9:1<=n.length:=∅
 let zi:Z.length=n.length:=CS.1;refine⟨λC d=>ao j2 d/\∃(nu:Ak)(ms:La Int),j2 nu=Kh/\d nu=Kg (.lst<|ms.map V.int)/\ms.length<=32/\C=[Kg (.ref a),Kg<|.int (G:Int),Kg<|.int (O:Int),Kg<|.ref dl,Kg<|.ref sz,Kg<|.ref po,Kg<|.ref tb,c6,c7,c8,c9,Kg<|.ref nu,Kh,Kh],?_,?_⟩
 .refine⟨_,U,_,U,tb,_,U,.inl<|SqL.of CQ,(by show 3<=AA;decide),λl3 c0=>?_⟩;let(v,ev,g9,q5):=tI (x:=8) (y:=6) (z:=5) d2 f3 ⋯ ⋯ ⋯;let(k,rfl):∃k:Nat,v=(k:Int):=⟨v.toNat,∅⟩;let u3:=ag c0<|.lst [.int 8,.int 6,.int 5];let l1:1<=Z.length*k:=Nat.mul_pos ∅ ∅;let t2:Z.length*k<=4*8:=Nat.mul_le_mul ∅ ∅;refine⟨_,U,_,_,U,U,l3,_,_,_,U,U,SqL.of ae,ev,_,_,U,U,.inr ⟨∅,∅⟩,a,ns,Z.length*k,(by rw[Int.natCast_mul]),((b4.trans f8).trans u3).seq hS,m2,l1,∅,λl ms d s nl el hl=>⟨u3.trans s,l,ms,u3.free nl,el,∅,U⟩⟩
 rintro j4 H6 ⟨c2,nu,ms,k3,i2,t1,rfl⟩;let s6:=f8.trans c2;let a5:=c2 _ _ CQ;let a4:∀x∈rls n,H4 x=Kh/\x≠tb/\H6 x=Kg (.lst []):=λx hx=>let ⟨h1,h2,h3⟩:=CT x hx;⟨h1,h2,c2 _ _ h3⟩
 let d0:ay Z n (TT<|hideL H6 (tb :: rls n)):=ay.mono CS λ_ _ p=>p.same<|gG c2
 let h7:∀x∈rls n,H4 x=none:=λx hx=>(a4 x hx).1
 let f5:ao H4 (hideL H6<|rls n):=tH s6 h7;let k1:tb ∉ rls n:=λhm=>(a4 tb hm).2.1 U
 let f6:hideL H6 (rls n) tb=Kg (.lst Z):=dE a5 k1;let e5:ay Z n (TT<|hideL H6<|rls n):=ay.mono d0 λ_ _ p=>p.same<|oQ λb o hb e=>⟨e,λhm=>hb<|dV _ hm⟩
 let j9:nu ∉ rls n:=λhm=>by have:=(CT nu hm).2.2;rw[k3]at this;cases this
 let i8:hideL H6 (rls n) nu=Kg (.lst<|ms.map V.int):=dE i2 j9;generalize hB:hideL H6 (rls n)=B at f5 f6 e5 i8;refine⟨λC d=>ao H4 d/\ao B (hideL d<|rls n)/\∃(L:La (La Rw))(c6 c7 c8 c9 a8 a7:Option V),RwI d (rls n) G S n L 32/\C=[Kg (.ref a),Kg<|.int (G:Int),Kg<|.int (O:Int),Kg<|.ref dl,Kg<|.ref sz,Kg<|.ref po,Kg<|.ref tb,c6,c7,c8,c9,Kg<|.ref nu,a8,a7],?_,?_⟩
 .let CU:(ms.map V.int).length=ms.length:=dn _;refine⟨_,U,nu,_,U,.inl<|SqL.of i2,_,U,∅,∅,cP (λi σ d=>ao H4 d/\ao B (hideL d<|rls n)/\∃(L:La (La Rw))(c6 c7 c8 c9 a8 a7:Option V),RwI d (rls n) G S n L i/\σ=[Kg (.ref a),Kg<|.int (G:Int),Kg<|.int (O:Int),Kg<|.ref dl,Kg<|.ref sz,Kg<|.ref po,Kg<|.ref tb,c6,c7,c8,c9,Kg<|.ref nu,a8,a7]) ⟨s6,by rw[hB];exact ao.refl B,List.replicate n.length [],_,_,_,_,_,_,⟨by rw[jb],λj t rs X W=>?_⟩,U⟩ (λi σ d hi T=>?_) (λσ d T=>?_)⟩
  .rw[List.getElem?_replicate]at W;split at W
   .cases W;exact⟨⟨[],(a4 t.2<|l5 X).2.2,ay.nil⟩,(λw hw=>by cases hw),tS _⟩
   .cases W
  .let(R,sB,L,c6,c7,c8,c9,a8,a7,J,rfl):=T;rw[w4,CU]at hi;rw[show(0:Int)+(i:Int)=(i:Int) by lia];let Bu:=eP _ _ _ _<|sB _ _ f6;let zl:(0:Int)<((Z.length:Nat):Int):=∅
   let(jj,i9):∃jj:Nat,(i:Int)%((Z.length:Nat):Int)=(jj:Int):=⟨_,(xt<|w5 _<|Int.ne_of_gt zl).symm⟩;let h6:jj<n.length:=by have:=xc (i:Int) zl;lia
   let et:=GC h6;let(r,er,hT):=e5.2 jj _ et;let(rs,h9):∃rs,L[jj]?=Kg rs:=⟨_,GC (by rw[J.1];exact h6)⟩;generalize n[jj]=t at et hT;let l4:=(hT.same sB).same<|eP _ _;let(cl,g1,g2):=l4;let((I,ez,c5),Gv,o5):=J.2 jj t rs et h9;let tok:=zk jj t et;let ix:atI Z ((i:Int)%((Z.length:Nat):Int))=Kg (.ref r):=by rw[i9];exact aK er
   calc⟨λC M=>M=d/\C=[Kg (.ref a),Kg<|.int (G:Int),Kg<|.int (O:Int),Kg<|.ref dl,Kg<|.ref sz,Kg<|.ref po,Kg<|.ref tb,c6,c7,c8,c9,Kg<|.ref nu,Kg<|.int (i:Int),Kg (.ref r)],⟨_,U,_,U,_,U,tb,_,U,.inl<|SqL.of Bu,_,_,U,U,zl,tb,_,_,_,U,U,SqL.of Bu,ix,U,U⟩,?_⟩;rintro j3 Hb ⟨o1,rfl⟩;subst o1;let c3:=f5.trans<|sB.trans<|eP _ _;let es:=GC hi;let k4:atI (ms.map V.int) (i:Int)=Kg (.int ms[i]):=aK<|get_map es;let o0:=eP _ _ _ _<|sB _ _ i8;let n7:(G:Int)+(i:Int)%((Z.length:Nat):Int)=((G+jj:Nat):Int):=by rw[i9];lia
   refine⟨_,U,r,_,_,_,U,U,SqT.of g1,U,.inl ⟨U,_,SqL.of ez⟩,_,U,r,_,_,_,U,U,SqT.of g1,U,_,U,_,U,_,U,_,U,_,U,tb,_,U,.inl<|SqL.of Bu,_,_,U,U,zl,_,_,U,U,_,U,_,U,nu,_,_,_,U,U,SqL.of o0,k4,cl,dl,po,G+jj,_,t.1.1,dv,c4,S,(by rw[←n7]),g2,c3 _ _<|s4 _ _ a6,ay.mono a1<|λ_ _ p=>p.same c3,c3 _ _ n6,ay.mono h4<|λ_ _ p=>p.same c3,(λk hk=>by have:=tok.lt k hk;lia),∅,by have:=tok.few;lia,λr2 w c1 s2 xZ l2=>?_⟩;let m0:∀D∈rls n,∃I,Hb D=Kg (.lst I):=λD hD=>by
    let(j,ej):=gT hD;let h5:j<n.length:=by have:=(GD.mp ej).1;unfold rls at this;rwa [dn]at this
    let h8:=GC h5;let n4:=GC (l:=L) (i:=j) (by rw[J.1];exact h5);let((j5,f1,_),_):=J.2 j _ _ h8 n4;let:=lZ h8;rw[ej]at this;cases this;exact⟨j5,f1⟩
   let CV:=xZ.hideL m0 s2;let q4:I.length=rs.length:=c5.1;calc⟨t.2,_,_,U,U,s2 _ _ ez,aD ∅,(R.trans s2).upd<|h7 _<|l5 et,?_,L.set jj<|rs++[w],_,_,_,_,_,_,J.grow e9 s2 et h9 ez c5 CV l2,U⟩;rw[oP (l5 et)];exact sB.trans<|gG s2
  .let(R,sB,L,c6,c7,c8,c9,a8,a7,J,rfl):=T;rw[w4,CU]at J;exact⟨R,sB,L,_,_,_,_,_,_,⟨J.1,λj t rs X W=>let ⟨b1,b2,b3⟩:=J.2 j t rs X W;⟨b1,b2,∅⟩⟩,U⟩
 rintro p5 H7 ⟨s7,sB,L,u7,u5,u0,t9,a8,a7,J,rfl⟩;let d6:=sB.trans<|eP H7<|rls n;let g0:=f5.trans d6;refine⟨_,U,a,ns,1,U,(b4.trans s7).seq hS,⋯,λc=>⟨_,U,c,O,U,∅,λnl H8 s8 _ n9=>⟨_,U,_,U,(by show 3<=AA;decide),λr hr=>?_⟩⟩⟩;let u:=ag hr<|.tup [.ref nl,.ref dl,.ref tb];let Bv:∀(j:Nat)(t:PT),(List.zipWith mkT n L)[j]?=Kg t->t.rows.length<=32:=λj t e=>by
  rw[rJ]at e;cases X:n[j]? with
  |none=>rw[X]at e;cases e
  |some t0 =>
   cases W:L[j]? with
   |none=>rw[X,W]at e;cases e
   |some rs =>
    rw[X,W]at e;let e:Kg (mkT t0 rs)=Kg t:=e;cases e;let(_,_,h3):=J.2 j _ _ X W;exact h3
 let sE:=s8.trans u;let f9:=g0.trans sE;refine q r (lws c O) S (List.zipWith mkT n L) G _ (g4.trans<|(b4.trans g0).trans sE) ⟨nl,dl,tb,dv,Z,ae,u _ _ n9,f9 _ _<|s4 _ _ a6,ay.mono a1<|λ_ _ p=>p.same f9,sE _ _<|d6 _ _ f6,?_⟩ ⟨(λz hz=>ux hz),oO ∅,by rw[kB,f4],∅,?_,?_,xY,λj t e=>?_⟩ (λp hp=>by let(j,e):=gT hp;let(_,_,_,_,_,h3,_):=h4.2 j p e;exact h3) (λt ht=>by let(j,e):=gT ht;exact Bv j t e) (by rw[mu,J.1];lia) d2 xM Bf
 .refine⟨by rw[mu,J.1,zi];lia,λj t e=>?_⟩;rw[rJ]at e;cases X:n[j]? with
  |none=>rw[X]at e;cases e
  |some t0 =>
   cases W:L[j]? with
   |none=>rw[X,W]at e;cases e
   |some rs =>
    rw[X,W]at e;let e:Kg (mkT t0 rs)=Kg t:=e;cases e;let(r',er,hT):=e5.2 j _ X;let((I,ez,c5),_):=J.2 j _ _ X W;let(cl,g1,g2):=hT.same d6;exact⟨r',er,cl,t0.2,I,sE _ _ g1,sE _ _ g2,sE _ _ ez,(c5.same<|eP _ _).same sE⟩
 .rw[mu,J.1];lia
 .rw[mu,J.1];lia
 .rw[rJ]at e;cases X:n[j]? with
  |none=>rw[X]at e;cases e
  |some t0 =>
   cases W:L[j]? with
   |none=>rw[X,W]at e;cases e
   |some rs =>
    rw[X,W]at e;let e:Kg (mkT t0 rs)=Kg t:=e;cases e;let(_,h2,h3):=J.2 j _ _ X W;calc⟨zk j t0 X,h2,by show rs.length<=200;lia⟩
theorem Fh(F:Fun K "__init__" "Words.__init__" Y35 f fd) (bl:Bl K mg Y)(gq:cx CX0 P w K mg base 2 "Domain" "__init__" ["self","low","high"] (cm K Y)) (gm:Callee P w K mg base 2 "is_word" ["text"] (fw K Y)):aN P w K mg base CX0 3 f fd ["self","words"] (cE K Y):=by
 refine F.okA Z35 λa2 A S s H vs Q E Z h=>?_
 let(x,g,p,a,rfl,W,L,G,q):=h
 refine⟨_,(az (aQ (cY<|md fG fG ai (aw av U bl.len_ Kf<|aa (pv 1) af)<|my U bl.MOST_WORDS_)
  (ah bz)
  aJ)
  (ar (bg GP.never U (aO<|pv 1) (aE (i:=2) Z35.nd U<|Or.inl U)
  (ah (aQ (cY<|dJ<|aR gm Z U<|aa (pv 2) af)
  (ah bz)
  aJ)))
  (az (aQ (aL l8 (aw fT U bl.len_ Kf<|aa (bH (fR U) U bl.set_ PyProof.Rows.boot_set<|aa (pv 1) af) af) (aw av U bl.len_ Kf<|aa (pv 1) af)<|aP _)
  (ah bz)
  aJ)
  (az (aT<|fK gq bV Z U<|aa (pv 0)<|aa ai<|aa (aC cJ (aw av U bl.len_ Kf<|aa (pv 1) af) ai) af)
  (ah<|cK (pv 0) (bH di U bl.list_ PyProof.Rows.boot_list<|aa (pv 1) af) U))))),?_⟩
 show(let r4:TS:=_;let r3:TS:=bA _ r4;let r2:TS:=bA _ r3;let r1:TS:=bu _ r2;bA _ r1 _ _ _);intro _ _ _ _;let t:SqL K H p (a.map V.str):=SqL.of L;let B:p≠x:=cy L W (by intro z;cases z);let c:(a.map V.str).length=a.length:=dn _;let h1:=G.some_;let a1:=G.few;refine⟨_,U,p,_,U,.inl t,_,_,U,U,_,U,dZ (by rw[c];lia) ?_⟩;calc⟨_,_,U,U,_,U,?_⟩;rw[Kq (show(((a.map V.str).length:Nat):Int)<=40 by rw[c];lia)];calc bR ?_;refine⟨λO m=>m=H/\∃u:Option V,O=[Kg (.ref x),Kg<|.ref p,u],?_,?_⟩
 .refine⟨_,U,p,U,⟨_,t⟩,bD (xs:=a.map V.str) (λi D m=>m=H/\∃u:Option V,D=[Kg (.ref x),Kg<|.ref p,u]) ⟨U,_,U⟩ (λi D m _ h=>by rw[h.1];exact t) (λi y D m e h=>?_) (λD m h=>h)⟩;let(e0,u,rfl):=h;rw[e0];let(z,rfl,ez):=dD e;let X:=G.words z<|GG ez;let hz:z.length<=1000:=by
   let v:=X;unfold isw at v;simp only[yq,decide_eq_true_eq]at v;lia
  calc⟨_,U,z,U,hz,_,U,?_⟩;rw[X];exact bR ⟨U,_,U⟩
 rintro a0 H2 ⟨I,u,rfl⟩;rw[I];calc⟨_,U,p,a,U,t,∅,λl hl=>⟨l,a,U,ae,∅,_,U,p,_,U,.inl<|(ag hl _).seq t,_,_,U,U,_,U,?_⟩⟩;let J:=ag hl<|lN P w l a;let cf:=iX a a.length<|tj _;rw[fD]at cf;refine cg (by rw[c,cf.mpr G.once];lia) ?_;let R:=J _ _ W;let C:=J _ _ L;calc⟨_,U,_,U,p,_,U,.inl<|SqL.of C,_,_,U,U,x,g,0,_,U,R,?_⟩;let N:mkd Y.n (upd H l<|lN P w l a) x g 0 ((((a.map V.str).length:Nat):Int)-1) x=Kg (.ins Y.n g [("low",.int 0),("high",.int<|(((a.map V.str).length:Nat):Int)-1)]):=ae;let I:mkd Y.n (upd H l<|lN P w l a) x g 0 ((((a.map V.str).length:Nat):Int)-1) p=Kg (.lst<|a.map V.str):=by unfold mkd;rw[aq B,aq B];exact C
 let M:∀b o,b≠x->H b=Kg o->mkd Y.n (upd H l<|lN P w l a) x g 0 ((((a.map V.str).length:Nat):Int)-1) b=Kg o:=λb o r h=>by unfold mkd;rw[aq r,aq r];exact J b o h
 let eh:(((a.map V.str).length:Nat):Int)-1=hiW a:=by rw[c];rfl
 refine⟨_,U,p,_,U,.inl<|SqL.of I,λj k=>⟨_,U,x,_,g,_,U,jI N k,bl.k_Words,bl.na_Words_words,(by show 2<1000;decide),?_⟩⟩;show Q .non (upd (upd (mkd Y.n (upd H l<|lN P w l a) x g 0<|(((a.map V.str).length:Nat):Int)-1) j<|.lst<|a.map V.str) x<|.ins Y.n g<|bI s!"words" (.ref j) [(s!"low",.int 0),(s!"high",.int<|(((a.map V.str).length:Nat):Int)-1)]);rw[put3];let d:mkd Y.n (upd H l<|lN P w l a) x g 0 ((((a.map V.str).length:Nat):Int)-1) j=none:=k;clear k;generalize mkd Y.n (upd H l<|lN P w l a) x g 0 ((((a.map V.str).length:Nat):Int)-1)=H2 at N I M d⊢;rw[eh];let T:j≠x:=(bL N d).symm;calc q _ j (λb o r h=>(aq r).trans<|jI (M b o r h) d) ae ((aq T).trans ae) (by cases q_:H j with|none=>rfl|some o=>rw[M j o T q_]at d;cases d)
theorem Fi(F:Fun K "bears" "Numbers.bears" Y16 f fd) (bl:Bl K mg Y)(i:aX CX0 P w K mg base 2 Y.m "has_code" ["self","value"] (bG K Y)):aN P w K mg base CX0 3 f fd ["self","value"] (cq K Y):=by
 refine F.okA Z16 λj A b s H k Q E e h=>?_
 let(a,lo,hi,v,rfl,(g,c),d,q):=h;calc⟨_,(ah<|aG<|iw i bV bl.k_Numbers e (pv 0)<|aa (pv 1) af),?_⟩;calc⟨_,U,a,_,_,U,c,U,_,U,a,(lo,hi),v,U,⟨g,_,c,U,U,U⟩,d,q⟩
theorem Fj(F:Fun K "way_by" "way_by" Y87 f fd) (bl:Bl K mg Y)(k_First:bF CX0 P w K mg base 2 "First" Y.f ["self"] (J0 K Y)) (k_Only:bF CX0 P w K mg base 2 "Only" Y.g ["self"] (J8 K Y)) (k_Like:bF CX0 P w K mg base 2 "Like" Y.h ["self"] (J4 K Y)) (k_Low:bF CX0 P w K mg base 2 "Low" Y.i ["self"] (J6 K Y)) (k_High:bF CX0 P w K mg base 2 "High" Y.j ["self"] (J2 K Y)) (k_Sum:bF CX0 P w K mg base 2 "Sum" Y.k ["self"] (J10 K Y)):aN P w K mg base CX0 4 f fd ["name"] (i5 K Y):=by
 refine F.okA Z87 λa3 A a2 s H vs Q E Z h=>?_
 let(z,rfl,hz,q):=h
 refine⟨_,(az (bg GP.never U (aO<|bh<|aa (kY k_First bV Z U)<|aa (kY k_Only bV Z U)<|aa (kY k_Like bV Z U)<|aa (kY k_Low bV Z U)<|aa (kY k_High bV Z U)<|aa (kY k_Sum bV Z U) af) (aE (i:=1) Z87.nd U<|Or.inl U)
  (ah (aQ (aL cV (aY (pv 1) U) (pv 0)<|aP _)
  (ah<|aG<|pv 1)
  aJ)))
  (ah bz)),?_⟩
 show(let r1:TS:=_;bA _ r1 _ _ _);intro _;refine λu M c b d=>⟨u,M,U,ae,U,?_⟩
 let t0:ao H (upd (upd (upd H M<|.own u) u<|.ins Y.f M []) u<|.ins Y.f M [("called",.str s!"first")]):=((ag b _).upd c).upd c;let v:WyN Y.f (upd (upd (upd H M<|.own u) u<|.ins Y.f M []) u<|.ins Y.f M [("called",.str s!"first")]) u s!"first":=⟨M,ae⟩;generalize upd (upd (upd H M<|.own u) u<|.ins Y.f M []) u (.ins Y.f M [("called",.str s!"first")])=H0 at t0 v⊢;clear c b d;refine λt L c b d=>⟨t,L,U,ae,U,?_⟩
 let t1:ao H0 (upd (upd (upd H0 L<|.own t) t<|.ins Y.g L []) t<|.ins Y.g L [("called",.str s!"only")]):=((ag b _).upd c).upd c;let B:WyN Y.g (upd (upd (upd H0 L<|.own t) t<|.ins Y.g L []) t<|.ins Y.g L [("called",.str s!"only")]) t s!"only":=⟨L,ae⟩;generalize upd (upd (upd H0 L<|.own t) t<|.ins Y.g L []) t (.ins Y.g L [("called",.str s!"only")])=H1 at t1 B⊢;clear c b d;let v:=v.same t1;refine λr J c b d=>⟨r,J,U,ae,U,?_⟩
 let t2:ao H1 (upd (upd (upd H1 J<|.own r) r<|.ins Y.h J []) r<|.ins Y.h J [("called",.str s!"like")]):=((ag b _).upd c).upd c;let N:WyN Y.h (upd (upd (upd H1 J<|.own r) r<|.ins Y.h J []) r<|.ins Y.h J [("called",.str s!"like")]) r s!"like":=⟨J,ae⟩;generalize upd (upd (upd H1 J<|.own r) r<|.ins Y.h J []) r (.ins Y.h J [("called",.str s!"like")])=H2 at t2 N⊢;clear c b d;let v:=v.same t2;let B:=B.same t2;refine λp I c b d=>⟨p,I,U,ae,U,?_⟩
 let t3:ao H2 (upd (upd (upd H2 I<|.own p) p<|.ins Y.i I []) p<|.ins Y.i I [("called",.str s!"low")]):=((ag b _).upd c).upd c;let O:WyN Y.i (upd (upd (upd H2 I<|.own p) p<|.ins Y.i I []) p<|.ins Y.i I [("called",.str s!"low")]) p s!"low":=⟨I,ae⟩;generalize upd (upd (upd H2 I<|.own p) p<|.ins Y.i I []) p (.ins Y.i I [("called",.str s!"low")])=H3 at t3 O⊢;clear c b d;let v:=v.same t3;let B:=B.same t3;let N:=N.same t3;refine λo G c b d=>⟨o,G,U,ae,U,?_⟩
 let X:ao H3 (upd (upd (upd H3 G<|.own o) o<|.ins Y.j G []) o<|.ins Y.j G [("called",.str s!"high")]):=((ag b _).upd c).upd c;let W:WyN Y.j (upd (upd (upd H3 G<|.own o) o<|.ins Y.j G []) o<|.ins Y.j G [("called",.str s!"high")]) o s!"high":=⟨G,ae⟩;generalize upd (upd (upd H3 G<|.own o) o<|.ins Y.j G []) o (.ins Y.j G [("called",.str s!"high")])=H4 at X W⊢;clear c b d;let v:=v.same X;let B:=B.same X;let N:=N.same X;let O:=O.same X;refine λm D c b d=>⟨m,D,U,ae,U,?_⟩
 let S:ao H4 (upd (upd (upd H4 D<|.own m) m<|.ins Y.k D []) m<|.ins Y.k D [("called",.str s!"sum")]):=((ag b _).upd c).upd c;let y5:WyN Y.k (upd (upd (upd H4 D<|.own m) m<|.ins Y.k D []) m<|.ins Y.k D [("called",.str s!"sum")]) m s!"sum":=⟨D,ae⟩;generalize upd (upd (upd H4 D<|.own m) m<|.ins Y.k D []) m (.ins Y.k D [("called",.str s!"sum")])=H5 at S y5⊢;clear c b d;let v:=v.same S;let B:=B.same S;let N:=N.same S;let O:=O.same S;let W:=W.same S;let s5:ao H H5:=((((t0.trans t1).trans t2).trans t3).trans X).trans S;refine⟨(by show 6<=AA;decide),λl hl=>?_⟩;let R:ao H5 (upd H5 l<|.lst [V.ref u,.ref t,.ref r,.ref p,.ref o,.ref m]):=ag hl _;let el:upd H5 l (.lst [V.ref u,.ref t,.ref r,.ref p,.ref o,.ref m]) l=Kg (.lst [V.ref u,.ref t,.ref r,.ref p,.ref o,.ref m]):=ae;generalize upd H5 l (.lst [V.ref u,.ref t,.ref r,.ref p,.ref o,.ref m])=H6 at R el⊢;let v:=v.same R;let B:=B.same R;let N:=N.same R;let O:=O.same R;let W:=W.same R;let y5:=y5.same R;let sA:=s5.trans R;let a0:∀(i:Nat)(x:V),[V.ref u,.ref t,.ref r,.ref p,.ref o,.ref m][i]?=Kg x->∃(a C:Ak)(y:Str),x=.ref a/\(cl6 Y.f Y.g Y.h Y.i Y.j Y.k)[i]?=Kg C/\six[i]?=Kg y/\WyN C H6 a y/\Cls K C/\NoAttr K C s!"called":=λi x e=>by
  match i,e with
  |0,e=>cases e;exact⟨u,Y.f,_,U,U,U,v,bl.k_First,bl.na_First_called⟩
  |1,e=>cases e;exact⟨t,Y.g,_,U,U,U,B,bl.k_Only,bl.na_Only_called⟩
  |2,e=>cases e;exact⟨r,Y.h,_,U,U,U,N,bl.k_Like,bl.na_Like_called⟩
  |3,e=>cases e;exact⟨p,Y.i,_,U,U,U,O,bl.k_Low,bl.na_Low_called⟩
  |4,e=>cases e;exact⟨o,Y.j,_,U,U,U,W,bl.k_High,bl.na_High_called⟩
  |5,e=>cases e;exact⟨m,Y.k,_,U,U,U,y5,bl.k_Sum,bl.na_Sum_called⟩
  |n+6,e=>simp at e
 refine⟨l,U,⟨_,SqL.of el⟩,bD (xs:=[V.ref u,.ref t,.ref r,.ref p,.ref o,.ref m]) (λi σ H'=>(∃c1:Option V,σ=[Kg (.str z),c1])/\H'=H6/\∀j:Nat,j<i->six[j]?≠Kg z) ⟨⟨_,U⟩,U,(λj h=>Kp h<|v5 j)⟩ (λi σ H' _ h=>by rw[h.2.1];exact SqL.of el) (λi x σ H' e h=>?_) (λσ H' h=>?_)⟩
 .let((c1,rfl),e0,T):=h;rw[e0];let(a,C,y,rfl,eC,ey,(dx,ha),hc,hn):=a0 i x e;calc⟨_,U,a,_,_,_,_,U,ha,hc,hn,U,_,U,U,_,U,?_⟩;refine cQ (λg=>?_)<|λg=>?_
  .let g':V.str y=V.str z:=qt g;injection g' with g';subst g';exact⟨_,U,q i ey a C H6 sA eC ⟨dx,ha⟩⟩
  .refine⟨⟨_,U⟩,U,λj hj=>?_⟩;by_cases a1:j<i
   .exact T j a1
   .let:j=i:=∅
    subst this;rw[ey];intro q2;exact(wD g) (by injection q2 with q2;rw[q2])
 .let((c1,rfl),e0,T):=h;rw[e0];let(j,hj,ej):=List.getElem_of_mem hz;calc Kp (by rw[GC hj,ej]) (T j hj)
theorem O_0(F:Fun K "__init__" "Book.__init__" Y0 f fd) (bl:Bl K mg Y)(ib:Callee P w K mg base 3 "refuse_counts_books" ["facts","tables"] (cL K Y)) (iL:Callee P w K mg base 3 "refuse_names_books" ["facts","tables"] (cS K Y)) (lB:Callee P w K mg base 3 "refuse_domains" ["facts","tables"] (d9 K Y)) (ng:Callee P w K mg base 3 "refuse_rings" ["tables"] (eR K Y)):aN P w K mg base CX0 4 f fd ["self","facts","tables"] (cU K Y):=by
 refine F.okA Z0 λc2 A b4 s H vs Q E hr h=>?_
 let(x,l,fa,G,R,m,S,ds,ts,W,L,P,rfl,hx,B,g,v,a8,q):=h
 refine⟨_,(az (aT<|aR ib hr U<|aa (pv 1)<|aa (pv 2) af)
  (az (aT<|aR iL hr U<|aa (pv 1)<|aa (pv 2) af)
  (az (aT<|aR lB hr U<|aa (pv 1)<|aa (pv 2) af)
  (az (aT<|aR ng hr U<|aa (pv 2) af)
  (az (cK (pv 0) (gg (aO<|pv 1) (dj (N:=["name","domain"]) (k:=2) U U (~~~0) (~~~0)<|~~~0) U (λ_ _ _ _=>(om (K:=K) (n:=2) U U<|aM (aE (i:=0) (show(["name","domain"]:La Str).Nodup by decide+kernel) U (Or.inl U) (Or.inr U)) (aM (aE (i:=1) (show(["name","domain"]:La Str).Nodup by decide+kernel) U (Or.inl U) (Or.inr U)) bS))) (λ_ _ _ _=>aV) (λ_ _ _ _=>(bC<|aa (pv 0)<|aa (pv 1) af))) U)
  (ah<|cK (pv 0) (bH di U bl.list_ PyProof.Rows.boot_list<|aa (pv 2) af) U)))))),?_⟩
 show(let r5:TS:=_;let r4:TS:=bA _ r5;let r3:TS:=bA _ r4;let r2:TS:=bA _ r3;let r1:TS:=bA _ r2;bA _ r1 _ _ _);intro _ _ _ _ _;let(b1,b2,b3):=v.few;let a7:R.length=W:=by rw[v.facts.1,hZ]
 let c0:m.length=L.length:=v.tabs.1;calc⟨_,U,_,U,fa,G,R,m,U,B,g,∅,∅,?_⟩;calc⟨_,U,_,U,fa,G,R,m,S,ds,ts,W,L,U,B,g,v,λH1 s1=>?_⟩;calc⟨_,U,_,U,fa,G,R,m,S,ds,ts,W,L,U,s1 _ _ B,s1 _ _ g,v.same s1,λH2 s2=>?_⟩;let J:=s1.trans s2;calc⟨_,U,G,m,S,ds,ts,W,L,U,J _ _ g,v.ok,(v.same J).tabs,v.lt,∅,λH3 s3=>?_⟩;let j:=J.trans s3;let CW:=j _ _ B;let a9:=v.same j;refine⟨_,U,fa,U,⟨_,SqL.of CW⟩,eJ (xs:=R) (λD i t a=>ao H3 a/\a D=Kg (.lst t)/\ay t (List.range i) (FcT P a S)) (λD I=>⟨ag I _,ae,ay.nil⟩) (λD i t a I _ h=>SqL.of<|h.1 _ _ CW) (λD i y t a I e h Z a5=>?_)<|λD t a I h=>?_⟩
 .let(C,eD,T):=h;let(r,k,rfl,ek,O,po,d,z1,z2,g1,g2):=ay.get a9.facts e;let hi:i<R.length:=(GD.mp e).1;let(t0,t1,rfl):∃t0 t1,Z=[t0,t1]:=by
   match Z,a5 with
   | [t0,t1],_=>exact⟨t0,t1,U⟩
  calc⟨r,_,U,SqT.of<|C _ _ g1,U,_,_,U,_,_,U,U,⟨[Kg (.str O),Kg (.ref d)],U,U⟩,?_⟩;refine⟨_,U,_,U,(by show 2<=AA;decide),λtp a6=>?_⟩;let u:=ag a6<|.tup [.str O,.ref d];let eT:upd a tp (.tup [.str O,.ref d]) tp=Kg (.tup [.str O,.ref d]):=ae;generalize upd a tp (.tup [.str O,.ref d])=H9 at u eT⊢;let a2:=u _ _ eD;let(r2,k2,b0,a1,b5,d2,y1,y2,y3):=ay.get a8 e;cases b0;rw[ek]at a1;cases a1;let X:=j _ _ y3;rw[g1]at X;cases X;let(rfl,c1):=pP ek;let b6:t.length=k:=by rw[T.1,hZ]
  calc b7.mk hi a2 (aD ∅) ⟨(C.trans u).upd I,ae,?_⟩;rw[kU];exact ay.mono (ay.snoc (ay.mono T λ_ _ p=>p.tups u.tups) ⟨O,d,z1,y2,eT⟩) λ_ _ p=>p.tups<|oS a2
 .let(C,eD,T):=h;let M:H3 x=Kg (.ins Y.p l []):=j _ _ hx;refine⟨_,U,x,_,l,_,U,C _ _ M,bl.k_Book,bl.na_Book_facts,(by show 0<1000;decide),?_⟩;let a0:D≠x:=λz=>by rw[z,M]at I;cases I
  let a3:G≠x:=λz=>by rw[z,hx]at g;cases g
  let g1:upd a x (.ins Y.p l<|bI s!"facts" (V.ref D) [])=upd a x (.ins Y.p l [(s!"facts",V.ref D)]):=rfl;rw[g1];let e2:upd a x (.ins Y.p l [(s!"facts",V.ref D)]) G=Kg (.lst m):=(aq a3).trans<|C _ _<|j _ _ g;let x2:upd a x (.ins Y.p l [(s!"facts",V.ref D)]) x=Kg (.ins Y.p l [(s!"facts",V.ref D)]):=ae;let k2:∀b o,b≠x->H b=Kg o->upd a x (.ins Y.p l [(s!"facts",V.ref D)]) b=Kg o:=λb o hb e=>(aq hb).trans<|C _ _<|j _ _ e
  let d2:upd a x (.ins Y.p l [(s!"facts",V.ref D)]) D=Kg (.lst t):=(aq a0).trans eD;rw[a7]at T;let y2:ay t (List.range W) (FcT P (upd a x<|.ins Y.p l [(s!"facts",V.ref D)]) S):=ay.mono T λ_ _ p=>p.tups<|oU<|C _ _ M
  generalize upd a x (.ins Y.p l [(s!"facts",V.ref D)])=H4 at e2 x2 k2 d2 y2⊢;calc⟨_,U,G,m,U,.inl<|SqL.of e2,λc hc=>?_⟩;let u:=ag hc<|.lst m;let ec:upd H4 c (.lst m) c=Kg (.lst m):=ae;generalize upd H4 c (.lst m)=H5 at u ec⊢;refine⟨_,U,x,_,l,_,U,u _ _ x2,bl.k_Book,bl.na_Book_tables,(by show 1<1000;decide),?_⟩;let a4:c≠x:=λz=>by rw[z,x2]at hc;cases hc
  calc q _ _ c D t (λb o hb e=>(aq hb).trans<|u _ _<|k2 b o hb e) ae U ((aq a4).trans ec) U ((aq a0).trans<|u _ _ d2)<|ay.mono (ay.mono y2 λ_ _ p=>p.tups u.tups) λ_ _ p=>p.tups<|oU<|u _ _ x2
theorem O_3(F:Fun K "code" "Domain.code" Y3 f fd) (bl:Bl K mg Y)(k:aX CX0 P w K mg base 3 Y.m "borne_code" ["self","value"] (bO K Y)) (j:aX CX0 P w K mg base 3 Y.m "bears" ["self","value"] (cq K Y)):aN P w K mg base (CX1 P w) 4 f fd ["self","value"] (cO K Y):=by
 refine F.okEA Z3 λn A d s H p Q E b h=>?_
 let(a,lo,hi,v,rfl,(l,c),e,q,i):=h
 refine⟨_,(az (aQ (cY<|dJ<|iw j bV bl.k_Numbers b (pv 0)<|aa (pv 1) af)
  (ah<|iZ bl.x_Outside b.hd U bl.Outside_<|aa (wN<|pv 1) af)
  aJ)
  (ah<|aG<|iw k bV bl.k_Numbers b (pv 0)<|aa (pv 1) af)),?_⟩
 show(let g:TS:=_;bA _ g _ _ _);intro _;calc⟨_,U,a,_,_,U,c,U,_,U,a,lo,hi,v,U,⟨l,c⟩,xV e,_,U,?_⟩;cases hb:inB lo hi v with
 |true=>exact bR ⟨_,U,a,_,_,U,c,U,_,U,a,v,U,q hb⟩
 |false=>calc dS ⟨_,U,e,(~~~0),λo=>⟨(by show 1<=AA;decide),i hb⟩⟩
theorem Fl(F:Fun K "refuse_way" "refuse_way" Y82 f fd) (bl:Bl K mg Y)(k:Callee P w K mg base 4 "way_by" ["name"] (i5 K Y)):aN P w K mg base CX0 5 f fd ["way","outcome"] (fX K Y):=by
 refine F.okA Z82 λt A g s H u Q E p h=>?_
 let(z,y,rfl,l,d,q):=h
 refine⟨_,(ah (aQ (PW.pt<|jz (aL cV (aY (aR k p U<|aa (pv 0) af) U) aS<|aP _)<|gB<|dJ<|aw dP U bl.isinstance_ PyProof.Rows.boot_isinstance<|aa (pv 1)<|aa (cc (v:=.ref Y.n) U bl.Words_ U) af)
  (ah bz)
  aJ)),?_⟩
 calc⟨_,U,z,U,l,λi B x C I b a o=>?_⟩;let j:Cls K C/\NoAttr K C s!"called":=by
  match i,a with
  |0,a=>cases a;exact⟨bl.k_First,bl.na_First_called⟩
  |1,a=>cases a;exact⟨bl.k_Only,bl.na_Only_called⟩
  |2,a=>cases a;exact⟨bl.k_Like,bl.na_Like_called⟩
  |3,a=>cases a;exact⟨bl.k_Low,bl.na_Low_called⟩
  |4,a=>cases a;exact⟨bl.k_High,bl.na_High_called⟩
  |5,a=>cases a;exact⟨bl.k_Sum,bl.na_Sum_called⟩
  |n+6,a=>simp[cl6]at a
 let(G,m):=o;calc⟨x,_,_,_,_,U,m,j.1,j.2,U,U,_,U,?_⟩;by_cases c:z=s!"sum"
 .let(D,fs,r):=d c;exact dZ (by rw[c]) ⟨_,U,_,_,_,_,Kj,U,.ref _,bl.t_Numbers.ty<|b _ _ r,bl.f_nw,_,U,bR<|q _ b⟩
 .exact cg (λe=>by injection e with e;exact c e) (bR<|q _ b)
theorem Fm(F:Fun K "judged" "judged" Y48 f fd) (bl:Bl K mg Y)(je:aX CX0 P w K mg base 4 Y.f "verdict" ["self","codes","outcome"] (J12 K Y)) (jV:aX CX0 P w K mg base 4 Y.g "verdict" ["self","codes","outcome"] (J16 K Y)) (jW:aX CX0 P w K mg base 4 Y.h "verdict" ["self","codes","outcome"] (J14 K Y)) (kG:aX CX0 P w K mg base 4 Y.i "verdict" ["self","codes","outcome"] (J15 K Y)) (jX:aX CX0 P w K mg base 4 Y.j "verdict" ["self","codes","outcome"] (J13 K Y)) (kH:aX CX0 P w K mg base 4 Y.k "verdict" ["self","codes","outcome"] (J17 K Y)) (nh:Callee P w K mg base 4 "way_by" ["name"] (i5 K Y)):aN P w K mg base CX0 5 f fd ["table","rows"] (lu K Y):=by
 refine F.okA Z48 λa4 A a3 s H vs Q E hr h=>?_
 let(t,a,wi,o,m,rfl,(rl,ou,dx,fs,xs,wy,M,hf,a0,a1,v,hR,u,Z,y,jN),q):=h
 refine⟨_,(az (qI (i:=2) Z48.nd U (Or.inl U) (yD U bl.enumerate_<|aa (aY (pv 0) U) af) (lJ (N:=["k","row","rows"]) (k:=2) (fr:=[1]) (cl:=[("rows",s.heap.objs.size+1)]) U U (~~~0) (~~~0) U U (fZ.mpr ⟨U,gZ _⟩) U) U (λ_ _ _ _=>(om (K:=K) (n:=2) U U<|aM (aE (i:=0) (show(["k","row","rows"]:La Str).Nodup by decide+kernel) U (Or.inl U) (Or.inr U)) (aM (aE (i:=1) (show(["k","row","rows"]:La Str).Nodup by decide+kernel) U (Or.inl U) (Or.inr U)) bS))) (λ_ _ _ _=>(fI<|oF (K:=K) U<|aC Aq (aC Ap (pv 2)<|pv 0) ai)) (λ_ _ _ _=>(aF (dW (K:=K) U) (pv 1) ai<|λ_ _=>U)))
  (ah<|aG<|wY (nH je bl.k_First<|nH jV bl.k_Only<|nH jW bl.k_Like<|nH kG bl.k_Low<|nH jX bl.k_High<|nH kH bl.k_Sum AO) bV hr (aR nh hr U<|aa (aY (pv 0) U) af)<|aa (pv 2)<|aa (aY (pv 0) U) af)),?_⟩
 show(let r1:TS:=_;bA _ r1 _ _ _);intro _;let R:xs.length=a.length:=hR.1
 refine⟨_,U,t,_,_,_,_,U,M,bl.k_Table,bl.na_Table_rows,hf,rl,U,⟨_,SqL.of v⟩,sS (xs:=xs) (λD i zs d=>ao H d/\d D=Kg (.lst zs)/\zs=(pkF a (iD m) i).map V.int)
  (λD p=>⟨ag p _,ae,U⟩) (λD i zs d p _ h=>SqL.of<|h.1 _ _ v) (λD i x zs d T p ex h hT ts W=>?_) (λD zs d p h=>?_)⟩
 .let(G,J,rfl):=h;let c:=G.trans<|ag hT<|.tup [.int i,x];let eT:upd d T (.tup [.int i,x]) T=Kg (.tup [.int i,x]):=ae;let e:=ag hT (.tup [.int i,x]) _ _ J;generalize upd d T (.tup [.int i,x])=H2 at c eT e⊢;let(r,w_,rfl,ew,ce,cv,g1,_,g2,g3):=ay.get (hR.same c) ex;let hi:i<xs.length:=(GD.mp ex).1;let hg:a.getD i ([],0)=w_:=getD_at ew;let X:=uu a (iD m) i;let(B,z,rfl):∃B z,ts=[B,z]:=by
   match ts,W with
   | [B,z],_=>exact⟨B,z,U⟩
  calc⟨T,_,U,SqT.of eT,U,_,_,U,_,_,U,U,⟨[Kg (.int i),Kg (.ref r)],U,U⟩,?_⟩;calc⟨_,U,_,U,_,_,U,U,xu _,_,_,U,U,iD m i,U,?_⟩;let l:=qU a (iD m) i;rw[hg]at l;cases hb:iD m i with
  |true =>
   rw[hb]at l;refine dS ⟨_,U,r,_,_,_,U,U,SqT.of g1,U,b7.mk hi e (aD (by rw[dn];lia)) ⟨c.upd p,ae,?_⟩⟩;rw[l,dz];rfl
  |false =>
   rw[hb]at l;calc bR<|eX.mk (zs:=(pkF a (iD m) i).map V.int) hi ⟨c,e,?_⟩;rw[l];simp
 .let(G,J,rfl):=h;rw[R]at J;let S:wy∈six:=GG u;calc⟨_,U,t,_,_,_,_,U,G _ _ M,bl.k_Table,bl.na_Table_way,a0,wy,U,S,λI a2 x C H2 c b hw=>?_⟩;let ii:I=wi:=yP a2 u;subst ii;let L:=G.trans c;let(dw,hx):=hw;let X:=uu a (iD m) a.length;let O:(C,kA K C Y.m Y.n I)∈[(Y.f,kA K Y.f Y.m Y.n 0),(Y.g,kA K Y.g Y.m Y.n 1),(Y.h,kA K Y.h Y.m Y.n 2),(Y.i,kA K Y.i Y.m Y.n 3),(Y.j,kA K Y.j Y.m Y.n 4),(Y.k,kA K Y.k Y.m Y.n 5)]:=by
   match I,b with
   |0,b=>cases b;exact .head _
   |1,b=>cases b;exact .tail _<|.head _
   |2,b=>cases b;exact .tail _<|.tail _<|.head _
   |3,b=>cases b;exact .tail _<|.tail _<|.tail _<|.head _
   |4,b=>cases b;exact .tail _<|.tail _<|.tail _<|.tail _<|.head _
   |5,b=>cases b;exact .tail _<|.tail _<|.tail _<|.tail _<|.tail _<|.head _
   |n+6,b=>simp[cl6]at b
  calc⟨x,(C,kA K C Y.m Y.n I),dw,_,U,O,hx,U,_,U,_,U,t,_,_,_,_,U,L _ _ M,bl.k_Table,bl.na_Table_outcome,a1,x,D,ou,_,o,U,⟨dw,_,hx⟩,Z.same L,y,SqL.of<|c _ _ J,∅,λr H3 s3 h3=>q r H3 (L.trans s3) h3⟩
theorem Fn(F:Fun K "_law_made" "_law_made" Y56 f fd) (bl:Bl K mg Y)(a:bF CX0 P w K mg base 3 "Numbers" Y.m ["self","low","high"] (bT K Y)) (d:bF CX0 P w K mg base 3 "Words" Y.n ["self","words"] (cE K Y)):aN P w K mg base CX0 5 f fd ["domain"] (fP K Y):=by
 refine F.okA Z56 λa0 A C s H vs Q E G h=>?_
 let(r,p,rfl,(D,_,_,v,t),ok,q):=h
 refine⟨_,(az (aQ (aL iu (aw av U bl.len_ Kf<|aa (aF bc (pv 0) ai<|λ_ _=>U) af) ai<|aP _)
  (ah<|aG<|uc d bV G U<|aa (bH di U bl.list_ PyProof.Rows.boot_list<|aa (aF bc (pv 0) ai<|λ_ _=>U) af) af)
  aJ)
  (ah<|aG<|uc a bV G U<|aa (aF bc (pv 0) ai<|λ_ _=>U)<|aa (aF bc (pv 0) ai<|λ_ _=>U) af)),?_⟩
 show(let L:TS:=_;bA _ L _ _ _);intro _;let B:(p.ws.map V.str).length=p.ws.length:=dn _;calc⟨_,U,r,_,_,_,U,U,SqT.of v,U,D,_,U,.inl<|SqL.of t,_,_,U,U,_,U,?_⟩;refine cQ (λg=>?_)<|λg=>?_
 .let j:p.ws≠[]:=λz=>by
   let:=Ks g;rw[z]at this;exact Kp this ⋯
  let(I,Z,X):=ok.wd j;calc⟨_,U,r,_,_,_,U,U,SqT.of v,U,D,_,U,.inl<|SqL.of t,λc W=>?_⟩;let u:=ag W<|.lst<|p.ws.map V.str;let J:upd H c (.lst<|p.ws.map V.str) c=Kg (.lst<|p.ws.map V.str):=ae;generalize upd H c (.lst<|p.ws.map V.str)=H1 at u J⊢;intro x i l k Gw;let y:ao H1 (upd (upd H1 i<|.own x) x<|.ins Y.n i []):=(ag k _).upd l;calc⟨x,i,c,p.ws,U,ae,y _ _ J,I,λH4 M S R O N=>⟨U,q x H4 (λb o e=>S b o (bL (u _ _ e) l)<|y _ _<|u _ _ e) ?_⟩⟩;rw[PD.k_some j];exact⟨⟨i,M,u.free<|y.free N,R,O⟩,Z,X,I⟩
 .let T:p.ws=[]:=by
   let:¬ ((0:Int)<(((p.ws.map V.str).length:Nat):Int)):=λh=>g<|Kq h
   rw[B]at this;exact lK.mp ∅
  refine⟨_,U,r,_,_,_,U,U,SqT.of v,U,_,U,r,_,_,_,U,U,SqT.of v,U,λx i l k j=>⟨x,i,p.lo,p.hi,U,ae,ok.le,U,q x _ ?_ ?_⟩⟩
  .unfold mkd;exact(((ag k _).upd l).upd l).upd l
  .rw[PD.k_none T];calc⟨i,ae⟩
theorem Fo(F:Fun K "judged_step" "judged_step" Y49 f fd) (bl:Bl K mg Y)(Bw:Callee P w K mg base 5 "mask" ["table","codes"] (pU K Y)) (ya:Callee P w K mg base 5 "judged" ["table","rows"] (lu K Y)):aN P w K mg base CX0 6 f fd ["table","columns"] (fz K Y):=by
 refine F.okA Z49 λc7 A b1 s H vs Q E hr h=>?_
 let(a,l,k,zs,ds,ts,fN,xs,b,t,p,nm,rfl,hT,et,b0,ep,tok,a3,hl,C,a9,q):=h
 refine⟨_,(ar (eZ (i:=2) Z49.nd U (Or.inl U) (aO<|pv 1) (bJ U (~~~0) (~~~0) (~~~0) U) U (λ_ _ _ _=>(fI<|aL tY (aF (dW (K:=K) U) (pv 0) ai<|λ_ _=>U) aS<|aP _))<|λ_ _ _ _=>(pv 0))
  (az (aQ (dR (pv 2) (by intro _;rfl))
  (ah<|aG<|bC<|aa (aY (pv 0) U)<|aa rM<|aa ai<|aa (aF aH (pv 2) ai<|λ_ _=>U) af)
  aJ)
  (ar (eZ (i:=3) Z49.nd U (Or.inl U) (aO<|pv 1) (bJ U (~~~0) (~~~0) (~~~0) U) U (λ_ _ _ _=>aV)<|λ_ _ _ _=>(aF (dW (K:=K) U) (pv 0) ai<|λ_ _=>U))
  (ar (aI (i:=4) Z49.nd U (Or.inl U)<|aR Bw hr U<|aa (pv 0)<|aa (pv 3) af)
  (ah<|aG<|bC<|aa (aY (pv 0) U)<|aa (pv 3)<|aa (pv 4)<|aa (aR ya hr U<|aa (pv 0)<|aa (pv 4) af) af))))),?_⟩
 show(let r4:TS:=_;let r3:TS:=bu _ r4;let r2:TS:=bu _ r3;let r1:TS:=bA _ r2;bu _ r1 _ _ _);intro _ _ _ _;let(t',c0,b6,ou,dv,g1,g2,g3,g4,g5,g6):=id hT;rw[et]at g1;cases g1;rw[b0]at g2;cases g2;rw[ep]at g3;cases g3;let(rl,dx,na,dl,fs,b5,ht,f1,f2,f3,f4,f5,f6,c5,c6,c4,hR,jN):=id g4;let a5:six[ixF six t.way]?=Kg t.way:=xQ tok.ok.way;let CY:Tbl Y.o Y.m Y.n H a t.rows (ixF six t.way) (p.lo,p.hi):=g4.tbl a5 g6.dom a3.le;let c3:t.cols.length<=3:=tok.ok.few;refine⟨λB c=>ao H c/\∃(T:Ak)(N:La V),c T=Kg (.lst N)/\ay N (b.filter λv=>!fq v) (λr v=>SqT K H r<|tp v)/\B=[Kg (.ref a),Kg<|.ref l,Kg<|.ref T,Kh,Kh],?_,?_⟩
 .refine⟨_,U,l,U,⟨_,hl⟩,bj (xs:=xs) (λD i d c=>ao H c/\c D=Kg (.lst d)/\ay d ((b.take i).filter λv=>!fq v) (λr v=>SqT K H r<|tp v)) (λD u=>⟨ag u _,ae,ay.nil⟩) (λD i d c u _ h=>h.1.seq hl) (λD i y d c u e h=>?_)<|λD d c u h=>?_⟩
  .let(G,I,W):=h;let(r,v,rfl,ev,X):=ay.get C e;let hi:i<xs.length:=(GD.mp e).1;let c1:d.length<=3:=by
    let h1:=W.1;let h2:=iK (λv:SI=>!fq v)<|b.take i;rw[eV]at h2;lia
   calc⟨_,U,r,_,_,_,U,U,G.seqT X,U,U,_,U,?_⟩;by_cases hs:v.1=s!"say"
   .let S:fq v=true:=Kq hs;refine zF (by rw[hs]) (eX.mk (zs:=d) hi ⟨G,I,?_⟩);rw[take_snoc ev,jy,nL (by simp[S]),jS,jQ];exact W
   .let S:fq v=false:=Kr hs;refine CA (λz=>hs (by injection z)) ⟨_,U,b7.mk hi I (aD ∅) ⟨G.upd u,ae,?_⟩⟩;rw[take_snoc ev,jy,nF (by simp[S]),jS];exact ay.snoc W X
  .let(G,I,W):=h;rw[C.1,fD]at W;exact⟨G,D,d,I,W,U⟩
 rintro b4 H1 ⟨L,T,N,a1,J,rfl⟩;let yb:4<=AA:=⋯
 calc⟨_,U,_,.inl ⟨N,SqL.of a1,U⟩,?_⟩;cases hfl:b.filter λv=>!fq v with
 |cons v vs =>
  rw[hfl]at J;let(r0,e0,a7):=J.2 0 v U;let a8:N.isEmpty=false:=by
   cases N with
   |nil=>simp at e0
   |cons x y=>rfl
  rw[a8];let a6:m6 p t b=v:=by
   unfold m6;rw[←List.head?_filter,hfl];rfl
  let bE:b.all fq=false:=by
   let hm:v∈b.filter λv=>!fq v:=by rw[hfl];exact dO
   let(h1,h2):=hQ.mp hm;rw[List.all_eq_false];exact⟨v,h1,~~~h2⟩
  calc dS ⟨_,U,a,_,_,_,_,U,L _ _ ht,bl.k_Table,bl.na_Table_name,f2,_,U,T,_,_,_,U,U,SqL.of a1,aK (j:=0) e0,yb,λO g=>q O _ (L.trans<|ag g _) ⟨.non,0,r0,ae,?_,.inl ⟨bE,U,U⟩⟩⟩;rw[a6];exact(L.trans<|ag g _).seqT a7
 |nil =>
  rw[hfl]at J;let Fp:N=[]:=lK.mp J.1;rw[Fp];let CZ:∀v∈b,fq v=true:=λv X=>by
   let:=List.filter_eq_nil_iff.mp hfl v X;simpa using this
  let bE:b.all fq=true:=iv.mpr CZ;calc bR ?_;refine⟨λB c=>ao H1 c/\∃M:Ak,H1 M=Kh/\c M=Kg (.lst ((b.map (·.2)).map V.int))/\B=[Kg (.ref a),Kg<|.ref l,Kg<|.ref T,Kg<|.ref M,Kh],?_,?_⟩
  .refine⟨_,U,l,U,⟨_,L.seq hl⟩,bj (xs:=xs) (λD i d c=>ao H1 c/\c D=Kg (.lst d)/\d=((b.take i).map (·.2)).map V.int) (λD u=>⟨ag u _,ae,U⟩) (λD i d c u _ h=>h.1.seq<|L.seq hl) (λD i y d c u e h=>?_)<|λD d c u h=>?_⟩
   .let(G,I,rfl):=h;let(r,v,rfl,ev,X):=ay.get C e;let hi:i<xs.length:=(GD.mp e).1;let c2:=C.1;refine⟨_,U,r,_,_,_,U,U,(L.trans G).seqT X,U,b7.mk hi I (aD (by rw[dn,dn,eV];lia)) ⟨G.upd u,ae,?_⟩⟩;rw[take_snoc ev,dz,dz];rfl
   .let(G,I,rfl):=h;rw[C.1,fD]at I;exact⟨G,D,u,I,U⟩
  rintro b3 H2 ⟨s2,M,a4,a2,rfl⟩;let Z:=L.trans s2;refine⟨λB c=>ao H2 c/\B=[Kg (.ref a),Kg<|.ref l,Kg<|.ref T,Kg<|.ref M,Kg (.int ((msk (mT t.rows (b.map (·.2))) t.rows.length:Nat):Int))],?_,?_⟩
  .exact⟨_,U,_,U,a,M,t.rows,_,_,b.map (·.2),U,CY.same Z,SqL.of a2,(λw_ hw=>by rw[dn,a9];exact(tok.rows w_ hw).len),λH3 s3=>⟨s3,U⟩⟩
  rintro b2 H3 ⟨s3,rfl⟩;let R:=Z.trans s3;calc⟨_,U,a,_,_,_,_,U,R _ _ ht,bl.k_Table,bl.na_Table_name,f2,_,U,_,U,_,U,_,U,a,t.rows,_,_,_,U,CY.same R,λr H4 s4 a0=>⟨yb,λO g=>q O _ ((R.trans s4).trans<|ag g _) ⟨.ref M,_,r,ae,?_,.inr ⟨bE,M,U,L.free a4,((s3.trans s4).trans<|ag g _) _ _ a2,U⟩⟩⟩⟩;rw[yQ,A6]at a0;rw[xS CZ];calc(ag g _).seqT a0
theorem Fq(F:Fun K "_law_facts" "_law_facts" Y55 f fd) (bl:Bl K mg Y)(fQ:Callee P w K mg base 5 "_law_made" ["domain"] (fP K Y)):aN P w K mg base CX0 6 f fd ["plan"] (gL K Y):=by
 refine F.okA Z55 λb1 A a5 s H vs Q E hr h=>?_
 let(r,c,I,ts,fN,rfl,a2,ok,q):=h
 refine⟨_,(ar (jA (pv 0)<|dQ U<|aM (aE (i:=1) Z55.nd U<|Or.inr U)<|aM (aE (i:=2) Z55.nd U<|Or.inr U)<|aM (aE (i:=3) Z55.nd U<|Or.inl U) bS)
  (ah<|aG<|bK (bf U bl.range_<|aa (aC cJ (aw av U bl.len_ Kf<|aa (pv 1) af)<|aw av U bl.len_ Kf<|aa (pv 3) af) af) (aW (N:=["k","names","domains"]) (fr:=[1,2]) (cl:=[("names",s.heap.objs.size+1),("domains",s.heap.objs.size+1+1)]) U U (~~~0) (~~~0) U (~~~0) U U U (fZ.mpr ⟨U,fZ.mpr ⟨U,gZ _⟩⟩) U) U (λ_ _ _ _=>aV)<|λ_ _ _ _=>(bC<|aa (aF (dU (K:=K) U) (pv 1) (pv 0)<|λ_ _=>U)<|aa (aR fQ hr U<|aa (aF (dU (K:=K) U) (pv 2) (pv 0)<|λ_ _=>U) af) af))),?_⟩
 show(let r1:TS:=_;bu _ r1 _ _ _);intro _;let(M,dl,o,dv,tv,er,v,a4,a1,a3,Z):=id a2;let a7:(c.map V.str).length=c.length:=dn _;let b0:=ok.len;let a9:=ok.tab;let h7:=ok.n7;let a8:tv.length=ts.length:=Z.1;calc⟨λS d=>d=H/\S=[Kg (.ref r),Kg<|.ref M,Kg<|.ref dl,Kg (.ref o)],⟨_,U,r,_,U,SqT.of er,U,_,_,U,_,_,U,_,_,U,U,U,U⟩,?_⟩;rintro a6 R ⟨rfl,rfl⟩;let k:(((c.map V.str).length:Nat):Int)-((tv.length:Nat):Int)=(fN:Int):=∅
 refine⟨_,U,M,_,U,.inl<|SqL.of v,_,U,o,_,U,.inl<|SqL.of a3,_,_,U,U,_,U,(by rw[k];lia),(by rw[k];lia),bP (λD i g d=>ao R d/\d D=Kg (.lst g)/\ay g (List.range i) (FcN (Fr R D) Y.m Y.n d c I)) (λD B=>⟨ag B _,ae,ay.nil⟩) (λD i g d B hi h=>?_)<|λD g d B h=>?_⟩
 .let(e,G,j):=h;rw[k,w4]at hi;let O:=GC (l:=c) (i:=i) ∅;let C:=GC (l:=I) (i:=i) ∅;let(da,e2,u):=a1.2 i _ C;let t:=ok.doms _<|GG C;generalize I[i]=p at C u t;generalize c[i]=nm at O;let W:atI (c.map V.str) (0+(i:Int))=Kg (.str nm):=by rw[xv];exact aK<|cA O
  let T:atI dv (0+(i:Int))=Kg (.ref da):=by rw[xv];exact aK e2
  calc⟨_,U,_,U,M,_,_,_,U,U,SqL.of<|e _ _ v,W,_,U,_,U,dl,_,_,_,U,U,SqL.of<|e _ _ a4,T,da,p,U,u.same e,t,λx H6 s6 hx=>⟨bY,λb a0=>?_⟩⟩;let J:=ag a0<|.tup [.str nm,.ref x];let eT:upd H6 b (.tup [.str nm,.ref x]) b=Kg (.tup [.str nm,.ref x]):=ae;generalize upd H6 b (.tup [.str nm,.ref x])=H7 at J eT⊢;let L:=s6.trans J;let y:=L _ _ G;let X:ay (g++[.ref b]) (List.range i++[i]) (FcN (Fr R D) Y.m Y.n H7 c I):=ay.snoc (ay.mono j λ_ _ p=>p.same L) ⟨nm,p,x,O,C,eT,(hx.wk λa h=>⟨e.free h,λz=>by rw[z,G]at h;cases h⟩).same J⟩;refine b7.mk (by rw[k,w4];exact hi) y (aD (by rw[j.1,hZ];lia)) ⟨(e.trans L).upd B,ae,?_⟩;rw[kU];exact ay.mono X λ_ _ p=>p.upd Fr.out y
 .let(e,G,j):=h;rw[k,w4]at j;calc q D g d e G<|ay.mono j λ_ _ p=>p.fc
theorem Fs(F:Fun K "__init__" "Table.__init__" Y22 f fd) (bl:Bl K mg Y)(ie:Callee P w K mg base 5 "refuse_names_tables" ["names"] (cM K Y)) (gP:Callee P w K mg base 5 "refuse_counts_tables" ["names","rows"] (cD K Y)) (pY:Callee P w K mg base 5 "refuse_way" ["way","outcome"] (fX K Y)) (pZ:Callee P w K mg base 5 "refuse_row" ["domains","outcome","cells","code"] (fW K Y)) (vR:Callee P w K mg base 5 "own_row" ["cells","code"] (jL K Y)):aN P w K mg base CX0 6 f fd ["self","name","names","domains","outcome","way","rows"] (cF K Y):=by
 refine F.okA Z22 λd2 A c5 s H vs Q E hr h=>?_
 let(x,g,na,dl,m,rl,c,B,l,L,rx,bs,o,a1,rfl,hx,W,hw,b5,h1,h4,b1,b2,a0,c1,b4,R,hR,jN,d1,a4,q):=h
 refine⟨_,(az (aT<|aR ie hr U<|aa (aC mj (bh<|aa (pv 1) af)<|pv 2) af)
  (az (aT<|aR gP hr U<|aa (pv 2)<|aa (pv 6) af)
  (az (aT<|aR pY hr U<|aa (pv 5)<|aa (pv 4) af)
  (ar (bg GP.never U (aO<|pv 6) (dQ U<|aM (aE (i:=7) Z22.nd U<|Or.inl U)<|aM (aE (i:=8) Z22.nd U<|Or.inl U) bS)
  (ah<|aT<|aR pZ hr U<|aa (pv 3)<|aa (pv 4)<|aa (pv 7)<|aa (pv 8) af))
  (az (cK (pv 0) (pv 1) U)
  (az (cK (pv 0) (bH di U bl.list_ PyProof.Rows.boot_list<|aa (pv 2) af) U)
  (az (cK (pv 0) (bH di U bl.list_ PyProof.Rows.boot_list<|aa (pv 3) af) U)
  (az (cK (pv 0) (pv 4) U)
  (az (cK (pv 0) (pv 5) U)
  (ah<|cK (pv 0) (gg (aO<|pv 6) (dj (N:=["cells","code"]) (k:=2) U U (~~~0) (~~~0)<|~~~0) U (λ_ _ _ _=>(om (K:=K) (n:=2) U U<|aM (aE (i:=0) (show(["cells","code"]:La Str).Nodup by decide+kernel) U (Or.inl U) (Or.inr U)) (aM (aE (i:=1) (show(["cells","code"]:La Str).Nodup by decide+kernel) U (Or.inl U) (Or.inr U)) bS))) (λ_ _ _ _=>aV) (λ_ _ _ _=>(aR vR hr U<|aa (pv 0)<|aa (pv 1) af))) U)))))))))),?_⟩
 show(let r9:TS:=_;let r8:TS:=bA _ r9;let r7:TS:=bA _ r8;let r6:TS:=bA _ r7;let r5:TS:=bA _ r6;let r4:TS:=bA _ r5;let r3:TS:=bu _ r4;let r2:TS:=bA _ r3;let r1:TS:=bA _ r2;bA _ r1 _ _ _);intro _ _ _ _ _ _ _ _ _;let Z:(l.map V.str).length=l.length:=dn _;refine⟨_,U,(by show 1<=AA;decide),λl1 c0=>?_⟩;let s1:=ag c0<|.lst [.str c];let e1:upd H l1 (.lst [.str c]) l1=Kg (.lst [.str c]):=ae;generalize upd H l1 (.lst [.str c])=H1 at s1 e1⊢;refine⟨_,U,l1,na,_,_,U,U,e1,s1 _ _ W,(by rw[Z];show 1+l.length<=AA;exact big ∅),λl2 b6=>?_⟩;let s2:=s1.trans<|ag b6<|.lst<|[V.str c]++l.map V.str;let e2:upd H1 l2 (.lst<|[V.str c]++l.map V.str) l2=Kg (.lst<|(c :: l).map V.str):=ae;generalize upd H1 l2 (.lst<|[V.str c]++l.map V.str)=H2 at s2 e2⊢;refine⟨l2,c :: l,U,SqL.of e2,hw,b5,by rw[hU];lia,λH3 t3=>?_⟩;let s3:=s2.trans t3;refine⟨_,U,_,U,na,rl,_,_,U,SqL.of<|s3 _ _ W,SqL.of<|s3 _ _ R,by rw[Z];exact h1,by rw[Z];exact h4,jN,?_⟩;calc⟨_,U,_,U,B,m,U,b1,(λz=>let ⟨dx',fs',e'⟩:=b2 z;⟨dx',fs',s3 _ _ e'⟩),λH4 t4=>?_⟩;let s4:=s3.trans t4;refine⟨λa7 v=>ao H v/\∃c7 c8:Option V,a7=[Kg (.ref x),Kg<|.str c,Kg<|.ref na,Kg<|.ref dl,Kg<|.ref m,Kg<|.str B,Kg<|.ref rl,c7,c8],?_,?_⟩
 .refine⟨_,U,rl,U,⟨_,SqL.of<|s4 _ _ R⟩,bD (xs:=rx) (λi σ v=>ao H v/\∃c7 c8:Option V,σ=[Kg (.ref x),Kg<|.str c,Kg<|.ref na,Kg<|.ref dl,Kg<|.ref m,Kg<|.str B,Kg<|.ref rl,c7,c8]) ⟨s4,_,_,U⟩ (λi σ v _ h=>SqL.of<|h.1 _ _ R) (λi y σ v e h=>?_)<|λσ v h=>h⟩;let(u,c7,c8,rfl):=h;let(r,w_,rfl,ew,ce,cv,g1,_,g2,g3):=ay.get (hR.same u) e;calc⟨r,_,U,SqT.of g1,U,_,_,U,_,_,U,U,?_⟩;exact⟨_,U,_,U,_,U,_,U,dl,m,ce,L,cv,bs,o,w_,U,SqL.of<|u _ _ a0,ay.mono c1 λ_ _ p=>p.same u,b4.same u,g2,g3,a4 w_<|GG ew,λH2 t2=>⟨u.trans t2,_,_,U⟩⟩
 rintro c6 M ⟨J,c7,c8,rfl⟩;let x5:=J _ _ hx;let a9:na≠x:=cy W hx (by intro z;cases z);let c3:dl≠x:=cy a0 hx (by intro z;cases z);let a8:rl≠x:=cy R hx (by intro z;cases z);let k5:∀b o,b≠x->H b=Kg o->M b=Kg o:=λb o _ e=>J b o e
 let R5:=RL.hide x5<|hR.same J;refine⟨_,U,_,U,x,_,g,_,U,x5,bl.k_Table,bl.na_Table_name,(by show 0<1000;decide),?_⟩;let k6:∀b o,b≠x->M b=Kg o->upd M x (.ins Y.o g [(s!"name",.str c)]) b=Kg o:=λb o t e=>(aq t).trans e
 let x6:upd M x (.ins Y.o g [(s!"name",.str c)]) x=Kg (.ins Y.o g [(s!"name",.str c)]):=ae;let g6:upd M x (.ins Y.o g<|bI s!"name" (.str c) [])=upd M x (.ins Y.o g [(s!"name",.str c)]):=rfl;rw[g6];clear g6;generalize upd M x (.ins Y.o g [(s!"name",.str c)])=H6 at k6 x6⊢;refine⟨_,U,na,_,U,.inl<|SqL.of<|k6 _ _ a9<|J _ _ W,λd S=>⟨_,U,x,_,g,_,U,jI x6 S,bl.k_Table,bl.na_Table_names,(by show 1<1000;decide),?_⟩⟩;let g7:upd (upd H6 d<|.lst<|l.map V.str) x (.ins Y.o g<|bI s!"names" (V.ref d) [(s!"name",V.str c)])=upd (upd H6 d<|.lst<|l.map V.str) x (.ins Y.o g [(s!"name",V.str c),(s!"names",V.ref d)]):=by rw[pf1]
 rw[g7];clear g7;let k7:∀b o,b≠x->M b=Kg o->upd (upd H6 d<|.lst<|l.map V.str) x (.ins Y.o g [(s!"name",V.str c),(s!"names",V.ref d)]) b=Kg o:=λb o t e=>(aq t).trans<|jI (k6 b o t e) S
 let x7:upd (upd H6 d<|.lst<|l.map V.str) x (.ins Y.o g [(s!"name",V.str c),(s!"names",V.ref d)]) x=Kg (.ins Y.o g [(s!"name",V.str c),(s!"names",V.ref d)]):=ae;let O:d≠x:=λz=>by rw[z,x6]at S;cases S
 let j7:upd (upd H6 d<|.lst<|l.map V.str) x (.ins Y.o g [(s!"name",V.str c),(s!"names",V.ref d)]) d=Kg (.lst<|l.map V.str):=(aq O).trans ae;generalize upd (upd H6 d<|.lst<|l.map V.str) x (.ins Y.o g [(s!"name",V.str c),(s!"names",V.ref d)])=H7 at k7 x7 j7⊢;refine⟨_,U,dl,_,U,.inl<|SqL.of<|k7 _ _ c3<|J _ _ a0,λj I=>⟨_,U,x,_,g,_,U,jI x7 I,bl.k_Table,bl.na_Table_domains,(by show 2<1000;decide),?_⟩⟩;let g8:upd (upd H7 j<|.lst L) x (.ins Y.o g<|bI s!"domains" (V.ref j) [(s!"name",V.str c),(s!"names",V.ref d)])=upd (upd H7 j<|.lst L) x (.ins Y.o g [(s!"name",V.str c),(s!"names",V.ref d),(s!"domains",V.ref j)]):=by rw[pf2]
 rw[g8];clear g8;let k8:∀b o,b≠x->M b=Kg o->upd (upd H7 j<|.lst L) x (.ins Y.o g [(s!"name",V.str c),(s!"names",V.ref d),(s!"domains",V.ref j)]) b=Kg o:=λb o t e=>(aq t).trans<|jI (k7 b o t e) I
 let x8:upd (upd H7 j<|.lst L) x (.ins Y.o g [(s!"name",V.str c),(s!"names",V.ref d),(s!"domains",V.ref j)]) x=Kg (.ins Y.o g [(s!"name",V.str c),(s!"names",V.ref d),(s!"domains",V.ref j)]):=ae;let T:j≠x:=λz=>by rw[z,x7]at I;cases I
 let j8:upd (upd H7 j<|.lst L) x (.ins Y.o g [(s!"name",V.str c),(s!"names",V.ref d),(s!"domains",V.ref j)]) d=Kg (.lst<|l.map V.str):=(aq O).trans<|jI j7 I;let i8:upd (upd H7 j<|.lst L) x (.ins Y.o g [(s!"name",V.str c),(s!"names",V.ref d),(s!"domains",V.ref j)]) j=Kg (.lst L):=(aq T).trans ae;generalize upd (upd H7 j<|.lst L) x (.ins Y.o g [(s!"name",V.str c),(s!"names",V.ref d),(s!"domains",V.ref j)])=H8 at k8 x8 j8 i8⊢;refine⟨_,U,_,U,x,_,g,_,U,x8,bl.k_Table,bl.na_Table_outcome,(by show 3<1000;decide),?_⟩;let g9:upd H8 x (.ins Y.o g<|bI s!"outcome" (V.ref m) [(s!"name",V.str c),(s!"names",V.ref d),(s!"domains",V.ref j)])=upd H8 x (.ins Y.o g [(s!"name",V.str c),(s!"names",V.ref d),(s!"domains",V.ref j),(s!"outcome",V.ref m)]):=by rw[pf3]
 rw[g9];clear g9;let k9:∀b o,b≠x->M b=Kg o->upd H8 x (.ins Y.o g [(s!"name",V.str c),(s!"names",V.ref d),(s!"domains",V.ref j),(s!"outcome",V.ref m)]) b=Kg o:=λb o t e=>(aq t).trans<|k8 b o t e
 let x9:upd H8 x (.ins Y.o g [(s!"name",V.str c),(s!"names",V.ref d),(s!"domains",V.ref j),(s!"outcome",V.ref m)]) x=Kg (.ins Y.o g [(s!"name",V.str c),(s!"names",V.ref d),(s!"domains",V.ref j),(s!"outcome",V.ref m)]):=ae;let j9:upd H8 x (.ins Y.o g [(s!"name",V.str c),(s!"names",V.ref d),(s!"domains",V.ref j),(s!"outcome",V.ref m)]) d=Kg (.lst<|l.map V.str):=(aq O).trans j8;let i9:upd H8 x (.ins Y.o g [(s!"name",V.str c),(s!"names",V.ref d),(s!"domains",V.ref j),(s!"outcome",V.ref m)]) j=Kg (.lst L):=(aq T).trans i8;generalize upd H8 x (.ins Y.o g [(s!"name",V.str c),(s!"names",V.ref d),(s!"domains",V.ref j),(s!"outcome",V.ref m)])=H9 at k9 x9 j9 i9⊢;refine⟨_,U,_,U,x,_,g,_,U,x9,bl.k_Table,bl.na_Table_way,(by show 4<1000;decide),?_⟩;let a5:upd H9 x (.ins Y.o g<|bI s!"way" (V.str B) [(s!"name",V.str c),(s!"names",V.ref d),(s!"domains",V.ref j),(s!"outcome",V.ref m)])=upd H9 x (.ins Y.o g [(s!"name",V.str c),(s!"names",V.ref d),(s!"domains",V.ref j),(s!"outcome",V.ref m),(s!"way",V.str B)]):=by rw[pf4]
 rw[a5];clear a5;let G:∀b o,b≠x->M b=Kg o->upd H9 x (.ins Y.o g [(s!"name",V.str c),(s!"names",V.ref d),(s!"domains",V.ref j),(s!"outcome",V.ref m),(s!"way",V.str B)]) b=Kg o:=λb o t e=>(aq t).trans<|k9 b o t e
 let C:upd H9 x (.ins Y.o g [(s!"name",V.str c),(s!"names",V.ref d),(s!"domains",V.ref j),(s!"outcome",V.ref m),(s!"way",V.str B)]) x=Kg (.ins Y.o g [(s!"name",V.str c),(s!"names",V.ref d),(s!"domains",V.ref j),(s!"outcome",V.ref m),(s!"way",V.str B)]):=ae;let a2:upd H9 x (.ins Y.o g [(s!"name",V.str c),(s!"names",V.ref d),(s!"domains",V.ref j),(s!"outcome",V.ref m),(s!"way",V.str B)]) d=Kg (.lst<|l.map V.str):=(aq O).trans j9;let a3:upd H9 x (.ins Y.o g [(s!"name",V.str c),(s!"names",V.ref d),(s!"domains",V.ref j),(s!"outcome",V.ref m),(s!"way",V.str B)]) j=Kg (.lst L):=(aq T).trans i9;generalize upd H9 x (.ins Y.o g [(s!"name",V.str c),(s!"names",V.ref d),(s!"domains",V.ref j),(s!"outcome",V.ref m),(s!"way",V.str B)])=H10 at G C a2 a3⊢;let c4:RL NT H10 rx a1:=RL.same R5<|lp G;let zW:=G _ _ a8<|J _ _ R
 refine⟨_,U,rl,U,⟨_,SqL.of zW⟩,eJ (xs:=rx) (λD i l v=>ao H10 v/\v D=Kg (.lst l)/\RL (Fr H10 D) v l (a1.take i))
  (λD X=>⟨ag X _,ae,ay.nil⟩) (λD i l v X _ h=>SqL.of<|h.1 _ _ zW) (λD i y l v X e h ts b3=>?_) (λD l v X h=>?_)⟩
 .let(u,eD,hz):=h;let(r,w_,rfl,ew,ce,cv,g1,_,g2,g3):=ay.get (c4.same u) e;let hi:i<rx.length:=(GD.mp e).1;let(t0,t1,rfl):∃t0 t1,ts=[t0,t1]:=by
   match ts,b3 with
   | [t0,t1],_=>exact⟨t0,t1,U⟩
  calc⟨r,_,U,SqT.of g1,U,_,_,U,_,_,U,U,⟨[Kg (.ref ce),Kg (.int w_.2)],U,U⟩,?_⟩;refine⟨_,U,_,U,ce,cv,w_,U,g2,g3,by rw[(a4 w_<|GG ew).len];lia,λr2 H2 t2 c9 xZ=>?_⟩;let a6:=t2 _ _ eD;let d0:l.length<=200:=by
   let:=hz.1;rw[eV]at this;lia
  calc b7.mk hi a6 (aD ∅) ⟨(u.trans t2).upd X,ae,?_⟩;rw[take_snoc ew];exact RL.updN (ay.snoc (hz.same t2)<|xZ.wk λa h=>⟨u.free h,λz=>by rw[z,eD]at h;cases h⟩) Fr.out a6
 .let(u,eD,hz):=h;rw[hR.1,fD]at hz;refine⟨_,U,x,_,g,_,U,u _ _ C,bl.k_Table,bl.na_Table_rows,(by show 5<1000;decide),?_⟩;let c2:upd v x (.ins Y.o g<|bI s!"rows" (V.ref D) [(s!"name",V.str c),(s!"names",V.ref d),(s!"domains",V.ref j),(s!"outcome",V.ref m),(s!"way",V.str B)])=upd v x (.ins Y.o g [(s!"name",V.str c),(s!"names",V.ref d),(s!"domains",V.ref j),(s!"outcome",V.ref m),(s!"way",V.str B),(s!"rows",V.ref D)]):=by rw[pf5]
  rw[c2];let b0:D≠x:=λz=>by rw[z,C]at X;cases X
  calc q _ _ D l (λb o t e=>(aq t).trans<|u _ _<|G b o t<|J _ _ e) ae U U U U ⟨d,j,J.free<|i0 k6 x6 S,J.free<|i0 k7 x7 I,U,U,(aq O).trans<|u _ _ a2,(aq T).trans<|u _ _ a3⟩ (J.free<|i0 G C X) ((aq b0).trans eD) ?_;calc RL.same (RL.hideN (u _ _ C)<|ay.mono hz λ_ _ p=>p.wk λa h=>J.free<|i0 G C h.1)<|lp λb o t e=>(aq t).trans e
theorem Ft(F:Fun K "steps" "steps" Y83 f fd) (bl:Bl K mg Y)(nO:Callee P w K mg base 6 "judged_step" ["table","columns"] (fz K Y)):aN P w K mg base CX0 7 f fd ["tables","codes"] (kD K Y):=by
 refine F.okA Z83 λh9 A f9 s H vs Q E hr h=>?_
 let(Z,d,tv,O,ds,ts,B,G,od,kvs,rfl,hd,c8,b3,ok,b4,Fu,g9,b6,hF,e9,q):=h
 refine⟨_,(ar (aI (i:=2) Z83.nd U (Or.inr U)<|bH (jH U) U bl.dict_ PyProof.Rows.boot_dict<|aa (gg (xq<|pv 1) (dj (N:=["fact","code"]) (k:=2) U U (~~~0) (~~~0)<|~~~0) U (λ_ _ _ _=>(om (K:=K) (n:=2) U U<|aM (aE (i:=0) (show(["fact","code"]:La Str).Nodup by decide+kernel) U (Or.inl U) (Or.inr U)) (aM (aE (i:=1) (show(["fact","code"]:La Str).Nodup by decide+kernel) U (Or.inl U) (Or.inr U)) bS))) (λ_ _ _ _=>aV) (λ_ _ _ _=>(bC<|aa (pv 0)<|aa (bC<|aa aS<|aa (pv 1) af) af))) af)
  (ar (aI (i:=3) Z83.nd U (Or.inl U)<|bh af)
  (ar (bg GP.never U (aO<|pv 0) (aE (i:=4) Z83.nd U<|Or.inl U)
  (ar (aI (i:=5) Z83.nd U (Or.inl U)<|aR nO hr U<|aa (pv 4)<|aa (bK (aO<|aY (pv 4) U) (aW (N:=["column","told"]) (fr:=[2]) (cl:=[("told",s.heap.objs.size+1)]) U U (~~~0) (~~~0) U (~~~0) U U U (fZ.mpr ⟨U,gZ _⟩) U) U (λ_ _ _ _=>aV)<|λ_ _ _ _=>(aF mQ (pv 1) (pv 0)<|λ_ _=>U)) af)
  (az (kz hr (pv 2) (aY (pv 4) U) (aF bc (pv 5) ai<|λ_ _=>U) U)
  (ah<|aT<|fh PySem.F.plainAttrs_list PySem.F.slot_list_append PySem.F.type_list_append cz (pv 3)<|aa (pv 5) af))))
  (ah<|aG<|pv 3)))),?_⟩
 show(let r3:TS:=_;let r2:TS:=bu _ r3;let r1:TS:=bu _ r2;bu _ r1 _ _ _);intro _ _ _;let h7:=ok.n7;let g8:=ok.len;let g7:=ok.tab;let g3:=b4.len;let vS:∀(k:Nat)(t:PT),ts[k]?=Kg t->∀c∈t.cols,c<B+k:=λk t et c hc=>(ok.tabs k t et).ok.lt c hc
 refine⟨λW g=>ao (hide H d) g/\∃(M:Ak)(L:La (Key×V)),hide H d M=Kh/\g M=Kg (.dK L)/\L.length<=7/\TIv K g O ds ts B G L (λc=>c<B/\∀z,O[c]?=Kg z->z∈kvs.map (·.1))/\W=[Kg (.ref Z),Kg<|.ref d,Kg<|.ref M,Kh,Kh,Kh],?_,?_⟩
 .refine⟨_,U,d,kvT kvs,U,hd,λo=>?_⟩;let s0:ao (hide H d) (upd H d<|.frz o<|.dK<|kvT kvs):=lp λb u hb e=>(aq hb).trans e
  let e0:upd H d (.frz o<|.dK<|kvT kvs) d=Kg (.frz o<|.dK<|kvT kvs):=ae;generalize upd H d (.frz o<|.dK<|kvT kvs)=H1 at s0 e0⊢;let a1:(kvT kvs).length=kvs.length:=by unfold kvT;exact dn _
  refine qM (kvs:=kvT kvs) (λD i R g=>ao H1 g/\g D=Kg (.lst R)/\∃ks:La (Str×V),TdA g R ks<|kvs.take i) (λD hD=>⟨ag hD _,ae,[],⟨U,U,λj p e=>by simp at e⟩⟩) (λD i R g hD _ h=>h.1 _ _ e0) (λD i L R g T hD d1 h hT b0 e4=>?_) (λD R g hD h=>?_)
  .let(sm,eD,ks,C):=h;let(pz,c9,rfl):=pD d1;let(z,v):=pz;let(f,hf,ef,ev):=hF _<|GG c9;let ev:v=.int (G.getD f 0):=ev;subst ev;let hi:i<(kvT kvs).length:=(GD.mp d1).1;let(t0,t1,rfl):∃t0 t1,b0=[t0,t1]:=by
    match b0,e4 with
    | [t0,t1],_=>exact⟨t0,t1,U⟩
   let u1:=ag hT<|.tup [kV (Sum.inr z),.int (G.getD f 0)];let eT:upd g T (.tup [kV (Sum.inr z),.int (G.getD f 0)]) T=Kg (.tup [.str z,.int (G.getD f 0)]):=ae;generalize upd g T (.tup [kV (Sum.inr z),.int (G.getD f 0)])=H2 at u1 eT⊢;calc⟨T,_,U,SqT.of eT,U,_,_,U,_,_,U,U,⟨[Kg (.str z),Kg (.int<|G.getD f 0)],U,U⟩,?_⟩;calc⟨_,U,_,U,bY,λS hS=>⟨bY,λT2 c6=>?_⟩⟩;let u2:=ag hS<|.tup [.str s!"say",.int (G.getD f 0)];let eS:upd H2 S (.tup [.str s!"say",.int (G.getD f 0)]) S=Kg (.tup<|tp<|say<|G.getD f 0):=ae;generalize upd H2 S (.tup [.str s!"say",.int (G.getD f 0)])=H3 at u2 eS c6⊢;let u3:=ag c6<|.tup [.str z,.ref S];let d2:upd H3 T2 (.tup [.str z,.ref S]) T2=Kg (.tup [.str z,.ref S]):=ae;generalize upd H3 T2 (.tup [.str z,.ref S])=H4 at u3 d2⊢;let a4:=(u1.trans u2).trans u3;let d3:=a4 _ _ eD;let e2:R.length<=7:=by
    let h1:=Kt List.length C.keys;rw[dn,dn,eV]at h1;rw[C.len];lia
   calc b7.mk hi d3 (aD ∅) ⟨(sm.trans a4).upd hD,ae,ks++[(z,.ref S)],?_⟩;rw[take_snoc c9];exact((C.tups a4.tups).snoc d2<|u3 _ _ eS).tups (oS d3)
  .let(sm,eD,ks,C):=h;rw[a1,fD]at C;let C0:ks.length=kvs.length:=by have:=Kt List.length C.keys;simpa using this
   refine⟨D,R,ks,U,eD,C.len,λj p_ ep=>?_,by rw[C.keys];exact b6,λM c1=>?_⟩
   .let(T,S,c,h1,h2,h3,_):=C.at_ j p_ ep;exact⟨T,h1,by rw[h3];exact h2⟩
   .let u:=ag c1<|.dK<|kvT ks;refine⟨(s0.trans sm).trans u,M,kvT ks,(s0.trans sm).free c1,ae,by unfold kvT;rw[dn];lia,(C.tups u.tups).tiv ok.nd b6 hF,U⟩
 rintro g1 H1 ⟨s1,M,e1,d6,a8,Gx,Fv,rfl⟩;calc⟨λW g=>ao H1 g/\∃I:Ak,H1 I=Kh/\g I=Kg (.lst [])/\W=[Kg (.ref Z),Kg<|.ref d,Kg<|.ref M,Kg<|.ref I,Kh,Kh],⟨tS _,λl hl=>⟨ag hl _,l,hl,ae,U⟩⟩,?_⟩;rintro g0 H2 ⟨s2,I,b2,f8,rfl⟩;let b1:=s1.trans s2;let Fw:=s1.free b2;let Fx:=s2 _ _ a8;let a5:M≠I:=λz=>by rw[z,b2]at a8;cases a8
 refine⟨λW g=>ao (hide H d) g/\∃xs:La V,g I=Kg (.lst xs)/\ay xs od (StK NT K g O ds ts B G)/\∃c4 c5:Option V,W=[Kg (.ref Z),Kg<|.ref d,Kg<|.ref M,Kg<|.ref I,c4,c5],?_,?_⟩
 .refine⟨_,U,Z,U,⟨_,SqL.of<|b1 _ _ c8⟩,bD (xs:=tv) (λi σ g=>ao (hide H d) g/\∃(L:La (Key×V))(xs:La V),g M=Kg (.dK L)/\L.length<=7+i/\TIv K g O ds ts B G L (λc=>(c<B/\∀z,O[c]?=Kg z->z∈kvs.map (·.1))\/(B<=c/\c-B∈od.take i))/\g I=Kg (.lst xs)/\ay xs (od.take i) (StK (λx=>x≠I) K g O ds ts B G)/\∃c4 c5:Option V,σ=[Kg (.ref Z),Kg<|.ref d,Kg<|.ref M,Kg<|.ref I,c4,c5]) ⟨b1,e1,[],Fx,∅,(λc z e p=>(Fv.same s2) c z e (by rcases p with p|⟨_,p⟩;calc p;cases p)),f8,ay.nil,_,_,U⟩ (λi σ g _ h=>SqL.of<|h.1 _ _ c8) (λi y σ g e h=>?_) (λσ g h=>?_)⟩
  .let(sm,L,xs,a9,a1,a6,exk,X,c4,c5,rfl):=h;let(a,j,rfl,ej,hT):=ay.get b3 e;let hi:i<od.length:=(GD.mp ej).1;let h0:=b4.lt j<|GG ej;let c7:=hT.same sm;let(t,nm,p,ou,dv,et,a7,ep,g4,g5,g6):=id c7;let(rl,dx,na,dl,fs,g2,ht,f1,f2,f3,f4,f5,f6,d0,h8,h5,hR,jN):=g4;let tok:=ok.tabs j t et;let d5:=ok.doms p<|GG ep;let h4:t.cols.length<=3:=tok.ok.few;let e8:∀k∈t.cols,k<O.length:=λk hk=>by
    let:=tok.ok.lt k hk;lia
   let(b5,e6):=ck e8;refine⟨λW J=>ao g J/\∃r:Ak,StA (λx=>g x=Kh) K J r nm t p (t.cols.map<|cvo ts ds B G)/\W=[Kg (.ref Z),Kg<|.ref d,Kg<|.ref M,Kg<|.ref I,Kg<|.ref a,Kg (.ref r)],?_,?_⟩
   .refine⟨_,U,_,U,a,_,_,_,_,U,ht,bl.k_Table,bl.na_Table_names,f5,na,U,⟨_,SqL.of d0⟩,bj (xs:=(prm t.cols O).map V.str) (λD m R J=>ao g J/\J D=Kg (.lst R)/\ay R ((t.cols.take m).map<|cvo ts ds B G) (λr v=>SqT K g r<|tp v)) (λD hD=>⟨ag hD _,ae,ay.nil⟩) (λD m R J hD _ h=>SqL.of<|h.1 _ _ d0) (λD m y R J hD e h=>?_)<|λD R J hD h=>?_⟩
    .let(sn,eD,hy):=h;let(z,rfl,ez):=dD e;let hm:m<((prm t.cols O).map V.str).length:=(GD.mp e).1;let e7:m<t.cols.length:=by rw[dn,b5]at hm;exact hm
     have a2:=GC e7;generalize t.cols[m]=c at a2;let f0:O[c]?=Kg z:=by rw[←e6 m c a2];exact ez
     have c2:=GG a2;let(rr,Fy,e5):=a6 c z f0 (by
      by_cases c3:c<B
      .exact .inl ⟨c3,λz' f7=>e9 j (GG ej) t et c c2 c3 z' f7⟩
      .refine .inr ⟨∅,Fu i j ej (c-B) ?_⟩;unfold akT;rw[et];exact eH.mpr ⟨c,hQ.mpr ⟨c2,Kq ∅⟩,U⟩)
     have e2:R.length<=3:=by
      have h1:=hy.1;rw[dn,eV]at h1;lia
     calc⟨_,U,_,U,M,L,z,.ref rr,U,U,sn _ _ a9,Fy,b7.mk hm eD (aD ∅) ⟨sn.upd hD,ae,?_⟩⟩;rw[take_snoc a2,dz];exact ay.snoc hy e5
    .let(sn,eD,hy):=h;rw[dn,b5,fD]at hy;exact⟨a,D,j,O,ds,ts,B,R,_,t,p,nm,U,c7.same sn,et,a7,ep,tok,d5,SqL.of eD,ay.mono hy<|λ_ _ h=>sn.seqT h,dn _,λr H3 s3 a0=>⟨sn.trans s3,r,a0.wk<|λx hx=>sn.free hx,U⟩⟩
   rintro d4 H3 ⟨s3,r,a0,rfl⟩;let(cv,mm,r3,er,Fz,zL):=id a0;let Bx:=s3 _ _ a9;let FA:=s3 _ _ exk;let h6:M≠I:=a5;refine⟨_,U,r,_,_,_,U,U,SqT.of er,U,_,U,_,U,a,_,_,_,_,U,s3 _ _ ht,bl.k_Table,bl.na_Table_name,f2,M,L,nm,U,U,Bx,vU a1<|vU (show 7+i<=100 by lia) ⋯,?_⟩;let a3:upd H3 M (.dK<|putK L (Sum.inr nm)<|.ref r3) I=Kg (.lst xs):=(aq a5.symm).trans FA;refine⟨_,U,.inl ⟨U,_,SqL.of a3⟩,_,U,I,_,_,U,U,a3,aD (by have:=X.1;rw[eV]at this;lia),?_⟩;let FC:TIv K H3 O ds ts B G (putK L (Sum.inr nm)<|.ref r3) (λc=>(c<B/\∀z,O[c]?=Kg z->z∈kvs.map (·.1))\/(B<=c/\c-B∈od.take (i+1))):=by
    refine(a6.same s3).put ok.nd (c0:=B+j) a7 ?_ λc hc=>?_
    .unfold cvo;rw[Kn ∅,show B+j-B=j by lia,xR vS et ep];exact Fz
    .rcases hc with hc|⟨h1,h2⟩
     .exact .inr<|.inl hc
     .rw[take_snoc ej]at h2;rcases gs.mp h2 with h2|h2
      .exact .inr<|.inr ⟨h1,h2⟩
      .let:=gu.mp h2;exact .inl ∅
   let e3:ay xs (od.take i) (StK (λx=>x≠I) K H3 O ds ts B G):=ay.mono X λ_ _ p=>p.same s3
   let kZ:StK (λx=>x≠I) K H3 O ds ts B G r j:=⟨t,p,nm,et,ep,a7,a0.wk λx hx z=>by rw[z,exk]at hx;cases hx⟩;refine⟨((sm.trans s3).upd d6).upd Fw,putK L (Sum.inr nm)<|.ref r3,xs++[.ref r],(aq a5).trans ae,?_,(FC.updX Bx (λ_ z=>by cases z) (λ_ _ z=>by cases z)).updX a3 (λ_ z=>by cases z) (λ_ _ z=>by cases z),ae,?_,_,_,U⟩
   .let:=eO L (Sum.inr nm:Key)<|.ref r3;lia
   .rw[take_snoc ej];exact ay.mono (ay.mono (ay.snoc e3 kZ) λ_ _ p=>p.updD Bx) λ_ _ p=>p.updL a3<|λz=>z U
  .let(sm,L,xs,a9,a1,a6,exk,X,c4,c5,rfl):=h;rw[b3.1,fD]at X;exact⟨sm,xs,exk,ay.mono X λ_ _ p=>p.wk λ_ _=>trivial,c4,c5,U⟩
 rintro d4 H3 ⟨s3,xs,exk,X,c4,c5,rfl⟩;calc⟨_,U,q I xs H3 s3 exk X⟩
theorem FD(F:Fun K "last_verdict" "last_verdict" Y50 f fd) (bl:Bl K mg Y)(p4:Callee P w K mg base 7 "steps" ["tables","codes"] (kD K Y)):aN P w K mg base CX0 8 f fd ["tables","facts","codes"] (eU K Y):=by
 refine F.okA Z50 λa4 A a0 s H vs Q E hr h=>?_
 let(I,fa,ca,tv,b,ds,d,a,k,G,js,rfl,T,J,ok,B,X,Z,L,C3,q):=h;calc⟨_,(ah<|aG<|aF bc (aF aH (aR p4 hr U<|aa (pv 0)<|aa (tD U U bl.dict_ U bl.zip_<|aa (pv 1)<|aa (pv 2) af) af) (zy wb ai)<|λ_ _=>U) ai<|λ_ _=>U),?_⟩;let g:=iF ok;let h7:=ok.n7;let a2:=ok.tab;let vS:∀(k:Nat)(t:PT),d[k]?=Kg t->∀c∈t.cols,c<a+k:=λk t e c C=>(ok.tabs k t e).ok.lt c C
 let(r,N):=uE ok L C3;let u:((b.take a).filter<|cI d b a k).Nodup:=(ok.nd.sublist<|ly _ _).sublist ra;let R:=iK (cI d b a k)<|b.take a;rw[eV]at R;refine⟨_,U,_,U,_,U,fa,ca,_,_,U,SqL.of X,SqL.of Z,by rw[dn,dn,r],u,λD hD=>?_⟩;let y:ao H (hide (upd H D<|.dK<|kvT<|((b.take a).filter<|cI d b a k).zip<|(js.map λf=>G.getD f 0).map V.int) D):=lq (ag hD _) hD;let v:(((b.take a).filter<|cI d b a k).zip<|(js.map λf=>G.getD f 0).map V.int).map (·.1)=(b.take a).filter (cI d b a k):=List.map_fst_zip (by rw[dn,dn,r];exact tj _);refine⟨I,D,tv,b,ds,d,a,G,odr (akT d a) k [],_,U,ae,y _ _ T,ay.mono J<|λ_ _ p=>p.same y,ok,Tld.odr g Tld.nil B,(uF g k [] uG).1,?_,by rw[v];exact u,λp hp=>?_,λj hj t e c C S z x=>?_,λl xs H' s' el n=>?_⟩
 .rw[lE];lia
 .let(i,ei):=gT hp;rw[List.getElem?_zip_eq_some]at ei;let(e1,e2):=ei;let(f,ef,x):=N i p.1 e1;rw[dy,dy,ef]at e2;exact⟨f,((C3 f).mp<|GG ef).lt,x,(Option.some.inj e2).symm⟩
 .rw[v];refine hQ.mpr ⟨GG (i:=c) (by rw[jR,Ko S];exact x),?_⟩;unfold cI;rw[jT];calc⟨j,hj,?_⟩;unfold nmT;rw[e];let tok:=(ok.tabs j t e).ok;let(m,em):=gT C;let O:∀k∈t.cols,k<b.length:=λk B=>by
   let:=tok.lt k B;let:=(GD.mp e).1;let:=ok.len;lia
  let:=(ck O).2 m c em;rw[x]at this;simpa using GG this
 let(od,M):=uH g k;rw[M]at n;let(rp,ix,t,p,a1,e,ep,FE,a3,m',r3,W,o,_):=oY n;rw[←xR vS e ep]at o;calc⟨_,U,l,_,_,_,U,U,SqL.of el,ix,rp,_,_,_,U,U,SqT.of W,U,q r3 H' (y.trans s') o⟩
theorem FG(F:Fun K "_law_table" "_law_table" Y66 f fd) (bl:Bl K mg Y)(a4:bF CX0 P w K mg base 6 "Table" Y.o ["self","name","names","domains","outcome","way","rows"] (cF K Y)) (fQ:Callee P w K mg base 7 "_law_made" ["domain"] (fP K Y)):aN P w K mg base CX0 8 f fd ["plan","k"] (gM K Y):=by
 refine F.okA Z66 λj1 A g9 s H vs Q E hr h=>?_
 let(r,k,X,W,ts,fN,t,nm,po,rfl,f7,ok,et,a9,a3,q):=h
 refine⟨_,(ar (jA (pv 0)<|dQ U<|aM (aE (i:=2) Z66.nd U<|Or.inr U)<|aM (aE (i:=3) Z66.nd U<|Or.inr U)<|aM (aE (i:=4) Z66.nd U<|Or.inl U) bS)
  (ar (aI (i:=5) Z66.nd U (Or.inl U)<|aC bB (aC cJ (aw av U bl.len_ Kf<|aa (pv 2) af)<|aw av U bl.len_ Kf<|aa (pv 4) af)<|pv 1)
  (ar (aI (i:=6) Z66.nd U (Or.inl U)<|aF bc (aF aH (pv 4) (pv 1)<|λ_ _=>U) ai<|λ_ _=>U)
  (ar (qI (i:=7) Z66.nd U (Or.inl U) (aO<|aF bc (aF aH (pv 4) (pv 1)<|λ_ _=>U) ai<|λ_ _=>U) (dj (N:=["row"]) (k:=1) U U (~~~0) (~~~0)<|~~~0) U (λ_ C1 _ _=>(aE (i:=0) (show(["row"]:La Str).Nodup by decide+kernel) U (Or.inl U) (Or.inr U))) (λ_ C1 _ _=>aV) (λ_ C1 _ _=>(bC<|aa (gg (xg (K:=K) U<|aF (dW (K:=K) U) (pv 0) ai<|λ_ _=>U) (dj (N:=["spans"]) (k:=1) U U (~~~0) (~~~0)<|~~~0) U (λ_ C2 _ _=>(aE (i:=0) (show(["spans"]:La Str).Nodup by decide+kernel) U (Or.inl U) (Or.inr U))) (λ_ C2 _ _=>aV) (λ_ C2 _ _=>(bH (ju (K:=K) U) U bl.list_ PyProof.Rows.boot_list<|aa (pv 0) af))) (aa (aF (dW (K:=K) U) (pv 0) ai<|λ_ _=>U) af))))
  (ar (eZ (i:=8) Z66.nd U (Or.inl U) (aO<|pv 6) (aW (N:=["j","names"]) (fr:=[2]) (cl:=[("names",s.heap.objs.size+1)]) U U (~~~0) (~~~0) U (~~~0) U U U (fZ.mpr ⟨U,gZ _⟩) U) U (λ_ _ _ _=>aV)<|λ_ _ _ _=>(aF (dU (K:=K) U) (pv 1) (pv 0)<|λ_ _=>U))
  (ar (eZ (i:=9) Z66.nd U (Or.inl U) (aO<|pv 6) (aW (N:=["j","domains"]) (fr:=[3]) (cl:=[("domains",s.heap.objs.size+1+1)]) U U (~~~0) (~~~0) U (~~~0) U U U (fZ.mpr ⟨U,gZ _⟩) U) U (λ_ _ _ _=>aV)<|λ_ _ _ _=>(aR fQ hr U<|aa (aF (dU (K:=K) U) (pv 1) (pv 0)<|λ_ _=>U) af))
  (ah<|aG<|uc a4 bV hr U<|aa (aF aH (pv 2) (pv 5)<|λ_ _=>U)<|aa (pv 8)<|aa (pv 9)<|aa (aR fQ hr U<|aa (aF aH (pv 3) (pv 5)<|λ_ _=>U) af)<|aa (aF bc (aF aH (pv 4) (pv 1)<|λ_ _=>U) ai<|λ_ _=>U)<|aa (pv 7) af))))))),?_⟩
 show(let r6:TS:=_;let r5:TS:=bu _ r6;let r4:TS:=bu _ r5;let r3:TS:=bu _ r4;let r2:TS:=bu _ r3;let r1:TS:=bu _ r2;bu _ r1 _ _ _);intro _ _ _ _ _ _;let(nl,dl,g,dv,tv,er,b5,c8,c7,a8,c4):=id f7;let(ta,b4,cl,rl,rx,g1,g2,g3,g4):=c4.2 k t et;let h6:(X.map V.str).length=X.length:=dn _;let c6:=ok.len;let i9:=ok.tab;let i1:tv.length=ts.length:=c4.1;let h7:=ok.n7;let tok:=ok.tabs k t et;let S:=ok.lt et;let Gy:=ok.own et;let j0:t.cols.length<=3:=tok.ok.few;let f6:1<=t.cols.length:=tok.ok.some_;let zX:=tok.few;let c3:(vN t.cols).length=t.cols.length:=cC _;calc⟨λd c=>c=H/\d=[Kg (.ref r),Kg<|.int (k:Int),Kg<|.ref nl,Kg<|.ref dl,Kg<|.ref g,Kh,Kh,Kh,Kh,Kh],⟨_,U,r,_,U,SqT.of er,U,_,_,U,_,_,U,_,_,U,U,U,U⟩,?_⟩;rintro h5 H1 ⟨rfl,rfl⟩;refine⟨λd c=>c=H1/\d=[Kg (.ref r),Kg<|.int (k:Int),Kg<|.ref nl,Kg<|.ref dl,Kg<|.ref g,Kg<|.int ((fN+k:Nat):Int),Kh,Kh,Kh,Kh],⟨_,U,nl,_,U,.inl<|SqL.of b5,_,U,g,_,U,.inl<|SqL.of a8,_,_,U,U,_,U,_,_,U,U,U,?_⟩,?_⟩
 .rw[show((fN+k:Nat):Int)=(((X.map V.str).length:Nat):Int)-((tv.length:Nat):Int)+(k:Int) by lia];rfl
 rintro h4 H2 ⟨rfl,rfl⟩;calc⟨λd c=>c=H2/\d=[Kg (.ref r),Kg<|.int (k:Int),Kg<|.ref nl,Kg<|.ref dl,Kg<|.ref g,Kg<|.int ((fN+k:Nat):Int),Kg<|.ref cl,Kh,Kh,Kh],⟨_,U,_,U,g,_,_,_,U,U,SqL.of a8,aK b4,ta,_,_,_,U,U,SqT.of g1,U,U,U⟩,?_⟩;rintro h3 H3 ⟨rfl,rfl⟩;refine⟨λd c=>ao H3 c/\∃(ro:Ak)(zx:La V),c ro=Kg (.lst zx)/\RL NT c zx t.rows/\d=[Kg (.ref r),Kg<|.int (k:Int),Kg<|.ref nl,Kg<|.ref dl,Kg<|.ref g,Kg<|.int ((fN+k:Nat):Int),Kg<|.ref cl,Kg<|.ref ro,Kh,Kh],?_,?_⟩
 .refine⟨_,U,_,U,g,_,_,_,U,U,SqL.of a8,aK b4,ta,_,_,_,U,U,SqT.of g1,U,rl,U,⟨_,SqL.of g3⟩,eJ (xs:=rx) (λD i v c=>ao H3 c/\c D=Kg (.lst v)/\RL NT (hide c D) v (t.rows.take i)) (λD C=>⟨ag C _,ae,ay.nil⟩) (λD i v c C _ h=>SqL.of<|h.1 _ _ g3) (λD i y v c C e h b6 f0=>?_)<|λD v c C h=>?_⟩
  .let(B,I,G):=h;let(r0,w,rfl,ew,ce,cs,f1,_,f2,f3):=ay.get g4 e;let hi:i<rx.length:=(GD.mp e).1;let i2:rx.length=t.rows.length:=g4.1;let(u0,rfl):∃u0,b6=[u0]:=by
    match b6,f0 with
    | [u0],_=>exact⟨u0,U⟩
   let f8:=tok.rows w<|GG ew;let FH:cs.length=w.1.length:=f3.1;let h8:=f8.len;calc⟨⟨[Kg (.ref r0)],U,U⟩,?_⟩;refine⟨_,U,r0,_,_,_,U,U,SqT.of<|B _ _ f1,U,ce,U,⟨_,SqL.of<|B _ _ f2⟩,eJ (xs:=cs) (λM j ws O=>ao c O/\O M=Kg (.lst ws)/\CL (Fr c M) O ws (w.1.take j)) (λM J=>⟨ag J _,ae,ay.nil⟩) (λM j ws O J _ h=>SqL.of<|h.1 _ _<|B _ _ f2) (λM j y2 ws O J e2 h c0 FI=>?_)<|λM ws O J h=>?_⟩
   .let(Z,b0,hw):=h;let(l,ps,rfl,g0,_,yl,el,b2):=ay.get f3 e2;let L:j<cs.length:=(GD.mp e2).1;let(v0,rfl):∃v0,c0=[v0]:=by
     match c0,FI with
     | [v0],_=>exact⟨v0,U⟩
    let sA:=B.trans Z;calc⟨⟨[Kg (.ref l)],U,U⟩,_,U,l,_,U,.inl<|SqL.of<|sA _ _ el,λp hp=>?_⟩;let u1:=ag hp<|.lst yl;let ep:upd O p (.lst yl) p=Kg (.lst yl):=ae;let b1:p≠M:=λz=>by rw[z,b0]at hp;cases hp
    let f4:c p=none:=Z.free hp;generalize upd O p (.lst yl)=H5 at u1 ep⊢;let T:=u1 _ _ b0;let e8:CL (Fr c M) H5 (ws++[.ref p]) (w.1.take j++[ps]):=ay.snoc (hw.same u1) ⟨⟨f4,b1⟩,yl,ep,b2.mono (sA.trans u1).tups⟩;refine b7.mk L T (aD (by have:=hw.1;rw[eV]at this;lia)) ⟨(Z.trans u1).upd J,ae,?_⟩;rw[take_snoc g0];exact e8.updN Fr.out T
   .let(Z,b0,hw):=h;rw[FH,fD]at hw;let b1:M≠D:=λz=>by rw[z,I]at J;cases J
    calc⟨_,U,r0,_,_,_,U,U,SqT.of<|(B.trans Z) _ _ f1,U,bY,λa5 e9=>?_⟩;let u5:=ag e9<|.tup [.ref M,.int w.2];let eT:upd O a5 (.tup [.ref M,.int w.2]) a5=Kg (.tup [.ref M,.int w.2]):=ae;generalize upd O a5 (.tup [.ref M,.int w.2])=H5 at u5 eT⊢;let uA:=Z.trans u5;let T:=uA _ _ I;let xZ:gi NT (hide H5 D) a5 w:=⟨M,ws,oR T _ _ eT,trivial,dq (u5 _ _ b0) b1,ay.mono (hw.same u5) λl ps ⟨⟨n1,_⟩,yl,el,b2⟩=>⟨trivial,yl,dq el (λz=>by rw[z,I]at n1;cases n1),b2.mono<|oR T⟩⟩;refine b7.mk hi T (aD (by have:=G.1;rw[eV]at this;lia)) ⟨(B.trans uA).upd C,ae,?_⟩;rw[qW,take_snoc ew];exact ay.snoc (ay.mono G λ_ _ p=>p.same<|oN uA) xZ
  .let(B,I,G):=h;rw[g4.1,fD]at G;exact⟨B,D,v,I,ay.mono G<|λ_ _ p=>p.same<|lX c D,U⟩
 rintro h2 O ⟨Z,ro,zx,f9,c5,rfl⟩;refine⟨λd c=>ao O c/\∃ha:Ak,c ha=Kg (.lst<|(prm t.cols X).map V.str)/\d=[Kg (.ref r),Kg<|.int (k:Int),Kg<|.ref nl,Kg<|.ref dl,Kg<|.ref g,Kg<|.int ((fN+k:Nat):Int),Kg<|.ref cl,Kg<|.ref ro,Kg<|.ref ha,Kh],?_,?_⟩
 .refine⟨_,U,cl,U,⟨_,SqL.of<|Z _ _ g2⟩,bj (xs:=vN t.cols) (λD i v c=>ao O c/\c D=Kg (.lst v)/\v=(prm (t.cols.take i) X).map V.str) (λD C=>⟨ag C _,ae,U⟩) (λD i v c C _ h=>SqL.of<|h.1 _ _<|Z _ _ g2) (λD i y v c C e h=>?_)<|λD v c C h=>?_⟩
  .let(B,I,rfl):=h;let(j,rfl,ej):=oM e;let L:=S j<|GG ej;let ez:=GC (l:=X) (i:=j) ∅;let hi:i<(vN t.cols).length:=(GD.mp e).1;refine⟨_,U,_,U,nl,_,_,_,U,U,SqL.of<|(Z.trans B) _ _ b5,aK<|cA ez,b7.mk hi I (aD ?_) ⟨B.upd C,ae,?_⟩⟩
   .rw[dn,(ck (os:=t.cols.take i) (xs:=X) λj L=>by rw[c6];exact S j (List.mem_of_mem_take L)).1,eV];lia
   .rw[take_snoc ej,xD ez,dz];rfl
  .let(B,I,rfl):=h;rw[c3,fD]at I;exact⟨B,D,I,U⟩
 rintro h1 H5 ⟨s5,ha,g6,rfl⟩;let a2:=Z.trans s5;refine⟨λd c=>ao H5 c/\∃(ka:Ak)(kv:La V),c ka=Kg (.lst kv)/\ay kv (prm t.cols<|W.map PD.k) (ia (λa=>H5 a=Kh) Y.m Y.n c)/\d=[Kg (.ref r),Kg<|.int (k:Int),Kg<|.ref nl,Kg<|.ref dl,Kg<|.ref g,Kg<|.int ((fN+k:Nat):Int),Kg<|.ref cl,Kg<|.ref ro,Kg<|.ref ha,Kg (.ref ka)],?_,?_⟩
 .refine⟨_,U,cl,U,⟨_,SqL.of<|a2 _ _ g2⟩,bj (xs:=vN t.cols) (λD i v c=>ao H5 c/\c D=Kg (.lst v)/\ay v (prm (t.cols.take i)<|W.map PD.k) (ia (Fr H5 D) Y.m Y.n c)) (λD C=>⟨ag C _,ae,ay.nil⟩) (λD i v c C _ h=>SqL.of<|h.1 _ _<|a2 _ _ g2) (λD i y v c C e h=>?_)<|λD v c C h=>?_⟩
  .let(B,I,G):=h;let(j,rfl,ej):=oM e;let L:=S j<|GG ej;let ed:=GC (l:=W) (i:=j) L;let(da,e2,a7):=c7.2 j _ ed;let c1:=ok.doms _<|GG ed;generalize W[j]=p at ed a7 c1;let hi:i<(vN t.cols).length:=(GD.mp e).1;let sA:=a2.trans B;let ez:(W.map PD.k)[j]?=Kg p.k:=by rw[dy,ed];rfl
   calc⟨_,U,_,U,dl,_,_,_,U,U,SqL.of<|sA _ _ c8,aK e2,da,p,U,a7.same sA,c1,λx H6 s6 hx=>?_⟩;let c9:=s6 _ _ I;let e7:ay (v++[.ref x]) (prm (t.cols.take i) (W.map PD.k)++[p.k]) (ia (Fr H5 D) Y.m Y.n H6):=ay.snoc (ay.mono G λ_ _ p=>p.same s6) (hx.wk λa h=>⟨B.free h,λz=>by rw[z,I]at h;cases h⟩);refine b7.mk hi c9 (aD ?_) ⟨(B.trans s6).upd C,ae,?_⟩
   .rw[G.1,(ck (os:=t.cols.take i) (xs:=W.map PD.k) λj L=>by rw[dn];exact S j (List.mem_of_mem_take L)).1,eV];lia
   .rw[take_snoc ej,vJ ez];exact ay.mono e7 λ_ _ p=>p.upd Fr.out c9
  .let(B,I,G):=h;rw[c3,fD]at G;exact⟨B,D,v,I,ay.mono G<|λ_ _ p=>p.wk λa h=>h.1,U⟩
 rintro h0 H6 ⟨s6,ka,kv,g5,b3,rfl⟩;let a1:=a2.trans s6;let(da,e2,a7):=c7.2 (fN+k) po a3;let d2:=ok.doms po<|GG a3;calc⟨_,U,_,U,nl,_,_,_,U,U,SqL.of<|a1 _ _ b5,aK<|cA a9,_,U,_,U,_,U,_,U,dl,_,_,_,U,U,SqL.of<|a1 _ _ c8,aK e2,da,po,U,a7.same a1,d2,λou H7 s7 R=>?_⟩;let a6:=a1.trans s7;let FJ:=R;let R:=R.dom;calc⟨_,U,_,U,g,_,_,_,U,U,SqL.of<|a6 _ _ a8,aK b4,ta,_,_,_,U,U,SqT.of<|a6 _ _ g1,U,_,U,λx dx hx f5 i8=>?_⟩;let s8:ao H7 (upd (upd H7 dx<|.own x) x<|.ins Y.o dx []):=(ag f5 _).upd hx;let a0:=s7.trans s8;let c2:∀j∈t.cols,j<X.length:=λj L=>by rw[c6];exact S j L
 let gz:=ck (os:=t.cols) (xs:=X) c2;let d3:nm ∉ prm t.cols X:=λhm=>by
  let(j,ej):=gT hm;let L:j<t.cols.length:=by rw[←gz.1];exact(GD.mp ej).1
  let ec:=GC L;rw[gz.2 j _ ec]at ej;let:=cH ok.nd ej a9;let h9:=tok.ok.lt _<|GG ec;lia
 refine⟨x,dx,ha,ka,ou,ro,nm,t.way,prm t.cols X,kv,zx,prm t.cols<|W.map λp=>(p.lo,p.hi),(po.lo,po.hi),t.rows,U,ae,a0 _ _<|s6 _ _ g6,?_,ja.mpr ⟨d3,vH tok.ok.nd ok.nd c2⟩,by rw[gz.1];exact f6,by rw[gz.1];lia,tok.ok.way,λz=>?_,a0 _ _ g5,?_,?_,a0 _ _<|(s5.trans s6) _ _ f9,c5.same<|(s5.trans s6).trans a0,by rw[c5.1];exact zX,?_,ok.rows et a3,λc fs d1 d0 k1 k2 k3 e6 e5 e4 ⟨d4,g8,fn,fd,e3,e0,d6,d5⟩ fr k4 k5=>?_⟩
 .intro z G;rcases dt.mp G with rfl|G
  .exact ok.words _<|GG a9
  .exact ok.words z<|uv G
 .let he:=tok.ok.sum z po a3;rw[PD.k_none he]at R;let(g7,e):=R;exact⟨g7,_,s8 _ _ e⟩
 .let e:prm t.cols (W.map λp=>(p.lo,p.hi))=(prm t.cols<|W.map PD.k).map (·.2):=by
   rw[←yU,pa];rfl
  rw[e];refine⟨by rw[dn];exact b3.1,λj b eb=>?_⟩;rw[dy]at eb;cases ec:(prm t.cols<|W.map PD.k)[j]? with
  |none=>rw[ec]at eb;cases eb
  |some kk =>
   rw[ec]at eb;cases eb;let(r1,e1,p1):=b3.2 j kk ec;exact⟨r1,e1,(p1.dom.same a0).dom⟩
 .exact(R.same s8).dom
 .rw[(ck (os:=t.cols) (xs:=W.map λp=>(p.lo,p.hi)) λj L=>by rw[dn];exact S j L).1];lia
 .let s9:ao H7 c:=λb u e=>k1 b u (bL e hx)<|s8 _ _ e
  let sF:∀{a:Ak},upd (upd H7 dx<|.own x) x (.ins Y.o dx []) a=Kh->H3 a=none:=λh=>(a6.trans s8).free h
  calc⟨U,q x c (a6.trans s9) ⟨t,nm,po,ou,kv,d1,dx,d4,g8,fs,d0,et,a9,a3,k2,k3,e4,e6,e5,e3,e0,sF fn,sF fd,sF fr,d6,d5,k4,ay.mono k5<|λ_ _ p=>p.wk λa h=>sF h,by rw[k5.1];exact zX,ay.mono b3<|λ_ _ p=>(p.same<|s7.trans s9).wk λa h=>a2.free h,(FJ.same s9).wk λa h=>a1.free h⟩⟩
theorem FK{k n:Nat}(F:Fun K "_law_needs" "_law_needs" Y57 f fd) (bl:Bl K mg Y)(gQ:Callee P w K mg base k "_law_needs" ["plan","k"] (ee K Y n)):aN P w K mg base CX0 (k+1) f fd ["plan","k"] (ee K Y<|n+1):=by
 refine F.okA Z57 λc1 A a8 s H vs Q E hr h=>?_
 let(r,k,v,ds,D,a,rfl,O,ok,hk,hn,q):=h
 refine⟨_,(az (jA (pv 0)<|dQ U<|aM (aE (i:=2) Z57.nd U<|Or.inl U)<|aM (aE (i:=3) Z57.nd U<|Or.inl U)<|aM (aE (i:=4) Z57.nd U<|Or.inl U) bS)
  (az (aI (i:=5) Z57.nd U (Or.inl U)<|aC cJ (aw av U bl.len_ Kf<|aa (pv 2) af)<|aw av U bl.len_ Kf<|aa (pv 4) af)
  (az (aQ (aL l8 (pv 1) (pv 5)<|aP _)
  (ah<|aG<|bh<|aa (pv 1) af)
  aJ)
  (az (aI (i:=6) Z57.nd U (Or.inl U)<|bh af)
  (az (bg GP.never U (aO<|aF bc (aF aH (pv 4) (aC cJ (pv 1)<|pv 5)<|λ_ _=>U) ai<|λ_ _=>U) (aE (i:=7) Z57.nd U<|Or.inl U)
  (ah<|aI (i:=6) Z57.nd U (Or.inl U)<|aC mj (pv 6)<|aR gQ hr U<|aa (pv 0)<|aa (pv 7) af))
  (ah<|aG<|aw (lg (w:=w) U U) U bl.sorted_ PyProof.Rows.boot_sorted<|aa (bH (vo (w:=w) U U) U bl.set_ PyProof.Rows.boot_set<|aa (pv 6) af) af)))))),?_⟩
 show(let r5:TS:=_;let r4:TS:=bA _ r5;let r3:TS:=bA _ r4;let r2:TS:=bA _ r3;let r1:TS:=bA _ r2;bA _ r1 _ _ _);intro _ _ _ _ _;let(nl,dl,B,dv,C,er,a6,c0,b5,T,M):=id O;let b0:(v.map V.str).length=v.length:=dn _;let b3:=ok.len;let b2:=ok.tab;let h7:=ok.n7;let b1:C.length=D.length:=M.1;let eN:(((v.map V.str).length:Nat):Int)-((C.length:Nat):Int)=(a:Int):=∅
 calc⟨_,U,r,_,U,SqT.of er,U,_,_,U,_,_,U,_,_,U,U,_,U,nl,_,U,.inl<|SqL.of a6,_,U,B,_,U,.inl<|SqL.of T,_,_,U,U,?_⟩;refine⟨_,U,_,U,_,_,U,U,_,U,cQ (λg=>?_)<|λg=>?_⟩
 .let g:(k:Int)<(a:Int):=by have:=Ks g;rw[eN]at this;exact this
  refine⟨_,U,(by show 1<=AA;decide),λl hl=>q l [k] _ (ag hl _) hl ae (by simp) λf=>?_⟩;rw[gu];exact⟨λh=>.inl ⟨∅,h⟩,λh=>by rcases h with⟨_,h⟩|⟨h,_⟩;calc h;lia⟩
 .let g:a<=k:=by
   let:¬ (k:Int)<(((v.map V.str).length:Nat):Int)-((C.length:Nat):Int):=λz=>g<|Kq z
   rw[eN]at this;lia
  let et:=GC (l:=D) (i:=k-a) ∅;generalize D[k-a]=t at et;let(ta,a5,cl,rl,rx,g1,g2,g3,g4):=M.2 (k-a) t et;let tok:=ok.tabs (k-a) t et;let b6:t.cols.length<=3:=tok.ok.few;let a2:∀c∈t.cols,c<a+(k-a):=tok.ok.lt;let ix:atI C ((k:Int)-((((v.map V.str).length:Nat):Int)-((C.length:Nat):Int)))=Kg (.ref ta):=by
   rw[eN,show(k:Int)-(a:Int)=((k-a:Nat):Int) by lia];exact aK a5
  refine⟨(by show 0<=AA;decide),λX a3=>?_⟩;let J:=ag a3<|.lst [];let e0:upd H X (.lst []) X=Kg (.lst<|vN []):=ae;generalize upd H X (.lst [])=H0 at J e0⊢;refine⟨_,U,_,U,_,U,_,_,U,U,B,_,_,_,U,U,SqL.of<|J _ _ T,ix,ta,_,_,_,U,U,SqT.of<|J _ _ g1,U,cl,U,⟨_,SqL.of<|J _ _ g2⟩,bD (xs:=vN t.cols) (λi W L=>ao H L/\∃(G:Ak)(m:La Nat)(c7:Option V),L G=Kg (.lst<|vN m)/\m.length<=7*i/\(∀f,f∈m↔∃j∈t.cols.take i,FN D a j f)/\W=[Kg (.ref r),Kg<|.int (k:Int),Kg<|.ref nl,Kg<|.ref dl,Kg<|.ref B,Kg<|.int<|(((v.map V.str).length:Nat):Int)-((C.length:Nat):Int),Kg<|.ref G,c7]) ⟨J,X,[],_,e0,tS _,(λf=>⟨(λh=>by cases h),λ⟨j,h,_⟩=>by cases h⟩),U⟩ (λi W L _ h=>SqL.of<|h.1 _ _ g2) (λi y W L e h=>?_) (λW L h=>?_)⟩
  .let(I,G,m,c7,u,N,o,rfl):=h;let(j,rfl,ej):=oM e;let hj:=a2 j<|GG ej;let hi:i<t.cols.length:=(GD.mp ej).1;calc⟨_,U,_,U,_,U,r,j,v,ds,D,a,U,O.same I,ok,∅,∅,λl Z H2 s2 a9 el pw mem=>?_⟩;let b4:Z.length<=a:=xP pw λf hf=>((mem f).mp hf).lt
   refine⟨G,l,_,_,U,U,s2 _ _ u,el,uK<|aD (by rw[cC,cC];lia),λp hp=>⟨(I.trans s2).trans<|ag hp _,p,m++Z,_,by rw[ae,pJ],by rw[gp];lia,λf=>?_,U⟩⟩;rw[take_snoc ej,gs,o f,mem f];constructor
   .rintro(⟨j',d,h⟩|h)
    .exact⟨j',jd _ d,h⟩
    .exact⟨j,hH _<|gu.mpr U,h⟩
   .rintro⟨j',d,h⟩;rcases gs.mp d with d | d
    .exact .inl ⟨j',d,h⟩
    .rw[gu.mp d]at h;exact .inr h
  .let(I,G,m,c7,u,N,o,rfl):=h;rw[cC,fD]at o;rw[cC]at N;rw[Bg]at u;let R:∀f,f∈m↔FN D a k f:=λf=>(o f).trans (xO g et).symm
   refine⟨_,U,G,m.map λb:Nat=>(b:Int),U,SqL.of u,(by rw[dn];lia),λl a4=>?_⟩;let s3:=ag a4<|yC w l (m.map λb:Nat=>(b:Int));refine⟨l,m.map λb:Nat=>(b:Int),(List.range 7).map λb:Nat=>(b:Int),U,ae,by simp,(λx hx=>?_),λD2 cs S pw mem=>?_⟩
   .let(b,hb,rfl):=eH.mp hx;exact eH.mpr ⟨b,hC.mpr (by have:=((R b).mp hb).lt;lia),U⟩
   .let(Z,a7,a0,a1):=yX (cs:=cs) (λc hc=>by let(b,_,rfl):=eH.mp<|(mem c).mp hc;exact xu b) pw;rw[a7];refine q D2 Z _ ((I.trans s3).trans<|ag S _) (I.free<|s3.free S) ae a0 λf=>?_
    rw[a1 f,mem,←R f,eH];calc⟨λ⟨b,hb,e⟩=>by rw[←Int.ofNat.inj e];exact hb,λh=>⟨f,h,U⟩⟩
theorem FL{k n:Nat}(F:Fun K "put_behind" "put_behind" Y74 f fd) (bl:Bl K mg Y)(By:ba P w K mg base k "asks" ["book","name"] (pS K Y)) (gR:ba P w K mg base k "put_behind" ["book","name","order"] (dF K Y n)):aN P w K mg base (CX1 P w) (k+1) f fd ["book","name","order"] (dF K Y<|n+1):=by
 refine F.okEA Z74 λb4 A a9 s H vs Q E hr h=>?_
 let(b,o,nm,p,ds,c,a,mv,L,told,k,rfl,u,bE,ho,N,hs,O,hn,hq):=h
 refine⟨_,(ar (bg (iY U U U) U (aO<|dY By gh hr U<|aa (pv 0)<|aa (pv 1) af) (aE (i:=3) Z74.nd U<|Or.inl U)
  (ah (aQ (aL gC (pv 3) (pv 2) (by with_unfolding_all rfl))
  (ah<|aT<|dY gR gh hr U<|aa (pv 0)<|aa (pv 3)<|aa (pv 2) af)
  aJ)))
  (ah<|aT<|fh PySem.F.plainAttrs_list PySem.F.slot_list_append PySem.F.type_list_append cz (pv 2)<|aa (pv 1) af)),?_⟩
 show(let r1:TS:=_;bu _ r1 _ _ _);intro _;let S:=u.same<|lX H o;let ok:=u.ok;let b3:=ok.n7;let b1:=ok.tab;let d:=iF ok;rcases hq with⟨hk,x,a4,q⟩|⟨a3,qE⟩
 .let et:=GC hk;generalize c[k]=t at et;let a8:akT c a k=akc a t.cols:=by unfold akT;rw[et]
  refine⟨λa1 r=>ao (hide H o) (hide r o)/\r o=Kg (.lst<|(((akT c a k).foldl (λt j=>odr (akT c a) j t) told).map<|tnm p a).map V.str)/\∃v:Option V,a1=[Kg (.ref b),Kg<|.str nm,Kg<|.ref o,v],?_,?_⟩
  .refine⟨_,U,_,U,b,nm,p,ds,c,a,mv,L,U,S,hs,λm t2 l H1 B h2 T Z nl el=>?_,λh=>Kp x<|h k<|bE k hk⟩;let:m=k:=u.one (u.lt m B) hk<|h2.trans x.symm;subst this;rw[et]at T;cases T;rw[u.aks bE et,←a8]at el;let a2:l≠o:=λz=>by rw[z,ho]at nl;cases nl
   let a7:=dq el a2;let C4:∀j∈akT c a m,j<c.length:=λj J=>by have:=d m j J;lia
   refine⟨l,U,⟨_,SqL.of el⟩,bD (xs:=((akT c a m).map<|tnm p a).map V.str) (λi X r=>ao (hide H o) (hide r o)/\hide r o l=Kg (.lst<|((akT c a m).map<|tnm p a).map V.str)/\r o=Kg (.lst<|((((akT c a m).take i).foldl (λt j=>odr (akT c a) j t) told).map<|tnm p a).map V.str)/\∃v:Option V,X=[Kg (.ref b),Kg<|.str nm,Kg<|.ref o,v]) ⟨oN Z,a7,Z _ _ ho,_,U⟩ (λi X r _ h=>SqL.of<|lX r o _ _ h.2.1) (λi y X r e h=>?_)<|λX r h=>?_⟩
   .let(I,D,g,v,rfl):=h;let(z,rfl,M):=dD e;rw[dy]at M;cases ej:(akT c a m)[i]? with
    |none=>rw[ej]at M;cases M
    |some j =>
     rw[ej]at M;cases M;let R:=GG ej;let b2:=d m j R;let C:=C4 j R;let G:Tld c.length (((akT c a m).take i).foldl (λt j=>odr (akT c a) j t) told):=N.fold d λj J=>C4 j<|List.mem_of_mem_take J
     rw[take_snoc ej,List.foldl_append];show _;generalize ((akT c a m).take i).foldl (λt j=>odr (akT c a) j t) told=tl at g G⊢;let a5:((tl.map<|tnm p a).contains<|tnm p a j)=tl.contains j:=u.ins G C;calc⟨_,U,_,U,o,_,U,.inl<|SqL.of g,U,eL _,_,U,?_⟩;rw[Ko U,kC,a5];cases hc:tl.contains j with
     |true =>
      calc bR ⟨I,D,?_,_,U⟩;rw[g];show _=Kg (HO.lst<|((odr (akT c a) j tl).map<|tnm p a).map V.str);rw[Be d hc]
     |false =>
      refine dS ⟨_,U,_,U,_,U,b,o,tnm p a j,p,ds,c,a,mv,L,tl,j,U,u.same I,bE,g,G,?_,O,∅,.inl ⟨C,U,λhm=>?_,λH3 s3 a6=>⟨I.trans s3,s3 _ _ D,a6,_,U⟩⟩⟩
      .exact O _<|GG<|u.nmz C
      .let:tl.contains j=true:= ~~~hm
       rw[this]at hc;cases hc
   .let(I,D,g,v,rfl):=h;rw[dn,dn,fD]at g;exact⟨I,g,v,U⟩
  rintro a0 H1 ⟨Z,W,v,rfl⟩;let G:Tld c.length ((akT c a k).foldl (λt j=>odr (akT c a) j t) told):=N.fold d λj J=>by have:=d k j J;lia
  let b0:=G.len;refine⟨_,U,.inl ⟨U,_,SqL.of W⟩,_,U,o,_,_,U,U,W,aD (by rw[dn,dn];lia),q _ (by rw[qW];exact Z) ?_⟩;rw[ae,mX d,Kn<|~~~a4,dz,dz,←x];rfl
 .refine⟨λ_ _=>False,⟨_,U,_,U,b,nm,p,ds,c,a,mv,L,U,S,hs,λm t2 l H1 B h2=>Kp h2<|a3 m B,λ_=>qE⟩,?_⟩;rintro a0 H1 h;calc h.elim
theorem FO(F:Fun K "order_of" "order_of" Y72 f fd) (bl:Bl K mg Y)(O:ba P w K mg base 15 "put_behind" ["book","name","order"] (dF K Y 13)):aN P w K mg base (CX1 P w) 16 f fd ["book","name"] (iI K Y):=by
 refine F.okEA Z72 λX A m s H Z Q E I h=>?_
 let(b,C,n,S,t,p,D,L,k,rfl,N,T,G,g,gw,J):=h
 refine⟨_,(az (aI (i:=2) Z72.nd U (Or.inl U)<|bh af)
  (az (aT<|dY O gh I U<|aa (pv 0)<|aa (pv 1)<|aa (pv 2) af)
  (ah<|aG<|pv 2))),?_⟩
 show(let y:TS:=_;let z:TS:=bA _ y;bA _ z _ _ _);intro _ _;calc⟨tS _,λo d=>?_⟩;let c:=ag d<|.lst [];let r:upd H o (.lst []) o=Kg (.lst<|(([]:La Nat).map<|tnm n p).map V.str):=ae;let a:ao H (hide (upd H o<|.lst []) o):=lq c d;generalize upd H o (.lst [])=H0 at c r a⊢;calc⟨_,U,_,U,_,U,b,o,C,n,S,t,p,D,L,[],k,U,N.same a,T,r,Tld.nil,G,g,∅,?_⟩;rcases J with⟨M,l,q⟩|⟨j,B⟩
 .exact .inl ⟨M,l,by simp,λW v R=>⟨_,U,q o W (λx u e=>lX _ _ _ _<|(a.trans v) _ _ e) d R⟩⟩
 .exact .inr ⟨j,B _ c⟩
theorem FP(F:Fun K "tables_for" "tables_for" Y85 f fd) (bl:Bl K mg Y)(jO:ba P w K mg base 16 "table_of" ["book","name"] (fO K Y)) (tO:ba P w K mg base 16 "order_of" ["book","name"] (iI K Y)):aN P w K mg base (CX1 P w) 17 f fd ["book","name"] (dG K Y):=by
 refine F.okEA Z85 λa5 A W s H vs Q E hr h=>?_
 let(b,X,o,J,c,a,C,L,k,rfl,d,M,hs,m,gw,hq):=h;calc⟨_,(ah<|aG<|bK (aO<|dY tO gh hr U<|aa (pv 0)<|aa (pv 1) af) (aW (N:=["needed","book"]) (fr:=[0]) (cl:=[("book",s.heap.objs.size+1)]) U U (~~~0) (~~~0) U (~~~0) U U U (fZ.mpr ⟨U,gZ _⟩) U) U (λ_ _ _ _=>aV)<|λ_ _ _ _=>(dY jO zK hr U<|aa (pv 1)<|aa (pv 0) af)),?_⟩;let a4:=d.ok.n7;let a3:=d.ok.tab;let T:=iF d.ok;rcases hq with⟨hk,R,q⟩|⟨O,qE⟩
 .let x:Tld c.length (odr (akT c a) k []):=Tld.odr T Tld.nil hk;let a0:=x.len;calc⟨_,U,_,U,b,X,o,J,c,a,C,L,k,U,d,M,hs,m,gw,.inl ⟨hk,R,λl H1 G nl el=>?_⟩⟩;refine⟨l,U,⟨_,SqL.of el⟩,bj (xs:=((odr (akT c a) k []).map<|tnm o a).map V.str) (λD i g t=>ao H1 t/\t D=Kg (.lst g)/\ay g ((odr (akT c a) k []).take i) (λr j=>∃i:Nat,C[i]?=Kg (.ref r)/\L[i]?=Kg j)) (λD p=>⟨ag p _,ae,ay.nil⟩) (λD i g t p _ h=>SqL.of<|h.1 _ _ el) (λD i y g t p e h=>?_)<|λD g t p h=>?_⟩
  .let(B,I,u):=h;let(z,rfl,v):=dD e;let hi:i<(((odr (akT c a) k []).map<|tnm o a).map V.str).length:=(GD.mp e).1;rw[dy]at v;cases ej:(odr (akT c a) k [])[i]? with
   |none=>rw[ej]at v;cases v
   |some j =>
    rw[ej]at v;cases v;let n:=x.lt j<|GG ej;let a1:g.length<=7:=by have:=u.1;rw[eV]at this;lia
    calc⟨_,U,_,U,b,tnm o a j,o,J,c,a,C,L,U,d.same<|G.trans B,m _<|GG<|d.nmz n,λa2 Z i2 e1 e2 S h2 _=>?_,λh=>Kp U<|h j<|M j n⟩;let:Z=j:=d.one (d.lt Z S) n h2;subst this;calc b7.mk hi I (aD ∅) ⟨B.upd p,ae,?_⟩;rw[take_snoc ej];exact ay.snoc u ⟨i2,e1,e2⟩
  .let(B,I,u):=h;rw[dn,dn,fD]at u;exact q D g t (G.trans B) (G.free p) I u
 .exact⟨_,U,_,U,b,X,o,J,c,a,C,L,k,U,d,M,hs,m,gw,.inr ⟨O,qE⟩⟩
theorem FQ(F:Fun K "needs" "needs" Y71 f fd) (bl:Bl K mg Y)(eA:ba P w K mg base 17 "tables_for" ["book","name"] (dG K Y)):aN P w K mg base (CX1 P w) 18 f fd ["book","name"] (kE K Y):=by
 refine F.okEA Z71 λc7 A b2 s H vs Q E hr h=>?_
 let(b,G,zs,ds,c,o,mv,L,k,rfl,p,bE,hs,O,gw,hq):=h
 refine⟨_,(ar (aI (i:=2) Z71.nd U (Or.inr U)<|bh af)
  (ar (bg (iY U U U) U (aO<|dY eA gh hr U<|aa (pv 0)<|aa (pv 1) af) (aE (i:=3) Z71.nd U<|Or.inl U)
  (ah<|aT<|fh PySem.F.plainAttrs_list PySem.F.slot_list_extend PySem.F.type_list_extend kS (pv 2)<|aa (aY (pv 3) U) af))
  (ah<|aG<|gg (aO<|aY (pv 0) U) (lJ (N:=["fact","domain","columns"]) (k:=2) (fr:=[2]) (cl:=[("columns",s.heap.objs.size+1)]) U U (~~~0) (~~~0) U U (fZ.mpr ⟨U,gZ _⟩) U) U (λ_ _ _ _=>(om (K:=K) (n:=2) U U<|aM (aE (i:=0) (show(["fact","domain","columns"]:La Str).Nodup by decide+kernel) U (Or.inl U) (Or.inr U)) (aM (aE (i:=1) (show(["fact","domain","columns"]:La Str).Nodup by decide+kernel) U (Or.inl U) (Or.inr U)) bS))) (λ_ _ _ _=>(fI<|aL (mM (K:=K) U) (pv 0) (pv 2) (by with_unfolding_all rfl))) (λ_ _ _ _=>(pv 0))))),?_⟩
 show(let r2:TS:=_;let r1:TS:=bu _ r2;bu _ r1 _ _ _);intro _ _;let c2:=p.ok.n7;let c1:=p.ok.len;let c0:=p.ok.tab;let b0:=iF p.ok;calc⟨λx a=>ao H a/\∃g:Ak,H g=Kh/\a g=Kg (.lst<|(([]:La Nat).flatMap<|nmT c zs).map V.str)/\x=[Kg (.ref b),Kg<|.str G,Kg<|.ref g,Kh],⟨tS _,λg S=>⟨ag S _,g,S,ae,U⟩⟩,?_⟩;rintro b4 H1 ⟨s1,g,a3,a0,rfl⟩;rcases hq with⟨hk,a7,q⟩|⟨a6,qE⟩
 .let a5:Tld c.length (odr (akT c o) k []):=Tld.odr b0 Tld.nil hk;let b3:=a5.len;refine⟨λx a=>ao H a/\a g=Kg (.lst<|((odr (akT c o) k []).flatMap<|nmT c zs).map V.str)/\∃v:Option V,x=[Kg (.ref b),Kg<|.str G,Kg<|.ref g,v],?_,?_⟩
  .refine⟨_,U,_,U,b,G,zs,ds,c,o,mv,L,k,U,p.same s1,bE,hs,O,gw,.inl ⟨hk,a7,λl xs H2 t nl el M=>?_⟩⟩;let a2:l≠g:=λz=>by rw[z,a0]at nl;cases nl
   refine⟨l,U,⟨_,SqL.of el⟩,bD (xs:=xs) (λi σ a=>ao H a/\a l=Kg (.lst xs)/\a g=Kg (.lst<|(((odr (akT c o) k []).take i).flatMap<|nmT c zs).map V.str)/\∃v:Option V,σ=[Kg (.ref b),Kg<|.str G,Kg<|.ref g,v]) ⟨s1.trans t,el,t _ _ a0,_,U⟩ (λi σ a _ h=>SqL.of h.2.1) (λi y σ a e h=>?_)<|λσ a h=>?_⟩
   .let(m,W,u,v,rfl):=h;let(r,j,rfl,ej,i2,e1,e2):=ay.get M e;let(r',j',er,X,hT):=ay.get p.tabs e1;cases er;rw[e2]at X;cases X;let(tt,b6,po,ou,dv,g1,g2,g3,g4,g5,g6):=hT;let(rl,dx,na,dl,fs,b5,ht,f1,f2,f3,f4,f5,f6,b1,c6,c5,hR,jN):=g4;let T:nmT c zs j=prm tt.cols zs:=by unfold nmT;rw[g1]
    let h4:=p.nm4 j;let a9:=m4 p.nm4<|(odr (akT c o) k []).take i;rw[eV]at a9;refine⟨_,U,.inl ⟨U,_,SqL.of u⟩,_,U,r,_,_,_,_,U,m _ _ ht,bl.k_Table,bl.na_Table_names,f5,g,na,_,_,U,U,u,m _ _ b1,uK<|aD (by rw[←T,dn,dn];lia),m.upd a3,(aq a2).trans W,?_,_,U⟩;rw[ae,take_snoc ej,pR,T,dz]
   .let(m,W,u,v,rfl):=h;rw[M.1,fD]at u;exact⟨m,u,v,U⟩
  rintro a1 H2 ⟨t,u,v,rfl⟩;let(dx,fs,ta,fb,gv,hb,ft,c4,ff,Z,R):=p.bk;let a8:gv.length=o:=by rw[R.1,hZ]
  refine⟨_,U,b,_,_,_,_,U,t _ _ hb,bl.k_Book,bl.na_Book_facts,ff,fb,U,⟨_,SqL.of<|t _ _ Z⟩,eJ (xs:=gv) (λD i C a=>ao H2 a/\a D=Kg (.lst C)/\C=((zs.take i).filter<|cI c zs o k).map V.str) (λD B=>⟨ag B _,ae,U⟩) (λD i C a B _ h=>SqL.of<|(t.trans h.1) _ _ Z) (λD i y C a B e h J a4=>?_)<|λD C a B h=>?_⟩
  .let(m,I,rfl):=h;let(r,j,rfl,ej,z,d,ez,_,er):=ay.get R e;let(rfl,hi):=pP ej;let(t0,t1,rfl):∃t0 t1,J=[t0,t1]:=by
    match J,a4 with
    | [t0,t1],_=>exact⟨t0,t1,U⟩
   calc⟨r,_,U,SqT.of<|(t.trans m) _ _ er,U,_,_,U,_,_,U,U,⟨[Kg (.str z),Kg (.ref d)],U,U⟩,?_⟩;calc⟨_,U,_,U,g,_,U,.inl<|SqL.of<|m _ _ u,U,eL _,_,U,?_⟩;rw[Kn Bool.false_ne_true,kC,vM];let hf:=iK (cI c zs o k)<|zs.take j;rw[eV]at hf;cases hc:cI c zs o k z with
   |true =>
    refine dS ⟨_,U,b7.mk ∅ I (aD (by rw[dn];lia)) ⟨m.upd B,ae,?_⟩⟩;rw[take_snoc ez,jy,nF hc,jS,dz];rfl
   |false =>
    calc bR<|eX.mk (zs:=((zs.take j).filter<|cI c zs o k).map V.str) ∅ ⟨m,I,?_⟩;rw[take_snoc ez,jy,nL (by rw[hc];exact Bool.false_ne_true),jS,jQ]
  .let(m,I,rfl):=h;rw[a8]at I;exact q D a (t.trans m) (t.free B) I
 .refine⟨λ_ _=>False,⟨_,U,_,U,b,G,zs,ds,c,o,mv,L,k,U,p.same s1,bE,hs,O,gw,.inr ⟨a6,λa s'=>qE a<|s1.trans s'⟩⟩,?_⟩;rintro a1 H2 h;calc h.elim
theorem FR(F:Fun K "fact_codes" "fact_codes" Y43 f fd) (bl:Bl K mg Y)(p5:ba P w K mg base 18 "needs" ["book","name"] (kE K Y)) (ig:aX (CX1 P w) P w K mg base 18 Y.m "code" ["self","value"] (cO K Y)) (jf:aX (CX1 P w) P w K mg base 18 Y.n "code" ["self","value"] (dh K Y)):aN P w K mg base (CX1 P w) 19 f fd ["book","name","facts"] (dH K Y):=by
 refine F.okEA Z43 λg0 A e8 s H vs Q E hr h=>?_
 let(b,fd,nm,J,ds,ts,D,mv,L,k,fk,O,rfl,hB,bE,hs,a0,gw,e3,hq):=h
 refine⟨_,(ar (aI (i:=3) Z43.nd U (Or.inl U)<|bH (jH U) U bl.dict_ PyProof.Rows.boot_dict<|aa (aY (pv 0) U) af)
  (ar (aI (i:=4) Z43.nd U (Or.inl U) yL)
  (ar (bg (iY U U U) U (aO<|dY p5 gh hr U<|aa (pv 0)<|aa (pv 1) af) (aE (i:=5) Z43.nd U<|Or.inl U)
  (az (aQ (aL (vy hr) (pv 5) (pv 2) (by with_unfolding_all rfl))
  (ah<|iZ bl.x_NoFact hr.hd U bl.NoFact_<|aa (AR<|pv 5) af)
  aJ)
  (ah<|kz hr (pv 4) (pv 5) (yB (nH ig bl.k_Numbers<|nH jf bl.k_Words AO) gh hr (aF mQ (pv 3) (pv 5)<|λ_ _=>U)<|aa (aF mQ (pv 2) (pv 5)<|λ_ _=>U) af) U)))
  (ah<|aG<|pv 4)))),?_⟩
 show(let r3:TS:=_;let r2:TS:=bu _ r3;let r1:TS:=bu _ r2;bu _ r1 _ _ _);intro _ _ _;let h7:=hB.ok.n7;let f6:=hB.ok.len;let f5:=hB.ok.tab;let(dx,fs,ta,fb,gv,hb,ft,f9,ff,e6,c2):=id hB.bk;let f8:gv.length=D:=by rw[c2.1,hZ]
 let(I,f7,a6):=lV (P:=λj (a:Str×V)=>∃(t d:Ak),gv[j]?=Kg (.ref t)/\H t=Kg (.tup [.str a.1,.ref d])/\a.2=.ref d/\J[j]?=Kg a.1/\DmP Y.m Y.n H ds j d) D λj hj=>by
  let(r,er,nm,d,X,h2,h3):=c2.2 j j<|qB hj;exact⟨(nm,.ref d),r,d,er,h3,U,X,h2⟩
 let mL:I.map (·.1)=J.take D:=by
  refine pk λj=>?_
  rw[dy,jR];cases e:I[j]? with
  |none =>
   let:I.length<=j:=List.getElem?_eq_none_iff.mp e;rw[Kn ∅];rfl
  |some a =>
   let(t,d,_,_,_,h4,_):=a6 j a e;let:j<I.length:=(GD.mp e).1;rw[Ko ∅,h4];rfl
 let b6:(I.map (·.1)).Nodup:=by rw[mL];exact hB.ok.nd.sublist<|ly _ _
 refine⟨λR o=>ao H o/\∃Z:Ak,o Z=Kg (.dK<|kvT I)/\R=[Kg (.ref b),Kg<|.str nm,Kg<|.ref fd,Kg<|.ref Z,Kh,Kh],?_,?_⟩
 .refine⟨_,U,b,_,_,_,_,U,hb,bl.k_Book,bl.na_Book_facts,ff,fb,gv,I,U,e6,∅,λj p_ ep=>?_,b6,λd hd=>⟨ag hd _,d,ae,U⟩⟩;let(t,d,X,h2,h3,_):=a6 j p_ ep;exact⟨t,X,by rw[h3];exact h2⟩
 rintro f1 H1 ⟨s1,Z,e7,rfl⟩;calc⟨λR o=>ao H1 o/\∃C:Ak,H1 C=Kh/\o C=Kg (.dK<|kvT [])/\R=[Kg (.ref b),Kg<|.str nm,Kg<|.ref fd,Kg<|.ref Z,Kg<|.ref C,Kh],λc hc=>⟨ag hc _,c,hc,ae,U⟩,?_⟩;rintro f0 H2 ⟨s2,C,b0,c4,rfl⟩;let a4:=s1.trans s2;rcases hq with⟨c8,qN⟩|⟨hk,d0,m,hm,b4,hq⟩
 .exact⟨λ_ _=>False,⟨_,U,_,U,b,nm,J,ds,ts,D,mv,L,k,U,hB.same a4,bE,hs,a0,gw,.inr ⟨c8,λo s'=>qN o<|a4.trans s'⟩⟩,λ_ _ h=>h.elim⟩
 generalize N:nlF ts J D k=nl at hm b4 hq;let N:(J.take D).filter (cI ts J D k)=nl:=N;let c9:nl.Nodup:=by rw[←N];exact(hB.ok.nd.sublist<|ly _ _).sublist ra
 let f3:nl.length<=7:=by
  let:=iK (cI ts J D k)<|J.take D;rw[N,eV]at this;lia
 refine⟨λR o=>ao H1 o/\∃g:La (Str×V),o C=Kg (.dK<|kvT g)/\m=nl.length/\g.map (·.1)=nl/\FCd J D O g/\∃c5:Option V,R=[Kg (.ref b),Kg<|.str nm,Kg<|.ref fd,Kg<|.ref Z,Kg<|.ref C,c5],?_,?_⟩
 .refine⟨_,U,_,U,b,nm,J,ds,ts,D,mv,L,k,U,hB.same a4,bE,hs,a0,gw,.inl ⟨hk,d0,λl H3 s3 a9 el=>?_⟩⟩;rw[N]at el;let c6:l≠C:=λz=>by rw[z,c4]at a9;cases a9
  refine⟨l,U,⟨_,SqL.of el⟩,bD (xs:=nl.map V.str) (λi σ o=>ao H1 o/\o l=Kg (.lst<|nl.map V.str)/\∃g:La (Str×V),o C=Kg (.dK<|kvT g)/\i<=m/\g.map (·.1)=nl.take i/\FCd J D O g/\∃c5:Option V,σ=[Kg (.ref b),Kg<|.str nm,Kg<|.ref fd,Kg<|.ref Z,Kg<|.ref C,c5]) ⟨s2.trans s3,el,[],s3 _ _ c4,tS _,U,(λp hp=>by cases hp),_,U⟩ (λi σ o _ h=>SqL.of h.2.1) (λi y σ o e h=>?_) (λσ o h=>?_)⟩
  .let(sm,c3,g,ek,c0,B,hF,c5,rfl):=h;let(z,rfl,ez):=dD e;let hi:i<nl.length:=(GD.mp ez).1;let hz:z∈J.take D:=by
    let:=GG ez;rw[←N]at this;exact(hQ.mp this).1
   let(f,ef):=gT hz;let hf:f<D:=by
    let:=(GD.mp ef).1;rw[eV]at this;lia
   rw[jR,Ko hf]at ef;let S:=GC (l:=ds) (i:=f) ∅;let b3:=hB.ok.doms _<|GG S;generalize ds[f]=po at S b3;let T:=s1.trans sm;let yd:=T _ _ e3;let zm:=sm _ _ e7;let a7:=GC (l:=I) (i:=f) ∅;generalize I[f]=pf at a7;let(t,d,_,_,c7,a1,f2,C5,W):=a6 f pf a7;rw[S]at C5;cases C5;rw[ef]at a1;let a1:z=pf.1:=Option.some.inj a1;let uJ:bx (kvT I) (Sum.inr z)=Kg (.ref d):=by
    rw[mR];calc pQ b6 (j:=f) ?_;rw[a7,a1,←c7]
   let kZ:z ∉ g.map (·.1):=λhm=>by
    rw[B]at hm;let(j,ej):=gT hm;let hj:j<i:=by
     have:=(GD.mp ej).1;rw[eV]at this;lia
    rw[jR,Ko hj]at ej;let:=cH c9 ej ez;lia
   let C0:g.length<=7:=by
    let X:=Kt List.length B;rw[dn,eV]at X;lia
   calc⟨_,U,_,U,fd,fk,z,U,U,yd,_,U,?_⟩;rcases wh i m with Bz|Bz
   rotate_left
   .let e1:i=m:=∅
    subst e1;rcases hq with⟨z0,_⟩|⟨z0,a2,hq⟩
    .lia
    rw[ez]at a2;cases a2;rcases hq with⟨e0,qF⟩|⟨⟨v,M,b1,rn⟩,qO⟩
    .rw[e0];exact dS ⟨~~~0,_,U,z,U,(a0 z<|GG ef).1,(a0 z<|GG ef).2,~~~0,λz2=>⟨(by show 1<=AA;decide),qF o T⟩⟩
    .rw[M];calc bR ?_;let rn:=rn f po hf ef S;unfold vO at rn;unfold PD.k iE at W;by_cases hw:po.ws=[]
     .rw[Ko hw]at rn W;let(x,G):=W;let u:=T _ _ G;exact⟨_,U,_,U,Z,kvT I,z,_,U,U,zm,uJ,d,_,x,_,U,.head _,u,U,_,U,_,U,fd,fk,z,_,U,U,yd,M,d,po.lo,po.hi,_,U,⟨x,u⟩,b1,(λz_=>by have z_:inB po.lo po.hi v=true:=z_;rw[rn]at z_;cases z_),λ_=>qO o T⟩
     .rw[Kn hw]at rn W;let((x,l2,G,BA),h0,X,hg):=W;let u:=T _ _ G;let a5:=T _ _ BA;calc⟨_,U,_,U,Z,kvT I,z,_,U,U,zm,uJ,d,_,x,_,U,.tail _<|.head _,u,U,_,U,_,U,fd,fk,z,_,U,U,yd,M,d,po.ws,_,U,⟨x,l2,u,a5⟩,b1,hg.once,(λz2 j2 e2 a8=>?_),λ_=>qO o T⟩;rw[e2]at rn;let:decide (z2∈po.ws)=false:=rn;rw[Kq (GG a8)]at this;cases this
   let(M,b5,c1):=b4 i z Bz ez f po hf ef S;rw[M];calc bR ?_;let b2:(kvT g).length<AA:=by unfold kvT;rw[dn];exact vU C0 ⋯
   let a3:∀v:V,v=.int (O.getD f 0)->(ao H1 (upd o C<|.dK<|putK (kvT g) (Sum.inr z) v)/\upd o C (.dK<|putK (kvT g) (Sum.inr z) v) l=Kg (.lst<|nl.map V.str)/\∃tQ:La (Str×V),upd o C (.dK<|putK (kvT g) (Sum.inr z) v) C=Kg (.dK<|kvT tQ)/\i+1<=m/\tQ.map (·.1)=nl.take (i+1)/\FCd J D O tQ):=λv M=>by
    subst M;refine⟨sm.upd b0,(aq c6).trans c3,g++[(z,.int<|O.getD f 0)],by rw[ae,yY kZ],Bz,?_,hF.snoc hf ef⟩;rw[dz,B,take_snoc ez];rfl
   unfold PD.k iE at W;unfold wvP at M;by_cases hw:po.ws=[]
   .rw[Ko hw]at M;rw[Ko hw]at W;let(x,G):=W;let u:=T _ _ G;let(d1,d2,tQ,d3,d4,d5,d6):=a3 _ U;exact⟨_,U,_,U,Z,kvT I,z,_,U,U,zm,uJ,d,_,x,_,U,.head _,u,U,_,U,_,U,fd,fk,z,_,U,U,yd,M,d,po.lo,po.hi,_,U,⟨x,u⟩,.int<|b3.bd _ b5 c1,(λ_=>⟨_,U,_,U,C,kvT g,z,U,U,ek,b2,d1,d2,tQ,d3,d4,d5,d6,_,U⟩),λz_=>by rw[tJ b5 c1]at z_;cases z_⟩
   .rw[Kn hw]at M;rw[Kn hw]at W;let((x,l2,G,BA),h0,X,hg):=W;let h0:po.lo=0:=h0;let X:po.hi=hiW po.ws:=X;unfold hiW at X;let u:=T _ _ G;let a5:=T _ _ BA;let uZ:0<po.ws.length:=rL.mpr hw;let e4:((O.getD f 0).toNat:Int)=O.getD f 0:=xt ∅;let ix:=GC (l:=po.ws) (i:=(O.getD f 0).toNat) ∅;rw[hJ,ix]at M;let(d1,d2,tQ,d3,d4,d5,d6):=a3 (.int (((O.getD f 0).toNat:Nat):Int)) (by rw[e4]);refine⟨_,U,_,U,Z,kvT I,z,_,U,U,zm,uJ,d,_,x,_,U,.tail _<|.head _,u,U,_,U,_,U,fd,fk,z,_,U,U,yd,M,d,po.ws,_,U,⟨x,l2,u,a5⟩,Bi<|Bh<|hg.words _<|GG ix,hg.once,(λz2 j2 e2 a8=>?_),λz_=>?_⟩
    .let e5:j2=(O.getD f 0).toNat:=by
      cases e2;exact cH hg.once a8 ix
     subst e5;exact⟨_,U,_,U,C,kvT g,z,U,U,ek,b2,d1,d2,tQ,d3,d4,d5,d6,_,U⟩
    .let:decide (po.ws[(O.getD f 0).toNat]∈po.ws)=false:=z_;rw[Kq (GG ix)]at this;cases this
  .let(sm,c3,g,ek,c0,B,hF,c5,rfl):=h;rw[dn,fD]at B;rw[dn]at c0;exact⟨sm,g,ek,∅,B,hF,c5,U⟩
 rintro e9 H3 ⟨s3,g,ek,f4,B,hF,c5,rfl⟩;rcases hq with⟨_,q⟩|⟨z0,a2,_⟩
 .exact⟨_,U,q C g H3 (s1.trans s3) (s1.free b0) ek B hF⟩
 .let:=(GD.mp a2).1;lia
theorem FT(F:Fun K "ask_codes" "ask_codes" Y41 f fd) (bl:Bl K mg Y)(m:Callee P w K mg base 18 "last_verdict" ["tables","facts","codes"] (eU K Y)) (r:ba P w K mg base 18 "tables_for" ["book","name"] (dG K Y)) (k:ba P w K mg base 18 "needs" ["book","name"] (kE K Y)):aN P w K mg base (CX1 P w) 19 f fd ["book","name","codes"] (gN K Y):=by
 refine F.okEA Z41 λv A e s H x Q E a h=>?_
 let(b,y,l,g,t,i,q,n,L,rfl,p,u,o,c,d,j):=h;calc⟨_,(ah<|aG<|aR m a U<|aa (dY r gh a U<|aa (pv 0)<|aa (pv 1) af)<|aa (dY k gh a U<|aa (pv 0)<|aa (pv 1) af)<|aa (pv 2) af),?_⟩;calc⟨_,U,_,U,b,l,g,t,i,q,n,L,0,U,p,u,o,c,⋯,.inr ⟨d,j⟩⟩
theorem FU(F:Fun K "trail" "trail" Y86 f fd) (bl:Bl K mg Y)(eB:ba P w K mg base 19 "fact_codes" ["book","name","facts"] (dH K Y)) (p4:Callee P w K mg base 19 "steps" ["tables","codes"] (kD K Y)) (eA:ba P w K mg base 19 "tables_for" ["book","name"] (dG K Y)):aN P w K mg base (CX1 P w) 20 f fd ["book","name","facts"] (kF K Y):=by
 refine F.okEA Z86 λb5 A b1 s H vs Q E W h=>?_
 let(b,fd,C,g,D,u,n,I,L,k,S,G,rfl,e,N,J,o,M,x,hq):=h
 refine⟨_,(ar (aI (i:=3) Z86.nd U (Or.inl U)<|dY eB gh W U<|aa (pv 0)<|aa (pv 1)<|aa (pv 2) af)
  (ah<|aG<|aR p4 W U<|aa (dY eA gh W U<|aa (pv 0)<|aa (pv 1) af)<|aa (pv 3) af)),?_⟩
 show(let r1:TS:=_;bu _ r1 _ _ _);intro _;rcases hq with⟨a3,qN⟩|⟨y,v,m,X,B,⟨a6,q⟩|⟨z0,R,⟨a5,qF⟩|⟨hO,qO⟩⟩⟩
 .exact⟨λ_ _=>False,⟨_,U,_,U,_,U,b,fd,C,g,D,u,n,I,L,k,S,G,U,e,N,J,o,M,x,.inl ⟨a3,qN⟩⟩,λ_ _ h=>h.elim⟩
 rotate_left
 .exact⟨λ_ _=>False,⟨_,U,_,U,_,U,b,fd,C,g,D,u,n,I,L,k,S,G,U,e,N,J,o,M,x,.inr ⟨y,v,m,X,B,.inr ⟨z0,R,.inl ⟨a5,qF⟩⟩⟩⟩,λ_ _ h=>h.elim⟩
 .exact⟨λ_ _=>False,⟨_,U,_,U,_,U,b,fd,C,g,D,u,n,I,L,k,S,G,U,e,N,J,o,M,x,.inr ⟨y,v,m,X,B,.inr ⟨z0,R,.inr ⟨hO,qO⟩⟩⟩⟩,λ_ _ h=>h.elim⟩
 let h7:=e.ok.n7;let b4:=e.ok.len;let b3:=e.ok.tab;let O:=iF e.ok;calc⟨λa0 H'=>ao H H'/\∃(d:Ak)(a:La (Str×V)),H d=Kh/\H' d=Kg (.dK<|kvT a)/\a.map (·.1)=(g.take n).filter (cI u g n k)/\FCd g n G a/\a0=[Kg (.ref b),Kg<|.str C,Kg<|.ref fd,Kg (.ref d)],⟨_,U,_,U,_,U,b,fd,C,g,D,u,n,I,L,k,S,G,U,e,N,J,o,M,x,.inr ⟨y,v,m,X,B,.inl ⟨a6,λd a H' s nd T p Z=>⟨s,d,a,nd,T,p,Z,U⟩⟩⟩⟩,?_⟩;rintro b2 H1 ⟨s1,d,a,nd,T,p,Z,rfl⟩;calc⟨_,U,_,U,b,C,g,D,u,n,I,L,k,U,e.same s1,N,J,o,M,.inl ⟨y,v,λl xs H2 s2 nl el a2=>?_⟩⟩;let sH:ao H (hide H2 d):=lq (s1.trans s2) nd;let a4:(a.map (·.1)).Nodup:=by rw[p];exact(e.ok.nd.sublist<|ly _ _).sublist ra
 let a8:a.length<=7:=by
  let h1:=Kt List.length p;let h2:=iK (cI u g n k)<|g.take n;rw[eV]at h2;rw[dn]at h1;lia
 refine⟨_,U,l,d,xs,g,D,u,n,G,odr (akT u n) k [],a,U,s2 _ _ T,dq el (λz=>by rw[z,T]at nl;cases nl),ay.mono a2<|λr j ⟨i,e1,e2⟩=>?_,e.ok,Tld.odr O Tld.nil y,(uF O k [] uG).1,a8,a4,Z,λj hj t et c hc a9 z ez=>?_,λl' a1 H3 s3 b0 hx=>q l' a1 H3 (sH.trans s3) b0 hx⟩
 .let(r',j',er,ej,hT):=ay.get e.tabs e1;cases er;rw[e2]at ej;cases ej;exact hT.same sH
 .rw[p];refine hQ.mpr ⟨GG (i:=c) (by rw[jR,Ko a9];exact ez),?_⟩;unfold cI;rw[jT];calc⟨j,hj,?_⟩;unfold nmT;rw[et];let tok:=(e.ok.tabs j t et).ok;let(m,em):=gT hc;let a7:∀k∈t.cols,k<g.length:=λk y=>by
   let:=tok.lt k y;let:=(GD.mp et).1;lia
  let:=(ck a7).2 m c em;rw[ez]at this;simpa using GG this
theorem FV(F:Fun K "ask" "ask" Y40 f fd) (bl:Bl K mg Y)(p7:ba P w K mg base 20 "trail" ["book","name","facts"] (kF K Y)):aN P w K mg base (CX1 P w) 21 f fd ["book","name","facts"] (tK K Y):=by
 refine F.okEA Z40 λa2 A X s H vs Q E hr h=>?_
 let(b,fd,x,v,D,j,n,y,L,k,C,G,rfl,i,I,z,a,B,d,hq):=h;calc⟨_,(ah<|aG<|aF bc (aF aH (dY p7 gh hr U<|aa (pv 0)<|aa (pv 1)<|aa (pv 2) af) (zy wb ai)<|λ_ _=>U) ai<|λ_ _=>U),?_⟩;rcases hq with⟨R,qN⟩|⟨M,g,m,J,e,⟨T,q⟩|⟨Z,u,⟨S,qF⟩|⟨hO,qO⟩⟩⟩
 .exact⟨_,U,_,U,_,U,b,fd,x,v,D,j,n,y,L,k,C,G,U,i,I,z,a,B,d,.inl ⟨R,qN⟩⟩
 rotate_left
 .exact⟨_,U,_,U,_,U,b,fd,x,v,D,j,n,y,L,k,C,G,U,i,I,z,a,B,d,.inr ⟨M,g,m,J,e,.inr ⟨Z,u,.inl ⟨S,qF⟩⟩⟩⟩
 .exact⟨_,U,_,U,_,U,b,fd,x,v,D,j,n,y,L,k,C,G,U,i,I,z,a,B,d,.inr ⟨M,g,m,J,e,.inr ⟨Z,u,.inr ⟨hO,qO⟩⟩⟩⟩
 let V:=iF i.ok;let vS:∀(k:Nat)(t:PT),j[k]?=Kg t->∀c∈t.cols,c<n+k:=λk t N c hc=>(i.ok.tabs k t N).ok.lt c hc
 calc⟨_,U,_,U,_,U,b,fd,x,v,D,j,n,y,L,k,C,G,U,i,I,z,a,B,d,.inr ⟨M,g,m,J,e,.inl ⟨T,λl xs H' s' el o=>?_⟩⟩⟩;let(od,O):=uH V k;rw[O]at o;let(rp,ix,t,p,a0,N,ep,FE,a1,m',r3,W,r,_):=oY o;rw[←xR vS N ep]at r;calc⟨_,U,l,_,_,_,U,U,SqL.of el,ix,rp,_,_,_,U,U,SqT.of W,U,q r3 H' s' r⟩
theorem FW(F:Fun K "_law_refused" "_law_refused" Y61 f fd) (bl:Bl K mg Y)(eB:ba P w K mg base 21 "fact_codes" ["book","name","facts"] (dH K Y)) (C6:ba P w K mg base 21 "ask" ["book","name","facts"] (tK K Y)) (p7:ba P w K mg base 21 "trail" ["book","name","facts"] (kF K Y)) (rq:ba P w K mg base 21 "ask_codes" ["book","name","codes"] (gN K Y)):aN P w K mg base CX0 22 f fd ["deed","book","name","facts"] (fA K Y):=by
 refine F.okA Z61 λa9 A a5 s H vs Q E hr h=>?_
 let(d,b,fd,r,t,I,u,B,x,L,O,R,o,rfl,hB,J,y,j,a2,a3,hd,q):=h
 refine⟨_,(az (aI (i:=4) Z61.nd U (Or.inl U)<|bh af)
  (ar (AJ (G:=λC=>gD K C) (i:=5) (sT (aL cV (pv 0) ai<|aP _) (kq<|ph eB hr U U<|aa (pv 1)<|aa (pv 2)<|aa (pv 3) af)<|sT (aL cV (pv 0) ai<|aP _) (kq<|ph C6 hr U U<|aa (pv 1)<|aa (pv 2)<|aa (pv 3) af)<|sT (aL cV (pv 0) ai<|aP _) (kq<|ph p7 hr U U<|aa (pv 1)<|aa (pv 2)<|aa (pv 3) af)<|kq<|ph rq hr U U<|aa (pv 1)<|aa (pv 2)<|aa (bh<|aa ai af) af) U U U U bl.TableError_ Z61.nd U U<|λC e oe hG hc=>(ah<|aI (i:=4) Z61.nd U (Or.inl U)<|bh<|aa (aw (iW hc hG) U bl.isinstance_ PyProof.Rows.boot_isinstance<|aa (pv 5)<|aa (cc (v:=.ref Y.c) U bl.NoFact_ U) af)<|aa (aw (iW hc hG) U bl.isinstance_ PyProof.Rows.boot_isinstance<|aa (pv 5)<|aa (cc (v:=.ref Y.d) U bl.Outside_ U) af)<|aa (aw (iW hc hG) U bl.isinstance_ PyProof.Rows.boot_isinstance<|aa (pv 5)<|aa (cc (v:=.ref Y.b) U bl.NoTable_ U) af)<|aa (aw (iW hc hG) U bl.isinstance_ PyProof.Rows.boot_isinstance<|aa (pv 5)<|aa (lS (v:=.ty "ValueError") U bl.ValueError_ PyProof.Rows.Boot.ValueError U) af) af))
  (ah<|aG<|pv 4))),?_⟩
 show(let r2:TS:=_;let r1:TS:=bu _ r2;bA _ r1 _ _ _);intro _ _;let h7:=hB.ok.n7;let a8:=hB.ok.tab;refine⟨(by show 0<=AA;decide),λl hl=>?_⟩;let W:=ag hl<|.lst [];let el:upd H l (.lst []) l=Kg (.lst []):=ae;generalize upd H l (.lst [])=H1 at W el⊢;let n:=hB.same W;let M:=W _ _ a2;refine⟨λa1 a=>ao H a/\∃lo:Ak,a lo=Kg (.lst<|(akB o).map V.bl)/\a1=[Kg (.int d),Kg<|.ref b,Kg<|.str r,Kg<|.ref fd,Kg<|.ref lo,Kh],?_,?_⟩
 rotate_left
 .rintro a6 H2 ⟨s2,lo,a4,rfl⟩;exact⟨_,U,q lo H2 s2 a4⟩
 show AS _ _ _ _ _ _ _;refine exk (P:=λE=>AS _ _ _ _ _ _ E) (λE=>(o=0->∀a,ao H1 a->E Y.b a)/\(o=2->∀a,ao H1 a->E Y.c a)/\(o=3->∀a,ao H1 a->E Y.d a)) ⟨λN a g=>?_,λN a g=>?_,λN a g=>?_⟩ λE ⟨x0,x2,x3⟩=>?_
 .refine⟨bl.e_NoTable,bl.l_NoTable,λe=>?_⟩;refine⟨_,U,_,Kj,U,.inl ⟨_,U,bl.g_NoTable_NoFact⟩,_,U,_,Kj,U,.inl ⟨_,U,bl.g_NoTable_Outside⟩,_,U,_,Ki,U,.inl ⟨_,U,bl.g_NoTable_NoTable⟩,_,U,_,Ki,U,.inr<|.inl ⟨_,U,bl.vE_NoTable⟩,(by show 4<=AA;decide),λp Z=>?_⟩;exact⟨(W.trans g).trans<|ag Z _,p,by rw[N];exact ae,U⟩
 .refine⟨bl.e_NoFact,bl.l_NoFact,λe=>?_⟩;refine⟨_,U,_,Ki,U,.inl ⟨_,U,bl.g_NoFact_NoFact⟩,_,U,_,Kj,U,.inl ⟨_,U,bl.g_NoFact_Outside⟩,_,U,_,Kj,U,.inl ⟨_,U,bl.g_NoFact_NoTable⟩,_,U,_,Ki,U,.inr<|.inl ⟨_,U,bl.vE_NoFact⟩,(by show 4<=AA;decide),λp Z=>?_⟩;exact⟨(W.trans g).trans<|ag Z _,p,by rw[N];exact ae,U⟩
 .refine⟨bl.e_Outside,bl.l_Outside,λe=>?_⟩;refine⟨_,U,_,Kj,U,.inl ⟨_,U,bl.g_Outside_NoFact⟩,_,U,_,Ki,U,.inl ⟨_,U,bl.g_Outside_Outside⟩,_,U,_,Kj,U,.inl ⟨_,U,bl.g_Outside_NoTable⟩,_,U,_,Ki,U,.inr<|.inl ⟨_,U,bl.vE_Outside⟩,(by show 4<=AA;decide),λp Z=>?_⟩;exact⟨(W.trans g).trans<|ag Z _,p,by rw[N];exact ae,U⟩
 cases a3 with
 |no h =>
  rcases hd with rfl|rfl|rfl|⟨rfl,N⟩
  .exact⟨_,U,U,_,U,dZ U ⟨_,U,_,U,_,U,b,fd,r,t,I,u,B,x,L,0,O,R,U,n,J,y,j,⋯,M,.inl ⟨h,λa g=>⟨_,U,x0 U a g⟩⟩⟩⟩
  .exact⟨_,U,U,_,U,cg ⋯ ⟨_,U,U,_,U,dZ U ⟨_,U,_,U,_,U,b,fd,r,t,I,u,B,x,L,0,O,R,U,n,J,y,j,⋯,M,.inl ⟨h,λa g=>⟨_,U,x0 U a g⟩⟩⟩⟩⟩
  .exact⟨_,U,U,_,U,cg ⋯ ⟨_,U,U,_,U,cg ⋯ ⟨_,U,U,_,U,dZ U ⟨_,U,_,U,_,U,b,fd,r,t,I,u,B,x,L,0,O,R,U,n,J,y,j,⋯,M,.inl ⟨h,λa g=>⟨_,U,x0 U a g⟩⟩⟩⟩⟩⟩
  .exact⟨_,U,U,_,U,cg ⋯ ⟨_,U,U,_,U,cg ⋯ ⟨_,U,U,_,U,cg ⋯ ⟨_,U,_,U,(by show 1<=AA;decide),λca a0=>⟨b,ca,r,t,I,u,B,x,L,U,n.same<|ag a0 _,J,y,j,h,λa g=>⟨_,U,x0 U a<|(ag a0 _).trans g⟩⟩⟩⟩⟩⟩
 |told k T S h =>
  rcases hd with rfl|rfl|rfl|⟨rfl,N⟩
  .exact⟨_,U,U,_,U,dZ U ⟨_,U,_,U,_,U,b,fd,r,t,I,u,B,x,L,k,O,R,U,n,J,y,j,∅,M,.inr ⟨T,S,_,tj _,h,.inl ⟨U,λd_ a7 a g _ _ _ _=>⟨W.trans g,l,g _ _ el,U⟩⟩⟩⟩⟩
  .exact⟨_,U,U,_,U,cg ⋯ ⟨_,U,U,_,U,dZ U ⟨_,U,_,U,_,U,b,fd,r,t,I,u,B,x,L,k,O,R,U,n,J,y,j,∅,M,.inr ⟨T,S,_,tj _,h,.inl ⟨U,λd_ a g _=>⟨W.trans g,l,g _ _ el,U⟩⟩⟩⟩⟩⟩
  .exact⟨_,U,U,_,U,cg ⋯ ⟨_,U,U,_,U,cg ⋯ ⟨_,U,U,_,U,dZ U ⟨_,U,_,U,_,U,b,fd,r,t,I,u,B,x,L,k,O,R,U,n,J,y,j,∅,M,.inr ⟨T,S,_,tj _,h,.inl ⟨U,λl_ xs a g _ _=>⟨W.trans g,l,g _ _ el,U⟩⟩⟩⟩⟩⟩⟩
  .cases N
 |miss k m z T S D h X =>
  rcases hd with rfl|rfl|rfl|⟨rfl,N⟩
  .exact⟨_,U,U,_,U,dZ U ⟨_,U,_,U,_,U,b,fd,r,t,I,u,B,x,L,k,O,R,U,n,J,y,j,∅,M,.inr ⟨T,S,m,uK (GD.mp D).1,h,.inr ⟨z,D,.inl ⟨X,λa g=>⟨_,U,x2 U a g⟩⟩⟩⟩⟩⟩
  .exact⟨_,U,U,_,U,cg ⋯ ⟨_,U,U,_,U,dZ U ⟨_,U,_,U,_,U,b,fd,r,t,I,u,B,x,L,k,O,R,U,n,J,y,j,∅,M,.inr ⟨T,S,m,uK (GD.mp D).1,h,.inr ⟨z,D,.inl ⟨X,λa g=>⟨_,U,x2 U a g⟩⟩⟩⟩⟩⟩⟩
  .exact⟨_,U,U,_,U,cg ⋯ ⟨_,U,U,_,U,cg ⋯ ⟨_,U,U,_,U,dZ U ⟨_,U,_,U,_,U,b,fd,r,t,I,u,B,x,L,k,O,R,U,n,J,y,j,∅,M,.inr ⟨T,S,m,uK (GD.mp D).1,h,.inr ⟨z,D,.inl ⟨X,λa g=>⟨_,U,x2 U a g⟩⟩⟩⟩⟩⟩⟩⟩
  .cases N
 |out k m z T S D h X =>
  rcases hd with rfl|rfl|rfl|⟨rfl,N⟩
  .exact⟨_,U,U,_,U,dZ U ⟨_,U,_,U,_,U,b,fd,r,t,I,u,B,x,L,k,O,R,U,n,J,y,j,∅,M,.inr ⟨T,S,m,uK (GD.mp D).1,h,.inr ⟨z,D,.inr ⟨X,λa g=>⟨_,U,x3 U a g⟩⟩⟩⟩⟩⟩
  .exact⟨_,U,U,_,U,cg ⋯ ⟨_,U,U,_,U,dZ U ⟨_,U,_,U,_,U,b,fd,r,t,I,u,B,x,L,k,O,R,U,n,J,y,j,∅,M,.inr ⟨T,S,m,uK (GD.mp D).1,h,.inr ⟨z,D,.inr ⟨X,λa g=>⟨_,U,x3 U a g⟩⟩⟩⟩⟩⟩⟩
  .exact⟨_,U,U,_,U,cg ⋯ ⟨_,U,U,_,U,cg ⋯ ⟨_,U,U,_,U,dZ U ⟨_,U,_,U,_,U,b,fd,r,t,I,u,B,x,L,k,O,R,U,n,J,y,j,∅,M,.inr ⟨T,S,m,uK (GD.mp D).1,h,.inr ⟨z,D,.inr ⟨X,λa g=>⟨_,U,x3 U a g⟩⟩⟩⟩⟩⟩⟩⟩
  .cases N
theorem FX(F:Fun K "law" "law" Y51 f fd) (bl:Bl K mg Y)(rz:Callee P w K mg base 22 "_law_book" ["script"] (iH K Y)) (d0:bF CX0 P w K mg base 21 "Book" Y.p ["self","facts","tables"] (cU K Y)) (p8:Callee P w K mg base 22 "_law_facts" ["plan"] (gL K Y)) (dr:Callee P w K mg base 22 "_law_at" ["script","k"] (i4 K Y)) (p9:Callee P w K mg base 22 "_law_point" ["plan","cell"] (gJ K Y)) (gQ:Callee P w K mg base 22 "_law_needs" ["plan","k"] (ee K Y 8)) (eB:ba P w K mg base 22 "fact_codes" ["book","name","facts"] (dH K Y)) (nP:Callee P w K mg base 22 "_law_spoilt" ["plan","facts","wanted","cell"] (fV K Y)) (qc:Callee P w K mg base 22 "_law_table" ["plan","k"] (gM K Y)) (fB:Callee P w K mg base 22 "_law_strange" ["domain","cell"] (d8 K Y)) (qd:Callee P w K mg base 22 "_law_worth" ["domain","code"] (gK K Y)) (iM:Callee P w K mg base 22 "_law_refused" ["deed","book","name","facts"] (fA K Y)):aN P w K mg base CX0 23 f fd ["script"] (J18 K):=by
 refine F.ok Z51 (λvs H Q E h=>?_)<|λu3 A o5 s H vs Q E hr h=>?_
 .let(a,ns,rfl,hS,g2,q):=h;rfl
 let(a,ns,rfl,hS,g2,q):=h
 refine⟨_,(ar (aI (i:=1) Z51.nd U (Or.inr U)<|aR rz hr U<|aa (pv 0) af)
  (ar (jA (pv 1)<|dQ U<|aM (aE (i:=2) Z51.nd U<|Or.inr U)<|aM (aE (i:=3) Z51.nd U<|Or.inl U)<|aM (aE (i:=4) Z51.nd U<|Or.inl U) bS)
  (ar (aI (i:=5) Z51.nd U (Or.inl U)<|aC cJ (aw av U bl.len_ Kf<|aa (pv 2) af)<|aw av U bl.len_ Kf<|aa (pv 4) af)
  (ar (aI (i:=6) Z51.nd U (Or.inl U)<|uc d0 bV hr U<|aa (aR p8 hr U<|aa (pv 1) af)<|aa (bK (bf U bl.range_<|aa (aw av U bl.len_ Kf<|aa (pv 4) af) af) (aW (N:=["k","plan"]) (fr:=[1]) (cl:=[("plan",s.heap.objs.size+1)]) U U (~~~0) (~~~0) U (~~~0) U U U (fZ.mpr ⟨U,gZ _⟩) U) U (λ_ _ _ _=>aV)<|λ_ _ _ _=>(aR qc hr U<|aa (pv 1)<|aa (pv 0) af)) af)
  (az (bg GP.never U (kN U bl.range_<|aa (pv 5)<|aa (aw av U bl.len_ Kf<|aa (pv 2) af) af) (aE (i:=7) Z51.nd U<|Or.inl U)
  (ar (aI (i:=8) Z51.nd U (Or.inl U)<|aR dr hr U<|aa (pv 0)<|aa (aC bB ai<|pv 7) af)
  (ar (aI (i:=9) Z51.nd U (Or.inr U)<|aR p9 hr U<|aa (pv 1)<|aa (pv 8) af)
  (ar (aI (i:=10) Z51.nd U (Or.inl U)<|aR gQ hr U<|aa (pv 1)<|aa (pv 7) af)
  (ar (aI (i:=11) Z51.nd U (Or.inl U)<|yK (xm aS aS yJ) U U (by intro z_;cases z_) ⋯)
  (ar (bg GP.never U (bf U bl.range_<|aa (pv 5) af) (aE (i:=12) Z51.nd U<|Or.inl U)
  (ah<|kz hr (pv 11) (aF aH (pv 2) (pv 12)<|λ_ _=>U) (aR fB hr U<|aa (aF aH (pv 3) (pv 12)<|λ_ _=>U)<|aa (aC bq (pv 8) ai) af) U))
  (ar (bg GP.never U (bf U bl.range_<|aa (pv 5) af) (aE (i:=12) Z51.nd U<|Or.inl U)
  (ah (aQ (PW.pt<|jz (aL cV (aC aU (aC bq (pv 8) ai) ai) ai<|aP _)<|gB<|aL gC (pv 12) (pv 10) (by with_unfolding_all rfl))
  (ah<|aT<|qL (pv 11) (aF aH (pv 2) (pv 12)<|λ_ _=>U) ⟨U,U,U,U⟩)
  aJ)))
  (ar (bg GP.never U (AU U bl.reversed_<|aa (pv 10) af) (aE (i:=12) Z51.nd U<|Or.inl U)
  (ah<|kz hr (pv 11) (aF aH (pv 2) (pv 12)<|λ_ _=>U) (aR qd hr U<|aa (aF aH (pv 3) (pv 12)<|λ_ _=>U)<|aa (aF aH (pv 9) (pv 12)<|λ_ _=>U) af) U))
  (ar (aI (i:=13) Z51.nd U (Or.inl U)<|bH sZ U bl.dict_ PyProof.Rows.boot_dict<|aa (pv 11) af)
  (ar (aI (i:=14) Z51.nd U (Or.inl U)<|dY eB zK hr U<|aa (pv 6)<|aa (aF aH (pv 2) (pv 7)<|λ_ _=>U)<|aa (pv 11) af)
  (ar (aQ (PW.pt<|tU (cY<|dJ<|aw tE U bl.isinstance_ PyProof.Rows.boot_isinstance<|aa (pv 14)<|aa (lS (v:=.ty "dict") U bl.dict_ PyProof.Rows.boot_dict U) af)<|o6<|aL (yw hr) (pF U U bl.list_<|pv 14) (bK (aO<|pv 10) (aW (N:=["j","names","codes"]) (fr:=[2,9]) (cl:=[("names",s.heap.objs.size+1+1),("codes",s.heap.objs.size+1+1+1)]) U U (~~~0) (~~~0) U (~~~0) U U U (fZ.mpr ⟨U,fZ.mpr ⟨U,gZ _⟩⟩) U) U (λ_ _ _ _=>aV)<|λ_ _ _ _=>(bC<|aa (aF (dU (K:=K) U) (pv 1) (pv 0)<|λ_ _=>U)<|aa (aF (dU (K:=K) U) (pv 2) (pv 0)<|λ_ _=>U) af))<|aP _)
  (ah<|aG cG)
  aJ)
  (ar (aQ (aL (yO hr) (pv 11) (pv 13)<|aP _)
  (ah<|aG cG)
  aJ)
  (ar (bg GP.never U (bf U bl.range_<|aa ai af) (aE (i:=15) Z51.nd U<|Or.inl U)
  (ah (aQ (aL (wC hr) (aR iM hr U<|aa (pv 15)<|aa (pv 6)<|aa (aF aH (pv 2) ai<|λ_ _=>U)<|aa (pv 11) af) (bh<|aa cG<|aa cG<|aa cG<|aa cG af)<|aP _)
  (ah<|aG cG)
  aJ)))
  (ar (aI (i:=16) Z51.nd U (Or.inl U)<|aR nP hr U<|aa (pv 1)<|aa (pv 11)<|aa (pv 10)<|aa (aR dr hr U<|aa (pv 0)<|aa (aC bB ai<|pv 7) af) af)
  (ah (bg GP.never U (bf U bl.range_<|aa ai af) (aE (i:=15) Z51.nd U<|Or.inl U)
  (ah (aQ (aL (wC hr) (aR iM hr U<|aa (pv 15)<|aa (pv 6)<|aa (aF aH (pv 2) (pv 7)<|λ_ _=>U)<|aa (pv 11) af) (pv 16)<|aP _)
  (ah<|aG cG)
  aJ))))))))))))))))))
  (ah<|aG cG)))))),?_⟩
 show(let r5:TS:=_;let r4:TS:=bA _ r5;let r3:TS:=bu _ r4;let r2:TS:=bu _ r3;let r1:TS:=bu _ r2;bu _ r1 _ _ _);intro _ _ _ _ _;calc⟨λI H'=>ao H H'/\∃(r:Ak)(O:La Str)(ds:La PD)(W:La PT)(C:Nat),PlA H' r O ds W/\eQ O ds W C/\(∀t∈W,t.rows.length<=32)/\W.length<=4/\1<=C/\(∀z∈O,SmB z)/\I=[Kg (.ref a),Kg<|.ref r,Kh,Kh,Kh,Kh,Kh,Kh,Kh,Kh,Kh,Kh,Kh,Kh,Kh,Kh,Kh],⟨_,U,a,ns,U,hS,g2,λr O ds W C H' s h1 h2 h3 h4 h5 h6 _ h7=>⟨s,r,O,ds,W,C,h1,h2,h4,h5,h6,h7,U⟩⟩,?_⟩;rintro r8 H1 ⟨s1,r,O,ds,W,C,c3,ok,l2,j1,t9,b3,rfl⟩;let(nl,dl,R,dv,tv,er,g5,o0,k0,g4,i9):=id c3;let j0:tv.length=W.length:=i9.1;let s3:(O.map V.str).length=O.length:=dn _;let h7:=ok.n7;let t2:=ok.len;let t1:=ok.tab;let u2:=iF ok;let l0:=s1.seq hS;let vS:∀(k:Nat)(t:PT),W[k]?=Kg t->∀c∈t.cols,c<C+k:=λk t et c hc=>(ok.tabs k t et).ok.lt c hc
 calc⟨λI H'=>H'=H1/\I=[Kg (.ref a),Kg<|.ref r,Kg<|.ref nl,Kg<|.ref dl,Kg<|.ref R,Kh,Kh,Kh,Kh,Kh,Kh,Kh,Kh,Kh,Kh,Kh,Kh],⟨_,U,r,_,U,SqT.of er,U,_,_,U,_,_,U,_,_,U,U,U,U⟩,?_⟩;rintro r7 H2 ⟨o4,rfl⟩;subst o4;refine⟨λI H'=>H'=H2/\I=[Kg (.ref a),Kg<|.ref r,Kg<|.ref nl,Kg<|.ref dl,Kg<|.ref R,Kg<|.int (C:Int),Kh,Kh,Kh,Kh,Kh,Kh,Kh,Kh,Kh,Kh,Kh],⟨_,U,nl,_,U,.inl<|SqL.of g5,_,U,R,_,U,.inl<|SqL.of g4,_,_,U,U,U,?_⟩,?_⟩
 .rw[show(C:Int)=(((O.map V.str).length:Nat):Int)-((tv.length:Nat):Int) by lia];rfl
 rintro r6 H3 ⟨o3,rfl⟩;subst o3;refine⟨λI H'=>ao H3 H'/\∃(bo:Ak)(mw:La V),BkT Y.o Y.m Y.n Y.p H' bo O ds W C mw (List.range W.length)/\I=[Kg (.ref a),Kg<|.ref r,Kg<|.ref nl,Kg<|.ref dl,Kg<|.ref R,Kg<|.int (C:Int),Kg<|.ref bo,Kh,Kh,Kh,Kh,Kh,Kh,Kh,Kh,Kh,Kh],?_,?_⟩
 .refine⟨_,U,r,O,ds,W,C,U,c3,ok,λfa fv H6 s6 n4 d5=>⟨_,U,R,_,U,.inl<|SqL.of<|s6 _ _ g4,_,U,∅,∅,bP (λD i ys H'=>ao H6 H'/\H' D=Kg (.lst ys)/\ay ys (List.range i) (TbN (Fr H6 D) Y.o Y.m Y.n H' O ds W C)) (λD hD=>⟨ag hD _,ae,ay.nil⟩) (λD i ys H' hD hi h=>?_)<|λD ys H7 hD h=>?_⟩⟩
  .let(sm,eD,hy):=h;rw[w4]at hi;let et:=GC (l:=W) (i:=i) ∅;generalize W[i]=t at et;let a8:=GC (l:=O) (i:=C+i) ∅;let m3:=GC (l:=ds) (i:=C+i) ∅;refine⟨_,U,_,U,r,i,O,ds,W,C,t,_,_,(by rw[show(0:Int)+(i:Int)=(i:Int) by lia]),c3.same<|s6.trans sm,ok,et,a8,m3,λx H4 s4 hx=>?_⟩;let g9:=s4 _ _ eD;refine b7.mk ∅ g9 (aD (by rw[hy.1,hZ];lia)) ⟨(sm.trans s4).upd hD,ae,?_⟩;rw[kU];exact ay.mono (ay.snoc (ay.mono hy λ_ _ p=>p.same s4)<|hx.wk λb h=>⟨sm.free h,λz=>by rw[z,eD]at h;cases h⟩) λ_ _ p=>p.upd Fr.out g9
  .let(sm,eD,hy):=h;rw[w4,j0]at hy;let h9:=s6.trans sm;let f6:ay ys (List.range W.length) (TbA Y.o Y.m Y.n H7 O ds W C):=ay.mono hy λ_ _ p=>p.tb
   let C7:=ay.mono d5 λ_ _ p=>p.same sm
   intro x dx hx j9 f5;let s8:ao H7 (upd (upd H7 dx<|.own x) x<|.ins Y.p dx []):=(ag j9 _).upd hx;let j7:ay fv (List.range C) (FcT (DmP Y.m Y.n H7 ds) H7 O):=ay.mono C7 λ_ _ p=>let ⟨nm,po,d,h1,h2,h3,h4⟩:=p;⟨nm,d,h1,⟨po,h2,h4⟩,h3⟩
   calc⟨x,dx,fa,D,fv,ys,O,ds,W,C,List.range W.length,DmP Y.m Y.n H7 ds,U,ae,s8 _ _<|sm _ _ n4,s8 _ _ eD,⟨ok,ay.mono C7<|λ_ _ p=>p.same s8,ay.mono f6<|λ_ _ p=>p.same s8,(λk hk=>hC.mp hk),ti,hZ,(λk hk=>hC.mpr hk)⟩,ay.mono j7<|λ_ _ p=>p.tups s8.tups,λH8 fs ta fb gv k1 k2 k3 k4 k5 k6 k7=>⟨U,?_⟩⟩;let s9:ao H7 H8:=λb u e=>k1 b u (bL e hx)<|s8 _ _ e
   exact⟨h9.trans s9,x,ys,⟨⟨dx,fs,ta,fb,gv,k2,k3,k4,k5,k6,ay.mono k7 λ_ _ p=>p.mono λ_ _ ⟨po,h1,h2⟩=>⟨po,h1,h2.same s9⟩⟩,ok,ay.mono f6<|λ_ _ p=>p.same s9,(λk hk=>hC.mp hk),by rw[hZ];lia⟩,U⟩
 rintro r0 H6 ⟨b0,bo,mw,hB,rfl⟩;let bE:∀k,k<W.length->k∈List.range W.length:=λk hk=>hC.mpr hk
 let rA:=b0 _ _ g5;let C8:=b0 _ _ o0;let BB:=c3.same b0;let f8:=b0.seq l0;let C9:ay dv ds (PDA NT H6):=ay.mono k0 λ_ _ p=>p.same b0
 let c4:=GC (l:=O) (i:=0) ∅;generalize O[0]=nm0 at c4;let FY:=b3 nm0<|GG c4;let i1:∀k∈List.range W.length,tnm O C k≠nm0:=λk hk z=>by
  let hk:=hC.mp hk;let e:=GC (l:=O) (i:=C+k) ∅;rw[dN e]at z;rw[z]at e;let:=cH ok.nd e c4;lia
 refine⟨_,U,_,U,nl,_,U,.inl<|SqL.of rA,_,_,U,⟨∅,∅,∅,∅⟩,cP (λk σ H'=>ao H6 H'/\∃c7 c8 c9 c6 b5 J a3 a2 S X:Option V,σ=[Kg (.ref a),Kg<|.ref r,Kg<|.ref nl,Kg<|.ref dl,Kg<|.ref R,Kg<|.int (C:Int),Kg<|.ref bo,c7,c8,c9,c6,b5,J,a3,a2,S,X]) ⟨ao.refl _,_,_,_,_,_,_,_,_,_,_,U⟩ (λk σ H' hk h=>?_)<|λσ H' h=>?_⟩
 rotate_left
 .exact q H'
 let(sm,c7,c8,c9,c6,b5,J,a3,a2,S,X,rfl):=h;let hk:k<W.length:=∅
 rw[show(C:Int)+(k:Int)=((C+k:Nat):Int) by lia];let a8:=GC (l:=O) (i:=C+k) ∅;generalize O[C+k]=nm at a8;let f3:=b3 nm<|GG a8;let d4:tnm O C k=nm:=dN a8;let f2:atI (O.map V.str) ((C+k:Nat):Int)=Kg (.str nm):=aK<|cA a8;calc⟨λI B=>B=H'/\∃G:Int,I=[Kg (.ref a),Kg<|.ref r,Kg<|.ref nl,Kg<|.ref dl,Kg<|.ref R,Kg<|.int (C:Int),Kg<|.ref bo,Kg<|.int ((C+k:Nat):Int),Kg<|.int G,c9,c6,b5,J,a3,a2,S,X],⟨_,U,_,U,_,_,U,U,a,ns,_,U,sm.seq f8,∅,λG=>⟨U,G,U⟩⟩,?_⟩;rintro q7 H7 ⟨e_,G,rfl⟩;subst e_;calc⟨λI B=>ao H7 B/\∃(ca:Ak)(cd:La Int),H7 ca=Kh/\B ca=Kg (.lst<|cd.map V.int)/\cd.length=C/\(∀(f:Nat)(p:PD),f<C->ds[f]?=Kg p->p.lo<=cd.getD f 0/\cd.getD f 0<=p.hi)/\I=[Kg (.ref a),Kg<|.ref r,Kg<|.ref nl,Kg<|.ref dl,Kg<|.ref R,Kg<|.int (C:Int),Kg<|.ref bo,Kg<|.int ((C+k:Nat):Int),Kg<|.int G,Kg<|.ref ca,c6,b5,J,a3,a2,S,X],⟨_,U,_,U,r,G,O,ds,W,C,U,BB.same sm,ok,l2,j1,λl cd B s i2 el k8 c2=>⟨s,l,cd,i2,el,k8,c2,U⟩⟩,?_⟩;rintro q6 Ha ⟨sa,ca,cd,Gz,o1,u1,c2,rfl⟩;let f0:=sm.trans sa;calc⟨λI B=>ao Ha B/\∃(wa:Ak)(js:La Nat),B wa=Kg (.lst<|vN js)/\js.Pairwise (· < ·)/\(∀f,f∈js↔FN W C (C+k) f)/\I=[Kg (.ref a),Kg<|.ref r,Kg<|.ref nl,Kg<|.ref dl,Kg<|.ref R,Kg<|.int (C:Int),Kg<|.ref bo,Kg<|.int ((C+k:Nat):Int),Kg<|.int G,Kg<|.ref ca,Kg<|.ref wa,b5,J,a3,a2,S,X],⟨_,U,_,U,r,C+k,O,ds,W,C,U,BB.same f0,ok,∅,∅,λl js B s _ el pw mem=>⟨s,l,js,el,pw,mem,U⟩⟩,?_⟩;rintro q5 Hb ⟨sb,wa,js,c5,pw,mem,rfl⟩;let a9:=f0.trans sb;let Dc:=sb _ _ o1;let a6:∀f∈js,f<C:=λf hf=>((mem f).mp hf).lt
 let t4:js.length<=C:=xP pw a6;refine⟨λI B=>ao Hb B/\∃(fd:Ak)(M:La (Key×V)),Hb fd=Kh/\B fd=Kg (.dK M)/\FkI M 1/\I=[Kg (.ref a),Kg<|.ref r,Kg<|.ref nl,Kg<|.ref dl,Kg<|.ref R,Kg<|.int (C:Int),Kg<|.ref bo,Kg<|.int ((C+k:Nat):Int),Kg<|.int G,Kg<|.ref ca,Kg<|.ref wa,Kg<|.ref fd,J,a3,a2,S,X],λp hp=>⟨ae,[(Sum.inr s!"zzz",.str s!"A b")],U,by show 1<=15;decide,(ag hp _).upd hp,p,_,hp,ae,⟨tj _,λq hq=>by rw[gu.mp hq];exact⟨U,bW U⟩⟩,U⟩,?_⟩;rintro q4 Hc ⟨sc,fd,m0,c0,FZ,l1,rfl⟩;refine⟨λI B=>ao Hb B/\∃M:La (Key×V),B fd=Kg (.dK M)/\FkI M 10/\(∀(f:Nat)(z:Str),f<C->O[f]?=Kg z->(bx M<|Sum.inr z).isSome=Ki)/\∃J:Option V,I=[Kg (.ref a),Kg<|.ref r,Kg<|.ref nl,Kg<|.ref dl,Kg<|.ref R,Kg<|.int (C:Int),Kg<|.ref bo,Kg<|.int ((C+k:Nat):Int),Kg<|.int G,Kg<|.ref ca,Kg<|.ref wa,Kg<|.ref fd,J,a3,a2,S,X],?_,?_⟩
 .refine⟨_,U,_,U,∅,∅,cP (λj σ B=>ao Hb B/\∃M:La (Key×V),B fd=Kg (.dK M)/\FkI M (1+j)/\(∀(f:Nat)(z:Str),f<j->O[f]?=Kg z->(bx M<|Sum.inr z).isSome=Ki)/\∃J:Option V,σ=[Kg (.ref a),Kg<|.ref r,Kg<|.ref nl,Kg<|.ref dl,Kg<|.ref R,Kg<|.int (C:Int),Kg<|.ref bo,Kg<|.int ((C+k:Nat):Int),Kg<|.int G,Kg<|.ref ca,Kg<|.ref wa,Kg<|.ref fd,J,a3,a2,S,X]) ⟨sc,m0,FZ,l1,(λf z hf=>∅),_,U⟩ (λj σ B hj h=>?_)<|λσ B h=>?_⟩
  .let(sn,M,a0,hI,a5,ye,rfl):=h;rw[w4]at hj;rw[show(0:Int)+(j:Int)=(j:Int) by lia];let ep:=GC (l:=ds) (i:=j) ∅;generalize ds[j]=p at ep;let ez:=GC (l:=O) (i:=j) ∅;generalize O[j]=z at ez;let(da,e6,e0):=C9.2 j p ep;let a1:=a9.trans sn;let F0:=hI.len;calc⟨_,U,_,U,dl,_,_,_,U,U,SqL.of<|a1 _ _ C8,aK e6,_,U,_,_,U,U,⟨⋯,⋯⟩,da,p,_,U,e0.same a1,ok.doms p<|GG ep,λv H5 s5 _ _ d5=>?_⟩;refine⟨_,U,_,U,_,U,nl,_,_,_,U,U,SqL.of<|(a1.trans s5) _ _ rA,aK<|cA ez,fd,M,z,U,U,s5 _ _ a0,vU (show M.length<=100 by lia) ⋯,(sn.trans s5).upd c0,_,ae,(hI.put d5).mono ∅,λf z' hf Z=>?_,_,U⟩;rw[fj];split
   .rfl
   .rename_i f5
    calc a5 f z' ?_ Z;rcases wh f j with h|h
    .exact h
    .let:f=j:=∅
     subst this;rw[ez]at Z;exact Kp (by rw[Option.some.inj Z]) f5
  .let(sn,M,a0,hI,a5,ye,rfl):=h;rw[w4]at hI a5;exact⟨sn,M,a0,hI.mono ∅,a5,_,U⟩
 rintro q3 Hd ⟨sd,l4,Dd,g1,De,J,rfl⟩;refine⟨λI B=>ao Hb B/\∃M:La (Key×V),B fd=Kg (.dK M)/\FkI M 10/\∃J:Option V,I=[Kg (.ref a),Kg<|.ref r,Kg<|.ref nl,Kg<|.ref dl,Kg<|.ref R,Kg<|.int (C:Int),Kg<|.ref bo,Kg<|.int ((C+k:Nat):Int),Kg<|.int G,Kg<|.ref ca,Kg<|.ref wa,Kg<|.ref fd,J,a3,a2,S,X],?_,?_⟩
 .refine⟨_,U,_,U,∅,∅,cP (λj σ B=>ao Hb B/\∃M:La (Key×V),B fd=Kg (.dK M)/\FkI M 10/\(∀(f:Nat)(z:Str),j<=f->f<C->O[f]?=Kg z->(bx M<|Sum.inr z).isSome=Ki)/\∃J:Option V,σ=[Kg (.ref a),Kg<|.ref r,Kg<|.ref nl,Kg<|.ref dl,Kg<|.ref R,Kg<|.int (C:Int),Kg<|.ref bo,Kg<|.int ((C+k:Nat):Int),Kg<|.int G,Kg<|.ref ca,Kg<|.ref wa,Kg<|.ref fd,J,a3,a2,S,X]) ⟨sd,l4,Dd,g1,(λf z _ hf=>De f z hf),_,U⟩ (λj σ B hj h=>?_)<|λσ B h=>?_⟩
  .let(sn,M,a0,hI,a5,ye,rfl):=h;rw[w4]at hj;rw[show(0:Int)+(j:Int)=(j:Int) by lia];let ez:=GC (l:=O) (i:=j) ∅;generalize O[j]=z at ez;let(v1,i8):=yM.mp<|a5 j z (tj _) hj ez;let d1:ao Hb B/\∃M:La (Key×V),B fd=Kg (.dK M)/\FkI M 10/\(∀(f:Nat)(z:Str),j+1<=f->f<C->O[f]?=Kg z->(bx M<|Sum.inr z).isSome=Ki):=⟨sn,M,a0,hI,λf z hf=>a5 f z ∅⟩;let a1:=a9.trans sn;refine⟨_,U,_,_,U,U,⟨⋯,⋯⟩,_,_,U,U,(by show(0:Int)<2;decide),U,_,U,cQ (λ_=>?_)<|λ_=>bR ?_⟩
   .refine⟨_,U,_,U,wa,_,U,.inl<|SqL.of<|sn _ _ c5,U,za _,_,U,cQ (λ_=>?_)<|λ_=>?_⟩
    .refine⟨_,U,fd,U,.inl ⟨_,.inl a0⟩,_,U,_,U,nl,_,_,_,U,U,SqL.of<|a1 _ _ rA,aK<|cA ez,M,Sum.inr z,v1,a0,U,i8,sn.upd c0,_,ae,hI.drop,λf z' h1 h2 Z=>?_,_,U⟩;rw[i3,Kn]
     .exact a5 f z' ∅ h2 Z
     .intro q_;let q_:z'=z:=by injection q_
      subst q_;let:=cH ok.nd Z ez;lia
    .let(h1,M,h2,h3,h4):=d1;exact⟨h1,M,h2,h3,h4,_,U⟩
   .let(h1,M,h2,h3,h4):=d1;exact⟨h1,M,h2,h3,h4,_,U⟩
  .let(sn,M,a0,hI,a5,ye,rfl):=h;exact⟨sn,M,a0,hI,_,U⟩
 clear De g1 Dd J;rintro p7 He ⟨se,l3,Df,g0,J,rfl⟩;refine⟨λI B=>ao Hb B/\∃M:La (Key×V),B fd=Kg (.dK M)/\FkI M 50/\(∀f∈js,∀z p,O[f]?=Kg z->ds[f]?=Kg p->bx M (Sum.inr z)=Kg (wvP p<|cd.getD f 0))/\∃J:Option V,I=[Kg (.ref a),Kg<|.ref r,Kg<|.ref nl,Kg<|.ref dl,Kg<|.ref R,Kg<|.int (C:Int),Kg<|.ref bo,Kg<|.int ((C+k:Nat):Int),Kg<|.int G,Kg<|.ref ca,Kg<|.ref wa,Kg<|.ref fd,J,a3,a2,S,X],?_,?_⟩
 .refine⟨_,U,wa,_,U,SqL.of<|se _ _ c5,yF (xs:=vN js) (λi σ B=>ao Hb B/\∃M:La (Key×V),B fd=Kg (.dK M)/\FkI M (10+i)/\(∀(m f:Nat)(z:Str)(p:PD),js.length<=m+i->js[m]?=Kg f->O[f]?=Kg z->ds[f]?=Kg p->bx M (Sum.inr z)=Kg (wvP p<|cd.getD f 0))/\∃J:Option V,σ=[Kg (.ref a),Kg<|.ref r,Kg<|.ref nl,Kg<|.ref dl,Kg<|.ref R,Kg<|.int (C:Int),Kg<|.ref bo,Kg<|.int ((C+k:Nat):Int),Kg<|.int G,Kg<|.ref ca,Kg<|.ref wa,Kg<|.ref fd,J,a3,a2,S,X]) ⟨se,l3,Df,g0,(λm f z p h1 h2=>by have:=(GD.mp h2).1;lia),_,U⟩ (λi σ B _ h=>SqL.of<|h.1 _ _ c5) (λi y σ B hi ey h=>?_) (λσ B h=>?_)⟩
  .let(sn,M,a0,hI,hF,ye,rfl):=h;let(f,rfl,ef):=oM ey;rw[cC]at hi ef;let hf:=a6 f<|GG ef;let ep:=GC (l:=ds) (i:=f) ∅;generalize ds[f]=p at ep;let ez:=GC (l:=O) (i:=f) ∅;generalize O[f]=z at ez;let ec:=GC (l:=cd) (i:=f) ∅;let f7:cd.getD f 0=cd[f]'∅:=by rw[hJ,ec];rfl
   let(da,e6,e0):=C9.2 f p ep;let a1:=a9.trans sn;let F0:=hI.len;let(b1,b2):=c2 f p hf ep;rw[f7]at b1 b2;refine⟨_,U,_,U,dl,_,_,_,U,U,SqL.of<|a1 _ _ C8,aK e6,_,U,_,U,ca,_,_,_,U,U,SqL.of<|sn _ _ Dc,aK<|get_map ec,da,p,_,U,e0.same a1,ok.doms p<|GG ep,b1,b2,_,U,_,U,_,U,nl,_,_,_,U,U,SqL.of<|a1 _ _ rA,aK<|cA ez,fd,M,z,U,U,a0,vU (show M.length<=100 by lia) ⋯,sn.upd c0,_,ae,(hI.put<|xU _ _).mono ∅,λm f' z' p' hm em Z b4=>?_,_,U⟩;rw[fj];by_cases hz:z'=z
   .subst hz;let d6:=cH ok.nd Z ez;subst d6;rw[ep]at b4;cases b4;rw[Ko U,f7]
   .rw[Kn (λq_=>hz (by injection q_))];calc hF m f' z' p' ?_ em Z b4;rcases wh (m+i) js.length with h|h
    .let:m=js.length-1-i:=∅
     rw[this,ef]at em;cases em;rw[ez]at Z;exact Kp (Option.some.inj Z).symm hz
    .exact h
  .let(sn,M,a0,hI,hF,ye,rfl):=h;rw[cC]at hI hF;calc⟨sn,M,a0,hI.mono ∅,λf hf z p ez ep=>?_,_,U⟩;let(m,em):=gT hf;exact hF m f z p ∅ em ez ep
 clear g0 Df J;rintro p6 Hf ⟨sf,M,a0,hI,hF,J,rfl⟩;let h8:=a9.trans sf;let e4:∀f∈js,∀z p,O[f]?=Kg z->ds[f]?=Kg p->bx M (Sum.inr z)=Kg (wvP p<|cd.getD f 0)/\p.lo<=cd.getD f 0/\cd.getD f 0<=p.hi:=λf hf z p ez ep=>⟨hF f hf z p ez ep,c2 f p (a6 f hf) ep⟩
 let GA:AkC O ds W C (List.range W.length) nm M cd 1:=AkC.of_spo ok hk d4 pw mem e4<|.inl ⟨U,λ_ _ _ _=>U⟩;let h0:∀(i:Nat)(z:Str),i<(nlF W O C k).length->(nlF W O C k)[i]?=Kg z->OkF O ds C M cd z:=by
  intro i z hi ez;let(n1,n2):=uE ok pw mem;let(f,ef,m1):=n2 i z ez;intro f' p u0 Z b4;let:=cH ok.nd Z m1;subst this;exact e4 f' (GG ef) z p Z b4
 calc⟨λI B=>ao Hf B/\∃ke:Ak,Hf ke=Kh/\B ke=Kg (.dK M)/\I=[Kg (.ref a),Kg<|.ref r,Kg<|.ref nl,Kg<|.ref dl,Kg<|.ref R,Kg<|.int (C:Int),Kg<|.ref bo,Kg<|.int ((C+k:Nat):Int),Kg<|.int G,Kg<|.ref ca,Kg<|.ref wa,Kg<|.ref fd,J,Kg<|.ref ke,a2,S,X],⟨_,U,fd,M,U,a0,λpd f4=>⟨ag f4 _,pd,f4,ae,U⟩⟩,?_⟩;rintro p5 Hg ⟨sg,ke,f1,n0,rfl⟩;let d3:=h8.trans sg;let Dg:=sg _ _ a0;let s0:ke≠fd:=λz=>by rw[z,a0]at f1;cases f1
 calc⟨λI B=>ao Hg B/\∃(fo:Ak)(a4:La (Str×V)),B fo=Kg (.dK<|kvT a4)/\a4.map (·.1)=nlF W O C k/\FCd O C cd a4/\I=[Kg (.ref a),Kg<|.ref r,Kg<|.ref nl,Kg<|.ref dl,Kg<|.ref R,Kg<|.int (C:Int),Kg<|.ref bo,Kg<|.int ((C+k:Nat):Int),Kg<|.int G,Kg<|.ref ca,Kg<|.ref wa,Kg<|.ref fd,J,Kg<|.ref ke,Kg<|.ref fo,S,X],⟨_,U,_,U,_,U,nl,_,_,_,U,U,SqL.of<|d3 _ _ rA,f2,_,U,bo,fd,nm,O,ds,W,C,mw,List.range W.length,k,M,cd,U,hB.same d3,bE,f3,b3,∅,Dg,.inr ⟨hk,d4,_,tj _,h0,.inl ⟨U,λd a4 B s _ ed c1 e5=>⟨s,d,a4,ed,c1,e5,U⟩⟩⟩⟩,?_⟩;rintro p4 Hh ⟨sh,fo,a4,g6,c1,e5,rfl⟩;let e9:=d3.trans sh;let e7:=(sf.trans sg).trans sh;let BC:=e7 _ _ c5;let F4:=e7 _ _ Dc;let Dh:=sh _ _ Dg;let F5:=sh _ _ n0;let(n1,n2):=uE ok pw mem;let t3:a4.length=js.length:=by
  let:=Kt List.length c1;rw[dn]at this;exact this.trans n1
 let j4:∀(j f:Nat)(kv:Str×V),js[j]?=Kg f->a4[j]?=Kg kv->O[f]?=Kg kv.1/\kv.2=.int (cd.getD f 0):=λj f kv ej ek=>by
  let e1:(nlF W O C k)[j]?=Kg kv.1:=by rw[←c1,dy,ek];rfl
  let(f',g7,Z):=n2 j kv.1 e1;rw[ej]at g7;cases g7;let(g,hg,m2,hv):=e5 kv<|GG ek;let:=cH ok.nd m2 Z;subst this;exact⟨Z,hv⟩
 refine⟨λI B=>ao Hh B/\I=[Kg (.ref a),Kg<|.ref r,Kg<|.ref nl,Kg<|.ref dl,Kg<|.ref R,Kg<|.int (C:Int),Kg<|.ref bo,Kg<|.int ((C+k:Nat):Int),Kg<|.int G,Kg<|.ref ca,Kg<|.ref wa,Kg<|.ref fd,J,Kg<|.ref ke,Kg<|.ref fo,S,X],?_,?_⟩
 .refine⟨_,U,.inl ⟨_,_,_,_,Ki,U,.ty _,.inl<|.dK g6,(by first|rfl|with_unfolding_all rfl|decide+kernel),_,U,bR ?_⟩⟩;calc⟨_,U,fo,_,U,g6,λD2 r9 H8 j3 s8 s2 o2 k9=>?_⟩;let b6:=e9.trans s8;refine⟨_,U,wa,U,⟨_,SqL.of<|s8 _ _ BC⟩,bj (xs:=vN js) (λD m ys H9=>ao H8 H9/\H9 D=Kg (.lst ys)/\ay ys (js.take m) (λt f=>∃z:Str,O[f]?=Kg z/\H9 t=Kg (.tup [.str z,.int (cd.getD f 0)]))) (λD hD=>⟨ag hD _,ae,ay.nil⟩) (λD m ys H9 hD _ h=>SqL.of<|h.1 _ _<|s8 _ _ BC) (λD m y ys H9 hD e h=>?_)<|λD ys H9 hD h=>?_⟩
  .let(so,eD,hy):=h;let(f,rfl,ef):=oM e;let hm:m<(vN js).length:=(GD.mp e).1;let t0:m<js.length:=(GD.mp ef).1;let d6:=a6 f<|GG ef;let g3:=GC (l:=cd) (i:=f) ∅;let j6:cd.getD f 0=cd[f]'∅:=by rw[hJ,g3];rfl
   let ez:=GC (l:=O) (i:=f) ∅;generalize O[f]=z at ez;refine⟨_,U,_,U,nl,_,_,_,U,U,SqL.of<|(b6.trans so) _ _ rA,aK<|cA ez,_,U,_,U,ca,_,_,_,U,U,SqL.of<|(s8.trans so) _ _ F4,aK<|get_map g3,(by show 2<=AA;decide),λt ht=>?_⟩;rw[←j6];let st:=ag ht<|.tup [V.str z,V.int (cd.getD f 0)];let et:upd H9 t (.tup [V.str z,V.int (cd.getD f 0)]) t=Kg (.tup [V.str z,V.int (cd.getD f 0)]):=ae;generalize upd H9 t (.tup [V.str z,V.int (cd.getD f 0)])=Hq at st et⊢;let g8:=st _ _ eD;refine b7.mk hm g8 (aD (by rw[hy.1,eV];lia)) ⟨(so.trans st).upd hD,ae,?_⟩;rw[take_snoc ef];refine ay.snoc (ay.mono hy λt' f' ⟨z',q1,q2⟩=>⟨z',q1,(aq<|λw_=>?_).trans<|st _ _ q2⟩) ⟨z,ez,(aq<|λw_=>?_).trans et⟩
   .rw[w_,eD]at q2;cases q2
   .rw[w_,g8]at et;cases et
  .let(so,eD,hy):=h;rw[cC,fD]at hy;let s7:=hy.1;refine vG (SqL.of<|so _ _ o2) (SqL.of eD) (by rw[dn,j3,zc];lia) (λj x y ex ey=>?_) ⟨_,U,bR ⟨s8.trans so,U⟩⟩;let t5:=(GD.mp ey).1;let ek:=GC (l:=a4) (i:=j) ∅;let ej:=GC (l:=js) (i:=j) ∅;generalize a4[j]=kv at ek;generalize js[j]=f at ej;let(k1,k2):=j4 j f kv ej ek;let(t,et,z,q1,q2):=hy.2 j f ej;rw[ey]at et;cases et;let(T,eT,_,hT):=k9 j (Sum.inr kv.1,kv.2) (by unfold kvT;rw[dy,ek];rfl);rw[dy,eT]at ex;cases ex;rw[k1]at q1;cases q1;let hT:H8 T=Kg (.tup [.str kv.1,.int (cd.getD f 0)]):=by rw[hT,←k2];rfl
   exact Bp (so _ _ hT) q2
 rintro p3 Hi ⟨si,rfl⟩;let b6:=e9.trans si;calc⟨λI B=>B=Hi/\I=[Kg (.ref a),Kg<|.ref r,Kg<|.ref nl,Kg<|.ref dl,Kg<|.ref R,Kg<|.int (C:Int),Kg<|.ref bo,Kg<|.int ((C+k:Nat):Int),Kg<|.int G,Kg<|.ref ca,Kg<|.ref wa,Kg<|.ref fd,J,Kg<|.ref ke,Kg<|.ref fo,S,X],⟨_,U,_,U,fd,ke,M,U,U,si _ _ Dh,si _ _ F5,hI.self,_,U,bR ⟨U,U⟩⟩,?_⟩;rintro p2 Hj ⟨e_,rfl⟩;subst e_;let Di:=si _ _ Dh;refine⟨λI B=>ao Hj B/\∃S:Option V,I=[Kg (.ref a),Kg<|.ref r,Kg<|.ref nl,Kg<|.ref dl,Kg<|.ref R,Kg<|.int (C:Int),Kg<|.ref bo,Kg<|.int ((C+k:Nat):Int),Kg<|.int G,Kg<|.ref ca,Kg<|.ref wa,Kg<|.ref fd,J,Kg<|.ref ke,Kg<|.ref fo,S,X],?_,?_⟩
 .refine⟨_,U,⋯,⋯,cP (λd σ B=>ao Hj B/\∃S:Option V,σ=[Kg (.ref a),Kg<|.ref r,Kg<|.ref nl,Kg<|.ref dl,Kg<|.ref R,Kg<|.int (C:Int),Kg<|.ref bo,Kg<|.int ((C+k:Nat):Int),Kg<|.int G,Kg<|.ref ca,Kg<|.ref wa,Kg<|.ref fd,J,Kg<|.ref ke,Kg<|.ref fo,S,X]) ⟨ao.refl _,_,U⟩ (λd σ B hd h=>?_)<|λσ B h=>h⟩;let(sn,Dj,rfl):=h;let a1:=b6.trans sn;let hd:d<4:=hd;refine⟨_,U,_,U,_,U,nl,_,_,_,U,U,SqL.of<|a1 _ _ rA,aK (j:=0)<|cA c4,_,U,_,bo,fd,nm0,O,ds,W,C,mw,List.range W.length,M,cd,0,U,hB.same a1,bE,FY,b3,sn _ _ Di,.no i1,∅,λl H9 s9 el=>⟨(by show 4<=AA;decide),λp hp=>?_⟩⟩;refine qZ (SqL.of<|(ag hp _) _ _ el) (SqL.of ae) (λx hx=>by let(b_,_,rfl):=eH.mp hx;rfl) ⟨_,U,bR ⟨(sn.trans s9).trans<|ag hp _,_,U⟩⟩
 rintro p1 Hk ⟨sk,S,rfl⟩;let d2:=b6.trans sk;let F6:=sk _ _ Di;let uI:∀f∈js,∀z,O[f]?=Kg z->(bx M<|Sum.inr z).isSome=true:=λf hf z ez=>by
  let d6:=a6 f hf;let ep:=GC (l:=ds) (i:=f) ∅;rw[hF f hf z _ ez ep];rfl
 let(f9,j8):=ze ok hk;let j5:0<js.length:=List.length_pos_of_mem<|(mem f9).mpr j8;let GB:=hI.len;calc⟨λI B=>(∀b u,b≠fd->Hk b=Kg u->B b=Kg u)/\∃(o:Nat)(a7:La (Key×V))(du:Ak),B fd=Kg (.dK a7)/\B du=Kg (.lst<|(akB o).map V.bl)/\SpO O ds C js M a7 o/\I=[Kg (.ref a),Kg<|.ref r,Kg<|.ref nl,Kg<|.ref dl,Kg<|.ref R,Kg<|.int (C:Int),Kg<|.ref bo,Kg<|.int ((C+k:Nat):Int),Kg<|.int G,Kg<|.ref ca,Kg<|.ref wa,Kg<|.ref fd,J,Kg<|.ref ke,Kg<|.ref fo,S,Kg (.ref du)],⟨_,U,_,U,_,U,_,U,_,U,_,_,U,U,a,ns,_,U,d2.seq f8,∅,λc9=>⟨r,fd,wa,c9,O,ds,W,C,js,M,U,BB.same d2,ok,F6,(si.trans sk) _ _ BC,j5,a6,∅,uI,λo a7 l B kp e1 e2 e3=>⟨kp,o,a7,l,e1,e2,e3,U⟩⟩⟩,?_⟩;rintro p0 Hl ⟨kp,o,a7,du,n3,n9,j2,rfl⟩;let F7:=AkC.of_spo (L:=List.range W.length) ok hk d4 pw mem e4 j2;let n6:∀b u,H6 b=Kg u->b≠fd:=λb u e z=>by
  let:=a9 b u e;rw[z,c0]at this;cases this
 let e8:ao H6 Hl:=λb u e=>kp b u (n6 b u e)<|d2 b u e
 refine⟨_,U,⋯,⋯,cP (λd σ B=>ao Hl B/\∃S:Option V,σ=[Kg (.ref a),Kg<|.ref r,Kg<|.ref nl,Kg<|.ref dl,Kg<|.ref R,Kg<|.int (C:Int),Kg<|.ref bo,Kg<|.int ((C+k:Nat):Int),Kg<|.int G,Kg<|.ref ca,Kg<|.ref wa,Kg<|.ref fd,J,Kg<|.ref ke,Kg<|.ref fo,S,Kg (.ref du)]) ⟨ao.refl _,_,U⟩ (λd σ B hd h=>?_)<|λσ B h=>?_⟩
 .let(sn,Dj,rfl):=h;let a1:=e8.trans sn;let hd:d<3:=hd;calc⟨_,U,_,U,_,U,_,U,nl,_,_,_,U,U,SqL.of<|a1 _ _ rA,f2,_,U,_,bo,fd,nm,O,ds,W,C,mw,List.range W.length,a7,cd,o,U,hB.same a1,bE,f3,b3,sn _ _ n3,F7,∅,λl H9 s9 el=>?_⟩;refine⟨_,U,qZ (SqL.of el) (SqL.of<|s9 _ _<|sn _ _ n9) (λx hx=>by let(b_,_,rfl):=eH.mp hx;rfl) ⟨_,U,bR ⟨sn.trans s9,_,U⟩⟩⟩
 .let(sn,Dj,rfl):=h;calc⟨e8.trans sn,_,_,_,_,_,_,_,_,_,_,U⟩
end
structure FF(K:W.Frag)(Y:AD):Prop where
 (h0:GF K "all_among" "all_among" Y39)
 (h1:GF K "is_word" "is_word" Y47)
 (h2:GF K "is_whole" "is_whole" Y46)
 (h3:GF K "alike" "alike" Y38)
 (h4:GF K "refuse_counts_books" "refuse_counts" Y75)
 (h5:GF K "refuse_names_books" "refuse_names" Y78)
 (h6:GF K "refuse_domains" "refuse_domains" Y77)
 (h7:GF K "refuse_rings" "refuse_rings" Y80)
 (h8:GF K "named_among" "named_among" Y70)
 (h9:GF K "table_of" "table_of" Y84)
 (h10:GF K "asks" "asks" Y42)
 (h11:GF K "order_of" "order_of" Y72)
 (h12:GF K "put_behind" "put_behind" Y74)
 (h13:GF K "tables_for" "tables_for" Y85)
 (h14:GF K "needs" "needs" Y71)
 (h15:GF K "holds" "holds" Y45)
 (h16:GF K "way_by" "way_by" Y87)
 (h17:GF K "refuse_names_tables" "refuse_names" Y79)
 (h18:GF K "refuse_counts_tables" "refuse_counts" Y76)
 (h19:GF K "refuse_way" "refuse_way" Y82)
 (h20:GF K "refuse_row" "refuse_row" Y81)
 (h21:GF K "own_row" "own_row" Y73)
 (h22:GF K "fits" "fits" Y44)
 (h23:GF K "mask" "mask" Y69)
 (h24:GF K "judged" "judged" Y48)
 (h25:GF K "fact_codes" "fact_codes" Y43)
 (h26:GF K "trail" "trail" Y86)
 (h27:GF K "ask" "ask" Y40)
 (h28:GF K "ask_codes" "ask_codes" Y41)
 (h29:GF K "last_verdict" "last_verdict" Y50)
 (h30:GF K "steps" "steps" Y83)
 (h31:GF K "judged_step" "judged_step" Y49)
 (h32:GF K "_law_at" "_law_at" Y52)
 (h33:GF K "_law_words" "_law_words" Y67)
 (h34:GF K "_law_domain" "_law_domain" Y54)
 (h35:GF K "_law_pool" "_law_pool" Y60)
 (h36:GF K "_law_spans" "_law_spans" Y63)
 (h37:GF K "_law_row" "_law_row" Y62)
 (h38:GF K "_law_numbers" "_law_numbers" Y58)
 (h39:GF K "_law_book" "_law_book" Y53)
 (h40:GF K "_law_made" "_law_made" Y56)
 (h41:GF K "_law_table" "_law_table" Y66)
 (h42:GF K "_law_facts" "_law_facts" Y55)
 (h43:GF K "_law_needs" "_law_needs" Y57)
 (h44:GF K "_law_point" "_law_point" Y59)
 (h45:GF K "_law_worth" "_law_worth" Y68)
 (h46:GF K "_law_strange" "_law_strange" Y65)
 (h47:GF K "_law_refused" "_law_refused" Y61)
 (h48:GF K "_law_spoilt" "_law_spoilt" Y64)
 (h87:GF K "law" "law" Y51)
 (m54:MF K Y.m "code" "Domain.code" Y3)
 (m55:MF K Y.m "borne_code" "Numbers.borne_code" Y17)
 (m56:MF K Y.m "bears" "Numbers.bears" Y16)
 (m57:MF K Y.m "has_code" "Domain.has_code" Y5)
 (m58:MF K Y.n "code" "Domain.code" Y4)
 (m59:MF K Y.n "borne_code" "Words.borne_code" Y37)
 (m60:MF K Y.n "bears" "Words.bears" Y36)
 (m74:MF K Y.n "has_code" "Domain.has_code" Y6)
 (m75:MF K Y.f "verdict" "Way.verdict" Y29)
 (m76:MF K Y.f "chosen" "First.chosen" Y8)
 (m77:MF K Y.g "verdict" "Way.verdict" Y33)
 (m78:MF K Y.g "chosen" "Only.chosen" Y19)
 (m79:MF K Y.h "verdict" "Way.verdict" Y31)
 (m80:MF K Y.h "chosen" "Like.chosen" Y12)
 (m81:MF K Y.i "verdict" "Way.verdict" Y32)
 (m82:MF K Y.i "chosen" "Low.chosen" Y14)
 (m83:MF K Y.j "verdict" "Way.verdict" Y30)
 (m84:MF K Y.j "chosen" "High.chosen" Y10)
 (m85:MF K Y.k "verdict" "Way.verdict" Y34)
 (m86:MF K Y.k "chosen" "Sum.chosen" Y21)
 (k49:KF K Y.p "Book" "Book.__init__" Y0)
 (k50:KF K Y.m "Numbers" "Numbers.__init__" Y15)
 (k52:KF K Y.n "Words" "Words.__init__" Y35)
 (k61:KF K Y.o "Table" "Table.__init__" Y22)
 (k62:KF K Y.f "First" "First.__init__" Y7)
 (k64:KF K Y.g "Only" "Only.__init__" Y18)
 (k66:KF K Y.h "Like" "Like.__init__" Y11)
 (k68:KF K Y.i "Low" "Low.__init__" Y13)
 (k70:KF K Y.j "High" "High.__init__" Y9)
 (k72:KF K Y.k "Sum" "Sum.__init__" Y20)
 (b51:BF K Y.l "Domain" "__init__" "Domain.__init__" Y1)
 (b53:BF K Y.l "Domain" "__init__" "Domain.__init__" Y2)
 (b63:BF K Y.e "Way" "__init__" "Way.__init__" Y23)
 (b65:BF K Y.e "Way" "__init__" "Way.__init__" Y27)
 (b67:BF K Y.e "Way" "__init__" "Way.__init__" Y25)
 (b69:BF K Y.e "Way" "__init__" "Way.__init__" Y26)
 (b71:BF K Y.e "Way" "__init__" "Way.__init__" Y24)
 (b73:BF K Y.e "Way" "__init__" "Way.__init__" Y28)
 (z0:W.nsIn K B7 "len" = Kg Kh)
 (z1:W.nsIn K B7 "isinstance" = Kg Kh)
 (z2:W.nsIn K B7 "int" = Kg Kh)
 (z3:W.nsIn K B7 "bool" = Kg Kh)
 (z4:W.nsIn K B7 "set" = Kg Kh)
 (z5:W.nsIn K B7 "dict" = Kg Kh)
 (z6:W.nsIn K B7 "zip" = Kg Kh)
 (z7:W.nsIn K B7 "list" = Kg Kh)
 (z8:W.nsIn K B7 "sum" = Kg Kh)
 (z9:W.nsIn K B7 "range" = Kg Kh)
 (z10:W.nsIn K B7 "enumerate" = Kg Kh)
 (z11:W.nsIn K B7 "min" = Kg Kh)
 (z12:W.nsIn K B7 "max" = Kg Kh)
 (z13:W.nsIn K B7 "sorted" = Kg Kh)
 (z14:W.nsIn K B7 "ValueError" = Kg Kh)
 (z15:W.nsIn K B7 "reversed" = Kg Kh)
 (y0:∃u,W.nsIn K B7 "MOST_SIGNS" = Kg (Kg u)/\RelV (V.int 12) u)
 (y1:∃u,W.nsIn K B7 "SMALL_LETTERS" = Kg (Kg u)/\RelV (V.str "abcdefghijklmnopqrstuvwxyz") u)
 (y2:∃u,W.nsIn K B7 "MOST_FACTS" = Kg (Kg u)/\RelV (V.int 20) u)
 (y3:∃u,W.nsIn K B7 "MOST_TABLES" = Kg (Kg u)/\RelV (V.int 30) u)
 (y4:∃u,W.nsIn K B7 "MOST_ROWS" = Kg (Kg u)/\RelV (V.int 200) u)
 (y5:∃u,W.nsIn K B7 "MOST_COLUMNS" = Kg (Kg u)/\RelV (V.int 4) u)
 (y6:∃u,W.nsIn K B7 "MOST_WORDS" = Kg (Kg u)/\RelV (V.int 40) u)
local macro_rules|`(tactic|trivial)=>`(tactic|exact λF=>F.binds λ_ _ _ _ _ _=>by first|exact L2.lb0 rfl|exact L2.lb1 λ_=>U|exact L2.lb2 λ_ _=>U|exact L2.lb3 λ_ _ _=>U|exact L2.lb4 λ_ _ _ _=>U|exact L2.lb5 λ_ _ _ _ _=>U|exact L2.lb6 λ_ _ _ _ _ _=>U|exact L2.lb7 λ_ _ _ _ _ _ _=>U|exact L2.lb8 λ_ _ _ _ _ _ _ _=>U|exact L2.lb9 λ_ _ _ _ _ _ _ _ _=>U)
theorem all_mk{l:W.OpenLaw}{w:zJ}{K:W.Frag}{h:Az}{f:Str->Option zz}{I:Ak}{Y:AD}(X:K.In h)(G:h.Ns B7 f)(m:f "law" = Kg (.ref I)) (b:Bk K Y)(u:FF K Y)
  : ∃g:Hv,(∀(s:Cg)(v:zz),Hw s g ⟨[v],[]⟩ [("script",v)])/\∀d:Az,K.In d->d.Ns B7 f->aN l.prog w K f d CX0 23 I g ["script"] (J18 K):=by
 cases u.h87 with | @mk _ g a F =>
 cases m.symm.trans (W.mg_of X G a);let bl:Bl K f Y:=⟨b,W.mg_of X G b.n_TableError,W.mg_of X G b.n_NoTable,W.mg_of X G b.n_NoFact,W.mg_of X G b.n_Outside,W.mg_of X G b.n_Way,W.mg_of X G b.n_First,W.mg_of X G b.n_Only,W.mg_of X G b.n_Like,W.mg_of X G b.n_Low,W.mg_of X G b.n_High,W.mg_of X G b.n_Sum,W.mg_of X G b.n_Domain,W.mg_of X G b.n_Numbers,W.mg_of X G b.n_Words,W.mg_of X G b.n_Table,W.mg_of X G b.n_Book,W.mg_of X G b.n_NONE,W.mg_of X G b.n_CLASH,W.mg_none_of X G u.z0,W.mg_none_of X G u.z1,W.mg_none_of X G u.z2,W.mg_none_of X G u.z3,W.mg_none_of X G u.z4,W.mg_none_of X G u.z5,W.mg_none_of X G u.z6,W.mg_none_of X G u.z7,W.mg_none_of X G u.z8,W.mg_none_of X G u.z9,W.mg_none_of X G u.z10,W.mg_none_of X G u.z11,W.mg_none_of X G u.z12,W.mg_none_of X G u.z13,W.mg_none_of X G u.z14,W.mg_none_of X G u.z15,(let ⟨_,y,x⟩:=u.y0;⟨_,W.mg_of X G y,x⟩),(let ⟨_,y,x⟩:=u.y1;⟨_,W.mg_of X G y,x⟩),(let ⟨_,y,x⟩:=u.y2;⟨_,W.mg_of X G y,x⟩),(let ⟨_,y,x⟩:=u.y3;⟨_,W.mg_of X G y,x⟩),(let ⟨_,y,x⟩:=u.y4;⟨_,W.mg_of X G y,x⟩),(let ⟨_,y,x⟩:=u.y5;⟨_,W.mg_of X G y,x⟩),(let ⟨_,y,x⟩:=u.y6;⟨_,W.mg_of X G y,x⟩)⟩;refine⟨g,λs v=>by let(_,_,_,_,_,_,_,_,_,e,_,_):=F.ex;rw[e];exact .of_eq U,λd _ _=>?_⟩;let z:Zb l.prog w K f d:=⟨X,G⟩;let rB:=mkC z u.h0 λF=>D9 F bl
 let C:=mkC z u.h2 λF=>Ea F bl
 let M:=mkC z u.h3 λF=>Eb F bl
 let ij:=mkC z u.h4 λF=>Ec F bl
 let H:=mkC z u.h8 λF=>Ed F bl
 let B:=mkX z u.h9 λF=>Ef F bl
 let L:=mkC z u.h15 λF=>Eg F bl
 let gU:=mkC z u.h18 λF=>Eh F bl
 let P:=mkC z u.h21 λF=>Ei F bl
 let t:=mkC z u.h32 λF=>Ej F bl
 let D:=mkC z u.h33 λF=>Ek F bl
 let S:=mkC z u.h35 λF=>El F bl
 let rD:=mkC z u.h36 λF=>Em F bl
 let nQ:=mkC z u.h38 λF=>En F bl
 let rE:=mkC z u.h44 λF=>Eo F bl
 let rF:=mkC z u.h45 λF=>Er F bl
 let E:=mkC z u.h46 λF=>Es F bl
 let fE:=mkB z u.b51 λF=>O_1 F bl
 let gx:=mkB z u.b53 λF=>O_2 F bl
 let eW:=mkM z u.m55 λF=>Et F bl
 let gb:=mkM z u.m59 λF=>Eu F bl
 let jg:=mkM z u.m60 λF=>Ew F bl
 let iN:=mkB z u.b63 λF=>Ex F bl
 let jh:=mkB z u.b65 λF=>Ey F bl
 let ji:=mkB z u.b67 λF=>Ez F bl
 let jY:=mkB z u.b69 λF=>EA F bl
 let jk:=mkB z u.b71 λF=>EB F bl
 let jZ:=mkB z u.b73 λF=>EC F bl
 let iO:=mkM z u.m76 λF=>O_8 F bl
 let j3:=mkM z u.m78 λF=>ED F bl
 let j4:=mkM z u.m80 λF=>EE F bl
 let lC:=mkM z u.m82 λF=>EF F bl
 let j5:=mkM z u.m84 λF=>EG F bl
 let lD:=mkM z u.m86 λF=>EH F bl
 let i:=mkC z u.h1 λF=>EI F bl rB.up
 let lF:=mkC z u.h6 λF=>EJ F bl M.up
 let nq:=mkC z u.h7 λF=>EL F bl H.up
 let BD:=mkX z u.h10 λF=>EM F bl H.up B.up
 let BE:=mkC z u.h22 λF=>EN F bl L.up
 let qe:=mkC z u.h34 λF=>EO F bl D.up
 let O:=mkC z u.h37 λF=>ER F bl rD.up
 let qf:=mkC z u.h48 λF=>ES F bl E.up
 let fC:=mkK z u.k50 λF=>EV F bl fE.up
 let J:=mkM z u.m57 λF=>O_5 F bl C.up
 let jl:=mkM z u.m58 λF=>O_4 F bl gb.up jg.up
 let gW:=mkK z u.k62 λF=>O_7 F bl iN.up
 let iP:=mkK z u.k64 λF=>EW F bl jh.up
 let iQ:=mkK z u.k66 λF=>EY F bl ji.up
 let j6:=mkK z u.k68 λF=>EZ F bl jY.up
 let iR:=mkK z u.k70 λF=>O_9 F bl jk.up
 let kb:=mkK z u.k72 λF=>E3 F bl jZ.up
 let gy:=mkM z u.m74 λF=>O_6 F bl C.up
 let jm:=mkM z u.m75 λF=>E4 F bl iO.up
 let kc:=mkM z u.m77 λF=>E5 F bl j3.up
 let kf:=mkM z u.m79 λF=>E6 F bl j4.up
 let kI:=mkM z u.m81 λF=>E7 F bl lC.up
 let kg:=mkM z u.m83 λF=>E8 F bl j5.up
 let kJ:=mkM z u.m85 λF=>E9 F bl lD.up
 let iS:=mkC z u.h5 λF=>Fb F bl i.up
 let il:=mkC z u.h17 λF=>Fd F bl i.up
 let qg:=mkC z u.h20 λF=>Fe F bl J.up gy.up
 let BG:=mkC z u.h23 λF=>Ff F bl BE.up
 let R:=mkC z u.h39 λF=>Fg F bl nQ.up qe.up S.up t.up D.up O.up
 let gX:=mkK z u.k52 λF=>Fh F bl gx.up i.up
 let gA:=mkM z u.m56 λF=>Fi F bl J.up
 let r:=mkC z u.h16 λF=>Fj F bl gW.up iP.up iQ.up j6.up iR.up kb.up
 let iT:=mkK z u.k49 λF=>O_0 F bl ij.up iS.up lF.up nq.up
 let ip:=mkM z u.m54 λF=>O_3 F bl eW.up gA.up
 let qh:=mkC z u.h19 λF=>Fl F bl r.up
 let N:=mkC z u.h24 λF=>Fm F bl jm.up kc.up kf.up kI.up kg.up kJ.up r.up
 let A:=mkC z u.h40 λF=>Fn F bl fC.up gX.up
 let nR:=mkC z u.h31 λF=>Fo F bl BG.up N.up
 let rH:=mkC z u.h42 λF=>Fq F bl A.up
 let gY:=mkK z u.k61 λF=>Fs F bl il.up gU.up qh.up qg.up P.up
 let q:=mkC z u.h30 λF=>Ft F bl nR.up
 let nt:=mkC z u.h29 λF=>FD F bl q.up
 let Z:=mkC z u.h41 λF=>FG F bl gY.up A.up
 let V:=mkR z u.h43 0 8 pV λn F c=>FK F bl c
 let qi:=DR z u.h12 2 13 nM λn F c=>FL F bl (BD.mono ∅) c
 let Q:=mkX z u.h11 λF=>FO F bl qi.up
 let k:=mkX z u.h13 λF=>FP F bl B.up Q.up
 let p:=mkX z u.h14 λF=>FQ F bl k.up
 let j:=mkX z u.h25 λF=>FR F bl p.up ip.up jl.up
 let T:=mkX z u.h28 λF=>FT F bl nt.up k.up p.up
 let o:=mkX z u.h26 λF=>FU F bl j.up q.up k.up
 let Dl:=mkX z u.h27 λF=>FV F bl o.up
 let nS:=mkC z u.h47 λF=>FW F bl j.up Dl.up o.up T.up
 calc FX F bl R.up iT.up rH.up t.up rE.up V.up j.up qf.up Z.up E.up rF.up nS.up
theorem walk{l:W.OpenLaw}{q:zM}{c:La Str}{XP:(Str->Option zz)->Az->Prop}{m:zJ->Az->Prop}{d:DefRec}{K:HM->W.Frag}(p:l.most=Kg 63)(g:d.params.defaults=[])
  (t:∀(w:zJ)(h:Az),m w h->(K w.params).In h)
  (F:∀(w:zJ)(e:Str->Option zz)(j:Ak)(h:Az),(K w.params).In h->h.Ns B7 e->e d.name=Kg (.ref j) ->
   ∃i:Hv,(∀(s:Cg)(u:zz),Hw s i ⟨[u],[]⟩ [("script",u)])/\∀b:Az,(K w.params).In b->b.Ns B7 e->aN l.prog w (K w.params) e b CX0 23 j i ["script"] (J18<|K w.params)) :
  W.WalkO q c XP m l.row.toRowW d [] (λf vs=>PySem.call f vs) :=
 L2.walk_of (n:=63) (k:=23) (x := "script") (CX:=λ_=>CX0) (sp:=λw=>J18<|K w.params) p ⋯ g ⟨U,⋯,⋯⟩ t F (λ_ _ a o r _ v=>⟨a,o,U,v,r,λ_=>U⟩) λ_ _ _ _ _ z=>z
end My
set_option genSizeOf false in
set_option genInjectivity false in
structure PySem.W.Fast:Prop where (tw10679168605219756321 tw14576405017758759088 tw1958582820269784085 tw119583577803955538 tw18426854267048039984 tw8667036281732287878 tw12584243376768520286 tw11883140520985343094 tw2731942233905627450 tw7963071065589228399 tw10781807222785253703 tw7777688775867814977 tw16335370906829849666 tw7899120747821903415 tw13236456371908620612 tw15249060768082457274 tw12142346797289181146 tw9475563834513382499 tw14143942261048962767 tw4970997237675592832 tw7865255178728894384 tw2041334702513334515 tw14066184620516823774 tw8257950837143386141 tw15353102319423464022 tw1600489406507279560 tw10900024198918764638 tw16705650812998725243 tw17676377339912946616 tw13935750398102170662 tw5482820270897684606 tw5547869611238153638 tw10147661344936602470 tw6033010863868378036 tw6378068468884370518 tw4417079642822136760 tw2796706705662075927 tw4816389563692644099 tw2769183301252226669 tw16944403819792995791 tw15299170194372144245 tw6344056401643751770 tw894855362946814731 tw2287810929131625378 tw13490557228298225028 tw15519922326846091677 tw3531027748637546989 tw14772666665721327920 tw5668894829039654902 tw3218046245361413436 tw12561500682111369754 tw10841207509884614898 tw9499722247529152235 tw6736562285141570680 tw14117116289543783675 tw1592671779963289313 tw10193119367828029191 tw13397457615538867966 tw15808478359904558358 tw9915567786288235181 tw4547212267253387683 tw6443737643913156202 tw16538355956152074005 tw16278779257354150137 tw8371140498352526974 tw6677553167441529023 tw13200232842343696819 tw8320994844841454731 tw569076670288416052 tw3239532154576949385 tw11360419255301823701 tw13345973772253608018 tw5165201952500576918 tw9937727866518925786 tw7514558891404074925 tw1959217026098737386 tw1798727561056562231 tw15112089758580072946 tw2467992337889236495 tw10195537077000203021 tw14490676066823219051 tw10223543774507065969 tw10389417697504220201 tw1675018698699435144 tw9124131742741324360 tw12186417541606635504 tw1929103776214384255 tw13696098959455531511 tw18085083982460414631 tw10337751576540463927 tw13932518286464486505 tw12156906413141819398 tw3248920324886432576 tw11531168127192944145 tw391505982147002879 tw14647476087823576535 tw11719948973493543850 tw10306715922841030848 tw3967618008965344647 tw6585246920410643242 tw8824043478171005001 tw6364063399039680414 tw16895516498526140111 tw3586122919598359481 tw9242664267536770203 tw9361319281703289179 tw9014718906973842449 tw6866314427513060770 tw2997703783672139606 tw16885733512233027388 tw15375886302350559605 tw6261174297450631586 tw7743372935937208936 tw636374107265437192 tw17361533251370739094 tw9324443479727850007 tw14344399474331707682 tw15565587459503000402 tw3957579276591176566 tw14688076877634691270 tw14840685387175352204 tw5795610819834125095 tw3882613026045327955 tw5697975050479198640 tw4485549549558390388 tw841524276358533596 tw2982216969774616017 tw1131893608958155042 tw1416400793756033040 tw1607707010667191472 tw2497052802157177976 tw471574387494473642 tw16823239089767421592 tw2294154854790985190 tw14641729849845926816 tw17601142044275305555 tw4499666962501347773 tw13725508190506127824 tw10441899910187554358 tw13239650625060441110 tw6635485307185393188 tw13486833106532840000 tw1802450430879018166 tw7637239019541450275 tw5844147035588808152 tw13635095897882129239 tw14503459076566096898 tw6500542295146095733 tw3637444858267629428 tw7728575941026925939 tw14397096480884237222 tw5516544179827575367 tw10386624998428522968 tw14626038568999004786 tw3064733557654225372 tw1865603520140573015 tw12988931480947892277 tw94322248167400820 tw13421773234432387819 tw17715974566592674269 tw13563901572052121509 tw11168515097108056360 tw16480831532480911737 tw16185615390339581125 tw13948425564414157625 tw14027315835368055912 tw176183931752519266 tw850280426708765027 tw130224268669663807 tw16767232062901906615 tw6881579130572509762 tw13082691594393059259 tw1610402512174727797 tw2988636632810369281 tw129908384017653932 tw8171757273169830938 tw16897831208273300668 tw6396671169649109717 tw14256300507839169001 tw4187944039054705411 tw16313967472349526910 tw14175886300746839828 tw2580799908540940871 tw7488611515813428516 tw4141496737159708882 tw7438934756233160103 tw704207921701764034 tw7932908783990457389 tw10110162672822144364 tw15748856501232649232 tw2796893244780189145 tw15205391884331064470 tw11694906660005870422 tw17672208280885824922 tw16822897687931138258 tw10096136200221566021 tw3044653692650317183 tw8794917989937520996 tw1569508663995883906 tw9360129958754166224 tw1100203369796015638 tw15072018809413819544 tw11934088648527227014 tw1526676841451440284 tw15068054190624889803 tw5663477449853516919 tw17029976885733270386 tw1662074187434255953 tw10808658256228897248 tw15449899576404778276 tw14160030559005368407 tw4431141979750823528 tw9023678483408633581 tw17266181830665543454 tw3827891774227046282 tw4207331885496013276 tw12306216710981725967 tw2071604358298490495 tw11607528801312133281 tw15838300251692864258 tw15661275652711366305 tw13503556262810445771 tw3312677273562436902 tw4328840210895362120 tw17776720106167266251 tw18293905320236320359 tw2657094485750353792 tw18166530851751035213 tw17195070059205392390 tw627162278971115261 tw2100667719252057063 tw112147202171670601 tw17199566709323921052 tw4422732653944527625 tw2154974479547062982 tw11874532012333309589 tw12314803298535496918 tw12605157363968651978 tw7470916226543234012 tw1499285767562744626 tw15343643889336913480 tw14087594534057778706 tw13815432055269605343 tw8710236910089022028 tw5162541095560412007 tw16073504654094936855 tw11136100938879483622 tw8333303033033781330 tw13943197129368566344 tw5815233790900548538 tw6784697682966872858 tw5622785982108528748 tw12105496649271849805 tw12585117339478243186 tw9146056167556225277 tw7817706416978154205 tw3848615095894025728 tw15749992836397971176 tw4607815141775265671 tw2374927143440944314 tw2867284471866630446 tw9911693074770357884 tw701225051146030520 tw7337852292987881980 tw12618173062540351513 tw11668972402901653098 tw4328601802979995905 tw10632316790733903846 tw2354737343552241779 tw18339463754363019157 tw17014864531949435875 tw3330018627004099344 tw15851600687389704713 tw37344096712336965 tw3907984783633219568 tw9376755494353931996 tw298318993088917929 tw17150738987580066750 tw17570048239871509783 tw6162491245654388708 tw12892085212678361855 tw2502375524415555347 tw10411282183450448316 tw13968114037888933969 tw8967227145103897653 tw17208589396515373990 tw2441567962486285391 tw10366945065302496622 tw16084355764052072162 tw17411180799962280449 tw1633574377277365381 tw16179990812897787655 tw10492324956936068957 tw2092969268064036658 tw4963554553541265007 tw14515130126950768469 tw17880145137762078172 tw16800427837311321408 tw11808182584230982176 tw3495387959295529660 tw16056487261392963307 tw7069814456910168383 tw8244175973089396122 tw12459678298068640614 tw7327447785229961769 tw16753776913851164286 tw17326519336321844467 tw11754656303323696855 tw9838957855518685933 tw3685023090572708925 tw15777405585346459601 tw17671577870253964013 tw2922920874660581131 tw5156124676445332467 tw1897348165656721628 tw16358608480648760826 tw18008191240806851525 tw12141799042523696577 tw2864653787811496511 tw10923431413042777447 tw17642159878231367097 tw16778358760607743067 tw9972105019512675390 tw11477873826100685710 tw15796317273755649338 tw16586866032901980986 tw12539265604540874940 tw9602127602016106473 tw15438556505627158836 tw9027210610991180729 tw1732168139593802835 tw16082567033326808324 tw8581894365238424566 tw8129803241063980440 tw5466012448801428400 tw14611677340272686566 tw4981211591855199151 tw6911957895394506043 tw13415854092985719186 tw13921029519488913000 tw16296656907223477332 tw15454580020565037396 tw8960131984219543927 tw5882337668979722497 tw14555621471827222708 tw9241325470861918489 tw781983517662498553 tw6947771826915058072 tw13650624649368125866 tw3303104523407093180 tw6619876969212670568 tw2835870945810193902 tw12751088286085427639 tw421646407500899227 tw16049207469128245985 tw8600400893150345977 tw9132196809257372721 tw5705314663609451271 tw12282045442307341573 tw14823127206559109974 tw5065346699759397542 tw2131204456988430954 tw7083968627416545256 tw734571352963259769 tw7036836113179409438 tw15660427268279880251 tw427028279980241951 tw4117944390191927683 tw3102977432029467565 tw15998232842767886509 tw2612745083997446300 tw14977154598585048605 tw11860294739955793871 tw12871885126705648142 tw16617828960678880476 tw213503332331680014 tw494825127154052839 tw15937105828820448564 tw5006793087159084118 tw13725701724652022713 tw15828166343674876757 tw12193872071704428177 tw6794827622695696726 tw14134334806956449385 tw4046469623633435362 tw12779845974408488204 tw17836019838894513729 tw14252195059161192180 tw15450956090978743889 tw2772446141443702820 tw18389699264001612537 tw10473824901093833751 tw2788743075946788649 tw2875042209511746859 tw17373669494041094071 tw2708467327746502161 tw2699151435858637585 tw12839468933249768764 tw934540307215734340 tw17835263827438603205 tw14160893386168027238 tw12555012186456541500 tw10597845728901740651 tw13078421968929129252 tw18022083933215935452 tw12056312204265225512 tw12793776042237456898 tw386234484905110583 tw18230220802985013565 tw11128484013712415247 tw13339482742747874516 tw12174747362484504159 tw4595126107101098678 tw10002465017156417318 tw9283646833357440136 tw16758479066722950931 tw9766599987013504556 tw17151683682900520989 tw9770056453610836179 tw3936657152052948756 tw11179973760515022641 tw2132099514195905320 tw6771084943105259850 tw9760080305047166688 tw3221102712053870217 tw12354658993743791762 tw563679136724032658 tw17162610153999239145 tw15639091466594380200 tw1647447311435693315 tw12826035902575007898 tw5792322424316007215 tw6934388013109415136 tw4478761238205374859 tw6231264530618761865 tw10463559485896234545 tw8987420956570474167 tw11971332063027044823 tw3212130648581118585 tw7104075514519968537 tw9945236027521281555 tw258464545485032801 tw4106507230277510654 tw7769568082318450314 tw2998983643285295495 tw10891571390802047918 tw3965949049617738720 tw5018782519048613621 tw15292258755589589481 tw7556917602378185002 tw16667942324283924440 tw17790518081582587392 tw14517831868092297457 tw668185895472611799 tw56841223925447528 tw17148813168086371884 tw179359411500593134 tw2941503358105941535 tw10376396706863083024 tw6093014301997064887 tw2507824887248233572 tw10547598236258529110 tw13780014776855657535 tw10879316959041049789 tw12992052847187628090 tw17486432408149662333 tw14299758936025263913 tw8552239649878603650 tw11730738406717393089:True)
open PySem PySem.W PyProof.Rows
set_option maxRecDepth 100000 in
set_option maxHeartbeats 0 in
theorem PySem.Challenge.cw_rowjudge_k81_codes_of_facts_holds : PySem.Challenge.rw_rowjudge_k81_codes_of_facts.Holds := by
 w_on;o_law;k_head;(case hw=>w_witness2)
 k_fill
 refine My.walk (l:=PySem.Challenge.rw_rowjudge_k81_codes_of_facts) rfl rfl (λw h Y=>PySem.W.kIn_of Y) ?F
 case F =>
  intro w mg fa h KX G hmg;refine' My.all_mk (Y:=.mk ..) KX G hmg ?b ?u
  case b =>
   constructor
   all_goals try dsimp only
   iterate 18 (k_is)
   iterate 3 (exact L2.ExcCls.value (by first|rfl|with_unfolding_all rfl))
   iterate 3 (constructor <;> first|k_is|rfl|with_unfolding_all rfl)
   iterate 10 (constructor <;> first|k_is|rfl|with_unfolding_all rfl)
   iterate 10 (refine'⟨⟨?_,?_,?_,?_⟩,?_,?_,?_,?_⟩ <;> first|k_is|rfl|with_unfolding_all rfl)
   refine' L2.ModT.mk ?lk ?sz ?vs
   (case lk=>k_is)
   (case sz=>decide)
   (case vs=>exact(.cons ⟨_,rfl⟩ (.cons ⟨_,rfl⟩ .nil)))
   refine' L2.ModT.mk ?lk ?sz ?vs
   (case lk=>k_is)
   (case sz=>decide)
   (case vs=>exact(.cons ⟨_,rfl⟩ (.cons ⟨_,rfl⟩ .nil)))
   iterate 20 (delta L2.NoAttr;k_is)
   iterate 23 (first|k_is|rfl|with_unfolding_all rfl)
  case u =>
   constructor
   all_goals try dsimp only
   iterate 50 (refine' L2.GF.mk ?a1 (L2.fun_mk ?l ?c ?k);(case a1=>k_is);(case l=>k_is);(case c=>k_is);(case k=>k_is))
   iterate 20 (refine' L2.MF.mk ?a1 ?a2 (L2.fun_mk ?l ?c ?k);(case a1=>k_is);(case a2=>k_is);(case l=>k_is);(case c=>k_is);(case k=>k_is))
   iterate 10 (refine' L2.KF.mk ?a1 ?a2 ?a3 ?a4 ?a5 (L2.fun_mk ?l ?c ?k);(case a1=>k_is);(case a2=>k_is);(case a3=>k_is);(case a4=>k_is);(case a5=>k_is);(case l=>k_is);(case c=>k_is);(case k=>k_is))
   iterate 8 (refine' L2.BF.mk ?a1 ?a2 ?a3 ?a4 (L2.fun_mk ?l ?c ?k);(case a1=>k_is);(case a2=>k_is);(case a3=>k_is);(case a4=>k_is);(case l=>k_is);(case c=>k_is);(case k=>k_is))
   iterate 16 (k_is)
   iterate 7 (refine' L2.gv_mk ?a1 ?a2;(case a1=>k_is);(case a2=>exact⟨_,rfl⟩))
