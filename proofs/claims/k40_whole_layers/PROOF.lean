import PyProof.Rows.All
import Wide.All
import OpenK.AllK
import Wide.FinOn
import Lean
import PyProof.EqAt
import PyProof.EqKinds
import PyProof.TupleCall
import KE.KIntText
import PyProof.NeKinds
import KE.KTryMore
import KE.KIsAll
import PyProof.ZipIter
import KE.KRevIter
import PyProof.CollectIter
import PyProof.FactsAll.range_2
import PyProof.FactsAll.range_iterator_1
import KE.KNest
import KE.KLam
import PySem.Challenge.RW_rowjudge_k40_whole_layers
open List renaming length_map→bc,mem_cons→bW,length_append→dy,size_toArray→dV,map_append→dW,forall_mem_cons→fu,mem_cons_self→fH,take_length→gd,mem_singleton→gZ,mem_append→hZ,length_cons→ik,mem_map→iv,mem_cons_of_mem→iE,length_take→iT,length_singleton→iU,getD_eq_getElem?_getD→iX,forall_mem_nil→ja,getElem?_append_left→ji,getElem?_map→jj,append_nil→jk,not_mem_nil→jC,append_assoc→jD,length_zipWith→jE,map_cons→jU,mem_range→jV,mem_append_right→jW,all_eq_true→jX,getElem?_of_mem→jY,mem_filter→jZ,getElem?_append_right→kq,length_range→kW,take_append_drop→lg,filter_append→lz,length_reverse→lS,take_of_length_le→lT,range_succ→mu,getElem?_zipWith→ny,filterMap_cons→nF,mem_append_left→nL,pairwise_append→nS,getElem?_eq_none→nY,take_zero→oj,find?_cons_of_pos→ov,find?_cons_of_neg→oD,length_replicate→oG,take_add_one→oH,length_filter_le→oM,nodup_cons→oN,map_nil→qc,pairwise_cons→qd,perm_append_comm→qe,mem_of_mem_take→ri,drop_take→ro,drop_eq_getElem_cons→rG,foldl_cons→sO,eq_nil_of_length_eq_zero→sQ,mem_reverse→sW,take_sublist→tu,all_cons→tw,mem_flatMap→tE,pairwise_iff_getElem→tF,mem_iff_getElem→tG,mem_of_mem_drop→tH,nil_append→tJ,ext_getElem?→tX,map_fst_zip→ua,getElem?_zip_eq_some→uO,filter_cons_of_pos→uP,filter_cons_of_neg→uQ,sum_cons→vl,of_mem_zip→vr,length_drop→wh,sum_append→wm,nodup_append→wt,nodup_nil→wJ,drop_length→wL,eq_nil_or_concat→wM,concat_eq_append→wN,getElem?_reverse→wO,getElem_inj→xc,any_eq_true→xt,filter_cons→xu,map_reverse→xB
open Nat renaming le_refl→xX,ne_of_lt→yl,le_trans→yW,zero_le→yX,lt_of_lt_of_le→zb,ne_of_gt→zl,lt_succ_of_lt→zp,le_of_lt→zz,le_succ→Ar,lt_or_ge→AB,lt_irrefl→AJ,lt_succ_self→A9,le_add_right→Bp,succ_pos→BM,zero_add→Cq,sub_self→CM,min_eq_left→CO,lt_of_succ_lt→CP,not_lt_zero→CU,le_of_eq→CV,succ_mul→Dl
open Array renaming length_toList→Dn,getElem_mem→DT,getElem?_eq_getElem→D0,toList_append→Ee,mem_toList_iff→Eg,getElem?_toList→Em,toList_push→Er,toList_extract→Es,size_extract→Et
open Bool renaming and_eq_true→EA,eq_false_iff→EH,false_eq_true→EX
open Int renaming toNat_natCast→E2,emod_nonneg→GN,emod_lt_of_pos→GO,not_lt→GW,one_mul→G2
open Option renaming isSome_iff_exists→G7,getD_none→G9
open PySem renaming wpAny_bind→HJ,wpAny_pure→HK,wpAny_holding→HL,wpAny_Call_Name_kw→HM,Value→HN,World→HP,Program→HQ,Addr→HR,Heap→HS,sizeLine→HU,sysModules→HV,intKind→HW,mainGlobals→HX,builtinsNs→HY,bootBuiltins→HZ,Around→Ia,Shared→Ib,Scope→Ic,GenState→Ie,Model→Ig,wpAny→Ih,storeName→Ii,Expr→Ij,isTrue→Ik,backTo→Il,starEach→Im,Stmt→Io,wpAny_mono→Ip,wpAny_Name→Iq,wpAny_loadName_local→Ir,wpAny_loadName_cell→Iu,standAt→Iv,wpAny_truthy_bool→Iw,wpAny_execs_nil→Iy,wpAny_execs_cons→Iz,swapsWith→IA,wpAny_Expr_any→IB,assignEach→IC,Operator→ID,wpAny_assign_Name→IE,wpAny_standAt→IF,PassesOwn→IG,wpAny_passesOwn→IH,pyNext→II,letOwnedTupleGo→IJ,pyIter→IK,rawInt→IL,wpAny_pyIter_list→IM,Builtin→IP,foldedSetIterable→IQ,binaryOp→IS,IntMulOk→IT,intBits_le_64→IU,compareOp→IV,CmpOp→IW,behindInMarks→IX,sizeLine_eq→IY,getMethod→IZ,Result→I0,codeAny→Ja,attributeBase→Jb,recursionLimit→Jc,cLine→Jd,Code→Je,FuncData→Jf,BindsTo→Jg,bindArgs→Jh,wpAny_call→Ji,codeAny_mono→Jj,NameKind→Jk,bindL→Jl,bindC→Jm,cellsFrom→Jn,Arguments→Jo,concat_meets→Jp,noFill_tuple_add→Jq,seq_tuple_add→Jr,evalPart_none→Js,typeLookup→Jt,seqIndex_of→Ju,slot_list_getitem→Jv,sliceBounds→Jw,call_list_seq→Jx,backToKw→Jy,keywordEach→Jz,call_meets→JA,Params→JB,callerA→JC,compEnvC→JD,closureFor→JE,closureFor_none→JF,noteFrame→JG,newList→JH,newFunctionEnv→JI,wpAny_newObj_type→JJ,wpAny_newFunctionEnv→JK,codeAny_compStart_list→JL,eval_ListComp→JM,wpAny_comprehension_free→JN,compPost→JO,exec_Assign_Name_used→JP,wpAny_setField→JQ,wpAny_field→JR,setFlight→JS,callWith→JT,WalksS→JU,scanBound→JV,Moved→JW,codeAny_builtin→JX,setAdd→JY,plainId_quiet→JZ,codeAny_call_builtin→Ka,check_set_init_1→Kb,wpAny_runValue→Kc,codeAny_of_tree→Kd,weight_type_call_type→Ke,SetTable→Kf,layNew→Kg,relayAll→Kh,pickOrder→Ki,intKind_is→Kj,wpAny_storeSet_of→Kk,fits_of_scanBound→Kl,wpAny_setState_of→Km,wpAny_rule→Kn,wpAny_of_eq→Ko,wpAny_askSetting→Kp,typeLookup_type→Kq,builtinLookup_eq_fast→Kr,isSubtype_type→Ks,entryFor→Kt,entryFor_alias→Ku,argsOk→Kv,drawOrder→Kw,setNext→Ky,wpAny_attempt→Kz,wpAny_callSpecial?_slot→KA,wpAny_call_entry→KC,slotArgs→KD,wpAny_fieldsOf→KG,wpAny_setEntries_of→KH,wpAny_setField_rec→KI,newExc→KJ,firstArgMember→KL,wpAny_handled→KN,wpAny_isInstance→KO,isSubtype_stop→KP,wpAny_seqItems→KQ,wpAny_pyIter_slot→KR,Setting→KS,setsByText→KU,wpAny_newTuple→KW,wpAny_setEpoch_of→KY,wpAny_typeOf→KZ,wpAny_specialOf→K0,updateSeq→K1,wpAny_updateSeq→K2,intItems→K3,numAt_eq→K4,IsPair→K5,ZipApart→K6,wpAny_pyNext_zip_item→K7,wpAny_pyNext_zip_end→K8,wpAny_pyIter_zip→K9,wpAny_nextOf_list_item→La,wpAny_nextOf_list_end→Lb,wpAny_newList→Lc,wpAny_pyIter_enum→Ld,wpAny_pyIter_revIter→Le,codeAmong→Lf,boot_len→Lg
open Option renaming some→Lh,none→Li
open Bool renaming true→Lj,false→Ll
open Decidable renaming decide→Lm
set_option Elab.async false
set_option linter.all false
set_option maxRecDepth 100000
set_option maxHeartbeats 4000000
set_option bootstrap.genMatcherCode false
set_option compiler.extract_closed false
local macro_rules|`(↑$x)=>`(some (.ref $x))
local macro_rules|`(⇑$x)=>`(($x).length)
local macro_rules|`(↥$x)=>`(($x).heap.objs.size)
local macro_rules|`(term|∅)=>`(by first|lia|(dsimp only;lia))
local macro_rules|`(term|⋯)=>`(by decide)
local macro_rules|`(~~~$x)=>`(by simpa using $x)
local macro_rules|`(~~~0)=>`(by decide+kernel)
abbrev Ly:=@List
open Lean in
local macro_rules|`(tactic|let $d:letDecl)=>do
 let p:=d.raw[0]
 if p.isOfKind `Lean.Parser.Term.letPatDecl then
  let n:=Syntax.node .none
  let g:=λe:Array Syntax=>n `Lean.Parser.Tactic.rcasesPat.tuple #[.atom .none "⟨",n `null (e.mapIdx λj p=>if j%2==1 then p else n `Lean.Parser.Tactic.rcasesPatLo #[n `Lean.Parser.Tactic.rcasesPatMed #[n `null #[p]],n `null #[]]),.atom .none "⟩"]
  let q:=p[0].rewriteBottomUp λs=>match s with|.ident ..=>n `Lean.Parser.Tactic.rcasesPat.one #[s]|.node i k a=>if k==`Lean.Parser.Term.hole then n `Lean.Parser.Tactic.rcasesPat.ignore a else if k==`Lean.Parser.Term.anonymousCtor then g a[1]!.getArgs else if k==`Lean.Parser.Term.tuple then g (#[a[1]![0],a[1]![1]]++a[1]![2].getArgs) else s|_=>s
  return n `Lean.Parser.Tactic.obtain #[.atom .none "obtain",n `null #[n `Lean.Parser.Tactic.rcasesPatMed #[n `null #[q]]],n `null p[2][0].getArgs,n `null #[.atom .none ":=",n `null #[p[4]]]]
 else `(tactic|have $d:letDecl)
local macro_rules|`(tactic|calc $x:term)=>`(tactic|refine $x)
open Lean in
local macro_rules(kind:=Lean.Parser.Command.declaration)|s=>do
 let k:=s[1].getKind
 if s[0][1].isNone&&s[0][4].isNone&&(k==``Lean.Parser.Command.definition||k==``Lean.Parser.Command.abbrev||k==``Lean.Parser.Command.instance) then return s.setArg 0 (s[0].setArg 4 (.node .none `null #[.node .none ``Lean.Parser.Command.noncomputable #[.atom .none "noncomputable"]]))
 Macro.throwUnsupported
abbrev Lp:=@if_neg
abbrev Lq:=@if_pos
abbrev Lr:=@absurd
abbrev Ls:=@decide_eq_true
abbrev Lu:=@decide_eq_false
abbrev Lv:=@of_decide_eq_true
abbrev Lw:=@congrArg
abbrev Lx:=@decide_eq_true_iff
local macro_rules|`(term|s!$x)=>do
 let some t:=x.raw.getArgs[0]? | Lean.Macro.throwUnsupported
 let some v:=t.isInterpolatedStrLit? | Lean.Macro.throwUnsupported
 `(PySem.Str.ofString $(Lean.quote v))
def HF{a:Type _}{l:Ly a}{i:Nat}(h:i<⇑l):l[i]?=Lh l[i]:=List.getElem?_eq_getElem h
def HG{b:Type _}{a:b}{l:Ly b}{i:Nat}:l[i]?=Lh a ↔ ∃h:i<⇑l, l[i]=a:=List.getElem?_eq_some_iff
def HH{b:Type _}{l:Ly b}{i:Nat}{a:b}(e:l[i]?=Lh a):a∈l:=List.mem_of_getElem? e
namespace _L
def U{b:Sort _}{a:b}:a=a:=rfl
open PySem PySem.Spec PyProof.Rows
abbrev Key:=Sum Int Str
def Aq:Key->HN->Bool
 | .inl k,v=>HN.isInt k v
 | .inr x,v=>HN.isStrOf x v
def DS(w:HP):Key->Int
 | .inl k=>hashInt k
 | .inr x=>hashStr w x
theorem cj:∀{k:Key}{v:HN},Aq k v=Lj->(∃i t,k=Sum.inl i/\v=HN.int i t)\/(∃x t,k=Sum.inr x/\v=HN.str x t)
 | .inl i,v,h=>by
  let(t,e):=HN.isInt_shape (k:=i) (v:=v) h;exact .inl ⟨i,t,U,e⟩
 | .inr x,v,h=>by
  let(t,e):=HN.isStrOf_shape (x:=x) (v:=v) h;calc .inr ⟨x,t,U,e⟩
theorem AZ(a b:Int):decide ((Sum.inl a:Key)=Sum.inl b)=(a == b):=by
 by_cases e:a=b
 .subst e;simp
 .let h:¬ (Sum.inl a:Key)=Sum.inl b:=λq=>e<|Sum.inl.inj q
  rw[Lu h];calc(beq_eq_false_iff_ne.mpr e).symm
theorem A1(a b:Str):decide ((Sum.inr a:Key)=Sum.inr b)=Lm (a=b):=by
 by_cases e:a=b
 .subst e;simp
 .let h:¬ (Sum.inr a:Key)=Sum.inr b:=λq=>e<|Sum.inr.inj q
  rw[Lu h,Lu e]
def A2(a:Int)(b:Str):decide ((Sum.inl a:Key)=Sum.inr b)=false:=Lu<|λq=>nomatch q
def A3(a:Str)(b:Int):decide ((Sum.inr a:Key)=Sum.inl b)=false:=Lu<|λq=>nomatch q
def qf(prog:HQ)(w:HP):PySem.KeyKind prog w Key where
 is:=Aq
 hash:=DS w
 inj:=λv a b l f=>by
  rcases cj l with⟨i,t,rfl,rfl⟩|⟨x,t,rfl,rfl⟩
  .rcases cj f with⟨j,u,rfl,e⟩|⟨y,u,rfl,e⟩
   .injection e with c _;rw[c]
   .exact nomatch e
  .rcases cj f with⟨j,u,rfl,e⟩|⟨y,u,rfl,e⟩
   .exact nomatch e
   .injection e with c _;rw[c]
 byValue:=λk v h=>by
  rcases cj h with⟨i,t,rfl,rfl⟩|⟨x,t,rfl,rfl⟩ <;> rfl
 pyHash:=λd h=>by
  rcases cj d with⟨i,t,rfl,rfl⟩|⟨x,t,rfl,rfl⟩
  .exact wpAny_pyHash_int h
  .exact wpAny_pyHash_str h
 eqBool:=λg d h=>by
  rcases cj g with⟨i,t,rfl,rfl⟩|⟨x,t,rfl,rfl⟩
  .rcases cj d with⟨j,u,rfl,rfl⟩|⟨y,u,rfl,rfl⟩
   .rw[AZ]at h;exact wpAny_eqBool_int h
   .rw[A2]at h;exact SeqAt.EqAt.int_str i t y u _ _ _ _ h
  .rcases cj d with⟨j,u,rfl,rfl⟩|⟨y,u,rfl,rfl⟩
   .rw[A3]at h;exact SeqAt.EqAt.str_int x t j u _ _ _ _ h
   .rw[A1]at h;exact wpAny_eqBool_str h
 «strs»:=λk x t v h=>by
  rcases cj h with⟨i,u,rfl,e⟩|⟨y,u,rfl,e⟩
  .exact nomatch e
  .injection e with c _;subst c;cases v <;> rfl
inductive V where
 |non|bl (b:Bool)|int (i:Int)|str (x:Str)|byt (b:Array UInt8)|flt (b:UInt64)|ref (a:HR)|ty (n:String)
 deriving DecidableEq
def RelV:V->HN->Prop
 | .non,u=>u=HN.none
 | .bl b,u=>u=HN.bool b
 | .int i,u=>∃t,u=HN.int i t
 | .str x,u=>∃t,u=HN.str x t
 | .byt b,u=>∃t,u=HN.bytes b t
 | .flt b,u=>∃t,u=HN.float b t
 | .ref a,u=>u=HN.ref a
 | .ty n,u=>u=HN.type n
abbrev Vals:Ly V->Ly HN->Prop:=Paired RelV
theorem Vals.length{xs:Ly V}{us:Ly HN}(r:Vals xs us):⇑xs=⇑us:=Paired.length r
theorem Vals.get:∀{xs:Ly V}{us:Ly HN}{i:Nat}{x:V},Vals xs us->xs[i]?=Lh x->∃u,us[i]?=Lh u/\RelV x u
 |_,_,_,_,.nil,e=>by simp at e
 |_,_,0,_,.cons r _,e=>by simp at e;subst e;exact⟨_,U,r⟩
 |_,_,i+1,x,.cons _ t,e=>by
  let(u,b,a):=Vals.get (i:=i) (x:=x) t<|~~~e;calc⟨u,~~~b,a⟩
theorem Vals.set{x:V}{u:HN}(r:RelV x u):∀{xs:Ly V}{us:Ly HN}(i:Nat),Vals xs us->Vals (xs.set i x) (us.set i u)
 |_,_,_,.nil=>.nil
 |_,_,0,.cons _ t=>.cons r t
 |_,_,i+1,.cons q t=>.cons q<|Vals.set r i t
theorem Vals.append:∀{xs ys:Ly V}{us ws:Ly HN},Vals xs us->Vals ys ws->Vals (xs++ys) (us++ws)
 |_,_,_,_,.nil,s=>s
 |_,_,_,_,.cons r t,s=>.cons r<|Vals.append t s
theorem Vals.take:∀{xs:Ly V}{us:Ly HN}(n:Nat),Vals xs us->Vals (xs.take n) (us.take n)
 |_,_,0,_=>.nil
 |_,_,_+1,.nil=>.nil
 |_,_,n+1,.cons r t=>.cons r<|Vals.take n t
theorem Vals.drop:∀{xs:Ly V}{us:Ly HN}(n:Nat),Vals xs us->Vals (xs.drop n) (us.drop n)
 |_,_,0,r=>r
 |_,_,_+1,.nil=>.nil
 |_,_,n+1,.cons _ t=>Vals.drop n t
def oK:Option V->Option HN->Prop
 |some v,Lh u=>RelV v u
 |none,Li=>True
 |_,_=>False
def KV{a:Type}:Ly (a×V)->Ly (a×HN)->Prop:=Paired λ(p:a×V)(q:a×HN)=>p.1=q.1/\RelV p.2 q.2
def kV:Key->V
 | .inl i=>.int i
 | .inr x=>.str x
inductive HO where
 |lst (xs:Ly V)
 |tup (xs:Ly V)
 |dK (kvs:Ly (Key×V))|dT (kvs:Ly (Ly Key×V))
 |set (S:Int->Bool)(n:Nat)
 |ins (C dx:HR)(fs:Ly (Str×V))
 |own (x:HR)
 |xd (fs:Ly (Str×V))
 |met (f x:HR)
 |rng (lo hi:Int)
 |frz (o:Obj)(u:HO)
 |tbl (ps:Array HN)
 |ext (φ:HS->Prop)
abbrev Hp:=HR->Option HO
def upd(H:Hp)(a:HR)(o:HO):Hp:=λb=>if b=a then Lh o else H b
theorem ae{H:Hp}{a:HR}{o:HO}:upd H a o a=Lh o:=by unfold upd;rw[Lq U]
theorem ay{H:Hp}{a b:HR}{o:HO}(h:b≠a):upd H a o b=H b:=by unfold upd;rw[Lp h]
theorem yY{H:Hp}{a:HR}{o u:HO}:upd (upd H a o) a u=upd H a u:=by
 funext b;unfold upd;split <;> rfl
theorem ip{H:Hp}{a b:HR}{o u:HO}(h:H a=Lh o)(h':H b=Lh u)(d:o≠u):a≠b:=by
 intro e;subst e;rw[h]at h';calc d<|Option.some.inj h'
theorem aU{H:Hp}{a b:HR}{o:HO}(h:H a=Lh o)(h':H b=Li):a≠b:=by
 intro e;subst e;rw[h]at h';cases h'
section
variable(P:HQ)(w:HP)
def cK(H:Hp)(h:HS)(a:HR):HO->Prop
 | .lst xs=>⇑xs<=HU/\∃(b:Ly HN)(n:Nat),Vals xs b/\h.get? a=Lh { cls:=.type "list",data:=.seq b.toArray n }
 | .tup xs=>⇑xs<=HU/\∃b:Ly HN,Vals xs b/\IsTup h a b.toArray
 | .dK kvs=>⇑kvs<=HU/\(a == HV)=Ll/\∃vs,KV kvs vs/\h.DictOf (qf P w) a vs
 | .dT kvs=>⇑kvs<=HU/\(a == HV)=Ll/\∃xs:Ly (Ly Key×HR×HN),
   Paired (λ(p:Ly Key×V)(q:Ly Key×HR×HN)=>p.1=q.1/\H q.2.1=Lh (.tup<|p.1.map kV)/\RelV p.2 q.2.2) kvs xs /\
   ∃o g i,h.get? a=Lh o/\o.ExactDict/\o.data=.dict g i/\g.toList=xs.map (entryOfKey<|tupleKind<|qf P w)/\(xs.map (·.1)).Nodup
 | .set S n=>h.SetOf (HW P w) a S n
 | .ins C dx fs=>H dx=Lh (.own a)/\⇑fs<=1000/\dx≠a/\h.get? a=Lh (W.instObj C dx) /\
   ∃c,h.Ns1 dx c/\(∀f,oK (fs.lookup f)<|c f)/\PySem.Within c (fs.map (·.1))
 | .own _=>∃o,h.get? a=Lh o
 | .xd fs=>∃c,h.Ns1 a c/\∀f,oK (fs.lookup f) (c f)
 | .rng lo hi=>∃t u v,h.get? a=Lh { cls:=.type "range",data:=.fields #[.int lo t,.int hi u,.int 1 v] }
 | .frz o u=>h.get? a=Lh o/\cK H h a u
 | .tbl ps=>h.get? a=Lh { cls:=.none,data:=.fields ps }
 | .met f x=>h.get? a=Lh (W.methodObj (.ref f)<|.ref x)
 | .ext φ=>φ h/\(∃o,h.get? a=Lh o)/\∀e d:HS,φ e->(∀o,e.get? a=Lh o->d.get? a=Lh o)->φ d
def HOk(H:Hp)(h:HS):Prop:=∀a o,H a=Lh o->cK P w H h a o
end
variable{P:HQ}{w:HP}{H H':Hp}{h h':HS}{a:HR}
section
variable{o:HO}
theorem cK.lt(x:cK P w H h a o):a<h.objs.size:=by
 cases o with
 |lst c=>obtain⟨_,_,_,_,e⟩:=x;exact HS.lt_size e
 |tup c=>obtain⟨_,_,_,p⟩:=x;exact p.lt
 |dK b=>obtain⟨_,_,_,_,o,_,_,e,_⟩:=x;exact HS.lt_size e
 |dT b=>obtain⟨_,_,_,_,o,_,_,e,_⟩:=x;exact HS.lt_size e
 |set S n=>obtain⟨o,_,_,_,e,_⟩:=x;exact HS.lt_size e
 |ins C j fs=>obtain⟨_,_,_,e,_⟩:=x;exact HS.lt_size e
 |own y=>obtain⟨_,e⟩:=x;exact HS.lt_size e
 |xd fs=>obtain⟨_,⟨_,_,_,e,_⟩,_⟩:=x;exact HS.lt_size e
 |rng lo hi=>obtain⟨_,_,_,e⟩:=x;exact HS.lt_size e
 |frz i u=>obtain⟨e,_⟩:=x;exact HS.lt_size e
 |tbl g=>exact HS.lt_size (show h.get? a=Lh _ from x)
 |met f y=>exact HS.lt_size (show h.get? a=Lh _ from x)
 |ext d=>obtain⟨_,⟨_,e⟩,_⟩:=x;calc HS.lt_size e
theorem Paired.mapP{e d:Type}{F G:e->d->Prop}:∀{l₁:Ly e}{c:Ly d},Paired F l₁ c->(∀a b,F a b->G a b)->Paired G l₁ c
 |_,_,.nil,_=>.nil
 |_,_,.cons r t,f=>.cons (f _ _ r)<|Paired.mapP t f
theorem cK.stay(x:cK P w H h a o)(k:∀b u,(b=a\/H b=Lh (.own a))->h.get? b=Lh u->h'.get? b=Lh u)
  (J:∀b,H b=Lh (.own a)->H' b=Lh (.own a))(I:∀b xs,H b=Lh (.tup xs)->H' b=Lh (.tup xs)):cK P w H' h' a o:=by
 induction o with
 |lst xs=>obtain⟨z,l,n,r,e⟩:=x;exact⟨z,l,n,r,k _ _ (.inl U) e⟩
 |tup xs=>obtain⟨z,l,r,g,e,c⟩:=x;exact⟨z,l,r,g,k _ _ (.inl U) e,c⟩
 |dK A=>obtain⟨z,y,E,r,g,i,j,e,c⟩:=x;exact⟨z,y,E,r,g,i,j,k _ _ (.inl U) e,c⟩
 |dT A =>
  let(z,y,xs,r,g,i,j,e,c):=x;exact⟨z,y,xs,Paired.mapP r λp q z=>⟨z.1,I _ _ z.2.1,z.2.2⟩,g,i,j,k _ _ (.inl U) e,c⟩
 |set S n=>obtain⟨g,i,j,t,e,c⟩:=x;exact⟨g,i,j,t,k _ _ (.inl U) e,c⟩
 |ins C M fs =>
  let(d,z,F,e,s,(m,i,j,K,c),r):=x;exact⟨J _ d,z,F,k _ _ (.inl U) e,s,⟨m,i,j,k _ _ (.inr d) K,c⟩,r⟩
 |own y=>obtain⟨g,e⟩:=x;exact⟨g,k _ _ (.inl U) e⟩
 |xd fs=>obtain⟨s,⟨m,i,j,e,c⟩,r⟩:=x;exact⟨s,⟨m,i,j,k _ _ (.inl U) e,c⟩,r⟩
 |rng lo hi=>obtain⟨t,u,v,e⟩:=x;exact⟨t,u,v,k _ _ (.inl U) e⟩
 |frz g u G=>obtain⟨e,q⟩:=x;exact⟨k _ _ (.inl U) e,G q⟩
 |tbl D =>
  let e:h.get? a=Lh { cls:=.none,data:=.fields D }:=x;show h'.get? a=Lh { cls:=.none,data:=.fields D };exact k a _ (.inl U) e
 |met f y =>
  let e:h.get? a=Lh (W.methodObj (.ref f)<|.ref y):=x;show h'.get? a=Lh (W.methodObj (.ref f)<|.ref y);exact k a _ (.inl U) e
 |ext L=>obtain⟨p,⟨o,e⟩,B⟩:=x;calc⟨B _ _ p λo q=>k _ _ (.inl U) q,⟨o,k _ _ (.inl U) e⟩,B⟩
theorem HOk.lt(x:HOk P w H h)(e:H a=Lh o):a<h.objs.size:=(x a o e).lt
theorem HOk.fresh(x:HOk P w H h)(e:h.objs.size<=a):H a=none:=by
 cases q:H a with
 |none=>rfl
 |some u=>calc Lr (zb (x.lt q) e) (AJ _)
def HOk.kept(x:HOk P w H h)(k:∀b u,h.get? b=Lh u->h'.get? b=Lh u):HOk P w H h':=λa o e =>
 (x a o e).stay (λb u _ q=>k b u q) (λ_ q=>q) λ_ _ q=>q
theorem HOk.laid(x:HOk P w H h)(k:∀b u,h.get? b=Lh u->h'.get? b=Lh u)(g:h.objs.size<=a)(new:cK P w (upd H a o) h' a o):HOk P w (upd H a o) h':=λb u e=>by
 let d:=x.fresh g;by_cases f:b=a
 .subst f;rw[ae]at e;cases e;exact new
 .rw[ay f]at e;exact(x b u e).stay (λc v _ q=>k c v q) (λc q=>by rw[ay (aU q d)];exact q) λc i q=>by rw[ay (aU q d)];calc q
end
def Rd(H:Hp)(a:HR)(u:HO):Prop:=H a=Lh u\/∃o,H a=Lh (.frz o u)
theorem Rd.ok{P:HQ}{w:HP}{H:Hp}{h:HS}{a:HR}{u:HO}(r:Rd H a u)(x:HOk P w H h):cK P w H h a u:=by
 rcases r with r|⟨o,r⟩
 .exact x a u r
 .let(_,q):=x a _ r;calc q
def Mut:Option HO->Prop
 |some (.lst _)=>True
 |some (.dK _)=>True
 |some (.dT _)=>True
 |some (.set _ _)=>True
 |some (.ins _ _ _)=>True
 |some (.ext _)=>True
 |_=>False
variable{x:HR}
section
variable{e:HR}{o':HO}
theorem HOk.write(ok:HOk P w H h)(f:Mut (H x))(m:e=x\/H e=Lh (.own x))(k:∀b u,b≠e->h.get? b=Lh u->h'.get? b=Lh u)(j:∃u,h'.get? e=Lh u)
  (new:cK P w (upd H x o') h' x o'):HOk P w (upd H x o') h':=λb u q=>by
 let n:∀c y,H c=Lh (.own y)->c≠x:=λc y r z=>by subst z;rw[r]at f;exact f
 let p:∀c d,H c=Lh (.tup d)->c≠x:=λc d r z=>by subst z;rw[r]at f;exact f
 by_cases i:b=x
 .subst i;rw[ae]at q;cases q;exact new
 .rw[ay i]at q;by_cases a:b=e
  .let l:H b=Lh (.own x):=by
    rcases m with z|z
    .exact Lr (a.trans z) i
    .rw[a];exact z
   rw[q]at l;cases l;let(v,o):=j;exact⟨v,by rw[a];exact o⟩
  .refine(ok b u q).stay (λc v g r=>k c v ?_ r) (λc r=>by rw[ay (n c b r)];exact r) λc d r=>by rw[ay (p c d r)];exact r
   rcases g with rfl|g
   .exact a
   .rintro rfl;rcases m with z|z
    .exact n c b g z
    .rw[g]at z;cases z;calc i U
end
structure Un(fs ex:Ly HR)(H H':Hp)(h h':HS):Prop where
 keep:∀b o,h.get? b=Lh o->H b=Li->b ∉ fs->b ∉ ex->h'.get? b=Lh o
 slot:∀b o,h.get? b=Lh o->H b=Li->b∈fs->b ∉ ex->∃sl,h'.get? b=Lh { o with slots:=sl }
 free:∀b o,h.get? b=Lh o->H b=Li->b ∉ ex->H' b=Li
 there:∀b o,h.get? b=Lh o->b ∉ ex->∃o',h'.get? b=Lh o'
 tups:∀b xs,H b=Lh (.tup xs)->H' b=Lh (.tup xs)
 frzs:∀b o u,H b=Lh (.frz o u)->H' b=Lh (.frz o u)
 tbls:∀b ps,H b=Lh (.tbl ps)->∃more,H' b=Lh (.tbl<|ps++more)
section
variable{fs fs' ex ex':Ly HR}{H1 H2:Hp}{h1 h2:HS}{e:HR}{o:HO}
theorem Un.any(u:Un fs ex H H1 h h1){b:HR}{a:Obj}(q:h.get? b=Lh a)(n:H b=Li)(c:b ∉ ex):∃e,h1.get? b=Lh { a with slots:=e }:=by
 by_cases d:b∈fs
 .exact u.slot b a q n d c
 .exact⟨a.slots,u.keep b a q n d c⟩
theorem Un.kept(k:∀b u,h.get? b=Lh u->h'.get? b=Lh u):Un fs ex H H h h' :=
 ⟨λb a q _ _ _=>k b a q,λb a q _ _ _=>⟨a.slots,k b a q⟩,λ_ _ _ n _=>n,λb a q _=>⟨a,k b a q⟩,λ_ _ q=>q,λ_ _ _ q=>q,λ_ c q=>⟨#[],by rw[q];simp⟩⟩
def Un.refl:Un fs ex H H h h:=Un.kept λ_ _ q=>q
theorem Un.laid(k:∀b u,h.get? b=Lh u->h'.get? b=Lh u)(e:h.objs.size<=a)(c:H a=Li):Un fs ex H (upd H a o) h h' where
 keep:=λb u q _ _ _=>k b u q
 slot:=λb u q _ _ _=>⟨u.slots,k b u q⟩
 free:=λb u q n _=>by rw[ay (yl<|zb (HS.lt_size q) e)];exact n
 there:=λb u q _=>⟨u,k b u q⟩
 tups:=λb d q=>by rw[ay (aU q c)];exact q
 frzs:=λb u d q=>by rw[ay (aU q c)];exact q
 tbls:=λb f q=>⟨#[],by rw[ay (aU q c),q];simp⟩
theorem Un.write(c:Mut (H x))(m:e=x\/H e=Lh (.own x))(k:∀b u,b≠e->h.get? b=Lh u->h'.get? b=Lh u)(f:∃u,h'.get? e=Lh u):Un fs ex H (upd H x o) h h':=by
 let g:∀b,H b=Li->b≠x:=λb n z=>by subst z;rw[n]at c;exact c
 let i:∀b,H b=Li->b≠e:=λb n z=>by
  subst z;rcases m with r|r
  .exact g b n r
  .rw[n]at r;cases r
 let d:∀b u,H b=Lh u->¬ Mut (Lh u)->b≠x:=λb u q l z=>by subst z;rw[q]at c;exact l c
 refine⟨λb u q n _ _=>k b u (i b n) q,λb u q n _ _=>⟨u.slots,k b u (i b n) q⟩,λb u q n _=>by rw[ay (g b n)];exact n,λb u q _=>?_,
  λb j q=>by rw[ay (d b _ q λz=>z)];exact q,λb u j q=>by rw[ay (d b _ q λz=>z)];exact q,λb p q=>⟨#[],by rw[ay (d b _ q λz=>z),q];simp⟩⟩
 by_cases a:b=e
 .subst a;exact f
 .exact⟨u,k b u a q⟩
end
def trk(h:HS)(H:Hp):Ly HR:=(List.range h.objs.size).filter λa=>(H a).isSome
def mJ(h:HS)(H:Hp):HS:=W.hideAll h<|trk h H
def vG(h:HS)(H:Hp):(mJ h H).objs.size=h.objs.size:=W.hideAll_size _ _
theorem wQ{h:HS}{H:Hp}{b:HR}{o:Obj}(e:h.get? b=Lh o)(n:H b=Li):(mJ h H).get? b=Lh o :=
 W.hideAll_get _ e λa=>by
  let q:(H b).isSome=true:=(jZ.mp a).2;rw[n]at q;simp at q
theorem yZ{h:HS}{H:Hp}{b:HR}{o:Obj}(e:(mJ h H).get? b=Lh o):h.get? b=Lh o/\H b=none:=by
 let a:h.get? b=Lh o:=W.of_hideAll (trk h H) e;calc⟨a,?_⟩;cases q:H b with
 |none=>rfl
 |some x =>
  let c:b∈trk h H:=jZ.mpr ⟨jV.mpr<|HS.lt_size a,by simp[q]⟩;let z:(mJ h H).get? b=none:=W.hideAll_none (trk h H) c;rw[z]at e;cases e
def y9(g h:HS)(L:HR):Ly (HR×Obj):=(List.range h.objs.size).filterMap λa=>if a=L\/(g.get? a).isSome=Lj then Li else(h.get? a).map λo=>(a,o)
def rest(g h:HS)(L d:HR):Ly (HR×Obj):=(y9 g h L).filter λp=>decide<|p.1≠d
structure Mod(K:W.Frag)(mg:Str->Option HN)(base:HS):Prop where
 kin:K.In base
 glob:base.Ns HX mg
 blt:∃mb,base.Ns HY mb/\∀x:Str,x ≠ "__name__" -> mb x=HZ x
 nolimit:base.NoLimit
structure Cx where
 prog:HQ
 w:HP
 K:W.Frag
 mg:Str->Option HN
 base:HS
 A:Ia
 N:Ly Str
 s₀:Ib
 H₀:Hp
 env:Env
 outer:Ly Env
 stack:Ly Env
 ex:Ly HR
 fn:Str->Bool
 calm:Bool
 pn:Ly (HR×Obj)
 xe:HN->Ib->Prop
def frs(l:Ly Env):Ly HR:=l.filterMap (·.frame)
abbrev Cx.fs(X:Cx):Ly HR:=frs X.outer
def Vis(a:Ic)(x:Str):Prop:=a.names.lookup x=Lh .local\/a.names.lookup x=Lh .cell\/a.names.lookup x=Lh .free
def Loc(a:Ic)(x:Str):Prop:=a.names.lookup x=Lh .local\/a.names.lookup x=Lh .cell
def Look(a:Env)(h:HS)(m:Str->Option HN)(x:Str)(u:HN):Prop :=
 (a.kindOf x=Lh .local/\m x=Lh u)\/((a.kindOf x=Lh .cell\/a.kindOf x=Lh .free)/\∃c,a.cells.lookup x=Lh c/\h.IsCell c (Lh u))
structure Cx.Ok(X:Cx):Prop where
 mod:Mod X.K X.mg X.base
 kind:X.env.scope.kind=.function
 glob:X.env.globals=HX
 blt:X.env.builtins=HY
 above:X.s₀.heap.objs.size<=X.env.locals
 inj:∀x y c,X.env.cells.lookup x=Lh c->X.env.cells.lookup y=Lh c->x=y
 has:∀x,(X.env.kindOf x=Lh .cell\/X.env.kindOf x=Lh .free)->∃c,X.env.cells.lookup x=Lh c
 cab:∀x c,X.fn x=Lj->X.env.cells.lookup x=Lh c->X.s₀.heap.objs.size<=c
 hd:X.calm=Lj->X.A.handled=Li
 frames:X.A.frames=Lh X.stack
 stk:X.stack=X.outer\/(X.stack=X.env :: X.outer/\X.env.frame=Lh X.env.locals)
 exf:∀b∈X.ex,b≠X.env.locals/\∀x c,X.env.cells.lookup x=Lh c->c≠b
 bs:∀b o,X.base.get? b=Lh o->X.s₀.heap.get? b=Lh o/\X.H₀ b=Li
 bsz:X.base.objs.size<=X.s₀.heap.objs.size
 noex:∀b o,X.base.get? b=Lh o->b ∉ X.ex
 exfs:∀b∈X.ex,b ∉ X.fs
 funs:X.s₀.heap.FunFrames X.base X.outer
 frf:∀b∈X.fs,X.H₀ b=Li
structure Inv(X:Cx)(Ln:Ly (HR×Obj))(σ:Ly (Option V))(H:Hp)(s:Ib):Prop where
 ok:X.Ok
 os:s.os=X.s₀.os
 bare:AllBare s.gens
 base:Un X.fs X.ex X.H₀ H X.s₀.heap s.heap
 loc:∃m,s.heap.Ns X.env.locals m/\∀(i:Nat)(x:Str)(v:V),X.N[i]?=Lh x->σ[i]?=Lh (Lh v)->Vis X.env.scope x->∃u,RelV v u/\Look X.env s.heap m x u
 cell:∀x c,X.env.cells.lookup x=Lh c->∃v,s.heap.IsCell c v
 free:H X.env.locals=Li
 freeC:∀x c,X.env.cells.lookup x=Lh c->H c=Li
 pin:∀p∈X.pn++Ln,s.heap.get? p.1=Lh p.2/\H p.1=Li/\p.1≠X.env.locals/\p.1 ∉ X.fs/\∀v,p.2.data≠.cell v
 hok:HOk X.prog X.w H s.heap
 len:σ.length=X.N.length
variable{X:Cx}{Ln:Ly (HR×Obj)}{s:Ib}
section
variable{σ:Ly (Option V)}
theorem Cx.Ok.nofr(ok:X.Ok){b:HR}{o:Obj}(e:X.base.get? b=Lh o):b ∉ X.fs:=λa=>by
 let:=(ok.funs.mem a).1;rw[e]at this;cases this
theorem Inv.bs(I:Inv X Ln σ H s):∀b o,X.base.get? b=Lh o->s.heap.get? b=Lh o/\H b=none:=λb o e =>
 ⟨I.base.keep b o (I.ok.bs b o e).1 (I.ok.bs b o e).2 (I.ok.nofr e)<|I.ok.noex b o e,I.base.free b o (I.ok.bs b o e).1 (I.ok.bs b o e).2<|I.ok.noex b o e⟩
def Inv.bk(I:Inv X Ln σ H s):∀b o,X.base.get? b=Lh o->s.heap.get? b=Lh o:=λb o e=>(I.bs b o e).1
theorem Inv.mod(I:Inv X Ln σ H s):Mod X.K X.mg X.base:=I.ok.mod
def Inv.kIn(I:Inv X Ln σ H s):X.K.In s.heap:=I.ok.mod.kin.keeps I.bk
theorem Inv.lt(I:Inv X Ln σ H s):X.env.locals<↥s:=by let(_,a,_):=I.loc;calc a.lt
def Inv.sz(I:Inv X Ln σ H s):X.s₀.heap.objs.size<=↥s:=yW I.ok.above<|zz I.lt
theorem Inv.nofs(I:Inv X Ln σ H s){a:HR}(h:↥s<=a):a ∉ X.fs:=λc=>by
 let(_,o,b,_):=I.ok.funs.mem c;calc Lr (zb (HS.lt_size b)<|yW I.sz h)<|AJ _
theorem Inv.cne(I:Inv X Ln σ H s):∀x c,X.env.cells.lookup x=Lh c->c≠X.env.locals:=λx c e z=>by
 let(v,o,d,f):=I.cell x c e;let(m,(g,h,i,a,b,_),_):=I.loc;rw[z,a]at d;cases d;rw[b]at f;cases f
theorem Inv.funs(I:Inv X Ln σ H s):s.heap.FunFrames X.base X.outer:=by
 let all:∀(l:Ly Env),(∀b∈frs l,b∈X.fs)->X.s₀.heap.FunFrames X.base l->s.heap.FunFrames X.base l:=by
  intro l;induction l with
  |nil=>intro _ _;trivial
  |cons p r g =>
   intro f k;let(m,(L,o,a,j,i,n),h):=k;let d:L∈X.fs:=f L (by unfold frs;rw[nF,a];exact fH);let(q,e):=I.base.slot L o i (I.ok.frf L d) d λz=>I.ok.exfs L z d
   exact⟨m,⟨L,_,a,j,e,n⟩,g (λb c=>f b (by unfold frs;rw[nF,a];exact iE _ c)) h⟩
 calc all X.outer (λ_ c=>c) I.ok.funs
theorem Inv.stack(I:Inv X Ln σ H s):s.heap.FunFrames X.base X.stack:=by
 rcases I.ok.stk with e|⟨e,b⟩
 .rw[e];exact I.funs
 .rw[e];let(m,a,_):=I.loc;refine .cons (by rw[I.ok.kind];decide) b a ?_ I.funs;calc HS.get?_none_of_le<|yW I.ok.bsz I.ok.above
theorem Inv.stkSub(I:Inv X Ln σ H s):∀b∈frs X.stack,b∈X.env.locals :: X.fs:=λb a=>by
 rcases I.ok.stk with e|⟨e,c⟩
 .rw[e]at a;exact iE _ a
 .rw[e]at a;unfold frs at a;rw[nF,c]at a;calc a
theorem Inv.stkFree(I:Inv X Ln σ H s):∀b∈frs X.stack,H b=none:=λb a=>by
 rcases bW.mp (I.stkSub b a)with e|a
 .rw[e];exact I.free
 .let(_,o,c,_):=I.ok.funs.mem a;calc I.base.free b o c (I.ok.frf b a) λz=>I.ok.exfs b z a
theorem Inv.step{g':Array Ie}{t':Nat}{d':Drawn}{ch:Ly HR}(I:Inv X Ln σ H s)
  (g:∀b∈ch,(b∈X.ex\/X.s₀.heap.objs.size<=b)/\b≠X.env.locals/\(∀x c,X.env.cells.lookup x=Lh c->c≠b)/\∀p∈X.pn++Ln,p.1≠b)
  (keep:∀b o,b≠X.env.locals->b ∉ X.fs->b ∉ ch->s.heap.get? b=Lh o->H b=Li->h'.get? b=Lh o)
  (slot:∀b o,b≠X.env.locals->b∈X.fs->b ∉ ch->s.heap.get? b=Lh o->H b=Li->∃F,h'.get? b=Lh { o with slots:=F })(free:∀b o,b ∉ ch->s.heap.get? b=Lh o->H b=Li->H' b=Li)
  (there:∀b o,b ∉ ch->s.heap.get? b=Lh o->∃B,h'.get? b=Lh B)
  (tups:∀b xs,H b=Lh (.tup xs)->H' b=Lh (.tup xs))(frzs:∀b o u,H b=Lh (.frz o u)->H' b=Lh (.frz o u))(tbls:∀b ps,H b=Lh (.tbl ps)->∃E,H' b=Lh (.tbl<|ps++E))
  (ns:∀m,s.heap.Ns X.env.locals m->h'.Ns X.env.locals m)(hok:HOk X.prog X.w H' h')(S:AllBare g') :
  Inv X Ln σ H' { s with heap:=h',gens:=g',drawn:=d',toks:=t' }:=by
 let D:∀b o,X.s₀.heap.get? b=Lh o->b≠X.env.locals:=λb o e=>yl<|zb (HS.lt_size e) I.ok.above
 let t:∀b o,X.s₀.heap.get? b=Lh o->b ∉ X.ex->b ∉ ch:=λb o e a y=>by
  rcases(g b y).1 with z|z
  .exact a z
  .exact Lr (zb (HS.lt_size e) z)<|AJ _
 let h:∀x c,X.env.cells.lookup x=Lh c->∀v,s.heap.IsCell c v->h'.IsCell c v:=λx c e v ⟨o,A,G⟩=>by
  let f:c ∉ ch:=λz=>(g c z).2.2.1 x c e U
  by_cases N:c∈X.fs
  .let(F,q):=slot c o (I.cne x c e) N f A<|I.freeC x c e;exact⟨_,q,G⟩
  .exact⟨o,keep c o (I.cne x c e) N f A<|I.freeC x c e,G⟩
 refine⟨I.ok,I.os,S,⟨λb o e n y a=>?_,λb o e n y a=>?_,λb o e n a=>?_,λb o e a=>?_,λb xs e=>tups b xs<|I.base.tups b xs e,λb o xs e=>frzs b o xs<|I.base.frzs b o xs e,λb ps e=>?_⟩,?_,λx c e=>?_,?_,λx c e=>?_,λp M=>?_,hok,I.len⟩
 .exact keep b o (D b o e) y (t b o e a) (I.base.keep b o e n y a)<|I.base.free b o e n a
 .let(F,j):=I.base.slot b o e n y a;let(J,C):=slot b _ (D b o e) y (t b o e a) j<|I.base.free b o e n a;exact⟨J,C⟩
 .let(B,j):=I.base.there b o e a;exact free b B (t b o e a) j<|I.base.free b o e n a
 .let(B,j):=I.base.there b o e a;exact there b B (t b o e a) j
 .let(P,j):=I.base.tbls b ps e;let(O,C):=tbls b _ j;exact⟨P++O,by rw[C,Array.append_assoc]⟩
 .let(m,Q,R):=I.loc;calc⟨m,ns m Q,λi x v j C T=>?_⟩;let(u,r,l):=R i x v j C T;calc⟨u,r,?_⟩;rcases l with l|⟨k,c,e,z⟩
  .exact .inl l
  .exact .inr ⟨k,c,e,h x c e _ z⟩
 .let(v,z):=I.cell x c e;exact⟨v,h x c e v z⟩
 .let(m,(o,_,_,A,_),_):=I.loc;exact free _ o (λz=>(g _ z).2.1 U) A I.free
 .let(v,o,A,G):=I.cell x c e;exact free c o (λz=>(g c z).2.2.1 x c e U) A<|I.freeC x c e
 .let(e,n,L,K,d):=I.pin p M;let f:p.1 ∉ ch:=λz=>(g p.1 z).2.2.2 p M U
  calc⟨keep p.1 p.2 L K f e n,free p.1 p.2 f e n,L,K,d⟩
theorem Inv.un{t':Nat}(I:Inv X Ln σ H s)(u:Un X.fs [] H H' s.heap h')(hok:HOk X.prog X.w H' h'):Inv X Ln σ H' { s with heap:=h',toks:=t' }:=by
 let(m,(o,q,t,g,r),_):=id I.loc;let(k,j):=u.any g I.free (by simp);exact I.step (g':=s.gens) (d':=s.drawn) (ch:=[]) (λ_ z=>nomatch z) (λb o _ c _ e n=>u.keep b o e n c (by simp)) (λb o _ c _ e n=>u.slot b o e n c (by simp)) (λb o _ e n=>u.free b o e n (by simp)) (λb o _ e=>u.there b o e (by simp)) u.tups u.frzs u.tbls (λp i=>by
  let(l,d,f,a,h):=i;rw[g]at a;cases a;exact⟨_,d,f,j,h⟩) hok I.bare
theorem Inv.call{g':Array Ie}{t':Nat}{d':Drawn}{ch:Ly HR}(I:Inv X Ln σ H s)(u:Un (frs X.stack) ch H H' s.heap h')(hok:HOk X.prog X.w H' h')(q:AllBare g')
  (f:∀b∈ch,(b∈X.ex\/X.s₀.heap.objs.size<=b)/\b≠X.env.locals/\(∀x c,X.env.cells.lookup x=Lh c->c≠b)/\∀p∈X.pn++Ln,p.1≠b) :
  Inv X Ln σ H' { s with heap:=h',gens:=g',drawn:=d',toks:=t' }:=by
 let(m,(o,B,C,j,r),_):=id I.loc;let(v,g):=u.any j I.free λz=>(f _ z).2.1 U
 exact I.step (ch:=ch) f (λb o g t a e n=>u.keep b o e n (λz=>(bW.mp<|I.stkSub b z).elim g t) a) (λb o _ _ a e n=>u.any e n a) (λb o a e n=>u.free b o e n a) (λb o a e=>u.there b o e a) u.tups u.frzs u.tbls (λA l=>by
  let(y,h,i,d,k):=l;rw[j]at d;cases d;exact⟨_,h,i,g,k⟩) hok q
theorem Inv.turned{t':Nat}{it:HR}(I:Inv X Ln σ H s)(k:∀b o,b≠it->s.heap.get? b=Lh o->h'.get? b=Lh o)(h:H it=Li)(f:it≠X.env.locals)
  (w:it∈X.ex\/X.s₀.heap.objs.size<=it)(t:∀x c,X.env.cells.lookup x=Lh c->c≠it)(l:∀p∈X.pn++Ln,p.1≠it):Inv X Ln σ H { s with heap:=h',toks:=t' }:=by
 let d:∀b u,H b=Lh u->b≠it:=λb u e z=>by rw[z,h]at e;cases e
 refine I.step (g':=s.gens) (d':=s.drawn) (ch:=[it]) (λb j=>?_) (λb o _ _ a e _=>k b o (λz=>a (by simp[z])) e) (λb o _ _ a e _=>⟨o.slots,k b o (λz=>a (by simp[z])) e⟩) (λ_ _ _ _ n=>n)
  (λb o a e=>⟨o,k b o (λz=>a (by simp[z])) e⟩) (λ_ _ e=>e) (λ_ _ _ e=>e) (λb B e=>⟨#[],by rw[e];simp⟩) (λm i=>?_) (λb u e=>?_) I.bare
 .let e:b=it:= ~~~j
  subst e;exact⟨w,f,t,l⟩
 .let(o,y,A,g,r):=i;exact⟨o,y,A,k _ o (Ne.symm f) g,r⟩
 .refine(I.hok b u e).stay (λc v a q=>k c v ?_ q) (λ_ q=>q) λ_ _ q=>q
  rcases a with z|z
  .rw[z];exact d b u e
  .exact d c _ z
def Inv.tok(I:Inv X Ln σ H s)(t:Nat):Inv X Ln σ H { s with toks:=t }:=I.un (h':=s.heap) (t':=t) Un.refl I.hok
theorem Inv.kept{t':Nat}(I:Inv X Ln σ H s)(k:∀b u,s.heap.get? b=Lh u->h'.get? b=Lh u):Inv X Ln σ H { s with heap:=h',toks:=t' }:=I.un (Un.kept k)<|I.hok.kept k
theorem Inv.laid{a:HR}{o:HO}{t':Nat}(I:Inv X Ln σ H s)(k:∀b u,s.heap.get? b=Lh u->h'.get? b=Lh u)(c:↥s<=a)(new:cK X.prog X.w (upd H a o) h' a o) :
  Inv X Ln σ (upd H a o) { s with heap:=h',toks:=t' }:=I.un (Un.laid k c<|I.hok.fresh c)<|I.hok.laid k c new
theorem Inv.write{x e:HR}{o:HO}{t':Nat}(I:Inv X Ln σ H s)(c:Mut (H x))(d:e=x\/H e=Lh (.own x))(k:∀b u,b≠e->s.heap.get? b=Lh u->h'.get? b=Lh u)(a:∃u,h'.get? e=Lh u)
  (new:cK X.prog X.w (upd H x o) h' x o):Inv X Ln σ (upd H x o) { s with heap:=h',toks:=t' }:=I.un (Un.write c d k a)<|I.hok.write c d k a new
def Inv.pins_of{a:Ly (HR×Obj)}(I:Inv X Ln σ H s)(h:∀p∈a,s.heap.get? p.1=Lh p.2/\H p.1=Li/\p.1≠X.env.locals/\p.1 ∉ X.fs/\∀v,p.2.data≠.cell v):Inv X a σ H s :=
 ⟨I.ok,I.os,I.bare,I.base,I.loc,I.cell,I.free,I.freeC,λp b=>(hZ.mp b).elim (λz=>I.pin p<|nL _ z)<|h p,I.hok,I.len⟩
theorem ko{N:Ly Str}(c:N.Nodup){i j:Nat}{x:Str}(a:N[i]?=Lh x)(b:N[j]?=Lh x):i=j:=by
 let(g,e):=HG.mp a;let(f,d):=HG.mp b;calc(xc c).mp (e.trans d.symm)
theorem lj{M:Ig}{A:Ia}{E:HN->Ib->Prop}{i:Nat}{x:Str}{v:V}{u:HN}{Q:Unit->Ib->Prop}(I:Inv X Ln σ H s)(hN:X.N.Nodup)(hi:X.N[i]?=Lh x)(B:Loc X.env.scope x)(r:RelV v u)
  (h:∀s',Inv X Ln (σ.set i<|Lh v) H s'->(∃a,HS.SameBut a s.heap s'.heap/\(a=X.env.locals\/X.env.cells.lookup x=Lh a))->Q () s')(hf:X.fn x=Lj\/X.env.scope.names.lookup x=Lh .local:=by first|exact .inl U|exact .inr U|assumption):Ih M A (Ii X.env x u) Q E s:=by
 let(m,hn,hl):=id I.loc;let DU:(X.env.scope.kind == .class || (X.env.scope.kind == .module && X.env.locals != X.env.globals))=false:=by rw[I.ok.kind];rfl
 let F:i<σ.length:=by rw[I.len];exact(HG.mp hi).1
 let cne:=I.cne;let l:∀{a:HR}{h':HS},(∃o,s.heap.get? a=Lh o/\H a=Li)->HS.SameBut a s.heap h'->HOk X.prog X.w H h':=λ{a h'} ha f b ob e=>by
  let(_,_,uR):=ha;refine(I.hok b ob e).stay (λc R t q=>(f.2 c ?_).trans q) (λ_ q=>q) λ_ _ q=>q
  rintro rfl;rcases t with rfl|t
  .rw[uR]at e;cases e
  .rw[uR]at t;cases t
 rcases B with D|D
 .refine wpAny_storeName_local D hn (λh' a1 f=>?_) DU;let(oL,_,_,a0,_):=id hn;refine h _ ⟨I.ok,I.os,I.bare,⟨λb o e n J B=>?_,λb o e n J B=>?_,I.base.free,λb o e B=>?_,I.base.tups,I.base.frzs,I.base.tbls⟩,⟨_,a1,λj y W g C e3=>?_⟩,λy c e=>?_,I.free,I.freeC,λp hp=>?_,l ⟨oL,a0,I.free⟩ f,~~~I.len⟩ ⟨_,f,.inl U⟩
  .exact(f.2 b<|yl<|zb (HS.lt_size e) I.ok.above).trans (I.base.keep b o e n J B)
  .let(Z,g):=I.base.slot b o e n J B;exact⟨Z,(f.2 b<|yl<|zb (HS.lt_size e) I.ok.above).trans g⟩
  .let(o',g):=I.base.there b o e B;exact⟨o',(f.2 b<|yl<|zb (HS.lt_size e) I.ok.above).trans g⟩
  .by_cases G:j=i
   .subst G;rw[hi]at g;cases g;rw[List.getElem?_set_self F]at C;cases C;exact⟨u,r,.inl ⟨D,by simp⟩⟩
   .rw[List.getElem?_set_ne (Ne.symm G)]at C;let(Y,r',q):=hl j y W g C e3;calc⟨Y,r',?_⟩;rcases q with⟨k,e⟩|⟨k,c,e,z⟩
    .refine .inl ⟨k,?_⟩;let:y≠x:=λe=>G<|ko hN g<|e ▸ hi
     simp[this,e]
    .exact .inr ⟨k,c,e,z.sameBut f<|cne y c e⟩
  .let(R,z):=I.cell y c e;exact⟨R,z.sameBut f<|cne y c e⟩
  .let(e,n,S,nf,d):=I.pin p hp;exact⟨(f.2 p.1 S).trans e,n,S,nf,d⟩
 .let K:X.fn x=true:=by
   rcases hf with z|z
   .exact z
   .rw[z]at D;cases D
  let(c,t):=I.ok.has x<|.inl D;let(R,z):=I.cell x c t;calc wpAny_storeName_cell I.ok.kind D t z<|λh' P f=>?_;let(oc,L,DV):=id z;refine h { s with heap:=h' } ⟨I.ok,I.os,I.bare,⟨λb o e n J B=>?_,λb o e n J B=>?_,I.base.free,λb o e B=>?_,I.base.tups,I.base.frzs,I.base.tbls⟩,⟨m,hn.sameBut f<|Ne.symm<|cne x c t,λj y W g C e3=>?_⟩,λy T e=>?_,I.free,I.freeC,λp hp=>?_,l ⟨oc,L,I.freeC x c t⟩ f,~~~I.len⟩ ⟨c,f,.inr t⟩
  .exact(f.2 b<|yl<|zb (HS.lt_size e)<|I.ok.cab x c K t).trans (I.base.keep b o e n J B)
  .let(Z,g):=I.base.slot b o e n J B;exact⟨Z,(f.2 b<|yl<|zb (HS.lt_size e)<|I.ok.cab x c K t).trans g⟩
  .let(o',g):=I.base.there b o e B;exact⟨o',(f.2 b<|yl<|zb (HS.lt_size e)<|I.ok.cab x c K t).trans g⟩
  .by_cases G:j=i
   .subst G;rw[hi]at g;cases g;rw[List.getElem?_set_self F]at C;cases C;exact⟨u,r,.inr ⟨.inl D,c,t,P⟩⟩
   .rw[List.getElem?_set_ne (Ne.symm G)]at C;let(Y,r',q):=hl j y W g C e3;calc⟨Y,r',?_⟩;rcases q with q|⟨k,T,e,z'⟩
    .exact .inl q
    .refine .inr ⟨k,T,e,z'.sameBut f ?_⟩;rintro rfl;exact G<|ko hN g<|I.ok.inj _ _ _ e t ▸ hi
  .by_cases O:T=c
   .subst O;exact⟨_,P⟩
   .let(w2,z2):=I.cell y T e;exact⟨w2,z2.sameBut f O⟩
  .let(e,n,S,nf,d):=I.pin p hp;calc⟨(f.2 p.1 ?_).trans e,n,S,nf,d⟩;intro q;rw[q,L]at e;let q':oc=p.2:=Option.some.inj e;calc d R (by rw[←q'];exact DV)
theorem mK{M:Ig}{A:Ia}{E:HN->Ib->Prop}{i:Nat}{x:Str}{v:V}{u:HN}{Q:Unit->Ib->Prop}(I:Inv X Ln σ H s)(c:X.N.Nodup)(hi:X.N[i]?=Lh x)(a:Loc X.env.scope x)(r:RelV v u)
  (h:∀s',Inv X Ln (σ.set i<|Lh v) H s'->Q () s')(b:X.fn x=Lj\/X.env.scope.names.lookup x=Lh .local:=by first|exact .inl U|exact .inr U|assumption):Ih M A (Ii X.env x u) Q E s :=
 lj I c hi a r (λs' d _=>h s' d) b
theorem Inv.call'{s':Ib}{ch:Ly HR}(I:Inv X Ln σ H s)(f:s'.os=s.os)(u:Un (frs X.stack) ch H H' s.heap s'.heap)(hok:HOk X.prog X.w H' s'.heap)(g:AllBare s'.gens)
  (a:∀b∈ch,(b∈X.ex\/X.s₀.heap.objs.size<=b)/\b≠X.env.locals/\(∀x c,X.env.cells.lookup x=Lh c->c≠b)/\∀p∈X.pn++Ln,p.1≠b):Inv X Ln σ H' s':=by
 let(h',g',d',t',d):=s';let e:d=s.os:=f;subst e;calc I.call (g':=g') (t':=t') (d':=d') u hok g a
end
abbrev XK:=HN->Option HR->Hp->Prop
abbrev St:=List<|Option V
abbrev VK:=V->Hp->Prop
abbrev TE:=St->Hp->VK->Prop
abbrev TT:=St->Hp->(Bool->Hp->Prop)->Prop
abbrev TA:=St->Hp->(Ly V->Hp->Prop)->Prop
structure Ends where
 nx:St->Hp->Prop
 rt:VK
 bk:St->Hp->Prop:=λ_ _=>False
 ct:St->Hp->Prop:=λ_ _=>False
abbrev TS:=Ends->St->Hp->Prop
def EP(X:Cx)(Ln:Ly (HR×Obj))(a:St)(Q:VK)(u:HN)(s':Ib):Prop:=∃v H',Inv X Ln a H' s'/\RelV v u/\Q v H'
def TP(X:Cx)(Ln:Ly (HR×Obj))(a:St)(Q:Bool->Hp->Prop)(b:Bool)(s':Ib):Prop:=∃H',Inv X Ln a H' s'/\Q b H'
def AP(X:Cx)(Ln:Ly (HR×Obj))(b:St)(Q:Ly V->Hp->Prop)(us:Ly HN)(s':Ib):Prop:=∃a H',Inv X Ln b H' s'/\Vals a us/\Q a H'
def SP(X:Cx)(Ln:Ly (HR×Obj))(D:Ends)(f:Flow)(s':Ib):Prop :=
 match f with
 | .next=>∃a H',Inv X Ln a H' s'/\D.nx a H'
 | .brk=>∃a H',Inv X Ln a H' s'/\D.bk a H'
 | .cont=>∃a H',Inv X Ln a H' s'/\D.ct a H'
 | .ret u=>∃v a H',Inv X Ln a H' s'/\RelV v u/\D.rt v H'
def PE(X:Cx)(e:Ij)(t:TE):Prop :=
 ∀(Ln:Ly (HR×Obj))(s:Ib)(a:St)(H:Hp)(Q:VK),Inv X Ln a H s->t a H Q->Ih (model X.prog X.w) X.A (eval e X.env) (EP X Ln a Q) X.xe s
def PT(X:Cx)(e:Ij)(t:TT):Prop :=
 ∀(Ln:Ly (HR×Obj))(s:Ib)(a:St)(H:Hp)(Q:Bool->Hp->Prop),Inv X Ln a H s->t a H Q->Ih (model X.prog X.w) X.A (Ik e X.env<|eval e X.env) (TP X Ln a Q) X.xe s
def PW(X:Cx)(e:Ij)(t:TT):Prop :=
 ∀(a:Sem HN)(Ln:Ly (HR×Obj))(s:Ib)(b:St)(H:Hp)(Q:Bool->Hp->Prop),Inv X Ln b H s->t b H Q->Ih (model X.prog X.w) X.A (Ik e X.env a) (TP X Ln b Q) X.xe s
def PW.pt{X:Cx}{e:Ij}{t:TT}(h:PW X e t):PT X e t:=h _
def PA(X:Cx)(c:Ly Ij)(t:TA):Prop :=
 ∀(b:Pos)(Ln:Ly (HR×Obj))(s:Ib)(a:St)(H:Hp)(Q:Ly V->Hp->Prop),Inv X Ln a H s->t a H Q->Ih (model X.prog X.w) X.A (spliced<|Il b<|Im c X.env) (AP X Ln a Q) X.xe s
def PS(X:Cx)(st:Io)(t:TS):Prop :=
 ∀(Ln:Ly (HR×Obj))(s:Ib)(a:St)(H:Hp)(D:Ends),Inv X Ln a H s->t D a H->Ih (model X.prog X.w) X.A (exec st X.env) (SP X Ln D) X.xe s
def PSs(X:Cx)(st:Ly Io)(t:TS):Prop :=
 ∀(Ln:Ly (HR×Obj))(s:Ib)(a:St)(H:Hp)(D:Ends),Inv X Ln a H s->t D a H->Ih (model X.prog X.w) X.A (execs st X.env) (SP X Ln D) X.xe s
def thn{b:Type}{t:Sem b}{Q c:b->Ib->Prop}{M:Ig}{A:Ia}{E:HN->Ib->Prop}{s:Ib}(h:Ih M A t Q E s)(d:∀a s,Q a s->c a s):Ih M A t c E s:=Ip h d λ_ _ x=>x
variable{ta tb:TE}{pos:Pos}
section
inductive A4(i:Nat)(σ:St)(H:Hp)(Q:VK):Prop
 |mk (v:_)(_:σ[i]?=Lh (Lh v))(_:Q v H)
def tC(v:V):TE:=λ_ H Q=>Q v H
theorem wR{i:Nat}{x:Str}{pos:Pos}(t:X.N[i]?=Lh x)(n:Vis X.env.scope x)(d:(x == ("__debug__" : Str))=false:=by decide) (f:(x == ("__classdict__" : Str))=false:=by decide):PE X (.Name x pos) (A4 i):=by
 intro Ln s k H Q I h;let(v,e,h):=h;let(m,o,q):=I.loc;let(u,r,l):=q i x v t e n;let b:EP X Ln k Q u s:=⟨v,H,I,r,h⟩;rcases l with⟨a,p⟩|⟨a,c,j,g⟩
 .exact Iq (Ir I.ok.kind a o p b) d
 .rcases a with a|a
  .exact Iq (Iu I.ok.kind a j g b) d
  .exact Iq (wpAny_loadName_free I.ok.kind a j g b f) d
def ak{i j pos}:PE X (.Constant (.int i) j pos) (tC<|.int i):=λ_ _ _ H _ I h=>wpAny_Constant_int ⟨.int i,H,I.tok _,⟨_,U⟩,h⟩
def cE{b j pos}:PE X (.Constant (.bool b) j pos) (tC<|.bl b):=λ_ _ _ H _ I h=>Constant_bool ⟨.bl b,H,I,U,h⟩
def aN{x j pos}:PE X (.Constant (.str x) j pos) (tC<|.str x):=λ_ _ _ H _ I h=>Calls.Constant_str ⟨.str x,H,I.tok _,⟨_,U⟩,h⟩
def Gl(X:Cx)(x:Str):Prop:=X.env.kindOf x=Lh .globalImplicit
theorem dH{E:HN->Ib->Prop}{Ln:Ly (HR×Obj)}{s:Ib}{a:St}{H:Hp}{x:Str}{u:HN}{pos:Pos}{Q:HN->Ib->Prop}(I:Inv X Ln a H s)(c:Gl X x)(b:X.mg x=Lh u)(h:Q u s)
  (hd:(x == ("__debug__" : Str))=false:=by decide):Ih (model X.prog X.w) X.A (eval (.Name x pos) X.env) Q E s :=
 Calls.Name_function_global I.ok.kind c (Calls.loadGlobal_global (by rw[I.ok.glob];exact I.mod.glob.keeps I.bk) b h) hd
theorem fU{E:HN->Ib->Prop}{Ln:Ly (HR×Obj)}{s:Ib}{a:St}{H:Hp}{x:Str}{u:HN}{pos:Pos}{Q:HN->Ib->Prop}(I:Inv X Ln a H s)(e:Gl X x)(d:X.mg x=Li)(b:HZ x=Lh u)(h:Q u s)
  (c:x ≠ "__name__" := by decide) (hd:(x == ("__debug__" : Str))=false:=by decide):Ih (model X.prog X.w) X.A (eval (.Name x pos) X.env) Q E s:=by
 let(i,g,f):=I.mod.blt;calc Calls.Name_function_global I.ok.kind e (Calls.loadGlobal_builtin (by rw[I.ok.glob];exact I.mod.glob.keeps I.bk) d (by rw[I.ok.blt];exact g.keeps I.bk) ((f x c).trans b) h) hd
theorem eF{x:Str}{v:V}{u:HN}{pos:Pos}(b:Gl X x)(a:X.mg x=Lh u)(r:RelV v u)(c:(x == ("__debug__" : Str))=false:=by decide):PE X (.Name x pos) (tC v) :=
 λ_ _ _ H _ I h=>dH I b a ⟨v,H,I,r,h⟩ c
theorem eV{x:Str}{v:V}{u:HN}{pos:Pos}(d:Gl X x)(c:X.mg x=Li)(a:HZ x=Lh u)(r:RelV v u)(b:x ≠ "__name__" := by decide) (hd:(x == ("__debug__" : Str))=false:=by decide):PE X (.Name x pos) (tC v) :=
 λ_ _ _ H _ I h=>fU I d c a ⟨v,H,I,r,h⟩ b hd
variable{a b:Ij}
inductive tBq  (Q:Bool->Hp->Prop)(x:V)(H1:Hp):Prop
 |mk (c:_)(_:x=.bl c)(_:Q c H1):tBq Q x H1
def tB(t:TE):TT:=λa H Q=>t a H λx b=>tBq Q x b
theorem cy{e:Ij}{t:TE}(h:PE X e t)(i:∀a,Ik e X.env a=(do let v ←a;Iv e.pos;holding [v] (truthy v)):=by intro _;rfl):PT X e (tB t):=by
 intro Ln s b H Q I g;calc isTrue_plain (thn (h Ln s b H _ I g) λv l ⟨x,k,j,c,f⟩=>?_)<|i _;let(d,rfl,q):=f;cases c;calc Iw ⟨k,j,q⟩
variable{tA tB':TT}{rest:Ly Ij}
def DW(t u:TT):TT:=λa H Q=>t a H λc b=>if c=Lj then u a b Q else Q Ll b
def tOr(t u:TT):TT:=λa H Q=>t a H λc b=>if c=Lj then Q Lj b else u a b Q
def DX(t:TT):TT:=λa H Q=>t a H λc b=>Q (!c) b
theorem fL(d:PT X a tA):PW X (.BoolOp .And [a] pos) tA:=by
 intro f Ln s b H Q I h;calc isTrue_and<|thn (d Ln s b H Q I h) λc g e=>?_;cases c with
 |true=>exact isTrue_and_nil e
 |false=>calc e
theorem iq(d:PT X a tA):PW X (.BoolOp .Or [a] pos) tA:=by
 intro f Ln s b H Q I h;calc isTrue_or<|thn (d Ln s b H Q I h) λc g e=>?_;cases c with
 |false=>exact isTrue_or_nil e
 |true=>calc e
theorem ir(l:PT X a tA)(k:PW X (.BoolOp .And (b :: rest) pos) tB'):PW X (.BoolOp .And (a :: b :: rest) pos) (DW tA tB'):=by
 intro i Ln s d H Q I h;calc isTrue_and<|thn (l Ln s d H _ I h) λc j ⟨g,f,e⟩=>?_;cases c with
 |true=>exact k i Ln j d g Q f e
 |false=>calc⟨g,f,e⟩
theorem jr(l:PT X a tA)(k:PW X (.BoolOp .Or (b :: rest) pos) tB'):PW X (.BoolOp .Or (a :: b :: rest) pos) (tOr tA tB'):=by
 intro i Ln s d H Q I h;calc isTrue_or<|thn (l Ln s d H _ I h) λc j ⟨g,f,e⟩=>?_;cases c with
 |true=>exact⟨g,f,e⟩
 |false=>calc k i Ln j d g Q f e
theorem bQ(d:PT X a tA):PT X (.UnaryOp .Not a pos) (DX tA):=by
 intro Ln s b H Q I h;calc isTrue_not<|d Ln s b H (λc e=>Q (!c) e) I h
inductive wU(tb:TE)(σ:St)(Q:VK)(x:V)(H1:Hp):Prop
 |mk (c:_)(_:x=.bl c)(_:if c=Lj then tb σ H1 Q else Q (.bl Ll) H1)
def Cr(ta tb:TE):TE:=λa H Q=>ta a H λx b=>wU tb a Q x b
inductive wV  (Q:VK)(x:V)(H1:Hp):Prop
 |mk (c:_)(_:x=.bl c)(_:Q (.bl<|!c) H1):wV Q x H1
def Cs(ta:TE):TE:=λa H Q=>ta a H λx b=>wV Q x b
def jF{op} {t:TE}(h:PE X a t):PE X (.BoolOp op [a] pos) t:=λLn s b H Q I c=>BoolOp_one<|h Ln s b H Q I c
theorem gD(l:PE X a ta)(k:PE X (.BoolOp .And (b :: rest) pos) tb):PE X (.BoolOp .And (a :: b :: rest) pos) (Cr ta tb):=by
 intro Ln s e H Q I h;calc BoolOp_and<|thn (l Ln s e H _ I h) λv i ⟨x,g,f,j,d⟩=>?_;let(c,rfl,d):=d;cases j;calc Iw ?_;cases c with
 |true=>exact k Ln i e g Q f d
 |false=>calc⟨.bl Ll,g,f,U,d⟩
theorem wW(f:PE X a ta):PE X (.UnaryOp .Not a pos) (Cs ta):=by
 intro Ln s d H Q I h;calc UnaryOp_<|thn (f Ln s d H _ I h) λv j ⟨x,i,g,e,b⟩=>?_;let(c,rfl,b):=b;cases e;calc not_of<|Iw ⟨.bl<|!c,i,g,U,b⟩
def tIf(t:TT)(ta tb:TE):TE:=λa H Q=>t a H λc b=>if c=Lj then ta a b Q else tb a b Q
theorem qZ{c:Ij}(k:PT X c tA)(m:PE X a ta)(l:PE X b tb):PE X (.IfExp c a b pos) (tIf tA ta tb):=by
 intro Ln s e H Q I h;calc wpAny_IfExp<|thn (k Ln s e H _ I h) λd f ⟨j,i,g⟩=>?_;cases d with
 |true=>exact m Ln f e j Q i g
 |false=>calc l Ln f e j Q i g
end
def SqL(K:W.Frag)(H:Hp)(a:HR)(xs:Ly V):Prop :=
 Rd H a (.lst xs) \/
  ∃(o:Obj)(b:Array HN)(n:Nat),K.lookup a=Lh o/\o.cls=.type "list" /\ o.dict=Li/\o.data=.seq b n/\b.size<=HU/\Vals xs b.toList
def SqT(K:W.Frag)(H:Hp)(a:HR)(xs:Ly V):Prop :=
 Rd H a (.tup xs) \/
  ∃(o:Obj)(b:Array HN)(n:Nat),K.lookup a=Lh o/\o.cls=.type "tuple" /\ o.data=.seq b n/\b.size<=HU/\Vals xs b.toList
def DY:HN->Option V
 | .none=>Lh .non
 | .bool b=>Lh<|.bl b
 | .int i _=>Lh<|.int i
 | .str x _=>Lh<|.str x
 | .bytes b _=>Lh<|.byt b
 | .float b _=>Lh<|.flt b
 | .ref a=>↑a
 | .type n=>Lh<|.ty n
 |_=>Li
theorem RelV.abs{x:V}{u:HN}(r:RelV x u):DY u=Lh x:=by
 cases x with
 |non=>cases r;rfl
 |bl _=>cases r;rfl
 |int _=>obtain⟨t,rfl⟩:=r;rfl
 |str _=>obtain⟨t,rfl⟩:=r;rfl
 |byt _=>obtain⟨t,rfl⟩:=r;rfl
 |flt _=>obtain⟨t,rfl⟩:=r;rfl
 |ref _=>cases r;rfl
 |ty _=>cases r;rfl
theorem RelV.inj{x y:V}{u:HN}(r:RelV x u)(q:RelV y u):x=y:=Option.some.inj<|r.abs.symm.trans q.abs
theorem Vals.inj:∀{xs ys:Ly V}{us:Ly HN},Vals xs us->Vals ys us->xs=ys
 |_,_,_,.nil,.nil=>rfl
 |_,_,_,.cons r t,.cons r' t'=>by rw[r.inj r',Vals.inj t t']
variable{σ:St}
section
variable{xs ys:Ly V}
def SqL.of{K:W.Frag}(h:H a=Lh (.lst xs)):SqL K H a xs:=.inl<|.inl h
def SqT.of{K:W.Frag}(h:H a=Lh (.tup xs)):SqT K H a xs:=.inl<|.inl h
theorem Inv.list(I:Inv X Ln σ H s)(h:SqL X.K H a xs):∃b:Ly HN,Vals xs b/\PlainL s.heap a b.toArray/\⇑xs<=HU:=by
 rcases h with h|⟨o,b,n,d,g,f,c,i,r⟩
 .let(z,b,n,r,e):=h.ok I.hok;exact⟨b,r,⟨_,n,e,U,U,U⟩,z⟩
 .refine⟨b.toList,r,⟨o,n,I.kIn a o d,g,f,~~~c⟩,?_⟩;let e:=⇑r;simp only[Dn]at e;lia
theorem Inv.tuple(I:Inv X Ln σ H s)(h:SqT X.K H a xs):∃b:Ly HN,Vals xs b/\IsTup s.heap a b.toArray/\⇑xs<=HU:=by
 rcases h with h|⟨o,b,n,d,f,c,g,r⟩
 .let(z,b,r,p):=h.ok I.hok;exact⟨b,r,p,z⟩
 .refine⟨b.toList,r,⟨o,I.kIn a o d,f,n,~~~c⟩,?_⟩;let e:=⇑r;simp only[Dn]at e;lia
theorem Inv.list_inj(I:Inv X Ln σ H s)(h:SqL X.K H a xs)(h':SqL X.K H a ys):xs=ys:=by
 let(c,r,(o,n,e,_,_,d),_):=I.list h;let(b,i,(k,l,f,_,_,g),_):=I.list h';rw[e]at f;cases f;rw[d]at g;injection g with j _;let:c=b:= ~~~Lw Array.toList j
 subst this;calc r.inj i
theorem Inv.tuple_inj(I:Inv X Ln σ H s)(h:SqT X.K H a xs)(h':SqT X.K H a ys):xs=ys:=by
 let(c,r,(o,e,_,n,d),_):=I.tuple h;let(b,i,(k,f,_,l,g),_):=I.tuple h';rw[e]at f;cases f;rw[d]at g;injection g with j _;let:c=b:= ~~~Lw Array.toList j
 subst this;calc r.inj i
end
abbrev Cx.wish(X:Cx)(E:HN->Ib->Prop):Cx:={ X with xe:=E }
abbrev Cx.nox(X:Cx):Cx:=X.wish λ_ _=>False
theorem Cx.Ok.wish{X:Cx}(ok:X.Ok)(E:HN->Ib->Prop):(X.wish E).Ok :=
 ⟨ok.mod,ok.kind,ok.glob,ok.blt,ok.above,ok.inj,ok.has,ok.cab,ok.hd,ok.frames,ok.stk,ok.exf,ok.bs,ok.bsz,ok.noex,ok.exfs,ok.funs,ok.frf⟩
def Cx.Ok.unwish{X:Cx}{E:HN->Ib->Prop}(ok:(X.wish E).Ok):X.Ok :=
 ⟨ok.mod,ok.kind,ok.glob,ok.blt,ok.above,ok.inj,ok.has,ok.cab,ok.hd,ok.frames,ok.stk,ok.exf,ok.bs,ok.bsz,ok.noex,ok.exfs,ok.funs,ok.frf⟩
variable{E:HN->Ib->Prop}
theorem Inv.wish(I:Inv X Ln σ H s)(E:HN->Ib->Prop):Inv (X.wish E) Ln σ H s:=⟨I.ok.wish E,I.os,I.bare,I.base,I.loc,I.cell,I.free,I.freeC,I.pin,I.hok,I.len⟩
theorem Inv.unwish(I:Inv (X.wish E) Ln σ H s):Inv X Ln σ H s:=⟨I.ok.unwish,I.os,I.bare,I.base,I.loc,I.cell,I.free,I.freeC,I.pin,I.hok,I.len⟩
theorem SP.unwish{D:Ends}{f:Flow}{s':Ib}(h:SP (X.wish E) Ln D f s'):SP X Ln D f s':=by
 cases f with
 |next=>obtain⟨a,H',I,q⟩:=h;exact⟨a,H',I.unwish,q⟩
 |brk=>obtain⟨a,H',I,q⟩:=h;exact⟨a,H',I.unwish,q⟩
 |cont=>obtain⟨a,H',I,q⟩:=h;exact⟨a,H',I.unwish,q⟩
 |ret u=>obtain⟨v,a,H',I,r,q⟩:=h;calc⟨v,a,H',I.unwish,r,q⟩
theorem PE.nox{e:Ij}{t:TE}(h:PE X.nox e t):PE X e t:=λLn s σ H Q I a =>
 Ip (h Ln s σ H Q (I.wish _) a) (λ_ _ ⟨v,H',b,r,q⟩=>⟨v,H',b.unwish,r,q⟩) λ_ _ z=>False.elim z
theorem PSs.nox{st:Ly Io}{t:TS}(h:PSs X.nox st t):PSs X st t:=λLn s σ H D I a =>
 Ip (h Ln s σ H D (I.wish _) a) (λ_ _ q=>q.unwish) λ_ _ z=>False.elim z
variable{e:Ij}{te:TE}
section
variable{st:Io}{rest:Ly Io}{t u:TS}
def Ct:TS:=λD σ H=>D.nx σ H
def aR(t u:TS):TS:=λD σ H=>t { D with nx:=u D } σ H
def aF:PSs X [] Ct:=λ_ _ σ H _ I h=>Iy ⟨σ,H,I,h⟩
theorem aq(d:PS X st t)(c:PSs X rest u):PSs X (st :: rest) (aR t u):=by
 intro Ln s σ H D I h;calc Iz<|thn (d Ln s σ H { D with nx:=u D } I h) λf b q=>?_;cases f with
 |next =>
  let(a,H',e,q):=q;exact c Ln b a H' D e q
 |ret v=>exact q
 |brk=>exact q
 |cont=>calc q
theorem aj(a:PS X st t):PSs X [st] t:=by
 intro Ln s σ H D I h;calc Iz<|thn (a Ln s σ H D I h) λf b q=>?_;cases f with
 |next=>exact Iy q
 |ret v=>exact q
 |brk=>exact q
 |cont=>calc q
theorem Inv.quiet{Ln:Ly (HR×Obj)}{σ:St}{H:Hp}{s:Ib}(I:Inv X Ln σ H s):interactive X.env=false:=by simp[interactive,I.ok.kind]
def Cu(te:TE):TS:=λD σ H=>te σ H λ_ a=>D.nx σ a
theorem bg(c:PE X e te)(b:IA e Li pos.line X.env=pure false:=by rfl):PS X (.Expr e pos) (Cu te):=by
 intro Ln s σ H D I h;calc IB (thn (c Ln s σ H _ I h) λv g ⟨x,f,d,i,a⟩=>⟨σ,f,d,a⟩) I.quiet b
def DZ(te:TE):TS:=λD σ H=>te σ H D.rt
theorem ax(c:PE X e te):PS X (.Return (Lh e) pos) (DZ te):=by
 intro Ln s σ H D I h;calc wpAny_Return_some<|thn (c Ln s σ H _ I h) λv g ⟨x,f,d,a,b⟩=>⟨x,σ,f,d,a,b⟩
def D1(c:TT)(t u:TS):TS:=λD σ H=>c σ H λb a=>if b=Lj then t D σ a else u D σ a
theorem aP{c:Ij}{a b:Ly Io}{e:TT}(k:PT X c e)(m:PSs X a t)(l:PSs X b u):PS X (.If c a b pos) (D1 e t u):=by
 intro Ln s σ H D I h;calc wpAny_If<|thn (k Ln s σ H _ I h) λd f ⟨j,i,g⟩=>?_;cases d with
 |true=>exact m Ln f σ j D i g
 |false=>calc l Ln f σ j D i g
def A5:TS:=λ_ _ _=>False
def cz:PS X st A5:=λ_ _ _ _ _ _ h=>h.elim
end
abbrev TG:=V->St->Hp->(St->Hp->Prop)->Prop
abbrev TGs:=Ly V->St->Hp->(St->Hp->Prop)->Prop
def PG(X:Cx)(a:Ij)(t:TG):Prop :=
 ∀(Ln:Ly (HR×Obj))(s:Ib)(σ:St)(H:Hp)(v:V)(u:HN)(Q:St->Hp->Prop),Inv X Ln σ H s->RelV v u->t v σ H Q ->
  Ih (model X.prog X.w) X.A (assign a X.env u) (λ_ c=>∃b H',Inv X Ln b H' c/\Q b H') X.xe s
def PGs(X:Cx)(ts:Ly Ij)(t:TGs):Prop :=
 ∀(Ln:Ly (HR×Obj))(s:Ib)(σ:St)(H:Hp)(b:Ly V)(c:Ly HN)(Q:St->Hp->Prop),Inv X Ln σ H s->Vals b c->t b σ H Q ->
  Ih (model X.prog X.w) X.A (assignInOrder ((IC ts X.env).map (·.2)) c) (λ_ d=>∃a H',Inv X Ln a H' d/\Q a H') X.xe s
abbrev A6:=V->V->V->Hp->(Hp->Prop)->Prop
def Cv(X:Cx)(t:A6):Prop :=
 ∀(Ln:Ly (HR×Obj))(s:Ib)(σ:St)(H:Hp)(o i v:V)(a b u:HN)(Q:Hp->Prop),Inv X Ln σ H s->RelV o a->RelV i b->RelV v u->t o i v H Q ->
  Ih (model X.prog X.w) X.A (setItem a b u) (λ_ c=>∃H',Inv X Ln σ H' c/\Q H') X.xe s
abbrev TIp:=V->V->Hp->VK->Prop
def PIp(X:Cx)(a:ID)(t:TIp):Prop :=
 ∀(Ln:Ly (HR×Obj))(s:Ib)(σ:St)(H:Hp)(x y:V)(v u:HN)(Q:VK),Inv X Ln σ H s->RelV x v->RelV y u->t x y H Q ->
  Ih (model X.prog X.w) X.A (inplaceOp a v u) (EP X Ln σ Q) X.xe s
def pf(i:Nat):TG:=λv σ H Q=>Q (σ.set i<|Lh v) H
theorem aE{i:Nat}{x:Str}(c:X.N.Nodup)(hi:X.N[i]?=Lh x)(a:Loc X.env.scope x)(b:X.fn x=Lj\/X.env.scope.names.lookup x=Lh .local:=by first|exact .inl U|exact .inr U|assumption):PG X (.Name x pos) (pf i):=by
 intro Ln s σ H v u Q I r h;calc IE<|mK I c hi a r (λe d=>⟨_,H,d,h⟩) b
def D3:TGs:=λa σ H Q=>a=[]/\Q σ H
def Cw(t:TG)(u:TGs):TGs:=λb σ H Q=>∃v r,b=v :: r/\t v σ H λa H'=>u r a H' Q
theorem cI:PGs X [] D3:=by
 intro Ln s σ H a b Q I r h;let(e,h):=h;subst e;cases r;calc assignInOrder_nil ⟨σ,H,I,h⟩
theorem aM{e:Ij}{a:Ly Ij}{t:TG}{u:TGs}(j:PG X e t)(i:PGs X a u)
  (g:(IC (e :: a) X.env).map (·.2)=assign e X.env :: (IC a X.env).map (·.2):=by rfl):PGs X (e :: a) (Cw t u):=by
 intro Ln s σ H n p Q I r h;let(v,o,k,h):=h;subst k;cases r with
 |cons r d =>
  rw[g];calc assignInOrder_cons<|thn (j Ln s σ H _ _ _ I r h) λ_ c ⟨b,m,l,f⟩=>?_;calc i Ln c b m _ _ Q l d f
def Cy(K:W.Frag)(n:Nat)(t:TGs):TG:=λv σ H Q=>∃a b,v=.ref a/\SqT K H a b/\⇑b=n/\t b σ H Q
theorem fV{c:Ly Ij}{k:Nat}{t:TGs}{n:Nat}(w:X.calm=Lj)(h:PGs X c t)
  (p:⇑(IC c X.env)=n:=by rfl)(f:(IC c X.env).findIdx? (·.1)=none:=by rfl):PG X (.Tuple c k pos) (Cy X.K n t):=by
 intro Ln s σ H v u Q I r d;let(a,i,x,m,q,d):=d;subst x;cases r;let(z,g,l,A):=I.tuple m;refine assign_Tuple_tuple (I.ok.hd w) l (by simp[p,←q,⇑g]) f λh' j=>?_
 let y:Inv X Ln σ H { s with heap:=h' }:=I.kept (t':=s.toks) λb o e=>j b o (yl<|HS.lt_size e) e
 calc h Ln _ σ H i _ Q y (~~~g) d
def D4(to ti:TE)(t:A6):TG:=λv σ H Q=>to σ H λo c=>ti σ c λi b=>t o i v b λa=>Q σ a
theorem wX{o i:Ij}{to ti:TE}{t:A6}(l:PE X o to)(hi:PE X i ti)(k:Cv X t)
  (m:∀v,assign (.Subscript o i pos) X.env v=(do
   let a ←holding [v] (eval o X.env)
   let b ←holding [v,a] (eval i X.env)
   Iv pos
   holding [v,a,b] (setItem a b v)
   release [v,a,b] []):=by intro _;rfl):PG X (.Subscript o i pos) (D4 to ti t):=by
 intro Ln s σ H v u Q I r h;rw[m];calc HJ<|HL<|thn (l Ln s σ H _ I h) λa c ⟨x,A,q,e,j⟩=>?_;calc HJ<|HL<|thn (hi Ln c σ A _ q j) λb s2 ⟨y,z,p,d,g⟩=>?_;calc HJ<|IF<|HJ<|HL<|thn (k Ln s2 σ z x y v a b u _ p e d r g) λ_ B ⟨w,n,f⟩=>?_;calc wpAny_release ⟨σ,w,n,f⟩
def za(te:TE)(g:TG):TS:=λD σ H=>te σ H λx a=>g x σ a D.nx
theorem wY{a e:Ij}{te:TE}{g:TG}(k:PE X e te)(j:PG X a g)(i:swapsWithSole [a] e pos.line X.env=pure false:=by rfl)(f:swappedStores [a] e X.env=pure none:=by rfl)
  (l:(IC [a] X.env).map (·.2)=[assign a X.env]:=by rfl):PS X (.Assign [a] e pos) (za te g):=by
 intro Ln s σ H D I h;calc wpAny_Assign_stores (thn (k Ln s σ H _ I h) λv b ⟨x,n,m,c,d⟩=>?_) i f;rw[l];calc thn (j Ln b σ n x v _ m c d) λ_ s2 q=>q
theorem aG{i:Nat}{x:Str}{e:Ij}{te:TE}{a:Pos}(k:X.N.Nodup)(hi:X.N[i]?=Lh x)(d:Loc X.env.scope x)(j:PE X e te)(f:IA e (Lh<|.Name x a) pos.line X.env=pure false:=by rfl)(g:X.fn x=Lj\/X.env.scope.names.lookup x=Lh .local:=by first|exact .inl U|exact .inr U|assumption) :
  PS X (.Assign [.Name x a] e pos) (za te<|pf i):=by
 intro Ln s σ H D I h;calc wpAny_Assign_Name (thn (j Ln s σ H _ I h) λv o ⟨y,n,m,b,c⟩=>?_) f;calc mK m k hi d b (λs2 l=>⟨_,n,l,c⟩) g
inductive Cz(i:Nat)(te:TE)(ti:TIp)(D:Ends)(σ:St)(H:Hp):Prop
 |mk (x:_)(_:σ[i]?=Lh (Lh x))(_:te σ H λy H1=>ti x y H1 λz H2=>D.nx (σ.set i<|Lh z) H2)
theorem wZ{i:Nat}{x:Str}{e:Ij}{te:TE}{g:ID}{ti:TIp}{f:Pos}(P:X.N.Nodup)(hi:X.N[i]?=Lh x)(j:Loc X.env.scope x)(M:PE X e te)(F:PIp X g ti)(L:X.fn x=Lj\/X.env.scope.names.lookup x=Lh .local:=by first|exact .inl U|exact .inr U|assumption) :
  PS X (.AugAssign (.Name x f) g e pos) (Cz i te ti):=by
 intro Ln s σ H D I h;let(v,Q,h):=h;let(m,G,K):=I.loc;let n:Vis X.env.scope x:=by rcases j with k|k;calc .inl k;exact .inr<|.inl k
 let(u,r,l):=K i x v hi Q n;calc wpAny_AugAssign_Name ?_;let o:Ih (model X.prog X.w) X.A (eval e X.env) (λw d=>Ih (model X.prog X.w) X.A (inplaceOp g u w) (λr b=>Ih (model X.prog X.w) X.A (Ii X.env x r) (λ_=>SP X Ln D .next) X.xe b) X.xe d) X.xe s:=by
  refine thn (M Ln s σ H _ I h) λw p ⟨y,W,T,t,C⟩=>?_
  refine thn (F Ln p σ W v y u w _ T r t C) λz s2 ⟨Y,V,S,q,B⟩=>?_
  exact mK S P hi j q (λZ R=>⟨_,V,R,B⟩) L
 rcases l with⟨a,J⟩|⟨a,c,O,E⟩
 .exact Ir I.ok.kind a G J o
 .rcases a with a|a
  .exact Iu I.ok.kind a O E o
  .rcases j with k|k
   .let:X.env.scope.names.lookup x=Lh .free:=a;rw[k]at this;cases this
   .let:X.env.scope.names.lookup x=Lh .free:=a;rw[k]at this;cases this
def ipI(f:Int->Int->Int):TIp:=λx y H Q=>∃i j,x=.int i/\y=.int j/\Q (.int<|f i j) H
theorem A7:PIp X .Add (ipI λi j=>i+j):=by
 intro Ln s σ H x y v u Q I b a h;let(i,j,d,c,q):=h;subst d;subst c;let(t,rfl):=b;let(e,rfl):=a;calc iadd_int ⟨.int _,H,I.tok _,⟨_,U⟩,q⟩
def A8(c:TT)(tb:TS):TS:=λD σ H=>∃W:Nat->St->Hp->Prop,(∃m,W m σ H)/\∀m σ H,W m σ H ->
 c σ H λb e=>if b=Lj then ∃N:St->Hp->Prop,(∀a H',N a H'->∃d,d<m/\W d a H')/\tb { D with nx:=N,ct:=N,bk:=D.nx } σ e else D.nx σ e
theorem w6{c:Ij}{body:Ly Io}{p:TT}{tb:TS}(q:IG (model X.prog X.w) X.A X.env X.xe)(F:PT X c p)(G:PSs X body tb):PS X (.While c body [] pos) (A8 p tb):=by
 intro Ln s σ H D I h;let(W,(E,z),i):=h;calc wpAny_While<|codeAny_whileLoop (λn C=>∃g H',Inv X Ln g H' C/\W n g H') ?_ E ⟨σ,H,I,z⟩;rintro n B ⟨d,x,J,y⟩;calc IH q<|thn (F Ln B d x _ J<|i n d x y) λb s2 ⟨u,t,k⟩=>?_;cases b with
 |true =>
  let(N,r,k):=k;rw[Lq U];calc IH q<|thn (G Ln s2 d u _ t k) λf K j=>?_;cases f with
  |next =>
   let(a,e,o,n3):=j;let(l,m,w3):=r a e n3;exact⟨l,m,a,e,o,w3⟩
  |cont =>
   let(a,e,o,n3):=j;let(l,m,w3):=r a e n3;exact⟨l,m,a,e,o,w3⟩
  |brk=>exact j
  |ret v=>exact j
 |false =>
  rw[Lp Bool.false_ne_true];calc Iy ⟨d,u,t,k⟩
structure It where
 go:Nat->Hp->Prop
 yld:Nat->Hp->V->Hp->Prop
 stop:Nat->Hp->Prop
def ll(X:Cx)(Ln:Ly (HR×Obj))(H:Hp)(b:HR):Prop :=
 H b=Li/\b≠X.env.locals/\b ∉ X.fs/\(b∈X.ex\/X.s₀.heap.objs.size<=b)/\(∀x c,X.env.cells.lookup x=Lh c->c≠b)/\∀p∈X.pn++Ln,p.1≠b
theorem Inv.fpOk{X:Cx}{Ln:Ly (HR×Obj)}{σ:St}{H H':Hp}{s:Ib}{b:HR}(I:Inv X Ln σ H s)(a:↥s<=b)(f:H' b=Li):ll X Ln H' b:=by
 refine⟨f,zl<|zb I.lt a,I.nofs a,.inr<|yW I.sz a,λx c e z=>?_,λp d z=>?_⟩
 .let(v,q):=I.cell x c e;exact Lr (zb q.lt (by rw[z];exact a)) (AJ _)
 .exact Lr (zb (HS.lt_size (I.pin p d).1) (by rw[z];exact a)) (AJ _)
structure Turn(P:HQ)(w:HP)(K:W.Frag)(tg:Ij)(J:It)(fp:Ly HR)(it:HR)(tn:Nat->HS->Prop):Prop where
 mem:it∈fp
 obj:∀i h,tn i h->∀b∈fp,∃o,h.get? b=Lh o/\∀v,o.data≠.cell v
 keep:∀i h h',tn i h->(∀b∈fp,∀o,h.get? b=Lh o->h'.get? b=Lh o)->tn i h'
 item:∀(X:Cx),X.prog=P->X.w=w->X.K=K->X.calm=Lj->∀(i:Nat)(Ln:Ly (HR×Obj))(s:Ib)(σ:St)(H:Hp)(E:HN->Ib->Prop),Inv X Ln σ H s->(∀b∈fp,ll X Ln H b)->tn i s.heap->J.go i H ->
  Ih (model P w) X.A (II<|.ref it) (λr s1=>∃u,r=Lh u /\
   Ih (model P w) X.A (IJ tg (.ref it) u) (λ_ s2=>∃x H',Inv X Ln σ H' s2/\RelV x u/\J.yld i H x H'/\tn (i+1) s2.heap/\∀b∈fp,H' b=Li) E s1) E s
 done:∀(X:Cx),X.prog=P->X.w=w->X.K=K->X.calm=Lj->∀(i:Nat)(Ln:Ly (HR×Obj))(s:Ib)(σ:St)(H:Hp)(E:HN->Ib->Prop),Inv X Ln σ H s->(∀b∈fp,ll X Ln H b)->tn i s.heap->J.stop i H ->
  Ih (model P w) X.A (II<|.ref it) (λr s1=>r=Li/\Inv X Ln σ H s1) E s
 self:∀(A:Ia)(i:Nat)(s:Ib)(Q:HN->Ib->Prop)(E:HN->Ib->Prop),tn i s.heap->Q (.ref it) s->Ih (model P w) A (IK<|.ref it) Q E s
abbrev TI:=St->Hp->(It->Hp->Prop)->Prop
def PIE(X:Cx)(Ln:Ly (HR×Obj))(σ:St)(e:Ij)(R:It->Hp->Prop)(a:HN)(s2:Ib):Prop :=
 ∃(it:HR)(d:Ly HR)(c:Nat->HS->Prop)(J:It)(H':Hp),a=.ref it/\Inv X Ln σ H' s2/\Turn X.prog X.w X.K e J d it c/\c 0 s2.heap/\(∀b∈d,ll X Ln H' b)/\R J H'
def PI(X:Cx)(c a:Ij)(b:TI):Prop :=
 ∀(Ln:Ly (HR×Obj))(s:Ib)(σ:St)(H:Hp)(R:It->Hp->Prop),Inv X Ln σ H s->b σ H R ->
  Ih (model X.prog X.w) X.A (eval a X.env) (λv d=>Ih (model X.prog X.w) X.A (IK v) (PIE X Ln σ c R) X.xe d) X.xe s
theorem ph{M:Ig}{A:Ia}{E:HN->Ib->Prop}{s:Ib}{b:Ij}{it:HR}{u:HN}{o:Obj}{n:String}{vs:Array HN}{Q:Unit->Ib->Prop}(c:s.heap.get? it=Lh o)(f:o.cls=.type n)(e:o.data=.fields vs)
  (d:["enumerate","zip","dict_itemiterator","dict_reverseitemiterator","odict_iterator","itertools.zip_longest","itertools.pairwise"].contains n=Ll) (a:Q () s):Ih M A (IJ b (.ref it) u) Q E s:=by
 unfold IJ
 cases b <;> first
  |exact HK a
  |(cases u <;> first
    |exact HK a
    |(calc HJ (wpAny_load c ?_);rw[f,e];show Ih M A (if (["enumerate","zip","dict_itemiterator","dict_reverseitemiterator","odict_iterator","itertools.zip_longest","itertools.pairwise"].contains n && vs[0]? == Lh (IL _))=Lj then _ else _) Q E s;rw[Lp (by intro h;rw[d,Bool.false_and]at h;cases h)];exact HK a))
def Itl(K:W.Frag)(a:HR):It :=
 ⟨λi H=>∃b x,SqL K H a b/\b[i]?=Lh x,λi H x H'=>H'=H/\∀b,SqL K H a b->b[i]?=Lh x,λi H=>∃b,SqL K H a b/\⇑b<=i⟩
def Itt(K:W.Frag)(a:HR):It :=
 ⟨λi H=>∃b x,SqT K H a b/\b[i]?=Lh x,λi H x H'=>H'=H/\∀b,SqT K H a b->b[i]?=Lh x,λi H=>∃b,SqT K H a b/\⇑b<=i⟩
def Itr(lo:Int)(n:Nat):It:=⟨λi _=>i<n,λi H x H'=>H'=H/\x=.int (lo+i),λi _=>n<=i⟩
theorem vH{P:HQ}{w:HP}{K:W.Frag}{N:Ij}(a it:HR):Turn P w K N (Itl K a) [it] it (λi h=>h.IsListIter it a i) where
 mem:=by simp
 obj:=λi h f b g=>by
  let e:b=it:= ~~~g
  subst e;let(o,e,c,d):=f;exact⟨o,e,λv z=>by rw[d]at z;cases z⟩
 keep:=λi h h' f k=>f.at λo e=>k it (by simp) o e
 item:=by
  intro X y r A L i Ln s σ H E I m f t;subst y r A;let(M,x,l,q):=t;let(J,n,p,R):=I.list l;let(u,T,Q):=n.get q;let(G,F,V,D,C,B):=m it (by simp);refine wpAny_pyNext_list_item f p.isList (x:=u) (~~~T) λh' j O=>?_
  let Z:Inv X Ln σ H { s with heap:=h' }:=I.turned (t':=s.toks) (λb o g e=>(O.2 b g).trans e) G F D C B;let(o,e,c,d):=id j;exact⟨u,U,ph (s:={ s with heap:=h' }) e c d ⋯ ⟨x,H,Z,Q,⟨U,λys S=>by rw[I.list_inj S l];exact q⟩,j,λb g=>(m b g).1⟩⟩
 done:=by
  intro X y r A L i Ln s σ H E I m f t;subst y r A;let(M,l,q):=t;let(J,n,p,R):=I.list l;let(G,F,V,D,C,B):=m it (by simp);let hl:=⇑n;exact wpAny_pyNext_list_end (I.ok.hd L) f p.isList (by simp;lia) λh' Y=>⟨U,I.turned (t':=s.toks) (λb o g e=>Y b o g e) G F D C B⟩
 self:=λ_ _ _ _ _ f h=>wpAny_pyIter_listiter f h
theorem tK{P:HQ}{w:HP}{K:W.Frag}{N:Ij}(a it:HR):Turn P w K N (Itt K a) [it] it (λi h=>h.IsTupleIter it a i) where
 mem:=by simp
 obj:=λi h f b g=>by
  let e:b=it:= ~~~g
  subst e;let(o,e,c,d):=f;exact⟨o,e,λv z=>by rw[d]at z;cases z⟩
 keep:=λi h h' f k=>f.at λo e=>k it (by simp) o e
 item:=by
  intro X A t B L i Ln s σ H E I n f y;subst A t B;let(M,x,m,r):=y;let(j,q,p,R):=I.tuple m;let(u,T,Q):=q.get r;let(J,G,V,F,D,C):=n it (by simp);refine wpAny_pyNext_tuple_item f (show s.heap.IsTuple a j.toArray from p) (x:=u) (~~~T) λh' l O=>?_
  let Z:Inv X Ln σ H { s with heap:=h' }:=I.turned (t':=s.toks) (λb o g e=>(O.2 b g).trans e) J G F D C;let(o,e,c,d):=id l;exact⟨u,U,ph (s:={ s with heap:=h' }) e c d ⋯ ⟨x,H,Z,Q,⟨U,λys S=>by rw[I.tuple_inj S m];exact r⟩,l,λb g=>(n b g).1⟩⟩
 done:=by
  intro X A t B L i Ln s σ H E I n f y;subst A t B;let(M,m,r):=y;let(j,q,p,R):=I.tuple m;let(J,G,V,F,D,C):=n it (by simp);let hl:=⇑q;exact wpAny_pyNext_tuple_end (I.ok.hd L) f (show s.heap.IsTuple a j.toArray from p) (by simp;lia) λh' Y=>⟨U,I.turned (t':=s.toks) (λb o g e=>Y b o g e) J G F D C⟩
 self:=λ_ _ _ _ _ f h=>wpAny_pyIter_tupleiter f h
theorem tL{P:HQ}{w:HP}{K:W.Frag}{C:Ij}(it:HR)(lo:Int)(n:Nat):Turn P w K C (Itr lo n) [it] it (λi h=>IsRangeIter h it (lo+(i:Nat)*1) ((n:Int)-(i:Nat)) 1) where
 mem:=by simp
 obj:=λi h a b c=>by
  let e:b=it:= ~~~c
  subst e;exact⟨_,a,λv z=>by
   let B:Data.fields _=Data.cell v:=z;cases B⟩
 keep:=λi h h' a k=>k it (by simp) _ a
 item:=by
  intro X m g p l i Ln s σ H E I f a j;subst m g p;let(y,x,G,u,r,q):=f it (by simp);let W:=Walks.range (prog:=X.prog) (w:=X.w) (I.ok.hd l) it lo 1 n;refine W.item i s _ _ j a λv h' A F d D=>?_
  let(t,rfl):=F;let L:Inv X Ln σ H { s with heap:=h',toks:=A }:=I.turned (λb o c e=>D b o (~~~c) e) y x u r q;calc⟨_,U,ph (s:={ s with heap:=h',toks:=A }) (n := "range_iterator") d U U ⋯ ⟨.int<|lo+i,H,L,⟨t,?_⟩,⟨U,U⟩,d,λb c=>(f b c).1⟩⟩;rw[Int.mul_one]
 done:=by
  intro X m g p l i Ln s σ H E I f a j;subst m g p;let(y,x,G,u,r,q):=f it (by simp);exact wpAny_pyNext_range_end (I.ok.hd l) a (by have:n<=i:=j;lia) λh' J=>⟨U,I.turned (t':=s.toks) (λb o c e=>J b o c e) y x u r q⟩
 self:=λ_ _ _ _ _ a h=>wpAny_pyIter_rangeiter a h
section
variable{tg:Ij}
inductive xa(K:W.Frag)(R:It->Hp->Prop)(x:V)(H1:Hp):Prop
 |mk (a:_)(_:x=.ref a)(_:(∃xs,SqL K H1 a xs))(_:R (Itl K a) H1)
def CA(K:W.Frag)(a:TE):TI:=λσ H R=>a σ H λx b=>xa K R x b
inductive As(K:W.Frag)(R:It->Hp->Prop)(x:V)(H1:Hp):Prop
 |mk (a:_)(_:x=.ref a)(_:(∃xs,SqT K H1 a xs))(_:R (Itt K a) H1)
def D5(K:W.Frag)(a:TE):TI:=λσ H R=>a σ H λx b=>As K R x b
theorem aQ{l:Ij}{f:TE}(k:PE X l f):PI X tg l (CA X.K f):=by
 intro Ln s σ H R I h;refine thn (k Ln s σ H _ I h) λv c ⟨x,n,d,g,i⟩=>?_
 let(a,e,(t,j),q):=i;subst e;cases g;let(r,u,p,w):=d.list j;calc IM p.isList ?_;calc⟨↥c,[↥c],_,_,n,U,d.kept (t':=c.toks) λb o e=>HS.get?_push_of_some _ e,vH a _,⟨_,HS.get?_push_size _ U,U,U⟩,λb m=>?_,q⟩;let e:b=↥c:= ~~~m
 subst e;calc d.fpOk (xX _)<|d.hok.fresh<|xX _
theorem qg{l:Ij}{g:TE}(m:PE X l g):PI X tg l (D5 X.K g):=by
 intro Ln s σ H R I h;refine thn (m Ln s σ H _ I h) λv c ⟨x,r,d,i,j⟩=>?_
 let(a,e,(t,k),q):=j;subst e;cases i;let(f,u,p,w):=d.tuple k;refine wpAny_pyIter_tuple (show c.heap.IsTuple a f.toArray from p) ?_;calc⟨↥c,[↥c],_,_,r,U,d.kept (t':=c.toks) λb o e=>HS.get?_push_of_some _ e,tK a _,⟨_,HS.get?_push_size _ U,U,U⟩,λb n=>?_,q⟩;let e:b=↥c:= ~~~n
 subst e;calc d.fpOk (xX _)<|d.hok.fresh<|xX _
theorem q8{Ln:Ly (HR×Obj)}{σ:St}{H:Hp}{s:Ib}{R:It->Hp->Prop}{E:HN->Ib->Prop}{lo hi:Int}{t u v:Tok}{a:Nat}(I:Inv X Ln σ H s)(i : -(2^62)<=lo)(h:lo<2^62)(g : -(2^62)<=hi)(f:hi<2^62)
  (q:R (Itr lo (hi-lo).toNat) H):Ih (model X.prog X.w) X.A (IK<|.ref ↥s) (PIE X Ln σ tg R) E { s with heap:=s.heap.push { cls:=.type "range",data:=.fields #[.int lo t,.int hi u,.int 1 v] },toks:=a }:=by
 calc wpAny_pyIter_range (IsRange.new ..) (small_one i h g f) ?_;let c:Inv X Ln σ H { s with heap:=s.heap.push { cls:=.type "range",data:=.fields #[.int lo t,.int hi u,.int 1 v] },toks:=a }:=I.kept λb o e=>HS.get?_push_of_some _ e
 refine⟨(s.heap.push { cls:=.type "range",data:=.fields #[.int lo t,.int hi u,.int 1 v] }).objs.size,[(s.heap.push { cls:=.type "range",data:=.fields #[.int lo t,.int hi u,.int 1 v] }).objs.size],_,_,H,U,
  c.kept (t':=a) λb o e=>HS.get?_push_of_some _ e,tL _ lo (hi-lo).toNat,?_,λb d=>?_,q⟩
 .let k:lo+((0:Nat):Int)*1=lo:=by simp
  let j:(((hi-lo).toNat:Nat):Int)-((0:Nat):Int)=IP.Range.rangeSize lo hi 1:=by rw[rangeSize_one];split <;> lia
  show IsRangeIter _ _ (lo+((0:Nat):Int)*1) ((((hi-lo).toNat:Nat):Int)-((0:Nat):Int)) 1;rw[k,j];exact HS.get?_push_size _ U
 .let e:b=(s.heap.push { cls:=.type "range",data:=.fields #[.int lo t,.int hi u,.int 1 v] }).objs.size:= ~~~d
  subst e;calc c.fpOk (xX _)<|c.hok.fresh<|xX _
inductive xb  (R:It->Hp->Prop)(vs:Ly V)(H1:Hp):Prop
 |mk (j:Int)(_:vs=[.int j])(_ : -(2^62)<=j)(_:j<2^62)(_:R (Itr 0 j.toNat) H1):xb R vs H1
def CB(ta:TA):TI:=λσ H R=>ta σ H λa b=>xb R a b
inductive xf  (R:It->Hp->Prop)(vs:Ly V)(H1:Hp):Prop
 |mk (i j:Int)(_:vs=[.int i,.int j])(_:(-(2^62)<=i/\i<2^62/\-(2^62)<=j/\j<2^62))(_:R (Itr i (j-i).toNat) H1):xf R vs H1
def CC(ta:TA):TI:=λσ H R=>ta σ H λa b=>xf R a b
theorem bB{a:Ij}{ta:TA}{p pos:Pos}(i:Gl X "range") (hm:X.mg "range" = Li) (k:PA X [a] ta)(g:Im [a] X.env=[(Ll,eval a X.env)]:=by rfl):PI X tg (.Call (.Name "range" p) [a] [] pos) (CB ta):=by
 intro Ln s σ H R I h;calc Call_<|fU I i hm boot_range<|PyProof.Rows.callWith_type1 (thn (k pos Ln s σ H _ I h) λn o ⟨m,u,l,d,b⟩=>?_) g U;let(j,e,b,f,q):=b;subst e;cases d with
 |cons r c =>
  cases c;let(t,rfl):=r;calc call_range_1<|q8 l ∅ ∅ b f (~~~q)
theorem lp{a b:Ij}{ta:TA}{p pos:Pos}(u:Gl X "range") (hm:X.mg "range" = Li) (v:PA X [a,b] ta)(o:Im [a,b] X.env=[(Ll,eval a X.env),(Ll,eval b X.env)]:=by rfl)(c:Im [b] X.env=[(Ll,eval b X.env)]:=by rfl) :
  PI X tg (.Call (.Name "range" p) [a,b] [] pos) (CC ta):=by
 intro Ln s σ H R I h;refine Call_ (fU I u hm boot_range<|PyProof.Rows.callWith_type1 (thn (v pos Ln s σ H _ I h) λy A ⟨x,B,w,g,f⟩=>?_) (by rw[o,c]) (by rw[c];rfl));let(i,j,e,(f,n,m,l),q):=f;subst e;cases g with
 |cons r d =>
  cases d with
  |cons k d =>
   cases d;let(t,rfl):=r;let(z,rfl):=k;calc call_range_2<|q8 w f n m l q
def D6(d:TI)(g:TG)(tb:TS):TS:=λD σ H=>d σ H λJ f=>∃W:Nat->Nat->St->Hp->Prop,(∃m,W 0 m σ f)/\∀i m σ H,W i m σ H ->
 (J.stop i H/\D.nx σ H)\/(J.go i H/\∃N:St->Hp->Prop,(∀a H',N a H'->∃c,c<m/\W (i+1) c a H')/\∀x H',J.yld i H x H'->g x σ H' λb e=>tb { D with nx:=N,ct:=N,bk:=D.nx } b e)
def lq(a:Ly HR)(h:HS):Ly (HR×Obj):=a.filterMap λb=>(h.get? b).map λo=>(b,o)
theorem d6{a:Ly HR}{h:HS}{b:HR}{o:Obj}(c:b∈a)(e:h.get? b=Lh o):(b,o)∈lq a h:=List.mem_filterMap.mpr ⟨b,c,by rw[e];rfl⟩
theorem vI{a:Ly HR}{h:HS}{p:HR×Obj}(c:p∈lq a h):p.1∈a/\h.get? p.1=Lh p.2:=by
 let(b,d,e):=List.mem_filterMap.mp c;cases q:h.get? b with
 |none=>rw[q]at e;cases e
 |some o =>
  rw[q]at e;let f:(b,o)=p:=Option.some.inj e;subst f;calc⟨d,q⟩
theorem Inv.pinned{Ln:Ly (HR×Obj)}{σ:St}{H:Hp}{s:Ib}{a:Ly HR}(I:Inv X Ln σ H s)(i:∀b∈a,ll X Ln H b)(h:∀b∈a,∃o,s.heap.get? b=Lh o/\∀v,o.data≠.cell v):Inv X (Ln++lq a s.heap) σ H s :=
 I.pins_of λp g=>(hZ.mp g).elim (λz=>I.pin p<|jW _ z) λz=>by
  let(c,e):=vI z;let(l,k,j,_):=i p.1 c;let(o,f,d):=h p.1 c;rw[e]at f;cases f;calc⟨e,l,k,j,d⟩
def Inv.unpinned{Ln pl:Ly (HR×Obj)}{σ:St}{H:Hp}{s:Ib}(I:Inv X (Ln++pl) σ H s):Inv X Ln σ H s:=I.pins_of λp a=>I.pin p<|jW _<|nL _ a
theorem bp{q:Ij}{body:Ly Io}{Y:TI}{g:TG}{tb:TS}{pos:Pos}(B:IG (model X.prog X.w) X.A X.env X.xe)(hc:X.calm=Lj)(hi:PI X tg q Y)(hg:PG X tg g)(c:PSs X body tb)
  (hs:∀x,IQ q X.env x=pure x:=by intro _;rfl):PS X (.For tg q body [] pos) (D6 Y g tb):=by
 intro Ln s σ H D I h;calc wpAny_For (thn (hi Ln s σ H _ I h) λv s1 h1=>thn h1 λa0 s2 h2=>?_) hs;let(it,C,Z,J,H2,e,I2,T,R,f2,W,(m0,w0),G):=h2;subst e;let P:∀{H':Hp},(∀b∈C,H' b=Li)->∀b∈C,ll X Ln H' b:=λhn b c=>⟨hn b c,(f2 b c).2⟩
 calc codeAny_forLoop_any (λn s'=>∃i p H',Inv X Ln p H' s'/\Z i s'.heap/\(∀b∈C,H' b=Li)/\W i n p H') ?_ m0 ⟨0,σ,H2,I2,R,λb c=>(f2 b c).1,w0⟩;rintro n s3 ⟨i,l,L,I3,E,F,w3⟩;rcases G i n l L w3 with⟨K,qn⟩|⟨go,N,hN,step⟩
 .refine IH B<|thn (T.done X U U U hc i Ln s3 l L X.xe I3 (P F) E K) λr s4 ⟨O,I4⟩=>?_;subst O;exact Iy ⟨l,L,I4,qn⟩
 .refine IH B<|thn (T.item X U U U hc i Ln s3 l L X.xe I3 (P F) E go) λr s4 ⟨u,O,h4⟩=>?_;subst O;calc IH B<|thn h4 λ_ s5 ⟨x,H5,I5,r5,y5,y,S⟩=>?_;let V:=I5.pinned (P S)<|T.obj _ _ y;calc IH B<|thn (hg _ s5 l H5 x u _ V r5<|step x H5 y5) λ_ s6 ⟨Q,H6,I6,q6⟩=>?_;calc IH B<|thn (c _ s6 Q H6 _ I6 q6) λf M t=>?_;let again:∀{a:St}{k:Hp},Inv X (Ln++lq C s5.heap) a k M->N a k->∃m,m<n/\∃i p H',Inv X Ln p H' M/\Z i M.heap/\(∀b∈C,H' b=Li)/\W i m p H':=λ{a k} j z=>by
   let(m',hm,w7):=hN a k z;calc⟨m',hm,i+1,a,k,j.unpinned,T.keep _ _ _ y λb c o e=>(j.pin (b,o)<|jW _<|jW _<|d6 c e).1,λb c=>?_,w7⟩;let(o,e,d):=T.obj _ _ y b c;exact(j.pin (b,o)<|jW _<|jW _<|d6 c e).2.1
  cases f with
  |next=>obtain⟨a,k,j,z⟩:=t;exact again j z
  |cont=>obtain⟨a,k,j,z⟩:=t;exact again j z
  |brk=>obtain⟨a,k,j,t⟩:=t;exact⟨a,k,j.unpinned,t⟩
  |ret v=>obtain⟨x7,a,k,j,r7,t⟩:=t;calc⟨x7,a,k,j.unpinned,r7,t⟩
end
theorem bu{K:W.Frag}{a:HR}{xs:Ly V}{g:TG}{tb:TS}{D:Ends}{σ:St}{H:Hp}(b:Nat->St->Hp->Prop)(r:b 0 σ H)(n:∀i σ H,i<=⇑xs->b i σ H->SqL K H a xs)
  (l:∀i x σ H,xs[i]?=Lh x->b i σ H->g x σ H λc h=>tb { D with nx:=b<|i+1,ct:=b<|i+1,bk:=D.nx } c h)(o:∀σ H,b ⇑xs σ H->D.nx σ H) :
  ∃W:Nat->Nat->St->Hp->Prop,(∃m,W 0 m σ H)/\∀i m σ H,W i m σ H ->
   ((Itl K a).stop i H/\D.nx σ H)\/((Itl K a).go i H/\∃N:St->Hp->Prop,(∀d H',N d H'->∃j,j<m/\W (i+1) j d H')/\∀x H',(Itl K a).yld i H x H'->g x σ H' λc h=>tb { D with nx:=N,ct:=N,bk:=D.nx } c h):=by
 refine⟨λi m σ H=>m=⇑xs-i/\i<=⇑xs/\b i σ H,⟨⇑xs,by simp,yX _,r⟩,?_⟩;rintro i m σ H ⟨rfl,hi,p⟩;let q:=n i σ H hi p;by_cases f:i<⇑xs
 .refine .inr ⟨⟨xs,xs[i],q,by simp[f]⟩,b<|i+1,λd H' k=>⟨⇑xs-(i+1),∅,U,f,k⟩,λx H' y=>?_⟩;let(e,y):=y;subst e;exact l i x σ _ (y xs q) p
 .let e:i=⇑xs:=∅
  subst e;calc .inl ⟨⟨xs,q,xX _⟩,o σ H p⟩
theorem uS{K:W.Frag}{a:HR}{xs:Ly V}{g:TG}{tb:TS}{D:Ends}{σ:St}{H:Hp}(b:Nat->St->Hp->Prop)(r:b 0 σ H)(n:∀i σ H,i<=⇑xs->b i σ H->SqT K H a xs)
  (l:∀i x σ H,xs[i]?=Lh x->b i σ H->g x σ H λc h=>tb { D with nx:=b<|i+1,ct:=b<|i+1,bk:=D.nx } c h)(o:∀σ H,b ⇑xs σ H->D.nx σ H) :
  ∃W:Nat->Nat->St->Hp->Prop,(∃m,W 0 m σ H)/\∀i m σ H,W i m σ H ->
   ((Itt K a).stop i H/\D.nx σ H)\/((Itt K a).go i H/\∃N:St->Hp->Prop,(∀d H',N d H'->∃j,j<m/\W (i+1) j d H')/\∀x H',(Itt K a).yld i H x H'->g x σ H' λc h=>tb { D with nx:=N,ct:=N,bk:=D.nx } c h):=by
 refine⟨λi m σ H=>m=⇑xs-i/\i<=⇑xs/\b i σ H,⟨⇑xs,by simp,yX _,r⟩,?_⟩;rintro i m σ H ⟨rfl,hi,p⟩;let q:=n i σ H hi p;by_cases f:i<⇑xs
 .refine .inr ⟨⟨xs,xs[i],q,by simp[f]⟩,b<|i+1,λd H' k=>⟨⇑xs-(i+1),∅,U,f,k⟩,λx H' y=>?_⟩;let(e,y):=y;subst e;exact l i x σ _ (y xs q) p
 .let e:i=⇑xs:=∅
  subst e;calc .inl ⟨⟨xs,q,xX _⟩,o σ H p⟩
theorem dC{lo:Int}{n:Nat}{g:TG}{tb:TS}{D:Ends}{σ:St}{H:Hp}(a:Nat->St->Hp->Prop)(o:a 0 σ H)
  (k:∀i σ H,i<n->a i σ H->g (.int<|lo+i) σ H λb f=>tb { D with nx:=a<|i+1,ct:=a<|i+1,bk:=D.nx } b f)(l:∀σ H,a n σ H->D.nx σ H) :
  ∃W:Nat->Nat->St->Hp->Prop,(∃m,W 0 m σ H)/\∀i m σ H,W i m σ H ->
   ((Itr lo n).stop i H/\D.nx σ H)\/((Itr lo n).go i H/\∃N:St->Hp->Prop,(∀c H',N c H'->∃h,h<m/\W (i+1) h c H')/\∀x H',(Itr lo n).yld i H x H'->g x σ H' λb f=>tb { D with nx:=N,ct:=N,bk:=D.nx } b f):=by
 refine⟨λi m σ H=>m=n-i/\i<=n/\a i σ H,⟨n,by simp,yX _,o⟩,?_⟩;rintro i m σ H ⟨rfl,hi,p⟩;by_cases d:i<n
 .refine .inr ⟨d,a<|i+1,λc H' j=>⟨n-(i+1),∅,U,d,j⟩,λx H' y=>?_⟩;let(e,y):=y;subst e y;exact k i σ _ d p
 .let e:i=n:=∅
  subst e;calc .inl ⟨xX _,l σ H p⟩
abbrev R2:=V->V->Hp->VK->Prop
def OpR(X:Cx)(f:HN->HN->Sem HN)(r:R2):Prop :=
 ∀(Ln:Ly (HR×Obj))(s:Ib)(σ:St)(H:Hp)(x y:V)(v u:HN)(Q:VK),Inv X Ln σ H s->RelV x v->RelV y u->r x y H Q ->
  Ih (model X.prog X.w) X.A (f v u) (EP X Ln σ Q) X.xe s
def UnR(X:Cx)(f:HN->Sem HN)(r:V->Hp->VK->Prop):Prop :=
 ∀(Ln:Ly (HR×Obj))(s:Ib)(σ:St)(H:Hp)(x:V)(v:HN)(Q:VK),Inv X Ln σ H s->RelV x v->r x H Q ->
  Ih (model X.prog X.w) X.A (f v) (EP X Ln σ Q) X.xe s
def cF(X:Cx)(f:HN)(r:Ly V->Hp->VK->Prop):Prop :=
 ∀(Ln:Ly (HR×Obj))(s:Ib)(σ:St)(H:Hp)(a:Ly V)(b:Ly HN)(Q:VK),Inv X Ln σ H s->Vals a b->r a H Q ->
  Ih (model X.prog X.w) X.A (call f b) (EP X Ln σ Q) X.xe s
def D7(X:Cx)(r:V->Hp->(Bool->Hp->Prop)->Prop):Prop :=
 ∀(Ln:Ly (HR×Obj))(s:Ib)(σ:St)(H:Hp)(x:V)(v:HN)(Q:Bool->Hp->Prop),Inv X Ln σ H s->RelV x v->r x H Q ->
  Ih (model X.prog X.w) X.A (truthy v) (TP X Ln σ Q) X.xe s
def tOp(r:R2)(ta tb:TE):TE:=λσ H Q=>ta σ H λx b=>tb σ b λy a=>r x y a Q
def tUn(r:V->Hp->VK->Prop)(ta:TE):TE:=λσ H Q=>ta σ H λx a=>r x a Q
inductive rI(C:Int->Int->Prop)(g:Int->Int->V)(x:V)(y:V)(H:Hp)(Q:VK):Prop
 |mk (i j:_)(_:x=.int i)(_:y=.int j)(_:C i j)(_:Q (g i j) H)
inductive rI0(g:Int->Int->V)(x:V)(y:V)(H:Hp)(Q:VK):Prop
 |mk (i j:_)(_:x=.int i)(_:y=.int j)(_:Q (g i j) H)
inductive rU(g:Int->V)(x:V)(H:Hp)(Q:VK):Prop
 |mk (i:_)(_:x=.int i)(_:Q (g i) H)
section
variable{a b c:Ij}{tc:TE}
theorem Ba(o:PE X a ta)(n:PE X b tb){Ln:Ly (HR×Obj)}{s:Ib}{σ:St}{H:Hp}{R:V->V->Hp->Prop}(I:Inv X Ln σ H s)
  (h:ta σ H λx g=>tb σ g λy c=>R x y c){Q:HN->Ib->Prop}{f:HN->HN->Sem HN}
  (hf:∀v u s2 x y c,Inv X Ln σ c s2->RelV x v->RelV y u->R x y c->Ih (model X.prog X.w) X.A (f v u) Q X.xe s2) :
  Ih (model X.prog X.w) X.A (eval a X.env) (λv e=>Ih (model X.prog X.w) X.A (eval b X.env) (λu d=>Ih (model X.prog X.w) X.A (f v u) Q X.xe d) X.xe e) X.xe s:=by
 refine thn (o Ln s σ H _ I h) λv i ⟨x,g,q,k,m⟩=>?_
 refine thn (n Ln i σ g _ q m) λu s2 ⟨y,c,p,j,l⟩=>?_
 calc hf v u s2 x y c p k j l
theorem aD{c:ID}{r:R2}(f:OpR X (IS c) r)(i:PE X a ta)(g:PE X b tb):PE X (.BinOp a c b pos) (tOp r ta tb):=by
 intro Ln s σ H Q I h;calc wpAny_BinOp<|Ba i g I h λv u s2 x y k j e d q=>f Ln s2 σ k x y v u Q j e d q
theorem mL{b:UnaryOp}{r:V->Hp->VK->Prop}(f:UnR X (unaryOp b) r)(g:PE X a ta):PE X (.UnaryOp b a pos) (tUn r ta):=by
 intro Ln s σ H Q I h;calc UnaryOp_<|thn (g Ln s σ H _ I h) λv c ⟨x,j,i,d,e⟩=>f Ln c σ j x v Q i d e
theorem opI{f:HN->HN->Sem HN}{C:Int->Int->Prop}{g:Int->Int->Int}
  (rule:∀(i j:Int)(t u:Tok)(s:Ib)(Q:HN->Ib->Prop)(E:HN->Ib->Prop),C i j->Q (.int (g i j) s.toks) { s with toks:=s.toks+1 }->Ih (model X.prog X.w) X.A (f (.int i t)<|.int j u) Q E s) :
  OpR X f (rI C λi j=>.int<|g i j):=by
 intro Ln s σ H x y v u Q I c b h;let(i,j,rfl,rfl,d,q):=h;let(t,rfl):=c;let(a,rfl):=b;calc rule i j t a s _ _ d ⟨.int<|g i j,H,I.tok _,⟨_,U⟩,q⟩
theorem Bb{f:HN->HN->Sem HN}{g:Int->Int->Int}
  (rule:∀(i j:Int)(t u:Tok)(s:Ib)(Q:HN->Ib->Prop)(E:HN->Ib->Prop),Q (.int (g i j) s.toks) { s with toks:=s.toks+1 }->Ih (model X.prog X.w) X.A (f (.int i t)<|.int j u) Q E s) :
  OpR X f (rI0 λi j=>.int<|g i j):=by
 intro Ln s σ H x y v u Q I c b h;let(i,j,rfl,rfl,q):=h;let(t,rfl):=c;let(a,rfl):=b;calc rule i j t a s _ _ ⟨.int<|g i j,H,I.tok _,⟨_,U⟩,q⟩
theorem Bc{f:HN->HN->Sem HN}{g:Int->Int->Bool}
  (rule:∀(i j:Int)(t u:Tok)(s:Ib)(Q:HN->Ib->Prop)(E:HN->Ib->Prop),Q (.bool<|g i j) s->Ih (model X.prog X.w) X.A (f (.int i t)<|.int j u) Q E s) :
  OpR X f (rI0 λi j=>.bl<|g i j):=by
 intro Ln s σ H x y v u Q I c b h;let(i,j,rfl,rfl,q):=h;let(t,rfl):=c;let(a,rfl):=b;calc rule i j t a s _ _ ⟨.bl<|g i j,H,I,U,q⟩
def D8(i j:Int):Prop:=0<j/\j<1073741824
def CD(i j:Int):Prop:=0<=j/\j<=1000000/\i.natAbs<2^64
def zc(i j:Int):Prop:=(-(2^64)<i/\i<2^64)\/(-(2^64)<j/\j<2^64)
theorem zc.ok{i j:Int}(h:zc i j):IT i j:=by
 rcases h with⟨b,a⟩|⟨b,a⟩
 .exact .of_left<|IU b a
 .exact .of_right<|IU b a
theorem tM(k:Nat):(0:Int)<=2^k:=by
 rw[two_pow_cast];calc Int.natCast_nonneg _
def bE:OpR X (IS .Add) (rI0 λi j=>.int<|i+j):=Bb λ_ _ _ _ _ _ _ q=>add_int q
def dI:OpR X (IS .Sub) (rI0 λi j=>.int<|i-j):=Bb λ_ _ _ _ _ _ _ q=>sub_int q
def fW:OpR X (IS .Mult) (rI zc λi j=>.int<|i*j):=opI λ_ _ _ _ _ _ _ a q=>mul_int q a.ok
theorem dJ:OpR X (IS .FloorDiv) (rI D8 λi j=>.int<|i / j):=opI λi j _ _ _ _ _ a q=>by
 let c:(0:Int)<j:=a.1;let b:j<1073741824:=a.2;calc floordiv_int ∅ (by rw[Int.fdiv_eq_ediv_of_nonneg i ∅];exact q) (.inl<|PyProof.noPylong_small ∅)
theorem bR:OpR X (IS .Mod) (rI (λ_ j=>0<j) λi j=>.int<|i%j):=opI λi j _ _ _ _ _ a q=>by
 let b:(0:Int)<j:=a;calc mod_int' ∅ (by rw[Int.fmod_eq_emod_of_nonneg i ∅];exact q)
def iu:OpR X (IS .Pow) (rI CD λi j=>.int<|i^j.toNat):=opI λ_ _ _ _ _ _ _ a q=>pow_int_small a.1 a.2.1 a.2.2 q
def xg:OpR X (IS .LShift) (rI CD λi j=>.int<|i*2^j.toNat):=opI λ_ _ _ _ _ _ _ a q=>lshift_int_small a.1 a.2.1 a.2.2 q
theorem Bd:OpR X (IS .RShift) (rI (λ_ j=>0<=j) λi j=>.int<|i / 2^j.toNat):=opI λi j _ _ _ _ _ a q =>
 rshift_int a (by rw[Int.fdiv_eq_ediv_of_nonneg i (tM _)];exact q)
def Be:OpR X (IS .BitAnd) (rI0 λi j=>.int<|IP.bitAnd i j):=Bb λ_ _ _ _ _ _ _ q=>and_int q
theorem unI{f:HN->Sem HN}{g:Int->Int}
  (rule:∀(i:Int)(t:Tok)(s:Ib)(Q:HN->Ib->Prop)(E:HN->Ib->Prop),Q (.int (g i) s.toks) { s with toks:=s.toks+1 }->Ih (model X.prog X.w) X.A (f<|.int i t) Q E s) :
  UnR X f (rU λi=>.int<|g i):=by
 intro Ln s σ H x v Q I a h;let(i,rfl,q):=h;let(t,rfl):=a;calc rule i t s _ _ ⟨.int<|g i,H,I.tok _,⟨_,U⟩,q⟩
def jG:UnR X (unaryOp .USub) (rU λi=>.int<|-i):=unI λ_ _ _ _ _ q=>neg_int q
end
def CF:V->V->Bool
 | .non,.non=>Lj | .non,.int _=>Lj | .int _,.non=>Lj | .non,.bl _=>Lj | .bl _,.non=>Lj | .non,.str _=>Lj | .str _,.non=>Lj
 | .int _,.int _=>Lj | .bl _,.bl _=>Lj | .str _,.str _=>Lj | .byt _,.byt _=>Lj
 | .int _,.str _=>Lj | .str _,.int _=>Lj | .bl _,.str _=>Lj | .str _,.bl _=>Lj
 |_,_=>Ll
def rEq:R2:=λx y H Q=>CF x y=Lj/\Q (.bl<|Lm<|x=y) H
def rNe:R2:=λx y H Q=>CF x y=Lj/\Q (.bl<|!Lm (x=y)) H
theorem uT{i j:Int}:decide (V.int i=V.int j)=(i == j):=by
 rw[Bool.eq_iff_iff];simp
theorem xh{i j:Bool}:decide (V.bl i=V.bl j)=(i == j):=by
 rw[Bool.eq_iff_iff];simp
theorem uU{i j:Str}:decide (V.str i=V.str j)=(i == j):=by
 rw[Bool.eq_iff_iff];simp
theorem uV{i j:Array UInt8}:decide (V.byt i=V.byt j)=(i.toList == j.toList):=by
 rw[Bool.eq_iff_iff];cases i;cases j;simp
section
variable{a b c:Ij}{tc:TE}
theorem bz{Ln:Ly (HR×Obj)}{σ:St}{H:Hp}{s:Ib}{Q:VK}{k a:Bool}(I:Inv X Ln σ H s)(q:Q (.bl k) H)(e:k=a):EP X Ln σ Q (.bool a) s:=by
 subst e;calc⟨.bl k,H,I,U,q⟩
theorem cb:OpR X (IV .Eq) rEq:=by
 intro Ln s σ H x y v u Q I d a h;let(c,q):=h;cases x with
 |non =>
  cases d;cases y with
  |non=>cases a;exact PySem.EqNone.eq_none_none<|bz I q (by simp)
  |bl j=>cases a;exact PySem.EqNone.eq_none_bool<|bz I q (by simp)
  |int j=>obtain⟨b,rfl⟩:=a;exact PySem.EqNone.eq_none_int<|bz I q (by simp)
  |str j=>obtain⟨b,rfl⟩:=a;exact PySem.EqNone.eq_none_str<|bz I q (by simp)
  |_=>exact Lr (show Ll=Lj from c) Bool.false_ne_true
 |bl i =>
  cases d;cases y with
  |non=>cases a;exact PySem.EqNone.eq_bool_none<|bz I q (by simp)
  |bl j=>cases a;exact eq_bool<|bz I q xh
  |str j=>obtain⟨b,rfl⟩:=a;exact PySem.EqMixed.eq_bool_str<|bz I q (by simp)
  |_=>exact Lr (show Ll=Lj from c) Bool.false_ne_true
 |int i =>
  let(t,rfl):=d;cases y with
  |non=>cases a;exact PySem.EqNone.eq_int_none<|bz I q (by simp)
  |int j=>obtain⟨b,rfl⟩:=a;exact eq_int<|bz I q uT
  |str j=>obtain⟨b,rfl⟩:=a;exact PySem.EqMixed.eq_int_str<|bz I q (by simp)
  |_=>exact Lr (show Ll=Lj from c) Bool.false_ne_true
 |str i =>
  let(t,rfl):=d;cases y with
  |non=>cases a;exact PySem.EqNone.eq_str_none<|bz I q (by simp)
  |bl j=>cases a;exact PySem.EqMixed.eq_str_bool<|bz I q (by simp)
  |int j=>obtain⟨b,rfl⟩:=a;exact PySem.EqMixed.eq_str_int<|bz I q (by simp)
  |str j=>obtain⟨b,rfl⟩:=a;exact eq_str<|bz I q uU
  |_=>exact Lr (show Ll=Lj from c) Bool.false_ne_true
 |byt i =>
  let(t,rfl):=d;cases y with
  |byt j=>obtain⟨b,rfl⟩:=a;exact W.eq_bytes<|bz I q uV
  |_=>exact Lr (show Ll=Lj from c) Bool.false_ne_true
 |_=>cases y <;> calc Lr (show Ll=Lj from c) Bool.false_ne_true
theorem l7:OpR X (IV .NotEq) rNe:=by
 intro Ln s σ H x y v u Q I d a h;let(c,q):=h;cases x with
 |non =>
  cases d;cases y with
  |non=>cases a;exact PySem.EqNone.ne_none_none<|bz I q (by simp)
  |bl j=>cases a;exact PySem.EqNone.ne_none_bool<|bz I q (by simp)
  |int j=>obtain⟨b,rfl⟩:=a;exact PySem.EqNone.ne_none_int<|bz I q (by simp)
  |str j=>obtain⟨b,rfl⟩:=a;exact PySem.EqNone.ne_none_str<|bz I q (by simp)
  |_=>exact Lr (show Ll=Lj from c) Bool.false_ne_true
 |bl i =>
  cases d;cases y with
  |non=>cases a;exact PySem.EqNone.ne_bool_none<|bz I q (by simp)
  |bl j=>cases a;exact ne_bool<|bz I q<|Lw not xh
  |str j=>obtain⟨b,rfl⟩:=a;exact PySem.EqMixed.ne_bool_str<|bz I q (by simp)
  |_=>exact Lr (show Ll=Lj from c) Bool.false_ne_true
 |int i =>
  let(t,rfl):=d;cases y with
  |non=>cases a;exact PySem.EqNone.ne_int_none<|bz I q (by simp)
  |int j=>obtain⟨b,rfl⟩:=a;exact ne_int<|bz I q<|Lw not uT
  |str j=>obtain⟨b,rfl⟩:=a;exact PySem.EqMixed.ne_int_str<|bz I q (by simp)
  |_=>exact Lr (show Ll=Lj from c) Bool.false_ne_true
 |str i =>
  let(t,rfl):=d;cases y with
  |non=>cases a;exact PySem.EqNone.ne_str_none<|bz I q (by simp)
  |bl j=>cases a;exact PySem.EqMixed.ne_str_bool<|bz I q (by simp)
  |int j=>obtain⟨b,rfl⟩:=a;exact PySem.EqMixed.ne_str_int<|bz I q (by simp)
  |str j=>obtain⟨b,rfl⟩:=a;exact ne_str<|bz I q<|Lw not uU
  |_=>exact Lr (show Ll=Lj from c) Bool.false_ne_true
 |byt i =>
  let(t,rfl):=d;cases y with
  |byt j=>obtain⟨b,rfl⟩:=a;exact W.ne_bytes<|bz I q<|Lw not uV
  |_=>exact Lr (show Ll=Lj from c) Bool.false_ne_true
 |_=>cases y <;> calc Lr (show Ll=Lj from c) Bool.false_ne_true
def hU:OpR X (IV .Lt) (rI0 λi j=>.bl<|Lm<|i<j):=Bc λ_ _ _ _ _ _ _ q=>lt_int q
def dX:OpR X (IV .LtE) (rI0 λi j=>.bl<|Lm<|i<=j):=Bc λ_ _ _ _ _ _ _ q=>le_int q
def pj:OpR X (IV .Gt) (rI0 λi j=>.bl<|Lm<|j<i):=Bc λ_ _ _ _ _ _ _ q=>gt_int q
theorem qh:OpR X (IV .NotIn) (λx y H Q=>∃i j,x=.str i/\y=.str j/\Q (.bl<|!(!(IP.Str.occurrences j i 0 ⇑j 1).isEmpty)) H):=by
 intro Ln s σ H x y v u Q I b a h;let(i,j,rfl,rfl,q):=h;let(t,rfl):=b;let(c,rfl):=a;calc notIn_str<|bz I q U
theorem aJ(b:Ij){a:IW}(h:a≠.In:=by decide)(c:a≠.NotIn:=by decide):IX a b=false:=by
 let e:(a == IW.In)=false:=by cases a <;> first|rfl|exact Lr U h
 let d:(a == IW.NotIn)=false:=by cases a <;> first|rfl|exact Lr U c
 cases b <;> simp[IX,e,d]
theorem eG{c:IW}{r:R2}(f:OpR X (IV c) r)(j:PE X a ta)(i:PE X b tb)(g:IX c b=Ll):PE X (.Compare a [c] [b] pos) (tOp r ta tb):=by
 intro Ln s σ H Q I h;calc wpAny_Compare1 (Ba j i I h λv u s2 x y l k e d q=>f Ln s2 σ l x y v u Q k e d q) g
inductive xi  (Q:Bool->Hp->Prop)(x:V)(H':Hp):Prop
 |mk (k:_)(_:x=.bl k)(_:Q k H'):xi Q x H'
def Au(t:TE):TT:=λσ H Q=>t σ H λx H'=>xi Q x H'
theorem aI{d:IW}{r:R2}(o:OpR X (IV d) r)(t:PE X a ta)(q:PE X b tb)(p:IX d b=Ll):PT X (.Compare a [d] [b] pos) (Au<|tOp r ta tb):=by
 intro Ln s σ H Q I h;refine wpAny_isTrue_Compare1 (thn (t Ln s σ H _ I h) λv f ⟨x,E,B,j,n⟩=>thn (q Ln f σ E _ B n) λu s2 ⟨y,D,A,i,m⟩ =>
  thn (o Ln s2 σ D x y v u _ A j i m) λc F ⟨z,C,w,g,k,e,l⟩=>?_) p
 subst e;cases g;calc Iw ⟨C,w,l⟩
inductive uW(r':R2)(tc:TE)(σ:St)(Q:VK)(y:V)(z:V)(H3:Hp):Prop
 |mk (k:_)(_:z=.bl k)(_:(if k=Lj then tc σ H3 λw' H4=>r' y w' H4 Q else Q (.bl Ll) H3))
def xj(r a:R2)(ta tb tc:TE):TE:=λσ H Q=>ta σ H λx d=>tb σ d λy c=>r x y c λz b=>uW a tc σ Q y z b
theorem mM{g f:IW}{r l:R2}(J:OpR X (IV g) r)(i:OpR X (IV f) l)(M:PE X a ta)(L:PE X b tb)(K:PE X c tc)
  (hm:lastMarks [g,f] [b,c]=false:=by with_unfolding_all rfl):PE X (.Compare a [g,f] [b,c] pos) (xj r l ta tb tc):=by
 intro Ln s σ H Q I h;refine Compare_chain (thn (M Ln s σ H _ I h) λv A ⟨x,T,P,D,G⟩=>chain_link (thn (L Ln A σ T _ P G) λu s2 ⟨y,S,O,j,F⟩ =>
  thn (J Ln s2 σ S x y v u _ O D j F) λd w ⟨z,o,n,C,k,e,m⟩=>?_)) hm
 subst e;cases C;calc Iw ?_;cases k with
 |false=>exact ite_ff ⟨.bl Ll,o,n,U,m⟩
 |true=>calc ite_tt (chain_last<|thn (K Ln w σ o _ n m) λq t ⟨p,R,N,B,E⟩=>i Ln t σ R y p u q Q N j B E)
theorem iw{g f:IW}{r l:R2}(M:OpR X (IV g) r)(i:OpR X (IV f) l)(P:PE X a ta)(O:PE X b tb)(N:PE X c tc)
  (hm:lastMarks [g,f] [b,c]=false:=by with_unfolding_all rfl):PT X (.Compare a [g,f] [b,c] pos) (Au<|xj r l ta tb tc):=by
 intro Ln s σ H Q I h;refine isTrue_chain (thn (P Ln s σ H _ I h) λv A ⟨x,H1,Y,E,K⟩=>test_link (thn (O Ln A σ H1 _ Y K) λu s2 ⟨y,H2,W,j,J⟩ =>
  thn (M Ln s2 σ H2 x y v u _ W E j J) λd w ⟨z,o,n,D,k,e,m⟩=>?_)) hm
 subst e;cases D;calc Iw ?_;cases k with
 |false =>
  let(k',S,L):=m;cases S;exact ite_ff ⟨o,n,L⟩
 |true =>
  calc ite_tt<|test_last<|thn (N Ln w σ o _ n m) λq t ⟨p,H4,V,C,G⟩=>thn (i Ln t σ H4 y p u q _ V j C G) λd' s5 ⟨z2,Z,T,B,k2,R,F⟩=>?_;subst R;cases B;calc Iw ⟨Z,T,F⟩
def Bf(K:W.Frag)(x:V)(H:Hp)(k:Bool):Prop :=
 match x with
 | .non=>k=Ll
 | .bl b=>k=b
 | .int i=>k=(i != 0)
 | .str y=>⇑y<=HU/\k=((⇑y:Int) != 0)
 | .byt y=>y.size<=HU/\k=((y.size:Int) != 0)
 | .ref p=>(∃a,SqL K H p a/\k = !a.isEmpty)\/(∃a,SqT K H p a/\k = !a.isEmpty)\/∃c,H p=Lh (.dK c)/\k = !c.isEmpty
 |_=>False
theorem tN{b:Type}{a:Ly (b×V)}{vs:Ly (b×HN)}(r:KV a vs):(!vs.isEmpty) = !a.isEmpty:=by
 cases r <;> rfl
theorem mO{xs:Ly V}{a:Ly HN}(r:Vals xs a):(!a.toArray.isEmpty) = !xs.isEmpty:=by
 cases r <;> simp
theorem lr:(HU:Nat)<2^63:=by rw[IY];decide
theorem Bg:D7 X (λx H Q=>∃k,Bf X.K x H k/\Q k H):=by
 intro Ln s σ H x v Q I g h;let(k,e,q):=h;let C:=lr;let B:HU=16777216:=IY;cases x with
 |non =>
  cases g;let a:k=false:=e;subst a;exact truthy_none ⟨H,I,q⟩
 |bl b =>
  cases g;let a:k=b:=e;subst a;exact Iw ⟨H,I,q⟩
 |int i =>
  let(t,rfl):=g;let a:k=(i != 0):=e;subst a;exact PySem.P.truthy_int ⟨H,I,q⟩
 |str y =>
  let(t,rfl):=g;let(z,a):⇑y<=HU/\k=((⇑y:Int) != 0):=e;subst a;exact PySem.P.truthy_str ∅ ⟨H,I.tok _,q⟩
 |byt y =>
  let(t,rfl):=g;let(z,a):y.size<=HU/\k=((y.size:Int) != 0):=e;subst a;exact W.truthy_bytes ∅ ⟨H,I.tok _,q⟩
 |ref p =>
  cases g;let a:(∃f,SqL X.K H p f/\k = !f.isEmpty)\/(∃f,SqT X.K H p f/\k = !f.isEmpty)\/∃c,H p=Lh (.dK c)/\k = !c.isEmpty:=e;rcases a with⟨f,j,a⟩|⟨f,j,a⟩|⟨c,j,a⟩
  .subst a;let(o,r,n,u):=I.list j;let d:=⇑r;exact wpAny_truthy_list n.isList (by simp only[dV];lia) ⟨H,I.tok _,by rw[mO r];exact q⟩
  .subst a;let(o,r,n,u):=I.tuple j;let d:=⇑r;exact truthy_tuple n (by simp only[dV];lia) ⟨H,I.tok _,by rw[mO r];exact q⟩
  .subst a;let(u,A,l,r,m):⇑c<=HU/\(p == HV)=Ll/\∃l,KV c l/\s.heap.DictOf (qf X.prog X.w) p l:=I.hok p _ j;let d:⇑c=⇑l:=Paired.length r;exact wpAny_truthy_dict A m ∅ ⟨H,I.tok _,by rw[tN r];exact q⟩
 |_=>calc(show False from e).elim
theorem dM(g:PE X a ta)(f:∀b,Ik a X.env b=(do let v ←b;Iv a.pos;holding [v] (truthy v))) :
  PT X a (λσ H Q=>ta σ H λx H'=>∃k,Bf X.K x H' k/\Q k H'):=by
 intro Ln s σ H Q I h;calc isTrue_plain (thn (g Ln s σ H _ I h) λv c ⟨x,j,i,d,e⟩=>Bg Ln c σ j x v Q i d e)<|f _
theorem Bh:OpR X (IS .Add) (λx y H Q=>∃i j,x=.byt i/\y=.byt j/\i.size+j.size<=16777216/\Q (.byt<|i++j) H):=by
 intro Ln s σ H x y v u Q I c b h;let(i,j,rfl,rfl,d,q):=h;let(t,rfl):=c;let(a,rfl):=b;calc W.KBy.add_bytes d<|λa e=>⟨.byt<|i++j,H,I.tok _,⟨_,U⟩,q⟩
theorem vals1{x:V}{us:Ly HN}(r:Vals [x] us):∃u,us=[u]/\RelV x u:=by
 cases r with
 |cons b a=>cases a;calc⟨_,U,b⟩
theorem vals2{x y:V}{us:Ly HN}(r:Vals [x,y] us):∃u a,us=[u,a]/\RelV x u/\RelV y a:=by
 cases r with
 |cons e d =>
  cases d with
  |cons c b=>cases b;calc⟨_,_,U,e,c⟩
theorem lu(b:X.calm=Lj):cF X (.builtin "max") (λxs H Q=>∃i j,xs=[.int i,.int j]/\Q (.int (if j>i then j else i)) H):=by
 intro Ln s σ H xs d Q I r h;let(i,j,rfl,q):=h;let(u,c,rfl,(t,rfl),(f,rfl)):=vals2 r;refine max_two_ints (I.ok.hd b) λh' e k=>⟨_,H,I.kept k,?_,q⟩
 by_cases a:j>i
 .rw[Lq a,Lq a];exact⟨_,U⟩
 .rw[Lp a,Lp a];calc⟨_,U⟩
theorem ly(b:X.calm=Lj):cF X (.builtin "min") (λxs H Q=>∃i j,xs=[.int i,.int j]/\Q (.int (if j<i then j else i)) H):=by
 intro Ln s σ H xs d Q I r h;let(i,j,rfl,q):=h;let(u,c,rfl,(t,rfl),(f,rfl)):=vals2 r;refine min_two_ints (I.ok.hd b) λh' e k=>⟨_,H,I.kept k,?_,q⟩
 by_cases a:j<i
 .rw[Lq a,Lq a];exact⟨_,U⟩
 .rw[Lp a,Lp a];calc⟨_,U⟩
end
structure tO(h:HS)(x dx C:HR)(mA:Str->Option HN):Prop where
 obj:h.get? x=Lh (W.instObj C dx)
 ns:h.Ns1 dx mA
 ne:dx≠x
theorem vJ{h:HS}{f:HR}{c:Str->Option HN}(n:h.Ns1 f c):∃b,h.get? f=Lh b/\∀name,W.lookIn name b=Lh (c name):=by
 let(o,d,r,j,m,l,_,k):=n;calc⟨o,j,λname=>?_⟩;let e:=k name;unfold nsFind findBy at e;rw[←Array.find?_toList]at e;unfold W.lookIn;rw[m];dsimp only;split
 .rename_i y q
  rw[q]at e;exact Lw Lh e
 .rename_i q
  rw[q]at e;let a:d.toList.any (·.refKey)=false:=by
   rw[List.any_eq_false];intro y i;let(z,t,g):=l y<|Eg.mp i;simp[DictEntry.refKey,g]
  let p:¬ d.toList.any (·.refKey)=true:=by rw[a];exact Bool.false_ne_true
  rw[Lp p];calc Lw Lh e
theorem tO.look{h:HS}{x c C:HR}{b:Str->Option HN}(I:tO h x c C b):∃a,W.InstAt h x (W.instObj C c) C (Lh a)/\∀name,W.lookIn name a=Lh (b name):=by
 let(a,d,e):=vJ I.ns;calc⟨a,⟨I.obj,U,U,d⟩,e⟩
variable{A:Ia}{dx C f:HR}
section
variable{prog:HQ}{K:W.Frag}{mA:Str->Option HN}{name:Str}{v:HN}
theorem get_map{a:Bool}{Q:HN->Ib->Prop}(X:K.In s.heap)(I:tO s.heap x dx C mA)(f:W.plainGet K C name=Lj)(e:W.hasDictIn K C=Lj)
  (g:W.findIn K (.ref C) name=Lh Li)(c:mA name=Lh v)(b:W.handedIn v=Lj)(h:Q v { s with toks:=s.toks+1 }) :
  Ih (model prog w) A (getAttr (.ref x) name a) Q E s:=by
 let(i,J,d):=I.look;calc W.get_value X J (W.plainGet_of f).1 (W.findObj_own e g U (by rw[d,c])) b h
theorem xk{pl:Sem Bool}{Q:HN×Ly HN->Ib->Prop}(X:K.In s.heap)(I:tO s.heap x dx C mA)(a:W.plainGet K C name=Lj)
  (hf:W.findIn K (.ref C) name=Lh ↑f)(d:W.isFn K (.ref f)=Lj)(c:mA name=Li)(h:Q (.ref f,[.ref x]) s) :
  Ih (model prog w) A (IZ (.ref x) name pl) Q E s:=by
 let(b,J,e):=I.look;calc W.method_fn X J (W.plainGet_of a).1 (W.plainGet_of a).2 hf (beq_iff_eq.mp d) (by show(W.lookIn name b).map (·.isSome)=Lh Ll;rw[e,c];rfl) h
theorem zd{ns:Ly Str}{Q:Unit->Ib->Prop}(X:K.In s.heap)(I:tO s.heap x dx C mA)
  (l:W.findIn K (.ref C) "__setattr__" = Lh (Lh<|.builtin "object.__setattr__")) (m:W.plainOver K C=Lj)(k:W.takerIn K C name=Lh Li)(n:W.hasDictIn K C=Lj)
  (hw:PySem.Within mA ns)(p:⇑ns<=HU)
  (h:∀h',tO h' x dx C (λy=>if y=name then Lh v else mA y)->HS.SameBut dx s.heap h'->Q () { s with heap:=h',toks:=s.toks+2 }) :
  Ih (model prog w) A (setAttr (.ref x) name v) Q E s:=by
 let(u,J,B):=I.look;calc W.set_plain X J l<|W.osa_open (s:={ s with toks:=s.toks+1 }) (r:=Li) X J m k λb=>?_;let(D,o,g):=W.any_some n;let j:s.heap.get? x=Lh ⟨.ref C,Lh dx,.plain,#[]⟩:=I.obj;calc HJ<|HK<|HJ<|HJ<|wpAny_loadPart j<|HJ<|W.Looks.here (s:={ s with toks:=s.toks+1 }) (W.looks_clsIn X o) ?_;rw[g];calc HK (a:=Lh dx)<|HJ<|HK<|HJ ?_;refine wpAny_nsSet1 (s:={ s with toks:=s.toks+1 }) I.ns λh' d c=>?_
 let(z,q,t,e,f,i):=d.count<|PySem.Within.cons name v hw;refine HJ (wpAny_lookBehind e (by rw[f];exact pastItsLine_dict (yW i (by rw[ik];lia))) ?_);calc HK<|h _ ⟨(c.2 _<|Ne.symm I.ne).trans I.obj,d,I.ne⟩ c
theorem xm{R:I0->Ib->Prop}{vs:Ly HN}{b:Ly (Str×HN)}(X:K.In s.heap)(c:W.makesIn K C=Lj)
  (hi:W.findIn K (.ref C) "__init__" = Lh ↑f) (hf:W.typeIn K (.ref f)=Lh (.type "function"))
  (h:Ja (model prog w) (A.under<|.builtin "type.__call__" ⟨.ref C :: vs,b⟩) (.call (.ref f) ⟨.ref (↥s+1) :: vs,b⟩) (W.InitBack (↥s+1) R)
   { s with heap:=(s.heap.push W.emptyDict).push (W.instObj C ↥s) }) :
  Ja (model prog w) A (.call (.ref C) ⟨vs,b⟩) R s:=by
 let(i,g,d,t,e):=s;calc W.make_core (W.makes_of X c) (W.looks_findIn X hi) (λa=>W.bind_fn X a hf) (.inl U) h
end
def bI(f:Str)(v:V):Ly (Str×V)->Ly (Str×V)
 | []=>[(f,v)]
 |(g,x) :: r=>if g=f then(g,v) :: r else(g,x) :: bI f v r
theorem l8(f g:Str)(v:V):∀fs:Ly (Str×V),(bI f v fs).lookup g=if g=f then Lh v else fs.lookup g
 | []=>by
  show List.lookup g [(f,v)]=_;by_cases h:g=f
  .let a:(g == f)=true:=beq_iff_eq.mpr h;simp only[List.lookup,a,Lq h]
  .let a:(g == f)=false:=beq_eq_false_iff_ne.mpr h;simp only[List.lookup,a,Lp h]
 |(k,x) :: r=>by
  let c:=l8 f g v r;rw[show bI f v ((k,x) :: r)=(if k=f then(k,v) :: r else(k,x) :: bI f v r)from U];by_cases b:k=f
  .rw[Lq b];by_cases h:g=k
   .let a:(g == k)=true:=beq_iff_eq.mpr h;simp only[List.lookup,a,Lq (h.trans b)]
   .let a:(g == k)=false:=beq_eq_false_iff_ne.mpr h;simp only[List.lookup,a,Lp (λe:g=f=>h<|e.trans b.symm)]
  .rw[Lp b];by_cases h:g=k
   .let a:(g == k)=true:=beq_iff_eq.mpr h;simp only[List.lookup,a,Lp (λe:g=f=>b<|h.symm.trans e)]
   .let a:(g == k)=false:=beq_eq_false_iff_ne.mpr h;simp only[List.lookup,a];calc c
theorem lC(f:Str)(v:V):∀fs:Ly (Str×V),f∈(bI f v fs).map (·.1)/\∀g,g∈fs.map (·.1)->g∈(bI f v fs).map (·.1)
 | []=>⟨by simp[bI],λg h=>by simp at h⟩
 |(k,x) :: r=>by
  let(c,b):=lC f v r;rw[show bI f v ((k,x) :: r)=(if k=f then(k,v) :: r else(k,x) :: bI f v r)from U];by_cases a:k=f
  .rw[Lq a];subst a;exact⟨by simp,λg h=>~~~h⟩
  .rw[Lp a];refine⟨?_,λg h=>?_⟩
   .rw[jU];exact iE _ c
   .rw[jU]at h⊢;rcases bW.mp h with e|e
    .exact bW.mpr<|.inl e
    .exact iE _<|b g e
theorem l9(f:Str)(v:V):∀fs:Ly (Str×V),⇑(bI f v fs)<=⇑fs+1
 | []=>by simp[bI]
 |(k,x) :: r=>by
  let b:=l9 f v r;rw[show bI f v ((k,x) :: r)=(if k=f then(k,v) :: r else(k,x) :: bI f v r)from U];by_cases a:k=f
  .rw[Lq a,ik,ik];lia
  .rw[Lp a,ik,ik];lia
theorem oK.some_of{v:V}{o:Option HN}(r:oK (Lh v) o):∃u,o=Lh u/\RelV v u:=by
 cases o with
 |none=>exact(show False from r).elim
 |some u=>calc⟨u,U,r⟩
theorem oK.none_of{o:Option HN}(r:oK Li o):o=none:=by
 cases o with
 |none=>rfl
 |some u=>calc(show False from r).elim
theorem pq{v:V}{u:HN}(r:RelV v u):W.handedIn u=true:=by
 cases v with
 |non=>cases (show u=HN.none from r);rfl
 |bl b=>cases (show u=HN.bool b from r);rfl
 |int i=>obtain⟨t,e⟩:=(show ∃t,u=HN.int i t from r);cases e;rfl
 |str x=>obtain⟨t,e⟩:=(show ∃t,u=HN.str x t from r);cases e;rfl
 |byt b=>obtain⟨t,e⟩:=(show ∃t,u=HN.bytes b t from r);cases e;rfl
 |flt b=>obtain⟨t,e⟩:=(show ∃t,u=HN.float b t from r);cases e;rfl
 |ref a=>cases (show u=HN.ref a from r);rfl
 |ty n=>cases (show u=HN.type n from r);rfl
section
variable{fs fs':Ly (Str×V)}
theorem mz(hok:HOk P w H h)(e:H a=Lh (.ins C dx fs)):∃b,tO h a dx C b/\(∀f,oK (fs.lookup f)<|b f)/\PySem.Within b (fs.map (·.1))/\⇑fs<=1000/\H dx=Lh (.own a):=by
 let(d,z,g,c,b,n,r,q):=(show cK P w H h a (.ins C dx fs)from hok a _ e);calc⟨b,⟨c,n,g⟩,r,q,z,d⟩
end
structure Cls(K:W.Frag)(C:HR):Prop where
 pg:W.plainGet K C Str.empty=Lj
 hd:W.hasDictIn K C=Lj
 po:W.plainOver K C=Lj
 sa:W.findIn K (.ref C) "__setattr__" = Lh (Lh<|.builtin "object.__setattr__")
def Cls.get{K:W.Frag}{C:HR}(c:Cls K C)(f:Str):W.plainGet K C f=true:=c.pg
def NoAttr(K:W.Frag)(C:HR)(f:Str):Prop:=W.findIn K (.ref C) f=Lh Li
theorem NoAttr.taker{K:W.Frag}{C:HR}{f:Str}(n:NoAttr K C f):W.takerIn K C f=Lh none:=by
 unfold W.takerIn;rw[show W.findIn K (.ref C) f=Lh Li from n];rfl
structure Con(K:W.Frag)(C:HR)(f:Str)(v:V)(u:HN):Prop where
 at_:W.findIn K (.ref C) f=Lh (Lh u)
 rel:RelV v u
 get:W.specialIn K u "__get__" = Lh Li
 cp:W.copiedNames.contains f=Ll
structure Meth(K:W.Frag)(C:HR)(m:Str)(f:HR):Prop where
 at_:W.findIn K (.ref C) m=Lh ↑f
 fn:W.isFn K (.ref f)=Lj
 kp:W.keepIn K (.ref f)=Lj
section
variable{fs:Ly (Str×V)}{f:Str}{v:V}
theorem tQ{b:Bool}{Q:HN->Ib->Prop}(I:Inv X Ln σ H s)(e:H a=Lh (.ins C dx fs))(c:Cls X.K C)(n:NoAttr X.K C f)(l:fs.lookup f=Lh v)
  (h:∀u s',Inv X Ln σ H s'->RelV v u->Q u s'):Ih (model X.prog X.w) A (getAttr (.ref a) f b) Q E s:=by
 let(g,O,r,_,_,_):=mz I.hok e;let(u,i,d):=oK.some_of (v:=v) (o:=g f) (by rw[←l];exact r f);calc get_map I.kIn O (c.get f) c.hd n i (pq d)<|h u _ (I.tok _) d
theorem mP{m:Str}{g:HR}{pl:Sem Bool}{Q:HN×Ly HN->Ib->Prop}(I:Inv X Ln σ H s)(e:H a=Lh (.ins C dx fs))(c:Cls X.K C)(k:Meth X.K C m g)(l:fs.lookup m=Li)
  (h:Q (.ref g,[.ref a]) s):Ih (model X.prog X.w) A (IZ (.ref a) m pl) Q E s:=by
 let(b,O,r,_,_,_):=mz I.hok e;let d:b m=none:=oK.none_of (by rw[←l];exact r m);calc xk I.kIn O (c.get m) k.at_ k.fn d h
theorem tR{y:V}{u:HN}{Q:Unit->Ib->Prop}(I:Inv X Ln σ H s)(e:H a=Lh (.ins C dx fs))(c:Cls X.K C)(n:NoAttr X.K C f)(B:⇑fs<1000)(m:RelV y u)
  (h:∀s',Inv X Ln σ (upd H a<|.ins C dx<|bI f y fs) s'->Q () s'):Ih (model X.prog X.w) A (setAttr (.ref a) f u) Q E s:=by
 let(j,O,r,i,_,k):=mz I.hok e;let p:⇑(fs.map (·.1))<=HU:=by rw[bc,IY];lia
 refine zd I.kIn O c.sa c.po n.taker c.hd i p λh' d l=>h _ ?_
 let hd:∃o,h'.get? dx=Lh o:=let ⟨o,_,_,e',_⟩:=d.ns;⟨o,e'⟩;refine I.write (x:=a) (e:=dx) (by rw[e];exact True.intro) (.inr k) (λb q v z=>(l.2 b v).trans z) hd ?_;refine⟨by rw[ay O.ne];exact k,?_,O.ne,d.obj,_,d.ns,λg=>?_,λg t=>?_⟩
 .let:=l9 f y fs;lia
 .show oK ((bI f y fs).lookup g) (if g=f then Lh u else j g);rw[l8];by_cases q:g=f
  .rw[Lq q,Lq q];exact m
  .rw[Lp q,Lp q];exact r g
 .by_cases q:g=f
  .rw[q];exact(lC f y fs).1
  .refine(lC f y fs).2 g (i g λz=>t ?_);show(if g=f then Lh u else j g)=Li;rw[Lp q];calc z
theorem Inv.made(I:Inv X Ln σ H s):Inv X Ln σ (upd (upd H ↥s<|.own<|↥s+1) (↥s+1)<|.ins C ↥s [])
  { s with heap:=(s.heap.push W.emptyDict).push (W.instObj C ↥s) }:=by
 let d:(s.heap.push W.emptyDict).get? ↥s=Lh W.emptyDict:=HS.get?_push_size s.heap U;let i:((s.heap.push W.emptyDict).push<|W.instObj C ↥s).get? (↥s+1)=Lh (W.instObj C ↥s):=by
  let:=HS.get?_push_size (s.heap.push W.emptyDict) (o:=W.instObj C ↥s) U
  rwa [HS.size_push]at this
 let h:(s.heap.push W.emptyDict).Ns ↥s (λ_=>Li):=⟨W.emptyDict,#[],_,d,U,(λe g=>Lr g (by simp)),λ_=>U⟩;let j:=I.laid (a:=↥s) (o:=.own<|↥s+1) (h':=s.heap.push W.emptyDict) (t':=s.toks) (λb u q=>HS.get?_push_of_some _ q) (xX _) ⟨_,d⟩;calc j.laid (a:=↥s+1) (o:=.ins C ↥s []) (t':=s.toks) (λb u q=>HS.get?_push_of_some _ q) (CV<|HS.size_push _ _) ?_;let c:↥s≠↥s+1:=yl<|A9 _;calc⟨by rw[ay c,ae],yX _,c,i,λ_=>Li,(HS.Ns1.of_empty h).at λo q=>HS.get?_push_of_some _ q,λ_=>True.intro,λy f=>Lr U f⟩
theorem ze{prog:HQ}{w:HP}{a:Env}{e:Ij}{f:Str}{pos:Pos}{s:Ib}{Q:HN->Ib->Prop}(c:Jb e f a (eval e a)=eval e a)
  (h:Ih (model prog w) A (eval e a) (λo b=>Ih (model prog w) A (getAttr o f Lj) Q E b) E s):Ih (model prog w) A (eval (.Attribute e f pos) a) Q E s :=
 Attribute_any_ h (by rw[arm_eval_Attribute,c])
end
inductive Av(K:W.Frag)(f:Str)(Q:VK)(x:V)(H1:Hp):Prop
 |mk (a C dx fs v:_)(_:x=.ref a)(_:H1 a=Lh (.ins C dx fs))(_:Cls K C)(_:NoAttr K C f)(_:fs.lookup f=Lh v)(_:Q v H1)
def CG(K:W.Frag)(ta:TE)(f:Str):TE:=λσ H Q=>ta σ H λx a=>Av K f Q x a
def Ea(K:W.Frag)(ta c:TE)(f:Str):TS:=λD σ H=>c σ H λy d=>ta σ d λx b=>∃a C dx fs,x=.ref a/\b a=Lh (.ins C dx fs)/\Cls K C/\NoAttr K C f/\⇑fs<1000 /\
 D.nx σ (upd b a<|.ins C dx<|bI f y fs)
variable{o:Ij}
section
variable{value:Ij}{f:Str}{pos' GU:Pos}{tv:TE}
theorem cc(g:PE X e ta)(i:Jb e f X.env (eval e X.env)=eval e X.env):PE X (.Attribute e f pos) (CG X.K ta f):=by
 intro Ln s σ H Q I h;calc ze i<|thn (g Ln s σ H _ I h) λu t ⟨x,p,o,b,a,C,dx,fs,v,j,k,c,n,l,q⟩=>?_;subst j;obtain rfl:u=HN.ref a:=b;calc tQ o k c n l λr s2 m d=>⟨v,p,m,d,q⟩
theorem cO(m:PE X o ta)(j:PE X value tv)(k:IA value (Lh<|.Attribute o f pos') pos.line X.env=pure Ll):PS X (.Assign [.Attribute o f pos'] value pos) (Ea X.K ta tv f):=by
 intro Ln s σ H D I h;calc plainObj_wpAny_Assign_Attribute (thn (j Ln s σ H _ I h) λu b ⟨y,z,w,d,q⟩=>thn (m Ln b σ z _ w q) λi s2 ⟨x,B,v,e,a,C,dx,fs,p,r,c,n,l,g⟩=>?_) k;subst p;obtain rfl:i=HN.ref a:=e;calc tR v r c n l d λA t=>⟨σ,_,t,g⟩
end
section
variable{Q:HN->Ib->Prop}{c:HN}{b:Bool}
inductive lD(K:W.Frag)(H:Hp):V->HN->Prop where
 |non:lD K H .non (.type "NoneType")
 |bl (x:Bool):lD K H (.bl x) (.type "bool")
 |int (i:Int):lD K H (.int i) (.type "int")
 |str (x:Str):lD K H (.str x) (.type "str")
 |flt (x:UInt64):lD K H (.flt x) (.type "float")
 |lst {a:HR}{xs:Ly V}(e:H a=Lh (.lst xs)):lD K H (.ref a) (.type "list")
 |frz {a:HR}{o:Obj}{xs:Ly V}(e:H a=Lh (.frz o<|.lst xs)):lD K H (.ref a) (.type "list")
 |tup {a:HR}{xs:Ly V}(e:H a=Lh (.tup xs)):lD K H (.ref a) (.type "tuple")
 |dK {a:HR}{kvs:Ly (Key×V)}(e:H a=Lh (.dK kvs)):lD K H (.ref a) (.type "dict")
 |dT {a:HR}{kvs:Ly (Ly Key×V)}(e:H a=Lh (.dT kvs)):lD K H (.ref a) (.type "dict")
 |ins {a C dx:HR}{fs:Ly (Str×V)}(e:H a=Lh (.ins C dx fs))(cl:Cls K C)(ha:W.findIn K (.ref C) "__class__" = Lh (Lh<|.builtin "object.__class__"))
   (hn:W.specialIn K (.builtin "object.__class__") "__get__" = Lh (Lh<|.builtin "getset_descriptor.__get__")) (htk:W.takesIn K (.builtin "object.__class__")=Lh Lj)
   (hm:W.mroIn K C (.type "object")=Lh Lj):lD K H (.ref a) (.ref C)
theorem vK{x:V}{u t:HN}(I:Inv X Ln σ H s)(d:RelV x u)(ty:lD X.K H x t)(e:W.kitOne X.K t c=Lh b)(h:∀k,Q (.bool b) { s with toks:=k }) :
  Ih (model X.prog X.w) A (call (.builtin "isinstance") [u,c]) Q E s:=by
 cases ty with
 |non=>cases (show u=HN.none from d);exact W.kia_one W.kitx_none I.kIn True.intro e (λz=>nomatch z) h
 |bl y=>cases (show u=HN.bool y from d);exact W.kia_one W.kitx_bool I.kIn True.intro e (λz=>nomatch z) h
 |int i=>obtain⟨t,q⟩:=(show ∃t,u=HN.int i t from d);cases q;exact W.kia_one W.kitx_int I.kIn True.intro e (λz=>nomatch z) h
 |str y=>obtain⟨t,q⟩:=(show ∃t,u=HN.str y t from d);cases q;exact W.kia_one W.kitx_str I.kIn True.intro e (λz=>nomatch z) h
 |flt y=>obtain⟨t,q⟩:=(show ∃t,u=HN.float y t from d);cases q;exact W.kia_one W.kitx_float I.kIn True.intro e (λz=>nomatch z) h
 | @lst a g ea =>
  cases (show u=HN.ref a from d);let(_,_,n,_,f):=(show cK X.prog X.w H s.heap a (.lst g)from I.hok a _ ea);exact W.kia_one W.kitx_list I.kIn ⟨_,f,U⟩ e (λz=>nomatch z) h
 | @frz a ob g ea =>
  cases (show u=HN.ref a from d);let(_,_,_,n,_,f):=(show cK X.prog X.w H s.heap a (.frz ob<|.lst g)from I.hok a _ ea);exact W.kia_one W.kitx_list I.kIn ⟨_,f,U⟩ e (λz=>nomatch z) h
 | @tup a g ea =>
  cases (show u=HN.ref a from d);let(_,_,_,p):=(show cK X.prog X.w H s.heap a (.tup g)from I.hok a _ ea);let(o,f,j,_):=p;exact W.kia_one W.kitx_tuple I.kIn ⟨o,f,j⟩ e (λz=>nomatch z) h
 | @dK a kvs ea =>
  cases (show u=HN.ref a from d);let(_,_,r,_,p):=(show cK X.prog X.w H s.heap a (.dK kvs)from I.hok a _ ea);let(o,l,m,f,j,_):=p;exact W.kia_one W.kitx_dict I.kIn ⟨o,f,j.1⟩ e (λz=>nomatch z) h
 | @dT a kvs ea =>
  cases (show u=HN.ref a from d);let(_,_,g,_,o,l,m,f,j,_):=(show cK X.prog X.w H s.heap a (.dT kvs)from I.hok a _ ea);exact W.kia_one W.kitx_dict I.kIn ⟨o,f,j.1⟩ e (λz=>nomatch z) h
 | @ins a C dx fs ea cl ha hn htk hm =>
  cases (show u=HN.ref a from d);let(B,O,_):=mz I.hok ea;let(v,J,_):=O.look;calc W.kia_one (W.kitx_own (cl.get _) cl.hd ha hn htk hm) I.kIn J e (λz=>nomatch z) h
end
structure bT(k:Nat)(A:Ia):Prop where
 hd:A.handled=Li
 dp:A.depth+3*k+5<Jc
 un:A.units+16*k+200<Jd
theorem bT.mono{j k:Nat}{A:Ia}(r:bT k A)(h:j<=k):bT j A:=⟨r.hd,by have:=r.dp;lia,by have:=r.un;lia⟩
theorem bT.deeper{k:Nat}{A:Ia}(r:bT (k+1) A)(a:Env):bT k (A.deeper a) :=
 ⟨r.hd,by have:=r.dp;show A.depth+1+3*k+5<_;lia,by have:=r.un;show A.units+3+16*k+200<_;lia⟩
theorem tS{A:Ia}{C:HR}{us:Ly HN}{a:Ly (Str×HN)}:(A.under<|.builtin "type.__call__" ⟨.ref C :: us,a⟩).depth=A.depth+1:=by
 first|rfl|simp[Ia.under,Je.weight,Je.isCreation,Je.isGuard,Je.isCaller,Je.frames,Je.isFrame,guardIds]
theorem tT{A:Ia}{C:HR}{us:Ly HN}{a:Ly (Str×HN)}:(A.under<|.builtin "type.__call__" ⟨.ref C :: us,a⟩).units=A.units+1:=by
 first|rfl|simp[Ia.under,Je.cUnits,Je.frames,Je.isFrame]
theorem bT.make{k:Nat}{A:Ia}(r:bT (k+1) A)(C:HR)(us:Ly HN)(a:Ly (Str×HN)):bT k (A.under<|.builtin "type.__call__" ⟨.ref C :: us,a⟩) :=
 ⟨r.hd,by have:=r.dp;rw[tS];lia,by have:=r.un;rw[tT];lia⟩
theorem bT.depth{k:Nat}{A:Ia}(r:bT k A):A.depth<Jc:=by have:=r.dp;lia
theorem bT.units{k:Nat}{A:Ia}(r:bT k A):A.units+64<Jd:=by have:=r.un;lia
def Bi:TA:=λ_ H Q=>Q [] H
def CH(ta:TE)(b:TA):TA:=λσ H Q=>ta σ H λx d=>b σ d λa c=>Q (x :: a) c
variable{es:Ly Ij}{t:TA}
def af:PA X [] Bi:=λ_ _ _ _ H Q I h=>Calls.spliced_nil ⟨[],H,I,.nil,h⟩
theorem aa(k:PE X e te)(j:PA X es t)(i:Im (e :: es) X.env=(Ll,eval e X.env) :: Im es X.env:=by rfl):PA X (e :: es) (CH te t):=by
 intro pos Ln s σ H Q I h;rw[i];show Ih _ _ (spliced ((Ll,eval e X.env) :: Il pos (Im es X.env))) _ _ s;calc Calls.spliced_cons<|thn (k Ln s σ H _ I h) λu b ⟨x,o,m,d,g⟩=>?_;calc thn (j pos Ln b σ o _ m g) λp s2 ⟨a,n,l,c,f⟩=>⟨x :: a,n,l,.cons d c,f⟩
def Eb(t:TA):TE:=λσ H Q=>t σ H λa b=>⇑a<=HU/\∀p,b p=Li->Q (.ref p) (upd b p<|.tup a)
def Ec(t:TA):TE:=λσ H Q=>t σ H λa b=>⇑a<=HU/\∀p,b p=Li->Q (.ref p) (upd b p<|.lst a)
theorem bq{x1} (h:PA X es t):PE X (.Tuple es x1 pos) (Eb t):=by
 intro Ln s σ H Q I i;refine wpAny_Tuple_spliced (thn (h pos Ln s σ H _ I i) λg a ⟨f,d,c,r,z,q⟩=>⟨by rw[←⇑r];exact z,?_⟩);let j:d ↥a=none:=c.hok.fresh<|xX _;calc⟨.ref ↥a,upd d ↥a<|.tup f,c.laid (t':=a.toks) (λb u e=>HS.get?_push_of_some _ e) (xX _) ?_,U,q _ j⟩;calc⟨z,g,r,⟨_,HS.get?_push_size _ U,U,_,U⟩⟩
theorem aW(h:PA X es t):PE X (.List es pos) (Ec t):=by
 intro Ln s σ H Q I i;refine wpAny_List_spliced (thn (h pos Ln s σ H _ I i) λg a ⟨f,d,c,r,z,q⟩=>⟨by rw[←⇑r];exact z,?_⟩);let j:d ↥a=none:=c.hok.fresh<|xX _;calc⟨.ref ↥a,upd d ↥a<|.lst f,c.laid (t':=a.toks) (λb u e=>HS.get?_push_of_some _ e) (xX _) ?_,U,q _ j⟩;calc⟨z,g,0,r,HS.get?_push_size _ U⟩
abbrev Sp:=Ly V->Hp->VK->XK->Prop
abbrev CXT:=Ly Env->Hp->Ib->XK->HN->Ib->Prop
structure q9(P:HQ)(w:HP)(K:W.Frag)(mg:Str->Option HN)(base:HS)(A:Ia)(outer:Ly Env)(s:Ib)(H:Hp):Prop where
 frames:A.frames=Lh outer
 mod:Mod K mg base
 bs:∀b o,base.get? b=Lh o->s.heap.get? b=Lh o/\H b=Li
 bsz:base.objs.size<=↥s
 funs:s.heap.FunFrames base outer
 frf:∀b∈frs outer,H b=Li
 hok:HOk P w H s.heap
 bare:AllBare s.gens
def CE(a:Ly Env)(P:HQ)(w:HP)(H:Hp)(s:Ib)(Q:VK)(u:HN)(s':Ib):Prop :=
 ∃v H',s'.os=s.os/\AllBare s'.gens/\Un (frs a) [] H H' s.heap s'.heap/\HOk P w H' s'.heap/\RelV v u/\Q v H'
def CR(CX:CXT)(a:Ly Env)(P:HQ)(w:HP)(H:Hp)(s:Ib)(Q:VK)(E:XK)(r:I0)(s':Ib):Prop :=
 match r with
 | .ok (.ret u)=>CE a P w H s Q u s'
 | .ok _=>False
 | .error e=>CX a H s E e s'
structure aK(P:HQ)(w:HP)(K:W.Frag)(mg:Str->Option HN)(base:HS)(CX:CXT)(k:Nat)(f:HR)(fd:Jf)(ps:Ly Str)(sp:Sp):Prop where
 len:∀vs H Q E,sp vs H Q E->⇑vs=⇑ps
 run:∀(A:Ia)(outer:Ly Env)(s:Ib)(H:Hp)(args:Args)(us:Ly HN)(vs:Ly V)(Q:VK)(E:XK),bT k A->q9 P w K mg base A outer s H->Jg s fd args (ps.zip us)->Vals vs us->sp vs H Q E ->
  Ja (model P w) A (.call (.ref f) args) (CR CX outer P w H s Q E) s
theorem aK.mono{P:HQ}{w:HP}{K:W.Frag}{mg:Str->Option HN}{base:HS}{CX:CXT}{j k:Nat}{f:HR}{c:Jf}{ps:Ly Str}{sp:Sp}(F:aK P w K mg base CX j f c ps sp)(h:j<=k) :
  aK P w K mg base CX k f c ps sp:=⟨F.len,λA a s H b e d Q E g=>F.run A a s H b e d Q E<|g.mono h⟩
theorem q9.make{P:HQ}{w:HP}{K:W.Frag}{mg:Str->Option HN}{base:HS}{A:Ia}{a:Ly Env}{s:Ib}{H:Hp}(e:q9 P w K mg base A a s H)(C:HR)(us:Ly HN)(b:Ly (Str×HN)) :
  q9 P w K mg base (A.under<|.builtin "type.__call__" ⟨.ref C :: us,b⟩) a s H:=⟨by first|exact e.frames|(simpa[Ia.under,Je.envs,Je.isFrame,pushEnvs]using e.frames),e.mod,e.bs,e.bsz,e.funs,e.frf,e.hok,e.bare⟩
section
variable{s':Ib}
def Inv.env0(I:Inv X Ln σ H s):q9 X.prog X.w X.K X.mg X.base X.A X.stack s H :=
 ⟨I.ok.frames,I.ok.mod,I.bs,yW I.ok.bsz I.sz,I.stack,I.stkFree,I.hok,I.bare⟩
theorem Inv.after{Q:VK}{u:HN}(I:Inv X Ln σ H s)(h:CE X.stack X.prog X.w H s Q u s'):EP X Ln σ Q u s':=by
 let(v,H',os,a,un,hok,r,q):=h;let(e,g,d,t,c):=s';obtain rfl:c=s.os:=os;calc⟨v,H',I.call (h':=e) (g':=g) (d':=d) (t':=t) (ch:=[]) un hok a<|λb z=>Lr z (by simp),r,q⟩
end
def CI(sp:Sp)(dvs:Ly V)(E:XK)(t:TA):TE:=λσ H Q=>t σ H λa b=>sp (a++dvs) b Q E
def Aw(C:HR)(sp:Sp)(dvs:Ly V)(E:XK)(t:TA):TE:=λσ H Q=>t σ H λb a=>∀x dx,a x=Li->a dx=Li->dx≠x ->
 sp (.ref x :: (b++dvs)) (upd (upd a dx<|.own x) x<|.ins C dx []) (λv c=>v=.non/\Q (.ref x) c) E
def Binds(K:W.Frag)(b:Jf)(ps:Ly Str)(ds:Ly HN):Prop :=
 ∀(s:Ib)(a:Ly HN),K.In s.heap->⇑(a++ds)=⇑ps->Jg s b ⟨a,[]⟩ (ps.zip<|a++ds)
theorem Binds.all{K:W.Frag}{b:Jf}{ps:Ly Str}(h:∀us:Ly HN,⇑us=⇑ps->Jh b ⟨us,[]⟩=pure (ps.zip us)):Binds K b ps []:=λs us _ a=>by
 rw[jk]at a⊢;calc .of_eq<|h us a
def Passes(CX:CXT)(X:Cx)(E:XK):Prop:=∀(Ln:Ly (HR×Obj))(σ:St)(H:Hp)(s:Ib)(e:HN)(a:Ib),Inv X Ln σ H s->CX X.stack H s E e a->X.xe e a
variable{p:Pos}
section
variable{CX:CXT}{k:Nat}{fd:Jf}{ps:Ly Str}{sp:Sp}{dvs:Ly V}{ds:Ly HN}{E:XK}{x m:Str}{apos:Pos}
theorem tU{Ln:Ly (HR×Obj)}{σ:St}{H:Hp}{s:Ib}{Q:VK}{us:Ly HN}{vs:Ly V}(F:aK X.prog X.w X.K X.mg X.base CX k f fd ps sp)(g:bT k X.A)(l:Binds X.K fd ps ds)(j:Vals dvs ds)(d:Passes CX X E)
  (I:Inv X Ln σ H s)(r:Vals vs us)(h:sp (vs++dvs) H Q E):Ih (model X.prog X.w) X.A (call (.ref f) us) (EP X Ln σ Q) X.xe s:=by
 let b:Vals (vs++dvs) (us++ds):=r.append j;let i:⇑(us++ds)=⇑ps:=by rw[←⇑b];exact F.len _ _ _ _ h
 calc Ji<|Jj (F.run X.A X.stack s H ⟨us,[]⟩ (us++ds) (vs++dvs) Q E g I.env0 (l s us I.kIn i) b h) λr c a=>?_;cases r with
 |error e=>exact d Ln σ H s e c I a
 |ok fl =>
  cases fl with
  |ret u=>exact I.after a
  |next=>exact False.elim a
  |brk=>exact False.elim a
  |cont=>calc False.elim a
theorem zf(F:aK X.prog X.w X.K X.mg X.base CX k f fd ps sp)(g:bT k X.A)(l:Gl X x)(i:X.mg x=↑f)(j:W.keepIn X.K (.ref f)=Lj)(n:Binds X.K fd ps ds)(m:Vals dvs ds)(d:Passes CX X E)
  (o:PA X (e :: es) t)(b:(x == ("__debug__" : Str))=false:=by decide) (he:Im (e :: es) X.env=(Ll,eval e X.env) :: Im es X.env:=by rfl)(a:(Il pos<|Im es X.env).any (·.1)=false:=by rfl) :
  PE X (.Call (.Name x p) (e :: es) [] pos) (CI sp dvs E t):=by
 intro Ln s σ H Q I h;calc HM<|dH I l i ?_ b;calc W.callWith_K (h₀:=X.base) I.ok.mod.kin j (thn (o pos Ln s σ H _ I h) λv y ⟨u,z,c,r,q⟩=>⟨c.kIn,?_⟩) he a;calc tU F g n m d c r q
structure Mk(K:W.Frag)(C f:HR):Prop where
 makes:W.makesIn K C=Lj
 init:W.findIn K (.ref C) "__init__" = Lh ↑f
 fn:W.isFn K (.ref f)=Lj
 kp:W.keepIn K (.ref C)=Lj
theorem rb{Ln:Ly (HR×Obj)}{σ:St}{H:Hp}{s:Ib}{Q:VK}{us:Ly HN}{vs:Ly V}(M:Mk X.K C f)(F:aK X.prog X.w X.K X.mg X.base CX k f fd ps sp)(m:bT (k+1) X.A)(p:Binds X.K fd ps ds)(o:Vals dvs ds)
  (l:Passes CX X E)(I:Inv X Ln σ H s)(r:Vals vs us)
  (h:∀x dx,H x=Li->H dx=Li->dx≠x->sp (.ref x :: (vs++dvs)) (upd (upd H dx<|.own x) x<|.ins C dx []) (λv y=>v=.non/\Q (.ref x) y) E) :
  Ih (model X.prog X.w) X.A (call (.ref C) us) (EP X Ln σ Q) X.xe s:=by
 let d:=h (↥s+1) ↥s (I.hok.fresh<|Ar _) (I.hok.fresh<|xX _)<|yl<|A9 _;let b:=Inv.made (C:=C) I;let c:Vals (V.ref (↥s+1) :: (vs++dvs)) (HN.ref (↥s+1) :: (us++ds)):=.cons U<|r.append o;let n:⇑(HN.ref (↥s+1) :: us++ds)=⇑ps:=by
  let e:=⇑c;rw[F.len _ _ _ _ d]at e;exact e.symm
 refine Ji (xm (f:=f) I.kIn M.makes M.init (beq_iff_eq.mp M.fn) (Jj (F.run _ X.stack _ _ ⟨HN.ref (↥s+1) :: us,[]⟩ (HN.ref (↥s+1) :: (us++ds)) _ _ E (m.make C us [])
  (b.env0.make C us []) (p _ (HN.ref (↥s+1) :: us) b.kIn n) c d) λr g a=>?_))
 cases r with
 |error e=>exact l Ln σ _ _ e g b a
 |ok fl =>
  cases fl with
  |ret u =>
   let(v,H',t,i,q,j):=b.after a;subst q;exact⟨i,⟨V.ref<|↥s+1,H',t,U,j⟩⟩
  |next=>exact False.elim a
  |brk=>exact False.elim a
  |cont=>calc False.elim a
theorem zg(M:Mk X.K C f)(F:aK X.prog X.w X.K X.mg X.base CX k f fd ps sp)(g:bT (k+1) X.A)(j:Gl X x)(i:X.mg x=↑C)(m:Binds X.K fd ps ds)(l:Vals dvs ds)(d:Passes CX X E)
  (n:PA X (e :: es) t)(b:(x == ("__debug__" : Str))=false:=by decide) (he:Im (e :: es) X.env=(Ll,eval e X.env) :: Im es X.env:=by rfl)(a:(Il pos<|Im es X.env).any (·.1)=false:=by rfl) :
  PE X (.Call (.Name x p) (e :: es) [] pos) (Aw C sp dvs E t):=by
 intro Ln s σ H Q I h;calc HM<|dH I j i ?_ b;calc W.callWith_K (h₀:=X.base) I.ok.mod.kin M.kp (thn (n pos Ln s σ H _ I h) λu v ⟨o,y,c,r,q⟩=>⟨c.kIn,?_⟩) he a;calc rb M F g m l d c r q
theorem xn(M:Mk X.K C f)(F:aK X.prog X.w X.K X.mg X.base CX k f fd ps sp)(c:bT (k+1) X.A)(e:Gl X x)(d:X.mg x=↑C)(i:Binds X.K fd ps ds)(g:Vals dvs ds)(b:Passes CX X E)
  (a:(x == ("__debug__" : Str))=false:=by decide):PE X (.Call (.Name x p) [] [] pos) (Aw C sp dvs E Bi):=by
 intro Ln s σ H Q I h;calc HM<|dH I e d ?_ a;calc W.callWith_K0 I.kIn M.kp<|rb (us:=[]) M F c i g b I .nil h
end
section
variable{CX:CXT}{k:Nat}{fd:Jf}{ps ks:Ly Str}{sp:Sp}{E:XK}{x m:Str}{apos GV:Pos}{kws:Ly Keyword}{tk:TA}{nm:Option Str}
structure Ed(K:W.Frag)(fd:Jf)(ps ks:Ly Str)(g:Ly HN->Ly HN->Ly HN)(gV:Ly V->Ly V->Ly V):Prop where
 to:∀(s:Ib)(us ws:Ly HN),K.In s.heap->⇑(g us ws)=⇑ps->Jg s fd ⟨us,ks.zip ws⟩ (ps.zip<|g us ws)
 rel:∀{vs:Ly V}{us:Ly HN}{zs:Ly V}{ws:Ly HN},Vals vs us->Vals zs ws->Vals (gV vs zs) (g us ws)
variable{g:Ly HN->Ly HN->Ly HN}{gV:Ly V->Ly V->Ly V}
end
structure av(N P:Ly Str)(sc:Ic):Prop where
 kind:sc.kind=.function
 co:sc.isCoroutine=Ll
 gen:sc.isGenerator=Ll
 nd:N.Nodup
 pre:N.take P.length=P
 par:∀x∈P,sc.names.lookup x=Lh .local\/sc.names.lookup x=Lh .cell
 nofree:∀y∈sc.names,y.2≠.free
theorem pA{a:Str->Option Jk}{x:Str}:∀{binds:Ly (Str×HN)}{m:Str->Option HN},(∀v,(x,v) ∉ binds)->Jl a binds m x=m x
 | [],_,_=>rfl
 |(n,v) :: r,m,h=>by
  unfold Jl;rw[pA λw b=>h w (iE _ b)];split
  .let:x≠n:=by rintro rfl;exact h v fH
   simp[this]
  .rfl
theorem pB{a:Str->Option Jk}{x:Str}:∀{binds:Ly (Str×HN)}{m:Str->Option HN},(∀v,(x,v) ∉ binds)->Jm a binds m x=m x
 | [],_,_=>rfl
 |(n,v) :: r,m,h=>by
  unfold Jm;rw[pB λw b=>h w (iE _ b)];split
  .rfl
  .let:x≠n:=by rintro rfl;exact h v fH
   simp[this]
theorem pC{a:Str->Option Jk}{x:Str}{v:HN}:∀{P:Ly Str}{vs:Ly HN}{i:Nat}{m:Str->Option HN},P.Nodup->P[i]?=Lh x->vs[i]?=Lh v->a x=Lh .local ->
  Jl a (P.zip vs) m x=Lh v
 | [],_,_,_,_,h,_,_=>by simp at h
 |_ :: _,[],_,_,_,_,h,_=>by simp at h
 |p :: P,w :: vs,0,m,nd,h1,h2,hk=>by
  simp at h1 h2;subst h1;subst h2;show Jl a ((p,w) :: P.zip vs) m p=_;unfold Jl;rw[pA λv b=>(oN.mp nd).1 (vr b).1,Lq hk];simp
 |p :: P,w :: vs,i+1,m,nd,h1,h2,hk=>by
  show Jl a ((p,w) :: P.zip vs) m x=_;unfold Jl;calc pC (i:=i) (oN.mp nd).2 (~~~h1) (~~~h2) hk
theorem pD{a:Str->Option Jk}{x:Str}{v:HN}:∀{P:Ly Str}{vs:Ly HN}{i:Nat}{m:Str->Option HN},P.Nodup->P[i]?=Lh x->vs[i]?=Lh v->a x≠Lh .local ->
  Jm a (P.zip vs) m x=Lh v
 | [],_,_,_,_,h,_,_=>by simp at h
 |_ :: _,[],_,_,_,_,h,_=>by simp at h
 |p :: P,w :: vs,0,m,nd,h1,h2,hk=>by
  simp at h1 h2;subst h1;subst h2;show Jm a ((p,w) :: P.zip vs) m p=_;unfold Jm;rw[pB λv b=>(oN.mp nd).1 (vr b).1,Lp hk];simp
 |p :: P,w :: vs,i+1,m,nd,h1,h2,hk=>by
  show Jm a ((p,w) :: P.zip vs) m x=_;unfold Jm;calc pD (i:=i) (oN.mp nd).2 (~~~h1) (~~~h2) hk
def start(N:Ly Str)(vs:Ly V):St:=vs.map Lh++List.replicate (N.length-⇑vs) Li
def jH(CX:CXT)(P:HQ)(w:HP)(K:W.Frag)(mg:Str->Option HN)(base:HS)(N:Ly Str)(qual:Str)(scope:Ic)(f:HR)(b:HN)(A:Ia)(outer:Ly Env)(s:Ib)(H:Hp)(E:XK):Cx where
 prog:=P
 w:=w
 K:=K
 mg:=mg
 base:=base
 A:=A.deeper (envOfC qual scope ↥s f b)
 N:=N
 s₀:=s
 H₀:=H
 env:=envOfC qual scope ↥s f b
 outer:=outer
 stack:=envOfC qual scope ↥s f b :: outer
 ex:=[]
 calm:=Lj
 fn:=λ_=>Lj
 pn:=[]
 xe:=λe c=>Ih (model P w) (A.deeper<|envOfC qual scope ↥s f b) (leaving (envOfC qual scope ↥s f b) e) (λ_ a=>CX outer H s E e a) (λd a=>CX outer H s E d a) c
theorem rf{a:Ic}{n:Nat}{x:Str}(h:a.names.lookup x=Lh .cell):∃c,(Jn n a.names []).lookup x=Lh c:=by
 let q:=W.cellsFrom_some a.names n [] (.inl h);calc G7.mp q
theorem vL{CX:CXT}{P:HQ}{w:HP}{K:W.Frag}{mg:Str->Option HN}{base:HS}{N ps:Ly Str}{qual:Str}{scope:Ic}{f:HR}{C:HN}{A:Ia}{d:Ly Env}{s D:Ib}{H:Hp}{E:XK}{us:Ly HN}{vs:Ly V}
  (S:av N ps scope)(J:A.handled=Li)(j:q9 P w K mg base A d s H)(Q:⇑vs=⇑ps)(r:Vals vs us)
  (x:InCallC s ↥s (Jl (envOfC qual scope ↥s f C).kindOf (ps.zip us) λ_=>Li) (Jn (↥s+1) scope.names []) (Jm (envOfC qual scope ↥s f C).kindOf (ps.zip us) λ_=>Li) D) :
  Inv (jH CX P w K mg base N qual scope f C A d s H E) [] (start N vs) H D:=by
 let M:⇑ps<=N.length:=by have:=Lw List.length S.pre;rw[iT]at this;lia
 let(B,O,rfl,G):=x.done;let m:∀b:HR,b ∉ (jH CX P w K mg base N qual scope f C A d s H E).ex:=λb z=>Lr (show b∈([]:Ly HR)from z) (by simp)
 refine⟨⟨j.mod,S.kind,U,U,xX _,λy z c B g=>?_,λy l=>?_,λy c _ h=>?_,λ_=>J,Ia.frames_deeper j.frames,.inr ⟨U,U⟩,λb z=>Lr z<|m b,j.bs,j.bsz,λb _ _=>m b,λb z=>Lr z<|m b,j.funs,j.frf⟩,
  rfl,j.bare,Un.kept G,⟨_,x.toInCall.ns,λi y v B g R=>?_⟩,λy c h=>⟨_,x.cell y c h⟩,j.hok.fresh<|xX _,λy c h=>?_,λp o=>Lr (show p∈([]:Ly (HR×Obj))from o) (by simp),j.hok.kept G,?_⟩
 .exact name_of_addr x.apart (mem_of_lookup B)<|mem_of_lookup g
 .let l:scope.names.lookup y=Lh .cell\/scope.names.lookup y=Lh .free:=l;rcases l with l|l
  .exact rf l
  .exact Lr U<|S.nofree _<|mem_of_lookup l
 .exact zz<|x.above y c<|mem_of_lookup h
 .let hi:i<⇑vs:=by
   unfold start at g;by_cases hi:i<⇑vs
   .exact hi
   .rw[kq (~~~hi)]at g;rw[List.getElem?_replicate]at g;split at g <;> cases g
  let L:vs[i]?=Lh v:=by
   unfold start at g;rw[ji (~~~hi),jj]at g;cases e:vs[i]? with
   |none=>rw[e]at g;cases g
   |some a=>rw[e]at g;cases g;rfl
  let(u,F,I):=r.get L;let o:ps[i]?=Lh y:=by
   rw[←S.pre,List.getElem?_take_of_lt ∅];exact B
  let t:ps.Nodup:=by rw[←S.pre];exact S.nd.sublist<|tu _ _
  calc⟨u,I,?_⟩;rcases S.par y (HH o)with k|k
  .exact .inl ⟨k,pC t o F k⟩
  .let(c,e):=rf (n:=↥s+1) k;calc .inr ⟨.inl k,c,e,?_⟩;let q:=x.cell y c e;rw[pD t o F (by show scope.names.lookup y≠_;rw[k];decide)]at q;exact q
 .exact j.hok.fresh<|zz<|x.above y c<|mem_of_lookup h
 .unfold start;show _=N.length;rw[dy,bc,oG];lia
theorem xo{CX:CXT}{P:HQ}{w:HP}{K:W.Frag}{mg:Str->Option HN}{base:HS}{k:Nat}{f:HR}{name qual:Str}{params:Jo}{body:Ly Io}{scope:Ic}{F kV doc pm c G X:HN}{L T:Option HR}
  {z:Array (Option HN)}{N ps:Ly Str}{sp:Sp}(Y:K.lookup f=Lh ⟨X,T,.func<|W.fnOf name qual params body scope F kV doc pm L c G,z⟩)(C:W.codeIn K c qual=Lj)(S:av N ps scope)
  (len:∀vs H Q E,sp vs H Q E->⇑vs=⇑ps)
  (fc:∀(A:Ia)(a:Ly Env)(s:Ib)(H:Hp)(vs:Ly V)(Q:VK)(E:XK),bT k (A.deeper<|envOfC qual scope ↥s f c)->sp vs H Q E ->
   ∃t,PSs (jH CX P w K mg base N qual scope f c A a s H E) body t/\t { nx:=λ_ H'=>Q .non H',rt:=Q } (start N vs) H) :
  aK P w K mg base CX (k+1) f (W.fnOf name qual params body scope F kV doc pm L c G) ps sp:=by
 calc⟨len,λA a s H O R vs Q E p h hb r i=>?_⟩;let hl:=len _ _ _ _ i;let M:K.In s.heap:=h.mod.kin.keeps λb o e=>(h.bs b o e).1
 let B:s.heap.NoLimit:=h.mod.nolimit.keeps λb o e=>(h.bs b o e).1
 let CJ:∀y∈ps.zip R,scope.names.lookup y.1=Lh .local\/(scope.names.lookup y.1=Lh .cell/\((Jn (↥s+1) scope.names []).lookup y.1).isSome=Lj):=λ⟨n,v⟩ Z=>by
  rcases S.par n (vr Z).1 with q|q
  .exact .inl q
  .exact .inr ⟨q,W.cellsFrom_some _ _ _<|.inl q⟩
 calc codeAny_call_function p.depth (M _ _ Y) U S.co S.gen U (W.codeRec_of M C)<|hb _ _ _ _ ?_;refine wpAny_newFunctionEnv_cells S.kind CJ λa0 he D x=>?_
 subst he;calc⟨B.keeps x.toInCall.keep,codeAny_func ?_⟩;let(t,ht,hq):=fc A a s H vs Q E (p.deeper _) i;let I:Inv (jH CX P w K mg base N qual scope f c A a s H E) [] (start N vs) H D:=vL S p.hd h hl r x;refine Ip (ht [] D (start N vs) H _ I hq) (λfl l g=>?_) λe l g=>g
 let j:∀{d:St}{H':Hp}{v:V}{u:HN},Inv (jH CX P w K mg base N qual scope f c A a s H E) [] d H' l->RelV v u->Q v H'->CE a P w H s Q u l :=
  λ{d H' v u} J m q=>⟨v,H',J.os,J.bare,J.base,J.hok,m,q⟩
 cases fl with
 |ret u =>
  let(v,d,H',J,m,q):=g;exact j J m q
 |next =>
  let(d,H',J,q):=g;exact j (v:=V.non) (u:=HN.none) J U q
 |brk =>
  let(_,_,_,q):=g;exact False.elim q
 |cont =>
  let(_,_,_,q):=g;calc False.elim q
section
variable{x:Str}{id T:String}{r:Ly V->Hp->VK->Prop}
def tCB(r:Ly V->Hp->VK->Prop)(t:TA):TE:=λσ H Q=>t σ H λa b=>r a b Q
theorem au(n:cF X (.builtin id) r)(m:Gl X x)(l:X.mg x=Li)(j:HZ x=Lh (.builtin id))(o:PA X (e :: es) t)(k:x ≠ "__name__" := by decide) (b:(x == ("__debug__" : Str))=false:=by decide)
  (he:Im (e :: es) X.env=(Ll,eval e X.env) :: Im es X.env:=by rfl)(a:(Il pos<|Im es X.env).any (·.1)=false:=by rfl):PE X (.Call (.Name x p) (e :: es) [] pos) (tCB r t):=by
 intro Ln s σ H Q I h;calc HM<|fU I m l j ?_ k b;calc PyProof.Rows.callWith_builtin1 (thn (o pos Ln s σ H _ I h) λd f ⟨c,u,q,g,i⟩=>n Ln f σ u c d Q q g i) he a
theorem bJ(n:cF X (.type T) r)(m:Gl X x)(l:X.mg x=Li)(j:HZ x=Lh (.type T))(o:PA X (e :: es) t)(k:x ≠ "__name__" := by decide) (b:(x == ("__debug__" : Str))=false:=by decide)
  (he:Im (e :: es) X.env=(Ll,eval e X.env) :: Im es X.env:=by rfl)(a:(Il pos<|Im es X.env).any (·.1)=false:=by rfl):PE X (.Call (.Name x p) (e :: es) [] pos) (tCB r t):=by
 intro Ln s σ H Q I h;calc HM<|fU I m l j ?_ k b;calc PyProof.Rows.callWith_type1 (thn (o pos Ln s σ H _ I h) λd f ⟨c,u,q,g,i⟩=>n Ln f σ u c d Q q g i) he a
end
end _L
namespace HT
open PySem PyProof.Rows
section
open PySem.SeqAt
open PySem.AutoSeq1 (wpAny_loadPart')
open PySem.MeetsSeq PySem.MeetsSeq2 PySem.MeetsSeq3
end
section
variable{prog:HQ}{w:HP}{A:Ia}{E:HN->Ib->Prop}{s:Ib}
theorem cat_tup{t b:HR}{vs ws:Ly HN}{Q:HN->Ib->Prop}(r:IsTup s.heap t vs.toArray)(u:IsTup s.heap b ws.toArray)(o:vs≠[])
  (x:ws=[]->Q (.ref t) s)(v:ws≠[]->Q (.ref ↥s) { s with heap:=s.heap.push { cls:=.type "tuple",data:=.seq (vs++ws).toArray } })
  (j:⇑vs+⇑ws<=HU):Ih (model prog w) A (IS .Add (.ref t)<|.ref b) Q E s:=by
 let((cls,dd,data,l),i,q,n,p):=id r;let((y,g,k,c),a,f,m,d):=id u;simp only at q p f d;subst q p f d;let e:vs.toArray++ws.toArray=(vs++ws).toArray:=by simp
 by_cases h:ws=[]
 .exact Jp ⟨_,i,rfl⟩ ⟨_,a,rfl⟩ Jq Jr PySem.F.slot_tuple_add PySem.F.entry_tuple_add (PySem.F.args_tuple_add_2 _ _)
   (tuple_addW1 t b vs.toArray ws.toArray n m dd g l c (~~~o) (by simp[h])) ⟨i,a,x h⟩
 .refine Jp ⟨_,i,rfl⟩ ⟨_,a,rfl⟩ Jq Jr PySem.F.slot_tuple_add PySem.F.entry_tuple_add (PySem.F.args_tuple_add_2 _ _)
   (tuple_addW2 t b vs.toArray ws.toArray n m dd g l c (~~~o) (~~~h) (by rw[dV,dV];exact j)) ⟨i,a,?_⟩
  rw[e];calc v h
def sIx(n d:Nat):Option Int->Nat
 |none=>d
 |some v=>if v<0 then(v+(n:Int)).toNat else min v.toNat n
end
end HT
namespace _L
open PySem PySem.Spec PyProof.Rows
abbrev TO:=St->Hp->(Option Int->Hp->Prop)->Prop
def PO(X:Cx)(e:Option Ij)(t:TO):Prop :=
 ∀(a:Ly (HR×Obj))(s:Ib)(b:St)(H:Hp)(Q:Option Int->Hp->Prop),Inv X a b H s->t b H Q ->
  Ih (model X.prog X.w) X.A (evalPart e X.env) (λu d=>∃o c,Inv X a b c d/\IsPart u o/\Q o c) X.xe s
def zh:TO:=λ_ H Q=>Q Li H
inductive xp  (Q:Option Int->Hp->Prop)(x:V)(H1:Hp):Prop
 |mk (i:_)(_:x=.int i)(_:Q (Lh i) H1):xp Q x H1
def CK(t:TE):TO:=λa H Q=>t a H λx b=>xp Q x b
variable{X:Cx}
section
variable{e:Ij}{te:TE}{lo hi:Option Ij}{tl th:TO}{pos p2:Pos}
theorem mB:PO X Li zh:=by
 intro a s b H Q I h;rw[Js];calc HK ⟨Li,H,I,.none,h⟩
theorem mC(h:PE X e te):PO X (Lh e) (CK te):=by
 intro a s b H Q I f;rw[evalPart_some];refine thn (h a s b H _ I f) λu k ⟨x,j,g,c,d⟩=>?_
 let(i,rfl,q):=d;let(t,rfl):=c;calc⟨Lh i,j,g,.int i t,q⟩
def SlR(X:Cx)(r:V->Option Int->Option Int->Hp->VK->Prop):Prop :=
 ∀(a:Ly (HR×Obj))(s:Ib)(b:St)(H:Hp)(x:V)(v d c:HN)(lo hi:Option Int)(e:HR)(Q:VK),Inv X a b H s->RelV x v->s.heap.IsSliceOf e d c .none->IsPart d lo->IsPart c hi->r x lo hi H Q ->
  ∃T f,Jt (.type T) "__getitem__" = pure (Lh<|.builtin f)/\s.TypeIs v T/\Ih (model X.prog X.w) X.A (getItem v<|.ref e) (EP X a b Q) X.xe s
def tSl(r:V->Option Int->Option Int->Hp->VK->Prop)(te:TE)(tl th:TO):TE:=λa H Q=>te a H λx d=>tl a d λl c=>th a c λu b=>r x l u b Q
theorem kr{r:V->Option Int->Option Int->Hp->VK->Prop}(B:SlR X r)(E:PE X e te)(C:PO X lo tl)(y:PO X hi th):PE X (.Subscript e (.Slice lo hi Li p2) pos) (tSl r te tl th):=by
 intro a s d H Q I h;calc Subscript_<|thn (E a s d H _ I h) λv j ⟨x,N,L,k,o⟩=>?_;calc wpAny_Slice<|thn (C a j d N _ L o) λg s2 ⟨l,M,K,t,n⟩=>thn (y a s2 d M _ K n) λf c ⟨u,i,J,p,m⟩=>?_;rw[Js];calc HK ?_;let G:Inv X a d i { c with heap:=c.heap.push { cls:=.type "slice",data:=.fields #[g,f,.none] } }:=J.kept (t':=c.toks) λb O q=>HS.get?_push_of_some _ q
 let(T,P,F,z,D):=B a { c with heap:=c.heap.push { cls:=.type "slice",data:=.fields #[g,f,.none] } } d i x v g f l u ↥c Q G k (HS.IsSliceOf.new ..) t p m;show Ih (model X.prog X.w) X.A (subscriptTail e (.Slice lo hi Li p2) v<|.ref ↥c) (EP X a d Q) X.xe { c with heap:=c.heap.push { cls:=.type "slice",data:=.fields #[g,f,.none] } };calc tail_any (ops:=[.ref ↥c,v]) z F D (by with_unfolding_all rfl)
def qi(xs:Ly V)(lo hi:Option Int):Ly V:=(xs.drop<|HT.sIx ⇑xs 0 lo).take<|HT.sIx ⇑xs ⇑xs hi-HT.sIx ⇑xs 0 lo
theorem rg(xs:Ly V)(lo hi:Option Int):⇑(qi xs lo hi)<=⇑xs:=by
 unfold qi;rw[iT,wh];lia
inductive Ax(K:W.Frag)(x:V)(y:V)(H:Hp)(Q:VK):Prop
 |mk (a b xs ys:_)(_:x=.ref a)(_:y=.ref b)(_:SqT K H a xs)(_:SqT K H b ys)(_:xs≠[])(_:⇑xs+⇑ys<=HU)(_:(ys=[]->Q (.ref a) H))(_:(ys≠[]->∀p,H p=Li->Q (.ref p) (upd H p<|.tup<|xs++ys)))
theorem Vals.nil_iff{xs:Ly V}{us:Ly HN}(r:Vals xs us):us=[]↔xs=[]:=by
 cases r with
 |nil=>simp
 |cons _ _=>simp
theorem zi:OpR X (IS .Add) (Ax X.K):=by
 intro f s B H x y v u Q I k j h;let(a,b,i,g,rfl,rfl,t,r,p,e,m,l):=h;cases k;cases j;let(A,d,n,_):=I.tuple t;let(D,c,p2,_):=I.tuple r;refine HT.cat_tup n p2 (λz=>p<|d.nil_iff.mp z) (λz=>⟨.ref a,H,I,U,m<|c.nil_iff.mp z⟩) (λz=>?_) (by rw[←⇑d,←⇑c];exact e);calc⟨.ref ↥s,_,I.laid (t':=s.toks) (o:=.tup<|i++g) (λb C q=>HS.get?_push_of_some _ q) (xX _) ?_,U,l (λw=>z<|c.nil_iff.mpr w) _<|I.hok.fresh<|xX _⟩;calc⟨by rw[dy];exact e,_,d.append c,IsTup.new _ _⟩
end
def ixN(n:Nat)(i:Int):Option Nat:=if 0<=i then(if i<n then Lh i.toNat else Li)else if -(n:Int)<=i then Lh (i+n).toNat else Li
def atI{a:Type}(xs:Ly a)(i:Int):Option a:=(ixN ⇑xs i).bind λj=>xs[j]?
theorem uX{n:Nat}{i:Int}{j:Nat}(h:ixN n i=Lh j):seqIndex? i n=Lh j/\j<n/\-(n:Int)<=i/\i<n:=by
 unfold ixN at h;by_cases b:0<=i
 .rw[Lq b]at h;by_cases a:i<n
  .rw[Lq a]at h;let e:i.toNat=j:=Option.some.inj h;exact⟨by rw[Ju b a,e],∅,∅,a⟩
  .rw[Lp a]at h;cases h
 .rw[Lp b]at h;by_cases a : -(n:Int)<=i
  .rw[Lq a]at h;let e:(i+n).toNat=j:=Option.some.inj h;exact⟨by rw[seqIndex_neg ∅ a,e],∅,a,∅⟩
  .rw[Lp a]at h;cases h
theorem uY{a:Type}{xs:Ly a}{i:Int}{v:a}(h:atI xs i=Lh v):∃j,seqIndex? i ⇑xs=Lh j/\xs[j]?=Lh v/\j<⇑xs/\-(⇑xs:Int)<=i/\i<⇑xs:=by
 unfold atI at h;cases e:ixN ⇑xs i with
 |none=>rw[e]at h;cases h
 |some j =>
  rw[e]at h;let(f,d,c,b):=uX e;calc⟨j,f,h,d,c,b⟩
theorem bh{a:Type}{xs:Ly a}{j:Nat}{v:a}(h:xs[j]?=Lh v):atI xs (j:Int)=Lh v:=by
 let b:j<⇑xs:=(HG.mp h).1;let e:ixN ⇑xs (j:Int)=Lh j:=by
  unfold ixN;rw[Lq ∅,Lq ∅];simp
 unfold atI;rw[e];calc h
theorem rh{a:Type}(xs:Ly a)(v:a):atI (xs++[v]) (-1)=Lh v:=by
 let b:⇑(xs++[v])=⇑xs+1:=by simp
 let e:ixN ⇑(xs++[v]) (-1)=Lh ⇑xs:=by
  unfold ixN;rw[b,Lp ⋯,Lq ∅]
  congr 1
  lia
 unfold atI;rw[e];show(xs++[v])[⇑xs]?=Lh v;simp
def zj(b:Ij):Prop:=∀o i,subscripted b Ll o i=operate [o,i] (getItem o i)
def IxR(X:Cx)(r:R2):Prop :=
 ∀(value a:Ij)(b:Ly (HR×Obj))(s:Ib)(c:St)(H:Hp)(x y:V)(v u:HN)(Q:VK),Inv X b c H s->RelV x v->RelV y u->r x y H Q ->
  subscripted a Ll v u=operate [v,u] (getItem v u)->Ih (model X.prog X.w) X.A (subscriptTail value a v u) (EP X b c Q) X.xe s
def MtR(X:Cx)(e:String)(r:V->Ly V->Hp->VK->Prop):Prop :=
 ∀(a:Ly (HR×Obj))(s:Ib)(b:St)(H:Hp)(x:V)(c:Ly V)(v:HN)(d:Ly HN)(Q:VK),Inv X a b H s->RelV x v->Vals c d->r x c H Q ->
  Ih (model X.prog X.w) X.A (call (.builtin e) (v :: d)) (EP X a b Q) X.xe s
section
variable{a b:Ij}{ta tb:TE}{pos:Pos}
theorem aH{r:R2}(i:IxR X r)(k:PE X a ta)(j:PE X b tb)(g:zj b):PE X (.Subscript a b pos) (tOp r ta tb):=by
 intro c s d H Q I h;calc Subscript_<|Ba k j I h λv u s2 x y m l f e q=>i a b c s2 d m x y v u Q l f e q<|g _ _
inductive Bj(K:W.Frag)(x:V)(y:V)(H:Hp)(Q:VK):Prop
 |mk (p xs i v:_)(_:x=.ref p)(_:y=.int i)(_:SqL K H p xs)(_:atI xs i=Lh v)(_:Q v H)
inductive Bm(K:W.Frag)(x:V)(y:V)(H:Hp)(Q:VK):Prop
 |mk (p xs i v:_)(_:x=.ref p)(_:y=.int i)(_:SqT K H p xs)(_:atI xs i=Lh v)(_:Q v H)
theorem ba:IxR X (Bj X.K):=by
 intro value k a s l H x y v u Q I C B h m;let(p,M,i,z,rfl,rfl,D,F,q):=h;cases C;let(t,rfl):=B;let(g,r,d,N):=I.list D;let(j,c,L,P,J,G):=uY F;let(w,o,f):=r.get L;let E:=⇑r;let O:=lr;let b:EP X a l Q w s:=⟨z,H,I,f,q⟩;by_cases n:0<=i
 .let e:i.toNat=j:=by
   rw[Ju n G]at c;exact Option.some.inj c
  exact item_listR d.isList n ∅ (by rw[e];simpa using o) b m
 .let e:(i+(g.toArray.size:Int)).toNat=j:=by
   rw[seqIndex_neg ∅ J]at c;rw[dV,←E];exact Option.some.inj c
  exact subscriptTail_builtinR (x:=w) d.isList.typeIs Jv.lookup
   (wpAny_getItem_list_neg (Q:=λr A=>r=w/\EP X a l Q r A) d.isList ∅ (by rw[dV] <;> lia) ∅ (by rw[e];simpa using o) ⟨U,b⟩) m
theorem aO:IxR X (Bm X.K):=by
 intro value d a s e H x y v u Q I l k h m;let(p,F,i,z,rfl,rfl,n,A,q):=h;cases l;let(t,rfl):=k;let(E,r,f,G):=I.tuple n;let(j,C,B,N,M,L):=uY A;let(w,D,b):=r.get B;let o:=⇑r;let J:=lr;let c:EP X a e Q w s:=⟨z,H,I,b,q⟩
 exact subscriptTail_builtinR (x:=w) f.typeIs slot_tuple_getitem.lookup
  (getItem_tuple (j:=j) (Q:=λr g=>r=w/\EP X a e Q r g) f ∅ ∅ (by rw[dV,←o];exact C) (~~~D) ⟨U,c⟩) m
theorem tV(a:Ly HN)(n j:Nat)(u:HN):Obj.mapSeq (·.setIfInBounds j u) { cls:=.type "list",data:=.seq a.toArray n }={ cls:=.type "list",data:=.seq (a.set j u).toArray n }:=by
 simp[Obj.mapSeq]
theorem Inv.lst{b:Ly (HR×Obj)}{c:St}{H:Hp}{s:Ib}{p:HR}{xs:Ly V}(I:Inv X b c H s)(h:H p=Lh (.lst xs)) :
  ∃(a:Ly HN)(n:Nat),Vals xs a/\s.heap.get? p=Lh { cls:=.type "list",data:=.seq a.toArray n }/\⇑xs<=HU:=by
 let(z,a,n,r,e):=I.hok p _ h;calc⟨a,n,r,e,z⟩
theorem Inv.lstUpd{a:Ly (HR×Obj)}{g:St}{H:Hp}{s:Ib}{p:HR}{xs ys:Ly V}{c its':Ly HN}{n d:Nat}{f:Obj->Obj}(I:Inv X a g H s)(h:H p=Lh (.lst xs))
  (i:s.heap.get? p=Lh { cls:=.type "list",data:=.seq c.toArray n }) (hf:f { cls:=.type "list",data:=.seq c.toArray n }={ cls:=.type "list",data:=.seq its'.toArray d }) (r:Vals ys its')(hz:⇑ys<=HU)(t:Nat) :
  Inv X a g (upd H p<|.lst ys) { s with heap:=s.heap.update p f,toks:=t }:=by
 let e:(s.heap.update p f).get? p=Lh { cls:=.type "list",data:=.seq its'.toArray d }:=by
  rw[HS.get?_update_self f i (by rw[hf] <;> rfl),hf]
 refine I.write (x:=p) (e:=p) (by rw[h];trivial) (.inl U) (λb u j q=>(HS.get?_update_other _ _<|Ne.symm j).trans q) ⟨_,e⟩ ?_;calc⟨hz,its',d,r,e⟩
inductive Ay  (o:V)(i:V)(v:V)(H:Hp)(Q:(Hp->Prop)):Prop
 |mk (p xs k j:_)(_:o=.ref p)(_:i=.int k)(_:H p=Lh (.lst xs))(_:ixN ⇑xs k=Lh j)(_:Q (upd H p<|.lst<|xs.set j v)):Ay o i v H Q
theorem set_list:Cv X Ay:=by
 intro b s y H o i v F G u Q I B C A h;let(p,z,k,j,rfl,rfl,g,E,q):=h;cases B;let(t,rfl):=C;let(a,n,r,d,D):=I.lst g;let(c,K,m,l):=uX E;let e:=⇑r;let J:=lr;let x:Inv X b y (upd H p<|.lst<|z.set j v) { s with heap:=s.heap.update p (Obj.mapSeq (·.setIfInBounds j u)) } :=
  I.lstUpd g d (tV a n j u) (r.set A j) (by rw[List.length_set];exact D) s.toks
 by_cases w:0<=k
 .let f:k.toNat=j:=by
   rw[Ju w l]at c;exact Option.some.inj c
  exact W.ki_setAt d w ∅ (by rw[dV,←e];exact l) (by rw[f];exact⟨_,x,q⟩)
 .let f:(k+(a.toArray.size:Int)).toNat=j:=by
   rw[seqIndex_neg ∅ m]at c;rw[dV,←e];exact Option.some.inj c
  calc W.ki_setBack d ∅ (by rw[dV,←e];exact m) ∅ (by rw[f];exact⟨_,x,q⟩)
theorem qj(lo hi:Option Int)(n:Nat):(Jw lo hi Li n).1=((HT.sIx n 0 lo:Nat):Int)/\(Jw lo hi Li n).2.1=((HT.sIx n n hi:Nat):Int)/\(Jw lo hi Li n).2.2=1:=by
 refine⟨?_,?_,U⟩
 .cases lo with
  |none=>simp[Jw,HT.sIx]
  |some i =>
   simp only[Jw,HT.sIx,G9,show(1:Int)>0 by decide,if_true];by_cases h:i<0
   .simp only[h,if_true] <;> lia
   .simp only[h,if_false] <;> lia
 .cases hi with
  |none=>simp[Jw,HT.sIx]
  |some i =>
   simp only[Jw,HT.sIx,G9,show(1:Int)>0 by decide,if_true];by_cases h:i<0
   .simp only[h,if_true] <;> lia
   .simp only[h,if_false] <;> lia
theorem oO(a:Ly HN)(lo hi:Option Int):slicePick a.toArray lo hi Li=((a.drop<|HT.sIx ⇑a 0 lo).take<|HT.sIx ⇑a ⇑a hi-HT.sIx ⇑a 0 lo).toArray:=by
 let(d,c,b):=qj lo hi a.toArray.size;unfold slicePick;rw[d,c,b];simp only[sliceRange_one,pick_run,dV] <;> rfl
inductive Bo(K:W.Frag)(x:V)(lo:Option Int)(hi:Option Int)(H:Hp)(Q:VK):Prop
 |mk (a xs:_)(_:x=.ref a)(_:SqL K H a xs)(_:∀p,H p=Li->Q (.ref p) (upd H p<|.lst<|qi xs lo hi))
theorem mD:SlR X (Bo X.K):=by
 intro f s p H x v u t lo hi w Q I g m j i h;let(a,c,rfl,l,q):=h;cases g;let(n,r,e,k):=I.list l;let d:=⇑r;calc⟨"list",_,Jv.lookup,e.isList.typeIs,?_⟩;refine wpAny_getItem_list_slice e.isList m j i .none (by simp) ?_ (by rw[dV] <;> lia);rw[oO,←d];calc⟨.ref ↥s,_,I.laid (t':=s.toks) (o:=.lst<|qi c lo hi) (λb y q=>HS.get?_push_of_some _ q) (xX _) ?_,U,q _<|I.hok.fresh<|xX _⟩;calc⟨yW (rg c lo hi) k,_,0,(r.drop<|HT.sIx ⇑c 0 lo).take<|HT.sIx ⇑c ⇑c hi-HT.sIx ⇑c 0 lo,HS.get?_push_size _ U⟩
def gj:V->Bool
 | .non=>Lj
 | .bl _=>Lj
 | .int _=>Lj
 | .str _=>Lj
 |_=>Ll
def eqV:V->V->Bool
 | .non,.non=>Lj
 | .bl a,.bl b=>a == b
 | .bl a,.int b=>(if a then 1 else 0) == b
 | .int a,.bl b=>a == (if b then 1 else 0)
 | .int a,.int b=>a == b
 | .str a,.str b=>a == b
 |_,_=>Ll
theorem tW{A:Ia}{s:Ib}{y x:V}{u v:HN}(e:RelV y u)(c:RelV x v)(g:gj y=Lj)(f:gj x=Lj):SeqAt.EqAt A s u v (eqV y x):=by
 cases y with
 |non =>
  cases e;cases x with
  |non=>cases c;exact SeqAt.EqAt.same _
  |bl b=>cases c;exact SeqAt.EqAt.none_bool b
  |int b=>obtain⟨t,rfl⟩:=c;exact SeqAt.EqAt.none_int b t
  |str b=>obtain⟨t,rfl⟩:=c;exact SeqAt.EqAt.none_str b t
  |_=>exact Lr (show Ll=Lj from f) Bool.false_ne_true
 |bl a =>
  cases e;cases x with
  |non=>cases c;exact SeqAt.EqAt.bool_none a
  |bl b=>cases c;exact SeqAt.EqAt.bool_bool a b
  |int b=>obtain⟨t,rfl⟩:=c;exact SeqAt.EqAt.bool_int a b t
  |str b=>obtain⟨t,rfl⟩:=c;exact SeqAt.EqAt.bool_str a b t
  |_=>exact Lr (show Ll=Lj from f) Bool.false_ne_true
 |int a =>
  let(d,rfl):=e;cases x with
  |non=>cases c;exact SeqAt.EqAt.int_none a d
  |bl b=>cases c;exact SeqAt.EqAt.int_bool a d b
  |int b=>obtain⟨t,rfl⟩:=c;exact SeqAt.EqAt.int_int a d b t
  |str b=>obtain⟨t,rfl⟩:=c;exact SeqAt.EqAt.int_str a d b t
  |_=>exact Lr (show Ll=Lj from f) Bool.false_ne_true
 |str a =>
  let(d,rfl):=e;cases x with
  |non=>cases c;exact SeqAt.EqAt.str_none a d
  |bl b=>cases c;exact SeqAt.EqAt.str_bool a d b
  |int b=>obtain⟨t,rfl⟩:=c;exact SeqAt.EqAt.str_int a d b t
  |str b=>obtain⟨t,rfl⟩:=c;exact SeqAt.EqAt.str_str a d b t
  |_=>exact Lr (show Ll=Lj from f) Bool.false_ne_true
 |_=>calc Lr (show Ll=Lj from g) Bool.false_ne_true
theorem aw:cF X (.builtin "len") (λxs H Q=>∃p ys,xs=[.ref p]/\(SqL X.K H p ys\/SqT X.K H p ys)/\Q (.int ⇑ys) H):=by
 intro f s j H xs k Q I r h;let(p,ys,rfl,b,q):=h;let(u,rfl,g):=vals1 r;cases g;let l:=lr;rcases b with b|b
 .let(e,c,d,i):=I.list b;let a:=⇑c;exact Calls.call_len_list d.isList (by simp only[dV] <;> lia) ⟨.int ⇑ys,H,I.tok _,⟨s.toks+1,by rw[dV,a]⟩,q⟩
 .let(e,c,d,i):=I.tuple b;let a:=⇑c;exact len_tuple d (by simp only[dV] <;> lia) ⟨.int ⇑ys,H,I.tok _,⟨s.toks+1,by rw[dV,a]⟩,q⟩
theorem qk:cF X (.builtin "len") (λxs H Q=>∃z,xs=[.str z]/\⇑z<=HU/\Q (.int ⇑z) H):=by
 intro a s b H xs c Q I r h;let(z,rfl,d,q):=h;let(u,rfl,t,rfl):=vals1 r;let e:=lr;calc len_str ∅ ⟨.int ⇑z,H,I.tok _,⟨_,U⟩,q⟩
theorem cF.or{f:HN}{r e:Ly V->Hp->VK->Prop}(h:cF X f r)(h':cF X f e):cF X f (λxs H Q=>r xs H Q\/e xs H Q):=by
 intro a s b H xs c Q I d q;rcases q with q|q
 .exact h a s b H xs c Q I d q
 .exact h' a s b H xs c Q I d q
theorem cV:cF X (.type "list") (λxs H Q=>∃p ys,xs=[.ref p]/\(SqL X.K H p ys\/SqT X.K H p ys)/\∀l,H l=Li->Q (.ref l) (upd H l<|.lst ys)):=by
 intro m s B H xs D Q I r h;let(p,ys,rfl,j,q):=h;let(u,rfl,C):=vals1 r;cases C
 let k:∀(a:Ly HN),Vals ys a->⇑ys<=HU->∀(c:HS)(f:Nat),(∀b A,s.heap.get? b=Lh A->c.get? b=Lh A) ->
   c.get? ↥s=Lh { cls:=.type "list",dict:=Li,data:=.seq a.toArray f,slots:=#[] }->EP X m B Q (.ref ↥s) { s with heap:=c }:=λa d i c f g e =>
  ⟨.ref ↥s,_,I.laid (t':=s.toks) g (xX _) (show cK X.prog X.w _ c _ (.lst ys) from⟨i,a,f,d,e⟩),U,q _<|I.hok.fresh<|xX _⟩
 rcases j with j|j
 .let(a,d,v,i):=I.list j;let t:=⇑d;let(o,x,z,n,y):=v.isList;exact Jx p (.inl U) x z y (λc f g e=>k a d i c f g e) (by simp only[dV] <;> lia)
 .let(a,d,v,i):=I.tuple j;let t:=⇑d;let(o,x,z,n,y):=v;exact Jx p (.inr U) x z y (λc f g e=>k a d i c f g e) (by simp only[dV] <;> lia)
theorem oP:cF X (.type "tuple") (λxs H Q=>∃p ys,xs=[.ref p]/\((SqL X.K H p ys/\∀l,H l=Li->Q (.ref l) (upd H l<|.tup ys))\/(SqT X.K H p ys/\Q (.ref p) H))):=by
 intro a s j H xs y Q I r h;let(p,ys,rfl,h):=h;let(u,rfl,t):=vals1 r;cases t;rcases h with⟨i,q⟩|⟨i,q⟩
 .let(c,f,g,k):=I.list i;let n:=⇑f;refine call_tuple_list g.isList (λd v=>?_) (by simp only[dV] <;> lia);let m:Inv X a j H { s with heap:=d }:=I.kept (t':=s.toks) v;let x:Inv X a j (upd H d.objs.size<|.tup ys) { s with heap:=d.push { cls:=.type "tuple",data:=.seq c.toArray } } :=
   m.laid (t':=s.toks) (λb o e=>HS.get?_push_of_some _ e) (xX _) (show cK X.prog X.w _ _ _ (.tup ys) from⟨k,c,f,IsTup.new _ _⟩)
  exact⟨.ref d.objs.size,_,x,U,q _<|m.hok.fresh<|xX _⟩
 .let(c,f,g,k):=I.tuple i;calc call_tuple_same g ⟨.ref p,H,I,U,q⟩
def tyV(K:W.Frag)(T:String)(x:V)(H:Hp):Prop:=match x with
 | .str _=>T = "str"
 | .int _=>T = "int"
 | .ref p=>(T = "list" /\ ∃b,SqL K H p b)\/(T = "tuple" /\ ∃o,K.lookup p=Lh o/\o.cls=.type "tuple" /\ o.dict=Li) \/
   (T = "dict" /\ ((∃a,H p=Lh (.dK a))\/∃a,H p=Lh (.dT a)))\/(T = "set" /\ ∃S n,H p=Lh (.set S n))
 |_=>False
theorem xq{f:Ly (HR×Obj)}{m:St}{H:Hp}{s:Ib}{T:String}{x:V}{v:HN}(I:Inv X f m H s)(r:RelV x v)(ty:tyV X.K T x H) :
  s.TypeIs v T/\∀a,v=.ref a->∃l,s.heap.get? a=Lh l/\l.dict=none:=by
 cases x with
 |str z =>
  let(t,rfl):=r;cases (show T = "str" from ty);exact⟨typeIs_str s z t,λ_ e=>nomatch e⟩
 |int i =>
  let(t,rfl):=r;cases (show T = "int" from ty);exact⟨typeIs_int s i t,λ_ e=>nomatch e⟩
 |ref p =>
  cases r;rcases ty with⟨rfl,y,q⟩|⟨rfl,o,b,u,g⟩|⟨rfl,b⟩|⟨rfl,S,n,b⟩
  .let(w,_,k,_):=I.list q;calc⟨k.isList.typeIs,λa e=>?_⟩;cases e;let(o,n,e,c,g,_):=k;exact⟨o,e,g⟩
  .refine⟨⟨o,I.kIn p o b,u⟩,λa e=>?_⟩;cases e;exact⟨o,I.kIn _ o b,g⟩
  .let z:∃o,s.heap.get? p=Lh o/\o.ExactDict:=by
    rcases b with⟨j,b⟩|⟨j,b⟩
    .let(_,_,_,_,o,_,_,e,d,_):=I.hok p _ b;exact⟨o,e,d⟩
    .let(_,_,_,_,o,_,_,e,d,_):=I.hok p _ b;exact⟨o,e,d⟩
   let(o,e,d):=z;calc⟨⟨o,e,d.1⟩,λa h=>?_⟩;cases h;exact⟨o,e,d.2.1⟩
  .let(o,_,_,_,e,d,_):=I.hok p _ b;calc⟨⟨o,e,d.1⟩,λa h=>?_⟩;cases h;exact⟨o,e,d.2.1⟩
 |_=>calc False.elim ty
def Ef(K:W.Frag)(T:String)(r:V->Ly V->Hp->VK->Prop)(to:TE):TE:=λb H Q=>to b H λx a=>tyV K T x a/\r x [] a Q
def tBM(K:W.Frag)(T:String)(r:V->Ly V->Hp->VK->Prop)(to:TE)(t:TA):TE:=λa H Q=>to a H λx b=>tyV K T x b/\t a b λc d=>r x c d Q
variable{o e:Ij}{es:Ly Ij}{to:TE}{t:TA}{name:Str}{apos iz:Pos}{T id:String}{r:V->Ly V->Hp->VK->Prop}
theorem xr(l:PlainAttrs T)(b:Slot T name id)(c:typeOf (.builtin id)=pure (.type "method_descriptor")) (hm:MtR X id r)(m:PE X o to)
  (i:Jb o name X.env (eval o X.env)=eval o X.env:=by rfl)(g:(apos.endLine == iz.line)=true:=by rfl):PE X (.Call (.Attribute o name apos) [] [] iz) (Ef X.K T r to):=by
 intro a s d H Q I h;calc wpAny_Call_method0_late i g<|thn (m a s d H _ I h) λv j ⟨x,q,f,e,ty,k⟩=>?_;let(p,n):=xq f e ty;calc⟨T,id,l,b,c,p,n,Calls.callWith_builtin U<|PySem.evalArgs_none<|hm a j d q x [] v [] Q f e .nil k⟩
theorem fe(w:PlainAttrs T)(b:Slot T name id)(d:typeOf (.builtin id)=pure (.type "method_descriptor")) (hm:MtR X id r)(z:PE X o to)(A:PA X (e :: es) t)
  (k:Jb o name X.env (eval o X.env)=eval o X.env:=by rfl)
  (G:((Il iz<|Im (e :: es) X.env).all (λx=>!x.1) && (Jy iz<|Jz [] X.env).all (λx=>x.1.isSome)
   && decide (⇑(e :: es)+⇑([]:Ly Keyword)+(if ([]:Ly Keyword).isEmpty then 0 else 1)<30))=true:=by rfl)
  (j:(apos.endLine == iz.line)=true:=by rfl)(y:Im (e :: es) X.env=(Ll,eval e X.env) :: Im es X.env:=by rfl)(J:(Il iz<|Im es X.env).any (·.1)=false:=by rfl) :
  PE X (.Call (.Attribute o name apos) (e :: es) [] iz) (tBM X.K T r to t):=by
 intro a s c H Q I h;calc wpAny_Call_method_late k G j U<|thn (z a s c H _ I h) λv n ⟨x,F,i,f,ty,u⟩=>?_;let(C,B):=xq i f ty;calc⟨T,id,w,b,d,C,B,?_⟩;let g:=A iz a n c F _ i u;rw[y]at g⊢;refine Calls.callWith_builtin (by show(Ll || (Il iz<|Im es X.env).any (·.1))=Ll;rw[J] <;> rfl) (Calls.evalArgs_plain ?_);calc thn g λm s2 ⟨l,E,D,p,q⟩=>hm a s2 c E x l v m Q D f p q
end
def MtM(X:Cx)(e:String)(r:V->Ly V->Hp->VK->Prop):Prop :=
 ∀(a:Ly (HR×Obj))(s:Ib)(b:St)(H:Hp)(x:V)(c:Ly V)(v:HN)(d:Ly HN)(Q:VK),Inv X a b H s->RelV x v->Vals c d->r x c H Q ->
  Ih (model X.prog X.w) X.A (call (.builtin e) (v :: d)) (EP X a b Q) X.xe s
theorem Vals.one:∀{x:V}{us:Ly HN},Vals [x] us->∃u,us=[u]/\RelV x u:=vals1
theorem Vals.two:∀{x y:V}{us:Ly HN},Vals [x,y] us->∃u v,us=[u,v]/\RelV x u/\RelV y v:=vals2
theorem Vals.zero:∀{us:Ly HN},Vals [] us->us=[]
 |_,.nil=>rfl
section
variable{Ln:Ly (HR×Obj)}{σ:St}{H:Hp}{s:Ib}{l b:HR}{xs ys zs:Ly V}
theorem Inv.lset{a its':Ly HN}{n:Nat}{f:Array HN->Array HN}{t':Nat}(I:Inv X Ln σ H s)(g:H l=Lh (.lst xs))
  (e:s.heap.get? l=Lh { cls:=.type "list",data:=.seq a.toArray n }) (hf:f a.toArray=its'.toArray)(b:Vals ys its')(hz:⇑ys<=HU) :
  Inv X Ln σ (upd H l<|.lst ys) { s with heap:=s.heap.update l<|Obj.mapSeq f,toks:=t' }:=by
 let q:=PySem.IsL.update e f;rw[hf]at q;refine I.write (x:=l) (e:=l) (by rw[g];exact trivial) (.inl U) (λh u d c=>(HS.get?_update_other s.heap (Obj.mapSeq f)<|Ne.symm d).trans c) ⟨_,q⟩ ?_;calc⟨hz,its',_,b,q⟩
def Inv.lnew{a:Ly HN}{t':Nat}(I:Inv X Ln σ H s)(b:Vals ys a)(hz:⇑ys<=HU) :
  Inv X Ln σ (upd H ↥s<|.lst ys) { s with heap:=s.heap.push { cls:=.type "list",data:=.seq a.toArray },toks:=t' } :=
 I.laid (λ_ _ q=>HS.get?_push_of_some _ q) (xX _) ⟨hz,a,0,b,HS.get?_push_size _ U⟩
theorem Inv.fresh(I:Inv X Ln σ H s):H ↥s=none:=I.hok.fresh<|xX _
theorem Inv.lstM(I:Inv X Ln σ H s)(b:H l=Lh (.lst xs)):⇑xs<=HU/\∃(a:Ly HN)(n:Nat),Vals xs a/\⇑xs=⇑a/\s.heap.get? l=Lh { cls:=.type "list",data:=.seq a.toArray n }:=by
 let(z,a,n,r,e):=I.hok l _ b;calc⟨z,a,n,r,⇑r,e⟩
theorem xv{n:Nat}(h:n<=HU):IP.List.listTooLong n=false:=by
 unfold IP.List.listTooLong;calc Lu ∅
end
inductive uZ  (x:V)(vs:Ly V)(H:Hp)(Q:VK):Prop
 |mk (l xs y:_)(_:x=.ref l)(_:vs=[y])(_:H l=Lh (.lst xs))(_:⇑xs<HU)(_:Q .non (upd H l<|.lst<|xs++[y])):uZ x vs H Q
theorem bG:MtM X "list.append" uZ:=by
 intro c s i H x k v m Q I d f h;let(l,j,y,rfl,rfl,b,o,q):=h;cases d;let(u,rfl,g):=f.one;let(z,a,n,r,p,e):=I.lstM b;refine JA F.slot_list_append ⟨_,e,U⟩ F.entry_list_append (F.args_list_append_2 _ _) (PySem.list_append l a.toArray n u (by rw[dV];lia)) ⟨e,?_⟩;refine⟨.non,_,I.lset (its':=a++[u]) b e (by simp) (r.append<|.cons g .nil) ?_,U,q⟩;rw[dy,iU];lia
inductive u5  (x:V)(vs:Ly V)(H:Hp)(Q:VK):Prop
 |mk (l b xs zs:_)(_:x=.ref l)(_:vs=[.ref b])(_:H l=Lh (.lst xs))(_:H b=Lh (.lst zs))(_:⇑xs+⇑zs<=HU)(_:Q .non (upd H l<|.lst<|xs++zs)):u5 x vs H Q
theorem vM:MtM X "list.extend" u5:=by
 intro g s A H x E v G Q I i j h;let(l,b,D,B,rfl,rfl,f,p,J,q):=h;cases i;let(u,rfl,k):=j.one;cases k;let(z,a,n,r,K,e):=I.lstM f;let(C,c,o,m,y,t):=I.lstM p;let d:a.toArray.size+c.toArray.size<=HU:=by rw[dV,dV];lia
 let w:¬ (!a.toArray.isEmpty && IP.List.listTooLong (a.toArray.size+c.toArray.size))=true:=by
  rw[xv d,Bool.and_false];exact Bool.false_ne_true
 refine JA F.slot_list_extend ⟨_,e,U⟩ F.entry_list_extend (F.args_list_extend_2 _ _)
  (AutoSeq1.list_extend_list_list_0 l a.toArray n b c.toArray o w (by rw[dV];lia) ∅) ⟨e,t,?_⟩
 refine⟨.non,_,I.lset (its':=a++c) f e (by simp) (r.append m) ?_,U,q⟩;rw[dy];lia
inductive xw  (x:V)(vs:Ly V)(H:Hp)(Q:VK):Prop
 |mk (l xs:_)(_:x=.ref l)(_:vs=[])(_:H l=Lh (.lst xs))(_:Q .non (upd H l<|.lst [])):xw x vs H Q
theorem rj:MtM X "list.clear" xw:=by
 intro d s i H x k v m Q I f g h;let(l,j,rfl,rfl,c,q):=h;cases f;let b:=g.zero;subst b;let(z,a,n,r,o,e):=I.lstM c;refine JA F.slot_list_clear ⟨_,e,U⟩ F.entry_list_clear (F.args_list_clear_1 _) (AutoSeq1.list_clear_list_0 l a.toArray n (by rw[dV];lia)) ⟨e,?_⟩;calc⟨.non,_,I.lset (its':=[]) (ys:=[]) c e U .nil<|yX _,U,q⟩
inductive CN  (x:V)(y:V)(H:Hp)(Q:VK):Prop
 |mk (l b xs zs:_)(_:x=.ref l)(_:y=.ref b)(_:H l=Lh (.lst xs))(_:H b=Lh (.lst zs))(_:⇑xs+⇑zs<=HU)(_:∀p,H p=Li->Q (.ref p) (upd H p<|.lst<|xs++zs)):CN x y H Q
theorem lE:OpR X (IS .Add) CN:=by
 intro d s t H x y v u Q I g f h;let(l,b,B,w,rfl,rfl,j,k,D,q):=h;cases g;cases f;let(z,a,n,r,E,e):=I.lstM j;let(A,c,C,i,p,o):=I.lstM k;refine PySem.P.add_list e o ?_ (by rw[dV,dV];lia);let m:a.toArray++c.toArray=(a++c).toArray:=by simp
 rw[m];calc⟨.ref _,_,I.lnew (t':=s.toks) (r.append i) (by rw[dy];lia),U,q _ I.fresh⟩
section
variable{prog:HQ}{w:HP}{A:Ia}{E:HN->Ib->Prop}{s:Ib}
end
end _L
namespace Att
open PySem PySem.W PySem.Calls PyProof.Rows
theorem mn{P:JB}{h:HS}:∀(c:Ly Int)(vs:Ly HN),WellAll P h vs (c.map WData.int)->IntsAre vs c:=by
 intro c;induction c with
 |nil =>
  intro vs w;rw[qc]at w;cases w;exact .nil
 |cons n c d =>
  intro vs w;rw[jU]at w;cases w with
  |cons a b =>
   cases a;calc .cons _ _<|d _ b
theorem vO{l:OpenLaw}{n:Nat}(u:l.most=Lh n){P:JB}{h:HS}{args:Ly WData}{c:Ly HN}
  (k:l.row.toRowW.claim.pre args=Lj)(i:WellAll P h c args) :
  ∃a vs b,c=[HN.ref a]/\args=[WData.list (b.map WData.int)]/\h.get? a=Lh { cls:=.type "list",data:=.seq vs.toArray }/\IntsAre vs b/\⇑b<=n:=by
 let j:WShape.hasAll [] args [.list .int]=true:=(pre_splitW k).1;let m:l.pre.holds [] { args:=args }=true:=(pre_splitW k).2;let(d,r,rfl,x,w):=hasAllW_cons j;obtain rfl:=hasAllW_nil w;let(z,rfl,v):=hasW_list x;let(b,rfl):=items_int v;let e:⇑b<=n:=by
  unfold OpenLaw.pre at m;let g:(WTm.not<|.lt (.lit<|.int (n:Int))<|.len<|.arg 0).holds [] { args:=[.list (b.map .int)] }=true:=by
   let g:=(holds_andW m).1;rw[u]at g;exact g
  let f:=condW_of g<|w_not<|w_lt w_lit<|w_len_list<|w_arg rfl;rw[bc]at f;refine Nat.le_of_not_lt λq=>?_
  let s:(n:Int)<((⇑b:Nat):Int):=∅
  first
   |(rw[Ls s]at f;exact Lr f ⋯)
   |(simp at f;lia)
 cases i with
 |cons p o =>
  cases o;cases p with
  |list t y=>calc⟨_,_,b,rfl,rfl,t,mn b _ y,e⟩
theorem vP(l:OpenLaw)(args:Ly WData):l.row.toRowW.claim.post args (.bool Lj) args=true :=
 postW_of (r:=l.row.toRowW) (X:=(Lj == Lj))
  (show WShape.has [] (.bool Lj) .bool=Lj by first|rfl|decide|simp[WShape.has,WShape.arms,WShape.armsAll])
  (show(WTm.eq .res<|.lit<|.bool Lj).value [] { args:=args,res:=Lh<|.bool Lj,after:=args }=Lh (.bool<|Lj == Lj)from w_eq_bool (w_res rfl) w_lit) rfl
theorem attach_call{l:OpenLaw}{n:Nat}{q:HQ}{e:Ly Str}{XP:(Str->Option HN)->HS->Prop}{x:HP->HS->Prop}{d:DefRec}
  (D:l.most=Lh n)(t:d.params.defaults=[])
  (call:∀(w:HP)(c b:Ib)(mg m:Str->Option HN)(h:HR)(o:Obj)(pm k doc:HN)(a:HR)(vs:Ly HN)(j:Ly Int),
   Ground q e [] XP w c mg m b.heap->x w b.heap ->
   b.heap.get? h=Lh o->o.data=.func (docDef d.name d.params d.body d.scope pm k doc)->b.heap.CodeRec k d.name->mg d.name=↑h ->
   b.heap.get? a=Lh { cls:=.type "list",data:=.seq vs.toArray }->IntsAre vs j->⇑j<=n->b.gens = #[] ->
   Ja (model l.prog w) JC (.call (.ref h) ⟨[.ref a],[]⟩) (λr s'=>r=.ok (.ret<|.bool Lj)/\OldK b.heap s'.heap/\s'.os=b.os/\AllBare s'.gens) b) :
  WalkO q e XP x l.row.toRowW d [] (λf vs=>PySem.call f vs):=by
 intro w c b mg m G Y h o pm k doc L kV C H u v s F z y P A Q N p O;obtain rfl:L=.none:=Dflts.none v t;obtain rfl:kV=.none:=Dflts.noKw v;let(a,vs,j,rfl,rfl,M,g,i):=vO D A p;calc enter_call<|Jj (call w c b mg m h o pm k doc a vs j G Y C (fd_plain H) u s M g i F) λr s' B=>?_;let(rfl,K,J,I):=B;calc⟨.inl ⟨.bool Lj,.bool Lj,[],rfl,λ_=>rfl,.bool Lj,vP l _,λ_=>⟨List.Pairwise.nil,λ_ E=>(nomatch E)⟩⟩,K,J,I⟩
section
variable{prog:HQ}{w:HP}{A:Ia}{E:HN->Ib->Prop}{s:Ib}{K:Frag}
end
end Att
namespace _L
open PySem PySem.Spec PyProof.Rows
theorem pE:∀{vs:Ly HN}{a:Ly Int},IntsAre vs a->Vals (a.map V.int) vs
 |_,_,.nil=>.nil
 |_,_,.cons n t h=>.cons ⟨t,U⟩<|pE h
def GX(H:Hp):Prop:=∀b,H b=Li\/∃o a,H b=Lh (.frz o<|.lst a)
def inClass(s:Io)(j:Nat):Io:=match s with
 | .ClassDef _ _ _ body _ _ _ _ _ _ _=>body.getD j<|.Pass ⟨0,0,0,0⟩
 |_=>.Pass ⟨0,0,0,0⟩
def gE(s:Io):Jo:=match s with
 | .FunctionDef _ a _ _ _ _ _ _ _ _=>a
 |_=>{ posonlyargs:=[],args:=[],vararg:=Li,kwonlyargs:=[],kw_defaults:=[],kwarg:=Li,defaults:=[] }
def cX(s:Io):Ly Io:=match s with
 | .FunctionDef _ _ b _ _ _ _ _ _ _=>b
 |_=>[]
def ao(s:Io):Ic:=match s with
 | .FunctionDef _ _ _ _ _ _ sc _ _ _=>sc
 |_=>{ kind:=.function,names:=[],isGenerator:=Ll,isCoroutine:=Ll }
abbrev CX0:CXT:=λ_ _ _ _ _ _=>False
abbrev E0:XK:=λ_ _ _=>False
def bU{X:Cx}:Passes CX0 X E0:=λ_ _ _ _ _ _ _ h=>h.elim
structure Fun(K:W.Frag)(x qual:Str)(st:Io)(f:HR)(fd:Jf):Prop where
 ex:∃(oc:HN)(od:Option HR)(kV doc pm:HN)(an:Option HR)(cdv ct:HN)(osl:Array (Option HN)),
  fd=W.fnOf x qual (gE st) (cX st) (ao st) .none kV doc pm an cdv ct/\K.lookup f=Lh ⟨oc,od,.func fd,osl⟩/\W.codeIn K cdv qual=Lj
 kp:W.keepIn K (.ref f)=Lj
section
variable{P:HQ}{w:HP}{K:W.Frag}{mg:Str->Option HN}{base:HS}
theorem Fun.ok{x qual:Str}{st:Io}{f:HR}{g:Jf}{N ps:Ly Str}{k:Nat}{sp:Sp}(F:Fun K x qual st f g)(S:av N ps (ao st))(c:∀vs H Q E,sp vs H Q E->⇑vs=⇑ps)
  (l:∀(b:HN)(A:Ia)(a:Ly Env)(s:Ib)(H:Hp)(vs:Ly V)(Q:VK)(E:XK),bT k (A.deeper<|envOfC qual (ao st) ↥s f b)->sp vs H Q E ->
   ∃t,PSs (jH CX0 P w K mg base N qual (ao st) f b A a s H E).nox (cX st) t/\t { nx:=λ_ H'=>Q .non H',rt:=Q } (start N vs) H):aK P w K mg base CX0 (k+1) f g ps sp:=by
 let(r,p,kV,n,o,v,b,u,m,rfl,i,e):=F.ex;refine xo i e S c λA a s H vs Q E j d=>?_
 let(t,h,q):=l b A a s H vs Q E j d;calc⟨t,h.nox,q⟩
theorem Fun.binds{x qual:Str}{st:Io}{f:HR}{d:Jf}{ps:Ly Str}(F:Fun K x qual st f d)
  (h:∀(kV doc pm:HN)(c:Option HR)(a b:HN)(us:Ly HN),⇑us=⇑ps->Jh (W.fnOf x qual (gE st) (cX st) (ao st) .none kV doc pm c a b) ⟨us,[]⟩=pure (ps.zip us)):Binds K d ps []:=by
 let(j,i,kV,doc,pm,c,a,b,e,rfl,k,g):=F.ex;calc .all<|h kV doc pm c a b
def fun_mk{x qual:Str}{st:Io}{f:HR}{h:HN}{g e:Option HR}{b:Array (Option HN)}{kV doc pm a d:HN}(l:K.lookup f=Lh ⟨h,g,.func<|W.fnOf x qual (gE st) (cX st) (ao st) .none kV doc pm e a d,b⟩)
  (c:W.codeIn K a qual=Lj)(k:W.keepIn K (.ref f)=Lj):Fun K x qual st f (W.fnOf x qual (gE st) (cX st) (ao st) .none kV doc pm e a d):=⟨⟨h,g,kV,doc,pm,e,a,d,b,U,l,c⟩,k⟩
end
theorem az{n:Nat}(h:n<=1000):n<HU:=Nat.lt_of_le_of_lt h ⋯
variable{X:Cx}
theorem pv(i:Nat){x:Str}{pos:Pos}(d:X.N[i]?=Lh x:=by rfl)(b:Vis X.env.scope x:=by first|exact Or.inl U|exact Or.inr (Or.inl U)|exact Or.inr (Or.inr U))(c:(x == ("__debug__" : Str))=false:=by decide)
  (a:(x == ("__classdict__" : Str))=false:=by decide):PE X (.Name x pos) (A4 i):=wR d b c a
theorem bV{A B:Prop}(h:B):if Ll=Lj then A else B:=by
 rw[Lp Bool.false_ne_true];calc h
theorem fX{A B:Prop}(h:A):if Lj=Lj then A else B:=by
 rw[Lq U];calc h
theorem cD{c A B:Prop} [Decidable c] (b:c->A)(a:¬ c->B):if c then A else B:=by
 by_cases h:c
 .rw[Lq h];exact b h
 .rw[Lp h];calc a h
theorem u6{c A B:Prop} [Decidable c] (a:c)(h:B):if (!decide c)=Lj then A else B:=by
 rw[Ls a];calc bV h
def ar(H H':Hp):Prop:=∀b o,H b=Lh o->H' b=Lh o
def ar.refl(H:Hp):ar H H:=λ_ _ h=>h
def ar.trans{H e d:Hp}(a:ar H e)(b:ar e d):ar H d:=λc o h=>b c o<|a c o h
theorem ar.free{H H':Hp}(e:ar H H'){l:HR}(h:H' l=Option.none):H l=Option.none:=by
 cases q:H l with
 |none=>rfl
 |some o =>
  rw[e l o q]at h;cases h
theorem ar.seq{K:W.Frag}{H H':Hp}{a:HR}{xs:Ly V}(e:ar H H')(h:SqL K H a xs):SqL K H' a xs:=by
 rcases h with(h|⟨o,h⟩)|h
 .exact .inl<|.inl<|e _ _ h
 .exact .inl<|.inr ⟨o,e _ _ h⟩
 .exact .inr h
abbrev Pr:=Int×Int
def inR(n:Int)(p:Pr):Bool:=Lm (p.1<=n) && decide (n<=p.2)
def inP(ps:Ly Pr)(n:Int):Bool:=ps.any<|inR n
structure Apart(R:Ly Pr):Prop where
 le:∀p∈R,p.1<=p.2
 gap:R.Pairwise λp q=>p.2+2<=q.1
structure GY(R qs:Ly Pr):Prop where
 ap:Apart R
 mem:∀n,inP R n=inP qs n
 cov:∀p∈qs,p.1<=p.2->∃r∈R,r.1<=p.1/\p.2<=r.2
 low:∀r∈R,∃q∈qs,r.1=q.1
def Callee(P:HQ)(w:HP)(K:W.Frag)(mg:Str->Option HN)(base:HS)(k:Nat)(x:Str)(ps:Ly Str)(sp:Sp):Prop :=
 ∃f a,aK P w K mg base CX0 k f a ps sp/\Binds K a ps []/\W.keepIn K (.ref f)=Lj/\mg x=↑f
theorem Callee.mono{P:HQ}{w:HP}{K:W.Frag}{mg:Str->Option HN}{base:HS}{j k:Nat}{x:Str}{ps:Ly Str}{sp:Sp}(C:Callee P w K mg base j x ps sp)(h:j<=k):Callee P w K mg base k x ps sp:=by
 let(f,a,F,r):=C;calc⟨f,a,F.mono h,r⟩
variable{pos:Pos}
section
variable{k:Nat}{x:Str}{ps:Ly Str}{sp:Sp}{e:Ij}{es:Ly Ij}{t:TA}{p:Pos}
def tFn(sp:Sp)(t:TA):TE:=λa H Q=>t a H λb c=>sp b c Q E0
theorem aL(C:Callee X.prog X.w X.K X.mg X.base k x ps sp)(o:bT k X.A)(r:Gl X x)(u:PA X (e :: es) t)(j:(x == ("__debug__" : Str))=false:=by decide)
  (he:Im (e :: es) X.env=(Ll,eval e X.env) :: Im es X.env:=by rfl)(i:(Il pos<|Im es X.env).any (·.1)=false:=by rfl):PE X (.Call (.Name x p) (e :: es) [] pos) (tFn sp t):=by
 let(f,y,F,b,n,m):=C;let h:=zf (E:=E0) (dvs:=[]) (ds:=[]) (p:=p) F o r m n b .nil bU u j he i;intro d s g H Q I q;calc h d s g H Q I ?_;let l:t g H λa c=>sp a c Q E0:=q
 let v:(λ(a:Ly V)(c:Hp)=>sp (a++[]) c Q E0)=λa c=>sp a c Q E0:=by
  funext a c
  rw[jk]
 show t g H λa c=>sp (a++[]) c Q E0
 rw[v];calc l
end
def bX(t u:TS):TS:=λD c H=>∃M:St->Hp->Prop,t { D with nx:=M } c H/\∀a b,M a b->u D a b
theorem aC{X:Cx}{st:Io}{rest:Ly Io}{t u:TS}(i:PS X st t)(h:PSs X rest u):PSs X (st :: rest) (bX t u):=by
 intro c s f H D I ⟨M,a,b⟩;calc Iz<|thn (i c s f H { D with nx:=M } I a) λfl g q=>?_;cases fl with
 |next=>obtain⟨d,e,j,q⟩:=q;exact h c g d e D j<|b d e q
 |ret v=>exact q
 |brk=>exact q
 |cont=>calc q
inductive EqI(K:W.Frag)(H:Hp):V->V->Bool->Prop where
 |flat {x y:V}(fx:gj x=Lj)(fy:gj y=Lj):EqI K H x y (eqV x y)
 |same (a:HR):EqI K H (.ref a) (.ref a) Lj
 |tup {a b:HR}{xs ys:Ly V}(ha:SqT K H a xs)(hb:SqT K H b ys)(fx:xs.all gj=Lj)(fy:ys.all gj=Lj):EqI K H (.ref a) (.ref b) (Lm (⇑xs=⇑ys) && (List.zipWith eqV xs ys).all id)
theorem rm:∀{x:V},gj x=Lj->eqV x x=Lj
 | .non,_=>rfl
 | .bl b,_=>beq_self_eq_true b
 | .int i,_=>beq_self_eq_true i
 | .str z,_=>beq_self_eq_true z
theorem mQ:∀{xs:Ly V},xs.all gj=Lj->(List.zipWith eqV xs xs).all id=Lj
 | [],_=>rfl
 |x :: xs,h=>by
  rw[tw,EA]at h;rw[List.zipWith_cons_cons,tw,mQ h.2,Bool.and_true];calc rm h.1
theorem js{f:Nat->Bool}:∀{xs ys:Ly V},(∀j x y,xs[j]?=Lh x->ys[j]?=Lh y->f j=eqV x y)->(List.range<|min ⇑xs ⇑ys).all f=(List.zipWith eqV xs ys).all id
 | [],ys,_=>by simp
 |x :: xs,[],_=>by simp
 |x :: xs,y :: ys,h=>by
  let c:=js (f:=λj=>f<|j+1) (xs:=xs) (ys:=ys) λj a b g e=>h (j+1) a b (~~~g)<|~~~e
  let i:=h 0 x y U U;let d:min ⇑(x :: xs) ⇑(y :: ys)=min ⇑xs ⇑ys+1:=by simp only[ik];lia
  rw[d,List.range_succ_eq_map,tw,List.zipWith_cons_cons,tw,List.all_map,i];show(eqV x y && (List.range<|min ⇑xs ⇑ys).all (λj=>f<|j+1))=_;rw[c];rfl
section
variable{Ln:Ly (HR×Obj)}{σ:St}{H:Hp}{s:Ib}
theorem EqI.at{A:Ia}{x y:V}{u v:HN}{b:Bool}(e:EqI X.K H x y b)(I:Inv X Ln σ H s)(W:A.units+1<Jd)(l:RelV x u)(k:RelV y v):SeqAt.EqAt A s u v b:=by
 cases e with
 |flat i m=>exact tW l k i m
 |same a =>
  cases (show u=HN.ref a from l);cases (show v=HN.ref a from k);exact SeqAt.EqAt.same _
 | @tup a b xs ys ha hb i m =>
  cases (show u=HN.ref a from l);cases (show v=HN.ref b from k);by_cases z:a=b
  .subst z;let e:=I.tuple_inj ha hb;subst e;rw[mQ i,Ls U];exact SeqAt.EqAt.same _
  .let(d,r,p,_):=I.tuple ha;let(c,q,D,_):=I.tuple hb;let F:=⇑r;let E:=⇑q;let M:=SeqAt.RcAt.tuples (A:=A) (e:=λj=>match d[j]?,xs[j]?,ys[j]? with|_,Lh x,Lh y=>eqV x y|_,_,_=>Ll) (show s.heap.IsTuple a d.toArray from p) (show s.heap.IsTuple b c.toArray from D) ∅ (λj f L=>by
    let J:j<⇑d:= ~~~f
    let G:j<⇑c:= ~~~L
    let o:xs[j]?=Lh xs[j]:=HF ∅;let n:ys[j]?=Lh ys[j]:=HF ∅;let(w,h,C):=r.get o;let(t,g,B):=q.get n;let Q:d.toArray[j]=w:=by
     have:=HF J;rw[this]at h;simpa using Option.some.inj h
    let P:c.toArray[j]=t:=by
     have:=HF G;rw[this]at g;simpa using Option.some.inj g
    rw[Q,P];rw[o,n];let O:gj xs[j]=true:=jX.mp i _<|List.getElem_mem _;let N:gj ys[j]=true:=jX.mp m _<|List.getElem_mem _;exact tW C B O N)
   let f:=SeqAt.EqAt.of_refs z M;let T:((List.range<|min d.toArray.size c.toArray.size).all λj=>match d[j]?,xs[j]?,ys[j]? with|_,Lh x,Lh y=>eqV x y|_,_,_=>Ll)=(List.zipWith eqV xs ys).all id:=by
    let R:min d.toArray.size c.toArray.size=min ⇑xs ⇑ys:=by simp only[dV];lia
    rw[R];exact js λj x y h g=>by rw[h,g]
   rw[T]at f;let S:(d.toArray.size == c.toArray.size)=Lm (⇑xs=⇑ys):=by
    simp only[dV,←F,←E];exact Bool.beq_eq_decide_eq _ _
   rw[S,Bool.and_comm]at f;calc f
end
inductive Br(K:W.Frag)(neg:Bool)(x:V)(y:V)(H:Hp)(Q:VK):Prop
 |mk (a b xs ys:_)(_:x=.ref a)(_:y=.ref b)(_:SqL K H a xs)(_:SqL K H b ys)(_:((⇑xs≠⇑ys/\Q (.bl neg) H)\/(⇑xs=⇑ys/\∃f:Nat->Bool,(∀j x y,xs[j]?=Lh x->ys[j]?=Lh y->EqI K H x y (f j))/\Q (.bl (if neg then !(List.range ⇑xs).all f else(List.range ⇑xs).all f)) H)))
theorem xx{b:Ly (HR×Obj)}{l:St}{H:Hp}{s:Ib}{A:Ia}{xs ys:Ly V}{a its':Ly HN}{f:Nat->Bool}(I:Inv X b l H s)(u:A.units+1<Jd)(r:Vals xs a)(e:Vals ys its')
  (hf:∀j x y,xs[j]?=Lh x->ys[j]?=Lh y->EqI X.K H x y (f j)):∀j (k:j<a.toArray.size)(i:j<its'.toArray.size),SeqAt.EqAt A s a.toArray[j] its'.toArray[j] (f j):=λj k i=>by
 let t:j<⇑a:= ~~~k
 let q:j<⇑its':= ~~~i
 let B:=⇑r;let z:=⇑e;let d:xs[j]?=Lh xs[j]:=HF ∅;let c:ys[j]?=Lh ys[j]:=HF ∅;let(n,h,p):=r.get d;let(m,g,o):=e.get c;let w:a.toArray[j]=n:=by
  let:=HF t;rw[this]at h;simpa using Option.some.inj h
 let v:its'.toArray[j]=m:=by
  let:=HF q;rw[this]at g;simpa using Option.some.inj g
 rw[w,v];calc(hf j _ _ d c).at I u p o
theorem Bs{k:Nat}(o:bT k X.A):OpR X (IV .Eq) (Br X.K Ll):=by
 intro i s B H x y v u Q I n m h;let(a,b,l,C,rfl,rfl,z,w,h):=h;cases (show v=HN.ref a from n);cases (show u=HN.ref b from m);let(c,r,p,_):=I.list z;let(j,d,g,_):=I.list w;let E:=⇑r;let D:=⇑d;let F:=o.units;rcases h with⟨G,q⟩|⟨J,f,t,q⟩
 .refine SeqAt.eq_list_lengthsAt p.isList g.isList (by simp only[dV,bne_iff_ne,ne_eq];lia) ∅ ⟨.bl Ll,H,I,U,q⟩
 .refine SeqAt.eq_listAt (e:=f) p.isList g.isList (by simp only[dV];lia) ∅ (xx I (by show X.A.units+1+1<Jd;lia) r d t) ⟨.bl _,H,I,U,?_⟩;rw[show c.toArray.size=⇑l by simp only[dV];lia];calc q
def cG(H H':Hp):Prop:=∀b a,H b=Lh (.tup a)->H' b=Lh (.tup a)
def ar.tups{H H':Hp}(h:ar H H'):cG H H':=λb a e=>h b _ e
def cG.trans{H g f:Hp}(a:cG H g)(b:cG g f):cG H f:=λc d e=>b c d<|a c d e
theorem pF{H:Hp}{p:HR}{o:HO}(h:H p=Li):cG H (upd H p o):=λb a e=>by rw[ay (aU e h)];calc e
theorem bK{H:Hp}{p:HR}{o:HO}{ys:Ly V}(h:H p=Lh (.lst ys)):cG H (upd H p o):=λb a e=>by rw[ay (ip e h (by intro z;cases z))];calc e
theorem ai{H:Hp}{p:HR}(h:H p=Li)(o:HO):ar H (upd H p o):=λb u q=>by rw[ay (aU q h)];calc q
theorem ar.upd{H H':Hp}{p:HR}{o:HO}(s:ar H H')(h:H p=Li):ar H (upd H' p o):=λb u q=>by rw[ay (aU q h)];calc s b u q
def PL(H:Hp):Ly V->Ly (Int×Int)->Prop:=Paired λx p=>∃r,x=.ref r/\H r=Lh (.tup [.int p.1,.int p.2])
def PL.mono{H H':Hp}{xs:Ly V}{ps:Ly (Int×Int)}(h:PL H xs ps)(s:cG H H'):PL H' xs ps:=Paired.mapP h λ_ _ ⟨r,e,z⟩=>⟨r,e,s r _ z⟩
theorem PL.get{H:Hp}:∀{xs:Ly V}{ps:Ly (Int×Int)}{i:Nat}{x:V},PL H xs ps->xs[i]?=Lh x->∃p r,ps[i]?=Lh p/\x=.ref r/\H r=Lh (.tup [.int p.1,.int p.2])
 |_,_,_,_,.nil,e=>by simp at e
 |_,_,0,_,.cons (b:=b) ⟨r,e1,z⟩ _,e=>by simp at e;subst e;exact⟨b,r,U,e1,z⟩
 |_,_,i+1,x,.cons _ t,e=>by
  let(p,r,q):=PL.get (i:=i) (x:=x) t<|~~~e;calc⟨p,r,~~~q.1,q.2⟩
theorem PL.length{H:Hp}{xs:Ly V}{ps:Ly (Int×Int)}(h:PL H xs ps):⇑xs=⇑ps:=Paired.length h
theorem PL.snoc{H:Hp}{xs:Ly V}{ps:Ly (Int×Int)}{r:HR}{a b:Int}(h:PL H xs ps)(e:H r=Lh (.tup [.int a,.int b])):PL H (xs++[.ref r]) (ps++[(a,b)]):=Paired.snoc h ⟨r,U,e⟩
theorem PL.app{H:Hp}{xs ys:Ly V}{ps a:Ly (Int×Int)}(h:PL H xs ps)(h':PL H ys a):PL H (xs++ys) (ps++a):=by
 induction h with
 |nil=>exact h'
 |cons r t b=>calc .cons r b
theorem eH{ps:Ly (Int×Int)}{i:Nat}{p:Int×Int}{f:Int×Int->Bool}(e:ps[i]?=Lh p)(h:(ps.take i).any f=Ll)(a:f p=Ll):(ps.take<|i+1).any f=false:=by
 rw[oH,e,List.any_append,h];simp[a]
def mR{ps:Ly (Int×Int)}{i:Nat}{p:Int×Int}{f:Int×Int->Bool}(e:ps[i]?=Lh p)(a:f p=Lj):ps.any f=true:=xt.mpr ⟨p,HH e,a⟩
def fM{p:Prop} [Decidable p] (h:decide p=Lj):p:=Lv h
def jt{p:Prop} [Decidable p] (h:¬ decide p=Lj):¬ p:=λe=>h<|Ls e
def cP{X:Cx}{K:W.Frag}(h:X.K=K):IxR X (Bj K):=h ▸ ba
def dk{X:Cx}{K:W.Frag}(h:X.K=K):IxR X (Bm K):=h ▸ aO
def bL(X:Cx)(N:Ly Str)(scope:Ic)(cl:Ly (Str×HR))(a:Ly HR)(C:HR)(s2:Ib)(b:Hp):Cx :=
 { prog:=X.prog,w:=X.w,K:=X.K,mg:=X.mg,base:=X.base,A:=X.A,N:=N,s₀:=s2,H₀:=b,env:=JD scope cl C X.env,outer:=X.stack,stack:=X.stack,ex:=a,fn:=λ_=>Ll,calm:=X.calm,pn:=[],xe:=λ_ _=>False }
def PIf(X:Cx)(d:Ly Ij)(t:TT):Prop :=
 ∀(a:Ly (HR×Obj))(s:Ib)(b:St)(H:Hp)(Q:Bool->Hp->Prop),Inv X a b H s->t b H Q ->
  Ih (model X.prog X.w) X.A (forIn d Lj λc r=>if r=Lj then do let ok ←Ik c X.env (eval c X.env);pure (ForInStep.yield ok)else pure (ForInStep.yield r)) (TP X a b Q) X.xe s
def Eh:TT:=λ_ H Q=>Q Lj H
def bC{X:Cx}:PIf X [] Eh:=λ_ _ _ H _ I h=>wpAny_tests_nil ⟨H,I,h⟩
def gF{X:Cx}{c:Ij}{t:TT}(h:PT X c t):PIf X [c] t:=λa s b H Q I q=>wpAny_tests_one<|h a s b H Q I q
structure rp(X:Cx)(N:Ly Str)(fr:Ly Nat)(scope:Ic)(cl:Ly (Str×HR))(x:Str):Prop where
 clos:JE scope X.env=pure cl
 kind:scope.kind=.function
 nocell:∀y∈scope.names,y.2≠.cell
 names:∀y∈scope.names,y.2=.local->scope.names.lookup y.1=Lh .local
 hx:scope.names.lookup x=Lh .local
 nd:N.Nodup
 n0:N[0]?=Lh x
 len:N.length=⇑fr+1
 sub:∀(i:Nat)(y:Str),N[i+1]?=Lh y->∃j,fr[i]?=Lh j/\X.N[j]?=Lh y/\(X.env.kindOf y=Lh .cell\/X.env.kindOf y=Lh .free)/\((relabel scope X.env).names.lookup y=Lh .cell\/(relabel scope X.env).names.lookup y=Lh .free)
 cells:∀y c,cl.lookup y=Lh c->X.env.cells.lookup y=Lh c
 has:∀y,((relabel scope X.env).names.lookup y=Lh .cell\/(relabel scope X.env).names.lookup y=Lh .free)->∃c,cl.lookup y=Lh c
theorem dD{X:Cx}{scope:Ic}{x:Str}(kind:scope.kind=.function)(a:∀y∈scope.names,y.2≠.free)(b:∀y∈scope.names,y.2≠.cell)
  (names:∀y∈scope.names,y.2=.local->scope.names.lookup y.1=Lh .local)(f:scope.names.lookup x=Lh .local):rp X [x] [] scope [] x:=by
 let g:(relabel scope X.env).names=scope.names:=map_eq_self λy d=>by
  let z:(y.2 == Jk.free)=false:= ~~~a y d
  simp[z]
 let no:∀y,¬ ((relabel scope X.env).names.lookup y=Lh .cell\/(relabel scope X.env).names.lookup y=Lh .free):=λy h=>by
  rw[g]at h;rcases h with h|h
  .exact b _ (mem_of_lookup h) U
  .exact a _ (mem_of_lookup h) U
 calc⟨JF a,kind,b,names,f,by simp,U,U,λi y e=>by simp at e,(λy c e=>by cases e),λy h=>Lr h<|no y⟩
theorem aV{X:Cx}{N:Ly Str}{fr:Ly Nat}{scope:Ic}{cl:Ly (Str×HR)}{x:Str}(clos:JE scope X.env=pure cl)(kind:scope.kind=.function)(a:∀y∈scope.names,y.2≠.cell)
  (names:∀y∈scope.names,y.2=.local->scope.names.lookup y.1=Lh .local)(l:scope.names.lookup x=Lh .local)(f:N.Nodup)(g:N[0]?=Lh x)(b:N.length=⇑fr+1)
  (sub:((List.range ⇑fr).all λi=>match N[i+1]?,fr[i]? with|some y,Lh j=>(X.N[j]? == Lh y) && ((X.env.kindOf y == Lh .cell) && ((relabel scope X.env).names.lookup y == Lh .cell))|_,_=>Ll)=Lj)
  (cells:∀p∈cl,X.env.cells.lookup p.1=Lh p.2)(d:((relabel scope X.env).names.all λp=>(p.2 != .cell && p.2 != .free) || (cl.lookup p.1).isSome)=Lj):rp X N fr scope cl x:=by
 refine⟨clos,kind,a,names,l,f,g,b,λi y e=>?_,λy c e=>cells _<|mem_of_lookup e,λy h=>?_⟩
 .let hi:i<⇑fr:=by have:=(HG.mp e).1;lia
  let z:=jX.mp sub i<|jV.mpr hi;rw[e,HF hi]at z;simp only[EA,beq_iff_eq]at z;exact⟨_,HF hi,z.1,.inl z.2.1,.inl z.2.2⟩
 .let look:∀k,(relabel scope X.env).names.lookup y=Lh k->(k=.cell\/k=.free)->∃c,cl.lookup y=Lh c:=λk e m=>by
   let z:=jX.mp d _<|mem_of_lookup e;rcases m with rfl|rfl
   .exact G7.mp<|~~~z
   .exact G7.mp<|~~~z
  rcases h with h|h
  .exact look _ h<|.inl U
  .exact look _ h<|.inr U
def eN(a:St)(fr:Ly Nat)(x:Option V):St:=x :: fr.map λj=>(a[j]?).join
def lF(J:It)(fr:Ly Nat)(tt:TT)(j:TE)(d:St)(Q:VK)(g:Hp):Prop:=∀D,g D=Li->∃W:Nat->Nat->Hp->Prop,(∃m,W 0 m<|upd g D<|.lst [])/\∀i m H,W i m H ->
 (J.stop i H/\Q (.ref D) H)\/(J.go i H/\∀x h,J.yld i H x h->tt (eN d fr<|Lh x) h λb f=>if b=Lj then j (eN d fr<|Lh x) f λy e=>∃c,e D=Lh (.lst c)/\⇑c<HU/\∃a,a<m/\W (i+1) a (upd e D<|.lst<|c++[y])
  else ∃a,a<m/\W (i+1) a f)
def Az(b:TI)(fr:Ly Nat)(tt:TT)(c:TE):TE:=λa H Q=>b a H λJ d=>lF J fr tt c a Q d
section
variable{prog:HQ}{w:HP}{A:Ia}{R:I0->Ib->Prop}{s:Ib}
theorem mS{f a d:Ij}{e:Ly Ij}{scope:Ic}{pos:Pos}{it g:HN}{b:Env}(J:Nat->Ib->Prop)
  (turn:∀n s,J n s->Ih (model prog w) A (II it) (λr j=>match r with
   |none=>R (.ok .next) j
   |some v=>Ih (model prog w) A (IJ a it v) (λ_ s2=>Ih (model prog w) A (assign a b v) (λ_ o =>
     Ih (model prog w) A (forIn e Lj λc r=>if r=Lj then do let ok ←Ik c b (eval c b);pure (ForInStep.yield ok)else pure (ForInStep.yield r)) (λok i =>
      if ok=Lj then Ih (model prog w) A (eval f b) (λy l=>Ih (model prog w) A (call (.builtin "list.append") [g,y]) (λ_ k=>∃m,m<n/\J m k) (λ_ _=>False) l) (λ_ _=>False) i
      else ∃m,m<n/\J m i) (λ_ _=>False) o) (λ_ _=>False) s2) (λ_ _=>False) j) (λ_ _=>False) s)
  (n:Nat)(h:J n s):Ja (model prog w) A (.compLoop (.ListComp f [⟨a,d,e,0⟩] scope pos) 0 it g b) R s:=by
 calc codeAny_loop U J (λn s t=>?_) n h;show Ih _ A ((compTurn (.ListComp f [⟨a,d,e,0⟩] scope pos) 0 it g b).onRaise (λx=>do JG x b;theTreesLotGoes x)) _ _ s;calc wpAny_noted ?_;rw[compTurn_list];calc HJ<|IF<|HJ<|Ip (turn n s t) (λr j q=>?_) λ_ _ z=>z.elim;cases r with
 |none=>exact HK q
 |some v =>
  calc HJ<|Ip q (λ_ s2 D=>?_) λ_ _ z=>z.elim;calc HJ<|Ip D (λ_ o C=>HJ<|Ip C (λok i p=>?_) λ_ _ z=>z.elim) λ_ _ z=>z.elim;cases ok with
  |false=>exact HK ⟨U,p⟩
  |true=>calc HJ (HJ<|Ip p (λy l B=>HJ<|Ip B (λ_ k u=>HK<|HK ⟨U,u⟩) λ_ _ z=>z.elim) λ_ _ z=>z.elim)
end
variable{fr:Ly Nat}{tt:TT}{te:TE}
section
variable{elt iter:Ij}{ifs:Ly Ij}{x:Str}{px:Pos}{scope:Ic}{cl:Ly (Str×HR)}{N:Ly Str}
theorem pG{F:Ly (HR×Obj)}{q:St}{s2:Ib}{h:Hp}{it:HR}{f:Ly HR}{tn:Nat->HS->Prop}{J:It}{Q:VK}{E:HN->Ib->Prop}{RR:HN->HR->I0->Ib->Prop}
  (O:rp X N fr scope cl x)(hc:X.calm=Lj)(g:Inv X F q h s2)(T:Turn X.prog X.w X.K (.Name x px) J f it tn)(a1:tn 0 s2.heap)(I:∀b∈f,ll X F h b)
  (ht:∀f C s H,PIf (bL X N scope cl f C s H) ifs tt)(he:∀f C s H,PE (bL X N scope cl f C s H) elt te)
  (hW:lF J fr tt te q Q h)
  (fin:∀D C s' H',↥s2<=C->H' C=Li->(∃m,s'.heap.Ns C m)->Inv X F q H' s'->Q (.ref D) H'->RR (.ref D) C (.ok .next) s') :
  Ih (model X.prog X.w) X.A (JH []) (λa7 s3=>Ih (model X.prog X.w) X.A (JI scope X.env.globals cl [] X.env.qual Li .none (Lh X.env)) (λxy s4 =>
   Ja (model X.prog X.w) X.A (.compStart (.ListComp elt [⟨.Name x px,iter,ifs,0⟩] scope pos) 0 (.ref it) a7 { xy with scope:=relabel scope X.env }) (RR a7 xy.locals) s4) E s3) E s2:=by
 refine JJ (JK O.nocell (by intro y hy;simp at hy) (λh1 a2 M=>?_) O.kind);dsimp only at a2 M⊢;generalize hG:s2.heap.push { cls:=.type "list",dict:=Li,data:=.seq ([]:Ly HN).toArray }=G at a2 M⊢;let Y:G.objs.size=↥s2+1:=by rw[←hG,HS.size_push]
 let B:∀b o,s2.heap.get? b=Lh o->h1.get? b=Lh o:=λb o e=>M.extBut b o (yl (by rw[Y];exact zp (HS.lt_size e))) (HS.get?_push_of_some _<|hG ▸ HS.get?_push_of_some _ e)
 let xA:h1.get? ↥s2=Lh { cls:=.type "list",data:=.seq ([]:Ly HN).toArray 0 }:=M.extBut _ _ (yl (by rw[Y];exact A9 _)) (HS.get?_push_of_some _<|hG ▸ HS.get?_push_size _ U);let hD:h ↥s2=none:=g.fresh;let L:(bL X N scope cl f G.objs.size s2 h).Ok:=by
  refine⟨g.ok.mod,O.kind,g.ok.glob,g.ok.blt,by show ↥s2<=G.objs.size;rw[Y];exact Ar _,λy z c e1 e2=>g.ok.inj y z c (O.cells y c e1)<|O.cells z c e2,λy hy=>O.has y hy,λy c z=>Lr (show Ll=Lj from z) Bool.false_ne_true,g.ok.hd,g.ok.frames,.inl U,
   λb a=>⟨?_,λy c e=>(I b a).2.2.2.2.1 y c<|O.cells y c e⟩,g.bs,yW g.ok.bsz g.sz,λb o e a=>?_,λb a z=>?_,g.stack,g.stkFree⟩
  .let(o,e,_):=T.obj _ _ a1 b a;show b≠G.objs.size;exact yl (by rw[Y];exact zp (HS.lt_size e))
  .rcases(I b a).2.2.2.1 with z|z
   .exact g.ok.noex b o e z
   .exact Lr (zb (HS.lt_size e)<|yW g.ok.bsz z)<|AJ _
  .rcases bW.mp (g.stkSub b z)with z|z
   .exact(I b a).2.1 z
   .exact(I b a).2.2.1 z
 let mT:∀{H':Hp},(∀b∈f,H' b=Li)->∀b∈f,ll (bL X N scope cl f G.objs.size s2 h) [] H' b:=λhn b a =>
  ⟨hn b a,(L.exf b a).1,L.exfs b a,.inl a,(L.exf b a).2,λp hp=>Lr (show p∈([]:Ly (HR×Obj))from hp) (by simp)⟩
 let I':Inv (bL X N scope cl f G.objs.size s2 h) [] (eN q fr Li) (upd h ↥s2<|.lst []) { s2 with heap:=h1,toks:=s2.toks+⇑([]:Ly (Str×HN)) }:=by
  refine⟨L,U,g.bare,Un.laid B (xX _) hD,⟨_,a2,λi y v e1 e2 e3=>?_⟩,λy c e=>?_,?_,λy c e=>?_,λp hp=>Lr (show p∈([]:Ly (HR×Obj))from hp) (by simp),g.hok.laid B (xX _) ⟨yX _,[],0,.nil,xA⟩,?_⟩
  .cases i with
   |zero=>cases e2
   |succ i =>
    let(j,q1,q2,q3,q4):=O.sub i y e1;let P:(q[j]?).join=Lh v:=by
     have:(fr.map λj=>(q[j]?).join)[i]?=Lh (Lh v):=e2;rw[jj,q1]at this;exact Option.some.inj this
    let e4:q[j]?=Lh (Lh v):=by
     cases z:q[j]? with
     |none=>rw[z]at P;cases P
     |some t=>rw[z]at P;exact Lw Lh P
    let(m,_,hl):=g.loc;let b3:Vis X.env.scope y:=.inr q3;let(u,r,l):=hl j y v q2 e4 b3;calc⟨u,r,.inr ⟨q4,?_⟩⟩;let(c',a5):=O.has y q4;rcases l with⟨k,_⟩|⟨_,c,ec,ic⟩
    .rcases q3 with z|z
     .rw[z]at k;cases k
     .rw[z]at k;cases k
    .let:=O.cells y c' a5;let e':c=c':=Option.some.inj<|ec.symm.trans this;let(o,ho,hd):=ic;rw[e']at ho;exact⟨c',a5,o,B c' o ho,hd⟩
  .let(v,o,ho,hd):=g.cell y c<|O.cells y c e;exact⟨v,o,B c o ho,hd⟩
  .show upd h ↥s2 (.lst []) G.objs.size=Li;rw[ay (zl (by rw[Y];exact A9 _))];exact g.hok.fresh (by rw[Y];exact Ar _)
  .let(v,o,ho,hd):=g.cell y c<|O.cells y c e;rw[ay (yl<|HS.lt_size ho)];exact g.freeC y c<|O.cells y c e
  .show⇑(eN q fr Li)=N.length;rw[O.len];simp[eN]
 let a4:tn 0 h1:=T.keep _ _ _ a1 λb a o e=>B b o e
 let R:∀s3:Ib,s3={ s2 with heap:=h1,toks:=s2.toks+⇑([]:Ly (Str×HN)) } ->
   Ja (model X.prog X.w) X.A (.compLoop (.ListComp elt [⟨.Name x px,iter,ifs,0⟩] scope pos) 0 (.ref it) (.ref ↥s2)<|JD scope cl G.objs.size X.env) (RR (.ref ↥s2) G.objs.size) s3:=by
  rintro s3 rfl;let(W,(m0,w0),a8):=hW _ hD
  refine mS (λn s'=>∃i t H',Inv (bL X N scope cl f G.objs.size s2 h) [] (eN q fr t) H' s'/\tn i s'.heap/\(∀b∈f,H' b=Li)/\W i n H') ?_ m0
   ⟨0,Li,_,I',a4,λb a=>by
    rw[ay (by let(o,e,_):=T.obj _ _ a1 b a;exact yl (HS.lt_size e))];exact(I b a).1,w0⟩
  rintro n s' ⟨i,t,H',I3,a3,a6,w3⟩;rcases a8 i n H' w3 with⟨a9,qn⟩|⟨go,step⟩
  .refine thn (T.done (bL X N scope cl f G.objs.size s2 h) U U U hc i [] s' _ H' _ I3 (mT a6) a3 a9) λr s4 ⟨hr,I4⟩=>?_
   subst hr;let(m,V,_):=I4.loc;refine fin _ _ s4 H' (by rw[Y];exact Ar _) I4.free ⟨m,V⟩ (g.call' (ch:=f) I4.os I4.base I4.hok I4.bare λb a=>?_) qn;exact⟨(I b a).2.2.2.1,(I b a).2.1,(I b a).2.2.2.2.1,(I b a).2.2.2.2.2⟩
  .refine thn (T.item (bL X N scope cl f G.objs.size s2 h) U U U hc i [] s' _ H' _ I3 (mT a6) a3 go) λr s4 ⟨u,hr,h4⟩=>?_
   subst hr;refine thn h4 λ_ s5 ⟨y,H5,I5,r5,y5,a0,b5⟩=>?_
   let b9:=I5.pinned (mT b5)<|T.obj _ _ a0;let lx:(bL X N scope cl f G.objs.size s2 h).env.scope.names.lookup x=Lh .local:=lookup_relabel_local O.hx;refine thn (aE (X:=bL X N scope cl f G.objs.size s2 h) (i:=0) O.nd O.n0 (.inl lx) (.inr lx) _ s5 _ H5 y u (λb1 H'=>b1=eN q fr (Lh y)/\H'=H5) b9 r5 ⟨U,U⟩) λ_ s6 ⟨c0,H6,I6,e6,b6⟩=>?_
   subst e6;subst b6
   let again:∀{Z:St}{H7:Hp}{s7:Ib}{S:Nat},Z=eN q fr (Lh y)->Inv (bL X N scope cl f G.objs.size s2 h) ([]++lq f s5.heap) Z H7 s7->S<n->W (i+1) S H7 ->
     ∃m,m<n/\∃i t H',Inv (bL X N scope cl f G.objs.size s2 h) [] (eN q fr t) H' s7/\tn i s7.heap/\(∀b∈f,H' b=Li)/\W i m H':=λ{Z H7 s7 S} e7 I7 V w7=>by
    subst e7;calc⟨S,V,i+1,Lh y,H7,I7.unpinned,T.keep _ _ _ a0 λb a o e=>(I7.pin (b,o)<|jW _<|jW _<|d6 a e).1,λb a=>?_,w7⟩;let(o,e,d):=T.obj _ _ a0 b a;exact(I7.pin (b,o)<|jW _<|jW _<|d6 a e).2.1
   refine thn (ht f G.objs.size s2 h _ s6 _ H6 _ I6<|step y H6 y5) λok s7 ⟨H7,I7,q7⟩=>?_
   cases ok with
   |false =>
    rw[Lp Bool.false_ne_true]at q7⊢;let(S,V,w7):=q7;exact again U I7 V w7
   |true =>
    rw[Lq U]at q7⊢;refine thn (he f G.objs.size s2 h _ s7 _ H7 _ I7 q7) λu8 s8 ⟨v8,H8,I8,r8,ys,b4,b0,S,V,w8⟩=>?_
    refine thn (bG (X:=bL X N scope cl f G.objs.size s2 h) _ s8 _ H8 (.ref ↥s2) [v8] _ [u8] (λ_ H9=>W (i+1) S H9) I8 U (.cons r8 .nil) ⟨_,ys,v8,U,U,b4,b0,w8⟩) λ_ s9 ⟨_,H9,I9,_,w9⟩=>?_
    exact again U I9 V w9
 calc JL (R _ U)<|T.self _ 0 _ _ _ a4<|R _ U
theorem Inv.left{a:Ly (HR×Obj)}{h g:St}{s2 s':Ib}{q H':Hp}{C:HR}{h':HS}(f:Inv X a g q s2)(n:Inv X a h H' s')(d:↥s2<=C)(l:H' C=Li)(i:HS.SameBut C s'.heap h'):Inv X a h H' { s' with heap:=h' }:=by
 refine n.turned (t':=s'.toks) (it:=C) (λb o m e=>(i.2 b m).trans e) l (zl<|zb f.lt d) (.inr<|yW f.sz d) (λy c e=>?_) λp j=>?_
 .let(v,o,k,_):=f.cell y c e;exact yl<|zb (HS.lt_size k) d
 .exact yl<|zb (HS.lt_size (f.pin p j).1) d
theorem cq{i:TI}(hi:PI X (.Name x px) iter i)(O:rp X N fr scope cl x)(r:X.calm=Lj)(k:∀b C s H,PIf (bL X N scope cl b C s H) ifs tt)(p:∀b C s H,PE (bL X N scope cl b C s H) elt te)
  (l:∀v,IQ iter X.env v=pure v:=by intro _;rfl):PE X (.ListComp elt [⟨.Name x px,iter,ifs,0⟩] scope pos) (Az i fr tt te):=by
 intro a s g H Q I h;rw[JM];calc JN (use:=Li) U l O.clos O.kind O.names<|thn (hi a s g H _ I h) λv L z=>thn z λG s2 y=>?_;let(it,b,K,J,R,e,j,T,c,B,t):=y;subst e;refine pG (RR:=λf C=>JO (model X.prog X.w) X.A X.xe Li (EP X a g Q) f C) O r j T c B k p t λD C M F u n ⟨m,o⟩ E q=>?_
 calc⟨m,o,λP d=>⟨.ref D,F,j.left E u n d,U,q⟩⟩
theorem eX{F:TI}{i:Nat}{y:Str}{d E:Pos}(hN:X.N.Nodup)(G:X.N[i]?=Lh y)(V:Loc X.env.scope y)(hi:PI X (.Name x px) iter F)(O:rp X N fr scope cl x)(Z:X.calm=Lj)
  (K:∀f C s H,PIf (bL X N scope cl f C s H) ifs tt)(Y:∀f C s H,PE (bL X N scope cl f C s H) elt te)(L:∀v,IQ iter X.env v=pure v:=by intro _;rfl)
  (n:IA (.ListComp elt [⟨.Name x px,iter,ifs,0⟩] scope pos) (Lh<|.Name y d) E.line X.env=pure true:=by rfl)(W:X.fn y=Lj\/X.env.scope.names.lookup y=Lh .local:=by first|exact .inl U|exact .inr U|assumption) :
  PS X (.Assign [.Name y d] (.ListComp elt [⟨.Name x px,iter,ifs,0⟩] scope pos) E) (za (Az F fr tt te)<|pf i):=by
 intro b s B H k I h;rw[JP _ _ _ _ n];calc HJ<|IF<|HJ ?_;show Ih _ X.A (do let _ ←comprehension (.ListComp elt [⟨.Name x px,iter,ifs,0⟩] scope pos) scope X.env _ (JH []) Ll (eval iter X.env) (Lh<|assign (.Name y d) X.env)) _ _ s;calc HJ<|Ip (JN (use:=Lh<|assign (.Name y d) X.env) (Q:=λ_ c=>SP X b k .next c) U L O.clos O.kind O.names<|thn (hi b s B H _ I h) λv s1 h1=>thn h1 λa0 s2 h2=>?_) (λ_ c M=>HK<|HK M) λ_ _ z=>z;let(it,f,tn,J,H2,e,g,T,l,f2,hW):=h2;subst e;refine pG (Q:=λv H1=>pf i v B H1 k.nx) (RR:=λu C=>JO (model X.prog X.w) X.A X.xe (Lh<|assign (.Name y d) X.env) (λ_ c=>SP X b k .next c) u C) O Z g T l f2 K Y hW λD C c H' j R ⟨m,S⟩ I' q=>?_
 show Ih _ X.A (assign (.Name y d) X.env<|.ref D) _ _ c;calc IE<|lj I' hN G V (v:=.ref D) U (λs3 I3 ⟨a,p,ha⟩=>?_) W;let t:C≠a:=by
  rcases ha with z|z
  .rw[z];exact zl<|zb g.lt j
  .let(v,o,P,_):=g.cell y a z;exact zl<|zb (HS.lt_size P) j
 calc⟨m,S.sameBut p t,λh' r=>⟨_,H',g.left I3 j R r,q⟩⟩
def dj(c:HR->Nat->Ly V->Hp->Prop)(D:HR)(i n:Nat)(d:Hp):Prop:=∃a,a<n-i/\a=n-(i+1)/\i+1<=n/\∃b,c D (i+1) b d
def cA(c:HR->Nat->Ly V->Hp->Prop)(D:HR)(i n:Nat):VK:=λy b=>∃a,b D=Lh (.lst a)/\⇑a<HU/\dj c D i n (upd b D<|.lst<|a++[y])
theorem dj.mk{a:HR->Nat->Ly V->Hp->Prop}{D:HR}{i n:Nat}{b:Hp}{zs:Ly V}(hi:i<n)(h:a D (i+1) zs b):dj a D i n b:=⟨n-(i+1),∅,U,hi,zs,h⟩
theorem cA.mk{b:HR->Nat->Ly V->Hp->Prop}{D:HR}{i n:Nat}{a:Hp}{ys:Ly V}{y:V}(hi:i<n)(e:a D=Lh (.lst ys))(c:⇑ys<HU)(h:b D (i+1) (ys++[y]) (upd a D<|.lst<|ys++[y])):cA b D i n y a:=⟨ys,e,c,.mk hi h⟩
theorem cB{K:W.Frag}{a:HR}{xs:Ly V}{g:St}{d:Hp}{Q:VK}(c:HR->Nat->Ly V->Hp->Prop)(n:∀D,d D=Li->c D 0 [] (upd d D<|.lst []))
  (l:∀D i ys H,d D=Li->i<=⇑xs->c D i ys H->SqL K H a xs)
  (k:∀D i x ys H,d D=Li->xs[i]?=Lh x->c D i ys H->tt (eN g fr<|Lh x) H λb j=>if b=Lj then te (eN g fr<|Lh x) j (cA c D i ⇑xs)else dj c D i ⇑xs j)
  (hd:∀D ys H,d D=Li->c D ⇑xs ys H->Q (.ref D) H):lF (Itl K a) fr tt te g Q d:=by
 intro D f;calc⟨λi m H=>m=⇑xs-i/\i<=⇑xs/\∃ys,c D i ys H,⟨_,U,yX _,[],n D f⟩,?_⟩;rintro i m H ⟨rfl,hi,ys,p⟩;let q:=l D i ys H f hi p;by_cases h:i<⇑xs
 .refine .inr ⟨⟨xs,xs[i],q,by simp[h]⟩,λx o y=>?_⟩;let(e,y):=y;subst e;exact k D i x ys _ f (y xs q) p
 .let e:i=⇑xs:=∅
  subst e;calc .inl ⟨⟨xs,q,xX _⟩,hd D ys H f p⟩
theorem bP{lo:Int}{n:Nat}{f:St}{c:Hp}{Q:VK}(a:HR->Nat->Ly V->Hp->Prop)(k:∀D,c D=Li->a D 0 [] (upd c D<|.lst []))
  (j:∀D i ys H,c D=Li->i<n->a D i ys H->tt (eN f fr<|Lh<|.int<|lo+i) H λb h=>if b=Lj then te (eN f fr<|Lh<|.int<|lo+i) h (cA a D i n)else dj a D i n h)
  (hd:∀D ys H,c D=Li->a D n ys H->Q (.ref D) H):lF (Itr lo n) fr tt te f Q c:=by
 intro D g;calc⟨λi m H=>m=n-i/\i<=n/\∃ys,a D i ys H,⟨_,U,yX _,[],k D g⟩,?_⟩;rintro i m H ⟨rfl,hi,ys,p⟩;by_cases d:i<n
 .refine .inr ⟨d,λx l y=>?_⟩;let(e,y):=y;subst e;subst y;exact j D i ys _ g d p
 .let e:i=n:=∅
  subst e;calc .inl ⟨xX _,hd D ys H g p⟩
end
section
variable{tg:Ij}
end
structure mU(X:Cx)(N:Ly Str)(k:Nat)(fr:Ly Nat)(scope:Ic)(cl:Ly (Str×HR)):Prop where
 clos:JE scope X.env=pure cl
 kind:scope.kind=.function
 nocell:∀y∈scope.names,y.2≠.cell
 names:∀y∈scope.names,y.2=.local->scope.names.lookup y.1=Lh .local
 len:N.length=k+⇑fr
 sub:∀(i:Nat)(y:Str),N[k+i]?=Lh y->∃j,fr[i]?=Lh j/\X.N[j]?=Lh y/\(X.env.kindOf y=Lh .cell\/X.env.kindOf y=Lh .free)/\((relabel scope X.env).names.lookup y=Lh .cell\/(relabel scope X.env).names.lookup y=Lh .free)
 cells:∀y c,cl.lookup y=Lh c->X.env.cells.lookup y=Lh c
 has:∀y,((relabel scope X.env).names.lookup y=Lh .cell\/(relabel scope X.env).names.lookup y=Lh .free)->∃c,cl.lookup y=Lh c
theorem ku{X:Cx}{N:Ly Str}{k:Nat}{scope:Ic}(d:N.length=k)(kind:scope.kind=.function)(a:∀y∈scope.names,y.2≠.free)(b:∀y∈scope.names,y.2≠.cell)
  (names:∀y∈scope.names,y.2=.local->scope.names.lookup y.1=Lh .local):mU X N k [] scope []:=by
 let g:(relabel scope X.env).names=scope.names:=map_eq_self λy f=>by
  let z:(y.2 == Jk.free)=false:= ~~~a y f
  simp[z]
 let no:∀y,¬ ((relabel scope X.env).names.lookup y=Lh .cell\/(relabel scope X.env).names.lookup y=Lh .free):=λy h=>by
  rw[g]at h;rcases h with h|h
  .exact b _ (mem_of_lookup h) U
  .exact a _ (mem_of_lookup h) U
 refine⟨JF a,kind,b,names,by rw[d];rfl,λi y e=>?_,(λy c e=>by cases e),λy h=>Lr h<|no y⟩;let:=(HG.mp e).1;lia
def df(a:St)(fr:Ly Nat)(ts:St):St:=ts++fr.map λj=>(a[j]?).join
def i6(J:It)(o:TG)(k:Nat)(fr:Ly Nat)(tt:TT)(te:TE)(f:St)(Q:VK)(l:Hp):Prop:=∀D,l D=Li->∃W:Nat->Nat->Hp->Prop,(∃m,W 0 m<|upd l D<|.lst [])/\∀i m H,W i m H ->
 (J.stop i H/\Q (.ref D) H)\/(J.go i H/\∀x n,J.yld i H x n->∀g:St,⇑g=k->o x (df f fr g) n λa p=>(∃d:St,⇑d=k/\a=df f fr d)/\tt a p λb j=>if b=Lj then te a j λy h=>∃e,h D=Lh (.lst e)/\⇑e<HU/\∃c,c<m/\W (i+1) c (upd h D<|.lst<|e++[y])
  else ∃c,c<m/\W (i+1) c j)
def xC(b:TI)(c:TG)(k:Nat)(fr:Ly Nat)(tt:TT)(te:TE):TE:=λa H Q=>b a H λJ d=>i6 J c k fr tt te a Q d
section
variable{elt iter tg:Ij}{ifs:Ly Ij}{scope:Ic}{cl:Ly (Str×HR)}{N:Ly Str}{k:Nat}{gt:TG}
theorem mV{F:Ly (HR×Obj)}{x:St}{s2:Ib}{h:Hp}{it:HR}{f:Ly HR}{tn:Nat->HS->Prop}{J:It}{Q:VK}{E:HN->Ib->Prop}{RR:HN->HR->I0->Ib->Prop}
  (O:mU X N k fr scope cl)(hc:X.calm=Lj)(g:Inv X F x h s2)(T:Turn X.prog X.w X.K tg J f it tn)(a1:tn 0 s2.heap)(I:∀b∈f,ll X F h b)
  (ht:∀f C s H,PIf (bL X N scope cl f C s H) ifs tt)(he:∀f C s H,PE (bL X N scope cl f C s H) elt te)
  (hg:∀f C s H,PG (bL X N scope cl f C s H) tg gt)(hW:i6 J gt k fr tt te x Q h)
  (fin:∀D C s' H',↥s2<=C->H' C=Li->(∃m,s'.heap.Ns C m)->Inv X F x H' s'->Q (.ref D) H'->RR (.ref D) C (.ok .next) s') :
  Ih (model X.prog X.w) X.A (JH []) (λa9 s3=>Ih (model X.prog X.w) X.A (JI scope X.env.globals cl [] X.env.qual Li .none (Lh X.env)) (λxy s4 =>
   Ja (model X.prog X.w) X.A (.compStart (.ListComp elt [⟨tg,iter,ifs,0⟩] scope pos) 0 (.ref it) a9 { xy with scope:=relabel scope X.env }) (RR a9 xy.locals) s4) E s3) E s2:=by
 refine JJ (JK O.nocell (by intro y hy;simp at hy) (λh1 a2 M=>?_) O.kind);dsimp only at a2 M⊢;generalize hG:s2.heap.push { cls:=.type "list",dict:=Li,data:=.seq ([]:Ly HN).toArray }=G at a2 M⊢;let Y:G.objs.size=↥s2+1:=by rw[←hG,HS.size_push]
 let B:∀b o,s2.heap.get? b=Lh o->h1.get? b=Lh o:=λb o e=>M.extBut b o (yl (by rw[Y];exact zp (HS.lt_size e))) (HS.get?_push_of_some _<|hG ▸ HS.get?_push_of_some _ e)
 let xA:h1.get? ↥s2=Lh { cls:=.type "list",data:=.seq ([]:Ly HN).toArray 0 }:=M.extBut _ _ (yl (by rw[Y];exact A9 _)) (HS.get?_push_of_some _<|hG ▸ HS.get?_push_size _ U);let hD:h ↥s2=none:=g.fresh;let L:(bL X N scope cl f G.objs.size s2 h).Ok:=by
  refine⟨g.ok.mod,O.kind,g.ok.glob,g.ok.blt,by show ↥s2<=G.objs.size;rw[Y];exact Ar _,λy z c e1 e2=>g.ok.inj y z c (O.cells y c e1)<|O.cells z c e2,λy hy=>O.has y hy,λy c z=>Lr (show Ll=Lj from z) Bool.false_ne_true,g.ok.hd,g.ok.frames,.inl U,
   λb a=>⟨?_,λy c e=>(I b a).2.2.2.2.1 y c<|O.cells y c e⟩,g.bs,yW g.ok.bsz g.sz,λb o e a=>?_,λb a z=>?_,g.stack,g.stkFree⟩
  .let(o,e,_):=T.obj _ _ a1 b a;show b≠G.objs.size;exact yl (by rw[Y];exact zp (HS.lt_size e))
  .rcases(I b a).2.2.2.1 with z|z
   .exact g.ok.noex b o e z
   .exact Lr (zb (HS.lt_size e)<|yW g.ok.bsz z)<|AJ _
  .rcases bW.mp (g.stkSub b z)with z|z
   .exact(I b a).2.1 z
   .exact(I b a).2.2.1 z
 let mT:∀{H':Hp},(∀b∈f,H' b=Li)->∀b∈f,ll (bL X N scope cl f G.objs.size s2 h) [] H' b:=λhn b a =>
  ⟨hn b a,(L.exf b a).1,L.exfs b a,.inl a,(L.exf b a).2,λp hp=>Lr (show p∈([]:Ly (HR×Obj))from hp) (by simp)⟩
 let I':Inv (bL X N scope cl f G.objs.size s2 h) [] (df x fr<|List.replicate k Li) (upd h ↥s2<|.lst []) { s2 with heap:=h1,toks:=s2.toks+⇑([]:Ly (Str×HN)) }:=by
  refine⟨L,U,g.bare,Un.laid B (xX _) hD,⟨_,a2,λi y v e1 e2 e3=>?_⟩,λy c e=>?_,?_,λy c e=>?_,λp hp=>Lr (show p∈([]:Ly (HR×Obj))from hp) (by simp),g.hok.laid B (xX _) ⟨yX _,[],0,.nil,xA⟩,?_⟩
  .by_cases a6:i<k
   .let q:(List.replicate k Li++fr.map λj=>(x[j]?).join)[i]?=Lh (Lh v):=e2;rw[ji (by rw[oG];exact a6),List.getElem?_replicate,Lq a6]at q;cases q
   .let(j,q1,q2,q3,q4):=O.sub (i-k) y (by rw[show k+(i-k)=i by lia];exact e1);let q:(x[j]?).join=Lh v:=by
     have:(List.replicate k Li++fr.map λj=>(x[j]?).join)[i]?=Lh (Lh v):=e2;rw[kq (by rw[oG];lia),oG,jj,q1]at this;exact Option.some.inj this
    let e4:x[j]?=Lh (Lh v):=by
     cases z:x[j]? with
     |none=>rw[z]at q;cases q
     |some t=>rw[z]at q;exact Lw Lh q
    let(m,_,hl):=g.loc;let b4:Vis X.env.scope y:=.inr q3;let(u,r,l):=hl j y v q2 e4 b4;calc⟨u,r,.inr ⟨q4,?_⟩⟩;let(c',a7):=O.has y q4;rcases l with⟨k,_⟩|⟨_,c,ec,ic⟩
    .rcases q3 with z|z
     .rw[z]at k;cases k
     .rw[z]at k;cases k
    .let:=O.cells y c' a7;let e':c=c':=Option.some.inj<|ec.symm.trans this;let(o,ho,hd):=ic;rw[e']at ho;exact⟨c',a7,o,B c' o ho,hd⟩
  .let(v,o,ho,hd):=g.cell y c<|O.cells y c e;exact⟨v,o,B c o ho,hd⟩
  .show upd h ↥s2 (.lst []) G.objs.size=Li;rw[ay (zl (by rw[Y];exact A9 _))];exact g.hok.fresh (by rw[Y];exact Ar _)
  .let(v,o,ho,hd):=g.cell y c<|O.cells y c e;rw[ay (yl<|HS.lt_size ho)];exact g.freeC y c<|O.cells y c e
  .show⇑(df x fr<|List.replicate k Li)=N.length;rw[O.len];simp[df]
 let a5:tn 0 h1:=T.keep _ _ _ a1 λb a o e=>B b o e
 let P:∀s3:Ib,s3={ s2 with heap:=h1,toks:=s2.toks+⇑([]:Ly (Str×HN)) } ->
   Ja (model X.prog X.w) X.A (.compLoop (.ListComp elt [⟨tg,iter,ifs,0⟩] scope pos) 0 (.ref it) (.ref ↥s2)<|JD scope cl G.objs.size X.env) (RR (.ref ↥s2) G.objs.size) s3:=by
  rintro s3 rfl;let(W,(m0,w0),b0):=hW _ hD
  refine mS (λn s'=>∃i R H',R.length=k/\Inv (bL X N scope cl f G.objs.size s2 h) [] (df x fr R) H' s'/\tn i s'.heap/\(∀b∈f,H' b=Li)/\W i n H') ?_ m0
   ⟨0,List.replicate k Li,_,oG,I',a5,λb a=>by
    rw[ay (by let(o,e,_):=T.obj _ _ a1 b a;exact yl (HS.lt_size e))];exact(I b a).1,w0⟩
  rintro n s' ⟨i,R,H',b6,I3,a4,a8,w3⟩;rcases b0 i n H' w3 with⟨b1,qn⟩|⟨go,step⟩
  .refine thn (T.done (bL X N scope cl f G.objs.size s2 h) U U U hc i [] s' _ H' _ I3 (mT a8) a4 b1) λr s4 ⟨hr,I4⟩=>?_
   subst hr;let(m,V,_):=I4.loc;refine fin _ _ s4 H' (by rw[Y];exact Ar _) I4.free ⟨m,V⟩ (g.call' (ch:=f) I4.os I4.base I4.hok I4.bare λb a=>?_) qn;exact⟨(I b a).2.2.2.1,(I b a).2.1,(I b a).2.2.2.2.1,(I b a).2.2.2.2.2⟩
  .refine thn (T.item (bL X N scope cl f G.objs.size s2 h) U U U hc i [] s' _ H' _ I3 (mT a8) a4 go) λr s4 ⟨u,hr,h4⟩=>?_
   subst hr;refine thn h4 λ_ s5 ⟨y,H5,I5,r5,y5,a0,b9⟩=>?_
   let c0:=I5.pinned (mT b9)<|T.obj _ _ a0;refine thn (hg f G.objs.size s2 h _ s5 _ H5 y u _ c0 r5<|step y H5 y5 R b6) λ_ s6 ⟨c1,H6,I6,⟨a3,Ei,e6⟩,q6⟩=>?_
   subst e6
   let again:∀{Z:St}{H7:Hp}{s7:Ib}{S:Nat},Z=df x fr a3->Inv (bL X N scope cl f G.objs.size s2 h) ([]++lq f s5.heap) Z H7 s7->S<n->W (i+1) S H7 ->
     ∃m,m<n/\∃i R H',R.length=k/\Inv (bL X N scope cl f G.objs.size s2 h) [] (df x fr R) H' s7/\tn i s7.heap/\(∀b∈f,H' b=Li)/\W i m H':=λ{Z H7 s7 S} e7 I7 V w7=>by
    subst e7;calc⟨S,V,i+1,a3,H7,Ei,I7.unpinned,T.keep _ _ _ a0 λb a o e=>(I7.pin (b,o)<|jW _<|jW _<|d6 a e).1,λb a=>?_,w7⟩;let(o,e,d):=T.obj _ _ a0 b a;exact(I7.pin (b,o)<|jW _<|jW _<|d6 a e).2.1
   refine thn (ht f G.objs.size s2 h _ s6 _ H6 _ I6 q6) λok s7 ⟨H7,I7,q7⟩=>?_
   cases ok with
   |false =>
    rw[Lp Bool.false_ne_true]at q7⊢;let(S,V,w7):=q7;exact again U I7 V w7
   |true =>
    rw[Lq U]at q7⊢;refine thn (he f G.objs.size s2 h _ s7 _ H7 _ I7 q7) λu8 s8 ⟨v8,H8,I8,r8,ys,b5,b3,S,V,w8⟩=>?_
    refine thn (bG (X:=bL X N scope cl f G.objs.size s2 h) _ s8 _ H8 (.ref ↥s2) [v8] _ [u8] (λ_ H9=>W (i+1) S H9) I8 U (.cons r8 .nil) ⟨_,ys,v8,U,U,b5,b3,w8⟩) λ_ s9 ⟨_,H9,I9,_,w9⟩=>?_
    exact again U I9 V w9
 calc JL (P _ U)<|T.self _ 0 _ _ _ a5<|P _ U
theorem iA{i:TI}(hi:PI X tg iter i)(O:mU X N k fr scope cl)(u:X.calm=Lj)(r:∀b C s H,PG (bL X N scope cl b C s H) tg gt)(l:∀b C s H,PIf (bL X N scope cl b C s H) ifs tt)(t:∀b C s H,PE (bL X N scope cl b C s H) elt te)
  (n:∀v,IQ iter X.env v=pure v:=by intro _;rfl):PE X (.ListComp elt [⟨tg,iter,ifs,0⟩] scope pos) (xC i gt k fr tt te):=by
 intro a s g H Q I h;rw[JM];calc JN (use:=Li) U n O.clos O.kind O.names<|thn (hi a s g H _ I h) λv M B=>thn B λK s2 z=>?_;let(it,b,L,J,S,e,j,T,c,E,x):=z;subst e;refine mV (RR:=λf C=>JO (model X.prog X.w) X.A X.xe Li (EP X a g Q) f C) O u j T c E l t r x λD C P G y o ⟨m,p⟩ F q=>?_
 calc⟨m,p,λR d=>⟨.ref D,G,j.left F y o d,U,q⟩⟩
theorem jI{K:W.Frag}{a:HR}{xs:Ly V}{j:St}{f:Hp}{Q:VK}(c:HR->Nat->Ly V->Hp->Prop)(s:∀D,f D=Li->c D 0 [] (upd f D<|.lst []))
  (r:∀D i ys H,f D=Li->i<=⇑xs->c D i ys H->SqL K H a xs)
  (o:∀D i x ys H,f D=Li->xs[i]?=Lh x->c D i ys H->∀ts:St,⇑ts=k->gt x (df j fr ts) H λd t=>(∃g:St,⇑g=k/\d=df j fr g)/\tt d t λb n=>if b=Lj then te d n (cA c D i ⇑xs)else dj c D i ⇑xs n)
  (hd:∀D ys H,f D=Li->c D ⇑xs ys H->Q (.ref D) H):i6 (Itl K a) gt k fr tt te j Q f:=by
 intro D h;calc⟨λi m H=>m=⇑xs-i/\i<=⇑xs/\∃ys,c D i ys H,⟨_,U,yX _,[],s D h⟩,?_⟩;rintro i m H ⟨rfl,hi,ys,p⟩;let q:=r D i ys H h hi p;by_cases l:i<⇑xs
 .refine .inr ⟨⟨xs,xs[i],q,by simp[l]⟩,λx u y=>?_⟩;let(e,y):=y;subst e;exact o D i x ys _ h (y xs q) p
 .let e:i=⇑xs:=∅
  subst e;calc .inl ⟨⟨xs,q,xX _⟩,hd D ys H h p⟩
end
theorem pH{X:Cx}{K:W.Frag}{a:Ly Ij}{k:Nat}{t:TGs}{n:Nat}{pos:Pos}(e:X.K=K)(d:X.calm=Lj)(h:PGs X a t)(c:⇑(IC a X.env)=n:=by rfl)(b:(IC a X.env).findIdx? (·.1)=none:=by rfl):PG X (.Tuple a k pos) (Cy K n t):=e ▸ fV d h c b
end _L
namespace Srt
open PySem PySem.W PyProof.Rows
def Ok(n:Nat)(lt:Nat->Nat->Bool){b:Type}:KasT b->(b->Prop)->Prop
 | .ret a,Q=>Q a
 | .ask i j k,Q=>i<n/\j<n/\Ok n lt (k<|lt i j) Q
section
variable{n:Nat}{lt:Nat->Nat->Bool}
abbrev g(p:Array Nat)(i:Nat):Nat:=p.getD i 0
structure Ord(lt:Nat->Nat->Bool):Prop where
 tr:∀a b c,lt b a=Ll->lt c b=Ll->lt c a=Ll
 as:∀a b,lt a b=Lj->lt b a=Ll
end
end Srt
namespace _L
open PySem PySem.Spec PySem.W PyProof.Rows
variable{prog:HQ}{w:HP}{A:Ia}{E:HN->Ib->Prop}{s:Ib}
variable{X:Cx}
theorem u7{n:Int}{p:Pr}:inR n p=Lj↔p.1<=n/\n<=p.2:=by
 unfold inR;simp only[EA,decide_eq_true_eq]
theorem u9{n:Int}{R:Ly Pr}:inP R n=Lj↔∃p∈R,p.1<=n/\n<=p.2:=by
 unfold inP;rw[xt];calc⟨λ⟨p,h,e⟩=>⟨p,h,u7.mp e⟩,λ⟨p,h,e⟩=>⟨p,h,u7.mpr e⟩⟩
structure GK(S A B A0 B0:Ly Pr):Prop where
 ap:Apart S
 aA:Apart A
 aB:Apart B
 mem:∀n,(inP A0 n && inP B0 n)=(inP S n || (inP A n && inP B n))
 gap:∀s∈S,(∀p∈A,s.2+2<=p.1)\/(∀p∈B,s.2+2<=p.1)
structure GZ(F T:Ly Pr)(lo hi st:Int):Prop where
 ap:Apart F
 lt:∀s∈F,s.2+2<=st
 rng:∀s∈F,lo<=s.1/\s.2<=hi
 tk:∀p∈T,p.2<st
 fr:st=lo\/∃p∈T,st=p.2+1
 ge:lo<=st
 mem:∀n,lo<=n->n<=hi->n<st->inP F n = !inP T n
structure Walk(ts:Ly (Int×Int×Int)):Prop where
 le:∀t∈ts,t.1<=t.2.1
 nx:∀(i:Nat) a b,ts[i]?=Lh a->ts[i+1]?=Lh b->b.1=a.2.1+1
def pcs(msk:Int->Bool)(ts:Ly (Int×Int×Int))(n:Int):Bool:=ts.any λt=>inR n (t.1,t.2.1) && msk t.2.2
structure G0(R:Ly Pr)(ts:Ly (Int×Int×Int))(msk:Int->Bool)(i:Nat)(at_:Int):Prop where
 ap:Apart R
 mem:∀n,inP R n=pcs msk (ts.take i) n
 lt:∀r∈R,r.2<at_
 few:2*R.length<=i\/(2*R.length<=i+1/\∃R' l,R=R'++[l]/\l.2=at_-1)
variable{i:Nat}
section
variable{R:Ly Pr}{ts:Ly (Int×Int×Int)}{msk:Int->Bool}{at_:Int}{t:Int×Int×Int}
end
def ends(R:Ly Pr):Ly Int:=R.flatMap λp=>[p.1,p.2+1]
theorem pI(R:Ly Pr)(p:Pr):ends (R++[p])=ends R++[p.1,p.2+1]:=by
 unfold ends;rw[List.flatMap_append];simp
def vQ(R:Ly Pr)(p:Pr):ends (p :: R)=p.1 :: (p.2+1) :: ends R:=rfl
theorem fg{R:Ly Pr}{e:Int}:e∈ends R↔∃p∈R,e=p.1\/e=p.2+1:=by
 unfold ends;rw[tE];simp
def cnt:Ly Pr->Int
 | []=>0
 |p :: R=>(p.2-p.1+1)+cnt R
def b2(b:Bool):Int:=if b=Lj then 1 else 0
theorem md(a:Ly Int):∀k,k<=⇑a->preSum (λi=>a.getD i 0) k=(a.take k).sum
 |0,_=>rfl
 |k+1,h=>by
  let b:=md a k ∅;show preSum (λi=>a.getD i 0) k+a.getD k 0=_;let e:a[k]?=Lh a[k]:=HF ∅;rw[b,oH,e,wm,iX,e];simp
theorem eI(D:X.calm=Lj):cF X (.builtin "sum") (λus H Q=>∃(a:HR)(c:Ly Int),us=[.ref a]/\SqL X.K H a (c.map V.int)/\Q (.int c.sum) H):=by
 intro p s J H us L Q I r h;let(a,c,rfl,B,q):=h;let(u,rfl,x):=r.one;cases (show u=HN.ref a from x);let(d,l,j,N):=I.list B;let k:=⇑l;rw[bc]at k;let(M,G,_):=id j.isList;let f:a<↥s:=HS.lt_size G;calc call_sum_walkG<|IM j.isList ?_;refine⟨↥s,[↥s,a],[↥s],_,_,_,λi=>c.getD i 0,U,Walks.list (A:=X.A.in1) (I.ok.hd D) _ a (yl f) d.toArray,⟨⟨_,HS.get?_push_size _ U,U,U⟩,j.isList.at λo e=>HS.get?_push_of_some _ e⟩,λb E=>?_,λi v e=>?_,λO w t' C=>?_⟩
 .show b<(s.heap.push _).objs.size;rw[HS.size_push];rcases bW.mp E with z|z
  .rw[z];exact A9 _
  .let g:b=a:= ~~~z
   rw[g];exact zp f
 .let n:d[i]?=Lh v:= ~~~e
  let hi:i<⇑c:=by rw[k];exact(HG.mp n).1
  let F:(c.map V.int)[i]?=Lh (.int c[i]):=by rw[jj,HF hi];rfl
  let(u,m,y):=l.get F;rw[n]at m;cases m;let(t,rfl):=y;exact⟨t,by show HN.int c[i] t=HN.int (c.getD i 0) t;rw[iX,HF hi];rfl⟩
 .refine⟨.int c.sum,H,I.kept (t':=w) λb o e=>C b o (λz=>?_)<|HS.get?_push_of_some _ e,⟨t',?_⟩,q⟩
  .let g:b=↥s:= ~~~z
   exact Lr (HS.lt_size e) (by rw[g];exact AJ _)
  .rw[dV,←k,md c _<|xX _,gd]
theorem fN:∀{A B:Ly Int},A.Pairwise (· < ·)->B.Pairwise (· < ·)->(∀c,c∈A↔c∈B)->A=B
 | [],[],_,_,_=>rfl
 | [],b :: B,_,_,h=>by have:=(h b).mpr<|.head _;cases this
 |a :: A,[],_,_,h=>by have:=(h a).mp<|.head _;cases this
 |a :: A,b :: B,hA,hB,h=>by
  let(i,j):=qd.mp hA;let(g,b2):=qd.mp hB;let e:a=b:=by
   rcases bW.mp ((h a).mp<|.head _)with e|e
   .exact e
   .rcases bW.mp ((h b).mpr<|.head _)with f | f
    .exact f.symm
    .let:=i b f;let:=g a e;lia
  subst e
  congr 1
  refine fN j b2 λc=>⟨λd=>?_,λd=>?_⟩
  .rcases bW.mp ((h c).mp<|.tail _ d)with e|e
   .let:=i c d;lia
   .exact e
  .rcases bW.mp ((h c).mpr<|.tail _ d)with e|e
   .let:=g c d;lia
   .exact e
def NeS(W:Ly (Int×Int×Int)):Prop:=∀(j:Nat) a b,W[j]?=Lh a->W[j+1]?=Lh b->a.2.2≠b.2.2
structure GL(G ts:Ly (Int×Int×Int))(i:Nat):Prop where
 walk:Walk G
 ne:NeS G
 pcs:∀msk n,pcs msk G n=_L.pcs msk (ts.take i) n
 hd:∀t,ts[0]?=Lh t->0<i->∃g,G[0]?=Lh g/\g.1=t.1
 lst:∀t,ts[i-1]?=Lh t->0<i->∃G' g,G=G'++[g]/\g.2.1=t.2.1/\g.2.2=t.2.2
 len:G.length<=i
 stt:∀g∈G,∃t∈ts,g.2.2=t.2.2
section
variable{G ts:Ly (Int×Int×Int)}{t:Int×Int×Int}
end
def Its(z:Str):It:=⟨λi _=>i<z.cps.size,λi H x a=>a=H/\∃c,z.cps[i]?=Lh c/\x=.str ⟨#[c]⟩,λi _=>z.cps.size<=i⟩
theorem tY{P:HQ}{w:HP}{K:W.Frag}{L:Ij}(z:Str)(t:Tok)(it:HR):Turn P w K L (Its z) [it] it (λi h=>h.IsStrIter it "str_ascii_iterator" z t i) where
 mem:=by simp
 obj:=λi h f b g=>by
  let(o,e,c,d):=f;rw[show b=it by simpa using g];exact⟨o,e,λv q=>by rw[d]at q;cases q⟩
 keep:=λi h m ⟨o,e,r⟩ k=>⟨o,k it (by simp) o e,r⟩
 item:=by
  intro X u n x J i a s G H E I l f p;subst u n x;let F:i<z.cps.size:=p;let hi:z.cps[i]?=Lh z.cps[i]:=D0 F;let(D,C,N,B,A,y):=l it (by simp);refine wpAny_pyNext_ascii_item f hi λm j M=>?_
  let Q:Inv X a G H { s with heap:=m,toks:=s.toks+1 }:=I.turned (t':=s.toks+1) (λb o g e=>(M.2 b g).trans e) D C B A y;let(o,e,c,d):=id j;exact⟨_,U,ph (s:={ s with heap:=m,toks:=s.toks+1 }) e c d ⋯ ⟨.str ⟨#[z.cps[i]]⟩,H,Q,⟨_,U⟩,⟨U,_,hi,U⟩,j,λb g=>(l b g).1⟩⟩
 done:=by
  intro X u n x J i a s G H E I l f p;subst u n x;let(D,C,N,B,A,y):=l it (by simp);exact wpAny_pyNext_ascii_end (I.ok.hd J) f (~~~(show z.cps.size<=i from p)) λm O=>⟨U,I.turned (t':=s.toks) (λb o g e=>O b o g e) D C B A y⟩
 self:=λ_ _ _ _ _ f h=>wpAny_pyIter_striter_ascii f h
theorem vR{P:HQ}{w:HP}{K:W.Frag}{L:Ij}(z:Str)(t:Tok)(it:HR):Turn P w K L (Its z) [it] it (λi h=>h.IsStrIter it "str_iterator" z t i) where
 mem:=by simp
 obj:=λi h f b g=>by
  let(o,e,c,d):=f;rw[show b=it by simpa using g];exact⟨o,e,λv q=>by rw[d]at q;cases q⟩
 keep:=λi h m ⟨o,e,r⟩ k=>⟨o,k it (by simp) o e,r⟩
 item:=by
  intro X u n x J i a s G H E I l f p;subst u n x;let F:i<z.cps.size:=p;let hi:z.cps[i]?=Lh z.cps[i]:=D0 F;let(D,C,N,B,A,y):=l it (by simp);refine wpAny_pyNext_wide_item f hi λm j M=>?_
  let Q:Inv X a G H { s with heap:=m,toks:=s.toks+1 }:=I.turned (t':=s.toks+1) (λb o g e=>(M.2 b g).trans e) D C B A y;let(o,e,c,d):=id j;exact⟨_,U,ph (s:={ s with heap:=m,toks:=s.toks+1 }) e c d ⋯ ⟨.str ⟨#[z.cps[i]]⟩,H,Q,⟨_,U⟩,⟨U,_,hi,U⟩,j,λb g=>(l b g).1⟩⟩
 done:=by
  intro X u n x J i a s G H E I l f p;subst u n x;let(D,C,N,B,A,y):=l it (by simp);exact wpAny_pyNext_wide_end (I.ok.hd J) f (~~~(show z.cps.size<=i from p)) λm O=>⟨U,I.turned (t':=s.toks) (λb o g e=>O b o g e) D C B A y⟩
 self:=λ_ _ _ _ _ f h=>wpAny_pyIter_striter_wide f h
section
variable{tg:Ij}
inductive AA  (R:(It->Hp->Prop))(x:V)(H1:Hp):Prop
 |mk (z:_)(_:x=.str z)(_:R (Its z) H1):AA R x H1
def Ej(b:TE):W.Frag->St->Hp->(It->Hp->Prop)->Prop:=λ_ a H R=>b a H λx c=>AA R x c
theorem Bt{l:Ij}{i:TE}(n:PE X l i):PI X tg l (Ej i X.K):=by
 intro c s j H R I h;refine thn (n c s j H _ I h) λv a ⟨x,g,f,k,m⟩=>?_
 let(z,e,q):=m;subst e;let(t,rfl):=k;let d:∀b∈[↥a],ll X c g b:=λb p=>by
  rw[show b=↥a by simpa using p];exact f.fpOk (xX _)<|f.hok.fresh<|xX _
 cases ha:z.cps.all (· < 128) with
 |true=>exact wpAny_pyIter_ascii ha ⟨↥a,[↥a],_,_,g,U,f.kept (t':=a.toks) λb o e=>HS.get?_push_of_some _ e,tY z t _,⟨_,HS.get?_push_size _ U,U,U⟩,d,q⟩
 |false=>calc wpAny_pyIter_wide ha ⟨↥a,[↥a],_,_,g,U,f.kept (t':=a.toks) λb o e=>HS.get?_push_of_some _ e,vR z t _,⟨_,HS.get?_push_size _ U,U,U⟩,d,q⟩
end
theorem zk{z:Str}{g:TG}{k:TS}{D:Ends}{a:St}{H:Hp}(b:Nat->St->Hp->Prop)(t:b 0 a H)
  (r:∀i c a H,z.cps.toList[i]?=Lh c->b i a H->g (.str ⟨#[c]⟩) a H λd j=>k { D with nx:=b<|i+1,ct:=b<|i+1,bk:=D.nx } d j)(s:∀a H,b z.cps.size a H->D.nx a H) :
  ∃W:Nat->Nat->St->Hp->Prop,(∃m,W 0 m a H)/\∀i m a H,W i m a H ->
   ((Its z).stop i H/\D.nx a H)\/((Its z).go i H/\∃N:St->Hp->Prop,(∀f H',N f H'->∃l,l<m/\W (i+1) l f H')/\∀x H',(Its z).yld i H x H'->g x a H' λd j=>k { D with nx:=N,ct:=N,bk:=D.nx } d j):=by
 calc⟨λi m a H=>m=z.cps.size-i/\i<=z.cps.size/\b i a H,⟨_,U,yX _,t⟩,?_⟩;rintro i m a H ⟨rfl,hi,p⟩;by_cases h:i<z.cps.size
 .refine .inr ⟨h,b<|i+1,λf H' q=>⟨z.cps.size-(i+1),∅,U,h,q⟩,λx H' y=>?_⟩;let(e,c,o,n):=y;subst e;subst n;exact r i c a _ (~~~o) p
 .let e:i=z.cps.size:=∅
  subst e;calc .inl ⟨xX _,s a H p⟩
theorem pJ{x:Str}{v:V}{pos:Pos}(a:Gl X x)(h:∃u,X.mg x=Lh u/\RelV v u)(b:(x == ("__debug__" : Str))=false:=by decide):PE X (.Name x pos) (tC v):=by
 let(_,m,r):=h;calc eF a m r b
def sg(g:Str)(c:Nat):Bool:=!(IP.Str.occurrences g ⟨#[c]⟩ 0 ⇑g 1).isEmpty
def rq(z g:Str):Bool:=z.cps.toList.all<|sg g
open PySem.NumText
structure G1(cs:Ly Nat):Prop where
 all:AllDigits cs
 one:⇑cs=1\/∃c r,cs=c :: r/\49<=c
def vb{X:Cx}:OpR X (IS .Mult) (rI IT λi j=>.int<|i*j):=opI λ_ _ _ _ _ _ _ a q=>mul_int q a
def t9(h:HS)(e T:HR)(cls:HN)(f:HN×HN)(fl:HN):Prop :=
 ∃b a d c,h.get? e=Lh b/\(b.cls=cls/\a[0]?=Lh f.1/\a[2]?=Lh f.2)/\b.data=.fields a/\a[1]?=↑T/\T≠e/\h.get? T=Lh d/\d.data=.fields c/\c[3]?=Lh fl
abbrev vS(h:HS)(e T:HR)(a:HN)(b:HN×HN):Prop:=t9 h e T a b .none
structure Stp(F X:Ly HR)(h h':HS):Prop where
 keep:∀b o,b ∉ F->b ∉ X->h.get? b=Lh o->h'.get? b=Lh o
 slot:∀b o,b∈F->h.get? b=Lh o->∃sl,h'.get? b=Lh { o with slots:=sl }
inductive xD(h:HS)(L e:HR)(cls:HN)(a0:HN×HN):Ly HR->Prop where
 |fresh {oe:Obj}{vs:Array HN}(he:h.get? e=Lh oe)(hc:oe.cls=cls)(hd:oe.data=.fields vs)(h1:vs[1]?=Lh HN.none)(h0:vs[0]?=Lh a0.1)(h2:vs[2]?=Lh a0.2):xD h L e cls a0 []
 |fly {T:HR}(x:t9 h e T cls a0 .none):xD h L e cls a0 [T]
 |held {T:HR}(x:t9 h e T cls a0 (IL L)):xD h L e cls a0 [T]
variable{base:HS}{e:HR}{oe:Obj}
section
variable{M:Ig}{env:Env}{outer:Ly Env}{L T:HR}{vs:Array HN}{a0:HN×HN}{cls fl:HN}{Q:Unit->Ib->Prop}{Ts:Ly HR}
def Stp.refl(F Y:Ly HR)(h:HS):Stp F Y h h:=⟨λ_ _ _ _ q=>q,λ_ o _ q=>⟨o.slots,q⟩⟩
theorem xE{y:Bool}{g:HN}(H:A.frames=Lh (env :: outer))(u:s.heap.FunFrames base (env :: outer))(I:env.frame=Lh L)(t:s.heap.get? e=Lh oe)(i:oe.data=.fields vs)(l:1<vs.size)
  (h:∀h' T n ts,Stp (frs (env :: outer)) [e] s.heap h'->h'.get? e=Lh (Obj.mapFields (·.setIfInBounds 1 (.ref T)) oe)->s.heap.get? T=Li->T≠e->h'.get? T=Lh n->n.data=.fields ts->ts[3]?=Lh (IL L)->Q () { s with heap:=h' }) :
  Ih M A (do let a ←frameOf env;let pl ←entryPlaceOf L y;let b ←EntryCells.newEntry g a .none (IL L) .none pl;setField (.ref e) 1 b) Q E s:=by
 let r:e ∉ frs (env :: outer):=λz=>by
  let(_,J,m,F):=u.mem z;rw[t]at m;cases m;exact F vs i
 calc HJ<|wpAny_frameOf_fun H u I λc so=>HJ<|wpAny_entryPlaceOf λpl ok=>?_;let w:c.get? e=Lh oe:=(so.2.1 e r).trans t;let j:c.objs.size=↥s:=so.1;let k:∀(O:Obj)(ts:Array HN),O.data=.fields ts->ts[3]?=Lh (IL L)->Ih M A (setField (.ref e) 1<|.ref c.objs.size) Q E { s with heap:=c.push O }:=λO ts x B=>by
  let v:=HS.get?_push_of_some O w;let p:c.objs.size≠e:=zl<|HS.lt_size w;let d:∀b,b≠e->((c.push O).update e (Obj.mapFields (·.setIfInBounds 1 (.ref c.objs.size)))).get? b=(c.push O).get? b:=λb f=>HS.get?_update_other _ _<|Ne.symm f
  refine JQ v i l<|h _ c.objs.size O ts ⟨λb o f G q=>?_,λb o f q=>?_⟩ (HS.get?_update_self _ v<|Obj.isFreed_of_fields<|Obj.data_mapFields i _) (HS.get?_none_of_le (by rw[j];exact xX _)) p ((d _ p).trans<|HS.get?_push_size c<|Obj.isFreed_of_fields x) x B
  .exact(d b λz=>G (by simp[z])).trans (HS.get?_push_of_some O<|(so.2.1 b f).trans q)
  .let(C,D):=so.2.2 b o q;exact⟨C,(d b λz=>r<|z ▸ f).trans<|HS.get?_push_of_some O D⟩
 unfold EntryCells.newEntry newFields;exact HJ<|JJ (k _ _ U (by rcases ok with rfl|⟨_,_,_,_,_,_,_,rfl⟩ <;> simp)) (ok.sizeOk5 _ _ _ _ _)
theorem note(K:A.frames=Lh (env :: outer))(G:s.heap.FunFrames base (env :: outer))(F:env.frame=Lh L)(x:xD s.heap L e cls a0 Ts)
  (h:∀h' j,Stp (frs (env :: outer)) (e :: Ts) s.heap h'->t9 h' e j cls a0 (IL L)->(s.heap.get? j=Li\/j∈Ts)->Q () { s with heap:=h' }):Ih M A (JG (.ref e) env) Q E s:=by
 let sz:∀{vs:Array HN}{x:HN},vs[1]?=Lh x->1<vs.size:=λz=>(Array.getElem?_eq_some_iff.mp z).1
 let O:∀{oe:Obj}{vs:Array HN}{h':HS}{T:HR}{i:Obj}{f:Array HN},oe.cls=cls->oe.data=.fields vs->1<vs.size->vs[0]?=Lh a0.1->vs[2]?=Lh a0.2->h'.get? e=Lh (Obj.mapFields (·.setIfInBounds 1 (.ref T)) oe)->T≠e->h'.get? T=Lh i->i.data=.fields f->f[3]?=Lh (IL L)->t9 h' e T cls a0 (IL L) :=
  λ{oe vs h' T i f} c d l V S v g u t r=>⟨_,_,i,f,v,⟨(Obj.cls_mapFields _ _).trans c,by rw[Array.getElem?_setIfInBounds_ne ⋯];exact V,by rw[Array.getElem?_setIfInBounds_ne ⋯];exact S⟩,Obj.data_mapFields d _,by simp[l],g,u,t,r⟩
 unfold JG;simp only[F];cases x with
 | @fresh oe vs he hc hd h1 h0 h2 =>
  calc HJ<|JR he hd h1 ?_;rw[Lp ⋯];exact xE K G F he hd (sz h1) λh' T i f C v g u t r D=>h h' T C (O hc hd (sz h1) h0 h2 v u t r D)<|.inl g
 | @fly T x =>
  let(oe,vs,i,f,B,(I,R,P),x3,p,H,n,m,y):=x;let a:∀b,b≠T->(s.heap.update T (Obj.mapFields (·.setIfInBounds 3 HN.none))).get? b=s.heap.get? b:=λb k=>HS.get?_update_other _ _<|Ne.symm k
  let N:∀b o,s.heap.get? b=Lh o->(∀vs,o.data≠.fields vs)->b≠T:=λb o q w z=>w f (by rw[z,n]at q;cases q;exact m)
  calc HJ<|JR B x3 p ?_;rw[Lq (show(HN.ref T != HN.none)=Lj by simp)];calc HJ<|JR n m y ?_;rw[Lp (show ¬ (HN.none == IL L)=Lj by simp[IL])];calc HJ<|JQ n m (Array.getElem?_eq_some_iff.mp y).1 ?_;refine xE (s:={ s with heap:=s.heap.update T (Obj.mapFields (·.setIfInBounds 3 HN.none)) }) K (G.of_keeps λb o q w=>⟨o,(a b<|N b o q w).trans q,U⟩) F ((a e<|Ne.symm H).trans B) x3 (sz p) λh' j X W C v g u t r D=>?_
  refine h h' j ⟨λb o k J q=>C.keep b o k (λz=>J<|bW.mpr<|.inl<|~~~z)<|(a b λz=>J (by simp[z])).trans q,λb o k q=>?_⟩ (O I x3 (sz p) R P v u t r D) ?_
  .let(_,Y,g,w):=G.mem k;rw[q]at g;cases g;exact C.slot b o k<|(a b<|N b o q w).trans q
  .by_cases z:j=T
   .exact .inr (by simp[z])
   .exact .inl<|(a j z).symm.trans g
 | @held T x =>
  let(oe,vs,i,f,B,I,x3,p,H,n,m,y):=id x;calc HJ<|JR B x3 p ?_;rw[Lq (show(HN.ref T != HN.none)=Lj by simp)];calc HJ<|JR n m y ?_;rw[Lq (show(IL L == IL L)=Lj by simp)];calc HK<|h s.heap T (Stp.refl _ _ _) x<|.inr (by simp)
theorem xF{fr:Option HR}{l:Ly Env}(v:s.heap.FunFrames base l)(x:t9 s.heap e T cls a0 fl)(h:∀h',Stp (frs l) [e,T] s.heap h'->t9 h' e T cls a0 (fr.elim HN.none λf=>IL f)->Q () { s with heap:=h' }):Ih M A (JS (.ref e) fr) Q E s:=by
 let(oe,vs,w,m,k,r,x3,j,i,g,c,p):=x;let sz:3<m.size:=(Array.getElem?_eq_some_iff.mp p).1;let a:∀b,b≠T->(s.heap.update T (Obj.mapFields (·.setIfInBounds 3 (fr.elim HN.none λf=>IL f)))).get? b=s.heap.get? b:=λb d=>HS.get?_update_other _ _<|Ne.symm d
 unfold JS;calc HJ<|JR k x3 j ?_;rw[Lq (show(HN.ref T != HN.none)=Lj by simp)];refine JQ g c sz (h _ ⟨λb o d u q=>(a b λz=>u (by simp[z])).trans q,λb o d q=>?_⟩ ⟨oe,vs,_,_,(a e<|Ne.symm i).trans k,r,x3,j,i,HS.get?_update_self _ g<|Obj.isFreed_of_fields<|Obj.data_mapFields c _,Obj.data_mapFields c _,by simp[sz]⟩);let(_,y,n,t):=v.mem d;rw[q]at n;cases n;calc⟨o.slots,(a b λz=>t m (by rw[z,g]at q;cases q;exact c)).trans q⟩
theorem Stp.then{F Y Z:Ly HR}{h f e:HS}(x:Stp F Y h f)(y:Stp F Z f e)(hz:∀b o,h.get? b=Lh o->b∈Z->b∈Y):Stp F Y h e :=
 ⟨λb o a d q=>y.keep b o a (λz=>d<|hz b o q z)<|x.keep b o a d q,λb o a q=>by
  let(j,i):=x.slot b o a q;let(c,g):=y.slot b _ a i;exact⟨c,g⟩⟩
theorem Stp.frames{Y:Ly HR}{h a:HS}{l:Ly Env}(x:Stp (frs l) Y h a)(g:h.FunFrames base l):a.FunFrames base l:=by
 let:∀(F:Ly HR)(m:Ly Env),(∀b∈frs m,b∈F)->Stp F Y h a->h.FunFrames base m->a.FunFrames base m:=λF m=>by
  induction m with
  |nil=>intro _ _ z;exact z
  |cons v m f =>
   rintro d x ⟨k,⟨L,o,c,n,j,i⟩,r⟩;let(p,q):=x.slot L o (d L (by unfold frs;rw[nF,c];exact fH)) j;exact⟨k,⟨L,_,c,n,q,i⟩,f (λb e=>d b (by unfold frs at e⊢;rw[nF,c];exact iE _ e)) x r⟩
 calc this _ l (λ_ z=>z) x g
theorem land{n:HN->Ib->Prop}(k:A.frames=Lh (env :: outer))(i:s.heap.FunFrames base (env :: outer))(l:env.frame=Lh L)(x:vS s.heap e T cls a0)
  (h:∀h' c,Stp (frs (env :: outer)) [e,T] s.heap h'->vS h' e c cls a0->(s.heap.get? c=Li\/c=T)->Q () { s with heap:=h' }):Ih M A (JG (.ref e) env) (λ_ s2=>Ih M A (JS (.ref e) Li) Q E s2) n s:=by
 refine note k i l (.fly x) λg c f x a=>?_
 let a:s.heap.get? c=Li\/c=T:=a.imp id λz=>~~~z
 exact xF (s:={ s with heap:=g }) (f.frames i) x λm d j=>h m c (f.then d λb o q z=>by
  rcases bW.mp z with z|z
  .simp[z]
  .rw[show b=c by simpa using z]at q⊢;rcases a with a|a
   .rw[a]at q;cases q
   .simp[a]) j a
def Bu{l:Ly Env}(d:s.heap.FunFrames base l)(x:vS s.heap e T cls a0)
  (h:∀h' a,Stp (frs l) [e,T] s.heap h'->vS h' e a cls a0->(s.heap.get? a=Li\/a=T)->Q () { s with heap:=h' }):Ih M A (JS (.ref e) Li) Q E s :=
 xF d x λh' c b=>h h' T c b<|.inr U
end
variable{P:HQ}{H:Hp}
section
variable{H':Hp}{h h':HS}{a:HR}{o:HO}{F Y fs:Ly HR}
theorem cK.there(x:cK P w H h a o):∃b,h.get? a=Lh b:=by
 cases o with
 |lst d=>obtain⟨_,_,_,_,e⟩:=x;exact⟨_,e⟩
 |tup d=>obtain⟨_,_,_,b,e,_⟩:=x;exact⟨_,e⟩
 |dK c=>obtain⟨_,_,_,_,o,_,_,e,_⟩:=x;exact⟨_,e⟩
 |dT c=>obtain⟨_,_,_,_,o,_,_,e,_⟩:=x;exact⟨_,e⟩
 |set S n=>obtain⟨o,_,_,_,e,_⟩:=x;exact⟨_,e⟩
 |ins C j fs=>obtain⟨_,_,_,e,_⟩:=x;exact⟨_,e⟩
 |own y=>obtain⟨_,e⟩:=x;exact⟨_,e⟩
 |xd fs=>obtain⟨_,⟨_,_,_,e,_⟩,_⟩:=x;exact⟨_,e⟩
 |rng lo hi=>obtain⟨_,_,_,e⟩:=x;exact⟨_,e⟩
 |frz b u=>obtain⟨e,_⟩:=x;exact⟨_,e⟩
 |tbl i=>exact⟨_,(show h.get? a=Lh _ from x)⟩
 |met f y=>exact⟨_,(show h.get? a=Lh _ from x)⟩
 |ext g=>obtain⟨_,⟨_,e⟩,_⟩:=x;calc⟨_,e⟩
theorem HOk.none_of(x:HOk P w H h)(e:h.get? a=Li):H a=none:=by
 cases q:H a with
 |none=>rfl
 |some u =>
  let(b,z):=(x a u q).there;rw[e]at z;cases z
theorem HOk.stp(x:HOk P w H h)(st:Stp F Y h h')(g:∀b∈F,H b=Li)(f:∀b∈Y,H b=Li):HOk P w H h':=λa o e =>
 (x a o e).stay (λb u c q=>by
  let d:H b≠none:=by
   rcases c with rfl|c
   .rw[e];simp
   .rw[c];simp
  exact st.keep b u (λz=>d<|g b z) (λz=>d<|f b z) q) (λ_ q=>q) λ_ _ q=>q
theorem Un.stp{k:Hp}{d:HS}(u:Un fs [] k H d h)(st:Stp F Y h h')(r:∀b o,d.get? b=Lh o->b∈F->b∈fs)(p:∀b∈fs,b∈F)(m:∀b∈Y,d.get? b=Li):Un fs [] k H d h':=by
 let i:∀b o,d.get? b=Lh o->b ∉ Y:=λb o q z=>by rw[m b z]at q;cases q
 refine⟨λb o q n c a=>st.keep b o (λz=>c<|r b o q z) (i b o q)<|u.keep b o q n c a,λb o q n c a=>?_,u.free,λb o q a=>?_,u.tups,u.frzs,u.tbls⟩
 .let(s,f):=u.slot b o q n c a;let(e,g):=st.slot b _ (p b c) f;exact⟨e,g⟩
 .let(l,f):=u.there b o q a;by_cases j:b∈F
  .let(e,g):=st.slot b _ j f;exact⟨_,g⟩
  .exact⟨_,st.keep b l j (i b o q) f⟩
end
def CX1(P:HQ)(w:HP):CXT:=λa H s E f b=>∃(e T C:HR)(d:HN×HN)(c:Hp),f=.ref e/\b.os=s.os/\AllBare b.gens/\Un (frs a) [] H c s.heap b.heap/\HOk P w c b.heap /\
 vS b.heap e T (.ref C) d/\s.heap.get? e=Li/\s.heap.get? T=Li/\c e=Li/\c T=Li/\∃m,(m=Li->d.2=.none)/\E (.ref C) m c
structure ie(X:Cx)(Ln:Ly (HR×Obj))(H:Hp)(b:HR):Prop where
 ent:X.s₀.heap.get? b=Li
 unt:H b=Li
 loc:b≠X.env.locals
 cel:∀x c,X.env.cells.lookup x=Lh c->c≠b
 pin:∀p∈X.pn++Ln,p.1≠b
variable{Ln:Ly (HR×Obj)}{σ:St}
section
variable{h':HS}{T:HR}
theorem Inv.newAt(I:Inv X Ln σ H s)(e:X.ex=[]){b:HR}(a:s.heap.get? b=Li):ie X Ln H b:=by
 refine⟨?_,I.hok.none_of a,?_,?_,?_⟩
 .cases q:X.s₀.heap.get? b with
  |none=>rfl
  |some o =>
   let(h,d):=I.base.there b o q (by rw[e];simp);rw[a]at d;cases d
 .rintro rfl;let(m,(o,_,_,q,_),_):=I.loc;rw[a]at q;cases q
 .rintro x c g rfl;let(v,o,q,_):=I.cell x c g;rw[a]at q;cases q
 .rintro p f rfl;let(q,_):=I.pin p f;rw[a]at q;cases q
theorem Inv.excStep(I:Inv X Ln σ H s)(hx:X.ex=[])(st:Stp (frs X.stack) [e,T] s.heap h')(N:ie X Ln H e)(O:ie X Ln H T):Inv X Ln σ H { s with heap:=h' }:=by
 let j:∀b∈[e,T],ie X Ln H b:=λb g=>by
  rcases bW.mp g with rfl|g
  .exact N
  .rw[show b=T by simpa using g];exact O
 let G:∀b,b≠X.env.locals->b ∉ X.fs->b ∉ frs X.stack:=λb W V z=>(bW.mp<|I.stkSub b z).elim W V
 let y:∀b o,X.s₀.heap.get? b=Lh o->b ∉ [e,T]:=λb o q z=>by rw[(j b z).ent]at q;cases q
 let C:∀b o,X.s₀.heap.get? b=Lh o->b≠X.env.locals:=λb o q=>yl<|zb (HS.lt_size q) I.ok.above
 let any:∀b o,b ∉ [e,T]->s.heap.get? b=Lh o->∃w,h'.get? b=Lh { o with slots:=w }:=λb o P q=>by
  by_cases K:b∈frs X.stack
  .exact st.slot b o K q
  .exact⟨o.slots,st.keep b o K P q⟩
 let f:∀x c,X.env.cells.lookup x=Lh c->∀v,s.heap.IsCell c v->h'.IsCell c v:=λx c h v ⟨o,Q,S⟩=>by
  let(w,q):=any c o (λz=>(j c z).cel x c h U) Q;exact⟨_,q,S⟩
 refine⟨I.ok,I.os,I.bare,⟨λb o q n g a=>?_,λb o q n g a=>?_,I.base.free,λb o q a=>?_,I.base.tups,I.base.frzs,I.base.tbls⟩,?_,λx c h=>?_,I.free,I.freeC,λp J=>?_,I.hok.stp st I.stkFree<|λb g=>(j b g).unt,I.len⟩
 .exact st.keep b o (G b (C b o q) g) (y b o q)<|I.base.keep b o q n g a
 .let(w,B):=I.base.slot b o q n g a;let(t,A):=any b _ (y b o q) B;exact⟨t,A⟩
 .let(o1,B):=I.base.there b o q a;let(t,A):=any b _ (y b o q) B;exact⟨_,A⟩
 .let(m,(M,Y,Z,D,r),R):=I.loc;let(w,q):=any X.env.locals M (λz=>(j _ z).loc U) D;calc⟨m,⟨_,Y,Z,q,r⟩,λi x v e1 e2 e3=>?_⟩;let(u,L,l):=R i x v e1 e2 e3;calc⟨u,L,?_⟩;rcases l with l|⟨k,c,h,z⟩
  .exact .inl l
  .exact .inr ⟨k,c,h,f x c h _ z⟩
 .let(v,z):=I.cell x c h;exact⟨v,f x c h v z⟩
 .let(q,n,F,E,d):=I.pin p J;calc⟨st.keep p.1 p.2 (G p.1 F E) (λz=>(j _ z).pin p J U) q,n,F,E,d⟩
end
structure ExcCls(K:W.Frag)(C:HR):Prop where
 ex:∃(bmB bmN:Ly HN)(newId B Bn nid xG inN:String),W.excIn K C bmB newId=Lj/\ExcBaseFacts Bn newId inN bmN/\bmB.contains (HN.type Bn)=Lj/\ExcBaseFacts B nid xG bmB
theorem ExcCls.value{K:W.Frag}{C:HR}(h:W.excIn K C [.type "ValueError",.type "Exception",.type "BaseException",.type "object"] "ValueError.__new__" = Lj):ExcCls K C :=
 ⟨_,_,_,_,_,_,_,_,h,PySem.F.excBase_ValueError,⋯,PySem.F.excBase_ValueError⟩
theorem ExcCls.obj{K:W.Frag}{C:HR}{h:HS}{b:Ly HN}{a:String}(c:K.In h)(e:W.excIn K C b a=Lj):∃bm N nm q bs hdct sn sub ab col dd k0 k1 k2 k3 k5 mN,
   h.get? C=Lh (excClassObj nm q C N bs bm hdct sn sub ab col dd k0 k1 k2 k3 k5 a)/\h.Ns N mN/\mN "__init__" = Li/\OwnTail h b bm:=by
 unfold W.excIn at e;split at e
 .rename_i dd cd sl lk
  split at e
  .rename_i C' bm k0 k1 k2 k3 n k5 em es
   simp only[EA,beq_iff_eq,Bool.not_eq_true']at e;let(((((rfl,rfl),i),g),d),hi):=e;let(nm,bs,k,j,q,hdct,sn,sub,ab,col,l):=cd;dsimp only at em i g d hi;subst em i;let f:sl = #[k0,k1,k2,k3,Lh<|HN.builtin n,k5]:=by
    apply Array.toList_inj.mp
    rw[es]
   subst f;exact⟨bm,j,nm,q,bs,hdct,sn,sub,ab,col,dd,k0,k1,k2,k3,k5,_,c _ _ lk,HS.Ns.of_isNs<|W.isNs_of_in c d,W.nsMap_none_of_in c d hi,W.tail_of_in c g⟩
  .cases e
 .cases e
variable{K:W.Frag}
section
variable{mg:Str->Option HN}{N:Ly Str}{qual:Str}{scope:Ic}{f:HR}{cd:HN}{outer:Ly Env}{s0:Ib}{H0:Hp}{E:XK}
def Bv(C:HR)(E:XK)(t:TA):TS:=λ_ σ H=>t σ H λa b=>⇑a<=HU/\E (.ref C) Li b
end
def XP(X:Cx)(Ln:Ly (HR×Obj))(σ:St)(d:HR->Hp->Prop)(b:HN)(s':Ib):Prop :=
 ∃(e T C:HR)(c:HN×HN)(a:Hp),b=.ref e/\Inv X Ln σ a s'/\vS s'.heap e T (.ref C) c/\ie X Ln a e/\ie X Ln a T/\d C a
abbrev TX:=St->Hp->VK->(HR->Hp->Prop)->Prop
def PEX(X:Cx)(e:Ij)(t:TX):Prop :=
 ∀(Ln:Ly (HR×Obj))(s:Ib)(σ:St)(H:Hp)(Q:VK)(a:HR->Hp->Prop),Inv X Ln σ H s->t σ H Q a->Ih (model X.prog X.w) X.A (eval e X.env) (EP X Ln σ Q) (XP X Ln σ a) s
def bN(P:HQ)(w:HP)(K:W.Frag)(mg:Str->Option HN)(base:HS)(k:Nat)(x:Str)(ps:Ly Str)(sp:Sp):Prop :=
 ∃f a,aK P w K mg base (CX1 P w) k f a ps sp/\Binds K a ps []/\W.keepIn K (.ref f)=Lj/\mg x=↑f
theorem bN.mono{P:HQ}{w:HP}{K:W.Frag}{mg:Str->Option HN}{base:HS}{j k:Nat}{x:Str}{ps:Ly Str}{sp:Sp}(C:bN P w K mg base j x ps sp)(h:j<=k):bN P w K mg base k x ps sp:=by
 let(f,a,F,r):=C;calc⟨f,a,F.mono h,r⟩
section
variable{s':Ib}
theorem Inv.afterX{E:XK}{g:HR->Hp->Prop}{f:HN}(I:Inv X Ln σ H s)(d:X.ex=[])(o:∀C m H',E (.ref C) m H'->g C H')(h:CX1 X.prog X.w X.stack H s E f s'):XP X Ln σ g f s':=by
 let(e,T,C,p,H',rfl,i,c,un,hok,x,j,k,l,n,m,_,q):=h;let r:Inv X Ln σ H' s':=I.call' (ch:=[]) i un hok c λb z=>Lr z (by simp)
 let a:=I.newAt d j;let b:=I.newAt d k;calc⟨e,T,C,p,H',U,r,x,⟨a.ent,l,a.loc,a.cel,a.pin⟩,⟨b.ent,n,b.loc,b.cel,b.pin⟩,o _ _ _ q⟩
end
variable{k:Nat}{x:Str}{ps:Ly Str}{sp:Sp}{pos:Pos}
section
variable{e:Ij}{es:Ly Ij}{t:TA}{p:Pos}
def Ek(sp:Sp)(t:TA):TX:=λσ H Q e=>t σ H λa d=>sp a d Q λb _ c=>∃C,b=.ref C/\e C c
theorem ub(C:bN X.prog X.w X.K X.mg X.base k x ps sp)(y:bT k X.A)(v:X.ex=[])(D:Gl X x)(G:PA X.nox (e :: es) t)(i:(x == ("__debug__" : Str))=false:=by decide)
  (he:Im (e :: es) X.env=(Ll,eval e X.env) :: Im es X.env:=by rfl)(g:(Il pos<|Im es X.env).any (·.1)=false:=by rfl):PEX X (.Call (.Name x p) (e :: es) [] pos) (Ek sp t):=by
 let(f,L,F,b,o,m):=C;intro Ln s σ H Q R I h;calc HM<|dH I D m ?_ i;calc W.callWith_K (h₀:=X.base) I.ok.mod.kin o (Ip (G pos Ln s σ H _ (I.wish _) h) (λa d ⟨n,l,j,r,q⟩=>⟨j.kIn,?_⟩) λ_ _ z=>False.elim z) he g;let J:Inv X Ln σ l d:=j.unwish;let B:⇑a=⇑ps:=by rw[←⇑r];exact F.len _ _ _ _ q
 let O:Jg d L ⟨a,[]⟩ (ps.zip a):=by
  let z:=b d a J.kIn (by rw[jk];exact B);rw[jk]at z;exact z
 calc Ji<|Jj (F.run X.A X.stack d l ⟨a,[]⟩ a n Q _ y J.env0 O r q) λr S c=>?_;cases r with
 |error T=>exact J.afterX (E:=λN _ P=>∃C,N=.ref C/\R C P) v (λC m V z=>by let(Y,M,z):=z;cases M;exact z) c
 |ok fl =>
  cases fl with
  |ret u=>exact J.after c
  |next=>exact False.elim c
  |brk=>exact False.elim c
  |cont=>calc False.elim c
abbrev TSX:=Ends->St->Hp->(HR->Hp->Prop)->Prop
def PSX(X:Cx)(st:Io)(t:TSX):Prop :=
 ∀(Ln:Ly (HR×Obj))(s:Ib)(σ:St)(H:Hp)(D:Ends)(a:HR->Hp->Prop),Inv X Ln σ H s->t D σ H a->Ih (model X.prog X.w) X.A (exec st X.env) (SP X Ln D) (XP X Ln σ a) s
def Bw(a:TX):TSX:=λD σ H c=>a σ H (λ_ b=>D.nx σ b) c
theorem mW{e:Ij}{a:TX}(d:PEX X e a)(c:IA e Li pos.line X.env=pure false:=by rfl):PSX X (.Expr e pos) (Bw a):=by
 intro Ln s σ H D i I h;calc IB (thn (d Ln s σ H _ i I h) λv j ⟨x,g,f,k,b⟩=>⟨σ,g,f,b⟩) I.quiet c
end
def sfx(X:Cx)(e:HR)(oe:Obj):Cx:={ X with A:=X.A.mark<|↑e,calm:=Ll,pn:=(e,oe) :: X.pn,xe:=λ_ _=>False }
section
variable{s':Ib}
theorem Inv.suite(I:Inv X Ln σ H s)(d:s.heap.get? e=Lh oe)(b:ie X Ln H e)(f:∀v,oe.data≠.cell v)(c:e ∉ X.fs):Inv (sfx X e oe) Ln σ H s:=by
 calc⟨⟨I.ok.mod,I.ok.kind,I.ok.glob,I.ok.blt,I.ok.above,I.ok.inj,I.ok.has,I.ok.cab,λz=>Lr z Bool.false_ne_true,I.ok.frames,I.ok.stk,I.ok.exf,I.ok.bs,I.ok.bsz,I.ok.noex,I.ok.exfs,I.ok.funs,I.ok.frf⟩,I.os,I.bare,I.base,I.loc,I.cell,I.free,I.freeC,λp a=>?_,I.hok,I.len⟩;rcases bW.mp (show p∈(e,oe) :: (X.pn++Ln)from a)with rfl|a
 .exact⟨d,b.unt,b.loc,c,f⟩
 .exact I.pin p a
def Inv.unsuite(ok:X.Ok)(I:Inv (sfx X e oe) Ln σ H s):Inv X Ln σ H s :=
 ⟨ok,I.os,I.bare,I.base,I.loc,I.cell,I.free,I.freeC,λp a=>I.pin p<|iE (e,oe) a,I.hok,I.len⟩
end
section
variable{st b₀:Io}{su:Ly Io}{tb:TSX}{ts:HR->HR->TS}{Tn n:Str}{B:HR}{np CQ:Pos}
end
structure vc(K:W.Frag)(C:HR):Prop where
 ga:W.findIn K (.ref C) "__getattribute__" = Lh (Lh<|.builtin "BaseException.__getattribute__")
 hk:W.findIn K (.ref C) "__getattr__" = Lh Li
 cl:W.findIn K (.ref C) "__class__" = Lh (Lh<|.builtin "object.__class__")
 gt:W.specialIn K (.builtin "object.__class__") "__get__" = Lh (Lh<|.builtin "getset_descriptor.__get__")
 tk:W.takesIn K (.builtin "object.__class__")=Lh Lj
 ob:W.mroIn K C (.type "object")=Lh Lj
 be:W.mroIn K C (.type "BaseException")=Lh Lj
 me:W.kitCls K (.ref C) (.ref C)=Lh Lj
variable{C:HR}
theorem rz{P:HQ}{w:HP}{X:Cx}:Passes (CX1 P w) X E0:=λ_ _ _ _ _ _ _ h=>by
 let(_,_,_,_,_,_,_,_,_,_,_,_,_,_,_,_,_,q):=h;calc False.elim q
def bD(CX:CXT)(P:HQ)(w:HP)(K:W.Frag)(mg:Str->Option HN)(base:HS)(k:Nat)(C:HR)(m:Str)(ps:Ly Str)(sp:Sp):Prop :=
 ∃f a,Meth K C m f/\aK P w K mg base CX k f a ps sp/\Binds K a ps []
def bw(CX:CXT)(P:HQ)(w:HP)(K:W.Frag)(mg:Str->Option HN)(base:HS)(k:Nat)(x:Str)(C:HR)(ps:Ly Str)(sp:Sp):Prop :=
 ∃f a,Mk K C f/\aK P w K mg base CX k f a ps sp/\Binds K a ps []/\mg x=↑C
structure CS(K:W.Frag)(B:HR)(m:Str)(f:HR):Prop where
 sp:W.specialIn K (.ref B) "__getattribute__" = Lh (Lh<|.builtin "type.__getattribute__")
 rd:W.readsIn K B (.type "type")=Lj
 at_:W.findCls K (.ref B) (.type "type") m=Lh (.val<|.ref f)
 kp:W.keepIn K (.ref f)=Lj
def cw(CX:CXT)(P:HQ)(w:HP)(K:W.Frag)(mg:Str->Option HN)(base:HS)(k:Nat)(x:Str)(m:Str)(ps:Ly Str)(sp:Sp):Prop :=
 ∃f a B,CS K B m f/\aK P w K mg base CX k f a ps sp/\Binds K a ps []/\mg x=↑B
section
variable{CX:CXT}{mg:Str->Option HN}{j:Nat}{m:Str}
theorem bD.mono(c:bD CX P w K mg base j C m ps sp)(h:j<=k):bD CX P w K mg base k C m ps sp:=by
 let(f,a,M,F,b):=c;calc⟨f,a,M,F.mono h,b⟩
theorem bw.mono(c:bw CX P w K mg base j x C ps sp)(h:j<=k):bw CX P w K mg base k x C ps sp:=by
 let(f,a,M,F,b):=c;calc⟨f,a,M,F.mono h,b⟩
theorem cw.mono(c:cw CX P w K mg base j x m ps sp)(h:j<=k):cw CX P w K mg base k x m ps sp:=by
 let(f,a,B,M,F,b):=c;calc⟨f,a,B,M,F.mono h,b⟩
end
inductive CT(C:HR)(m:Str)(sp:Sp)(t:TA)(σ:St)(Q:VK)(x:V)(H1:Hp):Prop
 |mk (a dx fs:_)(_:x=.ref a)(_:H1 a=Lh (.ins C dx fs))(_:fs.lookup m=Li)(_:t σ H1 λvs H2=>sp (x :: vs) H2 Q E0)
def tMt(C:HR)(m:Str)(sp:Sp)(a:TE)(t:TA):TE:=λσ H Q=>a σ H λx b=>CT C m sp t σ Q x b
def tMk(C:HR)(sp:Sp)(t:TA):TE:=λσ H Q=>t σ H λc b=>∀x a,b x=Li->b a=Li->a≠x ->
 sp (.ref x :: c) (upd (upd b a<|.own x) x<|.ins C a []) (λv d=>v=.non/\Q (.ref x) d) E0
section
variable{CX:CXT}{f:HR}{fd:Jf}{m:Str}{p np apos:Pos}{e o:Ij}{es:Ly Ij}{ta:TE}{t:TA}
theorem zm{Ln:Ly (HR×Obj)}{σ:St}{H:Hp}{s:Ib}{Q:VK}{us:Ly HN}{vs:Ly V}{E:XK}(F:aK X.prog X.w X.K X.mg X.base CX k f fd ps sp)(b:bT k X.A)(c:Binds X.K fd ps [])(a:Passes CX X E)
  (I:Inv X Ln σ H s)(r:Vals vs us)(h:sp vs H Q E):Ih (model X.prog X.w) X.A (call (.ref f) us) (EP X Ln σ Q) X.xe s :=
 tU (dvs:=[]) (ds:=[]) F b c .nil a I r (by rw[jk];exact h)
theorem pK{pl:Sem Bool}(M:bD CX X.prog X.w X.K X.mg X.base k C m ps sp)(z:Passes CX X E0)(c:Cls X.K C)(D:bT k X.A)(E:PE X o ta)(J:PA X (e :: es) t)
  (b:Im (e :: es) X.env=(Ll,eval e X.env) :: Im es X.env:=by rfl)(d:(Il pos<|Im es X.env).any (·.1)=false:=by rfl)
  (B:eval (.Call (.Attribute o m apos) (e :: es) [] pos) X.env=(do
   let g ←eval o X.env
   Iv apos.atName
   let (f,first) ←holding [g] (IZ g m pl)
   JT pos f first (Il pos<|Im (e :: es) X.env) (Jy pos<|Jz [] X.env)):=by rfl) :
  PE X (.Call (.Attribute o m apos) (e :: es) [] pos) (tMt C m sp ta t):=by
 let(f,fd,i,F,G):=M;intro Ln s σ H Q I h;calc W.methodCall_KW (pl:=pl) (thn (E Ln s σ H _ I h) λu p ⟨x,O,n,v,a,P,fs,L,N,l,q⟩=>?_) B;subst L;obtain rfl:u=HN.ref a:=v;calc mP n N c i l ?_;calc W.callWith_K (first:=[.ref a]) (h₀:=X.base) I.ok.mod.kin i.kp (thn (J pos Ln p σ O _ n q) λus s2 ⟨vs,R,j,r,y⟩=>⟨j.kIn,?_⟩) b d;calc zm (us:=.ref a :: us) (vs:=.ref a :: vs) F D G z j (.cons U r) y
theorem fO{pl:Sem Bool}(M:cw CX X.prog X.w X.K X.mg X.base k x m ps sp)(l:Passes CX X E0)(o:bT k X.A)(q:Gl X x)(y:PA X (e :: es) t)(d:(x == ("__debug__" : Str))=false:=by decide)
  (b:Im (e :: es) X.env=(Ll,eval e X.env) :: Im es X.env:=by rfl)(c:(Il pos<|Im es X.env).any (·.1)=false:=by rfl)
  (n:eval (.Call (.Attribute (.Name x np) m apos) (e :: es) [] pos) X.env=(do
   let g ←eval (.Name x np) X.env
   Iv apos.atName
   let (f,first) ←holding [g] (IZ g m pl)
   JT pos f first (Il pos<|Im (e :: es) X.env) (Jy pos<|Jz [] X.env)):=by rfl) :
  PE X (.Call (.Attribute (.Name x np) m apos) (e :: es) [] pos) (tFn sp t):=by
 let(f,fd,B,a,F,u,p):=M;intro Ln s σ H Q I h;calc W.methodCall_KW (pl:=pl) (dH I q p ?_ d) n;calc W.method_cls I.kIn a.sp<|W.cls_value (mc:=.type "type") I.kIn a.rd a.at_ (pq (v:=.ref f) U) ?_;calc W.callWith_K (first:=[]) (h₀:=X.base) I.ok.mod.kin a.kp (thn (y pos Ln _ σ H _ (I.tok _) h) λus s2 ⟨vs,z,i,r,j⟩=>⟨i.kIn,?_⟩) b c;calc zm (us:=us) (vs:=vs) F o u l i r j
theorem mZ(M:bw CX X.prog X.w X.K X.mg X.base k x C ps sp)(l:Passes CX X E0)(m:bT (k+1) X.A)(o:Gl X x)(u:PA X (e :: es) t)(i:(x == ("__debug__" : Str))=false:=by decide)
  (he:Im (e :: es) X.env=(Ll,eval e X.env) :: Im es X.env:=by rfl)(g:(Il pos<|Im es X.env).any (·.1)=false:=by rfl) :
  PE X (.Call (.Name x p) (e :: es) [] pos) (tMk C sp t):=by
 let(f,fd,M,F,r,n):=M;let h:=zg (E:=E0) (dvs:=[]) (ds:=[]) (p:=p) M F m o n r .nil l u i he g;intro Ln s σ H Q I q;calc h Ln s σ H Q I ?_;let j:t σ H λc b=>∀x a,b x=Li->b a=Li->a≠x->sp (.ref x :: c) (upd (upd b a<|.own x) x<|.ins C a []) (λv d=>v=.non/\Q (.ref x) d) E0:=q
 show t σ H λc b=>∀x a,b x=Li->b a=Li->a≠x->sp (.ref x :: (c++[])) (upd (upd b a<|.own x) x<|.ins C a []) (λv d=>v=.non/\Q (.ref x) d) E0
 let y:(λ(c:Ly V)(b:Hp)=>∀x a,b x=Li->b a=Li->a≠x->sp (.ref x :: (c++[])) (upd (upd b a<|.own x) x<|.ins C a []) (λv d=>v=.non/\Q (.ref x) d) E0)=λc b=>∀x a,b x=Li->b a=Li->a≠x->sp (.ref x :: c) (upd (upd b a<|.own x) x<|.ins C a []) (λv d=>v=.non/\Q (.ref x) d) E0:=by
  funext c b
  rw[jk]
 rw[y];calc j
end
inductive Bx(K:W.Frag)(neg:Bool)(x:V)(y:V)(H:Hp)(Q:VK):Prop
 |mk (a b xs ys:_)(_:x=.ref a)(_:y=.ref b)(_:SqT K H a xs)(_:SqT K H b ys)(f:Nat->Bool)(_:(∀j x y,xs[j]?=Lh x->ys[j]?=Lh y->EqI K H x y (f j)))(_:Q (.bl (if neg then !((List.range<|min ⇑xs ⇑ys).all f && ⇑xs == ⇑ys) else(List.range<|min ⇑xs ⇑ys).all f && ⇑xs == ⇑ys)) H)
theorem By{k:Nat}(o:bT k X.A):OpR X (IV .NotEq) (Bx X.K Lj):=by
 intro Ln s σ H x y v u Q I j i h;let(a,b,D,C,rfl,rfl,B,z,f,t,q):=h;cases (show v=HN.ref a from j);cases (show u=HN.ref b from i);let(d,r,p,_):=I.tuple B;let(c,g,l,_):=I.tuple z;let n:=⇑r;let m:=⇑g;let E:=o.units;refine SeqAt.RcNeAt.tuples (e:=f) (show s.heap.IsTuple a d.toArray from p) (show s.heap.IsTuple b c.toArray from l) ∅ (xx I (by show X.A.units+1+1<Jd;lia) r g t) X.prog X.w X.xe _ ⟨.bl _,H,I,U,?_⟩;simp only[dV];rw[←n,←m];calc q
def aK.no{P:HQ}{w:HP}{K:W.Frag}{mg:Str->Option HN}{base:HS}{CX:CXT}{k:Nat}{f:HR}{a:Jf}{ps:Ly Str}{sp:Sp}(h:∀vs H Q E,¬ sp vs H Q E):aK P w K mg base CX k f a ps sp :=
 ⟨λvs H Q E q=>(h vs H Q E q).elim,λ_ _ _ H _ _ vs Q E _ _ _ _ q=>(h vs H Q E q).elim⟩
def mE{X:Cx}{K:W.Frag}{e:Ij}{f:Str}{pos:Pos}{a:TE}(h:X.K=K)(b:PE X e a)(c:Jb e f X.env (eval e X.env)=eval e X.env):PE X (.Attribute e f pos) (CG K a f):=h ▸ cc b c
set_option maxRecDepth 100000
inductive DEq(K:W.Frag)(H:Hp):Nat->V->V->Bool->Prop where
 |flat {n:Nat}{x y:V}(fx:gj x=Lj)(fy:gj y=Lj):DEq K H n x y (eqV x y)
 |same {n:Nat}(a:HR):DEq K H n (.ref a) (.ref a) Lj
 |lst {n:Nat}{a b:HR}{xs ys:Ly V}{f:Nat->Bool}(ne:a≠b)(ha:SqL K H a xs)(hb:SqL K H b ys)(hl:⇑xs=⇑ys)(h:∀(j:Nat)(x y:V),xs[j]?=Lh x->ys[j]?=Lh y->DEq K H n x y (f j)):DEq K H (n+1) (.ref a) (.ref b) ((List.range ⇑xs).all f)
 |lst_ne {n:Nat}{a b:HR}{xs ys:Ly V}(ne:a≠b)(ha:SqL K H a xs)(hb:SqL K H b ys)(hl:⇑xs≠⇑ys):DEq K H (n+1) (.ref a) (.ref b) Ll
 |tup {n:Nat}{a b:HR}{xs ys:Ly V}{f:Nat->Bool}(ne:a≠b)(ha:SqT K H a xs)(hb:SqT K H b ys)(h:∀(j:Nat)(x y:V),xs[j]?=Lh x->ys[j]?=Lh y->DEq K H n x y (f j)):DEq K H (n+1) (.ref a) (.ref b) ((List.range<|min ⇑xs ⇑ys).all f && ⇑xs == ⇑ys)
theorem DEq.mono{K:W.Frag}{H:Hp}{n m:Nat}{x y:V}{b:Bool}(e:DEq K H n x y b)(h:n<=m):DEq K H m x y b:=by
 induction e generalizing m with
 |flat q p=>exact .flat q p
 |same a=>exact .same a
 |lst c f d i _ g =>
  let(m,rfl):∃k,m=k+1:=⟨m-1,∅⟩;exact .lst c f d i λj x y o l=>g j x y o l ∅
 |lst_ne c f d i =>
  let(m,rfl):∃k,m=k+1:=⟨m-1,∅⟩;exact .lst_ne c f d i
 |tup c f d _ g =>
  let(m,rfl):∃k,m=k+1:=⟨m-1,∅⟩;calc .tup c f d λj x y o l=>g j x y o l ∅
theorem fY{xs:Ly V}{a:Ly HN}(r:Vals xs a){j:Nat}(h:j<a.toArray.size):∃x,xs[j]?=Lh x/\RelV x a.toArray[j]:=by
 let f:j<⇑a:= ~~~h
 let i:=⇑r;let b:xs[j]?=Lh xs[j]:=HF ∅;let(d,c,e):=r.get b;let g:a.toArray[j]=d:=by
  let:=HF f;rw[this]at c;simpa using Option.some.inj c
 calc⟨xs[j],b,g ▸ e⟩
theorem DEq.at{n:Nat}{x y:V}{b:Bool}(e:DEq X.K H n x y b)(I:Inv X Ln σ H s):∀{A:Ia}{u v:HN},A.units+n<Jd->RelV x u->RelV y v->SeqAt.EqAt A s u v b:=by
 induction e with
 |flat G F=>intro A u v o i g;exact tW i g G F
 |same a =>
  intro A u v o i g;cases (show u=HN.ref a from i);cases (show v=HN.ref a from g);exact SeqAt.EqAt.same _
 | @lst n a b xs ys f ne ha hb hl h ih =>
  intro A u v o i g;cases (show u=HN.ref a from i);cases (show v=HN.ref b from g);let(d,r,p,_):=I.list ha;let(c,k,l,_):=I.list hb;let E:=⇑r;let D:=⇑k;let m:=SeqAt.RcAt.lists (A:=A) (e:=f) p.isList l.isList (by simp only[dV];lia) ∅ (λj z w=>by
   let(x,C,t):=fY r z;let(y,B,q):=fY k w;exact ih j x y C B (by show A.units+1+n<Jd;lia) t q)
  rw[show d.toArray.size=⇑xs by simp only[dV];lia]at m;exact SeqAt.EqAt.of_refs ne m
 | @lst_ne n a b xs ys ne ha hb hl =>
  intro A u v o i g;cases (show u=HN.ref a from i);cases (show v=HN.ref b from g);let(d,r,p,_):=I.list ha;let(c,k,l,_):=I.list hb;let E:=⇑r;let D:=⇑k;exact SeqAt.EqAt.of_refs ne<|SeqAt.RcAt.lists_lengths p.isList l.isList (by simp only[dV,bne_iff_ne,ne_eq];lia) ∅
 | @tup n a b xs ys f ne ha hb h ih =>
  intro A u v o i g;cases (show u=HN.ref a from i);cases (show v=HN.ref b from g);let(d,r,p,_):=I.tuple ha;let(c,k,l,_):=I.tuple hb;let E:=⇑r;let D:=⇑k;let m:=SeqAt.RcAt.tuples (A:=A) (e:=f) (show s.heap.IsTuple a d.toArray from p) (show s.heap.IsTuple b c.toArray from l) ∅ (λj z w=>by
   let(x,C,t):=fY r z;let(y,B,q):=fY k w;exact ih j x y C B (by show A.units+1+n<Jd;lia) t q)
  rw[show d.toArray.size=⇑xs by simp only[dV];lia,show c.toArray.size=⇑ys by simp only[dV];lia]at m;calc SeqAt.EqAt.of_refs ne m
inductive rA(K:W.Frag)(neg:Bool)(x:V)(y:V)(H:Hp)(Q:VK):Prop
 |mk (a b xs ys:_)(_:x=.ref a)(_:y=.ref b)(_:SqL K H a xs)(_:SqL K H b ys)(_:((⇑xs≠⇑ys/\Q (.bl neg) H)\/(⇑xs=⇑ys/\∃f:Nat->Bool,(∀(j:Nat)(x y:V),xs[j]?=Lh x->ys[j]?=Lh y->DEq K H 60 x y (f j))/\Q (.bl (if neg then !(List.range ⇑xs).all f else(List.range ⇑xs).all f)) H)))
theorem vd{Ln:Ly (HR×Obj)}{σ:St}{H:Hp}{s:Ib}{A:Ia}{xs ys:Ly V}{a its':Ly HN}{f:Nat->Bool}(I:Inv X Ln σ H s)(h:A.units+60<Jd)(r:Vals xs a)(d:Vals ys its')
  (hf:∀(j:Nat)(x y:V),xs[j]?=Lh x->ys[j]?=Lh y->DEq X.K H 60 x y (f j)):∀j (c:j<a.toArray.size)(b:j<its'.toArray.size),SeqAt.EqAt A s a.toArray[j] its'.toArray[j] (f j):=λj c b=>by
 let(x,k,g):=fY r c;let(y,i,e):=fY d b;calc(hf j x y k i).at I h g e
theorem ve{k:Nat}(n:bT k X.A):OpR X (IV .Eq) (rA X.K Ll):=by
 intro Ln s σ H x y v u Q I m l h;let(a,b,j,z,rfl,rfl,w,t,h):=h;cases (show v=HN.ref a from m);cases (show u=HN.ref b from l);let(c,r,p,_):=I.list w;let(i,d,g,_):=I.list t;let C:=⇑r;let B:=⇑d;let D:=n.units;rcases h with⟨E,q⟩|⟨F,f,o,q⟩
 .refine SeqAt.eq_list_lengthsAt p.isList g.isList (by simp only[dV,bne_iff_ne,ne_eq];lia) ∅ ⟨.bl Ll,H,I,U,q⟩
 .refine SeqAt.eq_listAt (e:=f) p.isList g.isList (by simp only[dV];lia) ∅ (vd I (by show X.A.units+1+60<Jd;lia) r d o) ⟨.bl _,H,I,U,?_⟩;rw[show c.toArray.size=⇑j by simp only[dV];lia];calc q
theorem vf{k:Nat}(n:bT k X.A):OpR X (IV .NotEq) (rA X.K Lj):=by
 intro Ln s σ H x y v u Q I m l h;let(a,b,j,B,rfl,rfl,z,t,h):=h;cases (show v=HN.ref a from m);cases (show u=HN.ref b from l);let(c,r,p,_):=I.list z;let(i,d,g,_):=I.list t;let D:=⇑r;let C:=⇑d;let E:=n.units;rcases h with⟨F,q⟩|⟨G,f,o,q⟩
 .refine SeqAt.RcNeAt.lists_lengths p.isList g.isList (by simp only[dV,bne_iff_ne,ne_eq];lia) ∅ X.prog X.w X.xe _ ⟨.bl Lj,H,I,U,q⟩
 .refine SeqAt.RcNeAt.lists (e:=f) p.isList g.isList (by simp only[dV];lia) ∅ (vd I (by show X.A.units+1+60<Jd;lia) r d o) X.prog X.w X.xe _ ⟨.bl _,H,I,U,?_⟩;rw[show c.toArray.size=⇑j by simp only[dV];lia];exact q
set_option maxRecDepth 100000
section
variable{tg:Ij}
inductive uc(K:W.Frag)(x:V)(y:V)(H:Hp)(Q:VK):Prop
 |mk (a b xs ys:_)(_:x=.ref a)(_:y=.ref b)(_:SqT K H a xs)(_:SqT K H b ys)(_:⇑xs+⇑ys<=HU)(_:(xs=[]->Q (.ref b) H))(_:(xs≠[]->ys=[]->Q (.ref a) H))(_:(xs≠[]->ys≠[]->∀p,H p=Li->Q (.ref p) (upd H p<|.tup<|xs++ys)))
theorem xH:OpR X (IS .Add) (uc X.K):=by
 intro Ln s σ H x y v u Q I o m h;let(a,b,l,A,rfl,rfl,w,t,O,G,E,D):=h;by_cases c:l=[]
 .cases o;cases m;let(d,C,L,_):=I.tuple w;let(M,S,J,_):=I.tuple t;let P:d=[]:=C.nil_iff.mpr c;let((R,dd,z,B),p,r,n,q):=id L;let((T,j,k,i),e,g,N,f):=id J;simp only at r q g f;subst r q g f
  exact Jp ⟨_,p,U⟩ ⟨_,e,U⟩ Jq Jr PySem.F.slot_tuple_add PySem.F.entry_tuple_add (PySem.F.args_tuple_add_2 _ _)
   (tuple_addW0 a b d.toArray M.toArray n N dd j B i (by simp[P])) ⟨p,e,⟨.ref b,H,I,U,G c⟩⟩
 .exact zi Ln s σ H (.ref a) (.ref b) v u Q I o m ⟨a,b,l,A,U,U,w,t,c,O,E c,D c⟩
end
end _L
namespace HT
open PySem PyProof.Rows
section
open PySem.SeqAt
open PySem.AutoSeq1 (wpAny_loadPart')
open PySem.MeetsSeq PySem.MeetsSeq2 PySem.MeetsSeq3
end
end HT
namespace _L
open PySem PySem.Spec PyProof.Rows
section
variable{X:Cx}
end
end _L
namespace HT
open PySem PyProof.Rows
section
open PySem.SeqAt
open PySem.AutoSeq1 (wpAny_loadPart')
open PySem.MeetsSeq PySem.MeetsSeq2 PySem.MeetsSeq3
end
end HT
namespace _L
open PySem PySem.Spec PyProof.Rows
variable{X:Cx}
variable{prog:HQ}{w:HP}{A:Ia}{E:HN->Ib->Prop}{s:Ib}
section
variable{κ:Type} [DecidableEq κ]
def cntK(ks:Ly κ):Nat->Nat
 |0=>0
 |i+1=>match ks[i]? with
  |some k=>if k∈ks.take i then cntK ks i else cntK ks i+1
  |none=>cntK ks i
theorem kz(ks:Ly κ):∀i,cntK ks i<=i
 |0=>xX _
 |i+1=>by
  let a:=kz ks i;unfold cntK;split
  .split <;> lia
  .lia
theorem lG(ks:Ly κ):∀i,i<=⇑ks->(cntK ks i=i↔(ks.take i).Nodup)
 |0,_=>by simp[cntK]
 |i+1,h=>by
  let c:=lG ks i ∅;let le:=kz ks i;let e:ks[i]?=Lh ks[i]:=HF ∅;let g:ks.take (i+1)=ks.take i++[ks[i]]:=by rw[oH,e];rfl
  unfold cntK;rw[e,g,wt];dsimp only;by_cases m:ks[i]∈ks.take i
  .rw[Lq m];exact⟨λz=>Lr z ∅,λz=>Lr U<|z.2.2 _ m _ (by simp)⟩
  .rw[Lp m];refine⟨λz=>⟨c.mp ∅,by simp,λa f b d=>?_⟩,λz=>by rw[c.mpr z.1]⟩;rw[show b=ks[i] by simpa using d];calc λq=>m<|q ▸ f
variable{knd:KeyKind prog w κ}
theorem gG{h h':HS}{a:HR}{S:κ->Bool}{n:Nat}(x:h.SetOf knd a S n)(k:∀o,h.get? a=Lh o->h'.get? a=Lh o):h'.SetOf knd a S n:=by
 let(o,c,d,t,b,r):=x;calc⟨o,c,d,t,k o b,r⟩
def m3{h:HS}{a:HR}{S c:κ->Bool}{n b:Nat}(x:h.SetOf knd a S n)(e:S=c)(d:n=b):h.SetOf knd a c b:=e ▸ d ▸ x
theorem vT{R:I0->Ib->Prop}{I:HR}{H h:Ly HR}{G:Array Ie->Array Ie->Prop}{n:Nat}{P:Nat->HN->Prop}{St:Nat->Ib->Prop}(W:JU prog w A.in1 I H h G n P St){a:HR}(E:a ∉ H){ks:Ly κ}
  (S:∀i v,P i v->∃k,ks[i]?=Lh k/\knd.is k v=Lj/\v.scannable=Lj)(g:n+1<JV):∀(d i:Nat)(s:Ib),n=i+d->St i s->s.heap.SetOf knd a (λk=>decide<|k∈ks.take i) (cntK ks i) ->
   (∀s',JW (a :: h) G s s'->s'.heap.SetOf knd a (λk=>decide<|k∈ks.take n) (cntK ks n)->R (.ok<|.ret .none) s')->Ja (model prog w) A (.builtin "set.update.loop" ⟨[.ref a,.ref I],[]⟩) R s:=by
 let D:a ∉ h:=λz=>E<|W.sub a z
 intro d;induction d with
 |zero =>
  intro i s e j x c;rw[show n=i by lia]at W c;calc JX (R:=R) (A:=A) F.entry_set_update_loop ?_;rw[Ia.under_plainId (A:=A) F.plain_set_update_loop _];show Ih (model prog w) A.in1 (II (.ref I) >>= _) _ _ s;exact HJ<|W.done s _ _ j λs' m=>HK<|c s' (m.mono λb g=>iE a g)<|gG x λo q=>m.heap a o D q
 |succ d Q =>
  intro i s e j x c;calc JX (R:=R) (A:=A) F.entry_set_update_loop ?_;rw[Ia.under_plainId (A:=A) F.plain_set_update_loop _];show Ih (model prog w) A.in1 (II (.ref I) >>= _) _ _ s;calc HJ<|W.item i s _ _ ∅ j λv f p r m=>?_;let(k,J,C,N):=S i v p;let M:=gG x λo q=>m.heap a o D q
  show Ih (model prog w) A.in1 (holding [v] (JY a v) >>= _) _ _ f;refine HJ<|HL (show Ih (model prog w) A.in1 (JY a v) _ _ f from ?_);unfold JY;calc HL<|HJ<|knd.pyHash C ?_;let le:=kz ks i;refine wpAny_setAddHashed_of (knd:=knd) (s:={ f with toks:=f.toks+1 }) C N M ∅ λl B L=>?_
  let T:ks.take (i+1)=ks.take i++[k]:=by rw[oH,J];rfl
  let x3:l.SetOf knd a (λq=>decide<|q∈ks.take (i+1)) (cntK ks<|i+1):=by
   refine m3 L (funext λq=>?_) ?_
   .rw[T];by_cases z:q∈ks.take i <;> by_cases y:q=k <;> simp[z,y]
   .show(if decide (k∈ks.take i)=Lj then cntK ks i else cntK ks i+1)=match ks[i]? with|some k=>if k∈ks.take i then cntK ks i else cntK ks i+1|none=>cntK ks i
    rw[J];by_cases z:k∈ks.take i <;> simp[z]
  calc HK ⟨JZ F.plain_set_update_loop _,Q (i+1) { f with heap:=l,toks:=f.toks+1 } ∅ (W.frame (i+1) f l (f.toks+1) r (Ar _) λb u o q=>(B.2 b λz=>E<|z ▸ u).trans q) x3 λs2 O K=>?_⟩;calc c s2 (JW.trans W.gtrans ((m.mono λb g=>iE a g).then_heap (Ar _) λb o t q=>?_) O) K;calc(B.2 b λz=>t<|z ▸ fH).trans q
abbrev dz(led:Bool):Obj:={ cls:=.type "set",dict:=Li,data:=.set #[] 0 (.fresh 0 0 led) }
def Filled(knd:KeyKind prog w κ)(s:Ib)(ks:Ly κ)(h':HS):Prop :=
 h'.SetOf knd ↥s (λk=>decide<|k∈ks) (cntK ks ⇑ks)/\∀b o,b<↥s->s.heap.get? b=Lh o->h'.get? b=Lh o
theorem xI{l:HR}{a:Array HN}{ks:Ly κ}{led:Bool}(I:A.handled=Li)(G:s.heap.IsList l a)(H:∀(i:Nat)(v:HN),a[i]?=Lh v->∃k,ks[i]?=Lh k/\knd.is k v=Lj/\v.scannable=Lj)(D:⇑ks=a.size)(J:a.size+1<JV) :
  Ja (model prog w) A (.call (.builtin "set.__init__") ⟨[.ref ↥s,.ref l],[]⟩) (wants (λr s2=>r=.none/\∃h' p,s2={ s with heap:=h',toks:=p }/\Filled knd s ks h') E) { s with heap:=s.heap.push (dz led) }:=by
 let n:(s.heap.push<|dz led).get? ↥s=Lh (dz led):=HS.get?_push_size s.heap U;let ty:Ib.TypeIs { s with heap:=s.heap.push (dz led) } (.ref ↥s) "set" := ⟨dz led,n,U⟩;calc Ka F.called_set.init.plain F.entry_set_init<|Kb ty ?_;let((V,P,T,O),g,j,m,h):=G;dsimp only at j h;subst j h;let L:(s.heap.push<|dz led).get? l=Lh { cls:=.type "list",dict:=P,data:=.seq a m,slots:=O }:=HS.get?_push_of_some _ g;let S:=F.sub_list_set;let R:=F.sub_list_frozenset;let Q:(HN.type "list" == HN.type "dict")=false:=⋯
 let f:(s.heap.push<|dz led).IsList l a:=⟨_,L,U,m,U⟩;let lt:l<↥s:=HS.lt_size g;unfold IP.«set.__init__» IP.Frozenset.updateFrom noKeywords;generalize K:IK=it
 wp_walk
 subst K;calc IM f<|HJ<|Kc ?_;let B:l≠(s.heap.push<|dz led).objs.size:=by rw[HS.size_push];exact yl<|zp lt
 let C:↥s ∉ [(s.heap.push<|dz led).objs.size,l]:=by
  rw[HS.size_push];intro z;rcases bW.mp z with z|z
  .exact Lr z<|yl<|A9 _
  .exact Lr (~~~z)<|zl lt
 refine vT (knd:=knd) ((Walks.list (by simp[I]) _ l B a).toS) C (ks:=ks) H J a.size 0 _ (Cq _).symm ⟨⟨_,HS.get?_push_size _ U,U,U⟩,f.push _⟩ (m3 ((setObjOf_fresh (knd:=knd) led).setOf (HS.get?_push_of_some _ n) (by unfold JV;lia)) (funext λk=>by simp) U) λu d x=>?_
 let(h',M,N,t,y):=u;obtain rfl:M=s.gens:=d.gens;obtain rfl:N=s.drawn:=d.drawn;obtain rfl:y=s.os:=d.os;refine HK (show Ih (model prog w) _ (ret HN.none) _ _ _ from HK ⟨U,h',t,U,?_,λb o c q=>?_⟩)
 .rw[←D]at x;exact m3 x (funext λk=>by rw[gd]) U
 .refine d.heap b o (λz=>?_)<|HS.get?_push_of_some _<|HS.get?_push_of_some _ q;rcases bW.mp z with z|z
  .exact Lr z<|yl c
  .let e:b=(s.heap.push<|dz led).objs.size:= ~~~z
   rw[HS.size_push]at e;exact Lr e (yl<|zp c)
set_option maxRecDepth 100000 in
theorem pM{l:HR}{a:Array HN}{ks:Ly κ}{Q:HN->Ib->Prop}(t:A.handled=Li)(p:s.heap.IsList l a)(q:∀(i:Nat)(v:HN),a[i]?=Lh v->∃k,ks[i]?=Lh k/\knd.is k v=Lj/\v.scannable=Lj)(o:⇑ks=a.size)(u:a.size+1<JV)
  (h:∀h' f,Filled knd s ks h'->Q (.ref ↥s) { s with heap:=h',toks:=f }):Ih (model prog w) A (call (.type "set") [.ref l]) Q E s:=by
 let(c,B,mro):=F.called_set.mro;let J:=F.called_set.made;let I:=F.called_set.sub;let H:=F.called_set.notType;let G:=F.called_set.canCreate;let D:=F.typeCall_set_1<|.ref l;refine Ji<|Kd (show Ih (model prog w) _ (callAny (.type "set") _) _ _ _ from HK ⟨Je.quiet_builtin _<|~~~0,JX F.entry_type_call ?_⟩);rw[Ia.under_plain (A:=A) (Ke "set" [.ref l] []) U]
 repeat (any_goals (first|assumption|wp_step))
 refine Jj (code_set_new_1 (.ref l) (E:=E) (Q₁:=λm j=>∃b,m=.ref ↥s/\j={ s with heap:=s.heap.push (dz b) }) λb=>⟨b,U,U⟩) λr j g=>?_
 cases r with
 |error e=>exact g
 |ok fl =>
  cases fl with
  |ret m =>
   let(b,rfl,rfl):=g;let y:(s.heap.push<|dz b).get? ↥s=Lh (dz b):=HS.get?_push_size s.heap U;let ty:Ib.TypeIs { s with heap:=s.heap.push (dz b) } (.ref ↥s) "set" := ⟨dz b,y,U⟩;let C:=F.called_set.init.lookup;let b2:=F.called_set.init.bind<|.ref ↥s
   repeat (any_goals (first|assumption|wp_step))
   refine Jj (xI (E:=E) (knd:=knd) (by simp[t]) p q o u) λn s2 d=>?_
   cases n with
   |error e=>exact d
   |ok z =>
    cases z with
    |ret r =>
     let(rfl,h',f,rfl,x):=d
     repeat (any_goals (first|assumption|wp_step))
     exact h h' f x
    |_=>exact d.elim
  |_=>calc g.elim
end
def oQ(P:HQ)(w:HP)(a:HR)(zs:Ly Str):HO:=.ext λh=>h.SetOf (strKind P w) a (λz=>decide<|z∈zs)<|cntK zs ⇑zs
theorem pN:∀{zs:Ly Str}{us:Ly HN},Vals (zs.map V.str) us->∀(i:Nat)(v:HN),us[i]?=Lh v->∃z t,zs[i]?=Lh z/\v=.str z t
 | [],_,.nil,i,v,h=>by simp at h
 |z :: zs,_,.cons ⟨t,e⟩ r,0,v,h=>by simp at h;exact⟨z,t,U,by rw[←h,e]⟩
 |z :: zs,_,.cons _ r,i+1,v,h=>by
  let(a,t,c,b):=pN r i v<|~~~h;calc⟨a,t,~~~c,b⟩
theorem ju(C:X.calm=Lj):cF X (.type "set") (λxs H Q=>∃(p:HR)(zs:Ly Str),xs=[.ref p]/\SqL X.K H p (zs.map V.str)/\⇑zs<=1000/\∀l,H l=Li->Q (.ref l) (upd H l<|oQ X.prog X.w l zs)):=by
 intro j s G H xs J Q I r h;let(p,zs,rfl,D,L,q):=h;let(u,rfl,A):=r.one;obtain rfl:u=HN.ref p:=A;let(F,d,B,_):=I.list D;let f:=⇑d;rw[bc]at f;refine pM (knd:=strKind X.prog X.w) (ks:=zs) (I.ok.hd C) B.isList (λi v e=>?_) (~~~f) (by unfold JV;simp;lia) λh' n x=>?_
 .let(z,t,E,rfl):=pN d i v<|~~~e;exact⟨z,E,by show HN.isStrOf z (.str z t)=Lj;simp[HN.isStrOf],U⟩
 .let(c,m):=x;calc⟨.ref ↥s,_,I.laid (a:=↥s) (o:=oQ X.prog X.w ↥s zs) (h':=h') (t':=n) (λb o q=>m b o (HS.lt_size q) q) (xX _) ?_,U,q _ I.fresh⟩;calc⟨c,?_,λN M y k=>gG y k⟩;let(o,_,_,_,g,_):=c;calc⟨o,g⟩
def Asc(xs:Array Nat):Prop:=xs.toList.Pairwise (· < ·)
theorem Asc.lt{xs:Array Nat}(h:Asc xs){i j:Nat}(a:i<j)(b:j<xs.size):xs[i]<xs[j]:=by
 let:=tF.mp h i j (by simp;lia) (~~~b) a;simpa using this
theorem xJ{xs:Array Nat}(h:Asc xs)(j:Nat):∀(a lo hi:Nat),lo<=hi->hi<=xs.size->hi-lo<=a ->
  (∀(i:Nat)(b:i<xs.size),i<lo->xs[i]<j)->(∀(i:Nat)(b:i<xs.size),hi<=i->j<=xs[i]) ->
  Kf.below.go xs j a lo hi<=xs.size/\(∀(i:Nat)(b:i<xs.size),i<Kf.below.go xs j a lo hi->xs[i]<j)/\(∀(i:Nat)(b:i<xs.size),Kf.below.go xs j a lo hi<=i->j<=xs[i]):=by
 intro a;induction a with
 |zero =>
  intro lo hi o k n g f;let e:lo=hi:=∅
  subst e;exact⟨by unfold Kf.below.go;exact k,by unfold Kf.below.go;exact g,by unfold Kf.below.go;exact f⟩
 |succ a l =>
  intro lo hi o k n g f;unfold Kf.below.go;by_cases c:lo<hi
  .rw[Lq c];let m:(lo+hi) / 2<xs.size:=∅
   let p:xs.getD ((lo+hi) / 2) j=xs[(lo+hi) / 2]:=by simp[Array.getD,m]
   dsimp only;rw[p];by_cases d:xs[(lo+hi) / 2]<j
   .rw[Lq d];calc l _ _ ∅ k ∅ (λi b q=>?_) f;by_cases e:i=(lo+hi) / 2
    .subst e;exact d
    .exact Nat.lt_trans (h.lt ∅ m) d
   .rw[Lp d];refine l _ _ ∅ ∅ ∅ g λi b r=>?_
    by_cases e:i=(lo+hi) / 2
    .subst e;lia
    .exact yW (Nat.le_of_not_lt d)<|zz<|h.lt ∅ b
  .rw[Lp c];let e:lo=hi:=∅
   subst e;calc⟨k,g,f⟩
theorem jJ{xs:Array Nat}(h:Asc xs)(j:Nat):Kf.below xs j<=xs.size/\(∀(i:Nat)(hi:i<xs.size),i<Kf.below xs j->xs[i]<j)/\(∀(i:Nat)(hi:i<xs.size),Kf.below xs j<=i->j<=xs[i]) :=
 xJ h j xs.size 0 xs.size (yX _) (xX _) ∅ (λ_ _ z=>Lr z ∅) (λi hi z=>Lr z ∅)
theorem ud{xs:Array Nat}(h:Asc xs){i:Nat}(hi:i<xs.size):Kf.below xs (xs[i]+1)=i+1:=by
 let(d,b2,a):=jJ h<|xs[i]+1;let c:¬ Kf.below xs (xs[i]+1)<=i:=λz=>Lr (a i hi z) ∅
 let b:¬ i+1<Kf.below xs (xs[i]+1):=λz=>by
  let:=b2 (i+1) ∅ z;let:=h.lt (show i<i+1 by lia) (show i+1<xs.size by lia);lia
 lia
theorem rB{xs:Array Nat}(h:Asc xs):Kf.below xs 0=0:=by
 let(b,b2,a):=jJ h 0;by_cases z:Kf.below xs 0=0
 .exact z
 .exact Lr (b2 0 ∅ ∅) ∅
theorem ue{xs:Array Nat}(h:Asc xs){j:Nat}(m:xs[Kf.below xs j]?≠Lh j):Asc (Kf.insertAt xs (Kf.below xs j) j):=by
 let(r,b2,g):=jJ h j;unfold Asc;rw[Kf.toList_insertAt,nS];refine⟨h.sublist<|tu _ _,qd.mpr ⟨λb f=>?_,h.sublist<|List.drop_sublist _ _⟩,λa n b f=>?_⟩
 .let(k,d,rfl):=tG.mp f;let c:Kf.below xs j+k<xs.size:=by simp at d;lia
  let z:=g _ c ∅;let e:(xs.toList.drop<|Kf.below xs j)[k]=xs[Kf.below xs j+k]:=by simp
  rw[e];by_cases q:j=xs[Kf.below xs j+k]
  .exfalso;by_cases l:k=0
   .subst l;calc m ?_;rw[D0 ∅];simpa using q.symm
   .let p:=g _ (show Kf.below xs j<xs.size by lia) (xX _);let o:=h.lt (show Kf.below xs j<Kf.below xs j+k by lia) c;lia
  .lia
 .let i:a<j:=by
   let(k,d,rfl):=tG.mp n;let c:k<Kf.below xs j/\k<xs.size:=by simp at d;lia
   let:=b2 k c.2 c.1;simpa using this
  rcases bW.mp f with rfl|f
  .exact i
  .let(k,d,rfl):=tG.mp f;let c:Kf.below xs j+k<xs.size:=by simp at d;lia
   let z:=g _ c ∅;let e:(xs.toList.drop<|Kf.below xs j)[k]=xs[Kf.below xs j+k]:=by simp
   rw[e];lia
def rC(t:Kf)(j:Nat):Prop:=t.place[Kf.below t.place j]?≠Lh j
theorem m4{t:Kf}{j:Nat}(h:t.slot j=.empty\/t.slot j=.dummy):rC t j:=by
 intro e;let:t.slot j=.live (Kf.below t.place j):=by
  unfold Kf.slot;simp[e]
 rw[this]at h;rcases h with h|h <;> cases h
theorem uf(t:Kf)(f:Nat->Int)(h:Int):∀(a:Nat)(p:Kf.Probe),(∀d,p.dummy=Lh d->rC t d)->∀j c,Kf.probe.go t f h a p=Lh (.empty j c)->rC t j/\∀d,c=Lh d->rC t d:=by
 intro a;induction a with
 |zero=>intro p _ j c e;unfold Kf.probe.go at e;cases e
 |succ a i =>
  intro p k j c e;unfold Kf.probe.go at e;let g:∀q:Kf.Probe,(t.advance q).dummy=q.dummy:=λq=>by
   unfold Kf.advance;split <;> rfl
  split at e
  .rename_i he
   injection e with e;injection e with m l;subst m l;exact⟨m4<|.inl he,k⟩
  .rename_i he
   calc i _ (λd b=>?_) j c e;rw[g]at b;injection b with b;subst b;exact m4<|.inr he
  .split at e
   .injection e with e;cases e
   .refine i _ (λd b=>k d ?_) j c e;rw[g]at b;calc b
theorem oR{t:Kf}{h:Int}{j:Nat}{b:Bool}(e:t.freeSlot h=Lh (j,b)):rC t j:=by
 unfold Kf.freeSlot at e;split at e
 .rename_i j' dm he
  let(g,f):=uf t _ h _ _ (λd a=>by simp[Kf.probeStart]at a) _ _ he;injection e with e;injection e with c i;subst c;cases dm with
  |none=>exact g
  |some d=>exact f d U
 .cases e
theorem vU(n:Nat):Asc (Array.range n):=by
 unfold Asc;rw[Array.toList_range];calc List.pairwise_lt_range
def fP(t:Kf)(n:Nat):Asc (t.standIn n).place:=vU n
theorem ug{t:Kf}(c:Asc t.place)(a:Array (Int×HN))(h:Int)(x:HN):Asc (Kg t a h x).2.1.place/\(Kg t a h x).2.1.led=t.led:=by
 unfold Kg;split
 .rename_i slot wd e
  let b:Asc (t.put slot).1.place:=ue c<|oR e;dsimp only;unfold Kf.orStandIn;split
  .exact⟨b,U⟩
  .exact⟨fP _ _,U⟩
 .exact⟨fP _ _,U⟩
theorem rD(f:Nat->Option Nat):∀l:Ly Nat,((l.filterMap λj=>(f j).map (j,·)).map (·.1)).Sublist l
 | []=>by simp
 |j :: l=>by
  let a:=rD f l;rw[nF];cases e:f j with
  |none=>exact a.trans (List.sublist_cons_self _ _)
  |some v=>calc a.cons_cons j
theorem uh{t t':Kf}{b:Array Int}{n:Nat}{o:Array Nat}(e:t.relaid b n=Lh (t',o)):Asc t'.place/\t'.led=t.led:=by
 unfold Kf.relaid Kf.laid at e;cases hc:Kf.layClean (Kf.sizeAbove n-1) b with
 |none=>rw[hc]at e;cases e
 |some a =>
  rw[hc]at e;injection e with e;injection e with c d;subst c;calc⟨List.pairwise_lt_range.sublist<|rD _ _,U⟩
theorem ql{t:Kf}(b:Asc t.place)(a:Array (Int×HN))(n:Nat):Asc (Kh t a n).2.1.place/\(Kh t a n).2.1.led=t.led:=by
 unfold Kh;split
 .rename_i t' o e
  dsimp only;split
  .exact uh e
  .exact⟨fP _ _,U⟩
 .exact⟨fP _ _,U⟩
theorem fZ{b:Type}:∀{l:Ly b}{i:Nat}{x:b},l[i]?=Lh x->(x :: l.eraseIdx i).Perm l
 | [],i,x,h=>by simp at h
 |a :: l,0,x,h=>by simp at h;subst h;exact .refl _
 |a :: l,i+1,x,h=>by
  let c:=fZ (l:=l) (i:=i) (x:=x)<|~~~h;rw[List.eraseIdx_cons_succ];calc(List.Perm.swap _ _ _).trans (c.cons a)
theorem zo{c:Type}(next:Nat->Nat):∀(a k:Nat)(left:Ly c)(out:Array c),a=⇑left->∃l:Ly c,l.Perm left/\(Ki.go next a k left out).toList=out.toList++l:=by
 intro a;induction a with
 |zero =>
  intro k left out e;exact⟨left,.refl _,by unfold Ki.go;rw[List.length_eq_zero_iff.mp e.symm];simp⟩
 |succ a f =>
  intro k left out e;let b:next k%⇑left<⇑left:=Nat.mod_lt _ ∅;let d:left[next k%⇑left]?=Lh left[next k%⇑left]:=HF b;unfold Ki.go;rw[d];dsimp only;let(l,p,g):=f (k+1) (left.eraseIdx<|next k%⇑left) (out.push left[next k%⇑left]) (by rw[List.length_eraseIdx_of_lt b];lia);calc⟨left[next k%⇑left] :: l,(p.cons _).trans<|fZ d,by rw[g];simp⟩
theorem vV{a:Type}(next:Nat->Nat)(xs:Array a):(Ki next xs).toList.Perm xs.toList:=by
 let(l,p,e):=zo next xs.size 0 xs.toList #[] (by simp);let:(Ki next xs).toList=l:=by unfold Ki;rw[e];simp
 rw[this];calc p
def d7(w:HP):Bool:=w.params.followText "set-order"
def fG:HN->Int
 | .int k _=>k
 |_=>0
structure iB(es:Array (Int×HN))(ks:Ly Int):Prop where
 ent:∀e∈es.toList,e.1=hashInt (fG e.2)/\∃u,e.2=.int (fG e.2) u
 nd:(es.toList.map λe=>fG e.2).Nodup
 mem:∀k,k∈ks↔k∈es.toList.map λe=>fG e.2
def iB.perm{b a:Array (Int×HN)}{ks:Ly Int}(h:iB b ks)(p:a.toList.Perm b.toList):iB a ks :=
 ⟨λe c=>h.ent e<|p.mem_iff.mp c,(p.map _).nodup_iff.mpr h.nd,λk=>(h.mem k).trans (p.map _).mem_iff.symm⟩
theorem iB.push{d:Array (Int×HN)}{ks:Ly Int}{k:Int}{u:Tok}(h:iB d ks)(f:k ∉ ks):iB (d.push (hashInt k,.int k u)) (ks++[k]):=by
 refine⟨λe c=>?_,?_,λq=>?_⟩
 .rw[Er]at c;rcases hZ.mp c with c|c
  .exact h.ent e c
  .rw[gZ]at c;subst c;exact⟨U,u,U⟩
 .rw[Er,dW,wt];refine⟨h.nd,by simp,λa i b g=>?_⟩;let j:b=k:=by simpa[fG]using g
  subst j;exact λe=>f<|(h.mem b).mpr<|e ▸ i
 .rw[Er,dW,hZ,hZ,h.mem q];simp[fG]
theorem iB.again{a:Array (Int×HN)}{ks:Ly Int}{k:Int}(h:iB a ks)(b:k∈ks):iB a (ks++[k]) :=
 ⟨h.ent,h.nd,λq=>by
  rw[←h.mem q,hZ,gZ];exact⟨λz=>z.elim id λz=>z ▸ b,.inl⟩⟩
theorem iB.elems{b:Array (Int×HN)}{ks:Ly Int}(h:iB b ks):ElemsOf (HW prog w) b.toList:=λe c=>by
 let(d,u,a):=h.ent e c;refine⟨⟨fG e.2,?_,d⟩,?_⟩
 .rw[a];exact Kj _ _ _ _
 .rw[a];rfl
theorem iB.found{b:Array (Int×HN)}{ks:Ly Int}(h:iB b ks){k:Int}{e:Int×HN}(a:e∈b.toList)(c:(HW prog w).is k e.2=Lj):k∈ks:=by
 let(_,u,d):=h.ent e a;calc(h.mem k).mpr (iv.mpr ⟨e,a,?_⟩);calc(HW prog w).inj e.2 _ _ (by rw[d];exact Kj _ _ _ _) c
def dY(h:HS)(a:HR)(led:Bool)(ks:Ly Int)(n:Nat):Prop :=
 ∃o b c t,h.get? a=Lh o/\o.ExactSet/\o.data=.set b c t/\iB b ks/\b.size<JV/\t.fits b.size=Lj/\Asc t.place/\t.led=led/\b.size=n
theorem dY.stay{h h':HS}{a:HR}{led:Bool}{ks:Ly Int}{n:Nat}(x:dY h a led ks n)(k:∀o,h.get? a=Lh o->h'.get? a=Lh o):dY h' a led ks n:=by
 let(o,c,d,t,b,r):=x;calc⟨o,c,d,t,k o b,r⟩
theorem dY.store{h:HS}{a:HR}{o:Obj}{m:Array (Int×HN)}{c:Nat}{t:Kf}(g:h.get? a=Lh o)(d:o.ExactSet)(f:o.data=.set m c t)
  {b:Array (Int×HN)}{t':Kf}{ks:Ly Int}(j:iB b ks)(k:b.size<JV)(i:t'.fits b.size=Lj)(l:Asc t'.place) :
  (h.update a<|Obj.putSet b t').get? a=Lh { o with data:=.set b (c+1) t' }/\dY (h.update a<|Obj.putSet b t') a t'.led ks b.size:=by
 let e:(h.update a<|Obj.putSet b t').get? a=Lh { o with data:=.set b (c+1) t' }:=by
  let:=HS.get?_update_self (Obj.putSet b t') g (by rw[putSet_of b t' f];rfl);rw[putSet_of b t' f]at this;exact this
 calc⟨e,_,b,c+1,t',e,d,U,j,k,i,l,U,U⟩
theorem rE{g:Bool->Sem Unit}(I:∀(b:Bool)(e:Ib)(F:Unit->Ib->Prop),F () e->Ih (model prog w) A (g b) F E e)
  {a:HR}{o:Obj}{J:Array (Int×HN)}{K:Nat}{t:Kf}(C:s.heap.get? a=Lh o)(p:o.ExactSet)(D:o.data=.set J K t)
  {c:Array (Int×HN)}{d:Kf}{ks:Ly Int}{led:Bool}(q:iB c ks)
  (j:c.size<JV)(B:d.fits c.size=Lj)(u:Asc d.place)(n:d.led=led){H:Bool}{R:Option Bool->Ib->Prop}
  (h:∀h',HS.SameBut a s.heap h'->dY h' a led ks c.size->R (Lh Lj) { s with heap:=h' }) :
  Ih (model prog w) A (do
    storeSet a c d
    if (!H && d.tooFull)=Lj then do
      g (Kh d c<|Kf.grown c.size).2.2
      storeSet a (Kh d c<|Kf.grown c.size).1 (Kh d c<|Kf.grown c.size).2.1
      pure (Lh Lj)
     else pure (Lh Lj)) R E s:=by
 calc HJ<|Kk C D ?_<|Kl j;let(m,x):=dY.store C p D q j B u;rw[n]at x;let G:=HS.SameBut.update s.heap a<|Obj.putSet c d;split
 .let z:=relayAll_perm d c<|Kf.grown c.size;let i:=relayAll_fits d c<|Kf.grown c.size;let(k,f):=ql u c<|Kf.grown c.size;generalize L:Kh d c (Kf.grown c.size)=Rl at z i k f⊢;let(y,M,N):=Rl;dsimp only at z i k f⊢;let l:y.size=c.size:=by rw[←Dn,z.length_eq,Dn]
  let r:y.size<JV:=by rw[l];exact j
  calc HJ<|I _ _ _ ?_;calc HJ<|Kk m U ?_<|Kl r;let(_,v):=dY.store m p U (q.perm z) r i k;rw[l,f,n]at v;exact HK<|h _ (G.trans<|HS.SameBut.update _ a _) v
 .exact HK<|h _ G x
theorem addW{a:HR}{led:Bool}{ks:Ly Int}{n:Nat}{k:Int}{u:Tok}{Q:Bool->Ib->Prop}(hS:dY s.heap a led ks n)(Y:n+1<JV)
  (h:∀h' S b,HS.SameBut a s.heap h'->S<=n+1->dY h' a led (ks++[k]) S->Q b { s with heap:=h' }) :
  Ih (model prog w) A (setAddHashed a (.int k u)<|(HW prog w).hash k) Q E s:=by
 let(o,p,ep,t,B,r,C,x,V,N,W,I,K):=hS;let Z:(HW prog w).is k (.int k u)=true:=Kj _ _ _ _;let F:(HN.int k u).scannable=true:=rfl;let G:=x.elems (prog:=prog) (w:=w);let a0:p.size+1<JV:=by rw[K];exact Y
 unfold setAddHashed setAddHashedIn;calc HL<|HJ<|Km B C N ?_;dsimp only;rw[byScan_of F V G];simp only[↓reduceIte];unfold setAddByScan;calc HJ ?_;calc HJ<|Kn ?_;calc HJ<|wpAny_setScan_of Z B C N G ?_;cases hr:List.findIdx? (λe=>(HW prog w).is k e.2) p.toList with
 |some j =>
  dsimp only;let(hj,O,_):=List.findIdx?_eq_some_iff_getElem.mp hr;let M:k∈ks:=x.found (List.getElem_mem hj) O;calc HK<|HK ?_;let e:s={ s with heap:=s.heap }:=by cases s;rfl
  rw[e];exact h s.heap n Ll (HS.SameBut.refl a s.heap) (Ar _) ⟨o,p,ep,t,B,r,C,x.again M,V,N,W,I,K⟩
 |none =>
  dsimp only;let M:k ∉ ks:=λz=>by
   let(e,T,q):=iv.mp<|(x.mem k).mp z;let:=List.findIdx?_eq_none_iff.mp hr e T;let(_,v,h2):=x.ent e T;rw[h2]at this;rw[←q]at this;rw[Kj]at this;exact Bool.noConfusion this
  let P:∀(b:Bool){c:Ib}{D:Unit->Ib->Prop},D () c->Ih (model prog w) A (match b with|true=>rule "set.scan.the-table-gave-way" | false=>pure ()) D E c :=
   λb c D m=>by cases b <;> first|exact HK m|exact Kn m
  let J:=layNew_perm t p ((HW prog w).hash k)<|.int k u;let y:=layNew_fits t p ((HW prog w).hash k)<|.int k u;let(i,f):=ug W p ((HW prog w).hash k)<|.int k u;generalize hL:Kg t p ((HW prog w).hash k) (.int k u)=L at J y i f⊢;let(l,t1,rF,G3):=L;dsimp only at J y i f⊢;let H:iB l (ks++[k]):=(x.push (u:=u) M).perm J;let El:l.size=n+1:=by rw[←Dn,J.length_eq,Dn,Array.size_push,K]
  let X:l.size<JV:=by rw[El];exact Y
  calc HJ<|P _ ?_;let R:∀h',HS.SameBut a s.heap h'->dY h' a led (ks++[k]) l.size->Q Lj { s with heap:=h' }:=λh' d g=>h h' _ Lj d ∅ g
  split
  .refine HJ ?_;rw[hashByValue_scannable 8 F];calc HK ?_;refine rE ?_ B r C H X ?_ ?_ (led:=led) ?_ ?_
   .intro b c D m;cases b <;> first|exact HK m|exact Kn m
   .split
    .exact y
    .exact Kf.fits_plain_off y
   .split
    .exact i
    .exact i
   .split
    .exact f.trans I
    .exact f.trans I
   .intro h' d g;dsimp only;exact HK<|R h' d g
  .refine HJ<|HK ?_;simp only[↓reduceIte];refine rE ?_ B r C H X y i (f.trans I) ?_
   .intro b c D m;cases b <;> first|exact HK m|exact Kn m
   .intro h' d g;dsimp only;calc HK<|R h' d g
theorem ui(a:HN){Q₁:HN->Ib->Prop}
  (h:Q₁ (.ref ↥s) { s with heap:=s.heap.push { cls:=.type "set",dict:=Li,data:=.set #[] 0 (.fresh 0 0<|!d7 w) } }) :
  Ja (model prog w) A (.call (.builtin "set.__new__") ⟨[.type "set",a],[]⟩) (wants Q₁ E) s:=by
 calc Kd ?_;show Ih _ A.in1 (do checkBuiltinCall "set.__new__" ⟨[.type "set",a],[]⟩;again (.builtin "set.__new__" ⟨[.type "set",a],[]⟩)) _ _ s;calc HJ<|Ko (F.newCall_set_1 a)<|HK ⟨JZ F.plain_set_new _,JX F.entry_set_new ?_⟩;rw[Ia.under_plainId F.plain_set_new _];unfold IP.«set.__new__» IP.Frozenset.newClass;let e:=sub_set_self;let(f,g,d,b,c):=s;dsimp only
 wp_walk
 calc Kp<|HK ?_;dsimp only;simp only[newObj];calc HJ<|wpAny_alloc<|HK ?_;calc HK h
theorem Bz{R:I0->Ib->Prop}{I:HR}{N j:Ly HR}{G:Array Ie->Array Ie->Prop}{n:Nat}{P:Nat->HN->Prop}{St:Nat->Ib->Prop}(W:JU prog w A.in1 I N j G n P St){a:HR}(L:a ∉ N){ks:Ly Int}{led:Bool}
  (X:∀i v,P i v->∃k u,ks[i]?=Lh k/\v=.int k u)(h:n+1<JV):∀(d i:Nat)(s:Ib)(m:Nat),n=i+d->m<=i->St i s->dY s.heap a led (ks.take i) m ->
   (∀s' H,JW (a :: j) G s s'->dY s'.heap a led (ks.take n) H->H<=n->R (.ok<|.ret .none) s')->Ja (model prog w) A (.builtin "set.update.loop" ⟨[.ref a,.ref I],[]⟩) R s:=by
 let J:a ∉ j:=λz=>L<|W.sub a z
 intro d;induction d with
 |zero =>
  intro i s m e K l x c;rw[show n=i by lia]at W c;calc JX (R:=R) (A:=A) F.entry_set_update_loop ?_;rw[Ia.under_plainId (A:=A) F.plain_set_update_loop _];show Ih (model prog w) A.in1 (II (.ref I) >>= _) _ _ s;exact HJ<|W.done s _ _ l λs' g=>HK<|c s' m (g.mono λb h=>iE a h) (x.stay λo q=>g.heap a o J q) K
 |succ d V =>
  intro i s m e K l x c;calc JX (R:=R) (A:=A) F.entry_set_update_loop ?_;rw[Ia.under_plainId (A:=A) F.plain_set_update_loop _];show Ih (model prog w) A.in1 (II (.ref I) >>= _) _ _ s;calc HJ<|W.item i s _ _ ∅ l λv f p r g=>?_;let(k,u,Z,rfl):=X i v p;let Q:=x.stay λo q=>g.heap a o J q
  show Ih (model prog w) A.in1 (holding [.int k u] (JY a<|.int k u) >>= _) _ _ f;refine HJ<|HL (show Ih (model prog w) A.in1 (JY a<|.int k u) _ _ f from ?_);unfold JY;calc HL<|HJ<|(HW prog w).pyHash (k:=k) (Kj _ _ _ _) ?_;refine addW (s:={ f with toks:=f.toks+1 }) Q ∅ λM S _ E a0 D=>?_
  let Y:ks.take (i+1)=ks.take i++[k]:=by rw[oH,Z];rfl
  rw[←Y]at D;calc HK ⟨JZ F.plain_set_update_loop _,V (i+1) { f with heap:=M,toks:=f.toks+1 } S ∅ ∅ (W.frame (i+1) f M (f.toks+1) r (Ar _) λb C o q=>(E.2 b λz=>L<|z ▸ C).trans q) D λs2 T t O y=>?_⟩;calc c s2 T (JW.trans W.gtrans ((g.mono λb h=>iE a h).then_heap (Ar _) λb o B q=>?_) t) O y;calc(E.2 b λz=>B<|z ▸ fH).trans q
theorem BA{l:HR}{a:Array HN}{ks:Ly Int}(L:A.handled=Li)(J:s.heap.IsList l a)(K:∀(i:Nat)(v:HN),a[i]?=Lh v->∃k u,ks[i]?=Lh k/\v=.int k u)(I:⇑ks=a.size)(M:a.size+1<JV) :
  Ja (model prog w) A (.call (.builtin "set.__init__") ⟨[.ref ↥s,.ref l],[]⟩) (wants (λr s2=>r=.none/\∃h' p m,s2={ s with heap:=h',toks:=p }/\dY h' ↥s (!d7 w) ks m/\m<=⇑ks/\∀b o,b<↥s->s.heap.get? b=Lh o->h'.get? b=Lh o) E) { s with heap:=s.heap.push (dz<|!d7 w) }:=by
 let n:(s.heap.push<|dz<|!d7 w).get? ↥s=Lh (dz<|!d7 w):=HS.get?_push_size s.heap U;let ty:Ib.TypeIs { s with heap:=s.heap.push (dz<|!d7 w) } (.ref ↥s) "set" := ⟨dz<|!d7 w,n,U⟩;calc Ka F.called_set.init.plain F.entry_set_init<|Kb ty ?_;let((c1,S,Z,R),g,j,m,h):=J;dsimp only at j h;subst j h;let O:(s.heap.push<|dz<|!d7 w).get? l=Lh { cls:=.type "list",dict:=S,data:=.seq a m,slots:=R }:=HS.get?_push_of_some _ g;let X:=F.sub_list_set;let W:=F.sub_list_frozenset;let V:(HN.type "list" == HN.type "dict")=false:=⋯
 let f:(s.heap.push<|dz<|!d7 w).IsList l a:=⟨_,O,U,m,U⟩;let lt:l<↥s:=HS.lt_size g;let y:dY (s.heap.push<|dz<|!d7 w) ↥s (!d7 w) [] 0:=⟨_,#[],0,_,n,⟨U,U,U⟩,U,⟨by simp,by simp,by simp⟩,by unfold JV;decide,U,List.Pairwise.nil,U,U⟩;unfold IP.«set.__init__» IP.Frozenset.updateFrom noKeywords;generalize N:IK=it;generalize Y:d7 w=bt at *
 wp_walk
 subst N;calc IM f<|HJ<|Kc ?_;let D:l≠(s.heap.push<|dz<|!bt).objs.size:=by rw[HS.size_push];exact yl<|zp lt
 let G:↥s ∉ [(s.heap.push<|dz<|!bt).objs.size,l]:=by
  rw[HS.size_push];intro z;rcases bW.mp z with z|z
  .exact Lr z<|yl<|A9 _
  .exact Lr (~~~z)<|zl lt
 refine Bz ((Walks.list (by simp[L]) _ l D a).toS) G (ks:=ks) (led:=!bt) K M a.size 0 _ 0 (Cq _).symm (xX _) ⟨⟨_,HS.get?_push_size _ U,U,U⟩,f.push _⟩ (y.stay λo q=>HS.get?_push_of_some _ q) λB H d x T=>?_
 let(h',P,Q,t,C):=B;obtain rfl:P=s.gens:=d.gens;obtain rfl:Q=s.drawn:=d.drawn;obtain rfl:C=s.os:=d.os;refine HK (show Ih (model prog w) _ (ret HN.none) _ _ _ from HK ⟨U,h',t,H,U,?_,∅,λb o c q=>?_⟩)
 .rw[←I,gd]at x;exact x
 .refine d.heap b o (λz=>?_)<|HS.get?_push_of_some _<|HS.get?_push_of_some _ q;rcases bW.mp z with z|z
  .exact Lr z<|yl c
  .let e:b=(s.heap.push<|dz<|!bt).objs.size:= ~~~z
   rw[HS.size_push]at e;exact Lr e (yl<|zp c)
set_option maxRecDepth 100000 in
theorem vW{l:HR}{a:Array HN}{ks:Ly Int}{Q:HN->Ib->Prop}(C:A.handled=Li)(z:s.heap.IsList l a)(B:∀(i:Nat)(v:HN),a[i]?=Lh v->∃k u,ks[i]?=Lh k/\v=.int k u)(t:⇑ks=a.size)(D:a.size+1<JV)
  (h:∀h' f m,dY h' ↥s (!d7 w) ks m->m<=⇑ks->(∀b o,b<↥s->s.heap.get? b=Lh o->h'.get? b=Lh o)->Q (.ref ↥s) { s with heap:=h',toks:=f }):Ih (model prog w) A (call (.type "set") [.ref l]) Q E s:=by
 let(c,I,mro):=F.called_set.mro;let O:=F.called_set.made;let N:=F.called_set.sub;let M:=F.called_set.notType;let L:=F.called_set.canCreate;let K:=F.typeCall_set_1<|.ref l;refine Ji<|Kd (show Ih (model prog w) _ (callAny (.type "set") _) _ _ _ from HK ⟨Je.quiet_builtin _<|~~~0,JX F.entry_type_call ?_⟩);rw[Ia.under_plain (A:=A) (Ke "set" [.ref l] []) U]
 repeat (any_goals (first|assumption|wp_step))
 refine Jj (ui (.ref l) (E:=E) (Q₁:=λn j=>n=.ref ↥s/\j={ s with heap:=s.heap.push (dz<|!d7 w) }) ⟨U,U⟩) λr j g=>?_
 cases r with
 |error e=>exact g
 |ok fl =>
  cases fl with
  |ret n =>
   let(rfl,rfl):=g;let G:(s.heap.push<|dz<|!d7 w).get? ↥s=Lh (dz<|!d7 w):=HS.get?_push_size s.heap U;let ty:Ib.TypeIs { s with heap:=s.heap.push (dz<|!d7 w) } (.ref ↥s) "set" := ⟨dz<|!d7 w,G,U⟩;let J:=F.called_set.init.lookup;let b2:=F.called_set.init.bind<|.ref ↥s
   repeat (any_goals (first|assumption|wp_step))
   refine Jj (BA (E:=E) (by simp[C]) z B t D) λp s2 d=>?_
   cases p with
   |error e=>exact d
   |ok H =>
    cases H with
    |ret r =>
     let(rfl,h',f,m,rfl,x,y,q):=d
     repeat (any_goals (first|assumption|wp_step))
     exact h h' f m x y q
    |_=>exact d.elim
  |_=>exact g.elim
set_option maxRecDepth 100000
theorem aX:Slot "set_iterator" "__next__" "set_iterator.__next__" :=
 .of (owner := "set_iterator") (n := "__next__") (by rw[Kq,Kr];kernel_rfl) (~~~0) (~~~0) (~~~0)
  (by first|exact .inl (~~~0)|exact .inr (~~~0)) (by rw[Ks];kernel_rfl)
theorem ig:Slot "set_iterator" "__iter__" "set_iterator.__iter__" :=
 .of (owner := "set_iterator") (n := "__iter__") (by rw[Kq,Kr];kernel_rfl) (~~~0) (~~~0) (~~~0)
  (by first|exact .inl (~~~0)|exact .inr (~~~0)) (by rw[Ks];kernel_rfl)
theorem cY:Kt table "set_iterator.__next__" = Lh IP.«set_iterator.__next__»:=entryFor_of_fast (by kernel_rfl)
theorem lH:Kt table "set_iterator.__iter__" = Lh IP.«dict_keyiterator.__iter__» :=
 Ku (id' := "dict_keyiterator.__iter__") (by kernel_rfl) U (~~~0) (by kernel_rfl)
theorem m5:Kt table "set.__iter__" = Lh IP.«frozenset.__iter__» :=
 Ku (id' := "frozenset.__iter__") (by kernel_rfl) U (~~~0) (by kernel_rfl)
theorem dn(a:HN):Kv "set_iterator.__next__" ⟨[a],[]⟩:=by unfold Kv;kernel_rfl
theorem mw(a:HN):Kv "set_iterator.__iter__" ⟨[a],[]⟩:=by unfold Kv;kernel_rfl
abbrev fh(first:HN)(i:Int)(s:HN)(n a:Nat):Obj:={ cls:=.type "set_iterator",data:=.fields #[first,.int i 0,s,.int n 0,.int a 0] }
def qm{a:Source}{n:Nat}{Q:Nat->Ib->Prop}(b:n≠0)(h:Q (w.draws a (s.drawn.get a)%n) { s with drawn:=s.drawn.bump a }) :
  Ih (model prog w) A (choose a n) Q E s:=λ_ _ _=>⟨b,h⟩
theorem m6{b:Type}:∀(n:Nat)(xs:Ly b)(s:Ib){Q:Ly b->Ib->Prop},n=⇑xs->(∀ys d,ys.Perm xs->Q ys { s with drawn:=d })->Ih (model prog w) A (Kw n xs) Q E s:=by
 intro n;induction n with
 |zero =>
  intro xs s Q e h;let:xs=[]:=List.length_eq_zero_iff.mp e.symm;subst this;unfold Kw;exact HK<|h [] s.drawn (.refl _)
 |succ n f =>
  intro xs s Q e h;cases xs with
  |nil=>simp at e
  |cons x r =>
   unfold Kw;refine HJ (qm (by simp) ?_);generalize hi:w.draws Source.order (s.drawn.get Source.order)%⇑(x :: r)=i;let a:i<⇑(x :: r):=by rw[←hi];exact Nat.mod_lt _ (by simp)
   let c:(x :: r)[i]?=Lh (x :: r)[i]:=HF a;rw[c]
   try dsimp only
   refine HJ (f _ _ (by rw[List.length_eraseIdx_of_lt a];lia) λys d p=>HK ?_);calc h _ d<|(p.cons _).trans<|fZ c
theorem vX{I a:HR}{b i:Nat}{o:Obj}{c:Array (Int×HN)}{d:Nat}{t:Kf}{Q:Option HN->Ib->Prop}
  (e:s.heap.get? I=Lh (fh (.int b 0) i (.ref a) c.size d))(k:s.heap.get? a=Lh o)(n:o.data=.set c d t)(l:t.fits c.size=Lj)
  {x:HN}{nx:Nat}(q:∀(j:Option (HN×Nat)->Ib->Prop) E',j (Lh (x,nx)) s->Ih (model prog w) A.in1 (Ky a b i d) j E' s)
  (p:∀h',h'.get? I=Lh (fh (.int nx 0) ((i+1:Nat):Int) (.ref a) c.size d)->HS.SameBut I s.heap h'->Q (Lh x) { s with heap:=h' }) :
  Ih (model prog w) A (II<|.ref I) Q E s:=by
 let h:s.TypeIs (.ref I) "set_iterator" := ⟨_,e,U⟩;unfold II;calc HJ<|Kz<|KA (name:=s!"__next__") h aX<|KC aX h cY ?_<|dn _;unfold IP.«set_iterator.__next__»;calc HJ (m:=KD "__next__" 0 _)<|HK ?_;refine HJ<|KG e U ?_
 try dsimp only
 calc HJ<|KH k n l ?_;rw[Lp (by simp)]
 try dsimp only
 simp only[E2];refine HJ<|q _ _ ?_
 try dsimp only
 refine HJ (KI e (by simp) λu y g=>?_);refine HJ (KI (s:={ s with heap:=u }) y (by simp) λr v f=>?_);calc HK ⟨x,U,HK<|p r ?_<|g.trans f⟩;rw[v];simp[fh,IL]
theorem vY{I a:HR}{c i:Nat}{o:Obj}{e:Array (Int×HN)}{f:Nat}{t:Kf}{Q:Option HN->Ib->Prop}(k:A.handled=Li)
  (d:s.heap.get? I=Lh (fh (.int c 0) i (.ref a) e.size f))(j:s.heap.get? a=Lh o)(n:o.data=.set e f t)(l:t.fits e.size=Lj)
  (q:∀(h:Option (HN×Nat)->Ib->Prop) E',h Li s->Ih (model prog w) A.in1 (Ky a c i f) h E' s)
  (p:∀h',HS.ExtBut I s.heap h'->Q Li { s with heap:=h' }) :
  Ih (model prog w) A (II<|.ref I) Q E s:=by
 let g:s.TypeIs (.ref I) "set_iterator" := ⟨_,d,U⟩;unfold II;calc HJ<|Kz<|KA (name:=s!"__next__") g aX<|KC aX g cY ?_<|dn _;unfold IP.«set_iterator.__next__»;calc HJ (m:=KD "__next__" 0 _)<|HK ?_;refine HJ<|KG d U ?_
 try dsimp only
 calc HJ<|KH j n l ?_;rw[Lp (by simp)]
 try dsimp only
 simp only[E2];refine HJ<|q _ _ ?_
 try dsimp only
 refine HJ (JQ d U (by simp) ?_);show Ih _ _ (KJ (.type "StopIteration") [] >>= _) _ _ _;calc HJ ?_;simp only[KJ,newTuple];refine HJ (JJ ?_ (by size_fits));refine HJ (m:=KL _ _) (Ko (a:=HN.none) (by first|rfl|(simp only[KL];rfl)) ?_);refine JJ ?_ (by size_fits);simp only[raiseNew];calc HJ<|KN ?_;rw[show A.in1.handled=Li from k];calc HJ<|HK<|wpAny_throw ?_;calc HJ<|KO (T := "StopIteration") (b:=Lj) ⟨_,HS.get?_push_size _ U,U⟩ KP ?_;calc HK<|p _<|((HS.SameBut.update ..).extBut.push _).push _
theorem uj{I a tp:HR}{i:Nat}{o:Obj}{b:Array (Int×HN)}{d:Nat}{t:Kf}{places:Ly Nat}{m:Nat}{to:Obj}{Q:Option HN->Ib->Prop}
  (c:s.heap.get? I=Lh (fh (.ref tp) i (.ref a) b.size d))(n:s.heap.get? tp=Lh to)(g:to.data=.seq (places.map λ(p:Nat)=>IL p).toArray m)(h:s.heap.get? a=Lh o)(k:o.data=.set b d t)(j:t.fits b.size=Lj)
  {p:Nat}(q:places[i]?=Lh p){e:Int×HN}(r:b[p]?=Lh e)
  (u:∀h',h'.get? I=Lh (fh (.ref tp) ((i+1:Nat):Int) (.ref a) b.size d)->HS.SameBut I s.heap h'->Q (Lh e.2) { s with heap:=h' }) :
  Ih (model prog w) A (II<|.ref I) Q E s:=by
 let l:s.TypeIs (.ref I) "set_iterator" := ⟨_,c,U⟩;unfold II;calc HJ<|Kz<|KA (name:=s!"__next__") l aX<|KC aX l cY ?_<|dn _;unfold IP.«set_iterator.__next__»;calc HJ (m:=KD "__next__" 0 _)<|HK ?_;refine HJ<|KG c U ?_
 try dsimp only
 calc HJ<|KH h k j ?_;rw[Lp (by simp)]
 try dsimp only
 refine HJ<|KQ n g ?_
 try dsimp only
 let y:(places.map λ(p:Nat)=>IL p).toArray[(i:Int).toNat]?=Lh (.int p 0):=by simp[q,IL]
 rw[y]
 try dsimp only
 unfold setNextDrawn;refine HJ<|HJ<|Km h k j ?_
 try dsimp only
 rw[Lp (by simp)];calc HJ<|HK ?_;simp only[E2,r];calc HK ?_;refine HJ (KI c (by simp) λv x f=>?_);calc HK ⟨e.2,U,HK<|u v ?_ f⟩;rw[x];simp[fh,IL]
theorem m7{I a tp:HR}{i:Nat}{o:Obj}{d:Array (Int×HN)}{j:Nat}{t:Kf}{places:Ly Nat}{m:Nat}{to:Obj}{Q:Option HN->Ib->Prop}(n:A.handled=Li)
  (c:s.heap.get? I=Lh (fh (.ref tp) i (.ref a) d.size j))(k:s.heap.get? tp=Lh to)(f:to.data=.seq (places.map λ(p:Nat)=>IL p).toArray m)(l:s.heap.get? a=Lh o)(r:o.data=.set d j t)(q:t.fits d.size=Lj)
  (g:places[i]?=Li)(u:∀h',HS.ExtBut I s.heap h'->Q Li { s with heap:=h' }) :
  Ih (model prog w) A (II<|.ref I) Q E s:=by
 let h:s.TypeIs (.ref I) "set_iterator" := ⟨_,c,U⟩;unfold II;calc HJ<|Kz<|KA (name:=s!"__next__") h aX<|KC aX h cY ?_<|dn _;unfold IP.«set_iterator.__next__»;calc HJ (m:=KD "__next__" 0 _)<|HK ?_;refine HJ<|KG c U ?_
 try dsimp only
 calc HJ<|KH l r q ?_;rw[Lp (by simp)]
 try dsimp only
 refine HJ<|KQ k f ?_
 try dsimp only
 let y:(places.map λ(p:Nat)=>IL p).toArray[(i:Int).toNat]?=none:=by simp at g⊢;exact g
 rw[y]
 try dsimp only
 refine HJ (KI c (by simp) λv x e=>?_);refine HJ (JQ (s:={ s with heap:=v }) x U (by simp) ?_);show Ih _ _ (KJ (.type "StopIteration") [] >>= _) _ _ _;calc HJ ?_;simp only[KJ,newTuple];refine HJ (JJ ?_ (by size_fits));refine HJ (m:=KL _ _) (Ko (a:=HN.none) (by first|rfl|(simp only[KL];rfl)) ?_);refine JJ ?_ (by size_fits);simp only[raiseNew];calc HJ<|KN ?_;rw[show A.in1.handled=Li from n];calc HJ<|HK<|wpAny_throw ?_;calc HJ<|KO (T := "StopIteration") (b:=Lj) ⟨_,HS.get?_push_size _ U,U⟩ KP ?_;calc HK<|u _<|((e.trans<|HS.SameBut.update ..).extBut.push _).push _
theorem m8{I:HR}{first:HN}{i:Int}{v:HN}{n c:Nat}{Q:HN->Ib->Prop}(b:s.heap.get? I=Lh (fh first i v n c))(h:Q (.ref I) s):Ih (model prog w) A (IK<|.ref I) Q E s:=by
 let a:s.TypeIs (.ref I) "set_iterator" := ⟨_,b,U⟩;calc KR a ig<|KC ig a lH ?_<|mw _;show Ih _ _ (ret<|.ref I) _ _ s;calc HK ⟨_,U,"set_iterator",_,a,aX.lookup,h⟩
theorem kB{a:HR}{o:Obj}{d:Array (Int×HN)}{f:Nat}{t:Kf}{b i:Nat}(l:d7 w=Lj)(g:s.heap.get? a=Lh o)(k:o.data=.set d f t)(j:t.fits d.size=Lj)
  {Q:Option (HN×Nat)->Ib->Prop}(h:Q (((Ki (w.params.setOrder a f) d)[i]?).map λe=>(e.2,b)) s):Ih (model prog w) A (Ky a b i f) Q E s:=by
 let c:((KS.mk prog w.params).params.followText "set-order")=true:=l;unfold Ky;refine HJ<|Km g k j ?_
 try dsimp only
 unfold KU;calc HJ<|HJ<|Kp<|HK ?_;show Ih _ _ (if (KS.mk prog w.params).params.followText "set-order" = Lj then _ else _) _ _ _;rw[Lq c,Lp (by simp)];unfold setWalk;refine HJ<|HJ<|Km g k j ?_
 try dsimp only
 unfold KU;calc HJ<|HJ<|Kp<|HK ?_;show Ih _ _ (if (KS.mk prog w.params).params.followText "set-order" = Lj then _ else _) _ _ _;rw[Lq c];calc HJ<|Kp<|HK<|HK h
theorem jv{a:HR}{o:Obj}{c:Array (Int×HN)}{e:Nat}{t:Kf}{b i:Nat}(n:d7 w=Ll)(g:s.heap.get? a=Lh o)(m:o.data=.set c e t)(l:t.fits c.size=Lj)(k:t.led=Lj)(f:(!t.plain && decide (c.size>1))=Ll)
  {Q:Option (HN×Nat)->Ib->Prop}(h:Q (match c[Kf.below t.place b]?,t.place[Kf.below t.place b]? with|some (_,x),Lh j=>Lh (x,j+1)|_,_=>Li) s):Ih (model prog w) A (Ky a b i e) Q E s:=by
 let d:((KS.mk prog w.params).params.followText "set-order")=false:=n;unfold Ky;refine HJ<|Km g m l ?_
 try dsimp only
 unfold KU;calc HJ<|HJ<|Kp<|HK ?_;show Ih _ _ (if (KS.mk prog w.params).params.followText "set-order" = Lj then _ else _) _ _ _;rw[Lp (by rw[d];exact Bool.false_ne_true)];show Ih _ _ (if (!t.plain && decide (c.size>1))=Lj then _ else _) _ _ _;rw[Lp (by rw[f];exact Bool.false_ne_true)];show Ih _ _ ((if (!t.led && !c.isEmpty)=Lj then unsupported "set:maker-not-led" else pure ()) >>= _) _ _ _;rw[k,Lp (by simp)];exact HJ (HK<|HK h)
set_option maxRecDepth 100000
abbrev rJ:Array Ie->Array Ie->Prop:=λg a=>a=g
def pO{I:HR}{h':HS}(a:HS.SameBut I s.heap h'):JW [I] rJ s { s with heap:=h' } :=
 ⟨λb o c e=>(a.2 b λz=>c<|z ▸ fH).trans e,U,U,U,xX _⟩
def pP{I:HR}{h':HS}(a:HS.ExtBut I s.heap h'):JW [I] rJ s { s with heap:=h' } :=
 ⟨λb o c e=>a b o (λz=>c<|z ▸ fH) e,U,U,U,xX _⟩
theorem m9(D:A.handled=Li){I a:HR}(n:a≠I){o:Obj}{f:Array (Int×HN)}{m:Nat}{t:Kf}(u:o.data=.set f m t)(r:t.fits f.size=Lj){d:Ly HN}(C:⇑d=f.size)(j:Nat->Nat)
  (F:∀(i:Nat)(x:HN)(s:Ib)(e:Option (HN×Nat)->Ib->Prop) h,s.heap.get? a=Lh o->d[i]?=Lh x->e (Lh (x,j<|i+1)) s->Ih (model prog w) A.in1 (Ky a (j i) i m) e h s)
  (G:∀(s:Ib)(e:Option (HN×Nat)->Ib->Prop) h,s.heap.get? a=Lh o->e Li s->Ih (model prog w) A.in1 (Ky a (j f.size) f.size m) e h s) :
  JU prog w A I [I,a] [I] rJ f.size (λi v=>d[i]?=Lh v) (λi s=>s.heap.get? I=Lh (fh (.int (j i) 0) i (.ref a) f.size m)/\s.heap.get? a=Lh o) where
 sub:=λb y=>by simp at y;simp[y]
 grefl:=λ_=>U
 gtrans:=λ_ _ _ J H=>H.trans J
 frame:=λi s z L c _ k=>⟨k I (by simp) _ c.1,k a (by simp) _ c.2⟩
 item:=λi s Q E hi c l=>by
  let B:d[i]?=Lh d[i]:=HF ∅;refine vX c.1 c.2 u r (x:=d[i]) (nx:=j<|i+1) (λe h q=>F i _ s e h c.2 B q) λz g p=>?_
  exact l _ _ B ⟨g,(p.2 a n).trans c.2⟩ (pO p)
 done:=λs Q E c l=>vY D c.1 c.2 u r (λe h q=>G s e h c.2 q) λz K=>l _ (pP K)
 self:=λi s Q E c l=>m8 c.1 l
theorem rK(D:A.handled=Li){I a tp:HR}(u:a≠I)(r:tp≠I){o to:Obj}{d:Array (Int×HN)}{C m:Nat}{t:Kf}(y:o.data=.set d C t)(x:t.fits d.size=Lj){places:Ly Nat}(j:to.data=.seq (places.map λ(p:Nat)=>IL p).toArray m)
  (J:⇑places=d.size){h:Ly HN}(H:∀(i:Nat),i<d.size->∃p e,places[i]?=Lh p/\d[p]?=Lh e/\h[i]?=Lh e.2) :
  JU prog w A I [I,a,tp] [I] rJ d.size (λi v=>h[i]?=Lh v) (λi s=>s.heap.get? I=Lh (fh (.ref tp) i (.ref a) d.size C)/\s.heap.get? a=Lh o/\s.heap.get? tp=Lh to) where
 sub:=λb z=>by simp at z;simp[z]
 grefl:=λ_=>U
 gtrans:=λ_ _ _ q n=>n.trans q
 frame:=λi s B K c _ k=>⟨k I (by simp) _ c.1,k a (by simp) _ c.2.1,k tp (by simp) _ c.2.2⟩
 item:=λi s Q E hi c f=>by
  let(p,e,q,n,F):=H i hi;refine uj c.1 c.2.2 j c.2.1 y x q n λB g l=>?_
  exact f _ _ F ⟨g,(l.2 a u).trans c.2.1,(l.2 tp r).trans c.2.2⟩ (pO l)
 done:=λs Q E c f=>m7 D c.1 c.2.2 j c.2.1 y x (nY ∅) λB G=>f _ (pP G)
 self:=λi s Q E c f=>m8 c.1 f
theorem xK{a:HR}{o:Obj}{f:Array (Int×HN)}{B:Nat}{t:Kf}{Q:HN->Ib->Prop}(C:s.heap.get? a=Lh o)(Z:o.ExactSet)(r:o.data=.set f B t)(y:f.size<JV)(n:t.fits f.size=Lj)(ha:Asc t.place)(hl:t.led = !d7 w)
  (h:∀(I:HR)(h':HS)(d:Drawn)(M:Ly HN)(fp:Ly HR)(St:Nat->Ib->Prop),(∀b u,s.heap.get? b=Lh u->h'.get? b=Lh u)->M.Perm (f.toList.map (·.2)) ->
   (∀L:Ia,L.handled=Li->JU prog w L I fp [I] rJ f.size (λi v=>M[i]?=Lh v) St)->St 0 { s with heap:=h',drawn:=d }->↥s<=I->(∀b∈fp,b=a\/↥s<=b)->Q (.ref I) { s with heap:=h',drawn:=d }) :
  Ih (model prog w) A (IK<|.ref a) Q E s:=by
 let hT:s.TypeIs (.ref a) "set" := ⟨o,C,Z.1⟩;let la:a<↥s:=HS.lt_size C;calc KR hT F.slot_set_iter<|KC F.slot_set_iter hT m5 ?_<|F.args_set_iter_1 _;unfold IP.«frozenset.__iter__» IP.Frozenset.slot0;calc HJ<|HJ (m:=KD "__iter__" 0 _)<|HK ?_;unfold IP.Frozenset.addrOf;calc HK ?_;unfold IP.Frozenset.sizeOf;calc HJ<|HJ<|KH C r n<|HK ?_;unfold setDrawn;refine HJ<|HJ<|Km C r n ?_
 try dsimp only
 unfold KU;calc HJ<|HJ<|Kp<|HK ?_;calc HK ?_;show Ih _ _ (if (!d7 w && (!t.plain && decide (f.size>1)))=Lj then _ else _) _ _ _;let H:⇑f.toList=f.size:=Dn;by_cases c:(!d7 w && (!t.plain && decide (f.size>1)))=Lj
 .rw[Lq c];refine HJ (m6 f.size (List.range f.size) s (by simp) λj d p=>?_);refine HJ<|KW ?_ ?_
  rotate_left
  .rw[bc,p.length_eq,kW];unfold JV at y;unfold HU;lia
  generalize N:({ cls:=.type "tuple",data:=.seq (j.map λ(i:Nat)=>IL i).toArray }:Obj)=to;let gt:(s.heap.push to).get? ↥s=Lh to:=by rw[←N];exact HS.get?_push_size _ U
  let ga:(s.heap.push to).get? a=Lh o:=HS.get?_push_of_some _ C;calc HJ (m:=setEpoch a)<|KY (s:={ s with heap:=s.heap.push to,drawn:=d }) ga r n ?_;refine HJ (JJ ?_ (by size_fits));let J:((s.heap.push to).push<|fh (.ref ↥s) (0:Nat) (.ref a) f.size B).get? (s.heap.push to).objs.size=Lh (fh (.ref ↥s) (0:Nat) (.ref a) f.size B):=HS.get?_push_size _ U;calc HK ⟨_,U,"set_iterator",_,⟨_,J,U⟩,aX.lookup,?_⟩;let V:∀i,i<f.size->∃p e,j[i]?=Lh p/\f[p]?=Lh e/\(j.map λp=>(f[p]?.map (·.2)).getD .none)[i]?=Lh e.2:=λi hi=>by
   let P:i<⇑j:=by rw[p.length_eq,kW];exact hi
   let G:j[i]?=Lh j[i]:=HF P;let lt:j[i]<f.size:=jV.mp<|p.mem_iff.mp<|List.getElem_mem P;let W:f[j[i]]?=Lh f[j[i]]:=D0 lt;exact⟨j[i],f[j[i]],G,W,by rw[jj,G];simp[W]⟩
  let kA:(j.map λp=>(f[p]?.map (·.2)).getD HN.none).Perm (f.toList.map (·.2)):=by
   calc(p.map _).trans (List.Perm.of_eq ?_);apply List.ext_getElem
   .simp
   .intro i h1 h2;simp at h1;simp[h1]
  refine h _ _ d _ [(s.heap.push to).objs.size,a,↥s] _ (λb u e=>HS.get?_push_of_some _<|HS.get?_push_of_some _ e) kA
   (λL K=>rK K (places:=j) (to:=to) (m:=0) (by rw[HS.size_push];exact yl (zp la)) (by rw[HS.size_push];exact yl (A9 _)) r n (by rw[←N]) (by rw[p.length_eq,kW]) V)
   ⟨J,HS.get?_push_of_some _ ga,HS.get?_push_of_some _ gt⟩ (by rw[HS.size_push];exact Ar _) λb y=>?_
  rcases bW.mp y with rfl|y
  .exact .inr (by rw[HS.size_push];exact Ar _)
  .rcases bW.mp y with rfl|y
   .exact .inl U
   .let:b=↥s:= ~~~y
    exact .inr (by rw[this];exact xX _)
 .rw[Lp c];calc HJ<|HK ?_;calc HJ (m:=setEpoch a)<|KY C r n ?_;refine HJ (JJ ?_ (by size_fits));let J:(s.heap.push<|fh (.int (0:Nat) 0) (0:Nat) (.ref a) f.size B).get? ↥s=Lh (fh (.int (0:Nat) 0) (0:Nat) (.ref a) f.size B):=HS.get?_push_size _ U;calc HK ⟨_,U,"set_iterator",_,⟨_,J,U⟩,aX.lookup,?_⟩;let ne:a≠↥s:=yl la;let R:∀b∈[↥s,a],b=a\/↥s<=b:=λb y=>by
   rcases bW.mp y with rfl|y
   .exact .inr<|xX _
   .exact .inl<|~~~y
  cases hbt:d7 w with
  |true =>
   let pp:=vV (w.params.setOrder a B) f;let D:⇑((Ki (w.params.setOrder a B) f).toList.map (·.2))=f.size:=by rw[bc,pp.length_eq,H]
   refine h _ _ s.drawn ((Ki (w.params.setOrder a B) f).toList.map (·.2)) [↥s,a] _ (λb u e=>HS.get?_push_of_some _ e) (pp.map _)
    (λL K=>m9 K ne r n D (λ_=>0) (λi x T X Y g l q=>kB hbt g r n ?_) λT X Y g q=>kB hbt g r n ?_) ⟨J,HS.get?_push_of_some _ C⟩ (xX _) R
   .rw[jj,Em]at l;cases e:(Ki (w.params.setOrder a B) f)[i]? with
    |none=>rw[e]at l;cases l
    |some z=>rw[e]at l;injection l with l;subst l;exact q
   .let e:(Ki (w.params.setOrder a B) f)[f.size]?=none:=by
     rw[←Em];exact nY (by rw[bc]at D;lia)
    rw[e];exact q
  |false =>
   let O:t.led=true:=by rw[hl,hbt];rfl
   let V:(!t.plain && decide (f.size>1))=false:=by
    rw[hbt]at c;simpa using c
   let a0:t.place.size=f.size:=by
    let:=n;simp only[Kf.fits,EA,beq_iff_eq]at this;exact this.1
   let S:∀i,i<=f.size->Kf.below t.place (match i with|0=>0|k+1=>t.place.getD k 0+1)=i:=λi hi=>by
    cases i with
    |zero=>exact rB ha
    |succ k =>
     have hk:k<t.place.size:=∅
     have eg:t.place.getD k 0=t.place[k]:=by simp[Array.getD,hk]
     show Kf.below t.place (t.place.getD k 0+1)=k+1;rw[eg];exact ud ha hk
   refine h _ _ s.drawn (f.toList.map (·.2)) [↥s,a] _ (λb u e=>HS.get?_push_of_some _ e) (.refl _)
    (λL K=>m9 K ne r n (by rw[bc,H]) (λi=>match i with|0=>0|k+1=>t.place.getD k 0+1) (λi x T X Y g l q=>jv hbt g r n O V ?_) λT X Y g q=>jv hbt g r n O V ?_) ⟨J,HS.get?_push_of_some _ C⟩ (xX _) R
   .let hi:i<f.size:=by
     let(z,_):=HG.mp l;rw[bc,H]at z;exact z
    rw[S i (zz hi)];let G:f[i]?=Lh f[i]:=D0 hi;let W:t.place[i]?=Lh t.place[i]:=D0 ∅;let e3:x=f[i].2:=by
     rw[jj,Em,G]at l;injection l with l;exact l.symm
    rw[G,W];let e4:t.place.getD i 0=t.place[i]:=by simp[Array.getD,show i<t.place.size by lia]
    subst e3;let q2:X (Lh (f[i].2,t.place.getD i 0+1)) T:=q;rw[e4]at q2;exact q2
   .rw[S f.size (xX _)];let G:f[f.size]?=none:=Array.getElem?_eq_none<|xX _;rw[G];exact q
set_option maxRecDepth 100000
theorem vZ{a:Ly HN}{b:Array HN}{n:Nat}(h:ItemsOf (λi v=>a[i]?=Lh v) b n)(c:⇑a=n):b.toList=a:=by
 apply List.ext_getElem
 .rw[Dn,h.1,c]
 .intro i f d;let e:a[i]?=Lh b[i]:=h.2 i b[i] (D0<|~~~f);rw[HF d]at e;injection e with e;simpa using e.symm
theorem rL{a:HR}{o:Obj}{q:Array (Int×HN)}{ep:Nat}{t:Kf}{Q:Ly HN->Ib->Prop}(hh:A.handled=Li)(S:s.heap.get? a=Lh o)(m:o.ExactSet)(hd:o.data=.set q ep t)(v:q.size<JV)(hf:t.fits q.size=Lj)(ha:Asc t.place)(hl:t.led = !d7 w)
  (h:∀(f:Ly HN)(s':Ib),f.Perm (q.toList.map (·.2))->(∀b u,s.heap.get? b=Lh u->s'.heap.get? b=Lh u)->s'.gens=s.gens->s'.os=s.os->↥s<↥s'->Q f s') :
  Ih (model prog w) A (collect<|.ref a) Q E s:=by
 let R:a<↥s:=HS.lt_size S;unfold collect;calc HJ<|Kc<|JX F.entry_proto_collect ?_;rw[Ia.under_plainId F.plain_proto_collect _];show Ih _ A.in1 (JH [] >>= λl=>again<|.builtin "list.__iadd__" ⟨[l,.ref a],[]⟩) _ _ s;calc HJ<|JJ ?_;calc HK ⟨JZ F.plain_list_iadd _,JX F.entry_list_iadd ?_⟩;rw[Ia.under_plainId F.plain_list_iadd _];generalize B:({ cls:=.type "list",data:=.seq ([]:Ly HN).toArray }:Obj)=lo;let J:(s.heap.push lo).get? a=Lh o:=HS.get?_push_of_some _ S;let gS:(s.heap.push lo).get? ↥s=Lh lo:=by rw[←B];exact HS.get?_push_size _ U
 let M:Ib.TypeIs { s with heap:=s.heap.push lo } (.ref a) "set" := ⟨o,J,m.1⟩;show Ih _ A.in1 (IP.List.listExtendWith (.ref ↥s) (.ref a)<|.ref ↥s) _ _ _;unfold IP.List.listExtendWith;calc HJ<|KZ M ?_;let h1:IP.List.listSameRef (.ref ↥s) (.ref a)=false:=by simp[IP.List.listSameRef];exact zl R
 let h2:(HN.type "set" == HN.type "list")=false:=⋯
 let h3:(HN.type "set" == HN.type "tuple")=false:=⋯
 simp only[h1,h2,h3,Bool.or_false,EX,if_false];calc HJ<|xK (s:={ s with heap:=s.heap.push lo }) J m hd v hf ha hl λI j d f fp St H P W Y hI L=>?_;let g2:j.get? a=Lh o:=H a o J;let n:Ib.TypeIs { s with heap:=j,drawn:=d } (.ref a) "set" := ⟨o,g2,m.1⟩;calc HJ<|HL ?_;unfold IP.List.listLengthHint;refine HJ (K0 n F.slot_set_len.lookup ?_)
 (generalize k:("set.__len__" : String)=id0;(fail_if_success (clear k id0));wp_delta;rw[show splitId id0=Lh ("set","__len__")from by subst k;decide+kernel];subst k)
 calc HJ<|KO (b:=Lj) n sub_set_self ?_;calc HJ<|KZ n ?_;calc HK ?_;show Ih _ A.in1 (rule "list.extend.makes-room" >>= λ_=>IP.List.listTouch (.ref ↥s) >>= λ_ =>
  again (.builtin "list.extend.loop" ⟨[.ref ↥s,.ref I,.ref ↥s],[]⟩)) _ _ _
 calc HJ<|Kn ?_;let c:j.get? ↥s=Lh lo:=H _ _ gS;rw[←B]at c;calc HJ ?_;show Ih _ A.in1 (K1 ↥s (·.push .none) >>= λ_=>K1 ↥s (·.pop)) _ _ _;calc HJ<|K2 c U ?_;let i:=HS.get?_update_self (Obj.mapSeq (·.push HN.none)) c U;calc K2 i U ?_;let p:=HS.get?_update_self (Obj.mapSeq (·.pop)) i U
 let y:∀b u,b≠↥s->j.get? b=Lh u ->
   ((j.update ↥s (Obj.mapSeq (·.push HN.none))).update ↥s (Obj.mapSeq (·.pop))).get? b=Lh u :=
  λb u v e=>(HS.get?_update_other _ _<|Ne.symm v).trans<|(HS.get?_update_other _ _<|Ne.symm v).trans e
 let x:(s.heap.push lo).objs.size=↥s+1:=HS.size_push ..;let C:↥s ∉ fp:=λr=>by
  rcases L _ r with z|z
  .exact zl R z
  .let O:(s.heap.push lo).objs.size<=↥s:=z;rw[x]at O;exact Nat.not_succ_le_self _ O
 let T:=W A.in1 (by simp[hh]);let G:⇑f=q.size:=by rw[P.length_eq,bc,Dn]
 let K:=T.frame 0 ({ s with heap:=j,drawn:=d }:Ib) ((j.update ↥s (Obj.mapSeq (·.push HN.none))).update ↥s (Obj.mapSeq (·.pop))) s.toks Y (xX _) λb g Z e=>y b Z (λz=>C<|z ▸ g) e
 refine HK ⟨JZ F.plain_extend_loop _,codeAny_extend_loopS T (by unfold JV at v;unfold HU;lia) _ C _ q.size 0 _ _ _ U (yX _)
  K p (ItemsOf.nil _) λs' xM c' r D X=>?_⟩
 show Ih _ A (load ↥s >>= _) _ _ s';calc HJ<|wpAny_load D ?_;calc HK ?_;rw[vZ X G];calc h f s' P (λb u e=>?_) r.gens r.os<|HS.lt_size D;let g:b<↥s:=HS.lt_size e;calc r.heap b u (λz=>?_)<|y b u (yl g)<|H b u<|HS.get?_push_of_some _ e;rcases bW.mp z with z|z
 .exact yl g z
 .let V:b=I:= ~~~z
  let N:(s.heap.push lo).objs.size<=I:=hI;rw[x,←V]at N;calc AJ _<|zb g<|Nat.le_of_succ_le N
variable{Ln:Ly (HR×Obj)}{σ:St}{H:Hp}
section
variable{h':HS}{Y:Ly HR}
theorem Inv.excStepY(I:Inv X Ln σ H s)(st:Stp (frs X.stack) Y s.heap h')(h:∀b∈Y,ie X Ln H b):Inv X Ln σ H { s with heap:=h' }:=by
 let F:∀b,b≠X.env.locals->b ∉ X.fs->b ∉ frs X.stack:=λb R Q z=>(bW.mp<|I.stkSub b z).elim R Q
 let w:∀b o,X.s₀.heap.get? b=Lh o->b ∉ Y:=λb o q z=>by rw[(h b z).ent]at q;cases q
 let B:∀b o,X.s₀.heap.get? b=Lh o->b≠X.env.locals:=λb o q=>yl<|zb (HS.lt_size q) I.ok.above
 let any:∀b o,b ∉ Y->s.heap.get? b=Lh o->∃t,h'.get? b=Lh { o with slots:=t }:=λb o M q=>by
  by_cases J:b∈frs X.stack
  .exact st.slot b o J q
  .exact⟨o.slots,st.keep b o J M q⟩
 let e:∀x c,X.env.cells.lookup x=Lh c->∀v,s.heap.IsCell c v->h'.IsCell c v:=λx c f v ⟨o,N,P⟩=>by
  let(t,q):=any c o (λz=>(h c z).cel x c f U) N;exact⟨_,q,P⟩
 refine⟨I.ok,I.os,I.bare,⟨λb o q n g a=>?_,λb o q n g a=>?_,I.base.free,λb o q a=>?_,I.base.tups,I.base.frzs,I.base.tbls⟩,?_,λx c f=>?_,I.free,I.freeC,λp G=>?_,I.hok.stp st I.stkFree<|λb g=>(h b g).unt,I.len⟩
 .exact st.keep b o (F b (B b o q) g) (w b o q)<|I.base.keep b o q n g a
 .let(t,A):=I.base.slot b o q n g a;let(j,y):=any b _ (w b o q) A;exact⟨j,y⟩
 .let(o1,A):=I.base.there b o q a;let(j,y):=any b _ (w b o q) A;exact⟨_,y⟩
 .let(m,(L,S,T,C,r),O):=I.loc;let(t,q):=any X.env.locals L (λz=>(h _ z).loc U) C;calc⟨m,⟨_,S,T,q,r⟩,λi x v Z W V=>?_⟩;let(u,K,l):=O i x v Z W V;calc⟨u,K,?_⟩;rcases l with l|⟨k,c,f,z⟩
  .exact .inl l
  .exact .inr ⟨k,c,f,e x c f _ z⟩
 .let(v,z):=I.cell x c f;exact⟨v,e x c f v z⟩
 .let(q,n,E,D,d):=I.pin p G;calc⟨st.keep p.1 p.2 (F p.1 E D) (λz=>(h _ z).pin p G U) q,n,E,D,d⟩
end
def CW(X:Cx)(L:HR)(E:XK):HN->Ib->Prop:=λf c=>∃(e C:HR)(d:HN×HN)(Ts:Ly HR)(Ln:Ly (HR×Obj))(σ:St)(a:Hp),f=.ref e/\Inv X Ln σ a c/\xD c.heap L e (.ref C) d Ts/\(∀b∈e :: Ts,ie X Ln a b)/\∃m,(m=Li->d.2=.none)/\E (.ref C) m a
variable{P:HQ}{K:W.Frag}{base:HS}{f:HR}
section
variable{mg:Str->Option HN}{N:Ly Str}{qual:Str}{scope:Ic}{cd:HN}{outer:Ly Env}{s0:Ib}{H0:Hp}{E:XK}
abbrev cxE(P:HQ)(w:HP)(K:W.Frag)(mg:Str->Option HN)(base:HS)(N:Ly Str)(qual:Str)(scope:Ic)(f:HR)(cd:HN)(A:Ia)(outer:Ly Env)(s0:Ib)(H0:Hp)(E:XK):Cx :=
 (jH (CX1 P w) P w K mg base N qual scope f cd A outer s0 H0 E).wish (CW (jH (CX1 P w) P w K mg base N qual scope f cd A outer s0 H0 E) ↥s0 E)
theorem v7{n:HN}{s:Ib}(h:CW (jH (CX1 P w) P w K mg base N qual scope f cd A outer s0 H0 E) ↥s0 E n s):(jH (CX1 P w) P w K mg base N qual scope f cd A outer s0 H0 E).xe n s:=by
 let(e,C,y,Ts,Ln,σ,H,rfl,I,x,g,q):=h;let k:(jH (CX1 P w) P w K mg base N qual scope f cd A outer s0 H0 E).A.frames=Lh (envOfC qual scope ↥s0 f cd :: outer):=I.ok.frames;let u:(envOfC qual scope ↥s0 f cd).frame=Lh ↥s0:=rfl;show Ih (model P w) _ (leaving (envOfC qual scope ↥s0 f cd)<|.ref e) _ _ s;unfold leaving;calc HJ<|note k I.stack u x λv T r p t=>?_;let c:=I.excStepY r g;let j:ie (jH (CX1 P w) P w K mg base N qual scope f cd A outer s0 H0 E) Ln H T:=by
  rcases t with z|z
  .exact I.newAt U z
  .exact g T<|iE e z
 let i:=g e fH;let m:∀b∈[e,T],ie (jH (CX1 P w) P w K mg base N qual scope f cd A outer s0 H0 E) Ln H b:=λb a=>by
  rcases bW.mp a with z|z
  .rw[z];exact i
  .rw[show b=T by simpa using z];exact j
 refine xF (s:={ s with heap:=v }) (l:=envOfC qual scope ↥s0 f cd :: outer) c.stack p λB d x3=>?_
 refine⟨e,T,C,y,H,U,c.os,c.bare,c.base.stp d (λb o q a=>?_) (λb a=>?_)<|λb a=>(m b a).ent,c.hok.stp d c.stkFree<|λb a=>(m b a).unt,x3,i.ent,j.ent,i.unt,j.unt,q⟩
 .rcases bW.mp (c.stkSub b a)with z|z
  .exact Lr (zb (HS.lt_size q) c.ok.above) (by rw[z];exact AJ _)
  .exact z
 .show b∈frs (envOfC qual scope ↥s0 f cd :: outer);unfold frs;rw[nF];calc iE _ a
def PSs.leaves{st:Ly Io}{t:TS}(h:PSs (cxE P w K mg base N qual scope f cd A outer s0 H0 E) st t):PSs (jH (CX1 P w) P w K mg base N qual scope f cd A outer s0 H0 E) st t:=λLn s σ H D I a =>
 Ip (h Ln s σ H D (I.wish _) a) (λ_ _ q=>q.unwish) λ_ _ z=>v7 z
theorem Fun.okE{x:Str}{st:Io}{e:Jf}{ps:Ly Str}{k:Nat}{sp:Sp}(F:Fun K x qual st f e)(S:av N ps (ao st))(b:∀vs H Q E,sp vs H Q E->⇑vs=⇑ps)
  (j:∀(a:HN)(A:Ia)(outer:Ly Env)(s:Ib)(H:Hp)(vs:Ly V)(Q:VK)(E:XK),bT k (A.deeper<|envOfC qual (ao st) ↥s f a)->sp vs H Q E ->
   ∃t,PSs (cxE P w K mg base N qual (ao st) f a A outer s H E) (cX st) t/\t { nx:=λ_ H'=>Q .non H',rt:=Q } (start N vs) H):aK P w K mg base (CX1 P w) (k+1) f e ps sp:=by
 let(p,o,kV,m,n,u,a,r,l,rfl,g,d):=F.ex;refine xo g d S b λA outer s H vs Q E i c=>?_
 let(t,h,q):=j a A outer s H vs Q E i c;calc⟨t,h.leaves,q⟩
theorem v9{x:Str}{C:HR}{L d pos:Pos}{a:Ij}{c:Ly Ij}{t:TA}(X:ExcCls K C)(S:A.handled=Li)(R:Gl (cxE P w K mg base N qual scope f cd A outer s0 H0 E) x)(O:mg x=↑C)
  (V:PA (cxE P w K mg base N qual scope f cd A outer s0 H0 E) (a :: c) t)(k:(x == ("__debug__" : Str))=false:=by decide)
  (he:Im (a :: c) (envOfC qual scope ↥s0 f cd)=(Ll,eval a<|envOfC qual scope ↥s0 f cd) :: Im c (envOfC qual scope ↥s0 f cd):=by rfl)
  (i:(Il d<|Im c<|envOfC qual scope ↥s0 f cd).any (·.1)=false:=by rfl) :
  PS (cxE P w K mg base N qual scope f cd A outer s0 H0 E) (.Raise (Lh<|.Call (.Name x L) (a :: c) [] d) Li pos) (Bv C E t):=by
 intro Ln s σ H D I h;let(a3,a2,n,B,Bn,a0,xG,a1,M,F1,F2,u):=X.ex;let(bm,N',nm,q,bs,hdct,sn,sub,ab,col,dd,k0,k1,k2,k3,k5,mN,G,F,y,p):=ExcCls.obj I.ok.mod.kin M;refine wpAny_Raise_call_subU (C:=C) (nm:=nm) (q:=q) (N:=N') (bs:=bs) (bm:=bm) (hdct:=hdct) (sn:=sn) (sub:=sub) (ab:=ab) (col:=col) (dd:=dd) (k0:=k0) (k1:=k1) (k2:=k2) (k3:=k3) (k5:=k5) F1 F2 u (OwnTail.hasType p u.hasBase) S (by
  show(Il d<|Im (a :: c)<|envOfC qual scope ↥s0 f cd).any (·.1)=Ll;rw[he];show(Ll || (Il d<|Im c<|envOfC qual scope ↥s0 f cd).any (·.1))=Ll;rw[i];rfl) (mN:=mN) y (dH I R O ⟨U,?_⟩ k)
 show Ih _ _ (evalArgs (.ref C) Lj (Il d<|Im (a :: c)<|envOfC qual scope ↥s0 f cd) []) _ _ s;rw[he];calc Calls.evalArgs_plain ?_;let z:Ih (model P w) (cxE P w K mg base N qual scope f cd A outer s0 H0 E).A (spliced<|Il d<|Im (a :: c)<|envOfC qual scope ↥s0 f cd) _ _ s:=V d Ln s σ H _ I h;rw[he]at z;refine thn z λus s2 ⟨vs,H2,g,r,Q,v⟩=>⟨U,by rw[←⇑r];exact Q,?_⟩
 refine⟨g.bk C _ G,?_,p.keeps g.bk,λh' e m=>?_⟩
 .let(o,l,Z,Y,W):=F;exact⟨o,l,Z,g.bk _ _ Y,W⟩
 .let J:=g.unwish;let(t',j,_,_):=m.there;calc⟨e,C,(.ref t',.none),[],Ln,σ,H2,U,J.kept (t':=s2.toks) m.keeps,.fresh j U U U U U,λb T=>?_,Li,λ_=>U,v⟩;rw[show b=e by simpa using T];calc J.newAt U m.new
theorem passE:Passes (CX1 P w) (cxE P w K mg base N qual scope f cd A outer s0 H0 E) E:=λLn σ H s r p I h=>by
 let(e,T,C,n,o,rfl,g,d,un,hok,x,i,j,k,m,q):=h;let J:=(I.unwish).call' (ch:=[]) g un hok d λb z=>Lr z (by simp)
 let a:=(I.unwish).newAt U i;let c:=(I.unwish).newAt U j;calc⟨e,C,n,[T],Ln,σ,o,U,J,.fly x,λb l=>?_,q⟩;rcases bW.mp l with z|z
 .rw[z];exact⟨a.ent,k,a.loc,a.cel,a.pin⟩
 .rw[show b=T by simpa using z];calc⟨c.ent,m,c.loc,c.cel,c.pin⟩
end
theorem jw:cF X (.builtin "len") (λxs H Q=>∃(l:HR)(zs:Ly Str),xs=[.ref l]/\H l=Lh (oQ X.prog X.w l zs)/\⇑zs<=1000/\Q (.int ((cntK zs ⇑zs:Nat):Int)) H):=by
 intro Ln s σ H xs i Q I r h;let(l,zs,rfl,e,j,q):=h;let(u,rfl,b):=r.one;obtain rfl:u=HN.ref l:=b;let((o,k,m,t,g,f,d,_,_,_,c,a),_,_):=I.hok l _ e;let le:=kz zs ⇑zs;refine call_len_set g f d c (by rw[a];lia) ⟨.int _,H,I.tok _,⟨_,U⟩,?_⟩;rw[a];calc q
def En(sp:Sp)(E:XK)(t:TA):TE:=λσ H Q=>t σ H λa b=>sp a b Q E
variable{k:Nat}{C:HR}{fd:Jf}{ps:Ly Str}{sp:Sp}{x m:Str}
section
variable{p np pos apos:Pos}{e o:Ij}{es:Ly Ij}{ta:TE}{t:TA}{E:XK}
theorem jK(M:bN X.prog X.w X.K X.mg X.base k x ps sp)(i:Passes (CX1 X.prog X.w) X E)(j:bT k X.A)(m:Gl X x)(n:PA X (e :: es) t)(c:(x == ("__debug__" : Str))=false:=by decide)
  (he:Im (e :: es) X.env=(Ll,eval e X.env) :: Im es X.env:=by rfl)(a:(Il pos<|Im es X.env).any (·.1)=false:=by rfl):PE X (.Call (.Name x p) (e :: es) [] pos) (En sp E t):=by
 let(f,fd,F,b,g,l):=M;intro Ln s σ H Q I h;calc HM<|dH I m l ?_ c;calc W.callWith_K (h₀:=X.base) I.ok.mod.kin g (thn (n pos Ln s σ H _ I h) λu v ⟨o,y,d,r,q⟩=>⟨d.kIn,zm F j b i d r q⟩) he a
end
theorem jL:∀{b:Ly Int}{us:Ly HN},Vals (b.map V.int) us->∃xs:Ly (Int×Tok),us.toArray=K3 xs.toArray/\b=xs.map (·.1)
 | [],_,.nil=>⟨[],by simp[K3],U⟩
 |n :: b,_,.cons ⟨t,e⟩ r=>by
  let(xs,d,c):=jL r;refine⟨(n,t) :: xs,?_,by rw[c];rfl⟩;subst e;let a:=Lw Array.toList d;simp[K3]at a⊢;calc a
theorem pQ{xs:Array (Int×Tok)}{i:Nat}(h:i<xs.size):numAt xs i∈xs.toList.map (·.1):=by
 rw[K4];calc getD_mem (by rw[bc,Dn];lia)
theorem f7(C:X.calm=Lj):cF X (.builtin "min") (λus H Q=>∃(a:HR)(c:Ly Int),us=[.ref a]/\SqL X.K H a (c.map V.int)/\0<⇑c/\∀m,m∈c->(∀b∈c,m<=b)->Q (.int m) H):=by
 intro Ln s σ H us G Q I r h;let(a,c,rfl,y,d,q):=h;let(u,rfl,n):=r.one;cases (show u=HN.ref a from n);let(F,p,w,J):=I.list y;let(xs,E,f):=jL p;let i:=w.isList;rw[E]at i;let g:0<xs.toArray.size:=by
  rw[f,bc]at d;simpa using d
 refine min_intList (I.ok.hd C) i g λv M l x A=>?_
 let(t,rfl):=intItems_at x;let(L,D):=argBest_lt (numAt xs.toArray)<|xs.toArray.size-1;refine⟨.int _,H,I.kept (t':=l) λb o e=>A b o e,⟨t,U⟩,q _ ?_ λb k=>?_⟩
 .rw[f];exact pQ (xs:=xs.toArray) ∅
 .rw[f]at k;let(j,B,rfl):=mem_getD k;rw[bc]at B;let z:=D j (by simp;lia);rw[K4]at z⊢;rw[K4]at z;simpa using z
theorem gb(C:X.calm=Lj):cF X (.builtin "max") (λus H Q=>∃(a:HR)(c:Ly Int),us=[.ref a]/\SqL X.K H a (c.map V.int)/\0<⇑c/\∀m,m∈c->(∀b∈c,b<=m)->Q (.int m) H):=by
 intro Ln s σ H us G Q I r h;let(a,c,rfl,y,d,q):=h;let(u,rfl,n):=r.one;cases (show u=HN.ref a from n);let(F,p,w,J):=I.list y;let(xs,E,f):=jL p;let i:=w.isList;rw[E]at i;let g:0<xs.toArray.size:=by
  rw[f,bc]at d;simpa using d
 refine max_intList (I.ok.hd C) i g λv M l x A=>?_
 let(t,rfl):=intItems_at x;let(L,D):=argBest_gt (numAt xs.toArray)<|xs.toArray.size-1;refine⟨.int _,H,I.kept (t':=l) λb o e=>A b o e,⟨t,U⟩,q _ ?_ λb k=>?_⟩
 .rw[f];exact pQ (xs:=xs.toArray) ∅
 .rw[f]at k;let(j,B,rfl):=mem_getD k;rw[bc]at B;let z:=D j (by simp;lia);rw[K4]at z⊢;rw[K4]at z;simpa using z
def zq(P:HQ)(w:HP)(a:HR)(b:Ly Int):HO:=.ext λh=>h.SetOf (HW P w) a (λz=>decide<|z∈b)<|cntK b ⇑b
theorem nh:∀{zs:Ly Int}{us:Ly HN},Vals (zs.map V.int) us->∀(i:Nat)(v:HN),us[i]?=Lh v->∃z t,zs[i]?=Lh z/\v=.int z t
 | [],_,.nil,i,v,h=>by simp at h
 |z :: zs,_,.cons ⟨t,e⟩ r,0,v,h=>by simp at h;exact⟨z,t,U,by rw[←h,e]⟩
 |z :: zs,_,.cons _ r,i+1,v,h=>by
  let(a,t,c,b):=nh r i v<|~~~h;calc⟨a,t,~~~c,b⟩
theorem oS(B:X.calm=Lj):cF X (.type "set") (λxs H Q=>∃(p:HR)(zs:Ly Int),xs=[.ref p]/\SqL X.K H p (zs.map V.int)/\⇑zs<=1000/\∀l,H l=Li->Q (.ref l) (upd H l<|zq X.prog X.w l zs)):=by
 intro Ln s σ H xs F Q I r h;let(p,zs,rfl,C,G,q):=h;let(u,rfl,n):=r.one;obtain rfl:u=HN.ref p:=n;let(E,d,A,_):=I.list C;let f:=⇑d;rw[bc]at f;refine pM (knd:=HW X.prog X.w) (ks:=zs) (I.ok.hd B) A.isList (λi v e=>?_) (~~~f) (by unfold JV;simp;lia) λh' m x=>?_
 .let(z,t,D,rfl):=nh d i v<|~~~e;exact⟨z,D,by show HN.isInt z (.int z t)=Lj;simp[HN.isInt],U⟩
 .let(c,j):=x;calc⟨.ref ↥s,_,I.laid (a:=↥s) (o:=zq X.prog X.w ↥s zs) (h':=h') (t':=m) (λb o q=>j b o (HS.lt_size q) q) (xX _) ?_,U,q _ I.fresh⟩;calc⟨c,?_,λL J y k=>gG y k⟩;let(o,_,_,_,g,_):=c;calc⟨o,g⟩
theorem oU:cF X (.builtin "len") (λxs H Q=>∃(l:HR)(zs:Ly Int),xs=[.ref l]/\H l=Lh (zq X.prog X.w l zs)/\⇑zs<=1000/\Q (.int ((cntK zs ⇑zs:Nat):Int)) H):=by
 intro Ln s σ H xs i Q I r h;let(l,zs,rfl,e,j,q):=h;let(u,rfl,b):=r.one;obtain rfl:u=HN.ref l:=b;let((o,k,m,t,g,f,d,_,_,_,c,a),_,_):=I.hok l _ e;let le:=kz zs ⇑zs;refine call_len_set g f d c (by rw[a];lia) ⟨.int _,H,I.tok _,⟨_,U⟩,?_⟩;rw[a];calc q
theorem rM{b:Type} [DecidableEq b] {k:b}{ks:Ly b}:∀i,i<=⇑ks->1<=cntK (k :: ks) (i+1)/\(cntK (k :: ks) (i+1)=1↔∀x∈ks.take i,x=k)
 |0,_=>by simp[cntK]
 |i+1,h=>by
  let(d,c):=rM (k:=k) (ks:=ks) i ∅;let e:(k :: ks)[i+1]?=Lh ks[i]:=by simp
  let j:ks[i]?=Lh ks[i]:=HF ∅;let f:ks.take (i+1)=ks.take i++[ks[i]]:=by rw[oH,j];rfl
  let g:(k :: ks).take (i+1)=k :: ks.take i:=rfl;rw[show cntK (k :: ks) (i+1+1)=match (k :: ks)[i+1]? with
   |some x=>if x∈(k :: ks).take (i+1)then cntK (k :: ks) (i+1)else cntK (k :: ks) (i+1)+1
   |none=>cntK (k :: ks) (i+1)from U,e,f,g]
  dsimp only;by_cases m:ks[i]∈k :: ks.take i
  .rw[Lq m];calc⟨d,c.trans ⟨λz x a=>?_,λz x a=>z x<|nL _ a⟩⟩;rcases hZ.mp a with a|a
   .exact z x a
   .let:x=ks[i]:= ~~~a
    rw[this];rcases bW.mp m with m|m
    .exact m
    .exact z _ m
  .rw[Lp m];calc⟨∅,⟨λz=>Lr z ∅,λz=>?_⟩⟩;calc Lr (z ks[i] (jW _ (by simp))) λq=>m (by rw[q];exact fH)
theorem pR{a:Type} [DecidableEq a] {k:a}{ks:Ly a}:cntK (k :: ks) ⇑(k :: ks)=1↔∀x∈ks,x=k:=by
 let:=(rM (k:=k) (ks:=ks) ⇑ks<|xX _).2;rw[gd]at this;calc this
def TyG(K:W.Frag)(H:Hp)(x:V)(t:HN):Prop:=lD K H x t\/∃a b,x=.ref a/\SqT K H a b/\t=.type "tuple"
inductive ClV:V->HN->Prop where
 |ty (T:String):ClV (.ty T) (.type T)
 |ref (C:HR):ClV (.ref C) (.ref C)
theorem cZ:cF X (.builtin "isinstance") (λxs H Q=>∃x c d t b,xs=[x,c]/\ClV c d/\TyG X.K H x t/\W.kitOne X.K t d=Lh b/\Q (.bl b) H):=by
 intro Ln s σ H xs v Q I r h;let(x,c,d,t,b,rfl,i,ty,e,q):=h;cases r with
 |cons g j =>
  cases j with
  | @cons _ cu _ _ ry r3 =>
   cases r3;let n:cu=d:=by cases i <;> exact ry
   subst n;rcases ty with ty|⟨a,u,rfl,k,rfl⟩
   .exact vK I g ty e λf=>⟨.bl b,H,I.tok f,U,q⟩
   .cases (show _=HN.ref a from g);let(p,r,(o,m,l,_),_):=I.tuple k;calc W.kia_one W.kitx_tuple I.kIn ⟨o,m,l⟩ e (λz=>nomatch z) λf=>⟨.bl b,H,I.tok f,U,q⟩
structure ni(K:W.Frag)(C:HR):Prop where
 cl:Cls K C
 ha:W.findIn K (.ref C) "__class__" = Lh (Lh<|.builtin "object.__class__")
 hn:W.specialIn K (.builtin "object.__class__") "__get__" = Lh (Lh<|.builtin "getset_descriptor.__get__")
 tk:W.takesIn K (.builtin "object.__class__")=Lh Lj
 hm:W.mroIn K C (.type "object")=Lh Lj
def ni.ty{K:W.Frag}{C:HR}(h:ni K C){H:Hp}{a b:HR}{fs:Ly (Str×V)}(e:H a=Lh (.ins C b fs)):TyG K H (.ref a) (.ref C):=.inl<|.ins e h.cl h.ha h.hn h.tk h.hm
def zr(CX:CXT)(P:HQ)(w:HP)(K:W.Frag)(mg:Str->Option HN)(base:HS)(k:Nat)(m:Str)(ps:Ly Str)(a:Ly (HR×Sp)):Prop :=
 ∀p∈a,bD CX P w K mg base k p.1 m ps p.2/\Cls K p.1
variable{CX:CXT}
section
variable{mg:Str->Option HN}{cs:Ly (HR×Sp)}
def CY:zr CX P w K mg base k m ps []:=λ_ h=>nomatch h
theorem rN(M:bD CX P w K mg base k C m ps sp)(c:Cls K C)(r:zr CX P w K mg base k m ps cs):zr CX P w K mg base k m ps ((C,sp) :: cs):=λp h=>by
 rcases bW.mp h with rfl|h
 .exact⟨M,c⟩
 .exact r p h
end
inductive AE(cs:Ly (HR×Sp))(m:Str)(t:TA)(σ:St)(Q:VK)(x:V)(H1:Hp):Prop
 |mk (a p dx fs:_)(_:x=.ref a)(_:p∈cs)(_:H1 a=Lh (.ins p.1 dx fs))(_:fs.lookup m=Li)(_:t σ H1 λvs H2=>p.2 (x :: vs) H2 Q E0):AE cs m t σ Q x H1
def Eo(b:Ly (HR×Sp))(m:Str)(a:TE)(t:TA):TE:=λσ H Q=>a σ H λx c=>AE b m t σ Q x c
section
variable{p np pos apos:Pos}{e o:Ij}{es:Ly Ij}{ta:TE}{t:TA}{cs:Ly (HR×Sp)}
theorem xN{pl:Sem Bool}(M:zr CX X.prog X.w X.K X.mg X.base k m ps cs)(B:Passes CX X E0)(D:bT k X.A)(G:PE X o ta)(L:PA X (e :: es) t)
  (b:Im (e :: es) X.env=(Ll,eval e X.env) :: Im es X.env:=by rfl)(d:(Il pos<|Im es X.env).any (·.1)=false:=by rfl)
  (C:eval (.Call (.Attribute o m apos) (e :: es) [] pos) X.env=(do
   let g ←eval o X.env
   Iv apos.atName
   let (f,first) ←holding [g] (IZ g m pl)
   JT pos f first (Il pos<|Im (e :: es) X.env) (Jy pos<|Jz [] X.env)):=by rfl) :
  PE X (.Call (.Attribute o m apos) (e :: es) [] pos) (Eo cs m ta t):=by
 intro Ln s σ H Q I h;calc W.methodCall_KW (pl:=pl) (thn (G Ln s σ H _ I h) λu v ⟨x,P,n,y,a,p,R,fs,N,E,O,l,q⟩=>?_) C;let((f,fd,i,F,J),c):=M p E;subst N;obtain rfl:u=HN.ref a:=y;calc mP n O c i l ?_;calc W.callWith_K (first:=[.ref a]) (h₀:=X.base) I.ok.mod.kin i.kp (thn (L pos Ln v σ P _ n q) λus s2 ⟨vs,S,j,r,z⟩=>⟨j.kIn,?_⟩) b d;calc zm (us:=.ref a :: us) (vs:=.ref a :: vs) F D J B j (.cons U r) z
theorem lI(M:bw CX X.prog X.w X.K X.mg X.base k x C ps sp)(b:Passes CX X E0)(c:bT (k+1) X.A)(e:Gl X x)(a:(x == ("__debug__" : Str))=false:=by decide) :
  PE X (.Call (.Name x p) [] [] pos) (tMk C sp Bi):=by
 let(f,fd,M,F,g,d):=M;let h:=xn (E:=E0) (dvs:=[]) (ds:=[]) (p:=p) (pos:=pos) M F c e d g .nil b a;intro Ln s σ H Q I q;calc h Ln s σ H Q I q
end
def ModT(K:W.Frag)(a:HR)(xs:Ly V):Prop:=∃(o:Obj)(b:Array HN)(n:Nat),K.lookup a=Lh o/\o.cls=.type "tuple" /\ o.data=.seq b n/\b.size<=HU/\Vals xs b.toList
def ModT.sq{K:W.Frag}{a:HR}{xs:Ly V}(h:ModT K a xs)(H:Hp):SqT K H a xs:=.inr h
def ModT.mk{K:W.Frag}{a:HR}{xs:Ly V}{d:Option HR}{b:Array HN}{n:Nat}{c:Array (Option HN)}(h:K.lookup a=Lh ⟨.type "tuple",d,.seq b n,c⟩) (f:b.size<=HU)(e:Vals xs b.toList):ModT K a xs :=
 ⟨_,b,n,h,U,U,f,e⟩
theorem dZ{c A B:Prop} [Decidable c] (a:c)(h:A):if decide c=Lj then A else B:=by rw[Lq (Ls a)];calc h
theorem bY{c A B:Prop} [Decidable c] (a:¬ c)(h:B):if decide c=Lj then A else B:=by rw[Lp (by rw[Lu a];decide)];calc h
theorem ls0{P:Ly HN->Prop}(h:P []):∀us:Ly HN,⇑us=0->P us:=λus e=>by
 cases us
 .exact h
 .cases e
theorem lsS{P:Ly HN->Prop}{n:Nat}(h:∀a us,⇑us=n->P (a :: us)):∀us:Ly HN,⇑us=n+1->P us:=λus e=>by
 cases us
 .cases e
 .exact h _ _<|Nat.succ.inj e
def ls1{P:Ly HN->Prop}(h:∀a,P [a]):∀us:Ly HN,⇑us=1->P us:=lsS λa=>ls0 (P:=λv=>P (a :: v))<|h a
def ls2{P:Ly HN->Prop}(h:∀a b,P [a,b]):∀us:Ly HN,⇑us=2->P us:=lsS λa=>ls1 (P:=λv=>P (a :: v))<|h a
def ls3{P:Ly HN->Prop}(h:∀a b c,P [a,b,c]):∀us:Ly HN,⇑us=3->P us:=lsS λa=>ls2 (P:=λv=>P (a :: v))<|h a
def ls4{P:Ly HN->Prop}(h:∀a b c d,P [a,b,c,d]):∀us:Ly HN,⇑us=4->P us:=lsS λa=>ls3 (P:=λv=>P (a :: v))<|h a
def ls5{P:Ly HN->Prop}(h:∀a b c d e,P [a,b,c,d,e]):∀us:Ly HN,⇑us=5->P us:=lsS λa=>ls4 (P:=λv=>P (a :: v))<|h a
def ls6{P:Ly HN->Prop}(h:∀a b c d e f,P [a,b,c,d,e,f]):∀us:Ly HN,⇑us=6->P us:=lsS λa=>ls5 (P:=λv=>P (a :: v))<|h a
def ls7{P:Ly HN->Prop}(h:∀a b c d e f g,P [a,b,c,d,e,f,g]):∀us:Ly HN,⇑us=7->P us:=lsS λa=>ls6 (P:=λv=>P (a :: v))<|h a
def lb1{fd:Jf}{ps:Ly Str}(h:∀a,Jh fd ⟨[a],[]⟩=pure (ps.zip [a])):∀us:Ly HN,⇑us=1->Jh fd ⟨us,[]⟩=pure (ps.zip us):=ls1 (P:=λus=>Jh fd ⟨us,[]⟩=pure (ps.zip us)) h
def lb2{fd:Jf}{ps:Ly Str}(h:∀a b,Jh fd ⟨[a,b],[]⟩=pure (ps.zip [a,b])):∀us:Ly HN,⇑us=2->Jh fd ⟨us,[]⟩=pure (ps.zip us):=ls2 (P:=λus=>Jh fd ⟨us,[]⟩=pure (ps.zip us)) h
def lb3{fd:Jf}{ps:Ly Str}(h:∀a b c,Jh fd ⟨[a,b,c],[]⟩=pure (ps.zip [a,b,c])):∀us:Ly HN,⇑us=3->Jh fd ⟨us,[]⟩=pure (ps.zip us):=ls3 (P:=λus=>Jh fd ⟨us,[]⟩=pure (ps.zip us)) h
def lb4{fd:Jf}{ps:Ly Str}(h:∀a b c d,Jh fd ⟨[a,b,c,d],[]⟩=pure (ps.zip [a,b,c,d])):∀us:Ly HN,⇑us=4->Jh fd ⟨us,[]⟩=pure (ps.zip us):=ls4 (P:=λus=>Jh fd ⟨us,[]⟩=pure (ps.zip us)) h
def lb6{fd:Jf}{ps:Ly Str}(h:∀a b c d e f,Jh fd ⟨[a,b,c,d,e,f],[]⟩=pure (ps.zip [a,b,c,d,e,f])):∀us:Ly HN,⇑us=6->Jh fd ⟨us,[]⟩=pure (ps.zip us):=ls6 (P:=λus=>Jh fd ⟨us,[]⟩=pure (ps.zip us)) h
def lb7{fd:Jf}{ps:Ly Str}(h:∀a b c d e f g,Jh fd ⟨[a,b,c,d,e,f,g],[]⟩=pure (ps.zip [a,b,c,d,e,f,g])):∀us:Ly HN,⇑us=7->Jh fd ⟨us,[]⟩=pure (ps.zip us):=ls7 (P:=λus=>Jh fd ⟨us,[]⟩=pure (ps.zip us)) h
section
variable{mg:Str->Option HN}{j:Nat}{q:Str}{N:Ly Str}{st:Io}
theorem fsc{P:Ly Str}{f:Ic}(a:f.kind=.function:=by rfl)(b:f.isCoroutine=false:=by rfl)(c:f.isGenerator=false:=by rfl)(d:N.Nodup:=by decide+kernel)(e:N.take P.length=P:=by rfl)(g:∀x∈P,f.names.lookup x=Lh .local\/f.names.lookup x=Lh .cell:=by decide+kernel)(h:∀y∈f.names,y.2≠.free:=by decide+kernel):av N P f:=⟨a,b,c,d,e,g,h⟩
theorem Fun.okA(F:Fun K x q st f fd)(S:av N ps (ao st))(d:∀(b:HN)(A:Ia)(a:Ly Env)(s:Ib)(H:Hp)(vs:Ly V)(Q:VK)(E:XK),bT k (A.deeper<|envOfC q (ao st) ↥s f b)->sp vs H Q E->∃t,PSs (jH CX0 P w K mg base N q (ao st) f b A a s H E).nox (cX st) t/\t { nx:=λ_ H'=>Q .non H',rt:=Q } (start N vs) H)(c:∀vs H Q E,sp vs H Q E->⇑vs=⇑ps:=by intro vs H Q E h;cases h;subst_vars;rfl):aK P w K mg base CX0 (k+1) f fd ps sp:=F.ok S c d
theorem Fun.okEA(F:Fun K x q st f fd)(S:av N ps (ao st))(d:∀(b:HN)(A:Ia)(a:Ly Env)(s:Ib)(H:Hp)(vs:Ly V)(Q:VK)(E:XK),bT k (A.deeper<|envOfC q (ao st) ↥s f b)->sp vs H Q E->∃t,PSs (cxE P w K mg base N q (ao st) f b A a s H E) (cX st) t/\t { nx:=λ_ H'=>Q .non H',rt:=Q } (start N vs) H)(c:∀vs H Q E,sp vs H Q E->⇑vs=⇑ps:=by intro vs H Q E h;cases h;subst_vars;rfl):aK P w K mg base (CX1 P w) (k+1) f fd ps sp:=F.okE S c d
theorem Callee.up(c:Callee P w K mg base j x ps sp)(h:j<=k:=by decide):Callee P w K mg base k x ps sp:=c.mono h
theorem bN.up(c:bN P w K mg base j x ps sp)(h:j<=k:=by decide):bN P w K mg base k x ps sp:=c.mono h
theorem bD.up(c:bD CX P w K mg base j C m ps sp)(h:j<=k:=by decide):bD CX P w K mg base k C m ps sp:=c.mono h
theorem bw.up(c:bw CX P w K mg base j x C ps sp)(h:j<=k:=by decide):bw CX P w K mg base k x C ps sp:=c.mono h
theorem cw.up(c:cw CX P w K mg base j x m ps sp)(h:j<=k:=by decide):cw CX P w K mg base k x m ps sp:=c.mono h
inductive GF(K:W.Frag)(x q:Str)(st:Io):Prop
 |mk {f:HR}{fd:Jf}(a:W.nsIn K HX x=Lh ↑f)(F:Fun K q q st f fd)
inductive MF(K:W.Frag)(C:HR)(x q:Str)(st:Io):Prop
 |mk {f:HR}{fd:Jf}(a:W.findIn K (.ref C) x=Lh ↑f)(i:W.isFn K (.ref f)=Lj)(F:Fun K x q st f fd)
inductive KF(K:W.Frag)(C:HR)(x q:Str)(st:Io):Prop
 |mk {f:HR}{fd:Jf}(a:W.findIn K (.ref C) "__init__" = Lh ↑f) (i:W.isFn K (.ref f)=Lj)(m:W.makesIn K C=Lj)(k:W.keepIn K (.ref C)=Lj)(n:W.nsIn K HX x=Lh ↑C)(F:Fun K "__init__" q st f fd)
inductive BF(K:W.Frag)(C:HR)(x m q:Str)(st:Io):Prop
 |mk {f:HR}{fd:Jf}(s:W.specialIn K (.ref C) "__getattribute__" = Lh (Lh<|.builtin "type.__getattribute__")) (r:W.readsIn K C (.type "type")=Lj) (a:W.findCls K (.ref C) (.type "type") m=Lh (.val<|.ref f)) (n:W.nsIn K HX x=Lh ↑C)(F:Fun K m q st f fd)
inductive Zb(P:HQ)(w:HP)(K:W.Frag)(mg:Str->Option HN)(base:HS):Prop
 |mk {h:HS}(X:K.In h)(G:h.Ns HX mg)
theorem Zb.g(Z:Zb P w K mg base){v:HN}(e:W.nsIn K HX x=Lh (Lh v)):mg x=Lh v:=by cases Z with|mk X G=>calc W.mg_of X G e
theorem mkC(Z:Zb P w K mg base)(h:GF K x q st)(O:∀{f:HR}{fd:Jf},Fun K q q st f fd->aK P w K mg base CX0 k f fd ps sp)(b:∀{f:HR}{fd:Jf},Fun K q q st f fd->Binds K fd ps []:=by trivial):Callee P w K mg base k x ps sp:=by
 cases h with|mk a F=>calc⟨_,_,O F,b F,F.kp,Z.g a⟩
theorem mkX(Z:Zb P w K mg base)(h:GF K x q st)(O:∀{f:HR}{fd:Jf},Fun K q q st f fd->aK P w K mg base (CX1 P w) k f fd ps sp)(b:∀{f:HR}{fd:Jf},Fun K q q st f fd->Binds K fd ps []:=by trivial):bN P w K mg base k x ps sp:=by
 cases h with|mk a F=>calc⟨_,_,O F,b F,F.kp,Z.g a⟩
theorem mkM(_:Zb P w K mg base)(h:MF K C m q st)(O:∀{f:HR}{fd:Jf},Fun K m q st f fd->aK P w K mg base CX k f fd ps sp)(b:∀{f:HR}{fd:Jf},Fun K m q st f fd->Binds K fd ps []:=by trivial):bD CX P w K mg base k C m ps sp:=by
 cases h with|mk a i F=>calc⟨_,_,⟨a,i,F.kp⟩,O F,b F⟩
theorem mkK(Z:Zb P w K mg base)(h:KF K C x q st)(O:∀{f:HR}{fd:Jf},Fun K "__init__" q st f fd->aK P w K mg base CX k f fd ps sp) (b:∀{f:HR}{fd:Jf},Fun K "__init__" q st f fd->Binds K fd ps []:=by trivial):bw CX P w K mg base k x C ps sp:=by
 cases h with|mk a i m k n F=>calc⟨_,_,⟨m,a,i,k⟩,O F,b F,Z.g n⟩
theorem mkB(Z:Zb P w K mg base)(h:BF K C x m q st)(O:∀{f:HR}{fd:Jf},Fun K m q st f fd->aK P w K mg base CX k f fd ps sp)(b:∀{f:HR}{fd:Jf},Fun K m q st f fd->Binds K fd ps []:=by trivial):cw CX P w K mg base k x m ps sp:=by
 cases h with|mk s r a n F=>calc⟨_,_,_,⟨s,r,a,F.kp⟩,O F,b F,Z.g n⟩
theorem mkR{sp:Nat->Sp}(Z:Zb P w K mg base)(h:GF K x q st)(k n:Nat)(z:∀{vs:Ly V}{H:Hp}{Q:VK}{E:XK},¬ sp 0 vs H Q E)(O:∀{f:HR}{fd:Jf}(n:Nat),Fun K q q st f fd->Callee P w K mg base (k+n) x ps (sp n)->aK P w K mg base CX0 (k+n+1) f fd ps (sp<|n+1))(b:∀{f:HR}{fd:Jf},Fun K q q st f fd->Binds K fd ps []:=by trivial):Callee P w K mg base (k+n) x ps (sp n):=by
 cases h with|mk a F =>
 calc⟨_,_,?_,b F,F.kp,Z.g a⟩;induction n with
 |zero=>exact aK.no λ_ _ _ _ h=>z h
 |succ n c=>calc O n F ⟨_,_,c,b F,F.kp,Z.g a⟩
def gv_mk{v:V}{u:HN}(a:W.nsIn K HX x=Lh (Lh u))(r:RelV v u):∃u,W.nsIn K HX x=Lh (Lh u)/\RelV v u:=⟨u,a,r⟩
end
section
variable{h':HS}
theorem Inv.turnedPair{ch:Ly HR}{T:HR}{x y:V}{u v:HN}(I:Inv X Ln σ H s)(h:∀b∈ch,ll X Ln H b)(k:∀b o,b ∉ ch->s.heap.get? b=Lh o->h'.get? b=Lh o)
  (A:s.heap.get? T=Li)(D:H T=Li)(E:K5 h' T u v)(t:RelV x u)(p:RelV y v):Inv X Ln σ (upd H T<|.tup [x,y]) { s with heap:=h' }:=by
 let out:∀b u,H b=Lh u->b ∉ ch:=λb u e z=>by
  let f:=(h b z).1;rw[f]at e;cases e
 let j:∀{b o},s.heap.get? b=Lh o->b≠T:=λe z=>by rw[z,A]at e;cases e
 let a:∀{b u},H b=Lh u->b≠T:=λe z=>by rw[z,D]at e;cases e
 let J:=Inv.step (H':=upd H T<|.tup [x,y]) (h':=h') (g':=s.gens) (d':=s.drawn) (t':=s.toks) (ch:=ch) I
  (λb g=>by let(_,i,_,K,G,F):=h b g;exact⟨K,i,G,F⟩)
  (λb o _ _ d e _=>k b o d e)
  (λb o _ _ d e _=>⟨o.slots,k b o d e⟩)
  (λb o _ e n=>by rw[ay (j e)];exact n)
  (λb o d e=>⟨o,k b o d e⟩)
  (λb l e=>by rw[ay (a e)];exact e)
  (λb o w e=>by rw[ay (a e)];exact e)
  (λb ps e=>⟨#[],by rw[ay (a e),e];simp⟩)
  (λm C=>by
   let(o,L,M,B,r):=C;calc⟨o,L,M,k _ o (λz=>?_) B,r⟩;let(_,i,_):=h _ z;exact i U)
  (λb w e=>by
   by_cases g:b=T
   .subst g;rw[ae]at e;cases e;exact⟨by show 2<=HU;decide,[u,v],.cons t<|.cons p .nil,_,E,U,_,U⟩
   .rw[ay g]at e;refine(I.hok b w e).stay (λc z d q=>k c z ?_ q) (λc q=>?_) λc l q=>?_
    .rcases d with z|z
     .rw[z];exact out b w e
     .exact out c _ z
    .rw[ay (a q)];exact q
    .rw[ay (a q)];exact q)
  I.bare
 calc J
theorem Inv.turnedL{ch:Ly HR}(I:Inv X Ln σ H s)(d:∀b∈ch,ll X Ln H b)(k:∀b o,b ∉ ch->s.heap.get? b=Lh o->h'.get? b=Lh o):Inv X Ln σ H { s with heap:=h' }:=by
 let out:∀b u,H b=Lh u->b ∉ ch:=λb u e z=>by
  let f:=(d b z).1;rw[f]at e;cases e
 let J:=Inv.step (H':=H) (h':=h') (g':=s.gens) (d':=s.drawn) (t':=s.toks) (ch:=ch) I
  (λb l=>by let(_,g,_,v,t,p):=d b l;exact⟨v,g,t,p⟩)
  (λb o _ _ a e _=>k b o a e)
  (λb o _ _ a e _=>⟨o.slots,k b o a e⟩)
  (λb o _ _ n=>n)
  (λb o a e=>⟨o,k b o a e⟩)
  (λb h e=>e) (λb o w e=>e) (λb ps e=>⟨#[],by rw[e];simp⟩)
  (λm j=>by
   let(o,x,y,i,r):=j;calc⟨o,x,y,k _ o (λz=>?_) i,r⟩;let(_,g,_):=d _ z;exact g U)
  (λb w e=>by
   refine(I.hok b w e).stay (λc z a q=>k c z ?_ q) (λc q=>q) λc h q=>q
   rcases a with z|z
   .rw[z];exact out b w e
   .exact out c _ z)
  I.bare
 calc J
end
def Itz(K:W.Frag)(a b:HR):It :=
 ⟨λi H=>∃d c x y,SqL K H a d/\SqL K H b c/\d[i]?=Lh x/\c[i]?=Lh y,
 λi H v e=>∃T,H T=Li/\v=.ref T/\∀d c x y,SqL K H a d->SqL K H b c->d[i]?=Lh x->c[i]?=Lh y->e=upd H T (.tup [x,y]),
 λi H=>∃d c,SqL K H a d/\SqL K H b c/\(⇑d<=i\/⇑c<=i)⟩
def AF(z TI TO d c a b:HR)(i:Nat)(h:HS):Prop:=IsZip h z TI TO .none/\K5 h TI (.ref d) (.ref c)/\(∃p q,K5 h TO p q)/\h.IsListIter d a i/\h.IsListIter c b i
theorem xO{P:HQ}{w:HP}{K:W.Frag}{A:Ly Ij} {x1} {tp:Pos}{z TI TO t r a b:HR}(D:K6 z TI TO t r a b) :
  Turn P w K (.Tuple A x1 tp) (Itz K a b) [z,TI,TO,t,r] z (AF z TI TO t r a b) where
 mem:=by simp
 obj:=λi h f c d=>by
  let(n,g,(p,q,m),(o4,l,_,d4),(o5,j,_,d5)):=f;simp only[bW,jC,or_false]at d;rcases d with rfl|rfl|rfl|rfl|rfl
  .exact⟨_,n,λv q=>nomatch q⟩
  .exact⟨_,g,λv q=>nomatch q⟩
  .exact⟨_,m,λv q=>nomatch q⟩
  .exact⟨_,l,λv q=>by rw[d4]at q;cases q⟩
  .exact⟨_,j,λv q=>by rw[d5]at q;cases q⟩
 keep:=λi h h' f k=>by
  let(n,g,(p,q,m),l,j):=f;exact⟨k z (by simp) _ n,k TI (by simp) _ g,⟨p,q,k TO (by simp) _ m⟩,l.at λo e=>k t (by simp) o e,j.at λo e=>k r (by simp) o e⟩
 item:=by
  intro X R N S d i Ln s σ H E I F f Q;subst R N S;let(xs,ys,x,y,C,B,ex,ey):=Q;let(n,g,(p,q,m),l,j):=f;let(us,L,M,_):=I.list C;let(vs,G,pv,_):=I.list B;let(u,eu,r1):=L.get ex;let(v,ev,r2):=G.get ey;refine K7 D n g m l j M.isList pv.isList (x:=u) (y:=v) (~~~eu) (~~~ev) λh1 a1 a2 a3 a4 a5 a6 a7=>?_
  calc⟨_,U,wpAny_letOwnedTupleGo_zip (s:={ s with heap:=h1 }) a1 λV b1 b2=>?_⟩;let nT:s.heap.get? ↥s=none:=by
   cases q:s.heap.get? ↥s with
   |none=>rfl
   |some o=>exact Lr (HS.lt_size q) (AJ _)
  let hT:H ↥s=none:=I.hok.fresh<|xX _;let nz:↥s≠z:=zl<|HS.lt_size n;let kk:∀c o,c ∉ [z,TO,t,r]->s.heap.get? c=Lh o->V.get? c=Lh o:=λc o d e=>by
   simp only[bW,jC,or_false,not_or]at d;exact b2.extBut _ _ d.1<|a7 c o d.1 d.2.1 d.2.2.1 d.2.2.2 e
  let J:=I.turnedPair (h':=V) (ch:=[z,TO,t,r]) (T:=↥s) (x:=x) (y:=y) (u:=u) (v:=v) (λc d=>F c (by simp at d⊢;rcases d with e|e|e|e <;> simp[e])) kk nT hT (b2.extBut _ _ nz a5) r1 r2;refine⟨.ref ↥s,upd H ↥s<|.tup [x,y],J,U,⟨_,hT,U,λb0 a9 x' y' q1 q2 Z Y=>?_⟩,⟨b1,b2.extBut _ _ D.TIz<|a7 TI _ D.TIz D.TITO D.TIi1 D.TIi2 g,⟨_,_,b2.extBut _ _ D.TOz a2⟩,a3.extBut b2.extBut D.i1z,a4.extBut b2.extBut D.i2z⟩,λc d=>?_⟩
  .rw[I.list_inj q1 C]at Z;rw[I.list_inj q2 B]at Y;rw[ex]at Z;rw[ey]at Y;cases Z;cases Y;rfl
  .let h0:=(F c d).1;let:c≠↥s:=by
    let(o4,a8,_):=l;let(o5,a0,_):=j;simp only[bW,jC,or_false]at d;rcases d with rfl|rfl|rfl|rfl|rfl
    .exact nz.symm
    .exact yl<|HS.lt_size g
    .exact yl<|HS.lt_size m
    .exact yl<|HS.lt_size a8
    .exact yl<|HS.lt_size a0
   rw[ay this];exact h0
 done:=by
  intro X R N S d i Ln s σ H E I F f Q;subst R N S;let(xs,ys,C,B,O):=Q;let(n,g,(p,q,m),l,j):=f;let(us,L,M,_):=I.list C;let(vs,G,pv,_):=I.list B;let l1:=L.length;let l2:=G.length;refine K8 (I.ok.hd d) D n g m l j M.isList pv.isList ?_ λV k=>⟨U,I.turnedL (ch:=[z,TO,t,r]) (λc d=>F c (by simp at d⊢;rcases d with e|e|e|e <;> simp[e])) λc o d e=>?_⟩
  .rcases O with O|O
   .exact .inl (by simp;lia)
   .exact .inr (by simp;lia)
  .simp only[bW,jC,or_false,not_or]at d;exact k c o d.1 d.2.1 d.2.2.1 d.2.2.2 e
 self:=λ_ _ _ _ _ f h=>K9 f.1 h
inductive AG(K:W.Frag)(R:It->Hp->Prop)(vs:Ly V)(H1:Hp):Prop
 |mk (a b:_)(_:vs=[.ref a,.ref b])(_:(∃xs,SqL K H1 a xs))(_:(∃ys,SqL K H1 b ys))(_:R (Itz K a b) H1)
def Ep(K:W.Frag)(b:TA):TI:=λσ H R=>b σ H λa c=>AG K R a c
theorem uk{k e:Ij}{m:TA}{p pos:Pos}{j:Ly Ij} {x1} {tp:Pos}(N:Gl X "zip") (hm:X.mg "zip" = Li) (O:PA X [k,e] m)
  (M:Im [k,e] X.env=[(Ll,eval k X.env),(Ll,eval e X.env)]:=by rfl)(g:Im [e] X.env=[(Ll,eval e X.env)]:=by rfl) :
  PI X (.Tuple j x1 tp) (.Call (.Name "zip" p) [k,e] [] pos) (Ep X.K m):=by
 intro Ln s σ H R I h;refine Call_ (fU I N hm PyProof.Rows.boot_zip<|PyProof.Rows.callWith_type1 (thn (O pos Ln s σ H _ I h) λC d ⟨B,T,f,F,L⟩=>?_) (by rw[M,g]) (by rw[g];rfl));let(a,b,rfl,(Y,J),(W,G),q):=L;let(u,v,rfl,E,D):=F.two;cases (show u=HN.ref a from E);cases (show v=HN.ref b from D);let(C,_,n,_):=f.list J;let(B,_,pv,_):=f.list G;let(oa,S,_):=id n.isList;let(Z,Q,_):=id pv.isList;let r:a<↥d:=HS.lt_size S;let o:b<↥d:=HS.lt_size Q;refine call_zip_2 n.isList pv.isList λP l A z y x V w=>?_
 calc K9 (s:={ d with heap:=P }) l ?_;refine⟨↥d+4,[↥d+4,↥d+2,↥d+3,↥d,↥d+1],AF (↥d+4) (↥d+2) (↥d+3) ↥d (↥d+1) a b,Itz X.K a b,T,U,f.kept (t':=d.toks) w,xO ?_,⟨l,A,⟨_,_,z⟩,y,x⟩,λc t=>?_,q⟩
 .refine⟨?_,?_,?_,?_,?_,?_,?_,?_,?_,?_,?_,?_,?_,?_,?_,?_,?_,?_⟩ <;> first|exact yl ∅|exact zl ∅|exact yl r|exact yl o|exact yl (zb r<|Bp _ _)|exact yl (zb o<|Bp _ _)
 .let i:↥d<=c:=by
   simp only[bW,jC,or_false]at t;rcases t with rfl|rfl|rfl|rfl|rfl <;> lia
  calc f.fpOk i<|f.hok.fresh i
theorem vg{K:W.Frag}{a b:HR}{xs ys:Ly V}{g:TG}{o:TS}{D:Ends}{σ:St}{H:Hp}(c:Nat->St->Hp->Prop)(z:c 0 σ H)(u:∀i σ H,c i σ H->SqL K H a xs/\SqL K H b ys)
  (t:∀i x y σ H T,xs[i]?=Lh x->ys[i]?=Lh y->c i σ H->H T=Li->g (.ref T) σ (upd H T<|.tup [x,y]) λd n=>o { D with nx:=c<|i+1,ct:=c<|i+1,bk:=D.nx } d n)
  (hd:∀σ H,c (min ⇑xs ⇑ys) σ H->D.nx σ H) :
  ∃W:Nat->Nat->St->Hp->Prop,(∃m,W 0 m σ H)/\∀i m σ H,W i m σ H ->
   ((Itz K a b).stop i H/\D.nx σ H)\/((Itz K a b).go i H/\∃N:St->Hp->Prop,(∀f H',N f H'->∃q,q<m/\W (i+1) q f H')/\∀x H',(Itz K a b).yld i H x H'->g x σ H' λd n=>o { D with nx:=N,ct:=N,bk:=D.nx } d n):=by
 refine⟨λi m σ H=>m=min ⇑xs ⇑ys-i/\i<=min ⇑xs ⇑ys/\c i σ H,⟨min ⇑xs ⇑ys,by simp,yX _,z⟩,?_⟩;rintro i m σ H ⟨rfl,hi,p⟩;let(j,h):=u i σ H p;by_cases lt:i<min ⇑xs ⇑ys
 .let l:xs[i]?=Lh xs[i]:=HF ∅;let k:ys[i]?=Lh ys[i]:=HF ∅;refine .inr ⟨⟨xs,ys,_,_,j,h,l,k⟩,c<|i+1,λf H' s=>⟨_,?_,U,lt,s⟩,λv H' r=>?_⟩
  .lia
  .let(T,w,rfl,e):=r;rw[e xs ys _ _ j h l k];exact t i _ _ σ H T l k p w
 .let e:i=min ⇑xs ⇑ys:=∅
  subst e;calc .inl ⟨⟨xs,ys,j,h,∅⟩,hd σ H p⟩
def xP{a b:Int}{m n:Nat}(f:a.natAbs<2^m)(e:b.natAbs<2^n)(d:m<=2^20)(c:n<=2^20):IT a b :=
 .of_bits (yW (PyProof.Rows.intBits_le f) d) (yW (PyProof.Rows.intBits_le e) c)
def jx{X:Cx}{K:W.Frag}(h:X.K=K):cF X (.type "list") (λxs H Q=>∃p ys,xs=[.ref p]/\(SqL K H p ys\/SqT K H p ys)/\∀l,H l=Li->Q (.ref l) (upd H l<|.lst ys)):=h ▸ cV
def oV{X:Cx}{K:W.Frag}(h:X.K=K):cF X (.builtin "len") (λxs H Q=>∃p ys,xs=[.ref p]/\(SqL K H p ys\/SqT K H p ys)/\Q (.int ⇑ys) H):=h ▸ aw
set_option maxRecDepth 100000
abbrev jM(h:HS)(z TI TO a:HR)(b:Bool):Prop :=
 h.get? z=Lh { cls:=.type "zip",dict:=Li,data:=.fields #[IL a,.bool b,.bool Ll,.ref TI,.ref TO],slots:=#[] }
def kC{a:HR}{Q:Option Obj->Ib->Prop}(h:Q (s.heap.get? a) s):Ih (model prog w) A (loadIfAlive a) Q E s:=λ_ _ _=>h
theorem pS{z TI TO a:HR}{b:Bool}{o:Obj}{Q:Bool->Ib->Prop}(hz:jM s.heap z TI TO a b)(d:s.heap.get? a=Lh o)
  (h:∀h',jM h' z TI TO a Lj->HS.SameBut z s.heap h'->Q Ll { s with heap:=h' }):Ih (model prog w) A (IP.SmallTypes.ownedTupleIsFree<|.ref z) Q E s:=by
 unfold IP.SmallTypes.ownedTupleIsFree;calc HJ<|JR hz U (x:=IL a) U ?_;show Ih _ _ (loadIfAlive ((a:Int).toNat) >>= _) _ _ _;calc HJ<|kC ?_;rw[E2,d];simp only[Option.isNone_some,EX,if_false];calc HJ<|JR hz U (x:=.bool b) U ?_;cases b with
 |true =>
  rw[Lp (by simp)];calc HK ?_;let e:s={ s with heap:=s.heap }:=by cases s;rfl
  rw[e];exact h s.heap hz<|HS.SameBut.refl z s.heap
 |false =>
  rw[Lq ⋯];refine HJ (KI hz (by simp) λf g c=>?_);calc HK<|h f g c
theorem wa{z TI TO u i p q t:HR}{W:Bool}{k1 k2:Nat}{xs ys:Array HN}{x y a b:HN}{o:Obj}{Q:Option HN->Ib->Prop}(D:K6 z TI TO i p q t)
  (hz:jM s.heap z TI TO u W)(G:s.heap.get? u=Lh o)(C:K5 s.heap TI (.ref i) (.ref p))(X:K5 s.heap TO a b)
  (R:s.heap.IsListIter i q k1)(P:s.heap.IsListIter p t k2)(B:s.heap.IsList q xs)(v:s.heap.IsList t ys)(N:xs[k1]?=Lh x)(M:ys[k2]?=Lh y)
  (O:∀h',jM h' z TI TO u Lj->h'.IsListIter i q (k1+1)->h'.IsListIter p t (k2+1)->K5 h' ↥s x y->h'.objs.size=↥s+1 ->
   (∀c o,c≠z->c≠i->c≠p->s.heap.get? c=Lh o->h'.get? c=Lh o)->Q (Lh<|.ref ↥s) { s with heap:=h' }) :
  Ih (model prog w) A (II<|.ref z) Q E s:=by
 let H:s.TypeIs (.ref z) "zip" := ⟨_,hz,U⟩;unfold II;calc HJ<|Kz<|KA (name:=s!"__next__") H F.slot_zip_next<|KC F.slot_zip_next H F.entry_zip_next ?_<|F.args_zip_next_1 _;show Ih _ _ (field (.ref z) 2 >>= _) _ _ _;calc HJ<|JR hz U (x:=.bool Ll) U ?_;show Ih _ _ (field (.ref z) 3 >>= _) _ _ _;calc HJ<|JR hz U (x:=.ref TI) U ?_;calc HJ<|KQ C U ?_;show Ih _ _ (IP.SmallTypes.ownedTupleIsFree (.ref z) >>= _) _ _ _;calc HJ<|pS hz G λK k d=>?_;simp only[EX,if_false];calc HJ ?_;rw[←Array.forIn_toList];simp only[List.forIn_cons,List.forIn_nil];calc HJ<|HJ<|HL ?_;show Ih _ _ (IP.SmallTypes.nextOf (.ref i) >>= _) _ _ _;calc HJ<|La (R.extBut d.extBut D.i1z) (B.extBut d.extBut D.l1z) N λJ n g=>HK ?_;calc HK ?_;dsimp only;calc HJ<|HJ<|HL ?_;show Ih _ _ (IP.SmallTypes.nextOf (.ref p) >>= _) _ _ _;calc HJ<|La ((P.extBut d.extBut D.i2z).extBut g.extBut D.i12.symm) ((v.extBut d.extBut D.l2z).extBut g.extBut D.l2i1) M λf l h=>HK ?_;calc HK ?_;dsimp only;calc HK ?_;refine HJ (KW ?_ (by show 2<=HU;decide));let r:f.objs.size=↥s:=by rw[h.1,g.1,d.1]
 calc HK ⟨_,U,HK ?_⟩;show Q ↑f.objs.size _;let j:jM f z TI TO u true:=h.extBut _ _ D.i2z.symm<|g.extBut _ _ D.i1z.symm k;let m:f.IsListIter i q (k1+1):=n.extBut h.extBut D.i12;let I:(f.push { cls:=.type "tuple",data:=.seq #[x,y] }).get? f.objs.size=Lh { cls:=.type "tuple",data:=.seq #[x,y] }:=HS.get?_push_size _ U;let L:(f.push { cls:=.type "tuple",data:=.seq #[x,y] }).objs.size=↥s+1:=by rw[HS.size_push,r]
 rw[r]at I⊢;calc O _ (HS.get?_push_of_some _ j) (m.at λo e=>HS.get?_push_of_some _ e) (l.at λo e=>HS.get?_push_of_some _ e) I L λc o V T S e=>HS.get?_push_of_some _<|h.extBut _ _ S<|g.extBut _ _ T<|d.extBut _ _ V e
theorem xQ{z TI TO O j i r p:HR}{Z:Bool}{k1 k2:Nat}{xs ys:Array HN}{a b:HN}{o:Obj}{Q:Option HN->Ib->Prop}(K:A.handled=Li)(D:K6 z TI TO j i r p)
  (hz:jM s.heap z TI TO O Z)(H:s.heap.get? O=Lh o)(G:K5 s.heap TI (.ref j) (.ref i))(a0:K5 s.heap TO a b)
  (M:s.heap.IsListIter j r k1)(Y:s.heap.IsListIter i p k2)(l:s.heap.IsList r xs)(B:s.heap.IsList p ys)(S:xs[k1]?=Li\/ys[k2]?=Li)
  (X:∀h',(∀c o,c≠z->c≠j->c≠i->s.heap.get? c=Lh o->h'.get? c=Lh o)->Q Li { s with heap:=h' }) :
  Ih (model prog w) A (II<|.ref z) Q E s:=by
 let L:s.TypeIs (.ref z) "zip" := ⟨_,hz,U⟩;unfold II;calc HJ<|Kz<|KA (name:=s!"__next__") L F.slot_zip_next<|KC F.slot_zip_next L F.entry_zip_next ?_<|F.args_zip_next_1 _;show Ih _ _ (field (.ref z) 2 >>= _) _ _ _;calc HJ<|JR hz U (x:=.bool Ll) U ?_;show Ih _ _ (field (.ref z) 3 >>= _) _ _ _;calc HJ<|JR hz U (x:=.ref TI) U ?_;calc HJ<|KQ G U ?_;show Ih _ _ (IP.SmallTypes.ownedTupleIsFree (.ref z) >>= _) _ _ _;calc HJ<|pS hz H λR I d=>?_;simp only[EX,if_false];calc HJ ?_;rw[←Array.forIn_toList];simp only[List.forIn_cons,List.forIn_nil];calc HJ<|HJ<|HL ?_;show Ih _ _ (IP.SmallTypes.nextOf (.ref j) >>= _) _ _ _
 let m:∀h' e,(∀c o,c≠z->c≠j->c≠i->s.heap.get? c=Lh o->h'.get? c=Lh o)->(∃o,h'.get? e=Lh o/\o.cls=.type "StopIteration") ->
   Ih (model prog w) A (do if ←isInstance (.ref e) (.type "StopIteration")then pure Li else throw (.ref e)) Q E { s with heap:=h' }:=λh' e k ⟨V,y,C⟩=>by
  calc HJ<|KO (T := "StopIteration") (b:=Lj) ⟨V,y,C⟩ KP ?_;exact HK<|X _ k
 cases hx:xs[k1]? with
 |none =>
  calc HJ<|Lb K (M.extBut d.extBut D.i1z) (l.extBut d.extBut D.l1z) hx λn e f t=>?_;exact m _ _ (λc o v u N q=>f _ _ u<|d.extBut _ _ v q) t
 |some x =>
  let W:ys[k2]?=none:=by rcases S with h|h;rw[hx]at h;cases h;exact h
  calc HJ<|La (M.extBut d.extBut D.i1z) (l.extBut d.extBut D.l1z) hx λn J f=>HK ?_;calc HK ?_;dsimp only;calc HJ<|HJ<|HL ?_;show Ih _ _ (IP.SmallTypes.nextOf (.ref i) >>= _) _ _ _;calc HJ<|Lb K ((Y.extBut d.extBut D.i2z).extBut f.extBut D.i12.symm) ((B.extBut d.extBut D.l2z).extBut f.extBut D.l2i1) W λP e g t=>?_;calc m _ _ (λc o v u N q=>g _ _ N<|f.extBut _ _ u<|d.extBut _ _ v q) t
section
variable{R:I0->Ib->Prop}
def neA{a T:HR}{N:Nat}(h:a<N)(h':N<=T):T≠a:=zl<|zb h h'
def AH(h:HS)(z TI TO:HR)(N:Nat)(i:Nat):Prop:=(i=0/\IsZip h z TI TO .none)\/∃a b o,N<=a/\a≠z/\jM h z TI TO a b/\h.get? a=Lh o/\o.cls=.type "tuple"
theorem um{z TI TO C B L K S:HR}{xs ys:Array HN}{I:HN}(hh:A.handled=Li)(D:K6 z TI TO C B L K)(N:Nat)(hz:z<N)(c0:TI<N)(a8:TO<N)(X:C<N)(W:B<N)(b9:L<N)(b6:K<N)(hS:S<N)
  (m:S≠z/\S≠TI/\S≠TO/\S≠C/\S≠B/\S≠L/\S≠K)(hn:min xs.size ys.size<=HU) :
  ∀(d i:Nat)(s:Ib)(l:Array HN)(c:Nat)(ts:Ly HR),min xs.size ys.size=i+d->N<=↥s->AH s.heap z TI TO N i->K5 s.heap TI (.ref C) (.ref B)->(∃a b,K5 s.heap TO a b) ->
   s.heap.IsListIter C L i->s.heap.IsListIter B K i->s.heap.IsList L xs->s.heap.IsList K ys->s.heap.get? S=Lh { cls:=.type "list",dict:=Li,data:=.seq l c,slots:=#[] } ->
   l.toList=ts.map HN.ref->⇑ts=i->ts.Nodup->(∀(j:Nat)(T:HR),ts[j]?=Lh T->N<=T/\∃x y,xs[j]?=Lh x/\ys[j]?=Lh y/\K5 s.heap T x y) ->
   (∀(h':HS)(xM:Array HN)(c':Nat)(n:Ly HR),(∀b o,b<N->b≠S->b≠z->b≠TO->b≠C->b≠B->s.heap.get? b=Lh o->h'.get? b=Lh o)->h'.get? S=Lh { cls:=.type "list",dict:=Li,data:=.seq xM c',slots:=#[] } ->
    xM.toList=n.map HN.ref->⇑n=min xs.size ys.size->n.Nodup->(∀(j:Nat)(T:HR),n[j]?=Lh T->N<=T/\∃x y,xs[j]?=Lh x/\ys[j]?=Lh y/\K5 h' T x y)->R (.ok<|.ret I) { s with heap:=h' }) ->
   Ja (model prog w) A (.builtin "list.extend.loop" ⟨[.ref S,.ref z,I],[]⟩) R s:=by
 intro d;induction d with
 |zero =>
  intro i s l c ts e hN r Y ⟨a,b,p2⟩ t1 t2 q1 q2 g ea el nd hts v;calc JX F.entry_extend_loop ?_;rw[Ia.under_plainId F.plain_extend_loop _];show Ih _ A.in1 (II (.ref z) >>= _) _ _ s;let rH:xs[i]?=Li\/ys[i]?=none:=by
   by_cases hx:xs.size<=i
   .exact .inl<|Array.getElem?_eq_none hx
   .exact .inr<|Array.getElem?_eq_none ∅
  let Q:∀h',(∀b o,b≠z->b≠TO->b≠C->b≠B->s.heap.get? b=Lh o->h'.get? b=Lh o)->R (.ok<|.ret I) { s with heap:=h' }:=λh' k=>by
   refine v h' l c ts (λb o _ _ P b2 O M q=>k b o P b2 O M q) (k S _ m.1 m.2.2.1 m.2.2.2.1 m.2.2.2.2.1 g) ea ∅ nd λj T E=>?_
   let(h,x,y,V,H,G):=hts j T E;exact⟨h,x,y,V,H,k T _ (neA hz h) (neA a8 h) (neA X h) (neA W h) G⟩
  rcases r with⟨_,r⟩|⟨T0,bb,o,J,_,r,gT,_⟩
  .exact HJ<|K8 (by simp[hh]) D r Y p2 t1 t2 q1 q2 rH λh' k=>HK<|Q h' k
  .exact HJ<|xQ (by simp[hh]) D r gT Y p2 t1 t2 q1 q2 rH λh' k=>HK<|Q h' λb o P _ O M q=>k b o P O M q
 |succ d ih =>
  intro i s l c ts e hN r Y ⟨a,b,p2⟩ t1 t2 q1 q2 g ea el nd hts v;let ix:i<xs.size:=∅
  let iy:i<ys.size:=∅
  calc JX F.entry_extend_loop ?_;rw[Ia.under_plainId F.plain_extend_loop _];show Ih _ A.in1 (II (.ref z) >>= _) _ _ s;let a0:l.size=i:=by rw[←Dn,ea,bc,el]
  let go:∀h',AH h' z TI TO N (i+1)->(∃a b,K5 h' TO a b)->h'.IsListIter C L (i+1)->h'.IsListIter B K (i+1)->K5 h' ↥s xs[i] ys[i]->h'.objs.size=↥s+1 ->
    (∀b o,b≠z->b≠TO->b≠C->b≠B->s.heap.get? b=Lh o->h'.get? b=Lh o) ->
    Ih (model prog w) A.in1 (K1 S (·.push (.ref ↥s)) >>= λ_=>again<|.builtin "list.extend.loop" ⟨[.ref S,.ref z,I],[]⟩)
     (λv s'=>match v with | .done f=>R (.ok f) s' | .again c'=>c'.quiet=Lj/\Ja (model prog w) A c' R s') (λe s'=>R (.error e) s') { s with heap:=h' }:=λh' z1 z2 z3 z4 z5 z6 k=>by
   let gS:h'.get? S=Lh { cls:=.type "list",dict:=Li,data:=.seq l c,slots:=#[] }:=k S _ m.1 m.2.2.1 m.2.2.2.1 m.2.2.2.2.1 g;refine HJ (K2 gS U ?_ (by rw[a0];lia) (by show(l.push _).size<=HU+1;rw[Array.size_push,a0];lia));let gU:=HS.get?_update_self (Obj.mapSeq (·.push (HN.ref ↥s))) gS U;generalize hH:h'.update S (Obj.mapSeq (·.push (HN.ref ↥s)))=h2 at gU⊢;let sb:HS.SameBut S h' h2:=hH ▸ HS.SameBut.update ..;let p:∀b o,b≠S->h'.get? b=Lh o->h2.get? b=Lh o:=λb o hb q=>(sb.2 b hb).trans q
   let a9:h2.objs.size=↥s+1:=by rw[sb.1,z6]
   refine HK ⟨JZ F.plain_extend_loop _,ih (i+1) { s with heap:=h2 } (l.push<|.ref ↥s) _ (ts++[↥s]) ∅ (by rw[a9];lia) ?_ (p TI _ m.2.1.symm<|k TI _ D.TIz D.TITO D.TIi1 D.TIi2 Y) ?_ (z3.at λo q=>p C o m.2.2.2.1.symm q) (z4.at λo q=>p B o m.2.2.2.2.1.symm q)
    ((q1.at λo q=>k L o D.l1z D.l1TO D.l1i1 D.l1i2 q).at λo q=>p L o m.2.2.2.2.2.1.symm q) ((q2.at λo q=>k K o D.l2z D.l2TO D.l2i1 D.l2i2 q).at λo q=>p K o m.2.2.2.2.2.2.symm q) gU (by rw[Er,ea,dW];rfl) (by simp[el]) ?_ (λj T E=>?_) λh3 xM c' n k3 g3 e3 l3 n3 f3=>?_⟩
   .rcases z1 with⟨z',_⟩|⟨T0,bb,o,h,V,H,G,Z⟩
    .exact Lr z' ∅
    .exact .inr ⟨T0,bb,o,h,V,p z _ m.1.symm H,p T0 _ (neA hS h) G,Z⟩
   .let(a',b',q):=z2;exact⟨a',b',p TO _ m.2.2.1.symm q⟩
   .rw[wt];refine⟨nd,by simp,λt ht u hu=>?_⟩;let eu:u=↥s:= ~~~hu
    let(j,E):=List.mem_iff_getElem?.mp ht;let(_,x,y,_,_,gp):=hts j t E;let:=HS.lt_size gp;exact λq=>AJ _ (by rw[q,eu]at this;exact this)
   .rw[List.getElem?_append]at E;split at E
    .let(h,x,y,V,H,G):=hts j T E;exact⟨h,x,y,V,H,p T _ (neA hS h)<|k T _ (neA hz h) (neA a8 h) (neA X h) (neA W h) G⟩
    .rename_i hlt
     have b5:j=i:=by
      let(q,_):=HG.mp E;simp at q;lia
     subst b5;rw[el,CM]at E;let eT:↥s=T:= ~~~E
     subst eT;exact⟨hN,xs[j],ys[j],D0 ix,D0 iy,p _ _ (neA hS hN) z5⟩
   .exact v h3 xM c' n (λb o b0 bS P b2 O M q=>k3 b o b0 bS P b2 O M<|p b o bS<|k b o P b2 O M q) g3 e3 l3 n3 f3
  rcases r with⟨_,r⟩|⟨T0,bb,o,J,CZ,r,gT,cT⟩
  .refine HJ<|K7 D r Y p2 t1 t2 q1 q2 (x:=xs[i]) (y:=ys[i]) (D0 ix) (D0 iy) λh' h V H G Z a6 a7=>?_;exact go h' (.inr ⟨↥s,Ll,_,hN,zl<|zb hz hN,h,Z,U⟩) ⟨_,_,V⟩ H G Z a6 a7
  .refine HJ<|wa D r gT Y p2 t1 t2 q1 q2 (x:=xs[i]) (y:=ys[i]) (D0 ix) (D0 iy) λh' h H G Z a6 a7=>?_;calc go h' (.inr ⟨T0,Lj,o,J,CZ,h,a7 T0 o CZ (neA X J) (neA W J) gT,cT⟩) ⟨_,_,a7 TO _ D.TOz D.TOi1 D.TOi2 p2⟩ H G Z a6 λb o P _ O M q=>a7 b o P O M q
end
set_option maxRecDepth 100000
theorem uo:Jt (.type "zip") "__len__" = pure none:=by rw[Kq,Kr];kernel_rfl
theorem rO:Jt (.type "zip") "__length_hint__" = pure none:=by rw[Kq,Kr];kernel_rfl
theorem oW{z TI TO m l I H:HR}{xs ys:Array HN}{Q:HN->Ib->Prop}(hh:A.handled=Li)(D:K6 z TI TO m l I H)(G:IsZip s.heap z TI TO .none)(V:K5 s.heap TI (.ref m) (.ref l))(S:K5 s.heap TO .none .none)
  (t1:s.heap.IsListIter m I 0)(O:s.heap.IsListIter l H 0)(R:s.heap.IsList I xs)(P:s.heap.IsList H ys)(Y:min xs.size ys.size<=HU)
  (h:∀(h':HS)(i:Array HN)(c:Nat)(ts:Ly HR),(∀b o,b≠z->b≠TO->b≠m->b≠l->s.heap.get? b=Lh o->h'.get? b=Lh o)->h'.get? ↥s=Lh { cls:=.type "list",dict:=Li,data:=.seq i c,slots:=#[] } ->
   i.toList=ts.map HN.ref->⇑ts=min xs.size ys.size->ts.Nodup->(∀(j:Nat)(T:HR),ts[j]?=Lh T->↥s+1<=T/\∃x y,xs[j]?=Lh x/\ys[j]?=Lh y/\K5 h' T x y)->Q (.ref ↥s) { s with heap:=h' }) :
  Ih (model prog w) A (call (.type "list") [.ref z]) Q E s:=by
 let L:z<↥s:=HS.lt_size G;let B:TI<↥s:=HS.lt_size V;let v:TO<↥s:=HS.lt_size S;let u:m<↥s:=let ⟨_,e,_⟩:=t1;HS.lt_size e;let t:l<↥s:=let ⟨_,e,_⟩:=O;HS.lt_size e;let r:I<↥s:=let ⟨_,e,_⟩:=R;HS.lt_size e;let q:H<↥s:=let ⟨_,e,_⟩:=P;HS.lt_size e
 refine callType_codes (Q₁:=λobj k=>obj=.ref ↥s/\k={ s with heap:=s.heap.push { cls:=.type "list",data:=.seq #[] } }) F.called_list (F.typeCall_list_1 _) F.entry_list_init
  (code_list_new _ ⟨U,U⟩) λobj k C=>?_
 let(rfl,rfl):=C;let K:(s.heap.push { cls:=.type "list",data:=.seq #[] }).get? ↥s=Lh { cls:=.type "list",data:=.seq #[] }:=HS.get?_push_size _ U;calc⟨⟨_,K,U⟩,F.args_list_init_2 _ _,?_⟩;show Ih _ _ (do let N ←IP.List.listItems (.ref ↥s);IP.List.listUpdate (.ref ↥s) (λ_=>#[]);letGo N.toList.reverse;IP.List.listExtendWith (.ref ↥s) (.ref z) .none) _ _ _;calc HJ ?_;unfold IP.List.listItems;calc HJ<|KQ K U<|HK ?_;show Ih _ _ (K1 ↥s (λ_=>#[]) >>= λ_=>letGo (#[]:Array HN).toList.reverse >>= λ_=>IP.List.listExtendWith (.ref ↥s) (.ref z) .none) _ _ _;calc HJ<|K2 K U ?_;let a:=HS.get?_update_self (Obj.mapSeq<|λ_=>(#[]:Array HN)) K U;calc HJ<|wpAny_letGo ?_;let J:∀b o,s.heap.get? b=Lh o->((s.heap.push { cls:=.type "list",data:=.seq #[] }).update ↥s<|Obj.mapSeq<|λ_=>(#[]:Array HN)).get? b=Lh o:=λb o e =>
  (HS.get?_update_other _ _<|zl<|HS.lt_size e).trans (HS.get?_push_of_some _ e)
 let p:((s.heap.push { cls:=.type "list",data:=.seq #[] }).update ↥s<|Obj.mapSeq<|λ_=>(#[]:Array HN)).objs.size=↥s+1:=by rw[HS.size_update,HS.size_push]
 generalize (s.heap.push { cls:=.type "list",data:=.seq #[] }).update ↥s (Obj.mapSeq<|λ_=>(#[]:Array HN))=hA at a J p⊢;let M:Ib.TypeIs { s with heap:=hA } (.ref z) "zip" := ⟨_,J _ _ G,U⟩;unfold IP.List.listExtendWith;calc HJ<|KZ M ?_;let h1:IP.List.listSameRef (.ref ↥s) (.ref z)=false:=by simp[IP.List.listSameRef];exact zl L
 let h2:(HN.type "zip" == HN.type "list")=false:=⋯
 let h3:(HN.type "zip" == HN.type "tuple")=false:=⋯
 simp only[h1,h2,h3,Bool.or_false,EX,if_false];calc HJ<|K9 (s:={ s with heap:=hA }) (J _ _ G) ?_;calc HJ<|HL ?_;unfold IP.List.listLengthHint;calc HJ<|K0 M uo ?_;show Ih _ _ (specialOf (HN.ref z) s!"__length_hint__" >>= _) _ _ _;calc HJ<|K0 M rO ?_;calc HK ?_;show Ih _ _ (rule "list.extend.makes-room" >>= λ_=>IP.List.listTouch (.ref ↥s) >>= λ_ =>
  again (.builtin "list.extend.loop" ⟨[.ref ↥s,.ref z,.none],[]⟩)) _ _ _
 calc HJ<|Kn ?_;calc HJ ?_;show Ih _ _ (K1 ↥s (·.push .none) >>= λ_=>K1 ↥s (·.pop)) _ _ _;calc HJ<|K2 (s:={ s with heap:=hA }) a U ?_;let f:=HS.get?_update_self (Obj.mapSeq (·.push HN.none)) a U;refine K2 (hz:=by seq_fits) f U ?_;let d:=HS.get?_update_self (Obj.mapSeq (·.pop)) f U;let g:∀b o,s.heap.get? b=Lh o->((hA.update ↥s (Obj.mapSeq (·.push HN.none))).update ↥s (Obj.mapSeq (·.pop))).get? b=Lh o :=
  λb o e=>(HS.get?_update_other _ _<|zl<|HS.lt_size e).trans<|(HS.get?_update_other _ _<|zl<|HS.lt_size e).trans<|J b o e
 let n:((hA.update ↥s (Obj.mapSeq (·.push HN.none))).update ↥s (Obj.mapSeq (·.pop))).objs.size=↥s+1:=by rw[HS.size_update,HS.size_update,p]
 generalize (hA.update ↥s (Obj.mapSeq (·.push HN.none))).update ↥s (Obj.mapSeq (·.pop))=hB at d g n⊢
 refine HK ⟨JZ F.plain_extend_loop _,um (by simp[hh]) D (↥s+1) (zp L) (zp B) (zp v) (zp u) (zp t) (zp r) (zp q) (A9 _)
  ⟨zl L,zl B,zl v,zl u,zl t,zl r,zl q⟩ Y (min xs.size ys.size) 0 { s with heap:=hB } #[] _ [] (Cq _).symm (by rw[n];exact xX _)
  (.inl ⟨U,g _ _ G⟩) (g _ _ V) ⟨_,_,g _ _ S⟩ (t1.at λo e=>g _ _ e) (O.at λo e=>g _ _ e) (R.at λo e=>g _ _ e) (P.at λo e=>g _ _ e) d U U wJ (λj T Z=>by simp at Z) λh' i c ts X g3 e3 W n3 f3=>?_⟩
 exact⟨U,h h' i c ts (λb o b1 b2 b3 b4 e=>X b o (zp<|HS.lt_size e) (yl<|HS.lt_size e) b1 b2 b3 b4<|g b o e) g3 e3 W n3 f3⟩
set_option maxRecDepth 100000
theorem bf:∀{l L:Ly Int},l.Nodup->(∀x∈l,x∈L)->⇑l<=L.length
 | [],_,_,_=>yX _
 |x :: l,L,hn,hs=>by
  let(f,d):=oN.mp hn;let b:=hs x fH;let c:=bf (L:=L.erase x) d λy a=>(List.mem_erase_of_ne<|λ(e:y=x)=>f<|e ▸ a).mpr<|hs y<|iE _ a
  rw[List.length_erase_of_mem b]at c;let:0<L.length:=List.length_pos_of_mem b;rw[ik];lia
theorem qo:∀{vs:Ly HN},(∀v∈vs,∃u,v=.int (fG v) u)->IntsAre vs (vs.map fG)
 | [],_=>.nil
 |v :: vs,h=>by
  let(u,e):=h v fH;rw[e];calc .cons _ u<|qo λx a=>h x<|iE _ a
theorem pT:∀{vs:Ly HN}{a:Ly Int},IntsAre vs a->Vals (a.map V.int) vs
 |_,_,.nil=>.nil
 |_,_,.cons n t r=>.cons ⟨t,U⟩<|pT r
theorem iC:∀{a:Ly Int},a.Pairwise (· <= ·)->a.Nodup->a.Pairwise (· < ·)
 | [],_,_=>.nil
 |n :: a,h1,h2=>by
  let(f,d):=qd.mp h1;let(c,b2):=oN.mp h2;calc .cons (λm b=>?_)<|iC d b2;let:=f m b;let:n≠m:=λe=>c<|e ▸ b
  lia
section
variable{H':Hp}
theorem Inv.grow{s':Ib}(I:Inv X Ln σ H s)(k:∀b o,s.heap.get? b=Lh o->s'.heap.get? b=Lh o)(l:s'.gens=s.gens)(d:s'.os=s.os)(a:∀b,b<↥s->H' b=H b)
  (v:∀b u,↥s<=b->H' b=Lh u->cK X.prog X.w H' s'.heap b u):Inv X Ln σ H' s':=by
 let(h',g',d',t',h):=s';obtain rfl:g'=s.gens:=l;obtain rfl:h=s.os:=d;let lt:∀{b u},H b=Lh u->b<↥s:=λ{b u} e=>by
  rcases AB b ↥s with z|z
  .exact z
  .rw[I.hok.fresh z]at e;cases e
 let same:∀{b u},H b=Lh u->H' b=Lh u:=λe=>by rw[a _ (lt e)];exact e
 exact I.step (h':=h') (g':=s.gens) (d':=d') (t':=t') (ch:=[]) (λ_ z=>nomatch z) (λb o _ _ _ e _=>k b o e) (λb o _ _ _ e _=>⟨o.slots,k b o e⟩)
  (λb o _ e n=>by rw[a _ (HS.lt_size e)];exact n) (λb o _ e=>⟨o,k b o e⟩) (λb f e=>same e) (λb o u e=>same e) (λb ps e=>⟨#[],by rw[same e];simp⟩)
  (λm j=>by
   let(o,p,t,i,r):=j;exact⟨o,p,t,k _ o i,r⟩)
  (λb u e=>by
   rcases AB b ↥s with z|z
   .rw[a _ z]at e;exact(I.hok b u e).stay (λc g _ q=>k c g q) (λc q=>same q) λc f q=>same q
   .exact v b u z e)
  I.bare
end
def nj(w:HP)(a:HR)(zs:Ly Int):HO:=.ext λh=>∃m,dY h a (!d7 w) zs m
theorem nk:∀{zs:Ly Int}{us:Ly HN},Vals (zs.map V.int) us->∀(i:Nat)(v:HN),us[i]?=Lh v->∃z t,zs[i]?=Lh z/\v=.int z t
 | [],_,.nil,i,v,h=>by simp at h
 |z :: zs,_,.cons ⟨t,e⟩ r,0,v,h=>by simp at h;exact⟨z,t,U,by rw[←h,e]⟩
 |z :: zs,_,.cons _ r,i+1,v,h=>by
  let(a,t,c,b):=nk r i v<|~~~h;calc⟨a,t,~~~c,b⟩
theorem i7{w:HP}(A:X.w=w)(B:X.calm=Lj):cF X (.type "set") (λxs H Q=>∃(p:HR)(zs:Ly Int),xs=[.ref p]/\SqL X.K H p (zs.map V.int)/\⇑zs<=1000/\∀l,H l=Li->Q (.ref l) (upd H l<|nj w l zs)):=by
 subst A;intro Ln s σ H xs E Q I r h;let(p,zs,rfl,C,F,q):=h;let(u,rfl,j):=r.one;obtain rfl:u=HN.ref p:=j;let(D,c,n,_):=I.list C;let d:=⇑c;rw[bc]at d;refine vW (ks:=zs) (I.ok.hd B) n.isList (λi v e=>?_) (~~~d) (by unfold JV;simp;lia) λh' f m x G z=>?_
 .exact nk c i v<|~~~e
 .refine⟨.ref ↥s,_,I.laid (a:=↥s) (o:=nj X.w ↥s zs) (h':=h') (t':=f) (λb o q=>z b o (HS.lt_size q) q) (xX _) ?_,U,q _ I.fresh⟩;calc⟨⟨m,x⟩,?_,λL J ⟨t,y⟩ k=>⟨t,y.stay k⟩⟩;let(o,_,_,_,g,_):=x;calc⟨o,g⟩
inductive C0(K:W.Frag)(Q:VK)(vs:Ly V)(H1:Hp):Prop
 |mk (a b xs ys:_)(_:vs=[.ref a,.ref b])(_:SqL K H1 a xs)(_:SqL K H1 b ys)(_:∀(D:HR)(ts:Ly HR)(H2:Hp),⇑ts=min ⇑xs ⇑ys->(∀c o,H1 c=Lh o->H2 c=Lh o)->H1 D=Li->H2 D=Lh (.lst<|ts.map V.ref) ->
  (∀(j:Nat)(x y:V),xs[j]?=Lh x->ys[j]?=Lh y->∃T,ts[j]?=Lh T/\H1 T=Li/\H2 T=Lh (.tup [x,y]))->Q (.ref D) H2):C0 K Q vs H1
def tLZ(K:W.Frag)(b:TA):TE:=λσ H Q=>b σ H λa c=>C0 K Q a c
def ltA{c n:Nat}(h:c<n)(k:Nat):c≠n+k:=yl<|zb h<|Bp _ _
def iD(xs ys:Ly V)(ts:Ly HR)(b:HR):Option HO :=
 match ts.idxOf? b with
 |some j=>match xs[j]?,ys[j]? with
  |some x,Lh y=>Lh<|.tup [x,y]
  |_,_=>Li
 |none=>Li
theorem ur{J C:Ij}{ta:TA}{p1 p2 C1 BB:Pos}(a6:X.calm=Lj)(hg:Gl X "list") (hm:X.mg "list" = Li) (a5:Gl X "zip") (a4:X.mg "zip" = Li) (ha:PA X [J,C] ta)
  (hs:Im [J,C] X.env=[(Ll,eval J X.env),(Ll,eval C X.env)]:=by rfl)(M:Im [C] X.env=[(Ll,eval C X.env)]:=by rfl) :
  PE X (.Call (.Name "list" p1) [.Call (.Name "zip" p2) [J,C] [] BB] [] C1) (tLZ X.K ta):=by
 intro Ln s σ H Q I h;calc HM<|fU I hg hm PyProof.Rows.boot_list ?_;calc PyProof.Rows.callWith_type1 ?_ U U;show Ih _ _ (spliced ((Ll,eval (.Call (.Name "zip" p2) [J,C] [] BB) X.env) :: Il C1 (Im [] X.env))) _ _ s;calc Calls.spliced_cons ?_;calc HM<|fU I a5 a4 PyProof.Rows.boot_zip ?_;refine PyProof.Rows.callWith_type1 (thn (ha BB Ln s σ H _ I h) λus f ⟨vs,W,B,r1,q1⟩=>?_) (by rw[hs,M]) (by rw[M];rfl);let(a,b,p,n,rfl,qa,qb,q):=q1;let(u,v,rfl,ru,rv):=r1.two;cases (show u=HN.ref a from ru);cases (show v=HN.ref b from rv);let(us,vu,pu,zu):=B.list qa;let(vs,vv,pv,zv):=B.list qb;let(oa,ea,_):=id pu.isList;let(ob,eb,_):=id pv.isList;let la:a<↥f:=HS.lt_size ea;let lb:b<↥f:=HS.lt_size eb;let l1:=⇑vu;let l2:=⇑vv;refine call_zip_2 pu.isList pv.isList λR z1 z2 z3 z4 z5 z6 Z=>?_
 calc Calls.spliced_nil ?_;let D:K6 (↥f+4) (↥f+2) (↥f+3) ↥f (↥f+1) a b:=by
  calc⟨?_,?_,?_,?_,?_,?_,?_,?_,?_,?_,?_,?_,?_,?_,?_,?_,?_,?_⟩ <;> first|exact yl ∅|exact zl ∅|exact yl la|exact yl lb|exact yl (zb la<|Bp _ _)|exact yl (zb lb<|Bp _ _)
 refine oW (s:={ f with heap:=R }) (B.ok.hd a6) D z1 z2 z3 z4 z5 (pu.isList.at λo e=>Z _ _ e) (pv.isList.at λo e=>Z _ _ e) (by simp;lia) λh2 b0 c d k3 g3 e3 n3 nd S=>?_
 let a3:Ib.heap { f with heap:=R }=R:=rfl;rw[a3]at g3 S k3;rw[z6]at g3 S;let kp:∀c o,f.heap.get? c=Lh o->h2.get? c=Lh o:=λc o e=>by
  let:=HS.lt_size e;exact k3 c o (ltA this _) (ltA this _) (yl this) (ltA this _)<|Z c o e
 let N:⇑d=min ⇑p ⇑n:=by rw[n3];simp;lia
 let F:∀(j:Nat)(T:HR),d[j]?=Lh T->d.idxOf? T=Lh j:=λj T w=>by
  let(G,ej):=HG.mp w;rw[List.idxOf?,List.findIdx?_eq_some_iff_getElem];refine⟨G,by simp[ej],λi hi=>?_⟩;let:d[i]≠d[j]:=λq=>by
   let:=(xc nd).mp q;lia
  simpa[←ej]using this
 let L:∀(T:HR)(j:Nat),d.idxOf? T=Lh j->d[j]?=Lh T:=λT j w=>by
  rw[List.idxOf?,List.findIdx?_eq_some_iff_getElem]at w;let(G,e,_):=w;rw[HF G];simpa using e
 let E:∀(T:HR)(j:Nat),d.idxOf? T=Lh j->↥f+6<=T:=λT j w=>by
  let(a1,_):=S j T<|L T j w;lia
 show EP X Ln σ Q _ _;rw[show(Ib.heap { f with heap:=R }).objs.size=↥f+5 from z6];generalize m:(λ(b:HR)=>if b=↥f+5 then Lh (HO.lst<|d.map V.ref)else match iD p n d b with|some o=>Lh o|none=>W b)=H2;let hD:H2 (↥f+5)=Lh (.lst<|d.map V.ref):=by rw[←m];exact Lq U
 let hO:∀c,c<↥f->H2 c=W c:=λc hc=>by
  rw[←m];show(if c=↥f+5 then _ else _)=_;rw[Lp (ltA hc 5)];let:iD p n d c=none:=by
   unfold iD;cases e:d.idxOf? c with
   |none=>rfl
   |some j=>exact Lr (zb hc<|yW (Bp _ 6)<|E c j e) (AJ _)
  rw[this]
 let hT:∀(j:Nat)(x y:V)(T:HR),p[j]?=Lh x->n[j]?=Lh y->d[j]?=Lh T->H2 T=Lh (.tup [x,y]):=λj x y T l A g=>by
  let:=E T j<|F j T g;rw[←m];show(if T=↥f+5 then _ else _)=_;rw[Lp (zl<|zb (A9 _) this)];let:iD p n d T=Lh (.tup [x,y]):=by unfold iD;rw[F j T g];dsimp only;rw[l,A]
  rw[this]
 refine⟨.ref<|↥f+5,H2,B.grow (s':={ f with heap:=h2 }) kp U U hO (λb u hb k=>?_),U,q _ d H2 N (λc o e=>?_) (B.hok.fresh<|Bp _ _) hD λj x y l A=>?_⟩
 .rw[←m]at k;replace k:(if b=↥f+5 then Lh (HO.lst<|d.map V.ref)else match iD p n d b with|some o=>Lh o|none=>W b)=Lh u:=k
  by_cases Y:b=↥f+5
  .rw[Lq Y]at k;cases k;subst Y;let rv:∀d:Ly HR,Vals (d.map V.ref) (d.map HN.ref):=λd=>by
    induction d with
    |nil=>exact .nil
    |cons t r ih=>exact .cons U ih
   refine⟨by rw[bc,N];lia,d.map HN.ref,c,rv d,?_⟩;rw[←e3];exact g3
  .rw[Lp Y]at k;cases g:iD p n d b with
   |none=>rw[g]at k;replace k:W b=Lh u:=k;rw[B.hok.fresh hb]at k;cases k
   |some o =>
    rw[g]at k;cases k;unfold iD at g;cases ei:d.idxOf? b with
    |none=>rw[ei]at g;cases g
    |some j =>
     rw[ei]at g;dsimp only at g;cases l:p[j]? with
     |none=>rw[l]at g;cases g
     |some x =>
      cases A:n[j]? with
      |none=>rw[l,A]at g;cases g
      |some y =>
       rw[l,A]at g;cases g;let(_,x',y',fx,fy,gp):=S j b<|L b j ei;let(u1,a8,a2):=vu.get l;let(v1,a7,a0):=vv.get A;let P:us[j]?=Lh x':= ~~~fx
       have O:vs[j]?=Lh y':= ~~~fy
       rw[a8]at P;rw[a7]at O;cases P;cases O;exact⟨by show 2<=HU;decide,[x',y'],.cons a2<|.cons a0 .nil,_,gp,U,_,U⟩
 .let:c<↥f:=by
   rcases AB c ↥f with z|z
   .exact z
   .rw[B.hok.fresh z]at e;cases e
  rw[hO c this];exact e
 .let w:j<⇑d:=by
   let(h1,_):=HG.mp l;let(a9,_):=HG.mp A;lia
  let g:d[j]?=Lh d[j]:=HF w;calc⟨d[j],g,B.hok.fresh<|yW (Bp _ 6)<|E _ j<|F j _ g,hT j x y _ l A g⟩
end _L
namespace PyProof.Rows._T
open PySem PyProof.Rows
def zt:Bool->Keyed->Array Keyed->Nat->Nat->Nat->StateT SortSt Sem (Option Nat):=sortPriv% PySem.Builtin.gallop
def jy:Nat->StateT SortSt Sem Unit:=sortPriv% PySem.Builtin.setMinGallop
def xR:Array Keyed->Array Keyed->StateT SortSt Sem (Array Keyed):=sortPriv% PySem.Builtin.mergeLo
def xS:Array Keyed->Array Keyed->StateT SortSt Sem (Array Keyed):=sortPriv% PySem.Builtin.mergeHi
def lJ(n:Nat):jy n=modify λs=>SortSt.mk' (kindOf s) (arrOf s) (pendingOf s) n (failedOf s):=rfl
theorem br{M:Ig}{A:Ia}{E:HN->Ib->Prop}{s:Ib}{a b:Type}{c:Prop} [Decidable c] {p q:StateT a Sem b}{Q:b->a->Prop}{st:a}(h:c)(d:wpS M A E s p Q st):wpS M A E s (if c then p else q) Q st:=by rw[Lq h];calc d
theorem aY{M:Ig}{A:Ia}{E:HN->Ib->Prop}{s:Ib}{a b:Type}{c:Prop} [Decidable c] {p q:StateT a Sem b}{Q:b->a->Prop}{st:a}(h:¬ c)(d:wpS M A E s q Q st):wpS M A E s (if c then p else q) Q st:=by rw[Lp h];calc d
theorem eJ{M:Ig}{A:Ia}{E:HN->Ib->Prop}{s:Ib}{a b:Type}{c:Prop} [Decidable c] {p q:StateT a Sem b}{Q:b->a->Prop}{st:a}(e:c->wpS M A E s p Q st)(d:¬ c->wpS M A E s q Q st):wpS M A E s (if c then p else q) Q st:=by
 by_cases h:c
 .exact br h<|e h
 .exact aY h<|d h
theorem vh{M:Ig}{A:Ia}{E:HN->Ib->Prop}{s:Ib}{a:Type}{mg:Nat}{p:StateT SortSt Sem a}{f:Nat->StateT SortSt Sem a}{Q:a->SortSt->Prop}{st:SortSt}(b:p=f (mg-1))(h:∀m,wpS M A E s (f m) Q st):wpS M A E s (if mg>1 then p else f mg) Q st:=by
 subst b;calc eJ (λ_=>h _) λ_=>h _
def rP{M:Ig}{A:Ia}{E:HN->Ib->Prop}{s:Ib}{a:Type}{b x:Nat}{o:Array Keyed}{p:StateT SortSt Sem a}{f:Nat->Array Keyed->StateT SortSt Sem a}{Q:a->SortSt->Prop}{st:SortSt}(P:Nat->Array Keyed->Prop)(c:∀x o,P x o->wpS M A E s (f x o) Q st)(d:b>0->(∀x o,P x o->wpS M A E s (f x o) Q st)->wpS M A E s p Q st)(e:¬ b>0->P x o):wpS M A E s (if b>0 then p else f x o) Q st :=
 eJ (λh=>d h c) λh=>c _ _<|e h
theorem zw{M:Ig}{A:Ia}{E:HN->Ib->Prop}{s:Ib}{a:Type}{x:a}{Q:PUnit->a->Prop}{st:a}(h:Q ⟨⟩ x):wpS M A E s (set x:StateT a Sem PUnit) Q st:=by
 unfold wpS;rw[StateT.run_set];calc HK ⟨rfl,h⟩
end PyProof.Rows._T
namespace PyProof.Rows._T
open PySem PyProof.Rows
section
variable{prog:HQ}{w:HP}{A:Ia}{E:HN->Ib->Prop}{s:Ib}{κ:SortKind}{S:Keyed->Prop}{rk:Keyed->Int}
def Ask(prog:HQ)(w:HP)(A:Ia)(E:HN->Ib->Prop)(s:Ib)(κ:SortKind)(S:Keyed->Prop)(rk:Keyed->Int):Prop :=
 ∀(x y:Keyed)(a:SortSt)(Q:Option Bool->SortSt->Prop),S x->S y->kindOf a=κ->Q (Lh<|Lm<|rk x<rk y) a->wpS (model prog w) A E s (lt' x y) Q a
def Kx(rk:Keyed->Int)(xs:Array Keyed)(i:Nat):Int:=match xs[i]? with
 |some p=>rk p
 |none=>0
theorem Kx_at{xs:Array Keyed}{i:Nat}(h:i<xs.size):Kx rk xs i=rk xs[i]:=by unfold Kx;rw[getElem?_pos xs i h]
theorem fj{xs ys:Array Keyed}{i j:Nat}(h:xs[i]?=ys[j]?):Kx rk xs i=Kx rk ys j:=by unfold Kx;rw[h]
theorem aZ{arr:Array Keyed}{i:Nat}{st:SortSt}{Q:Keyed->SortSt->Prop}(hi:i<arr.size)(h:Q arr[i] st):wpS (model prog w) A E s (elem' arr i) Q st:=by
 rw[elem'_eq,getElem?_pos arr i hi];calc wpS_pure h
def Bey(rk:Keyed->Int)(left:Bool)(a:Keyed)(arr:Array Keyed)(base i:Nat):Bool :=
 if left=Lj then decide (Kx rk arr (base+i)<rk a)else !Lm (rk a<Kx rk arr (base+i))
theorem uu{left:Bool}{a:Keyed}{arr:Array Keyed}{base i:Nat}{st:SortSt}{Q:Option Bool->SortSt->Prop}(e:Ask prog w A E s κ S rk)(c:kindOf st=κ)(d:∀x∈arr,S x)(b:S a)(hi:base+i<arr.size)
  (h:Q (Lh<|Bey rk left a arr base i) st) :
  wpS (model prog w) A E s (do
   let x ←elem' arr (base+i)
   if left=Lj then lt' x a
    else do
     let __do_lift ←lt' a x
     pure (Option.map (λx=>!x) __do_lift)) Q st:=by
 calc wpS_bind<|aZ hi ?_;unfold Bey at h;rw[Kx_at hi]at h;cases left with
 |true=>exact e _ _ st Q (d _<|DT hi) b c (~~~h)
 |false=>calc wpS_bind (e _ _ st _ b (d _<|DT hi) c<|wpS_pure<|~~~h)
def SrtOn(rk:Keyed->Int)(xs:Array Keyed)(lo n:Nat):Prop:=∀i j,lo<=i->i<=j->j<lo+n->Kx rk xs i<=Kx rk xs j
theorem Bey.anti{left:Bool}{a:Keyed}{arr:Array Keyed}{base n:Nat}(b:SrtOn rk arr base n){i j:Nat}(c:i<=j)(d:j<n)(h:Bey rk left a arr base j=Lj):Bey rk left a arr base i=true:=by
 let:=b (base+i) (base+j) ∅ ∅ ∅;unfold Bey at h⊢;cases left <;> simp at h⊢ <;> lia
theorem d8{left:Bool}{m:Keyed}{arr:Array Keyed}{base n d:Nat}{st:SortSt}{Q:Option Nat->SortSt->Prop}(R:Ask prog w A E s κ S rk)(M:kindOf st=κ)(P:∀x∈arr,S x)(H:S m)
  (L:d<n)(W:base+n<=arr.size)(J:SrtOn rk arr base n)
  (h:∀k,k<=n->(∀i,i<k->Bey rk left m arr base i=Lj)->(∀i,k<=i->i<n->Bey rk left m arr base i=Ll)->Q (Lh k) st) :
  wpS (model prog w) A E s (zt left m arr base n d) Q st:=by
 let t:∀{i:Nat}{Q:Option Bool->SortSt->Prop},i<n->Q (Lh<|Bey rk left m arr base i) st->wpS (model prog w) A E s (do
   let x ←elem' arr (base+i)
   if left=Lj then lt' x m
    else do
     let __do_lift ←lt' m x
     pure (Option.map (λx=>!x) __do_lift)) Q st:=λhi K=>uu R M P H ∅ K
 let anti:∀{i j:Nat},i<=j->j<n->Bey rk left m arr base j=Lj->Bey rk left m arr base i=true:=λF N O=>Bey.anti J F N O
 generalize X:Bey rk left m arr base=B at h t anti;calc wpS_bind<|t L ?_;dsimp -zeta only
 extract_lets jp m1 m2
 let last:∀(u:Unit)(a b lo hi:Nat),lo<=hi->hi<=n->(∀i,i<lo->B i=Lj)->(∀i,hi<=i->i<n->B i=Ll)->wpS (model prog w) A E s (jp u a b lo hi) Q st:=by
  intro u a b lo hi y v V T
  refine wpS_bind (wpS_mono (wpS_forRange (I:=λx c f=>f=st/\∃lo hi,c=(Li,lo,hi)/\lo<=hi/\hi<=n/\hi-lo<=n-x/\(∀i,i<lo->B i=Lj)/\(∀i,hi<=i->i<n->B i=Ll))
   (Q:=λc f=>f=st/\∃lo hi,c=(Li,lo,hi)/\hi<=n/\(∀i,i<hi->B i=Lj)/\(∀i,hi<=i->i<n->B i=Ll)) ?step ?fin ⟨rfl,lo,hi,rfl,y,v,∅,V,T⟩) ?post)
  case fin =>
   rintro c f ⟨rfl,lo,hi,rfl,z,p,r,l,q⟩;let:lo=hi:=∅
   subst this;exact⟨rfl,lo,lo,rfl,p,l,q⟩
  case step =>
   rintro x c f _ G ⟨rfl,lo,hi,rfl,z,p,r,l,q⟩;dsimp only;by_cases o:lo ≥ hi
   .rw[Lq o];let:lo=hi:=∅
    subst this;exact wpS_pure ⟨rfl,lo,lo,rfl,p,l,q⟩
   .rw[Lp o];calc wpS_bind<|t (i:=lo+(hi-lo) / 2) ∅ ?_;cases hm:B (lo+(hi-lo) / 2) with
    |true =>
     dsimp only;rw[Lq rfl];exact wpS_pure ⟨rfl,lo+(hi-lo) / 2+1,hi,rfl,∅,p,∅,λi C=>anti (show i<=lo+(hi-lo) / 2 by lia) ∅ hm,q⟩
    |false =>
     dsimp only;rw[Lp Bool.false_ne_true];calc wpS_pure ⟨rfl,lo,lo+(hi-lo) / 2,rfl,∅,∅,∅,l,λi y v=>?_⟩;cases hbi:B i with
     |false=>rfl
     |true=>rw[anti y v hbi]at hm;cases hm
  case post =>
   rintro c f ⟨rfl,lo,hi,rfl,p,l,q⟩;exact wpS_pure (h hi p l q)
 clear_value jp
 cases hr:B d with
 |true =>
  dsimp only;rw[Lq rfl]
  refine wpS_bind (wpS_mono (wpS_forRange (I:=λx c f=>f=st/\∃g e,c=(Li,g,e)/\x+1<=e/\g<e/\d+g<n/\B (d+g)=Lj)
   (Q:=λc f=>f=st/\∃g e,c=(Li,g,e)/\g<e/\d+g<n/\B (d+g)=Lj/\(n-d<=e\/(d+e<n/\B (d+e)=Ll))) ?step ?fin ⟨rfl,0,1,rfl,∅,∅,∅,hr⟩) ?post)
  case fin =>
   rintro c f ⟨rfl,g,e,rfl,z,p,r,l⟩;exact⟨rfl,g,e,rfl,p,r,l,.inl ∅⟩
  case step =>
   rintro x c f _ G ⟨rfl,g,e,rfl,z,p,r,l⟩;dsimp only;by_cases o:e ≥ n-d
   .rw[Lq o];exact wpS_pure ⟨rfl,g,e,rfl,p,r,l,.inl o⟩
   .rw[Lp o];calc wpS_bind<|t ∅ ?_;cases hm:B (d+e) with
    |true =>
     dsimp only;rw[Lp ⋯];exact wpS_pure ⟨rfl,e,2*e+1,rfl,∅,∅,∅,hm⟩
    |false =>
     dsimp only;rw[Lq ⋯];exact wpS_pure ⟨rfl,g,e,rfl,p,r,l,.inr ⟨∅,hm⟩⟩
  case post =>
   rintro c f ⟨rfl,g,e,rfl,p,r,l,q⟩;show wpS _ _ _ _ (jp () g e (d+g+1)<|d+min e (n-d)) _ _;refine last _ _ _ _ _ ∅ ∅ (λi C=>anti (show i<=d+g by lia) r l) λi y v=>?_
   rcases q with q|⟨q,D⟩
   .lia
   .cases hbi:B i with
    |false=>rfl
    |true=>rw[anti (show d+e<=i by lia) v hbi]at D;cases D
 |false =>
  dsimp only;rw[Lp Bool.false_ne_true]
  refine wpS_bind (wpS_mono (wpS_forRange (I:=λx c f=>f=st/\∃g e,c=(Li,g,e)/\x+1<=e/\g<e/\g<=d/\B (d-g)=Ll)
   (Q:=λc f=>f=st/\∃g e,c=(Li,g,e)/\g<e/\g<=d/\B (d-g)=Ll/\(d+1<=e\/(e<=d/\B (d-e)=Lj))) ?step ?fin ⟨rfl,0,1,rfl,∅,∅,∅,hr⟩) ?post)
  case fin =>
   rintro c f ⟨rfl,g,e,rfl,z,p,r,l⟩;exact⟨rfl,g,e,rfl,p,r,l,.inl ∅⟩
  case step =>
   rintro x c f _ G ⟨rfl,g,e,rfl,z,p,r,l⟩;dsimp only;by_cases o:e ≥ d+1
   .rw[Lq o];exact wpS_pure ⟨rfl,g,e,rfl,p,r,l,.inl o⟩
   .rw[Lp o];calc wpS_bind<|t ∅ ?_;cases hm:B (d-e) with
    |false =>
     dsimp only;rw[Lp ⋯];exact wpS_pure ⟨rfl,e,2*e+1,rfl,∅,∅,∅,hm⟩
    |true =>
     dsimp only;rw[Lq rfl];exact wpS_pure ⟨rfl,g,e,rfl,p,r,l,.inr ⟨∅,hm⟩⟩
  case post =>
   rintro c f ⟨rfl,g,e,rfl,p,r,l,q⟩;show wpS _ _ _ _ (jp () g e (d+1-min e (d+1))<|d-g) _ _;refine last _ _ _ _ _ ∅ ∅ (λi C=>?_) λi y v=>?_
   .rcases q with q|⟨q,D⟩
    .lia
    .exact anti (show i<=d-e by lia) ∅ D
   .cases hbi:B i with
    |false=>rfl
    |true=>rw[anti (show d-g<=i by lia) v hbi]at l;cases l
end
end PyProof.Rows._T
namespace PyProof.Rows._T
open PySem PyProof.Rows
section
variable{rk:Keyed->Int}
abbrev Sd(rk:Keyed->Int)(l:Ly Keyed):Prop:=l.Pairwise λx y=>rk x<=rk y
structure MI(rk:Keyed->Int)(A B out:Ly Keyed)(ia ib:Nat):Prop where
 perm:out.Perm (A.take ia++B.take ib)
 srt:Sd rk out
 la:∀x∈out,∀y∈A.drop ia,rk x<=rk y
 lb:∀x∈out,∀y∈B.drop ib,rk x<=rk y
def MR(rk:Keyed->Int)(A B M:Ly Keyed):Prop:=M.Perm (A++B)/\Sd rk M
def MI.symm{A B out:Ly Keyed}{b a:Nat}(h:MI rk A B out b a):MI rk B A out a b:=⟨h.perm.trans qe,h.srt,h.lb,h.la⟩
theorem Sd.cut{l:Ly Keyed}(h:Sd rk l)(k:Nat):∀x∈l.take k,∀y∈l.drop k,rk x<=rk y:=by
 let a:Sd rk (l.take k++l.drop k):=by rw[lg];exact h
 calc(nS.mp a).2.2
def Sd.dropn{l:Ly Keyed}(h:Sd rk l)(k:Nat):Sd rk (l.drop k):=h.sublist<|List.drop_sublist _ _
def Sd.taken{l:Ly Keyed}(h:Sd rk l)(k:Nat):Sd rk (l.take k):=h.sublist<|tu _ _
theorem MI.pushA{A B out:Ly Keyed}{b d:Nat}(e:Sd rk A)(h:MI rk A B out b d)(k:Nat)(f:∀x∈(A.drop b).take k,∀y∈B.drop d,rk x<=rk y):MI rk A B (out++(A.drop b).take k) (b+k) d:=by
 let g:A.drop (b+k)=(A.drop b).drop k:=by rw[List.drop_drop]
 refine⟨?_,nS.mpr ⟨h.srt,(e.dropn b).taken k,λx a y c=>h.la x a y<|ri c⟩,λx a y c=>?_,λx a y c=>?_⟩
 .rw[List.take_add];calc(h.perm.append_right _).trans ?_;rw[jD,jD];exact List.Perm.append_left _ qe
 .rw[g]at c;rcases hZ.mp a with a|a
  .exact h.la x a y<|tH c
  .exact(e.dropn b).cut k x a y c
 .rcases hZ.mp a with a|a
  .exact h.lb x a y c
  .exact f x a y c
def MI.pushB{A B out:Ly Keyed}{b a:Nat}(c:Sd rk B)(h:MI rk A B out b a)(k:Nat)(d:∀x∈(B.drop a).take k,∀y∈A.drop b,rk x<=rk y):MI rk A B (out++(B.drop a).take k) b (a+k):=(h.symm.pushA c k d).symm
theorem MI.last{A B out:Ly Keyed}{b a:Nat}(f:Sd rk A)(e:Sd rk B)(h:MI rk A B out b a)(g:∀x∈B.drop a,∀y∈A.drop b,rk x<=rk y):MR rk A B (out++B.drop a++A.drop b):=by
 refine⟨?_,nS.mpr ⟨nS.mpr ⟨h.srt,e.dropn a,h.lb⟩,f.dropn b,λx c y d=>?_⟩⟩
 .let i:(A++B).Perm ((A.take b++A.drop b)++(B.take a++B.drop a)):=by rw[lg,lg]
  calc((h.perm.append_right _).append_right _).trans (List.Perm.trans ?_ i.symm);rw[jD,jD,jD];calc List.Perm.append_left _ ?_;calc List.Perm.trans ?_<|qe (l₁:=B.take a++B.drop a);rw[jD]
 .rcases hZ.mp c with c|c
  .exact h.la x c y d
  .exact g x c y d
theorem MI.done{A B out:Ly Keyed}{b a:Nat}(e:Sd rk A)(d:Sd rk B)(h:MI rk A B out b a)(g:a=B.length):MR rk A B (out++A.drop b++B.drop a):=by
 let c:B.drop a=[]:=by rw[g,wL]
 let:=h.last e d (by rw[c];intro x f;cases f);rw[c,jk]at this⊢;calc this
structure HI(rk:Keyed->Int)(A B R:Ly Keyed)(na nb:Nat):Prop where
 perm:R.Perm (A.drop na++B.drop nb)
 srt:Sd rk R
 la:∀x∈A.take na,∀y∈R,rk x<=rk y
 lb:∀x∈B.take nb,∀y∈R,rk x<=rk y
def HI.symm{A B R:Ly Keyed}{b a:Nat}(h:HI rk A B R b a):HI rk B A R a b:=⟨h.perm.trans qe,h.srt,h.lb,h.la⟩
theorem qp{l:Ly Keyed}{k n:Nat}(h:k<=n):l.take n=l.take k++(l.take n).drop k:=by
 let:=(lg k<|l.take n).symm
 rwa [List.take_take,CO h]at this
theorem zA{l:Ly Keyed}{k n:Nat}(h:k<=n):l.drop k=(l.take n).drop k++l.drop n:=by
 let e:=lg (n-k)<|l.drop k;rw[List.drop_drop,show k+(n-k)=n by lia]at e;rw[←e,ro]
theorem HI.pushA{A B R:Ly Keyed}{d e:Nat}(f:Sd rk A)(h:HI rk A B R d e)(k:Nat)(c:k<=d)(g:∀x∈B.take e,∀y∈(A.take d).drop k,rk x<=rk y):HI rk A B ((A.take d).drop k++R) k e:=by
 refine⟨?_,nS.mpr ⟨(f.taken d).dropn k,h.srt,λx b y a=>h.la x (tH b) y a⟩,λx b y a=>?_,λx b y a=>?_⟩
 .rw[zA (l:=A) c,jD];exact List.Perm.append_left _ h.perm
 .rcases hZ.mp a with a|a
  .refine(f.taken d).cut k x ?_ y a;rw[List.take_take,CO c];exact b
  .refine h.la x ?_ y a;rw[qp c];exact nL _ b
 .rcases hZ.mp a with a|a
  .exact g x b y a
  .exact h.lb x b y a
def HI.pushB{A B R:Ly Keyed}{b a:Nat}(d:Sd rk B)(h:HI rk A B R b a)(k:Nat)(c:k<=a)(e:∀x∈A.take b,∀y∈(B.take a).drop k,rk x<=rk y):HI rk A B ((B.take a).drop k++R) b k:=(h.symm.pushA d k c e).symm
theorem HI.last{A B R:Ly Keyed}{b a:Nat}(f:Sd rk A)(e:Sd rk B)(h:HI rk A B R b a)(g:∀x∈B.take a,∀y∈A.take b,rk x<=rk y):MR rk A B (B.take a++A.take b++R):=by
 refine⟨?_,nS.mpr ⟨nS.mpr ⟨e.taken a,f.taken b,g⟩,h.srt,λx c y d=>?_⟩⟩
 .let i:(A++B).Perm ((A.take b++A.drop b)++(B.take a++B.drop a)):=by rw[lg,lg]
  calc(List.Perm.append_left _ h.perm).trans (List.Perm.trans ?_ i.symm);rw[jD,jD];calc List.Perm.trans (qe (l₁:=B.take a)) ?_;rw[jD,jD];exact List.Perm.append_left _<|List.Perm.append_left _ qe
 .rcases hZ.mp c with c|c
  .exact h.lb x c y d
  .exact h.la x c y d
theorem HI.done{A B R:Ly Keyed}{a b:Nat}(e:Sd rk A)(d:Sd rk B)(h:HI rk A B R a b)(c:a=0):MR rk A B (A.take a++B.take b++R):=by
 let:=h.last e d (by rw[c,oj];intro x _ y f;cases f);rw[c,oj]at this⊢;rw[jk]at this;calc this
theorem take1{l:Array Keyed}{i:Nat}(h:i<l.size):(l.toList.drop i).take 1=[l[i]]:=by
 rw[rG (~~~h)];simp
theorem xT{l:Array Keyed}{i:Nat}(h:i<l.size):(l.toList.take<|i+1).drop i=[l[i]]:=by
 rw[ro,show i+1-i=1 by lia,take1 h]
theorem nq{l:Array Keyed}{i k:Nat}:(l.extract i<|i+k).toList=(l.toList.drop i).take k:=by
 rw[Es];simp
theorem kD{l:Array Keyed}{i:Nat}:(l.extract i l.size).toList=l.toList.drop i:=by
 rw[Es];simp[lT]
end
end PyProof.Rows._T
namespace PyProof.Rows._T
open PySem PyProof.Rows
section
variable{prog:HQ}{w:HP}{A:Ia}{E:HN->Ib->Prop}{s:Ib}{κ:SortKind}{S:Keyed->Prop}{rk:Keyed->Int}
structure dg(st st':SortSt):Prop where
 arr:arrOf st'=arrOf st
 pend:pendingOf st'=pendingOf st
 kind:kindOf st'=kindOf st
 failed:failedOf st'=failedOf st
def dg.refl{st:SortSt}:dg st st:=⟨rfl,rfl,rfl,rfl⟩
theorem qr{st a:SortSt}{n:Nat}{Q:Unit->SortSt->Prop}(b:dg st a)(h:∀c,dg st c->Q () c):wpS (model prog w) A E s (jy n) Q a:=by
 rw[lJ];calc wpS_modify<|h _ ⟨b.arr,b.pend,b.kind,b.failed⟩
theorem Sd.srtOn{xs:Array Keyed}(h:Sd rk xs.toList){lo n:Nat}(e:lo+n<=xs.size):SrtOn rk xs lo n:=λi j _ d f=>by
 let b:i<xs.size:=∅
 let a:j<xs.size:=∅
 rw[Kx_at b,Kx_at a];rcases Nat.lt_or_eq_of_le d with c|rfl
 .let:=tF.mp h i j (~~~b) (~~~a) c;simpa using this
 .exact Int.le_refl _
theorem dE{xs:Array Keyed}{i:Nat}{y:Keyed}(h:y∈xs.toList.drop i):∃j,∃b:j<xs.size,i<=j/\xs[j]=y:=by
 let(k,a,e):=tG.mp h;rw[wh]at a;rw[List.getElem_drop]at e;calc⟨i+k,~~~(show i+k<⇑xs.toList by lia),∅,~~~e⟩
theorem jb{xs:Array Keyed}{i k:Nat}{y:Keyed}(h:y∈(xs.toList.drop i).take k):∃j,∃b:j<xs.size,i<=j/\j<i+k/\xs[j]=y:=by
 let(m,a,e):=tG.mp h;rw[iT,wh]at a;rw[List.getElem_take,List.getElem_drop]at e;calc⟨i+m,~~~(show i+m<⇑xs.toList by lia),∅,∅,~~~e⟩
theorem dF{xs:Array Keyed}{k:Nat}{y:Keyed}(h:y∈xs.toList.take k):∃j,∃c:j<xs.size,j<k/\xs[j]=y:=by
 let(j,b,_,d,a):=jb (i:=0)<|~~~h;calc⟨j,b,∅,a⟩
theorem pU{left:Bool}{a:Keyed}{arr:Array Keyed}{base j:Nat}(b:j<arr.size)(c:base<=j)(h:Bey rk left a arr base (j-base)=Lj):rk arr[j]<=rk a:=by
 unfold Bey at h;rw[show base+(j-base)=j by lia,Kx_at b]at h;cases left <;> simp at h <;> lia
theorem BC{a:Keyed}{arr:Array Keyed}{base j:Nat}(b:j<arr.size)(c:base<=j)(h:Bey rk Lj a arr base (j-base)=Lj):rk arr[j]<rk a:=by
 unfold Bey at h;rw[show base+(j-base)=j by lia,Kx_at b]at h;simpa using h
theorem pV{left:Bool}{a:Keyed}{arr:Array Keyed}{base j:Nat}(b:j<arr.size)(c:base<=j)(h:Bey rk left a arr base (j-base)=Ll):rk a<=rk arr[j]:=by
 unfold Bey at h;rw[show base+(j-base)=j by lia,Kx_at b]at h;cases left <;> simp at h <;> lia
theorem zB{a:Keyed}{arr:Array Keyed}{base j:Nat}(b:j<arr.size)(c:base<=j)(h:Bey rk Ll a arr base (j-base)=Ll):rk a<rk arr[j]:=by
 unfold Bey at h;rw[show base+(j-base)=j by lia,Kx_at b]at h;simpa using h
theorem Sd.le_of{xs:Array Keyed}(h:Sd rk xs.toList){i j:Nat}(a:i<=j)(b:j<xs.size):rk (xs[i]'∅)<=rk xs[j]:=by
 let:=h.srtOn (lo:=0) (n:=xs.size) ∅ i j (yX _) a ∅
 rwa [Kx_at ∅,Kx_at b]at this
theorem rQ{a b:Array Keyed}{st:SortSt}{Q:Array Keyed->SortSt->Prop}(hA:Ask prog w A E s κ S rk)(hk:kindOf st=κ)(a9:∀x∈a,S x)(a8:∀x∈b,S x)
  (sa:Sd rk a.toList)(Y:Sd rk b.toList)(h1:0<a.size)(h2:0<b.size)(c5:∀y∈a,rk b[0]<=rk y)(b4:∀x∈b,rk x<rk a[a.size-1])
  (h:∀m t,dg st t->MR rk a.toList b.toList m.toList->Q m t):wpS (model prog w) A E s (xR a b) Q st:=by
 let lA:⇑a.toList=a.size:=by simp
 let lB:⇑b.toList=b.size:=by simp
 let jz:∀{out:Array Keyed}{g d:Nat},MI rk a.toList b.toList out.toList g d->d=b.size->MR rk a.toList b.toList (out++a.extract g a.size++b.extract d b.size).toList:=λq e=>by
  rw[Ee,Ee,kD,kD];exact q.done sa Y ∅
 let nv:∀{out:Array Keyed}{g d:Nat},MI rk a.toList b.toList out.toList g d->g+1=a.size->MR rk a.toList b.toList (out++b.extract d b.size++a.extract g a.size).toList:=λ{out g d} q e=>by
  rw[Ee,Ee,kD,kD];refine q.last sa Y λx l y v=>?_
  let(j,G,u,rfl):=dE v;let V:j=a.size-1:=∅
  subst V;exact Int.le_of_lt<|b4 x<|~~~tH l
 let kE:∀{out:Array Keyed}{x:Keyed},(out.push x).toList=out.toList++[x]:=λ{_ _}=>by simp
 refine wpS_bind (wpS_lift<|Kn ⟨rfl,?_⟩)
 extract_lets total done lastOfA
 calc wpS_bind<|aZ h2 ?_;let m0:MI rk a.toList b.toList (#[b[0]]:Array Keyed).toList 0 1:=by
  refine⟨?_,?_,?_,?_⟩
  .let:=take1 h2;rw[List.drop_zero]at this;rw[oj,tJ,this]
  .exact List.pairwise_singleton _ _
  .intro x l y v;let l:x=b[0]:= ~~~l
   subst l;exact c5 y<|~~~v
  .intro x l y v;let l:x=b[0]:= ~~~l
   subst l;let(j,G,_,rfl):=dE v;exact Y.le_of (yX _) G
 try dsimp -zeta only
 by_cases c1:(1 == b.size)=Lj
 .refine br c1 ?_;exact wpS_pure<|h _ _ .refl<|jz m0<|~~~c1
 calc aY c1 ?_;let c1:1≠b.size:= ~~~c1
 by_cases c2:(0+1 == a.size)=Lj
 .refine br c2 ?_;exact wpS_pure<|h _ _ .refl<|nv m0<|~~~c2
 calc aY c2 ?_;let c2:0+1≠a.size:= ~~~c2
 refine wpS_bind<|wpS_get ?_
 refine wpS_bind (wpS_mono (wpS_forRange (I:=λx c t=>dg st t/\∃out g d mg,c=(Li,out,g,d,mg)/\MI rk a.toList b.toList out.toList g d/\g+1<a.size/\d<b.size/\x+1<=g+d)
  (Q:=λc t=>dg st t/\∃r rest,c=(Lh r,rest)/\MR rk a.toList b.toList r.toList) ?step ?fin ⟨.refl,_,_,_,_,rfl,m0,∅,∅,∅⟩) ?post)
 case fin =>
  rintro c t ⟨_,out,g,d,mg,rfl,q,z,n,K⟩;exfalso
  (try dsimp only);lia
 case post =>
  rintro c t ⟨R,r,rest,rfl,hr⟩;exact wpS_pure<|h _ _ R hr
 case step =>
  rintro x c t _ l ⟨R,out,g,d,mg,rfl,q,z,n,K⟩
  try dsimp -zeta only
  refine wpS_bind (wpS_mono (wpS_forRange (I:=λy c N=>N=t/\∃out g d J H,c=(Li,out,g,d,J,H)/\MI rk a.toList b.toList out.toList g d/\g+1<a.size/\d<b.size/\y+(x+1)<=g+d)
   (Q:=λc N=>N=t/\((∃r rest,c=(Lh r,rest)/\MR rk a.toList b.toList r.toList)\/∃out g d J H,c=(Li,out,g,d,J,H)/\MI rk a.toList b.toList out.toList g d/\g+1<a.size/\d<b.size/\x+2<=g+d)) ?pW ?fin1 ⟨rfl,_,_,_,_,_,rfl,q,z,n,∅⟩) ?post1)
  case fin1 =>
   clear z n K q;rintro c N ⟨_,out,g,d,J,H,rfl,q,z,n,K⟩;exfalso
   (try dsimp only);lia
  case pW =>
   clear z n K q;rintro y c N _ v ⟨rfl,out,g,d,J,H,rfl,q,z,n,K⟩
   try dsimp -zeta only
   calc wpS_bind<|aZ n<|wpS_bind<|aZ ∅ ?_;refine wpS_bind<|hA _ _ _ _ (a8 _<|DT _) (a9 _<|DT _) (R.kind.trans hk) ?_
   try dsimp -zeta only
   by_cases a0:rk b[d]<rk (a[g]'∅)
   .refine br (Ls a0) ?_;calc wpS_bind<|aZ n ?_;let D:MI rk a.toList b.toList (out.push b[d]).toList g (d+1):=by
     rw[kE,←take1 n];refine q.pushB Y 1 λx l y v=>?_
     rw[take1 n]at l;rw[gZ.mp l];let(j,G,u,rfl):=dE v;exact Int.le_trans (Int.le_of_lt a0)<|sa.le_of u G
    by_cases c:(d+1 == b.size)=Lj
    .refine br c ?_;exact wpS_pure ⟨rfl,.inl ⟨_,_,rfl,jz D<|~~~c⟩⟩
    .refine aY c ?_;let c:d+1≠b.size:= ~~~c
     refine eJ (λ_=>?_)<|λ_=>?_
     .exact wpS_pure ⟨rfl,.inr ⟨_,_,_,_,_,rfl,D,z,∅,∅⟩⟩
     .exact wpS_pure ⟨rfl,_,_,_,_,_,rfl,D,z,∅,∅⟩
   .refine aY (by rw[Lu a0];exact Bool.false_ne_true) ?_;calc wpS_bind<|aZ ∅ ?_;let b3:g<a.size:=∅
    let D:MI rk a.toList b.toList (out.push a[g]).toList (g+1) d:=by
     rw[kE,←take1 b3];refine q.pushA sa 1 λx l y v=>?_
     rw[take1 b3]at l;rw[gZ.mp l];let(j,G,u,rfl):=dE v;exact Int.le_trans (GW.mp a0)<|Y.le_of u G
    by_cases c:(g+1+1 == a.size)=Lj
    .refine br c ?_;exact wpS_pure ⟨rfl,.inl ⟨_,_,rfl,nv D<|~~~c⟩⟩
    .refine aY c ?_;let c:g+1+1≠a.size:= ~~~c
     refine eJ (λ_=>?_)<|λ_=>?_
     .exact wpS_pure ⟨rfl,.inr ⟨_,_,_,_,_,rfl,D,∅,n,∅⟩⟩
     .exact wpS_pure ⟨rfl,_,_,_,_,_,rfl,D,∅,n,∅⟩
  case post1 =>
   clear z n K q;rintro c N ⟨rfl,⟨r,rest,rfl,hr⟩|⟨out,g,d,J,H,rfl,q,z,n,K⟩⟩
   .exact wpS_pure ⟨R,r,_,rfl,hr⟩
   try dsimp -zeta only
   refine wpS_bind<|wpS_lift<|Kn ⟨rfl,?_⟩
   refine wpS_bind (wpS_mono (wpS_forRange (I:=λy c N=>dg st N/\∃out g d mg J H,c=(Li,out,g,d,mg,J,H)/\MI rk a.toList b.toList out.toList g d/\g+1<a.size/\d<b.size/\y+(x+2)<=g+d)
    (Q:=λc N=>dg st N/\((∃r rest,c=(Lh r,rest)/\MR rk a.toList b.toList r.toList)\/∃out g d mg J H,c=(Li,out,g,d,mg,J,H)/\MI rk a.toList b.toList out.toList g d/\g+1<a.size/\d<b.size/\x+2<=g+d)) ?step2 ?fin2 ⟨R,_,_,_,_,_,_,rfl,q,z,n,∅⟩) ?post2)
   case fin2 =>
    clear z n K q;rintro c N ⟨_,out,g,d,mg,J,H,rfl,q,z,n,K⟩;exfalso
    (try dsimp only);lia
   case post2 =>
    clear z n K q;rintro c N ⟨Z,⟨r,rest,rfl,hr⟩|⟨out,g,d,mg,J,H,rfl,q,z,n,K⟩⟩
    .exact wpS_pure ⟨Z,r,_,rfl,hr⟩
    .try dsimp -zeta only
     exact wpS_bind<|qr Z λb6 i=>wpS_pure ⟨i,_,_,_,_,rfl,q,z,n,∅⟩
   case step2 =>
    clear z n K q;rintro y c c6 _ v ⟨Z,out,g,d,mg,J,H,rfl,q,z,n,K⟩
    try dsimp -zeta only
    let W:∀{α:Type}{p:StateT SortSt Sem α}{f:Nat->StateT SortSt Sem α}{Q:α->SortSt->Prop}{st:SortSt},p=f (mg-1)->(∀m,wpS (model prog w) A E s (f m) Q st)->wpS (model prog w) A E s (if mg>1 then p else f mg) Q st:=λh1 h2=>vh h1 h2
    apply W
    .rfl
    clear W mg;intro mg;calc wpS_bind<|qr Z λb6 i=>?_;calc wpS_bind<|aZ n ?_;calc wpS_bind<|d8 hA (i.kind.trans hk) a9 (a8 _<|DT _) ∅ ∅ (sa.srtOn ∅) λk b1 a5 a7=>?_;dsimp only at b1 a5 a7;let c7:g+k<a.size:=by
     rcases AB (g+k) a.size with hh|hh
     .exact hh
     .exfalso;let e1:=pU (j:=a.size-1) ∅ ∅ (a5 (a.size-1-g) ∅);let e2:=b4 b[d] (DT _)
      (try dsimp only);lia
    let B:MI rk a.toList b.toList (out.toList++(a.toList.drop g).take k) (g+k) d:=q.pushA sa k λx l y v=>by
     let(j,G,u,c0,rfl):=jb l;let(j',V,xU,rfl):=dE v;exact Int.le_trans (pU G u<|a5 (j-g) ∅)<|Y.le_of xU V
    let T:∀x∈(b.toList.drop d).take 1,∀y∈a.toList.drop (g+k),rk x<=rk y:=λx l y v=>by
     rw[take1 n]at l;rw[gZ.mp l];let(j,G,u,rfl):=dE v;exact pV G ∅ (a7 (j-g) ∅ ∅)
    let a4:y+(x+2)<=g+k+d:=∅
    clear a5 a7 b1
    try dsimp -zeta only
    let W:∀{α:Type}{p:StateT SortSt Sem α}{f:Nat->Array Keyed->StateT SortSt Sem α}{Q:α->SortSt->Prop}{st:SortSt}(P:Nat->Array Keyed->Prop),(∀x o,P x o->wpS (model prog w) A E s (f x o) Q st)->(k>0->(∀x o,P x o->wpS (model prog w) A E s (f x o) Q st)->wpS (model prog w) A E s p Q st)->(¬ k>0->P g out)->wpS (model prog w) A E s (if k>0 then p else f g out) Q st:=λP h1 h2 h3=>rP P h1 h2 h3
    apply W (λF o=>MI rk a.toList b.toList o.toList F d/\F+1<a.size/\(∀x∈(b.toList.drop d).take 1,∀y∈a.toList.drop F,rk x<=rk y)/\y+(x+2)<=F+d)
    rotate_left
    .intro L b5;rw[←nq,←Ee]at B;by_cases X:(g+k+1 == a.size)=Lj
     .exact br X<|wpS_pure ⟨i,.inl ⟨_,_,rfl,nv B<|~~~X⟩⟩
     have M:g+k+1≠a.size:= ~~~X
     exact aY X<|aY (by simp;lia) (b5 _ _ ⟨B,∅,T,a4⟩)
    .intro L;let e:k=0:=∅
     subst e;rw[oj,jk]at B;exact⟨B,z,T,a4⟩
    clear B T a4 W;rintro F o ⟨B,c8,T,a4⟩;let b0:MI rk a.toList b.toList (o.push b[d]).toList F (d+1):=by
     rw[kE,←take1 n];exact B.pushB Y 1 T
    calc wpS_bind<|aZ n ?_;by_cases c:(d+1 == b.size)=Lj
    .refine br c ?_;exact wpS_pure ⟨i,.inl ⟨_,_,rfl,jz b0<|~~~c⟩⟩
    calc aY c ?_;let c:d+1≠b.size:= ~~~c
    calc wpS_bind<|aZ ∅ ?_;calc wpS_bind<|d8 hA (i.kind.trans hk) a8 (a9 _<|DT _) ∅ ∅ (Y.srtOn ∅) λO BD BE zC=>?_;let a6:MI rk a.toList b.toList ((o.push b[d]).toList++(b.toList.drop<|d+1).take O) F (d+1+O):=b0.pushB Y O λx l y v=>by
     let(j,G,u,c0,rfl):=jb l;let(j',V,xU,rfl):=dE v;exact Int.le_trans (pU G u<|BE (j-(d+1)) ∅)<|sa.le_of xU V
    let zD:F<a.size:=∅
    let fin:∀(o2:Array Keyed),o2.toList=(o.push b[d]).toList++(b.toList.drop<|d+1).take O->MI rk a.toList b.toList (o2.push a[F]).toList (F+1) (d+1+O):=λo2 b9=>by
     rw[←b9]at a6;rw[kE,←take1 zD];refine a6.pushA sa 1 λx l y v=>?_
     rw[take1 zD]at l;rw[gZ.mp l];let(j,G,u,rfl):=dE v;exact pV G ∅ (zC (j-(d+1)) ∅ ∅)
    try dsimp -zeta only
    by_cases L:O>0
    .refine br L ?_;by_cases X:(d+1+O == b.size)=Lj
     .refine br X ?_;calc wpS_pure ⟨i,.inl ⟨_,_,rfl,jz (out:=o.push b[d]++b.extract (d+1) (d+1+O)) ?_<|~~~X⟩⟩;rw[Ee,nq];exact a6
     calc aY X ?_;let X:d+1+O≠b.size:= ~~~X
     calc wpS_bind<|aZ zD ?_;let C:=fin (o.push b[d]++b.extract (d+1) (d+1+O)) (by rw[Ee,nq]);by_cases M:(F+1+1 == a.size)=Lj
     .refine br M ?_;exact wpS_pure ⟨i,.inl ⟨_,_,rfl,nv C<|~~~M⟩⟩
     calc aY M ?_;let M:F+1+1≠a.size:= ~~~M
     refine eJ (λ_=>?_)<|λ_=>?_
     .exact wpS_pure ⟨i,.inr ⟨_,_,_,_,_,_,rfl,C,∅,∅,∅⟩⟩
     .exact wpS_pure ⟨i,_,_,_,_,_,_,rfl,C,∅,∅,∅⟩
    .refine aY L ?_;let L:O=0:=∅
     subst L;calc wpS_bind<|aZ zD ?_;let C:=fin (o.push b[d]) (by simp);rw[Nat.add_zero]at C;by_cases M:(F+1+1 == a.size)=Lj
     .refine br M ?_;exact wpS_pure ⟨i,.inl ⟨_,_,rfl,nv C<|~~~M⟩⟩
     calc aY M ?_;let M:F+1+1≠a.size:= ~~~M
     refine eJ (λ_=>?_)<|λ_=>?_
     .exact wpS_pure ⟨i,.inr ⟨_,_,_,_,_,_,rfl,C,∅,∅,∅⟩⟩
     .exact wpS_pure ⟨i,_,_,_,_,_,_,rfl,C,∅,∅,∅⟩
end
end PyProof.Rows._T
namespace PyProof.Rows._T
open PySem PyProof.Rows
section
variable{prog:HQ}{w:HP}{A:Ia}{E:HN->Ib->Prop}{s:Ib}{κ:SortKind}{S:Keyed->Prop}{rk:Keyed->Int}
theorem mf{l:Array Keyed}{n:Nat}(a:1<=n)(h:n<=l.size):(l.toList.take n).drop (n-1)=[l[n-1]'∅]:=by
 let(i,rfl):∃i,n=i+1:=⟨n-1,∅⟩;calc xT ∅
theorem zE{l:Array Keyed}{n:Nat}:(l.extract 0 n).toList=l.toList.take n:=by
 rw[Es];simp
theorem gH{l:Array Keyed}{i j:Nat}:(l.extract i j).toList=(l.toList.take j).drop i:=by
 rw[Es,ro]
theorem mem_mid{xs:Array Keyed}{i k:Nat}{y:Keyed}(h:y∈(xs.toList.take k).drop i):∃j,∃d:j<xs.size,i<=j/\j<k/\xs[j]=y:=by
 rw[ro]at h;let(j,c,b,e,a):=jb h;calc⟨j,c,b,∅,a⟩
theorem rR{a b:Array Keyed}{st:SortSt}{Q:Array Keyed->SortSt->Prop}(hA:Ask prog w A E s κ S rk)(hk:kindOf st=κ)(b1:∀x∈a,S x)(b0:∀x∈b,S x)
  (sa:Sd rk a.toList)(sb:Sd rk b.toList)(h1:0<a.size)(h2:0<b.size)(c0:∀y∈a,rk b[0]<rk y)(d3:∀x∈b,rk x<=rk a[a.size-1])
  (h:∀m t,dg st t->MR rk a.toList b.toList m.toList->Q m t):wpS (model prog w) A E s (xS a b) Q st:=by
 let lA:⇑a.toList=a.size:=by simp
 let lB:⇑b.toList=b.size:=by simp
 let jz:∀{out:Array Keyed}{g d:Nat},HI rk a.toList b.toList out.toList.reverse g d->g=0->MR rk a.toList b.toList (a.extract 0 g++b.extract 0 d++out.reverse).toList:=λq e=>by
  rw[Ee,Ee,zE,zE,Array.toList_reverse];exact q.done sa sb e
 let qt:∀{out:Array Keyed}{g d:Nat},HI rk a.toList b.toList out.toList.reverse g d->d=1->MR rk a.toList b.toList (b.extract 0 d++a.extract 0 g++out.reverse).toList:=λ{out g d} q e=>by
  rw[Ee,Ee,zE,zE,Array.toList_reverse];refine q.last sa sb λx B y k=>?_
  let(j,W,M,rfl):=dF B;let a9:j=0:=∅
  subst a9;exact Int.le_of_lt<|c0 y<|~~~ri k
 let kE:∀{out:Array Keyed}{x:Keyed},(out.push x).toList.reverse=[x]++out.toList.reverse:=λ{_ _}=>by simp
 let AI:∀{out c:Array Keyed},(out++c.reverse).toList.reverse=c.toList++out.toList.reverse:=λ{_ _}=>by simp
 refine wpS_bind<|wpS_lift<|Kn ⟨rfl,?_⟩
 try dsimp -zeta only
 let b4:a.size-1<a.size:=∅
 calc wpS_bind<|aZ b4 ?_;let m0:HI rk a.toList b.toList (#[a[a.size-1]]:Array Keyed).toList.reverse (a.size-1) b.size:=by
  let e:=rG (l:=a.toList) (i:=a.size-1) ∅;rw[show a.size-1+1=⇑a.toList by(try dsimp only);lia,wL]at e;refine⟨?_,?_,?_,?_⟩
  .rw[e,show b.toList.drop b.size=[] by rw[←lB,wL]];simp
  .exact List.pairwise_singleton _ _
  .intro x B y k;let k:y=a[a.size-1]:= ~~~k
   subst k;let(j,W,M,rfl):=dF B;exact sa.le_of ∅ b4
  .intro x B y k;let k:y=a[a.size-1]:= ~~~k
   subst k;exact d3 x<|~~~ri B
 by_cases c1:(a.size-1 == 0)=Lj
 .refine br c1 ?_;exact wpS_pure<|h _ _ .refl<|jz m0<|~~~c1
 calc aY c1 ?_;let c1:a.size-1≠0:= ~~~c1
 by_cases c2:(b.size == 1)=Lj
 .refine br c2 ?_;exact wpS_pure<|h _ _ .refl<|qt m0<|~~~c2
 calc aY c2 ?_;let c2:b.size≠1:= ~~~c2
 refine wpS_bind<|wpS_get ?_
 refine wpS_bind (wpS_mono (wpS_forRange (I:=λx c t=>dg st t/\∃g d out mg,c=(Li,g,d,out,mg)/\HI rk a.toList b.toList out.toList.reverse g d/\1<=g/\g<a.size/\2<=d/\d<=b.size/\x+1+g+d<=a.size+b.size)
  (Q:=λc t=>dg st t/\∃r rest,c=(Lh r,rest)/\MR rk a.toList b.toList r.toList) ?step ?fin ⟨.refl,_,_,_,_,rfl,m0,∅,∅,∅,∅,∅⟩) ?post)
 case fin =>
  rintro c t ⟨_,g,d,out,mg,rfl,q,v,F,C,u,N⟩;exfalso
  (try dsimp only);lia
 case post =>
  rintro c t ⟨X,r,rest,rfl,hr⟩;exact wpS_pure<|h _ _ X hr
 case step =>
  rintro x c t _ B ⟨X,g,d,out,mg,rfl,q,v,F,C,u,N⟩
  try dsimp -zeta only
  refine wpS_bind (wpS_mono (wpS_forRange (I:=λy c V=>V=t/\∃g d out R O,c=(Li,g,d,out,R,O)/\HI rk a.toList b.toList out.toList.reverse g d/\1<=g/\g<a.size/\2<=d/\d<=b.size/\y+(x+1)+g+d<=a.size+b.size)
   (Q:=λc V=>V=t/\((∃r rest,c=(Lh r,rest)/\MR rk a.toList b.toList r.toList)\/∃g d out R O,c=(Li,g,d,out,R,O)/\HI rk a.toList b.toList out.toList.reverse g d/\1<=g/\g<a.size/\2<=d/\d<=b.size/\x+2+g+d<=a.size+b.size)) ?pW ?fin1 ⟨rfl,_,_,_,_,_,rfl,q,v,F,C,u,∅⟩) ?post1)
  case fin1 =>
   clear v F C u N q;rintro c V ⟨_,g,d,out,R,O,rfl,q,v,F,C,u,N⟩;exfalso
   (try dsimp only);lia
  case pW =>
   clear v F C u N q;rintro y c V _ k ⟨rfl,g,d,out,R,O,rfl,q,v,F,C,u,N⟩
   try dsimp -zeta only
   let K:d-1<b.size:=∅
   let a8:g-1<a.size:=∅
   calc wpS_bind<|aZ K<|wpS_bind<|aZ a8 ?_;refine wpS_bind<|hA _ _ _ _ (b0 _<|DT _) (b1 _<|DT _) (X.kind.trans hk) ?_
   try dsimp -zeta only
   by_cases a7:rk b[d-1]<rk a[g-1]
   .refine br (Ls a7) ?_;calc wpS_bind<|aZ a8 ?_;let L:HI rk a.toList b.toList (out.push a[g-1]).toList.reverse (g-1) d:=by
     rw[kE,←mf v ∅];refine q.pushA sa _ ∅ λx B y k=>?_
     rw[mf v ∅]at k;rw[gZ.mp k];let(j,W,M,rfl):=dF B;exact Int.le_trans (sb.le_of (show j<=d-1 by(try dsimp only);lia) K) (Int.le_of_lt a7)
    by_cases c:(g-1 == 0)=Lj
    .refine br c ?_;exact wpS_pure ⟨rfl,.inl ⟨_,_,rfl,jz L<|~~~c⟩⟩
    .refine aY c ?_;let c:g-1≠0:= ~~~c
     refine eJ (λ_=>?_)<|λ_=>?_
     .exact wpS_pure ⟨rfl,.inr ⟨_,_,_,_,_,rfl,L,∅,∅,C,u,∅⟩⟩
     .exact wpS_pure ⟨rfl,_,_,_,_,_,rfl,L,∅,∅,C,u,∅⟩
   .refine aY (by rw[Lu a7];exact Bool.false_ne_true) ?_;calc wpS_bind<|aZ K ?_;let L:HI rk a.toList b.toList (out.push b[d-1]).toList.reverse g (d-1):=by
     rw[kE,←mf ∅ u];refine q.pushB sb _ ∅ λx B y k=>?_
     rw[mf ∅ u]at k;rw[gZ.mp k];let(j,W,M,rfl):=dF B;exact Int.le_trans (sa.le_of (show j<=g-1 by(try dsimp only);lia) a8) (GW.mp a7)
    by_cases c:(d-1 == 1)=Lj
    .refine br c ?_;exact wpS_pure ⟨rfl,.inl ⟨_,_,rfl,qt L<|~~~c⟩⟩
    .refine aY c ?_;let c:d-1≠1:= ~~~c
     refine eJ (λ_=>?_)<|λ_=>?_
     .exact wpS_pure ⟨rfl,.inr ⟨_,_,_,_,_,rfl,L,∅,∅,∅,∅,∅⟩⟩
     .exact wpS_pure ⟨rfl,_,_,_,_,_,rfl,L,∅,∅,∅,∅,∅⟩
  case post1 =>
   clear v F C u N q;rintro c V ⟨rfl,⟨r,rest,rfl,hr⟩|⟨g,d,out,R,O,rfl,q,v,F,C,u,N⟩⟩
   .exact wpS_pure ⟨X,r,_,rfl,hr⟩
   try dsimp -zeta only
   refine wpS_bind<|wpS_lift<|Kn ⟨rfl,?_⟩
   refine wpS_bind (wpS_mono (wpS_forRange (I:=λy c V=>dg st V/\∃g d out mg R O,c=(Li,g,d,out,mg,R,O)/\HI rk a.toList b.toList out.toList.reverse g d/\1<=g/\g<a.size/\2<=d/\d<=b.size/\y+(x+2)+g+d<=a.size+b.size)
    (Q:=λc V=>dg st V/\((∃r rest,c=(Lh r,rest)/\MR rk a.toList b.toList r.toList)\/∃g d out mg R O,c=(Li,g,d,out,mg,R,O)/\HI rk a.toList b.toList out.toList.reverse g d/\1<=g/\g<a.size/\2<=d/\d<=b.size/\x+2+g+d<=a.size+b.size)) ?step2 ?fin2 ⟨X,_,_,_,_,_,_,rfl,q,v,F,C,u,∅⟩) ?post2)
   case fin2 =>
    clear v F C u N q;rintro c V ⟨_,g,d,out,mg,R,O,rfl,q,v,F,C,u,N⟩;exfalso
    (try dsimp only);lia
   case post2 =>
    clear v F C u N q;rintro c V ⟨a0,⟨r,rest,rfl,hr⟩|⟨g,d,out,mg,R,O,rfl,q,v,F,C,u,N⟩⟩
    .exact wpS_pure ⟨a0,r,_,rfl,hr⟩
    .try dsimp -zeta only
     exact wpS_bind<|qr a0 λc7 n=>wpS_pure ⟨n,_,_,_,_,rfl,q,v,F,C,u,∅⟩
   case step2 =>
    clear v F C u N q;rintro y c d4 _ k ⟨a0,g,d,out,mg,R,O,rfl,q,v,F,C,u,N⟩
    try dsimp -zeta only
    let K:d-1<b.size:=∅
    let Z:∀{α:Type}{p:StateT SortSt Sem α}{f:Nat->StateT SortSt Sem α}{Q:α->SortSt->Prop}{st:SortSt},p=f (mg-1)->(∀m,wpS (model prog w) A E s (f m) Q st)->wpS (model prog w) A E s (if mg>1 then p else f mg) Q st:=λh1 h2=>vh h1 h2
    apply Z
    .rfl
    clear Z mg;intro mg;calc wpS_bind<|qr a0 λc7 n=>?_;calc wpS_bind<|aZ K ?_;calc wpS_bind<|d8 hA (n.kind.trans hk) b1 (b0 _<|DT _) ∅ ∅ (sa.srtOn ∅) λJ d0 b6 b5=>?_;let G:HI rk a.toList b.toList ((a.toList.take g).drop J++out.toList.reverse) J d:=q.pushA sa J d0 λx B y k=>by
     let(j,W,M,d2,rfl):=mem_mid k;let(j',a9,xU,rfl):=dF B;exact Int.le_trans (sb.le_of (show j'<=d-1 by(try dsimp only);lia) K) (pV (base:=0) W ∅ (b5 (j-0) ∅ ∅))
    let Y:∀x∈a.toList.take J,∀y∈(b.toList.take d).drop (d-1),rk x<=rk y:=λx B y k=>by
     rw[mf ∅ u]at k;rw[gZ.mp k];let(j,W,M,rfl):=dF B;exact pU (base:=0) W ∅ (b6 (j-0) ∅)
    clear b6 b5
    try dsimp -zeta only
    generalize d5:g-J=kk;let Z:∀{α:Type}{p:StateT SortSt Sem α}{f:Nat->Array Keyed->StateT SortSt Sem α}{Q:α->SortSt->Prop}{st:SortSt}(P:Nat->Array Keyed->Prop),(∀x o,P x o->wpS (model prog w) A E s (f x o) Q st)->(kk>0->(∀x o,P x o->wpS (model prog w) A E s (f x o) Q st)->wpS (model prog w) A E s p Q st)->(¬ kk>0->P g out)->wpS (model prog w) A E s (if kk>0 then p else f g out) Q st:=λP h1 h2 h3=>rP P h1 h2 h3
    apply Z (λD o=>HI rk a.toList b.toList o.toList.reverse D d/\1<=D/\D<a.size/\y+(x+2)+D+d<=a.size+b.size/\∀x∈a.toList.take D,∀y∈(b.toList.take d).drop (d-1),rk x<=rk y)
    rotate_left
    .intro d1 c6;rw[←gH,←AI]at G;by_cases c3:(J == 0)=Lj
     .exact br c3<|wpS_pure ⟨n,.inl ⟨_,_,rfl,jz G<|~~~c3⟩⟩
     .let T:J≠0:= ~~~c3
      exact aY c3<|c6 _ _ ⟨G,∅,∅,∅,Y⟩
    .intro d1;let e:J=g:=∅
     rw[e,show(a.toList.take g).drop g=[] by rw[ro,CM,oj],tJ]at G;exact⟨G,v,F,N,by rw[←e];exact Y⟩
    clear G Y Z;rintro D o ⟨G,b9,e0,e3,Y⟩;let b3:HI rk a.toList b.toList (o.push b[d-1]).toList.reverse D (d-1):=by
     rw[kE,←mf ∅ u];exact G.pushB sb _ ∅ Y
    calc wpS_bind<|aZ K ?_;by_cases c:(d-1 == 1)=Lj
    .refine br c ?_;exact wpS_pure ⟨n,.inl ⟨_,_,rfl,qt b3<|~~~c⟩⟩
    calc aY c ?_;let c:d-1≠1:= ~~~c
    let zF:D-1<a.size:=∅
    calc wpS_bind<|aZ zF ?_;calc wpS_bind<|d8 hA (n.kind.trans hk) b0 (b1 _<|DT _) ∅ ∅ (sb.srtOn ∅) λz BD BE zC=>?_;let G4:1<=z:=by
     rcases Nat.eq_zero_or_pos z with hh|hh
     .exfalso;let e1:=pV (base:=0) (j:=0) h2 ∅ (zC (0-0) ∅ ∅);let e2:=c0 a[D-1] (DT _)
      (try dsimp only);lia
     .exact hh
    let a6:HI rk a.toList b.toList ((b.toList.take<|d-1).drop z++(o.push b[d-1]).toList.reverse) D z:=b3.pushB sb z BD λx B y k=>by
     let(j,W,M,d2,rfl):=mem_mid k;let(j',a9,xU,rfl):=dF B;exact Int.le_trans (sa.le_of (show j'<=D-1 by(try dsimp only);lia) zF) (pV (base:=0) W ∅ (zC (j-0) ∅ ∅))
    let fin:∀(o2:Array Keyed),o2.toList.reverse=(b.toList.take<|d-1).drop z++(o.push b[d-1]).toList.reverse->HI rk a.toList b.toList (o2.push a[D-1]).toList.reverse (D-1) z:=λo2 c8=>by
     rw[←c8]at a6;rw[kE,←mf b9 ∅];refine a6.pushA sa _ ∅ λx B y k=>?_
     rw[mf b9 ∅]at k;rw[gZ.mp k];let(j,W,M,rfl):=dF B;exact pU (base:=0) W ∅ (BE (j-0) ∅)
    try dsimp -zeta only
    rcases Nat.eq_or_lt_of_le BD with BG|BG
    .refine aY ∅ ?_;calc wpS_bind<|aZ zF ?_;let H:=fin (o.push b[d-1]) (by rw[BG,show(b.toList.take<|d-1).drop (d-1)=[] by rw[ro,CM,oj],tJ]);rw[BG]at H;by_cases T:(D-1 == 0)=Lj
     .refine br T ?_;exact wpS_pure ⟨n,.inl ⟨_,_,rfl,jz H<|~~~T⟩⟩
     calc aY T ?_;let T:D-1≠0:= ~~~T
     refine eJ (λ_=>?_)<|λ_=>?_
     .exact wpS_pure ⟨n,.inr ⟨_,_,_,_,_,_,rfl,H,∅,∅,∅,∅,∅⟩⟩
     .exact wpS_pure ⟨n,_,_,_,_,_,_,rfl,H,∅,∅,∅,∅,∅⟩
    .refine br ∅ ?_;rw[←gH,←AI]at a6 fin;by_cases c5:(z == 1)=Lj
     .refine br c5 ?_;exact wpS_pure ⟨n,.inl ⟨_,_,rfl,qt a6<|~~~c5⟩⟩
     calc aY c5 ?_;let c5:z≠1:= ~~~c5
     refine aY (by simp;lia) ?_;calc wpS_bind<|aZ zF ?_;let H:=fin _ rfl;by_cases T:(D-1 == 0)=Lj
     .refine br T ?_;exact wpS_pure ⟨n,.inl ⟨_,_,rfl,jz H<|~~~T⟩⟩
     calc aY T ?_;let T:D-1≠0:= ~~~T
     refine eJ (λ_=>?_)<|λ_=>?_
     .exact wpS_pure ⟨n,.inr ⟨_,_,_,_,_,_,rfl,H,∅,∅,∅,∅,∅⟩⟩
     .exact wpS_pure ⟨n,_,_,_,_,_,_,rfl,H,∅,∅,∅,∅,∅⟩
end
end PyProof.Rows._T
namespace PyProof.Rows._T
open PySem PyProof.Rows
section
variable{prog:HQ}{w:HP}{A:Ia}{E:HN->Ib->Prop}{s:Ib}{κ:SortKind}{rk:Keyed->Int}{a₀:Array Keyed}
structure SB(κ:SortKind)(a₀:Array Keyed)(st:SortSt):Prop where
 perm:(arrOf st).Perm a₀
 kind:kindOf st=κ
 failed:failedOf st=Li
theorem SB.size{st:SortSt}(h:SB κ a₀ st):(arrOf st).size=a₀.size:=h.perm.size_eq
theorem SB.mem{st:SortSt}(h:SB κ a₀ st):∀x∈arrOf st,x∈a₀:=λx b=>by
 let:=(Array.perm_iff_toList_perm.mp h.perm).mem_iff (a:=x);calc Eg.mp<|this.mp<|Eg.mpr b
theorem SB.setArr{st:SortSt}(h:SB κ a₀ st){xs:Array Keyed}(a:xs.Perm (arrOf st)):SB κ a₀ (setArr st xs):=⟨a.trans h.perm,h.kind,h.failed⟩
theorem kF{st:SortSt}{i j:Nat}{Q:Option Bool->SortSt->Prop}(e:Ask prog w A E s κ (· ∈ a₀) rk)(a:SB κ a₀ st)(hi:i<a₀.size)(d:j<a₀.size)
  (h:Q (Lh<|Lm<|Kx rk (arrOf st) i<Kx rk (arrOf st) j) st):wpS (model prog w) A E s (ltAt' i j) Q st:=by
 let c:i<(arrOf st).size:=by rw[a.size];exact hi
 let b:j<(arrOf st).size:=by rw[a.size];exact d
 rw[Kx_at c,Kx_at b]at h;rw[ltAt'_eq];calc wpS_bind<|wpS_get ?_;calc wpS_bind<|aZ c<|wpS_bind<|aZ b ?_;calc e _ _ _ _ (a.mem _<|DT _) (a.mem _<|DT _) a.kind h
theorem mF{st:SortSt}{i j:Nat}{Q:Unit->SortSt->Prop}(h:Q () (setArr st<|mirror (arrOf st) i j<|(j-i) / 2)) :
  wpS (model prog w) A E s (reverseSlice' i j) Q st:=by
 rw[reverseSlice'_eq];calc wpS_modify h
theorem lK{xs:Array Keyed}{a d:Nat}(f:a<xs.size)(g:d<=a)(k:Nat) :
  Kx rk (bubble xs a d) k=if k=a-d then Kx rk xs a else if a-d<k/\k<=a then Kx rk xs (k-1)else Kx rk xs k:=by
 let e:=getElem?_bubble f d g k;by_cases c:k=a-d
 .rw[Lq c]at e⊢;exact fj e
 .rw[Lp c]at e⊢;by_cases b:a-d<k/\k<=a
  .rw[Lq b]at e⊢;exact fj e
  .rw[Lp b]at e⊢;calc fj e
theorem jc{xs:Array Keyed}{i j:Nat}(b:j<=xs.size)(k:Nat) :
  Kx rk (mirror xs i j<|(j-i) / 2) k=if i<=k/\k<j then Kx rk xs (i+j-1-k)else Kx rk xs k:=by
 let e:=getElem?_mirror_all (i:=i) b k;by_cases a:i<=k/\k<j
 .rw[Lq a]at e⊢;exact fj e
 .rw[Lp a]at e⊢;calc fj e
theorem ck{xs:Array Keyed}{i j:Nat}(b:j<=xs.size)(a:∀k,i<=k->k<j->Kx rk xs k=Kx rk xs (j-1))(k:Nat) :
  Kx rk (mirror xs i j<|(j-i) / 2) k=Kx rk xs k:=by
 rw[jc b];split
 .rw[a _ ∅ ∅,a k ∅ ∅]
 .rfl
def Ahd(rk:Keyed->Int)(lo:Nat)(st a:SortSt):Prop:=(∀i,i<lo->Kx rk (arrOf a) i=Kx rk (arrOf st) i)/\pendingOf a=pendingOf st
def Ahd.refl{lo:Nat}{st:SortSt}:Ahd rk lo st st:=⟨λ_ _=>rfl,rfl⟩
theorem Ahd.trans{lo:Nat}{st a b:SortSt}(h:Ahd rk lo st a)(h':Ahd rk lo a b):Ahd rk lo st b:=⟨λi hi=>(h'.1 i hi).trans<|h.1 i hi,h'.2.trans h.2⟩
def Non(rk:Keyed->Int)(xs:Array Keyed)(lo n:Nat):Prop:=∀i j,lo<=i->i<=j->j<lo+n->Kx rk xs j<=Kx rk xs i
theorem uv{st:SortSt}{lo n ok:Nat}{Q:Bool->SortSt->Prop}(J:Ask prog w A E s κ (· ∈ a₀) rk)(R:lo+n<=a₀.size)(hok:ok<=n)(H:SB κ a₀ st)(C:SrtOn rk (arrOf st) lo ok)
  (h:∀a,SB κ a₀ a->Ahd rk lo st a->SrtOn rk (arrOf a) lo n->Q Lj a):wpS (model prog w) A E s (binarySort' lo n ok) Q st:=by
 refine wpS_bind (wpS_mono (wpS_forRange (I:=λk c a=>c=(Li,())/\SB κ a₀ a/\Ahd rk lo st a/\SrtOn rk (arrOf a) lo (min k n))
  (Q:=λc a=>c=(Li,())/\SB κ a₀ a/\Ahd rk lo st a/\SrtOn rk (arrOf a) lo n) ?step ?fin ?init) ?post)
 case post =>
  rintro c a ⟨rfl,f,o,d⟩;exact wpS_pure<|h a f o d
 case init =>
  calc⟨rfl,H,.refl,λi j hi u F=>?_⟩;by_cases t:ok=0
  .let:i=j:=∅
   subst this;exact Int.le_refl _
  .exact C i j hi u ∅
 case fin =>
  rintro c a ⟨G,f,o,d⟩;refine⟨G,f,o,?_⟩
  rwa [show min (max (max ok 1) n) n=n by lia]at d
 case step =>
  rintro k c a P O ⟨rfl,f,o,d⟩;rw[show min k n=k by lia]at d;let B:lo+k<a₀.size:=∅
  refine wpS_bind (wpS_mono (wpS_forRange (I:=λx c e=>e=a/\∃l r,c=(Li,l,r)/\l<=r/\r<=k/\r-l<=k-x /\
    (∀i,i<l->Kx rk (arrOf a) (lo+i)<=Kx rk (arrOf a) (lo+k))/\(∀i,r<=i->i<k->Kx rk (arrOf a) (lo+k)<Kx rk (arrOf a) (lo+i)))
   (Q:=λc e=>e=a/\∃l r,c=(Li,l,r)/\l<=k /\
    (∀i,i<l->Kx rk (arrOf a) (lo+i)<=Kx rk (arrOf a) (lo+k))/\(∀i,l<=i->i<k->Kx rk (arrOf a) (lo+k)<Kx rk (arrOf a) (lo+i))) ?istep ?ifin ?iinit) ?ipost)
  case iinit=>exact⟨rfl,0,k,rfl,∅,∅,∅,λi hi=>∅,λi t y=>∅⟩
  case ifin =>
   rintro c e ⟨rfl,l,r,rfl,z,p,D,g,m⟩;let:l=r:=∅
   subst this;exact⟨rfl,l,l,rfl,p,g,m⟩
  case istep =>
   rintro x c e _ M ⟨rfl,l,r,rfl,z,p,D,g,m⟩;dsimp only;by_cases v:l ≥ r
   .rw[Lq v];let:l=r:=∅
    subst this;exact wpS_pure ⟨rfl,l,l,rfl,p,g,m⟩
   .rw[Lp v];calc wpS_bind<|kF J f B ∅ ?_;by_cases b:Kx rk (arrOf e) (lo+k)<Kx rk (arrOf e) (lo+(l+r) / 2)
    .simp only[b,decide_true,if_true];calc wpS_pure ⟨rfl,l,(l+r) / 2,rfl,∅,∅,∅,g,λi t y=>?_⟩;exact Int.lt_of_lt_of_le b<|d _ _ ∅ ∅ ∅
    .simp only[b,decide_false,EX,if_false];calc wpS_pure ⟨rfl,(l+r) / 2+1,r,rfl,∅,∅,∅,λi t=>?_,m⟩;exact Int.le_trans (d (lo+i) (lo+(l+r) / 2) ∅ ∅ ∅)<|GW.mp b
  case ipost =>
   rintro c e ⟨rfl,l,r,rfl,N,g,m⟩;show wpS _ _ _ _ (do moveDown' (lo+k) (lo+l);pure (ForInStep.yield (Li,()))) _ _;rw[moveDown'_eq];let q:lo+k<(arrOf e).size:=by rw[f.size];exact B
   refine wpS_bind<|wpS_modify<|wpS_pure ⟨rfl,f.setArr<|bubble_perm _ _ _,o.trans ⟨λi hi=>?_,rfl⟩,?_⟩
   .show Kx rk (bubble (arrOf e) (lo+k)<|lo+k-(lo+l)) i=_;rw[lK q ∅,Lp ∅,Lp ∅]
   rw[show min (k+1) n=k+1 by lia];intro i j hi u F;show Kx rk (bubble (arrOf e) (lo+k)<|lo+k-(lo+l)) i<=Kx rk (bubble (arrOf e) (lo+k)<|lo+k-(lo+l)) j;rw[lK q ∅,lK q ∅,show lo+k-(lo+k-(lo+l))=lo+l by lia];let L:∀i,lo<=i->i<lo+l->Kx rk (arrOf e) i<=Kx rk (arrOf e) (lo+k):=λi t y=>by
    let:=g (i-lo) ∅
    rwa [show lo+(i-lo)=i by lia]at this
   let K:∀i,lo+l<=i->i<lo+k->Kx rk (arrOf e) (lo+k)<Kx rk (arrOf e) i:=λi t y=>by
    let:=m (i-lo) ∅ ∅
    rwa [show lo+(i-lo)=i by lia]at this
   repeat' split
   all_goals first
    |(exfalso;lia)
    |exact Int.le_refl _
    |exact L _ ∅ ∅
    |exact Int.le_of_lt (K _ ∅ ∅)
    |calc d _ _ ∅ ∅ ∅
theorem wb{st:SortSt}{lo z:Nat}{Q:Option Nat->SortSt->Prop}(hA:Ask prog w A E s κ (· ∈ a₀) rk)(hn:lo+z<=a₀.size)(Z:1<=z)(V:SB κ a₀ st)
  (h:∀m d,SB κ a₀ d->Ahd rk lo st d->1<=m->m<=z->SrtOn rk (arrOf d) lo m->Q (Lh m) d) :
  wpS (model prog w) A E s (countRun' lo z) Q st:=by
 let a8:∀{q:SortSt}{a:Nat}{R:Option (Option Nat)×Nat->SortSt->Prop}{f:Nat->Option (Option Nat)×Nat->StateT SortSt Sem (ForInStep<|Option (Option Nat)×Nat)},
   (∀x n o (T:ForInStep (Option (Option Nat)×Nat)->SortSt->Prop),wpS (model prog w) A E s (ltAt' (lo+n)<|lo+n-1) (λr W=>∃b,r=Lh b/\T (if b=Lj then ForInStep.done (Li,n)else ForInStep.yield (Li,n+1)) W) o->wpS (model prog w) A E s (f x (Li,n)) T o) ->
   SB κ a₀ q->1<=a->a<=z->SrtOn rk (arrOf q) lo a ->
   (∀n,a<=n->n<=z->SrtOn rk (arrOf q) lo n->(n=z\/Kx rk (arrOf q) (lo+n)<Kx rk (arrOf q) (lo+n-1))->R (Li,n) q) ->
   wpS (model prog w) A E s (forIn [a:z] ((Li,a):Option (Option Nat)×Nat) f) R q:=by
  intro q a R f hf F ha c2 hs hR;refine wpS_forRange (I:=λx c d=>d=q/\c=(Li,x)/\SrtOn rk (arrOf q) lo x) ?step ?fin ⟨rfl,rfl,hs⟩
  case fin =>
   rintro c d ⟨rfl,rfl,g⟩;rw[show max a z=z by lia]at g⊢;exact hR z c2 (xX _) g<|.inl rfl
  case step =>
   rintro x c d a6 a9 ⟨rfl,rfl,g⟩;calc hf _ _ _ _<|kF hA F ∅ ∅ ?_;calc⟨_,rfl,?_⟩;by_cases l:Kx rk (arrOf d) (lo+x)<Kx rk (arrOf d) (lo+x-1)
   .rw[Ls l,Lq rfl];exact hR x a6 ∅ g (.inr l)
   .rw[Lu l,Lp Bool.false_ne_true];calc⟨rfl,rfl,λi j hi t S=>?_⟩;by_cases J:j<lo+x
    .exact g i j hi t J
    .let D:j=lo+x:=∅
     subst D;by_cases y:i=lo+x
     .subst y;exact Int.le_refl _
     .exact Int.le_trans (g i (lo+x-1) hi ∅ ∅)<|GW.mp l
 refine wpS_bind<|a8 (λx n o T hT=>wpS_bind<|wpS_mono hT λr W M=>?_) V (xX 1) Z (λi j hi t S=>by have:i=j:=∅;subst this;exact Int.le_refl _) λn a3 a0 N b1=>?_
 .let(b,rfl,M):=M;cases b with
  |true=>exact wpS_pure M
  |false=>exact wpS_pure M
 dsimp only;by_cases H:(n == z)=Lj
 .rw[Lq H];exact wpS_pure<|h n st V .refl a3 a0 N
 rw[Lp H];let H:n≠z:= ~~~H
 let a4:Kx rk (arrOf st) (lo+n)<Kx rk (arrOf st) (lo+n-1):=b1.resolve_left H;let u:lo+n<=(arrOf st).size:=by rw[V.size];lia
 by_cases a5:n>1
 rw[Lq a5];calc wpS_bind<|kF hA V ∅ ∅ ?_;dsimp only;by_cases L:Kx rk (arrOf st) lo<Kx rk (arrOf st) (lo+n-1)
 .rw[Ls L,Lq rfl];exact wpS_pure<|h n st V .refl a3 a0 N
 rw[Lu L,Lp Bool.false_ne_true];let eW:∀k,lo<=k->k<lo+n->Kx rk (arrOf st) k=Kx rk (arrOf st) (lo+n-1):=by
  intro k c3 hk;let a1:=N lo k (xX _) ∅ hk;let a2:=N k (lo+n-1) ∅ ∅ ∅;lia
 calc wpS_bind<|mF ?_;let F:SB κ a₀ (setArr st<|mirror (arrOf st) lo (lo+n)<|(lo+n-lo) / 2):=V.setArr<|mirror_perm _ _ _ _;let K:Ahd rk lo st (setArr st<|mirror (arrOf st) lo (lo+n)<|(lo+n-lo) / 2):=⟨λi _=>ck u eW i,rfl⟩;let O:Non rk (arrOf<|setArr st<|mirror (arrOf st) lo (lo+n)<|(lo+n-lo) / 2) lo (n+1):=by
  intro i j hi t S;show Kx rk (mirror (arrOf st) _ _ _) j<=Kx rk (mirror (arrOf st) _ _ _) i;rw[ck u eW,ck u eW];by_cases b6:j<lo+n
  .rw[eW i ∅ ∅,eW j ∅ b6];exact Int.le_refl _
  .let D:j=lo+n:=∅
   subst D;by_cases y:i=lo+n
   .subst y;exact Int.le_refl _
   .rw[eW i ∅ ∅];exact Int.le_of_lt a4
 generalize setArr st (mirror (arrOf st) lo (lo+n)<|(lo+n-lo) / 2)=q at F K O⊢
 rotate_left
 rw[Lp a5];let F:=V;let K:Ahd rk lo st st:=.refl;let O:Non rk (arrOf st) lo (n+1):=by
  intro i j hi t S;by_cases y:i=j
  .subst y;exact Int.le_refl _
  .let b3:n=1:=∅
   subst b3;let c1:i=lo:=∅
   let b9:j=lo+1:=∅
   subst c1;subst b9;exact Int.le_of_lt a4
 generalize C2:st=q at F K O⊢;replace K:Ahd rk lo st q:=by rw[C2];exact .refl
 clear C2
 all_goals
  refine wpS_bind<|wpS_lift<|Kn ⟨rfl,?_⟩
  refine wpS_bind (wpS_mono (wpS_forRange (I:=λx c d=>∃e,c=(Li,x,e)/\SB κ a₀ d/\Ahd rk lo st d/\Non rk (arrOf d) lo x/\e+1<=x/\(∀i,lo+x-(e+1)<=i->i<lo+x->Kx rk (arrOf d) i=Kx rk (arrOf d) (lo+x-1)))
   (Q:=λc d=>∃m e,c=(Li,m,e)/\1<=m/\m<=z/\SB κ a₀ d/\Ahd rk lo st d/\Non rk (arrOf d) lo m/\e+1<=m/\(∀i,lo+m-(e+1)<=i->i<lo+m->Kx rk (arrOf d) i=Kx rk (arrOf d) (lo+m-1))) ?step ?fin ⟨0,rfl,F,K,O,∅,λi Z h2=>by congr 1;lia⟩) ?post)
  case fin =>
   rintro c d ⟨e,rfl,p,v,g,hq,G⟩;rw[show max (n+1) z=z by lia]at g hq G⊢;exact⟨z,e,rfl,Z,xX _,p,v,g,hq,G⟩
  case step =>
   rintro x c d a6 a9 ⟨e,rfl,p,v,g,hq,G⟩;dsimp only;let u:lo+x<=(arrOf d).size:=by rw[p.size];lia
   calc wpS_bind<|kF hA p ∅ ∅ ?_;dsimp only;by_cases l:Kx rk (arrOf d) (lo+x)<Kx rk (arrOf d) (lo+x-1)
   .rw[Ls l,Lq rfl];let pW:∀xs:Array Keyed,(∀k,Kx rk xs k=Kx rk (arrOf d) k)->Non rk xs lo (x+1):=by
     intro xs hk i j hi t S;rw[hk,hk];by_cases J:j<lo+x
     .exact g i j hi t J
     .let D:j=lo+x:=∅
      subst D;by_cases y:i=lo+x
      .subst y;exact Int.le_refl _
      .exact Int.le_trans (Int.le_of_lt l)<|g i (lo+x-1) hi ∅ ∅
    by_cases B:e>0
    .rw[Lq B];refine wpS_bind<|mF<|wpS_pure ⟨0,rfl,p.setArr<|mirror_perm _ _ _ _,v.trans ⟨λi _=>ck u G i,rfl⟩,pW _<|ck u G,∅,λi Z h2=>by congr 1;lia⟩
    .rw[Lp B];exact wpS_pure ⟨0,rfl,p,v,pW _<|λ_=>rfl,∅,λi Z h2=>by congr 1;lia⟩
   .rw[Lu l,Lp Bool.false_ne_true];calc wpS_bind<|kF hA p ∅ ∅ ?_;dsimp only;by_cases C:Kx rk (arrOf d) (lo+x-1)<Kx rk (arrOf d) (lo+x)
    .rw[Ls C,Lq rfl];exact wpS_pure ⟨x,e,rfl,∅,∅,p,v,g,hq,G⟩
    .rw[Lu C,Lp Bool.false_ne_true];let C3:Kx rk (arrOf d) (lo+x)=Kx rk (arrOf d) (lo+x-1):=∅
     refine wpS_pure ⟨e+1,rfl,p,v,λi j hi t S=>?_,∅,λi Z h2=>?_⟩
     .by_cases J:j<lo+x
      .exact g i j hi t J
      .let D:j=lo+x:=∅
       subst D;by_cases y:i=lo+x
       .subst y;exact Int.le_refl _
       .rw[C3];exact g i (lo+x-1) hi ∅ ∅
     .rw[show lo+(x+1)-1=lo+x by lia];by_cases c0:i=lo+x
      .subst c0;rfl
      .rw[C3];exact G i ∅ ∅
  case post =>
   rintro c d ⟨m,e,rfl,b5,b4,p,v,g,hq,G⟩;dsimp only;let u:lo+m<=(arrOf d).size:=by rw[p.size];lia
   by_cases B:e>0
   rw[Lq B];calc wpS_bind<|mF ?_;let P:SB κ a₀ (setArr d<|mirror (arrOf d) (lo+m-(e+1)) (lo+m)<|(lo+m-(lo+m-(e+1))) / 2):=p.setArr<|mirror_perm _ _ _ _;let Y:Ahd rk lo st (setArr d<|mirror (arrOf d) (lo+m-(e+1)) (lo+m)<|(lo+m-(lo+m-(e+1))) / 2):=v.trans ⟨λi _=>ck u G i,rfl⟩;let X:Non rk (arrOf<|setArr d<|mirror (arrOf d) (lo+m-(e+1)) (lo+m)<|(lo+m-(lo+m-(e+1))) / 2) lo m:=by
    intro i j hi t S;show Kx rk (mirror (arrOf d) _ _ _) j<=Kx rk (mirror (arrOf d) _ _ _) i;rw[ck u G,ck u G];exact g i j hi t S
   generalize setArr d (mirror (arrOf d) (lo+m-(e+1)) (lo+m)<|(lo+m-(lo+m-(e+1))) / 2)=o at P Y X⊢
   rotate_left
   rw[Lp B];let P:=p;let Y:=v;let X:=g;clear G g v p;let(o,rfl):∃o,o=d:=⟨_,rfl⟩
   all_goals
    let BH:lo+m<=(arrOf o).size:=by rw[P.size];lia
    calc wpS_bind<|mF ?_;let a7:SB κ a₀ (setArr o<|mirror (arrOf o) lo (lo+m)<|(lo+m-lo) / 2):=P.setArr<|mirror_perm _ _ _ _;refine wpS_bind<|a8 (λx n o T hT=>wpS_bind<|wpS_mono hT λr W M=>?_) a7 b5 b4 ?_ λm' G5 Eu b0 _=>wpS_pure<|h m' _ a7 (Y.trans ⟨λi hi=>?_,rfl⟩) ∅ Eu b0
    .let(b,rfl,M):=M;cases b with
     |true=>exact wpS_pure M
     |false=>exact wpS_pure M
    .intro i j hi t S;show Kx rk (mirror (arrOf o) lo (lo+m)<|(lo+m-lo) / 2) i<=Kx rk (mirror (arrOf o) lo (lo+m)<|(lo+m-lo) / 2) j;rw[jc BH,jc BH,Lq ∅,Lq ∅];exact X _ _ ∅ ∅ ∅
    .show Kx rk (mirror (arrOf o) lo (lo+m)<|(lo+m-lo) / 2) i=_;rw[jc BH,Lp ∅]
end
end PyProof.Rows._T
namespace PyProof.Rows._T
open PySem PyProof.Rows
section
variable{prog:HQ}{w:HP}{A:Ia}{E:HN->Ib->Prop}{s:Ib}{κ:SortKind}{rk:Keyed->Int}{a₀:Array Keyed}
theorem rS(b:Nat):∀(M:Ly Keyed)(k:Nat)(arr:Array Keyed),b+k+M.length<=arr.size->((M.zipIdx k).foldl (λ(a:Array Keyed)(x:Keyed×Nat)=>match x with|(p,j)=>a.setIfInBounds (b+j) p) arr).toList=arr.toList.take (b+k)++M++arr.toList.drop (b+k+M.length)
 | [],k,arr,h=>by simp
 |m :: M,k,arr,h=>by
  rw[ik]at h;rw[List.zipIdx_cons,sO];let c:=rS b M (k+1) (arr.setIfInBounds (b+k) m) (by rw[Array.size_setIfInBounds];lia);calc c.trans ?_;rw[Array.toList_setIfInBounds];let f:⇑arr.toList=arr.size:=by simp
  rw[show b+(k+1)=b+k+1 by lia];let e:(arr.toList.set (b+k) m).take (b+k+1)=arr.toList.take (b+k)++[m]:=by
   rw[List.take_succ,List.take_set_of_le<|xX _,List.getElem?_set_self ∅];rfl
  let d:(arr.toList.set (b+k) m).drop (b+k+1+M.length)=arr.toList.drop (b+k+⇑(m :: M)):=by
   rw[List.drop_set_of_lt ∅,ik]
   congr 1
   lia
  rw[e,d];simp
theorem xV{xs:Array Keyed}{lo hi:Nat}{m:Keyed}(h:m∈(xs.extract lo hi).toList):∃t,lo<=t/\t<hi/\t<xs.size/\rk m=Kx rk xs t:=by
 rw[gH]at h;let(j,a,c,b,rfl):=mem_mid h;calc⟨j,c,b,a,(Kx_at a).symm⟩
theorem xW{xs:Array Keyed}{lo n hi:Nat}(h:SrtOn rk xs lo n)(j:lo+n<=xs.size){i:Nat}(g:lo<=i)(f:hi<=lo+n):Sd rk (xs.extract i hi).toList:=by
 refine tF.mpr λp q d c e=>?_
 let b:p<(xs.extract i hi).size:=by rw[←Dn];exact d
 let a:q<(xs.extract i hi).size:=by rw[←Dn];exact c
 rw[Et]at b a;let:=h (i+p) (i+q) ∅ ∅ ∅;rw[Kx_at ∅,Kx_at ∅]at this;simpa using this
theorem rT{st:SortSt}{i:Nat}{J H:Ly (Nat×Nat×Nat)}{c l W b C pb:Nat}{Q:Bool->SortSt->Prop}(hA:Ask prog w A E s κ (· ∈ a₀) rk)(n:SB κ a₀ st)
  (hp:(pendingOf st).toList=J++(c,l,W) :: (b,C,pb) :: H)(hi:i=J.length)(b5:b=c+l)(b9:1<=l)(b6:1<=C)(rH:b+C<=a₀.size)(N:SrtOn rk (arrOf st) c l)(M:SrtOn rk (arrOf st) b C)
  (h:∀d,SB κ a₀ d->(pendingOf d).toList=J++(c,l+C,W) :: H->(∀j,j<c\/b+C<=j->Kx rk (arrOf d) j=Kx rk (arrOf st) j)->SrtOn rk (arrOf d) c (l+C)->Q Lj d) :
  wpS (model prog w) A E s (mergeAt' i) Q st:=by
 let e0:(pendingOf st)[i]?=Lh (c,l,W):=by rw[←Em,hp,hi];simp
 let e1:(pendingOf st)[i+1]?=Lh (b,C,pb):=by rw[←Em,hp,hi];simp
 let b4:=n.size;calc wpS_bind<|wpS_get ?_;rw[e0,e1];dsimp only;calc wpS_bind<|zw ?_;let hP:(((pendingOf st).setIfInBounds i (c,l+C,W)).eraseIdxIfInBounds<|i+1).toList=J++(c,l+C,W) :: H:=by
  rw[Array.toList_eraseIdxIfInBounds,Array.toList_setIfInBounds,hp,hi];simp[List.eraseIdx_append];intro hh;lia
 generalize (((pendingOf st).setIfInBounds i (c,l+C,W)).eraseIdxIfInBounds<|i+1)=P at hP⊢;refine wpS_bind (aZ (show b<(arrOf st).size by lia) ?_);refine wpS_bind (d8 (arr:=arrOf st) hA n.kind n.mem (n.mem _<|DT _) (show 0<l by lia) ∅ N λk c6 b0 a9=>?_);dsimp only;let kb:∀j,b<=j->j<b+C->Kx rk (arrOf st) b<=Kx rk (arrOf st) j:=λj o r=>M b j (xX _) o r
 let ka:∀j,c<=j->j<c+l->Kx rk (arrOf st) j<=Kx rk (arrOf st) (b-1):=λj o r=>N j (b-1) o ∅ ∅
 let S:∀j,c<=j->j<c+k->Kx rk (arrOf st) j<=Kx rk (arrOf st) b:=λj o r=>by
  let g:j<(arrOf st).size:=∅
  rw[Kx_at g,Kx_at (show b<(arrOf st).size by lia)];exact pU g o<|b0 (j-c) ∅
 let Ew:∀j,c+k<=j->j<c+l->Kx rk (arrOf st) b<Kx rk (arrOf st) j:=λj o r=>by
  let g:j<(arrOf st).size:=∅
  rw[Kx_at g,Kx_at (show b<(arrOf st).size by lia)];exact zB g ∅ (a9 (j-c) ∅ ∅)
 by_cases Y:(l-k == 0)=Lj
 .rw[Lq Y];let Y:l-k=0:= ~~~Y
  calc wpS_pure<|h _ ⟨n.perm,n.kind,n.failed⟩ hP (λ_ _=>rfl) λi j o r h3=>?_;show Kx rk (arrOf st) i<=Kx rk (arrOf st) j;rcases AB j b with g|g
  .exact N i j o r ∅
  .rcases AB i b with z | z
   .exact Int.le_trans (S i o ∅)<|kb j g ∅
   .exact M i j z r ∅
 rw[Lp Y];let Y:l-k≠0:= ~~~Y
 let nv:c+k+(l-k)-1=b-1:=∅
 refine wpS_bind (aZ (show c+k+(l-k)-1<(arrOf st).size by lia) ?_);refine wpS_bind (d8 (arr:=arrOf st) hA n.kind n.mem (n.mem _<|DT _) (show C-1<C by lia) ∅ M λf c0 a7 a6=>?_);dsimp only;let a0:rk ((arrOf st)[c+k+(l-k)-1]'∅)=Kx rk (arrOf st) (b-1):=by
  exact(Kx_at (rk:=rk) (xs:=arrOf st) (i:=c+k+(l-k)-1) ∅).symm.trans (by rw[nv])
 let up:∀j,b+f<=j->j<b+C->Kx rk (arrOf st) (b-1)<=Kx rk (arrOf st) j:=λj o r=>by
  let g:j<(arrOf st).size:=∅
  rw[←a0,Kx_at g];exact pV g ∅ (a6 (j-b) ∅ ∅)
 let a5:∀j,b<=j->j<b+f->Kx rk (arrOf st) j<Kx rk (arrOf st) (b-1):=λj o r=>by
  let g:j<(arrOf st).size:=∅
  rw[←a0,Kx_at g];exact BC g o<|a7 (j-b) ∅
 by_cases X:(f == 0)=Lj
 .rw[Lq X];let X:f=0:= ~~~X
  calc wpS_pure<|h _ ⟨n.perm,n.kind,n.failed⟩ hP (λ_ _=>rfl) λi j o r h3=>?_;show Kx rk (arrOf st) i<=Kx rk (arrOf st) j;rcases AB j b with g|g
  .exact N i j o r ∅
  .rcases AB i b with z | z
   .exact Int.le_trans (ka i o ∅)<|up j ∅ ∅
   .exact M i j z r ∅
 rw[Lp X];let X:f≠0:= ~~~X
 let hX:(arrOf st).extract (c+k) b=(arrOf st).extract (c+k) b:=rfl;let zx:((arrOf st).extract (c+k) b).size=l-k:=by rw[Et];lia
 let zy:((arrOf st).extract b<|b+f).size=f:=by rw[Et];lia
 let sX:Sd rk ((arrOf st).extract (c+k) b).toList:=xW N ∅ ∅ ∅;let sY:Sd rk ((arrOf st).extract b<|b+f).toList:=xW M ∅ ∅ ∅;let mX:∀x∈(arrOf st).extract (c+k) b,∃t,c+k<=t/\t<b/\rk x=Kx rk (arrOf st) t:=λx q=>by
  let(t,D,F,_,B):=xV (rk:=rk)<|Eg.mpr q;exact⟨t,D,F,B⟩
 let mY:∀x∈(arrOf st).extract b (b+f),∃t,b<=t/\t<b+f/\rk x=Kx rk (arrOf st) t:=λx q=>by
  let(t,D,F,_,B):=xV (rk:=rk)<|Eg.mpr q;exact⟨t,D,F,B⟩
 let kX:∀x∈(arrOf st).extract (c+k) b,x∈a₀:=λx q=>n.mem x (by
  let:x∈((arrOf st).extract (c+k) b).toList:=Eg.mpr q;rw[gH]at this;simpa using ri (tH this))
 let kY:∀x∈(arrOf st).extract b (b+f),x∈a₀:=λx q=>n.mem x (by
  let:x∈((arrOf st).extract b<|b+f).toList:=Eg.mpr q;rw[gH]at this;simpa using ri (tH this))
 let y0:rk ((arrOf st).extract b<|b+f)[0]=Kx rk (arrOf st) b:=by
  rw[Kx_at ∅];simp
 let xl:rk ((arrOf st).extract (c+k) b)[((arrOf st).extract (c+k) b).size-1]=Kx rk (arrOf st) (b-1):=by
  rw[Kx_at ∅,Array.getElem_extract]
  congr 2
  lia
 let a3:∀y∈(arrOf st).extract (c+k) b,rk ((arrOf st).extract b<|b+f)[0]<rk y:=λy hy=>by
  let(t,D,F,B):=mX y hy;rw[y0,B];exact Ew t D ∅
 let a4:∀x∈(arrOf st).extract b (b+f),rk x<rk ((arrOf st).extract (c+k) b)[((arrOf st).extract (c+k) b).size-1]:=λx q=>by
  let(t,D,F,B):=mY x q;rw[xl,B];exact a5 t D F
 let lX:((arrOf st).extract (c+k) b).toList=((arrOf st).toList.take b).drop (c+k):=gH;let lY:((arrOf st).extract b<|b+f).toList=((arrOf st).toList.take<|b+f).drop b:=gH
 let b3:∀(m:Array Keyed)(d:SortSt),dg (SortSt.mk' (kindOf st) (arrOf st) P (gallopOf st)<|failedOf st) d->MR rk ((arrOf st).extract (c+k) b).toList ((arrOf st).extract b<|b+f).toList m.toList ->
   Q Lj (SortSt.mk' (kindOf d) (m.toList.zipIdx.foldl (λ(a:Array Keyed)(x:Keyed×Nat)=>match x with|(p,j)=>a.setIfInBounds (c+k+j) p) (arrOf d)) (pendingOf d) (gallopOf d) (failedOf d)):=by
  intro m d u I;let(q1,q2,q3,q4):=u;let c4:⇑m.toList=(b-(c+k))+f:=by
   rw[I.1.length_eq,dy];let a1:((arrOf st).extract (c+k) b).toList.length=l-k:=Dn.trans zx;let a2:((arrOf st).extract b<|b+f).toList.length=f:=Dn.trans zy;lia
  rw[q1];let K:=rS (c+k) m.toList 0 (arrOf st) ∅;rw[Nat.add_zero,show c+k+⇑m.toList=b+f by lia]at K;generalize (m.toList.zipIdx.foldl (λ(a:Array Keyed)(x:Keyed×Nat)=>match x with|(p,j)=>a.setIfInBounds (c+k+j) p) (arrOf st))=R at K⊢;let hl:(arrOf st).toList.length=(arrOf st).size:=by simp
  let BI:(arrOf st).toList=(arrOf st).toList.take (c+k)++(((arrOf st).toList.take b).drop (c+k)++((arrOf st).toList.take<|b+f).drop b)++(arrOf st).toList.drop (b+f):=by
   rw[←jD,←qp (show c+k<=b by lia),←qp (show b<=b+f by lia),lg]
  let kA:R.toList.Perm (arrOf st).toList:=by
   rw[K]
   conv=>rhs;rw[BI]
   calc List.Perm.append_right _<|List.Perm.append_left _ ?_;rw[←lX,←lY];exact I.1
  let c7:R.size=(arrOf st).size:=by
   let:=kA.length_eq;simpa using this
  let BJ:∀j,j<c+k->Kx rk R j=Kx rk (arrOf st) j:=λj g=>by
   calc fj ?_;rw[←Em,←Em,K,jD,ji (by rw[iT];lia),List.getElem?_take,Lq g]
  let Z:∀j,b+f<=j->Kx rk R j=Kx rk (arrOf st) j:=λj g=>by
   calc fj ?_;let a8:⇑((arrOf st).toList.take (c+k)++m.toList)=b+f:=by rw[dy,iT];lia
   rw[←Em,←Em,K,kq ∅,a8,List.getElem?_drop]
   congr 1
   lia
  let O:∀j,c+k<=j->j<b+f->∃g:j-(c+k)<⇑m.toList,Kx rk R j=rk (m.toList[j-(c+k)]):=λj o r=>by
   let g:j-(c+k)<⇑m.toList:=∅
   calc⟨g,?_⟩;let e:R.toList[j]?=Lh (m.toList[j-(c+k)]):=by
    rw[K,jD,kq (by rw[iT];lia),iT,show min (c+k) (arrOf st).toList.length=c+k by lia,ji g,HF g]
   rw[Em]at e;unfold Kx;rw[e]
  let C4:∀x∈m.toList,∃t,c+k<=t/\t<b+f/\rk x=Kx rk (arrOf st) t:=λx q=>by
   rcases hZ.mp (I.1.mem_iff.mp q)with q|q
   .let(t,D,F,B):=mX x<|Eg.mp q;exact⟨t,D,∅,B⟩
   .let(t,D,F,B):=mY x<|Eg.mp q;exact⟨t,∅,F,B⟩
  refine h _ ⟨(Array.perm_iff_toList_perm.mpr kA).trans n.perm,q3.trans n.kind,q4.trans n.failed⟩ (by show(pendingOf d).toList=_;rw[q2];exact hP) (λj g=>?_) λi j o r h3=>?_
  .rcases g with g|g
   .exact BJ j ∅
   .exact Z j ∅
  .show Kx rk R i<=Kx rk R j;rcases AB i (c+k)with G|G
   .rw[BJ i G];rcases AB j (c+k)with T|T
    .rw[BJ j T];exact N i j o r ∅
    rcases AB j (b+f)with v|v
    .let(g,e):=O j T v;let(t,D,F,B):=C4 _<|List.getElem_mem g;rw[e,B];rcases AB t b with ht|ht
     .exact N i t o ∅ ∅
     .exact Int.le_trans (S i o G)<|kb t ht ∅
    .rw[Z j v];exact Int.le_trans (S i o G)<|kb j ∅ ∅
   rcases AB i (b+f)with V|V
   .let(z,e):=O i G V;rw[e];rcases AB j (b+f)with v|v
    .let(b1,e'):=O j ∅ v;rw[e'];rcases Nat.lt_or_eq_of_le r with c5|rfl
     .exact tF.mp I.2 _ _ z b1 ∅
     .exact Int.le_refl _
    .rw[Z j v];let(t,D,F,B):=C4 _<|List.getElem_mem z;rw[B];rcases AB t b with ht|ht
     .exact Int.le_trans (ka t ∅ ∅)<|up j v ∅
     .exact M t j ht ∅ ∅
   .rw[Z i V,Z j ∅];exact M i j ∅ r ∅
 let L:∀(m:Array Keyed)(d:SortSt),dg (SortSt.mk' (kindOf st) (arrOf st) P (gallopOf st)<|failedOf st) d->MR rk ((arrOf st).extract (c+k) b).toList ((arrOf st).extract b<|b+f).toList m.toList ->
   wpS (model prog w) A E s (do
    modify λs=>SortSt.mk' (kindOf s) (m.toList.zipIdx.foldl (λ(a:Array Keyed)(x:Keyed×Nat)=>match x with|(p,j)=>a.setIfInBounds (c+k+j) p) (arrOf s)) (pendingOf s) (gallopOf s) (failedOf s)
    let s ←get
    pure (failedOf s).isNone) Q d:=λm d u I=>by
  calc wpS_bind<|wpS_modify<|wpS_bind<|wpS_get<|wpS_pure ?_;let K:(failedOf d).isNone=true:=by rw[show failedOf d=failedOf st from u.failed,n.failed];rfl
  show Q (failedOf d).isNone _;rw[K];exact b3 m d u I
 by_cases c3:l-k<=f
 .rw[Lq c3];exact wpS_bind<|rQ hA n.kind kX kY sX sY (show 0<((arrOf st).extract (c+k) b).size by lia) (show 0<((arrOf st).extract b<|b+f).size by lia) (λy hy=>Int.le_of_lt<|a3 y hy) a4 λm d u I=>L m d u I
 .rw[Lp c3];calc wpS_bind<|rR hA n.kind kX kY sX sY (show 0<((arrOf st).extract (c+k) b).size by lia) (show 0<((arrOf st).extract b<|b+f).size by lia) a3 (λx q=>Int.le_of_lt<|a4 x q) λm d u I=>L m d u I
end
end PyProof.Rows._T
namespace PyProof.Rows._T
open PySem PyProof.Rows
section
variable{prog:HQ}{w:HP}{A:Ia}{E:HN->Ib->Prop}{s:Ib}{κ:SortKind}{rk:Keyed->Int}{a₀:Array Keyed}
def Chn:Nat->Ly (Nat×Nat×Nat)->Nat->Prop
 |a,[],b=>a=b
 |a,r :: l,b=>r.1=a/\1<=r.2.1/\Chn (a+r.2.1) l b
theorem Chn.split:∀{l:Ly (Nat×Nat×Nat)}{d:Ly (Nat×Nat×Nat)}{a c:Nat},Chn a (l++d) c->∃b,Chn a l b/\Chn b d c
 | [],_,a,_,h=>⟨a,rfl,h⟩
 |r :: l,_,a,_,⟨h1,h2,h3⟩=>let ⟨b,h4,h5⟩:=Chn.split (l:=l) h3;⟨b,⟨h1,h2,h4⟩,h5⟩
theorem Chn.join:∀{l:Ly (Nat×Nat×Nat)}{d:Ly (Nat×Nat×Nat)}{a b c:Nat},Chn a l b->Chn b d c->Chn a (l++d) c
 | [],_,a,b,_,h,h'=>by have h:a=b:=h;subst h;exact h'
 |r :: l,_,a,_,_,⟨h1,h2,h3⟩,h'=>⟨h1,h2,Chn.join h3 h'⟩
theorem Chn.le:∀{l:Ly (Nat×Nat×Nat)}{a b:Nat},Chn a l b->a+⇑l<=b
 | [],a,b,h=>by have h:a=b:=h;subst h;exact xX _
 |r :: l,a,b,⟨h1,h2,h3⟩=>by have:=Chn.le h3;rw[ik];lia
theorem Chn.mem:∀{l:Ly (Nat×Nat×Nat)}{a b:Nat}{r:Nat×Nat×Nat},Chn a l b->r∈l->a<=r.1/\r.1+r.2.1<=b
 |x :: l,a,b,r,⟨h1,h2,h3⟩,h=>by
  rcases bW.mp h with rfl|h
  .let:=Chn.le h3;lia
  .let:=Chn.mem h3 h;lia
theorem Chn.same:∀{l c:Ly (Nat×Nat×Nat)}{a b:Nat},l.map (λr=>(r.1,r.2.1))=c.map (λr=>(r.1,r.2.1))->Chn a l b->Chn a c b
 | [],[],_,_,_,h=>h
 | [],_ :: _,_,_,e,_=>by simp at e
 |_ :: _,[],_,_,e,_=>by simp at e
 |r :: l,r' :: c,a,b,e,⟨h1,h2,h3⟩=>by
  rw[jU,jU]at e;injection e with i g;injection i with f d;calc⟨f ▸ h1,d ▸ h2,?_⟩;rw[←d];calc Chn.same g h3
structure RS(rk:Keyed->Int)(κ:SortKind)(a₀:Array Keyed)(st:SortSt)(lo:Nat):Prop where
 sb:SB κ a₀ st
 ch:Chn 0 (pendingOf st).toList lo
 srt:∀r∈(pendingOf st).toList,SrtOn rk (arrOf st) r.1 r.2.1
theorem RS.ahd{st a:SortSt}{lo:Nat}(h:RS rk κ a₀ st lo)(b:Ahd rk lo st a)(d:SB κ a₀ a):RS rk κ a₀ a lo:=by
 refine⟨d,by rw[b.2];exact h.ch,λr c i j g f e=>?_⟩;rw[b.2]at c;let:=(h.ch.mem c).2;rw[b.1 i ∅,b.1 j ∅];calc h.srt r c i j g f e
theorem BK{l:Ly (Nat×Nat×Nat)}{i:Nat}(h:i+2<=⇑l):∃x y,l=l.take i++x :: y :: l.drop (i+2):=by
 calc⟨l[i],l[i+1],?_⟩;rw[←rG,←rG,lg]
theorem mh{st:SortSt}{i lo:Nat}{Q:Bool->SortSt->Prop}(J:Ask prog w A E s κ (· ∈ a₀) rk)(m:RS rk κ a₀ st lo)(N:lo<=a₀.size)(hi:i+2<=(pendingOf st).size)
  (h:∀a,RS rk κ a₀ a lo->(pendingOf a).size+1=(pendingOf st).size->(∀j,lo<=j->Kx rk (arrOf a) j=Kx rk (arrOf st) j)->Q Lj a):wpS (model prog w) A E s (mergeAt' i) Q st:=by
 let P:(pendingOf st).toList.length=(pendingOf st).size:=Dn;let((o,k,H),(sb,g,G),e):=BK (l:=(pendingOf st).toList) (i:=i) ∅;let y:i=⇑((pendingOf st).toList.take i):=by rw[iT];lia
 generalize (pendingOf st).toList.take i=pre at e y;generalize (pendingOf st).toList.drop (i+2)=post at e;let ch:=m.ch;rw[e]at ch;let(b,D,u,t,C,q,n):=ch.split;let u:o=b:=u;let C:sb=b+k:=C;let t:1<=k:=t;let q:1<=g:=q;let n:Chn (b+k+g) post lo:=n;let O:=n.le;refine rT J m.sb e y ∅ t q ∅ (m.srt (o,k,H) (by rw[e];simp)) (m.srt (sb,g,G) (by rw[e];simp)) λa x f p I=>h a ⟨x,?_,λr c=>?_⟩ ?_ λj R=>p j<|.inr ∅
 .rw[f];exact D.join ⟨u,by show 1<=k+g;lia,by show Chn (b+(k+g)) post lo;rw[←Nat.add_assoc];exact n⟩
 .rw[f]at c;let F:∀d:Nat×Nat×Nat,d∈(pendingOf st).toList->(d.1+d.2.1<=o\/sb+g<=d.1)->SrtOn rk (arrOf a) d.1 d.2.1:=λd v S i j M L K=>by
   rw[p i ∅,p j ∅];exact m.srt d v i j M L K
  rcases hZ.mp c with c|c
  .exact F r (by rw[e];exact nL _ c) (.inl (by have:=(D.mem c).2;lia))
  .rcases bW.mp c with rfl|c
   .exact I
   .exact F r (by rw[e];simp[c]) (.inr (by have:=(n.mem c).1;lia))
 .let B:=Lw List.length f;let z:=Lw List.length e;rw[Dn]at B z;simp only[dy,ik]at B z;lia
theorem nA{l:Ly (Nat×Nat×Nat)}{i pw:Nat}:(l.modify i λx=>(x.1,x.2.1,pw)).map (λr=>(r.1,r.2.1))=l.map (λr=>(r.1,r.2.1)):=by
 refine tX λj=>?_
 rw[jj,jj,List.getElem?_modify];cases l[j]? with
 |none=>rfl
 |some x =>
  by_cases h:i=j
  .simp[h]
  .simp[h]
theorem mem_modify{l:Ly (Nat×Nat×Nat)}{i pw:Nat}{r:Nat×Nat×Nat}(h:r∈l.modify i λx=>(x.1,x.2.1,pw)):∃a∈l,a.1=r.1/\a.2.1=r.2.1:=by
 let b:(r.1,r.2.1)∈(l.modify i λx=>(x.1,x.2.1,pw)).map (λr=>(r.1,r.2.1)):=iv.mpr ⟨r,h,rfl⟩;rw[nA]at b;let(a,c,e):=iv.mp b;injection e with f d;calc⟨a,c,f,d⟩
theorem RS.power{st:SortSt}{lo i pw:Nat}(h:RS rk κ a₀ st lo):RS rk κ a₀ (setPending st<|(pendingOf st).modify i λx=>(x.1,x.2.1,pw)) lo:=by
 let e:(pendingOf<|setPending st<|(pendingOf st).modify i λx=>(x.1,x.2.1,pw)).toList=(pendingOf st).toList.modify i λx=>(x.1,x.2.1,pw):=Array.toList_modify
 refine⟨⟨h.sb.perm,h.sb.kind,h.sb.failed⟩,?_,λr a=>?_⟩
 .rw[e];exact Chn.same nA.symm h.ch
 .rw[e]at a;let(b,f,d,c):=mem_modify a;rw[←d,←c];calc h.srt b f
theorem RS.push{st:SortSt}{lo n:Nat}(h:RS rk κ a₀ st lo)(c:1<=n)(b:SrtOn rk (arrOf st) lo n):RS rk κ a₀ (setPending st<|(pendingOf st).push (lo,n,0)) (lo+n):=by
 let e:(pendingOf<|setPending st<|(pendingOf st).push (lo,n,0)).toList=(pendingOf st).toList++[(lo,n,0)]:=Er;refine⟨⟨h.sb.perm,h.sb.kind,h.sb.failed⟩,?_,λr a=>?_⟩
 .rw[e];exact h.ch.join ⟨rfl,c,rfl⟩
 .rw[e]at a;rcases hZ.mp a with a|a
  .exact h.srt r a
  .rw[gZ.mp a];calc b
theorem wpS_sortAll{st:SortSt}{Q:Unit->SortSt->Prop}(N:Ask prog w A E s κ (· ∈ a₀) rk)(hB:SB κ a₀ st)(hp:pendingOf st = #[])(h2:2<=a₀.size)
  (h:∀a,(arrOf a).Perm a₀->failedOf a=Li->SrtOn rk (arrOf a) 0 a₀.size->Q () a):wpS (model prog w) A E s sortRuns' Q st:=by
 calc wpS_bind<|wpS_get ?_;dsimp only;rw[show(arrOf st).size=a₀.size from hB.size];generalize (sortPriv% PySem.Builtin.minRun) a₀.size a₀.size 0=mr;let V:RS rk κ a₀ st 0:=⟨hB,by rw[hp];exact rfl,λr hr=>by rw[hp]at hr;simp at hr⟩
 refine wpS_bind (wpS_mono (wpS_forRange (I:=λx c a=>∃lo,c=(Li,lo)/\RS rk κ a₀ a lo/\x<=lo/\lo<=a₀.size)
  (Q:=λc a=>c=(Li,a₀.size)/\RS rk κ a₀ a a₀.size) ?step ?fin ⟨0,rfl,V,xX _,yX _⟩) ?post)
 case fin =>
  rintro c a ⟨lo,rfl,D,R,h4⟩;let:lo=a₀.size:=∅
  subst this;exact⟨rfl,D⟩
 case step =>
  rintro x c a _ hx ⟨lo,rfl,D,R,h4⟩;dsimp only;by_cases L:lo ≥ a₀.size
  .rw[Lq L];let:lo=a₀.size:=∅
   subst this;exact wpS_pure ⟨rfl,D⟩
  rw[Lp L];calc wpS_bind<|wb N ∅ ∅ D.sb λm e M Y G F v=>?_;let d:=D.ahd Y M;dsimp only;by_cases B:m<mr
  rw[Lq B];calc wpS_bind<|wpS_lift<|Kn ⟨rfl,?_⟩;calc wpS_bind<|uv N ∅ ∅ M v λg W X u=>?_;rw[Lp ⋯];let z:1<=min (a₀.size-lo) mr:=∅
  let K:min (a₀.size-lo) mr<=a₀.size-lo:=Nat.min_le_left _ _;let p:=d.ahd X W;generalize min (a₀.size-lo) mr=n at u z K⊢;clear v d G F B
  rotate_left
  rw[Lp B];let(n,rfl):∃n,n=m:=⟨_,rfl⟩;let(g,rfl):∃g,g=e:=⟨_,rfl⟩;let u:=v;let z:=G;let K:=F;let p:=d;clear v d G F B
  all_goals
   calc wpS_bind<|wpS_get ?_;cases hb:(pendingOf g).back? with
   |none =>
    refine wpS_bind<|wpS_modify<|wpS_pure ⟨lo+n,rfl,p.push z u,∅,∅⟩
   |some b =>
    let(s1,O,p1):=b;dsimp only;generalize (sortPriv% PySem.Builtin.power) a₀.size (2*s1+O) (2*s1+O+O+n) a₀.size=pw
    refine wpS_bind (wpS_mono (wpS_forRange (I:=λ_ c a=>c=(Li,())/\RS rk κ a₀ a lo/\SrtOn rk (arrOf a) lo n)
     (Q:=λc a=>c=(Li,())/\RS rk κ a₀ a lo/\SrtOn rk (arrOf a) lo n) ?mstep (λ_ _ hh=>hh) ⟨rfl,p,u⟩) ?mpost)
    case mstep =>
     rintro y c f _ hy ⟨rfl,o,k⟩;calc wpS_bind<|wpS_get ?_;by_cases J:(pendingOf f).size>1
     .let S:(pendingOf f)[(pendingOf f).size-2]?=Lh ((pendingOf f)[(pendingOf f).size-2]'∅):=getElem?_pos _ _ ∅;rw[Lq J,S];dsimp only;split
      .exact wpS_pure ⟨rfl,o,k⟩
      .refine wpS_bind (mh N o ∅ (show(pendingOf f).size-2+2<=(pendingOf f).size by lia) λa0 T _ hk=>?_);rw[Lp ⋯];calc wpS_pure ⟨rfl,T,λi j h1 h2 R=>?_⟩;rw[hk i ∅,hk j ∅];exact k i j h1 h2 R
     .rw[Lp J];exact wpS_pure ⟨rfl,o,k⟩
    case mpost =>
     rintro c f ⟨rfl,o,k⟩;dsimp only;calc wpS_bind<|wpS_modify<|wpS_bind<|wpS_modify<|wpS_pure ?_;exact⟨lo+n,rfl,(o.power (i:=(pendingOf f).size-1) (pw:=pw)).push z k,∅,∅⟩
 case post =>
  rintro c a ⟨rfl,D⟩;dsimp only;let hl:=D.ch.le;rw[Dn]at hl
  refine wpS_bind (wpS_mono (wpS_forRange (I:=λx c a=>c=(Li,())/\RS rk κ a₀ a a₀.size/\((pendingOf a).size<=1\/(pendingOf a).size+x<=a₀.size))
   (Q:=λc a=>c=(Li,())/\RS rk κ a₀ a a₀.size/\(pendingOf a).size<=1) ?lstep ?lfin ⟨rfl,D,.inr ∅⟩) ?lpost)
  case lfin =>
   rintro c e ⟨rfl,d,P⟩;exact⟨rfl,d,∅⟩
  case lstep =>
   rintro x c e _ hx ⟨rfl,d,P⟩;calc wpS_bind<|wpS_get ?_;by_cases H:(pendingOf e).size<=1
   .rw[Lq H];exact wpS_pure ⟨rfl,d,H⟩
   rw[Lp H];refine wpS_bind<|mh N d (xX _) ?_ λg p he _=>?_
   .let Z:∀b:Bool,(if b=Lj then(pendingOf e).size-2-1 else(pendingOf e).size-2)+2<=(pendingOf e).size:=λb=>by
     split
     .lia
     .lia
    exact Z _
   .rw[Lp ⋯];exact wpS_pure ⟨rfl,p,∅⟩
  case lpost =>
   rintro c e ⟨rfl,d,P⟩;calc wpS_pure<|h _ d.sb.perm d.sb.failed ?_;let C:=d.ch;let t:=d.srt;let q:(pendingOf e).toList.length<=1:=by rw[Dn];exact P
   generalize (pendingOf e).toList=l at C t q
   match l,C,t,q with
   | [],C,_,_ =>
    let:0=a₀.size:=C;lia
   | [r],⟨e1,_,e2⟩,t,_ =>
    let:=t r<|gZ.mpr rfl;let e2:0+r.2.1=a₀.size:=e2;rw[e1,show r.2.1=a₀.size by lia]at this;exact this
   |_ :: _ :: _,_,_,q=>simp at q
end
end PyProof.Rows._T
namespace _L
open PySem PySem.Spec PySem.W PyProof.Rows
variable{prog:HQ}{w:HP}{A:Ia}{E:HN->Ib->Prop}{s:Ib}
theorem BL{a:SortKind}{S:Keyed->Prop}{rk:Keyed->Int}(h:∀(x y:Keyed)(Q:Bool->Ib->Prop)(f:HN->Ib->Prop),S x->S y->Q (Lm<|rk x<rk y) s->Ih (model prog w) A (keyLt' a x.1 y.1) Q f s):_T.Ask prog w A E s a S rk:=by
 intro x y g Q c b e d;rw[lt'_eq];calc wpS_bind<|wpS_get ?_;rw[e];calc wpS_bind<|wpS_lift<|Kz<|h x y _ _ c b ⟨U,?_⟩;calc wpS_pure d
theorem xY{a:HR}{vs:Ly HN}{n:Nat}{G:Array HN->Prop}{P:PySem.Fin->Ib->Prop}(t:s.heap.get? a=Lh (seqObj "list" vs.toArray n)) (hz:⇑vs<=HU)
  (H:2<=⇑vs->∀s':Ib,(∀b o,b≠a->s.heap.get? b=Lh o->s'.heap.get? b=Lh o)->∀F,∃r rk,(∀Q:SortKind->Ib->Prop,Q r s'->Ih (model prog w) A (keyKind' vs.toArray) Q F s')/\_T.Ask prog w A F s' r (· ∈ pairsOf vs) rk/\∀arr:Array Keyed,arr.Perm (pairsOf vs)->_T.SrtOn rk arr 0 ⇑vs->G (arr.map (·.2)))
  (O:⇑vs<2->G vs.toArray)
  (h:∀out:Array HN,out.size=⇑vs->G out->P (.done<|.ret .none) { s with heap:=sortedHeap s.heap a vs out }) :
  Ih (model prog w) A (IP.«list.sort» ⟨[.ref a],[]⟩) P E s:=by
 let D:a<↥s:=HS.lt_size t;let k:vs.toArray.size<=HU:=by rw[dV];exact hz
 rw[list_sort_plain];calc HJ<|listItems_at t U<|HJ<|listUpdate_at t U ?_ k<|yX _;let(x,m):∃x,(s.heap.update a<|Obj.mapSeq λ_=>#[]).get? a=Lh (seqObj "list" #[] x):=⟨_,get?_update_seq t<|λ_=>#[]⟩;refine HJ (seqEpoch_at m U<|HJ<|KW (HJ<|Lc (HL ?_)<|yX _) (by show ⇑vs<=_;exact hz));generalize f:({ s with heap:=((s.heap.update a<|Obj.mapSeq λ_=>#[]).push<|seqObj "tuple" vs.toArray 0).push (seqObj "list" #[] 0) }:Ib)=s6;let d:s6.heap.get? a=Lh (seqObj "list" #[] x):=by
  subst f;show(((s.heap.update a<|Obj.mapSeq λ_=>#[]).push<|seqObj "tuple" vs.toArray 0).push<|seqObj "list" #[] 0).get? a=_;rw[HS.get?_push_ne _ _ _ (by rw[size_push',HS.size_update];exact yl (zp D)),HS.get?_push_ne _ _ _ (by rw[HS.size_update];exact yl D)];exact m
 let keep:∀b o,b≠a->s.heap.get? b=Lh o->s6.heap.get? b=Lh o:=λb o J e=>by
  subst f;let p:b<↥s:=HS.lt_size e;show(((s.heap.update a<|Obj.mapSeq λ_=>#[]).push<|seqObj "tuple" vs.toArray 0).push<|seqObj "list" #[] 0).get? b=_;rw[HS.get?_push_ne _ _ _ (by rw[size_push',HS.size_update];exact yl (zp p)),HS.get?_push_ne _ _ _ (by rw[HS.size_update];exact yl p),HS.get?_update_ne _ _ _ _ J];exact e
 let q:∀out:Array HN,out.size=⇑vs->G out->P (.done<|.ret .none) { s6 with heap:=s6.heap.update a (Obj.mapSeq λ_=>out) }:=λout i I=>by
  subst f;exact h out i I
 show Ih (model prog w) A _ P E s6;dsimp only;by_cases v:⇑vs<2
 .let j:vs.toArray.size<2:=by rw[dV];exact v
  rw[Lq j,Lq j];calc HJ<|HK ?_;rw[StateT.run_pure];calc HJ<|HK ?_;dsimp only;let K:(arrOf<|SortSt.mk' general' (vs.toArray.zip vs.toArray) #[] 7 Li).map (·.2)=vs.toArray:=by
   show(vs.toArray.zip vs.toArray).map (·.2)=vs.toArray;apply Array.toList_inj.mp
   rw[Array.toList_map,Array.toList_zip];exact List.map_snd_zip<|xX _
  rw[K];calc HJ<|seqEpoch_at d U<|HJ<|listUpdate_at d U ?_ (yX _)<|Nat.le_succ_of_le k;simp only[bne_self_eq_false,EX,if_false];exact HK<|q vs.toArray dV<|O v
 .let j:¬ vs.toArray.size<2:=by rw[dV];exact v
  rw[Lp j,Lp j];let(r,rk,B,z,y):=H ∅ s6 keep E;calc HJ<|B _ ?_;let g:(pairsOf vs).size=⇑vs:=pairsOf_size vs
  refine HJ (Ip (_T.wpS_sortAll (a₀:=pairsOf vs) (st:=SortSt.mk' r (vs.toArray.zip vs.toArray) #[] 7 Li)
   (Q:=λ_ c=>(arrOf c).Perm (pairsOf vs)/\failedOf c=Li/\_T.SrtOn rk (arrOf c) 0 (pairsOf vs).size)
   z ⟨Array.Perm.refl _,U,U⟩ U (by rw[g];lia) λc N M L=>⟨N,M,L⟩) ?_ λ_ _ e=>e)
  rintro⟨⟨⟩,c⟩ s' ⟨rfl,u,C,i⟩;dsimp only at u C i⊢;rw[g]at i;let l:((arrOf c).map (·.2)).size=⇑vs:=(Array.size_map ..).trans<|u.size_eq.trans g;calc HJ<|seqEpoch_at d U<|HJ<|listUpdate_at d U ?_ (yX _)<|yW (CV l)<|Nat.le_succ_of_le hz;rw[C];simp only[bne_self_eq_false,EX,if_false];calc HK<|q _ l<|y _ u i
variable{X:Cx}
theorem rV{a:HR}{ks:Ly Int}{m:Nat}{Q:HN->Ib->Prop}(hh:A.handled=Li)(hW:dY s.heap a (!d7 w) ks m)(hm:m<=1000)
  (h:∀(J:Ly Int)(vs:Ly HN)(s':Ib)(D:HR)(c:Nat),Vals (J.map V.int) vs->J.Pairwise (· < ·)->(∀k,k∈J↔k∈ks)->↥s<=D->(∀b u,s.heap.get? b=Lh u->s'.heap.get? b=Lh u)->s'.heap.get? D=Lh (seqObj "list" vs.toArray c)->s'.gens=s.gens->s'.os=s.os->J.length=m->Q (.ref D) s') :
  Ih (model prog w) A (call (.builtin "sorted") [.ref a]) Q E s:=by
 let(o,es,ep,t,ho,a8,hd,S,L,hf,ha,K,hn):=hW;calc Calls.call_function_entry kind_sorted plain_sorted entry_sorted (args_sorted1 _) ?_;unfold IP.«sorted»;calc HJ (m:=checkCount "sorted" 1 1 _)<|HK ?_;refine HJ (rL (by simp[hh]) ho a8 hd L hf ha K λd f N kp hg Z X=>?_);let I:⇑d=m:=by rw[N.length_eq,bc,Dn,hn]
 let l:∀v∈d,∃u,v=.int (fG v) u:=λv O=>by
  let(e,he,rfl):=iv.mp<|N.mem_iff.mp O;exact(S.ent e he).2
 let R:=qo l;let pk:(d.map fG).Perm (es.toList.map λe=>fG e.2):=by
  let:=N.map fG;rw[List.map_map]at this;exact this
 refine HJ (Lc ?_ (by rw[IY];lia));let r:(f.heap.push<|seqObj "list" d.toArray 0).get? ↥f=Lh (seqObj "list" d.toArray 0):=HS.get?_push_size _ U;let keep:∀b u,s.heap.get? b=Lh u->(f.heap.push<|seqObj "list" d.toArray 0).get? b=Lh u:=λb u q=>HS.get?_push_of_some _<|kp b u q
 show Ih _ _ _ _ _ { f with heap:=f.heap.push (seqObj "list" d.toArray 0) };refine HJ<|HL<|KC slot_list_sort ⟨_,r,U⟩ entry_list_sort ?body<|args_list_sort _
 case body =>
  refine xY (s:={ f with heap:=f.heap.push (seqObj "list" d.toArray 0) }) (G:=λout=>out.toList.Perm d/\(out.toList.map fG).Pairwise (· <= ·)) r (by rw[IY];lia) (λn s' _ E'=>?_) (λn=>?_) λout G6 a0=>⟨_,U,HK ⟨_,U,?_⟩⟩
  .refine⟨oneType',λx=>fG x.1,λQ hQ=>?_,BL λx y Q b0 hx hy P=>?_,λg hp hs=>?_⟩
   .match d,n,R with
    | [],n,_=>exact Lr n (by simp)
    | [_],n,_=>exact Lr n (by simp)
    |v1 :: v2 :: rest,_,R=>rw[keyKind_ints R];exact HK hQ
   .let W:x.1∈d:=(mem_zip_self (by rw[←pairsOf_toList];exact Eg.mpr hx)).2;let T:y.1∈d:=(mem_zip_self (by rw[←pairsOf_toList];exact Eg.mpr hy)).2;let(u1,C):=l _ W;let(u2,F):=l _ T;generalize fG x.1=kx at C P;generalize fG y.1=ky at F P;rw[C,F];exact kat_lt_int P
   .let K:g.toList.Perm (d.zip d):=by rw[←pairsOf_toList];exact Array.perm_iff_toList_perm.mp hp
    let fk:∀p∈g.toList,p.1=p.2/\p.1∈d:=λp Y=>mem_zip_self<|K.mem_iff.mp Y
    let F:(g.map (·.2)).toList=g.toList.map (·.2):=Array.toList_map;let a9:g.size=⇑d:=by rw[hp.size_eq,pairsOf_size]
    refine⟨?_,?_⟩
    .rw[F];let:=K.map (·.2)
     rwa [List.map_snd_zip (xX _)]at this
    .rw[F,List.map_map,tF];intro i j hi hj a6;let a7:i<g.size:= ~~~hi
     have a5:j<g.size:= ~~~hj
     have z:=hs i j (yX _) (zz a6) ∅;rw[_T.Kx_at a7,_T.Kx_at a5]at z;let mi:=fk g[i] (by simp);let mj:=fk g[j] (by simp);rw[mi.1,mj.1]at z;simpa using z
  .refine⟨List.Perm.refl _,?_⟩
   match d,n with
   | [],_=>exact List.Pairwise.nil
   | [_],_=>exact List.pairwise_singleton _ _
   |_ :: _ :: _,n=>exact Lr n (by simp)
  let(g1,a3):=a0;let a1:IntsAre out.toList (out.toList.map fG):=qo λv O=>l v<|g1.mem_iff.mp O
  let M:(out.toList.map fG).Perm (d.map fG):=g1.map fG;generalize out.toList.map fG=ns' at a1 M a3;let nd:ns'.Nodup:=M.nodup_iff.mpr<|pk.nodup_iff.mpr S.nd;let H:↥f<(f.heap.push<|seqObj "list" d.toArray 0).objs.size:=HS.lt_size r;let(C,a4):∃C,((f.heap.push<|seqObj "list" d.toArray 0).update ↥f<|Obj.mapSeq λ_=>#[]).get? ↥f=Lh (seqObj "list" #[] C):=⟨_,get?_update_seq r<|λ_=>#[]⟩;let h3:∀b,b<(f.heap.push<|seqObj "list" d.toArray 0).objs.size->((((f.heap.push<|seqObj "list" d.toArray 0).update ↥f<|Obj.mapSeq λ_=>#[]).push<|seqObj "tuple" d.toArray 0).push<|seqObj "list" #[] 0).get? b=((f.heap.push<|seqObj "list" d.toArray 0).update ↥f<|Obj.mapSeq λ_=>#[]).get? b:=λb L=>by
   rw[HS.get?_push_ne _ _ _ (by rw[size_push',HS.size_update];exact yl (zp L)),HS.get?_push_ne _ _ _ (by rw[HS.size_update];exact yl L)]
  let e6:((((f.heap.push<|seqObj "list" d.toArray 0).update ↥f<|Obj.mapSeq λ_=>#[]).push<|seqObj "tuple" d.toArray 0).push<|seqObj "list" #[] 0).get? ↥f=Lh (seqObj "list" #[] C):=by rw[h3 _ H];exact a4
  let sz:↥s<=↥f:=zz X;refine h ns' out.toList { f with heap:=sortedHeap (f.heap.push<|seqObj "list" d.toArray 0) ↥f d out } ↥f _ (pT a1) (iC a3 nd) (λk=>(M.mem_iff).trans<|(pk.mem_iff).trans (S.mem k).symm) sz (λb u q=>?_) (get?_update_seq e6<|λ_=>out) hg Z ?_
  .let B:b<↥f:=HS.lt_size<|kp b u q;show(HS.update _ _ _).get? b=Lh u;rw[HS.get?_update_ne _ _ _ _ (yl B),h3 _<|Nat.lt_trans B H,HS.get?_update_ne _ _ _ _ (yl B)];exact keep b u q
  .rw[M.length_eq,bc,I]
theorem c9{w:HP}(p:X.w=w)(C:X.calm=Lj):cF X (.builtin "sorted") (λus H Q=>∃(a:HR)(zs L:Ly Int),us=[.ref a]/\H a=Lh (nj w a zs)/\L.length<=1000/\(∀k∈zs,k∈L) /\
  ∀(D:HR)(d:Ly Int),H D=Li->d.Pairwise (· < ·)->(∀k,k∈d↔k∈zs)->Q (.ref D) (upd H D<|.lst<|d.map V.int)):=by
 subst p;intro l s P H us R Q I r h;let(a,zs,L,rfl,e,T,v,q):=h;let(u,rfl,n):=r.one;obtain rfl:u=HN.ref a:=n;let((m,x),_,_):=I.hok a _ e;let A:m<=1000:=by
  let(o,W,Y,t,_,_,_,i,_,_,_,_,y):=id x;let:=bf (L:=L) i.nd λk B=>v k<|(i.mem k).mpr B
  rw[bc,Dn,y]at this;lia
 refine rV (I.ok.hd C) x A λd us S D c O N M j K J G F Z=>?_
 let E:H D=none:=I.hok.fresh j;refine⟨.ref D,upd H D<|.lst<|d.map V.int,I.grow K G F (λb g=>by rw[ay (yl<|zb g j)]) (λb u g f=>?_),U,q D d E N M⟩;by_cases z:b=D
 .subst z;rw[ae]at f;cases f;exact⟨by rw[bc,IY];lia,us,c,O,J⟩
 .rw[ay z,I.hok.fresh g]at f;cases f
def Ite(K:W.Frag)(a:HR):It :=
 ⟨λi H=>∃b x,SqL K H a b/\b[i]?=Lh x,
 λi H v c=>∃T,H T=Li/\v=.ref T/\∀b x,SqL K H a b->b[i]?=Lh x->c=upd H T (.tup [.int i,x]),
 λi H=>∃b,SqL K H a b/\⇑b<=i⟩
def xZ(e it a:HR)(i:Nat)(h:HS):Prop:=(∃b,IsEnum h e it i b)/\h.IsListIter it a i
theorem wc{P:HQ}{w:HP}{K:W.Frag}{p:Ly Ij} {x1} {tp:Pos}{e it a:HR}(m:e≠it) :
  Turn P w K (.Tuple p x1 tp) (Ite K a) [e,it] e (xZ e it a) where
 mem:=by simp
 obj:=λi h d c b=>by
  let((f,l),(o2,j,_,d2)):=d;simp only[bW,jC,or_false]at b;rcases b with rfl|rfl
  .exact⟨_,l,λv q=>nomatch q⟩
  .exact⟨_,j,λv q=>by rw[d2]at q;cases q⟩
 keep:=λi h h' d k=>by
  let((f,l),j):=d;exact⟨⟨f,k e (by simp) _ l⟩,j.at λo q=>k it (by simp) o q⟩
 item:=by
  intro X D B F b i n s R H E I t d C;subst D B F;let(S,x,r,O):=C;let((f,l),j):=d;let(V,z,A,_):=I.list r;let(u,eu,Y):=z.get O;refine wpAny_pyNext_enum_item l j A.isList (x:=u) (~~~eu) m λh1 a1 a2 a3 a4 a5=>?_
  calc⟨_,U,wpAny_letOwnedTupleGo_enum (s:={ s with heap:=h1,toks:=s.toks+1 }) a1 λG b1 b2=>?_⟩;let nT:s.heap.get? ↥s=none:=by
   cases q:s.heap.get? ↥s with
   |none=>rfl
   |some o=>exact Lr (HS.lt_size q) (AJ _)
  let N:H ↥s=none:=I.hok.fresh<|xX _;let M:↥s≠e:=zl<|HS.lt_size l;let kk:∀c o,c ∉ [e,it]->s.heap.get? c=Lh o->G.get? c=Lh o:=λc o b q=>by
   simp only[bW,jC,or_false,not_or]at b;exact b2.extBut _ _ b.1<|a5 c o b.1 b.2 q
  let J:=I.turnedPair (h':=G) (ch:=[e,it]) (T:=↥s) (x:=.int i) (y:=x) (u:=.int i s.toks) (v:=u) (λc b=>t c (by simp at b⊢;rcases b with q|q <;> simp[q])) kk nT N (b2.extBut _ _ M a3) ⟨_,U⟩ Y;refine⟨.ref ↥s,upd H ↥s<|.tup [.int i,x],J.tok _,U,⟨_,N,U,λa0 x' Z Q=>?_⟩,⟨⟨_,b1⟩,a2.extBut b2.extBut m.symm⟩,λc b=>?_⟩
  .rw[I.list_inj Z r,O]at Q;cases Q;rfl
  .let h0:=(t c b).1;let:c≠↥s:=by
    let(o2,L,_):=j;simp only[bW,jC,or_false]at b;rcases b with rfl|rfl
    .exact M.symm
    .exact yl<|HS.lt_size L
   rw[ay this];exact h0
 done:=by
  intro X D B F b i n s R H E I t d C;subst D B F;let(S,r,hl):=C;let((f,l),j):=d;let(V,z,A,_):=I.list r;let l1:=⇑z;refine wpAny_pyNext_enum_end (I.ok.hd b) l j A.isList (by simp;lia) λG k=>⟨U,I.turnedL (ch:=[e,it]) (λc b=>t c (by simp at b⊢;rcases b with q|q <;> simp[q])) λc o b q=>?_⟩
  simp only[bW,jC,or_false,not_or]at b;exact k c o b.2 q
 self:=λ_ _ _ _ _ d h=>let ⟨⟨_,g⟩,_⟩:=d;Ld g h
inductive ya(K:W.Frag)(R:It->Hp->Prop)(vs:Ly V)(H1:Hp):Prop
 |mk (a:_)(_:vs=[.ref a])(_:(∃xs,SqL K H1 a xs))(_:R (Ite K a) H1)
def C5(K:W.Frag)(c:TA):TI:=λa H R=>c a H λb d=>ya K R b d
theorem zG{g:Ij}{k:TA}{p pos:Pos}{f:Ly Ij} {x1} {tp:Pos}(A:Gl X "enumerate") (hm:X.mg "enumerate" = Li) (B:PA X [g] k)
  (z:Im [g] X.env=[(Ll,eval g X.env)]:=by rfl) :
  PI X (.Tuple f x1 tp) (.Call (.Name "enumerate" p) [g] [] pos) (C5 X.K k):=by
 intro e s m H R I h;refine Call_ (fU I A hm PyProof.Rows.boot_enumerate<|PyProof.Rows.callWith_type1 (thn (B pos e s m H _ I h) λr b ⟨G,D,i,v,x⟩=>?_) (by rw[z];rfl) U);let(a,rfl,(F,w),q):=x;let(u,rfl,t):=v.one;cases (show u=HN.ref a from t);let(r,_,y,_):=i.list w;refine call_enumerate_list y.isList λC j o E n=>?_
 calc Ld (s:={ b with heap:=C }) j ?_;calc⟨↥b+1,[↥b+1,↥b],xZ (↥b+1) ↥b a,Ite X.K a,D,U,i.kept (t':=b.toks) n,wc<|zl<|A9 _,⟨⟨_,j⟩,o⟩,λc l=>?_,q⟩;let d:↥b<=c:=by
  simp only[bW,jC,or_false]at l;rcases l with rfl|rfl
  .exact Ar _
  .exact xX _
 calc i.fpOk d<|i.hok.fresh d
variable{gt:TG}{k:Nat}{fr:Ly Nat}{tt:TT}{te:TE}
theorem uw{K:W.Frag}{a:HR}{xs:Ly V}{j:St}{f:Hp}{Q:VK}(c:HR->Nat->Ly V->Hp->Prop)(u:∀D,f D=Li->c D 0 [] (upd f D<|.lst []))
  (s:∀D i ys H,f D=Li->i<=⇑xs->c D i ys H->SqL K H a xs)
  (r:∀D i x ys H T,f D=Li->xs[i]?=Lh x->c D i ys H->H T=Li->∀ts:St,⇑ts=k->gt (.ref T) (df j fr ts) (upd H T<|.tup [.int i,x]) λd v=>(∃g:St,⇑g=k/\d=df j fr g)/\tt d v λb o=>if b=Lj then te d o (cA c D i ⇑xs)else dj c D i ⇑xs o)
  (hd:∀D ys H,f D=Li->c D ⇑xs ys H->Q (.ref D) H):i6 (Ite K a) gt k fr tt te j Q f:=by
 intro D h;calc⟨λi m H=>m=⇑xs-i/\i<=⇑xs/\∃ys,c D i ys H,⟨_,U,yX _,[],u D h⟩,?_⟩;rintro i m H ⟨rfl,hi,ys,p⟩;let q:=s D i ys H h hi p;by_cases n:i<⇑xs
 .let l:xs[i]?=Lh xs[i]:=HF n;calc .inr ⟨⟨xs,xs[i],q,l⟩,λx w y=>?_⟩;let(T,t,rfl,e):=y;rw[e xs _ q l];exact r D i _ ys _ T h l p t
 .let e:i=⇑xs:=∅
  subst e;calc .inl ⟨⟨xs,q,xX _⟩,hd D ys H h p⟩
theorem we{K:W.Frag}{a b:HR}{xs ys:Ly V}{j:St}{f:Hp}{Q:VK}(c:HR->Nat->Ly V->Hp->Prop)(v:∀D,f D=Li->c D 0 [] (upd f D<|.lst []))
  (t:∀D i zs H,f D=Li->i<=min ⇑xs ⇑ys->c D i zs H->SqL K H a xs/\SqL K H b ys)
  (s:∀D i x y zs H T,f D=Li->xs[i]?=Lh x->ys[i]?=Lh y->c D i zs H->H T=Li->∀ts:St,⇑ts=k->gt (.ref T) (df j fr ts) (upd H T<|.tup [x,y]) λd w=>(∃g:St,⇑g=k/\d=df j fr g)/\tt d w λb r=>if b=Lj then te d r (cA c D i<|min ⇑xs ⇑ys)else dj c D i (min ⇑xs ⇑ys) r)
  (hd:∀D zs H,f D=Li->c D (min ⇑xs ⇑ys) zs H->Q (.ref D) H):i6 (Itz K a b) gt k fr tt te j Q f:=by
 intro D h;calc⟨λi m H=>m=min ⇑xs ⇑ys-i/\i<=min ⇑xs ⇑ys/\∃zs,c D i zs H,⟨_,U,yX _,[],v D h⟩,?_⟩;rintro i m H ⟨rfl,hi,zs,p⟩;let(n,l):=t D i zs H h hi p;by_cases z:i<min ⇑xs ⇑ys
 .let q:xs[i]?=Lh xs[i]:=HF ∅;let o:ys[i]?=Lh ys[i]:=HF ∅;calc .inr ⟨⟨xs,ys,xs[i],ys[i],n,l,q,o⟩,λx A y=>?_⟩;let(T,u,rfl,e):=y;rw[e xs ys _ _ n l q o];exact s D i _ _ zs _ T h q o p u
 .let e:i=min ⇑xs ⇑ys:=∅
  subst e;calc .inl ⟨⟨xs,ys,n,l,∅⟩,hd D zs H h p⟩
theorem fQ{X:Cx}{N:Ly Str}{k:Nat}{fr:Ly Nat}{scope:Ic}{cl:Ly (Str×HR)}(clos:JE scope X.env=pure cl)(kind:scope.kind=.function)(a:∀y∈scope.names,y.2≠.cell)
  (names:∀y∈scope.names,y.2=.local->scope.names.lookup y.1=Lh .local)(b:N.length=k+⇑fr)
  (sub:((List.range ⇑fr).all λi=>match N[k+i]?,fr[i]? with|some y,Lh j=>(X.N[j]? == Lh y) && ((X.env.kindOf y == Lh .cell) && ((relabel scope X.env).names.lookup y == Lh .cell))|_,_=>Ll)=Lj)
  (cells:∀p∈cl,X.env.cells.lookup p.1=Lh p.2)(d:((relabel scope X.env).names.all λp=>(p.2 != .cell && p.2 != .free) || (cl.lookup p.1).isSome)=Lj):mU X N k fr scope cl:=by
 refine⟨clos,kind,a,names,b,λi y e=>?_,λy c e=>cells _<|mem_of_lookup e,λy h=>?_⟩
 .let hi:i<⇑fr:=by have:=(HG.mp e).1;lia
  let z:=jX.mp sub i<|jV.mpr hi;rw[e,HF hi]at z;simp only[EA,beq_iff_eq]at z;exact⟨_,HF hi,z.1,.inl z.2.1,.inl z.2.2⟩
 .let look:∀k,(relabel scope X.env).names.lookup y=Lh k->(k=.cell\/k=.free)->∃c,cl.lookup y=Lh c:=λk e f=>by
   let z:=jX.mp d _<|mem_of_lookup e;rcases f with rfl|rfl
   .exact G7.mp<|~~~z
   .exact G7.mp<|~~~z
  rcases h with h|h
  .exact look _ h<|.inl U
  .exact look _ h<|.inr U
theorem wg{K:W.Frag}(g:X.K=K){a:Ij}{c:TE}(f:PE X a c)(e:∀b,Ik a X.env b=(do let v ←b;Iv a.pos;holding [v] (truthy v)):=by intro _;rfl) :
  PT X a (λd H Q=>c d H λx H'=>∃k,Bf K x H' k/\Q k H'):=g ▸ dM f e
variable{tg:Ij}{pos:Pos}{scope:Ic}{N:Ly Str}
section
variable{elt iter:Ij}{ifs:Ly Ij}{cl:Ly (Str×HR)}
theorem yb{F:TI}{i:Nat}{y:Str}{d E:Pos}(hN:X.N.Nodup)(G:X.N[i]?=Lh y)(V:Loc X.env.scope y)(hi:PI X tg iter F)(O:mU X N k fr scope cl)(hc:X.calm=Lj)(W:∀f C s H,PG (bL X N scope cl f C s H) tg gt)
  (K:∀f C s H,PIf (bL X N scope cl f C s H) ifs tt)(Z:∀f C s H,PE (bL X N scope cl f C s H) elt te)(L:∀v,IQ iter X.env v=pure v:=by intro _;rfl)
  (p:IA (.ListComp elt [⟨tg,iter,ifs,0⟩] scope pos) (Lh<|.Name y d) E.line X.env=pure true:=by rfl)(Y:X.fn y=Lj\/X.env.scope.names.lookup y=Lh .local:=by first|exact .inl U|exact .inr U|assumption) :
  PS X (.Assign [.Name y d] (.ListComp elt [⟨tg,iter,ifs,0⟩] scope pos) E) (za (xC F gt k fr tt te)<|pf i):=by
 intro b s B H l I h;rw[JP _ _ _ _ p];calc HJ<|IF<|HJ ?_;show Ih _ X.A (do let _ ←comprehension (.ListComp elt [⟨tg,iter,ifs,0⟩] scope pos) scope X.env _ (JH []) Ll (eval iter X.env) (Lh<|assign (.Name y d) X.env)) _ _ s;calc HJ<|Ip (JN (use:=Lh<|assign (.Name y d) X.env) (Q:=λ_ c=>SP X b l .next c) U L O.clos O.kind O.names<|thn (hi b s B H _ I h) λv s1 h1=>thn h1 λa0 s2 h2=>?_) (λ_ c M=>HK<|HK M) λ_ _ z=>z;let(it,f,tn,J,H2,e,g,T,n,f2,hW):=h2;subst e;refine mV (Q:=λv H1=>pf i v B H1 l.nx) (RR:=λx C=>JO (model X.prog X.w) X.A X.xe (Lh<|assign (.Name y d) X.env) (λ_ c=>SP X b l .next c) x C) O hc g T n f2 K Z W hW λD C c H' j R ⟨m,S⟩ I' q=>?_
 show Ih _ X.A (assign (.Name y d) X.env<|.ref D) _ _ c;calc IE<|lj I' hN G V (v:=.ref D) U (λs3 I3 ⟨a,r,ha⟩=>?_) Y;let u:C≠a:=by
  rcases ha with z|z
  .rw[z];exact zl<|zb g.lt j
  .let(v,o,P,_):=g.cell y a z;exact zl<|zb (HS.lt_size P) j
 calc⟨m,S.sameBut r u,λh' t=>⟨_,H',g.left I3 j R t,q⟩⟩
end
theorem yc{K:W.Frag}{a:HR}{xs:Ly V}{g:St}{d:Hp}{Q:VK}(c:HR->Nat->Ly V->Hp->Prop)(n:∀D,d D=Li->c D 0 [] (upd d D<|.lst []))
  (l:∀D i ys H,d D=Li->i<=⇑xs->c D i ys H->SqT K H a xs)
  (k:∀D i x ys H,d D=Li->xs[i]?=Lh x->c D i ys H->tt (eN g fr<|Lh x) H λb j=>if b=Lj then te (eN g fr<|Lh x) j (cA c D i ⇑xs)else dj c D i ⇑xs j)
  (hd:∀D ys H,d D=Li->c D ⇑xs ys H->Q (.ref D) H):lF (Itt K a) fr tt te g Q d:=by
 intro D f;calc⟨λi m H=>m=⇑xs-i/\i<=⇑xs/\∃ys,c D i ys H,⟨_,U,yX _,[],n D f⟩,?_⟩;rintro i m H ⟨rfl,hi,ys,p⟩;let q:=l D i ys H f hi p;by_cases h:i<⇑xs
 .refine .inr ⟨⟨xs,xs[i],q,by simp[h]⟩,λx o y=>?_⟩;let(e,y):=y;subst e;exact k D i x ys _ f (y xs q) p
 .let e:i=⇑xs:=∅
  subst e;exact .inl ⟨⟨xs,q,xX _⟩,hd D ys H f p⟩
set_option maxRecDepth 100000
theorem BN:PIp X .Mult (λx y H Q=>∃i j,x=.int i/\y=.int j/\IT i j/\Q (.int<|i*j) H):=by
 intro a s g H x y v u Q I c b h;let(i,j,f,e,d,q):=h;subst f;subst e;let(t,rfl):=c;let(k,rfl):=b;exact PyProof.Rows.imul_int ⟨.int _,H,I.tok _,⟨_,U⟩,q⟩ d
set_option maxRecDepth 100000
def yd{X:Cx}{K:W.Frag}(h:X.K=K):SlR X (Bo K):=h ▸ mD
structure Ex(X:Cx)(N:Ly Str)(k:Nat)(fr:Ly Nat)(scope:Ic)(cl:Ly (Str×HR)):Prop where
 clos:JE scope X.env=pure cl
 kind:scope.kind=.function
 names:∀y∈scope.names,y.2=.local->scope.names.lookup y.1=Lh .local
 len:N.length=k+⇑fr
 sub:∀(i:Nat)(y:Str),N[k+i]?=Lh y->∃j,fr[i]?=Lh j/\X.N[j]?=Lh y/\(X.env.kindOf y=Lh .cell\/X.env.kindOf y=Lh .free)/\((relabel scope X.env).names.lookup y=Lh .cell\/(relabel scope X.env).names.lookup y=Lh .free)/\∃c,cl.lookup y=Lh c/\∀C:HR,(Jn (C+1) scope.names cl).lookup y=Lh c
 cells:∀y c,cl.lookup y=Lh c->X.env.cells.lookup y=Lh c
 has:∀(C:HR)(y:Str),((relabel scope X.env).names.lookup y=Lh .cell\/(relabel scope X.env).names.lookup y=Lh .free)->∃c,(Jn (C+1) scope.names cl).lookup y=Lh c
section
variable{elt iter:Ij}{ifs:Ly Ij}{cl:Ly (Str×HR)}
end
def Itv(K:W.Frag)(a:HR)(n:Nat):It :=
 ⟨λi H=>i<n/\∃b,SqL K H a b/\⇑b=n,λi H x c=>c=H/\∀b,SqL K H a b->b[n-1-i]?=Lh x,λi _=>n<=i⟩
theorem ye{P:HQ}{w:HP}{K:W.Frag}{tg:Ij}(a it:HR)(n:Nat):Turn P w K tg (Itv K a n) [it] it (λi h=>i<=n/\h.IsRevIter it a ((n:Int)-1-(i:Int))) where
 mem:=by simp
 obj:=λi h f b l=>by
  let e:b=it:= ~~~l
  subst e;let(_,o,e,c,d):=f;exact⟨o,e,λv z=>by rw[d]at z;cases z⟩
 keep:=λi h r f k=>⟨f.1,f.2.at λo e=>k it (by simp) o e⟩
 item:=by
  intro X A t B R i j s L H E I q f y;subst A t B;let(hi,M,Q,hn):=y;let(a0,N,p,hz):=I.list Q;let hl:=N.length;let O:M[n-1-i]?=Lh (M[n-1-i]'∅):=HF ∅;let(u,Y,T):=N.get O;let(J,G,Z,F,D,C):=q it (by simp);let g:=f.2;rw[show(n:Int)-1-(i:Int)=((n-1-i:Nat):Int) by lia]at g;refine wpAny_pyNext_rev_item g p.isList (x:=u) (~~~Y) λr m S=>?_
  rw[show((n-1-i:Nat):Int)-1=(n:Int)-1-((i+1:Nat):Int) by lia]at m;let I1:Inv X j L H { s with heap:=r }:=I.turned (t':=s.toks) (λb o l e=>(S.2 b l).trans e) J G F D C;let(o,e,c,d):=id m;exact⟨u,U,ph (s:={ s with heap:=r }) e c d ⋯ ⟨_,H,I1,T,⟨U,λys V=>by rw[I.list_inj V Q];exact O⟩,⟨hi,m⟩,λb l=>(q b l).1⟩⟩
 done:=by
  intro X A t B R i j s L H E I q f y;subst A t B;let(J,G,Z,F,D,C):=q it (by simp);let hi:i=n:=Nat.le_antisymm f.1 y;let g:=f.2;rw[show(n:Int)-1-(i:Int) = -1 by lia]at g;exact wpAny_pyNext_rev_end (I.ok.hd R) g λr eb=>⟨U,I.turned (t':=s.toks) (λb o l e=>eb b o l e) J G F D C⟩
 self:=λ_ _ _ _ _ f h=>Le f.2 h
inductive AK(K:W.Frag)(R:It->Hp->Prop)(vs:Ly V)(H1:Hp):Prop
 |mk (a:HR)(xs:Ly V)(_:vs=[.ref a])(_:SqL K H1 a xs)(_:R (Itv K a ⇑xs) H1)
def Ey(K:W.Frag)(c:TA):TI:=λa H R=>c a H λb d=>AK K R b d
theorem BO{e:Ij}{l:TA}{p pos:Pos}(A:Gl X "reversed") (hm:X.mg "reversed" = Li) (C:PA X [e] l)(x:Im [e] X.env=[(Ll,eval e X.env)]:=by rfl):PI X tg (.Call (.Name "reversed" p) [e] [] pos) (Ey X.K l):=by
 intro f s k H R I h;calc Call_<|fU I A hm PyProof.Rows.boot_reversed<|PyProof.Rows.callWith_type1 (thn (C pos f s k H _ I h) λF c ⟨E,m,j,t,v⟩=>?_) x U;let(a,i,rfl,y,q):=v;let(u,rfl,r):=vals1 t;cases (show u=HN.ref a from r);let(d,n,w,G):=j.list y;let z:=⇑n;calc call_reversed_list w.isList ?_;let g:(c.heap.push<|revObj a<|(d.toArray.size:Int)-1).IsRevIter ↥c a ((⇑i:Int)-1):=by
  calc⟨_,HS.get?_push_size _ U,U,?_⟩;show Data.fields #[.ref a,IL ((d.toArray.size:Int)-1)]=_;rw[dV,←z]
 calc Le (s:={ c with heap:=c.heap.push (revObj a<|(d.toArray.size:Int)-1) }) g ?_;let D:Inv X f k m { c with heap:=c.heap.push (revObj a<|(d.toArray.size:Int)-1) }:=j.kept (t':=c.toks) λb o e=>HS.get?_push_of_some _ e
 refine⟨↥c,[↥c],_,_,m,U,D,ye a _ ⇑i,⟨yX _,?_⟩,λb B=>?_,q⟩
 .rw[show(⇑i:Int)-1-((0:Nat):Int)=(⇑i:Int)-1 by lia];exact g
 .let e:b=↥c:= ~~~B
  subst e;calc j.fpOk (xX _)<|j.hok.fresh<|xX _
def C6(B:HR)(K:W.Frag)(G:HR->Prop)(b:TSX)(ts:HR->HR->TS):TS:=λD a H=>b D a H λC c=>W.exmOne K (.ref C) (.ref B)=Lh Lj/\G C /\
 ∀e,ts C e D a c
section
variable{st b₀:Io}{su:Ly Io}{tb:TSX}{ts:HR->HR->TS}{Tn:Str}{B:HR}{np CQ:Pos}
theorem zH{G:HR->Prop}(hb:PSX X st tb)(Y:X.ex=[])(i:X.stack=X.env :: X.outer)(L:X.env.frame=Lh X.env.locals)(hg:Gl X Tn)(hm:X.mg Tn=↑B)
  (hs:∀(C e:HR)(t:Obj),G C->t.cls=.ref C->PSs (sfx X e t) (b₀ :: su) (ts C e))(a4:(Tn == ("__debug__" : Str))=false:=by decide) :
  PS X (.Try [st] [.ExceptHandler (Lh<|.Name Tn np) Li (b₀ :: su) CQ] [] [] pos) (C6 B X.K G tb ts):=by
 intro a s S H D I h;calc wpAny_Try_except ?_;refine Iz<|Ip (hb a s S H D _ I h) (λf p q=>?_) λev p q=>?_
 .cases f with
  |next=>exact Iy (Iy q)
  |ret v=>exact q
  |brk=>exact q
  |cont=>exact q
 let(e,T,C,a0,R,rfl,P,x,O,nT,a3,hG,q):=q;let a6:X.A.frames=Lh (X.env :: X.outer):=by rw[←i];exact P.ok.frames
 let a7:p.heap.FunFrames X.base (X.env :: X.outer):=by rw[←i];exact P.stack
 refine land a6 a7 L x λh2 T2 F x2 a5=>?_
 rw[←i]at F;let y:=P.excStep Y F O nT;let a2:ie X a R T2:=by
  rcases a5 with z|z
  .exact P.newAt Y z
  .rw[z];exact nT
 let AL:∀{b:HR}{o:Obj}{N:Array HN}{Z:HS},Z.FunFrames X.base X.stack->Z.get? b=Lh o->o.data=.fields N->b ∉ X.fs:=λ{b o N Z} ff g d z=>by
  let z':b∈frs X.stack:=by rw[i];unfold frs;rw[nF,L];exact iE _ z
  let(_,o2,g2,nf):=ff.mem z';rw[g]at g2;cases g2;exact nf N d
 let b6:=y;let(t,N,oT,b3,V,(y2,a9),y3,y4,y5,y6,y7,y8):=id x2;let S2:Inv (sfx X e t) a S R { p with heap:=h2 }:=y.suite V O (λv z=>by rw[y3]at z;cases z) (AL y.stack V y3);refine wpAny_handleBy_cons ?_ (by intro z;cases z);calc codeAny_handlers_test<|dH (X:=sfx X e t) S2 hg hm ?_ a4;refine W.exm_one (h:=h2) S2.kIn (λA' Q' E' s' k r=>by
  let z:=wpAny_typeOf_ref (M:=model X.prog X.w) (A:=A') (E:=E') (Q:=Q')<|k _ _ V;rw[y2]at z;exact z r) a3 _ _ _ _ (λb o g=>g) ?_
 rw[Lq U];calc codeAny_handlers_suite ?_;refine Bu (s:={ p with heap:=h2 }) (l:=X.stack) y.stack x2 λh3 T3 a1 x3 b5=>?_
 let I3:=y.excStep Y a1 O a2;let(J,b0,b4,b1,z1,(z2,a8),z3,z4,z5,z6,z7,z8):=id x3;let S3:Inv (sfx X e J) a S R { p with heap:=h3 }:=I3.suite z1 O (λv z=>by rw[z3]at z;cases z) (AL I3.stack z1 z3);refine Ip (hs C e J hG z2 a _ _ R _ S3<|q e) (λfl s5 c=>?_) λ_ _ z=>False.elim z
 cases fl with
 |next =>
  let(n,m,j,c):=c;exact⟨_,m,j.unsuite I.ok,c⟩
 |brk =>
  let(n,m,j,c):=c;exact⟨_,m,j.unsuite I.ok,c⟩
 |cont =>
  let(n,m,j,c):=c;exact⟨_,m,j.unsuite I.ok,c⟩
 |ret u =>
  let(v,n,m,j,r5,c):=c;calc⟨v,_,m,j.unsuite I.ok,r5,c⟩
end
def Ez(e:TT)(g f:TSX):TSX:=λD a H d=>e a H λb c=>if b=Lj then g D a c d else f D a c d
theorem yf{X:Cx}{c:Ij}{m s2:Io}{j:TT}{l k:TSX}{pos:Pos}(x:PT X.nox c j)(B:PSX X m l)(y:PSX X s2 k):PSX X (.If c [m] [s2] pos) (Ez j l k):=by
 intro a s e H D i I h;calc wpAny_If<|Ip (x a s e H _ (I.wish _) h) (λd n ⟨p,C,o⟩=>?_) λ_ _ z=>False.elim z;let b:∀{g:Io}{t:TSX},PSX X g t->t D e p i->Ih (model X.prog X.w) X.A (execs [g] X.env) (SP X a D) (XP X a e i) n:=λ{g t} u r=>by
  calc Iz<|Ip (u a n e p D i C.unwish r) (λf s2 q=>?_) λ_ _ z=>z;cases f with
  |next=>exact Iy q
  |ret v=>exact q
  |brk=>exact q
  |cont=>exact q
 cases d with
 |true=>exact b B o
 |false=>calc b y o
theorem wj{K:W.Frag}{a:HR}{xs:Ly V}{j:St}{f:Hp}{Q:VK}(c:HR->Nat->Ly V->Hp->Prop)(s:∀D,f D=Li->c D 0 [] (upd f D<|.lst []))
  (r:∀D i ys H,f D=Li->i<=⇑xs->c D i ys H->SqT K H a xs)
  (o:∀D i x ys H,f D=Li->xs[i]?=Lh x->c D i ys H->∀ts:St,⇑ts=k->gt x (df j fr ts) H λd t=>(∃g:St,⇑g=k/\d=df j fr g)/\tt d t λb n=>if b=Lj then te d n (cA c D i ⇑xs)else dj c D i ⇑xs n)
  (hd:∀D ys H,f D=Li->c D ⇑xs ys H->Q (.ref D) H):i6 (Itt K a) gt k fr tt te j Q f:=by
 intro D h;calc⟨λi m H=>m=⇑xs-i/\i<=⇑xs/\∃ys,c D i ys H,⟨_,U,yX _,[],s D h⟩,?_⟩;rintro i m H ⟨rfl,hi,ys,p⟩;let q:=r D i ys H h hi p;by_cases l:i<⇑xs
 .refine .inr ⟨⟨xs,xs[i],q,by simp[l]⟩,λx u y=>?_⟩;let(e,y):=y;subst e;exact o D i x ys _ h (y xs q) p
 .let e:i=⇑xs:=∅
  subst e;calc .inl ⟨⟨xs,q,xX _⟩,hd D ys H h p⟩
abbrev TTh:HO:=.ext λ_=>True
def rW{P:HQ}{w:HP}{H:Hp}{h:HS}{a:HR}{o:Obj}(e:h.get? a=Lh o):cK P w H h a (.frz o TTh):=⟨e,trivial,⟨o,e⟩,λ_ _ _ _=>trivial⟩
def hideL(H:Hp)(a:Ly HR):Hp:=λb=>if b∈a then Li else H b
def gk(H:Hp)(fz:Ly (HR×Obj)):Hp:=λb=>match fz.lookup b with
 |some o=>Lh<|.frz o TTh
 |none=>H b
def backL(H H':Hp)(a:Ly HR):Hp:=λb=>if b∈a then H b else H' b
def iF{H:Hp}{a:Ly HR}{b:HR}(h:b∈a):hideL H a b=none:=Lq h
def bH{H:Hp}{a:Ly HR}{b:HR}(h:b ∉ a):hideL H a b=H b:=Lp h
def nB{H H':Hp}{a:Ly HR}{b:HR}(h:b∈a):backL H H' a b=H b:=Lq h
def dc{H H':Hp}{a:Ly HR}{b:HR}(h:b ∉ a):backL H H' a b=H' b:=Lp h
theorem d9{H:Hp}{a:Ly HR}{b:HR}(h:H b=Li):hideL H a b=none:=by
 unfold hideL;split
 .rfl
 .exact h
theorem ux{H:Hp}{a:Ly HR}{b:HR}{o:HO}(h:hideL H a b=Lh o):b ∉ a/\H b=Lh o:=by
 unfold hideL at h;split at h
 .cases h
 .rename_i n
  calc⟨n,h⟩
def Fzs(H:Hp)(a:Ly HR):Prop:=∀c∈a,∃o,H c=Lh (.frz o TTh)
theorem Fzs.out{H:Hp}{a:Ly HR}(h:Fzs H a){b:HR}{u:HO}(e:H b=Lh u)(n:∀o,u≠.frz o TTh):b ∉ a:=λz=>by
 let(o,q):=h b z;rw[e]at q;calc n o<|Option.some.inj q
variable{P:HQ}{H:Hp}
section
variable{H':Hp}{h h':HS}{cs:Ly HR}
theorem HOk.hideL(x:HOk P w H h)(f:Fzs H cs):HOk P w (hideL H cs) h:=λb o e=>by
 let(n,e):=ux e;refine(x b o e).stay (λ_ _ _ q=>q) (λc q=>?_) λc a q=>?_
 .rw[bH (f.out q λ_ z=>by cases z)];exact q
 .rw[bH (f.out q λ_ z=>by cases z)];calc q
theorem HOk.backL(x:HOk P w H' h')(f:Fzs H cs)(n:∀c∈cs,H' c=Li)(k:∀c∈cs,∀o,H c=Lh (.frz o TTh)->h'.get? c=Lh o):HOk P w (backL H H' cs) h':=λb o e=>by
 by_cases a:b∈cs
 .rw[nB a]at e;let(d,q):=f b a;rw[q]at e;cases e;exact rW<|k b a d q
 .rw[dc a]at e;let out:∀{c:HR}{u:HO},H' c=Lh u->c ∉ cs:=λ{c u} q z=>by rw[n c z]at q;cases q
  refine(x b o e).stay (λ_ _ _ q=>q) (λc q=>?_) λc g q=>?_
  .rw[dc (out q)];exact q
  .rw[dc (out q)];calc q
theorem nC(s:ar (hideL H cs) H'):ar H (backL H H' cs):=λb o e=>by
 by_cases a:b∈cs
 .rw[nB a];exact e
 .rw[dc a];calc s b o (by rw[bH a];exact e)
end
section
variable{fs:Ly HR}{H':Hp}{h h':HS}{cs:Ly HR}
theorem Un.backL(u:Un fs [] (hideL H cs) H' h h')(f:Fzs H cs):Un fs [] H (backL H H' cs) h h' where
 keep:=λb o e n a c=>u.keep b o e (d9 n) a c
 slot:=λb o e n a c=>u.slot b o e (d9 n) a c
 free:=λb o e n c=>by
  let:b ∉ cs:=λz=>by let(i,q):=f b z;rw[n]at q;cases q
  rw[dc this];exact u.free b o e (d9 n) c
 there:=u.there
 tups:=λb d e=>by
  let a:=f.out e λ_ z=>by cases z
  rw[dc a];exact u.tups b d (by rw[bH a];exact e)
 frzs:=λb o v e=>by
  by_cases a:b∈cs
  .rw[nB a];exact e
  .rw[dc a];exact u.frzs b o v (by rw[bH a];exact e)
 tbls:=λb g e=>by
  let a:=f.out e λ_ z=>by cases z
  rw[dc a];calc u.tbls b g (by rw[bH a];exact e)
end
def rX(b:Obj)(qual:Str):Prop:=∃a t,b.data=.fields a/\a[1]?=Lh (.str qual t)
structure qu(N ps:Ly Str)(sc:Ic)(cl:Ly (Str×HR)):Prop where
 kind:sc.kind=.function
 co:sc.isCoroutine=Ll
 gen:sc.isGenerator=Ll
 nd:N.Nodup
 pre:N.take ⇑ps=ps
 par:∀x∈ps,sc.names.lookup x=Lh .local
 nocell:∀y∈sc.names,y.2≠.cell
 has:∀y∈sc.names,y.2=.free->∃c,cl.lookup y.1=Lh c
def cxC(CX:CXT)(P:HQ)(w:HP)(K:W.Frag)(mg:Str->Option HN)(base:HS)(N:Ly Str)(qual:Str)(scope:Ic)(f:HR)(b:HN)(cl:Ly (Str×HR))(A:Ia)(outer:Ly Env)(s:Ib)(H:Hp)(E:XK):Cx where
 prog:=P
 w:=w
 K:=K
 mg:=mg
 base:=base
 A:=A.deeper (W.envX qual scope ↥s f b cl)
 N:=N
 s₀:=s
 H₀:=hideL H (cl.map (·.2))
 env:=W.envX qual scope ↥s f b cl
 outer:=outer
 stack:=W.envX qual scope ↥s f b cl :: outer
 ex:=[]
 calm:=Lj
 fn:=λ_=>Ll
 pn:=[]
 xe:=λe c=>Ih (model P w) (A.deeper<|W.envX qual scope ↥s f b cl) (leaving (W.envX qual scope ↥s f b cl) e) (λ_ a=>CX outer H s E e a) (λd a=>CX outer H s E d a) c
def fR(H:Hp)(cl:Ly (Str×HR))(ws:Ly (Str×V)):Prop :=
 (∀c∈cl.map (·.2),∃o v,H c=Lh (.frz o TTh)/\o.data=.cell v)/\∀(x:Str)(v:V),ws.lookup x=Lh v->∃c o u,cl.lookup x=Lh c/\H c=Lh (.frz o TTh)/\o.data=.cell (Lh u)/\RelV v u
def fR.fzs{H:Hp}{cl:Ly (Str×HR)}{ws:Ly (Str×V)}(h:fR H cl ws):Fzs H (cl.map (·.2)):=λc a=>let ⟨o,_,e,_⟩:=h.1 c a;⟨o,e⟩
def fR.same{H H':Hp}{cl:Ly (Str×HR)}{ws:Ly (Str×V)}(h:fR H cl ws)(s:ar H H'):fR H' cl ws :=
 ⟨λc f=>let ⟨o,v,e,d⟩:=h.1 c f;⟨o,v,s _ _ e,d⟩,λx v e=>let ⟨c,o,u,a,b,d,r⟩:=h.2 x v e;⟨c,o,u,a,s _ _ b,d,r⟩⟩
def lL(N ps:Ly Str)(vs:Ly V)(ws:Ly (Str×V)):St:=vs.map Lh++(N.drop ⇑ps).map λx=>ws.lookup x
def nE{cl:Ly (Str×HR)}{x:Str}{c:HR}(h:cl.lookup x=Lh c):c∈cl.map (·.2):=iv.mpr ⟨(x,c),mem_of_lookup h,U⟩
theorem uy{ps:Ly Str}{us:Ly HN}{i:Nat}{y:Str}{u:HN}(d:ps.Nodup)(g:ps[i]?=Lh y)(f:us[i]?=Lh u)(h:⇑us=⇑ps):(ps.zip us).reverse.lookup y=Lh u:=by
 let c:((ps.zip us).map (·.1)).Nodup:=by rw[ua ∅];exact d
 rw[PySem.lookup_reverse_of_nodup _ c];let b:(y,u)∈ps.zip us:=by
  let:(ps.zip us)[i]?=Lh (y,u):=by rw[uO];exact⟨g,f⟩
  exact HH this
 cases e:(ps.zip us).lookup y with
 |none =>
  exact Lr b (by
   intro b;let:=List.lookup_eq_none_iff.mp e (y,u) b;simp at this)
 |some v =>
  let:=mem_of_lookup e;let(j,a):=jY this;rw[uO]at a;let:=ko d a.1 g;subst this;rw[f]at a;rw[Option.some.inj a.2]
def HFn(P:HQ)(w:HP)(K:W.Frag)(mg:Str->Option HN)(base:HS)(k:Nat)(f:HR)(sp:Sp):Prop:=∃b a,aK P w K mg base CX0 k f b a sp/\Binds K b a []
def FnO(H:Hp)(f:HR):Prop:=∃o a,H f=Lh (.frz o TTh)/\o.data=.func a
variable{i:Nat}{x:Str}{e:Ij}{es:Ly Ij}{t:TA}{p:Pos}
inductive AM(X:Cx)(k i:Nat)(t:TA)(σ:St)(H:Hp)(Q:VK):Prop
 |mk (f:HR)(sp:Sp)(_:σ[i]?=Lh ↑f)(_:FnO H f)(_:HFn X.prog X.w X.K X.mg X.base k f sp)(_:t σ H λvs H1=>FnO H1 f/\sp vs H1 Q E0)
theorem vi(K:bT k X.A)(P:X.N[i]?=Lh x)(J:Vis X.env.scope x)(O:PA X (e :: es) t)(L:(x == ("__debug__" : Str))=false:=by decide) (j:(x == ("__classdict__" : Str))=false:=by decide)
  (he:Im (e :: es) X.env=(Ll,eval e X.env) :: Im es X.env:=by rfl)(g:(Il pos<|Im es X.env).any (·.1)=false:=by rfl):PE X (.Call (.Name x p) (e :: es) [] pos) (AM X k i t):=by
 intro a s c H Q I h;let(f,sp,S,R,(m,pn,F,M),h):=h;let b:∀{H:Hp}{s:Ib}{c:St},Inv X a c H s->FnO H f->W.FnAt f s.heap:=λT ⟨o,m,e,d⟩=>by
  let:=(T.hok f _ e).1;let(G,D,dt,r):=o;simp only at d;subst d;exact⟨G,D,m,r,this⟩
 calc HM<|thn (wR P J L j a s c H (λv Y=>v=.ref f/\Y=H) I ⟨_,S,U,U⟩) λu w ⟨v,V,q,z,C⟩=>?_;let(rfl,rfl):=C;cases (show u=HN.ref f from z);calc W.callWith_F (b q R) (thn (O pos a w c V _ q h) λus s2 ⟨Z,H2,n,y,l,B⟩=>⟨b n l,?_⟩) he g;calc tU (E:=E0) (dvs:=[]) (ds:=[]) F K M .nil bU n y (by rw[jk];exact B)
variable{Ln:Ly (HR×Obj)}{σ:St}
theorem bM{H:Hp}{fz:Ly (HR×Obj)}{b:HR}(h:b ∉ fz.map (·.1)):gk H fz b=H b:=by
 unfold gk;cases e:fz.lookup b with
 |none=>rfl
 |some o=>calc Lr (iv.mpr ⟨(b,o),W.mem_of_lookupK e,U⟩) h
theorem eK{H:Hp}{fz:Ly (HR×Obj)}{b:HR}(h:b∈fz.map (·.1)):∃o,(b,o)∈fz/\gk H fz b=Lh (.frz o TTh):=by
 unfold gk;cases e:fz.lookup b with
 |none =>
  let((c,o),a,rfl):=iv.mp h;let:=List.lookup_eq_none_iff.mp e _ a;simp at this
 |some o=>calc⟨o,W.mem_of_lookupK e,U⟩
structure lM(X:Cx)(s:Ib)(fz:Ly (HR×Obj)):Prop where
 cell:∀p∈fz,∃x,X.env.cells.lookup x=Lh p.1
 nb:∀p∈fz,X.base.get? p.1=Li
 nf:∀p∈fz,p.1 ∉ X.fs
 at_:∀p∈fz,s.heap.get? p.1=Lh p.2
theorem lM.free{fz:Ly (HR×Obj)}(z:lM X s fz)(I:Inv X Ln σ H s):∀b∈fz.map (·.1),H b=none:=λb c=>by
 let(p,a,rfl):=iv.mp c;let(x,e):=z.cell p a;calc I.freeC x _ e
theorem lM.hok{fz:Ly (HR×Obj)}(z:lM X s fz)(I:Inv X Ln σ H s):HOk X.prog X.w (gk H fz) s.heap:=λb u e=>by
 by_cases a:b∈fz.map (·.1)
 .let(o,c,q):=eK (H:=H) a;rw[q]at e;cases e;exact rW<|z.at_ _ c
 .rw[bM a]at e;let out:∀{d:HR}{u:HO},H d=Lh u->gk H fz d=Lh u:=λ{d u} q=>by
   rw[bM λm=>by rw[z.free I d m]at q;cases q];exact q
  calc(I.hok b u e).stay (λ_ _ _ q=>q) (λd q=>out q) λd f q=>out q
theorem lM.env0{fz:Ly (HR×Obj)}(z:lM X s fz)(I:Inv X Ln σ H s):q9 X.prog X.w X.K X.mg X.base X.A X.stack s (gk H fz):=by
 let e:=I.env0;refine⟨e.frames,e.mod,λb o q=>⟨(e.bs b o q).1,?_⟩,e.bsz,e.funs,λb c=>?_,z.hok I,e.bare⟩
 .rw[bM λm=>?_]
  .exact(e.bs b o q).2
  .let(p,a,rfl):=iv.mp m;rw[z.nb p a]at q;cases q
 .rw[bM λm=>?_]
  .exact e.frf b c
  .let(p,a,rfl):=iv.mp m;rcases bW.mp (I.stkSub _ c)with q|q
   .let(x,d):=z.cell p a;exact I.cne x _ d q
   .exact z.nf p a q
theorem Inv.cellNew(I:Inv X Ln σ H s){x:Str}{c:HR}(e:X.env.cells.lookup x=Lh c)(d:X.fn x=Lj):X.base.get? c=Li/\c ∉ X.fs:=by
 let a:=I.ok.cab x c d e;calc⟨HS.get?_none_of_le<|yW I.ok.bsz a,λq=>?_⟩;let(_,o,b,_):=I.ok.funs.mem q;calc Lr (HS.lt_size b)<|Nat.not_lt.mpr a
theorem lM.after{fz:Ly (HR×Obj)}{Q:VK}{u:HN}{s':Ib}(z:lM X s fz)(I:Inv X Ln σ H s)(h:CE X.stack X.prog X.w (gk H fz) s (λv k=>Q v (hideL k (fz.map (·.1)))) u s'):EP X Ln σ Q u s':=by
 let(v,k,B,j,un,hok,r,q):=h;let fzs:Fzs k (fz.map (·.1)):=λc C=>by
  let(o,_,e):=eK (H:=H) C;exact⟨o,un.frzs c o _ e⟩
 let out:∀{d:HR}{u:HO},H d=Lh u->d ∉ fz.map (·.1):=λ{d u} q m=>by rw[z.free I d m]at q;cases q
 refine⟨v,hideL k (fz.map (·.1)),I.call' (ch:=[]) B ⟨λb o e n g f=>?_,λb o e n g f=>?_,λb o e n f=>?_,un.there,λb x e=>?_,λb o y e=>?_,λb A e=>?_⟩ (hok.hideL fzs) j<|λb g=>Lr g (by simp),r,q⟩
 .by_cases a:b∈fz.map (·.1)
  .let(p,t,l):=eK (H:=H) a;let:=(hok b _<|un.frzs b p _ l).1;let i:=z.at_ _ t;rw[e]at i;cases i;exact this
  .exact un.keep b o e (by rw[bM a];exact n) g f
 .by_cases a:b∈fz.map (·.1)
  .let(p,t,l):=eK (H:=H) a;let:=(hok b _<|un.frzs b p _ l).1;let i:=z.at_ _ t;rw[e]at i;cases i;exact⟨_,this⟩
  .exact un.slot b o e (by rw[bM a];exact n) g f
 .by_cases a:b∈fz.map (·.1)
  .exact iF a
  .rw[bH a];exact un.free b o e (by rw[bM a];exact n) f
 .let a:=out e;rw[bH a];exact un.tups b x (by rw[bM a];exact e)
 .let a:=out e;rw[bH a];exact un.frzs b o y (by rw[bM a];exact e)
 .let a:=out e;rw[bH a];calc un.tbls b A (by rw[bM a];exact e)
section
variable{ps:Ly Str}{sp:Sp}
def tZ(zs:Ly (Str×Nat×HR))(sp:Sp)(t:TA):TE:=λσ H Q=>t σ H λc b=>∀a:Ly Obj,⇑a=⇑zs->(∀z∈zs,b z.2.2=Li) ->
 (∀(j:Nat)(z:Str×Nat×HR),zs[j]?=Lh z->∃o w,a[j]?=Lh o/\o.data=.cell w/\∀v,σ[z.2.1]?=Lh (Lh v)->∃u,w=Lh u/\RelV v u) ->
 sp c (gk b ((zs.map (·.2.2)).zip a)) (λv d=>Q v (hideL d (zs.map (·.2.2)))) E0
theorem lN{Ln:Ly (HR×Obj)}{σ:St}{H:Hp}{s:Ib}(I:Inv X Ln σ H s):∀(zs:Ly (Str×Nat×HR)),(∀z∈zs,X.N[z.2.1]?=Lh z.1/\(X.env.scope.names.lookup z.1=Lh .cell\/X.env.scope.names.lookup z.1=Lh .free)/\X.env.cells.lookup z.1=Lh z.2.2/\(X.fn z.1=Lj\/(X.base.get? z.2.2=Li/\z.2.2 ∉ X.fs))) ->
  ∃f:Ly Obj,⇑f=⇑zs/\(∀(j:Nat)(z:Str×Nat×HR),zs[j]?=Lh z->∃o w,f[j]?=Lh o/\s.heap.get? z.2.2=Lh o/\o.data=.cell w/\∀v,σ[z.2.1]?=Lh (Lh v)->∃u,w=Lh u/\RelV v u)
 | [],_=>⟨[],U,λj z e=>by simp at e⟩
 |z :: zs,h=>by
  let(f,y,x):=lN I zs λq a=>h q<|iE _ a
  let(A,b,n,E):=h z fH;let(w,o,e,d):=I.cell _ _ n;refine⟨o :: f,by rw[ik,ik,y],λj q a=>?_⟩
  match j,a with
  |0,a =>
   cases a;calc⟨o,w,U,e,d,λv t=>?_⟩;let(m,D,B):=I.loc;let(u,r,l):=B _ _ v A t<|.inr b;rcases l with⟨g,_⟩|⟨_,c,k,C,p,i⟩
   .let g:X.env.scope.names.lookup z.1=Lh .local:=g;rcases b with b|b <;> rw[b]at g <;> cases g
   .rw[n]at k;cases k;rw[e]at p;cases p;rw[d]at i;injection i with i;exact⟨u,i,r⟩
  |j+1,a=>calc x j q (~~~a)
theorem yg{Ln:Ly (HR×Obj)}{σ:St}{H:Hp}{s:Ib}{zs:Ly (Str×Nat×HR)}{g:Ly Obj}(I:Inv X Ln σ H s)
  (hz:∀z∈zs,X.N[z.2.1]?=Lh z.1/\(X.env.scope.names.lookup z.1=Lh .cell\/X.env.scope.names.lookup z.1=Lh .free)/\X.env.cells.lookup z.1=Lh z.2.2/\(X.fn z.1=Lj\/(X.base.get? z.2.2=Li/\z.2.2 ∉ X.fs)))(n:⇑g=⇑zs)
  (k:∀(j:Nat)(z:Str×Nat×HR),zs[j]?=Lh z->∃o w,g[j]?=Lh o/\s.heap.get? z.2.2=Lh o/\o.data=.cell w/\∀v,σ[z.2.1]?=Lh (Lh v)->∃u,w=Lh u/\RelV v u):lM X s ((zs.map (·.2.2)).zip g):=by
 let b:∀p∈(zs.map (·.2.2)).zip g,∃z∈zs,z.2.2=p.1/\s.heap.get? p.1=Lh p.2:=λp a=>by
  let(j,d):=jY a;rw[uO,jj]at d;cases ez:zs[j]? with
  |none=>rw[ez]at d;cases d.1
  |some z =>
   rw[ez]at d;let i:z.2.2=p.1:=Option.some.inj d.1;let(o,w,h,m,_):=k j z ez;rw[d.2]at h;cases h;exact⟨z,HH ez,i,i ▸ m⟩
 let new:∀z∈zs,X.base.get? z.2.2=Li/\z.2.2 ∉ X.fs:=λz c=>by
  let(_,_,l,f):=hz z c;rcases f with f|f
  .exact I.cellNew l f
  .exact f
 refine⟨λp a=>?_,λp a=>?_,λp a=>?_,λp a=>?_⟩
 .let(z,c,e,_):=b p a;exact⟨z.1,e ▸ (hz z c).2.2.1⟩
 .let(z,c,e,_):=b p a;rw[←e];exact(new z c).1
 .let(z,c,e,_):=b p a;rw[←e];exact(new z c).2
 .let(z,c,e,h):=b p a;calc h
theorem BP{zs:Ly (Str×Nat×HR)}(C:Callee X.prog X.w X.K X.mg X.base k x ps sp)(P:bT k X.A)(S:Gl X x)(T:PA X (e :: es) t)(hz:∀z∈zs,X.N[z.2.1]?=Lh z.1/\(X.env.scope.names.lookup z.1=Lh .cell\/X.env.scope.names.lookup z.1=Lh .free)/\X.env.cells.lookup z.1=Lh z.2.2/\(X.fn z.1=Lj\/(X.base.get? z.2.2=Li/\z.2.2 ∉ X.fs)))
  (v:(x == ("__debug__" : Str))=false:=by decide) (he:Im (e :: es) X.env=(Ll,eval e X.env) :: Im es X.env:=by rfl)(l:(Il pos<|Im es X.env).any (·.1)=false:=by rfl):PE X (.Call (.Name x p) (e :: es) [] pos) (tZ zs sp t):=by
 let(f,Z,F,b,O,m):=C;intro Ln s σ H Q I h;calc HM<|dH I S m ?_ v;calc W.callWith_K (h₀:=X.base) I.ok.mod.kin O (thn (T pos Ln s σ H _ I h) λg i ⟨L,Y,a,r,q⟩=>⟨a.kIn,?_⟩) he l;let(B,G,E):=lN a zs hz;let J:((zs.map (·.2.2)).zip B).map (·.1)=zs.map (·.2.2):=ua (by rw[bc];lia);let d:=yg a hz G E;let D:=q B G (λz R=>a.freeC z.1 _ (hz z R).2.2.1) λj z V=>let ⟨o,w,a1,_,a3,a4⟩:=E j z V;⟨o,w,a1,a3,a4⟩
 let n:⇑g=⇑ps:=by rw[←⇑r];exact F.len _ _ _ _ D
 refine Ji (Jj (F.run X.A X.stack i _ ⟨g,[]⟩ g L _ E0 P (d.env0 a) (by have:=b i g a.kIn (by rw[jk];exact n);rw[jk]at this;exact this) r D) λM y c=>?_);cases M with
 |error e=>exact bU Ln σ Y i e y a c
 |ok fl =>
  cases fl with
  |ret u =>
   let c:CE X.stack X.prog X.w _ i _ u y:=c;calc d.after a ?_;rw[J];exact c
  |next=>exact False.elim c
  |brk=>exact False.elim c
  |cont=>calc False.elim c
end
def yh(tabs:Ly (HR×HR))(H:Hp):Prop:=∀b,H b=Li\/(∃o a,H b=Lh (.frz o<|.lst a))\/(b∈tabs.map (·.2)/\H b=Lh (.tbl #[]))
theorem wq{P:HQ}{w:HP}{K:W.Frag}{mg mb:Str->Option HN}{CX:CXT}{k:Nat}{fa a:HR}{fd:Jf}{x:Str}{sp:Sp}{c:Ib}{vs:Ly HN}{L:Ly Int}{tabs:Ly (HR×HR)}
  (KX:K.In c.heap)(C:c.heap.Ns HX mg)(hb:c.heap.Ns HY mb)(a8:∀x:Str,x ≠ "__name__" -> mb x=HZ x) (EB:c.heap.NoLimit)(hg:c.gens = #[])
  (G:c.heap.get? a=Lh { cls:=.type "list",data:=.seq vs.toArray }) (hi:IntsAre vs L)(hl:L.length<=HU)(hr:bT k JC)
  (M:TabsAt tabs c.heap)(a6:noTabs K=Lj)(a7:∃bm A,mg "__builtins__" = ↑bm/\bm≠HY/\c.heap.get? bm=Lh A/\A.cls=.type "module" /\ A.dict=Lh HY/\A.data=.plain)
  (F:∀base:HS,K.In base->base.Ns HX mg->(∀q∈tabs,CodeHd base q.1 q.2/\base.BuiltinsAt mg q.2)->aK P w K mg base CX k fa fd [x] sp)(C7:∀(s:Ib)(u:HN),Jg s fd ⟨[u],[]⟩ [(x,u)])
  (a4:∀H:Hp,yh tabs H->SqL K H a (L.map V.int)->(∀q∈tabs,H q.2=Lh (.tbl #[]))->sp [.ref a] H (λv _=>v=.bl Lj) λ_ _ _=>False)
  (b9:∀H e s',CX [] H c (λ_ _ _=>False) e s'->False) :
  Ja (model P w) JC (.call (.ref fa) ⟨[.ref a],[]⟩) (λr s'=>r=.ok (.ret<|.bool Lj)/\OldK c.heap s'.heap/\s'.os=c.os/\AllBare s'.gens) c:=by
 let rv:=pE hi;let EC:=⇑hi;let E:∀b∈tabs.map (·.2),c.heap.get? b=Lh (tabObj #[]):=λb f=>by
  let(q,i,rfl):=iv.mp f;exact(M q i).2
 let aT:a ∉ tabs.map (·.2):=λz=>by
  let e:=E a z;rw[G]at e;cases e
 let B:∀H:Hp,yh tabs H->SqL K H a (L.map V.int)->HOk P w H c.heap->(∀b,H b≠Li->b=a\/b∈tabs.map (·.2))->(H a≠Li->K.lookup a=Li)->(∀q∈tabs,H q.2=Lh (.tbl #[])) ->
   Ja (model P w) JC (.call (.ref fa) ⟨[.ref a],[]⟩) (λr s'=>r=.ok (.ret<|.bool Lj)/\OldK c.heap s'.heap/\s'.os=c.os/\AllBare s'.gens) c:=by
  intro H hO hS hok hA hK S;let mG:∀{b:HR}{o:Obj},c.heap.get? b=Lh o->H b=Li->(mJ c.heap H).get? b=Lh o:=λe n=>wQ e n
  let Q:∀{b:HR}{o:Obj},c.heap.get? b=Lh o->(b=a->False)->o≠tabObj #[]->H b=none:=λ{b o} e n1 n2=>by
   cases q:H b with
   |none=>rfl
   |some u =>
    rcases hA b (by rw[q];simp)with z|z
    .exact(n1 z).elim
    .let:=E b z;rw[e]at this;exact Lr (Option.some.inj this) n2
  let a2:∀{b:HR}{o:Obj}{es:Array DictEntry}{I:Nat},c.heap.get? b=Lh o->o.data=.dict es I->H b=none:=λ{b o es I} e d=>Q e (λz=>by
   subst z;rw[G]at e;cases e;let O:Data.seq vs.toArray _=Data.dict es I:=d;cases O) (λz=>by rw[z]at d;cases d)
  let R:∀{b:HR}{o:Obj}{T:String},c.heap.get? b=Lh o->o.cls=.type T->T ≠ "list" -> H b=none:=λ{b o T} e d b0=>Q e (λz=>by
   subst z;rw[G]at e;cases e;let O:HN.type "list" = HN.type T:=d;injection O with O;exact b0 O.symm) (λz=>by rw[z]at d;cases d)
  let y:∀{b:HR}{m:Str->Option HN},c.heap.Ns b m->(mJ c.heap H).Ns b m:=λ{b m} ⟨o,es,I,e,d,r⟩=>⟨o,es,I,mG e<|a2 e d,d,r⟩
  let X:K.In (mJ c.heap H):=λb o e=>mG (KX b o e) (by
   cases q:H b with
   |none=>rfl
   |some u =>
    rcases hA b (by rw[q];simp)with z|z
    .subst z;rw[hK (by rw[q];simp)]at e;cases e
    .let j:=E b z;rw[KX b o e]at j;cases j;let h2:=jX.mp a6 (b,tabObj #[])<|mem_of_lookupK e;exact Lr (show Ll=Lj from h2) Bool.false_ne_true)
  let hM:Mod K mg (mJ c.heap H):=⟨X,y C,⟨mb,y hb,a8⟩,let ⟨mc,h1,h2⟩:=EB;⟨mc,y h1,h2⟩⟩;let e0:q9 P w K mg (mJ c.heap H) JC [] c H:=⟨U,hM,λb o e=>yZ e,CV<|vG _ _,trivial,λb hb=>Lr (show b∈([]:Ly HR)from hb) (by simp),hok,.of_eq hg⟩;let a9:∀q∈tabs,CodeHd (mJ c.heap H) q.1 q.2/\(mJ c.heap H).BuiltinsAt mg q.2:=λq i=>by
   let(o,a1,Z,tf,D,tg,a3,Y,tt,N,r1,r2):=(M q i).1;let(bm,A,b1,b2,J,b4,b5,b6):=a7;refine⟨⟨o,a1,Z,tf,D,tg,a3,Y,tt,mG N<|R N r1 ⋯,r1,r2⟩,bm,A,b1,b2,λz=>?_,λz=>?_,mG J<|R J b4 ⋯,b4,b5,b6⟩
   .let(o',es,I,e,d,_):=C;rw[z,e]at J;cases J;rw[d]at b6;cases b6
   .let j:=(M q i).2;rw[z,j]at J;cases J;cases b4
  refine Jj ((F _ X (y C) a9).run JC [] c H ⟨[.ref a],[]⟩ [.ref a] [.ref a] _ _ hr e0 (C7 c<|.ref a) (.cons U .nil) (a4 H hO hS S)) λr s' h=>?_
  cases r with
  |error e=>exact(b9 H e s' h).elim
  |ok fl =>
   cases fl with
   |next=>exact False.elim h
   |brk=>exact False.elim h
   |cont=>exact False.elim h
   |ret u =>
    let(v,H',os,a0,un,C8,r',q):=h;let q':v=.bl true:=q;subst q';obtain rfl:u=HN.bool true:=r';let kept:∀b o,b ∉ tabs.map (·.2)->c.heap.get? b=Lh o->s'.heap.get? b=Lh o:=λb o f e=>by
     cases q:H b with
     |none=>exact un.keep b o e q (by intro z;exact Lr (show b∈([]:Ly HR)from z) (by simp)) (by simp)
     |some u =>
      rcases hO b with z|⟨A,xs,z⟩|⟨z,_⟩
      .rw[q]at z;cases z
      .let z2:=un.frzs b A _ z;let(N,_):=hok b _ z;let(j,_):=C8 b _ z2;rw[e]at N;cases N;exact j
      .exact Lr z f
    let l:∀b∈tabs.map (·.2),isCodeTable c.heap b/\∃g,s'.heap.get? b=Lh (tabObj g):=λb f=>by
     let(qq,i,rfl):=iv.mp f;let(g,e):=un.tbls _ _<|S qq i;let j:s'.heap.get? qq.2=Lh (tabObj<|#[]++g):=C8 _ _ e;exact⟨((M qq i).1.tab (M qq i).2).isCodeTable,_,j⟩
    refine⟨U,⟨λb o e=>?_,λb o e=>?_⟩,os,a0⟩
    .by_cases f:b∈tabs.map (·.2)
     .let(ht,g,j):=l b f;let e3:=E b f;rw[e]at e3;cases e3;exact .inr<|.inl ⟨ht,U,#[],g,U,by rw[Array.empty_append];exact j⟩
     .exact .inl<|kept b o f e
    .by_cases f:b∈tabs.map (·.2)
     .let(_,g,j):=l b f;exact⟨_,j⟩
     .exact⟨o,kept b o f e⟩
 cases hk:K.lookup a with
 |some o =>
  let e:=KX a o hk;rw[G]at e;cases e;refine B (λb=>if b∈tabs.map (·.2)then Lh (.tbl #[])else Li) (λb=>?_) (.inr ⟨_,vs.toArray,_,hk,U,U,U,by rw[dV,EC];exact hl,~~~rv⟩) (λb u z=>?_) (λb z=>?_) (λz=>Lr (Lp aT) z) λq i=>Lq<|iv.mpr ⟨q,i,U⟩
  .by_cases f:b∈tabs.map (·.2)
   .exact .inr<|.inr ⟨f,Lq f⟩
   .exact .inl<|Lp f
  .by_cases f:b∈tabs.map (·.2)
   .let t:=(Lq f).symm.trans z;cases t;exact E b f
   .let t:=(Lp f).symm.trans z;cases t
  .by_cases f:b∈tabs.map (·.2)
   .exact .inr f
   .exact Lr (Lp f) z
 |none =>
  refine B (λb=>if b=a then Lh (.frz { cls:=.type "list",data:=.seq vs.toArray } (.lst<|L.map V.int))else if b∈tabs.map (·.2)then Lh (.tbl #[])else Li) (λb=>?_) (.inl<|.inr ⟨{ cls:=.type "list",data:=.seq vs.toArray },Lq U⟩) (λb u z=>?_) (λb z=>?_) (λ_=>hk) λq i=>?_
  .by_cases f:b=a
   .exact .inr<|.inl ⟨_,_,Lq f⟩
   .by_cases p:b∈tabs.map (·.2)
    .exact .inr<|.inr ⟨p,(Lp f).trans<|Lq p⟩
    .exact .inl<|(Lp f).trans<|Lp p
  .by_cases f:b=a
   .let t:=(Lq f).symm.trans z;cases t;subst f;exact⟨G,by rw[bc];exact hl,vs,_,rv,G⟩
   .by_cases p:b∈tabs.map (·.2)
    .let t:=((Lp f).trans<|Lq p).symm.trans z;cases t;exact E b p
    .let t:=((Lp f).trans<|Lp p).symm.trans z;cases t
  .by_cases f:b=a
   .exact .inl f
   .by_cases p:b∈tabs.map (·.2)
    .exact .inr p
    .exact Lr ((Lp f).trans<|Lp p) z
  .let hm:q.2∈tabs.map (·.2):=iv.mpr ⟨q,i,U⟩;let a5:q.2≠a:=λz=>aT<|z ▸ hm
   calc(Lp a5).trans (Lq hm)
theorem walk_ofT{l:W.OpenLaw}{n k:Nat}{q:HQ}{i:Ly Str}{XP:(Str->Option HN)->HS->Prop}{P:HP->HS->Prop}{d:DefRec}{K:JB->W.Frag}{CX:HP->CXT}{sp:HP->Sp}{x:Str}{tabs:JB->Ly (HR×HR)}{xs:Ly Str}
  (hn:l.most=Lh n)(I:n<=HU)(L:d.params.defaults=[])(Z:bT k JC)
  (hY:∀(w:HP)(h:HS),P w h->(K w.params).In h)(E:∀p:JB,noTabs (K p)=Lj)
  (C:∀y∈xs,∃d',(recsOf q).find? (λe=>e.name == y)=Lh d')(R:∀p:JB,∀t∈tabs p,∃y∈xs,tabIn (K p) y=Lh t)
  (F:∀(w:HP)(mg:Str->Option HN)(z:HR)(h:HS),(K w.params).In h->h.Ns HX mg->mg d.name=↑z ->
   ∃A:Jf,(∀(s:Ib)(u:HN),Jg s A ⟨[u],[]⟩ [(x,u)]) /\
    ∀base:HS,(K w.params).In base->base.Ns HX mg->(∀q∈tabs w.params,CodeHd base q.1 q.2/\base.BuiltinsAt mg q.2)->aK l.prog w (K w.params) mg base (CX w) k z A [x] (sp w))
  (D:∀(w:HP)(H:Hp)(a:HR)(r:Ly Int),⇑r<=n->yh (tabs w.params) H->SqL (K w.params) H a (r.map V.int)->(∀q∈tabs w.params,H q.2=Lh (.tbl #[]))->sp w [.ref a] H (λv _=>v=.bl Lj) λ_ _ _=>False)
  (O:∀(w:HP)(H:Hp)(s:Ib)(e:HN)(s':Ib),CX w [] H s (λ_ _ _=>False) e s'->False) :
  W.WalkO q i XP P l.row.toRowW d [] (λf vs=>PySem.call f vs):=by
 refine Att.attach_call hn L λw Q m mg mb z o pm cd a1 a vs r G Y ho hd a0 J Bq j c hg=>?_
 let B:=hY w _ Y;let(A,hb,hF):=F w mg z _ B G.T.g J;refine wq B G.T.g G.T.b G.T.builtins G.T.nolimit hg Bq j (yW c I) Z (tabs:=tabs w.params) (λt X=>?_) (E w.params) G.T.bmain hF hb (λH hO hS N=>D w H a r c hO hS N) λH e s'=>O w H m e s'
 let(y,S,e):=R w.params t X;let(d',M):=C y S;calc tab_of G.T B M e
variable{K:W.Frag}{base:HS}
section
variable{mg:Str->Option HN}
def jA(H:Hp)(f c':HR)(b:Obj)(qual:Str)(cl:Ly (Str×HR))(ws:Ly (Str×V)):Prop:=H f=Lh (.frz b TTh)/\(∃a,H c'=Lh (.frz a TTh)/\rX a qual)/\fR H cl ws
theorem jA.same{H H':Hp}{f c':HR}{a:Obj}{qual:Str}{cl:Ly (Str×HR)}{ws:Ly (Str×V)}(h:jA H f c' a qual cl ws)(s:ar H H'):jA H' f c' a qual cl ws :=
 ⟨s _ _ h.1,let ⟨oc,e,q⟩:=h.2.1;⟨oc,s _ _ e,q⟩,h.2.2.same s⟩
theorem rY{zs:Ly (Str×Nat×HR)}{f:Ly Obj}{H:Hp}{σ:St}{cl:Ly (Str×HR)}{ws:Ly (Str×V)}(K:⇑f=⇑zs)(t:(zs.map (·.2.2)).Nodup)
  (y:∀(j:Nat)(z:Str×Nat×HR),zs[j]?=Lh z->∃o w,f[j]?=Lh o/\o.data=.cell w/\∀v,σ[z.2.1]?=Lh (Lh v)->∃u,w=Lh u/\RelV v u)
  (D:∀c∈cl.map (·.2),∃z∈zs,z.2.2=c)(C:∀(x:Str)(v:V),ws.lookup x=Lh v->∃z∈zs,cl.lookup x=Lh z.2.2/\σ[z.2.1]?=Lh (Lh v)):fR (gk H ((zs.map (·.2.2)).zip f)) cl ws:=by
 let h:∀z∈zs,∃o w,gk H ((zs.map (·.2.2)).zip f) z.2.2=Lh (.frz o TTh)/\o.data=.cell w/\∀v,σ[z.2.1]?=Lh (Lh v)->∃u,w=Lh u/\RelV v u:=λz g=>by
  let(j,p):=jY g;let(o,w,m,l,I):=y j z p;let q:((zs.map (·.2.2)).zip f).map (·.1)=zs.map (·.2.2):=ua (by rw[bc];lia);let(s,A,G):=eK (H:=H) (fz:=(zs.map (·.2.2)).zip f) (b:=z.2.2) (by rw[q];exact iv.mpr ⟨z,g,U⟩);let(i,k):=jY A;rw[uO]at k;let E:(zs.map (·.2.2))[j]?=Lh z.2.2:=by rw[jj,p];rfl
  let(M,J):=HG.mp k.1;let(L,b2):=HG.mp E;let n:i=j:=(xc t).mp<|J.trans b2.symm;subst n;let F:o=s:=Option.some.inj<|m.symm.trans k.2;subst F;exact⟨o,w,G,l,I⟩
 refine⟨λc B=>?_,λx v e=>?_⟩
 .let(z,g,rfl):=D c B;let(o,w,a,b,_):=h z g;exact⟨o,w,a,b⟩
 .let(z,g,m,l):=C x v e;let(o,w,a,b,d):=h z g;let(u,rfl,r):=d v l;calc⟨z.2.2,o,u,m,a,b,r⟩
end
theorem yi{a:Ic}{cl:Ly (Str×HR)}(h:(a.names.all λy=>match y.2 with | .free=>(cl.map (·.1)).any (y.1 == ·)|_=>Lj)=Lj):∀y∈a.names,y.2=.free->∃c,cl.lookup y.1=Lh c:=λy d e=>by
 let:=jX.mp h y d;rw[e]at this;let(z,b,g):=xt.mp this;let(p,f,rfl):=iv.mp b;cases q:cl.lookup y.1 with
 |some c=>exact⟨c,U⟩
 |none =>
  let:=List.lookup_eq_none_iff.mp q p f;simp[bne,g]at this
theorem vj{N:Ly Str}{a:Ic}{ws:Ly (Str×V)}(h:((ws.map (·.1)).all λx=>match a.names.lookup x with|some .free=>Lj|_=>Ll)=Lj):∀y∈N,∀v,ws.lookup y=Lh v->a.names.lookup y=Lh .free:=λy _ v e=>by
 let:=jX.mp h y<|iv.mpr ⟨(y,v),mem_of_lookup e,U⟩;split at this
 .assumption
 .cases this
theorem tab_mk{K:Frag}{x qual:Str}{st:Io}{f c P:HR}{g kV doc pm m:HN}{d n:Option HR}{b:Array (Option HN)}{j:HN}{i:Option HR}{vs:Array HN}{h:Array (Option HN)}(a:nsIn K HX x=Lh ↑f)
  (l:K.lookup f=Lh ⟨g,d,.func<|fnOf x qual (gE st) (cX st) (ao st) .none kV doc pm n (.ref c) m,b⟩)(k:K.lookup c=Lh ⟨j,i,.fields vs,h⟩)(e:vs[11]?=↑P):tabIn K x=Lh (c,P):=by
 unfold tabIn;rw[a];simp only[l];show(match K.lookup c with|some ⟨_,_,.fields vs,_⟩=>(match (vs[11]?:Option HN)with|some (.ref P)=>Lh (c,P)|_=>Li)|_=>Li)=Lh (c,P);rw[k];simp only[e]
section
variable{zs:Ly (Str×Nat×HR)}{os:Ly Obj}{H2:Hp}
theorem nG(a:⇑os=⇑zs):((zs.map (·.2.2)).zip os).map (·.1)=zs.map (·.2.2):=ua (by rw[bc];lia)
theorem nH(c:⇑os=⇑zs)(d:∀z∈zs,H z.2.2=Li):ar H (gk H ((zs.map (·.2.2)).zip os)):=λb u e=>by
 rw[bM λm=>?_]
 .exact e
 .rw[nG c]at m;let(z,a,rfl):=iv.mp m;rw[d z a]at e;cases e
theorem hide_same(d:⇑os=⇑zs)(a:∀z∈zs,H z.2.2=Li)(s:ar (gk H ((zs.map (·.2.2)).zip os)) H2):ar H (hideL H2 (zs.map (·.2.2))):=λb u e=>by
 rw[bH λm=>?_]
 .exact s _ _<|nH d a _ _ e
 .let(z,c,rfl):=iv.mp m;rw[a z c]at e;cases e
end
theorem lM.inv{fz:Ly (HR×Obj)}{j:Hp}{s':Ib}(z:lM X s fz)(I:Inv X Ln σ H s)(os:s'.os=s.os)(i:AllBare s'.gens)(un:Un (frs X.stack) [] (gk H fz) j s.heap s'.heap)(hok:HOk X.prog X.w j s'.heap):Inv X Ln σ (hideL j (fz.map (·.1))) s':=by
 let fzs:Fzs j (fz.map (·.1)):=λc x=>by
  let(o,_,e):=eK (H:=H) x;exact⟨o,un.frzs c o _ e⟩
 let out:∀{d:HR}{u:HO},H d=Lh u->d ∉ fz.map (·.1):=λ{d u} q m=>by rw[z.free I d m]at q;cases q
 refine I.call' (ch:=[]) os ⟨λb o e n g f=>?_,λb o e n g f=>?_,λb o e n f=>?_,un.there,λb r e=>?_,λb o t e=>?_,λb v e=>?_⟩ (hok.hideL fzs) i<|λb g=>Lr g (by simp)
 .by_cases a:b∈fz.map (·.1)
  .let(l,p,k):=eK (H:=H) a;let:=(hok b _<|un.frzs b l _ k).1;let h:=z.at_ _ p;rw[e]at h;cases h;exact this
  .exact un.keep b o e (by rw[bM a];exact n) g f
 .by_cases a:b∈fz.map (·.1)
  .let(l,p,k):=eK (H:=H) a;let:=(hok b _<|un.frzs b l _ k).1;let h:=z.at_ _ p;rw[e]at h;cases h;exact⟨_,this⟩
  .exact un.slot b o e (by rw[bM a];exact n) g f
 .by_cases a:b∈fz.map (·.1)
  .exact iF a
  .rw[bH a];exact un.free b o e (by rw[bM a];exact n) f
 .let a:=out e;rw[bH a];exact un.tups b r (by rw[bM a];exact e)
 .let a:=out e;rw[bH a];exact un.frzs b o t (by rw[bM a];exact e)
 .let a:=out e;rw[bH a];calc un.tbls b v (by rw[bM a];exact e)
section
variable{ps:Ly Str}{sp:Sp}
end
abbrev T3a(a:Type):=Int×Int×a
def Fm(L:Type):Nat->Type
 |0=>L
 |n+1=>List<|Int×Int×Fm L n
def Fm.dec{L:Type} [d:DecidableEq L]:(n:Nat)->DecidableEq (Fm L n)
 |0=>d
 |n+1=>have:=Fm.dec (L:=L) n;(inferInstance:DecidableEq (List<|Int×Int×Fm L n))
instance {L:Type} [DecidableEq L] (n:Nat):DecidableEq (Fm L n):=Fm.dec n
section
variable{α:Type}
def de [DecidableEq α] (f:Ly (T3a α))(t:T3a α):Ly (T3a α):=match f.getLast? with
 |some l=>if l.2.2=t.2.2 then f.dropLast++[(l.1,t.2.1,t.2.2)]else f++[t]
 |none=>f++[t]
def gI [DecidableEq α] (ts:Ly (T3a α)):Ly (T3a α):=ts.foldl de []
def Ch3:Ly (T3a α)->Int->Int->Prop
 | [],lo,hi=>lo=hi+1
 |t :: r,lo,hi=>t.1=lo/\lo<=t.2.1/\Ch3 r (t.2.1+1) hi
theorem Ch3.snoc{t:T3a α}:∀{f:Ly (T3a α)}{lo mid:Int},Ch3 f lo mid->t.1=mid+1->t.1<=t.2.1->Ch3 (f++[t]) lo t.2.1
 | [],lo,mid,h,e,l=>⟨by rw[e];exact h.symm,by have:lo=mid+1:=h;lia,U⟩
 |u :: f,lo,mid,h,e,l=>⟨h.1,h.2.1,Ch3.snoc (f:=f) h.2.2 e l⟩
theorem Ch3.unsnoc{t:T3a α}:∀{f:Ly (T3a α)}{lo hi:Int},Ch3 (f++[t]) lo hi->t.2.1=hi/\t.1<=t.2.1/\Ch3 f lo (t.1-1)
 | [],lo,hi,h=>⟨by have:t.2.1+1=hi+1:=h.2.2;lia,by have:=h.1;let:=h.2.1;lia,by show lo=t.1-1+1;let:=h.1;lia⟩
 |u :: f,lo,hi,h=>let ⟨a,b,c⟩:=Ch3.unsnoc (f:=f) h.2.2;⟨a,b,h.1,h.2.1,c⟩
def Nbx(ys:Ly α):Prop:=∀(i:Nat)(a b:α),ys[i]?=Lh a->ys[i+1]?=Lh b->a≠b
theorem Nbx.snoc{ys:Ly α}{y:α}(h:Nbx ys)(e:∀l,ys.getLast?=Lh l->l≠y):Nbx (ys++[y]):=λi a b d c=>by
 let hi:=(HG.mp c).1;simp only[dy,iU]at hi;by_cases g:i+1<⇑ys
 .rw[ji ∅]at d;rw[ji g]at c;exact h i a b d c
 .let f:i+1=⇑ys:=∅
  rw[ji ∅]at d;rw[f]at c;simp at c;subst c;calc e a ?_;rw[List.getLast?_eq_getElem?];rw[show ⇑ys-1=i by lia];calc d
def vAt(f:Ly (T3a α))(c:Int):Option α:=(f.find? λt=>decide<|c<=t.2.1).map (·.2.2)
theorem jd(f g:Ly (T3a α))(c:Int):vAt (f++g) c=(vAt f c).or (vAt g c):=by
 unfold vAt;rw[List.find?_append];cases f.find? _ <;> rfl
theorem qv(t:T3a α)(c:Int):vAt [t] c=if c<=t.2.1 then Lh t.2.2 else none:=by
 unfold vAt;by_cases h:c<=t.2.1 <;> simp[h]
structure wx(ts f:Ly (T3a α))(lo hi:Int):Prop where
 ch:Ch3 f lo hi
 nb:Nbx (f.map (·.2.2))
 va:∀c,vAt f c=vAt ts c
 mem:∀t∈f,∃t'∈ts,t'.2.2=t.2.2
 ne:ts≠[]->f≠[]
theorem wx.step [DecidableEq α] {ts f:Ly (T3a α)}{lo mid:Int}{t:T3a α}(h:wx ts f lo mid)(e:t.1=mid+1)(l:t.1<=t.2.1):wx (ts++[t]) (de f t) lo t.2.1:=by
 rcases wM f with j|⟨g,u,j⟩
 .subst j;let:de [] t=[t]:=rfl;rw[this];refine⟨Ch3.snoc (f:=[]) h.ch e l,λi a b y p=>by simp at p,λc=>?_,λv d=>⟨t,by simp,by rw[gZ.mp d]⟩,λ_=>by simp⟩;rw[jd,←h.va c];rfl
 .rw[wN]at j;subst j;let o:=h.ch.unsnoc;let s:(g++[u]).getLast?=Lh u:=by simp
  unfold de;rw[s];simp only;by_cases q:u.2.2=t.2.2
  .rw[Lq q];let w:(g++[u]).dropLast=g:=by simp
   rw[w];let r:(g++[((u.1,t.2.1,t.2.2):T3a α)]).map (·.2.2)=(g++[u]).map (·.2.2):=by simp[q]
   refine⟨Ch3.snoc (t:=((u.1,t.2.1,t.2.2):T3a α)) o.2.2 (by show u.1=u.1-1+1;lia) (by show u.1<=t.2.1;lia),by rw[r];exact h.nb,λc=>?_,λv d=>?_,λ_=>by simp⟩
   .rw[jd ts,←h.va c,jd,jd,qv,qv,qv];show(vAt g c).or (if c<=t.2.1 then Lh t.2.2 else Li)=((vAt g c).or (if c<=u.2.1 then Lh u.2.2 else Li)).or (if c<=t.2.1 then Lh t.2.2 else Li);cases vAt g c with
    |some x=>rfl
    |none =>
     by_cases n:c<=u.2.1
     .rw[Lq n,Lq ∅,q];rfl
     .rw[Lp n];rfl
   .rcases hZ.mp d with d|d
    .let(k,a,b):=h.mem v<|nL _ d;exact⟨k,nL _ a,b⟩
    .rw[gZ.mp d];exact⟨t,by simp,U⟩
  .rw[Lp q];refine⟨h.ch.snoc e l,?_,λc=>?_,λv d=>?_,λ_=>by simp⟩
   .rw[dW];refine Nbx.snoc h.nb λz m=>?_
    rw[dW]at m;simp at m;rw[←m];exact q
   .rw[jd,jd ts,h.va c]
   .rcases hZ.mp d with d|d
    .let(k,a,b):=h.mem v d;exact⟨k,nL _ a,b⟩
    .rw[gZ.mp d];calc⟨t,by simp,U⟩
theorem rZ [DecidableEq α]:∀{r ts f:Ly (T3a α)}{lo mid hi:Int},wx ts f lo mid->Ch3 r (mid+1) hi->wx (ts++r) (r.foldl de f) lo hi
 | [],ts,f,lo,mid,hi,h,c=>by
  let:mid=hi:=by have:mid+1=hi+1:=c;lia
  subst this;rw[jk];exact h
 |t :: r,ts,f,lo,mid,hi,h,c=>by
  let:=rZ (r:=r) (h.step c.1 (by have:=c.1;let:=c.2.1;lia)) c.2.2;rw[jD]at this;calc this
theorem gm [DecidableEq α] {ts:Ly (T3a α)}{lo hi:Int}(h:Ch3 ts lo hi):wx ts (gI ts) lo hi :=
 rZ (ts:=[]) (f:=[]) (mid:=lo-1) ⟨by show lo=lo-1+1;lia,λi a b e d=>by simp at d,λ_=>U,λt c=>by simp at c,λz=>Lr U z⟩ (by rw[show lo-1+1=lo by lia];exact h)
theorem Ch3.at:∀{f:Ly (T3a α)}{lo hi c:Int},Ch3 f lo hi->lo<=c->c<=hi->∃(j:Nat)(t:T3a α),f[j]?=Lh t/\t.1<=c/\c<=t.2.1/\(∀(i:Nat)(u:T3a α),i<j->f[i]?=Lh u->u.2.1<c)/\vAt f c=Lh t.2.2
 | [],lo,hi,c,h,h1,h2=>by have:lo=hi+1:=h;lia
 |t :: r,lo,hi,c,h,h1,h2=>by
  by_cases q:c<=t.2.1
  .exact⟨0,t,U,by have:=h.1;lia,q,λi u hi=>Lr hi<|CU i,by unfold vAt;rw[ov (~~~q)];rfl⟩
  .let(j,u,a,b,d,e,v):=Ch3.at (f:=r) h.2.2 (c:=c) ∅ h2;refine⟨j+1,u,~~~a,b,d,λi w hi g=>?_,by unfold vAt at v⊢;rw[oD (~~~q)];exact v⟩
   match i,g with
   |0,g=>cases g;lia
   |i+1,g=>calc e i w ∅ (~~~g)
end
def lay{L:Type} [DecidableEq L] (g:Ly Int->L):(cols:Ly (List<|Int×Int))->Ly Int->Fm L ⇑cols
 | [],ah=>g ah
 |c :: cs,ah=>gI<|c.map λp=>((p.1,p.2,lay g cs<|ah++[p.1]):T3a (Fm L ⇑cs))
def ShS{a:Type}(S:a->Ly (Int×Int)->Prop)(f:Ly (T3a a))(ps:Ly (Int×Int)):Prop:=∃p r,ps=p :: r/\f≠[]/\Ch3 f p.1 p.2/\Nbx (f.map (·.2.2))/\∀t∈f,S t.2.2 r
def fm{L:Type}:(n:Nat)->Fm L n->Ly (Int×Int)->Prop
 |0,_,ps=>ps=[]
 |n+1,f,ps=>ShS (fm n) f ps
def zI:Ly (Int×Int)->Int->Int->Prop
 | [],lo,hi=>lo=hi+1
 |p :: r,lo,hi=>p.1=lo/\lo<=p.2/\zI r (p.2+1) hi
theorem yj{a:Type}(F:Int×Int->a):∀{c:Ly (Int×Int)}{lo hi:Int},zI c lo hi->Ch3 (c.map λp=>((p.1,p.2,F p):T3a a)) lo hi
 | [],lo,hi,h=>h
 |p :: r,lo,hi,h=>⟨h.1,h.2.1,yj F h.2.2⟩
inductive ij:Ly (List<|Int×Int)->Ly (Int×Int)->Prop
 |nil:ij [] []
 |cons {c:Ly (Int×Int)}{cs:Ly (List<|Int×Int)}{p:Int×Int}{ps:Ly (Int×Int)}:c≠[]->zI c p.1 p.2->ij cs ps->ij (c :: cs) (p :: ps)
theorem iG{L:Type} [DecidableEq L] {g:Ly Int->L}{a:Ly (List<|Int×Int)}{ps:Ly (Int×Int)}(h:ij a ps):∀b:Ly Int,fm ⇑a (lay g a b) ps:=by
 induction h with
 |nil=>intro b;exact(rfl:([]:Ly (Int×Int))=[])
 | @cons c cs p ps hne hc _ ih =>
  intro b;let k:=gm<|yj (λq=>lay g cs<|b++[q.1]) hc;calc⟨p,ps,U,k.ne<|~~~hne,k.ch,k.nb,λt d=>?_⟩;let(i,f,e):=k.mem t d;let(q,_,rfl):=iv.mp f;rw[←e];calc ih _
def cH(col:Ly (Int×Int))(c:Int):Int:=((col.find? λp=>decide<|c<=p.2).map (·.1)).getD 0
theorem vk{a:Type}(F:Int×Int->a)(c:Int):∀col:Ly (Int×Int),vAt (col.map λp=>((p.1,p.2,F p):T3a a)) c=(col.find? λp=>decide<|c<=p.2).map F
 | []=>rfl
 |p :: r=>by
  unfold vAt;rw[jU];by_cases q:c<=p.2
  .rw[ov (~~~q),ov (~~~q)];rfl
  .rw[oD (~~~q),oD (~~~q)];calc vk F c r
inductive Tel{L:Type}:(n:Nat)->Fm L n->Ly Int->L->Prop
 |nil (x:L):Tel 0 x [] x
 |cons {n:Nat}{f:Ly (T3a<|Fm L n)}{c:Int}{cs:Ly Int}{x:L}{j:Nat}{t:T3a (Fm L n)}:f[j]?=Lh t->c<=t.2.1->(∀(i:Nat)(u:T3a (Fm L n)),i<j->f[i]?=Lh u->u.2.1<c)->Tel n t.2.2 cs x->Tel (n+1) f (c :: cs) x
inductive InB:Ly Int->Ly (Int×Int)->Prop
 |nil:InB [] []
 |cons {c:Int}{cs:Ly Int}{p:Int×Int}{ps:Ly (Int×Int)}:p.1<=c->c<=p.2->InB cs ps->InB (c :: cs) (p :: ps)
theorem mH{L:Type} [DecidableEq L] {g:Ly Int->L}{a:Ly (List<|Int×Int)}{ps:Ly (Int×Int)}(h:ij a ps):∀(d b:Ly Int),InB b ps->Tel ⇑a (lay g a d) b (g<|d++List.zipWith cH a b):=by
 induction h with
 |nil=>intro d b e;cases e;rw[List.zipWith_nil_left,jk];exact .nil _
 | @cons c a p ps hne hc _ ih =>
  intro d b e;cases e with
  | @cons x b _ _ h1 h2 e =>
   let k:=gm<|yj (λq=>lay g a<|d++[q.1]) hc;let(j,t,o,r,n,m,f):=k.ch.at h1 h2;rw[k.va,vk]at f;cases e6:c.find? (λp=>decide<|x<=p.2) with
   |none=>rw[e6]at f;cases f
   |some q =>
    rw[e6]at f;let l:lay g a (d++[q.1])=t.2.2:=Option.some.inj f;let i:cH c x=q.1:=by unfold cH;rw[e6];rfl
    calc .cons o n m ?_;rw[←l,List.zipWith_cons_cons,i];let:=ih (d++[q.1]) b e;rw[jD]at this;calc this
def FmL{a:Type}(R:a->V->Prop)(H:Hp)(f:Ly (T3a a))(xs:Ly V):Prop:=⇑xs=⇑f/\∀(i:Nat)(t:T3a a),f[i]?=Lh t->∃(r:HR)(u:V),xs[i]?=↑r/\H r=Lh (.tup [.int t.1,.int t.2.1,u])/\R t.2.2 u
def nI(K:W.Frag)(H:Hp):Prop:=∀(r:HR)(b a:Ly V),SqT K H r b->SqT K H r a->b=a
inductive fq(K:W.Frag)(H:Hp):Nat->V->V->Bool->Prop where
 |of {n:Nat}{x y:V}{b:Bool}(h:DEq K H n x y b):fq K H n x y b
 |ti {n:Nat}{a:HR}{xs:Ly V}{i:Int}(h:SqT K H a xs):fq K H n (.ref a) (.int i) Ll
 |it {n:Nat}{a:HR}{xs:Ly V}{i:Int}(h:SqT K H a xs):fq K H n (.int i) (.ref a) Ll
 |tup {n:Nat}{a b:HR}{xs ys:Ly V}{f:Nat->Bool}(ne:a≠b)(ha:SqT K H a xs)(hb:SqT K H b ys)(h:∀(j:Nat)(x y:V),xs[j]?=Lh x->ys[j]?=Lh y->fq K H n x y (f j)):fq K H (n+1) (.ref a) (.ref b) ((List.range<|min ⇑xs ⇑ys).all f && ⇑xs == ⇑ys)
theorem fq.mono{K:W.Frag}{H:Hp}{n m:Nat}{x y:V}{b:Bool}(e:fq K H n x y b)(h:n<=m):fq K H m x y b:=by
 induction e generalizing m with
 |of e=>exact .of (e.mono h)
 |ti e=>exact .ti e
 |it e=>exact .it e
 |tup a f d _ c =>
  let(m,rfl):∃k,m=k+1:=⟨m-1,∅⟩;calc .tup a f d λj x y i g=>c j x y i g ∅
theorem C9(I:Inv X Ln σ H s):nI X.K H:=λr p m l k=>by
 let(c,h,j,_):=I.tuple l;let(a,f,i,_):=I.tuple k;let(o,e,_,n,d):=j;let(q,g,_,t,b):=i;rw[e]at g;cases g;rw[d]at b;injection b with b;let:c=a:= ~~~b
 rw[←this]at f;calc Vals.inj h f
theorem fq.at{n:Nat}{x y:V}{b:Bool}(e:fq X.K H n x y b)(I:Inv X Ln σ H s):∀{A:Ia}{u v:HN},A.units+n<Jd->RelV x u->RelV y v->SeqAt.EqAt A s u v b:=by
 induction e with
 |of e=>intro A u v l k g;exact e.at I l k g
 | @ti n a xs i h =>
  intro A u v l k g;cases (show u=HN.ref a from k);let(t,rfl):=g;let(c,r,p,_):=I.tuple h;exact SeqAt.EqAt.tuple_int i t (show s.heap.IsTuple a c.toArray from p) ∅
 | @it n a xs i h =>
  intro A u v l k g;let(t,rfl):=k;cases (show v=HN.ref a from g);let(c,r,p,_):=I.tuple h;exact SeqAt.EqAt.int_tuple i t (show s.heap.IsTuple a c.toArray from p) ∅
 | @tup n a b xs ys f ne ha hb h ih =>
  intro A u v l k g;cases (show u=HN.ref a from k);cases (show v=HN.ref b from g);let(c,r,p,_):=I.tuple ha;let(d,m,z,_):=I.tuple hb;let G:=⇑r;let F:=⇑m;let o:=SeqAt.RcAt.tuples (A:=A) (e:=f) (show s.heap.IsTuple a c.toArray from p) (show s.heap.IsTuple b d.toArray from z) ∅ (λj C B=>by
   let(x,E,w):=fY r C;let(y,D,q):=fY m B;exact ih j x y E D (by show A.units+1+n<Jd;lia) w q)
  rw[show c.toArray.size=⇑xs by simp only[dV];lia,show d.toArray.size=⇑ys by simp only[dV];lia]at o;calc SeqAt.EqAt.of_refs ne o
inductive qw(K:W.Frag)(neg:Bool)(x:V)(y:V)(H:Hp)(Q:VK):Prop
 |tt (a b:HR)(xs ys:Ly V)(_:x=.ref a)(_:y=.ref b)(_:SqT K H a xs)(_:SqT K H b ys)(f:Nat->Bool)(_:(∀(j:Nat)(x y:V),xs[j]?=Lh x->ys[j]?=Lh y->fq K H 60 x y (f j)))(_:Q (.bl (if neg then !((List.range<|min ⇑xs ⇑ys).all f && ⇑xs == ⇑ys) else(List.range<|min ⇑xs ⇑ys).all f && ⇑xs == ⇑ys)) H):qw K neg x y H Q
 |ti (a:HR)(xs:Ly V)(i:Int)(_:x=.ref a)(_:y=.int i)(_:SqT K H a xs)(_:Q (.bl neg) H):qw K neg x y H Q
 |it (a:HR)(xs:Ly V)(i:Int)(_:x=.int i)(_:y=.ref a)(_:SqT K H a xs)(_:Q (.bl neg) H):qw K neg x y H Q
theorem r0{Ln:Ly (HR×Obj)}{σ:St}{H:Hp}{s:Ib}{A:Ia}{xs ys:Ly V}{a its':Ly HN}{f:Nat->Bool}(I:Inv X Ln σ H s)(h:A.units+60<Jd)(r:Vals xs a)(d:Vals ys its')
  (hf:∀(j:Nat)(x y:V),xs[j]?=Lh x->ys[j]?=Lh y->fq X.K H 60 x y (f j)):∀j (c:j<a.toArray.size)(b:j<its'.toArray.size),SeqAt.EqAt A s a.toArray[j] its'.toArray[j] (f j):=λj c b=>by
 let(x,k,g):=fY r c;let(y,i,e):=fY d b;calc(hf j x y k i).at I h g e
theorem BQ{k:Nat}(E:bT k X.A):OpR X (IV .Eq) (qw X.K Ll):=by
 intro Ln s σ H x y v u Q I n m h;let L:=E.units;cases h with
 |tt a b o J j g d G f F q =>
  subst j g;cases (show v=HN.ref a from n);cases (show u=HN.ref b from m);let(c,r,p,_):=I.tuple d;let(l,z,B,_):=I.tuple G;let D:=⇑r;let C:=⇑z;refine SeqAt.eq_tupleAt (e:=f) (show s.heap.IsTuple a c.toArray from p) (show s.heap.IsTuple b l.toArray from B) ∅ (r0 I (by show X.A.units+1+60<Jd;lia) r z F) ⟨.bl _,H,I,U,?_⟩;simp only[dV];rw[←D,←C];exact q
 |ti a o i j g d q =>
  subst j g;cases (show v=HN.ref a from n);let(t,rfl):=m;let(c,r,p,_):=I.tuple d;exact SeqAt.RcAt.tuple_int i t (show s.heap.IsTuple a c.toArray from p) ∅ X.prog X.w X.xe _ ⟨.bl _,H,I,U,q⟩
 |it a o i j g d q =>
  subst j g;let(t,rfl):=n;cases (show u=HN.ref a from m);let(c,r,p,_):=I.tuple d;calc SeqAt.RcAt.int_tuple i t (show s.heap.IsTuple a c.toArray from p) ∅ X.prog X.w X.xe _ ⟨.bl _,H,I,U,q⟩
theorem BR{k:Nat}(E:bT k X.A):OpR X (IV .NotEq) (qw X.K Lj):=by
 intro Ln s σ H x y v u Q I n m h;let L:=E.units;cases h with
 |tt a b o J j g d G f F q =>
  subst j g;cases (show v=HN.ref a from n);cases (show u=HN.ref b from m);let(c,r,p,_):=I.tuple d;let(l,z,B,_):=I.tuple G;let D:=⇑r;let C:=⇑z;refine SeqAt.RcNeAt.tuples (e:=f) (show s.heap.IsTuple a c.toArray from p) (show s.heap.IsTuple b l.toArray from B) ∅ (r0 I (by show X.A.units+1+60<Jd;lia) r z F) X.prog X.w X.xe _ ⟨.bl _,H,I,U,?_⟩;simp only[dV];rw[←D,←C];exact q
 |ti a o i j g d q =>
  subst j g;cases (show v=HN.ref a from n);let(t,rfl):=m;let(c,r,p,_):=I.tuple d;exact SeqAt.RcNeAt.tuple_int i t (show s.heap.IsTuple a c.toArray from p) ∅ X.prog X.w X.xe _ ⟨.bl _,H,I,U,q⟩
 |it a o i j g d q =>
  subst j g;let(t,rfl):=n;cases (show u=HN.ref a from m);let(c,r,p,_):=I.tuple d;calc SeqAt.RcNeAt.int_tuple i t (show s.heap.IsTuple a c.toArray from p) ∅ X.prog X.w X.xe _ ⟨.bl _,H,I,U,q⟩
def rFm(K:W.Frag):R2:=λx y H Q=>nI K H->rEq x y H Q\/qw K Ll x y H Q
def BS(K:W.Frag):R2:=λx y H Q=>nI K H->rNe x y H Q\/qw K Lj x y H Q
structure Lfp(K:W.Frag)(L:Type) [DecidableEq L] where
 R:Hp->L->V->Prop
 mono:∀{H H':Hp}{x:L}{v:V},cG H H'->R H x v->R H' x v
 inj:∀{H:Hp}{x y:L}{v:V},nI K H->R H x v->R H y v->x=y
 deq:∀{H:Hp}{x y:L}{u v:V},nI K H->R H x u->R H y v->fq K H 2 u v (Lm<|x=y)
 eq:∀{H:Hp}{x y:L}{u v:V}{Q:VK},nI K H->R H x u->R H y v->Q (.bl<|Lm<|x=y) H->rEq u v H Q\/qw K Ll u v H Q
 ne:∀{H:Hp}{x y:L}{u v:V}{Q:VK},nI K H->R H x u->R H y v->Q (.bl<|!Lm (x=y)) H->rNe u v H Q\/qw K Lj u v H Q
def FmV{K:W.Frag}{L:Type} [DecidableEq L] (A:Lfp K L)(H:Hp):(n:Nat)->Fm L n->V->Prop
 |0,x,v=>A.R H x v
 |n+1,f,v=>∃(a:HR)(xs:Ly V),v=.ref a/\H a=Lh (.tup xs)/\FmL (FmV A H n) H f xs
theorem FmL.mono{d:Type}{R g:d->V->Prop}{H H':Hp}{f:Ly (T3a d)}{xs:Ly V}(h:FmL R H f xs)(k:∀x u,R x u->g x u)(s:cG H H'):FmL g H' f xs:=⟨h.1,λi t e=>by
 let(r,u,a,b,c):=h.2 i t e;exact⟨r,u,a,s _ _ b,k _ _ c⟩⟩
theorem FmV.mono{K:W.Frag}{L:Type} [DecidableEq L] {A:Lfp K L}{H H':Hp}(s:cG H H'):∀{n:Nat}{f:Fm L n}{v:V},FmV A H n f v->FmV A H' n f v
 |0,_,_,h=>A.mono s h
 |n+1,_,_,h=>by
  let(a,xs,d,c,b):=h;calc⟨a,xs,d,s _ _ c,b.mono (λ_ _ q=>FmV.mono s q) s⟩
theorem FmL.nil{a:Type}{R:a->V->Prop}{H:Hp}:FmL R H [] []:=⟨U,λi t e=>by simp at e⟩
theorem FmL.snoc{d:Type}{R:d->V->Prop}{H:Hp}{f:Ly (T3a d)}{xs:Ly V}{t:T3a d}{r:HR}{u:V}(h:FmL R H f xs)(l:H r=Lh (.tup [.int t.1,.int t.2.1,u]))(q:R t.2.2 u):FmL R H (f++[t]) (xs++[.ref r]):=by
 refine⟨by simp[h.1],λi v e=>?_⟩;by_cases hi:i<⇑f
 .rw[ji hi]at e;let(k,j,a,b,c):=h.2 i v e;exact⟨k,j,by rw[ji (by rw[h.1];exact hi)];exact a,b,c⟩
 .let g:i=⇑f:=by
   let:=(HG.mp e).1;simp at this;lia
  subst g;simp at e;subst e;calc⟨r,u,by rw[←h.1];simp,l,q⟩
theorem FmL.init{g:Type}{R:g->V->Prop}{H:Hp}{f:Ly (T3a g)}{xs:Ly V}{t:T3a g}(h:FmL R H (f++[t]) xs):∃(ys:Ly V)(r:HR)(u:V),xs=ys++[.ref r]/\FmL R H f ys/\H r=Lh (.tup [.int t.1,.int t.2.1,u])/\R t.2.2 u:=by
 let(r,u,a,b,c):=h.2 ⇑f t (by simp);let j:=h.1;rw[dy,iU]at j;rcases wM xs with d|⟨ys,y,d⟩
 .subst d;simp at j
 .rw[wN]at d;subst d;let k:⇑ys=⇑f:= ~~~j
  rw[←k]at a;simp at a;subst a;calc⟨ys,r,u,U,⟨k,λi v e=>?_⟩,b,c⟩;let hi:=(HG.mp e).1;let(n,m,l,p,o):=h.2 i v (by rw[ji hi];exact e);rw[ji ∅]at l;calc⟨n,m,l,p,o⟩
theorem FmL.inj{m:Type}{R:m->V->Prop}{H:Hp}{f g:Ly (T3a m)}{xs:Ly V}(k:∀x y u,R x u->R y u->x=y)(h:FmL R H f xs)(h':FmL R H g xs):f=g:=by
 refine tX λi=>?_
 cases e:f[i]? with
 |none =>
  let:⇑f<=i:=List.getElem?_eq_none_iff.mp e;rw[List.getElem?_eq_none_iff.mpr (by rw[←h'.1,h.1];exact this)]
 |some t =>
  let hi:=(HG.mp e).1;let(j,n):∃j,g[i]?=Lh j:=⟨_,HF (l:=g) (i:=i) (by rw[←h'.1,h.1];exact hi)⟩;let(r,u,a,b,c):=h.2 i t e;let(B,v,p,d,o):=h'.2 i _ n;rw[a]at p;cases p;rw[b]at d;let(A,z,w):=t;let(E,D,C):=j;simp only at d c o;injection d with d;injection d with d;simp only[List.cons.injEq,V.int.injEq,and_true]at d;let(s,q,rfl):=d;rw[n,s,q,k _ _ _ c o]
theorem FmV.inj{K:W.Frag}{L:Type} [DecidableEq L] {A:Lfp K L}{H:Hp}(e:nI K H):∀{n:Nat}{f g:Fm L n}{v:V},FmV A H n f v->FmV A H n g v->f=g
 |0,_,_,_,h,h'=>A.inj e h h'
 |n+1,_,_,_,h,h'=>by
  let(a,xs,l,k,j):=h;let(o,m,c,b,d):=h';rw[l]at c;cases c;rw[k]at b;cases b;calc FmL.inj (R:=FmV A H n) (λx y u q i=>FmV.inj e q i) j d
theorem FmL.deq{D:Type} [DecidableEq D] {R:D->V->Prop}{K:W.Frag}{H:Hp}{m:Nat}{f g:Ly (T3a D)}{xs ys:Ly V}(inj:∀x y u,R x u->R y u->x=y)(k:∀x y u v,R x u->R y v->fq K H m u v (Lm<|x=y))
  (h:FmL R H f xs)(h':FmL R H g ys):(∀(j:Nat)(x y:V),xs[j]?=Lh x->ys[j]?=Lh y->fq K H (m+1) x y (Lm<|f[j]?=g[j]?))/\((List.range<|min ⇑xs ⇑ys).all (λj=>decide<|f[j]?=g[j]?) && ⇑xs == ⇑ys)=Lm (f=g):=by
 refine⟨λj x y l o=>?_,?_⟩
 .let S:j<⇑f:=by rw[←h.1];exact(HG.mp l).1
  let F:j<⇑g:=by rw[←h'.1];exact(HG.mp o).1
  let L:=HF S;let J:=HF F;let(r,u,a,b,c):=h.2 j _ L;let(P,G,M,p,E):=h'.2 j _ J;rw[l]at a;cases a;rw[o]at M;cases M;rw[L,J];generalize f[j]=t at *
  generalize g[j]=t' at *
  let(w,s,B):=t;let(A,z,C):=t';simp only at b p c E;by_cases I:r=P
  .subst I;rw[b]at p;injection p with p;injection p with p;simp only[List.cons.injEq,V.int.injEq,and_true]at p;let(O,N,rfl):=p;let:decide (Lh (w,s,B)=Lh (A,z,C))=true:=by rw[O,N,inj _ _ _ c E];simp
   rw[this];exact .of<|.same r
  .let d:=fq.tup (K:=K) (H:=H) (n:=m) (f:=λi=>match i with|0=>decide (w=A)|1=>decide (s=z)|_=>decide<|B=C) I (SqT.of b) (SqT.of p) λi x y l o=>?_
   .let e:((List.range<|min [V.int w,V.int s,u].length [V.int A,V.int z,G].length).all (λi=>match i with|0=>decide (w=A)|1=>decide (s=z)|_=>decide<|B=C) && [V.int w,V.int s,u].length == [V.int A,V.int z,G].length)=Lm (Lh (w,s,B)=Lh (A,z,C)):=by
     show((List.range 3).all (λi=>match i with|0=>decide (w=A)|1=>decide (s=z)|_=>decide<|B=C) && Lj)=_;let:List.range 3=[0,1,2]:=rfl;rw[this];simp only[tw,List.all_nil,Bool.and_true,Option.some.injEq,Prod.mk.injEq,Bool.decide_and]
    rw[e]at d;exact d
   .match i,l,o with
    |0,l,o=>cases l;cases o;exact .of<|.flat U U
    |1,l,o=>cases l;cases o;exact .of<|.flat U U
    |2,l,o=>cases l;cases o;exact k _ _ _ _ c E
    |i+3,l,_=>simp at l
 .rw[h.1,h'.1];by_cases e:f=g
  .subst e;simp
  .rw[Lu e];by_cases Q:⇑f=⇑g
   .rw[Bool.and_eq_false_iff];left
    refine EH.mpr λq=>e<|tX λi=>?_
    rw[jX]at q;by_cases hi:i<⇑f
    .exact Lv<|q i<|jV.mpr ∅
    .rw[List.getElem?_eq_none_iff.mpr ∅,List.getElem?_eq_none_iff.mpr ∅]
   .simp[Q]
theorem FmV.deq{K:W.Frag}{L:Type} [DecidableEq L] {A:Lfp K L}{H:Hp}(j:nI K H):∀{n:Nat}{f g:Fm L n}{u v:V},FmV A H n f u->FmV A H n g v->fq K H (2*n+2) u v (Lm<|f=g)
 |0,f,g,_,_,h,h'=>A.deq j h h'
 |n+1,f,g,_,_,h,h'=>by
  let(a,xs,rfl,l,k):=h;let(b,r,rfl,c,i):=h';let(p,o):=FmL.deq (R:=FmV A H n) (K:=K) (m:=2*n+2) (λx y u q d=>FmV.inj j q d) (λx y u v q d=>FmV.deq j q d) k i;by_cases e:a=b
  .subst e;rw[l]at c;cases c;let:f=g:=FmL.inj (R:=FmV A H n) (λx y u q d=>FmV.inj j q d) k i;rw[Ls this];exact .of<|.same a
  .let:=fq.tup e (SqT.of l) (SqT.of c) p;rw[o]at this;calc this
def pX{f:HN->HN->Sem HN}{r e:R2}(a:OpR X f r)(b:OpR X f e):OpR X f (λx y H Q=>r x y H Q\/e x y H Q):=λLn s σ H x y v u Q I d c h=>h.elim (a Ln s σ H x y v u Q I d c)<|b Ln s σ H x y v u Q I d c
def uz{k:Nat}(c:bT k X.A):OpR X (IV .Eq) (rFm X.K):=λLn s σ H x y v u Q I b a h=>pX cb (BQ c) Ln s σ H x y v u Q I b a<|h<|C9 I
def yk{k:Nat}(c:bT k X.A):OpR X (IV .NotEq) (BS X.K):=λLn s σ H x y v u Q I b a h=>pX l7 (BR c) Ln s σ H x y v u Q I b a<|h<|C9 I
theorem FmV.eq_to{K:W.Frag}{L:Type} [DecidableEq L] {A:Lfp K L}{H:Hp}{Q:VK}:∀{n:Nat}{f g:Fm L n}{u v:V},n<=20->FmV A H n f u->FmV A H n g v->Q (.bl<|Lm<|f=g) H->rFm K u v H Q
 |0,f,g,_,_,_,h,h',q=>λc=>A.eq c h h' q
 |n+1,f,g,_,_,hn,h,h',q=>λc=>by
  let(a,xs,rfl,o,l):=h;let(b,k,rfl,i,e):=h';let(t,s):=FmL.deq (R:=FmV A H n) (K:=K) (m:=2*n+2) (λx y u q d=>FmV.inj c q d) (λx y u v q d=>FmV.deq c q d) l e;calc .inr <| .tt a b xs k U U (SqT.of o) (SqT.of i) _ (λj x y r p=>(t j x y r p).mono ∅) ?_;rw[Lp ⋯,s];calc q
theorem InB.length{a:Ly Int}{ps:Ly (Int×Int)}(h:InB a ps):⇑a=⇑ps:=by
 induction h with
 |nil=>rfl
 |cons _ _ _ b=>rw[ik,ik,b]
theorem InB.get{g:Ly Int}{ps:Ly (Int×Int)}(h:InB g ps):∀(j:Nat)(c:Int)(p:Int×Int),g[j]?=Lh c->ps[j]?=Lh p->p.1<=c/\c<=p.2:=by
 induction h with
 |nil=>intro j c p e;simp at e
 |cons a b _ i =>
  intro j c p f d
  match j,f,d with
  |0,f,d=>cases f;cases d;exact⟨a,b⟩
  |j+1,f,d=>calc i j c p (~~~f) (~~~d)
theorem FmV.ne_to{K:W.Frag}{L:Type} [DecidableEq L] {A:Lfp K L}{H:Hp}{Q:VK}:∀{n:Nat}{f g:Fm L n}{u v:V},n<=20->FmV A H n f u->FmV A H n g v->Q (.bl<|!Lm (f=g)) H->BS K u v H Q
 |0,f,g,_,_,_,h,h',q=>λc=>A.ne c h h' q
 |n+1,f,g,_,_,hn,h,h',q=>λc=>by
  let(a,xs,rfl,o,l):=h;let(b,k,rfl,i,e):=h';let(t,s):=FmL.deq (R:=FmV A H n) (K:=K) (m:=2*n+2) (λx y u q d=>FmV.inj c q d) (λx y u v q d=>FmV.deq c q d) l e;calc .inr <| .tt a b xs k U U (SqT.of o) (SqT.of i) _ (λj x y r p=>(t j x y r p).mono ∅) ?_;rw[Lq U,s];calc q
theorem ym(x y:Int):decide (V.int x=V.int y)=Lm (x=y):=by
 by_cases e:x=y
 .rw[Ls e,e];simp
 .rw[Lu e];calc Lu λz=>e<|V.int.inj z
theorem yn(x y:Int):eqV (.int x) (.int y)=Lm (x=y):=by
 show((x:Int) == (y:Int))=Lm (x=y);by_cases e:x=y
 .rw[Ls e,e];simp
 .rw[Lu e];calc beq_eq_false_iff_ne.mpr e
def nJ{K:W.Frag}:Lfp K Int where
 R _ x v:=v=.int x
 mono _ h:=h
 inj _ h h':=V.int.inj (h.symm.trans h')
 deq {H x y u v} _ h h':=by
  cases h;cases h';rw[←yn];exact .of (.flat U U)
 eq {H x y u v Q} _ h h' q:=by
  cases h;cases h';calc .inl ⟨U,?_⟩;rw[ym];exact q
 ne {H x y u v Q} _ h h' q:=by
  cases h;cases h';calc .inl ⟨U,?_⟩;rw[ym];calc q
abbrev SI2:=Str×Int
def tp2(p:SI2):Ly V:=[.str p.1,.int p.2]
theorem zJ{p q:SI2}(h:tp2 p=tp2 q):p=q:=by
 injection h with b a;injection a with a c;calc Prod.ext (V.str.inj b)<|V.int.inj a
def Vd(K:W.Frag)(H:Hp)(r:HR)(x:SI2):Prop:=H r=Lh (.tup<|tp2 x)\/ModT K r (tp2 x)
theorem Vd.sq{K:W.Frag}{H:Hp}{r:HR}{x:SI2}(h:Vd K H r x):SqT K H r (tp2 x):=h.elim (λh=>SqT.of h) λh=>h.sq H
def Vd.mono{K:W.Frag}{H H':Hp}{r:HR}{x:SI2}(s:cG H H')(h:Vd K H r x):Vd K H' r x:=h.imp (λh=>s _ _ h) id
def Vd.inj{K:W.Frag}{H:Hp}{r:HR}{x y:SI2}(a:nI K H)(h:Vd K H r x)(h':Vd K H r y):x=y:=zJ<|a r _ _ h.sq h'.sq
theorem BU(x y:Str):eqV (.str x) (.str y)=Lm (x=y):=by show(x == y)=_;rw[Bool.eq_iff_iff];simp
def fSI(x y:SI2)(j:Nat):Bool:=if j=0 then decide (x.1=y.1)else decide (x.2=y.2)
theorem qx(x y:SI2):((List.range<|min ⇑(tp2 x) ⇑(tp2 y)).all (fSI x y) && ⇑(tp2 x) == ⇑(tp2 y))=Lm (x=y):=by
 show((List.range 2).all (fSI x y) && (2 == 2:Bool))=_;let(d,c):=x;let(b,a):=y;unfold fSI;by_cases f:d=b <;> by_cases e:c=a <;> simp[mu,f,e]
theorem uA{K:W.Frag}{H:Hp}{n:Nat}{x y:SI2}(j:Nat)(u v:V)(a:(tp2 x)[j]?=Lh u)(b:(tp2 y)[j]?=Lh v):fq K H n u v (fSI x y j):=by
 match j,a,b with
 |0,a,b =>
  cases a;cases b;show fq K H n _ _ (Lm<|x.1=y.1);rw[←BU];exact .of<|.flat U U
 |1,a,b =>
  cases a;cases b;show fq K H n _ _ (Lm<|x.2=y.2);rw[←yn];exact .of<|.flat U U
 |j+2,a,_=>simp[tp2]at a
theorem Vd.deq{K:W.Frag}{H:Hp}{n:Nat}{a b:HR}{x y:SI2}(c:nI K H)(h:Vd K H a x)(h':Vd K H b y):fq K H (n+1) (.ref a) (.ref b) (Lm<|x=y):=by
 by_cases e:a=b
 .subst e;rw[Ls (Vd.inj c h h')];exact .of<|.same a
 .let:=fq.tup (n:=n) e h.sq h'.sq (f:=fSI x y) uA;rw[qx]at this;calc this
def LVd{K:W.Frag}:Lfp K SI2 where
 R H x v:=∃r,v=.ref r/\Vd K H r x
 mono s:=λ⟨r,e,h⟩=>⟨r,e,h.mono s⟩
 inj {H x y v} hT h a:=by
  let(r,rfl,h):=h;let(b,e,a):=a;cases e;exact Vd.inj hT h a
 deq {H x y u v} hT h a:=by
  let(r,rfl,h):=h;let(b,rfl,a):=a;exact Vd.deq (n:=1) hT h a
 eq {H x y u v Q} hT h a q:=by
  let(r,rfl,h):=h;let(b,rfl,a):=a;calc .inr<|.tt r b _ _ U U h.sq a.sq (fSI x y) uA ?_;rw[Lp ⋯,qx];exact q
 ne {H x y u v Q} hT h a q:=by
  let(r,rfl,h):=h;let(b,rfl,a):=a;calc .inr<|.tt r b _ _ U U h.sq a.sq (fSI x y) uA ?_;rw[Lq U,qx];calc q
theorem pY(p:Pos)(a b:Int)(c:HN):∀(l:Ly HN),TriplesOk l->Lf p (l++[IL a,IL b,c])=(Lf p l).or (Lf p [IL a,IL b,c])
 | [],_=>rfl
 | .int x t :: .int y u :: d :: rest,h=>by
  let e:=pY p a b c rest h;show Lf p (.int x t :: .int y u :: d :: (rest++[IL a,IL b,c]))=_;rw[Lf,Lf];split
  .rfl
  .exact e
def TabOk(H:Hp)(P:HR)(L:Ly (Pos×Str)):Prop:=∃a,H P=Lh (.tbl a)/\TriplesOk a.toList/\∀p∈L,Lf p.1 a.toList=Li\/∃(c:HR)(b:Obj),Lf p.1 a.toList=↑c/\H c=Lh (.frz b TTh)/\rX b p.2
theorem TabOk.same{H H':Hp}{P:HR}{L:Ly (Pos×Str)}(h:TabOk H P L)(s:ar H H'):TabOk H' P L:=by
 let(e,j,i,g):=h;calc⟨e,s _ _ j,i,λp f=>(g p f).imp id λ⟨c,o,a,b,d⟩=>⟨c,o,a,s _ _ b,d⟩⟩
def TabOk.new{H:Hp}{P:HR}{L:Ly (Pos×Str)}(h:H P=Lh (.tbl #[])):TabOk H P L:=⟨#[],h,trivial,λ_ _=>.inl U⟩
def ED(P:HR)(pos:Pos)(qual:Str)(mk:HN->HR->HN->Obj)(clos:Ly (Str×HR)):TE:=λ_ H Q=>∃L,(pos,qual)∈L/\(∀p∈L,p.1.line=pos.line->p.1.col=pos.col->p.2=qual)/\TabOk H P L /\
 ∀(f g:HR)(e:Obj)(h d:HN)(c:Hp),H f=Li->(∀b o,b≠P->H b=Lh o->c b=Lh o)->c f=Lh (.frz (mk h g d) TTh)->c g=Lh (.frz e TTh)->rX e qual->TabOk c P L->(∀x y a,clos.lookup x=Lh a->clos.lookup y=Lh a->x=y)->Q (.ref f) c
theorem yp{params:Jo}{body:Ij}{scope:Ic}{pos:Pos}{c P:HR}{clos:Ly (Str×HR)}(AN:X.env.code=.ref c)
  (C:W.CodeHd X.base c P)(hb:X.base.BuiltinsAt X.mg P)(Z:JE scope X.env=pure clos)(V:∀p∈clos,X.env.cells.lookup p.1=Lh p.2)(Dc:defaultsOf params X.env=([],[]):=by rfl) :
  PE X (.Lambda params body scope pos) (ED P pos (X.env.qual ++ "<lambda>") (λpm c' ctv=>W.kla_obj "<lambda>" (X.env.qual ++ "<lambda>") params body scope clos pm c' ctv) clos):=by
 intro Ln s σ H Q I h;let(L,hL,b3,(A,B,R,K),k):=h;let E:s.heap.get? P=Lh (W.tabObj A):=I.hok P _ B;let M:s.heap.Ns HX X.mg:=I.mod.glob.keeps I.bk;let b0:HX≠P:=λq=>by
  let(o,es,ep,e,O,_):=M;rw[q,E]at e;cases e;cases O
 let inj:∀x y a,clos.lookup x=Lh a->clos.lookup y=Lh a->x=y:=λx y a G h2=>I.ok.inj x y a (V _<|mem_of_lookup G)<|V _<|mem_of_lookup h2
 rcases K _ hL with a9|⟨c',l,hf,N,D⟩
 .refine W.kla_eval Dc<|W.kla_makeFunction Z I.ok.glob M AN (C.keeps I.bk) E R a9 b0 (hb.keeps I.bk) λc' ctv g tk a7 m T EE S=>?_;let(b4,l,vs,t,e2,a8,b1,hv):=EE;cases e2;let Y:∀b,↥s<=b->H b=none:=λb f=>I.hok.fresh f
  let a0:P<↥s:=HS.lt_size E;let a6:c'≠P:=λz=>by rw[z]at m;exact Lr a0<|Nat.not_lt.mpr m
  let i:↥s<=g.objs.size:=yW m<|zz T;let a5:g.objs.size≠P:=λz=>by rw[z]at i;exact Lr a0<|Nat.not_lt.mpr i
  let a4:g.objs.size≠c':=zl T;let r:=Y _ i;let N:=Y _ m;let j:∀{b:HR}{u:HO},b≠P->H b=Lh u->upd (upd (upd H P<|.tbl<|A ++ #[IL pos.line,IL pos.col,.ref c']) c'<|.frz l TTh) g.objs.size (.frz (W.kla_obj "<lambda>" (X.env.qual ++ "<lambda>") params body scope clos ((X.mg "__name__").getD .none) c' ctv) TTh) b=Lh u:=λ{b u} f e=>by
   rw[ay (aU e r),ay<|aU e N,ay f];exact e
  let a2:upd (upd (upd H P<|.tbl<|A ++ #[IL pos.line,IL pos.col,.ref c']) c'<|.frz l TTh) g.objs.size (.frz (W.kla_obj "<lambda>" (X.env.qual ++ "<lambda>") params body scope clos ((X.mg "__name__").getD .none) c' ctv) TTh) P=Lh (.tbl<|A ++ #[IL pos.line,IL pos.col,.ref c']):=by
   rw[ay a5.symm,ay a6.symm,ae]
  let J:∀{b:HR},H b=Li->b≠P:=λe z=>by rw[z,B]at e;cases e
  let keep:∀b o,b≠P->s.heap.get? b=Lh o->(g.push<|W.kla_obj "<lambda>" (X.env.qual ++ "<lambda>") params body scope clos ((X.mg "__name__").getD .none) c' ctv).get? b=Lh o:=λb o f e=>HS.get?_push_of_some _<|a7 b o f e
  let un:Un X.fs [] H (upd (upd (upd H P<|.tbl<|A ++ #[IL pos.line,IL pos.col,.ref c']) c'<|.frz l TTh) g.objs.size<|.frz (W.kla_obj "<lambda>" (X.env.qual ++ "<lambda>") params body scope clos ((X.mg "__name__").getD .none) c' ctv) TTh) s.heap (g.push<|W.kla_obj "<lambda>" (X.env.qual ++ "<lambda>") params body scope clos ((X.mg "__name__").getD .none) c' ctv):=by
   refine⟨λb o e n _ _=>keep b o (J n) e,λb o e n _ _=>⟨o.slots,keep b o (J n) e⟩,λb o e n _=>?_,λb o e _=>?_,λb xs e=>j (λz=>by rw[z,B]at e;cases e) e,λb o u e=>j (λz=>by rw[z,B]at e;cases e) e,λb a3 e=>?_⟩
   .let f:=HS.lt_size e;rw[ay (yl<|zb f i),ay<|yl<|zb f m,ay (J n)];exact n
   .by_cases f:b=P
    .subst f;exact⟨_,HS.get?_push_of_some _ S⟩
    .exact⟨o,keep b o f e⟩
   .by_cases f:b=P
    .subst f;rw[B]at e;cases e;exact⟨_,a2⟩
    .exact⟨#[],by rw[j f e];simp⟩
  let hok:HOk X.prog X.w (upd (upd (upd H P<|.tbl<|A ++ #[IL pos.line,IL pos.col,.ref c']) c'<|.frz l TTh) g.objs.size<|.frz (W.kla_obj "<lambda>" (X.env.qual ++ "<lambda>") params body scope clos ((X.mg "__name__").getD .none) c' ctv) TTh) (g.push<|W.kla_obj "<lambda>" (X.env.qual ++ "<lambda>") params body scope clos ((X.mg "__name__").getD .none) c' ctv):=λb u e=>by
   by_cases G:b=g.objs.size
   .subst G;rw[ae]at e;cases e;exact rW<|HS.get?_push_size _ U
   rw[ay G]at e;by_cases h2:b=c'
   .subst h2;rw[ae]at e;cases e;exact rW<|HS.get?_push_of_some _ a8
   rw[ay h2]at e;by_cases h3:b=P
   .subst h3;rw[ae]at e;cases e;exact HS.get?_push_of_some _ S
   rw[ay h3]at e;refine(I.hok b u e).stay (λd v O q=>keep d v ?_ q) (λd q=>j (λz=>by rw[z,B]at q;cases q) q) λd xs q=>j (λz=>by rw[z,B]at q;cases q) q
   rcases O with rfl|O
   .exact h3
   .exact λz=>by rw[z,B]at O;cases O
  let I2:=I.un (t':=tk) un hok;let D:rX l (X.env.qual ++ "<lambda>"):=⟨vs,t,b1,hv⟩;let a1:upd (upd (upd H P<|.tbl<|A ++ #[IL pos.line,IL pos.col,.ref c']) c'<|.frz l TTh) g.objs.size (.frz (W.kla_obj "<lambda>" (X.env.qual ++ "<lambda>") params body scope clos ((X.mg "__name__").getD .none) c' ctv) TTh) c'=Lh (.frz l TTh):=(ay a4.symm).trans ae;refine⟨.ref g.objs.size,_,I2,U,k _ c' l _ ctv _ r (λb o f e=>j f e) ae a1 D ⟨_,a2,?_,λp hp=>?_⟩ inj⟩
  .rw[Ee];exact TriplesOk_snoc _ _ _ _ R
  .rw[Ee];show Lf p.1 (A.toList++[IL pos.line,IL pos.col,.ref c'])=Li\/∃(d:HR)(l:Obj),Lf p.1 (A.toList++[IL pos.line,IL pos.col,.ref c'])=↑d/\_;rw[pY _ _ _ _ _ R];rcases K p hp with q|⟨d,od,q1,q2,q3⟩
   .rw[q];show Lf p.1 [IL pos.line,IL pos.col,.ref c']=Li\/∃(d:HR)(l:Obj),Lf p.1 [IL pos.line,IL pos.col,.ref c']=↑d/\_;by_cases e:p.1.line=pos.line/\p.1.col=pos.col
    .let e3:Lf p.1 [IL pos.line,IL pos.col,.ref c']=↑c':=by
      show(if ((pos.line:Int) == (p.1.line:Int) && (pos.col:Int) == (p.1.col:Int))=Lj then Lh (HN.ref c')else Li)=_;rw[e.1,e.2];simp
     exact .inr ⟨c',l,e3,a1,by rw[b3 p hp e.1 e.2];exact D⟩
    .left
     show(if ((pos.line:Int) == (p.1.line:Int) && (pos.col:Int) == (p.1.col:Int))=Lj then Lh (HN.ref c')else Li)=Li;rw[Lp λz=>e ?_];rw[EA,beq_iff_eq,beq_iff_eq]at z;lia
   .exact .inr ⟨d,od,by rw[q1];rfl,j (λz=>by rw[z,B]at q2;cases q2) q2,q3⟩
 .refine W.kla_eval Dc<|W.kla_makeFunctionHit Z I.ok.glob M AN (C.keeps I.bk) E R hf (hb.keeps I.bk) λctv g tk kp i=>?_;let r:H g.objs.size=none:=I.hok.fresh i;let F:ar H (upd H g.objs.size<|.frz (W.kla_obj "<lambda>" (X.env.qual ++ "<lambda>") params body scope clos ((X.mg "__name__").getD .none) c' ctv) TTh):=ai r _;let keep:∀b o,s.heap.get? b=Lh o->(g.push<|W.kla_obj "<lambda>" (X.env.qual ++ "<lambda>") params body scope clos ((X.mg "__name__").getD .none) c' ctv).get? b=Lh o:=λb o e=>HS.get?_push_of_some _<|kp b o e
  let un:Un X.fs [] H (upd H g.objs.size<|.frz (W.kla_obj "<lambda>" (X.env.qual ++ "<lambda>") params body scope clos ((X.mg "__name__").getD .none) c' ctv) TTh) s.heap (g.push<|W.kla_obj "<lambda>" (X.env.qual ++ "<lambda>") params body scope clos ((X.mg "__name__").getD .none) c' ctv):=by
   refine⟨λb o e n _ _=>keep b o e,λb o e n _ _=>⟨o.slots,keep b o e⟩,λb o e n _=>?_,λb o e _=>⟨o,keep b o e⟩,λb xs e=>F _ _ e,λb o u e=>F _ _ e,λb a3 e=>⟨#[],by rw[F _ _ e];simp⟩⟩;let f:=HS.lt_size e;rw[ay (yl<|zb f i)];exact n
  let hok:HOk X.prog X.w (upd H g.objs.size<|.frz (W.kla_obj "<lambda>" (X.env.qual ++ "<lambda>") params body scope clos ((X.mg "__name__").getD .none) c' ctv) TTh) (g.push<|W.kla_obj "<lambda>" (X.env.qual ++ "<lambda>") params body scope clos ((X.mg "__name__").getD .none) c' ctv):=λb u e=>by
   by_cases G:b=g.objs.size
   .subst G;rw[ae]at e;cases e;exact rW<|HS.get?_push_size _ U
   rw[ay G]at e;exact(I.hok b u e).stay (λd v _ q=>keep d v q) (λd q=>F _ _ q) λd xs q=>F _ _ q
  let I2:=I.un (t':=tk) un hok;calc⟨.ref g.objs.size,_,I2,U,k _ c' l _ ctv _ r (λb o _ e=>F _ _ e) ae (F _ _ N) D (TabOk.same ⟨A,B,R,K⟩ F) inj⟩
theorem BV{CX:CXT}{P:HQ}{w:HP}{K:W.Frag}{mg:Str->Option HN}{base:HS}{k:Nat}{f c':HR}{name qual:Str}{params:Jo}{body:Ij}{scope:Ic}{cl:Ly (Str×HR)}{pm ctv:HN}{N ps:Ly Str}{sp:Sp}
  (S:qu N ps scope cl)(inj:∀x y c,cl.lookup x=Lh c->cl.lookup y=Lh c->x=y)
  (len:∀vs H Q E,sp vs H Q E->⇑vs=⇑ps)
  (fc:∀(A:Ia)(g:Ly Env)(s:Ib)(H:Hp)(vs:Ly V)(Q:VK)(E:XK),bT k (A.deeper<|W.envX qual scope ↥s f (.ref c') cl)->sp vs H Q E ->
   (∃M,H f=Lh (.frz (W.kla_obj name qual params body scope cl pm c' ctv) TTh)/\H c'=Lh (.frz M TTh)/\rX M qual)/\∃ws,fR H cl ws/\(∀x∈N.drop ⇑ps,∀v,ws.lookup x=Lh v->scope.names.lookup x=Lh .free) /\
   ((∀c∈cl.map (·.2),base.get? c=Li/\c ∉ frs g)->∃t:TE,PE (cxC CX P w K mg base N qual scope f (.ref c') cl A g s H E) body t/\t (lL N ps vs ws) (hideL H (cl.map (·.2))) λv H'=>(∀c∈cl.map (·.2),H' c=Li)->Q v (backL H H' (cl.map (·.2))))) :
  aK P w K mg base CX (k+1) f (W.kla_fn name qual params body scope cl pm (.ref c') ctv) ps sp:=by
 calc⟨len,λA g s H b0 us vs Q E hr l hb r R=>?_⟩;let hl:=len _ _ _ _ R;let((M,ef,ec,a0,t',a7,a6),ws,Y,uR,Dd):=fc A g s H vs Q E (hr.deeper _) R;let(t,ht,hq):=Dd λc D=>by
  let(o,e):=Y.fzs c D;refine⟨?_,λz=>by rw[l.frf c z]at e;cases e⟩;cases eb:base.get? c with
  |none=>rfl
  |some ob=>rw[(l.bs c ob eb).2]at e;cases e
 let a2:s.heap.NoLimit:=l.mod.nolimit.keeps λb o e=>(l.bs b o e).1
 let eo:s.heap.get? f=Lh (W.kla_obj name qual params body scope cl pm c' ctv):=(l.hok f _ ef).1;let a9:s.heap.get? c'=Lh M:=(l.hok c' _ ec).1;let a3:⇑us=⇑ps:=by rw[←⇑r];exact hl
 let a1:ps.Nodup:=by rw[←S.pre];exact S.nd.sublist<|tu _ _
 let fz:=Y.fzs;let T:∀{x:Str}{c:HR},cl.lookup x=Lh c->c∈cl.map (·.2):=λe=>nE e
 calc W.kla_callFunE hr.depth eo U S.co S.gen U ⟨c',M,a0,t',U,a9,a7,a6⟩<|hb _ _ _ _ ?_;calc JK S.nocell (λx n=>S.par x.1 (vr n).1) (λB a5 a4=>?_) S.kind;let j:∀b o,s.heap.get? b=Lh o->B.get? b=Lh o:=λb o e=>a4.extBut b o (yl<|HS.lt_size e)<|HS.get?_push_of_some _ e
 calc⟨a2.keeps j,W.kla_codeExpr ?_⟩;let G:∀{b:HR},H b=Li->hideL H (cl.map (·.2)) b=none:=λh=>d9 h
 let I:Inv (cxC CX P w K mg base N qual scope f (.ref c') cl A g s H E) [] (lL N ps vs ws) (hideL H (cl.map (·.2))) { s with heap:=B,toks:=s.toks+⇑(ps.zip us) }:=by
  let F:∀b:HR,b ∉ (cxC CX P w K mg base N qual scope f (.ref c') cl A g s H E).ex:=λb z=>Lr (show b∈([]:Ly HR)from z) (by simp)
  refine⟨⟨l.mod,S.kind,U,U,xX _,λx y c L m=>inj x y c L m,λx n=>?_,λx c hf=>?_,λ_=>hr.hd,Ia.frames_deeper l.frames,.inr ⟨U,U⟩,λb z=>Lr z<|F b,λb o e=>⟨(l.bs b o e).1,G (l.bs b o e).2⟩,l.bsz,λb _ _=>F b,λb z=>Lr z<|F b,l.funs,λb hb=>G<|l.frf b hb⟩,
   rfl,l.bare,Un.kept j,⟨_,a5,λi x v L m h3=>?_⟩,λx c h=>?_,G<|l.hok.fresh<|xX _,λx c h=>iF<|T h,λp Z=>Lr (show p∈([]:Ly (HR×Obj))from Z) (by simp),(l.hok.hideL fz).kept j,?_⟩
  .let n:scope.names.lookup x=Lh .cell\/scope.names.lookup x=Lh .free:=n;rcases n with n|n
   .exact Lr U<|S.nocell _<|mem_of_lookup n
   .exact S.has _ (mem_of_lookup n) U
  .exact Lr (show Ll=Lj from hf) Bool.false_ne_true
  .let L:N[i]?=Lh x:=L;unfold lL at m;by_cases hi:i<⇑vs
   .rw[ji (~~~hi),jj]at m;let ha:vs[i]?=Lh v:=by
     cases e:vs[i]? with
     |none=>rw[e]at m;cases m
     |some a=>rw[e]at m;cases m;rfl
    let(u,hu,C):=r.get ha;let Z:ps[i]?=Lh x:=by rw[←S.pre,List.getElem?_take_of_lt ∅];exact L
    exact⟨u,C,.inl ⟨S.par x<|HH Z,uy a1 Z hu a3⟩⟩
   .rw[kq (~~~hi),jj,bc]at m;cases e:(N.drop ⇑ps)[i-⇑vs]? with
    |none=>rw[e]at m;cases m
    |some y =>
     rw[e]at m;let m:Lh (ws.lookup y)=Lh (Lh v):=m;let m:=Option.some.inj m;let hy:y=x:=by
      rw[List.getElem?_drop,show ⇑ps+(i-⇑vs)=i by lia,L]at e;exact(Option.some.inj e).symm
     subst hy;let(c,o,u,e1,e2,e3,C):=Y.2 y v m;exact⟨u,C,.inr ⟨.inr<|uR y (HH e) v m,c,e1,o,j _ _ (l.hok c _ e2).1,e3⟩⟩
  .let(o,v,e,d):=Y.1 c<|T h;exact⟨v,o,j _ _ (l.hok c _ e).1,d⟩
  .unfold lL;show _=N.length;let b1:⇑ps<=N.length:=by have:=Lw List.length S.pre;rw[iT]at this;lia
   rw[dy,bc,bc,wh];lia
 refine Ip (ht [] _ (lL N ps vs ws) _ _ I hq) (λu X hs=>?_) λe X hs=>hs
 let a8:∀{O:St}{H':Hp}{v:V}{u:HN},Inv (cxC CX P w K mg base N qual scope f (.ref c') cl A g s H E) [] O H' X->RelV v u->((∀c∈cl.map (·.2),H' c=Li)->Q v (backL H H' (cl.map (·.2))))->CE g P w H s Q u X:=λ{O H' v u} J C q=>by
  let un:Un (frs g) [] (hideL H (cl.map (·.2))) H' s.heap X.heap:=J.base;let nc:∀c∈cl.map (·.2),H' c=none:=λc D=>by
   let((x,d),hm,rfl):=iv.mp D;let(o,e):=fz d D;exact un.free d o (l.hok d _ e).1 (iF D) (by simp)
  calc⟨v,backL H H' (cl.map (·.2)),J.os,J.bare,un.backL fz,J.hok.backL fz nc λc D o e=>?_,C,q nc⟩;refine un.keep c o (l.hok c _ e).1 (iF D) (λz=>?_) (by simp);rw[l.frf c z]at e;cases e
 let(v,H',J,C,q):=hs;calc a8 J C q
def AO(st:Io)(k:Nat):Ij:=match st with
 | .Assign _ (.Call _ as _ _) _=>as.getD k<|.Name "" ⟨0,0,0,0⟩
 | .Return (Lh<|.Call _ as _ _) _=>as.getD k<|.Name "" ⟨0,0,0,0⟩
 |_=>.Name "" ⟨0,0,0,0⟩
def qy(e:Ij):Jo:=match e with
 | .Lambda a _ _ _=>a
 |_=>gE<|.Pass ⟨0,0,0,0⟩
def oX(e:Ij):Ij:=match e with
 | .Lambda _ b _ _=>b
 |e=>e
def kG(e:Ij):Ic:=match e with
 | .Lambda _ _ s _=>s
 |_=>ao<|.Pass ⟨0,0,0,0⟩
def oY(e:Ij):Pos:=match e with
 | .Lambda _ _ _ p=>p
 |_=>⟨0,0,0,0⟩
section
variable{mg:Str->Option HN}
theorem yq{qual:Str}{ps:Ly Str}{e:Ij}{f c':HR}{cl:Ly (Str×HR)}{pm ctv:HN}{N:Ly Str}{k:Nat}{sp:Sp}(S:qu N ps (kG e) cl)(inj:∀x y c,cl.lookup x=Lh c->cl.lookup y=Lh c->x=y)
  (m:∀us:Ly HN,⇑us=⇑ps->Jh (W.kla_fn "<lambda>" qual (qy e) (oX e) (kG e) cl pm (.ref c') ctv) ⟨us,[]⟩=pure (ps.zip us))
  (len:∀vs H Q E,sp vs H Q E->⇑vs=⇑ps)
  (z:∀(A:Ia)(d:Ly Env)(s:Ib)(H:Hp)(vs:Ly V)(Q:VK)(E:XK),bT k (A.deeper<|W.envX qual (kG e) ↥s f (.ref c') cl)->sp vs H Q E ->
   ∃ws,jA H f c' (W.kla_obj "<lambda>" qual (qy e) (oX e) (kG e) cl pm c' ctv) qual cl ws/\(∀y∈N.drop ⇑ps,∀v,ws.lookup y=Lh v->(kG e).names.lookup y=Lh .free) /\
   ((∀c∈cl.map (·.2),base.get? c=Li/\c ∉ frs d)->∃t:TE,PE (cxC CX0 P w K mg base N qual (kG e) f (.ref c') cl A d s H E).nox (oX e) t/\t (lL N ps vs ws) (hideL H (cl.map (·.2))) λv H'=>(∀c∈cl.map (·.2),H' c=Li)->Q v (backL H H' (cl.map (·.2))))) :
  HFn P w K mg base (k+1) f sp:=by
 refine⟨_,ps,BV (name := "<lambda>") (qual:=qual) (c':=c') (params:=qy e) (body:=oX e) (pm:=pm) (ctv:=ctv) S inj len λA d s H vs Q E i g=>?_,.all λus j=>?_⟩
 .let(ws,(u,(h,r,q),p),o,n):=z A d s H vs Q E i g;calc⟨⟨h,u,r,q⟩,ws,p,o,λl=>?_⟩;let(t,a,b):=n l;exact⟨t,a.nox,b⟩
 .exact m us j
end
inductive TFn(K:W.Frag)(x:Str)(st:Io):Prop
 |mk {f c t:HR}{fd:Jf}(a:W.nsIn K HX x=Lh ↑f)(F:Fun K x x st f fd)(hc:fd.code=.ref c)(ht:W.tabIn K x=Lh (c,t))
def tfn_mk{K:W.Frag}{x:Str}{st:Io}{f c t:HR}{g kV doc pm n:HN}{d p:Option HR}{b:Array (Option HN)}{j:HN}{i:Option HR}{vs:Array HN}{h:Array (Option HN)}(a:W.nsIn K HX x=Lh ↑f)
  (l:K.lookup f=Lh ⟨g,d,.func<|W.fnOf x x (gE st) (cX st) (ao st) .none kV doc pm p (.ref c) n,b⟩)(o:W.codeIn K (.ref c) x=Lj)(m:W.keepIn K (.ref f)=Lj)(k:K.lookup c=Lh ⟨j,i,.fields vs,h⟩)(e:vs[11]?=↑t):TFn K x st :=
 ⟨a,fun_mk l o m,U,tab_mk a l k e⟩
theorem vm{K:W.Frag}{x:Str}{t:HR×HR}(h:t∈(W.tabIn K x).toList):W.tabIn K x=Lh t:=by
 cases e:W.tabIn K x with
 |none=>rw[e]at h;cases h
 |some z=>rw[e]at h;rw[gZ.mp h]
def tZE(zs:Ly (Str×Nat×HR))(sp:Sp)(E:XK)(t:TA):TE:=λσ H Q=>t σ H λd c=>∀a:Ly Obj,⇑a=⇑zs->(∀z∈zs,c z.2.2=Li) ->
 (∀(j:Nat)(z:Str×Nat×HR),zs[j]?=Lh z->∃o w,a[j]?=Lh o/\o.data=.cell w/\∀v,σ[z.2.1]?=Lh (Lh v)->∃u,w=Lh u/\RelV v u) ->
 sp d (gk c ((zs.map (·.2.2)).zip a)) (λv b=>Q v (hideL b (zs.map (·.2.2)))) λe m b=>E e m (hideL b (zs.map (·.2.2)))
section
variable{mg:Str->Option HN}{qual:Str}{f:HR}{cd:HN}{outer:Ly Env}{s0:Ib}{H0:Hp}{E:XK}
theorem Fun.okTE{x qual:Str}{st:Io}{f c:HR}{b:Jf}{N ps:Ly Str}{k:Nat}{sp:Sp}(F:Fun K x qual st f b)(a:b.code=.ref c)(S:av N ps (ao st))(d:∀vs H Q E,sp vs H Q E->⇑vs=⇑ps)
  (m:∀(A:Ia)(outer:Ly Env)(s:Ib)(H:Hp)(vs:Ly V)(Q:VK)(E:XK),bT k (A.deeper<|envOfC qual (ao st) ↥s f<|.ref c)->sp vs H Q E ->
   ∃t,PSs (cxE P w K mg base N qual (ao st) f (.ref c) A outer s H E) (cX st) t/\t { nx:=λ_ H'=>Q .non H',rt:=Q } (start N vs) H):aK P w K mg base (CX1 P w) (k+1) f b ps sp:=by
 let(u,r,kV,o,p,y,i,v,n,rfl,j,g):=F.ex;let a:i=.ref c:=a;subst a;refine xo j g S d λA outer s H vs Q E l e=>?_
 let(t,h,q):=m A outer s H vs Q E l e;calc⟨t,h.leaves,q⟩
theorem lM.passE{Ln:Ly (HR×Obj)}{σ:St}{H:Hp}{s s':Ib}{g:HN}{fz:Ly (HR×Obj)}(z:lM (cxE P w K mg base N qual scope f cd A outer s0 H0 E) s fz)(I:Inv (cxE P w K mg base N qual scope f cd A outer s0 H0 E) Ln σ H s)
  (h:CX1 P w (cxE P w K mg base N qual scope f cd A outer s0 H0 E).stack (gk H fz) s (λp m t=>E p m (hideL t (fz.map (·.1)))) g s'):(cxE P w K mg base N qual scope f cd A outer s0 H0 E).xe g s':=by
 let(e,T,C,r,u,rfl,i,d,un,hok,x,j,k,l,o,q):=h;let J:=(z.inv I i d un hok).unwish;let a:=(I.unwish).newAt U j;let c:=(I.unwish).newAt U k;calc⟨e,C,r,[T],Ln,σ,_,U,J,.fly x,λb n=>?_,q⟩;rcases bW.mp n with z|z
 .rw[z];exact⟨a.ent,d9 l,a.loc,a.cel,a.pin⟩
 .rw[show b=T by simpa using z];calc⟨c.ent,d9 o,c.loc,c.cel,c.pin⟩
theorem zK{k:Nat}{x:Str}{ps:Ly Str}{sp:Sp}{e:Ij}{es:Ly Ij}{t:TA}{p pos:Pos}{zs:Ly (Str×Nat×HR)}(C:bN P w K mg base k x ps sp)(S:bT k (cxE P w K mg base N qual scope f cd A outer s0 H0 E).A)(V:Gl (cxE P w K mg base N qual scope f cd A outer s0 H0 E) x)(X:PA (cxE P w K mg base N qual scope f cd A outer s0 H0 E) (e :: es) t)
  (hz:∀z∈zs,N[z.2.1]?=Lh z.1/\((cxE P w K mg base N qual scope f cd A outer s0 H0 E).env.scope.names.lookup z.1=Lh .cell\/(cxE P w K mg base N qual scope f cd A outer s0 H0 E).env.scope.names.lookup z.1=Lh .free)/\(cxE P w K mg base N qual scope f cd A outer s0 H0 E).env.cells.lookup z.1=Lh z.2.2/\((cxE P w K mg base N qual scope f cd A outer s0 H0 E).fn z.1=Lj\/(base.get? z.2.2=Li/\z.2.2 ∉ (cxE P w K mg base N qual scope f cd A outer s0 H0 E).fs)))
  (v:(x == ("__debug__" : Str))=false:=by decide) (he:Im (e :: es) (cxE P w K mg base N qual scope f cd A outer s0 H0 E).env=(Ll,eval e (cxE P w K mg base N qual scope f cd A outer s0 H0 E).env) :: Im es (cxE P w K mg base N qual scope f cd A outer s0 H0 E).env:=by rfl)(l:(Il pos<|Im es (cxE P w K mg base N qual scope f cd A outer s0 H0 E).env).any (·.1)=false:=by rfl) :
  PE (cxE P w K mg base N qual scope f cd A outer s0 H0 E) (.Call (.Name x p) (e :: es) [] pos) (tZE zs sp E t):=by
 let(f',Z,F,b,R,m):=C;intro Ln s σ H Q I h;calc HM<|dH I V m ?_ v;calc W.callWith_K (h₀:=base) I.ok.mod.kin R (thn (X pos Ln s σ H _ I h) λg i ⟨L,H1,a,r,q⟩=>⟨a.kIn,?_⟩) he l;let(B,J,G):=lN a zs hz;let y:((zs.map (·.2.2)).zip B).map (·.1)=zs.map (·.2.2):=ua (by rw[bc];lia);let d:=yg a hz J G;let D:=q B J (λz T=>a.freeC z.1 _ (hz z T).2.2.1) λj z Y=>let ⟨o,w,a1,_,a3,a4⟩:=G j z Y;⟨o,w,a1,a3,a4⟩
 let n:⇑g=⇑ps:=by rw[←⇑r];exact F.len _ _ _ _ D
 refine Ji (Jj (F.run (cxE P w K mg base N qual scope f cd A outer s0 H0 E).A (cxE P w K mg base N qual scope f cd A outer s0 H0 E).stack i _ ⟨g,[]⟩ g L _ _ S (d.env0 a) (by have:=b i g a.kIn (by rw[jk];exact n);rw[jk]at this;exact this) r D) λO M c=>?_);cases O with
 |error ev =>
  calc d.passE a ?_;rw[y];exact c
 |ok fl =>
  cases fl with
  |ret u =>
   let c:CE (cxE P w K mg base N qual scope f cd A outer s0 H0 E).stack P w _ i _ u M:=c;calc d.after a ?_;rw[y];exact c
  |next=>exact False.elim c
  |brk=>exact False.elim c
  |cont=>calc False.elim c
end
theorem De{P:HQ}{w:HP}{K:W.Frag}{mg:Str->Option HN}{base:HS}{k:Nat}{x:Str}{ps:Ly Str}{sp:Sp}{st:Io}(Z:Zb P w K mg base)(h:TFn K x st)(i:∀q∈(W.tabIn K x).toList,W.CodeHd base q.1 q.2/\base.BuiltinsAt mg q.2)
  (O:∀{f c t:HR}{d:Jf},Fun K x x st f d->d.code=.ref c->W.tabIn K x=Lh (c,t)->W.CodeHd base c t/\base.BuiltinsAt mg t->aK P w K mg base (CX1 P w) k f d ps sp)
  (b:∀{f:HR}{d:Jf},Fun K x x st f d->Binds K d ps []:=by trivial):bN P w K mg base k x ps sp:=by
 cases h with|mk a F j e=>calc⟨_,_,O F j e<|i _ (by rw[e];exact fH),b F,F.kp,Z.g a⟩
theorem wz:cF X (.builtin "isinstance") (λxs H Q=>∃(a:HR)(ys:Ly V),xs=[.ref a,.ty "tuple"]/\SqT X.K H a ys/\W.kitOne X.K (.type "tuple") (.type "tuple")=Lh Lj/\Q (.bl Lj) H):=by
 intro Ln s σ H xs k Q I r h;let(a,ys,rfl,f,e,q):=h;let(u,v,rfl,c,b):=r.two;cases (show u=HN.ref a from c);cases (show v=HN.type "tuple" from b);let(j,m,d,_):=I.tuple f;let(o,i,g,_):=id d;calc W.kia_one W.kitx_tuple I.kIn ⟨o,i,g⟩ e (λz=>nomatch z) λl=>⟨.bl Lj,H,I.tok _,U,q⟩
def nK:cF X (.builtin "isinstance") (λxs H Q=>(∃x c d t b,xs=[x,c]/\ClV c d/\TyG X.K H x t/\W.kitOne X.K t d=Lh b/\Q (.bl b) H)\/∃(a:HR)(ys:Ly V),xs=[.ref a,.ty "tuple"]/\SqT X.K H a ys/\W.kitOne X.K (.type "tuple") (.type "tuple")=Lh Lj/\Q (.bl Lj) H):=cZ.or wz
end _L
set_option Elab.async false
set_option maxRecDepth 100000
set_option linter.all false
open Lean Parser.Tactic in
local macro_rules(kind:=Lean.Parser.Tactic.obtain)|s=>do
 let p:=s[1][0]
 if p[0][0].getKind==``rcasesPat.tuple&&p[0][0][1].getNumArgs>3&&s[2].isNone then `(tactic|(show let G:Prop:=_;G;intro G;rcases $(⟨s[3][1][0]⟩):term with $(⟨p⟩):rcasesPatMed<;>(unfold G;clear G))) else Macro.throwUnsupported
open Lean Parser.Tactic in
local macro_rules(kind:=Lean.Parser.Tactic.rintro)|s=>do
 let a:=s[1].getArgs
 let n:=Syntax.node .none
 let some i:=a.findIdx? λp=>p[0].getKind==``rcasesPat.tuple&&p[0][1].getNumArgs>3|Macro.throwUnsupported
 let f:=λx:Array Syntax=>n s.getKind #[s[0],n `null x,s[2]]
 let m←`(tactic|(intro h;obtain $(⟨n ``rcasesPatMed #[n `null #[a[i]![0]]]⟩):rcasesPatMed := h))
 let m←if i=0 then pure m else `(tactic|($(⟨f a[:i]⟩);$m))
 if i+1=a.size then pure m else `(tactic|($m;$(⟨f a[i+1:]⟩)))
namespace _M
open PySem _L
def top(i:Nat):Io:=PySem.Challenge.pw_rowjudge_k40_whole_layers.main.body.getD i<|.Pass ⟨0,0,0,0⟩
abbrev Y42:Io:=top 11
abbrev Y38:Io:=top 12
abbrev Y79:Io:=top 13
abbrev Y41:Io:=top 16
abbrev Y37:Io:=top 17
abbrev Y34:Io:=top 18
abbrev Y69:Io:=top 19
abbrev Y35:Io:=top 20
abbrev Y70:Io:=top 21
abbrev Y32:Io:=top 22
abbrev Y71:Io:=top 23
abbrev Y33:Io:=top 24
abbrev Y40:Io:=top 25
abbrev Y31:Io:=top 30
abbrev Y44:Io:=top 31
abbrev Y43:Io:=top 32
abbrev Y84:Io:=top 46
abbrev Y75:Io:=top 51
abbrev Y74:Io:=top 52
abbrev Y77:Io:=top 53
abbrev Y76:Io:=top 54
abbrev Y73:Io:=top 55
abbrev Y39:Io:=top 56
abbrev Y72:Io:=top 57
abbrev Y45:Io:=top 58
abbrev Y80:Io:=top 60
abbrev Y81:Io:=top 61
abbrev Y36:Io:=top 62
abbrev s_row_form:Io:=top 63
abbrev s_verdict_form:Io:=top 64
abbrev Y82:Io:=top 65
abbrev Y48:Io:=top 67
abbrev Y58:Io:=top 68
abbrev Y59:Io:=top 69
abbrev Y66:Io:=top 70
abbrev Y50:Io:=top 71
abbrev Y52:Io:=top 72
abbrev Y63:Io:=top 73
abbrev Y62:Io:=top 74
abbrev Y67:Io:=top 75
abbrev Y65:Io:=top 76
abbrev Y57:Io:=top 77
abbrev Y56:Io:=top 78
abbrev Y53:Io:=top 79
abbrev Y60:Io:=top 80
abbrev Y51:Io:=top 81
abbrev Y54:Io:=top 82
abbrev Y49:Io:=top 83
abbrev Y68:Io:=top 84
abbrev Y64:Io:=top 85
abbrev Y55:Io:=top 86
abbrev Y47:Io:=top 87
abbrev Y61:Io:=top 88
abbrev Y17:Io:=inClass (top 50) 0
abbrev Y12:Io:=inClass (top 34) 0
abbrev Y0:Io:=inClass (top 33) 0
abbrev Y4:Io:=inClass (top 40) 0
abbrev Y18:Io:=inClass (top 39) 0
abbrev Y13:Io:=inClass (top 41) 0
abbrev Y22:Io:=inClass (top 39) 0
abbrev Y8:Io:=inClass (top 42) 0
abbrev Y20:Io:=inClass (top 39) 0
abbrev Y10:Io:=inClass (top 43) 0
abbrev Y21:Io:=inClass (top 39) 0
abbrev Y6:Io:=inClass (top 44) 0
abbrev Y19:Io:=inClass (top 39) 0
abbrev Y15:Io:=inClass (top 45) 0
abbrev Y23:Io:=inClass (top 39) 0
abbrev Y2:Io:=inClass (top 33) 5
abbrev Y3:Io:=inClass (top 33) 5
abbrev Y30:Io:=inClass (top 35) 0
abbrev Y1:Io:=inClass (top 33) 0
abbrev Y24:Io:=inClass (top 39) 1
abbrev Y5:Io:=inClass (top 40) 1
abbrev Y28:Io:=inClass (top 39) 1
abbrev Y14:Io:=inClass (top 41) 1
abbrev Y26:Io:=inClass (top 39) 1
abbrev Y9:Io:=inClass (top 42) 1
abbrev Y27:Io:=inClass (top 39) 1
abbrev Y11:Io:=inClass (top 43) 1
abbrev Y25:Io:=inClass (top 39) 1
abbrev Y7:Io:=inClass (top 44) 1
abbrev Y29:Io:=inClass (top 39) 1
abbrev Y16:Io:=inClass (top 45) 1
abbrev Y46:Io:=top 89
abbrev Y78:Ij:=AO ((cX s_row_form).getD 0<|.Pass ⟨0,0,0,0⟩) 2
theorem Z79{c_0:HR}:qu ["codes","table"] ["codes"] (kG Y78) [("table",c_0)]:=⟨U,U,U,~~~0,U,~~~0,~~~0,yi U⟩
abbrev Y83:Ij:=AO ((cX s_verdict_form).getD 0<|.Pass ⟨0,0,0,0⟩) 2
theorem Z85{c_0:HR}:qu ["rows","table"] ["rows"] (kG Y83) [("table",c_0)]:=⟨U,U,U,~~~0,U,~~~0,~~~0,yi U⟩
def Z42:av ["spans","number","low","high"] ["spans","number"] (ao Y42):=fsc
def Z38:av ["spans","low","high","turns","first","last"] ["spans","low","high"] (ao Y38):=fsc
def Z80:av ["low","high","marks","cuts","lows","highs"] ["low","high","marks"] (ao Y79):=fsc
def Z41:av ["bounds","marks","product","parts"] ["bounds","marks"] (ao Y41):=fsc
def Z37:av ["bounds","marks"] ["bounds","marks"] (ao Y37):=fsc
def Z34:av ["bounds","marks","leaf"] ["bounds","marks","leaf"] (ao Y34):=fsc
def Z69:av ["columns","ahead","leaf"] ["columns","ahead","leaf"] (ao Y69):=fsc
def Z35:av ["triples","form","low","high","beneath"] ["triples"] (ao Y35):=fsc
def Z70:av ["form","codes","found","code"] ["form","codes"] (ao Y70):=fsc
def Z32:av ["form","code","at"] ["form","code"] (ao Y32):=fsc
def Z71:av ["form","deep","change"] ["form","deep","change"] (ao Y71):=fsc
def Z33:av ["form","deep","told","low","high","beneath","box","leaf"] ["form","deep"] (ao Y33):=fsc
def Z40:av ["lists","numbers","some"] ["lists"] (ao Y40):=fsc
def Z31:av ["text","signs","sign"] ["text","signs"] (ao Y31):=fsc
def Z44:av ["text"] ["text"] (ao Y44):=fsc
def Z43:av ["value"] ["value"] (ao Y43):=fsc
def Z86:av ["name","way"] ["name"] (ao Y84):=fsc
def Z75:av ["names","name"] ["names"] (ao Y75):=fsc
def Z74:av ["names","rows"] ["names","rows"] (ao Y74):=fsc
def Z77:av ["way","outcome"] ["way","outcome"] (ao Y77):=fsc
def Z76:av ["domains","outcome","cells","code","domain","spans","low","high"] ["domains","outcome","cells","code"] (ao Y76):=fsc
def Z73:av ["cells","code"] ["cells","code"] (ao Y73):=fsc
def Z39:av ["table","k","codes","cells","spans","code"] ["table","k","codes"] (ao Y39):=fsc
def Z72:av ["table","codes"] ["table","codes"] (ao Y72):=fsc
def Z45:av ["table","rows","codes"] ["table","rows"] (ao Y45):=fsc
def Z81:av ["table"] ["table"] (ao Y80):=fsc
def Z82:av ["table"] ["table"] (ao Y81):=fsc
def Z36:av ["table","column","domain"] ["table","column"] (ao Y36):=fsc
def Z78:av ["table"] ["table"] (ao s_row_form):=fsc
def Z84:av ["table"] ["table"] (ao s_verdict_form):=fsc
def Z83:av ["table"] ["table"] (ao Y82):=fsc
def Z48:av ["script","k"] ["script","k"] (ao Y48):=fsc
def Z58:av ["found"] ["found"] (ao Y58):=fsc
def Z59:av ["found"] ["found"] (ao Y59):=fsc
def Z66:av ["form","bounds","at","k","part"] ["form","bounds"] (ao Y66):=fsc
def Z50:av ["script","bounds","k","low","width"] ["script"] (ao Y50):=fsc
def Z52:av ["pair","words"] ["pair","words"] (ao Y52):=fsc
def Z63:av ["script","bounds","turn","pools","k","low","width"] ["script","bounds"] (ao Y63):=fsc
def Z62:av ["script","most","numbers","k","cell","kept"] ["script","most"] (ao Y62):=fsc
def Z67:av ["kind","one","two","pair","parts"] ["kind","one","two","pair"] (ao Y67):=fsc
def Z65:av ["bounds","pools","number","outs","parts","k","pool","one","two"] ["bounds","pools","number","outs"] (ao Y65):=fsc
def Z57:av ["spans","code","pair"] ["spans","code"] (ao Y57):=fsc
def Z56:av ["rows","codes","fitting","j","parts","held"] ["rows","codes"] (ao Y56):=fsc
def Z53:av ["way","outs","low","high"] ["way","outs","low","high"] (ao Y53):=fsc
def Z60:av ["bounds","marks","lows","k","own"] ["bounds","marks"] (ao Y60):=fsc
def Z51:av ["lows","corners","own","further","codes","low"] ["lows"] (ao Y51):=fsc
def Z54:av ["rows","k","pair","marks","row","part"] ["rows","k","pair"] (ao Y54):=fsc
def Z49:av ["fitting"] ["fitting"] (ao Y49):=fsc
def Z68:av ["found","rows","bounds","total","part","size","pair","end","due"] ["found","rows","bounds"] (ao Y68):=fsc
def Z64:av ["table","deed","refused"] ["table","deed"] (ao Y64):=fsc
def Z55:av ["way","cell","low","ones","others","column","table"] ["way","cell"] (ao Y55):=fsc
def Z47:av ["table","bounds","marks","told","ends","row"] ["table","bounds","marks"] (ao Y47):=fsc
def Z61:av ["script","bounds","rows","way","big","name","names","words","domains","copies"] ["script","bounds","rows","way","big","name"] (ao Y61):=fsc
def Z17:av ["self","name","names","domains","outcome","way","rows","cells","code"] ["self","name","names","domains","outcome","way","rows"] (ao Y17):=fsc
def Z12:av ["self","low","high"] ["self","low","high"] (ao Y12):=fsc
def Z0:av ["self","low","high"] ["self","low","high"] (ao Y0):=fsc
def Z4:av ["self"] ["self"] (ao Y4):=fsc
def Z18:av ["self","called"] ["self","called"] (ao Y18):=fsc
def Z13:av ["self"] ["self"] (ao Y13):=fsc
def Z22:av ["self","called"] ["self","called"] (ao Y22):=fsc
def Z8:av ["self"] ["self"] (ao Y8):=fsc
def Z20:av ["self","called"] ["self","called"] (ao Y20):=fsc
def Z10:av ["self"] ["self"] (ao Y10):=fsc
def Z21:av ["self","called"] ["self","called"] (ao Y21):=fsc
def Z6:av ["self"] ["self"] (ao Y6):=fsc
def Z19:av ["self","called"] ["self","called"] (ao Y19):=fsc
def Z15:av ["self"] ["self"] (ao Y15):=fsc
def Z23:av ["self","called"] ["self","called"] (ao Y23):=fsc
def Z2:av ["self","value"] ["self","value"] (ao Y2):=fsc
def Z3:av ["self","value"] ["self","value"] (ao Y3):=fsc
def Z30:av ["self","words","word"] ["self","words"] (ao Y30):=fsc
def Z1:av ["self","low","high"] ["self","low","high"] (ao Y1):=fsc
def Z24:av ["self","codes","outcome"] ["self","codes","outcome"] (ao Y24):=fsc
def Z5:av ["self","codes","outcome"] ["self","codes","outcome"] (ao Y5):=fsc
def Z28:av ["self","codes","outcome"] ["self","codes","outcome"] (ao Y28):=fsc
def Z14:av ["self","codes","outcome"] ["self","codes","outcome"] (ao Y14):=fsc
def Z26:av ["self","codes","outcome"] ["self","codes","outcome"] (ao Y26):=fsc
def Z9:av ["self","codes","outcome"] ["self","codes","outcome"] (ao Y9):=fsc
def Z27:av ["self","codes","outcome"] ["self","codes","outcome"] (ao Y27):=fsc
def Z11:av ["self","codes","outcome"] ["self","codes","outcome"] (ao Y11):=fsc
def Z25:av ["self","codes","outcome"] ["self","codes","outcome"] (ao Y25):=fsc
def Z7:av ["self","codes","outcome"] ["self","codes","outcome"] (ao Y7):=fsc
def Z29:av ["self","codes","outcome"] ["self","codes","outcome"] (ao Y29):=fsc
def Z16:av ["self","codes","outcome"] ["self","codes","outcome"] (ao Y16):=fsc
def Z46:av ["script","bounds","way","big","pools","numbers","rows","back","table","other","marks","masks","form","agreed","codes","fitting","due","others","told"] ["script"] (ao Y46):=fsc
structure AD where (a b c d e f g h i j k l m n o p:HR)
structure Bk(K:W.Frag)(Y:AD):Prop where
 n_TableError:W.nsIn K HX "TableError" = Lh ↑Y.a
 n_TooFine:W.nsIn K HX "TooFine" = Lh ↑Y.b
 n_TooMany:W.nsIn K HX "TooMany" = Lh ↑Y.c
 n_Way:W.nsIn K HX "Way" = Lh ↑Y.d
 n_First:W.nsIn K HX "First" = Lh ↑Y.e
 n_Only:W.nsIn K HX "Only" = Lh ↑Y.f
 n_Like:W.nsIn K HX "Like" = Lh ↑Y.g
 n_Low:W.nsIn K HX "Low" = Lh ↑Y.h
 n_High:W.nsIn K HX "High" = Lh ↑Y.i
 n_Sum:W.nsIn K HX "Sum" = Lh ↑Y.j
 n_Domain:W.nsIn K HX "Domain" = Lh ↑Y.k
 n_Numbers:W.nsIn K HX "Numbers" = Lh ↑Y.l
 n_Words:W.nsIn K HX "Words" = Lh ↑Y.m
 n_Table:W.nsIn K HX "Table" = Lh ↑Y.n
 n_NONE:W.nsIn K HX "NONE" = Lh ↑Y.o
 n_CLASH:W.nsIn K HX "CLASH" = Lh ↑Y.p
 x_TooFine:ExcCls K Y.b
 l_TooFine:vc K Y.b
 k_First:Cls K Y.e
 k_Only:Cls K Y.f
 k_Like:Cls K Y.g
 k_Low:Cls K Y.h
 k_High:Cls K Y.i
 k_Sum:Cls K Y.j
 k_Numbers:Cls K Y.l
 k_Words:Cls K Y.m
 k_Table:Cls K Y.n
 t_First:ni K Y.e
 t_Only:ni K Y.f
 t_Like:ni K Y.g
 t_Low:ni K Y.h
 t_High:ni K Y.i
 t_Sum:ni K Y.j
 t_Numbers:ni K Y.l
 t_Words:ni K Y.m
 t_Table:ni K Y.n
 q_NONE:ModT K Y.o [.str "none",.int (0)]
 q_CLASH:ModT K Y.p [.str "clash",.int (0)]
 na_First_called:NoAttr K Y.e "called"
 na_Only_called:NoAttr K Y.f "called"
 na_Like_called:NoAttr K Y.g "called"
 na_Low_called:NoAttr K Y.h "called"
 na_High_called:NoAttr K Y.i "called"
 na_Sum_called:NoAttr K Y.j "called"
 na_Numbers_low:NoAttr K Y.l "low"
 na_Numbers_high:NoAttr K Y.l "high"
 na_Numbers_words:NoAttr K Y.l "words"
 na_Words_low:NoAttr K Y.m "low"
 na_Words_high:NoAttr K Y.m "high"
 na_Words_words:NoAttr K Y.m "words"
 na_Table_name:NoAttr K Y.n "name"
 na_Table_names:NoAttr K Y.n "names"
 na_Table_domains:NoAttr K Y.n "domains"
 na_Table_outcome:NoAttr K Y.n "outcome"
 na_Table_way:NoAttr K Y.n "way"
 na_Table_rows:NoAttr K Y.n "rows"
 f_nn:W.kitOne K (.ref Y.l) (.ref Y.l)=Lh Lj
 f_wn:W.kitOne K (.ref Y.m) (.ref Y.l)=Lh Ll
 f_ww:W.kitOne K (.ref Y.m) (.ref Y.m)=Lh Lj
 f_tt:W.kitOne K (.ref Y.n) (.ref Y.n)=Lh Lj
 f_nw:W.kitOne K (.ref Y.l) (.ref Y.m)=Lh Ll
 e_TooFine:W.exmOne K (.ref Y.b) (.ref Y.b)=Lh Lj
 nt0:∀z z',W.tabIn K "row_form" = Lh z->W.tabIn K "verdict_form" = Lh z'->z.2≠z'.2
structure Bl(K:W.Frag)(mg:Str->Option HN)(Y:AD):Prop extends Bk K Y where
 TableError_:mg "TableError" = ↑Y.a
 TooFine_:mg "TooFine" = ↑Y.b
 TooMany_:mg "TooMany" = ↑Y.c
 Way_:mg "Way" = ↑Y.d
 First_:mg "First" = ↑Y.e
 Only_:mg "Only" = ↑Y.f
 Like_:mg "Like" = ↑Y.g
 Low_:mg "Low" = ↑Y.h
 High_:mg "High" = ↑Y.i
 Sum_:mg "Sum" = ↑Y.j
 Domain_:mg "Domain" = ↑Y.k
 Numbers_:mg "Numbers" = ↑Y.l
 Words_:mg "Words" = ↑Y.m
 Table_:mg "Table" = ↑Y.n
 NONE_:mg "NONE" = ↑Y.o
 CLASH_:mg "CLASH" = ↑Y.p
 sorted_:mg "sorted" = Li
 list_:mg "list" = Li
 set_:mg "set" = Li
 zip_:mg "zip" = Li
 len_:mg "len" = Li
 tuple_:mg "tuple" = Li
 isinstance_:mg "isinstance" = Li
 int_:mg "int" = Li
 bool_:mg "bool" = Li
 sum_:mg "sum" = Li
 range_:mg "range" = Li
 enumerate_:mg "enumerate" = Li
 str_:mg "str" = Li
 min_:mg "min" = Li
 max_:mg "max" = Li
 reversed_:mg "reversed" = Li
 MOST_GRAIN_:∃u,mg "MOST_GRAIN" = Lh u/\RelV (V.int 300) u
 MOST_SIGNS_:∃u,mg "MOST_SIGNS" = Lh u/\RelV (V.int 12) u
 SMALL_LETTERS_:∃u,mg "SMALL_LETTERS" = Lh u/\RelV (V.str "abcdefghijklmnopqrstuvwxyz") u
 MOST_ROWS_:∃u,mg "MOST_ROWS" = Lh u/\RelV (V.int 200) u
 MOST_COLUMNS_:∃u,mg "MOST_COLUMNS" = Lh u/\RelV (V.int 4) u
 MOST_WORDS_:∃u,mg "MOST_WORDS" = Lh u/\RelV (V.int 40) u
theorem p10(n:Nat):(0:Int)<10^n:=Int.pow_pos ⋯
theorem Df{n:Int}{p:Int×Int}(c:decide (p.1<=n)=Lj)(d:decide (n<=p.2)=Lj):inR n p=true:=by unfold inR;rw[c,d];rfl
theorem AQ{n:Int}{p:Int×Int}(c:¬ decide (p.1<=n)=Lj):inR n p=false:=by unfold inR;rw[EH.mpr c];rfl
theorem AR{n:Int}{p:Int×Int}(d:¬ decide (n<=p.2)=Lj):inR n p=false:=by unfold inR;rw[EH.mpr d,Bool.and_false]
theorem lO{xs:Ly V}{i:Nat}{x:V}(e:xs[i]?=Lh x):atI xs (0+(i:Int))=Lh x:=by
 rw[Int.zero_add];calc bh e
theorem dN{H:Hp}{r:HR}{o:HO}{b:HR}{u:HO}(h:H r=Lh u)(n:H b=Li):upd H b o r=Lh u:=by rw[ay (aU h n)];calc h
theorem yr{n:Nat}(h:0<n):ixN n (-1)=Lh (n-1):=by
 unfold ixN;rw[Lp ⋯,Lq ∅]
 congr 1
 lia
theorem yt{a:Type}(l:Ly a)(x y:a):(l++[x]).set (⇑(l++[x])-1) y=l++[y]:=by
 let e:⇑(l++[x])-1=⇑l:=by simp
 rw[e,List.set_append_right _ _<|xX _,CM];rfl
theorem take_snoc{a:Type}{l:Ly a}{i:Nat}{x:a}(e:l[i]?=Lh x):l.take (i+1)=l.take i++[x]:=by rw[oH,e];rfl
theorem get_map{a:Ly Int}{i:Nat}{c:Int}(e:a[i]?=Lh c):(a.map V.int)[i]?=Lh (.int c):=by rw[jj,e];rfl
theorem of_map{a:Ly Int}{i:Nat}{x:V}(e:(a.map V.int)[i]?=Lh x):∃c,x=.int c/\a[i]?=Lh c:=by
 rw[jj]at e;cases q:a[i]? with
 |none=>rw[q]at e;cases e
 |some c=>rw[q]at e;cases e;calc⟨c,U,U⟩
def lets:Str := "abcdefghijklmnopqrstuvwxyz"
def isw(z:Str):Bool:=Lm ((1:Int)<=((⇑z:Nat):Int)) && (Lm (((⇑z:Nat):Int)<=12) && (!Lm (V.str z=V.str "not") && rq z lets))
theorem BX{l:Ly Nat}{i:Nat}{c:Nat}{p:Nat->Bool}(e:l[i]?=Lh c)(h:p c=Ll):l.all p=false:=by
 cases q:l.all p with
 |false=>rfl
 |true=>rw[jX.mp q c (HH e)]at h;cases h
theorem all_succ{l:Ly Nat}{i:Nat}{c:Nat}{p:Nat->Bool}(e:l[i]?=Lh c)(h:p c=Lj)(a:(l.take i).all p=Lj):(l.take<|i+1).all p=true:=by
 rw[take_snoc e,List.all_append,a];simp[h]
theorem yu{z g:Str}(h:(z.cps.toList.take z.cps.size).all (sg g)=Lj):rq z g=true:=by
 let e:z.cps.toList.take z.cps.size=z.cps.toList:=by rw[←Dn];exact gd
 rw[e]at h;calc h
theorem BY{g:Str}{c:Nat}(h:(!(!(IP.Str.occurrences g ⟨#[c]⟩ 0 ⇑g 1).isEmpty))=Lj):sg g c=false:=by unfold sg;simpa using h
theorem Dg{g:Str}{c:Nat}(h:¬ (!(!(IP.Str.occurrences g ⟨#[c]⟩ 0 ⇑g 1).isEmpty))=Lj):sg g c=true:=by unfold sg;simpa using h
def big{n:Nat}(h:n<=1000):n<=HU:=zz<|az h
def mkd(C:HR)(H:Hp)(x a:HR)(lo hi:Int):Hp:=upd (upd H x<|.ins C a [("low",.int lo)]) x<|.ins C a [("low",.int lo),("high",.int hi)]
theorem put2(v u:V):bI s!"high" u [(s!"low",v)]=[(s!"low",v),(s!"high",u)]:=by
 unfold bI bI;rw[Lp ⋯]
theorem put3(v u t:V):bI s!"words" t [(s!"low",v),(s!"high",u)]=[(s!"low",v),(s!"high",u),(s!"words",t)]:=by
 unfold bI bI bI;rw[Lp ⋯,Lp ⋯]
def hiW(zs:Ly Str):Int:=((⇑zs:Nat):Int)-1
structure Good(zs:Ly Str):Prop where
 some_:1<=⇑zs
 few:⇑zs<=40
 words:∀z∈zs,isw z=Lj
 once:zs.Nodup
theorem se{zs:Ly Str}{i:Nat}{x:V}(e:(zs.map V.str)[i]?=Lh x):∃z,x=.str z/\zs[i]?=Lh z:=by
 rw[jj]at e;cases q:zs[i]? with
 |none=>rw[q]at e;cases e
 |some z=>rw[q]at e;cases e;calc⟨z,U,U⟩
def six:Ly Str:=[s!"first",s!"only",s!"like",s!"low",s!"high",s!"sum"]
theorem zL{i j:Nat}{z:Str}(h:six[i]?=Lh z)(k:six[j]?=Lh z):i=j:=ko (show six.Nodup by decide+kernel) h k
def WyN(C:HR)(H:Hp)(x:HR)(z:Str):Prop:=∃a,H x=Lh (.ins C a [("called",.str z)])
theorem WyN.same{C:HR}{H H':Hp}{x:HR}{z:Str}(h:WyN C H x z)(s:ar H H'):WyN C H' x z:=by let(a,e):=h;calc⟨a,s _ _ e⟩
def wA(C:HR)(z:Str):Sp:=λb H Q _=>∃(x a:HR),b=[.ref x]/\H x=Lh (.ins C a [])/\Q .non (upd H x<|.ins C a [("called",.str z)])
theorem bA:2<=HU:=⋯
def cl6(a b c d e f:HR):Ly HR:=[a,b,c,d,e,f]
def BZ(C:HR)(H:Hp)(a:HR)(lo hi:Int):Prop:=∃b fs,H a=Lh (.ins C b fs)/\fs.lookup s!"low"=Lh (.int lo)/\fs.lookup s!"high"=Lh (.int hi)/\fs.lookup s!"has_code"=Li
def Dom(d c:HR)(H:Hp)(a:HR)(b:Int×Int):Prop:=∃C,(C=d\/C=c)/\BZ C H a b.1 b.2
theorem Dom.same{d c:HR}{H H':Hp}{a:HR}{b:Int×Int}(h:Dom d c H a b)(s:ar H H'):Dom d c H' a b:=by let(C,f,g,fs,e,r):=h;calc⟨C,f,g,fs,s _ _ e,r⟩
theorem Dom.upd{d c:HR}{H:Hp}{a D:HR}{b:Int×Int}{o:HO}{zs:Ly V}(h:Dom d c H a b)(e:H D=Lh (.lst zs)):Dom d c (upd H D o) a b:=by
 let(C,g,i,fs,f,r):=h;calc⟨C,g,i,fs,(ay<|ip f e (by intro z;cases z)).trans f,r⟩
def aS{b:Type}(xs:Ly V)(as:Ly b)(P:HR->b->Prop):Prop:=⇑xs=⇑as/\∀(j:Nat)(a:b),as[j]?=Lh a->∃r,xs[j]?=↑r/\P r a
def aS.mono{b:Type}{xs:Ly V}{as:Ly b}{P Q:HR->b->Prop}(h:aS xs as P)(k:∀r a,P r a->Q r a):aS xs as Q:=⟨h.1,λj a e=>let ⟨r,e1,p⟩:=h.2 j a e;⟨r,e1,k r a p⟩⟩
theorem aS.nil{b:Type}{P:HR->b->Prop}:aS [] [] P:=⟨U,(λj a e=>by simp at e)⟩
theorem aS.snoc{c:Type}{xs:Ly V}{as:Ly c}{P:HR->c->Prop}{r:HR}{a:c}(h:aS xs as P)(p:P r a):aS (xs++[.ref r]) (as++[a]) P:=by
 refine⟨by simp[h.1],λj b e=>?_⟩;by_cases f:j<⇑as
 .rw[ji f]at e;let(g,i,q):=h.2 j b e;exact⟨g,by rw[ji (by rw[h.1];exact f)];exact i,q⟩
 .let d:j=⇑as:=by
   let:=(HG.mp e).1;simp at this;lia
  subst d;simp at e;subst e;calc⟨r,by rw[←h.1];simp,p⟩
theorem aS.get{b:Type}{xs:Ly V}{as:Ly b}{P:HR->b->Prop}(h:aS xs as P){j:Nat}{x:V}(e:xs[j]?=Lh x):∃r a,x=.ref r/\as[j]?=Lh a/\P r a:=by
 let f:=(HG.mp e).1;let c:=HF (l:=as) (i:=j) (by rw[←h.1];exact f);let(r,d,p):=h.2 j _ c;rw[e]at d;cases d;calc⟨r,_,U,c,p⟩
abbrev Prs:=List<|Int×Int
def SpA(N:HR->Prop)(H:Hp)(l:HR)(ps:Prs):Prop:=N l/\∃a,H l=Lh (.lst a)/\PL H a ps
def CL(N:HR->Prop)(H:Hp)(xs:Ly V)(a:Ly Prs):Prop:=aS xs a<|SpA N H
abbrev Rw:=Ly Prs×Int
def jN(N:HR->Prop)(H:Hp)(r:HR)(a:Rw):Prop:=∃b c,H r=Lh (.tup [.ref b,.int a.2])/\N b/\H b=Lh (.lst c)/\CL N H c a.1
def RL(N:HR->Prop)(H:Hp)(xs:Ly V)(a:Ly Rw):Prop:=aS xs a<|jN N H
theorem SpA.same{N:HR->Prop}{H H':Hp}{l:HR}{ps:Prs}(h:SpA N H l ps)(s:ar H H'):SpA N H' l ps:=by let(n,a,e,p):=h;calc⟨n,a,s _ _ e,p.mono s.tups⟩
theorem CL.same{N:HR->Prop}{H H':Hp}{xs:Ly V}{a:Ly Prs}(h:CL N H xs a)(s:ar H H'):CL N H' xs a:=aS.mono h λ_ _ p=>p.same s
theorem jN.same{N:HR->Prop}{H H':Hp}{r:HR}{w:Rw}(h:jN N H r w)(s:ar H H'):jN N H' r w:=by let(b,a,e,n,f,c):=h;calc⟨b,a,s _ _ e,n,s _ _ f,c.same s⟩
theorem RL.same{N:HR->Prop}{H H':Hp}{xs:Ly V}{a:Ly Rw}(h:RL N H xs a)(s:ar H H'):RL N H' xs a:=aS.mono h λ_ _ p=>p.same s
abbrev NT:HR->Prop:=λ_=>True
def SpA.any{N:HR->Prop}{H:Hp}{l:HR}{ps:Prs}(h:SpA N H l ps):SpA NT H l ps:=⟨trivial,h.2⟩
theorem CL.any{N:HR->Prop}{H:Hp}{xs:Ly V}{a:Ly Prs}(h:CL N H xs a):CL NT H xs a:=aS.mono h λ_ _ p=>p.any
theorem jN.any{N:HR->Prop}{H:Hp}{r:HR}{w:Rw}(h:jN N H r w):jN NT H r w:=by let(b,a,e,_,f,c):=h;calc⟨b,a,e,trivial,f,c.any⟩
theorem RL.any{N:HR->Prop}{H:Hp}{xs:Ly V}{a:Ly Rw}(h:RL N H xs a):RL NT H xs a:=aS.mono h λ_ _ p=>p.any
def SpA.wk{N b:HR->Prop}{H:Hp}{l:HR}{ps:Prs}(h:SpA N H l ps)(k:∀a,N a->b a):SpA b H l ps:=⟨k _ h.1,h.2⟩
theorem CL.wk{N c:HR->Prop}{H:Hp}{xs:Ly V}{b:Ly Prs}(h:CL N H xs b)(k:∀a,N a->c a):CL c H xs b:=aS.mono h λ_ _ p=>p.wk k
theorem jN.wk{N b:HR->Prop}{H:Hp}{r:HR}{w:Rw}(h:jN N H r w)(k:∀a,N a->b a):jN b H r w:=by let(g,d,e,n,f,c):=h;calc⟨g,d,e,k _ n,f,c.wk k⟩
theorem SpA.updN{N:HR->Prop}{D:HR}{H:Hp}{l:HR}{ps:Prs}{zs:Ly V}{o:HO}(h:SpA N H l ps)(n:¬ N D)(e:H D=Lh (.lst zs)):SpA N (upd H D o) l ps:=by
 let(m,a,f,p):=h;calc⟨m,a,(ay<|λz=>n (by rw[←z];exact m)).trans f,p.mono<|bK e⟩
theorem CL.updN{N:HR->Prop}{D:HR}{H:Hp}{xs:Ly V}{a:Ly Prs}{zs:Ly V}{o:HO}(h:CL N H xs a)(n:¬ N D)(e:H D=Lh (.lst zs)):CL N (upd H D o) xs a:=aS.mono h λ_ _ p=>p.updN n e
theorem jN.updN{N:HR->Prop}{D:HR}{H:Hp}{r:HR}{w:Rw}{zs:Ly V}{o:HO}(h:jN N H r w)(n:¬ N D)(e:H D=Lh (.lst zs)):jN N (upd H D o) r w:=by
 let(b,a,f,m,g,c):=h;calc⟨b,a,(ay<|ip f e (by intro z;cases z)).trans f,m,(ay<|λz=>n (by rw[←z];exact m)).trans g,c.updN n e⟩
theorem RL.updN{N:HR->Prop}{D:HR}{H:Hp}{xs:Ly V}{a:Ly Rw}{zs:Ly V}{o:HO}(h:RL N H xs a)(n:¬ N D)(e:H D=Lh (.lst zs)):RL N (upd H D o) xs a:=aS.mono h λ_ _ p=>p.updN n e
def Fr(H:Hp)(D:HR):HR->Prop:=λa=>H a=Li/\a≠D
def Fr.out{H:Hp}{D:HR}:¬ Fr H D D:=λh=>h.2 U
structure GP(b:Int×Int)(zs:Ly Str):Prop where
 le:b.1<=b.2
 ws:zs≠[]->Good zs/\b=(0,hiW zs)
structure ml(bs:Prs)(o:Int×Int)(w:Rw):Prop where
 len:⇑w.1=⇑bs
 inn:∀(j:Nat)(ps:Prs)(b:Int×Int),w.1[j]?=Lh ps->bs[j]?=Lh b->∀p∈ps,b.1<=p.1/\p.2<=b.2
 lo:o.1<=w.2
 hi:w.2<=o.2
def kH(a:Ly Prs)(b:Ly Int):Bool:=(List.range ⇑b).all λj=>inP (a.getD j [])<|b.getD j 0
theorem pf1(b a:V):bI s!"names" a [(s!"name",b)]=[(s!"name",b),(s!"names",a)]:=by
 unfold bI bI;rw[Lp ⋯]
theorem pf2(c b a:V):bI s!"domains" a [(s!"name",c),(s!"names",b)]=[(s!"name",c),(s!"names",b),(s!"domains",a)]:=by
 unfold bI bI bI;rw[Lp ⋯,Lp ⋯]
theorem pf3(d c b a:V):bI s!"outcome" a [(s!"name",d),(s!"names",c),(s!"domains",b)]=[(s!"name",d),(s!"names",c),(s!"domains",b),(s!"outcome",a)]:=by
 unfold bI bI bI bI;rw[Lp ⋯,Lp ⋯,Lp ⋯]
theorem pf4(e d c b a:V):bI s!"way" a [(s!"name",e),(s!"names",d),(s!"domains",c),(s!"outcome",b)]=[(s!"name",e),(s!"names",d),(s!"domains",c),(s!"outcome",b),(s!"way",a)]:=by
 unfold bI bI bI bI bI;rw[Lp ⋯,Lp ⋯,Lp ⋯,Lp ⋯]
theorem pf5(f e d c b a:V):bI s!"rows" a [(s!"name",f),(s!"names",e),(s!"domains",d),(s!"outcome",c),(s!"way",b)]=[(s!"name",f),(s!"names",e),(s!"domains",d),(s!"outcome",c),(s!"way",b),(s!"rows",a)]:=by
 unfold bI bI bI bI bI bI;rw[Lp ⋯,Lp ⋯,Lp ⋯,Lp ⋯,Lp ⋯]
def hide(H:Hp)(x:HR):Hp:=λb=>if b=x then Li else H b
theorem gJ{H:Hp}{x b:HR}{o:HO}(e:H b=Lh o)(n:b≠x):hide H x b=Lh o:=by unfold hide;rw[Lp n];calc e
theorem hide_same{H H':Hp}{x:HR}(k:∀b o,b≠x->H b=Lh o->H' b=Lh o):ar (hide H x) H':=λb o e=>by
 unfold hide at e;by_cases h:b=x
 .rw[Lq h]at e;cases e
 .rw[Lp h]at e;calc k b o h e
theorem PL.hide{H:Hp}{x C c:HR}{fs:Ly (Str×V)}(a:H x=Lh (.ins C c fs)){ys:Ly V}{ps:Prs}(h:PL H ys ps):PL (hide H x) ys ps :=
 h.mono λb d e=>gJ e<|ip e a (by intro z;cases z)
theorem RL.hide{H:Hp}{x C i:HR}{fs:Ly (Str×V)}(b:H x=Lh (.ins C i fs)){xs:Ly V}{a:Ly Rw}(h:RL NT H xs a):RL NT (_M.hide H x) xs a :=
 aS.mono h λr w ⟨k,j,e,_,f,c⟩=>⟨k,j,gJ e<|ip e b (by intro z;cases z),trivial,gJ f<|ip f b (by intro z;cases z),aS.mono c λl m ⟨_,d,g,p⟩=>⟨trivial,d,gJ g<|ip g b (by intro z;cases z),PL.hide b p⟩⟩
def wcs(c k:Int):Ly Nat:=List.replicate (c / 26%6).toNat (97+(c%26).toNat)++([97+(k / 7%7).toNat,97+(k%7).toNat]++List.replicate (k%5).toNat (97+(c / 156%26).toNat))
def wd(c k:Int):Str:=⟨(wcs c k).toArray⟩
abbrev SI:=Str×Int
def tp(p:SI):Ly V:=[.str p.1,.int p.2]
def say(i:Int):SI:=(s!"say",i)
def vn:SI:=(s!"clash",0)
def EF:SI:=(s!"none",0)
def least(a:Ly Int):Int:=a.foldl (λm c=>if c<m then c else m) (a.headD 0)
def great(a:Ly Int):Int:=a.foldl (λm c=>if c>m then c else m) (a.headD 0)
theorem fold_min(a:Ly Int):∀m:Int,(a.foldl (λm c=>if c<m then c else m) m=m\/a.foldl (λm c=>if c<m then c else m) m∈a)/\a.foldl (λm c=>if c<m then c else m) m<=m/\∀x∈a,a.foldl (λm c=>if c<m then c else m) m<=x:=by
 induction a with
 |nil=>intro m;exact⟨.inl U,Int.le_refl _,λx h=>by cases h⟩
 |cons n a f =>
  intro m;let(b,e,g):=f (if n<m then n else m);rw[sO];refine⟨?_,?_,λx d=>?_⟩
  .rcases b with b|b
   .rw[b];split
    .exact .inr fH
    .exact .inl U
   .exact .inr<|iE _ b
  .split at e <;> split <;> lia
  .rcases bW.mp d with rfl|d
   .split at e <;> split <;> lia
   .exact g x d
theorem fold_max(a:Ly Int):∀m:Int,(a.foldl (λm c=>if c>m then c else m) m=m\/a.foldl (λm c=>if c>m then c else m) m∈a)/\m<=a.foldl (λm c=>if c>m then c else m) m/\∀x∈a,x<=a.foldl (λm c=>if c>m then c else m) m:=by
 induction a with
 |nil=>intro m;exact⟨.inl U,Int.le_refl _,λx h=>by cases h⟩
 |cons n a f =>
  intro m;let(b,e,g):=f (if n>m then n else m);rw[sO];refine⟨?_,?_,λx d=>?_⟩
  .rcases b with b|b
   .rw[b];split
    .exact .inr fH
    .exact .inl U
   .exact .inr<|iE _ b
  .split at e <;> split <;> lia
  .rcases bW.mp d with rfl|d
   .split at e <;> split <;> lia
   .exact g x d
theorem gn{n:Int}{a:Ly Int}:least (n :: a)∈n :: a/\∀x∈n :: a,least (n :: a)<=x:=by
 let(b,d,c):=fold_min (n :: a) n;calc⟨?_,c⟩;rcases b with b|b
 .show(n :: a).foldl _ n∈_;rw[b];exact fH
 .exact b
theorem iH{n:Int}{a:Ly Int}:great (n :: a)∈n :: a/\∀x∈n :: a,x<=great (n :: a):=by
 let(b,d,c):=fold_max (n :: a) n;calc⟨?_,c⟩;rcases b with b|b
 .show(n :: a).foldl _ n∈_;rw[b];exact fH
 .exact b
theorem nM{n m:Int}{c:Ly Int}(e:m∈n :: c)(d:∀b∈n :: c,m<=b):m=least (n :: c):=by
 let a:=d _ gn.1;let b:=gn.2 _ e;lia
theorem nN{n m:Int}{c:Ly Int}(e:m∈n :: c)(d:∀b∈n :: c,b<=m):m=great (n :: c):=by
 let a:=d _ iH.1;let b:=iH.2 _ e;lia
def EG(a:Ly Int):SI:=say<|least a
def Dh(a:Ly Int):SI:=say<|great a
def kI(a:Ly Int):SI:=if least a=great a then say (least a)else vn
theorem lP{n:Int}{a:Ly Int}:(∀x∈a,x=n)↔least (n :: a)=great (n :: a):=by
 constructor
 .intro h;let e:∀x∈n :: a,x=n:=λx b=>by
   rcases bW.mp b with r|b
   .exact r
   .exact h x b
  rw[e _ gn.1,e _ iH.1]
 .intro h x b;let g:=gn.2 x<|iE n b;let f:=iH.2 x<|iE n b;let d:=gn.2 n<|fH (l:=a);let c:=iH.2 n<|fH (l:=a);lia
theorem pZ{n:Int}{a:Ly Int}(h:∀x∈a,x=n):least (n :: a)=n:=by
 let e:∀x∈n :: a,x=n:=λx b=>by
  rcases bW.mp b with r|b
  .exact r
  .exact h x b
 calc e _ gn.1
def ver(f:Ly Int->SI):Ly Int->SI
 | []=>EF
 |n :: ns=>f (n :: ns)
def Wy(C:HR)(H:Hp)(x:HR):Prop:=∃a z,H x=Lh (.ins C a [("called",.str z)])
def B1(a:Ly Int):SI:=say<|a.headD 0
def kJ(a:Ly Int):SI:=if ⇑a=1 then say (a.headD 0)else vn
def near(lo hi n:Int):Int:=if n<lo then lo else if n>hi then hi else n
def wf:Nat->Int->Int->Ly Int->SI
 |0,_,_=>B1
 |1,_,_=>kJ
 |2,_,_=>kI
 |3,_,_=>EG
 |4,_,_=>Dh
 |_,lo,hi=>λa=>say<|near lo hi a.sum
def at0(n:Int)(a:Ly Int):atI ((n :: a).map V.int) 0=Lh (.int n):=bh (j:=0) U
def wB(K:W.Frag)(C g f:HR)(i:Nat):Sp:=λe H Q _=>∃(x c o:HR)(n:Int)(a:Ly Int)(b:Int×Int),e=[.ref x,.ref c,.ref o]/\Wy C H x/\Dom g f H o b/\b.1<=b.2/\SqL K H c ((n :: a).map V.int)/\⇑a<900/\∀(r:HR)(d:Hp),ar H d->Vd K d r (wf i b.1 b.2 (n :: a))->Q (.ref r) d
def kK(K:W.Frag)(C g f:HR)(i:Nat):Sp:=λe H Q _=>∃(x c o:HR)(a:Ly Int)(b:Int×Int),e=[.ref x,.ref c,.ref o]/\Wy C H x/\Dom g f H o b/\b.1<=b.2/\SqL K H c (a.map V.int)/\⇑a<900/\∀(r:HR)(d:Hp),ar H d->Vd K d r (ver (wf i b.1 b.2) a)->Q (.ref r) d
def msk(f:Nat->Bool):Nat->Nat
 |0=>0
 |n+1=>(if f n then 2^n else 0)+msk f n
def kL(f:Nat->Bool)(n:Nat):msk f (n+1)=(if f n then 2^n else 0)+msk f n:=rfl
theorem uB(f:Nat->Bool):∀n,msk f n<2^n
 |0=>Nat.one_pos
 |n+1=>by
  let:=uB f n;unfold msk;rw[Nat.pow_succ];split <;> lia
theorem vo(f:Nat->Bool)(k:Nat):∀n,(msk f n).testBit k=(Lm (k<n) && f k)
 |0=>by simp[msk]
 |n+1=>by
  let b:=vo f k n;let lt:=uB f n;unfold msk;rcases Nat.lt_trichotomy k n with h|h|h
  .split
   .rw[Nat.testBit_two_pow_add_gt h,b];simp[h,zp h]
   .rw[Cq,b];simp[h,zp h]
  .subst h;split
   .rename_i hf
    rw[Nat.testBit_two_pow_add_eq,Nat.testBit_lt_two_pow lt];simp[hf]
   .rename_i hf
    rw[Cq,Nat.testBit_lt_two_pow lt];simp[hf]
  .let a:(if f n=Lj then 2^n else 0)+msk f n<2^k:=zb (uB f<|n+1)<|Nat.pow_le_pow_right ⋯ h;rw[Nat.testBit_lt_two_pow a];simp;lia
def gq(m:Int)(k:Nat):Bool:=IP.bitAnd (m / 2^k) 1 != 0
theorem wC(f:Nat->Bool)(n k:Nat):gq ((msk f n:Nat):Int) k=(Lm (k<n) && f k):=by
 rw[←vo];unfold gq;let e:((msk f n:Nat):Int) / 2^k=((msk f n / 2^k:Nat):Int):=by simp
 rw[e,PyProof.Rows.bitAnd_pp (Int.natCast_nonneg _) ⋯];unfold Nat.testBit;rw[Nat.shiftRight_eq_div_pow,E2,Nat.and_comm];show((((1:Int).toNat &&& (msk f n / 2^k):Nat):Int) != 0)=_;rw[Bool.eq_iff_iff,bne_iff_ne,bne_iff_ne];constructor
 .intro h z;exact h (by rw[show(1:Int).toNat=1 from U,z];rfl)
 .intro h z;calc h (by rw[show(1:Int).toNat=1 from U]at z;lia)
def pkF(a:Ly Rw)(f:Nat->Bool)(n:Nat):Ly Int:=((List.range n).filter f).map λk=>(a.getD k ([],0)).2
theorem sh(a:Ly Rw)(f:Nat->Bool)(n:Nat):pkF a f (n+1)=pkF a f n++(if f n then[(a.getD n ([],0)).2] else[]):=by
 unfold pkF;rw[mu,lz,dW];cases h:f n with
 |true=>rw[uP h];simp
 |false=>rw[uQ (by rw[h];exact Bool.false_ne_true)];simp
theorem vp(a:Ly Rw)(f:Nat->Bool)(n:Nat):⇑(pkF a f n)<=n:=by
 unfold pkF;rw[bc];calc yW (oM ..) (by simp)
theorem zM(a:Ly Rw)(f:Nat->Bool)(n:Nat):pkF a (gq ((msk f n:Nat):Int)) n=pkF a f n:=by
 unfold pkF
 congr 1
 apply List.filter_congr
 intro k b;rw[wC];simp[jV.mp b]
def Tbl(h j g:HR)(H:Hp)(t:HR)(b:Ly Rw)(i:Nat)(o:Int×Int):Prop:=∃(d e f:HR)(fs:Ly (Str×V))(a:Ly V)(c:Str),H t=Lh (.ins h f fs)/\fs.lookup s!"rows"=↑d/\fs.lookup s!"way"=Lh (.str c)/\fs.lookup s!"outcome"=↑e/\H d=Lh (.lst a)/\RL NT H a b/\six[i]?=Lh c/\Dom j g H e o/\o.1<=o.2/\⇑a<=200
theorem Tbl.same{d e c:HR}{H H':Hp}{t:HR}{a:Ly Rw}{i:Nat}{o:Int×Int}(h:Tbl d e c H t a i o)(s:ar H H'):Tbl d e c H' t a i o:=by
 let(j,k,x,fs,f,g,w,v,u,r,q,p,n,m,l,b):=h;calc⟨j,k,x,fs,f,g,s _ _ w,v,u,r,s _ _ q,p.same s,n,m.same s,l,b⟩
def cQ(a:Ly Rw)(b:Ly Int)(k:Nat):Bool:=kH (a.getD k ([],0)).1 b
theorem getD_at{a:Ly Rw}{k:Nat}{w:Rw}(e:a[k]?=Lh w):a.getD k ([],0)=w:=by rw[iX,e];rfl
def fl(a:Ly Rw)(b:Ly Int):Ly Int:=(a.filter λw=>kH w.1 b).map (·.2)
theorem zN(a:Ly Rw)(w:Rw)(b:Ly Int):fl (a++[w]) b=fl a b++(if kH w.1 b then[w.2] else[]):=by
 unfold fl;rw[lz,dW];cases h:kH w.1 b <;> simp[xu,h]
theorem si(a:Ly Rw)(c:Ly Int):∀n,n<=⇑a->pkF a (cQ a c) n=fl (a.take n) c
 |0,_=>by simp[pkF,fl]
 |n+1,h=>by
  let b:a[n]?=Lh a[n]:=HF h;rw[sh,si a c n<|Nat.le_of_succ_le h,take_snoc b,zN,getD_at b];unfold cQ;rw[getD_at b]
theorem yv(a:Ly Rw)(b:Ly Int):pkF a (cQ a b) ⇑a=fl a b:=by
 rw[si a b _ (xX _),gd]
structure Lay(H:Hp)(r1:HR)(F2 F3:HR->Prop)(m:Nat):Prop where
 top:∃xs,H r1=Lh (.lst xs)/\⇑xs<=63/\∀x∈xs,∃(t ce:HR)(c:Int),x=.ref t/\H t=Lh (.tup [.ref ce,.int c])/\F2 ce
 mid:∀ce,F2 ce->∃ys,H ce=Lh (.lst ys)/\⇑ys<=4/\∀y∈ys,∃l,y=.ref l/\F3 l
 low:∀l,F3 l->∃zs,H l=Lh (.lst zs)/\⇑zs<=m
 n2:¬ F2 r1
 n3:¬ F3 r1
 n23:∀a,F2 a->F3 a->False
theorem sk(x:V)(xs:Ly V):qi (x :: xs) (Lh 1) Li=xs:=by
 unfold qi;simp[HT.sIx]
theorem zO{K:W.Frag}{H:Hp}{n:Nat}{a b:HR}{xs ys:Ly V}(g:SqL K H a xs)(d:SqL K H b ys)(c:⇑xs=⇑ys)(h:∀(j:Nat)(x y:V),xs[j]?=Lh x->ys[j]?=Lh y->DEq K H n x y Lj):DEq K H (n+1) (.ref a) (.ref b) true:=by
 by_cases e:a=b
 .subst e;exact .same a
 .let:=DEq.lst (f:=λ_=>Lj) e g d c h;rw[show(List.range ⇑xs).all (λ_=>Lj)=Lj by simp]at this;calc this
theorem zP{K:W.Frag}{H:Hp}{n:Nat}{a b:HR}{xs ys:Ly V}(g:SqT K H a xs)(d:SqT K H b ys)(c:⇑xs=⇑ys)(h:∀(j:Nat)(x y:V),xs[j]?=Lh x->ys[j]?=Lh y->DEq K H n x y Lj):DEq K H (n+1) (.ref a) (.ref b) true:=by
 by_cases e:a=b
 .subst e;exact .same a
 .let:=DEq.tup (f:=λ_=>Lj) e g d h;rw[show((List.range<|min ⇑xs ⇑ys).all (λ_=>Lj) && ⇑xs == ⇑ys)=Lj by simp[c]]at this;calc this
theorem qz{K:W.Frag}{H:Hp}{n:Nat}(i:Int):DEq K H n (.int i) (.int i) true:=by
 let:=DEq.flat (K:=K) (H:=H) (n:=n) (x:=.int i) (y:=.int i) U U;rw[show eqV (.int i) (.int i)=Lj by simp[eqV]]at this;calc this
theorem yw{K:W.Frag}{H:Hp}{n:Nat}{xs ys:Ly V}{ps:Prs}(h:PL H xs ps)(h':PL H ys ps)(j:Nat)(x y:V)(i:xs[j]?=Lh x)(g:ys[j]?=Lh y):DEq K H (n+1) x y true:=by
 let(u,r,f,rfl,e):=h.get i;let(k,l,b,rfl,d):=h'.get g;rw[f]at b;cases b;refine zP (SqT.of e) (SqT.of d) U λj x y a c=>?_
 rw[a]at c;cases c
 match j,a with
 |0,a=>cases a;exact qz _
 |1,a=>cases a;exact qz _
 |j+2,a=>simp at a
structure Pts(ps:Ly Int):Prop where
 two:2<=⇑ps
 few:⇑ps<=13
 asc:ps.Pairwise (· < ·)
def s2(c:Int):Ly Nat:=[113+(c%8).toNat,121+(c / 8%2).toNat]
def w3l(c k:Int):Ly Nat:=(s2 c).take (c / 16%3).toNat++([97+k.toNat]++(s2 c).drop (c / 16%3).toNat)
def w3(c k:Int):Str:=⟨(w3l c k).toArray⟩
theorem p4{K:W.Frag}{H:Hp}{Q:VK}{a b:HR}{xs ys:Ly V}(e:SqL K H a xs)(d:SqL K H b ys)(c:⇑xs=⇑ys)(h:∀(j:Nat)(x y:V),xs[j]?=Lh x->ys[j]?=Lh y->DEq K H 60 x y Lj)(q:Q (.bl Ll) H):rA K Lj (.ref a) (.ref b) H Q:=by
 calc⟨a,b,xs,ys,U,U,e,d,.inr ⟨c,λ_=>Lj,h,?_⟩⟩;rw[show(List.range ⇑xs).all (λ_=>Lj)=Lj by simp];calc q
def bZ(lo hi:Int)(a:Ly Int):Ly (Int×Int):=(lo :: a).zip (a.map (· - 1)++[hi])
def Chn:Ly (Int×Int)->Int->Int->Prop
 | [],lo,hi=>lo=hi+1
 |p :: r,lo,hi=>p.1=lo/\lo<=p.2/\Chn r (p.2+1) hi
theorem sr:∀{a:Ly Int}{lo hi:Int},a.Pairwise (· < ·)->(∀c∈a,lo<c/\c<=hi)->lo<=hi->Chn (bZ lo hi a) lo hi
 | [],lo,hi,_,_,h=>⟨U,h,U⟩
 |c :: a,lo,hi,hp,hb,h=>by
  let(i,g):=qd.mp hp;let f:=hb c fH;let e:bZ lo hi (c :: a)=(lo,c-1) :: bZ c hi a:=rfl;rw[e];refine⟨U,by show lo<=c-1;lia,?_⟩;show Chn (bZ c hi a) (c-1+1) hi;rw[show c-1+1=c by lia];calc sr g (λd b=>⟨i d b,(hb d<|iE _ b).2⟩) f.2
theorem gs(lo hi:Int)(a:Ly Int):⇑(bZ lo hi a)=⇑a+1:=by simp[bZ]
theorem PL.of_get{H:Hp}:∀{ts:Ly HR}{ps:Ly (Int×Int)},⇑ts=⇑ps->(∀(j:Nat)(p:Int×Int),ps[j]?=Lh p->∃T,ts[j]?=Lh T/\H T=Lh (.tup [.int p.1,.int p.2]))->PL H (ts.map V.ref) ps
 | [],[],_,_=>.nil
 | [],p :: ps,h,_=>by simp at h
 |t :: ts,[],h,_=>by simp at h
 |t :: ts,p :: ps,h,g=>by
  let(T,c,b):=g 0 p U;let:t=T:= ~~~c
  subst this;calc .cons ⟨t,U,b⟩<|PL.of_get (~~~h) λj q a=>~~~g (j+1) q (~~~a)
theorem zip_get{lo hi:Int}{a:Ly Int}{j:Nat}{p:Int×Int}(e:(bZ lo hi a)[j]?=Lh p):((lo :: a).map V.int)[j]?=Lh (.int p.1)/\((a.map (· - 1)++[hi]).map V.int)[j]?=Lh (.int p.2):=by
 unfold bZ at e;rw[uO]at e;let(c,b):=e;calc⟨get_map c,get_map b⟩
def nO(lo hi:Int)(a:Ly Int)(m:Int):Ly Int:=if lo<m/\m<=hi/\m ∉ a then a++[m]else a
def dd(lo hi:Int)(ms:Ly Int):Ly Int:=ms.foldl (nO lo hi) []
theorem qA(lo hi:Int):∀(ms d:Ly Int),d.Nodup->(ms.foldl (nO lo hi) d).Nodup/\∀c,c∈ms.foldl (nO lo hi) d↔(c∈d\/(c∈ms/\lo<c/\c<=hi))
 | [],d,h=>⟨h,λc=>by simp⟩
 |m :: ms,d,h=>by
  let j:(nO lo hi d m).Nodup:=by
   unfold nO;split
   .rename_i g
    rw[wt];refine⟨h,by simp,λa i b f=>?_⟩;let:b=m:= ~~~f
    subst this;exact λz=>g.2.2<|z ▸ i
   .exact h
  let(l,k):=qA lo hi ms (nO lo hi d m) j;calc⟨l,λc=>(k c).trans ?_⟩;unfold nO;by_cases g:lo<m/\m<=hi/\m ∉ d
  .rw[Lq g];simp only[hZ,bW,jC,or_false];constructor
   .rintro((h|rfl)|⟨h,h'⟩)
    .exact .inl h
    .exact .inr ⟨.inl U,g.1,g.2.1⟩
    .exact .inr ⟨.inr h,h'⟩
   .rintro(h|⟨rfl|h,h'⟩)
    .exact .inl<|.inl h
    .exact .inl<|.inr U
    .exact .inr ⟨h,h'⟩
  .rw[Lp g];simp only[bW];constructor
   .rintro(h|⟨h,h'⟩)
    .exact .inl h
    .exact .inr ⟨.inr h,h'⟩
   .rintro(h|⟨rfl|h,h'⟩)
    .exact .inl h
    .by_cases e:c∈d
     .exact .inl e
     .exact Lr ⟨h'.1,h'.2,e⟩ g
    .exact .inr ⟨h,h'⟩
theorem qB{lo hi:Int}{ms a:Ly Int}(f:a.Pairwise (· < ·))(g:∀c,c∈a↔(c∈ms/\lo<c/\c<=hi)):⇑a=⇑(dd lo hi ms):=by
 let(i,d):=qA lo hi ms [] wJ;let e:∀c,c∈a↔c∈dd lo hi ms:=λc=>by
  rw[g c];exact⟨λh=>(d c).mpr<|.inr h,λh=>by rcases(d c).mp h with z|z;cases z;exact z⟩
 calc Nat.le_antisymm (bf (f.imp λh=>Int.ne_of_lt h) λx b=>(e x).mp b)<|bf i λx b=>(e x).mpr b
theorem Di(lo hi:Int)(ms:Ly Int):⇑(dd lo hi ms)<=⇑ms:=by
 let(c,b):=qA lo hi ms [] wJ;exact bf c λx a=>by rcases(b x).mp a with z|z;cases z;calc z.1
def gl(ps:Ly (Int×Int))(a:Ly (Ly Int))(j:Nat):Nat:=⇑(dd (ps.getD j (0,0)).1 (ps.getD j (0,0)).2<|a.getD j [])+1
def gr(ps:Ly (Int×Int))(a:Ly (Ly Int)):Nat->Nat
 |0=>1
 |n+1=>gr ps a n*gl ps a n
theorem Dj{ps:Ly (Int×Int)}{a:Ly (Ly Int)}(h:∀ms∈a,⇑ms<=400)(j:Nat):gl ps a j<=401:=by
 unfold gl;let:=Di (ps.getD j (0,0)).1 (ps.getD j (0,0)).2<|a.getD j [];let b:⇑(a.getD j [])<=400:=by
  rw[iX];cases e:a[j]? with
  |none=>simp
  |some ms=>exact h ms (HH e)
 lia
theorem AS{ps:Ly (Int×Int)}{c:Ly (Ly Int)}(h:∀ms∈c,⇑ms<=400):∀n,gr ps c n<=401^n
 |0=>xX _
 |n+1=>by
  let a:=AS (ps:=ps) h n;let b:=Dj (ps:=ps) h n;show gr ps c n*gl ps c n<=401^n*401;calc Nat.mul_le_mul a b
def MLs(H:Hp)(as:Ly HR)(a:Ly (Ly Int)):Prop:=⇑as=⇑a/\∀(j:Nat)(b:Ly Int),a[j]?=Lh b->∃r,as[j]?=Lh r/\H r=Lh (.lst<|b.map V.int)
def MLs.keep{H H':Hp}{as:Ly HR}{a:Ly (Ly Int)}(h:MLs H as a)(k:∀r∈as,∀o,H r=Lh o->H' r=Lh o):MLs H' as a :=
 ⟨h.1,λj b e=>let ⟨r,e1,e2⟩:=h.2 j b e;⟨r,e1,k r (HH e1) _ e2⟩⟩
def MLs.same{H H':Hp}{as:Ly HR}{a:Ly (Ly Int)}(h:MLs H as a)(s:ar H H'):MLs H' as a:=h.keep λ_ _ _ e=>s _ _ e
theorem iI{as:Ly HR}{j:Nat}{x:V}(e:(as.map V.ref)[j]?=Lh x):∃r,x=.ref r/\as[j]?=Lh r:=by
 rw[jj]at e;cases h:as[j]? with
 |none=>rw[h]at e;cases e
 |some r=>rw[h]at e;cases e;calc⟨r,U,U⟩
def MOK(ps:Ly (Int×Int))(a:Ly (Ly Int)):Prop:=⇑ps=⇑a/\⇑ps<=6/\∀ms∈a,⇑ms<=400
abbrev Tri:=Int×Int×V
def T3(H:Hp)(xs:Ly V)(ts:Ly Tri):Prop:=⇑xs=⇑ts/\∀(i:Nat)(t:Tri),ts[i]?=Lh t->∃r:HR,xs[i]?=↑r/\H r=Lh (.tup [.int t.1,.int t.2.1,t.2.2])
structure At(ts:Ly Tri)(c:Int)(j:Nat)(t:Tri):Prop where
 at_:ts[j]?=Lh t
 le:c<=t.2.1
 lt:∀(i:Nat)(u:Tri),i<j->ts[i]?=Lh u->u.2.1<c
inductive Lk(K:W.Frag)(H:Hp):V->Ly Int->V->Prop where
 |nil (v:V):Lk K H v [] v
 |cons {a:HR}{xs:Ly V}{ts:Ly Tri}{c:Int}{cs:Ly Int}{j:Nat}{t:Tri}{r:V}(hS:SqT K H a xs)(hT:T3 H xs ts)(hA:At ts c j t)(h:Lk K H t.2.2 cs r):Lk K H (.ref a) (c :: cs) r
theorem AU:∀{c:Ly (Int×Int)}{lo hi:Int},Chn c lo hi->zI c lo hi
 | [],_,_,h=>h
 |_ :: _,_,_,h=>⟨h.1,h.2.1,AU h.2.2⟩
theorem nP:∀{a:Ly Int}{lo hi c:Int},a.Pairwise (· < ·)->(∀x∈a,lo<x)->lo<=c->c<=hi->cH (bZ lo hi a) c<=c/\(cH (bZ lo hi a) c=lo\/cH (bZ lo hi a) c∈a)/\lo<=cH (bZ lo hi a) c/\∀x∈a,x<=c->x<=cH (bZ lo hi a) c
 | [],lo,hi,c,_,_,h1,h2=>by
  let e:cH (bZ lo hi []) c=lo:=by simp[bZ,cH,h2]
  rw[e];exact⟨h1,.inl U,Int.le_refl _,λx b=>by cases b⟩
 |d :: a,lo,hi,c,hp,hb,h1,h2=>by
  let(h,j):=qd.mp hp;let e:bZ lo hi (d :: a)=(lo,d-1) :: bZ d hi a:=rfl;by_cases q:c<=d-1
  .let g:cH (bZ lo hi (d :: a)) c=lo:=by rw[e];unfold cH;rw[ov (~~~q)];rfl
   rw[g];calc⟨h1,.inl U,Int.le_refl _,λx b i=>?_⟩;rcases bW.mp b with rfl|b
   .lia
   .let:=h x b;lia
  .let g:cH (bZ lo hi (d :: a)) c=cH (bZ d hi a) c:=by rw[e];unfold cH;rw[oD (~~~q)]
   rw[g];let(m,f,l,k):=nP j h (c:=c) ∅ h2;let n:=hb d fH;refine⟨m,.inr ?_,∅,λx b i=>?_⟩
   .rcases f with f|f
    .rw[f];exact fH
    .exact iE _ f
   .rcases bW.mp b with rfl|b
    .exact l
    .exact k x b i
def CoL(H:Hp)(xs:Ly V)(a:Ly (List<|Int×Int)):Prop:=aS xs a λr c=>∃b,H r=Lh (.lst b)/\PL H b c
def CoL.same{H H':Hp}{xs:Ly V}{a:Ly (List<|Int×Int)}(h:CoL H xs a)(s:ar H H'):CoL H' xs a:=aS.mono h λ_ _ ⟨b,e,p⟩=>⟨b,s _ _ e,PL.mono p s.tups⟩
structure B2{K':W.Frag}{L:Type} [DecidableEq L] (A:Lfp K' L)(P:HQ)(w:HP)(K:W.Frag)(mg:Str->Option HN)(base:HS)(f:HR)(m:Nat)(g:Ly Int->L)(J:Hp->Prop):Prop where
 fn:∃sp,HFn P w K mg base 8 f sp/\∀(H:Hp)(a:HR)(cs:Ly Int)(Q:VK),J H->⇑cs=m->H a=Lh (.lst<|cs.map V.int)->(∀v H',(∀b o,b≠a->H b=Lh o->H' b=Lh o)->A.R H' (g cs) v->Q v H')->sp [.ref a] H Q E0
 ob:∀H,J H->FnO H f
 st:∀H H',J H->ar H H'->J H'
theorem p5{a:Type} [DecidableEq a] (ts:Ly (T3a a)):⇑(gI ts)<=⇑ts:=by
 let:∀(r f:Ly (T3a a)),⇑(r.foldl de f)<=⇑f+⇑r:=by
  intro r;induction r with
  |nil=>intro f;exact xX _
  |cons t r b =>
   intro f;let d:⇑(de f t)<=⇑f+1:=by
    unfold de;split
    .split
     .rw[dy,List.length_dropLast,iU];lia
     .rw[dy,iU];lia
    .rw[dy,iU];lia
   let c:=b<|de f t;rw[ik];show(⇑(r.foldl de<|de f t))<=_;lia
 let h:=this ts [];rw[List.length_nil,Cq]at h;calc h
def below(ms:Ly Int)(c:Int):Int:=(⇑(ms.filter λm=>decide<|m<=c):Int)
def B3(a:Ly (Ly Int))(b:Int)(c:Ly Int):Nat->Int
 |0=>0
 |k+1=>B3 a b c k*b+(1+B3 a b c k)%3*below (a.getD k []) (c.getD k 0)
def told(a:Ly (Ly Int))(c d st:Int)(b:Ly Int):Int:=B3 a c b ⇑b%d*st
def SmS{a:Type}(b:Nat)(S:a->Prop)(f:Ly (T3a a)):Prop:=⇑f<=b/\∀t∈f,S t.2.2
def SmF{L:Type}(b:Nat):(n:Nat)->Fm L n->Prop
 |0,_=>True
 |n+1,f=>SmS b (SmF b n) f
theorem qC{b:Nat}{L:Type} [DecidableEq L] {g:Ly Int->L}:∀{a:Ly (List<|Int×Int)}{ps:Ly (Int×Int)},ij a ps->(∀c∈a,⇑c<=b)->∀e:Ly Int,SmF b ⇑a (lay g a e)
 | [],_,_,_,_=>trivial
 |c :: a,_,hok,h,e=>by
  cases hok with
  | @cons _ _ p ps hne d hok =>
   let k:=gm<|yj (λq=>lay g a<|e++[q.1]) d;refine⟨yW (p5 _) (by rw[bc];exact h c fH),λt f=>?_⟩;let(l,j,i):=k.mem t f;let(q,_,rfl):=iv.mp j;rw[←i];calc qC hok (λc d=>h c<|iE _ d) _
theorem B4{ps:Ly (Int×Int)}{c:Ly (Ly Int)}{m:Nat}(f:∀ms∈c,∃L:Ly Int,L.length<=m/\∀x∈ms,x∈L)(j:Nat):gl ps c j<=m+1:=by
 unfold gl;let:⇑(dd (ps.getD j (0,0)).1 (ps.getD j (0,0)).2<|c.getD j [])<=m:=by
  rw[show c.getD j []=(c[j]?).getD []from iX ..];cases e:c[j]? with
  |none=>exact yX _
  |some ms =>
   let(L,h,g):=f ms<|HH e;let(a,b):=qA (ps.getD j (0,0)).1 (ps.getD j (0,0)).2 ms [] wJ;calc yW (bf a λx d=>?_) h;rcases(b x).mp d with z|z
   .cases z
   .exact g x z.1
 lia
theorem qD:∀{ps:Ly (Int×Int)}{css:Ly (Ly Int)},⇑css=⇑ps->(∀p∈ps,p.1<=p.2)->(∀(j:Nat)(p:Int×Int)(d:Ly Int),ps[j]?=Lh p->css[j]?=Lh d->d.Pairwise (· < ·)/\∀c∈d,p.1<c/\c<=p.2)->ij (List.zipWith (λp d=>bZ p.1 p.2 d) ps css) ps
 | [],[],_,_,_=>.nil
 | [],_ :: _,h,_,_=>by simp at h
 |_ :: _,[],h,_,_=>by simp at h
 |p :: ps,d :: css,h,hle,hk=>by
  let(a,b):=hk 0 p d U U;calc .cons (λz=>?_) (AU<|sr a b<|hle p fH)<|qD (~~~h) (λq e=>hle q<|iE _ e) λj q c g f=>hk (j+1) q c (~~~g)<|~~~f;let:=Lw List.length z;rw[gs]at this;simp at this
def oZ{L M:Type} [DecidableEq M] (h:L->M):(n:Nat)->Fm L n->Fm M n
 |0,x=>h x
 |n+1,f=>gI<|List.map (λt:T3a (Fm L n)=>((t.1,t.2.1,oZ h n t.2.2):T3a (Fm M n))) f
theorem qF{b a:Type}(F:b->a):∀{f:Ly (T3a b)}{lo hi:Int},Ch3 f lo hi->Ch3 (f.map λt=>((t.1,t.2.1,F t.2.2):T3a a)) lo hi
 | [],_,_,h=>h
 |_ :: _,_,_,h=>⟨h.1,h.2.1,qF F h.2.2⟩
theorem sv{b a:Type}(F:b->a)(c:Int):∀f:Ly (T3a b),vAt (f.map λt=>((t.1,t.2.1,F t.2.2):T3a a)) c=(vAt f c).map F
 | []=>rfl
 |t :: f=>by
  let d:=sv F c f;unfold vAt at d⊢;rw[jU];by_cases q:c<=t.2.1
  .rw[ov (~~~q),ov (~~~q)];rfl
  .rw[oD (~~~q),oD (~~~q)];calc d
theorem je{a:Type}{c:Int}:∀{f:Ly (T3a a)}{j:Nat}{t:T3a a},f[j]?=Lh t->c<=t.2.1->(∀(i:Nat)(u:T3a a),i<j->f[i]?=Lh u->u.2.1<c)->vAt f c=Lh t.2.2
 | [],j,t,e,_,_=>by simp at e
 |u :: f,0,t,e,h,_=>by
  cases e;unfold vAt;rw[ov (~~~h)];rfl
 |u :: f,j+1,t,e,h,k=>by
  let b:=k 0 u (BM _) U;let:=je (f:=f) (j:=j) (t:=t) (~~~e) h λi w hi d=>k (i+1) w ∅ (~~~d)
  unfold vAt at this⊢;rw[oD (~~~b)];calc this
theorem yx{L M:Type} [DecidableEq M] {h:L->M}:∀{n:Nat}{F:Fm L n}{ps:Ly (Int×Int)},fm n F ps->fm n (oZ h n F) ps
 |0,_,_,hs=>hs
 |n+1,F,ps,hs=>by
  let(G,rfl):∃G:Ly (T3a<|Fm L n),(G:Fm L (n+1))=F:=⟨F,U⟩;let(p,r,rfl,c,d,i,g):ShS (fm n) G ps:=hs;let k:=gm<|qF (oZ h n) d;calc⟨p,r,U,k.ne<|~~~c,k.ch,k.nb,λt f=>?_⟩;let(j,a,b):=k.mem t f;let(u,e,rfl):=iv.mp a;rw[←b];calc yx<|g u e
theorem zQ{L M:Type} [DecidableEq M] {h:L->M}{n:Nat}{F:Fm L n}{a:Ly Int}{x:L}(i:Tel n F a x):∀{ps:Ly (Int×Int)},fm n F ps->InB a ps->Tel n (oZ h n F) a (h x):=by
 induction i with
 |nil x=>intro ps _ _;exact .nil<|h x
 | @cons n f c a x j t e1 e2 e3 _ ih =>
  intro ps l d;let(p,r,rfl,w,e,y,q):ShS (fm n) f ps:=l;cases d with
  |cons o m d =>
   let k:=gm<|qF (oZ h n) e;let(z,g,v,A,u,s,b):=k.ch.at o m;rw[k.va,sv,je e1 e2 e3]at b;let b:oZ h n t.2.2=g.2.2:=Option.some.inj b;calc .cons (f:=(oZ h (n+1) f:Ly (T3a<|Fm M n))) v u s ?_;rw[←b];calc ih (q t<|HH e1) d
structure Dk{K':W.Frag}{L M:Type} [DecidableEq L] [DecidableEq M] (A:Lfp K' L)(B:Lfp K' M)(P:HQ)(w:HP)(K:W.Frag)(mg:Str->Option HN)(base:HS)(f:HR)(h:L->M)(J:Hp->Prop):Prop where
 fn:∃sp,HFn P w K mg base 8 f sp/\∀(H:Hp)(v:V)(x:L)(Q:VK),J H->A.R H x v->(∀u H',ar H H'->B.R H' (h x) u->Q u H')->sp [v] H Q E0
 ob:∀H,J H->FnO H f
 st:∀H H',J H->ar H H'->J H'
theorem _root_._L.Ch3.le{a:Type}:∀{f:Ly (T3a a)}{lo hi:Int},Ch3 f lo hi->lo<=hi+1
 | [],_,_,h=>Int.le_of_eq h
 |t :: f,lo,hi,h=>by have:=_L.Ch3.le h.2.2;let:=h.2.1;lia
theorem ft{a:Type}(t:T3a a)(r:Ly (T3a a))(c:Int):vAt (t :: r) c=if c<=t.2.1 then Lh t.2.2 else vAt r c:=by
 unfold vAt;by_cases h:c<=t.2.1
 .rw[ov (~~~h),Lq h];rfl
 .rw[oD (~~~h),Lp h]
theorem SmF.le{L:Type}{b a:Nat}:∀{n:Nat}{F:Fm L n},SmF b n F->b<=a->SmF a n F
 |0,_,_,_=>trivial
 |n+1,F,h,l=>by
  let(f,rfl):∃f:Ly (T3a<|Fm L n),(f:Fm L (n+1))=F:=⟨F,U⟩;let(e,d):SmS b (SmF b n) f:=h;calc⟨yW e l,λt c=>SmF.le (d t c) l⟩
theorem vq{ps:Ly (Int×Int)}{css:Ly (Ly Int)}{a:Ly Int}{k:Nat}{p:Int×Int}{ks:Ly Int}{c:Int}(b:ps[k]?=Lh p)(d:css[k]?=Lh ks)(e:a[k]?=Lh c):(List.zipWith cH (List.zipWith (λp a=>bZ p.1 p.2 a) ps css) a)[k]?=Lh (cH (bZ p.1 p.2 ks) c):=by
 rw[ny,ny,b,d,e]
theorem p6{d:Type}:∀{f g:Ly (T3a d)}{lo hi:Int},Ch3 f lo hi->Ch3 g lo hi->Nbx (f.map (·.2.2))->Nbx (g.map (·.2.2))->(∀c,lo<=c->c<=hi->vAt f c=vAt g c)->f=g
 | [],[],_,_,_,_,_,_,_=>rfl
 | [],t :: g,lo,hi,j,e,_,_,_=>by
  let j:lo=hi+1:=j;let:=e.2.1;let:=e.2.2.le;lia
 |s :: f,[],lo,hi,j,e,_,_,_=>by
  let e:lo=hi+1:=e;let:=j.2.1;let:=j.2.2.le;lia
 |s :: f,t :: g,lo,hi,j,e,nf,ng,hv=>by
  let(C,B,p):=j;let(A,z,o):=e;let Q:=p.le;let P:=o.le;let k:=hv lo ∅ ∅;rw[ft,ft,Lq B,Lq z]at k;let k:s.2.2=t.2.2:=Option.some.inj k;let l:∀{a b:T3a d}{r:Ly (T3a d)}{q:Ly (T3a d)},Ch3 r (a.2.1+1) hi->Nbx ((a :: r).map (·.2.2))->a.2.1<b.2.1->b.2.1<=hi->lo<=a.2.1->a.2.2=b.2.2->vAt (a :: r) (a.2.1+1)=vAt (b :: q) (a.2.1+1)->False:=λ{a b r q} m D T S R E n=>by
   rw[ft,ft,Lp ∅,Lq ∅]at n;cases r with
   |nil =>
    let m:a.2.1+1=hi+1:=m;lia
   |cons u r =>
    rw[ft,Lq m.2.1]at n;exact D 0 _ _ U U<|E.trans (Option.some.inj n).symm
  let v:s.2.1=t.2.1:=by
   rcases Int.lt_trichotomy s.2.1 t.2.1 with h|h|h
   .exact(l p nf h ∅ B k (hv _ ∅ ∅)).elim
   .exact h
   .exact(l o ng h ∅ z k.symm (hv _ ∅ ∅).symm).elim
  let I:s=t:=by
   let(O,s2,N):=s;let(M,L,K):=t;simp only at C A k v;rw[C,A,k,v]
  let w:∀{d:Type}{a:d}{r:Ly d},Nbx (a :: r)->Nbx r:=λ{d a r} h i x y G F=>h (i+1) x y (~~~G)<|~~~F
  let H:f=g:=p6 p (by rw[v];exact o) (w nf) (w ng) λc V J=>by
   let:=hv c ∅ J;rw[ft,ft,Lp ∅,Lp ∅]at this;exact this
  rw[I,H]
section
variable{L:Type}
theorem _root_._L.Tel.inv{n:Nat}{g:Ly (T3a<|Fm L n)}{c:Int}{e:Ly Int}{y:L}(h:Tel (n+1) (g:Fm L (n+1)) (c :: e) y):∃(j:Nat)(t:T3a (Fm L n)),g[j]?=Lh t/\c<=t.2.1/\(∀(i:Nat)(u:T3a (Fm L n)),i<j->g[i]?=Lh u->u.2.1<c)/\Tel n t.2.2 e y:=by
 cases h with
 |cons a b c d=>calc⟨_,_,a,b,c,d⟩
theorem gK{n:Nat}{F:Fm L n}{b:Ly Int}{x:L}(h:Tel n F b x):∀{y:L},Tel n F b y->x=y:=by
 induction h with
 |nil x=>intro y a;cases a;rfl
 | @cons n f c b x j t e1 e2 e3 _ ih =>
  intro y a;let(m,l,k,i,g,d):=a.inv;let e:=(je e1 e2 e3).symm.trans<|je k i g;rw[←Option.some.inj e]at d;calc ih d
theorem lQ:∀{n:Nat}{F G:Fm L n}{ps:Ly (Int×Int)},fm n F ps->fm n G ps->(∀b,InB b ps->∀x y,Tel n F b x->Tel n G b y->x=y)->F=G
 |0,F,G,ps,a,_,hv=>by
  let a:ps=[]:=a;subst a;exact hv [] .nil F G (.nil F) (.nil G)
 |n+1,F,G,ps,a,hs',hv=>by
  let(f,rfl):∃f:Ly (T3a<|Fm L n),(f:Fm L (n+1))=F:=⟨F,U⟩;let(g,rfl):∃g:Ly (T3a<|Fm L n),(g:Fm L (n+1))=G:=⟨G,U⟩;let(p,r,rfl,J,d,k,w):ShS (fm n) f ps:=a;let(M,K,e,Q,q,H,I):ShS (fm n) g (p :: r):=hs';cases e;refine p6 d q k H λc i h=>?_
  let(j,t,m,O,B,A,z):=d.at i h;let(N,s,o,P,E,D,C):=q.at i h;rw[z,C];rw[lQ (w t<|HH m) (I s<|HH o) λb l x y v u=>hv (c :: b) (.cons i h l) x y (.cons m B A v) (.cons o E D u)]
end
theorem qG:∀{a:Ly Int}{ps:Ly (Int×Int)},⇑a=⇑ps->(∀(j:Nat)(c:Int)(p:Int×Int),a[j]?=Lh c->ps[j]?=Lh p->p.1<=c/\c<=p.2)->InB a ps
 | [],[],_,_=>.nil
 | [],_ :: _,h,_=>by simp at h
 |_ :: _,[],h,_=>by simp at h
 |c :: a,p :: ps,h,k=>.cons (k 0 c p U U).1 (k 0 c p U U).2<|qG (~~~h) λj x q d b=>k (j+1) x q (~~~d)<|~~~b
theorem qH{b:Type}:∀{f:Ly (T3a b)}{lo hi:Int}{j:Nat}{s:T3a b},Ch3 f lo hi->f[j]?=Lh s->lo<=s.1/\s.1<=s.2.1/\s.2.1<=hi/\(∀t,f[j+1]?=Lh t->t.1=s.2.1+1)/\(∀(i:Nat)(u:T3a b),i<j->f[i]?=Lh u->u.2.1<s.1)/\(j=0->s.1=lo)
 | [],_,_,j,s,_,e=>by simp at e
 |t :: f,lo,hi,0,s,h,e=>by
  cases e;let d:=h.1;let c:=h.2.1;let o:=h.2.2.le;calc⟨∅,∅,∅,λt e=>?_,λi u hi=>Lr hi<|CU i,λ_=>d⟩;cases f with
  |nil=>simp at e
  |cons u f=>simp at e;subst e;exact h.2.2.1
 |t :: f,lo,hi,j+1,s,h,e=>by
  let g:f[j]?=Lh s:= ~~~e
  let(q,n,m,l,k,p):=qH (f:=f) h.2.2 g;let c:=h.2.1;refine⟨∅,n,m,λt e=>l t<|~~~e,λi u hi a=>?_,λz=>∅⟩
  match i,a with
  |0,a=>cases a;lia
  |i+1,a=>calc k i u ∅ (~~~a)
section
variable{L:Type}
theorem yy{n:Nat}{f:Ly (T3a<|Fm L n)}{lo hi:Int}{j:Nat}{t:T3a (Fm L n)}{c:Int}{a:Ly Int}{x:L}(h:Ch3 f lo hi)(e:f[j]?=Lh t)(l:t.1<=c)(d:c<=t.2.1)(b:Tel n t.2.2 a x):Tel (n+1) (f:Fm L (n+1)) (c :: a) x:=by
 let(_,_,_,_,k,_):=qH h e;calc .cons e d (λi u hi g=>by have:=k i u hi g;lia) b
end
theorem wD{n:Nat}(h:n<=2000):n<HU:=Nat.lt_of_le_of_lt h ⋯
theorem nQ{c d:Type}{R:c->d->Prop}:∀{xs:Ly c}{as:Ly d}{i:Nat}{x:c},Paired R xs as->xs[i]?=Lh x->∃a,as[i]?=Lh a/\R x a
 |_,_,_,_,.nil,e=>by simp at e
 |_,_,0,_,.cons (b:=b) h _,e=>by simp at e;subst e;exact⟨b,U,h⟩
 |_,_,i+1,x,.cons _ tl,e=>by
  let(a,q):=nQ (i:=i) (x:=x) tl<|~~~e;calc⟨a,~~~q.1,q.2⟩
theorem uC{c b:Type}{R:c->b->Prop}{xs ys:Ly c}{as bs:Ly b}(h:Paired R xs as)(h':Paired R ys bs):Paired R (xs++ys) (as++bs):=by
 induction h with
 |nil=>exact h'
 |cons a _ d=>calc .cons a d
theorem yz{K:W.Frag}{H:Hp}{Q:VK}{a b:HR}{xs ys:Ly V}(d:H a=Lh (.tup xs))(c:H b=Lh (.tup ys))(hz:⇑xs+⇑ys<=HU)(q:∀(r:HR)(H':Hp),ar H H'->H' r=Lh (.tup<|xs++ys)->Q (.ref r) H'):uc K (.ref a) (.ref b) H Q:=by
 refine⟨a,b,xs,ys,U,U,SqT.of d,SqT.of c,hz,λz=>?_,λ_ z=>?_,λ_ _ p e=>q p _ (ai e _) ae⟩
 .subst z;exact q b H (ar.refl _) c
 .subst z;calc q a H (ar.refl _) (by rw[jk];exact d)
def BxA(H:Hp)(a:HR)(B:Ly (Int×Int)):Prop:=∃b,H a=Lh (.tup b)/\PL H b B
theorem BxA.mono{H H':Hp}{a:HR}{B:Ly (Int×Int)}(h:BxA H a B)(s:cG H H'):BxA H' a B:=by let(b,e,p):=h;calc⟨b,s _ _ e,p.mono s⟩
def bxs{L:Type}:(n:Nat)->Fm L n->Ly (Ly (Int×Int)×L)
 |0,f=>[([],f)]
 |n+1,l=>List.flatMap (λe:T3a (Fm L n)=>(bxs n e.2.2).map λq=>((e.1,e.2.1) :: q.1,q.2)) l
def qI{L:Type}(n:Nat)(l m:Ly (T3a<|Fm L n)):bxs (n+1) (show Fm L (n+1)from l++m)=bxs (n+1) (show Fm L (n+1)from l)++bxs (n+1) (show Fm L (n+1)from m):=List.flatMap_append
theorem vt{L:Type}(n:Nat)(e:T3a (Fm L n)):bxs (n+1) (show Fm L (n+1) from[e])=(bxs n e.2.2).map λq=>((e.1,e.2.1) :: q.1,q.2):=by
 show List.flatMap (λe:T3a (Fm L n)=>(bxs n e.2.2).map λq=>((e.1,e.2.1) :: q.1,q.2)) [e]=_;rw[List.flatMap_singleton]
def BxL(H:Hp):Ly V->Ly (Ly (Int×Int)×Int)->Prop:=Paired λx q=>∃(t b:HR),x=.ref t/\H t=Lh (.tup [.ref b,.int q.2])/\BxA H b q.1
theorem yA{ps:Ly (Int×Int)}{a:Ly (Ly Int)}{b:Nat}(h:∀j,gl ps a j<=b):∀n,gr ps a n<=b^n
 |0=>xX _
 |n+1=>by
  show gr ps a n*gl ps a n<=b^n*b;calc Nat.mul_le_mul (yA h n)<|h n
theorem B5{L:Type}{n:Nat}{f:Ly (T3a<|Fm L n)}{q:Ly (Int×Int)×L}:q∈bxs (n+1) (f:Fm L (n+1))↔∃e∈f,∃r∈bxs n e.2.2,q=((e.1,e.2.1) :: r.1,r.2):=by
 constructor
 .intro h;let(e,b,c):=tE.mp h;let(r,a,rfl):=iv.mp c;exact⟨e,b,r,a,U⟩
 .rintro⟨e,b,r,a,rfl⟩;calc tE.mpr ⟨e,b,iv.mpr ⟨r,a,U⟩⟩
structure yB(B ps:Ly (Int×Int)):Prop where
 len:B.length=⇑ps
 get:∀(k:Nat)(b p:Int×Int),B[k]?=Lh b->ps[k]?=Lh p->p.1<=b.1/\b.1<=b.2/\b.2<=p.2
theorem yB.lows{B ps:Ly (Int×Int)}(h:yB B ps):InB (B.map (·.1)) ps:=qG (by rw[bc,h.len]) λj c p a e=>by
 rw[jj]at a;let(b,d,rfl):=Option.map_eq_some_iff.mp a;let:=h.get j b p d e;calc⟨this.1,∅⟩
theorem yC{L:Type}:∀{n:Nat}{F:Fm L n}{ps:Ly (Int×Int)},fm n F ps->∀q∈bxs n F,yB q.1 ps/\Tel n F (q.1.map (·.1)) q.2/\Tel n F (q.1.map (·.2)) q.2
 |0,F,ps,c,q,d=>by
  let c:ps=[]:=c;let d:q∈[(([]:Ly (Int×Int)),F)]:=d;rw[gZ.mp d,c];exact⟨⟨U,λk b p e=>by simp at e⟩,.nil _,.nil _⟩
 |n+1,F,ps,c,q,d=>by
  let(f,rfl):∃f:Ly (T3a<|Fm L n),(f:Fm L (n+1))=F:=⟨F,U⟩;let(p,r,rfl,A,a,B,w):ShS (fm n) f ps:=c;let(e,o,t,m,rfl):=B5.mp d;let(j,v,g):=List.getElem_of_mem o;let g:f[j]?=Lh e:=by rw[HF v,g]
  obtain⟨z,l,y,-,-,-⟩:=qH a g;let(s,b2,x):=yC (w e o) t m;refine⟨⟨by rw[ik,ik,s.len],λk b u i h=>?_⟩,yy a g (Int.le_refl _) l b2,yy a g l (Int.le_refl _) x⟩
  match k,i,h with
  |0,i,h=>cases i;cases h;exact⟨z,l,y⟩
  |k+1,i,h=>calc s.get k b u (~~~i) (~~~h)
theorem sC{a c:Type}{b:Nat}{F:a->Ly c}:∀{l:Ly a},(∀x∈l,⇑(F x)<=b)->⇑(l.flatMap F)<=⇑l*b
 | [],_=>yX _
 |x :: l,h=>by
  let f:=h x fH;let e:=sC λy d=>h y<|iE _ d
  rw[List.flatMap_cons,dy,ik,Dl];lia
def TD(h i g:HR)(H:Hp)(t:HR)(d:Ly V)(bs:Prs)(a:Ly Rw):Prop:=∃(c f e:HR)(fs:Ly (Str×V))(b:Ly V),H t=Lh (.ins h f fs)/\fs.lookup s!"rows"=↑c/\fs.lookup s!"domains"=↑e/\H e=Lh (.lst d)/\aS d bs (Dom i g H)/\H c=Lh (.lst b)/\RL NT H b a
theorem TD.same{d e c:HR}{H H':Hp}{t:HR}{b:Ly V}{bs:Prs}{a:Ly Rw}(h:TD d e c H t b bs a)(s:ar H H'):TD d e c H' t b bs a:=by
 let(g,q,r,fs,f,o,n,m,l,k,j,i):=h;calc⟨g,q,r,fs,f,s _ _ o,n,m,s _ _ l,aS.mono k λ_ _ p=>p.same s,s _ _ j,i.same s⟩
theorem nR{H:Hp}{D:HR}{o:HO}:hide (upd H D o) D=hide H D:=by
 funext b
 unfold hide;by_cases h:b=D
 .rw[Lq h,Lq h]
 .rw[Lp h,Lp h,ay h]
theorem lR{H H':Hp}{D:HR}(s:ar H H'):ar (hide H D) (hide H' D):=λb o e=>by
 unfold hide at e⊢;by_cases h:b=D
 .rw[Lq h]at e;cases e
 .rw[Lp h]at e⊢;calc s b o e
theorem qJ(H:Hp)(D:HR):ar (hide H D) H:=λb o e=>by
 unfold hide at e;by_cases h:b=D
 .rw[Lq h]at e;cases e
 .rw[Lp h]at e;calc e
theorem MLs.nil{H:Hp}:MLs H [] []:=⟨U,λj a e=>by simp at e⟩
theorem MLs.snoc{H:Hp}{as:Ly HR}{a:Ly (Ly Int)}{r:HR}{ms:Ly Int}(h:MLs H as a)(e:H r=Lh (.lst<|ms.map V.int)):MLs H (as++[r]) (a++[ms]):=by
 refine⟨by rw[dy,dy,h.1];rfl,λj m b=>?_⟩;by_cases d:j<⇑a
 .rw[ji d]at b;let(f,i,g):=h.2 j m b;exact⟨f,by rw[ji (by rw[h.1];exact d)];exact i,g⟩
 .rw[kq ∅]at b;let c:j-⇑a=0:=by
   let:=(HG.mp b).1;rw[iU]at this;lia
  rw[c]at b;cases b;calc⟨r,by rw[kq (by rw[h.1];lia),h.1,c];rfl,e⟩
def rmk(c:Nat)(b:Int×Int)(w:Rw):Ly Int:=(ends<|w.1.getD c []).filter λt=>decide (b.1<t) && decide (t<=b.2)
def MkC(a:Ly Rw)(c:Nat)(b:Int×Int)(x:Int):Prop:=∃w∈a,x∈rmk c b w
theorem sD:∀R:Prs,⇑(ends R)=2*R.length
 | []=>rfl
 |p :: R=>by
  rw[vQ,ik,ik,sD R,ik];lia
theorem vw{a:Ly Rw}{c:Nat}{b:Int×Int}{x:Int}:x∈(a.map<|rmk c b).flatten↔MkC a c b x:=by
 rw[List.mem_flatten];constructor
 .rintro⟨l,f,d⟩;let(w,e,rfl):=iv.mp f;exact⟨w,e,d⟩
 .rintro⟨w,e,d⟩;calc⟨_,iv.mpr ⟨w,e,U⟩,d⟩
def yD:HO->Prop
 | .frz _ (.lst _)=>True
 | .frz _ _=>False
 | .tbl _=>False
 |_=>True
def So(H H':Hp):Prop:=∀d o,yD o->H d=Lh o->H' d=Lh o
def So.of{H H':Hp}(s:ar H H'):So H H':=λd o _ e=>s d o e
def So.trans{H f c:Hp}(a:So H f)(b:So f c):So H c:=λd o p e=>b d o p<|a d o p e
def So.tups{H H':Hp}(s:So H H'):cG H H':=λd a e=>s d _ trivial e
theorem So.lst{H H':Hp}{a:HR}{xs:Ly V}(s:So H H')(e:H a=Lh (.lst xs)):H' a=Lh (.lst xs):=s _ _ trivial e
theorem So.hide{H:Hp}{a:Ly HR}(f:Fzs H a):So H (hideL H a):=λd o p e=>by
 rw[bH (f.out e λz q=>by rw[q]at p;exact p)];calc e
section
variable{H H':Hp}(s:So H H')
include s
theorem SpA.so{N:HR->Prop}{l:HR}{ps:Prs}(h:SpA N H l ps):SpA N H' l ps:=by let(n,a,e,p):=h;calc⟨n,a,s _ _ trivial e,p.mono s.tups⟩
theorem RL.so{N:HR->Prop}{xs:Ly V}{a:Ly Rw}(h:RL N H xs a):RL N H' xs a:=aS.mono h λ_ _ ⟨d,b,e,n,f,c⟩=>⟨d,b,s _ _ trivial e,n,s _ _ trivial f,aS.mono c λ_ _ p=>SpA.so s p⟩
theorem Dom.so{d c a:HR}{b:Int×Int}(h:Dom d c H a b):Dom d c H' a b:=by let(C,f,g,fs,e,r):=h;calc⟨C,f,g,fs,s _ _ trivial e,r⟩
theorem Tbl.so{c d b t:HR}{a:Ly Rw}{i:Nat}{o:Int×Int}(h:Tbl c d b H t a i o):Tbl c d b H' t a i o:=by
 let(g,j,w,fs,e,f,v,u,r,q,p,n,m,l,k):=h;calc⟨g,j,w,fs,e,f,s _ _ trivial v,u,r,q,s _ _ trivial p,RL.so s n,m,Dom.so s l,k⟩
def MLs.so{as:Ly HR}{a:Ly (Ly Int)}(h:MLs H as a):MLs H' as a:=⟨h.1,λj b e=>let ⟨r,e1,e2⟩:=h.2 j b e;⟨r,e1,s _ _ trivial e2⟩⟩
theorem TD.so{d e c t:HR}{b:Ly V}{bs:Prs}{a:Ly Rw}(h:TD d e c H t b bs a):TD d e c H' t b bs a:=by
 let(g,q,r,fs,f,o,n,m,l,k,j,i):=h;calc⟨g,q,r,fs,f,s _ _ trivial o,n,m,s _ _ trivial l,aS.mono k λ_ _ p=>Dom.so s p,s _ _ trivial j,RL.so s i⟩
end
def B6{ms L:Ly Int}(pw:ms.Pairwise (· < ·))(h:∀x∈ms,x∈L):⇑ms<=L.length:=bf (pw.imp λh=>Int.ne_of_lt h) h
structure RfH(cT cN cW:HR)(H:Hp)(t:HR)(dv:Ly V)(bs:Prs)(Lo:Ly Rw)(L:Nat->Ly Int)(kk:Nat)(i:Nat)(o:Int×Int):Prop where
 td:TD cT cN cW H t dv bs Lo
 tb:Tbl cT cN cW H t Lo i o
 b4:⇑bs<=4
 r60:Lo.length<=60
 row:∀x∈Lo,⇑x.1=⇑bs/\∀c,⇑(x.1.getD c [])<=6
 mrk:∀(c:Nat)(b:Int×Int),bs[c]?=Lh b->⇑(L c)<=kk/\∀x,MkC Lo c b x->x∈L c
 few:(kk+1)^⇑bs<=300
 k57:kk<=57
 le:∀p∈bs,p.1<=p.2
def eQ(K:W.Frag)(H:Hp):Prop:=∀z,W.tabIn K "row_form" = Lh z->TabOk H z.2 [(oY Y78,"row_form.<locals>.<lambda>")]
theorem eQ.same{K:W.Frag}{H H':Hp}(h:eQ K H)(s:ar H H'):eQ K H':=λz e=>(h z e).same s
structure o6(bs:Prs)(Lo:Ly Rw)(cols:Ly (List<|Int×Int)):Prop where
 ok:ij cols bs
 ex:∃css:Ly (Ly Int),⇑css=⇑bs/\cols=List.zipWith (λp cs=>bZ p.1 p.2 cs) bs css/\∀(j:Nat)(p:Int×Int)(cs:Ly Int),bs[j]?=Lh p->css[j]?=Lh cs->cs.Pairwise (· < ·)/\∀x,x∈cs↔MkC Lo j p x
theorem jO{a:Ly Rw}{c:Nat}{b:Int×Int}{x:Int}(h:MkC a c b x):b.1<x/\x<=b.2:=by
 let(e,_,d):=h;let:=(jZ.mp d).2;rw[EA,Lx,Lx]at this;calc this
abbrev mkg(a:Ly Rw)(b:Ly Int):Int:=((msk (cQ a b) ⇑a:Nat):Int)
structure SpG(ps:Ly Int)(m:Int)(n:Nat)(qs:Prs):Prop where
 le:∀p∈qs,p.1<=p.2
 pw:qs.Pairwise λp q=>p.2<q.1
 bel:∀a,ps[n]?=Lh a->∀p∈qs,p.2<a
 iff:∀x,inP qs x=Lj↔∃(k:Nat)(a b:Int),k<n/\ps[k]?=Lh a/\ps[k+1]?=Lh b/\gq m k=Lj/\a<=x/\x<b
 ep:∀p∈qs,p.1∈ps/\p.2+1∈ps
 lenA:2*⇑qs<=n+1
 lenB:(∀p∈qs,∀a,ps[n]?=Lh a->p.2≠a-1)->2*⇑qs<=n
section
variable{ps:Ly Int}{m:Int}{n:Nat}{a b:Int}(hp:Pts ps)(ea:ps[n]?=Lh a)(eb:ps[n+1]?=Lh b)
include hp ea eb
end
def vN(bs:Ly Nat):Ly V:=bs.map λb:Nat=>V.int (b:Int)
theorem jP(bs:Ly Nat):⇑(vN bs)=⇑bs:=by unfold vN;rw[bc]
theorem yE{bs:Ly Nat}{j:Nat}{x:V}(e:(vN bs)[j]?=Lh x):∃b:Nat,x=.int (b:Int)/\bs[j]?=Lh b:=by
 unfold vN at e;rw[jj]at e;cases q:bs[j]? with
 |none=>rw[q]at e;cases e
 |some b=>rw[q]at e;cases e;calc⟨b,U,U⟩
def grow(a:Ly (Ly Nat))(n:Nat):Ly (Ly Nat):=a.flatMap λp=>(List.range n).map λk=>p++[k]
theorem yF{A:Prs}{m n:Int}(f:m<=n)(h:∀e∈ends A,e<=m\/n<e):inP A n=inP A m:=by
 rw[Bool.eq_iff_iff,u9,u9];constructor
 .rintro⟨p,a,c,b⟩;let d:=h _<|fg.mpr ⟨p,a,.inl U⟩;exact⟨p,a,∅,∅⟩
 .rintro⟨p,a,c,b⟩;let d:=h _<|fg.mpr ⟨p,a,.inr U⟩;calc⟨p,a,∅,∅⟩
theorem p7{f g:Nat->Bool}:∀{n:Nat},(∀k,k<n->f k=g k)->msk f n=msk g n
 |0,_=>rfl
 |n+1,h=>by rw[kL,kL,h n<|A9 n,p7 λk a=>h k (zp a)]
theorem vx:∀{a:Ly Int}{ps:Ly (Int×Int)},InB a ps->⇑a=⇑ps/\∀(j:Nat)(c:Int)(p:Int×Int),a[j]?=Lh c->ps[j]?=Lh p->p.1<=c/\c<=p.2
 |_,_,.nil=>⟨U,λj c p e=>by simp at e⟩
 |_,_,.cons h1 h2 h=>by
  let(f,g):=vx h;refine⟨by rw[ik,ik,f],λj c p d b=>?_⟩;cases j with
  |zero=>cases d;cases b;exact⟨h1,h2⟩
  |succ j=>calc g j c p (~~~d) (~~~b)
theorem mI{bs:Prs}{b:Ly Rw}{a:Ly (List<|Int×Int)}(F:o6 bs b a)(G:∀x∈b,⇑x.1=⇑bs){d:Ly Int}(h:InB d bs):mkg b (List.zipWith cH a d)=mkg b d:=by
 let(css,M,e,D):=F.ex;let(J,t):=vx h;let s:⇑(List.zipWith cH a d)=⇑d:=by rw[e,jE,jE];lia
 show((msk (cQ b<|List.zipWith cH a d) ⇑b:Nat):Int)=((msk (cQ b d) ⇑b:Nat):Int);rw[p7 λk E=>?_];let(x,ex):∃x,b[k]?=Lh x:=⟨_,HF E⟩;let i:=HH ex;let I:=G x i;unfold cQ kH;rw[iX,ex,s];show(List.range ⇑d).all (λj=>inP (x.1.getD j [])<|(List.zipWith cH a d).getD j 0)=(List.range ⇑d).all λj=>inP (x.1.getD j [])<|d.getD j 0
 let g:∀j∈List.range ⇑d,inP (x.1.getD j []) ((List.zipWith cH a d).getD j 0)=inP (x.1.getD j []) (d.getD j 0):=λj f=>by
  let f:=jV.mp f;let(c,r):∃c,d[j]?=Lh c:=⟨_,HF f⟩;let(p,q):∃p,bs[j]?=Lh p:=⟨_,HF ∅⟩;let(n,v):∃n,css[j]?=Lh n:=⟨_,HF ∅⟩;let(A,m):=D j p n q v;let(H,b2):=t j c p r q;let u:=vq (css:=css) q v r;rw[←e]at u;let(C,L,K,B):=nP (hi:=p.2) A (λy o=>(jO<|(m y).mp o).1) H b2;rw[iX (l:=List.zipWith cH a d),u,iX (l:=d),r];show inP _ (cH (bZ p.1 p.2 n) c)=inP _ c
  symm
  refine yF C λy o=>?_
  by_cases z:p.1<y/\y<=p.2
  .let:MkC b j p y:=⟨x,i,jZ.mpr ⟨o,by rw[EA,Lx,Lx];exact z⟩⟩;by_cases w:y<=c
   .exact .inl<|B y ((m y).mpr this) w
   .exact .inr ∅
  .by_cases w:y<=p.1
   .exact .inl ∅
   .exact .inr ∅
 rw[Bool.eq_iff_iff,jX,jX];calc⟨λh j f=>by rw[←g j f];exact h j f,λh j f=>by rw[g j f];exact h j f⟩
theorem So.ins{H H':Hp}{a C b:HR}{fs:Ly (Str×V)}(s:So H H')(e:H a=Lh (.ins C b fs)):H' a=Lh (.ins C b fs):=s _ _ trivial e
def BxG{K:W.Frag}{L:Type} [DecidableEq L] (A:Lfp K L)(H:Hp):Ly V->Ly (Ly (Int×Int)×L)->Prop:=Paired λx q=>∃(t b:HR)(u:V),x=.ref t/\H t=Lh (.tup [.ref b,u])/\BxA H b q.1/\A.R H q.2 u
theorem BxG.mono{K:W.Frag}{L:Type} [DecidableEq L] {A:Lfp K L}{H H':Hp}{xs:Ly V}{l:Ly (Ly (Int×Int)×L)}(h:BxG A H xs l)(s:cG H H'):BxG A H' xs l:=Paired.mapP h λ_ _ ⟨t,b,u,e,z,p,r⟩=>⟨t,b,u,e,s _ _ z,p.mono s,A.mono s r⟩
theorem BxG.length{K:W.Frag}{L:Type} [DecidableEq L] {A:Lfp K L}{H:Hp}{xs:Ly V}{l:Ly (Ly (Int×Int)×L)}(h:BxG A H xs l):⇑xs=⇑l:=Paired.length h
theorem tab_ne{K:W.Frag}{x y:Str}{c t c' t':HR}(h:W.tabIn K x=Lh (c,t))(h':W.tabIn K y=Lh (c',t'))(d:t≠t'):∀z a,W.tabIn K x=Lh z->W.tabIn K y=Lh a->z.2≠a.2:=λz a e b=>by
 rw[h]at e;rw[h']at b;cases e;cases b;calc d
theorem tab_keep{H H':Hp}{P b:HR}{L:Ly (Pos×Str)}(h:TabOk H P L)(i:P≠b){ps:Array HN}(e:H b=Lh (.tbl ps))(k:∀d o,d≠b->H d=Lh o->H' d=Lh o):TabOk H' P L:=by
 let(f,r,q,n):=h;calc⟨f,k _ _ i r,q,λp m=>?_⟩;rcases n p m with z|⟨c,g,l,a,j⟩
 .exact .inl z
 .exact .inr ⟨c,g,l,k _ _ (λz=>by rw[z,e]at a;cases a) a,j⟩
def zR{L M:Type} [DecidableEq L] [DecidableEq M] {h:L->M}{g:Ly Int->L}{a:Ly (List<|Int×Int)}{ps:Ly (Int×Int)}(c:ij a ps):oZ h ⇑a (lay g a [])=lay (λd=>h<|g d) a [] :=
 lQ (yx<|iG c []) (iG c []) λe b x y i f=>(gK i<|zQ (mH c [] e b) (iG c []) b).trans (gK f<|mH (g:=λd=>h<|g d) c [] e b).symm
def vdm(a:Ly Rw)(i:Nat)(o:Int×Int)(m:Int):SI:=ver (wf i o.1 o.2)<|pkF a (gq m) ⇑a
theorem Dp{L:Type}{d n:Nat}(e:n=d)(F:Fm L n)(P:(n:Nat)->Fm L n->Prop)(h:P n F):∃G:Fm L d,P d G:=by subst e;calc⟨F,h⟩
def eO(K:W.Frag)(H:Hp):Prop:=∀z,W.tabIn K "verdict_form" = Lh z->TabOk H z.2 [(oY Y83,"verdict_form.<locals>.<lambda>")]
theorem eO.same{K:W.Frag}{H H':Hp}(h:eO K H)(s:ar H H'):eO K H':=λz e=>(h z e).same s
abbrev Dm:=Sum (Int×Int)<|Ly Str
def Dm.b:Dm->Int×Int
 | .inl p=>p
 | .inr zs=>(0,hiW zs)
structure Col where
 prs:Prs
 w:Bool
 sd:Int
structure Ch(ps:Prs):Prop where
 le:∀(i:Nat)(p:Int×Int),ps[i]?=Lh p->p.1<=p.2
 nxt:∀(i:Nat)(p q:Int×Int),ps[i]?=Lh p->ps[i+1]?=Lh q->q.1=p.2+1
structure GQ(c:Col):Prop where
 some_:1<=⇑c.prs
 few:⇑c.prs<=6
 ch:Ch c.prs
 w0:c.w=Lj->∀p,c.prs[0]?=Lh p->p.1=0
 wl:c.w=Lj->∀(i:Nat)(p:Int×Int),c.prs[i]?=Lh p->p.2<40
def Col.lo(c:Col):Int:=(c.prs.headD (0,0)).1
def Col.hi(c:Col):Int:=(c.prs.getLastD (0,0)).2
def Col.b(c:Col):Int×Int:=(c.lo,c.hi)
structure Srt(ps:Prs):Prop where
 le:∀(i:Nat)(p:Int×Int),ps[i]?=Lh p->p.1<=p.2
 lt:∀(i j:Nat)(p q:Int×Int),i<j->ps[i]?=Lh p->ps[j]?=Lh q->p.2<q.1
structure EI(prs:Prs)(b n:Nat)(ps:Prs):Prop where
 srt:Srt ps
 iff:∀x:Int,inP ps x=Lj↔∃(k:Nat)(p:Int×Int),k<n/\prs[k]?=Lh p/\b.testBit k=Lj/\p.1<=x/\x<=p.2
def mrg(a:Prs)(b:Nat):Nat->Prs
 |0=>[]
 |n+1=>if b.testBit n then(if (Lm (0<n) && b.testBit (n-1)) then(mrg a b n).dropLast++[(((mrg a b n).getLastD (0,0)).1,(a.getD n (0,0)).2)]else mrg a b n++[a.getD n (0,0)])else mrg a b n
abbrev BW:=Ly Nat×Int
structure GR(cs:Ly Col)(o:Col)(w:BW):Prop where
 len:⇑w.1=⇑cs
 lt:∀(j b:Nat)(c:Col),w.1[j]?=Lh b->cs[j]?=Lh c->b<2^⇑c.prs
 lo:o.lo<=w.2
 hi:w.2<=o.hi
structure G8(cs:Ly Col)(w:BW)(x:Rw):Prop where
 code:x.2=w.2
 len:⇑x.1=⇑cs
 sp:∀(j:Nat)(ps:Prs)(c:Col)(b:Nat),x.1[j]?=Lh ps->cs[j]?=Lh c->w.1[j]?=Lh b->EI c.prs b ⇑c.prs ps
 is:∀(j:Nat)(ps:Prs)(c:Col)(b:Nat),x.1[j]?=Lh ps->cs[j]?=Lh c->w.1[j]?=Lh b->ps=mrg c.prs b ⇑c.prs
def Dq(bs p:Ly Nat):Bool:=(List.range ⇑p).all λj=>(bs.getD j 0).testBit<|p.getD j 0
def bF(ws:Ly BW)(p:Ly Nat)(k:Nat):Bool:=Dq (ws.getD k ([],0)).1 p
def cnt(ws:Ly BW)(p:Ly Nat):Ly Nat:=(List.range ⇑ws).filter<|bF ws p
structure TOk(cN cW:HR)(H:Hp)(nm wy:Str)(ou:HR)(zs:Ly Str)(dv:Ly V)(Lo:Ly Rw)(bs:Prs)(o:Int×Int):Prop where
 words:∀z∈nm :: zs,isw z=Lj
 once:(nm :: zs).Nodup
 one:1<=⇑zs
 four:⇑zs<=4
 way:wy∈six
 sum:wy=s!"sum" -> ∃dx fs,H ou=Lh (.ins cN dx fs)
 doms:aS dv bs (Dom cN cW H)
 out:Dom cN cW H ou o
 len:⇑bs=⇑zs
 rows:∀w∈Lo,ml bs o w
 few:Lo.length<=200
def mg(c:Col)(b:Nat):Prs:=mrg c.prs b ⇑c.prs
def cel(a:Ly Col)(bs:Ly Nat):Ly Prs:=List.zipWith mg a bs
theorem p8{K:W.Frag}{H:Hp}{Q:VK}{a b:HR}{xs ys:Ly V}(e:SqL K H a xs)(d:SqL K H b ys)(c:⇑xs=⇑ys)(h:∀(j:Nat)(x y:V),xs[j]?=Lh x->ys[j]?=Lh y->DEq K H 60 x y Lj)(q:Q (.bl Lj) H):rA K Ll (.ref a) (.ref b) H Q:=by
 calc⟨a,b,xs,ys,U,U,e,d,.inr ⟨c,λ_=>Lj,h,?_⟩⟩;rw[show(List.range ⇑xs).all (λ_=>Lj)=Lj by simp];calc q
theorem zS{K:W.Frag}{H:Hp}{Q:VK}{a b:HR}{v u:SI}(m:SqT K H a (tp v))(l:SqT K H b (tp u))(h:Q (.bl<|Lm<|v≠u) H):Bx K Lj (.ref a) (.ref b) H Q:=by
 refine⟨a,b,_,_,U,U,m,l,λj=>if j=0 then eqV (.str v.1) (.str u.1)else eqV (.int v.2) (.int u.2),λj x y c d=>?_,?_⟩
 .match j,c,d with
  |0,c,d=>cases c;cases d;exact EqI.flat U U
  |1,c,d=>cases c;cases d;exact EqI.flat U U
  |j+2,c,d=>simp[tp]at c
 .let e:(!((List.range<|min ⇑(tp v) ⇑(tp u)).all (λj=>if j=0 then eqV (.str v.1) (.str u.1)else eqV (.int v.2) (.int u.2)) && ⇑(tp v) == ⇑(tp u)))=Lm (v≠u):=by
   let c:eqV (.str v.1) (.str u.1)=Lm (v.1=u.1):=by unfold eqV;rw[Bool.eq_iff_iff];simp
   let d:eqV (.int v.2) (.int u.2)=Lm (v.2=u.2):=by unfold eqV;rw[Bool.eq_iff_iff];simp
   show(!((List.range 2).all (λj=>if j=0 then eqV (.str v.1) (.str u.1)else eqV (.int v.2) (.int u.2)) && (2 == 2:Bool)))=_;rw[c,d];let(g,f):=v;let(k,i):=u;by_cases o:g=k <;> by_cases n:f=i <;> simp[mu,o,n]
  show Q (.bl (if Lj=Lj then _ else _)) H;rw[Lq U,e];calc h
section
variable(f:Ly Int->SI)(PS:Ly (Ly Nat))
end
section
variable{f:Ly Int->SI}{PS:Ly (Ly Nat)}
end
def gw(ws:Ly BW)(k:Nat):BW:=ws.getD k ([],0)
def mkp(ws:Ly BW)(ks:Ly Nat)(p:Ly Nat):Nat:=msk (λk=>decide (k∈ks) && Dq (gw ws k).1 p) ⇑ws
structure MsI(PS:Ly (Ly Nat))(ws:Ly BW)(ks Ms:Ly Nat):Prop where
 of:∀m∈Ms,∃p∈PS,m=mkp ws ks p
 at_:∀p∈PS,mkp ws ks p∈Ms
theorem hide_ne{H:Hp}{x b:HR}{o:HO}(e:hide H x b=Lh o):b≠x:=λz=>by unfold hide at e;rw[Lq z]at e;cases e
def spn(a:Ly Rw)(c:Nat):Nat:=(a.map λw=>⇑(w.1.getD c [])).sum
theorem zT{a:Ly Rw}{w:Rw}{c:Nat}(h:w∈a):⇑(w.1.getD c [])<=spn a c:=by
 unfold spn;induction a with
 |nil=>cases h
 |cons x a b =>
  rw[jU,vl];rcases bW.mp h with rfl|h
  .lia
  .let:=b h;lia
theorem sE(c:Nat)(b:Int×Int):∀a:Ly Rw,⇑((a.map<|rmk c b).flatten)<=2*spn a c
 | []=>xX _
 |w :: a=>by
  let e:⇑(rmk c b w)<=2*⇑(w.1.getD c []):=yW (oM _ _) (by rw[sD];lia);let d:=sE c b a;unfold spn at d⊢;rw[jU,List.flatten_cons,dy,jU,vl];lia
structure RfB(cT cN cW:HR)(H:Hp)(t:HR)(dv:Ly V)(bs:Prs)(Lo:Ly Rw)(L:Nat->Ly Int)(g:Nat)(i:Nat)(o:Int×Int):Prop where
 td:TD cT cN cW H t dv bs Lo
 tb:Tbl cT cN cW H t Lo i o
 b4:⇑bs<=4
 rn:Lo.length<=200
 row:∀x∈Lo,⇑x.1=⇑bs
 sp:∀c,spn Lo c<=499
 mrk:∀(c:Nat)(b:Int×Int),bs[c]?=Lh b->⇑(L c)<=400/\∀x,MkC Lo c b x->x∈L c
 gr:∀mss:Ly (Ly Int),⇑mss=⇑bs->(∀(c:Nat)(b:Int×Int)(ms:Ly Int),bs[c]?=Lh b->mss[c]?=Lh ms->ms.Pairwise (· < ·)/\∀x,x∈ms↔MkC Lo c b x)->_M.gr bs mss ⇑bs=g
 le:∀p∈bs,p.1<=p.2
theorem RfB.so{d e c t:HR}{H H':Hp}{b:Ly V}{bs:Prs}{a:Ly Rw}{L:Nat->Ly Int}{g i:Nat}{o:Int×Int}(h:RfB d e c H t b bs a L g i o)(s:So H H'):RfB d e c H' t b bs a L g i o:=⟨TD.so s h.td,Tbl.so s h.tb,h.b4,h.rn,h.row,h.sp,h.mrk,h.gr,h.le⟩
def prd:Ly Nat->Nat
 | []=>1
 |n :: ns=>n*prd ns
theorem sF:∀(a:Ly Nat)(n:Nat),prd (a++[n])=prd a*n
 | [],n=>by show n*1=1*n;lia
 |m :: a,n=>by show m*prd (a++[n])=m*prd a*n;rw[sF a n,Nat.mul_assoc]
theorem vy:∀{a:Ly Nat}{n:Nat},n∈a->(∀m∈a,1<=m)->n<=prd a/\1<=prd a
 |m :: a,n,h,h1=>by
  let f:1<=prd a:=by
   clear h;induction a with
   |nil=>exact xX _
   |cons k a e =>
    let:=h1 k (by simp);let:=e λc b=>h1 c (by rcases bW.mp b with rfl|b;calc fH;simp[b])
    exact Nat.mul_pos ∅ ∅
  let b:=h1 m fH;calc⟨?_,Nat.mul_pos ∅ ∅⟩;rcases bW.mp h with rfl|h
  .show n<=n*prd a;exact Nat.le_mul_of_pos_right n ∅
  .let:=(vy h λc d=>h1 c<|iE _ d).1;show n<=m*prd a;calc yW this<|Nat.le_mul_of_pos_left _ ∅
theorem qK{L:Type} [DecidableEq L] {g:Ly Int->L}:∀{a:Ly (List<|Int×Int)}{ps:Ly (Int×Int)},ij a ps->∀b:Ly Int,⇑(bxs ⇑a<|lay g a b)<=prd (a.map List.length)
 | [],_,_,_=>xX _
 |c :: a,ps,h,b=>by
  cases h with
  | @cons _ _ p ps hne hc h =>
  let k:=gm<|yj (λq=>lay g a<|b++[q.1]) hc;let e:⇑(gI<|c.map λp=>((p.1,p.2,lay g a<|b++[p.1]):T3a (Fm L ⇑a)))<=⇑c:=yW (p5 _) (by rw[bc];exact xX _);let d:⇑(bxs (⇑a+1) (show Fm L (⇑a+1)from gI (c.map λp=>((p.1,p.2,lay g a<|b++[p.1]):T3a (Fm L ⇑a)))))<=⇑(gI<|c.map λp=>((p.1,p.2,lay g a<|b++[p.1]):T3a (Fm L ⇑a)))*prd (a.map List.length):=sC λt f=>by
   rw[bc];let(i,e,d):=k.mem t f;let(q,_,rfl):=iv.mp e;rw[←d];exact qK h _
  calc yW d<|Nat.mul_le_mul_right _ e
theorem B7{bs:Prs}{d:Ly Rw}{css:Ly (Ly Int)}(k:⇑css=⇑bs)(h:∀(j:Nat)(p:Int×Int)(a:Ly Int),bs[j]?=Lh p->css[j]?=Lh a->a.Pairwise (· < ·)/\∀x,x∈a↔MkC d j p x){j:Nat}{p:Int×Int}{a:Ly Int}(e:bs[j]?=Lh p)(f:css[j]?=Lh a):⇑(bZ p.1 p.2 a)=gl bs css j:=by
 let(g,i):=h j p a e f;rw[gs,qB g (ms:=a) (lo:=p.1) (hi:=p.2) λc=>⟨λb=>⟨b,jO<|(i c).mp b⟩,λb=>b.1⟩];unfold gl;rw[iX,e,iX,f];rfl
theorem RfB.prd{C D B t:HR}{H:Hp}{A:Ly V}{bs:Prs}{f:Ly Rw}{L:Nat->Ly Int}{g i:Nat}{o:Int×Int}(h:RfB C D B H t A bs f L g i o){a:Ly (List<|Int×Int)}(w:o6 bs f a):_M.prd (a.map List.length)=g:=by
 let(d,q,e,m):=w.ex;rw[←h.gr d q λc b u z y=>m c b u z y];let j:⇑a=⇑bs:=by rw[e,jE];lia
 let l:∀n,n<=⇑bs->_M.prd ((a.take n).map List.length)=_M.gr bs d n:=λn=>by
  induction n with
  |zero=>exact λ_=>U
  |succ n v =>
   intro E;let(p,r):∃p,bs[n]?=Lh p:=⟨_,HF ∅⟩;let(k,s):∃k,d[n]?=Lh k:=⟨_,HF ∅⟩;let x:a[n]?=Lh (bZ p.1 p.2 k):=by rw[e,ny,r,s]
   rw[take_snoc x,dW,jU,qc,sF,v ∅,B7 q m r s];rfl
 let:=l ⇑bs<|xX _;rw[←j,gd]at this;rw[this,j]
theorem RfB.cl{y z x t:HR}{H:Hp}{w:Ly V}{bs:Prs}{d:Ly Rw}{L:Nat->Ly Int}{g i:Nat}{o:Int×Int}(h:RfB y z x H t w bs d L g i o){a:Ly (List<|Int×Int)}(q:o6 bs d a):∀c∈a,⇑c<=g:=λc r=>by
 rw[←h.prd q];calc(vy (iv.mpr ⟨c,r,U⟩) λm k=>?_).1;let(A,l,rfl):=iv.mp k;let(n,B,e,_):=q.ex;let(j,b):=jY l;rw[e]at b;let s:=(HG.mp b).1;rw[jE]at s;let(p,u):∃p,bs[j]?=Lh p:=⟨_,HF ∅⟩;let(f,v):∃f,n[j]?=Lh f:=⟨_,HF ∅⟩;rw[ny,u,v]at b;let b:bZ p.1 p.2 f=A:=Option.some.inj b;rw[←b,gs];lia
theorem B8{K:W.Frag}{H:Hp}{xs:Ly V}{L:Ly (Ly (Int×Int)×Int)}(h:BxG (K:=K) nJ H xs L):BxL H xs L:=Paired.mapP h λ_ _ ⟨t,b,u,e,z,p,r⟩=>⟨t,b,e,by have r:u=.int _:=r;rw[r]at z;exact z,p⟩
def mq(n:Nat)(ks:Ly Nat)(a:Nat->Bool):Nat:=msk (λk=>decide (k∈ks) && a k) n
def PtB(bs:Prs)(a:Ly Rw)(c:Nat->Bool):Prop:=∃b,InB b bs/\c=cQ a b
structure MsR(bs:Prs)(Lo:Ly Rw)(ks Ms:Ly Nat):Prop where
 of:∀m∈Ms,∃φ,PtB bs Lo φ/\m=mq Lo.length ks φ
 at_:∀φ,PtB bs Lo φ->mq Lo.length ks φ∈Ms
def Dr(a:Int)(b:Nat):Int×Int:=(a+(b:Int),a+(b:Int))
structure RwI(low:Int)(own:Nat->Int)(P:Nat->Prop)(R:Ly Rw):Prop where
 row:∀w∈R,∃sp:Prs,w.1=[sp]/\sp≠[]/\⇑sp<=100/\∀p∈sp,∃a:Nat,P a/\p=Dr low a/\w.2=own (a%2)
 cov:∀a,P a->∃w∈R,∃sp:Prs,w.1=[sp]/\Dr low a∈sp/\w.2=own (a%2)
 one:∀(a j j':Nat)(w w':Rw),R[j]?=Lh w->R[j']?=Lh w'->kH w.1 [low+(a:Int)]=Lj->kH w'.1 [low+(a:Int)]=Lj->j=j'
section
variable{low:Int}{own:Nat->Int}{P S:Nat->Prop}{R:Ly Rw}
end
section
variable{low:Int}{own:Nat->Int}{P:Nat->Prop}{R:Ly Rw}{place sz:Nat}{other:Int}{more:Bool}{i:Nat}{o:Int×Int}
end
theorem vz{as:Ly HR}{j:Nat}{r:HR}(e:as[j]?=Lh r):(as.map V.ref)[j]?=↑r:=by rw[jj,e];rfl
theorem Lk.cons_inv{K:W.Frag}{H:Hp}{v r:V}{c:Int}{b:Ly Int}(h:Lk K H v (c :: b) r):∃(a:HR)(xs:Ly V)(ts:Ly Tri)(j:Nat)(t:Tri),v=.ref a/\SqT K H a xs/\T3 H xs ts/\At ts c j t/\Lk K H t.2.2 b r:=by
 cases h with
 |cons e d f h=>calc⟨_,_,_,_,_,U,e,d,f,h⟩
theorem yG{d:Type}{R:d->V->Prop}{H:Hp}:∀{f:Ly (T3a d)}{xs:Ly V},FmL R H f xs->∃ts:Ly Tri,T3 H xs ts/\∀(i:Nat)(t:T3a d),f[i]?=Lh t->∃u,ts[i]?=Lh (t.1,t.2.1,u)/\R t.2.2 u
 | [],xs,h=>by
  let:xs=[]:=sQ h.1;subst this;exact⟨[],⟨U,λi t e=>by simp at e⟩,λi t e=>by simp at e⟩
 |t :: f,[],h=>by have:=h.1;simp at this
 |t :: f,x :: xs,h=>by
  let(r,u,a,b,c):=h.2 0 t U;cases a;let(ts,g,j):=yG (f:=f) (xs:=xs) ⟨~~~h.1,λi v e=>~~~h.2 (i+1) v (~~~e)⟩;refine⟨(t.1,t.2.1,u) :: ts,⟨by rw[ik,ik,g.1],λi v e=>?_⟩,λi v e=>?_⟩
  .match i,e with
   |0,e=>cases e;exact⟨r,U,b⟩
   |i+1,e=>exact g.2 i v (~~~e)
  .match i,e with
   |0,e=>cases e;exact⟨u,U,c⟩
   |i+1,e=>calc j i v (~~~e)
theorem yH{L:Type} [DecidableEq L] {A:Lfp K L}{K:W.Frag}{H:Hp}{n:Nat}{F:Fm L n}{k:Ly Int}{x:L}(h:Tel n F k x):∀{v:V},FmV A H n F v->∃u,A.R H x u/\Lk K H v k u:=by
 induction h with
 |nil x=>intro v g;exact⟨v,g,.nil _⟩
 | @cons n f c k x j t e1 e2 e3 _ ih =>
  intro v g;let(a,e,rfl,q,r):∃(a:HR)(e:Ly V),v=.ref a/\H a=Lh (.tup e)/\FmL (FmV A H n) H f e:=g;let(D,s,m):=yG r;let(u,B,p):=m j t e1;let(z,o,l):=ih p;calc⟨z,o,.cons (SqT.of q) s ⟨B,e2,λi w hi y=>?_⟩ l⟩;let b:i<⇑f:=by have:=(HG.mp e1).1;lia
  let(C,d,_):=m i _<|HF b;rw[y]at d;cases d;calc e3 i _ hi<|HF b
abbrev PrO(ps:Ly (Int×Int))(b css:Ly (Ly Int)):Prop:=∀(j:Nat)(p:Int×Int)(d a:Ly Int),ps[j]?=Lh p->b[j]?=Lh d->css[j]?=Lh a->a.Pairwise (· < ·)/\(∀c,c∈a↔(c∈d/\p.1<c/\c<=p.2))/\⇑a<64
def cM(ls:Ly (Ly Int)):Ly (Ly Int):=ls.foldl (λa own=>a.flatMap λb=>own.map λx=>b++[x]) [[]]
theorem fw(ls:Ly (Ly Int))(own:Ly Int):cM (ls++[own])=(cM ls).flatMap λa=>own.map λx=>a++[x]:=by
 unfold cM;rw[List.foldl_append];rfl
theorem eL(A:Ly (Ly Int))(own:Ly Int):⇑(A.flatMap λc=>own.map λx=>c++[x])=A.length*⇑own:=by
 induction A with
 |nil=>simp
 |cons a A b=>rw[List.flatMap_cons,dy,b,bc,ik,Dl,Nat.add_comm]
theorem iJ{ls:Ly (Ly Int)}:∀(i:Nat),i<=⇑ls->∀b,b∈cM (ls.take i)↔(⇑b=i/\∀(j:Nat)(x:Int)(l:Ly Int),b[j]?=Lh x->ls[j]?=Lh l->x∈l)
 |0,_,b=>by
  rw[oj];show b∈[[]]↔_;rw[gZ];exact⟨λh=>by subst h;exact⟨U,λj x l e=>by simp at e⟩,λh=>sQ h.1⟩
 |i+1,hi,b=>by
  let(own,m):∃own,ls[i]?=Lh own:=⟨_,HF ∅⟩;rw[take_snoc m,fw,tE];constructor
  .rintro⟨c,d,q⟩;let(x,n,rfl):=iv.mp q;let(f,k):=(iJ i ∅ c).mp d;refine⟨by rw[dy,f];rfl,λj y l a g=>?_⟩;by_cases r:j<⇑c
   .rw[ji r]at a;exact k j y l a g
   .let o:j=⇑c:=by
     have:=(HG.mp a).1;simp at this;lia
    subst o;simp at a;subst a;rw[f,m]at g;cases g;exact n
  .rintro⟨f,k⟩;rcases wM b with d|⟨c,x,d⟩
   .subst d;simp at f
   .rw[wN]at d;subst d;let p:⇑c=i:= ~~~f
    calc⟨c,(iJ i ∅ c).mpr ⟨p,λj y l a g=>k j y l (by rw[ji (HG.mp a).1];exact a) g⟩,iv.mpr ⟨x,k i x own (by rw[←p];simp) m,U⟩⟩
theorem jB{ls:Ly (Ly Int)}(h:∀l∈ls,l≠[]){i:Nat}:∀j,i<=j->⇑(cM<|ls.take i)<=⇑(cM<|ls.take j)
 |0,hj=>by rw[show i=0 by lia];exact xX _
 |j+1,hj=>by
  by_cases e:i=j+1
  .rw[e];exact xX _
  .refine yW (jB h (i:=i) j ∅) ?_;by_cases b:j<⇑ls
   .let(own,a):∃own,ls[j]?=Lh own:=⟨_,HF b⟩;rw[take_snoc a,fw,eL];let:own≠[]:=h own<|HH a;exact Nat.le_mul_of_pos_right _<|List.length_pos_iff.mpr this
   .rw[lT ∅,lT ∅];calc xX _
theorem vA{ps:Ly (Int×Int)}{a css:Ly (Ly Int)}(j:⇑css=⇑ps)(h:⇑a=⇑ps)(c:PrO ps a css):∀i,i<=⇑ps->⇑(cM<|(List.zipWith (λp g=>p.1 :: g) ps css).take i)=gr ps a i
 |0,_=>rfl
 |i+1,hi=>by
  let(p,f):∃p,ps[i]?=Lh p:=⟨_,HF ∅⟩;let(d,k):∃d,a[i]?=Lh d:=⟨_,HF ∅⟩;let(b,l):∃b,css[i]?=Lh b:=⟨_,HF ∅⟩;let e:(List.zipWith (λ(p:Int×Int) g=>p.1 :: g) ps css)[i]?=Lh (p.1 :: b):=by rw[ny,f,l]
  rw[take_snoc e,fw,eL,vA j h c i ∅];show gr ps a i*(⇑b+1)=gr ps a i*gl ps a i;let(n,m,_):=c i p d b f k l;let:⇑b+1=gl ps a i:=by
   rw[qB n m];unfold gl;rw[iX,f,iX,k];rfl
  rw[this]
theorem uD{ps:Ly (Int×Int)}{d css b:Ly (Ly Int)}{a:Ly Int}(F:⇑css=⇑ps)(E:⇑b=⇑ps)(D:⇑d=⇑ps)(g:InB a ps)(q:PrO ps d css)(r:PrO ps d b):List.zipWith cH (List.zipWith (λp a=>bZ p.1 p.2 a) ps css) a∈cM (List.zipWith (λp a=>p.1 :: a) ps b):=by
 let G:=⇑g;let H:⇑(List.zipWith (λ(p:Int×Int) a=>p.1 :: a) ps b)=⇑ps:=by rw[jE];lia
 let:=(iJ (ls:=List.zipWith (λ(p:Int×Int) a=>p.1 :: a) ps b) ⇑ps ∅ (List.zipWith cH (List.zipWith (λp a=>bZ p.1 p.2 a) ps css) a)).mpr ⟨by rw[jE,jE];lia,λj x l t n=>?_⟩
 .rw[lT ∅]at this;exact this
 .let I:j<⇑ps:=by have:=(HG.mp n).1;lia
  let(c,w):∃c,a[j]?=Lh c:=⟨_,HF ∅⟩;let(p,f):∃p,ps[j]?=Lh p:=⟨_,HF ∅⟩;let(i,u):∃i,d[j]?=Lh i:=⟨_,HF ∅⟩;let(k,v):∃k,css[j]?=Lh k:=⟨_,HF ∅⟩;let(m,h):∃m,b[j]?=Lh m:=⟨_,HF ∅⟩;let(z,s,_):=q j p i k f u v;let(_,o,_):=r j p i m f u h;let(B,b2):=g.get j c p w f;let(L,C,K,J):=nP (hi:=p.2) z (λy A=>((s y).mp A).2.1) B b2;rw[vq f v w]at t;cases t;rw[ny,f,h]at n;cases n;rcases C with e|e
  .rw[e];exact fH
  .exact iE _<|(o _).mpr<|(s _).mp e
theorem p9{ps:Ly (Int×Int)}{d a:Ly (Ly Int)}(v:⇑a=⇑ps)(u:⇑d=⇑ps)(m:∀p∈ps,p.1<=p.2)(l:PrO ps d a){b:Ly Int}(h:b∈cM (List.zipWith (λp b=>p.1 :: b) ps a)):InB b ps:=by
 let x:⇑(List.zipWith (λ(p:Int×Int) b=>p.1 :: b) ps a)=⇑ps:=by rw[jE];lia
 let r:b∈cM ((List.zipWith (λ(p:Int×Int) b=>p.1 :: b) ps a).take ⇑ps):=by rw[lT ∅];exact h
 let(q,o):=(iJ ⇑ps ∅ b).mp r;refine qG q λj c p t i=>?_
 let y:j<⇑ps:=(HG.mp i).1;let(k,s):∃k,d[j]?=Lh k:=⟨_,HF ∅⟩;let(g,f):∃g,a[j]?=Lh g:=⟨_,HF ∅⟩;let(_,n,_):=l j p k g i s f;let:=o j c (p.1 :: g) t (by rw[ny,i,f]);let w:=m p<|HH i;rcases bW.mp this with e|e
 .lia
 .let:=(n c).mp e;lia
theorem qL{p d:Hp}{c:Ly HR}{css:Ly (Ly Int)}{l t:HR}{o:Ly Int}{zs:Ly V}(h:MLs p c css)(k:∀r∈c,r≠l)(s:ar p d)(e:d t=Lh (.lst<|o.map V.int))(i:t≠l):MLs (upd d l<|.lst zs) (c++[t]) (css++[o])/\∀r∈c++[t],r≠l:=by
 refine⟨⟨by rw[dy,dy,h.1];rfl,λj q b=>?_⟩,λr a=>?_⟩
 .by_cases m:j<⇑css
  .rw[ji m]at b;let(r,n,f):=h.2 j q b;exact⟨r,by rw[ji (by rw[h.1];exact m)];exact n,(ay<|k r<|HH n).trans<|s _ _ f⟩
  .let g:j=⇑css:=by
    let:=(HG.mp b).1;simp at this;lia
   subst g;simp at b;subst b;exact⟨t,by rw[←h.1];simp,(ay i).trans e⟩
 .rcases hZ.mp a with a | a
  .exact k r a
  .rw[gZ.mp a];calc i
def vol(B:Ly (Int×Int)):Int:=B.foldl (λv p=>v*(p.2-p.1+1)) 1
theorem nU{B:Ly (Int×Int)}{i:Nat}{p:Int×Int}(e:B[i]?=Lh p):vol (B.take<|i+1)=vol (B.take i)*(p.2-p.1+1):=by unfold vol;rw[take_snoc e,List.foldl_append];rfl
theorem yB.highs{B ps:Ly (Int×Int)}(h:yB B ps):InB (B.map (·.2)) ps:=qG (by rw[bc,h.len]) λj c p a e=>by
 rw[jj]at a;let(b,d,rfl):=Option.map_eq_some_iff.mp a;let:=h.get j b p d e;calc⟨∅,this.2.2⟩
theorem B9(B:Ly (Int×Int)):∀v:Int,B.foldl (λv p=>v*(p.2-p.1+1)) v=v*B.foldl (λv p=>v*(p.2-p.1+1)) 1:=by
 induction B with
 |nil=>intro v;exact(Int.mul_one v).symm
 |cons p B a =>
  intro v;rw[sO,sO,a,a<|1*(p.2-p.1+1),G2,Int.mul_assoc]
theorem sG(p:Int×Int)(B:Ly (Int×Int)):vol (p :: B)=(p.2-p.1+1)*vol B:=by
 unfold vol;rw[sO,B9,G2]
def jQ:Ly (Ly (Int×Int)×Int)->Int
 | []=>0
 |q :: r=>vol q.1+jQ r
theorem sH:∀a b:Ly (Ly (Int×Int)×Int),jQ (a++b)=jQ a+jQ b
 | [],b=>(Int.zero_add _).symm
 |q :: a,b=>by show vol q.1+jQ (a++b)=vol q.1+jQ a+jQ b;rw[sH a b,Int.add_assoc]
theorem sI(p:Int×Int):∀l:Ly (Ly (Int×Int)×Int),jQ (l.map λq=>(p :: q.1,q.2))=(p.2-p.1+1)*jQ l
 | []=>(Int.mul_zero _).symm
 |q :: l=>by
  show vol (p :: q.1)+jQ (l.map λq=>(p :: q.1,q.2))=(p.2-p.1+1)*(vol q.1+jQ l);rw[sG,sI p l,Int.mul_add]
theorem yI:∀{n:Nat}{F:Fm Int n}{ps:Ly (Int×Int)},fm n F ps->jQ (bxs n F)=vol ps
 |0,F,ps,a=>by
  let a:ps=[]:=a;rw[a];rfl
 |n+1,F,ps,a=>by
  let(f,rfl):∃f:Ly (T3a<|Fm Int n),(f:Fm Int (n+1))=F:=⟨F,U⟩;let(p,r,rfl,l,b,m,k):ShS (fm n) f ps:=a;let j:∀(g:Ly (T3a<|Fm Int n))(lo hi:Int),Ch3 g lo hi->(∀t∈g,fm n t.2.2 r)->jQ (bxs (n+1) (g:Fm Int (n+1)))=(hi-lo+1)*vol r:=by
   intro g;induction g with
   |nil =>
    intro lo hi h _;let h:lo=hi+1:=h;show(0:Int)=_;rw[show hi-lo+1=0 by lia,Int.zero_mul]
   |cons t g d =>
    intro lo hi h c;let o:=h.1;let e:bxs (n+1) (show Fm Int (n+1)from t :: g)=bxs (n+1) (show Fm Int (n+1) from[t])++bxs (n+1) (show Fm Int (n+1)from g):=qI n [t] g;rw[e,sH,vt,sI (t.1,t.2.1),yI<|c t fH,d _ _ h.2.2 λu i=>c u<|iE _ i,←Int.add_mul]
    congr 1
    show t.2.1-t.1+1+(hi-(t.2.1+1)+1)=hi-lo+1;lia
  rw[j f p.1 p.2 b k,sG]
def LfV(K:W.Frag)(H:Hp)(u:V):Prop:=(∃x:Int,u=.int x)\/∃(r:HR)(x:SI),u=.ref r/\Vd K H r x
def zU{K:W.Frag}:∀(H:Hp)(x:Int)(u:V),(nJ (K:=K)).R H x u->LfV K H u:=λH x u h=>.inl ⟨x,h⟩
theorem Ca{K:W.Frag}:∀(H:Hp)(x:SI)(u:V),(LVd (K:=K)).R H x u->LfV K H u:=λH x u h=>by
 let(r,e,h):=h;calc .inr ⟨r,x,e,h⟩
theorem Ds{c A B:Prop} [Decidable c] (a:¬ c)(h:A):if (!decide c)=Lj then A else B:=by rw[Lu a];calc fX h
def Cb{i:Nat}{z:Str}(h:six[i]?=Lh z):i<6:=(HG.mp h).1
theorem p40:(10:Int)^(40:Int).toNat=((10^40:Nat):Int):=⋯
structure BdI(ns:Ly Int)(bs:Prs):Prop where
 len:(⇑bs:Int)=1+ns.getD 0 0%3
 ok:∀(k:Nat)(b:Int×Int),bs[k]?=Lh b->b.1<=b.2/\b.2-b.1<((10^40:Nat):Int)/\(ns.getD (2+2*k) 0%((10^40:Nat):Int)%3=1->b.1=0/\b.2<=7)
theorem BdI.n3{a:Ly Int}{bs:Prs}(h:BdI a bs):1<=⇑bs/\⇑bs<=3:=by
 let:=h.len;let c:=GN (a.getD 0 0) (show(3:Int)≠0 by decide);let b:=GO (a.getD 0 0) (show(0:Int)<3 by decide);lia
def w8:Ly Str:=[s!"ab",s!"a",s!"b",s!"ba",s!"none",s!"fact",s!"aab",s!"zzzzzzzzzzzz"]
theorem zV:Good w8:=⟨⋯,⋯,(by intro z a;unfold w8 at a;simp only[bW,jC,or_false]at a;rcases a with rfl|rfl|rfl|rfl|rfl|rfl|rfl|rfl <;> decide+kernel),by unfold w8;decide+kernel⟩
theorem Good.take{zs:Ly Str}(h:Good zs){n:Nat}(c:1<=n):Good (zs.take n):=by
 let:=h.some_;let b:=h.few;calc⟨by rw[iT];lia,by rw[iT];lia,λz a=>h.words z<|ri a,h.once.sublist<|tu _ _⟩
theorem yJ{xs:Ly Str}{n:Int}(h:0<=n):qi (xs.map V.str) Li (Lh n)=(xs.take n.toNat).map V.str:=by
 unfold qi;rw[show HT.sIx ⇑(xs.map V.str) 0 Li=0 from U,List.drop_zero,Nat.sub_zero,List.map_take];rw[show HT.sIx ⇑(xs.map V.str) ⇑(xs.map V.str) (Lh n)=min n.toNat ⇑(xs.map V.str) by show(if n<0 then _ else _)=_;rw[Lp ∅]];rcases Nat.le_total n.toNat ⇑(xs.map V.str) with a|a
 .rw[CO a]
 .rw[Nat.min_eq_right a,gd,lT a]
def tn3(n:Nat):Nat:=if n=1 then 8 else if n=2 then 4 else 2
theorem AV{a:Ly Int}{i:Int}{n:Nat}(h:i=(n:Int)):a.getD i.toNat 0=a.getD n 0:=by rw[h];rfl
structure PoI(bs:Prs)(pls:Ly (Ly Int)):Prop where
 len:⇑pls=⇑bs
 ok:∀(k:Nat)(pl:Ly Int)(b:Int×Int),pls[k]?=Lh pl->bs[k]?=Lh b->⇑pl=tn3 ⇑bs/\∀x∈pl,b.1<=x/\x<=b.2
def EdQ(b:Int×Int)(pl:Ly Int)(ps:Prs):Prop:=∀x∈ps,b.1<=x.1/\x.1<=x.2/\x.2<=b.2/\(x.1=b.1\/x.1∈pl\/x.1-1∈pl)/\(x.2=b.2\/x.2∈pl\/x.2+1∈pl)
structure RwQ(bs:Prs)(pls:Ly (Ly Int))(outs:Ly Int)(w:Rw):Prop where
 len:⇑w.1=⇑bs
 ok:∀(k:Nat)(ps:Prs)(b:Int×Int)(pl:Ly Int),w.1[k]?=Lh ps->bs[k]?=Lh b->pls[k]?=Lh pl->EdQ b pl ps/\⇑ps<=2
 out:w.2∈outs
def pl1{H:Hp}{t l:HR}{a b:Int}(d:H t=Li)(c:upd H t (.tup [.int a,.int b]) l=Li):ar H (upd (upd H t<|.tup [.int a,.int b]) l<|.lst [.ref t])/\upd (upd H t<|.tup [.int a,.int b]) l (.lst [.ref t]) l=Lh (.lst [.ref t])/\PL (upd (upd H t<|.tup [.int a,.int b]) l<|.lst [.ref t]) [.ref t] [(a,b)] :=
 ⟨(ai d _).trans<|ai c _,ae,.cons ⟨t,U,ai c _ _ _ ae⟩ .nil⟩
def pl2{H:Hp}{t u l:HR}{a b c d:Int}(g:H t=Li)(f:upd H t (.tup [.int a,.int b]) u=Li)(e:upd (upd H t<|.tup [.int a,.int b]) u (.tup [.int c,.int d]) l=Li):ar H (upd (upd (upd H t<|.tup [.int a,.int b]) u<|.tup [.int c,.int d]) l<|.lst [.ref t,.ref u])/\upd (upd (upd H t<|.tup [.int a,.int b]) u<|.tup [.int c,.int d]) l (.lst [.ref t,.ref u]) l=Lh (.lst [.ref t,.ref u])/\PL (upd (upd (upd H t<|.tup [.int a,.int b]) u<|.tup [.int c,.int d]) l<|.lst [.ref t,.ref u]) [.ref t,.ref u] [(a,b),(c,d)] :=
 ⟨((ai g _).trans<|ai f _).trans<|ai e _,ae,.cons ⟨t,U,ai e _ _ _<|ai f _ _ _ ae⟩<|.cons ⟨u,U,ai e _ _ _ ae⟩ .nil⟩
theorem yK{pl:Ly Int}(h:0<⇑pl)(x:Int):∃y,y∈pl/\atI (pl.map V.int) (x%((⇑(pl.map V.int):Nat):Int))=Lh (.int y):=by
 rw[bc];let b:=GN x (show(⇑pl:Int)≠0 by lia);let a:=GO x (show(0:Int)<(⇑pl:Int) by lia);let e:=HF (l:=pl) (i:=(x%(⇑pl:Int)).toNat) ∅;generalize pl[(x%(⇑pl:Int)).toNat]=f at e;calc⟨f,HH e,?_⟩;let:x%(⇑pl:Int)=(((x%(⇑pl:Int)).toNat:Nat):Int):=∅
 rw[this];calc bh<|get_map e
theorem fg{x:Int}:∀{ps:Prs},x∈ends ps↔∃p∈ps,x=p.1\/x=p.2+1:=by
 intro ps;induction ps with
 |nil=>exact⟨(λh=>nomatch h),(λ⟨_,h,_⟩=>nomatch h)⟩
 |cons p r c =>
  show x∈p.1 :: (p.2+1) :: ends r↔_;rw[bW,bW,c];constructor
  .rintro(h|h|⟨q,a,b⟩)
   .exact⟨p,.head _,.inl h⟩
   .exact⟨p,.head _,.inr h⟩
   .exact⟨q,.tail _ a,b⟩
  .rintro⟨q,a,b⟩;rcases bW.mp a with rfl|a
   .exact b.elim .inl λh=>.inr<|.inl h
   .exact .inr<|.inr ⟨q,a,b⟩
theorem kM(n:Nat):1<=tn3 n/\tn3 n<=8:=by unfold tn3;split <;> (try split) <;> lia
theorem nV(f:Nat->Bool):∀n:Nat,(((List.range n).filter f).map λj=>(2:Int)^j).sum=((msk f n:Nat):Int)
 |0=>rfl
 |n+1=>by
  rw[mu,lz,dW,wm,nV f n];show _=(((if f n then 2^n else 0)+msk f n:Nat):Int);by_cases h:f n=Lj
  .rw[uP h,List.filter_nil,Lq h,jU,qc,vl,List.sum_nil,Int.natCast_add,Int.natCast_pow];show(msk f n:Int)+((2:Int)^n+0)=(2:Int)^n+(msk f n:Int);generalize (2:Int)^n=A;lia
  .rw[uQ h,List.filter_nil,Lp h];show(msk f n:Int)+0=((0+msk f n:Nat):Int);lia
theorem all_filter{n:Nat}{f:Nat->Bool}:⇑((List.range n).filter f)=n↔(List.range n).all f=true:=by
 rw[jX];constructor
 .intro h x a;let:=List.length_filter_eq_length_iff.mp (show⇑((List.range n).filter f)=⇑(List.range n) by rw[kW];exact h);exact this x a
 .intro h;rw[List.filter_eq_self.mpr h,kW]
def NoP(H:Hp)(l:HR):Prop:=∀d o,yD o->H d=Lh o->d≠l
theorem gu{K:W.Frag}{H c:Hp}(k:eQ K H)(j:eO K H)(i:∀z h,W.tabIn K "row_form" = Lh z->W.tabIn K "verdict_form" = Lh h->z.2≠h.2) (f:∀z,W.tabIn K "row_form" = Lh z->TabOk c z.2 [(oY Y78,"row_form.<locals>.<lambda>")]/\∀d o,d≠z.2->H d=Lh o->c d=Lh o) (hz:∃z,W.tabIn K "row_form" = Lh z):eO K c:=λz e=>by
 let(b,a):=hz;let(l,g,_):=k b a;calc tab_keep (j z e) (i b z a e).symm g (f b a).2
theorem vB{K:W.Frag}{H:Hp}{as bs:Ly HR}{d:Ly (Ly Int)}(h:MLs H as d)(h':MLs H bs d){j:Nat}{x y:V}(t:(as.map V.ref)[j]?=Lh x)(s:(bs.map V.ref)[j]?=Lh y):DEq K H 60 x y true:=by
 let(r,rfl,l):=iI t;let(w,rfl,f):=iI s;let o:=(HG.mp l).1;let(e,m):∃e,d[j]?=Lh e:=⟨_,HF (by rw[←h.1];exact o)⟩;let(v,k,q):=h.2 j e m;let(u,g,p):=h'.2 j e m;rw[l]at k;rw[f]at g;cases k;cases g;refine zO (n:=59) (SqL.of q) (SqL.of p) U λi x y a b=>?_
 rw[a]at b;cases b;let(c,rfl,_):=of_map a;calc qz _
theorem CL.new{H:Hp}{D:HR}{xs:Ly V}{a:Ly Prs}(h:CL NT H xs a)(e:H D=Li):CL (· ≠ D) H xs a:=aS.mono h λ_ _ ⟨_,c,b,p⟩=>⟨(λz=>by rw[z,e]at b;cases b),c,b,p⟩
def x3:Ly Str:=[s!"x",s!"xy",s!"y"]
theorem Dt{n:Nat}(d:1<=n)(c:n<=3){nm:Str}(b:nm=s!"t" \/ nm=s!"u"):(∀z∈nm :: x3.take n,isw z=Lj)/\(nm :: x3.take n).Nodup/\⇑(x3.take n)=n:=by
 rcases(show n=1\/n=2\/n=3 by lia)with rfl|rfl|rfl <;> rcases b with rfl|rfl <;> calc⟨?_,?_,U⟩ <;> first|(decide+kernel)|(intro z a;simp only[x3,List.take,bW,jC,or_false]at a;rcases a with rfl|rfl|rfl|rfl <;> decide+kernel)|(intro z a;simp only[x3,List.take,bW,jC,or_false]at a;rcases a with rfl|rfl|rfl <;> decide+kernel)|(intro z a;simp only[x3,List.take,bW,jC,or_false]at a;rcases a with rfl|rfl <;> decide+kernel)
def wdB(a:Ly Int)(k:Nat):Bool:=Lm<|V.int (a.getD (2+2*k) 0%((10^40:Nat):Int)%3)=V.int 1
theorem vC{B:Ly (Int×Int)}(c:∀p∈B,0<=p.2-p.1/\p.2-p.1<=10^58):∀i,i<=B.length->1<=vol (B.take i)/\vol (B.take i)<=((2:Int)^193)^i
 |0,_=>⟨Int.le_refl _,Int.le_refl _⟩
 |i+1,hi=>by
  let(a,b):=vC c i ∅;let(p,d):∃p,B[i]?=Lh p:=⟨_,HF ∅⟩;let(f,e):=c p<|HH d;let w3:p.2-p.1+1<=(2:Int)^193:=by
   let:(10:Int)^58+1<=2^193:=⋯
   lia
  rw[nU d,Int.pow_succ];calc⟨by have:=Int.mul_le_mul a (show(1:Int)<=p.2-p.1+1 by lia) ⋯ ∅;lia,Int.mul_le_mul b w3 ∅ (Int.le_trans ⋯ (Int.le_trans a b))⟩
theorem vD{B:Ly (Int×Int)}(o:B.length<=4)(h:∀p∈B,0<=p.2-p.1/\p.2-p.1<=10^58){i:Nat}{p:Int×Int}(j:B[i]?=Lh p):IT (vol<|B.take i) (p.2-p.1+1):=by
 let hi:i<B.length:=(HG.mp j).1;let(a,b):=vC h i ∅;let(l,k):=h p<|HH j;let c:((2:Int)^193)^i<=2^579:=by
  let:i=0\/i=1\/i=2\/i=3:=∅
  rcases this with rfl|rfl|rfl|rfl <;> decide
 let d:(10:Int)^58+1<2^193:=⋯
 refine xP (m:=580) (n:=194) ?_ ?_ ⋯ ⋯
 .let e:((vol<|B.take i).natAbs:Int)=vol (B.take i):=Int.natAbs_of_nonneg ∅;let f:((2^580:Nat):Int)=2^580:=⋯
  let g:(2:Int)^579<2^580:=⋯
  exact Int.ofNat_lt.mp (by rw[f];lia)
 .let e:((p.2-p.1+1).natAbs:Int)=p.2-p.1+1:=Int.natAbs_of_nonneg ∅;let f:((2^194:Nat):Int)=2^194:=⋯
  let g:(2:Int)^193<2^194:=⋯
  calc Int.ofNat_lt.mp (by rw[f];lia)
theorem nW{c b:Type}{R:c->b->Prop}:∀{xs:Ly c}{as:Ly b}{i:Nat}{a:b},PySem.Paired R xs as->as[i]?=Lh a->∃x,xs[i]?=Lh x/\R x a
 |_,_,0,a,.cons h tl,e=>⟨_,U,by simp at e;rw[←e];exact h⟩
 |_,_,i+1,a,.cons h tl,e=>by
  let(x,q):=nW (i:=i) (a:=a) tl<|~~~e;calc⟨x,~~~q.1,q.2⟩
structure QsI(Lo:Ly Rw)(bs:Prs)(q:Ly (Int×Int)×Int):Prop where
 len:⇑q.1=⇑bs
 wid:∀p∈q.1,0<=p.2-p.1/\p.2-p.1<=10^58
 lo:q.2=mkg Lo (q.1.map (·.1))
 hi:q.2=mkg Lo (q.1.map (·.2))
def wF(d:Nat)(p:Int×Int):Int:=if d=0 then p.1 else p.2
theorem zW{d:Nat}(h:d<2)(p:Int×Int):atI [V.int p.1,V.int p.2] (0+(d:Int))=Lh (.int<|wF d p):=by
 rcases(show d=0\/d=1 by lia)with rfl|rfl <;> rfl
theorem zX{H:Hp}{d:Ly V}{c:Ly (Ly (Int×Int)×Int)}(h:BxL H d c){i:Nat}{x:V}(e:d[i]?=Lh x):∃q,c[i]?=Lh q/\∃(t b:HR),x=.ref t/\∃xs,H t=Lh (.tup [.ref b,.int q.2])/\H b=Lh (.tup xs)/\PL H xs q.1:=by
 let g:⇑d=⇑c:=Paired.length h;let(q,a):∃q,c[i]?=Lh q:=⟨_,HF (by rw[←g];exact(HG.mp e).1)⟩;let(y,f,t,b,m,l,xs,k,j):=nW h a;rw[e]at f;cases f;calc⟨q,a,t,b,m,xs,l,k,j⟩
theorem _root_._L.TabOk.updL{H:Hp}{P D:HR}{L:Ly (Pos×Str)}{xs:Ly V}{o:HO}(h:TabOk H P L)(e:H D=Lh (.lst xs)):TabOk (upd H D o) P L:=by
 let(g,f,l,k):=h;calc⟨g,(ay (λz=>by rw[z,e]at f;cases f)).trans f,l,λp j=>(k p j).imp id λ⟨c,i,a,b,d⟩=>⟨c,i,a,(ay (λz=>by rw[z,e]at b;cases b)).trans b,d⟩⟩
def zY(lo k:Int):Int×Int:=(lo+2*k,lo+2*k)
def eY(lo:Int)(s n:Nat):Prs:=(List.range n).map λx:Nat=>zY lo<|(s:Int)+(x:Int)
def wG(lo:Int):Ly Rw:=[([eY lo 1 100],0),([eY lo 101 50],1)]
def sJ(lo:Int)(n:Nat):Ly Int:=(List.range n).map λx:Nat=>lo+2+(x:Int)
theorem nX{lo:Int}{s n:Nat}{p:Int×Int}:p∈eY lo s n↔∃x,x<n/\p=zY lo ((s:Int)+(x:Int)):=by
 unfold eY;rw[iv];calc⟨λ⟨x,b,a⟩=>⟨x,jV.mp b,a.symm⟩,λ⟨x,b,a⟩=>⟨x,jV.mpr b,a.symm⟩⟩
theorem kN{lo:Int}{s n:Nat}:⇑(eY lo s n)=n:=by unfold eY;rw[bc,kW]
theorem kO{lo hi x v:Int}{s n:Nat}:x∈rmk 0 (lo,hi) ([eY lo s n],v)↔(∃y,y<n/\(x=lo+2*((s:Int)+(y:Int))\/x=lo+2*((s:Int)+(y:Int))+1))/\lo<x/\x<=hi:=by
 show x∈(ends<|eY lo s n).filter (λt=>decide (lo<t) && decide (t<=hi))↔_;rw[jZ,fg];constructor
 .rintro⟨⟨p,e,c⟩,a⟩;let(y,b,rfl):=nX.mp e;simp only[EA,decide_eq_true_eq]at a;exact⟨⟨y,b,c⟩,a⟩
 .rintro⟨⟨y,b,c⟩,a,d⟩;calc⟨⟨_,nX.mpr ⟨y,b,U⟩,c⟩,by rw[Ls a,Ls d];rfl⟩
theorem vE{lo a x:Int}(h:a=0\/a=1):MkC (wG lo) 0 (lo,lo+300+a) x↔lo+2<=x/\x<=lo+300+a:=by
 constructor
 .rintro⟨i,c,b⟩;rcases bW.mp c with rfl|c
  .let((y,e,d),g,f):=kO.mp b;lia
  .rw[gZ.mp c]at b;let((y,e,d),g,f):=kO.mp b;lia
 .rintro⟨e,d⟩;by_cases j:(x-lo) / 2<=100
  .exact⟨_,.head _,kO.mpr ⟨⟨((x-lo) / 2-1).toNat,∅,∅⟩,∅,∅⟩⟩
  .exact⟨_,.tail _<|.head _,kO.mpr ⟨⟨((x-lo) / 2-101).toNat,∅,∅⟩,∅,∅⟩⟩
theorem nZ{lo x:Int}{n:Nat}:x∈sJ lo n↔lo+2<=x/\x<lo+2+(n:Int):=by
 unfold sJ;rw[iv];constructor
 .rintro⟨y,a,rfl⟩;let:=jV.mp a;lia
 .rintro⟨a,b⟩;calc⟨(x-lo-2).toNat,jV.mpr ∅,∅⟩
theorem zZ{lo:Int}{n:Nat}:(sJ lo n).Nodup:=by
 unfold sJ;calc List.pairwise_map.mpr<|List.Pairwise.imp (λh z=>h ∅)<|List.nodup_iff_pairwise_ne.mp List.nodup_range
theorem sL{lo:Int}{n:Nat}:⇑(sJ lo n)=n:=by unfold sJ;rw[bc,kW]
theorem Cc{lo a:Int}(h:a=0\/a=1)(d:Ly (Ly Int))(p:⇑d=1)(o:∀(c:Nat)(b:Int×Int)(ms:Ly Int),[(lo,lo+300+a)][c]?=Lh b->d[c]?=Lh ms->ms.Pairwise (· < ·)/\∀x,x∈ms↔MkC (wG lo) c b x):gr [(lo,lo+300+a)] d 1=(300+a).toNat:=by
 match d,p with
 | [ms],_ =>
  let(j,g):=o 0 _ ms U U;let g:∀x,x∈ms↔lo+2<=x/\x<=lo+300+a:=λx=>(g x).trans<|vE h
  let k:=j.imp λh=>Int.ne_of_lt h
  let m:=bf k λx f=>(nZ (lo:=lo) (n:=(299+a).toNat)).mpr (by have:=(g x).mp f;lia)
  let l:=bf (zZ (lo:=lo) (n:=(299+a).toNat)) λx f=>(g x).mpr (by have:=nZ.mp f;lia)
  rw[sL]at m l;let e:=qB (lo:=lo) (hi:=lo+300+a) (ms:=ms) j λc=>⟨λi=>⟨i,by have:=(g c).mp i;lia⟩,λi=>i.1⟩
  show 1*(⇑(dd lo (lo+300+a) ms)+1)=(300+a).toNat;lia
theorem vF{lo a:Int}(h:a=0\/a=1):∀w∈wG lo,ml [(lo,lo+300+a)] (0,1) w:=by
 intro m d;let c:∀(s n:Nat)(v:Int),s+n<=151->1<=s->0<=v->v<=1->ml [(lo,lo+300+a)] (0,1) ([eY lo s n],v):=λs n v t r k i=>by
  calc⟨U,λj o b e l p f=>?_,k,i⟩;let g:j=0:=by have:=(HG.mp e).1;let:j<1:=this;lia
  subst g;cases e;cases l;let(y,q,rfl):=nX.mp f;exact⟨by show lo<=lo+2*((s:Int)+(y:Int));lia,by show lo+2*((s:Int)+(y:Int))<=lo+300+a;lia⟩
 rcases bW.mp d with rfl|d
 .exact c 1 100 0 ⋯ ⋯ ⋯ ⋯
 .rw[gZ.mp d];calc c 101 50 1 ⋯ ⋯ ⋯ ⋯
theorem yL{K:W.Frag}{H:Hp}{Q:VK}{a b:HR}{xs:Ly V}(f:SqL K H a xs)(e:SqL K H b xs)(fl:∀x∈xs,gj x=Lj)(q:Q (.bl Lj) H):Br K Ll (.ref a) (.ref b) H Q:=by
 refine⟨a,b,xs,xs,U,U,f,e,.inr ⟨U,λ_=>Lj,λj x y d c=>?_,?_⟩⟩
 .rw[d]at c;cases c;let z:=fl x<|HH d;let:=EqI.flat (K:=K) (H:=H) z z;rw[rm z]at this;exact this
 .let:(List.range ⇑xs).all (λ_=>Lj)=true:=by simp
  rw[this];calc q
theorem yM{K:W.Frag}{fr:Ly Nat}{tt:TT}{j:TE}{a:HR}{xs:Ly V}{h:St}{d:Hp}{Q:VK}(c:HR->Nat->Ly V->Hp->Prop)(o:∀D,d D=Li->c D 0 [] (upd d D<|.lst []))
  (n:∀D i ys H,d D=Li->i<=⇑xs->c D i ys H->SqL K H a xs)
  (l:∀D i x ys H,d D=Li->xs.reverse[i]?=Lh x->c D i ys H->tt (eN h fr<|Lh x) H λb k=>if b=Lj then j (eN h fr<|Lh x) k (cA c D i ⇑xs)else dj c D i ⇑xs k)
  (hd:∀D ys H,d D=Li->c D ⇑xs ys H->Q (.ref D) H):lF (Itv K a ⇑xs) fr tt j h Q d:=by
 intro D g;calc⟨λi m H=>m=⇑xs-i/\i<=⇑xs/\∃ys,c D i ys H,⟨_,U,yX _,[],o D g⟩,?_⟩;rintro i m H ⟨rfl,hi,ys,p⟩;let q:=n D i ys H g hi p;by_cases f:i<⇑xs
 .refine .inr ⟨⟨f,xs,q,U⟩,λx r y=>?_⟩;let(e,y):=y;subst e;exact l D i x ys _ g ((wO f).trans<|y xs q) p
 .let e:i=⇑xs:=∅
  subst e;calc .inl ⟨xX _,hd D ys H g p⟩
theorem EJ(h:Int):∃(b:Nat)(a:Str),six[b]?=Lh a/\atI [V.str s!"first",.str s!"only",.str s!"like",.str s!"low",.str s!"high",.str s!"sum"] (h%6)=Lh (.str a):=by
 let e:=GN h (show(6:Int)≠0 by decide);let d:=GO h (show(0:Int)<6 by decide);generalize h%6=k at e d;let(k,rfl):∃c:Nat,k=(c:Int):=⟨k.toNat,∅⟩;rcases(show k=0\/k=1\/k=2\/k=3\/k=4\/k=5 by lia)with rfl|rfl|rfl|rfl|rfl|rfl
 .exact⟨0,_,U,bh U⟩
 .exact⟨1,_,U,bh U⟩
 .exact⟨2,_,U,bh U⟩
 .exact⟨3,_,U,bh U⟩
 .exact⟨4,_,U,bh U⟩
 .exact⟨5,_,U,bh U⟩
theorem Du{n:Nat}(b:1<=n)(a:n<=3):∃m:Nat,1<=m/\m<=24/\atI [V.int 24,.int 12,.int 6] ((n:Int)-1)=Lh (.int (m:Int)):=by
 rcases(show n=1\/n=2\/n=3 by lia)with rfl|rfl|rfl
 .exact⟨24,⋯,⋯,bh (j:=0) U⟩
 .exact⟨12,⋯,⋯,bh (j:=1) U⟩
 .exact⟨6,⋯,⋯,bh (j:=2) U⟩
def MkA(e:Ly Rw)(bs:Prs)(a:Ly (Ly Int)):Prop:=⇑a=⇑bs/\∀(c:Nat)(b:Int×Int)(d:Ly Int),bs[c]?=Lh b->a[c]?=Lh d->d.Pairwise (· < ·)/\∀x,x∈d↔MkC e c b x
theorem yN{a:Ly Rw}{bs:Prs}{g f:Ly (Ly Int)}(i:MkA a bs g)(h:MkA a bs f):f=g:=by
 let s:=i.1;let r:=h.1;refine tX λc=>?_
 by_cases q:c<⇑bs
 .let(b,j):∃b,bs[c]?=Lh b:=⟨_,HF q⟩;let(e,l):∃e,g[c]?=Lh e:=⟨_,HF ∅⟩;let(d,k):∃d,f[c]?=Lh d:=⟨_,HF ∅⟩;let(p,n):=i.2 c b e j l;let(o,m):=h.2 c b d j k;rw[l,k,fN o p λx=>(m x).trans (n x).symm]
 .rw[nY ∅,nY ∅]
def Aa{a:Ly Rw}{c:Nat}{b:Int×Int}{x:Int}:MkC a.reverse c b x↔MkC a c b x :=
 ⟨λ⟨w,d,h⟩=>⟨w,sW.mp d,h⟩,λ⟨w,d,h⟩=>⟨w,sW.mpr d,h⟩⟩
def MkA.rev{a:Ly Rw}{bs:Prs}{d:Ly (Ly Int)}(h:MkA a bs d):MkA a.reverse bs d :=
 ⟨h.1,λc b e g f=>⟨(h.2 c b e g f).1,λx=>((h.2 c b e g f).2 x).trans Aa.symm⟩⟩
def MkA.cut{d:Ly Rw}{bs:Prs}{a:Ly (Ly Int)}(h:MkA d bs a)(g:∀p∈bs,p.1<=p.2):o6 bs d (List.zipWith (λp b=>bZ p.1 p.2 b) bs a) :=
 ⟨qD h.1 g λj p b f e=>⟨(h.2 j p b f e).1,λc i=>jO<|((h.2 j p b f e).2 c).mp i⟩,a,h.1,U,λj p b f e=>h.2 j p b f e⟩
theorem Dv{bs:Prs}{a:Ly (Ly Int)}{big:Int}{w:Rw}(n:1<=big)(k:⇑a=⇑bs)(h:RwQ bs a [0,big,-big] w):ml bs (-big,big+big / 2) w:=by
 let m:0<=big / 2:=∅
 let l:w.2=0\/w.2=big\/w.2 = -big:= ~~~h.out
 refine⟨h.len,λj f b i e p d=>?_,?_,?_⟩
 .let(c,g):∃c,a[j]?=Lh c:=⟨_,HF (by have:=(HG.mp e).1;lia)⟩;let:=(h.ok j f b c i e g).1 p d;exact⟨this.1,this.2.2.1⟩
 .show -big<=w.2;lia
 .show w.2<=big+big / 2;lia
def pL(a:Ly (Ly Int))(c:Nat):Ly Int:=a.getD c []++(a.getD c []).map (· + 1)
section
variable{Lo:Ly Rw}{bs:Prs}{pls:Ly (Ly Int)}{outs:Ly Int}
theorem wH(o:∀w∈Lo,RwQ bs pls outs w)(k:PoI bs pls){c:Nat}{b:Int×Int}(f:bs[c]?=Lh b):⇑(pL pls c)<=2*tn3 ⇑bs/\∀x,MkC Lo c b x->x∈pL pls c:=by
 let l:=(HG.mp f).1;let(a,h):∃a,pls[c]?=Lh a:=⟨_,HF (by rw[k.len];exact l)⟩;let r:pls.getD c []=a:=by rw[iX,h];rfl
 unfold pL;rw[r];refine⟨by rw[dy,bc,(k.ok c a b h f).1];lia,λx ⟨w,q,e⟩=>?_⟩;let(m,s):=jZ.mp e;rw[EA,Lx,Lx]at s;let j:=o w q;let(d,n):∃d,w.1[c]?=Lh d:=⟨_,HF (by rw[j.len];exact l)⟩;rw[iX,n]at m;let(p,i,e):=fg.mp (show x∈ends d from m);let(z,y,v,u,t):=(j.ok c d b a n f h).1 p i;rw[hZ,iv];rcases e with rfl|rfl
 .rcases u with g|g|g
  .lia
  .exact .inl g
  .exact .inr ⟨_,g,∅⟩
 .rcases t with g|g|g
  .lia
  .exact .inr ⟨_,g,U⟩
  .exact .inl g
theorem yO(i:∀w∈Lo,RwQ bs pls outs w)(l:PoI bs pls)(c:Nat):spn Lo c<=2*Lo.length:=by
 unfold spn;let a:∀w∈Lo,⇑(w.1.getD c [])<=2:=λw g=>by
  let f:=i w g;by_cases h:c<⇑bs
  .let(b,m):∃b,bs[c]?=Lh b:=⟨_,HF h⟩;let(e,n):∃e,pls[c]?=Lh e:=⟨_,HF (by rw[l.len];exact h)⟩;let(d,j):∃d,w.1[c]?=Lh d:=⟨_,HF (by rw[f.len];exact h)⟩;rw[iX,j];exact(f.ok c d b e j m n).2
  .rw[iX,nY (by rw[f.len];lia)];exact yX _
 clear i;induction Lo with
 |nil=>exact xX _
 |cons w r k =>
  let p:=a w fH;let o:=k λw g=>a w<|iE _ g
  rw[jU,vl,ik];lia
theorem Dw(q:∀w∈Lo,RwQ bs pls outs w)(r:PoI bs pls){a:Ly (Ly Int)}(h:MkA Lo bs a)(s:⇑bs<=3):gr bs a ⇑bs<=300:=by
 let f:∀j,gl bs a j<=2*tn3 ⇑bs+1:=B4 λl e=>by
  let(c,i):=jY e;let(b,k):∃b,bs[c]?=Lh b:=⟨_,HF (by rw[←h.1];exact(HG.mp i).1)⟩;let(o,m):=wH q r k;exact⟨_,o,λx p=>m x<|((h.2 c b l k i).2 x).mp p⟩
 let d:=yA f ⇑bs;generalize gr bs a ⇑bs=g at d;generalize ⇑bs=n at s d;unfold tn3 at d;rcases(show n=0\/n=1\/n=2\/n=3 by lia)with rfl|rfl|rfl|rfl
 .exact yW d ⋯
 .exact yW d ⋯
 .exact yW d ⋯
 .exact yW d ⋯
theorem AW{g h f:HR}{H:Hp}{t:HR}{l:Ly V}{i:Nat}{o:Int×Int}(q:TD g h f H t l bs Lo)(n:Tbl g h f H t Lo i o)(y:⇑bs<=3)(x:Lo.length<=30)(d:∀w∈Lo,RwQ bs pls outs w)(k:PoI bs pls){a:Ly (Ly Int)}(e:MkA Lo bs a)(j:∀p∈bs,p.1<=p.2):RfB g h f H t l bs Lo (pL pls) (gr bs a ⇑bs) i o:=by
 let v:=kM ⇑bs;refine⟨q,n,∅,∅,λw e=>(d w e).len,λc=>?_,λc b s=>?_,λu m r=>by rw[yN e ⟨m,r⟩],j⟩
 .let:=yO d k c;lia
 .let:=wH d k s;calc⟨∅,this.2⟩
end
theorem yP(a:Ly Rw)(b:Ly Int):fl a.reverse b=(fl a b).reverse:=by
 unfold fl;rw[List.filter_reverse,xB]
theorem n5{a:Ly Rw}{i:Nat}{o:Int×Int}{b:Ly Int}:vdm a i o (mkg a b)=ver (wf i o.1 o.2) (fl a b):=by
 unfold vdm mkg;rw[zM,yv]
theorem agr{bs:Prs}{d:Ly Rw}{i:Nat}{o:Int×Int}{g css:Ly (Ly Int)}{F G:Fm SI ⇑bs}(m:MkA d bs g)(l:∀p∈bs,p.1<=p.2)(E:∀w∈d,⇑w.1=⇑bs)(M:fm ⇑bs F bs)(L:fm ⇑bs G bs)
  (B:∀c,InB c bs->Tel ⇑bs F c (vdm d i o<|mkg d c))(A:∀c,InB c bs->Tel ⇑bs G c (vdm d.reverse i o<|mkg d.reverse c))(n:⇑css=⇑bs)(k:PrO bs g css) :
  G=F↔∀c∈cM (List.zipWith (λp c=>p.1 :: c) bs css),ver (wf i o.1 o.2) (fl d c).reverse=ver (wf i o.1 o.2) (fl d c):=by
 constructor
 .intro h c u;let e:=p9 n m.1 l k u;let a:=A c e;rw[h]at a;let b:=gK a<|B c e;rw[n5,n5,yP]at b;exact b
 .intro h;let t:PrO bs g g:=λj p q c s r H=>by
   rw[r]at H;cases H;let(D,C):=m.2 j p q s r;let(c,N):∃c,css[j]?=Lh c:=⟨_,HF (by have:=(HG.mp s).1;lia)⟩;let(I,z,v):=k j p q c s r N;let:q=c:=fN D I λx=>⟨λf=>(z x).mpr ⟨f,jO<|(C x).mp f⟩,λf=>((z x).mp f).1⟩
   rw[←this]at v;exact⟨D,λx=>⟨λf=>⟨f,jO<|(C x).mp f⟩,λf=>f.1⟩,v⟩
  refine lQ L M λc e x y f J=>?_
  rw[gK f (A c e),gK J (B c e)];let P:=mI (m.cut l) E e;let O:=mI (m.rev.cut l) (λw K=>E w<|sW.mp K) e;rw[←P,←O,n5,n5,yP];calc h _<|uD m.1 n m.1 e t k
theorem uE{bs:Prs}{a:Ly Rw}{b:Ly (List<|Int×Int)}(d:o6 bs a b)(e:∀w∈a,⇑w.1=⇑bs){c:Ly Int}(h:InB c bs):Tel ⇑b (lay (mkg a) b []) c (mkg a c):=by
 let:=mH (g:=mkg a) d.ok [] c h;rw[tJ,mI d e h]at this;calc this
theorem AX{bs:Prs}{a:Ly Rw}{d:Ly (List<|Int×Int)}(e:o6 bs a d)(i:∀w∈a,⇑w.1=⇑bs)(m:∀b∈bs,b.2-b.1<=10^58):∀q∈bxs ⇑d (lay (mkg a) d []),QsI a bs q:=λq n=>by
 let(c,l,j):=yC (iG (g:=mkg a) e.ok []) q n;calc⟨c.len,λp o=>?_,gK l<|uE e i c.lows,gK j<|uE e i c.highs⟩;let(k,f):=jY o;let(b,h):∃b,bs[k]?=Lh b:=⟨_,HF (by rw[←c.len];exact(HG.mp f).1)⟩;let s:=c.get k p b f h;let r:=m b<|HH h;lia
theorem sM:∀l:Ly (Ly (Int×Int)×Int),jQ l=(l.map λq=>vol q.1).sum
 | []=>rfl
 |q :: l=>by show vol q.1+jQ l=_;rw[sM l,jU,vl]
theorem yQ{bs:Prs}{b:Ly Rw}{a:Ly (List<|Int×Int)}(c:o6 bs b a):((bxs ⇑a<|lay (mkg b) a []).map λq=>vol q.1).sum=vol bs:=by
 rw[←sM];calc yI<|iG (g:=mkg b) c.ok []
theorem Dx{xs:Ly Rw}{k:Nat}{w:Rw}(e:xs[k]?=Lh w):xs.getD k ([],0)=w:=by rw[iX,e];rfl
theorem aS.rev{b:Type}{xs:Ly V}{as:Ly b}{P:HR->b->Prop}(h:aS xs as P):aS xs.reverse as.reverse P:=by
 let c:⇑xs=⇑as:=h.1;refine⟨by rw[lS,lS,c],λj a e=>?_⟩;let d:j<⇑as:=by have:=(HG.mp e).1;rwa [lS]at this
 rw[wO d]at e;let(r,f,p):=h.2 _ a e;calc⟨r,by rw[wO ∅,c];exact f,p⟩
theorem Ab{bs:Prs}{a:Ly (Ly Int)}{d:Ly Int}{w:Rw}(h:RwQ bs a d w)(m:PoI bs a){k:Nat}{b:Int×Int}(l:bs[k]?=Lh b):k<⇑w.1/\⇑(w.1.getD k [])<=2/\∀p∈w.1.getD k [],b.1<=p.1/\p.1<=p.2/\p.2<=b.2:=by
 let g:=(HG.mp l).1;let(f,q):∃f,a[k]?=Lh f:=⟨_,HF (by rw[m.len];exact g)⟩;let(e,j):∃e,w.1[k]?=Lh e:=⟨_,HF (by rw[h.len];exact g)⟩;let n:w.1.getD k []=e:=by rw[iX,j];rfl
 rw[n];let(i,o):=h.ok k e b f j l q;calc⟨by rw[h.len];exact g,o,λp c=>⟨(i p c).1,(i p c).2.1,(i p c).2.2.1⟩⟩
theorem ne_self{K:W.Frag}{L:Type} [DecidableEq L] {A:Lfp K L}{H:Hp}{Q:VK}{x:L}{u v:V}(d:A.R H x u)(c:A.R H x v)(q:Q (.bl Ll) H):BS K u v H Q:=by
 let b:∀(p:Prop)(i:Decidable p),p->Q (.bl<|!(@decide p i)) H:=λp i a=>by
  cases i
  .exact Lr a (by assumption)
  .exact q
 calc FmV.ne_to (A:=A) (n:=0) (f:=x) (g:=x) ⋯ d c (b _ _ U)
theorem yR:∀{ps:Prs}{css:Ly (Ly Int)},∀l∈List.zipWith (λp a=>p.1 :: a) ps css,l≠[]
 | [],_,l,h=>by simp at h
 |_ :: _,[],l,h=>by simp at h
 |p :: ps,c :: css,l,h=>by
  rw[List.zipWith_cons_cons]at h;rcases bW.mp h with rfl|h
  .exact List.cons_ne_nil _ _
  .exact yR l h
theorem agn{P:Ly Int->Prop}{C:Ly (Ly Int)}{i:Nat}{b:Ly Int}(e:C[i]?=Lh b){g:Bool}(h:g=Lj↔∀j b,j<i->C[j]?=Lh b->P b):(P b->(g=Lj↔∀j b,j<i+1->C[j]?=Lh b->P b))/\(¬ P b->(Ll=Lj↔∀j b,j<i+1->C[j]?=Lh b->P b)):=by
 refine⟨λp=>⟨λa j c l d=>?_,λk=>h.mpr λj c l d=>k j c ∅ d⟩,λn=>⟨λz=>(by cases z),λk=>Lr (k i b ∅ e) n⟩⟩;by_cases f:j=i
 .subst f;rw[e]at d;cases d;exact p
 .exact h.mp a j c ∅ d
theorem Dy{P:Ly Int->Prop}{C:Ly (Ly Int)}{n:Nat}(d:n=C.length){c:Bool}(h:c=Lj↔∀j a,j<n->C[j]?=Lh a->P a):c=Lj↔∀a∈C,P a:=by
 subst d;calc h.trans ⟨λk a f=>?_,λk j a _ e=>k a<|HH e⟩;let(j,b):=jY f;calc k j a (HG.mp b).1 b
theorem Ac{a:Ly Rw}{bs:Prs}{d:Ly (Ly Int)}{f:Ly Int}(p:∀w∈a,RwQ bs d f w)(q:PoI bs d){e:Ly (Ly Int)}(i:MkA a bs e):∀ms∈e,⇑ms<=57:=λms g=>by
 let(c,j):=jY g;let(b,k):∃b,bs[c]?=Lh b:=⟨_,HF (by rw[←i.1];exact(HG.mp j).1)⟩;let(r,n):=wH p q k;let(m,l):=i.2 c b ms k j;let s:=kM ⇑bs;let:=bf (m.imp λh=>Int.ne_of_lt h) λx o=>n x<|(l x).mp o
 lia
def So.updF{H b a:Hp}{l:HR}{u:HO}(so:So H b)(s:ar b a)(n:NoP H l):So H (upd a l u):=λd o p e=>(ay<|n d o p e).trans<|s _ _<|so d o p e
inductive n8(K:W.Frag)(Y:AD)(vs:Ly V)(H:Hp)(Q:VK)(e_:XK):Prop
 |mk (a:HR)(xs:Ly V)(ps:Ly (Int×Int))(n:Int)(_:vs=[.ref a,.int n])(_:SqL K H a xs)(_:PL H xs ps)(_:Q (.bl<|inP ps n) H)
inductive n9(K:W.Frag)(Y:AD)(vs:Ly V)(H:Hp)(Q:VK)(e_:XK):Prop
 |mk (a:HR)(xs:Ly V)(R:Ly (Int×Int))(lo hi:Int)(_:vs=[.ref a,.int lo,.int hi])(_:SqL K H a xs)(_:PL H xs R)(_:⇑xs<=499)(_:∀(r:HR)(H':Hp)(es:Ly Int),ar H H'->H r=Li->H' r=Lh (.lst<|es.map V.int)->es=(ends R).filter (λt=>decide (lo<t) && decide (t<=hi))->Q (.ref r) H')
inductive gL(K:W.Frag)(Y:AD)(vs:Ly V)(H:Hp)(Q:VK)(e_:XK):Prop
 |mk (a:HR)(ms L:Ly Int)(lo hi:Int)(_:vs=[.int lo,.int hi,.ref a])(_:SqL K H a (ms.map V.int))(_:⇑ms<=400)(_:L.length<=400)(_:(∀m∈ms,lo<m->m<=hi->m∈L))(_:∀(r:HR)(H':Hp)(cs:Ly Int)(ts:Ly V),ar H H'->H r=Li->H' r=Lh (.lst ts)->PL H' ts (bZ lo hi cs)->cs.Pairwise (· < ·)->(∀c,c∈cs↔(c∈ms/\lo<c/\c<=hi))->⇑cs<=400->Q (.ref r) H')
inductive jf(K:W.Frag)(Y:AD)(vs:Ly V)(H:Hp)(Q:VK)(e_:XK):Prop
 |mk (L:Type)(_:DecidableEq L)(A:Lfp K L)(n:Nat)(a:HR)(xs:Ly V)(ts:Ly (T3a<|Fm L n))(_:vs=[.ref a])(_:n<=6)(_:H a=Lh (.lst xs))(_:FmL (FmV A H n) H ts xs)(_:⇑ts<=900)(_:∀(r:HR)(H':Hp),ar H H'->FmV A H' (n+1) (gI ts) (.ref r)->Q (.ref r) H')
inductive eR(K:W.Frag)(Y:AD)(vs:Ly V)(H:Hp)(Q:VK)(e_:XK):Prop
 |mk (a:HR)(xs:Ly V)(ts:Ly Tri)(c:Int)(j:Nat)(t:Tri)(_:vs=[.ref a,.int c])(_:SqT K H a xs)(_:T3 H xs ts)(_:At ts c j t)(_:Q t.2.2 H)
inductive iK(K:W.Frag)(Y:AD)(vs:Ly V)(H:Hp)(Q:VK)(e_:XK):Prop
 |mk (a:HR)(as:Ly HR)(xss:Ly (Ly Int))(L:Ly Int)(_:vs=[.ref a])(_:H a=Lh (.lst<|as.map V.ref))(_:MLs H as xss)(_:⇑xss.flatten<=1000)(_:L.length<=400)(_:(∀x∈xss.flatten,x∈L))(_:∀(l:HR)(cs:Ly Int)(H':Hp),ar H H'->H l=Li->H' l=Lh (.lst<|cs.map V.int)->cs.Pairwise (· < ·)->(∀x,x∈cs↔x∈xss.flatten)->Q (.ref l) H')
inductive gM(K:W.Frag)(Y:AD)(vs:Ly V)(H:Hp)(Q:VK)(e_:XK):Prop
 |mk (z g:Str)(_:vs=[.str z,.str g])(_:Q (.bl<|rq z g) H)
inductive fS(K:W.Frag)(Y:AD)(vs:Ly V)(H:Hp)(Q:VK)(e_:XK):Prop
 |mk (i:Int)(_:vs=[.int i])(_:Q (.bl Lj) H)
inductive eB(K:W.Frag)(Y:AD)(vs:Ly V)(H:Hp)(Q:VK)(e_:XK):Prop
 |mk (p r:HR)(xs ys:Ly V)(_:vs=[.ref p,.ref r])(_:SqL K H p xs)(_:SqL K H r ys)(_:1<=⇑xs)(_:⇑xs<=4)(_:⇑ys<=200)(_:Q .non H)
inductive jR(K:W.Frag)(Y:AD)(vs:Ly V)(H:Hp)(Q:VK)(e_:XK):Prop
 |mk (cl:HR)(xs:Ly V)(w:Rw)(_:vs=[.ref cl,.int w.2])(_:H cl=Lh (.lst xs))(_:CL NT H xs w.1)(_:⇑w.1<=100)(_:∀(r:HR)(H':Hp),ar H H'->H r=Li->jN (λa=>H a=Li) H' r w->Q (.ref r) H')
inductive dq(K:W.Frag)(Y:AD)(vs:Ly V)(H:Hp)(Q:VK)(e_:XK):Prop
 |mk (t:HR)(dv:Ly V)(bs:Prs)(Lo:Ly Rw)(_:vs=[.ref t])(_:TD Y.n Y.l Y.m H t dv bs Lo)(_:⇑bs<=100)(_:∀(l:HR)(ys:Ly V)(H':Hp),ar H H'->H l=Li->H' l=Lh (.lst ys)->PL H' ys bs->Q (.ref l) H')
inductive fb(K:W.Frag)(Y:AD)(vs:Ly V)(H:Hp)(Q:VK)(e_:XK):Prop
 |mk (a:HR)(ns:Ly Int)(k:Int)(_:vs=[.ref a,.int k])(_:SqL K H a (ns.map V.int))(_:0<=k)(_:Q (.int<|ns.getD k.toNat 0) H)
inductive gN(K:W.Frag)(Y:AD)(vs:Ly V)(H:Hp)(Q:VK)(e_:XK):Prop
 |mk (n:Int)(_:vs=[.int n])(_:Q (.bl Lj) H)
inductive fA(K:W.Frag)(Y:AD)(vs:Ly V)(H:Hp)(Q:VK)(e_:XK):Prop
 |mk (a:HR)(ns:Ly Int)(m:Nat)(_:vs=[.ref a,.int (m:Int)])(_:SqL K H a (ns.map V.int))(_:⇑ns<=63)(_:1<=m)(_:m<=100)(_:∀(l:HR)(ms:Ly Int)(H':Hp),ar H H'->H l=Li->H' l=Lh (.lst<|ms.map V.int)->⇑ms<=m->Q (.ref l) H')
inductive gO(K:W.Frag)(Y:AD)(vs:Ly V)(H:Hp)(Q:VK)(e_:XK):Prop
 |mk (kd one two:Int)(r:HR)(p:Int×Int)(_:vs=[.int kd,.int one,.int two,.ref r])(_:H r=Lh (.tup [.int p.1,.int p.2]))(_:p.1<=one)(_:one<=two)(_:two<=p.2)(_:∀(l:HR)(ps:Prs)(H':Hp),ar H H'->SpA (λa=>H a=Li) H' l ps->(∀pl:Ly Int,one∈pl->two∈pl->EdQ p pl ps)->⇑ps<=2->Q (.ref l) H')
inductive iN(K:W.Frag)(Y:AD)(vs:Ly V)(H:Hp)(Q:VK)(e_:XK):Prop
 |mk (a:HR)(xs:Ly V)(ps:Ly (Int×Int))(n:Int)(_:vs=[.ref a,.int n])(_:SqL K H a xs)(_:PL H xs ps)(_:Q (.bl<|inP ps n) H)
inductive jS(K:W.Frag)(Y:AD)(vs:Ly V)(H:Hp)(Q:VK)(e_:XK):Prop
 |mk (c:HR)(wy:Str)(i:Nat)(ns:Ly Int)(p:Int×Int)(_:vs=[.str wy,.ref c,.int p.1,.int p.2])(_:six[i]?=Lh wy)(_:SqL K H c (ns.map V.int))(_:p.1<=p.2)(_:∀(r:HR)(H':Hp),ar H H'->H' r=Lh (.tup<|tp<|ver (wf i p.1 p.2) ns)->Q (.ref r) H')
inductive iO(K:W.Frag)(Y:AD)(vs:Ly V)(H:Hp)(Q:VK)(e_:XK):Prop
 |mk (bo ma:HR)(ys:Ly V)(ps:Ly (Int×Int))(as:Ly HR)(mss:Ly (Ly Int))(_:vs=[.ref bo,.ref ma])(_:H bo=Lh (.lst ys))(_:PL H ys ps)(_:H ma=Lh (.lst<|as.map V.ref))(_:MLs H as mss)(_:⇑mss=⇑ps)(_:⇑ps<=3)(_:(∀ms∈mss,⇑ms<=57))(_:∀(l:HR)(rs:Ly HR)(css:Ly (Ly Int))(H':Hp),ar H H'->H' l=Lh (.lst<|rs.map V.ref)->MLs H' rs (List.zipWith (λp cs=>p.1 :: cs) ps css)->⇑css=⇑ps->PrO ps mss css->Q (.ref l) H')
inductive fB(K:W.Frag)(Y:AD)(vs:Ly V)(H:Hp)(Q:VK)(e_:XK):Prop
 |mk (la:HR)(as:Ly HR)(ls:Ly (Ly Int))(_:vs=[.ref la])(_:H la=Lh (.lst<|as.map V.ref))(_:MLs H as ls)(_:(∀l∈ls,l≠[]))(_:⇑(cM ls)<=900)(_:⇑ls<=20)(_:∀(l:HR)(rs:Ly HR)(H':Hp),ar H H'->H' l=Lh (.lst<|rs.map V.ref)->MLs H' rs (cM ls)->Q (.ref l) H')
inductive gP(K:W.Frag)(Y:AD)(vs:Ly V)(H:Hp)(Q:VK)(e_:XK):Prop
 |mk (rl r:HR)(k:Nat)(rx:Ly V)(Lo:Ly Rw)(b:Int×Int)(L:Ly Int)(_:vs=[.ref rl,.int (k:Int),.ref r])(_:H rl=Lh (.lst rx))(_:RL NT H rx Lo)(_:⇑rx<=30)(_:H r=Lh (.tup [.int b.1,.int b.2]))(_:(∀w∈Lo,k<⇑w.1/\⇑(w.1.getD k [])<=2/\∀p∈w.1.getD k [],b.1<=p.1/\p.1<=p.2/\p.2<=b.2))(_:L.length<=60)(_:(∀x,MkC Lo k b x->x∈L))(_:∀(l:HR)(cs:Ly Int)(H':Hp),ar H H'->H l=Li->H' l=Lh (.lst<|cs.map V.int)->cs.Pairwise (· < ·)->(∀x,x∈cs↔MkC Lo k b x)->Q (.ref l) H')
inductive fT(K:W.Frag)(Y:AD)(vs:Ly V)(H:Hp)(Q:VK)(e_:XK):Prop
 |mk (l:HR)(f:Nat->Bool)(n:Nat)(_:vs=[.ref l])(_:H l=Lh (.lst<|vN<|(List.range n).filter f))(_:n<=200)(_:∀H',ar H H'->Q (.int ((msk f n:Nat):Int)) H')
inductive b7(K:W.Frag)(Y:AD)(vs:Ly V)(H:Hp)(Q:VK)(e_:XK):Prop
 |mk (x dx:HR)(lo hi:Int)(_:vs=[.ref x,.int lo,.int hi])(_:H x=Lh (.ins Y.l dx []))(_:Q .non (mkd Y.l H x dx lo hi))
inductive cJ(K:W.Frag)(Y:AD)(vs:Ly V)(H:Hp)(Q:VK)(e_:XK):Prop
 |mk (x dx:HR)(z:Str)(_:vs=[.ref x,.str z])(_:H x=Lh (.ins Y.e dx []))(_:Q .non (upd H x<|.ins Y.e dx [("called",.str z)]))
inductive cR(K:W.Frag)(Y:AD)(vs:Ly V)(H:Hp)(Q:VK)(e_:XK):Prop
 |mk (x dx:HR)(z:Str)(_:vs=[.ref x,.str z])(_:H x=Lh (.ins Y.f dx []))(_:Q .non (upd H x<|.ins Y.f dx [("called",.str z)]))
inductive cS(K:W.Frag)(Y:AD)(vs:Ly V)(H:Hp)(Q:VK)(e_:XK):Prop
 |mk (x dx:HR)(z:Str)(_:vs=[.ref x,.str z])(_:H x=Lh (.ins Y.g dx []))(_:Q .non (upd H x<|.ins Y.g dx [("called",.str z)]))
inductive dh(K:W.Frag)(Y:AD)(vs:Ly V)(H:Hp)(Q:VK)(e_:XK):Prop
 |mk (x dx:HR)(z:Str)(_:vs=[.ref x,.str z])(_:H x=Lh (.ins Y.h dx []))(_:Q .non (upd H x<|.ins Y.h dx [("called",.str z)]))
inductive cU(K:W.Frag)(Y:AD)(vs:Ly V)(H:Hp)(Q:VK)(e_:XK):Prop
 |mk (x dx:HR)(z:Str)(_:vs=[.ref x,.str z])(_:H x=Lh (.ins Y.i dx []))(_:Q .non (upd H x<|.ins Y.i dx [("called",.str z)]))
inductive di(K:W.Frag)(Y:AD)(vs:Ly V)(H:Hp)(Q:VK)(e_:XK):Prop
 |mk (x dx:HR)(z:Str)(_:vs=[.ref x,.str z])(_:H x=Lh (.ins Y.j dx []))(_:Q .non (upd H x<|.ins Y.j dx [("called",.str z)]))
inductive cm(K:W.Frag)(Y:AD)(vs:Ly V)(H:Hp)(Q:VK)(e_:XK):Prop
 |mk (x dx:HR)(lo hi:Int)(_:vs=[.ref x,.int lo,.int hi])(_:H x=Lh (.ins Y.m dx []))(_:Q .non (mkd Y.m H x dx lo hi))
def J1(K:W.Frag)(Y:AD):Sp:=wB K Y.e Y.l Y.m 0
def J9(K:W.Frag)(Y:AD):Sp:=wB K Y.f Y.l Y.m 1
def J5(K:W.Frag)(Y:AD):Sp:=wB K Y.g Y.l Y.m 2
def J7(K:W.Frag)(Y:AD):Sp:=wB K Y.h Y.l Y.m 3
def J3(K:W.Frag)(Y:AD):Sp:=wB K Y.i Y.l Y.m 4
def J11(K:W.Frag)(Y:AD):Sp:=wB K Y.j Y.l Y.m 5
inductive dO(K:W.Frag)(Y:AD)(vs:Ly V)(H:Hp)(Q:VK)(e_:XK):Prop
 |mk (a b:HR)(ys:Ly V)(ps:Ly (Int×Int))(as:Ly HR)(mss:Ly (Ly Int))(_:vs=[.ref a,.ref b])(_:H a=Lh (.lst ys))(_:PL H ys ps)(_:H b=Lh (.lst<|as.map V.ref))(_:MLs H as mss)(_:MOK ps mss)(_:∀(l:HR)(xs:Ly V)(H':Hp)(css:Ly (Ly Int)),ar H H'->H' l=Lh (.lst xs)->⇑css=⇑ps->(∀(j:Nat)(p:Int×Int)(ms cs:Ly Int),ps[j]?=Lh p->mss[j]?=Lh ms->css[j]?=Lh cs->cs.Pairwise (· < ·)/\(∀c,c∈cs↔(c∈ms/\p.1<c/\c<=p.2))/\⇑cs<=400)->CoL H' xs (List.zipWith (λp cs=>bZ p.1 p.2 cs) ps css)->Q (.ref l) H')
inductive qM(K:W.Frag)(Y:AD)(vs:Ly V)(H:Hp)(Q:VK)(e_:XK):Prop
 |mk (v r:V)(l:HR)(cs:Ly Int)(_:vs=[v,.ref l])(_:SqL K H l (cs.map V.int))(_:Lk K H v cs r)(_:Q r H)
inductive gQ(K:W.Frag)(Y:AD)(vs:Ly V)(H:Hp)(Q:VK)(e_:XK):Prop
 |mk (z:Str)(_:vs=[.str z])(_:⇑z<=1000)(_:Q (.bl<|isw z) H)
inductive qN(K:W.Frag)(Y:AD)(vs:Ly V)(H:Hp)(Q:VK)(e_:XK):Prop
 |mk (t rl c dx:HR)(fs:Ly (Str×V))(xs:Ly V)(Lo:Ly Rw)(k:Nat)(w:Rw)(cs:Ly Int)(_:vs=[.ref t,.int k,.ref c])(_:H t=Lh (.ins Y.n dx fs))(_:fs.lookup s!"rows"=↑rl) (_:H rl=Lh (.lst xs))(_:RL NT H xs Lo)(_:Lo[k]?=Lh w)(_:SqL K H c (cs.map V.int))(_:⇑w.1=⇑cs)(_:∀H',ar H H'->Q (.bl<|kH w.1 cs) H')
inductive eS(K:W.Frag)(Y:AD)(vs:Ly V)(H:Hp)(Q:VK)(e_:XK):Prop
 |mk (t:HR)(c:Nat)(dv:Ly V)(bs:Prs)(Lo:Ly Rw)(b:Int×Int)(L:Ly Int)(_:vs=[.ref t,.int (c:Int)])(_:TD Y.n Y.l Y.m H t dv bs Lo)(_:bs[c]?=Lh b)(_:Lo.length<=200)(_:(∀w∈Lo,c<⇑w.1))(_:spn Lo c<=499)(_:L.length<=400)(_:(∀x,MkC Lo c b x->x∈L))(_:∀(l:HR)(cs:Ly Int)(H':Hp),ar H H'->H l=Li->H' l=Lh (.lst<|cs.map V.int)->cs.Pairwise (· < ·)->(∀x,x∈cs↔MkC Lo c b x)->Q (.ref l) H')
inductive iP(K:W.Frag)(Y:AD)(vs:Ly V)(H:Hp)(Q:VK)(e_:XK):Prop
 |mk (v:V)(_:vs=[v])(_:LfV K H v)(_:Q (.bl Lj) H)
inductive gc(K:W.Frag)(Y:AD)(vs:Ly V)(H:Hp)(Q:VK)(e_:XK):Prop
 |mk (a:HR)(ns:Ly Int)(_:vs=[.ref a])(_:SqL K H a (ns.map V.int))(_:∀(l:HR)(ys:Ly V)(bs:Prs)(H':Hp),ar H H'->H l=Li->H' l=Lh (.lst ys)->PL H' ys bs->BdI ns bs->Q (.ref l) H')
inductive gR(K:W.Frag)(Y:AD)(vs:Ly V)(H:Hp)(Q:VK)(e_:XK):Prop
 |mk (a bo:HR)(ns:Ly Int)(ys:Ly V)(bs:Prs)(_:vs=[.ref a,.ref bo])(_:SqL K H a (ns.map V.int))(_:H bo=Lh (.lst ys))(_:PL H ys bs)(_:1<=⇑bs)(_:⇑bs<=3)(_:(∀b∈bs,b.1<=b.2))(_:∀(l:HR)(as:Ly HR)(pls:Ly (Ly Int))(H':Hp),ar H H'->H' l=Lh (.lst<|as.map V.ref)->MLs H' as pls->PoI bs pls->Q (.ref l) H')
inductive jT(K:W.Frag)(Y:AD)(vs:Ly V)(H:Hp)(Q:VK)(e_:XK):Prop
 |mk (bo po ou:HR)(n:Int)(ys:Ly V)(bs:Prs)(as:Ly HR)(pls:Ly (Ly Int))(outs:Ly Int)(_:vs=[.ref bo,.ref po,.int n,.ref ou])(_:H bo=Lh (.lst ys))(_:PL H ys bs)(_:H po=Lh (.lst<|as.map V.ref))(_:MLs H as pls)(_:PoI bs pls)(_:H ou=Lh (.lst<|outs.map V.int))(_:0<⇑outs)(_:⇑bs<=3)(_:∀(r:HR)(w:Rw)(H':Hp),ar H H'->jN (λa=>H a=Li) H' r w->RwQ bs pls outs w->Q (.ref r) H')
inductive dP(K:W.Frag)(Y:AD)(vs:Ly V)(H:Hp)(Q:VK)(e_:XK):Prop
 |mk (rl cl:HR)(rx:Ly V)(Lo:Ly Rw)(cs:Ly Int)(_:vs=[.ref rl,.ref cl])(_:H rl=Lh (.lst rx))(_:RL NT H rx Lo)(_:⇑rx<=200)(_:H cl=Lh (.lst<|cs.map V.int))(_:⇑cs<=4)(_:(∀w∈Lo,⇑w.1=⇑cs))(_:∀(l:HR)(H':Hp),ar H H'->H l=Li->H' l=Lh (.lst<|vN<|(List.range Lo.length).filter<|cQ Lo cs)->Q (.ref l) H')
inductive bj(K:W.Frag)(Y:AD)(vs:Ly V)(H:Hp)(Q:VK)(e_:XK):Prop
 |mk (x dx:HR)(lo hi:Int)(_:vs=[.ref x,.int lo,.int hi])(_:H x=Lh (.ins Y.l dx []))(_:lo<=hi)(_:Q .non (mkd Y.l H x dx lo hi))
def J0(K:W.Frag)(Y:AD):Sp:=wA Y.e s!"first"
def J8(K:W.Frag)(Y:AD):Sp:=wA Y.f s!"only"
def J4(K:W.Frag)(Y:AD):Sp:=wA Y.g s!"like"
def J6(K:W.Frag)(Y:AD):Sp:=wA Y.h s!"low"
def J2(K:W.Frag)(Y:AD):Sp:=wA Y.i s!"high"
def J10(K:W.Frag)(Y:AD):Sp:=wA Y.j s!"sum"
inductive b8(K:W.Frag)(Y:AD)(vs:Ly V)(H:Hp)(Q:VK)(e_:XK):Prop
 |mk (a:HR)(b:Int×Int)(i:Int)(_:vs=[.ref a,.int i])(_:BZ Y.l H a b.1 b.2)(_:b.1<=i)(_:i<=b.2)(_:Q (.bl Lj) H)
inductive cn(K:W.Frag)(Y:AD)(vs:Ly V)(H:Hp)(Q:VK)(e_:XK):Prop
 |mk (a:HR)(b:Int×Int)(i:Int)(_:vs=[.ref a,.int i])(_:BZ Y.m H a b.1 b.2)(_:b.1<=i)(_:i<=b.2)(_:Q (.bl Lj) H)
def J12(K:W.Frag)(Y:AD):Sp:=kK K Y.e Y.l Y.m 0
def J16(K:W.Frag)(Y:AD):Sp:=kK K Y.f Y.l Y.m 1
def J14(K:W.Frag)(Y:AD):Sp:=kK K Y.g Y.l Y.m 2
def J15(K:W.Frag)(Y:AD):Sp:=kK K Y.h Y.l Y.m 3
def J13(K:W.Frag)(Y:AD):Sp:=kK K Y.i Y.l Y.m 4
def J17(K:W.Frag)(Y:AD):Sp:=kK K Y.j Y.l Y.m 5
inductive og(K:W.Frag)(Y:AD)(vs:Ly V)(H:Hp)(Q:VK)(e_:XK):Prop
 |mk (a b:HR)(ys:Ly V)(ps:Ly (Int×Int))(as:Ly HR)(mss:Ly (Ly Int))(_:vs=[.ref a,.ref b])(_:H a=Lh (.lst ys))(_:PL H ys ps)(_:H b=Lh (.lst<|as.map V.ref))(_:MLs H as mss)(_:MOK ps mss)(_:∀H':Hp,ar H H'->Q (.int ((gr ps mss ⇑ps:Nat):Int)) H')
inductive eU(K:W.Frag)(Y:AD)(vs:Ly V)(H:Hp)(Q:VK)(e_:XK):Prop
 |mk (p:HR)(zs:Ly Str)(_:vs=[.ref p])(_:SqL K H p (zs.map V.str))(_:(∀z∈zs,isw z=Lj))(_:zs.Nodup)(_:⇑zs<=100)(_:∀H',ar H H'->Q .non H')
inductive gf(K:W.Frag)(Y:AD)(vs:Ly V)(H:Hp)(Q:VK)(e_:XK):Prop
 |mk (dl ou cl:HR)(dv xs:Ly V)(bs:Prs)(o:Int×Int)(w:Rw)(_:vs=[.ref dl,.ref ou,.ref cl,.int w.2])(_:SqL K H dl dv)(_:aS dv bs (Dom Y.l Y.m H))(_:Dom Y.l Y.m H ou o)(_:H cl=Lh (.lst xs))(_:CL NT H xs w.1)(_:ml bs o w)(_:∀H',ar H H'->Q .non H')
inductive kP(K:W.Frag)(Y:AD)(vs:Ly V)(H:Hp)(Q:VK)(e_:XK):Prop
 |mk (t c:HR)(Lo:Ly Rw)(i:Nat)(o:Int×Int)(cs:Ly Int)(_:vs=[.ref t,.ref c])(_:Tbl Y.n Y.l Y.m H t Lo i o)(_:SqL K H c (cs.map V.int))(_:(∀w∈Lo,⇑w.1=⇑cs))(_:∀H',ar H H'->Q (.int ((msk (cQ Lo cs) Lo.length:Nat):Int)) H')
inductive dQ(K:W.Frag)(Y:AD)(vs:Ly V)(H:Hp)(Q:VK)(e_:XK):Prop
 |mk (t:HR)(dv:Ly V)(bs:Prs)(Lo:Ly Rw)(L:Nat->Ly Int)(_:vs=[.ref t])(_:TD Y.n Y.l Y.m H t dv bs Lo)(_:⇑bs<=100)(_:Lo.length<=200)(_:(∀w∈Lo,⇑w.1=⇑bs))(_:(∀c,spn Lo c<=499))(_:(∀(c:Nat)(b:Int×Int),bs[c]?=Lh b->⇑(L c)<=400/\∀x,MkC Lo c b x->x∈L c))(_:∀(l:HR)(as:Ly HR)(mss:Ly (Ly Int))(H':Hp),ar H H'->H l=Li->H' l=Lh (.lst<|as.map V.ref)->MLs H' as mss->⇑mss=⇑bs->(∀(c:Nat)(b:Int×Int)(ms:Ly Int),bs[c]?=Lh b->mss[c]?=Lh ms->ms.Pairwise (· < ·)/\∀x,x∈ms↔MkC Lo c b x)->(∀r∈as,H r=Li/\r≠l)->Q (.ref l) H')
inductive gW(K:W.Frag)(Y:AD)(vs:Ly V)(H:Hp)(Q:VK)(e_:XK):Prop
 |mk (fo rl bo:HR)(fx:Ly V)(qs:Ly (Ly (Int×Int)×Int))(rx:Ly V)(Lo:Ly Rw)(ys:Ly V)(bs:Prs)(_:vs=[.ref fo,.ref rl,.ref bo])(_:H fo=Lh (.lst fx))(_:BxL H fx qs)(_:H rl=Lh (.lst rx))(_:RL NT H rx Lo)(_:⇑rx<=200)(_:(∀w∈Lo,⇑w.1=⇑bs))(_:H bo=Lh (.lst ys))(_:PL H ys bs)(_:⇑bs<=3)(_:(∀b∈bs,0<=b.2-b.1/\b.2-b.1<=10^58))(_:(∀q∈qs,QsI Lo bs q))(_:(qs.map λq=>vol q.1).sum=vol bs)(_:∀H',ar H H'->Q (.bl Lj) H')
inductive cC(K:W.Frag)(Y:AD)(vs:Ly V)(H:Hp)(Q:VK)(e_:XK):Prop
 |mk (x dx p:HR)(zs:Ly Str)(_:vs=[.ref x,.ref p])(_:H x=Lh (.ins Y.m dx []))(_:H p=Lh (.lst<|zs.map V.str))(_:Good zs)(_:∀(H':Hp)(l:HR),(∀b o,b≠x->H b=Lh o->H' b=Lh o)->H' x=Lh (.ins Y.m dx [("low",.int 0),("high",.int<|hiW zs),("words",.ref l)])->H' l=Lh (.lst<|zs.map V.str)->Q .non H')
inductive jg(K:W.Frag)(Y:AD)(vs:Ly V)(H:Hp)(Q:VK)(e_:XK):Prop
 |mk (z:Str)(_:vs=[.str z])(_:z∈six)(_:(∀i:Nat,six[i]?=Lh z->∀(x C:HR)(H':Hp),ar H H'->(cl6 Y.e Y.f Y.g Y.h Y.i Y.j)[i]?=Lh C->WyN C H' x z->Q (.ref x) H'))
inductive dA(K:W.Frag)(Y:AD)(vs:Ly V)(H:Hp)(Q:VK)(e_:XK):Prop
 |mk (t bo ma:HR)(dv:Ly V)(bs:Prs)(Lo:Ly Rw)(L:Nat->Ly Int)(ys:Ly V)(as:Ly HR)(mss:Ly (Ly Int))(_:vs=[.ref t,.ref bo,.ref ma])(_:TD Y.n Y.l Y.m H t dv bs Lo)(_:⇑bs<=4)(_:Lo.length<=200)(_:(∀w∈Lo,⇑w.1=⇑bs))(_:(∀c,spn Lo c<=499))(_:(∀(c:Nat)(b:Int×Int),bs[c]?=Lh b->⇑(L c)<=400/\∀x,MkC Lo c b x->x∈L c))(_:H bo=Lh (.lst ys))(_:PL H ys bs)(_:H ma=Lh (.lst<|as.map V.ref))(_:MLs H as mss)(_:⇑mss=⇑bs)(_:(∀(c:Nat)(b:Int×Int)(ms:Ly Int),bs[c]?=Lh b->mss[c]?=Lh ms->ms.Pairwise (· < ·)/\∀x,x∈ms↔MkC Lo c b x))(_:∀H',ar H H'->Q (.bl Lj) H')
inductive gg(K:W.Frag)(Y:AD)(vs:Ly V)(H:Hp)(Q:VK)(e_:XK):Prop
 |mk (z:Str)(ou:HR)(_:vs=[.str z,.ref ou])(_:z∈six)(_:(z=s!"sum" -> ∃dx fs,H ou=Lh (.ins Y.l dx fs))) (_:∀H',ar H H'->Q .non H')
inductive gv(K:W.Frag)(Y:AD)(vs:Ly V)(H:Hp)(Q:VK)(e_:XK):Prop
 |mk (t:HR)(Lo:Ly Rw)(i:Nat)(o:Int×Int)(m:Int)(_:vs=[.ref t,.int m])(_:Tbl Y.n Y.l Y.m H t Lo i o)(_:∀(r:HR)(H':Hp),ar H H'->Vd K H' r (ver (wf i o.1 o.2)<|pkF Lo (gq m) Lo.length)->Q (.ref r) H')
inductive gh(K:W.Frag)(Y:AD)(vs:Ly V)(H:Hp)(Q:VK)(e_:XK):Prop
 |mk (r:HR)(p:Int×Int)(b:Bool)(_:vs=[.ref r,.bl b])(_:H r=Lh (.tup [.int p.1,.int p.2]))(_:p.1<=p.2)(_:(b=Lj->p.1=0/\p.2<=7))(_:∀(x:HR)(H':Hp),ar H H'->Dom Y.l Y.m H' x p->Q (.ref x) H')
inductive bO(K:W.Frag)(Y:AD)(vs:Ly V)(H:Hp)(Q:VK)(e_:XK):Prop
 |mk (x dx na dl ou rl:HR)(nm wy:Str)(zs:Ly Str)(dv rx:Ly V)(bs:Prs)(o:Int×Int)(Lo:Ly Rw)(_:vs=[.ref x,.str nm,.ref na,.ref dl,.ref ou,.str wy,.ref rl])(_:H x=Lh (.ins Y.n dx []))(_:H na=Lh (.lst<|zs.map V.str))(_:(∀z∈nm :: zs,isw z=Lj))(_:(nm :: zs).Nodup)(_:1<=⇑zs)(_:⇑zs<=4)(_:wy∈six)(_:(wy=s!"sum" -> ∃dx fs,H ou=Lh (.ins Y.l dx fs))) (_:H dl=Lh (.lst dv))(_:aS dv bs (Dom Y.l Y.m H))(_:Dom Y.l Y.m H ou o)(_:H rl=Lh (.lst rx))(_:RL NT H rx Lo)(_:⇑rx<=200)(_:⇑bs<=4)(_:(∀w∈Lo,ml bs o w))(_:∀(H':Hp)(fs:Ly (Str×V))(rl':HR)(xs':Ly V),(∀b o,b≠x->H b=Lh o->H' b=Lh o)->H' x=Lh (.ins Y.n dx fs)->fs.lookup s!"rows"=↑rl'->fs.lookup s!"way"=Lh (.str wy)->fs.lookup s!"outcome"=↑ou->fs.lookup s!"name"=Lh (.str nm)->(∃na' dl':HR,fs.lookup s!"names"=↑na'/\fs.lookup s!"domains"=↑dl'/\H' na'=Lh (.lst<|zs.map V.str)/\H' dl'=Lh (.lst dv))->H' rl'=Lh (.lst xs')->RL NT H' xs' Lo->Q .non H')
inductive iQ(K:W.Frag)(Y:AD)(n:Nat)(vs:Ly V)(H:Hp)(Q:VK)(e_:XK):Prop
 |mk (L:Type)(_:DecidableEq L)(A:Lfp K L)(d:Nat)(f:Fm L d)(v:V)(_:vs=[v,.int (d:Int)])(_:FmV A H d f v)(_:d+1<=n)(_:⇑(bxs d f)<=2000)(_:(∀q∈bxs d f,⇑q.1<=6))(_:∀(l:HR)(xs:Ly V)(H':Hp),ar H H'->H l=Li->H' l=Lh (.lst xs)->BxG A H' xs (bxs d f)->Q (.ref l) H')
theorem yS{K:W.Frag}{Y:AD}{vs:Ly V}{H:Hp}{Q:VK}{E:XK}(h:iQ K Y 0 vs H Q E):False:=by
 let(j,b,c,d,i,v,rfl,f,e,a,g,q):=h;lia
inductive dR(K:W.Frag)(Y:AD)(n:Nat)(vs:Ly V)(H:Hp)(Q:VK)(e_:XK):Prop
 |mk (L:Type)(_:DecidableEq L)(A:Lfp K L)(d:Nat)(F:Fm L d)(v:V)(bo:HR)(ys:Ly V)(ps:Ly (Int×Int))(_:vs=[v,.ref bo])(_:d+1<=n)(_:d<=3)(_:(∀H x u,A.R H x u->LfV K H u))(_:FmV A H d F v)(_:H bo=Lh (.lst ys))(_:PL H ys ps)(_:fm d F ps)(_:SmF 300 d F)(_:∀H',ar H H'->Q (.bl Lj) H')
theorem qO{K:W.Frag}{Y:AD}{vs:Ly V}{H:Hp}{Q:VK}{E:XK}(h:dR K Y 0 vs H Q E):False:=by
 let(p,a,g,d,r,v,o,i,j,rfl,k,e,f,l,m,n,c,b,q):=h;lia
inductive iR(K:W.Frag)(Y:AD)(vs:Ly V)(H:Hp)(Q:VK)(e_:XK):Prop
 |mk (a bo rl:HR)(ns:Ly Int)(ys:Ly V)(bs:Prs)(rx:Ly V)(Lo:Ly Rw)(wy nm:Str)(i:Nat)(big:Int)(_:vs=[.ref a,.ref bo,.ref rl,.str wy,.int big,.str nm])(_:SqL K H a (ns.map V.int))(_:H bo=Lh (.lst ys))(_:PL H ys bs)(_:BdI ns bs)(_:H rl=Lh (.lst rx))(_:RL NT H rx Lo)(_:⇑rx<=30)(_:six[i]?=Lh wy)(_:1<=big)(_:(nm=s!"t" \/ nm=s!"u")) (_:(∀w∈Lo,ml bs (-big,big+big / 2) w))(_:∀(t:HR)(dv:Ly V)(H':Hp),ar H H'->TD Y.n Y.l Y.m H' t dv bs Lo->Tbl Y.n Y.l Y.m H' t Lo i (-big,big+big / 2)->Q (.ref t) H')
inductive fC(K:W.Frag)(Y:AD)(P:HQ)(w:HP)(mg:Str->Option HN)(base:HS)(n:Nat)(vs:Ly V)(H:Hp)(Q:VK)(e_:XK):Prop
 |mk (c b f:HR)(xs:Ly V)(cols:Ly (List<|Int×Int))(ah:Ly Int)(m:Nat)(L:Type)(_:DecidableEq L)(A:Lfp K L)(g:Ly Int->L)(J:Hp->Prop)(_:vs=[.ref c,.ref b,.ref f])(_:⇑cols+1<=n)(_:H c=Lh (.lst xs))(_:CoL H xs cols)(_:H b=Lh (.lst<|ah.map V.int))(_:(∀col∈cols,⇑col<=401))(_:⇑ah+⇑cols<=6)(_:⇑cols<=6)(_:m=⇑ah+⇑cols)(_:B2 A P w K mg base f m g J)(_:J H)(_:(∀(v:V)(H':Hp),(∀d o,d≠b->H d=Lh o->H' d=Lh o)->FmV A H' ⇑cols (lay g cols ah) v->Q v H'))
theorem uF{K:W.Frag}{Y:AD}{P:HQ}{w:HP}{mg:Str->Option HN}{base:HS}{vs:Ly V}{H:Hp}{Q:VK}{E:XK}(h:fC K Y P w mg base 0 vs H Q E):False:=by
 let(c,b,t,i,a,u,m,L,j,A,g,J,rfl,k,n,s,o,f,e,d,l,p,r,q):=h;lia
inductive gx(K:W.Frag)(Y:AD)(P:HQ)(w:HP)(mg:Str->Option HN)(base:HS)(n:Nat)(vs:Ly V)(H:Hp)(Q:VK)(e_:XK):Prop
 |mk (L M:Type)(_:DecidableEq L)(_:DecidableEq M)(A:Lfp K L)(B:Lfp K M)(h:L->M)(J:Hp->Prop)(d:Nat)(F:Fm L d)(v:V)(f:HR)(_:vs=[v,.int d,.ref f])(_:d+1<=n)(_:d<=6)(_:FmV A H d F v)(_:SmF 300 d F)(_:Dk A B P w K mg base f h J)(_:J H)(_:∀(u:V)(H':Hp),ar H H'->FmV B H' d (oZ h d F) u->Q u H')
theorem wI{K:W.Frag}{Y:AD}{P:HQ}{w:HP}{mg:Str->Option HN}{base:HS}{vs:Ly V}{H:Hp}{Q:VK}{E:XK}(h:gx K Y P w mg base 0 vs H Q E):False:=by
 let(L,M,e,c,A,B,i,J,d,m,v,l,rfl,g,b,f,a,j,k,q):=h;lia
inductive oh(K:W.Frag)(Y:AD)(P:HQ)(w:HP)(mg:Str->Option HN)(base:HS)(vs:Ly V)(H:Hp)(Q:VK)(E:XK):Prop
 |mk (a b f:HR)(ys:Ly V)(ps:Ly (Int×Int))(as:Ly HR)(mss:Ly (Ly Int))(L:Type)(_:DecidableEq L)(A:Lfp K L)(g:Ly Int->L)(J:Hp->Prop)(_:vs=[.ref a,.ref b,.ref f])(_:H a=Lh (.lst ys))(_:PL H ys ps)(_:H b=Lh (.lst<|as.map V.ref))(_:MLs H as mss)(_:MOK ps mss)(_:B2 A P w K mg base f ⇑ps g J)(_:J H)(_:(300<gr ps mss ⇑ps->∀H',ar H H'->E (.ref Y.b) Li H'))(_:(gr ps mss ⇑ps<=300->∀(v:V)(H':Hp)(css:Ly (Ly Int)),ar H H'->⇑css=⇑ps->(∀(j:Nat)(p:Int×Int)(ms cs:Ly Int),ps[j]?=Lh p->mss[j]?=Lh ms->css[j]?=Lh cs->cs.Pairwise (· < ·)/\(∀c,c∈cs↔(c∈ms/\p.1<c/\c<=p.2))/\⇑cs<=400)->FmV A H' ⇑(List.zipWith (λp cs=>bZ p.1 p.2 cs) ps css) (lay g (List.zipWith (λp cs=>bZ p.1 p.2 cs) ps css) []) v->Q v H'))
inductive dG(K:W.Frag)(Y:AD)(vs:Ly V)(H:Hp)(Q:VK)(E:XK):Prop
 |mk (t:HR)(dv:Ly V)(bs:Prs)(Lo:Ly Rw)(L:Nat->Ly Int)(g i:Nat)(o:Int×Int)(_:vs=[.ref t])(_:RfB Y.n Y.l Y.m H t dv bs Lo L g i o)(_:(∀z,W.tabIn K "row_form" = Lh z->TabOk H z.2 [(oY Y78,"row_form.<locals>.<lambda>")] )) (_:(300<g->∀H',So H H'->(∀z,W.tabIn K "row_form" = Lh z->TabOk H' z.2 [(oY Y78,"row_form.<locals>.<lambda>")]/\∀d o,d≠z.2->H d=Lh o->H' d=Lh o)->(∃z,W.tabIn K "row_form" = Lh z)->E (.ref Y.b) Li H')) (_:(g<=300->∀(v:V)(H':Hp)(css:Ly (Ly Int)),So H H'->(∀z,W.tabIn K "row_form" = Lh z->TabOk H' z.2 [(oY Y78,"row_form.<locals>.<lambda>")]/\∀d o,d≠z.2->H d=Lh o->H' d=Lh o)->(∃z,W.tabIn K "row_form" = Lh z)->⇑css=⇑bs->(∀(j:Nat)(p:Int×Int)(cs:Ly Int),bs[j]?=Lh p->css[j]?=Lh cs->cs.Pairwise (· < ·)/\∀x,x∈cs↔MkC Lo j p x)->FmV (K:=K) nJ H' ⇑(List.zipWith (λp cs=>bZ p.1 p.2 cs) bs css) (lay (λcd=>((msk (cQ Lo cd) Lo.length:Nat):Int)) (List.zipWith (λp cs=>bZ p.1 p.2 cs) bs css) []) v->Q v H'))
inductive dr(K:W.Frag)(Y:AD)(vs:Ly V)(H:Hp)(Q:VK)(E:XK):Prop
 |mk (t:HR)(dv:Ly V)(bs:Prs)(Lo:Ly Rw)(L:Nat->Ly Int)(g i:Nat)(o:Int×Int)(_:vs=[.ref t])(_:RfB Y.n Y.l Y.m H t dv bs Lo L g i o)(_:eQ K H)(_:eO K H)(_:(300<g->∀H',So H H'->eQ K H'->eO K H'->E (.ref Y.b) Li H'))(_:(g<=300->∀(v:V)(F:Fm SI ⇑bs)(H':Hp),So H H'->eQ K H'->eO K H'->FmV (K:=K) LVd H' ⇑bs F v->fm ⇑bs F bs->SmF 300 ⇑bs F->(∀cs,InB cs bs->Tel ⇑bs F cs (vdm Lo i o<|mkg Lo cs))->⇑(bxs ⇑bs F)<=g->Q v H'))
inductive jh(K:W.Frag)(Y:AD)(vs:Ly V)(H:Hp)(Q:VK)(E:XK):Prop
 |mk (t:HR)(dv:Ly V)(bs:Prs)(Lo:Ly Rw)(L:Nat->Ly Int)(g i:Nat)(o:Int×Int)(_:vs=[.ref t])(_:RfB Y.n Y.l Y.m H t dv bs Lo L g i o)(_:eQ K H)(_:eO K H)(_:(300<g->∀H',So H H'->eQ K H'->eO K H'->E (.ref Y.b) Li H'))(_:(g<=300->∀(l:HR)(xs:Ly V)(cols:Ly (List<|Int×Int))(H':Hp),So H H'->eQ K H'->eO K H'->H' l=Lh (.lst xs)->NoP H l->o6 bs Lo cols->BxL H' xs (bxs ⇑cols<|lay (mkg Lo) cols [])->⇑(bxs ⇑cols<|lay (mkg Lo) cols [])<=300->Q (.ref l) H'))
inductive fD(K:W.Frag)(Y:AD)(vs:Ly V)(H:Hp)(Q:VK)(e_:XK):Prop
 |mk (t:HR)(d:Int)(dv:Ly V)(bs:Prs)(Lo:Ly Rw)(L:Nat->Ly Int)(g i:Nat)(o:Int×Int)(_:vs=[.ref t,.int d])(_:RfB Y.n Y.l Y.m H t dv bs Lo L g i o)(_:eQ K H)(_:eO K H)(_:(d=0\/d=1\/d=2))(_:∀H',So H H'->eQ K H'->eO K H'->Q (.bl<|Lm<|300<g) H')
inductive iS(K:W.Frag)(Y:AD)(vs:Ly V)(H:Hp)(Q:VK)(e_:XK):Prop
 |mk (wy:Str)(i:Nat)(c:Int)(_:vs=[.str wy,.int c])(_:six[i]?=Lh wy)(_:eQ K H)(_:eO K H)(_:∀H',So H H'->eQ K H'->eO K H'->Q (.bl Lj) H')
def J18(K:W.Frag):Sp:=λc H Q _=>∃(a:HR)(b:Ly Int),c=[.ref a]/\SqL K H a (b.map V.int)/\⇑b<=63/\(∀z,W.tabIn K "row_form" = Lh z->H z.2=Lh (.tbl #[]))/\(∀z,W.tabIn K "verdict_form" = Lh z->H z.2=Lh (.tbl #[]))/\∀d,Q (.bl Lj) d
inductive gy(K:W.Frag)(Y:AD)(f c' c_0:HR)(doc pm ctv:HN)(vs:Ly V)(H:Hp)(Q:VK)(e_:XK):Prop
 |mk (a t:HR)(cs:Ly Int)(Lo:Ly Rw)(i:Nat)(o:Int×Int)(_:vs=[.ref a])(_:jA H f c' (W.kla_obj "<lambda>" "row_form.<locals>.<lambda>" (qy Y78) (oX Y78) (kG Y78) [("table",c_0)] pm c' ctv) "row_form.<locals>.<lambda>" [("table",c_0)] [("table",.ref t)]) (_:Tbl Y.n Y.l Y.m H t Lo i o)(_:H a=Lh (.lst<|cs.map V.int))(_:(∀x∈Lo,⇑x.1=⇑cs))(_:∀H',ar H H'->Q (.int ((msk (cQ Lo cs) Lo.length:Nat):Int)) H')
inductive eP(K:W.Frag)(Y:AD)(f c' c_0:HR)(doc pm ctv:HN)(vs:Ly V)(H:Hp)(Q:VK)(e_:XK):Prop
 |mk (m:Int)(t:HR)(Lo:Ly Rw)(i:Nat)(o:Int×Int)(_:vs=[.int m])(_:jA H f c' (W.kla_obj "<lambda>" "verdict_form.<locals>.<lambda>" (qy Y83) (oX Y83) (kG Y83) [("table",c_0)] pm c' ctv) "verdict_form.<locals>.<lambda>" [("table",c_0)] [("table",.ref t)]) (_:Tbl Y.n Y.l Y.m H t Lo i o)(_:∀(r:HR)(H':Hp),ar H H'->Vd K H' r (vdm Lo i o m)->Q (.ref r) H')
section
variable{P:HQ}{w:HP}{K:W.Frag}{mg:Str->Option HN}{base:HS}{f:HR}{fd:Jf}{Y:AD}
theorem EK(F:Fun K "holds" "holds" Y42 f fd) (bl:Bl K mg Y)  : aK P w K mg base CX0 1 f fd ["spans","number"] (n8 K Y):=by
 refine F.okA Z42 λI A v s H J Q E L h=>?_
 let(a,xs,k,n,rfl,y,B,q):=h
 refine⟨_,(aq (bp IG.never U (aQ<|pv 0) (fV U<|aM (aE (i:=2) Z42.nd U<|Or.inl U)<|aM (aE (i:=3) Z42.nd U<|Or.inl U) cI)
  (aj (aP (iw dX dX (pv 2) (pv 1)<|pv 3)
  (aj<|ax cE)
  aF)))
  (aj<|ax cE)),?_⟩
 show(let D:TS:=_;aR _ D _ _ _);intro _;refine⟨_,U,a,U,⟨_,y⟩,(let G:Nat->St->Hp->Prop:=λi g j=>(∃t o,g=[↑a,Lh<|.int n,t,o])/\j=H/\(k.take i).any (inR n)=Ll;bu (xs:=xs) G ⟨⟨_,_,U⟩,U,U⟩ (λi g j _ h=>by let(_,e,_):=h;rw[e];exact y) (λi x g j e h=>?_) (λg j h=>?_))⟩
 .let((t,o,rfl),m,b):=h;rw[m];let(p,r,l,rfl,u):=B.get e;calc⟨r,_,U,SqT.of u,U,_,_,U,_,_,U,U,?_⟩;calc⟨_,U,_,U,_,_,U,U,_,U,?_⟩;refine cD (λc=>?_)<|λc=>?_
  .refine⟨_,U,_,_,U,U,_,U,?_⟩;refine cD (λd=>?_)<|λd=>?_
   .let C:inP k n=true:=mR l<|Df c d;rw[C]at q;exact q
   .exact⟨⟨_,_,U⟩,U,eH l b<|AR d⟩
  .exact⟨_,U,bV ⟨⟨_,_,U⟩,U,eH l b<|AQ c⟩⟩
 .let((t,o,rfl),m,b):=h;rw[m];let z:inP k n=false:=by
   rw[B.length,gd]at b;exact b
  rw[z]at q;calc q
theorem EL(F:Fun K "edges" "edges" Y38 f fd) (bl:Bl K mg Y)  : aK P w K mg base CX0 1 f fd ["spans","low","high"] (n9 K Y):=by
 refine F.okA Z38 λa2 A S s H vs Q E hr h=>?_
 let(a,xs,R,lo,hi,rfl,W,C,hl,q):=h
 refine⟨_,(aq (aG (i:=3) Z38.nd U (Or.inl U)<|aW af)
  (aq (bp IG.never U (aQ<|pv 0) (fV U<|aM (aE (i:=4) Z38.nd U<|Or.inl U)<|aM (aE (i:=5) Z38.nd U<|Or.inl U) cI)
  (aq (bg<|fe PySem.F.plainAttrs_list PySem.F.slot_list_append PySem.F.type_list_append bG (pv 3)<|aa (pv 4) af)
  (aj<|bg<|fe PySem.F.plainAttrs_list PySem.F.slot_list_append PySem.F.type_list_append bG (pv 3)<|aa (aD bE (pv 5) ak) af)))
  (aj<|ax<|cq (aQ<|pv 3) (aV (N:=["turn","low","high"]) (fr:=[1,2]) (cl:=[("low",↥s+1),("high",↥s+1+1)]) U U (~~~0) (~~~0) U (~~~0) U U U (fu.mpr ⟨U,fu.mpr ⟨U,ja _⟩⟩) U) U (λ_ _ _ _=>(gF<|iw hU dX (pv 1) (pv 0)<|pv 2))<|λ_ _ _ _=>(pv 0)))),?_⟩
 show(let r2:TS:=_;let r1:TS:=aR _ r2;aR _ r1 _ _ _);intro _ _;refine⟨(by show 0<=HU;decide),λl v=>?_⟩;let T:ar H (upd H l<|.lst []):=ai v _
 refine⟨_,U,a,U,⟨_,T.seq W⟩,bu (xs:=xs) (λi B k=>∃(L J:Option V),B=[↑a,Lh<|.int lo,Lh<|.int hi,↑l,L,J]/\ar H k/\k l=Lh (.lst<|(ends<|R.take i).map V.int)/\⇑(ends<|R.take i)<=2*i)
  ⟨Li,Li,U,T,ae,xX _⟩ (λi B k _ h=>by let(_,_,_,j,_):=h;exact j.seq W) (λi x B k e h=>?_) (λB k h=>?_)⟩
 .let(L,J,rfl,j,m,z):=h;let(p,r,Z,rfl,M):=(C.mono j.tups).get e;let b:i<⇑xs:=(HG.mp e).1;calc⟨r,_,U,SqT.of M,U,_,_,U,_,_,U,U,?_⟩;refine⟨_,U,.inl ⟨U,_,SqL.of m⟩,_,U,l,_,_,U,U,m,az (by rw[bc];lia),?_⟩;refine⟨_,U,.inl ⟨U,_,SqL.of ae⟩,_,U,_,_,U,U,l,_,_,U,U,ae,az (by rw[dy,bc,iU];lia),?_⟩;rw[yY];refine⟨_,_,U,j.upd v,?_,?_⟩
  .rw[ae,take_snoc Z,pI];simp
  .rw[take_snoc Z,pI,dy];simp;lia
 .let(L,J,rfl,j,m,z):=h;rw[C.length,gd]at m z
  refine⟨_,U,l,U,⟨_,SqL.of m⟩,cB (xs:=(ends R).map V.int) (λD i zs d=>ar k d/\d D=Lh (.lst zs)/\zs=(((ends R).take i).filter<|λt=>decide (lo<t) && decide (t<=hi)).map V.int/\⇑zs<=i)
   (λD n=>⟨ai n _,ae,U,yX _⟩) (λD i zs d n _ h=>SqL.of<|h.1 _ _ m) (λD i x zs d n e h=>?_) (λD zs d n h=>?_)⟩
  .let(g,u,o,O):=h;let(c,rfl,X):=of_map e;let b:i<⇑((ends R).map V.int):=(HG.mp e).1;let a1:i<⇑(ends R):=by rw[bc]at b;exact b
   let y:(Lm (lo<c) && decide (c<=hi))=Ll->dj (λD i zs d=>ar k d/\d D=Lh (.lst zs)/\zs=(((ends R).take i).filter<|λt=>decide (lo<t) && decide (t<=hi)).map V.int/\⇑zs<=i) D i ⇑((ends R).map V.int) d:=λhf=>by
    calc dj.mk (zs:=zs) b ⟨g,u,?_,∅⟩;rw[take_snoc X,lz,uQ (~~~hf)];simpa using o
   calc⟨_,U,_,U,_,_,U,U,_,U,?_⟩;refine cD (λI=>?_)<|λI=>?_
   .refine⟨_,U,_,_,U,U,_,U,?_⟩;refine cD (λG=>?_) (λG=>y (by rw[EH.mpr G,Bool.and_false]));let a0:=C.length;refine⟨_,U,cA.mk b u (az ∅) ⟨g.upd n,ae,?_,by rw[dy,iU];lia⟩⟩;rw[take_snoc X,lz,uP (by rw[I,G];rfl),o];simp
   .exact⟨_,U,bV<|y (by rw[EH.mpr I,Bool.false_and])⟩
  .let(g,u,o,O):=h;rw[bc,gd]at o;rw[o]at u;calc q D d _ (j.trans g) (j.free n) u U
theorem EM(F:Fun K "stretches" "stretches" Y79 f fd) (bl:Bl K mg Y)  : aK P w K mg base CX0 1 f fd ["low","high","marks"] (gL K Y):=by
 refine F.okA Z80 λb4 A b1 s H vs Q E hr h=>?_
 let(a,n,L,lo,hi,rfl,hS,hl,hL,kv,q):=h
 refine⟨_,(aq (aG (i:=3) Z80.nd U (Or.inl U)<|au (c9 (w:=w) U U) U bl.sorted_ PyProof.Rows.boot_sorted<|aa (bJ (i7 (w:=w) U U) U bl.set_ PyProof.Rows.boot_set<|aa (cq (aQ<|pv 2) (aV (N:=["mark","low","high"]) (fr:=[0,1]) (cl:=[("low",↥s+1),("high",↥s+1+1)]) U U (~~~0) (~~~0) U (~~~0) U U U (fu.mpr ⟨U,fu.mpr ⟨U,ja _⟩⟩) U) U (λ_ _ _ _=>(gF<|iw hU dX (pv 1) (pv 0)<|pv 2))<|λ_ _ _ _=>(pv 0)) af) af)
  (aq (aG (i:=4) Z80.nd U (Or.inl U)<|aD lE (aW<|aa (pv 0) af)<|pv 3)
  (aq (aG (i:=5) Z80.nd U (Or.inl U)<|aD lE (cq (aQ<|pv 3) (dD U (~~~0) (~~~0) (~~~0) U) U (λ_ _ _ _=>bC)<|λ_ _ _ _=>(aD dI (pv 0) ak))<|aW<|aa (pv 1) af)
  (aj<|ax<|ur U U bl.list_ U bl.zip_<|aa (pv 4)<|aa (pv 5) af)))),?_⟩
 show(let r3:TS:=_;let r2:TS:=aR _ r3;let r1:TS:=aR _ r2;aR _ r1 _ _ _);intro _ _ _
 refine⟨_,U,a,U,⟨_,hS⟩,cB (xs:=n.map V.int) (λD i zs g=>ar H g/\g D=Lh (.lst zs)/\zs=((n.take i).filter<|λt=>decide (lo<t) && decide (t<=hi)).map V.int/\⇑zs<=i)
  (λD m=>⟨ai m _,ae,U,yX _⟩) (λD i zs g m _ h=>h.1.seq hS) (λD i x zs g m e h=>?_) (λD zs g m h=>?_)⟩
 .let(r,B,y,O):=h;let(c,rfl,ec):=of_map e;let d:i<⇑(n.map V.int):=(HG.mp e).1;let a6:i<⇑n:=by rw[bc]at d;exact d
  let M:(Lm (lo<c) && decide (c<=hi))=Ll->dj (λD i zs g=>ar H g/\g D=Lh (.lst zs)/\zs=((n.take i).filter<|λt=>decide (lo<t) && decide (t<=hi)).map V.int/\⇑zs<=i) D i ⇑(n.map V.int) g:=λhf=>by
   calc dj.mk (zs:=zs) d ⟨r,B,?_,∅⟩;rw[take_snoc ec,lz,uQ (~~~hf)];simpa using y
  calc⟨_,U,_,U,_,_,U,U,_,U,?_⟩;refine cD (λg1=>?_)<|λg1=>?_
  .refine⟨_,U,_,_,U,U,_,U,?_⟩;refine cD (λg2=>?_) (λg2=>M (by rw[EH.mpr g2,Bool.and_false]));refine⟨_,U,cA.mk d B (az ∅) ⟨r.upd m,ae,?_,by rw[dy,iU];lia⟩⟩;rw[take_snoc ec,lz,uP (by rw[g1,g2];rfl),y];simp
  .exact⟨_,U,bV<|M (by rw[EH.mpr g1,Bool.false_and])⟩
 .let(s2,B,y,O):=h;rw[bc]at O y;rw[gd]at y;rw[y]at B;generalize R:n.filter (λt=>decide (lo<t) && decide (t<=hi))=ks at B y;let fk:∀c,c∈ks↔(c∈n/\lo<c/\c<=hi):=λc=>by rw[←R,jZ];simp
  let b3:⇑ks<=⇑n:=by rw[←R];exact oM ..
  calc⟨D,ks,U,SqL.of B,∅,λl a5=>?_⟩;let s3:ar H (upd g l<|nj w l ks):=s2.trans<|ai a5 _;calc⟨l,ks,L,U,ae,∅,λk hk=>let ⟨a1,a2,a3⟩:=(fk k).mp hk;kv k a1 a2 a3,λC b a9 pw mem=>?_⟩;let s4:=s3.trans<|ai a9<|.lst<|b.map V.int;let e4:upd (upd g l<|nj w l ks) C (.lst<|b.map V.int) C=Lh (.lst<|b.map V.int):=ae;generalize upd (upd g l<|nj w l ks) C (.lst<|b.map V.int)=H3 at s4 e4⊢;let a7:⇑b<=400:=yW (bf (pw.imp λh=>Int.ne_of_lt h) λk hk=>let ⟨a1,a2,a3⟩:=(fk k).mp<|(mem k).mp hk;kv k a1 a2 a3) hL;refine⟨_,U,(by show 1<=HU;decide),λt1 J=>?_⟩;let e5:=dN (o:=.lst [.int lo]) e4 J;let s5:=s4.trans<|ai J<|.lst [.int lo];refine⟨_,U,t1,C,_,_,U,U,ae,e5,zz<|az (by rw[bc];show 1+⇑b<=1000;lia),λX I=>?_⟩;let e6:=dN (o:=.lst<|[V.int lo]++b.map V.int) e5 I;let s6:=s5.trans<|ai I<|.lst<|[V.int lo]++b.map V.int;let e7:upd (upd H3 t1<|.lst [.int lo]) X (.lst<|[V.int lo]++b.map V.int) X=Lh (.lst<|[V.int lo]++b.map V.int):=ae;generalize upd (upd H3 t1<|.lst [.int lo]) X (.lst<|[V.int lo]++b.map V.int)=H4 at s6 e6 e7⊢
  refine⟨_,U,C,U,⟨_,SqL.of e6⟩,cB (xs:=b.map V.int) (λD i zs z=>ar H4 z/\z D=Lh (.lst zs)/\zs=((b.take i).map (· - 1)).map V.int/\⇑zs<=i)
   (λD m=>⟨ai m _,ae,U,yX _⟩) (λD i zs z m _ h=>SqL.of<|h.1 _ _ e6) (λD i x zs z m e h=>?_) (λD zs z m h=>?_)⟩
  .let(r,v,u,EN):=h;let(c,rfl,ec):=of_map e;let d:i<⇑(b.map V.int):=(HG.mp e).1;let a6:i<⇑b:=by rw[bc]at d;exact d
   refine⟨_,U,_,_,U,U,cA.mk d v (az ∅) ⟨r.upd m,ae,?_,by rw[dy,iU];lia⟩⟩;rw[take_snoc ec,dW,dW,u];rfl
  .let(a0,v,u,EN):=h;rw[bc,gd]at u;rw[u]at v;refine⟨_,U,(by show 1<=HU;decide),λt3 G=>?_⟩;let s7:=a0.trans<|ai G<|.lst [.int hi];refine⟨D,t3,_,_,U,U,dN v G,ae,zz<|az (by rw[bc,bc];show ⇑b+1<=1000;lia),λW a4=>?_⟩;let Z:=s7.trans (ai a4 (.lst ((b.map (· - 1)).map V.int++[.int hi])));let e8:upd (upd z t3<|.lst [.int hi]) W (.lst ((b.map (· - 1)).map V.int++[.int hi])) W=Lh (.lst ((b.map (· - 1)).map V.int++[.int hi])):=ae;generalize upd (upd z t3<|.lst [.int hi]) W (.lst ((b.map (· - 1)).map V.int++[.int hi]))=H6 at Z e8⊢;let e9:=Z _ _ e7;refine⟨_,U,_,U,X,W,(lo :: b).map V.int,(b.map (· - 1)++[hi]).map V.int,U,SqL.of e9,by rw[dW];exact SqL.of e8,λD9 ts H9 S k9 a8 b0 f9=>?_⟩;let s9:ar H H9:=(s6.trans Z).trans λc o e=>k9 c o e
   refine q D9 H9 b (ts.map V.ref) s9 ((s6.trans Z).free a8) b0 (PL.of_get (by rw[S,gs];simp) λj p hj=>?_) pw (λc=>(mem c).trans<|fk c) a7;let(z1,z2):=zip_get hj;let(T,h1,_,h2):=f9 j _ _ z1 z2;calc⟨T,h1,h2⟩
theorem EO(F:Fun K "closed" "closed" Y35 f fd) (bl:Bl K mg Y)  : aK P w K mg base CX0 1 f fd ["triples"] (jf K Y):=by
 refine F.okA Z35 λa7 A a5 s H vs Q E hr h=>?_
 let(L,iL,A,n,a,xs,o,rfl,hn,ha,X,hl,q):=h
 refine⟨_,(aq (aG (i:=1) Z35.nd U (Or.inl U)<|aW af)
  (aq (bp IG.never U (aQ<|pv 0) (fV U<|aM (aE (i:=2) Z35.nd U<|Or.inl U)<|aM (aE (i:=3) Z35.nd U<|Or.inl U)<|aM (aE (i:=4) Z35.nd U<|Or.inl U) cI)
  (aj (aP (PW.pt<|ir (dM (pv 1) (by intro _;rfl)) (fL<|aI (uz hr) (aH aO (aH ba (pv 1) (mL jG ak)<|λ_ _=>U) ak<|λ_ _=>U) (pv 4)<|aJ _))
  (aj<|wY (bq<|aa (aH aO (aH ba (pv 1) (mL jG ak)<|λ_ _=>U) ak<|λ_ _=>U)<|aa (pv 3)<|aa (pv 4) af)<|wX (pv 1) (mL jG ak) set_list)
  (aj<|bg<|fe PySem.F.plainAttrs_list PySem.F.slot_list_append PySem.F.type_list_append bG (pv 1)<|aa (bq<|aa (pv 2)<|aa (pv 3)<|aa (pv 4) af) af))))
  (aj<|ax<|bJ oP U bl.tuple_ PyProof.Rows.boot_tuple<|aa (pv 1) af))),?_⟩
 show(let r2:TS:=_;let r1:TS:=aR _ r2;aR _ r1 _ _ _);intro _ _;refine⟨(by show 0<=HU;decide),λl B=>?_⟩;let s0:ar H (upd H l<|.lst []):=ai B _
 refine⟨_,U,a,U,⟨_,SqL.of<|s0 _ _ ha⟩,bu (xs:=xs) (λi T g=>ar H g/\∃(c:Ly V)(N M J:Option V),g l=Lh (.lst c)/\FmL (FmV A g n) g ((o.take i).foldl de []) c/\⇑c<=i/\T=[↑a,↑l,N,M,J])
  ⟨s0,[],Li,Li,Li,ae,FmL.nil,yX _,U⟩ (λi T g _ h=>SqL.of<|h.1 _ _ ha) (λi y T g e h=>?_) (λT g h=>?_)⟩
 .let(C,c,N,M,J,m,p,R,rfl):=h;let hi:i<⇑xs:=(HG.mp e).1;let(t,et):∃t,o[i]?=Lh t:=⟨_,HF (by rw[←X.1];exact hi)⟩;let(r,u,ex,er,hu):=X.2 i t et;rw[e]at ex;cases ex;let a4:=C _ _ er;let x:=FmV.mono C.tups hu;let Dz:(o.take<|i+1).foldl de []=de ((o.take i).foldl de []) t:=by rw[take_snoc et,List.foldl_append];rfl
  rw[Dz];generalize (o.take i).foldl de []=F at p;let a6:i<900:=by have:=X.1;lia
  refine⟨r,_,U,SqT.of a4,U,_,_,U,_,_,U,_,_,U,U,?_⟩
  let O:de F t=F++[t]->∀b,g b=Li->ar H (upd (upd g b<|.tup [.int t.1,.int t.2.1,u]) l<|.lst<|c++[.ref b])/\∃(v:Ly V)(N M J:Option V),upd (upd g b<|.tup [.int t.1,.int t.2.1,u]) l (.lst<|c++[.ref b]) l=Lh (.lst v) /\
    FmL (FmV A (upd (upd g b<|.tup [.int t.1,.int t.2.1,u]) l<|.lst<|c++[.ref b]) n) (upd (upd g b<|.tup [.int t.1,.int t.2.1,u]) l<|.lst<|c++[.ref b]) (de F t) v/\⇑v<=i+1/\[Lh (V.ref a),Lh<|V.ref l,Lh<|V.int t.1,Lh<|V.int t.2.1,Lh u]=[↑a,↑l,N,M,J]:=λI b j=>by
   let D:upd g b (.tup [.int t.1,.int t.2.1,u]) l=Lh (.lst c):=dN m j;let k:cG g (upd (upd g b<|.tup [.int t.1,.int t.2.1,u]) l<|.lst<|c++[.ref b]):=(pF j).trans<|bK D;refine⟨(C.trans<|ai j _).upd B,c++[.ref b],_,_,_,ae,?_,by rw[dy,iU];lia,U⟩;rw[I];exact(p.mono (λ_ _ q=>FmV.mono k q) k).snoc (bK D _ _ ae) (FmV.mono k x)
  calc⟨_,U,!c.isEmpty,.inl ⟨c,SqL.of m,U⟩,?_⟩;rcases wM F with Z|⟨F',lt,Z⟩
  .subst Z;let a0:c=[]:=sQ p.1;let eE:(!c.isEmpty)=false:=by rw[a0];rfl
   rw[eE];calc bV<|bV ?_;refine⟨_,U,.inl ⟨U,_,SqL.of m⟩,_,U,_,U,_,U,(by show 3<=HU;decide),λb j=>?_⟩;calc⟨l,c,_,U,U,dN m j,az ∅,?_⟩;exact O U b j
  .rw[wN]at Z;subst Z;let(G,W,ul,rfl,hy,S,a2):=p.init;let eE:(!(G++[V.ref W]).isEmpty)=true:=by cases G <;> rfl
   rw[eE];calc fX ?_;calc⟨_,U,_,U,l,_,_,_,U,U,SqL.of m,rh _ _,W,_,_,_,U,U,SqT.of S,U,_,U,λa3=>FmV.eq_to ∅ a2 x ?_ a3⟩;calc⟨_,U,?_⟩;refine cD (λd=>?_)<|λd=>?_
   .let d':lt.2.2=t.2.2:=fM d;let I:de (F'++[lt]) t=F'++[(lt.1,t.2.1,t.2.2)]:=by
     unfold de;rw[List.getLast?_concat];simp only;rw[Lq d',List.dropLast_concat]
    refine⟨_,U,_,U,l,_,_,_,U,U,SqL.of m,rh _ _,W,_,_,_,U,U,SqT.of S,U,_,U,_,U,(by show 3<=HU;decide),λb j=>?_⟩;let D:upd g b (.tup [.int lt.1,.int t.2.1,u]) l=Lh (.lst<|G++[.ref W]):=dN m j;refine⟨_,U,_,U,l,_,_,_,U,U,D,yr (by simp),?_⟩;rw[yt];let k:cG g (upd (upd g b<|.tup [.int lt.1,.int t.2.1,u]) l<|.lst<|G++[.ref b]):=(pF j).trans<|bK D;refine⟨(C.trans<|ai j _).upd B,G++[.ref b],_,_,_,ae,?_,by rw[dy,iU]at R⊢;lia,U⟩;rw[I];exact(hy.mono (λ_ _ q=>FmV.mono k q) k).snoc (t:=(lt.1,t.2.1,t.2.2)) (bK D _ _ ae) (FmV.mono k x)
   .let d':lt.2.2≠t.2.2:=jt d;let I:de (F'++[lt]) t=F'++[lt]++[t]:=by
     unfold de;rw[List.getLast?_concat];simp only;rw[Lp d']
    refine⟨_,U,.inl ⟨U,_,SqL.of m⟩,_,U,_,U,_,U,(by show 3<=HU;decide),λb j=>?_⟩;calc⟨l,_,_,U,U,dN m j,az ∅,?_⟩;exact O I b j
 .let(C,c,N,M,J,m,p,R,rfl):=h;let a1:FmL (FmV A g n) g (gI o) c:=by
   let e:o.take ⇑xs=o:=by rw[X.1];exact gd
   rw[e]at p;exact p
  calc⟨_,U,l,c,U,.inl ⟨SqL.of m,λb j=>?_⟩⟩;let st:=ai j<|.tup c;calc q b _ (C.trans st) ⟨b,c,U,ae,a1.mono (λ_ _ z=>FmV.mono st.tups z) st.tups⟩
theorem ER(F:Fun K "beneath_code" "beneath_code" Y32 f fd) (bl:Bl K mg Y)  : aK P w K mg base CX0 1 f fd ["form","code"] (eR K Y):=by
 refine F.okA Z32 λN A y s H O Q E R h=>?_
 let(a,I,B,c,j,t,rfl,C,M,d,q):=h
 refine⟨_,(aq (aG (i:=2) Z32.nd U (Or.inl U) ak)
  (aq (w6 IG.never (aI hU (aH aO (aH aO (pv 0) (pv 2)<|λ_ _=>U) ak<|λ_ _=>U) (pv 1)<|aJ _)
  (aj<|wZ (i:=2) Z32.nd U (Or.inl U) ak A7))
  (aj<|ax<|aH aO (aH aO (pv 0) (pv 2)<|λ_ _=>U) ak<|λ_ _=>U))),?_⟩
 show(let J:TS:=_;let L:TS:=aR _ J;aR _ L _ _ _);intro _ _;let get:∀i:Nat,i<=j->∃(u:Tri)(r:HR),B[i]?=Lh u/\atI I (i:Int)=↑r/\H r=Lh (.tup [.int u.1,.int u.2.1,u.2.2]):=λi hi=>by
  let S:=(HG.mp d.at_).1;let e:=HF (l:=B) (i:=i) ∅;let(r,a,b):=M.2 i _ e;exact⟨_,r,e,bh a,b⟩
 calc(let v:Nat->St->Hp->Prop:=λm z x=>∃i:Nat,i<=j/\m=j-i/\x=H/\z=[↑a,Lh<|.int c,Lh (.int i)];⟨v,⟨j,0,yX _,U,U,U⟩,?_⟩);rintro m z x ⟨i,hi,rfl,rfl,rfl⟩;let(u,r,k,D,G):=get i hi;calc⟨_,U,_,U,a,_,_,_,U,U,C,D,r,_,_,_,U,U,SqT.of G,U,_,U,_,_,U,U,_,U,?_⟩;refine cD (λg=>?_)<|λg=>?_
 .let T:u.2.1<c:=fM g;let o:i≠j:=λh=>by
   subst h;rw[d.at_]at k;cases k;let:=d.le;lia
  refine(let v:St->Hp->Prop:=λn p=>p=x/\n=[↑a,Lh<|.int c,Lh (.int ((i+1:Nat):Int))];⟨v,?_,?_⟩)
  .rintro n p ⟨rfl,rfl⟩;exact⟨j-(i+1),∅,i+1,∅,U,U,U⟩
  .exact⟨_,U,_,_,U,U,U,U⟩
 .let o:i=j:=by
   by_cases h:i<j
   .exact Lr (d.lt i u h k)<|jt g
   .lia
  subst o;rw[d.at_]at k;cases k;calc⟨_,U,_,U,a,_,_,_,U,U,C,D,r,_,_,_,U,U,SqT.of G,U,q⟩
theorem ES(F:Fun K "gathered" "gathered" Y40 f fd) (bl:Bl K mg Y)  : aK P w K mg base CX0 1 f fd ["lists"] (iK K Y):=by
 refine F.okA Z40 λa1 A B s H vs Q E G h=>?_
 let(a,as,b,L,rfl,J,g,N,hL,T,q):=h
 refine⟨_,(aq (aG (i:=1) Z40.nd U (Or.inl U)<|aW af)
  (aq (bp IG.never U (aQ<|pv 0) (aE (i:=2) Z40.nd U<|Or.inl U)
  (aj<|bg<|fe PySem.F.plainAttrs_list PySem.F.slot_list_extend PySem.F.type_list_extend vM (pv 1)<|aa (pv 2) af))
  (aj<|ax<|au (c9 (w:=w) U U) U bl.sorted_ PyProof.Rows.boot_sorted<|aa (bJ (i7 (w:=w) U U) U bl.set_ PyProof.Rows.boot_set<|aa (pv 1) af) af))),?_⟩
 show(let O:TS:=_;let R:TS:=aR _ O;aR _ R _ _ _);intro _ _;refine⟨(by show 0<=HU;decide),λd m=>?_⟩;let t:ar H (upd H d<|.lst []):=ai m _;let M:upd H d (.lst []) d=Lh (.lst [] ):=ae;generalize upd H d (.lst [])=H0 at t M⊢;let D:∀(A:Ly (Ly Int))(x:Ly Int),(A++[x]).flatten=A.flatten++x:=λA x=>by rw[List.flatten_append];simp
 refine⟨_,U,a,U,⟨_,SqL.of<|t _ _ J⟩,(let I_:Nat->St->Hp->Prop:=λi p k=>ar H k/\k d=Lh (.lst<|(b.take i).flatten.map V.int)/\∃v:Option V,p=[↑a,↑d,v];bu (xs:=as.map V.ref) I_ ⟨t,M,_,U⟩ (λi p k _ h=>SqL.of<|h.1 _ _ J) (λi y p k e h=>?_) (λp k h=>?_))⟩
 .let(j,c,v,rfl):=h;let(r,rfl,I):=iI e;let(xs,u):∃xs,b[i]?=Lh xs:=⟨_,HF (by rw[←g.1];exact(HG.mp I).1)⟩;let(r',o,G):=g.2 i xs u;rw[I]at o;cases o;let a0:(b.take i).flatten.length+⇑xs<=1000:=by
   let X:b.flatten=(b.take<|i+1).flatten++(b.drop<|i+1).flatten:=by rw[←List.flatten_append,lg]
   let W:⇑((b.take<|i+1).flatten)<=⇑b.flatten:=by rw[X,dy];lia
   rw[take_snoc u,D,dy]at W;lia
  refine⟨_,U,.inl ⟨U,_,SqL.of c⟩,_,U,d,r,_,_,U,U,c,j _ _ G,zz<|az (by rw[bc,bc];lia),j.upd m,?_,_,U⟩;rw[ae,take_snoc u,D,dW]
 .let(j,c,v,rfl):=h;rw[bc,g.1,gd]at c;calc⟨_,U,d,b.flatten,U,SqL.of c,∅,λl z=>?_⟩;let C:=ai z<|nj w l b.flatten;calc⟨l,b.flatten,L,U,ae,∅,T,λD2 Z n S mem=>?_⟩;calc q D2 Z _ ((j.trans C).trans<|ai n _) (j.free<|C.free n) ae S mem
theorem ET(F:Fun K "all_among" "all_among" Y31 f fd) (bl:Bl K mg Y)  : aK P w K mg base CX0 1 f fd ["text","signs"] (gM K Y):=by
 refine F.okA Z31 λr A m s H t Q E u h=>?_
 let(z,g,rfl,q):=h
 refine⟨_,(aq (bp IG.never U (Bt<|pv 0) (aE (i:=2) Z31.nd U<|Or.inl U)
  (aj (aP (aI qh (pv 2) (pv 1) (by with_unfolding_all rfl))
  (aj<|ax cE)
  aF)))
  (aj<|ax cE)),?_⟩
 show(let o:TS:=_;aR _ o _ _ _);intro _;refine⟨_,U,z,U,(let p:Nat->St->Hp->Prop:=λi a l=>(∃k:Option V,a=[Lh (.str z),Lh<|.str g,k])/\l=H/\(z.cps.toList.take i).all (sg g)=Lj;zk p ⟨⟨_,U⟩,U,U⟩ (λi c a l e h=>?_) (λa l h=>?_))⟩
 .let((k,rfl),j,b):=h;rw[j];calc⟨_,U,_,U,_,_,U,U,_,U,?_⟩;refine cD (λd=>?_)<|λd=>?_
  .let n:rq z g=false:=BX e<|BY d;rw[n]at q;exact q
  .exact⟨⟨_,U⟩,U,all_succ e (Dg d) b⟩
 .let((k,rfl),j,b):=h;rw[j];rw[yu b]at q;calc q
theorem EU(F:Fun K "is_whole" "is_whole" Y43 f fd) (bl:Bl K mg Y)  : aK P w K mg base CX0 1 f fd ["value"] (fS K Y):=by
 refine F.okA Z43 λb A a s H c Q E d h=>?_
 let(i,rfl,q):=h;calc⟨_,(aj<|ax<|gD (au cZ U bl.isinstance_ PyProof.Rows.boot_isinstance<|aa (pv 0)<|aa (eV (v:=.ty "int") U bl.int_ PyProof.Rows.boot_int U) af)<|jF<|wW<|au cZ U bl.isinstance_ PyProof.Rows.boot_isinstance<|aa (pv 0)<|aa (eV (v:=.ty "bool") U bl.bool_ PyProof.Rows.boot_bool U) af),?_⟩;calc⟨_,U,_,_,_,_,Lj,U,.ty _,.inl<|.int _,(by first|rfl|with_unfolding_all rfl|decide+kernel),_,U,fX ⟨_,U,_,_,_,_,Ll,U,.ty _,.inl<|.int _,(by first|rfl|with_unfolding_all rfl|decide+kernel),_,U,q⟩⟩
theorem EV(F:Fun K "refuse_counts" "refuse_counts" Y74 f fd) (bl:Bl K mg Y)  : aK P w K mg base CX0 1 f fd ["names","rows"] (eB K Y):=by
 refine F.okA Z74 λg A a s H j Q E l h=>?_
 let(p,r,b,i,rfl,e,d,n,m,k,q):=h
 refine⟨_,(aq (aP (bQ<|iw dX dX ak (au aw U bl.len_ Lg<|aa (pv 0) af)<|pJ U bl.MOST_COLUMNS_)
  (aj cz)
  aF)
  (aj (aP (aI pj (au aw U bl.len_ Lg<|aa (pv 1) af) (pJ U bl.MOST_ROWS_)<|aJ _)
  (aj cz)
  aF))),?_⟩
 show(let c:TS:=_;aR _ c _ _ _);intro _;calc⟨_,U,p,_,U,.inl<|e,_,_,U,U,_,U,dZ ∅ ?_⟩;calc⟨_,_,U,U,_,U,?_⟩;rw[Ls (show((⇑b:Nat):Int)<=4 by lia)];calc bV ?_;calc⟨_,U,r,_,U,.inl<|d,_,_,U,U,_,U,bY ∅ q⟩
theorem EW(F:Fun K "own_row" "own_row" Y73 f fd) (bl:Bl K mg Y)  : aK P w K mg base CX0 1 f fd ["cells","code"] (jR K Y):=by
 refine F.okA Z73 λS A y s H T Q E W h=>?_
 let(cl,xs,G,rfl,B,t,X,q):=h;refine⟨_,(aj<|ax<|bq<|aa (cq (aQ<|pv 0) (dD U (~~~0) (~~~0) (~~~0) U) U (λ_ _ _ _=>bC)<|λ_ _ _ _=>(bJ (jx (K:=K) U) U bl.list_ PyProof.Rows.boot_list<|aa (pv 0) af))<|aa (pv 1) af),?_⟩
 refine⟨_,U,cl,U,⟨_,SqL.of B⟩,cB (xs:=xs) (λD i g d=>ar H d/\d D=Lh (.lst g)/\CL (Fr H D) d g (G.1.take i))
  (λD m=>⟨ai m _,ae,aS.nil⟩) (λD i g d m _ h=>SqL.of<|h.1 _ _ B) (λD i x g d m e h=>?_) (λD g d m h=>?_)⟩
 .let(k,u,p):=h;let(l,V,rfl,O,M):=aS.get t e;let(_,n,R,L):=M.same k;let hi:i<⇑xs:=(HG.mp e).1;let v:⇑g<HU:=by
   let N:=p.1;rw[iT]at N;exact az ∅
  calc⟨_,U,l,_,U,.inl<|SqL.of R,λo c=>?_⟩;let s2:=ai c<|.lst n;let C:upd d o (.lst n) o=Lh (.lst n):=ae;let j:=s2 _ _ u;generalize upd d o (.lst n)=H2 at s2 C j⊢;let J:H o=none:=k.free c;let I:o≠D:=λz=>by rw[z,u]at c;cases c
  calc cA.mk hi j v ⟨(k.trans s2).upd m,ae,?_⟩;rw[take_snoc O];exact CL.updN (aS.snoc (p.same s2) ⟨⟨J,I⟩,n,C,L.mono s2.tups⟩) Fr.out j
 .let(k,u,p):=h;rw[t.1,gd]at p;calc⟨_,U,bA,λr b=>q r _ (k.trans<|ai b _) (k.free b) ⟨D,g,ae,m,ai b _ _ _ u,?_⟩⟩;calc(p.same<|ai b _).wk λa h=>h.1
theorem EY(F:Fun K "table_bounds" "table_bounds" Y80 f fd) (bl:Bl K mg Y)  : aK P w K mg base CX0 1 f fd ["table"] (dq K Y):=by
 refine F.okA Z81 λa3 A I s H vs Q E hr h=>?_
 let(t,x,bs,Z,rfl,(rl,dx,W,fs,xs,M,f1,S,p,o,a1,hR),hb,q):=h;calc⟨_,(aj<|ax<|cq (aQ<|cc (pv 0) U) (dD U (~~~0) (~~~0) (~~~0) U) U (λ_ _ _ _=>bC)<|λ_ _ _ _=>(bq<|aa (mE (K:=K) U (pv 0) U)<|aa (mE (K:=K) U (pv 0) U) af)),?_⟩;let G:⇑x=⇑bs:=o.1;refine⟨_,U,t,_,_,_,_,U,M,bl.k_Table,bl.na_Table_domains,S,W,U,⟨_,SqL.of p⟩,(let X:HR->Nat->Ly V->Hp->Prop:=λD i j c=>ar H c/\c D=Lh (.lst j)/\PL c j (bs.take i);cB (xs:=x) X (λD k=>⟨ai k _,ae,.nil⟩) (λD i j c k _ h=>SqL.of<|h.1 _ _ p) (λD i y j c k e h=>?_) (λD j c k h=>?_))⟩
 .let(l,v,m):=h;let(a,b,rfl,T,C,N,a2,a0,J,R,O,_):=aS.get o e;let hi:i<⇑x:=(HG.mp e).1;let u:Cls K C/\NoAttr K C s!"low"/\NoAttr K C s!"high":=by
   rcases N with rfl|rfl
   .exact⟨bl.k_Numbers,bl.na_Numbers_low,bl.na_Numbers_high⟩
   .exact⟨bl.k_Words,bl.na_Words_low,bl.na_Words_high⟩
  calc⟨_,U,a,_,_,_,_,U,l _ _ J,u.1,u.2.1,R,_,U,a,_,_,_,_,U,l _ _ J,u.1,u.2.2,O,bA,λg B=>?_⟩;let r:=ai B<|.tup [.int b.1,.int b.2];let L:upd c g (.tup [.int b.1,.int b.2]) g=Lh (.tup [.int b.1,.int b.2]):=ae;let d:=r _ _ v;let n:=m.mono r.tups;generalize upd c g (.tup [.int b.1,.int b.2])=H4 at r L d n⊢;let z:=⇑m;rw[iT]at z;calc cA.mk hi d (az ∅) ⟨(l.trans r).upd k,ae,?_⟩;rw[take_snoc T];exact(n.mono<|bK d).snoc (bK d _ _ L)
 .let(l,v,m):=h;rw[G,gd]at m;calc q D j c l k v m
theorem EZ(F:Fun K "_law_at" "_law_at" Y48 f fd) (bl:Bl K mg Y)  : aK P w K mg base CX0 1 f fd ["script","k"] (fb K Y):=by
 refine F.okA Z48 λn A g s H o Q E p h=>?_
 let(a,b,k,rfl,i,r,q):=h
 refine⟨_,(aq (aP (aI hU (pv 1) (au aw U bl.len_ Lg<|aa (pv 0) af)<|aJ _)
  (aj<|ax<|aH ba (pv 0) (pv 1)<|λ_ _=>U)
  aF)
  (aj<|ax ak)),?_⟩
 show(let j:TS:=_;aR _ j _ _ _);intro _;calc⟨_,U,_,U,a,_,U,.inl<|i,_,_,U,U,_,U,?_⟩;refine cD (λc=>?_)<|λc=>?_
 .let d:k<((⇑(b.map V.int):Nat):Int):=fM c;rw[bc]at d;let m:k.toNat<⇑b:=∅
  let e:=HF m;rw[iX,e]at q;let l:atI (b.map V.int) k=Lh (.int b[k.toNat]):=by
   let z:atI (b.map V.int) ((k.toNat:Nat):Int)=Lh (.int b[k.toNat]):=bh (by rw[jj,e];rfl);rw[show((k.toNat:Nat):Int)=k by lia]at z;exact z
  exact⟨_,U,_,U,a,_,_,_,U,U,i,l,q⟩
 .let d:¬ k<((⇑(b.map V.int):Nat):Int):=jt c;rw[bc]at d;rw[iX,nY ∅]at q;calc q
theorem E1(F:Fun K "_law_int" "_law_int" Y58 f fd) (bl:Bl K mg Y)  : aK P w K mg base CX0 1 f fd ["found"] (gN K Y):=by
 refine F.okA Z58 λb A a s H c Q E d h=>?_
 let(n,rfl,q):=h;calc⟨_,(aj<|ax<|gD (au cZ U bl.isinstance_ PyProof.Rows.boot_isinstance<|aa (pv 0)<|aa (eV (v:=.ty "int") U bl.int_ PyProof.Rows.boot_int U) af)<|jF<|wW<|au cZ U bl.isinstance_ PyProof.Rows.boot_isinstance<|aa (pv 0)<|aa (eV (v:=.ty "bool") U bl.bool_ PyProof.Rows.boot_bool U) af),?_⟩;calc⟨_,U,_,_,_,_,Lj,U,.ty _,.inl<|.int _,(by first|rfl|with_unfolding_all rfl|decide+kernel),_,U,fX ⟨_,U,_,_,_,_,Ll,U,.ty _,.inl<|.int _,(by first|rfl|with_unfolding_all rfl|decide+kernel),_,U,q⟩⟩
theorem E3(F:Fun K "_law_numbers" "_law_numbers" Y62 f fd) (bl:Bl K mg Y)  : aK P w K mg base CX0 1 f fd ["script","most"] (fA K Y):=by
 refine F.okA Z62 λa1 A G s H vs Q E hr h=>?_
 let(a,o,m,rfl,L,a0,Z,X,q):=h
 refine⟨_,(aC (aG (i:=2) Z62.nd U (Or.inl U)<|aW af)
  (aq (bp IG.never U (lp U bl.range_<|aa ak<|aa (au aw U bl.len_ Lg<|aa (pv 0) af) af) (aE (i:=3) Z62.nd U<|Or.inl U)
  (aq (aG (i:=4) Z62.nd U (Or.inl U)<|aD bR (aH ba (pv 0) (pv 3)<|λ_ _=>U)<|aD iu ak ak)
  (aj (aP (aI hU (au aw U bl.len_ Lg<|aa (pv 2) af) (pv 1)<|aJ _)
  (aj<|bg<|fe PySem.F.plainAttrs_list PySem.F.slot_list_append PySem.F.type_list_append bG (pv 2)<|aa (pv 4) af)
  (aq (aG (i:=5) Z62.nd U (Or.inl U)<|aD bE (aD fW (aH ba (pv 2) (aD bR (pv 3)<|pv 1)<|λ_ _=>U) ak)<|pv 4)
  (aj<|wY (aD bR (pv 5)<|aD iu ak ak)<|wX (pv 2) (aD bR (pv 3)<|pv 1) set_list))))))
  (aj<|ax<|pv 2))),?_⟩
 show(let M:TS:=_;let N:TS:=aR _ M;bX _ N _ _ _);intro _ _;let W:⇑(o.map V.int)=⇑o:=bc _;let d:(0:Int)<(m:Int):=∅
 refine(let y:St->Hp->Prop:=λB e=>ar H e/\∃l:HR,H l=Li/\e l=Lh (.lst [])/\B=[↑a,Lh<|.int (m:Int),↑l,Li,Li,Li];⟨y,⟨(by show 0<=HU;decide),λl k=>⟨ai k _,l,k,ae,U⟩⟩,?_⟩);rintro T H1 ⟨I,l,r,S,rfl⟩;refine⟨_,U,a,_,U,.inl<|I.seq L,_,_,U,⟨∅,∅,∅,∅⟩,(let y:Nat->St->Hp->Prop:=λi p e=>ar H e/\∃(c:Ly Int)(v u t:Option V),e l=Lh (.lst<|c.map V.int)/\⇑c<=m/\p=[↑a,Lh<|.int (m:Int),↑l,v,u,t];dC y ⟨I,[],_,_,_,S,yX _,U⟩ (λi p e hi h=>?_) (λp e h=>?_))⟩
 .let(n,c,v,u,t,b,k,rfl):=h;let D:i+7<⇑o:=∅
  let C:atI (o.map V.int) (7+(i:Int))=Lh (.int o[i+7]):=by
   let:=bh<|get_map<|HF D;rw[show((i+7:Nat):Int)=7+(i:Int) by lia]at this;exact this
  let j:⇑(c.map V.int)=⇑c:=bc _;refine⟨_,U,_,U,a,_,_,_,U,U,n.seq L,C,_,_,U,U,⟨⋯,⋯,⋯⟩,_,_,U,U,p10 _,_,U,l,_,U,.inl<|SqL.of b,_,U,_,_,U,U,_,U,cD (λg=>?_)<|λg=>?_⟩
  .let g:((⇑c:Nat):Int)<(m:Int):=by have:=Lv g;rw[j]at this;exact this
   refine⟨_,U,.inl ⟨U,_,SqL.of b⟩,_,U,l,_,_,U,U,b,az ∅,n.upd r,c++[_],_,_,_,by rw[ae,dW];rfl,by rw[dy];show _+1<=m;lia,U⟩
  .let g:⇑c=m:=by
    let:¬ ((⇑(c.map V.int):Nat):Int)<(m:Int):=λz=>g<|Ls z
    rw[j]at this;lia
   let J:=GN (7+(i:Int))<|Int.ne_of_gt d;let j1:=GO (7+(i:Int)) d;let(x,R):∃x,c[((7+(i:Int))%(m:Int)).toNat]?=Lh x:=⟨_,HF ∅⟩;let O:atI (c.map V.int) ((7+(i:Int))%(m:Int))=Lh (.int x):=by
    let:=bh<|get_map R;rw[Int.toNat_of_nonneg J]at this;exact this
   calc⟨_,U,_,U,_,U,_,_,U,U,d,l,_,_,_,U,U,SqL.of b,O,_,_,U,U,.inr ⟨⋯,⋯⟩,_,U,_,_,U,U,?_⟩;refine⟨_,U,_,_,U,U,⟨⋯,⋯,⋯⟩,_,_,U,U,p10 _,_,U,_,U,_,U,_,_,U,U,d,l,_,_,((7+(i:Int))%(m:Int)).toNat,U,U,b,?_,?_⟩
   .unfold ixN;rw[Lq J,Lq (by rw[j];lia)]
   .exact⟨n.upd r,c.set ((7+(i:Int))%(m:Int)).toNat _,_,_,_,by rw[ae,List.map_set],by rw[List.length_set];exact k,U⟩
 .let(n,c,v,u,t,b,k,rfl):=h;calc⟨_,U,q l c e n r b k⟩
theorem E4(F:Fun K "_law_spans" "_law_spans" Y67 f fd) (bl:Bl K mg Y)  : aK P w K mg base CX0 1 f fd ["kind","one","two","pair"] (gO K Y):=by
 refine F.okA Z67 λa2 A Z s H vs Q E hr h=>?_
 let(kd,one,two,r,p,rfl,T,h1,h2,h3,q):=h
 refine⟨_,(aq (aP (aI cb (pv 0) ak<|aJ _)
  (aj<|ax<|aW<|aa (pv 3) af)
  aF)
  (aq (aP (aI cb (pv 0) ak<|aJ _)
  (aj<|ax<|aW<|aa (bq<|aa (pv 1)<|aa (pv 2) af) af)
  aF)
  (aq (aP (aI cb (pv 0) ak<|aJ _)
  (aj<|ax<|aW<|aa (bq<|aa (pv 1)<|aa (pv 1) af) af)
  aF)
  (aC (aG (i:=4) Z67.nd U (Or.inl U)<|aW<|aa (bq<|aa (aH aO (pv 3) ak<|λ_ _=>U)<|aa (aD dI (pv 1) ak) af)<|aa (bq<|aa (aD bE (pv 2) ak)<|aa (aH aO (pv 3) ak<|λ_ _=>U) af) af)
  (aj<|ax<|cq (aQ<|pv 4) (dD U (~~~0) (~~~0) (~~~0) U) U (λ_ _ _ _=>(gF<|aI dX (aH (dk (K:=K) U) (pv 0) ak<|λ_ _=>U) (aH (dk (K:=K) U) (pv 0) ak<|λ_ _=>U)<|aJ _))<|λ_ _ _ _=>(pv 0)))))),?_⟩
 show(let r4:TS:=_;let r3:TS:=bX _ r4;let r2:TS:=aR _ r3;let r1:TS:=aR _ r2;aR _ r1 _ _ _);intro _ _ _ _;refine⟨_,U,U,_,U,cD (λ_=>?_)<|λ_=>?_⟩
 .refine⟨_,U,(by show 1<=HU;decide),λl c=>q l [p] _ (ai c _) ⟨c,_,ae,.cons ⟨r,U,ai c _ _ _ T⟩ .nil⟩ (λj _ _ x k=>?_) (by show 1<=2;decide)⟩;rw[gZ.mp k];exact⟨Int.le_refl _,∅,Int.le_refl _,.inl U,.inl U⟩
 refine⟨_,U,U,_,U,cD (λ_=>?_)<|λ_=>?_⟩
 .refine⟨_,U,_,U,bA,λt v=>⟨(by show 1<=HU;decide),λl c=>?_⟩⟩;let(n,m,M):=pl1 v c;refine q l [(one,two)] _ n ⟨(ai v _).free c,_,m,M⟩ (λj C S x k=>?_) (by show 1<=2;decide);rw[gZ.mp k];exact⟨h1,h2,h3,.inr<|.inl C,.inr<|.inl S⟩
 refine⟨_,U,U,_,U,cD (λ_=>?_)<|λ_=>?_⟩
 .refine⟨_,U,_,U,bA,λt v=>⟨(by show 1<=HU;decide),λl c=>?_⟩⟩;let(n,m,M):=pl1 v c;refine q l [(one,one)] _ n ⟨(ai v _).free c,_,m,M⟩ (λj C S x k=>?_) (by show 1<=2;decide);rw[gZ.mp k];exact⟨h1,Int.le_refl _,by show one<=p.2;lia,.inr<|.inl C,.inr<|.inl C⟩
 refine(let W:St->Hp->Prop:=λX b=>ar H b/\∃(j:HR)(I:Ly V),b j=Lh (.lst I)/\PL b I [(p.1,one-1),(two+1,p.2)]/\X=[Lh (.int kd),Lh<|.int one,Lh<|.int two,↑r,↑j];⟨W,?_,?_⟩)
 .refine⟨_,U,r,_,_,_,U,U,SqT.of T,U,_,U,_,_,U,U,bA,λt v=>⟨_,U,_,_,U,U,_,U,r,_,_,_,U,U,SqT.of<|ai v _ _ _ T,U,bA,λu hu=>⟨(by show 2<=HU;decide),λl c=>?_⟩⟩⟩;let(n,m,M):=pl2 v hu c;exact⟨n,l,_,m,M,U⟩
 rintro a0 H7 ⟨s7,j,I,R,hP,rfl⟩;let O:=⇑hP;refine⟨_,U,j,U,⟨_,SqL.of R⟩,(let W:HR->Nat->Ly V->Hp->Prop:=λD i zs b=>ar H7 b/\b D=Lh (.lst zs)/\∃a:Prs,PL b zs a/\⇑a<=i/\∀x∈a,x.1<=x.2/\x∈[(p.1,one-1),(two+1,p.2)];cB (xs:=I) W (λD G=>⟨ai G _,ae,[],.nil,yX _,(λx k=>by cases k)⟩) (λD i zs b G _ h=>SqL.of<|h.1 _ _ R) (λD i y zs b G e h=>?_) (λD zs b G h=>?_))⟩
 .let(J,N,a,d,z,o):=h;let(x,t,ex,rfl,et):=hP.get e;let hi:i<I.length:=(HG.mp e).1;let a1:i<2:=by rw[O]at hi;exact hi
  let B:=J _ _ et;calc⟨_,U,t,_,_,_,U,U,SqT.of B,U,_,U,t,_,_,_,U,U,SqT.of B,U,_,_,U,U,_,U,?_⟩;refine cD (λg=>?_)<|λg=>?_
  .let g':x.1<=x.2:=fM g;let st:cG b (upd b D<|.lst<|zs++[.ref t]):=bK N;refine⟨_,U,cA.mk hi N (az (by have:=⇑d;lia)) ⟨J.upd G,ae,a++[x],(d.mono st).snoc<|st _ _ B,by rw[dy,iU];lia,λy L=>?_⟩⟩;rcases hZ.mp L with L|L
   .exact o y L
   .rw[show y=x by simpa using L];exact⟨g',HH ex⟩
  .exact dj.mk (zs:=zs) hi ⟨J,N,a,d,∅,o⟩
 .let(J,N,a,d,z,o):=h;rw[O]at z;calc q D a b (s7.trans J) ⟨s7.free G,zs,N,d⟩ (λj C S x k=>?_) z;let(n,m):=o x k;rcases bW.mp m with rfl|m
  .exact⟨Int.le_refl _,n,by show one-1<=p.2;lia,.inl U,.inr<|.inr (by show one-1+1∈j;rw[show one-1+1=one by lia];exact C)⟩
  .rw[gZ.mp m]at n⊢;calc⟨by show p.1<=two+1;lia,n,Int.le_refl _,.inr<|.inr (by show two+1-1∈j;rw[show two+1-1=two by lia];exact S),.inl U⟩
theorem E5(F:Fun K "_law_held" "_law_held" Y57 f fd) (bl:Bl K mg Y)  : aK P w K mg base CX0 1 f fd ["spans","code"] (iN K Y):=by
 refine F.okA Z57 λG A u s H I Q E J h=>?_
 let(a,xs,l,n,rfl,v,y,q):=h
 refine⟨_,(aq (bp IG.never U (aQ<|pv 0) (aE (i:=2) Z57.nd U<|Or.inl U)
  (aj (aP (PW.pt<|ir (aI dX (aH aO (pv 2) ak<|λ_ _=>U) (pv 1)<|aJ _)<|fL<|aI dX (pv 1) (aH aO (pv 2) ak<|λ_ _=>U)<|aJ _)
  (aj<|ax cE)
  aF)))
  (aj<|ax cE)),?_⟩
 show(let C:TS:=_;aR _ C _ _ _);intro _;refine⟨_,U,a,U,⟨_,v⟩,(let D:Nat->St->Hp->Prop:=λi j k=>(∃t,j=[↑a,Lh<|.int n,t])/\k=H/\(l.take i).any (inR n)=Ll;bu (xs:=xs) D ⟨⟨_,U⟩,U,U⟩ (λi j k _ h=>by let(_,e,_):=h;rw[e];exact v) (λi x j k e h=>?_) (λj k h=>?_))⟩
 .let((t,rfl),o,b):=h;rw[o];let(p,r,m,rfl,g):=y.get e;calc⟨_,U,r,_,_,_,U,U,SqT.of g,U,_,U,_,_,U,U,_,U,?_⟩;refine cD (λc=>?_)<|λc=>?_
  .refine⟨_,U,_,U,r,_,_,_,U,U,SqT.of g,U,_,_,U,U,_,U,?_⟩;refine cD (λd=>?_)<|λd=>?_
   .let B:inP l n=true:=mR m<|Df c d;rw[B]at q;exact q
   .exact⟨⟨_,U⟩,U,eH m b<|AR d⟩
  .exact bV ⟨⟨_,U⟩,U,eH m b<|AQ c⟩
 .let((t,rfl),o,b):=h;rw[o];let z:inP l n=false:=by
   rw[⇑y,gd]at b;exact b
  rw[z]at q;calc q
theorem E6(F:Fun K "_law_due" "_law_due" Y53 f fd) (bl:Bl K mg Y)  : aK P w K mg base CX0 1 f fd ["way","outs","low","high"] (jS K Y):=by
 refine F.okA Z53 λN A B s H R Q E T h=>?_
 let(c,O,i,d,p,rfl,a,j,M,q):=h
 refine⟨_,(aq (aP (aI cb (au aw U bl.len_ Lg<|aa (pv 1) af) ak<|aJ _)
  (aj<|ax<|bq<|aa aN<|aa ak af)
  aF)
  (aq (aP (aI cb (pv 0) aN<|aJ _)
  (aj<|ax<|bq<|aa aN<|aa (aH ba (pv 1) ak<|λ_ _=>U) af)
  aF)
  (aq (aP (aI cb (pv 0) aN<|aJ _)
  (aj<|ax<|bq<|aa aN<|aa (au (f7 U) U bl.min_ PyProof.Rows.boot_min<|aa (pv 1) af) af)
  aF)
  (aq (aP (aI cb (pv 0) aN<|aJ _)
  (aj<|ax<|bq<|aa aN<|aa (au (gb U) U bl.max_ PyProof.Rows.boot_max<|aa (pv 1) af) af)
  aF)
  (aq (aP (aI cb (pv 0) aN<|aJ _)
  (aj<|ax<|bq<|aa aN<|aa (au (lu U) U bl.max_ PyProof.Rows.boot_max<|aa (pv 2)<|aa (au (ly U) U bl.min_ PyProof.Rows.boot_min<|aa (pv 3)<|aa (au (eI U) U bl.sum_ PyProof.Rows.boot_sum<|aa (pv 1) af) af) af) af)
  aF)
  (aq (aP (PW.pt<|jr (PW.pt<|ir (aI cb (pv 0) aN<|aJ _)<|fL<|aI pj (au aw U bl.len_ Lg<|aa (pv 1) af) ak<|aJ _)<|iq<|PW.pt<|ir (aI cb (pv 0) aN<|aJ _)<|fL<|aI l7 (au (f7 U) U bl.min_ PyProof.Rows.boot_min<|aa (pv 1) af) (au (gb U) U bl.max_ PyProof.Rows.boot_max<|aa (pv 1) af)<|aJ _)
  (aj<|ax<|bq<|aa aN<|aa ak af)
  aF)
  (aj<|ax<|bq<|aa aN<|aa (aH ba (pv 1) ak<|λ_ _=>U) af))))))),?_⟩
 show(let C:TS:=_;let D:TS:=aR _ C;let G:TS:=aR _ D;let I:TS:=aR _ G;let J:TS:=aR _ I;let L:TS:=aR _ J;aR _ L _ _ _);intro _ _ _ _ _ _;calc⟨_,U,c,_,U,.inl<|j,U,_,U,?_⟩;cases d with
 |nil=>exact dZ U ⟨bA,λt b=>q t _ (ai b _) ae⟩
 |cons n d =>
 refine bY (by simp;lia) ?_;let v:⇑((n :: d).map V.int)=⇑d+1:=by simp
 let l:∀(m:Int)(e:wf i p.1 p.2 (n :: d)=say m)(t:HR),H t=Li->Q (.ref t) (upd H t<|.tup [.str s!"say",.int m]):=λm e t b=>by
  calc q t _ (ai b _) ?_;rw[ae];show _=Lh (HO.tup<|tp<|wf i p.1 p.2 (n :: d));rw[e];rfl
 match i,a with
 |0,a =>
  cases a;exact⟨_,U,U,_,U,dZ U ⟨_,U,c,_,_,_,U,U,j,at0 n d,bA,λt b=>l n U t b⟩⟩
 |1,a =>
  cases a;calc⟨_,U,U,_,U,bY (~~~0) ⟨_,U,U,_,U,bY (~~~0) ⟨_,U,U,_,U,bY (~~~0) ⟨_,U,U,_,U,bY (~~~0) ?_⟩⟩⟩⟩;calc⟨_,U,U,_,U,dZ U ⟨_,U,c,_,U,.inl<|j,_,_,U,U,_,U,?_⟩⟩;refine cD (λg=>?_)<|λg=>?_
  .refine fX ⟨bA,λt b=>q t _ (ai b _) ?_⟩;rw[ae];show _=Lh (HO.tup<|tp<|kJ (n :: d));unfold kJ;rw[Lp (by have:=fM g;rw[ik];rw[v]at this;lia)];rfl
  .refine⟨_,U,U,_,U,bY (~~~0)<|bV ⟨_,U,c,_,_,_,U,U,j,at0 n d,bA,λt b=>l n ?_ t b⟩⟩;show kJ (n :: d)=say n;unfold kJ;rw[Lq (by have:=jt g;rw[ik];rw[v]at this;lia)];rfl
 |2,a =>
  cases a;calc⟨_,U,U,_,U,bY (~~~0) ⟨_,U,U,_,U,bY (~~~0) ⟨_,U,U,_,U,bY (~~~0) ⟨_,U,U,_,U,bY (~~~0) ?_⟩⟩⟩⟩;calc⟨_,U,U,_,U,bY (~~~0)<|bV ⟨_,U,U,_,U,dZ U ⟨_,U,c,_,U,j,BM _,λm u r=>⟨_,U,c,_,U,j,BM _,λS y x=>⟨U,_,U,?_⟩⟩⟩⟩⟩;rw[nM u r,nN y x];by_cases o:least (n :: d)=great (n :: d)
  .refine u6 (by rw[o]) ⟨_,U,c,_,_,_,U,U,j,at0 n d,bA,λt b=>l n ?_ t b⟩;show kI (n :: d)=say n;unfold kI;rw[Lq o,pZ (lP.mpr o)]
  .refine Ds (λz=>o (by injection z)) ⟨bA,λt b=>q t _ (ai b _) ?_⟩;rw[ae];show _=Lh (HO.tup<|tp<|kI (n :: d));unfold kI;rw[Lp o];rfl
 |3,a =>
  cases a;refine⟨_,U,U,_,U,bY (~~~0) ⟨_,U,U,_,U,dZ U ⟨_,U,c,_,U,j,BM _,λm u r=>⟨bA,λt b=>l m (by rw[nM u r];rfl) t b⟩⟩⟩⟩
 |4,a =>
  cases a;refine⟨_,U,U,_,U,bY (~~~0) ⟨_,U,U,_,U,bY (~~~0) ⟨_,U,U,_,U,dZ U ⟨_,U,c,_,U,j,BM _,λm u r=>⟨bA,λt b=>l m (by rw[nN u r];rfl) t b⟩⟩⟩⟩⟩
 |5,a =>
  cases a;calc⟨_,U,U,_,U,bY (~~~0) ⟨_,U,U,_,U,bY (~~~0) ⟨_,U,U,_,U,bY (~~~0) ⟨_,U,U,_,U,dZ U ⟨_,U,_,U,_,U,c,_,U,j,_,_,U,_,_,U,bA,λt b=>l _ ?_ t b⟩⟩⟩⟩⟩;show say (near p.1 p.2 (n :: d).sum)=say _
  congr 1
  unfold near;generalize (n :: d).sum=t;split <;> split <;> split <;> first|rfl|lia|(split <;> lia)
 |k+6,a=>calc Lr (Cb a) ∅
theorem E7(F:Fun K "_law_lows" "_law_lows" Y60 f fd) (bl:Bl K mg Y)  : aK P w K mg base CX0 1 f fd ["bounds","marks"] (iO K Y):=by
 refine F.okA Z60 λd4 A d1 s H vs Q E hr h=>?_
 let(T,ma,W,ps,as,a1,rfl,hb,hP,hm,hM,e2,h3,c7,q):=h
 refine⟨_,(aq (aG (i:=2) Z60.nd U (Or.inl U)<|aW af)
  (aq (bp IG.never U (bB U bl.range_<|aa (au aw U bl.len_ Lg<|aa (pv 0) af) af) (aE (i:=3) Z60.nd U<|Or.inr U)
  (aC (eX (i:=4) Z60.nd U (Or.inl U) (aQ<|aH ba (pv 1) (pv 3)<|λ_ _=>U) (aV (N:=["mark","bounds","k"]) (fr:=[0,3]) (cl:=[("k",↥s+1+1),("bounds",↥s+1)]) U U (~~~0) (~~~0) U (~~~0) U U U (fu.mpr ⟨U,fu.mpr ⟨U,ja _⟩⟩) U) U (λ_ _ _ _=>(gF<|PW.pt<|ir (aI hU (aH (dk (K:=K) U) (aH (cP (K:=K) U) (pv 1) (pv 2)<|λ_ _=>U) ak<|λ_ _=>U) (pv 0)<|aJ _)<|fL<|aI dX (pv 0) (aH (dk (K:=K) U) (aH (cP (K:=K) U) (pv 1) (pv 2)<|λ_ _=>U) ak<|λ_ _=>U)<|aJ _))<|λ_ _ _ _=>(pv 0))
  (aj<|bg<|fe PySem.F.plainAttrs_list PySem.F.slot_list_append PySem.F.type_list_append bG (pv 2)<|aa (aD lE (aW<|aa (aH aO (aH ba (pv 0) (pv 3)<|λ_ _=>U) ak<|λ_ _=>U) af)<|au (c9 (w:=w) U U) U bl.sorted_ PyProof.Rows.boot_sorted<|aa (bJ (i7 (w:=w) U U) U bl.set_ PyProof.Rows.boot_set<|aa (pv 4) af) af) af)))
  (aj<|ax<|pv 2))),?_⟩
 show(let r2:TS:=_;let r1:TS:=aR _ r2;aR _ r1 _ _ _);intro _ _;let b5:=⇑hP;refine⟨(by show 0<=HU;decide),λl hl=>?_⟩;let s0:ar H (upd H l<|.lst []):=ai hl _
 refine⟨_,U,T,_,U,.inl<|SqL.of<|s0 _ _ hb,_,U,(by show -(2^62)<=((W.length:Nat):Int);lia),(by show((W.length:Nat):Int)<2^62;lia),(let I_:Nat->St->Hp->Prop:=λi σ B=>ar H B/\∃(u:Ly HR)(a:Ly (Ly Int))(c3 c4:Option V),B l=Lh (.lst<|u.map V.ref)/\(∀r∈u,r≠l)/\MLs B u (List.zipWith (λp d=>p.1 :: d) (ps.take i) a)/\⇑a=i/\PrO ps a1 a/\σ=[↑T,↑ma,↑l,c3,c4];dC I_)
  ⟨s0,[],[],Li,Li,ae,(λr hr=>by cases hr),⟨U,λj b e=>by simp at e⟩,U,(λj p b d _ _ e=>by simp at e),U⟩ (λi σ B hi h=>?_) (λσ B h=>?_)⟩
 .let(o,u,a,c3,c4,el,a2,S,g,M,rfl):=h;let c5:i<W.length:=∅
  let(y,ey):∃y,W[i]?=Lh y:=⟨_,HF c5⟩;let(p,t,ep,rfl,ht):=hP.get ey;let(b,em):∃b,a1[i]?=Lh b:=⟨_,HF ∅⟩;let(r,er,a3):=hM.2 i b em;let b9:=c7 b<|HH em;let Hl:⇑u=i:=by rw[S.1,jE,iT];lia
  refine(let I_:St->Hp->Prop:=λb1 L=>ar B L/\∃oa:HR,L oa=Lh (.lst<|(b.filter λm=>decide (p.1<m) && decide (m<=p.2)).map V.int)/\b1=[↑T,↑ma,↑l,Lh<|.int<|0+(i:Int),↑oa];⟨I_,?_,?_⟩)
  .refine⟨_,U,_,U,ma,_,_,_,U,U,SqL.of<|o _ _ hm,lO<|vz er,r,U,⟨_,SqL.of<|o _ _ a3⟩,(let I_:HR->Nat->Ly V->Hp->Prop:=λD j zs v=>ar B v/\v D=Lh (.lst zs)/\zs=((b.take j).filter λm=>decide (p.1<m) && decide (m<=p.2)).map V.int/\⇑zs<=j;cB (xs:=b.map V.int) I_)
    (λD hD=>⟨ai hD _,ae,U,yX _⟩) (λD j zs v hD _ h=>SqL.of<|h.1 _ _<|o _ _ a3) (λD j x zs v hD e h=>?_) (λD zs v hD h=>?_)⟩
   .let(s2,eD,Z,c0):=h;let(x,rfl,ex):=of_map e;let R:j<⇑(b.map V.int):=(HG.mp e).1;let a6:j<⇑b:=by rw[bc]at R;exact R
    let a4:(Lm (p.1<x) && decide (x<=p.2))=Ll->dj (λD j zs v=>ar B v/\v D=Lh (.lst zs)/\zs=((b.take j).filter λm=>decide (p.1<m) && decide (m<=p.2)).map V.int/\⇑zs<=j) D j ⇑(b.map V.int) v:=λhf=>by
     calc dj.mk (zs:=zs) R ⟨s2,eD,?_,∅⟩;rw[take_snoc ex,lz,uQ (~~~hf)];simpa using Z
    let b0:=s2 _ _<|o _ _ hb;let a7:=s2 _ _<|o _ _ ht;calc⟨_,U,_,U,T,_,_,_,U,U,SqL.of b0,lO ey,t,_,_,_,U,U,SqT.of a7,U,_,U,_,_,U,U,_,U,?_⟩;refine cD (λg1=>?_)<|λg1=>?_
    .refine⟨_,U,_,U,_,U,T,_,_,_,U,U,SqL.of b0,lO ey,t,_,_,_,U,U,SqT.of a7,U,_,_,U,U,_,U,?_⟩;refine cD (λg2=>?_) (λg2=>a4 (by rw[EH.mpr g2,Bool.and_false]));refine⟨_,U,cA.mk R eD (az ∅) ⟨s2.upd hD,ae,?_,by rw[dy,iU];lia⟩⟩;rw[take_snoc ex,lz,uP (by rw[g1,g2];rfl),Z];simp
    .exact bV<|a4 (by rw[EH.mpr g1,Bool.false_and])
   .let(s2,eD,Z,c0):=h;rw[bc,gd]at Z;rw[Z]at eD;exact⟨s2,D,eD,U⟩
  rintro d2 L ⟨s3,oa,a9,rfl⟩;let a0:=o.trans s3;generalize a5:b.filter (λm=>decide (p.1<m) && decide (m<=p.2))=ks at a9;let fk:∀c,c∈ks↔(c∈b/\p.1<c/\c<=p.2):=λc=>by rw[←a5,jZ];simp
  let c2:⇑ks<=57:=by rw[←a5];exact yW (oM ..) b9
  refine⟨_,U,.inl ⟨U,_,SqL.of<|s3 _ _ el⟩,_,U,_,U,T,_,_,_,U,U,SqL.of<|a0 _ _ hb,lO ey,t,_,_,_,U,U,SqT.of<|a0 _ _ ht,U,(by show 1<=HU;decide),λX b6=>?_⟩;let s4:ar L (upd L X<|.lst [.int p.1]):=ai b6 _;let a8:upd L X (.lst [.int p.1]) X=Lh (.lst [.int p.1]):=ae;generalize upd L X (.lst [.int p.1])=H4 at s4 a8⊢;calc⟨_,U,oa,ks,U,SqL.of<|s4 _ _ a9,∅,λJ c1=>?_⟩;let s5:ar H4 (upd H4 J<|nj w J ks):=ai c1 _;calc⟨J,ks,ks,U,ae,∅,λk hk=>hk,λD2 d c6 pw mem=>?_⟩;let s6:=s5.trans<|ai c6<|.lst<|d.map V.int;let e6:upd (upd H4 J<|nj w J ks) D2 (.lst<|d.map V.int) D2=Lh (.lst<|d.map V.int):=ae;generalize upd (upd H4 J<|nj w J ks) D2 (.lst<|d.map V.int)=H5 at s6 e6⊢;let d3:⇑d<=57:=yW (bf (pw.imp λh=>Int.ne_of_lt h) λk hk=>(mem k).mp hk) c2;refine⟨X,D2,_,_,U,U,s6 _ _ a8,e6,zz<|az (by rw[bc];show 1+⇑d<=1000;lia),λO C=>?_⟩;let s7:=ai C<|.lst<|[V.int p.1]++d.map V.int;let e7:upd H5 O (.lst<|[V.int p.1]++d.map V.int) O=Lh (.lst<|(p.1 :: d).map V.int):=ae;generalize upd H5 O (.lst<|[V.int p.1]++d.map V.int)=H6 at s7 e7⊢;let sA:=s3.trans<|s4.trans<|s6.trans s7;let c8:=sA _ _ el;let b3:O≠l:=λz=>by rw[z]at C;rw[(s3.trans<|s4.trans s6) _ _ el]at C;cases C
  refine⟨l,_,_,U,U,c8,az (by rw[bc];lia),?_⟩;let(m1,m2):=qL (zs:=u.map V.ref++[.ref O]) S a2 sA e7 b3;refine⟨(o.trans sA).upd hl,u++[O],a++[d],_,_,by rw[dW];exact ae,m2,?_,by rw[dy,g];rfl,λj p' b4 d0 G I n=>?_,U⟩
  .rw[take_snoc ep,List.zipWith_append (by rw[iT];lia)];exact m1
  .by_cases R:j<⇑a
   .rw[ji R]at n;exact M j p' b4 d0 G I n
   .let a6:j=⇑a:=by
     have:=(HG.mp n).1;simp at this;lia
    subst a6;simp at n;subst n;rw[g]at G I;rw[ep]at G;cases G;rw[em]at I;cases I;exact⟨pw,λc=>(mem c).trans<|fk c,∅⟩
 .let(o,u,a,c3,c4,el,a2,S,g,M,rfl):=h;let e:((W.length:Nat):Int).toNat=⇑ps:=by rw[b5];rfl
  rw[e]at g S;rw[gd]at S;calc⟨_,U,q l u a B o el S g M⟩
theorem E8(F:Fun K "_law_corners" "_law_corners" Y51 f fd) (bl:Bl K mg Y)  : aK P w K mg base CX0 1 f fd ["lows"] (fB K Y):=by
 refine F.okA Z51 λc6 A b4 s H vs Q E hr h=>?_
 let(la,as,I,rfl,T,J,b0,b9,c1,q):=h
 refine⟨_,(aq (aG (i:=1) Z51.nd U (Or.inl U)<|aW<|aa (aW af) af)
  (aq (bp IG.never U (aQ<|pv 0) (aE (i:=2) Z51.nd U<|Or.inl U)
  (aq (aG (i:=3) Z51.nd U (Or.inl U)<|aW af)
  (aq (bp IG.never U (aQ<|pv 1) (aE (i:=4) Z51.nd U<|Or.inl U)
  (aj (bp IG.never U (aQ<|pv 2) (aE (i:=5) Z51.nd U<|Or.inl U)
  (aj<|bg<|fe PySem.F.plainAttrs_list PySem.F.slot_list_append PySem.F.type_list_append bG (pv 3)<|aa (aD lE (pv 4)<|aW<|aa (pv 5) af) af))))
  (aj<|aG (i:=1) Z51.nd U (Or.inl U)<|pv 3))))
  (aj<|ax<|pv 1))),?_⟩
 show(let r2:TS:=_;let r1:TS:=aR _ r2;aR _ r1 _ _ _);intro _ _;refine⟨(by show 0<=HU;decide),λo a8=>?_⟩;let s0:ar H (upd H o<|.lst []):=ai a8 _;let a2:upd H o (.lst []) o=Lh (.lst<|([]:Ly Int).map V.int):=ae;generalize upd H o (.lst [])=H0 at s0 a2⊢;refine⟨(by show 1<=HU;decide),λO b1=>?_⟩;let s1:ar H0 (upd H0 O<|.lst [.ref o]):=ai b1 _;let a5:upd H0 O (.lst [.ref o]) O=Lh (.lst<|[o].map V.ref):=ae;generalize upd H0 O (.lst [.ref o])=H1 at s1 a5⊢;let R:=s0.trans s1
 refine⟨_,U,la,U,⟨_,SqL.of<|R _ _ T⟩,bu (xs:=as.map V.ref) (λi b l=>ar H l/\∃(c:HR)(B:Ly HR)(c2 c3 u g:Option V),l c=Lh (.lst<|B.map V.ref)/\MLs l B (cM<|I.take i)/\b=[↑la,↑c,c2,c3,u,g])
  ⟨R,O,[o],Li,Li,Li,Li,a5,⟨U,λj ms e=>?_⟩,U⟩ (λi b l _ h=>SqL.of<|h.1 _ _ T) (λi y b l e h=>?_) (λb l h=>?_)⟩
 .match j,e with
  |0,e=>cases e;exact⟨o,U,s1 _ _ a2⟩
  |j+1,e=>simp[cM]at e
 .let(N,c,B,c2,c3,u,g,ec,t,rfl):=h;let(ra,rfl,a4):=iI e;let hi:i<⇑as:=by have:=(HG.mp a4).1;exact this
  let E9:=J.1;let(own,eo):∃own,I[i]?=Lh own:=⟨_,HF (by rw[←J.1];exact hi)⟩;let(b6,DA,S):=J.2 i own eo;rw[a4]at DA;cases DA;let hA:⇑(cM<|I.take i)*⇑own<=900:=by
   let:=jB b0 (i:=i+1) I.length (by have:=J.1;lia);rw[gd,take_snoc eo,fw,eL]at this;lia
  generalize Z:cM (I.take i)=A at t hA;refine⟨(by show 0<=HU;decide),λd W=>?_⟩;let s2:ar l (upd l d<|.lst []):=ai W _;let a6:upd l d (.lst []) d=Lh (.lst<|([]:Ly HR).map V.ref):=ae;generalize upd l d (.lst [])=H2 at s2 a6⊢
  refine⟨_,U,c,U,⟨_,SqL.of<|s2 _ _ ec⟩,bu (xs:=B.map V.ref) (λj b L=>ar l L/\∃(fs:Ly HR)(u g:Option V),L d=Lh (.lst<|fs.map V.ref)/\(∀r∈fs,r≠d)/\MLs L fs ((A.take j).flatMap λa=>own.map λx=>a++[x])/\b=[↑la,↑c,↑ra,↑d,u,g])
   ⟨s2,[],u,g,a6,(λr hr=>by cases hr),⟨U,λj ms e=>by simp at e⟩,U⟩ (λj b L _ h=>SqL.of<|h.1 _ _ ec) (λj y b L e3 h=>?_) (λb L h=>?_)⟩
  .let(s3,fs,u,g,ef,X,hF,rfl):=h;let(rc,rfl,a3):=iI e3;let hj:j<B.length:=(HG.mp a3).1;let(a,G):∃a,A[j]?=Lh a:=⟨_,HF (by rw[←t.1];exact hj)⟩;let(b5,DB,a9):=t.2 j a G;rw[a3]at DB;cases DB;let Fb:=s3 _ _<|N _ _ S;let DC:⇑a=i:=by
    let:a∈cM (I.take i):=by rw[Z];exact HH G
    exact((iJ i (by have:=J.1;lia) a).mp this).1
   refine⟨_,U,ra,U,⟨_,SqL.of Fb⟩,bu (xs:=own.map V.int) (λk b p=>ar l p/\∃(fs:Ly HR)(g:Option V),p d=Lh (.lst<|fs.map V.ref)/\(∀r∈fs,r≠d)/\MLs p fs (((A.take j).flatMap λa=>own.map λx=>a++[x])++(own.take k).map λx=>a++[x])/\b=[↑la,↑c,↑ra,↑d,↑rc,g])
    ⟨s3,fs,g,ef,X,~~~hF,U⟩ (λk b p _ h=>SqL.of<|h.1 _ _<|N _ _ S) (λk y b p e4 h=>?_) (λb p h=>?_)⟩
   .let(s4,fs,g,n,Cd,m,rfl):=h;let(x,rfl,ex):=of_map e4;let hk:k<⇑own:=(HG.mp ex).1;let b3:j<A.length:=by rw[←t.1];exact hj
    let c0:⇑fs+1<=900:=by
     have h1:=m.1;rw[dy,eL,bc,iT,iT]at h1;let h2:(j+1)*⇑own<=A.length*⇑own:=Nat.mul_le_mul_right _ b3;rw[Dl]at h2;rw[CO ∅,CO ∅]at h1;lia
    refine⟨_,U,.inl ⟨U,_,SqL.of n⟩,_,U,_,U,(by show 1<=HU;decide),λM a7=>?_⟩;let u1:ar p (upd p M<|.lst [.int x]):=ai a7 _;let a1:upd p M (.lst [.int x]) M=Lh (.lst [.int x]):=ae;generalize upd p M (.lst [.int x])=H5 at u1 a1⊢;refine⟨rc,M,_,_,U,U,u1 _ _<|s4 _ _ a9,a1,zz<|az (by rw[bc];show ⇑a+1<=1000;lia),λv D=>?_⟩;let u2:ar H5 (upd H5 v<|.lst<|a.map V.int++[.int x]):=ai D _;let a0:upd H5 v (.lst<|a.map V.int++[.int x]) v=Lh (.lst<|(a++[x]).map V.int):=by rw[dW];exact ae
    generalize upd H5 v (.lst<|a.map V.int++[.int x])=H6 at u2 a0⊢;let C:=u1.trans u2;let nt:v≠d:=λz=>by rw[z,u1 _ _ n]at D;cases D
    refine⟨d,_,_,U,U,C _ _ n,az (by rw[bc];lia),?_⟩;let(m1,m2):=qL (zs:=fs.map V.ref++[.ref v]) m Cd C a0 nt;refine⟨(s4.trans C).upd W,fs++[v],_,by rw[dW];exact ae,m2,?_,U⟩;rw[take_snoc ex,dW,←jD];exact m1
   .let(s4,fs,g,n,Cd,m,rfl):=h;rw[bc,gd]at m;calc⟨s4,fs,_,_,n,Cd,?_,U⟩;rw[take_snoc G,List.flatMap_append,List.flatMap_singleton];exact m
  .let(s3,fs,u,g,ef,X,hF,rfl):=h;rw[bc,t.1,gd]at hF;calc⟨_,U,N.trans s3,d,fs,_,_,_,_,ef,?_,U⟩;rw[take_snoc eo,fw,Z];exact hF
 .let(N,c,B,c2,c3,u,g,ec,t,rfl):=h;rw[bc,J.1,gd]at t;calc⟨_,U,q c B l N ec t⟩
theorem Fc(F:Fun K "_law_edges" "_law_edges" Y54 f fd) (bl:Bl K mg Y)  : aK P w K mg base CX0 1 f fd ["rows","k","pair"] (gP K Y):=by
 refine F.okA Z54 λc6 A c0 s H vs Q E hr h=>?_
 let(rl,r,k,rx,T,b,L,rfl,a2,hR,c3,er,hw,hL,b3,q):=h
 refine⟨_,(aq (aG (i:=3) Z54.nd U (Or.inl U)<|aW af)
  (aq (bp IG.never U (aQ<|pv 0) (aE (i:=4) Z54.nd U<|Or.inl U)
  (aj (bp IG.never U (aQ<|aH ba (aH aO (pv 4) ak<|λ_ _=>U) (pv 1)<|λ_ _=>U) (aE (i:=5) Z54.nd U<|Or.inl U)
  (aC (aP (aI hU (aH aO (pv 2) ak<|λ_ _=>U) (aH aO (pv 5) ak<|λ_ _=>U)<|aJ _)
  (aj<|bg<|fe PySem.F.plainAttrs_list PySem.F.slot_list_append PySem.F.type_list_append bG (pv 3)<|aa (aH aO (pv 5) ak<|λ_ _=>U) af)
  aF)
  (aj (aP (aI hU (aH aO (pv 5) ak<|λ_ _=>U) (aH aO (pv 2) ak<|λ_ _=>U)<|aJ _)
  (aj<|bg<|fe PySem.F.plainAttrs_list PySem.F.slot_list_append PySem.F.type_list_append bG (pv 3)<|aa (aD bE (aH aO (pv 5) ak<|λ_ _=>U) ak) af)
  aF))))))
  (aj<|ax<|au (c9 (w:=w) U U) U bl.sorted_ PyProof.Rows.boot_sorted<|aa (bJ (i7 (w:=w) U U) U bl.set_ PyProof.Rows.boot_set<|aa (pv 3) af) af))),?_⟩
 show(let r2:TS:=_;let r1:TS:=aR _ r2;aR _ r1 _ _ _);intro _ _;let a6:⇑rx=T.length:=hR.1;refine⟨(by show 0<=HU;decide),λmk G=>?_⟩;let s0:=ai G<|.lst<|([]:Ly Int).map V.int;let e0:upd H mk (.lst<|([]:Ly Int).map V.int) mk=Lh (.lst<|([]:Ly Int).map V.int):=ae;let ee:upd H mk (.lst [])=upd H mk (.lst<|([]:Ly Int).map V.int):=rfl;rw[ee];clear ee;generalize upd H mk (.lst<|([]:Ly Int).map V.int)=H0 at s0 e0⊢;refine⟨_,U,rl,U,⟨_,SqL.of<|s0 _ _ a2⟩,(let R:Nat->St->Hp->Prop:=λi u C=>ar H C/\∃(m:Ly Int)(c4 O:Option V),C mk=Lh (.lst<|m.map V.int)/\⇑m<=4*i/\(∀x,x∈m↔MkC (T.take i) k b x)/\u=[↑rl,Lh<|.int (k:Int),↑r,↑mk,c4,O];bu (xs:=rx) R ⟨s0,[],_,_,e0,xX _,(λx=>⟨(λh=>nomatch h),(λ⟨N,a5,_⟩=>nomatch a5)⟩),U⟩ (λi u C _ h=>SqL.of<|h.1 _ _ a2) (λi y u C e h=>?_) (λu C h=>?_))⟩
 .let(z,m,c4,O,em,a8,n,rfl):=h;let(ra,N,rfl,ew,ce,cv,g1,_,g2,g3):=aS.get hR e;let(w1,w2,w3):=hw N<|HH ew;let hi:i<⇑rx:=(HG.mp e).1;let(J,a3):∃J,N.1[k]?=Lh J:=⟨_,HF w1⟩;let d1:N.1.getD k []=J:=by rw[iX,a3];rfl
  rw[d1]at w2 w3;let(pa,b6,_,pv,a0,Z):=g3.2 k J a3;let a7:=Z.length;refine⟨_,U,ra,_,_,_,U,U,SqT.of<|z _ _ g1,U,_,U,ce,_,_,_,U,U,SqL.of<|z _ _ g2,bh b6,pa,U,⟨_,SqL.of<|z _ _ a0⟩,(let R:Nat->St->Hp->Prop:=λj u S=>ar H S/\∃(d:Ly Int)(O:Option V),S mk=Lh (.lst<|d.map V.int)/\⇑d<=⇑m+2*j/\(∀x,x∈d↔(x∈m\/∃p∈J.take j,(x=p.1\/x=p.2+1)/\b.1<x/\x<=b.2))/\u=[↑rl,Lh<|.int (k:Int),↑r,↑mk,↑ra,O];bu (xs:=pv) R ⟨z,m,_,em,∅,(λx=>⟨.inl,(λh=>h.elim id<|λ⟨p,hp,_⟩=>nomatch hp)⟩),U⟩ (λj u S _ h=>SqL.of<|h.1 _ _ a0) (λj y u S e2 h=>?_) (λu S h=>?_))⟩
  .let(s2,d,b9,o,b0,v,rfl):=h;let(p,t,ep,rfl,ht):=Z.get e2;let(p1,p2,p3):=w3 p<|HH ep;let hj:j<⇑pv:=(HG.mp e2).1;let X:=s2 _ _ ht;let b5:=s2 _ _ er;refine(let R:St->Hp->Prop:=λa4 H3=>ar H H3/\∃l:Ly Int,H3 mk=Lh (.lst<|l.map V.int)/\⇑l<=⇑d+1/\(∀x,x∈l↔(x∈d\/(x=p.1/\b.1<x/\x<=b.2)))/\a4=[↑rl,Lh<|.int (k:Int),↑r,↑mk,↑ra,↑t];⟨R,?_,?_⟩)
   .refine⟨_,U,r,_,_,_,U,U,SqT.of b5,U,_,U,t,_,_,_,U,U,SqT.of X,U,_,_,U,U,_,U,cD (λg=>?_)<|λg=>?_⟩
    .let g':b.1<p.1:=fM g;refine⟨_,U,.inl ⟨U,_,SqL.of o⟩,_,U,t,_,_,_,U,U,SqT.of X,U,mk,_,_,U,U,o,az (by rw[bc];lia),s2.upd G,d++[p.1],by rw[ae,dW];rfl,by rw[dy];exact xX _,λx=>?_,U⟩;rw[hZ,gZ];exact⟨λh=>h.imp id λh=>⟨h,∅,∅⟩,λh=>h.imp id λh=>h.1⟩
    .let g':¬ b.1<p.1:=jt g;exact⟨s2,d,o,∅,(λx=>⟨.inl,(λh=>h.elim id<|λ⟨c,a,_⟩=>∅)⟩),U⟩
   rintro c1 H3 ⟨s3,l,I,c2,a9,rfl⟩;let W:=s3 _ _ ht;let b4:=s3 _ _ er;let fk:∀(D:Ly Int),(∀x,x∈D↔(x∈l\/(x=p.2+1/\b.1<x/\x<=b.2)))->∀x,x∈D↔(x∈m\/∃p∈J.take (j+1),(x=p.1\/x=p.2+1)/\b.1<x/\x<=b.2):=λD M x=>by
    rw[M x,a9 x,v x,take_snoc ep];constructor
    .rintro(((h|⟨p',c,a⟩)|⟨c,a⟩)|⟨c,a⟩)
     .exact .inl h
     .exact .inr ⟨p',hZ.mpr<|.inl c,a⟩
     .exact .inr ⟨p,hZ.mpr<|.inr<|gZ.mpr U,.inl c,a⟩
     .exact .inr ⟨p,hZ.mpr<|.inr<|gZ.mpr U,.inr c,a⟩
    .rintro(h|⟨p',c,a,B⟩)
     .exact .inl<|.inl<|.inl h
     .rcases hZ.mp c with c|c
      .exact .inl<|.inl<|.inr ⟨p',c,a,B⟩
      .rw[gZ.mp c]at a;rcases a with a|a
       .exact .inl<|.inr ⟨a,B⟩
       .exact .inr ⟨a,B⟩
   refine⟨_,U,t,_,_,_,U,U,SqT.of W,U,_,U,r,_,_,_,U,U,SqT.of b4,U,_,_,U,U,_,U,cD (λg=>?_)<|λg=>?_⟩
   .let g':p.2<b.2:=fM g;refine⟨_,U,.inl ⟨U,_,SqL.of I⟩,_,U,t,_,_,_,U,U,SqT.of W,U,_,_,U,U,mk,_,_,U,U,I,az (by rw[bc];lia),s3.upd G,l++[p.2+1],_,by rw[ae,dW];rfl,by rw[dy];show ⇑l+1<=_;lia,fk _ λx=>?_,U⟩;rw[hZ,gZ];exact⟨λh=>h.imp id λh=>⟨h,∅,∅⟩,λh=>h.imp id λh=>h.1⟩
   .let g':¬ p.2<b.2:=jt g;exact⟨s3,l,_,I,∅,fk _<|λx=>⟨.inl,(λh=>h.elim id<|λ⟨c,_,a⟩=>∅)⟩,U⟩
  .let(s2,d,b9,o,b0,v,rfl):=h;rw[a7,gd]at v;calc⟨s2,d,_,_,o,∅,λx=>?_,U⟩;rw[v x,n x,take_snoc ew];constructor
   .rintro(⟨w',c,a⟩|⟨p,c,a,B,M⟩)
    .exact⟨w',hZ.mpr<|.inl c,a⟩
    .refine⟨N,hZ.mpr<|.inr<|gZ.mpr U,?_⟩;unfold rmk;rw[d1,jZ];exact⟨fg.mpr ⟨p,c,a⟩,by rw[Ls B,Ls M];rfl⟩
   .rintro⟨w',c,a⟩;rcases hZ.mp c with c|c
    .exact .inl ⟨w',c,a⟩
    .rw[gZ.mp c]at a;unfold rmk at a;rw[d1,jZ]at a;let(p,hp,B):=fg.mp a.1;let M:=a.2;simp only[EA,decide_eq_true_eq]at M;exact .inr ⟨p,hp,B,M⟩
 .let(z,m,c4,O,em,a8,n,rfl):=h;rw[a6,gd]at n;calc⟨_,U,mk,m,U,SqL.of em,∅,λl' b1=>?_⟩;let s5:ar C (upd C l'<|nj w l' m):=ai b1 _;calc⟨l',m,L,U,ae,∅,λx hx=>b3 x<|(n x).mp hx,λD2 cs a1 pw mem=>?_⟩;calc q D2 cs _ (z.trans<|s5.trans<|ai a1 _) ((z.trans s5).free a1) ae pw λx=>(mem x).trans<|n x
theorem Fd(F:Fun K "_law_bits" "_law_bits" Y49 f fd) (bl:Bl K mg Y)  : aK P w K mg base CX0 1 f fd ["fitting"] (fT K Y):=by
 refine F.okA Z49 λB A u s H C Q E G h=>?_
 let(l,m,n,rfl,r,I,q):=h;calc⟨_,(aj<|ax<|au (eI U) U bl.sum_ PyProof.Rows.boot_sum<|aa (cq (aQ<|pv 0) (dD U (~~~0) (~~~0) (~~~0) U) U (λ_ _ _ _=>bC)<|λ_ _ _ _=>(aD xg ak<|pv 0)) af),?_⟩;let t:⇑((List.range n).filter m)<=n:=yW (oM _ _) (by rw[kW];exact xX _);let g:=nV m n;let k:∀j∈(List.range n).filter m,j<n:=λj x=>jV.mp (jZ.mp x).1
 generalize (List.range n).filter m=bs at r t g k;refine⟨_,U,l,U,⟨_,SqL.of r⟩,(let z:HR->Nat->Ly V->Hp->Prop:=λD i c a=>ar H a/\a D=Lh (.lst c)/\c=((bs.take i).map λj=>(2:Int)^j).map V.int;cB (xs:=vN bs) z (λD d=>⟨ai d _,ae,U⟩) (λD i c a d _ h=>SqL.of<|h.1 _ _ r) (λD i y c a d e h=>?_) (λD c a d h=>?_))⟩
 .let(p,o,rfl):=h;let(b,rfl,v):=yE e;let hi:i<⇑(vN bs):=(HG.mp e).1;let J:=k b<|HH v;refine⟨_,U,_,_,U,U,⟨∅,∅,⋯⟩,cA.mk hi o (az (by rw[bc,bc,iT];lia)) ⟨p.upd d,ae,?_⟩⟩;rw[take_snoc v,dW,dW];show _++[V.int (1*2^b)]=_++[V.int (2^b)];rw[G2]
 .let(p,o,rfl):=h;rw[jP,gd]at o;calc⟨D,_,U,SqL.of o,?_⟩;rw[g];calc q a p
theorem O_0(F:Fun K "__init__" "Domain.__init__" Y0 f fd) (bl:Bl K mg Y)  : aK P w K mg base CX0 1 f fd ["self","low","high"] (b7 K Y):=by
 refine F.okA Z0 λe A b s H g Q E i h=>?_
 let(x,a,lo,hi,rfl,d,q):=h
 refine⟨_,(aq (cO (pv 0) (pv 1) U)
  (aj<|cO (pv 0) (pv 2) U)),?_⟩
 show(let c:TS:=_;aR _ c _ _ _);intro _;refine⟨_,U,_,U,x,_,a,_,U,d,bl.k_Numbers,bl.na_Numbers_low,(by show 0<1000;decide),_,U,_,U,x,_,a,_,U,ae,bl.k_Numbers,bl.na_Numbers_high,(by show 1<1000;decide),?_⟩;show Q .non (upd (upd H x<|.ins Y.l a [("low",.int lo)]) x<|.ins Y.l a<|bI "high" (.int hi) [("low",.int lo)]);rw[put2];calc q
theorem Fe(F:Fun K "__init__" "Way.__init__" Y18 f fd) (bl:Bl K mg Y)  : aK P w K mg base CX0 1 f fd ["self","called"] (cJ K Y):=by
 refine F.okA Z18 λd A a s H e Q E g h=>?_
 let(x,c,z,rfl,b,q):=h;calc⟨_,(aj<|cO (pv 0) (pv 1) U),?_⟩;calc⟨_,U,_,U,x,_,c,_,U,b,bl.k_First,bl.na_First_called,(by show 0<1000;decide),q⟩
theorem Ff(F:Fun K "__init__" "Way.__init__" Y22 f fd) (bl:Bl K mg Y)  : aK P w K mg base CX0 1 f fd ["self","called"] (cR K Y):=by
 refine F.okA Z22 λd A a s H e Q E g h=>?_
 let(x,c,z,rfl,b,q):=h;calc⟨_,(aj<|cO (pv 0) (pv 1) U),?_⟩;calc⟨_,U,_,U,x,_,c,_,U,b,bl.k_Only,bl.na_Only_called,(by show 0<1000;decide),q⟩
theorem Fg(F:Fun K "__init__" "Way.__init__" Y20 f fd) (bl:Bl K mg Y)  : aK P w K mg base CX0 1 f fd ["self","called"] (cS K Y):=by
 refine F.okA Z20 λd A a s H e Q E g h=>?_
 let(x,c,z,rfl,b,q):=h;calc⟨_,(aj<|cO (pv 0) (pv 1) U),?_⟩;calc⟨_,U,_,U,x,_,c,_,U,b,bl.k_Like,bl.na_Like_called,(by show 0<1000;decide),q⟩
theorem Fh(F:Fun K "__init__" "Way.__init__" Y21 f fd) (bl:Bl K mg Y)  : aK P w K mg base CX0 1 f fd ["self","called"] (dh K Y):=by
 refine F.okA Z21 λd A a s H e Q E g h=>?_
 let(x,c,z,rfl,b,q):=h;calc⟨_,(aj<|cO (pv 0) (pv 1) U),?_⟩;calc⟨_,U,_,U,x,_,c,_,U,b,bl.k_Low,bl.na_Low_called,(by show 0<1000;decide),q⟩
theorem Fi(F:Fun K "__init__" "Way.__init__" Y19 f fd) (bl:Bl K mg Y)  : aK P w K mg base CX0 1 f fd ["self","called"] (cU K Y):=by
 refine F.okA Z19 λd A a s H e Q E g h=>?_
 let(x,c,z,rfl,b,q):=h;calc⟨_,(aj<|cO (pv 0) (pv 1) U),?_⟩;calc⟨_,U,_,U,x,_,c,_,U,b,bl.k_High,bl.na_High_called,(by show 0<1000;decide),q⟩
theorem Fj(F:Fun K "__init__" "Way.__init__" Y23 f fd) (bl:Bl K mg Y)  : aK P w K mg base CX0 1 f fd ["self","called"] (di K Y):=by
 refine F.okA Z23 λd A a s H e Q E g h=>?_
 let(x,c,z,rfl,b,q):=h;calc⟨_,(aj<|cO (pv 0) (pv 1) U),?_⟩;calc⟨_,U,_,U,x,_,c,_,U,b,bl.k_Sum,bl.na_Sum_called,(by show 0<1000;decide),q⟩
theorem O_1(F:Fun K "__init__" "Domain.__init__" Y1 f fd) (bl:Bl K mg Y)  : aK P w K mg base CX0 1 f fd ["self","low","high"] (cm K Y):=by
 refine F.okA Z1 λe A b s H g Q E i h=>?_
 let(x,a,lo,hi,rfl,d,q):=h
 refine⟨_,(aq (cO (pv 0) (pv 1) U)
  (aj<|cO (pv 0) (pv 2) U)),?_⟩
 show(let c:TS:=_;aR _ c _ _ _);intro _;refine⟨_,U,_,U,x,_,a,_,U,d,bl.k_Words,bl.na_Words_low,(by show 0<1000;decide),_,U,_,U,x,_,a,_,U,ae,bl.k_Words,bl.na_Words_high,(by show 1<1000;decide),?_⟩;show Q .non (upd (upd H x<|.ins Y.m a [("low",.int lo)]) x<|.ins Y.m a<|bI "high" (.int hi) [("low",.int lo)]);rw[put2];calc q
theorem O_5(F:Fun K "chosen" "First.chosen" Y5 f fd) (bl:Bl K mg Y)  : aK P w K mg base CX0 1 f fd ["self","codes","outcome"] (J1 K Y):=by
 refine F.ok Z5 (λi H Q E h=>?_)<|λr A d s H i Q E u h=>?_
 .let(x,c,o,n,e,b,rfl,(p,z,j),l,a,g,m,q):=h;rfl
 let(x,c,o,n,e,b,rfl,(p,z,j),l,a,g,m,q):=h;calc⟨_,(aj<|ax<|bq<|aa aN<|aa (aH ba (pv 1) ak<|λ_ _=>U) af),?_⟩;calc⟨_,U,c,_,_,_,U,U,g,at0 n e,bA,λt k=>q t _ (ai k _)<|.inl ae⟩
theorem Fl(F:Fun K "chosen" "Only.chosen" Y14 f fd) (bl:Bl K mg Y)  : aK P w K mg base CX0 1 f fd ["self","codes","outcome"] (J9 K Y):=by
 refine F.ok Z14 (λl H Q E h=>?_)<|λC A k s H l Q E D h=>?_
 .let(x,c,o,n,a,b,rfl,(B,z,m),u,j,d,y,q):=h;rfl
 let(x,c,o,n,a,b,rfl,(B,z,m),u,j,d,y,q):=h;calc⟨_,(aj<|ax<|qZ (aI cb (au aw U bl.len_ Lg<|aa (pv 1) af) ak<|aJ _) (bq<|aa aN<|aa (aH ba (pv 1) ak<|λ_ _=>U) af)<|eF (v:=.ref Y.p) U bl.CLASH_ U),?_⟩;calc⟨_,U,c,_,U,.inl<|d,U,_,U,?_⟩;refine cD (λg=>?_)<|λg=>?_
 .let e:wf 1 b.1 b.2 (n :: a)=say n:=by
   let i:=fM g;simp at i;show kJ _=_;unfold kJ;rw[Lq (by rw[ik];lia)];rfl
  rw[e]at q;exact⟨_,U,c,_,_,_,U,U,d,at0 n a,bA,λt r=>q t _ (ai r _)<|.inl ae⟩
 .let e:wf 1 b.1 b.2 (n :: a)=vn:=by
   let i:=jt g;simp at i;show kJ _=_;unfold kJ;rw[Lp (by rw[ik];lia)]
  rw[e]at q;calc q _ _ (ar.refl _)<|.inr bl.q_CLASH
theorem O_9(F:Fun K "chosen" "Like.chosen" Y9 f fd) (bl:Bl K mg Y)  : aK P w K mg base CX0 1 f fd ["self","codes","outcome"] (J5 K Y):=by
 refine F.ok Z9 (λy H Q E h=>?_)<|λL A m s H y Q E M h=>?_
 .let(x,c,o,n,a,b,rfl,(J,z,B),D,k,i,G,q):=h;rfl
 let(x,c,o,n,a,b,rfl,(J,z,B),D,k,i,G,q):=h;calc⟨_,(aj<|ax<|qZ (aI cb (au oU U bl.len_ Lg<|aa (bJ (oS U) U bl.set_ PyProof.Rows.boot_set<|aa (pv 1) af) af) ak<|aJ _) (bq<|aa aN<|aa (aH ba (pv 1) ak<|λ_ _=>U) af)<|eF (v:=.ref Y.p) U bl.CLASH_ U),?_⟩;refine⟨_,U,c,_,U,i,(by rw[ik];lia),λl I=>?_⟩;refine⟨l,_,U,ae,(by rw[ik];lia),U,_,U,?_⟩;let d:ar H (upd H l<|zq P w l (n :: a)):=ai I _;refine cD (λg=>?_)<|λg=>?_
 .let u:V.int _=V.int _:=fM g;let j:cntK (n :: a) ⇑(n :: a)=1:=by injection u with u;lia
  let r:=pR.mp j;let e:wf 2 b.1 b.2 (n :: a)=say n:=by
   show kI _=_;unfold kI;rw[Lq (lP.mp r),pZ r]
  rw[e]at q;exact⟨_,U,c,_,_,_,U,U,d.seq i,at0 n a,bA,λt C=>q t _ (d.trans<|ai C _)<|.inl ae⟩
 .let j:¬ cntK (n :: a) ⇑(n :: a)=1:=λz=>(jt g) (by rw[z];rfl)
  let e:wf 2 b.1 b.2 (n :: a)=vn:=by
   show kI _=_;unfold kI;rw[Lp λz=>j (pR.mpr<|lP.mpr z)]
  rw[e]at q;calc q _ _ d<|.inr bl.q_CLASH
theorem Fn(F:Fun K "chosen" "Low.chosen" Y11 f fd) (bl:Bl K mg Y)  : aK P w K mg base CX0 1 f fd ["self","codes","outcome"] (J7 K Y):=by
 refine F.ok Z11 (λg H Q E h=>?_)<|λy A d s H g Q E B h=>?_
 .let(x,c,o,n,i,b,rfl,(v,z,j),l,a,e,p,q):=h;rfl
 let(x,c,o,n,i,b,rfl,(v,z,j),l,a,e,p,q):=h;calc⟨_,(aj<|ax<|bq<|aa aN<|aa (au (f7 U) U bl.min_ PyProof.Rows.boot_min<|aa (pv 1) af) af),?_⟩;calc⟨_,U,c,_,U,e,BM _,λm u r=>⟨bA,λt k=>q t _ (ai k _)<|.inl ?_⟩⟩;rw[ae,nM u r];rfl
theorem O_7(F:Fun K "chosen" "High.chosen" Y7 f fd) (bl:Bl K mg Y)  : aK P w K mg base CX0 1 f fd ["self","codes","outcome"] (J3 K Y):=by
 refine F.ok Z7 (λg H Q E h=>?_)<|λy A d s H g Q E B h=>?_
 .let(x,c,o,n,i,b,rfl,(v,z,j),l,a,e,p,q):=h;rfl
 let(x,c,o,n,i,b,rfl,(v,z,j),l,a,e,p,q):=h;calc⟨_,(aj<|ax<|bq<|aa aN<|aa (au (gb U) U bl.max_ PyProof.Rows.boot_max<|aa (pv 1) af) af),?_⟩;calc⟨_,U,c,_,U,e,BM _,λm u r=>⟨bA,λt k=>q t _ (ai k _)<|.inl ?_⟩⟩;rw[ae,nN u r];rfl
theorem Fo(F:Fun K "chosen" "Sum.chosen" Y16 f fd) (bl:Bl K mg Y)  : aK P w K mg base CX0 1 f fd ["self","codes","outcome"] (J11 K Y):=by
 refine F.ok Z16 (λr H Q E h=>?_)<|λG A l s H r Q E I h=>?_
 .let(x,c,o,n,a,b,rfl,(D,z,u),(C,p,B,fs,j,d,g,_),k,m,y,q):=h;rfl
 let(x,c,o,n,a,b,rfl,(D,z,u),(C,p,B,fs,j,d,g,_),k,m,y,q):=h;calc⟨_,(aj<|ax<|bq<|aa aN<|aa (au (lu U) U bl.max_ PyProof.Rows.boot_max<|aa (cc (pv 2) U)<|aa (au (ly U) U bl.min_ PyProof.Rows.boot_min<|aa (cc (pv 2) U)<|aa (au (eI U) U bl.sum_ PyProof.Rows.boot_sum<|aa (pv 1) af) af) af) af),?_⟩;let i:Cls K C/\NoAttr K C s!"low"/\NoAttr K C s!"high":=by
  rcases p with rfl|rfl
  .exact⟨bl.k_Numbers,bl.na_Numbers_low,bl.na_Numbers_high⟩
  .exact⟨bl.k_Words,bl.na_Words_low,bl.na_Words_high⟩
 calc⟨_,U,o,_,_,_,_,U,j,i.1,i.2.1,d,_,U,o,_,_,_,_,U,j,i.1,i.2.2,g,_,U,c,_,U,m,_,_,U,_,_,U,?_⟩;calc⟨bA,λt v=>q t _ (ai v _)<|.inl ?_⟩;rw[ae];let e:near b.1 b.2 (n :: a).sum=if (if (n :: a).sum<b.2 then(n :: a).sum else b.2)>b.1 then(if (n :: a).sum<b.2 then(n :: a).sum else b.2)else b.1:=by
  unfold near;generalize (n :: a).sum=t;split <;> split <;> split <;> first|rfl|lia|(split <;> lia)
 show _=Lh (HO.tup<|tp<|say<|near b.1 b.2 (n :: a).sum);rw[e];rfl
theorem Fp(F:Fun K "cut_columns" "cut_columns" Y37 f fd) (bl:Bl K mg Y)(sN:Callee P w K mg base 1 "stretches" ["low","high","marks"] (gL K Y)):aK P w K mg base CX0 2 f fd ["bounds","marks"] (dO K Y):=by
 refine F.okA Z37 λc2 A b3 s H vs Q E hr h=>?_
 let(a,b,ys,ps,as,R,rfl,ha,hP,hb,hM,hok,q):=h;refine⟨_,(aj<|ax<|iA (uk U bl.zip_<|aa (pv 0)<|aa (pv 1) af) (ku (N:=["bound","cuts"]) (k:=2) U U (~~~0) (~~~0)<|~~~0) U (λ_ _ _ _=>(pH (K:=K) (n:=2) U U<|aM (aE (i:=0) (show(["bound","cuts"]:Ly Str).Nodup by decide+kernel) U (Or.inl U) (Or.inr U)) (aM (aE (i:=1) (show(["bound","cuts"]:Ly Str).Nodup by decide+kernel) U (Or.inl U) (Or.inr U)) cI))) (λ_ _ _ _=>bC) (λ_ _ _ _=>(aL sN hr U<|aa (aH (dk (K:=K) U) (pv 0) ak<|λ_ _=>U)<|aa (aH (dk (K:=K) U) (pv 0) ak<|λ_ _=>U)<|aa (pv 1) af))),?_⟩;let(b5,b4,a1):=hok;let b6:=⇑hP;let c1:=hM.1
 refine⟨_,U,_,U,a,b,U,⟨_,SqL.of ha⟩,⟨_,SqL.of hb⟩,we (xs:=ys) (ys:=as.map V.ref) (λD i C B=>ar H B/\B D=Lh (.lst C)/\∃d:Ly (Ly Int),⇑d=i/\(∀(j:Nat)(p:Int×Int)(v l:Ly Int),ps[j]?=Lh p->R[j]?=Lh v->d[j]?=Lh l->l.Pairwise (· < ·)/\(∀c,c∈l↔(c∈v/\p.1<c/\c<=p.2))/\⇑l<=400)/\aS C (List.zipWith (λp l=>bZ p.1 p.2 l) (ps.take i) d) (λr c=>r≠D/\∃g,B r=Lh (.lst g)/\PL B g c))
  (λD O=>⟨ai O _,ae,[],U,(λj p v l _ _ e=>by simp at e),aS.nil⟩) (λD i C B O _ h=>⟨SqL.of<|h.1 _ _ ha,SqL.of<|h.1 _ _ hb⟩) (λD i x y C B T O ex ey h hT g a5=>?_) (λD C B O h=>?_)⟩
 .let(sm,eD,d,o,J,M):=h;let(p,t,ep,rfl,ht):=hP.get ex;let(r,rfl,er):=iI ey;let hi:i<⇑as:=(HG.mp er).1;let(v,em):∃v,R[i]?=Lh v:=⟨_,HF ∅⟩;let(r',W,hr):=hM.2 i v em;rw[er]at W;cases W;let s2:=sm.trans<|ai hT<|.tup [.ref t,.ref r];let eT:upd B T (.tup [.ref t,.ref r]) T=Lh (.tup [.ref t,.ref r]):=ae;let Z:=ai hT<|.tup [.ref t,.ref r];let L:=Z _ _ eD;generalize upd B T (.tup [.ref t,.ref r])=H2 at s2 eT L Z⊢;let(t0,t1,rfl):∃t0 t1,g=[t0,t1]:=by
   match g,a5 with
   | [t0,t1],_=>exact⟨t0,t1,U⟩
  calc⟨T,_,U,SqT.of eT,U,_,_,U,_,_,U,U,⟨[↑t,↑r],U,U⟩,?_⟩;let b9:=a1 v<|HH em;calc⟨_,U,t,_,_,_,U,U,SqT.of<|s2 _ _ ht,U,_,U,t,_,_,_,U,U,SqT.of<|s2 _ _ ht,U,_,U,r,v,v,p.1,p.2,U,SqL.of<|s2 _ _ hr,∅,∅,λm hm _ _=>hm,λr2 H3 l a0 s3 S b0 a7 a6 fk a9=>?_⟩;let X:=s3 _ _ L;let c0:C.length=i:=by rw[M.1,jE,iT];lia
  let Ce:i<min ⇑ys ⇑(as.map V.ref):=by rw[bc];lia
  let a2:r2≠D:=λz=>by rw[z,L]at S;cases S
  refine cA.mk Ce X (az ∅) ⟨(s2.trans s3).upd O,ae,d++[l],by rw[dy,o];rfl,λj p' a3 b1 G I u=>?_,?_⟩
  .by_cases hj:j<⇑d
   .rw[ji hj]at u;exact J j p' a3 b1 G I u
   .let a8:j=⇑d:=by
     have:=(HG.mp u).1;simp at this;lia
    subst a8;simp at u;subst u;rw[o]at G I;rw[ep]at G;cases G;rw[em]at I;cases I;exact⟨a6,fk,a9⟩
  .rw[take_snoc ep,List.zipWith_append (by rw[iT];lia)];let a4:aS (C++[.ref r2]) (List.zipWith (λp l=>bZ p.1 p.2 l) (ps.take i) d++[bZ p.1 p.2 l]) (λr c=>r≠D/\∃g,H3 r=Lh (.lst g)/\PL H3 g c) :=
    aS.snoc (aS.mono M λx c k=>⟨k.1,let ⟨g,e1,e2⟩:=k.2;⟨g,s3 _ _<|Z _ _ e1,PL.mono e2 (Z.trans s3).tups⟩⟩) ⟨a2,a0,b0,a7⟩
   let st:cG H3 (upd H3 D<|.lst<|C++[.ref r2]):=bK X;exact aS.mono a4 λx c k=>⟨k.1,let ⟨g,e1,e2⟩:=k.2;⟨g,(ay k.1).trans e1,PL.mono e2 st⟩⟩
 .let(sm,eD,d,o,J,M):=h;let e:min ⇑ys ⇑(as.map V.ref)=⇑ps:=by rw[bc];lia
  rw[e]at o;rw[e,gd]at M;calc q D C B d sm eD o J<|aS.mono M λx c k=>k.2
theorem Fq(F:Fun K "look" "look" Y70 f fd) (bl:Bl K mg Y)(C:Callee P w K mg base 1 "beneath_code" ["form","code"] (eR K Y)):aK P w K mg base CX0 2 f fd ["form","codes"] (qM K Y):=by
 refine F.okA Z70 λS A o s H T Q E D h=>?_
 let(v,r,l,g,rfl,p,G,q):=h
 refine⟨_,(aq (aG (i:=2) Z70.nd U (Or.inl U)<|pv 0)
  (aq (bp IG.never U (aQ<|pv 1) (aE (i:=3) Z70.nd U<|Or.inl U)
  (aj<|aG (i:=2) Z70.nd U (Or.inl U)<|aL C D U<|aa (pv 2)<|aa (pv 3) af))
  (aj<|ax<|pv 2))),?_⟩
 show(let z:TS:=_;let B:TS:=aR _ z;aR _ B _ _ _);intro _ _;refine⟨_,U,_,U,l,U,⟨_,p⟩,(let R:Nat->St->Hp->Prop:=λi d k=>k=H/\∃(u:V)(n:Option V),Lk K H u (g.drop i) r/\d=[Lh v,↑l,Lh u,n];bu (xs:=g.map V.int) R ⟨U,v,_,G,U⟩ (λi d k _ h=>by rw[h.1];exact p) (λi y d k e h=>?_) (λd k h=>?_))⟩
 .let(m,u,n,b,rfl):=h;rw[m];let(c,rfl,O):=of_map e;let N:g.drop i=c :: g.drop (i+1):=by
   let(hi,rfl):=HG.mp O;exact rG hi
  rw[N]at b;let(a,xs,x,j,t,rfl,M,L,J,I):=b.cons_inv;exact⟨_,U,_,U,a,xs,x,c,j,t,U,M,L,J,U,_,_,I,U⟩
 .let(m,u,n,b,rfl):=h;rw[m];rw[bc,wL]at b;cases b;calc⟨_,U,q⟩
theorem Fs(F:Fun K "is_word" "is_word" Y44 f fd) (bl:Bl K mg Y)(g:Callee P w K mg base 1 "all_among" ["text","signs"] (gM K Y)):aK P w K mg base CX0 2 f fd ["text"] (gQ K Y):=by
 refine F.okA Z44 λk A d s H l Q E j h=>?_
 let(z,rfl,i,q):=h;calc⟨_,(aj<|ax<|gD (mM dX dX ak (au qk U bl.len_ Lg<|aa (pv 0) af)<|pJ U bl.MOST_SIGNS_)<|gD (eG l7 (pv 0) aN<|aJ _)<|jF<|aL g j U<|aa (pv 0)<|aa (pJ U bl.SMALL_LETTERS_) af),?_⟩;calc⟨_,U,_,U,big i,_,_,U,U,_,U,?_⟩;refine cD (λc=>?_)<|λc=>?_
 .refine⟨_,_,U,U,_,U,?_⟩;refine cD (λb=>?_)<|λb=>?_
  .refine⟨_,U,U,_,U,?_⟩;refine cD (λa=>?_)<|λa=>?_
   .refine⟨_,U,z,lets,U,?_⟩;let e:isw z=rq z lets:=by unfold isw;rw[c,b,a];rfl
    rw[e]at q;exact q
   .let e:isw z=false:=by unfold isw;rw[EH.mpr a,Bool.false_and,Bool.and_false,Bool.and_false]
    rw[e]at q;exact q
  .let e:isw z=false:=by unfold isw;rw[EH.mpr b,Bool.false_and,Bool.and_false]
   rw[e]at q;exact q
 .let e:isw z=false:=by unfold isw;rw[EH.mpr c,Bool.false_and]
  rw[e]at q;calc⟨_,U,bV q⟩
theorem Ft(F:Fun K "fits" "fits" Y39 f fd) (bl:Bl K mg Y)(Ad:Callee P w K mg base 1 "holds" ["spans","number"] (n8 K Y)):aK P w K mg base CX0 2 f fd ["table","k","codes"] (qN K Y):=by
 refine F.okA Z39 λa1 A G s H vs Q E hr h=>?_
 let(t,X,c,dx,fs,xs,a0,k,b,g,rfl,ht,hf,hl,hR,ek,J,W,q):=h
 refine⟨_,(aq (aG (i:=3) Z39.nd U (Or.inl U)<|aH aO (aH ba (cc (pv 0) U) (pv 1)<|λ_ _=>U) ak<|λ_ _=>U)
  (aq (bp IG.never U (uk U bl.zip_<|aa (pv 3)<|aa (pv 2) af) (fV U<|aM (aE (i:=4) Z39.nd U<|Or.inl U)<|aM (aE (i:=5) Z39.nd U<|Or.inl U) cI)
  (aj (aP (bQ<|cy<|aL Ad hr U<|aa (pv 4)<|aa (pv 5) af)
  (aj<|ax cE)
  aF)))
  (aj<|ax cE))),?_⟩
 show(let Z:TS:=_;let r1:TS:=aR _ Z;aR _ r1 _ _ _);intro _ _;let(r,er,S,cv,e1,_,R,m):=hR.2 k b ek;calc⟨_,U,t,_,_,_,_,U,ht,bl.k_Table,bl.na_Table_rows,hf,_,U,X,_,_,_,U,U,SqL.of hl,bh er,r,_,_,_,U,U,SqT.of e1,U,?_⟩;refine⟨_,U,_,U,S,c,U,⟨_,SqL.of R⟩,⟨_,J⟩,(let I_:Nat->St->Hp->Prop:=λi o a=>ar H a/\(∀j,j<i->inP (b.1.getD j []) (g.getD j 0)=Lj)/\∃B z:Option V,o=[↑t,Lh<|.int k,↑c,↑S,B,z];vg (xs:=cv) (ys:=g.map V.int) I_ ⟨ar.refl _,(λj h=>Lr h<|CU j),_,_,U⟩ (λi o a h=>⟨SqL.of<|h.1 _ _ R,h.1.seq J⟩) (λi x y o a T ex ey h hT=>?_) (λo a h=>?_))⟩
 .let(p,v,B,z,rfl):=h;let s2:=p.trans<|ai hT<|.tup [x,y];let O:upd a T (.tup [x,y]) T=Lh (.tup [x,y]):=ae;generalize upd a T (.tup [x,y])=H2 at s2 O⊢;let(l,u,rfl,ep,C):=aS.get m ex;let(_,ys,el,hp):=C.same s2;let(n,rfl,N):=of_map ey;calc⟨T,_,U,SqT.of O,U,_,_,U,_,_,U,U,?_⟩;calc⟨_,U,_,U,l,ys,u,n,U,SqL.of el,hp,_,U,?_⟩;let M:b.1.getD i []=u:=by rw[iX,ep];rfl
  let L:g.getD i 0=n:=by rw[iX,N];rfl
  cases hin:inP u n with
  |true =>
   calc bV ⟨s2,λj I=>?_,_,_,U⟩;by_cases D:j<i
   .exact v j D
   .let:j=i:=∅
    subst this;rw[M,L];exact hin
  |false =>
   calc fX ?_;let e:kH b.1 g=false:=by
    unfold kH;rw[List.all_eq_false];calc⟨i,jV.mpr (HG.mp N).1,?_⟩;rw[M,L,hin];decide
   let d:=q H2 s2;rw[e]at d;exact d
 .let(p,v,B,z,rfl):=h;let e:kH b.1 g=true:=by
   unfold kH;rw[jX];intro j I;calc v j ?_;let h1:=m.1;rw[bc];let:=jV.mp I;lia
  let d:=q a p;rw[e]at d;calc d
theorem Fu(F:Fun K "column_marks" "column_marks" Y36 f fd) (bl:Bl K mg Y)(uG:Callee P w K mg base 1 "gathered" ["lists"] (iK K Y)) (Ae:Callee P w K mg base 1 "edges" ["spans","low","high"] (n9 K Y)):aK P w K mg base CX0 2 f fd ["table","column"] (eS K Y):=by
 refine F.okA Z36 λb6 A a8 s H vs Q E hr h=>?_
 let(t,c,dv,bs,g,b,L,rfl,(rl,dx,dl,fs,xs,ht,f1,f2,a5,X,G,hR),eb,b3,eA,b0,hL,a0,q):=h
 refine⟨_,(aq (aG (i:=2) Z36.nd U (Or.inr U)<|aH ba (cc (pv 0) U) (pv 1)<|λ_ _=>U)
  (aj<|ax<|aL uG hr U<|aa (iA (aQ<|cc (pv 0) U) (fQ (N:=["cells","code","column","domain"]) (k:=2) (fr:=[1,2]) (cl:=[("domain",↥s+1+1),("column",↥s+1)]) U U (~~~0) (~~~0) U U (fu.mpr ⟨U,fu.mpr ⟨U,ja _⟩⟩) U) U (λ_ _ _ _=>(pH (K:=K) (n:=2) U U<|aM (aE (i:=0) (show(["cells","code","column","domain"]:Ly Str).Nodup by decide+kernel) U (Or.inl U) (Or.inr U)) (aM (aE (i:=1) (show(["cells","code","column","domain"]:Ly Str).Nodup by decide+kernel) U (Or.inl U) (Or.inr U)) cI))) (λ_ _ _ _=>bC) (λ_ _ _ _=>(aL Ae hr U<|aa (aH (cP (K:=K) U) (pv 0) (pv 2)<|λ_ _=>U)<|aa (mE (K:=K) U (pv 3) U)<|aa (mE (K:=K) U (pv 3) U) af))) af)),?_⟩
 show(let r1:TS:=_;aR _ r1 _ _ _);intro _;let(da,a6,C,hC,b5,b4,ha,g1,g2,_):=X.2 c b eb;let M:Cls K C/\NoAttr K C s!"low"/\NoAttr K C s!"high":=by
  rcases hC with rfl|rfl
  .exact⟨bl.k_Numbers,bl.na_Numbers_low,bl.na_Numbers_high⟩
  .exact⟨bl.k_Words,bl.na_Words_low,bl.na_Words_high⟩
 let W:⇑xs=⇑g:=hR.1;calc⟨_,U,t,_,_,_,_,U,ht,bl.k_Table,bl.na_Table_domains,f2,_,U,dl,_,_,_,U,U,SqL.of a5,bh a6,?_⟩;refine⟨_,U,t,_,_,_,_,U,ht,bl.k_Table,bl.na_Table_rows,f1,rl,U,⟨_,SqL.of G⟩,(let I_:HR->Nat->Ly V->Hp->Prop:=λD i o d=>ar H d/\d D=Lh (.lst o)/\∃m:Ly HR,o=m.map V.ref/\MLs (hide d D) m ((g.take i).map<|rmk c b);jI (xs:=xs) I_ (λD u=>⟨ai u _,ae,[],U,MLs.nil⟩) (λD i o d u _ h=>SqL.of<|h.1 _ _ G) (λD i y o d u e h ts T=>?_) (λD o d u h=>?_))⟩
 .let(a,O,m,rfl,p):=h;let(r,x,rfl,S,ce,cs,k1,_,k2,k3):=aS.get hR e;let hi:i<⇑xs:=(HG.mp e).1;let B:=eA x<|HH S;let h6:=zT (c:=c)<|HH S;let(J,I,rfl):∃J I,ts=[J,I]:=by
   match ts,T with
   | [J,I],_=>exact⟨J,I,U⟩
  calc⟨r,_,U,SqT.of<|a _ _ k1,U,_,_,U,_,_,U,U,⟨[↑ce,Lh (.int x.2)],U,U⟩,?_⟩;let(ol,a3,_,yo,a1,j):=k3.2 c _<|HF B;let hA:x.1[c]=x.1.getD c []:=by rw[iX,HF B];rfl
  rw[hA]at j;let a9:=⇑j;calc⟨_,U,_,U,ce,_,_,_,U,U,SqL.of<|a _ _ k2,bh a3,_,U,da,_,_,_,_,U,a _ _ ha,M.1,M.2.1,g1,_,U,da,_,_,_,_,U,a _ _ ha,M.1,M.2.2,g2,?_⟩;calc⟨ol,yo,_,b.1,b.2,U,SqL.of<|a _ _ a1,j.mono a.tups,∅,λr3 H3 es R v a2 a4=>?_⟩;let a7:=R _ _ O;let nD:r3≠D:=λz=>by rw[z,O]at v;cases v
  let Z:=p.1;rw[bc,iT]at Z;refine cA.mk hi a7 (az (by rw[bc];lia)) ⟨(a.trans R).upd u,ae,m++[r3],by rw[dW];rfl,?_⟩;rw[nR,take_snoc S,dW];exact MLs.snoc (p.same<|lR R)<|gJ (by rw[a2,a4];rfl) nD
 .let(a,O,m,rfl,p):=h;rw[W,gd]at p;let b1:=sE c b g;calc⟨D,m,_,L,U,O,p.same<|qJ d D,∅,hL,λx hx=>a0 x<|vw.mp hx,λl cs H2 s2 nl el pw hm=>q l cs H2 (a.trans s2) (a.free nl) el pw λx=>(hm x).trans vw⟩
theorem Fv(F:Fun K "_law_leaf" "_law_leaf" Y59 f fd) (bl:Bl K mg Y)(d:Callee P w K mg base 1 "_law_int" ["found"] (gN K Y)):aK P w K mg base CX0 2 f fd ["found"] (iP K Y):=by
 refine F.okA Z59 λi A c s H j Q E b h=>?_
 let(v,rfl,g,q):=h
 refine⟨_,(aq (aP (cy<|au nK U bl.isinstance_ PyProof.Rows.boot_isinstance<|aa (pv 0)<|aa (eV (v:=.ty "tuple") U bl.tuple_ PyProof.Rows.boot_tuple U) af)
  (aj<|ax<|gD (eG cb (au aw U bl.len_ Lg<|aa (pv 0) af) ak<|aJ _)<|gD (au nK U bl.isinstance_ PyProof.Rows.boot_isinstance<|aa (aH aO (pv 0) ak<|λ_ _=>U)<|aa (eV (v:=.ty "str") U bl.str_ PyProof.Rows.boot_str U) af)<|jF<|aL d b U<|aa (aH aO (pv 0) ak<|λ_ _=>U) af)
  aF)
  (aj<|ax<|aL d b U<|aa (pv 0) af)),?_⟩
 show(let e:TS:=_;aR _ e _ _ _);intro _;rcases g with⟨x,rfl⟩|⟨r,x,rfl,b⟩
 .exact⟨_,U,.inl ⟨_,_,_,_,Ll,U,.ty _,.inl<|.int _,(by first|rfl|with_unfolding_all rfl|decide+kernel),_,U,bV ⟨_,U,x,U,q⟩⟩⟩
 .let a:=b.sq;refine⟨_,U,.inr ⟨r,_,U,a,(by first|rfl|with_unfolding_all rfl|decide+kernel),_,U,fX ?_⟩⟩;calc⟨_,U,r,_,U,.inr<|a,U,_,U,dZ U ?_⟩;refine⟨_,U,r,_,_,_,U,U,a,U,.inl ⟨_,_,_,_,Lj,U,.ty _,.inl<|.str _,(by first|rfl|with_unfolding_all rfl|decide+kernel),_,U,fX ?_⟩⟩;calc⟨_,U,r,_,_,_,U,U,a,U,x.2,U,q⟩
theorem Fw(F:Fun K "_law_bounds" "_law_bounds" Y50 f fd) (bl:Bl K mg Y)(X:Callee P w K mg base 1 "_law_at" ["script","k"] (fb K Y)):aK P w K mg base CX0 2 f fd ["script"] (gc K Y):=by
 refine F.okA Z50 λa7 A a2 s H vs Q E R h=>?_
 let(a,c,rfl,W,q):=h
 refine⟨_,(aq (aG (i:=1) Z50.nd U (Or.inl U)<|aW af)
  (aq (bp IG.never U (bB U bl.range_<|aa (aD bE ak<|aD bR (aL X R U<|aa (pv 0)<|aa ak af) ak) af) (aE (i:=2) Z50.nd U<|Or.inl U)
  (aC (aG (i:=3) Z50.nd U (Or.inl U)<|aD dI (aD bR (aL X R U<|aa (pv 0)<|aa (aD bE ak<|aD fW ak<|pv 2) af)<|aD iu ak ak)<|aD fW ak<|aD iu ak ak)
  (aC (aG (i:=4) Z50.nd U (Or.inl U)<|aD bR (aL X R U<|aa (pv 0)<|aa (aD bE ak<|aD fW ak<|pv 2) af)<|aD iu ak ak)
  (aC (aP (aI cb (aD bR (pv 4) ak) ak<|aJ _)
  (aq (aG (i:=3) Z50.nd U (Or.inl U) ak)
  (aj<|aG (i:=4) Z50.nd U (Or.inl U)<|aD bR (aD dJ (pv 4) ak) ak))
  (aj (aP (aI cb (aD bR (pv 4) ak) ak<|aJ _)
  (aj<|aG (i:=4) Z50.nd U (Or.inl U)<|aD bR (aD dJ (pv 4) ak) ak)
  aF)))
  (aj<|bg<|fe PySem.F.plainAttrs_list PySem.F.slot_list_append PySem.F.type_list_append bG (pv 1)<|aa (bq<|aa (pv 3)<|aa (aD bE (pv 3)<|pv 4) af) af)))))
  (aj<|ax<|pv 1))),?_⟩
 show(let r2:TS:=_;let r1:TS:=aR _ r2;aR _ r1 _ _ _);intro _ _;refine⟨(by show 0<=HU;decide),λl S=>?_⟩;let O:=ai S<|.lst [];let el:upd H l (.lst []) l=Lh (.lst []):=ae;generalize upd H l (.lst [])=H0 at O el⊢;let x0:=GN (c.getD 0 0) (show(3:Int)≠0 by decide);let x1:=GO (c.getD 0 0) (show(0:Int)<3 by decide);refine⟨_,U,a,c,0,U,O.seq W,Int.le_refl _,_,_,U,U,(by show(0:Int)<3;decide),_,_,U,U,_,U,(by show -(2^62)<=1+c.getD 0 0%3;lia),(by show 1+c.getD 0 0%3<2^62;lia),(let I_:Nat->St->Hp->Prop:=λi J p=>ar H p/\∃(o:Ly V)(bs:Prs)(c2 Z G:Option V),p l=Lh (.lst o)/\PL p o bs/\⇑bs=i/\(∀(k:Nat)(b:Int×Int),bs[k]?=Lh b->b.1<=b.2/\b.2-b.1<((10^40:Nat):Int)/\(c.getD (2+2*k) 0%((10^40:Nat):Int)%3=1->b.1=0/\b.2<=7))/\J=[↑a,↑l,c2,Z,G];dC I_ ⟨O,[],[],_,_,_,el,.nil,U,(λk b e=>by simp at e),U⟩ (λi J p hi h=>?_) (λJ p h=>?_))⟩
 .let(r,o,bs,c2,Z,G,D,C,m,T,rfl):=h;let hi:i<(1+c.getD 0 0%3).toNat:=hi;calc⟨λj v=>v=p/\∃lo:Int,j=[↑a,↑l,Lh<|.int<|0+(i:Int),Lh<|.int lo,G],⟨_,U,_,U,_,_,U,U,.inl ⟨⋯,⋯⟩,_,_,U,U,a,c,_,U,r.seq W,∅,_,_,U,U,⟨⋯,⋯,⋯⟩,_,_,U,U,p10 _,_,_,U,U,⟨⋯,⋯,⋯⟩,_,_,U,U,.inl ⟨⋯,⋯⟩,_,_,U,U,U,_,U⟩,?_⟩;rintro a5 H1 ⟨u,lo,rfl⟩;subst u;let N:=GN (c.getD (2+2*i) 0)<|Int.ne_of_gt<|p10 (40:Int).toNat;let L:=GO (c.getD (2+2*i) 0)<|p10 (40:Int).toNat;rw[p40]at N L;refine⟨λj v=>v=H1/\j=[↑a,↑l,Lh<|.int<|0+(i:Int),Lh<|.int lo,Lh (.int<|c.getD (2+2*i) 0%((10^40:Nat):Int))],⟨_,U,_,U,_,_,U,U,.inl ⟨⋯,⋯⟩,_,_,U,U,a,c,_,U,r.seq W,∅,_,_,U,U,⟨⋯,⋯,⋯⟩,_,_,U,U,p10 _,U,?_⟩,?_⟩
  .rw[AV (n:=2+2*i) ∅,p40];rfl
  rintro a4 v ⟨u,rfl⟩;subst u;generalize a0:c.getD (2+2*i) 0%((10^40:Nat):Int)=w0 at N L⊢;refine⟨λj I=>I=v/\∃lo d:Int,0<=d/\d<((10^40:Nat):Int)/\(w0%3=1->lo=0/\d<=7)/\j=[↑a,↑l,Lh<|.int<|0+(i:Int),Lh<|.int lo,Lh (.int d)],?_,?_⟩
  .refine⟨_,U,_,_,U,U,(by show(0:Int)<3;decide),U,_,U,cD (λg=>?_)<|λg=>⟨_,U,_,_,U,U,(by show(0:Int)<3;decide),U,_,U,cD (λg2=>?_)<|λg2=>?_⟩⟩
   .let z:=GN (w0 / 3) (show(8:Int)≠0 by decide);let y:=GO (w0 / 3) (show(0:Int)<8 by decide);exact⟨_,U,_,_,U,U,⟨⋯,⋯⟩,_,_,U,U,(by show(0:Int)<8;decide),U,0,_,z,Int.lt_of_lt_of_le y ⋯,(λ_=>⟨U,∅⟩),U⟩
   .let z:=GN (w0 / 3) (show(7:Int)≠0 by decide);let y:=GO (w0 / 3) (show(0:Int)<7 by decide);exact⟨_,U,_,_,U,U,⟨⋯,⋯⟩,_,_,U,U,(by show(0:Int)<7;decide),U,lo,_,z,Int.lt_of_lt_of_le y ⋯,(λe=>Lr (by rw[e];rfl) g),U⟩
   .exact⟨U,lo,w0,N,L,(λe=>Lr (by rw[e];rfl) g),U⟩
  clear lo;rintro a3 I ⟨u,lo,d,z,y,z2,rfl⟩;subst u;calc⟨_,U,.inl ⟨U,_,SqL.of D⟩,_,U,_,U,_,U,_,_,U,U,bA,λt ht=>?_⟩;let B:=ai ht<|.tup [V.int lo,V.int (lo+d)];let et:upd I t (.tup [V.int lo,V.int (lo+d)]) t=Lh (.tup [V.int lo,V.int (lo+d)]):=ae;generalize upd I t (.tup [V.int lo,V.int (lo+d)])=H4 at B et⊢;let x:=B _ _ D;let a6:=C.length;let st:cG H4 (upd H4 l<|.lst<|o++[.ref t]):=bK x;refine⟨l,_,_,U,U,x,az ∅,(r.trans B).upd S,o++[.ref t],bs++[(lo,lo+d)],_,_,_,ae,((C.mono B.tups).mono st).snoc<|st _ _ et,by rw[dy,m];rfl,λk b e=>?_,U⟩;by_cases hk:k<⇑bs
  .rw[ji hk]at e;exact T k b e
  .let a1:k=⇑bs:=by
    let:=(HG.mp e).1;rw[dy,iU]at this;lia
   subst a1;rw[kq (xX _),CM]at e;cases e;refine⟨by show lo<=lo+d;lia,by show lo+d-lo<((10^40:Nat):Int);generalize ((10^40:Nat):Int)=M at *;lia,λh=>?_⟩;rw[m,a0]at h;let(h1,h2):=z2 h;exact⟨h1,by show lo+d<=7;lia⟩
 .let(r,o,bs,c2,Z,G,D,C,m,T,rfl):=h;let m:⇑bs=(1+c.getD 0 0%3).toNat:=m;calc⟨_,U,q l o bs p r S D C ⟨∅,T⟩⟩
theorem Fx(F:Fun K "_law_pools" "_law_pools" Y63 f fd) (bl:Bl K mg Y)(cg:Callee P w K mg base 1 "_law_at" ["script","k"] (fb K Y)):aK P w K mg base CX0 2 f fd ["script","bounds"] (gR K Y):=by
 refine F.okA Z63 λb0 A a5 s H vs Q E hr h=>?_
 let(a,v,ns,ys,bs,rfl,hS,X,hP,h1,h3,a2,q):=h
 refine⟨_,(aC (aG (i:=2) Z63.nd U (Or.inl U)<|aH ba (aW<|aa ak<|aa ak<|aa ak af) (aD dI (au aw U bl.len_ Lg<|aa (pv 1) af) ak)<|λ_ _=>U)
  (aq (aG (i:=3) Z63.nd U (Or.inl U)<|aW af)
  (aq (bp IG.never U (bB U bl.range_<|aa (au aw U bl.len_ Lg<|aa (pv 1) af) af) (aE (i:=4) Z63.nd U<|Or.inr U)
  (aC (aG (i:=5) Z63.nd U (Or.inr U)<|aH aO (aH ba (pv 1) (pv 4)<|λ_ _=>U) ak<|λ_ _=>U)
  (aC (aG (i:=6) Z63.nd U (Or.inr U)<|aD bE (aD dI (aH aO (aH ba (pv 1) (pv 4)<|λ_ _=>U) ak<|λ_ _=>U)<|pv 5) ak)
  (aj<|bg<|fe PySem.F.plainAttrs_list PySem.F.slot_list_append PySem.F.type_list_append bG (pv 3)<|aa (cq (bB U bl.range_<|aa (pv 2) af) (aV (N:=["j","script","k","low","width"]) (fr:=[0,4,5,6]) (cl:=[("width",↥s+1+1+1+1),("script",↥s+1),("low",↥s+1+1+1),("k",↥s+1+1)]) U U (~~~0) (~~~0) U (~~~0) U U U (fu.mpr ⟨U,fu.mpr ⟨U,fu.mpr ⟨U,fu.mpr ⟨U,ja _⟩⟩⟩⟩) U) U (λ_ _ _ _=>bC)<|λ_ _ _ _=>(aD bE (pv 3)<|aD bR (aL cg hr U<|aa (pv 1)<|aa (aD bE (aD bE ak<|aD fW ak<|pv 2)<|pv 0) af)<|pv 4)) af))))
  (aj<|ax<|pv 3)))),?_⟩
 show(let r3:TS:=_;let r2:TS:=aR _ r3;let r1:TS:=aR _ r2;bX _ r1 _ _ _);intro _ _ _;let a1:=⇑hP;refine(let m:St->Hp->Prop:=λg n=>ar H n/\g=[↑a,↑v,Lh<|.int (tn3 ⇑bs:Int),Li,Li,Li,Li];⟨m,?_,?_⟩)
 .refine⟨(by show 3<=HU;decide),λl O=>⟨_,U,v,_,U,.inl<|SqL.of<|ai O _ _ _ X,_,_,U,U,l,_,_,_,U,U,SqL.of ae,?_,ai O _,U⟩⟩;rw[a1];unfold tn3;rcases(show ⇑bs=1\/⇑bs=2\/⇑bs=3 by lia)with e|e|e <;> rw[e] <;> rfl
 rintro a8 H1 ⟨s1,rfl⟩;refine⟨(by show 0<=HU;decide),λl O=>?_⟩;let s2:=ai O<|.lst [];let el:upd H1 l (.lst []) l=Lh (.lst<|([]:Ly HR).map V.ref):=ae;generalize upd H1 l (.lst [])=H2 at s2 el⊢;let T:=s1.trans s2;let a9:tn3 ⇑bs<=8:=by unfold tn3;split <;> (try split) <;> lia
 refine⟨_,U,v,_,U,.inl<|SqL.of<|T _ _ X,_,U,∅,∅,(let m:Nat->St->Hp->Prop:=λi σ n=>ar H n/\∃(B:Ly HR)(c:Ly (Ly Int))(c4 c5 c6:Option V),n l=Lh (.lst<|B.map V.ref)/\(∀r∈B,r≠l)/\MLs n B c/\⇑c=i/\(∀(k:Nat)(d:Ly Int)(b:Int×Int),c[k]?=Lh d->bs[k]?=Lh b->⇑d=tn3 ⇑bs/\∀x∈d,b.1<=x/\x<=b.2)/\σ=[↑a,↑v,Lh<|.int (tn3 ⇑bs:Int),↑l,c4,c5,c6];dC m ⟨T,[],[],_,_,_,el,(λr hr=>by cases hr),⟨U,λj ms e=>by simp at e⟩,U,(λk d b e=>by simp at e),U⟩ (λi σ n hi h=>?_) (λσ n h=>?_))⟩
 .let(u,B,c,c4,c5,c6,R,W,Z,I,G,rfl):=h;let hi:i<⇑ys:=∅
  let(y,ey):∃y,ys[i]?=Lh y:=⟨_,HF hi⟩;let(p,t,ep,rfl,ht):=hP.get ey;let hp:=a2 p<|HH ep;calc(let m:St->Hp->Prop:=λg H3=>H3=n/\g=[↑a,↑v,Lh<|.int (tn3 ⇑bs:Int),↑l,Lh<|.int<|0+(i:Int),Lh<|.int p.1,c6];⟨m,⟨_,U,_,U,v,_,_,_,U,U,SqL.of<|u _ _ X,lO ey,t,_,_,_,U,U,SqT.of<|u _ _ ht,U,U,U⟩,?_⟩);rintro a7 H3 ⟨e_,rfl⟩;subst e_;calc(let m:St->Hp->Prop:=λg H4=>H4=H3/\g=[↑a,↑v,Lh<|.int (tn3 ⇑bs:Int),↑l,Lh<|.int<|0+(i:Int),Lh<|.int p.1,Lh (.int<|p.2-p.1+1)];⟨m,⟨_,U,_,U,v,_,_,_,U,U,SqL.of<|u _ _ X,lO ey,t,_,_,_,U,U,SqT.of<|u _ _ ht,U,_,U,_,_,U,U,_,_,U,U,U,U⟩,?_⟩);rintro a6 H4 ⟨e_,rfl⟩;subst e_;let hw:(0:Int)<p.2-p.1+1:=∅
  refine⟨_,U,.inl ⟨U,_,SqL.of R⟩,_,U,_,U,∅,∅,(let m:HR->Nat->Ly V->Hp->Prop:=λD j zs H5=>ar H4 H5/\H5 D=Lh (.lst zs)/\∃d:Ly Int,zs=d.map V.int/\⇑d=j/\∀x∈d,p.1<=x/\x<=p.2;bP m (λD M=>⟨ai M _,ae,[],U,U,(λx C=>by cases C)⟩) (λD j zs H5 M hj h=>?_) (λD zs H5 M h=>?_))⟩
  .let(L,eD,d,rfl,o,J):=h;rw[E2]at hj;calc⟨_,U,_,U,_,U,_,_,U,U,.inl ⟨⋯,⋯⟩,_,_,U,U,_,U,_,_,U,U,a,ns,_,U,(u.trans L).seq hS,∅,_,U,_,_,U,U,hw,_,_,U,U,?_⟩;let m0:=GN (ns.getD (7+4*(0+(i:Int))+(0+(j:Int))).toNat 0)<|Int.ne_of_gt hw;let m1:=GO (ns.getD (7+4*(0+(i:Int))+(0+(j:Int))).toNat 0) hw;refine cA.mk ∅ eD (az (by rw[bc];lia)) ⟨L.upd M,ae,d++[_],by rw[dW];rfl,by rw[dy,o];rfl,λx C=>?_⟩;rcases hZ.mp C with C|C
   .exact J x C
   .rw[gZ.mp C];lia
  .let(L,eD,d,rfl,o,J):=h;rw[E2]at o;let a4:=L _ _ R;let nD:D≠l:=λz=>by rw[z,R]at M;cases M
   let E9:=Z.1;let(m1,m2):=qL (zs:=B.map V.ref++[.ref D]) Z W L eD nD;refine⟨l,_,_,U,U,a4,az (by rw[bc];lia),(u.trans L).upd<|s1.free O,B++[D],c++[d],_,_,_,by rw[dW];exact ae,m2,m1,by rw[dy,I];rfl,λk a0 b S e2=>?_,U⟩;by_cases hk:k<⇑c
   .rw[ji hk]at S;exact G k a0 b S e2
   .let a3:k=⇑c:=by
     have:=(HG.mp S).1;rw[dy,iU]at this;lia
    subst a3;rw[kq (xX _),CM]at S;cases S;rw[I,ep]at e2;cases e2;exact⟨o,J⟩
 .let(u,B,c,c4,c5,c6,R,W,Z,I,G,rfl):=h;calc⟨_,U,q l B c n u R Z ⟨∅,G⟩⟩
theorem Fy(F:Fun K "_law_row" "_law_row" Y65 f fd) (bl:Bl K mg Y)(qP:Callee P w K mg base 1 "_law_spans" ["kind","one","two","pair"] (gO K Y)):aK P w K mg base CX0 2 f fd ["bounds","pools","number","outs"] (jT K Y):=by
 refine F.okA Z65 λe1 A c0 s H vs Q E hr h=>?_
 let(G,L,D,n,ys,bs,as,X,a6,rfl,hb,hP,b0,hM,hI,b3,b4,e0,q):=h
 refine⟨_,(aq (aG (i:=4) Z65.nd U (Or.inl U)<|aW af)
  (aq (bp IG.never U (bB U bl.range_<|aa (au aw U bl.len_ Lg<|aa (pv 0) af) af) (aE (i:=5) Z65.nd U<|Or.inl U)
  (aC (aG (i:=6) Z65.nd U (Or.inl U)<|aH ba (pv 1) (pv 5)<|λ_ _=>U)
  (aC (aG (i:=7) Z65.nd U (Or.inl U)<|aH ba (pv 6) (aD bR (pv 2)<|au aw U bl.len_ Lg<|aa (pv 6) af)<|λ_ _=>U)
  (aC (aG (i:=2) Z65.nd U (Or.inl U)<|aD dJ (pv 2)<|au aw U bl.len_ Lg<|aa (pv 6) af)
  (aC (aG (i:=8) Z65.nd U (Or.inl U)<|aH ba (pv 6) (aD bR (pv 2)<|au aw U bl.len_ Lg<|aa (pv 6) af)<|λ_ _=>U)
  (aC (aG (i:=2) Z65.nd U (Or.inl U)<|aD dJ (pv 2)<|au aw U bl.len_ Lg<|aa (pv 6) af)
  (aq (bg<|fe PySem.F.plainAttrs_list PySem.F.slot_list_append PySem.F.type_list_append bG (pv 4)<|aa (aL qP hr U<|aa (aD bR (pv 2) ak)<|aa (au (ly U) U bl.min_ PyProof.Rows.boot_min<|aa (pv 7)<|aa (pv 8) af)<|aa (au (lu U) U bl.max_ PyProof.Rows.boot_max<|aa (pv 7)<|aa (pv 8) af)<|aa (aH ba (pv 0) (pv 5)<|λ_ _=>U) af) af)
  (aj<|aG (i:=2) Z65.nd U (Or.inl U)<|aD dJ (pv 2) ak))))))))
  (aj<|ax<|bq<|aa (pv 4)<|aa (aH ba (pv 3) (aD bR (pv 2)<|au aw U bl.len_ Lg<|aa (pv 3) af)<|λ_ _=>U) af))),?_⟩
 show(let r2:TS:=_;let r1:TS:=aR _ r2;aR _ r1 _ _ _);intro _ _;let d1:=⇑hP;let d5:=hI.len;refine⟨(by show 0<=HU;decide),λm M=>?_⟩;let s2:=ai M<|.lst [];let a5:upd H m (.lst []) m=Lh (.lst []):=ae;generalize upd H m (.lst [])=H2 at s2 a5⊢;refine⟨_,U,G,_,U,.inl<|SqL.of<|s2 _ _ hb,_,U,∅,∅,(let I_:Nat->St->Hp->Prop:=λi σ S=>ar H S/\∃(I:Ly V)(c:Ly Prs)(n:Int)(c5 c6 c7 R:Option V),S m=Lh (.lst I)/\CL (Fr H m) S I c/\⇑c=i/\(∀(k:Nat)(J:Prs)(b:Int×Int)(pl:Ly Int),c[k]?=Lh J->bs[k]?=Lh b->X[k]?=Lh pl->EdQ b pl J/\J.length<=2)/\σ=[↑G,↑L,Lh<|.int n,↑D,↑m,c5,c6,c7,R];dC I_ ⟨s2,[],[],n,_,_,_,_,a5,aS.nil,U,(λk J b pl e=>by simp at e),U⟩ (λi σ S hi h=>?_) (λσ S h=>?_))⟩
 .let(v,I,c,n,c5,c6,c7,R,W,hz,hl,N,rfl):=h;let hi:i<⇑ys:=∅
  let(y,ey):∃y,ys[i]?=Lh y:=⟨_,HF hi⟩;let(p,t,ep,rfl,ht):=hP.get ey;let(pl,O):∃pl,X[i]?=Lh pl:=⟨_,HF ∅⟩;let(o,b9,j):=hM.2 i pl O;let(d3,DD):=hI.ok i pl p O ep;let d2:=kM ⇑bs;let j:=v _ _ j;let d4:⇑(pl.map V.int)=⇑pl:=bc _;let C:(0:Int)<((⇑(pl.map V.int):Nat):Int):=∅
  let a3:((⇑(pl.map V.int):Nat):Int)<1073741824:=∅
  calc⟨λd g=>g=S/\d=[↑G,↑L,Lh<|.int n,↑D,↑m,Lh<|.int<|0+(i:Int),↑o,c7,R],⟨_,U,_,U,L,_,_,_,U,U,SqL.of<|v _ _ b0,lO<|vz b9,U,U⟩,?_⟩;rintro d0 H3 ⟨B,rfl⟩;subst B;let(one,o1,a0):=yK (pl:=pl) ∅ n;calc⟨λd g=>g=H3/\d=[↑G,↑L,Lh<|.int n,↑D,↑m,Lh<|.int<|0+(i:Int),↑o,Lh<|.int one,R],⟨_,U,_,U,_,U,o,_,U,.inl<|SqL.of j,_,_,U,U,C,o,_,_,_,U,U,SqL.of j,a0,U,U⟩,?_⟩;rintro c4 H4 ⟨B,rfl⟩;subst B;calc⟨λd g=>g=H4/\∃n:Int,d=[↑G,↑L,Lh<|.int n,↑D,↑m,Lh<|.int<|0+(i:Int),↑o,Lh<|.int one,R],⟨_,U,_,U,o,_,U,.inl<|SqL.of j,_,_,U,U,⟨C,a3⟩,U,_,U⟩,?_⟩;clear a0 n;rintro c3 H5 ⟨B,n,rfl⟩;subst B;let(two,o2,Z):=yK (pl:=pl) ∅ n;calc⟨λd g=>g=H5/\d=[↑G,↑L,Lh<|.int n,↑D,↑m,Lh<|.int<|0+(i:Int),↑o,Lh<|.int one,Lh (.int two)],⟨_,U,_,U,_,U,o,_,U,.inl<|SqL.of j,_,_,U,U,C,o,_,_,_,U,U,SqL.of j,Z,U,U⟩,?_⟩;rintro c2 H6 ⟨B,rfl⟩;subst B;calc⟨λd g=>g=H6/\∃n:Int,d=[↑G,↑L,Lh<|.int n,↑D,↑m,Lh<|.int<|0+(i:Int),↑o,Lh<|.int one,Lh (.int two)],⟨_,U,_,U,o,_,U,.inl<|SqL.of j,_,_,U,U,⟨C,a3⟩,U,_,U⟩,?_⟩;clear Z n;rintro c1 H7 ⟨B,n,rfl⟩;subst B;let(a1,a2):=DD one o1;let(b1,b2):=DD two o2;refine⟨_,U,.inl ⟨U,_,SqL.of W⟩,_,U,_,_,U,U,(by show(0:Int)<4;decide),_,U,_,U,_,_,U,_,U,_,U,_,_,U,_,U,_,U,G,_,_,_,U,U,SqL.of<|v _ _ hb,lO ey,_,_,_,t,p,U,v _ _ ht,?_,?_,?_,λl J H8 s8 DE hE b5=>?_⟩
  .split <;> lia
  .split <;> split <;> lia
  .split <;> lia
  let a4:=s8 _ _ W;let n4:H7 l=none:=DE.1;let nl:l≠m:=λz=>by rw[z,W]at n4;cases n4
  let a9:CL (Fr H m) H8 (I++[.ref l]) (c++[J]):=aS.snoc (hz.same s8) ⟨⟨v.free n4,nl⟩,DE.2⟩;let Ce:(if two<one then two else one)∈pl:=by split <;> assumption
  let Fz:(if two>one then two else one)∈pl:=by split <;> assumption
  refine⟨m,_,_,U,U,a4,az (by rw[hz.1];lia),_,U,_,_,U,U,⟨⋯,⋯⟩,(v.trans s8).upd M,I++[.ref l],c++[J],_,_,_,_,_,ae,a9.updN Fr.out a4,by rw[dy,hl];rfl,λk a7 b' a8 T f2 f3=>?_,U⟩;by_cases hj:k<⇑c
  .rw[ji hj]at T;exact N k a7 b' a8 T f2 f3
  .let b6:k=⇑c:=by have:=(HG.mp T).1;simp at this;lia
   subst b6;simp at T;subst T;rw[hl,ep]at f2;cases f2;rw[hl,O]at f3;cases f3;exact⟨hE pl Ce Fz,b5⟩
 .let(v,I,c,n,c5,c6,c7,R,W,hz,hl,N,rfl):=h;let(x,x1,ix):=yK (pl:=a6) b4 n;let DF:=v _ _ b3;refine⟨_,U,_,U,_,U,_,U,D,_,U,.inl<|SqL.of DF,_,_,U,U,(by rw[bc];lia),D,_,_,_,U,U,SqL.of DF,ix,bA,λr hr=>?_⟩;let u:=ai hr<|.tup [.ref m,.int x];calc q r (c,x) _ (v.trans u) ⟨m,I,ae,M,u _ _ W,(hz.same u).wk λa h=>h.1⟩ ⟨by show ⇑c=⇑bs;lia,N,x1⟩
theorem FA(F:Fun K "_law_fitting" "_law_fitting" Y56 f fd) (bl:Bl K mg Y)(sP:Callee P w K mg base 1 "_law_held" ["spans","code"] (iN K Y)):aK P w K mg base CX0 2 f fd ["rows","codes"] (dP K Y):=by
 refine F.okA Z56 λb5 A a9 s H vs Q E hr h=>?_
 let(y,cl,rx,a,d,rfl,J,hR,oi,a8,h4,hw,q):=h
 refine⟨_,(aq (aG (i:=2) Z56.nd U (Or.inl U)<|aW af)
  (aq (bp IG.never U (bB U bl.range_<|aa (au aw U bl.len_ Lg<|aa (pv 0) af) af) (aE (i:=3) Z56.nd U<|Or.inl U)
  (aC (aG (i:=4) Z56.nd U (Or.inr U)<|aH aO (aH ba (pv 0) (pv 3)<|λ_ _=>U) ak<|λ_ _=>U)
  (aC (eX (i:=5) Z56.nd U (Or.inl U) (bB U bl.range_<|aa (au aw U bl.len_ Lg<|aa (pv 1) af) af) (aV (N:=["k","codes","parts"]) (fr:=[1,4]) (cl:=[("parts",↥s+1+1),("codes",↥s+1)]) U U (~~~0) (~~~0) U (~~~0) U U U (fu.mpr ⟨U,fu.mpr ⟨U,ja _⟩⟩) U) U (λ_ _ _ _=>(gF<|cy<|aL sP hr U<|aa (aH (cP (K:=K) U) (pv 2) (pv 0)<|λ_ _=>U)<|aa (aH (cP (K:=K) U) (pv 1) (pv 0)<|λ_ _=>U) af))<|λ_ _ _ _=>(pv 0))
  (aj (aP (aI cb (au aw U bl.len_ Lg<|aa (pv 5) af) (au aw U bl.len_ Lg<|aa (pv 1) af)<|aJ _)
  (aj<|bg<|fe PySem.F.plainAttrs_list PySem.F.slot_list_append PySem.F.type_list_append bG (pv 2)<|aa (pv 3) af)
  aF)))))
  (aj<|ax<|pv 2))),?_⟩
 show(let r2:TS:=_;let r1:TS:=aR _ r2;aR _ r1 _ _ _);intro _ _;let a0:⇑rx=⇑a:=hR.1;let l:⇑(d.map V.int)=⇑d:=bc _;refine⟨(by show 0<=HU;decide),λe u=>?_⟩;let W:=ai u<|.lst<|vN [];let e0:upd H e (.lst<|vN []) e=Lh (.lst<|vN []):=ae;let ee:upd H e (.lst [])=upd H e (.lst<|vN []):=rfl;rw[ee];clear ee;generalize upd H e (.lst<|vN [])=H0 at W e0⊢;refine⟨_,U,y,_,U,.inl<|SqL.of<|W _ _ J,_,U,∅,∅,(let p:Nat->St->Hp->Prop:=λi S x=>ar H x/\∃(c3 c4 R:Option V),x e=Lh (.lst<|vN<|(List.range i).filter<|cQ a d)/\S=[↑y,↑cl,↑e,c3,c4,R];dC p ⟨W,_,_,_,e0,U⟩ (λi S x hi X=>?_) (λS x X=>?_))⟩
 .let(o,c3,c4,R,n,rfl):=X;let a3:i<⇑a:=∅
  let(b,eb):∃b,a[i]?=Lh b:=⟨_,HF a3⟩;let a4:a.getD i ([],0)=b:=by rw[iX,eb];rfl
  let(r,er,ce,cv,g1,_,g2,g3):=hR.2 i b eb;let b4:=hw b<|HH eb;let b3:⇑((List.range i).filter<|cQ a d)<=i:=yW (oM _ _) (by rw[kW];exact xX _);calc(let p:St->Hp->Prop:=λt m=>m=x/\t=[↑y,↑cl,↑e,Lh<|.int<|0+(i:Int),↑ce,R];⟨p,⟨_,U,_,U,y,_,_,_,U,U,SqL.of<|o _ _ J,lO er,r,_,_,_,U,U,SqT.of<|o _ _ g1,U,U,U⟩,?_⟩);rintro b1 H1 ⟨e_,rfl⟩;subst e_;let T:=o _ _ a8;let a5:=o _ _ g2;refine(let p:St->Hp->Prop:=λt m=>ar H1 m/\∃M:HR,m M=Lh (.lst<|vN<|(List.range ⇑d).filter λj=>inP (b.1.getD j [])<|d.getD j 0)/\t=[↑y,↑cl,↑e,Lh<|.int<|0+(i:Int),↑ce,↑M];⟨p,?_,?_⟩)
  .refine⟨_,U,cl,_,U,.inl<|SqL.of T,_,U,∅,∅,(let p:HR->Nat->Ly V->Hp->Prop:=λD j zs m=>ar H1 m/\m D=Lh (.lst zs)/\zs=vN ((List.range j).filter λj=>inP (b.1.getD j [])<|d.getD j 0)/\⇑zs<=j;bP p (λD O=>⟨ai O _,ae,U,yX _⟩) (λD j zs m O hj h=>?_) (λD zs m O h=>?_))⟩
   .let(s2,B,rfl,hz):=h;rw[l,E2]at hj;let(v,L):∃v,b.1[j]?=Lh v:=⟨_,HF ∅⟩;let(c,ec):∃c,d[j]?=Lh c:=⟨_,HF hj⟩;let d1:b.1.getD j []=v:=by rw[iX,L];rfl
    let d2:d.getD j 0=c:=by rw[iX,ec];rfl
    let(pa,a6,_,pv,a2,a1):=g3.2 j v L;let C:=o.trans s2;rw[show(0:Int)+(j:Int)=(j:Int) by lia];calc⟨_,U,_,U,ce,_,_,_,U,U,SqL.of<|s2 _ _ a5,bh a6,_,U,_,U,cl,_,_,_,U,U,SqL.of<|s2 _ _ T,bh<|get_map ec,pa,pv,v,c,U,SqL.of<|C _ _ a2,PL.mono a1 C.tups,_,U,?_⟩;let k:((List.range<|j+1).filter λj=>inP (b.1.getD j [])<|d.getD j 0)=((List.range j).filter λj=>inP (b.1.getD j [])<|d.getD j 0)++(if inP v c=Lj then[j] else[]):=by
     rw[mu,lz,xu,d1,d2];rfl
    refine cD (λg=>?_)<|λg=>?_
    .refine⟨_,U,cA.mk (by rw[l];lia) B (az ∅) ⟨s2.upd O,ae,?_,by rw[dy,iU];lia⟩⟩;rw[k,Lq g];unfold vN;rw[dW];rfl
    .refine dj.mk (zs:=_) (by rw[l];lia) ⟨s2,B,?_,∅⟩;rw[k,Lp g,jk]
   .let(s2,B,rfl,hz):=h;rw[l,E2]at B;exact⟨s2,D,B,U⟩
  rintro b0 m ⟨s2,M,a7,rfl⟩;let G:=o.trans s2;let Cf:=s2 _ _ n;let k:((List.range<|i+1).filter<|cQ a d)=((List.range i).filter<|cQ a d)++(if cQ a d i=Lj then[i] else[]):=by
   rw[mu,lz,xu];rfl
  let I:cQ a d i=(List.range ⇑d).all λj=>inP (b.1.getD j []) (d.getD j 0):=by unfold cQ kH;rw[a4]
  calc⟨_,U,M,_,U,.inl<|SqL.of a7,_,U,cl,_,U,.inl<|SqL.of<|s2 _ _ T,U,_,U,?_⟩;rw[jP,l];refine cD (λg=>?_)<|λg=>?_
  .let g':⇑((List.range ⇑d).filter λj=>inP (b.1.getD j [])<|d.getD j 0)=⇑d:=by
    let:=Lv g;injection this with this;lia
   let Z:cQ a d i=true:=by rw[I];exact all_filter.mp g'
   refine⟨_,U,.inl ⟨U,_,SqL.of Cf⟩,_,U,e,_,_,U,U,Cf,az (by rw[jP];lia),G.upd u,_,_,_,?_,U⟩;rw[ae,k,Lq Z];unfold vN;rw[dW,show(0:Int)+(i:Int)=(i:Int) by lia];rfl
  .let Z:¬ cQ a d i=true:=λz=>g<|Ls (by rw[I]at z;rw[all_filter.mpr z])
   calc⟨G,_,_,_,?_,U⟩;rw[Cf,k,Lp Z,jk]
 .let(o,c3,c4,R,n,rfl):=X;rw[a0,E2]at n;calc⟨_,U,q e x o u n⟩
theorem FC(F:Fun K "__init__" "Numbers.__init__" Y12 f fd) (bl:Bl K mg Y)(e:cw CX0 P w K mg base 1 "Domain" "__init__" ["self","low","high"] (b7 K Y)):aK P w K mg base CX0 2 f fd ["self","low","high"] (bj K Y):=by
 refine F.okA Z12 λj A a s H k Q E d h=>?_
 let(x,g,lo,hi,rfl,c,i,q):=h
 refine⟨_,(aq (aP (aI pj (pv 1) (pv 2)<|aJ _)
  (aj cz)
  aF)
  (aj<|bg<|fO e bU d U<|aa (pv 0)<|aa (pv 1)<|aa (pv 2) af)),?_⟩
 show(let b:TS:=_;aR _ b _ _ _);intro _;calc⟨_,U,_,U,_,_,U,U,_,U,bY ∅ ⟨_,U,_,U,_,U,x,g,lo,hi,U,c,q⟩⟩
theorem O_4(F:Fun K "__init__" "First.__init__" Y4 f fd) (bl:Bl K mg Y)(e:cw CX0 P w K mg base 1 "Way" "__init__" ["self","called"] (cJ K Y)):aK P w K mg base CX0 2 f fd ["self"] (J0 K Y):=by
 refine F.ok Z4 (λd H Q E h=>?_)<|λi A a s H d Q E g h=>?_
 .let(x,c,rfl,b,q):=h;rfl
 let(x,c,rfl,b,q):=h;calc⟨_,(aj<|bg<|fO e bU g U<|aa (pv 0)<|aa aN af),?_⟩;calc⟨_,U,x,c,_,U,b,q⟩
theorem FD(F:Fun K "__init__" "Only.__init__" Y13 f fd) (bl:Bl K mg Y)(e:cw CX0 P w K mg base 1 "Way" "__init__" ["self","called"] (cR K Y)):aK P w K mg base CX0 2 f fd ["self"] (J8 K Y):=by
 refine F.ok Z13 (λd H Q E h=>?_)<|λi A a s H d Q E g h=>?_
 .let(x,c,rfl,b,q):=h;rfl
 let(x,c,rfl,b,q):=h;calc⟨_,(aj<|bg<|fO e bU g U<|aa (pv 0)<|aa aN af),?_⟩;calc⟨_,U,x,c,_,U,b,q⟩
theorem O_8(F:Fun K "__init__" "Like.__init__" Y8 f fd) (bl:Bl K mg Y)(e:cw CX0 P w K mg base 1 "Way" "__init__" ["self","called"] (cS K Y)):aK P w K mg base CX0 2 f fd ["self"] (J4 K Y):=by
 refine F.ok Z8 (λd H Q E h=>?_)<|λi A a s H d Q E g h=>?_
 .let(x,c,rfl,b,q):=h;rfl
 let(x,c,rfl,b,q):=h;calc⟨_,(aj<|bg<|fO e bU g U<|aa (pv 0)<|aa aN af),?_⟩;calc⟨_,U,x,c,_,U,b,q⟩
theorem FE(F:Fun K "__init__" "Low.__init__" Y10 f fd) (bl:Bl K mg Y)(e:cw CX0 P w K mg base 1 "Way" "__init__" ["self","called"] (dh K Y)):aK P w K mg base CX0 2 f fd ["self"] (J6 K Y):=by
 refine F.ok Z10 (λd H Q E h=>?_)<|λi A a s H d Q E g h=>?_
 .let(x,c,rfl,b,q):=h;rfl
 let(x,c,rfl,b,q):=h;calc⟨_,(aj<|bg<|fO e bU g U<|aa (pv 0)<|aa aN af),?_⟩;calc⟨_,U,x,c,_,U,b,q⟩
theorem O_6(F:Fun K "__init__" "High.__init__" Y6 f fd) (bl:Bl K mg Y)(e:cw CX0 P w K mg base 1 "Way" "__init__" ["self","called"] (cU K Y)):aK P w K mg base CX0 2 f fd ["self"] (J2 K Y):=by
 refine F.ok Z6 (λd H Q E h=>?_)<|λi A a s H d Q E g h=>?_
 .let(x,c,rfl,b,q):=h;rfl
 let(x,c,rfl,b,q):=h;calc⟨_,(aj<|bg<|fO e bU g U<|aa (pv 0)<|aa aN af),?_⟩;calc⟨_,U,x,c,_,U,b,q⟩
theorem FG(F:Fun K "__init__" "Sum.__init__" Y15 f fd) (bl:Bl K mg Y)(e:cw CX0 P w K mg base 1 "Way" "__init__" ["self","called"] (di K Y)):aK P w K mg base CX0 2 f fd ["self"] (J10 K Y):=by
 refine F.ok Z15 (λd H Q E h=>?_)<|λi A a s H d Q E g h=>?_
 .let(x,c,rfl,b,q):=h;rfl
 let(x,c,rfl,b,q):=h;calc⟨_,(aj<|bg<|fO e bU g U<|aa (pv 0)<|aa aN af),?_⟩;calc⟨_,U,x,c,_,U,b,q⟩
theorem O_2(F:Fun K "has_code" "Domain.has_code" Y2 f fd) (bl:Bl K mg Y)(e:Callee P w K mg base 1 "is_whole" ["value"] (fS K Y)):aK P w K mg base CX0 2 f fd ["self","value"] (b8 K Y):=by
 refine F.okA Z2 λn A c s H o Q E g h=>?_
 let(a,b,i,rfl,(p,fs,d,j,k,_),m,l,q):=h;calc⟨_,(aj<|ax<|gD (aL e g U<|aa (pv 1) af)<|jF<|mM dX dX (cc (pv 0) U) (pv 1)<|cc (pv 0) U),?_⟩;calc⟨_,U,i,U,_,U,fX ?_⟩;calc⟨_,U,a,_,_,_,_,U,d,bl.k_Numbers,bl.na_Numbers_low,j,_,U,_,_,U,U,_,U,dZ m ?_⟩;calc⟨_,U,a,_,_,_,_,U,d,bl.k_Numbers,bl.na_Numbers_high,k,_,_,U,U,?_⟩;show Q (.bl<|Lm<|i<=b.2) H;rw[Ls l];calc q
theorem O_3(F:Fun K "has_code" "Domain.has_code" Y3 f fd) (bl:Bl K mg Y)(e:Callee P w K mg base 1 "is_whole" ["value"] (fS K Y)):aK P w K mg base CX0 2 f fd ["self","value"] (cn K Y):=by
 refine F.okA Z3 λn A c s H o Q E g h=>?_
 let(a,b,i,rfl,(p,fs,d,j,k,_),m,l,q):=h;calc⟨_,(aj<|ax<|gD (aL e g U<|aa (pv 1) af)<|jF<|mM dX dX (cc (pv 0) U) (pv 1)<|cc (pv 0) U),?_⟩;calc⟨_,U,i,U,_,U,fX ?_⟩;calc⟨_,U,a,_,_,_,_,U,d,bl.k_Words,bl.na_Words_low,j,_,U,_,_,U,U,_,U,dZ m ?_⟩;calc⟨_,U,a,_,_,_,_,U,d,bl.k_Words,bl.na_Words_high,k,_,_,U,U,?_⟩;show Q (.bl<|Lm<|i<=b.2) H;rw[Ls l];calc q
theorem FH(F:Fun K "verdict" "Way.verdict" Y24 f fd) (bl:Bl K mg Y)(t:bD CX0 P w K mg base 1 Y.e "chosen" ["self","codes","outcome"] (J1 K Y)):aK P w K mg base CX0 2 f fd ["self","codes","outcome"] (J12 K Y):=by
 refine F.ok Z24 (λp H Q E h=>?_)<|λy A j s H p Q E u h=>?_
 .let(x,c,o,a,b,rfl,(m,z,g),k,d,i,l,q):=h;rfl
 let(x,c,o,a,b,rfl,(m,z,g),k,d,i,l,q):=h
 refine⟨_,(aq (aP (bQ<|dM (pv 1) (by intro _;rfl))
  (aj<|ax<|eF (v:=.ref Y.o) U bl.NONE_ U)
  aF)
  (aj<|ax<|pK t bU bl.k_First u (pv 0)<|aa (pv 1)<|aa (pv 2) af)),?_⟩
 show(let r:TS:=_;aR _ r _ _ _);intro _;calc⟨_,U,!(a.map V.int).isEmpty,.inl ⟨_,i,U⟩,?_⟩;cases a with
 |nil=>exact fX (q _ _ (ar.refl _)<|.inr bl.q_NONE)
 |cons n a=>calc bV ⟨_,U,x,_,_,U,g,U,_,U,_,U,x,c,o,n,a,b,U,⟨m,z,g⟩,k,d,i,CP l,q⟩
theorem FI(F:Fun K "verdict" "Way.verdict" Y28 f fd) (bl:Bl K mg Y)(r:bD CX0 P w K mg base 1 Y.f "chosen" ["self","codes","outcome"] (J9 K Y)):aK P w K mg base CX0 2 f fd ["self","codes","outcome"] (J16 K Y):=by
 refine F.ok Z28 (λm H Q E h=>?_)<|λu A i s H m Q E t h=>?_
 .let(x,c,o,a,b,rfl,(l,z,e),j,d,g,k,q):=h;rfl
 let(x,c,o,a,b,rfl,(l,z,e),j,d,g,k,q):=h
 refine⟨_,(aq (aP (bQ<|dM (pv 1) (by intro _;rfl))
  (aj<|ax<|eF (v:=.ref Y.o) U bl.NONE_ U)
  aF)
  (aj<|ax<|pK r bU bl.k_Only t (pv 0)<|aa (pv 1)<|aa (pv 2) af)),?_⟩
 show(let p:TS:=_;aR _ p _ _ _);intro _;calc⟨_,U,!(a.map V.int).isEmpty,.inl ⟨_,g,U⟩,?_⟩;cases a with
 |nil=>exact fX (q _ _ (ar.refl _)<|.inr bl.q_NONE)
 |cons n a=>calc bV ⟨_,U,x,_,_,U,e,U,_,U,_,U,x,c,o,n,a,b,U,⟨l,z,e⟩,j,d,g,CP k,q⟩
theorem FJ(F:Fun K "verdict" "Way.verdict" Y26 f fd) (bl:Bl K mg Y)(t:bD CX0 P w K mg base 1 Y.g "chosen" ["self","codes","outcome"] (J5 K Y)):aK P w K mg base CX0 2 f fd ["self","codes","outcome"] (J14 K Y):=by
 refine F.ok Z26 (λp H Q E h=>?_)<|λy A j s H p Q E u h=>?_
 .let(x,c,o,a,b,rfl,(m,z,e),k,d,i,l,q):=h;rfl
 let(x,c,o,a,b,rfl,(m,z,e),k,d,i,l,q):=h
 refine⟨_,(aq (aP (bQ<|dM (pv 1) (by intro _;rfl))
  (aj<|ax<|eF (v:=.ref Y.o) U bl.NONE_ U)
  aF)
  (aj<|ax<|pK t bU bl.k_Like u (pv 0)<|aa (pv 1)<|aa (pv 2) af)),?_⟩
 show(let r:TS:=_;aR _ r _ _ _);intro _;calc⟨_,U,!(a.map V.int).isEmpty,.inl ⟨_,i,U⟩,?_⟩;cases a with
 |nil=>exact fX (q _ _ (ar.refl _)<|.inr bl.q_NONE)
 |cons n a=>calc bV ⟨_,U,x,_,_,U,e,U,_,U,_,U,x,c,o,n,a,b,U,⟨m,z,e⟩,k,d,i,CP l,q⟩
theorem FK(F:Fun K "verdict" "Way.verdict" Y27 f fd) (bl:Bl K mg Y)(r:bD CX0 P w K mg base 1 Y.h "chosen" ["self","codes","outcome"] (J7 K Y)):aK P w K mg base CX0 2 f fd ["self","codes","outcome"] (J15 K Y):=by
 refine F.ok Z27 (λm H Q E h=>?_)<|λu A i s H m Q E t h=>?_
 .let(x,c,o,a,b,rfl,(l,z,e),j,d,g,k,q):=h;rfl
 let(x,c,o,a,b,rfl,(l,z,e),j,d,g,k,q):=h
 refine⟨_,(aq (aP (bQ<|dM (pv 1) (by intro _;rfl))
  (aj<|ax<|eF (v:=.ref Y.o) U bl.NONE_ U)
  aF)
  (aj<|ax<|pK r bU bl.k_Low t (pv 0)<|aa (pv 1)<|aa (pv 2) af)),?_⟩
 show(let p:TS:=_;aR _ p _ _ _);intro _;calc⟨_,U,!(a.map V.int).isEmpty,.inl ⟨_,g,U⟩,?_⟩;cases a with
 |nil=>exact fX (q _ _ (ar.refl _)<|.inr bl.q_NONE)
 |cons n a=>calc bV ⟨_,U,x,_,_,U,e,U,_,U,_,U,x,c,o,n,a,b,U,⟨l,z,e⟩,j,d,g,CP k,q⟩
theorem FL(F:Fun K "verdict" "Way.verdict" Y25 f fd) (bl:Bl K mg Y)(t:bD CX0 P w K mg base 1 Y.i "chosen" ["self","codes","outcome"] (J3 K Y)):aK P w K mg base CX0 2 f fd ["self","codes","outcome"] (J13 K Y):=by
 refine F.ok Z25 (λp H Q E h=>?_)<|λy A j s H p Q E u h=>?_
 .let(x,c,o,a,b,rfl,(m,z,e),k,d,g,l,q):=h;rfl
 let(x,c,o,a,b,rfl,(m,z,e),k,d,g,l,q):=h
 refine⟨_,(aq (aP (bQ<|dM (pv 1) (by intro _;rfl))
  (aj<|ax<|eF (v:=.ref Y.o) U bl.NONE_ U)
  aF)
  (aj<|ax<|pK t bU bl.k_High u (pv 0)<|aa (pv 1)<|aa (pv 2) af)),?_⟩
 show(let r:TS:=_;aR _ r _ _ _);intro _;calc⟨_,U,!(a.map V.int).isEmpty,.inl ⟨_,g,U⟩,?_⟩;cases a with
 |nil=>exact fX (q _ _ (ar.refl _)<|.inr bl.q_NONE)
 |cons n a=>calc bV ⟨_,U,x,_,_,U,e,U,_,U,_,U,x,c,o,n,a,b,U,⟨m,z,e⟩,k,d,g,CP l,q⟩
theorem FN(F:Fun K "verdict" "Way.verdict" Y29 f fd) (bl:Bl K mg Y)(t:bD CX0 P w K mg base 1 Y.j "chosen" ["self","codes","outcome"] (J11 K Y)):aK P w K mg base CX0 2 f fd ["self","codes","outcome"] (J17 K Y):=by
 refine F.ok Z29 (λp H Q E h=>?_)<|λy A i s H p Q E u h=>?_
 .let(x,c,o,a,b,rfl,(m,z,e),k,d,g,l,q):=h;rfl
 let(x,c,o,a,b,rfl,(m,z,e),k,d,g,l,q):=h
 refine⟨_,(aq (aP (bQ<|dM (pv 1) (by intro _;rfl))
  (aj<|ax<|eF (v:=.ref Y.o) U bl.NONE_ U)
  aF)
  (aj<|ax<|pK t bU bl.k_Sum u (pv 0)<|aa (pv 1)<|aa (pv 2) af)),?_⟩
 show(let r:TS:=_;aR _ r _ _ _);intro _;calc⟨_,U,!(a.map V.int).isEmpty,.inl ⟨_,g,U⟩,?_⟩;cases a with
 |nil=>exact fX (q _ _ (ar.refl _)<|.inr bl.q_NONE)
 |cons n a=>calc bV ⟨_,U,x,_,_,U,e,U,_,U,_,U,x,c,o,n,a,b,U,⟨m,z,e⟩,k,d,g,CP l,q⟩
theorem FO(F:Fun K "grain" "grain" Y41 f fd) (bl:Bl K mg Y)(gi:Callee P w K mg base 2 "cut_columns" ["bounds","marks"] (dO K Y)):aK P w K mg base CX0 3 f fd ["bounds","marks"] (og K Y):=by
 refine F.okA Z41 λa3 A G s H vs Q E o h=>?_
 let(a,b,O,ps,as,c,rfl,ha,hP,hb,hM,hok,q):=h
 refine⟨_,(aq (aG (i:=2) Z41.nd U (Or.inl U) ak)
  (aq (bp IG.never U (aQ<|aL gi o U<|aa (pv 0)<|aa (pv 1) af) (aE (i:=3) Z41.nd U<|Or.inl U)
  (aj<|wZ (i:=2) Z41.nd U (Or.inl U) (au aw U bl.len_ Lg<|aa (pv 3) af) BN))
  (aj<|ax<|pv 2))),?_⟩
 show(let T:TS:=_;let W:TS:=aR _ T;aR _ W _ _ _);intro _ _;calc⟨_,U,_,U,a,b,O,ps,as,c,U,ha,hP,hb,hM,hok,λl xs N D S L a2 C I=>?_⟩;let(a1,a0,x):=hok;let z:⇑xs=⇑ps:=by rw[I.1,jE];lia
 refine⟨l,U,⟨_,SqL.of L⟩,(let I_:Nat->St->Hp->Prop:=λi d k=>k=N/\∃v:Option V,d=[↑a,↑b,Lh<|.int ((gr ps c i:Nat):Int),v];bu (xs:=xs) I_ ⟨U,Li,U⟩ (λi d k _ h=>by rw[h.1];exact SqL.of L) (λi y d k e h=>?_) (λd k h=>?_))⟩
 .let(u,v,rfl):=h;rw[u];let(r,n,rfl,g,R,o,X):=aS.get I e;let hi:i<⇑xs:=(HG.mp e).1;let(p,t):∃p,ps[i]?=Lh p:=⟨_,HF ∅⟩;let(j,M):∃j,D[i]?=Lh j:=⟨_,HF ∅⟩;let(m,J):∃m,c[i]?=Lh m:=⟨_,HF ∅⟩;let(B,fk,_):=C i p m j t J M;rw[ny,t,M]at g;let g:bZ p.1 p.2 j=n:=Option.some.inj g;let Z:R.length=gl ps c i:=by
   rw[X.length,←g,gs,qB B fk];unfold gl;rw[iX,t,iX,J];rfl
  let b1:=AS (ps:=ps) x i;let b2:(401:Nat)^i<=401^6:=Nat.pow_le_pow_right ⋯ ∅;let b3:(401:Nat)^3<2^64:=⋯
  calc⟨_,U,_,U,r,_,U,.inl<|SqL.of o,_,_,U,U,zc.ok<|.inl ⟨∅,∅⟩,U,↑r,?_⟩;rw[Z];show[Lh (V.ref a),↑b,Lh<|.int<|((gr ps c i:Nat):Int)*((gl ps c i:Nat):Int),↑r]=_;rw[show gr ps c (i+1)=gr ps c i*gl ps c i from U,Int.natCast_mul]
 .let(u,v,rfl):=h;rw[u,z];calc⟨_,U,q N S⟩
theorem FP(F:Fun K "refuse_names" "refuse_names" Y75 f fd) (bl:Bl K mg Y)(x:Callee P w K mg base 2 "is_word" ["text"] (gQ K Y)):aK P w K mg base CX0 3 f fd ["names"] (eU K Y):=by
 refine F.okA Z75 λN A t s H O Q E D h=>?_
 let(p,a,rfl,n,C,G,R,q):=h
 refine⟨_,(aC (bp IG.never U (aQ<|pv 0) (aE (i:=1) Z75.nd U<|Or.inl U)
  (aj (aP (bQ<|cy<|aL x D U<|aa (pv 1) af)
  (aj cz)
  aF)))
  (aj (aP (aI hU (au jw U bl.len_ Lg<|aa (bJ (ju U) U bl.set_ PyProof.Rows.boot_set<|aa (pv 0) af) af) (au aw U bl.len_ Lg<|aa (pv 0) af)<|aJ _)
  (aj cz)
  aF))),?_⟩
 show(let v:TS:=_;bX _ v _ _ _);intro _;let k:⇑(a.map V.str)=⇑a:=bc _;refine(let o:St->Hp->Prop:=λr b=>b=H/\∃c:Option V,r=[↑p,c];⟨o,?_,?_⟩)
 .refine⟨_,U,p,U,⟨_,n⟩,(let o:Nat->St->Hp->Prop:=λi m b=>b=H/\∃c:Option V,m=[↑p,c];bu (xs:=a.map V.str) o ⟨U,_,U⟩ (λi m b _ h=>by rw[h.1];exact n) (λi y m b e h=>?_) (λm b h=>h))⟩;let(L,c,rfl):=h;rw[L];let(z,rfl,I):=se e;let d:=C z<|HH I;let B:⇑z<=1000:=by
   let g:=d;unfold isw at g;simp only[EA,decide_eq_true_eq]at g;lia
  calc⟨_,U,z,U,B,_,U,?_⟩;rw[d];exact bV ⟨U,_,U⟩
 rintro M S ⟨J,c,rfl⟩;rw[J];calc⟨_,U,p,a,U,n,∅,λl j=>⟨l,a,U,ae,∅,_,U,p,_,U,.inl<|(ai j _).seq n,_,_,U,U,_,U,?_⟩⟩;let u:=lG a ⇑a<|xX _;rw[gd]at u;calc bY (by rw[k,u.mpr G];lia) (q _<|ai j _)
theorem FQ(F:Fun K "refuse_row" "refuse_row" Y76 f fd) (bl:Bl K mg Y)(fI:bD CX0 P w K mg base 2 Y.l "has_code" ["self","value"] (b8 K Y)) (gz:bD CX0 P w K mg base 2 Y.m "has_code" ["self","value"] (cn K Y)):aK P w K mg base CX0 3 f fd ["domains","outcome","cells","code"] (gf K Y):=by
 refine F.okA Z76 λa3 A a1 s H vs Q E hr h=>?_
 let(z,n,cl,dv,xs,bs,o,u,rfl,O,I,hO,R,J,ok,q):=h
 refine⟨_,(aq (aP (aI l7 (au aw U bl.len_ Lg<|aa (pv 2) af) (au aw U bl.len_ Lg<|aa (pv 0) af)<|aJ _)
  (aj cz)
  aF)
  (aC (bp IG.never U (uk U bl.zip_<|aa (pv 0)<|aa (pv 2) af) (fV U<|aM (aE (i:=4) Z76.nd U<|Or.inl U)<|aM (aE (i:=5) Z76.nd U<|Or.inl U) cI)
  (aj (bp IG.never U (aQ<|pv 5) (fV U<|aM (aE (i:=6) Z76.nd U<|Or.inl U)<|aM (aE (i:=7) Z76.nd U<|Or.inl U) cI)
  (aj (aP (PW.pt<|jr (aI hU (pv 6) (cc (pv 4) U)<|aJ _)<|iq<|aI pj (pv 7) (cc (pv 4) U)<|aJ _)
  (aj cz)
  aF)))))
  (aj (aP (bQ<|cy<|xN (rN fI bl.k_Numbers<|rN gz bl.k_Words CY) bU hr (pv 1)<|aa (pv 3) af)
  (aj cz)
  aF)))),?_⟩
 show(let r2:TS:=_;let r1:TS:=bX _ r2;aR _ r1 _ _ _);intro _ _;let a0:∀(C:HR),(C=Y.l\/C=Y.m)->Cls K C/\NoAttr K C s!"low"/\NoAttr K C s!"high":=λC h=>by
  rcases h with rfl|rfl
  .exact⟨bl.k_Numbers,bl.na_Numbers_low,bl.na_Numbers_high⟩
  .exact⟨bl.k_Words,bl.na_Words_low,bl.na_Words_high⟩
 let L:⇑xs=⇑dv:=by rw[J.1,ok.len,I.1]
 refine⟨_,U,cl,_,U,.inl<|SqL.of R,_,U,z,_,U,.inl<|O,U,_,U,u6 (by rw[L]) ?_⟩;refine(let G:St->Hp->Prop:=λX c=>ar H c/\∃D B k g:Option V,X=[↑z,↑n,↑cl,Lh<|.int u.2,D,B,k,g];⟨G,?_,?_⟩)
 .refine⟨_,U,_,U,z,cl,U,⟨_,O⟩,⟨_,SqL.of R⟩,(let G:Nat->St->Hp->Prop:=λi d c=>ar H c/\∃D B k g:Option V,d=[↑z,↑n,↑cl,Lh<|.int u.2,D,B,k,g];vg (xs:=dv) (ys:=xs) G ⟨ar.refl _,_,_,_,_,U⟩ (λi d c h=>⟨h.1.seq O,SqL.of<|h.1 _ _ R⟩) (λi x y d c T ex ey h hT=>?_) (λd c h=>h))⟩;let(sm,D,B,k,g,rfl):=h;let s2:=sm.trans<|ai hT<|.tup [x,y];let eT:upd c T (.tup [x,y]) T=Lh (.tup [x,y]):=ae;generalize upd c T (.tup [x,y])=H2 at s2 eT⊢;let(a,b,rfl,eb,hb):=I.get ex;let(l,ps,rfl,ep,hl):=aS.get J ey;let(C,t,W,fs,v,f1,f2,_):=hb.same s2;let(k1,k2,k3):=a0 C t;let(_,ys,el,hp):=hl.same s2;calc⟨T,_,U,SqT.of eT,U,_,_,U,_,_,U,U,?_⟩;refine⟨_,U,l,U,⟨_,SqL.of el⟩,(let G:Nat->St->Hp->Prop:=λj d c=>c=H2/\∃k g:Option V,d=[↑z,↑n,↑cl,Lh<|.int u.2,↑a,↑l,k,g];bu (xs:=ys) G ⟨U,_,_,U⟩ (λj d c _ h=>by rw[h.1];exact SqL.of el) (λj y d c e h=>?_) (λd c h=>?_))⟩
  .let(S,k,g,rfl):=h;rw[S];let(p,r,e1,rfl,Z):=hp.get e;let(i1,i2):=ok.inn i ps b ep eb p<|HH e1;calc⟨r,_,U,SqT.of Z,U,_,_,U,_,_,U,U,?_⟩;calc⟨_,U,_,U,a,_,_,_,_,U,v,k1,k2,f1,_,_,U,U,_,U,bY ∅ ?_⟩;exact⟨_,U,_,U,a,_,_,_,_,U,v,k1,k3,f2,_,_,U,U,_,U,bY ∅ ⟨U,_,_,U⟩⟩
  .let(S,k,g,rfl):=h;rw[S];exact⟨s2,_,_,_,_,U⟩
 rintro a2 H3 ⟨M,D,B,k,g,rfl⟩;let(C,t,N):=hO.same M;let(W,fs,v,f1,f2,f3):=id N;rcases t with rfl|rfl
 .exact⟨_,U,n,_,W,fs,U,.head _,v,f3,_,U,n,o,u.2,U,N,ok.lo,ok.hi,_,U,bV<|q _ M⟩
 .exact⟨_,U,n,_,W,fs,U,.tail _<|.head _,v,f3,_,U,n,o,u.2,U,N,ok.lo,ok.hi,_,U,bV<|q _ M⟩
theorem FR(F:Fun K "mask" "mask" Y72 f fd) (bl:Bl K mg Y)(Cg:Callee P w K mg base 2 "fits" ["table","k","codes"] (qN K Y)):aK P w K mg base CX0 3 f fd ["table","codes"] (kP K Y):=by
 refine F.okA Z72 λa4 A z s H vs Q E S h=>?_
 let(t,c,a,wi,o,j,rfl,(G,ou,Z,fs,r,wy,J,M,a2,a3,m,O,a0,a1,R,oi),W,p,q):=h;calc⟨_,(aj<|ax<|au (eI U) U bl.sum_ PyProof.Rows.boot_sum<|aa (cq (bB U bl.range_<|aa (au aw U bl.len_ Lg<|aa (cc (pv 0) U) af) af) (aV (N:=["k","table","codes"]) (fr:=[0,1]) (cl:=[("table",↥s+1),("codes",↥s+1+1)]) U U (~~~0) (~~~0) U (~~~0) U U U (fu.mpr ⟨U,fu.mpr ⟨U,ja _⟩⟩) U) U (λ_ _ _ _=>(gF<|cy<|aL Cg S U<|aa (pv 1)<|aa (pv 0)<|aa (pv 2) af))<|λ_ _ _ _=>(aD xg ak<|pv 0)) af),?_⟩;let l:⇑r=⇑a:=O.1
 refine⟨_,U,t,_,_,_,_,U,J,bl.k_Table,bl.na_Table_rows,M,G,_,U,.inl<|SqL.of m,_,U,(by show -(2^62)<=((⇑r:Nat):Int);lia),(by show((⇑r:Nat):Int)<2^62;lia),bP (λD i zs k=>ar H k/\k D=Lh (.lst zs)/\∃b:Ly Int,zs=b.map V.int/\b.sum=((msk (cQ a j) i:Nat):Int)/\⇑b<=i)
  (λD u=>⟨ai u _,ae,[],U,U,yX _⟩) (λD i zs k u hi h=>?_) (λD zs k u h=>?_)⟩
 .let(d,x,b,rfl,g,T):=h;let y:i<⇑a:=by first|lia|(rw[←l];lia)
  let(e,v):∃e,a[i]?=Lh e:=⟨_,HF y⟩;let L:a.getD i ([],0)=e:=getD_at v;refine⟨_,U,_,U,_,U,t,G,c,Z,fs,r,a,i,e,j,by rw[Int.zero_add],d _ _ J,M,d _ _ m,O.same d,v,d.seq W,p e<|HH v,λH3 C=>⟨_,U,?_⟩⟩;let B:=d.trans C;let n:=C _ _ x;cases hb:kH e.1 j with
  |true =>
   refine fX ⟨_,U,_,_,U,U,⟨∅,∅,⋯⟩,cA.mk hi n (az (by rw[bc];lia)) ⟨B.upd u,ae,b++[1*2^(0+(i:Int)).toNat],by simp,?_,by simp;lia⟩⟩;let X:(0+(i:Int)).toNat=i:=∅
   rw[X,wm,g,kL,show cQ a j i=Lj by unfold cQ;rw[L];exact hb];simp;lia
  |false =>
   calc bV<|dj.mk (zs:=b.map V.int) hi ⟨B,n,b,U,?_,∅⟩;rw[g,kL,show cQ a j i=Ll by unfold cQ;rw[L];exact hb];simp
 .let(d,x,b,rfl,g,T):=h;rw[E2]at g;calc⟨D,b,U,SqL.of x,?_⟩;let I:=q k d;rw[←l,←g]at I;calc I
theorem FT(F:Fun K "table_marks" "table_marks" Y81 f fd) (bl:Bl K mg Y)(om:Callee P w K mg base 2 "column_marks" ["table","column"] (eS K Y)):aK P w K mg base CX0 3 f fd ["table"] (dQ K Y):=by
 refine F.okA Z82 λa9 A a5 s H vs Q E d h=>?_
 let(t,R,bs,C,L,rfl,J,hb,a2,eA,W,hL,q):=h;calc⟨_,(aj<|ax<|cq (bB U bl.range_<|aa (au aw U bl.len_ Lg<|aa (cc (pv 0) U) af) af) (aV (N:=["column","table"]) (fr:=[0]) (cl:=[("table",↥s+1)]) U U (~~~0) (~~~0) U (~~~0) U U U (fu.mpr ⟨U,ja _⟩) U) U (λ_ _ _ _=>bC)<|λ_ _ _ _=>(aL om d U<|aa (pv 1)<|aa (pv 0) af)),?_⟩;let(rl,dx,dl,fs,xs,ht,f1,f2,a3,X,a8,hR):=id J;let a6:R.length=⇑bs:=X.1;refine⟨_,U,t,_,_,_,_,U,ht,bl.k_Table,bl.na_Table_domains,f2,dl,_,U,.inl<|SqL.of a3,_,U,(by show -(2^62)<=((R.length:Nat):Int);lia),(by show((R.length:Nat):Int)<2^62;lia),(let I_:HR->Nat->Ly V->Hp->Prop:=λD i M m=>ar H m/\m D=Lh (.lst M)/\∃(k:Ly HR)(a:Ly (Ly Int)),M=k.map V.ref/\MLs (hide m D) k a/\⇑a=i/\(∀r∈k,H r=Li)/\∀(c:Nat)(b:Int×Int)(p:Ly Int),bs[c]?=Lh b->a[c]?=Lh p->p.Pairwise (· < ·)/\∀x,x∈p↔MkC C c b x;bP I_ (λD B=>⟨ai B _,ae,[],[],U,MLs.nil,U,(λr d=>by cases d),λc b p _ e=>by simp at e⟩) (λD i M m B hi h=>?_) (λD M m B h=>?_))⟩
 .let(y,O,k,a,rfl,u,G,o,n):=h;let I:i<⇑bs:=∅
  let(b,T):∃b,bs[i]?=Lh b:=⟨_,HF I⟩;let(a1,a0):=hL i b T;refine⟨_,U,_,U,t,i,R,bs,C,b,L i,by rw[Int.zero_add],J.same y,T,a2,λw hw=>by rw[eA w hw];exact I,W i,a1,a0,λl cs H2 s2 S el pw hm=>?_⟩;let a4:=s2 _ _ O;let nD:l≠D:=λz=>by rw[z,O]at S;cases S
  let a7:=u.1;refine cA.mk hi a4 (az (by rw[bc];lia)) ⟨(y.trans s2).upd B,ae,k++[l],a++[cs],by rw[dW];rfl,?_,by rw[dy,iU,G],(λr d=>?_),λc b' p v g=>?_⟩
  .rw[nR];exact MLs.snoc (u.same<|lR s2)<|gJ el nD
  .rcases hZ.mp d with d|d
   .exact o r d
   .rw[gZ.mp d];exact y.free S
  .by_cases hc:c<⇑a
   .rw[ji hc]at g;exact n c b' p v g
   .rw[kq ∅]at g;let h0:=(HG.mp g).1;rw[iU]at h0;let Z:c=i:=∅
    subst Z;rw[T]at v;cases v;rw[show c-⇑a=0 by lia]at g;cases g;exact⟨pw,hm⟩
 .let(y,O,k,a,rfl,u,G,o,n):=h;calc q D k a m y B O (u.same<|qJ m D) ∅ n (λr d=>⟨o r d,λz=>?_⟩);let(j,ej):=jY d;let(r',v,g):=u.2 j _ (HF (by rw[←u.1];exact(HG.mp ej).1));rw[ej]at v;cases v;calc hide_ne g z
theorem FU(F:Fun K "_law_tiled" "_law_tiled" Y68 f fd) (bl:Bl K mg Y)(iV:Callee P w K mg base 2 "_law_bits" ["fitting"] (fT K Y)) (fF:Callee P w K mg base 2 "_law_fitting" ["rows","codes"] (dP K Y)):aK P w K mg base CX0 3 f fd ["found","rows","bounds"] (gW K Y):=by
 refine F.okA Z68 λc1 A b6 s H vs Q E hr h=>?_
 let(I,G,J,fx,Z,rx,z,ys,bs,rfl,T,hX,b4,hR,oi,hw,hb,hP,h3,a8,hq,uI,q):=h
 refine⟨_,(aq (aP (bQ<|cy<|au cZ U bl.isinstance_ PyProof.Rows.boot_isinstance<|aa (pv 0)<|aa (eV (v:=.ty "list") U bl.list_ PyProof.Rows.boot_list U) af)
  (aj<|ax cE)
  aF)
  (aq (aG (i:=3) Z68.nd U (Or.inl U) ak)
  (aC (bp IG.never U (aQ<|pv 0) (aE (i:=4) Z68.nd U<|Or.inl U)
  (aq (aG (i:=5) Z68.nd U (Or.inl U) ak)
  (aC (bp IG.never U (qg<|aH aO (pv 4) ak<|λ_ _=>U) (aE (i:=6) Z68.nd U<|Or.inl U)
  (aj<|aG (i:=5) Z68.nd U (Or.inl U)<|aD vb (pv 5)<|aD bE (aD dI (aH aO (pv 6) ak<|λ_ _=>U)<|aH aO (pv 6) ak<|λ_ _=>U) ak))
  (aC (aG (i:=3) Z68.nd U (Or.inl U)<|aD bE (pv 3)<|pv 5)
  (aj (bp IG.never U (bB U bl.range_<|aa ak af) (aE (i:=7) Z68.nd U<|Or.inr U)
  (aj (aP (aI l7 (aH aO (pv 4) ak<|λ_ _=>U) (aL iV hr U<|aa (aL fF hr U<|aa (pv 1)<|aa (cq (qg<|aH aO (pv 4) ak<|λ_ _=>U) (aV (N:=["pair","end"]) (fr:=[7]) (cl:=[("end",↥s+1)]) U U (~~~0) (~~~0) U (~~~0) U U U (fu.mpr ⟨U,ja _⟩) U) U (λ_ _ _ _=>bC)<|λ_ _ _ _=>(aH (dk (K:=K) U) (pv 0) (pv 1)<|λ_ _=>U)) af) af)<|aJ _)
  (aj<|ax cE)
  aF))))))))
  (aq (aG (i:=8) Z68.nd U (Or.inl U) ak)
  (aC (bp IG.never U (aQ<|pv 2) (aE (i:=6) Z68.nd U<|Or.inl U)
  (aj<|aG (i:=8) Z68.nd U (Or.inl U)<|aD vb (pv 8)<|aD bE (aD dI (aH aO (pv 6) ak<|λ_ _=>U)<|aH aO (pv 6) ak<|λ_ _=>U) ak))
  (aj<|ax<|eG cb (pv 3) (pv 8)<|aJ _)))))),?_⟩
 show(let r5:TS:=_;let r4:TS:=bX _ r5;let r3:TS:=aR _ r4;let r2:TS:=bX _ r3;let r1:TS:=aR _ r2;aR _ r1 _ _ _);intro _ _ _ _ _;let b0:⇑fx=Z.length:=Paired.length hX;let a7:=⇑hP;refine⟨_,U,_,_,_,_,Lj,U,.ty _,.inl<|.lst T,(by first|rfl|with_unfolding_all rfl|decide+kernel),_,U,bV ?_⟩;refine(let c:St->Hp->Prop:=λk C=>ar H C/\∃M L n r:Option V,k=[↑I,↑G,↑J,Lh<|.int<|vol bs,M,L,n,r,Li];⟨c,?_,?_⟩)
 .refine⟨_,U,I,U,⟨_,SqL.of T⟩,(let c:Nat->St->Hp->Prop:=λi a C=>ar H C/\∃M L n r:Option V,a=[↑I,↑G,↑J,Lh<|.int ((Z.take i).map λq=>vol q.1).sum,M,L,n,r,Li];bu (xs:=fx) c ⟨ar.refl _,_,_,_,_,U⟩ (λi a C _ h=>SqL.of<|h.1 _ _ T) (λi y a C e h=>?_) (λa C h=>?_))⟩
  .let(W,M,L,n,r,rfl):=h;let(x,a2,t,b,rfl,bx,et,a3,S):=zX hX e;let hQ:=hq x<|HH a2;let a0:=S.length;let b3:=W _ _ et;let a5:=W _ _ a3;refine(let c:St->Hp->Prop:=λk g=>g=C/\∃n:Option V,k=[↑I,↑G,↑J,Lh<|.int ((Z.take i).map λq=>vol q.1).sum,↑t,Lh<|.int<|vol x.1,n,r,Li];⟨c,?_,?_⟩)
   .refine⟨_,U,t,_,_,_,U,U,SqT.of b3,U,b,U,⟨_,SqT.of a5⟩,(let c:Nat->St->Hp->Prop:=λj a g=>g=C/\∃n:Option V,a=[↑I,↑G,↑J,Lh<|.int ((Z.take i).map λq=>vol q.1).sum,↑t,Lh<|.int<|vol<|x.1.take j,n,r,Li];uS (xs:=bx) c ⟨U,_,U⟩ (λj a g _ h=>by rw[h.1];exact SqT.of a5) (λj y a g e2 h=>?_) (λa g h=>?_))⟩
    .let(o,m,rfl):=h;subst o;let(p,u,O,rfl,hu):=S.get e2;let B:=W _ _ hu;refine⟨_,U,_,U,u,_,_,_,U,U,SqT.of B,U,_,U,u,_,_,_,U,U,SqT.of B,U,_,_,U,U,_,_,U,U,_,_,U,U,vD (by rw[hQ.len];lia) hQ.wid O,U,↑u,?_⟩;rw[nU O];rfl
    .let(o,m,rfl):=h;subst o;rw[a0,gd];exact⟨U,_,U⟩
   rintro a6 g ⟨o,m,rfl⟩;subst o;refine(let c:St->Hp->Prop:=λk H3=>H3=g/\k=[↑I,↑G,↑J,Lh<|.int ((Z.take<|i+1).map λq=>vol q.1).sum,↑t,Lh<|.int<|vol x.1,m,r,Li];⟨c,⟨_,U,_,U,_,_,U,U,U,?_⟩,?_⟩)
   .rw[take_snoc a2,dW,wm,List.map_singleton,List.sum_singleton];rfl
   rintro b9 H3 ⟨o,rfl⟩;subst o;refine⟨_,U,⋯,⋯,(let c:Nat->St->Hp->Prop:=λd a H4=>ar H H4/\∃r:Option V,a=[↑I,↑G,↑J,Lh<|.int ((Z.take<|i+1).map λq=>vol q.1).sum,↑t,Lh<|.int<|vol x.1,m,r,Li];dC c ⟨W,_,U⟩ (λd a H4 hd h=>?_) (λa H4 h=>?_))⟩
   .let(X,b5,rfl):=h;let hd:d<2:=hd;let a1:=X _ _ et;let a4:=X _ _ a3;refine⟨_,U,t,_,_,_,U,U,SqT.of a1,U,_,U,_,U,t,_,_,_,U,U,SqT.of a1,U,b,U,⟨_,SqT.of a4⟩,(let c:HR->Nat->Ly V->Hp->Prop:=λD j zs H5=>ar H4 H5/\H5 D=Lh (.lst zs)/\zs=((x.1.take j).map<|wF d).map V.int;yc (xs:=bx) c (λD hD=>⟨ai hD _,ae,U⟩) (λD j zs H5 hD _ h=>SqT.of<|h.1 _ _ a4) (λD j y zs H5 hD e2 h=>?_) (λD zs H5 hD h=>?_))⟩
    .let(s5,eD,rfl):=h;let(p,u,O,rfl,hu):=S.get e2;let hj:=(HG.mp e2).1;refine⟨_,U,_,U,u,_,_,_,U,U,SqT.of<|(X.trans s5) _ _ hu,zW hd p,cA.mk hj eD (az (by rw[bc,bc,iT];let:=hQ.len;lia)) ⟨s5.upd hD,ae,?_⟩⟩;rw[take_snoc O,dW,dW];rfl
    .let(s5,eD,rfl):=h;rw[a0,gd]at eD;let R:=X.trans s5;let b1:⇑(x.1.map<|wF d)=⇑bs:=by rw[bc];exact hQ.len
     refine⟨G,D,rx,z,x.1.map<|wF d,U,R _ _ b4,hR.same R,oi,eD,∅,(λw_ a9=>by rw[b1];exact hw w_ a9),λl H6 s6 nl el=>?_⟩;refine⟨l,cQ z<|x.1.map<|wF d,⇑z,U,el,by rw[←hR.1];exact oi,λH7 s7=>?_⟩;let hm:x.2=((msk (cQ z<|x.1.map<|wF d) ⇑z:Nat):Int):=by
      rcases(show d=0\/d=1 by lia)with rfl|rfl
      .exact hQ.lo
      .exact hQ.hi
     refine⟨U,_,U,u6 (by rw[hm]) ⟨(R.trans s6).trans s7,_,U⟩⟩
   .let(X,b5,rfl):=h;exact⟨X,_,_,_,_,U⟩
  .let(W,M,L,n,r,rfl):=h;rw[b0,gd,uI];exact⟨W,_,_,_,_,U⟩
 rintro c0 H1 ⟨s1,M,L,n,r,rfl⟩;refine(let c:St->Hp->Prop:=λk C=>C=H1/\∃n:Option V,k=[↑I,↑G,↑J,Lh<|.int<|vol bs,M,L,n,r,Lh (.int<|vol bs)];⟨c,?_,?_⟩)
 .refine⟨_,U,J,U,⟨_,SqL.of<|s1 _ _ hb⟩,(let c:Nat->St->Hp->Prop:=λj a g=>g=H1/\∃n:Option V,a=[↑I,↑G,↑J,Lh<|.int<|vol bs,M,L,n,r,Lh (.int<|vol<|bs.take j)];bu (xs:=ys) c ⟨U,_,U⟩ (λj a g _ h=>by rw[h.1];exact SqL.of (s1 _ _ hb)) (λj y a g e2 h=>?_) (λa g h=>?_))⟩
  .let(o,m,rfl):=h;subst o;let(p,u,O,rfl,hu):=hP.get e2;let B:=s1 _ _ hu;calc⟨_,U,_,U,u,_,_,_,U,U,SqT.of B,U,_,U,u,_,_,_,U,U,SqT.of B,U,_,_,U,U,_,_,U,U,_,_,U,U,vD ∅ a8 O,U,↑u,?_⟩;rw[nU O];rfl
  .let(o,m,rfl):=h;subst o;rw[a7,gd];exact⟨U,_,U⟩
 rintro a6 g ⟨o,m,rfl⟩;subst o;calc⟨_,U,_,U,U,?_⟩;rw[Ls U];calc q g s1
theorem FV(F:Fun K "__init__" "Words.__init__" Y30 f fd) (bl:Bl K mg Y)(gA:cw CX0 P w K mg base 2 "Domain" "__init__" ["self","low","high"] (cm K Y)) (lU:Callee P w K mg base 2 "is_word" ["text"] (gQ K Y)):aK P w K mg base CX0 3 f fd ["self","words"] (cC K Y):=by
 refine F.okA Z30 λa2 A S s H vs Q E X h=>?_
 let(x,d,p,a,rfl,T,L,G,q):=h
 refine⟨_,(aq (aP (bQ<|iw dX dX ak (au aw U bl.len_ Lg<|aa (pv 1) af)<|pJ U bl.MOST_WORDS_)
  (aj cz)
  aF)
  (aC (bp IG.never U (aQ<|pv 1) (aE (i:=2) Z30.nd U<|Or.inl U)
  (aj (aP (bQ<|cy<|aL lU X U<|aa (pv 2) af)
  (aj cz)
  aF)))
  (aq (aP (aI hU (au jw U bl.len_ Lg<|aa (bJ (ju U) U bl.set_ PyProof.Rows.boot_set<|aa (pv 1) af) af) (au aw U bl.len_ Lg<|aa (pv 1) af)<|aJ _)
  (aj cz)
  aF)
  (aq (bg<|fO gA bU X U<|aa (pv 0)<|aa ak<|aa (aD dI (au aw U bl.len_ Lg<|aa (pv 1) af) ak) af)
  (aj<|cO (pv 0) (bJ cV U bl.list_ PyProof.Rows.boot_list<|aa (pv 1) af) U))))),?_⟩
 show(let r4:TS:=_;let r3:TS:=aR _ r4;let r2:TS:=aR _ r3;let r1:TS:=bX _ r2;aR _ r1 _ _ _);intro _ _ _ _;let t:SqL K H p (a.map V.str):=SqL.of L;let B:p≠x:=ip L T (by intro z;cases z);let c:⇑(a.map V.str)=⇑a:=bc _;let h1:=G.some_;let a1:=G.few;refine⟨_,U,p,_,U,.inl t,_,_,U,U,_,U,dZ (by rw[c];lia) ?_⟩;calc⟨_,_,U,U,_,U,?_⟩;rw[Ls (show((⇑(a.map V.str):Nat):Int)<=40 by rw[c];lia)];calc bV ?_;refine(let N:St->Hp->Prop:=λO k=>k=H/\∃u:Option V,O=[↑x,↑p,u];⟨N,?_,?_⟩)
 .refine⟨_,U,p,U,⟨_,t⟩,(let N:Nat->St->Hp->Prop:=λi D k=>k=H/\∃u:Option V,D=[↑x,↑p,u];bu (xs:=a.map V.str) N ⟨U,_,U⟩ (λi D k _ h=>by rw[h.1];exact t) (λi y D k e h=>?_) (λD k h=>h))⟩;let(e0,u,rfl):=h;rw[e0];let(z,rfl,ez):=se e;let W:=G.words z<|HH ez;let hz:⇑z<=1000:=by
   let v:=W;unfold isw at v;simp only[EA,decide_eq_true_eq]at v;lia
  calc⟨_,U,z,U,hz,_,U,?_⟩;rw[W];exact bV ⟨U,_,U⟩
 rintro a0 H2 ⟨I,u,rfl⟩;rw[I];calc⟨_,U,p,a,U,t,∅,λl Z=>⟨l,a,U,ae,∅,_,U,p,_,U,.inl<|(ai Z _).seq t,_,_,U,U,_,U,?_⟩⟩;let J:=ai Z<|oQ P w l a;let cf:=lG a ⇑a<|xX _;rw[gd]at cf;refine bY (by rw[c,cf.mpr G.once];lia) ?_;let R:=J _ _ T;let C:=J _ _ L;calc⟨_,U,_,U,p,_,U,.inl<|SqL.of C,_,_,U,U,x,d,0,_,U,R,?_⟩;let M:mkd Y.m (upd H l<|oQ P w l a) x d 0 (((⇑(a.map V.str):Nat):Int)-1) x=Lh (.ins Y.m d [("low",.int 0),("high",.int<|((⇑(a.map V.str):Nat):Int)-1)]):=ae;let I:mkd Y.m (upd H l<|oQ P w l a) x d 0 (((⇑(a.map V.str):Nat):Int)-1) p=Lh (.lst<|a.map V.str):=by unfold mkd;rw[ay B,ay B];exact C
 let e3:∀b o,b≠x->H b=Lh o->mkd Y.m (upd H l<|oQ P w l a) x d 0 (((⇑(a.map V.str):Nat):Int)-1) b=Lh o:=λb o r h=>by unfold mkd;rw[ay r,ay r];exact J b o h
 let eh:((⇑(a.map V.str):Nat):Int)-1=hiW a:=by rw[c];rfl
 refine⟨_,U,p,_,U,.inl<|SqL.of I,λn j=>⟨_,U,x,_,d,_,U,dN M j,bl.k_Words,bl.na_Words_words,(by show 2<1000;decide),?_⟩⟩;show Q .non (upd (upd (mkd Y.m (upd H l<|oQ P w l a) x d 0<|((⇑(a.map V.str):Nat):Int)-1) n<|.lst<|a.map V.str) x<|.ins Y.m d<|bI s!"words" (.ref n) [(s!"low",.int 0),(s!"high",.int<|((⇑(a.map V.str):Nat):Int)-1)]);rw[put3];let g:mkd Y.m (upd H l<|oQ P w l a) x d 0 (((⇑(a.map V.str):Nat):Int)-1) n=none:=j;clear j;generalize mkd Y.m (upd H l<|oQ P w l a) x d 0 (((⇑(a.map V.str):Nat):Int)-1)=H2 at M I e3 g⊢;rw[eh];let nl:n≠x:=(aU M g).symm;calc q _ n (λb o r h=>(ay r).trans<|dN (e3 b o r h) g) ae<|(ay nl).trans ae
theorem FW(F:Fun K "way_by" "way_by" Y84 f fd) (bl:Bl K mg Y)(k_First:bw CX0 P w K mg base 2 "First" Y.e ["self"] (J0 K Y)) (k_Only:bw CX0 P w K mg base 2 "Only" Y.f ["self"] (J8 K Y)) (k_Like:bw CX0 P w K mg base 2 "Like" Y.g ["self"] (J4 K Y)) (k_Low:bw CX0 P w K mg base 2 "Low" Y.h ["self"] (J6 K Y)) (k_High:bw CX0 P w K mg base 2 "High" Y.i ["self"] (J2 K Y)) (k_Sum:bw CX0 P w K mg base 2 "Sum" Y.j ["self"] (J10 K Y)):aK P w K mg base CX0 4 f fd ["name"] (jg K Y):=by
 refine F.okA Z86 λa3 A a2 s H vs Q E W h=>?_
 let(z,rfl,hz,q):=h
 refine⟨_,(aq (bp IG.never U (aQ<|aW<|aa (lI k_First bU W U)<|aa (lI k_Only bU W U)<|aa (lI k_Like bU W U)<|aa (lI k_Low bU W U)<|aa (lI k_High bU W U)<|aa (lI k_Sum bU W U) af) (aE (i:=1) Z86.nd U<|Or.inl U)
  (aj (aP (aI cb (cc (pv 1) U) (pv 0)<|aJ _)
  (aj<|ax<|pv 1)
  aF)))
  (aj cz)),?_⟩
 show(let r1:TS:=_;aR _ r1 _ _ _);intro _;refine λr J c b d=>⟨r,J,U,ae,U,?_⟩
 let t0:ar H (upd (upd (upd H J<|.own r) r<|.ins Y.e J []) r<|.ins Y.e J [("called",.str s!"first")]):=((ai b _).upd c).upd c;let t:WyN Y.e (upd (upd (upd H J<|.own r) r<|.ins Y.e J []) r<|.ins Y.e J [("called",.str s!"first")]) r s!"first":=⟨J,ae⟩;generalize upd (upd (upd H J<|.own r) r<|.ins Y.e J []) r (.ins Y.e J [("called",.str s!"first")])=H0 at t0 t⊢;clear c b d;refine λp I c b d=>⟨p,I,U,ae,U,?_⟩
 let t1:ar H0 (upd (upd (upd H0 I<|.own p) p<|.ins Y.f I []) p<|.ins Y.f I [("called",.str s!"only")]):=((ai b _).upd c).upd c;let u:WyN Y.f (upd (upd (upd H0 I<|.own p) p<|.ins Y.f I []) p<|.ins Y.f I [("called",.str s!"only")]) p s!"only":=⟨I,ae⟩;generalize upd (upd (upd H0 I<|.own p) p<|.ins Y.f I []) p (.ins Y.f I [("called",.str s!"only")])=H1 at t1 u⊢;clear c b d;let t:=t.same t1;refine λo G c b d=>⟨o,G,U,ae,U,?_⟩
 let t2:ar H1 (upd (upd (upd H1 G<|.own o) o<|.ins Y.g G []) o<|.ins Y.g G [("called",.str s!"like")]):=((ai b _).upd c).upd c;let L:WyN Y.g (upd (upd (upd H1 G<|.own o) o<|.ins Y.g G []) o<|.ins Y.g G [("called",.str s!"like")]) o s!"like":=⟨G,ae⟩;generalize upd (upd (upd H1 G<|.own o) o<|.ins Y.g G []) o (.ins Y.g G [("called",.str s!"like")])=H2 at t2 L⊢;clear c b d;let t:=t.same t2;let u:=u.same t2;refine λw3 D c b d=>⟨w3,D,U,ae,U,?_⟩
 let X:ar H2 (upd (upd (upd H2 D<|.own w3) w3<|.ins Y.h D []) w3<|.ins Y.h D [("called",.str s!"low")]):=((ai b _).upd c).upd c;let M:WyN Y.h (upd (upd (upd H2 D<|.own w3) w3<|.ins Y.h D []) w3<|.ins Y.h D [("called",.str s!"low")]) w3 s!"low":=⟨D,ae⟩;generalize upd (upd (upd H2 D<|.own w3) w3<|.ins Y.h D []) w3 (.ins Y.h D [("called",.str s!"low")])=H3 at X M⊢;clear c b d;let t:=t.same X;let u:=u.same X;let L:=L.same X;refine λm B c b d=>⟨m,B,U,ae,U,?_⟩
 let T:ar H3 (upd (upd (upd H3 B<|.own m) m<|.ins Y.i B []) m<|.ins Y.i B [("called",.str s!"high")]):=((ai b _).upd c).upd c;let S:WyN Y.i (upd (upd (upd H3 B<|.own m) m<|.ins Y.i B []) m<|.ins Y.i B [("called",.str s!"high")]) m s!"high":=⟨B,ae⟩;generalize upd (upd (upd H3 B<|.own m) m<|.ins Y.i B []) m (.ins Y.i B [("called",.str s!"high")])=H4 at T S⊢;clear c b d;let t:=t.same T;let u:=u.same T;let L:=L.same T;let M:=M.same T;refine λk v c b d=>⟨k,v,U,ae,U,?_⟩
 let O:ar H4 (upd (upd (upd H4 v<|.own k) k<|.ins Y.j v []) k<|.ins Y.j v [("called",.str s!"sum")]):=((ai b _).upd c).upd c;let y5:WyN Y.j (upd (upd (upd H4 v<|.own k) k<|.ins Y.j v []) k<|.ins Y.j v [("called",.str s!"sum")]) k s!"sum":=⟨v,ae⟩;generalize upd (upd (upd H4 v<|.own k) k<|.ins Y.j v []) k (.ins Y.j v [("called",.str s!"sum")])=H5 at O y5⊢;clear c b d;let t:=t.same O;let u:=u.same O;let L:=L.same O;let M:=M.same O;let S:=S.same O;let s5:ar H H5:=((((t0.trans t1).trans t2).trans X).trans T).trans O;refine⟨(by show 6<=HU;decide),λl hl=>?_⟩;let N:ar H5 (upd H5 l<|.lst [V.ref r,.ref p,.ref o,.ref w3,.ref m,.ref k]):=ai hl _;let el:upd H5 l (.lst [V.ref r,.ref p,.ref o,.ref w3,.ref m,.ref k]) l=Lh (.lst [V.ref r,.ref p,.ref o,.ref w3,.ref m,.ref k]):=ae;generalize upd H5 l (.lst [V.ref r,.ref p,.ref o,.ref w3,.ref m,.ref k])=H6 at N el⊢;let t:=t.same N;let u:=u.same N;let L:=L.same N;let M:=M.same N;let S:=S.same N;let y5:=y5.same N;let sA:=s5.trans N;let a0:∀(i:Nat)(x:V),[V.ref r,.ref p,.ref o,.ref w3,.ref m,.ref k][i]?=Lh x->∃(a C:HR)(y:Str),x=.ref a/\(cl6 Y.e Y.f Y.g Y.h Y.i Y.j)[i]?=Lh C/\six[i]?=Lh y/\WyN C H6 a y/\Cls K C/\NoAttr K C s!"called":=λi x e=>by
  match i,e with
  |0,e=>cases e;exact⟨r,Y.e,_,U,U,U,t,bl.k_First,bl.na_First_called⟩
  |1,e=>cases e;exact⟨p,Y.f,_,U,U,U,u,bl.k_Only,bl.na_Only_called⟩
  |2,e=>cases e;exact⟨o,Y.g,_,U,U,U,L,bl.k_Like,bl.na_Like_called⟩
  |3,e=>cases e;exact⟨w3,Y.h,_,U,U,U,M,bl.k_Low,bl.na_Low_called⟩
  |4,e=>cases e;exact⟨m,Y.i,_,U,U,U,S,bl.k_High,bl.na_High_called⟩
  |5,e=>cases e;exact⟨k,Y.j,_,U,U,U,y5,bl.k_Sum,bl.na_Sum_called⟩
  |n+6,e=>simp at e
 refine⟨l,U,⟨_,SqL.of el⟩,(let I_:Nat->St->Hp->Prop:=λi Z H'=>(∃c1:Option V,Z=[Lh (.str z),c1])/\H'=H6/\∀j:Nat,j<i->six[j]?≠Lh z;bu (xs:=[V.ref r,.ref p,.ref o,.ref w3,.ref m,.ref k]) I_ ⟨⟨_,U⟩,U,(λj h=>Lr h<|CU j)⟩ (λi Z H' _ h=>by rw[h.2.1];exact SqL.of el) (λi x Z H' e h=>?_) (λZ H' h=>?_))⟩
 .let((c1,rfl),e0,R):=h;rw[e0];let(a,C,y,rfl,eC,ey,(dx,ha),hc,hn):=a0 i x e;calc⟨_,U,a,_,_,_,_,U,ha,hc,hn,U,_,U,U,_,U,?_⟩;refine cD (λg=>?_)<|λg=>?_
  .let g':V.str y=V.str z:=fM g;injection g' with g';subst g';exact⟨_,U,q i ey a C H6 sA eC ⟨dx,ha⟩⟩
  .refine⟨⟨_,U⟩,U,λj hj=>?_⟩;by_cases a1:j<i
   .exact R j a1
   .let:j=i:=∅
    subst this;rw[ey];intro q2;exact(jt g) (by injection q2 with q2;rw[q2])
 .let((c1,rfl),e0,R):=h;rw[e0];let(j,hj,ej):=List.getElem_of_mem hz;calc Lr (by rw[HF hj,ej]) (R j hj)
theorem FX(F:Fun K "_law_alike_marks" "_law_alike_marks" Y47 f fd) (bl:Bl K mg Y)(eM:Callee P w K mg base 3 "table_marks" ["table"] (dQ K Y)) (dS:Callee P w K mg base 3 "table_bounds" ["table"] (dq K Y)):aK P w K mg base CX0 4 f fd ["table","bounds","marks"] (dA K Y):=by
 refine F.okA Z47 λe4 A c3 s H vs Q E C h=>?_
 let(t,bo,W,dv,bs,v,L,ys,as,B,rfl,G,e0,oi,eA,a1,hL,hb,hP,hm,hM,d5,a3,q):=h
 refine⟨_,(aC (aG (i:=3) Z47.nd U (Or.inl U)<|aL eM C U<|aa (pv 0) af)
  (aC (aG (i:=4) Z47.nd U (Or.inl U)<|aL dS C U<|aa (pv 0) af)
  (aC (aP (PW.pt<|jr (aI (vf C) (pv 4) (pv 1)<|aJ _)<|iq<|aI (vf C) (pv 3) (pv 2)<|aJ _)
  (aj<|ax cE)
  aF)
  (aC (bg<|xr PySem.F.plainAttrs_list PySem.F.slot_list_clear PySem.F.type_list_clear rj<|pv 4)
  (aC (bp IG.never U (aQ<|pv 3) (aE (i:=5) Z47.nd U<|Or.inl U)
  (aj<|bg<|fe PySem.F.plainAttrs_list PySem.F.slot_list_append PySem.F.type_list_append bG (pv 5)<|aa ak af))
  (aj<|ax<|gD (eG (ve C) (aL dS C U<|aa (pv 0) af) (pv 1)<|aJ _)<|jF<|eG (ve C) (aL eM C U<|aa (pv 0) af) (pv 2)<|aJ _)))))),?_⟩
 show(let r5:TS:=_;let r4:TS:=bX _ r5;let r3:TS:=bX _ r4;let r2:TS:=bX _ r3;let r1:TS:=bX _ r2;bX _ r1 _ _ _);intro _ _ _ _ _;let uq:∀(d:Ly HR)(M:Ly (Ly Int))(H2:Hp),MLs H2 d M->M.length=⇑bs->(∀(c:Nat)(b:Int×Int)(n:Ly Int),bs[c]?=Lh b->M[c]?=Lh n->n.Pairwise (· < ·)/\∀x,x∈n↔MkC v c b x)->M=B:=λd M H2 _ a4 R=>by
  refine tX λc=>?_
  by_cases hc:c<⇑bs
  .let(b,eb):∃b,bs[c]?=Lh b:=⟨_,HF hc⟩;let(m1,e1):∃m1,B[c]?=Lh m1:=⟨_,HF ∅⟩;let(m2,Z):∃m2,M[c]?=Lh m2:=⟨_,HF ∅⟩;let(p1,q1):=a3 c b m1 eb e1;let(p2,q2):=R c b m2 eb Z;rw[e1,Z,fN p2 p1 λx=>(q2 x).trans (q1 x).symm]
  .rw[nY ∅,nY ∅]
 refine(let p:St->Hp->Prop:=λk g=>ar H g/\∃(l:HR)(d:Ly HR),g l=Lh (.lst<|d.map V.ref)/\H l=Li/\MLs g d B/\(∀r∈d,H r=Li/\r≠l)/\k=[↑t,↑bo,↑W,↑l,Li,Li];⟨p,?_,?_⟩)
 .refine⟨_,U,t,dv,bs,v,L,U,G,∅,oi,eA,a1,hL,λl d M g s nl X m a4 R S=>?_⟩;rw[uq d M g m a4 R]at m;exact⟨s,l,d,X,nl,m,S,U⟩
 rintro d0 H1 ⟨s1,l,d,X,nl,m,S,rfl⟩;calc(let p:St->Hp->Prop:=λk g=>ar H1 g/\∃(o:HR)(zs:Ly V),H1 o=Li/\g o=Lh (.lst zs)/\PL g zs bs/\k=[↑t,↑bo,↑W,↑l,↑o,Li];⟨p,⟨_,U,t,dv,bs,v,U,G.same s1,∅,λo zs g s ne ee I=>⟨s,o,zs,ne,ee,I,U⟩⟩,?_⟩);rintro c8 H2 ⟨s2,o,zs,O,T,I,rfl⟩;let u:=s1.trans s2;let b1:=I.length;let a0:=⇑hP;refine(let p:St->Hp->Prop:=λk g=>g=H2/\k=[↑t,↑bo,↑W,↑l,↑o,Li];⟨p,?_,?_⟩)
 .refine⟨_,U,_,U,p4 (SqL.of T) (SqL.of<|u _ _ hb) (by rw[b1,a0]) (λj x y e1 Z=>yw I (PL.mono hP u.tups) j x y e1 Z) ⟨_,U,bV ?_⟩⟩;exact⟨_,U,_,U,p4 (SqL.of<|s2 _ _ X) (SqL.of<|u _ _ hm) (by rw[bc,bc,m.1,hM.1]) (λj x y e1 Z=>vB (m.same s2) (hM.same u) e1 Z) ⟨_,U,bV ⟨U,U⟩⟩⟩
 rintro c7 H3 ⟨e_,rfl⟩;subst e_;let FY:H o=none:=s1.free O;let Ci:∀(j:Nat)(n:Ly Int),B[j]?=Lh n->⇑n<=400:=λj n e=>by
  let hj:=(HG.mp e).1;let(b,eb):∃b,bs[j]?=Lh b:=⟨_,HF ∅⟩;let(p1,q1):=a3 j b n eb e;let(l1,l2):=hL j b eb;exact yW (bf (p1.imp λh=>Int.ne_of_lt h) λx hx=>l2 x<|(q1 x).mp hx) l1
 let b0:l≠o:=λz=>by rw[z,O]at X;cases X
 refine(let p:St->Hp->Prop:=λk g=>ar H g/\g l=Lh (.lst<|d.map V.ref)/\(∀r∈d,∃xs:Ly V,g r=Lh (.lst xs)/\⇑xs<=400)/\k=[↑t,↑bo,↑W,↑l,↑o,Li];⟨p,?_,?_⟩)
 .refine⟨_,U,.inl ⟨U,_,SqL.of T⟩,o,_,U,U,T,u.upd FY,(ay b0).trans<|s2 _ _ X,λr C=>?_,U⟩;let(j,ej):=jY C;let(n,em):∃n,B[j]?=Lh n:=⟨_,HF (by rw[←m.1];exact(HG.mp ej).1)⟩;let(r',f1,f2):=m.2 j n em;rw[ej]at f1;cases f1;exact⟨_,(ay (λz=>by rw[z,O]at f2;cases f2)).trans (s2 _ _ f2),by rw[bc];exact Ci j n em⟩
 rintro c6 H4 ⟨s4,a7,b6,rfl⟩;let Hm:⇑d<=4:=by rw[m.1];lia
 refine(let p:St->Hp->Prop:=λk g=>ar H g/\∃c5:Option V,k=[↑t,↑bo,↑W,↑l,↑o,c5];⟨p,?_,?_⟩)
 .refine⟨_,U,l,U,⟨_,SqL.of a7⟩,(let p:Nat->St->Hp->Prop:=λi σ g=>ar H g/\g l=Lh (.lst<|d.map V.ref)/\(∀r∈d,∃xs:Ly V,g r=Lh (.lst xs)/\⇑xs<=400+i)/\∃c5:Option V,σ=[↑t,↑bo,↑W,↑l,↑o,c5];bu (xs:=d.map V.ref) p ⟨s4,a7,b6,_,U⟩ (λi σ g _ h=>SqL.of h.2.1) (λi y σ g e h=>?_) (λσ g h=>⟨h.1,h.2.2.2⟩))⟩;let(sm,c0,a6,c5,rfl):=h;let(r,rfl,er):=iI e;let hi:=(HG.mp er).1;let(xs,ex,d3):=a6 r<|HH er;let(nr,a9):=S r<|HH er;calc⟨_,U,.inl ⟨U,_,SqL.of ex⟩,r,_,_,U,U,ex,az ∅,sm.upd nr,(ay a9.symm).trans c0,λr' b3=>?_,_,U⟩;by_cases a2:r'=r
  .subst a2;exact⟨_,ae,by rw[dy,iU];lia⟩
  .let(a8,b9,d4):=a6 r' b3;exact⟨a8,(ay a2).trans b9,∅⟩
 rintro c4 H5 ⟨s5,c5,rfl⟩;calc⟨_,U,t,dv,bs,v,U,G.same s5,∅,λe3 d1 H6 s6 n6 e6 a5=>?_⟩;let D:=s5.trans s6;refine⟨_,U,p8 (SqL.of e6) (SqL.of<|D _ _ hb) (by rw[⇑a5,a0]) (λj x y a b=>yw a5 (PL.mono hP D.tups) j x y a b) ⟨_,U,fX ?_⟩⟩;calc⟨_,U,t,dv,bs,v,L,U,G.same D,∅,oi,eA,a1,hL,λl2 c2 FZ H7 s7 d2 c1 J b5 b4 Hn=>?_⟩;rw[uq c2 FZ H7 J b5 b4]at J;let N:=D.trans s7;calc⟨_,U,p8 (SqL.of c1) (SqL.of<|N _ _ hm) (by rw[bc,bc,J.1,hM.1]) (λj x y a b=>vB J (hM.same N) a b) (q H7 N)⟩
theorem F0(F:Fun K "refuse_way" "refuse_way" Y77 f fd) (bl:Bl K mg Y)(k:Callee P w K mg base 4 "way_by" ["name"] (jg K Y)):aK P w K mg base CX0 5 f fd ["way","outcome"] (gg K Y):=by
 refine F.okA Z77 λu A g s H y Q E r h=>?_
 let(z,B,rfl,l,d,q):=h
 refine⟨_,(aj (aP (PW.pt<|ir (aI cb (cc (aL k r U<|aa (pv 0) af) U) aN<|aJ _)<|fL<|cy<|au cZ U bl.isinstance_ PyProof.Rows.boot_isinstance<|aa (pv 1)<|aa (eF (v:=.ref Y.m) U bl.Words_ U) af)
  (aj cz)
  aF)),?_⟩
 calc⟨_,U,z,U,l,λi D x C J b a p=>?_⟩;let j:Cls K C/\NoAttr K C s!"called":=by
  match i,a with
  |0,a=>cases a;exact⟨bl.k_First,bl.na_First_called⟩
  |1,a=>cases a;exact⟨bl.k_Only,bl.na_Only_called⟩
  |2,a=>cases a;exact⟨bl.k_Like,bl.na_Like_called⟩
  |3,a=>cases a;exact⟨bl.k_Low,bl.na_Low_called⟩
  |4,a=>cases a;exact⟨bl.k_High,bl.na_High_called⟩
  |5,a=>cases a;exact⟨bl.k_Sum,bl.na_Sum_called⟩
  |n+6,a=>simp[cl6]at a
 let(I,o):=p;calc⟨x,_,_,_,_,U,o,j.1,j.2,U,U,_,U,?_⟩;by_cases c:z=s!"sum"
 .let(G,fs,t):=d c;exact dZ (by rw[c]) ⟨_,U,_,_,_,_,Ll,U,.ref _,bl.t_Numbers.ty<|b _ _ t,bl.f_nw,_,U,bV<|q _ b⟩
 .exact bY (λe=>by injection e with e;exact c e) (bV<|q _ b)
theorem F4(F:Fun K "judged" "judged" Y45 f fd) (bl:Bl K mg Y)(jl:bD CX0 P w K mg base 4 Y.e "verdict" ["self","codes","outcome"] (J12 K Y)) (j3:bD CX0 P w K mg base 4 Y.f "verdict" ["self","codes","outcome"] (J16 K Y)) (j4:bD CX0 P w K mg base 4 Y.g "verdict" ["self","codes","outcome"] (J14 K Y)) (kQ:bD CX0 P w K mg base 4 Y.h "verdict" ["self","codes","outcome"] (J15 K Y)) (j5:bD CX0 P w K mg base 4 Y.i "verdict" ["self","codes","outcome"] (J13 K Y)) (kR:bD CX0 P w K mg base 4 Y.j "verdict" ["self","codes","outcome"] (J17 K Y)) (oo:Callee P w K mg base 4 "way_by" ["name"] (jg K Y)):aK P w K mg base CX0 5 f fd ["table","rows"] (gv K Y):=by
 refine F.okA Z45 λa5 A a4 s H vs Q E hr h=>?_
 let(t,a,wi,o,m,rfl,(rl,ou,dx,fs,xs,wy,O,hf,a1,a2,y,hR,v,a0,z,oi),q):=h
 refine⟨_,(aq (yb (i:=2) Z45.nd U (Or.inl U) (zG U bl.enumerate_<|aa (cc (pv 0) U) af) (fQ (N:=["k","row","rows"]) (k:=2) (fr:=[1]) (cl:=[("rows",↥s+1)]) U U (~~~0) (~~~0) U U (fu.mpr ⟨U,ja _⟩) U) U (λ_ _ _ _=>(pH (K:=K) (n:=2) U U<|aM (aE (i:=0) (show(["k","row","rows"]:Ly Str).Nodup by decide+kernel) U (Or.inl U) (Or.inr U)) (aM (aE (i:=1) (show(["k","row","rows"]:Ly Str).Nodup by decide+kernel) U (Or.inl U) (Or.inr U)) cI))) (λ_ _ _ _=>(gF<|wg (K:=K) U<|aD Be (aD Bd (pv 2)<|pv 0) ak)) (λ_ _ _ _=>(aH (dk (K:=K) U) (pv 1) ak<|λ_ _=>U)))
  (aj<|ax<|xN (rN jl bl.k_First<|rN j3 bl.k_Only<|rN j4 bl.k_Like<|rN kQ bl.k_Low<|rN j5 bl.k_High<|rN kR bl.k_Sum CY) bU hr (aL oo hr U<|aa (cc (pv 0) U) af)<|aa (pv 2)<|aa (cc (pv 0) U) af)),?_⟩
 show(let r1:TS:=_;aR _ r1 _ _ _);intro _;let S:⇑xs=⇑a:=hR.1
 refine⟨_,U,t,_,_,_,_,U,O,bl.k_Table,bl.na_Table_rows,hf,rl,U,⟨_,SqL.of y⟩,uw (xs:=xs) (λD i zs c=>ar H c/\c D=Lh (.lst zs)/\zs=(pkF a (gq m) i).map V.int)
  (λD u=>⟨ai u _,ae,U⟩) (λD i zs c u _ h=>SqL.of<|h.1 _ _ y) (λD i x zs c T u ex h hT ts X=>?_) (λD zs c u h=>?_)⟩
 .let(I,L,rfl):=h;let s2:=I.trans<|ai hT<|.tup [.int i,x];let eT:upd c T (.tup [.int i,x]) T=Lh (.tup [.int i,x]):=ae;let d:=ai hT (.tup [.int i,x]) _ _ L;generalize upd c T (.tup [.int i,x])=H2 at s2 eT d⊢;let(r,w_,rfl,ew,ce,cv,g1,_,g2,g3):=aS.get (hR.same s2) ex;let hi:i<⇑xs:=(HG.mp ex).1;let hg:a.getD i ([],0)=w_:=getD_at ew;let Z:=vp a (gq m) i;let(G,B,rfl):∃G B,ts=[G,B]:=by
   match ts,X with
   | [G,B],_=>exact⟨G,B,U⟩
  calc⟨T,_,U,SqT.of eT,U,_,_,U,_,_,U,U,⟨[Lh (.int i),↑r],U,U⟩,?_⟩;calc⟨_,U,_,U,_,_,U,U,Int.natCast_nonneg _,_,_,U,U,gq m i,U,?_⟩;let p:=sh a (gq m) i;rw[hg]at p;cases hb:gq m i with
  |true =>
   rw[hb]at p;refine fX ⟨_,U,r,_,_,_,U,U,SqT.of g1,U,cA.mk hi d (az (by rw[bc];lia)) ⟨s2.upd u,ae,?_⟩⟩;rw[p,dW];rfl
  |false =>
   rw[hb]at p;calc bV<|dj.mk (zs:=(pkF a (gq m) i).map V.int) hi ⟨s2,d,?_⟩;rw[p];simp
 .let(I,L,rfl):=h;rw[S]at L;let W:wy∈six:=HH v;calc⟨_,U,t,_,_,_,_,U,I _ _ O,bl.k_Table,bl.na_Table_way,a1,wy,U,W,λJ a3 x C H2 s2 b hw=>?_⟩;let ii:J=wi:=zL a3 v;subst ii;let M:=I.trans s2;let(dw,hx):=hw;let Z:=vp a (gq m) ⇑a;let R:(C,kK K C Y.l Y.m J)∈[(Y.e,kK K Y.e Y.l Y.m 0),(Y.f,kK K Y.f Y.l Y.m 1),(Y.g,kK K Y.g Y.l Y.m 2),(Y.h,kK K Y.h Y.l Y.m 3),(Y.i,kK K Y.i Y.l Y.m 4),(Y.j,kK K Y.j Y.l Y.m 5)]:=by
   match J,b with
   |0,b=>cases b;exact .head _
   |1,b=>cases b;exact .tail _<|.head _
   |2,b=>cases b;exact .tail _<|.tail _<|.head _
   |3,b=>cases b;exact .tail _<|.tail _<|.tail _<|.head _
   |4,b=>cases b;exact .tail _<|.tail _<|.tail _<|.tail _<|.head _
   |5,b=>cases b;exact .tail _<|.tail _<|.tail _<|.tail _<|.tail _<|.head _
   |n+6,b=>simp[cl6]at b
  calc⟨x,(C,kK K C Y.l Y.m J),dw,_,U,R,hx,U,_,U,_,U,t,_,_,_,_,U,M _ _ O,bl.k_Table,bl.na_Table_outcome,a2,x,D,ou,_,o,U,⟨dw,_,hx⟩,a0.same M,z,SqL.of<|s2 _ _ L,∅,λr H3 s3 h3=>q r H3 (M.trans s3) h3⟩
theorem F5(F:Fun K "_law_domain" "_law_domain" Y52 f fd) (bl:Bl K mg Y)(a:bw CX0 P w K mg base 3 "Numbers" Y.l ["self","low","high"] (bj K Y)) (c:bw CX0 P w K mg base 3 "Words" Y.m ["self","words"] (cC K Y)):aK P w K mg base CX0 5 f fd ["pair","words"] (gh K Y):=by
 refine F.okA Z52 λa0 A C s H vs Q E G h=>?_
 let(r,p,b,rfl,v,z,t,q):=h
 refine⟨_,(aq (aP (cy<|pv 1)
  (aj<|ax<|mZ c bU G U<|aa (kr mD (aW<|aa aN<|aa aN<|aa aN<|aa aN<|aa aN<|aa aN<|aa aN<|aa aN af) mB<|mC<|aD bE (aH aO (pv 0) ak<|λ_ _=>U) ak) af)
  aF)
  (aj<|ax<|mZ a bU G U<|aa (aH aO (pv 0) ak<|λ_ _=>U)<|aa (aH aO (pv 0) ak<|λ_ _=>U) af)),?_⟩
 show(let O:TS:=_;aR _ O _ _ _);intro _;calc⟨_,U,_,U,?_⟩;cases b with
 |true =>
  let(Z,h7):=t U;refine fX ⟨(by show 8<=HU;decide),λl T=>?_⟩;let k:=ai T<|.lst<|w8.map V.str;let I:upd H l (.lst<|w8.map V.str) l=Lh (.lst<|w8.map V.str):=ae;let ee:∀X,upd H l X=upd H l X:=λ_=>U
  let B:=k _ _ v;calc⟨_,U,r,_,_,_,U,U,SqT.of B,U,_,_,U,U,_,U,l,_,U,SqL.of I,λo i=>?_⟩;let M:qi (w8.map V.str) Li (Lh<|p.2+1)=(w8.take (p.2+1).toNat).map V.str:=yJ ∅;let e0:upd H l (.lst [V.str s!"ab",V.str s!"a",V.str s!"b",V.str s!"ba",V.str s!"none",V.str s!"fact",V.str s!"aab",V.str s!"zzzzzzzzzzzz"])=upd H l (.lst<|w8.map V.str):=rfl;rw[e0]at i⊢;generalize upd H l (.lst<|w8.map V.str)=H1 at k I i⊢;rw[M];intro x d j g y;let n:⇑(w8.take (p.2+1).toNat)=(p.2+1).toNat:=by rw[iT];exact CO (by show(p.2+1).toNat<=8;lia)
  let s2:=ai i<|.lst<|(w8.take (p.2+1).toNat).map V.str;let J:upd H1 o (.lst<|(w8.take (p.2+1).toNat).map V.str) o=Lh (.lst<|(w8.take (p.2+1).toNat).map V.str):=ae;generalize upd H1 o (.lst<|(w8.take (p.2+1).toNat).map V.str)=H2 at s2 J j g⊢;let D:ar H2 (upd (upd H2 d<|.own x) x<|.ins Y.m d []):=(ai g _).upd j;calc⟨x,d,o,w8.take (p.2+1).toNat,U,ae,D _ _ J,zV.take ∅,λL lw S R k3=>⟨U,?_⟩⟩;let N:ar H2 L:=λb u e=>S b u (aU e j)<|D _ _ e
  refine q x L ((k.trans s2).trans N) ⟨Y.m,.inr U,d,_,R,?_,?_,U⟩
  .rw[Z];rfl
  .let W:hiW (w8.take (p.2+1).toNat)=p.2:=by unfold hiW;rw[n];lia
   exact(show _=Lh (V.int<|hiW<|w8.take (p.2+1).toNat)from U).trans (by rw[W])
 |false =>
  calc bV ⟨_,U,r,_,_,_,U,U,SqT.of v,U,_,U,r,_,_,_,U,U,SqT.of v,U,λx d j g y=>?_⟩;let k:ar H (upd (upd H d<|.own x) x<|.ins Y.l d []):=(ai g _).upd j;calc⟨x,d,p.1,p.2,U,ae,z,U,q x _ (λb u e=>?_) ⟨Y.l,.inl U,d,_,ae,U,U,U⟩⟩;let t:b≠x:=aU e j;unfold mkd;rw[ay t,ay t];calc k _ _ e
theorem F6(F:Fun K "__init__" "Table.__init__" Y17 f fd) (bl:Bl K mg Y)(oq:Callee P w K mg base 5 "refuse_names" ["names"] (eU K Y)) (mx:Callee P w K mg base 5 "refuse_counts" ["names","rows"] (eB K Y)) (qQ:Callee P w K mg base 5 "refuse_way" ["way","outcome"] (gg K Y)) (qR:Callee P w K mg base 5 "refuse_row" ["domains","outcome","cells","code"] (gf K Y)) (wK:Callee P w K mg base 5 "own_row" ["cells","code"] (jR K Y)):aK P w K mg base CX0 6 f fd ["self","name","names","domains","outcome","way","rows"] (bO K Y):=by
 refine F.okA Z17 λd2 A c4 s H vs Q E hr h=>?_
 let(x,g,na,dl,m,rl,c,B,l,C,rx,bs,o,a1,rfl,hx,S,hw,b5,h1,h4,b0,b1,a0,c0,b4,J,hR,oi,d1,hok,q):=h
 refine⟨_,(aq (bg<|aL oq hr U<|aa (aD lE (aW<|aa (pv 1) af)<|pv 2) af)
  (aq (bg<|aL mx hr U<|aa (pv 2)<|aa (pv 6) af)
  (aq (bg<|aL qQ hr U<|aa (pv 5)<|aa (pv 4) af)
  (aC (bp IG.never U (aQ<|pv 6) (fV U<|aM (aE (i:=7) Z17.nd U<|Or.inl U)<|aM (aE (i:=8) Z17.nd U<|Or.inl U) cI)
  (aj<|bg<|aL qR hr U<|aa (pv 3)<|aa (pv 4)<|aa (pv 7)<|aa (pv 8) af))
  (aq (cO (pv 0) (pv 1) U)
  (aq (cO (pv 0) (bJ cV U bl.list_ PyProof.Rows.boot_list<|aa (pv 2) af) U)
  (aq (cO (pv 0) (bJ cV U bl.list_ PyProof.Rows.boot_list<|aa (pv 3) af) U)
  (aq (cO (pv 0) (pv 4) U)
  (aq (cO (pv 0) (pv 5) U)
  (aj<|cO (pv 0) (iA (aQ<|pv 6) (ku (N:=["cells","code"]) (k:=2) U U (~~~0) (~~~0)<|~~~0) U (λ_ _ _ _=>(pH (K:=K) (n:=2) U U<|aM (aE (i:=0) (show(["cells","code"]:Ly Str).Nodup by decide+kernel) U (Or.inl U) (Or.inr U)) (aM (aE (i:=1) (show(["cells","code"]:Ly Str).Nodup by decide+kernel) U (Or.inl U) (Or.inr U)) cI))) (λ_ _ _ _=>bC) (λ_ _ _ _=>(aL wK hr U<|aa (pv 0)<|aa (pv 1) af))) U)))))))))),?_⟩
 show(let r9:TS:=_;let r8:TS:=aR _ r9;let r7:TS:=aR _ r8;let r6:TS:=aR _ r7;let r5:TS:=aR _ r6;let r4:TS:=aR _ r5;let r3:TS:=bX _ r4;let r2:TS:=aR _ r3;let r1:TS:=aR _ r2;aR _ r1 _ _ _);intro _ _ _ _ _ _ _ _ _;let Z:⇑(l.map V.str)=⇑l:=bc _;refine⟨_,U,(by show 1<=HU;decide),λl1 b9=>?_⟩;let s1:=ai b9<|.lst [.str c];let e1:upd H l1 (.lst [.str c]) l1=Lh (.lst [.str c]):=ae;generalize upd H l1 (.lst [.str c])=H1 at s1 e1⊢;refine⟨_,U,l1,na,_,_,U,U,e1,s1 _ _ S,(by rw[Z];show 1+⇑l<=HU;exact big ∅),λl2 b6=>?_⟩;let s2:=s1.trans<|ai b6<|.lst<|[V.str c]++l.map V.str;let e2:upd H1 l2 (.lst<|[V.str c]++l.map V.str) l2=Lh (.lst<|(c :: l).map V.str):=ae;generalize upd H1 l2 (.lst<|[V.str c]++l.map V.str)=H2 at s2 e2⊢;refine⟨l2,c :: l,U,SqL.of e2,hw,b5,by rw[ik];lia,λH3 t3=>?_⟩;let s3:=s2.trans t3;refine⟨_,U,_,U,na,rl,_,_,U,SqL.of<|s3 _ _ S,SqL.of<|s3 _ _ J,by rw[Z];exact h1,by rw[Z];exact h4,oi,?_⟩;calc⟨_,U,_,U,B,m,U,b0,(λz=>let ⟨dx',fs',e'⟩:=b1 z;⟨dx',fs',s3 _ _ e'⟩),λH4 t4=>?_⟩;let s4:=s3.trans t4;refine(let I_:St->Hp->Prop:=λa6 v=>ar H v/\∃c7 c8:Option V,a6=[↑x,Lh<|.str c,↑na,↑dl,↑m,Lh<|.str B,↑rl,c7,c8];⟨I_,?_,?_⟩)
 .refine⟨_,U,rl,U,⟨_,SqL.of<|s4 _ _ J⟩,(let I_:Nat->St->Hp->Prop:=λi σ v=>ar H v/\∃c7 c8:Option V,σ=[↑x,Lh<|.str c,↑na,↑dl,↑m,Lh<|.str B,↑rl,c7,c8];bu (xs:=rx) I_ ⟨s4,_,_,U⟩ (λi σ v _ h=>SqL.of<|h.1 _ _ J) (λi y σ v e h=>?_) (λσ v h=>h))⟩;let(u,c7,c8,rfl):=h;let(r,w_,rfl,ew,ce,cv,g1,_,g2,g3):=aS.get (hR.same u) e;calc⟨r,_,U,SqT.of g1,U,_,_,U,_,_,U,U,?_⟩;exact⟨_,U,_,U,_,U,_,U,dl,m,ce,C,cv,bs,o,w_,U,SqL.of<|u _ _ a0,aS.mono c0 λ_ _ p=>p.same u,b4.same u,g2,g3,hok w_<|HH ew,λH2 t2=>⟨u.trans t2,_,_,U⟩⟩
 rintro c5 G ⟨W,c7,c8,rfl⟩;let x5:=W _ _ hx;let a8:na≠x:=ip S hx (by intro z;cases z);let c2:dl≠x:=ip a0 hx (by intro z;cases z);let a7:rl≠x:=ip J hx (by intro z;cases z);let k5:∀b o,b≠x->H b=Lh o->G b=Lh o:=λb o _ e=>W b o e
 let R5:=RL.hide x5<|hR.same W;refine⟨_,U,_,U,x,_,g,_,U,x5,bl.k_Table,bl.na_Table_name,(by show 0<1000;decide),?_⟩;let k6:∀b o,b≠x->G b=Lh o->upd G x (.ins Y.n g [(s!"name",.str c)]) b=Lh o:=λb o t e=>(ay t).trans e
 let x6:upd G x (.ins Y.n g [(s!"name",.str c)]) x=Lh (.ins Y.n g [(s!"name",.str c)]):=ae;let g6:upd G x (.ins Y.n g<|bI s!"name" (.str c) [])=upd G x (.ins Y.n g [(s!"name",.str c)]):=rfl;rw[g6];clear g6;generalize upd G x (.ins Y.n g [(s!"name",.str c)])=H6 at k6 x6⊢;refine⟨_,U,na,_,U,.inl<|SqL.of<|k6 _ _ a8<|W _ _ S,λd T=>⟨_,U,x,_,g,_,U,dN x6 T,bl.k_Table,bl.na_Table_names,(by show 1<1000;decide),?_⟩⟩;let g7:upd (upd H6 d<|.lst<|l.map V.str) x (.ins Y.n g<|bI s!"names" (V.ref d) [(s!"name",V.str c)])=upd (upd H6 d<|.lst<|l.map V.str) x (.ins Y.n g [(s!"name",V.str c),(s!"names",V.ref d)]):=by rw[pf1]
 rw[g7];clear g7;let k7:∀b o,b≠x->G b=Lh o->upd (upd H6 d<|.lst<|l.map V.str) x (.ins Y.n g [(s!"name",V.str c),(s!"names",V.ref d)]) b=Lh o:=λb o t e=>(ay t).trans<|dN (k6 b o t e) T
 let x7:upd (upd H6 d<|.lst<|l.map V.str) x (.ins Y.n g [(s!"name",V.str c),(s!"names",V.ref d)]) x=Lh (.ins Y.n g [(s!"name",V.str c),(s!"names",V.ref d)]):=ae;let I:d≠x:=λz=>by rw[z,x6]at T;cases T
 let j7:upd (upd H6 d<|.lst<|l.map V.str) x (.ins Y.n g [(s!"name",V.str c),(s!"names",V.ref d)]) d=Lh (.lst<|l.map V.str):=(ay I).trans ae;generalize upd (upd H6 d<|.lst<|l.map V.str) x (.ins Y.n g [(s!"name",V.str c),(s!"names",V.ref d)])=H7 at k7 x7 j7⊢;refine⟨_,U,dl,_,U,.inl<|SqL.of<|k7 _ _ c2<|W _ _ a0,λj L=>⟨_,U,x,_,g,_,U,dN x7 L,bl.k_Table,bl.na_Table_domains,(by show 2<1000;decide),?_⟩⟩;let g8:upd (upd H7 j<|.lst C) x (.ins Y.n g<|bI s!"domains" (V.ref j) [(s!"name",V.str c),(s!"names",V.ref d)])=upd (upd H7 j<|.lst C) x (.ins Y.n g [(s!"name",V.str c),(s!"names",V.ref d),(s!"domains",V.ref j)]):=by rw[pf2]
 rw[g8];clear g8;let k8:∀b o,b≠x->G b=Lh o->upd (upd H7 j<|.lst C) x (.ins Y.n g [(s!"name",V.str c),(s!"names",V.ref d),(s!"domains",V.ref j)]) b=Lh o:=λb o t e=>(ay t).trans<|dN (k7 b o t e) L
 let x8:upd (upd H7 j<|.lst C) x (.ins Y.n g [(s!"name",V.str c),(s!"names",V.ref d),(s!"domains",V.ref j)]) x=Lh (.ins Y.n g [(s!"name",V.str c),(s!"names",V.ref d),(s!"domains",V.ref j)]):=ae;let O:j≠x:=λz=>by rw[z,x7]at L;cases L
 let j8:upd (upd H7 j<|.lst C) x (.ins Y.n g [(s!"name",V.str c),(s!"names",V.ref d),(s!"domains",V.ref j)]) d=Lh (.lst<|l.map V.str):=(ay I).trans<|dN j7 L;let i8:upd (upd H7 j<|.lst C) x (.ins Y.n g [(s!"name",V.str c),(s!"names",V.ref d),(s!"domains",V.ref j)]) j=Lh (.lst C):=(ay O).trans ae;generalize upd (upd H7 j<|.lst C) x (.ins Y.n g [(s!"name",V.str c),(s!"names",V.ref d),(s!"domains",V.ref j)])=H8 at k8 x8 j8 i8⊢;refine⟨_,U,_,U,x,_,g,_,U,x8,bl.k_Table,bl.na_Table_outcome,(by show 3<1000;decide),?_⟩;let g9:upd H8 x (.ins Y.n g<|bI s!"outcome" (V.ref m) [(s!"name",V.str c),(s!"names",V.ref d),(s!"domains",V.ref j)])=upd H8 x (.ins Y.n g [(s!"name",V.str c),(s!"names",V.ref d),(s!"domains",V.ref j),(s!"outcome",V.ref m)]):=by rw[pf3]
 rw[g9];clear g9;let k9:∀b o,b≠x->G b=Lh o->upd H8 x (.ins Y.n g [(s!"name",V.str c),(s!"names",V.ref d),(s!"domains",V.ref j),(s!"outcome",V.ref m)]) b=Lh o:=λb o t e=>(ay t).trans<|k8 b o t e
 let x9:upd H8 x (.ins Y.n g [(s!"name",V.str c),(s!"names",V.ref d),(s!"domains",V.ref j),(s!"outcome",V.ref m)]) x=Lh (.ins Y.n g [(s!"name",V.str c),(s!"names",V.ref d),(s!"domains",V.ref j),(s!"outcome",V.ref m)]):=ae;let j9:upd H8 x (.ins Y.n g [(s!"name",V.str c),(s!"names",V.ref d),(s!"domains",V.ref j),(s!"outcome",V.ref m)]) d=Lh (.lst<|l.map V.str):=(ay I).trans j8;let i9:upd H8 x (.ins Y.n g [(s!"name",V.str c),(s!"names",V.ref d),(s!"domains",V.ref j),(s!"outcome",V.ref m)]) j=Lh (.lst C):=(ay O).trans i8;generalize upd H8 x (.ins Y.n g [(s!"name",V.str c),(s!"names",V.ref d),(s!"domains",V.ref j),(s!"outcome",V.ref m)])=H9 at k9 x9 j9 i9⊢;refine⟨_,U,_,U,x,_,g,_,U,x9,bl.k_Table,bl.na_Table_way,(by show 4<1000;decide),?_⟩;let a4:upd H9 x (.ins Y.n g<|bI s!"way" (V.str B) [(s!"name",V.str c),(s!"names",V.ref d),(s!"domains",V.ref j),(s!"outcome",V.ref m)])=upd H9 x (.ins Y.n g [(s!"name",V.str c),(s!"names",V.ref d),(s!"domains",V.ref j),(s!"outcome",V.ref m),(s!"way",V.str B)]):=by rw[pf4]
 rw[a4];clear a4;let R:∀b o,b≠x->G b=Lh o->upd H9 x (.ins Y.n g [(s!"name",V.str c),(s!"names",V.ref d),(s!"domains",V.ref j),(s!"outcome",V.ref m),(s!"way",V.str B)]) b=Lh o:=λb o t e=>(ay t).trans<|k9 b o t e
 let M:upd H9 x (.ins Y.n g [(s!"name",V.str c),(s!"names",V.ref d),(s!"domains",V.ref j),(s!"outcome",V.ref m),(s!"way",V.str B)]) x=Lh (.ins Y.n g [(s!"name",V.str c),(s!"names",V.ref d),(s!"domains",V.ref j),(s!"outcome",V.ref m),(s!"way",V.str B)]):=ae;let a2:upd H9 x (.ins Y.n g [(s!"name",V.str c),(s!"names",V.ref d),(s!"domains",V.ref j),(s!"outcome",V.ref m),(s!"way",V.str B)]) d=Lh (.lst<|l.map V.str):=(ay I).trans j9;let a3:upd H9 x (.ins Y.n g [(s!"name",V.str c),(s!"names",V.ref d),(s!"domains",V.ref j),(s!"outcome",V.ref m),(s!"way",V.str B)]) j=Lh (.lst C):=(ay O).trans i9;generalize upd H9 x (.ins Y.n g [(s!"name",V.str c),(s!"names",V.ref d),(s!"domains",V.ref j),(s!"outcome",V.ref m),(s!"way",V.str B)])=H10 at R M a2 a3⊢;let c3:RL NT H10 rx a1:=RL.same R5<|hide_same R;let AY:=R _ _ a7<|W _ _ J
 refine⟨_,U,rl,U,⟨_,SqL.of AY⟩,(let I_:HR->Nat->Ly V->Hp->Prop:=λD i l v=>ar H10 v/\v D=Lh (.lst l)/\RL (Fr H10 D) v l (a1.take i);jI (xs:=rx) I_)
  (λD X=>⟨ai X _,ae,aS.nil⟩) (λD i l v X _ h=>SqL.of<|h.1 _ _ AY) (λD i y l v X e h ts b3=>?_) (λD l v X h=>?_)⟩
 .let(u,eD,hz):=h;let(r,w_,rfl,ew,ce,cv,g1,_,g2,g3):=aS.get (c3.same u) e;let hi:i<⇑rx:=(HG.mp e).1;let(t0,t1,rfl):∃t0 t1,ts=[t0,t1]:=by
   match ts,b3 with
   | [t0,t1],_=>exact⟨t0,t1,U⟩
  calc⟨r,_,U,SqT.of g1,U,_,_,U,_,_,U,U,⟨[↑ce,Lh (.int w_.2)],U,U⟩,?_⟩;refine⟨_,U,_,U,ce,cv,w_,U,g2,g3,by rw[(hok w_<|HH ew).len];lia,λr2 H2 t2 c6 eA=>?_⟩;let a5:=t2 _ _ eD;let d0:⇑l<=200:=by
   let:=hz.1;rw[iT]at this;lia
  calc cA.mk hi a5 (az ∅) ⟨(u.trans t2).upd X,ae,?_⟩;rw[take_snoc ew];exact RL.updN (aS.snoc (hz.same t2)<|eA.wk λa h=>⟨u.free h,λz=>by rw[z,eD]at h;cases h⟩) Fr.out a5
 .let(u,eD,hz):=h;rw[hR.1,gd]at hz;refine⟨_,U,x,_,g,_,U,u _ _ M,bl.k_Table,bl.na_Table_rows,(by show 5<1000;decide),?_⟩;let c1:upd v x (.ins Y.n g<|bI s!"rows" (V.ref D) [(s!"name",V.str c),(s!"names",V.ref d),(s!"domains",V.ref j),(s!"outcome",V.ref m),(s!"way",V.str B)])=upd v x (.ins Y.n g [(s!"name",V.str c),(s!"names",V.ref d),(s!"domains",V.ref j),(s!"outcome",V.ref m),(s!"way",V.str B),(s!"rows",V.ref D)]):=by rw[pf5]
  rw[c1];let a9:D≠x:=λz=>by rw[z,M]at X;cases X
  calc q _ _ D l (λb o t e=>(ay t).trans<|u _ _<|R b o t<|W _ _ e) ae U U U U ⟨d,j,U,U,(ay I).trans<|u _ _ a2,(ay O).trans<|u _ _ a3⟩ ((ay a9).trans eD) ?_;calc RL.same (RL.hide (u _ _ M) hz.any)<|hide_same λb o t e=>(ay t).trans e
theorem F7{k n:Nat}(F:Fun K "boxes" "boxes" Y33 f fd) (bl:Bl K mg Y)(qS:Callee P w K mg base k "boxes" ["form","deep"] (iQ K Y n)):aK P w K mg base CX0 (k+1) f fd ["form","deep"] (iQ K Y<|n+1):=by
 refine F.okA Z33 λd1 A c2 s H vs Q E hr h=>?_
 let(g,a6,a,d,f_,v,rfl,hf,hn,J,h6,q):=h
 refine⟨_,(aq (aP (aI cb (pv 1) ak<|aJ _)
  (aj<|ax<|aW<|aa (bq<|aa (bq af)<|aa (pv 0) af) af)
  aF)
  (aq (aG (i:=2) Z33.nd U (Or.inl U)<|aW af)
  (aq (bp IG.never U (qg<|pv 0) (fV U<|aM (aE (i:=3) Z33.nd U<|Or.inl U)<|aM (aE (i:=4) Z33.nd U<|Or.inl U)<|aM (aE (i:=5) Z33.nd U<|Or.inl U) cI)
  (aj (bp IG.never U (aQ<|aL qS hr U<|aa (pv 5)<|aa (aD dI (pv 1) ak) af) (fV U<|aM (aE (i:=6) Z33.nd U<|Or.inl U)<|aM (aE (i:=7) Z33.nd U<|Or.inl U) cI)
  (aj<|bg<|fe PySem.F.plainAttrs_list PySem.F.slot_list_append PySem.F.type_list_append bG (pv 2)<|aa (bq<|aa (aD xH (bq<|aa (bq<|aa (pv 3)<|aa (pv 4) af) af)<|pv 6)<|aa (pv 7) af) af))))
  (aj<|ax<|pv 2)))),?_⟩
 show(let r3:TS:=_;let r2:TS:=aR _ r3;let r1:TS:=aR _ r2;aR _ r1 _ _ _);intro _ _ _;cases d with
 |zero =>
  let hf:a.R H f_ v:=hf;calc⟨_,U,U,_,U,dZ U ?_⟩;refine⟨(by show 0<=HU;decide),λb hb=>?_⟩;let s1:=ai hb<|.tup [];let e1:upd H b (.tup []) b=Lh (.tup []):=ae;generalize upd H b (.tup [])=H1 at s1 e1⊢;calc⟨_,U,bA,λt ht=>?_⟩;let s2:=ai ht<|.tup [.ref b,v];let e2:upd H1 t (.tup [.ref b,v]) t=Lh (.tup [.ref b,v]):=ae;generalize upd H1 t (.tup [.ref b,v])=H2 at s2 e2⊢;refine⟨(by show 1<=HU;decide),λl X=>?_⟩;let s3:=ai X<|.lst [V.ref t];let s:=(s1.trans s2).trans s3;exact q l _ _ s ((s1.trans s2).free X) ae<|.cons ⟨t,b,v,U,s3 _ _ e2,⟨[],s3 _ _<|s2 _ _ e1,.nil⟩,a.mono s.tups hf⟩ .nil
 |succ d =>
  let(r,xs,rfl,er,hp):=hf;let(L,hL):∃L:Ly (T3a<|Fm g d),L=f_:=⟨f_,U⟩;let hp:FmL (FmV a H d) H L xs:=by rw[hL];exact hp
  let J:⇑(bxs (d+1) (show Fm g (d+1)from L))<=2000:=by rw[hL];exact J
  let h6:∀q∈bxs (d+1) (show Fm g (d+1)from L),⇑q.1<=6:=by rw[hL];exact h6
  let q:∀(l:HR)(xs:Ly V)(o:Hp),ar H o->H l=Li->o l=Lh (.lst xs)->BxG a o xs (bxs (d+1) (show Fm g (d+1)from L))->Q (.ref l) o:=by rw[hL];exact q
  let a7:⇑xs=L.length:=hp.1;refine⟨_,U,U,_,U,bY (λz=>by have:=V.int.inj z;lia) ?_⟩;refine⟨(by show 0<=HU;decide),λl X=>?_⟩;let s0:ar H (upd H l<|.lst []):=ai X _;let e0:upd H l (.lst []) l=Lh (.lst []):=ae;generalize upd H l (.lst [])=H0 at s0 e0⊢;refine⟨_,U,r,U,⟨_,SqT.of<|s0 _ _ er⟩,(let I_:Nat->St->Hp->Prop:=λi C o=>ar H o/\∃(D:Ly V)(c3 c4 c5 O N:Option V),o l=Lh (.lst D)/\BxG a o D (bxs (d+1) (show Fm g (d+1)from L.take i))/\C=[↑r,Lh<|.int ((d+1:Nat):Int),↑l,c3,c4,c5,O,N];uS (xs:=xs) I_ ⟨s0,[],_,_,_,_,_,e0,.nil,U⟩ (λi C o _ h=>SqT.of<|h.1 _ _ er) (λi x C o ex M=>?_) (λC o M=>?_))⟩
  .let(sm,D,c3,c4,c5,O,N,el,hy,rfl):=M;let(e,ee):∃e,L[i]?=Lh e:=⟨_,HF (by have:=(HG.mp ex).1;lia)⟩;let(t,u,a3,et,hu):=hp.2 i e ee;rw[ex]at a3;cases a3;let es:bxs (d+1) (show Fm g (d+1)from L.take (i+1))=bxs (d+1) (show Fm g (d+1)from L.take i)++((bxs d e.2.2).map λq=>((e.1,e.2.1) :: q.1,q.2)):=by
    rw[take_snoc ee,qI,vt]
   let kv:∀q∈(bxs d e.2.2).map (λq=>((e.1,e.2.1) :: q.1,q.2)),q∈bxs (d+1) (show Fm g (d+1)from L):=λq hq=>tE.mpr ⟨e,HH ee,hq⟩
   let d0:⇑(bxs (d+1) (show Fm g (d+1)from L.take i))+⇑(bxs d e.2.2)<=2000:=by
    let e3:bxs (d+1) (show Fm g (d+1)from L)=bxs (d+1) (show Fm g (d+1)from L.take (i+1))++bxs (d+1) (show Fm g (d+1)from L.drop (i+1)):=by rw[←qI,lg]
    let:=Lw List.length e3;rw[es,dy,dy,bc]at this;lia
   let b4:∀q∈bxs d e.2.2,⇑q.1<=6:=λq hq=>by
    let:=h6 _<|kv _<|iv.mpr ⟨q,hq,U⟩;let:⇑q.1+1<=6:=this;lia
   let b5:∀q∈bxs d e.2.2,⇑q.1<=5:=λq hq=>by
    let:=h6 _<|kv _<|iv.mpr ⟨q,hq,U⟩;let:⇑q.1+1<=6:=this;lia
   calc⟨t,_,U,SqT.of<|sm _ _ et,U,_,_,U,_,_,U,_,_,U,U,?_⟩;refine⟨_,U,_,U,_,_,U,U,g,a6,a,d,e.2.2,u,(by show[u,V.int (((d+1:Nat):Int)-1)]=[u,V.int (d:Int)];rw[show((d+1:Nat):Int)-1=(d:Int) by lia]),FmV.mono sm.tups hu,∅,∅,b4,λl2 zs H2 s2 f2 e2 hz=>?_⟩;let c0:=s2 _ _ el;let nl:l≠l2:=λz=>by rw[←z,el]at f2;cases f2
   refine⟨l2,U,⟨_,SqL.of e2⟩,(let I_:Nat->St->Hp->Prop:=λk C B=>ar H B/\cG H2 B/\B l2=Lh (.lst zs)/\∃(D:Ly V)(O N:Option V),B l=Lh (.lst D)/\BxG a B D (bxs (d+1) (show Fm g (d+1)from L.take i)++((bxs d e.2.2).take k).map λq=>((e.1,e.2.1) :: q.1,q.2))/\C=[↑r,Lh<|.int ((d+1:Nat):Int),↑l,Lh<|.int e.1,Lh<|.int e.2.1,Lh u,O,N];bu (xs:=zs) I_ ⟨sm.trans s2,(λ_ _ h=>h),e2,D,_,_,c0,by rw[oj,qc,jk];exact hy.mono s2.tups,U⟩ (λk C B _ h=>SqL.of h.2.2.1) (λk x C B b6 M=>?_) (λC B M=>?_))⟩
   .let(T,S,a4,G,O,N,I,y,rfl):=M;let(q2,W,t2,b2,Z,rfl,b9,b3,a8):=nQ (hz.mono S) b6;let hk:k<⇑(bxs d e.2.2):=(HG.mp W).1;let c8:=b5 q2<|HH W;calc⟨t2,_,U,SqT.of b9,U,_,_,U,_,_,U,U,?_⟩;calc⟨_,U,.inl ⟨U,_,SqL.of I⟩,_,U,_,U,bA,λp b0=>?_⟩;let u1:=ai b0<|.tup [.int e.1,.int e.2.1];let g1:upd B p (.tup [.int e.1,.int e.2.1]) p=Lh (.tup [.int e.1,.int e.2.1]):=ae;generalize upd B p (.tup [.int e.1,.int e.2.1])=H4 at u1 g1⊢;refine⟨(by show 1<=HU;decide),λp2 b1=>?_⟩;let u2:=ai b1<|.tup [V.ref p];let g2:upd H4 p2 (.tup [V.ref p]) p2=Lh (.tup [V.ref p]):=ae;generalize upd H4 p2 (.tup [V.ref p])=H5 at u2 g2⊢;let(bs,c1,a1):=b3;let a0:=u1.trans u2;refine⟨_,U,yz g2 (a0 _ _ c1) (zz<|az (by rw[⇑a1,iU];lia)) λp3 H6 u3 g3=>?_⟩;let a5:=a0.trans u3;calc⟨_,U,bA,λj a9=>?_⟩;let u4:=ai a9<|.tup [.ref p3,Z];let g4:upd H6 j (.tup [.ref p3,Z]) j=Lh (.tup [.ref p3,Z]):=ae;generalize upd H6 j (.tup [.ref p3,Z])=H7 at u4 g4⊢;let c:=a5.trans u4;let a2:=c _ _ I;refine⟨l,_,_,U,U,a2,wD (by rw[⇑y,dy,bc,iT];lia),?_⟩;let m:cG H7 (upd H7 l<|.lst<|G++[.ref j]):=bK a2;calc⟨(T.trans c).upd X,(S.trans c.tups).trans m,(ay nl.symm).trans<|c _ _ a4,G++[.ref j],_,_,ae,?_,U⟩;rw[take_snoc W,dW,←jD];calc uC (y.mono<|c.tups.trans m)<|.cons ⟨j,p3,Z,U,m _ _ g4,⟨_,m _ _<|u4 _ _ g3,?_⟩,a.mono (c.tups.trans m) a8⟩ .nil;let pl1:PL H7 [V.ref p] [(e.1,e.2.1)]:=.cons ⟨p,U,u4 _ _<|u3 _ _<|u2 _ _ g1⟩ .nil;exact(PL.app pl1<|a1.mono c.tups).mono m
   .let(T,S,a4,G,O,N,I,y,rfl):=M;rw[⇑hz,gd]at y;exact⟨T,G,_,_,_,_,_,I,by rw[es];exact y,U⟩
  .let(sm,D,c3,c4,c5,O,N,el,hy,rfl):=M;rw[a7,gd]at hy;calc⟨_,U,q l D o sm X el hy⟩
theorem F8{k n:Nat}(F:Fun K "_law_shape" "_law_shape" Y66 f fd) (bl:Bl K mg Y)(sR:Callee P w K mg base k "_law_leaf" ["found"] (iP K Y)) (eZ:Callee P w K mg base k "_law_shape" ["form","bounds"] (dR K Y n)) (fE:Callee P w K mg base k "_law_int" ["found"] (gN K Y)):aK P w K mg base CX0 (k+1) f fd ["form","bounds"] (dR K Y<|n+1):=by
 refine F.okA Z66 λd2 A c5 s H vs Q E O h=>?_
 let(L_,a5,a4,d,F_,v,C,ys,ps,rfl,hn,d1,a1,hf,R,hP,Z,a8,q):=h
 refine⟨_,(aq (aP (aI cb (au aw U bl.len_ Lg<|aa (pv 1) af) ak<|aJ _)
  (aj<|ax<|aL sR O U<|aa (pv 0) af)
  aF)
  (aq (aP (PW.pt<|jr (bQ<|cy<|au cZ U bl.isinstance_ PyProof.Rows.boot_isinstance<|aa (pv 0)<|aa (eV (v:=.ty "tuple") U bl.tuple_ PyProof.Rows.boot_tuple U) af)<|iq<|aI cb (au aw U bl.len_ Lg<|aa (pv 0) af) ak<|aJ _)
  (aj<|ax cE)
  aF)
  (aC (aG (i:=2) Z66.nd U (Or.inl U)<|aH aO (aH ba (pv 1) ak<|λ_ _=>U) ak<|λ_ _=>U)
  (aq (bp IG.never U (bB U bl.range_<|aa (au aw U bl.len_ Lg<|aa (pv 0) af) af) (aE (i:=3) Z66.nd U<|Or.inl U)
  (aC (aG (i:=4) Z66.nd U (Or.inl U)<|aH aO (pv 0) (pv 3)<|λ_ _=>U)
  (aC (aP (PW.pt<|jr (bQ<|cy<|au cZ U bl.isinstance_ PyProof.Rows.boot_isinstance<|aa (pv 4)<|aa (eV (v:=.ty "tuple") U bl.tuple_ PyProof.Rows.boot_tuple U) af)<|iq<|aI l7 (au aw U bl.len_ Lg<|aa (pv 4) af) ak<|aJ _)
  (aj<|ax cE)
  aF)
  (aC (aP (PW.pt<|jr (bQ<|cy<|aL fE O U<|aa (aH aO (pv 4) ak<|λ_ _=>U) af)<|jr (bQ<|cy<|aL fE O U<|aa (aH aO (pv 4) ak<|λ_ _=>U) af)<|jr (aI l7 (aH aO (pv 4) ak<|λ_ _=>U) (pv 2)<|aJ _)<|iq<|aI hU (aH aO (pv 4) ak<|λ_ _=>U) (pv 2)<|aJ _)
  (aj<|ax cE)
  aF)
  (aC (aP (PW.pt<|ir (aI pj (pv 3) ak<|aJ _)<|fL<|aI (uz O) (aH aO (pv 4) ak<|λ_ _=>U) (aH aO (aH aO (pv 0) (aD dI (pv 3) ak)<|λ_ _=>U) ak<|λ_ _=>U)<|aJ _)
  (aj<|ax cE)
  aF)
  (aC (aP (bQ<|cy<|aL eZ O U<|aa (aH aO (pv 4) ak<|λ_ _=>U)<|aa (kr mD (pv 1) (mC ak) mB) af)
  (aj<|ax cE)
  aF)
  (aj<|aG (i:=2) Z66.nd U (Or.inl U)<|aD bE (aH aO (pv 4) ak<|λ_ _=>U) ak)))))))
  (aj<|ax<|eG cb (pv 2) (aD bE (aH aO (aH ba (pv 1) ak<|λ_ _=>U) ak<|λ_ _=>U) ak)<|aJ _))))),?_⟩
 show(let r4:TS:=_;let r3:TS:=aR _ r4;let r2:TS:=bX _ r3;let r1:TS:=aR _ r2;aR _ r1 _ _ _);intro _ _ _ _;let W:=⇑hP;cases d with
 |zero =>
  let a9:ps=[]:=Z;let a6:ys=[]:=sQ (by rw[W,a9];rfl);subst a6;exact⟨_,U,C,_,U,.inl<|SqL.of R,U,_,U,dZ U ⟨_,U,v,U,a1 _ _ _ hf,q H λ_ _ e=>e⟩⟩
 |succ d =>
  let(L,rfl):∃L:Ly (T3a<|Fm L_ d),(L:Fm L_ (d+1))=F_:=⟨F_,U⟩;let(p,T,rfl,b0,b5,b1,eW):ShS (fm d) L ps:=Z;let(c6,Cj):SmS 300 (SmF 300 d) L:=a8;let(a,I,rfl,ha,hL):∃(a:HR)(I:Ly V),v=.ref a/\H a=Lh (.tup I)/\FmL (FmV a4 H d) H L I:=hf;let(y0,c,rfl):∃y0 c,ys=y0 :: c:=by
   cases ys with
   |nil=>simp at W
   |cons y c=>exact⟨y,c,U⟩
  let(p',t0,ep,rfl,X):=hP.get (i:=0) U;cases ep;let b9:PL H c T:=by cases hP with|cons _ h=>exact h
  let c8:=hL.1;let d0:I.length≠0:=λz=>b0<|sQ ∅
  refine⟨_,U,C,_,U,.inl<|SqL.of R,U,_,U,bY (λz=>by have:=V.int.inj z;simp at this;lia) ?_⟩;refine⟨_,U,_,_,_,_,Lj,U,.ty _,.inl<|.tup ha,(by first|rfl|with_unfolding_all rfl|decide+kernel),_,U,bV ?_⟩;refine⟨_,U,a,_,U,.inr<|SqT.of ha,U,_,U,bY (λz=>by have:=V.int.inj z;lia) ?_⟩;refine⟨λb H1=>H1=H/\b=[↑a,↑C,Lh<|.int p.1,Li,Li],?_,?_⟩
  .exact⟨_,U,C,_,_,_,U,U,SqL.of R,bh (j:=0) U,t0,_,_,_,U,U,SqT.of X,U,U,U⟩
  rintro c7 H1 ⟨e1,rfl⟩;rw[e1];clear e1
  refine⟨_,U,a,_,U,.inr<|SqT.of ha,_,U,(by show -(2^62)<=((I.length:Nat):Int);lia),(by show((I.length:Nat):Int)<2^62;lia),dC (λi σ x=>ar H x/\∃(l:Int)(c3 c4:Option V),Ch3 (L.drop i) l p.2/\σ=[↑a,↑C,Lh<|.int l,c3,c4])
   ⟨λ_ _ e=>e,p.1,Li,Li,b5,U⟩ (λi σ x hi h=>?_) (λσ x h=>?_)⟩
  .let(B,l,c3,c4,M,rfl):=h;let b4:i<L.length:=∅
   let(t,et):∃t,L[i]?=Lh t:=⟨_,HF b4⟩;let(r,u,ex,er,hu):=hL.2 i t et;let ed:L.drop i=t :: L.drop (i+1):=by
    let(h,rfl):=HG.mp et;exact rG h
   rw[ed]at M;let(k1,k2,k3):=M;let m:=B _ _ er;let a0:=B _ _ ha;let tm:=HH et;refine⟨λb o=>o=x/\b=[↑a,↑C,Lh<|.int l,Lh<|.int<|0+(i:Int),↑r],?_,?_⟩
   .exact⟨_,U,_,U,a,_,_,_,U,U,SqT.of a0,lO ex,U,U⟩
   rintro G o ⟨D,rfl⟩;rw[D];clear D;refine⟨λb o=>o=x/\b=[↑a,↑C,Lh<|.int l,Lh<|.int<|0+(i:Int),↑r],?_,?_⟩
   .refine⟨_,U,_,_,_,_,Lj,U,.ty _,.inl<|.tup m,(by first|rfl|with_unfolding_all rfl|decide+kernel),_,U,bV ?_⟩;calc⟨_,U,r,_,U,.inr<|SqT.of m,U,_,U,?_⟩;exact cD (λg=>Lr g (by simp)) (λ_=>⟨U,U⟩)
   rintro G o ⟨D,rfl⟩;rw[D];clear D;refine⟨λb o=>o=x/\b=[↑a,↑C,Lh<|.int l,Lh<|.int<|0+(i:Int),↑r],?_,?_⟩
   .refine⟨_,U,r,_,_,_,U,U,SqT.of m,U,t.1,U,_,U,bV ?_⟩;calc⟨_,U,r,_,_,_,U,U,SqT.of m,U,t.2.1,U,_,U,bV ?_⟩;calc⟨_,U,r,_,_,_,U,U,SqT.of m,U,_,U,U,_,U,?_⟩;refine cD (λg=>Lr g (by rw[k1];simp)) (λ_=>?_);calc⟨_,U,r,_,_,_,U,U,SqT.of m,U,_,U,_,_,U,U,_,U,?_⟩;exact cD (λg=>Lr (fM g) ∅)<|λ_=>⟨U,U⟩
   rintro G o ⟨D,rfl⟩;rw[D];clear D;refine⟨λb o=>o=x/\b=[↑a,↑C,Lh<|.int l,Lh<|.int<|0+(i:Int),↑r],?_,?_⟩
   .refine⟨_,U,_,_,U,U,_,U,?_⟩;calc cD (λg=>?_)<|λ_=>bV ⟨U,U⟩;let g':0+(i:Int)>0:=fM g;let(J,rfl):∃J,i=J+1:=⟨i-1,∅⟩;let(t',a2):∃t',L[J]?=Lh t':=⟨_,HF ∅⟩;let(r',u',c0,c1,a7):=hL.2 J t' a2;let b3:atI I (0+((J+1:Nat):Int)-1)=↑r':=by
     have:=bh c0;rw[show((J:Nat):Int)=0+((J+1:Nat):Int)-1 by lia]at this;exact this
    calc⟨_,U,r,_,_,_,U,U,SqT.of m,U,_,U,_,U,_,_,U,U,a,_,_,_,U,U,SqT.of a0,b3,r',_,_,_,U,U,SqT.of<|B _ _ c1,U,FmV.eq_to ∅ (FmV.mono B.tups hu) (FmV.mono B.tups a7) ?_⟩;calc⟨_,U,cD (λg=>?_)<|λ_=>⟨U,U⟩⟩;let e2:t.2.2=t'.2.2:=fM g;exact Lr e2.symm<|b1 J _ _ (by rw[jj,a2];rfl) (by rw[jj,et];rfl)
   rintro G o ⟨D,rfl⟩;rw[D];clear D;refine⟨λb o=>ar x o/\b=[↑a,↑C,Lh<|.int l,Lh<|.int<|0+(i:Int),↑r],?_,?_⟩
   .refine⟨_,U,r,_,_,_,U,U,SqT.of m,U,_,U,_,U,C,_,U,SqL.of<|B _ _ R,λS b6=>?_⟩;rw[sk];let s2:ar x (upd x S<|.lst c):=ai b6 _;let a3:upd x S (.lst c) S=Lh (.lst c):=ae;generalize upd x S (.lst c)=H2 at s2 a3⊢;let N:=B.trans s2;exact⟨L_,a5,a4,d,t.2.2,u,S,c,T,U,∅,∅,a1,FmV.mono N.tups hu,a3,PL.mono b9 N.tups,eW t tm,Cj t tm,λH5 s5=>⟨_,U,bV ⟨s2.trans s5,U⟩⟩⟩
   rintro G o ⟨N,rfl⟩;exact⟨_,U,r,_,_,_,U,U,SqT.of<|N _ _ m,U,_,_,U,U,B.trans N,t.2.1+1,_,_,k3,U⟩
  .let(B,l,c3,c4,M,rfl):=h;let e:L.drop ((I.length:Nat):Int).toNat=[]:=List.drop_eq_nil_of_le ∅;rw[e]at M;let M:l=p.2+1:=M;calc⟨_,U,_,U,C,_,_,_,U,U,SqL.of<|B _ _ R,bh (j:=0) U,t0,_,_,_,U,U,SqT.of<|B _ _ X,U,_,_,U,U,U,?_⟩;rw[Ls (by rw[M])];calc q x B
theorem F9(F:Fun K "_law_made" "_law_made" Y61 f fd) (bl:Bl K mg Y)(O:bw CX0 P w K mg base 6 "Table" Y.n ["self","name","names","domains","outcome","way","rows"] (bO K Y)) (o7:Callee P w K mg base 7 "_law_domain" ["pair","words"] (gh K Y)) (B:bw CX0 P w K mg base 6 "Numbers" Y.l ["self","low","high"] (bj K Y)) (cg:Callee P w K mg base 7 "_law_at" ["script","k"] (fb K Y)):aK P w K mg base CX0 8 f fd ["script","bounds","rows","way","big","name"] (iR K Y):=by
 refine F.okA Z61 λe9 A d5 s H vs Q E hr h=>?_
 let(a,X,rl,ns,ys,bs,rx,a0,wy,nm,i,big,rfl,hS,hb,hP,hI,b5,hR,c7,a8,Af,c2,hok,q):=h
 refine⟨_,(aC (aG (i:=6) Z61.nd U (Or.inl U)<|kr mD (aW<|aa aN<|aa aN<|aa aN af) mB<|mC<|au aw U bl.len_ Lg<|aa (pv 1) af)
  (aC (aG (i:=7) Z61.nd U (Or.inr U)<|cq (bB U bl.range_<|aa (au aw U bl.len_ Lg<|aa (pv 1) af) af) (aV (N:=["k","script"]) (fr:=[0]) (cl:=[("script",↥s+1)]) U U (~~~0) (~~~0) U (~~~0) U U U (fu.mpr ⟨U,ja _⟩) U) U (λ_ _ _ _=>bC)<|λ_ _ _ _=>(eG cb (aD bR (aD bR (aL cg hr U<|aa (pv 1)<|aa (aD bE ak<|aD fW ak<|pv 0) af)<|aD iu ak ak) ak) ak<|aJ _))
  (aC (eX (i:=8) Z61.nd U (Or.inl U) (bB U bl.range_<|aa (au aw U bl.len_ Lg<|aa (pv 1) af) af) (aV (N:=["k","bounds","words"]) (fr:=[1,7]) (cl:=[("words",↥s+1+1+1),("bounds",↥s+1+1)]) U U (~~~0) (~~~0) U (~~~0) U U U (fu.mpr ⟨U,fu.mpr ⟨U,ja _⟩⟩) U) U (λ_ _ _ _=>bC)<|λ_ _ _ _=>(aL o7 hr U<|aa (aH (cP (K:=K) U) (pv 1) (pv 0)<|λ_ _=>U)<|aa (aH (cP (K:=K) U) (pv 2) (pv 0)<|λ_ _=>U) af))
  (aC (eX (i:=9) Z61.nd U (Or.inl U) (aQ<|pv 2) (dD U (~~~0) (~~~0) (~~~0) U) U (λ_ _ _ _=>bC)<|λ_ _ _ _=>(bq<|aa (bJ (jx (K:=K) U) U bl.list_ PyProof.Rows.boot_list<|aa (aH (dk (K:=K) U) (pv 0) ak<|λ_ _=>U) af)<|aa (aH (dk (K:=K) U) (pv 0) ak<|λ_ _=>U) af))
  (aj<|ax<|mZ O bU hr U<|aa (pv 5)<|aa (pv 6)<|aa (pv 8)<|aa (mZ B bU hr U<|aa (mL jG<|pv 4)<|aa (aD bE (pv 4)<|aD dJ (pv 4) ak) af)<|aa (pv 3)<|aa (pv 9) af))))),?_⟩
 show(let r4:TS:=_;let r3:TS:=bX _ r4;let r2:TS:=bX _ r3;let r1:TS:=bX _ r2;bX _ r1 _ _ _);intro _ _ _ _;let a1:=⇑hP;let(h1,h3):=hI.n3;refine(let I:St->Hp->Prop:=λv c=>ar H c/\∃na:HR,c na=Lh (.lst<|(x3.take ⇑bs).map V.str)/\v=[↑a,↑X,↑rl,Lh<|.str wy,Lh<|.int big,Lh<|.str nm,↑na,Li,Li,Li];⟨I,?_,?_⟩)
 .refine⟨(by show 3<=HU;decide),λl hl=>?_⟩;let Z:=ai hl<|.lst<|x3.map V.str;let el:upd H l (.lst<|x3.map V.str) l=Lh (.lst<|x3.map V.str):=ae;let e0:upd H l (.lst [V.str s!"x",V.str s!"xy",V.str s!"y"])=upd H l (.lst<|x3.map V.str):=rfl;rw[e0];generalize upd H l (.lst<|x3.map V.str)=H1 at Z el⊢;calc⟨_,U,X,_,U,.inl<|SqL.of<|Z _ _ hb,_,U,l,_,U,SqL.of el,λl2 c3=>⟨Z.trans<|ai c3 _,l2,?_,U⟩⟩;rw[ae,yJ ∅,a1];rfl
 rintro e4 H1 ⟨Z,na,d1,rfl⟩;refine(let I:St->Hp->Prop:=λv c=>ar H1 c/\∃wo:HR,c wo=Lh (.lst<|(List.range ⇑bs).map λk=>V.bl<|wdB ns k)/\v=[↑a,↑X,↑rl,Lh<|.str wy,Lh<|.int big,Lh<|.str nm,↑na,↑wo,Li,Li];⟨I,?_,?_⟩)
 .refine⟨_,U,X,_,U,.inl<|SqL.of<|Z _ _ hb,_,U,∅,∅,(let I:HR->Nat->Ly V->Hp->Prop:=λD j d c=>ar H1 c/\c D=Lh (.lst d)/\d=(List.range j).map λk=>V.bl<|wdB ns k;bP I (λD o=>⟨ai o _,ae,U⟩) (λD j d c o hj h=>?_) (λD d c o h=>?_))⟩
  .let(g,C,rfl):=h;refine⟨_,U,_,U,_,_,U,U,.inl ⟨⋯,⋯⟩,_,_,U,U,a,ns,_,U,(Z.trans g).seq hS,∅,_,_,U,U,⟨⋯,⋯,⋯⟩,_,_,U,U,p10 _,_,_,U,U,(by show(0:Int)<3;decide),U,cA.mk ∅ C (az (by rw[bc,kW];lia)) ⟨g.upd o,ae,?_⟩⟩;rw[mu,dW,AV (n:=2+2*j) ∅,p40];rfl
  .let(g,C,rfl):=h;rw[E2,a1]at C;exact⟨g,D,C,U⟩
 rintro e3 H2 ⟨s2,wo,c8,rfl⟩;let W:=Z.trans s2;refine(let I:St->Hp->Prop:=λv c=>ar H2 c/\∃(dl:HR)(dv:Ly V),c dl=Lh (.lst dv)/\aS dv bs (Dom Y.l Y.m c)/\v=[↑a,↑X,↑rl,Lh<|.str wy,Lh<|.int big,Lh<|.str nm,↑na,↑wo,↑dl,Li];⟨I,?_,?_⟩)
 .refine⟨_,U,X,_,U,.inl<|SqL.of<|W _ _ hb,_,U,∅,∅,(let I:HR->Nat->Ly V->Hp->Prop:=λD j d c=>ar H2 c/\c D=Lh (.lst d)/\aS d (bs.take j) (Dom Y.l Y.m c);bP I (λD o=>⟨ai o _,ae,aS.nil⟩) (λD j d c o hj h=>?_) (λD d c o h=>?_))⟩
  .let(g,C,J):=h;rw[E2]at hj;let(y,ey):∃y,ys[j]?=Lh y:=⟨_,HF hj⟩;let(p,t,ep,rfl,ht):=hP.get ey;let sA:=W.trans g;let(o1,_,o3):=hI.ok j p ep;let d0:((List.range ⇑bs).map λk=>V.bl<|wdB ns k)[j]?=Lh (.bl<|wdB ns j):=by rw[jj,List.getElem?_range ∅];rfl
   refine⟨_,U,_,U,X,_,_,_,U,U,SqL.of<|sA _ _ hb,lO ey,_,U,_,U,wo,_,_,_,U,U,SqL.of<|g _ _ c8,lO d0,t,p,_,U,sA _ _ ht,o1,(λc6=>o3 ?_),λx H4 R hx=>?_⟩
   .let:=Lv c6;injection this
   let a4:=R _ _ C;refine cA.mk ∅ a4 (az (by rw[J.1,iT];lia)) ⟨(g.trans R).upd o,ae,?_⟩;rw[take_snoc ep];exact aS.snoc (aS.mono J λ_ _ p=>(p.same R).upd a4)<|hx.upd a4
  .let(g,C,J):=h;rw[E2,a1,gd]at J;exact⟨g,D,d,C,J,U⟩
 rintro e2 H3 ⟨s3,dl,dv,d2,b0,rfl⟩;let T:=W.trans s3;refine(let I:St->Hp->Prop:=λv c=>ar H3 c/\∃(cl:HR)(cx:Ly V),c cl=Lh (.lst cx)/\RL NT c cx a0/\⇑cx<=30/\v=[↑a,↑X,↑rl,Lh<|.str wy,Lh<|.int big,Lh<|.str nm,↑na,↑wo,↑dl,↑cl];⟨I,?_,?_⟩)
 .refine⟨_,U,rl,U,⟨_,SqL.of<|T _ _ b5⟩,(let I:HR->Nat->Ly V->Hp->Prop:=λD j d c=>ar H3 c/\c D=Lh (.lst d)/\RL (· ≠ D) c d (a0.take j);cB (xs:=rx) I (λD o=>⟨ai o _,ae,aS.nil⟩) (λD j d c o _ h=>SqL.of<|h.1 _ _<|T _ _ b5) (λD j y d c o e h=>?_) (λD d c o h=>?_))⟩
  .let(g,C,J):=h;let(r,w_,rfl,ew,ce,cv,g1,_,g2,g3):=aS.get hR e;let hj:=(HG.mp e).1;let sA:=T.trans g;calc⟨_,U,r,_,_,_,U,U,SqT.of<|sA _ _ g1,U,ce,_,U,.inl<|SqL.of<|sA _ _ g2,λl hl=>?_⟩;let u1:=ai hl<|.lst cv;let b4:upd c l (.lst cv) l=Lh (.lst cv):=ae;let c1:l≠D:=λz=>by rw[z,C]at hl;cases hl
   generalize upd c l (.lst cv)=H5 at u1 b4⊢;calc⟨_,U,r,_,_,_,U,U,SqT.of<|u1 _ _<|sA _ _ g1,U,bA,λt ht=>?_⟩;let u2:=ai ht<|.tup [.ref l,.int w_.2];let b3:upd H5 t (.tup [.ref l,.int w_.2]) t=Lh (.tup [.ref l,.int w_.2]):=ae;generalize upd H5 t (.tup [.ref l,.int w_.2])=H6 at u2 b3⊢;let S:=u1.trans u2;let b9:=S _ _ C;let c5:CL (· ≠ D) H6 cv w_.1:=(((g3.same T).new o).same g).same S;refine cA.mk hj b9 (az (by rw[J.1,iT];lia)) ⟨(g.trans S).upd o,ae,?_⟩;rw[take_snoc ew];exact RL.updN (aS.snoc (RL.same J S) ⟨l,cv,b3,c1,u2 _ _ b4,c5⟩) (λz=>z U) b9
  .let(g,C,J):=h;rw[hR.1,gd]at J;exact⟨g,D,d,C,J.any,by rw[J.1,←hR.1];exact c7,U⟩
 rintro e1 H4 ⟨R,cl,cx,d3,b1,Ho,rfl⟩;let e6:=s3.trans R;let(v1,v2,v3):=Dt h1 h3 c2;calc⟨_,U,_,U,_,U,_,U,_,U,_,U,_,U,_,_,U,U,⟨⋯,⋯⟩,_,_,U,U,λx G hx c4 e8=>?_⟩;let s5:ar H4 (mkd Y.l (upd (upd H4 G<|.own x) x<|.ins Y.l G []) x G (-big)<|big+big / 2):=λb u e=>by
  let hb:b≠x:=aU e hx;unfold mkd;rw[ay hb,ay hb];exact((ai c4 _).upd hx) _ _ e
 let e5:mkd Y.l (upd (upd H4 G<|.own x) x<|.ins Y.l G []) x G (-big) (big+big / 2) x=Lh (.ins Y.l G [("low",.int<|-big),("high",.int<|big+big / 2)]):=ae;calc⟨x,G,-big,big+big / 2,U,ae,∅,U,_,U,_,U,λx2 M a2 DG Hq=>?_⟩;generalize mkd Y.l (upd (upd H4 G<|.own x) x<|.ins Y.l G []) x G (-big) (big+big / 2)=H5 at s5 e5 a2 DG⊢;let a9:Dom Y.l Y.m H5 x (-big,big+big / 2):=⟨Y.l,.inl U,G,_,e5,U,U,U⟩;let s6:ar H5 (upd (upd H5 M<|.own x2) x2<|.ins Y.n M []):=(ai DG _).upd a2;let L:=s5.trans s6;let c0:=(s3.trans R).trans L;refine⟨x2,M,na,dl,x,cl,nm,wy,x3.take ⇑bs,dv,cx,bs,(-big,big+big / 2),a0,U,ae,c0 _ _<|s2 _ _ d1,v1,v2,by rw[v3];exact h1,by rw[v3];lia,HH a8,(λ_=>⟨G,_,s6 _ _ e5⟩),L _ _<|R _ _ d2,aS.mono b0<|λ_ _ p=>p.same<|R.trans L,a9.same s6,L _ _ d3,b1.same L,∅,∅,hok,λc fs a7 a5 k1 k2 f1 f2 f3 f4 f5 b6 a3=>⟨U,?_⟩⟩;let(e7,d4,f5,f6,g1,g2):=f5;let s7:ar H5 c:=λb u e=>k1 b u (aU e a2)<|s6 _ _ e
 let a6:=s5.trans s7;calc q x2 dv c (((W.trans s3).trans R).trans a6) ⟨a7,M,d4,fs,a5,k2,f1,f6,g2,aS.mono b0<|λ_ _ p=>p.same<|R.trans a6,b6,a3⟩ ⟨a7,x,M,fs,a5,wy,k2,f1,f2,f3,b6,a3,a8,a9.same s7,by show -big<=big+big / 2;lia,by rw[a3.1,←b1.1];lia⟩
theorem Ga{k n:Nat}(F:Fun K "layered" "layered" Y69 f fd) (bl:Bl K mg Y)(ow:Callee P w K mg base k "closed" ["triples"] (jf K Y)) (lV:Callee P w K mg base k "layered" ["columns","ahead","leaf"] (fC K Y P w mg base n)) (hk:8<=k):aK P w K mg base CX0 (k+1) f fd ["columns","ahead","leaf"] (fC K Y P w mg base<|n+1):=by
 refine F.okA Z69 λb9 A b5 s H vs Q E hr h=>?_
 let(c,b,f_,xs,a,M,m,L,iL,A,g,J,rfl,hn,hc,hC,hb,a1,b3,b0,hm,Z,hJ,q):=h
 refine⟨_,(aq (aP (bQ<|dM (pv 0) (by intro _;rfl))
  (aj<|ax<|vi (k:=8) (i:=2) (hr.mono hk) U (Or.inr<|Or.inl U)<|aa (pv 1) af)
  aF)
  (aj<|ax<|aL ow hr U<|aa (iA (aQ<|aH ba (pv 0) ak<|λ_ _=>U) (fQ (N:=["low","high","columns","ahead","leaf"]) (k:=2) (fr:=[0,1,2]) (cl:=[("leaf",↥s+1+1+1),("columns",↥s+1),("ahead",↥s+1+1)]) U U (~~~0) (~~~0) U U (fu.mpr ⟨U,fu.mpr ⟨U,fu.mpr ⟨U,ja _⟩⟩⟩) U) U (λ_ _ _ _=>(pH (K:=K) (n:=2) U U<|aM (aE (i:=0) (show(["low","high","columns","ahead","leaf"]:Ly Str).Nodup by decide+kernel) U (Or.inl U) (Or.inr U)) (aM (aE (i:=1) (show(["low","high","columns","ahead","leaf"]:Ly Str).Nodup by decide+kernel) U (Or.inl U) (Or.inr U)) cI))) (λ_ _ _ _=>bC) (λ_ _ _ _=>(bq<|aa (pv 0)<|aa (pv 1)<|aa (aL lV hr U<|aa (kr (yd (K:=K) U) (pv 2) (mC ak) mB)<|aa (aD lE (pv 3)<|aW<|aa (pv 0) af)<|aa (pv 4) af) af))) af)),?_⟩
 show(let r1:TS:=_;aR _ r1 _ _ _);intro _;cases a with
 |nil =>
  let hx:xs=[]:=sQ hC.1;subst hx;let(sp,hF,a9):=Z.fn;calc⟨_,U,_,.inl ⟨_,SqL.of hc,U⟩,fX ?_⟩;exact⟨f_,sp,U,Z.ob H hJ,hF,_,U,Z.ob H hJ,a9 H b M _ hJ (by rw[hm];rfl) hb λv u h' hv=>q v u h' hv⟩
 |cons y a =>
  let(r,ex,ts,er,hp):=hC.2 0 y U;let(l,rfl):∃l,xs=.ref r :: l:=by
   cases xs with
   |nil=>cases ex
   |cons x l=>cases ex;exact⟨l,U⟩
  let b4:CoL H l a:=⟨~~~hC.1,λj c e=>~~~hC.2 (j+1) c (~~~e)⟩;let b6:⇑y<=401:=a1 y fH;let a5:⇑ts=⇑y:=⇑hp;let Hr:⇑a<=5:=by rw[ik]at b0;lia
  refine⟨_,U,_,.inl ⟨_,SqL.of hc,U⟩,bV ?_⟩
  refine⟨_,U,c,_,_,_,U,U,SqL.of hc,bh (j:=0) U,r,U,⟨_,SqL.of er⟩,jI (xs:=ts) (λD i G u=>ar H u/\u D=Lh (.lst G)/\FmL (FmV A u ⇑a) u ((y.take i).map λp=>(p.1,p.2,lay g a<|M++[p.1])) G/\G.length<=i)
   (λD hD=>⟨ai hD _,ae,FmL.nil,yX _⟩) (λD i G u hD _ h=>SqL.of<|h.1 _ _ er) (λD i x G u hD e h ss a8=>?_) (λD G u hD h=>?_)⟩
  .let(I,eD,S,a4):=h;let(p,t,ep,rfl,ht):=hp.get e;let hi:i<⇑ts:=(HG.mp e).1;let(t0,B,rfl):∃t0 B,ss=[t0,B]:=by
    match ss,a8 with
    | [t0,B],_=>exact⟨t0,B,U⟩
   calc⟨t,_,U,SqT.of<|I _ _ ht,U,_,_,U,_,_,U,U,⟨[Lh (.int p.1),Lh (.int p.2)],U,U⟩,?_⟩;calc⟨_,U,_,U,_,U,_,U,c,_,U,SqL.of<|I _ _ hc,λc2 b1=>?_⟩;rw[sk];let s2:ar u (upd u c2<|.lst l):=ai b1 _;let a2:upd u c2 (.lst l) c2=Lh (.lst l):=ae;generalize upd u c2 (.lst l)=T at s2 a2⊢;refine⟨_,U,_,U,(by show 1<=HU;decide),λB a7=>?_⟩;let X:ar T (upd T B<|.lst [.int p.1]):=ai a7 _;let e1:upd T B (.lst [.int p.1]) B=Lh (.lst [.int p.1]):=ae;generalize upd T B (.lst [.int p.1])=H3 at X e1⊢;refine⟨b,B,_,_,U,U,X _ _<|s2 _ _<|I _ _ hb,e1,zz<|az (by rw[bc];show M.length+1<=1000;lia),λR a0=>?_⟩;let s4:ar H3 (upd H3 R<|.lst<|M.map V.int++[.int p.1]):=ai a0 _;let e2:upd H3 R (.lst<|M.map V.int++[.int p.1]) R=Lh (.lst<|(M++[p.1]).map V.int):=by rw[dW];exact ae
   generalize upd H3 R (.lst<|M.map V.int++[.int p.1])=H4 at s4 e2⊢;let O:ar u H4:=(s2.trans X).trans s4;let f2:u R=none:=(s2.trans X).free a0;refine⟨_,U,c2,R,f_,l,a,M++[p.1],m,L,iL,A,g,J,U,by rw[ik]at hn;lia,s4 _ _<|X _ _ a2,b4.same<|I.trans O,e2,λz S=>a1 z<|iE _ S,by rw[dy,iU];rw[ik]at b3;lia,∅,by rw[dy,iU];rw[ik]at hm;lia,Z,Z.st _ _ hJ<|I.trans O,λv H5 h5 hv=>?_⟩;let s5:ar u H5:=λd o ed=>h5 d o (λz=>by rw[z,f2]at ed;cases ed) (O _ _ ed)
   refine⟨(by show 3<=HU;decide),λW a6=>?_⟩;let s6:ar H5 (upd H5 W<|.tup [.int p.1,.int p.2,v]):=ai a6 _;let e3:upd H5 W (.tup [.int p.1,.int p.2,v]) W=Lh (.tup [.int p.1,.int p.2,v]):=ae;generalize upd H5 W (.tup [.int p.1,.int p.2,v])=H6 at s6 e3⊢;let C:=s5.trans s6;let a3:=C _ _ eD;refine cA.mk hi a3 (az ∅) ⟨(I.trans C).upd hD,ae,?_,by rw[dy,iU];lia⟩;let st:cG H6 (upd H6 D<|.lst<|G++[.ref W]):=bK a3;rw[take_snoc ep,dW];exact(S.mono (λ_ _ z=>FmV.mono (C.tups.trans st) z)<|C.tups.trans st).snoc (st _ _ e3) (FmV.mono (s6.tups.trans st) hv)
  .let(I,eD,S,a4):=h;rw[a5,gd]at S;refine⟨L,iL,A,⇑a,D,G,_,U,∅,eD,S,by rw[bc];lia,λr2 T s2 hf=>?_⟩;calc q _ T (λd o _ ed=>(I.trans s2) _ _ ed) hf
theorem Gb{k n:Nat}(F:Fun K "mapped" "mapped" Y71 f fd) (bl:Bl K mg Y)(ow:Callee P w K mg base k "closed" ["triples"] (jf K Y)) (oy:Callee P w K mg base k "mapped" ["form","deep","change"] (gx K Y P w mg base n)) (hk:8<=k):aK P w K mg base CX0 (k+1) f fd ["form","deep","change"] (gx K Y P w mg base<|n+1):=by
 refine F.okA Z71 λb1 A a8 s H vs Q E Z h=>?_
 let(L,M,iL,iM,A,B,h_,J,d,F_,v,f_,rfl,hn,b0,R,a6,m,S,q):=h
 refine⟨_,(aq (aP (aI cb (pv 1) ak<|aJ _)
  (aj<|ax<|vi (k:=8) (i:=2) (Z.mono hk) U (Or.inr<|Or.inl U)<|aa (pv 0) af)
  aF)
  (aj<|ax<|aL ow Z U<|aa (iA (qg<|pv 0) (fQ (N:=["low","high","beneath","deep","change"]) (k:=3) (fr:=[1,2]) (cl:=[("deep",↥s+1),("change",↥s+1+1)]) U U (~~~0) (~~~0) U U (fu.mpr ⟨U,fu.mpr ⟨U,ja _⟩⟩) U) U (λ_ _ _ _=>(pH (K:=K) (n:=3) U U<|aM (aE (i:=0) (show(["low","high","beneath","deep","change"]:Ly Str).Nodup by decide+kernel) U (Or.inl U) (Or.inr U)) (aM (aE (i:=1) (show(["low","high","beneath","deep","change"]:Ly Str).Nodup by decide+kernel) U (Or.inl U) (Or.inr U)) (aM (aE (i:=2) (show(["low","high","beneath","deep","change"]:Ly Str).Nodup by decide+kernel) U (Or.inl U) (Or.inr U)) cI)))) (λ_ _ _ _=>bC) (λ_ _ _ _=>(bq<|aa (pv 0)<|aa (pv 1)<|aa (aL oy Z U<|aa (pv 2)<|aa (aD dI (pv 3) ak)<|aa (pv 4) af) af))) af)),?_⟩
 show(let r1:TS:=_;aR _ r1 _ _ _);intro _;cases d with
 |zero =>
  let(sp,hF,a5):=m.fn;calc⟨_,U,U,_,U,dZ U ?_⟩;exact⟨f_,sp,U,m.ob H S,hF,_,U,m.ob H S,a5 H v F_ _ S R λu b s' X=>q u b s' X⟩
 |succ d =>
  let(G,rfl):∃G:Ly (T3a<|Fm L d),(G:Fm L (d+1))=F_:=⟨F_,U⟩;let(a9,Cj):SmS 300 (SmF 300 d) G:=a6;let(a,xs,rfl,ha,hG):∃(a:HR)(xs:Ly V),v=.ref a/\H a=Lh (.tup xs)/\FmL (FmV A H d) H G xs:=R;let a1:=hG.1;refine⟨_,U,U,_,U,bY (λz=>by have:=V.int.inj z;lia) ?_⟩
  refine⟨_,U,a,U,⟨_,SqT.of ha⟩,wj (xs:=xs) (λD i g b=>ar H b/\b D=Lh (.lst g)/\FmL (FmV B b d) b ((G.take i).map λt=>(t.1,t.2.1,oZ h_ d t.2.2)) g/\⇑g<=i)
   (λD o=>⟨ai o _,ae,FmL.nil,yX _⟩) (λD i g b o _ h=>SqT.of<|h.1 _ _ ha) (λD i x g b o e h ss a4=>?_) (λD g b o h=>?_)⟩
  .let(j,eD,O,a0):=h;let hi:i<⇑xs:=(HG.mp e).1;let(t,et):∃t,G[i]?=Lh t:=⟨_,HF ∅⟩;let(r,u,ex,er,X):=hG.2 i t et;rw[e]at ex;cases ex;let(I,C,y,rfl):∃I C y,ss=[I,C,y]:=by
    match ss,a4 with
    | [I,C,y],_=>exact⟨I,C,y,U⟩
   let a7:=j _ _ er;let a2:=FmV.mono j.tups X;calc⟨r,_,U,SqT.of a7,U,_,_,U,_,_,U,_,_,U,U,⟨[Lh (.int t.1),Lh<|.int t.2.1,Lh u],U,U⟩,?_⟩;refine⟨_,U,_,U,_,U,_,U,_,_,U,U,_,U,L,M,iL,iM,A,B,h_,J,d,t.2.2,u,f_,by simp,∅,∅,a2,Cj t<|HH et,m,m.st _ _ S j,λv T s5 R=>?_⟩;refine⟨(by show 3<=HU;decide),λl a3=>?_⟩;let W:ar T (upd T l<|.tup [.int t.1,.int t.2.1,v]):=ai a3 _;let e3:upd T l (.tup [.int t.1,.int t.2.1,v]) l=Lh (.tup [.int t.1,.int t.2.1,v]):=ae;generalize upd T l (.tup [.int t.1,.int t.2.1,v])=H6 at W e3⊢;let c:=s5.trans W;let p:=c _ _ eD;refine cA.mk hi p (az ∅) ⟨(j.trans c).upd o,ae,?_,by rw[dy,iU];lia⟩;let st:cG H6 (upd H6 D<|.lst<|g++[.ref l]):=bK p;rw[take_snoc et,dW];exact(O.mono (λ_ _ z=>FmV.mono (c.tups.trans st) z)<|c.tups.trans st).snoc (st _ _ e3) (FmV.mono (W.tups.trans st) R)
  .let(j,eD,O,a0):=h;rw[a1,gd]at O;refine⟨M,iM,B,d,D,g,_,U,∅,eD,O,by rw[bc];lia,λr2 H2 s2 hf=>?_⟩;calc q _ H2 (j.trans s2) hf
theorem Gd(F:Fun K "built" "built" Y34 f fd) (bl:Bl K mg Y)(lV:Callee P w K mg base 15 "layered" ["columns","ahead","leaf"] (fC K Y P w mg base 7)) (Ag:Callee P w K mg base 15 "grain" ["bounds","marks"] (og K Y)) (gi:Callee P w K mg base 15 "cut_columns" ["bounds","marks"] (dO K Y)):aK P w K mg base (CX1 P w) 16 f fd ["bounds","marks","leaf"] (oh K Y P w mg base):=by
 refine F.okEA Z34 λa1 A V s H vs Q E I h=>?_
 let(a,b,f_,W,c,as,e,L,iL,A,g,J,rfl,ha,O,Z,hM,hok,hL,hJ,qE,q):=h
 refine⟨_,(aq (aP (aI pj (aL Ag I U<|aa (pv 0)<|aa (pv 1) af) (pJ U bl.MOST_GRAIN_)<|aJ _)
  (aj<|v9 bl.x_TooFine I.hd U bl.TooFine_<|aa aN af)
  aF)
  (aj<|ax<|aL lV I U<|aa (aL gi I U<|aa (pv 0)<|aa (pv 1) af)<|aa (aW af)<|aa (pv 2) af)),?_⟩
 show(let r1:TS:=_;aR _ r1 _ _ _);intro _;let a0:=O.length;let(B,y,x):=hok;calc⟨_,U,_,U,a,b,W,c,as,e,U,ha,O,Z,hM,⟨B,y,x⟩,λH1 m=>?_⟩;calc⟨_,_,U,U,_,U,?_⟩;refine cD (λn=>?_)<|λn=>?_
 .let n:((gr c e ⇑c:Nat):Int)>300:=fM n;exact⟨(by show 1<=HU;decide),qE ∅ H1 m⟩
 let n:¬ ((gr c e ⇑c:Nat):Int)>300:=jt n;let hg:gr c e ⇑c<=300:=∅
 calc⟨_,U,_,U,a,b,W,c,as,e,U,m _ _ ha,O.mono m.tups,m _ _ Z,hM.same m,⟨B,y,x⟩,λl xs M i s2 el S D hx=>?_⟩;refine⟨(by show 0<=HU;decide),λt X=>?_⟩;let G:ar M (upd M t<|.lst []):=ai X _;let et:upd M t (.lst []) t=Lh (.lst []):=ae;generalize upd M t (.lst [])=H3 at G et⊢;let u:=(m.trans s2).trans G;let C:⇑(List.zipWith (λp k=>bZ p.1 p.2 k) c i)=⇑c:=by rw[jE];lia
 refine⟨_,U,l,t,f_,xs,_,[],⇑c,L,iL,A,g,J,U,∅,G _ _ el,hx.same G,et,λT Ge=>?_,by rw[C];show 0+⇑c<=6;lia,∅,by rw[C];show ⇑c=0+⇑c;lia,hL,hL.st _ _ hJ u,λv H4 h4 hv=>?_⟩
 .let(j,r):=jY Ge;let hj:j<⇑(List.zipWith (λp k=>bZ p.1 p.2 k) c i):=(HG.mp r).1;let(p,ep):∃p,c[j]?=Lh p:=⟨_,HF ∅⟩;let(k,ec):∃k,i[j]?=Lh k:=⟨_,HF ∅⟩;let(N,em):∃N,e[j]?=Lh N:=⟨_,HF ∅⟩;rw[ny,ep,ec]at r;let r:bZ p.1 p.2 k=T:=Option.some.inj r;rw[←r,gs];let:=(D j p N k ep em ec).2.2;lia
 .exact q hg v H4 i (λd o R=>h4 d o (λz=>by have f:=(m.trans s2).free X;rw[z,f]at R;cases R) (u _ _ R)) S D hv
theorem kS{c' c_0:HR}{doc pm ctv:HN}(bl:Bl K mg Y)(n:Callee P w K mg base 7 "mask" ["table","codes"] (kP K Y)) (inj:∀x y c,([("table",c_0)]:Ly (Str×HR)).lookup x=Lh c->([("table",c_0)]:Ly (Str×HR)).lookup y=Lh c->x=y):HFn P w K mg base 8 f (gy K Y f c' c_0 doc pm ctv):=by
 let Z79:=@Z79 c_0;refine yq (qual := "row_form.<locals>.<lambda>") (e:=Y78) (c':=c') (cl:=[("table",c_0)]) (pm:=pm) (ctv:=ctv) Z79 inj (λr v=>match r,v with | [D],_=>rfl) (λp H Q E h=>?_) (λA g s H p Q E z h=>?_)
 .let(a,t,m,b,i,o,rfl,d,l,k,j,q):=h;rfl
 let(a,t,m,b,i,o,rfl,d,l,k,j,q):=h;calc⟨_,d,vj U,λC=>⟨_,(aL n z U<|aa (pv 1)<|aa (pv 0) af),?_⟩⟩;let B:=d.2.2.fzs;let so:=So.hide B;calc⟨_,U,_,U,t,a,b,i,o,m,U,Tbl.so so l,SqL.of<|so.lst k,j,λF u _=>q _<|nC u⟩
theorem Gf(F:Fun K "row_form" "row_form" s_row_form f fd) (bl:Bl K mg Y)(Ah:bN P w K mg base 16 "built" ["bounds","marks","leaf"] (oh K Y P w mg base)) (dS:Callee P w K mg base 16 "table_bounds" ["table"] (dq K Y)) (eM:Callee P w K mg base 16 "table_marks" ["table"] (dQ K Y)) (yT:Callee P w K mg base 16 "mask" ["table","codes"] (kP K Y)) {cL tP:HR}(a6:fd.code=.ref cL)(S:W.tabIn K "row_form" = Lh (cL,tP)) (hT:W.CodeHd base cL tP/\base.BuiltinsAt mg tP)(Ck:Callee P w K mg base 7 "mask" ["table","codes"] (kP K Y)):aK P w K mg base (CX1 P w) 17 f fd ["table"] (dG K Y):=by
 refine F.okTE a6 Z78 (λvs H Q E h=>?_)<|λA c1 s H vs Q E hr h=>?_
 .let(t,dv,bs,u,L,g_,i,o,rfl,g,a0,qE,q):=h;rfl
 let(t,dv,bs,u,L,g_,i,o,rfl,g,a0,qE,q):=h;calc⟨_,(aj<|ax<|zK (zs:=[("table",0,↥s+1)]) Ah hr U (aa (aL dS hr U<|aa (pv 0) af)<|aa (aL eM hr U<|aa (pv 0) af)<|aa (yp (clos:=[("table",↥s+1)]) U hT.1 hT.2 U<|fu.mpr ⟨U,ja _⟩) af)<|fu.mpr ⟨⟨U,Or.inl U,U,Or.inl U⟩,ja _⟩),?_⟩;let a1:=g.td;let a7:=g.tb;let h4:=g.b4;calc⟨_,U,t,dv,bs,u,U,a1,∅,λl1 ys H1 s1 n1 e1 a8=>?_⟩;calc⟨_,U,t,dv,bs,u,L,U,a1.same s1,∅,g.rn,g.row,g.sp,g.mrk,λl2 as C H2 s2 n2 e2 hM O G _=>?_⟩;let B:=s1.trans s2;let DH:=(a0 _ S).same B;let(c2,b3,_):=id DH;refine⟨[(oY Y78,"row_form.<locals>.<lambda>")],fH,?_,DH,λf_ c' oc pm ctv X hf kp ef ec a4 wu inj=>?_⟩
 .intro p hp _ _;rw[gZ.mp hp];rfl
 let r:So H2 X:=λd o p e=>kp d o (λz=>by rw[z,b3]at e;cases e;exact p) e
 refine λos D hz ho=>?_
 let y:=nH D hz;let b0:∃o,gk X ((([("table",0,↥s+1)]:Ly (Str×Nat×HR)).map (·.2.2)).zip os) (↥s+1)=Lh (.frz o TTh):=by
  let(o,_,e):=eK (H:=X) (fz:=(([("table",0,↥s+1)]:Ly (Str×Nat×HR)).map (·.2.2)).zip os) (b:=↥s+1) (by rw[nG D];exact fH);exact⟨o,e⟩
 let a5:=rY (H:=X) (cl:=[("table",↥s+1)]) (ws:=[("table",.ref t)]) D (by simp) ho (λc hc=>by
  simp only[jU,qc,bW,jC,or_false]at hc;exact⟨_,fH,hc.symm⟩) (λx v e=>by
  unfold List.lookup at e;split at e
  .rename_i J
   cases e;rw[eq_of_beq J];exact⟨_,fH,U,U⟩
  .cases e)
 let oz:jA (gk X ((([("table",0,↥s+1)]:Ly (Str×Nat×HR)).map (·.2.2)).zip os)) f_ c' (W.kla_obj "<lambda>" "row_form.<locals>.<lambda>" (qy Y78) (oX Y78) (kG Y78) [("table",↥s+1)] pm c' ctv) "row_form.<locals>.<lambda>" [("table",↥s+1)] [("table",.ref t)]:=⟨y _ _ ef,⟨oc,y _ _ ec,a4⟩,a5⟩;let hN:B2 (K':=K) nJ P w K mg base f_ ⇑bs (λcd=>((msk (cQ u cd) ⇑u:Nat):Int)) (λZ=>jA Z f_ c' (W.kla_obj "<lambda>" "row_form.<locals>.<lambda>" (qy Y78) (oX Y78) (kG Y78) [("table",↥s+1)] pm c' ctv) "row_form.<locals>.<lambda>" [("table",↥s+1)] [("table",.ref t)]/\Tbl Y.n Y.l Y.m Z t u i o) :=
  ⟨⟨_,kS (doc:=.none) (pm:=pm) (ctv:=ctv) (c':=c') (c_0:=↥s+1) bl Ck inj,λZ a cd Q0 N hl ha k=>⟨a,t,cd,u,i,o,U,N.1,N.2,ha,(λx J=>by rw[g.row x J,hl]),λc0 s0=>k _ _ (λb o _ e=>s0 b o e) U⟩⟩,λZ N=>⟨_,_,N.1.1,U⟩,λZ c0 N s0=>⟨N.1.same s0,Tbl.same N.2 s0⟩⟩
 let Gg:MOK bs C:=⟨O.symm,∅,λI a2=>by
  let(c,ec):=jY a2;let hc:=(HG.mp ec).1;let(b,eb):∃b,bs[c]?=Lh b:=⟨_,HF ∅⟩;let(pw,hm):=G c b I eb ec;exact yW (B6 pw λx J=>(g.mrk c b eb).2 x<|(hm x).mp J) (g.mrk c b eb).1⟩
 refine⟨l1,l2,f_,ys,bs,as,C,Int,inferInstance,nJ,_,_,U,(So.lst r (s2 _ _ e1) |> λe=>y _ _ e),((a8.mono s2.tups).mono r.tups).mono y.tups,y _ _<|r.lst e2,(MLs.so r hM).same y,Gg,hN,⟨oz,Tbl.same (Tbl.so r<|Tbl.same a7 B) y⟩,λhg H4 s4=>?_,λhg v H4 b9 s4 Gh a3 a9=>?_⟩
 .let M:=_L.hide_same D hz s4;refine qE (by rw[←g.gr C O G];exact hg) _ (((So.of B).trans r).trans<|So.of M) (λz V=>?_) ⟨_,S⟩;rw[S]at V;cases V;exact⟨wu.same M,λd o T e=>M _ _<|kp d o T<|B _ _ e⟩
 let M:=_L.hide_same D hz s4;let(o2,b5):=b0;let b1:Fzs H4 [↥s+1]:=λd T=>by rw[gZ.mp T];exact⟨o2,s4 _ _ b5⟩
 refine q (by rw[←g.gr C O G];exact hg) v _ b9 (((So.of B).trans r).trans<|So.of M) (λz V=>?_) ⟨_,S⟩ Gh (λj p cs ep b6=>?_) (a9.mono (So.hide b1).tups)
 .rw[S]at V;cases V;exact⟨wu.same M,λd o T e=>M _ _<|kp d o T<|B _ _ e⟩
 .let(I,R):∃I,C[j]?=Lh I:=⟨_,HF (by have:=(HG.mp ep).1;lia)⟩;let(pw,hm,_):=a3 j p I cs ep R b6;calc⟨pw,λx=>(hm x).trans ⟨λh=>((G j p I ep R).2 x).mp h.1,λh=>⟨((G j p I ep R).2 x).mpr h,?_⟩⟩⟩;let(w_,_,J):=h;let:=(jZ.mp J).2;rw[EA,Lx,Lx]at this;calc this
theorem il{c' c_0:HR}{doc pm ctv:HN}(bl:Bl K mg Y)(n:Callee P w K mg base 7 "judged" ["table","rows"] (gv K Y)) (inj:∀x y c,([("table",c_0)]:Ly (Str×HR)).lookup x=Lh c->([("table",c_0)]:Ly (Str×HR)).lookup y=Lh c->x=y):HFn P w K mg base 8 f (eP K Y f c' c_0 doc pm ctv):=by
 let Z85:=@Z85 c_0;refine yq (qual := "verdict_form.<locals>.<lambda>") (e:=Y83) (c':=c') (cl:=[("table",c_0)]) (pm:=pm) (ctv:=ctv) Z85 inj (λl v=>match l,v with | [F],_=>rfl) (λk H Q E h=>?_) (λA g s H k Q E z h=>?_)
 .let(m,t,a,i,o,rfl,b,j,q):=h;rfl
 let(m,t,a,i,o,rfl,b,j,q):=h;calc⟨_,b,vj U,λD=>⟨_,(aL n z U<|aa (pv 1)<|aa (pv 0) af),?_⟩⟩;let C:=b.2.2.fzs;let so:=So.hide C;calc⟨_,U,_,U,t,a,i,o,m,U,Tbl.so so j,λr G p d u=>q r _ (nC p) ?_⟩;rcases d with e|e
 .exact .inl<|(dc λB=>by have:=u r B;rw[e]at this;cases this).trans e
 .exact .inr e
theorem Gi(F:Fun K "verdict_form" "verdict_form" s_verdict_form f fd) (bl:Bl K mg Y)(oy:Callee P w K mg base 17 "mapped" ["form","deep","change"] (gx K Y P w mg base 7)) (dB:bN P w K mg base 17 "row_form" ["table"] (dG K Y)) (sS:Callee P w K mg base 17 "judged" ["table","rows"] (gv K Y)) {cL tP:HR}(c1:fd.code=.ref cL)(ht:W.tabIn K "verdict_form" = Lh (cL,tP)) (hT:W.CodeHd base cL tP/\base.BuiltinsAt mg tP)(yU:Callee P w K mg base 7 "judged" ["table","rows"] (gv K Y)):aK P w K mg base (CX1 P w) 18 f fd ["table"] (dr K Y):=by
 refine F.okTE c1 Z84 (λvs H Q E h=>?_)<|λA d4 s H vs Q E hr h=>?_
 .let(t,dv,bs,a,L,g_,i,o,rfl,h,C,V,qE,q):=h;rfl
 let(t,dv,bs,a,L,g_,i,o,rfl,h,C,V,qE,q):=h;calc⟨_,(aj<|ax<|BP (zs:=[("table",0,↥s+1)]) oy hr U (aa (jK dB passE hr U<|aa (pv 0) af)<|aa (au aw U bl.len_ Lg<|aa (cc (pv 0) U) af)<|aa (yp (clos:=[("table",↥s+1)]) U hT.1 hT.2 U<|fu.mpr ⟨U,ja _⟩) af)<|fu.mpr ⟨⟨U,Or.inl U,U,Or.inl U⟩,ja _⟩),?_⟩;let e0:=h.b4;let(rl,dx,dl,fs,xs,b3,f1,f2,d2,b6,e3,hR):=id h.td;let b9:⇑dv=⇑bs:=b6.1;refine⟨_,U,t,dv,bs,a,L,g_,i,o,U,h,C,λhg H1 y D T=>?_,λhg v H1 a8 y D T a4 X a5=>?_⟩
 .refine qE hg H1 y (λz e=>(D z e).1)<|λz e=>?_;rw[ht]at e;cases e;let(J,r):=T;let(pz,Z,_):=C J r;exact tab_keep (V _ ht) (bl.nt0 J _ r ht).symm Z (D J r).2
 generalize iW:List.zipWith (λp B=>bZ p.1 p.2 B) bs a8=cols at a5;let hok:ij cols bs:=by
  rw[←iW];exact qD a4 h.le λj p B e1 e2=>⟨(X j p B e1 e2).1,λc M=>jO<|((X j p B e1 e2).2 c).mp M⟩
 let a3:⇑cols=⇑bs:=by rw[←iW,jE];lia
 let M:o6 bs a cols:=⟨hok,a8,a4,iW.symm,X⟩;let N:=h.cl M;calc⟨_,U,t,_,_,_,_,U,y.ins b3,bl.k_Table,bl.na_Table_domains,f2,dl,_,U,.inl<|SqL.of<|y.lst d2,?_⟩;let(J,r):=T;let(b1,b5):=D J r;let a0:=bl.nt0 J _ r ht;let a2:TabOk H1 tP [(oY Y83,"verdict_form.<locals>.<lambda>")]:=by
  let(pz,Z,_):=C J r;exact tab_keep (V _ ht) a0.symm Z b5
 let(d5,a7,_):=id a2;refine⟨[(oY Y83,"verdict_form.<locals>.<lambda>")],fH,?_,a2,λf_ c' oc pm ctv H3 hf kp ef ec c0 wu inj=>?_⟩
 .intro p hp _ _;rw[gZ.mp hp];rfl
 let R:So H1 H3:=λd o p e=>kp d o (λz=>by rw[z,a7]at e;cases e;exact p) e
 let Gj:TabOk H3 J.2 [(oY Y78,"row_form.<locals>.<lambda>")]:=tab_keep b1 a0 a7 kp;refine λos G hz ho=>?_
 let I:=nH G hz;let c3:∃o,gk H3 ((([("table",0,↥s+1)]:Ly (Str×Nat×HR)).map (·.2.2)).zip os) (↥s+1)=Lh (.frz o TTh):=by
  let(o,_,e):=eK (H:=H3) (fz:=(([("table",0,↥s+1)]:Ly (Str×Nat×HR)).map (·.2.2)).zip os) (b:=↥s+1) (by rw[nG G];exact fH);exact⟨o,e⟩
 let Gk:=rY (H:=H3) (cl:=[("table",↥s+1)]) (ws:=[("table",.ref t)]) G (by simp) ho (λc M=>by
  simp only[jU,qc,bW,jC,or_false]at M;exact⟨_,fH,M.symm⟩) (λx v e=>by
  unfold List.lookup at e;split at e
  .rename_i hx
   cases e;rw[eq_of_beq hx];exact⟨_,fH,U,U⟩
  .cases e)
 let oz:jA (gk H3 ((([("table",0,↥s+1)]:Ly (Str×Nat×HR)).map (·.2.2)).zip os)) f_ c' (W.kla_obj "<lambda>" "verdict_form.<locals>.<lambda>" (qy Y83) (oX Y83) (kG Y83) [("table",↥s+1)] pm c' ctv) "verdict_form.<locals>.<lambda>" [("table",↥s+1)] [("table",.ref t)]:=⟨I _ _ ef,⟨oc,I _ _ ec,c0⟩,Gk⟩;let hN:Dk (K':=K) nJ LVd P w K mg base f_ (vdm a i o) (λH0=>jA H0 f_ c' (W.kla_obj "<lambda>" "verdict_form.<locals>.<lambda>" (qy Y83) (oX Y83) (kG Y83) [("table",↥s+1)] pm c' ctv) "verdict_form.<locals>.<lambda>" [("table",↥s+1)] [("table",.ref t)]/\Tbl Y.n Y.l Y.m H0 t a i o) :=
  ⟨⟨_,il (doc:=.none) (pm:=pm) (ctv:=ctv) (c':=c') (c_0:=↥s+1) bl yU inj,λH0 v x Q0 O hv k=>by
   let hv:v=.int x:=hv;subst hv;exact⟨x,t,a,i,o,U,O.1,O.2,λr_ d3 s0 b0=>k _ _ s0 ⟨r_,U,b0⟩⟩⟩,λH0 O=>⟨_,_,O.1.1,U⟩,λH0 d3 O s0=>⟨O.1.same s0,Tbl.same O.2 s0⟩⟩
 refine⟨Int,SI,inferInstance,inferInstance,nJ,LVd,vdm a i o,_,⇑cols,lay (mkg a) cols [],v,f_,?_,∅,∅,?_,?_,hN,⟨oz,Tbl.same (Tbl.so R<|Tbl.so y h.tb) I⟩,λu H4 s4 a6=>?_⟩
 .rw[b9,←a3]
 .exact(a5.mono R.tups).mono I.tups
 .exact(qC hok N []).le hg
 rw[zR hok]at a6;let S:=_L.hide_same G hz s4;let(o2,d1):=c3;let c4:Fzs H4 [↥s+1]:=λd hd=>by rw[gZ.mp hd];exact⟨o2,s4 _ _ d1⟩
 let c2:=a6.mono (So.hide c4).tups;let a9:So H (hideL H4 [↥s+1]):=(y.trans R).trans<|So.of S;let(F',d0,c8,c7,c6,c5):=Dp a3 (lay (λcd=>vdm a i o<|mkg a cd) cols []) (λn F=>FmV (K:=K) LVd (hideL H4 [↥s+1]) n F u/\fm n F bs/\SmF 300 n F/\(∀B,InB B bs->Tel n F B (vdm a i o<|mkg a B))/\⇑(bxs n F)<=g_) ⟨c2,iG hok [],(qC hok N []).le hg,(λB a1=>by
  let:=mH (g:=λcd=>vdm a i o<|mkg a cd) hok [] B a1;rw[tJ,mI M (λx hx=>h.row x hx) a1]at this;exact this),by have:=qK (g:=λcd=>vdm a i o<|mkg a cd) hok [];rw[h.prd M]at this;exact this⟩
 refine q hg u F' _ a9 (λz e=>?_) (λz e=>?_) d0 c8 c7 c6 c5
 .rw[r]at e;cases e;exact Gj.same S
 .rw[ht]at e;cases e;calc wu.same S
theorem Gm(F:Fun K "tiling" "tiling" Y82 f fd) (bl:Bl K mg Y)(qS:Callee P w K mg base 17 "boxes" ["form","deep"] (iQ K Y 7)) (dB:bN P w K mg base 17 "row_form" ["table"] (dG K Y)):aK P w K mg base (CX1 P w) 18 f fd ["table"] (jh K Y):=by
 refine F.okEA Z83 λa2 A S s H vs Q E T h=>?_
 let(t,X,bs,k,L,g_,i,o,rfl,h,r,y,qE,q):=h;calc⟨_,(aj<|ax<|aL qS T U<|aa (jK dB passE T U<|aa (pv 0) af)<|aa (au aw U bl.len_ Lg<|aa (cc (pv 0) U) af) af),?_⟩;let a0:=h.b4;calc⟨_,U,t,X,bs,k,L,g_,i,o,U,h,r,(λI Z a b n=>qE I Z a (λz e=>(b z e).1)<|gu r y bl.nt0 b n),λI v Z x a b n u m C=>?_⟩;let h1:=h.so a;let(rl,dx,dl,fs,xs,ht,f1,f2,R,M,a1,hR):=h1.td;generalize D:List.zipWith (λp G=>bZ p.1 p.2 G) bs x=cols at C;let hok:ij cols bs:=by
  rw[←D];exact qD u h.le λj p G W V=>⟨(m j p G W V).1,λc hc=>jO<|((m j p G W V).2 c).mp hc⟩
 let O:⇑cols=⇑bs:=by rw[←D,jE];lia
 let N:X.length=⇑bs:=M.1;let B:⇑(bxs ⇑cols<|lay (mkg k) cols [])<=300:=by have:=qK (g:=mkg k) hok [];rw[h.prd ⟨hok,x,u,D.symm,m⟩]at this;lia
 let J:=iG (g:=mkg k) hok [];refine⟨_,U,t,_,_,_,_,U,ht,bl.k_Table,bl.na_Table_domains,f2,dl,_,U,.inl<|SqL.of R,Int,inferInstance,nJ,⇑cols,_,v,by rw[N,O],C,∅,yW B ⋯,(λq_ hq=>by rw[(yC J q_ hq).1.len];lia),λl ys H2 s2 nl el hB=>?_⟩;calc q I l ys cols H2 (a.trans<|So.of s2) (λz e=>((b z e).1).same s2) (λz e=>(gu r y bl.nt0 b n z e).same s2) el (λd o p e=>aU (a d o p e) nl) ⟨hok,x,u,D.symm,m⟩ (B8 hB) B
theorem Gn(F:Fun K "_law_refused" "_law_refused" Y64 f fd) (bl:Bl K mg Y)(O:bN P w K mg base 18 "row_form" ["table"] (dG K Y)) (N:bN P w K mg base 18 "verdict_form" ["table"] (dr K Y)) (J:bN P w K mg base 18 "tiling" ["table"] (jh K Y)):aK P w K mg base CX0 19 f fd ["table","deed"] (fD K Y):=by
 refine F.okA Z64 λW A B s H Z Q E u h=>?_
 let(t,d,x,bs,k,L,p,i,o,rfl,h,m,n,M,q):=h
 refine⟨_,(aq (aG (i:=2) Z64.nd U (Or.inl U) cE)
  (aC (zH (G:=λC=>vc K C) (yf (aI cb (pv 1) ak<|aJ _) (mW<|ub O u U U<|aa (pv 0) af)<|yf (aI cb (pv 1) ak<|aJ _) (mW<|ub N u U U<|aa (pv 0) af)<|mW<|ub J u U U<|aa (pv 0) af) U U U U bl.TooFine_<|λC e oe hG hc=>(aj<|aG (i:=2) Z64.nd U (Or.inl U) cE))
  (aj<|ax<|pv 2))),?_⟩
 show(let a:TS:=_;let I:TS:=bX _ a;aR _ I _ _ _);intro _ _;refine(let R:St->Hp->Prop:=λy g=>So H g/\eQ K g/\eO K g/\y=[↑t,Lh<|.int d,Lh (.bl<|Lm<|300<p)];⟨R,?_,?_⟩)
 rotate_left
 .rintro T S ⟨so,a,c,rfl⟩;exact⟨_,U,q S so a c⟩
 rcases M with rfl|rfl|rfl
 .refine⟨_,U,U,_,U,dZ U ⟨_,U,t,x,bs,k,L,p,i,o,U,h,m,λj g so b r=>⟨_,U,bl.e_TooFine,bl.l_TooFine,?_⟩,λj v g V so b r _ _ _=>⟨so,λz e=>(b z e).1,gu m n bl.nt0 b r,by rw[Lu ∅];rfl⟩⟩⟩;exact λ_=>⟨so,λz e=>(b z e).1,gu m n bl.nt0 b r,by rw[Ls j];rfl⟩
 .refine⟨_,U,U,_,U,bY ⋯ ⟨_,U,U,_,U,dZ U ⟨_,U,t,x,bs,k,L,p,i,o,U,h,m,n,λj g so a c=>⟨_,U,bl.e_TooFine,bl.l_TooFine,?_⟩,λj v F_ g so a c _ _ _ _ _=>⟨so,a,c,by rw[Lu ∅];rfl⟩⟩⟩⟩;exact λ_=>⟨so,a,c,by rw[Ls j];rfl⟩
 .refine⟨_,U,U,_,U,bY ⋯ ⟨_,U,U,_,U,bY ⋯ ⟨_,U,t,x,bs,k,L,p,i,o,U,h,m,n,λj g so a c=>⟨_,U,bl.e_TooFine,bl.l_TooFine,?_⟩,λj l X D g so a c _ _ _ _ _=>⟨so,a,c,by rw[Lu ∅];rfl⟩⟩⟩⟩;calc λ_=>⟨so,a,c,by rw[Ls j];rfl⟩
theorem Gp(F:Fun K "_law_fine" "_law_fine" Y55 f fd) (bl:Bl K mg Y)(g:bw CX0 P w K mg base 18 "Numbers" Y.l ["self","low","high"] (bj K Y)) (a0:bw CX0 P w K mg base 18 "Table" Y.n ["self","name","names","domains","outcome","way","rows"] (bO K Y)) (oA:Callee P w K mg base 19 "_law_refused" ["table","deed"] (fD K Y)):aK P w K mg base CX0 20 f fd ["way","cell"] (iS K Y):=by
 refine F.okA Z55 λh4 A g7 s H vs Q E hr h=>?_
 let(wy,i,c,rfl,c4,hR,hV,q):=h
 refine⟨_,(aC (aG (i:=2) Z55.nd U (Or.inr U)<|aD bR (pv 1)<|aD iu ak ak)
  (aC (eX (i:=3) Z55.nd U (Or.inl U) (lp U bl.range_<|aa ak<|aa ak af) (aV (N:=["j","low"]) (fr:=[2]) (cl:=[("low",↥s+1+1)]) U U (~~~0) (~~~0) U (~~~0) U U U (fu.mpr ⟨U,ja _⟩) U) U (λ_ _ _ _=>bC)<|λ_ _ _ _=>(bq<|aa (aD bE (pv 1)<|aD fW ak<|pv 0)<|aa (aD bE (pv 1)<|aD fW ak<|pv 0) af))
  (aC (eX (i:=4) Z55.nd U (Or.inl U) (lp U bl.range_<|aa ak<|aa ak af) (aV (N:=["j","low"]) (fr:=[2]) (cl:=[("low",↥s+1+1)]) U U (~~~0) (~~~0) U (~~~0) U U U (fu.mpr ⟨U,ja _⟩) U) U (λ_ _ _ _=>bC)<|λ_ _ _ _=>(bq<|aa (aD bE (pv 1)<|aD fW ak<|pv 0)<|aa (aD bE (pv 1)<|aD fW ak<|pv 0) af))
  (aC (aG (i:=5) Z55.nd U (Or.inl U)<|mZ g bU hr U<|aa (pv 2)<|aa (aD bE (aD bE (pv 2) ak)<|aD bR (pv 1) ak) af)
  (aC (aG (i:=6) Z55.nd U (Or.inr U)<|mZ a0 bU hr U<|aa aN<|aa (aW<|aa aN af)<|aa (aW<|aa (pv 5) af)<|aa (mZ g bU hr U<|aa ak<|aa ak af)<|aa (pv 0)<|aa (aW<|aa (bq<|aa (aW<|aa (pv 3) af)<|aa ak af)<|aa (bq<|aa (aW<|aa (pv 4) af)<|aa ak af) af) af)
  (aj<|ax<|eG (Bs hr) (cq (bB U bl.range_<|aa ak af) (aV (N:=["deed","table"]) (fr:=[6]) (cl:=[("table",↥s+1+1+1)]) U U (~~~0) (~~~0) U (~~~0) U U U (fu.mpr ⟨U,ja _⟩) U) U (λ_ _ _ _=>bC)<|λ_ _ _ _=>(aL oA hr U<|aa (pv 1)<|aa (pv 0) af)) (cq (bB U bl.range_<|aa ak af) (aV (N:=["deed","cell"]) (fr:=[1]) (cl:=[("cell",↥s+1)]) U U (~~~0) (~~~0) U (~~~0) U U U (fu.mpr ⟨U,ja _⟩) U) U (λ_ _ _ _=>bC)<|λ_ _ _ _=>(eG cb (aD bR (pv 1) ak) ak<|aJ _))<|aJ _)))))),?_⟩
 show(let r5:TS:=_;let r4:TS:=bX _ r5;let r3:TS:=bX _ r4;let T:TS:=bX _ r3;let J:TS:=bX _ T;bX _ J _ _ _);intro _ _ _ _ _;let c0:=GN c (show(2:Int)≠0 by decide);let c1:=GO c (show(0:Int)<2 by decide);let X:c%2=0\/c%2=1:=∅
 calc(let C:St->Hp->Prop:=λr a=>a=H/\∃lo:Int,r=[Lh (.str wy),Lh<|.int c,Lh<|.int lo,Li,Li,Li,Li];⟨C,⟨_,U,_,_,U,U,⟨⋯,⋯,⋯⟩,_,_,U,U,p10 _,U,_,U⟩,?_⟩);rintro h2 H1 ⟨e_,lo,rfl⟩;subst e_;refine(let C:St->Hp->Prop:=λr a=>ar H1 a/\∃(W:HR)(xs:Ly V),a W=Lh (.lst xs)/\PL a xs (eY lo 1 100)/\r=[Lh (.str wy),Lh<|.int c,Lh<|.int lo,↑W,Li,Li,Li];⟨C,?_,?_⟩)
 .refine⟨_,_,U,⟨⋯,⋯,⋯,⋯⟩,(let C:HR->Nat->Ly V->Hp->Prop:=λD j b a=>ar H1 a/\a D=Lh (.lst b)/\PL a b (eY lo 1 j);bP C (λD L=>⟨ai L _,ae,.nil⟩) (λD j b a L M h=>?_) (λD b a L h=>⟨h.1,D,b,h.2.1,h.2.2,U⟩))⟩;let(sm,eD,hz):=h;let M:j<100:=M;let a5:=⇑hz;rw[kN]at a5;calc⟨_,U,_,U,_,_,U,U,.inl ⟨⋯,⋯⟩,_,_,U,U,_,U,_,U,_,_,U,U,.inl ⟨⋯,⋯⟩,_,_,U,U,bA,λt ht=>?_⟩;let st:=ai ht<|.tup [V.int (lo+2*(1+(j:Int))),V.int (lo+2*(1+(j:Int)))];let et:upd a t (.tup [V.int (lo+2*(1+(j:Int))),V.int (lo+2*(1+(j:Int)))]) t=Lh (.tup [V.int (lo+2*(1+(j:Int))),V.int (lo+2*(1+(j:Int)))]):=ae;generalize upd a t (.tup [V.int (lo+2*(1+(j:Int))),V.int (lo+2*(1+(j:Int)))])=H2 at st et⊢;let v:=st _ _ eD;let s2:cG H2 (upd H2 D<|.lst<|b++[.ref t]):=bK v;calc cA.mk M v (az ∅) ⟨(sm.trans st).upd L,ae,?_⟩;rw[show eY lo 1 (j+1)=eY lo 1 j++[zY lo (1+(j:Int))] by unfold eY;rw[mu,dW];rfl];exact((hz.mono st.tups).mono s2).snoc (s2 _ _ et)
 rintro h1 H2 ⟨s2,W,ox,g3,e4,rfl⟩;refine(let C:St->Hp->Prop:=λr a=>ar H2 a/\∃(ob:HR)(xs:Ly V),a ob=Lh (.lst xs)/\PL a xs (eY lo 101 50)/\r=[Lh (.str wy),Lh<|.int c,Lh<|.int lo,↑W,↑ob,Li,Li];⟨C,?_,?_⟩)
 .refine⟨_,_,U,⟨⋯,⋯,⋯,⋯⟩,(let C:HR->Nat->Ly V->Hp->Prop:=λD j b a=>ar H2 a/\a D=Lh (.lst b)/\PL a b (eY lo 101 j);bP C (λD L=>⟨ai L _,ae,.nil⟩) (λD j b a L M h=>?_) (λD b a L h=>⟨h.1,D,b,h.2.1,h.2.2,U⟩))⟩;let(sm,eD,hz):=h;let M:j<50:=M;let a5:=⇑hz;rw[kN]at a5;calc⟨_,U,_,U,_,_,U,U,.inl ⟨⋯,⋯⟩,_,_,U,U,_,U,_,U,_,_,U,U,.inl ⟨⋯,⋯⟩,_,_,U,U,bA,λt ht=>?_⟩;let st:=ai ht<|.tup [V.int (lo+2*(101+(j:Int))),V.int (lo+2*(101+(j:Int)))];let et:upd a t (.tup [V.int (lo+2*(101+(j:Int))),V.int (lo+2*(101+(j:Int)))]) t=Lh (.tup [V.int (lo+2*(101+(j:Int))),V.int (lo+2*(101+(j:Int)))]):=ae;generalize upd a t (.tup [V.int (lo+2*(101+(j:Int))),V.int (lo+2*(101+(j:Int)))])=H3 at st et⊢;let v:=st _ _ eD;let s2:cG H3 (upd H3 D<|.lst<|b++[.ref t]):=bK v;calc cA.mk M v (az ∅) ⟨(sm.trans st).upd L,ae,?_⟩;rw[show eY lo 101 (j+1)=eY lo 101 j++[zY lo (101+(j:Int))] by unfold eY;rw[mu,dW];rfl];exact((hz.mono st.tups).mono s2).snoc (s2 _ _ et)
 rintro h0 H3 ⟨s3,ob,px,g0,e3,rfl⟩;refine(let C:St->Hp->Prop:=λr a=>ar H3 a/\∃(S B:HR),a S=Lh (.ins Y.l B [("low",.int lo),("high",.int<|lo+300+c%2)])/\r=[Lh (.str wy),Lh<|.int c,Lh<|.int lo,↑W,↑ob,↑S,Li];⟨C,?_,?_⟩)
 .refine⟨_,U,_,U,_,_,U,U,_,U,_,_,U,U,(by show(0:Int)<2;decide),_,_,U,U,λx B hx a6 e5=>⟨x,B,lo,lo+300+c%2,U,ae,∅,U,?_,x,B,ae,U⟩⟩;intro b_ u e;let hb:b_≠x:=aU e hx;unfold mkd;rw[ay hb,ay hb];exact((ai a6 _).upd hx) _ _ e
 rintro g9 H4 ⟨s4,S,g6,g4,rfl⟩;let a3:=s3.trans s4;refine(let C:St->Hp->Prop:=λr a=>ar H4 a/\∃(tb:HR)(dv:Ly V),RfB Y.n Y.l Y.m a tb dv [(lo,lo+300+c%2)] (wG lo) (λ_=>sJ lo 300) (300+c%2).toNat i (0,1)/\r=[Lh (.str wy),Lh<|.int c,Lh<|.int lo,↑W,↑ob,↑S,↑tb];⟨C,?_,?_⟩)
 .refine⟨(by show 1<=HU;decide),λna e6=>?_⟩;let t1:=ai e6<|.lst [V.str s!"x"];let d2:upd H4 na (.lst [V.str s!"x"]) na=Lh (.lst<|[s!"x"].map V.str):=ae;generalize upd H4 na (.lst [V.str s!"x"])=H5 at t1 d2⊢;refine⟨_,U,(by show 1<=HU;decide),λdl e7=>?_⟩;let t2:=ai e7<|.lst [V.ref S];let d3:upd H5 dl (.lst [V.ref S]) dl=Lh (.lst [V.ref S]):=ae;generalize upd H5 dl (.lst [V.ref S])=H6 at t2 d3⊢;intro x B hx a6 e5;calc⟨x,B,0,1,U,ae,⋯,U,?_⟩;let t3:ar H6 (mkd Y.l (upd (upd H6 B<|.own x) x<|.ins Y.l B []) x B 0 1):=λb_ u e=>by
   let hb:b_≠x:=aU e hx;unfold mkd;rw[ay hb,ay hb];exact((ai a6 _).upd hx) _ _ e
  let a8:mkd Y.l (upd (upd H6 B<|.own x) x<|.ins Y.l B []) x B 0 1 x=Lh (.ins Y.l B [("low",.int 0),("high",.int 1)]):=ae;generalize mkd Y.l (upd (upd H6 B<|.own x) x<|.ins Y.l B []) x B 0 1=H7 at t3 a8⊢;refine⟨_,U,_,U,(by show 1<=HU;decide),λI e8=>?_⟩;let t4:=ai e8<|.lst [V.ref W];let d5:upd H7 I (.lst [V.ref W]) I=Lh (.lst [V.ref W]):=ae;generalize upd H7 I (.lst [V.ref W])=H8 at t4 d5⊢;calc⟨bA,λJ e2=>?_⟩;let t5:=ai e2<|.tup [V.ref I,V.int 0];let d0:upd H8 J (.tup [V.ref I,V.int 0]) J=Lh (.tup [V.ref I,V.int 0]):=ae;generalize upd H8 J (.tup [V.ref I,V.int 0])=H9 at t5 d0⊢;refine⟨_,U,(by show 1<=HU;decide),λG Gq=>?_⟩;let t6:=ai Gq<|.lst [V.ref ob];let d4:upd H9 G (.lst [V.ref ob]) G=Lh (.lst [V.ref ob]):=ae;generalize upd H9 G (.lst [V.ref ob])=H10 at t6 d4⊢;calc⟨bA,λT e1=>?_⟩;let t7:=ai e1<|.tup [V.ref G,V.int 1];let c8:upd H10 T (.tup [V.ref G,V.int 1]) T=Lh (.tup [V.ref G,V.int 1]):=ae;generalize upd H10 T (.tup [V.ref G,V.int 1])=H11 at t7 c8⊢;refine⟨(by show 2<=HU;decide),λrl e0=>?_⟩;let t8:=ai e0<|.lst [V.ref J,V.ref T];let c7:upd H11 rl (.lst [V.ref J,V.ref T]) rl=Lh (.lst [V.ref J,V.ref T]):=ae;generalize upd H11 rl (.lst [V.ref J,V.ref T])=H12 at t8 c7⊢;let b1:=t7.trans t8;let b3:=t6.trans b1;let b4:=t5.trans b3;let a2:=t4.trans b4;let b5:=t3.trans a2;let b6:=t2.trans b5;let O:=t1.trans b6;intro x3 Z c3 Gr Hs;let R:ar H12 (upd (upd H12 Z<|.own x3) x3<|.ins Y.n Z []):=(ai Gr _).upd c3;let Gs:Dom Y.l Y.m H12 S (lo,lo+300+c%2):=⟨Y.l,.inl U,g6,_,O _ _ g4,U,U,U⟩;let c5:Dom Y.l Y.m H12 x (0,1):=⟨Y.l,.inl U,B,_,a2 _ _ a8,U,U,U⟩;let f8:RL NT H12 [V.ref J,V.ref T] (wG lo):=by
   refine aS.snoc (xs:=[V.ref J]) (as:=[([eY lo 1 100],0)]) (aS.snoc (xs:=[]) (as:=[]) aS.nil ⟨I,[V.ref W],b3 _ _ d0,trivial,b4 _ _ d5,?_⟩) ⟨G,[V.ref ob],t8 _ _ c8,trivial,b1 _ _ d4,?_⟩
   .exact aS.snoc (xs:=[]) (as:=[]) aS.nil ⟨trivial,ox,O _ _<|a3 _ _ g3,PL.mono e4 (a3.trans O).tups⟩
   .exact aS.snoc (xs:=[]) (as:=[]) aS.nil ⟨trivial,px,O _ _<|s4 _ _ g0,PL.mono e3 (s4.trans O).tups⟩
  let c6:aS [V.ref S] [(lo,lo+300+c%2)] (Dom Y.l Y.m H12):=aS.snoc (xs:=[]) (as:=[]) aS.nil Gs;refine⟨x3,Z,na,dl,x,rl,s!"t",wy,[s!"x"],[V.ref S],[V.ref J,V.ref T],[(lo,lo+300+c%2)],(0,1),wG lo,U,ae,R _ _<|b6 _ _ d2,(by intro z hz;simp only[bW,jC,or_false]at hz;rcases hz with rfl|rfl <;> decide+kernel),~~~0,⋯,⋯,HH c4,(λ_=>⟨B,_,R _ _<|a2 _ _ a8⟩),R _ _<|b5 _ _ d3,aS.mono c6<|λ_ _ p=>p.same R,c5.same R,R _ _ c7,f8.same R,by show 2<=200;decide,by show 1<=4;decide,vF X,λa fs c2 b0 k1 k2 f1 f2 f3 f4 f5 d1 a7=>⟨U,?_⟩⟩;let(h3,g5,f5,f6,g1,g2):=f5;let v2:ar H12 a:=λb_ u e=>k1 b_ u (aU e c3)<|R _ _ e
  refine⟨O.trans v2,x3,[V.ref S],⟨⟨c2,Z,g5,fs,b0,k2,f1,f6,g2,aS.mono c6<|λ_ _ p=>p.same v2,d1,a7⟩,⟨c2,x,Z,fs,b0,wy,k2,f1,f2,f3,d1,a7,c4,c5.same v2,⋯,by rw[a7.1];show 2<=200;decide⟩,by show 1<=4;decide,by show 2<=200;decide,(λw_ hw=>(vF X w_ hw).len),λk=>?_,λk b_ eb=>?_,Cc X,λp hp=>?_⟩,U⟩
  .show⇑(([eY lo 1 100]:Ly Prs).getD k [])+(⇑(([eY lo 101 50]:Ly Prs).getD k [])+0)<=499;cases k with
   |zero =>
    show⇑(eY lo 1 100)+(⇑(eY lo 101 50)+0)<=499;rw[kN,kN];decide
   |succ k=>exact yX _
  .let hk:k=0:=by have:=(HG.mp eb).1;let:k<1:=this;lia
   subst hk;cases eb;refine⟨by show⇑(sJ lo 300)<=400;rw[sL];decide,λy hy=>nZ.mpr ?_⟩;let:=(vE X).mp hy;lia
  .rw[gZ.mp hp];show lo<=lo+300+c%2;lia
 rintro g8 H5 ⟨s5,tb,dv,f0,rfl⟩;let a4:=(s2.trans a3).trans s5;let f9:=hR.same a4;let e9:=hV.same a4;let Gu:decide (300<(300+c%2).toNat)=Lm (V.int (c%2)=V.int 1):=by
  rcases X with e|e <;> rw[e] <;> rfl
 refine⟨_,U,⋯,⋯,(let C:HR->Nat->Ly V->Hp->Prop:=λD j b a=>So H5 a/\eQ K a/\eO K a/\a D=Lh (.lst b)/\b=List.replicate j (.bl<|Lm<|V.int (c%2)=V.int 1);bP C (λD L=>⟨So.of<|ai L _,f9.same<|ai L _,e9.same<|ai L _,ae,U⟩) (λD j b a L M h=>?_) (λD b a L h=>?_))⟩
 .let(so,J,R,eD,rfl):=h;let M:j<3:=M;calc⟨_,U,_,U,tb,_,dv,_,_,_,_,i,_,U,f0.so so,J,R,∅,λH6 b9 r6 v6=>?_⟩;let a9:=b9.lst eD;rw[Gu];refine cA.mk M a9 (az (by rw[oG];lia)) ⟨λd o p e=>(ay (λz=>by rw[z,L]at e;cases e)).trans ((so.trans b9) d o p e),λz e=>(r6 z e).updL a9,λz e=>(v6 z e).updL a9,ae,?_⟩;rw[List.replicate_succ']
 .let(so,J,R,eD,rfl):=h;refine⟨_,U,⋯,⋯,(let C:HR->Nat->Ly V->Hp->Prop:=λD2 j b H7=>ar a H7/\H7 D2=Lh (.lst b)/\b=List.replicate j (.bl<|Lm<|V.int (c%2)=V.int 1);bP C (λD2 a1=>⟨ai a1 _,ae,U⟩) (λD2 j b H7 a1 M h=>?_) (λD2 b H7 a1 h=>?_))⟩
  .let(s7,v,rfl):=h;let M:j<3:=M;refine⟨_,U,_,_,U,U,(by show(0:Int)<2;decide),U,cA.mk M v (az (by rw[oG];lia)) ⟨s7.upd a1,ae,?_⟩⟩;rw[List.replicate_succ']
  .let(s7,v,rfl):=h;refine yL (SqL.of<|s7 _ _ eD) (SqL.of v) (λy hy=>by rw[List.eq_of_mem_replicate hy];rfl) ?_;calc q H7 (((So.of a4).trans so).trans<|So.of s7) (J.same s7)<|R.same s7
theorem Gv(F:Fun K "law" "law" Y46 f fd) (bl:Bl K mg Y)(o8:Callee P w K mg base 20 "_law_bounds" ["script"] (gc K Y)) (qT:Callee P w K mg base 20 "_law_pools" ["script","bounds"] (gR K Y)) (oB:Callee P w K mg base 20 "_law_numbers" ["script","most"] (fA K Y)) (mm:Callee P w K mg base 20 "_law_made" ["script","bounds","rows","way","big","name"] (iR K Y)) (dB:bN P w K mg base 20 "row_form" ["table"] (dG K Y)) (dU:bN P w K mg base 20 "verdict_form" ["table"] (dr K Y)) (oC:Callee P w K mg base 20 "_law_corners" ["lows"] (fB K Y)) (kT:bN P w K mg base 20 "tiling" ["table"] (jh K Y)) (kU:Callee P w K mg base 20 "_law_tiled" ["found","rows","bounds"] (gW K Y)) (uK:Callee P w K mg base 20 "_law_row" ["bounds","pools","number","outs"] (jT K Y)) (qU:Callee P w K mg base 20 "_law_edges" ["rows","k","pair"] (gP K Y)) (j6:Callee P w K mg base 20 "_law_alike_marks" ["table","bounds","marks"] (dA K Y)) (sT:Callee P w K mg base 20 "_law_lows" ["bounds","marks"] (iO K Y)) (fF:Callee P w K mg base 20 "_law_fitting" ["rows","codes"] (dP K Y)) (oE:Callee P w K mg base 20 "_law_due" ["way","outs","low","high"] (jS K Y)) (sU:Callee P w K mg base 20 "_law_fine" ["way","cell"] (iS K Y)) (eZ:Callee P w K mg base 20 "_law_shape" ["form","bounds"] (dR K Y 5)) (cg:Callee P w K mg base 20 "_law_at" ["script","k"] (fb K Y)) (yV:Callee P w K mg base 20 "look" ["form","codes"] (qM K Y)) (iV:Callee P w K mg base 20 "_law_bits" ["fitting"] (fT K Y)):aK P w K mg base CX0 21 f fd ["script"] (J18 K):=by
 refine F.ok Z46 (λvs H Q E h=>?_)<|λcdv A y7 s H vs Q E W h=>?_
 .let(a,ns,rfl,hS,j3,h5,h4,q):=h;rfl
 let(a,ns,rfl,hS,j3,h5,h4,q):=h
 refine⟨_,(aC (aG (i:=1) Z46.nd U (Or.inr U)<|aL o8 W U<|aa (pv 0) af)
  (aC (aG (i:=2) Z46.nd U (Or.inl U)<|aH ba (aW<|aa aN<|aa aN<|aa aN<|aa aN<|aa aN<|aa aN af) (aD bR (aD dJ (aL cg W U<|aa (pv 0)<|aa ak af) ak) ak)<|λ_ _=>U)
  (aC (aG (i:=3) Z46.nd U (Or.inr U)<|aD bE ak<|aD bR (aD dJ (aL cg W U<|aa (pv 0)<|aa ak af) ak)<|aD iu ak ak)
  (aC (aG (i:=4) Z46.nd U (Or.inr U)<|aL qT W U<|aa (pv 0)<|aa (pv 1) af)
  (aC (aG (i:=5) Z46.nd U (Or.inl U)<|aL oB W U<|aa (pv 0)<|aa (aH ba (aW<|aa ak<|aa ak<|aa ak af) (aD dI (au aw U bl.len_ Lg<|aa (pv 1) af) ak)<|λ_ _=>U) af)
  (aC (aG (i:=6) Z46.nd U (Or.inr U)<|cq (aQ<|pv 5) (aV (N:=["number","bounds","big","pools"]) (fr:=[1,3,4]) (cl:=[("pools",↥s+1+1+1),("bounds",↥s+1),("big",↥s+1+1)]) U U (~~~0) (~~~0) U (~~~0) U U U (fu.mpr ⟨U,fu.mpr ⟨U,fu.mpr ⟨U,ja _⟩⟩⟩) U) U (λ_ _ _ _=>bC)<|λ_ _ _ _=>(aL uK W U<|aa (pv 1)<|aa (pv 3)<|aa (pv 0)<|aa (aW<|aa ak<|aa (pv 2)<|aa (mL jG<|pv 2) af) af))
  (aC (eX (i:=7) Z46.nd U (Or.inl U) (bB U bl.range_<|aa (au aw U bl.len_ Lg<|aa (pv 6) af) af) (aV (N:=["j","rows"]) (fr:=[6]) (cl:=[("rows",↥s+1+1+1+1)]) U U (~~~0) (~~~0) U (~~~0) U U U (fu.mpr ⟨U,ja _⟩) U) U (λ_ _ _ _=>bC)<|λ_ _ _ _=>(aH (cP (K:=K) U) (pv 1) (aD dI (aD dI (au (oV (K:=K) U) U bl.len_ Lg<|aa (pv 1) af) ak)<|pv 0)<|λ_ _=>U))
  (aC (aG (i:=8) Z46.nd U (Or.inl U)<|aL mm W U<|aa (pv 0)<|aa (pv 1)<|aa (pv 6)<|aa (pv 2)<|aa (pv 3)<|aa aN af)
  (aC (aG (i:=9) Z46.nd U (Or.inl U)<|aL mm W U<|aa (pv 0)<|aa (pv 1)<|aa (pv 7)<|aa (pv 2)<|aa (pv 3)<|aa aN af)
  (aC (aP (PW.pt<|ir (aI cb (aD bR (aD dJ (aL cg W U<|aa (pv 0)<|aa ak af) ak) ak) ak<|aJ _)<|fL<|bQ<|cy<|aL sU W U<|aa (pv 2)<|aa (aL cg W U<|aa (pv 0)<|aa ak af) af)
  (aj<|ax cE)
  aF)
  (aC (eX (i:=10) Z46.nd U (Or.inl U) (bB U bl.range_<|aa (au aw U bl.len_ Lg<|aa (pv 1) af) af) (aV (N:=["k","bounds","rows"]) (fr:=[1,6]) (cl:=[("rows",↥s+1+1+1+1),("bounds",↥s+1)]) U U (~~~0) (~~~0) U (~~~0) U U U (fu.mpr ⟨U,fu.mpr ⟨U,ja _⟩⟩) U) U (λ_ _ _ _=>bC)<|λ_ _ _ _=>(aL qU W U<|aa (pv 2)<|aa (pv 0)<|aa (aH (cP (K:=K) U) (pv 1) (pv 0)<|λ_ _=>U) af))
  (aC (aP (bQ<|cy<|aL j6 W U<|aa (pv 8)<|aa (pv 1)<|aa (pv 10) af)
  (aj<|ax cE)
  aF)
  (aC (aG (i:=11) Z46.nd U (Or.inl U)<|jK dB rz W U<|aa (pv 8) af)
  (aC (aG (i:=12) Z46.nd U (Or.inl U)<|jK dU rz W U<|aa (pv 8) af)
  (aC (aP (PW.pt<|jr (bQ<|cy<|aL eZ W U<|aa (pv 11)<|aa (pv 1) af)<|iq<|bQ<|cy<|aL eZ W U<|aa (pv 12)<|aa (pv 1) af)
  (aj<|ax cE)
  aF)
  (aC (aG (i:=13) Z46.nd U (Or.inl U) cE)
  (aC (bp IG.never U (aQ<|aL oC W U<|aa (aL sT W U<|aa (pv 1)<|aa (pv 10) af) af) (aE (i:=14) Z46.nd U<|Or.inl U)
  (aC (aG (i:=15) Z46.nd U (Or.inl U)<|aL fF W U<|aa (pv 6)<|aa (pv 14) af)
  (aC (aG (i:=16) Z46.nd U (Or.inl U)<|aL oE W U<|aa (pv 2)<|aa (cq (aQ<|pv 15) (aV (N:=["j","rows"]) (fr:=[6]) (cl:=[("rows",↥s+1+1+1+1)]) U U (~~~0) (~~~0) U (~~~0) U U U (fu.mpr ⟨U,ja _⟩) U) U (λ_ _ _ _=>bC)<|λ_ _ _ _=>(aH (dk (K:=K) U) (aH (cP (K:=K) U) (pv 1) (pv 0)<|λ_ _=>U) ak<|λ_ _=>U))<|aa (mL jG<|pv 3)<|aa (aD bE (pv 3)<|aD dJ (pv 3) ak) af)
  (aC (aP (PW.pt<|jr (aI (yk W) (aL yV W U<|aa (pv 11)<|aa (bJ cV U bl.list_ PyProof.Rows.boot_list<|aa (pv 14) af) af) (aL iV W U<|aa (pv 15) af)<|aJ _)<|iq<|aI (yk W) (aL yV W U<|aa (pv 12)<|aa (bJ cV U bl.list_ PyProof.Rows.boot_list<|aa (pv 14) af) af) (pv 16)<|aJ _)
  (aj<|ax cE)
  aF)
  (aC (eX (i:=17) Z46.nd U (Or.inl U) (BO U bl.reversed_<|aa (pv 15) af) (aV (N:=["j","rows"]) (fr:=[6]) (cl:=[("rows",↥s+1+1+1+1)]) U U (~~~0) (~~~0) U (~~~0) U U U (fu.mpr ⟨U,ja _⟩) U) U (λ_ _ _ _=>bC)<|λ_ _ _ _=>(aH (dk (K:=K) U) (aH (cP (K:=K) U) (pv 1) (pv 0)<|λ_ _=>U) ak<|λ_ _=>U))
  (aj (aP (aI (By W) (aL oE W U<|aa (pv 2)<|aa (pv 17)<|aa (mL jG<|pv 3)<|aa (aD bE (pv 3)<|aD dJ (pv 3) ak) af) (pv 16)<|aJ _)
  (aj<|aG (i:=13) Z46.nd U (Or.inl U) cE)
  aF)))))))
  (aC (aP (aI l7 (eG (uz W) (jK dU rz W U<|aa (pv 9) af) (pv 12)<|aJ _) (pv 13)<|aJ _)
  (aj<|ax cE)
  aF)
  (aC (aG (i:=18) Z46.nd U (Or.inl U)<|jK kT rz W U<|aa (pv 8) af)
  (aC (aP (bQ<|cy<|aL kU W U<|aa (pv 18)<|aa (pv 6)<|aa (pv 1) af)
  (aj<|ax cE)
  aF)
  (aC (bg<|xr PySem.F.plainAttrs_list PySem.F.slot_list_clear PySem.F.type_list_clear rj<|pv 18)
  (aj<|ax<|aL kU W U<|aa (jK kT rz W U<|aa (pv 8) af)<|aa (pv 6)<|aa (pv 1) af)))))))))))))))))))))),?_⟩
 show(let l5:TS:=_;let l6:TS:=bX _ l5;let m0:TS:=bX _ l6;let m1:TS:=bX _ m0;let m2:TS:=bX _ m1;let n0:TS:=bX _ m2;let n1:TS:=bX _ n0;let n2:TS:=bX _ n1;let n4:TS:=bX _ n2;let n6:TS:=bX _ n4;let n7:TS:=bX _ n6;let o0:TS:=bX _ n7;let r9:TS:=bX _ o0;let r8:TS:=bX _ r9;let r7:TS:=bX _ r8;let r6:TS:=bX _ r7;let r5:TS:=bX _ r6;let r4:TS:=bX _ r5;let r3:TS:=bX _ r4;let r2:TS:=bX _ r3;let r1:TS:=bX _ r2;bX _ r1 _ _ _);intro _ _ _ _ _ _ _ _ _ _ _ _ _ _ _ _ _ _ _ _ _;calc(let I:St->Hp->Prop:=λB o=>ar H o/\∃(L:HR)(ys:Ly V)(bs:Prs),o L=Lh (.lst ys)/\PL o ys bs/\BdI ns bs/\B=[↑a,↑L,Li,Li,Li,Li,Li,Li,Li,Li,Li,Li,Li,Li,Li,Li,Li,Li,Li];⟨I,⟨_,U,a,ns,U,hS,λl ys bs o s _ el hP hB=>⟨s,l,ys,bs,el,hP,hB,U⟩⟩,?_⟩);rintro σ1 H1 ⟨s1,L,ys,bs,b5,hP,hB,rfl⟩;let b4:=s1.seq hS;let o3:=⇑hP;let(h8,a7):=hB.n3;let b3:∀b∈bs,b.1<=b.2:=λb hb=>by
  let(k,ek):=jY hb;exact(hB.ok k b ek).1
 refine(let I:St->Hp->Prop:=λB o=>ar H1 o/\∃(Z:Nat)(S:Str),six[Z]?=Lh S/\B=[↑a,↑L,Lh<|.str S,Li,Li,Li,Li,Li,Li,Li,Li,Li,Li,Li,Li,Li,Li,Li,Li];⟨I,?_,?_⟩)
 .let(Z,S,b0,hv):=EJ<|ns.getD (0:Int).toNat 0 / 3;exact⟨(by show 6<=HU;decide),λl hl=>⟨_,U,a,ns,0,U,(ai hl _).seq b4,Int.le_refl _,_,_,U,U,⟨⋯,⋯⟩,_,_,U,U,(by show(0:Int)<6;decide),l,_,_,_,U,U,SqL.of ae,hv,ai hl _,Z,S,b0,U⟩⟩
 rintro σ2 H2 ⟨s2,Z,S,b0,rfl⟩;let e5:=s2.seq b4;calc(let I:St->Hp->Prop:=λB o=>o=H2/\∃big:Int,1<=big/\B=[↑a,↑L,Lh<|.str S,Lh<|.int big,Li,Li,Li,Li,Li,Li,Li,Li,Li,Li,Li,Li,Li,Li,Li];⟨I,⟨_,U,a,ns,0,U,e5,Int.le_refl _,_,_,U,U,⟨⋯,⋯⟩,_,_,U,U,⟨⋯,⋯,⋯⟩,_,_,U,U,p10 _,_,_,U,U,U,_,Int.le_add_of_nonneg_right<|GN _<|Int.ne_of_gt<|p10 _,U⟩,?_⟩);rintro σ3 H3 ⟨e3,big,Af,rfl⟩;rw[e3];clear e3 H3;calc(let I:St->Hp->Prop:=λB o=>ar H2 o/\∃(po:HR)(as:Ly HR)(O:Ly (Ly Int)),o po=Lh (.lst<|as.map V.ref)/\MLs o as O/\PoI bs O/\B=[↑a,↑L,Lh<|.str S,Lh<|.int big,↑po,Li,Li,Li,Li,Li,Li,Li,Li,Li,Li,Li,Li,Li,Li];⟨I,⟨_,U,_,U,a,L,ns,ys,bs,U,e5,s2 _ _ b5,PL.mono hP s2.tups,h8,a7,b3,λl as O o s el hM hp=>⟨s,l,as,O,el,hM,hp,U⟩⟩,?_⟩);rintro σ4 H4 ⟨s4,po,as,O,x0,w0,a5,rfl⟩;let g6:=s2.trans s4;let t8:=s4.seq e5;refine(let I:St->Hp->Prop:=λB o=>ar H4 o/\∃(nu:HR)(ms:Ly Int),o nu=Lh (.lst<|ms.map V.int)/\⇑ms<=24/\B=[↑a,↑L,Lh<|.str S,Lh<|.int big,↑po,↑nu,Li,Li,Li,Li,Li,Li,Li,Li,Li,Li,Li,Li,Li];⟨I,?_,?_⟩)
 .let(m,p3,hm2,hv):=Du h8 a7;refine⟨_,U,(by show 3<=HU;decide),λl hl=>⟨_,U,L,_,U,.inl<|SqL.of<|ai hl _ _ _<|g6 _ _ b5,_,_,U,U,l,_,_,_,U,U,SqL.of ae,(by rw[o3];exact hv),a,ns,m,U,(ai hl _).seq t8,j3,p3,∅,λnu ms o s _ en p2=>⟨(ai hl _).trans s,nu,ms,en,∅,U⟩⟩⟩
 rintro σ5 H5 ⟨s5,nu,ms,j7,p2,rfl⟩;let g5:=g6.trans s5;refine(let I:St->Hp->Prop:=λB o=>ar H5 o/\∃(T:HR)(rx:Ly V)(d:Ly Rw),o T=Lh (.lst rx)/\RL NT o rx d/\⇑d<=24/\(∀w∈d,RwQ bs O [0,big,-big] w)/\B=[↑a,↑L,Lh<|.str S,Lh<|.int big,↑po,↑nu,↑T,Li,Li,Li,Li,Li,Li,Li,Li,Li,Li,Li,Li];⟨I,?_,?_⟩)
 .refine⟨_,U,nu,U,⟨_,SqL.of j7⟩,(let I:HR->Nat->Ly V->Hp->Prop:=λD i zs o=>ar H5 o/\o D=Lh (.lst zs)/\∃d:Ly Rw,RL (· ≠ D) o zs d/\⇑d=i/\∀w∈d,RwQ bs O [0,big,-big] w;cB (xs:=ms.map V.int) I (λD hD=>⟨ai hD _,ae,[],aS.nil,U,λw hw=>by cases hw⟩) (λD i zs o hD _ h=>SqL.of<|h.1 _ _ j7) (λD i y zs o hD e h=>?_) (λD zs o hD h=>?_))⟩
  .let(sm,eD,d,hz,d2,a0):=h;let(n_,rfl,_):=of_map e;let hi:=(HG.mp e).1;let hi2:i<⇑ms:=by rwa [bc]at hi
   let hzl:⇑zs=⇑d:=hz.1;refine⟨_,U,_,U,_,U,_,U,_,U,_,U,(by show 3<=HU;decide),λl hl=>?_⟩;let u:=ai hl<|.lst [.int 0,.int big,.int (-big)];let eu:upd o l (.lst [.int 0,.int big,.int (-big)]) l=Lh (.lst<|[0,big,-big].map V.int):=ae;generalize upd o l (.lst [.int 0,.int big,.int (-big)])=Hb at u eu⊢;let k2:=u _ _ eD;let sA:=(g5.trans sm).trans u;refine⟨L,po,l,n_,ys,bs,as,O,[0,big,-big],U,sA _ _ b5,PL.mono hP sA.tups,(sm.trans u) _ _<|s5 _ _ x0,w0.same<|s5.trans<|sm.trans u,a5,eu,by show 0<3;decide,a7,λr w Hc sc o9 hq=>?_⟩;let f4:=sc _ _ k2;refine cA.mk hi f4 (az ∅) ⟨((sm.trans u).trans sc).upd hD,ae,d++[w],aS.snoc ((hz.same<|u.trans sc).updN (λz=>z U) f4)<|(o9.wk (λa ha z=>by rw[z,k2]at ha;cases ha)).updN (λz=>z U) f4,by rw[dy,iU,d2],λw' o5=>?_⟩;rcases hZ.mp o5 with h|h
   .exact a0 w' h
   .rw[gZ.mp h];exact hq
  .let(sm,eD,d,hz,d2,a0):=h;rw[bc]at d2;exact⟨sm,D,zs,d,eD,hz.any,∅,a0,U⟩
 rintro σ6 H6 ⟨s6,T,rx,d,c1,hR,Ht,a0,rfl⟩;let hxl:⇑rx=⇑d:=hR.1;let l3:=g5.trans s6;refine(let I:St->Hp->Prop:=λB o=>ar H6 o/\∃bk:HR,o bk=Lh (.lst rx.reverse)/\B=[↑a,↑L,Lh<|.str S,Lh<|.int big,↑po,↑nu,↑T,↑bk,Li,Li,Li,Li,Li,Li,Li,Li,Li,Li,Li];⟨I,?_,?_⟩)
 .refine⟨_,U,T,_,U,.inl<|SqL.of c1,_,U,∅,∅,(let I:HR->Nat->Ly V->Hp->Prop:=λD j zs o=>ar H6 o/\o D=Lh (.lst zs)/\zs=rx.reverse.take j;bP I (λD hD=>⟨ai hD _,ae,U⟩) (λD j zs o hD hj h=>?_) (λD zs o hD h=>?_))⟩
  .let(sm,eD,rfl):=h;let i1:j<⇑rx:=∅
   let(y,ey):∃y,rx.reverse[j]?=Lh y:=⟨_,HF (by rw[lS];exact i1)⟩;let hv:atI rx ((⇑rx:Int)-1-(0+(j:Int)))=Lh y:=by
    rw[show(⇑rx:Int)-1-(0+(j:Int))=((⇑rx-1-j:Nat):Int) by lia];exact bh<|(wO i1).symm.trans ey
   exact⟨_,U,_,U,T,_,U,.inl<|SqL.of<|sm _ _ c1,_,_,U,U,_,U,_,_,U,U,T,_,_,_,U,U,SqL.of<|sm _ _ c1,hv,cA.mk hj eD (az (by rw[iT,lS];lia)) ⟨sm.upd hD,ae,(take_snoc ey).symm⟩⟩
  .let(sm,eD,rfl):=h;rw[E2,lT (by rw[lS];exact xX _)]at eD;exact⟨sm,D,eD,U⟩
 rintro σ7 H7 ⟨s7,bk,x7,rfl⟩;let c5:=l3.trans s7;let t7:=c5.seq b4;let hok:∀w∈d,ml bs (-big,big+big / 2) w:=λw hw=>Dv Af a5.len<|a0 w hw
 calc(let I:St->Hp->Prop:=λB o=>ar H7 o/\∃(tb:HR)(dv:Ly V),TD Y.n Y.l Y.m o tb dv bs d/\Tbl Y.n Y.l Y.m o tb d Z (-big,big+big / 2)/\B=[↑a,↑L,Lh<|.str S,Lh<|.int big,↑po,↑nu,↑T,↑bk,↑tb,Li,Li,Li,Li,Li,Li,Li,Li,Li,Li];⟨I,⟨_,U,_,U,_,U,_,U,_,U,a,L,T,ns,ys,bs,rx,d,S,_,Z,big,U,t7,c5 _ _ b5,PL.mono hP c5.tups,hB,s7 _ _ c1,RL.same hR s7,∅,b0,Af,.inl U,hok,λt dv o s hD hT=>⟨s,t,dv,hD,hT,U⟩⟩,?_⟩);rintro σ8 H8 ⟨s8,tb,dv,t6,t5,rfl⟩;let c4:=c5.trans s8;refine(let I:St->Hp->Prop:=λB o=>ar H8 o/\∃(ob:HR)(dw:Ly V),TD Y.n Y.l Y.m o ob dw bs d.reverse/\Tbl Y.n Y.l Y.m o ob d.reverse Z (-big,big+big / 2)/\B=[↑a,↑L,Lh<|.str S,Lh<|.int big,↑po,↑nu,↑T,↑bk,↑tb,↑ob,Li,Li,Li,Li,Li,Li,Li,Li,Li];⟨I,⟨_,U,_,U,_,U,_,U,_,U,a,L,bk,ns,ys,bs,rx.reverse,d.reverse,S,_,Z,big,U,c4.seq b4,c4 _ _ b5,PL.mono hP c4.tups,hB,s8 _ _ x7,aS.rev<|RL.same hR<|s7.trans s8,by rw[lS];lia,b0,Af,.inr U,(λw hw=>hok w<|sW.mp hw),λt dv o s hD hT=>⟨s,t,dv,hD,hT,U⟩⟩,?_⟩);rintro σ9 H9 ⟨s9,ob,dw,v8,v6,rfl⟩;let c3:=c4.trans s9;let g7:=s1.trans c3;let i8:eQ K H9:=λz e=>(TabOk.new<|h5 z e).same g7
 let i3:eO K H9:=λz e=>(TabOk.new<|h4 z e).same g7
 refine(let I:St->Hp->Prop:=λB o=>So H9 o/\eQ K o/\eO K o/\B=[↑a,↑L,Lh<|.str S,Lh<|.int big,↑po,↑nu,↑T,↑bk,↑tb,↑ob,Li,Li,Li,Li,Li,Li,Li,Li,Li];⟨I,?_,?_⟩)
 .refine⟨_,U,a,ns,0,U,c3.seq b4,Int.le_refl _,_,_,U,U,⟨⋯,⋯⟩,_,_,U,U,(by show(0:Int)<5;decide),U,_,U,cD (λg=>⟨_,U,_,U,a,ns,1,U,c3.seq b4,⋯,S,Z,_,U,b0,i8,i3,λo so r v=>⟨_,U,bV ⟨so,r,v,U⟩⟩⟩)<|λg=>bV ⟨So.of<|ar.refl _,i8,i3,U⟩⟩
 rintro σa Ha ⟨a9,v3,t4,rfl⟩;let g4:=(So.of c3).trans a9;let Ai:=g4.lst b5;let e7:PL Ha ys bs:=PL.mono hP g4.tups;let DI:=a9.lst<|(s7.trans<|s8.trans s9) _ _ c1;let DJ:RL NT Ha rx d:=RL.so a9<|RL.same hR<|s7.trans<|s8.trans s9;let DK:=TD.so a9<|t6.same s9;refine(let I:St->Hp->Prop:=λB o=>ar Ha o/\∃(ma:HR)(mr:Ly HR)(J:Ly (Ly Int)),o ma=Lh (.lst<|mr.map V.ref)/\MLs o mr J/\MkA d bs J/\B=[↑a,↑L,Lh<|.str S,Lh<|.int big,↑po,↑nu,↑T,↑bk,↑tb,↑ob,↑ma,Li,Li,Li,Li,Li,Li,Li,Li];⟨I,?_,?_⟩)
 .refine⟨_,U,L,_,U,.inl<|SqL.of Ai,_,U,∅,∅,(let I:HR->Nat->Ly V->Hp->Prop:=λD i zs o=>ar Ha o/\o D=Lh (.lst zs)/\∃(mr:Ly HR)(J:Ly (Ly Int)),zs=mr.map V.ref/\MLs (hide o D) mr J/\J.length=i/\∀(c:Nat)(b:Int×Int)(ms:Ly Int),bs[c]?=Lh b->J[c]?=Lh ms->ms.Pairwise (· < ·)/\∀x,x∈ms↔MkC d c b x;bP I (λD hD=>⟨ai hD _,ae,[],[],U,MLs.nil,U,λc b ms _ e=>by simp at e⟩) (λD i zs o hD hi h=>?_) (λD zs o hD h=>?_))⟩
  .let(sm,eD,mr,J,rfl,hz,i0,d4):=h;let q1:i<⇑ys:=∅
   let(y,ey):∃y,ys[i]?=Lh y:=⟨_,HF q1⟩;let(b,t,eb,rfl,ht):=e7.get ey;let(hL1,w7):=wH a0 a5 eb;let o7:=kM ⇑bs;refine⟨_,U,_,U,_,U,_,U,L,_,_,_,U,U,SqL.of<|sm _ _ Ai,lO ey,T,t,i,rx,d,b,pL O i,by rw[Int.zero_add],sm _ _ DI,RL.same DJ sm,∅,sm _ _ ht,(λw hw=>Ab (a0 w hw) a5 eb),∅,w7,λl G H2 s2 nl el pw hm=>?_⟩;let x9:=s2 _ _ eD;let nD:l≠D:=λz=>by rw[z,eD]at nl;cases nl
   let hal:=hz.1;refine cA.mk hi x9 (az (by rw[bc];lia)) ⟨(sm.trans s2).upd hD,ae,mr++[l],J++[G],by rw[dW];rfl,?_,by rw[dy,iU,i0],λc b' ms e1 e2=>?_⟩
   .rw[nR];exact MLs.snoc (hz.same<|lR s2)<|gJ el nD
   .by_cases hc:c<J.length
    .rw[ji hc]at e2;exact d4 c b' ms e1 e2
    .rw[kq ∅]at e2;let h0:=(HG.mp e2).1;rw[iU]at h0;let q5:c=i:=∅
     subst q5;rw[eb]at e1;cases e1;rw[show c-J.length=0 by lia]at e2;cases e2;exact⟨pw,hm⟩
  .let(sm,eD,mr,J,rfl,hz,i0,d4):=h;exact⟨sm,D,mr,J,eD,hz.same<|qJ o D,⟨∅,d4⟩,U⟩
 rintro σb Hb ⟨sb,ma,mr,J,j8,j0,a3,rfl⟩;let eA:∀w∈d,⇑w.1=⇑bs:=λw hw=>(a0 w hw).len
 let o7:=kM ⇑bs;calc(let I:St->Hp->Prop:=λB o=>ar Hb o/\B=[↑a,↑L,Lh<|.str S,Lh<|.int big,↑po,↑nu,↑T,↑bk,↑tb,↑ob,↑ma,Li,Li,Li,Li,Li,Li,Li,Li];⟨I,⟨_,U,_,U,_,U,tb,L,ma,dv,bs,d,pL O,ys,mr,J,U,DK.same sb,∅,∅,eA,(λc=>yW (yO a0 a5 c) ∅),(λc b eb=>⟨yW (wH a0 a5 eb).1 ∅,(wH a0 a5 eb).2⟩),sb _ _ Ai,PL.mono e7 sb.tups,j8,j0,a3.1,a3.2,λo s=>⟨_,U,bV ⟨s,U⟩⟩⟩,?_⟩);rintro σc Hc ⟨sc,rfl⟩;let a6:=sb.trans sc;let hg:=Dw a0 a5 a3 a7;let c0:RfB Y.n Y.l Y.m Hc tb dv bs d (pL O) (gr bs J ⇑bs) Z (-big,big+big / 2):=AW (DK.same a6) ((Tbl.so a9<|t5.same s9).same a6) a7 ∅ a0 a5 a3 b3;let DL:RfB Y.n Y.l Y.m Hc ob dw bs d.reverse (pL O) (gr bs J ⇑bs) Z (-big,big+big / 2):=AW ((TD.so a9 v8).same a6) ((Tbl.so a9 v6).same a6) a7 (by rw[lS];lia) (λw hw=>a0 w<|sW.mp hw) a5 a3.rev b3;let uJ:=a3.cut b3;let p0:∀M:Ly (Ly Int),M.length=⇑bs->PrO bs J M->⇑(cM<|List.zipWith (λp G=>p.1 :: G) bs M)<=900:=λM a8 b1=>by
  let h1:=vA a8 a3.1 b1 ⇑bs<|xX _;rw[lT (by rw[jE];lia)]at h1;lia
 generalize gr bs J ⇑bs=g at hg c0 DL;generalize iW:List.zipWith (λp G=>bZ p.1 p.2 G) bs J=cols at uJ;let hcn:⇑cols=⇑bs:=by rw[←iW,jE,a3.1];lia
 let keep:∀Hz,So Hc Hz->Hz L=Lh (.lst ys)/\PL Hz ys bs/\Hz T=Lh (.lst rx)/\RL NT Hz rx d/\RfB Y.n Y.l Y.m Hz tb dv bs d (pL O) g Z (-big,big+big / 2)/\RfB Y.n Y.l Y.m Hz ob dw bs d.reverse (pL O) g Z (-big,big+big / 2):=λHz so=>⟨so.lst<|a6 _ _ Ai,PL.mono e7<|a6.tups.trans so.tups,so.lst<|a6 _ _ DI,RL.so so<|RL.same DJ a6,c0.so so,DL.so so⟩
 let i5:eQ K Hc:=λz e=>(v3 z e).same a6
 let t3:eO K Hc:=λz e=>(t4 z e).same a6
 refine(let I:St->Hp->Prop:=λB o=>So Hc o/\eQ K o/\eO K o/\∃mv:V,FmV (K:=K) nJ o ⇑cols (lay (mkg d) cols []) mv/\B=[↑a,↑L,Lh<|.str S,Lh<|.int big,↑po,↑nu,↑T,↑bk,↑tb,↑ob,↑ma,Lh<|mv,Li,Li,Li,Li,Li,Li,Li];⟨I,⟨_,U,tb,dv,bs,d,pL O,g,Z,_,U,c0,i5,(λh=>Lr h ∅),λ_ v o M so h6 hz a8 q4 hF=>?_⟩,?_⟩)
 .rw[yN a3 ⟨a8,q4⟩,iW]at hF;exact⟨so,λz e=>(h6 z e).1,gu i5 t3 bl.nt0 h6 hz,v,hF,U⟩
 rintro z9 Hd ⟨g0,v2,t1,mv,c6,rfl⟩;calc(let I:St->Hp->Prop:=λB o=>So Hd o/\eQ K o/\eO K o/\∃(fv:V)(F_:Fm SI ⇑bs),FmV (K:=K) LVd o ⇑bs F_ fv/\fm ⇑bs F_ bs/\SmF 300 ⇑bs F_/\(∀G,InB G bs->Tel ⇑bs F_ G (vdm d Z (-big,big+big / 2)<|mkg d G))/\B=[↑a,↑L,Lh<|.str S,Lh<|.int big,↑po,↑nu,↑T,↑bk,↑tb,↑ob,↑ma,Lh<|mv,Lh<|fv,Li,Li,Li,Li,Li,Li];⟨I,⟨_,U,tb,dv,bs,d,pL O,g,Z,_,U,c0.so g0,v2,t1,(λh=>Lr h ∅),λ_ v F_ o so r v' hF h1 h2 h3 _=>⟨so,r,v',v,F_,hF,h1,h2,h3,U⟩⟩,?_⟩);rintro z8 He ⟨f9,v1,t0,fv,F_,e9,j2,w9,j1,rfl⟩;let DM:=g0.trans f9;let c6:=c6.mono f9.tups;let(f3,e6,Gw,Gx,Hu,GS):=keep He DM;calc(let I:St->Hp->Prop:=λB o=>ar He o/\B=[↑a,↑L,Lh<|.str S,Lh<|.int big,↑po,↑nu,↑T,↑bk,↑tb,↑ob,↑ma,Lh<|mv,Lh<|fv,Li,Li,Li,Li,Li,Li];⟨I,⟨_,U,_,U,Int,_,nJ,⇑cols,_,mv,L,ys,bs,U,∅,∅,zU,c6,f3,e6,iG uJ.ok [],qC uJ.ok (λc hc=>yW (c0.cl uJ c hc) hg) [],λo s=>⟨_,U,bV ⟨_,U,_,U,SI,_,LVd,⇑bs,F_,fv,L,ys,bs,U,∅,∅,Ca,e9.mono s.tups,s _ _ f3,PL.mono e6 s.tups,j2,w9,λk5 s'=>⟨_,U,bV ⟨s.trans s',U⟩⟩⟩⟩⟩,?_⟩);rintro z7 Hf ⟨sf,rfl⟩;calc(let I:St->Hp->Prop:=λB o=>o=Hf/\B=[↑a,↑L,Lh<|.str S,Lh<|.int big,↑po,↑nu,↑T,↑bk,↑tb,↑ob,↑ma,Lh<|mv,Lh<|fv,Lh<|.bl Lj,Li,Li,Li,Li,Li];⟨I,⟨U,U⟩,?_⟩);rintro k6 Hg ⟨eg,rfl⟩;rw[eg];clear eg Hg;let Cm:=DM.trans<|So.of sf;let x2:Hf ma=Lh (.lst<|mr.map V.ref):=Cm.lst<|sc _ _ j8;let w4:MLs Hf mr J:=MLs.so Cm<|j0.same sc;let h9:(-big,big+big / 2).1<=(-big,big+big / 2).2:=by show -big<=big+big / 2;lia
 refine(let I:St->Hp->Prop:=λB o=>ar Hf o/\∃(ag:Bool)(M:Ly (Ly Int))(a2 a1 X R:Option V),M.length=⇑bs/\PrO bs J M/\(ag=Lj↔∀G∈cM (List.zipWith (λp G=>p.1 :: G) bs M),ver (wf Z (-big)<|big+big / 2) (fl d G).reverse=ver (wf Z (-big)<|big+big / 2) (fl d G))/\B=[↑a,↑L,Lh<|.str S,Lh<|.int big,↑po,↑nu,↑T,↑bk,↑tb,↑ob,↑ma,Lh<|mv,Lh<|fv,Lh<|.bl ag,a2,a1,X,R,Li];⟨I,?_,?_⟩)
 .refine⟨_,U,_,U,L,ma,ys,bs,mr,J,U,sf _ _ f3,PL.mono e6 sf.tups,x2,w4,a3.1,a7,Ac a0 a5 a3,λl0 l4 M H0 k9 x4 w5 a8 b1=>⟨l0,l4,_,U,x4,w5,yR,p0 M a8 b1,by rw[jE];lia,λl2 g9 y6 k8 j9 e8=>?_⟩⟩;let DN:∀G∈cM (List.zipWith (λp G=>p.1 :: G) bs M),InB G bs:=λG h=>p9 a8 a3.1 b3 b1 h
  let g8:=k9.trans k8;let c8:∀(ag:Bool),(ag=Lj↔∀G∈cM (List.zipWith (λp G=>p.1 :: G) bs M),ver (wf Z (-big)<|big+big / 2) (fl d G).reverse=ver (wf Z (-big)<|big+big / 2) (fl d G))->∀(a2 a1 X R:Option V),∃(k3:Bool)(M:Ly (Ly Int))(y3 y2 y1 y0:Option V),M.length=⇑bs/\PrO bs J M/\(k3=Lj↔∀G∈cM (List.zipWith (λp G=>p.1 :: G) bs M),ver (wf Z (-big)<|big+big / 2) (fl d G).reverse=ver (wf Z (-big)<|big+big / 2) (fl d G))/\([↑a,↑L,Lh<|.str S,Lh<|.int big,↑po,↑nu,↑T,↑bk,↑tb,↑ob,↑ma,Lh<|mv,Lh<|fv,Lh<|.bl ag,a2,a1,X,R,Li]:St)=[↑a,↑L,Lh<|.str S,Lh<|.int big,↑po,↑nu,↑T,↑bk,↑tb,↑ob,↑ma,Lh<|mv,Lh<|fv,Lh<|.bl k3,y3,y2,y1,y0,Li]:=λag h a2 a1 X R=>⟨ag,M,a2,a1,X,R,a8,b1,h,U⟩
  generalize cM (List.zipWith (λp G=>p.1 :: G) bs M)=C at e8 DN c8;let h7:⇑g9=C.length:=e8.1;refine⟨l2,U,⟨_,SqL.of j9⟩,(let I:Nat->St->Hp->Prop:=λi σ o=>ar y6 o/\∃(ag:Bool)(a2 a1 X R:Option V),(ag=Lj↔∀j G,j<i->C[j]?=Lh G->ver (wf Z (-big)<|big+big / 2) (fl d G).reverse=ver (wf Z (-big)<|big+big / 2) (fl d G))/\σ=[↑a,↑L,Lh<|.str S,Lh<|.int big,↑po,↑nu,↑T,↑bk,↑tb,↑ob,↑ma,Lh<|mv,Lh<|fv,Lh<|.bl ag,a2,a1,X,R,Li];bu (xs:=g9.map V.ref) I ⟨ar.refl _,Lj,Li,Li,Li,Li,⟨λ_ j G hj=>∅,λ_=>U⟩,U⟩ (λi σ o _ h=>SqL.of<|h.1 _ _ j9) (λi y σ o e h=>?_) (λσ o h=>?_))⟩
  rotate_left
  .let(sm,ag,a2,a1,X,R,b9,rfl):=h;exact⟨g8.trans sm,c8 ag (Dy (by rw[bc,h7]) b9) a2 a1 X R⟩
  let(sm,ag,a2,a1,X,R,b9,rfl):=h;let(r,rfl,er):=iI e;let(G,eC):∃G,C[i]?=Lh G:=⟨_,HF (by rw[←h7];exact(HG.mp er).1)⟩;let(r',j5,x5):=e8.2 i G eC;rw[er]at j5;cases j5;let d5:=DN G<|HH eC;let DC:=⇑d5;let sq:=(sf.trans g8).trans sm;let uH:=sm _ _ x5;let DO:=sq _ _ Gw;let i9:=RL.same Gx sq;refine(let I:St->Hp->Prop:=λB Hx=>ar o Hx/\∃fi:HR,Hx fi=Lh (.lst<|vN<|(List.range ⇑d).filter<|cQ d G)/\B=[↑a,↑L,Lh<|.str S,Lh<|.int big,↑po,↑nu,↑T,↑bk,↑tb,↑ob,↑ma,Lh<|mv,Lh<|fv,Lh<|.bl ag,↑r,↑fi,X,R,Li];⟨I,⟨_,U,_,U,T,r,rx,d,G,U,DO,i9,∅,uH,∅,(λw hw=>by rw[eA w hw,DC]),λl Hx s _ el=>⟨s,l,el,U⟩⟩,?_⟩);rintro z1 Hx ⟨sx,fi,c2,rfl⟩;let d3:((List.range ⇑d).filter<|cQ d G).map (λk=>(d.getD k ([],0)).2)=fl d G:=yv d G;let q3:⇑((List.range ⇑d).filter<|cQ d G)<=⇑d:=yW (oM _ _) (by rw[kW];exact xX _);let e0:∀j∈(List.range ⇑d).filter (cQ d G),j<⇑d:=λj hj=>jV.mp (jZ.mp hj).1
  generalize q2:(List.range ⇑d).filter (cQ d G)=fs at c2 d3 q3 e0;let DP:=sx _ _ DO;let i4:=RL.same i9 sx;refine(let I:St->Hp->Prop:=λB Hy=>ar Hx Hy/\∃du:HR,Hy du=Lh (.tup<|tp<|ver (wf Z (-big)<|big+big / 2)<|fl d G)/\B=[↑a,↑L,Lh<|.str S,Lh<|.int big,↑po,↑nu,↑T,↑bk,↑tb,↑ob,↑ma,Lh<|mv,Lh<|fv,Lh<|.bl ag,↑r,↑fi,↑du,R,Li];⟨I,?_,?_⟩)
  .refine⟨_,U,_,U,fi,U,⟨_,SqL.of c2⟩,(let I:HR->Nat->Ly V->Hp->Prop:=λD j zs Hy=>ar Hx Hy/\Hy D=Lh (.lst zs)/\zs=((fs.take j).map λk=>(d.getD k ([],0)).2).map V.int;cB (xs:=vN fs) I (λD hD=>⟨ai hD _,ae,U⟩) (λD j zs Hy hD _ h=>SqL.of<|h.1 _ _ c2) (λD j y zs Hy hD e h=>?_) (λD zs Hy hD h=>?_))⟩
   .let(a4,eD,rfl):=h;let(k,rfl,ek):=yE e;let hj:=(HG.mp e).1;let hk:=e0 k<|HH ek;let(w,ew):∃w,d[k]?=Lh w:=⟨_,HF hk⟩;let(rr,f1,ce,cv,g1,_,g2,g3):=i4.2 k w ew;refine⟨_,U,_,U,T,_,_,_,U,U,SqL.of<|a4 _ _ DP,bh f1,rr,_,_,_,U,U,SqT.of<|a4 _ _ g1,U,cA.mk hj eD (az (by rw[bc,bc,iT];lia)) ⟨a4.upd hD,ae,?_⟩⟩;rw[take_snoc ek,dW,dW,←Dx ew];rfl
   .let(a4,eD,rfl):=h;rw[jP,gd,d3]at eD;exact⟨_,U,_,U,_,U,_,U,_,_,U,U,⟨⋯,⋯⟩,_,_,U,U,D,S,Z,fl d G,(-big,big+big / 2),U,b0,SqL.of eD,h9,λr_ Hz s f2=>⟨a4.trans s,r_,f2,U⟩⟩
  rintro z0 Hy ⟨sy,du,k1,rfl⟩;let f5:=(sq.trans sx).trans sy;refine(let I:St->Hp->Prop:=λB Hz=>ar Hy Hz/\B=[↑a,↑L,Lh<|.str S,Lh<|.int big,↑po,↑nu,↑T,↑bk,↑tb,↑ob,↑ma,Lh<|mv,Lh<|fv,Lh<|.bl ag,↑r,↑fi,↑du,R,Li];⟨I,?_,?_⟩)
  .refine⟨_,U,_,U,r,_,U,.inl<|SqL.of<|(sx.trans sy) _ _ uH,λl hl=>?_⟩;let u1:=ai hl<|.lst<|G.map V.int;let e1:upd Hy l (.lst<|G.map V.int) l=Lh (.lst<|G.map V.int):=ae;generalize upd Hy l (.lst<|G.map V.int)=Hz at u1 e1⊢;let(w1,d1,Gy):=yH (K:=K) (uE uJ eA d5)<|c6.mono (f5.trans u1).tups;let d1:w1=.int (mkg d G):=d1;subst d1;refine⟨mv,_,l,G,U,SqL.of e1,Gy,_,U,fi,cQ d G,⇑d,U,by rw[q2];exact(sy.trans u1) _ _ c2,∅,λk4 l1=>ne_self (A:=nJ) (x:=mkg d G) U U ⟨_,U,bV ?_⟩⟩;let u3:=u1.trans l1;calc⟨_,U,_,U,r,_,U,.inl<|SqL.of<|(sx.trans<|sy.trans u3) _ _ uH,λl' q0=>?_⟩;let u4:=ai q0<|.lst<|G.map V.int;let e4:upd k4 l' (.lst<|G.map V.int) l'=Lh (.lst<|G.map V.int):=ae;generalize upd k4 l' (.lst<|G.map V.int)=H4_ at u4 e4⊢;let t2:=j1 G d5;rw[n5]at t2;let(w2,o4,Gz):=yH (K:=K) t2<|e9.mono ((f5.trans u3).trans u4).tups;exact⟨fv,w2,l',G,U,SqL.of e4,Gz,_,U,ne_self (A:=LVd) o4 ⟨du,U,.inl<|(u3.trans u4) _ _ k1⟩ ⟨_,U,bV ⟨u3.trans u4,U⟩⟩⟩
  rintro y8 Hz ⟨sz,rfl⟩;let b6:=sy.trans sz;refine(let I:St->Hp->Prop:=λB Hw=>ar Hz Hw/\∃ot:HR,Hw ot=Lh (.lst<|(fl d G).reverse.map V.int)/\B=[↑a,↑L,Lh<|.str S,Lh<|.int big,↑po,↑nu,↑T,↑bk,↑tb,↑ob,↑ma,Lh<|mv,Lh<|fv,Lh<|.bl ag,↑r,↑fi,↑du,↑ot,Li];⟨I,?_,?_⟩)
  .let k0:=b6 _ _ c2;refine⟨_,U,fi,vN fs,U,SqL.of k0,(let I:HR->Nat->Ly V->Hp->Prop:=λD j zs Hy=>ar Hz Hy/\Hy D=Lh (.lst zs)/\zs=((fs.reverse.take j).map λk=>(d.getD k ([],0)).2).map V.int;yM (xs:=vN fs) I (λD hD=>⟨ai hD _,ae,U⟩) (λD j zs Hy hD _ h=>SqL.of<|h.1 _ _ k0) (λD j y zs Hy hD e h=>?_) (λD zs Hy hD h=>?_))⟩
   .let(a4,eD,rfl):=h;rw[show(vN fs).reverse=vN fs.reverse by unfold vN;rw[xB]]at e;let(k,rfl,ek):=yE e;let hj:j<⇑(vN fs):=by have:=(HG.mp e).1;rw[jP,lS]at this;rw[jP];exact this
    let hk:=e0 k<|sW.mp<|HH ek;let(w,ew):∃w,d[k]?=Lh w:=⟨_,HF hk⟩;let(rr,f1,ce,cv,g1,_,g2,g3):=i4.2 k w ew;refine⟨_,U,_,U,T,_,_,_,U,U,SqL.of<|(b6.trans a4) _ _ DP,bh f1,rr,_,_,_,U,U,SqT.of<|(b6.trans a4) _ _ g1,U,cA.mk hj eD (az (by rw[bc,bc,iT,lS];lia)) ⟨a4.upd hD,ae,?_⟩⟩;rw[take_snoc ek,dW,dW,←Dx ew];rfl
   .let(a4,eD,rfl):=h;rw[jP,lT (by rw[lS];exact xX _),xB,d3]at eD;exact⟨a4,D,eD,U⟩
  rintro z2 Hw ⟨sw,ot,x1,rfl⟩;let(y5,y4):=agn (P:=λG=>ver (wf Z (-big)<|big+big / 2) (fl d G).reverse=ver (wf Z (-big)<|big+big / 2) (fl d G)) eC b9;refine⟨_,U,_,U,_,U,_,U,_,U,_,U,_,_,U,U,⟨⋯,⋯⟩,_,_,U,U,ot,S,Z,(fl d G).reverse,(-big,big+big / 2),U,b0,SqL.of x1,h9,λr_ Hv s f2=>⟨_,U,zS (SqT.of f2) (SqT.of<|(sz.trans<|sw.trans s) _ _ k1) ⟨_,U,cD (λg=>?_)<|λg=>?_⟩⟩⟩
  .exact⟨(sm.trans sx).trans<|b6.trans<|sw.trans s,Ll,_,_,_,_,y4<|Lv g,U⟩
  .exact⟨(sm.trans sx).trans<|b6.trans<|sw.trans s,ag,_,_,_,_,y5<|Decidable.byContradiction λz=>g<|Ls z,U⟩
 rintro k6 Hg ⟨sg,ag,M,a2,a1,X,R,a8,b1,b9,rfl⟩;let DQ:=Cm.trans<|So.of sg;let d0:=sf.trans sg;let GA:=e9.mono d0.tups;let(ebg,hPg,HA,HB,HC,DR):=keep Hg DQ;let v0:eQ K Hg:=λz e=>(v1 z e).same d0
 let s3:eO K Hg:=λz e=>(t0 z e).same d0
 let Aj:∀b∈bs,0<=b.2-b.1/\b.2-b.1<=10^58:=λb hb=>by
  let(k,ek):=jY hb;let(o1,o2,_):=hB.ok k b ek;let:((10^40:Nat):Int)<=10^58:=⋯
  lia
 refine(let I:St->Hp->Prop:=λB o=>So Hg o/\eQ K o/\eO K o/\B=[↑a,↑L,Lh<|.str S,Lh<|.int big,↑po,↑nu,↑T,↑bk,↑tb,↑ob,↑ma,Lh<|mv,Lh<|fv,Lh<|.bl ag,a2,a1,X,R,Li];⟨I,?_,?_⟩)
 .refine⟨_,U,ob,dw,bs,d.reverse,pL O,g,Z,_,U,DR,v0,s3,(λh=>Lr h ∅),λ_ v G_ o so r_ v_ hG h1 h2 h3 _=>⟨_,U,FmV.eq_to (A:=LVd) ∅ hG (GA.mono so.tups) ⟨_,U,U,_,U,u6 ?_ ⟨so,r_,v_,U⟩⟩⟩⟩;let hd:decide (G_=F_)=ag:=by
   rw[Bool.eq_iff_iff,Lx];exact(agr a3 b3 eA j2 h1 j1 h3 a8 b1).trans b9.symm
  rw[hd]
 rintro z6 Hh ⟨k7,u8,s0,rfl⟩;let Ak:=DQ.trans k7;let(ebh,hPh,HD,HE,GB,_):=keep Hh Ak;calc(let I:St->Hp->Prop:=λB o=>So Hh o/\eQ K o/\eO K o/\∃(tl:HR)(fx:Ly V)(co:Ly (List<|Int×Int)),o tl=Lh (.lst fx)/\NoP Hh tl/\o6 bs d co/\BxL o fx (bxs ⇑co<|lay (mkg d) co [])/\B=[↑a,↑L,Lh<|.str S,Lh<|.int big,↑po,↑nu,↑T,↑bk,↑tb,↑ob,↑ma,Lh<|mv,Lh<|fv,Lh<|.bl ag,a2,a1,X,R,↑tl];⟨I,⟨_,U,tb,dv,bs,d,pL O,g,Z,_,U,GB,u8,s0,(λh=>Lr h ∅),λ_ l xs co o so r_ v_ el hn hc f0 _=>⟨so,r_,v_,l,xs,co,el,hn,hc,f0,U⟩⟩,?_⟩);rintro z5 Hi ⟨f8,u2,q7,tl,fx,co,j4,p1,i2,f0,rfl⟩;let(x8,v5,GC,GD,_,_):=keep Hi<|Ak.trans f8;calc(let I:St->Hp->Prop:=λB o=>ar Hi o/\B=[↑a,↑L,Lh<|.str S,Lh<|.int big,↑po,↑nu,↑T,↑bk,↑tb,↑ob,↑ma,Lh<|mv,Lh<|fv,Lh<|.bl ag,a2,a1,X,R,↑tl];⟨I,⟨_,U,_,U,_,U,tl,T,L,fx,_,rx,d,ys,bs,U,j4,f0,GC,GD,∅,eA,x8,v5,a7,Aj,AX i2 eA<|λb hb=>(Aj b hb).2,yQ i2,λo s=>⟨_,U,bV ⟨s,U⟩⟩⟩,?_⟩);rintro z4 Hj ⟨sj,rfl⟩;let c7:=sj _ _ j4;calc(let I:St->Hp->Prop:=λB o=>So Hh o/\eQ K o/\eO K o/\B=[↑a,↑L,Lh<|.str S,Lh<|.int big,↑po,↑nu,↑T,↑bk,↑tb,↑ob,↑ma,Lh<|mv,Lh<|fv,Lh<|.bl ag,a2,a1,X,R,↑tl];⟨I,⟨_,U,.inl ⟨U,_,SqL.of c7⟩,tl,_,U,U,c7,So.updF f8 sj p1,(λz e=>((u2 z e).same sj).updL c7),(λz e=>((q7 z e).same sj).updL c7),U⟩,?_⟩);rintro z3 Hk ⟨f6,u0,q6,rfl⟩;let(_,_,_,_,GG,_):=keep Hk<|Ak.trans f6;calc⟨_,U,tb,dv,bs,d,pL O,g,Z,_,U,GG,u0,q6,(λh=>Lr h ∅),λ_ l xs co2 o so r_ v_ el hn hc GH _=>?_⟩;let(x6,v4,GI,GJ,_,_):=keep o<|(Ak.trans f6).trans so;calc⟨_,U,_,U,l,T,L,xs,_,rx,d,ys,bs,U,el,GH,GI,GJ,∅,eA,x6,v4,a7,Aj,AX hc eA<|λb hb=>(Aj b hb).2,yQ hc,λk5 _=>q k5⟩
end
structure FF(K:W.Frag)(Y:AD):Prop where
 (h0:GF K "holds" "holds" Y42)
 (h1:GF K "edges" "edges" Y38)
 (h2:GF K "stretches" "stretches" Y79)
 (h3:GF K "grain" "grain" Y41)
 (h4:GF K "cut_columns" "cut_columns" Y37)
 (h5:GF K "built" "built" Y34)
 (h6:GF K "layered" "layered" Y69)
 (h7:GF K "closed" "closed" Y35)
 (h8:GF K "look" "look" Y70)
 (h9:GF K "beneath_code" "beneath_code" Y32)
 (h10:GF K "mapped" "mapped" Y71)
 (h11:GF K "boxes" "boxes" Y33)
 (h12:GF K "gathered" "gathered" Y40)
 (h13:GF K "all_among" "all_among" Y31)
 (h14:GF K "is_word" "is_word" Y44)
 (h15:GF K "is_whole" "is_whole" Y43)
 (h16:GF K "way_by" "way_by" Y84)
 (h17:GF K "refuse_names" "refuse_names" Y75)
 (h18:GF K "refuse_counts" "refuse_counts" Y74)
 (h19:GF K "refuse_way" "refuse_way" Y77)
 (h20:GF K "refuse_row" "refuse_row" Y76)
 (h21:GF K "own_row" "own_row" Y73)
 (h22:GF K "fits" "fits" Y39)
 (h23:GF K "mask" "mask" Y72)
 (h24:GF K "judged" "judged" Y45)
 (h25:GF K "table_bounds" "table_bounds" Y80)
 (h26:GF K "table_marks" "table_marks" Y81)
 (h27:GF K "column_marks" "column_marks" Y36)
 (h30:GF K "tiling" "tiling" Y82)
 (h31:GF K "_law_at" "_law_at" Y48)
 (h32:GF K "_law_int" "_law_int" Y58)
 (h33:GF K "_law_leaf" "_law_leaf" Y59)
 (h34:GF K "_law_shape" "_law_shape" Y66)
 (h35:GF K "_law_bounds" "_law_bounds" Y50)
 (h36:GF K "_law_domain" "_law_domain" Y52)
 (h37:GF K "_law_pools" "_law_pools" Y63)
 (h38:GF K "_law_numbers" "_law_numbers" Y62)
 (h39:GF K "_law_spans" "_law_spans" Y67)
 (h40:GF K "_law_row" "_law_row" Y65)
 (h41:GF K "_law_held" "_law_held" Y57)
 (h42:GF K "_law_fitting" "_law_fitting" Y56)
 (h43:GF K "_law_due" "_law_due" Y53)
 (h44:GF K "_law_lows" "_law_lows" Y60)
 (h45:GF K "_law_corners" "_law_corners" Y51)
 (h46:GF K "_law_edges" "_law_edges" Y54)
 (h47:GF K "_law_bits" "_law_bits" Y49)
 (h48:GF K "_law_tiled" "_law_tiled" Y68)
 (h49:GF K "_law_refused" "_law_refused" Y64)
 (h50:GF K "_law_fine" "_law_fine" Y55)
 (h51:GF K "_law_alike_marks" "_law_alike_marks" Y47)
 (h52:GF K "_law_made" "_law_made" Y61)
 (h84:GF K "law" "law" Y46)
 (m68:MF K Y.l "has_code" "Domain.has_code" Y2)
 (m69:MF K Y.m "has_code" "Domain.has_code" Y3)
 (m72:MF K Y.e "verdict" "Way.verdict" Y24)
 (m73:MF K Y.e "chosen" "First.chosen" Y5)
 (m74:MF K Y.f "verdict" "Way.verdict" Y28)
 (m75:MF K Y.f "chosen" "Only.chosen" Y14)
 (m76:MF K Y.g "verdict" "Way.verdict" Y26)
 (m77:MF K Y.g "chosen" "Like.chosen" Y9)
 (m78:MF K Y.h "verdict" "Way.verdict" Y27)
 (m79:MF K Y.h "chosen" "Low.chosen" Y11)
 (m80:MF K Y.i "verdict" "Way.verdict" Y25)
 (m81:MF K Y.i "chosen" "High.chosen" Y7)
 (m82:MF K Y.j "verdict" "Way.verdict" Y29)
 (m83:MF K Y.j "chosen" "Sum.chosen" Y16)
 (k53:KF K Y.n "Table" "Table.__init__" Y17)
 (k54:KF K Y.l "Numbers" "Numbers.__init__" Y12)
 (k56:KF K Y.e "First" "First.__init__" Y4)
 (k58:KF K Y.f "Only" "Only.__init__" Y13)
 (k60:KF K Y.g "Like" "Like.__init__" Y8)
 (k62:KF K Y.h "Low" "Low.__init__" Y10)
 (k64:KF K Y.i "High" "High.__init__" Y6)
 (k66:KF K Y.j "Sum" "Sum.__init__" Y15)
 (k70:KF K Y.m "Words" "Words.__init__" Y30)
 (b55:BF K Y.k "Domain" "__init__" "Domain.__init__" Y0)
 (b57:BF K Y.d "Way" "__init__" "Way.__init__" Y18)
 (b59:BF K Y.d "Way" "__init__" "Way.__init__" Y22)
 (b61:BF K Y.d "Way" "__init__" "Way.__init__" Y20)
 (b63:BF K Y.d "Way" "__init__" "Way.__init__" Y21)
 (b65:BF K Y.d "Way" "__init__" "Way.__init__" Y19)
 (b67:BF K Y.d "Way" "__init__" "Way.__init__" Y23)
 (b71:BF K Y.k "Domain" "__init__" "Domain.__init__" Y1)
 (t28:TFn K "row_form" s_row_form)
 (t29:TFn K "verdict_form" s_verdict_form)
 (z0:W.nsIn K HX "sorted" = Lh Li)
 (z1:W.nsIn K HX "list" = Lh Li)
 (z2:W.nsIn K HX "set" = Lh Li)
 (z3:W.nsIn K HX "zip" = Lh Li)
 (z4:W.nsIn K HX "len" = Lh Li)
 (z5:W.nsIn K HX "tuple" = Lh Li)
 (z6:W.nsIn K HX "isinstance" = Lh Li)
 (z7:W.nsIn K HX "int" = Lh Li)
 (z8:W.nsIn K HX "bool" = Lh Li)
 (z9:W.nsIn K HX "sum" = Lh Li)
 (z10:W.nsIn K HX "range" = Lh Li)
 (z11:W.nsIn K HX "enumerate" = Lh Li)
 (z12:W.nsIn K HX "str" = Lh Li)
 (z13:W.nsIn K HX "min" = Lh Li)
 (z14:W.nsIn K HX "max" = Lh Li)
 (z15:W.nsIn K HX "reversed" = Lh Li)
 (y0:∃u,W.nsIn K HX "MOST_GRAIN" = Lh (Lh u)/\RelV (V.int 300) u)
 (y1:∃u,W.nsIn K HX "MOST_SIGNS" = Lh (Lh u)/\RelV (V.int 12) u)
 (y2:∃u,W.nsIn K HX "SMALL_LETTERS" = Lh (Lh u)/\RelV (V.str "abcdefghijklmnopqrstuvwxyz") u)
 (y3:∃u,W.nsIn K HX "MOST_ROWS" = Lh (Lh u)/\RelV (V.int 200) u)
 (y4:∃u,W.nsIn K HX "MOST_COLUMNS" = Lh (Lh u)/\RelV (V.int 4) u)
 (y5:∃u,W.nsIn K HX "MOST_WORDS" = Lh (Lh u)/\RelV (V.int 40) u)
local macro_rules|`(tactic|trivial)=>`(tactic|exact λF=>F.binds λ_ _ _ _ _ _=>by first|exact _L.lb0 rfl|exact _L.lb1 λ_=>U|exact _L.lb2 λ_ _=>U|exact _L.lb3 λ_ _ _=>U|exact _L.lb4 λ_ _ _ _=>U|exact _L.lb5 λ_ _ _ _ _=>U|exact _L.lb6 λ_ _ _ _ _ _=>U|exact _L.lb7 λ_ _ _ _ _ _ _=>U|exact _L.lb8 λ_ _ _ _ _ _ _ _=>U|exact _L.lb9 λ_ _ _ _ _ _ _ _ _=>U)
theorem all_mk{l:W.OpenLaw}{w:HP}{K:W.Frag}{h:HS}{mg:Str->Option HN}{M:HR}{Y:AD}(X:K.In h)(G:h.Ns HX mg)(j:mg "law" = ↑M) (b:Bk K Y)(u:FF K Y)
  : ∃g:Jf,(∀(s:Ib)(v:HN),Jg s g ⟨[v],[]⟩ [("script",v)])/\∀base:HS,K.In base->base.Ns HX mg->(∀q∈(W.tabIn K "row_form").toList++(W.tabIn K "verdict_form").toList,W.CodeHd base q.1 q.2/\base.BuiltinsAt mg q.2)->aK l.prog w K mg base CX0 21 M g ["script"] (J18 K):=by
 cases u.h84 with | @mk _ g a F =>
 cases j.symm.trans (W.mg_of X G a);let bl:Bl K mg Y:=⟨b,W.mg_of X G b.n_TableError,W.mg_of X G b.n_TooFine,W.mg_of X G b.n_TooMany,W.mg_of X G b.n_Way,W.mg_of X G b.n_First,W.mg_of X G b.n_Only,W.mg_of X G b.n_Like,W.mg_of X G b.n_Low,W.mg_of X G b.n_High,W.mg_of X G b.n_Sum,W.mg_of X G b.n_Domain,W.mg_of X G b.n_Numbers,W.mg_of X G b.n_Words,W.mg_of X G b.n_Table,W.mg_of X G b.n_NONE,W.mg_of X G b.n_CLASH,W.mg_none_of X G u.z0,W.mg_none_of X G u.z1,W.mg_none_of X G u.z2,W.mg_none_of X G u.z3,W.mg_none_of X G u.z4,W.mg_none_of X G u.z5,W.mg_none_of X G u.z6,W.mg_none_of X G u.z7,W.mg_none_of X G u.z8,W.mg_none_of X G u.z9,W.mg_none_of X G u.z10,W.mg_none_of X G u.z11,W.mg_none_of X G u.z12,W.mg_none_of X G u.z13,W.mg_none_of X G u.z14,W.mg_none_of X G u.z15,(let ⟨_,y,x⟩:=u.y0;⟨_,W.mg_of X G y,x⟩),(let ⟨_,y,x⟩:=u.y1;⟨_,W.mg_of X G y,x⟩),(let ⟨_,y,x⟩:=u.y2;⟨_,W.mg_of X G y,x⟩),(let ⟨_,y,x⟩:=u.y3;⟨_,W.mg_of X G y,x⟩),(let ⟨_,y,x⟩:=u.y4;⟨_,W.mg_of X G y,x⟩),(let ⟨_,y,x⟩:=u.y5;⟨_,W.mg_of X G y,x⟩)⟩;refine⟨g,λs v=>by let(_,_,_,_,_,_,_,_,_,e,_,_):=F.ex;rw[e];exact .of_eq U,λbase _ _ L=>?_⟩;let z:Zb l.prog w K mg base:=⟨X,G⟩;let Al:=mkC z u.h0 λF=>EK F bl
 let Am:=mkC z u.h1 λF=>EL F bl
 let sV:=mkC z u.h2 λF=>EM F bl
 let r:=mkC z u.h7 λF=>EO F bl
 let oF:=mkC z u.h9 λF=>ER F bl
 let uL:=mkC z u.h12 λF=>ES F bl
 let sZ:=mkC z u.h13 λF=>ET F bl
 let C:=mkC z u.h15 λF=>EU F bl
 let my:=mkC z u.h18 λF=>EV F bl
 let S:=mkC z u.h21 λF=>EW F bl
 let I:=mkC z u.h25 λF=>EY F bl
 let d:=mkC z u.h31 λF=>EZ F bl
 let A:=mkC z u.h32 λF=>E1 F bl
 let o9:=mkC z u.h38 λF=>E3 F bl
 let tj:=mkC z u.h39 λF=>E4 F bl
 let uM:=mkC z u.h41 λF=>E5 F bl
 let R:=mkC z u.h43 λF=>E6 F bl
 let uN:=mkC z u.h44 λF=>E7 F bl
 let pd:=mkC z u.h45 λF=>E8 F bl
 let tq:=mkC z u.h46 λF=>Fc F bl
 let B:=mkC z u.h47 λF=>Fd F bl
 let fJ:=mkB z u.b55 λF=>O_0 F bl
 let iY:=mkB z u.b57 λF=>Fe F bl
 let jm:=mkB z u.b59 λF=>Ff F bl
 let jn:=mkB z u.b61 λF=>Fg F bl
 let kc:=mkB z u.b63 λF=>Fh F bl
 let jo:=mkB z u.b65 λF=>Fi F bl
 let ke:=mkB z u.b67 λF=>Fj F bl
 let gB:=mkB z u.b71 λF=>O_1 F bl
 let iZ:=mkM z u.m73 λF=>O_5 F bl
 let kf:=mkM z u.m75 λF=>Fl F bl
 let kg:=mkM z u.m77 λF=>O_9 F bl
 let lW:=mkM z u.m79 λF=>Fn F bl
 let kh:=mkM z u.m81 λF=>O_7 F bl
 let lZ:=mkM z u.m83 λF=>Fo F bl
 let H:=mkC z u.h4 λF=>Fp F bl sV.up
 let Cn:=mkC z u.h8 λF=>Fq F bl oF.up
 let t:=mkC z u.h14 λF=>Fs F bl sZ.up
 let Co:=mkC z u.h22 λF=>Ft F bl Al.up
 let oI:=mkC z u.h27 λF=>Fu F bl uL.up Am.up
 let Z:=mkC z u.h33 λF=>Fv F bl A.up
 let qV:=mkC z u.h35 λF=>Fw F bl d.up
 let tx:=mkC z u.h37 λF=>Fx F bl d.up
 let Q:=mkC z u.h40 λF=>Fy F bl tj.up
 let E:=mkC z u.h42 λF=>FA F bl uM.up
 let i:=mkK z u.k54 λF=>FC F bl fJ.up
 let gX:=mkK z u.k56 λF=>O_4 F bl iY.up
 let i0:=mkK z u.k58 λF=>FD F bl jm.up
 let i3:=mkK z u.k60 λF=>O_8 F bl jn.up
 let ki:=mkK z u.k62 λF=>FE F bl kc.up
 let i4:=mkK z u.k64 λF=>O_6 F bl jo.up
 let kj:=mkK z u.k66 λF=>FG F bl ke.up
 let fK:=mkM z u.m68 λF=>O_2 F bl C.up
 let gC:=mkM z u.m69 λF=>O_3 F bl C.up
 let jq:=mkM z u.m72 λF=>FH F bl iZ.up
 let kl:=mkM z u.m74 λF=>FI F bl kf.up
 let km:=mkM z u.m76 λF=>FJ F bl kg.up
 let kZ:=mkM z u.m78 λF=>FK F bl lW.up
 let kn:=mkM z u.m80 λF=>FL F bl kh.up
 let k4:=mkM z u.m82 λF=>FN F bl lZ.up
 let An:=mkC z u.h3 λF=>FO F bl H.up
 let oJ:=mkC z u.h17 λF=>FP F bl t.up
 let qW:=mkC z u.h20 λF=>FQ F bl fK.up gC.up
 let k:=mkC z u.h23 λF=>FR F bl Co.up
 let D:=mkC z u.h26 λF=>FT F bl oI.up
 let tD:=mkC z u.h48 λF=>FU F bl B.up E.up
 let gY:=mkK z u.k70 λF=>FV F bl gB.up t.up
 let p:=mkC z u.h16 λF=>FW F bl gX.up i0.up i3.up ki.up i4.up kj.up
 let lh:=mkC z u.h51 λF=>FX F bl D.up I.up
 let qX:=mkC z u.h19 λF=>F0 F bl p.up
 let o:=mkC z u.h24 λF=>F4 F bl jq.up kl.up km.up kZ.up kn.up k4.up p.up
 let qY:=mkC z u.h36 λF=>F5 F bl i.up gY.up
 let N:=mkK z u.k53 λF=>F6 F bl oJ.up my.up qX.up qW.up S.up
 let Ao:=mkR z u.h11 0 7 yS λn F c=>F7 F bl c
 let tI:=mkR z u.h34 2 5 qO λn F c=>F8 F bl (Z.mono ∅) c<|A.mono ∅
 let V:=mkC z u.h52 λF=>F9 F bl N.up qY.up i.up d.up
 let P:=mkR z u.h6 8 7 uF λn F c=>Ga F bl (r.mono ∅) c ∅
 let O:=mkR z u.h10 8 7 wI λn F c=>Gb F bl (r.mono ∅) c ∅
 let Ap:=mkX z u.h5 λF=>Gd F bl P.up An.up H.up
 let f:=De z u.t28 (λq h=>L q (by simp only[hZ];simp[h])) λF h1 h2 h3=>Gf F bl Ap.up I.up D.up k.up h1 h2 h3 k.up
 let J:=De z u.t29 (λq h=>L q (by simp only[hZ];simp[h])) λF h1 h2 h3=>Gi F bl O.up f.up o.up h1 h2 h3 o.up
 let m:=mkX z u.h30 λF=>Gm F bl Ao.up f.up
 let pe:=mkC z u.h49 λF=>Gn F bl f.up J.up m.up
 let T:=mkC z u.h50 λF=>Gp F bl i.up N.up pe.up
 calc Gv F bl qV.up tx.up o9.up V.up f.up J.up pd.up m.up tD.up Q.up tq.up lh.up uN.up E.up R.up T.up tI.up d.up Cn.up B.up
theorem walk{l:W.OpenLaw}{q:HQ}{b:Ly Str}{XP:(Str->Option HN)->HS->Prop}{r:HP->HS->Prop}{d:DefRec}{K:JB->W.Frag}(y:l.most=Lh 63)(i:d.params.defaults=[])
  (B:∀(w:HP)(h:HS),r w h->(K w.params).In h)(g:∀p:JB,W.noTabs (K p)=Lj)(c:∃d',(PyProof.Rows.recsOf q).find? (λe=>e.name == ("row_form" : Str))=Lh d') (D:∃d',(PyProof.Rows.recsOf q).find? (λe=>e.name == ("verdict_form" : Str))=Lh d')
  (F:∀(w:HP)(mg:Str->Option HN)(o:HR)(h:HS),(K w.params).In h->h.Ns HX mg->mg d.name=↑o ->
   ∃m:Jf,(∀(s:Ib)(u:HN),Jg s m ⟨[u],[]⟩ [("script",u)])/\∀base:HS,(K w.params).In base->base.Ns HX mg->(∀q∈(W.tabIn (K w.params) "row_form").toList++(W.tabIn (K w.params) "verdict_form").toList,W.CodeHd base q.1 q.2/\base.BuiltinsAt mg q.2)->aK l.prog w (K w.params) mg base CX0 21 o m ["script"] (J18<|K w.params)) :
  W.WalkO q b XP r l.row.toRowW d [] (λf vs=>PySem.call f vs) :=
 _L.walk_ofT (n:=63) (k:=21) (x := "script") (CX:=λ_=>CX0) (sp:=λw=>J18<|K w.params) (tabs:=λp=>(W.tabIn (K p) "row_form").toList++(W.tabIn (K p) "verdict_form").toList) (xs:=["row_form","verdict_form"]) y ⋯ i ⟨U,⋯,⋯⟩ B g (fu.mpr ⟨c,fu.mpr ⟨D,ja _⟩⟩)
  (λp t h=>(hZ.mp h).elim (λh=>⟨_,fH,vm h⟩) λh=>⟨_,(iE _ fH),vm h⟩) F
  (λw H a v A _ C j=>⟨a,v,U,C,A,λz e=>j z<|hZ.mpr<|.inl (by rw[e];exact fH),λz e=>j z<|hZ.mpr<|.inr (by rw[e];exact fH),λ_=>U⟩) λ_ _ _ _ _ z=>z
end _M
set_option genSizeOf false in
set_option genInjectivity false in
structure PySem.W.Fast:Prop where (tw14711190776548229589 tw11573604549990669305 tw17376396050164686022 tw8406649086905150803 tw17192719956500650896 tw2388682360521821572 tw16033829775782545902 tw13928494294457954253 tw3479285704225260186 tw2776369113602724362 tw12465296256305697603 tw17154734598229014235 tw17965783517372606874 tw4685220382054550580 tw4243137964946597148 tw874506449874126205 tw10917017690978517736 tw11960881985512409608 tw13419109834497103990 tw1388279769556844830 tw14027909330240272168 tw17537053358484719264 tw15051965805808139526 tw13091059074837154376 tw1077026745606753937 tw12432460250505968517 tw3628438671660016426 tw8544739889891860728 tw8628545321063863712 tw18042079577978361685 tw9473900595882468389 tw15245677635830485951 tw14438983004202954267 tw948247019513420129 tw1967096447980547441 tw298232199781034817 tw568407036545726455 tw10518861711985097515 tw9311837939757416595 tw6868571386211367565 tw6008069133212262432 tw17882604089724353071 tw15528627865179657224 tw15016952894969513483 tw10010042285567703697 tw17955623161049315717 tw6665939434692301373 tw2678918545250017985 tw331299376105190923 tw13036382427858386094 tw11761033357325012372 tw4038054970834217939 tw17198278275677676207 tw2853299764779105235 tw6677025618675400912 tw14037247730796978720 tw15568916219481186089 tw13370769488541996423 tw16381611922081539380 tw6850408380654163438 tw11423944078434705300 tw14613374487764629893 tw6088426222203401928 tw2941030858698141764 tw11297814734014542844 tw15167873018277595944 tw8195902342060383930 tw3152327757277054742 tw6420438943779255414 tw9556527129944151594 tw3938841254924161938 tw8315692597366325095 tw8496837178758686475 tw15090777342011081175 tw7075935562514069944 tw13370147368607730833 tw6815512797013813965 tw14643181967574359688 tw2304095403838505050 tw10072181892879730342 tw4608515085333749722 tw12030000031866602154 tw14364291273463427309 tw10645569819839355052 tw9649628152473243400 tw18221623774627160685 tw15612998775772541822 tw1387648413537056801 tw6766408373709942952 tw15215993557432997040 tw4267886804357034700 tw11290083929417642742 tw8638405916496634620 tw2784239126328269800 tw5280961567444897913 tw15169125545106552296 tw8995816051534776749 tw4790234256641453999 tw16975305689395309757 tw11811289873426897638 tw24398761866270363 tw13992959123200486179 tw17432388628421945692 tw2071337497987020001 tw10418932717558129926 tw12376708653645968069 tw672880699173933352 tw4143833597252478752 tw8548028540869252100 tw6592691426648365085 tw11557640977716731069 tw2236724047779176452 tw1327403010761484695 tw13162332078836208311 tw16385046851608234928 tw14310399256728923727 tw11188997563459424535 tw12534972447800173702 tw10569689561936099176 tw11401359847744342397 tw4501103643198474935 tw6562489349473794099 tw1756399476937432973 tw8312369013563489575 tw3336486278497089432 tw1255870223309801708 tw12369624449892068324 tw13745422300949410002 tw14392294389611743832 tw18232296617484533010 tw17418280705021692663 tw14848001743938618730 tw8990029644049021535 tw16432281451580504257 tw18377307319103457337 tw8396088694315501849 tw4978608828469662863 tw3455967854332397706 tw6991238260739441011 tw4292855378057144337 tw11395296908388759088 tw368487862516846408 tw12606300129113944996 tw232569280260889062 tw4501934967220668249 tw8169950184533012385 tw4637934131048271512 tw7627413698223661512 tw5625439886603924176 tw4672592562468857885 tw10888691474401798714 tw7700857177598106063 tw2455617464923687613 tw10531828427308986540 tw8484605039997411287 tw6664771390519483799 tw1356579570291994795 tw13700364898317050171 tw15832130319239087932 tw4358839726852875646 tw9529496322284385586 tw17445700230550208986 tw7888097760407526610 tw2669417794167056069 tw13826741916392579374 tw3431087415622446558 tw13684358926435039551 tw9208956405626713360 tw6092190905463309243 tw10140269320726569294 tw5165144578738425134 tw3232864054857185510 tw858516875147306990 tw4599569280218110549 tw12591276171101546521 tw3593727592636097805 tw3646346026482797924 tw5755478132065162202 tw64096279131477753 tw9807102471465710662 tw15194520846509902561 tw7479903172838287579 tw4407697084206680156 tw17654914748326266900 tw10977277477533474440 tw12040778527421433298 tw16410118381373607079 tw16248113607082324932 tw10906333425056629629 tw1450419424552833374 tw3184353607295805059 tw2872144116629898825 tw4922659730959481557 tw16261527085418466029 tw8647459377445989156 tw10186257115900304400 tw7417432526119077476 tw18067114718787795324 tw5745033234728049943 tw13470724566252437791 tw8133581345193913310 tw12993413418302910372 tw13692102768105215457 tw116115319335752744 tw1211094359620771584 tw1810751267578518301 tw1429289467088365922 tw6540480172225814333 tw9486452408474610622 tw5572176501253610474 tw15186190143483307504 tw12941858636539573197 tw6114565660195166027 tw1473096464538932277 tw15493648611458411715 tw2538124574482417329 tw6856341428952843678 tw9861787848415737345 tw1284850924408985849 tw4661204016766715968 tw9809792757633376256 tw15272475087030924055 tw8664341847335328781 tw2374683668594968605 tw11293095005544952986 tw10486684581703298205 tw12064400007409233251 tw8850236787232313682 tw4616796961423780087 tw16094881607311579188 tw15959185404472422070 tw13833573920928448790 tw4531890784407561000 tw13218124638510754178 tw3539076427343838258 tw14117763614582478245 tw9885089391490476661 tw7367216602767169018 tw4848522487180091375 tw2289942558309012590 tw284351044716095088 tw4677102218408707762 tw9467807401538814457 tw2779529545339982711 tw6633784053377663968 tw10684924948791628281 tw14703493560968578059 tw6669355060313437101 tw5440954603394227864 tw10505866940515089280 tw8499879094454026926 tw8503173052799976536 tw5919204282475514173 tw16941939237361729003 tw18062557795490765327 tw17701937383833673198 tw16002799079895112670 tw11151418596153304075 tw467982890981655875 tw1632498434265960273 tw9536222723112072134 tw1584315247316503320 tw5900613599316573075 tw6177203697841741705 tw2808428121712353542 tw1273891115300486433 tw10140661899570187814 tw3292839707404227376 tw12053724304600469014 tw14282805557887421377 tw6164031782908024328 tw9011014583463120939 tw6685294112161271081 tw1218304623314887875 tw10184666317240276357 tw10223065335598843657 tw8977834627924718258 tw11821565509403092764 tw4526483107576129024 tw3008224405246455815 tw16968378953431358424 tw9094601626768876714 tw11725475171888615687 tw13239247947977265632 tw2832171992869120647 tw15808449433936659446 tw13567209154846073745 tw15364758947535185333 tw17601467240554613020 tw12123088181515858041 tw13460963237435052945 tw17814249113777036247 tw5786719709204084093 tw13907223798751693089 tw16372591178123683325 tw7646523190308613962 tw8517212026132322971 tw15325289738196689545 tw17245457606144557736 tw4513419034021615064 tw8335291895327871790 tw2617475237295909109 tw16440881093064665536 tw15091149422777047489 tw4860778080040772359 tw5923323082026396598 tw10172628989050337827 tw845279917862560957 tw13380241428831598957 tw2246433204375153814 tw14844252271724976308 tw12180991454900092458 tw11933260386729191024 tw14680336192514261300 tw16493644050611422251 tw12888516604342939530 tw15368934404817195894 tw5824293536780009421 tw13590109940605589191 tw6074273416790772334 tw5011457713751297390 tw17659814126652617352 tw16264056137062482318 tw1081648172599753901 tw7672723844396552645 tw7131114183298331530 tw8416253289355714774 tw8200624969787438626 tw6184281004936833516 tw4046192675874091446 tw5544249672764912200 tw8614963544787794859 tw16028349959649895084 tw7004166828153135745 tw9453319135585007842 tw4427453450991493816 tw4311562424401719852 tw2489859489685527909 tw13701671493444795503 tw12973221607657082480 tw248587469189441493 tw18149622848446542098 tw16879535141542563239 tw16006297168513073966 tw4190962516487314391 tw7002744992293744528 tw2855764778917785210 tw7348990060834047805 tw15732145432650930440 tw16124994613405815944 tw4691388872228131272 tw17593603774171736790 tw3579286920171678321 tw16020014000085477551 tw863112627785518094 tw8918809925553207253 tw15160371495143750386 tw1719489871013744981 tw4520119453029146616 tw11090620674237985252 tw1786088313390330609 tw18346642456688790418 tw4503330821652036894 tw17877322205266961140 tw12850964115236600767 tw16475212647168894135 tw7308567061482018527 tw9536852658401706402 tw15291719988842433248 tw14774866776911929110 tw14821373537092980113 tw16229988762648551027 tw12310291599578042477 tw11217118580132324130 tw1227768125429834746 tw12082114289284661081 tw5475235755839752772 tw3577996231801048414 tw17520585769341857807 tw12996782731348124180 tw14556055341398594107 tw16372352802767081388 tw10090990735103559428 tw14702903599155736736 tw11154987513865437852 tw1842134653931066424 tw15106838576969131153 tw10036722832299162621 tw16545127948787857332 tw16932135027523287287 tw12614746030851204699 tw10025446270510797880 tw5403480440580551981 tw6237389634999294136 tw13358148682243385513 tw17204493210828985151 tw12819583937938048354 tw1621965141015466846 tw12159511906188720812 tw10835373235632634859 tw1774973358988263021 tw1050847005020461791 tw8891498230998000698 tw12312859914838042935 tw1180002122448990138 tw16778533748185461795 tw8764647734812977348 tw14975123878207764811 tw8743701617546026024 tw18112279769121613956 tw1513937772565201361 tw5427811894977172858 tw10043877939825417414 tw9657679054894259447 tw12250644952445743962 tw13862874571198200031 tw6752949303175605411 tw17504714807897052606 tw15446008918255767857 tw11199907307879065025 tw13983851153618880106 tw3793178231660502718 tw11895574960780390181 tw9336052633989562484 tw3799461194567407901 tw16049703775235725756 tw10151380546797262065 tw1693577131876344956 tw12241047650707720861 tw739188962359793779 tw16051105704274283733 tw16031361817149381064 tw12112511009052555754 tw1905645193465252520 tw9200102030501999484 tw9049777411088413701 tw11081027849947336922 tw13255628782526227420 tw13681836081582556579 tw9822498638454301409 tw9298532394006338889 tw680682864669087075 tw7530589418815687083 tw15656927933271126081 tw16629267115063260426 tw17395157219764809975 tw7687098091303746939 tw17291277469482283295 tw17807630758514173981 tw10180590769630993889 tw16363946544769693562 tw16523478294745925339 tw7757173566229537464 tw11115504945970146726 tw830714710184407049 tw9251794346920419647 tw13735130390999445197 tw5536023052422069369 tw11263619129929079209 tw10969310235958472015 tw6097129447068801225 tw464117362034231979 tw13669272152536688415 tw4385170635506208401 tw14476588602338405714 tw2032921444105754502 tw1256190723393099336 tw6748950123148257523 tw14669002202623131815 tw13259550723561915350 tw4681666581027576129 tw16162539864007341338 tw5649644483819780743 tw11626103229421352703 tw11924709103841134936 tw9929303071425211345 tw13289482695407684047 tw9209635947250661337 tw13033713851124516153 tw10473341674134601350 tw3411468665505697587 tw16069858124864740045 tw1115748129020684656 tw15595911505764159033 tw9583846246935637123 tw5208492958860800360 tw9832946430514741911 tw6410240234666046852 tw1151602707861695758 tw14772755760593394911 tw15171881919221117596 tw14180464170302864534 tw3087618876441528962 tw12127896155741738288 tw5107101068342410679 tw7623597357149859669 tw17362200212448544636 tw2589219311875631062 tw1814079968808763430 tw15928636941665780096 tw8160892216627654588 tw1864453735965094386 tw2319914143829943376 tw6114000427299775883 tw10170526632555334692 tw3493155324157135096 tw2012347085233345929 tw682816112698902596 tw6082311423114167226 tw3362924646780604379 tw12768493402718549756 tw7984742981326235320 tw17261369633704259405 tw14966715038223396593 tw9906197641830731775 tw16027652002763185513 tw10052940959571244512 tw7549083505646252073 tw4169415839998520798 tw5453131770266889727 tw5070048125287843534 tw8873265858935512653 tw10175103425903892335 tw3408497115841876993 tw11780780564813080679 tw3687907175995899644 tw5135415844592596287 tw3797691678094997662 tw13376934349188929278 tw720260874705768049 tw3324848904496513841 tw4523894404603757119 tw10695334321378871203 tw1173137634967314440 tw5058095964077965655 tw2604302769752464043 tw17796969054334119727 tw5755438630835379015 tw4707361076887014538 tw2468578174443217935 tw15712411613726191496 tw16667402237098045115 tw17255153265244392235 tw15802847375531644041 tw985423753934353832 tw11804704021474597148 tw2293218197368794069 tw2840530429456729512 tw17317936713087431577 tw17830754879601854330 tw2381942069674385017 tw18267659813105966357 tw4359133550012773301 tw7504741153556143922 tw4552328049330191610 tw5114482629597403963 tw18349499248001766825 tw4762119091614699841 tw9403465364717539851 tw8488965941762012983 tw624358484706479307 tw8122459244722192451 tw15315588858260699313 tw1478747615235753064 tw8867641733619585116 tw11539287857060873616 tw17944524699215557804:True)
open PySem PySem.W PyProof.Rows
set_option maxRecDepth 100000 in
set_option maxHeartbeats 0 in
theorem PySem.Challenge.cw_rowjudge_k40_whole_layers_holds : PySem.Challenge.rw_rowjudge_k40_whole_layers.Holds := by
 w_on;o_law;k_head;(case hw=>w_witness2)
 k_fill
 refine _M.walk (l:=PySem.Challenge.rw_rowjudge_k40_whole_layers) rfl rfl (λw h Y=>PySem.W.km_in_of Y) ?hnK ?hxs ?Cp ?F
 case hnK=>intro p;first|rfl|decide+kernel|with_unfolding_all rfl
 case hxs=>exact⟨_,rfl⟩
 case Cp=>exact⟨_,rfl⟩
 case F =>
  intro w mg fa h KX G hmg;refine' _M.all_mk (Y:=.mk ..) KX G hmg ?b ?u
  case b =>
   constructor
   all_goals try dsimp only
   iterate 16 (k_is)
   iterate 1 (exact _L.ExcCls.value (by first|rfl|with_unfolding_all rfl))
   iterate 1 (constructor <;> first|k_is|rfl|with_unfolding_all rfl)
   iterate 9 (constructor <;> first|k_is|rfl|with_unfolding_all rfl)
   iterate 9 (refine'⟨⟨?_,?_,?_,?_⟩,?_,?_,?_,?_⟩ <;> first|k_is|rfl|with_unfolding_all rfl)
   refine' _L.ModT.mk ?lk ?sz ?vs
   (case lk=>k_is)
   (case sz=>decide)
   (case vs=>exact(.cons ⟨_,rfl⟩ (.cons ⟨_,rfl⟩ .nil)))
   refine' _L.ModT.mk ?lk ?sz ?vs
   (case lk=>k_is)
   (case sz=>decide)
   (case vs=>exact(.cons ⟨_,rfl⟩ (.cons ⟨_,rfl⟩ .nil)))
   iterate 18 (delta _L.NoAttr;k_is)
   iterate 6 (first|k_is|rfl|with_unfolding_all rfl)
   refine' _M.tab_ne (_L.tab_mk (qual := "row_form") (st:=_M.s_row_form) ?a1 ?l1 ?c1 ?e1) (_L.tab_mk (qual := "verdict_form") (st:=_M.s_verdict_form) ?a2 ?l2 ?c2 ?e2) ?ne
   (case a1|l1|c1=>k_is)
   (case e1=>rfl)
   (case a2|l2|c2=>k_is)
   (case e2=>rfl)
   (case ne=>first|decide|(intro h;cases h))
  case u =>
   constructor
   all_goals try dsimp only
   iterate 52 (refine' _L.GF.mk ?a1 (_L.fun_mk ?l ?c ?k);(case a1=>k_is);(case l=>k_is);(case c=>k_is);(case k=>k_is))
   iterate 14 (refine' _L.MF.mk ?a1 ?a2 (_L.fun_mk ?l ?c ?k);(case a1=>k_is);(case a2=>k_is);(case l=>k_is);(case c=>k_is);(case k=>k_is))
   iterate 9 (refine' _L.KF.mk ?a1 ?a2 ?a3 ?a4 ?a5 (_L.fun_mk ?l ?c ?k);(case a1=>k_is);(case a2=>k_is);(case a3=>k_is);(case a4=>k_is);(case a5=>k_is);(case l=>k_is);(case c=>k_is);(case k=>k_is))
   iterate 8 (refine' _L.BF.mk ?a1 ?a2 ?a3 ?a4 (_L.fun_mk ?l ?c ?k);(case a1=>k_is);(case a2=>k_is);(case a3=>k_is);(case a4=>k_is);(case l=>k_is);(case c=>k_is);(case k=>k_is))
   iterate 2 (refine' _L.tfn_mk ?l1 ?l2 ?l3 ?l4 ?l5 ?l6;(case l1=>k_is);(case l2=>k_is);(case l3=>k_is);(case l4=>k_is);(case l5=>k_is);(case l6=>rfl))
   iterate 16 (k_is)
   iterate 6 (refine' _L.gv_mk ?a1 ?a2;(case a1=>k_is);(case a2=>exact⟨_,rfl⟩))
