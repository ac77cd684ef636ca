import PyProof.Rows.All
import Wide.All
import OpenK.AllK
import Wide.FinOn
import Lean
import PyProof.EqAt
import PyProof.EqKinds
import PyProof.TupleCall
import KE.KIntText
import PyProof.NeKinds
import KE.KTryMore
import KE.KIsAll
import PyProof.ZipIter
import KE.KRevIter
import PyProof.CollectIter
import PyProof.FactsAll.range_2
import PyProof.FactsAll.range_iterator_1
import KE.KNest
import KE.KLam
import PySem.Challenge.RW_rowjudge_k69_too_fine_too_many
open List renaming length_map→bc,mem_cons→bL,size_toArray→cf,mem_cons_self→dn,mem_map→dy,length_append→dV,mem_singleton→fc,mem_cons_of_mem→fo,length_cons→gb,map_append→gd,getElem?_map→gM,take_length→hV,mem_append→hZ,length_singleton→ie,getD_eq_getElem?_getD→ik,mem_range→iu,forall_mem_cons→iv,append_nil→iP,getElem?_append_left→iQ,length_take→iR,length_range→ja,map_cons→jc,append_assoc→jn,forall_mem_nil→jo,mem_append_right→jq,all_eq_true→jr,getElem?_append_right→js,not_mem_nil→jt,mem_append_left→jJ,mem_filter→kP,take_append_drop→kQ,pairwise_lt_range→lg,getElem?_of_mem→lz,map_nil→mu,length_zipWith→mv,filterMap_cons→ny,getElem?_eq_none→nC,pairwise_append→nF,find?_cons_of_pos→nK,find?_cons_of_neg→nL,range_succ→nP,take_add_one→nQ,pairwise_iff_getElem→nS,take_zero→nY,map_map→ov,filter_append→oD,getElem?_set_self→pa,nodup_cons→pj,pairwise_cons→qg,perm_append_comm→qJ,mem_of_mem_take→ri,mem_of_mem_drop→ro,drop_take→rp,nil_append→rr,getElem?_zipWith→rX,length_replicate→sr,length_drop→sv,all_cons→sx,any_eq_true→sE,mem_iff_getElem→sG,pairwise_singleton→tj,ext_getElem?→tu,map_fst_zip→tw,getElem?_zip_eq_some→tI,of_mem_zip→uw,take_sublist→ux,mem_flatMap→uy,nodup_append→uz,map_take→uA,map_drop→uB,length_filter_le→vl,getElem_inj→vr,sum_append→wh,nodup_nil→wo,drop_length→wt,foldl_cons→wM,sum_cons→wW
open Nat renaming le_refl→wX,ne_of_lt→wY,zero_le→wZ,lt_of_lt_of_le→w6,ne_of_gt→xa,le_trans→xc,lt_succ_of_lt→xG,le_succ→x4,lt_succ_self→yg,lt_or_ge→yl,lt_irrefl→za,le_of_lt→zb,le_add_right→zc,zero_add→zh,not_lt_zero→zl,sub_self→zm,lt_of_succ_lt→zo,le_of_not_lt→zz,le_of_eq→zI,mod_lt→zN,add_zero→AV,succ_pos→A6
open Array renaming length_toList→A8,getElem_mem→Be,getElem?_eq_getElem→BH,toList_append→BZ,mem_toList_iff→Cp,getElem?_toList→Cs,toList_push→C8,toList_extract→Dv,size_extract→Dw
open Bool renaming and_eq_true→Dx,eq_false_iff→DA,false_eq_true→DB
open Int renaming toNat_natCast→DG,natCast_nonneg→DH,emod_nonneg→D0,emod_lt_of_pos→D3,not_lt→D4,one_mul→ED
open Option renaming isSome_iff_exists→EV,map_eq_some_iff→EW,getD_none→EX
open PySem renaming wpAny_bind→E2,wpAny_pure→E6,wpAny_holding→Fc,wpAny_Call_Name_kw→Fd,Value→Fe,World→Fn,Program→Fw,Addr→HA,Heap→HB,sizeLine→HL,sysModules→HS,intKind→HY,mainGlobals→Ia,builtinsNs→Im,bootBuiltins→Io,Around→Ip,Shared→Iq,Scope→Ir,GenState→Iu,Model→Iv,wpAny→Iw,storeName→Iy,Expr→Iz,isTrue→IA,backTo→IB,starEach→IC,Stmt→ID,wpAny_mono→IE,wpAny_Name→IF,wpAny_loadName_local→IG,wpAny_loadName_cell→IH,standAt→II,wpAny_truthy_bool→IJ,wpAny_execs_nil→IK,wpAny_execs_cons→IL,swapsWith→IM,assignEach→IP,Operator→IQ,wpAny_assign_Name→IS,wpAny_standAt→IT,wpAny_Assign_Name→IU,PassesOwn→IV,wpAny_passesOwn→IW,pyNext→IX,letOwnedTupleGo→IY,pyIter→IZ,rawInt→I0,IsRangeIter→Ja,Data→Jb,Walks→Jc,wpAny_pyNext_range_end→Jd,wpAny_pyIter_rangeiter→Je,wpAny_pyIter_list→Jf,wpAny_pyIter_range→Jg,IsRange→Jh,Builtin→Ji,rangeSize_one→Jj,foldedSetIterable→Jk,binaryOp→Jl,intBits_le_64→Jm,compareOp→Jn,CmpOp→Jo,behindInMarks→Jp,sizeLine_eq→Jq,getMethod→Jr,Result→Js,codeAny→Jt,attributeBase→Ju,recursionLimit→Jv,cLine→Jw,Code→Jx,FuncData→Jy,BindsTo→Jz,bindArgs→JA,wpAny_call→JB,codeAny_mono→JC,NameKind→JD,bindL→JE,bindC→JF,cellsFrom→JG,Arguments→JH,concat_meets→JI,noFill_tuple_add→JJ,seq_tuple_add→JK,evalPart_none→JL,typeLookup→JM,seqIndex_of→JN,slot_list_getitem→JO,sliceBounds→JP,call_list_seq→JQ,typeOf→JR,backToKw→JS,keywordEach→JT,call_meets→JU,Params→JV,callerA→JW,compEnvC→JX,closureFor→JY,closureFor_none→JZ,noteFrame→Ka,newList→Kb,newFunctionEnv→Kc,wpAny_newObj_type→Kd,wpAny_newFunctionEnv→Ke,codeAny_compStart_list→Kf,eval_ListComp→Kg,wpAny_comprehension_free→Kh,compPost→Ki,exec_Assign_Name_used→Kj,wpAny_setField→Kk,wpAny_field→Kl,setFlight→Km,wpAny_typeOf_ref→Kn,codeAny_call_builtin→Ko,wpAny_ite_false→Kp,codeAny_builtin→Kq,checkBuiltinCall→Kr,argsOk→Ks,wpAny_of_eq→Kt,wpAny_attempt→Ku,wpAny_ite_true→Kv,slotArgs→Kw,wpAny_rule→Ky,callWith→Kz,WalksS→KA,scanBound→KC,Moved→KD,setAdd→KG,plainId_quiet→KH,check_set_init_1→KI,wpAny_runValue→KJ,codeAny_of_tree→KL,weight_type_call_type→KN,SetTable→KO,layNew→KP,relayAll→KQ,pickOrder→KR,intKind_is→KS,wpAny_storeSet_of→KU,fits_of_scanBound→KW,wpAny_setState_of→KY,wpAny_askSetting→KZ,typeLookup_type→K0,builtinLookup_eq_fast→K1,isSubtype_type→K2,entryFor→K3,entryFor_alias→K4,drawOrder→K5,setNext→K6,wpAny_callSpecial?_slot→K7,wpAny_call_entry→K8,wpAny_fieldsOf→K9,wpAny_setEntries_of→La,wpAny_setField_rec→Lb,newExc→Lc,firstArgMember→Ld,wpAny_handled→Le,wpAny_isInstance→Lf,isSubtype_stop→Lg,wpAny_seqItems→Lh,wpAny_pyIter_slot→Li,Setting→Lj,setsByText→Lk,wpAny_newTuple→Ll,wpAny_setEpoch_of→Lm,wpAny_typeOf→Ln,wpAny_specialOf→Lo,updateSeq→Lp,wpAny_updateSeq→Lq,intItems→Lr,numAt_eq→Ls,IsPair→Lu,ZipApart→Lv,wpAny_pyNext_zip_item→Lw,wpAny_pyNext_zip_end→Lx,wpAny_pyIter_zip→Ly,wpAny_nextOf_list_item→Lz,wpAny_nextOf_list_end→LA,wpAny_newList→LB,wpAny_pyIter_enum→LC,wpAny_pyIter_revIter→LD,codeAmong→LF,boot_len→LG
open Option renaming some→LH,none→LI
open Bool renaming true→LJ,false→LK
open Decidable renaming decide→LL
set_option Elab.async false
set_option linter.all false
set_option maxRecDepth 100000
set_option maxHeartbeats 4000000
set_option bootstrap.genMatcherCode false
set_option compiler.extract_closed false
local macro_rules|`(⇑$x)=>`(($x).length)
local macro_rules|`(↥$x)=>`(($x).heap.objs.size)
local macro_rules|`(term|∅)=>`(by first|lia|(dsimp only;lia))
local macro_rules|`(term|⋯)=>`(by decide)
local macro_rules|`(~~~$x)=>`(by simpa using $x)
local macro_rules|`(~~~0)=>`(by decide+kernel)
abbrev L0:=@List
open Lean in
local macro_rules|`(tactic|let $d:letDecl)=>do
 let p:=d.raw[0]
 if p.isOfKind `Lean.Parser.Term.letPatDecl then
  let n:=Syntax.node .none
  let g:=λe:Array Syntax=>n `Lean.Parser.Tactic.rcasesPat.tuple #[.atom .none "⟨",n `null (e.mapIdx λj p=>if j%2==1 then p else n `Lean.Parser.Tactic.rcasesPatLo #[n `Lean.Parser.Tactic.rcasesPatMed #[n `null #[p]],n `null #[]]),.atom .none "⟩"]
  let q:=p[0].rewriteBottomUp λs=>match s with|.ident ..=>n `Lean.Parser.Tactic.rcasesPat.one #[s]|.node i k a=>if k==`Lean.Parser.Term.hole then n `Lean.Parser.Tactic.rcasesPat.ignore a else if k==`Lean.Parser.Term.anonymousCtor then g a[1]!.getArgs else if k==`Lean.Parser.Term.tuple then g (#[a[1]![0],a[1]![1]]++a[1]![2].getArgs) else s|_=>s
  return n `Lean.Parser.Tactic.obtain #[.atom .none "obtain",n `null #[n `Lean.Parser.Tactic.rcasesPatMed #[n `null #[q]]],n `null p[2][0].getArgs,n `null #[.atom .none ":=",n `null #[p[4]]]]
 else `(tactic|have $d:letDecl)
local macro_rules|`(tactic|calc $x:term)=>`(tactic|refine $x)
open Lean in
local macro_rules(kind:=Lean.Parser.Command.declaration)|s=>do
 let k:=s[1].getKind
 if s[0][1].isNone&&s[0][4].isNone&&(k==``Lean.Parser.Command.definition||k==``Lean.Parser.Command.abbrev||k==``Lean.Parser.Command.instance) then return s.setArg 0 (s[0].setArg 4 (.node .none `null #[.node .none ``Lean.Parser.Command.noncomputable #[.atom .none "noncomputable"]]))
 Macro.throwUnsupported
abbrev LN:=@if_neg
abbrev LO:=@if_pos
abbrev LP:=@absurd
abbrev LQ:=@decide_eq_true
abbrev LR:=@decide_eq_false
abbrev LS:=@of_decide_eq_true
abbrev LU:=@congrArg
abbrev LV:=@decide_eq_true_iff
local macro_rules|`(term|s!$x)=>do
 let some t:=x.raw.getArgs[0]? | Lean.Macro.throwUnsupported
 let some v:=t.isInterpolatedStrLit? | Lean.Macro.throwUnsupported
 `(PySem.Str.ofString $(Lean.quote v))
def Ij{a:Type _}{l:L0 a}{i:Nat}(h:i<⇑l):l[i]?=LH l[i]:=List.getElem?_eq_getElem h
def Ik{b:Type _}{a:b}{l:L0 b}{i:Nat}:l[i]?=LH a ↔ ∃h:i<⇑l, l[i]=a:=List.getElem?_eq_some_iff
def Il{b:Type _}{l:L0 b}{i:Nat}{a:b}(e:l[i]?=LH a):a∈l:=List.mem_of_getElem? e
namespace _L
def U{b:Sort _}{a:b}:a=a:=rfl
open PySem PySem.Spec PyProof.Rows
abbrev Key:=Sum Int Str
def AU:Key->Fe->Bool
 | .inl k,v=>Fe.isInt k v
 | .inr x,v=>Fe.isStrOf x v
def EC(w:Fn):Key->Int
 | .inl k=>hashInt k
 | .inr x=>hashStr w x
theorem bQ:∀{k:Key}{v:Fe},AU k v=LJ->(∃i t,k=Sum.inl i/\v=Fe.int i t)\/(∃x t,k=Sum.inr x/\v=Fe.str x t)
 | .inl i,v,h=>by
  let(t,e):=Fe.isInt_shape (k:=i) (v:=v) h;exact .inl ⟨i,t,U,e⟩
 | .inr x,v,h=>by
  let(t,e):=Fe.isStrOf_shape (x:=x) (v:=v) h;calc .inr ⟨x,t,U,e⟩
theorem Bw(a b:Int):decide ((Sum.inl a:Key)=Sum.inl b)=(a == b):=by
 by_cases e:a=b
 .subst e;simp
 .let h:¬ (Sum.inl a:Key)=Sum.inl b:=λq=>e<|Sum.inl.inj q
  rw[LR h];calc(beq_eq_false_iff_ne.mpr e).symm
theorem Bx(a b:Str):decide ((Sum.inr a:Key)=Sum.inr b)=LL (a=b):=by
 by_cases e:a=b
 .subst e;simp
 .let h:¬ (Sum.inr a:Key)=Sum.inr b:=λq=>e<|Sum.inr.inj q
  rw[LR h,LR e]
def By(a:Int)(b:Str):decide ((Sum.inl a:Key)=Sum.inr b)=false:=LR<|λq=>nomatch q
def Bz(a:Str)(b:Int):decide ((Sum.inr a:Key)=Sum.inl b)=false:=LR<|λq=>nomatch q
def pq(prog:Fw)(w:Fn):PySem.KeyKind prog w Key where
 is:=AU
 hash:=EC w
 inj:=λv a b l f=>by
  rcases bQ l with⟨i,t,rfl,rfl⟩|⟨x,t,rfl,rfl⟩
  .rcases bQ f with⟨j,u,rfl,e⟩|⟨y,u,rfl,e⟩
   .injection e with c _;rw[c]
   .exact nomatch e
  .rcases bQ f with⟨j,u,rfl,e⟩|⟨y,u,rfl,e⟩
   .exact nomatch e
   .injection e with c _;rw[c]
 byValue:=λk v h=>by
  rcases bQ h with⟨i,t,rfl,rfl⟩|⟨x,t,rfl,rfl⟩ <;> rfl
 pyHash:=λd h=>by
  rcases bQ d with⟨i,t,rfl,rfl⟩|⟨x,t,rfl,rfl⟩
  .exact wpAny_pyHash_int h
  .exact wpAny_pyHash_str h
 eqBool:=λg d h=>by
  rcases bQ g with⟨i,t,rfl,rfl⟩|⟨x,t,rfl,rfl⟩
  .rcases bQ d with⟨j,u,rfl,rfl⟩|⟨y,u,rfl,rfl⟩
   .rw[Bw]at h;exact wpAny_eqBool_int h
   .rw[By]at h;exact SeqAt.EqAt.int_str i t y u _ _ _ _ h
  .rcases bQ d with⟨j,u,rfl,rfl⟩|⟨y,u,rfl,rfl⟩
   .rw[Bz]at h;exact SeqAt.EqAt.str_int x t j u _ _ _ _ h
   .rw[Bx]at h;exact wpAny_eqBool_str h
 «strs»:=λk x t v h=>by
  rcases bQ h with⟨i,u,rfl,e⟩|⟨y,u,rfl,e⟩
  .exact nomatch e
  .injection e with c _;subst c;cases v <;> rfl
inductive V where
 |non|bl (b:Bool)|int (i:Int)|str (x:Str)|byt (b:Array UInt8)|flt (b:UInt64)|ref (a:HA)|ty (n:String)
 deriving DecidableEq
def RelV:V->Fe->Prop
 | .non,u=>u=Fe.none
 | .bl b,u=>u=Fe.bool b
 | .int i,u=>∃t,u=Fe.int i t
 | .str x,u=>∃t,u=Fe.str x t
 | .byt b,u=>∃t,u=Fe.bytes b t
 | .flt b,u=>∃t,u=Fe.float b t
 | .ref a,u=>u=Fe.ref a
 | .ty n,u=>u=Fe.type n
abbrev Vals:L0 V->L0 Fe->Prop:=Paired RelV
theorem Vals.length{xs:L0 V}{us:L0 Fe}(r:Vals xs us):⇑xs=⇑us:=Paired.length r
theorem Vals.get:∀{xs:L0 V}{us:L0 Fe}{i:Nat}{x:V},Vals xs us->xs[i]?=LH x->∃u,us[i]?=LH u/\RelV x u
 |_,_,_,_,.nil,e=>by simp at e
 |_,_,0,_,.cons r _,e=>by simp at e;subst e;exact⟨_,U,r⟩
 |_,_,i+1,x,.cons _ t,e=>by
  let(u,b,a):=Vals.get (i:=i) (x:=x) t<|~~~e;calc⟨u,~~~b,a⟩
theorem Vals.set{x:V}{u:Fe}(r:RelV x u):∀{xs:L0 V}{us:L0 Fe}(i:Nat),Vals xs us->Vals (xs.set i x) (us.set i u)
 |_,_,_,.nil=>.nil
 |_,_,0,.cons _ t=>.cons r t
 |_,_,i+1,.cons q t=>.cons q<|Vals.set r i t
theorem Vals.append:∀{xs ys:L0 V}{us ws:L0 Fe},Vals xs us->Vals ys ws->Vals (xs++ys) (us++ws)
 |_,_,_,_,.nil,s=>s
 |_,_,_,_,.cons r t,s=>.cons r<|Vals.append t s
theorem Vals.take:∀{xs:L0 V}{us:L0 Fe}(n:Nat),Vals xs us->Vals (xs.take n) (us.take n)
 |_,_,0,_=>.nil
 |_,_,_+1,.nil=>.nil
 |_,_,n+1,.cons r t=>.cons r<|Vals.take n t
theorem Vals.drop:∀{xs:L0 V}{us:L0 Fe}(n:Nat),Vals xs us->Vals (xs.drop n) (us.drop n)
 |_,_,0,r=>r
 |_,_,_+1,.nil=>.nil
 |_,_,n+1,.cons _ t=>Vals.drop n t
def nO:Option V->Option Fe->Prop
 |some v,LH u=>RelV v u
 |none,LI=>True
 |_,_=>False
def KV{a:Type}:L0 (a×V)->L0 (a×Fe)->Prop:=Paired λ(p:a×V)(q:a×Fe)=>p.1=q.1/\RelV p.2 q.2
def kV:Key->V
 | .inl i=>.int i
 | .inr x=>.str x
inductive HO where
 |lst (xs:L0 V)
 |tup (xs:L0 V)
 |dK (kvs:L0 (Key×V))|dT (kvs:L0 (L0 Key×V))
 |set (S:Int->Bool)(n:Nat)
 |ins (C dx:HA)(fs:L0 (Str×V))
 |own (x:HA)
 |xd (fs:L0 (Str×V))
 |met (f x:HA)
 |rng (lo hi:Int)
 |frz (o:Obj)(u:HO)
 |tbl (ps:Array Fe)
 |ext (φ:HB->Prop)
abbrev Hp:=HA->Option HO
def upd(H:Hp)(a:HA)(o:HO):Hp:=λb=>if b=a then LH o else H b
theorem ae{H:Hp}{a:HA}{o:HO}:upd H a o a=LH o:=by unfold upd;rw[LO U]
theorem av{H:Hp}{a b:HA}{o:HO}(h:b≠a):upd H a o b=H b:=by unfold upd;rw[LN h]
theorem zp{H:Hp}{a:HA}{o u:HO}:upd (upd H a o) a u=upd H a u:=by
 funext b;unfold upd;split <;> rfl
theorem jI{H:Hp}{a b:HA}{o u:HO}(h:H a=LH o)(h':H b=LH u)(d:o≠u):a≠b:=by
 intro e;subst e;rw[h]at h';calc d<|Option.some.inj h'
theorem aZ{H:Hp}{a b:HA}{o:HO}(h:H a=LH o)(h':H b=LI):a≠b:=by
 intro e;subst e;rw[h]at h';cases h'
section
variable(P:Fw)(w:Fn)
def cg(H:Hp)(h:HB)(a:HA):HO->Prop
 | .lst xs=>⇑xs<=HL/\∃(b:L0 Fe)(n:Nat),Vals xs b/\h.get? a=LH { cls:=.type "list",data:=.seq b.toArray n }
 | .tup xs=>⇑xs<=HL/\∃b:L0 Fe,Vals xs b/\IsTup h a b.toArray
 | .dK kvs=>⇑kvs<=HL/\(a == HS)=LK/\∃vs,KV kvs vs/\h.DictOf (pq P w) a vs
 | .dT kvs=>⇑kvs<=HL/\(a == HS)=LK/\∃xs:L0 (L0 Key×HA×Fe),
   Paired (λ(p:L0 Key×V)(q:L0 Key×HA×Fe)=>p.1=q.1/\H q.2.1=LH (.tup<|p.1.map kV)/\RelV p.2 q.2.2) kvs xs /\
   ∃o g i,h.get? a=LH o/\o.ExactDict/\o.data=.dict g i/\g.toList=xs.map (entryOfKey<|tupleKind<|pq P w)/\(xs.map (·.1)).Nodup
 | .set S n=>h.SetOf (HY P w) a S n
 | .ins C dx fs=>H dx=LH (.own a)/\⇑fs<=1000/\dx≠a/\h.get? a=LH (W.instObj C dx) /\
   ∃c,h.Ns1 dx c/\(∀f,nO (fs.lookup f)<|c f)/\PySem.Within c (fs.map (·.1))
 | .own _=>∃o,h.get? a=LH o
 | .xd fs=>∃c,h.Ns1 a c/\∀f,nO (fs.lookup f) (c f)
 | .rng lo hi=>∃t u v,h.get? a=LH { cls:=.type "range",data:=.fields #[.int lo t,.int hi u,.int 1 v] }
 | .frz o u=>h.get? a=LH o/\cg H h a u
 | .tbl ps=>h.get? a=LH { cls:=.none,data:=.fields ps }
 | .met f x=>h.get? a=LH (W.methodObj (.ref f)<|.ref x)
 | .ext φ=>φ h/\(∃o,h.get? a=LH o)/\∀e d:HB,φ e->(∀o,e.get? a=LH o->d.get? a=LH o)->φ d
def HOk(H:Hp)(h:HB):Prop:=∀a o,H a=LH o->cg P w H h a o
end
variable{P:Fw}{w:Fn}{H H':Hp}{h h':HB}{a:HA}
section
variable{o:HO}
theorem cg.lt(x:cg P w H h a o):a<h.objs.size:=by
 cases o with
 |lst c=>obtain⟨_,_,_,_,e⟩:=x;exact HB.lt_size e
 |tup c=>obtain⟨_,_,_,p⟩:=x;exact p.lt
 |dK b=>obtain⟨_,_,_,_,o,_,_,e,_⟩:=x;exact HB.lt_size e
 |dT b=>obtain⟨_,_,_,_,o,_,_,e,_⟩:=x;exact HB.lt_size e
 |set S n=>obtain⟨o,_,_,_,e,_⟩:=x;exact HB.lt_size e
 |ins C j fs=>obtain⟨_,_,_,e,_⟩:=x;exact HB.lt_size e
 |own y=>obtain⟨_,e⟩:=x;exact HB.lt_size e
 |xd fs=>obtain⟨_,⟨_,_,_,e,_⟩,_⟩:=x;exact HB.lt_size e
 |rng lo hi=>obtain⟨_,_,_,e⟩:=x;exact HB.lt_size e
 |frz i u=>obtain⟨e,_⟩:=x;exact HB.lt_size e
 |tbl g=>exact HB.lt_size (show h.get? a=LH _ from x)
 |met f y=>exact HB.lt_size (show h.get? a=LH _ from x)
 |ext d=>obtain⟨_,⟨_,e⟩,_⟩:=x;calc HB.lt_size e
theorem Paired.mapP{d c:Type}{F G:d->c->Prop}:∀{l₁:L0 d}{l₂:L0 c},Paired F l₁ l₂->(∀a b,F a b->G a b)->Paired G l₁ l₂
 |_,_,.nil,_=>.nil
 |_,_,.cons r t,f=>.cons (f _ _ r)<|Paired.mapP t f
theorem cg.stay(x:cg P w H h a o)(k:∀b u,(b=a\/H b=LH (.own a))->h.get? b=LH u->h'.get? b=LH u)
  (I:∀b,H b=LH (.own a)->H' b=LH (.own a))(G:∀b xs,H b=LH (.tup xs)->H' b=LH (.tup xs)):cg P w H' h' a o:=by
 induction o with
 |lst xs=>obtain⟨z,l,n,r,e⟩:=x;exact⟨z,l,n,r,k _ _ (.inl U) e⟩
 |tup xs=>obtain⟨z,l,r,g,e,c⟩:=x;exact⟨z,l,r,g,k _ _ (.inl U) e,c⟩
 |dK A=>obtain⟨z,y,E,r,g,i,j,e,c⟩:=x;exact⟨z,y,E,r,g,i,j,k _ _ (.inl U) e,c⟩
 |dT A =>
  let(z,y,xs,r,g,i,j,e,c):=x;exact⟨z,y,xs,Paired.mapP r λp q z=>⟨z.1,G _ _ z.2.1,z.2.2⟩,g,i,j,k _ _ (.inl U) e,c⟩
 |set S n=>obtain⟨g,i,j,t,e,c⟩:=x;exact⟨g,i,j,t,k _ _ (.inl U) e,c⟩
 |ins C L fs =>
  let(d,z,ne,e,s,(m,i,j,J,c),r):=x;exact⟨I _ d,z,ne,k _ _ (.inl U) e,s,⟨m,i,j,k _ _ (.inr d) J,c⟩,r⟩
 |own y=>obtain⟨g,e⟩:=x;exact⟨g,k _ _ (.inl U) e⟩
 |xd fs=>obtain⟨s,⟨m,i,j,e,c⟩,r⟩:=x;exact⟨s,⟨m,i,j,k _ _ (.inl U) e,c⟩,r⟩
 |rng lo hi=>obtain⟨t,u,v,e⟩:=x;exact⟨t,u,v,k _ _ (.inl U) e⟩
 |frz g u F=>obtain⟨e,q⟩:=x;exact⟨k _ _ (.inl U) e,F q⟩
 |tbl D =>
  let e:h.get? a=LH { cls:=.none,data:=.fields D }:=x;show h'.get? a=LH { cls:=.none,data:=.fields D };exact k a _ (.inl U) e
 |met f y =>
  let e:h.get? a=LH (W.methodObj (.ref f)<|.ref y):=x;show h'.get? a=LH (W.methodObj (.ref f)<|.ref y);exact k a _ (.inl U) e
 |ext K=>obtain⟨p,⟨o,e⟩,B⟩:=x;calc⟨B _ _ p λo q=>k _ _ (.inl U) q,⟨o,k _ _ (.inl U) e⟩,B⟩
theorem HOk.lt(x:HOk P w H h)(e:H a=LH o):a<h.objs.size:=(x a o e).lt
theorem HOk.fresh(x:HOk P w H h)(e:h.objs.size<=a):H a=none:=by
 cases q:H a with
 |none=>rfl
 |some u=>calc LP (w6 (x.lt q) e) (za _)
def HOk.kept(x:HOk P w H h)(k:∀b u,h.get? b=LH u->h'.get? b=LH u):HOk P w H h':=λa o e =>
 (x a o e).stay (λb u _ q=>k b u q) (λ_ q=>q) λ_ _ q=>q
theorem HOk.laid(x:HOk P w H h)(k:∀b u,h.get? b=LH u->h'.get? b=LH u)(g:h.objs.size<=a)(new:cg P w (upd H a o) h' a o):HOk P w (upd H a o) h':=λb u e=>by
 let d:=x.fresh g;by_cases f:b=a
 .subst f;rw[ae]at e;cases e;exact new
 .rw[av f]at e;exact(x b u e).stay (λc v _ q=>k c v q) (λc q=>by rw[av (aZ q d)];exact q) λc i q=>by rw[av (aZ q d)];calc q
end
def Rd(H:Hp)(a:HA)(u:HO):Prop:=H a=LH u\/∃o,H a=LH (.frz o u)
theorem Rd.ok{P:Fw}{w:Fn}{H:Hp}{h:HB}{a:HA}{u:HO}(r:Rd H a u)(x:HOk P w H h):cg P w H h a u:=by
 rcases r with r|⟨o,r⟩
 .exact x a u r
 .let(_,q):=x a _ r;calc q
def Mut:Option HO->Prop
 |some (.lst _)=>True
 |some (.dK _)=>True
 |some (.dT _)=>True
 |some (.set _ _)=>True
 |some (.ins _ _ _)=>True
 |some (.ext _)=>True
 |_=>False
variable{x:HA}
section
variable{e:HA}{o':HO}
theorem HOk.write(ok:HOk P w H h)(f:Mut (H x))(m:e=x\/H e=LH (.own x))(k:∀b u,b≠e->h.get? b=LH u->h'.get? b=LH u)(j:∃u,h'.get? e=LH u)
  (new:cg P w (upd H x o') h' x o'):HOk P w (upd H x o') h':=λb u q=>by
 let n:∀c y,H c=LH (.own y)->c≠x:=λc y r z=>by subst z;rw[r]at f;exact f
 let p:∀c d,H c=LH (.tup d)->c≠x:=λc d r z=>by subst z;rw[r]at f;exact f
 by_cases i:b=x
 .subst i;rw[ae]at q;cases q;exact new
 .rw[av i]at q;by_cases a:b=e
  .let l:H b=LH (.own x):=by
    rcases m with z|z
    .exact LP (a.trans z) i
    .rw[a];exact z
   rw[q]at l;cases l;let(v,o):=j;exact⟨v,by rw[a];exact o⟩
  .refine(ok b u q).stay (λc v g r=>k c v ?_ r) (λc r=>by rw[av (n c b r)];exact r) λc d r=>by rw[av (p c d r)];exact r
   rcases g with rfl|g
   .exact a
   .rintro rfl;rcases m with z|z
    .exact n c b g z
    .rw[g]at z;cases z;calc i U
end
structure Un(fs ex:L0 HA)(H H':Hp)(h h':HB):Prop where
 keep:∀b o,h.get? b=LH o->H b=LI->b ∉ fs->b ∉ ex->h'.get? b=LH o
 slot:∀b o,h.get? b=LH o->H b=LI->b∈fs->b ∉ ex->∃sl,h'.get? b=LH { o with slots:=sl }
 free:∀b o,h.get? b=LH o->H b=LI->b ∉ ex->H' b=LI
 there:∀b o,h.get? b=LH o->b ∉ ex->∃o',h'.get? b=LH o'
 tups:∀b xs,H b=LH (.tup xs)->H' b=LH (.tup xs)
 frzs:∀b o u,H b=LH (.frz o u)->H' b=LH (.frz o u)
 tbls:∀b ps,H b=LH (.tbl ps)->∃more,H' b=LH (.tbl<|ps++more)
section
variable{fs fs' ex ex':L0 HA}{H1 H2:Hp}{h1 h2:HB}{e:HA}{o:HO}
theorem Un.any(u:Un fs ex H H1 h h1){b:HA}{a:Obj}(q:h.get? b=LH a)(n:H b=LI)(c:b ∉ ex):∃e,h1.get? b=LH { a with slots:=e }:=by
 by_cases d:b∈fs
 .exact u.slot b a q n d c
 .exact⟨a.slots,u.keep b a q n d c⟩
theorem Un.kept(k:∀b u,h.get? b=LH u->h'.get? b=LH u):Un fs ex H H h h' :=
 ⟨λb a q _ _ _=>k b a q,λb a q _ _ _=>⟨a.slots,k b a q⟩,λ_ _ _ n _=>n,λb a q _=>⟨a,k b a q⟩,λ_ _ q=>q,λ_ _ _ q=>q,λ_ c q=>⟨#[],by rw[q];simp⟩⟩
def Un.refl:Un fs ex H H h h:=Un.kept λ_ _ q=>q
theorem Un.laid(k:∀b u,h.get? b=LH u->h'.get? b=LH u)(e:h.objs.size<=a)(c:H a=LI):Un fs ex H (upd H a o) h h' where
 keep:=λb u q _ _ _=>k b u q
 slot:=λb u q _ _ _=>⟨u.slots,k b u q⟩
 free:=λb u q n _=>by rw[av (wY<|w6 (HB.lt_size q) e)];exact n
 there:=λb u q _=>⟨u,k b u q⟩
 tups:=λb d q=>by rw[av (aZ q c)];exact q
 frzs:=λb u d q=>by rw[av (aZ q c)];exact q
 tbls:=λb f q=>⟨#[],by rw[av (aZ q c),q];simp⟩
theorem Un.write(c:Mut (H x))(m:e=x\/H e=LH (.own x))(k:∀b u,b≠e->h.get? b=LH u->h'.get? b=LH u)(f:∃u,h'.get? e=LH u):Un fs ex H (upd H x o) h h':=by
 let g:∀b,H b=LI->b≠x:=λb n z=>by subst z;rw[n]at c;exact c
 let i:∀b,H b=LI->b≠e:=λb n z=>by
  subst z;rcases m with r|r
  .exact g b n r
  .rw[n]at r;cases r
 let d:∀b u,H b=LH u->¬ Mut (LH u)->b≠x:=λb u q l z=>by subst z;rw[q]at c;exact l c
 refine⟨λb u q n _ _=>k b u (i b n) q,λb u q n _ _=>⟨u.slots,k b u (i b n) q⟩,λb u q n _=>by rw[av (g b n)];exact n,λb u q _=>?_,
  λb j q=>by rw[av (d b _ q λz=>z)];exact q,λb u j q=>by rw[av (d b _ q λz=>z)];exact q,λb p q=>⟨#[],by rw[av (d b _ q λz=>z),q];simp⟩⟩
 by_cases a:b=e
 .subst a;exact f
 .exact⟨u,k b u a q⟩
end
def trk(h:HB)(H:Hp):L0 HA:=(List.range h.objs.size).filter λa=>(H a).isSome
def lQ(h:HB)(H:Hp):HB:=W.hideAll h<|trk h H
def vB(h:HB)(H:Hp):(lQ h H).objs.size=h.objs.size:=W.hideAll_size _ _
theorem xb{h:HB}{H:Hp}{b:HA}{o:Obj}(e:h.get? b=LH o)(n:H b=LI):(lQ h H).get? b=LH o :=
 W.hideAll_get _ e λa=>by
  let q:(H b).isSome=true:=(kP.mp a).2;rw[n]at q;simp at q
theorem zq{h:HB}{H:Hp}{b:HA}{o:Obj}(e:(lQ h H).get? b=LH o):h.get? b=LH o/\H b=none:=by
 let a:h.get? b=LH o:=W.of_hideAll (trk h H) e;calc⟨a,?_⟩;cases q:H b with
 |none=>rfl
 |some x =>
  let c:b∈trk h H:=kP.mpr ⟨iu.mpr<|HB.lt_size a,by simp[q]⟩;let z:(lQ h H).get? b=none:=W.hideAll_none (trk h H) c;rw[z]at e;cases e
def zr(g h:HB)(L:HA):L0 (HA×Obj):=(List.range h.objs.size).filterMap λa=>if a=L\/(g.get? a).isSome=LJ then LI else(h.get? a).map λo=>(a,o)
def rest(g h:HB)(L d:HA):L0 (HA×Obj):=(zr g h L).filter λp=>decide<|p.1≠d
structure Mod(K:W.Frag)(mg:Str->Option Fe)(base:HB):Prop where
 kin:K.In base
 glob:base.Ns Ia mg
 blt:∃mb,base.Ns Im mb/\∀x:Str,x ≠ "__name__" -> mb x=Io x
 nolimit:base.NoLimit
structure Cx where
 prog:Fw
 w:Fn
 K:W.Frag
 mg:Str->Option Fe
 base:HB
 A:Ip
 N:L0 Str
 s₀:Iq
 H₀:Hp
 env:Env
 outer:L0 Env
 stack:L0 Env
 ex:L0 HA
 fn:Str->Bool
 calm:Bool
 pn:L0 (HA×Obj)
 xe:Fe->Iq->Prop
def frs(l:L0 Env):L0 HA:=l.filterMap (·.frame)
abbrev Cx.fs(X:Cx):L0 HA:=frs X.outer
def Vis(a:Ir)(x:Str):Prop:=a.names.lookup x=LH .local\/a.names.lookup x=LH .cell\/a.names.lookup x=LH .free
def Loc(a:Ir)(x:Str):Prop:=a.names.lookup x=LH .local\/a.names.lookup x=LH .cell
def Look(a:Env)(h:HB)(m:Str->Option Fe)(x:Str)(u:Fe):Prop :=
 (a.kindOf x=LH .local/\m x=LH u)\/((a.kindOf x=LH .cell\/a.kindOf x=LH .free)/\∃c,a.cells.lookup x=LH c/\h.IsCell c (LH u))
structure Cx.Ok(X:Cx):Prop where
 mod:Mod X.K X.mg X.base
 kind:X.env.scope.kind=.function
 glob:X.env.globals=Ia
 blt:X.env.builtins=Im
 above:X.s₀.heap.objs.size<=X.env.locals
 inj:∀x y c,X.env.cells.lookup x=LH c->X.env.cells.lookup y=LH c->x=y
 has:∀x,(X.env.kindOf x=LH .cell\/X.env.kindOf x=LH .free)->∃c,X.env.cells.lookup x=LH c
 cab:∀x c,X.fn x=LJ->X.env.cells.lookup x=LH c->X.s₀.heap.objs.size<=c
 hd:X.calm=LJ->X.A.handled=LI
 frames:X.A.frames=LH X.stack
 stk:X.stack=X.outer\/(X.stack=X.env :: X.outer/\X.env.frame=LH X.env.locals)
 exf:∀b∈X.ex,b≠X.env.locals/\∀x c,X.env.cells.lookup x=LH c->c≠b
 bs:∀b o,X.base.get? b=LH o->X.s₀.heap.get? b=LH o/\X.H₀ b=LI
 bsz:X.base.objs.size<=X.s₀.heap.objs.size
 noex:∀b o,X.base.get? b=LH o->b ∉ X.ex
 exfs:∀b∈X.ex,b ∉ X.fs
 funs:X.s₀.heap.FunFrames X.base X.outer
 frf:∀b∈X.fs,X.H₀ b=LI
structure Inv(X:Cx)(LM:L0 (HA×Obj))(σ:L0 (Option V))(H:Hp)(s:Iq):Prop where
 ok:X.Ok
 os:s.os=X.s₀.os
 bare:AllBare s.gens
 base:Un X.fs X.ex X.H₀ H X.s₀.heap s.heap
 loc:∃m,s.heap.Ns X.env.locals m/\∀(i:Nat)(x:Str)(v:V),X.N[i]?=LH x->σ[i]?=LH (LH v)->Vis X.env.scope x->∃u,RelV v u/\Look X.env s.heap m x u
 cell:∀x c,X.env.cells.lookup x=LH c->∃v,s.heap.IsCell c v
 free:H X.env.locals=LI
 freeC:∀x c,X.env.cells.lookup x=LH c->H c=LI
 pin:∀p∈X.pn++LM,s.heap.get? p.1=LH p.2/\H p.1=LI/\p.1≠X.env.locals/\p.1 ∉ X.fs/\∀v,p.2.data≠.cell v
 hok:HOk X.prog X.w H s.heap
 len:σ.length=X.N.length
variable{X:Cx}{LM:L0 (HA×Obj)}{s:Iq}
section
variable{σ:L0 (Option V)}
theorem Cx.Ok.nofr(ok:X.Ok){b:HA}{o:Obj}(e:X.base.get? b=LH o):b ∉ X.fs:=λa=>by
 let:=(ok.funs.mem a).1;rw[e]at this;cases this
theorem Inv.bs(I:Inv X LM σ H s):∀b o,X.base.get? b=LH o->s.heap.get? b=LH o/\H b=none:=λb o e =>
 ⟨I.base.keep b o (I.ok.bs b o e).1 (I.ok.bs b o e).2 (I.ok.nofr e)<|I.ok.noex b o e,I.base.free b o (I.ok.bs b o e).1 (I.ok.bs b o e).2<|I.ok.noex b o e⟩
def Inv.bk(I:Inv X LM σ H s):∀b o,X.base.get? b=LH o->s.heap.get? b=LH o:=λb o e=>(I.bs b o e).1
theorem Inv.mod(I:Inv X LM σ H s):Mod X.K X.mg X.base:=I.ok.mod
def Inv.kIn(I:Inv X LM σ H s):X.K.In s.heap:=I.ok.mod.kin.keeps I.bk
theorem Inv.lt(I:Inv X LM σ H s):X.env.locals<↥s:=by let(_,a,_):=I.loc;calc a.lt
def Inv.sz(I:Inv X LM σ H s):X.s₀.heap.objs.size<=↥s:=xc I.ok.above<|zb I.lt
theorem Inv.nofs(I:Inv X LM σ H s){a:HA}(h:↥s<=a):a ∉ X.fs:=λc=>by
 let(_,o,b,_):=I.ok.funs.mem c;calc LP (w6 (HB.lt_size b)<|xc I.sz h)<|za _
theorem Inv.cne(I:Inv X LM σ H s):∀x c,X.env.cells.lookup x=LH c->c≠X.env.locals:=λx c e z=>by
 let(v,o,d,f):=I.cell x c e;let(m,(g,h,i,a,b,_),_):=I.loc;rw[z,a]at d;cases d;rw[b]at f;cases f
theorem Inv.funs(I:Inv X LM σ H s):s.heap.FunFrames X.base X.outer:=by
 let all:∀(l:L0 Env),(∀b∈frs l,b∈X.fs)->X.s₀.heap.FunFrames X.base l->s.heap.FunFrames X.base l:=by
  intro l;induction l with
  |nil=>intro _ _;trivial
  |cons p r g =>
   intro f k;let(m,(L,o,a,j,i,n),h):=k;let d:L∈X.fs:=f L (by unfold frs;rw[ny,a];exact dn);let(q,e):=I.base.slot L o i (I.ok.frf L d) d λz=>I.ok.exfs L z d
   exact⟨m,⟨L,_,a,j,e,n⟩,g (λb c=>f b (by unfold frs;rw[ny,a];exact fo _ c)) h⟩
 calc all X.outer (λ_ c=>c) I.ok.funs
theorem Inv.stack(I:Inv X LM σ H s):s.heap.FunFrames X.base X.stack:=by
 rcases I.ok.stk with e|⟨e,b⟩
 .rw[e];exact I.funs
 .rw[e];let(m,a,_):=I.loc;refine .cons (by rw[I.ok.kind];decide) b a ?_ I.funs;calc HB.get?_none_of_le<|xc I.ok.bsz I.ok.above
theorem Inv.stkSub(I:Inv X LM σ H s):∀b∈frs X.stack,b∈X.env.locals :: X.fs:=λb a=>by
 rcases I.ok.stk with e|⟨e,c⟩
 .rw[e]at a;exact fo _ a
 .rw[e]at a;unfold frs at a;rw[ny,c]at a;calc a
theorem Inv.stkFree(I:Inv X LM σ H s):∀b∈frs X.stack,H b=none:=λb a=>by
 rcases bL.mp (I.stkSub b a)with e|a
 .rw[e];exact I.free
 .let(_,o,c,_):=I.ok.funs.mem a;calc I.base.free b o c (I.ok.frf b a) λz=>I.ok.exfs b z a
theorem Inv.step{g':Array Iu}{t':Nat}{d':Drawn}{ch:L0 HA}(I:Inv X LM σ H s)
  (g:∀b∈ch,(b∈X.ex\/X.s₀.heap.objs.size<=b)/\b≠X.env.locals/\(∀x c,X.env.cells.lookup x=LH c->c≠b)/\∀p∈X.pn++LM,p.1≠b)
  (keep:∀b o,b≠X.env.locals->b ∉ X.fs->b ∉ ch->s.heap.get? b=LH o->H b=LI->h'.get? b=LH o)
  (slot:∀b o,b≠X.env.locals->b∈X.fs->b ∉ ch->s.heap.get? b=LH o->H b=LI->∃E,h'.get? b=LH { o with slots:=E })(free:∀b o,b ∉ ch->s.heap.get? b=LH o->H b=LI->H' b=LI)
  (there:∀b o,b ∉ ch->s.heap.get? b=LH o->∃B,h'.get? b=LH B)
  (tups:∀b xs,H b=LH (.tup xs)->H' b=LH (.tup xs))(frzs:∀b o u,H b=LH (.frz o u)->H' b=LH (.frz o u))(tbls:∀b ps,H b=LH (.tbl ps)->∃more,H' b=LH (.tbl<|ps++more))
  (ns:∀m,s.heap.Ns X.env.locals m->h'.Ns X.env.locals m)(hok:HOk X.prog X.w H' h')(Q:AllBare g') :
  Inv X LM σ H' { s with heap:=h',gens:=g',drawn:=d',toks:=t' }:=by
 let D:∀b o,X.s₀.heap.get? b=LH o->b≠X.env.locals:=λb o e=>wY<|w6 (HB.lt_size e) I.ok.above
 let t:∀b o,X.s₀.heap.get? b=LH o->b ∉ X.ex->b ∉ ch:=λb o e a y=>by
  rcases(g b y).1 with z|z
  .exact a z
  .exact LP (w6 (HB.lt_size e) z)<|za _
 let h:∀x c,X.env.cells.lookup x=LH c->∀v,s.heap.IsCell c v->h'.IsCell c v:=λx c e v ⟨o,A,F⟩=>by
  let f:c ∉ ch:=λz=>(g c z).2.2.1 x c e U
  by_cases L:c∈X.fs
  .let(E,q):=slot c o (I.cne x c e) L f A<|I.freeC x c e;exact⟨_,q,F⟩
  .exact⟨o,keep c o (I.cne x c e) L f A<|I.freeC x c e,F⟩
 refine⟨I.ok,I.os,Q,⟨λb o e n y a=>?_,λb o e n y a=>?_,λb o e n a=>?_,λb o e a=>?_,λb xs e=>tups b xs<|I.base.tups b xs e,λb o xs e=>frzs b o xs<|I.base.frzs b o xs e,λb ps e=>?_⟩,?_,λx c e=>?_,?_,λx c e=>?_,λp K=>?_,hok,I.len⟩
 .exact keep b o (D b o e) y (t b o e a) (I.base.keep b o e n y a)<|I.base.free b o e n a
 .let(E,j):=I.base.slot b o e n y a;let(G,C):=slot b _ (D b o e) y (t b o e a) j<|I.base.free b o e n a;exact⟨G,C⟩
 .let(B,j):=I.base.there b o e a;exact free b B (t b o e a) j<|I.base.free b o e n a
 .let(B,j):=I.base.there b o e a;exact there b B (t b o e a) j
 .let(N,j):=I.base.tbls b ps e;let(M,C):=tbls b _ j;exact⟨N++M,by rw[C,Array.append_assoc]⟩
 .let(m,O,P):=I.loc;calc⟨m,ns m O,λi x v j C R=>?_⟩;let(u,r,l):=P i x v j C R;calc⟨u,r,?_⟩;rcases l with l|⟨k,c,e,z⟩
  .exact .inl l
  .exact .inr ⟨k,c,e,h x c e _ z⟩
 .let(v,z):=I.cell x c e;exact⟨v,h x c e v z⟩
 .let(m,(o,_,_,A,_),_):=I.loc;exact free _ o (λz=>(g _ z).2.1 U) A I.free
 .let(v,o,A,F):=I.cell x c e;exact free c o (λz=>(g c z).2.2.1 x c e U) A<|I.freeC x c e
 .let(e,n,ne,J,d):=I.pin p K;let f:p.1 ∉ ch:=λz=>(g p.1 z).2.2.2 p K U
  calc⟨keep p.1 p.2 ne J f e n,free p.1 p.2 f e n,ne,J,d⟩
theorem Inv.un{t':Nat}(I:Inv X LM σ H s)(u:Un X.fs [] H H' s.heap h')(hok:HOk X.prog X.w H' h'):Inv X LM σ H' { s with heap:=h',toks:=t' }:=by
 let(m,(o,q,t,g,r),_):=id I.loc;let(k,j):=u.any g I.free (by simp);exact I.step (g':=s.gens) (d':=s.drawn) (ch:=[]) (λ_ z=>nomatch z) (λb o _ c _ e n=>u.keep b o e n c (by simp)) (λb o _ c _ e n=>u.slot b o e n c (by simp)) (λb o _ e n=>u.free b o e n (by simp)) (λb o _ e=>u.there b o e (by simp)) u.tups u.frzs u.tbls (λp i=>by
  let(l,d,f,a,h):=i;rw[g]at a;cases a;exact⟨_,d,f,j,h⟩) hok I.bare
theorem Inv.call{g':Array Iu}{t':Nat}{d':Drawn}{ch:L0 HA}(I:Inv X LM σ H s)(u:Un (frs X.stack) ch H H' s.heap h')(hok:HOk X.prog X.w H' h')(q:AllBare g')
  (f:∀b∈ch,(b∈X.ex\/X.s₀.heap.objs.size<=b)/\b≠X.env.locals/\(∀x c,X.env.cells.lookup x=LH c->c≠b)/\∀p∈X.pn++LM,p.1≠b) :
  Inv X LM σ H' { s with heap:=h',gens:=g',drawn:=d',toks:=t' }:=by
 let(m,(o,B,C,j,r),_):=id I.loc;let(v,g):=u.any j I.free λz=>(f _ z).2.1 U
 exact I.step (ch:=ch) f (λb o g t a e n=>u.keep b o e n (λz=>(bL.mp<|I.stkSub b z).elim g t) a) (λb o _ _ a e n=>u.any e n a) (λb o a e n=>u.free b o e n a) (λb o a e=>u.there b o e a) u.tups u.frzs u.tbls (λA l=>by
  let(y,h,i,d,k):=l;rw[j]at d;cases d;exact⟨_,h,i,g,k⟩) hok q
theorem Inv.turned{t':Nat}{it:HA}(I:Inv X LM σ H s)(k:∀b o,b≠it->s.heap.get? b=LH o->h'.get? b=LH o)(h:H it=LI)(f:it≠X.env.locals)
  (w:it∈X.ex\/X.s₀.heap.objs.size<=it)(t:∀x c,X.env.cells.lookup x=LH c->c≠it)(l:∀p∈X.pn++LM,p.1≠it):Inv X LM σ H { s with heap:=h',toks:=t' }:=by
 let d:∀b u,H b=LH u->b≠it:=λb u e z=>by rw[z,h]at e;cases e
 refine I.step (g':=s.gens) (d':=s.drawn) (ch:=[it]) (λb j=>?_) (λb o _ _ a e _=>k b o (λz=>a (by simp[z])) e) (λb o _ _ a e _=>⟨o.slots,k b o (λz=>a (by simp[z])) e⟩) (λ_ _ _ _ n=>n)
  (λb o a e=>⟨o,k b o (λz=>a (by simp[z])) e⟩) (λ_ _ e=>e) (λ_ _ _ e=>e) (λb B e=>⟨#[],by rw[e];simp⟩) (λm i=>?_) (λb u e=>?_) I.bare
 .let e:b=it:= ~~~j
  subst e;exact⟨w,f,t,l⟩
 .let(o,y,A,g,r):=i;exact⟨o,y,A,k _ o (Ne.symm f) g,r⟩
 .refine(I.hok b u e).stay (λc v a q=>k c v ?_ q) (λ_ q=>q) λ_ _ q=>q
  rcases a with z|z
  .rw[z];exact d b u e
  .exact d c _ z
def Inv.tok(I:Inv X LM σ H s)(t:Nat):Inv X LM σ H { s with toks:=t }:=I.un (h':=s.heap) (t':=t) Un.refl I.hok
theorem Inv.kept{t':Nat}(I:Inv X LM σ H s)(k:∀b u,s.heap.get? b=LH u->h'.get? b=LH u):Inv X LM σ H { s with heap:=h',toks:=t' }:=I.un (Un.kept k)<|I.hok.kept k
theorem Inv.laid{a:HA}{o:HO}{t':Nat}(I:Inv X LM σ H s)(k:∀b u,s.heap.get? b=LH u->h'.get? b=LH u)(c:↥s<=a)(new:cg X.prog X.w (upd H a o) h' a o) :
  Inv X LM σ (upd H a o) { s with heap:=h',toks:=t' }:=I.un (Un.laid k c<|I.hok.fresh c)<|I.hok.laid k c new
theorem Inv.write{x e:HA}{o:HO}{t':Nat}(I:Inv X LM σ H s)(c:Mut (H x))(d:e=x\/H e=LH (.own x))(k:∀b u,b≠e->s.heap.get? b=LH u->h'.get? b=LH u)(a:∃u,h'.get? e=LH u)
  (new:cg X.prog X.w (upd H x o) h' x o):Inv X LM σ (upd H x o) { s with heap:=h',toks:=t' }:=I.un (Un.write c d k a)<|I.hok.write c d k a new
def Inv.pins_of{a:L0 (HA×Obj)}(I:Inv X LM σ H s)(h:∀p∈a,s.heap.get? p.1=LH p.2/\H p.1=LI/\p.1≠X.env.locals/\p.1 ∉ X.fs/\∀v,p.2.data≠.cell v):Inv X a σ H s :=
 ⟨I.ok,I.os,I.bare,I.base,I.loc,I.cell,I.free,I.freeC,λp b=>(hZ.mp b).elim (λz=>I.pin p<|jJ _ z)<|h p,I.hok,I.len⟩
theorem gF{N:L0 Str}(c:N.Nodup){i j:Nat}{x:Str}(a:N[i]?=LH x)(b:N[j]?=LH x):i=j:=by
 let(g,e):=Ik.mp a;let(f,d):=Ik.mp b;calc(vr c).mp (e.trans d.symm)
theorem km{M:Iv}{A:Ip}{E:Fe->Iq->Prop}{i:Nat}{x:Str}{v:V}{u:Fe}{Q:Unit->Iq->Prop}(I:Inv X LM σ H s)(hN:X.N.Nodup)(hi:X.N[i]?=LH x)(B:Loc X.env.scope x)(r:RelV v u)
  (h:∀s',Inv X LM (σ.set i<|LH v) H s'->(∃a,HB.SameBut a s.heap s'.heap/\(a=X.env.locals\/X.env.cells.lookup x=LH a))->Q () s')(hf:X.fn x=LJ\/X.env.scope.names.lookup x=LH .local:=by first|exact .inl U|exact .inr U|assumption):Iw M A (Iy X.env x u) Q E s:=by
 let(m,hn,hl):=id I.loc;let BA:(X.env.scope.kind == .class || (X.env.scope.kind == .module && X.env.locals != X.env.globals))=false:=by rw[I.ok.kind];rfl
 let F:i<σ.length:=by rw[I.len];exact(Ik.mp hi).1
 let cne:=I.cne;let l:∀{a:HA}{h':HB},(∃o,s.heap.get? a=LH o/\H a=LI)->HB.SameBut a s.heap h'->HOk X.prog X.w H h':=λ{a h'} ha f b ob e=>by
  let(_,_,uC):=ha;refine(I.hok b ob e).stay (λc R t q=>(f.2 c ?_).trans q) (λ_ q=>q) λ_ _ q=>q
  rintro rfl;rcases t with rfl|t
  .rw[uC]at e;cases e
  .rw[uC]at t;cases t
 rcases B with D|D
 .refine wpAny_storeName_local D hn (λh' a1 f=>?_) BA;let(oL,_,_,a0,_):=id hn;refine h _ ⟨I.ok,I.os,I.bare,⟨λb o e n J B=>?_,λb o e n J B=>?_,I.base.free,λb o e B=>?_,I.base.tups,I.base.frzs,I.base.tbls⟩,⟨_,a1,λj y T g C e3=>?_⟩,λy c e=>?_,I.free,I.freeC,λp hp=>?_,l ⟨oL,a0,I.free⟩ f,~~~I.len⟩ ⟨_,f,.inl U⟩
  .exact(f.2 b<|wY<|w6 (HB.lt_size e) I.ok.above).trans (I.base.keep b o e n J B)
  .let(Y,g):=I.base.slot b o e n J B;exact⟨Y,(f.2 b<|wY<|w6 (HB.lt_size e) I.ok.above).trans g⟩
  .let(o',g):=I.base.there b o e B;exact⟨o',(f.2 b<|wY<|w6 (HB.lt_size e) I.ok.above).trans g⟩
  .by_cases G:j=i
   .subst G;rw[hi]at g;cases g;rw[pa F]at C;cases C;exact⟨u,r,.inl ⟨D,by simp⟩⟩
   .rw[List.getElem?_set_ne (Ne.symm G)]at C;let(W,Z,q):=hl j y T g C e3;calc⟨W,Z,?_⟩;rcases q with⟨k,e⟩|⟨k,c,e,z⟩
    .refine .inl ⟨k,?_⟩;let:y≠x:=λe=>G<|gF hN g<|e ▸ hi
     simp[this,e]
    .exact .inr ⟨k,c,e,z.sameBut f<|cne y c e⟩
  .let(R,z):=I.cell y c e;exact⟨R,z.sameBut f<|cne y c e⟩
  .let(e,n,ne,nf,d):=I.pin p hp;exact⟨(f.2 p.1 ne).trans e,n,ne,nf,d⟩
 .let K:X.fn x=true:=by
   rcases hf with z|z
   .exact z
   .rw[z]at D;cases D
  let(c,t):=I.ok.has x<|.inl D;let(R,z):=I.cell x c t;calc wpAny_storeName_cell I.ok.kind D t z<|λh' P f=>?_;let(oc,L,EE):=id z;refine h { s with heap:=h' } ⟨I.ok,I.os,I.bare,⟨λb o e n J B=>?_,λb o e n J B=>?_,I.base.free,λb o e B=>?_,I.base.tups,I.base.frzs,I.base.tbls⟩,⟨m,hn.sameBut f<|Ne.symm<|cne x c t,λj y T g C e3=>?_⟩,λy S e=>?_,I.free,I.freeC,λp hp=>?_,l ⟨oc,L,I.freeC x c t⟩ f,~~~I.len⟩ ⟨c,f,.inr t⟩
  .exact(f.2 b<|wY<|w6 (HB.lt_size e)<|I.ok.cab x c K t).trans (I.base.keep b o e n J B)
  .let(Y,g):=I.base.slot b o e n J B;exact⟨Y,(f.2 b<|wY<|w6 (HB.lt_size e)<|I.ok.cab x c K t).trans g⟩
  .let(o',g):=I.base.there b o e B;exact⟨o',(f.2 b<|wY<|w6 (HB.lt_size e)<|I.ok.cab x c K t).trans g⟩
  .by_cases G:j=i
   .subst G;rw[hi]at g;cases g;rw[pa F]at C;cases C;exact⟨u,r,.inr ⟨.inl D,c,t,P⟩⟩
   .rw[List.getElem?_set_ne (Ne.symm G)]at C;let(W,Z,q):=hl j y T g C e3;calc⟨W,Z,?_⟩;rcases q with q|⟨k,S,e,z'⟩
    .exact .inl q
    .refine .inr ⟨k,S,e,z'.sameBut f ?_⟩;rintro rfl;exact G<|gF hN g<|I.ok.inj _ _ _ e t ▸ hi
  .by_cases O:S=c
   .subst O;exact⟨_,P⟩
   .let(w2,z2):=I.cell y S e;exact⟨w2,z2.sameBut f O⟩
  .let(e,n,ne,nf,d):=I.pin p hp;calc⟨(f.2 p.1 ?_).trans e,n,ne,nf,d⟩;intro q;rw[q,L]at e;let q':oc=p.2:=Option.some.inj e;calc d R (by rw[←q'];exact EE)
theorem fK{M:Iv}{A:Ip}{E:Fe->Iq->Prop}{i:Nat}{x:Str}{v:V}{u:Fe}{Q:Unit->Iq->Prop}(I:Inv X LM σ H s)(c:X.N.Nodup)(hi:X.N[i]?=LH x)(a:Loc X.env.scope x)(r:RelV v u)
  (h:∀s',Inv X LM (σ.set i<|LH v) H s'->Q () s')(b:X.fn x=LJ\/X.env.scope.names.lookup x=LH .local:=by first|exact .inl U|exact .inr U|assumption):Iw M A (Iy X.env x u) Q E s :=
 km I c hi a r (λs' d _=>h s' d) b
theorem Inv.call'{s':Iq}{ch:L0 HA}(I:Inv X LM σ H s)(f:s'.os=s.os)(u:Un (frs X.stack) ch H H' s.heap s'.heap)(hok:HOk X.prog X.w H' s'.heap)(g:AllBare s'.gens)
  (a:∀b∈ch,(b∈X.ex\/X.s₀.heap.objs.size<=b)/\b≠X.env.locals/\(∀x c,X.env.cells.lookup x=LH c->c≠b)/\∀p∈X.pn++LM,p.1≠b):Inv X LM σ H' s':=by
 let(h',g',d',t',d):=s';let e:d=s.os:=f;subst e;calc I.call (g':=g') (t':=t') (d':=d') u hok g a
end
abbrev XK:=Fe->Option HA->Hp->Prop
abbrev St:=List<|Option V
abbrev VK:=V->Hp->Prop
abbrev TE:=St->Hp->VK->Prop
abbrev TT:=St->Hp->(Bool->Hp->Prop)->Prop
abbrev TA:=St->Hp->(L0 V->Hp->Prop)->Prop
structure Ends where
 nx:St->Hp->Prop
 rt:VK
 bk:St->Hp->Prop:=λ_ _=>False
 ct:St->Hp->Prop:=λ_ _=>False
abbrev TS:=Ends->St->Hp->Prop
def EP(X:Cx)(LM:L0 (HA×Obj))(a:St)(Q:VK)(u:Fe)(s':Iq):Prop:=∃v H',Inv X LM a H' s'/\RelV v u/\Q v H'
def TP(X:Cx)(LM:L0 (HA×Obj))(a:St)(Q:Bool->Hp->Prop)(b:Bool)(s':Iq):Prop:=∃H',Inv X LM a H' s'/\Q b H'
def AP(X:Cx)(LM:L0 (HA×Obj))(b:St)(Q:L0 V->Hp->Prop)(us:L0 Fe)(s':Iq):Prop:=∃a H',Inv X LM b H' s'/\Vals a us/\Q a H'
def SP(X:Cx)(LM:L0 (HA×Obj))(D:Ends)(f:Flow)(s':Iq):Prop :=
 match f with
 | .next=>∃a H',Inv X LM a H' s'/\D.nx a H'
 | .brk=>∃a H',Inv X LM a H' s'/\D.bk a H'
 | .cont=>∃a H',Inv X LM a H' s'/\D.ct a H'
 | .ret u=>∃v a H',Inv X LM a H' s'/\RelV v u/\D.rt v H'
def PE(X:Cx)(e:Iz)(t:TE):Prop :=
 ∀(LM:L0 (HA×Obj))(s:Iq)(a:St)(H:Hp)(Q:VK),Inv X LM a H s->t a H Q->Iw (model X.prog X.w) X.A (eval e X.env) (EP X LM a Q) X.xe s
def PT(X:Cx)(e:Iz)(t:TT):Prop :=
 ∀(LM:L0 (HA×Obj))(s:Iq)(a:St)(H:Hp)(Q:Bool->Hp->Prop),Inv X LM a H s->t a H Q->Iw (model X.prog X.w) X.A (IA e X.env<|eval e X.env) (TP X LM a Q) X.xe s
def PW(X:Cx)(e:Iz)(t:TT):Prop :=
 ∀(a:Sem Fe)(LM:L0 (HA×Obj))(s:Iq)(b:St)(H:Hp)(Q:Bool->Hp->Prop),Inv X LM b H s->t b H Q->Iw (model X.prog X.w) X.A (IA e X.env a) (TP X LM b Q) X.xe s
def PW.pt{X:Cx}{e:Iz}{t:TT}(h:PW X e t):PT X e t:=h _
def PA(X:Cx)(c:L0 Iz)(t:TA):Prop :=
 ∀(b:Pos)(LM:L0 (HA×Obj))(s:Iq)(a:St)(H:Hp)(Q:L0 V->Hp->Prop),Inv X LM a H s->t a H Q->Iw (model X.prog X.w) X.A (spliced<|IB b<|IC c X.env) (AP X LM a Q) X.xe s
def PS(X:Cx)(st:ID)(t:TS):Prop :=
 ∀(LM:L0 (HA×Obj))(s:Iq)(a:St)(H:Hp)(D:Ends),Inv X LM a H s->t D a H->Iw (model X.prog X.w) X.A (exec st X.env) (SP X LM D) X.xe s
def PSs(X:Cx)(st:L0 ID)(t:TS):Prop :=
 ∀(LM:L0 (HA×Obj))(s:Iq)(a:St)(H:Hp)(D:Ends),Inv X LM a H s->t D a H->Iw (model X.prog X.w) X.A (execs st X.env) (SP X LM D) X.xe s
def thn{b:Type}{t:Sem b}{Q c:b->Iq->Prop}{M:Iv}{A:Ip}{E:Fe->Iq->Prop}{s:Iq}(h:Iw M A t Q E s)(d:∀a s,Q a s->c a s):Iw M A t c E s:=IE h d λ_ _ x=>x
variable{ta tb:TE}{pos:Pos}
section
inductive BB(i:Nat)(σ:St)(H:Hp)(Q:VK):Prop
 |mk (v:_)(_:σ[i]?=LH (LH v))(_:Q v H)
def tC(v:V):TE:=λ_ H Q=>Q v H
theorem xf{i:Nat}{x:Str}{pos:Pos}(q:X.N[i]?=LH x)(k:Vis X.env.scope x)(b:(x == ("__debug__" : Str))=false:=by decide) (d:(x == ("__classdict__" : Str))=false:=by decide):PE X (.Name x pos) (BB i):=by
 intro LM s j H Q I h;let(v,e,h):=h;let(m,n,p):=I.loc;let(u,r,l):=p i x v q e k;let fin:EP X LM j Q u s:=⟨v,H,I,r,h⟩;rcases l with⟨a,o⟩|⟨a,c,g,f⟩
 .exact IF (IG I.ok.kind a n o fin) b
 .rcases a with a|a
  .exact IF (IH I.ok.kind a g f fin) b
  .exact IF (wpAny_loadName_free I.ok.kind a g f fin d) b
def ao{i j pos}:PE X (.Constant (.int i) j pos) (tC<|.int i):=λ_ _ _ H _ I h=>wpAny_Constant_int ⟨.int i,H,I.tok _,⟨_,U⟩,h⟩
def fL{b j pos}:PE X (.Constant (.bool b) j pos) (tC<|.bl b):=λ_ _ _ H _ I h=>Constant_bool ⟨.bl b,H,I,U,h⟩
def fX{j pos}:PE X (.Constant .none j pos) (tC .non):=λ_ _ _ H _ I h=>Constant_none ⟨.non,H,I,U,h⟩
def aL{x j pos}:PE X (.Constant (.str x) j pos) (tC<|.str x):=λ_ _ _ H _ I h=>Calls.Constant_str ⟨.str x,H,I.tok _,⟨_,U⟩,h⟩
def Gl(X:Cx)(x:Str):Prop:=X.env.kindOf x=LH .globalImplicit
theorem cY{E:Fe->Iq->Prop}{LM:L0 (HA×Obj)}{s:Iq}{a:St}{H:Hp}{x:Str}{u:Fe}{pos:Pos}{Q:Fe->Iq->Prop}(I:Inv X LM a H s)(c:Gl X x)(b:X.mg x=LH u)(h:Q u s)
  (hd:(x == ("__debug__" : Str))=false:=by decide):Iw (model X.prog X.w) X.A (eval (.Name x pos) X.env) Q E s :=
 Calls.Name_function_global I.ok.kind c (Calls.loadGlobal_global (by rw[I.ok.glob];exact I.mod.glob.keeps I.bk) b h) hd
theorem dY{E:Fe->Iq->Prop}{LM:L0 (HA×Obj)}{s:Iq}{a:St}{H:Hp}{x:Str}{u:Fe}{pos:Pos}{Q:Fe->Iq->Prop}(I:Inv X LM a H s)(e:Gl X x)(d:X.mg x=LI)(b:Io x=LH u)(h:Q u s)
  (c:x ≠ "__name__" := by decide) (hd:(x == ("__debug__" : Str))=false:=by decide):Iw (model X.prog X.w) X.A (eval (.Name x pos) X.env) Q E s:=by
 let(i,g,f):=I.mod.blt;calc Calls.Name_function_global I.ok.kind e (Calls.loadGlobal_builtin (by rw[I.ok.glob];exact I.mod.glob.keeps I.bk) d (by rw[I.ok.blt];exact g.keeps I.bk) ((f x c).trans b) h) hd
theorem cj{x:Str}{v:V}{u:Fe}{pos:Pos}(b:Gl X x)(a:X.mg x=LH u)(r:RelV v u)(c:(x == ("__debug__" : Str))=false:=by decide):PE X (.Name x pos) (tC v) :=
 λ_ _ _ H _ I h=>cY I b a ⟨v,H,I,r,h⟩ c
theorem fY{x:Str}{v:V}{u:Fe}{pos:Pos}(d:Gl X x)(c:X.mg x=LI)(a:Io x=LH u)(r:RelV v u)(b:x ≠ "__name__" := by decide) (hd:(x == ("__debug__" : Str))=false:=by decide):PE X (.Name x pos) (tC v) :=
 λ_ _ _ H _ I h=>dY I d c a ⟨v,H,I,r,h⟩ b hd
variable{a b:Iz}
inductive tBq  (Q:Bool->Hp->Prop)(x:V)(H1:Hp):Prop
 |mk (c:_)(_:x=.bl c)(_:Q c H1):tBq Q x H1
def tB(t:TE):TT:=λa H Q=>t a H λx b=>tBq Q x b
theorem ck{e:Iz}{t:TE}(h:PE X e t)(i:∀a,IA e X.env a=(do let v ←a;II e.pos;holding [v] (truthy v)):=by intro _;rfl):PT X e (tB t):=by
 intro LM s b H Q I g;calc isTrue_plain (thn (h LM s b H _ I g) λv l ⟨x,k,j,c,f⟩=>?_)<|i _;let(d,rfl,q):=f;cases c;calc IJ ⟨k,j,q⟩
variable{tA tB':TT}{rest:L0 Iz}
def EF(t u:TT):TT:=λa H Q=>t a H λc b=>if c=LJ then u a b Q else Q LK b
def tOr(t u:TT):TT:=λa H Q=>t a H λc b=>if c=LJ then Q LJ b else u a b Q
def EG(t:TT):TT:=λa H Q=>t a H λc b=>Q (!c) b
theorem fi(d:PT X a tA):PW X (.BoolOp .And [a] pos) tA:=by
 intro f LM s b H Q I h;calc isTrue_and<|thn (d LM s b H Q I h) λc g e=>?_;cases c with
 |true=>exact isTrue_and_nil e
 |false=>calc e
theorem xg(d:PT X a tA):PW X (.BoolOp .Or [a] pos) tA:=by
 intro f LM s b H Q I h;calc isTrue_or<|thn (d LM s b H Q I h) λc g e=>?_;cases c with
 |false=>exact isTrue_or_nil e
 |true=>calc e
theorem fB(l:PT X a tA)(k:PW X (.BoolOp .And (b :: rest) pos) tB'):PW X (.BoolOp .And (a :: b :: rest) pos) (EF tA tB'):=by
 intro i LM s d H Q I h;calc isTrue_and<|thn (l LM s d H _ I h) λc j ⟨g,f,e⟩=>?_;cases c with
 |true=>exact k i LM j d g Q f e
 |false=>calc⟨g,f,e⟩
theorem xh(l:PT X a tA)(k:PW X (.BoolOp .Or (b :: rest) pos) tB'):PW X (.BoolOp .Or (a :: b :: rest) pos) (tOr tA tB'):=by
 intro i LM s d H Q I h;calc isTrue_or<|thn (l LM s d H _ I h) λc j ⟨g,f,e⟩=>?_;cases c with
 |true=>exact⟨g,f,e⟩
 |false=>calc k i LM j d g Q f e
theorem cB(d:PT X a tA):PT X (.UnaryOp .Not a pos) (EG tA):=by
 intro LM s b H Q I h;calc isTrue_not<|d LM s b H (λc e=>Q (!c) e) I h
inductive xi(tb:TE)(σ:St)(Q:VK)(x:V)(H1:Hp):Prop
 |mk (c:_)(_:x=.bl c)(_:if c=LJ then tb σ H1 Q else Q (.bl LK) H1)
def C9(ta tb:TE):TE:=λa H Q=>ta a H λx b=>xi tb a Q x b
inductive xj  (Q:VK)(x:V)(H1:Hp):Prop
 |mk (c:_)(_:x=.bl c)(_:Q (.bl<|!c) H1):xj Q x H1
def Dc(ta:TE):TE:=λa H Q=>ta a H λx b=>xj Q x b
def kn{op} {t:TE}(h:PE X a t):PE X (.BoolOp op [a] pos) t:=λLM s b H Q I c=>BoolOp_one<|h LM s b H Q I c
theorem gG(l:PE X a ta)(k:PE X (.BoolOp .And (b :: rest) pos) tb):PE X (.BoolOp .And (a :: b :: rest) pos) (C9 ta tb):=by
 intro LM s e H Q I h;calc BoolOp_and<|thn (l LM s e H _ I h) λv i ⟨x,g,f,j,d⟩=>?_;let(c,rfl,d):=d;cases j;calc IJ ?_;cases c with
 |true=>exact k LM i e g Q f d
 |false=>calc⟨.bl LK,g,f,U,d⟩
theorem xk(f:PE X a ta):PE X (.UnaryOp .Not a pos) (Dc ta):=by
 intro LM s d H Q I h;calc UnaryOp_<|thn (f LM s d H _ I h) λv j ⟨x,i,g,e,b⟩=>?_;let(c,rfl,b):=b;cases e;calc not_of<|IJ ⟨.bl<|!c,i,g,U,b⟩
def tIf(t:TT)(ta tb:TE):TE:=λa H Q=>t a H λc b=>if c=LJ then ta a b Q else tb a b Q
theorem qh{c:Iz}(k:PT X c tA)(m:PE X a ta)(l:PE X b tb):PE X (.IfExp c a b pos) (tIf tA ta tb):=by
 intro LM s e H Q I h;calc wpAny_IfExp<|thn (k LM s e H _ I h) λd f ⟨j,i,g⟩=>?_;cases d with
 |true=>exact m LM f e j Q i g
 |false=>calc l LM f e j Q i g
end
def SqL(K:W.Frag)(H:Hp)(a:HA)(xs:L0 V):Prop :=
 Rd H a (.lst xs) \/
  ∃(o:Obj)(b:Array Fe)(n:Nat),K.lookup a=LH o/\o.cls=.type "list" /\ o.dict=LI/\o.data=.seq b n/\b.size<=HL/\Vals xs b.toList
def SqT(K:W.Frag)(H:Hp)(a:HA)(xs:L0 V):Prop :=
 Rd H a (.tup xs) \/
  ∃(o:Obj)(b:Array Fe)(n:Nat),K.lookup a=LH o/\o.cls=.type "tuple" /\ o.data=.seq b n/\b.size<=HL/\Vals xs b.toList
def EH:Fe->Option V
 | .none=>LH .non
 | .bool b=>LH<|.bl b
 | .int i _=>LH<|.int i
 | .str x _=>LH<|.str x
 | .bytes b _=>LH<|.byt b
 | .float b _=>LH<|.flt b
 | .ref a=>LH<|.ref a
 | .type n=>LH<|.ty n
 |_=>LI
theorem RelV.abs{x:V}{u:Fe}(r:RelV x u):EH u=LH x:=by
 cases x with
 |non=>cases r;rfl
 |bl _=>cases r;rfl
 |int _=>obtain⟨t,rfl⟩:=r;rfl
 |str _=>obtain⟨t,rfl⟩:=r;rfl
 |byt _=>obtain⟨t,rfl⟩:=r;rfl
 |flt _=>obtain⟨t,rfl⟩:=r;rfl
 |ref _=>cases r;rfl
 |ty _=>cases r;rfl
theorem RelV.inj{x y:V}{u:Fe}(r:RelV x u)(q:RelV y u):x=y:=Option.some.inj<|r.abs.symm.trans q.abs
theorem Vals.inj:∀{xs ys:L0 V}{us:L0 Fe},Vals xs us->Vals ys us->xs=ys
 |_,_,_,.nil,.nil=>rfl
 |_,_,_,.cons r t,.cons r' t'=>by rw[r.inj r',Vals.inj t t']
variable{σ:St}
section
variable{xs ys:L0 V}
def SqL.of{K:W.Frag}(h:H a=LH (.lst xs)):SqL K H a xs:=.inl<|.inl h
def SqT.of{K:W.Frag}(h:H a=LH (.tup xs)):SqT K H a xs:=.inl<|.inl h
theorem Inv.list(I:Inv X LM σ H s)(h:SqL X.K H a xs):∃b:L0 Fe,Vals xs b/\PlainL s.heap a b.toArray/\⇑xs<=HL:=by
 rcases h with h|⟨o,b,n,d,g,f,c,i,r⟩
 .let(z,b,n,r,e):=h.ok I.hok;exact⟨b,r,⟨_,n,e,U,U,U⟩,z⟩
 .refine⟨b.toList,r,⟨o,n,I.kIn a o d,g,f,~~~c⟩,?_⟩;let e:=⇑r;simp only[A8]at e;lia
theorem Inv.tuple(I:Inv X LM σ H s)(h:SqT X.K H a xs):∃b:L0 Fe,Vals xs b/\IsTup s.heap a b.toArray/\⇑xs<=HL:=by
 rcases h with h|⟨o,b,n,d,f,c,g,r⟩
 .let(z,b,r,p):=h.ok I.hok;exact⟨b,r,p,z⟩
 .refine⟨b.toList,r,⟨o,I.kIn a o d,f,n,~~~c⟩,?_⟩;let e:=⇑r;simp only[A8]at e;lia
theorem Inv.list_inj(I:Inv X LM σ H s)(h:SqL X.K H a xs)(h':SqL X.K H a ys):xs=ys:=by
 let(c,r,(o,n,e,_,_,d),_):=I.list h;let(b,i,(k,l,f,_,_,g),_):=I.list h';rw[e]at f;cases f;rw[d]at g;injection g with j _;let:c=b:= ~~~LU Array.toList j
 subst this;calc r.inj i
theorem Inv.tuple_inj(I:Inv X LM σ H s)(h:SqT X.K H a xs)(h':SqT X.K H a ys):xs=ys:=by
 let(c,r,(o,e,_,n,d),_):=I.tuple h;let(b,i,(k,f,_,l,g),_):=I.tuple h';rw[e]at f;cases f;rw[d]at g;injection g with j _;let:c=b:= ~~~LU Array.toList j
 subst this;calc r.inj i
end
abbrev Cx.wish(X:Cx)(E:Fe->Iq->Prop):Cx:={ X with xe:=E }
abbrev Cx.nox(X:Cx):Cx:=X.wish λ_ _=>False
theorem Cx.Ok.wish{X:Cx}(ok:X.Ok)(E:Fe->Iq->Prop):(X.wish E).Ok :=
 ⟨ok.mod,ok.kind,ok.glob,ok.blt,ok.above,ok.inj,ok.has,ok.cab,ok.hd,ok.frames,ok.stk,ok.exf,ok.bs,ok.bsz,ok.noex,ok.exfs,ok.funs,ok.frf⟩
def Cx.Ok.unwish{X:Cx}{E:Fe->Iq->Prop}(ok:(X.wish E).Ok):X.Ok :=
 ⟨ok.mod,ok.kind,ok.glob,ok.blt,ok.above,ok.inj,ok.has,ok.cab,ok.hd,ok.frames,ok.stk,ok.exf,ok.bs,ok.bsz,ok.noex,ok.exfs,ok.funs,ok.frf⟩
variable{E:Fe->Iq->Prop}
theorem Inv.wish(I:Inv X LM σ H s)(E:Fe->Iq->Prop):Inv (X.wish E) LM σ H s:=⟨I.ok.wish E,I.os,I.bare,I.base,I.loc,I.cell,I.free,I.freeC,I.pin,I.hok,I.len⟩
theorem Inv.unwish(I:Inv (X.wish E) LM σ H s):Inv X LM σ H s:=⟨I.ok.unwish,I.os,I.bare,I.base,I.loc,I.cell,I.free,I.freeC,I.pin,I.hok,I.len⟩
theorem SP.unwish{D:Ends}{f:Flow}{s':Iq}(h:SP (X.wish E) LM D f s'):SP X LM D f s':=by
 cases f with
 |next=>obtain⟨a,H',I,q⟩:=h;exact⟨a,H',I.unwish,q⟩
 |brk=>obtain⟨a,H',I,q⟩:=h;exact⟨a,H',I.unwish,q⟩
 |cont=>obtain⟨a,H',I,q⟩:=h;exact⟨a,H',I.unwish,q⟩
 |ret u=>obtain⟨v,a,H',I,r,q⟩:=h;calc⟨v,a,H',I.unwish,r,q⟩
theorem PE.nox{e:Iz}{t:TE}(h:PE X.nox e t):PE X e t:=λLM s σ H Q I a =>
 IE (h LM s σ H Q (I.wish _) a) (λ_ _ ⟨v,H',b,r,q⟩=>⟨v,H',b.unwish,r,q⟩) λ_ _ z=>False.elim z
theorem PSs.nox{st:L0 ID}{t:TS}(h:PSs X.nox st t):PSs X st t:=λLM s σ H D I a =>
 IE (h LM s σ H D (I.wish _) a) (λ_ _ q=>q.unwish) λ_ _ z=>False.elim z
variable{e:Iz}{te:TE}
section
variable{st:ID}{rest:L0 ID}{t u:TS}
def Dd:TS:=λD σ H=>D.nx σ H
def bp(t u:TS):TS:=λD σ H=>t { D with nx:=u D } σ H
def aE:PSs X [] Dd:=λ_ _ σ H _ I h=>IK ⟨σ,H,I,h⟩
theorem ar(d:PS X st t)(c:PSs X rest u):PSs X (st :: rest) (bp t u):=by
 intro LM s σ H D I h;calc IL<|thn (d LM s σ H { D with nx:=u D } I h) λf b q=>?_;cases f with
 |next =>
  let(a,H',e,q):=q;exact c LM b a H' D e q
 |ret v=>exact q
 |brk=>exact q
 |cont=>calc q
theorem ai(a:PS X st t):PSs X [st] t:=by
 intro LM s σ H D I h;calc IL<|thn (a LM s σ H D I h) λf b q=>?_;cases f with
 |next=>exact IK q
 |ret v=>exact q
 |brk=>exact q
 |cont=>calc q
theorem Inv.quiet{LM:L0 (HA×Obj)}{σ:St}{H:Hp}{s:Iq}(I:Inv X LM σ H s):interactive X.env=false:=by simp[interactive,I.ok.kind]
def De(te:TE):TS:=λD σ H=>te σ H λ_ a=>D.nx σ a
theorem bB(c:PE X e te)(b:IM e LI pos.line X.env=pure false:=by rfl):PS X (.Expr e pos) (De te):=by
 intro LM s σ H D I h;calc wpAny_Expr_any (thn (c LM s σ H _ I h) λv g ⟨x,f,d,i,a⟩=>⟨σ,f,d,a⟩) I.quiet b
def EI(te:TE):TS:=λD σ H=>te σ H D.rt
theorem au(c:PE X e te):PS X (.Return (LH e) pos) (EI te):=by
 intro LM s σ H D I h;calc wpAny_Return_some<|thn (c LM s σ H _ I h) λv g ⟨x,f,d,a,b⟩=>⟨x,σ,f,d,a,b⟩
def EJ(c:TT)(t u:TS):TS:=λD σ H=>c σ H λb a=>if b=LJ then t D σ a else u D σ a
theorem aS{c:Iz}{a b:L0 ID}{e:TT}(k:PT X c e)(m:PSs X a t)(l:PSs X b u):PS X (.If c a b pos) (EJ e t u):=by
 intro LM s σ H D I h;calc wpAny_If<|thn (k LM s σ H _ I h) λd f ⟨j,i,g⟩=>?_;cases d with
 |true=>exact m LM f σ j D i g
 |false=>calc l LM f σ j D i g
def BC:TS:=λ_ _ _=>False
def dQ:PS X st BC:=λ_ _ _ _ _ _ h=>h.elim
end
abbrev TG:=V->St->Hp->(St->Hp->Prop)->Prop
abbrev TGs:=L0 V->St->Hp->(St->Hp->Prop)->Prop
def PG(X:Cx)(a:Iz)(t:TG):Prop :=
 ∀(LM:L0 (HA×Obj))(s:Iq)(σ:St)(H:Hp)(v:V)(u:Fe)(Q:St->Hp->Prop),Inv X LM σ H s->RelV v u->t v σ H Q ->
  Iw (model X.prog X.w) X.A (assign a X.env u) (λ_ c=>∃b H',Inv X LM b H' c/\Q b H') X.xe s
def PGs(X:Cx)(ts:L0 Iz)(t:TGs):Prop :=
 ∀(LM:L0 (HA×Obj))(s:Iq)(σ:St)(H:Hp)(b:L0 V)(c:L0 Fe)(Q:St->Hp->Prop),Inv X LM σ H s->Vals b c->t b σ H Q ->
  Iw (model X.prog X.w) X.A (assignInOrder ((IP ts X.env).map (·.2)) c) (λ_ d=>∃a H',Inv X LM a H' d/\Q a H') X.xe s
abbrev BD:=V->V->V->Hp->(Hp->Prop)->Prop
def Df(X:Cx)(t:BD):Prop :=
 ∀(LM:L0 (HA×Obj))(s:Iq)(σ:St)(H:Hp)(o i v:V)(a b u:Fe)(Q:Hp->Prop),Inv X LM σ H s->RelV o a->RelV i b->RelV v u->t o i v H Q ->
  Iw (model X.prog X.w) X.A (setItem a b u) (λ_ c=>∃H',Inv X LM σ H' c/\Q H') X.xe s
abbrev TIp:=V->V->Hp->VK->Prop
def PIp(X:Cx)(a:IQ)(t:TIp):Prop :=
 ∀(LM:L0 (HA×Obj))(s:Iq)(σ:St)(H:Hp)(x y:V)(v u:Fe)(Q:VK),Inv X LM σ H s->RelV x v->RelV y u->t x y H Q ->
  Iw (model X.prog X.w) X.A (inplaceOp a v u) (EP X LM σ Q) X.xe s
def ox(i:Nat):TG:=λv σ H Q=>Q (σ.set i<|LH v) H
theorem aw{i:Nat}{x:Str}(c:X.N.Nodup)(hi:X.N[i]?=LH x)(a:Loc X.env.scope x)(b:X.fn x=LJ\/X.env.scope.names.lookup x=LH .local:=by first|exact .inl U|exact .inr U|assumption):PG X (.Name x pos) (ox i):=by
 intro LM s σ H v u Q I r h;calc IS<|fK I c hi a r (λe d=>⟨_,H,d,h⟩) b
def EK:TGs:=λa σ H Q=>a=[]/\Q σ H
def Dg(t:TG)(u:TGs):TGs:=λb σ H Q=>∃v r,b=v :: r/\t v σ H λa H'=>u r a H' Q
theorem bq:PGs X [] EK:=by
 intro LM s σ H a b Q I r h;let(e,h):=h;subst e;cases r;calc assignInOrder_nil ⟨σ,H,I,h⟩
theorem ax{e:Iz}{a:L0 Iz}{t:TG}{u:TGs}(j:PG X e t)(i:PGs X a u)
  (g:(IP (e :: a) X.env).map (·.2)=assign e X.env :: (IP a X.env).map (·.2):=by rfl):PGs X (e :: a) (Dg t u):=by
 intro LM s σ H n p Q I r h;let(v,o,k,h):=h;subst k;cases r with
 |cons r d =>
  rw[g];calc assignInOrder_cons<|thn (j LM s σ H _ _ _ I r h) λ_ c ⟨b,m,l,f⟩=>?_;calc i LM c b m _ _ Q l d f
def Dh(K:W.Frag)(n:Nat)(t:TGs):TG:=λv σ H Q=>∃a b,v=.ref a/\SqT K H a b/\⇑b=n/\t b σ H Q
theorem cZ{c:L0 Iz}{k:Nat}{t:TGs}{n:Nat}(w:X.calm=LJ)(h:PGs X c t)
  (p:⇑(IP c X.env)=n:=by rfl)(f:(IP c X.env).findIdx? (·.1)=none:=by rfl):PG X (.Tuple c k pos) (Dh X.K n t):=by
 intro LM s σ H v u Q I r d;let(a,i,x,m,q,d):=d;subst x;cases r;let(z,g,l,A):=I.tuple m;refine assign_Tuple_tuple (I.ok.hd w) l (by simp[p,←q,⇑g]) f λh' j=>?_
 let y:Inv X LM σ H { s with heap:=h' }:=I.kept (t':=s.toks) λb o e=>j b o (wY<|HB.lt_size e) e
 calc h LM _ σ H i _ Q y (~~~g) d
def EL(to ti:TE)(t:BD):TG:=λv σ H Q=>to σ H λo c=>ti σ c λi b=>t o i v b λa=>Q σ a
theorem pA{o i:Iz}{to ti:TE}{t:BD}(l:PE X o to)(hi:PE X i ti)(k:Df X t)
  (m:∀v,assign (.Subscript o i pos) X.env v=(do
   let a ←holding [v] (eval o X.env)
   let b ←holding [v,a] (eval i X.env)
   II pos
   holding [v,a,b] (setItem a b v)
   release [v,a,b] []):=by intro _;rfl):PG X (.Subscript o i pos) (EL to ti t):=by
 intro LM s σ H v u Q I r h;rw[m];calc E2<|Fc<|thn (l LM s σ H _ I h) λa c ⟨x,A,q,e,j⟩=>?_;calc E2<|Fc<|thn (hi LM c σ A _ q j) λb s2 ⟨y,z,p,d,g⟩=>?_;calc E2<|IT<|E2<|Fc<|thn (k LM s2 σ z x y v a b u _ p e d r g) λ_ B ⟨w,n,f⟩=>?_;calc wpAny_release ⟨σ,w,n,f⟩
def zt(te:TE)(g:TG):TS:=λD σ H=>te σ H λx a=>g x σ a D.nx
theorem lR{a e:Iz}{te:TE}{g:TG}(k:PE X e te)(j:PG X a g)(i:swapsWithSole [a] e pos.line X.env=pure false:=by rfl)(f:swappedStores [a] e X.env=pure none:=by rfl)
  (l:(IP [a] X.env).map (·.2)=[assign a X.env]:=by rfl):PS X (.Assign [a] e pos) (zt te g):=by
 intro LM s σ H D I h;calc wpAny_Assign_stores (thn (k LM s σ H _ I h) λv b ⟨x,n,m,c,d⟩=>?_) i f;rw[l];calc thn (j LM b σ n x v _ m c d) λ_ s2 q=>q
theorem aJ{i:Nat}{x:Str}{e:Iz}{te:TE}{a:Pos}(k:X.N.Nodup)(hi:X.N[i]?=LH x)(d:Loc X.env.scope x)(j:PE X e te)(f:IM e (LH<|.Name x a) pos.line X.env=pure false:=by rfl)(g:X.fn x=LJ\/X.env.scope.names.lookup x=LH .local:=by first|exact .inl U|exact .inr U|assumption) :
  PS X (.Assign [.Name x a] e pos) (zt te<|ox i):=by
 intro LM s σ H D I h;calc IU (thn (j LM s σ H _ I h) λv o ⟨y,n,m,b,c⟩=>?_) f;calc fK m k hi d b (λs2 l=>⟨_,n,l,c⟩) g
inductive Di(i:Nat)(te:TE)(ti:TIp)(D:Ends)(σ:St)(H:Hp):Prop
 |mk (x:_)(_:σ[i]?=LH (LH x))(_:te σ H λy H1=>ti x y H1 λz H2=>D.nx (σ.set i<|LH z) H2)
theorem BE{i:Nat}{x:Str}{e:Iz}{te:TE}{g:IQ}{ti:TIp}{f:Pos}(P:X.N.Nodup)(hi:X.N[i]?=LH x)(j:Loc X.env.scope x)(M:PE X e te)(F:PIp X g ti)(L:X.fn x=LJ\/X.env.scope.names.lookup x=LH .local:=by first|exact .inl U|exact .inr U|assumption) :
  PS X (.AugAssign (.Name x f) g e pos) (Di i te ti):=by
 intro LM s σ H D I h;let(v,Q,h):=h;let(m,G,K):=I.loc;let n:Vis X.env.scope x:=by rcases j with k|k;calc .inl k;exact .inr<|.inl k
 let(u,r,l):=K i x v hi Q n;calc wpAny_AugAssign_Name ?_;let o:Iw (model X.prog X.w) X.A (eval e X.env) (λw d=>Iw (model X.prog X.w) X.A (inplaceOp g u w) (λr b=>Iw (model X.prog X.w) X.A (Iy X.env x r) (λ_=>SP X LM D .next) X.xe b) X.xe d) X.xe s:=by
  refine thn (M LM s σ H _ I h) λw p ⟨y,W,T,t,C⟩=>?_
  refine thn (F LM p σ W v y u w _ T r t C) λz s2 ⟨Y,V,S,q,B⟩=>?_
  exact fK S P hi j q (λZ R=>⟨_,V,R,B⟩) L
 rcases l with⟨a,J⟩|⟨a,c,O,E⟩
 .exact IG I.ok.kind a G J o
 .rcases a with a|a
  .exact IH I.ok.kind a O E o
  .rcases j with k|k
   .let:X.env.scope.names.lookup x=LH .free:=a;rw[k]at this;cases this
   .let:X.env.scope.names.lookup x=LH .free:=a;rw[k]at this;cases this
def BG(c:TT)(tb:TS):TS:=λD σ H=>∃W:Nat->St->Hp->Prop,(∃m,W m σ H)/\∀m σ H,W m σ H ->
 c σ H λb e=>if b=LJ then ∃N:St->Hp->Prop,(∀a H',N a H'->∃d,d<m/\W d a H')/\tb { D with nx:=N,ct:=N,bk:=D.nx } σ e else D.nx σ e
theorem xm{c:Iz}{body:L0 ID}{q:TT}{tb:TS}(r:IV (model X.prog X.w) X.A X.env X.xe)(G:PT X c q)(J:PSs X body tb):PS X (.While c body [] pos) (BG q tb):=by
 intro LM s σ H D I h;let(W,(F,B),i):=h;calc wpAny_While<|codeAny_whileLoop (λn E=>∃g H',Inv X LM g H' E/\W n g H') ?_ F ⟨σ,H,I,B⟩;rintro n C ⟨d,y,K,z⟩;calc IW r<|thn (G LM C d y _ K<|i n d y z) λb s2 ⟨x,u,k⟩=>?_;cases b with
 |true =>
  let(N,t,k):=k;rw[LO U];calc IW r<|thn (J LM s2 d x _ u k) λf L j=>?_;cases f with
  |next =>
   let(a,e,p,l):=j;let(m,o,w3):=t a e l;exact⟨m,o,a,e,p,w3⟩
  |cont =>
   let(a,e,p,l):=j;let(m,o,w3):=t a e l;exact⟨m,o,a,e,p,w3⟩
  |brk=>exact j
  |ret v=>exact j
 |false =>
  rw[LN Bool.false_ne_true];calc IK ⟨d,x,u,k⟩
structure It where
 go:Nat->Hp->Prop
 yld:Nat->Hp->V->Hp->Prop
 stop:Nat->Hp->Prop
def ko(X:Cx)(LM:L0 (HA×Obj))(H:Hp)(b:HA):Prop :=
 H b=LI/\b≠X.env.locals/\b ∉ X.fs/\(b∈X.ex\/X.s₀.heap.objs.size<=b)/\(∀x c,X.env.cells.lookup x=LH c->c≠b)/\∀p∈X.pn++LM,p.1≠b
theorem Inv.fpOk{X:Cx}{LM:L0 (HA×Obj)}{σ:St}{H H':Hp}{s:Iq}{b:HA}(I:Inv X LM σ H s)(a:↥s<=b)(f:H' b=LI):ko X LM H' b:=by
 refine⟨f,xa<|w6 I.lt a,I.nofs a,.inr<|xc I.sz a,λx c e z=>?_,λp d z=>?_⟩
 .let(v,q):=I.cell x c e;exact LP (w6 q.lt (by rw[z];exact a)) (za _)
 .exact LP (w6 (HB.lt_size (I.pin p d).1) (by rw[z];exact a)) (za _)
structure Turn(P:Fw)(w:Fn)(K:W.Frag)(tg:Iz)(J:It)(fp:L0 HA)(it:HA)(tn:Nat->HB->Prop):Prop where
 mem:it∈fp
 obj:∀i h,tn i h->∀b∈fp,∃o,h.get? b=LH o/\∀v,o.data≠.cell v
 keep:∀i h h',tn i h->(∀b∈fp,∀o,h.get? b=LH o->h'.get? b=LH o)->tn i h'
 item:∀(X:Cx),X.prog=P->X.w=w->X.K=K->X.calm=LJ->∀(i:Nat)(LM:L0 (HA×Obj))(s:Iq)(σ:St)(H:Hp)(E:Fe->Iq->Prop),Inv X LM σ H s->(∀b∈fp,ko X LM H b)->tn i s.heap->J.go i H ->
  Iw (model P w) X.A (IX<|.ref it) (λr s1=>∃u,r=LH u /\
   Iw (model P w) X.A (IY tg (.ref it) u) (λ_ s2=>∃x H',Inv X LM σ H' s2/\RelV x u/\J.yld i H x H'/\tn (i+1) s2.heap/\∀b∈fp,H' b=LI) E s1) E s
 done:∀(X:Cx),X.prog=P->X.w=w->X.K=K->X.calm=LJ->∀(i:Nat)(LM:L0 (HA×Obj))(s:Iq)(σ:St)(H:Hp)(E:Fe->Iq->Prop),Inv X LM σ H s->(∀b∈fp,ko X LM H b)->tn i s.heap->J.stop i H ->
  Iw (model P w) X.A (IX<|.ref it) (λr s1=>r=LI/\Inv X LM σ H s1) E s
 self:∀(A:Ip)(i:Nat)(s:Iq)(Q:Fe->Iq->Prop)(E:Fe->Iq->Prop),tn i s.heap->Q (.ref it) s->Iw (model P w) A (IZ<|.ref it) Q E s
abbrev TI:=St->Hp->(It->Hp->Prop)->Prop
def PIE(X:Cx)(LM:L0 (HA×Obj))(σ:St)(e:Iz)(R:It->Hp->Prop)(a:Fe)(s2:Iq):Prop :=
 ∃(it:HA)(d:L0 HA)(c:Nat->HB->Prop)(J:It)(H':Hp),a=.ref it/\Inv X LM σ H' s2/\Turn X.prog X.w X.K e J d it c/\c 0 s2.heap/\(∀b∈d,ko X LM H' b)/\R J H'
def PI(X:Cx)(c a:Iz)(b:TI):Prop :=
 ∀(LM:L0 (HA×Obj))(s:Iq)(σ:St)(H:Hp)(R:It->Hp->Prop),Inv X LM σ H s->b σ H R ->
  Iw (model X.prog X.w) X.A (eval a X.env) (λv d=>Iw (model X.prog X.w) X.A (IZ v) (PIE X LM σ c R) X.xe d) X.xe s
theorem lS{M:Iv}{A:Ip}{E:Fe->Iq->Prop}{s:Iq}{b:Iz}{it:HA}{u:Fe}{o:Obj}{n:String}{vs:Array Fe}{Q:Unit->Iq->Prop}(c:s.heap.get? it=LH o)(f:o.cls=.type n)(e:o.data=.fields vs)
  (d:["enumerate","zip","dict_itemiterator","dict_reverseitemiterator","odict_iterator","itertools.zip_longest","itertools.pairwise"].contains n=LK) (a:Q () s):Iw M A (IY b (.ref it) u) Q E s:=by
 unfold IY
 cases b <;> first
  |exact E6 a
  |(cases u <;> first
    |exact E6 a
    |(calc E2 (wpAny_load c ?_);rw[f,e];show Iw M A (if (["enumerate","zip","dict_itemiterator","dict_reverseitemiterator","odict_iterator","itertools.zip_longest","itertools.pairwise"].contains n && vs[0]? == LH (I0 _))=LJ then _ else _) Q E s;rw[LN (by intro h;rw[d,Bool.false_and]at h;cases h)];exact E6 a))
def Itl(K:W.Frag)(a:HA):It :=
 ⟨λi H=>∃b x,SqL K H a b/\b[i]?=LH x,λi H x H'=>H'=H/\∀b,SqL K H a b->b[i]?=LH x,λi H=>∃b,SqL K H a b/\⇑b<=i⟩
def Itt(K:W.Frag)(a:HA):It :=
 ⟨λi H=>∃b x,SqT K H a b/\b[i]?=LH x,λi H x H'=>H'=H/\∀b,SqT K H a b->b[i]?=LH x,λi H=>∃b,SqT K H a b/\⇑b<=i⟩
def Itr(lo:Int)(n:Nat):It:=⟨λi _=>i<n,λi H x H'=>H'=H/\x=.int (lo+i),λi _=>n<=i⟩
theorem vC{P:Fw}{w:Fn}{K:W.Frag}{N:Iz}(a it:HA):Turn P w K N (Itl K a) [it] it (λi h=>h.IsListIter it a i) where
 mem:=by simp
 obj:=λi h f b g=>by
  let e:b=it:= ~~~g
  subst e;let(o,e,c,d):=f;exact⟨o,e,λv z=>by rw[d]at z;cases z⟩
 keep:=λi h h' f k=>f.at λo e=>k it (by simp) o e
 item:=by
  intro X y r A L i LM s σ H E I m f t;subst y r A;let(M,x,l,q):=t;let(J,n,p,R):=I.list l;let(u,T,Q):=n.get q;let(G,F,V,D,C,B):=m it (by simp);refine wpAny_pyNext_list_item f p.isList (x:=u) (~~~T) λh' j O=>?_
  let Z:Inv X LM σ H { s with heap:=h' }:=I.turned (t':=s.toks) (λb o g e=>(O.2 b g).trans e) G F D C B;let(o,e,c,d):=id j;exact⟨u,U,lS (s:={ s with heap:=h' }) e c d ⋯ ⟨x,H,Z,Q,⟨U,λys S=>by rw[I.list_inj S l];exact q⟩,j,λb g=>(m b g).1⟩⟩
 done:=by
  intro X y r A L i LM s σ H E I m f t;subst y r A;let(M,l,q):=t;let(J,n,p,R):=I.list l;let(G,F,V,D,C,B):=m it (by simp);let hl:=⇑n;exact wpAny_pyNext_list_end (I.ok.hd L) f p.isList (by simp;lia) λh' Y=>⟨U,I.turned (t':=s.toks) (λb o g e=>Y b o g e) G F D C B⟩
 self:=λ_ _ _ _ _ f h=>wpAny_pyIter_listiter f h
theorem sH{P:Fw}{w:Fn}{K:W.Frag}{N:Iz}(a it:HA):Turn P w K N (Itt K a) [it] it (λi h=>h.IsTupleIter it a i) where
 mem:=by simp
 obj:=λi h f b g=>by
  let e:b=it:= ~~~g
  subst e;let(o,e,c,d):=f;exact⟨o,e,λv z=>by rw[d]at z;cases z⟩
 keep:=λi h h' f k=>f.at λo e=>k it (by simp) o e
 item:=by
  intro X A t B L i LM s σ H E I n f y;subst A t B;let(M,x,m,r):=y;let(j,q,p,R):=I.tuple m;let(u,T,Q):=q.get r;let(J,G,V,F,D,C):=n it (by simp);refine wpAny_pyNext_tuple_item f (show s.heap.IsTuple a j.toArray from p) (x:=u) (~~~T) λh' l O=>?_
  let Z:Inv X LM σ H { s with heap:=h' }:=I.turned (t':=s.toks) (λb o g e=>(O.2 b g).trans e) J G F D C;let(o,e,c,d):=id l;exact⟨u,U,lS (s:={ s with heap:=h' }) e c d ⋯ ⟨x,H,Z,Q,⟨U,λys S=>by rw[I.tuple_inj S m];exact r⟩,l,λb g=>(n b g).1⟩⟩
 done:=by
  intro X A t B L i LM s σ H E I n f y;subst A t B;let(M,m,r):=y;let(j,q,p,R):=I.tuple m;let(J,G,V,F,D,C):=n it (by simp);let hl:=⇑q;exact wpAny_pyNext_tuple_end (I.ok.hd L) f (show s.heap.IsTuple a j.toArray from p) (by simp;lia) λh' Y=>⟨U,I.turned (t':=s.toks) (λb o g e=>Y b o g e) J G F D C⟩
 self:=λ_ _ _ _ _ f h=>wpAny_pyIter_tupleiter f h
theorem sI{P:Fw}{w:Fn}{K:W.Frag}{C:Iz}(it:HA)(lo:Int)(n:Nat):Turn P w K C (Itr lo n) [it] it (λi h=>Ja h it (lo+(i:Nat)*1) ((n:Int)-(i:Nat)) 1) where
 mem:=by simp
 obj:=λi h a b c=>by
  let e:b=it:= ~~~c
  subst e;exact⟨_,a,λv z=>by
   let B:Jb.fields _=Jb.cell v:=z;cases B⟩
 keep:=λi h h' a k=>k it (by simp) _ a
 item:=by
  intro X m g p l i LM s σ H E I f a j;subst m g p;let(y,x,G,u,r,q):=f it (by simp);let W:=Jc.range (prog:=X.prog) (w:=X.w) (I.ok.hd l) it lo 1 n;refine W.item i s _ _ j a λv h' A F d D=>?_
  let(t,rfl):=F;let L:Inv X LM σ H { s with heap:=h',toks:=A }:=I.turned (λb o c e=>D b o (~~~c) e) y x u r q;calc⟨_,U,lS (s:={ s with heap:=h',toks:=A }) (n := "range_iterator") d U U ⋯ ⟨.int<|lo+i,H,L,⟨t,?_⟩,⟨U,U⟩,d,λb c=>(f b c).1⟩⟩;rw[Int.mul_one]
 done:=by
  intro X m g p l i LM s σ H E I f a j;subst m g p;let(y,x,G,u,r,q):=f it (by simp);exact Jd (I.ok.hd l) a (by have:n<=i:=j;lia) λh' J=>⟨U,I.turned (t':=s.toks) (λb o c e=>J b o c e) y x u r q⟩
 self:=λ_ _ _ _ _ a h=>Je a h
section
variable{tg:Iz}
inductive xn(K:W.Frag)(R:It->Hp->Prop)(x:V)(H1:Hp):Prop
 |mk (a:_)(_:x=.ref a)(_:(∃xs,SqL K H1 a xs))(_:R (Itl K a) H1)
def Dj(K:W.Frag)(a:TE):TI:=λσ H R=>a σ H λx b=>xn K R x b
inductive AW(K:W.Frag)(R:It->Hp->Prop)(x:V)(H1:Hp):Prop
 |mk (a:_)(_:x=.ref a)(_:(∃xs,SqT K H1 a xs))(_:R (Itt K a) H1)
def Dk(K:W.Frag)(a:TE):TI:=λσ H R=>a σ H λx b=>AW K R x b
theorem aX{l:Iz}{f:TE}(k:PE X l f):PI X tg l (Dj X.K f):=by
 intro LM s σ H R I h;refine thn (k LM s σ H _ I h) λv c ⟨x,n,d,g,i⟩=>?_
 let(a,e,(t,j),q):=i;subst e;cases g;let(r,u,p,w):=d.list j;calc Jf p.isList ?_;calc⟨↥c,[↥c],_,_,n,U,d.kept (t':=c.toks) λb o e=>HB.get?_push_of_some _ e,vC a _,⟨_,HB.get?_push_size _ U,U,U⟩,λb m=>?_,q⟩;let e:b=↥c:= ~~~m
 subst e;calc d.fpOk (wX _)<|d.hok.fresh<|wX _
theorem sJ{l:Iz}{g:TE}(m:PE X l g):PI X tg l (Dk X.K g):=by
 intro LM s σ H R I h;refine thn (m LM s σ H _ I h) λv c ⟨x,r,d,i,j⟩=>?_
 let(a,e,(t,k),q):=j;subst e;cases i;let(f,u,p,w):=d.tuple k;refine wpAny_pyIter_tuple (show c.heap.IsTuple a f.toArray from p) ?_;calc⟨↥c,[↥c],_,_,r,U,d.kept (t':=c.toks) λb o e=>HB.get?_push_of_some _ e,sH a _,⟨_,HB.get?_push_size _ U,U,U⟩,λb n=>?_,q⟩;let e:b=↥c:= ~~~n
 subst e;calc d.fpOk (wX _)<|d.hok.fresh<|wX _
theorem xo{LM:L0 (HA×Obj)}{σ:St}{H:Hp}{s:Iq}{R:It->Hp->Prop}{E:Fe->Iq->Prop}{lo hi:Int}{t u v:Tok}{a:Nat}(I:Inv X LM σ H s)(i : -(2^62)<=lo)(h:lo<2^62)(g : -(2^62)<=hi)(f:hi<2^62)
  (q:R (Itr lo (hi-lo).toNat) H):Iw (model X.prog X.w) X.A (IZ<|.ref ↥s) (PIE X LM σ tg R) E { s with heap:=s.heap.push { cls:=.type "range",data:=.fields #[.int lo t,.int hi u,.int 1 v] },toks:=a }:=by
 calc Jg (Jh.new ..) (small_one i h g f) ?_;let c:Inv X LM σ H { s with heap:=s.heap.push { cls:=.type "range",data:=.fields #[.int lo t,.int hi u,.int 1 v] },toks:=a }:=I.kept λb o e=>HB.get?_push_of_some _ e
 refine⟨(s.heap.push { cls:=.type "range",data:=.fields #[.int lo t,.int hi u,.int 1 v] }).objs.size,[(s.heap.push { cls:=.type "range",data:=.fields #[.int lo t,.int hi u,.int 1 v] }).objs.size],_,_,H,U,
  c.kept (t':=a) λb o e=>HB.get?_push_of_some _ e,sI _ lo (hi-lo).toNat,?_,λb d=>?_,q⟩
 .let k:lo+((0:Nat):Int)*1=lo:=by simp
  let j:(((hi-lo).toNat:Nat):Int)-((0:Nat):Int)=Ji.Range.rangeSize lo hi 1:=by rw[Jj];split <;> lia
  show Ja _ _ (lo+((0:Nat):Int)*1) ((((hi-lo).toNat:Nat):Int)-((0:Nat):Int)) 1;rw[k,j];exact HB.get?_push_size _ U
 .let e:b=(s.heap.push { cls:=.type "range",data:=.fields #[.int lo t,.int hi u,.int 1 v] }).objs.size:= ~~~d
  subst e;calc c.fpOk (wX _)<|c.hok.fresh<|wX _
inductive xp  (R:It->Hp->Prop)(vs:L0 V)(H1:Hp):Prop
 |mk (j:Int)(_:vs=[.int j])(_ : -(2^62)<=j)(_:j<2^62)(_:R (Itr 0 j.toNat) H1):xp R vs H1
def Dl(ta:TA):TI:=λσ H R=>ta σ H λa b=>xp R a b
theorem kq{a:Iz}{ta:TA}{p pos:Pos}(i:Gl X "range") (hm:X.mg "range" = LI) (k:PA X [a] ta)(g:IC [a] X.env=[(LK,eval a X.env)]:=by rfl):PI X tg (.Call (.Name "range" p) [a] [] pos) (Dl ta):=by
 intro LM s σ H R I h;calc Call_<|dY I i hm boot_range<|PyProof.Rows.callWith_type1 (thn (k pos LM s σ H _ I h) λn o ⟨m,u,l,d,b⟩=>?_) g U;let(j,e,b,f,q):=b;subst e;cases d with
 |cons r c =>
  cases c;let(t,rfl):=r;calc call_range_1<|xo l ∅ ∅ b f (~~~q)
def EM(d:TI)(g:TG)(tb:TS):TS:=λD σ H=>d σ H λJ f=>∃W:Nat->Nat->St->Hp->Prop,(∃m,W 0 m σ f)/\∀i m σ H,W i m σ H ->
 (J.stop i H/\D.nx σ H)\/(J.go i H/\∃N:St->Hp->Prop,(∀a H',N a H'->∃c,c<m/\W (i+1) c a H')/\∀x H',J.yld i H x H'->g x σ H' λb e=>tb { D with nx:=N,ct:=N,bk:=D.nx } b e)
def kr(a:L0 HA)(h:HB):L0 (HA×Obj):=a.filterMap λb=>(h.get? b).map λo=>(b,o)
theorem dB{a:L0 HA}{h:HB}{b:HA}{o:Obj}(c:b∈a)(e:h.get? b=LH o):(b,o)∈kr a h:=List.mem_filterMap.mpr ⟨b,c,by rw[e];rfl⟩
theorem vD{a:L0 HA}{h:HB}{p:HA×Obj}(c:p∈kr a h):p.1∈a/\h.get? p.1=LH p.2:=by
 let(b,d,e):=List.mem_filterMap.mp c;cases q:h.get? b with
 |none=>rw[q]at e;cases e
 |some o =>
  rw[q]at e;let f:(b,o)=p:=Option.some.inj e;subst f;calc⟨d,q⟩
theorem Inv.pinned{LM:L0 (HA×Obj)}{σ:St}{H:Hp}{s:Iq}{a:L0 HA}(I:Inv X LM σ H s)(i:∀b∈a,ko X LM H b)(h:∀b∈a,∃o,s.heap.get? b=LH o/\∀v,o.data≠.cell v):Inv X (LM++kr a s.heap) σ H s :=
 I.pins_of λp g=>(hZ.mp g).elim (λz=>I.pin p<|jq _ z) λz=>by
  let(c,e):=vD z;let(l,k,j,_):=i p.1 c;let(o,f,d):=h p.1 c;rw[e]at f;cases f;calc⟨e,l,k,j,d⟩
def Inv.unpinned{LM pl:L0 (HA×Obj)}{σ:St}{H:Hp}{s:Iq}(I:Inv X (LM++pl) σ H s):Inv X LM σ H s:=I.pins_of λp a=>I.pin p<|jq _<|jJ _ a
theorem bT{q:Iz}{body:L0 ID}{Y:TI}{g:TG}{tb:TS}{pos:Pos}(B:IV (model X.prog X.w) X.A X.env X.xe)(hc:X.calm=LJ)(hi:PI X tg q Y)(hg:PG X tg g)(c:PSs X body tb)
  (hs:∀x,Jk q X.env x=pure x:=by intro _;rfl):PS X (.For tg q body [] pos) (EM Y g tb):=by
 intro LM s σ H D I h;calc wpAny_For (thn (hi LM s σ H _ I h) λv s1 h1=>thn h1 λa0 s2 h2=>?_) hs;let(it,C,Z,J,H2,e,I2,T,R,f2,W,(m0,w0),G):=h2;subst e;let P:∀{H':Hp},(∀b∈C,H' b=LI)->∀b∈C,ko X LM H' b:=λhn b c=>⟨hn b c,(f2 b c).2⟩
 calc codeAny_forLoop_any (λn s'=>∃i p H',Inv X LM p H' s'/\Z i s'.heap/\(∀b∈C,H' b=LI)/\W i n p H') ?_ m0 ⟨0,σ,H2,I2,R,λb c=>(f2 b c).1,w0⟩;rintro n s3 ⟨i,l,L,I3,E,F,w3⟩;rcases G i n l L w3 with⟨K,qn⟩|⟨go,N,hN,step⟩
 .refine IW B<|thn (T.done X U U U hc i LM s3 l L X.xe I3 (P F) E K) λr s4 ⟨O,I4⟩=>?_;subst O;exact IK ⟨l,L,I4,qn⟩
 .refine IW B<|thn (T.item X U U U hc i LM s3 l L X.xe I3 (P F) E go) λr s4 ⟨u,O,h4⟩=>?_;subst O;calc IW B<|thn h4 λ_ s5 ⟨x,H5,I5,r5,y5,y,S⟩=>?_;let V:=I5.pinned (P S)<|T.obj _ _ y;calc IW B<|thn (hg _ s5 l H5 x u _ V r5<|step x H5 y5) λ_ s6 ⟨Q,H6,I6,q6⟩=>?_;calc IW B<|thn (c _ s6 Q H6 _ I6 q6) λf M t=>?_;let again:∀{a:St}{k:Hp},Inv X (LM++kr C s5.heap) a k M->N a k->∃m,m<n/\∃i p H',Inv X LM p H' M/\Z i M.heap/\(∀b∈C,H' b=LI)/\W i m p H':=λ{a k} j z=>by
   let(m',hm,w7):=hN a k z;calc⟨m',hm,i+1,a,k,j.unpinned,T.keep _ _ _ y λb c o e=>(j.pin (b,o)<|jq _<|jq _<|dB c e).1,λb c=>?_,w7⟩;let(o,e,d):=T.obj _ _ y b c;exact(j.pin (b,o)<|jq _<|jq _<|dB c e).2.1
  cases f with
  |next=>obtain⟨a,k,j,z⟩:=t;exact again j z
  |cont=>obtain⟨a,k,j,z⟩:=t;exact again j z
  |brk=>obtain⟨a,k,j,t⟩:=t;exact⟨a,k,j.unpinned,t⟩
  |ret v=>obtain⟨x7,a,k,j,r7,t⟩:=t;calc⟨x7,a,k,j.unpinned,r7,t⟩
end
theorem b8{K:W.Frag}{a:HA}{xs:L0 V}{g:TG}{tb:TS}{D:Ends}{σ:St}{H:Hp}(b:Nat->St->Hp->Prop)(r:b 0 σ H)(n:∀i σ H,i<=⇑xs->b i σ H->SqL K H a xs)
  (l:∀i x σ H,xs[i]?=LH x->b i σ H->g x σ H λc h=>tb { D with nx:=b<|i+1,ct:=b<|i+1,bk:=D.nx } c h)(o:∀σ H,b ⇑xs σ H->D.nx σ H) :
  ∃W:Nat->Nat->St->Hp->Prop,(∃m,W 0 m σ H)/\∀i m σ H,W i m σ H ->
   ((Itl K a).stop i H/\D.nx σ H)\/((Itl K a).go i H/\∃N:St->Hp->Prop,(∀d H',N d H'->∃j,j<m/\W (i+1) j d H')/\∀x H',(Itl K a).yld i H x H'->g x σ H' λc h=>tb { D with nx:=N,ct:=N,bk:=D.nx } c h):=by
 refine⟨λi m σ H=>m=⇑xs-i/\i<=⇑xs/\b i σ H,⟨⇑xs,by simp,wZ _,r⟩,?_⟩;rintro i m σ H ⟨rfl,hi,p⟩;let q:=n i σ H hi p;by_cases f:i<⇑xs
 .refine .inr ⟨⟨xs,xs[i],q,by simp[f]⟩,b<|i+1,λd H' k=>⟨⇑xs-(i+1),∅,U,f,k⟩,λx H' y=>?_⟩;let(e,y):=y;subst e;exact l i x σ _ (y xs q) p
 .let e:i=⇑xs:=∅
  subst e;calc .inl ⟨⟨xs,q,wX _⟩,o σ H p⟩
theorem zw{K:W.Frag}{a:HA}{xs:L0 V}{g:TG}{tb:TS}{D:Ends}{σ:St}{H:Hp}(b:Nat->St->Hp->Prop)(r:b 0 σ H)(n:∀i σ H,i<=⇑xs->b i σ H->SqT K H a xs)
  (l:∀i x σ H,xs[i]?=LH x->b i σ H->g x σ H λc h=>tb { D with nx:=b<|i+1,ct:=b<|i+1,bk:=D.nx } c h)(o:∀σ H,b ⇑xs σ H->D.nx σ H) :
  ∃W:Nat->Nat->St->Hp->Prop,(∃m,W 0 m σ H)/\∀i m σ H,W i m σ H ->
   ((Itt K a).stop i H/\D.nx σ H)\/((Itt K a).go i H/\∃N:St->Hp->Prop,(∀d H',N d H'->∃j,j<m/\W (i+1) j d H')/\∀x H',(Itt K a).yld i H x H'->g x σ H' λc h=>tb { D with nx:=N,ct:=N,bk:=D.nx } c h):=by
 refine⟨λi m σ H=>m=⇑xs-i/\i<=⇑xs/\b i σ H,⟨⇑xs,by simp,wZ _,r⟩,?_⟩;rintro i m σ H ⟨rfl,hi,p⟩;let q:=n i σ H hi p;by_cases f:i<⇑xs
 .refine .inr ⟨⟨xs,xs[i],q,by simp[f]⟩,b<|i+1,λd H' k=>⟨⇑xs-(i+1),∅,U,f,k⟩,λx H' y=>?_⟩;let(e,y):=y;subst e;exact l i x σ _ (y xs q) p
 .let e:i=⇑xs:=∅
  subst e;calc .inl ⟨⟨xs,q,wX _⟩,o σ H p⟩
theorem vE{lo:Int}{n:Nat}{g:TG}{tb:TS}{D:Ends}{σ:St}{H:Hp}(a:Nat->St->Hp->Prop)(o:a 0 σ H)
  (k:∀i σ H,i<n->a i σ H->g (.int<|lo+i) σ H λb f=>tb { D with nx:=a<|i+1,ct:=a<|i+1,bk:=D.nx } b f)(l:∀σ H,a n σ H->D.nx σ H) :
  ∃W:Nat->Nat->St->Hp->Prop,(∃m,W 0 m σ H)/\∀i m σ H,W i m σ H ->
   ((Itr lo n).stop i H/\D.nx σ H)\/((Itr lo n).go i H/\∃N:St->Hp->Prop,(∀c H',N c H'->∃h,h<m/\W (i+1) h c H')/\∀x H',(Itr lo n).yld i H x H'->g x σ H' λb f=>tb { D with nx:=N,ct:=N,bk:=D.nx } b f):=by
 refine⟨λi m σ H=>m=n-i/\i<=n/\a i σ H,⟨n,by simp,wZ _,o⟩,?_⟩;rintro i m σ H ⟨rfl,hi,p⟩;by_cases d:i<n
 .refine .inr ⟨d,a<|i+1,λc H' j=>⟨n-(i+1),∅,U,d,j⟩,λx H' y=>?_⟩;let(e,y):=y;subst e y;exact k i σ _ d p
 .let e:i=n:=∅
  subst e;calc .inl ⟨wX _,l σ H p⟩
abbrev R2:=V->V->Hp->VK->Prop
def OpR(X:Cx)(f:Fe->Fe->Sem Fe)(r:R2):Prop :=
 ∀(LM:L0 (HA×Obj))(s:Iq)(σ:St)(H:Hp)(x y:V)(v u:Fe)(Q:VK),Inv X LM σ H s->RelV x v->RelV y u->r x y H Q ->
  Iw (model X.prog X.w) X.A (f v u) (EP X LM σ Q) X.xe s
def UnR(X:Cx)(f:Fe->Sem Fe)(r:V->Hp->VK->Prop):Prop :=
 ∀(LM:L0 (HA×Obj))(s:Iq)(σ:St)(H:Hp)(x:V)(v:Fe)(Q:VK),Inv X LM σ H s->RelV x v->r x H Q ->
  Iw (model X.prog X.w) X.A (f v) (EP X LM σ Q) X.xe s
def cG(X:Cx)(f:Fe)(r:L0 V->Hp->VK->Prop):Prop :=
 ∀(LM:L0 (HA×Obj))(s:Iq)(σ:St)(H:Hp)(a:L0 V)(b:L0 Fe)(Q:VK),Inv X LM σ H s->Vals a b->r a H Q ->
  Iw (model X.prog X.w) X.A (call f b) (EP X LM σ Q) X.xe s
def EN(X:Cx)(r:V->Hp->(Bool->Hp->Prop)->Prop):Prop :=
 ∀(LM:L0 (HA×Obj))(s:Iq)(σ:St)(H:Hp)(x:V)(v:Fe)(Q:Bool->Hp->Prop),Inv X LM σ H s->RelV x v->r x H Q ->
  Iw (model X.prog X.w) X.A (truthy v) (TP X LM σ Q) X.xe s
def tOp(r:R2)(ta tb:TE):TE:=λσ H Q=>ta σ H λx b=>tb σ b λy a=>r x y a Q
def tUn(r:V->Hp->VK->Prop)(ta:TE):TE:=λσ H Q=>ta σ H λx a=>r x a Q
inductive rI(C:Int->Int->Prop)(g:Int->Int->V)(x:V)(y:V)(H:Hp)(Q:VK):Prop
 |mk (i j:_)(_:x=.int i)(_:y=.int j)(_:C i j)(_:Q (g i j) H)
inductive rI0(g:Int->Int->V)(x:V)(y:V)(H:Hp)(Q:VK):Prop
 |mk (i j:_)(_:x=.int i)(_:y=.int j)(_:Q (g i j) H)
inductive rU(g:Int->V)(x:V)(H:Hp)(Q:VK):Prop
 |mk (i:_)(_:x=.int i)(_:Q (g i) H)
section
variable{a b c:Iz}{tc:TE}
theorem BI(o:PE X a ta)(n:PE X b tb){LM:L0 (HA×Obj)}{s:Iq}{σ:St}{H:Hp}{R:V->V->Hp->Prop}(I:Inv X LM σ H s)
  (h:ta σ H λx g=>tb σ g λy c=>R x y c){Q:Fe->Iq->Prop}{f:Fe->Fe->Sem Fe}
  (hf:∀v u s2 x y c,Inv X LM σ c s2->RelV x v->RelV y u->R x y c->Iw (model X.prog X.w) X.A (f v u) Q X.xe s2) :
  Iw (model X.prog X.w) X.A (eval a X.env) (λv e=>Iw (model X.prog X.w) X.A (eval b X.env) (λu d=>Iw (model X.prog X.w) X.A (f v u) Q X.xe d) X.xe e) X.xe s:=by
 refine thn (o LM s σ H _ I h) λv i ⟨x,g,q,k,m⟩=>?_
 refine thn (n LM i σ g _ q m) λu s2 ⟨y,c,p,j,l⟩=>?_
 calc hf v u s2 x y c p k j l
theorem aG{c:IQ}{r:R2}(f:OpR X (Jl c) r)(i:PE X a ta)(g:PE X b tb):PE X (.BinOp a c b pos) (tOp r ta tb):=by
 intro LM s σ H Q I h;calc wpAny_BinOp<|BI i g I h λv u s2 x y k j e d q=>f LM s2 σ k x y v u Q j e d q
theorem uD{b:UnaryOp}{r:V->Hp->VK->Prop}(f:UnR X (unaryOp b) r)(g:PE X a ta):PE X (.UnaryOp b a pos) (tUn r ta):=by
 intro LM s σ H Q I h;calc UnaryOp_<|thn (g LM s σ H _ I h) λv c ⟨x,j,i,d,e⟩=>f LM c σ j x v Q i d e
theorem opI{f:Fe->Fe->Sem Fe}{C:Int->Int->Prop}{g:Int->Int->Int}
  (rule:∀(i j:Int)(t u:Tok)(s:Iq)(Q:Fe->Iq->Prop)(E:Fe->Iq->Prop),C i j->Q (.int (g i j) s.toks) { s with toks:=s.toks+1 }->Iw (model X.prog X.w) X.A (f (.int i t)<|.int j u) Q E s) :
  OpR X f (rI C λi j=>.int<|g i j):=by
 intro LM s σ H x y v u Q I c b h;let(i,j,rfl,rfl,d,q):=h;let(t,rfl):=c;let(a,rfl):=b;calc rule i j t a s _ _ d ⟨.int<|g i j,H,I.tok _,⟨_,U⟩,q⟩
theorem BJ{f:Fe->Fe->Sem Fe}{g:Int->Int->Int}
  (rule:∀(i j:Int)(t u:Tok)(s:Iq)(Q:Fe->Iq->Prop)(E:Fe->Iq->Prop),Q (.int (g i j) s.toks) { s with toks:=s.toks+1 }->Iw (model X.prog X.w) X.A (f (.int i t)<|.int j u) Q E s) :
  OpR X f (rI0 λi j=>.int<|g i j):=by
 intro LM s σ H x y v u Q I c b h;let(i,j,rfl,rfl,q):=h;let(t,rfl):=c;let(a,rfl):=b;calc rule i j t a s _ _ ⟨.int<|g i j,H,I.tok _,⟨_,U⟩,q⟩
theorem BK{f:Fe->Fe->Sem Fe}{g:Int->Int->Bool}
  (rule:∀(i j:Int)(t u:Tok)(s:Iq)(Q:Fe->Iq->Prop)(E:Fe->Iq->Prop),Q (.bool<|g i j) s->Iw (model X.prog X.w) X.A (f (.int i t)<|.int j u) Q E s) :
  OpR X f (rI0 λi j=>.bl<|g i j):=by
 intro LM s σ H x y v u Q I c b h;let(i,j,rfl,rfl,q):=h;let(t,rfl):=c;let(a,rfl):=b;calc rule i j t a s _ _ ⟨.bl<|g i j,H,I,U,q⟩
def EO(i j:Int):Prop:=0<j/\j<1073741824
def Dn(i j:Int):Prop:=0<=j/\j<=1000000/\i.natAbs<2^64
def zA(i j:Int):Prop:=(-(2^64)<i/\i<2^64)\/(-(2^64)<j/\j<2^64)
theorem zA.ok{i j:Int}(h:zA i j):IntMulOk i j:=by
 rcases h with⟨b,a⟩|⟨b,a⟩
 .exact .of_left<|Jm b a
 .exact .of_right<|Jm b a
theorem sL(k:Nat):(0:Int)<=2^k:=by
 rw[two_pow_cast];calc DH _
def dZ:OpR X (Jl .Add) (rI0 λi j=>.int<|i+j):=BJ λ_ _ _ _ _ _ _ q=>add_int q
def fC:OpR X (Jl .Sub) (rI0 λi j=>.int<|i-j):=BJ λ_ _ _ _ _ _ _ q=>sub_int q
def xq:OpR X (Jl .Mult) (rI zA λi j=>.int<|i*j):=opI λ_ _ _ _ _ _ _ a q=>mul_int q a.ok
theorem fZ:OpR X (Jl .FloorDiv) (rI EO λi j=>.int<|i / j):=opI λi j _ _ _ _ _ a q=>by
 let c:(0:Int)<j:=a.1;let b:j<1073741824:=a.2;calc floordiv_int ∅ (by rw[Int.fdiv_eq_ediv_of_nonneg i ∅];exact q) (.inl<|PyProof.noPylong_small ∅)
theorem cK:OpR X (Jl .Mod) (rI (λ_ j=>0<j) λi j=>.int<|i%j):=opI λi j _ _ _ _ _ a q=>by
 let b:(0:Int)<j:=a;calc mod_int' ∅ (by rw[Int.fmod_eq_emod_of_nonneg i ∅];exact q)
def lT:OpR X (Jl .Pow) (rI Dn λi j=>.int<|i^j.toNat):=opI λ_ _ _ _ _ _ _ a q=>pow_int_small a.1 a.2.1 a.2.2 q
def sM:OpR X (Jl .LShift) (rI Dn λi j=>.int<|i*2^j.toNat):=opI λ_ _ _ _ _ _ _ a q=>lshift_int_small a.1 a.2.1 a.2.2 q
theorem BL:OpR X (Jl .RShift) (rI (λ_ j=>0<=j) λi j=>.int<|i / 2^j.toNat):=opI λi j _ _ _ _ _ a q =>
 rshift_int a (by rw[Int.fdiv_eq_ediv_of_nonneg i (sL _)];exact q)
def sN:OpR X (Jl .BitAnd) (rI0 λi j=>.int<|Ji.bitAnd i j):=BJ λ_ _ _ _ _ _ _ q=>and_int q
theorem unI{f:Fe->Sem Fe}{g:Int->Int}
  (rule:∀(i:Int)(t:Tok)(s:Iq)(Q:Fe->Iq->Prop)(E:Fe->Iq->Prop),Q (.int (g i) s.toks) { s with toks:=s.toks+1 }->Iw (model X.prog X.w) X.A (f<|.int i t) Q E s) :
  UnR X f (rU λi=>.int<|g i):=by
 intro LM s σ H x v Q I a h;let(i,rfl,q):=h;let(t,rfl):=a;calc rule i t s _ _ ⟨.int<|g i,H,I.tok _,⟨_,U⟩,q⟩
def sO:UnR X (unaryOp .USub) (rU λi=>.int<|-i):=unI λ_ _ _ _ _ q=>neg_int q
def BM:UnR X (unaryOp .Invert) (rU λi=>.int<|Ji.bitNot i):=unI λ_ _ _ _ _ q=>invert_int q
end
def Dp:V->V->Bool
 | .non,.non=>LJ | .non,.int _=>LJ | .int _,.non=>LJ | .non,.bl _=>LJ | .bl _,.non=>LJ | .non,.str _=>LJ | .str _,.non=>LJ
 | .int _,.int _=>LJ | .bl _,.bl _=>LJ | .str _,.str _=>LJ | .byt _,.byt _=>LJ
 | .int _,.str _=>LJ | .str _,.int _=>LJ | .bl _,.str _=>LJ | .str _,.bl _=>LJ
 |_,_=>LK
def rEq:R2:=λx y H Q=>Dp x y=LJ/\Q (.bl<|LL<|x=y) H
def rNe:R2:=λx y H Q=>Dp x y=LJ/\Q (.bl<|!LL (x=y)) H
theorem uE{i j:Int}:decide (V.int i=V.int j)=(i == j):=by
 rw[Bool.eq_iff_iff];simp
theorem xr{i j:Bool}:decide (V.bl i=V.bl j)=(i == j):=by
 rw[Bool.eq_iff_iff];simp
theorem uF{i j:Str}:decide (V.str i=V.str j)=(i == j):=by
 rw[Bool.eq_iff_iff];simp
theorem uG{i j:Array UInt8}:decide (V.byt i=V.byt j)=(i.toList == j.toList):=by
 rw[Bool.eq_iff_iff];cases i;cases j;simp
section
variable{a b c:Iz}{tc:TE}
theorem aU{LM:L0 (HA×Obj)}{σ:St}{H:Hp}{s:Iq}{Q:VK}{k a:Bool}(I:Inv X LM σ H s)(q:Q (.bl k) H)(e:k=a):EP X LM σ Q (.bool a) s:=by
 subst e;calc⟨.bl k,H,I,U,q⟩
theorem cP:OpR X (Jn .Eq) rEq:=by
 intro LM s σ H x y v u Q I d a h;let(c,q):=h;cases x with
 |non =>
  cases d;cases y with
  |non=>cases a;exact PySem.EqNone.eq_none_none<|aU I q (by simp)
  |bl j=>cases a;exact PySem.EqNone.eq_none_bool<|aU I q (by simp)
  |int j=>obtain⟨b,rfl⟩:=a;exact PySem.EqNone.eq_none_int<|aU I q (by simp)
  |str j=>obtain⟨b,rfl⟩:=a;exact PySem.EqNone.eq_none_str<|aU I q (by simp)
  |_=>exact LP (show LK=LJ from c) Bool.false_ne_true
 |bl i =>
  cases d;cases y with
  |non=>cases a;exact PySem.EqNone.eq_bool_none<|aU I q (by simp)
  |bl j=>cases a;exact eq_bool<|aU I q xr
  |str j=>obtain⟨b,rfl⟩:=a;exact PySem.EqMixed.eq_bool_str<|aU I q (by simp)
  |_=>exact LP (show LK=LJ from c) Bool.false_ne_true
 |int i =>
  let(t,rfl):=d;cases y with
  |non=>cases a;exact PySem.EqNone.eq_int_none<|aU I q (by simp)
  |int j=>obtain⟨b,rfl⟩:=a;exact eq_int<|aU I q uE
  |str j=>obtain⟨b,rfl⟩:=a;exact PySem.EqMixed.eq_int_str<|aU I q (by simp)
  |_=>exact LP (show LK=LJ from c) Bool.false_ne_true
 |str i =>
  let(t,rfl):=d;cases y with
  |non=>cases a;exact PySem.EqNone.eq_str_none<|aU I q (by simp)
  |bl j=>cases a;exact PySem.EqMixed.eq_str_bool<|aU I q (by simp)
  |int j=>obtain⟨b,rfl⟩:=a;exact PySem.EqMixed.eq_str_int<|aU I q (by simp)
  |str j=>obtain⟨b,rfl⟩:=a;exact eq_str<|aU I q uF
  |_=>exact LP (show LK=LJ from c) Bool.false_ne_true
 |byt i =>
  let(t,rfl):=d;cases y with
  |byt j=>obtain⟨b,rfl⟩:=a;exact W.eq_bytes<|aU I q uG
  |_=>exact LP (show LK=LJ from c) Bool.false_ne_true
 |_=>cases y <;> calc LP (show LK=LJ from c) Bool.false_ne_true
theorem lU:OpR X (Jn .NotEq) rNe:=by
 intro LM s σ H x y v u Q I d a h;let(c,q):=h;cases x with
 |non =>
  cases d;cases y with
  |non=>cases a;exact PySem.EqNone.ne_none_none<|aU I q (by simp)
  |bl j=>cases a;exact PySem.EqNone.ne_none_bool<|aU I q (by simp)
  |int j=>obtain⟨b,rfl⟩:=a;exact PySem.EqNone.ne_none_int<|aU I q (by simp)
  |str j=>obtain⟨b,rfl⟩:=a;exact PySem.EqNone.ne_none_str<|aU I q (by simp)
  |_=>exact LP (show LK=LJ from c) Bool.false_ne_true
 |bl i =>
  cases d;cases y with
  |non=>cases a;exact PySem.EqNone.ne_bool_none<|aU I q (by simp)
  |bl j=>cases a;exact ne_bool<|aU I q<|LU not xr
  |str j=>obtain⟨b,rfl⟩:=a;exact PySem.EqMixed.ne_bool_str<|aU I q (by simp)
  |_=>exact LP (show LK=LJ from c) Bool.false_ne_true
 |int i =>
  let(t,rfl):=d;cases y with
  |non=>cases a;exact PySem.EqNone.ne_int_none<|aU I q (by simp)
  |int j=>obtain⟨b,rfl⟩:=a;exact ne_int<|aU I q<|LU not uE
  |str j=>obtain⟨b,rfl⟩:=a;exact PySem.EqMixed.ne_int_str<|aU I q (by simp)
  |_=>exact LP (show LK=LJ from c) Bool.false_ne_true
 |str i =>
  let(t,rfl):=d;cases y with
  |non=>cases a;exact PySem.EqNone.ne_str_none<|aU I q (by simp)
  |bl j=>cases a;exact PySem.EqMixed.ne_str_bool<|aU I q (by simp)
  |int j=>obtain⟨b,rfl⟩:=a;exact PySem.EqMixed.ne_str_int<|aU I q (by simp)
  |str j=>obtain⟨b,rfl⟩:=a;exact ne_str<|aU I q<|LU not uF
  |_=>exact LP (show LK=LJ from c) Bool.false_ne_true
 |byt i =>
  let(t,rfl):=d;cases y with
  |byt j=>obtain⟨b,rfl⟩:=a;exact W.ne_bytes<|aU I q<|LU not uG
  |_=>exact LP (show LK=LJ from c) Bool.false_ne_true
 |_=>cases y <;> calc LP (show LK=LJ from c) Bool.false_ne_true
def qi:OpR X (Jn .Lt) (rI0 λi j=>.bl<|LL<|i<j):=BK λ_ _ _ _ _ _ _ q=>lt_int q
def gB:OpR X (Jn .LtE) (rI0 λi j=>.bl<|LL<|i<=j):=BK λ_ _ _ _ _ _ _ q=>le_int q
def jK:OpR X (Jn .Gt) (rI0 λi j=>.bl<|LL<|j<i):=BK λ_ _ _ _ _ _ _ q=>gt_int q
theorem BN:OpR X (Jn .Is) (λx y H Q=>y=.non/\Q (.bl<|LL<|x=.non) H):=by
 intro LM s σ H x y v u Q I a b h;let(rfl,q):=h;cases b;refine is_none_gen<|aU I q ?_
 cases x <;> first
  |(cases a;rfl)
  |(obtain⟨t,rfl⟩:=a;rfl)
theorem uH:OpR X (Jn .IsNot) (λx y H Q=>y=.non/\Q (.bl<|!LL (x=.non)) H):=by
 intro LM s σ H x y v u Q I a b h;let(rfl,q):=h;cases b;refine isnot_none_gen<|aU I q ?_
 cases x <;> first
  |(cases a;rfl)
  |(obtain⟨t,rfl⟩:=a;rfl)
theorem pB:OpR X (Jn .NotIn) (λx y H Q=>∃i j,x=.str i/\y=.str j/\Q (.bl<|!(!(Ji.Str.occurrences j i 0 ⇑j 1).isEmpty)) H):=by
 intro LM s σ H x y v u Q I b a h;let(i,j,rfl,rfl,q):=h;let(t,rfl):=b;let(c,rfl):=a;calc notIn_str<|aU I q U
theorem aF(b:Iz){a:Jo}(h:a≠.In:=by decide)(c:a≠.NotIn:=by decide):Jp a b=false:=by
 let e:(a == Jo.In)=false:=by cases a <;> first|rfl|exact LP U h
 let d:(a == Jo.NotIn)=false:=by cases a <;> first|rfl|exact LP U c
 cases b <;> simp[Jp,e,d]
theorem cI{c:Jo}{r:R2}(f:OpR X (Jn c) r)(j:PE X a ta)(i:PE X b tb)(g:Jp c b=LK):PE X (.Compare a [c] [b] pos) (tOp r ta tb):=by
 intro LM s σ H Q I h;calc wpAny_Compare1 (BI j i I h λv u s2 x y l k e d q=>f LM s2 σ l x y v u Q k e d q) g
inductive xt  (Q:Bool->Hp->Prop)(x:V)(H':Hp):Prop
 |mk (k:_)(_:x=.bl k)(_:Q k H'):xt Q x H'
def AX(t:TE):TT:=λσ H Q=>t σ H λx H'=>xt Q x H'
theorem aH{d:Jo}{r:R2}(o:OpR X (Jn d) r)(t:PE X a ta)(q:PE X b tb)(p:Jp d b=LK):PT X (.Compare a [d] [b] pos) (AX<|tOp r ta tb):=by
 intro LM s σ H Q I h;refine wpAny_isTrue_Compare1 (thn (t LM s σ H _ I h) λv f ⟨x,E,B,j,n⟩=>thn (q LM f σ E _ B n) λu s2 ⟨y,D,A,i,m⟩ =>
  thn (o LM s2 σ D x y v u _ A j i m) λc F ⟨z,C,w,g,k,e,l⟩=>?_) p
 subst e;cases g;calc IJ ⟨C,w,l⟩
inductive uI(r':R2)(tc:TE)(σ:St)(Q:VK)(y:V)(z:V)(H3:Hp):Prop
 |mk (k:_)(_:z=.bl k)(_:(if k=LJ then tc σ H3 λw' H4=>r' y w' H4 Q else Q (.bl LK) H3))
def xu(r a:R2)(ta tb tc:TE):TE:=λσ H Q=>ta σ H λx d=>tb σ d λy c=>r x y c λz b=>uI a tc σ Q y z b
theorem lV{g f:Jo}{r l:R2}(J:OpR X (Jn g) r)(i:OpR X (Jn f) l)(M:PE X a ta)(L:PE X b tb)(K:PE X c tc)
  (hm:lastMarks [g,f] [b,c]=false:=by with_unfolding_all rfl):PE X (.Compare a [g,f] [b,c] pos) (xu r l ta tb tc):=by
 intro LM s σ H Q I h;refine Compare_chain (thn (M LM s σ H _ I h) λv A ⟨x,T,P,D,G⟩=>chain_link (thn (L LM A σ T _ P G) λu s2 ⟨y,S,O,j,F⟩ =>
  thn (J LM s2 σ S x y v u _ O D j F) λd w ⟨z,o,n,C,k,e,m⟩=>?_)) hm
 subst e;cases C;calc IJ ?_;cases k with
 |false=>exact ite_ff ⟨.bl LK,o,n,U,m⟩
 |true=>calc ite_tt (chain_last<|thn (K LM w σ o _ n m) λq t ⟨p,R,N,B,E⟩=>i LM t σ R y p u q Q N j B E)
theorem jL{g f:Jo}{r l:R2}(M:OpR X (Jn g) r)(i:OpR X (Jn f) l)(P:PE X a ta)(O:PE X b tb)(N:PE X c tc)
  (hm:lastMarks [g,f] [b,c]=false:=by with_unfolding_all rfl):PT X (.Compare a [g,f] [b,c] pos) (AX<|xu r l ta tb tc):=by
 intro LM s σ H Q I h;refine isTrue_chain (thn (P LM s σ H _ I h) λv A ⟨x,H1,Y,E,K⟩=>test_link (thn (O LM A σ H1 _ Y K) λu s2 ⟨y,H2,W,j,J⟩ =>
  thn (M LM s2 σ H2 x y v u _ W E j J) λd w ⟨z,o,n,D,k,e,m⟩=>?_)) hm
 subst e;cases D;calc IJ ?_;cases k with
 |false =>
  let(k',S,L):=m;cases S;exact ite_ff ⟨o,n,L⟩
 |true =>
  calc ite_tt<|test_last<|thn (N LM w σ o _ n m) λq t ⟨p,H4,V,C,G⟩=>thn (i LM t σ H4 y p u q _ V j C G) λd' s5 ⟨z2,Z,T,B,k2,R,F⟩=>?_;subst R;cases B;calc IJ ⟨Z,T,F⟩
def BO(K:W.Frag)(x:V)(H:Hp)(k:Bool):Prop :=
 match x with
 | .non=>k=LK
 | .bl b=>k=b
 | .int i=>k=(i != 0)
 | .str y=>⇑y<=HL/\k=((⇑y:Int) != 0)
 | .byt y=>y.size<=HL/\k=((y.size:Int) != 0)
 | .ref p=>(∃a,SqL K H p a/\k = !a.isEmpty)\/(∃a,SqT K H p a/\k = !a.isEmpty)\/∃c,H p=LH (.dK c)/\k = !c.isEmpty
 |_=>False
theorem sP{b:Type}{a:L0 (b×V)}{vs:L0 (b×Fe)}(r:KV a vs):(!vs.isEmpty) = !a.isEmpty:=by
 cases r <;> rfl
theorem lW{xs:L0 V}{a:L0 Fe}(r:Vals xs a):(!a.toArray.isEmpty) = !xs.isEmpty:=by
 cases r <;> simp
theorem ku:(HL:Nat)<2^63:=by rw[Jq];decide
theorem BP:EN X (λx H Q=>∃k,BO X.K x H k/\Q k H):=by
 intro LM s σ H x v Q I g h;let(k,e,q):=h;let C:=ku;let B:HL=16777216:=Jq;cases x with
 |non =>
  cases g;let a:k=false:=e;subst a;exact truthy_none ⟨H,I,q⟩
 |bl b =>
  cases g;let a:k=b:=e;subst a;exact IJ ⟨H,I,q⟩
 |int i =>
  let(t,rfl):=g;let a:k=(i != 0):=e;subst a;exact PySem.P.truthy_int ⟨H,I,q⟩
 |str y =>
  let(t,rfl):=g;let(z,a):⇑y<=HL/\k=((⇑y:Int) != 0):=e;subst a;exact PySem.P.truthy_str ∅ ⟨H,I.tok _,q⟩
 |byt y =>
  let(t,rfl):=g;let(z,a):y.size<=HL/\k=((y.size:Int) != 0):=e;subst a;exact W.truthy_bytes ∅ ⟨H,I.tok _,q⟩
 |ref p =>
  cases g;let a:(∃f,SqL X.K H p f/\k = !f.isEmpty)\/(∃f,SqT X.K H p f/\k = !f.isEmpty)\/∃c,H p=LH (.dK c)/\k = !c.isEmpty:=e;rcases a with⟨f,j,a⟩|⟨f,j,a⟩|⟨c,j,a⟩
  .subst a;let(o,r,n,u):=I.list j;let d:=⇑r;exact wpAny_truthy_list n.isList (by simp only[cf];lia) ⟨H,I.tok _,by rw[lW r];exact q⟩
  .subst a;let(o,r,n,u):=I.tuple j;let d:=⇑r;exact truthy_tuple n (by simp only[cf];lia) ⟨H,I.tok _,by rw[lW r];exact q⟩
  .subst a;let(u,A,l,r,m):⇑c<=HL/\(p == HS)=LK/\∃l,KV c l/\s.heap.DictOf (pq X.prog X.w) p l:=I.hok p _ j;let d:⇑c=⇑l:=Paired.length r;exact wpAny_truthy_dict A m ∅ ⟨H,I.tok _,by rw[sP r];exact q⟩
 |_=>calc(show False from e).elim
theorem c9(g:PE X a ta)(f:∀b,IA a X.env b=(do let v ←b;II a.pos;holding [v] (truthy v))) :
  PT X a (λσ H Q=>ta σ H λx H'=>∃k,BO X.K x H' k/\Q k H'):=by
 intro LM s σ H Q I h;calc isTrue_plain (thn (g LM s σ H _ I h) λv c ⟨x,j,i,d,e⟩=>BP LM c σ j x v Q i d e)<|f _
theorem BQ:OpR X (Jl .Add) (λx y H Q=>∃i j,x=.byt i/\y=.byt j/\i.size+j.size<=16777216/\Q (.byt<|i++j) H):=by
 intro LM s σ H x y v u Q I c b h;let(i,j,rfl,rfl,d,q):=h;let(t,rfl):=c;let(a,rfl):=b;calc W.KBy.add_bytes d<|λa e=>⟨.byt<|i++j,H,I.tok _,⟨_,U⟩,q⟩
theorem vals1{x:V}{us:L0 Fe}(r:Vals [x] us):∃u,us=[u]/\RelV x u:=by
 cases r with
 |cons b a=>cases a;calc⟨_,U,b⟩
theorem vals2{x y:V}{us:L0 Fe}(r:Vals [x,y] us):∃u a,us=[u,a]/\RelV x u/\RelV y a:=by
 cases r with
 |cons e d =>
  cases d with
  |cons c b=>cases b;calc⟨_,_,U,e,c⟩
theorem vF(b:X.calm=LJ):cG X (.builtin "max") (λxs H Q=>∃i j,xs=[.int i,.int j]/\Q (.int (if j>i then j else i)) H):=by
 intro LM s σ H xs d Q I r h;let(i,j,rfl,q):=h;let(u,c,rfl,(t,rfl),(f,rfl)):=vals2 r;refine max_two_ints (I.ok.hd b) λh' e k=>⟨_,H,I.kept k,?_,q⟩
 by_cases a:j>i
 .rw[LO a,LO a];exact⟨_,U⟩
 .rw[LN a,LN a];calc⟨_,U⟩
theorem oy(b:X.calm=LJ):cG X (.builtin "min") (λxs H Q=>∃i j,xs=[.int i,.int j]/\Q (.int (if j<i then j else i)) H):=by
 intro LM s σ H xs d Q I r h;let(i,j,rfl,q):=h;let(u,c,rfl,(t,rfl),(f,rfl)):=vals2 r;refine min_two_ints (I.ok.hd b) λh' e k=>⟨_,H,I.kept k,?_,q⟩
 by_cases a:j<i
 .rw[LO a,LO a];exact⟨_,U⟩
 .rw[LN a,LN a];calc⟨_,U⟩
theorem kv:cG X (.type "int") (λxs H Q=>(∃i,xs=[.int i]/\Q (.int i) H)\/∃k,xs=[.bl k]/\Q (.int (if k then 1 else 0)) H):=by
 intro LM s σ H xs b Q I r h;rcases h with⟨i,rfl,q⟩|⟨k,rfl,q⟩
 .let(u,rfl,t,rfl):=vals1 r;exact call_int_int ⟨.int i,H,I,⟨_,U⟩,q⟩
 .let(u,rfl,a):=vals1 r;cases a;calc call_int_bool ⟨.int (if k then 1 else 0),H,I.tok _,⟨_,U⟩,q⟩
end
structure sQ(h:HB)(x dx C:HA)(mA:Str->Option Fe):Prop where
 obj:h.get? x=LH (W.instObj C dx)
 ns:h.Ns1 dx mA
 ne:dx≠x
theorem vG{h:HB}{f:HA}{c:Str->Option Fe}(n:h.Ns1 f c):∃b,h.get? f=LH b/\∀name,W.lookIn name b=LH (c name):=by
 let(o,d,r,j,m,l,_,k):=n;calc⟨o,j,λname=>?_⟩;let e:=k name;unfold nsFind findBy at e;rw[←Array.find?_toList]at e;unfold W.lookIn;rw[m];dsimp only;split
 .rename_i y q
  rw[q]at e;exact LU LH e
 .rename_i q
  rw[q]at e;let a:d.toList.any (·.refKey)=false:=by
   rw[List.any_eq_false];intro y i;let(z,t,g):=l y<|Cp.mp i;simp[DictEntry.refKey,g]
  let p:¬ d.toList.any (·.refKey)=true:=by rw[a];exact Bool.false_ne_true
  rw[LN p];calc LU LH e
theorem sQ.look{h:HB}{x c C:HA}{b:Str->Option Fe}(I:sQ h x c C b):∃a,W.InstAt h x (W.instObj C c) C (LH a)/\∀name,W.lookIn name a=LH (b name):=by
 let(a,d,e):=vG I.ns;calc⟨a,⟨I.obj,U,U,d⟩,e⟩
variable{A:Ip}{dx C f:HA}
section
variable{prog:Fw}{K:W.Frag}{mA:Str->Option Fe}{name:Str}{v:Fe}
theorem get_map{a:Bool}{Q:Fe->Iq->Prop}(X:K.In s.heap)(I:sQ s.heap x dx C mA)(f:W.plainGet K C name=LJ)(e:W.hasDictIn K C=LJ)
  (g:W.findIn K (.ref C) name=LH LI)(c:mA name=LH v)(b:W.handedIn v=LJ)(h:Q v { s with toks:=s.toks+1 }) :
  Iw (model prog w) A (getAttr (.ref x) name a) Q E s:=by
 let(i,J,d):=I.look;calc W.get_value X J (W.plainGet_of f).1 (W.findObj_own e g U (by rw[d,c])) b h
theorem xv{pl:Sem Bool}{Q:Fe×L0 Fe->Iq->Prop}(X:K.In s.heap)(I:sQ s.heap x dx C mA)(a:W.plainGet K C name=LJ)
  (hf:W.findIn K (.ref C) name=LH (LH<|.ref f))(d:W.isFn K (.ref f)=LJ)(c:mA name=LI)(h:Q (.ref f,[.ref x]) s) :
  Iw (model prog w) A (Jr (.ref x) name pl) Q E s:=by
 let(b,J,e):=I.look;calc W.method_fn X J (W.plainGet_of a).1 (W.plainGet_of a).2 hf (beq_iff_eq.mp d) (by show(W.lookIn name b).map (·.isSome)=LH LK;rw[e,c];rfl) h
theorem zB{ns:L0 Str}{Q:Unit->Iq->Prop}(X:K.In s.heap)(I:sQ s.heap x dx C mA)
  (l:W.findIn K (.ref C) "__setattr__" = LH (LH<|.builtin "object.__setattr__")) (m:W.plainOver K C=LJ)(k:W.takerIn K C name=LH LI)(n:W.hasDictIn K C=LJ)
  (hw:PySem.Within mA ns)(p:⇑ns<=HL)
  (h:∀h',sQ h' x dx C (λy=>if y=name then LH v else mA y)->HB.SameBut dx s.heap h'->Q () { s with heap:=h',toks:=s.toks+2 }) :
  Iw (model prog w) A (setAttr (.ref x) name v) Q E s:=by
 let(u,J,B):=I.look;calc W.set_plain X J l<|W.osa_open (s:={ s with toks:=s.toks+1 }) (r:=LI) X J m k λb=>?_;let(D,o,g):=W.any_some n;let j:s.heap.get? x=LH ⟨.ref C,LH dx,.plain,#[]⟩:=I.obj;calc E2<|E6<|E2<|E2<|wpAny_loadPart j<|E2<|W.Looks.here (s:={ s with toks:=s.toks+1 }) (W.looks_clsIn X o) ?_;rw[g];calc E6 (a:=LH dx)<|E2<|E6<|E2 ?_;refine wpAny_nsSet1 (s:={ s with toks:=s.toks+1 }) I.ns λh' d c=>?_
 let(z,q,t,e,f,i):=d.count<|PySem.Within.cons name v hw;refine E2 (wpAny_lookBehind e (by rw[f];exact pastItsLine_dict (xc i (by rw[gb];lia))) ?_);calc E6<|h _ ⟨(c.2 _<|Ne.symm I.ne).trans I.obj,d,I.ne⟩ c
theorem xw{R:Js->Iq->Prop}{vs:L0 Fe}{b:L0 (Str×Fe)}(X:K.In s.heap)(c:W.makesIn K C=LJ)
  (hi:W.findIn K (.ref C) "__init__" = LH (LH<|.ref f)) (hf:W.typeIn K (.ref f)=LH (.type "function"))
  (h:Jt (model prog w) (A.under<|.builtin "type.__call__" ⟨.ref C :: vs,b⟩) (.call (.ref f) ⟨.ref (↥s+1) :: vs,b⟩) (W.InitBack (↥s+1) R)
   { s with heap:=(s.heap.push W.emptyDict).push (W.instObj C ↥s) }) :
  Jt (model prog w) A (.call (.ref C) ⟨vs,b⟩) R s:=by
 let(i,g,d,t,e):=s;calc W.make_core (W.makes_of X c) (W.looks_findIn X hi) (λa=>W.bind_fn X a hf) (.inl U) h
end
def bD(f:Str)(v:V):L0 (Str×V)->L0 (Str×V)
 | []=>[(f,v)]
 |(g,x) :: r=>if g=f then(g,v) :: r else(g,x) :: bD f v r
theorem kZ(f g:Str)(v:V):∀fs:L0 (Str×V),(bD f v fs).lookup g=if g=f then LH v else fs.lookup g
 | []=>by
  show List.lookup g [(f,v)]=_;by_cases h:g=f
  .let a:(g == f)=true:=beq_iff_eq.mpr h;simp only[List.lookup,a,LO h]
  .let a:(g == f)=false:=beq_eq_false_iff_ne.mpr h;simp only[List.lookup,a,LN h]
 |(k,x) :: r=>by
  let c:=kZ f g v r;rw[show bD f v ((k,x) :: r)=(if k=f then(k,v) :: r else(k,x) :: bD f v r)from U];by_cases b:k=f
  .rw[LO b];by_cases h:g=k
   .let a:(g == k)=true:=beq_iff_eq.mpr h;simp only[List.lookup,a,LO (h.trans b)]
   .let a:(g == k)=false:=beq_eq_false_iff_ne.mpr h;simp only[List.lookup,a,LN (λe:g=f=>h<|e.trans b.symm)]
  .rw[LN b];by_cases h:g=k
   .let a:(g == k)=true:=beq_iff_eq.mpr h;simp only[List.lookup,a,LN (λe:g=f=>b<|h.symm.trans e)]
   .let a:(g == k)=false:=beq_eq_false_iff_ne.mpr h;simp only[List.lookup,a];calc c
theorem kz(f:Str)(v:V):∀fs:L0 (Str×V),f∈(bD f v fs).map (·.1)/\∀g,g∈fs.map (·.1)->g∈(bD f v fs).map (·.1)
 | []=>⟨by simp[bD],λg h=>by simp at h⟩
 |(k,x) :: r=>by
  let(c,b):=kz f v r;rw[show bD f v ((k,x) :: r)=(if k=f then(k,v) :: r else(k,x) :: bD f v r)from U];by_cases a:k=f
  .rw[LO a];subst a;exact⟨by simp,λg h=>~~~h⟩
  .rw[LN a];refine⟨?_,λg h=>?_⟩
   .rw[jc];exact fo _ c
   .rw[jc]at h⊢;rcases bL.mp h with e|e
    .exact bL.mpr<|.inl e
    .exact fo _<|b g e
theorem lh(f:Str)(v:V):∀fs:L0 (Str×V),⇑(bD f v fs)<=⇑fs+1
 | []=>by simp[bD]
 |(k,x) :: r=>by
  let b:=lh f v r;rw[show bD f v ((k,x) :: r)=(if k=f then(k,v) :: r else(k,x) :: bD f v r)from U];by_cases a:k=f
  .rw[LO a,gb,gb];lia
  .rw[LN a,gb,gb];lia
theorem nO.some_of{v:V}{o:Option Fe}(r:nO (LH v) o):∃u,o=LH u/\RelV v u:=by
 cases o with
 |none=>exact(show False from r).elim
 |some u=>calc⟨u,U,r⟩
theorem nO.none_of{o:Option Fe}(r:nO LI o):o=none:=by
 cases o with
 |none=>rfl
 |some u=>calc(show False from r).elim
theorem oz{v:V}{u:Fe}(r:RelV v u):W.handedIn u=true:=by
 cases v with
 |non=>cases (show u=Fe.none from r);rfl
 |bl b=>cases (show u=Fe.bool b from r);rfl
 |int i=>obtain⟨t,e⟩:=(show ∃t,u=Fe.int i t from r);cases e;rfl
 |str x=>obtain⟨t,e⟩:=(show ∃t,u=Fe.str x t from r);cases e;rfl
 |byt b=>obtain⟨t,e⟩:=(show ∃t,u=Fe.bytes b t from r);cases e;rfl
 |flt b=>obtain⟨t,e⟩:=(show ∃t,u=Fe.float b t from r);cases e;rfl
 |ref a=>cases (show u=Fe.ref a from r);rfl
 |ty n=>cases (show u=Fe.type n from r);rfl
section
variable{fs fs':L0 (Str×V)}
theorem lK(hok:HOk P w H h)(e:H a=LH (.ins C dx fs)):∃b,sQ h a dx C b/\(∀f,nO (fs.lookup f)<|b f)/\PySem.Within b (fs.map (·.1))/\⇑fs<=1000/\H dx=LH (.own a):=by
 let(d,z,ne,c,b,n,r,q):=(show cg P w H h a (.ins C dx fs)from hok a _ e);calc⟨b,⟨c,n,ne⟩,r,q,z,d⟩
end
structure Cls(K:W.Frag)(C:HA):Prop where
 pg:W.plainGet K C Str.empty=LJ
 hd:W.hasDictIn K C=LJ
 po:W.plainOver K C=LJ
 sa:W.findIn K (.ref C) "__setattr__" = LH (LH<|.builtin "object.__setattr__")
def Cls.get{K:W.Frag}{C:HA}(c:Cls K C)(f:Str):W.plainGet K C f=true:=c.pg
def NoAttr(K:W.Frag)(C:HA)(f:Str):Prop:=W.findIn K (.ref C) f=LH LI
theorem NoAttr.taker{K:W.Frag}{C:HA}{f:Str}(n:NoAttr K C f):W.takerIn K C f=LH none:=by
 unfold W.takerIn;rw[show W.findIn K (.ref C) f=LH LI from n];rfl
structure Con(K:W.Frag)(C:HA)(f:Str)(v:V)(u:Fe):Prop where
 at_:W.findIn K (.ref C) f=LH (LH u)
 rel:RelV v u
 get:W.specialIn K u "__get__" = LH LI
 cp:W.copiedNames.contains f=LK
structure Meth(K:W.Frag)(C:HA)(m:Str)(f:HA):Prop where
 at_:W.findIn K (.ref C) m=LH (LH<|.ref f)
 fn:W.isFn K (.ref f)=LJ
 kp:W.keepIn K (.ref f)=LJ
section
variable{fs:L0 (Str×V)}{f:Str}{v:V}
theorem sR{b:Bool}{Q:Fe->Iq->Prop}(I:Inv X LM σ H s)(e:H a=LH (.ins C dx fs))(c:Cls X.K C)(n:NoAttr X.K C f)(l:fs.lookup f=LH v)
  (h:∀u s',Inv X LM σ H s'->RelV v u->Q u s'):Iw (model X.prog X.w) A (getAttr (.ref a) f b) Q E s:=by
 let(g,O,r,_,_,_):=lK I.hok e;let(u,i,d):=nO.some_of (v:=v) (o:=g f) (by rw[←l];exact r f);calc get_map I.kIn O (c.get f) c.hd n i (oz d)<|h u _ (I.tok _) d
theorem lZ{m:Str}{g:HA}{pl:Sem Bool}{Q:Fe×L0 Fe->Iq->Prop}(I:Inv X LM σ H s)(e:H a=LH (.ins C dx fs))(c:Cls X.K C)(k:Meth X.K C m g)(l:fs.lookup m=LI)
  (h:Q (.ref g,[.ref a]) s):Iw (model X.prog X.w) A (Jr (.ref a) m pl) Q E s:=by
 let(b,O,r,_,_,_):=lK I.hok e;let d:b m=none:=nO.none_of (by rw[←l];exact r m);calc xv I.kIn O (c.get m) k.at_ k.fn d h
theorem sS{y:V}{u:Fe}{Q:Unit->Iq->Prop}(I:Inv X LM σ H s)(e:H a=LH (.ins C dx fs))(c:Cls X.K C)(n:NoAttr X.K C f)(B:⇑fs<1000)(m:RelV y u)
  (h:∀s',Inv X LM σ (upd H a<|.ins C dx<|bD f y fs) s'->Q () s'):Iw (model X.prog X.w) A (setAttr (.ref a) f u) Q E s:=by
 let(j,O,r,i,_,k):=lK I.hok e;let p:⇑(fs.map (·.1))<=HL:=by rw[bc,Jq];lia
 refine zB I.kIn O c.sa c.po n.taker c.hd i p λh' d l=>h _ ?_
 let hd:∃o,h'.get? dx=LH o:=let ⟨o,_,_,e',_⟩:=d.ns;⟨o,e'⟩;refine I.write (x:=a) (e:=dx) (by rw[e];exact True.intro) (.inr k) (λb q v z=>(l.2 b v).trans z) hd ?_;refine⟨by rw[av O.ne];exact k,?_,O.ne,d.obj,_,d.ns,λg=>?_,λg t=>?_⟩
 .let:=lh f y fs;lia
 .show nO ((bD f y fs).lookup g) (if g=f then LH u else j g);rw[kZ];by_cases q:g=f
  .rw[LO q,LO q];exact m
  .rw[LN q,LN q];exact r g
 .by_cases q:g=f
  .rw[q];exact(kz f y fs).1
  .refine(kz f y fs).2 g (i g λz=>t ?_);show(if g=f then LH u else j g)=LI;rw[LN q];calc z
theorem Inv.made(I:Inv X LM σ H s):Inv X LM σ (upd (upd H ↥s<|.own<|↥s+1) (↥s+1)<|.ins C ↥s [])
  { s with heap:=(s.heap.push W.emptyDict).push (W.instObj C ↥s) }:=by
 let c:(s.heap.push W.emptyDict).get? ↥s=LH W.emptyDict:=HB.get?_push_size s.heap U;let h:((s.heap.push W.emptyDict).push<|W.instObj C ↥s).get? (↥s+1)=LH (W.instObj C ↥s):=by
  let:=HB.get?_push_size (s.heap.push W.emptyDict) (o:=W.instObj C ↥s) U
  rwa [HB.size_push]at this
 let g:(s.heap.push W.emptyDict).Ns ↥s (λ_=>LI):=⟨W.emptyDict,#[],_,c,U,(λe f=>LP f (by simp)),λ_=>U⟩;let i:=I.laid (a:=↥s) (o:=.own<|↥s+1) (h':=s.heap.push W.emptyDict) (t':=s.toks) (λb u q=>HB.get?_push_of_some _ q) (wX _) ⟨_,c⟩;calc i.laid (a:=↥s+1) (o:=.ins C ↥s []) (t':=s.toks) (λb u q=>HB.get?_push_of_some _ q) (zI<|HB.size_push _ _) ?_;let ne:↥s≠↥s+1:=wY<|yg _;calc⟨by rw[av ne,ae],wZ _,ne,h,λ_=>LI,(HB.Ns1.of_empty g).at λo q=>HB.get?_push_of_some _ q,λ_=>True.intro,λy d=>LP U d⟩
theorem zC{prog:Fw}{w:Fn}{a:Env}{e:Iz}{f:Str}{pos:Pos}{s:Iq}{Q:Fe->Iq->Prop}(c:Ju e f a (eval e a)=eval e a)
  (h:Iw (model prog w) A (eval e a) (λo b=>Iw (model prog w) A (getAttr o f LJ) Q E b) E s):Iw (model prog w) A (eval (.Attribute e f pos) a) Q E s :=
 Attribute_any_ h (by rw[arm_eval_Attribute,c])
end
inductive AY(K:W.Frag)(f:Str)(Q:VK)(x:V)(H1:Hp):Prop
 |mk (a C dx fs v:_)(_:x=.ref a)(_:H1 a=LH (.ins C dx fs))(_:Cls K C)(_:NoAttr K C f)(_:fs.lookup f=LH v)(_:Q v H1)
def Dq(K:W.Frag)(ta:TE)(f:Str):TE:=λσ H Q=>ta σ H λx a=>AY K f Q x a
def ER(K:W.Frag)(ta c:TE)(f:Str):TS:=λD σ H=>c σ H λy d=>ta σ d λx b=>∃a C dx fs,x=.ref a/\b a=LH (.ins C dx fs)/\Cls K C/\NoAttr K C f/\⇑fs<1000 /\
 D.nx σ (upd b a<|.ins C dx<|bD f y fs)
variable{o:Iz}
section
variable{value:Iz}{f:Str}{pos' HJ:Pos}{tv:TE}
theorem aV(g:PE X e ta)(i:Ju e f X.env (eval e X.env)=eval e X.env):PE X (.Attribute e f pos) (Dq X.K ta f):=by
 intro LM s σ H Q I h;calc zC i<|thn (g LM s σ H _ I h) λu t ⟨x,p,o,b,a,C,dx,fs,v,j,k,c,n,l,q⟩=>?_;subst j;obtain rfl:u=Fe.ref a:=b;calc sR o k c n l λr s2 m d=>⟨v,p,m,d,q⟩
theorem dc(m:PE X o ta)(j:PE X value tv)(k:IM value (LH<|.Attribute o f pos') pos.line X.env=pure LK):PS X (.Assign [.Attribute o f pos'] value pos) (ER X.K ta tv f):=by
 intro LM s σ H D I h;calc plainObj_wpAny_Assign_Attribute (thn (j LM s σ H _ I h) λu b ⟨y,z,w,d,q⟩=>thn (m LM b σ z _ w q) λi s2 ⟨x,B,v,e,a,C,dx,fs,p,r,c,n,l,g⟩=>?_) k;subst p;obtain rfl:i=Fe.ref a:=e;calc sS v r c n l d λA t=>⟨σ,_,t,g⟩
end
section
variable{Q:Fe->Iq->Prop}{c:Fe}{b:Bool}
inductive kA(K:W.Frag)(H:Hp):V->Fe->Prop where
 |non:kA K H .non (.type "NoneType")
 |bl (x:Bool):kA K H (.bl x) (.type "bool")
 |int (i:Int):kA K H (.int i) (.type "int")
 |str (x:Str):kA K H (.str x) (.type "str")
 |flt (x:UInt64):kA K H (.flt x) (.type "float")
 |lst {a:HA}{xs:L0 V}(e:H a=LH (.lst xs)):kA K H (.ref a) (.type "list")
 |frz {a:HA}{o:Obj}{xs:L0 V}(e:H a=LH (.frz o<|.lst xs)):kA K H (.ref a) (.type "list")
 |tup {a:HA}{xs:L0 V}(e:H a=LH (.tup xs)):kA K H (.ref a) (.type "tuple")
 |dK {a:HA}{kvs:L0 (Key×V)}(e:H a=LH (.dK kvs)):kA K H (.ref a) (.type "dict")
 |dT {a:HA}{kvs:L0 (L0 Key×V)}(e:H a=LH (.dT kvs)):kA K H (.ref a) (.type "dict")
 |ins {a C dx:HA}{fs:L0 (Str×V)}(e:H a=LH (.ins C dx fs))(cl:Cls K C)(ha:W.findIn K (.ref C) "__class__" = LH (LH<|.builtin "object.__class__"))
   (hn:W.specialIn K (.builtin "object.__class__") "__get__" = LH (LH<|.builtin "getset_descriptor.__get__")) (htk:W.takesIn K (.builtin "object.__class__")=LH LJ)
   (hm:W.mroIn K C (.type "object")=LH LJ):kA K H (.ref a) (.ref C)
theorem vH{x:V}{u t:Fe}(I:Inv X LM σ H s)(d:RelV x u)(ty:kA X.K H x t)(e:W.kitOne X.K t c=LH b)(h:∀k,Q (.bool b) { s with toks:=k }) :
  Iw (model X.prog X.w) A (call (.builtin "isinstance") [u,c]) Q E s:=by
 cases ty with
 |non=>cases (show u=Fe.none from d);exact W.kia_one W.kitx_none I.kIn True.intro e (λz=>nomatch z) h
 |bl y=>cases (show u=Fe.bool y from d);exact W.kia_one W.kitx_bool I.kIn True.intro e (λz=>nomatch z) h
 |int i=>obtain⟨t,q⟩:=(show ∃t,u=Fe.int i t from d);cases q;exact W.kia_one W.kitx_int I.kIn True.intro e (λz=>nomatch z) h
 |str y=>obtain⟨t,q⟩:=(show ∃t,u=Fe.str y t from d);cases q;exact W.kia_one W.kitx_str I.kIn True.intro e (λz=>nomatch z) h
 |flt y=>obtain⟨t,q⟩:=(show ∃t,u=Fe.float y t from d);cases q;exact W.kia_one W.kitx_float I.kIn True.intro e (λz=>nomatch z) h
 | @lst a g ea =>
  cases (show u=Fe.ref a from d);let(_,_,n,_,f):=(show cg X.prog X.w H s.heap a (.lst g)from I.hok a _ ea);exact W.kia_one W.kitx_list I.kIn ⟨_,f,U⟩ e (λz=>nomatch z) h
 | @frz a ob g ea =>
  cases (show u=Fe.ref a from d);let(_,_,_,n,_,f):=(show cg X.prog X.w H s.heap a (.frz ob<|.lst g)from I.hok a _ ea);exact W.kia_one W.kitx_list I.kIn ⟨_,f,U⟩ e (λz=>nomatch z) h
 | @tup a g ea =>
  cases (show u=Fe.ref a from d);let(_,_,_,p):=(show cg X.prog X.w H s.heap a (.tup g)from I.hok a _ ea);let(o,f,j,_):=p;exact W.kia_one W.kitx_tuple I.kIn ⟨o,f,j⟩ e (λz=>nomatch z) h
 | @dK a kvs ea =>
  cases (show u=Fe.ref a from d);let(_,_,r,_,p):=(show cg X.prog X.w H s.heap a (.dK kvs)from I.hok a _ ea);let(o,l,m,f,j,_):=p;exact W.kia_one W.kitx_dict I.kIn ⟨o,f,j.1⟩ e (λz=>nomatch z) h
 | @dT a kvs ea =>
  cases (show u=Fe.ref a from d);let(_,_,g,_,o,l,m,f,j,_):=(show cg X.prog X.w H s.heap a (.dT kvs)from I.hok a _ ea);exact W.kia_one W.kitx_dict I.kIn ⟨o,f,j.1⟩ e (λz=>nomatch z) h
 | @ins a C dx fs ea cl ha hn htk hm =>
  cases (show u=Fe.ref a from d);let(B,O,_):=lK I.hok ea;let(v,J,_):=O.look;calc W.kia_one (W.kitx_own (cl.get _) cl.hd ha hn htk hm) I.kIn J e (λz=>nomatch z) h
end
structure bI(k:Nat)(A:Ip):Prop where
 hd:A.handled=LI
 dp:A.depth+3*k+5<Jv
 un:A.units+16*k+200<Jw
theorem bI.mono{j k:Nat}{A:Ip}(r:bI k A)(h:j<=k):bI j A:=⟨r.hd,by have:=r.dp;lia,by have:=r.un;lia⟩
theorem bI.deeper{k:Nat}{A:Ip}(r:bI (k+1) A)(a:Env):bI k (A.deeper a) :=
 ⟨r.hd,by have:=r.dp;show A.depth+1+3*k+5<_;lia,by have:=r.un;show A.units+3+16*k+200<_;lia⟩
theorem sT{A:Ip}{C:HA}{us:L0 Fe}{a:L0 (Str×Fe)}:(A.under<|.builtin "type.__call__" ⟨.ref C :: us,a⟩).depth=A.depth+1:=by
 first|rfl|simp[Ip.under,Jx.weight,Jx.isCreation,Jx.isGuard,Jx.isCaller,Jx.frames,Jx.isFrame,guardIds]
theorem sU{A:Ip}{C:HA}{us:L0 Fe}{a:L0 (Str×Fe)}:(A.under<|.builtin "type.__call__" ⟨.ref C :: us,a⟩).units=A.units+1:=by
 first|rfl|simp[Ip.under,Jx.cUnits,Jx.frames,Jx.isFrame]
theorem bI.make{k:Nat}{A:Ip}(r:bI (k+1) A)(C:HA)(us:L0 Fe)(a:L0 (Str×Fe)):bI k (A.under<|.builtin "type.__call__" ⟨.ref C :: us,a⟩) :=
 ⟨r.hd,by have:=r.dp;rw[sT];lia,by have:=r.un;rw[sU];lia⟩
theorem bI.depth{k:Nat}{A:Ip}(r:bI k A):A.depth<Jv:=by have:=r.dp;lia
theorem bI.units{k:Nat}{A:Ip}(r:bI k A):A.units+64<Jw:=by have:=r.un;lia
def BR:TA:=λ_ H Q=>Q [] H
def Dr(ta:TE)(b:TA):TA:=λσ H Q=>ta σ H λx d=>b σ d λa c=>Q (x :: a) c
variable{es:L0 Iz}{t:TA}
def af:PA X [] BR:=λ_ _ _ _ H Q I h=>Calls.spliced_nil ⟨[],H,I,.nil,h⟩
theorem aa(k:PE X e te)(j:PA X es t)(i:IC (e :: es) X.env=(LK,eval e X.env) :: IC es X.env:=by rfl):PA X (e :: es) (Dr te t):=by
 intro pos LM s σ H Q I h;rw[i];show Iw _ _ (spliced ((LK,eval e X.env) :: IB pos (IC es X.env))) _ _ s;calc Calls.spliced_cons<|thn (k LM s σ H _ I h) λu b ⟨x,o,m,d,g⟩=>?_;calc thn (j pos LM b σ o _ m g) λp s2 ⟨a,n,l,c,f⟩=>⟨x :: a,n,l,.cons d c,f⟩
def ES(t:TA):TE:=λσ H Q=>t σ H λa b=>⇑a<=HL/\∀p,b p=LI->Q (.ref p) (upd b p<|.tup a)
def ET(t:TA):TE:=λσ H Q=>t σ H λa b=>⇑a<=HL/\∀p,b p=LI->Q (.ref p) (upd b p<|.lst a)
theorem ba{x1} (h:PA X es t):PE X (.Tuple es x1 pos) (ES t):=by
 intro LM s σ H Q I i;refine wpAny_Tuple_spliced (thn (h pos LM s σ H _ I i) λg a ⟨f,d,c,r,z,q⟩=>⟨by rw[←⇑r];exact z,?_⟩);let j:d ↥a=none:=c.hok.fresh<|wX _;calc⟨.ref ↥a,upd d ↥a<|.tup f,c.laid (t':=a.toks) (λb u e=>HB.get?_push_of_some _ e) (wX _) ?_,U,q _ j⟩;calc⟨z,g,r,⟨_,HB.get?_push_size _ U,U,_,U⟩⟩
theorem bj(h:PA X es t):PE X (.List es pos) (ET t):=by
 intro LM s σ H Q I i;refine wpAny_List_spliced (thn (h pos LM s σ H _ I i) λg a ⟨f,d,c,r,z,q⟩=>⟨by rw[←⇑r];exact z,?_⟩);let j:d ↥a=none:=c.hok.fresh<|wX _;calc⟨.ref ↥a,upd d ↥a<|.lst f,c.laid (t':=a.toks) (λb u e=>HB.get?_push_of_some _ e) (wX _) ?_,U,q _ j⟩;calc⟨z,g,0,r,HB.get?_push_size _ U⟩
abbrev Sp:=L0 V->Hp->VK->XK->Prop
abbrev CXT:=L0 Env->Hp->Iq->XK->Fe->Iq->Prop
structure qj(P:Fw)(w:Fn)(K:W.Frag)(mg:Str->Option Fe)(base:HB)(A:Ip)(outer:L0 Env)(s:Iq)(H:Hp):Prop where
 frames:A.frames=LH outer
 mod:Mod K mg base
 bs:∀b o,base.get? b=LH o->s.heap.get? b=LH o/\H b=LI
 bsz:base.objs.size<=↥s
 funs:s.heap.FunFrames base outer
 frf:∀b∈frs outer,H b=LI
 hok:HOk P w H s.heap
 bare:AllBare s.gens
def CE(a:L0 Env)(P:Fw)(w:Fn)(H:Hp)(s:Iq)(Q:VK)(u:Fe)(s':Iq):Prop :=
 ∃v H',s'.os=s.os/\AllBare s'.gens/\Un (frs a) [] H H' s.heap s'.heap/\HOk P w H' s'.heap/\RelV v u/\Q v H'
def CR(CX:CXT)(a:L0 Env)(P:Fw)(w:Fn)(H:Hp)(s:Iq)(Q:VK)(E:XK)(r:Js)(s':Iq):Prop :=
 match r with
 | .ok (.ret u)=>CE a P w H s Q u s'
 | .ok _=>False
 | .error e=>CX a H s E e s'
structure aD(P:Fw)(w:Fn)(K:W.Frag)(mg:Str->Option Fe)(base:HB)(CX:CXT)(k:Nat)(f:HA)(fd:Jy)(ps:L0 Str)(sp:Sp):Prop where
 len:∀vs H Q E,sp vs H Q E->⇑vs=⇑ps
 run:∀(A:Ip)(outer:L0 Env)(s:Iq)(H:Hp)(args:Args)(us:L0 Fe)(vs:L0 V)(Q:VK)(E:XK),bI k A->qj P w K mg base A outer s H->Jz s fd args (ps.zip us)->Vals vs us->sp vs H Q E ->
  Jt (model P w) A (.call (.ref f) args) (CR CX outer P w H s Q E) s
theorem aD.mono{P:Fw}{w:Fn}{K:W.Frag}{mg:Str->Option Fe}{base:HB}{CX:CXT}{j k:Nat}{f:HA}{c:Jy}{ps:L0 Str}{sp:Sp}(F:aD P w K mg base CX j f c ps sp)(h:j<=k) :
  aD P w K mg base CX k f c ps sp:=⟨F.len,λA a s H b e d Q E g=>F.run A a s H b e d Q E<|g.mono h⟩
theorem qj.make{P:Fw}{w:Fn}{K:W.Frag}{mg:Str->Option Fe}{base:HB}{A:Ip}{a:L0 Env}{s:Iq}{H:Hp}(e:qj P w K mg base A a s H)(C:HA)(us:L0 Fe)(b:L0 (Str×Fe)) :
  qj P w K mg base (A.under<|.builtin "type.__call__" ⟨.ref C :: us,b⟩) a s H:=⟨by first|exact e.frames|(simpa[Ip.under,Jx.envs,Jx.isFrame,pushEnvs]using e.frames),e.mod,e.bs,e.bsz,e.funs,e.frf,e.hok,e.bare⟩
section
variable{s':Iq}
def Inv.env0(I:Inv X LM σ H s):qj X.prog X.w X.K X.mg X.base X.A X.stack s H :=
 ⟨I.ok.frames,I.ok.mod,I.bs,xc I.ok.bsz I.sz,I.stack,I.stkFree,I.hok,I.bare⟩
theorem Inv.after{Q:VK}{u:Fe}(I:Inv X LM σ H s)(h:CE X.stack X.prog X.w H s Q u s'):EP X LM σ Q u s':=by
 let(v,H',os,a,un,hok,r,q):=h;let(e,g,d,t,c):=s';obtain rfl:c=s.os:=os;calc⟨v,H',I.call (h':=e) (g':=g) (d':=d) (t':=t) (ch:=[]) un hok a<|λb z=>LP z (by simp),r,q⟩
end
def Ds(sp:Sp)(dvs:L0 V)(E:XK)(t:TA):TE:=λσ H Q=>t σ H λa b=>sp (a++dvs) b Q E
def AZ(C:HA)(sp:Sp)(dvs:L0 V)(E:XK)(t:TA):TE:=λσ H Q=>t σ H λb a=>∀x dx,a x=LI->a dx=LI->dx≠x ->
 sp (.ref x :: (b++dvs)) (upd (upd a dx<|.own x) x<|.ins C dx []) (λv c=>v=.non/\Q (.ref x) c) E
def Binds(K:W.Frag)(b:Jy)(ps:L0 Str)(ds:L0 Fe):Prop :=
 ∀(s:Iq)(a:L0 Fe),K.In s.heap->⇑(a++ds)=⇑ps->Jz s b ⟨a,[]⟩ (ps.zip<|a++ds)
theorem Binds.all{K:W.Frag}{b:Jy}{ps:L0 Str}(h:∀us:L0 Fe,⇑us=⇑ps->JA b ⟨us,[]⟩=pure (ps.zip us)):Binds K b ps []:=λs us _ a=>by
 rw[iP]at a⊢;calc .of_eq<|h us a
def Passes(CX:CXT)(X:Cx)(E:XK):Prop:=∀(LM:L0 (HA×Obj))(σ:St)(H:Hp)(s:Iq)(e:Fe)(a:Iq),Inv X LM σ H s->CX X.stack H s E e a->X.xe e a
variable{p:Pos}
section
variable{CX:CXT}{k:Nat}{fd:Jy}{ps:L0 Str}{sp:Sp}{dvs:L0 V}{ds:L0 Fe}{E:XK}{x m:Str}{apos:Pos}
theorem sV{LM:L0 (HA×Obj)}{σ:St}{H:Hp}{s:Iq}{Q:VK}{us:L0 Fe}{vs:L0 V}(F:aD X.prog X.w X.K X.mg X.base CX k f fd ps sp)(g:bI k X.A)(l:Binds X.K fd ps ds)(j:Vals dvs ds)(d:Passes CX X E)
  (I:Inv X LM σ H s)(r:Vals vs us)(h:sp (vs++dvs) H Q E):Iw (model X.prog X.w) X.A (call (.ref f) us) (EP X LM σ Q) X.xe s:=by
 let b:Vals (vs++dvs) (us++ds):=r.append j;let i:⇑(us++ds)=⇑ps:=by rw[←⇑b];exact F.len _ _ _ _ h
 calc JB<|JC (F.run X.A X.stack s H ⟨us,[]⟩ (us++ds) (vs++dvs) Q E g I.env0 (l s us I.kIn i) b h) λr c a=>?_;cases r with
 |error e=>exact d LM σ H s e c I a
 |ok fl =>
  cases fl with
  |ret u=>exact I.after a
  |next=>exact False.elim a
  |brk=>exact False.elim a
  |cont=>calc False.elim a
theorem zD(F:aD X.prog X.w X.K X.mg X.base CX k f fd ps sp)(g:bI k X.A)(l:Gl X x)(i:X.mg x=LH (.ref f))(j:W.keepIn X.K (.ref f)=LJ)(n:Binds X.K fd ps ds)(m:Vals dvs ds)(d:Passes CX X E)
  (o:PA X (e :: es) t)(b:(x == ("__debug__" : Str))=false:=by decide) (he:IC (e :: es) X.env=(LK,eval e X.env) :: IC es X.env:=by rfl)(a:(IB pos<|IC es X.env).any (·.1)=false:=by rfl) :
  PE X (.Call (.Name x p) (e :: es) [] pos) (Ds sp dvs E t):=by
 intro LM s σ H Q I h;calc Fd<|cY I l i ?_ b;calc W.callWith_K (h₀:=X.base) I.ok.mod.kin j (thn (o pos LM s σ H _ I h) λv y ⟨u,z,c,r,q⟩=>⟨c.kIn,?_⟩) he a;calc sV F g n m d c r q
structure Mk(K:W.Frag)(C f:HA):Prop where
 makes:W.makesIn K C=LJ
 init:W.findIn K (.ref C) "__init__" = LH (LH<|.ref f)
 fn:W.isFn K (.ref f)=LJ
 kp:W.keepIn K (.ref C)=LJ
theorem qk{LM:L0 (HA×Obj)}{σ:St}{H:Hp}{s:Iq}{Q:VK}{us:L0 Fe}{vs:L0 V}(M:Mk X.K C f)(F:aD X.prog X.w X.K X.mg X.base CX k f fd ps sp)(m:bI (k+1) X.A)(p:Binds X.K fd ps ds)(o:Vals dvs ds)
  (l:Passes CX X E)(I:Inv X LM σ H s)(r:Vals vs us)
  (h:∀x dx,H x=LI->H dx=LI->dx≠x->sp (.ref x :: (vs++dvs)) (upd (upd H dx<|.own x) x<|.ins C dx []) (λv y=>v=.non/\Q (.ref x) y) E) :
  Iw (model X.prog X.w) X.A (call (.ref C) us) (EP X LM σ Q) X.xe s:=by
 let d:=h (↥s+1) ↥s (I.hok.fresh<|x4 _) (I.hok.fresh<|wX _)<|wY<|yg _;let b:=Inv.made (C:=C) I;let c:Vals (V.ref (↥s+1) :: (vs++dvs)) (Fe.ref (↥s+1) :: (us++ds)):=.cons U<|r.append o;let n:⇑(Fe.ref (↥s+1) :: us++ds)=⇑ps:=by
  let e:=⇑c;rw[F.len _ _ _ _ d]at e;exact e.symm
 refine JB (xw (f:=f) I.kIn M.makes M.init (beq_iff_eq.mp M.fn) (JC (F.run _ X.stack _ _ ⟨Fe.ref (↥s+1) :: us,[]⟩ (Fe.ref (↥s+1) :: (us++ds)) _ _ E (m.make C us [])
  (b.env0.make C us []) (p _ (Fe.ref (↥s+1) :: us) b.kIn n) c d) λr g a=>?_))
 cases r with
 |error e=>exact l LM σ _ _ e g b a
 |ok fl =>
  cases fl with
  |ret u =>
   let(v,H',t,i,q,j):=b.after a;subst q;exact⟨i,⟨V.ref<|↥s+1,H',t,U,j⟩⟩
  |next=>exact False.elim a
  |brk=>exact False.elim a
  |cont=>calc False.elim a
theorem uJ(M:Mk X.K C f)(F:aD X.prog X.w X.K X.mg X.base CX k f fd ps sp)(g:bI (k+1) X.A)(j:Gl X x)(i:X.mg x=LH (.ref C))(m:Binds X.K fd ps ds)(l:Vals dvs ds)(d:Passes CX X E)
  (n:PA X (e :: es) t)(b:(x == ("__debug__" : Str))=false:=by decide) (he:IC (e :: es) X.env=(LK,eval e X.env) :: IC es X.env:=by rfl)(a:(IB pos<|IC es X.env).any (·.1)=false:=by rfl) :
  PE X (.Call (.Name x p) (e :: es) [] pos) (AZ C sp dvs E t):=by
 intro LM s σ H Q I h;calc Fd<|cY I j i ?_ b;calc W.callWith_K (h₀:=X.base) I.ok.mod.kin M.kp (thn (n pos LM s σ H _ I h) λu v ⟨o,y,c,r,q⟩=>⟨c.kIn,?_⟩) he a;calc qk M F g m l d c r q
theorem xx(M:Mk X.K C f)(F:aD X.prog X.w X.K X.mg X.base CX k f fd ps sp)(c:bI (k+1) X.A)(e:Gl X x)(d:X.mg x=LH (.ref C))(i:Binds X.K fd ps ds)(g:Vals dvs ds)(b:Passes CX X E)
  (a:(x == ("__debug__" : Str))=false:=by decide):PE X (.Call (.Name x p) [] [] pos) (AZ C sp dvs E BR):=by
 intro LM s σ H Q I h;calc Fd<|cY I e d ?_ a;calc W.callWith_K0 I.kIn M.kp<|qk (us:=[]) M F c i g b I .nil h
end
section
variable{CX:CXT}{k:Nat}{fd:Jy}{ps ks:L0 Str}{sp:Sp}{E:XK}{x m:Str}{apos HK:Pos}{kws:L0 Keyword}{tk:TA}{nm:Option Str}
structure EU(K:W.Frag)(fd:Jy)(ps ks:L0 Str)(g:L0 Fe->L0 Fe->L0 Fe)(gV:L0 V->L0 V->L0 V):Prop where
 to:∀(s:Iq)(us ws:L0 Fe),K.In s.heap->⇑(g us ws)=⇑ps->Jz s fd ⟨us,ks.zip ws⟩ (ps.zip<|g us ws)
 rel:∀{vs:L0 V}{us:L0 Fe}{zs:L0 V}{ws:L0 Fe},Vals vs us->Vals zs ws->Vals (gV vs zs) (g us ws)
variable{g:L0 Fe->L0 Fe->L0 Fe}{gV:L0 V->L0 V->L0 V}
end
structure aq(N P:L0 Str)(sc:Ir):Prop where
 kind:sc.kind=.function
 co:sc.isCoroutine=LK
 gen:sc.isGenerator=LK
 nd:N.Nodup
 pre:N.take P.length=P
 par:∀x∈P,sc.names.lookup x=LH .local\/sc.names.lookup x=LH .cell
 nofree:∀y∈sc.names,y.2≠.free
theorem oA{a:Str->Option JD}{x:Str}:∀{binds:L0 (Str×Fe)}{m:Str->Option Fe},(∀v,(x,v) ∉ binds)->JE a binds m x=m x
 | [],_,_=>rfl
 |(n,v) :: r,m,h=>by
  unfold JE;rw[oA λw b=>h w (fo _ b)];split
  .let:x≠n:=by rintro rfl;exact h v dn
   simp[this]
  .rfl
theorem oB{a:Str->Option JD}{x:Str}:∀{binds:L0 (Str×Fe)}{m:Str->Option Fe},(∀v,(x,v) ∉ binds)->JF a binds m x=m x
 | [],_,_=>rfl
 |(n,v) :: r,m,h=>by
  unfold JF;rw[oB λw b=>h w (fo _ b)];split
  .rfl
  .let:x≠n:=by rintro rfl;exact h v dn
   simp[this]
theorem oC{a:Str->Option JD}{x:Str}{v:Fe}:∀{P:L0 Str}{vs:L0 Fe}{i:Nat}{m:Str->Option Fe},P.Nodup->P[i]?=LH x->vs[i]?=LH v->a x=LH .local ->
  JE a (P.zip vs) m x=LH v
 | [],_,_,_,_,h,_,_=>by simp at h
 |_ :: _,[],_,_,_,_,h,_=>by simp at h
 |p :: P,w :: vs,0,m,nd,h1,h2,hk=>by
  simp at h1 h2;subst h1;subst h2;show JE a ((p,w) :: P.zip vs) m p=_;unfold JE;rw[oA λv b=>(pj.mp nd).1 (uw b).1,LO hk];simp
 |p :: P,w :: vs,i+1,m,nd,h1,h2,hk=>by
  show JE a ((p,w) :: P.zip vs) m x=_;unfold JE;calc oC (i:=i) (pj.mp nd).2 (~~~h1) (~~~h2) hk
theorem oE{a:Str->Option JD}{x:Str}{v:Fe}:∀{P:L0 Str}{vs:L0 Fe}{i:Nat}{m:Str->Option Fe},P.Nodup->P[i]?=LH x->vs[i]?=LH v->a x≠LH .local ->
  JF a (P.zip vs) m x=LH v
 | [],_,_,_,_,h,_,_=>by simp at h
 |_ :: _,[],_,_,_,_,h,_=>by simp at h
 |p :: P,w :: vs,0,m,nd,h1,h2,hk=>by
  simp at h1 h2;subst h1;subst h2;show JF a ((p,w) :: P.zip vs) m p=_;unfold JF;rw[oB λv b=>(pj.mp nd).1 (uw b).1,LN hk];simp
 |p :: P,w :: vs,i+1,m,nd,h1,h2,hk=>by
  show JF a ((p,w) :: P.zip vs) m x=_;unfold JF;calc oE (i:=i) (pj.mp nd).2 (~~~h1) (~~~h2) hk
def start(N:L0 Str)(vs:L0 V):St:=vs.map LH++List.replicate (N.length-⇑vs) LI
def bA(CX:CXT)(P:Fw)(w:Fn)(K:W.Frag)(mg:Str->Option Fe)(base:HB)(N:L0 Str)(qual:Str)(scope:Ir)(f:HA)(b:Fe)(A:Ip)(outer:L0 Env)(s:Iq)(H:Hp)(E:XK):Cx where
 prog:=P
 w:=w
 K:=K
 mg:=mg
 base:=base
 A:=A.deeper (envOfC qual scope ↥s f b)
 N:=N
 s₀:=s
 H₀:=H
 env:=envOfC qual scope ↥s f b
 outer:=outer
 stack:=envOfC qual scope ↥s f b :: outer
 ex:=[]
 calm:=LJ
 fn:=λ_=>LJ
 pn:=[]
 xe:=λe c=>Iw (model P w) (A.deeper<|envOfC qual scope ↥s f b) (leaving (envOfC qual scope ↥s f b) e) (λ_ a=>CX outer H s E e a) (λd a=>CX outer H s E d a) c
theorem ql{a:Ir}{n:Nat}{x:Str}(h:a.names.lookup x=LH .cell):∃c,(JG n a.names []).lookup x=LH c:=by
 let q:=W.cellsFrom_some a.names n [] (.inl h);calc EV.mp q
theorem vI{CX:CXT}{P:Fw}{w:Fn}{K:W.Frag}{mg:Str->Option Fe}{base:HB}{N ps:L0 Str}{qual:Str}{scope:Ir}{f:HA}{C:Fe}{A:Ip}{d:L0 Env}{s D:Iq}{H:Hp}{E:XK}{us:L0 Fe}{vs:L0 V}
  (S:aq N ps scope)(J:A.handled=LI)(j:qj P w K mg base A d s H)(Q:⇑vs=⇑ps)(r:Vals vs us)
  (x:InCallC s ↥s (JE (envOfC qual scope ↥s f C).kindOf (ps.zip us) λ_=>LI) (JG (↥s+1) scope.names []) (JF (envOfC qual scope ↥s f C).kindOf (ps.zip us) λ_=>LI) D) :
  Inv (bA CX P w K mg base N qual scope f C A d s H E) [] (start N vs) H D:=by
 let M:⇑ps<=N.length:=by have:=LU List.length S.pre;rw[iR]at this;lia
 let(B,O,rfl,G):=x.done;let m:∀b:HA,b ∉ (bA CX P w K mg base N qual scope f C A d s H E).ex:=λb z=>LP (show b∈([]:L0 HA)from z) (by simp)
 refine⟨⟨j.mod,S.kind,U,U,wX _,λy z c B g=>?_,λy l=>?_,λy c _ h=>?_,λ_=>J,Ip.frames_deeper j.frames,.inr ⟨U,U⟩,λb z=>LP z<|m b,j.bs,j.bsz,λb _ _=>m b,λb z=>LP z<|m b,j.funs,j.frf⟩,
  rfl,j.bare,Un.kept G,⟨_,x.toInCall.ns,λi y v B g R=>?_⟩,λy c h=>⟨_,x.cell y c h⟩,j.hok.fresh<|wX _,λy c h=>?_,λp o=>LP (show p∈([]:L0 (HA×Obj))from o) (by simp),j.hok.kept G,?_⟩
 .exact name_of_addr x.apart (mem_of_lookup B)<|mem_of_lookup g
 .let l:scope.names.lookup y=LH .cell\/scope.names.lookup y=LH .free:=l;rcases l with l|l
  .exact ql l
  .exact LP U<|S.nofree _<|mem_of_lookup l
 .exact zb<|x.above y c<|mem_of_lookup h
 .let hi:i<⇑vs:=by
   unfold start at g;by_cases hi:i<⇑vs
   .exact hi
   .rw[js (~~~hi)]at g;rw[List.getElem?_replicate]at g;split at g <;> cases g
  let L:vs[i]?=LH v:=by
   unfold start at g;rw[iQ (~~~hi),gM]at g;cases e:vs[i]? with
   |none=>rw[e]at g;cases g
   |some a=>rw[e]at g;cases g;rfl
  let(u,F,I):=r.get L;let o:ps[i]?=LH y:=by
   rw[←S.pre,List.getElem?_take_of_lt ∅];exact B
  let t:ps.Nodup:=by rw[←S.pre];exact S.nd.sublist<|ux _ _
  calc⟨u,I,?_⟩;rcases S.par y (Il o)with k|k
  .exact .inl ⟨k,oC t o F k⟩
  .let(c,e):=ql (n:=↥s+1) k;calc .inr ⟨.inl k,c,e,?_⟩;let q:=x.cell y c e;rw[oE t o F (by show scope.names.lookup y≠_;rw[k];decide)]at q;exact q
 .exact j.hok.fresh<|zb<|x.above y c<|mem_of_lookup h
 .unfold start;show _=N.length;rw[dV,bc,sr];lia
theorem xy{CX:CXT}{P:Fw}{w:Fn}{K:W.Frag}{mg:Str->Option Fe}{base:HB}{k:Nat}{f:HA}{name qual:Str}{params:JH}{body:L0 ID}{scope:Ir}{D kV doc pm c F T:Fe}{G R:Option HA}
  {p:Array (Option Fe)}{N ps:L0 Str}{sp:Sp}(X:K.lookup f=LH ⟨T,R,.func<|W.fnOf name qual params body scope D kV doc pm G c F,p⟩)(B:W.codeIn K c qual=LJ)(S:aq N ps scope)
  (len:∀vs H Q E,sp vs H Q E->⇑vs=⇑ps)
  (eL:∀(A:Ip)(a:L0 Env)(s:Iq)(H:Hp)(vs:L0 V)(Q:VK)(E:XK),bI k (A.deeper<|envOfC qual scope ↥s f c)->sp vs H Q E ->
   ∃t,PSs (bA CX P w K mg base N qual scope f c A a s H E) body t/\t { nx:=λ_ H'=>Q .non H',rt:=Q } (start N vs) H) :
  aD P w K mg base CX (k+1) f (W.fnOf name qual params body scope D kV doc pm G c F) ps sp:=by
 calc⟨len,λA a s H M O vs Q E m h hb r i=>?_⟩;let hl:=len _ _ _ _ i;let L:K.In s.heap:=h.mod.kin.keeps λb o e=>(h.bs b o e).1
 let z:s.heap.NoLimit:=h.mod.nolimit.keeps λb o e=>(h.bs b o e).1
 let Dt:∀y∈ps.zip O,scope.names.lookup y.1=LH .local\/(scope.names.lookup y.1=LH .cell/\((JG (↥s+1) scope.names []).lookup y.1).isSome=LJ):=λ⟨n,v⟩ Y=>by
  rcases S.par n (uw Y).1 with q|q
  .exact .inl q
  .exact .inr ⟨q,W.cellsFrom_some _ _ _<|.inl q⟩
 calc codeAny_call_function m.depth (L _ _ X) U S.co S.gen U (W.codeRec_of L B)<|hb _ _ _ _ ?_;refine wpAny_newFunctionEnv_cells S.kind Dt λa0 he C x=>?_
 subst he;calc⟨z.keeps x.toInCall.keep,codeAny_func ?_⟩;let(t,Z,hq):=eL A a s H vs Q E (m.deeper _) i;let I:Inv (bA CX P w K mg base N qual scope f c A a s H E) [] (start N vs) H C:=vI S m.hd h hl r x;refine IE (Z [] C (start N vs) H _ I hq) (λfl j g=>?_) λe j g=>g
 let fin:∀{d:St}{H':Hp}{v:V}{u:Fe},Inv (bA CX P w K mg base N qual scope f c A a s H E) [] d H' j->RelV v u->Q v H'->CE a P w H s Q u j :=
  λ{d H' v u} J l q=>⟨v,H',J.os,J.bare,J.base,J.hok,l,q⟩
 cases fl with
 |ret u =>
  let(v,d,H',J,l,q):=g;exact fin J l q
 |next =>
  let(d,H',J,q):=g;exact fin (v:=V.non) (u:=Fe.none) J U q
 |brk =>
  let(_,_,_,q):=g;exact False.elim q
 |cont =>
  let(_,_,_,q):=g;calc False.elim q
section
variable{x:Str}{id T:String}{r:L0 V->Hp->VK->Prop}
def tCB(r:L0 V->Hp->VK->Prop)(t:TA):TE:=λσ H Q=>t σ H λa b=>r a b Q
theorem ay(n:cG X (.builtin id) r)(m:Gl X x)(l:X.mg x=LI)(j:Io x=LH (.builtin id))(o:PA X (e :: es) t)(k:x ≠ "__name__" := by decide) (b:(x == ("__debug__" : Str))=false:=by decide)
  (he:IC (e :: es) X.env=(LK,eval e X.env) :: IC es X.env:=by rfl)(a:(IB pos<|IC es X.env).any (·.1)=false:=by rfl):PE X (.Call (.Name x p) (e :: es) [] pos) (tCB r t):=by
 intro LM s σ H Q I h;calc Fd<|dY I m l j ?_ k b;calc PyProof.Rows.callWith_builtin1 (thn (o pos LM s σ H _ I h) λd f ⟨c,u,q,g,i⟩=>n LM f σ u c d Q q g i) he a
theorem bJ(n:cG X (.type T) r)(m:Gl X x)(l:X.mg x=LI)(j:Io x=LH (.type T))(o:PA X (e :: es) t)(k:x ≠ "__name__" := by decide) (b:(x == ("__debug__" : Str))=false:=by decide)
  (he:IC (e :: es) X.env=(LK,eval e X.env) :: IC es X.env:=by rfl)(a:(IB pos<|IC es X.env).any (·.1)=false:=by rfl):PE X (.Call (.Name x p) (e :: es) [] pos) (tCB r t):=by
 intro LM s σ H Q I h;calc Fd<|dY I m l j ?_ k b;calc PyProof.Rows.callWith_type1 (thn (o pos LM s σ H _ I h) λd f ⟨c,u,q,g,i⟩=>n LM f σ u c d Q q g i) he a
end
end _L
namespace HT
open PySem PyProof.Rows
section
open PySem.SeqAt
open PySem.AutoSeq1 (wpAny_loadPart')
open PySem.MeetsSeq PySem.MeetsSeq2 PySem.MeetsSeq3
end
section
variable{prog:Fw}{w:Fn}{A:Ip}{E:Fe->Iq->Prop}{s:Iq}
theorem cat_tup{t b:HA}{vs ws:L0 Fe}{Q:Fe->Iq->Prop}(r:IsTup s.heap t vs.toArray)(u:IsTup s.heap b ws.toArray)(o:vs≠[])
  (x:ws=[]->Q (.ref t) s)(v:ws≠[]->Q (.ref ↥s) { s with heap:=s.heap.push { cls:=.type "tuple",data:=.seq (vs++ws).toArray } })
  (j:⇑vs+⇑ws<=HL):Iw (model prog w) A (Jl .Add (.ref t)<|.ref b) Q E s:=by
 let((cls,dd,data,l),i,q,n,p):=id r;let((y,g,k,c),a,f,m,d):=id u;simp only at q p f d;subst q p f d;let e:vs.toArray++ws.toArray=(vs++ws).toArray:=by simp
 by_cases h:ws=[]
 .exact JI ⟨_,i,rfl⟩ ⟨_,a,rfl⟩ JJ JK PySem.F.slot_tuple_add PySem.F.entry_tuple_add (PySem.F.args_tuple_add_2 _ _)
   (tuple_addW1 t b vs.toArray ws.toArray n m dd g l c (~~~o) (by simp[h])) ⟨i,a,x h⟩
 .refine JI ⟨_,i,rfl⟩ ⟨_,a,rfl⟩ JJ JK PySem.F.slot_tuple_add PySem.F.entry_tuple_add (PySem.F.args_tuple_add_2 _ _)
   (tuple_addW2 t b vs.toArray ws.toArray n m dd g l c (~~~o) (~~~h) (by rw[cf,cf];exact j)) ⟨i,a,?_⟩
  rw[e];calc v h
def sIx(n d:Nat):Option Int->Nat
 |none=>d
 |some v=>if v<0 then(v+(n:Int)).toNat else min v.toNat n
end
end HT
namespace _L
open PySem PySem.Spec PyProof.Rows
abbrev TO:=St->Hp->(Option Int->Hp->Prop)->Prop
def PO(X:Cx)(e:Option Iz)(t:TO):Prop :=
 ∀(a:L0 (HA×Obj))(s:Iq)(b:St)(H:Hp)(Q:Option Int->Hp->Prop),Inv X a b H s->t b H Q ->
  Iw (model X.prog X.w) X.A (evalPart e X.env) (λu d=>∃o c,Inv X a b c d/\IsPart u o/\Q o c) X.xe s
def zE:TO:=λ_ H Q=>Q LI H
inductive xA  (Q:Option Int->Hp->Prop)(x:V)(H1:Hp):Prop
 |mk (i:_)(_:x=.int i)(_:Q (LH i) H1):xA Q x H1
def Du(t:TE):TO:=λa H Q=>t a H λx b=>xA Q x b
variable{X:Cx}
section
variable{e:Iz}{te:TE}{lo hi:Option Iz}{tl th:TO}{pos p2:Pos}
theorem uK:PO X LI zE:=by
 intro a s b H Q I h;rw[JL];calc E6 ⟨LI,H,I,.none,h⟩
theorem uL(h:PE X e te):PO X (LH e) (Du te):=by
 intro a s b H Q I f;rw[evalPart_some];refine thn (h a s b H _ I f) λu k ⟨x,j,g,c,d⟩=>?_
 let(i,rfl,q):=d;let(t,rfl):=c;calc⟨LH i,j,g,.int i t,q⟩
def SlR(X:Cx)(r:V->Option Int->Option Int->Hp->VK->Prop):Prop :=
 ∀(a:L0 (HA×Obj))(s:Iq)(b:St)(H:Hp)(x:V)(v d c:Fe)(lo hi:Option Int)(e:HA)(Q:VK),Inv X a b H s->RelV x v->s.heap.IsSliceOf e d c .none->IsPart d lo->IsPart c hi->r x lo hi H Q ->
  ∃T f,JM (.type T) "__getitem__" = pure (LH<|.builtin f)/\s.TypeIs v T/\Iw (model X.prog X.w) X.A (getItem v<|.ref e) (EP X a b Q) X.xe s
def tSl(r:V->Option Int->Option Int->Hp->VK->Prop)(te:TE)(tl th:TO):TE:=λa H Q=>te a H λx d=>tl a d λl c=>th a c λu b=>r x l u b Q
theorem qm{r:V->Option Int->Option Int->Hp->VK->Prop}(B:SlR X r)(E:PE X e te)(C:PO X lo tl)(y:PO X hi th):PE X (.Subscript e (.Slice lo hi LI p2) pos) (tSl r te tl th):=by
 intro a s d H Q I h;calc Subscript_<|thn (E a s d H _ I h) λv j ⟨x,N,L,k,o⟩=>?_;calc wpAny_Slice<|thn (C a j d N _ L o) λg s2 ⟨l,M,K,t,n⟩=>thn (y a s2 d M _ K n) λf c ⟨u,i,J,p,m⟩=>?_;rw[JL];calc E6 ?_;let G:Inv X a d i { c with heap:=c.heap.push { cls:=.type "slice",data:=.fields #[g,f,.none] } }:=J.kept (t':=c.toks) λb O q=>HB.get?_push_of_some _ q
 let(T,P,F,z,D):=B a { c with heap:=c.heap.push { cls:=.type "slice",data:=.fields #[g,f,.none] } } d i x v g f l u ↥c Q G k (HB.IsSliceOf.new ..) t p m;show Iw (model X.prog X.w) X.A (subscriptTail e (.Slice lo hi LI p2) v<|.ref ↥c) (EP X a d Q) X.xe { c with heap:=c.heap.push { cls:=.type "slice",data:=.fields #[g,f,.none] } };calc tail_any (ops:=[.ref ↥c,v]) z F D (by with_unfolding_all rfl)
def qo(xs:L0 V)(lo hi:Option Int):L0 V:=(xs.drop<|HT.sIx ⇑xs 0 lo).take<|HT.sIx ⇑xs ⇑xs hi-HT.sIx ⇑xs 0 lo
theorem qp(xs:L0 V)(lo hi:Option Int):⇑(qo xs lo hi)<=⇑xs:=by
 unfold qo;rw[iR,sv];lia
inductive A1(K:W.Frag)(x:V)(y:V)(H:Hp)(Q:VK):Prop
 |mk (a b xs ys:_)(_:x=.ref a)(_:y=.ref b)(_:SqT K H a xs)(_:SqT K H b ys)(_:xs≠[])(_:⇑xs+⇑ys<=HL)(_:(ys=[]->Q (.ref a) H))(_:(ys≠[]->∀p,H p=LI->Q (.ref p) (upd H p<|.tup<|xs++ys)))
theorem Vals.nil_iff{xs:L0 V}{us:L0 Fe}(r:Vals xs us):us=[]↔xs=[]:=by
 cases r with
 |nil=>simp
 |cons _ _=>simp
theorem zF:OpR X (Jl .Add) (A1 X.K):=by
 intro f s B H x y v u Q I k j h;let(a,b,i,g,rfl,rfl,t,r,p,e,m,l):=h;cases k;cases j;let(A,d,n,_):=I.tuple t;let(D,c,p2,_):=I.tuple r;refine HT.cat_tup n p2 (λz=>p<|d.nil_iff.mp z) (λz=>⟨.ref a,H,I,U,m<|c.nil_iff.mp z⟩) (λz=>?_) (by rw[←⇑d,←⇑c];exact e);calc⟨.ref ↥s,_,I.laid (t':=s.toks) (o:=.tup<|i++g) (λb C q=>HB.get?_push_of_some _ q) (wX _) ?_,U,l (λw=>z<|c.nil_iff.mpr w) _<|I.hok.fresh<|wX _⟩;calc⟨by rw[dV];exact e,_,d.append c,IsTup.new _ _⟩
end
def ixN(n:Nat)(i:Int):Option Nat:=if 0<=i then(if i<n then LH i.toNat else LI)else if -(n:Int)<=i then LH (i+n).toNat else LI
def atI{a:Type}(xs:L0 a)(i:Int):Option a:=(ixN ⇑xs i).bind λj=>xs[j]?
theorem uM{n:Nat}{i:Int}{j:Nat}(h:ixN n i=LH j):seqIndex? i n=LH j/\j<n/\-(n:Int)<=i/\i<n:=by
 unfold ixN at h;by_cases b:0<=i
 .rw[LO b]at h;by_cases a:i<n
  .rw[LO a]at h;let e:i.toNat=j:=Option.some.inj h;exact⟨by rw[JN b a,e],∅,∅,a⟩
  .rw[LN a]at h;cases h
 .rw[LN b]at h;by_cases a : -(n:Int)<=i
  .rw[LO a]at h;let e:(i+n).toNat=j:=Option.some.inj h;exact⟨by rw[seqIndex_neg ∅ a,e],∅,a,∅⟩
  .rw[LN a]at h;cases h
theorem uN{a:Type}{xs:L0 a}{i:Int}{v:a}(h:atI xs i=LH v):∃j,seqIndex? i ⇑xs=LH j/\xs[j]?=LH v/\j<⇑xs/\-(⇑xs:Int)<=i/\i<⇑xs:=by
 unfold atI at h;cases e:ixN ⇑xs i with
 |none=>rw[e]at h;cases h
 |some j =>
  rw[e]at h;let(f,d,c,b):=uM e;calc⟨j,f,h,d,c,b⟩
theorem aM{a:Type}{xs:L0 a}{j:Nat}{v:a}(h:xs[j]?=LH v):atI xs (j:Int)=LH v:=by
 let b:j<⇑xs:=(Ik.mp h).1;let e:ixN ⇑xs (j:Int)=LH j:=by
  unfold ixN;rw[LO ∅,LO ∅];simp
 unfold atI;rw[e];calc h
theorem qr{a:Type}(xs:L0 a)(v:a):atI (xs++[v]) (-1)=LH v:=by
 let b:⇑(xs++[v])=⇑xs+1:=by simp
 let e:ixN ⇑(xs++[v]) (-1)=LH ⇑xs:=by
  unfold ixN;rw[b,LN ⋯,LO ∅]
  congr 1
  lia
 unfold atI;rw[e];show(xs++[v])[⇑xs]?=LH v;simp
def zG(b:Iz):Prop:=∀o i,subscripted b LK o i=operate [o,i] (getItem o i)
def IxR(X:Cx)(r:R2):Prop :=
 ∀(value a:Iz)(b:L0 (HA×Obj))(s:Iq)(c:St)(H:Hp)(x y:V)(v u:Fe)(Q:VK),Inv X b c H s->RelV x v->RelV y u->r x y H Q ->
  subscripted a LK v u=operate [v,u] (getItem v u)->Iw (model X.prog X.w) X.A (subscriptTail value a v u) (EP X b c Q) X.xe s
def MtR(X:Cx)(e:String)(r:V->L0 V->Hp->VK->Prop):Prop :=
 ∀(a:L0 (HA×Obj))(s:Iq)(b:St)(H:Hp)(x:V)(c:L0 V)(v:Fe)(d:L0 Fe)(Q:VK),Inv X a b H s->RelV x v->Vals c d->r x c H Q ->
  Iw (model X.prog X.w) X.A (call (.builtin e) (v :: d)) (EP X a b Q) X.xe s
section
variable{a b:Iz}{ta tb:TE}{pos:Pos}
theorem aW{r:R2}(i:IxR X r)(k:PE X a ta)(j:PE X b tb)(g:zG b):PE X (.Subscript a b pos) (tOp r ta tb):=by
 intro c s d H Q I h;calc Subscript_<|BI k j I h λv u s2 x y m l f e q=>i a b c s2 d m x y v u Q l f e q<|g _ _
inductive BS(K:W.Frag)(x:V)(y:V)(H:Hp)(Q:VK):Prop
 |mk (p xs i v:_)(_:x=.ref p)(_:y=.int i)(_:SqL K H p xs)(_:atI xs i=LH v)(_:Q v H)
inductive BU(K:W.Frag)(x:V)(y:V)(H:Hp)(Q:VK):Prop
 |mk (p xs i v:_)(_:x=.ref p)(_:y=.int i)(_:SqT K H p xs)(_:atI xs i=LH v)(_:Q v H)
theorem aY:IxR X (BS X.K):=by
 intro value g a s k H x y v u Q I B A h l;let(p,L,i,z,rfl,rfl,C,E,q):=h;cases B;let(t,rfl):=A;let(f,r,c,M):=I.list C;let(j,b,J,O,G,F):=uN E;let(w,n,e):=r.get J;let D:=⇑r;let N:=ku;let fin:EP X a k Q w s:=⟨z,H,I,e,q⟩;by_cases m:0<=i
 .let d:i.toNat=j:=by
   rw[JN m F]at b;exact Option.some.inj b
  exact item_listR c.isList m ∅ (by rw[d];simpa using n) fin l
 .let d:(i+(f.toArray.size:Int)).toNat=j:=by
   rw[seqIndex_neg ∅ G]at b;rw[cf,←D];exact Option.some.inj b
  exact subscriptTail_builtinR (x:=w) c.isList.typeIs JO.lookup
   (wpAny_getItem_list_neg (Q:=λr o=>r=w/\EP X a k Q r o) c.isList ∅ (by rw[cf] <;> lia) ∅ (by rw[d];simpa using n) ⟨U,fin⟩) l
theorem dC:IxR X (BU X.K):=by
 intro value c a s d H x y v u Q I k g h l;let(p,E,i,z,rfl,rfl,m,o,q):=h;cases k;let(t,rfl):=g;let(D,r,e,F):=I.tuple m;let(j,B,A,M,L,J):=uN o;let(w,C,b):=r.get A;let n:=⇑r;let G:=ku;let fin:EP X a d Q w s:=⟨z,H,I,b,q⟩
 exact subscriptTail_builtinR (x:=w) e.typeIs slot_tuple_getitem.lookup
  (getItem_tuple (j:=j) (Q:=λr f=>r=w/\EP X a d Q r f) e ∅ ∅ (by rw[cf,←n];exact B) (~~~C) ⟨U,fin⟩) l
theorem sW(a:L0 Fe)(n j:Nat)(u:Fe):Obj.mapSeq (·.setIfInBounds j u) { cls:=.type "list",data:=.seq a.toArray n }={ cls:=.type "list",data:=.seq (a.set j u).toArray n }:=by
 simp[Obj.mapSeq]
theorem Inv.lst{b:L0 (HA×Obj)}{c:St}{H:Hp}{s:Iq}{p:HA}{xs:L0 V}(I:Inv X b c H s)(h:H p=LH (.lst xs)) :
  ∃(a:L0 Fe)(n:Nat),Vals xs a/\s.heap.get? p=LH { cls:=.type "list",data:=.seq a.toArray n }/\⇑xs<=HL:=by
 let(z,a,n,r,e):=I.hok p _ h;calc⟨a,n,r,e,z⟩
theorem Inv.lstUpd{a:L0 (HA×Obj)}{g:St}{H:Hp}{s:Iq}{p:HA}{xs ys:L0 V}{c its':L0 Fe}{n d:Nat}{f:Obj->Obj}(I:Inv X a g H s)(h:H p=LH (.lst xs))
  (i:s.heap.get? p=LH { cls:=.type "list",data:=.seq c.toArray n }) (hf:f { cls:=.type "list",data:=.seq c.toArray n }={ cls:=.type "list",data:=.seq its'.toArray d }) (r:Vals ys its')(hz:⇑ys<=HL)(t:Nat) :
  Inv X a g (upd H p<|.lst ys) { s with heap:=s.heap.update p f,toks:=t }:=by
 let e:(s.heap.update p f).get? p=LH { cls:=.type "list",data:=.seq its'.toArray d }:=by
  rw[HB.get?_update_self f i (by rw[hf] <;> rfl),hf]
 refine I.write (x:=p) (e:=p) (by rw[h];trivial) (.inl U) (λb u j q=>(HB.get?_update_other _ _<|Ne.symm j).trans q) ⟨_,e⟩ ?_;calc⟨hz,its',d,r,e⟩
inductive A2  (o:V)(i:V)(v:V)(H:Hp)(Q:(Hp->Prop)):Prop
 |mk (p xs k j:_)(_:o=.ref p)(_:i=.int k)(_:H p=LH (.lst xs))(_:ixN ⇑xs k=LH j)(_:Q (upd H p<|.lst<|xs.set j v)):A2 o i v H Q
theorem set_list:Df X A2:=by
 intro b s y H o i v F G u Q I B C A h;let(p,z,k,j,rfl,rfl,g,E,q):=h;cases B;let(t,rfl):=C;let(a,n,r,d,D):=I.lst g;let(c,K,m,l):=uM E;let e:=⇑r;let J:=ku;let x:Inv X b y (upd H p<|.lst<|z.set j v) { s with heap:=s.heap.update p (Obj.mapSeq (·.setIfInBounds j u)) } :=
  I.lstUpd g d (sW a n j u) (r.set A j) (by rw[List.length_set];exact D) s.toks
 by_cases w:0<=k
 .let f:k.toNat=j:=by
   rw[JN w l]at c;exact Option.some.inj c
  exact W.ki_setAt d w ∅ (by rw[cf,←e];exact l) (by rw[f];exact⟨_,x,q⟩)
 .let f:(k+(a.toArray.size:Int)).toNat=j:=by
   rw[seqIndex_neg ∅ m]at c;rw[cf,←e];exact Option.some.inj c
  calc W.ki_setBack d ∅ (by rw[cf,←e];exact m) ∅ (by rw[f];exact⟨_,x,q⟩)
theorem pC(lo hi:Option Int)(n:Nat):(JP lo hi LI n).1=((HT.sIx n 0 lo:Nat):Int)/\(JP lo hi LI n).2.1=((HT.sIx n n hi:Nat):Int)/\(JP lo hi LI n).2.2=1:=by
 refine⟨?_,?_,U⟩
 .cases lo with
  |none=>simp[JP,HT.sIx]
  |some i =>
   simp only[JP,HT.sIx,EX,show(1:Int)>0 by decide,if_true];by_cases h:i<0
   .simp only[h,if_true] <;> lia
   .simp only[h,if_false] <;> lia
 .cases hi with
  |none=>simp[JP,HT.sIx]
  |some i =>
   simp only[JP,HT.sIx,EX,show(1:Int)>0 by decide,if_true];by_cases h:i<0
   .simp only[h,if_true] <;> lia
   .simp only[h,if_false] <;> lia
theorem nR(a:L0 Fe)(lo hi:Option Int):slicePick a.toArray lo hi LI=((a.drop<|HT.sIx ⇑a 0 lo).take<|HT.sIx ⇑a ⇑a hi-HT.sIx ⇑a 0 lo).toArray:=by
 let(d,c,b):=pC lo hi a.toArray.size;unfold slicePick;rw[d,c,b];simp only[sliceRange_one,pick_run,cf] <;> rfl
inductive BV(K:W.Frag)(x:V)(lo:Option Int)(hi:Option Int)(H:Hp)(Q:VK):Prop
 |mk (a xs:_)(_:x=.ref a)(_:SqL K H a xs)(_:∀p,H p=LI->Q (.ref p) (upd H p<|.lst<|qo xs lo hi))
theorem uO:SlR X (BV X.K):=by
 intro f s p H x v u t lo hi w Q I g m j i h;let(a,c,rfl,l,q):=h;cases g;let(n,r,e,k):=I.list l;let d:=⇑r;calc⟨"list",_,JO.lookup,e.isList.typeIs,?_⟩;refine wpAny_getItem_list_slice e.isList m j i .none (by simp) ?_ (by rw[cf] <;> lia);rw[nR,←d];calc⟨.ref ↥s,_,I.laid (t':=s.toks) (o:=.lst<|qo c lo hi) (λb y q=>HB.get?_push_of_some _ q) (wX _) ?_,U,q _<|I.hok.fresh<|wX _⟩;calc⟨xc (qp c lo hi) k,_,0,(r.drop<|HT.sIx ⇑c 0 lo).take<|HT.sIx ⇑c ⇑c hi-HT.sIx ⇑c 0 lo,HB.get?_push_size _ U⟩
def fM:V->Bool
 | .non=>LJ
 | .bl _=>LJ
 | .int _=>LJ
 | .str _=>LJ
 |_=>LK
def eqV:V->V->Bool
 | .non,.non=>LJ
 | .bl a,.bl b=>a == b
 | .bl a,.int b=>(if a then 1 else 0) == b
 | .int a,.bl b=>a == (if b then 1 else 0)
 | .int a,.int b=>a == b
 | .str a,.str b=>a == b
 |_,_=>LK
theorem sZ{A:Ip}{s:Iq}{y x:V}{u v:Fe}(e:RelV y u)(c:RelV x v)(g:fM y=LJ)(f:fM x=LJ):SeqAt.EqAt A s u v (eqV y x):=by
 cases y with
 |non =>
  cases e;cases x with
  |non=>cases c;exact SeqAt.EqAt.same _
  |bl b=>cases c;exact SeqAt.EqAt.none_bool b
  |int b=>obtain⟨t,rfl⟩:=c;exact SeqAt.EqAt.none_int b t
  |str b=>obtain⟨t,rfl⟩:=c;exact SeqAt.EqAt.none_str b t
  |_=>exact LP (show LK=LJ from f) Bool.false_ne_true
 |bl a =>
  cases e;cases x with
  |non=>cases c;exact SeqAt.EqAt.bool_none a
  |bl b=>cases c;exact SeqAt.EqAt.bool_bool a b
  |int b=>obtain⟨t,rfl⟩:=c;exact SeqAt.EqAt.bool_int a b t
  |str b=>obtain⟨t,rfl⟩:=c;exact SeqAt.EqAt.bool_str a b t
  |_=>exact LP (show LK=LJ from f) Bool.false_ne_true
 |int a =>
  let(d,rfl):=e;cases x with
  |non=>cases c;exact SeqAt.EqAt.int_none a d
  |bl b=>cases c;exact SeqAt.EqAt.int_bool a d b
  |int b=>obtain⟨t,rfl⟩:=c;exact SeqAt.EqAt.int_int a d b t
  |str b=>obtain⟨t,rfl⟩:=c;exact SeqAt.EqAt.int_str a d b t
  |_=>exact LP (show LK=LJ from f) Bool.false_ne_true
 |str a =>
  let(d,rfl):=e;cases x with
  |non=>cases c;exact SeqAt.EqAt.str_none a d
  |bl b=>cases c;exact SeqAt.EqAt.str_bool a d b
  |int b=>obtain⟨t,rfl⟩:=c;exact SeqAt.EqAt.str_int a d b t
  |str b=>obtain⟨t,rfl⟩:=c;exact SeqAt.EqAt.str_str a d b t
  |_=>exact LP (show LK=LJ from f) Bool.false_ne_true
 |_=>calc LP (show LK=LJ from g) Bool.false_ne_true
theorem aK:cG X (.builtin "len") (λxs H Q=>∃p ys,xs=[.ref p]/\(SqL X.K H p ys\/SqT X.K H p ys)/\Q (.int ⇑ys) H):=by
 intro f s j H xs k Q I r h;let(p,ys,rfl,b,q):=h;let(u,rfl,g):=vals1 r;cases g;let l:=ku;rcases b with b|b
 .let(e,c,d,i):=I.list b;let a:=⇑c;exact Calls.call_len_list d.isList (by simp only[cf] <;> lia) ⟨.int ⇑ys,H,I.tok _,⟨s.toks+1,by rw[cf,a]⟩,q⟩
 .let(e,c,d,i):=I.tuple b;let a:=⇑c;exact len_tuple d (by simp only[cf] <;> lia) ⟨.int ⇑ys,H,I.tok _,⟨s.toks+1,by rw[cf,a]⟩,q⟩
theorem pD:cG X (.builtin "len") (λxs H Q=>∃z,xs=[.str z]/\⇑z<=HL/\Q (.int ⇑z) H):=by
 intro a s b H xs c Q I r h;let(z,rfl,d,q):=h;let(u,rfl,t,rfl):=vals1 r;let e:=ku;calc len_str ∅ ⟨.int ⇑z,H,I.tok _,⟨_,U⟩,q⟩
theorem de:cG X (.type "list") (λxs H Q=>∃p ys,xs=[.ref p]/\(SqL X.K H p ys\/SqT X.K H p ys)/\∀l,H l=LI->Q (.ref l) (upd H l<|.lst ys)):=by
 intro k s A H xs C Q I r h;let(p,ys,rfl,j,q):=h;let(u,rfl,B):=vals1 r;cases B
 let fin:∀(a:L0 Fe),Vals ys a->⇑ys<=HL->∀(c:HB)(f:Nat),(∀b z,s.heap.get? b=LH z->c.get? b=LH z) ->
   c.get? ↥s=LH { cls:=.type "list",dict:=LI,data:=.seq a.toArray f,slots:=#[] }->EP X k A Q (.ref ↥s) { s with heap:=c }:=λa d i c f g e =>
  ⟨.ref ↥s,_,I.laid (t':=s.toks) g (wX _) (show cg X.prog X.w _ c _ (.lst ys) from⟨i,a,f,d,e⟩),U,q _<|I.hok.fresh<|wX _⟩
 rcases j with j|j
 .let(a,d,t,i):=I.list j;let m:=⇑d;let(o,v,y,n,x):=t.isList;exact JQ p (.inl U) v y x (λc f g e=>fin a d i c f g e) (by simp only[cf] <;> lia)
 .let(a,d,t,i):=I.tuple j;let m:=⇑d;let(o,v,y,n,x):=t;exact JQ p (.inr U) v y x (λc f g e=>fin a d i c f g e) (by simp only[cf] <;> lia)
theorem nU:cG X (.type "tuple") (λxs H Q=>∃p ys,xs=[.ref p]/\((SqL X.K H p ys/\∀l,H l=LI->Q (.ref l) (upd H l<|.tup ys))\/(SqT X.K H p ys/\Q (.ref p) H))):=by
 intro a s j H xs y Q I r h;let(p,ys,rfl,h):=h;let(u,rfl,t):=vals1 r;cases t;rcases h with⟨i,q⟩|⟨i,q⟩
 .let(c,f,g,k):=I.list i;let n:=⇑f;refine call_tuple_list g.isList (λd v=>?_) (by simp only[cf] <;> lia);let m:Inv X a j H { s with heap:=d }:=I.kept (t':=s.toks) v;let x:Inv X a j (upd H d.objs.size<|.tup ys) { s with heap:=d.push { cls:=.type "tuple",data:=.seq c.toArray } } :=
   m.laid (t':=s.toks) (λb o e=>HB.get?_push_of_some _ e) (wX _) (show cg X.prog X.w _ _ _ (.tup ys) from⟨k,c,f,IsTup.new _ _⟩)
  exact⟨.ref d.objs.size,_,x,U,q _<|m.hok.fresh<|wX _⟩
 .let(c,f,g,k):=I.tuple i;calc call_tuple_same g ⟨.ref p,H,I,U,q⟩
def tyV(K:W.Frag)(T:String)(x:V)(H:Hp):Prop:=match x with
 | .str _=>T = "str"
 | .int _=>T = "int"
 | .ref p=>(T = "list" /\ ∃b,SqL K H p b)\/(T = "tuple" /\ ∃o,K.lookup p=LH o/\o.cls=.type "tuple" /\ o.dict=LI) \/
   (T = "dict" /\ ((∃a,H p=LH (.dK a))\/∃a,H p=LH (.dT a)))\/(T = "set" /\ ∃S n,H p=LH (.set S n))
 |_=>False
theorem BY{f:L0 (HA×Obj)}{m:St}{H:Hp}{s:Iq}{T:String}{x:V}{v:Fe}(I:Inv X f m H s)(r:RelV x v)(ty:tyV X.K T x H) :
  s.TypeIs v T/\∀a,v=.ref a->∃l,s.heap.get? a=LH l/\l.dict=none:=by
 cases x with
 |str z =>
  let(t,rfl):=r;cases (show T = "str" from ty);exact⟨typeIs_str s z t,λ_ e=>nomatch e⟩
 |int i =>
  let(t,rfl):=r;cases (show T = "int" from ty);exact⟨typeIs_int s i t,λ_ e=>nomatch e⟩
 |ref p =>
  cases r;rcases ty with⟨rfl,y,q⟩|⟨rfl,o,b,u,g⟩|⟨rfl,b⟩|⟨rfl,S,n,b⟩
  .let(w,_,k,_):=I.list q;calc⟨k.isList.typeIs,λa e=>?_⟩;cases e;let(o,n,e,c,g,_):=k;exact⟨o,e,g⟩
  .refine⟨⟨o,I.kIn p o b,u⟩,λa e=>?_⟩;cases e;exact⟨o,I.kIn _ o b,g⟩
  .let z:∃o,s.heap.get? p=LH o/\o.ExactDict:=by
    rcases b with⟨j,b⟩|⟨j,b⟩
    .let(_,_,_,_,o,_,_,e,d,_):=I.hok p _ b;exact⟨o,e,d⟩
    .let(_,_,_,_,o,_,_,e,d,_):=I.hok p _ b;exact⟨o,e,d⟩
   let(o,e,d):=z;calc⟨⟨o,e,d.1⟩,λa h=>?_⟩;cases h;exact⟨o,e,d.2.1⟩
  .let(o,_,_,_,e,d,_):=I.hok p _ b;calc⟨⟨o,e,d.1⟩,λa h=>?_⟩;cases h;exact⟨o,e,d.2.1⟩
 |_=>calc False.elim ty
def tBM(K:W.Frag)(T:String)(r:V->L0 V->Hp->VK->Prop)(to:TE)(t:TA):TE:=λa H Q=>to a H λx b=>tyV K T x b/\t a b λc d=>r x c d Q
variable{o e:Iz}{es:L0 Iz}{to:TE}{t:TA}{name:Str}{apos jd:Pos}{T id:String}{r:V->L0 V->Hp->VK->Prop}
theorem lj(q:PlainAttrs T)(b:Slot T name id)(d:JR (.builtin id)=pure (.type "method_descriptor")) (hm:MtR X id r)(w:PE X o to)(y:PA X (e :: es) t)
  (G:Ju o name X.env (eval o X.env)=eval o X.env:=by rfl)
  (E:((IB jd<|IC (e :: es) X.env).all (λx=>!x.1) && (JS jd<|JT [] X.env).all (λx=>x.1.isSome)
   && decide (⇑(e :: es)+⇑([]:L0 Keyword)+(if ([]:L0 Keyword).isEmpty then 0 else 1)<30))=true:=by rfl)
  (F:(apos.endLine == jd.line)=true:=by rfl)(u:IC (e :: es) X.env=(LK,eval e X.env) :: IC es X.env:=by rfl)(J:(IB jd<|IC es X.env).any (·.1)=false:=by rfl) :
  PE X (.Call (.Attribute o name apos) (e :: es) [] jd) (tBM X.K T r to t):=by
 intro a s c H Q I h;calc wpAny_Call_method_late G E F U<|thn (w a s c H _ I h) λv l ⟨x,D,i,f,ty,p⟩=>?_;let(A,z):=BY i f ty;calc⟨T,id,q,b,d,A,z,?_⟩;let g:=y jd a l c D _ i p;rw[u]at g⊢;refine Calls.callWith_builtin (by show(LK || (IB jd<|IC es X.env).any (·.1))=LK;rw[J] <;> rfl) (Calls.evalArgs_plain ?_);calc thn g λk s2 ⟨j,C,B,m,n⟩=>hm a s2 c C x j v k Q B f m n
end
def MtM(X:Cx)(e:String)(r:V->L0 V->Hp->VK->Prop):Prop :=
 ∀(a:L0 (HA×Obj))(s:Iq)(b:St)(H:Hp)(x:V)(c:L0 V)(v:Fe)(d:L0 Fe)(Q:VK),Inv X a b H s->RelV x v->Vals c d->r x c H Q ->
  Iw (model X.prog X.w) X.A (call (.builtin e) (v :: d)) (EP X a b Q) X.xe s
theorem Vals.one:∀{x:V}{us:L0 Fe},Vals [x] us->∃u,us=[u]/\RelV x u:=vals1
theorem Vals.two:∀{x y:V}{us:L0 Fe},Vals [x,y] us->∃u v,us=[u,v]/\RelV x u/\RelV y v:=vals2
section
variable{LM:L0 (HA×Obj)}{σ:St}{H:Hp}{s:Iq}{l b:HA}{xs ys zs:L0 V}
theorem Inv.lset{a its':L0 Fe}{n:Nat}{f:Array Fe->Array Fe}{t':Nat}(I:Inv X LM σ H s)(g:H l=LH (.lst xs))
  (e:s.heap.get? l=LH { cls:=.type "list",data:=.seq a.toArray n }) (hf:f a.toArray=its'.toArray)(b:Vals ys its')(hz:⇑ys<=HL) :
  Inv X LM σ (upd H l<|.lst ys) { s with heap:=s.heap.update l<|Obj.mapSeq f,toks:=t' }:=by
 let q:=PySem.IsL.update e f;rw[hf]at q;refine I.write (x:=l) (e:=l) (by rw[g];exact trivial) (.inl U) (λh u d c=>(HB.get?_update_other s.heap (Obj.mapSeq f)<|Ne.symm d).trans c) ⟨_,q⟩ ?_;calc⟨hz,its',_,b,q⟩
def Inv.lnew{a:L0 Fe}{t':Nat}(I:Inv X LM σ H s)(b:Vals ys a)(hz:⇑ys<=HL) :
  Inv X LM σ (upd H ↥s<|.lst ys) { s with heap:=s.heap.push { cls:=.type "list",data:=.seq a.toArray },toks:=t' } :=
 I.laid (λ_ _ q=>HB.get?_push_of_some _ q) (wX _) ⟨hz,a,0,b,HB.get?_push_size _ U⟩
theorem Inv.fresh(I:Inv X LM σ H s):H ↥s=none:=I.hok.fresh<|wX _
theorem Inv.lstM(I:Inv X LM σ H s)(b:H l=LH (.lst xs)):⇑xs<=HL/\∃(a:L0 Fe)(n:Nat),Vals xs a/\⇑xs=⇑a/\s.heap.get? l=LH { cls:=.type "list",data:=.seq a.toArray n }:=by
 let(z,a,n,r,e):=I.hok l _ b;calc⟨z,a,n,r,⇑r,e⟩
theorem xB{n:Nat}(h:n<=HL):Ji.List.listTooLong n=false:=by
 unfold Ji.List.listTooLong;calc LR ∅
end
inductive uP  (x:V)(vs:L0 V)(H:Hp)(Q:VK):Prop
 |mk (l xs y:_)(_:x=.ref l)(_:vs=[y])(_:H l=LH (.lst xs))(_:⇑xs<HL)(_:Q .non (upd H l<|.lst<|xs++[y])):uP x vs H Q
theorem cQ:MtM X "list.append" uP:=by
 intro c s i H x k v m Q I d f h;let(l,j,y,rfl,rfl,b,o,q):=h;cases d;let(u,rfl,g):=f.one;let(z,a,n,r,p,e):=I.lstM b;refine JU F.slot_list_append ⟨_,e,U⟩ F.entry_list_append (F.args_list_append_2 _ _) (PySem.list_append l a.toArray n u (by rw[cf];lia)) ⟨e,?_⟩;refine⟨.non,_,I.lset (its':=a++[u]) b e (by simp) (r.append<|.cons g .nil) ?_,U,q⟩;rw[dV,ie];lia
inductive uQ  (x:V)(vs:L0 V)(H:Hp)(Q:VK):Prop
 |mk (l b xs zs:_)(_:x=.ref l)(_:vs=[.ref b])(_:H l=LH (.lst xs))(_:H b=LH (.lst zs))(_:⇑xs+⇑zs<=HL)(_:Q .non (upd H l<|.lst<|xs++zs)):uQ x vs H Q
theorem vJ:MtM X "list.extend" uQ:=by
 intro g s A H x E v G Q I i j h;let(l,b,D,B,rfl,rfl,f,p,J,q):=h;cases i;let(u,rfl,k):=j.one;cases k;let(z,a,n,r,K,e):=I.lstM f;let(C,c,o,m,y,t):=I.lstM p;let d:a.toArray.size+c.toArray.size<=HL:=by rw[cf,cf];lia
 let w:¬ (!a.toArray.isEmpty && Ji.List.listTooLong (a.toArray.size+c.toArray.size))=true:=by
  rw[xB d,Bool.and_false];exact Bool.false_ne_true
 refine JU F.slot_list_extend ⟨_,e,U⟩ F.entry_list_extend (F.args_list_extend_2 _ _)
  (AutoSeq1.list_extend_list_list_0 l a.toArray n b c.toArray o w (by rw[cf];lia) ∅) ⟨e,t,?_⟩
 refine⟨.non,_,I.lset (its':=a++c) f e (by simp) (r.append m) ?_,U,q⟩;rw[dV];lia
inductive Dy  (x:V)(y:V)(H:Hp)(Q:VK):Prop
 |mk (l b xs zs:_)(_:x=.ref l)(_:y=.ref b)(_:H l=LH (.lst xs))(_:H b=LH (.lst zs))(_:⇑xs+⇑zs<=HL)(_:∀p,H p=LI->Q (.ref p) (upd H p<|.lst<|xs++zs)):Dy x y H Q
theorem pE:OpR X (Jl .Add) Dy:=by
 intro d s t H x y v u Q I g f h;let(l,b,B,w,rfl,rfl,j,k,D,q):=h;cases g;cases f;let(z,a,n,r,E,e):=I.lstM j;let(A,c,C,i,p,o):=I.lstM k;refine PySem.P.add_list e o ?_ (by rw[cf,cf];lia);let m:a.toArray++c.toArray=(a++c).toArray:=by simp
 rw[m];calc⟨.ref _,_,I.lnew (t':=s.toks) (r.append i) (by rw[dV];lia),U,q _ I.fresh⟩
section
variable{prog:Fw}{w:Fn}{A:Ip}{E:Fe->Iq->Prop}{s:Iq}
end
end _L
namespace Att
open PySem PySem.W PySem.Calls PyProof.Rows
theorem lE{P:JV}{h:HB}:∀(ns:L0 Int)(vs:L0 Fe),WellAll P h vs (ns.map WData.int)->IntsAre vs ns:=by
 intro ns;induction ns with
 |nil =>
  intro vs w;rw[mu]at w;cases w;exact .nil
 |cons n ns c =>
  intro vs w;rw[jc]at w;cases w with
  |cons a b =>
   cases a;calc .cons _ _<|c _ b
theorem vK{l:OpenLaw}{n:Nat}(t:l.most=LH n){P:JV}{h:HB}{args:L0 WData}{b:L0 Fe}
  (j:l.row.toRowW.claim.pre args=LJ)(g:WellAll P h b args) :
  ∃a vs ns,b=[Fe.ref a]/\args=[WData.list (ns.map WData.int)]/\h.get? a=LH { cls:=.type "list",data:=.seq vs.toArray }/\IntsAre vs ns/\⇑ns<=n:=by
 let i:WShape.hasAll [] args [.list .int]=true:=(pre_splitW j).1;let k:l.pre.holds [] { args:=args }=true:=(pre_splitW j).2;let(d,r,rfl,w,v):=hasAllW_cons i;obtain rfl:=hasAllW_nil v;let(y,rfl,u):=hasW_list w;let(ns,rfl):=items_int u;let c:⇑ns<=n:=by
  unfold OpenLaw.pre at k;let f:(WTm.not<|.lt (.lit<|.int (n:Int))<|.len<|.arg 0).holds [] { args:=[.list (ns.map .int)] }=true:=by
   let f:=(holds_andW k).1;rw[t]at f;exact f
  let e:=condW_of f<|w_not<|w_lt w_lit<|w_len_list<|w_arg rfl;rw[bc]at e;refine zz λq=>?_
  let p:(n:Int)<((⇑ns:Nat):Int):=∅
  first
   |(rw[LQ p]at e;exact LP e ⋯)
   |(simp at e;lia)
 cases g with
 |cons o m =>
  cases m;cases o with
  |list s x=>calc⟨_,_,ns,rfl,rfl,s,lE ns _ x,c⟩
theorem vL(l:OpenLaw)(args:L0 WData):l.row.toRowW.claim.post args (.bool LJ) args=true :=
 postW_of (r:=l.row.toRowW) (X:=(LJ == LJ))
  (show WShape.has [] (.bool LJ) .bool=LJ by first|rfl|decide|simp[WShape.has,WShape.arms,WShape.armsAll])
  (show(WTm.eq .res<|.lit<|.bool LJ).value [] { args:=args,res:=LH<|.bool LJ,after:=args }=LH (.bool<|LJ == LJ)from w_eq_bool (w_res rfl) w_lit) rfl
theorem attach_call{l:OpenLaw}{n:Nat}{q:Fw}{e:L0 Str}{XP:(Str->Option Fe)->HB->Prop}{v:Fn->HB->Prop}{d:DefRec}
  (C:l.most=LH n)(s:d.params.defaults=[])
  (call:∀(w:Fn)(c b:Iq)(mg k:Str->Option Fe)(h:HA)(o:Obj)(pm j doc:Fe)(a:HA)(vs:L0 Fe)(ns:L0 Int),
   Ground q e [] XP w c mg k b.heap->v w b.heap ->
   b.heap.get? h=LH o->o.data=.func (docDef d.name d.params d.body d.scope pm j doc)->b.heap.CodeRec j d.name->mg d.name=LH (.ref h) ->
   b.heap.get? a=LH { cls:=.type "list",data:=.seq vs.toArray }->IntsAre vs ns->⇑ns<=n->b.gens = #[] ->
   Jt (model l.prog w) JW (.call (.ref h) ⟨[.ref a],[]⟩) (λr s'=>r=.ok (.ret<|.bool LJ)/\OldK b.heap s'.heap/\s'.os=b.os/\AllBare s'.gens) b) :
  WalkO q e XP v l.row.toRowW d [] (λf vs=>PySem.call f vs):=by
 intro w c b mg k G Y h o pm j doc K kV B F t u p E y x O z P M m N;obtain rfl:K=.none:=Dflts.none u s;obtain rfl:kV=.none:=Dflts.noKw u;let(a,vs,ns,rfl,rfl,L,g,i):=vK C z m;calc enter_call<|JC (call w c b mg k h o pm j doc a vs ns G Y B (fd_plain F) t p L g i E) λr s' A=>?_;let(rfl,J,I,H):=A;calc⟨.inl ⟨.bool LJ,.bool LJ,[],rfl,λ_=>rfl,.bool LJ,vL l _,λ_=>⟨List.Pairwise.nil,λ_ D=>(nomatch D)⟩⟩,J,I,H⟩
section
variable{prog:Fw}{w:Fn}{A:Ip}{E:Fe->Iq->Prop}{s:Iq}{K:Frag}
end
end Att
namespace _L
open PySem PySem.Spec PyProof.Rows
theorem oF:∀{vs:L0 Fe}{ns:L0 Int},IntsAre vs ns->Vals (ns.map V.int) vs
 |_,_,.nil=>.nil
 |_,_,.cons n t h=>.cons ⟨t,U⟩<|oF h
def HM(H:Hp):Prop:=∀b,H b=LI\/∃o a,H b=LH (.frz o<|.lst a)
def inClass(s:ID)(j:Nat):ID:=match s with
 | .ClassDef _ _ _ body _ _ _ _ _ _ _=>body.getD j<|.Pass ⟨0,0,0,0⟩
 |_=>.Pass ⟨0,0,0,0⟩
def f7(s:ID):JH:=match s with
 | .FunctionDef _ a _ _ _ _ _ _ _ _=>a
 |_=>{ posonlyargs:=[],args:=[],vararg:=LI,kwonlyargs:=[],kw_defaults:=[],kwarg:=LI,defaults:=[] }
def cx(s:ID):L0 ID:=match s with
 | .FunctionDef _ _ b _ _ _ _ _ _ _=>b
 |_=>[]
def aj(s:ID):Ir:=match s with
 | .FunctionDef _ _ _ _ _ _ sc _ _ _=>sc
 |_=>{ kind:=.function,names:=[],isGenerator:=LK,isCoroutine:=LK }
abbrev CX0:CXT:=λ_ _ _ _ _ _=>False
abbrev E0:XK:=λ_ _ _=>False
def bW{X:Cx}:Passes CX0 X E0:=λ_ _ _ _ _ _ _ h=>h.elim
structure Fun(K:W.Frag)(x qual:Str)(st:ID)(f:HA)(fd:Jy):Prop where
 ex:∃(oc:Fe)(od:Option HA)(kV doc pm:Fe)(an:Option HA)(cdv ct:Fe)(osl:Array (Option Fe)),
  fd=W.fnOf x qual (f7 st) (cx st) (aj st) .none kV doc pm an cdv ct/\K.lookup f=LH ⟨oc,od,.func fd,osl⟩/\W.codeIn K cdv qual=LJ
 kp:W.keepIn K (.ref f)=LJ
section
variable{P:Fw}{w:Fn}{K:W.Frag}{mg:Str->Option Fe}{base:HB}
theorem Fun.ok{x qual:Str}{st:ID}{f:HA}{g:Jy}{N ps:L0 Str}{k:Nat}{sp:Sp}(F:Fun K x qual st f g)(S:aq N ps (aj st))(c:∀vs H Q E,sp vs H Q E->⇑vs=⇑ps)
  (l:∀(b:Fe)(A:Ip)(a:L0 Env)(s:Iq)(H:Hp)(vs:L0 V)(Q:VK)(E:XK),bI k (A.deeper<|envOfC qual (aj st) ↥s f b)->sp vs H Q E ->
   ∃t,PSs (bA CX0 P w K mg base N qual (aj st) f b A a s H E).nox (cx st) t/\t { nx:=λ_ H'=>Q .non H',rt:=Q } (start N vs) H):aD P w K mg base CX0 (k+1) f g ps sp:=by
 let(r,p,kV,n,o,v,b,u,m,rfl,i,e):=F.ex;refine xy i e S c λA a s H vs Q E j d=>?_
 let(t,h,q):=l b A a s H vs Q E j d;calc⟨t,h.nox,q⟩
theorem Fun.binds{x qual:Str}{st:ID}{f:HA}{d:Jy}{ps:L0 Str}(F:Fun K x qual st f d)
  (h:∀(kV doc pm:Fe)(c:Option HA)(a b:Fe)(us:L0 Fe),⇑us=⇑ps->JA (W.fnOf x qual (f7 st) (cx st) (aj st) .none kV doc pm c a b) ⟨us,[]⟩=pure (ps.zip us)):Binds K d ps []:=by
 let(j,i,kV,doc,pm,c,a,b,e,rfl,k,g):=F.ex;calc .all<|h kV doc pm c a b
def fun_mk{x qual:Str}{st:ID}{f:HA}{h:Fe}{g e:Option HA}{b:Array (Option Fe)}{kV doc pm a d:Fe}(l:K.lookup f=LH ⟨h,g,.func<|W.fnOf x qual (f7 st) (cx st) (aj st) .none kV doc pm e a d,b⟩)
  (c:W.codeIn K a qual=LJ)(k:W.keepIn K (.ref f)=LJ):Fun K x qual st f (W.fnOf x qual (f7 st) (cx st) (aj st) .none kV doc pm e a d):=⟨⟨h,g,kV,doc,pm,e,a,d,b,U,l,c⟩,k⟩
end
theorem az{n:Nat}(h:n<=1000):n<HL:=Nat.lt_of_le_of_lt h ⋯
variable{X:Cx}
theorem pv(i:Nat){x:Str}{pos:Pos}(d:X.N[i]?=LH x:=by rfl)(b:Vis X.env.scope x:=by first|exact Or.inl U|exact Or.inr (Or.inl U)|exact Or.inr (Or.inr U))(c:(x == ("__debug__" : Str))=false:=by decide)
  (a:(x == ("__classdict__" : Str))=false:=by decide):PE X (.Name x pos) (BB i):=xf d b c a
theorem bK{A B:Prop}(h:B):if LK=LJ then A else B:=by
 rw[LN Bool.false_ne_true];calc h
theorem df{A B:Prop}(h:A):if LJ=LJ then A else B:=by
 rw[LO U];calc h
theorem cM{c A B:Prop} [Decidable c] (b:c->A)(a:¬ c->B):if c then A else B:=by
 by_cases h:c
 .rw[LO h];exact b h
 .rw[LN h];calc a h
theorem xC{c A B:Prop} [Decidable c] (a:c)(h:B):if (!decide c)=LJ then A else B:=by
 rw[LQ a];calc bK h
def ak(H H':Hp):Prop:=∀b o,H b=LH o->H' b=LH o
def ak.refl(H:Hp):ak H H:=λ_ _ h=>h
def ak.trans{H e d:Hp}(a:ak H e)(b:ak e d):ak H d:=λc o h=>b c o<|a c o h
theorem ak.free{H H':Hp}(e:ak H H'){l:HA}(h:H' l=Option.none):H l=Option.none:=by
 cases q:H l with
 |none=>rfl
 |some o =>
  rw[e l o q]at h;cases h
theorem ak.seq{K:W.Frag}{H H':Hp}{a:HA}{xs:L0 V}(e:ak H H')(h:SqL K H a xs):SqL K H' a xs:=by
 rcases h with(h|⟨o,h⟩)|h
 .exact .inl<|.inl<|e _ _ h
 .exact .inl<|.inr ⟨o,e _ _ h⟩
 .exact .inr h
abbrev Pr:=Int×Int
def inR(n:Int)(p:Pr):Bool:=LL (p.1<=n) && decide (n<=p.2)
def inP(ps:L0 Pr)(n:Int):Bool:=ps.any<|inR n
structure Apart(R:L0 Pr):Prop where
 le:∀p∈R,p.1<=p.2
 gap:R.Pairwise λp q=>p.2+2<=q.1
structure HN(R qs:L0 Pr):Prop where
 ap:Apart R
 mem:∀n,inP R n=inP qs n
 cov:∀p∈qs,p.1<=p.2->∃r∈R,r.1<=p.1/\p.2<=r.2
 low:∀r∈R,∃q∈qs,r.1=q.1
def Callee(P:Fw)(w:Fn)(K:W.Frag)(mg:Str->Option Fe)(base:HB)(k:Nat)(x:Str)(ps:L0 Str)(sp:Sp):Prop :=
 ∃f a,aD P w K mg base CX0 k f a ps sp/\Binds K a ps []/\W.keepIn K (.ref f)=LJ/\mg x=LH (.ref f)
theorem Callee.mono{P:Fw}{w:Fn}{K:W.Frag}{mg:Str->Option Fe}{base:HB}{j k:Nat}{x:Str}{ps:L0 Str}{sp:Sp}(C:Callee P w K mg base j x ps sp)(h:j<=k):Callee P w K mg base k x ps sp:=by
 let(f,a,F,r):=C;calc⟨f,a,F.mono h,r⟩
variable{pos:Pos}
section
variable{k:Nat}{x:Str}{ps:L0 Str}{sp:Sp}{e:Iz}{es:L0 Iz}{t:TA}{p:Pos}
def tFn(sp:Sp)(t:TA):TE:=λa H Q=>t a H λb c=>sp b c Q E0
theorem aN(C:Callee X.prog X.w X.K X.mg X.base k x ps sp)(o:bI k X.A)(r:Gl X x)(u:PA X (e :: es) t)(j:(x == ("__debug__" : Str))=false:=by decide)
  (he:IC (e :: es) X.env=(LK,eval e X.env) :: IC es X.env:=by rfl)(i:(IB pos<|IC es X.env).any (·.1)=false:=by rfl):PE X (.Call (.Name x p) (e :: es) [] pos) (tFn sp t):=by
 let(f,y,F,b,n,m):=C;let h:=zD (E:=E0) (dvs:=[]) (ds:=[]) (p:=p) F o r m n b .nil bW u j he i;intro d s g H Q I q;calc h d s g H Q I ?_;let l:t g H λa c=>sp a c Q E0:=q
 let v:(λ(a:L0 V)(c:Hp)=>sp (a++[]) c Q E0)=λa c=>sp a c Q E0:=by
  funext a c
  rw[iP]
 show t g H λa c=>sp (a++[]) c Q E0
 rw[v];calc l
end
def bX(t u:TS):TS:=λD c H=>∃M:St->Hp->Prop,t { D with nx:=M } c H/\∀a b,M a b->u D a b
theorem aC{X:Cx}{st:ID}{rest:L0 ID}{t u:TS}(i:PS X st t)(h:PSs X rest u):PSs X (st :: rest) (bX t u):=by
 intro c s f H D I ⟨M,a,b⟩;calc IL<|thn (i c s f H { D with nx:=M } I a) λfl g q=>?_;cases fl with
 |next=>obtain⟨d,e,j,q⟩:=q;exact h c g d e D j<|b d e q
 |ret v=>exact q
 |brk=>exact q
 |cont=>calc q
inductive EqI(K:W.Frag)(H:Hp):V->V->Bool->Prop where
 |flat {x y:V}(fx:fM x=LJ)(fy:fM y=LJ):EqI K H x y (eqV x y)
 |same (a:HA):EqI K H (.ref a) (.ref a) LJ
 |tup {a b:HA}{xs ys:L0 V}(ha:SqT K H a xs)(hb:SqT K H b ys)(fx:xs.all fM=LJ)(fy:ys.all fM=LJ):EqI K H (.ref a) (.ref b) (LL (⇑xs=⇑ys) && (List.zipWith eqV xs ys).all id)
theorem qt:∀{x:V},fM x=LJ->eqV x x=LJ
 | .non,_=>rfl
 | .bl b,_=>beq_self_eq_true b
 | .int i,_=>beq_self_eq_true i
 | .str z,_=>beq_self_eq_true z
theorem l7:∀{xs:L0 V},xs.all fM=LJ->(List.zipWith eqV xs xs).all id=LJ
 | [],_=>rfl
 |x :: xs,h=>by
  rw[sx,Dx]at h;rw[List.zipWith_cons_cons,sx,l7 h.2,Bool.and_true];calc qt h.1
theorem iX{f:Nat->Bool}:∀{xs ys:L0 V},(∀j x y,xs[j]?=LH x->ys[j]?=LH y->f j=eqV x y)->(List.range<|min ⇑xs ⇑ys).all f=(List.zipWith eqV xs ys).all id
 | [],ys,_=>by simp
 |x :: xs,[],_=>by simp
 |x :: xs,y :: ys,h=>by
  let c:=iX (f:=λj=>f<|j+1) (xs:=xs) (ys:=ys) λj a b g e=>h (j+1) a b (~~~g)<|~~~e
  let i:=h 0 x y U U;let d:min ⇑(x :: xs) ⇑(y :: ys)=min ⇑xs ⇑ys+1:=by simp only[gb];lia
  rw[d,List.range_succ_eq_map,sx,List.zipWith_cons_cons,sx,List.all_map,i];show(eqV x y && (List.range<|min ⇑xs ⇑ys).all (λj=>f<|j+1))=_;rw[c];rfl
section
variable{LM:L0 (HA×Obj)}{σ:St}{H:Hp}{s:Iq}
theorem EqI.at{A:Ip}{x y:V}{u v:Fe}{b:Bool}(e:EqI X.K H x y b)(I:Inv X LM σ H s)(W:A.units+1<Jw)(l:RelV x u)(k:RelV y v):SeqAt.EqAt A s u v b:=by
 cases e with
 |flat i m=>exact sZ l k i m
 |same a =>
  cases (show u=Fe.ref a from l);cases (show v=Fe.ref a from k);exact SeqAt.EqAt.same _
 | @tup a b xs ys ha hb i m =>
  cases (show u=Fe.ref a from l);cases (show v=Fe.ref b from k);by_cases z:a=b
  .subst z;let e:=I.tuple_inj ha hb;subst e;rw[l7 i,LQ U];exact SeqAt.EqAt.same _
  .let(d,r,p,_):=I.tuple ha;let(c,q,D,_):=I.tuple hb;let F:=⇑r;let E:=⇑q;let M:=SeqAt.RcAt.tuples (A:=A) (e:=λj=>match d[j]?,xs[j]?,ys[j]? with|_,LH x,LH y=>eqV x y|_,_,_=>LK) (show s.heap.IsTuple a d.toArray from p) (show s.heap.IsTuple b c.toArray from D) ∅ (λj f L=>by
    let J:j<⇑d:= ~~~f
    let G:j<⇑c:= ~~~L
    let o:xs[j]?=LH xs[j]:=Ij ∅;let n:ys[j]?=LH ys[j]:=Ij ∅;let(w,h,C):=r.get o;let(t,g,B):=q.get n;let Q:d.toArray[j]=w:=by
     have:=Ij J;rw[this]at h;simpa using Option.some.inj h
    let P:c.toArray[j]=t:=by
     have:=Ij G;rw[this]at g;simpa using Option.some.inj g
    rw[Q,P];rw[o,n];let O:fM xs[j]=true:=jr.mp i _<|List.getElem_mem _;let N:fM ys[j]=true:=jr.mp m _<|List.getElem_mem _;exact sZ C B O N)
   let f:=SeqAt.EqAt.of_refs z M;let T:((List.range<|min d.toArray.size c.toArray.size).all λj=>match d[j]?,xs[j]?,ys[j]? with|_,LH x,LH y=>eqV x y|_,_,_=>LK)=(List.zipWith eqV xs ys).all id:=by
    let R:min d.toArray.size c.toArray.size=min ⇑xs ⇑ys:=by simp only[cf];lia
    rw[R];exact iX λj x y h g=>by rw[h,g]
   rw[T]at f;let S:(d.toArray.size == c.toArray.size)=LL (⇑xs=⇑ys):=by
    simp only[cf,←F,←E];exact Bool.beq_eq_decide_eq _ _
   rw[S,Bool.and_comm]at f;calc f
end
inductive B2(K:W.Frag)(neg:Bool)(x:V)(y:V)(H:Hp)(Q:VK):Prop
 |mk (a b xs ys:_)(_:x=.ref a)(_:y=.ref b)(_:SqL K H a xs)(_:SqL K H b ys)(_:((⇑xs≠⇑ys/\Q (.bl neg) H)\/(⇑xs=⇑ys/\∃f:Nat->Bool,(∀j x y,xs[j]?=LH x->ys[j]?=LH y->EqI K H x y (f j))/\Q (.bl (if neg then !(List.range ⇑xs).all f else(List.range ⇑xs).all f)) H)))
theorem tm{b:L0 (HA×Obj)}{l:St}{H:Hp}{s:Iq}{A:Ip}{xs ys:L0 V}{a its':L0 Fe}{f:Nat->Bool}(I:Inv X b l H s)(u:A.units+1<Jw)(r:Vals xs a)(e:Vals ys its')
  (hf:∀j x y,xs[j]?=LH x->ys[j]?=LH y->EqI X.K H x y (f j)):∀j (k:j<a.toArray.size)(i:j<its'.toArray.size),SeqAt.EqAt A s a.toArray[j] its'.toArray[j] (f j):=λj k i=>by
 let t:j<⇑a:= ~~~k
 let q:j<⇑its':= ~~~i
 let B:=⇑r;let z:=⇑e;let d:xs[j]?=LH xs[j]:=Ij ∅;let c:ys[j]?=LH ys[j]:=Ij ∅;let(n,h,p):=r.get d;let(m,g,o):=e.get c;let w:a.toArray[j]=n:=by
  let:=Ij t;rw[this]at h;simpa using Option.some.inj h
 let v:its'.toArray[j]=m:=by
  let:=Ij q;rw[this]at g;simpa using Option.some.inj g
 rw[w,v];calc(hf j _ _ d c).at I u p o
theorem xD{k:Nat}(o:bI k X.A):OpR X (Jn .Eq) (B2 X.K LK):=by
 intro i s B H x y v u Q I n m h;let(a,b,l,C,rfl,rfl,z,w,h):=h;cases (show v=Fe.ref a from n);cases (show u=Fe.ref b from m);let(c,r,p,_):=I.list z;let(j,d,g,_):=I.list w;let E:=⇑r;let D:=⇑d;let F:=o.units;rcases h with⟨G,q⟩|⟨J,f,t,q⟩
 .refine SeqAt.eq_list_lengthsAt p.isList g.isList (by simp only[cf,bne_iff_ne,ne_eq];lia) ∅ ⟨.bl LK,H,I,U,q⟩
 .refine SeqAt.eq_listAt (e:=f) p.isList g.isList (by simp only[cf];lia) ∅ (tm I (by show X.A.units+1+1<Jw;lia) r d t) ⟨.bl _,H,I,U,?_⟩;rw[show c.toArray.size=⇑l by simp only[cf];lia];calc q
def cm(H H':Hp):Prop:=∀b a,H b=LH (.tup a)->H' b=LH (.tup a)
def ak.tups{H H':Hp}(h:ak H H'):cm H H':=λb a e=>h b _ e
def cm.trans{H g f:Hp}(a:cm H g)(b:cm g f):cm H f:=λc d e=>b c d<|a c d e
theorem oG{H:Hp}{p:HA}{o:HO}(h:H p=LI):cm H (upd H p o):=λb a e=>by rw[av (aZ e h)];calc e
theorem bP{H:Hp}{p:HA}{o:HO}{ys:L0 V}(h:H p=LH (.lst ys)):cm H (upd H p o):=λb a e=>by rw[av (jI e h (by intro z;cases z))];calc e
theorem ag{H:Hp}{p:HA}(h:H p=LI)(o:HO):ak H (upd H p o):=λb u q=>by rw[av (aZ q h)];calc q
theorem ak.upd{H H':Hp}{p:HA}{o:HO}(s:ak H H')(h:H p=LI):ak H (upd H' p o):=λb u q=>by rw[av (aZ q h)];calc s b u q
def PL(H:Hp):L0 V->L0 (Int×Int)->Prop:=Paired λx p=>∃r,x=.ref r/\H r=LH (.tup [.int p.1,.int p.2])
def PL.mono{H H':Hp}{xs:L0 V}{ps:L0 (Int×Int)}(h:PL H xs ps)(s:cm H H'):PL H' xs ps:=Paired.mapP h λ_ _ ⟨r,e,z⟩=>⟨r,e,s r _ z⟩
theorem PL.get{H:Hp}:∀{xs:L0 V}{ps:L0 (Int×Int)}{i:Nat}{x:V},PL H xs ps->xs[i]?=LH x->∃p r,ps[i]?=LH p/\x=.ref r/\H r=LH (.tup [.int p.1,.int p.2])
 |_,_,_,_,.nil,e=>by simp at e
 |_,_,0,_,.cons (b:=b) ⟨r,e1,z⟩ _,e=>by simp at e;subst e;exact⟨b,r,U,e1,z⟩
 |_,_,i+1,x,.cons _ t,e=>by
  let(p,r,q):=PL.get (i:=i) (x:=x) t<|~~~e;calc⟨p,r,~~~q.1,q.2⟩
theorem PL.length{H:Hp}{xs:L0 V}{ps:L0 (Int×Int)}(h:PL H xs ps):⇑xs=⇑ps:=Paired.length h
theorem PL.snoc{H:Hp}{xs:L0 V}{ps:L0 (Int×Int)}{r:HA}{a b:Int}(h:PL H xs ps)(e:H r=LH (.tup [.int a,.int b])):PL H (xs++[.ref r]) (ps++[(a,b)]):=Paired.snoc h ⟨r,U,e⟩
theorem PL.app{H:Hp}{xs ys:L0 V}{ps a:L0 (Int×Int)}(h:PL H xs ps)(h':PL H ys a):PL H (xs++ys) (ps++a):=by
 induction h with
 |nil=>exact h'
 |cons r t b=>calc .cons r b
theorem iY{ps:L0 (Int×Int)}{i:Nat}{p:Int×Int}{f:Int×Int->Bool}(e:ps[i]?=LH p)(h:(ps.take i).any f=LK)(a:f p=LK):(ps.take<|i+1).any f=false:=by
 rw[nQ,e,List.any_append,h];simp[a]
def tq{ps:L0 (Int×Int)}{i:Nat}{p:Int×Int}{f:Int×Int->Bool}(e:ps[i]?=LH p)(a:f p=LJ):ps.any f=true:=sE.mpr ⟨p,Il e,a⟩
def gH{p:Prop} [Decidable p] (h:decide p=LJ):p:=LS h
def iZ{p:Prop} [Decidable p] (h:¬ decide p=LJ):¬ p:=λe=>h<|LQ e
def qu{X:Cx}{K:W.Frag}(h:X.K=K):IxR X (BS K):=h ▸ aY
def jM{X:Cx}{K:W.Frag}(h:X.K=K):IxR X (BU K):=h ▸ dC
def bw(X:Cx)(N:L0 Str)(scope:Ir)(cl:L0 (Str×HA))(a:L0 HA)(C:HA)(s2:Iq)(b:Hp):Cx :=
 { prog:=X.prog,w:=X.w,K:=X.K,mg:=X.mg,base:=X.base,A:=X.A,N:=N,s₀:=s2,H₀:=b,env:=JX scope cl C X.env,outer:=X.stack,stack:=X.stack,ex:=a,fn:=λ_=>LK,calm:=X.calm,pn:=[],xe:=λ_ _=>False }
def PIf(X:Cx)(d:L0 Iz)(t:TT):Prop :=
 ∀(a:L0 (HA×Obj))(s:Iq)(b:St)(H:Hp)(Q:Bool->Hp->Prop),Inv X a b H s->t b H Q ->
  Iw (model X.prog X.w) X.A (forIn d LJ λc r=>if r=LJ then do let ok ←IA c X.env (eval c X.env);pure (ForInStep.yield ok)else pure (ForInStep.yield r)) (TP X a b Q) X.xe s
def EY:TT:=λ_ H Q=>Q LJ H
def bY{X:Cx}:PIf X [] EY:=λ_ _ _ H _ I h=>wpAny_tests_nil ⟨H,I,h⟩
def jN{X:Cx}{c:Iz}{t:TT}(h:PT X c t):PIf X [c] t:=λa s b H Q I q=>wpAny_tests_one<|h a s b H Q I q
structure qv(X:Cx)(N:L0 Str)(fr:L0 Nat)(scope:Ir)(cl:L0 (Str×HA))(x:Str):Prop where
 clos:JY scope X.env=pure cl
 kind:scope.kind=.function
 nocell:∀y∈scope.names,y.2≠.cell
 names:∀y∈scope.names,y.2=.local->scope.names.lookup y.1=LH .local
 hx:scope.names.lookup x=LH .local
 nd:N.Nodup
 n0:N[0]?=LH x
 len:N.length=⇑fr+1
 sub:∀(i:Nat)(y:Str),N[i+1]?=LH y->∃j,fr[i]?=LH j/\X.N[j]?=LH y/\(X.env.kindOf y=LH .cell\/X.env.kindOf y=LH .free)/\((relabel scope X.env).names.lookup y=LH .cell\/(relabel scope X.env).names.lookup y=LH .free)
 cells:∀y c,cl.lookup y=LH c->X.env.cells.lookup y=LH c
 has:∀y,((relabel scope X.env).names.lookup y=LH .cell\/(relabel scope X.env).names.lookup y=LH .free)->∃c,cl.lookup y=LH c
theorem fj{X:Cx}{scope:Ir}{x:Str}(kind:scope.kind=.function)(a:∀y∈scope.names,y.2≠.free)(b:∀y∈scope.names,y.2≠.cell)
  (names:∀y∈scope.names,y.2=.local->scope.names.lookup y.1=LH .local)(f:scope.names.lookup x=LH .local):qv X [x] [] scope [] x:=by
 let g:(relabel scope X.env).names=scope.names:=map_eq_self λy d=>by
  let z:(y.2 == JD.free)=false:= ~~~a y d
  simp[z]
 let no:∀y,¬ ((relabel scope X.env).names.lookup y=LH .cell\/(relabel scope X.env).names.lookup y=LH .free):=λy h=>by
  rw[g]at h;rcases h with h|h
  .exact b _ (mem_of_lookup h) U
  .exact a _ (mem_of_lookup h) U
 calc⟨JZ a,kind,b,names,f,by simp,U,U,λi y e=>by simp at e,(λy c e=>by cases e),λy h=>LP h<|no y⟩
theorem dD{X:Cx}{N:L0 Str}{fr:L0 Nat}{scope:Ir}{cl:L0 (Str×HA)}{x:Str}(clos:JY scope X.env=pure cl)(kind:scope.kind=.function)(a:∀y∈scope.names,y.2≠.cell)
  (names:∀y∈scope.names,y.2=.local->scope.names.lookup y.1=LH .local)(l:scope.names.lookup x=LH .local)(f:N.Nodup)(g:N[0]?=LH x)(b:N.length=⇑fr+1)
  (sub:((List.range ⇑fr).all λi=>match N[i+1]?,fr[i]? with|some y,LH j=>(X.N[j]? == LH y) && ((X.env.kindOf y == LH .cell) && ((relabel scope X.env).names.lookup y == LH .cell))|_,_=>LK)=LJ)
  (cells:∀p∈cl,X.env.cells.lookup p.1=LH p.2)(d:((relabel scope X.env).names.all λp=>(p.2 != .cell && p.2 != .free) || (cl.lookup p.1).isSome)=LJ):qv X N fr scope cl x:=by
 refine⟨clos,kind,a,names,l,f,g,b,λi y e=>?_,λy c e=>cells _<|mem_of_lookup e,λy h=>?_⟩
 .let hi:i<⇑fr:=by have:=(Ik.mp e).1;lia
  let z:=jr.mp sub i<|iu.mpr hi;rw[e,Ij hi]at z;simp only[Dx,beq_iff_eq]at z;exact⟨_,Ij hi,z.1,.inl z.2.1,.inl z.2.2⟩
 .let look:∀k,(relabel scope X.env).names.lookup y=LH k->(k=.cell\/k=.free)->∃c,cl.lookup y=LH c:=λk e m=>by
   let z:=jr.mp d _<|mem_of_lookup e;rcases m with rfl|rfl
   .exact EV.mp<|~~~z
   .exact EV.mp<|~~~z
  rcases h with h|h
  .exact look _ h<|.inl U
  .exact look _ h<|.inr U
def eM(a:St)(fr:L0 Nat)(x:Option V):St:=x :: fr.map λj=>(a[j]?).join
def l8(J:It)(fr:L0 Nat)(tt:TT)(j:TE)(d:St)(Q:VK)(g:Hp):Prop:=∀D,g D=LI->∃W:Nat->Nat->Hp->Prop,(∃m,W 0 m<|upd g D<|.lst [])/\∀i m H,W i m H ->
 (J.stop i H/\Q (.ref D) H)\/(J.go i H/\∀x h,J.yld i H x h->tt (eM d fr<|LH x) h λb f=>if b=LJ then j (eM d fr<|LH x) f λy e=>∃c,e D=LH (.lst c)/\⇑c<HL/\∃a,a<m/\W (i+1) a (upd e D<|.lst<|c++[y])
  else ∃a,a<m/\W (i+1) a f)
def A3(b:TI)(fr:L0 Nat)(tt:TT)(c:TE):TE:=λa H Q=>b a H λJ d=>l8 J fr tt c a Q d
section
variable{prog:Fw}{w:Fn}{A:Ip}{R:Js->Iq->Prop}{s:Iq}
theorem l9{f a d:Iz}{e:L0 Iz}{scope:Ir}{pos:Pos}{it g:Fe}{b:Env}(J:Nat->Iq->Prop)
  (turn:∀n s,J n s->Iw (model prog w) A (IX it) (λr j=>match r with
   |none=>R (.ok .next) j
   |some v=>Iw (model prog w) A (IY a it v) (λ_ s2=>Iw (model prog w) A (assign a b v) (λ_ o =>
     Iw (model prog w) A (forIn e LJ λc r=>if r=LJ then do let ok ←IA c b (eval c b);pure (ForInStep.yield ok)else pure (ForInStep.yield r)) (λok i =>
      if ok=LJ then Iw (model prog w) A (eval f b) (λy l=>Iw (model prog w) A (call (.builtin "list.append") [g,y]) (λ_ k=>∃m,m<n/\J m k) (λ_ _=>False) l) (λ_ _=>False) i
      else ∃m,m<n/\J m i) (λ_ _=>False) o) (λ_ _=>False) s2) (λ_ _=>False) j) (λ_ _=>False) s)
  (n:Nat)(h:J n s):Jt (model prog w) A (.compLoop (.ListComp f [⟨a,d,e,0⟩] scope pos) 0 it g b) R s:=by
 calc codeAny_loop U J (λn s t=>?_) n h;show Iw _ A ((compTurn (.ListComp f [⟨a,d,e,0⟩] scope pos) 0 it g b).onRaise (λx=>do Ka x b;theTreesLotGoes x)) _ _ s;calc wpAny_noted ?_;rw[compTurn_list];calc E2<|IT<|E2<|IE (turn n s t) (λr j q=>?_) λ_ _ z=>z.elim;cases r with
 |none=>exact E6 q
 |some v =>
  calc E2<|IE q (λ_ s2 D=>?_) λ_ _ z=>z.elim;calc E2<|IE D (λ_ o C=>E2<|IE C (λok i p=>?_) λ_ _ z=>z.elim) λ_ _ z=>z.elim;cases ok with
  |false=>exact E6 ⟨U,p⟩
  |true=>calc E2 (E2<|IE p (λy l B=>E2<|IE B (λ_ k u=>E6<|E6 ⟨U,u⟩) λ_ _ z=>z.elim) λ_ _ z=>z.elim)
end
variable{fr:L0 Nat}{tt:TT}{te:TE}
section
variable{elt iter:Iz}{ifs:L0 Iz}{x:Str}{px:Pos}{scope:Ir}{cl:L0 (Str×HA)}{N:L0 Str}
theorem oH{F:L0 (HA×Obj)}{q:St}{s2:Iq}{h:Hp}{it:HA}{f:L0 HA}{tn:Nat->HB->Prop}{J:It}{Q:VK}{E:Fe->Iq->Prop}{RR:Fe->HA->Js->Iq->Prop}
  (O:qv X N fr scope cl x)(hc:X.calm=LJ)(g:Inv X F q h s2)(T:Turn X.prog X.w X.K (.Name x px) J f it tn)(a1:tn 0 s2.heap)(I:∀b∈f,ko X F h b)
  (ht:∀f C s H,PIf (bw X N scope cl f C s H) ifs tt)(he:∀f C s H,PE (bw X N scope cl f C s H) elt te)
  (hW:l8 J fr tt te q Q h)
  (fin:∀D C s' H',↥s2<=C->H' C=LI->(∃m,s'.heap.Ns C m)->Inv X F q H' s'->Q (.ref D) H'->RR (.ref D) C (.ok .next) s') :
  Iw (model X.prog X.w) X.A (Kb []) (λa7 s3=>Iw (model X.prog X.w) X.A (Kc scope X.env.globals cl [] X.env.qual LI .none (LH X.env)) (λxE s4 =>
   Jt (model X.prog X.w) X.A (.compStart (.ListComp elt [⟨.Name x px,iter,ifs,0⟩] scope pos) 0 (.ref it) a7 { xE with scope:=relabel scope X.env }) (RR a7 xE.locals) s4) E s3) E s2:=by
 refine Kd (Ke O.nocell (by intro y hy;simp at hy) (λh1 a2 M=>?_) O.kind);dsimp only at a2 M⊢;generalize hG:s2.heap.push { cls:=.type "list",dict:=LI,data:=.seq ([]:L0 Fe).toArray }=G at a2 M⊢;let Y:G.objs.size=↥s2+1:=by rw[←hG,HB.size_push]
 let B:∀b o,s2.heap.get? b=LH o->h1.get? b=LH o:=λb o e=>M.extBut b o (wY (by rw[Y];exact xG (HB.lt_size e))) (HB.get?_push_of_some _<|hG ▸ HB.get?_push_of_some _ e)
 let xF:h1.get? ↥s2=LH { cls:=.type "list",data:=.seq ([]:L0 Fe).toArray 0 }:=M.extBut _ _ (wY (by rw[Y];exact yg _)) (HB.get?_push_of_some _<|hG ▸ HB.get?_push_size _ U);let hD:h ↥s2=none:=g.fresh;let L:(bw X N scope cl f G.objs.size s2 h).Ok:=by
  refine⟨g.ok.mod,O.kind,g.ok.glob,g.ok.blt,by show ↥s2<=G.objs.size;rw[Y];exact x4 _,λy z c e1 e2=>g.ok.inj y z c (O.cells y c e1)<|O.cells z c e2,λy hy=>O.has y hy,λy c z=>LP (show LK=LJ from z) Bool.false_ne_true,g.ok.hd,g.ok.frames,.inl U,
   λb a=>⟨?_,λy c e=>(I b a).2.2.2.2.1 y c<|O.cells y c e⟩,g.bs,xc g.ok.bsz g.sz,λb o e a=>?_,λb a z=>?_,g.stack,g.stkFree⟩
  .let(o,e,_):=T.obj _ _ a1 b a;show b≠G.objs.size;exact wY (by rw[Y];exact xG (HB.lt_size e))
  .rcases(I b a).2.2.2.1 with z|z
   .exact g.ok.noex b o e z
   .exact LP (w6 (HB.lt_size e)<|xc g.ok.bsz z)<|za _
  .rcases bL.mp (g.stkSub b z)with z|z
   .exact(I b a).2.1 z
   .exact(I b a).2.2.1 z
 let ma:∀{H':Hp},(∀b∈f,H' b=LI)->∀b∈f,ko (bw X N scope cl f G.objs.size s2 h) [] H' b:=λhn b a =>
  ⟨hn b a,(L.exf b a).1,L.exfs b a,.inl a,(L.exf b a).2,λp hp=>LP (show p∈([]:L0 (HA×Obj))from hp) (by simp)⟩
 let I':Inv (bw X N scope cl f G.objs.size s2 h) [] (eM q fr LI) (upd h ↥s2<|.lst []) { s2 with heap:=h1,toks:=s2.toks+⇑([]:L0 (Str×Fe)) }:=by
  refine⟨L,U,g.bare,Un.laid B (wX _) hD,⟨_,a2,λi y v e1 e2 e3=>?_⟩,λy c e=>?_,?_,λy c e=>?_,λp hp=>LP (show p∈([]:L0 (HA×Obj))from hp) (by simp),g.hok.laid B (wX _) ⟨wZ _,[],0,.nil,xF⟩,?_⟩
  .cases i with
   |zero=>cases e2
   |succ i =>
    let(j,q1,q2,q3,q4):=O.sub i y e1;let P:(q[j]?).join=LH v:=by
     have:(fr.map λj=>(q[j]?).join)[i]?=LH (LH v):=e2;rw[gM,q1]at this;exact Option.some.inj this
    let e4:q[j]?=LH (LH v):=by
     cases z:q[j]? with
     |none=>rw[z]at P;cases P
     |some t=>rw[z]at P;exact LU LH P
    let(m,_,hl):=g.loc;let b3:Vis X.env.scope y:=.inr q3;let(u,r,l):=hl j y v q2 e4 b3;calc⟨u,r,.inr ⟨q4,?_⟩⟩;let(c',a5):=O.has y q4;rcases l with⟨k,_⟩|⟨_,c,ec,ic⟩
    .rcases q3 with z|z
     .rw[z]at k;cases k
     .rw[z]at k;cases k
    .let:=O.cells y c' a5;let e':c=c':=Option.some.inj<|ec.symm.trans this;let(o,ho,hd):=ic;rw[e']at ho;exact⟨c',a5,o,B c' o ho,hd⟩
  .let(v,o,ho,hd):=g.cell y c<|O.cells y c e;exact⟨v,o,B c o ho,hd⟩
  .show upd h ↥s2 (.lst []) G.objs.size=LI;rw[av (xa (by rw[Y];exact yg _))];exact g.hok.fresh (by rw[Y];exact x4 _)
  .let(v,o,ho,hd):=g.cell y c<|O.cells y c e;rw[av (wY<|HB.lt_size ho)];exact g.freeC y c<|O.cells y c e
  .show⇑(eM q fr LI)=N.length;rw[O.len];simp[eM]
 let a4:tn 0 h1:=T.keep _ _ _ a1 λb a o e=>B b o e
 let R:∀s3:Iq,s3={ s2 with heap:=h1,toks:=s2.toks+⇑([]:L0 (Str×Fe)) } ->
   Jt (model X.prog X.w) X.A (.compLoop (.ListComp elt [⟨.Name x px,iter,ifs,0⟩] scope pos) 0 (.ref it) (.ref ↥s2)<|JX scope cl G.objs.size X.env) (RR (.ref ↥s2) G.objs.size) s3:=by
  rintro s3 rfl;let(W,(m0,w0),a8):=hW _ hD
  refine l9 (λn s'=>∃i t H',Inv (bw X N scope cl f G.objs.size s2 h) [] (eM q fr t) H' s'/\tn i s'.heap/\(∀b∈f,H' b=LI)/\W i n H') ?_ m0
   ⟨0,LI,_,I',a4,λb a=>by
    rw[av (by let(o,e,_):=T.obj _ _ a1 b a;exact wY (HB.lt_size e))];exact(I b a).1,w0⟩
  rintro n s' ⟨i,t,H',I3,a3,a6,w3⟩;rcases a8 i n H' w3 with⟨a9,qn⟩|⟨go,step⟩
  .refine thn (T.done (bw X N scope cl f G.objs.size s2 h) U U U hc i [] s' _ H' _ I3 (ma a6) a3 a9) λr s4 ⟨hr,I4⟩=>?_
   subst hr;let(m,V,_):=I4.loc;refine fin _ _ s4 H' (by rw[Y];exact x4 _) I4.free ⟨m,V⟩ (g.call' (ch:=f) I4.os I4.base I4.hok I4.bare λb a=>?_) qn;exact⟨(I b a).2.2.2.1,(I b a).2.1,(I b a).2.2.2.2.1,(I b a).2.2.2.2.2⟩
  .refine thn (T.item (bw X N scope cl f G.objs.size s2 h) U U U hc i [] s' _ H' _ I3 (ma a6) a3 go) λr s4 ⟨u,hr,h4⟩=>?_
   subst hr;refine thn h4 λ_ s5 ⟨y,H5,I5,r5,y5,a0,b5⟩=>?_
   let b7:=I5.pinned (ma b5)<|T.obj _ _ a0;let lx:(bw X N scope cl f G.objs.size s2 h).env.scope.names.lookup x=LH .local:=lookup_relabel_local O.hx;refine thn (aw (X:=bw X N scope cl f G.objs.size s2 h) (i:=0) O.nd O.n0 (.inl lx) (.inr lx) _ s5 _ H5 y u (λb1 H'=>b1=eM q fr (LH y)/\H'=H5) b7 r5 ⟨U,U⟩) λ_ s6 ⟨c0,H6,I6,e6,b6⟩=>?_
   subst e6;subst b6
   let again:∀{Z:St}{H7:Hp}{s7:Iq}{S:Nat},Z=eM q fr (LH y)->Inv (bw X N scope cl f G.objs.size s2 h) ([]++kr f s5.heap) Z H7 s7->S<n->W (i+1) S H7 ->
     ∃m,m<n/\∃i t H',Inv (bw X N scope cl f G.objs.size s2 h) [] (eM q fr t) H' s7/\tn i s7.heap/\(∀b∈f,H' b=LI)/\W i m H':=λ{Z H7 s7 S} e7 I7 V w7=>by
    subst e7;calc⟨S,V,i+1,LH y,H7,I7.unpinned,T.keep _ _ _ a0 λb a o e=>(I7.pin (b,o)<|jq _<|jq _<|dB a e).1,λb a=>?_,w7⟩;let(o,e,d):=T.obj _ _ a0 b a;exact(I7.pin (b,o)<|jq _<|jq _<|dB a e).2.1
   refine thn (ht f G.objs.size s2 h _ s6 _ H6 _ I6<|step y H6 y5) λok s7 ⟨H7,I7,q7⟩=>?_
   cases ok with
   |false =>
    rw[LN Bool.false_ne_true]at q7⊢;let(S,V,w7):=q7;exact again U I7 V w7
   |true =>
    rw[LO U]at q7⊢;refine thn (he f G.objs.size s2 h _ s7 _ H7 _ I7 q7) λu8 s8 ⟨v8,H8,I8,r8,ys,b4,b0,S,V,w8⟩=>?_
    refine thn (cQ (X:=bw X N scope cl f G.objs.size s2 h) _ s8 _ H8 (.ref ↥s2) [v8] _ [u8] (λ_ H9=>W (i+1) S H9) I8 U (.cons r8 .nil) ⟨_,ys,v8,U,U,b4,b0,w8⟩) λ_ s9 ⟨_,H9,I9,_,w9⟩=>?_
    exact again U I9 V w9
 calc Kf (R _ U)<|T.self _ 0 _ _ _ a4<|R _ U
theorem Inv.left{a:L0 (HA×Obj)}{h g:St}{s2 s':Iq}{q H':Hp}{C:HA}{h':HB}(f:Inv X a g q s2)(n:Inv X a h H' s')(d:↥s2<=C)(l:H' C=LI)(i:HB.SameBut C s'.heap h'):Inv X a h H' { s' with heap:=h' }:=by
 refine n.turned (t':=s'.toks) (it:=C) (λb o m e=>(i.2 b m).trans e) l (xa<|w6 f.lt d) (.inr<|xc f.sz d) (λy c e=>?_) λp j=>?_
 .let(v,o,k,_):=f.cell y c e;exact wY<|w6 (HB.lt_size k) d
 .exact wY<|w6 (HB.lt_size (f.pin p j).1) d
theorem fk{i:TI}(hi:PI X (.Name x px) iter i)(O:qv X N fr scope cl x)(r:X.calm=LJ)(k:∀b C s H,PIf (bw X N scope cl b C s H) ifs tt)(p:∀b C s H,PE (bw X N scope cl b C s H) elt te)
  (l:∀v,Jk iter X.env v=pure v:=by intro _;rfl):PE X (.ListComp elt [⟨.Name x px,iter,ifs,0⟩] scope pos) (A3 i fr tt te):=by
 intro a s g H Q I h;rw[Kg];calc Kh (use:=LI) U l O.clos O.kind O.names<|thn (hi a s g H _ I h) λv L z=>thn z λG s2 y=>?_;let(it,b,K,J,R,e,j,T,c,B,t):=y;subst e;refine oH (RR:=λf C=>Ki (model X.prog X.w) X.A X.xe LI (EP X a g Q) f C) O r j T c B k p t λD C M F u n ⟨m,o⟩ E q=>?_
 calc⟨m,o,λP d=>⟨.ref D,F,j.left E u n d,U,q⟩⟩
theorem uR{F:TI}{i:Nat}{y:Str}{d E:Pos}(hN:X.N.Nodup)(G:X.N[i]?=LH y)(V:Loc X.env.scope y)(hi:PI X (.Name x px) iter F)(O:qv X N fr scope cl x)(Z:X.calm=LJ)
  (K:∀f C s H,PIf (bw X N scope cl f C s H) ifs tt)(Y:∀f C s H,PE (bw X N scope cl f C s H) elt te)(L:∀v,Jk iter X.env v=pure v:=by intro _;rfl)
  (n:IM (.ListComp elt [⟨.Name x px,iter,ifs,0⟩] scope pos) (LH<|.Name y d) E.line X.env=pure true:=by rfl)(W:X.fn y=LJ\/X.env.scope.names.lookup y=LH .local:=by first|exact .inl U|exact .inr U|assumption) :
  PS X (.Assign [.Name y d] (.ListComp elt [⟨.Name x px,iter,ifs,0⟩] scope pos) E) (zt (A3 F fr tt te)<|ox i):=by
 intro b s B H k I h;rw[Kj _ _ _ _ n];calc E2<|IT<|E2 ?_;show Iw _ X.A (do let _ ←comprehension (.ListComp elt [⟨.Name x px,iter,ifs,0⟩] scope pos) scope X.env _ (Kb []) LK (eval iter X.env) (LH<|assign (.Name y d) X.env)) _ _ s;calc E2<|IE (Kh (use:=LH<|assign (.Name y d) X.env) (Q:=λ_ c=>SP X b k .next c) U L O.clos O.kind O.names<|thn (hi b s B H _ I h) λv s1 h1=>thn h1 λa0 s2 h2=>?_) (λ_ c M=>E6<|E6 M) λ_ _ z=>z;let(it,f,tn,J,H2,e,g,T,l,f2,hW):=h2;subst e;refine oH (Q:=λv H1=>ox i v B H1 k.nx) (RR:=λu C=>Ki (model X.prog X.w) X.A X.xe (LH<|assign (.Name y d) X.env) (λ_ c=>SP X b k .next c) u C) O Z g T l f2 K Y hW λD C c H' j R ⟨m,S⟩ I' q=>?_
 show Iw _ X.A (assign (.Name y d) X.env<|.ref D) _ _ c;calc IS<|km I' hN G V (v:=.ref D) U (λs3 I3 ⟨a,p,ha⟩=>?_) W;let t:C≠a:=by
  rcases ha with z|z
  .rw[z];exact xa<|w6 g.lt j
  .let(v,o,P,_):=g.cell y a z;exact xa<|w6 (HB.lt_size P) j
 calc⟨m,S.sameBut p t,λh' r=>⟨_,H',g.left I3 j R r,q⟩⟩
def dR(c:HA->Nat->L0 V->Hp->Prop)(D:HA)(i n:Nat)(d:Hp):Prop:=∃a,a<n-i/\a=n-(i+1)/\i+1<=n/\∃b,c D (i+1) b d
def dg(c:HA->Nat->L0 V->Hp->Prop)(D:HA)(i n:Nat):VK:=λy b=>∃a,b D=LH (.lst a)/\⇑a<HL/\dR c D i n (upd b D<|.lst<|a++[y])
theorem dR.mk{a:HA->Nat->L0 V->Hp->Prop}{D:HA}{i n:Nat}{b:Hp}{zs:L0 V}(hi:i<n)(h:a D (i+1) zs b):dR a D i n b:=⟨n-(i+1),∅,U,hi,zs,h⟩
theorem dg.mk{b:HA->Nat->L0 V->Hp->Prop}{D:HA}{i n:Nat}{a:Hp}{ys:L0 V}{y:V}(hi:i<n)(e:a D=LH (.lst ys))(c:⇑ys<HL)(h:b D (i+1) (ys++[y]) (upd a D<|.lst<|ys++[y])):dg b D i n y a:=⟨ys,e,c,.mk hi h⟩
theorem dE{K:W.Frag}{a:HA}{xs:L0 V}{g:St}{d:Hp}{Q:VK}(c:HA->Nat->L0 V->Hp->Prop)(n:∀D,d D=LI->c D 0 [] (upd d D<|.lst []))
  (l:∀D i ys H,d D=LI->i<=⇑xs->c D i ys H->SqL K H a xs)
  (k:∀D i x ys H,d D=LI->xs[i]?=LH x->c D i ys H->tt (eM g fr<|LH x) H λb j=>if b=LJ then te (eM g fr<|LH x) j (dg c D i ⇑xs)else dR c D i ⇑xs j)
  (hd:∀D ys H,d D=LI->c D ⇑xs ys H->Q (.ref D) H):l8 (Itl K a) fr tt te g Q d:=by
 intro D f;calc⟨λi m H=>m=⇑xs-i/\i<=⇑xs/\∃ys,c D i ys H,⟨_,U,wZ _,[],n D f⟩,?_⟩;rintro i m H ⟨rfl,hi,ys,p⟩;let q:=l D i ys H f hi p;by_cases h:i<⇑xs
 .refine .inr ⟨⟨xs,xs[i],q,by simp[h]⟩,λx o y=>?_⟩;let(e,y):=y;subst e;exact k D i x ys _ f (y xs q) p
 .let e:i=⇑xs:=∅
  subst e;calc .inl ⟨⟨xs,q,wX _⟩,hd D ys H f p⟩
theorem md{lo:Int}{n:Nat}{f:St}{c:Hp}{Q:VK}(a:HA->Nat->L0 V->Hp->Prop)(k:∀D,c D=LI->a D 0 [] (upd c D<|.lst []))
  (j:∀D i ys H,c D=LI->i<n->a D i ys H->tt (eM f fr<|LH<|.int<|lo+i) H λb h=>if b=LJ then te (eM f fr<|LH<|.int<|lo+i) h (dg a D i n)else dR a D i n h)
  (hd:∀D ys H,c D=LI->a D n ys H->Q (.ref D) H):l8 (Itr lo n) fr tt te f Q c:=by
 intro D g;calc⟨λi m H=>m=n-i/\i<=n/\∃ys,a D i ys H,⟨_,U,wZ _,[],k D g⟩,?_⟩;rintro i m H ⟨rfl,hi,ys,p⟩;by_cases d:i<n
 .refine .inr ⟨d,λx l y=>?_⟩;let(e,y):=y;subst e;subst y;exact j D i ys _ g d p
 .let e:i=n:=∅
  subst e;calc .inl ⟨wX _,hd D ys H g p⟩
end
def tD(lo c:Int)(n:Nat):It:=⟨λi _=>i<n,λi H x a=>a=H/\x=.int (lo+i*c),λi _=>n<=i⟩
def rsz(lo hi c:Int):Nat:=(if lo<hi then(hi-lo-1) / c+1 else 0).toNat
theorem xH{a b c:Int}(d:0<c):((rsz a b c:Nat):Int)=Ji.Range.rangeSize a b c:=by
 unfold Ji.Range.rangeSize rsz;rw[LO d];split
 .let:=Int.ediv_nonneg (a:=b-a-1) (b:=c) ∅ ∅;lia
 .rfl
theorem tE{a b c:Int}(d:0<c)(g:c<=1000)(l : -(2^60)<=a)(j:a<2^60)(k : -(2^60)<=b)(i:b<2^60):Ji.Range.small a b c=true:=by
 unfold Ji.Range.small;let h:=xH (a:=a) (b:=b) d;let e:Ji.Range.rangeSize a b c<=2^61:=by
  unfold Ji.Range.rangeSize;rw[LO d];split
  .let:=Int.ediv_le_self (a:=b-a-1) c ∅;lia
  .decide
 let f:0<=Ji.Range.rangeSize a b c:=∅
 generalize Ji.Range.rangeSize a b c=z at *
 simp only[Ji.Range.rangeFitsLong,Dx,Bool.or_eq_true,decide_eq_true_eq,beq_iff_eq];rw[LO d];simp only[Ji.Range.rangeFitsLong,Dx,decide_eq_true_eq];lia
theorem qw{P:Fw}{w:Fn}{K:W.Frag}{J:Iz}(it:HA)(lo c:Int)(n:Nat):Turn P w K J (tD lo c n) [it] it (λi h=>Ja h it (lo+(i:Nat)*c) ((n:Int)-(i:Nat)) c) where
 mem:=by simp
 obj:=λi h a b f=>by
  let e:b=it:= ~~~f
  subst e;exact⟨_,a,λv z=>by
   let G:Jb.fields _=Jb.cell v:=z;cases G⟩
 keep:=λi h m a k=>k it (by simp) _ a
 item:=by
  intro X r p u g i d s D H E I l a q;subst r p u;let(C,B,N,A,y,x):=l it (by simp);let W:=Jc.range (prog:=X.prog) (w:=X.w) (I.ok.hd g) it lo c n;refine W.item i s _ _ q a λv m F M j L=>?_
  let(t,rfl):=M;let Q:Inv X d D H { s with heap:=m,toks:=F }:=I.turned (λb o f e=>L b o (~~~f) e) C B A y x;refine⟨_,U,lS (s:={ s with heap:=m,toks:=F }) (n := "range_iterator") j U U ⋯ ⟨.int<|lo+i*c,H,Q,⟨t,U⟩,⟨U,U⟩,j,λb f=>(l b f).1⟩⟩
 done:=by
  intro X r p u g i d s D H E I l a q;subst r p u;let(C,B,N,A,y,x):=l it (by simp);exact Jd (I.ok.hd g) a (by have:n<=i:=q;lia) λm O=>⟨U,I.turned (t':=s.toks) (λb o f e=>O b o f e) C B A y x⟩
 self:=λ_ _ _ _ _ a h=>Je a h
section
variable{tg:Iz}
theorem vM{a:L0 (HA×Obj)}{d:St}{H:Hp}{s:Iq}{R:It->Hp->Prop}{E:Fe->Iq->Prop}{lo hi c:Int}{t u v:Tok}{f:Nat}(I:Inv X a d H s)(i:0<c)(h:c<=1000)(n : -(2^60)<=lo)(m:lo<2^60)(l : -(2^60)<=hi)(k:hi<2^60)
  (q:R (tD lo c<|rsz lo hi c) H):Iw (model X.prog X.w) X.A (IZ<|.ref ↥s) (PIE X a d tg R) E { s with heap:=s.heap.push { cls:=.type "range",data:=.fields #[.int lo t,.int hi u,.int c v] },toks:=f }:=by
 calc Jg (Jh.new ..) (tE i h n m l k) ?_;let g:Inv X a d H { s with heap:=s.heap.push { cls:=.type "range",data:=.fields #[.int lo t,.int hi u,.int c v] },toks:=f }:=I.kept λb o e=>HB.get?_push_of_some _ e
 refine⟨(s.heap.push { cls:=.type "range",data:=.fields #[.int lo t,.int hi u,.int c v] }).objs.size,[(s.heap.push { cls:=.type "range",data:=.fields #[.int lo t,.int hi u,.int c v] }).objs.size],_,_,H,U,
  g.kept (t':=f) λb o e=>HB.get?_push_of_some _ e,qw _ lo c<|rsz lo hi c,?_,λb j=>?_,q⟩
 .let r:lo+((0:Nat):Int)*c=lo:=by simp
  let p:((rsz lo hi c:Nat):Int)-((0:Nat):Int)=Ji.Range.rangeSize lo hi c:=by rw[xH i];exact Int.sub_zero _
  show Ja _ _ (lo+((0:Nat):Int)*c) (((rsz lo hi c:Nat):Int)-((0:Nat):Int)) c;rw[r,p];exact HB.get?_push_size _ U
 .let e:b=(s.heap.push { cls:=.type "range",data:=.fields #[.int lo t,.int hi u,.int c v] }).objs.size:= ~~~j
  subst e;calc g.fpOk (wX _)<|g.hok.fresh<|wX _
inductive xI  (R:It->Hp->Prop)(vs:L0 V)(H1:Hp):Prop
 |mk (i j c:Int)(_:vs=[.int i,.int j,.int c])(_:(0<c/\c<=1000/\-(2^60)<=i/\i<2^60/\-(2^60)<=j/\j<2^60))(_:R (tD i c<|rsz i j c) H1):xI R vs H1
def Dz(c:TA):TI:=λa H R=>c a H λb d=>xI R b d
theorem oI{a b c:Iz}{n:TA}{p pos:Pos}(B:Gl X "range") (hm:X.mg "range" = LI) (C:PA X [a,b,c] n)(A:IC [a,b,c] X.env=[(LK,eval a X.env),(LK,eval b X.env),(LK,eval c X.env)]:=by rfl)(f:IC [b,c] X.env=[(LK,eval b X.env),(LK,eval c X.env)]:=by rfl) :
  PI X tg (.Call (.Name "range" p) [a,b,c] [] pos) (Dz n):=by
 intro g s o H R I h;refine Call_ (dY I B hm boot_range<|PyProof.Rows.callWith_type1 (thn (C pos g s o H _ I h) λG L ⟨F,M,D,u,k⟩=>?_) (by rw[A,f]) (by rw[f];rfl));let(i,j,K,e,(z,m,k,y,x,w),q):=k;subst e;cases u with
 |cons r d =>
  cases d with
  |cons v d =>
   cases d with
   |cons l d =>
    cases d;let(t,rfl):=r;let(J,rfl):=v;let(E,rfl):=l;calc call_range_3 ∅ (vM D z m k y x w q) (.inl<|PyProof.noPylong_small ∅)
end
theorem tF{lo c:Int}{n:Nat}{g:TG}{k:TS}{D:Ends}{a:St}{H:Hp}(b:Nat->St->Hp->Prop)(s:b 0 a H)
  (q:∀i a H,i<n->b i a H->g (.int<|lo+i*c) a H λd j=>k { D with nx:=b<|i+1,ct:=b<|i+1,bk:=D.nx } d j)(r:∀a H,b n a H->D.nx a H) :
  ∃W:Nat->Nat->St->Hp->Prop,(∃m,W 0 m a H)/\∀i m a H,W i m a H ->
   ((tD lo c n).stop i H/\D.nx a H)\/((tD lo c n).go i H/\∃N:St->Hp->Prop,(∀f H',N f H'->∃l,l<m/\W (i+1) l f H')/\∀x H',(tD lo c n).yld i H x H'->g x a H' λd j=>k { D with nx:=N,ct:=N,bk:=D.nx } d j):=by
 refine⟨λi m a H=>m=n-i/\i<=n/\b i a H,⟨n,by simp,wZ _,s⟩,?_⟩;rintro i m a H ⟨rfl,hi,p⟩;by_cases h:i<n
 .refine .inr ⟨h,b<|i+1,λf H' o=>⟨n-(i+1),∅,U,h,o⟩,λx H' y=>?_⟩;let(e,y):=y;subst e y;exact q i a _ h p
 .let e:i=n:=∅
  subst e;calc .inl ⟨wX _,r a H p⟩
theorem qy{lo c:Int}{n:Nat}{g:St}{d:Hp}{Q:VK}(a:HA->Nat->L0 V->Hp->Prop)(l:∀D,d D=LI->a D 0 [] (upd d D<|.lst []))
  (k:∀D i ys H,d D=LI->i<n->a D i ys H->tt (eM g fr<|LH<|.int<|lo+i*c) H λb j=>if b=LJ then te (eM g fr<|LH<|.int<|lo+i*c) j (dg a D i n)else dR a D i n j)
  (hd:∀D ys H,d D=LI->a D n ys H->Q (.ref D) H):l8 (tD lo c n) fr tt te g Q d:=by
 intro D h;calc⟨λi m H=>m=n-i/\i<=n/\∃ys,a D i ys H,⟨_,U,wZ _,[],l D h⟩,?_⟩;rintro i m H ⟨rfl,hi,ys,p⟩;by_cases f:i<n
 .refine .inr ⟨f,λx o y=>?_⟩;let(e,y):=y;subst e;subst y;exact k D i ys _ h f p
 .let e:i=n:=∅
  subst e;calc .inl ⟨wX _,hd D ys H h p⟩
structure mf(X:Cx)(N:L0 Str)(k:Nat)(fr:L0 Nat)(scope:Ir)(cl:L0 (Str×HA)):Prop where
 clos:JY scope X.env=pure cl
 kind:scope.kind=.function
 nocell:∀y∈scope.names,y.2≠.cell
 names:∀y∈scope.names,y.2=.local->scope.names.lookup y.1=LH .local
 len:N.length=k+⇑fr
 sub:∀(i:Nat)(y:Str),N[k+i]?=LH y->∃j,fr[i]?=LH j/\X.N[j]?=LH y/\(X.env.kindOf y=LH .cell\/X.env.kindOf y=LH .free)/\((relabel scope X.env).names.lookup y=LH .cell\/(relabel scope X.env).names.lookup y=LH .free)
 cells:∀y c,cl.lookup y=LH c->X.env.cells.lookup y=LH c
 has:∀y,((relabel scope X.env).names.lookup y=LH .cell\/(relabel scope X.env).names.lookup y=LH .free)->∃c,cl.lookup y=LH c
theorem eH{X:Cx}{N:L0 Str}{k:Nat}{scope:Ir}(d:N.length=k)(kind:scope.kind=.function)(a:∀y∈scope.names,y.2≠.free)(b:∀y∈scope.names,y.2≠.cell)
  (names:∀y∈scope.names,y.2=.local->scope.names.lookup y.1=LH .local):mf X N k [] scope []:=by
 let g:(relabel scope X.env).names=scope.names:=map_eq_self λy f=>by
  let z:(y.2 == JD.free)=false:= ~~~a y f
  simp[z]
 let no:∀y,¬ ((relabel scope X.env).names.lookup y=LH .cell\/(relabel scope X.env).names.lookup y=LH .free):=λy h=>by
  rw[g]at h;rcases h with h|h
  .exact b _ (mem_of_lookup h) U
  .exact a _ (mem_of_lookup h) U
 refine⟨JZ a,kind,b,names,by rw[d];rfl,λi y e=>?_,(λy c e=>by cases e),λy h=>LP h<|no y⟩;let:=(Ik.mp e).1;lia
def cC(a:St)(fr:L0 Nat)(ts:St):St:=ts++fr.map λj=>(a[j]?).join
def iw(J:It)(o:TG)(k:Nat)(fr:L0 Nat)(tt:TT)(te:TE)(f:St)(Q:VK)(l:Hp):Prop:=∀D,l D=LI->∃W:Nat->Nat->Hp->Prop,(∃m,W 0 m<|upd l D<|.lst [])/\∀i m H,W i m H ->
 (J.stop i H/\Q (.ref D) H)\/(J.go i H/\∀x n,J.yld i H x n->∀g:St,⇑g=k->o x (cC f fr g) n λa p=>(∃d:St,⇑d=k/\a=cC f fr d)/\tt a p λb j=>if b=LJ then te a j λy h=>∃e,h D=LH (.lst e)/\⇑e<HL/\∃c,c<m/\W (i+1) c (upd h D<|.lst<|e++[y])
  else ∃c,c<m/\W (i+1) c j)
def xJ(b:TI)(c:TG)(k:Nat)(fr:L0 Nat)(tt:TT)(te:TE):TE:=λa H Q=>b a H λJ d=>iw J c k fr tt te a Q d
section
variable{elt iter tg:Iz}{ifs:L0 Iz}{scope:Ir}{cl:L0 (Str×HA)}{N:L0 Str}{k:Nat}{gt:TG}
theorem mh{F:L0 (HA×Obj)}{x:St}{s2:Iq}{h:Hp}{it:HA}{f:L0 HA}{tn:Nat->HB->Prop}{J:It}{Q:VK}{E:Fe->Iq->Prop}{RR:Fe->HA->Js->Iq->Prop}
  (O:mf X N k fr scope cl)(hc:X.calm=LJ)(g:Inv X F x h s2)(T:Turn X.prog X.w X.K tg J f it tn)(a1:tn 0 s2.heap)(I:∀b∈f,ko X F h b)
  (ht:∀f C s H,PIf (bw X N scope cl f C s H) ifs tt)(he:∀f C s H,PE (bw X N scope cl f C s H) elt te)
  (hg:∀f C s H,PG (bw X N scope cl f C s H) tg gt)(hW:iw J gt k fr tt te x Q h)
  (fin:∀D C s' H',↥s2<=C->H' C=LI->(∃m,s'.heap.Ns C m)->Inv X F x H' s'->Q (.ref D) H'->RR (.ref D) C (.ok .next) s') :
  Iw (model X.prog X.w) X.A (Kb []) (λa9 s3=>Iw (model X.prog X.w) X.A (Kc scope X.env.globals cl [] X.env.qual LI .none (LH X.env)) (λxE s4 =>
   Jt (model X.prog X.w) X.A (.compStart (.ListComp elt [⟨tg,iter,ifs,0⟩] scope pos) 0 (.ref it) a9 { xE with scope:=relabel scope X.env }) (RR a9 xE.locals) s4) E s3) E s2:=by
 refine Kd (Ke O.nocell (by intro y hy;simp at hy) (λh1 a2 M=>?_) O.kind);dsimp only at a2 M⊢;generalize hG:s2.heap.push { cls:=.type "list",dict:=LI,data:=.seq ([]:L0 Fe).toArray }=G at a2 M⊢;let Y:G.objs.size=↥s2+1:=by rw[←hG,HB.size_push]
 let B:∀b o,s2.heap.get? b=LH o->h1.get? b=LH o:=λb o e=>M.extBut b o (wY (by rw[Y];exact xG (HB.lt_size e))) (HB.get?_push_of_some _<|hG ▸ HB.get?_push_of_some _ e)
 let xF:h1.get? ↥s2=LH { cls:=.type "list",data:=.seq ([]:L0 Fe).toArray 0 }:=M.extBut _ _ (wY (by rw[Y];exact yg _)) (HB.get?_push_of_some _<|hG ▸ HB.get?_push_size _ U);let hD:h ↥s2=none:=g.fresh;let L:(bw X N scope cl f G.objs.size s2 h).Ok:=by
  refine⟨g.ok.mod,O.kind,g.ok.glob,g.ok.blt,by show ↥s2<=G.objs.size;rw[Y];exact x4 _,λy z c e1 e2=>g.ok.inj y z c (O.cells y c e1)<|O.cells z c e2,λy hy=>O.has y hy,λy c z=>LP (show LK=LJ from z) Bool.false_ne_true,g.ok.hd,g.ok.frames,.inl U,
   λb a=>⟨?_,λy c e=>(I b a).2.2.2.2.1 y c<|O.cells y c e⟩,g.bs,xc g.ok.bsz g.sz,λb o e a=>?_,λb a z=>?_,g.stack,g.stkFree⟩
  .let(o,e,_):=T.obj _ _ a1 b a;show b≠G.objs.size;exact wY (by rw[Y];exact xG (HB.lt_size e))
  .rcases(I b a).2.2.2.1 with z|z
   .exact g.ok.noex b o e z
   .exact LP (w6 (HB.lt_size e)<|xc g.ok.bsz z)<|za _
  .rcases bL.mp (g.stkSub b z)with z|z
   .exact(I b a).2.1 z
   .exact(I b a).2.2.1 z
 let ma:∀{H':Hp},(∀b∈f,H' b=LI)->∀b∈f,ko (bw X N scope cl f G.objs.size s2 h) [] H' b:=λhn b a =>
  ⟨hn b a,(L.exf b a).1,L.exfs b a,.inl a,(L.exf b a).2,λp hp=>LP (show p∈([]:L0 (HA×Obj))from hp) (by simp)⟩
 let I':Inv (bw X N scope cl f G.objs.size s2 h) [] (cC x fr<|List.replicate k LI) (upd h ↥s2<|.lst []) { s2 with heap:=h1,toks:=s2.toks+⇑([]:L0 (Str×Fe)) }:=by
  refine⟨L,U,g.bare,Un.laid B (wX _) hD,⟨_,a2,λi y v e1 e2 e3=>?_⟩,λy c e=>?_,?_,λy c e=>?_,λp hp=>LP (show p∈([]:L0 (HA×Obj))from hp) (by simp),g.hok.laid B (wX _) ⟨wZ _,[],0,.nil,xF⟩,?_⟩
  .by_cases a6:i<k
   .let q:(List.replicate k LI++fr.map λj=>(x[j]?).join)[i]?=LH (LH v):=e2;rw[iQ (by rw[sr];exact a6),List.getElem?_replicate,LO a6]at q;cases q
   .let(j,q1,q2,q3,q4):=O.sub (i-k) y (by rw[show k+(i-k)=i by lia];exact e1);let q:(x[j]?).join=LH v:=by
     have:(List.replicate k LI++fr.map λj=>(x[j]?).join)[i]?=LH (LH v):=e2;rw[js (by rw[sr];lia),sr,gM,q1]at this;exact Option.some.inj this
    let e4:x[j]?=LH (LH v):=by
     cases z:x[j]? with
     |none=>rw[z]at q;cases q
     |some t=>rw[z]at q;exact LU LH q
    let(m,_,hl):=g.loc;let b4:Vis X.env.scope y:=.inr q3;let(u,r,l):=hl j y v q2 e4 b4;calc⟨u,r,.inr ⟨q4,?_⟩⟩;let(c',a7):=O.has y q4;rcases l with⟨k,_⟩|⟨_,c,ec,ic⟩
    .rcases q3 with z|z
     .rw[z]at k;cases k
     .rw[z]at k;cases k
    .let:=O.cells y c' a7;let e':c=c':=Option.some.inj<|ec.symm.trans this;let(o,ho,hd):=ic;rw[e']at ho;exact⟨c',a7,o,B c' o ho,hd⟩
  .let(v,o,ho,hd):=g.cell y c<|O.cells y c e;exact⟨v,o,B c o ho,hd⟩
  .show upd h ↥s2 (.lst []) G.objs.size=LI;rw[av (xa (by rw[Y];exact yg _))];exact g.hok.fresh (by rw[Y];exact x4 _)
  .let(v,o,ho,hd):=g.cell y c<|O.cells y c e;rw[av (wY<|HB.lt_size ho)];exact g.freeC y c<|O.cells y c e
  .show⇑(cC x fr<|List.replicate k LI)=N.length;rw[O.len];simp[cC]
 let a5:tn 0 h1:=T.keep _ _ _ a1 λb a o e=>B b o e
 let P:∀s3:Iq,s3={ s2 with heap:=h1,toks:=s2.toks+⇑([]:L0 (Str×Fe)) } ->
   Jt (model X.prog X.w) X.A (.compLoop (.ListComp elt [⟨tg,iter,ifs,0⟩] scope pos) 0 (.ref it) (.ref ↥s2)<|JX scope cl G.objs.size X.env) (RR (.ref ↥s2) G.objs.size) s3:=by
  rintro s3 rfl;let(W,(m0,w0),b0):=hW _ hD
  refine l9 (λn s'=>∃i R H',R.length=k/\Inv (bw X N scope cl f G.objs.size s2 h) [] (cC x fr R) H' s'/\tn i s'.heap/\(∀b∈f,H' b=LI)/\W i n H') ?_ m0
   ⟨0,List.replicate k LI,_,sr,I',a5,λb a=>by
    rw[av (by let(o,e,_):=T.obj _ _ a1 b a;exact wY (HB.lt_size e))];exact(I b a).1,w0⟩
  rintro n s' ⟨i,R,H',b6,I3,a4,a8,w3⟩;rcases b0 i n H' w3 with⟨b1,qn⟩|⟨go,step⟩
  .refine thn (T.done (bw X N scope cl f G.objs.size s2 h) U U U hc i [] s' _ H' _ I3 (ma a8) a4 b1) λr s4 ⟨hr,I4⟩=>?_
   subst hr;let(m,V,_):=I4.loc;refine fin _ _ s4 H' (by rw[Y];exact x4 _) I4.free ⟨m,V⟩ (g.call' (ch:=f) I4.os I4.base I4.hok I4.bare λb a=>?_) qn;exact⟨(I b a).2.2.2.1,(I b a).2.1,(I b a).2.2.2.2.1,(I b a).2.2.2.2.2⟩
  .refine thn (T.item (bw X N scope cl f G.objs.size s2 h) U U U hc i [] s' _ H' _ I3 (ma a8) a4 go) λr s4 ⟨u,hr,h4⟩=>?_
   subst hr;refine thn h4 λ_ s5 ⟨y,H5,I5,r5,y5,a0,b7⟩=>?_
   let c0:=I5.pinned (ma b7)<|T.obj _ _ a0;refine thn (hg f G.objs.size s2 h _ s5 _ H5 y u _ c0 r5<|step y H5 y5 R b6) λ_ s6 ⟨c1,H6,I6,⟨a3,EZ,e6⟩,q6⟩=>?_
   subst e6
   let again:∀{Z:St}{H7:Hp}{s7:Iq}{S:Nat},Z=cC x fr a3->Inv (bw X N scope cl f G.objs.size s2 h) ([]++kr f s5.heap) Z H7 s7->S<n->W (i+1) S H7 ->
     ∃m,m<n/\∃i R H',R.length=k/\Inv (bw X N scope cl f G.objs.size s2 h) [] (cC x fr R) H' s7/\tn i s7.heap/\(∀b∈f,H' b=LI)/\W i m H':=λ{Z H7 s7 S} e7 I7 V w7=>by
    subst e7;calc⟨S,V,i+1,a3,H7,EZ,I7.unpinned,T.keep _ _ _ a0 λb a o e=>(I7.pin (b,o)<|jq _<|jq _<|dB a e).1,λb a=>?_,w7⟩;let(o,e,d):=T.obj _ _ a0 b a;exact(I7.pin (b,o)<|jq _<|jq _<|dB a e).2.1
   refine thn (ht f G.objs.size s2 h _ s6 _ H6 _ I6 q6) λok s7 ⟨H7,I7,q7⟩=>?_
   cases ok with
   |false =>
    rw[LN Bool.false_ne_true]at q7⊢;let(S,V,w7):=q7;exact again U I7 V w7
   |true =>
    rw[LO U]at q7⊢;refine thn (he f G.objs.size s2 h _ s7 _ H7 _ I7 q7) λu8 s8 ⟨v8,H8,I8,r8,ys,b5,b3,S,V,w8⟩=>?_
    refine thn (cQ (X:=bw X N scope cl f G.objs.size s2 h) _ s8 _ H8 (.ref ↥s2) [v8] _ [u8] (λ_ H9=>W (i+1) S H9) I8 U (.cons r8 .nil) ⟨_,ys,v8,U,U,b5,b3,w8⟩) λ_ s9 ⟨_,H9,I9,_,w9⟩=>?_
    exact again U I9 V w9
 calc Kf (P _ U)<|T.self _ 0 _ _ _ a5<|P _ U
theorem dS{i:TI}(hi:PI X tg iter i)(O:mf X N k fr scope cl)(u:X.calm=LJ)(r:∀b C s H,PG (bw X N scope cl b C s H) tg gt)(l:∀b C s H,PIf (bw X N scope cl b C s H) ifs tt)(t:∀b C s H,PE (bw X N scope cl b C s H) elt te)
  (n:∀v,Jk iter X.env v=pure v:=by intro _;rfl):PE X (.ListComp elt [⟨tg,iter,ifs,0⟩] scope pos) (xJ i gt k fr tt te):=by
 intro a s g H Q I h;rw[Kg];calc Kh (use:=LI) U n O.clos O.kind O.names<|thn (hi a s g H _ I h) λv M B=>thn B λK s2 z=>?_;let(it,b,L,J,S,e,j,T,c,E,x):=z;subst e;refine mh (RR:=λf C=>Ki (model X.prog X.w) X.A X.xe LI (EP X a g Q) f C) O u j T c E l t r x λD C P G y o ⟨m,p⟩ F q=>?_
 calc⟨m,p,λR d=>⟨.ref D,G,j.left F y o d,U,q⟩⟩
theorem dF{K:W.Frag}{a:HA}{xs:L0 V}{j:St}{f:Hp}{Q:VK}(c:HA->Nat->L0 V->Hp->Prop)(s:∀D,f D=LI->c D 0 [] (upd f D<|.lst []))
  (r:∀D i ys H,f D=LI->i<=⇑xs->c D i ys H->SqL K H a xs)
  (o:∀D i x ys H,f D=LI->xs[i]?=LH x->c D i ys H->∀ts:St,⇑ts=k->gt x (cC j fr ts) H λd t=>(∃g:St,⇑g=k/\d=cC j fr g)/\tt d t λb n=>if b=LJ then te d n (dg c D i ⇑xs)else dR c D i ⇑xs n)
  (hd:∀D ys H,f D=LI->c D ⇑xs ys H->Q (.ref D) H):iw (Itl K a) gt k fr tt te j Q f:=by
 intro D h;calc⟨λi m H=>m=⇑xs-i/\i<=⇑xs/\∃ys,c D i ys H,⟨_,U,wZ _,[],s D h⟩,?_⟩;rintro i m H ⟨rfl,hi,ys,p⟩;let q:=r D i ys H h hi p;by_cases l:i<⇑xs
 .refine .inr ⟨⟨xs,xs[i],q,by simp[l]⟩,λx u y=>?_⟩;let(e,y):=y;subst e;exact o D i x ys _ h (y xs q) p
 .let e:i=⇑xs:=∅
  subst e;calc .inl ⟨⟨xs,q,wX _⟩,hd D ys H h p⟩
end
theorem jO{X:Cx}{K:W.Frag}{a:L0 Iz}{k:Nat}{t:TGs}{n:Nat}{pos:Pos}(e:X.K=K)(d:X.calm=LJ)(h:PGs X a t)(c:⇑(IP a X.env)=n:=by rfl)(b:(IP a X.env).findIdx? (·.1)=none:=by rfl):PG X (.Tuple a k pos) (Dh K n t):=e ▸ cZ d h c b
end _L
namespace Srt
open PySem PySem.W PyProof.Rows
def Ok(n:Nat)(lt:Nat->Nat->Bool){b:Type}:KasT b->(b->Prop)->Prop
 | .ret a,Q=>Q a
 | .ask i j k,Q=>i<n/\j<n/\Ok n lt (k<|lt i j) Q
section
variable{n:Nat}{lt:Nat->Nat->Bool}
abbrev g(p:Array Nat)(i:Nat):Nat:=p.getD i 0
structure Ord(lt:Nat->Nat->Bool):Prop where
 tr:∀a b c,lt b a=LK->lt c b=LK->lt c a=LK
 as:∀a b,lt a b=LJ->lt b a=LK
end
end Srt
namespace _L
open PySem PySem.Spec PySem.W PyProof.Rows
variable{prog:Fw}{w:Fn}{A:Ip}{E:Fe->Iq->Prop}{s:Iq}
variable{X:Cx}
theorem uS{n:Int}{p:Pr}:inR n p=LJ↔p.1<=n/\n<=p.2:=by
 unfold inR;simp only[Dx,decide_eq_true_eq]
theorem uT{n:Int}{R:L0 Pr}:inP R n=LJ↔∃p∈R,p.1<=n/\n<=p.2:=by
 unfold inP;rw[sE];calc⟨λ⟨p,h,e⟩=>⟨p,h,uS.mp e⟩,λ⟨p,h,e⟩=>⟨p,h,uS.mpr e⟩⟩
structure Hy(S A B A0 B0:L0 Pr):Prop where
 ap:Apart S
 aA:Apart A
 aB:Apart B
 mem:∀n,(inP A0 n && inP B0 n)=(inP S n || (inP A n && inP B n))
 gap:∀s∈S,(∀p∈A,s.2+2<=p.1)\/(∀p∈B,s.2+2<=p.1)
structure HP(F T:L0 Pr)(lo hi st:Int):Prop where
 ap:Apart F
 lt:∀s∈F,s.2+2<=st
 rng:∀s∈F,lo<=s.1/\s.2<=hi
 tk:∀p∈T,p.2<st
 fr:st=lo\/∃p∈T,st=p.2+1
 ge:lo<=st
 mem:∀n,lo<=n->n<=hi->n<st->inP F n = !inP T n
structure Walk(ts:L0 (Int×Int×Int)):Prop where
 le:∀t∈ts,t.1<=t.2.1
 nx:∀(i:Nat) a b,ts[i]?=LH a->ts[i+1]?=LH b->b.1=a.2.1+1
def pcs(msk:Int->Bool)(ts:L0 (Int×Int×Int))(n:Int):Bool:=ts.any λt=>inR n (t.1,t.2.1) && msk t.2.2
structure HQ(R:L0 Pr)(ts:L0 (Int×Int×Int))(msk:Int->Bool)(i:Nat)(at_:Int):Prop where
 ap:Apart R
 mem:∀n,inP R n=pcs msk (ts.take i) n
 lt:∀r∈R,r.2<at_
 few:2*R.length<=i\/(2*R.length<=i+1/\∃R' l,R=R'++[l]/\l.2=at_-1)
variable{i:Nat}
section
variable{R:L0 Pr}{ts:L0 (Int×Int×Int)}{msk:Int->Bool}{at_:Int}{t:Int×Int×Int}
end
def ends(R:L0 Pr):L0 Int:=R.flatMap λp=>[p.1,p.2+1]
theorem oJ(R:L0 Pr)(p:Pr):ends (R++[p])=ends R++[p.1,p.2+1]:=by
 unfold ends;rw[List.flatMap_append];simp
def vO(R:L0 Pr)(p:Pr):ends (p :: R)=p.1 :: (p.2+1) :: ends R:=rfl
theorem ml{R:L0 Pr}{e:Int}:e∈ends R↔∃p∈R,e=p.1\/e=p.2+1:=by
 unfold ends;rw[uy];simp
def cnt:L0 Pr->Int
 | []=>0
 |p :: R=>(p.2-p.1+1)+cnt R
def b2(b:Bool):Int:=if b=LJ then 1 else 0
theorem ll(ns:L0 Int):∀k,k<=⇑ns->preSum (λi=>ns.getD i 0) k=(ns.take k).sum
 |0,_=>rfl
 |k+1,h=>by
  let a:=ll ns k ∅;show preSum (λi=>ns.getD i 0) k+ns.getD k 0=_;let e:ns[k]?=LH ns[k]:=Ij ∅;rw[a,nQ,e,wh,ik,e];simp
theorem i0(C:X.calm=LJ):cG X (.builtin "sum") (λus H Q=>∃(a:HA)(ns:L0 Int),us=[.ref a]/\SqL X.K H a (ns.map V.int)/\Q (.int ns.sum) H):=by
 intro n s G H us J Q I r h;let(a,ns,rfl,y,q):=h;let(u,rfl,w):=r.one;cases (show u=Fe.ref a from w);let(c,k,g,M):=I.list y;let j:=⇑k;rw[bc]at j;let(L,F,_):=id g.isList;let d:a<↥s:=HB.lt_size F;calc call_sum_walkG<|Jf g.isList ?_;refine⟨↥s,[↥s,a],[↥s],_,_,_,λi=>ns.getD i 0,U,Jc.list (A:=X.A.in1) (I.ok.hd C) _ a (wY d) c.toArray,⟨⟨_,HB.get?_push_size _ U,U,U⟩,g.isList.at λo e=>HB.get?_push_of_some _ e⟩,λb D=>?_,λi v e=>?_,λN p t' B=>?_⟩
 .show b<(s.heap.push _).objs.size;rw[HB.size_push];rcases bL.mp D with z|z
  .rw[z];exact yg _
  .let f:b=a:= ~~~z
   rw[f];exact xG d
 .let m:c[i]?=LH v:= ~~~e
  let hi:i<⇑ns:=by rw[j];exact(Ik.mp m).1
  let E:(ns.map V.int)[i]?=LH (.int ns[i]):=by rw[gM,Ij hi];rfl
  let(u,l,x):=k.get E;rw[m]at l;cases l;let(t,rfl):=x;exact⟨t,by show Fe.int ns[i] t=Fe.int (ns.getD i 0) t;rw[ik,Ij hi];rfl⟩
 .refine⟨.int ns.sum,H,I.kept (t':=p) λb o e=>B b o (λz=>?_)<|HB.get?_push_of_some _ e,⟨t',?_⟩,q⟩
  .let f:b=↥s:= ~~~z
   exact LP (HB.lt_size e) (by rw[f];exact za _)
  .rw[cf,←j,ll ns _<|wX _,hV]
def NeS(W:L0 (Int×Int×Int)):Prop:=∀(j:Nat) a b,W[j]?=LH a->W[j+1]?=LH b->a.2.2≠b.2.2
structure Hz(G ts:L0 (Int×Int×Int))(i:Nat):Prop where
 walk:Walk G
 ne:NeS G
 pcs:∀msk n,pcs msk G n=_L.pcs msk (ts.take i) n
 hd:∀t,ts[0]?=LH t->0<i->∃g,G[0]?=LH g/\g.1=t.1
 lst:∀t,ts[i-1]?=LH t->0<i->∃G' g,G=G'++[g]/\g.2.1=t.2.1/\g.2.2=t.2.2
 len:G.length<=i
 stt:∀g∈G,∃t∈ts,g.2.2=t.2.2
section
variable{G ts:L0 (Int×Int×Int)}{t:Int×Int×Int}
end
def Its(z:Str):It:=⟨λi _=>i<z.cps.size,λi H x a=>a=H/\∃c,z.cps[i]?=LH c/\x=.str ⟨#[c]⟩,λi _=>z.cps.size<=i⟩
theorem tG{P:Fw}{w:Fn}{K:W.Frag}{L:Iz}(z:Str)(t:Tok)(it:HA):Turn P w K L (Its z) [it] it (λi h=>h.IsStrIter it "str_ascii_iterator" z t i) where
 mem:=by simp
 obj:=λi h f b g=>by
  let(o,e,c,d):=f;rw[show b=it by simpa using g];exact⟨o,e,λv q=>by rw[d]at q;cases q⟩
 keep:=λi h m ⟨o,e,r⟩ k=>⟨o,k it (by simp) o e,r⟩
 item:=by
  intro X u n x J i a s G H E I l f p;subst u n x;let F:i<z.cps.size:=p;let hi:z.cps[i]?=LH z.cps[i]:=BH F;let(D,C,N,B,A,y):=l it (by simp);refine wpAny_pyNext_ascii_item f hi λm j M=>?_
  let Q:Inv X a G H { s with heap:=m,toks:=s.toks+1 }:=I.turned (t':=s.toks+1) (λb o g e=>(M.2 b g).trans e) D C B A y;let(o,e,c,d):=id j;exact⟨_,U,lS (s:={ s with heap:=m,toks:=s.toks+1 }) e c d ⋯ ⟨.str ⟨#[z.cps[i]]⟩,H,Q,⟨_,U⟩,⟨U,_,hi,U⟩,j,λb g=>(l b g).1⟩⟩
 done:=by
  intro X u n x J i a s G H E I l f p;subst u n x;let(D,C,N,B,A,y):=l it (by simp);exact wpAny_pyNext_ascii_end (I.ok.hd J) f (~~~(show z.cps.size<=i from p)) λm O=>⟨U,I.turned (t':=s.toks) (λb o g e=>O b o g e) D C B A y⟩
 self:=λ_ _ _ _ _ f h=>wpAny_pyIter_striter_ascii f h
theorem vP{P:Fw}{w:Fn}{K:W.Frag}{L:Iz}(z:Str)(t:Tok)(it:HA):Turn P w K L (Its z) [it] it (λi h=>h.IsStrIter it "str_iterator" z t i) where
 mem:=by simp
 obj:=λi h f b g=>by
  let(o,e,c,d):=f;rw[show b=it by simpa using g];exact⟨o,e,λv q=>by rw[d]at q;cases q⟩
 keep:=λi h m ⟨o,e,r⟩ k=>⟨o,k it (by simp) o e,r⟩
 item:=by
  intro X u n x J i a s G H E I l f p;subst u n x;let F:i<z.cps.size:=p;let hi:z.cps[i]?=LH z.cps[i]:=BH F;let(D,C,N,B,A,y):=l it (by simp);refine wpAny_pyNext_wide_item f hi λm j M=>?_
  let Q:Inv X a G H { s with heap:=m,toks:=s.toks+1 }:=I.turned (t':=s.toks+1) (λb o g e=>(M.2 b g).trans e) D C B A y;let(o,e,c,d):=id j;exact⟨_,U,lS (s:={ s with heap:=m,toks:=s.toks+1 }) e c d ⋯ ⟨.str ⟨#[z.cps[i]]⟩,H,Q,⟨_,U⟩,⟨U,_,hi,U⟩,j,λb g=>(l b g).1⟩⟩
 done:=by
  intro X u n x J i a s G H E I l f p;subst u n x;let(D,C,N,B,A,y):=l it (by simp);exact wpAny_pyNext_wide_end (I.ok.hd J) f (~~~(show z.cps.size<=i from p)) λm O=>⟨U,I.turned (t':=s.toks) (λb o g e=>O b o g e) D C B A y⟩
 self:=λ_ _ _ _ _ f h=>wpAny_pyIter_striter_wide f h
section
variable{tg:Iz}
inductive A4  (R:(It->Hp->Prop))(x:V)(H1:Hp):Prop
 |mk (z:_)(_:x=.str z)(_:R (Its z) H1):A4 R x H1
def E1(b:TE):W.Frag->St->Hp->(It->Hp->Prop)->Prop:=λ_ a H R=>b a H λx c=>A4 R x c
theorem B3{l:Iz}{i:TE}(n:PE X l i):PI X tg l (E1 i X.K):=by
 intro c s j H R I h;refine thn (n c s j H _ I h) λv a ⟨x,g,f,k,m⟩=>?_
 let(z,e,q):=m;subst e;let(t,rfl):=k;let d:∀b∈[↥a],ko X c g b:=λb p=>by
  rw[show b=↥a by simpa using p];exact f.fpOk (wX _)<|f.hok.fresh<|wX _
 cases ha:z.cps.all (· < 128) with
 |true=>exact wpAny_pyIter_ascii ha ⟨↥a,[↥a],_,_,g,U,f.kept (t':=a.toks) λb o e=>HB.get?_push_of_some _ e,tG z t _,⟨_,HB.get?_push_size _ U,U,U⟩,d,q⟩
 |false=>calc wpAny_pyIter_wide ha ⟨↥a,[↥a],_,_,g,U,f.kept (t':=a.toks) λb o e=>HB.get?_push_of_some _ e,vP z t _,⟨_,HB.get?_push_size _ U,U,U⟩,d,q⟩
end
theorem zH{z:Str}{g:TG}{k:TS}{D:Ends}{a:St}{H:Hp}(b:Nat->St->Hp->Prop)(t:b 0 a H)
  (r:∀i c a H,z.cps.toList[i]?=LH c->b i a H->g (.str ⟨#[c]⟩) a H λd j=>k { D with nx:=b<|i+1,ct:=b<|i+1,bk:=D.nx } d j)(s:∀a H,b z.cps.size a H->D.nx a H) :
  ∃W:Nat->Nat->St->Hp->Prop,(∃m,W 0 m a H)/\∀i m a H,W i m a H ->
   ((Its z).stop i H/\D.nx a H)\/((Its z).go i H/\∃N:St->Hp->Prop,(∀f H',N f H'->∃l,l<m/\W (i+1) l f H')/\∀x H',(Its z).yld i H x H'->g x a H' λd j=>k { D with nx:=N,ct:=N,bk:=D.nx } d j):=by
 calc⟨λi m a H=>m=z.cps.size-i/\i<=z.cps.size/\b i a H,⟨_,U,wZ _,t⟩,?_⟩;rintro i m a H ⟨rfl,hi,p⟩;by_cases h:i<z.cps.size
 .refine .inr ⟨h,b<|i+1,λf H' q=>⟨z.cps.size-(i+1),∅,U,h,q⟩,λx H' y=>?_⟩;let(e,c,o,n):=y;subst e;subst n;exact r i c a _ (~~~o) p
 .let e:i=z.cps.size:=∅
  subst e;calc .inl ⟨wX _,s a H p⟩
theorem qz{x:Str}{v:V}{pos:Pos}(a:Gl X x)(h:∃u,X.mg x=LH u/\RelV v u)(b:(x == ("__debug__" : Str))=false:=by decide):PE X (.Name x pos) (tC v):=by
 let(_,m,r):=h;calc cj a m r b
def sg(g:Str)(c:Nat):Bool:=!(Ji.Str.occurrences g ⟨#[c]⟩ 0 ⇑g 1).isEmpty
def qA(z g:Str):Bool:=z.cps.toList.all<|sg g
open PySem.NumText
structure HR(cs:L0 Nat):Prop where
 all:AllDigits cs
 one:⇑cs=1\/∃c r,cs=c :: r/\49<=c
def tH(h:HB)(e T:HA)(cls:Fe)(f:Fe×Fe)(fl:Fe):Prop :=
 ∃b a d c,h.get? e=LH b/\(b.cls=cls/\a[0]?=LH f.1/\a[2]?=LH f.2)/\b.data=.fields a/\a[1]?=LH (.ref T)/\T≠e/\h.get? T=LH d/\d.data=.fields c/\c[3]?=LH fl
abbrev vQ(h:HB)(e T:HA)(a:Fe)(b:Fe×Fe):Prop:=tH h e T a b .none
structure Stp(F X:L0 HA)(h h':HB):Prop where
 keep:∀b o,b ∉ F->b ∉ X->h.get? b=LH o->h'.get? b=LH o
 slot:∀b o,b∈F->h.get? b=LH o->∃sl,h'.get? b=LH { o with slots:=sl }
inductive xK(h:HB)(L e:HA)(cls:Fe)(a0:Fe×Fe):L0 HA->Prop where
 |fresh {oe:Obj}{vs:Array Fe}(he:h.get? e=LH oe)(hc:oe.cls=cls)(hd:oe.data=.fields vs)(h1:vs[1]?=LH Fe.none)(h0:vs[0]?=LH a0.1)(h2:vs[2]?=LH a0.2):xK h L e cls a0 []
 |fly {T:HA}(x:tH h e T cls a0 .none):xK h L e cls a0 [T]
 |held {T:HA}(x:tH h e T cls a0 (I0 L)):xK h L e cls a0 [T]
variable{base:HB}{e:HA}{oe:Obj}
section
variable{M:Iv}{env:Env}{outer:L0 Env}{L T:HA}{vs:Array Fe}{a0:Fe×Fe}{cls fl:Fe}{Q:Unit->Iq->Prop}{Ts:L0 HA}
def Stp.refl(F Y:L0 HA)(h:HB):Stp F Y h h:=⟨λ_ _ _ _ q=>q,λ_ o _ q=>⟨o.slots,q⟩⟩
theorem xM{x:Bool}{g:Fe}(G:A.frames=LH (env :: outer))(t:s.heap.FunFrames base (env :: outer))(H:env.frame=LH L)(r:s.heap.get? e=LH oe)(i:oe.data=.fields vs)(l:1<vs.size)
  (h:∀h' T n ts,Stp (frs (env :: outer)) [e] s.heap h'->h'.get? e=LH (Obj.mapFields (·.setIfInBounds 1 (.ref T)) oe)->s.heap.get? T=LI->T≠e->h'.get? T=LH n->n.data=.fields ts->ts[3]?=LH (I0 L)->Q () { s with heap:=h' }) :
  Iw M A (do let a ←frameOf env;let pl ←entryPlaceOf L x;let b ←EntryCells.newEntry g a .none (I0 L) .none pl;setField (.ref e) 1 b) Q E s:=by
 let p:e ∉ frs (env :: outer):=λz=>by
  let(_,I,m,D):=t.mem z;rw[r]at m;cases m;exact D vs i
 calc E2<|wpAny_frameOf_fun G t H λc so=>E2<|wpAny_entryPlaceOf λpl ok=>?_;let v:c.get? e=LH oe:=(so.2.1 e p).trans r;let j:c.objs.size=↥s:=so.1;let k:∀(O:Obj)(ts:Array Fe),O.data=.fields ts->ts[3]?=LH (I0 L)->Iw M A (setField (.ref e) 1<|.ref c.objs.size) Q E { s with heap:=c.push O }:=λO ts w y=>by
  let u:=HB.get?_push_of_some O v;let ne:c.objs.size≠e:=xa<|HB.lt_size v;let d:∀b,b≠e->((c.push O).update e (Obj.mapFields (·.setIfInBounds 1 (.ref c.objs.size)))).get? b=(c.push O).get? b:=λb f=>HB.get?_update_other _ _<|Ne.symm f
  refine Kk u i l<|h _ c.objs.size O ts ⟨λb o f F q=>?_,λb o f q=>?_⟩ (HB.get?_update_self _ u<|Obj.isFreed_of_fields<|Obj.data_mapFields i _) (HB.get?_none_of_le (by rw[j];exact wX _)) ne ((d _ ne).trans<|HB.get?_push_size c<|Obj.isFreed_of_fields w) w y
  .exact(d b λz=>F (by simp[z])).trans (HB.get?_push_of_some O<|(so.2.1 b f).trans q)
  .let(B,C):=so.2.2 b o q;exact⟨B,(d b λz=>p<|z ▸ f).trans<|HB.get?_push_of_some O C⟩
 unfold EntryCells.newEntry newFields;exact E2<|Kd (k _ _ U (by rcases ok with rfl|⟨_,_,_,_,_,_,_,rfl⟩ <;> simp)) (ok.sizeOk5 _ _ _ _ _)
theorem note(N:A.frames=LH (env :: outer))(H:s.heap.FunFrames base (env :: outer))(G:env.frame=LH L)(x:xK s.heap L e cls a0 Ts)
  (h:∀h' j,Stp (frs (env :: outer)) (e :: Ts) s.heap h'->tH h' e j cls a0 (I0 L)->(s.heap.get? j=LI\/j∈Ts)->Q () { s with heap:=h' }):Iw M A (Ka (.ref e) env) Q E s:=by
 let sz:∀{vs:Array Fe}{x:Fe},vs[1]?=LH x->1<vs.size:=λz=>(Array.getElem?_eq_some_iff.mp z).1
 let P:∀{oe:Obj}{vs:Array Fe}{h':HB}{T:HA}{i:Obj}{f:Array Fe},oe.cls=cls->oe.data=.fields vs->1<vs.size->vs[0]?=LH a0.1->vs[2]?=LH a0.2->h'.get? e=LH (Obj.mapFields (·.setIfInBounds 1 (.ref T)) oe)->T≠e->h'.get? T=LH i->i.data=.fields f->f[3]?=LH (I0 L)->tH h' e T cls a0 (I0 L) :=
  λ{oe vs h' T i f} c d l W V w g v u t=>⟨_,_,i,f,w,⟨(Obj.cls_mapFields _ _).trans c,by rw[Array.getElem?_setIfInBounds_ne ⋯];exact W,by rw[Array.getElem?_setIfInBounds_ne ⋯];exact V⟩,Obj.data_mapFields d _,by simp[l],g,v,u,t⟩
 unfold Ka;simp only[G];cases x with
 | @fresh oe vs he hc hd h1 h0 h2 =>
  calc E2<|Kl he hd h1 ?_;rw[LN ⋯];exact xM N H G he hd (sz h1) λh' T i f D w g v u t F=>h h' T D (P hc hd (sz h1) h0 h2 w v u t F)<|.inl g
 | @fly T x =>
  let(oe,vs,i,f,C,(J,S,R),r,p,I,n,m,B):=x;let a:∀b,b≠T->(s.heap.update T (Obj.mapFields (·.setIfInBounds 3 Fe.none))).get? b=s.heap.get? b:=λb k=>HB.get?_update_other _ _<|Ne.symm k
  let O:∀b o,s.heap.get? b=LH o->(∀vs,o.data≠.fields vs)->b≠T:=λb o q y z=>y f (by rw[z,n]at q;cases q;exact m)
  calc E2<|Kl C r p ?_;rw[LO (show(Fe.ref T != Fe.none)=LJ by simp)];calc E2<|Kl n m B ?_;rw[LN (show ¬ (Fe.none == I0 L)=LJ by simp[I0])];calc E2<|Kk n m (Array.getElem?_eq_some_iff.mp B).1 ?_;refine xM (s:={ s with heap:=s.heap.update T (Obj.mapFields (·.setIfInBounds 3 Fe.none)) }) N (H.of_keeps λb o q y=>⟨o,(a b<|O b o q y).trans q,U⟩) G ((a e<|Ne.symm I).trans C) r (sz p) λh' j Y X D w g v u t F=>?_
  refine h h' j ⟨λb o k K q=>D.keep b o k (λz=>K<|bL.mpr<|.inl<|~~~z)<|(a b λz=>K (by simp[z])).trans q,λb o k q=>?_⟩ (P J r (sz p) S R w v u t F) ?_
  .let(_,Z,g,y):=H.mem k;rw[q]at g;cases g;exact D.slot b o k<|(a b<|O b o q y).trans q
  .by_cases z:j=T
   .exact .inr (by simp[z])
   .exact .inl<|(a j z).symm.trans g
 | @held T x =>
  let(oe,vs,i,f,C,J,r,p,I,n,m,B):=id x;calc E2<|Kl C r p ?_;rw[LO (show(Fe.ref T != Fe.none)=LJ by simp)];calc E2<|Kl n m B ?_;rw[LO (show(I0 L == I0 L)=LJ by simp)];calc E6<|h s.heap T (Stp.refl _ _ _) x<|.inr (by simp)
theorem uU{fr:Option HA}{l:L0 Env}(w:s.heap.FunFrames base l)(x:tH s.heap e T cls a0 fl)(h:∀h',Stp (frs l) [e,T] s.heap h'->tH h' e T cls a0 (fr.elim Fe.none λf=>I0 f)->Q () { s with heap:=h' }):Iw M A (Km (.ref e) fr) Q E s:=by
 let(oe,vs,y,n,m,t,k,j,i,g,c,r):=x;let sz:3<n.size:=(Array.getElem?_eq_some_iff.mp r).1;let a:∀b,b≠T->(s.heap.update T (Obj.mapFields (·.setIfInBounds 3 (fr.elim Fe.none λf=>I0 f)))).get? b=s.heap.get? b:=λb d=>HB.get?_update_other _ _<|Ne.symm d
 unfold Km;calc E2<|Kl m k j ?_;rw[LO (show(Fe.ref T != Fe.none)=LJ by simp)];refine Kk g c sz (h _ ⟨λb o d v q=>(a b λz=>v (by simp[z])).trans q,λb o d q=>?_⟩ ⟨oe,vs,_,_,(a e<|Ne.symm i).trans m,t,k,j,i,HB.get?_update_self _ g<|Obj.isFreed_of_fields<|Obj.data_mapFields c _,Obj.data_mapFields c _,by simp[sz]⟩);let(_,B,p,u):=w.mem d;rw[q]at p;cases p;calc⟨o.slots,(a b λz=>u n (by rw[z,g]at q;cases q;exact c)).trans q⟩
theorem Stp.then{F Y Z:L0 HA}{h f e:HB}(x:Stp F Y h f)(y:Stp F Z f e)(hz:∀b o,h.get? b=LH o->b∈Z->b∈Y):Stp F Y h e :=
 ⟨λb o a d q=>y.keep b o a (λz=>d<|hz b o q z)<|x.keep b o a d q,λb o a q=>by
  let(j,i):=x.slot b o a q;let(c,g):=y.slot b _ a i;exact⟨c,g⟩⟩
theorem Stp.frames{Y:L0 HA}{h a:HB}{l:L0 Env}(x:Stp (frs l) Y h a)(g:h.FunFrames base l):a.FunFrames base l:=by
 let:∀(F:L0 HA)(m:L0 Env),(∀b∈frs m,b∈F)->Stp F Y h a->h.FunFrames base m->a.FunFrames base m:=λF m=>by
  induction m with
  |nil=>intro _ _ z;exact z
  |cons v m f =>
   rintro d x ⟨k,⟨L,o,c,n,j,i⟩,r⟩;let(p,q):=x.slot L o (d L (by unfold frs;rw[ny,c];exact dn)) j;exact⟨k,⟨L,_,c,n,q,i⟩,f (λb e=>d b (by unfold frs at e⊢;rw[ny,c];exact fo _ e)) x r⟩
 calc this _ l (λ_ z=>z) x g
theorem land{n:Fe->Iq->Prop}(k:A.frames=LH (env :: outer))(i:s.heap.FunFrames base (env :: outer))(l:env.frame=LH L)(x:vQ s.heap e T cls a0)
  (h:∀h' c,Stp (frs (env :: outer)) [e,T] s.heap h'->vQ h' e c cls a0->(s.heap.get? c=LI\/c=T)->Q () { s with heap:=h' }):Iw M A (Ka (.ref e) env) (λ_ s2=>Iw M A (Km (.ref e) LI) Q E s2) n s:=by
 refine note k i l (.fly x) λg c f x a=>?_
 let a:s.heap.get? c=LI\/c=T:=a.imp id λz=>~~~z
 exact uU (s:={ s with heap:=g }) (f.frames i) x λm d j=>h m c (f.then d λb o q z=>by
  rcases bL.mp z with z|z
  .simp[z]
  .rw[show b=c by simpa using z]at q⊢;rcases a with a|a
   .rw[a]at q;cases q
   .simp[a]) j a
def B4{l:L0 Env}(d:s.heap.FunFrames base l)(x:vQ s.heap e T cls a0)
  (h:∀h' a,Stp (frs l) [e,T] s.heap h'->vQ h' e a cls a0->(s.heap.get? a=LI\/a=T)->Q () { s with heap:=h' }):Iw M A (Km (.ref e) LI) Q E s :=
 uU d x λh' c b=>h h' T c b<|.inr U
end
variable{P:Fw}{H:Hp}
section
variable{H':Hp}{h h':HB}{a:HA}{o:HO}{F Y fs:L0 HA}
theorem cg.there(x:cg P w H h a o):∃b,h.get? a=LH b:=by
 cases o with
 |lst d=>obtain⟨_,_,_,_,e⟩:=x;exact⟨_,e⟩
 |tup d=>obtain⟨_,_,_,b,e,_⟩:=x;exact⟨_,e⟩
 |dK c=>obtain⟨_,_,_,_,o,_,_,e,_⟩:=x;exact⟨_,e⟩
 |dT c=>obtain⟨_,_,_,_,o,_,_,e,_⟩:=x;exact⟨_,e⟩
 |set S n=>obtain⟨o,_,_,_,e,_⟩:=x;exact⟨_,e⟩
 |ins C j fs=>obtain⟨_,_,_,e,_⟩:=x;exact⟨_,e⟩
 |own y=>obtain⟨_,e⟩:=x;exact⟨_,e⟩
 |xd fs=>obtain⟨_,⟨_,_,_,e,_⟩,_⟩:=x;exact⟨_,e⟩
 |rng lo hi=>obtain⟨_,_,_,e⟩:=x;exact⟨_,e⟩
 |frz b u=>obtain⟨e,_⟩:=x;exact⟨_,e⟩
 |tbl i=>exact⟨_,(show h.get? a=LH _ from x)⟩
 |met f y=>exact⟨_,(show h.get? a=LH _ from x)⟩
 |ext g=>obtain⟨_,⟨_,e⟩,_⟩:=x;calc⟨_,e⟩
theorem HOk.none_of(x:HOk P w H h)(e:h.get? a=LI):H a=none:=by
 cases q:H a with
 |none=>rfl
 |some u =>
  let(b,z):=(x a u q).there;rw[e]at z;cases z
theorem HOk.stp(x:HOk P w H h)(st:Stp F Y h h')(g:∀b∈F,H b=LI)(f:∀b∈Y,H b=LI):HOk P w H h':=λa o e =>
 (x a o e).stay (λb u c q=>by
  let d:H b≠none:=by
   rcases c with rfl|c
   .rw[e];simp
   .rw[c];simp
  exact st.keep b u (λz=>d<|g b z) (λz=>d<|f b z) q) (λ_ q=>q) λ_ _ q=>q
theorem Un.stp{k:Hp}{d:HB}(u:Un fs [] k H d h)(st:Stp F Y h h')(r:∀b o,d.get? b=LH o->b∈F->b∈fs)(p:∀b∈fs,b∈F)(m:∀b∈Y,d.get? b=LI):Un fs [] k H d h':=by
 let i:∀b o,d.get? b=LH o->b ∉ Y:=λb o q z=>by rw[m b z]at q;cases q
 refine⟨λb o q n c a=>st.keep b o (λz=>c<|r b o q z) (i b o q)<|u.keep b o q n c a,λb o q n c a=>?_,u.free,λb o q a=>?_,u.tups,u.frzs,u.tbls⟩
 .let(s,f):=u.slot b o q n c a;let(e,g):=st.slot b _ (p b c) f;exact⟨e,g⟩
 .let(l,f):=u.there b o q a;by_cases j:b∈F
  .let(e,g):=st.slot b _ j f;exact⟨_,g⟩
  .exact⟨_,st.keep b l j (i b o q) f⟩
end
def CX1(P:Fw)(w:Fn):CXT:=λa H s E f b=>∃(e T C:HA)(d:Fe×Fe)(c:Hp),f=.ref e/\b.os=s.os/\AllBare b.gens/\Un (frs a) [] H c s.heap b.heap/\HOk P w c b.heap /\
 vQ b.heap e T (.ref C) d/\s.heap.get? e=LI/\s.heap.get? T=LI/\c e=LI/\c T=LI/\∃m,(m=LI->d.2=.none)/\E (.ref C) m c
structure fm(X:Cx)(LM:L0 (HA×Obj))(H:Hp)(b:HA):Prop where
 ent:X.s₀.heap.get? b=LI
 unt:H b=LI
 loc:b≠X.env.locals
 cel:∀x c,X.env.cells.lookup x=LH c->c≠b
 pin:∀p∈X.pn++LM,p.1≠b
variable{LM:L0 (HA×Obj)}{σ:St}
section
variable{h':HB}{T:HA}
theorem Inv.newAt(I:Inv X LM σ H s)(e:X.ex=[]){b:HA}(a:s.heap.get? b=LI):fm X LM H b:=by
 refine⟨?_,I.hok.none_of a,?_,?_,?_⟩
 .cases q:X.s₀.heap.get? b with
  |none=>rfl
  |some o =>
   let(h,d):=I.base.there b o q (by rw[e];simp);rw[a]at d;cases d
 .rintro rfl;let(m,(o,_,_,q,_),_):=I.loc;rw[a]at q;cases q
 .rintro x c g rfl;let(v,o,q,_):=I.cell x c g;rw[a]at q;cases q
 .rintro p f rfl;let(q,_):=I.pin p f;rw[a]at q;cases q
theorem Inv.excStep(I:Inv X LM σ H s)(hx:X.ex=[])(st:Stp (frs X.stack) [e,T] s.heap h')(ne:fm X LM H e)(N:fm X LM H T):Inv X LM σ H { s with heap:=h' }:=by
 let j:∀b∈[e,T],fm X LM H b:=λb g=>by
  rcases bL.mp g with rfl|g
  .exact ne
  .rw[show b=T by simpa using g];exact N
 let G:∀b,b≠X.env.locals->b ∉ X.fs->b ∉ frs X.stack:=λb V S z=>(bL.mp<|I.stkSub b z).elim V S
 let y:∀b o,X.s₀.heap.get? b=LH o->b ∉ [e,T]:=λb o q z=>by rw[(j b z).ent]at q;cases q
 let C:∀b o,X.s₀.heap.get? b=LH o->b≠X.env.locals:=λb o q=>wY<|w6 (HB.lt_size q) I.ok.above
 let any:∀b o,b ∉ [e,T]->s.heap.get? b=LH o->∃w,h'.get? b=LH { o with slots:=w }:=λb o O q=>by
  by_cases K:b∈frs X.stack
  .exact st.slot b o K q
  .exact⟨o.slots,st.keep b o K O q⟩
 let f:∀x c,X.env.cells.lookup x=LH c->∀v,s.heap.IsCell c v->h'.IsCell c v:=λx c h v ⟨o,P,R⟩=>by
  let(w,q):=any c o (λz=>(j c z).cel x c h U) P;exact⟨_,q,R⟩
 refine⟨I.ok,I.os,I.bare,⟨λb o q n g a=>?_,λb o q n g a=>?_,I.base.free,λb o q a=>?_,I.base.tups,I.base.frzs,I.base.tbls⟩,?_,λx c h=>?_,I.free,I.freeC,λp J=>?_,I.hok.stp st I.stkFree<|λb g=>(j b g).unt,I.len⟩
 .exact st.keep b o (G b (C b o q) g) (y b o q)<|I.base.keep b o q n g a
 .let(w,B):=I.base.slot b o q n g a;let(t,A):=any b _ (y b o q) B;exact⟨t,A⟩
 .let(o1,B):=I.base.there b o q a;let(t,A):=any b _ (y b o q) B;exact⟨_,A⟩
 .let(m,(M,W,Y,D,r),Q):=I.loc;let(w,q):=any X.env.locals M (λz=>(j _ z).loc U) D;calc⟨m,⟨_,W,Y,q,r⟩,λi x v e1 e2 Z=>?_⟩;let(u,L,l):=Q i x v e1 e2 Z;calc⟨u,L,?_⟩;rcases l with l|⟨k,c,h,z⟩
  .exact .inl l
  .exact .inr ⟨k,c,h,f x c h _ z⟩
 .let(v,z):=I.cell x c h;exact⟨v,f x c h v z⟩
 .let(q,n,F,E,d):=I.pin p J;calc⟨st.keep p.1 p.2 (G p.1 F E) (λz=>(j _ z).pin p J U) q,n,F,E,d⟩
end
structure ExcCls(K:W.Frag)(C:HA):Prop where
 ex:∃(bmB bmN:L0 Fe)(newId B Bn nid xN inN:String),W.excIn K C bmB newId=LJ/\ExcBaseFacts Bn newId inN bmN/\bmB.contains (Fe.type Bn)=LJ/\ExcBaseFacts B nid xN bmB
theorem ExcCls.value{K:W.Frag}{C:HA}(h:W.excIn K C [.type "ValueError",.type "Exception",.type "BaseException",.type "object"] "ValueError.__new__" = LJ):ExcCls K C :=
 ⟨_,_,_,_,_,_,_,_,h,PySem.F.excBase_ValueError,⋯,PySem.F.excBase_ValueError⟩
theorem ExcCls.obj{K:W.Frag}{C:HA}{h:HB}{b:L0 Fe}{a:String}(c:K.In h)(e:W.excIn K C b a=LJ):∃bm N nm q bs hdct sn sub ab col dd k0 k1 k2 k3 k5 mN,
   h.get? C=LH (excClassObj nm q C N bs bm hdct sn sub ab col dd k0 k1 k2 k3 k5 a)/\h.Ns N mN/\mN "__init__" = LI/\OwnTail h b bm:=by
 unfold W.excIn at e;split at e
 .rename_i dd cd sl lk
  split at e
  .rename_i C' bm k0 k1 k2 k3 n k5 em es
   simp only[Dx,beq_iff_eq,Bool.not_eq_true']at e;let(((((rfl,rfl),i),g),d),hi):=e;let(nm,bs,k,j,q,hdct,sn,sub,ab,col,l):=cd;dsimp only at em i g d hi;subst em i;let f:sl = #[k0,k1,k2,k3,LH<|Fe.builtin n,k5]:=by
    apply Array.toList_inj.mp
    rw[es]
   subst f;exact⟨bm,j,nm,q,bs,hdct,sn,sub,ab,col,dd,k0,k1,k2,k3,k5,_,c _ _ lk,HB.Ns.of_isNs<|W.isNs_of_in c d,W.nsMap_none_of_in c d hi,W.tail_of_in c g⟩
  .cases e
 .cases e
variable{K:W.Frag}
section
variable{mg:Str->Option Fe}{N:L0 Str}{qual:Str}{scope:Ir}{f:HA}{cd:Fe}{outer:L0 Env}{s0:Iq}{H0:Hp}{E:XK}
def B5(C:HA)(E:XK)(t:TA):TS:=λ_ σ H=>t σ H λa b=>⇑a<=HL/\E (.ref C) LI b
end
def XP(X:Cx)(LM:L0 (HA×Obj))(σ:St)(d:HA->Hp->Prop)(b:Fe)(s':Iq):Prop :=
 ∃(e T C:HA)(c:Fe×Fe)(a:Hp),b=.ref e/\Inv X LM σ a s'/\vQ s'.heap e T (.ref C) c/\fm X LM a e/\fm X LM a T/\d C a
abbrev TX:=St->Hp->VK->(HA->Hp->Prop)->Prop
def PEX(X:Cx)(e:Iz)(t:TX):Prop :=
 ∀(LM:L0 (HA×Obj))(s:Iq)(σ:St)(H:Hp)(Q:VK)(a:HA->Hp->Prop),Inv X LM σ H s->t σ H Q a->Iw (model X.prog X.w) X.A (eval e X.env) (EP X LM σ Q) (XP X LM σ a) s
def br(P:Fw)(w:Fn)(K:W.Frag)(mg:Str->Option Fe)(base:HB)(k:Nat)(x:Str)(ps:L0 Str)(sp:Sp):Prop :=
 ∃f a,aD P w K mg base (CX1 P w) k f a ps sp/\Binds K a ps []/\W.keepIn K (.ref f)=LJ/\mg x=LH (.ref f)
theorem br.mono{P:Fw}{w:Fn}{K:W.Frag}{mg:Str->Option Fe}{base:HB}{j k:Nat}{x:Str}{ps:L0 Str}{sp:Sp}(C:br P w K mg base j x ps sp)(h:j<=k):br P w K mg base k x ps sp:=by
 let(f,a,F,r):=C;calc⟨f,a,F.mono h,r⟩
section
variable{s':Iq}
theorem Inv.afterX{E:XK}{g:HA->Hp->Prop}{f:Fe}(I:Inv X LM σ H s)(d:X.ex=[])(n:∀C m H',E (.ref C) m H'->g C H')(h:CX1 X.prog X.w X.stack H s E f s'):XP X LM σ g f s':=by
 let(e,T,C,o,H',rfl,i,c,un,hok,x,ne,j,k,l,m,_,q):=h;let p:Inv X LM σ H' s':=I.call' (ch:=[]) i un hok c λb z=>LP z (by simp)
 let a:=I.newAt d ne;let b:=I.newAt d j;calc⟨e,T,C,o,H',U,p,x,⟨a.ent,k,a.loc,a.cel,a.pin⟩,⟨b.ent,l,b.loc,b.cel,b.pin⟩,n _ _ _ q⟩
end
variable{k:Nat}{x:Str}{ps:L0 Str}{sp:Sp}{pos:Pos}
section
variable{e:Iz}{es:L0 Iz}{t:TA}{p:Pos}
def E3(sp:Sp)(t:TA):TX:=λσ H Q e=>t σ H λa d=>sp a d Q λb _ c=>∃C,b=.ref C/\e C c
theorem xO(C:br X.prog X.w X.K X.mg X.base k x ps sp)(y:bI k X.A)(v:X.ex=[])(D:Gl X x)(G:PA X.nox (e :: es) t)(i:(x == ("__debug__" : Str))=false:=by decide)
  (he:IC (e :: es) X.env=(LK,eval e X.env) :: IC es X.env:=by rfl)(g:(IB pos<|IC es X.env).any (·.1)=false:=by rfl):PEX X (.Call (.Name x p) (e :: es) [] pos) (E3 sp t):=by
 let(f,L,F,b,o,m):=C;intro LM s σ H Q R I h;calc Fd<|cY I D m ?_ i;calc W.callWith_K (h₀:=X.base) I.ok.mod.kin o (IE (G pos LM s σ H _ (I.wish _) h) (λa d ⟨n,l,j,r,q⟩=>⟨j.kIn,?_⟩) λ_ _ z=>False.elim z) he g;let J:Inv X LM σ l d:=j.unwish;let B:⇑a=⇑ps:=by rw[←⇑r];exact F.len _ _ _ _ q
 let O:Jz d L ⟨a,[]⟩ (ps.zip a):=by
  let z:=b d a J.kIn (by rw[iP];exact B);rw[iP]at z;exact z
 calc JB<|JC (F.run X.A X.stack d l ⟨a,[]⟩ a n Q _ y J.env0 O r q) λr S c=>?_;cases r with
 |error T=>exact J.afterX (E:=λN _ P=>∃C,N=.ref C/\R C P) v (λC m V z=>by let(Y,M,z):=z;cases M;exact z) c
 |ok fl =>
  cases fl with
  |ret u=>exact J.after c
  |next=>exact False.elim c
  |brk=>exact False.elim c
  |cont=>calc False.elim c
abbrev TSX:=Ends->St->Hp->(HA->Hp->Prop)->Prop
def PSX(X:Cx)(st:ID)(t:TSX):Prop :=
 ∀(LM:L0 (HA×Obj))(s:Iq)(σ:St)(H:Hp)(D:Ends)(a:HA->Hp->Prop),Inv X LM σ H s->t D σ H a->Iw (model X.prog X.w) X.A (exec st X.env) (SP X LM D) (XP X LM σ a) s
def DC(i:Nat)(a:TX):TSX:=λD σ H c=>a σ H (λv b=>D.nx (σ.set i<|LH v) b) c
theorem uV{i:Nat}{y:Str}{e:Iz}{b:TX}{a:Pos}(l:X.N.Nodup)(hi:X.N[i]?=LH y)(f:Loc X.env.scope y)(k:PEX X e b)(g:IM e (LH<|.Name y a) pos.line X.env=pure false:=by rfl)(j:X.fn y=LJ\/X.env.scope.names.lookup y=LH .local:=by first|exact .inl U|exact .inr U|assumption) :
  PSX X (.Assign [.Name y a] e pos) (DC i b):=by
 intro LM s σ H D p I h;calc IU (thn (k LM s σ H _ p I h) λv q ⟨y,o,n,c,d⟩=>?_) g;calc fK n l hi f c (λs2 m=>⟨_,o,m,d⟩) j
end
def sfx(X:Cx)(e:HA)(oe:Obj):Cx:={ X with A:=X.A.mark<|LH<|.ref e,calm:=LK,pn:=(e,oe) :: X.pn,xe:=λ_ _=>False }
section
variable{s':Iq}
theorem Inv.suite(I:Inv X LM σ H s)(d:s.heap.get? e=LH oe)(b:fm X LM H e)(f:∀v,oe.data≠.cell v)(c:e ∉ X.fs):Inv (sfx X e oe) LM σ H s:=by
 calc⟨⟨I.ok.mod,I.ok.kind,I.ok.glob,I.ok.blt,I.ok.above,I.ok.inj,I.ok.has,I.ok.cab,λz=>LP z Bool.false_ne_true,I.ok.frames,I.ok.stk,I.ok.exf,I.ok.bs,I.ok.bsz,I.ok.noex,I.ok.exfs,I.ok.funs,I.ok.frf⟩,I.os,I.bare,I.base,I.loc,I.cell,I.free,I.freeC,λp a=>?_,I.hok,I.len⟩;rcases bL.mp (show p∈(e,oe) :: (X.pn++LM)from a)with rfl|a
 .exact⟨d,b.unt,b.loc,c,f⟩
 .exact I.pin p a
def Inv.unsuite(ok:X.Ok)(I:Inv (sfx X e oe) LM σ H s):Inv X LM σ H s :=
 ⟨ok,I.os,I.bare,I.base,I.loc,I.cell,I.free,I.freeC,λp a=>I.pin p<|fo (e,oe) a,I.hok,I.len⟩
def Inv.excObj(I:Inv (sfx X e oe) LM σ H s):s.heap.get? e=LH oe:=(I.pin (e,oe)<|jJ _ dn).1
theorem Inv.unbound{i:Nat}{x:Str}{m:Str->Option Fe}{u:Option Fe}{h':HB}(I:Inv X LM σ H s)(hi:X.N[i]?=LH x)(P:X.N.Nodup)(B:s.heap.Ns X.env.locals m)(ns:h'.Ns X.env.locals λy=>if y=x then u else m y)(a:HB.SameBut X.env.locals s.heap h') :
  Inv X LM (σ.set i LI) H { s with heap:=h' }:=by
 let cne:=I.cne;let(T,_,_,S,_):=id B;refine⟨I.ok,I.os,I.bare,⟨λb o e n v h=>?_,λb o e n v h=>?_,I.base.free,λb o e h=>?_,I.base.tups,I.base.frzs,I.base.tbls⟩,⟨_,ns,λj y C g f R=>?_⟩,λy c e=>?_,I.free,I.freeC,λp M=>?_,?_,~~~I.len⟩
 .exact(a.2 b<|wY<|w6 (HB.lt_size e) I.ok.above).trans (I.base.keep b o e n v h)
 .let(E,g):=I.base.slot b o e n v h;exact⟨E,(a.2 b<|wY<|w6 (HB.lt_size e) I.ok.above).trans g⟩
 .let(J,g):=I.base.there b o e h;exact⟨J,(a.2 b<|wY<|w6 (HB.lt_size e) I.ok.above).trans g⟩
 .by_cases t:j=i
  .subst t;by_cases l:j<σ.length
   .rw[pa l]at f;cases f
   .rw[nC (~~~l)]at f;cases f
  .rw[List.getElem?_set_ne (Ne.symm t)]at f;let(L,w,O):=I.loc;let(D,F,q):=O j y C g f R;let Q:L=m:=by rw[w.eq_nsMap,B.eq_nsMap]
   subst Q;calc⟨D,F,?_⟩;rcases q with⟨k,e⟩|⟨k,c,e,z⟩
   .refine .inl ⟨k,?_⟩;let:y≠x:=λe=>t<|gF P g<|e ▸ hi
    simp[this,e]
   .exact .inr ⟨k,c,e,z.sameBut a<|cne y c e⟩
 .let(A,z):=I.cell y c e;exact⟨A,z.sameBut a<|cne y c e⟩
 .let(e,n,ne,K,d):=I.pin p M;exact⟨(a.2 p.1 ne).trans e,n,ne,K,d⟩
 .intro b G e;refine(I.hok b G e).stay (λc A r q=>(a.2 c ?_).trans q) (λ_ q=>q) λ_ _ q=>q
  rintro rfl;rcases r with rfl|r
  .rw[I.free]at e;cases e
  .rw[I.free]at r;cases r
end
theorem iz{M:Iv}{A:Ip}{E:Fe->Iq->Prop}{i:Nat}{x:Str}{pos:Pos}{Q:Unit->Iq->Prop}(I:Inv X LM σ H s)(e:X.N.Nodup)(hi:X.N[i]?=LH x)(a:X.env.scope.names.lookup x=LH .local)
  (h:∀s',Inv X LM (σ.set i LI) H s'->Q () s'):Iw M A (do bindName X.env x Fe.none;unbindBehindTheSuite X.env x pos) Q E s:=by
 calc E2<|wpAny_bindName<|fK I e hi (.inl a) (v:=.non) (u:=Fe.none) U (λq f=>?_)<|.inr a;calc wpAny_onRaise ?_;let(m,d,n):=f.loc;let c:i<σ.length:=by rw[I.len];exact(Ik.mp hi).1
 let(u,r,l):=n i x .non hi (by rw[pa c]) (.inl a);let p:(X.env.scope.kind == .class || (X.env.scope.kind == .module && X.env.locals != X.env.globals))=false:=by rw[I.ok.kind];rfl
 rcases l with⟨k,o⟩|⟨k,_⟩
 .refine wpAny_unbindName_local a d o p λt v j g=>?_
  let J:=f.unbound hi e d j g;rw[List.set_set]at J;exact h _ J
 .exfalso;let b:X.env.kindOf x=LH .local:=a;rcases k with k|k
  .rw[b]at k;cases k
  .rw[b]at k;cases k
def E4(i:Nat)(B:HA)(K:W.Frag)(G:HA->Prop)(c:TSX)(ts:HA->HA->TS):TS:=λD σ H=>c D σ H λC d=>W.exmOne K (.ref C) (.ref B)=LH LJ/\G C /\
 ∀e,ts C e { nx:=λa b=>D.nx (a.set i LI) b,rt:=D.rt,bk:=λa b=>D.bk (a.set i LI) b,ct:=λa b=>D.ct (a.set i LI) b } (σ.set i<|LH<|.ref e) d
section
variable{st b₀:ID}{su:L0 ID}{tb:TSX}{ts:HA->HA->TS}{Tn n:Str}{B:HA}{np DD:Pos}
theorem B6{G:HA->Prop}(hb:PSX X st tb)(hx:X.ex=[])(c:X.stack=X.env :: X.outer)(R:X.env.frame=LH X.env.locals)(hg:Gl X Tn)(hm:X.mg Tn=LH (.ref B))(L:X.N.Nodup)(hi:X.N[i]?=LH n)(F:X.env.scope.names.lookup n=LH .local)
  (hs:∀(C e:HA)(oe:Obj),G C->oe.cls=.ref C->PSs (sfx X e oe) (b₀ :: su) (ts C e))(a4:(Tn == ("__debug__" : Str))=false:=by decide) :
  PS X (.Try [st] [.ExceptHandler (LH<|.Name Tn np) (LH n) (b₀ :: su) DD] [] [] pos) (E4 i B X.K G tb ts):=by
 intro LM s σ H D I h;calc wpAny_Try_except ?_;refine IL<|IE (hb LM s σ H D _ I h) (λf J q=>?_) λev J q=>?_
 .cases f with
  |next=>exact IK (IK q)
  |ret v=>exact q
  |brk=>exact q
  |cont=>exact q
 let(e,T,C,a0,Y,rfl,V,x,ne,nT,a3,hG,q):=q;let a6:X.A.frames=LH (X.env :: X.outer):=by rw[←c];exact V.ok.frames
 let a7:J.heap.FunFrames X.base (X.env :: X.outer):=by rw[←c];exact V.stack
 refine land a6 a7 R x λh2 T2 P x2 a5=>?_
 rw[←c]at P;let O:=V.excStep hx P ne nT;let a2:fm X LM Y T2:=by
  rcases a5 with z|z
  .exact V.newAt hx z
  .rw[z];exact nT
 let A5:∀{b:HA}{o:Obj}{S:Array Fe}{hh:HB},hh.FunFrames X.base X.stack->hh.get? b=LH o->o.data=.fields S->b ∉ X.fs:=λ{b o S hh} ff g d z=>by
  let z':b∈frs X.stack:=by rw[c];unfold frs;rw[ny,R];exact fo _ z
  let(_,o2,g2,nf):=ff.mem z';rw[g]at g2;cases g2;exact nf S d
 let b6:=O;let(oe,S,oT,b3,Z,(y2,a9),y3,y4,y5,y6,y7,y8):=id x2;let S2:Inv (sfx X e oe) LM σ Y { J with heap:=h2 }:=O.suite Z ne (λv z=>by rw[y3]at z;cases z) (A5 O.stack Z y3);refine wpAny_handleBy_cons ?_ (by intro z;cases z);calc codeAny_handlers_test<|cY (X:=sfx X e oe) S2 hg hm ?_ a4;refine W.exm_one (h:=h2) S2.kIn (λA' Q' E' s' k r=>by
  let z:=Kn (M:=model X.prog X.w) (A:=A') (E:=E') (Q:=Q')<|k _ _ Z;rw[y2]at z;exact z r) a3 _ _ _ _ (λb o g=>g) ?_
 rw[LO U];calc codeAny_handlers_suite_as ?_;refine B4 (s:={ J with heap:=h2 }) (l:=X.stack) O.stack x2 λh3 T3 a1 x3 b5=>?_
 let I3:=O.excStep hx a1 ne a2;let(y,b0,b4,b1,z1,(z2,a8),z3,z4,z5,z6,z7,z8):=id x3;let S3:Inv (sfx X e y) LM σ Y { J with heap:=h3 }:=I3.suite z1 ne (λv z=>by rw[z3]at z;cases z) (A5 I3.stack z1 z3);calc fK (X:=sfx X e y) S3 L hi (.inl F) (v:=.ref e) (u:=.ref e) U (λs4 S4=>?_)<|.inr F;refine IE (hs C e y hG z2 LM s4 _ Y _ S4<|q e) (λfl s5 a=>?_) λ_ _ z=>False.elim z
 cases fl with
 |next =>
  let(t,p,j,a):=a;exact iz (j.unsuite I.ok) L hi F λs6 m=>⟨_,p,m,a⟩
 |brk =>
  let(t,p,j,a):=a;exact iz (j.unsuite I.ok) L hi F λs6 m=>⟨_,p,m,a⟩
 |cont =>
  let(t,p,j,a):=a;exact iz (j.unsuite I.ok) L hi F λs6 m=>⟨_,p,m,a⟩
 |ret u =>
  let(v,t,p,j,r5,a):=a;calc iz (j.unsuite I.ok) L hi F λs6 m=>⟨v,_,p,m,r5,a⟩
end
structure gc(K:W.Frag)(C:HA):Prop where
 ga:W.findIn K (.ref C) "__getattribute__" = LH (LH<|.builtin "BaseException.__getattribute__")
 hk:W.findIn K (.ref C) "__getattr__" = LH LI
 cl:W.findIn K (.ref C) "__class__" = LH (LH<|.builtin "object.__class__")
 gt:W.specialIn K (.builtin "object.__class__") "__get__" = LH (LH<|.builtin "getset_descriptor.__get__")
 tk:W.takesIn K (.builtin "object.__class__")=LH LJ
 ob:W.mroIn K C (.type "object")=LH LJ
 be:W.mroIn K C (.type "BaseException")=LH LJ
 me:W.kitCls K (.ref C) (.ref C)=LH LJ
variable{C:HA}
theorem gf{a:HB}(g:a.get? e=LH oe)(c:oe.cls=.ref C){M:Iv}:W.Looks M a (JR<|.ref e) (.ref C):=λf b d h k r=>by
 let z:=Kn (M:=M) (A:=f) (E:=d) (Q:=b)<|k _ _ g;rw[c]at z;calc z r
theorem nV{R:Js->Iq->Prop}{tp:Fe}(j:K.In s.heap)(g:s.heap.get? e=LH oe)(c:oe.cls=.ref C)(b:W.mroIn K C (.type "object")=LH LJ) (h:R (.ok<|.ret<|.ref C) s) :
  Jt (model prog w) A (.call (.builtin "getset_descriptor.__get__") ⟨[.builtin "object.__class__",.ref e,tp],[]⟩) R s:=by
 let a:∀{M:Iv},W.Looks M s.heap (JR<|.ref e) (.ref C):=gf g c;let i:∀{M:Iv},W.Looks M s.heap (isSubtype (.ref C)<|.type "object") true:=W.looks_mroIn j b;calc Ko W.KF.slot_gs.plain W.KF.entry_gs<|W.KF.slot_gs.check _ _ _ _ _ _ _ _ W.KF.type_class (W.KF.args_gs _ _ tp) ?_;show Iw _ _ (do let __x ←Ji.Getset_descriptor.descrGetArgs ⟨[.builtin "object.__class__",.ref e,tp],[]⟩;match __x with|(d,obj,snd)=>Ji.Getset_descriptor.descrGetter d obj) _ _ s;rw[W.dga_obj];calc E2<|E6 ?_;show Iw _ _ (do Ji.Getset_descriptor.descrCheckInstance (.builtin "object.__class__") (.ref e);again (Jx.builtin "object.__class__" ⟨[.ref e],[]⟩)) _ _ s;let f:Ji.Getset_descriptor.descrNameAndClass (.builtin "object.__class__")=pure (s!"__class__",Fe.type "object"):=by
  show pure (Str.ofString (Ji.Getset_descriptor.descrOwnerAndName "object.__class__").2,Fe.type (Ji.Getset_descriptor.descrOwnerAndName "object.__class__").1)=_;rw[W.KF.owner_class]
 unfold Ji.Getset_descriptor.descrCheckInstance;rw[f];calc E2<|E2<|E6 ?_;calc E2<|E2<|a _ _ _ _ (λ_ _ q=>q)<|i _ _ _ _ (λ_ _ q=>q) ?_;calc Kp U<|E6 ?_;calc E6 ⟨Jx.quiet_builtin _<|~~~0,Kq W.KF.entry_class ?_⟩;calc E2<|E2<|a _ _ _ _ (λ_ _ q=>q) ?_;calc Kp U<|E6<|E6 h
theorem vR{M:Iv}{d:Fe}{Q:Unit->Iq->Prop}(j:K.In s.heap)(g:s.heap.get? e=LH oe)(c:oe.cls=.ref C)(f:W.mroIn K C (.type "BaseException")=LH LJ) (h:Q () s) :
  Iw M A (Kr "BaseException.__getattribute__" ⟨[.ref e,d],[]⟩) Q E s:=by
 let i:builtinKind "BaseException.__getattribute__" = LH .slot:= ~~~0
 let b:splitId "BaseException.__getattribute__" = LH ("BaseException","__getattribute__"):= ~~~0
 let a:=PySem.F.args_bexc_ga (.ref e) d;unfold Kr;rw[i,b];calc E2<|E2<|gf g c _ _ _ _ (λ_ _ q=>q)<|W.looks_mroIn j f _ _ _ _ (λ_ _ q=>q) ?_;calc Kp U ?_;unfold Ks at a;generalize Manifest.signature? "BaseException.__getattribute__" = sg at a⊢;cases sg with
 |none=>exact E6 h
 |some k=>calc Kt a h
theorem vS{Q:Option Fe->Iq->Prop}(a:K.In s.heap)(X:gc K C)(g:s.heap.get? e=LH oe)(c:oe.cls=.ref C)(h:Q (LH<|.ref C) { s with toks:=s.toks+1 }):Iw (model prog w) A (getAttr? (.ref e) "__class__") Q E s:=by
 let b:∀{M:Iv},W.Looks M s.heap (JR<|.ref e) (.ref C):=gf g c;calc E2<|wpAny_mkText<|E2<|Ku<|Fc<|E2<|b _ _ _ _ (λ_ _ q=>q)<|E2<|W.looks_findIn a X.ga _ _ _ _ (λ_ _ q=>q) ?_;calc Kp U ?_;calc E2 ?_;show Iw _ _ (if onTheHeap (.ref C)=LJ then JM (.ref C) "__getattr__" else pure LI) _ _ _;calc Kv U<|W.looks_findIn a X.hk _ _ _ _ (λ_ _ q=>q) ?_;calc E2<|Ku<|Fc ?_;show Iw _ _ (if (LK && onTheHeap (.builtin "BaseException.__getattribute__"))=LJ then _ else boundAndCalled (.builtin "BaseException.__getattribute__") (.ref e) (Fe.str s!"__class__" s.toks)) _ _ _;calc Kp U<|E2<|Kt (PySem.F.attr_ValueError.ga.bind<|.ref e)<|JB ?_;calc Ko PySem.F.attr_ValueError.ga.plain PySem.F.entry_bexc_ga<|vR (s:={ s with toks:=s.toks+1 }) a g c X.be ?_;refine E2<|Kt (show Kw "__getattribute__" 1 ⟨[.ref e,Fe.str s!"__class__" s.toks],[]⟩=pure (Fe.ref e,[Fe.str s!"__class__" s.toks])from U) ?_;refine E2<|Kt (show Ji.ObjectAttr.attrName (Fe.str s!"__class__" s.toks)=pure s!"__class__"from U) ?_;calc E2<|b _ _ _ _ (λ_ _ q=>q) ?_;calc E2 ?_;unfold Ji.ObjectAttr.find;calc E2<|W.looks_findIn a X.cl _ _ _ _ (λ_ _ q=>q) ?_;calc E2<|W.looks_specialIn a X.gt _ _ _ _ (λ_ _ q=>q) ?_;calc E2<|E2<|W.looks_takesIn a X.tk _ _ _ _ (λ_ _ q=>q)<|Kv U<|E6 ?_;calc E2<|Ky<|E6 ?_;calc E2<|Fc<|JB<|nV (s:={ s with toks:=s.toks+1 }) a g c X.ob ?_;calc E6<|W.handed_on U<|E6 h
theorem mm(X:gc K C)(c:oe.cls=.ref C):W.KitX K (.ref e) (.ref C) λh=>h.get? e=LH oe where
 ty:=λM h a g=>gf g c
 it:=λM h a g=>(W.kit_cls a X.me).2.1
 ne:=λh tp dd f n i a g=>by
  refine DA.mpr λz=>?_
  let b:=Fe.ref.inj<|beq_iff_eq.mp z;subst b;let m:=X.be;unfold W.mroIn W.clsIn at m;cases q:List.lookup C K with
  |none=>rw[q]at m;cases m
  |some o =>
   let k:=a C o q;rw[g]at k;let d:=Option.some.inj k;rw[q,←d]at m;cases m
 ca:=λ{prog w A E Q s} a g h=>vS a X g c h
theorem oK:∀{a:L0 HA}{us:L0 Fe},Vals (a.map V.ref) us->us=a.map Fe.ref
 | [],_,.nil=>rfl
 |c :: a,_,.cons r t=>by rw[oK t];calc LU (· :: a.map Fe.ref) r
theorem iA(c:oe.cls=.ref C)(L:gc X.K C):cG (sfx X e oe) (.builtin "isinstance") (λxs H Q=>∃y b,xs=[.ref e,y]/\((∃B,y=.ref B/\W.kitOne X.K (.ref C) (.ref B)=LH b)\/(∃T,y=.ty T/\W.kitOne X.K (.ref C) (.type T)=LH b) \/
  (∃(tp:HA)(f:L0 HA),y=.ref tp/\H tp=LH (.tup<|f.map V.ref)/\W.kitAny X.K (.ref C) (f.map Fe.ref)=LH b))/\Q (.bl b) H):=by
 intro LM s σ H xs D Q I r h;let(y,b,rfl,u,q):=h;let g:=I.excObj;let i:X.K.In s.heap:=I.kIn;cases r with
 |cons m t =>
  cases t with
  |cons d p =>
   cases p;cases (show _=Fe.ref e from m);let fin:∀a,EP (sfx X e oe) LM σ Q (Fe.bool b) { s with toks:=a }:=λa=>⟨.bl b,H,I.tok a,U,q⟩
   rcases u with⟨B,rfl,k⟩|⟨T,rfl,k⟩|⟨tp,f,rfl,v,k⟩
   .cases (show _=Fe.ref B from d);exact W.kia_one (mm L c) i g k (λz=>nomatch z) fin
   .cases (show _=Fe.type T from d);exact W.kia_one (mm L c) i g k (λz=>nomatch z) fin
   .cases (show _=Fe.ref tp from d);let(_,A,o,(cl,dd,F,E),w,l,n,j):=I.hok tp _ v;let x:=oK o;subst x;dsimp only at l j;subst l j;calc W.kia_tup (mm L c) i g w k (λz=>nomatch z) fin
theorem A7{P:Fw}{w:Fn}{X:Cx}:Passes (CX1 P w) X E0:=λ_ _ _ _ _ _ _ h=>by
 let(_,_,_,_,_,_,_,_,_,_,_,_,_,_,_,_,_,q):=h;calc False.elim q
def bh(CX:CXT)(P:Fw)(w:Fn)(K:W.Frag)(mg:Str->Option Fe)(base:HB)(k:Nat)(C:HA)(m:Str)(ps:L0 Str)(sp:Sp):Prop :=
 ∃f a,Meth K C m f/\aD P w K mg base CX k f a ps sp/\Binds K a ps []
def bf(CX:CXT)(P:Fw)(w:Fn)(K:W.Frag)(mg:Str->Option Fe)(base:HB)(k:Nat)(x:Str)(C:HA)(ps:L0 Str)(sp:Sp):Prop :=
 ∃f a,Mk K C f/\aD P w K mg base CX k f a ps sp/\Binds K a ps []/\mg x=LH (.ref C)
structure DE(K:W.Frag)(B:HA)(m:Str)(f:HA):Prop where
 sp:W.specialIn K (.ref B) "__getattribute__" = LH (LH<|.builtin "type.__getattribute__")
 rd:W.readsIn K B (.type "type")=LJ
 at_:W.findCls K (.ref B) (.type "type") m=LH (.val<|.ref f)
 kp:W.keepIn K (.ref f)=LJ
def bZ(CX:CXT)(P:Fw)(w:Fn)(K:W.Frag)(mg:Str->Option Fe)(base:HB)(k:Nat)(x:Str)(m:Str)(ps:L0 Str)(sp:Sp):Prop :=
 ∃f a B,DE K B m f/\aD P w K mg base CX k f a ps sp/\Binds K a ps []/\mg x=LH (.ref B)
section
variable{CX:CXT}{mg:Str->Option Fe}{j:Nat}{m:Str}
theorem bh.mono(c:bh CX P w K mg base j C m ps sp)(h:j<=k):bh CX P w K mg base k C m ps sp:=by
 let(f,a,M,F,b):=c;calc⟨f,a,M,F.mono h,b⟩
theorem bf.mono(c:bf CX P w K mg base j x C ps sp)(h:j<=k):bf CX P w K mg base k x C ps sp:=by
 let(f,a,M,F,b):=c;calc⟨f,a,M,F.mono h,b⟩
theorem bZ.mono(c:bZ CX P w K mg base j x m ps sp)(h:j<=k):bZ CX P w K mg base k x m ps sp:=by
 let(f,a,B,M,F,b):=c;calc⟨f,a,B,M,F.mono h,b⟩
end
inductive DF(C:HA)(m:Str)(sp:Sp)(t:TA)(σ:St)(Q:VK)(x:V)(H1:Hp):Prop
 |mk (a dx fs:_)(_:x=.ref a)(_:H1 a=LH (.ins C dx fs))(_:fs.lookup m=LI)(_:t σ H1 λvs H2=>sp (x :: vs) H2 Q E0)
def tMt(C:HA)(m:Str)(sp:Sp)(a:TE)(t:TA):TE:=λσ H Q=>a σ H λx b=>DF C m sp t σ Q x b
def tMk(C:HA)(sp:Sp)(t:TA):TE:=λσ H Q=>t σ H λc b=>∀x a,b x=LI->b a=LI->a≠x ->
 sp (.ref x :: c) (upd (upd b a<|.own x) x<|.ins C a []) (λv d=>v=.non/\Q (.ref x) d) E0
section
variable{CX:CXT}{f:HA}{fd:Jy}{m:Str}{p np apos:Pos}{e o:Iz}{es:L0 Iz}{ta:TE}{t:TA}
theorem zJ{LM:L0 (HA×Obj)}{σ:St}{H:Hp}{s:Iq}{Q:VK}{us:L0 Fe}{vs:L0 V}{E:XK}(F:aD X.prog X.w X.K X.mg X.base CX k f fd ps sp)(b:bI k X.A)(c:Binds X.K fd ps [])(a:Passes CX X E)
  (I:Inv X LM σ H s)(r:Vals vs us)(h:sp vs H Q E):Iw (model X.prog X.w) X.A (call (.ref f) us) (EP X LM σ Q) X.xe s :=
 sV (dvs:=[]) (ds:=[]) F b c .nil a I r (by rw[iP];exact h)
theorem oM{pl:Sem Bool}(M:bh CX X.prog X.w X.K X.mg X.base k C m ps sp)(z:Passes CX X E0)(c:Cls X.K C)(D:bI k X.A)(E:PE X o ta)(J:PA X (e :: es) t)
  (b:IC (e :: es) X.env=(LK,eval e X.env) :: IC es X.env:=by rfl)(d:(IB pos<|IC es X.env).any (·.1)=false:=by rfl)
  (B:eval (.Call (.Attribute o m apos) (e :: es) [] pos) X.env=(do
   let g ←eval o X.env
   II apos.atName
   let (f,first) ←holding [g] (Jr g m pl)
   Kz pos f first (IB pos<|IC (e :: es) X.env) (JS pos<|JT [] X.env)):=by rfl) :
  PE X (.Call (.Attribute o m apos) (e :: es) [] pos) (tMt C m sp ta t):=by
 let(f,fd,i,F,G):=M;intro LM s σ H Q I h;calc W.methodCall_KW (pl:=pl) (thn (E LM s σ H _ I h) λu p ⟨x,O,n,v,a,P,fs,L,N,l,q⟩=>?_) B;subst L;obtain rfl:u=Fe.ref a:=v;calc lZ n N c i l ?_;calc W.callWith_K (first:=[.ref a]) (h₀:=X.base) I.ok.mod.kin i.kp (thn (J pos LM p σ O _ n q) λus s2 ⟨vs,R,j,r,y⟩=>⟨j.kIn,?_⟩) b d;calc zJ (us:=.ref a :: us) (vs:=.ref a :: vs) F D G z j (.cons U r) y
theorem gg{pl:Sem Bool}(M:bZ CX X.prog X.w X.K X.mg X.base k x m ps sp)(l:Passes CX X E0)(o:bI k X.A)(q:Gl X x)(y:PA X (e :: es) t)(d:(x == ("__debug__" : Str))=false:=by decide)
  (b:IC (e :: es) X.env=(LK,eval e X.env) :: IC es X.env:=by rfl)(c:(IB pos<|IC es X.env).any (·.1)=false:=by rfl)
  (n:eval (.Call (.Attribute (.Name x np) m apos) (e :: es) [] pos) X.env=(do
   let g ←eval (.Name x np) X.env
   II apos.atName
   let (f,first) ←holding [g] (Jr g m pl)
   Kz pos f first (IB pos<|IC (e :: es) X.env) (JS pos<|JT [] X.env)):=by rfl) :
  PE X (.Call (.Attribute (.Name x np) m apos) (e :: es) [] pos) (tFn sp t):=by
 let(f,fd,B,a,F,u,p):=M;intro LM s σ H Q I h;calc W.methodCall_KW (pl:=pl) (cY I q p ?_ d) n;calc W.method_cls I.kIn a.sp<|W.cls_value (mc:=.type "type") I.kIn a.rd a.at_ (oz (v:=.ref f) U) ?_;calc W.callWith_K (first:=[]) (h₀:=X.base) I.ok.mod.kin a.kp (thn (y pos LM _ σ H _ (I.tok _) h) λus s2 ⟨vs,z,i,r,j⟩=>⟨i.kIn,?_⟩) b c;calc zJ (us:=us) (vs:=vs) F o u l i r j
theorem uW(M:bf CX X.prog X.w X.K X.mg X.base k x C ps sp)(l:Passes CX X E0)(m:bI (k+1) X.A)(o:Gl X x)(u:PA X (e :: es) t)(i:(x == ("__debug__" : Str))=false:=by decide)
  (he:IC (e :: es) X.env=(LK,eval e X.env) :: IC es X.env:=by rfl)(g:(IB pos<|IC es X.env).any (·.1)=false:=by rfl) :
  PE X (.Call (.Name x p) (e :: es) [] pos) (tMk C sp t):=by
 let(f,fd,M,F,r,n):=M;let h:=uJ (E:=E0) (dvs:=[]) (ds:=[]) (p:=p) M F m o n r .nil l u i he g;intro LM s σ H Q I q;calc h LM s σ H Q I ?_;let j:t σ H λc b=>∀x a,b x=LI->b a=LI->a≠x->sp (.ref x :: c) (upd (upd b a<|.own x) x<|.ins C a []) (λv d=>v=.non/\Q (.ref x) d) E0:=q
 show t σ H λc b=>∀x a,b x=LI->b a=LI->a≠x->sp (.ref x :: (c++[])) (upd (upd b a<|.own x) x<|.ins C a []) (λv d=>v=.non/\Q (.ref x) d) E0
 let y:(λ(c:L0 V)(b:Hp)=>∀x a,b x=LI->b a=LI->a≠x->sp (.ref x :: (c++[])) (upd (upd b a<|.own x) x<|.ins C a []) (λv d=>v=.non/\Q (.ref x) d) E0)=λc b=>∀x a,b x=LI->b a=LI->a≠x->sp (.ref x :: c) (upd (upd b a<|.own x) x<|.ins C a []) (λv d=>v=.non/\Q (.ref x) d) E0:=by
  funext c b
  rw[iP]
 rw[y];calc j
end
inductive vT(K:W.Frag)(neg:Bool)(x:V)(y:V)(H:Hp)(Q:VK):Prop
 |mk (a b xs ys:_)(_:x=.ref a)(_:y=.ref b)(_:SqT K H a xs)(_:SqT K H b ys)(f:Nat->Bool)(_:(∀j x y,xs[j]?=LH x->ys[j]?=LH y->EqI K H x y (f j)))(_:Q (.bl (if neg then !((List.range<|min ⇑xs ⇑ys).all f && ⇑xs == ⇑ys) else(List.range<|min ⇑xs ⇑ys).all f && ⇑xs == ⇑ys)) H)
theorem xP{k:Nat}(o:bI k X.A):OpR X (Jn .Eq) (vT X.K LK):=by
 intro LM s σ H x y v u Q I j i h;let(a,b,C,B,rfl,rfl,z,w,f,t,q):=h;cases (show v=Fe.ref a from j);cases (show u=Fe.ref b from i);let(d,r,p,_):=I.tuple z;let(c,g,l,_):=I.tuple w;let n:=⇑r;let m:=⇑g;let D:=o.units;refine SeqAt.eq_tupleAt (e:=f) (show s.heap.IsTuple a d.toArray from p) (show s.heap.IsTuple b c.toArray from l) ∅ (tm I (by show X.A.units+1+1<Jw;lia) r g t) ⟨.bl _,H,I,U,?_⟩;simp only[cf];rw[←n,←m];calc q
theorem B7{k:Nat}(o:bI k X.A):OpR X (Jn .NotEq) (vT X.K LJ):=by
 intro LM s σ H x y v u Q I j i h;let(a,b,D,C,rfl,rfl,B,z,f,t,q):=h;cases (show v=Fe.ref a from j);cases (show u=Fe.ref b from i);let(d,r,p,_):=I.tuple B;let(c,g,l,_):=I.tuple z;let n:=⇑r;let m:=⇑g;let E:=o.units;refine SeqAt.RcNeAt.tuples (e:=f) (show s.heap.IsTuple a d.toArray from p) (show s.heap.IsTuple b c.toArray from l) ∅ (tm I (by show X.A.units+1+1<Jw;lia) r g t) X.prog X.w X.xe _ ⟨.bl _,H,I,U,?_⟩;simp only[cf];rw[←n,←m];calc q
theorem vU{K:W.Frag}{H:Hp}{Q:VK}{a b:HA}{xs:L0 V}(f:SqT K H a xs)(e:SqT K H b xs)(fl:∀x∈xs,fM x=LJ)(q:Q (.bl LJ) H):vT K LK (.ref a) (.ref b) H Q:=by
 refine⟨a,b,xs,xs,U,U,f,e,λ_=>LJ,λj x y d c=>?_,?_⟩
 .rw[d]at c;cases c;let z:=fl x<|Il d;let:=EqI.flat (K:=K) (H:=H) z z;rw[qt z]at this;exact this
 .let:(List.range<|min ⇑xs ⇑xs).all (λ_=>LJ)=true:=by simp
  show Q (.bl<|(List.range<|min ⇑xs ⇑xs).all (λ_=>LJ) && ⇑xs == ⇑xs) H;rw[this,beq_self_eq_true,Bool.and_true];calc q
def aD.no{P:Fw}{w:Fn}{K:W.Frag}{mg:Str->Option Fe}{base:HB}{CX:CXT}{k:Nat}{f:HA}{a:Jy}{ps:L0 Str}{sp:Sp}(h:∀vs H Q E,¬ sp vs H Q E):aD P w K mg base CX k f a ps sp :=
 ⟨λvs H Q E q=>(h vs H Q E q).elim,λ_ _ _ H _ _ vs Q E _ _ _ _ q=>(h vs H Q E q).elim⟩
def jQ{X:Cx}{K:W.Frag}{e:Iz}{f:Str}{pos:Pos}{a:TE}(h:X.K=K)(b:PE X e a)(c:Ju e f X.env (eval e X.env)=eval e X.env):PE X (.Attribute e f pos) (Dq K a f):=h ▸ aV b c
set_option maxRecDepth 100000
inductive DEq(K:W.Frag)(H:Hp):Nat->V->V->Bool->Prop where
 |flat {n:Nat}{x y:V}(fx:fM x=LJ)(fy:fM y=LJ):DEq K H n x y (eqV x y)
 |same {n:Nat}(a:HA):DEq K H n (.ref a) (.ref a) LJ
 |lst {n:Nat}{a b:HA}{xs ys:L0 V}{f:Nat->Bool}(ne:a≠b)(ha:SqL K H a xs)(hb:SqL K H b ys)(hl:⇑xs=⇑ys)(h:∀(j:Nat)(x y:V),xs[j]?=LH x->ys[j]?=LH y->DEq K H n x y (f j)):DEq K H (n+1) (.ref a) (.ref b) ((List.range ⇑xs).all f)
 |lst_ne {n:Nat}{a b:HA}{xs ys:L0 V}(ne:a≠b)(ha:SqL K H a xs)(hb:SqL K H b ys)(hl:⇑xs≠⇑ys):DEq K H (n+1) (.ref a) (.ref b) LK
 |tup {n:Nat}{a b:HA}{xs ys:L0 V}{f:Nat->Bool}(ne:a≠b)(ha:SqT K H a xs)(hb:SqT K H b ys)(h:∀(j:Nat)(x y:V),xs[j]?=LH x->ys[j]?=LH y->DEq K H n x y (f j)):DEq K H (n+1) (.ref a) (.ref b) ((List.range<|min ⇑xs ⇑ys).all f && ⇑xs == ⇑ys)
theorem DEq.mono{K:W.Frag}{H:Hp}{n m:Nat}{x y:V}{b:Bool}(e:DEq K H n x y b)(h:n<=m):DEq K H m x y b:=by
 induction e generalizing m with
 |flat p o=>exact .flat p o
 |same a=>exact .same a
 |lst ne d c g _ f =>
  let(m,rfl):∃k,m=k+1:=⟨m-1,∅⟩;exact .lst ne d c g λj x y l i=>f j x y l i ∅
 |lst_ne ne d c g =>
  let(m,rfl):∃k,m=k+1:=⟨m-1,∅⟩;exact .lst_ne ne d c g
 |tup ne d c _ f =>
  let(m,rfl):∃k,m=k+1:=⟨m-1,∅⟩;calc .tup ne d c λj x y l i=>f j x y l i ∅
theorem fD{xs:L0 V}{a:L0 Fe}(r:Vals xs a){j:Nat}(h:j<a.toArray.size):∃x,xs[j]?=LH x/\RelV x a.toArray[j]:=by
 let f:j<⇑a:= ~~~h
 let i:=⇑r;let b:xs[j]?=LH xs[j]:=Ij ∅;let(d,c,e):=r.get b;let g:a.toArray[j]=d:=by
  let:=Ij f;rw[this]at c;simpa using Option.some.inj c
 calc⟨xs[j],b,g ▸ e⟩
theorem DEq.at{n:Nat}{x y:V}{b:Bool}(e:DEq X.K H n x y b)(I:Inv X LM σ H s):∀{A:Ip}{u v:Fe},A.units+n<Jw->RelV x u->RelV y v->SeqAt.EqAt A s u v b:=by
 induction e with
 |flat G F=>intro A u v o i g;exact sZ i g G F
 |same a =>
  intro A u v o i g;cases (show u=Fe.ref a from i);cases (show v=Fe.ref a from g);exact SeqAt.EqAt.same _
 | @lst n a b xs ys f ne ha hb hl h ih =>
  intro A u v o i g;cases (show u=Fe.ref a from i);cases (show v=Fe.ref b from g);let(d,r,p,_):=I.list ha;let(c,k,l,_):=I.list hb;let E:=⇑r;let D:=⇑k;let m:=SeqAt.RcAt.lists (A:=A) (e:=f) p.isList l.isList (by simp only[cf];lia) ∅ (λj z w=>by
   let(x,C,t):=fD r z;let(y,B,q):=fD k w;exact ih j x y C B (by show A.units+1+n<Jw;lia) t q)
  rw[show d.toArray.size=⇑xs by simp only[cf];lia]at m;exact SeqAt.EqAt.of_refs ne m
 | @lst_ne n a b xs ys ne ha hb hl =>
  intro A u v o i g;cases (show u=Fe.ref a from i);cases (show v=Fe.ref b from g);let(d,r,p,_):=I.list ha;let(c,k,l,_):=I.list hb;let E:=⇑r;let D:=⇑k;exact SeqAt.EqAt.of_refs ne<|SeqAt.RcAt.lists_lengths p.isList l.isList (by simp only[cf,bne_iff_ne,ne_eq];lia) ∅
 | @tup n a b xs ys f ne ha hb h ih =>
  intro A u v o i g;cases (show u=Fe.ref a from i);cases (show v=Fe.ref b from g);let(d,r,p,_):=I.tuple ha;let(c,k,l,_):=I.tuple hb;let E:=⇑r;let D:=⇑k;let m:=SeqAt.RcAt.tuples (A:=A) (e:=f) (show s.heap.IsTuple a d.toArray from p) (show s.heap.IsTuple b c.toArray from l) ∅ (λj z w=>by
   let(x,C,t):=fD r z;let(y,B,q):=fD k w;exact ih j x y C B (by show A.units+1+n<Jw;lia) t q)
  rw[show d.toArray.size=⇑xs by simp only[cf];lia,show c.toArray.size=⇑ys by simp only[cf];lia]at m;calc SeqAt.EqAt.of_refs ne m
inductive xQ(K:W.Frag)(neg:Bool)(x:V)(y:V)(H:Hp)(Q:VK):Prop
 |mk (a b xs ys:_)(_:x=.ref a)(_:y=.ref b)(_:SqL K H a xs)(_:SqL K H b ys)(_:((⇑xs≠⇑ys/\Q (.bl neg) H)\/(⇑xs=⇑ys/\∃f:Nat->Bool,(∀(j:Nat)(x y:V),xs[j]?=LH x->ys[j]?=LH y->DEq K H 60 x y (f j))/\Q (.bl (if neg then !(List.range ⇑xs).all f else(List.range ⇑xs).all f)) H)))
theorem zK{LM:L0 (HA×Obj)}{σ:St}{H:Hp}{s:Iq}{A:Ip}{xs ys:L0 V}{a its':L0 Fe}{f:Nat->Bool}(I:Inv X LM σ H s)(h:A.units+60<Jw)(r:Vals xs a)(d:Vals ys its')
  (hf:∀(j:Nat)(x y:V),xs[j]?=LH x->ys[j]?=LH y->DEq X.K H 60 x y (f j)):∀j (c:j<a.toArray.size)(b:j<its'.toArray.size),SeqAt.EqAt A s a.toArray[j] its'.toArray[j] (f j):=λj c b=>by
 let(x,k,g):=fD r c;let(y,i,e):=fD d b;calc(hf j x y k i).at I h g e
theorem zL{k:Nat}(n:bI k X.A):OpR X (Jn .NotEq) (xQ X.K LJ):=by
 intro LM s σ H x y v u Q I m l h;let(a,b,j,B,rfl,rfl,z,t,h):=h;cases (show v=Fe.ref a from m);cases (show u=Fe.ref b from l);let(c,r,p,_):=I.list z;let(i,d,g,_):=I.list t;let D:=⇑r;let C:=⇑d;let E:=n.units;rcases h with⟨F,q⟩|⟨G,f,o,q⟩
 .refine SeqAt.RcNeAt.lists_lengths p.isList g.isList (by simp only[cf,bne_iff_ne,ne_eq];lia) ∅ X.prog X.w X.xe _ ⟨.bl LJ,H,I,U,q⟩
 .refine SeqAt.RcNeAt.lists (e:=f) p.isList g.isList (by simp only[cf];lia) ∅ (zK I (by show X.A.units+1+60<Jw;lia) r d o) X.prog X.w X.xe _ ⟨.bl _,H,I,U,?_⟩;rw[show c.toArray.size=⇑j by simp only[cf];lia];exact q
set_option maxRecDepth 100000
section
variable{tg:Iz}
inductive tJ(K:W.Frag)(x:V)(y:V)(H:Hp)(Q:VK):Prop
 |mk (a b xs ys:_)(_:x=.ref a)(_:y=.ref b)(_:SqT K H a xs)(_:SqT K H b ys)(_:⇑xs+⇑ys<=HL)(_:(xs=[]->Q (.ref b) H))(_:(xs≠[]->ys=[]->Q (.ref a) H))(_:(xs≠[]->ys≠[]->∀p,H p=LI->Q (.ref p) (upd H p<|.tup<|xs++ys)))
theorem xR:OpR X (Jl .Add) (tJ X.K):=by
 intro LM s σ H x y v u Q I o m h;let(a,b,l,A,rfl,rfl,w,t,O,G,E,D):=h;by_cases c:l=[]
 .cases o;cases m;let(d,C,L,_):=I.tuple w;let(M,S,J,_):=I.tuple t;let P:d=[]:=C.nil_iff.mpr c;let((R,dd,z,B),p,r,n,q):=id L;let((T,j,k,i),e,g,N,f):=id J;simp only at r q g f;subst r q g f
  exact JI ⟨_,p,U⟩ ⟨_,e,U⟩ JJ JK PySem.F.slot_tuple_add PySem.F.entry_tuple_add (PySem.F.args_tuple_add_2 _ _)
   (tuple_addW0 a b d.toArray M.toArray n N dd j B i (by simp[P])) ⟨p,e,⟨.ref b,H,I,U,G c⟩⟩
 .exact zF LM s σ H (.ref a) (.ref b) v u Q I o m ⟨a,b,l,A,U,U,w,t,c,O,E c,D c⟩
end
end _L
namespace HT
open PySem PyProof.Rows
section
open PySem.SeqAt
open PySem.AutoSeq1 (wpAny_loadPart')
open PySem.MeetsSeq PySem.MeetsSeq2 PySem.MeetsSeq3
end
end HT
namespace _L
open PySem PySem.Spec PyProof.Rows
section
variable{X:Cx}
end
end _L
namespace HT
open PySem PyProof.Rows
section
open PySem.SeqAt
open PySem.AutoSeq1 (wpAny_loadPart')
open PySem.MeetsSeq PySem.MeetsSeq2 PySem.MeetsSeq3
end
end HT
namespace _L
open PySem PySem.Spec PyProof.Rows
variable{X:Cx}
variable{prog:Fw}{w:Fn}{A:Ip}{E:Fe->Iq->Prop}{s:Iq}
section
variable{κ:Type} [DecidableEq κ]
def cntK(ks:L0 κ):Nat->Nat
 |0=>0
 |i+1=>match ks[i]? with
  |some k=>if k∈ks.take i then cntK ks i else cntK ks i+1
  |none=>cntK ks i
theorem jR(ks:L0 κ):∀i,cntK ks i<=i
 |0=>wX _
 |i+1=>by
  let a:=jR ks i;unfold cntK;split
  .split <;> lia
  .lia
theorem oN(ks:L0 κ):∀i,i<=⇑ks->(cntK ks i=i↔(ks.take i).Nodup)
 |0,_=>by simp[cntK]
 |i+1,h=>by
  let c:=oN ks i ∅;let le:=jR ks i;let e:ks[i]?=LH ks[i]:=Ij ∅;let g:ks.take (i+1)=ks.take i++[ks[i]]:=by rw[nQ,e];rfl
  unfold cntK;rw[e,g,uz];dsimp only;by_cases m:ks[i]∈ks.take i
  .rw[LO m];exact⟨λz=>LP z ∅,λz=>LP U<|z.2.2 _ m _ (by simp)⟩
  .rw[LN m];refine⟨λz=>⟨c.mp ∅,by simp,λa f b d=>?_⟩,λz=>by rw[c.mpr z.1]⟩;rw[show b=ks[i] by simpa using d];calc λq=>m<|q ▸ f
variable{knd:KeyKind prog w κ}
theorem gh{h h':HB}{a:HA}{S:κ->Bool}{n:Nat}(x:h.SetOf knd a S n)(k:∀o,h.get? a=LH o->h'.get? a=LH o):h'.SetOf knd a S n:=by
 let(o,c,d,t,b,r):=x;calc⟨o,c,d,t,k o b,r⟩
def mn{h:HB}{a:HA}{S c:κ->Bool}{n b:Nat}(x:h.SetOf knd a S n)(e:S=c)(d:n=b):h.SetOf knd a c b:=e ▸ d ▸ x
theorem vV{R:Js->Iq->Prop}{I:HA}{E g:L0 HA}{G:Array Iu->Array Iu->Prop}{n:Nat}{P:Nat->Fe->Prop}{St:Nat->Iq->Prop}(W:KA prog w A.in1 I E g G n P St){a:HA}(D:a ∉ E){ks:L0 κ}
  (S:∀i v,P i v->∃k,ks[i]?=LH k/\knd.is k v=LJ/\v.scannable=LJ)(f:n+1<KC):∀(d i:Nat)(s:Iq),n=i+d->St i s->s.heap.SetOf knd a (λk=>decide<|k∈ks.take i) (cntK ks i) ->
   (∀s',KD (a :: g) G s s'->s'.heap.SetOf knd a (λk=>decide<|k∈ks.take n) (cntK ks n)->R (.ok<|.ret .none) s')->Jt (model prog w) A (.builtin "set.update.loop" ⟨[.ref a,.ref I],[]⟩) R s:=by
 let C:a ∉ g:=λz=>D<|W.sub a z
 intro d;induction d with
 |zero =>
  intro i s e h x fin;rw[show n=i by lia]at W fin;calc Kq (R:=R) (A:=A) F.entry_set_update_loop ?_;rw[Ip.under_plainId (A:=A) F.plain_set_update_loop _];show Iw (model prog w) A.in1 (IX (.ref I) >>= _) _ _ s;exact E2<|W.done s _ _ h λs' m=>E6<|fin s' (m.mono λb f=>fo a f)<|gh x λo q=>m.heap a o C q
 |succ d Q =>
  intro i s e h x fin;calc Kq (R:=R) (A:=A) F.entry_set_update_loop ?_;rw[Ip.under_plainId (A:=A) F.plain_set_update_loop _];show Iw (model prog w) A.in1 (IX (.ref I) >>= _) _ _ s;calc E2<|W.item i s _ _ ∅ h λv c p l m=>?_;let(k,H,B,N):=S i v p;let M:=gh x λo q=>m.heap a o C q
  show Iw (model prog w) A.in1 (holding [v] (KG a v) >>= _) _ _ c;refine E2<|Fc (show Iw (model prog w) A.in1 (KG a v) _ _ c from ?_);unfold KG;calc Fc<|E2<|knd.pyHash B ?_;let le:=jR ks i;refine wpAny_setAddHashed_of (knd:=knd) (s:={ c with toks:=c.toks+1 }) B N M ∅ λj u L=>?_
  let T:ks.take (i+1)=ks.take i++[k]:=by rw[nQ,H];rfl
  let K:j.SetOf knd a (λq=>decide<|q∈ks.take (i+1)) (cntK ks<|i+1):=by
   refine mn L (funext λq=>?_) ?_
   .rw[T];by_cases z:q∈ks.take i <;> by_cases y:q=k <;> simp[z,y]
   .show(if decide (k∈ks.take i)=LJ then cntK ks i else cntK ks i+1)=match ks[i]? with|some k=>if k∈ks.take i then cntK ks i else cntK ks i+1|none=>cntK ks i
    rw[H];by_cases z:k∈ks.take i <;> simp[z]
  calc E6 ⟨KH F.plain_set_update_loop _,Q (i+1) { c with heap:=j,toks:=c.toks+1 } ∅ (W.frame (i+1) c j (c.toks+1) l (x4 _) λb t o q=>(u.2 b λz=>D<|z ▸ t).trans q) K λs2 O J=>?_⟩;calc fin s2 (KD.trans W.gtrans ((m.mono λb f=>fo a f).then_heap (x4 _) λb o r q=>?_) O) J;calc(u.2 b λz=>r<|z ▸ dn).trans q
abbrev cO(led:Bool):Obj:={ cls:=.type "set",dict:=LI,data:=.set #[] 0 (.fresh 0 0 led) }
def Filled(knd:KeyKind prog w κ)(s:Iq)(ks:L0 κ)(h':HB):Prop :=
 h'.SetOf knd ↥s (λk=>decide<|k∈ks) (cntK ks ⇑ks)/\∀b o,b<↥s->s.heap.get? b=LH o->h'.get? b=LH o
theorem xS{l:HA}{a:Array Fe}{ks:L0 κ}{led:Bool}(I:A.handled=LI)(G:s.heap.IsList l a)(H:∀(i:Nat)(v:Fe),a[i]?=LH v->∃k,ks[i]?=LH k/\knd.is k v=LJ/\v.scannable=LJ)(D:⇑ks=a.size)(J:a.size+1<KC) :
  Jt (model prog w) A (.call (.builtin "set.__init__") ⟨[.ref ↥s,.ref l],[]⟩) (wants (λr s2=>r=.none/\∃h' p,s2={ s with heap:=h',toks:=p }/\Filled knd s ks h') E) { s with heap:=s.heap.push (cO led) }:=by
 let n:(s.heap.push<|cO led).get? ↥s=LH (cO led):=HB.get?_push_size s.heap U;let ty:Iq.TypeIs { s with heap:=s.heap.push (cO led) } (.ref ↥s) "set" := ⟨cO led,n,U⟩;calc Ko F.called_set.init.plain F.entry_set_init<|KI ty ?_;let((V,P,T,O),g,j,m,h):=G;dsimp only at j h;subst j h;let L:(s.heap.push<|cO led).get? l=LH { cls:=.type "list",dict:=P,data:=.seq a m,slots:=O }:=HB.get?_push_of_some _ g;let S:=F.sub_list_set;let R:=F.sub_list_frozenset;let Q:(Fe.type "list" == Fe.type "dict")=false:=⋯
 let f:(s.heap.push<|cO led).IsList l a:=⟨_,L,U,m,U⟩;let lt:l<↥s:=HB.lt_size g;unfold Ji.«set.__init__» Ji.Frozenset.updateFrom noKeywords;generalize K:IZ=it
 wp_walk
 subst K;calc Jf f<|E2<|KJ ?_;let B:l≠(s.heap.push<|cO led).objs.size:=by rw[HB.size_push];exact wY<|xG lt
 let C:↥s ∉ [(s.heap.push<|cO led).objs.size,l]:=by
  rw[HB.size_push];intro z;rcases bL.mp z with z|z
  .exact LP z<|wY<|yg _
  .exact LP (~~~z)<|xa lt
 refine vV (knd:=knd) ((Jc.list (by simp[I]) _ l B a).toS) C (ks:=ks) H J a.size 0 _ (zh _).symm ⟨⟨_,HB.get?_push_size _ U,U,U⟩,f.push _⟩ (mn ((setObjOf_fresh (knd:=knd) led).setOf (HB.get?_push_of_some _ n) (by unfold KC;lia)) (funext λk=>by simp) U) λu d x=>?_
 let(h',M,N,t,y):=u;obtain rfl:M=s.gens:=d.gens;obtain rfl:N=s.drawn:=d.drawn;obtain rfl:y=s.os:=d.os;refine E6 (show Iw (model prog w) _ (ret Fe.none) _ _ _ from E6 ⟨U,h',t,U,?_,λb o c q=>?_⟩)
 .rw[←D]at x;exact mn x (funext λk=>by rw[hV]) U
 .refine d.heap b o (λz=>?_)<|HB.get?_push_of_some _<|HB.get?_push_of_some _ q;rcases bL.mp z with z|z
  .exact LP z<|wY c
  .let e:b=(s.heap.push<|cO led).objs.size:= ~~~z
   rw[HB.size_push]at e;exact LP e (wY<|xG c)
set_option maxRecDepth 100000 in
theorem oO{l:HA}{a:Array Fe}{ks:L0 κ}{Q:Fe->Iq->Prop}(t:A.handled=LI)(p:s.heap.IsList l a)(q:∀(i:Nat)(v:Fe),a[i]?=LH v->∃k,ks[i]?=LH k/\knd.is k v=LJ/\v.scannable=LJ)(o:⇑ks=a.size)(u:a.size+1<KC)
  (h:∀h' f,Filled knd s ks h'->Q (.ref ↥s) { s with heap:=h',toks:=f }):Iw (model prog w) A (call (.type "set") [.ref l]) Q E s:=by
 let(c,B,mro):=F.called_set.mro;let J:=F.called_set.made;let I:=F.called_set.sub;let H:=F.called_set.notType;let G:=F.called_set.canCreate;let D:=F.typeCall_set_1<|.ref l;refine JB<|KL (show Iw (model prog w) _ (callAny (.type "set") _) _ _ _ from E6 ⟨Jx.quiet_builtin _<|~~~0,Kq F.entry_type_call ?_⟩);rw[Ip.under_plain (A:=A) (KN "set" [.ref l] []) U]
 repeat (any_goals (first|assumption|wp_step))
 refine JC (code_set_new_1 (.ref l) (E:=E) (Q₁:=λm j=>∃b,m=.ref ↥s/\j={ s with heap:=s.heap.push (cO b) }) λb=>⟨b,U,U⟩) λr j g=>?_
 cases r with
 |error e=>exact g
 |ok fl =>
  cases fl with
  |ret m =>
   let(b,rfl,rfl):=g;let y:(s.heap.push<|cO b).get? ↥s=LH (cO b):=HB.get?_push_size s.heap U;let ty:Iq.TypeIs { s with heap:=s.heap.push (cO b) } (.ref ↥s) "set" := ⟨cO b,y,U⟩;let C:=F.called_set.init.lookup;let b2:=F.called_set.init.bind<|.ref ↥s
   repeat (any_goals (first|assumption|wp_step))
   refine JC (xS (E:=E) (knd:=knd) (by simp[t]) p q o u) λn s2 d=>?_
   cases n with
   |error e=>exact d
   |ok z =>
    cases z with
    |ret r =>
     let(rfl,h',f,rfl,x):=d
     repeat (any_goals (first|assumption|wp_step))
     exact h h' f x
    |_=>exact d.elim
  |_=>calc g.elim
end
def B8(P:Fw)(w:Fn)(a:HA)(zs:L0 Str):HO:=.ext λh=>h.SetOf (strKind P w) a (λz=>decide<|z∈zs)<|cntK zs ⇑zs
theorem oP:∀{zs:L0 Str}{us:L0 Fe},Vals (zs.map V.str) us->∀(i:Nat)(v:Fe),us[i]?=LH v->∃z t,zs[i]?=LH z/\v=.str z t
 | [],_,.nil,i,v,h=>by simp at h
 |z :: zs,_,.cons ⟨t,e⟩ r,0,v,h=>by simp at h;exact⟨z,t,U,by rw[←h,e]⟩
 |z :: zs,_,.cons _ r,i+1,v,h=>by
  let(a,t,c,b):=oP r i v<|~~~h;calc⟨a,t,~~~c,b⟩
theorem nW(C:X.calm=LJ):cG X (.type "set") (λxs H Q=>∃(p:HA)(zs:L0 Str),xs=[.ref p]/\SqL X.K H p (zs.map V.str)/\⇑zs<=1000/\∀l,H l=LI->Q (.ref l) (upd H l<|B8 X.prog X.w l zs)):=by
 intro j s G H xs J Q I r h;let(p,zs,rfl,D,L,q):=h;let(u,rfl,A):=r.one;obtain rfl:u=Fe.ref p:=A;let(F,d,B,_):=I.list D;let f:=⇑d;rw[bc]at f;refine oO (knd:=strKind X.prog X.w) (ks:=zs) (I.ok.hd C) B.isList (λi v e=>?_) (~~~f) (by unfold KC;simp;lia) λh' n x=>?_
 .let(z,t,E,rfl):=oP d i v<|~~~e;exact⟨z,E,by show Fe.isStrOf z (.str z t)=LJ;simp[Fe.isStrOf],U⟩
 .let(c,m):=x;calc⟨.ref ↥s,_,I.laid (a:=↥s) (o:=B8 X.prog X.w ↥s zs) (h':=h') (t':=n) (λb o q=>m b o (HB.lt_size q) q) (wX _) ?_,U,q _ I.fresh⟩;calc⟨c,?_,λN M y k=>gh y k⟩;let(o,_,_,_,g,_):=c;calc⟨o,g⟩
def Asc(xs:Array Nat):Prop:=xs.toList.Pairwise (· < ·)
theorem Asc.lt{xs:Array Nat}(h:Asc xs){i j:Nat}(a:i<j)(b:j<xs.size):xs[i]<xs[j]:=by
 let:=nS.mp h i j (by simp;lia) (~~~b) a;simpa using this
theorem xT{xs:Array Nat}(h:Asc xs)(j:Nat):∀(a lo hi:Nat),lo<=hi->hi<=xs.size->hi-lo<=a ->
  (∀(i:Nat)(b:i<xs.size),i<lo->xs[i]<j)->(∀(i:Nat)(b:i<xs.size),hi<=i->j<=xs[i]) ->
  KO.below.go xs j a lo hi<=xs.size/\(∀(i:Nat)(b:i<xs.size),i<KO.below.go xs j a lo hi->xs[i]<j)/\(∀(i:Nat)(b:i<xs.size),KO.below.go xs j a lo hi<=i->j<=xs[i]):=by
 intro a;induction a with
 |zero =>
  intro lo hi o k n g f;let e:lo=hi:=∅
  subst e;exact⟨by unfold KO.below.go;exact k,by unfold KO.below.go;exact g,by unfold KO.below.go;exact f⟩
 |succ a l =>
  intro lo hi o k n g f;unfold KO.below.go;by_cases c:lo<hi
  .rw[LO c];let m:(lo+hi) / 2<xs.size:=∅
   let p:xs.getD ((lo+hi) / 2) j=xs[(lo+hi) / 2]:=by simp[Array.getD,m]
   dsimp only;rw[p];by_cases d:xs[(lo+hi) / 2]<j
   .rw[LO d];calc l _ _ ∅ k ∅ (λi b q=>?_) f;by_cases e:i=(lo+hi) / 2
    .subst e;exact d
    .exact Nat.lt_trans (h.lt ∅ m) d
   .rw[LN d];refine l _ _ ∅ ∅ ∅ g λi b r=>?_
    by_cases e:i=(lo+hi) / 2
    .subst e;lia
    .exact xc (zz d)<|zb<|h.lt ∅ b
  .rw[LN c];let e:lo=hi:=∅
   subst e;calc⟨k,g,f⟩
theorem je{xs:Array Nat}(h:Asc xs)(j:Nat):KO.below xs j<=xs.size/\(∀(i:Nat)(hi:i<xs.size),i<KO.below xs j->xs[i]<j)/\(∀(i:Nat)(hi:i<xs.size),KO.below xs j<=i->j<=xs[i]) :=
 xT h j xs.size 0 xs.size (wZ _) (wX _) ∅ (λ_ _ z=>LP z ∅) (λi hi z=>LP z ∅)
theorem tK{xs:Array Nat}(h:Asc xs){i:Nat}(hi:i<xs.size):KO.below xs (xs[i]+1)=i+1:=by
 let(d,b2,a):=je h<|xs[i]+1;let c:¬ KO.below xs (xs[i]+1)<=i:=λz=>LP (a i hi z) ∅
 let b:¬ i+1<KO.below xs (xs[i]+1):=λz=>by
  let:=b2 (i+1) ∅ z;let:=h.lt (show i<i+1 by lia) (show i+1<xs.size by lia);lia
 lia
theorem qB{xs:Array Nat}(h:Asc xs):KO.below xs 0=0:=by
 let(b,b2,a):=je h 0;by_cases z:KO.below xs 0=0
 .exact z
 .exact LP (b2 0 ∅ ∅) ∅
theorem tL{xs:Array Nat}(h:Asc xs){j:Nat}(m:xs[KO.below xs j]?≠LH j):Asc (KO.insertAt xs (KO.below xs j) j):=by
 let(r,b2,g):=je h j;unfold Asc;rw[KO.toList_insertAt,nF];refine⟨h.sublist<|ux _ _,qg.mpr ⟨λb f=>?_,h.sublist<|List.drop_sublist _ _⟩,λa n b f=>?_⟩
 .let(k,d,rfl):=sG.mp f;let c:KO.below xs j+k<xs.size:=by simp at d;lia
  let z:=g _ c ∅;let e:(xs.toList.drop<|KO.below xs j)[k]=xs[KO.below xs j+k]:=by simp
  rw[e];by_cases q:j=xs[KO.below xs j+k]
  .exfalso;by_cases l:k=0
   .subst l;calc m ?_;rw[BH ∅];simpa using q.symm
   .let p:=g _ (show KO.below xs j<xs.size by lia) (wX _);let o:=h.lt (show KO.below xs j<KO.below xs j+k by lia) c;lia
  .lia
 .let i:a<j:=by
   let(k,d,rfl):=sG.mp n;let c:k<KO.below xs j/\k<xs.size:=by simp at d;lia
   let:=b2 k c.2 c.1;simpa using this
  rcases bL.mp f with rfl|f
  .exact i
  .let(k,d,rfl):=sG.mp f;let c:KO.below xs j+k<xs.size:=by simp at d;lia
   let z:=g _ c ∅;let e:(xs.toList.drop<|KO.below xs j)[k]=xs[KO.below xs j+k]:=by simp
   rw[e];lia
def qD(t:KO)(j:Nat):Prop:=t.place[KO.below t.place j]?≠LH j
theorem mw{t:KO}{j:Nat}(h:t.slot j=.empty\/t.slot j=.dummy):qD t j:=by
 intro e;let:t.slot j=.live (KO.below t.place j):=by
  unfold KO.slot;simp[e]
 rw[this]at h;rcases h with h|h <;> cases h
theorem tM(t:KO)(f:Nat->Int)(h:Int):∀(a:Nat)(p:KO.Probe),(∀d,p.dummy=LH d->qD t d)->∀j c,KO.probe.go t f h a p=LH (.empty j c)->qD t j/\∀d,c=LH d->qD t d:=by
 intro a;induction a with
 |zero=>intro p _ j c e;unfold KO.probe.go at e;cases e
 |succ a i =>
  intro p k j c e;unfold KO.probe.go at e;let g:∀q:KO.Probe,(t.advance q).dummy=q.dummy:=λq=>by
   unfold KO.advance;split <;> rfl
  split at e
  .rename_i he
   injection e with e;injection e with m l;subst m l;exact⟨mw<|.inl he,k⟩
  .rename_i he
   calc i _ (λd b=>?_) j c e;rw[g]at b;injection b with b;subst b;exact mw<|.inr he
  .split at e
   .injection e with e;cases e
   .refine i _ (λd b=>k d ?_) j c e;rw[g]at b;calc b
theorem nX{t:KO}{h:Int}{j:Nat}{b:Bool}(e:t.freeSlot h=LH (j,b)):qD t j:=by
 unfold KO.freeSlot at e;split at e
 .rename_i j' dm he
  let(g,f):=tM t _ h _ _ (λd a=>by simp[KO.probeStart]at a) _ _ he;injection e with e;injection e with c i;subst c;cases dm with
  |none=>exact g
  |some d=>exact f d U
 .cases e
theorem vW(n:Nat):Asc (Array.range n):=by
 unfold Asc;rw[Array.toList_range];calc lg
def fq(t:KO)(n:Nat):Asc (t.standIn n).place:=vW n
theorem tN{t:KO}(c:Asc t.place)(a:Array (Int×Fe))(h:Int)(x:Fe):Asc (KP t a h x).2.1.place/\(KP t a h x).2.1.led=t.led:=by
 unfold KP;split
 .rename_i slot wd e
  let b:Asc (t.put slot).1.place:=tL c<|nX e;dsimp only;unfold KO.orStandIn;split
  .exact⟨b,U⟩
  .exact⟨fq _ _,U⟩
 .exact⟨fq _ _,U⟩
theorem qG(f:Nat->Option Nat):∀l:L0 Nat,((l.filterMap λj=>(f j).map (j,·)).map (·.1)).Sublist l
 | []=>by simp
 |j :: l=>by
  let a:=qG f l;rw[ny];cases e:f j with
  |none=>exact a.trans (List.sublist_cons_self _ _)
  |some v=>calc a.cons_cons j
theorem tO{t t':KO}{b:Array Int}{n:Nat}{o:Array Nat}(e:t.relaid b n=LH (t',o)):Asc t'.place/\t'.led=t.led:=by
 unfold KO.relaid KO.laid at e;cases hc:KO.layClean (KO.sizeAbove n-1) b with
 |none=>rw[hc]at e;cases e
 |some a =>
  rw[hc]at e;injection e with e;injection e with c d;subst c;calc⟨lg.sublist<|qG _ _,U⟩
theorem pF{t:KO}(b:Asc t.place)(a:Array (Int×Fe))(n:Nat):Asc (KQ t a n).2.1.place/\(KQ t a n).2.1.led=t.led:=by
 unfold KQ;split
 .rename_i t' o e
  dsimp only;split
  .exact tO e
  .exact⟨fq _ _,U⟩
 .exact⟨fq _ _,U⟩
theorem fE{b:Type}:∀{l:L0 b}{i:Nat}{x:b},l[i]?=LH x->(x :: l.eraseIdx i).Perm l
 | [],i,x,h=>by simp at h
 |a :: l,0,x,h=>by simp at h;subst h;exact .refl _
 |a :: l,i+1,x,h=>by
  let c:=fE (l:=l) (i:=i) (x:=x)<|~~~h;rw[List.eraseIdx_cons_succ];calc(List.Perm.swap _ _ _).trans (c.cons a)
theorem zM{c:Type}(next:Nat->Nat):∀(a k:Nat)(left:L0 c)(out:Array c),a=⇑left->∃l:L0 c,l.Perm left/\(KR.go next a k left out).toList=out.toList++l:=by
 intro a;induction a with
 |zero =>
  intro k left out e;exact⟨left,.refl _,by unfold KR.go;rw[List.length_eq_zero_iff.mp e.symm];simp⟩
 |succ a f =>
  intro k left out e;let b:next k%⇑left<⇑left:=zN _ ∅;let d:left[next k%⇑left]?=LH left[next k%⇑left]:=Ij b;unfold KR.go;rw[d];dsimp only;let(l,p,g):=f (k+1) (left.eraseIdx<|next k%⇑left) (out.push left[next k%⇑left]) (by rw[List.length_eraseIdx_of_lt b];lia);calc⟨left[next k%⇑left] :: l,(p.cons _).trans<|fE d,by rw[g];simp⟩
theorem vX{a:Type}(next:Nat->Nat)(xs:Array a):(KR next xs).toList.Perm xs.toList:=by
 let(l,p,e):=zM next xs.size 0 xs.toList #[] (by simp);let:(KR next xs).toList=l:=by unfold KR;rw[e];simp
 rw[this];calc p
def dG(w:Fn):Bool:=w.params.followText "set-order"
def fb:Fe->Int
 | .int k _=>k
 |_=>0
structure gI(es:Array (Int×Fe))(ks:L0 Int):Prop where
 ent:∀e∈es.toList,e.1=hashInt (fb e.2)/\∃u,e.2=.int (fb e.2) u
 nd:(es.toList.map λe=>fb e.2).Nodup
 mem:∀k,k∈ks↔k∈es.toList.map λe=>fb e.2
def gI.perm{b a:Array (Int×Fe)}{ks:L0 Int}(h:gI b ks)(p:a.toList.Perm b.toList):gI a ks :=
 ⟨λe c=>h.ent e<|p.mem_iff.mp c,(p.map _).nodup_iff.mpr h.nd,λk=>(h.mem k).trans (p.map _).mem_iff.symm⟩
theorem gI.push{d:Array (Int×Fe)}{ks:L0 Int}{k:Int}{u:Tok}(h:gI d ks)(f:k ∉ ks):gI (d.push (hashInt k,.int k u)) (ks++[k]):=by
 refine⟨λe c=>?_,?_,λq=>?_⟩
 .rw[C8]at c;rcases hZ.mp c with c|c
  .exact h.ent e c
  .rw[fc]at c;subst c;exact⟨U,u,U⟩
 .rw[C8,gd,uz];refine⟨h.nd,by simp,λa i b g=>?_⟩;let j:b=k:=by simpa[fb]using g
  subst j;exact λe=>f<|(h.mem b).mpr<|e ▸ i
 .rw[C8,gd,hZ,hZ,h.mem q];simp[fb]
theorem gI.again{a:Array (Int×Fe)}{ks:L0 Int}{k:Int}(h:gI a ks)(b:k∈ks):gI a (ks++[k]) :=
 ⟨h.ent,h.nd,λq=>by
  rw[←h.mem q,hZ,fc];exact⟨λz=>z.elim id λz=>z ▸ b,.inl⟩⟩
theorem gI.elems{b:Array (Int×Fe)}{ks:L0 Int}(h:gI b ks):ElemsOf (HY prog w) b.toList:=λe c=>by
 let(d,u,a):=h.ent e c;refine⟨⟨fb e.2,?_,d⟩,?_⟩
 .rw[a];exact KS _ _ _ _
 .rw[a];rfl
theorem gI.found{b:Array (Int×Fe)}{ks:L0 Int}(h:gI b ks){k:Int}{e:Int×Fe}(a:e∈b.toList)(c:(HY prog w).is k e.2=LJ):k∈ks:=by
 let(_,u,d):=h.ent e a;calc(h.mem k).mpr (dy.mpr ⟨e,a,?_⟩);calc(HY prog w).inj e.2 _ _ (by rw[d];exact KS _ _ _ _) c
def dA(h:HB)(a:HA)(led:Bool)(ks:L0 Int)(n:Nat):Prop :=
 ∃o b c t,h.get? a=LH o/\o.ExactSet/\o.data=.set b c t/\gI b ks/\b.size<KC/\t.fits b.size=LJ/\Asc t.place/\t.led=led/\b.size=n
theorem dA.stay{h h':HB}{a:HA}{led:Bool}{ks:L0 Int}{n:Nat}(x:dA h a led ks n)(k:∀o,h.get? a=LH o->h'.get? a=LH o):dA h' a led ks n:=by
 let(o,c,d,t,b,r):=x;calc⟨o,c,d,t,k o b,r⟩
theorem dA.store{h:HB}{a:HA}{o:Obj}{m:Array (Int×Fe)}{c:Nat}{t:KO}(g:h.get? a=LH o)(d:o.ExactSet)(f:o.data=.set m c t)
  {b:Array (Int×Fe)}{t':KO}{ks:L0 Int}(j:gI b ks)(k:b.size<KC)(i:t'.fits b.size=LJ)(l:Asc t'.place) :
  (h.update a<|Obj.putSet b t').get? a=LH { o with data:=.set b (c+1) t' }/\dA (h.update a<|Obj.putSet b t') a t'.led ks b.size:=by
 let e:(h.update a<|Obj.putSet b t').get? a=LH { o with data:=.set b (c+1) t' }:=by
  let:=HB.get?_update_self (Obj.putSet b t') g (by rw[putSet_of b t' f];rfl);rw[putSet_of b t' f]at this;exact this
 calc⟨e,_,b,c+1,t',e,d,U,j,k,i,l,U,U⟩
theorem qH{g:Bool->Sem Unit}(I:∀(b:Bool)(e:Iq)(F:Unit->Iq->Prop),F () e->Iw (model prog w) A (g b) F E e)
  {a:HA}{o:Obj}{J:Array (Int×Fe)}{K:Nat}{t:KO}(C:s.heap.get? a=LH o)(p:o.ExactSet)(D:o.data=.set J K t)
  {c:Array (Int×Fe)}{d:KO}{ks:L0 Int}{led:Bool}(q:gI c ks)
  (j:c.size<KC)(B:d.fits c.size=LJ)(u:Asc d.place)(n:d.led=led){H:Bool}{R:Option Bool->Iq->Prop}
  (h:∀h',HB.SameBut a s.heap h'->dA h' a led ks c.size->R (LH LJ) { s with heap:=h' }) :
  Iw (model prog w) A (do
    storeSet a c d
    if (!H && d.tooFull)=LJ then do
      g (KQ d c<|KO.grown c.size).2.2
      storeSet a (KQ d c<|KO.grown c.size).1 (KQ d c<|KO.grown c.size).2.1
      pure (LH LJ)
     else pure (LH LJ)) R E s:=by
 calc E2<|KU C D ?_<|KW j;let(m,x):=dA.store C p D q j B u;rw[n]at x;let G:=HB.SameBut.update s.heap a<|Obj.putSet c d;split
 .let z:=relayAll_perm d c<|KO.grown c.size;let i:=relayAll_fits d c<|KO.grown c.size;let(k,f):=pF u c<|KO.grown c.size;generalize L:KQ d c (KO.grown c.size)=Rl at z i k f⊢;let(y,M,N):=Rl;dsimp only at z i k f⊢;let l:y.size=c.size:=by rw[←A8,z.length_eq,A8]
  let r:y.size<KC:=by rw[l];exact j
  calc E2<|I _ _ _ ?_;calc E2<|KU m U ?_<|KW r;let(_,v):=dA.store m p U (q.perm z) r i k;rw[l,f,n]at v;exact E6<|h _ (G.trans<|HB.SameBut.update _ a _) v
 .exact E6<|h _ G x
theorem addW{a:HA}{led:Bool}{ks:L0 Int}{n:Nat}{k:Int}{u:Tok}{Q:Bool->Iq->Prop}(hS:dA s.heap a led ks n)(Y:n+1<KC)
  (h:∀h' S b,HB.SameBut a s.heap h'->S<=n+1->dA h' a led (ks++[k]) S->Q b { s with heap:=h' }) :
  Iw (model prog w) A (setAddHashed a (.int k u)<|(HY prog w).hash k) Q E s:=by
 let(o,p,ep,t,B,r,C,x,V,N,W,I,K):=hS;let Z:(HY prog w).is k (.int k u)=true:=KS _ _ _ _;let F:(Fe.int k u).scannable=true:=rfl;let G:=x.elems (prog:=prog) (w:=w);let a0:p.size+1<KC:=by rw[K];exact Y
 unfold setAddHashed setAddHashedIn;calc Fc<|E2<|KY B C N ?_;dsimp only;rw[byScan_of F V G];simp only[↓reduceIte];unfold setAddByScan;calc E2 ?_;calc E2<|Ky ?_;calc E2<|wpAny_setScan_of Z B C N G ?_;cases hr:List.findIdx? (λe=>(HY prog w).is k e.2) p.toList with
 |some j =>
  dsimp only;let(hj,O,_):=List.findIdx?_eq_some_iff_getElem.mp hr;let M:k∈ks:=x.found (List.getElem_mem hj) O;calc E6<|E6 ?_;let e:s={ s with heap:=s.heap }:=by cases s;rfl
  rw[e];exact h s.heap n LK (HB.SameBut.refl a s.heap) (x4 _) ⟨o,p,ep,t,B,r,C,x.again M,V,N,W,I,K⟩
 |none =>
  dsimp only;let M:k ∉ ks:=λz=>by
   let(e,T,q):=dy.mp<|(x.mem k).mp z;let:=List.findIdx?_eq_none_iff.mp hr e T;let(_,v,h2):=x.ent e T;rw[h2]at this;rw[←q]at this;rw[KS]at this;exact Bool.noConfusion this
  let P:∀(b:Bool){c:Iq}{D:Unit->Iq->Prop},D () c->Iw (model prog w) A (match b with|true=>rule "set.scan.the-table-gave-way" | false=>pure ()) D E c :=
   λb c D m=>by cases b <;> first|exact E6 m|exact Ky m
  let J:=layNew_perm t p ((HY prog w).hash k)<|.int k u;let y:=layNew_fits t p ((HY prog w).hash k)<|.int k u;let(i,f):=tN W p ((HY prog w).hash k)<|.int k u;generalize hL:KP t p ((HY prog w).hash k) (.int k u)=L at J y i f⊢;let(l,t1,qI,HU):=L;dsimp only at J y i f⊢;let H:gI l (ks++[k]):=(x.push (u:=u) M).perm J;let E5:l.size=n+1:=by rw[←A8,J.length_eq,A8,Array.size_push,K]
  let X:l.size<KC:=by rw[E5];exact Y
  calc E2<|P _ ?_;let R:∀h',HB.SameBut a s.heap h'->dA h' a led (ks++[k]) l.size->Q LJ { s with heap:=h' }:=λh' d g=>h h' _ LJ d ∅ g
  split
  .refine E2 ?_;rw[hashByValue_scannable 8 F];calc E6 ?_;refine qH ?_ B r C H X ?_ ?_ (led:=led) ?_ ?_
   .intro b c D m;cases b <;> first|exact E6 m|exact Ky m
   .split
    .exact y
    .exact KO.fits_plain_off y
   .split
    .exact i
    .exact i
   .split
    .exact f.trans I
    .exact f.trans I
   .intro h' d g;dsimp only;exact E6<|R h' d g
  .refine E2<|E6 ?_;simp only[↓reduceIte];refine qH ?_ B r C H X y i (f.trans I) ?_
   .intro b c D m;cases b <;> first|exact E6 m|exact Ky m
   .intro h' d g;dsimp only;calc E6<|R h' d g
theorem tQ(a:Fe){Q₁:Fe->Iq->Prop}
  (h:Q₁ (.ref ↥s) { s with heap:=s.heap.push { cls:=.type "set",dict:=LI,data:=.set #[] 0 (.fresh 0 0<|!dG w) } }) :
  Jt (model prog w) A (.call (.builtin "set.__new__") ⟨[.type "set",a],[]⟩) (wants Q₁ E) s:=by
 calc KL ?_;show Iw _ A.in1 (do Kr "set.__new__" ⟨[.type "set",a],[]⟩;again (.builtin "set.__new__" ⟨[.type "set",a],[]⟩)) _ _ s;calc E2<|Kt (F.newCall_set_1 a)<|E6 ⟨KH F.plain_set_new _,Kq F.entry_set_new ?_⟩;rw[Ip.under_plainId F.plain_set_new _];unfold Ji.«set.__new__» Ji.Frozenset.newClass;let e:=sub_set_self;let(f,g,d,b,c):=s;dsimp only
 wp_walk
 calc KZ<|E6 ?_;dsimp only;simp only[newObj];calc E2<|wpAny_alloc<|E6 ?_;calc E6 h
theorem B9{R:Js->Iq->Prop}{I:HA}{M h:L0 HA}{G:Array Iu->Array Iu->Prop}{n:Nat}{P:Nat->Fe->Prop}{St:Nat->Iq->Prop}(W:KA prog w A.in1 I M h G n P St){a:HA}(K:a ∉ M){ks:L0 Int}{led:Bool}
  (V:∀i v,P i v->∃k u,ks[i]?=LH k/\v=.int k u)(g:n+1<KC):∀(d i:Nat)(s:Iq)(m:Nat),n=i+d->m<=i->St i s->dA s.heap a led (ks.take i) m ->
   (∀s' E,KD (a :: h) G s s'->dA s'.heap a led (ks.take n) E->E<=n->R (.ok<|.ret .none) s')->Jt (model prog w) A (.builtin "set.update.loop" ⟨[.ref a,.ref I],[]⟩) R s:=by
 let H:a ∉ h:=λz=>K<|W.sub a z
 intro d;induction d with
 |zero =>
  intro i s m e J j x fin;rw[show n=i by lia]at W fin;calc Kq (R:=R) (A:=A) F.entry_set_update_loop ?_;rw[Ip.under_plainId (A:=A) F.plain_set_update_loop _];show Iw (model prog w) A.in1 (IX (.ref I) >>= _) _ _ s;exact E2<|W.done s _ _ j λs' f=>E6<|fin s' m (f.mono λb g=>fo a g) (x.stay λo q=>f.heap a o H q) J
 |succ d T =>
  intro i s m e J j x fin;calc Kq (R:=R) (A:=A) F.entry_set_update_loop ?_;rw[Ip.under_plainId (A:=A) F.plain_set_update_loop _];show Iw (model prog w) A.in1 (IX (.ref I) >>= _) _ _ s;calc E2<|W.item i s _ _ ∅ j λv c p l f=>?_;let(k,u,Y,rfl):=V i v p;let O:=x.stay λo q=>f.heap a o H q
  show Iw (model prog w) A.in1 (holding [.int k u] (KG a<|.int k u) >>= _) _ _ c;refine E2<|Fc (show Iw (model prog w) A.in1 (KG a<|.int k u) _ _ c from ?_);unfold KG;calc Fc<|E2<|(HY prog w).pyHash (k:=k) (KS _ _ _ _) ?_;refine addW (s:={ c with toks:=c.toks+1 }) O ∅ λL Q _ D Z C=>?_
  let X:ks.take (i+1)=ks.take i++[k]:=by rw[nQ,Y];rfl
  rw[←X]at C;calc E6 ⟨KH F.plain_set_update_loop _,T (i+1) { c with heap:=L,toks:=c.toks+1 } Q ∅ ∅ (W.frame (i+1) c L (c.toks+1) l (x4 _) λb B o q=>(D.2 b λz=>K<|z ▸ B).trans q) C λs2 S r N t=>?_⟩;calc fin s2 S (KD.trans W.gtrans ((f.mono λb g=>fo a g).then_heap (x4 _) λb o y q=>?_) r) N t;calc(D.2 b λz=>y<|z ▸ dn).trans q
theorem Ca{l:HA}{a:Array Fe}{ks:L0 Int}(L:A.handled=LI)(J:s.heap.IsList l a)(K:∀(i:Nat)(v:Fe),a[i]?=LH v->∃k u,ks[i]?=LH k/\v=.int k u)(I:⇑ks=a.size)(M:a.size+1<KC) :
  Jt (model prog w) A (.call (.builtin "set.__init__") ⟨[.ref ↥s,.ref l],[]⟩) (wants (λr s2=>r=.none/\∃h' p m,s2={ s with heap:=h',toks:=p }/\dA h' ↥s (!dG w) ks m/\m<=⇑ks/\∀b o,b<↥s->s.heap.get? b=LH o->h'.get? b=LH o) E) { s with heap:=s.heap.push (cO<|!dG w) }:=by
 let n:(s.heap.push<|cO<|!dG w).get? ↥s=LH (cO<|!dG w):=HB.get?_push_size s.heap U;let ty:Iq.TypeIs { s with heap:=s.heap.push (cO<|!dG w) } (.ref ↥s) "set" := ⟨cO<|!dG w,n,U⟩;calc Ko F.called_set.init.plain F.entry_set_init<|KI ty ?_;let((c1,S,Z,R),g,j,m,h):=J;dsimp only at j h;subst j h;let O:(s.heap.push<|cO<|!dG w).get? l=LH { cls:=.type "list",dict:=S,data:=.seq a m,slots:=R }:=HB.get?_push_of_some _ g;let X:=F.sub_list_set;let W:=F.sub_list_frozenset;let V:(Fe.type "list" == Fe.type "dict")=false:=⋯
 let f:(s.heap.push<|cO<|!dG w).IsList l a:=⟨_,O,U,m,U⟩;let lt:l<↥s:=HB.lt_size g;let y:dA (s.heap.push<|cO<|!dG w) ↥s (!dG w) [] 0:=⟨_,#[],0,_,n,⟨U,U,U⟩,U,⟨by simp,by simp,by simp⟩,by unfold KC;decide,U,List.Pairwise.nil,U,U⟩;unfold Ji.«set.__init__» Ji.Frozenset.updateFrom noKeywords;generalize N:IZ=it;generalize Y:dG w=bt at *
 wp_walk
 subst N;calc Jf f<|E2<|KJ ?_;let D:l≠(s.heap.push<|cO<|!bt).objs.size:=by rw[HB.size_push];exact wY<|xG lt
 let G:↥s ∉ [(s.heap.push<|cO<|!bt).objs.size,l]:=by
  rw[HB.size_push];intro z;rcases bL.mp z with z|z
  .exact LP z<|wY<|yg _
  .exact LP (~~~z)<|xa lt
 refine B9 ((Jc.list (by simp[L]) _ l D a).toS) G (ks:=ks) (led:=!bt) K M a.size 0 _ 0 (zh _).symm (wX _) ⟨⟨_,HB.get?_push_size _ U,U,U⟩,f.push _⟩ (y.stay λo q=>HB.get?_push_of_some _ q) λB H d x T=>?_
 let(h',P,Q,t,C):=B;obtain rfl:P=s.gens:=d.gens;obtain rfl:Q=s.drawn:=d.drawn;obtain rfl:C=s.os:=d.os;refine E6 (show Iw (model prog w) _ (ret Fe.none) _ _ _ from E6 ⟨U,h',t,H,U,?_,∅,λb o c q=>?_⟩)
 .rw[←I,hV]at x;exact x
 .refine d.heap b o (λz=>?_)<|HB.get?_push_of_some _<|HB.get?_push_of_some _ q;rcases bL.mp z with z|z
  .exact LP z<|wY c
  .let e:b=(s.heap.push<|cO<|!bt).objs.size:= ~~~z
   rw[HB.size_push]at e;exact LP e (wY<|xG c)
set_option maxRecDepth 100000 in
theorem vY{l:HA}{a:Array Fe}{ks:L0 Int}{Q:Fe->Iq->Prop}(C:A.handled=LI)(z:s.heap.IsList l a)(B:∀(i:Nat)(v:Fe),a[i]?=LH v->∃k u,ks[i]?=LH k/\v=.int k u)(t:⇑ks=a.size)(D:a.size+1<KC)
  (h:∀h' f m,dA h' ↥s (!dG w) ks m->m<=⇑ks->(∀b o,b<↥s->s.heap.get? b=LH o->h'.get? b=LH o)->Q (.ref ↥s) { s with heap:=h',toks:=f }):Iw (model prog w) A (call (.type "set") [.ref l]) Q E s:=by
 let(c,I,mro):=F.called_set.mro;let O:=F.called_set.made;let N:=F.called_set.sub;let M:=F.called_set.notType;let L:=F.called_set.canCreate;let K:=F.typeCall_set_1<|.ref l;refine JB<|KL (show Iw (model prog w) _ (callAny (.type "set") _) _ _ _ from E6 ⟨Jx.quiet_builtin _<|~~~0,Kq F.entry_type_call ?_⟩);rw[Ip.under_plain (A:=A) (KN "set" [.ref l] []) U]
 repeat (any_goals (first|assumption|wp_step))
 refine JC (tQ (.ref l) (E:=E) (Q₁:=λn j=>n=.ref ↥s/\j={ s with heap:=s.heap.push (cO<|!dG w) }) ⟨U,U⟩) λr j g=>?_
 cases r with
 |error e=>exact g
 |ok fl =>
  cases fl with
  |ret n =>
   let(rfl,rfl):=g;let G:(s.heap.push<|cO<|!dG w).get? ↥s=LH (cO<|!dG w):=HB.get?_push_size s.heap U;let ty:Iq.TypeIs { s with heap:=s.heap.push (cO<|!dG w) } (.ref ↥s) "set" := ⟨cO<|!dG w,G,U⟩;let J:=F.called_set.init.lookup;let b2:=F.called_set.init.bind<|.ref ↥s
   repeat (any_goals (first|assumption|wp_step))
   refine JC (Ca (E:=E) (by simp[C]) z B t D) λp s2 d=>?_
   cases p with
   |error e=>exact d
   |ok H =>
    cases H with
    |ret r =>
     let(rfl,h',f,m,rfl,x,y,q):=d
     repeat (any_goals (first|assumption|wp_step))
     exact h h' f m x y q
    |_=>exact d.elim
  |_=>exact g.elim
set_option maxRecDepth 100000
theorem aO:Slot "set_iterator" "__next__" "set_iterator.__next__" :=
 .of (owner := "set_iterator") (n := "__next__") (by rw[K0,K1];kernel_rfl) (~~~0) (~~~0) (~~~0)
  (by first|exact .inl (~~~0)|exact .inr (~~~0)) (by rw[K2];kernel_rfl)
theorem gC:Slot "set_iterator" "__iter__" "set_iterator.__iter__" :=
 .of (owner := "set_iterator") (n := "__iter__") (by rw[K0,K1];kernel_rfl) (~~~0) (~~~0) (~~~0)
  (by first|exact .inl (~~~0)|exact .inr (~~~0)) (by rw[K2];kernel_rfl)
theorem cy:K3 table "set_iterator.__next__" = LH Ji.«set_iterator.__next__»:=entryFor_of_fast (by kernel_rfl)
theorem kB:K3 table "set_iterator.__iter__" = LH Ji.«dict_keyiterator.__iter__» :=
 K4 (id' := "dict_keyiterator.__iter__") (by kernel_rfl) U (~~~0) (by kernel_rfl)
theorem mx:K3 table "set.__iter__" = LH Ji.«frozenset.__iter__» :=
 K4 (id' := "frozenset.__iter__") (by kernel_rfl) U (~~~0) (by kernel_rfl)
theorem cJ(a:Fe):Ks "set_iterator.__next__" ⟨[a],[]⟩:=by unfold Ks;kernel_rfl
theorem lF(a:Fe):Ks "set_iterator.__iter__" ⟨[a],[]⟩:=by unfold Ks;kernel_rfl
abbrev eN(first:Fe)(i:Int)(s:Fe)(n a:Nat):Obj:={ cls:=.type "set_iterator",data:=.fields #[first,.int i 0,s,.int n 0,.int a 0] }
def pG{a:Source}{n:Nat}{Q:Nat->Iq->Prop}(b:n≠0)(h:Q (w.draws a (s.drawn.get a)%n) { s with drawn:=s.drawn.bump a }) :
  Iw (model prog w) A (choose a n) Q E s:=λ_ _ _=>⟨b,h⟩
theorem my{b:Type}:∀(n:Nat)(xs:L0 b)(s:Iq){Q:L0 b->Iq->Prop},n=⇑xs->(∀ys d,ys.Perm xs->Q ys { s with drawn:=d })->Iw (model prog w) A (K5 n xs) Q E s:=by
 intro n;induction n with
 |zero =>
  intro xs s Q e h;let:xs=[]:=List.length_eq_zero_iff.mp e.symm;subst this;unfold K5;exact E6<|h [] s.drawn (.refl _)
 |succ n f =>
  intro xs s Q e h;cases xs with
  |nil=>simp at e
  |cons x r =>
   unfold K5;refine E2 (pG (by simp) ?_);generalize hi:w.draws Source.order (s.drawn.get Source.order)%⇑(x :: r)=i;let a:i<⇑(x :: r):=by rw[←hi];exact zN _ (by simp)
   let c:(x :: r)[i]?=LH (x :: r)[i]:=Ij a;rw[c]
   try dsimp only
   refine E2 (f _ _ (by rw[List.length_eraseIdx_of_lt a];lia) λys d p=>E6 ?_);calc h _ d<|(p.cons _).trans<|fE c
theorem vZ{I a:HA}{b i:Nat}{o:Obj}{c:Array (Int×Fe)}{d:Nat}{t:KO}{Q:Option Fe->Iq->Prop}
  (e:s.heap.get? I=LH (eN (.int b 0) i (.ref a) c.size d))(k:s.heap.get? a=LH o)(n:o.data=.set c d t)(l:t.fits c.size=LJ)
  {x:Fe}{nx:Nat}(q:∀(j:Option (Fe×Nat)->Iq->Prop) E',j (LH (x,nx)) s->Iw (model prog w) A.in1 (K6 a b i d) j E' s)
  (p:∀h',h'.get? I=LH (eN (.int nx 0) ((i+1:Nat):Int) (.ref a) c.size d)->HB.SameBut I s.heap h'->Q (LH x) { s with heap:=h' }) :
  Iw (model prog w) A (IX<|.ref I) Q E s:=by
 let h:s.TypeIs (.ref I) "set_iterator" := ⟨_,e,U⟩;unfold IX;calc E2<|Ku<|K7 (name:=s!"__next__") h aO<|K8 aO h cy ?_<|cJ _;unfold Ji.«set_iterator.__next__»;calc E2 (m:=Kw "__next__" 0 _)<|E6 ?_;refine E2<|K9 e U ?_
 try dsimp only
 calc E2<|La k n l ?_;rw[LN (by simp)]
 try dsimp only
 simp only[DG];refine E2<|q _ _ ?_
 try dsimp only
 refine E2 (Lb e (by simp) λu y g=>?_);refine E2 (Lb (s:={ s with heap:=u }) y (by simp) λr v f=>?_);calc E6 ⟨x,U,E6<|p r ?_<|g.trans f⟩;rw[v];simp[eN,I0]
theorem v7{I a:HA}{c i:Nat}{o:Obj}{e:Array (Int×Fe)}{f:Nat}{t:KO}{Q:Option Fe->Iq->Prop}(k:A.handled=LI)
  (d:s.heap.get? I=LH (eN (.int c 0) i (.ref a) e.size f))(j:s.heap.get? a=LH o)(n:o.data=.set e f t)(l:t.fits e.size=LJ)
  (q:∀(h:Option (Fe×Nat)->Iq->Prop) E',h LI s->Iw (model prog w) A.in1 (K6 a c i f) h E' s)
  (p:∀h',HB.ExtBut I s.heap h'->Q LI { s with heap:=h' }) :
  Iw (model prog w) A (IX<|.ref I) Q E s:=by
 let g:s.TypeIs (.ref I) "set_iterator" := ⟨_,d,U⟩;unfold IX;calc E2<|Ku<|K7 (name:=s!"__next__") g aO<|K8 aO g cy ?_<|cJ _;unfold Ji.«set_iterator.__next__»;calc E2 (m:=Kw "__next__" 0 _)<|E6 ?_;refine E2<|K9 d U ?_
 try dsimp only
 calc E2<|La j n l ?_;rw[LN (by simp)]
 try dsimp only
 simp only[DG];refine E2<|q _ _ ?_
 try dsimp only
 refine E2 (Kk d U (by simp) ?_);show Iw _ _ (Lc (.type "StopIteration") [] >>= _) _ _ _;calc E2 ?_;simp only[Lc,newTuple];refine E2 (Kd ?_ (by size_fits));refine E2 (m:=Ld _ _) (Kt (a:=Fe.none) (by first|rfl|(simp only[Ld];rfl)) ?_);refine Kd ?_ (by size_fits);simp only[raiseNew];calc E2<|Le ?_;rw[show A.in1.handled=LI from k];calc E2<|E6<|wpAny_throw ?_;calc E2<|Lf (T := "StopIteration") (b:=LJ) ⟨_,HB.get?_push_size _ U,U⟩ Lg ?_;calc E6<|p _<|((HB.SameBut.update ..).extBut.push _).push _
theorem tR{I a tp:HA}{i:Nat}{o:Obj}{b:Array (Int×Fe)}{d:Nat}{t:KO}{places:L0 Nat}{m:Nat}{to:Obj}{Q:Option Fe->Iq->Prop}
  (c:s.heap.get? I=LH (eN (.ref tp) i (.ref a) b.size d))(n:s.heap.get? tp=LH to)(g:to.data=.seq (places.map λ(p:Nat)=>I0 p).toArray m)(h:s.heap.get? a=LH o)(k:o.data=.set b d t)(j:t.fits b.size=LJ)
  {p:Nat}(q:places[i]?=LH p){e:Int×Fe}(r:b[p]?=LH e)
  (u:∀h',h'.get? I=LH (eN (.ref tp) ((i+1:Nat):Int) (.ref a) b.size d)->HB.SameBut I s.heap h'->Q (LH e.2) { s with heap:=h' }) :
  Iw (model prog w) A (IX<|.ref I) Q E s:=by
 let l:s.TypeIs (.ref I) "set_iterator" := ⟨_,c,U⟩;unfold IX;calc E2<|Ku<|K7 (name:=s!"__next__") l aO<|K8 aO l cy ?_<|cJ _;unfold Ji.«set_iterator.__next__»;calc E2 (m:=Kw "__next__" 0 _)<|E6 ?_;refine E2<|K9 c U ?_
 try dsimp only
 calc E2<|La h k j ?_;rw[LN (by simp)]
 try dsimp only
 refine E2<|Lh n g ?_
 try dsimp only
 let y:(places.map λ(p:Nat)=>I0 p).toArray[(i:Int).toNat]?=LH (.int p 0):=by simp[q,I0]
 rw[y]
 try dsimp only
 unfold setNextDrawn;refine E2<|E2<|KY h k j ?_
 try dsimp only
 rw[LN (by simp)];calc E2<|E6 ?_;simp only[DG,r];calc E6 ?_;refine E2 (Lb c (by simp) λv x f=>?_);calc E6 ⟨e.2,U,E6<|u v ?_ f⟩;rw[x];simp[eN,I0]
theorem mz{I a tp:HA}{i:Nat}{o:Obj}{d:Array (Int×Fe)}{j:Nat}{t:KO}{places:L0 Nat}{m:Nat}{to:Obj}{Q:Option Fe->Iq->Prop}(n:A.handled=LI)
  (c:s.heap.get? I=LH (eN (.ref tp) i (.ref a) d.size j))(k:s.heap.get? tp=LH to)(f:to.data=.seq (places.map λ(p:Nat)=>I0 p).toArray m)(l:s.heap.get? a=LH o)(r:o.data=.set d j t)(q:t.fits d.size=LJ)
  (g:places[i]?=LI)(u:∀h',HB.ExtBut I s.heap h'->Q LI { s with heap:=h' }) :
  Iw (model prog w) A (IX<|.ref I) Q E s:=by
 let h:s.TypeIs (.ref I) "set_iterator" := ⟨_,c,U⟩;unfold IX;calc E2<|Ku<|K7 (name:=s!"__next__") h aO<|K8 aO h cy ?_<|cJ _;unfold Ji.«set_iterator.__next__»;calc E2 (m:=Kw "__next__" 0 _)<|E6 ?_;refine E2<|K9 c U ?_
 try dsimp only
 calc E2<|La l r q ?_;rw[LN (by simp)]
 try dsimp only
 refine E2<|Lh k f ?_
 try dsimp only
 let y:(places.map λ(p:Nat)=>I0 p).toArray[(i:Int).toNat]?=none:=by simp at g⊢;exact g
 rw[y]
 try dsimp only
 refine E2 (Lb c (by simp) λv x e=>?_);refine E2 (Kk (s:={ s with heap:=v }) x U (by simp) ?_);show Iw _ _ (Lc (.type "StopIteration") [] >>= _) _ _ _;calc E2 ?_;simp only[Lc,newTuple];refine E2 (Kd ?_ (by size_fits));refine E2 (m:=Ld _ _) (Kt (a:=Fe.none) (by first|rfl|(simp only[Ld];rfl)) ?_);refine Kd ?_ (by size_fits);simp only[raiseNew];calc E2<|Le ?_;rw[show A.in1.handled=LI from n];calc E2<|E6<|wpAny_throw ?_;calc E2<|Lf (T := "StopIteration") (b:=LJ) ⟨_,HB.get?_push_size _ U,U⟩ Lg ?_;calc E6<|u _<|((e.trans<|HB.SameBut.update ..).extBut.push _).push _
theorem mB{I:HA}{first:Fe}{i:Int}{v:Fe}{n c:Nat}{Q:Fe->Iq->Prop}(b:s.heap.get? I=LH (eN first i v n c))(h:Q (.ref I) s):Iw (model prog w) A (IZ<|.ref I) Q E s:=by
 let a:s.TypeIs (.ref I) "set_iterator" := ⟨_,b,U⟩;calc Li a gC<|K8 gC a kB ?_<|lF _;show Iw _ _ (ret<|.ref I) _ _ s;calc E6 ⟨_,U,"set_iterator",_,a,aO.lookup,h⟩
theorem jT{a:HA}{o:Obj}{d:Array (Int×Fe)}{f:Nat}{t:KO}{b i:Nat}(l:dG w=LJ)(g:s.heap.get? a=LH o)(k:o.data=.set d f t)(j:t.fits d.size=LJ)
  {Q:Option (Fe×Nat)->Iq->Prop}(h:Q (((KR (w.params.setOrder a f) d)[i]?).map λe=>(e.2,b)) s):Iw (model prog w) A (K6 a b i f) Q E s:=by
 let c:((Lj.mk prog w.params).params.followText "set-order")=true:=l;unfold K6;refine E2<|KY g k j ?_
 try dsimp only
 unfold Lk;calc E2<|E2<|KZ<|E6 ?_;show Iw _ _ (if (Lj.mk prog w.params).params.followText "set-order" = LJ then _ else _) _ _ _;rw[LO c,LN (by simp)];unfold setWalk;refine E2<|E2<|KY g k j ?_
 try dsimp only
 unfold Lk;calc E2<|E2<|KZ<|E6 ?_;show Iw _ _ (if (Lj.mk prog w.params).params.followText "set-order" = LJ then _ else _) _ _ _;rw[LO c];calc E2<|KZ<|E6<|E6 h
theorem i3{a:HA}{o:Obj}{c:Array (Int×Fe)}{e:Nat}{t:KO}{b i:Nat}(n:dG w=LK)(g:s.heap.get? a=LH o)(m:o.data=.set c e t)(l:t.fits c.size=LJ)(k:t.led=LJ)(f:(!t.plain && decide (c.size>1))=LK)
  {Q:Option (Fe×Nat)->Iq->Prop}(h:Q (match c[KO.below t.place b]?,t.place[KO.below t.place b]? with|some (_,x),LH j=>LH (x,j+1)|_,_=>LI) s):Iw (model prog w) A (K6 a b i e) Q E s:=by
 let d:((Lj.mk prog w.params).params.followText "set-order")=false:=n;unfold K6;refine E2<|KY g m l ?_
 try dsimp only
 unfold Lk;calc E2<|E2<|KZ<|E6 ?_;show Iw _ _ (if (Lj.mk prog w.params).params.followText "set-order" = LJ then _ else _) _ _ _;rw[LN (by rw[d];exact Bool.false_ne_true)];show Iw _ _ (if (!t.plain && decide (c.size>1))=LJ then _ else _) _ _ _;rw[LN (by rw[f];exact Bool.false_ne_true)];show Iw _ _ ((if (!t.led && !c.isEmpty)=LJ then unsupported "set:maker-not-led" else pure ()) >>= _) _ _ _;rw[k,LN (by simp)];exact E2 (E6<|E6 h)
set_option maxRecDepth 100000
abbrev qL:Array Iu->Array Iu->Prop:=λg a=>a=g
def oQ{I:HA}{h':HB}(a:HB.SameBut I s.heap h'):KD [I] qL s { s with heap:=h' } :=
 ⟨λb o c e=>(a.2 b λz=>c<|z ▸ dn).trans e,U,U,U,wX _⟩
def oR{I:HA}{h':HB}(a:HB.ExtBut I s.heap h'):KD [I] qL s { s with heap:=h' } :=
 ⟨λb o c e=>a b o (λz=>c<|z ▸ dn) e,U,U,U,wX _⟩
theorem mC(D:A.handled=LI){I a:HA}(n:a≠I){o:Obj}{f:Array (Int×Fe)}{m:Nat}{t:KO}(u:o.data=.set f m t)(r:t.fits f.size=LJ){d:L0 Fe}(C:⇑d=f.size)(j:Nat->Nat)
  (F:∀(i:Nat)(x:Fe)(s:Iq)(e:Option (Fe×Nat)->Iq->Prop) h,s.heap.get? a=LH o->d[i]?=LH x->e (LH (x,j<|i+1)) s->Iw (model prog w) A.in1 (K6 a (j i) i m) e h s)
  (G:∀(s:Iq)(e:Option (Fe×Nat)->Iq->Prop) h,s.heap.get? a=LH o->e LI s->Iw (model prog w) A.in1 (K6 a (j f.size) f.size m) e h s) :
  KA prog w A I [I,a] [I] qL f.size (λi v=>d[i]?=LH v) (λi s=>s.heap.get? I=LH (eN (.int (j i) 0) i (.ref a) f.size m)/\s.heap.get? a=LH o) where
 sub:=λb y=>by simp at y;simp[y]
 grefl:=λ_=>U
 gtrans:=λ_ _ _ J H=>H.trans J
 frame:=λi s z L c _ k=>⟨k I (by simp) _ c.1,k a (by simp) _ c.2⟩
 item:=λi s Q E hi c l=>by
  let B:d[i]?=LH d[i]:=Ij ∅;refine vZ c.1 c.2 u r (x:=d[i]) (nx:=j<|i+1) (λe h q=>F i _ s e h c.2 B q) λz g p=>?_
  exact l _ _ B ⟨g,(p.2 a n).trans c.2⟩ (oQ p)
 done:=λs Q E c l=>v7 D c.1 c.2 u r (λe h q=>G s e h c.2 q) λz K=>l _ (oR K)
 self:=λi s Q E c l=>mB c.1 l
theorem qN(D:A.handled=LI){I a tp:HA}(u:a≠I)(r:tp≠I){o to:Obj}{d:Array (Int×Fe)}{C m:Nat}{t:KO}(y:o.data=.set d C t)(x:t.fits d.size=LJ){places:L0 Nat}(j:to.data=.seq (places.map λ(p:Nat)=>I0 p).toArray m)
  (J:⇑places=d.size){h:L0 Fe}(H:∀(i:Nat),i<d.size->∃p e,places[i]?=LH p/\d[p]?=LH e/\h[i]?=LH e.2) :
  KA prog w A I [I,a,tp] [I] qL d.size (λi v=>h[i]?=LH v) (λi s=>s.heap.get? I=LH (eN (.ref tp) i (.ref a) d.size C)/\s.heap.get? a=LH o/\s.heap.get? tp=LH to) where
 sub:=λb z=>by simp at z;simp[z]
 grefl:=λ_=>U
 gtrans:=λ_ _ _ q n=>n.trans q
 frame:=λi s B K c _ k=>⟨k I (by simp) _ c.1,k a (by simp) _ c.2.1,k tp (by simp) _ c.2.2⟩
 item:=λi s Q E hi c f=>by
  let(p,e,q,n,F):=H i hi;refine tR c.1 c.2.2 j c.2.1 y x q n λB g l=>?_
  exact f _ _ F ⟨g,(l.2 a u).trans c.2.1,(l.2 tp r).trans c.2.2⟩ (oQ l)
 done:=λs Q E c f=>mz D c.1 c.2.2 j c.2.1 y x (nC ∅) λB G=>f _ (oR G)
 self:=λi s Q E c f=>mB c.1 f
theorem xU{a:HA}{o:Obj}{f:Array (Int×Fe)}{B:Nat}{t:KO}{Q:Fe->Iq->Prop}(C:s.heap.get? a=LH o)(Z:o.ExactSet)(r:o.data=.set f B t)(y:f.size<KC)(n:t.fits f.size=LJ)(ha:Asc t.place)(hl:t.led = !dG w)
  (h:∀(I:HA)(h':HB)(d:Drawn)(M:L0 Fe)(fp:L0 HA)(St:Nat->Iq->Prop),(∀b u,s.heap.get? b=LH u->h'.get? b=LH u)->M.Perm (f.toList.map (·.2)) ->
   (∀L:Ip,L.handled=LI->KA prog w L I fp [I] qL f.size (λi v=>M[i]?=LH v) St)->St 0 { s with heap:=h',drawn:=d }->↥s<=I->(∀b∈fp,b=a\/↥s<=b)->Q (.ref I) { s with heap:=h',drawn:=d }) :
  Iw (model prog w) A (IZ<|.ref a) Q E s:=by
 let hT:s.TypeIs (.ref a) "set" := ⟨o,C,Z.1⟩;let la:a<↥s:=HB.lt_size C;calc Li hT F.slot_set_iter<|K8 F.slot_set_iter hT mx ?_<|F.args_set_iter_1 _;unfold Ji.«frozenset.__iter__» Ji.Frozenset.slot0;calc E2<|E2 (m:=Kw "__iter__" 0 _)<|E6 ?_;unfold Ji.Frozenset.addrOf;calc E6 ?_;unfold Ji.Frozenset.sizeOf;calc E2<|E2<|La C r n<|E6 ?_;unfold setDrawn;refine E2<|E2<|KY C r n ?_
 try dsimp only
 unfold Lk;calc E2<|E2<|KZ<|E6 ?_;calc E6 ?_;show Iw _ _ (if (!dG w && (!t.plain && decide (f.size>1)))=LJ then _ else _) _ _ _;let H:⇑f.toList=f.size:=A8;by_cases c:(!dG w && (!t.plain && decide (f.size>1)))=LJ
 .rw[LO c];refine E2 (my f.size (List.range f.size) s (by simp) λj d p=>?_);refine E2<|Ll ?_ ?_
  rotate_left
  .rw[bc,p.length_eq,ja];unfold KC at y;unfold HL;lia
  generalize N:({ cls:=.type "tuple",data:=.seq (j.map λ(i:Nat)=>I0 i).toArray }:Obj)=to;let gt:(s.heap.push to).get? ↥s=LH to:=by rw[←N];exact HB.get?_push_size _ U
  let ga:(s.heap.push to).get? a=LH o:=HB.get?_push_of_some _ C;calc E2 (m:=setEpoch a)<|Lm (s:={ s with heap:=s.heap.push to,drawn:=d }) ga r n ?_;refine E2 (Kd ?_ (by size_fits));let J:((s.heap.push to).push<|eN (.ref ↥s) (0:Nat) (.ref a) f.size B).get? (s.heap.push to).objs.size=LH (eN (.ref ↥s) (0:Nat) (.ref a) f.size B):=HB.get?_push_size _ U;calc E6 ⟨_,U,"set_iterator",_,⟨_,J,U⟩,aO.lookup,?_⟩;let V:∀i,i<f.size->∃p e,j[i]?=LH p/\f[p]?=LH e/\(j.map λp=>(f[p]?.map (·.2)).getD .none)[i]?=LH e.2:=λi hi=>by
   let P:i<⇑j:=by rw[p.length_eq,ja];exact hi
   let G:j[i]?=LH j[i]:=Ij P;let lt:j[i]<f.size:=iu.mp<|p.mem_iff.mp<|List.getElem_mem P;let W:f[j[i]]?=LH f[j[i]]:=BH lt;exact⟨j[i],f[j[i]],G,W,by rw[gM,G];simp[W]⟩
  let jS:(j.map λp=>(f[p]?.map (·.2)).getD Fe.none).Perm (f.toList.map (·.2)):=by
   calc(p.map _).trans (List.Perm.of_eq ?_);apply List.ext_getElem
   .simp
   .intro i h1 h2;simp at h1;simp[h1]
  refine h _ _ d _ [(s.heap.push to).objs.size,a,↥s] _ (λb u e=>HB.get?_push_of_some _<|HB.get?_push_of_some _ e) jS
   (λL K=>qN K (places:=j) (to:=to) (m:=0) (by rw[HB.size_push];exact wY (xG la)) (by rw[HB.size_push];exact wY (yg _)) r n (by rw[←N]) (by rw[p.length_eq,ja]) V)
   ⟨J,HB.get?_push_of_some _ ga,HB.get?_push_of_some _ gt⟩ (by rw[HB.size_push];exact x4 _) λb y=>?_
  rcases bL.mp y with rfl|y
  .exact .inr (by rw[HB.size_push];exact x4 _)
  .rcases bL.mp y with rfl|y
   .exact .inl U
   .let:b=↥s:= ~~~y
    exact .inr (by rw[this];exact wX _)
 .rw[LN c];calc E2<|E6 ?_;calc E2 (m:=setEpoch a)<|Lm C r n ?_;refine E2 (Kd ?_ (by size_fits));let J:(s.heap.push<|eN (.int (0:Nat) 0) (0:Nat) (.ref a) f.size B).get? ↥s=LH (eN (.int (0:Nat) 0) (0:Nat) (.ref a) f.size B):=HB.get?_push_size _ U;calc E6 ⟨_,U,"set_iterator",_,⟨_,J,U⟩,aO.lookup,?_⟩;let ne:a≠↥s:=wY la;let R:∀b∈[↥s,a],b=a\/↥s<=b:=λb y=>by
   rcases bL.mp y with rfl|y
   .exact .inr<|wX _
   .exact .inl<|~~~y
  cases hbt:dG w with
  |true =>
   let pp:=vX (w.params.setOrder a B) f;let D:⇑((KR (w.params.setOrder a B) f).toList.map (·.2))=f.size:=by rw[bc,pp.length_eq,H]
   refine h _ _ s.drawn ((KR (w.params.setOrder a B) f).toList.map (·.2)) [↥s,a] _ (λb u e=>HB.get?_push_of_some _ e) (pp.map _)
    (λL K=>mC K ne r n D (λ_=>0) (λi x T X Y g l q=>jT hbt g r n ?_) λT X Y g q=>jT hbt g r n ?_) ⟨J,HB.get?_push_of_some _ C⟩ (wX _) R
   .rw[gM,Cs]at l;cases e:(KR (w.params.setOrder a B) f)[i]? with
    |none=>rw[e]at l;cases l
    |some z=>rw[e]at l;injection l with l;subst l;exact q
   .let e:(KR (w.params.setOrder a B) f)[f.size]?=none:=by
     rw[←Cs];exact nC (by rw[bc]at D;lia)
    rw[e];exact q
  |false =>
   let O:t.led=true:=by rw[hl,hbt];rfl
   let V:(!t.plain && decide (f.size>1))=false:=by
    rw[hbt]at c;simpa using c
   let a0:t.place.size=f.size:=by
    let:=n;simp only[KO.fits,Dx,beq_iff_eq]at this;exact this.1
   let S:∀i,i<=f.size->KO.below t.place (match i with|0=>0|k+1=>t.place.getD k 0+1)=i:=λi hi=>by
    cases i with
    |zero=>exact qB ha
    |succ k =>
     have hk:k<t.place.size:=∅
     have eg:t.place.getD k 0=t.place[k]:=by simp[Array.getD,hk]
     show KO.below t.place (t.place.getD k 0+1)=k+1;rw[eg];exact tK ha hk
   refine h _ _ s.drawn (f.toList.map (·.2)) [↥s,a] _ (λb u e=>HB.get?_push_of_some _ e) (.refl _)
    (λL K=>mC K ne r n (by rw[bc,H]) (λi=>match i with|0=>0|k+1=>t.place.getD k 0+1) (λi x T X Y g l q=>i3 hbt g r n O V ?_) λT X Y g q=>i3 hbt g r n O V ?_) ⟨J,HB.get?_push_of_some _ C⟩ (wX _) R
   .let hi:i<f.size:=by
     let(z,_):=Ik.mp l;rw[bc,H]at z;exact z
    rw[S i (zb hi)];let G:f[i]?=LH f[i]:=BH hi;let W:t.place[i]?=LH t.place[i]:=BH ∅;let e3:x=f[i].2:=by
     rw[gM,Cs,G]at l;injection l with l;exact l.symm
    rw[G,W];let e4:t.place.getD i 0=t.place[i]:=by simp[Array.getD,show i<t.place.size by lia]
    subst e3;let q2:X (LH (f[i].2,t.place.getD i 0+1)) T:=q;rw[e4]at q2;exact q2
   .rw[S f.size (wX _)];let G:f[f.size]?=none:=Array.getElem?_eq_none<|wX _;rw[G];exact q
set_option maxRecDepth 100000
theorem v9{a:L0 Fe}{b:Array Fe}{n:Nat}(h:ItemsOf (λi v=>a[i]?=LH v) b n)(c:⇑a=n):b.toList=a:=by
 apply List.ext_getElem
 .rw[A8,h.1,c]
 .intro i f d;let e:a[i]?=LH b[i]:=h.2 i b[i] (BH<|~~~f);rw[Ij d]at e;injection e with e;simpa using e.symm
theorem qO{a:HA}{o:Obj}{q:Array (Int×Fe)}{ep:Nat}{t:KO}{Q:L0 Fe->Iq->Prop}(hh:A.handled=LI)(S:s.heap.get? a=LH o)(m:o.ExactSet)(hd:o.data=.set q ep t)(v:q.size<KC)(hf:t.fits q.size=LJ)(ha:Asc t.place)(hl:t.led = !dG w)
  (h:∀(f:L0 Fe)(s':Iq),f.Perm (q.toList.map (·.2))->(∀b u,s.heap.get? b=LH u->s'.heap.get? b=LH u)->s'.gens=s.gens->s'.os=s.os->↥s<↥s'->Q f s') :
  Iw (model prog w) A (collect<|.ref a) Q E s:=by
 let R:a<↥s:=HB.lt_size S;unfold collect;calc E2<|KJ<|Kq F.entry_proto_collect ?_;rw[Ip.under_plainId F.plain_proto_collect _];show Iw _ A.in1 (Kb [] >>= λl=>again<|.builtin "list.__iadd__" ⟨[l,.ref a],[]⟩) _ _ s;calc E2<|Kd ?_;calc E6 ⟨KH F.plain_list_iadd _,Kq F.entry_list_iadd ?_⟩;rw[Ip.under_plainId F.plain_list_iadd _];generalize B:({ cls:=.type "list",data:=.seq ([]:L0 Fe).toArray }:Obj)=lo;let J:(s.heap.push lo).get? a=LH o:=HB.get?_push_of_some _ S;let gS:(s.heap.push lo).get? ↥s=LH lo:=by rw[←B];exact HB.get?_push_size _ U
 let M:Iq.TypeIs { s with heap:=s.heap.push lo } (.ref a) "set" := ⟨o,J,m.1⟩;show Iw _ A.in1 (Ji.List.listExtendWith (.ref ↥s) (.ref a)<|.ref ↥s) _ _ _;unfold Ji.List.listExtendWith;calc E2<|Ln M ?_;let h1:Ji.List.listSameRef (.ref ↥s) (.ref a)=false:=by simp[Ji.List.listSameRef];exact xa R
 let h2:(Fe.type "set" == Fe.type "list")=false:=⋯
 let h3:(Fe.type "set" == Fe.type "tuple")=false:=⋯
 simp only[h1,h2,h3,Bool.or_false,DB,if_false];calc E2<|xU (s:={ s with heap:=s.heap.push lo }) J m hd v hf ha hl λI j d f fp St H P W Y hI L=>?_;let g2:j.get? a=LH o:=H a o J;let n:Iq.TypeIs { s with heap:=j,drawn:=d } (.ref a) "set" := ⟨o,g2,m.1⟩;calc E2<|Fc ?_;unfold Ji.List.listLengthHint;refine E2 (Lo n F.slot_set_len.lookup ?_)
 (generalize k:("set.__len__" : String)=id0;(fail_if_success (clear k id0));wp_delta;rw[show splitId id0=LH ("set","__len__")from by subst k;decide+kernel];subst k)
 calc E2<|Lf (b:=LJ) n sub_set_self ?_;calc E2<|Ln n ?_;calc E6 ?_;show Iw _ A.in1 (rule "list.extend.makes-room" >>= λ_=>Ji.List.listTouch (.ref ↥s) >>= λ_ =>
  again (.builtin "list.extend.loop" ⟨[.ref ↥s,.ref I,.ref ↥s],[]⟩)) _ _ _
 calc E2<|Ky ?_;let c:j.get? ↥s=LH lo:=H _ _ gS;rw[←B]at c;calc E2 ?_;show Iw _ A.in1 (Lp ↥s (·.push .none) >>= λ_=>Lp ↥s (·.pop)) _ _ _;calc E2<|Lq c U ?_;let i:=HB.get?_update_self (Obj.mapSeq (·.push Fe.none)) c U;calc Lq i U ?_;let p:=HB.get?_update_self (Obj.mapSeq (·.pop)) i U
 let y:∀b u,b≠↥s->j.get? b=LH u ->
   ((j.update ↥s (Obj.mapSeq (·.push Fe.none))).update ↥s (Obj.mapSeq (·.pop))).get? b=LH u :=
  λb u v e=>(HB.get?_update_other _ _<|Ne.symm v).trans<|(HB.get?_update_other _ _<|Ne.symm v).trans e
 let x:(s.heap.push lo).objs.size=↥s+1:=HB.size_push ..;let C:↥s ∉ fp:=λr=>by
  rcases L _ r with z|z
  .exact xa R z
  .let O:(s.heap.push lo).objs.size<=↥s:=z;rw[x]at O;exact Nat.not_succ_le_self _ O
 let T:=W A.in1 (by simp[hh]);let G:⇑f=q.size:=by rw[P.length_eq,bc,A8]
 let K:=T.frame 0 ({ s with heap:=j,drawn:=d }:Iq) ((j.update ↥s (Obj.mapSeq (·.push Fe.none))).update ↥s (Obj.mapSeq (·.pop))) s.toks Y (wX _) λb g Z e=>y b Z (λz=>C<|z ▸ g) e
 refine E6 ⟨KH F.plain_extend_loop _,codeAny_extend_loopS T (by unfold KC at v;unfold HL;lia) _ C _ q.size 0 _ _ _ U (wZ _)
  K p (ItemsOf.nil _) λs' xV c' r D X=>?_⟩
 show Iw _ A (load ↥s >>= _) _ _ s';calc E2<|wpAny_load D ?_;calc E6 ?_;rw[v9 X G];calc h f s' P (λb u e=>?_) r.gens r.os<|HB.lt_size D;let g:b<↥s:=HB.lt_size e;calc r.heap b u (λz=>?_)<|y b u (wY g)<|H b u<|HB.get?_push_of_some _ e;rcases bL.mp z with z|z
 .exact wY g z
 .let V:b=I:= ~~~z
  let N:(s.heap.push lo).objs.size<=I:=hI;rw[x,←V]at N;calc za _<|w6 g<|Nat.le_of_succ_le N
variable{LM:L0 (HA×Obj)}{σ:St}{H:Hp}
section
variable{h':HB}{Y:L0 HA}
theorem Inv.excStepY(I:Inv X LM σ H s)(st:Stp (frs X.stack) Y s.heap h')(h:∀b∈Y,fm X LM H b):Inv X LM σ H { s with heap:=h' }:=by
 let F:∀b,b≠X.env.locals->b ∉ X.fs->b ∉ frs X.stack:=λb R Q z=>(bL.mp<|I.stkSub b z).elim R Q
 let w:∀b o,X.s₀.heap.get? b=LH o->b ∉ Y:=λb o q z=>by rw[(h b z).ent]at q;cases q
 let B:∀b o,X.s₀.heap.get? b=LH o->b≠X.env.locals:=λb o q=>wY<|w6 (HB.lt_size q) I.ok.above
 let any:∀b o,b ∉ Y->s.heap.get? b=LH o->∃t,h'.get? b=LH { o with slots:=t }:=λb o M q=>by
  by_cases J:b∈frs X.stack
  .exact st.slot b o J q
  .exact⟨o.slots,st.keep b o J M q⟩
 let e:∀x c,X.env.cells.lookup x=LH c->∀v,s.heap.IsCell c v->h'.IsCell c v:=λx c f v ⟨o,N,P⟩=>by
  let(t,q):=any c o (λz=>(h c z).cel x c f U) N;exact⟨_,q,P⟩
 refine⟨I.ok,I.os,I.bare,⟨λb o q n g a=>?_,λb o q n g a=>?_,I.base.free,λb o q a=>?_,I.base.tups,I.base.frzs,I.base.tbls⟩,?_,λx c f=>?_,I.free,I.freeC,λp G=>?_,I.hok.stp st I.stkFree<|λb g=>(h b g).unt,I.len⟩
 .exact st.keep b o (F b (B b o q) g) (w b o q)<|I.base.keep b o q n g a
 .let(t,A):=I.base.slot b o q n g a;let(j,y):=any b _ (w b o q) A;exact⟨j,y⟩
 .let(o1,A):=I.base.there b o q a;let(j,y):=any b _ (w b o q) A;exact⟨_,y⟩
 .let(m,(L,S,T,C,r),O):=I.loc;let(t,q):=any X.env.locals L (λz=>(h _ z).loc U) C;calc⟨m,⟨_,S,T,q,r⟩,λi x v Z W V=>?_⟩;let(u,K,l):=O i x v Z W V;calc⟨u,K,?_⟩;rcases l with l|⟨k,c,f,z⟩
  .exact .inl l
  .exact .inr ⟨k,c,f,e x c f _ z⟩
 .let(v,z):=I.cell x c f;exact⟨v,e x c f v z⟩
 .let(q,n,E,D,d):=I.pin p G;calc⟨st.keep p.1 p.2 (F p.1 E D) (λz=>(h _ z).pin p G U) q,n,E,D,d⟩
end
def Cb(X:Cx)(L:HA)(E:XK):Fe->Iq->Prop:=λf c=>∃(e C:HA)(d:Fe×Fe)(Ts:L0 HA)(LM:L0 (HA×Obj))(σ:St)(a:Hp),f=.ref e/\Inv X LM σ a c/\xK c.heap L e (.ref C) d Ts/\(∀b∈e :: Ts,fm X LM a b)/\∃m,(m=LI->d.2=.none)/\E (.ref C) m a
theorem kC{X:Cx}{L:HA}{E:XK}(a:X.stack=X.env :: X.outer)(c:X.env.frame=LH L)(y:X.ex=[]):IV (model X.prog X.w) X.A X.env (Cb X L E):=by
 rintro V d ⟨e,C,F,Ts,LM,σ,H,rfl,I,x,f,q⟩;let i:X.A.frames=LH (X.env :: X.outer):=by rw[←a];exact I.ok.frames
 let j:d.heap.FunFrames X.base (X.env :: X.outer):=by rw[←a];exact I.stack
 refine note i j c x λg T m k D=>?_
 rw[←a]at m;let o:=I.excStepY m f;let v:fm X LM H T:=by
  rcases D with z|z
  .exact I.newAt y z
  .exact f T<|fo e z
 let n:∀b∈[e,T],fm X LM H b:=λb B=>by
  rcases bL.mp B with z|z
  .rw[z];exact f e dn
  .rw[show b=T by simpa using z];exact v
 show Iw (model X.prog X.w) X.A (do
  if (←field (.ref e) 1) == .none then unsupported "frame.own-activation:exception-without-traceback"
  Km (.ref e) X.env.frame) _ _ { d with heap:=g }
 let(Q,O,R,P,t,N,r,p,M,K,J,G):=id k;calc E2<|Kl (s:={ d with heap:=g }) t r p ?_;rw[LN (show ¬ (Fe.ref T == Fe.none)=LJ by simp)];show Iw (model X.prog X.w) X.A (Km (.ref e) X.env.frame) _ _ _;rw[c];refine uU (s:={ d with heap:=g }) (l:=X.stack) o.stack k λS h u=>?_
 calc⟨e,C,F,[T],LM,σ,H,U,o.excStepY h n,.held u,n,q⟩
variable{P:Fw}{K:W.Frag}{base:HB}{f:HA}
section
variable{mg:Str->Option Fe}{N:L0 Str}{qual:Str}{scope:Ir}{cd:Fe}{outer:L0 Env}{s0:Iq}{H0:Hp}{E:XK}
abbrev cxE(P:Fw)(w:Fn)(K:W.Frag)(mg:Str->Option Fe)(base:HB)(N:L0 Str)(qual:Str)(scope:Ir)(f:HA)(cd:Fe)(A:Ip)(outer:L0 Env)(s0:Iq)(H0:Hp)(E:XK):Cx :=
 (bA (CX1 P w) P w K mg base N qual scope f cd A outer s0 H0 E).wish (Cb (bA (CX1 P w) P w K mg base N qual scope f cd A outer s0 H0 E) ↥s0 E)
theorem wa{m:Fe}{s:Iq}(h:Cb (bA (CX1 P w) P w K mg base N qual scope f cd A outer s0 H0 E) ↥s0 E m s):(bA (CX1 P w) P w K mg base N qual scope f cd A outer s0 H0 E).xe m s:=by
 let(e,C,y,Ts,LM,σ,H,rfl,I,x,g,q):=h;let j:(bA (CX1 P w) P w K mg base N qual scope f cd A outer s0 H0 E).A.frames=LH (envOfC qual scope ↥s0 f cd :: outer):=I.ok.frames;let u:(envOfC qual scope ↥s0 f cd).frame=LH ↥s0:=rfl;show Iw (model P w) _ (leaving (envOfC qual scope ↥s0 f cd)<|.ref e) _ _ s;unfold leaving;calc E2<|note j I.stack u x λv T r p t=>?_;let c:=I.excStepY r g;let i:fm (bA (CX1 P w) P w K mg base N qual scope f cd A outer s0 H0 E) LM H T:=by
  rcases t with z|z
  .exact I.newAt U z
  .exact g T<|fo e z
 let ne:=g e dn;let k:∀b∈[e,T],fm (bA (CX1 P w) P w K mg base N qual scope f cd A outer s0 H0 E) LM H b:=λb a=>by
  rcases bL.mp a with z|z
  .rw[z];exact ne
  .rw[show b=T by simpa using z];exact i
 refine uU (s:={ s with heap:=v }) (l:=envOfC qual scope ↥s0 f cd :: outer) c.stack p λB d n=>?_
 refine⟨e,T,C,y,H,U,c.os,c.bare,c.base.stp d (λb o q a=>?_) (λb a=>?_)<|λb a=>(k b a).ent,c.hok.stp d c.stkFree<|λb a=>(k b a).unt,n,ne.ent,i.ent,ne.unt,i.unt,q⟩
 .rcases bL.mp (c.stkSub b a)with z|z
  .exact LP (w6 (HB.lt_size q) c.ok.above) (by rw[z];exact za _)
  .exact z
 .show b∈frs (envOfC qual scope ↥s0 f cd :: outer);unfold frs;rw[ny];calc fo _ a
def PSs.leaves{st:L0 ID}{t:TS}(h:PSs (cxE P w K mg base N qual scope f cd A outer s0 H0 E) st t):PSs (bA (CX1 P w) P w K mg base N qual scope f cd A outer s0 H0 E) st t:=λLM s σ H D I a =>
 IE (h LM s σ H D (I.wish _) a) (λ_ _ q=>q.unwish) λ_ _ z=>wa z
theorem Fun.okE{x:Str}{st:ID}{e:Jy}{ps:L0 Str}{k:Nat}{sp:Sp}(F:Fun K x qual st f e)(S:aq N ps (aj st))(b:∀vs H Q E,sp vs H Q E->⇑vs=⇑ps)
  (j:∀(a:Fe)(A:Ip)(outer:L0 Env)(s:Iq)(H:Hp)(vs:L0 V)(Q:VK)(E:XK),bI k (A.deeper<|envOfC qual (aj st) ↥s f a)->sp vs H Q E ->
   ∃t,PSs (cxE P w K mg base N qual (aj st) f a A outer s H E) (cx st) t/\t { nx:=λ_ H'=>Q .non H',rt:=Q } (start N vs) H):aD P w K mg base (CX1 P w) (k+1) f e ps sp:=by
 let(p,o,kV,m,n,u,a,r,l,rfl,g,d):=F.ex;refine xy g d S b λA outer s H vs Q E i c=>?_
 let(t,h,q):=j a A outer s H vs Q E i c;calc⟨t,h.leaves,q⟩
theorem iB{x:Str}{C:HA}{L d pos:Pos}{a:Iz}{c:L0 Iz}{t:TA}(X:ExcCls K C)(S:A.handled=LI)(R:Gl (cxE P w K mg base N qual scope f cd A outer s0 H0 E) x)(O:mg x=LH (.ref C))
  (V:PA (cxE P w K mg base N qual scope f cd A outer s0 H0 E) (a :: c) t)(k:(x == ("__debug__" : Str))=false:=by decide)
  (he:IC (a :: c) (envOfC qual scope ↥s0 f cd)=(LK,eval a<|envOfC qual scope ↥s0 f cd) :: IC c (envOfC qual scope ↥s0 f cd):=by rfl)
  (i:(IB d<|IC c<|envOfC qual scope ↥s0 f cd).any (·.1)=false:=by rfl) :
  PS (cxE P w K mg base N qual scope f cd A outer s0 H0 E) (.Raise (LH<|.Call (.Name x L) (a :: c) [] d) LI pos) (B5 C E t):=by
 intro LM s σ H D I h;let(a3,a2,n,B,Bn,a0,xN,a1,M,F1,F2,u):=X.ex;let(bm,N',nm,q,bs,hdct,sn,sub,ab,col,dd,k0,k1,k2,k3,k5,mN,G,F,y,p):=ExcCls.obj I.ok.mod.kin M;refine wpAny_Raise_call_subU (C:=C) (nm:=nm) (q:=q) (N:=N') (bs:=bs) (bm:=bm) (hdct:=hdct) (sn:=sn) (sub:=sub) (ab:=ab) (col:=col) (dd:=dd) (k0:=k0) (k1:=k1) (k2:=k2) (k3:=k3) (k5:=k5) F1 F2 u (OwnTail.hasType p u.hasBase) S (by
  show(IB d<|IC (a :: c)<|envOfC qual scope ↥s0 f cd).any (·.1)=LK;rw[he];show(LK || (IB d<|IC c<|envOfC qual scope ↥s0 f cd).any (·.1))=LK;rw[i];rfl) (mN:=mN) y (cY I R O ⟨U,?_⟩ k)
 show Iw _ _ (evalArgs (.ref C) LJ (IB d<|IC (a :: c)<|envOfC qual scope ↥s0 f cd) []) _ _ s;rw[he];calc Calls.evalArgs_plain ?_;let z:Iw (model P w) (cxE P w K mg base N qual scope f cd A outer s0 H0 E).A (spliced<|IB d<|IC (a :: c)<|envOfC qual scope ↥s0 f cd) _ _ s:=V d LM s σ H _ I h;rw[he]at z;refine thn z λus s2 ⟨vs,H2,g,r,Q,v⟩=>⟨U,by rw[←⇑r];exact Q,?_⟩
 refine⟨g.bk C _ G,?_,p.keeps g.bk,λh' e m=>?_⟩
 .let(o,l,Z,Y,W):=F;exact⟨o,l,Z,g.bk _ _ Y,W⟩
 .let J:=g.unwish;let(t',j,_,_):=m.there;calc⟨e,C,(.ref t',.none),[],LM,σ,H2,U,J.kept (t':=s2.toks) m.keeps,.fresh j U U U U U,λb T=>?_,LI,λ_=>U,v⟩;rw[show b=e by simpa using T];calc J.newAt U m.new
theorem passE:Passes (CX1 P w) (cxE P w K mg base N qual scope f cd A outer s0 H0 E) E:=λLM σ H s p o I h=>by
 let(e,T,C,m,n,rfl,g,d,un,hok,x,ne,i,j,l,q):=h;let J:=(I.unwish).call' (ch:=[]) g un hok d λb z=>LP z (by simp)
 let a:=(I.unwish).newAt U ne;let c:=(I.unwish).newAt U i;calc⟨e,C,m,[T],LM,σ,n,U,J,.fly x,λb k=>?_,q⟩;rcases bL.mp k with z|z
 .rw[z];exact⟨a.ent,j,a.loc,a.cel,a.pin⟩
 .rw[show b=T by simpa using z];calc⟨c.ent,l,c.loc,c.cel,c.pin⟩
end
theorem nZ:cG X (.builtin "len") (λxs H Q=>∃(l:HA)(zs:L0 Str),xs=[.ref l]/\H l=LH (B8 X.prog X.w l zs)/\⇑zs<=1000/\Q (.int ((cntK zs ⇑zs:Nat):Int)) H):=by
 intro LM s σ H xs i Q I r h;let(l,zs,rfl,e,j,q):=h;let(u,rfl,b):=r.one;obtain rfl:u=Fe.ref l:=b;let((o,k,m,t,g,f,d,_,_,_,c,a),_,_):=I.hok l _ e;let le:=jR zs ⇑zs;refine call_len_set g f d c (by rw[a];lia) ⟨.int _,H,I.tok _,⟨_,U⟩,?_⟩;rw[a];calc q
def E7(sp:Sp)(E:XK)(t:TA):TE:=λσ H Q=>t σ H λa b=>sp a b Q E
def E8(C:HA)(sp:Sp)(E:XK)(t:TA):TE:=λσ H Q=>t σ H λc b=>∀x a,b x=LI->b a=LI->a≠x ->
 sp (.ref x :: c) (upd (upd b a<|.own x) x<|.ins C a []) (λv d=>v=.non/\Q (.ref x) d) E
variable{k:Nat}{C:HA}{fd:Jy}{ps:L0 Str}{sp:Sp}{x m:Str}
section
variable{p np pos apos:Pos}{e o:Iz}{es:L0 Iz}{ta:TE}{t:TA}{E:XK}
theorem gJ(M:br X.prog X.w X.K X.mg X.base k x ps sp)(i:Passes (CX1 X.prog X.w) X E)(j:bI k X.A)(m:Gl X x)(n:PA X (e :: es) t)(c:(x == ("__debug__" : Str))=false:=by decide)
  (he:IC (e :: es) X.env=(LK,eval e X.env) :: IC es X.env:=by rfl)(a:(IB pos<|IC es X.env).any (·.1)=false:=by rfl):PE X (.Call (.Name x p) (e :: es) [] pos) (E7 sp E t):=by
 let(f,fd,F,b,g,l):=M;intro LM s σ H Q I h;calc Fd<|cY I m l ?_ c;calc W.callWith_K (h₀:=X.base) I.ok.mod.kin g (thn (n pos LM s σ H _ I h) λu v ⟨o,y,d,r,q⟩=>⟨d.kIn,zJ F j b i d r q⟩) he a
theorem Cc{CX:CXT}(M:bf CX X.prog X.w X.K X.mg X.base k x C ps sp)(j:Passes CX X E)(l:bI (k+1) X.A)(n:Gl X x)(r:PA X (e :: es) t)(i:(x == ("__debug__" : Str))=false:=by decide)
  (he:IC (e :: es) X.env=(LK,eval e X.env) :: IC es X.env:=by rfl)(g:(IB pos<|IC es X.env).any (·.1)=false:=by rfl) :
  PE X (.Call (.Name x p) (e :: es) [] pos) (E8 C sp E t):=by
 let(f,fd,M,F,o,m):=M;let h:=uJ (E:=E) (dvs:=[]) (ds:=[]) (p:=p) M F l n m o .nil j r i he g;intro LM s σ H Q I q;calc h LM s σ H Q I ?_;let u:(λ(c:L0 V)(b:Hp)=>∀x a,b x=LI->b a=LI->a≠x->sp (.ref x :: (c++[])) (upd (upd b a<|.own x) x<|.ins C a []) (λv d=>v=.non/\Q (.ref x) d) E)=λc b=>∀x a,b x=LI->b a=LI->a≠x->sp (.ref x :: c) (upd (upd b a<|.own x) x<|.ins C a []) (λv d=>v=.non/\Q (.ref x) d) E:=by
  funext c b
  rw[iP]
 show t σ H λc b=>∀x a,b x=LI->b a=LI->a≠x->sp (.ref x :: (c++[])) (upd (upd b a<|.own x) x<|.ins C a []) (λv d=>v=.non/\Q (.ref x) d) E
 rw[u];calc q
end
theorem jf:∀{ns:L0 Int}{us:L0 Fe},Vals (ns.map V.int) us->∃xs:L0 (Int×Tok),us.toArray=Lr xs.toArray/\ns=xs.map (·.1)
 | [],_,.nil=>⟨[],by simp[Lr],U⟩
 |n :: ns,_,.cons ⟨t,e⟩ r=>by
  let(xs,c,b):=jf r;refine⟨(n,t) :: xs,?_,by rw[b];rfl⟩;subst e;let a:=LU Array.toList c;simp[Lr]at a⊢;calc a
theorem oS{xs:Array (Int×Tok)}{i:Nat}(h:i<xs.size):numAt xs i∈xs.toList.map (·.1):=by
 rw[Ls];calc getD_mem (by rw[bc,A8];lia)
theorem i4(B:X.calm=LJ):cG X (.builtin "min") (λus H Q=>∃(a:HA)(ns:L0 Int),us=[.ref a]/\SqL X.K H a (ns.map V.int)/\0<⇑ns/\∀m,m∈ns->(∀b∈ns,m<=b)->Q (.int m) H):=by
 intro LM s σ H us F Q I r h;let(a,ns,rfl,x,c,q):=h;let(u,rfl,l):=r.one;cases (show u=Fe.ref a from l);let(E,n,p,G):=I.list x;let(xs,D,d):=jf n;let g:=p.isList;rw[D]at g;let f:0<xs.toArray.size:=by
  rw[d,bc]at c;simpa using c
 refine min_intList (I.ok.hd B) g f λv L k w y=>?_
 let(t,rfl):=intItems_at w;let(J,C):=argBest_lt (numAt xs.toArray)<|xs.toArray.size-1;refine⟨.int _,H,I.kept (t':=k) λb o e=>y b o e,⟨t,U⟩,q _ ?_ λb i=>?_⟩
 .rw[d];exact oS (xs:=xs.toArray) ∅
 .rw[d]at i;let(j,A,rfl):=mem_getD i;rw[bc]at A;let z:=C j (by simp;lia);rw[Ls]at z⊢;rw[Ls]at z;simpa using z
theorem i5(B:X.calm=LJ):cG X (.builtin "max") (λus H Q=>∃(a:HA)(ns:L0 Int),us=[.ref a]/\SqL X.K H a (ns.map V.int)/\0<⇑ns/\∀m,m∈ns->(∀b∈ns,b<=m)->Q (.int m) H):=by
 intro LM s σ H us F Q I r h;let(a,ns,rfl,x,c,q):=h;let(u,rfl,l):=r.one;cases (show u=Fe.ref a from l);let(E,n,p,G):=I.list x;let(xs,D,d):=jf n;let g:=p.isList;rw[D]at g;let f:0<xs.toArray.size:=by
  rw[d,bc]at c;simpa using c
 refine max_intList (I.ok.hd B) g f λv L k w y=>?_
 let(t,rfl):=intItems_at w;let(J,C):=argBest_gt (numAt xs.toArray)<|xs.toArray.size-1;refine⟨.int _,H,I.kept (t':=k) λb o e=>y b o e,⟨t,U⟩,q _ ?_ λb i=>?_⟩
 .rw[d];exact oS (xs:=xs.toArray) ∅
 .rw[d]at i;let(j,A,rfl):=mem_getD i;rw[bc]at A;let z:=C j (by simp;lia);rw[Ls]at z⊢;rw[Ls]at z;simpa using z
def zO(P:Fw)(w:Fn)(a:HA)(ns:L0 Int):HO:=.ext λh=>h.SetOf (HY P w) a (λz=>decide<|z∈ns)<|cntK ns ⇑ns
theorem mD:∀{zs:L0 Int}{us:L0 Fe},Vals (zs.map V.int) us->∀(i:Nat)(v:Fe),us[i]?=LH v->∃z t,zs[i]?=LH z/\v=.int z t
 | [],_,.nil,i,v,h=>by simp at h
 |z :: zs,_,.cons ⟨t,e⟩ r,0,v,h=>by simp at h;exact⟨z,t,U,by rw[←h,e]⟩
 |z :: zs,_,.cons _ r,i+1,v,h=>by
  let(a,t,c,b):=mD r i v<|~~~h;calc⟨a,t,~~~c,b⟩
theorem n4(B:X.calm=LJ):cG X (.type "set") (λxs H Q=>∃(p:HA)(zs:L0 Int),xs=[.ref p]/\SqL X.K H p (zs.map V.int)/\⇑zs<=1000/\∀l,H l=LI->Q (.ref l) (upd H l<|zO X.prog X.w l zs)):=by
 intro LM s σ H xs F Q I r h;let(p,zs,rfl,C,G,q):=h;let(u,rfl,n):=r.one;obtain rfl:u=Fe.ref p:=n;let(E,d,A,_):=I.list C;let f:=⇑d;rw[bc]at f;refine oO (knd:=HY X.prog X.w) (ks:=zs) (I.ok.hd B) A.isList (λi v e=>?_) (~~~f) (by unfold KC;simp;lia) λh' m x=>?_
 .let(z,t,D,rfl):=mD d i v<|~~~e;exact⟨z,D,by show Fe.isInt z (.int z t)=LJ;simp[Fe.isInt],U⟩
 .let(c,j):=x;calc⟨.ref ↥s,_,I.laid (a:=↥s) (o:=zO X.prog X.w ↥s zs) (h':=h') (t':=m) (λb o q=>j b o (HB.lt_size q) q) (wX _) ?_,U,q _ I.fresh⟩;calc⟨c,?_,λL J y k=>gh y k⟩;let(o,_,_,_,g,_):=c;calc⟨o,g⟩
theorem n5:cG X (.builtin "len") (λxs H Q=>∃(l:HA)(zs:L0 Int),xs=[.ref l]/\H l=LH (zO X.prog X.w l zs)/\⇑zs<=1000/\Q (.int ((cntK zs ⇑zs:Nat):Int)) H):=by
 intro LM s σ H xs i Q I r h;let(l,zs,rfl,e,j,q):=h;let(u,rfl,b):=r.one;obtain rfl:u=Fe.ref l:=b;let((o,k,m,t,g,f,d,_,_,_,c,a),_,_):=I.hok l _ e;let le:=jR zs ⇑zs;refine call_len_set g f d c (by rw[a];lia) ⟨.int _,H,I.tok _,⟨_,U⟩,?_⟩;rw[a];calc q
theorem qP{b:Type} [DecidableEq b] {k:b}{ks:L0 b}:∀i,i<=⇑ks->1<=cntK (k :: ks) (i+1)/\(cntK (k :: ks) (i+1)=1↔∀x∈ks.take i,x=k)
 |0,_=>by simp[cntK]
 |i+1,h=>by
  let(d,c):=qP (k:=k) (ks:=ks) i ∅;let e:(k :: ks)[i+1]?=LH ks[i]:=by simp
  let j:ks[i]?=LH ks[i]:=Ij ∅;let f:ks.take (i+1)=ks.take i++[ks[i]]:=by rw[nQ,j];rfl
  let g:(k :: ks).take (i+1)=k :: ks.take i:=rfl;rw[show cntK (k :: ks) (i+1+1)=match (k :: ks)[i+1]? with
   |some x=>if x∈(k :: ks).take (i+1)then cntK (k :: ks) (i+1)else cntK (k :: ks) (i+1)+1
   |none=>cntK (k :: ks) (i+1)from U,e,f,g]
  dsimp only;by_cases m:ks[i]∈k :: ks.take i
  .rw[LO m];calc⟨d,c.trans ⟨λz x a=>?_,λz x a=>z x<|jJ _ a⟩⟩;rcases hZ.mp a with a|a
   .exact z x a
   .let:x=ks[i]:= ~~~a
    rw[this];rcases bL.mp m with m|m
    .exact m
    .exact z _ m
  .rw[LN m];calc⟨∅,⟨λz=>LP z ∅,λz=>?_⟩⟩;calc LP (z ks[i] (jq _ (by simp))) λq=>m (by rw[q];exact dn)
theorem oU{a:Type} [DecidableEq a] {k:a}{ks:L0 a}:cntK (k :: ks) ⇑(k :: ks)=1↔∀x∈ks,x=k:=by
 let:=(qP (k:=k) (ks:=ks) ⇑ks<|wX _).2;rw[hV]at this;calc this
def TyG(K:W.Frag)(H:Hp)(x:V)(t:Fe):Prop:=kA K H x t\/∃a b,x=.ref a/\SqT K H a b/\t=.type "tuple"
inductive ClV:V->Fe->Prop where
 |ty (T:String):ClV (.ty T) (.type T)
 |ref (C:HA):ClV (.ref C) (.ref C)
theorem dH:cG X (.builtin "isinstance") (λxs H Q=>∃x c d t b,xs=[x,c]/\ClV c d/\TyG X.K H x t/\W.kitOne X.K t d=LH b/\Q (.bl b) H):=by
 intro LM s σ H xs v Q I r h;let(x,c,d,t,b,rfl,i,ty,e,q):=h;cases r with
 |cons g j =>
  cases j with
  | @cons _ cu _ _ ry r3 =>
   cases r3;let n:cu=d:=by cases i <;> exact ry
   subst n;rcases ty with ty|⟨a,u,rfl,k,rfl⟩
   .exact vH I g ty e λf=>⟨.bl b,H,I.tok f,U,q⟩
   .cases (show _=Fe.ref a from g);let(p,r,(o,m,l,_),_):=I.tuple k;calc W.kia_one W.kitx_tuple I.kIn ⟨o,m,l⟩ e (λz=>nomatch z) λf=>⟨.bl b,H,I.tok f,U,q⟩
structure mE(K:W.Frag)(C:HA):Prop where
 cl:Cls K C
 ha:W.findIn K (.ref C) "__class__" = LH (LH<|.builtin "object.__class__")
 hn:W.specialIn K (.builtin "object.__class__") "__get__" = LH (LH<|.builtin "getset_descriptor.__get__")
 tk:W.takesIn K (.builtin "object.__class__")=LH LJ
 hm:W.mroIn K C (.type "object")=LH LJ
def mE.ty{K:W.Frag}{C:HA}(h:mE K C){H:Hp}{a b:HA}{fs:L0 (Str×V)}(e:H a=LH (.ins C b fs)):TyG K H (.ref a) (.ref C):=.inl<|.ins e h.cl h.ha h.hn h.tk h.hm
def zP(CX:CXT)(P:Fw)(w:Fn)(K:W.Frag)(mg:Str->Option Fe)(base:HB)(k:Nat)(m:Str)(ps:L0 Str)(a:L0 (HA×Sp)):Prop :=
 ∀p∈a,bh CX P w K mg base k p.1 m ps p.2/\Cls K p.1
variable{CX:CXT}
section
variable{mg:Str->Option Fe}{cs:L0 (HA×Sp)}
def DI:zP CX P w K mg base k m ps []:=λ_ h=>nomatch h
theorem qQ(M:bh CX P w K mg base k C m ps sp)(c:Cls K C)(r:zP CX P w K mg base k m ps cs):zP CX P w K mg base k m ps ((C,sp) :: cs):=λp h=>by
 rcases bL.mp h with rfl|h
 .exact⟨M,c⟩
 .exact r p h
end
inductive A9(cs:L0 (HA×Sp))(m:Str)(t:TA)(σ:St)(Q:VK)(x:V)(H1:Hp):Prop
 |mk (a p dx fs:_)(_:x=.ref a)(_:p∈cs)(_:H1 a=LH (.ins p.1 dx fs))(_:fs.lookup m=LI)(_:t σ H1 λvs H2=>p.2 (x :: vs) H2 Q E0):A9 cs m t σ Q x H1
def E9(b:L0 (HA×Sp))(m:Str)(a:TE)(t:TA):TE:=λσ H Q=>a σ H λx c=>A9 b m t σ Q x c
section
variable{p np pos apos:Pos}{e o:Iz}{es:L0 Iz}{ta:TE}{t:TA}{cs:L0 (HA×Sp)}
theorem xW{pl:Sem Bool}(M:zP CX X.prog X.w X.K X.mg X.base k m ps cs)(B:Passes CX X E0)(D:bI k X.A)(G:PE X o ta)(L:PA X (e :: es) t)
  (b:IC (e :: es) X.env=(LK,eval e X.env) :: IC es X.env:=by rfl)(d:(IB pos<|IC es X.env).any (·.1)=false:=by rfl)
  (C:eval (.Call (.Attribute o m apos) (e :: es) [] pos) X.env=(do
   let g ←eval o X.env
   II apos.atName
   let (f,first) ←holding [g] (Jr g m pl)
   Kz pos f first (IB pos<|IC (e :: es) X.env) (JS pos<|JT [] X.env)):=by rfl) :
  PE X (.Call (.Attribute o m apos) (e :: es) [] pos) (E9 cs m ta t):=by
 intro LM s σ H Q I h;calc W.methodCall_KW (pl:=pl) (thn (G LM s σ H _ I h) λu v ⟨x,P,n,y,a,p,R,fs,N,E,O,l,q⟩=>?_) C;let((f,fd,i,F,J),c):=M p E;subst N;obtain rfl:u=Fe.ref a:=y;calc lZ n O c i l ?_;calc W.callWith_K (first:=[.ref a]) (h₀:=X.base) I.ok.mod.kin i.kp (thn (L pos LM v σ P _ n q) λus s2 ⟨vs,S,j,r,z⟩=>⟨j.kIn,?_⟩) b d;calc zJ (us:=.ref a :: us) (vs:=.ref a :: vs) F D J B j (.cons U r) z
theorem kD(M:bf CX X.prog X.w X.K X.mg X.base k x C ps sp)(b:Passes CX X E0)(c:bI (k+1) X.A)(e:Gl X x)(a:(x == ("__debug__" : Str))=false:=by decide) :
  PE X (.Call (.Name x p) [] [] pos) (tMk C sp BR):=by
 let(f,fd,M,F,g,d):=M;let h:=xx (E:=E0) (dvs:=[]) (ds:=[]) (p:=p) (pos:=pos) M F c e d g .nil b a;intro LM s σ H Q I q;calc h LM s σ H Q I q
end
def ModT(K:W.Frag)(a:HA)(xs:L0 V):Prop:=∃(o:Obj)(b:Array Fe)(n:Nat),K.lookup a=LH o/\o.cls=.type "tuple" /\ o.data=.seq b n/\b.size<=HL/\Vals xs b.toList
def ModT.sq{K:W.Frag}{a:HA}{xs:L0 V}(h:ModT K a xs)(H:Hp):SqT K H a xs:=.inr h
def ModT.mk{K:W.Frag}{a:HA}{xs:L0 V}{d:Option HA}{b:Array Fe}{n:Nat}{c:Array (Option Fe)}(h:K.lookup a=LH ⟨.type "tuple",d,.seq b n,c⟩) (f:b.size<=HL)(e:Vals xs b.toList):ModT K a xs :=
 ⟨_,b,n,h,U,U,f,e⟩
theorem ak.seqT{K:W.Frag}{H H':Hp}{a:HA}{xs:L0 V}(e:ak H H')(h:SqT K H a xs):SqT K H' a xs:=by
 rcases h with(h|⟨o,h⟩)|h
 .exact .inl<|.inl<|e _ _ h
 .exact .inl<|.inr ⟨o,e _ _ h⟩
 .exact .inr h
theorem mF{c A B:Prop} [Decidable c] (a:c)(h:A):if decide c=LJ then A else B:=by rw[LO (LQ a)];calc h
theorem lp{c A B:Prop} [Decidable c] (a:¬ c)(h:B):if decide c=LJ then A else B:=by rw[LN (by rw[LR a];decide)];calc h
theorem ls0{P:L0 Fe->Prop}(h:P []):∀us:L0 Fe,⇑us=0->P us:=λus e=>by
 cases us
 .exact h
 .cases e
theorem lsS{P:L0 Fe->Prop}{n:Nat}(h:∀a us,⇑us=n->P (a :: us)):∀us:L0 Fe,⇑us=n+1->P us:=λus e=>by
 cases us
 .cases e
 .exact h _ _<|Nat.succ.inj e
def ls1{P:L0 Fe->Prop}(h:∀a,P [a]):∀us:L0 Fe,⇑us=1->P us:=lsS λa=>ls0 (P:=λv=>P (a :: v))<|h a
def ls2{P:L0 Fe->Prop}(h:∀a b,P [a,b]):∀us:L0 Fe,⇑us=2->P us:=lsS λa=>ls1 (P:=λv=>P (a :: v))<|h a
def ls3{P:L0 Fe->Prop}(h:∀a b c,P [a,b,c]):∀us:L0 Fe,⇑us=3->P us:=lsS λa=>ls2 (P:=λv=>P (a :: v))<|h a
def ls4{P:L0 Fe->Prop}(h:∀a b c d,P [a,b,c,d]):∀us:L0 Fe,⇑us=4->P us:=lsS λa=>ls3 (P:=λv=>P (a :: v))<|h a
def ls5{P:L0 Fe->Prop}(h:∀a b c d e,P [a,b,c,d,e]):∀us:L0 Fe,⇑us=5->P us:=lsS λa=>ls4 (P:=λv=>P (a :: v))<|h a
def ls6{P:L0 Fe->Prop}(h:∀a b c d e f,P [a,b,c,d,e,f]):∀us:L0 Fe,⇑us=6->P us:=lsS λa=>ls5 (P:=λv=>P (a :: v))<|h a
def ls7{P:L0 Fe->Prop}(h:∀a b c d e f g,P [a,b,c,d,e,f,g]):∀us:L0 Fe,⇑us=7->P us:=lsS λa=>ls6 (P:=λv=>P (a :: v))<|h a
def lb1{fd:Jy}{ps:L0 Str}(h:∀a,JA fd ⟨[a],[]⟩=pure (ps.zip [a])):∀us:L0 Fe,⇑us=1->JA fd ⟨us,[]⟩=pure (ps.zip us):=ls1 (P:=λus=>JA fd ⟨us,[]⟩=pure (ps.zip us)) h
def lb2{fd:Jy}{ps:L0 Str}(h:∀a b,JA fd ⟨[a,b],[]⟩=pure (ps.zip [a,b])):∀us:L0 Fe,⇑us=2->JA fd ⟨us,[]⟩=pure (ps.zip us):=ls2 (P:=λus=>JA fd ⟨us,[]⟩=pure (ps.zip us)) h
def lb3{fd:Jy}{ps:L0 Str}(h:∀a b c,JA fd ⟨[a,b,c],[]⟩=pure (ps.zip [a,b,c])):∀us:L0 Fe,⇑us=3->JA fd ⟨us,[]⟩=pure (ps.zip us):=ls3 (P:=λus=>JA fd ⟨us,[]⟩=pure (ps.zip us)) h
def lb4{fd:Jy}{ps:L0 Str}(h:∀a b c d,JA fd ⟨[a,b,c,d],[]⟩=pure (ps.zip [a,b,c,d])):∀us:L0 Fe,⇑us=4->JA fd ⟨us,[]⟩=pure (ps.zip us):=ls4 (P:=λus=>JA fd ⟨us,[]⟩=pure (ps.zip us)) h
def lb5{fd:Jy}{ps:L0 Str}(h:∀a b c d e,JA fd ⟨[a,b,c,d,e],[]⟩=pure (ps.zip [a,b,c,d,e])):∀us:L0 Fe,⇑us=5->JA fd ⟨us,[]⟩=pure (ps.zip us):=ls5 (P:=λus=>JA fd ⟨us,[]⟩=pure (ps.zip us)) h
def lb7{fd:Jy}{ps:L0 Str}(h:∀a b c d e f g,JA fd ⟨[a,b,c,d,e,f,g],[]⟩=pure (ps.zip [a,b,c,d,e,f,g])):∀us:L0 Fe,⇑us=7->JA fd ⟨us,[]⟩=pure (ps.zip us):=ls7 (P:=λus=>JA fd ⟨us,[]⟩=pure (ps.zip us)) h
section
variable{mg:Str->Option Fe}{j:Nat}{q:Str}{N:L0 Str}{st:ID}
theorem fsc{P:L0 Str}{f:Ir}(a:f.kind=.function:=by rfl)(b:f.isCoroutine=false:=by rfl)(c:f.isGenerator=false:=by rfl)(d:N.Nodup:=by decide+kernel)(e:N.take P.length=P:=by rfl)(g:∀x∈P,f.names.lookup x=LH .local\/f.names.lookup x=LH .cell:=by decide+kernel)(h:∀y∈f.names,y.2≠.free:=by decide+kernel):aq N P f:=⟨a,b,c,d,e,g,h⟩
theorem Fun.okA(F:Fun K x q st f fd)(S:aq N ps (aj st))(d:∀(b:Fe)(A:Ip)(a:L0 Env)(s:Iq)(H:Hp)(vs:L0 V)(Q:VK)(E:XK),bI k (A.deeper<|envOfC q (aj st) ↥s f b)->sp vs H Q E->∃t,PSs (bA CX0 P w K mg base N q (aj st) f b A a s H E).nox (cx st) t/\t { nx:=λ_ H'=>Q .non H',rt:=Q } (start N vs) H)(c:∀vs H Q E,sp vs H Q E->⇑vs=⇑ps:=by intro vs H Q E h;cases h;subst_vars;rfl):aD P w K mg base CX0 (k+1) f fd ps sp:=F.ok S c d
theorem Fun.okEA(F:Fun K x q st f fd)(S:aq N ps (aj st))(d:∀(b:Fe)(A:Ip)(a:L0 Env)(s:Iq)(H:Hp)(vs:L0 V)(Q:VK)(E:XK),bI k (A.deeper<|envOfC q (aj st) ↥s f b)->sp vs H Q E->∃t,PSs (cxE P w K mg base N q (aj st) f b A a s H E) (cx st) t/\t { nx:=λ_ H'=>Q .non H',rt:=Q } (start N vs) H)(c:∀vs H Q E,sp vs H Q E->⇑vs=⇑ps:=by intro vs H Q E h;cases h;subst_vars;rfl):aD P w K mg base (CX1 P w) (k+1) f fd ps sp:=F.okE S c d
theorem Callee.up(c:Callee P w K mg base j x ps sp)(h:j<=k:=by decide):Callee P w K mg base k x ps sp:=c.mono h
theorem br.up(c:br P w K mg base j x ps sp)(h:j<=k:=by decide):br P w K mg base k x ps sp:=c.mono h
theorem bh.up(c:bh CX P w K mg base j C m ps sp)(h:j<=k:=by decide):bh CX P w K mg base k C m ps sp:=c.mono h
theorem bf.up(c:bf CX P w K mg base j x C ps sp)(h:j<=k:=by decide):bf CX P w K mg base k x C ps sp:=c.mono h
theorem bZ.up(c:bZ CX P w K mg base j x m ps sp)(h:j<=k:=by decide):bZ CX P w K mg base k x m ps sp:=c.mono h
inductive GF(K:W.Frag)(x q:Str)(st:ID):Prop
 |mk {f:HA}{fd:Jy}(a:W.nsIn K Ia x=LH (LH<|.ref f))(F:Fun K q q st f fd)
inductive MF(K:W.Frag)(C:HA)(x q:Str)(st:ID):Prop
 |mk {f:HA}{fd:Jy}(a:W.findIn K (.ref C) x=LH (LH<|.ref f))(i:W.isFn K (.ref f)=LJ)(F:Fun K x q st f fd)
inductive KF(K:W.Frag)(C:HA)(x q:Str)(st:ID):Prop
 |mk {f:HA}{fd:Jy}(a:W.findIn K (.ref C) "__init__" = LH (LH<|.ref f)) (i:W.isFn K (.ref f)=LJ)(m:W.makesIn K C=LJ)(k:W.keepIn K (.ref C)=LJ)(n:W.nsIn K Ia x=LH (LH<|.ref C))(F:Fun K "__init__" q st f fd)
inductive BF(K:W.Frag)(C:HA)(x m q:Str)(st:ID):Prop
 |mk {f:HA}{fd:Jy}(s:W.specialIn K (.ref C) "__getattribute__" = LH (LH<|.builtin "type.__getattribute__")) (r:W.readsIn K C (.type "type")=LJ) (a:W.findCls K (.ref C) (.type "type") m=LH (.val<|.ref f)) (n:W.nsIn K Ia x=LH (LH<|.ref C))(F:Fun K m q st f fd)
inductive Zb(P:Fw)(w:Fn)(K:W.Frag)(mg:Str->Option Fe)(base:HB):Prop
 |mk {h:HB}(X:K.In h)(G:h.Ns Ia mg)
theorem Zb.g(Z:Zb P w K mg base){v:Fe}(e:W.nsIn K Ia x=LH (LH v)):mg x=LH v:=by cases Z with|mk X G=>calc W.mg_of X G e
theorem mkC(Z:Zb P w K mg base)(h:GF K x q st)(O:∀{f:HA}{fd:Jy},Fun K q q st f fd->aD P w K mg base CX0 k f fd ps sp)(b:∀{f:HA}{fd:Jy},Fun K q q st f fd->Binds K fd ps []:=by trivial):Callee P w K mg base k x ps sp:=by
 cases h with|mk a F=>calc⟨_,_,O F,b F,F.kp,Z.g a⟩
theorem mkX(Z:Zb P w K mg base)(h:GF K x q st)(O:∀{f:HA}{fd:Jy},Fun K q q st f fd->aD P w K mg base (CX1 P w) k f fd ps sp)(b:∀{f:HA}{fd:Jy},Fun K q q st f fd->Binds K fd ps []:=by trivial):br P w K mg base k x ps sp:=by
 cases h with|mk a F=>calc⟨_,_,O F,b F,F.kp,Z.g a⟩
theorem mkM(_:Zb P w K mg base)(h:MF K C m q st)(O:∀{f:HA}{fd:Jy},Fun K m q st f fd->aD P w K mg base CX k f fd ps sp)(b:∀{f:HA}{fd:Jy},Fun K m q st f fd->Binds K fd ps []:=by trivial):bh CX P w K mg base k C m ps sp:=by
 cases h with|mk a i F=>calc⟨_,_,⟨a,i,F.kp⟩,O F,b F⟩
theorem mkK(Z:Zb P w K mg base)(h:KF K C x q st)(O:∀{f:HA}{fd:Jy},Fun K "__init__" q st f fd->aD P w K mg base CX k f fd ps sp) (b:∀{f:HA}{fd:Jy},Fun K "__init__" q st f fd->Binds K fd ps []:=by trivial):bf CX P w K mg base k x C ps sp:=by
 cases h with|mk a i m k n F=>calc⟨_,_,⟨m,a,i,k⟩,O F,b F,Z.g n⟩
theorem mkB(Z:Zb P w K mg base)(h:BF K C x m q st)(O:∀{f:HA}{fd:Jy},Fun K m q st f fd->aD P w K mg base CX k f fd ps sp)(b:∀{f:HA}{fd:Jy},Fun K m q st f fd->Binds K fd ps []:=by trivial):bZ CX P w K mg base k x m ps sp:=by
 cases h with|mk s r a n F=>calc⟨_,_,_,⟨s,r,a,F.kp⟩,O F,b F,Z.g n⟩
theorem mkR{sp:Nat->Sp}(Z:Zb P w K mg base)(h:GF K x q st)(k n:Nat)(z:∀{vs:L0 V}{H:Hp}{Q:VK}{E:XK},¬ sp 0 vs H Q E)(O:∀{f:HA}{fd:Jy}(n:Nat),Fun K q q st f fd->Callee P w K mg base (k+n) x ps (sp n)->aD P w K mg base CX0 (k+n+1) f fd ps (sp<|n+1))(b:∀{f:HA}{fd:Jy},Fun K q q st f fd->Binds K fd ps []:=by trivial):Callee P w K mg base (k+n) x ps (sp n):=by
 cases h with|mk a F =>
 calc⟨_,_,?_,b F,F.kp,Z.g a⟩;induction n with
 |zero=>exact aD.no λ_ _ _ _ h=>z h
 |succ n c=>calc O n F ⟨_,_,c,b F,F.kp,Z.g a⟩
def gv_mk{v:V}{u:Fe}(a:W.nsIn K Ia x=LH (LH u))(r:RelV v u):∃u,W.nsIn K Ia x=LH (LH u)/\RelV v u:=⟨u,a,r⟩
end
section
variable{h':HB}
theorem Inv.turnedPair{ch:L0 HA}{T:HA}{x y:V}{u v:Fe}(I:Inv X LM σ H s)(h:∀b∈ch,ko X LM H b)(k:∀b o,b ∉ ch->s.heap.get? b=LH o->h'.get? b=LH o)
  (A:s.heap.get? T=LI)(D:H T=LI)(E:Lu h' T u v)(t:RelV x u)(p:RelV y v):Inv X LM σ (upd H T<|.tup [x,y]) { s with heap:=h' }:=by
 let out:∀b u,H b=LH u->b ∉ ch:=λb u e z=>by
  let f:=(h b z).1;rw[f]at e;cases e
 let j:∀{b o},s.heap.get? b=LH o->b≠T:=λe z=>by rw[z,A]at e;cases e
 let a:∀{b u},H b=LH u->b≠T:=λe z=>by rw[z,D]at e;cases e
 let J:=Inv.step (H':=upd H T<|.tup [x,y]) (h':=h') (g':=s.gens) (d':=s.drawn) (t':=s.toks) (ch:=ch) I
  (λb g=>by let(_,i,_,K,G,F):=h b g;exact⟨K,i,G,F⟩)
  (λb o _ _ d e _=>k b o d e)
  (λb o _ _ d e _=>⟨o.slots,k b o d e⟩)
  (λb o _ e n=>by rw[av (j e)];exact n)
  (λb o d e=>⟨o,k b o d e⟩)
  (λb l e=>by rw[av (a e)];exact e)
  (λb o w e=>by rw[av (a e)];exact e)
  (λb ps e=>⟨#[],by rw[av (a e),e];simp⟩)
  (λm C=>by
   let(o,L,M,B,r):=C;calc⟨o,L,M,k _ o (λz=>?_) B,r⟩;let(_,i,_):=h _ z;exact i U)
  (λb w e=>by
   by_cases g:b=T
   .subst g;rw[ae]at e;cases e;exact⟨by show 2<=HL;decide,[u,v],.cons t<|.cons p .nil,_,E,U,_,U⟩
   .rw[av g]at e;refine(I.hok b w e).stay (λc z d q=>k c z ?_ q) (λc q=>?_) λc l q=>?_
    .rcases d with z|z
     .rw[z];exact out b w e
     .exact out c _ z
    .rw[av (a q)];exact q
    .rw[av (a q)];exact q)
  I.bare
 calc J
theorem Inv.turnedL{ch:L0 HA}(I:Inv X LM σ H s)(d:∀b∈ch,ko X LM H b)(k:∀b o,b ∉ ch->s.heap.get? b=LH o->h'.get? b=LH o):Inv X LM σ H { s with heap:=h' }:=by
 let out:∀b u,H b=LH u->b ∉ ch:=λb u e z=>by
  let f:=(d b z).1;rw[f]at e;cases e
 let J:=Inv.step (H':=H) (h':=h') (g':=s.gens) (d':=s.drawn) (t':=s.toks) (ch:=ch) I
  (λb l=>by let(_,g,_,v,t,p):=d b l;exact⟨v,g,t,p⟩)
  (λb o _ _ a e _=>k b o a e)
  (λb o _ _ a e _=>⟨o.slots,k b o a e⟩)
  (λb o _ _ n=>n)
  (λb o a e=>⟨o,k b o a e⟩)
  (λb h e=>e) (λb o w e=>e) (λb ps e=>⟨#[],by rw[e];simp⟩)
  (λm j=>by
   let(o,x,y,i,r):=j;calc⟨o,x,y,k _ o (λz=>?_) i,r⟩;let(_,g,_):=d _ z;exact g U)
  (λb w e=>by
   refine(I.hok b w e).stay (λc z a q=>k c z ?_ q) (λc q=>q) λc h q=>q
   rcases a with z|z
   .rw[z];exact out b w e
   .exact out c _ z)
  I.bare
 calc J
end
def Itz(K:W.Frag)(a b:HA):It :=
 ⟨λi H=>∃d c x y,SqL K H a d/\SqL K H b c/\d[i]?=LH x/\c[i]?=LH y,
 λi H v e=>∃T,H T=LI/\v=.ref T/\∀d c x y,SqL K H a d->SqL K H b c->d[i]?=LH x->c[i]?=LH y->e=upd H T (.tup [x,y]),
 λi H=>∃d c,SqL K H a d/\SqL K H b c/\(⇑d<=i\/⇑c<=i)⟩
def Ba(z TI TO d c a b:HA)(i:Nat)(h:HB):Prop:=IsZip h z TI TO .none/\Lu h TI (.ref d) (.ref c)/\(∃p q,Lu h TO p q)/\h.IsListIter d a i/\h.IsListIter c b i
theorem xX{P:Fw}{w:Fn}{K:W.Frag}{A:L0 Iz} {x1} {tp:Pos}{z TI TO t r a b:HA}(D:Lv z TI TO t r a b) :
  Turn P w K (.Tuple A x1 tp) (Itz K a b) [z,TI,TO,t,r] z (Ba z TI TO t r a b) where
 mem:=by simp
 obj:=λi h f c d=>by
  let(n,g,(p,q,m),(o4,l,_,d4),(o5,j,_,d5)):=f;simp only[bL,jt,or_false]at d;rcases d with rfl|rfl|rfl|rfl|rfl
  .exact⟨_,n,λv q=>nomatch q⟩
  .exact⟨_,g,λv q=>nomatch q⟩
  .exact⟨_,m,λv q=>nomatch q⟩
  .exact⟨_,l,λv q=>by rw[d4]at q;cases q⟩
  .exact⟨_,j,λv q=>by rw[d5]at q;cases q⟩
 keep:=λi h h' f k=>by
  let(n,g,(p,q,m),l,j):=f;exact⟨k z (by simp) _ n,k TI (by simp) _ g,⟨p,q,k TO (by simp) _ m⟩,l.at λo e=>k t (by simp) o e,j.at λo e=>k r (by simp) o e⟩
 item:=by
  intro X R N S d i LM s σ H E I F f Q;subst R N S;let(xs,ys,x,y,C,B,ex,ey):=Q;let(n,g,(p,q,m),l,j):=f;let(us,L,M,_):=I.list C;let(vs,G,pv,_):=I.list B;let(u,eu,r1):=L.get ex;let(v,ev,r2):=G.get ey;refine Lw D n g m l j M.isList pv.isList (x:=u) (y:=v) (~~~eu) (~~~ev) λh1 a1 a2 a3 a4 a5 a6 a7=>?_
  calc⟨_,U,wpAny_letOwnedTupleGo_zip (s:={ s with heap:=h1 }) a1 λV b1 b2=>?_⟩;let nT:s.heap.get? ↥s=none:=by
   cases q:s.heap.get? ↥s with
   |none=>rfl
   |some o=>exact LP (HB.lt_size q) (za _)
  let hT:H ↥s=none:=I.hok.fresh<|wX _;let nz:↥s≠z:=xa<|HB.lt_size n;let kk:∀c o,c ∉ [z,TO,t,r]->s.heap.get? c=LH o->V.get? c=LH o:=λc o d e=>by
   simp only[bL,jt,or_false,not_or]at d;exact b2.extBut _ _ d.1<|a7 c o d.1 d.2.1 d.2.2.1 d.2.2.2 e
  let J:=I.turnedPair (h':=V) (ch:=[z,TO,t,r]) (T:=↥s) (x:=x) (y:=y) (u:=u) (v:=v) (λc d=>F c (by simp at d⊢;rcases d with e|e|e|e <;> simp[e])) kk nT hT (b2.extBut _ _ nz a5) r1 r2;refine⟨.ref ↥s,upd H ↥s<|.tup [x,y],J,U,⟨_,hT,U,λb0 a9 x' y' q1 q2 Z Y=>?_⟩,⟨b1,b2.extBut _ _ D.TIz<|a7 TI _ D.TIz D.TITO D.TIi1 D.TIi2 g,⟨_,_,b2.extBut _ _ D.TOz a2⟩,a3.extBut b2.extBut D.i1z,a4.extBut b2.extBut D.i2z⟩,λc d=>?_⟩
  .rw[I.list_inj q1 C]at Z;rw[I.list_inj q2 B]at Y;rw[ex]at Z;rw[ey]at Y;cases Z;cases Y;rfl
  .let h0:=(F c d).1;let:c≠↥s:=by
    let(o4,a8,_):=l;let(o5,a0,_):=j;simp only[bL,jt,or_false]at d;rcases d with rfl|rfl|rfl|rfl|rfl
    .exact nz.symm
    .exact wY<|HB.lt_size g
    .exact wY<|HB.lt_size m
    .exact wY<|HB.lt_size a8
    .exact wY<|HB.lt_size a0
   rw[av this];exact h0
 done:=by
  intro X R N S d i LM s σ H E I F f Q;subst R N S;let(xs,ys,C,B,O):=Q;let(n,g,(p,q,m),l,j):=f;let(us,L,M,_):=I.list C;let(vs,G,pv,_):=I.list B;let l1:=L.length;let l2:=G.length;refine Lx (I.ok.hd d) D n g m l j M.isList pv.isList ?_ λV k=>⟨U,I.turnedL (ch:=[z,TO,t,r]) (λc d=>F c (by simp at d⊢;rcases d with e|e|e|e <;> simp[e])) λc o d e=>?_⟩
  .rcases O with O|O
   .exact .inl (by simp;lia)
   .exact .inr (by simp;lia)
  .simp only[bL,jt,or_false,not_or]at d;exact k c o d.1 d.2.1 d.2.2.1 d.2.2.2 e
 self:=λ_ _ _ _ _ f h=>Ly f.1 h
inductive Bb(K:W.Frag)(R:It->Hp->Prop)(vs:L0 V)(H1:Hp):Prop
 |mk (a b:_)(_:vs=[.ref a,.ref b])(_:(∃xs,SqL K H1 a xs))(_:(∃ys,SqL K H1 b ys))(_:R (Itz K a b) H1)
def Fb(K:W.Frag)(b:TA):TI:=λσ H R=>b σ H λa c=>Bb K R a c
theorem tS{k e:Iz}{m:TA}{p pos:Pos}{j:L0 Iz} {x1} {tp:Pos}(N:Gl X "zip") (hm:X.mg "zip" = LI) (O:PA X [k,e] m)
  (M:IC [k,e] X.env=[(LK,eval k X.env),(LK,eval e X.env)]:=by rfl)(g:IC [e] X.env=[(LK,eval e X.env)]:=by rfl) :
  PI X (.Tuple j x1 tp) (.Call (.Name "zip" p) [k,e] [] pos) (Fb X.K m):=by
 intro LM s σ H R I h;refine Call_ (dY I N hm PyProof.Rows.boot_zip<|PyProof.Rows.callWith_type1 (thn (O pos LM s σ H _ I h) λC d ⟨B,T,f,F,L⟩=>?_) (by rw[M,g]) (by rw[g];rfl));let(a,b,rfl,(Y,J),(W,G),q):=L;let(u,v,rfl,E,D):=F.two;cases (show u=Fe.ref a from E);cases (show v=Fe.ref b from D);let(C,_,n,_):=f.list J;let(B,_,pv,_):=f.list G;let(oa,S,_):=id n.isList;let(Z,Q,_):=id pv.isList;let r:a<↥d:=HB.lt_size S;let o:b<↥d:=HB.lt_size Q;refine call_zip_2 n.isList pv.isList λP l A z y x V w=>?_
 calc Ly (s:={ d with heap:=P }) l ?_;refine⟨↥d+4,[↥d+4,↥d+2,↥d+3,↥d,↥d+1],Ba (↥d+4) (↥d+2) (↥d+3) ↥d (↥d+1) a b,Itz X.K a b,T,U,f.kept (t':=d.toks) w,xX ?_,⟨l,A,⟨_,_,z⟩,y,x⟩,λc t=>?_,q⟩
 .refine⟨?_,?_,?_,?_,?_,?_,?_,?_,?_,?_,?_,?_,?_,?_,?_,?_,?_,?_⟩ <;> first|exact wY ∅|exact xa ∅|exact wY r|exact wY o|exact wY (w6 r<|zc _ _)|exact wY (w6 o<|zc _ _)
 .let i:↥d<=c:=by
   simp only[bL,jt,or_false]at t;rcases t with rfl|rfl|rfl|rfl|rfl <;> lia
  calc f.fpOk i<|f.hok.fresh i
theorem uX{K:W.Frag}{a b:HA}{xs ys:L0 V}{g:TG}{o:TS}{D:Ends}{σ:St}{H:Hp}(c:Nat->St->Hp->Prop)(z:c 0 σ H)(u:∀i σ H,c i σ H->SqL K H a xs/\SqL K H b ys)
  (t:∀i x y σ H T,xs[i]?=LH x->ys[i]?=LH y->c i σ H->H T=LI->g (.ref T) σ (upd H T<|.tup [x,y]) λd n=>o { D with nx:=c<|i+1,ct:=c<|i+1,bk:=D.nx } d n)
  (hd:∀σ H,c (min ⇑xs ⇑ys) σ H->D.nx σ H) :
  ∃W:Nat->Nat->St->Hp->Prop,(∃m,W 0 m σ H)/\∀i m σ H,W i m σ H ->
   ((Itz K a b).stop i H/\D.nx σ H)\/((Itz K a b).go i H/\∃N:St->Hp->Prop,(∀f H',N f H'->∃q,q<m/\W (i+1) q f H')/\∀x H',(Itz K a b).yld i H x H'->g x σ H' λd n=>o { D with nx:=N,ct:=N,bk:=D.nx } d n):=by
 refine⟨λi m σ H=>m=min ⇑xs ⇑ys-i/\i<=min ⇑xs ⇑ys/\c i σ H,⟨min ⇑xs ⇑ys,by simp,wZ _,z⟩,?_⟩;rintro i m σ H ⟨rfl,hi,p⟩;let(j,h):=u i σ H p;by_cases lt:i<min ⇑xs ⇑ys
 .let l:xs[i]?=LH xs[i]:=Ij ∅;let k:ys[i]?=LH ys[i]:=Ij ∅;refine .inr ⟨⟨xs,ys,_,_,j,h,l,k⟩,c<|i+1,λf H' s=>⟨_,?_,U,lt,s⟩,λv H' r=>?_⟩
  .lia
  .let(T,w,rfl,e):=r;rw[e xs ys _ _ j h l k];exact t i _ _ σ H T l k p w
 .let e:i=min ⇑xs ⇑ys:=∅
  subst e;calc .inl ⟨⟨xs,ys,j,h,∅⟩,hd σ H p⟩
def n6{X:Cx}{K:W.Frag}(h:X.K=K):cG X (.type "list") (λxs H Q=>∃p ys,xs=[.ref p]/\(SqL K H p ys\/SqT K H p ys)/\∀l,H l=LI->Q (.ref l) (upd H l<|.lst ys)):=h ▸ de
set_option maxRecDepth 100000
abbrev jg(h:HB)(z TI TO a:HA)(b:Bool):Prop :=
 h.get? z=LH { cls:=.type "zip",dict:=LI,data:=.fields #[I0 a,.bool b,.bool LK,.ref TI,.ref TO],slots:=#[] }
def jU{a:HA}{Q:Option Obj->Iq->Prop}(h:Q (s.heap.get? a) s):Iw (model prog w) A (loadIfAlive a) Q E s:=λ_ _ _=>h
theorem oV{z TI TO a:HA}{b:Bool}{o:Obj}{Q:Bool->Iq->Prop}(hz:jg s.heap z TI TO a b)(d:s.heap.get? a=LH o)
  (h:∀h',jg h' z TI TO a LJ->HB.SameBut z s.heap h'->Q LK { s with heap:=h' }):Iw (model prog w) A (Ji.SmallTypes.ownedTupleIsFree<|.ref z) Q E s:=by
 unfold Ji.SmallTypes.ownedTupleIsFree;calc E2<|Kl hz U (x:=I0 a) U ?_;show Iw _ _ (loadIfAlive ((a:Int).toNat) >>= _) _ _ _;calc E2<|jU ?_;rw[DG,d];simp only[Option.isNone_some,DB,if_false];calc E2<|Kl hz U (x:=.bool b) U ?_;cases b with
 |true =>
  rw[LN (by simp)];calc E6 ?_;let e:s={ s with heap:=s.heap }:=by cases s;rfl
  rw[e];exact h s.heap hz<|HB.SameBut.refl z s.heap
 |false =>
  rw[LO ⋯];refine E2 (Lb hz (by simp) λf g c=>?_);calc E6<|h f g c
theorem wb{z TI TO u i p q t:HA}{W:Bool}{k1 k2:Nat}{xs ys:Array Fe}{x y a b:Fe}{o:Obj}{Q:Option Fe->Iq->Prop}(D:Lv z TI TO i p q t)
  (hz:jg s.heap z TI TO u W)(G:s.heap.get? u=LH o)(C:Lu s.heap TI (.ref i) (.ref p))(X:Lu s.heap TO a b)
  (R:s.heap.IsListIter i q k1)(P:s.heap.IsListIter p t k2)(B:s.heap.IsList q xs)(v:s.heap.IsList t ys)(N:xs[k1]?=LH x)(M:ys[k2]?=LH y)
  (O:∀h',jg h' z TI TO u LJ->h'.IsListIter i q (k1+1)->h'.IsListIter p t (k2+1)->Lu h' ↥s x y->h'.objs.size=↥s+1 ->
   (∀c o,c≠z->c≠i->c≠p->s.heap.get? c=LH o->h'.get? c=LH o)->Q (LH<|.ref ↥s) { s with heap:=h' }) :
  Iw (model prog w) A (IX<|.ref z) Q E s:=by
 let H:s.TypeIs (.ref z) "zip" := ⟨_,hz,U⟩;unfold IX;calc E2<|Ku<|K7 (name:=s!"__next__") H F.slot_zip_next<|K8 F.slot_zip_next H F.entry_zip_next ?_<|F.args_zip_next_1 _;show Iw _ _ (field (.ref z) 2 >>= _) _ _ _;calc E2<|Kl hz U (x:=.bool LK) U ?_;show Iw _ _ (field (.ref z) 3 >>= _) _ _ _;calc E2<|Kl hz U (x:=.ref TI) U ?_;calc E2<|Lh C U ?_;show Iw _ _ (Ji.SmallTypes.ownedTupleIsFree (.ref z) >>= _) _ _ _;calc E2<|oV hz G λK k d=>?_;simp only[DB,if_false];calc E2 ?_;rw[←Array.forIn_toList];simp only[List.forIn_cons,List.forIn_nil];calc E2<|E2<|Fc ?_;show Iw _ _ (Ji.SmallTypes.nextOf (.ref i) >>= _) _ _ _;calc E2<|Lz (R.extBut d.extBut D.i1z) (B.extBut d.extBut D.l1z) N λJ n g=>E6 ?_;calc E6 ?_;dsimp only;calc E2<|E2<|Fc ?_;show Iw _ _ (Ji.SmallTypes.nextOf (.ref p) >>= _) _ _ _;calc E2<|Lz ((P.extBut d.extBut D.i2z).extBut g.extBut D.i12.symm) ((v.extBut d.extBut D.l2z).extBut g.extBut D.l2i1) M λf l h=>E6 ?_;calc E6 ?_;dsimp only;calc E6 ?_;refine E2 (Ll ?_ (by show 2<=HL;decide));let r:f.objs.size=↥s:=by rw[h.1,g.1,d.1]
 calc E6 ⟨_,U,E6 ?_⟩;show Q (LH<|.ref f.objs.size) _;let j:jg f z TI TO u true:=h.extBut _ _ D.i2z.symm<|g.extBut _ _ D.i1z.symm k;let m:f.IsListIter i q (k1+1):=n.extBut h.extBut D.i12;let I:(f.push { cls:=.type "tuple",data:=.seq #[x,y] }).get? f.objs.size=LH { cls:=.type "tuple",data:=.seq #[x,y] }:=HB.get?_push_size _ U;let L:(f.push { cls:=.type "tuple",data:=.seq #[x,y] }).objs.size=↥s+1:=by rw[HB.size_push,r]
 rw[r]at I⊢;calc O _ (HB.get?_push_of_some _ j) (m.at λo e=>HB.get?_push_of_some _ e) (l.at λo e=>HB.get?_push_of_some _ e) I L λc o V T S e=>HB.get?_push_of_some _<|h.extBut _ _ S<|g.extBut _ _ T<|d.extBut _ _ V e
theorem xY{z TI TO N j i p n:HA}{Y:Bool}{k1 k2:Nat}{xs ys:Array Fe}{a b:Fe}{o:Obj}{Q:Option Fe->Iq->Prop}(J:A.handled=LI)(D:Lv z TI TO j i p n)
  (hz:jg s.heap z TI TO N Y)(G:s.heap.get? N=LH o)(C:Lu s.heap TI (.ref j) (.ref i))(Z:Lu s.heap TO a b)
  (L:s.heap.IsListIter j p k1)(X:s.heap.IsListIter i n k2)(l:s.heap.IsList p xs)(y:s.heap.IsList n ys)(R:xs[k1]?=LI\/ys[k2]?=LI)
  (W:∀h',(∀c o,c≠z->c≠j->c≠i->s.heap.get? c=LH o->h'.get? c=LH o)->Q LI { s with heap:=h' }) :
  Iw (model prog w) A (IX<|.ref z) Q E s:=by
 let K:s.TypeIs (.ref z) "zip" := ⟨_,hz,U⟩;unfold IX;calc E2<|Ku<|K7 (name:=s!"__next__") K F.slot_zip_next<|K8 F.slot_zip_next K F.entry_zip_next ?_<|F.args_zip_next_1 _;show Iw _ _ (field (.ref z) 2 >>= _) _ _ _;calc E2<|Kl hz U (x:=.bool LK) U ?_;show Iw _ _ (field (.ref z) 3 >>= _) _ _ _;calc E2<|Kl hz U (x:=.ref TI) U ?_;calc E2<|Lh C U ?_;show Iw _ _ (Ji.SmallTypes.ownedTupleIsFree (.ref z) >>= _) _ _ _;calc E2<|oV hz G λP H d=>?_;simp only[DB,if_false];calc E2 ?_;rw[←Array.forIn_toList];simp only[List.forIn_cons,List.forIn_nil];calc E2<|E2<|Fc ?_;show Iw _ _ (Ji.SmallTypes.nextOf (.ref j) >>= _) _ _ _
 let fin:∀h' e,(∀c o,c≠z->c≠j->c≠i->s.heap.get? c=LH o->h'.get? c=LH o)->(∃o,h'.get? e=LH o/\o.cls=.type "StopIteration") ->
   Iw (model prog w) A (do if ←isInstance (.ref e) (.type "StopIteration")then pure LI else throw (.ref e)) Q E { s with heap:=h' }:=λh' e k ⟨S,v,B⟩=>by
  calc E2<|Lf (T := "StopIteration") (b:=LJ) ⟨S,v,B⟩ Lg ?_;exact E6<|W _ k
 cases hx:xs[k1]? with
 |none =>
  calc E2<|LA J (L.extBut d.extBut D.i1z) (l.extBut d.extBut D.l1z) hx λm e f r=>?_;exact fin _ _ (λc o u t M q=>f _ _ t<|d.extBut _ _ u q) r
 |some x =>
  let V:ys[k2]?=none:=by rcases R with h|h;rw[hx]at h;cases h;exact h
  calc E2<|Lz (L.extBut d.extBut D.i1z) (l.extBut d.extBut D.l1z) hx λm I f=>E6 ?_;calc E6 ?_;dsimp only;calc E2<|E2<|Fc ?_;show Iw _ _ (Ji.SmallTypes.nextOf (.ref i) >>= _) _ _ _;calc E2<|LA J ((X.extBut d.extBut D.i2z).extBut f.extBut D.i12.symm) ((y.extBut d.extBut D.l2z).extBut f.extBut D.l2i1) V λO e g r=>?_;calc fin _ _ (λc o u t M q=>g _ _ M<|f.extBut _ _ t<|d.extBut _ _ u q) r
section
variable{R:Js->Iq->Prop}
def neA{a T:HA}{N:Nat}(h:a<N)(h':N<=T):T≠a:=xa<|w6 h h'
def Bc(h:HB)(z TI TO:HA)(N:Nat)(i:Nat):Prop:=(i=0/\IsZip h z TI TO .none)\/∃a b o,N<=a/\a≠z/\jg h z TI TO a b/\h.get? a=LH o/\o.cls=.type "tuple"
theorem tT{z TI TO B v K J S:HA}{xs ys:Array Fe}{H:Fe}(hh:A.handled=LI)(D:Lv z TI TO B v K J)(N:Nat)(hz:z<N)(c0:TI<N)(a8:TO<N)(W:B<N)(V:v<N)(b7:K<N)(b6:J<N)(hS:S<N)
  (m:S≠z/\S≠TI/\S≠TO/\S≠B/\S≠v/\S≠K/\S≠J)(hn:min xs.size ys.size<=HL) :
  ∀(d i:Nat)(s:Iq)(l:Array Fe)(c:Nat)(ts:L0 HA),min xs.size ys.size=i+d->N<=↥s->Bc s.heap z TI TO N i->Lu s.heap TI (.ref B) (.ref v)->(∃a b,Lu s.heap TO a b) ->
   s.heap.IsListIter B K i->s.heap.IsListIter v J i->s.heap.IsList K xs->s.heap.IsList J ys->s.heap.get? S=LH { cls:=.type "list",dict:=LI,data:=.seq l c,slots:=#[] } ->
   l.toList=ts.map Fe.ref->⇑ts=i->ts.Nodup->(∀(j:Nat)(T:HA),ts[j]?=LH T->N<=T/\∃x y,xs[j]?=LH x/\ys[j]?=LH y/\Lu s.heap T x y) ->
   (∀(h':HB)(xV:Array Fe)(c':Nat)(n:L0 HA),(∀b o,b<N->b≠S->b≠z->b≠TO->b≠B->b≠v->s.heap.get? b=LH o->h'.get? b=LH o)->h'.get? S=LH { cls:=.type "list",dict:=LI,data:=.seq xV c',slots:=#[] } ->
    xV.toList=n.map Fe.ref->⇑n=min xs.size ys.size->n.Nodup->(∀(j:Nat)(T:HA),n[j]?=LH T->N<=T/\∃x y,xs[j]?=LH x/\ys[j]?=LH y/\Lu h' T x y)->R (.ok<|.ret H) { s with heap:=h' }) ->
   Jt (model prog w) A (.builtin "list.extend.loop" ⟨[.ref S,.ref z,H],[]⟩) R s:=by
 intro d;induction d with
 |zero =>
  intro i s l c ts e hN r X ⟨a,b,p2⟩ t1 t2 q1 q2 g ea el nd hts fin;calc Kq F.entry_extend_loop ?_;rw[Ip.under_plainId F.plain_extend_loop _];show Iw _ A.in1 (IX (.ref z) >>= _) _ _ s;let qK:xs[i]?=LI\/ys[i]?=none:=by
   by_cases hx:xs.size<=i
   .exact .inl<|Array.getElem?_eq_none hx
   .exact .inr<|Array.getElem?_eq_none ∅
  let P:∀h',(∀b o,b≠z->b≠TO->b≠B->b≠v->s.heap.get? b=LH o->h'.get? b=LH o)->R (.ok<|.ret H) { s with heap:=h' }:=λh' k=>by
   refine fin h' l c ts (λb o _ _ O b2 M L q=>k b o O b2 M L q) (k S _ m.1 m.2.2.1 m.2.2.2.1 m.2.2.2.2.1 g) ea ∅ nd λj T C=>?_
   let(h,x,y,Q,G,E):=hts j T C;exact⟨h,x,y,Q,G,k T _ (neA hz h) (neA a8 h) (neA W h) (neA V h) E⟩
  rcases r with⟨_,r⟩|⟨Z,bb,o,I,_,r,gT,_⟩
  .exact E2<|Lx (by simp[hh]) D r X p2 t1 t2 q1 q2 qK λh' k=>E6<|P h' k
  .exact E2<|xY (by simp[hh]) D r gT X p2 t1 t2 q1 q2 qK λh' k=>E6<|P h' λb o O _ M L q=>k b o O M L q
 |succ d ih =>
  intro i s l c ts e hN r X ⟨a,b,p2⟩ t1 t2 q1 q2 g ea el nd hts fin;let ix:i<xs.size:=∅
  let iy:i<ys.size:=∅
  calc Kq F.entry_extend_loop ?_;rw[Ip.under_plainId F.plain_extend_loop _];show Iw _ A.in1 (IX (.ref z) >>= _) _ _ s;let a0:l.size=i:=by rw[←A8,ea,bc,el]
  let go:∀h',Bc h' z TI TO N (i+1)->(∃a b,Lu h' TO a b)->h'.IsListIter B K (i+1)->h'.IsListIter v J (i+1)->Lu h' ↥s xs[i] ys[i]->h'.objs.size=↥s+1 ->
    (∀b o,b≠z->b≠TO->b≠B->b≠v->s.heap.get? b=LH o->h'.get? b=LH o) ->
    Iw (model prog w) A.in1 (Lp S (·.push (.ref ↥s)) >>= λ_=>again<|.builtin "list.extend.loop" ⟨[.ref S,.ref z,H],[]⟩)
     (λfin s'=>match fin with | .done f=>R (.ok f) s' | .again c'=>c'.quiet=LJ/\Jt (model prog w) A c' R s') (λe s'=>R (.error e) s') { s with heap:=h' }:=λh' z1 z2 z3 z4 z5 z6 k=>by
   let gS:h'.get? S=LH { cls:=.type "list",dict:=LI,data:=.seq l c,slots:=#[] }:=k S _ m.1 m.2.2.1 m.2.2.2.1 m.2.2.2.2.1 g;refine E2 (Lq gS U ?_ (by rw[a0];lia) (by show(l.push _).size<=HL+1;rw[Array.size_push,a0];lia));let gU:=HB.get?_update_self (Obj.mapSeq (·.push (Fe.ref ↥s))) gS U;generalize hH:h'.update S (Obj.mapSeq (·.push (Fe.ref ↥s)))=h2 at gU⊢;let sb:HB.SameBut S h' h2:=hH ▸ HB.SameBut.update ..;let p:∀b o,b≠S->h'.get? b=LH o->h2.get? b=LH o:=λb o hb q=>(sb.2 b hb).trans q
   let a9:h2.objs.size=↥s+1:=by rw[sb.1,z6]
   refine E6 ⟨KH F.plain_extend_loop _,ih (i+1) { s with heap:=h2 } (l.push<|.ref ↥s) _ (ts++[↥s]) ∅ (by rw[a9];lia) ?_ (p TI _ m.2.1.symm<|k TI _ D.TIz D.TITO D.TIi1 D.TIi2 X) ?_ (z3.at λo q=>p B o m.2.2.2.1.symm q) (z4.at λo q=>p v o m.2.2.2.2.1.symm q)
    ((q1.at λo q=>k K o D.l1z D.l1TO D.l1i1 D.l1i2 q).at λo q=>p K o m.2.2.2.2.2.1.symm q) ((q2.at λo q=>k J o D.l2z D.l2TO D.l2i1 D.l2i2 q).at λo q=>p J o m.2.2.2.2.2.2.symm q) gU (by rw[C8,ea,gd];rfl) (by simp[el]) ?_ (λj T C=>?_) λh3 xV c' n k3 g3 e3 l3 n3 f3=>?_⟩
   .rcases z1 with⟨z',_⟩|⟨Z,bb,o,h,Q,G,E,Y⟩
    .exact LP z' ∅
    .exact .inr ⟨Z,bb,o,h,Q,p z _ m.1.symm G,p Z _ (neA hS h) E,Y⟩
   .let(a',b',q):=z2;exact⟨a',b',p TO _ m.2.2.1.symm q⟩
   .rw[uz];refine⟨nd,by simp,λt ht u hu=>?_⟩;let eu:u=↥s:= ~~~hu
    let(j,C):=List.mem_iff_getElem?.mp ht;let(_,x,y,_,_,gp):=hts j t C;let:=HB.lt_size gp;exact λq=>za _ (by rw[q,eu]at this;exact this)
   .rw[List.getElem?_append]at C;split at C
    .let(h,x,y,Q,G,E):=hts j T C;exact⟨h,x,y,Q,G,p T _ (neA hS h)<|k T _ (neA hz h) (neA a8 h) (neA W h) (neA V h) E⟩
    .rename_i hlt
     have b5:j=i:=by
      let(q,_):=Ik.mp C;simp at q;lia
     subst b5;rw[el,zm]at C;let eT:↥s=T:= ~~~C
     subst eT;exact⟨hN,xs[j],ys[j],BH ix,BH iy,p _ _ (neA hS hN) z5⟩
   .exact fin h3 xV c' n (λb o b0 bS O b2 M L q=>k3 b o b0 bS O b2 M L<|p b o bS<|k b o O b2 M L q) g3 e3 l3 n3 f3
  rcases r with⟨_,r⟩|⟨Z,bb,o,I,DJ,r,gT,cT⟩
  .refine E2<|Lw D r X p2 t1 t2 q1 q2 (x:=xs[i]) (y:=ys[i]) (BH ix) (BH iy) λh' h Q G E Y a6 a7=>?_;exact go h' (.inr ⟨↥s,LK,_,hN,xa<|w6 hz hN,h,Y,U⟩) ⟨_,_,Q⟩ G E Y a6 a7
  .refine E2<|wb D r gT X p2 t1 t2 q1 q2 (x:=xs[i]) (y:=ys[i]) (BH ix) (BH iy) λh' h G E Y a6 a7=>?_;calc go h' (.inr ⟨Z,LJ,o,I,DJ,h,a7 Z o DJ (neA W I) (neA V I) gT,cT⟩) ⟨_,_,a7 TO _ D.TOz D.TOi1 D.TOi2 p2⟩ G E Y a6 λb o O _ M L q=>a7 b o O M L q
end
set_option maxRecDepth 100000
theorem tU:JM (.type "zip") "__len__" = pure none:=by rw[K0,K1];kernel_rfl
theorem qR:JM (.type "zip") "__length_hint__" = pure none:=by rw[K0,K1];kernel_rfl
theorem n8{z TI TO m l I H:HA}{xs ys:Array Fe}{Q:Fe->Iq->Prop}(hh:A.handled=LI)(D:Lv z TI TO m l I H)(G:IsZip s.heap z TI TO .none)(V:Lu s.heap TI (.ref m) (.ref l))(S:Lu s.heap TO .none .none)
  (t1:s.heap.IsListIter m I 0)(O:s.heap.IsListIter l H 0)(R:s.heap.IsList I xs)(P:s.heap.IsList H ys)(Z:min xs.size ys.size<=HL)
  (h:∀(h':HB)(i:Array Fe)(c:Nat)(ts:L0 HA),(∀b o,b≠z->b≠TO->b≠m->b≠l->s.heap.get? b=LH o->h'.get? b=LH o)->h'.get? ↥s=LH { cls:=.type "list",dict:=LI,data:=.seq i c,slots:=#[] } ->
   i.toList=ts.map Fe.ref->⇑ts=min xs.size ys.size->ts.Nodup->(∀(j:Nat)(T:HA),ts[j]?=LH T->↥s+1<=T/\∃x y,xs[j]?=LH x/\ys[j]?=LH y/\Lu h' T x y)->Q (.ref ↥s) { s with heap:=h' }) :
  Iw (model prog w) A (call (.type "list") [.ref z]) Q E s:=by
 let L:z<↥s:=HB.lt_size G;let B:TI<↥s:=HB.lt_size V;let v:TO<↥s:=HB.lt_size S;let u:m<↥s:=let ⟨_,e,_⟩:=t1;HB.lt_size e;let t:l<↥s:=let ⟨_,e,_⟩:=O;HB.lt_size e;let r:I<↥s:=let ⟨_,e,_⟩:=R;HB.lt_size e;let q:H<↥s:=let ⟨_,e,_⟩:=P;HB.lt_size e
 refine callType_codes (Q₁:=λobj k=>obj=.ref ↥s/\k={ s with heap:=s.heap.push { cls:=.type "list",data:=.seq #[] } }) F.called_list (F.typeCall_list_1 _) F.entry_list_init
  (code_list_new _ ⟨U,U⟩) λobj k C=>?_
 let(rfl,rfl):=C;let K:(s.heap.push { cls:=.type "list",data:=.seq #[] }).get? ↥s=LH { cls:=.type "list",data:=.seq #[] }:=HB.get?_push_size _ U;calc⟨⟨_,K,U⟩,F.args_list_init_2 _ _,?_⟩;show Iw _ _ (do let N ←Ji.List.listItems (.ref ↥s);Ji.List.listUpdate (.ref ↥s) (λ_=>#[]);letGo N.toList.reverse;Ji.List.listExtendWith (.ref ↥s) (.ref z) .none) _ _ _;calc E2 ?_;unfold Ji.List.listItems;calc E2<|Lh K U<|E6 ?_;show Iw _ _ (Lp ↥s (λ_=>#[]) >>= λ_=>letGo (#[]:Array Fe).toList.reverse >>= λ_=>Ji.List.listExtendWith (.ref ↥s) (.ref z) .none) _ _ _;calc E2<|Lq K U ?_;let a:=HB.get?_update_self (Obj.mapSeq<|λ_=>(#[]:Array Fe)) K U;calc E2<|wpAny_letGo ?_;let J:∀b o,s.heap.get? b=LH o->((s.heap.push { cls:=.type "list",data:=.seq #[] }).update ↥s<|Obj.mapSeq<|λ_=>(#[]:Array Fe)).get? b=LH o:=λb o e =>
  (HB.get?_update_other _ _<|xa<|HB.lt_size e).trans (HB.get?_push_of_some _ e)
 let p:((s.heap.push { cls:=.type "list",data:=.seq #[] }).update ↥s<|Obj.mapSeq<|λ_=>(#[]:Array Fe)).objs.size=↥s+1:=by rw[HB.size_update,HB.size_push]
 generalize (s.heap.push { cls:=.type "list",data:=.seq #[] }).update ↥s (Obj.mapSeq<|λ_=>(#[]:Array Fe))=hA at a J p⊢;let M:Iq.TypeIs { s with heap:=hA } (.ref z) "zip" := ⟨_,J _ _ G,U⟩;unfold Ji.List.listExtendWith;calc E2<|Ln M ?_;let h1:Ji.List.listSameRef (.ref ↥s) (.ref z)=false:=by simp[Ji.List.listSameRef];exact xa L
 let h2:(Fe.type "zip" == Fe.type "list")=false:=⋯
 let h3:(Fe.type "zip" == Fe.type "tuple")=false:=⋯
 simp only[h1,h2,h3,Bool.or_false,DB,if_false];calc E2<|Ly (s:={ s with heap:=hA }) (J _ _ G) ?_;calc E2<|Fc ?_;unfold Ji.List.listLengthHint;calc E2<|Lo M tU ?_;show Iw _ _ (specialOf (Fe.ref z) s!"__length_hint__" >>= _) _ _ _;calc E2<|Lo M qR ?_;calc E6 ?_;show Iw _ _ (rule "list.extend.makes-room" >>= λ_=>Ji.List.listTouch (.ref ↥s) >>= λ_ =>
  again (.builtin "list.extend.loop" ⟨[.ref ↥s,.ref z,.none],[]⟩)) _ _ _
 calc E2<|Ky ?_;calc E2 ?_;show Iw _ _ (Lp ↥s (·.push .none) >>= λ_=>Lp ↥s (·.pop)) _ _ _;calc E2<|Lq (s:={ s with heap:=hA }) a U ?_;let f:=HB.get?_update_self (Obj.mapSeq (·.push Fe.none)) a U;refine Lq (hz:=by seq_fits) f U ?_;let d:=HB.get?_update_self (Obj.mapSeq (·.pop)) f U;let g:∀b o,s.heap.get? b=LH o->((hA.update ↥s (Obj.mapSeq (·.push Fe.none))).update ↥s (Obj.mapSeq (·.pop))).get? b=LH o :=
  λb o e=>(HB.get?_update_other _ _<|xa<|HB.lt_size e).trans<|(HB.get?_update_other _ _<|xa<|HB.lt_size e).trans<|J b o e
 let n:((hA.update ↥s (Obj.mapSeq (·.push Fe.none))).update ↥s (Obj.mapSeq (·.pop))).objs.size=↥s+1:=by rw[HB.size_update,HB.size_update,p]
 generalize (hA.update ↥s (Obj.mapSeq (·.push Fe.none))).update ↥s (Obj.mapSeq (·.pop))=hB at d g n⊢
 refine E6 ⟨KH F.plain_extend_loop _,tT (by simp[hh]) D (↥s+1) (xG L) (xG B) (xG v) (xG u) (xG t) (xG r) (xG q) (yg _)
  ⟨xa L,xa B,xa v,xa u,xa t,xa r,xa q⟩ Z (min xs.size ys.size) 0 { s with heap:=hB } #[] _ [] (zh _).symm (by rw[n];exact wX _)
  (.inl ⟨U,g _ _ G⟩) (g _ _ V) ⟨_,_,g _ _ S⟩ (t1.at λo e=>g _ _ e) (O.at λo e=>g _ _ e) (R.at λo e=>g _ _ e) (P.at λo e=>g _ _ e) d U U wo (λj T hj=>by simp at hj) λh' i c ts Y g3 e3 X W f3=>?_⟩
 exact⟨U,h h' i c ts (λb o b1 b2 b3 b4 e=>Y b o (xG<|HB.lt_size e) (wY<|HB.lt_size e) b1 b2 b3 b4<|g b o e) g3 e3 X W f3⟩
set_option maxRecDepth 100000
theorem bu:∀{l L:L0 Int},l.Nodup->(∀x∈l,x∈L)->⇑l<=L.length
 | [],_,_,_=>wZ _
 |x :: l,L,hn,hs=>by
  let(f,d):=pj.mp hn;let b:=hs x dn;let c:=bu (L:=L.erase x) d λy a=>(List.mem_erase_of_ne<|λ(e:y=x)=>f<|e ▸ a).mpr<|hs y<|fo _ a
  rw[List.length_erase_of_mem b]at c;let:0<L.length:=List.length_pos_of_mem b;rw[gb];lia
theorem pH:∀{vs:L0 Fe},(∀v∈vs,∃u,v=.int (fb v) u)->IntsAre vs (vs.map fb)
 | [],_=>.nil
 |v :: vs,h=>by
  let(u,e):=h v dn;rw[e];calc .cons _ u<|pH λx a=>h x<|fo _ a
theorem oW:∀{vs:L0 Fe}{ns:L0 Int},IntsAre vs ns->Vals (ns.map V.int) vs
 |_,_,.nil=>.nil
 |_,_,.cons n t r=>.cons ⟨t,U⟩<|oW r
theorem gK:∀{ns:L0 Int},ns.Pairwise (· <= ·)->ns.Nodup->ns.Pairwise (· < ·)
 | [],_,_=>.nil
 |n :: ns,h1,h2=>by
  let(d,c):=qg.mp h1;let(b,b2):=pj.mp h2;calc .cons (λm a=>?_)<|gK c b2;let:=d m a;let:n≠m:=λe=>b<|e ▸ a
  lia
section
variable{H':Hp}
theorem Inv.grow{s':Iq}(I:Inv X LM σ H s)(k:∀b o,s.heap.get? b=LH o->s'.heap.get? b=LH o)(l:s'.gens=s.gens)(d:s'.os=s.os)(a:∀b,b<↥s->H' b=H b)
  (v:∀b u,↥s<=b->H' b=LH u->cg X.prog X.w H' s'.heap b u):Inv X LM σ H' s':=by
 let(h',g',d',t',h):=s';obtain rfl:g'=s.gens:=l;obtain rfl:h=s.os:=d;let lt:∀{b u},H b=LH u->b<↥s:=λ{b u} e=>by
  rcases yl b ↥s with z|z
  .exact z
  .rw[I.hok.fresh z]at e;cases e
 let same:∀{b u},H b=LH u->H' b=LH u:=λe=>by rw[a _ (lt e)];exact e
 exact I.step (h':=h') (g':=s.gens) (d':=d') (t':=t') (ch:=[]) (λ_ z=>nomatch z) (λb o _ _ _ e _=>k b o e) (λb o _ _ _ e _=>⟨o.slots,k b o e⟩)
  (λb o _ e n=>by rw[a _ (HB.lt_size e)];exact n) (λb o _ e=>⟨o,k b o e⟩) (λb f e=>same e) (λb o u e=>same e) (λb ps e=>⟨#[],by rw[same e];simp⟩)
  (λm j=>by
   let(o,p,t,i,r):=j;exact⟨o,p,t,k _ o i,r⟩)
  (λb u e=>by
   rcases yl b ↥s with z|z
   .rw[a _ z]at e;exact(I.hok b u e).stay (λc g _ q=>k c g q) (λc q=>same q) λc f q=>same q
   .exact v b u z e)
  I.bare
end
def tV(w:Fn)(a:HA)(zs:L0 Int):HO:=.ext λh=>∃m,dA h a (!dG w) zs m
theorem mG:∀{zs:L0 Int}{us:L0 Fe},Vals (zs.map V.int) us->∀(i:Nat)(v:Fe),us[i]?=LH v->∃z t,zs[i]?=LH z/\v=.int z t
 | [],_,.nil,i,v,h=>by simp at h
 |z :: zs,_,.cons ⟨t,e⟩ r,0,v,h=>by simp at h;exact⟨z,t,U,by rw[←h,e]⟩
 |z :: zs,_,.cons _ r,i+1,v,h=>by
  let(a,t,c,b):=mG r i v<|~~~h;calc⟨a,t,~~~c,b⟩
theorem oX{w:Fn}(A:X.w=w)(B:X.calm=LJ):cG X (.type "set") (λxs H Q=>∃(p:HA)(zs:L0 Int),xs=[.ref p]/\SqL X.K H p (zs.map V.int)/\⇑zs<=1000/\∀l,H l=LI->Q (.ref l) (upd H l<|tV w l zs)):=by
 subst A;intro LM s σ H xs E Q I r h;let(p,zs,rfl,C,F,q):=h;let(u,rfl,j):=r.one;obtain rfl:u=Fe.ref p:=j;let(D,c,n,_):=I.list C;let d:=⇑c;rw[bc]at d;refine vY (ks:=zs) (I.ok.hd B) n.isList (λi v e=>?_) (~~~d) (by unfold KC;simp;lia) λh' f m x G z=>?_
 .exact mG c i v<|~~~e
 .refine⟨.ref ↥s,_,I.laid (a:=↥s) (o:=tV X.w ↥s zs) (h':=h') (t':=f) (λb o q=>z b o (HB.lt_size q) q) (wX _) ?_,U,q _ I.fresh⟩;calc⟨⟨m,x⟩,?_,λL J ⟨t,y⟩ k=>⟨t,y.stay k⟩⟩;let(o,_,_,_,g,_):=x;calc⟨o,g⟩
inductive DK(K:W.Frag)(Q:VK)(vs:L0 V)(H1:Hp):Prop
 |mk (a b xs ys:_)(_:vs=[.ref a,.ref b])(_:SqL K H1 a xs)(_:SqL K H1 b ys)(_:∀(D:HA)(ts:L0 HA)(H2:Hp),⇑ts=min ⇑xs ⇑ys->(∀c o,H1 c=LH o->H2 c=LH o)->H1 D=LI->H2 D=LH (.lst<|ts.map V.ref) ->
  (∀(j:Nat)(x y:V),xs[j]?=LH x->ys[j]?=LH y->∃T,ts[j]?=LH T/\H1 T=LI/\H2 T=LH (.tup [x,y]))->Q (.ref D) H2):DK K Q vs H1
def tLZ(K:W.Frag)(b:TA):TE:=λσ H Q=>b σ H λa c=>DK K Q a c
def ltA{c n:Nat}(h:c<n)(k:Nat):c≠n+k:=wY<|w6 h<|zc _ _
def gL(xs ys:L0 V)(ts:L0 HA)(b:HA):Option HO :=
 match ts.idxOf? b with
 |some j=>match xs[j]?,ys[j]? with
  |some x,LH y=>LH<|.tup [x,y]
  |_,_=>LI
 |none=>LI
theorem tW{J C:Iz}{ta:TA}{p1 p2 xZ Cd:Pos}(a6:X.calm=LJ)(hg:Gl X "list") (hm:X.mg "list" = LI) (a5:Gl X "zip") (a4:X.mg "zip" = LI) (ha:PA X [J,C] ta)
  (hs:IC [J,C] X.env=[(LK,eval J X.env),(LK,eval C X.env)]:=by rfl)(M:IC [C] X.env=[(LK,eval C X.env)]:=by rfl) :
  PE X (.Call (.Name "list" p1) [.Call (.Name "zip" p2) [J,C] [] Cd] [] xZ) (tLZ X.K ta):=by
 intro LM s σ H Q I h;calc Fd<|dY I hg hm PyProof.Rows.boot_list ?_;calc PyProof.Rows.callWith_type1 ?_ U U;show Iw _ _ (spliced ((LK,eval (.Call (.Name "zip" p2) [J,C] [] Cd) X.env) :: IB xZ (IC [] X.env))) _ _ s;calc Calls.spliced_cons ?_;calc Fd<|dY I a5 a4 PyProof.Rows.boot_zip ?_;refine PyProof.Rows.callWith_type1 (thn (ha Cd LM s σ H _ I h) λus f ⟨vs,W,B,r1,q1⟩=>?_) (by rw[hs,M]) (by rw[M];rfl);let(a,b,p,n,rfl,qa,qb,q):=q1;let(u,v,rfl,ru,rv):=r1.two;cases (show u=Fe.ref a from ru);cases (show v=Fe.ref b from rv);let(us,vu,pu,zu):=B.list qa;let(vs,vv,pv,zv):=B.list qb;let(oa,ea,_):=id pu.isList;let(ob,eb,_):=id pv.isList;let la:a<↥f:=HB.lt_size ea;let lb:b<↥f:=HB.lt_size eb;let l1:=⇑vu;let l2:=⇑vv;refine call_zip_2 pu.isList pv.isList λR z1 z2 z3 z4 z5 z6 Z=>?_
 calc Calls.spliced_nil ?_;let D:Lv (↥f+4) (↥f+2) (↥f+3) ↥f (↥f+1) a b:=by
  calc⟨?_,?_,?_,?_,?_,?_,?_,?_,?_,?_,?_,?_,?_,?_,?_,?_,?_,?_⟩ <;> first|exact wY ∅|exact xa ∅|exact wY la|exact wY lb|exact wY (w6 la<|zc _ _)|exact wY (w6 lb<|zc _ _)
 refine n8 (s:={ f with heap:=R }) (B.ok.hd a6) D z1 z2 z3 z4 z5 (pu.isList.at λo e=>Z _ _ e) (pv.isList.at λo e=>Z _ _ e) (by simp;lia) λh2 b0 c d k3 g3 e3 n3 nd S=>?_
 let a3:Iq.heap { f with heap:=R }=R:=rfl;rw[a3]at g3 S k3;rw[z6]at g3 S;let kp:∀c o,f.heap.get? c=LH o->h2.get? c=LH o:=λc o e=>by
  let:=HB.lt_size e;exact k3 c o (ltA this _) (ltA this _) (wY this) (ltA this _)<|Z c o e
 let N:⇑d=min ⇑p ⇑n:=by rw[n3];simp;lia
 let F:∀(j:Nat)(T:HA),d[j]?=LH T->d.idxOf? T=LH j:=λj T w=>by
  let(G,ej):=Ik.mp w;rw[List.idxOf?,List.findIdx?_eq_some_iff_getElem];refine⟨G,by simp[ej],λi hi=>?_⟩;let:d[i]≠d[j]:=λq=>by
   let:=(vr nd).mp q;lia
  simpa[←ej]using this
 let L:∀(T:HA)(j:Nat),d.idxOf? T=LH j->d[j]?=LH T:=λT j w=>by
  rw[List.idxOf?,List.findIdx?_eq_some_iff_getElem]at w;let(G,e,_):=w;rw[Ij G];simpa using e
 let E:∀(T:HA)(j:Nat),d.idxOf? T=LH j->↥f+6<=T:=λT j w=>by
  let(a1,_):=S j T<|L T j w;lia
 show EP X LM σ Q _ _;rw[show(Iq.heap { f with heap:=R }).objs.size=↥f+5 from z6];generalize m:(λ(b:HA)=>if b=↥f+5 then LH (HO.lst<|d.map V.ref)else match gL p n d b with|some o=>LH o|none=>W b)=H2;let hD:H2 (↥f+5)=LH (.lst<|d.map V.ref):=by rw[←m];exact LO U
 let hO:∀c,c<↥f->H2 c=W c:=λc hc=>by
  rw[←m];show(if c=↥f+5 then _ else _)=_;rw[LN (ltA hc 5)];let:gL p n d c=none:=by
   unfold gL;cases e:d.idxOf? c with
   |none=>rfl
   |some j=>exact LP (w6 hc<|xc (zc _ 6)<|E c j e) (za _)
  rw[this]
 let hT:∀(j:Nat)(x y:V)(T:HA),p[j]?=LH x->n[j]?=LH y->d[j]?=LH T->H2 T=LH (.tup [x,y]):=λj x y T l A g=>by
  let:=E T j<|F j T g;rw[←m];show(if T=↥f+5 then _ else _)=_;rw[LN (xa<|w6 (yg _) this)];let:gL p n d T=LH (.tup [x,y]):=by unfold gL;rw[F j T g];dsimp only;rw[l,A]
  rw[this]
 refine⟨.ref<|↥f+5,H2,B.grow (s':={ f with heap:=h2 }) kp U U hO (λb u hb k=>?_),U,q _ d H2 N (λc o e=>?_) (B.hok.fresh<|zc _ _) hD λj x y l A=>?_⟩
 .rw[←m]at k;replace k:(if b=↥f+5 then LH (HO.lst<|d.map V.ref)else match gL p n d b with|some o=>LH o|none=>W b)=LH u:=k
  by_cases Y:b=↥f+5
  .rw[LO Y]at k;cases k;subst Y;let rv:∀d:L0 HA,Vals (d.map V.ref) (d.map Fe.ref):=λd=>by
    induction d with
    |nil=>exact .nil
    |cons t r ih=>exact .cons U ih
   refine⟨by rw[bc,N];lia,d.map Fe.ref,c,rv d,?_⟩;rw[←e3];exact g3
  .rw[LN Y]at k;cases g:gL p n d b with
   |none=>rw[g]at k;replace k:W b=LH u:=k;rw[B.hok.fresh hb]at k;cases k
   |some o =>
    rw[g]at k;cases k;unfold gL at g;cases ei:d.idxOf? b with
    |none=>rw[ei]at g;cases g
    |some j =>
     rw[ei]at g;dsimp only at g;cases l:p[j]? with
     |none=>rw[l]at g;cases g
     |some x =>
      cases A:n[j]? with
      |none=>rw[l,A]at g;cases g
      |some y =>
       rw[l,A]at g;cases g;let(_,x',y',fx,fy,gp):=S j b<|L b j ei;let(u1,a8,a2):=vu.get l;let(v1,a7,a0):=vv.get A;let P:us[j]?=LH x':= ~~~fx
       have O:vs[j]?=LH y':= ~~~fy
       rw[a8]at P;rw[a7]at O;cases P;cases O;exact⟨by show 2<=HL;decide,[x',y'],.cons a2<|.cons a0 .nil,_,gp,U,_,U⟩
 .let:c<↥f:=by
   rcases yl c ↥f with z|z
   .exact z
   .rw[B.hok.fresh z]at e;cases e
  rw[hO c this];exact e
 .let w:j<⇑d:=by
   let(h1,_):=Ik.mp l;let(a9,_):=Ik.mp A;lia
  let g:d[j]?=LH d[j]:=Ij w;calc⟨d[j],g,B.hok.fresh<|xc (zc _ 6)<|E _ j<|F j _ g,hT j x y _ l A g⟩
end _L
namespace PyProof.Rows._T
open PySem PyProof.Rows
def zQ:Bool->Keyed->Array Keyed->Nat->Nat->Nat->StateT SortSt Sem (Option Nat):=sortPriv% PySem.Builtin.gallop
def i6:Nat->StateT SortSt Sem Unit:=sortPriv% PySem.Builtin.setMinGallop
def ya:Array Keyed->Array Keyed->StateT SortSt Sem (Array Keyed):=sortPriv% PySem.Builtin.mergeLo
def yb:Array Keyed->Array Keyed->StateT SortSt Sem (Array Keyed):=sortPriv% PySem.Builtin.mergeHi
def kE(n:Nat):i6 n=modify λs=>SortSt.mk' (kindOf s) (arrOf s) (pendingOf s) n (failedOf s):=rfl
theorem aR{M:Iv}{A:Ip}{E:Fe->Iq->Prop}{s:Iq}{a b:Type}{c:Prop} [Decidable c] {p q:StateT a Sem b}{Q:b->a->Prop}{st:a}(h:c)(d:wpS M A E s p Q st):wpS M A E s (if c then p else q) Q st:=by rw[LO h];calc d
theorem aP{M:Iv}{A:Ip}{E:Fe->Iq->Prop}{s:Iq}{a b:Type}{c:Prop} [Decidable c] {p q:StateT a Sem b}{Q:b->a->Prop}{st:a}(h:¬ c)(d:wpS M A E s q Q st):wpS M A E s (if c then p else q) Q st:=by rw[LN h];calc d
theorem dN{M:Iv}{A:Ip}{E:Fe->Iq->Prop}{s:Iq}{a b:Type}{c:Prop} [Decidable c] {p q:StateT a Sem b}{Q:b->a->Prop}{st:a}(e:c->wpS M A E s p Q st)(d:¬ c->wpS M A E s q Q st):wpS M A E s (if c then p else q) Q st:=by
 by_cases h:c
 .exact aR h<|e h
 .exact aP h<|d h
theorem uY{M:Iv}{A:Ip}{E:Fe->Iq->Prop}{s:Iq}{a:Type}{mg:Nat}{p:StateT SortSt Sem a}{f:Nat->StateT SortSt Sem a}{Q:a->SortSt->Prop}{st:SortSt}(b:p=f (mg-1))(h:∀m,wpS M A E s (f m) Q st):wpS M A E s (if mg>1 then p else f mg) Q st:=by
 subst b;calc dN (λ_=>h _) λ_=>h _
def qS{M:Iv}{A:Ip}{E:Fe->Iq->Prop}{s:Iq}{a:Type}{b x:Nat}{o:Array Keyed}{p:StateT SortSt Sem a}{f:Nat->Array Keyed->StateT SortSt Sem a}{Q:a->SortSt->Prop}{st:SortSt}(P:Nat->Array Keyed->Prop)(c:∀x o,P x o->wpS M A E s (f x o) Q st)(d:b>0->(∀x o,P x o->wpS M A E s (f x o) Q st)->wpS M A E s p Q st)(e:¬ b>0->P x o):wpS M A E s (if b>0 then p else f x o) Q st :=
 dN (λh=>d h c) λh=>c _ _<|e h
theorem zR{M:Iv}{A:Ip}{E:Fe->Iq->Prop}{s:Iq}{a:Type}{x:a}{Q:PUnit->a->Prop}{st:a}(h:Q ⟨⟩ x):wpS M A E s (set x:StateT a Sem PUnit) Q st:=by
 unfold wpS;rw[StateT.run_set];calc E6 ⟨rfl,h⟩
end PyProof.Rows._T
namespace PyProof.Rows._T
open PySem PyProof.Rows
section
variable{prog:Fw}{w:Fn}{A:Ip}{E:Fe->Iq->Prop}{s:Iq}{κ:SortKind}{S:Keyed->Prop}{rk:Keyed->Int}
def Ask(prog:Fw)(w:Fn)(A:Ip)(E:Fe->Iq->Prop)(s:Iq)(κ:SortKind)(S:Keyed->Prop)(rk:Keyed->Int):Prop :=
 ∀(x y:Keyed)(a:SortSt)(Q:Option Bool->SortSt->Prop),S x->S y->kindOf a=κ->Q (LH<|LL<|rk x<rk y) a->wpS (model prog w) A E s (lt' x y) Q a
def Kx(rk:Keyed->Int)(xs:Array Keyed)(i:Nat):Int:=match xs[i]? with
 |some p=>rk p
 |none=>0
theorem Kx_at{xs:Array Keyed}{i:Nat}(h:i<xs.size):Kx rk xs i=rk xs[i]:=by unfold Kx;rw[getElem?_pos xs i h]
theorem eO{xs ys:Array Keyed}{i j:Nat}(h:xs[i]?=ys[j]?):Kx rk xs i=Kx rk ys j:=by unfold Kx;rw[h]
theorem aQ{arr:Array Keyed}{i:Nat}{st:SortSt}{Q:Keyed->SortSt->Prop}(hi:i<arr.size)(h:Q arr[i] st):wpS (model prog w) A E s (elem' arr i) Q st:=by
 rw[elem'_eq,getElem?_pos arr i hi];calc wpS_pure h
def Bey(rk:Keyed->Int)(left:Bool)(a:Keyed)(arr:Array Keyed)(base i:Nat):Bool :=
 if left=LJ then decide (Kx rk arr (base+i)<rk a)else !LL (rk a<Kx rk arr (base+i))
theorem tX{left:Bool}{a:Keyed}{arr:Array Keyed}{base i:Nat}{st:SortSt}{Q:Option Bool->SortSt->Prop}(e:Ask prog w A E s κ S rk)(c:kindOf st=κ)(d:∀x∈arr,S x)(b:S a)(hi:base+i<arr.size)
  (h:Q (LH<|Bey rk left a arr base i) st) :
  wpS (model prog w) A E s (do
   let x ←elem' arr (base+i)
   if left=LJ then lt' x a
    else do
     let __do_lift ←lt' a x
     pure (Option.map (λx=>!x) __do_lift)) Q st:=by
 calc wpS_bind<|aQ hi ?_;unfold Bey at h;rw[Kx_at hi]at h;cases left with
 |true=>exact e _ _ st Q (d _<|Be hi) b c (~~~h)
 |false=>calc wpS_bind (e _ _ st _ b (d _<|Be hi) c<|wpS_pure<|~~~h)
def SrtOn(rk:Keyed->Int)(xs:Array Keyed)(lo n:Nat):Prop:=∀i j,lo<=i->i<=j->j<lo+n->Kx rk xs i<=Kx rk xs j
theorem Bey.anti{left:Bool}{a:Keyed}{arr:Array Keyed}{base n:Nat}(b:SrtOn rk arr base n){i j:Nat}(c:i<=j)(d:j<n)(h:Bey rk left a arr base j=LJ):Bey rk left a arr base i=true:=by
 let:=b (base+i) (base+j) ∅ ∅ ∅;unfold Bey at h⊢;cases left <;> simp at h⊢ <;> lia
theorem dI{left:Bool}{m:Keyed}{arr:Array Keyed}{base n d:Nat}{st:SortSt}{Q:Option Nat->SortSt->Prop}(R:Ask prog w A E s κ S rk)(M:kindOf st=κ)(P:∀x∈arr,S x)(H:S m)
  (L:d<n)(W:base+n<=arr.size)(J:SrtOn rk arr base n)
  (h:∀k,k<=n->(∀i,i<k->Bey rk left m arr base i=LJ)->(∀i,k<=i->i<n->Bey rk left m arr base i=LK)->Q (LH k) st) :
  wpS (model prog w) A E s (zQ left m arr base n d) Q st:=by
 let t:∀{i:Nat}{Q:Option Bool->SortSt->Prop},i<n->Q (LH<|Bey rk left m arr base i) st->wpS (model prog w) A E s (do
   let x ←elem' arr (base+i)
   if left=LJ then lt' x m
    else do
     let __do_lift ←lt' m x
     pure (Option.map (λx=>!x) __do_lift)) Q st:=λhi K=>tX R M P H ∅ K
 let anti:∀{i j:Nat},i<=j->j<n->Bey rk left m arr base j=LJ->Bey rk left m arr base i=true:=λF N O=>Bey.anti J F N O
 generalize X:Bey rk left m arr base=B at h t anti;calc wpS_bind<|t L ?_;dsimp -zeta only
 extract_lets jp m1 m2
 let last:∀(u:Unit)(a b lo hi:Nat),lo<=hi->hi<=n->(∀i,i<lo->B i=LJ)->(∀i,hi<=i->i<n->B i=LK)->wpS (model prog w) A E s (jp u a b lo hi) Q st:=by
  intro u a b lo hi y v V T
  refine wpS_bind (wpS_mono (wpS_forRange (I:=λx c f=>f=st/\∃lo hi,c=(LI,lo,hi)/\lo<=hi/\hi<=n/\hi-lo<=n-x/\(∀i,i<lo->B i=LJ)/\(∀i,hi<=i->i<n->B i=LK))
   (Q:=λc f=>f=st/\∃lo hi,c=(LI,lo,hi)/\hi<=n/\(∀i,i<hi->B i=LJ)/\(∀i,hi<=i->i<n->B i=LK)) ?step ?fin ⟨rfl,lo,hi,rfl,y,v,∅,V,T⟩) ?post)
  case fin =>
   rintro c f ⟨rfl,lo,hi,rfl,z,p,r,l,q⟩;let:lo=hi:=∅
   subst this;exact⟨rfl,lo,lo,rfl,p,l,q⟩
  case step =>
   rintro x c f _ G ⟨rfl,lo,hi,rfl,z,p,r,l,q⟩;dsimp only;by_cases o:lo ≥ hi
   .rw[LO o];let:lo=hi:=∅
    subst this;exact wpS_pure ⟨rfl,lo,lo,rfl,p,l,q⟩
   .rw[LN o];calc wpS_bind<|t (i:=lo+(hi-lo) / 2) ∅ ?_;cases hm:B (lo+(hi-lo) / 2) with
    |true =>
     dsimp only;rw[LO rfl];exact wpS_pure ⟨rfl,lo+(hi-lo) / 2+1,hi,rfl,∅,p,∅,λi C=>anti (show i<=lo+(hi-lo) / 2 by lia) ∅ hm,q⟩
    |false =>
     dsimp only;rw[LN Bool.false_ne_true];calc wpS_pure ⟨rfl,lo,lo+(hi-lo) / 2,rfl,∅,∅,∅,l,λi y v=>?_⟩;cases hbi:B i with
     |false=>rfl
     |true=>rw[anti y v hbi]at hm;cases hm
  case post =>
   rintro c f ⟨rfl,lo,hi,rfl,p,l,q⟩;exact wpS_pure (h hi p l q)
 clear_value jp
 cases hr:B d with
 |true =>
  dsimp only;rw[LO rfl]
  refine wpS_bind (wpS_mono (wpS_forRange (I:=λx c f=>f=st/\∃g e,c=(LI,g,e)/\x+1<=e/\g<e/\d+g<n/\B (d+g)=LJ)
   (Q:=λc f=>f=st/\∃g e,c=(LI,g,e)/\g<e/\d+g<n/\B (d+g)=LJ/\(n-d<=e\/(d+e<n/\B (d+e)=LK))) ?step ?fin ⟨rfl,0,1,rfl,∅,∅,∅,hr⟩) ?post)
  case fin =>
   rintro c f ⟨rfl,g,e,rfl,z,p,r,l⟩;exact⟨rfl,g,e,rfl,p,r,l,.inl ∅⟩
  case step =>
   rintro x c f _ G ⟨rfl,g,e,rfl,z,p,r,l⟩;dsimp only;by_cases o:e ≥ n-d
   .rw[LO o];exact wpS_pure ⟨rfl,g,e,rfl,p,r,l,.inl o⟩
   .rw[LN o];calc wpS_bind<|t ∅ ?_;cases hm:B (d+e) with
    |true =>
     dsimp only;rw[LN ⋯];exact wpS_pure ⟨rfl,e,2*e+1,rfl,∅,∅,∅,hm⟩
    |false =>
     dsimp only;rw[LO ⋯];exact wpS_pure ⟨rfl,g,e,rfl,p,r,l,.inr ⟨∅,hm⟩⟩
  case post =>
   rintro c f ⟨rfl,g,e,rfl,p,r,l,q⟩;show wpS _ _ _ _ (jp () g e (d+g+1)<|d+min e (n-d)) _ _;refine last _ _ _ _ _ ∅ ∅ (λi C=>anti (show i<=d+g by lia) r l) λi y v=>?_
   rcases q with q|⟨q,D⟩
   .lia
   .cases hbi:B i with
    |false=>rfl
    |true=>rw[anti (show d+e<=i by lia) v hbi]at D;cases D
 |false =>
  dsimp only;rw[LN Bool.false_ne_true]
  refine wpS_bind (wpS_mono (wpS_forRange (I:=λx c f=>f=st/\∃g e,c=(LI,g,e)/\x+1<=e/\g<e/\g<=d/\B (d-g)=LK)
   (Q:=λc f=>f=st/\∃g e,c=(LI,g,e)/\g<e/\g<=d/\B (d-g)=LK/\(d+1<=e\/(e<=d/\B (d-e)=LJ))) ?step ?fin ⟨rfl,0,1,rfl,∅,∅,∅,hr⟩) ?post)
  case fin =>
   rintro c f ⟨rfl,g,e,rfl,z,p,r,l⟩;exact⟨rfl,g,e,rfl,p,r,l,.inl ∅⟩
  case step =>
   rintro x c f _ G ⟨rfl,g,e,rfl,z,p,r,l⟩;dsimp only;by_cases o:e ≥ d+1
   .rw[LO o];exact wpS_pure ⟨rfl,g,e,rfl,p,r,l,.inl o⟩
   .rw[LN o];calc wpS_bind<|t ∅ ?_;cases hm:B (d-e) with
    |false =>
     dsimp only;rw[LN ⋯];exact wpS_pure ⟨rfl,e,2*e+1,rfl,∅,∅,∅,hm⟩
    |true =>
     dsimp only;rw[LO rfl];exact wpS_pure ⟨rfl,g,e,rfl,p,r,l,.inr ⟨∅,hm⟩⟩
  case post =>
   rintro c f ⟨rfl,g,e,rfl,p,r,l,q⟩;show wpS _ _ _ _ (jp () g e (d+1-min e (d+1))<|d-g) _ _;refine last _ _ _ _ _ ∅ ∅ (λi C=>?_) λi y v=>?_
   .rcases q with q|⟨q,D⟩
    .lia
    .exact anti (show i<=d-e by lia) ∅ D
   .cases hbi:B i with
    |false=>rfl
    |true=>rw[anti (show d-g<=i by lia) v hbi]at l;cases l
end
end PyProof.Rows._T
namespace PyProof.Rows._T
open PySem PyProof.Rows
section
variable{rk:Keyed->Int}
abbrev Sd(rk:Keyed->Int)(l:L0 Keyed):Prop:=l.Pairwise λx y=>rk x<=rk y
structure MI(rk:Keyed->Int)(A B out:L0 Keyed)(ia ib:Nat):Prop where
 perm:out.Perm (A.take ia++B.take ib)
 srt:Sd rk out
 la:∀x∈out,∀y∈A.drop ia,rk x<=rk y
 lb:∀x∈out,∀y∈B.drop ib,rk x<=rk y
def MR(rk:Keyed->Int)(A B M:L0 Keyed):Prop:=M.Perm (A++B)/\Sd rk M
def MI.symm{A B out:L0 Keyed}{b a:Nat}(h:MI rk A B out b a):MI rk B A out a b:=⟨h.perm.trans qJ,h.srt,h.lb,h.la⟩
theorem Sd.cut{l:L0 Keyed}(h:Sd rk l)(k:Nat):∀x∈l.take k,∀y∈l.drop k,rk x<=rk y:=by
 let a:Sd rk (l.take k++l.drop k):=by rw[kQ];exact h
 calc(nF.mp a).2.2
def Sd.dropn{l:L0 Keyed}(h:Sd rk l)(k:Nat):Sd rk (l.drop k):=h.sublist<|List.drop_sublist _ _
def Sd.taken{l:L0 Keyed}(h:Sd rk l)(k:Nat):Sd rk (l.take k):=h.sublist<|ux _ _
theorem MI.pushA{A B out:L0 Keyed}{b d:Nat}(e:Sd rk A)(h:MI rk A B out b d)(k:Nat)(f:∀x∈(A.drop b).take k,∀y∈B.drop d,rk x<=rk y):MI rk A B (out++(A.drop b).take k) (b+k) d:=by
 let g:A.drop (b+k)=(A.drop b).drop k:=by rw[List.drop_drop]
 refine⟨?_,nF.mpr ⟨h.srt,(e.dropn b).taken k,λx a y c=>h.la x a y<|ri c⟩,λx a y c=>?_,λx a y c=>?_⟩
 .rw[List.take_add];calc(h.perm.append_right _).trans ?_;rw[jn,jn];exact List.Perm.append_left _ qJ
 .rw[g]at c;rcases hZ.mp a with a|a
  .exact h.la x a y<|ro c
  .exact(e.dropn b).cut k x a y c
 .rcases hZ.mp a with a|a
  .exact h.lb x a y c
  .exact f x a y c
def MI.pushB{A B out:L0 Keyed}{b a:Nat}(c:Sd rk B)(h:MI rk A B out b a)(k:Nat)(d:∀x∈(B.drop a).take k,∀y∈A.drop b,rk x<=rk y):MI rk A B (out++(B.drop a).take k) b (a+k):=(h.symm.pushA c k d).symm
theorem MI.last{A B out:L0 Keyed}{b a:Nat}(f:Sd rk A)(e:Sd rk B)(h:MI rk A B out b a)(g:∀x∈B.drop a,∀y∈A.drop b,rk x<=rk y):MR rk A B (out++B.drop a++A.drop b):=by
 refine⟨?_,nF.mpr ⟨nF.mpr ⟨h.srt,e.dropn a,h.lb⟩,f.dropn b,λx c y d=>?_⟩⟩
 .let i:(A++B).Perm ((A.take b++A.drop b)++(B.take a++B.drop a)):=by rw[kQ,kQ]
  calc((h.perm.append_right _).append_right _).trans (List.Perm.trans ?_ i.symm);rw[jn,jn,jn];calc List.Perm.append_left _ ?_;calc List.Perm.trans ?_<|qJ (l₁:=B.take a++B.drop a);rw[jn]
 .rcases hZ.mp c with c|c
  .exact h.la x c y d
  .exact g x c y d
theorem MI.done{A B out:L0 Keyed}{b a:Nat}(e:Sd rk A)(d:Sd rk B)(h:MI rk A B out b a)(g:a=B.length):MR rk A B (out++A.drop b++B.drop a):=by
 let c:B.drop a=[]:=by rw[g,wt]
 let:=h.last e d (by rw[c];intro x f;cases f);rw[c,iP]at this⊢;calc this
structure HI(rk:Keyed->Int)(A B R:L0 Keyed)(na nb:Nat):Prop where
 perm:R.Perm (A.drop na++B.drop nb)
 srt:Sd rk R
 la:∀x∈A.take na,∀y∈R,rk x<=rk y
 lb:∀x∈B.take nb,∀y∈R,rk x<=rk y
def HI.symm{A B R:L0 Keyed}{b a:Nat}(h:HI rk A B R b a):HI rk B A R a b:=⟨h.perm.trans qJ,h.srt,h.lb,h.la⟩
theorem pI{l:L0 Keyed}{k n:Nat}(h:k<=n):l.take n=l.take k++(l.take n).drop k:=by
 let:=(kQ k<|l.take n).symm
 rwa [List.take_take,Nat.min_eq_left h]at this
theorem zS{l:L0 Keyed}{k n:Nat}(h:k<=n):l.drop k=(l.take n).drop k++l.drop n:=by
 let e:=kQ (n-k)<|l.drop k;rw[List.drop_drop,show k+(n-k)=n by lia]at e;rw[←e,rp]
theorem HI.pushA{A B R:L0 Keyed}{d e:Nat}(f:Sd rk A)(h:HI rk A B R d e)(k:Nat)(c:k<=d)(g:∀x∈B.take e,∀y∈(A.take d).drop k,rk x<=rk y):HI rk A B ((A.take d).drop k++R) k e:=by
 refine⟨?_,nF.mpr ⟨(f.taken d).dropn k,h.srt,λx b y a=>h.la x (ro b) y a⟩,λx b y a=>?_,λx b y a=>?_⟩
 .rw[zS (l:=A) c,jn];exact List.Perm.append_left _ h.perm
 .rcases hZ.mp a with a|a
  .refine(f.taken d).cut k x ?_ y a;rw[List.take_take,Nat.min_eq_left c];exact b
  .refine h.la x ?_ y a;rw[pI c];exact jJ _ b
 .rcases hZ.mp a with a|a
  .exact g x b y a
  .exact h.lb x b y a
def HI.pushB{A B R:L0 Keyed}{b a:Nat}(d:Sd rk B)(h:HI rk A B R b a)(k:Nat)(c:k<=a)(e:∀x∈A.take b,∀y∈(B.take a).drop k,rk x<=rk y):HI rk A B ((B.take a).drop k++R) b k:=(h.symm.pushA d k c e).symm
theorem HI.last{A B R:L0 Keyed}{b a:Nat}(f:Sd rk A)(e:Sd rk B)(h:HI rk A B R b a)(g:∀x∈B.take a,∀y∈A.take b,rk x<=rk y):MR rk A B (B.take a++A.take b++R):=by
 refine⟨?_,nF.mpr ⟨nF.mpr ⟨e.taken a,f.taken b,g⟩,h.srt,λx c y d=>?_⟩⟩
 .let i:(A++B).Perm ((A.take b++A.drop b)++(B.take a++B.drop a)):=by rw[kQ,kQ]
  calc(List.Perm.append_left _ h.perm).trans (List.Perm.trans ?_ i.symm);rw[jn,jn];calc List.Perm.trans (qJ (l₁:=B.take a)) ?_;rw[jn,jn];exact List.Perm.append_left _<|List.Perm.append_left _ qJ
 .rcases hZ.mp c with c|c
  .exact h.lb x c y d
  .exact h.la x c y d
theorem HI.done{A B R:L0 Keyed}{a b:Nat}(e:Sd rk A)(d:Sd rk B)(h:HI rk A B R a b)(c:a=0):MR rk A B (A.take a++B.take b++R):=by
 let:=h.last e d (by rw[c,nY];intro x _ y f;cases f);rw[c,nY]at this⊢;rw[iP]at this;calc this
theorem take1{l:Array Keyed}{i:Nat}(h:i<l.size):(l.toList.drop i).take 1=[l[i]]:=by
 rw[List.drop_eq_getElem_cons (~~~h)];simp
theorem yc{l:Array Keyed}{i:Nat}(h:i<l.size):(l.toList.take<|i+1).drop i=[l[i]]:=by
 rw[rp,show i+1-i=1 by lia,take1 h]
theorem mH{l:Array Keyed}{i k:Nat}:(l.extract i<|i+k).toList=(l.toList.drop i).take k:=by
 rw[Dv];simp
theorem jV{l:Array Keyed}{i:Nat}:(l.extract i l.size).toList=l.toList.drop i:=by
 rw[Dv];simp[List.take_of_length_le]
end
end PyProof.Rows._T
namespace PyProof.Rows._T
open PySem PyProof.Rows
section
variable{prog:Fw}{w:Fn}{A:Ip}{E:Fe->Iq->Prop}{s:Iq}{κ:SortKind}{S:Keyed->Prop}{rk:Keyed->Int}
structure cD(st st':SortSt):Prop where
 arr:arrOf st'=arrOf st
 pend:pendingOf st'=pendingOf st
 kind:kindOf st'=kindOf st
 failed:failedOf st'=failedOf st
def cD.refl{st:SortSt}:cD st st:=⟨rfl,rfl,rfl,rfl⟩
theorem pJ{st a:SortSt}{n:Nat}{Q:Unit->SortSt->Prop}(b:cD st a)(h:∀c,cD st c->Q () c):wpS (model prog w) A E s (i6 n) Q a:=by
 rw[kE];calc wpS_modify<|h _ ⟨b.arr,b.pend,b.kind,b.failed⟩
theorem Sd.srtOn{xs:Array Keyed}(h:Sd rk xs.toList){lo n:Nat}(e:lo+n<=xs.size):SrtOn rk xs lo n:=λi j _ d f=>by
 let b:i<xs.size:=∅
 let a:j<xs.size:=∅
 rw[Kx_at b,Kx_at a];rcases Nat.lt_or_eq_of_le d with c|rfl
 .let:=nS.mp h i j (~~~b) (~~~a) c;simpa using this
 .exact Int.le_refl _
theorem cR{xs:Array Keyed}{i:Nat}{y:Keyed}(h:y∈xs.toList.drop i):∃j,∃b:j<xs.size,i<=j/\xs[j]=y:=by
 let(k,a,e):=sG.mp h;rw[sv]at a;rw[List.getElem_drop]at e;calc⟨i+k,~~~(show i+k<⇑xs.toList by lia),∅,~~~e⟩
theorem iC{xs:Array Keyed}{i k:Nat}{y:Keyed}(h:y∈(xs.toList.drop i).take k):∃j,∃b:j<xs.size,i<=j/\j<i+k/\xs[j]=y:=by
 let(m,a,e):=sG.mp h;rw[iR,sv]at a;rw[List.getElem_take,List.getElem_drop]at e;calc⟨i+m,~~~(show i+m<⇑xs.toList by lia),∅,∅,~~~e⟩
theorem cS{xs:Array Keyed}{k:Nat}{y:Keyed}(h:y∈xs.toList.take k):∃j,∃c:j<xs.size,j<k/\xs[j]=y:=by
 let(j,b,_,d,a):=iC (i:=0)<|~~~h;calc⟨j,b,∅,a⟩
theorem oY{left:Bool}{a:Keyed}{arr:Array Keyed}{base j:Nat}(b:j<arr.size)(c:base<=j)(h:Bey rk left a arr base (j-base)=LJ):rk arr[j]<=rk a:=by
 unfold Bey at h;rw[show base+(j-base)=j by lia,Kx_at b]at h;cases left <;> simp at h <;> lia
theorem Ce{a:Keyed}{arr:Array Keyed}{base j:Nat}(b:j<arr.size)(c:base<=j)(h:Bey rk LJ a arr base (j-base)=LJ):rk arr[j]<rk a:=by
 unfold Bey at h;rw[show base+(j-base)=j by lia,Kx_at b]at h;simpa using h
theorem oZ{left:Bool}{a:Keyed}{arr:Array Keyed}{base j:Nat}(b:j<arr.size)(c:base<=j)(h:Bey rk left a arr base (j-base)=LK):rk a<=rk arr[j]:=by
 unfold Bey at h;rw[show base+(j-base)=j by lia,Kx_at b]at h;cases left <;> simp at h <;> lia
theorem zT{a:Keyed}{arr:Array Keyed}{base j:Nat}(b:j<arr.size)(c:base<=j)(h:Bey rk LK a arr base (j-base)=LK):rk a<rk arr[j]:=by
 unfold Bey at h;rw[show base+(j-base)=j by lia,Kx_at b]at h;simpa using h
theorem Sd.le_of{xs:Array Keyed}(h:Sd rk xs.toList){i j:Nat}(a:i<=j)(b:j<xs.size):rk (xs[i]'∅)<=rk xs[j]:=by
 let:=h.srtOn (lo:=0) (n:=xs.size) ∅ i j (wZ _) a ∅
 rwa [Kx_at ∅,Kx_at b]at this
theorem qT{a b:Array Keyed}{st:SortSt}{Q:Array Keyed->SortSt->Prop}(hA:Ask prog w A E s κ S rk)(hk:kindOf st=κ)(a9:∀x∈a,S x)(a8:∀x∈b,S x)
  (sa:Sd rk a.toList)(Y:Sd rk b.toList)(h1:0<a.size)(h2:0<b.size)(c5:∀y∈a,rk b[0]<=rk y)(b4:∀x∈b,rk x<rk a[a.size-1])
  (h:∀m t,cD st t->MR rk a.toList b.toList m.toList->Q m t):wpS (model prog w) A E s (ya a b) Q st:=by
 let lA:⇑a.toList=a.size:=by simp
 let lB:⇑b.toList=b.size:=by simp
 let i7:∀{out:Array Keyed}{g d:Nat},MI rk a.toList b.toList out.toList g d->d=b.size->MR rk a.toList b.toList (out++a.extract g a.size++b.extract d b.size).toList:=λq e=>by
  rw[BZ,BZ,jV,jV];exact q.done sa Y ∅
 let jW:∀{out:Array Keyed}{g d:Nat},MI rk a.toList b.toList out.toList g d->g+1=a.size->MR rk a.toList b.toList (out++b.extract d b.size++a.extract g a.size).toList:=λ{out g d} q e=>by
  rw[BZ,BZ,jV,jV];refine q.last sa Y λx l y v=>?_
  let(j,G,u,rfl):=cR v;let V:j=a.size-1:=∅
  subst V;exact Int.le_of_lt<|b4 x<|~~~ro l
 let jX:∀{out:Array Keyed}{x:Keyed},(out.push x).toList=out.toList++[x]:=λ{_ _}=>by simp
 refine wpS_bind (wpS_lift<|Ky ⟨rfl,?_⟩)
 extract_lets total done lastOfA
 calc wpS_bind<|aQ h2 ?_;let m0:MI rk a.toList b.toList (#[b[0]]:Array Keyed).toList 0 1:=by
  refine⟨?_,?_,?_,?_⟩
  .let:=take1 h2;rw[List.drop_zero]at this;rw[nY,rr,this]
  .exact tj _ _
  .intro x l y v;let l:x=b[0]:= ~~~l
   subst l;exact c5 y<|~~~v
  .intro x l y v;let l:x=b[0]:= ~~~l
   subst l;let(j,G,_,rfl):=cR v;exact Y.le_of (wZ _) G
 try dsimp -zeta only
 by_cases c1:(1 == b.size)=LJ
 .refine aR c1 ?_;exact wpS_pure<|h _ _ .refl<|i7 m0<|~~~c1
 calc aP c1 ?_;let c1:1≠b.size:= ~~~c1
 by_cases c2:(0+1 == a.size)=LJ
 .refine aR c2 ?_;exact wpS_pure<|h _ _ .refl<|jW m0<|~~~c2
 calc aP c2 ?_;let c2:0+1≠a.size:= ~~~c2
 refine wpS_bind<|wpS_get ?_
 refine wpS_bind (wpS_mono (wpS_forRange (I:=λx c t=>cD st t/\∃out g d mg,c=(LI,out,g,d,mg)/\MI rk a.toList b.toList out.toList g d/\g+1<a.size/\d<b.size/\x+1<=g+d)
  (Q:=λc t=>cD st t/\∃r rest,c=(LH r,rest)/\MR rk a.toList b.toList r.toList) ?step ?fin ⟨.refl,_,_,_,_,rfl,m0,∅,∅,∅⟩) ?post)
 case fin =>
  rintro c t ⟨_,out,g,d,mg,rfl,q,z,n,K⟩;exfalso
  (try dsimp only);lia
 case post =>
  rintro c t ⟨R,r,rest,rfl,hr⟩;exact wpS_pure<|h _ _ R hr
 case step =>
  rintro x c t _ l ⟨R,out,g,d,mg,rfl,q,z,n,K⟩
  try dsimp -zeta only
  refine wpS_bind (wpS_mono (wpS_forRange (I:=λy c N=>N=t/\∃out g d J H,c=(LI,out,g,d,J,H)/\MI rk a.toList b.toList out.toList g d/\g+1<a.size/\d<b.size/\y+(x+1)<=g+d)
   (Q:=λc N=>N=t/\((∃r rest,c=(LH r,rest)/\MR rk a.toList b.toList r.toList)\/∃out g d J H,c=(LI,out,g,d,J,H)/\MI rk a.toList b.toList out.toList g d/\g+1<a.size/\d<b.size/\x+2<=g+d)) ?o6 ?fin1 ⟨rfl,_,_,_,_,_,rfl,q,z,n,∅⟩) ?post1)
  case fin1 =>
   clear z n K q;rintro c N ⟨_,out,g,d,J,H,rfl,q,z,n,K⟩;exfalso
   (try dsimp only);lia
  case o6 =>
   clear z n K q;rintro y c N _ v ⟨rfl,out,g,d,J,H,rfl,q,z,n,K⟩
   try dsimp -zeta only
   calc wpS_bind<|aQ n<|wpS_bind<|aQ ∅ ?_;refine wpS_bind<|hA _ _ _ _ (a8 _<|Be _) (a9 _<|Be _) (R.kind.trans hk) ?_
   try dsimp -zeta only
   by_cases a0:rk b[d]<rk (a[g]'∅)
   .refine aR (LQ a0) ?_;calc wpS_bind<|aQ n ?_;let D:MI rk a.toList b.toList (out.push b[d]).toList g (d+1):=by
     rw[jX,←take1 n];refine q.pushB Y 1 λx l y v=>?_
     rw[take1 n]at l;rw[fc.mp l];let(j,G,u,rfl):=cR v;exact Int.le_trans (Int.le_of_lt a0)<|sa.le_of u G
    by_cases c:(d+1 == b.size)=LJ
    .refine aR c ?_;exact wpS_pure ⟨rfl,.inl ⟨_,_,rfl,i7 D<|~~~c⟩⟩
    .refine aP c ?_;let c:d+1≠b.size:= ~~~c
     refine dN (λ_=>?_)<|λ_=>?_
     .exact wpS_pure ⟨rfl,.inr ⟨_,_,_,_,_,rfl,D,z,∅,∅⟩⟩
     .exact wpS_pure ⟨rfl,_,_,_,_,_,rfl,D,z,∅,∅⟩
   .refine aP (by rw[LR a0];exact Bool.false_ne_true) ?_;calc wpS_bind<|aQ ∅ ?_;let b3:g<a.size:=∅
    let D:MI rk a.toList b.toList (out.push a[g]).toList (g+1) d:=by
     rw[jX,←take1 b3];refine q.pushA sa 1 λx l y v=>?_
     rw[take1 b3]at l;rw[fc.mp l];let(j,G,u,rfl):=cR v;exact Int.le_trans (D4.mp a0)<|Y.le_of u G
    by_cases c:(g+1+1 == a.size)=LJ
    .refine aR c ?_;exact wpS_pure ⟨rfl,.inl ⟨_,_,rfl,jW D<|~~~c⟩⟩
    .refine aP c ?_;let c:g+1+1≠a.size:= ~~~c
     refine dN (λ_=>?_)<|λ_=>?_
     .exact wpS_pure ⟨rfl,.inr ⟨_,_,_,_,_,rfl,D,∅,n,∅⟩⟩
     .exact wpS_pure ⟨rfl,_,_,_,_,_,rfl,D,∅,n,∅⟩
  case post1 =>
   clear z n K q;rintro c N ⟨rfl,⟨r,rest,rfl,hr⟩|⟨out,g,d,J,H,rfl,q,z,n,K⟩⟩
   .exact wpS_pure ⟨R,r,_,rfl,hr⟩
   try dsimp -zeta only
   refine wpS_bind<|wpS_lift<|Ky ⟨rfl,?_⟩
   refine wpS_bind (wpS_mono (wpS_forRange (I:=λy c N=>cD st N/\∃out g d mg J H,c=(LI,out,g,d,mg,J,H)/\MI rk a.toList b.toList out.toList g d/\g+1<a.size/\d<b.size/\y+(x+2)<=g+d)
    (Q:=λc N=>cD st N/\((∃r rest,c=(LH r,rest)/\MR rk a.toList b.toList r.toList)\/∃out g d mg J H,c=(LI,out,g,d,mg,J,H)/\MI rk a.toList b.toList out.toList g d/\g+1<a.size/\d<b.size/\x+2<=g+d)) ?step2 ?fin2 ⟨R,_,_,_,_,_,_,rfl,q,z,n,∅⟩) ?post2)
   case fin2 =>
    clear z n K q;rintro c N ⟨_,out,g,d,mg,J,H,rfl,q,z,n,K⟩;exfalso
    (try dsimp only);lia
   case post2 =>
    clear z n K q;rintro c N ⟨Z,⟨r,rest,rfl,hr⟩|⟨out,g,d,mg,J,H,rfl,q,z,n,K⟩⟩
    .exact wpS_pure ⟨Z,r,_,rfl,hr⟩
    .try dsimp -zeta only
     exact wpS_bind<|pJ Z λb6 i=>wpS_pure ⟨i,_,_,_,_,rfl,q,z,n,∅⟩
   case step2 =>
    clear z n K q;rintro y c c6 _ v ⟨Z,out,g,d,mg,J,H,rfl,q,z,n,K⟩
    try dsimp -zeta only
    let W:∀{α:Type}{p:StateT SortSt Sem α}{f:Nat->StateT SortSt Sem α}{Q:α->SortSt->Prop}{st:SortSt},p=f (mg-1)->(∀m,wpS (model prog w) A E s (f m) Q st)->wpS (model prog w) A E s (if mg>1 then p else f mg) Q st:=λh1 h2=>uY h1 h2
    apply W
    .rfl
    clear W mg;intro mg;calc wpS_bind<|pJ Z λb6 i=>?_;calc wpS_bind<|aQ n ?_;calc wpS_bind<|dI hA (i.kind.trans hk) a9 (a8 _<|Be _) ∅ ∅ (sa.srtOn ∅) λk b1 a5 a7=>?_;dsimp only at b1 a5 a7;let c7:g+k<a.size:=by
     rcases yl (g+k) a.size with hh|hh
     .exact hh
     .exfalso;let e1:=oY (j:=a.size-1) ∅ ∅ (a5 (a.size-1-g) ∅);let e2:=b4 b[d] (Be _)
      (try dsimp only);lia
    let B:MI rk a.toList b.toList (out.toList++(a.toList.drop g).take k) (g+k) d:=q.pushA sa k λx l y v=>by
     let(j,G,u,c0,rfl):=iC l;let(j',V,yd,rfl):=cR v;exact Int.le_trans (oY G u<|a5 (j-g) ∅)<|Y.le_of yd V
    let T:∀x∈(b.toList.drop d).take 1,∀y∈a.toList.drop (g+k),rk x<=rk y:=λx l y v=>by
     rw[take1 n]at l;rw[fc.mp l];let(j,G,u,rfl):=cR v;exact oZ G ∅ (a7 (j-g) ∅ ∅)
    let a4:y+(x+2)<=g+k+d:=∅
    clear a5 a7 b1
    try dsimp -zeta only
    let W:∀{α:Type}{p:StateT SortSt Sem α}{f:Nat->Array Keyed->StateT SortSt Sem α}{Q:α->SortSt->Prop}{st:SortSt}(P:Nat->Array Keyed->Prop),(∀x o,P x o->wpS (model prog w) A E s (f x o) Q st)->(k>0->(∀x o,P x o->wpS (model prog w) A E s (f x o) Q st)->wpS (model prog w) A E s p Q st)->(¬ k>0->P g out)->wpS (model prog w) A E s (if k>0 then p else f g out) Q st:=λP h1 h2 h3=>qS P h1 h2 h3
    apply W (λF o=>MI rk a.toList b.toList o.toList F d/\F+1<a.size/\(∀x∈(b.toList.drop d).take 1,∀y∈a.toList.drop F,rk x<=rk y)/\y+(x+2)<=F+d)
    rotate_left
    .intro L b5;rw[←mH,←BZ]at B;by_cases X:(g+k+1 == a.size)=LJ
     .exact aR X<|wpS_pure ⟨i,.inl ⟨_,_,rfl,jW B<|~~~X⟩⟩
     have M:g+k+1≠a.size:= ~~~X
     exact aP X<|aP (by simp;lia) (b5 _ _ ⟨B,∅,T,a4⟩)
    .intro L;let e:k=0:=∅
     subst e;rw[nY,iP]at B;exact⟨B,z,T,a4⟩
    clear B T a4 W;rintro F o ⟨B,c8,T,a4⟩;let b0:MI rk a.toList b.toList (o.push b[d]).toList F (d+1):=by
     rw[jX,←take1 n];exact B.pushB Y 1 T
    calc wpS_bind<|aQ n ?_;by_cases c:(d+1 == b.size)=LJ
    .refine aR c ?_;exact wpS_pure ⟨i,.inl ⟨_,_,rfl,i7 b0<|~~~c⟩⟩
    calc aP c ?_;let c:d+1≠b.size:= ~~~c
    calc wpS_bind<|aQ ∅ ?_;calc wpS_bind<|dI hA (i.kind.trans hk) a8 (a9 _<|Be _) ∅ ∅ (Y.srtOn ∅) λO Cf Cg zU=>?_;let a6:MI rk a.toList b.toList ((o.push b[d]).toList++(b.toList.drop<|d+1).take O) F (d+1+O):=b0.pushB Y O λx l y v=>by
     let(j,G,u,c0,rfl):=iC l;let(j',V,yd,rfl):=cR v;exact Int.le_trans (oY G u<|Cg (j-(d+1)) ∅)<|sa.le_of yd V
    let zV:F<a.size:=∅
    let fin:∀(o2:Array Keyed),o2.toList=(o.push b[d]).toList++(b.toList.drop<|d+1).take O->MI rk a.toList b.toList (o2.push a[F]).toList (F+1) (d+1+O):=λo2 b7=>by
     rw[←b7]at a6;rw[jX,←take1 zV];refine a6.pushA sa 1 λx l y v=>?_
     rw[take1 zV]at l;rw[fc.mp l];let(j,G,u,rfl):=cR v;exact oZ G ∅ (zU (j-(d+1)) ∅ ∅)
    try dsimp -zeta only
    by_cases L:O>0
    .refine aR L ?_;by_cases X:(d+1+O == b.size)=LJ
     .refine aR X ?_;calc wpS_pure ⟨i,.inl ⟨_,_,rfl,i7 (out:=o.push b[d]++b.extract (d+1) (d+1+O)) ?_<|~~~X⟩⟩;rw[BZ,mH];exact a6
     calc aP X ?_;let X:d+1+O≠b.size:= ~~~X
     calc wpS_bind<|aQ zV ?_;let C:=fin (o.push b[d]++b.extract (d+1) (d+1+O)) (by rw[BZ,mH]);by_cases M:(F+1+1 == a.size)=LJ
     .refine aR M ?_;exact wpS_pure ⟨i,.inl ⟨_,_,rfl,jW C<|~~~M⟩⟩
     calc aP M ?_;let M:F+1+1≠a.size:= ~~~M
     refine dN (λ_=>?_)<|λ_=>?_
     .exact wpS_pure ⟨i,.inr ⟨_,_,_,_,_,_,rfl,C,∅,∅,∅⟩⟩
     .exact wpS_pure ⟨i,_,_,_,_,_,_,rfl,C,∅,∅,∅⟩
    .refine aP L ?_;let L:O=0:=∅
     subst L;calc wpS_bind<|aQ zV ?_;let C:=fin (o.push b[d]) (by simp);rw[AV]at C;by_cases M:(F+1+1 == a.size)=LJ
     .refine aR M ?_;exact wpS_pure ⟨i,.inl ⟨_,_,rfl,jW C<|~~~M⟩⟩
     calc aP M ?_;let M:F+1+1≠a.size:= ~~~M
     refine dN (λ_=>?_)<|λ_=>?_
     .exact wpS_pure ⟨i,.inr ⟨_,_,_,_,_,_,rfl,C,∅,∅,∅⟩⟩
     .exact wpS_pure ⟨i,_,_,_,_,_,_,rfl,C,∅,∅,∅⟩
end
end PyProof.Rows._T
namespace PyProof.Rows._T
open PySem PyProof.Rows
section
variable{prog:Fw}{w:Fn}{A:Ip}{E:Fe->Iq->Prop}{s:Iq}{κ:SortKind}{S:Keyed->Prop}{rk:Keyed->Int}
theorem lq{l:Array Keyed}{n:Nat}(a:1<=n)(h:n<=l.size):(l.toList.take n).drop (n-1)=[l[n-1]'∅]:=by
 let(i,rfl):∃i,n=i+1:=⟨n-1,∅⟩;calc yc ∅
theorem zW{l:Array Keyed}{n:Nat}:(l.extract 0 n).toList=l.toList.take n:=by
 rw[Dv];simp
theorem gi{l:Array Keyed}{i j:Nat}:(l.extract i j).toList=(l.toList.take j).drop i:=by
 rw[Dv,rp]
theorem mem_mid{xs:Array Keyed}{i k:Nat}{y:Keyed}(h:y∈(xs.toList.take k).drop i):∃j,∃d:j<xs.size,i<=j/\j<k/\xs[j]=y:=by
 rw[rp]at h;let(j,c,b,e,a):=iC h;calc⟨j,c,b,∅,a⟩
theorem qU{a b:Array Keyed}{st:SortSt}{Q:Array Keyed->SortSt->Prop}(hA:Ask prog w A E s κ S rk)(hk:kindOf st=κ)(b1:∀x∈a,S x)(b0:∀x∈b,S x)
  (sa:Sd rk a.toList)(sb:Sd rk b.toList)(h1:0<a.size)(h2:0<b.size)(c0:∀y∈a,rk b[0]<rk y)(d3:∀x∈b,rk x<=rk a[a.size-1])
  (h:∀m t,cD st t->MR rk a.toList b.toList m.toList->Q m t):wpS (model prog w) A E s (yb a b) Q st:=by
 let lA:⇑a.toList=a.size:=by simp
 let lB:⇑b.toList=b.size:=by simp
 let i7:∀{out:Array Keyed}{g d:Nat},HI rk a.toList b.toList out.toList.reverse g d->g=0->MR rk a.toList b.toList (a.extract 0 g++b.extract 0 d++out.reverse).toList:=λq e=>by
  rw[BZ,BZ,zW,zW,Array.toList_reverse];exact q.done sa sb e
 let pK:∀{out:Array Keyed}{g d:Nat},HI rk a.toList b.toList out.toList.reverse g d->d=1->MR rk a.toList b.toList (b.extract 0 d++a.extract 0 g++out.reverse).toList:=λ{out g d} q e=>by
  rw[BZ,BZ,zW,zW,Array.toList_reverse];refine q.last sa sb λx B y k=>?_
  let(j,W,M,rfl):=cS B;let a9:j=0:=∅
  subst a9;exact Int.le_of_lt<|c0 y<|~~~ri k
 let jX:∀{out:Array Keyed}{x:Keyed},(out.push x).toList.reverse=[x]++out.toList.reverse:=λ{_ _}=>by simp
 let Bd:∀{out c:Array Keyed},(out++c.reverse).toList.reverse=c.toList++out.toList.reverse:=λ{_ _}=>by simp
 refine wpS_bind<|wpS_lift<|Ky ⟨rfl,?_⟩
 try dsimp -zeta only
 let b4:a.size-1<a.size:=∅
 calc wpS_bind<|aQ b4 ?_;let m0:HI rk a.toList b.toList (#[a[a.size-1]]:Array Keyed).toList.reverse (a.size-1) b.size:=by
  let e:=List.drop_eq_getElem_cons (l:=a.toList) (i:=a.size-1) ∅;rw[show a.size-1+1=⇑a.toList by(try dsimp only);lia,wt]at e;refine⟨?_,?_,?_,?_⟩
  .rw[e,show b.toList.drop b.size=[] by rw[←lB,wt]];simp
  .exact tj _ _
  .intro x B y k;let k:y=a[a.size-1]:= ~~~k
   subst k;let(j,W,M,rfl):=cS B;exact sa.le_of ∅ b4
  .intro x B y k;let k:y=a[a.size-1]:= ~~~k
   subst k;exact d3 x<|~~~ri B
 by_cases c1:(a.size-1 == 0)=LJ
 .refine aR c1 ?_;exact wpS_pure<|h _ _ .refl<|i7 m0<|~~~c1
 calc aP c1 ?_;let c1:a.size-1≠0:= ~~~c1
 by_cases c2:(b.size == 1)=LJ
 .refine aR c2 ?_;exact wpS_pure<|h _ _ .refl<|pK m0<|~~~c2
 calc aP c2 ?_;let c2:b.size≠1:= ~~~c2
 refine wpS_bind<|wpS_get ?_
 refine wpS_bind (wpS_mono (wpS_forRange (I:=λx c t=>cD st t/\∃g d out mg,c=(LI,g,d,out,mg)/\HI rk a.toList b.toList out.toList.reverse g d/\1<=g/\g<a.size/\2<=d/\d<=b.size/\x+1+g+d<=a.size+b.size)
  (Q:=λc t=>cD st t/\∃r rest,c=(LH r,rest)/\MR rk a.toList b.toList r.toList) ?step ?fin ⟨.refl,_,_,_,_,rfl,m0,∅,∅,∅,∅,∅⟩) ?post)
 case fin =>
  rintro c t ⟨_,g,d,out,mg,rfl,q,v,F,C,u,N⟩;exfalso
  (try dsimp only);lia
 case post =>
  rintro c t ⟨X,r,rest,rfl,hr⟩;exact wpS_pure<|h _ _ X hr
 case step =>
  rintro x c t _ B ⟨X,g,d,out,mg,rfl,q,v,F,C,u,N⟩
  try dsimp -zeta only
  refine wpS_bind (wpS_mono (wpS_forRange (I:=λy c V=>V=t/\∃g d out R O,c=(LI,g,d,out,R,O)/\HI rk a.toList b.toList out.toList.reverse g d/\1<=g/\g<a.size/\2<=d/\d<=b.size/\y+(x+1)+g+d<=a.size+b.size)
   (Q:=λc V=>V=t/\((∃r rest,c=(LH r,rest)/\MR rk a.toList b.toList r.toList)\/∃g d out R O,c=(LI,g,d,out,R,O)/\HI rk a.toList b.toList out.toList.reverse g d/\1<=g/\g<a.size/\2<=d/\d<=b.size/\x+2+g+d<=a.size+b.size)) ?o6 ?fin1 ⟨rfl,_,_,_,_,_,rfl,q,v,F,C,u,∅⟩) ?post1)
  case fin1 =>
   clear v F C u N q;rintro c V ⟨_,g,d,out,R,O,rfl,q,v,F,C,u,N⟩;exfalso
   (try dsimp only);lia
  case o6 =>
   clear v F C u N q;rintro y c V _ k ⟨rfl,g,d,out,R,O,rfl,q,v,F,C,u,N⟩
   try dsimp -zeta only
   let K:d-1<b.size:=∅
   let a8:g-1<a.size:=∅
   calc wpS_bind<|aQ K<|wpS_bind<|aQ a8 ?_;refine wpS_bind<|hA _ _ _ _ (b0 _<|Be _) (b1 _<|Be _) (X.kind.trans hk) ?_
   try dsimp -zeta only
   by_cases a7:rk b[d-1]<rk a[g-1]
   .refine aR (LQ a7) ?_;calc wpS_bind<|aQ a8 ?_;let L:HI rk a.toList b.toList (out.push a[g-1]).toList.reverse (g-1) d:=by
     rw[jX,←lq v ∅];refine q.pushA sa _ ∅ λx B y k=>?_
     rw[lq v ∅]at k;rw[fc.mp k];let(j,W,M,rfl):=cS B;exact Int.le_trans (sb.le_of (show j<=d-1 by(try dsimp only);lia) K) (Int.le_of_lt a7)
    by_cases c:(g-1 == 0)=LJ
    .refine aR c ?_;exact wpS_pure ⟨rfl,.inl ⟨_,_,rfl,i7 L<|~~~c⟩⟩
    .refine aP c ?_;let c:g-1≠0:= ~~~c
     refine dN (λ_=>?_)<|λ_=>?_
     .exact wpS_pure ⟨rfl,.inr ⟨_,_,_,_,_,rfl,L,∅,∅,C,u,∅⟩⟩
     .exact wpS_pure ⟨rfl,_,_,_,_,_,rfl,L,∅,∅,C,u,∅⟩
   .refine aP (by rw[LR a7];exact Bool.false_ne_true) ?_;calc wpS_bind<|aQ K ?_;let L:HI rk a.toList b.toList (out.push b[d-1]).toList.reverse g (d-1):=by
     rw[jX,←lq ∅ u];refine q.pushB sb _ ∅ λx B y k=>?_
     rw[lq ∅ u]at k;rw[fc.mp k];let(j,W,M,rfl):=cS B;exact Int.le_trans (sa.le_of (show j<=g-1 by(try dsimp only);lia) a8) (D4.mp a7)
    by_cases c:(d-1 == 1)=LJ
    .refine aR c ?_;exact wpS_pure ⟨rfl,.inl ⟨_,_,rfl,pK L<|~~~c⟩⟩
    .refine aP c ?_;let c:d-1≠1:= ~~~c
     refine dN (λ_=>?_)<|λ_=>?_
     .exact wpS_pure ⟨rfl,.inr ⟨_,_,_,_,_,rfl,L,∅,∅,∅,∅,∅⟩⟩
     .exact wpS_pure ⟨rfl,_,_,_,_,_,rfl,L,∅,∅,∅,∅,∅⟩
  case post1 =>
   clear v F C u N q;rintro c V ⟨rfl,⟨r,rest,rfl,hr⟩|⟨g,d,out,R,O,rfl,q,v,F,C,u,N⟩⟩
   .exact wpS_pure ⟨X,r,_,rfl,hr⟩
   try dsimp -zeta only
   refine wpS_bind<|wpS_lift<|Ky ⟨rfl,?_⟩
   refine wpS_bind (wpS_mono (wpS_forRange (I:=λy c V=>cD st V/\∃g d out mg R O,c=(LI,g,d,out,mg,R,O)/\HI rk a.toList b.toList out.toList.reverse g d/\1<=g/\g<a.size/\2<=d/\d<=b.size/\y+(x+2)+g+d<=a.size+b.size)
    (Q:=λc V=>cD st V/\((∃r rest,c=(LH r,rest)/\MR rk a.toList b.toList r.toList)\/∃g d out mg R O,c=(LI,g,d,out,mg,R,O)/\HI rk a.toList b.toList out.toList.reverse g d/\1<=g/\g<a.size/\2<=d/\d<=b.size/\x+2+g+d<=a.size+b.size)) ?step2 ?fin2 ⟨X,_,_,_,_,_,_,rfl,q,v,F,C,u,∅⟩) ?post2)
   case fin2 =>
    clear v F C u N q;rintro c V ⟨_,g,d,out,mg,R,O,rfl,q,v,F,C,u,N⟩;exfalso
    (try dsimp only);lia
   case post2 =>
    clear v F C u N q;rintro c V ⟨a0,⟨r,rest,rfl,hr⟩|⟨g,d,out,mg,R,O,rfl,q,v,F,C,u,N⟩⟩
    .exact wpS_pure ⟨a0,r,_,rfl,hr⟩
    .try dsimp -zeta only
     exact wpS_bind<|pJ a0 λc7 n=>wpS_pure ⟨n,_,_,_,_,rfl,q,v,F,C,u,∅⟩
   case step2 =>
    clear v F C u N q;rintro y c d4 _ k ⟨a0,g,d,out,mg,R,O,rfl,q,v,F,C,u,N⟩
    try dsimp -zeta only
    let K:d-1<b.size:=∅
    let Z:∀{α:Type}{p:StateT SortSt Sem α}{f:Nat->StateT SortSt Sem α}{Q:α->SortSt->Prop}{st:SortSt},p=f (mg-1)->(∀m,wpS (model prog w) A E s (f m) Q st)->wpS (model prog w) A E s (if mg>1 then p else f mg) Q st:=λh1 h2=>uY h1 h2
    apply Z
    .rfl
    clear Z mg;intro mg;calc wpS_bind<|pJ a0 λc7 n=>?_;calc wpS_bind<|aQ K ?_;calc wpS_bind<|dI hA (n.kind.trans hk) b1 (b0 _<|Be _) ∅ ∅ (sa.srtOn ∅) λJ d0 b6 b5=>?_;let G:HI rk a.toList b.toList ((a.toList.take g).drop J++out.toList.reverse) J d:=q.pushA sa J d0 λx B y k=>by
     let(j,W,M,d2,rfl):=mem_mid k;let(j',a9,yd,rfl):=cS B;exact Int.le_trans (sb.le_of (show j'<=d-1 by(try dsimp only);lia) K) (oZ (base:=0) W ∅ (b5 (j-0) ∅ ∅))
    let Y:∀x∈a.toList.take J,∀y∈(b.toList.take d).drop (d-1),rk x<=rk y:=λx B y k=>by
     rw[lq ∅ u]at k;rw[fc.mp k];let(j,W,M,rfl):=cS B;exact oY (base:=0) W ∅ (b6 (j-0) ∅)
    clear b6 b5
    try dsimp -zeta only
    generalize d5:g-J=kk;let Z:∀{α:Type}{p:StateT SortSt Sem α}{f:Nat->Array Keyed->StateT SortSt Sem α}{Q:α->SortSt->Prop}{st:SortSt}(P:Nat->Array Keyed->Prop),(∀x o,P x o->wpS (model prog w) A E s (f x o) Q st)->(kk>0->(∀x o,P x o->wpS (model prog w) A E s (f x o) Q st)->wpS (model prog w) A E s p Q st)->(¬ kk>0->P g out)->wpS (model prog w) A E s (if kk>0 then p else f g out) Q st:=λP h1 h2 h3=>qS P h1 h2 h3
    apply Z (λD o=>HI rk a.toList b.toList o.toList.reverse D d/\1<=D/\D<a.size/\y+(x+2)+D+d<=a.size+b.size/\∀x∈a.toList.take D,∀y∈(b.toList.take d).drop (d-1),rk x<=rk y)
    rotate_left
    .intro d1 c6;rw[←gi,←Bd]at G;by_cases c3:(J == 0)=LJ
     .exact aR c3<|wpS_pure ⟨n,.inl ⟨_,_,rfl,i7 G<|~~~c3⟩⟩
     .let T:J≠0:= ~~~c3
      exact aP c3<|c6 _ _ ⟨G,∅,∅,∅,Y⟩
    .intro d1;let e:J=g:=∅
     rw[e,show(a.toList.take g).drop g=[] by rw[rp,zm,nY],rr]at G;exact⟨G,v,F,N,by rw[←e];exact Y⟩
    clear G Y Z;rintro D o ⟨G,b7,e0,e3,Y⟩;let b3:HI rk a.toList b.toList (o.push b[d-1]).toList.reverse D (d-1):=by
     rw[jX,←lq ∅ u];exact G.pushB sb _ ∅ Y
    calc wpS_bind<|aQ K ?_;by_cases c:(d-1 == 1)=LJ
    .refine aR c ?_;exact wpS_pure ⟨n,.inl ⟨_,_,rfl,pK b3<|~~~c⟩⟩
    calc aP c ?_;let c:d-1≠1:= ~~~c
    let zX:D-1<a.size:=∅
    calc wpS_bind<|aQ zX ?_;calc wpS_bind<|dI hA (n.kind.trans hk) b0 (b1 _<|Be _) ∅ ∅ (sb.srtOn ∅) λz Cf Cg zU=>?_;let HV:1<=z:=by
     rcases Nat.eq_zero_or_pos z with hh|hh
     .exfalso;let e1:=oZ (base:=0) (j:=0) h2 ∅ (zU (0-0) ∅ ∅);let e2:=c0 a[D-1] (Be _)
      (try dsimp only);lia
     .exact hh
    let a6:HI rk a.toList b.toList ((b.toList.take<|d-1).drop z++(o.push b[d-1]).toList.reverse) D z:=b3.pushB sb z Cf λx B y k=>by
     let(j,W,M,d2,rfl):=mem_mid k;let(j',a9,yd,rfl):=cS B;exact Int.le_trans (sa.le_of (show j'<=D-1 by(try dsimp only);lia) zX) (oZ (base:=0) W ∅ (zU (j-0) ∅ ∅))
    let fin:∀(o2:Array Keyed),o2.toList.reverse=(b.toList.take<|d-1).drop z++(o.push b[d-1]).toList.reverse->HI rk a.toList b.toList (o2.push a[D-1]).toList.reverse (D-1) z:=λo2 c8=>by
     rw[←c8]at a6;rw[jX,←lq b7 ∅];refine a6.pushA sa _ ∅ λx B y k=>?_
     rw[lq b7 ∅]at k;rw[fc.mp k];let(j,W,M,rfl):=cS B;exact oY (base:=0) W ∅ (Cg (j-0) ∅)
    try dsimp -zeta only
    rcases Nat.eq_or_lt_of_le Cf with Ci|Ci
    .refine aP ∅ ?_;calc wpS_bind<|aQ zX ?_;let H:=fin (o.push b[d-1]) (by rw[Ci,show(b.toList.take<|d-1).drop (d-1)=[] by rw[rp,zm,nY],rr]);rw[Ci]at H;by_cases T:(D-1 == 0)=LJ
     .refine aR T ?_;exact wpS_pure ⟨n,.inl ⟨_,_,rfl,i7 H<|~~~T⟩⟩
     calc aP T ?_;let T:D-1≠0:= ~~~T
     refine dN (λ_=>?_)<|λ_=>?_
     .exact wpS_pure ⟨n,.inr ⟨_,_,_,_,_,_,rfl,H,∅,∅,∅,∅,∅⟩⟩
     .exact wpS_pure ⟨n,_,_,_,_,_,_,rfl,H,∅,∅,∅,∅,∅⟩
    .refine aR ∅ ?_;rw[←gi,←Bd]at a6 fin;by_cases c5:(z == 1)=LJ
     .refine aR c5 ?_;exact wpS_pure ⟨n,.inl ⟨_,_,rfl,pK a6<|~~~c5⟩⟩
     calc aP c5 ?_;let c5:z≠1:= ~~~c5
     refine aP (by simp;lia) ?_;calc wpS_bind<|aQ zX ?_;let H:=fin _ rfl;by_cases T:(D-1 == 0)=LJ
     .refine aR T ?_;exact wpS_pure ⟨n,.inl ⟨_,_,rfl,i7 H<|~~~T⟩⟩
     calc aP T ?_;let T:D-1≠0:= ~~~T
     refine dN (λ_=>?_)<|λ_=>?_
     .exact wpS_pure ⟨n,.inr ⟨_,_,_,_,_,_,rfl,H,∅,∅,∅,∅,∅⟩⟩
     .exact wpS_pure ⟨n,_,_,_,_,_,_,rfl,H,∅,∅,∅,∅,∅⟩
end
end PyProof.Rows._T
namespace PyProof.Rows._T
open PySem PyProof.Rows
section
variable{prog:Fw}{w:Fn}{A:Ip}{E:Fe->Iq->Prop}{s:Iq}{κ:SortKind}{rk:Keyed->Int}{a₀:Array Keyed}
structure SB(κ:SortKind)(a₀:Array Keyed)(st:SortSt):Prop where
 perm:(arrOf st).Perm a₀
 kind:kindOf st=κ
 failed:failedOf st=LI
theorem SB.size{st:SortSt}(h:SB κ a₀ st):(arrOf st).size=a₀.size:=h.perm.size_eq
theorem SB.mem{st:SortSt}(h:SB κ a₀ st):∀x∈arrOf st,x∈a₀:=λx b=>by
 let:=(Array.perm_iff_toList_perm.mp h.perm).mem_iff (a:=x);calc Cp.mp<|this.mp<|Cp.mpr b
theorem SB.setArr{st:SortSt}(h:SB κ a₀ st){xs:Array Keyed}(a:xs.Perm (arrOf st)):SB κ a₀ (setArr st xs):=⟨a.trans h.perm,h.kind,h.failed⟩
theorem jY{st:SortSt}{i j:Nat}{Q:Option Bool->SortSt->Prop}(e:Ask prog w A E s κ (· ∈ a₀) rk)(a:SB κ a₀ st)(hi:i<a₀.size)(d:j<a₀.size)
  (h:Q (LH<|LL<|Kx rk (arrOf st) i<Kx rk (arrOf st) j) st):wpS (model prog w) A E s (ltAt' i j) Q st:=by
 let c:i<(arrOf st).size:=by rw[a.size];exact hi
 let b:j<(arrOf st).size:=by rw[a.size];exact d
 rw[Kx_at c,Kx_at b]at h;rw[ltAt'_eq];calc wpS_bind<|wpS_get ?_;calc wpS_bind<|aQ c<|wpS_bind<|aQ b ?_;calc e _ _ _ _ (a.mem _<|Be _) (a.mem _<|Be _) a.kind h
theorem lL{st:SortSt}{i j:Nat}{Q:Unit->SortSt->Prop}(h:Q () (setArr st<|mirror (arrOf st) i j<|(j-i) / 2)) :
  wpS (model prog w) A E s (reverseSlice' i j) Q st:=by
 rw[reverseSlice'_eq];calc wpS_modify h
theorem kF{xs:Array Keyed}{a d:Nat}(f:a<xs.size)(g:d<=a)(k:Nat) :
  Kx rk (bubble xs a d) k=if k=a-d then Kx rk xs a else if a-d<k/\k<=a then Kx rk xs (k-1)else Kx rk xs k:=by
 let e:=getElem?_bubble f d g k;by_cases c:k=a-d
 .rw[LO c]at e⊢;exact eO e
 .rw[LN c]at e⊢;by_cases b:a-d<k/\k<=a
  .rw[LO b]at e⊢;exact eO e
  .rw[LN b]at e⊢;calc eO e
theorem iD{xs:Array Keyed}{i j:Nat}(b:j<=xs.size)(k:Nat) :
  Kx rk (mirror xs i j<|(j-i) / 2) k=if i<=k/\k<j then Kx rk xs (i+j-1-k)else Kx rk xs k:=by
 let e:=getElem?_mirror_all (i:=i) b k;by_cases a:i<=k/\k<j
 .rw[LO a]at e⊢;exact eO e
 .rw[LN a]at e⊢;calc eO e
theorem bR{xs:Array Keyed}{i j:Nat}(b:j<=xs.size)(a:∀k,i<=k->k<j->Kx rk xs k=Kx rk xs (j-1))(k:Nat) :
  Kx rk (mirror xs i j<|(j-i) / 2) k=Kx rk xs k:=by
 rw[iD b];split
 .rw[a _ ∅ ∅,a k ∅ ∅]
 .rfl
def Ahd(rk:Keyed->Int)(lo:Nat)(st a:SortSt):Prop:=(∀i,i<lo->Kx rk (arrOf a) i=Kx rk (arrOf st) i)/\pendingOf a=pendingOf st
def Ahd.refl{lo:Nat}{st:SortSt}:Ahd rk lo st st:=⟨λ_ _=>rfl,rfl⟩
theorem Ahd.trans{lo:Nat}{st a b:SortSt}(h:Ahd rk lo st a)(h':Ahd rk lo a b):Ahd rk lo st b:=⟨λi hi=>(h'.1 i hi).trans<|h.1 i hi,h'.2.trans h.2⟩
def Non(rk:Keyed->Int)(xs:Array Keyed)(lo n:Nat):Prop:=∀i j,lo<=i->i<=j->j<lo+n->Kx rk xs j<=Kx rk xs i
theorem tY{st:SortSt}{lo n ok:Nat}{Q:Bool->SortSt->Prop}(J:Ask prog w A E s κ (· ∈ a₀) rk)(R:lo+n<=a₀.size)(hok:ok<=n)(H:SB κ a₀ st)(C:SrtOn rk (arrOf st) lo ok)
  (h:∀a,SB κ a₀ a->Ahd rk lo st a->SrtOn rk (arrOf a) lo n->Q LJ a):wpS (model prog w) A E s (binarySort' lo n ok) Q st:=by
 refine wpS_bind (wpS_mono (wpS_forRange (I:=λk c a=>c=(LI,())/\SB κ a₀ a/\Ahd rk lo st a/\SrtOn rk (arrOf a) lo (min k n))
  (Q:=λc a=>c=(LI,())/\SB κ a₀ a/\Ahd rk lo st a/\SrtOn rk (arrOf a) lo n) ?step ?fin ?init) ?post)
 case post =>
  rintro c a ⟨rfl,f,o,d⟩;exact wpS_pure<|h a f o d
 case init =>
  calc⟨rfl,H,.refl,λi j hi u F=>?_⟩;by_cases t:ok=0
  .let:i=j:=∅
   subst this;exact Int.le_refl _
  .exact C i j hi u ∅
 case fin =>
  rintro c a ⟨G,f,o,d⟩;refine⟨G,f,o,?_⟩
  rwa [show min (max (max ok 1) n) n=n by lia]at d
 case step =>
  rintro k c a P O ⟨rfl,f,o,d⟩;rw[show min k n=k by lia]at d;let B:lo+k<a₀.size:=∅
  refine wpS_bind (wpS_mono (wpS_forRange (I:=λx c e=>e=a/\∃l r,c=(LI,l,r)/\l<=r/\r<=k/\r-l<=k-x /\
    (∀i,i<l->Kx rk (arrOf a) (lo+i)<=Kx rk (arrOf a) (lo+k))/\(∀i,r<=i->i<k->Kx rk (arrOf a) (lo+k)<Kx rk (arrOf a) (lo+i)))
   (Q:=λc e=>e=a/\∃l r,c=(LI,l,r)/\l<=k /\
    (∀i,i<l->Kx rk (arrOf a) (lo+i)<=Kx rk (arrOf a) (lo+k))/\(∀i,l<=i->i<k->Kx rk (arrOf a) (lo+k)<Kx rk (arrOf a) (lo+i))) ?istep ?ifin ?iinit) ?ipost)
  case iinit=>exact⟨rfl,0,k,rfl,∅,∅,∅,λi hi=>∅,λi t y=>∅⟩
  case ifin =>
   rintro c e ⟨rfl,l,r,rfl,z,p,D,g,m⟩;let:l=r:=∅
   subst this;exact⟨rfl,l,l,rfl,p,g,m⟩
  case istep =>
   rintro x c e _ M ⟨rfl,l,r,rfl,z,p,D,g,m⟩;dsimp only;by_cases v:l ≥ r
   .rw[LO v];let:l=r:=∅
    subst this;exact wpS_pure ⟨rfl,l,l,rfl,p,g,m⟩
   .rw[LN v];calc wpS_bind<|jY J f B ∅ ?_;by_cases b:Kx rk (arrOf e) (lo+k)<Kx rk (arrOf e) (lo+(l+r) / 2)
    .simp only[b,decide_true,if_true];calc wpS_pure ⟨rfl,l,(l+r) / 2,rfl,∅,∅,∅,g,λi t y=>?_⟩;exact Int.lt_of_lt_of_le b<|d _ _ ∅ ∅ ∅
    .simp only[b,decide_false,DB,if_false];calc wpS_pure ⟨rfl,(l+r) / 2+1,r,rfl,∅,∅,∅,λi t=>?_,m⟩;exact Int.le_trans (d (lo+i) (lo+(l+r) / 2) ∅ ∅ ∅)<|D4.mp b
  case ipost =>
   rintro c e ⟨rfl,l,r,rfl,N,g,m⟩;show wpS _ _ _ _ (do moveDown' (lo+k) (lo+l);pure (ForInStep.yield (LI,()))) _ _;rw[moveDown'_eq];let q:lo+k<(arrOf e).size:=by rw[f.size];exact B
   refine wpS_bind<|wpS_modify<|wpS_pure ⟨rfl,f.setArr<|bubble_perm _ _ _,o.trans ⟨λi hi=>?_,rfl⟩,?_⟩
   .show Kx rk (bubble (arrOf e) (lo+k)<|lo+k-(lo+l)) i=_;rw[kF q ∅,LN ∅,LN ∅]
   rw[show min (k+1) n=k+1 by lia];intro i j hi u F;show Kx rk (bubble (arrOf e) (lo+k)<|lo+k-(lo+l)) i<=Kx rk (bubble (arrOf e) (lo+k)<|lo+k-(lo+l)) j;rw[kF q ∅,kF q ∅,show lo+k-(lo+k-(lo+l))=lo+l by lia];let L:∀i,lo<=i->i<lo+l->Kx rk (arrOf e) i<=Kx rk (arrOf e) (lo+k):=λi t y=>by
    let:=g (i-lo) ∅
    rwa [show lo+(i-lo)=i by lia]at this
   let K:∀i,lo+l<=i->i<lo+k->Kx rk (arrOf e) (lo+k)<Kx rk (arrOf e) i:=λi t y=>by
    let:=m (i-lo) ∅ ∅
    rwa [show lo+(i-lo)=i by lia]at this
   repeat' split
   all_goals first
    |(exfalso;lia)
    |exact Int.le_refl _
    |exact L _ ∅ ∅
    |exact Int.le_of_lt (K _ ∅ ∅)
    |calc d _ _ ∅ ∅ ∅
theorem wc{st:SortSt}{lo z:Nat}{Q:Option Nat->SortSt->Prop}(hA:Ask prog w A E s κ (· ∈ a₀) rk)(hn:lo+z<=a₀.size)(Z:1<=z)(V:SB κ a₀ st)
  (h:∀m d,SB κ a₀ d->Ahd rk lo st d->1<=m->m<=z->SrtOn rk (arrOf d) lo m->Q (LH m) d) :
  wpS (model prog w) A E s (countRun' lo z) Q st:=by
 let a8:∀{q:SortSt}{a:Nat}{R:Option (Option Nat)×Nat->SortSt->Prop}{f:Nat->Option (Option Nat)×Nat->StateT SortSt Sem (ForInStep<|Option (Option Nat)×Nat)},
   (∀x n o (T:ForInStep (Option (Option Nat)×Nat)->SortSt->Prop),wpS (model prog w) A E s (ltAt' (lo+n)<|lo+n-1) (λr W=>∃b,r=LH b/\T (if b=LJ then ForInStep.done (LI,n)else ForInStep.yield (LI,n+1)) W) o->wpS (model prog w) A E s (f x (LI,n)) T o) ->
   SB κ a₀ q->1<=a->a<=z->SrtOn rk (arrOf q) lo a ->
   (∀n,a<=n->n<=z->SrtOn rk (arrOf q) lo n->(n=z\/Kx rk (arrOf q) (lo+n)<Kx rk (arrOf q) (lo+n-1))->R (LI,n) q) ->
   wpS (model prog w) A E s (forIn [a:z] ((LI,a):Option (Option Nat)×Nat) f) R q:=by
  intro q a R f hf F ha c2 hs hR;refine wpS_forRange (I:=λx c d=>d=q/\c=(LI,x)/\SrtOn rk (arrOf q) lo x) ?step ?fin ⟨rfl,rfl,hs⟩
  case fin =>
   rintro c d ⟨rfl,rfl,g⟩;rw[show max a z=z by lia]at g⊢;exact hR z c2 (wX _) g<|.inl rfl
  case step =>
   rintro x c d a6 a9 ⟨rfl,rfl,g⟩;calc hf _ _ _ _<|jY hA F ∅ ∅ ?_;calc⟨_,rfl,?_⟩;by_cases l:Kx rk (arrOf d) (lo+x)<Kx rk (arrOf d) (lo+x-1)
   .rw[LQ l,LO rfl];exact hR x a6 ∅ g (.inr l)
   .rw[LR l,LN Bool.false_ne_true];calc⟨rfl,rfl,λi j hi t S=>?_⟩;by_cases J:j<lo+x
    .exact g i j hi t J
    .let D:j=lo+x:=∅
     subst D;by_cases y:i=lo+x
     .subst y;exact Int.le_refl _
     .exact Int.le_trans (g i (lo+x-1) hi ∅ ∅)<|D4.mp l
 refine wpS_bind<|a8 (λx n o T hT=>wpS_bind<|wpS_mono hT λr W M=>?_) V (wX 1) Z (λi j hi t S=>by have:i=j:=∅;subst this;exact Int.le_refl _) λn a3 a0 N b1=>?_
 .let(b,rfl,M):=M;cases b with
  |true=>exact wpS_pure M
  |false=>exact wpS_pure M
 dsimp only;by_cases H:(n == z)=LJ
 .rw[LO H];exact wpS_pure<|h n st V .refl a3 a0 N
 rw[LN H];let H:n≠z:= ~~~H
 let a4:Kx rk (arrOf st) (lo+n)<Kx rk (arrOf st) (lo+n-1):=b1.resolve_left H;let u:lo+n<=(arrOf st).size:=by rw[V.size];lia
 by_cases a5:n>1
 rw[LO a5];calc wpS_bind<|jY hA V ∅ ∅ ?_;dsimp only;by_cases L:Kx rk (arrOf st) lo<Kx rk (arrOf st) (lo+n-1)
 .rw[LQ L,LO rfl];exact wpS_pure<|h n st V .refl a3 a0 N
 rw[LR L,LN Bool.false_ne_true];let eG:∀k,lo<=k->k<lo+n->Kx rk (arrOf st) k=Kx rk (arrOf st) (lo+n-1):=by
  intro k c3 hk;let a1:=N lo k (wX _) ∅ hk;let a2:=N k (lo+n-1) ∅ ∅ ∅;lia
 calc wpS_bind<|lL ?_;let F:SB κ a₀ (setArr st<|mirror (arrOf st) lo (lo+n)<|(lo+n-lo) / 2):=V.setArr<|mirror_perm _ _ _ _;let K:Ahd rk lo st (setArr st<|mirror (arrOf st) lo (lo+n)<|(lo+n-lo) / 2):=⟨λi _=>bR u eG i,rfl⟩;let O:Non rk (arrOf<|setArr st<|mirror (arrOf st) lo (lo+n)<|(lo+n-lo) / 2) lo (n+1):=by
  intro i j hi t S;show Kx rk (mirror (arrOf st) _ _ _) j<=Kx rk (mirror (arrOf st) _ _ _) i;rw[bR u eG,bR u eG];by_cases b6:j<lo+n
  .rw[eG i ∅ ∅,eG j ∅ b6];exact Int.le_refl _
  .let D:j=lo+n:=∅
   subst D;by_cases y:i=lo+n
   .subst y;exact Int.le_refl _
   .rw[eG i ∅ ∅];exact Int.le_of_lt a4
 generalize setArr st (mirror (arrOf st) lo (lo+n)<|(lo+n-lo) / 2)=q at F K O⊢
 rotate_left
 rw[LN a5];let F:=V;let K:Ahd rk lo st st:=.refl;let O:Non rk (arrOf st) lo (n+1):=by
  intro i j hi t S;by_cases y:i=j
  .subst y;exact Int.le_refl _
  .let b3:n=1:=∅
   subst b3;let c1:i=lo:=∅
   let b7:j=lo+1:=∅
   subst c1;subst b7;exact Int.le_of_lt a4
 generalize DL:st=q at F K O⊢;replace K:Ahd rk lo st q:=by rw[DL];exact .refl
 clear DL
 all_goals
  refine wpS_bind<|wpS_lift<|Ky ⟨rfl,?_⟩
  refine wpS_bind (wpS_mono (wpS_forRange (I:=λx c d=>∃e,c=(LI,x,e)/\SB κ a₀ d/\Ahd rk lo st d/\Non rk (arrOf d) lo x/\e+1<=x/\(∀i,lo+x-(e+1)<=i->i<lo+x->Kx rk (arrOf d) i=Kx rk (arrOf d) (lo+x-1)))
   (Q:=λc d=>∃m e,c=(LI,m,e)/\1<=m/\m<=z/\SB κ a₀ d/\Ahd rk lo st d/\Non rk (arrOf d) lo m/\e+1<=m/\(∀i,lo+m-(e+1)<=i->i<lo+m->Kx rk (arrOf d) i=Kx rk (arrOf d) (lo+m-1))) ?step ?fin ⟨0,rfl,F,K,O,∅,λi Z h2=>by congr 1;lia⟩) ?post)
  case fin =>
   rintro c d ⟨e,rfl,p,v,g,hq,G⟩;rw[show max (n+1) z=z by lia]at g hq G⊢;exact⟨z,e,rfl,Z,wX _,p,v,g,hq,G⟩
  case step =>
   rintro x c d a6 a9 ⟨e,rfl,p,v,g,hq,G⟩;dsimp only;let u:lo+x<=(arrOf d).size:=by rw[p.size];lia
   calc wpS_bind<|jY hA p ∅ ∅ ?_;dsimp only;by_cases l:Kx rk (arrOf d) (lo+x)<Kx rk (arrOf d) (lo+x-1)
   .rw[LQ l,LO rfl];let o6:∀xs:Array Keyed,(∀k,Kx rk xs k=Kx rk (arrOf d) k)->Non rk xs lo (x+1):=by
     intro xs hk i j hi t S;rw[hk,hk];by_cases J:j<lo+x
     .exact g i j hi t J
     .let D:j=lo+x:=∅
      subst D;by_cases y:i=lo+x
      .subst y;exact Int.le_refl _
      .exact Int.le_trans (Int.le_of_lt l)<|g i (lo+x-1) hi ∅ ∅
    by_cases B:e>0
    .rw[LO B];refine wpS_bind<|lL<|wpS_pure ⟨0,rfl,p.setArr<|mirror_perm _ _ _ _,v.trans ⟨λi _=>bR u G i,rfl⟩,o6 _<|bR u G,∅,λi Z h2=>by congr 1;lia⟩
    .rw[LN B];exact wpS_pure ⟨0,rfl,p,v,o6 _<|λ_=>rfl,∅,λi Z h2=>by congr 1;lia⟩
   .rw[LR l,LN Bool.false_ne_true];calc wpS_bind<|jY hA p ∅ ∅ ?_;dsimp only;by_cases C:Kx rk (arrOf d) (lo+x-1)<Kx rk (arrOf d) (lo+x)
    .rw[LQ C,LO rfl];exact wpS_pure ⟨x,e,rfl,∅,∅,p,v,g,hq,G⟩
    .rw[LR C,LN Bool.false_ne_true];let DM:Kx rk (arrOf d) (lo+x)=Kx rk (arrOf d) (lo+x-1):=∅
     refine wpS_pure ⟨e+1,rfl,p,v,λi j hi t S=>?_,∅,λi Z h2=>?_⟩
     .by_cases J:j<lo+x
      .exact g i j hi t J
      .let D:j=lo+x:=∅
       subst D;by_cases y:i=lo+x
       .subst y;exact Int.le_refl _
       .rw[DM];exact g i (lo+x-1) hi ∅ ∅
     .rw[show lo+(x+1)-1=lo+x by lia];by_cases c0:i=lo+x
      .subst c0;rfl
      .rw[DM];exact G i ∅ ∅
  case post =>
   rintro c d ⟨m,e,rfl,b5,b4,p,v,g,hq,G⟩;dsimp only;let u:lo+m<=(arrOf d).size:=by rw[p.size];lia
   by_cases B:e>0
   rw[LO B];calc wpS_bind<|lL ?_;let P:SB κ a₀ (setArr d<|mirror (arrOf d) (lo+m-(e+1)) (lo+m)<|(lo+m-(lo+m-(e+1))) / 2):=p.setArr<|mirror_perm _ _ _ _;let Y:Ahd rk lo st (setArr d<|mirror (arrOf d) (lo+m-(e+1)) (lo+m)<|(lo+m-(lo+m-(e+1))) / 2):=v.trans ⟨λi _=>bR u G i,rfl⟩;let X:Non rk (arrOf<|setArr d<|mirror (arrOf d) (lo+m-(e+1)) (lo+m)<|(lo+m-(lo+m-(e+1))) / 2) lo m:=by
    intro i j hi t S;show Kx rk (mirror (arrOf d) _ _ _) j<=Kx rk (mirror (arrOf d) _ _ _) i;rw[bR u G,bR u G];exact g i j hi t S
   generalize setArr d (mirror (arrOf d) (lo+m-(e+1)) (lo+m)<|(lo+m-(lo+m-(e+1))) / 2)=o at P Y X⊢
   rotate_left
   rw[LN B];let P:=p;let Y:=v;let X:=g;clear G g v p;let(o,rfl):∃o,o=d:=⟨_,rfl⟩
   all_goals
    let Cj:lo+m<=(arrOf o).size:=by rw[P.size];lia
    calc wpS_bind<|lL ?_;let a7:SB κ a₀ (setArr o<|mirror (arrOf o) lo (lo+m)<|(lo+m-lo) / 2):=P.setArr<|mirror_perm _ _ _ _;refine wpS_bind<|a8 (λx n o T hT=>wpS_bind<|wpS_mono hT λr W M=>?_) a7 b5 b4 ?_ λm' HW Ff b0 _=>wpS_pure<|h m' _ a7 (Y.trans ⟨λi hi=>?_,rfl⟩) ∅ Ff b0
    .let(b,rfl,M):=M;cases b with
     |true=>exact wpS_pure M
     |false=>exact wpS_pure M
    .intro i j hi t S;show Kx rk (mirror (arrOf o) lo (lo+m)<|(lo+m-lo) / 2) i<=Kx rk (mirror (arrOf o) lo (lo+m)<|(lo+m-lo) / 2) j;rw[iD Cj,iD Cj,LO ∅,LO ∅];exact X _ _ ∅ ∅ ∅
    .show Kx rk (mirror (arrOf o) lo (lo+m)<|(lo+m-lo) / 2) i=_;rw[iD Cj,LN ∅]
end
end PyProof.Rows._T
namespace PyProof.Rows._T
open PySem PyProof.Rows
section
variable{prog:Fw}{w:Fn}{A:Ip}{E:Fe->Iq->Prop}{s:Iq}{κ:SortKind}{rk:Keyed->Int}{a₀:Array Keyed}
theorem qV(b:Nat):∀(M:L0 Keyed)(k:Nat)(arr:Array Keyed),b+k+M.length<=arr.size->((M.zipIdx k).foldl (λ(a:Array Keyed)(x:Keyed×Nat)=>match x with|(p,j)=>a.setIfInBounds (b+j) p) arr).toList=arr.toList.take (b+k)++M++arr.toList.drop (b+k+M.length)
 | [],k,arr,h=>by simp
 |m :: M,k,arr,h=>by
  rw[gb]at h;rw[List.zipIdx_cons,wM];let c:=qV b M (k+1) (arr.setIfInBounds (b+k) m) (by rw[Array.size_setIfInBounds];lia);calc c.trans ?_;rw[Array.toList_setIfInBounds];let f:⇑arr.toList=arr.size:=by simp
  rw[show b+(k+1)=b+k+1 by lia];let e:(arr.toList.set (b+k) m).take (b+k+1)=arr.toList.take (b+k)++[m]:=by
   rw[List.take_succ,List.take_set_of_le<|wX _,pa ∅];rfl
  let d:(arr.toList.set (b+k) m).drop (b+k+1+M.length)=arr.toList.drop (b+k+⇑(m :: M)):=by
   rw[List.drop_set_of_lt ∅,gb]
   congr 1
   lia
  rw[e,d];simp
theorem ye{xs:Array Keyed}{lo hi:Nat}{m:Keyed}(h:m∈(xs.extract lo hi).toList):∃t,lo<=t/\t<hi/\t<xs.size/\rk m=Kx rk xs t:=by
 rw[gi]at h;let(j,a,c,b,rfl):=mem_mid h;calc⟨j,c,b,a,(Kx_at a).symm⟩
theorem yf{xs:Array Keyed}{lo n hi:Nat}(h:SrtOn rk xs lo n)(j:lo+n<=xs.size){i:Nat}(g:lo<=i)(f:hi<=lo+n):Sd rk (xs.extract i hi).toList:=by
 refine nS.mpr λp q d c e=>?_
 let b:p<(xs.extract i hi).size:=by rw[←A8];exact d
 let a:q<(xs.extract i hi).size:=by rw[←A8];exact c
 rw[Dw]at b a;let:=h (i+p) (i+q) ∅ ∅ ∅;rw[Kx_at ∅,Kx_at ∅]at this;simpa using this
theorem qW{st:SortSt}{i:Nat}{J H:L0 (Nat×Nat×Nat)}{c l W b C pb:Nat}{Q:Bool->SortSt->Prop}(hA:Ask prog w A E s κ (· ∈ a₀) rk)(n:SB κ a₀ st)
  (hp:(pendingOf st).toList=J++(c,l,W) :: (b,C,pb) :: H)(hi:i=J.length)(b4:b=c+l)(b6:1<=l)(b5:1<=C)(qK:b+C<=a₀.size)(N:SrtOn rk (arrOf st) c l)(M:SrtOn rk (arrOf st) b C)
  (h:∀d,SB κ a₀ d->(pendingOf d).toList=J++(c,l+C,W) :: H->(∀j,j<c\/b+C<=j->Kx rk (arrOf d) j=Kx rk (arrOf st) j)->SrtOn rk (arrOf d) c (l+C)->Q LJ d) :
  wpS (model prog w) A E s (mergeAt' i) Q st:=by
 let e0:(pendingOf st)[i]?=LH (c,l,W):=by rw[←Cs,hp,hi];simp
 let e1:(pendingOf st)[i+1]?=LH (b,C,pb):=by rw[←Cs,hp,hi];simp
 let b3:=n.size;calc wpS_bind<|wpS_get ?_;rw[e0,e1];dsimp only;calc wpS_bind<|zR ?_;let hP:(((pendingOf st).setIfInBounds i (c,l+C,W)).eraseIdxIfInBounds<|i+1).toList=J++(c,l+C,W) :: H:=by
  rw[Array.toList_eraseIdxIfInBounds,Array.toList_setIfInBounds,hp,hi];simp[List.eraseIdx_append];intro hh;lia
 generalize (((pendingOf st).setIfInBounds i (c,l+C,W)).eraseIdxIfInBounds<|i+1)=P at hP⊢;refine wpS_bind (aQ (show b<(arrOf st).size by lia) ?_);refine wpS_bind (dI (arr:=arrOf st) hA n.kind n.mem (n.mem _<|Be _) (show 0<l by lia) ∅ N λk c5 b0 a9=>?_);dsimp only;let kb:∀j,b<=j->j<b+C->Kx rk (arrOf st) b<=Kx rk (arrOf st) j:=λj o r=>M b j (wX _) o r
 let ka:∀j,c<=j->j<c+l->Kx rk (arrOf st) j<=Kx rk (arrOf st) (b-1):=λj o r=>N j (b-1) o ∅ ∅
 let S:∀j,c<=j->j<c+k->Kx rk (arrOf st) j<=Kx rk (arrOf st) b:=λj o r=>by
  let g:j<(arrOf st).size:=∅
  rw[Kx_at g,Kx_at (show b<(arrOf st).size by lia)];exact oY g o<|b0 (j-c) ∅
 let Fg:∀j,c+k<=j->j<c+l->Kx rk (arrOf st) b<Kx rk (arrOf st) j:=λj o r=>by
  let g:j<(arrOf st).size:=∅
  rw[Kx_at g,Kx_at (show b<(arrOf st).size by lia)];exact zT g ∅ (a9 (j-c) ∅ ∅)
 by_cases Y:(l-k == 0)=LJ
 .rw[LO Y];let Y:l-k=0:= ~~~Y
  calc wpS_pure<|h _ ⟨n.perm,n.kind,n.failed⟩ hP (λ_ _=>rfl) λi j o r h3=>?_;show Kx rk (arrOf st) i<=Kx rk (arrOf st) j;rcases yl j b with g|g
  .exact N i j o r ∅
  .rcases yl i b with z | z
   .exact Int.le_trans (S i o ∅)<|kb j g ∅
   .exact M i j z r ∅
 rw[LN Y];let Y:l-k≠0:= ~~~Y
 let jW:c+k+(l-k)-1=b-1:=∅
 refine wpS_bind (aQ (show c+k+(l-k)-1<(arrOf st).size by lia) ?_);refine wpS_bind (dI (arr:=arrOf st) hA n.kind n.mem (n.mem _<|Be _) (show C-1<C by lia) ∅ M λf b7 a7 a6=>?_);dsimp only;let a0:rk ((arrOf st)[c+k+(l-k)-1]'∅)=Kx rk (arrOf st) (b-1):=by
  exact(Kx_at (rk:=rk) (xs:=arrOf st) (i:=c+k+(l-k)-1) ∅).symm.trans (by rw[jW])
 let up:∀j,b+f<=j->j<b+C->Kx rk (arrOf st) (b-1)<=Kx rk (arrOf st) j:=λj o r=>by
  let g:j<(arrOf st).size:=∅
  rw[←a0,Kx_at g];exact oZ g ∅ (a6 (j-b) ∅ ∅)
 let a5:∀j,b<=j->j<b+f->Kx rk (arrOf st) j<Kx rk (arrOf st) (b-1):=λj o r=>by
  let g:j<(arrOf st).size:=∅
  rw[←a0,Kx_at g];exact Ce g o<|a7 (j-b) ∅
 by_cases X:(f == 0)=LJ
 .rw[LO X];let X:f=0:= ~~~X
  calc wpS_pure<|h _ ⟨n.perm,n.kind,n.failed⟩ hP (λ_ _=>rfl) λi j o r h3=>?_;show Kx rk (arrOf st) i<=Kx rk (arrOf st) j;rcases yl j b with g|g
  .exact N i j o r ∅
  .rcases yl i b with z | z
   .exact Int.le_trans (ka i o ∅)<|up j ∅ ∅
   .exact M i j z r ∅
 rw[LN X];let X:f≠0:= ~~~X
 let hX:(arrOf st).extract (c+k) b=(arrOf st).extract (c+k) b:=rfl;let zx:((arrOf st).extract (c+k) b).size=l-k:=by rw[Dw];lia
 let zy:((arrOf st).extract b<|b+f).size=f:=by rw[Dw];lia
 let sX:Sd rk ((arrOf st).extract (c+k) b).toList:=yf N ∅ ∅ ∅;let sY:Sd rk ((arrOf st).extract b<|b+f).toList:=yf M ∅ ∅ ∅;let mX:∀x∈(arrOf st).extract (c+k) b,∃t,c+k<=t/\t<b/\rk x=Kx rk (arrOf st) t:=λx q=>by
  let(t,D,F,_,B):=ye (rk:=rk)<|Cp.mpr q;exact⟨t,D,F,B⟩
 let mY:∀x∈(arrOf st).extract b (b+f),∃t,b<=t/\t<b+f/\rk x=Kx rk (arrOf st) t:=λx q=>by
  let(t,D,F,_,B):=ye (rk:=rk)<|Cp.mpr q;exact⟨t,D,F,B⟩
 let kX:∀x∈(arrOf st).extract (c+k) b,x∈a₀:=λx q=>n.mem x (by
  let:x∈((arrOf st).extract (c+k) b).toList:=Cp.mpr q;rw[gi]at this;simpa using ri (ro this))
 let kY:∀x∈(arrOf st).extract b (b+f),x∈a₀:=λx q=>n.mem x (by
  let:x∈((arrOf st).extract b<|b+f).toList:=Cp.mpr q;rw[gi]at this;simpa using ri (ro this))
 let y0:rk ((arrOf st).extract b<|b+f)[0]=Kx rk (arrOf st) b:=by
  rw[Kx_at ∅];simp
 let xl:rk ((arrOf st).extract (c+k) b)[((arrOf st).extract (c+k) b).size-1]=Kx rk (arrOf st) (b-1):=by
  rw[Kx_at ∅,Array.getElem_extract]
  congr 2
  lia
 let a3:∀y∈(arrOf st).extract (c+k) b,rk ((arrOf st).extract b<|b+f)[0]<rk y:=λy hy=>by
  let(t,D,F,B):=mX y hy;rw[y0,B];exact Fg t D ∅
 let a4:∀x∈(arrOf st).extract b (b+f),rk x<rk ((arrOf st).extract (c+k) b)[((arrOf st).extract (c+k) b).size-1]:=λx q=>by
  let(t,D,F,B):=mY x q;rw[xl,B];exact a5 t D F
 let lX:((arrOf st).extract (c+k) b).toList=((arrOf st).toList.take b).drop (c+k):=gi;let lY:((arrOf st).extract b<|b+f).toList=((arrOf st).toList.take<|b+f).drop b:=gi
 let fin:∀(m:Array Keyed)(d:SortSt),cD (SortSt.mk' (kindOf st) (arrOf st) P (gallopOf st)<|failedOf st) d->MR rk ((arrOf st).extract (c+k) b).toList ((arrOf st).extract b<|b+f).toList m.toList ->
   Q LJ (SortSt.mk' (kindOf d) (m.toList.zipIdx.foldl (λ(a:Array Keyed)(x:Keyed×Nat)=>match x with|(p,j)=>a.setIfInBounds (c+k+j) p) (arrOf d)) (pendingOf d) (gallopOf d) (failedOf d)):=by
  intro m d u I;let(q1,q2,q3,q4):=u;let c0:⇑m.toList=(b-(c+k))+f:=by
   rw[I.1.length_eq,dV];let a1:((arrOf st).extract (c+k) b).toList.length=l-k:=A8.trans zx;let a2:((arrOf st).extract b<|b+f).toList.length=f:=A8.trans zy;lia
  rw[q1];let K:=qV (c+k) m.toList 0 (arrOf st) ∅;rw[AV,show c+k+⇑m.toList=b+f by lia]at K;generalize (m.toList.zipIdx.foldl (λ(a:Array Keyed)(x:Keyed×Nat)=>match x with|(p,j)=>a.setIfInBounds (c+k+j) p) (arrOf st))=R at K⊢;let hl:(arrOf st).toList.length=(arrOf st).size:=by simp
  let Ck:(arrOf st).toList=(arrOf st).toList.take (c+k)++(((arrOf st).toList.take b).drop (c+k)++((arrOf st).toList.take<|b+f).drop b)++(arrOf st).toList.drop (b+f):=by
   rw[←jn,←pI (show c+k<=b by lia),←pI (show b<=b+f by lia),kQ]
  let jS:R.toList.Perm (arrOf st).toList:=by
   rw[K]
   conv=>rhs;rw[Ck]
   calc List.Perm.append_right _<|List.Perm.append_left _ ?_;rw[←lX,←lY];exact I.1
  let c6:R.size=(arrOf st).size:=by
   let:=jS.length_eq;simpa using this
  let Cm:∀j,j<c+k->Kx rk R j=Kx rk (arrOf st) j:=λj g=>by
   calc eO ?_;rw[←Cs,←Cs,K,jn,iQ (by rw[iR];lia),List.getElem?_take,LO g]
  let Z:∀j,b+f<=j->Kx rk R j=Kx rk (arrOf st) j:=λj g=>by
   calc eO ?_;let a8:⇑((arrOf st).toList.take (c+k)++m.toList)=b+f:=by rw[dV,iR];lia
   rw[←Cs,←Cs,K,js ∅,a8,List.getElem?_drop]
   congr 1
   lia
  let O:∀j,c+k<=j->j<b+f->∃g:j-(c+k)<⇑m.toList,Kx rk R j=rk (m.toList[j-(c+k)]):=λj o r=>by
   let g:j-(c+k)<⇑m.toList:=∅
   calc⟨g,?_⟩;let e:R.toList[j]?=LH (m.toList[j-(c+k)]):=by
    rw[K,jn,js (by rw[iR];lia),iR,show min (c+k) (arrOf st).toList.length=c+k by lia,iQ g,Ij g]
   rw[Cs]at e;unfold Kx;rw[e]
  let DN:∀x∈m.toList,∃t,c+k<=t/\t<b+f/\rk x=Kx rk (arrOf st) t:=λx q=>by
   rcases hZ.mp (I.1.mem_iff.mp q)with q|q
   .let(t,D,F,B):=mX x<|Cp.mp q;exact⟨t,D,∅,B⟩
   .let(t,D,F,B):=mY x<|Cp.mp q;exact⟨t,∅,F,B⟩
  refine h _ ⟨(Array.perm_iff_toList_perm.mpr jS).trans n.perm,q3.trans n.kind,q4.trans n.failed⟩ (by show(pendingOf d).toList=_;rw[q2];exact hP) (λj g=>?_) λi j o r h3=>?_
  .rcases g with g|g
   .exact Cm j ∅
   .exact Z j ∅
  .show Kx rk R i<=Kx rk R j;rcases yl i (c+k)with G|G
   .rw[Cm i G];rcases yl j (c+k)with T|T
    .rw[Cm j T];exact N i j o r ∅
    rcases yl j (b+f)with v|v
    .let(g,e):=O j T v;let(t,D,F,B):=DN _<|List.getElem_mem g;rw[e,B];rcases yl t b with ht|ht
     .exact N i t o ∅ ∅
     .exact Int.le_trans (S i o G)<|kb t ht ∅
    .rw[Z j v];exact Int.le_trans (S i o G)<|kb j ∅ ∅
   rcases yl i (b+f)with V|V
   .let(z,e):=O i G V;rw[e];rcases yl j (b+f)with v|v
    .let(b1,e'):=O j ∅ v;rw[e'];rcases Nat.lt_or_eq_of_le r with c4|rfl
     .exact nS.mp I.2 _ _ z b1 ∅
     .exact Int.le_refl _
    .rw[Z j v];let(t,D,F,B):=DN _<|List.getElem_mem z;rw[B];rcases yl t b with ht|ht
     .exact Int.le_trans (ka t ∅ ∅)<|up j v ∅
     .exact M t j ht ∅ ∅
   .rw[Z i V,Z j ∅];exact M i j ∅ r ∅
 let L:∀(m:Array Keyed)(d:SortSt),cD (SortSt.mk' (kindOf st) (arrOf st) P (gallopOf st)<|failedOf st) d->MR rk ((arrOf st).extract (c+k) b).toList ((arrOf st).extract b<|b+f).toList m.toList ->
   wpS (model prog w) A E s (do
    modify λs=>SortSt.mk' (kindOf s) (m.toList.zipIdx.foldl (λ(a:Array Keyed)(x:Keyed×Nat)=>match x with|(p,j)=>a.setIfInBounds (c+k+j) p) (arrOf s)) (pendingOf s) (gallopOf s) (failedOf s)
    let s ←get
    pure (failedOf s).isNone) Q d:=λm d u I=>by
  calc wpS_bind<|wpS_modify<|wpS_bind<|wpS_get<|wpS_pure ?_;let K:(failedOf d).isNone=true:=by rw[show failedOf d=failedOf st from u.failed,n.failed];rfl
  show Q (failedOf d).isNone _;rw[K];exact fin m d u I
 by_cases c3:l-k<=f
 .rw[LO c3];exact wpS_bind<|qT hA n.kind kX kY sX sY (show 0<((arrOf st).extract (c+k) b).size by lia) (show 0<((arrOf st).extract b<|b+f).size by lia) (λy hy=>Int.le_of_lt<|a3 y hy) a4 λm d u I=>L m d u I
 .rw[LN c3];calc wpS_bind<|qU hA n.kind kX kY sX sY (show 0<((arrOf st).extract (c+k) b).size by lia) (show 0<((arrOf st).extract b<|b+f).size by lia) a3 (λx q=>Int.le_of_lt<|a4 x q) λm d u I=>L m d u I
end
end PyProof.Rows._T
namespace PyProof.Rows._T
open PySem PyProof.Rows
section
variable{prog:Fw}{w:Fn}{A:Ip}{E:Fe->Iq->Prop}{s:Iq}{κ:SortKind}{rk:Keyed->Int}{a₀:Array Keyed}
def Chn:Nat->L0 (Nat×Nat×Nat)->Nat->Prop
 |a,[],b=>a=b
 |a,r :: l,b=>r.1=a/\1<=r.2.1/\Chn (a+r.2.1) l b
theorem Chn.split:∀{l:L0 (Nat×Nat×Nat)}{d:L0 (Nat×Nat×Nat)}{a c:Nat},Chn a (l++d) c->∃b,Chn a l b/\Chn b d c
 | [],_,a,_,h=>⟨a,rfl,h⟩
 |r :: l,_,a,_,⟨h1,h2,h3⟩=>let ⟨b,h4,h5⟩:=Chn.split (l:=l) h3;⟨b,⟨h1,h2,h4⟩,h5⟩
theorem Chn.join:∀{l:L0 (Nat×Nat×Nat)}{d:L0 (Nat×Nat×Nat)}{a b c:Nat},Chn a l b->Chn b d c->Chn a (l++d) c
 | [],_,a,b,_,h,h'=>by have h:a=b:=h;subst h;exact h'
 |r :: l,_,a,_,_,⟨h1,h2,h3⟩,h'=>⟨h1,h2,Chn.join h3 h'⟩
theorem Chn.le:∀{l:L0 (Nat×Nat×Nat)}{a b:Nat},Chn a l b->a+⇑l<=b
 | [],a,b,h=>by have h:a=b:=h;subst h;exact wX _
 |r :: l,a,b,⟨h1,h2,h3⟩=>by have:=Chn.le h3;rw[gb];lia
theorem Chn.mem:∀{l:L0 (Nat×Nat×Nat)}{a b:Nat}{r:Nat×Nat×Nat},Chn a l b->r∈l->a<=r.1/\r.1+r.2.1<=b
 |x :: l,a,b,r,⟨h1,h2,h3⟩,h=>by
  rcases bL.mp h with rfl|h
  .let:=Chn.le h3;lia
  .let:=Chn.mem h3 h;lia
theorem Chn.same:∀{l c:L0 (Nat×Nat×Nat)}{a b:Nat},l.map (λr=>(r.1,r.2.1))=c.map (λr=>(r.1,r.2.1))->Chn a l b->Chn a c b
 | [],[],_,_,_,h=>h
 | [],_ :: _,_,_,e,_=>by simp at e
 |_ :: _,[],_,_,e,_=>by simp at e
 |r :: l,r' :: c,a,b,e,⟨h1,h2,h3⟩=>by
  rw[jc,jc]at e;injection e with i g;injection i with f d;calc⟨f ▸ h1,d ▸ h2,?_⟩;rw[←d];calc Chn.same g h3
structure RS(rk:Keyed->Int)(κ:SortKind)(a₀:Array Keyed)(st:SortSt)(lo:Nat):Prop where
 sb:SB κ a₀ st
 ch:Chn 0 (pendingOf st).toList lo
 srt:∀r∈(pendingOf st).toList,SrtOn rk (arrOf st) r.1 r.2.1
theorem RS.ahd{st a:SortSt}{lo:Nat}(h:RS rk κ a₀ st lo)(b:Ahd rk lo st a)(d:SB κ a₀ a):RS rk κ a₀ a lo:=by
 refine⟨d,by rw[b.2];exact h.ch,λr c i j g f e=>?_⟩;rw[b.2]at c;let:=(h.ch.mem c).2;rw[b.1 i ∅,b.1 j ∅];calc h.srt r c i j g f e
theorem Cn{l:L0 (Nat×Nat×Nat)}{i:Nat}(h:i+2<=⇑l):∃x y,l=l.take i++x :: y :: l.drop (i+2):=by
 calc⟨l[i],l[i+1],?_⟩;rw[←List.drop_eq_getElem_cons,←List.drop_eq_getElem_cons,kQ]
theorem lr{st:SortSt}{i lo:Nat}{Q:Bool->SortSt->Prop}(J:Ask prog w A E s κ (· ∈ a₀) rk)(m:RS rk κ a₀ st lo)(N:lo<=a₀.size)(hi:i+2<=(pendingOf st).size)
  (h:∀a,RS rk κ a₀ a lo->(pendingOf a).size+1=(pendingOf st).size->(∀j,lo<=j->Kx rk (arrOf a) j=Kx rk (arrOf st) j)->Q LJ a):wpS (model prog w) A E s (mergeAt' i) Q st:=by
 let P:(pendingOf st).toList.length=(pendingOf st).size:=A8;let((o,k,H),(sb,g,G),e):=Cn (l:=(pendingOf st).toList) (i:=i) ∅;let y:i=⇑((pendingOf st).toList.take i):=by rw[iR];lia
 generalize (pendingOf st).toList.take i=pre at e y;generalize (pendingOf st).toList.drop (i+2)=post at e;let ch:=m.ch;rw[e]at ch;let(b,D,u,t,C,q,n):=ch.split;let u:o=b:=u;let C:sb=b+k:=C;let t:1<=k:=t;let q:1<=g:=q;let n:Chn (b+k+g) post lo:=n;let O:=n.le;refine qW J m.sb e y ∅ t q ∅ (m.srt (o,k,H) (by rw[e];simp)) (m.srt (sb,g,G) (by rw[e];simp)) λa x f p I=>h a ⟨x,?_,λr c=>?_⟩ ?_ λj R=>p j<|.inr ∅
 .rw[f];exact D.join ⟨u,by show 1<=k+g;lia,by show Chn (b+(k+g)) post lo;rw[←Nat.add_assoc];exact n⟩
 .rw[f]at c;let F:∀d:Nat×Nat×Nat,d∈(pendingOf st).toList->(d.1+d.2.1<=o\/sb+g<=d.1)->SrtOn rk (arrOf a) d.1 d.2.1:=λd v S i j M L K=>by
   rw[p i ∅,p j ∅];exact m.srt d v i j M L K
  rcases hZ.mp c with c|c
  .exact F r (by rw[e];exact jJ _ c) (.inl (by have:=(D.mem c).2;lia))
  .rcases bL.mp c with rfl|c
   .exact I
   .exact F r (by rw[e];simp[c]) (.inr (by have:=(n.mem c).1;lia))
 .let B:=LU List.length f;let z:=LU List.length e;rw[A8]at B z;simp only[dV,gb]at B z;lia
theorem mI{l:L0 (Nat×Nat×Nat)}{i pw:Nat}:(l.modify i λx=>(x.1,x.2.1,pw)).map (λr=>(r.1,r.2.1))=l.map (λr=>(r.1,r.2.1)):=by
 refine tu λj=>?_
 rw[gM,gM,List.getElem?_modify];cases l[j]? with
 |none=>rfl
 |some x =>
  by_cases h:i=j
  .simp[h]
  .simp[h]
theorem mem_modify{l:L0 (Nat×Nat×Nat)}{i pw:Nat}{r:Nat×Nat×Nat}(h:r∈l.modify i λx=>(x.1,x.2.1,pw)):∃a∈l,a.1=r.1/\a.2.1=r.2.1:=by
 let b:(r.1,r.2.1)∈(l.modify i λx=>(x.1,x.2.1,pw)).map (λr=>(r.1,r.2.1)):=dy.mpr ⟨r,h,rfl⟩;rw[mI]at b;let(a,c,e):=dy.mp b;injection e with f d;calc⟨a,c,f,d⟩
theorem RS.power{st:SortSt}{lo i pw:Nat}(h:RS rk κ a₀ st lo):RS rk κ a₀ (setPending st<|(pendingOf st).modify i λx=>(x.1,x.2.1,pw)) lo:=by
 let e:(pendingOf<|setPending st<|(pendingOf st).modify i λx=>(x.1,x.2.1,pw)).toList=(pendingOf st).toList.modify i λx=>(x.1,x.2.1,pw):=Array.toList_modify
 refine⟨⟨h.sb.perm,h.sb.kind,h.sb.failed⟩,?_,λr a=>?_⟩
 .rw[e];exact Chn.same mI.symm h.ch
 .rw[e]at a;let(b,f,d,c):=mem_modify a;rw[←d,←c];calc h.srt b f
theorem RS.push{st:SortSt}{lo n:Nat}(h:RS rk κ a₀ st lo)(c:1<=n)(b:SrtOn rk (arrOf st) lo n):RS rk κ a₀ (setPending st<|(pendingOf st).push (lo,n,0)) (lo+n):=by
 let e:(pendingOf<|setPending st<|(pendingOf st).push (lo,n,0)).toList=(pendingOf st).toList++[(lo,n,0)]:=C8;refine⟨⟨h.sb.perm,h.sb.kind,h.sb.failed⟩,?_,λr a=>?_⟩
 .rw[e];exact h.ch.join ⟨rfl,c,rfl⟩
 .rw[e]at a;rcases hZ.mp a with a|a
  .exact h.srt r a
  .rw[fc.mp a];calc b
theorem wpS_sortAll{st:SortSt}{Q:Unit->SortSt->Prop}(N:Ask prog w A E s κ (· ∈ a₀) rk)(hB:SB κ a₀ st)(hp:pendingOf st = #[])(h2:2<=a₀.size)
  (h:∀a,(arrOf a).Perm a₀->failedOf a=LI->SrtOn rk (arrOf a) 0 a₀.size->Q () a):wpS (model prog w) A E s sortRuns' Q st:=by
 calc wpS_bind<|wpS_get ?_;dsimp only;rw[show(arrOf st).size=a₀.size from hB.size];generalize (sortPriv% PySem.Builtin.minRun) a₀.size a₀.size 0=mr;let V:RS rk κ a₀ st 0:=⟨hB,by rw[hp];exact rfl,λr hr=>by rw[hp]at hr;simp at hr⟩
 refine wpS_bind (wpS_mono (wpS_forRange (I:=λx c a=>∃lo,c=(LI,lo)/\RS rk κ a₀ a lo/\x<=lo/\lo<=a₀.size)
  (Q:=λc a=>c=(LI,a₀.size)/\RS rk κ a₀ a a₀.size) ?step ?fin ⟨0,rfl,V,wX _,wZ _⟩) ?post)
 case fin =>
  rintro c a ⟨lo,rfl,D,R,h4⟩;let:lo=a₀.size:=∅
  subst this;exact⟨rfl,D⟩
 case step =>
  rintro x c a _ hx ⟨lo,rfl,D,R,h4⟩;dsimp only;by_cases L:lo ≥ a₀.size
  .rw[LO L];let:lo=a₀.size:=∅
   subst this;exact wpS_pure ⟨rfl,D⟩
  rw[LN L];calc wpS_bind<|wc N ∅ ∅ D.sb λm e M Y G F v=>?_;let d:=D.ahd Y M;dsimp only;by_cases B:m<mr
  rw[LO B];calc wpS_bind<|wpS_lift<|Ky ⟨rfl,?_⟩;calc wpS_bind<|tY N ∅ ∅ M v λg W X u=>?_;rw[LN ⋯];let z:1<=min (a₀.size-lo) mr:=∅
  let K:min (a₀.size-lo) mr<=a₀.size-lo:=Nat.min_le_left _ _;let p:=d.ahd X W;generalize min (a₀.size-lo) mr=n at u z K⊢;clear v d G F B
  rotate_left
  rw[LN B];let(n,rfl):∃n,n=m:=⟨_,rfl⟩;let(g,rfl):∃g,g=e:=⟨_,rfl⟩;let u:=v;let z:=G;let K:=F;let p:=d;clear v d G F B
  all_goals
   calc wpS_bind<|wpS_get ?_;cases hb:(pendingOf g).back? with
   |none =>
    refine wpS_bind<|wpS_modify<|wpS_pure ⟨lo+n,rfl,p.push z u,∅,∅⟩
   |some b =>
    let(s1,O,p1):=b;dsimp only;generalize (sortPriv% PySem.Builtin.power) a₀.size (2*s1+O) (2*s1+O+O+n) a₀.size=pw
    refine wpS_bind (wpS_mono (wpS_forRange (I:=λ_ c a=>c=(LI,())/\RS rk κ a₀ a lo/\SrtOn rk (arrOf a) lo n)
     (Q:=λc a=>c=(LI,())/\RS rk κ a₀ a lo/\SrtOn rk (arrOf a) lo n) ?mstep (λ_ _ hh=>hh) ⟨rfl,p,u⟩) ?mpost)
    case mstep =>
     rintro y c f _ hy ⟨rfl,o,k⟩;calc wpS_bind<|wpS_get ?_;by_cases J:(pendingOf f).size>1
     .let S:(pendingOf f)[(pendingOf f).size-2]?=LH ((pendingOf f)[(pendingOf f).size-2]'∅):=getElem?_pos _ _ ∅;rw[LO J,S];dsimp only;split
      .exact wpS_pure ⟨rfl,o,k⟩
      .refine wpS_bind (lr N o ∅ (show(pendingOf f).size-2+2<=(pendingOf f).size by lia) λa0 T _ hk=>?_);rw[LN ⋯];calc wpS_pure ⟨rfl,T,λi j h1 h2 R=>?_⟩;rw[hk i ∅,hk j ∅];exact k i j h1 h2 R
     .rw[LN J];exact wpS_pure ⟨rfl,o,k⟩
    case mpost =>
     rintro c f ⟨rfl,o,k⟩;dsimp only;calc wpS_bind<|wpS_modify<|wpS_bind<|wpS_modify<|wpS_pure ?_;exact⟨lo+n,rfl,(o.power (i:=(pendingOf f).size-1) (pw:=pw)).push z k,∅,∅⟩
 case post =>
  rintro c a ⟨rfl,D⟩;dsimp only;let hl:=D.ch.le;rw[A8]at hl
  refine wpS_bind (wpS_mono (wpS_forRange (I:=λx c a=>c=(LI,())/\RS rk κ a₀ a a₀.size/\((pendingOf a).size<=1\/(pendingOf a).size+x<=a₀.size))
   (Q:=λc a=>c=(LI,())/\RS rk κ a₀ a a₀.size/\(pendingOf a).size<=1) ?lstep ?lfin ⟨rfl,D,.inr ∅⟩) ?lpost)
  case lfin =>
   rintro c e ⟨rfl,d,P⟩;exact⟨rfl,d,∅⟩
  case lstep =>
   rintro x c e _ hx ⟨rfl,d,P⟩;calc wpS_bind<|wpS_get ?_;by_cases H:(pendingOf e).size<=1
   .rw[LO H];exact wpS_pure ⟨rfl,d,H⟩
   rw[LN H];refine wpS_bind<|lr N d (wX _) ?_ λg p he _=>?_
   .let Z:∀b:Bool,(if b=LJ then(pendingOf e).size-2-1 else(pendingOf e).size-2)+2<=(pendingOf e).size:=λb=>by
     split
     .lia
     .lia
    exact Z _
   .rw[LN ⋯];exact wpS_pure ⟨rfl,p,∅⟩
  case lpost =>
   rintro c e ⟨rfl,d,P⟩;calc wpS_pure<|h _ d.sb.perm d.sb.failed ?_;let C:=d.ch;let t:=d.srt;let q:(pendingOf e).toList.length<=1:=by rw[A8];exact P
   generalize (pendingOf e).toList=l at C t q
   match l,C,t,q with
   | [],C,_,_ =>
    let:0=a₀.size:=C;lia
   | [r],⟨e1,_,e2⟩,t,_ =>
    let:=t r<|fc.mpr rfl;let e2:0+r.2.1=a₀.size:=e2;rw[e1,show r.2.1=a₀.size by lia]at this;exact this
   |_ :: _ :: _,_,_,q=>simp at q
end
end PyProof.Rows._T
namespace _L
open PySem PySem.Spec PySem.W PyProof.Rows
variable{prog:Fw}{w:Fn}{A:Ip}{E:Fe->Iq->Prop}{s:Iq}
theorem Co{a:SortKind}{S:Keyed->Prop}{rk:Keyed->Int}(h:∀(x y:Keyed)(Q:Bool->Iq->Prop)(f:Fe->Iq->Prop),S x->S y->Q (LL<|rk x<rk y) s->Iw (model prog w) A (keyLt' a x.1 y.1) Q f s):_T.Ask prog w A E s a S rk:=by
 intro x y g Q c b e d;rw[lt'_eq];calc wpS_bind<|wpS_get ?_;rw[e];calc wpS_bind<|wpS_lift<|Ku<|h x y _ _ c b ⟨U,?_⟩;calc wpS_pure d
theorem yh{a:HA}{vs:L0 Fe}{n:Nat}{G:Array Fe->Prop}{P:PySem.Fin->Iq->Prop}(r:s.heap.get? a=LH (seqObj "list" vs.toArray n)) (hz:⇑vs<=HL)
  (F:2<=⇑vs->∀s':Iq,(∀b o,b≠a->s.heap.get? b=LH o->s'.heap.get? b=LH o)->∀D,∃q rk,(∀Q:SortKind->Iq->Prop,Q q s'->Iw (model prog w) A (keyKind' vs.toArray) Q D s')/\_T.Ask prog w A D s' q (· ∈ pairsOf vs) rk/\∀arr:Array Keyed,arr.Perm (pairsOf vs)->_T.SrtOn rk arr 0 ⇑vs->G (arr.map (·.2)))
  (N:⇑vs<2->G vs.toArray)
  (h:∀out:Array Fe,out.size=⇑vs->G out->P (.done<|.ret .none) { s with heap:=sortedHeap s.heap a vs out }) :
  Iw (model prog w) A (Ji.«list.sort» ⟨[.ref a],[]⟩) P E s:=by
 let C:a<↥s:=HB.lt_size r;let k:vs.toArray.size<=HL:=by rw[cf];exact hz
 rw[list_sort_plain];calc E2<|listItems_at r U<|E2<|listUpdate_at r U ?_ k<|wZ _;let(v,m):∃v,(s.heap.update a<|Obj.mapSeq λ_=>#[]).get? a=LH (seqObj "list" #[] v):=⟨_,get?_update_seq r<|λ_=>#[]⟩;refine E2 (seqEpoch_at m U<|E2<|Ll (E2<|LB (Fc ?_)<|wZ _) (by show ⇑vs<=_;exact hz));generalize f:({ s with heap:=((s.heap.update a<|Obj.mapSeq λ_=>#[]).push<|seqObj "tuple" vs.toArray 0).push (seqObj "list" #[] 0) }:Iq)=s6;let d:s6.heap.get? a=LH (seqObj "list" #[] v):=by
  subst f;show(((s.heap.update a<|Obj.mapSeq λ_=>#[]).push<|seqObj "tuple" vs.toArray 0).push<|seqObj "list" #[] 0).get? a=_;rw[HB.get?_push_ne _ _ _ (by rw[size_push',HB.size_update];exact wY (xG C)),HB.get?_push_ne _ _ _ (by rw[HB.size_update];exact wY C)];exact m
 let keep:∀b o,b≠a->s.heap.get? b=LH o->s6.heap.get? b=LH o:=λb o I e=>by
  subst f;let p:b<↥s:=HB.lt_size e;show(((s.heap.update a<|Obj.mapSeq λ_=>#[]).push<|seqObj "tuple" vs.toArray 0).push<|seqObj "list" #[] 0).get? b=_;rw[HB.get?_push_ne _ _ _ (by rw[size_push',HB.size_update];exact wY (xG p)),HB.get?_push_ne _ _ _ (by rw[HB.size_update];exact wY p),HB.get?_update_ne _ _ _ _ I];exact e
 let fin:∀out:Array Fe,out.size=⇑vs->G out->P (.done<|.ret .none) { s6 with heap:=s6.heap.update a (Obj.mapSeq λ_=>out) }:=λout i H=>by
  subst f;exact h out i H
 show Iw (model prog w) A _ P E s6;dsimp only;by_cases u:⇑vs<2
 .let j:vs.toArray.size<2:=by rw[cf];exact u
  rw[LO j,LO j];calc E2<|E6 ?_;rw[StateT.run_pure];calc E2<|E6 ?_;dsimp only;let J:(arrOf<|SortSt.mk' general' (vs.toArray.zip vs.toArray) #[] 7 LI).map (·.2)=vs.toArray:=by
   show(vs.toArray.zip vs.toArray).map (·.2)=vs.toArray;apply Array.toList_inj.mp
   rw[Array.toList_map,Array.toList_zip];exact List.map_snd_zip<|wX _
  rw[J];calc E2<|seqEpoch_at d U<|E2<|listUpdate_at d U ?_ (wZ _)<|Nat.le_succ_of_le k;simp only[bne_self_eq_false,DB,if_false];exact E6<|fin vs.toArray cf<|N u
 .let j:¬ vs.toArray.size<2:=by rw[cf];exact u
  rw[LN j,LN j];let(q,rk,z,y,x):=F ∅ s6 keep E;calc E2<|z _ ?_;let g:(pairsOf vs).size=⇑vs:=pairsOf_size vs
  refine E2 (IE (_T.wpS_sortAll (a₀:=pairsOf vs) (st:=SortSt.mk' q (vs.toArray.zip vs.toArray) #[] 7 LI)
   (Q:=λ_ c=>(arrOf c).Perm (pairsOf vs)/\failedOf c=LI/\_T.SrtOn rk (arrOf c) 0 (pairsOf vs).size)
   y ⟨Array.Perm.refl _,U,U⟩ U (by rw[g];lia) λc M L K=>⟨M,L,K⟩) ?_ λ_ _ e=>e)
  rintro⟨⟨⟩,c⟩ s' ⟨rfl,t,B,i⟩;dsimp only at t B i⊢;rw[g]at i;let l:((arrOf c).map (·.2)).size=⇑vs:=(Array.size_map ..).trans<|t.size_eq.trans g;calc E2<|seqEpoch_at d U<|E2<|listUpdate_at d U ?_ (wZ _)<|xc (zI l)<|Nat.le_succ_of_le hz;rw[B];simp only[bne_self_eq_false,DB,if_false];calc E6<|fin _ l<|x _ t i
variable{X:Cx}
theorem qX{a:HA}{ks:L0 Int}{m:Nat}{Q:Fe->Iq->Prop}(hh:A.handled=LI)(hW:dA s.heap a (!dG w) ks m)(hm:m<=1000)
  (h:∀(ns:L0 Int)(vs:L0 Fe)(s':Iq)(D:HA)(c:Nat),Vals (ns.map V.int) vs->ns.Pairwise (· < ·)->(∀k,k∈ns↔k∈ks)->↥s<=D->(∀b u,s.heap.get? b=LH u->s'.heap.get? b=LH u)->s'.heap.get? D=LH (seqObj "list" vs.toArray c)->s'.gens=s.gens->s'.os=s.os->⇑ns=m->Q (.ref D) s') :
  Iw (model prog w) A (call (.builtin "sorted") [.ref a]) Q E s:=by
 let(o,es,ep,t,ho,a7,hd,R,K,hf,ha,J,hn):=hW;calc Calls.call_function_entry kind_sorted plain_sorted entry_sorted (args_sorted1 _) ?_;unfold Ji.«sorted»;calc E2 (m:=checkCount "sorted" 1 1 _)<|E6 ?_;refine E2 (qO (by simp[hh]) ho a7 hd K hf ha J λd f M kp hg Y W=>?_);let I:⇑d=m:=by rw[M.length_eq,bc,A8,hn]
 let l:∀v∈d,∃u,v=.int (fb v) u:=λv N=>by
  let(e,he,rfl):=dy.mp<|M.mem_iff.mp N;exact(R.ent e he).2
 let P:=pH l;let pk:(d.map fb).Perm (es.toList.map λe=>fb e.2):=by
  let:=M.map fb;rw[ov]at this;exact this
 refine E2 (LB ?_ (by rw[Jq];lia));let r:(f.heap.push<|seqObj "list" d.toArray 0).get? ↥f=LH (seqObj "list" d.toArray 0):=HB.get?_push_size _ U;let keep:∀b u,s.heap.get? b=LH u->(f.heap.push<|seqObj "list" d.toArray 0).get? b=LH u:=λb u q=>HB.get?_push_of_some _<|kp b u q
 show Iw _ _ _ _ _ { f with heap:=f.heap.push (seqObj "list" d.toArray 0) };refine E2<|Fc<|K8 slot_list_sort ⟨_,r,U⟩ entry_list_sort ?body<|args_list_sort _
 case body =>
  refine yh (s:={ f with heap:=f.heap.push (seqObj "list" d.toArray 0) }) (G:=λout=>out.toList.Perm d/\(out.toList.map fb).Pairwise (· <= ·)) r (by rw[Jq];lia) (λn s' _ E'=>?_) (λn=>?_) λout HX Z=>⟨_,U,E6 ⟨_,U,?_⟩⟩
  .refine⟨oneType',λx=>fb x.1,λQ hQ=>?_,Co λx y Q a9 hx hy O=>?_,λg hp hs=>?_⟩
   .match d,n,P with
    | [],n,_=>exact LP n (by simp)
    | [_],n,_=>exact LP n (by simp)
    |v1 :: v2 :: rest,_,P=>rw[keyKind_ints P];exact E6 hQ
   .let T:x.1∈d:=(mem_zip_self (by rw[←pairsOf_toList];exact Cp.mpr hx)).2;let S:y.1∈d:=(mem_zip_self (by rw[←pairsOf_toList];exact Cp.mpr hy)).2;let(u1,C):=l _ T;let(u2,F):=l _ S;generalize fb x.1=kx at C O;generalize fb y.1=ky at F O;rw[C,F];exact kat_lt_int O
   .let J:g.toList.Perm (d.zip d):=by rw[←pairsOf_toList];exact Array.perm_iff_toList_perm.mp hp
    let fF:∀p∈g.toList,p.1=p.2/\p.1∈d:=λp X=>mem_zip_self<|J.mem_iff.mp X
    let F:(g.map (·.2)).toList=g.toList.map (·.2):=Array.toList_map;let a8:g.size=⇑d:=by rw[hp.size_eq,pairsOf_size]
    refine⟨?_,?_⟩
    .rw[F];let:=J.map (·.2)
     rwa [List.map_snd_zip (wX _)]at this
    .rw[F,ov,nS];intro i j hi hj a5;let a6:i<g.size:= ~~~hi
     have a4:j<g.size:= ~~~hj
     have z:=hs i j (wZ _) (zb a5) ∅;rw[_T.Kx_at a6,_T.Kx_at a4]at z;let mi:=fF g[i] (by simp);let mj:=fF g[j] (by simp);rw[mi.1,mj.1]at z;simpa using z
  .refine⟨List.Perm.refl _,?_⟩
   match d,n with
   | [],_=>exact List.Pairwise.nil
   | [_],_=>exact tj _ _
   |_ :: _ :: _,n=>exact LP n (by simp)
  let(g1,a3):=Z;let a1:IntsAre out.toList (out.toList.map fb):=pH λv N=>l v<|g1.mem_iff.mp N
  let L:(out.toList.map fb).Perm (d.map fb):=g1.map fb;generalize out.toList.map fb=ns' at a1 L a3;let nd:ns'.Nodup:=L.nodup_iff.mpr<|pk.nodup_iff.mpr R.nd;let H:↥f<(f.heap.push<|seqObj "list" d.toArray 0).objs.size:=HB.lt_size r;let(C,a0):∃C,((f.heap.push<|seqObj "list" d.toArray 0).update ↥f<|Obj.mapSeq λ_=>#[]).get? ↥f=LH (seqObj "list" #[] C):=⟨_,get?_update_seq r<|λ_=>#[]⟩;let h3:∀b,b<(f.heap.push<|seqObj "list" d.toArray 0).objs.size->((((f.heap.push<|seqObj "list" d.toArray 0).update ↥f<|Obj.mapSeq λ_=>#[]).push<|seqObj "tuple" d.toArray 0).push<|seqObj "list" #[] 0).get? b=((f.heap.push<|seqObj "list" d.toArray 0).update ↥f<|Obj.mapSeq λ_=>#[]).get? b:=λb K=>by
   rw[HB.get?_push_ne _ _ _ (by rw[size_push',HB.size_update];exact wY (xG K)),HB.get?_push_ne _ _ _ (by rw[HB.size_update];exact wY K)]
  let e6:((((f.heap.push<|seqObj "list" d.toArray 0).update ↥f<|Obj.mapSeq λ_=>#[]).push<|seqObj "tuple" d.toArray 0).push<|seqObj "list" #[] 0).get? ↥f=LH (seqObj "list" #[] C):=by rw[h3 _ H];exact a0
  let sz:↥s<=↥f:=zb W;refine h ns' out.toList { f with heap:=sortedHeap (f.heap.push<|seqObj "list" d.toArray 0) ↥f d out } ↥f _ (oW a1) (gK a3 nd) (λk=>(L.mem_iff).trans<|(pk.mem_iff).trans (R.mem k).symm) sz (λb u q=>?_) (get?_update_seq e6<|λ_=>out) hg Y ?_
  .let B:b<↥f:=HB.lt_size<|kp b u q;show(HB.update _ _ _).get? b=LH u;rw[HB.get?_update_ne _ _ _ _ (wY B),h3 _<|Nat.lt_trans B H,HB.get?_update_ne _ _ _ _ (wY B)];exact keep b u q
  .rw[L.length_eq,bc,I]
theorem fN{w:Fn}(n:X.w=w)(B:X.calm=LJ):cG X (.builtin "sorted") (λus H Q=>∃(a:HA)(zs L:L0 Int),us=[.ref a]/\H a=LH (tV w a zs)/\L.length<=1000/\(∀k∈zs,k∈L) /\
  ∀(D:HA)(ns:L0 Int),H D=LI->ns.Pairwise (· < ·)->(∀k,k∈ns↔k∈zs)->Q (.ref D) (upd H D<|.lst<|ns.map V.int)):=by
 subst n;intro j s O H us P Q I r h;let(a,zs,L,rfl,e,S,p,q):=h;let(u,rfl,l):=r.one;obtain rfl:u=Fe.ref a:=l;let((m,x),_,_):=I.hok a _ e;let y:m<=1000:=by
  let(o,T,W,t,_,_,_,g,_,_,_,_,v):=id x;let:=bu (L:=L) g.nd λk A=>p k<|(g.mem k).mpr A
  rw[bc,A8,v]at this;lia
 refine qX (I.ok.hd B) x y λns us R D c N M K i J G F E Y=>?_
 let C:H D=none:=I.hok.fresh i;refine⟨.ref D,upd H D<|.lst<|ns.map V.int,I.grow J F E (λb f=>by rw[av (wY<|w6 f i)]) (λb u f d=>?_),U,q D ns C M K⟩;by_cases z:b=D
 .subst z;rw[ae]at d;cases d;exact⟨by rw[bc,Jq];lia,us,c,N,G⟩
 .rw[av z,I.hok.fresh f]at d;cases d
def Ite(K:W.Frag)(a:HA):It :=
 ⟨λi H=>∃b x,SqL K H a b/\b[i]?=LH x,
 λi H v c=>∃T,H T=LI/\v=.ref T/\∀b x,SqL K H a b->b[i]?=LH x->c=upd H T (.tup [.int i,x]),
 λi H=>∃b,SqL K H a b/\⇑b<=i⟩
def yi(e it a:HA)(i:Nat)(h:HB):Prop:=(∃b,IsEnum h e it i b)/\h.IsListIter it a i
theorem we{P:Fw}{w:Fn}{K:W.Frag}{p:L0 Iz} {x1} {tp:Pos}{e it a:HA}(m:e≠it) :
  Turn P w K (.Tuple p x1 tp) (Ite K a) [e,it] e (yi e it a) where
 mem:=by simp
 obj:=λi h d c b=>by
  let((f,l),(o2,j,_,d2)):=d;simp only[bL,jt,or_false]at b;rcases b with rfl|rfl
  .exact⟨_,l,λv q=>nomatch q⟩
  .exact⟨_,j,λv q=>by rw[d2]at q;cases q⟩
 keep:=λi h h' d k=>by
  let((f,l),j):=d;exact⟨⟨f,k e (by simp) _ l⟩,j.at λo q=>k it (by simp) o q⟩
 item:=by
  intro X D B F b i n s R H E I t d C;subst D B F;let(S,x,r,O):=C;let((f,l),j):=d;let(V,z,A,_):=I.list r;let(u,eu,Y):=z.get O;refine wpAny_pyNext_enum_item l j A.isList (x:=u) (~~~eu) m λh1 a1 a2 a3 a4 a5=>?_
  calc⟨_,U,wpAny_letOwnedTupleGo_enum (s:={ s with heap:=h1,toks:=s.toks+1 }) a1 λG b1 b2=>?_⟩;let nT:s.heap.get? ↥s=none:=by
   cases q:s.heap.get? ↥s with
   |none=>rfl
   |some o=>exact LP (HB.lt_size q) (za _)
  let N:H ↥s=none:=I.hok.fresh<|wX _;let M:↥s≠e:=xa<|HB.lt_size l;let kk:∀c o,c ∉ [e,it]->s.heap.get? c=LH o->G.get? c=LH o:=λc o b q=>by
   simp only[bL,jt,or_false,not_or]at b;exact b2.extBut _ _ b.1<|a5 c o b.1 b.2 q
  let J:=I.turnedPair (h':=G) (ch:=[e,it]) (T:=↥s) (x:=.int i) (y:=x) (u:=.int i s.toks) (v:=u) (λc b=>t c (by simp at b⊢;rcases b with q|q <;> simp[q])) kk nT N (b2.extBut _ _ M a3) ⟨_,U⟩ Y;refine⟨.ref ↥s,upd H ↥s<|.tup [.int i,x],J.tok _,U,⟨_,N,U,λa0 x' Z Q=>?_⟩,⟨⟨_,b1⟩,a2.extBut b2.extBut m.symm⟩,λc b=>?_⟩
  .rw[I.list_inj Z r,O]at Q;cases Q;rfl
  .let h0:=(t c b).1;let:c≠↥s:=by
    let(o2,L,_):=j;simp only[bL,jt,or_false]at b;rcases b with rfl|rfl
    .exact M.symm
    .exact wY<|HB.lt_size L
   rw[av this];exact h0
 done:=by
  intro X D B F b i n s R H E I t d C;subst D B F;let(S,r,hl):=C;let((f,l),j):=d;let(V,z,A,_):=I.list r;let l1:=⇑z;refine wpAny_pyNext_enum_end (I.ok.hd b) l j A.isList (by simp;lia) λG k=>⟨U,I.turnedL (ch:=[e,it]) (λc b=>t c (by simp at b⊢;rcases b with q|q <;> simp[q])) λc o b q=>?_⟩
  simp only[bL,jt,or_false,not_or]at b;exact k c o b.2 q
 self:=λ_ _ _ _ _ d h=>let ⟨⟨_,g⟩,_⟩:=d;LC g h
inductive yj(K:W.Frag)(R:It->Hp->Prop)(vs:L0 V)(H1:Hp):Prop
 |mk (a:_)(_:vs=[.ref a])(_:(∃xs,SqL K H1 a xs))(_:R (Ite K a) H1)
def DO(K:W.Frag)(c:TA):TI:=λa H R=>c a H λb d=>yj K R b d
theorem pL{g:Iz}{k:TA}{p pos:Pos}{f:L0 Iz} {x1} {tp:Pos}(A:Gl X "enumerate") (hm:X.mg "enumerate" = LI) (B:PA X [g] k)
  (z:IC [g] X.env=[(LK,eval g X.env)]:=by rfl) :
  PI X (.Tuple f x1 tp) (.Call (.Name "enumerate" p) [g] [] pos) (DO X.K k):=by
 intro e s m H R I h;refine Call_ (dY I A hm PyProof.Rows.boot_enumerate<|PyProof.Rows.callWith_type1 (thn (B pos e s m H _ I h) λr b ⟨G,D,i,v,x⟩=>?_) (by rw[z];rfl) U);let(a,rfl,(F,w),q):=x;let(u,rfl,t):=v.one;cases (show u=Fe.ref a from t);let(r,_,y,_):=i.list w;refine call_enumerate_list y.isList λC j o E n=>?_
 calc LC (s:={ b with heap:=C }) j ?_;calc⟨↥b+1,[↥b+1,↥b],yi (↥b+1) ↥b a,Ite X.K a,D,U,i.kept (t':=b.toks) n,we<|xa<|yg _,⟨⟨_,j⟩,o⟩,λc l=>?_,q⟩;let d:↥b<=c:=by
  simp only[bL,jt,or_false]at l;rcases l with rfl|rfl
  .exact x4 _
  .exact wX _
 calc i.fpOk d<|i.hok.fresh d
variable{gt:TG}{k:Nat}{fr:L0 Nat}{tt:TT}{te:TE}
theorem t9{K:W.Frag}{a:HA}{xs:L0 V}{j:St}{f:Hp}{Q:VK}(c:HA->Nat->L0 V->Hp->Prop)(u:∀D,f D=LI->c D 0 [] (upd f D<|.lst []))
  (s:∀D i ys H,f D=LI->i<=⇑xs->c D i ys H->SqL K H a xs)
  (r:∀D i x ys H T,f D=LI->xs[i]?=LH x->c D i ys H->H T=LI->∀ts:St,⇑ts=k->gt (.ref T) (cC j fr ts) (upd H T<|.tup [.int i,x]) λd v=>(∃g:St,⇑g=k/\d=cC j fr g)/\tt d v λb o=>if b=LJ then te d o (dg c D i ⇑xs)else dR c D i ⇑xs o)
  (hd:∀D ys H,f D=LI->c D ⇑xs ys H->Q (.ref D) H):iw (Ite K a) gt k fr tt te j Q f:=by
 intro D h;calc⟨λi m H=>m=⇑xs-i/\i<=⇑xs/\∃ys,c D i ys H,⟨_,U,wZ _,[],u D h⟩,?_⟩;rintro i m H ⟨rfl,hi,ys,p⟩;let q:=s D i ys H h hi p;by_cases n:i<⇑xs
 .let l:xs[i]?=LH xs[i]:=Ij n;calc .inr ⟨⟨xs,xs[i],q,l⟩,λx w y=>?_⟩;let(T,t,rfl,e):=y;rw[e xs _ q l];exact r D i _ ys _ T h l p t
 .let e:i=⇑xs:=∅
  subst e;calc .inl ⟨⟨xs,q,wX _⟩,hd D ys H h p⟩
theorem wg{K:W.Frag}{a b:HA}{xs ys:L0 V}{j:St}{f:Hp}{Q:VK}(c:HA->Nat->L0 V->Hp->Prop)(v:∀D,f D=LI->c D 0 [] (upd f D<|.lst []))
  (t:∀D i zs H,f D=LI->i<=min ⇑xs ⇑ys->c D i zs H->SqL K H a xs/\SqL K H b ys)
  (s:∀D i x y zs H T,f D=LI->xs[i]?=LH x->ys[i]?=LH y->c D i zs H->H T=LI->∀ts:St,⇑ts=k->gt (.ref T) (cC j fr ts) (upd H T<|.tup [x,y]) λd w=>(∃g:St,⇑g=k/\d=cC j fr g)/\tt d w λb r=>if b=LJ then te d r (dg c D i<|min ⇑xs ⇑ys)else dR c D i (min ⇑xs ⇑ys) r)
  (hd:∀D zs H,f D=LI->c D (min ⇑xs ⇑ys) zs H->Q (.ref D) H):iw (Itz K a b) gt k fr tt te j Q f:=by
 intro D h;calc⟨λi m H=>m=min ⇑xs ⇑ys-i/\i<=min ⇑xs ⇑ys/\∃zs,c D i zs H,⟨_,U,wZ _,[],v D h⟩,?_⟩;rintro i m H ⟨rfl,hi,zs,p⟩;let(n,l):=t D i zs H h hi p;by_cases z:i<min ⇑xs ⇑ys
 .let q:xs[i]?=LH xs[i]:=Ij ∅;let o:ys[i]?=LH ys[i]:=Ij ∅;calc .inr ⟨⟨xs,ys,xs[i],ys[i],n,l,q,o⟩,λx A y=>?_⟩;let(T,u,rfl,e):=y;rw[e xs ys _ _ n l q o];exact s D i _ _ zs _ T h q o p u
 .let e:i=min ⇑xs ⇑ys:=∅
  subst e;calc .inl ⟨⟨xs,ys,n,l,∅⟩,hd D zs H h p⟩
theorem cU{X:Cx}{N:L0 Str}{k:Nat}{fr:L0 Nat}{scope:Ir}{cl:L0 (Str×HA)}(clos:JY scope X.env=pure cl)(kind:scope.kind=.function)(a:∀y∈scope.names,y.2≠.cell)
  (names:∀y∈scope.names,y.2=.local->scope.names.lookup y.1=LH .local)(b:N.length=k+⇑fr)
  (sub:((List.range ⇑fr).all λi=>match N[k+i]?,fr[i]? with|some y,LH j=>(X.N[j]? == LH y) && ((X.env.kindOf y == LH .cell) && ((relabel scope X.env).names.lookup y == LH .cell))|_,_=>LK)=LJ)
  (cells:∀p∈cl,X.env.cells.lookup p.1=LH p.2)(d:((relabel scope X.env).names.all λp=>(p.2 != .cell && p.2 != .free) || (cl.lookup p.1).isSome)=LJ):mf X N k fr scope cl:=by
 refine⟨clos,kind,a,names,b,λi y e=>?_,λy c e=>cells _<|mem_of_lookup e,λy h=>?_⟩
 .let hi:i<⇑fr:=by have:=(Ik.mp e).1;lia
  let z:=jr.mp sub i<|iu.mpr hi;rw[e,Ij hi]at z;simp only[Dx,beq_iff_eq]at z;exact⟨_,Ij hi,z.1,.inl z.2.1,.inl z.2.2⟩
 .let look:∀k,(relabel scope X.env).names.lookup y=LH k->(k=.cell\/k=.free)->∃c,cl.lookup y=LH c:=λk e f=>by
   let z:=jr.mp d _<|mem_of_lookup e;rcases f with rfl|rfl
   .exact EV.mp<|~~~z
   .exact EV.mp<|~~~z
  rcases h with h|h
  .exact look _ h<|.inl U
  .exact look _ h<|.inr U
theorem wj{K:W.Frag}(g:X.K=K){a:Iz}{c:TE}(f:PE X a c)(e:∀b,IA a X.env b=(do let v ←b;II a.pos;holding [v] (truthy v)):=by intro _;rfl) :
  PT X a (λd H Q=>c d H λx H'=>∃k,BO K x H' k/\Q k H'):=g ▸ c9 f e
variable{tg:Iz}{pos:Pos}{scope:Ir}{N:L0 Str}
section
variable{elt iter:Iz}{ifs:L0 Iz}{cl:L0 (Str×HA)}
theorem qY{F:TI}{i:Nat}{y:Str}{d E:Pos}(hN:X.N.Nodup)(G:X.N[i]?=LH y)(V:Loc X.env.scope y)(hi:PI X tg iter F)(O:mf X N k fr scope cl)(hc:X.calm=LJ)(W:∀f C s H,PG (bw X N scope cl f C s H) tg gt)
  (K:∀f C s H,PIf (bw X N scope cl f C s H) ifs tt)(Z:∀f C s H,PE (bw X N scope cl f C s H) elt te)(L:∀v,Jk iter X.env v=pure v:=by intro _;rfl)
  (p:IM (.ListComp elt [⟨tg,iter,ifs,0⟩] scope pos) (LH<|.Name y d) E.line X.env=pure true:=by rfl)(Y:X.fn y=LJ\/X.env.scope.names.lookup y=LH .local:=by first|exact .inl U|exact .inr U|assumption) :
  PS X (.Assign [.Name y d] (.ListComp elt [⟨tg,iter,ifs,0⟩] scope pos) E) (zt (xJ F gt k fr tt te)<|ox i):=by
 intro b s B H l I h;rw[Kj _ _ _ _ p];calc E2<|IT<|E2 ?_;show Iw _ X.A (do let _ ←comprehension (.ListComp elt [⟨tg,iter,ifs,0⟩] scope pos) scope X.env _ (Kb []) LK (eval iter X.env) (LH<|assign (.Name y d) X.env)) _ _ s;calc E2<|IE (Kh (use:=LH<|assign (.Name y d) X.env) (Q:=λ_ c=>SP X b l .next c) U L O.clos O.kind O.names<|thn (hi b s B H _ I h) λv s1 h1=>thn h1 λa0 s2 h2=>?_) (λ_ c M=>E6<|E6 M) λ_ _ z=>z;let(it,f,tn,J,H2,e,g,T,n,f2,hW):=h2;subst e;refine mh (Q:=λv H1=>ox i v B H1 l.nx) (RR:=λx C=>Ki (model X.prog X.w) X.A X.xe (LH<|assign (.Name y d) X.env) (λ_ c=>SP X b l .next c) x C) O hc g T n f2 K Z W hW λD C c H' j R ⟨m,S⟩ I' q=>?_
 show Iw _ X.A (assign (.Name y d) X.env<|.ref D) _ _ c;calc IS<|km I' hN G V (v:=.ref D) U (λs3 I3 ⟨a,r,ha⟩=>?_) Y;let u:C≠a:=by
  rcases ha with z|z
  .rw[z];exact xa<|w6 g.lt j
  .let(v,o,P,_):=g.cell y a z;exact xa<|w6 (HB.lt_size P) j
 calc⟨m,S.sameBut r u,λh' t=>⟨_,H',g.left I3 j R t,q⟩⟩
end
set_option maxRecDepth 100000
theorem Cq:PIp X .Mult (λx y H Q=>∃i j,x=.int i/\y=.int j/\IntMulOk i j/\Q (.int<|i*j) H):=by
 intro a s g H x y v u Q I c b h;let(i,j,f,e,d,q):=h;subst f;subst e;let(t,rfl):=c;let(k,rfl):=b;exact PyProof.Rows.imul_int ⟨.int _,H,I.tok _,⟨_,U⟩,q⟩ d
set_option maxRecDepth 100000
theorem qZ{K:W.Frag}{a:HA}{xs:L0 V}{g:TG}{l:TS}{D:Ends}{b:St}{H:Hp}(c:Nat->St->Hp->Prop)(u:c 0 b H)(s:∀i b H,c i b H->SqL K H a xs)
  (r:∀i x b H T,xs[i]?=LH x->c i b H->H T=LI->g (.ref T) b (upd H T<|.tup [.int i,x]) λd k=>l { D with nx:=c<|i+1,ct:=c<|i+1,bk:=D.nx } d k)
  (hd:∀b H,c ⇑xs b H->D.nx b H) :
  ∃W:Nat->Nat->St->Hp->Prop,(∃m,W 0 m b H)/\∀i m b H,W i m b H ->
   ((Ite K a).stop i H/\D.nx b H)\/((Ite K a).go i H/\∃N:St->Hp->Prop,(∀f H',N f H'->∃n,n<m/\W (i+1) n f H')/\∀x H',(Ite K a).yld i H x H'->g x b H' λd k=>l { D with nx:=N,ct:=N,bk:=D.nx } d k):=by
 refine⟨λi m b H=>m=⇑xs-i/\i<=⇑xs/\c i b H,⟨⇑xs,by simp,wZ _,u⟩,?_⟩;rintro i m b H ⟨rfl,hi,p⟩;let h:=s i b H p;by_cases lt:i<⇑xs
 .let j:xs[i]?=LH xs[i]:=Ij lt;refine .inr ⟨⟨xs,_,h,j⟩,c<|i+1,λf H' q=>⟨_,?_,U,lt,q⟩,λv H' o=>?_⟩
  .lia
  .let(T,t,rfl,e):=o;rw[e xs _ h j];exact r i _ b H T j p t
 .let e:i=⇑xs:=∅
  subst e;calc .inl ⟨⟨xs,h,wX _⟩,hd b H p⟩
theorem uZ:∀{xs:L0 V}{us:L0 Fe},⇑xs=⇑us->(∀(j:Nat)(x:V)(u:Fe),xs[j]?=LH x->us[j]?=LH u->RelV x u)->Vals xs us
 | [],[],_,_=>.nil
 |x :: xs,u :: us,hl,h=>.cons (h 0 x u U U)<|uZ (~~~hl) λj a b e f=>h (j+1) a b (~~~e)<|~~~f
 | [],_ :: _,hl,_=>by simp at hl
 |_ :: _,[],hl,_=>by simp at hl
def yk{X:Cx}{K:W.Frag}(h:X.K=K):SlR X (BV K):=h ▸ uO
structure Fh(X:Cx)(N:L0 Str)(k:Nat)(fr:L0 Nat)(scope:Ir)(cl:L0 (Str×HA)):Prop where
 clos:JY scope X.env=pure cl
 kind:scope.kind=.function
 names:∀y∈scope.names,y.2=.local->scope.names.lookup y.1=LH .local
 len:N.length=k+⇑fr
 sub:∀(i:Nat)(y:Str),N[k+i]?=LH y->∃j,fr[i]?=LH j/\X.N[j]?=LH y/\(X.env.kindOf y=LH .cell\/X.env.kindOf y=LH .free)/\((relabel scope X.env).names.lookup y=LH .cell\/(relabel scope X.env).names.lookup y=LH .free)/\∃c,cl.lookup y=LH c/\∀C:HA,(JG (C+1) scope.names cl).lookup y=LH c
 cells:∀y c,cl.lookup y=LH c->X.env.cells.lookup y=LH c
 has:∀(C:HA)(y:Str),((relabel scope X.env).names.lookup y=LH .cell\/(relabel scope X.env).names.lookup y=LH .free)->∃c,(JG (C+1) scope.names cl).lookup y=LH c
section
variable{elt iter:Iz}{ifs:L0 Iz}{cl:L0 (Str×HA)}
end
inductive u6(x:V)(vs:L0 V)(H:Hp)(Q:VK):Prop
 |mk (l:HA)(ks:L0 Int)(n:Int)(j:Nat)(_:x=.ref l)(_:vs=[.int n])(_:H l=LH (.lst<|ks.map V.int))(_:ks[j]?=LH n)(_:∀m,m<j->ks[m]?≠LH n)(_:Q .non (upd H l<|.lst<|(ks.eraseIdx j).map V.int))
def eI(n:Int):Fe->Bool
 | .int a _=>a == n
 |_=>LK
theorem wm{X:Cx}:MtM X "list.remove" u6:=by
 intro G s S H x T v W Q I J K h;let(l,f,n,j,rfl,rfl,C,B,p,q):=h;cases J;let(u,rfl,L):=K.one;let(t,rfl):=L;let(z,b,m,r,N,e):=I.lstM C;let M:=⇑r;rw[bc]at M;let R:j<⇑f:=(Ik.mp B).1;let c:∀(i:Nat)(hi:i<⇑b)(a:Int),f[i]?=LH a->∃d,b[i]=.int a d:=λi hi a O=>by
  let(u,E,(d,P)):=r.get (show(f.map V.int)[i]?=LH (.int a) by rw[gM,O];rfl);rw[Ij hi]at E;exact⟨d,by rw[←P];exact Option.some.inj E⟩
 let k:b.toArray.size<=HL:=by
  let:=N;simp only[cf];rw[bc]at this;lia
 refine JU F.slot_list_remove ⟨_,e,U⟩ F.entry_list_remove (F.args_list_remove_2 _ _) (PySem.MeetsSeq.list_remove l b.toArray m (.int n t) (eI n) (λy o=>?_) j (by simp;lia) ?_ (λi hi w=>?_) k) ⟨e,?_⟩
 .let o:y∈b:= ~~~o
  let(i,hi,rfl):=List.getElem_of_mem o;let(d,g):=c i hi _<|Ij ∅;rw[g];exact PySem.MeetsSeq.EqGives.int _ _ _ _
 .let(d,g):=c j ∅ n B;rw[show b.toArray[j]'(by simp;lia)=b[j]'∅ by simp,g];show(n == n)=LJ;simp
 .let A:i<⇑b:= ~~~hi
  let D:=Ij (l:=f) (i:=i) ∅;let(d,g):=c i A _ D;rw[show b.toArray[i]=b[i] by simp,g];show(f[i] == n)=LK;let:=p i w;rw[D]at this;simpa using λz=>this (by rw[z])
 .refine⟨.non,_,I.lset (its':=b.eraseIdx j) C e ?_ ?_ ?_,U,q⟩
  .apply Array.ext'
   simp
  .rw[List.eraseIdx_eq_take_drop_succ,List.eraseIdx_eq_take_drop_succ,gd,uA,uB];exact(r.take j).append (r.drop<|j+1)
  .rw[bc,List.length_eraseIdx];rw[cf]at k;calc xc ?_ k;split <;> lia
def Itv(K:W.Frag)(a:HA)(n:Nat):It :=
 ⟨λi H=>i<n/\∃b,SqL K H a b/\⇑b=n,λi H x c=>c=H/\∀b,SqL K H a b->b[n-1-i]?=LH x,λi _=>n<=i⟩
theorem ym{P:Fw}{w:Fn}{K:W.Frag}{tg:Iz}(a it:HA)(n:Nat):Turn P w K tg (Itv K a n) [it] it (λi h=>i<=n/\h.IsRevIter it a ((n:Int)-1-(i:Int))) where
 mem:=by simp
 obj:=λi h f b l=>by
  let e:b=it:= ~~~l
  subst e;let(_,o,e,c,d):=f;exact⟨o,e,λv z=>by rw[d]at z;cases z⟩
 keep:=λi h r f k=>⟨f.1,f.2.at λo e=>k it (by simp) o e⟩
 item:=by
  intro X A t B R i j s L H E I q f y;subst A t B;let(hi,M,Q,hn):=y;let(a0,N,p,hz):=I.list Q;let hl:=N.length;let O:M[n-1-i]?=LH (M[n-1-i]'∅):=Ij ∅;let(u,Y,T):=N.get O;let(J,G,Z,F,D,C):=q it (by simp);let g:=f.2;rw[show(n:Int)-1-(i:Int)=((n-1-i:Nat):Int) by lia]at g;refine wpAny_pyNext_rev_item g p.isList (x:=u) (~~~Y) λr m S=>?_
  rw[show((n-1-i:Nat):Int)-1=(n:Int)-1-((i+1:Nat):Int) by lia]at m;let I1:Inv X j L H { s with heap:=r }:=I.turned (t':=s.toks) (λb o l e=>(S.2 b l).trans e) J G F D C;let(o,e,c,d):=id m;exact⟨u,U,lS (s:={ s with heap:=r }) e c d ⋯ ⟨_,H,I1,T,⟨U,λys V=>by rw[I.list_inj V Q];exact O⟩,⟨hi,m⟩,λb l=>(q b l).1⟩⟩
 done:=by
  intro X A t B R i j s L H E I q f y;subst A t B;let(J,G,Z,F,D,C):=q it (by simp);let hi:i=n:=Nat.le_antisymm f.1 y;let g:=f.2;rw[show(n:Int)-1-(i:Int) = -1 by lia]at g;exact wpAny_pyNext_rev_end (I.ok.hd R) g λr eb=>⟨U,I.turned (t':=s.toks) (λb o l e=>eb b o l e) J G F D C⟩
 self:=λ_ _ _ _ _ f h=>LD f.2 h
inductive Bf(K:W.Frag)(R:It->Hp->Prop)(vs:L0 V)(H1:Hp):Prop
 |mk (a:HA)(xs:L0 V)(_:vs=[.ref a])(_:SqL K H1 a xs)(_:R (Itv K a ⇑xs) H1)
def Fi(K:W.Frag)(c:TA):TI:=λa H R=>c a H λb d=>Bf K R b d
theorem Cr{e:Iz}{l:TA}{p pos:Pos}(A:Gl X "reversed") (hm:X.mg "reversed" = LI) (C:PA X [e] l)(x:IC [e] X.env=[(LK,eval e X.env)]:=by rfl):PI X tg (.Call (.Name "reversed" p) [e] [] pos) (Fi X.K l):=by
 intro f s k H R I h;calc Call_<|dY I A hm PyProof.Rows.boot_reversed<|PyProof.Rows.callWith_type1 (thn (C pos f s k H _ I h) λF c ⟨E,m,j,t,v⟩=>?_) x U;let(a,i,rfl,y,q):=v;let(u,rfl,r):=vals1 t;cases (show u=Fe.ref a from r);let(d,n,w,G):=j.list y;let z:=⇑n;calc call_reversed_list w.isList ?_;let g:(c.heap.push<|revObj a<|(d.toArray.size:Int)-1).IsRevIter ↥c a ((⇑i:Int)-1):=by
  calc⟨_,HB.get?_push_size _ U,U,?_⟩;show Jb.fields #[.ref a,I0 ((d.toArray.size:Int)-1)]=_;rw[cf,←z]
 calc LD (s:={ c with heap:=c.heap.push (revObj a<|(d.toArray.size:Int)-1) }) g ?_;let D:Inv X f k m { c with heap:=c.heap.push (revObj a<|(d.toArray.size:Int)-1) }:=j.kept (t':=c.toks) λb o e=>HB.get?_push_of_some _ e
 refine⟨↥c,[↥c],_,_,m,U,D,ym a _ ⇑i,⟨wZ _,?_⟩,λb B=>?_,q⟩
 .rw[show(⇑i:Int)-1-((0:Nat):Int)=(⇑i:Int)-1 by lia];exact g
 .let e:b=↥c:= ~~~B
  subst e;calc j.fpOk (wX _)<|j.hok.fresh<|wX _
theorem zY{K:W.Frag}{a:HA}{xs:L0 V}{g:TG}{k:TS}{D:Ends}{b:St}{H:Hp}(c:Nat->St->Hp->Prop)(t:c 0 b H)(r:∀i b H,i<=⇑xs->c i b H->SqL K H a xs)
  (o:∀i x b H,i<⇑xs->xs[⇑xs-1-i]?=LH x->c i b H->g x b H λd j=>k { D with nx:=c<|i+1,ct:=c<|i+1,bk:=D.nx } d j)(s:∀b H,c ⇑xs b H->D.nx b H) :
  ∃W:Nat->Nat->St->Hp->Prop,(∃m,W 0 m b H)/\∀i m b H,W i m b H ->
   ((Itv K a ⇑xs).stop i H/\D.nx b H)\/((Itv K a ⇑xs).go i H/\∃N:St->Hp->Prop,(∀f H',N f H'->∃l,l<m/\W (i+1) l f H')/\∀x H',(Itv K a ⇑xs).yld i H x H'->g x b H' λd j=>k { D with nx:=N,ct:=N,bk:=D.nx } d j):=by
 refine⟨λi m b H=>m=⇑xs-i/\i<=⇑xs/\c i b H,⟨⇑xs,by simp,wZ _,t⟩,?_⟩;rintro i m b H ⟨rfl,hi,p⟩;let q:=r i b H hi p;by_cases h:i<⇑xs
 .refine .inr ⟨⟨h,xs,q,U⟩,c<|i+1,λf H' n=>⟨⇑xs-(i+1),∅,U,h,n⟩,λx H' y=>?_⟩;let(e,y):=y;subst e;exact o i x b _ h (y xs q) p
 .let e:i=⇑xs:=∅
  subst e;calc .inl ⟨wX _,s b H p⟩
def upn(n:Nat):L0 V:=(List.range n).map λj:Nat=>V.int (j:Int)
inductive Bg(Q:VK)(vs:L0 V)(H1:Hp):Prop
 |mk (n:Nat)(_:vs=[.int (n:Int)])(_:n<=1000)(_:∀p,H1 p=LI->Q (.ref p) (upd H1 p<|.lst<|upn n))
def Fj(c:TA):TE:=λa H Q=>c a H λb d=>Bg Q b d
theorem ua{X:Cx}{k:Iz}{F:TA}{O G E v:Pos}(A:X.calm=LJ)(Y:Gl X "list") (hm:X.mg "list" = LI) (y:Gl X "range") (w:X.mg "range" = LI) (Z:PA X [k] F)
  (T:IC [k] X.env=[(LK,eval k X.env)]:=by rfl) :
  PE X (.Call (.Name "list" O) [.Call (.Name "range" G) [k] [] v] [] E) (Fj F):=by
 intro g s D H Q I h;calc Fd<|dY I Y hm PyProof.Rows.boot_list ?_;calc PyProof.Rows.callWith_type1 ?_ U U;show Iw _ _ (spliced ((LK,eval (.Call (.Name "range" G) [k] [] v) X.env) :: IB E (IC [] X.env))) _ _ s;calc Calls.spliced_cons ?_;calc Fd<|dY I y w PyProof.Rows.boot_range ?_;refine PyProof.Rows.callWith_type1 (thn (Z v g s D H _ I h) λus d ⟨vs,H1,r,M,N⟩=>?_) (by rw[T];rfl) U;let(n,rfl,V,q):=N;let(u,rfl,L):=vals1 M;let(t,rfl):=(show ∃t,u=Fe.int (n:Int) t from L);calc call_range_1 ?_;calc Calls.spliced_nil ?_;let C:Ji.Range.rangeSize 0 (n:Int) 1=(n:Int):=by rw[Jj];split <;> lia
 generalize z:({ cls:=.type "range",data:=.fields #[.int 0 d.toks,.int (n:Int) t,.int 1 (d.toks+1)] }:Obj)=o1;let gR:Jh (d.heap.push o1) ↥d 0 (n:Int) 1 d.toks t (d.toks+1):=by rw[←z];exact Jh.new ..
 let l:(d.heap.push o1).objs.size=↥d+1:=HB.size_push ..;refine call_list_range (s:={ d with heap:=d.heap.push o1,toks:=d.toks+1+1 }) (r.ok.hd A) gR (small_one ∅ ∅ ∅ ∅) C ∅ λm K i c R g3 p=>?_
 let(J,p):=p;let P:∀b o,d.heap.get? b=LH o->m.get? b=LH o:=λb o e=>R b o<|HB.get?_push_of_some _ e
 let S:Vals (upn n) i.toList:=uZ (by unfold upn;simp[J]) λj x u e f=>by
  unfold upn at e;rw[gM]at e;let W:j<n:=by
   let:=(Ik.mp f).1;simpa[J]using this
  rw[List.getElem?_range W]at e;cases e;let(t',rfl):=p j u<|~~~f;exact⟨t',by rw[Int.zero_add,Int.mul_one]⟩
 let B:m.get? (↥d+1)=LH { cls:=.type "list",dict:=LI,data:=.seq i.toList.toArray c,slots:=#[] }:=by
  rw[←l];simpa using g3
 show EP X g D Q _ _;refine⟨.ref<|↥d+1,_,r.laid (h':=m) (t':=K) (a:=↥d+1) (o:=.lst<|upn n) P (x4 _) ⟨by unfold upn;rw[bc,ja,Jq];exact xc V ⋯,i.toList,c,S,B⟩,?_,q _<|r.hok.fresh<|x4 _⟩;show Fe.ref _=_;rw[l]
section
variable{st b₀:ID}{su:L0 ID}{tb:TSX}{ts:HA->HA->TS}{Tn:Str}{B:HA}{np DD:Pos}
end
def Fl(e:TT)(g f:TSX):TSX:=λD a H d=>e a H λb c=>if b=LJ then g D a c d else f D a c d
theorem Ct{X:Cx}{c:Iz}{m s2:ID}{j:TT}{l k:TSX}{pos:Pos}(x:PT X.nox c j)(B:PSX X m l)(y:PSX X s2 k):PSX X (.If c [m] [s2] pos) (Fl j l k):=by
 intro a s e H D i I h;calc wpAny_If<|IE (x a s e H _ (I.wish _) h) (λd n ⟨p,C,o⟩=>?_) λ_ _ z=>False.elim z;let b:∀{g:ID}{t:TSX},PSX X g t->t D e p i->Iw (model X.prog X.w) X.A (execs [g] X.env) (SP X a D) (XP X a e i) n:=λ{g t} u r=>by
  calc IL<|IE (u a n e p D i C.unwish r) (λf s2 q=>?_) λ_ _ z=>z;cases f with
  |next=>exact IK q
  |ret v=>exact q
  |brk=>exact q
  |cont=>exact q
 cases d with
 |true=>exact b B o
 |false=>calc b y o
def zZ{K:W.Frag}{tg l:Iz}{a:TE}(h:X.K=K)(b:PE X l a):PI X tg l (Dk K a):=h ▸ sJ b
theorem o7{K:W.Frag}{a:HA}{xs:L0 V}{j:St}{f:Hp}{Q:VK}(c:HA->Nat->L0 V->Hp->Prop)(s:∀D,f D=LI->c D 0 [] (upd f D<|.lst []))
  (r:∀D i ys H,f D=LI->i<=⇑xs->c D i ys H->SqT K H a xs)
  (o:∀D i x ys H,f D=LI->xs[i]?=LH x->c D i ys H->∀ts:St,⇑ts=k->gt x (cC j fr ts) H λd t=>(∃g:St,⇑g=k/\d=cC j fr g)/\tt d t λb n=>if b=LJ then te d n (dg c D i ⇑xs)else dR c D i ⇑xs n)
  (hd:∀D ys H,f D=LI->c D ⇑xs ys H->Q (.ref D) H):iw (Itt K a) gt k fr tt te j Q f:=by
 intro D h;calc⟨λi m H=>m=⇑xs-i/\i<=⇑xs/\∃ys,c D i ys H,⟨_,U,wZ _,[],s D h⟩,?_⟩;rintro i m H ⟨rfl,hi,ys,p⟩;let q:=r D i ys H h hi p;by_cases l:i<⇑xs
 .refine .inr ⟨⟨xs,xs[i],q,by simp[l]⟩,λx u y=>?_⟩;let(e,y):=y;subst e;exact o D i x ys _ h (y xs q) p
 .let e:i=⇑xs:=∅
  subst e;calc .inl ⟨⟨xs,q,wX _⟩,hd D ys H h p⟩
abbrev TTh:HO:=.ext λ_=>True
def q8{P:Fw}{w:Fn}{H:Hp}{h:HB}{a:HA}{o:Obj}(e:h.get? a=LH o):cg P w H h a (.frz o TTh):=⟨e,trivial,⟨o,e⟩,λ_ _ _ _=>trivial⟩
def hideL(H:Hp)(a:L0 HA):Hp:=λb=>if b∈a then LI else H b
def fO(H:Hp)(fz:L0 (HA×Obj)):Hp:=λb=>match fz.lookup b with
 |some o=>LH<|.frz o TTh
 |none=>H b
def backL(H H':Hp)(a:L0 HA):Hp:=λb=>if b∈a then H b else H' b
def gN{H:Hp}{a:L0 HA}{b:HA}(h:b∈a):hideL H a b=none:=LO h
def bo{H:Hp}{a:L0 HA}{b:HA}(h:b ∉ a):hideL H a b=H b:=LN h
def mJ{H H':Hp}{a:L0 HA}{b:HA}(h:b∈a):backL H H' a b=H b:=LO h
def cz{H H':Hp}{a:L0 HA}{b:HA}(h:b ∉ a):backL H H' a b=H' b:=LN h
theorem dJ{H:Hp}{a:L0 HA}{b:HA}(h:H b=LI):hideL H a b=none:=by
 unfold hideL;split
 .rfl
 .exact h
theorem ub{H:Hp}{a:L0 HA}{b:HA}{o:HO}(h:hideL H a b=LH o):b ∉ a/\H b=LH o:=by
 unfold hideL at h;split at h
 .cases h
 .rename_i n
  calc⟨n,h⟩
def Fzs(H:Hp)(a:L0 HA):Prop:=∀c∈a,∃o,H c=LH (.frz o TTh)
theorem Fzs.out{H:Hp}{a:L0 HA}(h:Fzs H a){b:HA}{u:HO}(e:H b=LH u)(n:∀o,u≠.frz o TTh):b ∉ a:=λz=>by
 let(o,q):=h b z;rw[e]at q;calc n o<|Option.some.inj q
variable{P:Fw}{H:Hp}
section
variable{H':Hp}{h h':HB}{cs:L0 HA}
theorem HOk.hideL(x:HOk P w H h)(f:Fzs H cs):HOk P w (hideL H cs) h:=λb o e=>by
 let(n,e):=ub e;refine(x b o e).stay (λ_ _ _ q=>q) (λc q=>?_) λc a q=>?_
 .rw[bo (f.out q λ_ z=>by cases z)];exact q
 .rw[bo (f.out q λ_ z=>by cases z)];calc q
theorem HOk.backL(x:HOk P w H' h')(f:Fzs H cs)(n:∀c∈cs,H' c=LI)(k:∀c∈cs,∀o,H c=LH (.frz o TTh)->h'.get? c=LH o):HOk P w (backL H H' cs) h':=λb o e=>by
 by_cases a:b∈cs
 .rw[mJ a]at e;let(d,q):=f b a;rw[q]at e;cases e;exact q8<|k b a d q
 .rw[cz a]at e;let out:∀{c:HA}{u:HO},H' c=LH u->c ∉ cs:=λ{c u} q z=>by rw[n c z]at q;cases q
  refine(x b o e).stay (λ_ _ _ q=>q) (λc q=>?_) λc g q=>?_
  .rw[cz (out q)];exact q
  .rw[cz (out q)];calc q
theorem mK(s:ak (hideL H cs) H'):ak H (backL H H' cs):=λb o e=>by
 by_cases a:b∈cs
 .rw[mJ a];exact e
 .rw[cz a];calc s b o (by rw[bo a];exact e)
end
section
variable{fs:L0 HA}{H':Hp}{h h':HB}{cs:L0 HA}
theorem Un.backL(u:Un fs [] (hideL H cs) H' h h')(f:Fzs H cs):Un fs [] H (backL H H' cs) h h' where
 keep:=λb o e n a c=>u.keep b o e (dJ n) a c
 slot:=λb o e n a c=>u.slot b o e (dJ n) a c
 free:=λb o e n c=>by
  let:b ∉ cs:=λz=>by let(i,q):=f b z;rw[n]at q;cases q
  rw[cz this];exact u.free b o e (dJ n) c
 there:=u.there
 tups:=λb d e=>by
  let a:=f.out e λ_ z=>by cases z
  rw[cz a];exact u.tups b d (by rw[bo a];exact e)
 frzs:=λb o v e=>by
  by_cases a:b∈cs
  .rw[mJ a];exact e
  .rw[cz a];exact u.frzs b o v (by rw[bo a];exact e)
 tbls:=λb g e=>by
  let a:=f.out e λ_ z=>by cases z
  rw[cz a];calc u.tbls b g (by rw[bo a];exact e)
end
def q9(b:Obj)(qual:Str):Prop:=∃a t,b.data=.fields a/\a[1]?=LH (.str qual t)
structure pM(N ps:L0 Str)(sc:Ir)(cl:L0 (Str×HA)):Prop where
 kind:sc.kind=.function
 co:sc.isCoroutine=LK
 gen:sc.isGenerator=LK
 nd:N.Nodup
 pre:N.take ⇑ps=ps
 par:∀x∈ps,sc.names.lookup x=LH .local
 nocell:∀y∈sc.names,y.2≠.cell
 has:∀y∈sc.names,y.2=.free->∃c,cl.lookup y.1=LH c
def cxC(CX:CXT)(P:Fw)(w:Fn)(K:W.Frag)(mg:Str->Option Fe)(base:HB)(N:L0 Str)(qual:Str)(scope:Ir)(f:HA)(b:Fe)(cl:L0 (Str×HA))(A:Ip)(outer:L0 Env)(s:Iq)(H:Hp)(E:XK):Cx where
 prog:=P
 w:=w
 K:=K
 mg:=mg
 base:=base
 A:=A.deeper (W.envX qual scope ↥s f b cl)
 N:=N
 s₀:=s
 H₀:=hideL H (cl.map (·.2))
 env:=W.envX qual scope ↥s f b cl
 outer:=outer
 stack:=W.envX qual scope ↥s f b cl :: outer
 ex:=[]
 calm:=LJ
 fn:=λ_=>LK
 pn:=[]
 xe:=λe c=>Iw (model P w) (A.deeper<|W.envX qual scope ↥s f b cl) (leaving (W.envX qual scope ↥s f b cl) e) (λ_ a=>CX outer H s E e a) (λd a=>CX outer H s E d a) c
def ft(H:Hp)(cl:L0 (Str×HA))(ws:L0 (Str×V)):Prop :=
 (∀c∈cl.map (·.2),∃o v,H c=LH (.frz o TTh)/\o.data=.cell v)/\∀(x:Str)(v:V),ws.lookup x=LH v->∃c o u,cl.lookup x=LH c/\H c=LH (.frz o TTh)/\o.data=.cell (LH u)/\RelV v u
def ft.fzs{H:Hp}{cl:L0 (Str×HA)}{ws:L0 (Str×V)}(h:ft H cl ws):Fzs H (cl.map (·.2)):=λc a=>let ⟨o,_,e,_⟩:=h.1 c a;⟨o,e⟩
def ft.same{H H':Hp}{cl:L0 (Str×HA)}{ws:L0 (Str×V)}(h:ft H cl ws)(s:ak H H'):ft H' cl ws :=
 ⟨λc f=>let ⟨o,v,e,d⟩:=h.1 c f;⟨o,v,s _ _ e,d⟩,λx v e=>let ⟨c,o,u,a,b,d,r⟩:=h.2 x v e;⟨c,o,u,a,s _ _ b,d,r⟩⟩
def kG(N ps:L0 Str)(vs:L0 V)(ws:L0 (Str×V)):St:=vs.map LH++(N.drop ⇑ps).map λx=>ws.lookup x
def mL{cl:L0 (Str×HA)}{x:Str}{c:HA}(h:cl.lookup x=LH c):c∈cl.map (·.2):=dy.mpr ⟨(x,c),mem_of_lookup h,U⟩
theorem uc{ps:L0 Str}{us:L0 Fe}{i:Nat}{y:Str}{u:Fe}(d:ps.Nodup)(g:ps[i]?=LH y)(f:us[i]?=LH u)(h:⇑us=⇑ps):(ps.zip us).reverse.lookup y=LH u:=by
 let c:((ps.zip us).map (·.1)).Nodup:=by rw[tw ∅];exact d
 rw[PySem.lookup_reverse_of_nodup _ c];let b:(y,u)∈ps.zip us:=by
  let:(ps.zip us)[i]?=LH (y,u):=by rw[tI];exact⟨g,f⟩
  exact Il this
 cases e:(ps.zip us).lookup y with
 |none =>
  exact LP b (by
   intro b;let:=List.lookup_eq_none_iff.mp e (y,u) b;simp at this)
 |some v =>
  let:=mem_of_lookup e;let(j,a):=lz this;rw[tI]at a;let:=gF d a.1 g;subst this;rw[f]at a;rw[Option.some.inj a.2]
def HFn(P:Fw)(w:Fn)(K:W.Frag)(mg:Str->Option Fe)(base:HB)(k:Nat)(f:HA)(sp:Sp):Prop:=∃b a,aD P w K mg base CX0 k f b a sp/\Binds K b a []
def FnO(H:Hp)(f:HA):Prop:=∃o a,H f=LH (.frz o TTh)/\o.data=.func a
variable{i:Nat}{x:Str}{e:Iz}{es:L0 Iz}{t:TA}{p:Pos}
inductive Bh(X:Cx)(k i:Nat)(t:TA)(σ:St)(H:Hp)(Q:VK):Prop
 |mk (f:HA)(sp:Sp)(_:σ[i]?=LH (LH<|.ref f))(_:FnO H f)(_:HFn X.prog X.w X.K X.mg X.base k f sp)(_:t σ H λvs H1=>FnO H1 f/\sp vs H1 Q E0)
theorem u7(K:bI k X.A)(P:X.N[i]?=LH x)(J:Vis X.env.scope x)(O:PA X (e :: es) t)(L:(x == ("__debug__" : Str))=false:=by decide) (j:(x == ("__classdict__" : Str))=false:=by decide)
  (he:IC (e :: es) X.env=(LK,eval e X.env) :: IC es X.env:=by rfl)(g:(IB pos<|IC es X.env).any (·.1)=false:=by rfl):PE X (.Call (.Name x p) (e :: es) [] pos) (Bh X k i t):=by
 intro a s c H Q I h;let(f,sp,S,R,(m,pn,F,M),h):=h;let b:∀{H:Hp}{s:Iq}{c:St},Inv X a c H s->FnO H f->W.FnAt f s.heap:=λT ⟨o,m,e,d⟩=>by
  let:=(T.hok f _ e).1;let(G,D,dt,r):=o;simp only at d;subst d;exact⟨G,D,m,r,this⟩
 calc Fd<|thn (xf P J L j a s c H (λv Y=>v=.ref f/\Y=H) I ⟨_,S,U,U⟩) λu w ⟨v,V,q,z,C⟩=>?_;let(rfl,rfl):=C;cases (show u=Fe.ref f from z);calc W.callWith_F (b q R) (thn (O pos a w c V _ q h) λus s2 ⟨Z,H2,n,y,l,B⟩=>⟨b n l,?_⟩) he g;calc sV (E:=E0) (dvs:=[]) (ds:=[]) F K M .nil bW n y (by rw[iP];exact B)
variable{LM:L0 (HA×Obj)}{σ:St}
theorem bz{H:Hp}{fz:L0 (HA×Obj)}{b:HA}(h:b ∉ fz.map (·.1)):fO H fz b=H b:=by
 unfold fO;cases e:fz.lookup b with
 |none=>rfl
 |some o=>calc LP (dy.mpr ⟨(b,o),W.mem_of_lookupK e,U⟩) h
theorem dO{H:Hp}{fz:L0 (HA×Obj)}{b:HA}(h:b∈fz.map (·.1)):∃o,(b,o)∈fz/\fO H fz b=LH (.frz o TTh):=by
 unfold fO;cases e:fz.lookup b with
 |none =>
  let((c,o),a,rfl):=dy.mp h;let:=List.lookup_eq_none_iff.mp e _ a;simp at this
 |some o=>calc⟨o,W.mem_of_lookupK e,U⟩
structure kI(X:Cx)(s:Iq)(fz:L0 (HA×Obj)):Prop where
 cell:∀p∈fz,∃x,X.env.cells.lookup x=LH p.1
 nb:∀p∈fz,X.base.get? p.1=LI
 nf:∀p∈fz,p.1 ∉ X.fs
 at_:∀p∈fz,s.heap.get? p.1=LH p.2
theorem kI.free{fz:L0 (HA×Obj)}(z:kI X s fz)(I:Inv X LM σ H s):∀b∈fz.map (·.1),H b=none:=λb c=>by
 let(p,a,rfl):=dy.mp c;let(x,e):=z.cell p a;calc I.freeC x _ e
theorem kI.hok{fz:L0 (HA×Obj)}(z:kI X s fz)(I:Inv X LM σ H s):HOk X.prog X.w (fO H fz) s.heap:=λb u e=>by
 by_cases a:b∈fz.map (·.1)
 .let(o,c,q):=dO (H:=H) a;rw[q]at e;cases e;exact q8<|z.at_ _ c
 .rw[bz a]at e;let out:∀{d:HA}{u:HO},H d=LH u->fO H fz d=LH u:=λ{d u} q=>by
   rw[bz λm=>by rw[z.free I d m]at q;cases q];exact q
  calc(I.hok b u e).stay (λ_ _ _ q=>q) (λd q=>out q) λd f q=>out q
theorem kI.env0{fz:L0 (HA×Obj)}(z:kI X s fz)(I:Inv X LM σ H s):qj X.prog X.w X.K X.mg X.base X.A X.stack s (fO H fz):=by
 let e:=I.env0;refine⟨e.frames,e.mod,λb o q=>⟨(e.bs b o q).1,?_⟩,e.bsz,e.funs,λb c=>?_,z.hok I,e.bare⟩
 .rw[bz λm=>?_]
  .exact(e.bs b o q).2
  .let(p,a,rfl):=dy.mp m;rw[z.nb p a]at q;cases q
 .rw[bz λm=>?_]
  .exact e.frf b c
  .let(p,a,rfl):=dy.mp m;rcases bL.mp (I.stkSub _ c)with q|q
   .let(x,d):=z.cell p a;exact I.cne x _ d q
   .exact z.nf p a q
theorem Inv.cellNew(I:Inv X LM σ H s){x:Str}{c:HA}(e:X.env.cells.lookup x=LH c)(d:X.fn x=LJ):X.base.get? c=LI/\c ∉ X.fs:=by
 let a:=I.ok.cab x c d e;calc⟨HB.get?_none_of_le<|xc I.ok.bsz a,λq=>?_⟩;let(_,o,b,_):=I.ok.funs.mem q;calc LP (HB.lt_size b)<|Nat.not_lt.mpr a
theorem kI.after{fz:L0 (HA×Obj)}{Q:VK}{u:Fe}{s':Iq}(z:kI X s fz)(I:Inv X LM σ H s)(h:CE X.stack X.prog X.w (fO H fz) s (λv k=>Q v (hideL k (fz.map (·.1)))) u s'):EP X LM σ Q u s':=by
 let(v,k,B,j,un,hok,r,q):=h;let fzs:Fzs k (fz.map (·.1)):=λc C=>by
  let(o,_,e):=dO (H:=H) C;exact⟨o,un.frzs c o _ e⟩
 let out:∀{d:HA}{u:HO},H d=LH u->d ∉ fz.map (·.1):=λ{d u} q m=>by rw[z.free I d m]at q;cases q
 refine⟨v,hideL k (fz.map (·.1)),I.call' (ch:=[]) B ⟨λb o e n g f=>?_,λb o e n g f=>?_,λb o e n f=>?_,un.there,λb x e=>?_,λb o y e=>?_,λb A e=>?_⟩ (hok.hideL fzs) j<|λb g=>LP g (by simp),r,q⟩
 .by_cases a:b∈fz.map (·.1)
  .let(p,t,l):=dO (H:=H) a;let:=(hok b _<|un.frzs b p _ l).1;let i:=z.at_ _ t;rw[e]at i;cases i;exact this
  .exact un.keep b o e (by rw[bz a];exact n) g f
 .by_cases a:b∈fz.map (·.1)
  .let(p,t,l):=dO (H:=H) a;let:=(hok b _<|un.frzs b p _ l).1;let i:=z.at_ _ t;rw[e]at i;cases i;exact⟨_,this⟩
  .exact un.slot b o e (by rw[bz a];exact n) g f
 .by_cases a:b∈fz.map (·.1)
  .exact gN a
  .rw[bo a];exact un.free b o e (by rw[bz a];exact n) f
 .let a:=out e;rw[bo a];exact un.tups b x (by rw[bz a];exact e)
 .let a:=out e;rw[bo a];exact un.frzs b o y (by rw[bz a];exact e)
 .let a:=out e;rw[bo a];calc un.tbls b A (by rw[bz a];exact e)
section
variable{ps:L0 Str}{sp:Sp}
def tZ(zs:L0 (Str×Nat×HA))(sp:Sp)(t:TA):TE:=λσ H Q=>t σ H λc b=>∀a:L0 Obj,⇑a=⇑zs->(∀z∈zs,b z.2.2=LI) ->
 (∀(j:Nat)(z:Str×Nat×HA),zs[j]?=LH z->∃o w,a[j]?=LH o/\o.data=.cell w/\∀v,σ[z.2.1]?=LH (LH v)->∃u,w=LH u/\RelV v u) ->
 sp c (fO b ((zs.map (·.2.2)).zip a)) (λv d=>Q v (hideL d (zs.map (·.2.2)))) E0
theorem kJ{LM:L0 (HA×Obj)}{σ:St}{H:Hp}{s:Iq}(I:Inv X LM σ H s):∀(zs:L0 (Str×Nat×HA)),(∀z∈zs,X.N[z.2.1]?=LH z.1/\(X.env.scope.names.lookup z.1=LH .cell\/X.env.scope.names.lookup z.1=LH .free)/\X.env.cells.lookup z.1=LH z.2.2/\(X.fn z.1=LJ\/(X.base.get? z.2.2=LI/\z.2.2 ∉ X.fs))) ->
  ∃f:L0 Obj,⇑f=⇑zs/\(∀(j:Nat)(z:Str×Nat×HA),zs[j]?=LH z->∃o w,f[j]?=LH o/\s.heap.get? z.2.2=LH o/\o.data=.cell w/\∀v,σ[z.2.1]?=LH (LH v)->∃u,w=LH u/\RelV v u)
 | [],_=>⟨[],U,λj z e=>by simp at e⟩
 |z :: zs,h=>by
  let(f,y,x):=kJ I zs λq a=>h q<|fo _ a
  let(A,b,n,E):=h z dn;let(w,o,e,d):=I.cell _ _ n;refine⟨o :: f,by rw[gb,gb,y],λj q a=>?_⟩
  match j,a with
  |0,a =>
   cases a;calc⟨o,w,U,e,d,λv t=>?_⟩;let(m,D,B):=I.loc;let(u,r,l):=B _ _ v A t<|.inr b;rcases l with⟨g,_⟩|⟨_,c,k,C,p,i⟩
   .let g:X.env.scope.names.lookup z.1=LH .local:=g;rcases b with b|b <;> rw[b]at g <;> cases g
   .rw[n]at k;cases k;rw[e]at p;cases p;rw[d]at i;injection i with i;exact⟨u,i,r⟩
  |j+1,a=>calc x j q (~~~a)
theorem yn{LM:L0 (HA×Obj)}{σ:St}{H:Hp}{s:Iq}{zs:L0 (Str×Nat×HA)}{g:L0 Obj}(I:Inv X LM σ H s)
  (hz:∀z∈zs,X.N[z.2.1]?=LH z.1/\(X.env.scope.names.lookup z.1=LH .cell\/X.env.scope.names.lookup z.1=LH .free)/\X.env.cells.lookup z.1=LH z.2.2/\(X.fn z.1=LJ\/(X.base.get? z.2.2=LI/\z.2.2 ∉ X.fs)))(n:⇑g=⇑zs)
  (k:∀(j:Nat)(z:Str×Nat×HA),zs[j]?=LH z->∃o w,g[j]?=LH o/\s.heap.get? z.2.2=LH o/\o.data=.cell w/\∀v,σ[z.2.1]?=LH (LH v)->∃u,w=LH u/\RelV v u):kI X s ((zs.map (·.2.2)).zip g):=by
 let b:∀p∈(zs.map (·.2.2)).zip g,∃z∈zs,z.2.2=p.1/\s.heap.get? p.1=LH p.2:=λp a=>by
  let(j,d):=lz a;rw[tI,gM]at d;cases ez:zs[j]? with
  |none=>rw[ez]at d;cases d.1
  |some z =>
   rw[ez]at d;let i:z.2.2=p.1:=Option.some.inj d.1;let(o,w,h,m,_):=k j z ez;rw[d.2]at h;cases h;exact⟨z,Il ez,i,i ▸ m⟩
 let new:∀z∈zs,X.base.get? z.2.2=LI/\z.2.2 ∉ X.fs:=λz c=>by
  let(_,_,l,f):=hz z c;rcases f with f|f
  .exact I.cellNew l f
  .exact f
 refine⟨λp a=>?_,λp a=>?_,λp a=>?_,λp a=>?_⟩
 .let(z,c,e,_):=b p a;exact⟨z.1,e ▸ (hz z c).2.2.1⟩
 .let(z,c,e,_):=b p a;rw[←e];exact(new z c).1
 .let(z,c,e,_):=b p a;rw[←e];exact(new z c).2
 .let(z,c,e,h):=b p a;calc h
theorem Cu{zs:L0 (Str×Nat×HA)}(C:Callee X.prog X.w X.K X.mg X.base k x ps sp)(P:bI k X.A)(S:Gl X x)(T:PA X (e :: es) t)(hz:∀z∈zs,X.N[z.2.1]?=LH z.1/\(X.env.scope.names.lookup z.1=LH .cell\/X.env.scope.names.lookup z.1=LH .free)/\X.env.cells.lookup z.1=LH z.2.2/\(X.fn z.1=LJ\/(X.base.get? z.2.2=LI/\z.2.2 ∉ X.fs)))
  (v:(x == ("__debug__" : Str))=false:=by decide) (he:IC (e :: es) X.env=(LK,eval e X.env) :: IC es X.env:=by rfl)(l:(IB pos<|IC es X.env).any (·.1)=false:=by rfl):PE X (.Call (.Name x p) (e :: es) [] pos) (tZ zs sp t):=by
 let(f,Z,F,b,O,m):=C;intro LM s σ H Q I h;calc Fd<|cY I S m ?_ v;calc W.callWith_K (h₀:=X.base) I.ok.mod.kin O (thn (T pos LM s σ H _ I h) λg i ⟨L,Y,a,r,q⟩=>⟨a.kIn,?_⟩) he l;let(B,G,E):=kJ a zs hz;let J:((zs.map (·.2.2)).zip B).map (·.1)=zs.map (·.2.2):=tw (by rw[bc];lia);let d:=yn a hz G E;let D:=q B G (λz R=>a.freeC z.1 _ (hz z R).2.2.1) λj z V=>let ⟨o,w,a1,_,a3,a4⟩:=E j z V;⟨o,w,a1,a3,a4⟩
 let n:⇑g=⇑ps:=by rw[←⇑r];exact F.len _ _ _ _ D
 refine JB (JC (F.run X.A X.stack i _ ⟨g,[]⟩ g L _ E0 P (d.env0 a) (by have:=b i g a.kIn (by rw[iP];exact n);rw[iP]at this;exact this) r D) λM y c=>?_);cases M with
 |error e=>exact bW LM σ Y i e y a c
 |ok fl =>
  cases fl with
  |ret u =>
   let c:CE X.stack X.prog X.w _ i _ u y:=c;calc d.after a ?_;rw[J];exact c
  |next=>exact False.elim c
  |brk=>exact False.elim c
  |cont=>calc False.elim c
end
def yp(tabs:L0 (HA×HA))(H:Hp):Prop:=∀b,H b=LI\/(∃o a,H b=LH (.frz o<|.lst a))\/(b∈tabs.map (·.2)/\H b=LH (.tbl #[]))
theorem wq{P:Fw}{w:Fn}{K:W.Frag}{mg mb:Str->Option Fe}{CX:CXT}{k:Nat}{fa a:HA}{fd:Jy}{x:Str}{sp:Sp}{c:Iq}{vs:L0 Fe}{ns:L0 Int}{tabs:L0 (HA×HA)}
  (KX:K.In c.heap)(C:c.heap.Ns Ia mg)(hb:c.heap.Ns Im mb)(a7:∀x:Str,x ≠ "__name__" -> mb x=Io x) (Fo:c.heap.NoLimit)(hg:c.gens = #[])
  (G:c.heap.get? a=LH { cls:=.type "list",data:=.seq vs.toArray }) (hi:IntsAre vs ns)(hl:⇑ns<=HL)(hr:bI k JW)
  (L:TabsAt tabs c.heap)(a5:noTabs K=LJ)(a6:∃bm A,mg "__builtins__" = LH (.ref bm)/\bm≠Im/\c.heap.get? bm=LH A/\A.cls=.type "module" /\ A.dict=LH Im/\A.data=.plain)
  (F:∀base:HB,K.In base->base.Ns Ia mg->(∀q∈tabs,CodeHd base q.1 q.2/\base.BuiltinsAt mg q.2)->aD P w K mg base CX k fa fd [x] sp)(DP:∀(s:Iq)(u:Fe),Jz s fd ⟨[u],[]⟩ [(x,u)])
  (a3:∀H:Hp,yp tabs H->SqL K H a (ns.map V.int)->(∀q∈tabs,H q.2=LH (.tbl #[]))->sp [.ref a] H (λv _=>v=.bl LJ) λ_ _ _=>False)
  (b0:∀H e s',CX [] H c (λ_ _ _=>False) e s'->False) :
  Jt (model P w) JW (.call (.ref fa) ⟨[.ref a],[]⟩) (λr s'=>r=.ok (.ret<|.bool LJ)/\OldK c.heap s'.heap/\s'.os=c.os/\AllBare s'.gens) c:=by
 let rv:=oF hi;let Fp:=⇑hi;let E:∀b∈tabs.map (·.2),c.heap.get? b=LH (tabObj #[]):=λb f=>by
  let(q,i,rfl):=dy.mp f;exact(L q i).2
 let aT:a ∉ tabs.map (·.2):=λz=>by
  let e:=E a z;rw[G]at e;cases e
 let B:∀H:Hp,yp tabs H->SqL K H a (ns.map V.int)->HOk P w H c.heap->(∀b,H b≠LI->b=a\/b∈tabs.map (·.2))->(H a≠LI->K.lookup a=LI)->(∀q∈tabs,H q.2=LH (.tbl #[])) ->
   Jt (model P w) JW (.call (.ref fa) ⟨[.ref a],[]⟩) (λr s'=>r=.ok (.ret<|.bool LJ)/\OldK c.heap s'.heap/\s'.os=c.os/\AllBare s'.gens) c:=by
  intro H hO hS hok hA hK R;let lM:∀{b:HA}{o:Obj},c.heap.get? b=LH o->H b=LI->(lQ c.heap H).get? b=LH o:=λe n=>xb e n
  let O:∀{b:HA}{o:Obj},c.heap.get? b=LH o->(b=a->False)->o≠tabObj #[]->H b=none:=λ{b o} e n1 n2=>by
   cases q:H b with
   |none=>rfl
   |some u =>
    rcases hA b (by rw[q];simp)with z|z
    .exact(n1 z).elim
    .let:=E b z;rw[e]at this;exact LP (Option.some.inj this) n2
  let a1:∀{b:HA}{o:Obj}{es:Array DictEntry}{I:Nat},c.heap.get? b=LH o->o.data=.dict es I->H b=none:=λ{b o es I} e d=>O e (λz=>by
   subst z;rw[G]at e;cases e;let N:Jb.seq vs.toArray _=Jb.dict es I:=d;cases N) (λz=>by rw[z]at d;cases d)
  let Q:∀{b:HA}{o:Obj}{T:String},c.heap.get? b=LH o->o.cls=.type T->T ≠ "list" -> H b=none:=λ{b o T} e d a9=>O e (λz=>by
   subst z;rw[G]at e;cases e;let N:Fe.type "list" = Fe.type T:=d;injection N with N;exact a9 N.symm) (λz=>by rw[z]at d;cases d)
  let y:∀{b:HA}{m:Str->Option Fe},c.heap.Ns b m->(lQ c.heap H).Ns b m:=λ{b m} ⟨o,es,I,e,d,r⟩=>⟨o,es,I,lM e<|a1 e d,d,r⟩
  let S:K.In (lQ c.heap H):=λb o e=>lM (KX b o e) (by
   cases q:H b with
   |none=>rfl
   |some u =>
    rcases hA b (by rw[q];simp)with z|z
    .subst z;rw[hK (by rw[q];simp)]at e;cases e
    .let j:=E b z;rw[KX b o e]at j;cases j;let h2:=jr.mp a5 (b,tabObj #[])<|mem_of_lookupK e;exact LP (show LK=LJ from h2) Bool.false_ne_true)
  let hM:Mod K mg (lQ c.heap H):=⟨S,y C,⟨mb,y hb,a7⟩,let ⟨mc,h1,h2⟩:=Fo;⟨mc,y h1,h2⟩⟩;let e0:qj P w K mg (lQ c.heap H) JW [] c H:=⟨U,hM,λb o e=>zq e,zI<|vB _ _,trivial,λb hb=>LP (show b∈([]:L0 HA)from hb) (by simp),hok,.of_eq hg⟩;let a8:∀q∈tabs,CodeHd (lQ c.heap H) q.1 q.2/\(lQ c.heap H).BuiltinsAt mg q.2:=λq i=>by
   let(o,a0,Y,tf,D,tg,a2,X,tt,M,r1,r2):=(L q i).1;let(bm,A,b1,b2,J,b4,b5,b6):=a6;refine⟨⟨o,a0,Y,tf,D,tg,a2,X,tt,lM M<|Q M r1 ⋯,r1,r2⟩,bm,A,b1,b2,λz=>?_,λz=>?_,lM J<|Q J b4 ⋯,b4,b5,b6⟩
   .let(o',es,I,e,d,_):=C;rw[z,e]at J;cases J;rw[d]at b6;cases b6
   .let j:=(L q i).2;rw[z,j]at J;cases J;cases b4
  refine JC ((F _ S (y C) a8).run JW [] c H ⟨[.ref a],[]⟩ [.ref a] [.ref a] _ _ hr e0 (DP c<|.ref a) (.cons U .nil) (a3 H hO hS R)) λr s' h=>?_
  cases r with
  |error e=>exact(b0 H e s' h).elim
  |ok fl =>
   cases fl with
   |next=>exact False.elim h
   |brk=>exact False.elim h
   |cont=>exact False.elim h
   |ret u =>
    let(v,H',os,Z,un,DQ,r',q):=h;let q':v=.bl true:=q;subst q';obtain rfl:u=Fe.bool true:=r';let kept:∀b o,b ∉ tabs.map (·.2)->c.heap.get? b=LH o->s'.heap.get? b=LH o:=λb o f e=>by
     cases q:H b with
     |none=>exact un.keep b o e q (by intro z;exact LP (show b∈([]:L0 HA)from z) (by simp)) (by simp)
     |some u =>
      rcases hO b with z|⟨A,xs,z⟩|⟨z,_⟩
      .rw[q]at z;cases z
      .let z2:=un.frzs b A _ z;let(M,_):=hok b _ z;let(j,_):=DQ b _ z2;rw[e]at M;cases M;exact j
      .exact LP z f
    let l:∀b∈tabs.map (·.2),isCodeTable c.heap b/\∃g,s'.heap.get? b=LH (tabObj g):=λb f=>by
     let(qq,i,rfl):=dy.mp f;let(g,e):=un.tbls _ _<|R qq i;let j:s'.heap.get? qq.2=LH (tabObj<|#[]++g):=DQ _ _ e;exact⟨((L qq i).1.tab (L qq i).2).isCodeTable,_,j⟩
    refine⟨U,⟨λb o e=>?_,λb o e=>?_⟩,os,Z⟩
    .by_cases f:b∈tabs.map (·.2)
     .let(ht,g,j):=l b f;let e3:=E b f;rw[e]at e3;cases e3;exact .inr<|.inl ⟨ht,U,#[],g,U,by rw[Array.empty_append];exact j⟩
     .exact .inl<|kept b o f e
    .by_cases f:b∈tabs.map (·.2)
     .let(_,g,j):=l b f;exact⟨_,j⟩
     .exact⟨o,kept b o f e⟩
 cases hk:K.lookup a with
 |some o =>
  let e:=KX a o hk;rw[G]at e;cases e;refine B (λb=>if b∈tabs.map (·.2)then LH (.tbl #[])else LI) (λb=>?_) (.inr ⟨_,vs.toArray,_,hk,U,U,U,by rw[cf,Fp];exact hl,~~~rv⟩) (λb u z=>?_) (λb z=>?_) (λz=>LP (LN aT) z) λq i=>LO<|dy.mpr ⟨q,i,U⟩
  .by_cases f:b∈tabs.map (·.2)
   .exact .inr<|.inr ⟨f,LO f⟩
   .exact .inl<|LN f
  .by_cases f:b∈tabs.map (·.2)
   .let t:=(LO f).symm.trans z;cases t;exact E b f
   .let t:=(LN f).symm.trans z;cases t
  .by_cases f:b∈tabs.map (·.2)
   .exact .inr f
   .exact LP (LN f) z
 |none =>
  refine B (λb=>if b=a then LH (.frz { cls:=.type "list",data:=.seq vs.toArray } (.lst<|ns.map V.int))else if b∈tabs.map (·.2)then LH (.tbl #[])else LI) (λb=>?_) (.inl<|.inr ⟨{ cls:=.type "list",data:=.seq vs.toArray },LO U⟩) (λb u z=>?_) (λb z=>?_) (λ_=>hk) λq i=>?_
  .by_cases f:b=a
   .exact .inr<|.inl ⟨_,_,LO f⟩
   .by_cases p:b∈tabs.map (·.2)
    .exact .inr<|.inr ⟨p,(LN f).trans<|LO p⟩
    .exact .inl<|(LN f).trans<|LN p
  .by_cases f:b=a
   .let t:=(LO f).symm.trans z;cases t;subst f;exact⟨G,by rw[bc];exact hl,vs,_,rv,G⟩
   .by_cases p:b∈tabs.map (·.2)
    .let t:=((LN f).trans<|LO p).symm.trans z;cases t;exact E b p
    .let t:=((LN f).trans<|LN p).symm.trans z;cases t
  .by_cases f:b=a
   .exact .inl f
   .by_cases p:b∈tabs.map (·.2)
    .exact .inr p
    .exact LP ((LN f).trans<|LN p) z
  .let hm:q.2∈tabs.map (·.2):=dy.mpr ⟨q,i,U⟩;let a4:q.2≠a:=λz=>aT<|z ▸ hm
   calc(LN a4).trans (LO hm)
theorem walk_ofT{l:W.OpenLaw}{n k:Nat}{q:Fw}{i:L0 Str}{XP:(Str->Option Fe)->HB->Prop}{O:Fn->HB->Prop}{d:DefRec}{K:JV->W.Frag}{CX:Fn->CXT}{sp:Fn->Sp}{x:Str}{tabs:JV->L0 (HA×HA)}{xs:L0 Str}
  (Z:l.most=LH n)(E:n<=HL)(J:d.params.defaults=[])(X:bI k JW)
  (hY:∀(w:Fn)(h:HB),O w h->(K w.params).In h)(D:∀p:JV,noTabs (K p)=LJ)
  (B:∀y∈xs,∃d',(recsOf q).find? (λe=>e.name == y)=LH d')(Q:∀p:JV,∀t∈tabs p,∃y∈xs,tabIn (K p) y=LH t)
  (F:∀(w:Fn)(mg:Str->Option Fe)(r:HA)(h:HB),(K w.params).In h->h.Ns Ia mg->mg d.name=LH (.ref r) ->
   ∃z:Jy,(∀(s:Iq)(u:Fe),Jz s z ⟨[u],[]⟩ [(x,u)]) /\
    ∀base:HB,(K w.params).In base->base.Ns Ia mg->(∀q∈tabs w.params,CodeHd base q.1 q.2/\base.BuiltinsAt mg q.2)->aD l.prog w (K w.params) mg base (CX w) k r z [x] (sp w))
  (C:∀(w:Fn)(H:Hp)(a:HA)(ns:L0 Int),⇑ns<=n->yp (tabs w.params) H->SqL (K w.params) H a (ns.map V.int)->(∀q∈tabs w.params,H q.2=LH (.tbl #[]))->sp w [.ref a] H (λv _=>v=.bl LJ) λ_ _ _=>False)
  (N:∀(w:Fn)(H:Hp)(s:Iq)(e:Fe)(s':Iq),CX w [] H s (λ_ _ _=>False) e s'->False) :
  W.WalkO q i XP O l.row.toRowW d [] (λf vs=>PySem.call f vs):=by
 refine Att.attach_call Z J λw P m mg mb r o pm cd a1 a vs ns G Y ho hd a0 I B1 j c hg=>?_
 let A:=hY w _ Y;let(z,hb,hF):=F w mg r _ A G.T.g I;refine wq A G.T.g G.T.b G.T.builtins G.T.nolimit hg B1 j (xc c E) X (tabs:=tabs w.params) (λt S=>?_) (D w.params) G.T.bmain hF hb (λH hO hS M=>C w H a ns c hO hS M) λH e s'=>N w H m e s'
 let(y,R,e):=Q w.params t S;let(d',L):=B y R;calc tab_of G.T A L e
variable{K:W.Frag}{base:HB}
section
variable{mg:Str->Option Fe}
def jb(H:Hp)(f c':HA)(b:Obj)(qual:Str)(cl:L0 (Str×HA))(ws:L0 (Str×V)):Prop:=H f=LH (.frz b TTh)/\(∃a,H c'=LH (.frz a TTh)/\q9 a qual)/\ft H cl ws
theorem jb.same{H H':Hp}{f c':HA}{a:Obj}{qual:Str}{cl:L0 (Str×HA)}{ws:L0 (Str×V)}(h:jb H f c' a qual cl ws)(s:ak H H'):jb H' f c' a qual cl ws :=
 ⟨s _ _ h.1,let ⟨oc,e,q⟩:=h.2.1;⟨oc,s _ _ e,q⟩,h.2.2.same s⟩
theorem rb{zs:L0 (Str×Nat×HA)}{f:L0 Obj}{H:Hp}{σ:St}{cl:L0 (Str×HA)}{ws:L0 (Str×V)}(K:⇑f=⇑zs)(t:(zs.map (·.2.2)).Nodup)
  (y:∀(j:Nat)(z:Str×Nat×HA),zs[j]?=LH z->∃o w,f[j]?=LH o/\o.data=.cell w/\∀v,σ[z.2.1]?=LH (LH v)->∃u,w=LH u/\RelV v u)
  (D:∀c∈cl.map (·.2),∃z∈zs,z.2.2=c)(C:∀(x:Str)(v:V),ws.lookup x=LH v->∃z∈zs,cl.lookup x=LH z.2.2/\σ[z.2.1]?=LH (LH v)):ft (fO H ((zs.map (·.2.2)).zip f)) cl ws:=by
 let h:∀z∈zs,∃o w,fO H ((zs.map (·.2.2)).zip f) z.2.2=LH (.frz o TTh)/\o.data=.cell w/\∀v,σ[z.2.1]?=LH (LH v)->∃u,w=LH u/\RelV v u:=λz g=>by
  let(j,p):=lz g;let(o,w,m,l,I):=y j z p;let q:((zs.map (·.2.2)).zip f).map (·.1)=zs.map (·.2.2):=tw (by rw[bc];lia);let(s,A,G):=dO (H:=H) (fz:=(zs.map (·.2.2)).zip f) (b:=z.2.2) (by rw[q];exact dy.mpr ⟨z,g,U⟩);let(i,k):=lz A;rw[tI]at k;let E:(zs.map (·.2.2))[j]?=LH z.2.2:=by rw[gM,p];rfl
  let(M,J):=Ik.mp k.1;let(L,b2):=Ik.mp E;let n:i=j:=(vr t).mp<|J.trans b2.symm;subst n;let F:o=s:=Option.some.inj<|m.symm.trans k.2;subst F;exact⟨o,w,G,l,I⟩
 refine⟨λc B=>?_,λx v e=>?_⟩
 .let(z,g,rfl):=D c B;let(o,w,a,b,_):=h z g;exact⟨o,w,a,b⟩
 .let(z,g,m,l):=C x v e;let(o,w,a,b,d):=h z g;let(u,rfl,r):=d v l;calc⟨z.2.2,o,u,m,a,b,r⟩
end
theorem yq{a:Ir}{cl:L0 (Str×HA)}(h:(a.names.all λy=>match y.2 with | .free=>(cl.map (·.1)).any (y.1 == ·)|_=>LJ)=LJ):∀y∈a.names,y.2=.free->∃c,cl.lookup y.1=LH c:=λy d e=>by
 let:=jr.mp h y d;rw[e]at this;let(z,b,g):=sE.mp this;let(p,f,rfl):=dy.mp b;cases q:cl.lookup y.1 with
 |some c=>exact⟨c,U⟩
 |none =>
  let:=List.lookup_eq_none_iff.mp q p f;simp[bne,g]at this
theorem u9{N:L0 Str}{a:Ir}{ws:L0 (Str×V)}(h:((ws.map (·.1)).all λx=>match a.names.lookup x with|some .free=>LJ|_=>LK)=LJ):∀y∈N,∀v,ws.lookup y=LH v->a.names.lookup y=LH .free:=λy _ v e=>by
 let:=jr.mp h y<|dy.mpr ⟨(y,v),mem_of_lookup e,U⟩;split at this
 .assumption
 .cases this
theorem tab_mk{K:Frag}{x qual:Str}{st:ID}{f c P:HA}{g kV doc pm m:Fe}{d n:Option HA}{b:Array (Option Fe)}{j:Fe}{i:Option HA}{vs:Array Fe}{h:Array (Option Fe)}(a:nsIn K Ia x=LH (LH<|.ref f))
  (l:K.lookup f=LH ⟨g,d,.func<|fnOf x qual (f7 st) (cx st) (aj st) .none kV doc pm n (.ref c) m,b⟩)(k:K.lookup c=LH ⟨j,i,.fields vs,h⟩)(e:vs[11]?=LH (.ref P)):tabIn K x=LH (c,P):=by
 unfold tabIn;rw[a];simp only[l];show(match K.lookup c with|some ⟨_,_,.fields vs,_⟩=>(match (vs[11]?:Option Fe)with|some (.ref P)=>LH (c,P)|_=>LI)|_=>LI)=LH (c,P);rw[k];simp only[e]
section
variable{zs:L0 (Str×Nat×HA)}{os:L0 Obj}{H2:Hp}
theorem mM(a:⇑os=⇑zs):((zs.map (·.2.2)).zip os).map (·.1)=zs.map (·.2.2):=tw (by rw[bc];lia)
theorem mO(c:⇑os=⇑zs)(d:∀z∈zs,H z.2.2=LI):ak H (fO H ((zs.map (·.2.2)).zip os)):=λb u e=>by
 rw[bz λm=>?_]
 .exact e
 .rw[mM c]at m;let(z,a,rfl):=dy.mp m;rw[d z a]at e;cases e
theorem hide_same(d:⇑os=⇑zs)(a:∀z∈zs,H z.2.2=LI)(s:ak (fO H ((zs.map (·.2.2)).zip os)) H2):ak H (hideL H2 (zs.map (·.2.2))):=λb u e=>by
 rw[bo λm=>?_]
 .exact s _ _<|mO d a _ _ e
 .let(z,c,rfl):=dy.mp m;rw[a z c]at e;cases e
end
theorem kI.inv{fz:L0 (HA×Obj)}{j:Hp}{s':Iq}(z:kI X s fz)(I:Inv X LM σ H s)(os:s'.os=s.os)(i:AllBare s'.gens)(un:Un (frs X.stack) [] (fO H fz) j s.heap s'.heap)(hok:HOk X.prog X.w j s'.heap):Inv X LM σ (hideL j (fz.map (·.1))) s':=by
 let fzs:Fzs j (fz.map (·.1)):=λc x=>by
  let(o,_,e):=dO (H:=H) x;exact⟨o,un.frzs c o _ e⟩
 let out:∀{d:HA}{u:HO},H d=LH u->d ∉ fz.map (·.1):=λ{d u} q m=>by rw[z.free I d m]at q;cases q
 refine I.call' (ch:=[]) os ⟨λb o e n g f=>?_,λb o e n g f=>?_,λb o e n f=>?_,un.there,λb r e=>?_,λb o t e=>?_,λb v e=>?_⟩ (hok.hideL fzs) i<|λb g=>LP g (by simp)
 .by_cases a:b∈fz.map (·.1)
  .let(l,p,k):=dO (H:=H) a;let:=(hok b _<|un.frzs b l _ k).1;let h:=z.at_ _ p;rw[e]at h;cases h;exact this
  .exact un.keep b o e (by rw[bz a];exact n) g f
 .by_cases a:b∈fz.map (·.1)
  .let(l,p,k):=dO (H:=H) a;let:=(hok b _<|un.frzs b l _ k).1;let h:=z.at_ _ p;rw[e]at h;cases h;exact⟨_,this⟩
  .exact un.slot b o e (by rw[bz a];exact n) g f
 .by_cases a:b∈fz.map (·.1)
  .exact gN a
  .rw[bo a];exact un.free b o e (by rw[bz a];exact n) f
 .let a:=out e;rw[bo a];exact un.tups b r (by rw[bz a];exact e)
 .let a:=out e;rw[bo a];exact un.frzs b o t (by rw[bz a];exact e)
 .let a:=out e;rw[bo a];calc un.tbls b v (by rw[bz a];exact e)
section
variable{ps:L0 Str}{sp:Sp}
end
abbrev T3a(a:Type):=Int×Int×a
def Fm(L:Type):Nat->Type
 |0=>L
 |n+1=>List<|Int×Int×Fm L n
def Fm.dec{L:Type} [d:DecidableEq L]:(n:Nat)->DecidableEq (Fm L n)
 |0=>d
 |n+1=>have:=Fm.dec (L:=L) n;(inferInstance:DecidableEq (List<|Int×Int×Fm L n))
instance {L:Type} [DecidableEq L] (n:Nat):DecidableEq (Fm L n):=Fm.dec n
section
variable{α:Type}
def cA [DecidableEq α] (f:L0 (T3a α))(t:T3a α):L0 (T3a α):=match f.getLast? with
 |some l=>if l.2.2=t.2.2 then f.dropLast++[(l.1,t.2.1,t.2.2)]else f++[t]
 |none=>f++[t]
def gj [DecidableEq α] (ts:L0 (T3a α)):L0 (T3a α):=ts.foldl cA []
def Ch3:L0 (T3a α)->Int->Int->Prop
 | [],lo,hi=>lo=hi+1
 |t :: r,lo,hi=>t.1=lo/\lo<=t.2.1/\Ch3 r (t.2.1+1) hi
theorem Ch3.snoc{t:T3a α}:∀{f:L0 (T3a α)}{lo mid:Int},Ch3 f lo mid->t.1=mid+1->t.1<=t.2.1->Ch3 (f++[t]) lo t.2.1
 | [],lo,mid,h,e,l=>⟨by rw[e];exact h.symm,by have:lo=mid+1:=h;lia,U⟩
 |u :: f,lo,mid,h,e,l=>⟨h.1,h.2.1,Ch3.snoc (f:=f) h.2.2 e l⟩
theorem Ch3.unsnoc{t:T3a α}:∀{f:L0 (T3a α)}{lo hi:Int},Ch3 (f++[t]) lo hi->t.2.1=hi/\t.1<=t.2.1/\Ch3 f lo (t.1-1)
 | [],lo,hi,h=>⟨by have:t.2.1+1=hi+1:=h.2.2;lia,by have:=h.1;let:=h.2.1;lia,by show lo=t.1-1+1;let:=h.1;lia⟩
 |u :: f,lo,hi,h=>let ⟨a,b,c⟩:=Ch3.unsnoc (f:=f) h.2.2;⟨a,b,h.1,h.2.1,c⟩
def Nbx(ys:L0 α):Prop:=∀(i:Nat)(a b:α),ys[i]?=LH a->ys[i+1]?=LH b->a≠b
theorem Nbx.snoc{ys:L0 α}{y:α}(h:Nbx ys)(e:∀l,ys.getLast?=LH l->l≠y):Nbx (ys++[y]):=λi a b d c=>by
 let hi:=(Ik.mp c).1;simp only[dV,ie]at hi;by_cases g:i+1<⇑ys
 .rw[iQ ∅]at d;rw[iQ g]at c;exact h i a b d c
 .let f:i+1=⇑ys:=∅
  rw[iQ ∅]at d;rw[f]at c;simp at c;subst c;calc e a ?_;rw[List.getLast?_eq_getElem?];rw[show ⇑ys-1=i by lia];calc d
def vAt(f:L0 (T3a α))(c:Int):Option α:=(f.find? λt=>decide<|c<=t.2.1).map (·.2.2)
theorem iE(f g:L0 (T3a α))(c:Int):vAt (f++g) c=(vAt f c).or (vAt g c):=by
 unfold vAt;rw[List.find?_append];cases f.find? _ <;> rfl
theorem pN(t:T3a α)(c:Int):vAt [t] c=if c<=t.2.1 then LH t.2.2 else none:=by
 unfold vAt;by_cases h:c<=t.2.1 <;> simp[h]
structure wx(ts f:L0 (T3a α))(lo hi:Int):Prop where
 ch:Ch3 f lo hi
 nb:Nbx (f.map (·.2.2))
 va:∀c,vAt f c=vAt ts c
 mem:∀t∈f,∃t'∈ts,t'.2.2=t.2.2
 ne:ts≠[]->f≠[]
theorem wx.step [DecidableEq α] {ts f:L0 (T3a α)}{lo mid:Int}{t:T3a α}(h:wx ts f lo mid)(e:t.1=mid+1)(l:t.1<=t.2.1):wx (ts++[t]) (cA f t) lo t.2.1:=by
 rcases List.eq_nil_or_concat f with j|⟨g,u,j⟩
 .subst j;let:cA [] t=[t]:=rfl;rw[this];refine⟨Ch3.snoc (f:=[]) h.ch e l,λi a b y p=>by simp at p,λc=>?_,λv d=>⟨t,by simp,by rw[fc.mp d]⟩,λ_=>by simp⟩;rw[iE,←h.va c];rfl
 .rw[List.concat_eq_append]at j;subst j;let o:=h.ch.unsnoc;let s:(g++[u]).getLast?=LH u:=by simp
  unfold cA;rw[s];simp only;by_cases q:u.2.2=t.2.2
  .rw[LO q];let w:(g++[u]).dropLast=g:=by simp
   rw[w];let r:(g++[((u.1,t.2.1,t.2.2):T3a α)]).map (·.2.2)=(g++[u]).map (·.2.2):=by simp[q]
   refine⟨Ch3.snoc (t:=((u.1,t.2.1,t.2.2):T3a α)) o.2.2 (by show u.1=u.1-1+1;lia) (by show u.1<=t.2.1;lia),by rw[r];exact h.nb,λc=>?_,λv d=>?_,λ_=>by simp⟩
   .rw[iE ts,←h.va c,iE,iE,pN,pN,pN];show(vAt g c).or (if c<=t.2.1 then LH t.2.2 else LI)=((vAt g c).or (if c<=u.2.1 then LH u.2.2 else LI)).or (if c<=t.2.1 then LH t.2.2 else LI);cases vAt g c with
    |some x=>rfl
    |none =>
     by_cases n:c<=u.2.1
     .rw[LO n,LO ∅,q];rfl
     .rw[LN n];rfl
   .rcases hZ.mp d with d|d
    .let(k,a,b):=h.mem v<|jJ _ d;exact⟨k,jJ _ a,b⟩
    .rw[fc.mp d];exact⟨t,by simp,U⟩
  .rw[LN q];refine⟨h.ch.snoc e l,?_,λc=>?_,λv d=>?_,λ_=>by simp⟩
   .rw[gd];refine Nbx.snoc h.nb λz m=>?_
    rw[gd]at m;simp at m;rw[←m];exact q
   .rw[iE,iE ts,h.va c]
   .rcases hZ.mp d with d|d
    .let(k,a,b):=h.mem v d;exact⟨k,jJ _ a,b⟩
    .rw[fc.mp d];calc⟨t,by simp,U⟩
theorem rf [DecidableEq α]:∀{r ts f:L0 (T3a α)}{lo mid hi:Int},wx ts f lo mid->Ch3 r (mid+1) hi->wx (ts++r) (r.foldl cA f) lo hi
 | [],ts,f,lo,mid,hi,h,c=>by
  let:mid=hi:=by have:mid+1=hi+1:=c;lia
  subst this;rw[iP];exact h
 |t :: r,ts,f,lo,mid,hi,h,c=>by
  let:=rf (r:=r) (h.step c.1 (by have:=c.1;let:=c.2.1;lia)) c.2.2;rw[jn]at this;calc this
theorem fP [DecidableEq α] {ts:L0 (T3a α)}{lo hi:Int}(h:Ch3 ts lo hi):wx ts (gj ts) lo hi :=
 rf (ts:=[]) (f:=[]) (mid:=lo-1) ⟨by show lo=lo-1+1;lia,λi a b e d=>by simp at d,λ_=>U,λt c=>by simp at c,λz=>LP U z⟩ (by rw[show lo-1+1=lo by lia];exact h)
theorem Ch3.at:∀{f:L0 (T3a α)}{lo hi c:Int},Ch3 f lo hi->lo<=c->c<=hi->∃(j:Nat)(t:T3a α),f[j]?=LH t/\t.1<=c/\c<=t.2.1/\(∀(i:Nat)(u:T3a α),i<j->f[i]?=LH u->u.2.1<c)/\vAt f c=LH t.2.2
 | [],lo,hi,c,h,h1,h2=>by have:lo=hi+1:=h;lia
 |t :: r,lo,hi,c,h,h1,h2=>by
  by_cases q:c<=t.2.1
  .exact⟨0,t,U,by have:=h.1;lia,q,λi u hi=>LP hi<|zl i,by unfold vAt;rw[nK (~~~q)];rfl⟩
  .let(j,u,a,b,d,e,v):=Ch3.at (f:=r) h.2.2 (c:=c) ∅ h2;refine⟨j+1,u,~~~a,b,d,λi w hi g=>?_,by unfold vAt at v⊢;rw[nL (~~~q)];exact v⟩
   match i,g with
   |0,g=>cases g;lia
   |i+1,g=>calc e i w ∅ (~~~g)
end
def lay{L:Type} [DecidableEq L] (g:L0 Int->L):(cols:L0 (List<|Int×Int))->L0 Int->Fm L ⇑cols
 | [],ah=>g ah
 |c :: cs,ah=>gj<|c.map λp=>((p.1,p.2,lay g cs<|ah++[p.1]):T3a (Fm L ⇑cs))
def ShS{a:Type}(S:a->L0 (Int×Int)->Prop)(f:L0 (T3a a))(ps:L0 (Int×Int)):Prop:=∃p r,ps=p :: r/\f≠[]/\Ch3 f p.1 p.2/\Nbx (f.map (·.2.2))/\∀t∈f,S t.2.2 r
def cH{L:Type}:(n:Nat)->Fm L n->L0 (Int×Int)->Prop
 |0,_,ps=>ps=[]
 |n+1,f,ps=>ShS (cH n) f ps
def Aa:L0 (Int×Int)->Int->Int->Prop
 | [],lo,hi=>lo=hi+1
 |p :: r,lo,hi=>p.1=lo/\lo<=p.2/\Aa r (p.2+1) hi
theorem yr{a:Type}(F:Int×Int->a):∀{c:L0 (Int×Int)}{lo hi:Int},Aa c lo hi->Ch3 (c.map λp=>((p.1,p.2,F p):T3a a)) lo hi
 | [],lo,hi,h=>h
 |p :: r,lo,hi,h=>⟨h.1,h.2.1,yr F h.2.2⟩
inductive gD:L0 (List<|Int×Int)->L0 (Int×Int)->Prop
 |nil:gD [] []
 |cons {c:L0 (Int×Int)}{cs:L0 (List<|Int×Int)}{p:Int×Int}{ps:L0 (Int×Int)}:c≠[]->Aa c p.1 p.2->gD cs ps->gD (c :: cs) (p :: ps)
theorem kK{L:Type} [DecidableEq L] {g:L0 Int->L}{a:L0 (List<|Int×Int)}{ps:L0 (Int×Int)}(h:gD a ps):∀b:L0 Int,cH ⇑a (lay g a b) ps:=by
 induction h with
 |nil=>intro b;exact(rfl:([]:L0 (Int×Int))=[])
 | @cons c cs p ps hne hc _ ih =>
  intro b;let k:=fP<|yr (λq=>lay g cs<|b++[q.1]) hc;calc⟨p,ps,U,k.ne<|~~~hne,k.ch,k.nb,λt d=>?_⟩;let(i,f,e):=k.mem t d;let(q,_,rfl):=dy.mp f;rw[←e];calc ih _
def b9(col:L0 (Int×Int))(c:Int):Int:=((col.find? λp=>decide<|c<=p.2).map (·.1)).getD 0
theorem vb{a:Type}(F:Int×Int->a)(c:Int):∀col:L0 (Int×Int),vAt (col.map λp=>((p.1,p.2,F p):T3a a)) c=(col.find? λp=>decide<|c<=p.2).map F
 | []=>rfl
 |p :: r=>by
  unfold vAt;rw[jc];by_cases q:c<=p.2
  .rw[nK (~~~q),nK (~~~q)];rfl
  .rw[nL (~~~q),nL (~~~q)];calc vb F c r
inductive Tel{L:Type}:(n:Nat)->Fm L n->L0 Int->L->Prop
 |nil (x:L):Tel 0 x [] x
 |cons {n:Nat}{f:L0 (T3a<|Fm L n)}{c:Int}{cs:L0 Int}{x:L}{j:Nat}{t:T3a (Fm L n)}:f[j]?=LH t->c<=t.2.1->(∀(i:Nat)(u:T3a (Fm L n)),i<j->f[i]?=LH u->u.2.1<c)->Tel n t.2.2 cs x->Tel (n+1) f (c :: cs) x
inductive InB:L0 Int->L0 (Int×Int)->Prop
 |nil:InB [] []
 |cons {c:Int}{cs:L0 Int}{p:Int×Int}{ps:L0 (Int×Int)}:p.1<=c->c<=p.2->InB cs ps->InB (c :: cs) (p :: ps)
theorem jZ{L:Type} [DecidableEq L] {g:L0 Int->L}{a:L0 (List<|Int×Int)}{ps:L0 (Int×Int)}(h:gD a ps):∀(d b:L0 Int),InB b ps->Tel ⇑a (lay g a d) b (g<|d++List.zipWith b9 a b):=by
 induction h with
 |nil=>intro d b e;cases e;rw[List.zipWith_nil_left,iP];exact .nil _
 | @cons c a p ps hne hc _ ih =>
  intro d b e;cases e with
  | @cons x b _ _ h1 h2 e =>
   let k:=fP<|yr (λq=>lay g a<|d++[q.1]) hc;let(j,t,o,r,n,m,f):=k.ch.at h1 h2;rw[k.va,vb]at f;cases e6:c.find? (λp=>decide<|x<=p.2) with
   |none=>rw[e6]at f;cases f
   |some q =>
    rw[e6]at f;let l:lay g a (d++[q.1])=t.2.2:=Option.some.inj f;let i:b9 c x=q.1:=by unfold b9;rw[e6];rfl
    calc .cons o n m ?_;rw[←l,List.zipWith_cons_cons,i];let:=ih (d++[q.1]) b e;rw[jn]at this;calc this
def FmL{a:Type}(R:a->V->Prop)(H:Hp)(f:L0 (T3a a))(xs:L0 V):Prop:=⇑xs=⇑f/\∀(i:Nat)(t:T3a a),f[i]?=LH t->∃(r:HA)(u:V),xs[i]?=LH (.ref r)/\H r=LH (.tup [.int t.1,.int t.2.1,u])/\R t.2.2 u
def n9(K:W.Frag)(H:Hp):Prop:=∀(r:HA)(b a:L0 V),SqT K H r b->SqT K H r a->b=a
inductive eP(K:W.Frag)(H:Hp):Nat->V->V->Bool->Prop where
 |of {n:Nat}{x y:V}{b:Bool}(h:DEq K H n x y b):eP K H n x y b
 |ti {n:Nat}{a:HA}{xs:L0 V}{i:Int}(h:SqT K H a xs):eP K H n (.ref a) (.int i) LK
 |it {n:Nat}{a:HA}{xs:L0 V}{i:Int}(h:SqT K H a xs):eP K H n (.int i) (.ref a) LK
 |tup {n:Nat}{a b:HA}{xs ys:L0 V}{f:Nat->Bool}(ne:a≠b)(ha:SqT K H a xs)(hb:SqT K H b ys)(h:∀(j:Nat)(x y:V),xs[j]?=LH x->ys[j]?=LH y->eP K H n x y (f j)):eP K H (n+1) (.ref a) (.ref b) ((List.range<|min ⇑xs ⇑ys).all f && ⇑xs == ⇑ys)
theorem eP.mono{K:W.Frag}{H:Hp}{n m:Nat}{x y:V}{b:Bool}(e:eP K H n x y b)(h:n<=m):eP K H m x y b:=by
 induction e generalizing m with
 |of e=>exact .of (e.mono h)
 |ti e=>exact .ti e
 |it e=>exact .it e
 |tup ne d c _ a =>
  let(m,rfl):∃k,m=k+1:=⟨m-1,∅⟩;calc .tup ne d c λj x y g f=>a j x y g f ∅
theorem Fq(I:Inv X LM σ H s):n9 X.K H:=λr p m l k=>by
 let(c,h,j,_):=I.tuple l;let(a,f,i,_):=I.tuple k;let(o,e,_,n,d):=j;let(q,g,_,t,b):=i;rw[e]at g;cases g;rw[d]at b;injection b with b;let:c=a:= ~~~b
 rw[←this]at f;calc Vals.inj h f
theorem eP.at{n:Nat}{x y:V}{b:Bool}(e:eP X.K H n x y b)(I:Inv X LM σ H s):∀{A:Ip}{u v:Fe},A.units+n<Jw->RelV x u->RelV y v->SeqAt.EqAt A s u v b:=by
 induction e with
 |of e=>intro A u v l k g;exact e.at I l k g
 | @ti n a xs i h =>
  intro A u v l k g;cases (show u=Fe.ref a from k);let(t,rfl):=g;let(c,r,p,_):=I.tuple h;exact SeqAt.EqAt.tuple_int i t (show s.heap.IsTuple a c.toArray from p) ∅
 | @it n a xs i h =>
  intro A u v l k g;let(t,rfl):=k;cases (show v=Fe.ref a from g);let(c,r,p,_):=I.tuple h;exact SeqAt.EqAt.int_tuple i t (show s.heap.IsTuple a c.toArray from p) ∅
 | @tup n a b xs ys f ne ha hb h ih =>
  intro A u v l k g;cases (show u=Fe.ref a from k);cases (show v=Fe.ref b from g);let(c,r,p,_):=I.tuple ha;let(d,m,z,_):=I.tuple hb;let G:=⇑r;let F:=⇑m;let o:=SeqAt.RcAt.tuples (A:=A) (e:=f) (show s.heap.IsTuple a c.toArray from p) (show s.heap.IsTuple b d.toArray from z) ∅ (λj C B=>by
   let(x,E,w):=fD r C;let(y,D,q):=fD m B;exact ih j x y E D (by show A.units+1+n<Jw;lia) w q)
  rw[show c.toArray.size=⇑xs by simp only[cf];lia,show d.toArray.size=⇑ys by simp only[cf];lia]at o;calc SeqAt.EqAt.of_refs ne o
inductive ud(K:W.Frag)(neg:Bool)(x:V)(y:V)(H:Hp)(Q:VK):Prop
 |tt (a b:HA)(xs ys:L0 V)(_:x=.ref a)(_:y=.ref b)(_:SqT K H a xs)(_:SqT K H b ys)(f:Nat->Bool)(_:(∀(j:Nat)(x y:V),xs[j]?=LH x->ys[j]?=LH y->eP K H 60 x y (f j)))(_:Q (.bl (if neg then !((List.range<|min ⇑xs ⇑ys).all f && ⇑xs == ⇑ys) else(List.range<|min ⇑xs ⇑ys).all f && ⇑xs == ⇑ys)) H):ud K neg x y H Q
 |ti (a:HA)(xs:L0 V)(i:Int)(_:x=.ref a)(_:y=.int i)(_:SqT K H a xs)(_:Q (.bl neg) H):ud K neg x y H Q
 |it (a:HA)(xs:L0 V)(i:Int)(_:x=.int i)(_:y=.ref a)(_:SqT K H a xs)(_:Q (.bl neg) H):ud K neg x y H Q
theorem yt{LM:L0 (HA×Obj)}{σ:St}{H:Hp}{s:Iq}{A:Ip}{xs ys:L0 V}{a its':L0 Fe}{f:Nat->Bool}(I:Inv X LM σ H s)(h:A.units+60<Jw)(r:Vals xs a)(d:Vals ys its')
  (hf:∀(j:Nat)(x y:V),xs[j]?=LH x->ys[j]?=LH y->eP X.K H 60 x y (f j)):∀j (c:j<a.toArray.size)(b:j<its'.toArray.size),SeqAt.EqAt A s a.toArray[j] its'.toArray[j] (f j):=λj c b=>by
 let(x,k,g):=fD r c;let(y,i,e):=fD d b;calc(hf j x y k i).at I h g e
theorem Cv{k:Nat}(E:bI k X.A):OpR X (Jn .Eq) (ud X.K LK):=by
 intro LM s σ H x y v u Q I n m h;let L:=E.units;cases h with
 |tt a b o J j g d G f F q =>
  subst j g;cases (show v=Fe.ref a from n);cases (show u=Fe.ref b from m);let(c,r,p,_):=I.tuple d;let(l,z,B,_):=I.tuple G;let D:=⇑r;let C:=⇑z;refine SeqAt.eq_tupleAt (e:=f) (show s.heap.IsTuple a c.toArray from p) (show s.heap.IsTuple b l.toArray from B) ∅ (yt I (by show X.A.units+1+60<Jw;lia) r z F) ⟨.bl _,H,I,U,?_⟩;simp only[cf];rw[←D,←C];exact q
 |ti a o i j g d q =>
  subst j g;cases (show v=Fe.ref a from n);let(t,rfl):=m;let(c,r,p,_):=I.tuple d;exact SeqAt.RcAt.tuple_int i t (show s.heap.IsTuple a c.toArray from p) ∅ X.prog X.w X.xe _ ⟨.bl _,H,I,U,q⟩
 |it a o i j g d q =>
  subst j g;let(t,rfl):=n;cases (show u=Fe.ref a from m);let(c,r,p,_):=I.tuple d;calc SeqAt.RcAt.int_tuple i t (show s.heap.IsTuple a c.toArray from p) ∅ X.prog X.w X.xe _ ⟨.bl _,H,I,U,q⟩
def rFm(K:W.Frag):R2:=λx y H Q=>n9 K H->rEq x y H Q\/ud K LK x y H Q
structure Lfp(K:W.Frag)(L:Type) [DecidableEq L] where
 R:Hp->L->V->Prop
 mono:∀{H H':Hp}{x:L}{v:V},cm H H'->R H x v->R H' x v
 inj:∀{H:Hp}{x y:L}{v:V},n9 K H->R H x v->R H y v->x=y
 deq:∀{H:Hp}{x y:L}{u v:V},n9 K H->R H x u->R H y v->eP K H 2 u v (LL<|x=y)
 eq:∀{H:Hp}{x y:L}{u v:V}{Q:VK},n9 K H->R H x u->R H y v->Q (.bl<|LL<|x=y) H->rEq u v H Q\/ud K LK u v H Q
 ne:∀{H:Hp}{x y:L}{u v:V}{Q:VK},n9 K H->R H x u->R H y v->Q (.bl<|!LL (x=y)) H->rNe u v H Q\/ud K LJ u v H Q
def FmV{K:W.Frag}{L:Type} [DecidableEq L] (A:Lfp K L)(H:Hp):(n:Nat)->Fm L n->V->Prop
 |0,x,v=>A.R H x v
 |n+1,f,v=>∃(a:HA)(xs:L0 V),v=.ref a/\H a=LH (.tup xs)/\FmL (FmV A H n) H f xs
theorem FmL.mono{d:Type}{R g:d->V->Prop}{H H':Hp}{f:L0 (T3a d)}{xs:L0 V}(h:FmL R H f xs)(k:∀x u,R x u->g x u)(s:cm H H'):FmL g H' f xs:=⟨h.1,λi t e=>by
 let(r,u,a,b,c):=h.2 i t e;exact⟨r,u,a,s _ _ b,k _ _ c⟩⟩
theorem FmV.mono{K:W.Frag}{L:Type} [DecidableEq L] {A:Lfp K L}{H H':Hp}(s:cm H H'):∀{n:Nat}{f:Fm L n}{v:V},FmV A H n f v->FmV A H' n f v
 |0,_,_,h=>A.mono s h
 |n+1,_,_,h=>by
  let(a,xs,d,c,b):=h;calc⟨a,xs,d,s _ _ c,b.mono (λ_ _ q=>FmV.mono s q) s⟩
theorem FmL.nil{a:Type}{R:a->V->Prop}{H:Hp}:FmL R H [] []:=⟨U,λi t e=>by simp at e⟩
theorem FmL.snoc{d:Type}{R:d->V->Prop}{H:Hp}{f:L0 (T3a d)}{xs:L0 V}{t:T3a d}{r:HA}{u:V}(h:FmL R H f xs)(l:H r=LH (.tup [.int t.1,.int t.2.1,u]))(q:R t.2.2 u):FmL R H (f++[t]) (xs++[.ref r]):=by
 refine⟨by simp[h.1],λi v e=>?_⟩;by_cases hi:i<⇑f
 .rw[iQ hi]at e;let(k,j,a,b,c):=h.2 i v e;exact⟨k,j,by rw[iQ (by rw[h.1];exact hi)];exact a,b,c⟩
 .let g:i=⇑f:=by
   let:=(Ik.mp e).1;simp at this;lia
  subst g;simp at e;subst e;calc⟨r,u,by rw[←h.1];simp,l,q⟩
theorem FmL.init{g:Type}{R:g->V->Prop}{H:Hp}{f:L0 (T3a g)}{xs:L0 V}{t:T3a g}(h:FmL R H (f++[t]) xs):∃(ys:L0 V)(r:HA)(u:V),xs=ys++[.ref r]/\FmL R H f ys/\H r=LH (.tup [.int t.1,.int t.2.1,u])/\R t.2.2 u:=by
 let(r,u,a,b,c):=h.2 ⇑f t (by simp);let j:=h.1;rw[dV,ie]at j;rcases List.eq_nil_or_concat xs with d|⟨ys,y,d⟩
 .subst d;simp at j
 .rw[List.concat_eq_append]at d;subst d;let k:⇑ys=⇑f:= ~~~j
  rw[←k]at a;simp at a;subst a;calc⟨ys,r,u,U,⟨k,λi v e=>?_⟩,b,c⟩;let hi:=(Ik.mp e).1;let(n,m,l,p,o):=h.2 i v (by rw[iQ hi];exact e);rw[iQ ∅]at l;calc⟨n,m,l,p,o⟩
theorem FmL.inj{m:Type}{R:m->V->Prop}{H:Hp}{f g:L0 (T3a m)}{xs:L0 V}(k:∀x y u,R x u->R y u->x=y)(h:FmL R H f xs)(h':FmL R H g xs):f=g:=by
 refine tu λi=>?_
 cases e:f[i]? with
 |none =>
  let:⇑f<=i:=List.getElem?_eq_none_iff.mp e;rw[List.getElem?_eq_none_iff.mpr (by rw[←h'.1,h.1];exact this)]
 |some t =>
  let hi:=(Ik.mp e).1;let(j,n):∃j,g[i]?=LH j:=⟨_,Ij (l:=g) (i:=i) (by rw[←h'.1,h.1];exact hi)⟩;let(r,u,a,b,c):=h.2 i t e;let(B,v,p,d,o):=h'.2 i _ n;rw[a]at p;cases p;rw[b]at d;let(A,z,w):=t;let(E,D,C):=j;simp only at d c o;injection d with d;injection d with d;simp only[List.cons.injEq,V.int.injEq,and_true]at d;let(s,q,rfl):=d;rw[n,s,q,k _ _ _ c o]
theorem FmV.inj{K:W.Frag}{L:Type} [DecidableEq L] {A:Lfp K L}{H:Hp}(e:n9 K H):∀{n:Nat}{f g:Fm L n}{v:V},FmV A H n f v->FmV A H n g v->f=g
 |0,_,_,_,h,h'=>A.inj e h h'
 |n+1,_,_,_,h,h'=>by
  let(a,xs,l,k,j):=h;let(o,m,c,b,d):=h';rw[l]at c;cases c;rw[k]at b;cases b;calc FmL.inj (R:=FmV A H n) (λx y u q i=>FmV.inj e q i) j d
theorem FmL.deq{D:Type} [DecidableEq D] {R:D->V->Prop}{K:W.Frag}{H:Hp}{m:Nat}{f g:L0 (T3a D)}{xs ys:L0 V}(inj:∀x y u,R x u->R y u->x=y)(k:∀x y u v,R x u->R y v->eP K H m u v (LL<|x=y))
  (h:FmL R H f xs)(h':FmL R H g ys):(∀(j:Nat)(x y:V),xs[j]?=LH x->ys[j]?=LH y->eP K H (m+1) x y (LL<|f[j]?=g[j]?))/\((List.range<|min ⇑xs ⇑ys).all (λj=>decide<|f[j]?=g[j]?) && ⇑xs == ⇑ys)=LL (f=g):=by
 refine⟨λj x y l o=>?_,?_⟩
 .let S:j<⇑f:=by rw[←h.1];exact(Ik.mp l).1
  let F:j<⇑g:=by rw[←h'.1];exact(Ik.mp o).1
  let L:=Ij S;let J:=Ij F;let(r,u,a,b,c):=h.2 j _ L;let(P,G,M,p,E):=h'.2 j _ J;rw[l]at a;cases a;rw[o]at M;cases M;rw[L,J];generalize f[j]=t at *
  generalize g[j]=t' at *
  let(w,s,B):=t;let(A,z,C):=t';simp only at b p c E;by_cases I:r=P
  .subst I;rw[b]at p;injection p with p;injection p with p;simp only[List.cons.injEq,V.int.injEq,and_true]at p;let(O,N,rfl):=p;let:decide (LH (w,s,B)=LH (A,z,C))=true:=by rw[O,N,inj _ _ _ c E];simp
   rw[this];exact .of<|.same r
  .let d:=eP.tup (K:=K) (H:=H) (n:=m) (f:=λi=>match i with|0=>decide (w=A)|1=>decide (s=z)|_=>decide<|B=C) I (SqT.of b) (SqT.of p) λi x y l o=>?_
   .let e:((List.range<|min [V.int w,V.int s,u].length [V.int A,V.int z,G].length).all (λi=>match i with|0=>decide (w=A)|1=>decide (s=z)|_=>decide<|B=C) && [V.int w,V.int s,u].length == [V.int A,V.int z,G].length)=LL (LH (w,s,B)=LH (A,z,C)):=by
     show((List.range 3).all (λi=>match i with|0=>decide (w=A)|1=>decide (s=z)|_=>decide<|B=C) && LJ)=_;let:List.range 3=[0,1,2]:=rfl;rw[this];simp only[sx,List.all_nil,Bool.and_true,Option.some.injEq,Prod.mk.injEq,Bool.decide_and]
    rw[e]at d;exact d
   .match i,l,o with
    |0,l,o=>cases l;cases o;exact .of<|.flat U U
    |1,l,o=>cases l;cases o;exact .of<|.flat U U
    |2,l,o=>cases l;cases o;exact k _ _ _ _ c E
    |i+3,l,_=>simp at l
 .rw[h.1,h'.1];by_cases e:f=g
  .subst e;simp
  .rw[LR e];by_cases Q:⇑f=⇑g
   .rw[Bool.and_eq_false_iff];left
    refine DA.mpr λq=>e<|tu λi=>?_
    rw[jr]at q;by_cases hi:i<⇑f
    .exact LS<|q i<|iu.mpr ∅
    .rw[List.getElem?_eq_none_iff.mpr ∅,List.getElem?_eq_none_iff.mpr ∅]
   .simp[Q]
theorem FmV.deq{K:W.Frag}{L:Type} [DecidableEq L] {A:Lfp K L}{H:Hp}(j:n9 K H):∀{n:Nat}{f g:Fm L n}{u v:V},FmV A H n f u->FmV A H n g v->eP K H (2*n+2) u v (LL<|f=g)
 |0,f,g,_,_,h,h'=>A.deq j h h'
 |n+1,f,g,_,_,h,h'=>by
  let(a,xs,rfl,l,k):=h;let(b,r,rfl,c,i):=h';let(p,o):=FmL.deq (R:=FmV A H n) (K:=K) (m:=2*n+2) (λx y u q d=>FmV.inj j q d) (λx y u v q d=>FmV.deq j q d) k i;by_cases e:a=b
  .subst e;rw[l]at c;cases c;let:f=g:=FmL.inj (R:=FmV A H n) (λx y u q d=>FmV.inj j q d) k i;rw[LQ this];exact .of<|.same a
  .let:=eP.tup e (SqT.of l) (SqT.of c) p;rw[o]at this;calc this
def wz{f:Fe->Fe->Sem Fe}{r e:R2}(a:OpR X f r)(b:OpR X f e):OpR X f (λx y H Q=>r x y H Q\/e x y H Q):=λLM s σ H x y v u Q I d c h=>h.elim (a LM s σ H x y v u Q I d c)<|b LM s σ H x y v u Q I d c
def Cw{k:Nat}(c:bI k X.A):OpR X (Jn .Eq) (rFm X.K):=λLM s σ H x y v u Q I b a h=>wz cP (Cv c) LM s σ H x y v u Q I b a<|h<|Fq I
theorem FmV.eq_to{K:W.Frag}{L:Type} [DecidableEq L] {A:Lfp K L}{H:Hp}{Q:VK}:∀{n:Nat}{f g:Fm L n}{u v:V},n<=20->FmV A H n f u->FmV A H n g v->Q (.bl<|LL<|f=g) H->rFm K u v H Q
 |0,f,g,_,_,_,h,h',q=>λc=>A.eq c h h' q
 |n+1,f,g,_,_,hn,h,h',q=>λc=>by
  let(a,xs,rfl,o,l):=h;let(b,k,rfl,i,e):=h';let(t,s):=FmL.deq (R:=FmV A H n) (K:=K) (m:=2*n+2) (λx y u q d=>FmV.inj c q d) (λx y u v q d=>FmV.deq c q d) l e;calc .inr <| .tt a b xs k U U (SqT.of o) (SqT.of i) _ (λj x y r p=>(t j x y r p).mono ∅) ?_;rw[LN ⋯,s];calc q
theorem yu(x y:Int):decide (V.int x=V.int y)=LL (x=y):=by
 by_cases e:x=y
 .rw[LQ e,e];simp
 .rw[LR e];calc LR λz=>e<|V.int.inj z
theorem yv(x y:Int):eqV (.int x) (.int y)=LL (x=y):=by
 show((x:Int) == (y:Int))=LL (x=y);by_cases e:x=y
 .rw[LQ e,e];simp
 .rw[LR e];calc beq_eq_false_iff_ne.mpr e
def ue{K:W.Frag}:Lfp K Int where
 R _ x v:=v=.int x
 mono _ h:=h
 inj _ h h':=V.int.inj (h.symm.trans h')
 deq {H x y u v} _ h h':=by
  cases h;cases h';rw[←yv];exact .of (.flat U U)
 eq {H x y u v Q} _ h h' q:=by
  cases h;cases h';calc .inl ⟨U,?_⟩;rw[yu];exact q
 ne {H x y u v Q} _ h h' q:=by
  cases h;cases h';calc .inl ⟨U,?_⟩;rw[yu];calc q
abbrev SI2:=Str×Int
def tp2(p:SI2):L0 V:=[.str p.1,.int p.2]
theorem Ab{p q:SI2}(h:tp2 p=tp2 q):p=q:=by
 injection h with b a;injection a with a c;calc Prod.ext (V.str.inj b)<|V.int.inj a
def Vd(K:W.Frag)(H:Hp)(r:HA)(x:SI2):Prop:=H r=LH (.tup<|tp2 x)\/ModT K r (tp2 x)
theorem Vd.sq{K:W.Frag}{H:Hp}{r:HA}{x:SI2}(h:Vd K H r x):SqT K H r (tp2 x):=h.elim (λh=>SqT.of h) λh=>h.sq H
def Vd.mono{K:W.Frag}{H H':Hp}{r:HA}{x:SI2}(s:cm H H')(h:Vd K H r x):Vd K H' r x:=h.imp (λh=>s _ _ h) id
def Vd.inj{K:W.Frag}{H:Hp}{r:HA}{x y:SI2}(a:n9 K H)(h:Vd K H r x)(h':Vd K H r y):x=y:=Ab<|a r _ _ h.sq h'.sq
theorem Cy(x y:Str):eqV (.str x) (.str y)=LL (x=y):=by show(x == y)=_;rw[Bool.eq_iff_iff];simp
def fSI(x y:SI2)(j:Nat):Bool:=if j=0 then decide (x.1=y.1)else decide (x.2=y.2)
theorem pO(x y:SI2):((List.range<|min ⇑(tp2 x) ⇑(tp2 y)).all (fSI x y) && ⇑(tp2 x) == ⇑(tp2 y))=LL (x=y):=by
 show((List.range 2).all (fSI x y) && (2 == 2:Bool))=_;let(d,c):=x;let(b,a):=y;unfold fSI;by_cases f:d=b <;> by_cases e:c=a <;> simp[nP,f,e]
theorem uf{K:W.Frag}{H:Hp}{n:Nat}{x y:SI2}(j:Nat)(u v:V)(a:(tp2 x)[j]?=LH u)(b:(tp2 y)[j]?=LH v):eP K H n u v (fSI x y j):=by
 match j,a,b with
 |0,a,b =>
  cases a;cases b;show eP K H n _ _ (LL<|x.1=y.1);rw[←Cy];exact .of<|.flat U U
 |1,a,b =>
  cases a;cases b;show eP K H n _ _ (LL<|x.2=y.2);rw[←yv];exact .of<|.flat U U
 |j+2,a,_=>simp[tp2]at a
theorem Vd.deq{K:W.Frag}{H:Hp}{n:Nat}{a b:HA}{x y:SI2}(c:n9 K H)(h:Vd K H a x)(h':Vd K H b y):eP K H (n+1) (.ref a) (.ref b) (LL<|x=y):=by
 by_cases e:a=b
 .subst e;rw[LQ (Vd.inj c h h')];exact .of<|.same a
 .let:=eP.tup (n:=n) e h.sq h'.sq (f:=fSI x y) uf;rw[pO]at this;calc this
def LVd{K:W.Frag}:Lfp K SI2 where
 R H x v:=∃r,v=.ref r/\Vd K H r x
 mono s:=λ⟨r,e,h⟩=>⟨r,e,h.mono s⟩
 inj {H x y v} hT h a:=by
  let(r,rfl,h):=h;let(b,e,a):=a;cases e;exact Vd.inj hT h a
 deq {H x y u v} hT h a:=by
  let(r,rfl,h):=h;let(b,rfl,a):=a;exact Vd.deq (n:=1) hT h a
 eq {H x y u v Q} hT h a q:=by
  let(r,rfl,h):=h;let(b,rfl,a):=a;calc .inr<|.tt r b _ _ U U h.sq a.sq (fSI x y) uf ?_;rw[LN ⋯,pO];exact q
 ne {H x y u v Q} hT h a q:=by
  let(r,rfl,h):=h;let(b,rfl,a):=a;calc .inr<|.tt r b _ _ U U h.sq a.sq (fSI x y) uf ?_;rw[LO U,pO];calc q
theorem o8(p:Pos)(a b:Int)(c:Fe):∀(l:L0 Fe),TriplesOk l->LF p (l++[I0 a,I0 b,c])=(LF p l).or (LF p [I0 a,I0 b,c])
 | [],_=>rfl
 | .int x t :: .int y u :: d :: rest,h=>by
  let e:=o8 p a b c rest h;show LF p (.int x t :: .int y u :: d :: (rest++[I0 a,I0 b,c]))=_;rw[LF,LF];split
  .rfl
  .exact e
def dh(H:Hp)(P:HA)(L:L0 (Pos×Str)):Prop:=∃a,H P=LH (.tbl a)/\TriplesOk a.toList/\∀p∈L,LF p.1 a.toList=LI\/∃(c:HA)(b:Obj),LF p.1 a.toList=LH (.ref c)/\H c=LH (.frz b TTh)/\q9 b p.2
theorem dh.same{H H':Hp}{P:HA}{L:L0 (Pos×Str)}(h:dh H P L)(s:ak H H'):dh H' P L:=by
 let(e,j,i,g):=h;calc⟨e,s _ _ j,i,λp f=>(g p f).imp id λ⟨c,o,a,b,d⟩=>⟨c,o,a,s _ _ b,d⟩⟩
def dh.new{H:Hp}{P:HA}{L:L0 (Pos×Str)}(h:H P=LH (.tbl #[])):dh H P L:=⟨#[],h,trivial,λ_ _=>.inl U⟩
def Fs(P:HA)(pos:Pos)(qual:Str)(mk:Fe->HA->Fe->Obj)(clos:L0 (Str×HA)):TE:=λ_ H Q=>∃L,(pos,qual)∈L/\(∀p∈L,p.1.line=pos.line->p.1.col=pos.col->p.2=qual)/\dh H P L /\
 ∀(f g:HA)(e:Obj)(h d:Fe)(c:Hp),H f=LI->(∀b o,b≠P->H b=LH o->c b=LH o)->c f=LH (.frz (mk h g d) TTh)->c g=LH (.frz e TTh)->q9 e qual->dh c P L->(∀x y a,clos.lookup x=LH a->clos.lookup y=LH a->x=y)->Q (.ref f) c
theorem yw{params:JH}{body:Iz}{scope:Ir}{pos:Pos}{c P:HA}{clos:L0 (Str×HA)}(Bi:X.env.code=.ref c)
  (C:W.CodeHd X.base c P)(hb:X.base.BuiltinsAt X.mg P)(Z:JY scope X.env=pure clos)(V:∀p∈clos,X.env.cells.lookup p.1=LH p.2)(DR:defaultsOf params X.env=([],[]):=by rfl) :
  PE X (.Lambda params body scope pos) (Fs P pos (X.env.qual ++ "<lambda>") (λpm c' ctv=>W.kla_obj "<lambda>" (X.env.qual ++ "<lambda>") params body scope clos pm c' ctv) clos):=by
 intro LM s σ H Q I h;let(L,hL,b3,(A,B,R,K),k):=h;let E:s.heap.get? P=LH (W.tabObj A):=I.hok P _ B;let M:s.heap.Ns Ia X.mg:=I.mod.glob.keeps I.bk;let b0:Ia≠P:=λq=>by
  let(o,es,ep,e,O,_):=M;rw[q,E]at e;cases e;cases O
 let inj:∀x y a,clos.lookup x=LH a->clos.lookup y=LH a->x=y:=λx y a G h2=>I.ok.inj x y a (V _<|mem_of_lookup G)<|V _<|mem_of_lookup h2
 rcases K _ hL with a9|⟨c',l,hf,N,D⟩
 .refine W.kla_eval DR<|W.kla_makeFunction Z I.ok.glob M Bi (C.keeps I.bk) E R a9 b0 (hb.keeps I.bk) λc' ctv g tk a7 m T Ft S=>?_;let(b4,l,vs,t,e2,a8,b1,hv):=Ft;cases e2;let Y:∀b,↥s<=b->H b=none:=λb f=>I.hok.fresh f
  let a0:P<↥s:=HB.lt_size E;let a6:c'≠P:=λz=>by rw[z]at m;exact LP a0<|Nat.not_lt.mpr m
  let i:↥s<=g.objs.size:=xc m<|zb T;let a5:g.objs.size≠P:=λz=>by rw[z]at i;exact LP a0<|Nat.not_lt.mpr i
  let a4:g.objs.size≠c':=xa T;let r:=Y _ i;let N:=Y _ m;let j:∀{b:HA}{u:HO},b≠P->H b=LH u->upd (upd (upd H P<|.tbl<|A ++ #[I0 pos.line,I0 pos.col,.ref c']) c'<|.frz l TTh) g.objs.size (.frz (W.kla_obj "<lambda>" (X.env.qual ++ "<lambda>") params body scope clos ((X.mg "__name__").getD .none) c' ctv) TTh) b=LH u:=λ{b u} f e=>by
   rw[av (aZ e r),av<|aZ e N,av f];exact e
  let a2:upd (upd (upd H P<|.tbl<|A ++ #[I0 pos.line,I0 pos.col,.ref c']) c'<|.frz l TTh) g.objs.size (.frz (W.kla_obj "<lambda>" (X.env.qual ++ "<lambda>") params body scope clos ((X.mg "__name__").getD .none) c' ctv) TTh) P=LH (.tbl<|A ++ #[I0 pos.line,I0 pos.col,.ref c']):=by
   rw[av a5.symm,av a6.symm,ae]
  let J:∀{b:HA},H b=LI->b≠P:=λe z=>by rw[z,B]at e;cases e
  let keep:∀b o,b≠P->s.heap.get? b=LH o->(g.push<|W.kla_obj "<lambda>" (X.env.qual ++ "<lambda>") params body scope clos ((X.mg "__name__").getD .none) c' ctv).get? b=LH o:=λb o f e=>HB.get?_push_of_some _<|a7 b o f e
  let un:Un X.fs [] H (upd (upd (upd H P<|.tbl<|A ++ #[I0 pos.line,I0 pos.col,.ref c']) c'<|.frz l TTh) g.objs.size<|.frz (W.kla_obj "<lambda>" (X.env.qual ++ "<lambda>") params body scope clos ((X.mg "__name__").getD .none) c' ctv) TTh) s.heap (g.push<|W.kla_obj "<lambda>" (X.env.qual ++ "<lambda>") params body scope clos ((X.mg "__name__").getD .none) c' ctv):=by
   refine⟨λb o e n _ _=>keep b o (J n) e,λb o e n _ _=>⟨o.slots,keep b o (J n) e⟩,λb o e n _=>?_,λb o e _=>?_,λb xs e=>j (λz=>by rw[z,B]at e;cases e) e,λb o u e=>j (λz=>by rw[z,B]at e;cases e) e,λb a3 e=>?_⟩
   .let f:=HB.lt_size e;rw[av (wY<|w6 f i),av<|wY<|w6 f m,av (J n)];exact n
   .by_cases f:b=P
    .subst f;exact⟨_,HB.get?_push_of_some _ S⟩
    .exact⟨o,keep b o f e⟩
   .by_cases f:b=P
    .subst f;rw[B]at e;cases e;exact⟨_,a2⟩
    .exact⟨#[],by rw[j f e];simp⟩
  let hok:HOk X.prog X.w (upd (upd (upd H P<|.tbl<|A ++ #[I0 pos.line,I0 pos.col,.ref c']) c'<|.frz l TTh) g.objs.size<|.frz (W.kla_obj "<lambda>" (X.env.qual ++ "<lambda>") params body scope clos ((X.mg "__name__").getD .none) c' ctv) TTh) (g.push<|W.kla_obj "<lambda>" (X.env.qual ++ "<lambda>") params body scope clos ((X.mg "__name__").getD .none) c' ctv):=λb u e=>by
   by_cases G:b=g.objs.size
   .subst G;rw[ae]at e;cases e;exact q8<|HB.get?_push_size _ U
   rw[av G]at e;by_cases h2:b=c'
   .subst h2;rw[ae]at e;cases e;exact q8<|HB.get?_push_of_some _ a8
   rw[av h2]at e;by_cases h3:b=P
   .subst h3;rw[ae]at e;cases e;exact HB.get?_push_of_some _ S
   rw[av h3]at e;refine(I.hok b u e).stay (λd v O q=>keep d v ?_ q) (λd q=>j (λz=>by rw[z,B]at q;cases q) q) λd xs q=>j (λz=>by rw[z,B]at q;cases q) q
   rcases O with rfl|O
   .exact h3
   .exact λz=>by rw[z,B]at O;cases O
  let I2:=I.un (t':=tk) un hok;let D:q9 l (X.env.qual ++ "<lambda>"):=⟨vs,t,b1,hv⟩;let a1:upd (upd (upd H P<|.tbl<|A ++ #[I0 pos.line,I0 pos.col,.ref c']) c'<|.frz l TTh) g.objs.size (.frz (W.kla_obj "<lambda>" (X.env.qual ++ "<lambda>") params body scope clos ((X.mg "__name__").getD .none) c' ctv) TTh) c'=LH (.frz l TTh):=(av a4.symm).trans ae;refine⟨.ref g.objs.size,_,I2,U,k _ c' l _ ctv _ r (λb o f e=>j f e) ae a1 D ⟨_,a2,?_,λp hp=>?_⟩ inj⟩
  .rw[BZ];exact TriplesOk_snoc _ _ _ _ R
  .rw[BZ];show LF p.1 (A.toList++[I0 pos.line,I0 pos.col,.ref c'])=LI\/∃(d:HA)(l:Obj),LF p.1 (A.toList++[I0 pos.line,I0 pos.col,.ref c'])=LH (.ref d)/\_;rw[o8 _ _ _ _ _ R];rcases K p hp with q|⟨d,od,q1,q2,q3⟩
   .rw[q];show LF p.1 [I0 pos.line,I0 pos.col,.ref c']=LI\/∃(d:HA)(l:Obj),LF p.1 [I0 pos.line,I0 pos.col,.ref c']=LH (.ref d)/\_;by_cases e:p.1.line=pos.line/\p.1.col=pos.col
    .let e3:LF p.1 [I0 pos.line,I0 pos.col,.ref c']=LH (.ref c'):=by
      show(if ((pos.line:Int) == (p.1.line:Int) && (pos.col:Int) == (p.1.col:Int))=LJ then LH (Fe.ref c')else LI)=_;rw[e.1,e.2];simp
     exact .inr ⟨c',l,e3,a1,by rw[b3 p hp e.1 e.2];exact D⟩
    .left
     show(if ((pos.line:Int) == (p.1.line:Int) && (pos.col:Int) == (p.1.col:Int))=LJ then LH (Fe.ref c')else LI)=LI;rw[LN λz=>e ?_];rw[Dx,beq_iff_eq,beq_iff_eq]at z;lia
   .exact .inr ⟨d,od,by rw[q1];rfl,j (λz=>by rw[z,B]at q2;cases q2) q2,q3⟩
 .refine W.kla_eval DR<|W.kla_makeFunctionHit Z I.ok.glob M Bi (C.keeps I.bk) E R hf (hb.keeps I.bk) λctv g tk kp i=>?_;let r:H g.objs.size=none:=I.hok.fresh i;let F:ak H (upd H g.objs.size<|.frz (W.kla_obj "<lambda>" (X.env.qual ++ "<lambda>") params body scope clos ((X.mg "__name__").getD .none) c' ctv) TTh):=ag r _;let keep:∀b o,s.heap.get? b=LH o->(g.push<|W.kla_obj "<lambda>" (X.env.qual ++ "<lambda>") params body scope clos ((X.mg "__name__").getD .none) c' ctv).get? b=LH o:=λb o e=>HB.get?_push_of_some _<|kp b o e
  let un:Un X.fs [] H (upd H g.objs.size<|.frz (W.kla_obj "<lambda>" (X.env.qual ++ "<lambda>") params body scope clos ((X.mg "__name__").getD .none) c' ctv) TTh) s.heap (g.push<|W.kla_obj "<lambda>" (X.env.qual ++ "<lambda>") params body scope clos ((X.mg "__name__").getD .none) c' ctv):=by
   refine⟨λb o e n _ _=>keep b o e,λb o e n _ _=>⟨o.slots,keep b o e⟩,λb o e n _=>?_,λb o e _=>⟨o,keep b o e⟩,λb xs e=>F _ _ e,λb o u e=>F _ _ e,λb a3 e=>⟨#[],by rw[F _ _ e];simp⟩⟩;let f:=HB.lt_size e;rw[av (wY<|w6 f i)];exact n
  let hok:HOk X.prog X.w (upd H g.objs.size<|.frz (W.kla_obj "<lambda>" (X.env.qual ++ "<lambda>") params body scope clos ((X.mg "__name__").getD .none) c' ctv) TTh) (g.push<|W.kla_obj "<lambda>" (X.env.qual ++ "<lambda>") params body scope clos ((X.mg "__name__").getD .none) c' ctv):=λb u e=>by
   by_cases G:b=g.objs.size
   .subst G;rw[ae]at e;cases e;exact q8<|HB.get?_push_size _ U
   rw[av G]at e;exact(I.hok b u e).stay (λd v _ q=>keep d v q) (λd q=>F _ _ q) λd xs q=>F _ _ q
  let I2:=I.un (t':=tk) un hok;calc⟨.ref g.objs.size,_,I2,U,k _ c' l _ ctv _ r (λb o _ e=>F _ _ e) ae (F _ _ N) D (dh.same ⟨A,B,R,K⟩ F) inj⟩
theorem Cz{CX:CXT}{P:Fw}{w:Fn}{K:W.Frag}{mg:Str->Option Fe}{base:HB}{k:Nat}{f c':HA}{name qual:Str}{params:JH}{body:Iz}{scope:Ir}{cl:L0 (Str×HA)}{pm ctv:Fe}{N ps:L0 Str}{sp:Sp}
  (S:pM N ps scope cl)(inj:∀x y c,cl.lookup x=LH c->cl.lookup y=LH c->x=y)
  (len:∀vs H Q E,sp vs H Q E->⇑vs=⇑ps)
  (eL:∀(A:Ip)(g:L0 Env)(s:Iq)(H:Hp)(vs:L0 V)(Q:VK)(E:XK),bI k (A.deeper<|W.envX qual scope ↥s f (.ref c') cl)->sp vs H Q E ->
   (∃M,H f=LH (.frz (W.kla_obj name qual params body scope cl pm c' ctv) TTh)/\H c'=LH (.frz M TTh)/\q9 M qual)/\∃ws,ft H cl ws/\(∀x∈N.drop ⇑ps,∀v,ws.lookup x=LH v->scope.names.lookup x=LH .free) /\
   ((∀c∈cl.map (·.2),base.get? c=LI/\c ∉ frs g)->∃t:TE,PE (cxC CX P w K mg base N qual scope f (.ref c') cl A g s H E) body t/\t (kG N ps vs ws) (hideL H (cl.map (·.2))) λv H'=>(∀c∈cl.map (·.2),H' c=LI)->Q v (backL H H' (cl.map (·.2))))) :
  aD P w K mg base CX (k+1) f (W.kla_fn name qual params body scope cl pm (.ref c') ctv) ps sp:=by
 calc⟨len,λA g s H a9 us vs Q E hr l hb r R=>?_⟩;let hl:=len _ _ _ _ R;let((M,ef,ec,a0,t',a7,a6),ws,Y,uC,DS):=eL A g s H vs Q E (hr.deeper _) R;let(t,ht,hq):=DS λc D=>by
  let(o,e):=Y.fzs c D;refine⟨?_,λz=>by rw[l.frf c z]at e;cases e⟩;cases eb:base.get? c with
  |none=>rfl
  |some ob=>rw[(l.bs c ob eb).2]at e;cases e
 let a2:s.heap.NoLimit:=l.mod.nolimit.keeps λb o e=>(l.bs b o e).1
 let eo:s.heap.get? f=LH (W.kla_obj name qual params body scope cl pm c' ctv):=(l.hok f _ ef).1;let a8:s.heap.get? c'=LH M:=(l.hok c' _ ec).1;let a3:⇑us=⇑ps:=by rw[←⇑r];exact hl
 let a1:ps.Nodup:=by rw[←S.pre];exact S.nd.sublist<|ux _ _
 let fz:=Y.fzs;let T:∀{x:Str}{c:HA},cl.lookup x=LH c->c∈cl.map (·.2):=λe=>mL e
 calc W.kla_callFunE hr.depth eo U S.co S.gen U ⟨c',M,a0,t',U,a8,a7,a6⟩<|hb _ _ _ _ ?_;calc Ke S.nocell (λx n=>S.par x.1 (uw n).1) (λB a5 a4=>?_) S.kind;let j:∀b o,s.heap.get? b=LH o->B.get? b=LH o:=λb o e=>a4.extBut b o (wY<|HB.lt_size e)<|HB.get?_push_of_some _ e
 calc⟨a2.keeps j,W.kla_codeExpr ?_⟩;let G:∀{b:HA},H b=LI->hideL H (cl.map (·.2)) b=none:=λh=>dJ h
 let I:Inv (cxC CX P w K mg base N qual scope f (.ref c') cl A g s H E) [] (kG N ps vs ws) (hideL H (cl.map (·.2))) { s with heap:=B,toks:=s.toks+⇑(ps.zip us) }:=by
  let F:∀b:HA,b ∉ (cxC CX P w K mg base N qual scope f (.ref c') cl A g s H E).ex:=λb z=>LP (show b∈([]:L0 HA)from z) (by simp)
  refine⟨⟨l.mod,S.kind,U,U,wX _,λx y c L m=>inj x y c L m,λx n=>?_,λx c hf=>?_,λ_=>hr.hd,Ip.frames_deeper l.frames,.inr ⟨U,U⟩,λb z=>LP z<|F b,λb o e=>⟨(l.bs b o e).1,G (l.bs b o e).2⟩,l.bsz,λb _ _=>F b,λb z=>LP z<|F b,l.funs,λb hb=>G<|l.frf b hb⟩,
   rfl,l.bare,Un.kept j,⟨_,a5,λi x v L m h3=>?_⟩,λx c h=>?_,G<|l.hok.fresh<|wX _,λx c h=>gN<|T h,λp Z=>LP (show p∈([]:L0 (HA×Obj))from Z) (by simp),(l.hok.hideL fz).kept j,?_⟩
  .let n:scope.names.lookup x=LH .cell\/scope.names.lookup x=LH .free:=n;rcases n with n|n
   .exact LP U<|S.nocell _<|mem_of_lookup n
   .exact S.has _ (mem_of_lookup n) U
  .exact LP (show LK=LJ from hf) Bool.false_ne_true
  .let L:N[i]?=LH x:=L;unfold kG at m;by_cases hi:i<⇑vs
   .rw[iQ (~~~hi),gM]at m;let ha:vs[i]?=LH v:=by
     cases e:vs[i]? with
     |none=>rw[e]at m;cases m
     |some a=>rw[e]at m;cases m;rfl
    let(u,hu,C):=r.get ha;let Z:ps[i]?=LH x:=by rw[←S.pre,List.getElem?_take_of_lt ∅];exact L
    exact⟨u,C,.inl ⟨S.par x<|Il Z,uc a1 Z hu a3⟩⟩
   .rw[js (~~~hi),gM,bc]at m;cases e:(N.drop ⇑ps)[i-⇑vs]? with
    |none=>rw[e]at m;cases m
    |some y =>
     rw[e]at m;let m:LH (ws.lookup y)=LH (LH v):=m;let m:=Option.some.inj m;let hy:y=x:=by
      rw[List.getElem?_drop,show ⇑ps+(i-⇑vs)=i by lia,L]at e;exact(Option.some.inj e).symm
     subst hy;let(c,o,u,e1,e2,e3,C):=Y.2 y v m;exact⟨u,C,.inr ⟨.inr<|uC y (Il e) v m,c,e1,o,j _ _ (l.hok c _ e2).1,e3⟩⟩
  .let(o,v,e,d):=Y.1 c<|T h;exact⟨v,o,j _ _ (l.hok c _ e).1,d⟩
  .unfold kG;show _=N.length;let b0:⇑ps<=N.length:=by have:=LU List.length S.pre;rw[iR]at this;lia
   rw[dV,bc,bc,sv];lia
 refine IE (ht [] _ (kG N ps vs ws) _ _ I hq) (λu X hs=>?_) λe X hs=>hs
 let fin:∀{O:St}{H':Hp}{v:V}{u:Fe},Inv (cxC CX P w K mg base N qual scope f (.ref c') cl A g s H E) [] O H' X->RelV v u->((∀c∈cl.map (·.2),H' c=LI)->Q v (backL H H' (cl.map (·.2))))->CE g P w H s Q u X:=λ{O H' v u} J C q=>by
  let un:Un (frs g) [] (hideL H (cl.map (·.2))) H' s.heap X.heap:=J.base;let nc:∀c∈cl.map (·.2),H' c=none:=λc D=>by
   let((x,d),hm,rfl):=dy.mp D;let(o,e):=fz d D;exact un.free d o (l.hok d _ e).1 (gN D) (by simp)
  calc⟨v,backL H H' (cl.map (·.2)),J.os,J.bare,un.backL fz,J.hok.backL fz nc λc D o e=>?_,C,q nc⟩;refine un.keep c o (l.hok c _ e).1 (gN D) (λz=>?_) (by simp);rw[l.frf c z]at e;cases e
 let(v,H',J,C,q):=hs;calc fin J C q
def Bj(st:ID)(k:Nat):Iz:=match st with
 | .Assign _ (.Call _ as _ _) _=>as.getD k<|.Name "" ⟨0,0,0,0⟩
 | .Return (LH<|.Call _ as _ _) _=>as.getD k<|.Name "" ⟨0,0,0,0⟩
 |_=>.Name "" ⟨0,0,0,0⟩
def pP(e:Iz):JH:=match e with
 | .Lambda a _ _ _=>a
 |_=>f7<|.Pass ⟨0,0,0,0⟩
def og(e:Iz):Iz:=match e with
 | .Lambda _ b _ _=>b
 |e=>e
def j0(e:Iz):Ir:=match e with
 | .Lambda _ _ s _=>s
 |_=>aj<|.Pass ⟨0,0,0,0⟩
def pQ(e:Iz):Pos:=match e with
 | .Lambda _ _ _ p=>p
 |_=>⟨0,0,0,0⟩
section
variable{mg:Str->Option Fe}
theorem yx{qual:Str}{ps:L0 Str}{e:Iz}{f c':HA}{cl:L0 (Str×HA)}{pm ctv:Fe}{N:L0 Str}{k:Nat}{sp:Sp}(S:pM N ps (j0 e) cl)(inj:∀x y c,cl.lookup x=LH c->cl.lookup y=LH c->x=y)
  (m:∀us:L0 Fe,⇑us=⇑ps->JA (W.kla_fn "<lambda>" qual (pP e) (og e) (j0 e) cl pm (.ref c') ctv) ⟨us,[]⟩=pure (ps.zip us))
  (len:∀vs H Q E,sp vs H Q E->⇑vs=⇑ps)
  (z:∀(A:Ip)(d:L0 Env)(s:Iq)(H:Hp)(vs:L0 V)(Q:VK)(E:XK),bI k (A.deeper<|W.envX qual (j0 e) ↥s f (.ref c') cl)->sp vs H Q E ->
   ∃ws,jb H f c' (W.kla_obj "<lambda>" qual (pP e) (og e) (j0 e) cl pm c' ctv) qual cl ws/\(∀y∈N.drop ⇑ps,∀v,ws.lookup y=LH v->(j0 e).names.lookup y=LH .free) /\
   ((∀c∈cl.map (·.2),base.get? c=LI/\c ∉ frs d)->∃t:TE,PE (cxC CX0 P w K mg base N qual (j0 e) f (.ref c') cl A d s H E).nox (og e) t/\t (kG N ps vs ws) (hideL H (cl.map (·.2))) λv H'=>(∀c∈cl.map (·.2),H' c=LI)->Q v (backL H H' (cl.map (·.2))))) :
  HFn P w K mg base (k+1) f sp:=by
 refine⟨_,ps,Cz (name := "<lambda>") (qual:=qual) (c':=c') (params:=pP e) (body:=og e) (pm:=pm) (ctv:=ctv) S inj len λA d s H vs Q E i g=>?_,.all λus j=>?_⟩
 .let(ws,(u,(h,r,q),p),o,n):=z A d s H vs Q E i g;calc⟨⟨h,u,r,q⟩,ws,p,o,λl=>?_⟩;let(t,a,b):=n l;exact⟨t,a.nox,b⟩
 .exact m us j
end
inductive TFn(K:W.Frag)(x:Str)(st:ID):Prop
 |mk {f c t:HA}{fd:Jy}(a:W.nsIn K Ia x=LH (LH<|.ref f))(F:Fun K x x st f fd)(hc:fd.code=.ref c)(ht:W.tabIn K x=LH (c,t))
def tfn_mk{K:W.Frag}{x:Str}{st:ID}{f c t:HA}{g kV doc pm n:Fe}{d p:Option HA}{b:Array (Option Fe)}{j:Fe}{i:Option HA}{vs:Array Fe}{h:Array (Option Fe)}(a:W.nsIn K Ia x=LH (LH<|.ref f))
  (l:K.lookup f=LH ⟨g,d,.func<|W.fnOf x x (f7 st) (cx st) (aj st) .none kV doc pm p (.ref c) n,b⟩)(o:W.codeIn K (.ref c) x=LJ)(m:W.keepIn K (.ref f)=LJ)(k:K.lookup c=LH ⟨j,i,.fields vs,h⟩)(e:vs[11]?=LH (.ref t)):TFn K x st :=
 ⟨a,fun_mk l o m,U,tab_mk a l k e⟩
theorem vc{K:W.Frag}{x:Str}{t:HA×HA}(h:t∈(W.tabIn K x).toList):W.tabIn K x=LH t:=by
 cases e:W.tabIn K x with
 |none=>rw[e]at h;cases h
 |some z=>rw[e]at h;rw[fc.mp h]
def tZE(zs:L0 (Str×Nat×HA))(sp:Sp)(E:XK)(t:TA):TE:=λσ H Q=>t σ H λd c=>∀a:L0 Obj,⇑a=⇑zs->(∀z∈zs,c z.2.2=LI) ->
 (∀(j:Nat)(z:Str×Nat×HA),zs[j]?=LH z->∃o w,a[j]?=LH o/\o.data=.cell w/\∀v,σ[z.2.1]?=LH (LH v)->∃u,w=LH u/\RelV v u) ->
 sp d (fO c ((zs.map (·.2.2)).zip a)) (λv b=>Q v (hideL b (zs.map (·.2.2)))) λe m b=>E e m (hideL b (zs.map (·.2.2)))
section
variable{mg:Str->Option Fe}{qual:Str}{f:HA}{cd:Fe}{outer:L0 Env}{s0:Iq}{H0:Hp}{E:XK}
theorem Fun.okTE{x qual:Str}{st:ID}{f c:HA}{b:Jy}{N ps:L0 Str}{k:Nat}{sp:Sp}(F:Fun K x qual st f b)(a:b.code=.ref c)(S:aq N ps (aj st))(d:∀vs H Q E,sp vs H Q E->⇑vs=⇑ps)
  (m:∀(A:Ip)(outer:L0 Env)(s:Iq)(H:Hp)(vs:L0 V)(Q:VK)(E:XK),bI k (A.deeper<|envOfC qual (aj st) ↥s f<|.ref c)->sp vs H Q E ->
   ∃t,PSs (cxE P w K mg base N qual (aj st) f (.ref c) A outer s H E) (cx st) t/\t { nx:=λ_ H'=>Q .non H',rt:=Q } (start N vs) H):aD P w K mg base (CX1 P w) (k+1) f b ps sp:=by
 let(u,r,kV,o,p,y,i,v,n,rfl,j,g):=F.ex;let a:i=.ref c:=a;subst a;refine xy j g S d λA outer s H vs Q E l e=>?_
 let(t,h,q):=m A outer s H vs Q E l e;calc⟨t,h.leaves,q⟩
theorem kI.passE{LM:L0 (HA×Obj)}{σ:St}{H:Hp}{s s':Iq}{g:Fe}{fz:L0 (HA×Obj)}(z:kI (cxE P w K mg base N qual scope f cd A outer s0 H0 E) s fz)(I:Inv (cxE P w K mg base N qual scope f cd A outer s0 H0 E) LM σ H s)
  (h:CX1 P w (cxE P w K mg base N qual scope f cd A outer s0 H0 E).stack (fO H fz) s (λo m r=>E o m (hideL r (fz.map (·.1)))) g s'):(cxE P w K mg base N qual scope f cd A outer s0 H0 E).xe g s':=by
 let(e,T,C,p,t,rfl,i,d,un,hok,x,ne,j,k,n,q):=h;let J:=(z.inv I i d un hok).unwish;let a:=(I.unwish).newAt U ne;let c:=(I.unwish).newAt U j;calc⟨e,C,p,[T],LM,σ,_,U,J,.fly x,λb l=>?_,q⟩;rcases bL.mp l with z|z
 .rw[z];exact⟨a.ent,dJ k,a.loc,a.cel,a.pin⟩
 .rw[show b=T by simpa using z];calc⟨c.ent,dJ n,c.loc,c.cel,c.pin⟩
theorem Ac{k:Nat}{x:Str}{ps:L0 Str}{sp:Sp}{e:Iz}{es:L0 Iz}{t:TA}{p pos:Pos}{zs:L0 (Str×Nat×HA)}(C:br P w K mg base k x ps sp)(S:bI k (cxE P w K mg base N qual scope f cd A outer s0 H0 E).A)(V:Gl (cxE P w K mg base N qual scope f cd A outer s0 H0 E) x)(X:PA (cxE P w K mg base N qual scope f cd A outer s0 H0 E) (e :: es) t)
  (hz:∀z∈zs,N[z.2.1]?=LH z.1/\((cxE P w K mg base N qual scope f cd A outer s0 H0 E).env.scope.names.lookup z.1=LH .cell\/(cxE P w K mg base N qual scope f cd A outer s0 H0 E).env.scope.names.lookup z.1=LH .free)/\(cxE P w K mg base N qual scope f cd A outer s0 H0 E).env.cells.lookup z.1=LH z.2.2/\((cxE P w K mg base N qual scope f cd A outer s0 H0 E).fn z.1=LJ\/(base.get? z.2.2=LI/\z.2.2 ∉ (cxE P w K mg base N qual scope f cd A outer s0 H0 E).fs)))
  (v:(x == ("__debug__" : Str))=false:=by decide) (he:IC (e :: es) (cxE P w K mg base N qual scope f cd A outer s0 H0 E).env=(LK,eval e (cxE P w K mg base N qual scope f cd A outer s0 H0 E).env) :: IC es (cxE P w K mg base N qual scope f cd A outer s0 H0 E).env:=by rfl)(l:(IB pos<|IC es (cxE P w K mg base N qual scope f cd A outer s0 H0 E).env).any (·.1)=false:=by rfl) :
  PE (cxE P w K mg base N qual scope f cd A outer s0 H0 E) (.Call (.Name x p) (e :: es) [] pos) (tZE zs sp E t):=by
 let(f',Z,F,b,R,m):=C;intro LM s σ H Q I h;calc Fd<|cY I V m ?_ v;calc W.callWith_K (h₀:=base) I.ok.mod.kin R (thn (X pos LM s σ H _ I h) λg i ⟨L,H1,a,r,q⟩=>⟨a.kIn,?_⟩) he l;let(B,J,G):=kJ a zs hz;let y:((zs.map (·.2.2)).zip B).map (·.1)=zs.map (·.2.2):=tw (by rw[bc];lia);let d:=yn a hz J G;let D:=q B J (λz T=>a.freeC z.1 _ (hz z T).2.2.1) λj z Y=>let ⟨o,w,a1,_,a3,a4⟩:=G j z Y;⟨o,w,a1,a3,a4⟩
 let n:⇑g=⇑ps:=by rw[←⇑r];exact F.len _ _ _ _ D
 refine JB (JC (F.run (cxE P w K mg base N qual scope f cd A outer s0 H0 E).A (cxE P w K mg base N qual scope f cd A outer s0 H0 E).stack i _ ⟨g,[]⟩ g L _ _ S (d.env0 a) (by have:=b i g a.kIn (by rw[iP];exact n);rw[iP]at this;exact this) r D) λO M c=>?_);cases O with
 |error ev =>
  calc d.passE a ?_;rw[y];exact c
 |ok fl =>
  cases fl with
  |ret u =>
   let c:CE (cxE P w K mg base N qual scope f cd A outer s0 H0 E).stack P w _ i _ u M:=c;calc d.after a ?_;rw[y];exact c
  |next=>exact False.elim c
  |brk=>exact False.elim c
  |cont=>calc False.elim c
end
theorem DT{P:Fw}{w:Fn}{K:W.Frag}{mg:Str->Option Fe}{base:HB}{k:Nat}{x:Str}{ps:L0 Str}{sp:Sp}{st:ID}(Z:Zb P w K mg base)(h:TFn K x st)(i:∀q∈(W.tabIn K x).toList,W.CodeHd base q.1 q.2/\base.BuiltinsAt mg q.2)
  (O:∀{f c t:HA}{d:Jy},Fun K x x st f d->d.code=.ref c->W.tabIn K x=LH (c,t)->W.CodeHd base c t/\base.BuiltinsAt mg t->aD P w K mg base (CX1 P w) k f d ps sp)
  (b:∀{f:HA}{d:Jy},Fun K x x st f d->Binds K d ps []:=by trivial):br P w K mg base k x ps sp:=by
 cases h with|mk a F j e=>calc⟨_,_,O F j e<|i _ (by rw[e];exact dn),b F,F.kp,Z.g a⟩
end _L
set_option Elab.async false
set_option maxRecDepth 100000
set_option linter.all false
namespace _M
open PySem _L
def top(i:Nat):ID:=PySem.Challenge.pw_rowjudge_k69_too_fine_too_many.main.body.getD i<|.Pass ⟨0,0,0,0⟩
abbrev Y39:ID:=top 12
abbrev Y35:ID:=top 13
abbrev Y68:ID:=top 14
abbrev Y38:ID:=top 17
abbrev Y34:ID:=top 18
abbrev Y31:ID:=top 19
abbrev Y53:ID:=top 20
abbrev Y32:ID:=top 21
abbrev Y56:ID:=top 22
abbrev Y30:ID:=top 23
abbrev Y37:ID:=top 24
abbrev Y29:ID:=top 29
abbrev Y41:ID:=top 30
abbrev Y40:ID:=top 31
abbrev Y75:ID:=top 45
abbrev Y61:ID:=top 50
abbrev Y60:ID:=top 51
abbrev Y63:ID:=top 52
abbrev Y62:ID:=top 53
abbrev Y58:ID:=top 54
abbrev Y36:ID:=top 55
abbrev Y57:ID:=top 56
abbrev Y42:ID:=top 57
abbrev Y73:ID:=top 58
abbrev Y76:ID:=top 59
abbrev Y69:ID:=top 61
abbrev Y70:ID:=top 62
abbrev Y33:ID:=top 63
abbrev s_row_form:ID:=top 64
abbrev s_verdict_form:ID:=top 65
abbrev Y72:ID:=top 66
abbrev Y65:ID:=top 68
abbrev Y66:ID:=top 69
abbrev Y67:ID:=top 70
abbrev Y59:ID:=top 71
abbrev Y43:ID:=top 73
abbrev Y55:ID:=top 74
abbrev Y71:ID:=top 76
abbrev Y44:ID:=top 77
abbrev Y54:ID:=top 78
abbrev Y46:ID:=top 80
abbrev Y51:ID:=top 81
abbrev Y50:ID:=top 82
abbrev Y52:ID:=top 83
abbrev Y48:ID:=top 84
abbrev Y49:ID:=top 85
abbrev Y47:ID:=top 86
abbrev Y16:ID:=inClass (top 49) 0
abbrev Y11:ID:=inClass (top 33) 0
abbrev Y0:ID:=inClass (top 32) 0
abbrev Y3:ID:=inClass (top 39) 0
abbrev Y17:ID:=inClass (top 38) 0
abbrev Y12:ID:=inClass (top 40) 0
abbrev Y21:ID:=inClass (top 38) 0
abbrev Y7:ID:=inClass (top 41) 0
abbrev Y19:ID:=inClass (top 38) 0
abbrev Y9:ID:=inClass (top 42) 0
abbrev Y20:ID:=inClass (top 38) 0
abbrev Y5:ID:=inClass (top 43) 0
abbrev Y18:ID:=inClass (top 38) 0
abbrev Y14:ID:=inClass (top 44) 0
abbrev Y22:ID:=inClass (top 38) 0
abbrev Y1:ID:=inClass (top 32) 5
abbrev Y2:ID:=inClass (top 32) 5
abbrev Y23:ID:=inClass (top 38) 1
abbrev Y4:ID:=inClass (top 39) 1
abbrev Y27:ID:=inClass (top 38) 1
abbrev Y13:ID:=inClass (top 40) 1
abbrev Y25:ID:=inClass (top 38) 1
abbrev Y8:ID:=inClass (top 41) 1
abbrev Y26:ID:=inClass (top 38) 1
abbrev Y10:ID:=inClass (top 42) 1
abbrev Y24:ID:=inClass (top 38) 1
abbrev Y6:ID:=inClass (top 43) 1
abbrev Y28:ID:=inClass (top 38) 1
abbrev Y15:ID:=inClass (top 44) 1
abbrev Y45:ID:=top 87
abbrev Y64:Iz:=Bj ((cx s_row_form).getD 0<|.Pass ⟨0,0,0,0⟩) 2
theorem Z65{c_0:HA}:pM ["codes","table"] ["codes"] (j0 Y64) [("table",c_0)]:=⟨U,U,U,~~~0,U,~~~0,~~~0,yq U⟩
abbrev Y74:Iz:=Bj ((cx s_verdict_form).getD 0<|.Pass ⟨0,0,0,0⟩) 2
theorem Z76{c_0:HA}:pM ["rows","table"] ["rows"] (j0 Y74) [("table",c_0)]:=⟨U,U,U,~~~0,U,~~~0,~~~0,yq U⟩
def Z39:aq ["spans","number","low","high"] ["spans","number"] (aj Y39):=fsc
def Z35:aq ["spans","low","high","turns","first","last"] ["spans","low","high"] (aj Y35):=fsc
def Z69:aq ["low","high","marks","cuts","lows","highs"] ["low","high","marks"] (aj Y68):=fsc
def Z38:aq ["bounds","marks","product","parts"] ["bounds","marks"] (aj Y38):=fsc
def Z34:aq ["bounds","marks"] ["bounds","marks"] (aj Y34):=fsc
def Z31:aq ["bounds","marks","leaf"] ["bounds","marks","leaf"] (aj Y31):=fsc
def Z53:aq ["columns","ahead","leaf"] ["columns","ahead","leaf"] (aj Y53):=fsc
def Z32:aq ["triples","form","low","high","beneath"] ["triples"] (aj Y32):=fsc
def Z56:aq ["form","deep","change"] ["form","deep","change"] (aj Y56):=fsc
def Z30:aq ["form","deep","told","low","high","beneath","box","leaf"] ["form","deep"] (aj Y30):=fsc
def Z37:aq ["lists","numbers","some"] ["lists"] (aj Y37):=fsc
def Z29:aq ["text","signs","sign"] ["text","signs"] (aj Y29):=fsc
def Z41:aq ["text"] ["text"] (aj Y41):=fsc
def Z40:aq ["value"] ["value"] (aj Y40):=fsc
def Z77:aq ["name","way"] ["name"] (aj Y75):=fsc
def Z61:aq ["names","name"] ["names"] (aj Y61):=fsc
def Z60:aq ["names","rows"] ["names","rows"] (aj Y60):=fsc
def Z63:aq ["way","outcome"] ["way","outcome"] (aj Y63):=fsc
def Z62:aq ["domains","outcome","cells","code","domain","spans","low","high"] ["domains","outcome","cells","code"] (aj Y62):=fsc
def Z58:aq ["cells","code"] ["cells","code"] (aj Y58):=fsc
def Z36:aq ["table","k","codes","cells","spans","code"] ["table","k","codes"] (aj Y36):=fsc
def Z57:aq ["table","codes"] ["table","codes"] (aj Y57):=fsc
def Z42:aq ["table","rows","codes"] ["table","rows"] (aj Y42):=fsc
def Z74:aq ["table","codes"] ["table","codes"] (aj Y73):=fsc
def Z78:aq ["table","rows"] ["table","rows"] (aj Y76):=fsc
def Z70:aq ["table"] ["table"] (aj Y69):=fsc
def Z71:aq ["table"] ["table"] (aj Y70):=fsc
def Z33:aq ["table","column","domain"] ["table","column"] (aj Y33):=fsc
def Z64:aq ["table"] ["table"] (aj s_row_form):=fsc
def Z75:aq ["table"] ["table"] (aj s_verdict_form):=fsc
def Z73:aq ["table"] ["table"] (aj Y72):=fsc
def Z66:aq ["form","deep"] ["form","deep"] (aj Y65):=fsc
def Z67:aq ["table"] ["table"] (aj Y66):=fsc
def Z68:aq ["name","names","domains","outcome","form","deep"] ["name","names","domains","outcome","form"] (aj Y67):=fsc
def Z59:aq ["form","deep","box","leaf"] ["form","deep"] (aj Y59):=fsc
def Z43:aq ["table"] ["table"] (aj Y43):=fsc
def Z55:aq ["table","tile","k","bit","rows"] ["table","tile","k"] (aj Y55):=fsc
def Z72:aq ["table","tiles","kept","needed","found"] ["table"] (aj Y71):=fsc
def Z44:aq ["table","tiles","kept","needed","k"] ["table","tiles","kept","needed"] (aj Y44):=fsc
def Z54:aq ["table","tiles","k","before","place","tile"] ["table","tiles","k","before"] (aj Y54):=fsc
def Z46:aq ["script","k"] ["script","k"] (aj Y46):=fsc
def Z51:aq ["found","due"] ["found","due"] (aj Y51):=fsc
def Z50:aq ["low","size","codes","kinds","rows","begin","odd","spans"] ["low","size","codes","kinds"] (aj Y50):=fsc
def Z52:aq ["table","thin","found","kinds","e","k","word"] ["table","thin"] (aj Y52):=fsc
def Z48:aq ["size","says","way","more","thin"] ["size","says","way","more","thin"] (aj Y48):=fsc
def Z49:aq ["head","turn","size","codes","place","mode","own","other"] ["head","turn","size","codes"] (aj Y49):=fsc
def Z47:aq ["turn","codes"] ["turn"] (aj Y47):=fsc
def Z16:aq ["self","name","names","domains","outcome","way","rows","cells","code"] ["self","name","names","domains","outcome","way","rows"] (aj Y16):=fsc
def Z11:aq ["self","low","high"] ["self","low","high"] (aj Y11):=fsc
def Z0:aq ["self","low","high"] ["self","low","high"] (aj Y0):=fsc
def Z3:aq ["self"] ["self"] (aj Y3):=fsc
def Z17:aq ["self","called"] ["self","called"] (aj Y17):=fsc
def Z12:aq ["self"] ["self"] (aj Y12):=fsc
def Z21:aq ["self","called"] ["self","called"] (aj Y21):=fsc
def Z7:aq ["self"] ["self"] (aj Y7):=fsc
def Z19:aq ["self","called"] ["self","called"] (aj Y19):=fsc
def Z9:aq ["self"] ["self"] (aj Y9):=fsc
def Z20:aq ["self","called"] ["self","called"] (aj Y20):=fsc
def Z5:aq ["self"] ["self"] (aj Y5):=fsc
def Z18:aq ["self","called"] ["self","called"] (aj Y18):=fsc
def Z14:aq ["self"] ["self"] (aj Y14):=fsc
def Z22:aq ["self","called"] ["self","called"] (aj Y22):=fsc
def Z1:aq ["self","value"] ["self","value"] (aj Y1):=fsc
def Z2:aq ["self","value"] ["self","value"] (aj Y2):=fsc
def Z23:aq ["self","codes","outcome"] ["self","codes","outcome"] (aj Y23):=fsc
def Z4:aq ["self","codes","outcome"] ["self","codes","outcome"] (aj Y4):=fsc
def Z27:aq ["self","codes","outcome"] ["self","codes","outcome"] (aj Y27):=fsc
def Z13:aq ["self","codes","outcome"] ["self","codes","outcome"] (aj Y13):=fsc
def Z25:aq ["self","codes","outcome"] ["self","codes","outcome"] (aj Y25):=fsc
def Z8:aq ["self","codes","outcome"] ["self","codes","outcome"] (aj Y8):=fsc
def Z26:aq ["self","codes","outcome"] ["self","codes","outcome"] (aj Y26):=fsc
def Z10:aq ["self","codes","outcome"] ["self","codes","outcome"] (aj Y10):=fsc
def Z24:aq ["self","codes","outcome"] ["self","codes","outcome"] (aj Y24):=fsc
def Z6:aq ["self","codes","outcome"] ["self","codes","outcome"] (aj Y6):=fsc
def Z28:aq ["self","codes","outcome"] ["self","codes","outcome"] (aj Y28):=fsc
def Z15:aq ["self","codes","outcome"] ["self","codes","outcome"] (aj Y15):=fsc
def Z45:aq ["script","head","turn","size","low","codes","way","mode","own","place","other","says","rows","more","every","table","thin","told","cell","at","due"] ["script"] (aj Y45):=fsc
structure AD where (a b c d e f g h i j k l m n o p q:HA)
structure Bk(K:W.Frag)(Y:AD):Prop where
 n_TableError:W.nsIn K Ia "TableError" = LH (LH<|.ref Y.a)
 n_TooFine:W.nsIn K Ia "TooFine" = LH (LH<|.ref Y.b)
 n_Clash:W.nsIn K Ia "Clash" = LH (LH<|.ref Y.c)
 n_TooMany:W.nsIn K Ia "TooMany" = LH (LH<|.ref Y.d)
 n_Way:W.nsIn K Ia "Way" = LH (LH<|.ref Y.e)
 n_First:W.nsIn K Ia "First" = LH (LH<|.ref Y.f)
 n_Only:W.nsIn K Ia "Only" = LH (LH<|.ref Y.g)
 n_Like:W.nsIn K Ia "Like" = LH (LH<|.ref Y.h)
 n_Low:W.nsIn K Ia "Low" = LH (LH<|.ref Y.i)
 n_High:W.nsIn K Ia "High" = LH (LH<|.ref Y.j)
 n_Sum:W.nsIn K Ia "Sum" = LH (LH<|.ref Y.k)
 n_Domain:W.nsIn K Ia "Domain" = LH (LH<|.ref Y.l)
 n_Numbers:W.nsIn K Ia "Numbers" = LH (LH<|.ref Y.m)
 n_Words:W.nsIn K Ia "Words" = LH (LH<|.ref Y.n)
 n_Table:W.nsIn K Ia "Table" = LH (LH<|.ref Y.o)
 n_NONE:W.nsIn K Ia "NONE" = LH (LH<|.ref Y.p)
 n_CLASH:W.nsIn K Ia "CLASH" = LH (LH<|.ref Y.q)
 x_TooFine:ExcCls K Y.b
 x_Clash:ExcCls K Y.c
 x_TooMany:ExcCls K Y.d
 l_TooFine:gc K Y.b
 l_Clash:gc K Y.c
 l_TooMany:gc K Y.d
 k_First:Cls K Y.f
 k_Only:Cls K Y.g
 k_Like:Cls K Y.h
 k_Low:Cls K Y.i
 k_High:Cls K Y.j
 k_Sum:Cls K Y.k
 k_Numbers:Cls K Y.m
 k_Words:Cls K Y.n
 k_Table:Cls K Y.o
 t_First:mE K Y.f
 t_Only:mE K Y.g
 t_Like:mE K Y.h
 t_Low:mE K Y.i
 t_High:mE K Y.j
 t_Sum:mE K Y.k
 t_Numbers:mE K Y.m
 t_Words:mE K Y.n
 t_Table:mE K Y.o
 q_NONE:ModT K Y.p [.str "none",.int (0)]
 q_CLASH:ModT K Y.q [.str "clash",.int (0)]
 na_First_called:NoAttr K Y.f "called"
 na_Only_called:NoAttr K Y.g "called"
 na_Like_called:NoAttr K Y.h "called"
 na_Low_called:NoAttr K Y.i "called"
 na_High_called:NoAttr K Y.j "called"
 na_Sum_called:NoAttr K Y.k "called"
 na_Numbers_low:NoAttr K Y.m "low"
 na_Numbers_high:NoAttr K Y.m "high"
 na_Numbers_words:NoAttr K Y.m "words"
 na_Words_low:NoAttr K Y.n "low"
 na_Words_high:NoAttr K Y.n "high"
 na_Words_words:NoAttr K Y.n "words"
 na_Table_name:NoAttr K Y.o "name"
 na_Table_names:NoAttr K Y.o "names"
 na_Table_domains:NoAttr K Y.o "domains"
 na_Table_outcome:NoAttr K Y.o "outcome"
 na_Table_way:NoAttr K Y.o "way"
 na_Table_rows:NoAttr K Y.o "rows"
 f_nn:W.kitOne K (.ref Y.m) (.ref Y.m)=LH LJ
 f_wn:W.kitOne K (.ref Y.n) (.ref Y.m)=LH LK
 f_ww:W.kitOne K (.ref Y.n) (.ref Y.n)=LH LJ
 f_tt:W.kitOne K (.ref Y.o) (.ref Y.o)=LH LJ
 f_nw:W.kitOne K (.ref Y.m) (.ref Y.n)=LH LK
 e_TooFine:W.exmOne K (.ref Y.b) (.ref Y.a)=LH LJ
 v_TooFine:W.kitOne K (.ref Y.b) (.type "ValueError")=LH LJ
 g_TooFine_TooFine:W.kitOne K (.ref Y.b) (.ref Y.b)=LH LJ
 g_TooFine_Clash:W.kitOne K (.ref Y.b) (.ref Y.c)=LH LK
 g_TooFine_TooMany:W.kitOne K (.ref Y.b) (.ref Y.d)=LH LK
 e_Clash:W.exmOne K (.ref Y.c) (.ref Y.a)=LH LJ
 v_Clash:W.kitOne K (.ref Y.c) (.type "ValueError")=LH LJ
 g_Clash_TooFine:W.kitOne K (.ref Y.c) (.ref Y.b)=LH LK
 g_Clash_Clash:W.kitOne K (.ref Y.c) (.ref Y.c)=LH LJ
 g_Clash_TooMany:W.kitOne K (.ref Y.c) (.ref Y.d)=LH LK
 e_TooMany:W.exmOne K (.ref Y.d) (.ref Y.a)=LH LJ
 v_TooMany:W.kitOne K (.ref Y.d) (.type "ValueError")=LH LJ
 g_TooMany_TooFine:W.kitOne K (.ref Y.d) (.ref Y.b)=LH LK
 g_TooMany_Clash:W.kitOne K (.ref Y.d) (.ref Y.c)=LH LK
 g_TooMany_TooMany:W.kitOne K (.ref Y.d) (.ref Y.d)=LH LJ
 nt0:∀z z',W.tabIn K "row_form" = LH z->W.tabIn K "verdict_form" = LH z'->z.2≠z'.2
structure Bl(K:W.Frag)(mg:Str->Option Fe)(Y:AD):Prop extends Bk K Y where
 TableError_:mg "TableError" = LH (.ref Y.a)
 TooFine_:mg "TooFine" = LH (.ref Y.b)
 Clash_:mg "Clash" = LH (.ref Y.c)
 TooMany_:mg "TooMany" = LH (.ref Y.d)
 Way_:mg "Way" = LH (.ref Y.e)
 First_:mg "First" = LH (.ref Y.f)
 Only_:mg "Only" = LH (.ref Y.g)
 Like_:mg "Like" = LH (.ref Y.h)
 Low_:mg "Low" = LH (.ref Y.i)
 High_:mg "High" = LH (.ref Y.j)
 Sum_:mg "Sum" = LH (.ref Y.k)
 Domain_:mg "Domain" = LH (.ref Y.l)
 Numbers_:mg "Numbers" = LH (.ref Y.m)
 Words_:mg "Words" = LH (.ref Y.n)
 Table_:mg "Table" = LH (.ref Y.o)
 NONE_:mg "NONE" = LH (.ref Y.p)
 CLASH_:mg "CLASH" = LH (.ref Y.q)
 sorted_:mg "sorted" = LI
 list_:mg "list" = LI
 set_:mg "set" = LI
 zip_:mg "zip" = LI
 len_:mg "len" = LI
 tuple_:mg "tuple" = LI
 isinstance_:mg "isinstance" = LI
 int_:mg "int" = LI
 bool_:mg "bool" = LI
 sum_:mg "sum" = LI
 range_:mg "range" = LI
 enumerate_:mg "enumerate" = LI
 reversed_:mg "reversed" = LI
 str_:mg "str" = LI
 min_:mg "min" = LI
 ValueError_:mg "ValueError" = LI
 max_:mg "max" = LI
 MOST_GRAIN_:∃u,mg "MOST_GRAIN" = LH u/\RelV (V.int 300) u
 MOST_SIGNS_:∃u,mg "MOST_SIGNS" = LH u/\RelV (V.int 12) u
 SMALL_LETTERS_:∃u,mg "SMALL_LETTERS" = LH u/\RelV (V.str "abcdefghijklmnopqrstuvwxyz") u
 MOST_ROWS_:∃u,mg "MOST_ROWS" = LH u/\RelV (V.int 200) u
 MOST_COLUMNS_:∃u,mg "MOST_COLUMNS" = LH u/\RelV (V.int 4) u
theorem Fu{n:Int}{p:Int×Int}(c:decide (p.1<=n)=LJ)(d:decide (n<=p.2)=LJ):inR n p=true:=by unfold inR;rw[c,d];rfl
theorem DU{n:Int}{p:Int×Int}(c:¬ decide (p.1<=n)=LJ):inR n p=false:=by unfold inR;rw[DA.mpr c];rfl
theorem DV{n:Int}{p:Int×Int}(d:¬ decide (n<=p.2)=LJ):inR n p=false:=by unfold inR;rw[DA.mpr d,Bool.and_false]
theorem d6{H:Hp}{r:HA}{o:HO}{b:HA}{u:HO}(h:H r=LH u)(n:H b=LI):upd H b o r=LH u:=by rw[av (aZ h n)];calc h
theorem yy{n:Nat}(h:0<n):ixN n (-1)=LH (n-1):=by
 unfold ixN;rw[LN ⋯,LO ∅]
 congr 1
 lia
theorem yz{a:Type}(l:L0 a)(x y:a):(l++[x]).set (⇑(l++[x])-1) y=l++[y]:=by
 let e:⇑(l++[x])-1=⇑l:=by simp
 rw[e,List.set_append_right _ _<|wX _,zm];rfl
theorem take_snoc{a:Type}{l:L0 a}{i:Nat}{x:a}(e:l[i]?=LH x):l.take (i+1)=l.take i++[x]:=by rw[nQ,e];rfl
theorem get_map{ns:L0 Int}{i:Nat}{c:Int}(e:ns[i]?=LH c):(ns.map V.int)[i]?=LH (.int c):=by rw[gM,e];rfl
theorem of_map{ns:L0 Int}{i:Nat}{x:V}(e:(ns.map V.int)[i]?=LH x):∃c,x=.int c/\ns[i]?=LH c:=by
 rw[gM]at e;cases q:ns[i]? with
 |none=>rw[q]at e;cases e
 |some c=>rw[q]at e;cases e;calc⟨c,U,U⟩
def lets:Str := "abcdefghijklmnopqrstuvwxyz"
def isw(z:Str):Bool:=LL ((1:Int)<=((⇑z:Nat):Int)) && (LL (((⇑z:Nat):Int)<=12) && (!LL (V.str z=V.str "not") && qA z lets))
theorem CA{l:L0 Nat}{i:Nat}{c:Nat}{p:Nat->Bool}(e:l[i]?=LH c)(h:p c=LK):l.all p=false:=by
 cases q:l.all p with
 |false=>rfl
 |true=>rw[jr.mp q c (Il e)]at h;cases h
theorem all_succ{l:L0 Nat}{i:Nat}{c:Nat}{p:Nat->Bool}(e:l[i]?=LH c)(h:p c=LJ)(a:(l.take i).all p=LJ):(l.take<|i+1).all p=true:=by
 rw[take_snoc e,List.all_append,a];simp[h]
theorem yA{z g:Str}(h:(z.cps.toList.take z.cps.size).all (sg g)=LJ):qA z g=true:=by
 let e:z.cps.toList.take z.cps.size=z.cps.toList:=by rw[←A8];exact hV
 rw[e]at h;calc h
theorem CB{g:Str}{c:Nat}(h:(!(!(Ji.Str.occurrences g ⟨#[c]⟩ 0 ⇑g 1).isEmpty))=LJ):sg g c=false:=by unfold sg;simpa using h
theorem DW{g:Str}{c:Nat}(h:¬ (!(!(Ji.Str.occurrences g ⟨#[c]⟩ 0 ⇑g 1).isEmpty))=LJ):sg g c=true:=by unfold sg;simpa using h
def big{n:Nat}(h:n<=1000):n<=HL:=zb<|az h
def mkd(C:HA)(H:Hp)(x a:HA)(lo hi:Int):Hp:=upd (upd H x<|.ins C a [("low",.int lo)]) x<|.ins C a [("low",.int lo),("high",.int hi)]
theorem put2(v u:V):bD s!"high" u [(s!"low",v)]=[(s!"low",v),(s!"high",u)]:=by
 unfold bD bD;rw[LN ⋯]
def hiW(zs:L0 Str):Int:=((⇑zs:Nat):Int)-1
structure Good(zs:L0 Str):Prop where
 some_:1<=⇑zs
 few:⇑zs<=40
 words:∀z∈zs,isw z=LJ
 once:zs.Nodup
theorem rg{zs:L0 Str}{i:Nat}{x:V}(e:(zs.map V.str)[i]?=LH x):∃z,x=.str z/\zs[i]?=LH z:=by
 rw[gM]at e;cases q:zs[i]? with
 |none=>rw[q]at e;cases e
 |some z=>rw[q]at e;cases e;calc⟨z,U,U⟩
def six:L0 Str:=[s!"first",s!"only",s!"like",s!"low",s!"high",s!"sum"]
theorem Ad{i j:Nat}{z:Str}(h:six[i]?=LH z)(k:six[j]?=LH z):i=j:=gF (show six.Nodup by decide+kernel) h k
def WyN(C:HA)(H:Hp)(x:HA)(z:Str):Prop:=∃a,H x=LH (.ins C a [("called",.str z)])
theorem WyN.same{C:HA}{H H':Hp}{x:HA}{z:Str}(h:WyN C H x z)(s:ak H H'):WyN C H' x z:=by let(a,e):=h;calc⟨a,s _ _ e⟩
def wA(C:HA)(z:Str):Sp:=λb H Q _=>∃(x a:HA),b=[.ref x]/\H x=LH (.ins C a [])/\Q .non (upd H x<|.ins C a [("called",.str z)])
theorem bO:2<=HL:=⋯
def cl6(a b c d e f:HA):L0 HA:=[a,b,c,d,e,f]
def CC(C:HA)(H:Hp)(a:HA)(lo hi:Int):Prop:=∃b fs,H a=LH (.ins C b fs)/\fs.lookup s!"low"=LH (.int lo)/\fs.lookup s!"high"=LH (.int hi)/\fs.lookup s!"has_code"=LI
def Dom(d c:HA)(H:Hp)(a:HA)(b:Int×Int):Prop:=∃C,(C=d\/C=c)/\CC C H a b.1 b.2
theorem Dom.same{d c:HA}{H H':Hp}{a:HA}{b:Int×Int}(h:Dom d c H a b)(s:ak H H'):Dom d c H' a b:=by let(C,f,g,fs,e,r):=h;calc⟨C,f,g,fs,s _ _ e,r⟩
def aI{b:Type}(xs:L0 V)(c:L0 b)(P:HA->b->Prop):Prop:=⇑xs=⇑c/\∀(j:Nat)(a:b),c[j]?=LH a->∃r,xs[j]?=LH (.ref r)/\P r a
def aI.mono{b:Type}{xs:L0 V}{c:L0 b}{P Q:HA->b->Prop}(h:aI xs c P)(k:∀r a,P r a->Q r a):aI xs c Q:=⟨h.1,λj a e=>let ⟨r,e1,p⟩:=h.2 j a e;⟨r,e1,k r a p⟩⟩
theorem aI.nil{b:Type}{P:HA->b->Prop}:aI [] [] P:=⟨U,(λj a e=>by simp at e)⟩
theorem aI.snoc{d:Type}{xs:L0 V}{c:L0 d}{P:HA->d->Prop}{r:HA}{a:d}(h:aI xs c P)(p:P r a):aI (xs++[.ref r]) (c++[a]) P:=by
 refine⟨by simp[h.1],λj b e=>?_⟩;by_cases g:j<⇑c
 .rw[iQ g]at e;let(i,k,q):=h.2 j b e;exact⟨i,by rw[iQ (by rw[h.1];exact g)];exact k,q⟩
 .let f:j=⇑c:=by
   let:=(Ik.mp e).1;simp at this;lia
  subst f;simp at e;subst e;calc⟨r,by rw[←h.1];simp,p⟩
theorem aI.get{c:Type}{xs:L0 V}{b:L0 c}{P:HA->c->Prop}(h:aI xs b P){j:Nat}{x:V}(e:xs[j]?=LH x):∃r a,x=.ref r/\b[j]?=LH a/\P r a:=by
 let g:=(Ik.mp e).1;let d:=Ij (l:=b) (i:=j) (by rw[←h.1];exact g);let(r,f,p):=h.2 j _ d;rw[e]at f;cases f;calc⟨r,_,U,d,p⟩
abbrev Prs:=List<|Int×Int
def SpA(N:HA->Prop)(H:Hp)(l:HA)(ps:Prs):Prop:=N l/\∃a,H l=LH (.lst a)/\PL H a ps
def CL(N:HA->Prop)(H:Hp)(xs:L0 V)(a:L0 Prs):Prop:=aI xs a<|SpA N H
abbrev Rw:=L0 Prs×Int
def eQ(N:HA->Prop)(H:Hp)(r:HA)(a:Rw):Prop:=∃b c,H r=LH (.tup [.ref b,.int a.2])/\N b/\H b=LH (.lst c)/\CL N H c a.1
def RL(N:HA->Prop)(H:Hp)(xs:L0 V)(rws:L0 Rw):Prop:=aI xs rws<|eQ N H
theorem SpA.same{N:HA->Prop}{H H':Hp}{l:HA}{ps:Prs}(h:SpA N H l ps)(s:ak H H'):SpA N H' l ps:=by let(n,a,e,p):=h;calc⟨n,a,s _ _ e,p.mono s.tups⟩
theorem CL.same{N:HA->Prop}{H H':Hp}{xs:L0 V}{a:L0 Prs}(h:CL N H xs a)(s:ak H H'):CL N H' xs a:=aI.mono h λ_ _ p=>p.same s
theorem eQ.same{N:HA->Prop}{H H':Hp}{r:HA}{w:Rw}(h:eQ N H r w)(s:ak H H'):eQ N H' r w:=by let(b,a,e,n,f,c):=h;calc⟨b,a,s _ _ e,n,s _ _ f,c.same s⟩
theorem RL.same{N:HA->Prop}{H H':Hp}{xs:L0 V}{rws:L0 Rw}(h:RL N H xs rws)(s:ak H H'):RL N H' xs rws:=aI.mono h λ_ _ p=>p.same s
abbrev NT:HA->Prop:=λ_=>True
def SpA.any{N:HA->Prop}{H:Hp}{l:HA}{ps:Prs}(h:SpA N H l ps):SpA NT H l ps:=⟨trivial,h.2⟩
theorem CL.any{N:HA->Prop}{H:Hp}{xs:L0 V}{a:L0 Prs}(h:CL N H xs a):CL NT H xs a:=aI.mono h λ_ _ p=>p.any
theorem eQ.any{N:HA->Prop}{H:Hp}{r:HA}{w:Rw}(h:eQ N H r w):eQ NT H r w:=by let(b,a,e,_,f,c):=h;calc⟨b,a,e,trivial,f,c.any⟩
theorem RL.any{N:HA->Prop}{H:Hp}{xs:L0 V}{rws:L0 Rw}(h:RL N H xs rws):RL NT H xs rws:=aI.mono h λ_ _ p=>p.any
def SpA.wk{N b:HA->Prop}{H:Hp}{l:HA}{ps:Prs}(h:SpA N H l ps)(k:∀a,N a->b a):SpA b H l ps:=⟨k _ h.1,h.2⟩
theorem CL.wk{N c:HA->Prop}{H:Hp}{xs:L0 V}{b:L0 Prs}(h:CL N H xs b)(k:∀a,N a->c a):CL c H xs b:=aI.mono h λ_ _ p=>p.wk k
theorem eQ.wk{N b:HA->Prop}{H:Hp}{r:HA}{w:Rw}(h:eQ N H r w)(k:∀a,N a->b a):eQ b H r w:=by let(g,d,e,n,f,c):=h;calc⟨g,d,e,k _ n,f,c.wk k⟩
theorem SpA.updN{N:HA->Prop}{D:HA}{H:Hp}{l:HA}{ps:Prs}{zs:L0 V}{o:HO}(h:SpA N H l ps)(n:¬ N D)(e:H D=LH (.lst zs)):SpA N (upd H D o) l ps:=by
 let(m,a,f,p):=h;calc⟨m,a,(av<|λz=>n (by rw[←z];exact m)).trans f,p.mono<|bP e⟩
theorem CL.updN{N:HA->Prop}{D:HA}{H:Hp}{xs:L0 V}{a:L0 Prs}{zs:L0 V}{o:HO}(h:CL N H xs a)(n:¬ N D)(e:H D=LH (.lst zs)):CL N (upd H D o) xs a:=aI.mono h λ_ _ p=>p.updN n e
theorem eQ.updN{N:HA->Prop}{D:HA}{H:Hp}{r:HA}{w:Rw}{zs:L0 V}{o:HO}(h:eQ N H r w)(n:¬ N D)(e:H D=LH (.lst zs)):eQ N (upd H D o) r w:=by
 let(b,a,f,m,g,c):=h;calc⟨b,a,(av<|jI f e (by intro z;cases z)).trans f,m,(av<|λz=>n (by rw[←z];exact m)).trans g,c.updN n e⟩
theorem RL.updN{N:HA->Prop}{D:HA}{H:Hp}{xs:L0 V}{rws:L0 Rw}{zs:L0 V}{o:HO}(h:RL N H xs rws)(n:¬ N D)(e:H D=LH (.lst zs)):RL N (upd H D o) xs rws:=aI.mono h λ_ _ p=>p.updN n e
def Fr(H:Hp)(D:HA):HA->Prop:=λa=>H a=LI/\a≠D
def Fr.out{H:Hp}{D:HA}:¬ Fr H D D:=λh=>h.2 U
structure HC(b:Int×Int)(zs:L0 Str):Prop where
 le:b.1<=b.2
 ws:zs≠[]->Good zs/\b=(0,hiW zs)
structure lu(bs:Prs)(o:Int×Int)(w:Rw):Prop where
 len:⇑w.1=⇑bs
 inn:∀(j:Nat)(ps:Prs)(b:Int×Int),w.1[j]?=LH ps->bs[j]?=LH b->∀p∈ps,b.1<=p.1/\p.2<=b.2
 lo:o.1<=w.2
 hi:w.2<=o.2
def eR(a:L0 Prs)(b:L0 Int):Bool:=(List.range ⇑b).all λj=>inP (a.getD j [])<|b.getD j 0
theorem pf1(b a:V):bD s!"names" a [(s!"name",b)]=[(s!"name",b),(s!"names",a)]:=by
 unfold bD bD;rw[LN ⋯]
theorem pf2(c b a:V):bD s!"domains" a [(s!"name",c),(s!"names",b)]=[(s!"name",c),(s!"names",b),(s!"domains",a)]:=by
 unfold bD bD bD;rw[LN ⋯,LN ⋯]
theorem pf3(d c b a:V):bD s!"outcome" a [(s!"name",d),(s!"names",c),(s!"domains",b)]=[(s!"name",d),(s!"names",c),(s!"domains",b),(s!"outcome",a)]:=by
 unfold bD bD bD bD;rw[LN ⋯,LN ⋯,LN ⋯]
theorem pf4(e d c b a:V):bD s!"way" a [(s!"name",e),(s!"names",d),(s!"domains",c),(s!"outcome",b)]=[(s!"name",e),(s!"names",d),(s!"domains",c),(s!"outcome",b),(s!"way",a)]:=by
 unfold bD bD bD bD bD;rw[LN ⋯,LN ⋯,LN ⋯,LN ⋯]
theorem pf5(f e d c b a:V):bD s!"rows" a [(s!"name",f),(s!"names",e),(s!"domains",d),(s!"outcome",c),(s!"way",b)]=[(s!"name",f),(s!"names",e),(s!"domains",d),(s!"outcome",c),(s!"way",b),(s!"rows",a)]:=by
 unfold bD bD bD bD bD bD;rw[LN ⋯,LN ⋯,LN ⋯,LN ⋯,LN ⋯]
def hide(H:Hp)(x:HA):Hp:=λb=>if b=x then LI else H b
theorem bC{H:Hp}{x b:HA}{o:HO}(e:H b=LH o)(n:b≠x):hide H x b=LH o:=by unfold hide;rw[LN n];calc e
theorem hide_same{H H':Hp}{x:HA}(k:∀b o,b≠x->H b=LH o->H' b=LH o):ak (hide H x) H':=λb o e=>by
 unfold hide at e;by_cases h:b=x
 .rw[LO h]at e;cases e
 .rw[LN h]at e;calc k b o h e
theorem PL.hide{H:Hp}{x C c:HA}{fs:L0 (Str×V)}(a:H x=LH (.ins C c fs)){ys:L0 V}{ps:Prs}(h:PL H ys ps):PL (hide H x) ys ps :=
 h.mono λb d e=>bC e<|jI e a (by intro z;cases z)
theorem RL.hide{H:Hp}{x C d:HA}{fs:L0 (Str×V)}(a:H x=LH (.ins C d fs)){xs:L0 V}{rws:L0 Rw}(h:RL NT H xs rws):RL NT (_M.hide H x) xs rws :=
 aI.mono h λr w ⟨j,i,e,_,f,c⟩=>⟨j,i,bC e<|jI e a (by intro z;cases z),trivial,bC f<|jI f a (by intro z;cases z),aI.mono c λl k ⟨_,b,g,p⟩=>⟨trivial,b,bC g<|jI g a (by intro z;cases z),PL.hide a p⟩⟩
def wcs(c k:Int):L0 Nat:=List.replicate (c / 26%6).toNat (97+(c%26).toNat)++([97+(k / 7%7).toNat,97+(k%7).toNat]++List.replicate (k%5).toNat (97+(c / 156%26).toNat))
def wd(c k:Int):Str:=⟨(wcs c k).toArray⟩
abbrev SI:=Str×Int
def tp(p:SI):L0 V:=[.str p.1,.int p.2]
def say(i:Int):SI:=(s!"say",i)
def clash:SI:=(s!"clash",0)
def oh:SI:=(s!"none",0)
def least(ns:L0 Int):Int:=ns.foldl (λm c=>if c<m then c else m) (ns.headD 0)
def great(ns:L0 Int):Int:=ns.foldl (λm c=>if c>m then c else m) (ns.headD 0)
theorem fold_min(ns:L0 Int):∀m:Int,(ns.foldl (λm c=>if c<m then c else m) m=m\/ns.foldl (λm c=>if c<m then c else m) m∈ns)/\ns.foldl (λm c=>if c<m then c else m) m<=m/\∀x∈ns,ns.foldl (λm c=>if c<m then c else m) m<=x:=by
 induction ns with
 |nil=>intro m;exact⟨.inl U,Int.le_refl _,λx h=>by cases h⟩
 |cons n ns e =>
  intro m;let(a,d,f):=e (if n<m then n else m);rw[wM];refine⟨?_,?_,λx b=>?_⟩
  .rcases a with a|a
   .rw[a];split
    .exact .inr dn
    .exact .inl U
   .exact .inr<|fo _ a
  .split at d <;> split <;> lia
  .rcases bL.mp b with rfl|b
   .split at d <;> split <;> lia
   .exact f x b
theorem fold_max(ns:L0 Int):∀m:Int,(ns.foldl (λm c=>if c>m then c else m) m=m\/ns.foldl (λm c=>if c>m then c else m) m∈ns)/\m<=ns.foldl (λm c=>if c>m then c else m) m/\∀x∈ns,x<=ns.foldl (λm c=>if c>m then c else m) m:=by
 induction ns with
 |nil=>intro m;exact⟨.inl U,Int.le_refl _,λx h=>by cases h⟩
 |cons n ns e =>
  intro m;let(a,d,f):=e (if n>m then n else m);rw[wM];refine⟨?_,?_,λx b=>?_⟩
  .rcases a with a|a
   .rw[a];split
    .exact .inr dn
    .exact .inl U
   .exact .inr<|fo _ a
  .split at d <;> split <;> lia
  .rcases bL.mp b with rfl|b
   .split at d <;> split <;> lia
   .exact f x b
theorem fQ{n:Int}{ns:L0 Int}:least (n :: ns)∈n :: ns/\∀x∈n :: ns,least (n :: ns)<=x:=by
 let(a,c,b):=fold_min (n :: ns) n;calc⟨?_,b⟩;rcases a with a|a
 .show(n :: ns).foldl _ n∈_;rw[a];exact dn
 .exact a
theorem gO{n:Int}{ns:L0 Int}:great (n :: ns)∈n :: ns/\∀x∈n :: ns,x<=great (n :: ns):=by
 let(a,c,b):=fold_max (n :: ns) n;calc⟨?_,b⟩;rcases a with a|a
 .show(n :: ns).foldl _ n∈_;rw[a];exact dn
 .exact a
theorem yB{n m:Int}{ns:L0 Int}(d:m∈n :: ns)(c:∀b∈n :: ns,m<=b):m=least (n :: ns):=by
 let a:=c _ fQ.1;let b:=fQ.2 _ d;lia
theorem yC{n m:Int}{ns:L0 Int}(d:m∈n :: ns)(c:∀b∈n :: ns,b<=m):m=great (n :: ns):=by
 let a:=c _ gO.1;let b:=gO.2 _ d;lia
def Fv(ns:L0 Int):SI:=say<|least ns
def DX(ns:L0 Int):SI:=say<|great ns
def rh(ns:L0 Int):SI:=if least ns=great ns then say (least ns)else clash
theorem kL{n:Int}{ns:L0 Int}:(∀x∈ns,x=n)↔least (n :: ns)=great (n :: ns):=by
 constructor
 .intro h;let e:∀x∈n :: ns,x=n:=λx a=>by
   rcases bL.mp a with r|a
   .exact r
   .exact h x a
  rw[e _ fQ.1,e _ gO.1]
 .intro h x a;let f:=fQ.2 x<|fo n a;let d:=gO.2 x<|fo n a;let c:=fQ.2 n<|dn (l:=ns);let b:=gO.2 n<|dn (l:=ns);lia
theorem wB{n:Int}{ns:L0 Int}(h:∀x∈ns,x=n):least (n :: ns)=n:=by
 let e:∀x∈n :: ns,x=n:=λx a=>by
  rcases bL.mp a with r|a
  .exact r
  .exact h x a
 calc e _ fQ.1
def ver(f:L0 Int->SI):L0 Int->SI
 | []=>oh
 |n :: ns=>f (n :: ns)
def Wy(C:HA)(H:Hp)(x:HA):Prop:=∃a z,H x=LH (.ins C a [("called",.str z)])
def CD(ns:L0 Int):SI:=say<|ns.headD 0
def rj(ns:L0 Int):SI:=if ⇑ns=1 then say (ns.headD 0)else clash
def near(lo hi n:Int):Int:=if n<lo then lo else if n>hi then hi else n
def wf:Nat->Int->Int->L0 Int->SI
 |0,_,_=>CD
 |1,_,_=>rj
 |2,_,_=>rh
 |3,_,_=>Fv
 |4,_,_=>DX
 |_,lo,hi=>λns=>say<|near lo hi ns.sum
def at0(n:Int)(ns:L0 Int):atI ((n :: ns).map V.int) 0=LH (.int n):=aM (j:=0) U
def wC(K:W.Frag)(C g f:HA)(i:Nat):Sp:=λe H Q _=>∃(x c o:HA)(n:Int)(a:L0 Int)(b:Int×Int),e=[.ref x,.ref c,.ref o]/\Wy C H x/\Dom g f H o b/\b.1<=b.2/\SqL K H c ((n :: a).map V.int)/\⇑a<900/\∀(r:HA)(d:Hp),ak H d->Vd K d r (wf i b.1 b.2 (n :: a))->Q (.ref r) d
def j3(K:W.Frag)(C g f:HA)(i:Nat):Sp:=λe H Q _=>∃(x c o:HA)(a:L0 Int)(b:Int×Int),e=[.ref x,.ref c,.ref o]/\Wy C H x/\Dom g f H o b/\b.1<=b.2/\SqL K H c (a.map V.int)/\⇑a<900/\∀(r:HA)(d:Hp),ak H d->Vd K d r (ver (wf i b.1 b.2) a)->Q (.ref r) d
def msk(f:Nat->Bool):Nat->Nat
 |0=>0
 |n+1=>(if f n then 2^n else 0)+msk f n
def fR(f:Nat->Bool)(n:Nat):msk f (n+1)=(if f n then 2^n else 0)+msk f n:=rfl
theorem ug(f:Nat->Bool):∀n,msk f n<2^n
 |0=>Nat.one_pos
 |n+1=>by
  let:=ug f n;unfold msk;rw[Nat.pow_succ];split <;> lia
theorem pR(f:Nat->Bool)(k:Nat):∀n,(msk f n).testBit k=(LL (k<n) && f k)
 |0=>by simp[msk]
 |n+1=>by
  let b:=pR f k n;let lt:=ug f n;unfold msk;rcases Nat.lt_trichotomy k n with h|h|h
  .split
   .rw[Nat.testBit_two_pow_add_gt h,b];simp[h,xG h]
   .rw[zh,b];simp[h,xG h]
  .subst h;split
   .rename_i hf
    rw[Nat.testBit_two_pow_add_eq,Nat.testBit_lt_two_pow lt];simp[hf]
   .rename_i hf
    rw[zh,Nat.testBit_lt_two_pow lt];simp[hf]
  .let a:(if f n=LJ then 2^n else 0)+msk f n<2^k:=w6 (ug f<|n+1)<|Nat.pow_le_pow_right ⋯ h;rw[Nat.testBit_lt_two_pow a];simp;lia
def cV(m:Int)(k:Nat):Bool:=Ji.bitAnd (m / 2^k) 1 != 0
theorem wD(f:Nat->Bool)(n k:Nat):cV ((msk f n:Nat):Int) k=(LL (k<n) && f k):=by
 rw[←pR];unfold cV;let e:((msk f n:Nat):Int) / 2^k=((msk f n / 2^k:Nat):Int):=by simp
 rw[e,PyProof.Rows.bitAnd_pp (DH _) ⋯];unfold Nat.testBit;rw[Nat.shiftRight_eq_div_pow,DG,Nat.and_comm];show((((1:Int).toNat &&& (msk f n / 2^k):Nat):Int) != 0)=_;rw[Bool.eq_iff_iff,bne_iff_ne,bne_iff_ne];constructor
 .intro h z;exact h (by rw[show(1:Int).toNat=1 from U,z];rfl)
 .intro h z;calc h (by rw[show(1:Int).toNat=1 from U]at z;lia)
def pkF(rws:L0 Rw)(f:Nat->Bool)(n:Nat):L0 Int:=((List.range n).filter f).map λk=>(rws.getD k ([],0)).2
theorem mP(rws:L0 Rw)(f:Nat->Bool)(n:Nat):pkF rws f (n+1)=pkF rws f n++(if f n then[(rws.getD n ([],0)).2] else[]):=by
 unfold pkF;rw[nP,oD,gd];cases h:f n with
 |true=>rw[List.filter_cons_of_pos h];simp
 |false=>rw[List.filter_cons_of_neg (by rw[h];exact Bool.false_ne_true)];simp
theorem ve(rws:L0 Rw)(f:Nat->Bool)(n:Nat):⇑(pkF rws f n)<=n:=by
 unfold pkF;rw[bc];calc xc (vl ..) (by simp)
theorem pS(rws:L0 Rw)(f:Nat->Bool)(n:Nat):pkF rws (cV ((msk f n:Nat):Int)) n=pkF rws f n:=by
 unfold pkF
 congr 1
 apply List.filter_congr
 intro k a;rw[wD];simp[iu.mp a]
def Tbl(g h f:HA)(H:Hp)(t:HA)(rws:L0 Rw)(i:Nat)(o:Int×Int):Prop:=∃(c d e:HA)(fs:L0 (Str×V))(a:L0 V)(b:Str),H t=LH (.ins g e fs)/\fs.lookup s!"rows"=LH (.ref c)/\fs.lookup s!"way"=LH (.str b)/\fs.lookup s!"outcome"=LH (.ref d)/\H c=LH (.lst a)/\RL NT H a rws/\six[i]?=LH b/\Dom h f H d o/\o.1<=o.2/\⇑a<=200
theorem Tbl.same{c d b:HA}{H H':Hp}{t:HA}{rws:L0 Rw}{i:Nat}{o:Int×Int}(h:Tbl c d b H t rws i o)(s:ak H H'):Tbl c d b H' t rws i o:=by
 let(g,j,w,fs,e,f,v,u,r,q,p,n,m,l,k,a):=h;calc⟨g,j,w,fs,e,f,s _ _ v,u,r,q,s _ _ p,n.same s,m,l.same s,k,a⟩
def bG(rws:L0 Rw)(a:L0 Int)(k:Nat):Bool:=eR (rws.getD k ([],0)).1 a
theorem getD_at{rws:L0 Rw}{k:Nat}{w:Rw}(e:rws[k]?=LH w):rws.getD k ([],0)=w:=by rw[ik,e];rfl
def fl(rws:L0 Rw)(a:L0 Int):L0 Int:=(rws.filter λw=>eR w.1 a).map (·.2)
theorem Ae(rws:L0 Rw)(w:Rw)(a:L0 Int):fl (rws++[w]) a=fl rws a++(if eR w.1 a then[w.2] else[]):=by
 unfold fl;rw[oD,gd];cases h:eR w.1 a <;> simp[List.filter_cons,h]
theorem rm(rws:L0 Rw)(b:L0 Int):∀n,n<=⇑rws->pkF rws (bG rws b) n=fl (rws.take n) b
 |0,_=>by simp[pkF,fl]
 |n+1,h=>by
  let a:rws[n]?=LH rws[n]:=Ij h;rw[mP,rm rws b n<|Nat.le_of_succ_le h,take_snoc a,Ae,getD_at a];unfold bG;rw[getD_at a]
theorem CF(rws:L0 Rw)(a:L0 Int):pkF rws (bG rws a) ⇑rws=fl rws a:=by
 rw[rm rws a _ (wX _),hV]
structure Lay(H:Hp)(r1:HA)(F2 F3:HA->Prop)(m:Nat):Prop where
 top:∃xs,H r1=LH (.lst xs)/\⇑xs<=63/\∀x∈xs,∃(t ce:HA)(c:Int),x=.ref t/\H t=LH (.tup [.ref ce,.int c])/\F2 ce
 mid:∀ce,F2 ce->∃ys,H ce=LH (.lst ys)/\⇑ys<=4/\∀y∈ys,∃l,y=.ref l/\F3 l
 low:∀l,F3 l->∃zs,H l=LH (.lst zs)/\⇑zs<=m
 n2:¬ F2 r1
 n3:¬ F3 r1
 n23:∀a,F2 a->F3 a->False
theorem yD(x:V)(xs:L0 V):qo (x :: xs) (LH 1) LI=xs:=by
 unfold qo;simp[HT.sIx]
theorem vf{K:W.Frag}{H:Hp}{n:Nat}{a b:HA}{xs ys:L0 V}(g:SqL K H a xs)(d:SqL K H b ys)(c:⇑xs=⇑ys)(h:∀(j:Nat)(x y:V),xs[j]?=LH x->ys[j]?=LH y->DEq K H n x y LJ):DEq K H (n+1) (.ref a) (.ref b) true:=by
 by_cases e:a=b
 .subst e;exact .same a
 .let:=DEq.lst (f:=λ_=>LJ) e g d c h;rw[show(List.range ⇑xs).all (λ_=>LJ)=LJ by simp]at this;calc this
theorem vg{K:W.Frag}{H:Hp}{n:Nat}{a b:HA}{xs ys:L0 V}(g:SqT K H a xs)(d:SqT K H b ys)(c:⇑xs=⇑ys)(h:∀(j:Nat)(x y:V),xs[j]?=LH x->ys[j]?=LH y->DEq K H n x y LJ):DEq K H (n+1) (.ref a) (.ref b) true:=by
 by_cases e:a=b
 .subst e;exact .same a
 .let:=DEq.tup (f:=λ_=>LJ) e g d h;rw[show((List.range<|min ⇑xs ⇑ys).all (λ_=>LJ) && ⇑xs == ⇑ys)=LJ by simp[c]]at this;calc this
theorem pT{K:W.Frag}{H:Hp}{n:Nat}(i:Int):DEq K H n (.int i) (.int i) true:=by
 let:=DEq.flat (K:=K) (H:=H) (n:=n) (x:=.int i) (y:=.int i) U U;rw[show eqV (.int i) (.int i)=LJ by simp[eqV]]at this;calc this
theorem CG{K:W.Frag}{H:Hp}{n:Nat}{xs ys:L0 V}{ps:Prs}(h:PL H xs ps)(h':PL H ys ps)(j:Nat)(x y:V)(i:xs[j]?=LH x)(g:ys[j]?=LH y):DEq K H (n+1) x y true:=by
 let(u,r,f,rfl,e):=h.get i;let(k,l,b,rfl,d):=h'.get g;rw[f]at b;cases b;refine vg (SqT.of e) (SqT.of d) U λj x y a c=>?_
 rw[a]at c;cases c
 match j,a with
 |0,a=>cases a;exact pT _
 |1,a=>cases a;exact pT _
 |j+2,a=>simp at a
structure Pts(ps:L0 Int):Prop where
 two:2<=⇑ps
 few:⇑ps<=13
 asc:ps.Pairwise (· < ·)
def s2(c:Int):L0 Nat:=[113+(c%8).toNat,121+(c / 8%2).toNat]
def w3l(c k:Int):L0 Nat:=(s2 c).take (c / 16%3).toNat++([97+k.toNat]++(s2 c).drop (c / 16%3).toNat)
def w3(c k:Int):Str:=⟨(w3l c k).toArray⟩
theorem Af{K:W.Frag}{H:Hp}{r k:HA}{w:Rw}(h:eQ NT H r w)(h':eQ NT H k w):DEq K H 60 (.ref r) (.ref k) true:=by
 let(I,G,q,_,p,o):=h;let(C,B,g,_,f,d):=h';refine vg (n:=59) (SqT.of q) (SqT.of g) U λj x y a b=>?_
 match j,a,b with
 |0,a,b =>
  cases a;cases b;refine vf (n:=58) (SqL.of p) (SqL.of f) (by rw[o.1,d.1]) λj x y t s=>?_
  let(l,E,rfl,u,_,D,v,m):=aI.get o t;let(F,A,rfl,e,_,z,i,c):=aI.get d s;rw[u]at e;cases e;exact vf (n:=57) (SqL.of v) (SqL.of i) (by rw[⇑m,⇑c]) (CG (n:=56) m c)
 |1,a,b=>cases a;cases b;exact pT _
 |j+2,a,b=>simp at a
theorem o9{K:W.Frag}{H:Hp}{Q:VK}{a b:HA}{xs ys:L0 V}(e:SqL K H a xs)(d:SqL K H b ys)(c:⇑xs=⇑ys)(h:∀(j:Nat)(x y:V),xs[j]?=LH x->ys[j]?=LH y->DEq K H 60 x y LJ)(q:Q (.bl LK) H):xQ K LJ (.ref a) (.ref b) H Q:=by
 calc⟨a,b,xs,ys,U,U,e,d,.inr ⟨c,λ_=>LJ,h,?_⟩⟩;rw[show(List.range ⇑xs).all (λ_=>LJ)=LJ by simp];calc q
theorem rq{K:W.Frag}{H:Hp}{xs ys:L0 V}{rws:L0 Rw}(h:RL NT H xs rws)(h':RL NT H ys rws)(j:Nat)(x y:V)(f:xs[j]?=LH x)(e:ys[j]?=LH y):DEq K H 60 x y true:=by
 let(r,w,rfl,d,c):=aI.get h f;let(i,g,rfl,a,b):=aI.get h' e;rw[d]at a;cases a;calc Af c b
def bU(lo hi:Int)(a:L0 Int):L0 (Int×Int):=(lo :: a).zip (a.map (· - 1)++[hi])
def Chn:L0 (Int×Int)->Int->Int->Prop
 | [],lo,hi=>lo=hi+1
 |p :: r,lo,hi=>p.1=lo/\lo<=p.2/\Chn r (p.2+1) hi
theorem rz:∀{a:L0 Int}{lo hi:Int},a.Pairwise (· < ·)->(∀c∈a,lo<c/\c<=hi)->lo<=hi->Chn (bU lo hi a) lo hi
 | [],lo,hi,_,_,h=>⟨U,h,U⟩
 |c :: a,lo,hi,hp,hb,h=>by
  let(i,g):=qg.mp hp;let f:=hb c dn;let e:bU lo hi (c :: a)=(lo,c-1) :: bU c hi a:=rfl;rw[e];refine⟨U,by show lo<=c-1;lia,?_⟩;show Chn (bU c hi a) (c-1+1) hi;rw[show c-1+1=c by lia];calc rz g (λd b=>⟨i d b,(hb d<|fo _ b).2⟩) f.2
theorem fS(lo hi:Int)(a:L0 Int):⇑(bU lo hi a)=⇑a+1:=by simp[bU]
theorem PL.of_get{H:Hp}:∀{ts:L0 HA}{ps:L0 (Int×Int)},⇑ts=⇑ps->(∀(j:Nat)(p:Int×Int),ps[j]?=LH p->∃T,ts[j]?=LH T/\H T=LH (.tup [.int p.1,.int p.2]))->PL H (ts.map V.ref) ps
 | [],[],_,_=>.nil
 | [],p :: ps,h,_=>by simp at h
 |t :: ts,[],h,_=>by simp at h
 |t :: ts,p :: ps,h,g=>by
  let(T,c,b):=g 0 p U;let:t=T:= ~~~c
  subst this;calc .cons ⟨t,U,b⟩<|PL.of_get (~~~h) λj q a=>~~~g (j+1) q (~~~a)
theorem zip_get{lo hi:Int}{a:L0 Int}{j:Nat}{p:Int×Int}(e:(bU lo hi a)[j]?=LH p):((lo :: a).map V.int)[j]?=LH (.int p.1)/\((a.map (· - 1)++[hi]).map V.int)[j]?=LH (.int p.2):=by
 unfold bU at e;rw[tI]at e;let(c,b):=e;calc⟨get_map c,get_map b⟩
def mQ(lo hi:Int)(a:L0 Int)(m:Int):L0 Int:=if lo<m/\m<=hi/\m ∉ a then a++[m]else a
def dd(lo hi:Int)(ms:L0 Int):L0 Int:=ms.foldl (mQ lo hi) []
theorem uh(lo hi:Int):∀(ms d:L0 Int),d.Nodup->(ms.foldl (mQ lo hi) d).Nodup/\∀c,c∈ms.foldl (mQ lo hi) d↔(c∈d\/(c∈ms/\lo<c/\c<=hi))
 | [],d,h=>⟨h,λc=>by simp⟩
 |m :: ms,d,h=>by
  let j:(mQ lo hi d m).Nodup:=by
   unfold mQ;split
   .rename_i g
    rw[uz];refine⟨h,by simp,λa i b f=>?_⟩;let:b=m:= ~~~f
    subst this;exact λz=>g.2.2<|z ▸ i
   .exact h
  let(l,k):=uh lo hi ms (mQ lo hi d m) j;calc⟨l,λc=>(k c).trans ?_⟩;unfold mQ;by_cases g:lo<m/\m<=hi/\m ∉ d
  .rw[LO g];simp only[hZ,bL,jt,or_false];constructor
   .rintro((h|rfl)|⟨h,h'⟩)
    .exact .inl h
    .exact .inr ⟨.inl U,g.1,g.2.1⟩
    .exact .inr ⟨.inr h,h'⟩
   .rintro(h|⟨rfl|h,h'⟩)
    .exact .inl<|.inl h
    .exact .inl<|.inr U
    .exact .inr ⟨h,h'⟩
  .rw[LN g];simp only[bL];constructor
   .rintro(h|⟨h,h'⟩)
    .exact .inl h
    .exact .inr ⟨.inr h,h'⟩
   .rintro(h|⟨rfl|h,h'⟩)
    .exact .inl h
    .by_cases e:c∈d
     .exact .inl e
     .exact LP ⟨h'.1,h'.2,e⟩ g
    .exact .inr ⟨h,h'⟩
theorem ui{lo hi:Int}{ms a:L0 Int}(f:a.Pairwise (· < ·))(g:∀c,c∈a↔(c∈ms/\lo<c/\c<=hi)):⇑a=⇑(dd lo hi ms):=by
 let(i,d):=uh lo hi ms [] wo;let e:∀c,c∈a↔c∈dd lo hi ms:=λc=>by
  rw[g c];exact⟨λh=>(d c).mpr<|.inr h,λh=>by rcases(d c).mp h with z|z;cases z;exact z⟩
 calc Nat.le_antisymm (bu (f.imp λh=>Int.ne_of_lt h) λx b=>(e x).mp b)<|bu i λx b=>(e x).mpr b
theorem DY(lo hi:Int)(ms:L0 Int):⇑(dd lo hi ms)<=⇑ms:=by
 let(c,b):=uh lo hi ms [] wo;exact bu c λx a=>by rcases(b x).mp a with z|z;cases z;calc z.1
def gl(ps:L0 (Int×Int))(a:L0 (L0 Int))(j:Nat):Nat:=⇑(dd (ps.getD j (0,0)).1 (ps.getD j (0,0)).2<|a.getD j [])+1
def gr(ps:L0 (Int×Int))(a:L0 (L0 Int)):Nat->Nat
 |0=>1
 |n+1=>gr ps a n*gl ps a n
theorem DZ{ps:L0 (Int×Int)}{a:L0 (L0 Int)}(h:∀ms∈a,⇑ms<=400)(j:Nat):gl ps a j<=401:=by
 unfold gl;let:=DY (ps.getD j (0,0)).1 (ps.getD j (0,0)).2<|a.getD j [];let b:⇑(a.getD j [])<=400:=by
  rw[ik];cases e:a[j]? with
  |none=>simp
  |some ms=>exact h ms (Il e)
 lia
theorem Bm{ps:L0 (Int×Int)}{c:L0 (L0 Int)}(h:∀ms∈c,⇑ms<=400):∀n,gr ps c n<=401^n
 |0=>wX _
 |n+1=>by
  let a:=Bm (ps:=ps) h n;let b:=DZ (ps:=ps) h n;show gr ps c n*gl ps c n<=401^n*401;calc Nat.mul_le_mul a b
def MLs(H:Hp)(c:L0 HA)(a:L0 (L0 Int)):Prop:=⇑c=⇑a/\∀(j:Nat)(b:L0 Int),a[j]?=LH b->∃r,c[j]?=LH r/\H r=LH (.lst<|b.map V.int)
def MLs.keep{H H':Hp}{b:L0 HA}{a:L0 (L0 Int)}(h:MLs H b a)(k:∀r∈b,∀o,H r=LH o->H' r=LH o):MLs H' b a :=
 ⟨h.1,λj c e=>let ⟨r,e1,e2⟩:=h.2 j c e;⟨r,e1,k r (Il e1) _ e2⟩⟩
def MLs.same{H H':Hp}{b:L0 HA}{a:L0 (L0 Int)}(h:MLs H b a)(s:ak H H'):MLs H' b a:=h.keep λ_ _ _ e=>s _ _ e
theorem yE{a:L0 HA}{j:Nat}{x:V}(e:(a.map V.ref)[j]?=LH x):∃r,x=.ref r/\a[j]?=LH r:=by
 rw[gM]at e;cases h:a[j]? with
 |none=>rw[h]at e;cases e
 |some r=>rw[h]at e;cases e;calc⟨r,U,U⟩
def MOK(ps:L0 (Int×Int))(a:L0 (L0 Int)):Prop:=⇑ps=⇑a/\⇑ps<=6/\∀ms∈a,⇑ms<=400
abbrev Tri:=Int×Int×V
def T3(H:Hp)(xs:L0 V)(ts:L0 Tri):Prop:=⇑xs=⇑ts/\∀(i:Nat)(t:Tri),ts[i]?=LH t->∃r:HA,xs[i]?=LH (.ref r)/\H r=LH (.tup [.int t.1,.int t.2.1,t.2.2])
structure At(ts:L0 Tri)(c:Int)(j:Nat)(t:Tri):Prop where
 at_:ts[j]?=LH t
 le:c<=t.2.1
 lt:∀(i:Nat)(u:Tri),i<j->ts[i]?=LH u->u.2.1<c
theorem Bo:∀{c:L0 (Int×Int)}{lo hi:Int},Chn c lo hi->Aa c lo hi
 | [],_,_,h=>h
 |_ :: _,_,_,h=>⟨h.1,h.2.1,Bo h.2.2⟩
theorem rA:∀{a:L0 Int}{lo hi c:Int},a.Pairwise (· < ·)->(∀x∈a,lo<x)->lo<=c->c<=hi->b9 (bU lo hi a) c<=c/\(b9 (bU lo hi a) c=lo\/b9 (bU lo hi a) c∈a)/\lo<=b9 (bU lo hi a) c/\∀x∈a,x<=c->x<=b9 (bU lo hi a) c
 | [],lo,hi,c,_,_,h1,h2=>by
  let e:b9 (bU lo hi []) c=lo:=by simp[bU,b9,h2]
  rw[e];exact⟨h1,.inl U,Int.le_refl _,λx b=>by cases b⟩
 |d :: a,lo,hi,c,hp,hb,h1,h2=>by
  let(h,j):=qg.mp hp;let e:bU lo hi (d :: a)=(lo,d-1) :: bU d hi a:=rfl;by_cases q:c<=d-1
  .let g:b9 (bU lo hi (d :: a)) c=lo:=by rw[e];unfold b9;rw[nK (~~~q)];rfl
   rw[g];calc⟨h1,.inl U,Int.le_refl _,λx b i=>?_⟩;rcases bL.mp b with rfl|b
   .lia
   .let:=h x b;lia
  .let g:b9 (bU lo hi (d :: a)) c=b9 (bU d hi a) c:=by rw[e];unfold b9;rw[nL (~~~q)]
   rw[g];let(m,f,l,k):=rA j h (c:=c) ∅ h2;let n:=hb d dn;refine⟨m,.inr ?_,∅,λx b i=>?_⟩
   .rcases f with f|f
    .rw[f];exact dn
    .exact fo _ f
   .rcases bL.mp b with rfl|b
    .exact l
    .exact k x b i
def CoL(H:Hp)(xs:L0 V)(a:L0 (List<|Int×Int)):Prop:=aI xs a λr c=>∃b,H r=LH (.lst b)/\PL H b c
def CoL.same{H H':Hp}{xs:L0 V}{a:L0 (List<|Int×Int)}(h:CoL H xs a)(s:ak H H'):CoL H' xs a:=aI.mono h λ_ _ ⟨b,e,p⟩=>⟨b,s _ _ e,PL.mono p s.tups⟩
structure CH{K':W.Frag}{L:Type} [DecidableEq L] (A:Lfp K' L)(P:Fw)(w:Fn)(K:W.Frag)(mg:Str->Option Fe)(base:HB)(f:HA)(m:Nat)(g:L0 Int->L)(J:Hp->Prop):Prop where
 fn:∃sp,HFn P w K mg base 8 f sp/\∀(H:Hp)(a:HA)(cs:L0 Int)(Q:VK),J H->⇑cs=m->H a=LH (.lst<|cs.map V.int)->(∀v H',(∀b o,b≠a->H b=LH o->H' b=LH o)->A.R H' (g cs) v->Q v H')->sp [.ref a] H Q E0
 ob:∀H,J H->FnO H f
 st:∀H H',J H->ak H H'->J H'
theorem pd{a:Type} [DecidableEq a] (ts:L0 (T3a a)):⇑(gj ts)<=⇑ts:=by
 let:∀(r f:L0 (T3a a)),⇑(r.foldl cA f)<=⇑f+⇑r:=by
  intro r;induction r with
  |nil=>intro f;exact wX _
  |cons t r b =>
   intro f;let d:⇑(cA f t)<=⇑f+1:=by
    unfold cA;split
    .split
     .rw[dV,List.length_dropLast,ie];lia
     .rw[dV,ie];lia
    .rw[dV,ie];lia
   let c:=b<|cA f t;rw[gb];show(⇑(r.foldl cA<|cA f t))<=_;lia
 let h:=this ts [];rw[List.length_nil,zh]at h;calc h
def below(ms:L0 Int)(c:Int):Int:=(⇑(ms.filter λm=>decide<|m<=c):Int)
def CI(a:L0 (L0 Int))(b:Int)(c:L0 Int):Nat->Int
 |0=>0
 |k+1=>CI a b c k*b+(1+CI a b c k)%3*below (a.getD k []) (c.getD k 0)
def told(a:L0 (L0 Int))(c d st:Int)(b:L0 Int):Int:=CI a c b ⇑b%d*st
def SmS{a:Type}(b:Nat)(S:a->Prop)(f:L0 (T3a a)):Prop:=⇑f<=b/\∀t∈f,S t.2.2
def SmF{L:Type}(b:Nat):(n:Nat)->Fm L n->Prop
 |0,_=>True
 |n+1,f=>SmS b (SmF b n) f
theorem uj{b:Nat}{L:Type} [DecidableEq L] {g:L0 Int->L}:∀{a:L0 (List<|Int×Int)}{ps:L0 (Int×Int)},gD a ps->(∀c∈a,⇑c<=b)->∀e:L0 Int,SmF b ⇑a (lay g a e)
 | [],_,_,_,_=>trivial
 |c :: a,_,hok,h,e=>by
  cases hok with
  | @cons _ _ p ps hne d hok =>
   let k:=fP<|yr (λq=>lay g a<|e++[q.1]) d;refine⟨xc (pd _) (by rw[bc];exact h c dn),λt f=>?_⟩;let(l,j,i):=k.mem t f;let(q,_,rfl):=dy.mp j;rw[←i];calc uj hok (λc d=>h c<|fo _ d) _
theorem uk:∀{ps:L0 (Int×Int)}{css:L0 (L0 Int)},⇑css=⇑ps->(∀p∈ps,p.1<=p.2)->(∀(j:Nat)(p:Int×Int)(d:L0 Int),ps[j]?=LH p->css[j]?=LH d->d.Pairwise (· < ·)/\∀c∈d,p.1<c/\c<=p.2)->gD (List.zipWith (λp d=>bU p.1 p.2 d) ps css) ps
 | [],[],_,_,_=>.nil
 | [],_ :: _,h,_,_=>by simp at h
 |_ :: _,[],h,_,_=>by simp at h
 |p :: ps,d :: css,h,hle,hk=>by
  let(a,b):=hk 0 p d U U;calc .cons (λz=>?_) (Bo<|rz a b<|hle p dn)<|uk (~~~h) (λq e=>hle q<|fo _ e) λj q c g f=>hk (j+1) q c (~~~g)<|~~~f;let:=LU List.length z;rw[fS]at this;simp at this
def oi{L M:Type} [DecidableEq M] (h:L->M):(n:Nat)->Fm L n->Fm M n
 |0,x=>h x
 |n+1,f=>gj<|List.map (λt:T3a (Fm L n)=>((t.1,t.2.1,oi h n t.2.2):T3a (Fm M n))) f
theorem pU{b a:Type}(F:b->a):∀{f:L0 (T3a b)}{lo hi:Int},Ch3 f lo hi->Ch3 (f.map λt=>((t.1,t.2.1,F t.2.2):T3a a)) lo hi
 | [],_,_,h=>h
 |_ :: _,_,_,h=>⟨h.1,h.2.1,pU F h.2.2⟩
theorem rB{b a:Type}(F:b->a)(c:Int):∀f:L0 (T3a b),vAt (f.map λt=>((t.1,t.2.1,F t.2.2):T3a a)) c=(vAt f c).map F
 | []=>rfl
 |t :: f=>by
  let d:=rB F c f;unfold vAt at d⊢;rw[jc];by_cases q:c<=t.2.1
  .rw[nK (~~~q),nK (~~~q)];rfl
  .rw[nL (~~~q),nL (~~~q)];calc d
theorem iF{a:Type}{c:Int}:∀{f:L0 (T3a a)}{j:Nat}{t:T3a a},f[j]?=LH t->c<=t.2.1->(∀(i:Nat)(u:T3a a),i<j->f[i]?=LH u->u.2.1<c)->vAt f c=LH t.2.2
 | [],j,t,e,_,_=>by simp at e
 |u :: f,0,t,e,h,_=>by
  cases e;unfold vAt;rw[nK (~~~h)];rfl
 |u :: f,j+1,t,e,h,k=>by
  let b:=k 0 u (A6 _) U;let:=iF (f:=f) (j:=j) (t:=t) (~~~e) h λi w hi d=>k (i+1) w ∅ (~~~d)
  unfold vAt at this⊢;rw[nL (~~~b)];calc this
theorem yF{L M:Type} [DecidableEq M] {h:L->M}:∀{n:Nat}{F:Fm L n}{ps:L0 (Int×Int)},cH n F ps->cH n (oi h n F) ps
 |0,_,_,hs=>hs
 |n+1,F,ps,hs=>by
  let(G,rfl):∃G:L0 (T3a<|Fm L n),(G:Fm L (n+1))=F:=⟨F,U⟩;let(p,r,rfl,c,d,i,g):ShS (cH n) G ps:=hs;let k:=fP<|pU (oi h n) d;calc⟨p,r,U,k.ne<|~~~c,k.ch,k.nb,λt f=>?_⟩;let(j,a,b):=k.mem t f;let(u,e,rfl):=dy.mp a;rw[←b];calc yF<|g u e
theorem Ag{L M:Type} [DecidableEq M] {h:L->M}{n:Nat}{F:Fm L n}{a:L0 Int}{x:L}(i:Tel n F a x):∀{ps:L0 (Int×Int)},cH n F ps->InB a ps->Tel n (oi h n F) a (h x):=by
 induction i with
 |nil x=>intro ps _ _;exact .nil<|h x
 | @cons n f c a x j t e1 e2 e3 _ ih =>
  intro ps l d;let(p,r,rfl,w,e,y,q):ShS (cH n) f ps:=l;cases d with
  |cons o m d =>
   let k:=fP<|pU (oi h n) e;let(z,g,v,A,u,s,b):=k.ch.at o m;rw[k.va,rB,iF e1 e2 e3]at b;let b:oi h n t.2.2=g.2.2:=Option.some.inj b;calc .cons (f:=(oi h (n+1) f:L0 (T3a<|Fm M n))) v u s ?_;rw[←b];calc ih (q t<|Il e1) d
structure D1{K':W.Frag}{L M:Type} [DecidableEq L] [DecidableEq M] (A:Lfp K' L)(B:Lfp K' M)(P:Fw)(w:Fn)(K:W.Frag)(mg:Str->Option Fe)(base:HB)(f:HA)(h:L->M)(J:Hp->Prop):Prop where
 fn:∃sp,HFn P w K mg base 8 f sp/\∀(H:Hp)(v:V)(x:L)(Q:VK),J H->A.R H x v->(∀u H',ak H H'->B.R H' (h x) u->Q u H')->sp [v] H Q E0
 ob:∀H,J H->FnO H f
 st:∀H H',J H->ak H H'->J H'
theorem _root_._L.Ch3.le{a:Type}:∀{f:L0 (T3a a)}{lo hi:Int},Ch3 f lo hi->lo<=hi+1
 | [],_,_,h=>Int.le_of_eq h
 |t :: f,lo,hi,h=>by have:=_L.Ch3.le h.2.2;let:=h.2.1;lia
theorem eS{a:Type}(t:T3a a)(r:L0 (T3a a))(c:Int):vAt (t :: r) c=if c<=t.2.1 then LH t.2.2 else vAt r c:=by
 unfold vAt;by_cases h:c<=t.2.1
 .rw[nK (~~~h),LO h];rfl
 .rw[nL (~~~h),LN h]
theorem SmF.le{L:Type}{b a:Nat}:∀{n:Nat}{F:Fm L n},SmF b n F->b<=a->SmF a n F
 |0,_,_,_=>trivial
 |n+1,F,h,l=>by
  let(f,rfl):∃f:L0 (T3a<|Fm L n),(f:Fm L (n+1))=F:=⟨F,U⟩;let(e,d):SmS b (SmF b n) f:=h;calc⟨xc e l,λt c=>SmF.le (d t c) l⟩
theorem Ah{ps:L0 (Int×Int)}{css:L0 (L0 Int)}{a:L0 Int}{k:Nat}{p:Int×Int}{ks:L0 Int}{c:Int}(b:ps[k]?=LH p)(d:css[k]?=LH ks)(e:a[k]?=LH c):(List.zipWith b9 (List.zipWith (λp a=>bU p.1 p.2 a) ps css) a)[k]?=LH (b9 (bU p.1 p.2 ks) c):=by
 rw[rX,rX,b,d,e]
theorem pe{d:Type}:∀{f g:L0 (T3a d)}{lo hi:Int},Ch3 f lo hi->Ch3 g lo hi->Nbx (f.map (·.2.2))->Nbx (g.map (·.2.2))->(∀c,lo<=c->c<=hi->vAt f c=vAt g c)->f=g
 | [],[],_,_,_,_,_,_,_=>rfl
 | [],t :: g,lo,hi,j,e,_,_,_=>by
  let j:lo=hi+1:=j;let:=e.2.1;let:=e.2.2.le;lia
 |s :: f,[],lo,hi,j,e,_,_,_=>by
  let e:lo=hi+1:=e;let:=j.2.1;let:=j.2.2.le;lia
 |s :: f,t :: g,lo,hi,j,e,nf,ng,hv=>by
  let(C,B,p):=j;let(A,z,o):=e;let Q:=p.le;let P:=o.le;let k:=hv lo ∅ ∅;rw[eS,eS,LO B,LO z]at k;let k:s.2.2=t.2.2:=Option.some.inj k;let l:∀{a b:T3a d}{r:L0 (T3a d)}{q:L0 (T3a d)},Ch3 r (a.2.1+1) hi->Nbx ((a :: r).map (·.2.2))->a.2.1<b.2.1->b.2.1<=hi->lo<=a.2.1->a.2.2=b.2.2->vAt (a :: r) (a.2.1+1)=vAt (b :: q) (a.2.1+1)->False:=λ{a b r q} m D T S R E n=>by
   rw[eS,eS,LN ∅,LO ∅]at n;cases r with
   |nil =>
    let m:a.2.1+1=hi+1:=m;lia
   |cons u r =>
    rw[eS,LO m.2.1]at n;exact D 0 _ _ U U<|E.trans (Option.some.inj n).symm
  let v:s.2.1=t.2.1:=by
   rcases Int.lt_trichotomy s.2.1 t.2.1 with h|h|h
   .exact(l p nf h ∅ B k (hv _ ∅ ∅)).elim
   .exact h
   .exact(l o ng h ∅ z k.symm (hv _ ∅ ∅).symm).elim
  let I:s=t:=by
   let(O,s2,N):=s;let(M,L,K):=t;simp only at C A k v;rw[C,A,k,v]
  let w:∀{d:Type}{a:d}{r:L0 d},Nbx (a :: r)->Nbx r:=λ{d a r} h i x y G F=>h (i+1) x y (~~~G)<|~~~F
  let H:f=g:=pe p (by rw[v];exact o) (w nf) (w ng) λc V J=>by
   let:=hv c ∅ J;rw[eS,eS,LN ∅,LN ∅]at this;exact this
  rw[I,H]
section
variable{L:Type}
theorem _root_._L.Tel.inv{n:Nat}{g:L0 (T3a<|Fm L n)}{c:Int}{e:L0 Int}{y:L}(h:Tel (n+1) (g:Fm L (n+1)) (c :: e) y):∃(j:Nat)(t:T3a (Fm L n)),g[j]?=LH t/\c<=t.2.1/\(∀(i:Nat)(u:T3a (Fm L n)),i<j->g[i]?=LH u->u.2.1<c)/\Tel n t.2.2 e y:=by
 cases h with
 |cons a b c d=>calc⟨_,_,a,b,c,d⟩
theorem fu{n:Nat}{F:Fm L n}{b:L0 Int}{x:L}(h:Tel n F b x):∀{y:L},Tel n F b y->x=y:=by
 induction h with
 |nil x=>intro y a;cases a;rfl
 | @cons n f c b x j t e1 e2 e3 _ ih =>
  intro y a;let(m,l,k,i,g,d):=a.inv;let e:=(iF e1 e2 e3).symm.trans<|iF k i g;rw[←Option.some.inj e]at d;calc ih d
theorem iG:∀{n:Nat}{F G:Fm L n}{ps:L0 (Int×Int)},cH n F ps->cH n G ps->(∀b,InB b ps->∀x y,Tel n F b x->Tel n G b y->x=y)->F=G
 |0,F,G,ps,a,_,hv=>by
  let a:ps=[]:=a;subst a;exact hv [] .nil F G (.nil F) (.nil G)
 |n+1,F,G,ps,a,hs',hv=>by
  let(f,rfl):∃f:L0 (T3a<|Fm L n),(f:Fm L (n+1))=F:=⟨F,U⟩;let(g,rfl):∃g:L0 (T3a<|Fm L n),(g:Fm L (n+1))=G:=⟨G,U⟩;let(p,r,rfl,J,d,k,w):ShS (cH n) f ps:=a;let(M,K,e,Q,q,H,I):ShS (cH n) g (p :: r):=hs';cases e;refine pe d q k H λc i h=>?_
  let(j,t,m,O,B,A,z):=d.at i h;let(N,s,o,P,E,D,C):=q.at i h;rw[z,C];rw[iG (w t<|Il m) (I s<|Il o) λb l x y v u=>hv (c :: b) (.cons i h l) x y (.cons m B A v) (.cons o E D u)]
end
theorem pV:∀{a:L0 Int}{ps:L0 (Int×Int)},⇑a=⇑ps->(∀(j:Nat)(c:Int)(p:Int×Int),a[j]?=LH c->ps[j]?=LH p->p.1<=c/\c<=p.2)->InB a ps
 | [],[],_,_=>.nil
 | [],_ :: _,h,_=>by simp at h
 |_ :: _,[],h,_=>by simp at h
 |c :: a,p :: ps,h,k=>.cons (k 0 c p U U).1 (k 0 c p U U).2<|pV (~~~h) λj x q d b=>k (j+1) x q (~~~d)<|~~~b
theorem pW{b:Type}:∀{f:L0 (T3a b)}{lo hi:Int}{j:Nat}{s:T3a b},Ch3 f lo hi->f[j]?=LH s->lo<=s.1/\s.1<=s.2.1/\s.2.1<=hi/\(∀t,f[j+1]?=LH t->t.1=s.2.1+1)/\(∀(i:Nat)(u:T3a b),i<j->f[i]?=LH u->u.2.1<s.1)/\(j=0->s.1=lo)
 | [],_,_,j,s,_,e=>by simp at e
 |t :: f,lo,hi,0,s,h,e=>by
  cases e;let d:=h.1;let c:=h.2.1;let o:=h.2.2.le;calc⟨∅,∅,∅,λt e=>?_,λi u hi=>LP hi<|zl i,λ_=>d⟩;cases f with
  |nil=>simp at e
  |cons u f=>simp at e;subst e;exact h.2.2.1
 |t :: f,lo,hi,j+1,s,h,e=>by
  let g:f[j]?=LH s:= ~~~e
  let(q,n,m,l,k,p):=pW (f:=f) h.2.2 g;let c:=h.2.1;refine⟨∅,n,m,λt e=>l t<|~~~e,λi u hi a=>?_,λz=>∅⟩
  match i,a with
  |0,a=>cases a;lia
  |i+1,a=>calc k i u ∅ (~~~a)
section
variable{L:Type}
theorem yG{n:Nat}{f:L0 (T3a<|Fm L n)}{lo hi:Int}{j:Nat}{t:T3a (Fm L n)}{c:Int}{a:L0 Int}{x:L}(h:Ch3 f lo hi)(e:f[j]?=LH t)(l:t.1<=c)(d:c<=t.2.1)(b:Tel n t.2.2 a x):Tel (n+1) (f:Fm L (n+1)) (c :: a) x:=by
 let(_,_,_,_,k,_):=pW h e;calc .cons e d (λi u hi g=>by have:=k i u hi g;lia) b
end
theorem ly{d:Type}:∀{f:L0 (T3a d)}{lo hi:Int},Ch3 f lo hi->(f.map (·.1)).Pairwise (· < ·)/\∀t∈f,lo<=t.1
 | [],_,_,_=>⟨.nil,λt g=>by cases g⟩
 |t :: f,lo,hi,h=>by
  let(a,b):=ly h.2.2;let j:=h.1;let i:=h.2.1;refine⟨.cons (λx e=>?_) a,λu c=>?_⟩
  .let(u,c,rfl):=dy.mp e;let:=b u c;show t.1<u.1;lia
  .rcases bL.mp c with rfl|c
   .lia
   .let:=b u c;lia
theorem wF{n:Nat}(h:n<=2000):n<HL:=Nat.lt_of_le_of_lt h ⋯
theorem gk{c d:Type}{R:c->d->Prop}:∀{xs:L0 c}{f:L0 d}{i:Nat}{x:c},Paired R xs f->xs[i]?=LH x->∃a,f[i]?=LH a/\R x a
 |_,_,_,_,.nil,e=>by simp at e
 |_,_,0,_,.cons (b:=b) h _,e=>by simp at e;subst e;exact⟨b,U,h⟩
 |_,_,i+1,x,.cons _ tl,e=>by
  let(a,q):=gk (i:=i) (x:=x) tl<|~~~e;calc⟨a,~~~q.1,q.2⟩
theorem um{c b:Type}{R:c->b->Prop}{xs ys:L0 c}{d bs:L0 b}(h:Paired R xs d)(h':Paired R ys bs):Paired R (xs++ys) (d++bs):=by
 induction h with
 |nil=>exact h'
 |cons a _ e=>calc .cons a e
theorem yH{K:W.Frag}{H:Hp}{Q:VK}{a b:HA}{xs ys:L0 V}(d:H a=LH (.tup xs))(c:H b=LH (.tup ys))(hz:⇑xs+⇑ys<=HL)(q:∀(r:HA)(H':Hp),ak H H'->H' r=LH (.tup<|xs++ys)->Q (.ref r) H'):tJ K (.ref a) (.ref b) H Q:=by
 refine⟨a,b,xs,ys,U,U,SqT.of d,SqT.of c,hz,λz=>?_,λ_ z=>?_,λ_ _ p e=>q p _ (ag e _) ae⟩
 .subst z;exact q b H (ak.refl _) c
 .subst z;calc q a H (ak.refl _) (by rw[iP];exact d)
def BxA(H:Hp)(a:HA)(B:L0 (Int×Int)):Prop:=∃b,H a=LH (.tup b)/\PL H b B
theorem BxA.mono{H H':Hp}{a:HA}{B:L0 (Int×Int)}(h:BxA H a B)(s:cm H H'):BxA H' a B:=by let(b,e,p):=h;calc⟨b,s _ _ e,p.mono s⟩
def bxs{L:Type}:(n:Nat)->Fm L n->L0 (L0 (Int×Int)×L)
 |0,f=>[([],f)]
 |n+1,l=>List.flatMap (λe:T3a (Fm L n)=>(bxs n e.2.2).map λq=>((e.1,e.2.1) :: q.1,q.2)) l
def vh{L:Type}(n:Nat)(l m:L0 (T3a<|Fm L n)):bxs (n+1) (show Fm L (n+1)from l++m)=bxs (n+1) (show Fm L (n+1)from l)++bxs (n+1) (show Fm L (n+1)from m):=List.flatMap_append
theorem Ai{L:Type}(n:Nat)(e:T3a (Fm L n)):bxs (n+1) (show Fm L (n+1) from[e])=(bxs n e.2.2).map λq=>((e.1,e.2.1) :: q.1,q.2):=by
 show List.flatMap (λe:T3a (Fm L n)=>(bxs n e.2.2).map λq=>((e.1,e.2.1) :: q.1,q.2)) [e]=_;rw[List.flatMap_singleton]
def BxL(H:Hp):L0 V->L0 (L0 (Int×Int)×Int)->Prop:=Paired λx q=>∃(t b:HA),x=.ref t/\H t=LH (.tup [.ref b,.int q.2])/\BxA H b q.1
theorem uo{L:Type}{n:Nat}{f:L0 (T3a<|Fm L n)}{q:L0 (Int×Int)×L}:q∈bxs (n+1) (f:Fm L (n+1))↔∃e∈f,∃r∈bxs n e.2.2,q=((e.1,e.2.1) :: r.1,r.2):=by
 constructor
 .intro h;let(e,b,c):=uy.mp h;let(r,a,rfl):=dy.mp c;exact⟨e,b,r,a,U⟩
 .rintro⟨e,b,r,a,rfl⟩;calc uy.mpr ⟨e,b,dy.mpr ⟨r,a,U⟩⟩
structure CJ(B ps:L0 (Int×Int)):Prop where
 len:B.length=⇑ps
 get:∀(k:Nat)(b p:Int×Int),B[k]?=LH b->ps[k]?=LH p->p.1<=b.1/\b.1<=b.2/\b.2<=p.2
theorem CJ.lows{B ps:L0 (Int×Int)}(h:CJ B ps):InB (B.map (·.1)) ps:=pV (by rw[bc,h.len]) λj c p a e=>by
 rw[gM]at a;let(b,d,rfl):=EW.mp a;let:=h.get j b p d e;calc⟨this.1,∅⟩
theorem mR{L:Type}:∀{n:Nat}{F:Fm L n}{ps:L0 (Int×Int)},cH n F ps->∀q∈bxs n F,CJ q.1 ps/\Tel n F (q.1.map (·.1)) q.2/\Tel n F (q.1.map (·.2)) q.2
 |0,F,ps,c,q,d=>by
  let c:ps=[]:=c;let d:q∈[(([]:L0 (Int×Int)),F)]:=d;rw[fc.mp d,c];exact⟨⟨U,λk b p e=>by simp at e⟩,.nil _,.nil _⟩
 |n+1,F,ps,c,q,d=>by
  let(f,rfl):∃f:L0 (T3a<|Fm L n),(f:Fm L (n+1))=F:=⟨F,U⟩;let(p,r,rfl,A,a,B,w):ShS (cH n) f ps:=c;let(e,o,t,m,rfl):=uo.mp d;let(j,v,g):=List.getElem_of_mem o;let g:f[j]?=LH e:=by rw[Ij v,g]
  obtain⟨z,l,y,-,-,-⟩:=pW a g;let(s,b2,x):=mR (w e o) t m;refine⟨⟨by rw[gb,gb,s.len],λk b u i h=>?_⟩,yG a g (Int.le_refl _) l b2,yG a g l (Int.le_refl _) x⟩
  match k,i,h with
  |0,i,h=>cases i;cases h;exact⟨z,l,y⟩
  |k+1,i,h=>calc s.get k b u (~~~i) (~~~h)
inductive Asc:L0 (Int×Int)->L0 (Int×Int)->Prop
 |here {a b:Int×Int}{A B:L0 (Int×Int)}:a.1<b.1->a.2<b.1->Asc (a :: A) (b :: B)
 |there {a:Int×Int}{A B:L0 (Int×Int)}:Asc A B->Asc (a :: A) (a :: B)
theorem Aj{A B:L0 (Int×Int)}(h:Asc A B):∃(k:Nat)(a b:Int×Int),A[k]?=LH a/\B[k]?=LH b/\a.1<b.1/\a.2<b.1/\∀(i:Nat),i<k->A[i]?=B[i]?:=by
 induction h with
 | @here a b A B d c=>exact⟨0,a,b,U,U,d,c,λi hi=>LP hi<|zl i⟩
 | @there a A B _ ih =>
  let(k,x,y,g,f,d,c,e):=ih;refine⟨k+1,x,y,~~~g,~~~f,d,c,λi hi=>?_⟩
  match i with
  |0=>rfl
  |i+1=>simpa using e i ∅
theorem yI{c:Type}:∀{f:L0 (T3a c)}{lo hi:Int},Ch3 f lo hi->f.Pairwise λa b=>a.1<b.1/\a.2.1<b.1
 | [],_,_,_=>.nil
 |t :: f,lo,hi,h=>by
  let g:=h.1;let e:=h.2.1;calc .cons (λu d=>?_)<|yI h.2.2;let:=(ly h.2.2).2 u d;calc⟨∅,∅⟩
theorem yJ{L:Type}:∀{n:Nat}{F:Fm L n}{ps:L0 (Int×Int)},cH n F ps->(bxs n F).Pairwise λq r=>Asc q.1 r.1
 |0,F,_,_=>tj _ _
 |n+1,F,ps,hs=>by
  let(f,rfl):∃f:L0 (T3a<|Fm L n),(f:Fm L (n+1))=F:=⟨F,U⟩;let(p,r,rfl,l,d,m,k):ShS (cH n) f ps:=hs;show(List.flatMap (λe:T3a (Fm L n)=>(bxs n e.2.2).map λq=>((e.1,e.2.1) :: q.1,q.2)) f).Pairwise _;rw[List.pairwise_flatMap];refine⟨λe j=>?_,(yI d).imp λ{a b} c x i y g=>?_⟩
  .rw[List.pairwise_map];exact(yJ<|k e j).imp λh=>.there h
  .let(s,_,rfl):=dy.mp i;let(o,_,rfl):=dy.mp g;calc .here c.1 c.2
theorem rC{a c:Type}{b:Nat}{F:a->L0 c}:∀{l:L0 a},(∀x∈l,⇑(F x)<=b)->⇑(l.flatMap F)<=⇑l*b
 | [],_=>wZ _
 |x :: l,h=>by
  let f:=h x dn;let e:=rC λy d=>h y<|fo _ d
  rw[List.flatMap_cons,dV,gb,Nat.succ_mul];lia
def TD(g h f:HA)(H:Hp)(t:HA)(c:L0 V)(bs:Prs)(rws:L0 Rw):Prop:=∃(b e d:HA)(fs:L0 (Str×V))(a:L0 V),H t=LH (.ins g e fs)/\fs.lookup s!"rows"=LH (.ref b)/\fs.lookup s!"domains"=LH (.ref d)/\H d=LH (.lst c)/\aI c bs (Dom h f H)/\H b=LH (.lst a)/\RL NT H a rws
theorem TD.same{c d b:HA}{H H':Hp}{t:HA}{a:L0 V}{bs:Prs}{rws:L0 Rw}(h:TD c d b H t a bs rws)(s:ak H H'):TD c d b H' t a bs rws:=by
 let(f,o,q,fs,e,n,m,l,k,j,i,g):=h;calc⟨f,o,q,fs,e,s _ _ n,m,l,s _ _ k,aI.mono j λ_ _ p=>p.same s,s _ _ i,g.same s⟩
theorem j4{H:Hp}{D:HA}{o:HO}:hide (upd H D o) D=hide H D:=by
 funext b
 unfold hide;by_cases h:b=D
 .rw[LO h,LO h]
 .rw[LN h,LN h,av h]
theorem iH{H H':Hp}{D:HA}(s:ak H H'):ak (hide H D) (hide H' D):=λb o e=>by
 unfold hide at e⊢;by_cases h:b=D
 .rw[LO h]at e;cases e
 .rw[LN h]at e⊢;calc s b o e
theorem dP(H:Hp)(D:HA):ak (hide H D) H:=λb o e=>by
 unfold hide at e;by_cases h:b=D
 .rw[LO h]at e;cases e
 .rw[LN h]at e;calc e
theorem MLs.nil{H:Hp}:MLs H [] []:=⟨U,λj a e=>by simp at e⟩
theorem MLs.snoc{H:Hp}{f:L0 HA}{a:L0 (L0 Int)}{r:HA}{ms:L0 Int}(h:MLs H f a)(e:H r=LH (.lst<|ms.map V.int)):MLs H (f++[r]) (a++[ms]):=by
 refine⟨by rw[dV,dV,h.1];rfl,λj m b=>?_⟩;by_cases d:j<⇑a
 .rw[iQ d]at b;let(g,k,i):=h.2 j m b;exact⟨g,by rw[iQ (by rw[h.1];exact d)];exact k,i⟩
 .rw[js ∅]at b;let c:j-⇑a=0:=by
   let:=(Ik.mp b).1;rw[ie]at this;lia
  rw[c]at b;cases b;calc⟨r,by rw[js (by rw[h.1];lia),h.1,c];rfl,e⟩
def rmk(c:Nat)(b:Int×Int)(w:Rw):L0 Int:=(ends<|w.1.getD c []).filter λt=>decide (b.1<t) && decide (t<=b.2)
def MkC(rws:L0 Rw)(c:Nat)(b:Int×Int)(x:Int):Prop:=∃w∈rws,x∈rmk c b w
theorem rD:∀R:Prs,⇑(ends R)=2*R.length
 | []=>rfl
 |p :: R=>by
  rw[vO,gb,gb,rD R,gb];lia
theorem vi{rws:L0 Rw}{c:Nat}{b:Int×Int}{x:Int}:x∈(rws.map<|rmk c b).flatten↔MkC rws c b x:=by
 rw[List.mem_flatten];constructor
 .rintro⟨l,e,a⟩;let(w,d,rfl):=dy.mp e;exact⟨w,d,a⟩
 .rintro⟨w,d,a⟩;calc⟨_,dy.mpr ⟨w,d,U⟩,a⟩
def CK:HO->Prop
 | .frz _ (.lst _)=>True
 | .frz _ _=>False
 | .tbl _=>False
 |_=>True
def So(H H':Hp):Prop:=∀d o,CK o->H d=LH o->H' d=LH o
def So.of{H H':Hp}(s:ak H H'):So H H':=λd o _ e=>s d o e
def So.trans{H f c:Hp}(a:So H f)(b:So f c):So H c:=λd o p e=>b d o p<|a d o p e
def So.tups{H H':Hp}(s:So H H'):cm H H':=λd a e=>s d _ trivial e
theorem So.lst{H H':Hp}{a:HA}{xs:L0 V}(s:So H H')(e:H a=LH (.lst xs)):H' a=LH (.lst xs):=s _ _ trivial e
theorem So.hide{H:Hp}{a:L0 HA}(f:Fzs H a):So H (hideL H a):=λd o p e=>by
 rw[bo (f.out e λz q=>by rw[q]at p;exact p)];calc e
section
variable{H H':Hp}(s:So H H')
include s
theorem SpA.so{N:HA->Prop}{l:HA}{ps:Prs}(h:SpA N H l ps):SpA N H' l ps:=by let(n,a,e,p):=h;calc⟨n,a,s _ _ trivial e,p.mono s.tups⟩
theorem RL.so{N:HA->Prop}{xs:L0 V}{rws:L0 Rw}(h:RL N H xs rws):RL N H' xs rws:=aI.mono h λ_ _ ⟨b,a,e,n,f,c⟩=>⟨b,a,s _ _ trivial e,n,s _ _ trivial f,aI.mono c λ_ _ p=>SpA.so s p⟩
theorem Dom.so{d c a:HA}{b:Int×Int}(h:Dom d c H a b):Dom d c H' a b:=by let(C,f,g,fs,e,r):=h;calc⟨C,f,g,fs,s _ _ trivial e,r⟩
theorem Tbl.so{b c a t:HA}{rws:L0 Rw}{i:Nat}{o:Int×Int}(h:Tbl b c a H t rws i o):Tbl b c a H' t rws i o:=by
 let(f,g,v,fs,d,e,u,r,q,p,n,m,l,k,j):=h;calc⟨f,g,v,fs,d,e,s _ _ trivial u,r,q,p,s _ _ trivial n,RL.so s m,l,Dom.so s k,j⟩
def MLs.so{b:L0 HA}{a:L0 (L0 Int)}(h:MLs H b a):MLs H' b a:=⟨h.1,λj c e=>let ⟨r,e1,e2⟩:=h.2 j c e;⟨r,e1,s _ _ trivial e2⟩⟩
theorem TD.so{c d b t:HA}{a:L0 V}{bs:Prs}{rws:L0 Rw}(h:TD c d b H t a bs rws):TD c d b H' t a bs rws:=by
 let(f,o,q,fs,e,n,m,l,k,j,i,g):=h;calc⟨f,o,q,fs,e,s _ _ trivial n,m,l,s _ _ trivial k,aI.mono j λ_ _ p=>Dom.so s p,s _ _ trivial i,RL.so s g⟩
end
def CM{ms L:L0 Int}(pw:ms.Pairwise (· < ·))(h:∀x∈ms,x∈L):⇑ms<=L.length:=bu (pw.imp λh=>Int.ne_of_lt h) h
structure RfH(cT cN cW:HA)(H:Hp)(t:HA)(dv:L0 V)(bs:Prs)(rws:L0 Rw)(L:Nat->L0 Int)(kk:Nat)(i:Nat)(o:Int×Int):Prop where
 td:TD cT cN cW H t dv bs rws
 tb:Tbl cT cN cW H t rws i o
 b4:⇑bs<=4
 r60:⇑rws<=60
 row:∀x∈rws,⇑x.1=⇑bs/\∀c,⇑(x.1.getD c [])<=6
 mrk:∀(c:Nat)(b:Int×Int),bs[c]?=LH b->⇑(L c)<=kk/\∀x,MkC rws c b x->x∈L c
 few:(kk+1)^⇑bs<=300
 k57:kk<=57
 le:∀p∈bs,p.1<=p.2
def dU(K:W.Frag)(H:Hp):Prop:=∀z,W.tabIn K "row_form" = LH z->dh H z.2 [(pQ Y64,"row_form.<locals>.<lambda>")]
theorem dU.same{K:W.Frag}{H H':Hp}(h:dU K H)(s:ak H H'):dU K H':=λz e=>(h z e).same s
structure rE(bs:Prs)(rws:L0 Rw)(cols:L0 (List<|Int×Int)):Prop where
 ok:gD cols bs
 ex:∃css:L0 (L0 Int),⇑css=⇑bs/\cols=List.zipWith (λp cs=>bU p.1 p.2 cs) bs css/\∀(j:Nat)(p:Int×Int)(cs:L0 Int),bs[j]?=LH p->css[j]?=LH cs->cs.Pairwise (· < ·)/\∀x,x∈cs↔MkC rws j p x
theorem mS{rws:L0 Rw}{c:Nat}{b:Int×Int}{x:Int}(h:MkC rws c b x):b.1<x/\x<=b.2:=by
 let(d,_,a):=h;let:=(kP.mp a).2;rw[Dx,LV,LV]at this;calc this
abbrev mkg(rws:L0 Rw)(a:L0 Int):Int:=((msk (bG rws a) ⇑rws:Nat):Int)
theorem SqT.hide{K:W.Frag}{H:Hp}{r D:HA}{xs zs:L0 V}(h:SqT K H r xs)(e:H D=LH (.lst zs)):SqT K (_M.hide H D) r xs:=by
 rcases h with(h|⟨x,h⟩)|h
 .exact .inl<|.inl (bC h λz=>by rw[z,e]at h;cases h)
 .exact .inl<|.inr ⟨x,bC h λz=>by rw[z,e]at h;cases h⟩
 .exact .inr h
theorem BxL.get:∀{H:Hp}{xs:L0 V}{L:L0 (Prs×Int)}{j:Nat}{x:V},BxL H xs L->xs[j]?=LH x->∃q t b,L[j]?=LH q/\x=.ref t/\H t=LH (.tup [.ref b,.int q.2])/\BxA H b q.1
 |_,_,_,j,_,.nil,e=>by simp at e
 |_,_,_,0,_,.cons h _,e=>by cases e;let(t,b,d,c,a):=h;exact⟨_,t,b,U,d,c,a⟩
 |_,_,_,j+1,_,.cons _ r,e=>BxL.get r (j:=j)<|~~~e
structure SpG(ps:L0 Int)(m:Int)(n:Nat)(qs:Prs):Prop where
 le:∀p∈qs,p.1<=p.2
 pw:qs.Pairwise λp q=>p.2<q.1
 bel:∀a,ps[n]?=LH a->∀p∈qs,p.2<a
 iff:∀x,inP qs x=LJ↔∃(k:Nat)(a b:Int),k<n/\ps[k]?=LH a/\ps[k+1]?=LH b/\cV m k=LJ/\a<=x/\x<b
 ep:∀p∈qs,p.1∈ps/\p.2+1∈ps
 lenA:2*⇑qs<=n+1
 lenB:(∀p∈qs,∀a,ps[n]?=LH a->p.2≠a-1)->2*⇑qs<=n
section
variable{ps:L0 Int}{m:Int}{n:Nat}{a b:Int}(hp:Pts ps)(ea:ps[n]?=LH a)(eb:ps[n+1]?=LH b)
include hp ea eb
end
def vN(bs:L0 Nat):L0 V:=bs.map λb:Nat=>V.int (b:Int)
theorem mT(bs:L0 Nat):⇑(vN bs)=⇑bs:=by unfold vN;rw[bc]
theorem Bp{bs:L0 Nat}{j:Nat}{x:V}(e:(vN bs)[j]?=LH x):∃b:Nat,x=.int (b:Int)/\bs[j]?=LH b:=by
 unfold vN at e;rw[gM]at e;cases q:bs[j]? with
 |none=>rw[q]at e;cases e
 |some b=>rw[q]at e;cases e;calc⟨b,U,U⟩
def grow(a:L0 (L0 Nat))(n:Nat):L0 (L0 Nat):=a.flatMap λp=>(List.range n).map λk=>p++[k]
theorem yK{A:Prs}{m n:Int}(f:m<=n)(h:∀e∈ends A,e<=m\/n<e):inP A n=inP A m:=by
 rw[Bool.eq_iff_iff,uT,uT];constructor
 .rintro⟨p,a,c,b⟩;let d:=h _<|ml.mpr ⟨p,a,.inl U⟩;exact⟨p,a,∅,∅⟩
 .rintro⟨p,a,c,b⟩;let d:=h _<|ml.mpr ⟨p,a,.inr U⟩;calc⟨p,a,∅,∅⟩
theorem eK{f g:Nat->Bool}:∀{n:Nat},(∀k,k<n->f k=g k)->msk f n=msk g n
 |0,_=>rfl
 |n+1,h=>by rw[fR,fR,h n<|yg n,eK λk a=>h k (xG a)]
theorem iI:∀{a:L0 Int}{ps:L0 (Int×Int)},InB a ps->⇑a=⇑ps/\∀(j:Nat)(c:Int)(p:Int×Int),a[j]?=LH c->ps[j]?=LH p->p.1<=c/\c<=p.2
 |_,_,.nil=>⟨U,λj c p e=>by simp at e⟩
 |_,_,.cons h1 h2 h=>by
  let(f,g):=iI h;refine⟨by rw[gb,gb,f],λj c p d b=>?_⟩;cases j with
  |zero=>cases d;cases b;exact⟨h1,h2⟩
  |succ j=>calc g j c p (~~~d) (~~~b)
theorem pX{bs:Prs}{rws:L0 Rw}{a:L0 (List<|Int×Int)}(E:rE bs rws a)(F:∀x∈rws,⇑x.1=⇑bs){b:L0 Int}(h:InB b bs):mkg rws (List.zipWith b9 a b)=mkg rws b:=by
 let(css,L,e,C):=E.ex;let(I,s):=iI h;let r:⇑(List.zipWith b9 a b)=⇑b:=by rw[e,mv,mv];lia
 show((msk (bG rws<|List.zipWith b9 a b) ⇑rws:Nat):Int)=((msk (bG rws b) ⇑rws:Nat):Int);rw[eK λk D=>?_];let(x,ex):∃x,rws[k]?=LH x:=⟨_,Ij D⟩;let g:=Il ex;let H:=F x g;unfold bG eR;rw[ik,ex,r];show(List.range ⇑b).all (λj=>inP (x.1.getD j [])<|(List.zipWith b9 a b).getD j 0)=(List.range ⇑b).all λj=>inP (x.1.getD j [])<|b.getD j 0
 let f:∀j∈List.range ⇑b,inP (x.1.getD j []) ((List.zipWith b9 a b).getD j 0)=inP (x.1.getD j []) (b.getD j 0):=λj d=>by
  let d:=iu.mp d;let(c,q):∃c,b[j]?=LH c:=⟨_,Ij d⟩;let(p,o):∃p,bs[j]?=LH p:=⟨_,Ij ∅⟩;let(m,u):∃m,css[j]?=LH m:=⟨_,Ij ∅⟩;let(v,i):=C j p m o u;let(G,b2):=s j c p q o;let t:=Ah (css:=css) o u q;rw[←e]at t;let(B,K,J,A):=rA (hi:=p.2) v (λy n=>(mS<|(i y).mp n).1) G b2;rw[ik (l:=List.zipWith b9 a b),t,ik (l:=b),q];show inP _ (b9 (bU p.1 p.2 m) c)=inP _ c
  symm
  refine yK B λy n=>?_
  by_cases z:p.1<y/\y<=p.2
  .let:MkC rws j p y:=⟨x,g,kP.mpr ⟨n,by rw[Dx,LV,LV];exact z⟩⟩;by_cases w:y<=c
   .exact .inl<|A y ((i y).mpr this) w
   .exact .inr ∅
  .by_cases w:y<=p.1
   .exact .inl ∅
   .exact .inr ∅
 rw[Bool.eq_iff_iff,jr,jr];calc⟨λh j d=>by rw[←f j d];exact h j d,λh j d=>by rw[f j d];exact h j d⟩
theorem So.ins{H H':Hp}{a C b:HA}{fs:L0 (Str×V)}(s:So H H')(e:H a=LH (.ins C b fs)):H' a=LH (.ins C b fs):=s _ _ trivial e
theorem yL{a:Type}:∀{f:L0 (T3a a)}{lo hi c:Int}{j:Nat}{t:T3a a},Ch3 f lo hi->lo<=c->f[j]?=LH t->(∀(i:Nat)(u:T3a a),i<j->f[i]?=LH u->u.2.1<c)->t.1<=c
 | [],_,_,_,j,_,_,_,e,_=>by simp at e
 |u :: f,lo,hi,c,0,t,h,hc,e,_=>by cases e;rw[h.1];exact hc
 |u :: f,lo,hi,c,j+1,t,h,hc,e,hb=>by
  let:=hb 0 u ∅ U;calc yL (f:=f) h.2.2 ∅ (~~~e) λi v hi b=>hb (i+1) v ∅ (~~~b)
def BxG{K:W.Frag}{L:Type} [DecidableEq L] (A:Lfp K L)(H:Hp):L0 V->L0 (L0 (Int×Int)×L)->Prop:=Paired λx q=>∃(t b:HA)(u:V),x=.ref t/\H t=LH (.tup [.ref b,u])/\BxA H b q.1/\A.R H q.2 u
theorem BxG.mono{K:W.Frag}{L:Type} [DecidableEq L] {A:Lfp K L}{H H':Hp}{xs:L0 V}{l:L0 (L0 (Int×Int)×L)}(h:BxG A H xs l)(s:cm H H'):BxG A H' xs l:=Paired.mapP h λ_ _ ⟨t,b,u,e,z,p,r⟩=>⟨t,b,u,e,s _ _ z,p.mono s,A.mono s r⟩
theorem BxG.length{K:W.Frag}{L:Type} [DecidableEq L] {A:Lfp K L}{H:Hp}{xs:L0 V}{l:L0 (L0 (Int×Int)×L)}(h:BxG A H xs l):⇑xs=⇑l:=Paired.length h
theorem tab_ne{K:W.Frag}{x y:Str}{c t c' t':HA}(h:W.tabIn K x=LH (c,t))(h':W.tabIn K y=LH (c',t'))(ne:t≠t'):∀z a,W.tabIn K x=LH z->W.tabIn K y=LH a->z.2≠a.2:=λz a e b=>by
 rw[h]at e;rw[h']at b;cases e;cases b;calc ne
theorem tab_keep{H H':Hp}{P b:HA}{L:L0 (Pos×Str)}(h:dh H P L)(ne:P≠b){ps:Array Fe}(e:H b=LH (.tbl ps))(k:∀d o,d≠b->H d=LH o->H' d=LH o):dh H' P L:=by
 let(f,q,n,m):=h;calc⟨f,k _ _ ne q,n,λp l=>?_⟩;rcases m p l with z|⟨c,g,j,a,i⟩
 .exact .inl z
 .exact .inr ⟨c,g,j,k _ _ (λz=>by rw[z,e]at a;cases a) a,i⟩
def Ak{L M:Type} [DecidableEq L] [DecidableEq M] {h:L->M}{g:L0 Int->L}{a:L0 (List<|Int×Int)}{ps:L0 (Int×Int)}(c:gD a ps):oi h ⇑a (lay g a [])=lay (λd=>h<|g d) a [] :=
 iG (yF<|kK c []) (kK c []) λe b x y i f=>(fu i<|Ag (jZ c [] e b) (kK c []) b).trans (fu f<|jZ (g:=λd=>h<|g d) c [] e b).symm
def vdm(rws:L0 Rw)(i:Nat)(o:Int×Int)(m:Int):SI:=ver (wf i o.1 o.2)<|pkF rws (cV m) ⇑rws
theorem Bq{L:Type}{d n:Nat}(e:n=d)(F:Fm L n)(P:(n:Nat)->Fm L n->Prop)(h:P n F):∃G:Fm L d,P d G:=by subst e;calc⟨F,h⟩
def lG(K:W.Frag)(H:Hp):Prop:=∀z,W.tabIn K "verdict_form" = LH z->dh H z.2 [(pQ Y74,"verdict_form.<locals>.<lambda>")]
theorem lG.same{K:W.Frag}{H H':Hp}(h:lG K H)(s:ak H H'):lG K H':=λz e=>(h z e).same s
theorem Al{K:W.Frag}{H:Hp}{Q:VK}{a b:HA}{v u:SI}(m:SqT K H a (tp v))(l:SqT K H b (tp u))(h:Q (.bl<|LL<|v=u) H):vT K LK (.ref a) (.ref b) H Q:=by
 refine⟨a,b,_,_,U,U,m,l,λj=>if j=0 then eqV (.str v.1) (.str u.1)else eqV (.int v.2) (.int u.2),λj x y c d=>?_,?_⟩
 .match j,c,d with
  |0,c,d=>cases c;cases d;exact EqI.flat U U
  |1,c,d=>cases c;cases d;exact EqI.flat U U
  |j+2,c,d=>simp[tp]at c
 .let e:((List.range<|min ⇑(tp v) ⇑(tp u)).all (λj=>if j=0 then eqV (.str v.1) (.str u.1)else eqV (.int v.2) (.int u.2)) && ⇑(tp v) == ⇑(tp u))=LL (v=u):=by
   let c:eqV (.str v.1) (.str u.1)=LL (v.1=u.1):=by unfold eqV;rw[Bool.eq_iff_iff];simp
   let d:eqV (.int v.2) (.int u.2)=LL (v.2=u.2):=by unfold eqV;rw[Bool.eq_iff_iff];simp
   show((List.range 2).all (λj=>if j=0 then eqV (.str v.1) (.str u.1)else eqV (.int v.2) (.int u.2)) && (2 == 2:Bool))=_;rw[c,d];let(g,f):=v;let(k,i):=u;by_cases o:g=k <;> by_cases n:f=i <;> simp[nP,o,n]
  show Q (.bl (if LK=LJ then _ else _)) H;rw[LN ⋯,e];calc h
abbrev Dm:=Sum (Int×Int)<|L0 Str
def Dm.b:Dm->Int×Int
 | .inl p=>p
 | .inr zs=>(0,hiW zs)
theorem mU{c:Type}{R:c->c->Prop}{p:c->Bool}(e:∀a b,R a b->p a=LJ->p b=LJ->False):∀{l:L0 c}{q:c},l.Pairwise R->q∈l->p q=LJ->l.filter p=[q]
 |a :: l,q,hp,d,hq=>by
  let(g,i):=qg.mp hp;rcases bL.mp d with rfl|d
  .rw[List.filter_cons_of_pos hq,List.filter_eq_nil_iff.mpr λb h f=>e q b (g b h) hq f]
  .rw[List.filter_cons_of_neg λz=>e a q (g q d) z hq];calc mU e i d hq
def wth:L0 (Int×Int)->L0 Int->Bool
 | [],[]=>LJ
 |p :: B,c :: cs=>(LL (p.1<=c) && decide (c<=p.2)) && wth B cs
 |_,_=>LK
theorem j5:∀{B:L0 (Int×Int)}{d:L0 Int},wth B d=LJ↔InB d B
 | [],[]=>⟨λ_=>.nil,λ_=>U⟩
 |p :: B,c :: d=>by
  show((LL (p.1<=c) && decide (c<=p.2)) && wth B d)=LJ↔_;rw[Dx,Dx,LV,LV,j5];exact⟨λ⟨⟨a,b⟩,c⟩=>.cons a b c,λh=>by cases h with|cons a b c=>exact⟨⟨a,b⟩,c⟩⟩
 | [],c :: d=>⟨λh=>(by cases h),λh=>(by cases h)⟩
 |p :: B,[]=>⟨λh=>(by cases h),λh=>(by cases h)⟩
theorem Am{L:Type}{n:Nat}{F:Fm L n}{a:L0 Int}{x:L}(h:Tel n F a x):∀{ps:L0 (Int×Int)},cH n F ps->InB a ps->∃q∈bxs n F,q.2=x/\InB a q.1:=by
 induction h with
 |nil x=>intro ps _ _;exact⟨([],x),fc.mpr U,U,.nil⟩
 | @cons n f c a x j t ej hc hb ht ih =>
  intro ps l b;let(p,r,rfl,s,d,u,o):ShS (cH n) f ps:=l;cases b with
  |cons i v g =>
   let(q,m,e,k):=ih (o t<|Il ej) g;calc⟨_,uo.mpr ⟨t,Il ej,q,m,U⟩,e,.cons (yL d i ej hb) hc k⟩
theorem So.seq{K:W.Frag}{H H':Hp}{a:HA}{xs:L0 V}(e:So H H')(h:SqL K H a xs):SqL K H' a xs:=by
 rcases h with(h|⟨o,h⟩)|h
 .exact .inl<|.inl<|e _ _ trivial h
 .exact .inl<|.inr ⟨o,e _ _ trivial h⟩
 .exact .inr h
structure Col where
 prs:Prs
 w:Bool
 sd:Int
structure Ch(ps:Prs):Prop where
 le:∀(i:Nat)(p:Int×Int),ps[i]?=LH p->p.1<=p.2
 nxt:∀(i:Nat)(p q:Int×Int),ps[i]?=LH p->ps[i+1]?=LH q->q.1=p.2+1
structure HD(c:Col):Prop where
 some_:1<=⇑c.prs
 few:⇑c.prs<=6
 ch:Ch c.prs
 w0:c.w=LJ->∀p,c.prs[0]?=LH p->p.1=0
 wl:c.w=LJ->∀(i:Nat)(p:Int×Int),c.prs[i]?=LH p->p.2<40
def Col.lo(c:Col):Int:=(c.prs.headD (0,0)).1
def Col.hi(c:Col):Int:=(c.prs.getLastD (0,0)).2
def Col.b(c:Col):Int×Int:=(c.lo,c.hi)
structure Srt(ps:Prs):Prop where
 le:∀(i:Nat)(p:Int×Int),ps[i]?=LH p->p.1<=p.2
 lt:∀(i j:Nat)(p q:Int×Int),i<j->ps[i]?=LH p->ps[j]?=LH q->p.2<q.1
structure Fx(prs:Prs)(b n:Nat)(ps:Prs):Prop where
 srt:Srt ps
 iff:∀x:Int,inP ps x=LJ↔∃(k:Nat)(p:Int×Int),k<n/\prs[k]?=LH p/\b.testBit k=LJ/\p.1<=x/\x<=p.2
def mrg(a:Prs)(b:Nat):Nat->Prs
 |0=>[]
 |n+1=>if b.testBit n then(if (LL (0<n) && b.testBit (n-1)) then(mrg a b n).dropLast++[(((mrg a b n).getLastD (0,0)).1,(a.getD n (0,0)).2)]else mrg a b n++[a.getD n (0,0)])else mrg a b n
abbrev BW:=L0 Nat×Int
structure HE(cs:L0 Col)(o:Col)(w:BW):Prop where
 len:⇑w.1=⇑cs
 lt:∀(j b:Nat)(c:Col),w.1[j]?=LH b->cs[j]?=LH c->b<2^⇑c.prs
 lo:o.lo<=w.2
 hi:w.2<=o.hi
structure HZ(cs:L0 Col)(w:BW)(x:Rw):Prop where
 code:x.2=w.2
 len:⇑x.1=⇑cs
 sp:∀(j:Nat)(ps:Prs)(c:Col)(b:Nat),x.1[j]?=LH ps->cs[j]?=LH c->w.1[j]?=LH b->Fx c.prs b ⇑c.prs ps
 is:∀(j:Nat)(ps:Prs)(c:Col)(b:Nat),x.1[j]?=LH ps->cs[j]?=LH c->w.1[j]?=LH b->ps=mrg c.prs b ⇑c.prs
def D5(bs p:L0 Nat):Bool:=(List.range ⇑p).all λj=>(bs.getD j 0).testBit<|p.getD j 0
def bF(ws:L0 BW)(p:L0 Nat)(k:Nat):Bool:=D5 (ws.getD k ([],0)).1 p
def cnt(ws:L0 BW)(p:L0 Nat):L0 Nat:=(List.range ⇑ws).filter<|bF ws p
def TF(i:HA)(H:Hp)(t:HA)(nm e:Str)(f:HA)(zs:L0 Str)(h:L0 V)(rws:L0 Rw):Prop:=∃(b g c d:HA)(fs:L0 (Str×V))(a:L0 V),H t=LH (.ins i g fs)/\fs.lookup s!"rows"=LH (.ref b)/\fs.lookup s!"name"=LH (.str nm)/\fs.lookup s!"way"=LH (.str e)/\fs.lookup s!"outcome"=LH (.ref f)/\fs.lookup s!"names"=LH (.ref c)/\fs.lookup s!"domains"=LH (.ref d)/\H c=LH (.lst<|zs.map V.str)/\H d=LH (.lst h)/\H b=LH (.lst a)/\RL NT H a rws/\⇑a<=200
theorem TF.same{f:HA}{H H':Hp}{t:HA}{nm c:Str}{d:HA}{zs:L0 Str}{e:L0 V}{rws:L0 Rw}(h:TF f H t nm c d zs e rws)(s:ak H H'):TF f H' t nm c d zs e rws:=by
 let(i,w,j,x,fs,g,v,u,q,p,o,n,m,l,k,b,a,r):=h;calc⟨i,w,j,x,fs,g,s _ _ v,u,q,p,o,n,m,s _ _ l,s _ _ k,s _ _ b,a.same s,r⟩
theorem TF.tbl{g j f:HA}{H:Hp}{t:HA}{nm a:Str}{b:HA}{zs:L0 Str}{v:L0 V}{rws:L0 Rw}{i:Nat}{o:Int×Int}(h:TF g H t nm a b zs v rws)(hi:six[i]?=LH a)(m:Dom j f H b o)(n:o.1<=o.2):Tbl g j f H t rws i o:=by
 let(l,u,_,_,fs,k,s,r,_,q,p,_,_,_,_,e,d,c):=h;calc⟨l,b,u,fs,k,a,s,r,q,p,e,d,hi,m,n,c⟩
structure TOk(cN cW:HA)(H:Hp)(nm wy:Str)(ou:HA)(zs:L0 Str)(dv:L0 V)(rws:L0 Rw)(bs:Prs)(o:Int×Int):Prop where
 words:∀z∈nm :: zs,isw z=LJ
 once:(nm :: zs).Nodup
 one:1<=⇑zs
 four:⇑zs<=4
 way:wy∈six
 sum:wy=s!"sum" -> ∃dx fs,H ou=LH (.ins cN dx fs)
 doms:aI dv bs (Dom cN cW H)
 out:Dom cN cW H ou o
 len:⇑bs=⇑zs
 rows:∀w∈rws,lu bs o w
 few:⇑rws<=200
theorem TOk.same{f d:HA}{H H':Hp}{nm a:Str}{b:HA}{zs:L0 Str}{c:L0 V}{rws:L0 Rw}{bs:Prs}{o:Int×Int}(h:TOk f d H nm a b zs c rws bs o)(s:ak H H'):TOk f d H' nm a b zs c rws bs o :=
 ⟨h.words,h.once,h.one,h.four,h.way,λz=>let ⟨dx,fs,e⟩:=h.sum z;⟨dx,fs,s _ _ e⟩,aI.mono h.doms λ_ _ p=>p.same s,h.out.same s,h.len,h.rows,h.few⟩
def mg(c:Col)(b:Nat):Prs:=mrg c.prs b ⇑c.prs
def cel(a:L0 Col)(bs:L0 Nat):L0 Prs:=List.zipWith mg a bs
theorem rF{L:Type}{n:Nat}{F:Fm L n}{ps:L0 (Int×Int)}{c:L0 Int}{x:L}(f:cH n F ps)(o:InB c ps)(j:Tel n F c x):∃B,((bxs n F).filter λq=>wth q.1 c)=[(B,x)]:=by
 let(q,m,e,hi):=Am j f o;calc⟨q.1,?_⟩;rw[mU (R:=λq r:L0 (Int×Int)×L=>Asc q.1 r.1) (λa b d s p=>?_) (yJ f) m (j5.mpr hi),←e];let(k,u,v,g,y,E,D,_):=Aj d;let(A,w):=iI<|j5.mp s;let(z,t):=iI<|j5.mp p;let C:=(Ik.mp g).1;let h:=Ij (l:=c) (i:=k) ∅;let:=w k _ u h g;let:=t k _ v h y;lia
def kM:Str:=s!"say"
def bE(L:L0 (Prs×SI)):L0 Rw:=(L.filter λq=>decide<|q.2.1=kM).map λq=>(q.1.map λp=>[p],q.2.2)
theorem jh(L:L0 (Prs×SI))(q:Prs×SI):bE (L++[q])=bE L++(if decide (q.2.1=kM) then[(q.1.map λp=>[p],q.2.2)] else[]):=by
 unfold bE;rw[oD,gd];cases h:decide (q.2.1=kM) <;> simp[List.filter_cons,h]
theorem wG(L:L0 (Prs×SI)):⇑(bE L)<=L.length:=by
 unfold bE;rw[bc];calc vl _ _
theorem wH{L:L0 (Prs×SI)}{w:Rw}(h:w∈bE L):∃q∈L,q.2.1=kM/\w=(q.1.map λp=>[p],q.2.2):=by
 unfold bE at h;let(q,a,rfl):=dy.mp h;let(c,b):=kP.mp a;calc⟨q,c,LS b,U⟩
theorem yM{B:Prs}{d:L0 Int}(k:B.length=⇑d):eR (B.map λp=>[p]) d=wth B d:=by
 rw[Bool.eq_iff_iff,j5];unfold eR;rw[jr];let e:∀(j:Nat)(c:Int)(p:Int×Int),d[j]?=LH c->B[j]?=LH p->(inP ((B.map λp=>[p]).getD j []) (d.getD j 0)=LJ↔p.1<=c/\c<=p.2):=λj c p a b=>by
  rw[ik,gM,b,ik,a];show([p].any (inR c))=LJ↔_;simp[inR]
 constructor
 .intro h;refine pV k.symm λj c p a b=>(e j c p a b).mp<|h j<|iu.mpr (Ik.mp a).1
 .intro h j f;let(_,g):=iI h;let f:=iu.mp f;let a:=Ij f;let b:=Ij (l:=B) (i:=j) ∅;calc(e j _ _ a b).mpr (g j _ _ a b)
theorem yN{L:L0 (Prs×SI)}{b:L0 Int}(d:∀q∈L,⇑q.1=⇑b):fl (bE L) b=((L.filter λq=>wth q.1 b).filter λq=>decide<|q.2.1=kM).map λq=>q.2.2:=by
 unfold fl bE;rw[List.filter_map,ov,List.filter_filter,List.filter_filter];let:(L.filter λa=>((λw:Rw=>eR w.1 b) ∘ λq:Prs×SI=>(q.1.map λp=>[p],q.2.2)) a && decide (a.2.1=kM))=L.filter λa=>decide (a.2.1=kM) && wth a.1 b:=List.filter_congr λq c=>by
  show(eR (q.1.map λp=>[p]) b && _)=_;rw[yM (d q c),Bool.and_comm]
 rw[this];rfl
theorem An{x:SI}{lo hi:Int}(a:x=oh\/∃c,x=say c){B:Prs}:ver (wf 1 lo hi) (([(B,x)].filter λq=>decide<|q.2.1=kM).map λq:Prs×SI=>q.2.2)=x:=by
 rcases a with rfl|⟨c,rfl⟩
 .rfl
 .rfl
theorem CL.hideN{N:HA->Prop}{D:HA}{H:Hp}{xs:L0 V}{a:L0 Prs}{zs:L0 V}(h:CL N H xs a)(n:¬ N D)(e:H D=LH (.lst zs)):CL NT (hide H D) xs a:=aI.mono h λl k ⟨f,d,i,g⟩=>⟨trivial,d,bC i<|λz=>n (by rw[←z];exact f),g.mono λb j c=>bC c λz=>by rw[z,e]at c;cases c⟩
theorem vj{bs:L0 Bool}{i:Nat}{x:V}(e:(bs.map V.bl)[i]?=LH x):∃b,x=.bl b/\bs[i]?=LH b:=by
 rw[gM]at e;cases q:bs[i]? with
 |none=>rw[q]at e;cases e
 |some z=>rw[q]at e;cases e;calc⟨z,U,U⟩
theorem j6{K:W.Frag}{H:Hp}{Q:VK}{a b:HA}{xs ys:L0 Bool}{r:Bool}(i:SqL K H a (xs.map V.bl))(g:SqL K H b (ys.map V.bl))(f:r=LJ↔xs=ys)(q:Q (.bl r) H):B2 K LK (.ref a) (.ref b) H Q:=by
 by_cases c:⇑xs=⇑ys
 .refine⟨a,b,_,_,U,U,i,g,.inr ⟨by rw[bc,bc];exact c,λj=>decide<|xs[j]?=ys[j]?,λj x y s p=>?_,?_⟩⟩
  .let(z,rfl,o):=vj s;let(d,rfl,n):=vj p;let k:=EqI.flat (K:=K) (H:=H) (x:=V.bl z) (y:=V.bl d) U U;let m:eqV (V.bl z) (V.bl d)=LL (xs[j]?=ys[j]?):=by
    rw[o,n,Bool.eq_iff_iff];simp[eqV]
   rw[m]at k;exact k
  .let e:(List.range ⇑(xs.map V.bl)).all (λj=>decide<|xs[j]?=ys[j]?)=r:=by
    rw[Bool.eq_iff_iff,f,jr];constructor
    .intro h;apply tu
     intro j;by_cases l:j<⇑xs
     .exact LS<|h j<|iu.mpr (by rw[bc];exact l)
     .rw[nC ∅,nC ∅]
    .intro h j _;rw[h];exact LQ U
   rw[LN Bool.false_ne_true,e];exact q
 .let e:r=false:=by
   rw[DA];intro z;exact c (by rw[f.mp z])
  rw[e]at q;calc⟨a,b,_,_,U,U,i,g,.inl ⟨by rw[bc,bc];exact c,q⟩⟩
theorem TF.so{f:HA}{H H':Hp}{t:HA}{nm c:Str}{d:HA}{zs:L0 Str}{e:L0 V}{rws:L0 Rw}(h:TF f H t nm c d zs e rws)(s:So H H'):TF f H' t nm c d zs e rws:=by
 let(i,w,j,x,fs,g,v,u,q,p,o,n,m,l,k,b,a,r):=h;calc⟨i,w,j,x,fs,g,s _ _ trivial v,u,q,p,o,n,m,s _ _ trivial l,s _ _ trivial k,s _ _ trivial b,RL.so s a,r⟩
theorem pY{n j:Nat}(h:j<n):ixN n (j:Int)=LH j:=by
 unfold ixN;rw[LO ∅,LO ∅,DG]
def pf{H H':Hp}{D:HA}(s:ak H H')(n:H D=LI):ak H (hide H' D):=λb o e=>bC (s b o e)<|aZ e n
theorem Ao{K:W.Frag}{H:Hp}{Q:VK}{a b:HA}{v u:SI}(m:SqT K H a (tp v))(l:SqT K H b (tp u))(h:Q (.bl<|LL<|v≠u) H):vT K LJ (.ref a) (.ref b) H Q:=by
 refine⟨a,b,_,_,U,U,m,l,λj=>if j=0 then eqV (.str v.1) (.str u.1)else eqV (.int v.2) (.int u.2),λj x y c d=>?_,?_⟩
 .match j,c,d with
  |0,c,d=>cases c;cases d;exact EqI.flat U U
  |1,c,d=>cases c;cases d;exact EqI.flat U U
  |j+2,c,d=>simp[tp]at c
 .let e:(!((List.range<|min ⇑(tp v) ⇑(tp u)).all (λj=>if j=0 then eqV (.str v.1) (.str u.1)else eqV (.int v.2) (.int u.2)) && ⇑(tp v) == ⇑(tp u)))=LL (v≠u):=by
   let c:eqV (.str v.1) (.str u.1)=LL (v.1=u.1):=by unfold eqV;rw[Bool.eq_iff_iff];simp
   let d:eqV (.int v.2) (.int u.2)=LL (v.2=u.2):=by unfold eqV;rw[Bool.eq_iff_iff];simp
   show(!((List.range 2).all (λj=>if j=0 then eqV (.str v.1) (.str u.1)else eqV (.int v.2) (.int u.2)) && (2 == 2:Bool)))=_;rw[c,d];let(g,f):=v;let(k,i):=u;by_cases o:g=k <;> by_cases n:f=i <;> simp[nP,o,n]
  show Q (.bl (if LJ=LJ then _ else _)) H;rw[LO U,e];calc h
theorem Ap(m k:Nat):decide (0<Ji.bitAnd (m:Int) (1*2^((k:Int)).toNat))=m.testBit k:=by
 let e:(1:Int)*2^((k:Int)).toNat=((2^k:Nat):Int):=by rw[ED,DG];simp
 rw[e,PyProof.Rows.bitAnd_pp (DH _)<|DH _,DG,DG];cases hb:m.testBit k with
 |true =>
  calc LQ ?_;let a:(m &&& 2^k).testBit k=true:=by rw[Nat.testBit_and,hb,Nat.testBit_two_pow_self];rfl
  let:m &&& 2^k≠0:=λz=>by rw[z,Nat.zero_testBit]at a;cases a
  exact Int.natCast_pos.mpr<|Nat.pos_of_ne_zero this
 |false =>
  calc LR ?_;let:m &&& 2^k=0:=Nat.eq_of_testBit_eq λi=>by
   rw[Nat.testBit_and,Nat.zero_testBit,Nat.testBit_two_pow];by_cases h:k=i
   .rw[←h,hb];rfl
   .rw[LR h,Bool.and_false]
  rw[this];decide
theorem Aq{m k:Nat}(h:m.testBit k=LJ):(m:Int)-1*2^((k:Int)).toNat=((m-2^k:Nat):Int):=by
 let e:(1:Int)*2^((k:Int)).toNat=((2^k:Nat):Int):=by rw[ED,DG];simp
 let:2^k<=m:=zz λz=>by rw[Nat.testBit_lt_two_pow z]at h;cases h
 rw[e];generalize 2^k=W at this⊢;lia
def TiA(K:W.Frag)(H:Hp)(rws:L0 Rw)(i:Nat)(o:Int×Int)(x:V)(q:Prs×Int):Prop:=∃(a b c:HA)(m:Nat),x=.ref a/\q.2=(m:Int)/\H a=LH (.tup [.ref b,.int (m:Int),.ref c])/\BxA H b q.1/\SqT K H c (tp<|ver (wf i o.1 o.2)<|pkF rws (cV (m:Int)) ⇑rws)
theorem TiA.same{K:W.Frag}{H H':Hp}{rws:L0 Rw}{i:Nat}{o:Int×Int}{x:V}{q:Prs×Int}(h:TiA K H rws i o x q)(s:ak H H'):TiA K H' rws i o x q:=by let(a,b,c,m,j,g,f,e,d):=h;calc⟨a,b,c,m,j,g,s _ _ f,e.mono s.tups,s.seqT d⟩
def TiL(K:W.Frag)(H:Hp)(rws:L0 Rw)(i:Nat)(o:Int×Int)(xs:L0 V)(L:L0 (Prs×Int)):Prop:=⇑xs=L.length/\∀(j:Nat)(x:V)(q:Prs×Int),xs[j]?=LH x->L[j]?=LH q->TiA K H rws i o x q
theorem TiL.same{K:W.Frag}{H H':Hp}{rws:L0 Rw}{i:Nat}{o:Int×Int}{xs:L0 V}{L:L0 (Prs×Int)}(h:TiL K H rws i o xs L)(s:ak H H'):TiL K H' rws i o xs L:=⟨h.1,λj x q a b=>(h.2 j x q a b).same s⟩
theorem TiL.snoc{K:W.Frag}{H:Hp}{rws:L0 Rw}{i:Nat}{o:Int×Int}{xs:L0 V}{L:L0 (Prs×Int)}{x:V}{q:Prs×Int}(h:TiL K H rws i o xs L)(t:TiA K H rws i o x q):TiL K H rws i o (xs++[x]) (L++[q]):=by
 refine⟨by rw[dV,dV,h.1];rfl,λj y p a b=>?_⟩;by_cases c:j<⇑xs
 .rw[iQ c]at a;rw[iQ (by rw[←h.1];exact c)]at b;exact h.2 j y p a b
 .rw[js ∅]at a;let d:=(Ik.mp a).1;rw[ie]at d;rw[js (by rw[←h.1];lia),←h.1,show j-⇑xs=0 by lia]at b;rw[show j-⇑xs=0 by lia]at a;cases a;cases b;calc t
def cb(rws:L0 Rw)(i:Nat)(o:Int×Int)(k:Nat)(m:Nat):Bool:=m.testBit k && decide (ver (wf i o.1 o.2) (pkF rws (cV ((m-2^k:Nat):Int)) ⇑rws)≠ver (wf i o.1 o.2) (pkF rws (cV (m:Int)) ⇑rws))
theorem yO{bs:Prs}{rws:L0 Rw}{a:L0 (List<|Int×Int)}(c:rE bs rws a){q:Prs×Int}(h:q∈bxs ⇑a (lay (mkg rws) a [])):∃d,InB d bs/\q.2=mkg rws (List.zipWith b9 a d):=by
 let(b,e,_):=mR (kK (g:=mkg rws) c.ok []) q h;calc⟨_,b.lows,fu e ?_⟩;let:=jZ (g:=mkg rws) c.ok [] _ b.lows;rw[rr]at this;calc this
theorem vk:∀{l m:L0 Nat},l.Pairwise (· < ·)->m.Pairwise (· < ·)->(∀x,x∈l↔x∈m)->l=m
 | [],[],_,_,_=>rfl
 | [],b :: m,_,_,h=>by have:=(h b).mpr<|.head _;cases this
 |a :: l,[],_,_,h=>by have:=(h a).mp<|.head _;cases this
 |a :: l,b :: m,h1,h2,h=>by
  rw[qg]at h1 h2;let f:a=b:=by
   rcases bL.mp ((h a).mp<|.head _)with e|e
   .exact e
   .rcases bL.mp ((h b).mpr<|.head _)with d | d
    .exact d.symm
    .let:=h1.1 b d;let:=h2.1 a e;lia
  subst f;let:l=m:=vk h1.2 h2.2 λx=>by
   let c:=h x;rw[bL,bL]at c;constructor
   .intro k;let:=h1.1 x k;exact(c.mp<|.inr k).resolve_left ∅
   .intro k;let:=h2.1 x k;exact(c.mpr<|.inr k).resolve_left ∅
  rw[this]
theorem CN{n:Nat}{F:Fm Int n}{d:L0 Int}{x:Int}(h:Tel n F d x):∃q∈bxs n F,q.2=x:=by
 induction h with
 |nil x=>exact⟨([],x),fc.mpr U,U⟩
 |cons c _ _ f a =>
  let(r,b,e):=a;calc⟨_,uo.mpr ⟨_,Il c,r,b,U⟩,e⟩
theorem rG{g:Nat->Bool}{k:Nat}(a:g k=LJ):∀{n:Nat},k<n->msk g n=2^k+msk (λj=>g j && j != k) n
 |0,h=>LP h<|zl _
 |n+1,h=>by
  rw[fR,fR];by_cases z:k=n
  .subst z;rw[LO a,LN (by simp),zh,eK λj c=>?_];show g j=(g j && j != k);rw[show(j != k)=LJ from bne_iff_ne.mpr (wY c),Bool.and_true]
  .let b:=rG a (n:=n) ∅;rw[b,show(g n && n != k)=g n by rw[show(n != k)=LJ from bne_iff_ne.mpr λe=>z e.symm,Bool.and_true]];lia
def vd(rws:L0 Rw)(i:Nat)(o:Int×Int)(m:Nat):SI:=ver (wf i o.1 o.2)<|pkF rws (cV (m:Int)) ⇑rws
def TlM(K:W.Frag)(H:Hp)(rws:L0 Rw)(i:Nat)(o:Int×Int)(xs:L0 V)(d:L0 Nat):Prop:=aI xs d λc m=>∃b a:HA,H c=LH (.tup [.ref b,.int (m:Int),.ref a])/\SqT K H a (tp<|vd rws i o m)
def TlM.same{K:W.Frag}{H H':Hp}{rws:L0 Rw}{i:Nat}{o:Int×Int}{xs:L0 V}{a:L0 Nat}(h:TlM K H rws i o xs a)(s:ak H H'):TlM K H' rws i o xs a:=aI.mono h λ_ _ ⟨b,c,e,f⟩=>⟨b,c,s _ _ e,s.seqT f⟩
theorem Ar{rws:L0 Rw}{i:Nat}{o:Int×Int}{k m:Nat}(h:cb rws i o k m=LK)(a:m.testBit k=LJ):vd rws i o (m-2^k)=vd rws i o m:=by
 unfold cb at h;rw[a,Bool.true_and]at h;calc Decidable.of_not_not<|of_decide_eq_false h
def clr(m k:Nat):Nat:=m-(m &&& 2^k)
theorem yP(m k:Nat):m &&& 2^k=if m.testBit k then 2^k else 0:=by
 apply Nat.eq_of_testBit_eq
 intro i;rw[Nat.testBit_and,Nat.testBit_two_pow];by_cases e:k=i
 .subst e;cases h:m.testBit k <;> simp
 .cases h:m.testBit k <;> simp[e]
theorem lN{m k:Nat}(h:m.testBit k=LJ):clr m k=m-2^k:=by unfold clr;rw[yP,LO h]
theorem yQ{m k:Nat}(h:m.testBit k=LK):clr m k=m:=by unfold clr;rw[yP,LN (by rw[h];decide)];rfl
theorem CO{rws:L0 Rw}{i:Nat}{o:Int×Int}{k m:Nat}(h:cb rws i o k m=LK):vd rws i o (clr m k)=vd rws i o m:=by
 cases hb:m.testBit k with
 |true=>rw[lN hb,Ar h hb]
 |false=>rw[yQ hb]
theorem rH(m k:Nat):Ji.bitAnd (m:Int) (Ji.bitNot<|1*2^((k:Int)).toNat)=((clr m k:Nat):Int):=by
 let e:(1:Int)*2^((k:Int)).toNat=((2^k:Nat):Int):=by rw[ED,DG];simp
 rw[PyProof.Rows.bitAnd_not,e,PyProof.Rows.bitAnd_pp (DH _)<|DH _,DG,DG];unfold clr;let:m &&& 2^k<=m:=Nat.and_le_left;lia
section
variable(f:L0 Int->SI)(PS:L0 (L0 Nat))
end
section
variable{f:L0 Int->SI}{PS:L0 (L0 Nat)}
end
def gw(ws:L0 BW)(k:Nat):BW:=ws.getD k ([],0)
def mkp(ws:L0 BW)(ks:L0 Nat)(p:L0 Nat):Nat:=msk (λk=>decide (k∈ks) && D5 (gw ws k).1 p) ⇑ws
theorem mem_erase{ks:L0 Nat}(pw:ks.Pairwise (· < ·)){a k x:Nat}(f:ks[a]?=LH k):x∈ks.eraseIdx a↔x∈ks/\x≠k:=by
 rw[List.mem_eraseIdx_iff_getElem?];constructor
 .rintro⟨i,hi,e⟩;calc⟨Il e,λz=>hi ?_⟩;subst z;let(d,j):=Ik.mp e;let(c,g):=Ik.mp f;let b:=nS.mp pw;rcases Nat.lt_trichotomy i a with z|z|z
  .let:=b i a d c z;lia
  .exact z
  .let:=b a i c d z;lia
 .rintro⟨h,n⟩;let(i,e):=lz h;calc⟨i,λz=>n (by rw[z,f]at e;cases e;rfl),e⟩
def yR{ks:L0 Nat}(pw:ks.Pairwise (· < ·))(a:Nat):(ks.eraseIdx a).Pairwise (· < ·):=pw.sublist<|List.eraseIdx_sublist ..
structure MsI(PS:L0 (L0 Nat))(ws:L0 BW)(ks Ms:L0 Nat):Prop where
 of:∀m∈Ms,∃p∈PS,m=mkp ws ks p
 at_:∀p∈PS,mkp ws ks p∈Ms
theorem CP{ks:L0 Nat}{N:Nat}(pw:ks.Pairwise (· < ·))(h:∀k∈ks,k<N):⇑ks<=N:=by
 let:=List.Nodup.length_le_of_subset (l₁:=ks) (l₂:=List.range N) (pw.imp λh=>wY h) λx a=>iu.mpr<|h x a
 rw[ja]at this;calc this
theorem hide_ne{H:Hp}{x b:HA}{o:HO}(e:hide H x b=LH o):b≠x:=λz=>by unfold hide at e;rw[LO z]at e;cases e
def HH(H:Hp)(a kl:HA):Hp:=hide (hide H a) kl
def HH.le(H:Hp)(a kl:HA):ak (HH H a kl) H:=(dP _ _).trans<|dP _ _
def HH.of{H:Hp}{a kl b:HA}{o:HO}(e:H b=LH o)(d:b≠a)(c:b≠kl):HH H a kl b=LH o:=bC (bC e d) c
def HH.ne{H:Hp}{a kl b:HA}{o:HO}(e:HH H a kl b=LH o):b≠a/\b≠kl:=⟨hide_ne<|dP _ _ _ _ e,hide_ne e⟩
def HH.same{H H':Hp}{a kl:HA}(s:ak (hide H a) H'):ak (HH H a kl) (HH H' a kl):=λb o e=>HH.of (s b o<|dP _ _ _ _ e) (HH.ne e).1 (HH.ne e).2
theorem HH.upd{H:Hp}{d kl:HA}{o:HO}:HH (upd H kl o) d kl=HH H d kl:=by
 funext b
 unfold HH hide;by_cases a:b=kl
 .rw[LO a,LO a]
 .rw[LN a,LN a];by_cases c:b=d
  .rw[LO c,LO c]
  .rw[LN c,LN c,av a]
theorem HH.keep{H H':Hp}{a kl:HA}(s:ak H H')(d:H a=LI)(c:H kl=LI):ak H (HH H' a kl):=λb o e=>HH.of (s b o e) (λz=>by rw[z,d]at e;cases e) (λz=>by rw[z,c]at e;cases e)
def CQ(n:Nat):upn n=vN (List.range n):=rfl
theorem As(ks:L0 Nat):vN ks=(ks.map λn:Nat=>(n:Int)).map V.int:=by unfold vN;rw[ov];rfl
theorem yS(ks:L0 Nat)(a:Nat):((ks.map λn:Nat=>(n:Int)).eraseIdx a).map V.int=vN (ks.eraseIdx a):=by
 unfold vN;rw[List.eraseIdx_eq_take_drop_succ,List.eraseIdx_eq_take_drop_succ,gd,gd,uA,uA,uB,uB,ov];rfl
theorem TlM.of{K:W.Frag}{H:Hp}{rws:L0 Rw}{i:Nat}{o:Int×Int}{xs:L0 V}{L:L0 (Prs×Int)}(h:TiL K H rws i o xs L):TlM K H rws i o xs (L.map λq=>q.2.toNat):=⟨by rw[bc,h.1],λj m e=>by
 rw[gM]at e;let(q,c,rfl):=EW.mp e;let a:=Ij (l:=xs) (i:=j) (by rw[h.1];exact(Ik.mp c).1);let(f,b,g,m,p,d,n,_,k):=h.2 j _ q a c;refine⟨f,by rw[a,p],b,g,?_,?_⟩
 .rw[d,DG];exact n
 .rw[d,DG];exact k⟩
theorem TlM.clr{K:W.Frag}{rws:L0 Rw}{i:Nat}{o:Int×Int}{k m:Nat}{H:Hp}{a:HA}(h:SqT K H a (tp<|vd rws i o m))(b:cb rws i o k m=LK):SqT K H a (tp<|vd rws i o<|_M.clr m k):=by rw[CO b];calc h
def spn(rws:L0 Rw)(c:Nat):Nat:=(rws.map λw=>⇑(w.1.getD c [])).sum
theorem Au{rws:L0 Rw}{w:Rw}{c:Nat}(h:w∈rws):⇑(w.1.getD c [])<=spn rws c:=by
 unfold spn;induction rws with
 |nil=>cases h
 |cons x rws a =>
  rw[jc,wW];rcases bL.mp h with rfl|h
  .lia
  .let:=a h;lia
theorem rJ(c:Nat)(b:Int×Int):∀rws:L0 Rw,⇑((rws.map<|rmk c b).flatten)<=2*spn rws c
 | []=>wX _
 |w :: rws=>by
  let d:⇑(rmk c b w)<=2*⇑(w.1.getD c []):=xc (vl _ _) (by rw[rD];lia);let a:=rJ c b rws;unfold spn at a⊢;rw[jc,List.flatten_cons,dV,jc,wW];lia
structure RfB(cT cN cW:HA)(H:Hp)(t:HA)(dv:L0 V)(bs:Prs)(rws:L0 Rw)(L:Nat->L0 Int)(g:Nat)(i:Nat)(o:Int×Int):Prop where
 td:TD cT cN cW H t dv bs rws
 tb:Tbl cT cN cW H t rws i o
 b4:⇑bs<=4
 rn:⇑rws<=200
 row:∀x∈rws,⇑x.1=⇑bs
 sp:∀c,spn rws c<=499
 mrk:∀(c:Nat)(b:Int×Int),bs[c]?=LH b->⇑(L c)<=400/\∀x,MkC rws c b x->x∈L c
 gr:∀mss:L0 (L0 Int),⇑mss=⇑bs->(∀(c:Nat)(b:Int×Int)(ms:L0 Int),bs[c]?=LH b->mss[c]?=LH ms->ms.Pairwise (· < ·)/\∀x,x∈ms↔MkC rws c b x)->_M.gr bs mss ⇑bs=g
 le:∀p∈bs,p.1<=p.2
theorem RfB.so{c d b t:HA}{H H':Hp}{a:L0 V}{bs:Prs}{rws:L0 Rw}{L:Nat->L0 Int}{g i:Nat}{o:Int×Int}(h:RfB c d b H t a bs rws L g i o)(s:So H H'):RfB c d b H' t a bs rws L g i o:=⟨TD.so s h.td,Tbl.so s h.tb,h.b4,h.rn,h.row,h.sp,h.mrk,h.gr,h.le⟩
def prd:L0 Nat->Nat
 | []=>1
 |n :: ns=>n*prd ns
theorem rK:∀(ns:L0 Nat)(n:Nat),prd (ns++[n])=prd ns*n
 | [],n=>by show n*1=1*n;lia
 |m :: ns,n=>by show m*prd (ns++[n])=m*prd ns*n;rw[rK ns n,Nat.mul_assoc]
theorem vm:∀{ns:L0 Nat}{n:Nat},n∈ns->(∀m∈ns,1<=m)->n<=prd ns/\1<=prd ns
 |m :: ns,n,h,h1=>by
  let e:1<=prd ns:=by
   clear h;induction ns with
   |nil=>exact wX _
   |cons k ns d =>
    let:=h1 k (by simp);let:=d λb a=>h1 b (by rcases bL.mp a with rfl|a;calc dn;simp[a])
    exact Nat.mul_pos ∅ ∅
  let a:=h1 m dn;calc⟨?_,Nat.mul_pos ∅ ∅⟩;rcases bL.mp h with rfl|h
  .show n<=n*prd ns;exact Nat.le_mul_of_pos_right n ∅
  .let:=(vm h λb c=>h1 b<|fo _ c).1;show n<=m*prd ns;calc xc this<|Nat.le_mul_of_pos_left _ ∅
theorem pZ{L:Type} [DecidableEq L] {g:L0 Int->L}:∀{a:L0 (List<|Int×Int)}{ps:L0 (Int×Int)},gD a ps->∀b:L0 Int,⇑(bxs ⇑a<|lay g a b)<=prd (a.map List.length)
 | [],_,_,_=>wX _
 |c :: a,ps,h,b=>by
  cases h with
  | @cons _ _ p ps hne hc h =>
  let k:=fP<|yr (λq=>lay g a<|b++[q.1]) hc;let e:⇑(gj<|c.map λp=>((p.1,p.2,lay g a<|b++[p.1]):T3a (Fm L ⇑a)))<=⇑c:=xc (pd _) (by rw[bc];exact wX _);let d:⇑(bxs (⇑a+1) (show Fm L (⇑a+1)from gj (c.map λp=>((p.1,p.2,lay g a<|b++[p.1]):T3a (Fm L ⇑a)))))<=⇑(gj<|c.map λp=>((p.1,p.2,lay g a<|b++[p.1]):T3a (Fm L ⇑a)))*prd (a.map List.length):=rC λt f=>by
   rw[bc];let(i,e,d):=k.mem t f;let(q,_,rfl):=dy.mp e;rw[←d];exact pZ h _
  calc xc d<|Nat.mul_le_mul_right _ e
theorem CS{bs:Prs}{rws:L0 Rw}{css:L0 (L0 Int)}(i:⇑css=⇑bs)(h:∀(j:Nat)(p:Int×Int)(a:L0 Int),bs[j]?=LH p->css[j]?=LH a->a.Pairwise (· < ·)/\∀x,x∈a↔MkC rws j p x){j:Nat}{p:Int×Int}{a:L0 Int}(d:bs[j]?=LH p)(e:css[j]?=LH a):⇑(bU p.1 p.2 a)=gl bs css j:=by
 let(f,g):=h j p a d e;rw[fS,ui f (ms:=a) (lo:=p.1) (hi:=p.2) λc=>⟨λb=>⟨b,mS<|(g c).mp b⟩,λb=>b.1⟩];unfold gl;rw[ik,d,ik,e];rfl
theorem RfB.prd{B C A t:HA}{H:Hp}{z:L0 V}{bs:Prs}{rws:L0 Rw}{L:Nat->L0 Int}{g i:Nat}{o:Int×Int}(h:RfB B C A H t z bs rws L g i o){a:L0 (List<|Int×Int)}(v:rE bs rws a):_M.prd (a.map List.length)=g:=by
 let(d,m,e,l):=v.ex;rw[←h.gr d m λc b s y x=>l c b s y x];let f:⇑a=⇑bs:=by rw[e,mv];lia
 let k:∀n,n<=⇑bs->_M.prd ((a.take n).map List.length)=_M.gr bs d n:=λn=>by
  induction n with
  |zero=>exact λ_=>U
  |succ n u =>
   intro D;let(p,q):∃p,bs[n]?=LH p:=⟨_,Ij ∅⟩;let(j,r):∃j,d[n]?=LH j:=⟨_,Ij ∅⟩;let w:a[n]?=LH (bU p.1 p.2 j):=by rw[e,rX,q,r]
   rw[take_snoc w,gd,jc,mu,rK,u ∅,CS m l q r];rfl
 let:=k ⇑bs<|wX _;rw[←f,hV]at this;rw[this,f]
theorem RfB.cl{x y w t:HA}{H:Hp}{v:L0 V}{bs:Prs}{rws:L0 Rw}{L:Nat->L0 Int}{g i:Nat}{o:Int×Int}(h:RfB x y w H t v bs rws L g i o){a:L0 (List<|Int×Int)}(n:rE bs rws a):∀c∈a,⇑c<=g:=λc q=>by
 rw[←h.prd n];calc(vm (dy.mpr ⟨c,q,U⟩) λm f=>?_).1;let(z,k,rfl):=dy.mp f;let(l,A,e,_):=n.ex;let(j,b):=lz k;rw[e]at b;let r:=(Ik.mp b).1;rw[mv]at r;let(p,s):∃p,bs[j]?=LH p:=⟨_,Ij ∅⟩;let(d,u):∃d,l[j]?=LH d:=⟨_,Ij ∅⟩;rw[rX,s,u]at b;let b:bU p.1 p.2 d=z:=Option.some.inj b;rw[←b,fS];lia
theorem CT{K:W.Frag}{H:Hp}{xs:L0 V}{L:L0 (L0 (Int×Int)×Int)}(h:BxG (K:=K) ue H xs L):BxL H xs L:=Paired.mapP h λ_ _ ⟨t,b,u,e,z,p,r⟩=>⟨t,b,e,by have r:u=.int _:=r;rw[r]at z;exact z,p⟩
def mq(n:Nat)(ks:L0 Nat)(a:Nat->Bool):Nat:=msk (λk=>decide (k∈ks) && a k) n
def cdq(rws:L0 Rw)(ks:L0 Nat)(a:Nat->Bool):L0 Int:=pkF rws (λk=>decide (k∈ks) && a k) ⇑rws
theorem vn{rws:L0 Rw}{ks:L0 Nat}{i:Nat}{o:Int×Int}{a:Nat->Bool}:vd rws i o (mq ⇑rws ks a)=ver (wf i o.1 o.2) (cdq rws ks a):=by
 unfold vd mq;rw[pS];rfl
theorem yT{n k:Nat}{ks:L0 Nat}{a:Nat->Bool}(c:k<n)(b:k∈ks):(mq n ks a).testBit k=a k:=by
 unfold mq;rw[pR,LQ c,Bool.true_and,LQ b,Bool.true_and]
theorem kc{n:Nat}{ks:L0 Nat}(pw:ks.Pairwise (· < ·))(d:∀k∈ks,k<n){a k:Nat}(l:ks[a]?=LH k)(b:Nat->Bool):_M.clr (mq n ks b) k=mq n (ks.eraseIdx a) b:=by
 let c:=Il l;let f:=d k c;let i:(mq n ks b).testBit k=b k:=yT f c;let m:∀j,(LL (j∈ks.eraseIdx a) && b j)=((LL (j∈ks) && b j) && j != k):=λj=>by
  rw[show decide (j∈ks.eraseIdx a)=(LL (j∈ks) && j != k) by rw[Bool.eq_iff_iff,LV,mem_erase pw l,Dx,LV];simp];rw[Bool.and_assoc,Bool.and_assoc,Bool.and_comm (j != k)]
 let e:mq n (ks.eraseIdx a) b=msk (λj=>(LL (j∈ks) && b j) && j != k) n:=by
  unfold mq;exact eK λj _=>m j
 rw[e];cases hf:b k with
 |true =>
  rw[lN (by rw[i,hf])];unfold mq;rw[rG (g:=λj=>decide (j∈ks) && b j) (by show(LL (k∈ks) && _)=LJ;rw[LQ c,hf];rfl) f];lia
 |false =>
  rw[yQ (by rw[i,hf])];unfold mq;refine eK λj _=>?_
  by_cases h:j=k
  .rw[h,hf,Bool.and_false,Bool.false_and]
  .rw[show(j != k)=LJ by simpa using h,Bool.and_true]
theorem vo{rws:L0 Rw}{ks:L0 Nat}{i:Nat}{o:Int×Int}{b:Nat->Bool}(pw:ks.Pairwise (· < ·))(c:∀k∈ks,k<⇑rws){a k:Nat}(g:ks[a]?=LH k):cb rws i o k (mq ⇑rws ks b)=LJ↔b k=LJ/\ver (wf i o.1 o.2) (cdq rws ks b)≠ver (wf i o.1 o.2) (cdq rws (ks.eraseIdx a) b):=by
 let h:=Il g;let f:(mq ⇑rws ks b).testBit k=b k:=yT (c k h) h;let j:cb rws i o k (mq ⇑rws ks b)=((mq ⇑rws ks b).testBit k && decide (vd rws i o (mq ⇑rws ks b-2^k)≠vd rws i o (mq ⇑rws ks b))):=rfl;rw[j,f,Dx,LV];constructor
 .rintro⟨d,e⟩;rw[←lN (by rw[f,d]),kc pw c g,vn,vn]at e;exact⟨d,λz=>e z.symm⟩
 .rintro⟨d,e⟩;calc⟨d,?_⟩;rw[←lN (by rw[f,d]),kc pw c g,vn,vn];calc λz=>e z.symm
def PtB(bs:Prs)(rws:L0 Rw)(b:Nat->Bool):Prop:=∃a,InB a bs/\b=bG rws a
def IdA(bs:Prs)(rws:L0 Rw)(i:Nat)(o:Int×Int)(ks:L0 Nat)(a:Nat):Prop:=∀b,PtB bs rws b->b (ks.getD a 0)=LJ->ver (wf i o.1 o.2) (cdq rws ks b)=ver (wf i o.1 o.2) (cdq rws (ks.eraseIdx a) b)
inductive ThR(bs:Prs)(rws:L0 Rw)(i:Nat)(o:Int×Int):L0 Nat->L0 Nat->Prop
 |fin {ks:L0 Nat}:(∀a,a<⇑ks->¬ IdA bs rws i o ks a)->ThR bs rws i o ks ks
 |step {ks r:L0 Nat}{a:Nat}:a<⇑ks->IdA bs rws i o ks a->(∀j,a<j->j<⇑ks->¬ IdA bs rws i o ks j)->ThR bs rws i o (ks.eraseIdx a) r->ThR bs rws i o ks r
structure MsR(bs:Prs)(rws:L0 Rw)(ks Ms:L0 Nat):Prop where
 of:∀m∈Ms,∃φ,PtB bs rws φ/\m=mq ⇑rws ks φ
 at_:∀φ,PtB bs rws φ->mq ⇑rws ks φ∈Ms
theorem MsR.idl{bs:Prs}{rws:L0 Rw}{ks j:L0 Nat}{i:Nat}{o:Int×Int}(h:MsR bs rws ks j)(pw:ks.Pairwise (· < ·))(b:∀k∈ks,k<⇑rws){a k:Nat}(f:ks[a]?=LH k):(∀m∈j,cb rws i o k m=LK)↔IdA bs rws i o ks a:=by
 let g:ks.getD a 0=k:=by rw[ik,f];rfl
 constructor
 .intro p d e c;rw[g]at c;refine Decidable.byContradiction λz=>?_
  let:=(vo (i:=i) (o:=o) pw b f).mpr ⟨c,z⟩;rw[p _ (h.at_ d e)]at this;cases this
 .intro q m n;let(d,e,rfl):=h.of m n;refine DA.mpr λz=>?_
  let(c,l):=(vo (i:=i) (o:=o) pw b f).mp z;calc l<|q d e (by rw[g];exact c)
theorem MsR.erase{bs:Prs}{rws:L0 Rw}{ks g:L0 Nat}(h:MsR bs rws ks g)(pw:ks.Pairwise (· < ·))(c:∀k∈ks,k<⇑rws){a k:Nat}(f:ks[a]?=LH k):MsR bs rws (ks.eraseIdx a) (g.map λm=>_M.clr m k):=⟨λm j=>by
  let(i,e,rfl):=dy.mp j;let(b,d,rfl):=h.of i e;exact⟨b,d,kc pw c f b⟩,fun b d=>dy.mpr ⟨_,h.at_ b d,kc pw c f b⟩⟩
theorem rL{n:Nat}{a:Nat->Bool}:mq n (List.range n) a=msk a n:=by
 unfold mq;refine eK λj b=>?_
 rw[LQ (iu.mpr b),Bool.true_and]
theorem MsR.first{bs:Prs}{rws:L0 Rw}{b:L0 (List<|Int×Int)}(c:rE bs rws b)(i:∀x∈rws,⇑x.1=⇑bs):MsR bs rws (List.range ⇑rws) ((bxs ⇑b<|lay (mkg rws) b []).map λq=>q.2.toNat):=by
 refine⟨λm k=>?_,fun l j=>?_⟩
 .let(q,d,rfl):=dy.mp k;let(f,a,e):=yO c d;calc⟨_,⟨f,a,U⟩,?_⟩;rw[e,pX c i a,rL];exact DG _
 .let(f,a,rfl):=j;let h:=jZ (g:=mkg rws) c.ok [] f a;rw[rr,pX c i a]at h;let(q,d,e):=CN h;calc dy.mpr ⟨q,d,?_⟩;rw[e,rL];calc DG _
def gR(rws:L0 Rw)(k:Nat):Rw:=rws.getD k ([],0)
theorem yU{rws:L0 Rw}{k:Nat}(a:k<⇑rws):rws[k]?=LH (gR rws k):=by
 unfold gR;rw[ik,Ij a];rfl
def di(low:Int)(a:Nat):Int×Int:=(low+(a:Int),low+(a:Int))
structure RwI(low:Int)(own:Nat->Int)(P:Nat->Prop)(R:L0 Rw):Prop where
 row:∀w∈R,∃sp:Prs,w.1=[sp]/\sp≠[]/\⇑sp<=100/\∀p∈sp,∃a:Nat,P a/\p=di low a/\w.2=own (a%2)
 cov:∀a,P a->∃w∈R,∃sp:Prs,w.1=[sp]/\di low a∈sp/\w.2=own (a%2)
 one:∀(a j j':Nat)(w w':Rw),R[j]?=LH w->R[j']?=LH w'->eR w.1 [low+(a:Int)]=LJ->eR w'.1 [low+(a:Int)]=LJ->j=j'
theorem rM{sp:Prs}{x:Int}:eR [sp] [x]=inP sp x:=by
 unfold eR;simp
theorem vp{low:Int}{sp:Prs}{a:Nat}(h:inP sp (low+(a:Int))=LJ)(d:∀p∈sp,∃b:Nat,p=di low b):di low a∈sp:=by
 unfold inP at h;rw[sE]at h;let(p,c,hi):=h;let(b,rfl):=d p c;unfold inR di at hi;rw[Dx,LV,LV]at hi;let:a=b:=∅
 rw[this];calc c
theorem yV{low:Int}{sp:Prs}{a:Nat}(h:di low a∈sp):inP sp (low+(a:Int))=true:=by
 unfold inP;rw[sE];calc⟨_,h,?_⟩;unfold inR di;simp
section
variable{low:Int}{own:Nat->Int}{P S:Nat->Prop}{R:L0 Rw}
theorem RwI.nil(h:∀a,¬ P a):RwI low own P []:=⟨(λw b=>by cases b),(λa c=>LP c<|h a),(λ_ _ _ _ _ e=>by simp at e)⟩
def RwI.congr{f:Nat->Prop}(h:RwI low own P R)(e:∀a,P a↔f a):RwI low own f R:=⟨λw g=>let ⟨sp,a,b,c,d⟩:=h.row w g;⟨sp,a,b,c,λp i=>let ⟨x,y,z⟩:=d p i;⟨x,(e x).mp y,z⟩⟩,λa j=>h.cov a<|(e a).mpr j,h.one⟩
theorem RwI.fits(h:RwI low own P R){w:Rw}(g:w∈R){a:Nat}(d:eR w.1 [low+(a:Int)]=LJ):P a/\w.2=own (a%2):=by
 let(l,e,_,_,c):=h.row w g;rw[e,rM]at d;let(b,k,f,j):=c _ (vp d λp i=>let ⟨b,_,e,_⟩:=c p i;⟨b,e⟩);let:a=b:=by unfold di at f;let:=LU Prod.fst f;let:low+(a:Int)=low+(b:Int):=this;lia
 rw[this];calc⟨k,j⟩
theorem RwI.snoc(h:RwI low own P R){sp:Prs}{d:Nat}(r:sp≠[])(E:⇑sp<=100)(q:∀p∈sp,∃a:Nat,S a/\p=di low a/\a%2=d)(D:∀a,S a->di low a∈sp)(o:∀a,S a->¬ P a/\a%2=d):RwI low own (λa=>P a\/S a) (R++[([sp],own d)]):=by
 let v:∀a:Nat,eR [sp] [low+(a:Int)]=LJ->S a:=λa A=>by
  rw[rM]at A;let(b,B,u,_):=q _ (vp A λp l=>let ⟨b,_,e,_⟩:=q p l;⟨b,e⟩);let:a=b:=by unfold di at u;let:=LU Prod.fst u;let:low+(a:Int)=low+(b:Int):=this;lia
  rw[this];exact B
 refine⟨λw i=>?_,λa k=>?_,λa j n w m e g f s=>?_⟩
 .rcases hZ.mp i with i|i
  .let(sp,a,b,c,d):=h.row w i;exact⟨sp,a,b,c,λp l=>let ⟨x,y,z⟩:=d p l;⟨x,.inl y,z⟩⟩
  .rw[fc.mp i];exact⟨sp,U,r,E,λp l=>let ⟨a,x,y,z⟩:=q p l;⟨a,.inr x,y,by rw[z]⟩⟩
 .rcases k with k|k
  .let(w,i,x):=h.cov a k;exact⟨w,jJ _ i,x⟩
  .exact⟨_,jq _<|fc.mpr U,sp,U,D a k,by rw[(o a k).2]⟩
 .let t:∀(j:Nat)(w:Rw),(R++[([sp],own d)])[j]?=LH w->(R[j]?=LH w)\/(j=R.length/\w=([sp],own d)):=λj w e=>by
   by_cases C:j<R.length
   .rw[iQ C]at e;exact .inl e
   .rw[js ∅]at e;let r:=(Ik.mp e).1;rw[ie]at r;rw[show j-R.length=0 by lia]at e;cases e;exact .inr ⟨∅,U⟩
  rcases t j w e with e|⟨e,rfl⟩
  .rcases t n m g with g | ⟨g,rfl⟩
   .exact h.one a j n w m e g f s
   .exact LP (h.fits (Il e) f).1 (o a<|v a s).1
  .rcases t n m g with g | ⟨g,rfl⟩
   .exact LP (h.fits (Il g) s).1 (o a<|v a f).1
   .lia
theorem D6{n j:Nat}{f:Nat->Bool}(c:j<n)(h:∀k,k<n->(f k=LJ↔k=j)):(List.range n).filter f=[j]:=by
 refine vk (List.Pairwise.filter _ lg) (tj _ _) λx=>?_
 rw[kP,iu,fc];calc⟨λ⟨a,b⟩=>(h x a).mp b,λe=>by rw[e];exact⟨c,(h j c).mpr U⟩⟩
theorem Br{n:Nat}{f:Nat->Bool}(h:∀k,k<n->f k=LK):(List.range n).filter f=[]:=by
 rw[List.filter_eq_nil_iff];exact λx a z=>by rw[h x (iu.mp a)]at z;cases z
theorem RwI.pk(h:RwI low own P R){a:Nat}(r:P a):∃j,j<R.length/\bG R [low+(a:Int)] j=LJ/\(∀k,k<R.length->bG R [low+(a:Int)] k=LJ->k=j)/\∀g:Nat->Bool,pkF R (λk=>g k && bG R [low+(a:Int)] k) R.length=if g j then[own (a%2)] else[]:=by
 let(w,o,s,e,p,q):=h.cov a r;let(j,f):=lz o;let l:=(Ik.mp f).1;let d:eR w.1 [low+(a:Int)]=true:=by rw[e,rM];exact yV p
 let m:bG R [low+(a:Int)] j=true:=by unfold bG;rw[getD_at f];exact d
 let i:∀k,k<R.length->bG R [low+(a:Int)] k=LJ->k=j:=λk c b=>by
  let n:=Ij c;unfold bG at b;rw[getD_at n]at b;exact h.one a k j _ _ n f b d
 calc⟨j,l,m,i,λg=>?_⟩;unfold pkF;cases hg:g j with
 |true =>
  rw[D6 l λk c=>⟨λz=>i k c (by rw[Dx]at z;exact z.2),λz=>by rw[z,hg,m];rfl⟩,jc,mu,getD_at f,q];rfl
 |false =>
  rw[Br λk c=>?_]
  .rfl
  .by_cases z:k=j
   .rw[z,hg];rfl
   .rw[DA.mpr λy=>z<|i k c y,Bool.and_false]
theorem RwI.pk0(h:RwI low own P R){a:Nat}(e:¬ P a)(g:Nat->Bool):pkF R (λk=>g k && bG R [low+(a:Int)] k) R.length=[]:=by
 let d:∀k,k<R.length->bG R [low+(a:Int)] k=false:=λk b=>by
  let c:=Ij b;refine DA.mpr λy=>e ?_
  unfold bG at y;rw[getD_at c]at y;exact(h.fits (Il c) y).1
 unfold pkF;rw[Br λk b=>by rw[d k b,Bool.and_false]];rfl
theorem RwI.each(h:RwI low own P R){j:Nat}(g:j<R.length):∃a,P a/\bG R [low+(a:Int)] j=true:=by
 let c:=Ij g;let(d,e,k,_,f):=h.row _<|Il c;let(p,b):=List.exists_mem_of_ne_nil d k;let(a,i,rfl,_):=f p b;calc⟨a,i,?_⟩;unfold bG;rw[getD_at c,e,rM];calc yV b
end
def Av(low:Int)(place:Nat)(other:Int):Rw:=([[di low place]],other)
def evy(low:Int)(place:Nat)(other:Int)(more:Bool)(R:L0 Rw):L0 Rw:=R++(if more then[Av low place other] else[])
section
variable{low:Int}{own:Nat->Int}{P:Nat->Prop}{R:L0 Rw}{place:Nat}{other:Int}{more:Bool}
theorem lO:⇑(evy low place other more R)=R.length+(if more then 1 else 0):=by
 unfold evy;cases more <;> simp
theorem vq{j:Nat}(a:j<R.length):(evy low place other more R).getD j ([],0)=R.getD j ([],0):=by
 unfold evy;rw[ik,ik,iQ a]
theorem wI{A B:L0 Rw}{f g:Nat->Bool}{n:Nat}(h:∀k,k<n->A.getD k ([],0)=B.getD k ([],0)/\f k=g k):pkF A f n=pkF B g n:=by
 unfold pkF;rw[List.filter_congr (q:=g) λk a=>(h k<|iu.mp a).2];calc List.map_congr_left λk a=>by rw[(h k<|iu.mp (kP.mp a).1).1]
theorem vw{a j:Nat}(b:j<R.length):bG (evy low place other more R) [low+(a:Int)] j=bG R [low+(a:Int)] j:=by
 unfold bG;rw[vq b]
theorem mV{a:Nat}(b:more=LJ):bG (evy low place other more R) [low+(a:Int)] R.length=LL (a=place):=by
 unfold bG evy;rw[b,LO U,ik,js<|wX _,zm];show eR [[di low place]] _=_;rw[rM,Bool.eq_iff_iff,LV];unfold inP inR di;simp;lia
theorem yW{a:Nat}(g:Nat->Bool):pkF (evy low place other more R) (λk=>g k && bG (evy low place other more R) [low+(a:Int)] k) ⇑(evy low place other more R)=pkF R (λk=>g k && bG R [low+(a:Int)] k) R.length++(if more && g R.length && decide (a=place) then[other] else[]):=by
 let b:pkF (evy low place other more R) (λk=>g k && bG (evy low place other more R) [low+(a:Int)] k) R.length=pkF R (λk=>g k && bG R [low+(a:Int)] k) R.length:=wI λk c=>⟨vq c,by rw[vw c]⟩
 rw[lO];cases hm:more with
 |false =>
  rw[hm]at b;simp only[Bool.false_and,DB,if_false,AV,iP];exact b
 |true =>
  rw[hm]at b;rw[LO U,mP,b]
  congr 1
  let e:=mV (low:=low) (place:=place) (other:=other) (R:=R) (a:=a) (more:=LJ) U;rw[e,Bool.true_and];let d:((evy low place other LJ R).getD R.length ([],0)).2=other:=by
   unfold evy;rw[LO U,ik,js<|wX _,zm];rfl
  rw[d]
theorem CU(h:RwI low own P R)(d:P place){a:Nat}:pkF (evy low place other more R) (bG (evy low place other more R) [low+(a:Int)]) ⇑(evy low place other more R)=(open Classical in if P a then[own (a%2)] else[])++(if more && decide (a=place) then[other] else[]):=by
 let e:=yW (low:=low) (place:=place) (other:=other) (more:=more) (R:=R) (a:=a) λ_=>LJ
 simp only[Bool.true_and,Bool.and_true]at e;rw[e]
 congr 1
 by_cases b:P a
 .let(j,_,_,_,c):=h.pk b;let:=c λ_=>LJ
  simp only[Bool.true_and,if_true]at this;rw[this,LO b]
 .let:=h.pk0 b λ_=>LJ
  simp only[Bool.true_and]at this;rw[this,LN b]
end
theorem p4{i:Nat}(hi:i<3){lo a c:Int}:ver (wf i lo a) [c]=say c:=by
 rcases(show i=0\/i=1\/i=2 by lia)with rfl|rfl|rfl
 .rfl
 .rfl
 .let d:least [c]=c:=by unfold least;simp
  let b:great [c]=c:=by unfold great;simp
  show(if least [c]=great [c]then say (least [c])else clash)=_;rw[d,b,LO U]
def yX{lo a c d:Int}:ver (wf 0 lo a) [c,d]=say c:=rfl
theorem uq{i:Nat}(e:0<i)(hi:i<3){lo a c d:Int}(b:c≠d):ver (wf i lo a) [c,d]=clash:=by
 rcases(show i=1\/i=2 by lia)with rfl|rfl
 .rfl
 .show(if least [c,d]=great [c,d]then say (least [c,d])else clash)=_;calc LN λz=>b ((kL (n:=c) (ns:=[d])).mpr z d dn).symm
theorem gm(c:Int):say c≠oh:=λh=>by
 let:s!"say" = s!"none" := LU Prod.fst h;calc LP this ⋯
theorem eJ(c:Int):say c≠clash:=λh=>by
 let:s!"say" = s!"clash" := LU Prod.fst h;calc LP this ⋯
section
variable{low:Int}{own:Nat->Int}{P:Nat->Prop}{R:L0 Rw}{place sz:Nat}{other:Int}{more:Bool}{i:Nat}{o:Int×Int}
def dr(low:Int)(sz:Nat):Prs:=[(low,low+(sz:Int)-1)]
theorem ur{a:Nat}(e:a<sz):InB [low+(a:Int)] (dr low sz):=pV U λj x p b d=>by
 let c:j=0:=by have:=(Ik.mp b).1;rw[ie]at this;lia
 subst c;cases b;cases d;show low<=low+(a:Int)/\low+(a:Int)<=low+(sz:Int)-1;lia
theorem kd{b:L0 Int}(h:InB b (dr low sz)):∃a,a<sz/\b=[low+(a:Int)]:=by
 let(c,d):=iI h
 match b,c with
 | [x],_ =>
  let:=d 0 x _ U U;let f:low<=x:=this.1;let e:x<=low+(sz:Int)-1:=this.2;calc⟨(x-low).toNat,∅,by rw[show low+(((x-low).toNat:Nat):Int)=x by lia]⟩
def iJ(ks:L0 Nat)(a:Nat):cdq (evy low place other more R) ks (bG (evy low place other more R) [low+(a:Int)])=pkF R (λk=>decide (k∈ks) && bG R [low+(a:Int)] k) R.length++(if more && decide (R.length∈ks) && decide (a=place) then[other] else[]):=yW _
theorem CV{c d:Int}(a:c≠d)(hi:i<3):ver (wf i o.1 o.2) [c,d]≠ver (wf i o.1 o.2) [d]:=by
 rw[p4 hi];by_cases b:i=0
 .subst b;rw[yX];exact λz=>a<|LU Prod.snd z
 .rw[uq ∅ hi a];calc λz=>eJ d z.symm
theorem p5(h:RwI low own P R)(w:∀a,P a->a<sz)(C:P place)(g:own (place%2)≠other)(hi:i<3){ks:L0 Nat}(pw:ks.Pairwise (· < ·)){c k:Nat}(e:ks[c]?=LH k)(f:k<R.length):¬ IdA (dr low sz) (evy low place other more R) i o ks c:=λy=>by
 let(a,q,p):=h.each f;let(j,E,D,u,n):=h.pk q;let l:=u k f p;subst l;let v:=Il e;let b:=y _ ⟨_,ur<|w a q,U⟩ (by rw[ik,e];show bG _ _ k=LJ;rw[vw f];exact p);let t:decide (R.length∈ks.eraseIdx c)=LL (R.length∈ks):=by
  rw[Bool.eq_iff_iff,LV,LV,mem_erase pw e];exact⟨λz=>z.1,λz=>⟨z,∅⟩⟩
 let B:decide (k∈ks)=true:=LQ v;let A:decide (k∈ks.eraseIdx c)=false:=LR (by rw[mem_erase pw e];exact λz=>z.2 U);let s:=n λx=>decide<|x∈ks
 let r:=n λx=>decide<|x∈ks.eraseIdx c
 rw[B,LO U]at s;rw[A,LN Bool.false_ne_true]at r;rw[iJ,iJ,s,r,t]at b;by_cases d:(more && decide (R.length∈ks) && decide (a=place))=LJ
 .rw[LO d]at b;let m:a=place:=by rw[Dx]at d;exact LS d.2
  rw[m]at b;exact CV g hi b
 .rw[LN d,iP]at b;rw[p4 hi]at b;calc gm _ b
theorem yY(h:RwI low own P R)(s:∀a,P a->a<sz)(d:P place)(g:own (place%2)≠other)(u:0<i)(hi:i<3){ks:L0 Nat}(pw:ks.Pairwise (· < ·))(e:∀k,k<R.length->k∈ks){c:Nat}(f:ks[c]?=LH R.length)(l:more=LJ):¬ IdA (dr low sz) (evy low place other more R) i o ks c:=λt=>by
 let(j,m,w,y,n):=h.pk d;let b:=t _ ⟨_,ur<|s place d,U⟩ (by rw[ik,f];show bG _ _ R.length=LJ;rw[mV l];exact LQ U);let r:=Il f;let q:=n λx=>decide<|x∈ks
 let p:=n λx=>decide<|x∈ks.eraseIdx c
 let v:decide (R.length∈ks.eraseIdx c)=false:=LR<|λz=>((mem_erase pw f).mp z).2 U;rw[LQ (e j m),LO U]at q;rw[LQ ((mem_erase pw f).mpr ⟨e j m,∅⟩),LO U]at p;rw[iJ,iJ,q,p,v,l,LQ r,LO (by simp),LN (by simp)]at b;let b:ver (wf i o.1 o.2) [own (place%2),other]=ver (wf i o.1 o.2) [own (place%2)]:=b;rw[uq u hi g,p4 hi]at b;calc eJ _ b.symm
theorem yZ(h:RwI low own P R)(f:P place){ks:L0 Nat}(pw:ks.Pairwise (· < ·))(d:∀k,k<R.length->k∈ks){c:Nat}(e:ks[c]?=LH R.length)(l:more=LJ):IdA (dr low sz) (evy low place other more R) 0 o ks c:=fun v r b=>by
 let(A,g,rfl):=r;let(a,y,rfl):=kd g;rw[ik,e]at b;let b:bG _ _ R.length=true:=b;rw[mV l]at b;let i:=LS b;subst i;let(j,m,u,w,n):=h.pk f;let s:=Il e;let q:=n λx=>decide<|x∈ks
 let p:=n λx=>decide<|x∈ks.eraseIdx c
 let t:decide (R.length∈ks.eraseIdx c)=false:=LR<|λz=>((mem_erase pw e).mp z).2 U;rw[LQ (d j m),LO U]at q;rw[LQ ((mem_erase pw e).mpr ⟨d j m,∅⟩),LO U]at p;rw[iJ,iJ,q,p,t,l,LQ s,LO (by simp),LN (by simp)];rfl
theorem ThR.inv{bs:Prs}{rws:L0 Rw}{ks r:L0 Nat}(h:ThR bs rws i o ks r):(r=ks/\∀a,a<⇑ks->¬ IdA bs rws i o ks a)\/∃a,a<⇑ks/\IdA bs rws i o ks a/\(∀j,a<j->j<⇑ks->¬ IdA bs rws i o ks j)/\ThR bs rws i o (ks.eraseIdx a) r:=by
 cases h with
 |fin h=>exact .inl ⟨U,h⟩
 | @step _ _ a h1 h2 h3 h4=>calc .inr ⟨a,h1,h2,h3,h4⟩
def dj{n k:Nat}(a:k<n):(List.range n)[k]?=LH k:=List.getElem?_range a
theorem rN(n:Nat):(List.range<|n+1).eraseIdx n=List.range n:=by
 rw[List.eraseIdx_eq_take_drop_succ,List.take_range,List.drop_eq_nil_of_le (by rw[ja];exact wX _),iP,Nat.min_eq_left (x4 n)]
theorem Aw(h:RwI low own P R)(t:∀a,P a->a<sz)(b:P place)(g:own (place%2)≠other)(hi:i<3){ks:L0 Nat}(p:ThR (dr low sz) (evy low place other more R) i o (List.range ⇑(evy low place other more R)) ks):ks.map (gR<|evy low place other more R)=if i=0 then R else evy low place other more R:=by
 let m:∀(A:L0 Rw)(n:Nat),(∀k,k<n->A[k]?=(evy low place other more R)[k]?)->A.length=n->(List.range n).map (gR<|evy low place other more R)=A:=λA n C F=>by
  refine tu λj=>?_
  rw[gM];by_cases u:j<n
  .rw[dj u,C j u];let w:j<⇑(evy low place other more R):=by
    let e:=C j u;rw[Ij ∅]at e;exact(Ik.mp e.symm).1
   exact(yU w).symm
  .rw[nC (by rw[ja];lia),nC ∅];rfl
 let s:(List.range R.length).map (gR<|evy low place other more R)=R:=m R R.length (λk B=>by unfold evy;rw[iQ B]) U;let v:(List.range ⇑(evy low place other more R)).map (gR<|evy low place other more R)=evy low place other more R:=m _ _ (λ_ _=>U) U;let f:∀q,ThR (dr low sz) (evy low place other more R) i o (List.range R.length) q->q=List.range R.length:=λq G=>by
  rcases G.inv with⟨e,_⟩|⟨a,d,l,_⟩
  .exact e
  .rw[ja]at d;exact LP l<|p5 h t b g hi lg (dj d) d
 cases hm:more with
 |false =>
  rw[hm]at p s v f;let e:evy low place other LK R=R:=by unfold evy;simp
  let r:⇑(evy low place other LK R)=R.length:=by rw[e]
  rw[r]at p;rw[f ks p,s,e];split <;> rfl
 |true =>
  let r:⇑(evy low place other LJ R)=R.length+1:=by rw[lO];rfl
  rw[hm]at p s v f;let E:∀k,k<R.length->k∈List.range (R.length+1):=λk B=>iu.mpr ∅
  by_cases D:i=0
  .subst D;rw[LO U];let x:=yZ (sz:=sz) (o:=o) (other:=other) h b lg E (dj<|yg _) (more:=LJ) U;rw[r]at p;rcases p.inv with⟨_,e⟩|⟨a,d,l,F,y⟩
   .exact LP x<|e _ (by rw[ja];lia)
   .rw[ja]at d;let c:a=R.length:=by
     refine Decidable.byContradiction λz=>?_
     exact LP l<|p5 h t b g hi lg (dj d) ∅
    rw[c,rN]at y;rw[f ks y,s]
  .rw[LN D];rcases p.inv with⟨e,_⟩|⟨a,d,l,_⟩
   .rw[e,v]
   .rw[ja,r]at d;rw[r]at l;by_cases c:a<R.length
    .exact LP l<|p5 h t b g hi lg (dj d) c
    .let c:a=R.length:=∅
     rw[c]at l;calc LP l<|yY h t b g ∅ hi lg E (dj<|yg _) U
theorem Ax{c:Nat}{b:Int×Int}{w:Rw}{x:Int}:x∈rmk c b w↔(∃p∈w.1.getD c [],x=p.1\/x=p.2+1)/\b.1<x/\x<=b.2:=by
 unfold rmk;rw[kP,ml,Dx,LV,LV]
theorem vx(h:RwI low own P R){b:Nat}(d:∀a,P a↔a<sz/\a%2<b)(n:1<=b){x:Int}:MkC (evy low place other more R) 0 (low,low+(sz:Int)-1) x↔low<x/\x<=low+(sz:Int)-1:=by
 calc⟨λh=>mS h,λ⟨k,j⟩=>?_⟩;let c:∀a:Nat,P a->(x=low+(a:Int)\/x=low+(a:Int)+1)->MkC (evy low place other more R) 0 (low,low+(sz:Int)-1) x:=λa i e=>by
  let(w,f,m,l,g,_):=h.cov a i;exact⟨w,jJ _ f,Ax.mpr ⟨⟨_,by rw[l];exact g,e⟩,k,j⟩⟩
 by_cases o:((x-low).toNat)%2=0
 .exact c (x-low).toNat ((d _).mpr ⟨∅,∅⟩)<|.inl ∅
 .exact c ((x-low).toNat-1) ((d _).mpr ⟨∅,∅⟩)<|.inr ∅
def rO(low:Int)(sz:Nat):L0 Int:=(List.range<|sz-1).map λj:Nat=>low+1+(j:Int)
theorem mW{x:Int}:x∈rO low sz↔low<x/\x<=low+(sz:Int)-1:=by
 unfold rO;rw[dy];constructor
 .rintro⟨j,a,rfl⟩;let:=iu.mp a;lia
 .rintro⟨c,b⟩;calc⟨(x-low-1).toNat,iu.mpr ∅,∅⟩
theorem Ay:(rO low sz).Nodup:=by
 unfold rO;rw[List.nodup_iff_pairwise_ne,List.pairwise_map];calc List.Pairwise.imp (λh=>∅) lg
theorem CW(h:RwI low own P R){d:Nat}(p:∀a,P a↔a<sz/\a%2<d)(o:1<=d)(t:1<=sz)(f:L0 (L0 Int))(n:⇑f=⇑(dr low sz))(m:∀(c:Nat)(b:Int×Int)(ms:L0 Int),(dr low sz)[c]?=LH b->f[c]?=LH ms->ms.Pairwise (· < ·)/\∀x,x∈ms↔MkC (evy low place other more R) c b x):gr (dr low sz) f ⇑(dr low sz)=sz:=by
 match f,n with
 | [ms],_ =>
  let(k,i):=m 0 _ ms U U;let i:∀x,x∈ms↔low<x/\x<=low+(sz:Int)-1:=λx=>(i x).trans<|vx h p o
  let l:=k.imp λh=>Int.ne_of_lt h
  let s:=bu l λx g=>mW.mpr<|(i x).mp g
  let r:=bu (Ay (low:=low) (sz:=sz)) λx g=>(i x).mpr<|mW.mp g
  let q:⇑(rO low sz)=sz-1:=by unfold rO;rw[bc,ja]
  let e:=ui (lo:=low) (hi:=low+(sz:Int)-1) (ms:=ms) k λc=>⟨λj=>⟨j,(i c).mp j⟩,λj=>j.1⟩
  show 1*(⇑(dd low (low+(sz:Int)-1) ms)+1)=sz;lia
theorem y9{b c:Nat}:∀{rws:L0 Rw},(∀w∈rws,⇑(w.1.getD c [])<=b)->spn rws c<=b*⇑rws
 | [],_=>wZ _
 |w :: rws,h=>by
  let e:=h w dn;let d:=y9 (rws:=rws) λw a=>h w<|fo _ a
  unfold spn at d⊢;rw[jc,wW,gb,Nat.mul_succ];lia
theorem Az{A B:L0 Rw}{c:Nat}:spn (A++B) c=spn A c+spn B c:=by
 unfold spn;rw[gd,wh]
theorem AA(h:RwI low own P R)(i:R.length<=4)(c:Nat):spn (evy low place other more R) c<=499:=by
 let d:∀(a:Prs)(c:Nat),([a]:L0 Prs).getD c []=a\/([a]:L0 Prs).getD c []=[]:=λa c=>by
  cases c with
  |zero=>exact .inl U
  |succ c=>exact .inr U
 let k:=y9 (b:=100) (c:=c) (rws:=R) λw f=>by
  let(a,e,_,g,_):=h.row w f;rw[e];rcases d a c with z|z
  .rw[z];exact g
  .rw[z];exact wZ _
 unfold evy;rw[Az];let j:spn (if more then[Av low place other] else[]) c<=1:=by
  cases more with
  |false=>exact wZ _
  |true =>
   show⇑(([[di low place]]:L0 Prs).getD c [])+0<=1;rcases d [di low place] c with z|z
   .rw[z];exact wX _
   .rw[z];exact wZ _
 lia
theorem AB(h:RwI low own P R)(z:∀a,P a->a<sz)(k:place<sz)(u:∀d,d<2->o.1<=own d/\own d<=o.2)(q:o.1<=other/\other<=o.2){w:Rw}(f:w∈evy low place other more R):lu (dr low sz) o w:=by
 let n:∀(g:Prs)(c:Int),(∀p∈g,∃a:Nat,a<sz/\p=di low a)->o.1<=c->c<=o.2->lu (dr low sz) o ([g],c):=λg c l B A=>⟨U,λj E b D s p k=>by
  let t:j=0:=by have:=(Ik.mp s).1;let:j<1:=this;lia
  subst t;cases D;cases s;let(a,v,rfl):=l p k;show low<=low+(a:Int)/\low+(a:Int)<=low+(sz:Int)-1;lia,B,A⟩
 rcases hZ.mp f with f|f
 .let(g,e,C,_,l):=h.row w f;let(p,i):=List.exists_mem_of_ne_nil g C;let(a,v,_,r):=l p i;let:=u (a%2)<|zN _ ⋯;let m:w=([g],w.2):=Prod.ext e U;rw[m];exact n g w.2 (λp k=>let ⟨a,x,y,_⟩:=l p k;⟨a,z a x,y⟩) (by rw[r];exact this.1) (by rw[r];exact this.2)
 .cases hm:more with
  |false=>rw[hm]at f;cases f
  |true =>
   rw[hm]at f;rw[fc.mp f];calc n _ _ (λp i=>⟨place,k,by rw[fc.mp i]⟩) q.1 q.2
def gP(low:Int)(v:Nat->SI)(a:Nat):T3a SI:=(low+(a:Int),low+(a:Int),v a)
def wJ(G:L0 (T3a SI)):Fm SI 1:=G
theorem vy{v:Nat->SI}:∀n:Nat,Ch3 ((List.range n).map<|gP low v) low (low+(n:Int)-1)
 |0=>by show low=low+((0:Nat):Int)-1+1;lia
 |n+1=>by
  rw[nP,gd,jc,mu];let:=Ch3.snoc (t:=gP low v n) (vy (v:=v) n) (by show low+(n:Int)=low+(n:Int)-1+1;lia) (Int.le_refl _);rw[show low+((n+1:Nat):Int)-1=low+(n:Int) by lia];calc this
theorem rP(G:L0 (T3a SI)):bxs 1 (wJ G)=G.map λt=>([(t.1,t.2.1)],t.2.2):=by
 show List.flatMap (λe:T3a SI=>(bxs 0 (show Fm SI 0 from e.2.2)).map λq=>((e.1,e.2.1) :: q.1,q.2)) G=_;induction G with
 |nil=>rfl
 |cons t G a=>rw[List.flatMap_cons,a];rfl
theorem AE{v:Nat->SI}{n a:Nat}(c:a<n):Tel 1 (wJ<|(List.range n).map<|gP low v) [low+(a:Int)] (v a):=by
 let g:∀k,k<n->((List.range n).map<|gP low v)[k]?=LH (gP low v k):=λk b=>by rw[gM,dj b];rfl
 calc .cons (j:=a) (t:=gP low v a) (g a c) (Int.le_refl _) (λk u b e=>?_)<|.nil _;cases (g k ∅).symm.trans e;show low+(k:Int)<low+(a:Int);lia
theorem rQ{F:Fm SI 1}{v:Nat->SI}(n:cH 1 F (dr low sz))(h:∀a,a<sz->Tel 1 F [low+(a:Int)] (v a))(o:1<=sz)(f:∀a,a+1<sz->v a≠v (a+1)):bxs 1 F=(List.range sz).map λa=>([di low a],v a):=by
 let d:cH 1 (wJ<|(List.range sz).map<|gP low v) (dr low sz):=by
  refine⟨_,[],U,λz=>?_,vy sz,λk x y c b=>?_,λt h=>U⟩
  .let:=LU List.length z;let:⇑((List.range sz).map<|gP low v)=0:=this;rw[bc,ja]at this;lia
  .let c:(((List.range sz).map<|gP low v).map (·.2.2))[k]?=LH x:=c;let b:(((List.range sz).map<|gP low v).map (·.2.2))[k+1]?=LH y:=b;rw[ov,gM]at c b;let i:k+1<sz:=by
    refine Decidable.byContradiction λz=>?_
    rw[nC (by rw[ja];lia)]at b;cases b
   rw[dj ∅]at c;rw[dj i]at b;cases c;cases b;exact f k i
 let e:F=wJ ((List.range sz).map<|gP low v):=iG n d λp g x y m l=>by
  let(a,j,rfl):=kd g;rw[fu m (h a j)];exact(fu l<|AE j).symm
 rw[e,rP,ov];rfl
theorem zd{F:Fm SI 1}{u:SI}(h:cH 1 F (dr low sz))(d:∀a,a<sz->Tel 1 F [low+(a:Int)] u)(n:1<=sz):bxs 1 F=[([(low,low+(sz:Int)-1)],u)]:=by
 let b:cH 1 (wJ [((low,low+(sz:Int)-1,u):T3a SI)]) (dr low sz):=by
  refine⟨_,[],U,(λz=>by cases z),⟨U,by show low<=low+(sz:Int)-1;lia,by show low+(sz:Int)-1+1=_+1;rfl⟩,λk x y o m=>?_,λt d=>U⟩;let:=(Ik.mp m).1;let:k+1<1:=this;lia
 let e:F=wJ [((low,low+(sz:Int)-1,u):T3a SI)]:=iG h b λp c x y g f=>by
  let(a,l,rfl):=kd c;rw[fu g (d a l)];refine(fu f<|.cons (j:=0) (t:=(low,low+(sz:Int)-1,u)) U (by show low+(a:Int)<=low+(sz:Int)-1;lia) (λk u i=>LP i<|zl _) (.nil _)).symm
 rw[e,rP];rfl
theorem ph{v:Nat->SI}:∀n:Nat,(∀a,a<n->(v a).1=kM)->⇑(bE<|(List.range n).map λa=>([di low a],v a))=n
 |0,_=>rfl
 |n+1,h=>by
  rw[nP,gd,jc,mu,jh,dV,ph n λa b=>h a ∅,LO (LQ<|h n ∅)];rfl
theorem mZ{v:Nat->SI}:∀n:Nat,(∀a,a<n->((v a).1=kM↔a%2=0))->⇑(bE<|(List.range n).map λa=>([di low a],v a))=(n+1) / 2
 |0,_=>rfl
 |n+1,h=>by
  rw[nP,gd,jc,mu,jh,dV,mZ n λa c=>h a ∅];by_cases b:n%2=0
  .rw[LO (LQ<|(h n ∅).mpr b)];show(n+1) / 2+1=_;lia
  .rw[LN (λz=>b<|(h n ∅).mp<|LS z)];show(n+1) / 2+0=_;lia
end
theorem ke{lo hi c:Int}(f:0<c){x:Nat}:x<rsz lo hi c↔lo+(x:Int)*c<hi:=by
 unfold rsz;let i:0<=(x:Int)*c:=Int.mul_nonneg ∅ ∅;split
 .rename_i h
  let g:=Int.ediv_nonneg (a:=hi-lo-1) (b:=c) ∅ ∅;let e:=Int.le_ediv_iff_mul_le (a:=(x:Int)) (b:=hi-lo-1) f;constructor
  .intro d;let:=e.mp ∅;lia
  .intro d;let:=e.mpr ∅;lia
 .constructor
  .intro d;exact LP d (by simp)
  .intro d;lia
inductive TdI(K:W.Frag)(cT cN cW:HA)(H:Hp)(nm wy:Str)(ou:HA)(zs:L0 Str)(dv:L0 V)(rws:L0 Rw)(bs:Prs)(o:Int×Int)(wi g:Nat):Bool->Str->V->Prop
 |fine {thin:Bool}:300<g->TdI K cT cN cW H nm wy ou zs dv rws bs o wi g thin s!"TooFine" .non
 |thin {t':HA}{ks:L0 Nat}:g<=300->ThR bs rws wi o (List.range ⇑rws) ks->TF cT H t' nm wy ou zs dv (ks.map<|gR rws)->TdI K cT cN cW H nm wy ou zs dv rws bs o wi g LJ s!"made" (.ref t')
 |clash:g<=300->(∃cs,InB cs bs/\vdm rws wi o (mkg rws cs)=clash)->TdI K cT cN cW H nm wy ou zs dv rws bs o wi g LK s!"Clash" .non
 |many {F:Fm SI ⇑zs}:g<=300->cH ⇑zs F bs->(∀cs,InB cs bs->Tel ⇑zs F cs (vdm rws wi o<|mkg rws cs))->(∀q∈bxs ⇑zs F,q.2≠clash)->200<⇑(bE<|bxs ⇑zs F)->TdI K cT cN cW H nm wy ou zs dv rws bs o wi g LK s!"TooMany" .non
 |made {F:Fm SI ⇑zs}{t':HA}:g<=300->cH ⇑zs F bs->(∀cs,InB cs bs->Tel ⇑zs F cs (vdm rws wi o<|mkg rws cs))->(∀q∈bxs ⇑zs F,q.2≠clash)->⇑(bE<|bxs ⇑zs F)<=200->TF cT H t' nm s!"only" ou zs dv (bE<|bxs ⇑zs F)->TOk cN cW H nm s!"only" ou zs dv (bE<|bxs ⇑zs F) bs o->TdI K cT cN cW H nm wy ou zs dv rws bs o wi g LK s!"made" (.ref t')
theorem TdI.same{K:W.Frag}{m n l:HA}{H H':Hp}{nm f:Str}{j:HA}{zs:L0 Str}{k:L0 V}{rws:L0 Rw}{bs:Prs}{o:Int×Int}{i g:Nat}{b:Bool}{wd:Str}{v:V}(h:TdI K m n l H nm f j zs k rws bs o i g b wd v)(s:ak H H'):TdI K m n l H' nm f j zs k rws bs o i g b wd v:=by
 cases h with
 |fine h=>exact .fine h
 |thin h a c=>exact .thin h a (c.same s)
 |clash h a=>exact .clash h a
 |many h a c e d=>exact .many h a c e d
 |made h a c e d q p=>calc .made h a c e d (q.same s) (p.same s)
def wd3:L0 Str:=[s!"TooFine",s!"Clash",s!"TooMany"]
def kd3(j:Nat):L0 Bool:=[LJ,LL<|j=0,LL<|j=1,LL (j=2)]
theorem D7(j:Nat):[V.bl LJ,.bl<|LL<|V.int (j:Int)=V.int 0,.bl<|LL<|V.int (j:Int)=V.int 1,.bl (LL<|V.int (j:Int)=V.int 2)]=(kd3 j).map V.bl:=by
 let h:∀k:Nat,LL (V.int (j:Int)=V.int (k:Int))=LL (j=k):=λk=>by
  rw[Bool.eq_iff_iff,LV,LV];exact⟨λz=>by have:=V.int.inj z;lia,λz=>by rw[z]⟩
 show _=[V.bl LJ,.bl<|LL<|j=0,.bl<|LL<|j=1,.bl (LL<|j=2)];rw[←h 0,←h 1,←h 2];rfl
theorem AF{i j:Nat}(hi:i<3)(a:j<3):kd3 i=kd3 j↔i=j:=by
 rcases(show i=0\/i=1\/i=2 by lia)with rfl|rfl|rfl <;> rcases(show j=0\/j=1\/j=2 by lia)with rfl|rfl|rfl <;> decide
def knd(a:Nat):Nat:=if a=3 then 1 else 2
def dz(b a:Int)(d:Nat):Int:=if d=0 then b else a
def ze(sz a:Nat)(b:Str)(more thin:Bool):Str:=if 300<sz then s!"TooFine" else if more && decide (b≠s!"first") && !thin then s!"Clash" else if decide (200<a) && !thin then s!"TooMany" else s!"made"
theorem D8{sz m:Nat}(h:m<4):atI [V.int (sz:Int),.int (sz:Int),.int 1,.int (((sz:Int)+1) / 2)] (m:Int)=LH (.int ((if m<=1 then sz else if m=2 then 1 else(sz+1) / 2:Nat):Int)):=by
 rcases(show m=0\/m=1\/m=2\/m=3 by lia)with rfl|rfl|rfl|rfl
 .exact aM U
 .exact aM U
 .exact aM U
 .exact(aM (j:=3) U).trans (by rw[LN ⋯,LN ⋯,show(((sz+1) / 2:Nat):Int)=((sz:Int)+1) / 2 by lia])
structure PrI(sz:Nat)(c0 c1:Int)(mode place says:Nat)(o0 o1 other:Int):Prop where
 m4:mode<4
 pl:place<sz
 e0:o0=c0
 e1:o1=if mode<=1 then c1 else c0
 ot:other=if mode<=1 then(if place%2=0 then c1 else c0)else c1
 ev:mode=3->place%2=0
 sy:says=if mode<=1 then sz else if mode=2 then 1 else(sz+1) / 2
def vAt(b:Nat)(own:Nat->Int)(place:Nat)(more:Bool)(c a:Nat):SI:=if (more && decide (a=place) && decide (c≠0))=LJ then clash else if a%2<b then say (own<|a%2)else oh
theorem vz{rws:L0 Rw}{i:Nat}{o:Int×Int}{a:L0 Int}:vdm rws i o (mkg rws a)=ver (wf i o.1 o.2) (pkF rws (bG rws a) ⇑rws):=by
 unfold vdm mkg;rw[pS]
section
variable{low:Int}{own:Nat->Int}{R:L0 Rw}{place sz kinds:Nat}{other:Int}{more:Bool}{i:Nat}{o:Int×Int}
theorem lP(h:RwI low own (λa=>a<sz/\a%2<kinds) R)(f:place<sz/\place%2<kinds)(e:own (place%2)≠other)(hi:i<3){a:Nat}(g:a<sz):ver (wf i o.1 o.2) (pkF (evy low place other more R) (bG (evy low place other more R) [low+(a:Int)]) ⇑(evy low place other more R))=vAt kinds own place more i a:=by
 rw[CU h f];unfold vAt;by_cases c:a%2<kinds
 .rw[LO (show a<sz/\a%2<kinds from⟨g,c⟩),LO c];cases hm:more && decide (a=place) with
  |false =>
   rw[LN Bool.false_ne_true,iP,Bool.false_and,LN Bool.false_ne_true];exact p4 hi
  |true =>
   let b:a=place:=by rw[Dx]at hm;exact LS hm.2
   rw[LO U,Bool.true_and];by_cases d:i=0
   .rw[LN (by rw[d];decide)];subst d;rfl
   .rw[LO (LQ d)];rw[b];exact uq ∅ hi e
 .let b:a≠place:=λz=>c (by rw[z];exact f.2)
  rw[LN (λz=>c z.2),LN c,LR b,Bool.and_false,Bool.false_and,LN Bool.false_ne_true,LN Bool.false_ne_true];rfl
theorem val_one{rws:L0 Rw}{F:Fm SI 1}{v:Nat->SI}(d:cH 1 F (dr low sz))(g:∀a,a<sz->Tel 1 F [low+(a:Int)] (v a))(f:∀a,a<sz->v a=oh\/∃c,v a=say c)(h:rws=bE (bxs 1 F)){a:Nat}(b:a<sz):ver (wf 1 o.1 o.2) (pkF rws (bG rws [low+(a:Int)]) ⇑rws)=v a:=by
 subst h;let(B,j):=rF d (ur b)<|g a b;rw[CF,yN<|λe i=>(mR d e i).1.len,j];calc An<|f a b
theorem m3(b:(more && decide (i≠0))=LK){a:Nat}:vAt kinds own place more i a=if a%2<kinds then say (own<|a%2)else oh:=by
 unfold vAt;rw[LN λz=>?_];rw[Dx,Dx]at z;rw[z.1.1,z.2]at b;cases b
theorem wK(a:(more && decide (i≠0))=LJ):vAt kinds own place more i place=clash:=by
 rw[Dx]at a;unfold vAt;rw[a.1,a.2,LQ U];rfl
def rR(c:Int):(say c).1=kM:=rfl
theorem zf:oh.1≠kM:=λh=>LP (show s!"none" = s!"say" from h) ⋯
theorem rS{r q g k:Int}{b h:Nat}(c:PrI sz r q b place h g k other)(m:r≠q)(w:2<=sz)(t:(more && decide (i≠0))=LK){F:Fm SI 1}(o:cH 1 F (dr low sz))(l:∀a,a<sz->Tel 1 F [low+(a:Int)] (vAt (knd b) (dz g k) place more i a)):⇑(bE<|bxs 1 F)=h:=by
 let l:∀a,a<sz->Tel 1 F [low+(a:Int)] (if a%2<knd b then say (dz g k<|a%2)else oh):=λa j=>by have:=l a j;rw[m3 t]at this;exact this
 let v:=c.m4;rw[c.sy];by_cases n:b<=1
 .rw[LO n];let e:∀a:Nat,a%2<knd b:=λa=>by unfold knd;rw[LN ∅];lia
  let e1:=c.e1;rw[LO n]at e1;rw[rQ o l ∅ λa j=>?_,ph sz λa j=>?_]
  .rw[LO (e a)];exact rR _
  .rw[LO (e a),LO (e<|a+1)];intro z;let z:dz g k (a%2)=dz g k ((a+1)%2):=LU Prod.snd z;unfold dz at z;rw[c.e0,e1]at z;by_cases f:a%2=0
   .rw[LO f,LN ∅]at z;exact m z
   .rw[LN f,LO ∅]at z;exact m z.symm
 .rw[LN n];let e1:=c.e1;rw[LN n,←c.e0]at e1;let s:∀d,dz g k d=g:=λd=>by unfold dz;split <;> simp_all
  by_cases p:b=2
  .rw[LO p];let e:∀a:Nat,a%2<knd b:=λa=>by unfold knd;rw[LN ∅];lia
   rw[zd (u:=say g) o (λa j=>by have:=l a j;rw[LO (e a),s]at this;exact this) ∅];rfl
  .rw[LN p];let e:∀a:Nat,a%2<knd b↔a%2=0:=λa=>by unfold knd;rw[LO ∅];lia
   rw[rQ o l ∅ λa j=>?_,mZ sz λa j=>?_]
   .by_cases f:a%2=0
    .rw[LO ((e a).mpr f)];exact⟨λ_=>f,λ_=>rR _⟩
    .rw[LN (λz=>f<|(e a).mp z)];exact⟨λz=>LP z zf,λz=>LP z f⟩
   .by_cases f:a%2=0
    .rw[LO ((e a).mpr f),LN (λz=>by have:=(e<|a+1).mp z;lia)];exact gm _
    .rw[LN (λz=>f<|(e a).mp z),LO ((e<|a+1).mpr ∅)];calc(gm _).symm
theorem gQ{a:Nat}{b:Str}(c:a<3)(h:six[a]?=LH b):b=s!"first" ↔ a=0:=by
 rcases(show a=0\/a=1\/a=2 by lia)with rfl|rfl|rfl
 .cases h;exact⟨λ_=>U,λ_=>U⟩
 .cases h;exact⟨λz=>LP z ⋯,λz=>LP z ⋯⟩
 .cases h;calc⟨λz=>LP z ⋯,λz=>LP z ⋯⟩
theorem CY{K:W.Frag}{Z cN cW:HA}{H:Hp}{nm y:Str}{T:HA}{Y:L0 V}{M:Str}{c0 c1 x u:Int}{d c:Nat}{thin:Bool}{wd:Str}{v:V}(A:RwI low (dz x u) (λa=>a<sz/\a%2<knd d) R)(f:PrI sz c0 c1 d place c x u other)(L:c0≠c1)(X:2<=sz)(l:place%2<knd d)(m:dz x u (place%2)≠other)(C:i<3)(I:six[i]?=LH y)
  (h:TdI K Z cN cW H nm y T [M] Y (evy low place other more R) (dr low sz) o i sz thin wd v) :
  wd=ze sz c y more thin/\(wd=s!"made" -> ∃(t':HA)(E:Nat)(D:Str)(t:L0 Rw),v=.ref t'/\six[E]?=LH D/\TF Z H t' nm D T [M] Y t/\(∀w∈t,⇑w.1=1)/\(∀a,a<sz->ver (wf E o.1 o.2) (pkF t (bG t [low+(a:Int)]) ⇑t)=vAt (knd d) (dz x u) place more i a)/\(thin=LJ->t=if i=0 then R else evy low place other more R)):=by
 let N:∀a,a<sz->vdm (evy low place other more R) i o (mkg (evy low place other more R) [low+(a:Int)])=vAt (knd d) (dz x u) place more i a:=λa j=>by rw[vz];exact lP A ⟨f.pl,l⟩ m C j
 let hf:=gQ C I;let s:(more && decide (y≠s!"first"))=(more && decide (i≠0)):=by
  congr 1
  rw[Bool.eq_iff_iff,LV,LV,Ne,Ne,hf]
 let Bs:∀w∈evy low place other more R,⇑w.1=1:=λw g=>by
  rcases hZ.mp g with g|g
  .let(sp,e,_):=A.row w g;rw[e];rfl
  .cases O:more with
   |false=>rw[O]at g;cases g
   |true=>rw[O]at g;rw[fc.mp g];rfl
 let G:∀{F:Fm SI 1},cH 1 F (dr low sz)->(∀P,InB P (dr low sz)->Tel 1 F P (vdm (evy low place other more R) i o<|mkg (evy low place other more R) P))->(∀q∈bxs 1 F,q.2≠clash)->(more && decide (i≠0))=false:=λ{F} n r k=>by
  refine DA.mpr λz=>?_
  let:=r _<|ur f.pl;rw[N _ f.pl,wK z]at this;let(B,hB):=rF n (ur f.pl) this;exact k (B,clash) (kP.mp (show(B,clash)∈(bxs 1 F).filter _ by rw[hB];exact fc.mpr U)).1 U
 unfold ze;cases h with
 |fine h=>exact⟨by rw[LO h],λz=>LP z ⋯⟩
 | @thin t' ks h h1 hT =>
  refine⟨?_,λ_=>?_⟩
  .rw[LN ∅,LN (by simp),LN (by simp)]
  .let e:=Aw A (λa h=>h.1) ⟨f.pl,l⟩ m C h1;rw[e]at hT;refine⟨t',i,y,_,U,I,hT,λw g=>?_,λa j=>?_,λ_=>U⟩
   .split at g
    .exact Bs w<|jJ _ g
    .exact Bs w g
   .split
    .rename_i h0
     subst h0;let:=lP (more:=LK) (o:=o) A ⟨f.pl,l⟩ m C j;rw[show evy low place other LK R=R by unfold evy;simp]at this;rw[this,m3 (by simp),m3 (by simp)]
    .exact lP A ⟨f.pl,l⟩ m C j
 |clash h p =>
  calc⟨?_,λz=>LP z ⋯⟩;let(P,S,e):=p;let(a,j,rfl):=kd S;rw[N a j]at e;let O:(more && decide (i≠0))=true:=by
   refine Decidable.byContradiction λz=>?_
   rw[m3 (DA.mpr z)]at e;split at e
   .exact eJ _ e
   .exact LP (show s!"none" = s!"clash" from LU Prod.fst e) ⋯
  rw[LN ∅,LO (by rw[s,O];rfl)]
 | @many F h n r k gn =>
  calc⟨?_,λz=>LP z ⋯⟩;let p:=G n r k;let Q:=rS (i:=i) f L X p n λa j=>by have:=r _<|ur j;rw[N a j]at this;exact this
  let Q:⇑(bE<|bxs [M].length F)=c:=Q;rw[LN ∅,LN (by rw[s,p];decide),LO (by rw[LQ (show 200<c by lia)];rfl)]
 | @made F t' h n r k gn hT hO =>
  let p:=G n r k;let J:∀a,a<sz->Tel 1 F [low+(a:Int)] (vAt (knd d) (dz x u) place more i a):=λa j=>by have:=r _<|ur j;rw[N a j]at this;exact this
  let Q:⇑(bE<|bxs [M].length F)=c:=rS (i:=i) f L X p n J;refine⟨by rw[LN ∅,LN (by rw[s,p];decide),LN (by rw[LR (show ¬ 200<c by lia)];decide)],λ_=>⟨t',1,_,_,U,U,hT,λw g=>?_,λa j=>?_,λz=>by cases z⟩⟩
  .exact(hO.rows w g).len
  .refine val_one n J (λb hb=>?_) U j;rw[m3 p];split
   .exact .inr ⟨_,U⟩
   .exact .inl U
end
theorem AG(ns:L0 Int)(lo hi:Option Int):∃ms:L0 Int,qo (ns.map V.int) lo hi=ms.map V.int/\⇑ms<=⇑ns/\∀m∈ms,m∈ns:=by
 unfold qo;refine⟨(ns.drop<|HT.sIx ⇑(ns.map V.int) 0 lo).take<|HT.sIx ⇑(ns.map V.int) ⇑(ns.map V.int) hi-HT.sIx ⇑(ns.map V.int) 0 lo,?_,?_,λm a=>ro<|ri a⟩
 .rw[uA,uB]
 .rw[iR,sv];lia
theorem rV{C:HA}{H:Hp}{x a:HA}{lo hi:Int}(b:H x=LI)(c:H a=LI):ak H (mkd C (upd (upd H a<|.own x) x<|.ins C a []) x a lo hi):=by
 unfold mkd;calc(((ag c _).upd b).upd b).upd b
def vA{a c:HA}{H:Hp}{x b:HA}{lo hi:Int}:Dom a c (mkd a H x b lo hi) x (lo,hi):=⟨a,.inl U,b,_,ae,U,U,U⟩
theorem Bt:∀z∈s!"evens" :: [s!"at"],isw z=true:=λz a=>by
 rcases bL.mp a with rfl|a
 .decide+kernel
 .rw[fc.mp a];decide+kernel
theorem Bu:(s!"evens" :: [s!"at"]).Nodup:= ~~~0
theorem Ea(h:Int):∃sz:Nat,2<=sz/\sz<=400/\atI [V.int 199,.int 200,.int 201,.int 299,.int 300,.int 301,.int (2+h / 7%399)] (h%7)=LH (.int (sz:Int)):=by
 let c:=D0 h (show(7:Int)≠0 by decide);let b:=D3 h (show(0:Int)<7 by decide);let e:=D0 (h / 7) (show(399:Int)≠0 by decide);let d:=D3 (h / 7) (show(0:Int)<399 by decide);generalize h%7=k at c b;let(k,rfl):∃a:Nat,k=(a:Int):=⟨k.toNat,∅⟩;rcases(show k=0\/k=1\/k=2\/k=3\/k=4\/k=5\/k=6 by lia)with rfl|rfl|rfl|rfl|rfl|rfl|rfl
 .exact⟨199,⋯,⋯,aM U⟩
 .exact⟨200,⋯,⋯,aM U⟩
 .exact⟨201,⋯,⋯,aM U⟩
 .exact⟨299,⋯,⋯,aM U⟩
 .exact⟨300,⋯,⋯,aM U⟩
 .exact⟨301,⋯,⋯,aM U⟩
 .refine⟨(2+h / 7%399).toNat,∅,∅,(aM (j:=6) U).trans ?_⟩;rw[show(((2+h / 7%399).toNat:Nat):Int)=2+h / 7%399 by lia]
theorem Fy(h:Int):∃(b:Nat)(a:Str),b<3/\six[b]?=LH a/\atI [V.str s!"first",.str s!"only",.str s!"like"] (h%3)=LH (.str a):=by
 let e:=D0 h (show(3:Int)≠0 by decide);let d:=D3 h (show(0:Int)<3 by decide);generalize h%3=k at e d;let(k,rfl):∃c:Nat,k=(c:Int):=⟨k.toNat,∅⟩;rcases(show k=0\/k=1\/k=2 by lia)with rfl|rfl|rfl
 .exact⟨0,_,⋯,U,aM U⟩
 .exact⟨1,_,⋯,U,aM U⟩
 .exact⟨2,_,⋯,U,aM U⟩
theorem Eb(a:Nat):(2:Int)-(if decide (V.int (a:Int)=V.int 3)=LJ then 1 else 0)=((knd a:Nat):Int):=by
 unfold knd;by_cases h:a=3
 .rw[LO (LQ (by rw[h];rfl)),LO h];rfl
 .rw[LN (λz=>h (by have:=V.int.inj<|LS z;lia)),LN h];rfl
inductive m5(K:W.Frag)(Y:AD)(vs:L0 V)(H:Hp)(Q:VK)(e_:XK):Prop
 |mk (a:HA)(xs:L0 V)(ps:L0 (Int×Int))(n:Int)(_:vs=[.ref a,.int n])(_:SqL K H a xs)(_:PL H xs ps)(_:Q (.bl<|inP ps n) H)
inductive m6(K:W.Frag)(Y:AD)(vs:L0 V)(H:Hp)(Q:VK)(e_:XK):Prop
 |mk (a:HA)(xs:L0 V)(R:L0 (Int×Int))(lo hi:Int)(_:vs=[.ref a,.int lo,.int hi])(_:SqL K H a xs)(_:PL H xs R)(_:⇑xs<=499)(_:∀(r:HA)(H':Hp)(es:L0 Int),ak H H'->H r=LI->H' r=LH (.lst<|es.map V.int)->es=(ends R).filter (λt=>decide (lo<t) && decide (t<=hi))->Q (.ref r) H')
inductive gq(K:W.Frag)(Y:AD)(vs:L0 V)(H:Hp)(Q:VK)(e_:XK):Prop
 |mk (a:HA)(ms L:L0 Int)(lo hi:Int)(_:vs=[.int lo,.int hi,.ref a])(_:SqL K H a (ms.map V.int))(_:⇑ms<=400)(_:L.length<=400)(_:(∀m∈ms,lo<m->m<=hi->m∈L))(_:∀(r:HA)(H':Hp)(cs:L0 Int)(ts:L0 V),ak H H'->H r=LI->H' r=LH (.lst ts)->PL H' ts (bU lo hi cs)->cs.Pairwise (· < ·)->(∀c,c∈cs↔(c∈ms/\lo<c/\c<=hi))->⇑cs<=400->Q (.ref r) H')
inductive iK(K:W.Frag)(Y:AD)(vs:L0 V)(H:Hp)(Q:VK)(e_:XK):Prop
 |mk (L:Type)(_:DecidableEq L)(A:Lfp K L)(n:Nat)(a:HA)(xs:L0 V)(ts:L0 (T3a<|Fm L n))(_:vs=[.ref a])(_:n<=6)(_:H a=LH (.lst xs))(_:FmL (FmV A H n) H ts xs)(_:⇑ts<=900)(_:∀(r:HA)(H':Hp),ak H H'->FmV A H' (n+1) (gj ts) (.ref r)->Q (.ref r) H')
inductive gW(K:W.Frag)(Y:AD)(vs:L0 V)(H:Hp)(Q:VK)(e_:XK):Prop
 |mk (a:HA)(as:L0 HA)(xss:L0 (L0 Int))(L:L0 Int)(_:vs=[.ref a])(_:H a=LH (.lst<|as.map V.ref))(_:MLs H as xss)(_:⇑xss.flatten<=1000)(_:L.length<=400)(_:(∀x∈xss.flatten,x∈L))(_:∀(l:HA)(cs:L0 Int)(H':Hp),ak H H'->H l=LI->H' l=LH (.lst<|cs.map V.int)->cs.Pairwise (· < ·)->(∀x,x∈cs↔x∈xss.flatten)->Q (.ref l) H')
inductive gs(K:W.Frag)(Y:AD)(vs:L0 V)(H:Hp)(Q:VK)(e_:XK):Prop
 |mk (z g:Str)(_:vs=[.str z,.str g])(_:Q (.bl<|qA z g) H)
inductive fw(K:W.Frag)(Y:AD)(vs:L0 V)(H:Hp)(Q:VK)(e_:XK):Prop
 |mk (i:Int)(_:vs=[.int i])(_:Q (.bl LJ) H)
inductive dM(K:W.Frag)(Y:AD)(vs:L0 V)(H:Hp)(Q:VK)(E:XK):Prop
 |mk (p r:HA)(xs ys:L0 V)(_:vs=[.ref p,.ref r])(_:SqL K H p xs)(_:SqL K H r ys)(_:1<=⇑xs)(_:⇑xs<=4)(_:(200<⇑ys->E (.ref Y.d) LI H))(_:(⇑ys<=200->Q .non H))
inductive ji(K:W.Frag)(Y:AD)(vs:L0 V)(H:Hp)(Q:VK)(e_:XK):Prop
 |mk (cl:HA)(xs:L0 V)(w:Rw)(_:vs=[.ref cl,.int w.2])(_:H cl=LH (.lst xs))(_:CL NT H xs w.1)(_:⇑w.1<=100)(_:∀(r:HA)(H':Hp),ak H H'->H r=LI->eQ (λa=>H a=LI) H' r w->Q (.ref r) H')
inductive d7(K:W.Frag)(Y:AD)(vs:L0 V)(H:Hp)(Q:VK)(e_:XK):Prop
 |mk (t:HA)(dv:L0 V)(bs:Prs)(rws:L0 Rw)(_:vs=[.ref t])(_:TD Y.o Y.m Y.n H t dv bs rws)(_:⇑bs<=100)(_:∀(l:HA)(ys:L0 V)(H':Hp),ak H H'->H l=LI->H' l=LH (.lst ys)->PL H' ys bs->Q (.ref l) H')
inductive eU(K:W.Frag)(Y:AD)(vs:L0 V)(H:Hp)(Q:VK)(e_:XK):Prop
 |mk (a:HA)(ns:L0 Int)(k:Int)(_:vs=[.ref a,.int k])(_:SqL K H a (ns.map V.int))(_:0<=k)(_:∀r:Int,Q (.int r) H)
inductive gX(K:W.Frag)(Y:AD)(vs:L0 V)(H:Hp)(Q:VK)(e_:XK):Prop
 |mk (r d:HA)(p:SI)(_:vs=[.ref r,.ref d])(_:SqT K H r (tp p))(_:SqT K H d (tp p))(_:Q (.bl LJ) H)
inductive gY(K:W.Frag)(Y:AD)(vs:L0 V)(H:Hp)(Q:VK)(e_:XK):Prop
 |mk (low:Int)(sz kinds:Nat)(cl:HA)(o0 o1:Int)(_:vs=[.int low,.int (sz:Int),.ref cl,.int (kinds:Int)])(_:H cl=LH (.lst [.int o0,.int o1]))(_:1<=sz)(_:sz<=400)(_:kinds<=2)(_:∀(l:HA)(xs:L0 V)(R:L0 Rw)(H':Hp),ak H H'->H l=LI->H' l=LH (.lst xs)->RL (Fr H l) H' xs R->RwI low (dz o0 o1) (λa=>a<sz/\a%2<kinds) R->R.length<=4->Q (.ref l) H')
inductive d8(K:W.Frag)(Y:AD)(vs:L0 V)(H:Hp)(Q:VK)(e_:XK):Prop
 |mk (sz says:Nat)(way:Str)(more thin:Bool)(_:vs=[.int (sz:Int),.int (says:Int),.str way,.bl more,.bl thin])(_:Q (.str<|ze sz says way more thin) H)
inductive gu(K:W.Frag)(Y:AD)(vs:L0 V)(H:Hp)(Q:VK)(e_:XK):Prop
 |mk (head turn:Int)(sz:Nat)(cl:HA)(c0 c1:Int)(_:vs=[.int head,.int turn,.int (sz:Int),.ref cl])(_:H cl=LH (.lst [.int c0,.int c1]))(_:1<=sz)(_:∀(r ol:HA)(mode place says:Nat)(o0 o1 other:Int)(H':Hp),ak H H'->H' r=LH (.tup [.int (mode:Int),.ref ol,.int (place:Int),.int other,.int (says:Int)])->H' ol=LH (.lst [.int o0,.int o1])->PrI sz c0 c1 mode place says o0 o1 other->Q (.ref r) H')
inductive gv(K:W.Frag)(Y:AD)(vs:L0 V)(H:Hp)(Q:VK)(e_:XK):Prop
 |mk (turn:Int)(_:vs=[.int turn])(_:∀(l:HA)(c0 c1:Int)(H':Hp),ak H H'->H' l=LH (.lst [.int c0,.int c1])->c0≠c1->Q (.ref l) H')
inductive bM(K:W.Frag)(Y:AD)(vs:L0 V)(H:Hp)(Q:VK)(e_:XK):Prop
 |mk (x dx:HA)(lo hi:Int)(_:vs=[.ref x,.int lo,.int hi])(_:H x=LH (.ins Y.m dx []))(_:Q .non (mkd Y.m H x dx lo hi))
inductive cc(K:W.Frag)(Y:AD)(vs:L0 V)(H:Hp)(Q:VK)(e_:XK):Prop
 |mk (x dx:HA)(z:Str)(_:vs=[.ref x,.str z])(_:H x=LH (.ins Y.f dx []))(_:Q .non (upd H x<|.ins Y.f dx [("called",.str z)]))
inductive cn(K:W.Frag)(Y:AD)(vs:L0 V)(H:Hp)(Q:VK)(e_:XK):Prop
 |mk (x dx:HA)(z:Str)(_:vs=[.ref x,.str z])(_:H x=LH (.ins Y.g dx []))(_:Q .non (upd H x<|.ins Y.g dx [("called",.str z)]))
inductive cq(K:W.Frag)(Y:AD)(vs:L0 V)(H:Hp)(Q:VK)(e_:XK):Prop
 |mk (x dx:HA)(z:Str)(_:vs=[.ref x,.str z])(_:H x=LH (.ins Y.h dx []))(_:Q .non (upd H x<|.ins Y.h dx [("called",.str z)]))
inductive cE(K:W.Frag)(Y:AD)(vs:L0 V)(H:Hp)(Q:VK)(e_:XK):Prop
 |mk (x dx:HA)(z:Str)(_:vs=[.ref x,.str z])(_:H x=LH (.ins Y.i dx []))(_:Q .non (upd H x<|.ins Y.i dx [("called",.str z)]))
inductive cw(K:W.Frag)(Y:AD)(vs:L0 V)(H:Hp)(Q:VK)(e_:XK):Prop
 |mk (x dx:HA)(z:Str)(_:vs=[.ref x,.str z])(_:H x=LH (.ins Y.j dx []))(_:Q .non (upd H x<|.ins Y.j dx [("called",.str z)]))
inductive cF(K:W.Frag)(Y:AD)(vs:L0 V)(H:Hp)(Q:VK)(e_:XK):Prop
 |mk (x dx:HA)(z:Str)(_:vs=[.ref x,.str z])(_:H x=LH (.ins Y.k dx []))(_:Q .non (upd H x<|.ins Y.k dx [("called",.str z)]))
def J1(K:W.Frag)(Y:AD):Sp:=wC K Y.f Y.m Y.n 0
def J9(K:W.Frag)(Y:AD):Sp:=wC K Y.g Y.m Y.n 1
def J5(K:W.Frag)(Y:AD):Sp:=wC K Y.h Y.m Y.n 2
def J7(K:W.Frag)(Y:AD):Sp:=wC K Y.i Y.m Y.n 3
def J3(K:W.Frag)(Y:AD):Sp:=wC K Y.j Y.m Y.n 4
def J11(K:W.Frag)(Y:AD):Sp:=wC K Y.k Y.m Y.n 5
inductive dk(K:W.Frag)(Y:AD)(vs:L0 V)(H:Hp)(Q:VK)(e_:XK):Prop
 |mk (a b:HA)(ys:L0 V)(ps:L0 (Int×Int))(as:L0 HA)(mss:L0 (L0 Int))(_:vs=[.ref a,.ref b])(_:H a=LH (.lst ys))(_:PL H ys ps)(_:H b=LH (.lst<|as.map V.ref))(_:MLs H as mss)(_:MOK ps mss)(_:∀(l:HA)(xs:L0 V)(H':Hp)(css:L0 (L0 Int)),ak H H'->H' l=LH (.lst xs)->⇑css=⇑ps->(∀(j:Nat)(p:Int×Int)(ms cs:L0 Int),ps[j]?=LH p->mss[j]?=LH ms->css[j]?=LH cs->cs.Pairwise (· < ·)/\(∀c,c∈cs↔(c∈ms/\p.1<c/\c<=p.2))/\⇑cs<=400)->CoL H' xs (List.zipWith (λp cs=>bU p.1 p.2 cs) ps css)->Q (.ref l) H')
inductive jj(K:W.Frag)(Y:AD)(vs:L0 V)(H:Hp)(Q:VK)(e_:XK):Prop
 |mk (z:Str)(_:vs=[.str z])(_:⇑z<=1000)(_:Q (.bl<|isw z) H)
inductive p6(K:W.Frag)(Y:AD)(vs:L0 V)(H:Hp)(Q:VK)(e_:XK):Prop
 |mk (t rl c dx:HA)(fs:L0 (Str×V))(xs:L0 V)(rws:L0 Rw)(k:Nat)(w:Rw)(cs:L0 Int)(_:vs=[.ref t,.int k,.ref c])(_:H t=LH (.ins Y.o dx fs))(_:fs.lookup s!"rows"=LH (.ref rl)) (_:H rl=LH (.lst xs))(_:RL NT H xs rws)(_:rws[k]?=LH w)(_:SqL K H c (cs.map V.int))(_:⇑w.1=⇑cs)(_:∀H',ak H H'->Q (.bl<|eR w.1 cs) H')
inductive d9(K:W.Frag)(Y:AD)(vs:L0 V)(H:Hp)(Q:VK)(e_:XK):Prop
 |mk (t:HA)(c:Nat)(dv:L0 V)(bs:Prs)(rws:L0 Rw)(b:Int×Int)(L:L0 Int)(_:vs=[.ref t,.int (c:Int)])(_:TD Y.o Y.m Y.n H t dv bs rws)(_:bs[c]?=LH b)(_:⇑rws<=200)(_:(∀w∈rws,c<⇑w.1))(_:spn rws c<=499)(_:L.length<=400)(_:(∀x,MkC rws c b x->x∈L))(_:∀(l:HA)(cs:L0 Int)(H':Hp),ak H H'->H l=LI->H' l=LH (.lst<|cs.map V.int)->cs.Pairwise (· < ·)->(∀x,x∈cs↔MkC rws c b x)->Q (.ref l) H')
inductive bH(K:W.Frag)(Y:AD)(vs:L0 V)(H:Hp)(Q:VK)(e_:XK):Prop
 |mk (x dx:HA)(lo hi:Int)(_:vs=[.ref x,.int lo,.int hi])(_:H x=LH (.ins Y.m dx []))(_:lo<=hi)(_:Q .non (mkd Y.m H x dx lo hi))
def J0(K:W.Frag)(Y:AD):Sp:=wA Y.f s!"first"
def J8(K:W.Frag)(Y:AD):Sp:=wA Y.g s!"only"
def J4(K:W.Frag)(Y:AD):Sp:=wA Y.h s!"like"
def J6(K:W.Frag)(Y:AD):Sp:=wA Y.i s!"low"
def J2(K:W.Frag)(Y:AD):Sp:=wA Y.j s!"high"
def J10(K:W.Frag)(Y:AD):Sp:=wA Y.k s!"sum"
inductive bN(K:W.Frag)(Y:AD)(vs:L0 V)(H:Hp)(Q:VK)(e_:XK):Prop
 |mk (a:HA)(b:Int×Int)(i:Int)(_:vs=[.ref a,.int i])(_:CC Y.m H a b.1 b.2)(_:b.1<=i)(_:i<=b.2)(_:Q (.bl LJ) H)
inductive bV(K:W.Frag)(Y:AD)(vs:L0 V)(H:Hp)(Q:VK)(e_:XK):Prop
 |mk (a:HA)(b:Int×Int)(i:Int)(_:vs=[.ref a,.int i])(_:CC Y.n H a b.1 b.2)(_:b.1<=i)(_:i<=b.2)(_:Q (.bl LJ) H)
def J12(K:W.Frag)(Y:AD):Sp:=j3 K Y.f Y.m Y.n 0
def J16(K:W.Frag)(Y:AD):Sp:=j3 K Y.g Y.m Y.n 1
def J14(K:W.Frag)(Y:AD):Sp:=j3 K Y.h Y.m Y.n 2
def J15(K:W.Frag)(Y:AD):Sp:=j3 K Y.i Y.m Y.n 3
def J13(K:W.Frag)(Y:AD):Sp:=j3 K Y.j Y.m Y.n 4
def J17(K:W.Frag)(Y:AD):Sp:=j3 K Y.k Y.m Y.n 5
inductive m7(K:W.Frag)(Y:AD)(vs:L0 V)(H:Hp)(Q:VK)(e_:XK):Prop
 |mk (a b:HA)(ys:L0 V)(ps:L0 (Int×Int))(as:L0 HA)(mss:L0 (L0 Int))(_:vs=[.ref a,.ref b])(_:H a=LH (.lst ys))(_:PL H ys ps)(_:H b=LH (.lst<|as.map V.ref))(_:MLs H as mss)(_:MOK ps mss)(_:∀H':Hp,ak H H'->Q (.int ((gr ps mss ⇑ps:Nat):Int)) H')
inductive eh(K:W.Frag)(Y:AD)(vs:L0 V)(H:Hp)(Q:VK)(e_:XK):Prop
 |mk (p:HA)(zs:L0 Str)(_:vs=[.ref p])(_:SqL K H p (zs.map V.str))(_:(∀z∈zs,isw z=LJ))(_:zs.Nodup)(_:⇑zs<=100)(_:∀H',ak H H'->Q .non H')
inductive fH(K:W.Frag)(Y:AD)(vs:L0 V)(H:Hp)(Q:VK)(e_:XK):Prop
 |mk (dl ou cl:HA)(dv xs:L0 V)(bs:Prs)(o:Int×Int)(w:Rw)(_:vs=[.ref dl,.ref ou,.ref cl,.int w.2])(_:SqL K H dl dv)(_:aI dv bs (Dom Y.m Y.n H))(_:Dom Y.m Y.n H ou o)(_:H cl=LH (.lst xs))(_:CL NT H xs w.1)(_:lu bs o w)(_:∀H',ak H H'->Q .non H')
inductive iN(K:W.Frag)(Y:AD)(vs:L0 V)(H:Hp)(Q:VK)(e_:XK):Prop
 |mk (t c:HA)(rws:L0 Rw)(i:Nat)(o:Int×Int)(cs:L0 Int)(_:vs=[.ref t,.ref c])(_:Tbl Y.o Y.m Y.n H t rws i o)(_:SqL K H c (cs.map V.int))(_:(∀w∈rws,⇑w.1=⇑cs))(_:∀H',ak H H'->Q (.int ((msk (bG rws cs) ⇑rws:Nat):Int)) H')
inductive eV(K:W.Frag)(Y:AD)(vs:L0 V)(H:Hp)(Q:VK)(e_:XK):Prop
 |mk (t:HA)(dv:L0 V)(bs:Prs)(rws:L0 Rw)(L:Nat->L0 Int)(_:vs=[.ref t])(_:TD Y.o Y.m Y.n H t dv bs rws)(_:⇑bs<=100)(_:⇑rws<=200)(_:(∀w∈rws,⇑w.1=⇑bs))(_:(∀c,spn rws c<=499))(_:(∀(c:Nat)(b:Int×Int),bs[c]?=LH b->⇑(L c)<=400/\∀x,MkC rws c b x->x∈L c))(_:∀(l:HA)(as:L0 HA)(mss:L0 (L0 Int))(H':Hp),ak H H'->H l=LI->H' l=LH (.lst<|as.map V.ref)->MLs H' as mss->⇑mss=⇑bs->(∀(c:Nat)(b:Int×Int)(ms:L0 Int),bs[c]?=LH b->mss[c]?=LH ms->ms.Pairwise (· < ·)/\∀x,x∈ms↔MkC rws c b x)->Q (.ref l) H')
inductive iO(K:W.Frag)(Y:AD)(vs:L0 V)(H:Hp)(Q:VK)(e_:XK):Prop
 |mk (z:Str)(_:vs=[.str z])(_:z∈six)(_:(∀i:Nat,six[i]?=LH z->∀(x C:HA)(H':Hp),ak H H'->(cl6 Y.f Y.g Y.h Y.i Y.j Y.k)[i]?=LH C->WyN C H' x z->Q (.ref x) H'))
inductive fI(K:W.Frag)(Y:AD)(vs:L0 V)(H:Hp)(Q:VK)(e_:XK):Prop
 |mk (z:Str)(ou:HA)(_:vs=[.str z,.ref ou])(_:z∈six)(_:(z=s!"sum" -> ∃dx fs,H ou=LH (.ins Y.m dx fs))) (_:∀H',ak H H'->Q .non H')
inductive cX(K:W.Frag)(Y:AD)(vs:L0 V)(H:Hp)(Q:VK)(e_:XK):Prop
 |mk (t:HA)(rws:L0 Rw)(i:Nat)(o:Int×Int)(m:Int)(_:vs=[.ref t,.int m])(_:Tbl Y.o Y.m Y.n H t rws i o)(_:∀(r:HA)(H':Hp),ak H H'->Vd K H' r (ver (wf i o.1 o.2)<|pkF rws (cV m) ⇑rws)->Q (.ref r) H')
inductive jk(K:W.Frag)(Y:AD)(vs:L0 V)(H:Hp)(Q:VK)(e_:XK):Prop
 |mk (t c:HA)(rws:L0 Rw)(i:Nat)(o:Int×Int)(cs:L0 Int)(_:vs=[.ref t,.ref c])(_:Tbl Y.o Y.m Y.n H t rws i o)(_:SqL K H c (cs.map V.int))(_:(∀w∈rws,⇑w.1=⇑cs))(_:∀(r:HA)(H':Hp),ak H H'->SqT K H' r (tp<|ver (wf i o.1 o.2)<|pkF rws (bG rws cs) ⇑rws)->Q (.ref r) H')
inductive gZ(K:W.Frag)(Y:AD)(vs:L0 V)(H:Hp)(Q:VK)(e_:XK):Prop
 |mk (t tl bx r2:HA)(k:Nat)(m:Nat)(rws:L0 Rw)(i:Nat)(o:Int×Int)(_:vs=[.ref t,.ref tl,.int (k:Int)])(_:Tbl Y.o Y.m Y.n H t rws i o)(_:SqT K H tl [.ref bx,.int (m:Int),.ref r2])(_:SqT K H r2 (tp<|ver (wf i o.1 o.2)<|pkF rws (cV (m:Int)) ⇑rws))(_:k<200)(_:∀H',ak H H'->Q (.bl<|m.testBit k && decide (ver (wf i o.1 o.2) (pkF rws (cV ((m-2^k:Nat):Int)) ⇑rws)≠ver (wf i o.1 o.2) (pkF rws (cV (m:Int)) ⇑rws))) H')
inductive bg(K:W.Frag)(Y:AD)(vs:L0 V)(H:Hp)(Q:VK)(E:XK):Prop
 |mk (x dx na dl ou rl:HA)(nm wy:Str)(zs:L0 Str)(dv rx:L0 V)(bs:Prs)(o:Int×Int)(rws:L0 Rw)(_:vs=[.ref x,.str nm,.ref na,.ref dl,.ref ou,.str wy,.ref rl])(_:H x=LH (.ins Y.o dx []))(_:H na=LH (.lst<|zs.map V.str))(_:(∀z∈nm :: zs,isw z=LJ))(_:(nm :: zs).Nodup)(_:1<=⇑zs)(_:⇑zs<=4)(_:wy∈six)(_:(wy=s!"sum" -> ∃dx fs,H ou=LH (.ins Y.m dx fs))) (_:H dl=LH (.lst dv))(_:aI dv bs (Dom Y.m Y.n H))(_:Dom Y.m Y.n H ou o)(_:H rl=LH (.lst rx))(_:RL NT H rx rws)(_:(200<⇑rx->∀H',ak H H'->E (.ref Y.d) LI H'))(_:⇑bs<=4)(_:(∀w∈rws,lu bs o w))(_:(⇑rx<=200->∀(H':Hp)(fs:L0 (Str×V))(rl':HA)(xs':L0 V),(∀b o,b≠x->H b=LH o->H' b=LH o)->H' x=LH (.ins Y.o dx fs)->fs.lookup s!"rows"=LH (.ref rl')->fs.lookup s!"way"=LH (.str wy)->fs.lookup s!"outcome"=LH (.ref ou)->fs.lookup s!"name"=LH (.str nm)->(∃na' dl':HA,fs.lookup s!"names"=LH (.ref na')/\fs.lookup s!"domains"=LH (.ref dl')/\H' na'=LH (.lst<|zs.map V.str)/\H' dl'=LH (.lst dv))->H' rl'=LH (.lst xs')->RL NT H' xs' rws->Q .non H'))
inductive eW(K:W.Frag)(Y:AD)(n:Nat)(vs:L0 V)(H:Hp)(Q:VK)(e_:XK):Prop
 |mk (L:Type)(_:DecidableEq L)(A:Lfp K L)(d:Nat)(f:Fm L d)(v:V)(_:vs=[v,.int (d:Int)])(_:FmV A H d f v)(_:d+1<=n)(_:⇑(bxs d f)<=2000)(_:(∀q∈bxs d f,⇑q.1<=6))(_:∀(l:HA)(xs:L0 V)(H':Hp),ak H H'->H l=LI->H' l=LH (.lst xs)->BxG A H' xs (bxs d f)->Q (.ref l) H')
theorem zg{K:W.Frag}{Y:AD}{vs:L0 V}{H:Hp}{Q:VK}{E:XK}(h:eW K Y 0 vs H Q E):False:=by
 let(j,b,c,d,i,v,rfl,f,e,a,g,q):=h;lia
inductive eA(K:W.Frag)(Y:AD)(vs:L0 V)(H:Hp)(Q:VK)(e_:XK):Prop
 |mk (t tl:HA)(k:Nat)(bv:V)(xs:L0 V)(Ms:L0 Nat)(rws:L0 Rw)(i:Nat)(o:Int×Int)(_:vs=[.ref t,.ref tl,.int (k:Int),bv])(_:Tbl Y.o Y.m Y.n H t rws i o)(_:H tl=LH (.lst xs))(_:TlM K H rws i o xs Ms)(_:k<200)(_:(bv=.non\/∃b:Nat,bv=.int (b:Int)/\b<Ms.length))(_:∀(v:V)(H':Hp),ak H H'->((∃p:Nat,v=.int (p:Int)/\p<Ms.length/\∃m∈Ms,cb rws i o k m=LJ)\/(v=.non/\∀m∈Ms,cb rws i o k m=LK))->Q v H')
inductive gx(K:W.Frag)(Y:AD)(vs:L0 V)(H:Hp)(Q:VK)(e_:XK):Prop
 |mk (t rl ou:HA)(nm wy:Str)(zs:L0 Str)(dv rx:L0 V)(Ec rws:L0 Rw)(bs:Prs)(o:Int×Int)(_:vs=[.ref t,.ref rl])(_:TF Y.o H t nm wy ou zs dv Ec)(_:TOk Y.m Y.n H nm wy ou zs dv rws bs o)(_:H rl=LH (.lst rx))(_:RL NT H rx rws)(_:∀(t':HA)(H':Hp),ak H H'->TF Y.o H' t' nm wy ou zs dv rws->Q (.ref t') H')
inductive jl(K:W.Frag)(Y:AD)(vs:L0 V)(H:Hp)(Q:VK)(e_:XK):Prop
 |mk (d:Nat)(F:Fm SI d)(v:V)(_:vs=[v,.int (d:Int)])(_:FmV (K:=K) LVd H d F v)(_:d<=6)(_:⇑(bxs d F)<=300)(_:(∀q∈bxs d F,⇑q.1<=6))(_:∀(l:HA)(xs:L0 V)(H':Hp),ak H H'->H' l=LH (.lst xs)->RL NT H' xs (bE<|bxs d F)->Q (.ref l) H')
inductive dq(K:W.Frag)(Y:AD)(vs:L0 V)(H:Hp)(Q:VK)(E:XK):Prop
 |mk (d:Nat)(F:Fm SI d)(v:V)(_:vs=[v,.int (d:Int)])(_:FmV (K:=K) LVd H d F v)(_:d<=6)(_:⇑(bxs d F)<=300)(_:(∀q∈bxs d F,⇑q.1<=6))(_:((∀q∈bxs d F,q.2≠clash)->∀H',ak H H'->Q .non H'))(_:((∃q∈bxs d F,q.2=clash)->∀H',ak H H'->E (.ref Y.c) LI H'))
inductive gy(K:W.Frag)(Y:AD)(vs:L0 V)(H:Hp)(Q:VK)(e_:XK):Prop
 |mk (t tl kl nl:HA)(xs nv:L0 V)(Ms ks:L0 Nat)(rws:L0 Rw)(i:Nat)(o:Int×Int)(_:vs=[.ref t,.ref tl,.ref kl,.ref nl])(_:Tbl Y.o Y.m Y.n (hide H nl) t rws i o)(_:hide H nl tl=LH (.lst xs))(_:TlM K (hide H nl) rws i o xs Ms)(_:hide H nl kl=LH (.lst<|vN ks))(_:(∀k∈ks,k<⇑nv))(_:⇑nv<=60)(_:H nl=LH (.lst nv))(_:(∀v∈nv,v=.non\/∃b:Nat,v=.int (b:Int)/\b<Ms.length))(_:∀(v:V)(nv':L0 V)(H':Hp),ak (hide H nl) H'->H' nl=LH (.lst nv')->⇑nv'=⇑nv->(∀v∈nv',v=.non\/∃b:Nat,v=.int (b:Int)/\b<Ms.length)->((∃a k:Nat,ks[a]?=LH k/\v=.int (k:Int)/\(∀m∈Ms,cb rws i o k m=LK)/\∀j k',a<j->ks[j]?=LH k'->¬ ∀m∈Ms,cb rws i o k' m=LK)\/(v=.non/\∀k∈ks,¬ ∀m∈Ms,cb rws i o k m=LK))->Q v H')
inductive eX(K:W.Frag)(Y:AD)(vs:L0 V)(H:Hp)(Q:VK)(E:XK):Prop
 |mk (na dl ou:HA)(nm:Str)(zs:L0 Str)(dv:L0 V)(F:Fm SI ⇑zs)(v:V)(bs:Prs)(o:Int×Int)(_:vs=[.str nm,.ref na,.ref dl,.ref ou,v])(_:H na=LH (.lst<|zs.map V.str))(_:H dl=LH (.lst dv))(_:FmV (K:=K) LVd H ⇑zs F v)(_:⇑(bxs ⇑zs F)<=300)(_:(∀q∈bxs ⇑zs F,⇑q.1<=6))(_:TOk Y.m Y.n H nm s!"only" ou zs dv [] bs o) (_:(∀w∈bE (bxs ⇑zs F),lu bs o w))(_:((∀q∈bxs ⇑zs F,q.2≠clash)->⇑(bE<|bxs ⇑zs F)<=200->∀(t':HA)(H':Hp),ak H H'->TF Y.o H' t' nm s!"only" ou zs dv (bE<|bxs ⇑zs F)->Q (.ref t') H')) (_:((∀q∈bxs ⇑zs F,q.2≠clash)->200<⇑(bE<|bxs ⇑zs F)->∀H',ak H H'->E (.ref Y.d) LI H'))(_:((∃q∈bxs ⇑zs F,q.2=clash)->∀H',ak H H'->E (.ref Y.c) LI H'))
inductive eY(K:W.Frag)(Y:AD)(P:Fw)(w:Fn)(mg:Str->Option Fe)(base:HB)(n:Nat)(vs:L0 V)(H:Hp)(Q:VK)(e_:XK):Prop
 |mk (c b f:HA)(xs:L0 V)(cols:L0 (List<|Int×Int))(ah:L0 Int)(m:Nat)(L:Type)(_:DecidableEq L)(A:Lfp K L)(g:L0 Int->L)(J:Hp->Prop)(_:vs=[.ref c,.ref b,.ref f])(_:⇑cols+1<=n)(_:H c=LH (.lst xs))(_:CoL H xs cols)(_:H b=LH (.lst<|ah.map V.int))(_:(∀col∈cols,⇑col<=401))(_:⇑ah+⇑cols<=6)(_:⇑cols<=6)(_:m=⇑ah+⇑cols)(_:CH A P w K mg base f m g J)(_:J H)(_:(∀(v:V)(H':Hp),(∀d o,d≠b->H d=LH o->H' d=LH o)->FmV A H' ⇑cols (lay g cols ah) v->Q v H'))
theorem uu{K:W.Frag}{Y:AD}{P:Fw}{w:Fn}{mg:Str->Option Fe}{base:HB}{vs:L0 V}{H:Hp}{Q:VK}{E:XK}(h:eY K Y P w mg base 0 vs H Q E):False:=by
 let(c,b,t,i,a,u,m,L,j,A,g,J,rfl,k,n,s,o,f,e,d,l,p,r,q):=h;lia
inductive fT(K:W.Frag)(Y:AD)(P:Fw)(w:Fn)(mg:Str->Option Fe)(base:HB)(n:Nat)(vs:L0 V)(H:Hp)(Q:VK)(e_:XK):Prop
 |mk (L M:Type)(_:DecidableEq L)(_:DecidableEq M)(A:Lfp K L)(B:Lfp K M)(h:L->M)(J:Hp->Prop)(d:Nat)(F:Fm L d)(v:V)(f:HA)(_:vs=[v,.int d,.ref f])(_:d+1<=n)(_:d<=6)(_:FmV A H d F v)(_:SmF 300 d F)(_:D1 A B P w K mg base f h J)(_:J H)(_:∀(u:V)(H':Hp),ak H H'->FmV B H' d (oi h d F) u->Q u H')
theorem wL{K:W.Frag}{Y:AD}{P:Fw}{w:Fn}{mg:Str->Option Fe}{base:HB}{vs:L0 V}{H:Hp}{Q:VK}{E:XK}(h:fT K Y P w mg base 0 vs H Q E):False:=by
 let(L,M,e,c,A,B,i,J,d,m,v,l,rfl,g,b,f,a,j,k,q):=h;lia
inductive m8(K:W.Frag)(Y:AD)(P:Fw)(w:Fn)(mg:Str->Option Fe)(base:HB)(vs:L0 V)(H:Hp)(Q:VK)(E:XK):Prop
 |mk (a b f:HA)(ys:L0 V)(ps:L0 (Int×Int))(as:L0 HA)(mss:L0 (L0 Int))(L:Type)(_:DecidableEq L)(A:Lfp K L)(g:L0 Int->L)(J:Hp->Prop)(_:vs=[.ref a,.ref b,.ref f])(_:H a=LH (.lst ys))(_:PL H ys ps)(_:H b=LH (.lst<|as.map V.ref))(_:MLs H as mss)(_:MOK ps mss)(_:CH A P w K mg base f ⇑ps g J)(_:J H)(_:(300<gr ps mss ⇑ps->∀H',ak H H'->E (.ref Y.b) LI H'))(_:(gr ps mss ⇑ps<=300->∀(v:V)(H':Hp)(css:L0 (L0 Int)),ak H H'->⇑css=⇑ps->(∀(j:Nat)(p:Int×Int)(ms cs:L0 Int),ps[j]?=LH p->mss[j]?=LH ms->css[j]?=LH cs->cs.Pairwise (· < ·)/\(∀c,c∈cs↔(c∈ms/\p.1<c/\c<=p.2))/\⇑cs<=400)->FmV A H' ⇑(List.zipWith (λp cs=>bU p.1 p.2 cs) ps css) (lay g (List.zipWith (λp cs=>bU p.1 p.2 cs) ps css) []) v->Q v H'))
inductive fA(K:W.Frag)(Y:AD)(vs:L0 V)(H:Hp)(Q:VK)(E:XK):Prop
 |mk (t:HA)(dv:L0 V)(bs:Prs)(rws:L0 Rw)(L:Nat->L0 Int)(g i:Nat)(o:Int×Int)(_:vs=[.ref t])(_:RfB Y.o Y.m Y.n H t dv bs rws L g i o)(_:(∀z,W.tabIn K "row_form" = LH z->dh H z.2 [(pQ Y64,"row_form.<locals>.<lambda>")] )) (_:(300<g->∀H',So H H'->(∀z,W.tabIn K "row_form" = LH z->dh H' z.2 [(pQ Y64,"row_form.<locals>.<lambda>")]/\∀d o,d≠z.2->H d=LH o->H' d=LH o)->(∃z,W.tabIn K "row_form" = LH z)->E (.ref Y.b) LI H')) (_:(g<=300->∀(v:V)(H':Hp)(css:L0 (L0 Int)),So H H'->(∀z,W.tabIn K "row_form" = LH z->dh H' z.2 [(pQ Y64,"row_form.<locals>.<lambda>")]/\∀d o,d≠z.2->H d=LH o->H' d=LH o)->(∃z,W.tabIn K "row_form" = LH z)->⇑css=⇑bs->(∀(j:Nat)(p:Int×Int)(cs:L0 Int),bs[j]?=LH p->css[j]?=LH cs->cs.Pairwise (· < ·)/\∀x,x∈cs↔MkC rws j p x)->FmV (K:=K) ue H' ⇑(List.zipWith (λp cs=>bU p.1 p.2 cs) bs css) (lay (λcd=>((msk (bG rws cd) ⇑rws:Nat):Int)) (List.zipWith (λp cs=>bU p.1 p.2 cs) bs css) []) v->Q v H'))
inductive eB(K:W.Frag)(Y:AD)(vs:L0 V)(H:Hp)(Q:VK)(E:XK):Prop
 |mk (t:HA)(dv:L0 V)(bs:Prs)(rws:L0 Rw)(L:Nat->L0 Int)(g i:Nat)(o:Int×Int)(_:vs=[.ref t])(_:RfB Y.o Y.m Y.n H t dv bs rws L g i o)(_:dU K H)(_:lG K H)(_:(300<g->∀H',So H H'->dU K H'->lG K H'->E (.ref Y.b) LI H'))(_:(g<=300->∀(v:V)(F:Fm SI ⇑bs)(H':Hp),So H H'->dU K H'->lG K H'->FmV (K:=K) LVd H' ⇑bs F v->cH ⇑bs F bs->SmF 300 ⇑bs F->(∀cs,InB cs bs->Tel ⇑bs F cs (vdm rws i o<|mkg rws cs))->⇑(bxs ⇑bs F)<=g->Q v H'))
inductive kN(K:W.Frag)(Y:AD)(vs:L0 V)(H:Hp)(Q:VK)(E:XK):Prop
 |mk (t:HA)(dv:L0 V)(bs:Prs)(rws:L0 Rw)(L:Nat->L0 Int)(g i:Nat)(o:Int×Int)(_:vs=[.ref t])(_:RfB Y.o Y.m Y.n H t dv bs rws L g i o)(_:dU K H)(_:(300<g->∀H',So H H'->dU K H'->E (.ref Y.b) LI H'))(_:(g<=300->∀(l:HA)(xs:L0 V)(cols:L0 (List<|Int×Int))(H':Hp),So H H'->dU K H'->H' l=LH (.lst xs)->rE bs rws cols->BxL H' xs (bxs ⇑cols<|lay (mkg rws) cols [])->⇑(bxs ⇑cols<|lay (mkg rws) cols [])<=300->Q (.ref l) H'))
inductive kO(K:W.Frag)(Y:AD)(vs:L0 V)(H:Hp)(Q:VK)(E:XK):Prop
 |mk (t ou:HA)(nm wy:Str)(zs:L0 Str)(dv:L0 V)(rws:L0 Rw)(bs:Prs)(o:Int×Int)(L:Nat->L0 Int)(g i:Nat)(_:vs=[.ref t])(_:TF Y.o H t nm wy ou zs dv rws)(_:TOk Y.m Y.n H nm wy ou zs dv rws bs o)(_:o.1<=o.2)(_:RfB Y.o Y.m Y.n H t dv bs rws L g i o)(_:dU K H)(_:lG K H)(_:(∀cs,InB cs bs->∀c,vdm rws i o (mkg rws cs)=say c->o.1<=c/\c<=o.2))(_:(g<=300->∀(t':HA)(F:Fm SI ⇑zs)(H':Hp),So H H'->dU K H'->lG K H'->cH ⇑zs F bs->(∀cs,InB cs bs->Tel ⇑zs F cs (vdm rws i o<|mkg rws cs))->(∀q∈bxs ⇑zs F,q.2≠clash)->⇑(bE<|bxs ⇑zs F)<=200->TF Y.o H' t' nm s!"only" ou zs dv (bE<|bxs ⇑zs F)->TOk Y.m Y.n H' nm s!"only" ou zs dv (bE<|bxs ⇑zs F) bs o->Q (.ref t') H')) (_:(300<g->∀H',So H H'->dU K H'->lG K H'->E (.ref Y.b) LI H'))(_:(g<=300->(∃cs,InB cs bs/\vdm rws i o (mkg rws cs)=clash)->∀H',So H H'->dU K H'->lG K H'->E (.ref Y.c) LI H'))(_:(g<=300->∀(F:Fm SI ⇑zs)(H':Hp),So H H'->dU K H'->lG K H'->cH ⇑zs F bs->(∀cs,InB cs bs->Tel ⇑zs F cs (vdm rws i o<|mkg rws cs))->(∀q∈bxs ⇑zs F,q.2≠clash)->200<⇑(bE<|bxs ⇑zs F)->E (.ref Y.d) LI H'))
inductive eF(K:W.Frag)(Y:AD)(vs:L0 V)(H:Hp)(Q:VK)(E:XK):Prop
 |mk (t:HA)(dv:L0 V)(bs:Prs)(rws:L0 Rw)(L:Nat->L0 Int)(g i:Nat)(o:Int×Int)(_:vs=[.ref t])(_:RfB Y.o Y.m Y.n H t dv bs rws L g i o)(_:dU K H)(_:(300<g->∀H',So H H'->dU K H'->E (.ref Y.b) LI H'))(_:(g<=300->∀(l:HA)(xs:L0 V)(cols:L0 (List<|Int×Int))(H':Hp),So H H'->dU K H'->H' l=LH (.lst xs)->rE bs rws cols->TiL K H' rws i o xs (bxs ⇑cols<|lay (mkg rws) cols [])->⇑xs<=300->Q (.ref l) H'))
inductive jm(K:W.Frag)(Y:AD)(vs:L0 V)(H:Hp)(Q:VK)(E:XK):Prop
 |mk (t ou:HA)(nm wy:Str)(zs:L0 Str)(dv:L0 V)(rws:L0 Rw)(bs:Prs)(o:Int×Int)(wi g:Nat)(L:Nat->L0 Int)(_:vs=[.ref t])(_:TF Y.o H t nm wy ou zs dv rws)(_:TOk Y.m Y.n H nm wy ou zs dv rws bs o)(_:six[wi]?=LH wy)(_:o.1<=o.2)(_:RfB Y.o Y.m Y.n H t dv bs rws L g wi o)(_:dU K H)(_:⇑rws<=60)(_:(300<g->∀H',So H H'->dU K H'->E (.ref Y.b) LI H'))(_:(g<=300->∀(t':HA)(ks:L0 Nat)(H':Hp),So H H'->dU K H'->ThR bs rws wi o (List.range ⇑rws) ks->TF Y.o H' t' nm wy ou zs dv (ks.map<|gR rws)->Q (.ref t') H'))
inductive hU(K:W.Frag)(Y:AD)(vs:L0 V)(H:Hp)(Q:VK)(e_:XK):Prop
 |mk (t ou:HA)(nm wy:Str)(zs:L0 Str)(dv:L0 V)(rws:L0 Rw)(bs:Prs)(o:Int×Int)(wi g:Nat)(L:Nat->L0 Int)(thin:Bool)(_:vs=[.ref t,.bl thin])(_:TF Y.o H t nm wy ou zs dv rws)(_:TOk Y.m Y.n H nm wy ou zs dv rws bs o)(_:six[wi]?=LH wy)(_:o.1<=o.2)(_:RfB Y.o Y.m Y.n H t dv bs rws L g wi o)(_:dU K H)(_:lG K H)(_:⇑rws<=60)(_:(∀cs,InB cs bs->∀c,vdm rws wi o (mkg rws cs)=say c->o.1<=c/\c<=o.2))(_:∀(r:HA)(wd:Str)(v:V)(H':Hp),So H H'->H' r=LH (.tup [.str wd,v])->TdI K Y.o Y.m Y.n H' nm wy ou zs dv rws bs o wi g thin wd v->Q (.ref r) H')
def J18(K:W.Frag):Sp:=λc H Q _=>∃(a:HA)(b:L0 Int),c=[.ref a]/\SqL K H a (b.map V.int)/\⇑b<=63/\(∀z,W.tabIn K "row_form" = LH z->H z.2=LH (.tbl #[]))/\(∀z,W.tabIn K "verdict_form" = LH z->H z.2=LH (.tbl #[]))/\∀d,Q (.bl LJ) d
inductive fU(K:W.Frag)(Y:AD)(f c' c_0:HA)(doc pm ctv:Fe)(vs:L0 V)(H:Hp)(Q:VK)(e_:XK):Prop
 |mk (a t:HA)(cs:L0 Int)(rws:L0 Rw)(i:Nat)(o:Int×Int)(_:vs=[.ref a])(_:jb H f c' (W.kla_obj "<lambda>" "row_form.<locals>.<lambda>" (pP Y64) (og Y64) (j0 Y64) [("table",c_0)] pm c' ctv) "row_form.<locals>.<lambda>" [("table",c_0)] [("table",.ref t)]) (_:Tbl Y.o Y.m Y.n H t rws i o)(_:H a=LH (.lst<|cs.map V.int))(_:(∀x∈rws,⇑x.1=⇑cs))(_:∀H',ak H H'->Q (.int ((msk (bG rws cs) ⇑rws:Nat):Int)) H')
inductive dW(K:W.Frag)(Y:AD)(f c' c_0:HA)(doc pm ctv:Fe)(vs:L0 V)(H:Hp)(Q:VK)(e_:XK):Prop
 |mk (m:Int)(t:HA)(rws:L0 Rw)(i:Nat)(o:Int×Int)(_:vs=[.int m])(_:jb H f c' (W.kla_obj "<lambda>" "verdict_form.<locals>.<lambda>" (pP Y74) (og Y74) (j0 Y74) [("table",c_0)] pm c' ctv) "verdict_form.<locals>.<lambda>" [("table",c_0)] [("table",.ref t)]) (_:Tbl Y.o Y.m Y.n H t rws i o)(_:∀(r:HA)(H':Hp),ak H H'->Vd K H' r (vdm rws i o m)->Q (.ref r) H')
section
variable{P:Fw}{w:Fn}{K:W.Frag}{mg:Str->Option Fe}{base:HB}{f:HA}{fd:Jy}{Y:AD}
theorem Fz(F:Fun K "holds" "holds" Y39 f fd) (bl:Bl K mg Y)  : aD P w K mg base CX0 1 f fd ["spans","number"] (m5 K Y):=by
 refine F.okA Z39 λI A v s H J Q E L h=>?_
 let(a,xs,k,n,rfl,y,B,q):=h
 refine⟨_,(ar (bT IV.never U (aX<|pv 0) (cZ U<|ax (aw (i:=2) Z39.nd U<|Or.inl U)<|ax (aw (i:=3) Z39.nd U<|Or.inl U) bq)
  (ai (aS (jL gB gB (pv 2) (pv 1)<|pv 3)
  (ai<|au fL)
  aE)))
  (ai<|au fL)),?_⟩
 dsimp only[bA,Cx.nox,Cx.wish];show(let D:TS:=_;bp _ D _ _ _);intro _;refine⟨_,U,a,U,⟨_,y⟩,(let G:Nat->St->Hp->Prop:=λi g j=>(∃t o,g=[LH (.ref a),LH<|.int n,t,o])/\j=H/\(k.take i).any (inR n)=LK;b8 (xs:=xs) G ⟨⟨_,_,U⟩,U,U⟩ (λi g j _ h=>by let(_,e,_):=h;rw[e];exact y) (λi x g j e h=>?_) (λg j h=>?_))⟩
 .let((t,o,rfl),m,b):=h;rw[m];let(p,r,l,rfl,u):=B.get e;calc⟨r,_,U,SqT.of u,U,_,_,U,_,_,U,U,?_⟩;calc⟨_,U,_,U,_,_,U,U,_,U,?_⟩;refine cM (λc=>?_)<|λc=>?_
  .refine⟨_,U,_,_,U,U,_,U,?_⟩;refine cM (λd=>?_)<|λd=>?_
   .let C:inP k n=true:=tq l<|Fu c d;rw[C]at q;exact q
   .exact⟨⟨_,_,U⟩,U,iY l b<|DV d⟩
  .exact⟨_,U,bK ⟨⟨_,_,U⟩,U,iY l b<|DU c⟩⟩
 .let((t,o,rfl),m,b):=h;rw[m];let z:inP k n=false:=by
   rw[B.length,hV]at b;exact b
  rw[z]at q;calc q
theorem FA(F:Fun K "edges" "edges" Y35 f fd) (bl:Bl K mg Y)  : aD P w K mg base CX0 1 f fd ["spans","low","high"] (m6 K Y):=by
 refine F.okA Z35 λa2 A S s H vs Q E hr h=>?_
 let(a,xs,R,lo,hi,rfl,W,C,hl,q):=h
 refine⟨_,(ar (aJ (i:=3) Z35.nd U (Or.inl U)<|bj af)
  (ar (bT IV.never U (aX<|pv 0) (cZ U<|ax (aw (i:=4) Z35.nd U<|Or.inl U)<|ax (aw (i:=5) Z35.nd U<|Or.inl U) bq)
  (ar (bB<|lj PySem.F.plainAttrs_list PySem.F.slot_list_append PySem.F.type_list_append cQ (pv 3)<|aa (pv 4) af)
  (ai<|bB<|lj PySem.F.plainAttrs_list PySem.F.slot_list_append PySem.F.type_list_append cQ (pv 3)<|aa (aG dZ (pv 5) ao) af)))
  (ai<|au<|fk (aX<|pv 3) (dD (N:=["turn","low","high"]) (fr:=[1,2]) (cl:=[("low",↥s+1),("high",↥s+1+1)]) U U (~~~0) (~~~0) U (~~~0) U U U (iv.mpr ⟨U,iv.mpr ⟨U,jo _⟩⟩) U) U (λ_ _ _ _=>(jN<|jL qi gB (pv 1) (pv 0)<|pv 2))<|λ_ _ _ _=>(pv 0)))),?_⟩
 dsimp only[bA,Cx.nox,Cx.wish];show(let r2:TS:=_;let r1:TS:=bp _ r2;bp _ r1 _ _ _);intro _ _;refine⟨(by show 0<=HL;decide),λl v=>?_⟩;let T:ak H (upd H l<|.lst []):=ag v _
 refine⟨_,U,a,U,⟨_,T.seq W⟩,b8 (xs:=xs) (λi B k=>∃(L J:Option V),B=[LH (.ref a),LH<|.int lo,LH<|.int hi,LH<|.ref l,L,J]/\ak H k/\k l=LH (.lst<|(ends<|R.take i).map V.int)/\⇑(ends<|R.take i)<=2*i)
  ⟨LI,LI,U,T,ae,wX _⟩ (λi B k _ h=>by let(_,_,_,j,_):=h;exact j.seq W) (λi x B k e h=>?_) (λB k h=>?_)⟩
 .let(L,J,rfl,j,m,z):=h;let(p,r,Z,rfl,M):=(C.mono j.tups).get e;let b:i<⇑xs:=(Ik.mp e).1;calc⟨r,_,U,SqT.of M,U,_,_,U,_,_,U,U,?_⟩;refine⟨_,U,.inl ⟨U,_,SqL.of m⟩,_,U,l,_,_,U,U,m,az (by rw[bc];lia),?_⟩;refine⟨_,U,.inl ⟨U,_,SqL.of ae⟩,_,U,_,_,U,U,l,_,_,U,U,ae,az (by rw[dV,bc,ie];lia),?_⟩;rw[zp];refine⟨_,_,U,j.upd v,?_,?_⟩
  .rw[ae,take_snoc Z,oJ];simp
  .rw[take_snoc Z,oJ,dV];simp;lia
 .let(L,J,rfl,j,m,z):=h;rw[C.length,hV]at m z
  refine⟨_,U,l,U,⟨_,SqL.of m⟩,dE (xs:=(ends R).map V.int) (λD i zs d=>ak k d/\d D=LH (.lst zs)/\zs=(((ends R).take i).filter<|λt=>decide (lo<t) && decide (t<=hi)).map V.int/\⇑zs<=i)
   (λD n=>⟨ag n _,ae,U,wZ _⟩) (λD i zs d n _ h=>SqL.of<|h.1 _ _ m) (λD i x zs d n e h=>?_) (λD zs d n h=>?_)⟩
  .let(g,u,o,O):=h;let(c,rfl,X):=of_map e;let b:i<⇑((ends R).map V.int):=(Ik.mp e).1;let a1:i<⇑(ends R):=by rw[bc]at b;exact b
   let y:(LL (lo<c) && decide (c<=hi))=LK->dR (λD i zs d=>ak k d/\d D=LH (.lst zs)/\zs=(((ends R).take i).filter<|λt=>decide (lo<t) && decide (t<=hi)).map V.int/\⇑zs<=i) D i ⇑((ends R).map V.int) d:=λhf=>by
    calc dR.mk (zs:=zs) b ⟨g,u,?_,∅⟩;rw[take_snoc X,oD,List.filter_cons_of_neg (~~~hf)];simpa using o
   calc⟨_,U,_,U,_,_,U,U,_,U,?_⟩;refine cM (λI=>?_)<|λI=>?_
   .refine⟨_,U,_,_,U,U,_,U,?_⟩;refine cM (λG=>?_) (λG=>y (by rw[DA.mpr G,Bool.and_false]));let a0:=C.length;refine⟨_,U,dg.mk b u (az ∅) ⟨g.upd n,ae,?_,by rw[dV,ie];lia⟩⟩;rw[take_snoc X,oD,List.filter_cons_of_pos (by rw[I,G];rfl),o];simp
   .exact⟨_,U,bK<|y (by rw[DA.mpr I,Bool.false_and])⟩
  .let(g,u,o,O):=h;rw[bc,hV]at o;rw[o]at u;calc q D d _ (j.trans g) (j.free n) u U
theorem FC(F:Fun K "stretches" "stretches" Y68 f fd) (bl:Bl K mg Y)  : aD P w K mg base CX0 1 f fd ["low","high","marks"] (gq K Y):=by
 refine F.okA Z69 λb4 A b1 s H vs Q E hr h=>?_
 let(a,n,L,lo,hi,rfl,hS,hl,hL,jP,q):=h
 refine⟨_,(ar (aJ (i:=3) Z69.nd U (Or.inl U)<|ay (fN (w:=w) U U) U bl.sorted_ PyProof.Rows.boot_sorted<|aa (bJ (oX (w:=w) U U) U bl.set_ PyProof.Rows.boot_set<|aa (fk (aX<|pv 2) (dD (N:=["mark","low","high"]) (fr:=[0,1]) (cl:=[("low",↥s+1),("high",↥s+1+1)]) U U (~~~0) (~~~0) U (~~~0) U U U (iv.mpr ⟨U,iv.mpr ⟨U,jo _⟩⟩) U) U (λ_ _ _ _=>(jN<|jL qi gB (pv 1) (pv 0)<|pv 2))<|λ_ _ _ _=>(pv 0)) af) af)
  (ar (aJ (i:=4) Z69.nd U (Or.inl U)<|aG pE (bj<|aa (pv 0) af)<|pv 3)
  (ar (aJ (i:=5) Z69.nd U (Or.inl U)<|aG pE (fk (aX<|pv 3) (fj U (~~~0) (~~~0) (~~~0) U) U (λ_ _ _ _=>bY)<|λ_ _ _ _=>(aG fC (pv 0) ao))<|bj<|aa (pv 1) af)
  (ai<|au<|tW U U bl.list_ U bl.zip_<|aa (pv 4)<|aa (pv 5) af)))),?_⟩
 dsimp only[bA,Cx.nox,Cx.wish];show(let r3:TS:=_;let r2:TS:=bp _ r3;let r1:TS:=bp _ r2;bp _ r1 _ _ _);intro _ _ _
 refine⟨_,U,a,U,⟨_,hS⟩,dE (xs:=n.map V.int) (λD i zs g=>ak H g/\g D=LH (.lst zs)/\zs=((n.take i).filter<|λt=>decide (lo<t) && decide (t<=hi)).map V.int/\⇑zs<=i)
  (λD m=>⟨ag m _,ae,U,wZ _⟩) (λD i zs g m _ h=>h.1.seq hS) (λD i x zs g m e h=>?_) (λD zs g m h=>?_)⟩
 .let(r,B,y,O):=h;let(c,rfl,ec):=of_map e;let d:i<⇑(n.map V.int):=(Ik.mp e).1;let a6:i<⇑n:=by rw[bc]at d;exact d
  let M:(LL (lo<c) && decide (c<=hi))=LK->dR (λD i zs g=>ak H g/\g D=LH (.lst zs)/\zs=((n.take i).filter<|λt=>decide (lo<t) && decide (t<=hi)).map V.int/\⇑zs<=i) D i ⇑(n.map V.int) g:=λhf=>by
   calc dR.mk (zs:=zs) d ⟨r,B,?_,∅⟩;rw[take_snoc ec,oD,List.filter_cons_of_neg (~~~hf)];simpa using y
  calc⟨_,U,_,U,_,_,U,U,_,U,?_⟩;refine cM (λg1=>?_)<|λg1=>?_
  .refine⟨_,U,_,_,U,U,_,U,?_⟩;refine cM (λg2=>?_) (λg2=>M (by rw[DA.mpr g2,Bool.and_false]));refine⟨_,U,dg.mk d B (az ∅) ⟨r.upd m,ae,?_,by rw[dV,ie];lia⟩⟩;rw[take_snoc ec,oD,List.filter_cons_of_pos (by rw[g1,g2];rfl),y];simp
  .exact⟨_,U,bK<|M (by rw[DA.mpr g1,Bool.false_and])⟩
 .let(s2,B,y,O):=h;rw[bc]at O y;rw[hV]at y;rw[y]at B;generalize R:n.filter (λt=>decide (lo<t) && decide (t<=hi))=ks at B y;let fF:∀c,c∈ks↔(c∈n/\lo<c/\c<=hi):=λc=>by rw[←R,kP];simp
  let b3:⇑ks<=⇑n:=by rw[←R];exact vl ..
  calc⟨D,ks,U,SqL.of B,∅,λl a5=>?_⟩;let s3:ak H (upd g l<|tV w l ks):=s2.trans<|ag a5 _;calc⟨l,ks,L,U,ae,∅,λk hk=>let ⟨a1,a2,a3⟩:=(fF k).mp hk;jP k a1 a2 a3,λC b a9 pw mem=>?_⟩;let s4:=s3.trans<|ag a9<|.lst<|b.map V.int;let e4:upd (upd g l<|tV w l ks) C (.lst<|b.map V.int) C=LH (.lst<|b.map V.int):=ae;generalize upd (upd g l<|tV w l ks) C (.lst<|b.map V.int)=H3 at s4 e4⊢;let a7:⇑b<=400:=xc (bu (pw.imp λh=>Int.ne_of_lt h) λk hk=>let ⟨a1,a2,a3⟩:=(fF k).mp<|(mem k).mp hk;jP k a1 a2 a3) hL;refine⟨_,U,(by show 1<=HL;decide),λt1 J=>?_⟩;let e5:=d6 (o:=.lst [.int lo]) e4 J;let s5:=s4.trans<|ag J<|.lst [.int lo];refine⟨_,U,t1,C,_,_,U,U,ae,e5,zb<|az (by rw[bc];show 1+⇑b<=1000;lia),λX I=>?_⟩;let e6:=d6 (o:=.lst<|[V.int lo]++b.map V.int) e5 I;let s6:=s5.trans<|ag I<|.lst<|[V.int lo]++b.map V.int;let e7:upd (upd H3 t1<|.lst [.int lo]) X (.lst<|[V.int lo]++b.map V.int) X=LH (.lst<|[V.int lo]++b.map V.int):=ae;generalize upd (upd H3 t1<|.lst [.int lo]) X (.lst<|[V.int lo]++b.map V.int)=H4 at s6 e6 e7⊢
  refine⟨_,U,C,U,⟨_,SqL.of e6⟩,dE (xs:=b.map V.int) (λD i zs z=>ak H4 z/\z D=LH (.lst zs)/\zs=((b.take i).map (· - 1)).map V.int/\⇑zs<=i)
   (λD m=>⟨ag m _,ae,U,wZ _⟩) (λD i zs z m _ h=>SqL.of<|h.1 _ _ e6) (λD i x zs z m e h=>?_) (λD zs z m h=>?_)⟩
  .let(r,v,u,FD):=h;let(c,rfl,ec):=of_map e;let d:i<⇑(b.map V.int):=(Ik.mp e).1;let a6:i<⇑b:=by rw[bc]at d;exact d
   refine⟨_,U,_,_,U,U,dg.mk d v (az ∅) ⟨r.upd m,ae,?_,by rw[dV,ie];lia⟩⟩;rw[take_snoc ec,gd,gd,u];rfl
  .let(a0,v,u,FD):=h;rw[bc,hV]at u;rw[u]at v;refine⟨_,U,(by show 1<=HL;decide),λt3 G=>?_⟩;let s7:=a0.trans<|ag G<|.lst [.int hi];refine⟨D,t3,_,_,U,U,d6 v G,ae,zb<|az (by rw[bc,bc];show ⇑b+1<=1000;lia),λW a4=>?_⟩;let Z:=s7.trans (ag a4 (.lst ((b.map (· - 1)).map V.int++[.int hi])));let e8:upd (upd z t3<|.lst [.int hi]) W (.lst ((b.map (· - 1)).map V.int++[.int hi])) W=LH (.lst ((b.map (· - 1)).map V.int++[.int hi])):=ae;generalize upd (upd z t3<|.lst [.int hi]) W (.lst ((b.map (· - 1)).map V.int++[.int hi]))=H6 at Z e8⊢;let e9:=Z _ _ e7;refine⟨_,U,_,U,X,W,(lo :: b).map V.int,(b.map (· - 1)++[hi]).map V.int,U,SqL.of e9,by rw[gd];exact SqL.of e8,λD9 ts H9 S k9 a8 b0 f9=>?_⟩;let s9:ak H H9:=(s6.trans Z).trans λc o e=>k9 c o e
   refine q D9 H9 b (ts.map V.ref) s9 ((s6.trans Z).free a8) b0 (PL.of_get (by rw[S,fS];simp) λj p hj=>?_) pw (λc=>(mem c).trans<|fF c) a7;let(z1,z2):=zip_get hj;let(T,h1,_,h2):=f9 j _ _ z1 z2;calc⟨T,h1,h2⟩
theorem FE(F:Fun K "closed" "closed" Y32 f fd) (bl:Bl K mg Y)  : aD P w K mg base CX0 1 f fd ["triples"] (iK K Y):=by
 refine F.okA Z32 λa7 A a5 s H vs Q E hr h=>?_
 let(L,iL,A,n,a,xs,o,rfl,hn,ha,X,hl,q):=h
 refine⟨_,(ar (aJ (i:=1) Z32.nd U (Or.inl U)<|bj af)
  (ar (bT IV.never U (aX<|pv 0) (cZ U<|ax (aw (i:=2) Z32.nd U<|Or.inl U)<|ax (aw (i:=3) Z32.nd U<|Or.inl U)<|ax (aw (i:=4) Z32.nd U<|Or.inl U) bq)
  (ai (aS (PW.pt<|fB (c9 (pv 1) (by intro _;rfl)) (fi<|aH (Cw hr) (aW dC (aW aY (pv 1) (uD sO ao)<|λ_ _=>U) ao<|λ_ _=>U) (pv 4)<|aF _))
  (ai<|lR (ba<|aa (aW dC (aW aY (pv 1) (uD sO ao)<|λ_ _=>U) ao<|λ_ _=>U)<|aa (pv 3)<|aa (pv 4) af)<|pA (pv 1) (uD sO ao) set_list)
  (ai<|bB<|lj PySem.F.plainAttrs_list PySem.F.slot_list_append PySem.F.type_list_append cQ (pv 1)<|aa (ba<|aa (pv 2)<|aa (pv 3)<|aa (pv 4) af) af))))
  (ai<|au<|bJ nU U bl.tuple_ PyProof.Rows.boot_tuple<|aa (pv 1) af))),?_⟩
 dsimp only[bA,Cx.nox,Cx.wish];show(let r2:TS:=_;let r1:TS:=bp _ r2;bp _ r1 _ _ _);intro _ _;refine⟨(by show 0<=HL;decide),λl B=>?_⟩;let s0:ak H (upd H l<|.lst []):=ag B _
 refine⟨_,U,a,U,⟨_,SqL.of<|s0 _ _ ha⟩,b8 (xs:=xs) (λi T g=>ak H g/\∃(c:L0 V)(N M J:Option V),g l=LH (.lst c)/\FmL (FmV A g n) g ((o.take i).foldl cA []) c/\⇑c<=i/\T=[LH (.ref a),LH<|.ref l,N,M,J])
  ⟨s0,[],LI,LI,LI,ae,FmL.nil,wZ _,U⟩ (λi T g _ h=>SqL.of<|h.1 _ _ ha) (λi y T g e h=>?_) (λT g h=>?_)⟩
 .let(C,c,N,M,J,m,p,R,rfl):=h;let hi:i<⇑xs:=(Ik.mp e).1;let(t,et):∃t,o[i]?=LH t:=⟨_,Ij (by rw[←X.1];exact hi)⟩;let(r,u,ex,er,hu):=X.2 i t et;rw[e]at ex;cases ex;let a4:=C _ _ er;let x:=FmV.mono C.tups hu;let Ed:(o.take<|i+1).foldl cA []=cA ((o.take i).foldl cA []) t:=by rw[take_snoc et,List.foldl_append];rfl
  rw[Ed];generalize (o.take i).foldl cA []=F at p;let a6:i<900:=by have:=X.1;lia
  refine⟨r,_,U,SqT.of a4,U,_,_,U,_,_,U,_,_,U,U,?_⟩
  let O:cA F t=F++[t]->∀b,g b=LI->ak H (upd (upd g b<|.tup [.int t.1,.int t.2.1,u]) l<|.lst<|c++[.ref b])/\∃(v:L0 V)(N M J:Option V),upd (upd g b<|.tup [.int t.1,.int t.2.1,u]) l (.lst<|c++[.ref b]) l=LH (.lst v) /\
    FmL (FmV A (upd (upd g b<|.tup [.int t.1,.int t.2.1,u]) l<|.lst<|c++[.ref b]) n) (upd (upd g b<|.tup [.int t.1,.int t.2.1,u]) l<|.lst<|c++[.ref b]) (cA F t) v/\⇑v<=i+1/\[LH (V.ref a),LH<|V.ref l,LH<|V.int t.1,LH<|V.int t.2.1,LH u]=[LH (.ref a),LH<|.ref l,N,M,J]:=λI b j=>by
   let D:upd g b (.tup [.int t.1,.int t.2.1,u]) l=LH (.lst c):=d6 m j;let k:cm g (upd (upd g b<|.tup [.int t.1,.int t.2.1,u]) l<|.lst<|c++[.ref b]):=(oG j).trans<|bP D;refine⟨(C.trans<|ag j _).upd B,c++[.ref b],_,_,_,ae,?_,by rw[dV,ie];lia,U⟩;rw[I];exact(p.mono (λ_ _ q=>FmV.mono k q) k).snoc (bP D _ _ ae) (FmV.mono k x)
  calc⟨_,U,!c.isEmpty,.inl ⟨c,SqL.of m,U⟩,?_⟩;rcases List.eq_nil_or_concat F with Z|⟨F',lt,Z⟩
  .subst Z;let a0:c=[]:=List.eq_nil_of_length_eq_zero p.1;let eE:(!c.isEmpty)=false:=by rw[a0];rfl
   rw[eE];calc bK<|bK ?_;refine⟨_,U,.inl ⟨U,_,SqL.of m⟩,_,U,_,U,_,U,(by show 3<=HL;decide),λb j=>?_⟩;calc⟨l,c,_,U,U,d6 m j,az ∅,?_⟩;exact O U b j
  .rw[List.concat_eq_append]at Z;subst Z;let(G,W,ul,rfl,hy,S,a2):=p.init;let eE:(!(G++[V.ref W]).isEmpty)=true:=by cases G <;> rfl
   rw[eE];calc df ?_;calc⟨_,U,_,U,l,_,_,_,U,U,SqL.of m,qr _ _,W,_,_,_,U,U,SqT.of S,U,_,U,λa3=>FmV.eq_to ∅ a2 x ?_ a3⟩;calc⟨_,U,?_⟩;refine cM (λd=>?_)<|λd=>?_
   .let d':lt.2.2=t.2.2:=gH d;let I:cA (F'++[lt]) t=F'++[(lt.1,t.2.1,t.2.2)]:=by
     unfold cA;rw[List.getLast?_concat];simp only;rw[LO d',List.dropLast_concat]
    refine⟨_,U,_,U,l,_,_,_,U,U,SqL.of m,qr _ _,W,_,_,_,U,U,SqT.of S,U,_,U,_,U,(by show 3<=HL;decide),λb j=>?_⟩;let D:upd g b (.tup [.int lt.1,.int t.2.1,u]) l=LH (.lst<|G++[.ref W]):=d6 m j;refine⟨_,U,_,U,l,_,_,_,U,U,D,yy (by simp),?_⟩;rw[yz];let k:cm g (upd (upd g b<|.tup [.int lt.1,.int t.2.1,u]) l<|.lst<|G++[.ref b]):=(oG j).trans<|bP D;refine⟨(C.trans<|ag j _).upd B,G++[.ref b],_,_,_,ae,?_,by rw[dV,ie]at R⊢;lia,U⟩;rw[I];exact(hy.mono (λ_ _ q=>FmV.mono k q) k).snoc (t:=(lt.1,t.2.1,t.2.2)) (bP D _ _ ae) (FmV.mono k x)
   .let d':lt.2.2≠t.2.2:=iZ d;let I:cA (F'++[lt]) t=F'++[lt]++[t]:=by
     unfold cA;rw[List.getLast?_concat];simp only;rw[LN d']
    refine⟨_,U,.inl ⟨U,_,SqL.of m⟩,_,U,_,U,_,U,(by show 3<=HL;decide),λb j=>?_⟩;calc⟨l,_,_,U,U,d6 m j,az ∅,?_⟩;exact O I b j
 .let(C,c,N,M,J,m,p,R,rfl):=h;let a1:FmL (FmV A g n) g (gj o) c:=by
   let e:o.take ⇑xs=o:=by rw[X.1];exact hV
   rw[e]at p;exact p
  calc⟨_,U,l,c,U,.inl ⟨SqL.of m,λb j=>?_⟩⟩;let st:=ag j<|.tup c;calc q b _ (C.trans st) ⟨b,c,U,ae,a1.mono (λ_ _ z=>FmV.mono st.tups z) st.tups⟩
theorem FG(F:Fun K "gathered" "gathered" Y37 f fd) (bl:Bl K mg Y)  : aD P w K mg base CX0 1 f fd ["lists"] (gW K Y):=by
 refine F.okA Z37 λa1 A B s H vs Q E G h=>?_
 let(a,as,b,L,rfl,J,g,N,hL,T,q):=h
 refine⟨_,(ar (aJ (i:=1) Z37.nd U (Or.inl U)<|bj af)
  (ar (bT IV.never U (aX<|pv 0) (aw (i:=2) Z37.nd U<|Or.inl U)
  (ai<|bB<|lj PySem.F.plainAttrs_list PySem.F.slot_list_extend PySem.F.type_list_extend vJ (pv 1)<|aa (pv 2) af))
  (ai<|au<|ay (fN (w:=w) U U) U bl.sorted_ PyProof.Rows.boot_sorted<|aa (bJ (oX (w:=w) U U) U bl.set_ PyProof.Rows.boot_set<|aa (pv 1) af) af))),?_⟩
 dsimp only[bA,Cx.nox,Cx.wish];show(let O:TS:=_;let R:TS:=bp _ O;bp _ R _ _ _);intro _ _;refine⟨(by show 0<=HL;decide),λd m=>?_⟩;let t:ak H (upd H d<|.lst []):=ag m _;let M:upd H d (.lst []) d=LH (.lst [] ):=ae;generalize upd H d (.lst [])=H0 at t M⊢;let D:∀(A:L0 (L0 Int))(x:L0 Int),(A++[x]).flatten=A.flatten++x:=λA x=>by rw[List.flatten_append];simp
 refine⟨_,U,a,U,⟨_,SqL.of<|t _ _ J⟩,(let I_:Nat->St->Hp->Prop:=λi p k=>ak H k/\k d=LH (.lst<|(b.take i).flatten.map V.int)/\∃v:Option V,p=[LH (.ref a),LH<|.ref d,v];b8 (xs:=as.map V.ref) I_ ⟨t,M,_,U⟩ (λi p k _ h=>SqL.of<|h.1 _ _ J) (λi y p k e h=>?_) (λp k h=>?_))⟩
 .let(j,c,v,rfl):=h;let(r,rfl,I):=yE e;let(xs,u):∃xs,b[i]?=LH xs:=⟨_,Ij (by rw[←g.1];exact(Ik.mp I).1)⟩;let(r',o,G):=g.2 i xs u;rw[I]at o;cases o;let a0:(b.take i).flatten.length+⇑xs<=1000:=by
   let X:b.flatten=(b.take<|i+1).flatten++(b.drop<|i+1).flatten:=by rw[←List.flatten_append,kQ]
   let W:⇑((b.take<|i+1).flatten)<=⇑b.flatten:=by rw[X,dV];lia
   rw[take_snoc u,D,dV]at W;lia
  refine⟨_,U,.inl ⟨U,_,SqL.of c⟩,_,U,d,r,_,_,U,U,c,j _ _ G,zb<|az (by rw[bc,bc];lia),j.upd m,?_,_,U⟩;rw[ae,take_snoc u,D,gd]
 .let(j,c,v,rfl):=h;rw[bc,g.1,hV]at c;calc⟨_,U,d,b.flatten,U,SqL.of c,∅,λl z=>?_⟩;let C:=ag z<|tV w l b.flatten;calc⟨l,b.flatten,L,U,ae,∅,T,λD2 Z n S mem=>?_⟩;calc q D2 Z _ ((j.trans C).trans<|ag n _) (j.free<|C.free n) ae S mem
theorem FH(F:Fun K "all_among" "all_among" Y29 f fd) (bl:Bl K mg Y)  : aD P w K mg base CX0 1 f fd ["text","signs"] (gs K Y):=by
 refine F.okA Z29 λr A m s H t Q E u h=>?_
 let(z,g,rfl,q):=h
 refine⟨_,(ar (bT IV.never U (B3<|pv 0) (aw (i:=2) Z29.nd U<|Or.inl U)
  (ai (aS (aH pB (pv 2) (pv 1) (by with_unfolding_all rfl))
  (ai<|au fL)
  aE)))
  (ai<|au fL)),?_⟩
 dsimp only[bA,Cx.nox,Cx.wish];show(let o:TS:=_;bp _ o _ _ _);intro _;refine⟨_,U,z,U,(let p:Nat->St->Hp->Prop:=λi a l=>(∃k:Option V,a=[LH (.str z),LH<|.str g,k])/\l=H/\(z.cps.toList.take i).all (sg g)=LJ;zH p ⟨⟨_,U⟩,U,U⟩ (λi c a l e h=>?_) (λa l h=>?_))⟩
 .let((k,rfl),j,b):=h;rw[j];calc⟨_,U,_,U,_,_,U,U,_,U,?_⟩;refine cM (λd=>?_)<|λd=>?_
  .let n:qA z g=false:=CA e<|CB d;rw[n]at q;exact q
  .exact⟨⟨_,U⟩,U,all_succ e (DW d) b⟩
 .let((k,rfl),j,b):=h;rw[j];rw[yA b]at q;calc q
theorem FI(F:Fun K "is_whole" "is_whole" Y40 f fd) (bl:Bl K mg Y)  : aD P w K mg base CX0 1 f fd ["value"] (fw K Y):=by
 refine F.okA Z40 λb A a s H c Q E d h=>?_
 let(i,rfl,q):=h;calc⟨_,(ai<|au<|gG (ay dH U bl.isinstance_ PyProof.Rows.boot_isinstance<|aa (pv 0)<|aa (fY (v:=.ty "int") U bl.int_ PyProof.Rows.boot_int U) af)<|kn<|xk<|ay dH U bl.isinstance_ PyProof.Rows.boot_isinstance<|aa (pv 0)<|aa (fY (v:=.ty "bool") U bl.bool_ PyProof.Rows.boot_bool U) af),?_⟩;calc⟨_,U,_,_,_,_,LJ,U,.ty _,.inl<|.int _,(by first|rfl|with_unfolding_all rfl|decide+kernel),_,U,df ⟨_,U,_,_,_,_,LK,U,.ty _,.inl<|.int _,(by first|rfl|with_unfolding_all rfl|decide+kernel),_,U,q⟩⟩
theorem FJ(F:Fun K "refuse_counts" "refuse_counts" Y60 f fd) (bl:Bl K mg Y)  : aD P w K mg base (CX1 P w) 1 f fd ["names","rows"] (dM K Y):=by
 refine F.okEA Z60 λk A a s H m Q E b h=>?_
 let(p,r,c,l,rfl,j,i,o,n,e,q):=h
 refine⟨_,(ar (aS (cB<|jL gB gB ao (ay aK U bl.len_ LG<|aa (pv 0) af)<|qz U bl.MOST_COLUMNS_)
  (ai<|iB bl.x_TooMany b.hd U bl.TooMany_<|aa aL af)
  aE)
  (ai (aS (aH jK (ay aK U bl.len_ LG<|aa (pv 1) af) (qz U bl.MOST_ROWS_)<|aF _)
  (ai<|iB bl.x_TooMany b.hd U bl.TooMany_<|aa aL af)
  aE))),?_⟩
 dsimp only[bA,Cx.nox,Cx.wish];show(let d:TS:=_;bp _ d _ _ _);intro _;calc⟨_,U,p,_,U,.inl<|j,_,_,U,U,_,U,mF ∅ ?_⟩;calc⟨_,_,U,U,_,U,?_⟩;rw[LQ (show((⇑c:Nat):Int)<=4 by lia)];calc bK ?_;refine⟨_,U,r,_,U,.inl<|i,_,_,U,U,_,U,cM (λg=>?_)<|λg=>?_⟩
 .let:=gH g;exact⟨(by show 1<=HL;decide),e ∅⟩
 .let:=iZ g;calc q ∅
theorem FK(F:Fun K "own_row" "own_row" Y58 f fd) (bl:Bl K mg Y)  : aD P w K mg base CX0 1 f fd ["cells","code"] (ji K Y):=by
 refine F.okA Z58 λS A y s H T Q E W h=>?_
 let(cl,xs,G,rfl,B,t,X,q):=h;refine⟨_,(ai<|au<|ba<|aa (fk (aX<|pv 0) (fj U (~~~0) (~~~0) (~~~0) U) U (λ_ _ _ _=>bY)<|λ_ _ _ _=>(bJ (n6 (K:=K) U) U bl.list_ PyProof.Rows.boot_list<|aa (pv 0) af))<|aa (pv 1) af),?_⟩
 refine⟨_,U,cl,U,⟨_,SqL.of B⟩,dE (xs:=xs) (λD i g d=>ak H d/\d D=LH (.lst g)/\CL (Fr H D) d g (G.1.take i))
  (λD m=>⟨ag m _,ae,aI.nil⟩) (λD i g d m _ h=>SqL.of<|h.1 _ _ B) (λD i x g d m e h=>?_) (λD g d m h=>?_)⟩
 .let(k,u,p):=h;let(l,V,rfl,O,M):=aI.get t e;let(_,n,R,L):=M.same k;let hi:i<⇑xs:=(Ik.mp e).1;let v:⇑g<HL:=by
   let N:=p.1;rw[iR]at N;exact az ∅
  calc⟨_,U,l,_,U,.inl<|SqL.of R,λo c=>?_⟩;let s2:=ag c<|.lst n;let C:upd d o (.lst n) o=LH (.lst n):=ae;let j:=s2 _ _ u;generalize upd d o (.lst n)=H2 at s2 C j⊢;let J:H o=none:=k.free c;let I:o≠D:=λz=>by rw[z,u]at c;cases c
  calc dg.mk hi j v ⟨(k.trans s2).upd m,ae,?_⟩;rw[take_snoc O];exact CL.updN (aI.snoc (p.same s2) ⟨⟨J,I⟩,n,C,L.mono s2.tups⟩) Fr.out j
 .let(k,u,p):=h;rw[t.1,hV]at p;calc⟨_,U,bO,λr b=>q r _ (k.trans<|ag b _) (k.free b) ⟨D,g,ae,m,ag b _ _ _ u,?_⟩⟩;calc(p.same<|ag b _).wk λa h=>h.1
theorem FL(F:Fun K "table_bounds" "table_bounds" Y69 f fd) (bl:Bl K mg Y)  : aD P w K mg base CX0 1 f fd ["table"] (d7 K Y):=by
 refine F.okA Z70 λa3 A I s H vs Q E hr h=>?_
 let(t,x,bs,Z,rfl,(rl,dx,W,fs,xs,M,f1,S,p,o,a1,hR),hb,q):=h;calc⟨_,(ai<|au<|fk (aX<|aV (pv 0) U) (fj U (~~~0) (~~~0) (~~~0) U) U (λ_ _ _ _=>bY)<|λ_ _ _ _=>(ba<|aa (jQ (K:=K) U (pv 0) U)<|aa (jQ (K:=K) U (pv 0) U) af)),?_⟩;let G:⇑x=⇑bs:=o.1;refine⟨_,U,t,_,_,_,_,U,M,bl.k_Table,bl.na_Table_domains,S,W,U,⟨_,SqL.of p⟩,(let X:HA->Nat->L0 V->Hp->Prop:=λD i j c=>ak H c/\c D=LH (.lst j)/\PL c j (bs.take i);dE (xs:=x) X (λD k=>⟨ag k _,ae,.nil⟩) (λD i j c k _ h=>SqL.of<|h.1 _ _ p) (λD i y j c k e h=>?_) (λD j c k h=>?_))⟩
 .let(l,v,m):=h;let(a,b,rfl,T,C,N,a2,a0,J,R,O,_):=aI.get o e;let hi:i<⇑x:=(Ik.mp e).1;let u:Cls K C/\NoAttr K C s!"low"/\NoAttr K C s!"high":=by
   rcases N with rfl|rfl
   .exact⟨bl.k_Numbers,bl.na_Numbers_low,bl.na_Numbers_high⟩
   .exact⟨bl.k_Words,bl.na_Words_low,bl.na_Words_high⟩
  calc⟨_,U,a,_,_,_,_,U,l _ _ J,u.1,u.2.1,R,_,U,a,_,_,_,_,U,l _ _ J,u.1,u.2.2,O,bO,λg B=>?_⟩;let r:=ag B<|.tup [.int b.1,.int b.2];let L:upd c g (.tup [.int b.1,.int b.2]) g=LH (.tup [.int b.1,.int b.2]):=ae;let d:=r _ _ v;let n:=m.mono r.tups;generalize upd c g (.tup [.int b.1,.int b.2])=H4 at r L d n⊢;let z:=⇑m;rw[iR]at z;calc dg.mk hi d (az ∅) ⟨(l.trans r).upd k,ae,?_⟩;rw[take_snoc T];exact(n.mono<|bP d).snoc (bP d _ _ L)
 .let(l,v,m):=h;rw[G,hV]at m;calc q D j c l k v m
theorem FN(F:Fun K "_law_cell_at" "_law_cell_at" Y46 f fd) (bl:Bl K mg Y)  : aD P w K mg base CX0 1 f fd ["script","k"] (eU K Y):=by
 refine F.okA Z46 λm A d s H n Q E o h=>?_
 let(a,b,k,rfl,e,p,q):=h
 refine⟨_,(ar (aS (aH qi (pv 1) (ay aK U bl.len_ LG<|aa (pv 0) af)<|aF _)
  (ai<|au<|aW aY (pv 0) (pv 1)<|λ_ _=>U)
  aE)
  (ai<|au ao)),?_⟩
 dsimp only[bA,Cx.nox,Cx.wish];show(let g:TS:=_;bp _ g _ _ _);intro _;calc⟨_,U,_,U,a,_,U,.inl e,_,_,U,U,_,U,?_⟩;refine cM (λc=>?_)<|λc=>?_
 .let l:k<((⇑(b.map V.int):Nat):Int):=gH c;rw[bc]at l;let j:k.toNat<⇑b:=∅
  let i:atI (b.map V.int) k=LH (.int b[k.toNat]):=by
   let z:atI (b.map V.int) ((k.toNat:Nat):Int)=LH (.int b[k.toNat]):=aM (by rw[gM,Ij j];rfl);rw[show((k.toNat:Nat):Int)=k by lia]at z;exact z
  exact⟨_,U,_,U,a,_,_,_,U,U,e,i,q _⟩
 .exact q 0
theorem FO(F:Fun K "_law_same" "_law_same" Y51 f fd) (bl:Bl K mg Y)  : aD P w K mg base CX0 1 f fd ["found","due"] (gX K Y):=by
 refine F.okA Z51 λj A c s H k Q E g h=>?_
 let(r,d,p,rfl,a,i,q):=h
 refine⟨_,(ar (aS (PW.pt<|xh (cB<|ck<|ay dH U bl.isinstance_ PyProof.Rows.boot_isinstance<|aa (pv 0)<|aa (fY (v:=.ty "tuple") U bl.tuple_ PyProof.Rows.boot_tuple U) af)<|xh (aH lU (ay aK U bl.len_ LG<|aa (pv 0) af) ao<|aF _)<|xg<|cB<|ck<|ay dH U bl.isinstance_ PyProof.Rows.boot_isinstance<|aa (aW dC (pv 0) ao<|λ_ _=>U)<|aa (fY (v:=.ty "str") U bl.str_ PyProof.Rows.boot_str U) af)
  (ai<|au fL)
  aE)
  (ai<|au<|gG (ay dH U bl.isinstance_ PyProof.Rows.boot_isinstance<|aa (aW dC (pv 0) ao<|λ_ _=>U)<|aa (fY (v:=.ty "int") U bl.int_ PyProof.Rows.boot_int U) af)<|gG (xk<|ay dH U bl.isinstance_ PyProof.Rows.boot_isinstance<|aa (aW dC (pv 0) ao<|λ_ _=>U)<|aa (fY (v:=.ty "bool") U bl.bool_ PyProof.Rows.boot_bool U) af)<|kn<|cI (xP g) (pv 0) (pv 1)<|aF _)),?_⟩
 dsimp only[bA,Cx.nox,Cx.wish];show(let e:TS:=_;bp _ e _ _ _);intro _;refine⟨_,U,_,_,_,_,LJ,U,.ty _,.inr ⟨r,_,U,a,U⟩,(by first|rfl|with_unfolding_all rfl|decide+kernel),_,U,bK ?_⟩;calc⟨_,U,r,_,U,.inr<|a,U,_,U,xC U ?_⟩;refine⟨_,U,r,_,_,_,U,U,a,U,_,_,_,_,LJ,U,.ty _,.inl<|.str _,(by first|rfl|with_unfolding_all rfl|decide+kernel),_,U,bK ?_⟩;refine⟨_,U,r,_,_,_,U,U,a,U,_,_,_,_,LJ,U,.ty _,.inl<|.int _,(by first|rfl|with_unfolding_all rfl|decide+kernel),_,U,df ?_⟩;refine⟨_,U,r,_,_,_,U,U,a,U,_,_,_,_,LK,U,.ty _,.inl<|.int _,(by first|rfl|with_unfolding_all rfl|decide+kernel),_,U,LJ,U,df ?_⟩;calc⟨_,U,_,U,?_⟩;calc vU a i (λx b=>?_) q;rcases bL.mp b with rfl|b
 .rfl
 .rw[show x=.int p.2 by simpa using b];rfl
theorem FP(F:Fun K "_law_rows" "_law_rows" Y50 f fd) (bl:Bl K mg Y)  : aD P w K mg base CX0 1 f fd ["low","size","codes","kinds"] (gY K Y):=by
 refine F.okA Z50 λd2 A c2 s H vs Q E hr h=>?_
 let(b,sz,e,cl,B,y,rfl,c1,h1,Ib,d0,q):=h
 refine⟨_,(ar (aJ (i:=4) Z50.nd U (Or.inl U)<|bj af)
  (ar (bT IV.never U (oI U bl.range_<|aa ao<|aa (pv 1)<|aa ao af) (aw (i:=5) Z50.nd U<|Or.inl U)
  (ai (bT IV.never U (kq U bl.range_<|aa (pv 3) af) (aw (i:=6) Z50.nd U<|Or.inl U)
  (aC (uR (i:=7) Z50.nd U (Or.inl U) (oI U bl.range_<|aa (aG dZ (pv 5)<|pv 6)<|aa (ay (oy U) U bl.min_ PyProof.Rows.boot_min<|aa (pv 1)<|aa (aG dZ (pv 5) ao) af)<|aa ao af) (dD (N:=["at","low"]) (fr:=[0]) (cl:=[("low",↥s+1)]) U U (~~~0) (~~~0) U (~~~0) U U U (iv.mpr ⟨U,jo _⟩) U) U (λ_ _ _ _=>bY)<|λ_ _ _ _=>(ba<|aa (aG dZ (pv 1)<|pv 0)<|aa (aG dZ (pv 1)<|pv 0) af))
  (ai (aS (aH jK (ay aK U bl.len_ LG<|aa (pv 7) af) ao<|aF _)
  (ai<|bB<|lj PySem.F.plainAttrs_list PySem.F.slot_list_append PySem.F.type_list_append cQ (pv 4)<|aa (ba<|aa (bj<|aa (pv 7) af)<|aa (aW aY (pv 2) (pv 6)<|λ_ _=>U) af) af)
  aE))))))
  (ai<|au<|pv 4))),?_⟩
 dsimp only[bA,Cx.nox,Cx.wish];show(let r2:TS:=_;let r1:TS:=bp _ r2;bp _ r1 _ _ _);intro _ _;refine⟨(by show 0<=HL;decide),λl hl=>?_⟩;let s0:=ag hl<|.lst [];let e0:upd H l (.lst []) l=LH (.lst []):=ae;generalize upd H l (.lst [])=H0 at s0 e0⊢;refine⟨_,U,_,_,_,U,⟨⋯,⋯,⋯,⋯,∅,∅⟩,(let Z:Nat->St->Hp->Prop:=λi W H'=>ak H H'/\∃(m:L0 V)(R:L0 Rw)(c5 O M:Option V),H' l=LH (.lst m)/\RL (Fr H l) H' m R/\RwI b (λd=>if d=0 then B else y) (λa=>(a<sz/\a%2<e)/\a<200*i) R/\R.length<=2*i/\W=[LH (.int b),LH<|.int (sz:Int),LH<|.ref cl,LH<|.int (e:Int),LH<|.ref l,c5,O,M];tF (lo:=0) (c:=200) Z ⟨s0,[],[],_,_,_,e0,aI.nil,RwI.nil<|λa h=>∅,wZ _,U⟩ (λi W H' hi h=>?_) (λW H' h=>?_))⟩
 rotate_left
 .let(sm,m,R,c5,O,M,L,I,X,a3,rfl):=h;let h2:rsz 0 (sz:Int) 200<=2:=by
   refine zz λz=>?_
   let:=(ke (lo:=0) (hi:=(sz:Int)) (c:=200) ⋯).mp z;lia
  calc⟨_,U,q l m R H' sm hl L I (X.congr λa=>⟨λh=>h.1,λh=>⟨h,?_⟩⟩) ∅⟩;refine Nat.lt_of_not_le λz=>?_
  let:=(ke (lo:=0) (hi:=(sz:Int)) (c:=200) (x:=rsz 0 (sz:Int) 200) ⋯).mpr ∅;lia
 let(sm,m,R,c5,O,M,L,I,X,a3,rfl):=h;let d1:200*i<sz:=by
  let:=(ke (lo:=0) (hi:=(sz:Int)) (c:=200) ⋯).mp hi;lia
 refine⟨_,U,_,U,∅,∅,(let Z:Nat->St->Hp->Prop:=λd W T=>ak H T/\∃(m:L0 V)(R:L0 Rw)(O M:Option V),T l=LH (.lst m)/\RL (Fr H l) T m R/\RwI b (λd=>if d=0 then B else y) (λa=>((a<sz/\a%2<e)/\a<200*i)\/(a<sz/\200*i<=a/\a<200*i+200/\a%2<d)) R/\R.length<=2*i+d/\W=[LH (.int b),LH<|.int (sz:Int),LH<|.ref cl,LH<|.int (e:Int),LH<|.ref l,LH<|.int<|0+(i:Int)*200,O,M];vE Z ⟨sm,m,R,_,_,L,I,X.congr<|λa=>⟨λh=>.inl h,λh=>h.elim id λh=>∅⟩,∅,U⟩ (λd W T hd h=>?_) (λW T h=>?_))⟩
 rotate_left
 .let(s2,a9,R2,O,M,c0,b6,a6,FQ,rfl):=h;let b4:((e:Int)).toNat=e:=DG _;rw[b4]at a6 FQ;exact⟨s2,a9,R2,_,_,_,c0,b6,a6.congr<|λa=>⟨λh=>∅,λh=>∅⟩,∅,U⟩
 clear X I a3 L;clear m R O M;let(s2,m,R,O,M,L,I,X,a3,rfl):=h;let hd:d<e:=by rw[DG]at hd;exact hd
 refine(let Z:St->Hp->Prop:=λa8 k=>ak T k/\∃(D:HA)(o:L0 V),T D=LI/\k D=LH (.lst o)/\PL k o ((List.range<|rsz ((i:Int)*200+(d:Int)) (if (i:Int)*200+200<(sz:Int) then(i:Int)*200+200 else(sz:Int)) 2).map λx=>di b<|200*i+d+2*x)/\a8=[LH (.int b),LH<|.int (sz:Int),LH<|.ref cl,LH<|.int (e:Int),LH<|.ref l,LH<|.int<|0+(i:Int)*200,LH<|.int<|0+(d:Int),LH (.ref D)];⟨Z,?_,?_⟩)
 .refine⟨_,U,_,U,_,_,U,U,_,U,_,U,_,_,U,U,_,_,U,_,_,_,U,⟨⋯,⋯,∅,∅,by split <;> lia,by split <;> lia⟩,(let Z:HA->Nat->L0 V->Hp->Prop:=λD j o k=>ak T k/\k D=LH (.lst o)/\⇑o=j/\PL k o ((List.range j).map λx=>di b<|200*i+d+2*x);qy (c:=2) Z (λD hD=>⟨ag hD _,ae,U,.nil⟩) (λD j o k hD hj h=>?_) (λD o k hD h=>?_))⟩
  .let(a0,eD,C,J):=h;let b5:=(ke ⋯).mp hj;calc⟨_,U,_,U,_,_,U,U,_,U,_,U,_,_,U,U,bO,λt ht=>?_⟩;let u:=ag ht<|.tup [.int (b+(0+(i:Int)*200+(0+(d:Int))+(j:Int)*2)),.int (b+(0+(i:Int)*200+(0+(d:Int))+(j:Int)*2))];let e4:upd k t (.tup [.int (b+(0+(i:Int)*200+(0+(d:Int))+(j:Int)*2)),.int (b+(0+(i:Int)*200+(0+(d:Int))+(j:Int)*2))]) t=LH (.tup [.int (di b<|200*i+d+2*j).1,.int (di b<|200*i+d+2*j).2]):=by
    rw[ae];unfold di;rw[show b+((200*i+d+2*j:Nat):Int)=b+(0+(i:Int)*200+(0+(d:Int))+(j:Int)*2) by lia]
   let a5:=u _ _ eD;generalize upd k t (.tup [.int (b+(0+(i:Int)*200+(0+(d:Int))+(j:Int)*2)),.int (b+(0+(i:Int)*200+(0+(d:Int))+(j:Int)*2))])=H4 at u e4 a5⊢;let HF:j<200:=by split at b5 <;> lia
   refine dg.mk hj a5 (az ∅) ⟨(a0.trans u).upd hD,ae,by rw[dV,ie,C],?_⟩;let st:cm H4 (upd H4 D<|.lst<|o++[.ref t]):=bP a5;rw[nP,gd];exact((J.mono u.tups).mono st).snoc (st _ _ e4)
  .let(a0,eD,C,J):=h;rw[show(0:Int)+(i:Int)*200+(0+(d:Int))=(i:Int)*200+(d:Int) by lia,show(0:Int)+(i:Int)*200+200=(i:Int)*200+200 by lia]at J;exact⟨a0,D,o,hD,eD,J,U⟩
 rintro c3 k ⟨s3,D,o,nD,eD,J,rfl⟩;let hn:∀x:Nat,x<rsz ((i:Int)*200+(d:Int)) (if (i:Int)*200+200<(sz:Int) then(i:Int)*200+200 else(sz:Int)) 2↔(200*i+d+2*x<sz/\200*i+d+2*x<200*i+200):=λx=>by
  rw[ke ⋯];split <;> lia
 generalize rsz ((i:Int)*200+(d:Int)) (if (i:Int)*200+200<(sz:Int) then(i:Int)*200+200 else(sz:Int)) 2=n at J hn;let C:=J.length;rw[bc,ja]at C;let Ee:n<=100:=zz λz=>by have:=(hn 100).mp z;lia
 let a2:=s2.trans s3;let a4:=s3 _ _ L;let b1:D≠l:=λz=>by rw[z,L]at nD;cases nD
 refine⟨_,U,D,_,U,.inl<|SqL.of eD,_,_,U,U,_,U,cM (λg=>?_)<|λg=>?_⟩
 .let g:=gH g;let b3:atI [V.int B,.int y] (0+(d:Int))=LH (.int (if d=0 then B else y)):=by
   rw[Int.zero_add];rcases(show d=0\/d=1 by lia)with rfl|rfl
   .exact aM U
   .exact aM U
  refine⟨_,U,.inl ⟨U,_,SqL.of a4⟩,_,U,(by show 1<=HL;decide),λv G=>?_⟩;let u:=ag G<|.lst [.ref D];let e4:upd k v (.lst [.ref D]) v=LH (.lst [.ref D]):=ae;let b0:v≠l:=λz=>by rw[z,a4]at G;cases G
  let b7:H v=none:=a2.free G;generalize upd k v (.lst [.ref D])=H4 at u e4⊢;calc⟨_,U,_,U,cl,_,_,_,U,U,SqL.of<|(a2.trans u) _ _ c1,b3,bO,λr hr=>?_⟩;let s5:=ag hr<|.tup [.ref v,.int (if d=0 then B else y)];let e5:upd H4 r (.tup [.ref v,.int (if d=0 then B else y)]) r=LH (.tup [.ref v,.int (if d=0 then B else y)]):=ae;generalize upd H4 r (.tup [.ref v,.int (if d=0 then B else y)])=H5 at s5 e5⊢;let a1:=(s3.trans u).trans s5;let a7:=a1 _ _ L;let c4:⇑m=R.length:=I.1;let fG:eQ (Fr H l) H5 r ([(List.range n).map λx=>di b (200*i+d+2*x)],if d=0 then B else y):=⟨v,[.ref D],e5,⟨b7,b0⟩,s5 _ _ e4,aI.snoc aI.nil ⟨⟨s2.free nD,b1⟩,o,s5 _ _<|u _ _ eD,(J.mono u.tups).mono s5.tups⟩⟩;refine⟨l,_,_,U,U,a7,az ∅,(s2.trans a1).upd hl,_,_,_,_,ae,RL.updN (aI.snoc (RL.same I a1) fG) Fr.out a7,?_,by rw[dV,ie];lia,U⟩;refine(X.snoc (S:=λa=>a<sz/\200*i<=a/\a<200*i+200/\a%2=d) (sp:=(List.range n).map λx=>di b<|200*i+d+2*x) (d:=d) (λz=>?_) (by rw[bc,ja];exact Ee) (λp hp=>?_) (λa ha=>?_) (λa ha=>⟨λz=>∅,ha.2.2.2⟩)).congr λa=>⟨λh=>∅,λh=>∅⟩
  .let:=LU List.length z;rw[bc,ja]at this;let:n=0:=this;lia
  .let(x,hx,rfl):=dy.mp hp;let:=(hn x).mp<|iu.mp hx;exact⟨200*i+d+2*x,∅,U,∅⟩
  .refine dy.mpr ⟨(a-200*i-d) / 2,iu.mpr<|(hn _).mpr ∅,?_⟩;rw[show 200*i+d+2*((a-200*i-d) / 2)=a by lia]
 .let g:=iZ g;let c8:n=0:=∅
  calc⟨a2,m,R,_,_,a4,RL.same I s3,X.congr<|λa=>⟨λh=>∅,λh=>?_⟩,∅,U⟩;rcases h with h|h
  .exact .inl h
  .refine .inr ⟨h.1,h.2.1,h.2.2.1,?_⟩;refine Decidable.byContradiction λz=>?_
   let:=(hn<|(a-200*i-d) / 2).mpr ∅;lia
theorem FR(F:Fun K "_law_due_word" "_law_due_word" Y48 f fd) (bl:Bl K mg Y)  : aD P w K mg base CX0 1 f fd ["size","says","way","more","thin"] (d8 K Y):=by
 refine F.okA Z48 λv A n s H x Q E y h=>?_
 let(sz,a,c,b,thin,rfl,q):=h
 refine⟨_,(aC (aS (aH jK (pv 0) ao<|aF _)
  (ai<|au aL)
  aE)
  (aC (aS (PW.pt<|fB (ck<|pv 3)<|fB (aH lU (pv 2) aL<|aF _)<|fi<|cB<|ck<|pv 4)
  (ai<|au aL)
  aE)
  (ar (aS (PW.pt<|fB (aH jK (pv 1) ao<|aF _)<|fi<|cB<|ck<|pv 4)
  (ai<|au aL)
  aE)
  (ai<|au aL)))),?_⟩
 show(let o:TS:=_;let p:TS:=bp _ o;let r:TS:=bX _ p;bX _ r _ _ _);intro _ _ _;refine⟨λd l=>l=H/\¬ 300<sz/\d=[LH (.int (sz:Int)),LH<|.int (a:Int),LH<|.str c,LH<|.bl b,LH (.bl thin)],⟨_,U,_,_,U,U,_,U,cM (λg=>?_)<|λg=>?_⟩,?_⟩
 .let:=gH g;unfold ze at q;rw[LO ∅]at q;exact q
 .let:=iZ g;exact⟨U,∅,U⟩
 rintro m k ⟨e,u,rfl⟩;rw[e];clear e k;unfold ze at q;rw[LN u]at q;refine⟨λd l=>l=H/\¬ (b && decide (c≠s!"first") && !thin)=LJ/\d=[LH (.int (sz:Int)),LH<|.int (a:Int),LH<|.str c,LH<|.bl b,LH (.bl thin)],⟨_,U,_,U,?_⟩,?_⟩
 .cases b with
  |false=>exact bK (bK ⟨U,by simp,U⟩)
  |true =>
   refine df ⟨_,U,U,_,U,cM (λg=>?_)<|λg=>?_⟩
   .let i:c≠s!"first" := λz=>by rw[z,LQ U]at g;cases g
    calc⟨_,U,_,U,?_⟩;cases thin with
    |false =>
     rw[LO (by rw[LQ i];rfl)]at q;exact df q
    |true=>exact bK ⟨U,by simp,U⟩
   .let i:c=s!"first" := by
     by_cases h:c=s!"first"
     .exact h
     .exact LP (by rw[LR (λz=>h<|V.str.inj z)];rfl) g
    exact bK ⟨U,by rw[i];simp,U⟩
 rintro m k ⟨e,t,rfl⟩;rw[e];clear e k;rw[LN t]at q;refine⟨_,U,_,_,U,U,_,U,cM (λj=>?_)<|λj=>?_⟩
 .let:=gH j;calc⟨_,U,_,U,?_⟩;cases thin with
  |false =>
   rw[LO (by rw[LQ (show 200<a by lia)];rfl)]at q;exact df q
  |true =>
   rw[LN (by simp)]at q;exact bK q
 .let:=iZ j;rw[LN (by rw[LR (show ¬ 200<a by lia)];simp)]at q;calc bK q
theorem FT(F:Fun K "_law_parts" "_law_parts" Y49 f fd) (bl:Bl K mg Y)  : aD P w K mg base CX0 1 f fd ["head","turn","size","codes"] (gu K Y):=by
 refine F.okA Z49 λa8 A T s H vs Q E J h=>?_
 let(b,a,sz,cl,o,t,rfl,n,y,q):=h
 refine⟨_,(aC (aJ (i:=4) Z49.nd U (Or.inl U)<|aG cK (aG fZ (pv 1) ao)<|pv 2)
  (aC (aJ (i:=5) Z49.nd U (Or.inl U)<|aG cK (aG fZ (pv 0) ao) ao)
  (aC (aJ (i:=6) Z49.nd U (Or.inl U)<|bJ de U bl.list_ PyProof.Rows.boot_list<|aa (pv 3) af)
  (aC (aJ (i:=7) Z49.nd U (Or.inl U)<|aW aY (pv 3) (aG fC ao<|aG cK (pv 4) ao)<|λ_ _=>U)
  (aC (aS (aH jK (pv 5) ao<|aF _)
  (ar (lR (aW aY (pv 3) ao<|λ_ _=>U)<|pA (pv 6) ao set_list)
  (ai<|aJ (i:=7) Z49.nd U (Or.inl U)<|aW aY (pv 3) ao<|λ_ _=>U))
  aE)
  (aC (aS (aH cP (pv 5) ao<|aF _)
  (ai<|aJ (i:=4) Z49.nd U (Or.inl U)<|aG fC (pv 4)<|aG cK (pv 4) ao)
  aE)
  (ai<|au<|ba<|aa (pv 5)<|aa (pv 6)<|aa (pv 4)<|aa (pv 7)<|aa (aW aY (bj<|aa (pv 2)<|aa (pv 2)<|aa ao<|aa (aG fZ (aG dZ (pv 2) ao) ao) af) (pv 5)<|λ_ _=>U) af))))))),?_⟩
 dsimp only[bA,Cx.nox,Cx.wish];show(let r6:TS:=_;let r5:TS:=bX _ r6;let r4:TS:=bX _ r5;let r3:TS:=bX _ r4;let r2:TS:=bX _ r3;let r1:TS:=bX _ r2;bX _ r1 _ _ _);intro _ _ _ _ _ _;let a5:=D0 (a / 6) (show(sz:Int)≠0 by lia);let a4:=D3 (a / 6) (show(0:Int)<(sz:Int) by lia);let(p,hp):∃p:Nat,a / 6%(sz:Int)=(p:Int):=⟨(a / 6%(sz:Int)).toNat,∅⟩;let a7:=D0 (b / 2793) (show(4:Int)≠0 by decide);let a6:=D3 (b / 2793) (show(0:Int)<4 by decide);let(m,hm):∃m:Nat,b / 2793%4=(m:Int):=⟨(b / 2793%4).toNat,∅⟩;refine(let k:St->Hp->Prop:=λc e=>e=H/\c=[LH (.int b),LH<|.int a,LH<|.int (sz:Int),LH<|.ref cl,LH<|.int (p:Int),LI,LI,LI];⟨k,⟨_,U,_,_,U,U,⟨⋯,⋯⟩,_,U,_,_,U,U,(by show(0:Int)<(sz:Int);lia),U,?_⟩,?_⟩)
 .rw[←hp];rfl
 rintro C v ⟨B,rfl⟩;rw[B];clear B v;refine(let k:St->Hp->Prop:=λc e=>e=H/\c=[LH (.int b),LH<|.int a,LH<|.int (sz:Int),LH<|.ref cl,LH<|.int (p:Int),LH<|.int (m:Int),LI,LI];⟨k,⟨_,U,_,_,U,U,⟨⋯,⋯⟩,_,_,U,U,(by show(0:Int)<4;decide),U,?_⟩,?_⟩)
 .rw[←hm];rfl
 rintro C v ⟨B,rfl⟩;rw[B];clear B v;calc(let k:St->Hp->Prop:=λc e=>ak H e/\∃d:HA,H d=LI/\e d=LH (.lst [.int o,.int t])/\c=[LH (.int b),LH<|.int a,LH<|.int (sz:Int),LH<|.ref cl,LH<|.int (p:Int),LH<|.int (m:Int),LH<|.ref d,LI];⟨k,⟨_,U,cl,_,U,.inl<|SqL.of n,λd D=>⟨ag D _,d,D,ae,U⟩⟩,?_⟩);rintro C v ⟨I,d,L,G,rfl⟩;refine(let k:St->Hp->Prop:=λc e=>e=v/\c=[LH (.int b),LH<|.int a,LH<|.int (sz:Int),LH<|.ref cl,LH<|.int (p:Int),LH<|.int (m:Int),LH<|.ref d,LH (.int (if p%2=0 then t else o))];⟨k,?_,?_⟩)
 .refine⟨_,U,_,U,_,_,U,U,(by show(0:Int)<2;decide),_,_,U,U,cl,_,_,_,U,U,SqL.of<|I _ _ n,?_,U,U⟩;by_cases h:p%2=0
  .rw[LO h,show(1:Int)-(p:Int)%2=((1:Nat):Int) by lia];exact aM U
  .rw[LN h,show(1:Int)-(p:Int)%2=((0:Nat):Int) by lia];exact aM U
 rintro a2 H2 ⟨Z,rfl⟩;rw[Z];clear Z H2;refine(let k:St->Hp->Prop:=λc e=>ak H e/\∃x:Int,e d=LH (.lst [.int o,.int (if m<=1 then t else o)])/\x=(if m<=1 then(if p%2=0 then t else o)else t)/\c=[LH (.int b),LH<|.int a,LH<|.int (sz:Int),LH<|.ref cl,LH<|.int (p:Int),LH<|.int (m:Int),LH<|.ref d,LH (.int x)];⟨k,⟨_,U,_,_,U,U,_,U,cM (λg=>?_)<|λg=>?_⟩,?_⟩)
 .let g:=gH g;refine⟨_,U,cl,_,_,_,U,U,SqL.of<|I _ _ n,U,_,U,d,_,_,_,U,U,G,pY (j:=1) (by show 1<2;decide),?_⟩;let s2:ak H (upd v d<|.lst<|[V.int o,.int t].set 1 (.int o)):=I.upd L;refine⟨_,U,cl,_,_,_,U,U,SqL.of<|s2 _ _ n,U,s2,t,?_,by rw[LN ∅],U⟩;rw[ae,LN ∅];rfl
 .let g:=iZ g;exact⟨I,_,by rw[G,LO ∅],by rw[LO (show m<=1 by lia)],U⟩
 rintro a1 H3 ⟨s3,x,S,R,rfl⟩;refine(let k:St->Hp->Prop:=λc e=>e=H3/\∃u:Nat,u<sz/\u%2=(if m=3 then 0 else p%2)/\(m≠3->u=p)/\c=[LH (.int b),LH<|.int a,LH<|.int (sz:Int),LH<|.ref cl,LH<|.int (u:Int),LH<|.int (m:Int),LH<|.ref d,LH (.int x)];⟨k,⟨_,U,U,_,U,cM (λg=>?_)<|λg=>?_⟩,?_⟩)
 .let g:m=3:=by have:=V.int.inj<|LS g;lia
  refine⟨_,U,_,U,_,_,U,U,(by show(0:Int)<2;decide),_,_,U,U,U,p-p%2,∅,by rw[LO g];lia,(λz=>LP g z),?_⟩;rw[show((p-p%2:Nat):Int)=(p:Int)-(p:Int)%2 by lia];rfl
 .let g:m≠3:=λz=>g<|LQ (by rw[z];rfl)
  exact⟨U,p,∅,by rw[LN g],(λ_=>U),U⟩
 rintro a0 H4 ⟨X,u,N,O,M,rfl⟩;rw[X];clear X H4;refine⟨_,U,_,U,_,U,_,U,_,U,_,U,_,U,_,_,U,U,_,_,U,U,⟨⋯,⋯⟩,(by show 4<=HL;decide),λl hl=>⟨_,U,l,_,_,_,U,U,SqL.of ae,D8 (sz:=sz) (m:=m) ∅,?_⟩⟩;refine⟨(by show 5<=HL;decide),λr J=>?_⟩;let W:=ag hl<|.lst [V.int (sz:Int),.int (sz:Int),.int 1,.int (((sz:Int)+1) / 2)];let a3:=J;refine q r d m u _ o _ x _ ((s3.trans W).trans<|ag J _) ae (ag J _ _ _<|W _ _ S) ⟨∅,N,U,U,?_,λh=>by rw[O,LO h],U⟩;rw[R];by_cases y:m<=1
 .rw[LO y,LO y,M ∅]
 .rw[LN y,LN y]
theorem FU(F:Fun K "_law_codes" "_law_codes" Y47 f fd) (bl:Bl K mg Y)  : aD P w K mg base CX0 1 f fd ["turn"] (gv K Y):=by
 refine F.okA Z47 λv A g s H x Q E y h=>?_
 let(c,rfl,q):=h
 refine⟨_,(aC (aJ (i:=1) Z47.nd U (Or.inl U)<|bj<|aa (aG fC (aG cK (pv 0)<|aG xq ao<|aG lT ao ao)<|aG lT ao ao)<|aa (aG cK (aG fZ (pv 0) ao)<|aG lT ao ao) af)
  (ar (lR (aG dZ (aW aY (pv 1) ao<|λ_ _=>U)<|bJ kv U bl.int_ PyProof.Rows.boot_int<|aa (cI cP (aW aY (pv 1) ao<|λ_ _=>U) (aW aY (pv 1) ao<|λ_ _=>U)<|aF _) af)<|pA (pv 1) ao set_list)
  (ai<|au<|pv 1))),?_⟩
 dsimp only[bA,Cx.nox,Cx.wish];show(let o:TS:=_;let p:TS:=bp _ o;bX _ p _ _ _);intro _ _;refine(let t:St->Hp->Prop:=λe m=>ak H m/\∃(l:HA)(b a:Int),H l=LI/\m l=LH (.lst [.int b,.int a])/\e=[LH (.int c),LH (.ref l)];⟨t,?_,?_⟩)
 .exact⟨_,U,_,_,U,U,⟨⋯,⋯,⋯⟩,_,_,U,U,(.inl ⟨⋯,⋯⟩),_,_,U,U,(by show(0:Int)<2*10^59;decide),_,_,U,U,⟨⋯,⋯,⋯⟩,_,_,U,U,_,U,_,_,U,U,⟨⋯,⋯⟩,_,_,U,U,⟨⋯,⋯,⋯⟩,_,_,U,U,(by show(0:Int)<10^59;decide),bO,λl k=>⟨ag k _,l,_,_,k,ae,U⟩⟩
 rintro u B ⟨n,l,b,a,r,d,rfl⟩;calc⟨_,U,l,_,_,_,U,U,SqL.of d,U,_,U,l,_,_,_,U,U,SqL.of d,U,_,U,l,_,_,_,U,U,SqL.of d,U,U,.inr ⟨_,U,?_⟩⟩;refine⟨_,_,U,U,_,U,l,_,_,_,U,U,d,pY (j:=1) (by show 1<2;decide),?_⟩;calc⟨_,U,q l b (a+if decide (V.int b=V.int a)=LJ then 1 else 0) _ (n.upd r) ae ?_⟩;by_cases h:b=a
 .rw[LO (LQ (by rw[h]))];lia
 .rw[LN (λz=>h<|V.int.inj<|LS z)];lia
theorem O_0(F:Fun K "__init__" "Domain.__init__" Y0 f fd) (bl:Bl K mg Y)  : aD P w K mg base CX0 1 f fd ["self","low","high"] (bM K Y):=by
 refine F.okA Z0 λe A b s H g Q E i h=>?_
 let(x,a,lo,hi,rfl,d,q):=h
 refine⟨_,(ar (dc (pv 0) (pv 1) U)
  (ai<|dc (pv 0) (pv 2) U)),?_⟩
 dsimp only[bA,Cx.nox,Cx.wish];show(let c:TS:=_;bp _ c _ _ _);intro _;refine⟨_,U,_,U,x,_,a,_,U,d,bl.k_Numbers,bl.na_Numbers_low,(by show 0<1000;decide),_,U,_,U,x,_,a,_,U,ae,bl.k_Numbers,bl.na_Numbers_high,(by show 1<1000;decide),?_⟩;show Q .non (upd (upd H x<|.ins Y.m a [("low",.int lo)]) x<|.ins Y.m a<|bD "high" (.int hi) [("low",.int lo)]);rw[put2];calc q
theorem FV(F:Fun K "__init__" "Way.__init__" Y17 f fd) (bl:Bl K mg Y)  : aD P w K mg base CX0 1 f fd ["self","called"] (cc K Y):=by
 refine F.okA Z17 λd A a s H e Q E g h=>?_
 let(x,c,z,rfl,b,q):=h;calc⟨_,(ai<|dc (pv 0) (pv 1) U),?_⟩;calc⟨_,U,_,U,x,_,c,_,U,b,bl.k_First,bl.na_First_called,(by show 0<1000;decide),q⟩
theorem FW(F:Fun K "__init__" "Way.__init__" Y21 f fd) (bl:Bl K mg Y)  : aD P w K mg base CX0 1 f fd ["self","called"] (cn K Y):=by
 refine F.okA Z21 λd A a s H e Q E g h=>?_
 let(x,c,z,rfl,b,q):=h;calc⟨_,(ai<|dc (pv 0) (pv 1) U),?_⟩;calc⟨_,U,_,U,x,_,c,_,U,b,bl.k_Only,bl.na_Only_called,(by show 0<1000;decide),q⟩
theorem FX(F:Fun K "__init__" "Way.__init__" Y19 f fd) (bl:Bl K mg Y)  : aD P w K mg base CX0 1 f fd ["self","called"] (cq K Y):=by
 refine F.okA Z19 λd A a s H e Q E g h=>?_
 let(x,c,z,rfl,b,q):=h;calc⟨_,(ai<|dc (pv 0) (pv 1) U),?_⟩;calc⟨_,U,_,U,x,_,c,_,U,b,bl.k_Like,bl.na_Like_called,(by show 0<1000;decide),q⟩
theorem FY(F:Fun K "__init__" "Way.__init__" Y20 f fd) (bl:Bl K mg Y)  : aD P w K mg base CX0 1 f fd ["self","called"] (cE K Y):=by
 refine F.okA Z20 λd A a s H e Q E g h=>?_
 let(x,c,z,rfl,b,q):=h;calc⟨_,(ai<|dc (pv 0) (pv 1) U),?_⟩;calc⟨_,U,_,U,x,_,c,_,U,b,bl.k_Low,bl.na_Low_called,(by show 0<1000;decide),q⟩
theorem FZ(F:Fun K "__init__" "Way.__init__" Y18 f fd) (bl:Bl K mg Y)  : aD P w K mg base CX0 1 f fd ["self","called"] (cw K Y):=by
 refine F.okA Z18 λd A a s H e Q E g h=>?_
 let(x,c,z,rfl,b,q):=h;calc⟨_,(ai<|dc (pv 0) (pv 1) U),?_⟩;calc⟨_,U,_,U,x,_,c,_,U,b,bl.k_High,bl.na_High_called,(by show 0<1000;decide),q⟩
theorem F4(F:Fun K "__init__" "Way.__init__" Y22 f fd) (bl:Bl K mg Y)  : aD P w K mg base CX0 1 f fd ["self","called"] (cF K Y):=by
 refine F.okA Z22 λd A a s H e Q E g h=>?_
 let(x,c,z,rfl,b,q):=h;calc⟨_,(ai<|dc (pv 0) (pv 1) U),?_⟩;calc⟨_,U,_,U,x,_,c,_,U,b,bl.k_Sum,bl.na_Sum_called,(by show 0<1000;decide),q⟩
theorem O_4(F:Fun K "chosen" "First.chosen" Y4 f fd) (bl:Bl K mg Y)  : aD P w K mg base CX0 1 f fd ["self","codes","outcome"] (J1 K Y):=by
 refine F.ok Z4 (λi H Q E h=>?_)<|λr A d s H i Q E u h=>?_
 .let(x,c,o,n,e,b,rfl,(p,z,j),l,a,g,m,q):=h;rfl
 let(x,c,o,n,e,b,rfl,(p,z,j),l,a,g,m,q):=h;calc⟨_,(ai<|au<|ba<|aa aL<|aa (aW aY (pv 1) ao<|λ_ _=>U) af),?_⟩;calc⟨_,U,c,_,_,_,U,U,g,at0 n e,bO,λt k=>q t _ (ag k _)<|.inl ae⟩
theorem F5(F:Fun K "chosen" "Only.chosen" Y13 f fd) (bl:Bl K mg Y)  : aD P w K mg base CX0 1 f fd ["self","codes","outcome"] (J9 K Y):=by
 refine F.ok Z13 (λl H Q E h=>?_)<|λB A k s H l Q E C h=>?_
 .let(x,c,o,n,a,b,rfl,(y,z,m),r,j,d,u,q):=h;rfl
 let(x,c,o,n,a,b,rfl,(y,z,m),r,j,d,u,q):=h;calc⟨_,(ai<|au<|qh (aH cP (ay aK U bl.len_ LG<|aa (pv 1) af) ao<|aF _) (ba<|aa aL<|aa (aW aY (pv 1) ao<|λ_ _=>U) af)<|cj (v:=.ref Y.q) U bl.CLASH_ U),?_⟩;calc⟨_,U,c,_,U,.inl<|d,U,_,U,?_⟩;refine cM (λg=>?_)<|λg=>?_
 .let e:wf 1 b.1 b.2 (n :: a)=say n:=by
   let i:=gH g;simp at i;show rj _=_;unfold rj;rw[LO (by rw[gb];lia)];rfl
  rw[e]at q;exact⟨_,U,c,_,_,_,U,U,d,at0 n a,bO,λt p=>q t _ (ag p _)<|.inl ae⟩
 .let e:wf 1 b.1 b.2 (n :: a)=clash:=by
   let i:=iZ g;simp at i;show rj _=_;unfold rj;rw[LN (by rw[gb];lia)]
  rw[e]at q;calc q _ _ (ak.refl _)<|.inr bl.q_CLASH
theorem O_8(F:Fun K "chosen" "Like.chosen" Y8 f fd) (bl:Bl K mg Y)  : aD P w K mg base CX0 1 f fd ["self","codes","outcome"] (J5 K Y):=by
 refine F.ok Z8 (λu H Q E h=>?_)<|λJ A m s H u Q E L h=>?_
 .let(x,c,o,n,a,b,rfl,(I,z,y),C,k,i,D,q):=h;rfl
 let(x,c,o,n,a,b,rfl,(I,z,y),C,k,i,D,q):=h;calc⟨_,(ai<|au<|qh (aH cP (ay n5 U bl.len_ LG<|aa (bJ (n4 U) U bl.set_ PyProof.Rows.boot_set<|aa (pv 1) af) af) ao<|aF _) (ba<|aa aL<|aa (aW aY (pv 1) ao<|λ_ _=>U) af)<|cj (v:=.ref Y.q) U bl.CLASH_ U),?_⟩;refine⟨_,U,c,_,U,i,(by rw[gb];lia),λl G=>?_⟩;refine⟨l,_,U,ae,(by rw[gb];lia),U,_,U,?_⟩;let d:ak H (upd H l<|zO P w l (n :: a)):=ag G _;refine cM (λg=>?_)<|λg=>?_
 .let r:V.int _=V.int _:=gH g;let j:cntK (n :: a) ⇑(n :: a)=1:=by injection r with r;lia
  let p:=oU.mp j;let e:wf 2 b.1 b.2 (n :: a)=say n:=by
   show rh _=_;unfold rh;rw[LO (kL.mp p),wB p]
  rw[e]at q;exact⟨_,U,c,_,_,_,U,U,d.seq i,at0 n a,bO,λt B=>q t _ (d.trans<|ag B _)<|.inl ae⟩
 .let j:¬ cntK (n :: a) ⇑(n :: a)=1:=λz=>(iZ g) (by rw[z];rfl)
  let e:wf 2 b.1 b.2 (n :: a)=clash:=by
   show rh _=_;unfold rh;rw[LN λz=>j (oU.mpr<|kL.mpr z)]
  rw[e]at q;calc q _ _ d<|.inr bl.q_CLASH
theorem F6(F:Fun K "chosen" "Low.chosen" Y10 f fd) (bl:Bl K mg Y)  : aD P w K mg base CX0 1 f fd ["self","codes","outcome"] (J7 K Y):=by
 refine F.ok Z10 (λg H Q E h=>?_)<|λy A d s H g Q E B h=>?_
 .let(x,c,o,n,i,b,rfl,(v,z,j),l,a,e,p,q):=h;rfl
 let(x,c,o,n,i,b,rfl,(v,z,j),l,a,e,p,q):=h;calc⟨_,(ai<|au<|ba<|aa aL<|aa (ay (i4 U) U bl.min_ PyProof.Rows.boot_min<|aa (pv 1) af) af),?_⟩;calc⟨_,U,c,_,U,e,A6 _,λm u r=>⟨bO,λt k=>q t _ (ag k _)<|.inl ?_⟩⟩;rw[ae,yB u r];rfl
theorem O_6(F:Fun K "chosen" "High.chosen" Y6 f fd) (bl:Bl K mg Y)  : aD P w K mg base CX0 1 f fd ["self","codes","outcome"] (J3 K Y):=by
 refine F.ok Z6 (λg H Q E h=>?_)<|λy A d s H g Q E B h=>?_
 .let(x,c,o,n,i,b,rfl,(v,z,j),l,a,e,p,q):=h;rfl
 let(x,c,o,n,i,b,rfl,(v,z,j),l,a,e,p,q):=h;calc⟨_,(ai<|au<|ba<|aa aL<|aa (ay (i5 U) U bl.max_ PyProof.Rows.boot_max<|aa (pv 1) af) af),?_⟩;calc⟨_,U,c,_,U,e,A6 _,λm u r=>⟨bO,λt k=>q t _ (ag k _)<|.inl ?_⟩⟩;rw[ae,yC u r];rfl
theorem F7(F:Fun K "chosen" "Sum.chosen" Y15 f fd) (bl:Bl K mg Y)  : aD P w K mg base CX0 1 f fd ["self","codes","outcome"] (J11 K Y):=by
 refine F.ok Z15 (λr H Q E h=>?_)<|λG A l s H r Q E I h=>?_
 .let(x,c,o,n,a,b,rfl,(D,z,u),(C,p,B,fs,j,d,g,_),k,m,y,q):=h;rfl
 let(x,c,o,n,a,b,rfl,(D,z,u),(C,p,B,fs,j,d,g,_),k,m,y,q):=h;calc⟨_,(ai<|au<|ba<|aa aL<|aa (ay (vF U) U bl.max_ PyProof.Rows.boot_max<|aa (aV (pv 2) U)<|aa (ay (oy U) U bl.min_ PyProof.Rows.boot_min<|aa (aV (pv 2) U)<|aa (ay (i0 U) U bl.sum_ PyProof.Rows.boot_sum<|aa (pv 1) af) af) af) af),?_⟩;let i:Cls K C/\NoAttr K C s!"low"/\NoAttr K C s!"high":=by
  rcases p with rfl|rfl
  .exact⟨bl.k_Numbers,bl.na_Numbers_low,bl.na_Numbers_high⟩
  .exact⟨bl.k_Words,bl.na_Words_low,bl.na_Words_high⟩
 calc⟨_,U,o,_,_,_,_,U,j,i.1,i.2.1,d,_,U,o,_,_,_,_,U,j,i.1,i.2.2,g,_,U,c,_,U,m,_,_,U,_,_,U,?_⟩;calc⟨bO,λt v=>q t _ (ag v _)<|.inl ?_⟩;rw[ae];let e:near b.1 b.2 (n :: a).sum=if (if (n :: a).sum<b.2 then(n :: a).sum else b.2)>b.1 then(if (n :: a).sum<b.2 then(n :: a).sum else b.2)else b.1:=by
  unfold near;generalize (n :: a).sum=t;split <;> split <;> split <;> first|rfl|lia|(split <;> lia)
 show _=LH (HO.tup<|tp<|say<|near b.1 b.2 (n :: a).sum);rw[e];rfl
theorem F8(F:Fun K "cut_columns" "cut_columns" Y34 f fd) (bl:Bl K mg Y)(rW:Callee P w K mg base 1 "stretches" ["low","high","marks"] (gq K Y)):aD P w K mg base CX0 2 f fd ["bounds","marks"] (dk K Y):=by
 refine F.okA Z34 λc2 A b3 s H vs Q E hr h=>?_
 let(a,b,ys,ps,as,R,rfl,ha,hP,hb,hM,hok,q):=h;refine⟨_,(ai<|au<|dS (tS U bl.zip_<|aa (pv 0)<|aa (pv 1) af) (eH (N:=["bound","cuts"]) (k:=2) U U (~~~0) (~~~0)<|~~~0) U (λ_ _ _ _=>(jO (K:=K) (n:=2) U U<|ax (aw (i:=0) (show(["bound","cuts"]:L0 Str).Nodup by decide+kernel) U (Or.inl U) (Or.inr U)) (ax (aw (i:=1) (show(["bound","cuts"]:L0 Str).Nodup by decide+kernel) U (Or.inl U) (Or.inr U)) bq))) (λ_ _ _ _=>bY) (λ_ _ _ _=>(aN rW hr U<|aa (aW (jM (K:=K) U) (pv 0) ao<|λ_ _=>U)<|aa (aW (jM (K:=K) U) (pv 0) ao<|λ_ _=>U)<|aa (pv 1) af))),?_⟩;let(b5,b4,a1):=hok;let b6:=⇑hP;let c1:=hM.1
 refine⟨_,U,_,U,a,b,U,⟨_,SqL.of ha⟩,⟨_,SqL.of hb⟩,wg (xs:=ys) (ys:=as.map V.ref) (λD i C B=>ak H B/\B D=LH (.lst C)/\∃d:L0 (L0 Int),⇑d=i/\(∀(j:Nat)(p:Int×Int)(v l:L0 Int),ps[j]?=LH p->R[j]?=LH v->d[j]?=LH l->l.Pairwise (· < ·)/\(∀c,c∈l↔(c∈v/\p.1<c/\c<=p.2))/\⇑l<=400)/\aI C (List.zipWith (λp l=>bU p.1 p.2 l) (ps.take i) d) (λr c=>r≠D/\∃g,B r=LH (.lst g)/\PL B g c))
  (λD O=>⟨ag O _,ae,[],U,(λj p v l _ _ e=>by simp at e),aI.nil⟩) (λD i C B O _ h=>⟨SqL.of<|h.1 _ _ ha,SqL.of<|h.1 _ _ hb⟩) (λD i x y C B T O ex ey h hT g a5=>?_) (λD C B O h=>?_)⟩
 .let(sm,eD,d,o,J,M):=h;let(p,t,ep,rfl,ht):=hP.get ex;let(r,rfl,er):=yE ey;let hi:i<⇑as:=(Ik.mp er).1;let(v,em):∃v,R[i]?=LH v:=⟨_,Ij ∅⟩;let(r',W,hr):=hM.2 i v em;rw[er]at W;cases W;let s2:=sm.trans<|ag hT<|.tup [.ref t,.ref r];let eT:upd B T (.tup [.ref t,.ref r]) T=LH (.tup [.ref t,.ref r]):=ae;let Z:=ag hT<|.tup [.ref t,.ref r];let L:=Z _ _ eD;generalize upd B T (.tup [.ref t,.ref r])=H2 at s2 eT L Z⊢;let(t0,t1,rfl):∃t0 t1,g=[t0,t1]:=by
   match g,a5 with
   | [t0,t1],_=>exact⟨t0,t1,U⟩
  calc⟨T,_,U,SqT.of eT,U,_,_,U,_,_,U,U,⟨[LH (.ref t),LH (.ref r)],U,U⟩,?_⟩;let b7:=a1 v<|Il em;calc⟨_,U,t,_,_,_,U,U,SqT.of<|s2 _ _ ht,U,_,U,t,_,_,_,U,U,SqT.of<|s2 _ _ ht,U,_,U,r,v,v,p.1,p.2,U,SqL.of<|s2 _ _ hr,∅,∅,λm hm _ _=>hm,λr2 H3 l a0 s3 S b0 a7 a6 fF a9=>?_⟩;let X:=s3 _ _ L;let c0:C.length=i:=by rw[M.1,mv,iR];lia
  let AH:i<min ⇑ys ⇑(as.map V.ref):=by rw[bc];lia
  let a2:r2≠D:=λz=>by rw[z,L]at S;cases S
  refine dg.mk AH X (az ∅) ⟨(s2.trans s3).upd O,ae,d++[l],by rw[dV,o];rfl,λj p' a3 b1 G I u=>?_,?_⟩
  .by_cases hj:j<⇑d
   .rw[iQ hj]at u;exact J j p' a3 b1 G I u
   .let a8:j=⇑d:=by
     have:=(Ik.mp u).1;simp at this;lia
    subst a8;simp at u;subst u;rw[o]at G I;rw[ep]at G;cases G;rw[em]at I;cases I;exact⟨a6,fF,a9⟩
  .rw[take_snoc ep,List.zipWith_append (by rw[iR];lia)];let a4:aI (C++[.ref r2]) (List.zipWith (λp l=>bU p.1 p.2 l) (ps.take i) d++[bU p.1 p.2 l]) (λr c=>r≠D/\∃g,H3 r=LH (.lst g)/\PL H3 g c) :=
    aI.snoc (aI.mono M λx c k=>⟨k.1,let ⟨g,e1,e2⟩:=k.2;⟨g,s3 _ _<|Z _ _ e1,PL.mono e2 (Z.trans s3).tups⟩⟩) ⟨a2,a0,b0,a7⟩
   let st:cm H3 (upd H3 D<|.lst<|C++[.ref r2]):=bP X;exact aI.mono a4 λx c k=>⟨k.1,let ⟨g,e1,e2⟩:=k.2;⟨g,(av k.1).trans e1,PL.mono e2 st⟩⟩
 .let(sm,eD,d,o,J,M):=h;let e:min ⇑ys ⇑(as.map V.ref)=⇑ps:=by rw[bc];lia
  rw[e]at o;rw[e,hV]at M;calc q D C B d sm eD o J<|aI.mono M λx c k=>k.2
theorem F9(F:Fun K "is_word" "is_word" Y41 f fd) (bl:Bl K mg Y)(g:Callee P w K mg base 1 "all_among" ["text","signs"] (gs K Y)):aD P w K mg base CX0 2 f fd ["text"] (jj K Y):=by
 refine F.okA Z41 λk A d s H l Q E j h=>?_
 let(z,rfl,i,q):=h;calc⟨_,(ai<|au<|gG (lV gB gB ao (ay pD U bl.len_ LG<|aa (pv 0) af)<|qz U bl.MOST_SIGNS_)<|gG (cI lU (pv 0) aL<|aF _)<|kn<|aN g j U<|aa (pv 0)<|aa (qz U bl.SMALL_LETTERS_) af),?_⟩;calc⟨_,U,_,U,big i,_,_,U,U,_,U,?_⟩;refine cM (λc=>?_)<|λc=>?_
 .refine⟨_,_,U,U,_,U,?_⟩;refine cM (λb=>?_)<|λb=>?_
  .refine⟨_,U,U,_,U,?_⟩;refine cM (λa=>?_)<|λa=>?_
   .refine⟨_,U,z,lets,U,?_⟩;let e:isw z=qA z lets:=by unfold isw;rw[c,b,a];rfl
    rw[e]at q;exact q
   .let e:isw z=false:=by unfold isw;rw[DA.mpr a,Bool.false_and,Bool.and_false,Bool.and_false]
    rw[e]at q;exact q
  .let e:isw z=false:=by unfold isw;rw[DA.mpr b,Bool.false_and,Bool.and_false]
   rw[e]at q;exact q
 .let e:isw z=false:=by unfold isw;rw[DA.mpr c,Bool.false_and]
  rw[e]at q;calc⟨_,U,bK q⟩
theorem Ga(F:Fun K "fits" "fits" Y36 f fd) (bl:Bl K mg Y)(AI:Callee P w K mg base 1 "holds" ["spans","number"] (m5 K Y)):aD P w K mg base CX0 2 f fd ["table","k","codes"] (p6 K Y):=by
 refine F.okA Z36 λa1 A G s H vs Q E hr h=>?_
 let(t,X,c,dx,fs,xs,a0,k,b,g,rfl,ht,hf,hl,hR,ek,J,W,q):=h
 refine⟨_,(ar (aJ (i:=3) Z36.nd U (Or.inl U)<|aW dC (aW aY (aV (pv 0) U) (pv 1)<|λ_ _=>U) ao<|λ_ _=>U)
  (ar (bT IV.never U (tS U bl.zip_<|aa (pv 3)<|aa (pv 2) af) (cZ U<|ax (aw (i:=4) Z36.nd U<|Or.inl U)<|ax (aw (i:=5) Z36.nd U<|Or.inl U) bq)
  (ai (aS (cB<|ck<|aN AI hr U<|aa (pv 4)<|aa (pv 5) af)
  (ai<|au fL)
  aE)))
  (ai<|au fL))),?_⟩
 dsimp only[bA,Cx.nox,Cx.wish];show(let Z:TS:=_;let r1:TS:=bp _ Z;bp _ r1 _ _ _);intro _ _;let(r,er,S,cv,e1,_,R,m):=hR.2 k b ek;calc⟨_,U,t,_,_,_,_,U,ht,bl.k_Table,bl.na_Table_rows,hf,_,U,X,_,_,_,U,U,SqL.of hl,aM er,r,_,_,_,U,U,SqT.of e1,U,?_⟩;refine⟨_,U,_,U,S,c,U,⟨_,SqL.of R⟩,⟨_,J⟩,(let I_:Nat->St->Hp->Prop:=λi o a=>ak H a/\(∀j,j<i->inP (b.1.getD j []) (g.getD j 0)=LJ)/\∃B z:Option V,o=[LH (.ref t),LH<|.int k,LH<|.ref c,LH<|.ref S,B,z];uX (xs:=cv) (ys:=g.map V.int) I_ ⟨ak.refl _,(λj h=>LP h<|zl j),_,_,U⟩ (λi o a h=>⟨SqL.of<|h.1 _ _ R,h.1.seq J⟩) (λi x y o a T ex ey h hT=>?_) (λo a h=>?_))⟩
 .let(p,v,B,z,rfl):=h;let s2:=p.trans<|ag hT<|.tup [x,y];let O:upd a T (.tup [x,y]) T=LH (.tup [x,y]):=ae;generalize upd a T (.tup [x,y])=H2 at s2 O⊢;let(l,u,rfl,ep,C):=aI.get m ex;let(_,ys,el,hp):=C.same s2;let(n,rfl,N):=of_map ey;calc⟨T,_,U,SqT.of O,U,_,_,U,_,_,U,U,?_⟩;calc⟨_,U,_,U,l,ys,u,n,U,SqL.of el,hp,_,U,?_⟩;let M:b.1.getD i []=u:=by rw[ik,ep];rfl
  let L:g.getD i 0=n:=by rw[ik,N];rfl
  cases hin:inP u n with
  |true =>
   calc bK ⟨s2,λj I=>?_,_,_,U⟩;by_cases D:j<i
   .exact v j D
   .let:j=i:=∅
    subst this;rw[M,L];exact hin
  |false =>
   calc df ?_;let e:eR b.1 g=false:=by
    unfold eR;rw[List.all_eq_false];calc⟨i,iu.mpr (Ik.mp N).1,?_⟩;rw[M,L,hin];decide
   let d:=q H2 s2;rw[e]at d;exact d
 .let(p,v,B,z,rfl):=h;let e:eR b.1 g=true:=by
   unfold eR;rw[jr];intro j I;calc v j ?_;let h1:=m.1;rw[bc];let:=iu.mp I;lia
  let d:=q a p;rw[e]at d;calc d
theorem Gb(F:Fun K "column_marks" "column_marks" Y33 f fd) (bl:Bl K mg Y)(uv:Callee P w K mg base 1 "gathered" ["lists"] (gW K Y)) (AJ:Callee P w K mg base 1 "edges" ["spans","low","high"] (m6 K Y)):aD P w K mg base CX0 2 f fd ["table","column"] (d9 K Y):=by
 refine F.okA Z33 λb6 A a8 s H vs Q E hr h=>?_
 let(t,c,dv,bs,g,b,L,rfl,(rl,dx,dl,fs,xs,ht,f1,f2,a5,X,G,hR),eb,b3,fG,b0,hL,a0,q):=h
 refine⟨_,(ar (aJ (i:=2) Z33.nd U (Or.inr U)<|aW aY (aV (pv 0) U) (pv 1)<|λ_ _=>U)
  (ai<|au<|aN uv hr U<|aa (dS (aX<|aV (pv 0) U) (cU (N:=["cells","code","column","domain"]) (k:=2) (fr:=[1,2]) (cl:=[("domain",↥s+1+1),("column",↥s+1)]) U U (~~~0) (~~~0) U U (iv.mpr ⟨U,iv.mpr ⟨U,jo _⟩⟩) U) U (λ_ _ _ _=>(jO (K:=K) (n:=2) U U<|ax (aw (i:=0) (show(["cells","code","column","domain"]:L0 Str).Nodup by decide+kernel) U (Or.inl U) (Or.inr U)) (ax (aw (i:=1) (show(["cells","code","column","domain"]:L0 Str).Nodup by decide+kernel) U (Or.inl U) (Or.inr U)) bq))) (λ_ _ _ _=>bY) (λ_ _ _ _=>(aN AJ hr U<|aa (aW (qu (K:=K) U) (pv 0) (pv 2)<|λ_ _=>U)<|aa (jQ (K:=K) U (pv 3) U)<|aa (jQ (K:=K) U (pv 3) U) af))) af)),?_⟩
 dsimp only[bA,Cx.nox,Cx.wish];show(let r1:TS:=_;bp _ r1 _ _ _);intro _;let(da,a6,C,hC,b5,b4,ha,g1,g2,_):=X.2 c b eb;let M:Cls K C/\NoAttr K C s!"low"/\NoAttr K C s!"high":=by
  rcases hC with rfl|rfl
  .exact⟨bl.k_Numbers,bl.na_Numbers_low,bl.na_Numbers_high⟩
  .exact⟨bl.k_Words,bl.na_Words_low,bl.na_Words_high⟩
 let W:⇑xs=⇑g:=hR.1;calc⟨_,U,t,_,_,_,_,U,ht,bl.k_Table,bl.na_Table_domains,f2,_,U,dl,_,_,_,U,U,SqL.of a5,aM a6,?_⟩;refine⟨_,U,t,_,_,_,_,U,ht,bl.k_Table,bl.na_Table_rows,f1,rl,U,⟨_,SqL.of G⟩,(let I_:HA->Nat->L0 V->Hp->Prop:=λD i o d=>ak H d/\d D=LH (.lst o)/\∃m:L0 HA,o=m.map V.ref/\MLs (hide d D) m ((g.take i).map<|rmk c b);dF (xs:=xs) I_ (λD u=>⟨ag u _,ae,[],U,MLs.nil⟩) (λD i o d u _ h=>SqL.of<|h.1 _ _ G) (λD i y o d u e h ts T=>?_) (λD o d u h=>?_))⟩
 .let(a,O,m,rfl,p):=h;let(r,x,rfl,S,ce,cs,k1,_,k2,k3):=aI.get hR e;let hi:i<⇑xs:=(Ik.mp e).1;let B:=fG x<|Il S;let h6:=Au (c:=c)<|Il S;let(J,I,rfl):∃J I,ts=[J,I]:=by
   match ts,T with
   | [J,I],_=>exact⟨J,I,U⟩
  calc⟨r,_,U,SqT.of<|a _ _ k1,U,_,_,U,_,_,U,U,⟨[LH (.ref ce),LH (.int x.2)],U,U⟩,?_⟩;let(ol,a3,_,yo,a1,j):=k3.2 c _<|Ij B;let hA:x.1[c]=x.1.getD c []:=by rw[ik,Ij B];rfl
  rw[hA]at j;let a9:=⇑j;calc⟨_,U,_,U,ce,_,_,_,U,U,SqL.of<|a _ _ k2,aM a3,_,U,da,_,_,_,_,U,a _ _ ha,M.1,M.2.1,g1,_,U,da,_,_,_,_,U,a _ _ ha,M.1,M.2.2,g2,?_⟩;calc⟨ol,yo,_,b.1,b.2,U,SqL.of<|a _ _ a1,j.mono a.tups,∅,λr3 H3 es R v a2 a4=>?_⟩;let a7:=R _ _ O;let nD:r3≠D:=λz=>by rw[z,O]at v;cases v
  let Z:=p.1;rw[bc,iR]at Z;refine dg.mk hi a7 (az (by rw[bc];lia)) ⟨(a.trans R).upd u,ae,m++[r3],by rw[gd];rfl,?_⟩;rw[j4,take_snoc S,gd];exact MLs.snoc (p.same<|iH R)<|bC (by rw[a2,a4];rfl) nD
 .let(a,O,m,rfl,p):=h;rw[W,hV]at p;let b1:=rJ c b g;calc⟨D,m,_,L,U,O,p.same<|dP d D,∅,hL,λx hx=>a0 x<|vi.mp hx,λl cs H2 s2 nl el pw hm=>q l cs H2 (a.trans s2) (a.free nl) el pw λx=>(hm x).trans vi⟩
theorem Gd(F:Fun K "__init__" "Numbers.__init__" Y11 f fd) (bl:Bl K mg Y)(e:bZ CX0 P w K mg base 1 "Domain" "__init__" ["self","low","high"] (bM K Y)):aD P w K mg base CX0 2 f fd ["self","low","high"] (bH K Y):=by
 refine F.okA Z11 λj A a s H k Q E d h=>?_
 let(x,g,lo,hi,rfl,c,i,q):=h
 refine⟨_,(ar (aS (aH jK (pv 1) (pv 2)<|aF _)
  (ai dQ)
  aE)
  (ai<|bB<|gg e bW d U<|aa (pv 0)<|aa (pv 1)<|aa (pv 2) af)),?_⟩
 show(let b:TS:=_;bp _ b _ _ _);intro _;calc⟨_,U,_,U,_,_,U,U,_,U,lp ∅ ⟨_,U,_,U,_,U,x,g,lo,hi,U,c,q⟩⟩
theorem O_3(F:Fun K "__init__" "First.__init__" Y3 f fd) (bl:Bl K mg Y)(g:bZ CX0 P w K mg base 1 "Way" "__init__" ["self","called"] (cc K Y)):aD P w K mg base CX0 2 f fd ["self"] (J0 K Y):=by
 refine F.ok Z3 (λd H Q E h=>?_)<|λi A a s H d Q E e h=>?_
 .let(x,c,rfl,b,q):=h;rfl
 let(x,c,rfl,b,q):=h;calc⟨_,(ai<|bB<|gg g bW e U<|aa (pv 0)<|aa aL af),?_⟩;calc⟨_,U,x,c,_,U,b,q⟩
theorem Ge(F:Fun K "__init__" "Only.__init__" Y12 f fd) (bl:Bl K mg Y)(e:bZ CX0 P w K mg base 1 "Way" "__init__" ["self","called"] (cn K Y)):aD P w K mg base CX0 2 f fd ["self"] (J8 K Y):=by
 refine F.ok Z12 (λd H Q E h=>?_)<|λi A a s H d Q E g h=>?_
 .let(x,c,rfl,b,q):=h;rfl
 let(x,c,rfl,b,q):=h;calc⟨_,(ai<|bB<|gg e bW g U<|aa (pv 0)<|aa aL af),?_⟩;calc⟨_,U,x,c,_,U,b,q⟩
theorem O_7(F:Fun K "__init__" "Like.__init__" Y7 f fd) (bl:Bl K mg Y)(e:bZ CX0 P w K mg base 1 "Way" "__init__" ["self","called"] (cq K Y)):aD P w K mg base CX0 2 f fd ["self"] (J4 K Y):=by
 refine F.ok Z7 (λd H Q E h=>?_)<|λi A a s H d Q E g h=>?_
 .let(x,c,rfl,b,q):=h;rfl
 let(x,c,rfl,b,q):=h;calc⟨_,(ai<|bB<|gg e bW g U<|aa (pv 0)<|aa aL af),?_⟩;calc⟨_,U,x,c,_,U,b,q⟩
theorem O_9(F:Fun K "__init__" "Low.__init__" Y9 f fd) (bl:Bl K mg Y)(e:bZ CX0 P w K mg base 1 "Way" "__init__" ["self","called"] (cE K Y)):aD P w K mg base CX0 2 f fd ["self"] (J6 K Y):=by
 refine F.ok Z9 (λd H Q E h=>?_)<|λi A a s H d Q E g h=>?_
 .let(x,c,rfl,b,q):=h;rfl
 let(x,c,rfl,b,q):=h;calc⟨_,(ai<|bB<|gg e bW g U<|aa (pv 0)<|aa aL af),?_⟩;calc⟨_,U,x,c,_,U,b,q⟩
theorem O_5(F:Fun K "__init__" "High.__init__" Y5 f fd) (bl:Bl K mg Y)(e:bZ CX0 P w K mg base 1 "Way" "__init__" ["self","called"] (cw K Y)):aD P w K mg base CX0 2 f fd ["self"] (J2 K Y):=by
 refine F.ok Z5 (λd H Q E h=>?_)<|λi A a s H d Q E g h=>?_
 .let(x,c,rfl,b,q):=h;rfl
 let(x,c,rfl,b,q):=h;calc⟨_,(ai<|bB<|gg e bW g U<|aa (pv 0)<|aa aL af),?_⟩;calc⟨_,U,x,c,_,U,b,q⟩
theorem Gf(F:Fun K "__init__" "Sum.__init__" Y14 f fd) (bl:Bl K mg Y)(e:bZ CX0 P w K mg base 1 "Way" "__init__" ["self","called"] (cF K Y)):aD P w K mg base CX0 2 f fd ["self"] (J10 K Y):=by
 refine F.ok Z14 (λd H Q E h=>?_)<|λi A a s H d Q E g h=>?_
 .let(x,c,rfl,b,q):=h;rfl
 let(x,c,rfl,b,q):=h;calc⟨_,(ai<|bB<|gg e bW g U<|aa (pv 0)<|aa aL af),?_⟩;calc⟨_,U,x,c,_,U,b,q⟩
theorem O_1(F:Fun K "has_code" "Domain.has_code" Y1 f fd) (bl:Bl K mg Y)(e:Callee P w K mg base 1 "is_whole" ["value"] (fw K Y)):aD P w K mg base CX0 2 f fd ["self","value"] (bN K Y):=by
 refine F.okA Z1 λn A c s H o Q E g h=>?_
 let(a,b,i,rfl,(p,fs,d,j,k,_),m,l,q):=h;calc⟨_,(ai<|au<|gG (aN e g U<|aa (pv 1) af)<|kn<|lV gB gB (aV (pv 0) U) (pv 1)<|aV (pv 0) U),?_⟩;calc⟨_,U,i,U,_,U,df ?_⟩;calc⟨_,U,a,_,_,_,_,U,d,bl.k_Numbers,bl.na_Numbers_low,j,_,U,_,_,U,U,_,U,mF m ?_⟩;calc⟨_,U,a,_,_,_,_,U,d,bl.k_Numbers,bl.na_Numbers_high,k,_,_,U,U,?_⟩;show Q (.bl<|LL<|i<=b.2) H;rw[LQ l];calc q
theorem O_2(F:Fun K "has_code" "Domain.has_code" Y2 f fd) (bl:Bl K mg Y)(e:Callee P w K mg base 1 "is_whole" ["value"] (fw K Y)):aD P w K mg base CX0 2 f fd ["self","value"] (bV K Y):=by
 refine F.okA Z2 λn A c s H o Q E g h=>?_
 let(a,b,i,rfl,(p,fs,d,j,k,_),m,l,q):=h;calc⟨_,(ai<|au<|gG (aN e g U<|aa (pv 1) af)<|kn<|lV gB gB (aV (pv 0) U) (pv 1)<|aV (pv 0) U),?_⟩;calc⟨_,U,i,U,_,U,df ?_⟩;calc⟨_,U,a,_,_,_,_,U,d,bl.k_Words,bl.na_Words_low,j,_,U,_,_,U,U,_,U,mF m ?_⟩;calc⟨_,U,a,_,_,_,_,U,d,bl.k_Words,bl.na_Words_high,k,_,_,U,U,?_⟩;show Q (.bl<|LL<|i<=b.2) H;rw[LQ l];calc q
theorem Gg(F:Fun K "verdict" "Way.verdict" Y23 f fd) (bl:Bl K mg Y)(t:bh CX0 P w K mg base 1 Y.f "chosen" ["self","codes","outcome"] (J1 K Y)):aD P w K mg base CX0 2 f fd ["self","codes","outcome"] (J12 K Y):=by
 refine F.ok Z23 (λm H Q E h=>?_)<|λy A i s H m Q E u h=>?_
 .let(x,c,o,a,b,rfl,(l,z,e),j,d,g,k,q):=h;rfl
 let(x,c,o,a,b,rfl,(l,z,e),j,d,g,k,q):=h
 refine⟨_,(ar (aS (cB<|c9 (pv 1) (by intro _;rfl))
  (ai<|au<|cj (v:=.ref Y.p) U bl.NONE_ U)
  aE)
  (ai<|au<|oM t bW bl.k_First u (pv 0)<|aa (pv 1)<|aa (pv 2) af)),?_⟩
 dsimp only[bA,Cx.nox,Cx.wish];show(let r:TS:=_;bp _ r _ _ _);intro _;calc⟨_,U,!(a.map V.int).isEmpty,.inl ⟨_,g,U⟩,?_⟩;cases a with
 |nil=>exact df (q _ _ (ak.refl _)<|.inr bl.q_NONE)
 |cons n a=>calc bK ⟨_,U,x,_,_,U,e,U,_,U,_,U,x,c,o,n,a,b,U,⟨l,z,e⟩,j,d,g,zo k,q⟩
theorem Gh(F:Fun K "verdict" "Way.verdict" Y27 f fd) (bl:Bl K mg Y)(u:bh CX0 P w K mg base 1 Y.g "chosen" ["self","codes","outcome"] (J9 K Y)):aD P w K mg base CX0 2 f fd ["self","codes","outcome"] (J16 K Y):=by
 refine F.ok Z27 (λr H Q E h=>?_)<|λB A j s H r Q E y h=>?_
 .let(x,c,o,a,b,rfl,(m,z,e),k,d,i,l,q):=h;rfl
 let(x,c,o,a,b,rfl,(m,z,e),k,d,i,l,q):=h
 refine⟨_,(ar (aS (cB<|c9 (pv 1) (by intro _;rfl))
  (ai<|au<|cj (v:=.ref Y.p) U bl.NONE_ U)
  aE)
  (ai<|au<|oM u bW bl.k_Only y (pv 0)<|aa (pv 1)<|aa (pv 2) af)),?_⟩
 dsimp only[bA,Cx.nox,Cx.wish];show(let t:TS:=_;bp _ t _ _ _);intro _;calc⟨_,U,!(a.map V.int).isEmpty,.inl ⟨_,i,U⟩,?_⟩;cases a with
 |nil=>exact df (q _ _ (ak.refl _)<|.inr bl.q_NONE)
 |cons n a=>calc bK ⟨_,U,x,_,_,U,e,U,_,U,_,U,x,c,o,n,a,b,U,⟨m,z,e⟩,k,d,i,zo l,q⟩
theorem Gi(F:Fun K "verdict" "Way.verdict" Y25 f fd) (bl:Bl K mg Y)(t:bh CX0 P w K mg base 1 Y.h "chosen" ["self","codes","outcome"] (J5 K Y)):aD P w K mg base CX0 2 f fd ["self","codes","outcome"] (J14 K Y):=by
 refine F.ok Z25 (λm H Q E h=>?_)<|λy A i s H m Q E u h=>?_
 .let(x,c,o,a,b,rfl,(l,z,e),j,d,g,k,q):=h;rfl
 let(x,c,o,a,b,rfl,(l,z,e),j,d,g,k,q):=h
 refine⟨_,(ar (aS (cB<|c9 (pv 1) (by intro _;rfl))
  (ai<|au<|cj (v:=.ref Y.p) U bl.NONE_ U)
  aE)
  (ai<|au<|oM t bW bl.k_Like u (pv 0)<|aa (pv 1)<|aa (pv 2) af)),?_⟩
 dsimp only[bA,Cx.nox,Cx.wish];show(let r:TS:=_;bp _ r _ _ _);intro _;calc⟨_,U,!(a.map V.int).isEmpty,.inl ⟨_,g,U⟩,?_⟩;cases a with
 |nil=>exact df (q _ _ (ak.refl _)<|.inr bl.q_NONE)
 |cons n a=>calc bK ⟨_,U,x,_,_,U,e,U,_,U,_,U,x,c,o,n,a,b,U,⟨l,z,e⟩,j,d,g,zo k,q⟩
theorem Gj(F:Fun K "verdict" "Way.verdict" Y26 f fd) (bl:Bl K mg Y)(u:bh CX0 P w K mg base 1 Y.i "chosen" ["self","codes","outcome"] (J7 K Y)):aD P w K mg base CX0 2 f fd ["self","codes","outcome"] (J15 K Y):=by
 refine F.ok Z26 (λr H Q E h=>?_)<|λB A j s H r Q E y h=>?_
 .let(x,c,o,a,b,rfl,(m,z,e),k,d,g,l,q):=h;rfl
 let(x,c,o,a,b,rfl,(m,z,e),k,d,g,l,q):=h
 refine⟨_,(ar (aS (cB<|c9 (pv 1) (by intro _;rfl))
  (ai<|au<|cj (v:=.ref Y.p) U bl.NONE_ U)
  aE)
  (ai<|au<|oM u bW bl.k_Low y (pv 0)<|aa (pv 1)<|aa (pv 2) af)),?_⟩
 dsimp only[bA,Cx.nox,Cx.wish];show(let t:TS:=_;bp _ t _ _ _);intro _;calc⟨_,U,!(a.map V.int).isEmpty,.inl ⟨_,g,U⟩,?_⟩;cases a with
 |nil=>exact df (q _ _ (ak.refl _)<|.inr bl.q_NONE)
 |cons n a=>calc bK ⟨_,U,x,_,_,U,e,U,_,U,_,U,x,c,o,n,a,b,U,⟨m,z,e⟩,k,d,g,zo l,q⟩
theorem Gk(F:Fun K "verdict" "Way.verdict" Y24 f fd) (bl:Bl K mg Y)(u:bh CX0 P w K mg base 1 Y.j "chosen" ["self","codes","outcome"] (J3 K Y)):aD P w K mg base CX0 2 f fd ["self","codes","outcome"] (J13 K Y):=by
 refine F.ok Z24 (λr H Q E h=>?_)<|λB A i s H r Q E y h=>?_
 .let(x,c,o,a,b,rfl,(m,z,e),k,d,g,l,q):=h;rfl
 let(x,c,o,a,b,rfl,(m,z,e),k,d,g,l,q):=h
 refine⟨_,(ar (aS (cB<|c9 (pv 1) (by intro _;rfl))
  (ai<|au<|cj (v:=.ref Y.p) U bl.NONE_ U)
  aE)
  (ai<|au<|oM u bW bl.k_High y (pv 0)<|aa (pv 1)<|aa (pv 2) af)),?_⟩
 dsimp only[bA,Cx.nox,Cx.wish];show(let t:TS:=_;bp _ t _ _ _);intro _;calc⟨_,U,!(a.map V.int).isEmpty,.inl ⟨_,g,U⟩,?_⟩;cases a with
 |nil=>exact df (q _ _ (ak.refl _)<|.inr bl.q_NONE)
 |cons n a=>calc bK ⟨_,U,x,_,_,U,e,U,_,U,_,U,x,c,o,n,a,b,U,⟨m,z,e⟩,k,d,g,zo l,q⟩
theorem Gm(F:Fun K "verdict" "Way.verdict" Y28 f fd) (bl:Bl K mg Y)(u:bh CX0 P w K mg base 1 Y.k "chosen" ["self","codes","outcome"] (J11 K Y)):aD P w K mg base CX0 2 f fd ["self","codes","outcome"] (J17 K Y):=by
 refine F.ok Z28 (λr H Q E h=>?_)<|λB A i s H r Q E y h=>?_
 .let(x,c,o,a,b,rfl,(m,z,e),j,d,g,l,q):=h;rfl
 let(x,c,o,a,b,rfl,(m,z,e),j,d,g,l,q):=h
 refine⟨_,(ar (aS (cB<|c9 (pv 1) (by intro _;rfl))
  (ai<|au<|cj (v:=.ref Y.p) U bl.NONE_ U)
  aE)
  (ai<|au<|oM u bW bl.k_Sum y (pv 0)<|aa (pv 1)<|aa (pv 2) af)),?_⟩
 dsimp only[bA,Cx.nox,Cx.wish];show(let t:TS:=_;bp _ t _ _ _);intro _;calc⟨_,U,!(a.map V.int).isEmpty,.inl ⟨_,g,U⟩,?_⟩;cases a with
 |nil=>exact df (q _ _ (ak.refl _)<|.inr bl.q_NONE)
 |cons n a=>calc bK ⟨_,U,x,_,_,U,e,U,_,U,_,U,x,c,o,n,a,b,U,⟨m,z,e⟩,j,d,g,zo l,q⟩
theorem Gn(F:Fun K "grain" "grain" Y38 f fd) (bl:Bl K mg Y)(fJ:Callee P w K mg base 2 "cut_columns" ["bounds","marks"] (dk K Y)):aD P w K mg base CX0 3 f fd ["bounds","marks"] (m7 K Y):=by
 refine F.okA Z38 λa3 A G s H vs Q E o h=>?_
 let(a,b,O,ps,as,c,rfl,ha,hP,hb,hM,hok,q):=h
 refine⟨_,(ar (aJ (i:=2) Z38.nd U (Or.inl U) ao)
  (ar (bT IV.never U (aX<|aN fJ o U<|aa (pv 0)<|aa (pv 1) af) (aw (i:=3) Z38.nd U<|Or.inl U)
  (ai<|BE (i:=2) Z38.nd U (Or.inl U) (ay aK U bl.len_ LG<|aa (pv 3) af) Cq))
  (ai<|au<|pv 2))),?_⟩
 dsimp only[bA,Cx.nox,Cx.wish];show(let T:TS:=_;let W:TS:=bp _ T;bp _ W _ _ _);intro _ _;calc⟨_,U,_,U,a,b,O,ps,as,c,U,ha,hP,hb,hM,hok,λl xs N D S L a2 C I=>?_⟩;let(a1,a0,x):=hok;let z:⇑xs=⇑ps:=by rw[I.1,mv];lia
 refine⟨l,U,⟨_,SqL.of L⟩,(let I_:Nat->St->Hp->Prop:=λi d k=>k=N/\∃v:Option V,d=[LH (.ref a),LH<|.ref b,LH<|.int ((gr ps c i:Nat):Int),v];b8 (xs:=xs) I_ ⟨U,LI,U⟩ (λi d k _ h=>by rw[h.1];exact SqL.of L) (λi y d k e h=>?_) (λd k h=>?_))⟩
 .let(u,v,rfl):=h;rw[u];let(r,n,rfl,g,R,o,X):=aI.get I e;let hi:i<⇑xs:=(Ik.mp e).1;let(p,t):∃p,ps[i]?=LH p:=⟨_,Ij ∅⟩;let(j,M):∃j,D[i]?=LH j:=⟨_,Ij ∅⟩;let(m,J):∃m,c[i]?=LH m:=⟨_,Ij ∅⟩;let(B,fF,_):=C i p m j t J M;rw[rX,t,M]at g;let g:bU p.1 p.2 j=n:=Option.some.inj g;let Z:R.length=gl ps c i:=by
   rw[X.length,←g,fS,ui B fF];unfold gl;rw[ik,t,ik,J];rfl
  let b1:=Bm (ps:=ps) x i;let b2:(401:Nat)^i<=401^6:=Nat.pow_le_pow_right ⋯ ∅;let b3:(401:Nat)^3<2^64:=⋯
  calc⟨_,U,_,U,r,_,U,.inl<|SqL.of o,_,_,U,U,zA.ok<|.inl ⟨∅,∅⟩,U,LH<|.ref r,?_⟩;rw[Z];show[LH (V.ref a),LH<|.ref b,LH<|.int<|((gr ps c i:Nat):Int)*((gl ps c i:Nat):Int),LH (.ref r)]=_;rw[show gr ps c (i+1)=gr ps c i*gl ps c i from U,Int.natCast_mul]
 .let(u,v,rfl):=h;rw[u,z];calc⟨_,U,q N S⟩
theorem Gp(F:Fun K "refuse_names" "refuse_names" Y61 f fd) (bl:Bl K mg Y)(v:Callee P w K mg base 2 "is_word" ["text"] (jj K Y)):aD P w K mg base CX0 3 f fd ["names"] (eh K Y):=by
 refine F.okA Z61 λN A t s H O Q E D h=>?_
 let(p,a,rfl,n,C,G,R,q):=h
 refine⟨_,(aC (bT IV.never U (aX<|pv 0) (aw (i:=1) Z61.nd U<|Or.inl U)
  (ai (aS (cB<|ck<|aN v D U<|aa (pv 1) af)
  (ai dQ)
  aE)))
  (ai (aS (aH qi (ay nZ U bl.len_ LG<|aa (bJ (nW U) U bl.set_ PyProof.Rows.boot_set<|aa (pv 0) af) af) (ay aK U bl.len_ LG<|aa (pv 0) af)<|aF _)
  (ai dQ)
  aE))),?_⟩
 dsimp only[bA,Cx.nox,Cx.wish];show(let x:TS:=_;bX _ x _ _ _);intro _;let k:⇑(a.map V.str)=⇑a:=bc _;refine(let o:St->Hp->Prop:=λr b=>b=H/\∃c:Option V,r=[LH (.ref p),c];⟨o,?_,?_⟩)
 .refine⟨_,U,p,U,⟨_,n⟩,(let o:Nat->St->Hp->Prop:=λi m b=>b=H/\∃c:Option V,m=[LH (.ref p),c];b8 (xs:=a.map V.str) o ⟨U,_,U⟩ (λi m b _ h=>by rw[h.1];exact n) (λi y m b e h=>?_) (λm b h=>h))⟩;let(L,c,rfl):=h;rw[L];let(z,rfl,I):=rg e;let d:=C z<|Il I;let B:⇑z<=1000:=by
   let g:=d;unfold isw at g;simp only[Dx,decide_eq_true_eq]at g;lia
  calc⟨_,U,z,U,B,_,U,?_⟩;rw[d];exact bK ⟨U,_,U⟩
 rintro M S ⟨J,c,rfl⟩;rw[J];calc⟨_,U,p,a,U,n,∅,λl j=>⟨l,a,U,ae,∅,_,U,p,_,U,.inl<|(ag j _).seq n,_,_,U,U,_,U,?_⟩⟩;let u:=oN a ⇑a<|wX _;rw[hV]at u;calc lp (by rw[k,u.mpr G];lia) (q _<|ag j _)
theorem Gq(F:Fun K "refuse_row" "refuse_row" Y62 f fd) (bl:Bl K mg Y)(fe:bh CX0 P w K mg base 2 Y.m "has_code" ["self","value"] (bN K Y)) (fV:bh CX0 P w K mg base 2 Y.n "has_code" ["self","value"] (bV K Y)):aD P w K mg base CX0 3 f fd ["domains","outcome","cells","code"] (fH K Y):=by
 refine F.okA Z62 λa4 A a2 s H vs Q E hr h=>?_
 let(B,t,cl,dv,xs,bs,o,v,rfl,R,J,hO,S,L,ok,q):=h
 refine⟨_,(ar (aS (aH lU (ay aK U bl.len_ LG<|aa (pv 2) af) (ay aK U bl.len_ LG<|aa (pv 0) af)<|aF _)
  (ai dQ)
  aE)
  (aC (bT IV.never U (tS U bl.zip_<|aa (pv 0)<|aa (pv 2) af) (cZ U<|ax (aw (i:=4) Z62.nd U<|Or.inl U)<|ax (aw (i:=5) Z62.nd U<|Or.inl U) bq)
  (ai (bT IV.never U (aX<|pv 5) (cZ U<|ax (aw (i:=6) Z62.nd U<|Or.inl U)<|ax (aw (i:=7) Z62.nd U<|Or.inl U) bq)
  (ai (aS (PW.pt<|xh (aH qi (pv 6) (aV (pv 4) U)<|aF _)<|xg<|aH jK (pv 7) (aV (pv 4) U)<|aF _)
  (ai dQ)
  aE)))))
  (ai (aS (cB<|ck<|xW (qQ fe bl.k_Numbers<|qQ fV bl.k_Words DI) bW hr (pv 1)<|aa (pv 3) af)
  (ai dQ)
  aE)))),?_⟩
 dsimp only[bA,Cx.nox,Cx.wish];show(let r2:TS:=_;let r1:TS:=bX _ r2;bp _ r1 _ _ _);intro _ _;let a1:∀(C:HA),(C=Y.m\/C=Y.n)->Cls K C/\NoAttr K C s!"low"/\NoAttr K C s!"high":=λC h=>by
  rcases h with rfl|rfl
  .exact⟨bl.k_Numbers,bl.na_Numbers_low,bl.na_Numbers_high⟩
  .exact⟨bl.k_Words,bl.na_Words_low,bl.na_Words_high⟩
 let M:⇑xs=⇑dv:=by rw[L.1,ok.len,J.1]
 refine⟨_,U,cl,_,U,.inl<|SqL.of S,_,U,B,_,U,.inl<|R,U,_,U,xC (by rw[M]) ?_⟩;refine(let I:St->Hp->Prop:=λZ c=>ak H c/\∃G D k g:Option V,Z=[LH (.ref B),LH<|.ref t,LH<|.ref cl,LH<|.int v.2,G,D,k,g];⟨I,?_,?_⟩)
 .refine⟨_,U,_,U,B,cl,U,⟨_,R⟩,⟨_,SqL.of S⟩,(let I:Nat->St->Hp->Prop:=λi d c=>ak H c/\∃G D k g:Option V,d=[LH (.ref B),LH<|.ref t,LH<|.ref cl,LH<|.int v.2,G,D,k,g];uX (xs:=dv) (ys:=xs) I ⟨ak.refl _,_,_,_,_,U⟩ (λi d c h=>⟨h.1.seq R,SqL.of<|h.1 _ _ S⟩) (λi x y d c T ex ey h hT=>?_) (λd c h=>h))⟩;let(sm,G,D,k,g,rfl):=h;let s2:=sm.trans<|ag hT<|.tup [x,y];let eT:upd c T (.tup [x,y]) T=LH (.tup [x,y]):=ae;generalize upd c T (.tup [x,y])=H2 at s2 eT⊢;let(a,b,rfl,eb,hb):=J.get ex;let(l,ps,rfl,ep,hl):=aI.get L ey;let(C,u,X,fs,z,f1,f2,_):=hb.same s2;let(k1,k2,k3):=a1 C u;let(_,ys,el,hp):=hl.same s2;calc⟨T,_,U,SqT.of eT,U,_,_,U,_,_,U,U,?_⟩;refine⟨_,U,l,U,⟨_,SqL.of el⟩,(let I:Nat->St->Hp->Prop:=λj d c=>c=H2/\∃k g:Option V,d=[LH (.ref B),LH<|.ref t,LH<|.ref cl,LH<|.int v.2,LH<|.ref a,LH<|.ref l,k,g];b8 (xs:=ys) I ⟨U,_,_,U⟩ (λj d c _ h=>by rw[h.1];exact SqL.of el) (λj y d c e h=>?_) (λd c h=>?_))⟩
  .let(W,k,g,rfl):=h;rw[W];let(p,r,e1,rfl,a0):=hp.get e;let(i1,i2):=ok.inn i ps b ep eb p<|Il e1;calc⟨r,_,U,SqT.of a0,U,_,_,U,_,_,U,U,?_⟩;calc⟨_,U,_,U,a,_,_,_,_,U,z,k1,k2,f1,_,_,U,U,_,U,lp ∅ ?_⟩;exact⟨_,U,_,U,a,_,_,_,_,U,z,k1,k3,f2,_,_,U,U,_,U,lp ∅ ⟨U,_,_,U⟩⟩
  .let(W,k,g,rfl):=h;rw[W];exact⟨s2,_,_,_,_,U⟩
 rintro a3 H3 ⟨N,G,D,k,g,rfl⟩;let(C,u,O):=hO.same N;let(X,fs,z,f1,f2,f3):=id O;rcases u with rfl|rfl
 .exact⟨_,U,t,_,X,fs,U,.head _,z,f3,_,U,t,o,v.2,U,O,ok.lo,ok.hi,_,U,bK<|q _ N⟩
 .exact⟨_,U,t,_,X,fs,U,.tail _<|.head _,z,f3,_,U,t,o,v.2,U,O,ok.lo,ok.hi,_,U,bK<|q _ N⟩
theorem Gr(F:Fun K "mask" "mask" Y57 f fd) (bl:Bl K mg Y)(CZ:Callee P w K mg base 2 "fits" ["table","k","codes"] (p6 K Y)):aD P w K mg base CX0 3 f fd ["table","codes"] (iN K Y):=by
 refine F.okA Z57 λa4 A z s H vs Q E S h=>?_
 let(t,c,a,wi,o,j,rfl,(G,ou,Z,fs,r,wy,J,M,a2,a3,m,O,a0,a1,R,gn),W,p,q):=h;calc⟨_,(ai<|au<|ay (i0 U) U bl.sum_ PyProof.Rows.boot_sum<|aa (fk (kq U bl.range_<|aa (ay aK U bl.len_ LG<|aa (aV (pv 0) U) af) af) (dD (N:=["k","table","codes"]) (fr:=[0,1]) (cl:=[("table",↥s+1),("codes",↥s+1+1)]) U U (~~~0) (~~~0) U (~~~0) U U U (iv.mpr ⟨U,iv.mpr ⟨U,jo _⟩⟩) U) U (λ_ _ _ _=>(jN<|ck<|aN CZ S U<|aa (pv 1)<|aa (pv 0)<|aa (pv 2) af))<|λ_ _ _ _=>(aG sM ao<|pv 0)) af),?_⟩;let l:⇑r=⇑a:=O.1
 refine⟨_,U,t,_,_,_,_,U,J,bl.k_Table,bl.na_Table_rows,M,G,_,U,.inl<|SqL.of m,_,U,(by show -(2^62)<=((⇑r:Nat):Int);lia),(by show((⇑r:Nat):Int)<2^62;lia),md (λD i zs k=>ak H k/\k D=LH (.lst zs)/\∃b:L0 Int,zs=b.map V.int/\b.sum=((msk (bG a j) i:Nat):Int)/\⇑b<=i)
  (λD u=>⟨ag u _,ae,[],U,U,wZ _⟩) (λD i zs k u hi h=>?_) (λD zs k u h=>?_)⟩
 .let(d,x,b,rfl,g,T):=h;let y:i<⇑a:=by first|lia|(rw[←l];lia)
  let(e,v):∃e,a[i]?=LH e:=⟨_,Ij y⟩;let L:a.getD i ([],0)=e:=getD_at v;refine⟨_,U,_,U,_,U,t,G,c,Z,fs,r,a,i,e,j,by rw[Int.zero_add],d _ _ J,M,d _ _ m,O.same d,v,d.seq W,p e<|Il v,λH3 C=>⟨_,U,?_⟩⟩;let B:=d.trans C;let n:=C _ _ x;cases hb:eR e.1 j with
  |true =>
   refine df ⟨_,U,_,_,U,U,⟨∅,∅,⋯⟩,dg.mk hi n (az (by rw[bc];lia)) ⟨B.upd u,ae,b++[1*2^(0+(i:Int)).toNat],by simp,?_,by simp;lia⟩⟩;let X:(0+(i:Int)).toNat=i:=∅
   rw[X,wh,g,fR,show bG a j i=LJ by unfold bG;rw[L];exact hb];simp;lia
  |false =>
   calc bK<|dR.mk (zs:=b.map V.int) hi ⟨B,n,b,U,?_,∅⟩;rw[g,fR,show bG a j i=LK by unfold bG;rw[L];exact hb];simp
 .let(d,x,b,rfl,g,T):=h;rw[DG]at g;calc⟨D,b,U,SqL.of x,?_⟩;let I:=q k d;rw[←l,←g]at I;calc I
theorem Gs(F:Fun K "table_marks" "table_marks" Y70 f fd) (bl:Bl K mg Y)(m9:Callee P w K mg base 2 "column_marks" ["table","column"] (d9 K Y)):aD P w K mg base CX0 3 f fd ["table"] (eV K Y):=by
 refine F.okA Z71 λa4 A a0 s H vs Q E hr h=>?_
 let(t,G,bs,o,L,rfl,u,hb,W,fG,M,hL,q):=h;calc⟨_,(ai<|au<|fk (kq U bl.range_<|aa (ay aK U bl.len_ LG<|aa (aV (pv 0) U) af) af) (dD (N:=["column","table"]) (fr:=[0]) (cl:=[("table",↥s+1)]) U U (~~~0) (~~~0) U (~~~0) U U U (iv.mpr ⟨U,jo _⟩) U) U (λ_ _ _ _=>bY)<|λ_ _ _ _=>(aN m9 hr U<|aa (pv 1)<|aa (pv 0) af)),?_⟩;let(rl,dx,dl,fs,xs,ht,f1,f2,X,O,a3,hR):=id u;let a1:G.length=⇑bs:=O.1;refine⟨_,U,t,_,_,_,_,U,ht,bl.k_Table,bl.na_Table_domains,f2,dl,_,U,.inl<|SqL.of X,_,U,(by show -(2^62)<=((G.length:Nat):Int);lia),(by show((G.length:Nat):Int)<2^62;lia),(let I_:HA->Nat->L0 V->Hp->Prop:=λD i v d=>ak H d/\d D=LH (.lst v)/\∃(m:L0 HA)(a:L0 (L0 Int)),v=m.map V.ref/\MLs (hide d D) m a/\⇑a=i/\∀(c:Nat)(b:Int×Int)(j:L0 Int),bs[c]?=LH b->a[c]?=LH j->j.Pairwise (· < ·)/\∀x,x∈j↔MkC o c b x;md I_ (λD n=>⟨ag n _,ae,[],[],U,MLs.nil,U,λc b j _ e=>by simp at e⟩) (λD i v d n hi h=>?_) (λD v d n h=>?_))⟩
 .let(y,C,m,a,rfl,B,p,g):=h;let r:i<⇑bs:=∅
  let(b,I):∃b,bs[i]?=LH b:=⟨_,Ij r⟩;let(T,S):=hL i b I;refine⟨_,U,_,U,t,i,G,bs,o,b,L i,by rw[Int.zero_add],u.same y,I,W,λw hw=>by rw[fG w hw];exact r,M i,T,S,λl cs H2 s2 nl el pw hm=>?_⟩;let Z:=s2 _ _ C;let nD:l≠D:=λz=>by rw[z,C]at nl;cases nl
  let a2:=B.1;refine dg.mk hi Z (az (by rw[bc];lia)) ⟨(y.trans s2).upd n,ae,m++[l],a++[cs],by rw[gd];rfl,?_,by rw[dV,ie,p],λc b' j J k=>?_⟩
  .rw[j4];exact MLs.snoc (B.same<|iH s2)<|bC el nD
  .by_cases hc:c<⇑a
   .rw[iQ hc]at k;exact g c b' j J k
   .rw[js ∅]at k;let h0:=(Ik.mp k).1;rw[ie]at h0;let R:c=i:=∅
    subst R;rw[I]at J;cases J;rw[show c-⇑a=0 by lia]at k;cases k;exact⟨pw,hm⟩
 .let(y,C,m,a,rfl,B,p,g):=h;calc q D m a d y n C (B.same<|dP d D) ∅ g
theorem Gu(F:Fun K "way_by" "way_by" Y75 f fd) (bl:Bl K mg Y)(k_First:bf CX0 P w K mg base 2 "First" Y.f ["self"] (J0 K Y)) (k_Only:bf CX0 P w K mg base 2 "Only" Y.g ["self"] (J8 K Y)) (k_Like:bf CX0 P w K mg base 2 "Like" Y.h ["self"] (J4 K Y)) (k_Low:bf CX0 P w K mg base 2 "Low" Y.i ["self"] (J6 K Y)) (k_High:bf CX0 P w K mg base 2 "High" Y.j ["self"] (J2 K Y)) (k_Sum:bf CX0 P w K mg base 2 "Sum" Y.k ["self"] (J10 K Y)):aD P w K mg base CX0 4 f fd ["name"] (iO K Y):=by
 refine F.okA Z77 λa3 A a2 s H vs Q E X h=>?_
 let(z,rfl,hz,q):=h
 refine⟨_,(ar (bT IV.never U (aX<|bj<|aa (kD k_First bW X U)<|aa (kD k_Only bW X U)<|aa (kD k_Like bW X U)<|aa (kD k_Low bW X U)<|aa (kD k_High bW X U)<|aa (kD k_Sum bW X U) af) (aw (i:=1) Z77.nd U<|Or.inl U)
  (ai (aS (aH cP (aV (pv 1) U) (pv 0)<|aF _)
  (ai<|au<|pv 1)
  aE)))
  (ai dQ)),?_⟩
 dsimp only[bA,Cx.nox,Cx.wish];show(let r1:TS:=_;bp _ r1 _ _ _);intro _;refine λt L c b d=>⟨t,L,U,ae,U,?_⟩
 let t0:ak H (upd (upd (upd H L<|.own t) t<|.ins Y.f L []) t<|.ins Y.f L [("called",.str s!"first")]):=((ag b _).upd c).upd c;let u:WyN Y.f (upd (upd (upd H L<|.own t) t<|.ins Y.f L []) t<|.ins Y.f L [("called",.str s!"first")]) t s!"first":=⟨L,ae⟩;generalize upd (upd (upd H L<|.own t) t<|.ins Y.f L []) t (.ins Y.f L [("called",.str s!"first")])=H0 at t0 u⊢;clear c b d;refine λr J c b d=>⟨r,J,U,ae,U,?_⟩
 let t1:ak H0 (upd (upd (upd H0 J<|.own r) r<|.ins Y.g J []) r<|.ins Y.g J [("called",.str s!"only")]):=((ag b _).upd c).upd c;let v:WyN Y.g (upd (upd (upd H0 J<|.own r) r<|.ins Y.g J []) r<|.ins Y.g J [("called",.str s!"only")]) r s!"only":=⟨J,ae⟩;generalize upd (upd (upd H0 J<|.own r) r<|.ins Y.g J []) r (.ins Y.g J [("called",.str s!"only")])=H1 at t1 v⊢;clear c b d;let u:=u.same t1;refine λp I c b d=>⟨p,I,U,ae,U,?_⟩
 let t2:ak H1 (upd (upd (upd H1 I<|.own p) p<|.ins Y.h I []) p<|.ins Y.h I [("called",.str s!"like")]):=((ag b _).upd c).upd c;let M:WyN Y.h (upd (upd (upd H1 I<|.own p) p<|.ins Y.h I []) p<|.ins Y.h I [("called",.str s!"like")]) p s!"like":=⟨I,ae⟩;generalize upd (upd (upd H1 I<|.own p) p<|.ins Y.h I []) p (.ins Y.h I [("called",.str s!"like")])=H2 at t2 M⊢;clear c b d;let u:=u.same t2;let v:=v.same t2;refine λw3 G c b d=>⟨w3,G,U,ae,U,?_⟩
 let Z:ak H2 (upd (upd (upd H2 G<|.own w3) w3<|.ins Y.i G []) w3<|.ins Y.i G [("called",.str s!"low")]):=((ag b _).upd c).upd c;let N:WyN Y.i (upd (upd (upd H2 G<|.own w3) w3<|.ins Y.i G []) w3<|.ins Y.i G [("called",.str s!"low")]) w3 s!"low":=⟨G,ae⟩;generalize upd (upd (upd H2 G<|.own w3) w3<|.ins Y.i G []) w3 (.ins Y.i G [("called",.str s!"low")])=H3 at Z N⊢;clear c b d;let u:=u.same Z;let v:=v.same Z;let M:=M.same Z;refine λo D c b d=>⟨o,D,U,ae,U,?_⟩
 let W:ak H3 (upd (upd (upd H3 D<|.own o) o<|.ins Y.j D []) o<|.ins Y.j D [("called",.str s!"high")]):=((ag b _).upd c).upd c;let T:WyN Y.j (upd (upd (upd H3 D<|.own o) o<|.ins Y.j D []) o<|.ins Y.j D [("called",.str s!"high")]) o s!"high":=⟨D,ae⟩;generalize upd (upd (upd H3 D<|.own o) o<|.ins Y.j D []) o (.ins Y.j D [("called",.str s!"high")])=H4 at W T⊢;clear c b d;let u:=u.same W;let v:=v.same W;let M:=M.same W;let N:=N.same W;refine λm B c b d=>⟨m,B,U,ae,U,?_⟩
 let R:ak H4 (upd (upd (upd H4 B<|.own m) m<|.ins Y.k B []) m<|.ins Y.k B [("called",.str s!"sum")]):=((ag b _).upd c).upd c;let y5:WyN Y.k (upd (upd (upd H4 B<|.own m) m<|.ins Y.k B []) m<|.ins Y.k B [("called",.str s!"sum")]) m s!"sum":=⟨B,ae⟩;generalize upd (upd (upd H4 B<|.own m) m<|.ins Y.k B []) m (.ins Y.k B [("called",.str s!"sum")])=H5 at R y5⊢;clear c b d;let u:=u.same R;let v:=v.same R;let M:=M.same R;let N:=N.same R;let T:=T.same R;let s5:ak H H5:=((((t0.trans t1).trans t2).trans Z).trans W).trans R;refine⟨(by show 6<=HL;decide),λl hl=>?_⟩;let O:ak H5 (upd H5 l<|.lst [V.ref t,.ref r,.ref p,.ref w3,.ref o,.ref m]):=ag hl _;let el:upd H5 l (.lst [V.ref t,.ref r,.ref p,.ref w3,.ref o,.ref m]) l=LH (.lst [V.ref t,.ref r,.ref p,.ref w3,.ref o,.ref m]):=ae;generalize upd H5 l (.lst [V.ref t,.ref r,.ref p,.ref w3,.ref o,.ref m])=H6 at O el⊢;let u:=u.same O;let v:=v.same O;let M:=M.same O;let N:=N.same O;let T:=T.same O;let y5:=y5.same O;let sA:=s5.trans O;let a0:∀(i:Nat)(x:V),[V.ref t,.ref r,.ref p,.ref w3,.ref o,.ref m][i]?=LH x->∃(a C:HA)(y:Str),x=.ref a/\(cl6 Y.f Y.g Y.h Y.i Y.j Y.k)[i]?=LH C/\six[i]?=LH y/\WyN C H6 a y/\Cls K C/\NoAttr K C s!"called":=λi x e=>by
  match i,e with
  |0,e=>cases e;exact⟨t,Y.f,_,U,U,U,u,bl.k_First,bl.na_First_called⟩
  |1,e=>cases e;exact⟨r,Y.g,_,U,U,U,v,bl.k_Only,bl.na_Only_called⟩
  |2,e=>cases e;exact⟨p,Y.h,_,U,U,U,M,bl.k_Like,bl.na_Like_called⟩
  |3,e=>cases e;exact⟨w3,Y.i,_,U,U,U,N,bl.k_Low,bl.na_Low_called⟩
  |4,e=>cases e;exact⟨o,Y.j,_,U,U,U,T,bl.k_High,bl.na_High_called⟩
  |5,e=>cases e;exact⟨m,Y.k,_,U,U,U,y5,bl.k_Sum,bl.na_Sum_called⟩
  |n+6,e=>simp at e
 refine⟨l,U,⟨_,SqL.of el⟩,(let I_:Nat->St->Hp->Prop:=λi σ H'=>(∃c1:Option V,σ=[LH (.str z),c1])/\H'=H6/\∀j:Nat,j<i->six[j]?≠LH z;b8 (xs:=[V.ref t,.ref r,.ref p,.ref w3,.ref o,.ref m]) I_ ⟨⟨_,U⟩,U,(λj h=>LP h<|zl j)⟩ (λi σ H' _ h=>by rw[h.2.1];exact SqL.of el) (λi x σ H' e h=>?_) (λσ H' h=>?_))⟩
 .let((c1,rfl),e0,S):=h;rw[e0];let(a,C,y,rfl,eC,ey,(dx,ha),hc,hn):=a0 i x e;calc⟨_,U,a,_,_,_,_,U,ha,hc,hn,U,_,U,U,_,U,?_⟩;refine cM (λg=>?_)<|λg=>?_
  .let g':V.str y=V.str z:=gH g;injection g' with g';subst g';exact⟨_,U,q i ey a C H6 sA eC ⟨dx,ha⟩⟩
  .refine⟨⟨_,U⟩,U,λj hj=>?_⟩;by_cases a1:j<i
   .exact S j a1
   .let:j=i:=∅
    subst this;rw[ey];intro q2;exact(iZ g) (by injection q2 with q2;rw[q2])
 .let((c1,rfl),e0,S):=h;rw[e0];let(j,hj,ej):=List.getElem_of_mem hz;calc LP (by rw[Ij hj,ej]) (S j hj)
theorem Gv(F:Fun K "refuse_way" "refuse_way" Y63 f fd) (bl:Bl K mg Y)(k:Callee P w K mg base 4 "way_by" ["name"] (iO K Y)):aD P w K mg base CX0 5 f fd ["way","outcome"] (fI K Y):=by
 refine F.okA Z63 λt A g s H u Q E p h=>?_
 let(z,y,rfl,l,d,q):=h
 refine⟨_,(ai (aS (PW.pt<|fB (aH cP (aV (aN k p U<|aa (pv 0) af) U) aL<|aF _)<|fi<|ck<|ay dH U bl.isinstance_ PyProof.Rows.boot_isinstance<|aa (pv 1)<|aa (cj (v:=.ref Y.n) U bl.Words_ U) af)
  (ai dQ)
  aE)),?_⟩
 calc⟨_,U,z,U,l,λi B x C I b a o=>?_⟩;let j:Cls K C/\NoAttr K C s!"called":=by
  match i,a with
  |0,a=>cases a;exact⟨bl.k_First,bl.na_First_called⟩
  |1,a=>cases a;exact⟨bl.k_Only,bl.na_Only_called⟩
  |2,a=>cases a;exact⟨bl.k_Like,bl.na_Like_called⟩
  |3,a=>cases a;exact⟨bl.k_Low,bl.na_Low_called⟩
  |4,a=>cases a;exact⟨bl.k_High,bl.na_High_called⟩
  |5,a=>cases a;exact⟨bl.k_Sum,bl.na_Sum_called⟩
  |n+6,a=>simp[cl6]at a
 let(G,m):=o;calc⟨x,_,_,_,_,U,m,j.1,j.2,U,U,_,U,?_⟩;by_cases c:z=s!"sum"
 .let(D,fs,r):=d c;exact mF (by rw[c]) ⟨_,U,_,_,_,_,LK,U,.ref _,bl.t_Numbers.ty<|b _ _ r,bl.f_nw,_,U,bK<|q _ b⟩
 .exact lp (λe=>by injection e with e;exact c e) (bK<|q _ b)
theorem Gw(F:Fun K "judged" "judged" Y42 f fd) (bl:Bl K mg Y)(iS:bh CX0 P w K mg base 4 Y.f "verdict" ["self","codes","outcome"] (J12 K Y)) (ju:bh CX0 P w K mg base 4 Y.g "verdict" ["self","codes","outcome"] (J16 K Y)) (jv:bh CX0 P w K mg base 4 Y.h "verdict" ["self","codes","outcome"] (J14 K Y)) (kf:bh CX0 P w K mg base 4 Y.i "verdict" ["self","codes","outcome"] (J15 K Y)) (jw:bh CX0 P w K mg base 4 Y.j "verdict" ["self","codes","outcome"] (J13 K Y)) (kg:bh CX0 P w K mg base 4 Y.k "verdict" ["self","codes","outcome"] (J17 K Y)) (nh:Callee P w K mg base 4 "way_by" ["name"] (iO K Y)):aD P w K mg base CX0 5 f fd ["table","rows"] (cX K Y):=by
 refine F.okA Z42 λa3 A a2 s H vs Q E hr h=>?_
 let(t,a,wi,o,m,rfl,(rl,ou,dx,fs,xs,wy,L,hf,Z,a0,u,hR,p,X,v,gn),q):=h
 refine⟨_,(ar (qY (i:=2) Z42.nd U (Or.inl U) (pL U bl.enumerate_<|aa (aV (pv 0) U) af) (cU (N:=["k","row","rows"]) (k:=2) (fr:=[1]) (cl:=[("rows",↥s+1)]) U U (~~~0) (~~~0) U U (iv.mpr ⟨U,jo _⟩) U) U (λ_ _ _ _=>(jO (K:=K) (n:=2) U U<|ax (aw (i:=0) (show(["k","row","rows"]:L0 Str).Nodup by decide+kernel) U (Or.inl U) (Or.inr U)) (ax (aw (i:=1) (show(["k","row","rows"]:L0 Str).Nodup by decide+kernel) U (Or.inl U) (Or.inr U)) bq))) (λ_ _ _ _=>(jN<|wj (K:=K) U<|aG sN (aG BL (pv 2)<|pv 0) ao)) (λ_ _ _ _=>(aW (jM (K:=K) U) (pv 1) ao<|λ_ _=>U)))
  (ai<|au<|xW (qQ iS bl.k_First<|qQ ju bl.k_Only<|qQ jv bl.k_Like<|qQ kf bl.k_Low<|qQ jw bl.k_High<|qQ kg bl.k_Sum DI) bW hr (aN nh hr U<|aa (aV (pv 0) U) af)<|aa (pv 2)<|aa (aV (pv 0) U) af)),?_⟩
 dsimp only[bA,Cx.nox,Cx.wish];show(let r1:TS:=_;bp _ r1 _ _ _);intro _;let O:⇑xs=⇑a:=hR.1
 refine⟨_,U,t,_,_,_,_,U,L,bl.k_Table,bl.na_Table_rows,hf,rl,U,⟨_,SqL.of u⟩,t9 (xs:=xs) (λD i zs c=>ak H c/\c D=LH (.lst zs)/\zs=(pkF a (cV m) i).map V.int)
  (λD l=>⟨ag l _,ae,U⟩) (λD i zs c l _ h=>SqL.of<|h.1 _ _ u) (λD i x zs c T l ex h hT ts S=>?_) (λD zs c l h=>?_)⟩
 .let(B,I,rfl):=h;let s2:=B.trans<|ag hT<|.tup [.int i,x];let eT:upd c T (.tup [.int i,x]) T=LH (.tup [.int i,x]):=ae;let d:=ag hT (.tup [.int i,x]) _ _ I;generalize upd c T (.tup [.int i,x])=H2 at s2 eT d⊢;let(r,w_,rfl,ew,ce,cv,g1,_,g2,g3):=aI.get (hR.same s2) ex;let hi:i<⇑xs:=(Ik.mp ex).1;let hg:a.getD i ([],0)=w_:=getD_at ew;let W:=ve a (cV m) i;let(z,y,rfl):∃z y,ts=[z,y]:=by
   match ts,S with
   | [z,y],_=>exact⟨z,y,U⟩
  calc⟨T,_,U,SqT.of eT,U,_,_,U,_,_,U,U,⟨[LH (.int i),LH (.ref r)],U,U⟩,?_⟩;calc⟨_,U,_,U,_,_,U,U,DH _,_,_,U,U,cV m i,U,?_⟩;let e:=mP a (cV m) i;rw[hg]at e;cases hb:cV m i with
  |true =>
   rw[hb]at e;refine df ⟨_,U,r,_,_,_,U,U,SqT.of g1,U,dg.mk hi d (az (by rw[bc];lia)) ⟨s2.upd l,ae,?_⟩⟩;rw[e,gd];rfl
  |false =>
   rw[hb]at e;calc bK<|dR.mk (zs:=(pkF a (cV m) i).map V.int) hi ⟨s2,d,?_⟩;rw[e];simp
 .let(B,I,rfl):=h;rw[O]at I;let R:wy∈six:=Il p;calc⟨_,U,t,_,_,_,_,U,B _ _ L,bl.k_Table,bl.na_Table_way,Z,wy,U,R,λG a1 x C H2 s2 b hw=>?_⟩;let ii:G=wi:=Ad a1 p;subst ii;let J:=B.trans s2;let(dw,hx):=hw;let W:=ve a (cV m) ⇑a;let M:(C,j3 K C Y.m Y.n G)∈[(Y.f,j3 K Y.f Y.m Y.n 0),(Y.g,j3 K Y.g Y.m Y.n 1),(Y.h,j3 K Y.h Y.m Y.n 2),(Y.i,j3 K Y.i Y.m Y.n 3),(Y.j,j3 K Y.j Y.m Y.n 4),(Y.k,j3 K Y.k Y.m Y.n 5)]:=by
   match G,b with
   |0,b=>cases b;exact .head _
   |1,b=>cases b;exact .tail _<|.head _
   |2,b=>cases b;exact .tail _<|.tail _<|.head _
   |3,b=>cases b;exact .tail _<|.tail _<|.tail _<|.head _
   |4,b=>cases b;exact .tail _<|.tail _<|.tail _<|.tail _<|.head _
   |5,b=>cases b;exact .tail _<|.tail _<|.tail _<|.tail _<|.tail _<|.head _
   |n+6,b=>simp[cl6]at b
  calc⟨x,(C,j3 K C Y.m Y.n G),dw,_,U,M,hx,U,_,U,_,U,t,_,_,_,_,U,J _ _ L,bl.k_Table,bl.na_Table_outcome,a0,x,D,ou,_,o,U,⟨dw,_,hx⟩,X.same J,v,SqL.of<|s2 _ _ I,∅,λr H3 s3 h3=>q r H3 (J.trans s3) h3⟩
theorem Gx(F:Fun K "verdict" "verdict" Y73 f fd) (bl:Bl K mg Y)(n:Callee P w K mg base 5 "judged" ["table","rows"] (cX K Y)) (l:Callee P w K mg base 5 "mask" ["table","codes"] (iN K Y)):aD P w K mg base CX0 6 f fd ["table","codes"] (jk K Y):=by
 refine F.okA Z74 λv A d s H x Q E g h=>?_
 let(t,c,a,e,o,p,rfl,i,m,b,q):=h;calc⟨_,(ai<|au<|aN n g U<|aa (pv 0)<|aa (aN l g U<|aa (pv 0)<|aa (pv 1) af) af),?_⟩;calc⟨_,U,_,U,_,U,t,c,a,e,o,p,U,i,m,b,λy s2=>?_⟩;calc⟨t,a,e,o,_,U,i.same s2,λr u k j=>q r u (s2.trans k) ?_⟩;rw[pS]at j;calc j.sq
theorem Gy(F:Fun K "leans_on" "leans_on" Y55 f fd) (bl:Bl K mg Y)(v:Callee P w K mg base 5 "judged" ["table","rows"] (cX K Y)):aD P w K mg base CX0 6 f fd ["table","tile","k"] (gZ K Y):=by
 refine F.okA Z55 λy A g s H B Q E n h=>?_
 let(t,j,D,l,k,m,d,i,o,rfl,u,a,e,C,q):=h
 refine⟨_,(ar (aJ (i:=3) Z55.nd U (Or.inl U)<|aG sM ao<|pv 2)
  (ar (aJ (i:=4) Z55.nd U (Or.inl U)<|aW dC (pv 1) ao<|λ_ _=>U)
  (ai<|au<|gG (cI jK (aG sN (pv 4)<|pv 3) ao<|aF _)<|kn<|cI (B7 n) (aN v n U<|aa (pv 0)<|aa (aG fC (pv 4)<|pv 3) af) (aW dC (pv 1) ao<|λ_ _=>U)<|aF _))),?_⟩
 dsimp only[bA,Cx.nox,Cx.wish];show(let l:TS:=_;let p:TS:=bp _ l;bp _ p _ _ _);intro _ _;calc⟨_,U,_,_,U,U,⟨∅,∅,⋯⟩,?_⟩;calc⟨_,U,j,_,_,_,U,U,a,U,?_⟩;refine⟨_,U,_,U,_,_,U,U,_,_,U,U,m.testBit k,by rw[←Ap m k],?_⟩;cases hb:m.testBit k with
 |false =>
  calc bK ?_;let z:=q H<|ak.refl _;rw[hb,Bool.false_and]at z;exact z
 |true =>
  calc df ⟨_,U,_,U,_,U,_,_,U,U,t,d,i,o,_,U,u,λr x c b=>?_⟩;rw[Aq hb]at b;calc⟨_,U,j,_,_,_,U,U,c.seqT a,U,Ao b.sq (c.seqT e) ?_⟩;let z:=q x c;rw[hb,Bool.true_and]at z;calc z
theorem Gz(F:Fun K "__init__" "Table.__init__" Y16 f fd) (bl:Bl K mg Y)(ni:Callee P w K mg base 5 "refuse_names" ["names"] (eh K Y)) (lH:br P w K mg base 5 "refuse_counts" ["names","rows"] (dM K Y)) (p8:Callee P w K mg base 5 "refuse_way" ["way","outcome"] (fI K Y)) (p9:Callee P w K mg base 5 "refuse_row" ["domains","outcome","cells","code"] (fH K Y)) (wN:Callee P w K mg base 5 "own_row" ["cells","code"] (ji K Y)):aD P w K mg base (CX1 P w) 6 f fd ["self","name","names","domains","outcome","way","rows"] (bg K Y):=by
 refine F.okEA Z16 λd2 A c4 s H vs Q E hr h=>?_
 let(x,g,na,dl,m,rl,c,B,l,C,rx,bs,o,a1,rfl,hx,S,hw,b5,h1,h4,b0,b1,a0,c0,b4,J,hR,qE,d1,hok,q):=h
 refine⟨_,(ar (bB<|aN ni hr U<|aa (aG pE (bj<|aa (pv 1) af)<|pv 2) af)
  (ar (bB<|gJ lH passE hr U<|aa (pv 2)<|aa (pv 6) af)
  (ar (bB<|aN p8 hr U<|aa (pv 5)<|aa (pv 4) af)
  (aC (bT (kC U U U) U (aX<|pv 6) (cZ U<|ax (aw (i:=7) Z16.nd U<|Or.inl U)<|ax (aw (i:=8) Z16.nd U<|Or.inl U) bq)
  (ai<|bB<|aN p9 hr U<|aa (pv 3)<|aa (pv 4)<|aa (pv 7)<|aa (pv 8) af))
  (ar (dc (pv 0) (pv 1) U)
  (ar (dc (pv 0) (bJ de U bl.list_ PyProof.Rows.boot_list<|aa (pv 2) af) U)
  (ar (dc (pv 0) (bJ de U bl.list_ PyProof.Rows.boot_list<|aa (pv 3) af) U)
  (ar (dc (pv 0) (pv 4) U)
  (ar (dc (pv 0) (pv 5) U)
  (ai<|dc (pv 0) (dS (aX<|pv 6) (eH (N:=["cells","code"]) (k:=2) U U (~~~0) (~~~0)<|~~~0) U (λ_ _ _ _=>(jO (K:=K) (n:=2) U U<|ax (aw (i:=0) (show(["cells","code"]:L0 Str).Nodup by decide+kernel) U (Or.inl U) (Or.inr U)) (ax (aw (i:=1) (show(["cells","code"]:L0 Str).Nodup by decide+kernel) U (Or.inl U) (Or.inr U)) bq))) (λ_ _ _ _=>bY) (λ_ _ _ _=>(aN wN hr U<|aa (pv 0)<|aa (pv 1) af))) U)))))))))),?_⟩
 dsimp only[bA,Cx.nox,Cx.wish];show(let r9:TS:=_;let r8:TS:=bp _ r9;let r7:TS:=bp _ r8;let r6:TS:=bp _ r7;let r5:TS:=bp _ r6;let r4:TS:=bp _ r5;let r3:TS:=bX _ r4;let r2:TS:=bp _ r3;let r1:TS:=bp _ r2;bp _ r1 _ _ _);intro _ _ _ _ _ _ _ _ _;let Z:⇑(l.map V.str)=⇑l:=bc _;refine⟨_,U,(by show 1<=HL;decide),λl1 b7=>?_⟩;let s1:=ag b7<|.lst [.str c];let e1:upd H l1 (.lst [.str c]) l1=LH (.lst [.str c]):=ae;generalize upd H l1 (.lst [.str c])=H1 at s1 e1⊢;refine⟨_,U,l1,na,_,_,U,U,e1,s1 _ _ S,(by rw[Z];show 1+⇑l<=HL;exact big ∅),λl2 b6=>?_⟩;let s2:=s1.trans<|ag b6<|.lst<|[V.str c]++l.map V.str;let e2:upd H1 l2 (.lst<|[V.str c]++l.map V.str) l2=LH (.lst<|(c :: l).map V.str):=ae;generalize upd H1 l2 (.lst<|[V.str c]++l.map V.str)=H2 at s2 e2⊢;refine⟨l2,c :: l,U,SqL.of e2,hw,b5,by rw[gb];lia,λH3 t3=>?_⟩;let s3:=s2.trans t3;refine⟨_,U,_,U,na,rl,_,_,U,SqL.of<|s3 _ _ S,SqL.of<|s3 _ _ J,by rw[Z];exact h1,by rw[Z];exact h4,(λh=>qE h H3 s3),λgn=>?_⟩;let q:=q gn;calc⟨_,U,_,U,B,m,U,b0,(λz=>let ⟨dx',fs',e'⟩:=b1 z;⟨dx',fs',s3 _ _ e'⟩),λH4 t4=>?_⟩;let s4:=s3.trans t4;refine(let I_:St->Hp->Prop:=λa6 v=>ak H v/\∃c7 c8:Option V,a6=[LH (.ref x),LH<|.str c,LH<|.ref na,LH<|.ref dl,LH<|.ref m,LH<|.str B,LH<|.ref rl,c7,c8];⟨I_,?_,?_⟩)
 .refine⟨_,U,rl,U,⟨_,SqL.of<|s4 _ _ J⟩,(let I_:Nat->St->Hp->Prop:=λi σ v=>ak H v/\∃c7 c8:Option V,σ=[LH (.ref x),LH<|.str c,LH<|.ref na,LH<|.ref dl,LH<|.ref m,LH<|.str B,LH<|.ref rl,c7,c8];b8 (xs:=rx) I_ ⟨s4,_,_,U⟩ (λi σ v _ h=>SqL.of<|h.1 _ _ J) (λi y σ v e h=>?_) (λσ v h=>h))⟩;let(u,c7,c8,rfl):=h;let(r,w_,rfl,ew,ce,cv,g1,_,g2,g3):=aI.get (hR.same u) e;calc⟨r,_,U,SqT.of g1,U,_,_,U,_,_,U,U,?_⟩;exact⟨_,U,_,U,_,U,_,U,dl,m,ce,C,cv,bs,o,w_,U,SqL.of<|u _ _ a0,aI.mono c0 λ_ _ p=>p.same u,b4.same u,g2,g3,hok w_<|Il ew,λH2 t2=>⟨u.trans t2,_,_,U⟩⟩
 rintro c5 G ⟨W,c7,c8,rfl⟩;let x5:=W _ _ hx;let a8:na≠x:=jI S hx (by intro z;cases z);let c2:dl≠x:=jI a0 hx (by intro z;cases z);let a7:rl≠x:=jI J hx (by intro z;cases z);let k5:∀b o,b≠x->H b=LH o->G b=LH o:=λb o _ e=>W b o e
 let R5:=RL.hide x5<|hR.same W;refine⟨_,U,_,U,x,_,g,_,U,x5,bl.k_Table,bl.na_Table_name,(by show 0<1000;decide),?_⟩;let k6:∀b o,b≠x->G b=LH o->upd G x (.ins Y.o g [(s!"name",.str c)]) b=LH o:=λb o t e=>(av t).trans e
 let x6:upd G x (.ins Y.o g [(s!"name",.str c)]) x=LH (.ins Y.o g [(s!"name",.str c)]):=ae;let g6:upd G x (.ins Y.o g<|bD s!"name" (.str c) [])=upd G x (.ins Y.o g [(s!"name",.str c)]):=rfl;rw[g6];clear g6;generalize upd G x (.ins Y.o g [(s!"name",.str c)])=H6 at k6 x6⊢;refine⟨_,U,na,_,U,.inl<|SqL.of<|k6 _ _ a8<|W _ _ S,λd T=>⟨_,U,x,_,g,_,U,d6 x6 T,bl.k_Table,bl.na_Table_names,(by show 1<1000;decide),?_⟩⟩;let g7:upd (upd H6 d<|.lst<|l.map V.str) x (.ins Y.o g<|bD s!"names" (V.ref d) [(s!"name",V.str c)])=upd (upd H6 d<|.lst<|l.map V.str) x (.ins Y.o g [(s!"name",V.str c),(s!"names",V.ref d)]):=by rw[pf1]
 rw[g7];clear g7;let k7:∀b o,b≠x->G b=LH o->upd (upd H6 d<|.lst<|l.map V.str) x (.ins Y.o g [(s!"name",V.str c),(s!"names",V.ref d)]) b=LH o:=λb o t e=>(av t).trans<|d6 (k6 b o t e) T
 let x7:upd (upd H6 d<|.lst<|l.map V.str) x (.ins Y.o g [(s!"name",V.str c),(s!"names",V.ref d)]) x=LH (.ins Y.o g [(s!"name",V.str c),(s!"names",V.ref d)]):=ae;let I:d≠x:=λz=>by rw[z,x6]at T;cases T
 let j7:upd (upd H6 d<|.lst<|l.map V.str) x (.ins Y.o g [(s!"name",V.str c),(s!"names",V.ref d)]) d=LH (.lst<|l.map V.str):=(av I).trans ae;generalize upd (upd H6 d<|.lst<|l.map V.str) x (.ins Y.o g [(s!"name",V.str c),(s!"names",V.ref d)])=H7 at k7 x7 j7⊢;refine⟨_,U,dl,_,U,.inl<|SqL.of<|k7 _ _ c2<|W _ _ a0,λj L=>⟨_,U,x,_,g,_,U,d6 x7 L,bl.k_Table,bl.na_Table_domains,(by show 2<1000;decide),?_⟩⟩;let g8:upd (upd H7 j<|.lst C) x (.ins Y.o g<|bD s!"domains" (V.ref j) [(s!"name",V.str c),(s!"names",V.ref d)])=upd (upd H7 j<|.lst C) x (.ins Y.o g [(s!"name",V.str c),(s!"names",V.ref d),(s!"domains",V.ref j)]):=by rw[pf2]
 rw[g8];clear g8;let k8:∀b o,b≠x->G b=LH o->upd (upd H7 j<|.lst C) x (.ins Y.o g [(s!"name",V.str c),(s!"names",V.ref d),(s!"domains",V.ref j)]) b=LH o:=λb o t e=>(av t).trans<|d6 (k7 b o t e) L
 let x8:upd (upd H7 j<|.lst C) x (.ins Y.o g [(s!"name",V.str c),(s!"names",V.ref d),(s!"domains",V.ref j)]) x=LH (.ins Y.o g [(s!"name",V.str c),(s!"names",V.ref d),(s!"domains",V.ref j)]):=ae;let O:j≠x:=λz=>by rw[z,x7]at L;cases L
 let j8:upd (upd H7 j<|.lst C) x (.ins Y.o g [(s!"name",V.str c),(s!"names",V.ref d),(s!"domains",V.ref j)]) d=LH (.lst<|l.map V.str):=(av I).trans<|d6 j7 L;let i8:upd (upd H7 j<|.lst C) x (.ins Y.o g [(s!"name",V.str c),(s!"names",V.ref d),(s!"domains",V.ref j)]) j=LH (.lst C):=(av O).trans ae;generalize upd (upd H7 j<|.lst C) x (.ins Y.o g [(s!"name",V.str c),(s!"names",V.ref d),(s!"domains",V.ref j)])=H8 at k8 x8 j8 i8⊢;refine⟨_,U,_,U,x,_,g,_,U,x8,bl.k_Table,bl.na_Table_outcome,(by show 3<1000;decide),?_⟩;let g9:upd H8 x (.ins Y.o g<|bD s!"outcome" (V.ref m) [(s!"name",V.str c),(s!"names",V.ref d),(s!"domains",V.ref j)])=upd H8 x (.ins Y.o g [(s!"name",V.str c),(s!"names",V.ref d),(s!"domains",V.ref j),(s!"outcome",V.ref m)]):=by rw[pf3]
 rw[g9];clear g9;let k9:∀b o,b≠x->G b=LH o->upd H8 x (.ins Y.o g [(s!"name",V.str c),(s!"names",V.ref d),(s!"domains",V.ref j),(s!"outcome",V.ref m)]) b=LH o:=λb o t e=>(av t).trans<|k8 b o t e
 let x9:upd H8 x (.ins Y.o g [(s!"name",V.str c),(s!"names",V.ref d),(s!"domains",V.ref j),(s!"outcome",V.ref m)]) x=LH (.ins Y.o g [(s!"name",V.str c),(s!"names",V.ref d),(s!"domains",V.ref j),(s!"outcome",V.ref m)]):=ae;let j9:upd H8 x (.ins Y.o g [(s!"name",V.str c),(s!"names",V.ref d),(s!"domains",V.ref j),(s!"outcome",V.ref m)]) d=LH (.lst<|l.map V.str):=(av I).trans j8;let i9:upd H8 x (.ins Y.o g [(s!"name",V.str c),(s!"names",V.ref d),(s!"domains",V.ref j),(s!"outcome",V.ref m)]) j=LH (.lst C):=(av O).trans i8;generalize upd H8 x (.ins Y.o g [(s!"name",V.str c),(s!"names",V.ref d),(s!"domains",V.ref j),(s!"outcome",V.ref m)])=H9 at k9 x9 j9 i9⊢;refine⟨_,U,_,U,x,_,g,_,U,x9,bl.k_Table,bl.na_Table_way,(by show 4<1000;decide),?_⟩;let a4:upd H9 x (.ins Y.o g<|bD s!"way" (V.str B) [(s!"name",V.str c),(s!"names",V.ref d),(s!"domains",V.ref j),(s!"outcome",V.ref m)])=upd H9 x (.ins Y.o g [(s!"name",V.str c),(s!"names",V.ref d),(s!"domains",V.ref j),(s!"outcome",V.ref m),(s!"way",V.str B)]):=by rw[pf4]
 rw[a4];clear a4;let R:∀b o,b≠x->G b=LH o->upd H9 x (.ins Y.o g [(s!"name",V.str c),(s!"names",V.ref d),(s!"domains",V.ref j),(s!"outcome",V.ref m),(s!"way",V.str B)]) b=LH o:=λb o t e=>(av t).trans<|k9 b o t e
 let M:upd H9 x (.ins Y.o g [(s!"name",V.str c),(s!"names",V.ref d),(s!"domains",V.ref j),(s!"outcome",V.ref m),(s!"way",V.str B)]) x=LH (.ins Y.o g [(s!"name",V.str c),(s!"names",V.ref d),(s!"domains",V.ref j),(s!"outcome",V.ref m),(s!"way",V.str B)]):=ae;let a2:upd H9 x (.ins Y.o g [(s!"name",V.str c),(s!"names",V.ref d),(s!"domains",V.ref j),(s!"outcome",V.ref m),(s!"way",V.str B)]) d=LH (.lst<|l.map V.str):=(av I).trans j9;let a3:upd H9 x (.ins Y.o g [(s!"name",V.str c),(s!"names",V.ref d),(s!"domains",V.ref j),(s!"outcome",V.ref m),(s!"way",V.str B)]) j=LH (.lst C):=(av O).trans i9;generalize upd H9 x (.ins Y.o g [(s!"name",V.str c),(s!"names",V.ref d),(s!"domains",V.ref j),(s!"outcome",V.ref m),(s!"way",V.str B)])=H10 at R M a2 a3⊢;let c3:RL NT H10 rx a1:=RL.same R5<|hide_same R;let Bv:=R _ _ a7<|W _ _ J
 refine⟨_,U,rl,U,⟨_,SqL.of Bv⟩,(let I_:HA->Nat->L0 V->Hp->Prop:=λD i l v=>ak H10 v/\v D=LH (.lst l)/\RL (Fr H10 D) v l (a1.take i);dF (xs:=rx) I_)
  (λD X=>⟨ag X _,ae,aI.nil⟩) (λD i l v X _ h=>SqL.of<|h.1 _ _ Bv) (λD i y l v X e h ts b3=>?_) (λD l v X h=>?_)⟩
 .let(u,eD,hz):=h;let(r,w_,rfl,ew,ce,cv,g1,_,g2,g3):=aI.get (c3.same u) e;let hi:i<⇑rx:=(Ik.mp e).1;let(t0,t1,rfl):∃t0 t1,ts=[t0,t1]:=by
   match ts,b3 with
   | [t0,t1],_=>exact⟨t0,t1,U⟩
  calc⟨r,_,U,SqT.of g1,U,_,_,U,_,_,U,U,⟨[LH (.ref ce),LH (.int w_.2)],U,U⟩,?_⟩;refine⟨_,U,_,U,ce,cv,w_,U,g2,g3,by rw[(hok w_<|Il ew).len];lia,λr2 H2 t2 c6 fG=>?_⟩;let a5:=t2 _ _ eD;let d0:⇑l<=200:=by
   let:=hz.1;rw[iR]at this;lia
  calc dg.mk hi a5 (az ∅) ⟨(u.trans t2).upd X,ae,?_⟩;rw[take_snoc ew];exact RL.updN (aI.snoc (hz.same t2)<|fG.wk λa h=>⟨u.free h,λz=>by rw[z,eD]at h;cases h⟩) Fr.out a5
 .let(u,eD,hz):=h;rw[hR.1,hV]at hz;refine⟨_,U,x,_,g,_,U,u _ _ M,bl.k_Table,bl.na_Table_rows,(by show 5<1000;decide),?_⟩;let c1:upd v x (.ins Y.o g<|bD s!"rows" (V.ref D) [(s!"name",V.str c),(s!"names",V.ref d),(s!"domains",V.ref j),(s!"outcome",V.ref m),(s!"way",V.str B)])=upd v x (.ins Y.o g [(s!"name",V.str c),(s!"names",V.ref d),(s!"domains",V.ref j),(s!"outcome",V.ref m),(s!"way",V.str B),(s!"rows",V.ref D)]):=by rw[pf5]
  rw[c1];let a9:D≠x:=λz=>by rw[z,M]at X;cases X
  calc q _ _ D l (λb o t e=>(av t).trans<|u _ _<|R b o t<|W _ _ e) ae U U U U ⟨d,j,U,U,(av I).trans<|u _ _ a2,(av O).trans<|u _ _ a3⟩ ((av a9).trans eD) ?_;calc RL.same (RL.hide (u _ _ M) hz.any)<|hide_same λb o t e=>(av t).trans e
theorem GA{k n:Nat}(F:Fun K "boxes" "boxes" Y30 f fd) (bl:Bl K mg Y)(gz:Callee P w K mg base k "boxes" ["form","deep"] (eW K Y n)):aD P w K mg base CX0 (k+1) f fd ["form","deep"] (eW K Y<|n+1):=by
 refine F.okA Z30 λd2 A c8 s H vs Q E hr h=>?_
 let(g,a7,a,d,f_,v,rfl,hf,hn,J,h6,q):=h
 refine⟨_,(ar (aS (aH cP (pv 1) ao<|aF _)
  (ai<|au<|bj<|aa (ba<|aa (ba af)<|aa (pv 0) af) af)
  aE)
  (ar (aJ (i:=2) Z30.nd U (Or.inl U)<|bj af)
  (ar (bT IV.never U (sJ<|pv 0) (cZ U<|ax (aw (i:=3) Z30.nd U<|Or.inl U)<|ax (aw (i:=4) Z30.nd U<|Or.inl U)<|ax (aw (i:=5) Z30.nd U<|Or.inl U) bq)
  (ai (bT IV.never U (aX<|aN gz hr U<|aa (pv 5)<|aa (aG fC (pv 1) ao) af) (cZ U<|ax (aw (i:=6) Z30.nd U<|Or.inl U)<|ax (aw (i:=7) Z30.nd U<|Or.inl U) bq)
  (ai<|bB<|lj PySem.F.plainAttrs_list PySem.F.slot_list_append PySem.F.type_list_append cQ (pv 2)<|aa (ba<|aa (aG xR (ba<|aa (ba<|aa (pv 3)<|aa (pv 4) af) af)<|pv 6)<|aa (pv 7) af) af))))
  (ai<|au<|pv 2)))),?_⟩
 dsimp only[bA,Cx.nox,Cx.wish];show(let r3:TS:=_;let r2:TS:=bp _ r3;let r1:TS:=bp _ r2;bp _ r1 _ _ _);intro _ _ _;cases d with
 |zero =>
  let hf:a.R H f_ v:=hf;calc⟨_,U,U,_,U,mF U ?_⟩;refine⟨(by show 0<=HL;decide),λb hb=>?_⟩;let s1:=ag hb<|.tup [];let e1:upd H b (.tup []) b=LH (.tup []):=ae;generalize upd H b (.tup [])=H1 at s1 e1⊢;calc⟨_,U,bO,λt ht=>?_⟩;let s2:=ag ht<|.tup [.ref b,v];let e2:upd H1 t (.tup [.ref b,v]) t=LH (.tup [.ref b,v]):=ae;generalize upd H1 t (.tup [.ref b,v])=H2 at s2 e2⊢;refine⟨(by show 1<=HL;decide),λl X=>?_⟩;let s3:=ag X<|.lst [V.ref t];let s:=(s1.trans s2).trans s3;exact q l _ _ s ((s1.trans s2).free X) ae<|.cons ⟨t,b,v,U,s3 _ _ e2,⟨[],s3 _ _<|s2 _ _ e1,.nil⟩,a.mono s.tups hf⟩ .nil
 |succ d =>
  let(r,xs,rfl,er,hp):=hf;let(L,hL):∃L:L0 (T3a<|Fm g d),L=f_:=⟨f_,U⟩;let hp:FmL (FmV a H d) H L xs:=by rw[hL];exact hp
  let J:⇑(bxs (d+1) (show Fm g (d+1)from L))<=2000:=by rw[hL];exact J
  let h6:∀q∈bxs (d+1) (show Fm g (d+1)from L),⇑q.1<=6:=by rw[hL];exact h6
  let q:∀(l:HA)(xs:L0 V)(o:Hp),ak H o->H l=LI->o l=LH (.lst xs)->BxG a o xs (bxs (d+1) (show Fm g (d+1)from L))->Q (.ref l) o:=by rw[hL];exact q
  let a8:⇑xs=L.length:=hp.1;refine⟨_,U,U,_,U,lp (λz=>by have:=V.int.inj z;lia) ?_⟩;refine⟨(by show 0<=HL;decide),λl X=>?_⟩;let s0:ak H (upd H l<|.lst []):=ag X _;let e0:upd H l (.lst []) l=LH (.lst []):=ae;generalize upd H l (.lst [])=H0 at s0 e0⊢;refine⟨_,U,r,U,⟨_,SqT.of<|s0 _ _ er⟩,(let I_:Nat->St->Hp->Prop:=λi C o=>ak H o/\∃(D:L0 V)(c3 c4 c5 O N:Option V),o l=LH (.lst D)/\BxG a o D (bxs (d+1) (show Fm g (d+1)from L.take i))/\C=[LH (.ref r),LH<|.int ((d+1:Nat):Int),LH<|.ref l,c3,c4,c5,O,N];zw (xs:=xs) I_ ⟨s0,[],_,_,_,_,_,e0,.nil,U⟩ (λi C o _ h=>SqT.of<|h.1 _ _ er) (λi x C o ex M=>?_) (λC o M=>?_))⟩
  .let(sm,D,c3,c4,c5,O,N,el,hy,rfl):=M;let(e,ee):∃e,L[i]?=LH e:=⟨_,Ij (by have:=(Ik.mp ex).1;lia)⟩;let(t,u,a3,et,hu):=hp.2 i e ee;rw[ex]at a3;cases a3;let es:bxs (d+1) (show Fm g (d+1)from L.take (i+1))=bxs (d+1) (show Fm g (d+1)from L.take i)++((bxs d e.2.2).map λq=>((e.1,e.2.1) :: q.1,q.2)):=by
    rw[take_snoc ee,vh,Ai]
   let jP:∀q∈(bxs d e.2.2).map (λq=>((e.1,e.2.1) :: q.1,q.2)),q∈bxs (d+1) (show Fm g (d+1)from L):=λq hq=>uy.mpr ⟨e,Il ee,hq⟩
   let d1:⇑(bxs (d+1) (show Fm g (d+1)from L.take i))+⇑(bxs d e.2.2)<=2000:=by
    let e3:bxs (d+1) (show Fm g (d+1)from L)=bxs (d+1) (show Fm g (d+1)from L.take (i+1))++bxs (d+1) (show Fm g (d+1)from L.drop (i+1)):=by rw[←vh,kQ]
    let:=LU List.length e3;rw[es,dV,dV,bc]at this;lia
   let b5:∀q∈bxs d e.2.2,⇑q.1<=6:=λq hq=>by
    let:=h6 _<|jP _<|dy.mpr ⟨q,hq,U⟩;let:⇑q.1+1<=6:=this;lia
   let b6:∀q∈bxs d e.2.2,⇑q.1<=5:=λq hq=>by
    let:=h6 _<|jP _<|dy.mpr ⟨q,hq,U⟩;let:⇑q.1+1<=6:=this;lia
   calc⟨t,_,U,SqT.of<|sm _ _ et,U,_,_,U,_,_,U,_,_,U,U,?_⟩;refine⟨_,U,_,U,_,_,U,U,g,a7,a,d,e.2.2,u,(by show[u,V.int (((d+1:Nat):Int)-1)]=[u,V.int (d:Int)];rw[show((d+1:Nat):Int)-1=(d:Int) by lia]),FmV.mono sm.tups hu,∅,∅,b5,λl2 zs H2 s2 f2 e2 hz=>?_⟩;let c1:=s2 _ _ el;let nl:l≠l2:=λz=>by rw[←z,el]at f2;cases f2
   refine⟨l2,U,⟨_,SqL.of e2⟩,(let I_:Nat->St->Hp->Prop:=λk C B=>ak H B/\cm H2 B/\B l2=LH (.lst zs)/\∃(D:L0 V)(O N:Option V),B l=LH (.lst D)/\BxG a B D (bxs (d+1) (show Fm g (d+1)from L.take i)++((bxs d e.2.2).take k).map λq=>((e.1,e.2.1) :: q.1,q.2))/\C=[LH (.ref r),LH<|.int ((d+1:Nat):Int),LH<|.ref l,LH<|.int e.1,LH<|.int e.2.1,LH u,O,N];b8 (xs:=zs) I_ ⟨sm.trans s2,(λ_ _ h=>h),e2,D,_,_,c1,by rw[nY,mu,iP];exact hy.mono s2.tups,U⟩ (λk C B _ h=>SqL.of h.2.2.1) (λk x C B b7 M=>?_) (λC B M=>?_))⟩
   .let(T,S,a4,G,O,N,I,y,rfl):=M;let(q2,W,t2,b2,Z,rfl,c0,b4,a9):=gk (hz.mono S) b7;let hk:k<⇑(bxs d e.2.2):=(Ik.mp W).1;let d0:=b6 q2<|Il W;calc⟨t2,_,U,SqT.of c0,U,_,_,U,_,_,U,U,?_⟩;calc⟨_,U,.inl ⟨U,_,SqL.of I⟩,_,U,_,U,bO,λp b1=>?_⟩;let u1:=ag b1<|.tup [.int e.1,.int e.2.1];let g1:upd B p (.tup [.int e.1,.int e.2.1]) p=LH (.tup [.int e.1,.int e.2.1]):=ae;generalize upd B p (.tup [.int e.1,.int e.2.1])=H4 at u1 g1⊢;refine⟨(by show 1<=HL;decide),λp2 b3=>?_⟩;let u2:=ag b3<|.tup [V.ref p];let g2:upd H4 p2 (.tup [V.ref p]) p2=LH (.tup [V.ref p]):=ae;generalize upd H4 p2 (.tup [V.ref p])=H5 at u2 g2⊢;let(bs,c2,a1):=b4;let a0:=u1.trans u2;refine⟨_,U,yH g2 (a0 _ _ c2) (zb<|az (by rw[⇑a1,ie];lia)) λp3 H6 u3 g3=>?_⟩;let a5:=a0.trans u3;calc⟨_,U,bO,λj b0=>?_⟩;let u4:=ag b0<|.tup [.ref p3,Z];let g4:upd H6 j (.tup [.ref p3,Z]) j=LH (.tup [.ref p3,Z]):=ae;generalize upd H6 j (.tup [.ref p3,Z])=H7 at u4 g4⊢;let c:=a5.trans u4;let a2:=c _ _ I;refine⟨l,_,_,U,U,a2,wF (by rw[⇑y,dV,bc,iR];lia),?_⟩;let m:cm H7 (upd H7 l<|.lst<|G++[.ref j]):=bP a2;calc⟨(T.trans c).upd X,(S.trans c.tups).trans m,(av nl.symm).trans<|c _ _ a4,G++[.ref j],_,_,ae,?_,U⟩;rw[take_snoc W,gd,←jn];calc um (y.mono<|c.tups.trans m)<|.cons ⟨j,p3,Z,U,m _ _ g4,⟨_,m _ _<|u4 _ _ g3,?_⟩,a.mono (c.tups.trans m) a9⟩ .nil;let a6:PL H7 [V.ref p] [(e.1,e.2.1)]:=.cons ⟨p,U,u4 _ _<|u3 _ _<|u2 _ _ g1⟩ .nil;exact(PL.app a6<|a1.mono c.tups).mono m
   .let(T,S,a4,G,O,N,I,y,rfl):=M;rw[⇑hz,hV]at y;exact⟨T,G,_,_,_,_,_,I,by rw[es];exact y,U⟩
  .let(sm,D,c3,c4,c5,O,N,el,hy,rfl):=M;rw[a8,hV]at hy;calc⟨_,U,q l D o sm X el hy⟩
theorem GB(F:Fun K "leaning_tile" "leaning_tile" Y54 f fd) (bl:Bl K mg Y)(nj:Callee P w K mg base 6 "leans_on" ["table","tile","k"] (gZ K Y)):aD P w K mg base CX0 7 f fd ["table","tiles","k","before"] (eA K Y):=by
 refine F.okA Z54 λa1 A Z s H vs Q E hr h=>?_
 let(t,x,k,bv,xs,N,n,i,o,rfl,D,p,C,hk,W,q):=h
 refine⟨_,(aC (aS (PW.pt<|fB (aH uH (pv 3) fX<|aF _)<|fi<|ck<|aN nj hr U<|aa (pv 0)<|aa (aW aY (pv 1) (pv 3)<|λ_ _=>U)<|aa (pv 2) af)
  (ai<|au<|pv 3)
  aE)
  (ar (bT IV.never U (pL U bl.enumerate_<|aa (pv 1) af) (cZ U<|ax (aw (i:=4) Z54.nd U<|Or.inl U)<|ax (aw (i:=5) Z54.nd U<|Or.inl U) bq)
  (ai (aS (ck<|aN nj hr U<|aa (pv 0)<|aa (pv 5)<|aa (pv 2) af)
  (ai<|au<|pv 4)
  aE)))
  (ai<|au fX))),?_⟩
 dsimp only[bA,Cx.nox,Cx.wish];show(let u:TS:=_;let r1:TS:=bp _ u;bX _ r1 _ _ _);intro _ _;let S:⇑xs=N.length:=C.1;refine(let O:St->Hp->Prop:=λR c=>ak H c/\R=[LH (.ref t),LH<|.ref x,LH<|.int (k:Int),LH bv,LI,LI];⟨O,?_,?_⟩)
 .rcases W with rfl|⟨b,rfl,hb⟩
  .exact⟨_,U,U,LK,U,bK ⟨ak.refl _,U⟩⟩
  .let r:=Ij hb;generalize N[b]=m at r;let(l,X,M,u,I,G):=C.2 b m r;refine⟨_,U,U,LJ,by rw[LR (by intro z;cases z)];rfl,df ?_⟩;calc⟨_,U,_,U,_,U,x,_,_,_,U,U,SqL.of p,aM X,_,U,t,l,M,u,k,m,n,i,o,U,D,SqT.of I,G,hk,λH2 s2=>⟨_,U,?_⟩⟩;calc cM (λg=>?_)<|λ_=>⟨s2,U⟩;exact⟨_,U,q _ H2 s2<|.inl ⟨b,U,hb,m,Il r,g⟩⟩
 rintro a0 H1 ⟨s1,rfl⟩;refine⟨_,U,x,U,⟨_,SqL.of<|s1 _ _ p⟩,(let O:Nat->St->Hp->Prop:=λj v c=>ak H c/\(∀m∈N.take j,cb n i o k m=LK)/\∃L J:Option V,v=[LH (.ref t),LH<|.ref x,LH<|.int (k:Int),LH bv,L,J];qZ (xs:=xs) O ⟨s1,(λm hm=>by simp at hm),_,_,U⟩ (λj v c h=>SqL.of<|h.1 _ _ p) (λj y v c T e h D=>?_) (λv c h=>?_))⟩
 .let(B,d,L,J,rfl):=h;let(l,m,rfl,r,M,u,I,G):=aI.get C e;let hj:j<⇑xs:=(Ik.mp e).1;let s2:=B.trans<|ag D<|.tup [.int (j:Int),.ref l];let eT:upd c T (.tup [.int (j:Int),.ref l]) T=LH (.tup [.int (j:Int),.ref l]):=ae;generalize upd c T (.tup [.int (j:Int),.ref l])=H2 at s2 eT⊢;calc⟨T,_,U,SqT.of eT,U,_,_,U,_,_,U,U,?_⟩;calc⟨_,U,_,U,_,U,t,l,M,u,k,m,n,i,o,U,Tbl.same ‹_› s2,SqT.of<|s2 _ _ I,s2.seqT G,hk,λH3 s3=>⟨_,U,?_⟩⟩;refine cM (λg=>?_)<|λg=>?_
  .exact⟨_,U,q _ H3 (s2.trans s3)<|.inl ⟨j,U,∅,m,Il r,g⟩⟩
  .refine⟨s2.trans s3,λm' a=>?_,_,_,U⟩;rw[take_snoc r]at a;rcases hZ.mp a with a | a
   .exact d m' a
   .rw[fc.mp a];exact DA.mpr g
 .let(B,d,L,J,rfl):=h;rw[S,hV]at d;calc q .non c B<|.inr ⟨U,d⟩
theorem GC(F:Fun K "with_rows" "with_rows" Y76 f fd) (bl:Bl K mg Y)(k_Table:bf (CX1 P w) P w K mg base 6 "Table" Y.o ["self","name","names","domains","outcome","way","rows"] (bg K Y)):aD P w K mg base CX0 8 f fd ["table","rows"] (gx K Y):=by
 refine F.okA Z78 λa3 A L s H vs Q E hr h=>?_
 let(t,V,W,X,S,R,dv,T,Ec,j,bs,o,rfl,(a0,dx,Z,dl,fs,xs,g,f1,f2,f3,f4,f5,f6,G,I,Ic,a2,gn),ok,D,O,q):=h;calc⟨_,(ai<|au<|uW k_Table A7 hr U<|aa (aV (pv 0) U)<|aa (aV (pv 0) U)<|aa (aV (pv 0) U)<|aa (aV (pv 0) U)<|aa (aV (pv 0) U)<|aa (pv 1) af),?_⟩;calc⟨_,U,t,_,_,_,_,U,g,bl.k_Table,bl.na_Table_name,f2,_,U,t,_,_,_,_,U,g,bl.k_Table,bl.na_Table_names,f5,_,U,t,_,_,_,_,U,g,bl.k_Table,bl.na_Table_domains,f6,_,U,t,_,_,_,_,U,g,bl.k_Table,bl.na_Table_outcome,f4,_,U,t,_,_,_,_,U,g,bl.k_Table,bl.na_Table_way,f3,_,U,λx c N B a1=>?_⟩;let d:ak H (upd (upd H c<|.own x) x<|.ins Y.o c []):=(ag B _).upd N;let a:=ok.same d;calc⟨x,c,Z,dl,W,V,X,S,R,dv,T,bs,o,j,U,ae,d _ _ G,a.words,a.once,a.one,a.four,a.way,a.sum,d _ _ I,a.doms,a.out,d _ _ D,O.same d,(λh=>by have:=ok.few;rw[O.1]at h;lia),by rw[a.len];exact a.four,a.rows,λ_ H' C k i k1 k2 k3 z y v ⟨l,J,r,p,n,m⟩ k4 M=>⟨U,q x H' (λb u e=>k1 b u (aZ e N)<|d _ _ e) ⟨k,c,l,J,C,i,k2,k3,v,z,y,r,p,n,m,k4,M,by rw[M.1];exact ok.few⟩⟩⟩
theorem GD(F:Fun K "rows_of" "rows_of" Y65 f fd) (bl:Bl K mg Y)(gz:Callee P w K mg base 7 "boxes" ["form","deep"] (eW K Y 7)):aD P w K mg base CX0 8 f fd ["form","deep"] (jl K Y):=by
 refine F.okA Z66 λb7 A b3 s H vs Q E G h=>?_
 let(d,f_,v,rfl,hf,hd,b4,h4,q):=h;refine⟨_,(ai<|au<|dS (aX<|aN gz G U<|aa (pv 0)<|aa (pv 1) af) (eH (N:=["box","leaf"]) (k:=2) U U (~~~0) (~~~0)<|~~~0) U (λ_ C1 _ _=>(jO (K:=K) (n:=2) U U<|ax (aw (i:=0) (show(["box","leaf"]:L0 Str).Nodup by decide+kernel) U (Or.inl U) (Or.inr U)) (ax (aw (i:=1) (show(["box","leaf"]:L0 Str).Nodup by decide+kernel) U (Or.inl U) (Or.inr U)) bq))) (λ_ C1 _ _=>(jN<|aH cP (aW (jM (K:=K) U) (pv 1) ao<|λ_ _=>U) aL<|aF _)) (λ_ C1 _ _=>(ba<|aa (dS (zZ (K:=K) U<|pv 0) (eH (N:=["pair"]) (k:=1) U U (~~~0) (~~~0)<|~~~0) U (λ_ C2 _ _=>(aw (i:=0) (show(["pair"]:L0 Str).Nodup by decide+kernel) U (Or.inl U) (Or.inr U))) (λ_ C2 _ _=>bY) (λ_ C2 _ _=>(bj<|aa (pv 0) af))) (aa (aW (jM (K:=K) U) (pv 1) ao<|λ_ _=>U) af)))),?_⟩;calc⟨_,U,_,U,_,_,LVd,d,f_,v,U,hf,∅,∅,h4,λl0 zs H1 s1 _ e1 hz=>?_⟩;refine⟨l0,U,⟨_,SqL.of e1⟩,(let I_:HA->Nat->L0 V->Hp->Prop:=λD i B g=>ak H1 g/\g D=LH (.lst B)/\RL NT (hide g D) B (bE<|(bxs d f_).take i);dF (xs:=zs) I_ (λD hD=>⟨ag hD _,ae,aI.nil⟩) (λD i B g hD _ h=>SqL.of<|h.1 _ _ e1) (λD i y B g hD e J ts a7=>?_) (λD B g hD J=>?_))⟩
 .let(o,L,G):=J;let(c,O,t2,b2,w2,rfl,a9,(bs,b1,a4),a6):=gk hz e;let(r2,rfl,a3):∃r,w2=.ref r/\Vd K H1 r c.2:=a6;let hi:i<⇑zs:=(Ik.mp e).1;let b6:=h4 c<|Il O;let b5:B.length<=300:=by
   let a1:=G.1;let a2:=wG<|(bxs d f_).take i;rw[iR]at a2;lia
  let(t0,t1,rfl):∃t0 t1,ts=[t0,t1]:=by
   match ts,a7 with
   | [t0,t1],_=>exact⟨t0,t1,U⟩
  calc⟨t2,_,U,SqT.of<|o _ _ a9,U,_,_,U,_,_,U,U,⟨[LH (.ref b2),LH (.ref r2)],U,U⟩,?_⟩;calc⟨_,U,r2,_,_,_,U,U,(a3.mono o.tups).sq,U,U,_,U,?_⟩;let sn:=jh ((bxs d f_).take i) c;by_cases hs:c.2.1=kM
  .refine mF (by rw[hs];rfl) ?_;rw[LQ hs,LO U]at sn;let Ef:=o _ _ b1;refine⟨_,U,b2,U,⟨_,SqT.of Ef⟩,(let I_:HA->Nat->L0 V->Hp->Prop:=λb j C m=>ak g m/\m b=LH (.lst C)/\CL (Fr g b) m C ((c.1.take j).map λp=>[p]);o7 (xs:=bs) I_ (λb a=>⟨ag a _,ae,aI.nil⟩) (λb j C m a _ h=>SqT.of<|h.1 _ _ Ef) (λb j y2 C m a e2 J a0 GG=>?_) (λb C m a J=>?_))⟩
   .let(t,x,Z):=J;let(p,I,ep,rfl,b0):=a4.get e2;let hj:j<⇑bs:=(Ik.mp e2).1;let(u0,rfl):∃u0,a0=[u0]:=by
     match a0,GG with
     | [u0],_=>exact⟨u0,U⟩
    calc⟨⟨[LH (.ref I)],U,U⟩,?_⟩;refine⟨_,U,(by show 1<=HL;decide),λW u=>?_⟩;let X:=ag u<|.lst [V.ref I];let g1:upd m W (.lst [V.ref I]) W=LH (.lst [V.ref I]):=ae;let S:=X _ _ x;let nc:W≠b:=λz=>by rw[z,x]at u;cases u
    let nf:g W=none:=t.free u;generalize upd m W (.lst [V.ref I])=H4 at X g1 S⊢;let GH:H4 I=LH (.tup [.int p.1,.int p.2]):=X _ _<|t _ _<|o _ _ b0;let GI:CL (Fr g b) H4 (C++[.ref W]) (((c.1.take j).map λp=>[p])++[[p]]):=aI.snoc (CL.same Z X) ⟨⟨nf,nc⟩,_,g1,.cons ⟨I,U,GH⟩ .nil⟩;refine dg.mk hj S (az (by have:=Z.1;rw[bc,iR]at this;lia)) ⟨(t.trans X).upd a,ae,?_⟩;rw[take_snoc ep,gd];exact GI.updN Fr.out S
   .let(t,x,Z):=J;rw[⇑a4,hV]at Z;let a5:b≠D:=λz=>by rw[z,L]at a;cases a
    calc⟨_,U,r2,_,_,_,U,U,(a3.mono (o.trans t).tups).sq,U,bO,λl M=>?_⟩;let T:=ag M<|.tup [.ref b,.int c.2.2];let eT:upd m l (.tup [.ref b,.int c.2.2]) l=LH (.tup [.ref b,.int c.2.2]):=ae;let R:=T _ _<|t _ _ L;let nT:l≠D:=λz=>by rw[z,t _ _ L]at M;cases M
    generalize upd m l (.tup [.ref b,.int c.2.2])=H4 at T eT R⊢;let a8:CL NT (hide H4 D) C (c.1.map λp=>[p]):=CL.hideN (CL.same Z T) (λz=>by have:=z.1;rw[L]at this;cases this) R;let fG:eQ NT (hide H4 D) l (c.1.map λp=>[p],c.2.2):=⟨b,C,bC eT nT,trivial,bC (T _ _ x) a5,a8⟩;let sB:=(o.trans t).trans T;calc dg.mk hi R (az ∅) ⟨sB.upd hD,ae,?_⟩;rw[j4,take_snoc O,sn];exact aI.snoc (aI.mono G λ_ _ p=>p.same<|iH<|t.trans T) fG
  .refine lp (λz=>hs (by injection z)) ?_;rw[LR hs,LN ⋯,iP]at sn;calc dR.mk (zs:=B) hi ⟨o,L,?_⟩;rw[take_snoc O,sn];exact G
 .let(o,L,G):=J;rw[⇑hz,hV]at G;calc q D B g (s1.trans o) L<|aI.mono G λ_ _ p=>p.same<|dP g D
theorem GJ(F:Fun K "refuse_clashes" "refuse_clashes" Y59 f fd) (bl:Bl K mg Y)(gz:Callee P w K mg base 7 "boxes" ["form","deep"] (eW K Y 7)):aD P w K mg base (CX1 P w) 8 f fd ["form","deep"] (dq K Y):=by
 refine F.okEA Z59 λa1 A G s H vs Q E o h=>?_
 let(d,p,v,rfl,X,hd,N,Z,q,S):=h
 refine⟨_,(ai (bT (kC U U U) U (aX<|aN gz o U<|aa (pv 0)<|aa (pv 1) af) (cZ U<|ax (aw (i:=2) Z59.nd U<|Or.inl U)<|ax (aw (i:=3) Z59.nd U<|Or.inl U) bq)
  (ai (aS (aH (xP o) (pv 3) (cj (v:=.ref Y.q) U bl.CLASH_ U)<|aF _)
  (ai<|iB bl.x_Clash o.hd U bl.Clash_<|aa aL af)
  aE)))),?_⟩
 calc⟨_,U,_,U,_,_,LVd,d,p,v,U,X,∅,∅,Z,λl I k J _ M L=>?_⟩;let C:I.length=⇑(bxs d p):=L.length;refine⟨l,U,⟨_,SqL.of M⟩,(let I_:Nat->St->Hp->Prop:=λi j m=>m=k/\(∀q∈(bxs d p).take i,q.2≠clash)/\∃B x:Option V,j=[LH v,LH<|.int (d:Int),B,x];b8 (xs:=I) I_ ⟨U,(λq b=>by simp at b),_,_,U⟩ (λi j m _ h=>by rw[h.1];exact SqL.of M) (λi y j m e h=>?_) (λj m h=>?_))⟩
 .let(t,a,B,x,rfl):=h;rw[t];let(n,c,R,b2,O,rfl,D,a0,T):=gk L e;let(r2,rfl,W):∃r,O=.ref r/\Vd K k r n.2:=T;calc⟨R,_,U,SqT.of D,U,_,_,U,_,_,U,U,?_⟩;calc⟨_,U,Al (v:=n.2) (u:=clash) W.sq (bl.q_CLASH.sq _) ⟨_,U,?_⟩⟩;refine cM (λg=>?_)<|λg=>?_
  .exact⟨(by show 1<=HL;decide),S ⟨n,Il c,LS g⟩ k J⟩
  .refine⟨U,λq b=>?_,_,_,U⟩;rw[take_snoc c]at b;rcases hZ.mp b with b|b
   .exact a q b
   .rw[fc.mp b];exact λz=>g<|LQ z
 .let(t,a,B,x,rfl):=h;rw[C,hV]at a;rw[t];calc q a k J
theorem GK(F:Fun K "last_idle" "last_idle" Y44 f fd) (bl:Bl K mg Y)(nk:Callee P w K mg base 7 "leaning_tile" ["table","tiles","k","before"] (eA K Y)):aD P w K mg base CX0 8 f fd ["table","tiles","kept","needed"] (gy K Y):=by
 refine F.okA Z44 λb3 A a8 s H vs Q E hr h=>?_
 let(t,tl,kl,g,xs,nv,J,B,r,i,o,rfl,hT,a2,hX,X,a5,b1,a7,a3,q):=h
 refine⟨_,(ar (bT IV.never U (Cr U bl.reversed_<|aa (pv 2) af) (aw (i:=4) Z44.nd U<|Or.inl U)
  (aC (lR (aN nk hr U<|aa (pv 0)<|aa (pv 1)<|aa (pv 4)<|aa (aW aY (pv 3) (pv 4)<|λ_ _=>U) af)<|pA (pv 3) (pv 4) set_list)
  (ai (aS (aH BN (aW aY (pv 3) (pv 4)<|λ_ _=>U) fX<|aF _)
  (ai<|au<|pv 4)
  aE))))
  (ai<|au fX)),?_⟩
 dsimp only[bA,Cx.nox,Cx.wish];show(let r1:TS:=_;bp _ r1 _ _ _);intro _;let R:⇑(vN B)=B.length:=mT B;let T:ak (hide H g) H:=dP H g;let a1:hide H g g=none:=LO U;refine⟨_,U,kl,_,U,SqL.of<|T _ _ X,(let I_:Nat->St->Hp->Prop:=λj σ L=>ak (hide H g) L/\∃(c:L0 V)(c4:Option V),L g=LH (.lst c)/\⇑c=⇑nv/\(∀v∈c,v=.non\/∃b:Nat,v=.int (b:Int)/\b<J.length)/\(∀a C:Nat,B.length-j<=a->B[a]?=LH C->¬ ∀m∈J,cb r i o C m=LK)/\σ=[LH (.ref t),LH<|.ref tl,LH<|.ref kl,LH<|.ref g,c4];zY (xs:=vN B) I_ ⟨T,nv,_,a7,U,a3,(λa C ha e=>LP (Ik.mp e).1 ∅),U⟩ (λj σ L _ h=>SqL.of<|h.1 _ _ X) (λj y σ L hj e h=>?_) (λσ L h=>?_))⟩
 .let(I,c,c4,en,G,hn,x,rfl):=h;rw[R]at hj e;let(k,rfl,ek):=Bp e;let hk:=a5 k<|Il ek;let ev:=Ij (l:=c) (i:=k) ∅;let Z:=hn _<|Il ev;generalize c[k]=bv at ev Z;refine(let I_:St->Hp->Prop:=λa0 O=>ak (hide H g) O/\∃(v:V)(d:L0 V),O g=LH (.lst d)/\⇑d=⇑nv/\d[k]?=LH v/\(∀v∈d,v=.non\/∃b:Nat,v=.int (b:Int)/\b<J.length)/\((v=.non/\∀m∈J,cb r i o k m=LK)\/(v≠.non/\∃m∈J,cb r i o k m=LJ))/\a0=[LH (.ref t),LH<|.ref tl,LH<|.ref kl,LH<|.ref g,LH (.int (k:Int))];⟨I_,?_,?_⟩)
  .refine⟨_,U,_,U,_,U,_,U,_,U,g,_,_,_,U,U,SqL.of en,aM ev,t,tl,k,bv,xs,J,r,i,o,U,Tbl.same hT I,I _ _ a2,hX.same I,∅,Z,λv O s2 hv=>?_⟩;let n:=s2 _ _ en;calc⟨_,U,_,U,g,_,_,_,U,U,n,pY ∅,?_⟩;refine⟨(I.trans s2).upd a1,v,c.set k v,ae,by rw[List.length_set];exact G,pa ∅,λu M=>?_,?_,U⟩
   .rcases List.mem_or_eq_of_mem_set M with M|M
    .exact hn u M
    .rw[M];rcases hv with⟨p,e,hp,_⟩|⟨e,_⟩
     .exact .inr ⟨p,e,hp⟩
     .exact .inl e
   .rcases hv with⟨p,e,hp,D⟩|⟨e,D⟩
    .exact .inr ⟨(by rw[e];intro z;cases z),D⟩
    .exact .inl ⟨e,D⟩
  rintro a9 O ⟨s2,v,d,n,W,a6,S,hv,rfl⟩;calc⟨_,U,_,U,g,_,_,_,U,U,SqL.of n,aM a6,U,?_⟩;rcases hv with⟨rfl,D⟩|⟨a4,m,D,hl⟩
  .refine⟨LJ,U,df ⟨_,U,q _ d O s2 n W S<|.inl ⟨_,k,ek,U,D,λj' C b0 N=>x j' C ∅ N⟩⟩⟩
  .refine⟨LK,by rw[LR a4],bK ⟨s2,d,_,n,W,S,λa C ha N=>?_,U⟩⟩;by_cases hz:a=B.length-1-j
   .rw[hz,ek]at N;cases N;exact λz=>by rw[z m D]at hl;cases hl
   .exact x a C ∅ N
 .let(I,c,c4,en,G,hn,x,rfl):=h;calc q .non c L I en G hn<|.inr ⟨U,λk hk=>?_⟩;let(a,ea):=lz hk;calc x a k (by rw[R];lia) ea
theorem GL(F:Fun K "spread_form" "spread_form" Y67 f fd) (bl:Bl K mg Y)(kR:br P w K mg base 8 "refuse_clashes" ["form","deep"] (dq K Y)) (g:bf (CX1 P w) P w K mg base 7 "Table" Y.o ["self","name","names","domains","outcome","way","rows"] (bg K Y)) (wO:Callee P w K mg base 8 "rows_of" ["form","deep"] (jl K Y)):aD P w K mg base (CX1 P w) 9 f fd ["name","names","domains","outcome","form"] (eX K Y):=by
 refine F.okEA Z68 λb1 A a6 s H vs Q E C h=>?_
 let(z,dl,ou,nm,d,dv,k,v,bs,o,rfl,y,a4,G,wQ,I,ok,fG,q,qM,qE):=h
 refine⟨_,(ar (aJ (i:=5) Z68.nd U (Or.inl U)<|ay aK U bl.len_ LG<|aa (pv 1) af)
  (aC (bB<|gJ kR passE C U<|aa (pv 4)<|aa (pv 5) af)
  (ai<|au<|Cc g passE C U<|aa (pv 0)<|aa (pv 1)<|aa (pv 2)<|aa (pv 3)<|aa aL<|aa (aN wO C U<|aa (pv 4)<|aa (pv 5) af) af))),?_⟩
 dsimp only[bA,Cx.nox,Cx.wish];show(let r2:TS:=_;let r1:TS:=bX _ r2;bp _ r1 _ _ _);intro _ _;let a8:=ok.four;let a1:⇑(d.map V.str)=⇑d:=bc _;calc⟨_,U,z,_,U,.inl<|SqL.of y,?_⟩;rw[a1];refine(let I_:St->Hp->Prop:=λL j=>ak H j/\(∀q∈bxs ⇑d k,q.2≠clash)/\L=[LH (.str nm),LH<|.ref z,LH<|.ref dl,LH<|.ref ou,LH v,LH (.int ((⇑d:Nat):Int))];⟨I_,?_,?_⟩)
 .by_cases D:∃q∈bxs ⇑d k,q.2=clash
  .exact⟨_,U,_,U,⇑d,k,v,U,G,∅,∅,I,(λh j m=>by let(q_,hq,e):=D;exact LP e (h q_ hq)),λ_ j m=>qE D j m⟩
  .exact⟨_,U,_,U,⇑d,k,v,U,G,∅,∅,I,(λh j m=>⟨m,h,U⟩),λh=>LP h D⟩
 rintro a7 H1 ⟨s1,r,rfl⟩;calc⟨_,U,_,U,_,U,_,U,_,U,_,U,⇑d,k,v,U,G.mono s1.tups,∅,∅,I,λrl rx J s2 a3 hR=>?_⟩;let l:=s1.trans s2;refine λx c B t b0=>?_
 let n:ak H (upd (upd J c<|.own x) x<|.ins Y.o c []):=(l.trans<|ag t _).upd<|l.free B;let p:ak J (upd (upd J c<|.own x) x<|.ins Y.o c []):=(ag t _).upd B;let a:=ok.same n;let a9:⇑rx=⇑(bE<|bxs ⇑d k):=hR.1;calc⟨x,c,z,dl,ou,rl,nm,s!"only",d,dv,rx,bs,o,bE<|bxs ⇑d k,U,ae,n _ _ y,a.words,a.once,a.one,a.four,a.way,a.sum,n _ _ a4,a.doms,a.out,p _ _ a3,hR.same p,(λh j m=>qM r ∅ j (n.trans m)),by rw[a.len];exact a.four,fG,λgn j a2 N M k1 k2 k3 a0 Z X ⟨O,a5,W,T,S,R⟩ k4 k5=>⟨U,q r ∅ x j (λb u e=>k1 b u (aZ e<|l.free B)<|n _ _ e) ⟨N,c,O,a5,a2,M,k2,k3,X,a0,Z,W,T,S,R,k4,k5,by rw[k5.1];lia⟩⟩⟩
theorem GN{k n:Nat}(F:Fun K "layered" "layered" Y53 f fd) (bl:Bl K mg Y)(nq:Callee P w K mg base k "closed" ["triples"] (iK K Y)) (kS:Callee P w K mg base k "layered" ["columns","ahead","leaf"] (eY K Y P w mg base n)) (hk:8<=k):aD P w K mg base CX0 (k+1) f fd ["columns","ahead","leaf"] (eY K Y P w mg base<|n+1):=by
 refine F.okA Z53 λb7 A b5 s H vs Q E hr h=>?_
 let(c,b,f_,xs,a,M,m,L,iL,A,g,J,rfl,hn,hc,hC,hb,a1,b3,b0,hm,Z,hJ,q):=h
 refine⟨_,(ar (aS (cB<|c9 (pv 0) (by intro _;rfl))
  (ai<|au<|u7 (k:=8) (i:=2) (hr.mono hk) U (Or.inr<|Or.inl U)<|aa (pv 1) af)
  aE)
  (ai<|au<|aN nq hr U<|aa (dS (aX<|aW aY (pv 0) ao<|λ_ _=>U) (cU (N:=["low","high","columns","ahead","leaf"]) (k:=2) (fr:=[0,1,2]) (cl:=[("leaf",↥s+1+1+1),("columns",↥s+1),("ahead",↥s+1+1)]) U U (~~~0) (~~~0) U U (iv.mpr ⟨U,iv.mpr ⟨U,iv.mpr ⟨U,jo _⟩⟩⟩) U) U (λ_ _ _ _=>(jO (K:=K) (n:=2) U U<|ax (aw (i:=0) (show(["low","high","columns","ahead","leaf"]:L0 Str).Nodup by decide+kernel) U (Or.inl U) (Or.inr U)) (ax (aw (i:=1) (show(["low","high","columns","ahead","leaf"]:L0 Str).Nodup by decide+kernel) U (Or.inl U) (Or.inr U)) bq))) (λ_ _ _ _=>bY) (λ_ _ _ _=>(ba<|aa (pv 0)<|aa (pv 1)<|aa (aN kS hr U<|aa (qm (yk (K:=K) U) (pv 2) (uL ao) uK)<|aa (aG pE (pv 3)<|bj<|aa (pv 0) af)<|aa (pv 4) af) af))) af)),?_⟩
 dsimp only[bA,Cx.nox,Cx.wish];show(let r1:TS:=_;bp _ r1 _ _ _);intro _;cases a with
 |nil =>
  let hx:xs=[]:=List.eq_nil_of_length_eq_zero hC.1;subst hx;let(sp,hF,a9):=Z.fn;calc⟨_,U,_,.inl ⟨_,SqL.of hc,U⟩,df ?_⟩;exact⟨f_,sp,U,Z.ob H hJ,hF,_,U,Z.ob H hJ,a9 H b M _ hJ (by rw[hm];rfl) hb λv u h' hv=>q v u h' hv⟩
 |cons y a =>
  let(r,ex,ts,er,hp):=hC.2 0 y U;let(l,rfl):∃l,xs=.ref r :: l:=by
   cases xs with
   |nil=>cases ex
   |cons x l=>cases ex;exact⟨l,U⟩
  let b4:CoL H l a:=⟨~~~hC.1,λj c e=>~~~hC.2 (j+1) c (~~~e)⟩;let b6:⇑y<=401:=a1 y dn;let a5:⇑ts=⇑y:=⇑hp;let Ie:⇑a<=5:=by rw[gb]at b0;lia
  refine⟨_,U,_,.inl ⟨_,SqL.of hc,U⟩,bK ?_⟩
  refine⟨_,U,c,_,_,_,U,U,SqL.of hc,aM (j:=0) U,r,U,⟨_,SqL.of er⟩,dF (xs:=ts) (λD i G u=>ak H u/\u D=LH (.lst G)/\FmL (FmV A u ⇑a) u ((y.take i).map λp=>(p.1,p.2,lay g a<|M++[p.1])) G/\G.length<=i)
   (λD hD=>⟨ag hD _,ae,FmL.nil,wZ _⟩) (λD i G u hD _ h=>SqL.of<|h.1 _ _ er) (λD i x G u hD e h ss a8=>?_) (λD G u hD h=>?_)⟩
  .let(I,eD,S,a4):=h;let(p,t,ep,rfl,ht):=hp.get e;let hi:i<⇑ts:=(Ik.mp e).1;let(t0,B,rfl):∃t0 B,ss=[t0,B]:=by
    match ss,a8 with
    | [t0,B],_=>exact⟨t0,B,U⟩
   calc⟨t,_,U,SqT.of<|I _ _ ht,U,_,_,U,_,_,U,U,⟨[LH (.int p.1),LH (.int p.2)],U,U⟩,?_⟩;calc⟨_,U,_,U,_,U,_,U,c,_,U,SqL.of<|I _ _ hc,λc2 b1=>?_⟩;rw[yD];let s2:ak u (upd u c2<|.lst l):=ag b1 _;let a2:upd u c2 (.lst l) c2=LH (.lst l):=ae;generalize upd u c2 (.lst l)=T at s2 a2⊢;refine⟨_,U,_,U,(by show 1<=HL;decide),λB a7=>?_⟩;let X:ak T (upd T B<|.lst [.int p.1]):=ag a7 _;let e1:upd T B (.lst [.int p.1]) B=LH (.lst [.int p.1]):=ae;generalize upd T B (.lst [.int p.1])=H3 at X e1⊢;refine⟨b,B,_,_,U,U,X _ _<|s2 _ _<|I _ _ hb,e1,zb<|az (by rw[bc];show M.length+1<=1000;lia),λR a0=>?_⟩;let s4:ak H3 (upd H3 R<|.lst<|M.map V.int++[.int p.1]):=ag a0 _;let e2:upd H3 R (.lst<|M.map V.int++[.int p.1]) R=LH (.lst<|(M++[p.1]).map V.int):=by rw[gd];exact ae
   generalize upd H3 R (.lst<|M.map V.int++[.int p.1])=H4 at s4 e2⊢;let O:ak u H4:=(s2.trans X).trans s4;let f2:u R=none:=(s2.trans X).free a0;refine⟨_,U,c2,R,f_,l,a,M++[p.1],m,L,iL,A,g,J,U,by rw[gb]at hn;lia,s4 _ _<|X _ _ a2,b4.same<|I.trans O,e2,λz S=>a1 z<|fo _ S,by rw[dV,ie];rw[gb]at b3;lia,∅,by rw[dV,ie];rw[gb]at hm;lia,Z,Z.st _ _ hJ<|I.trans O,λv H5 h5 hv=>?_⟩;let s5:ak u H5:=λd o ed=>h5 d o (λz=>by rw[z,f2]at ed;cases ed) (O _ _ ed)
   refine⟨(by show 3<=HL;decide),λW a6=>?_⟩;let s6:ak H5 (upd H5 W<|.tup [.int p.1,.int p.2,v]):=ag a6 _;let e3:upd H5 W (.tup [.int p.1,.int p.2,v]) W=LH (.tup [.int p.1,.int p.2,v]):=ae;generalize upd H5 W (.tup [.int p.1,.int p.2,v])=H6 at s6 e3⊢;let C:=s5.trans s6;let a3:=C _ _ eD;refine dg.mk hi a3 (az ∅) ⟨(I.trans C).upd hD,ae,?_,by rw[dV,ie];lia⟩;let st:cm H6 (upd H6 D<|.lst<|G++[.ref W]):=bP a3;rw[take_snoc ep,gd];exact(S.mono (λ_ _ z=>FmV.mono (C.tups.trans st) z)<|C.tups.trans st).snoc (st _ _ e3) (FmV.mono (s6.tups.trans st) hv)
  .let(I,eD,S,a4):=h;rw[a5,hV]at S;refine⟨L,iL,A,⇑a,D,G,_,U,∅,eD,S,by rw[bc];lia,λr2 T s2 hf=>?_⟩;calc q _ T (λd o _ ed=>(I.trans s2) _ _ ed) hf
theorem GO{k n:Nat}(F:Fun K "mapped" "mapped" Y56 f fd) (bl:Bl K mg Y)(nq:Callee P w K mg base k "closed" ["triples"] (iK K Y)) (nr:Callee P w K mg base k "mapped" ["form","deep","change"] (fT K Y P w mg base n)) (hk:8<=k):aD P w K mg base CX0 (k+1) f fd ["form","deep","change"] (fT K Y P w mg base<|n+1):=by
 refine F.okA Z56 λb1 A a8 s H vs Q E Z h=>?_
 let(L,M,iL,iM,A,B,h_,J,d,F_,v,f_,rfl,hn,b0,R,a6,m,S,q):=h
 refine⟨_,(ar (aS (aH cP (pv 1) ao<|aF _)
  (ai<|au<|u7 (k:=8) (i:=2) (Z.mono hk) U (Or.inr<|Or.inl U)<|aa (pv 0) af)
  aE)
  (ai<|au<|aN nq Z U<|aa (dS (sJ<|pv 0) (cU (N:=["low","high","beneath","deep","change"]) (k:=3) (fr:=[1,2]) (cl:=[("deep",↥s+1),("change",↥s+1+1)]) U U (~~~0) (~~~0) U U (iv.mpr ⟨U,iv.mpr ⟨U,jo _⟩⟩) U) U (λ_ _ _ _=>(jO (K:=K) (n:=3) U U<|ax (aw (i:=0) (show(["low","high","beneath","deep","change"]:L0 Str).Nodup by decide+kernel) U (Or.inl U) (Or.inr U)) (ax (aw (i:=1) (show(["low","high","beneath","deep","change"]:L0 Str).Nodup by decide+kernel) U (Or.inl U) (Or.inr U)) (ax (aw (i:=2) (show(["low","high","beneath","deep","change"]:L0 Str).Nodup by decide+kernel) U (Or.inl U) (Or.inr U)) bq)))) (λ_ _ _ _=>bY) (λ_ _ _ _=>(ba<|aa (pv 0)<|aa (pv 1)<|aa (aN nr Z U<|aa (pv 2)<|aa (aG fC (pv 3) ao)<|aa (pv 4) af) af))) af)),?_⟩
 dsimp only[bA,Cx.nox,Cx.wish];show(let r1:TS:=_;bp _ r1 _ _ _);intro _;cases d with
 |zero =>
  let(sp,hF,a5):=m.fn;calc⟨_,U,U,_,U,mF U ?_⟩;exact⟨f_,sp,U,m.ob H S,hF,_,U,m.ob H S,a5 H v F_ _ S R λu b s' X=>q u b s' X⟩
 |succ d =>
  let(G,rfl):∃G:L0 (T3a<|Fm L d),(G:Fm L (d+1))=F_:=⟨F_,U⟩;let(a9,GP):SmS 300 (SmF 300 d) G:=a6;let(a,xs,rfl,ha,hG):∃(a:HA)(xs:L0 V),v=.ref a/\H a=LH (.tup xs)/\FmL (FmV A H d) H G xs:=R;let a1:=hG.1;refine⟨_,U,U,_,U,lp (λz=>by have:=V.int.inj z;lia) ?_⟩
  refine⟨_,U,a,U,⟨_,SqT.of ha⟩,o7 (xs:=xs) (λD i g b=>ak H b/\b D=LH (.lst g)/\FmL (FmV B b d) b ((G.take i).map λt=>(t.1,t.2.1,oi h_ d t.2.2)) g/\⇑g<=i)
   (λD o=>⟨ag o _,ae,FmL.nil,wZ _⟩) (λD i g b o _ h=>SqT.of<|h.1 _ _ ha) (λD i x g b o e h ss a4=>?_) (λD g b o h=>?_)⟩
  .let(j,eD,O,a0):=h;let hi:i<⇑xs:=(Ik.mp e).1;let(t,et):∃t,G[i]?=LH t:=⟨_,Ij ∅⟩;let(r,u,ex,er,X):=hG.2 i t et;rw[e]at ex;cases ex;let(I,C,y,rfl):∃I C y,ss=[I,C,y]:=by
    match ss,a4 with
    | [I,C,y],_=>exact⟨I,C,y,U⟩
   let a7:=j _ _ er;let a2:=FmV.mono j.tups X;calc⟨r,_,U,SqT.of a7,U,_,_,U,_,_,U,_,_,U,U,⟨[LH (.int t.1),LH<|.int t.2.1,LH u],U,U⟩,?_⟩;refine⟨_,U,_,U,_,U,_,U,_,_,U,U,_,U,L,M,iL,iM,A,B,h_,J,d,t.2.2,u,f_,by simp,∅,∅,a2,GP t<|Il et,m,m.st _ _ S j,λv T s5 R=>?_⟩;refine⟨(by show 3<=HL;decide),λl a3=>?_⟩;let W:ak T (upd T l<|.tup [.int t.1,.int t.2.1,v]):=ag a3 _;let e3:upd T l (.tup [.int t.1,.int t.2.1,v]) l=LH (.tup [.int t.1,.int t.2.1,v]):=ae;generalize upd T l (.tup [.int t.1,.int t.2.1,v])=H6 at W e3⊢;let c:=s5.trans W;let p:=c _ _ eD;refine dg.mk hi p (az ∅) ⟨(j.trans c).upd o,ae,?_,by rw[dV,ie];lia⟩;let st:cm H6 (upd H6 D<|.lst<|g++[.ref l]):=bP p;rw[take_snoc et,gd];exact(O.mono (λ_ _ z=>FmV.mono (c.tups.trans st) z)<|c.tups.trans st).snoc (st _ _ e3) (FmV.mono (W.tups.trans st) R)
  .let(j,eD,O,a0):=h;rw[a1,hV]at O;refine⟨M,iM,B,d,D,g,_,U,∅,eD,O,by rw[bc];lia,λr2 H2 s2 hf=>?_⟩;calc q _ H2 (j.trans s2) hf
theorem GQ(F:Fun K "built" "built" Y31 f fd) (bl:Bl K mg Y)(kS:Callee P w K mg base 15 "layered" ["columns","ahead","leaf"] (eY K Y P w mg base 7)) (AK:Callee P w K mg base 15 "grain" ["bounds","marks"] (m7 K Y)) (fJ:Callee P w K mg base 15 "cut_columns" ["bounds","marks"] (dk K Y)):aD P w K mg base (CX1 P w) 16 f fd ["bounds","marks","leaf"] (m8 K Y P w mg base):=by
 refine F.okEA Z31 λa1 A V s H vs Q E I h=>?_
 let(a,b,f_,W,c,as,e,L,iL,A,g,J,rfl,ha,O,Z,hM,hok,hL,hJ,qE,q):=h
 refine⟨_,(ar (aS (aH jK (aN AK I U<|aa (pv 0)<|aa (pv 1) af) (qz U bl.MOST_GRAIN_)<|aF _)
  (ai<|iB bl.x_TooFine I.hd U bl.TooFine_<|aa aL af)
  aE)
  (ai<|au<|aN kS I U<|aa (aN fJ I U<|aa (pv 0)<|aa (pv 1) af)<|aa (bj af)<|aa (pv 2) af)),?_⟩
 show(let r1:TS:=_;bp _ r1 _ _ _);intro _;let a0:=O.length;let(B,y,x):=hok;calc⟨_,U,_,U,a,b,W,c,as,e,U,ha,O,Z,hM,⟨B,y,x⟩,λH1 m=>?_⟩;calc⟨_,_,U,U,_,U,?_⟩;refine cM (λn=>?_)<|λn=>?_
 .let n:((gr c e ⇑c:Nat):Int)>300:=gH n;exact⟨(by show 1<=HL;decide),qE ∅ H1 m⟩
 let n:¬ ((gr c e ⇑c:Nat):Int)>300:=iZ n;let hg:gr c e ⇑c<=300:=∅
 calc⟨_,U,_,U,a,b,W,c,as,e,U,m _ _ ha,O.mono m.tups,m _ _ Z,hM.same m,⟨B,y,x⟩,λl xs M i s2 el S D hx=>?_⟩;refine⟨(by show 0<=HL;decide),λt X=>?_⟩;let G:ak M (upd M t<|.lst []):=ag X _;let et:upd M t (.lst []) t=LH (.lst []):=ae;generalize upd M t (.lst [])=H3 at G et⊢;let u:=(m.trans s2).trans G;let C:⇑(List.zipWith (λp k=>bU p.1 p.2 k) c i)=⇑c:=by rw[mv];lia
 refine⟨_,U,l,t,f_,xs,_,[],⇑c,L,iL,A,g,J,U,∅,G _ _ el,hx.same G,et,λT GR=>?_,by rw[C];show 0+⇑c<=6;lia,∅,by rw[C];show ⇑c=0+⇑c;lia,hL,hL.st _ _ hJ u,λv H4 h4 hv=>?_⟩
 .let(j,r):=lz GR;let hj:j<⇑(List.zipWith (λp k=>bU p.1 p.2 k) c i):=(Ik.mp r).1;let(p,ep):∃p,c[j]?=LH p:=⟨_,Ij ∅⟩;let(k,ec):∃k,i[j]?=LH k:=⟨_,Ij ∅⟩;let(N,em):∃N,e[j]?=LH N:=⟨_,Ij ∅⟩;rw[rX,ep,ec]at r;let r:bU p.1 p.2 k=T:=Option.some.inj r;rw[←r,fS];let:=(D j p N k ep em ec).2.2;lia
 .exact q hg v H4 i (λd o R=>h4 d o (λz=>by have f:=(m.trans s2).free X;rw[z,f]at R;cases R) (u _ _ R)) S D hv
theorem kh{c' c_0:HA}{doc pm ctv:Fe}(bl:Bl K mg Y)(u:Callee P w K mg base 7 "mask" ["table","codes"] (iN K Y)) (inj:∀x y c,([("table",c_0)]:L0 (Str×HA)).lookup x=LH c->([("table",c_0)]:L0 (Str×HA)).lookup y=LH c->x=y):HFn P w K mg base 8 f (fU K Y f c' c_0 doc pm ctv):=by
 let Z65:=@Z65 c_0;refine yx (qual := "row_form.<locals>.<lambda>") (e:=Y64) (c':=c') (cl:=[("table",c_0)]) (pm:=pm) (ctv:=ctv) Z65 inj (λp v=>match p,v with | [D],_=>rfl) (λn H Q E h=>?_) (λA g s H n Q E z h=>?_)
 .let(a,t,m,b,i,o,rfl,d,l,k,j,q):=h;rfl
 let(a,t,m,b,i,o,rfl,d,l,k,j,q):=h;calc⟨_,d,u9 U,λC=>⟨_,(aN u z U<|aa (pv 1)<|aa (pv 0) af),?_⟩⟩;let B:=d.2.2.fzs;let so:=So.hide B;calc⟨_,U,_,U,t,a,b,i,o,m,U,Tbl.so so l,SqL.of<|so.lst k,j,λF r _=>q _<|mK r⟩
theorem GS(F:Fun K "row_form" "row_form" s_row_form f fd) (bl:Bl K mg Y)(AL:br P w K mg base 16 "built" ["bounds","marks","leaf"] (m8 K Y P w mg base)) (nu:Callee P w K mg base 16 "table_bounds" ["table"] (d7 K Y)) (oj:Callee P w K mg base 16 "table_marks" ["table"] (eV K Y)) (p7:Callee P w K mg base 16 "mask" ["table","codes"] (iN K Y)) {cL tP:HA}(a5:fd.code=.ref cL)(R:W.tabIn K "row_form" = LH (cL,tP)) (hT:W.CodeHd base cL tP/\base.BuiltinsAt mg tP)(C0:Callee P w K mg base 7 "mask" ["table","codes"] (iN K Y)):aD P w K mg base (CX1 P w) 17 f fd ["table"] (fA K Y):=by
 refine F.okTE a5 Z64 (λvs H Q E h=>?_)<|λA c0 s H vs Q E hr h=>?_
 .let(t,dv,bs,r,L,g_,i,o,rfl,g,Z,qE,q):=h;rfl
 let(t,dv,bs,r,L,g_,i,o,rfl,g,Z,qE,q):=h;calc⟨_,(ai<|au<|Ac (zs:=[("table",0,↥s+1)]) AL hr U (aa (aN nu hr U<|aa (pv 0) af)<|aa (aN oj hr U<|aa (pv 0) af)<|aa (yw (clos:=[("table",↥s+1)]) U hT.1 hT.2 U<|iv.mpr ⟨U,jo _⟩) af)<|iv.mpr ⟨⟨U,Or.inl U,U,Or.inl U⟩,jo _⟩),?_⟩;let a0:=g.td;let a6:=g.tb;let h4:=g.b4;calc⟨_,U,t,dv,bs,r,U,a0,∅,λl1 ys H1 s1 n1 e1 a7=>?_⟩;calc⟨_,U,t,dv,bs,r,L,U,a0.same s1,∅,g.rn,g.row,g.sp,g.mrk,λl2 as B H2 s2 n2 e2 hM N D=>?_⟩;let y:=s1.trans s2;let Eg:=(Z _ R).same y;let(c1,b1,_):=id Eg;refine⟨[(pQ Y64,"row_form.<locals>.<lambda>")],dn,?_,Eg,λf_ c' oc pm ctv V hf kp ef ec a3 wu inj=>?_⟩
 .intro p hp _ _;rw[fc.mp hp];rfl
 let l:So H2 V:=λd o p e=>kp d o (λz=>by rw[z,b1]at e;cases e;exact p) e
 refine λos C hz ho=>?_
 let u:=mO C hz;let a9:∃o,fO V ((([("table",0,↥s+1)]:L0 (Str×Nat×HA)).map (·.2.2)).zip os) (↥s+1)=LH (.frz o TTh):=by
  let(o,_,e):=dO (H:=V) (fz:=(([("table",0,↥s+1)]:L0 (Str×Nat×HA)).map (·.2.2)).zip os) (b:=↥s+1) (by rw[mM C];exact dn);exact⟨o,e⟩
 let a4:=rb (H:=V) (cl:=[("table",↥s+1)]) (ws:=[("table",.ref t)]) C (by simp) ho (λc hc=>by
  simp only[jc,mu,bL,jt,or_false]at hc;exact⟨_,dn,hc.symm⟩) (λx v e=>by
  unfold List.lookup at e;split at e
  .rename_i I
   cases e;rw[eq_of_beq I];exact⟨_,dn,U,U⟩
  .cases e)
 let nt:jb (fO V ((([("table",0,↥s+1)]:L0 (Str×Nat×HA)).map (·.2.2)).zip os)) f_ c' (W.kla_obj "<lambda>" "row_form.<locals>.<lambda>" (pP Y64) (og Y64) (j0 Y64) [("table",↥s+1)] pm c' ctv) "row_form.<locals>.<lambda>" [("table",↥s+1)] [("table",.ref t)]:=⟨u _ _ ef,⟨oc,u _ _ ec,a3⟩,a4⟩;let hN:CH (K':=K) ue P w K mg base f_ ⇑bs (λcd=>((msk (bG r cd) ⇑r:Nat):Int)) (λX=>jb X f_ c' (W.kla_obj "<lambda>" "row_form.<locals>.<lambda>" (pP Y64) (og Y64) (j0 Y64) [("table",↥s+1)] pm c' ctv) "row_form.<locals>.<lambda>" [("table",↥s+1)] [("table",.ref t)]/\Tbl Y.o Y.m Y.n X t r i o) :=
  ⟨⟨_,kh (doc:=.none) (pm:=pm) (ctv:=ctv) (c':=c') (c_0:=↥s+1) bl C0 inj,λX a cd Q0 M hl ha k=>⟨a,t,cd,r,i,o,U,M.1,M.2,ha,(λx I=>by rw[g.row x I,hl]),λb7 s0=>k _ _ (λb o _ e=>s0 b o e) U⟩⟩,λX M=>⟨_,_,M.1.1,U⟩,λX b7 M s0=>⟨M.1.same s0,Tbl.same M.2 s0⟩⟩
 let GU:MOK bs B:=⟨N.symm,∅,λG a1=>by
  let(c,ec):=lz a1;let hc:=(Ik.mp ec).1;let(b,eb):∃b,bs[c]?=LH b:=⟨_,Ij ∅⟩;let(pw,hm):=D c b G eb ec;exact xc (CM pw λx I=>(g.mrk c b eb).2 x<|(hm x).mp I) (g.mrk c b eb).1⟩
 refine⟨l1,l2,f_,ys,bs,as,B,Int,inferInstance,ue,_,_,U,(So.lst l (s2 _ _ e1) |> λe=>u _ _ e),((a7.mono s2.tups).mono l.tups).mono u.tups,u _ _<|l.lst e2,(MLs.so l hM).same u,GU,hN,⟨nt,Tbl.same (Tbl.so l<|Tbl.same a6 y) u⟩,λhg H4 s4=>?_,λhg v H4 b6 s4 GV a2 a8=>?_⟩
 .let J:=_L.hide_same C hz s4;refine qE (by rw[←g.gr B N D];exact hg) _ (((So.of y).trans l).trans<|So.of J) (λz T=>?_) ⟨_,R⟩;rw[R]at T;cases T;exact⟨wu.same J,λd o S e=>J _ _<|kp d o S<|y _ _ e⟩
 let J:=_L.hide_same C hz s4;let(o2,b3):=a9;let b0:Fzs H4 [↥s+1]:=λd S=>by rw[fc.mp S];exact⟨o2,s4 _ _ b3⟩
 refine q (by rw[←g.gr B N D];exact hg) v _ b6 (((So.of y).trans l).trans<|So.of J) (λz T=>?_) ⟨_,R⟩ GV (λj p cs ep b5=>?_) (a8.mono (So.hide b0).tups)
 .rw[R]at T;cases T;exact⟨wu.same J,λd o S e=>J _ _<|kp d o S<|y _ _ e⟩
 .let(G,O):∃G,B[j]?=LH G:=⟨_,Ij (by have:=(Ik.mp ep).1;lia)⟩;let(pw,hm,_):=a2 j p G cs ep O b5;calc⟨pw,λx=>(hm x).trans ⟨λh=>((D j p G ep O).2 x).mp h.1,λh=>⟨((D j p G ep O).2 x).mpr h,?_⟩⟩⟩;let(w_,_,I):=h;let:=(kP.mp I).2;rw[Dx,LV,LV]at this;calc this
theorem gE{c' c_0:HA}{doc pm ctv:Fe}(bl:Bl K mg Y)(C:Callee P w K mg base 7 "judged" ["table","rows"] (cX K Y)) (inj:∀x y c,([("table",c_0)]:L0 (Str×HA)).lookup x=LH c->([("table",c_0)]:L0 (Str×HA)).lookup y=LH c->x=y):HFn P w K mg base 8 f (dW K Y f c' c_0 doc pm ctv):=by
 let Z76:=@Z76 c_0;refine yx (qual := "verdict_form.<locals>.<lambda>") (e:=Y74) (c':=c') (cl:=[("table",c_0)]) (pm:=pm) (ctv:=ctv) Z76 inj (λl u=>match l,u with | [F],_=>rfl) (λk H Q E h=>?_) (λA g s H k Q E v h=>?_)
 .let(m,t,a,i,o,rfl,b,j,q):=h;rfl
 let(m,t,a,i,o,rfl,b,j,q):=h;calc⟨_,b,u9 U,λD=>⟨_,(aN C v U<|aa (pv 1)<|aa (pv 0) af),?_⟩⟩;let B:=b.2.2.fzs;let so:=So.hide B;calc⟨_,U,_,U,t,a,i,o,m,U,Tbl.so so j,λr G n d p=>q r _ (mK n) ?_⟩;rcases d with e|e
 .exact .inl<|(cz λz=>by have:=p r z;rw[e]at this;cases this).trans e
 .exact .inr e
theorem GW(F:Fun K "verdict_form" "verdict_form" s_verdict_form f fd) (bl:Bl K mg Y)(nr:Callee P w K mg base 17 "mapped" ["form","deep","change"] (fT K Y P w mg base 7)) (jx:br P w K mg base 17 "row_form" ["table"] (fA K Y)) (dX:Callee P w K mg base 17 "judged" ["table","rows"] (cX K Y)) {cL tP:HA}(c1:fd.code=.ref cL)(Z:W.tabIn K "verdict_form" = LH (cL,tP)) (hT:W.CodeHd base cL tP/\base.BuiltinsAt mg tP)(zi:Callee P w K mg base 7 "judged" ["table","rows"] (cX K Y)):aD P w K mg base (CX1 P w) 18 f fd ["table"] (eB K Y):=by
 refine F.okTE c1 Z75 (λvs H Q E h=>?_)<|λA d4 s H vs Q E hr h=>?_
 .let(t,dv,bs,a,L,g_,i,o,rfl,h,B,T,qE,q):=h;rfl
 let(t,dv,bs,a,L,g_,i,o,rfl,h,B,T,qE,q):=h;calc⟨_,(ai<|au<|Cu (zs:=[("table",0,↥s+1)]) nr hr U (aa (gJ jx passE hr U<|aa (pv 0) af)<|aa (ay aK U bl.len_ LG<|aa (aV (pv 0) U) af)<|aa (yw (clos:=[("table",↥s+1)]) U hT.1 hT.2 U<|iv.mpr ⟨U,jo _⟩) af)<|iv.mpr ⟨⟨U,Or.inl U,U,Or.inl U⟩,jo _⟩),?_⟩;let e0:=h.b4;let(rl,dx,dl,fs,xs,b3,f1,f2,d2,b6,e3,hR):=id h.td;let b7:⇑dv=⇑bs:=b6.1;refine⟨_,U,t,dv,bs,a,L,g_,i,o,U,h,B,λhg H1 r C S=>?_,λhg v H1 a8 r C S a4 V a5=>?_⟩
 .refine qE hg H1 r (λz e=>(C z e).1)<|λz e=>?_;rw[Z]at e;cases e;let(I,l):=S;let(pz,X,_):=B I l;exact tab_keep (T _ Z) (bl.nt0 I _ l Z).symm X (C I l).2
 generalize lC:List.zipWith (λp y=>bU p.1 p.2 y) bs a8=cols at a5;let hok:gD cols bs:=by
  rw[←lC];exact uk a4 h.le λj p y e1 e2=>⟨(V j p y e1 e2).1,λc J=>mS<|((V j p y e1 e2).2 c).mp J⟩
 let a3:⇑cols=⇑bs:=by rw[←lC,mv];lia
 let J:rE bs a cols:=⟨hok,a8,a4,lC.symm,V⟩;let M:=h.cl J;calc⟨_,U,t,_,_,_,_,U,r.ins b3,bl.k_Table,bl.na_Table_domains,f2,dl,_,U,.inl<|SqL.of<|r.lst d2,?_⟩;let(I,l):=S;let(b1,b5):=C I l;let a0:=bl.nt0 I _ l Z;let a2:dh H1 tP [(pQ Y74,"verdict_form.<locals>.<lambda>")]:=by
  let(pz,X,_):=B I l;exact tab_keep (T _ Z) a0.symm X b5
 let(d5,a7,_):=id a2;refine⟨[(pQ Y74,"verdict_form.<locals>.<lambda>")],dn,?_,a2,λf_ c' oc pm ctv H3 hf kp ef ec c0 wu inj=>?_⟩
 .intro p hp _ _;rw[fc.mp hp];rfl
 let O:So H1 H3:=λd o p e=>kp d o (λz=>by rw[z,a7]at e;cases e;exact p) e
 let GX:dh H3 I.2 [(pQ Y64,"row_form.<locals>.<lambda>")]:=tab_keep b1 a0 a7 kp;refine λos D hz ho=>?_
 let G:=mO D hz;let c3:∃o,fO H3 ((([("table",0,↥s+1)]:L0 (Str×Nat×HA)).map (·.2.2)).zip os) (↥s+1)=LH (.frz o TTh):=by
  let(o,_,e):=dO (H:=H3) (fz:=(([("table",0,↥s+1)]:L0 (Str×Nat×HA)).map (·.2.2)).zip os) (b:=↥s+1) (by rw[mM D];exact dn);exact⟨o,e⟩
 let GY:=rb (H:=H3) (cl:=[("table",↥s+1)]) (ws:=[("table",.ref t)]) D (by simp) ho (λc J=>by
  simp only[jc,mu,bL,jt,or_false]at J;exact⟨_,dn,J.symm⟩) (λx v e=>by
  unfold List.lookup at e;split at e
  .rename_i hx
   cases e;rw[eq_of_beq hx];exact⟨_,dn,U,U⟩
  .cases e)
 let nt:jb (fO H3 ((([("table",0,↥s+1)]:L0 (Str×Nat×HA)).map (·.2.2)).zip os)) f_ c' (W.kla_obj "<lambda>" "verdict_form.<locals>.<lambda>" (pP Y74) (og Y74) (j0 Y74) [("table",↥s+1)] pm c' ctv) "verdict_form.<locals>.<lambda>" [("table",↥s+1)] [("table",.ref t)]:=⟨G _ _ ef,⟨oc,G _ _ ec,c0⟩,GY⟩;let hN:D1 (K':=K) ue LVd P w K mg base f_ (vdm a i o) (λH0=>jb H0 f_ c' (W.kla_obj "<lambda>" "verdict_form.<locals>.<lambda>" (pP Y74) (og Y74) (j0 Y74) [("table",↥s+1)] pm c' ctv) "verdict_form.<locals>.<lambda>" [("table",↥s+1)] [("table",.ref t)]/\Tbl Y.o Y.m Y.n H0 t a i o) :=
  ⟨⟨_,gE (doc:=.none) (pm:=pm) (ctv:=ctv) (c':=c') (c_0:=↥s+1) bl zi inj,λH0 v x Q0 N hv k=>by
   let hv:v=.int x:=hv;subst hv;exact⟨x,t,a,i,o,U,N.1,N.2,λr_ d3 s0 b0=>k _ _ s0 ⟨r_,U,b0⟩⟩⟩,λH0 N=>⟨_,_,N.1.1,U⟩,λH0 d3 N s0=>⟨N.1.same s0,Tbl.same N.2 s0⟩⟩
 refine⟨Int,SI,inferInstance,inferInstance,ue,LVd,vdm a i o,_,⇑cols,lay (mkg a) cols [],v,f_,?_,∅,∅,?_,?_,hN,⟨nt,Tbl.same (Tbl.so O<|Tbl.so r h.tb) G⟩,λu H4 s4 a6=>?_⟩
 .rw[b7,←a3]
 .exact(a5.mono O.tups).mono G.tups
 .exact(uj hok M []).le hg
 rw[Ak hok]at a6;let R:=_L.hide_same D hz s4;let(o2,d1):=c3;let c4:Fzs H4 [↥s+1]:=λd hd=>by rw[fc.mp hd];exact⟨o2,s4 _ _ d1⟩
 let c2:=a6.mono (So.hide c4).tups;let a9:So H (hideL H4 [↥s+1]):=(r.trans O).trans<|So.of R;let(F',d0,c8,c7,c6,c5):=Bq a3 (lay (λcd=>vdm a i o<|mkg a cd) cols []) (λn F=>FmV (K:=K) LVd (hideL H4 [↥s+1]) n F u/\cH n F bs/\SmF 300 n F/\(∀y,InB y bs->Tel n F y (vdm a i o<|mkg a y))/\⇑(bxs n F)<=g_) ⟨c2,kK hok [],(uj hok M []).le hg,(λy a1=>by
  let:=jZ (g:=λcd=>vdm a i o<|mkg a cd) hok [] y a1;rw[rr,pX J (λx hx=>h.row x hx) a1]at this;exact this),by have:=pZ (g:=λcd=>vdm a i o<|mkg a cd) hok [];rw[h.prd J]at this;exact this⟩
 refine q hg u F' _ a9 (λz e=>?_) (λz e=>?_) d0 c8 c7 c6 c5
 .rw[l]at e;cases e;exact GX.same R
 .rw[Z]at e;cases e;calc wu.same R
theorem GZ(F:Fun K "tiling" "tiling" Y72 f fd) (bl:Bl K mg Y)(gz:Callee P w K mg base 17 "boxes" ["form","deep"] (eW K Y 7)) (jx:br P w K mg base 17 "row_form" ["table"] (fA K Y)):aD P w K mg base (CX1 P w) 18 f fd ["table"] (kN K Y):=by
 refine F.okEA Z73 λa2 A N s H vs Q E O h=>?_
 let(t,T,bs,b,L,g_,i,o,rfl,h,C,Z,q):=h;calc⟨_,(ai<|au<|aN gz O U<|aa (gJ jx passE O U<|aa (pv 0) af)<|aa (ay aK U bl.len_ LG<|aa (aV (pv 0) U) af) af),?_⟩;let a0:=h.b4;calc⟨_,U,t,T,bs,b,L,g_,i,o,U,h,C,(λB V a k _=>Z B V a λz e=>(k z e).1),λB v V n a k _ m d u=>?_⟩;let h1:=h.so a;let(rl,dx,dl,fs,xs,ht,f1,f2,M,G,a1,hR):=h1.td;generalize x:List.zipWith (λp y=>bU p.1 p.2 y) bs n=cols at u;let hok:gD cols bs:=by
  rw[←x];exact uk m h.le λj p y S R=>⟨(d j p y S R).1,λc hc=>mS<|((d j p y S R).2 c).mp hc⟩
 let J:⇑cols=⇑bs:=by rw[←x,mv];lia
 let I:T.length=⇑bs:=G.1;let r:⇑(bxs ⇑cols<|lay (mkg b) cols [])<=300:=by have:=pZ (g:=mkg b) hok [];rw[h.prd ⟨hok,n,m,x.symm,d⟩]at this;lia
 let D:=kK (g:=mkg b) hok [];refine⟨_,U,t,_,_,_,_,U,ht,bl.k_Table,bl.na_Table_domains,f2,dl,_,U,.inl<|SqL.of M,Int,inferInstance,ue,⇑cols,_,v,by rw[I,J],u,∅,xc r ⋯,(λX hq=>by rw[(mR D X hq).1.len];lia),λl W H2 s2 nl el hB=>?_⟩;calc q B l W cols H2 (a.trans<|So.of s2) (λz e=>((k z e).1).same s2) el ⟨hok,n,m,x.symm,d⟩ (CT hB) r
theorem G0(F:Fun K "spread" "spread" Y66 f fd) (bl:Bl K mg Y)(om:br P w K mg base 18 "spread_form" ["name","names","domains","outcome","form"] (eX K Y)) (nA:br P w K mg base 18 "verdict_form" ["table"] (eB K Y)):aD P w K mg base (CX1 P w) 19 f fd ["table"] (kO K Y):=by
 refine F.okEA Z67 λb3 A a7 s H vs Q E hr h=>?_
 let(t,T,V,wy,u,S,k,bs,o,L,g_,i,rfl,hT,ok,a8,J,rt,vt,C3,q,qF,qC,qM):=h;calc⟨_,(ai<|au<|gJ om passE hr U<|aa (aV (pv 0) U)<|aa (aV (pv 0) U)<|aa (aV (pv 0) U)<|aa (aV (pv 0) U)<|aa (gJ nA passE hr U<|aa (pv 0) af) af),?_⟩;let(rl,dx,na,dl,fs,xs,M,f1,f2,f3,f4,f5,f6,a5,a6,b0,hR,HG):=id hT;calc⟨_,U,t,_,_,_,_,U,M,bl.k_Table,bl.na_Table_name,f2,_,U,t,_,_,_,_,U,M,bl.k_Table,bl.na_Table_names,f5,_,U,t,_,_,_,_,U,M,bl.k_Table,bl.na_Table_domains,f6,_,U,t,_,_,_,_,U,M,bl.k_Table,bl.na_Table_outcome,f4,?_⟩;calc⟨_,U,t,S,bs,k,L,g_,i,o,U,J,rt,vt,qF,λN v F0 H1 d y x g1 g2 g3 g4 g5=>?_⟩;let(F,h1,D,Z,a3):=Bq ok.len F0 (λn F=>FmV (K:=K) LVd H1 n F v/\cH n F bs/\(∀r,InB r bs->Tel n F r (vdm k i o<|mkg k r))/\⇑(bxs n F)<=300) ⟨g1,g2,g4,xc g5 N⟩;let a9:=J.b4;let a1:∀q∈bxs ⇑u F,⇑q.1=⇑bs:=λc l=>(mR D c l).1.len
 let AM:∀c∈bxs ⇑u F,∃r,InB r bs/\c.2=vdm k i o (mkg k r):=λc l=>by
  let(G,b2,_):=mR D c l;exact⟨_,G.lows,fu b2<|Z _ G.lows⟩
 let fG:∀w∈bE (bxs ⇑u F),lu bs o w:=λw W=>by
  let(c,l,hs,rfl):=wH W;let(G,_,_):=mR D c l;let(r,C,X):=AM c l;let hc:=C3 r C c.2.2 (by rw[←X];exact Prod.ext hs U);refine⟨by show⇑(c.1.map _)=_;rw[bc,G.len],λj ps b R e2 p hp=>?_,hc.1,hc.2⟩;let R:(c.1.map λp=>[p])[j]?=LH ps:=R;rw[gM]at R;let(p0,ep,rfl):=EW.mp R;rw[fc.mp hp];let:=G.get j p0 b ep e2;exact⟨this.1,this.2.2⟩
 let a:TOk Y.m Y.n H1 V s!"only" T u S [] bs o:=⟨ok.words,ok.once,ok.one,ok.four,⋯,(λz=>LP z ⋯),aI.mono ok.doms λ_ _ p=>Dom.so d p,Dom.so d ok.out,ok.len,(λw W=>by cases W),wZ _⟩;refine⟨na,dl,T,V,u,S,F,v,bs,o,U,d.lst a5,d.lst a6,h1,a3,(λc l=>by rw[a1 c l];lia),a,fG,λB O t' I g a4=>?_,λB O I g=>?_,λa2 I g=>?_⟩
 .let a0:TOk Y.m Y.n H1 V s!"only" T u S (bE<|bxs ⇑u F) bs o:=⟨a.words,a.once,a.one,a.four,a.way,a.sum,a.doms,a.out,a.len,fG,O⟩;exact q N t' F I (d.trans<|So.of g) (y.same g) (x.same g) D Z B O a4<|a0.same g
 .exact qM N F I (d.trans<|So.of g) (y.same g) (x.same g) D Z B O
 .let(c,l,e):=a2;let(r,C,X):=AM c l;calc qC N ⟨r,C,by rw[←X];exact e⟩ I (d.trans<|So.of g) (y.same g) (x.same g)
theorem G1(F:Fun K "judged_tiles" "judged_tiles" Y43 f fd) (bl:Bl K mg Y)(dX:Callee P w K mg base 18 "judged" ["table","rows"] (cX K Y)) (zj:br P w K mg base 18 "tiling" ["table"] (kN K Y)):aD P w K mg base (CX1 P w) 19 f fd ["table"] (eF K Y):=by
 refine F.okEA Z43 λa7 A a6 s H vs Q E hr h=>?_
 let(t,dv,bs,b,L,g_,i,o,rfl,h,a2,qE,q):=h;refine⟨_,(ai<|au<|dS (aX<|gJ zj passE hr U<|aa (pv 0) af) (cU (N:=["box","rows","table"]) (k:=2) (fr:=[0]) (cl:=[("table",↥s+1)]) U U (~~~0) (~~~0) U U (iv.mpr ⟨U,jo _⟩) U) U (λ_ _ _ _=>(jO (K:=K) (n:=2) U U<|ax (aw (i:=0) (show(["box","rows","table"]:L0 Str).Nodup by decide+kernel) U (Or.inl U) (Or.inr U)) (ax (aw (i:=1) (show(["box","rows","table"]:L0 Str).Nodup by decide+kernel) U (Or.inl U) (Or.inr U)) bq))) (λ_ _ _ _=>bY) (λ_ _ _ _=>(ba<|aa (pv 0)<|aa (pv 1)<|aa (aN dX hr U<|aa (pv 2)<|aa (pv 1) af) af))),?_⟩;calc⟨_,U,t,dv,bs,b,L,g_,i,o,U,h,a2,qE,λhg l xs a H1 M a3 el hc X wQ=>?_⟩;let h1:=h.so M;let O:⇑xs=⇑(bxs ⇑a<|lay (mkg b) a []):=Paired.length X;let Eh:∀W∈bxs ⇑a (lay (mkg b) a []),∃m:Nat,W.2=(m:Int):=λW hq=>by
  let(cs,_,e):=yO hc hq;exact⟨_,e⟩
 generalize a5:bxs ⇑a (lay (mkg b) a [])=BX at X wQ O Eh;refine⟨l,U,⟨_,SqL.of el⟩,(let I_:HA->Nat->L0 V->Hp->Prop:=λD j u d=>ak H1 d/\d D=LH (.lst u)/\TiL K (hide d D) b i o u (BX.take j);dF (xs:=xs) I_ (λD C=>⟨ag C _,ae,U,λj x W e=>by simp at e⟩) (λD j u d C _ J=>SqL.of<|J.1 _ _ el) (λD j y u d C e J ts a1=>?_) (λD u d C J=>?_))⟩
 .let(v,Z,B):=J;let(qx,tx,G,eq,rfl,g1,g2):=X.get e;let hj:j<⇑xs:=(Ik.mp e).1;let(m,em):=Eh qx<|Il eq;let(T,S,rfl):∃T S,ts=[T,S]:=by
   match ts,a1 with
   | [T,S],_=>exact⟨T,S,U⟩
  rw[em]at g1;calc⟨tx,_,U,SqT.of<|v _ _ g1,U,_,_,U,_,_,U,U,⟨[LH (.ref G),LH (.int (m:Int))],U,U⟩,?_⟩;calc⟨_,U,_,U,_,U,_,U,t,b,i,o,(m:Int),U,(Tbl.same h1.tb v),λr H2 s2 a4=>?_⟩;let R:=s2 _ _ Z;refine⟨(by show 3<=HL;decide),λc g=>?_⟩;let I:=ag g<|.tup [.ref G,.int (m:Int),.ref r];let eT:upd H2 c (.tup [.ref G,.int (m:Int),.ref r]) c=LH (.tup [.ref G,.int (m:Int),.ref r]):=ae;let nT:c≠D:=λz=>by rw[z,R]at g;cases g
  let p:=I _ _ R;generalize upd H2 c (.tup [.ref G,.int (m:Int),.ref r])=H3 at I eT p⊢;let sA:=(v.trans s2).trans I;let a0:=B.1;rw[iR]at a0;calc dg.mk hj p (az ∅) ⟨sA.upd C,ae,?_⟩;rw[j4,take_snoc eq];exact TiL.snoc (B.same<|iH<|s2.trans I) ⟨c,G,r,m,U,em,bC eT nT,g2.mono (pf sA C).tups,SqT.hide (I.seqT a4.sq) p⟩
 .let(v,Z,B):=J;rw[O,hV]at B;calc q hg D u a d (M.trans<|So.of v) (a3.same v) Z hc (by rw[a5];exact B.same (dP d D)) (by have:=B.1;lia)
theorem G2(F:Fun K "thinned" "thinned" Y71 f fd) (bl:Bl K mg Y)(nB:br P w K mg base 19 "judged_tiles" ["table"] (eF K Y)) (lD:Callee P w K mg base 19 "last_idle" ["table","tiles","kept","needed"] (gy K Y)) (rY:Callee P w K mg base 19 "with_rows" ["table","rows"] (gx K Y)):aD P w K mg base (CX1 P w) 20 f fd ["table"] (jm K Y):=by
 refine F.okEA Z72 λq1 A o0 s H vs Q E hr h=>?_
 let(t,ou,nm,wy,zs,dv,c,bs,o,I,g_,L,rfl,hT,O,i1,j9,c2,rt,Ig,qE,q):=h
 refine⟨_,(aC (aJ (i:=1) Z72.nd U (Or.inl U)<|gJ nB passE hr U<|aa (pv 0) af)
  (aC (aJ (i:=2) Z72.nd U (Or.inl U)<|ua U U bl.list_ U bl.range_<|aa (ay aK U bl.len_ LG<|aa (aV (pv 0) U) af) af)
  (aC (uR (i:=3) Z72.nd U (Or.inl U) (aX<|pv 2) (fj U (~~~0) (~~~0) (~~~0) U) U (λ_ _ _ _=>bY)<|λ_ _ _ _=>fX)
  (aC (aJ (i:=4) Z72.nd U (Or.inr U)<|aN lD hr U<|aa (pv 0)<|aa (pv 1)<|aa (pv 2)<|aa (pv 3) af)
  (aC (xm (kC U U U) (aH uH (pv 4) fX<|aF _)
  (aC (bB<|lj PySem.F.plainAttrs_list PySem.F.slot_list_remove PySem.F.type_list_remove wm (pv 2)<|aa (pv 4) af)
  (aC (qY (i:=1) Z72.nd U (Or.inl U) (aX<|pv 1) (cU (N:=["box","rows","told","found"]) (k:=3) (fr:=[4]) (cl:=[("found",↥s+1+1)]) U U (~~~0) (~~~0) U U (iv.mpr ⟨U,jo _⟩) U) U (λ_ _ _ _=>(jO (K:=K) (n:=3) U U<|ax (aw (i:=0) (show(["box","rows","told","found"]:L0 Str).Nodup by decide+kernel) U (Or.inl U) (Or.inr U)) (ax (aw (i:=1) (show(["box","rows","told","found"]:L0 Str).Nodup by decide+kernel) U (Or.inl U) (Or.inr U)) (ax (aw (i:=2) (show(["box","rows","told","found"]:L0 Str).Nodup by decide+kernel) U (Or.inl U) (Or.inr U)) bq)))) (λ_ _ _ _=>bY) (λ_ _ _ _=>(ba<|aa (pv 0)<|aa (aG sN (pv 1)<|uD BM<|aG sM ao<|pv 3)<|aa (pv 2) af)))
  (ai<|aJ (i:=4) Z72.nd U (Or.inr U)<|aN lD hr U<|aa (pv 0)<|aa (pv 1)<|aa (pv 2)<|aa (pv 3) af))))
  (ai<|au<|aN rY hr U<|aa (pv 0)<|aa (fk (aX<|pv 2) (dD (N:=["k","table"]) (fr:=[0]) (cl:=[("table",↥s+1)]) U U (~~~0) (~~~0) U (~~~0) U U U (iv.mpr ⟨U,jo _⟩) U) U (λ_ _ _ _=>bY)<|λ_ _ _ _=>(aW (qu (K:=K) U) (jQ (K:=K) U (pv 1) U) (pv 0)<|λ_ _=>U)) af)))))),?_⟩
 dsimp only[bA,Cx.nox,Cx.wish];show(let r5:TS:=_;let r4:TS:=bX _ r5;let r3:TS:=bX _ r4;let S:TS:=bX _ r3;let r1:TS:=bX _ S;bX _ r1 _ _ _);intro _ _ _ _ _;by_cases hg:g_<=300
 rotate_left
 .exact⟨λ_ _=>False,⟨_,U,t,dv,bs,c,L,g_,I,o,U,c2,rt,qE,λh=>LP h hg⟩,λ_ _ h=>h.elim⟩
 let q:=q hg;refine(let M:St->Hp->Prop:=λG d=>So H d/\dU K d/\∃(X:HA)(xs:L0 V)(C:L0 Nat),d X=LH (.lst xs)/\TlM K d c I o xs C/\MsR bs c (List.range ⇑c) C/\⇑xs<=300/\G=[LH (.ref t),LH<|.ref X,LI,LI,LI];⟨M,?_,?_⟩)
 .refine⟨_,U,t,dv,bs,c,L,g_,I,o,U,c2,rt,(λh=>LP hg ∅),λ_ l xs o2 H1 a0 a9 el hc l0 wQ=>⟨a0,a9,l,xs,_,el,TlM.of l0,MsR.first hc c2.row,wQ,U⟩⟩
 rintro p0 H1 ⟨a0,a9,a8,c3,e6,Ei,c0,l5,wQ,rfl⟩;let c1:=hT.so a0;let Ej:TOk Y.m Y.n H1 nm wy ou zs dv c (bs) o:=⟨O.words,O.once,O.one,O.four,O.way,λz=>let ⟨dx,fs,e⟩:=O.sum z;⟨dx,fs,a0 _ _ trivial e⟩,aI.mono O.doms λ_ _ p=>Dom.so a0 p,Dom.so a0 O.out,O.len,O.rows,O.few⟩;let Ek:Tbl Y.o Y.m Y.n H1 t c I o:=c1.tbl i1 Ej.out j9;let(rl,dx,na,dl,fs,rx,ht,f1,f2,f3,f4,f5,f6,p9,q0,d5,hR,gn):=id c1;let i8:⇑rx=⇑c:=hR.1;refine(let M:St->Hp->Prop:=λG d=>ak H1 d/\∃kl:HA,H1 kl=LI/\d kl=LH (.lst<|vN<|List.range ⇑c)/\G=[LH (.ref t),LH<|.ref a8,LH<|.ref kl,LI,LI];⟨M,?_,?_⟩)
 .refine⟨_,U,t,_,_,_,_,U,ht,bl.k_Table,bl.na_Table_rows,f1,rl,_,U,.inl<|SqL.of d5,⇑rx,U,∅,λp hp=>⟨ag hp _,p,hp,?_,U⟩⟩;rw[ae,CQ,i8]
 rintro o6 H2 ⟨s2,kl,g9,a7,rfl⟩;refine(let M:St->Hp->Prop:=λG d=>ak H2 d/\∃(B:HA)(W:L0 V),H2 B=LI/\d B=LH (.lst W)/\W.length=⇑c/\(∀v∈W,v=.non)/\G=[LH (.ref t),LH<|.ref a8,LH<|.ref kl,LH<|.ref B,LI];⟨M,?_,?_⟩)
 .refine⟨_,U,kl,U,⟨_,SqL.of a7⟩,(let M:HA->Nat->L0 V->Hp->Prop:=λD j J d=>ak H2 d/\d D=LH (.lst J)/\J.length=j/\∀v∈J,v=.non;dE (xs:=vN<|List.range ⇑c) M (λD R=>⟨ag R _,ae,U,λv hv=>by cases hv⟩) (λD j J d R _ Z=>SqL.of<|Z.1 _ _ a7) (λD j y J d R e Z=>?_) (λD J d R Z=>?_))⟩
  .let(T,eD,hl,hv):=Z;let hj:j<⇑(vN<|List.range ⇑c):=(Ik.mp e).1;let b7:=hj;rw[mT,ja]at b7;refine dg.mk hj eD (az ∅) ⟨T.upd R,ae,by rw[dV,ie,hl],λv i2=>?_⟩;rcases hZ.mp i2 with h|h
   .exact hv v h
   .exact fc.mp h
  .let(T,eD,hl,hv):=Z;rw[mT,ja]at hl;exact⟨T,D,J,R,eD,hl,hv,U⟩
 rintro o5 H3 ⟨s3,B,g8,c5,m4,G3,j1,rfl⟩;let El:=s3 _ _ a7;let a6:kl≠B:=λz=>by rw[z,c5]at a7;cases a7
 let Em:H1 B=none:=s2.free c5;let c4:=s2.trans s3;let(N,hN):∃N,N=⇑c:=⟨_,U⟩;refine(let M:St->Hp->Prop:=λG d=>So H d/\dU K d/\ak H1 (HH d B kl)/\∃(X:HA)(xs W:L0 V)(C g:L0 Nat)(fv:V),HH d B kl X=LH (.lst xs)/\TlM K (HH d B kl) c I o xs C/\MsR bs c g C/\C.length<=300/\d kl=LH (.lst<|vN g)/\g.Pairwise (· < ·)/\(∀k∈g,k<⇑c)/\(∀r,ThR bs c I o g r->ThR bs c I o (List.range ⇑c) r)/\d B=LH (.lst W)/\W.length=⇑c/\(∀v∈W,v=.non\/∃b:Nat,v=.int (b:Int)/\b<C.length)/\((∃a k:Nat,g[a]?=LH k/\fv=.int (k:Int)/\(∀m∈C,cb c I o k m=LK)/\∀j k',a<j->g[j]?=LH k'->¬ ∀m∈C,cb c I o k' m=LK)\/(fv=.non/\∀k∈g,¬ ∀m∈C,cb c I o k m=LK))/\G=[LH (.ref t),LH<|.ref X,LH<|.ref kl,LH<|.ref B,LH fv];⟨M,?_,?_⟩)
 .let b5:ak H1 (hide H3 B):=pf c4 Em;refine⟨_,U,_,U,_,U,_,U,t,a8,kl,B,c3,g8,e6,List.range ⇑c,c,I,o,U,Tbl.same Ek b5,b5 _ _ Ei,c0.same b5,bC El a6,(λk hk=>by rw[G3];exact iu.mp hk),∅,m4,(λv hv=>.inl<|j1 v hv),λv b0 H4 s4 n0 p7 b4 hv=>?_⟩;let a2:=HH.same (kl:=kl) s4;let k1:ak H1 (HH H4 B kl):=(HH.keep c4 Em g9).trans a2;let c7:ak H1 H4:=k1.trans<|HH.le _ _ _;refine⟨a0.trans<|So.of c7,a9.same c7,k1,a8,c3,b0,e6,List.range ⇑c,v,k1 _ _ Ei,c0.same k1,l5,by rw[←c0.1];exact wQ,s4 _ _<|bC El a6,lg,(λk hk=>iu.mp hk),(λr h=>h),n0,∅,b4,hv,U⟩
 rintro o4 H4 ⟨f8,g0,k4,e9,e8,g7,n7,h7,m1,G4,k9,l3,l6,G5,g4,k0,G6,G7,G8,b4,k8,rfl⟩;refine(let M:St->Hp->Prop:=λG d=>So H d/\dU K d/\ak H1 d/\∃(X:HA)(g:L0 Nat),d kl=LH (.lst<|vN g)/\⇑g<=⇑c/\(∀k∈g,k<⇑c)/\ThR bs c I o (List.range ⇑c) g/\G=[LH (.ref t),LH<|.ref X,LH<|.ref kl,LH<|.ref B,LH .non];⟨M,?_,?_⟩)
 .refine(let M:Nat->St->Hp->Prop:=λn σ d=>So H d/\dU K d/\ak H1 (HH d B kl)/\∃(X:HA)(xs W:L0 V)(C g:L0 Nat)(fv:V),n=⇑g/\HH d B kl X=LH (.lst xs)/\TlM K (HH d B kl) c I o xs C/\MsR bs c g C/\C.length<=300/\d kl=LH (.lst<|vN g)/\g.Pairwise (· < ·)/\(∀k∈g,k<⇑c)/\(∀r,ThR bs c I o g r->ThR bs c I o (List.range ⇑c) r)/\d B=LH (.lst W)/\W.length=⇑c/\(∀v∈W,v=.non\/∃b:Nat,v=.int (b:Int)/\b<C.length)/\((∃a k:Nat,g[a]?=LH k/\fv=.int (k:Int)/\(∀m∈C,cb c I o k m=LK)/\∀j k',a<j->g[j]?=LH k'->¬ ∀m∈C,cb c I o k' m=LK)\/(fv=.non/\∀k∈g,¬ ∀m∈C,cb c I o k m=LK))/\σ=[LH (.ref t),LH<|.ref X,LH<|.ref kl,LH<|.ref B,LH fv];⟨M,⟨_,f8,g0,k4,e9,e8,g7,n7,h7,m1,U,G4,k9,l3,l6,G5,g4,k0,G6,G7,G8,b4,k8,U⟩,?_⟩);rintro n σ d ⟨so,g3,k1,X,xs,W,C,g,fv,p2,d4,hX,hM,h3,C4,pw,a1,c8,G9,j7,Hi,hf,rfl⟩;let h9:⇑xs=C.length:=hX.1;let kH:ak H1 d:=k1.trans<|HH.le _ _ _;rcases hf with⟨a,k,ea,rfl,d1,jW⟩|⟨rfl,j2⟩
  rotate_left
  .refine⟨_,U,U,LK,U,bK ⟨so,g3,kH,X,g,C4,CP pw a1,a1,c8 _<|.fin λj hj hI=>?_,U⟩⟩;let ej:=Ij hj;exact j2 _ (Il ej)<|(hM.idl pw a1 ej).mpr hI
  let p8:=a1 k<|Il ea;let d2:=(Ik.mp ea).1;refine⟨_,U,U,LJ,by rw[LR (by intro z;cases z)];rfl,df ?_⟩;calc(let M:St->Hp->Prop:=λG H2=>∃m',m'<n/\(So H H2/\dU K H2/\ak H1 (HH H2 B kl)/\∃(X:HA)(xs W:L0 V)(C g:L0 Nat)(fv:V),m'=⇑g/\HH H2 B kl X=LH (.lst xs)/\TlM K (HH H2 B kl) c I o xs C/\MsR bs c g C/\C.length<=300/\H2 kl=LH (.lst<|vN g)/\g.Pairwise (· < ·)/\(∀k∈g,k<⇑c)/\(∀r,ThR bs c I o g r->ThR bs c I o (List.range ⇑c) r)/\H2 B=LH (.lst W)/\W.length=⇑c/\(∀v∈W,v=.non\/∃b:Nat,v=.int (b:Int)/\b<C.length)/\((∃a k:Nat,g[a]?=LH k/\fv=.int (k:Int)/\(∀m∈C,cb c I o k m=LK)/\∀j k',a<j->g[j]?=LH k'->¬ ∀m∈C,cb c I o k' m=LK)\/(fv=.non/\∀k∈g,¬ ∀m∈C,cb c I o k m=LK))/\G=[LH (.ref t),LH<|.ref X,LH<|.ref kl,LH<|.ref B,LH fv]);⟨M,(λ_ _ h=>h),?_⟩);let Hk:∀r,ThR bs c I o (g.eraseIdx a) r->ThR bs c I o (List.range ⇑c) r:=λr h=>by
   calc c8 r<|.step (a:=a) d2 ((hM.idl pw a1 ea).mp d1) (λj hj k3 hI=>?_) h;let ej:=Ij k3;exact jW j _ hj ej<|(hM.idl pw a1 ej).mpr hI
  refine(let M:St->Hp->Prop:=λG H2=>H2=upd d kl (.lst<|vN<|g.eraseIdx a)/\G=[LH (.ref t),LH<|.ref X,LH<|.ref kl,LH<|.ref B,LH (.int (k:Int))];⟨M,?_,?_⟩)
  .refine⟨_,U,.inl ⟨U,_,SqL.of C4⟩,_,U,kl,g.map (λn:Nat=>(n:Int)),(k:Int),a,U,U,by rw[←As];exact C4,by rw[gM,ea];rfl,λm hm z=>?_,?_,U⟩
   .rw[gM]at z;let(k2,e2,e3):=EW.mp z;let(h1,e1):=Ik.mp e2;let(h2,e4):=Ik.mp ea;let:=nS.mp pw m a h1 h2 hm;lia
   .rw[yS]
  rintro e7 H5 ⟨e5,rfl⟩;let Hl:HH H5 B kl=HH d B kl:=by rw[e5];exact HH.upd
  let wR:H5 kl=LH (.lst<|vN<|g.eraseIdx a):=by rw[e5];exact ae
  let C5:H5 B=LH (.lst W):=by rw[e5];exact(av a6.symm).trans G9
  let s5:ak (HH d B kl) H5:=by rw[←Hl];exact HH.le _ _ _
  clear e5;refine(let M:St->Hp->Prop:=λG H6=>ak H5 H6/\∃(a4:HA)(J:L0 V),HH H6 B kl a4=LH (.lst J)/\TlM K (HH H6 B kl) c I o J (C.map λm=>_M.clr m k)/\G=[LH (.ref t),LH<|.ref a4,LH<|.ref kl,LH<|.ref B,LH (.int (k:Int))];⟨M,?_,?_⟩)
  .refine⟨_,U,X,U,⟨_,SqL.of<|s5 _ _ d4⟩,(let M:HA->Nat->L0 V->Hp->Prop:=λD j J H6=>ak H5 H6/\H6 D=LH (.lst J)/\aI J ((C.take j).map λm=>_M.clr m k) (λtt m=>tt≠D/\tt≠B/\tt≠kl/\∃b S:HA,H6 tt=LH (.tup [.ref b,.int (m:Int),.ref S])/\SqT K (HH d B kl) S (tp<|vd c I o m));dF (xs:=xs) M (λD R=>⟨ag R _,ae,aI.nil⟩) (λD j J H6 R _ Z=>SqL.of<|Z.1 _ _<|s5 _ _ d4) (λD j y J H6 R e Z ts i7=>?_) (λD J H6 R Z=>?_))⟩
   .let(T,eD,hy):=Z;let(ta,m,rfl,em,b,S,g1,g2):=aI.get hX e;let hj:j<⇑xs:=(Ik.mp e).1;let(t0,t1,t2,rfl):∃t0 t1 t2,ts=[t0,t1,t2]:=by
     match ts,i7 with
     | [t0,t1,t2],_=>exact⟨t0,t1,t2,U⟩
    let m0:=T _ _<|s5 _ _ g1;let b3:=hy.1;rw[bc,iR]at b3;calc⟨ta,_,U,SqT.of m0,U,_,_,U,_,_,U,_,_,U,U,⟨[LH (.ref b),LH<|.int (m:Int),LH (.ref S)],U,U⟩,?_⟩;refine⟨_,U,_,U,_,U,_,_,U,U,⟨∅,∅,⋯⟩,_,U,_,_,U,U,_,U,(by show 3<=HL;decide),λtt a3=>?_⟩;rw[rH];let u:=ag a3<|.tup [.ref b,.int ((_M.clr m k:Nat):Int),.ref S];let et:upd H6 tt (.tup [.ref b,.int ((_M.clr m k:Nat):Int),.ref S]) tt=LH (.tup [.ref b,.int ((_M.clr m k:Nat):Int),.ref S]):=ae;let nT:tt≠D:=λz=>by rw[z,eD]at a3;cases a3
    let h0:tt≠B:=λz=>by rw[z,T _ _ C5]at a3;cases a3
    let h4:tt≠kl:=λz=>by rw[z,T _ _ wR]at a3;cases a3
    let e0:=u _ _ eD;generalize upd H6 tt (.tup [.ref b,.int ((_M.clr m k:Nat):Int),.ref S])=H7 at u et e0⊢;calc dg.mk hj e0 (az ∅) ⟨(T.trans u).upd R,ae,?_⟩;rw[take_snoc em,gd];let h8:aI (J++[.ref tt]) ((C.take j).map (λm=>_M.clr m k)++[_M.clr m k]) (λtt m=>tt≠D/\tt≠B/\tt≠kl/\∃b S:HA,H7 tt=LH (.tup [.ref b,.int (m:Int),.ref S])/\SqT K (HH d B kl) S (tp<|vd c I o m)):=aI.snoc (aI.mono hy λ_ _ ⟨n1,n2,n3,b,S,e,f⟩=>⟨n1,n2,n3,b,S,u _ _ e,f⟩) ⟨nT,h0,h4,b,S,et,TlM.clr g2<|d1 m<|Il em⟩;exact aI.mono h8 λ_ _ ⟨n1,n2,n3,b,S,e,f⟩=>⟨n1,n2,n3,b,S,(av n1).trans e,f⟩
   .let(T,eD,hy):=Z;rw[h9,hV]at hy;let h5:D≠B:=λz=>by rw[z,C5]at R;cases R
    let h6:D≠kl:=λz=>by rw[z,wR]at R;cases R
    let a2:ak (HH d B kl) (HH H6 B kl):=λb o e=>HH.of (T _ _<|s5 _ _ e) (HH.ne e).1 (HH.ne e).2
    exact⟨T,D,J,HH.of eD h5 h6,aI.mono hy λ_ _ ⟨_,n2,n3,b,S,e,f⟩=>⟨b,S,HH.of e n2 n3,a2.seqT f⟩,U⟩
  rintro o3 H6 ⟨s6,a4,J,En,d3,rfl⟩;let Eo:=s6 _ _ wR;let Hm:=s6 _ _ C5;let k6:ak H1 (HH H6 B kl):=λb o e=>HH.of (s6 _ _<|s5 _ _<|k1 _ _ e) (HH.ne<|k1 _ _ e).1 (HH.ne<|k1 _ _ e).2
  let b1:ak (HH H6 B kl) (hide H6 B):=dP _ _;let l4:=hM.erase pw a1 ea;let g5:=yR pw a;let Ep:∀k'∈g.eraseIdx a,k'<⇑c:=λk' b6=>a1 k' ((mem_erase pw ea).mp b6).1
  let d0:⇑(C.map λm=>_M.clr m k)=C.length:=bc _;refine⟨_,U,_,U,_,U,_,U,t,a4,kl,B,J,W,C.map<|λm=>_M.clr m k,g.eraseIdx a,c,I,o,U,Tbl.same (Tbl.same Ek k6) b1,b1 _ _ En,d3.same b1,bC Eo a6,(λk' b6=>by rw[j7];exact Ep k' b6),∅,Hm,(λv hv=>by rw[d0];exact Hi v hv),λv b0 H7 s7 m9 p3 j8 hv=>?_⟩;let a2:=HH.same (kl:=kl) s7;let k7:=k6.trans a2;let c6:ak H1 H7:=k7.trans<|HH.le _ _ _;refine⟨⇑(g.eraseIdx a),by rw[List.length_eraseIdx,LO d2];lia,a0.trans<|So.of c6,a9.same c6,k7,a4,J,b0,_,g.eraseIdx a,v,U,a2 _ _ En,d3.same a2,l4,by rw[d0];exact h3,s7 _ _<|bC Eo a6,g5,Ep,Hk,m9,∅,j8,hv,U⟩
 rintro e7 H5 ⟨f0,f9,k5,p1,g,wR,Ih,Er,Hn,rfl⟩;refine⟨_,U,_,U,kl,U,⟨_,SqL.of wR⟩,(let M:HA->Nat->L0 V->Hp->Prop:=λD j J d=>ak H5 d/\d D=LH (.lst J)/\aI J ((g.take j).map<|gR c) (λr x=>eQ NT H5 r x);dE (xs:=vN g) M (λD R=>⟨ag R _,ae,aI.nil⟩) (λD j J d R _ Z=>SqL.of<|Z.1 _ _ wR) (λD j y J d R e Z=>?_) (λD J d R Z=>?_))⟩
 .let(T,eD,hy):=Z;let(k,rfl,ek):=Bp e;let hj:j<⇑(vN g):=(Ik.mp e).1;let b7:=hj;rw[mT]at b7;let hk:=Er k<|Il ek;let(ra,m2,i9):=hR.2 k _<|yU hk;let b3:=hy.1;rw[bc,iR]at b3;let a5:=k5.trans T;calc⟨_,U,t,_,_,_,_,U,a5 _ _ ht,bl.k_Table,bl.na_Table_rows,f1,_,U,rl,_,_,_,U,U,SqL.of<|a5 _ _ d5,aM m2,dg.mk hj eD (az ∅) ⟨T.upd R,ae,?_⟩⟩;rw[take_snoc ek,gd];exact aI.snoc hy<|eQ.same i9 k5
 .let(T,eD,hy):=Z;rw[mT,hV]at hy;let a5:=k5.trans T;let l2:RL NT d J (g.map<|gR c):=aI.mono hy λ_ _ p=>eQ.same p T
  let g6:TOk Y.m Y.n d nm wy ou zs dv (g.map<|gR c) (bs) o:=by
   let o1:=Ej.same a5;refine⟨o1.words,o1.once,o1.one,o1.four,o1.way,o1.sum,o1.doms,o1.out,o1.len,λw hw=>?_,?_⟩
   .let(k,hk,rfl):=dy.mp hw;exact o1.rows _<|Il<|yU<|Er k hk
   .rw[bc];let:=o1.few;lia
  calc⟨t,D,ou,nm,wy,zs,dv,J,c,g.map<|gR c,bs,o,U,c1.same a5,g6,eD,l2,λt' H9 s9 l1=>?_⟩;calc q t' g H9 (f0.trans<|So.of<|T.trans s9) (f9.same<|T.trans s9) Hn l1
theorem Ho(F:Fun K "_law_told" "_law_told" Y52 f fd) (bl:Bl K mg Y)(wU:br P w K mg base 20 "thinned" ["table"] (jm K Y)) (zk:br P w K mg base 20 "spread" ["table"] (kO K Y)):aD P w K mg base CX0 21 f fd ["table","thin"] (hU K Y):=by
 refine F.okA Z52 λb7 A b3 s H vs Q E B h=>?_
 let(t,ou,nm,wy,zs,dv,x,bs,o,wi,g_,L,thin,rfl,hT,b0,a7,a1,a9,rt,vt,b1,C3,q):=h
 refine⟨_,(ar (aJ (i:=2) Z52.nd U (Or.inl U) fX)
  (ar (aJ (i:=3) Z52.nd U (Or.inl U)<|bj af)
  (aC (B6 (G:=λC=>gc K C) (i:=4) (Ct (ck<|pv 1) (uV (i:=2) Z52.nd U (Or.inl U)<|xO wU B U U<|aa (pv 0) af)<|uV (i:=2) Z52.nd U (Or.inl U)<|xO zk B U U<|aa (pv 0) af) U U U U bl.TableError_ Z52.nd U U<|λC e oe hG hc=>(ai<|aJ (i:=3) Z52.nd U (Or.inl U)<|bj<|aa (ay (iA hc hG) U bl.isinstance_ PyProof.Rows.boot_isinstance<|aa (pv 4)<|aa (fY (v:=.ty "ValueError") U bl.ValueError_ PyProof.Rows.Boot.ValueError U) af)<|aa (ay (iA hc hG) U bl.isinstance_ PyProof.Rows.boot_isinstance<|aa (pv 4)<|aa (cj (v:=.ref Y.b) U bl.TooFine_ U) af)<|aa (ay (iA hc hG) U bl.isinstance_ PyProof.Rows.boot_isinstance<|aa (pv 4)<|aa (cj (v:=.ref Y.c) U bl.Clash_ U) af)<|aa (ay (iA hc hG) U bl.isinstance_ PyProof.Rows.boot_isinstance<|aa (pv 4)<|aa (cj (v:=.ref Y.d) U bl.TooMany_ U) af) af))
  (aC (aS (aH (xD B) (pv 3) (bj af)<|aF _)
  (ai<|au<|ba<|aa aL<|aa (pv 2) af)
  aE)
  (ar (bT IV.never U (pL U bl.enumerate_<|aa (bj<|aa aL<|aa aL<|aa aL af) af) (cZ U<|ax (aw (i:=5) Z52.nd U<|Or.inl U)<|ax (aw (i:=6) Z52.nd U<|Or.inl U) bq)
  (ai (aS (aH (xD B) (pv 3) (bj<|aa fL<|aa (cI cP (pv 5) ao<|aF _)<|aa (cI cP (pv 5) ao<|aF _)<|aa (cI cP (pv 5) ao<|aF _) af)<|aF _)
  (ai<|au<|ba<|aa (pv 6)<|aa fX af)
  aE)))
  (ai<|au<|ba<|aa aL<|aa fX af)))))),?_⟩
 dsimp only[bA,Cx.nox,Cx.wish];show(let r5:TS:=_;let r4:TS:=bp _ r5;let r3:TS:=bX _ r4;let r2:TS:=bX _ r3;let r1:TS:=bp _ r2;bp _ r1 _ _ _);intro _ _ _ _ _;refine⟨(by show 0<=HL;decide),λl hl=>?_⟩;let J:=ag hl<|.lst [];let el:upd H l (.lst []) l=LH (.lst []):=ae;generalize upd H l (.lst [])=H0 at J el⊢;let I:So H H0:=So.of J;let a2:=hT.same J;let Es:=b0.same J;let Et:=a9.so I;refine(let I_:St->Hp->Prop:=λR a=>So H a/\∃(v:V)(M:HA),R=[LH (.ref t),LH<|.bl thin,LH v,LH<|.ref M,LI,LI,LI]/\((a M=LH (.lst [])/\TdI K Y.o Y.m Y.n a nm wy ou zs dv x bs o wi g_ thin s!"made" v)\/(∃j:Nat,j<3/\a M=LH (.lst<|(kd3 j).map V.bl)/\v=.non/\TdI K Y.o Y.m Y.n a nm wy ou zs dv x bs o wi g_ thin (wd3.getD j s!"") .non));⟨I_,?_,?_⟩)
 .refine⟨_,U,_,U,?_⟩;cases thin with
  |true =>
   calc df ⟨_,U,t,ou,nm,wy,zs,dv,x,bs,o,wi,g_,L,U,a2,Es,a7,a1,Et,rt.same J,b1,λu a so a4=>?_,λu t' ks a so a4 a8 X=>?_⟩;calc⟨_,U,bl.e_TooFine,bl.l_TooFine,λe=>?_⟩;refine⟨_,U,_,LJ,U,.inr<|.inl ⟨_,U,bl.v_TooFine⟩,_,U,_,LJ,U,.inl ⟨_,U,bl.g_TooFine_TooFine⟩,_,U,_,LK,U,.inl ⟨_,U,bl.g_TooFine_Clash⟩,_,U,_,LK,U,.inl ⟨_,U,bl.g_TooFine_TooMany⟩,(by show 4<=HL;decide),λp g=>?_⟩;calc⟨(I.trans so).trans<|So.of<|ag g _,.non,p,U,.inr ⟨0,⋯,ae,U,.fine u⟩⟩;exact⟨I.trans so,_,l,U,.inl ⟨so.lst el,.thin u a8 X⟩⟩
  |false =>
   refine bK ⟨_,U,t,ou,nm,wy,zs,dv,x,bs,o,L,g_,wi,U,a2,Es,a1,Et,rt.same J,vt.same J,C3,λu t' F_ a so _ _ hs ht W gn X a5=>?_,λu a so _ _=>?_,λu hc a so _ _=>?_,λu F_ a so _ _ hs ht W gn=>?_⟩
   .exact⟨I.trans so,_,l,U,.inl ⟨so.lst el,.made u hs ht W gn X a5⟩⟩
   .skip
    calc⟨_,U,bl.e_TooFine,bl.l_TooFine,λe=>?_⟩;refine⟨_,U,_,LJ,U,.inr<|.inl ⟨_,U,bl.v_TooFine⟩,_,U,_,LJ,U,.inl ⟨_,U,bl.g_TooFine_TooFine⟩,_,U,_,LK,U,.inl ⟨_,U,bl.g_TooFine_Clash⟩,_,U,_,LK,U,.inl ⟨_,U,bl.g_TooFine_TooMany⟩,(by show 4<=HL;decide),λp g=>?_⟩;exact⟨(I.trans so).trans<|So.of<|ag g _,.non,p,U,.inr ⟨0,⋯,ae,U,.fine u⟩⟩
   .skip
    calc⟨_,U,bl.e_Clash,bl.l_Clash,λe=>?_⟩;refine⟨_,U,_,LJ,U,.inr<|.inl ⟨_,U,bl.v_Clash⟩,_,U,_,LK,U,.inl ⟨_,U,bl.g_Clash_TooFine⟩,_,U,_,LJ,U,.inl ⟨_,U,bl.g_Clash_Clash⟩,_,U,_,LK,U,.inl ⟨_,U,bl.g_Clash_TooMany⟩,(by show 4<=HL;decide),λp g=>?_⟩;exact⟨(I.trans so).trans<|So.of<|ag g _,.non,p,U,.inr ⟨1,⋯,ae,U,.clash u hc⟩⟩
   .skip
    calc⟨_,U,bl.e_TooMany,bl.l_TooMany,λe=>?_⟩;refine⟨_,U,_,LJ,U,.inr<|.inl ⟨_,U,bl.v_TooMany⟩,_,U,_,LK,U,.inl ⟨_,U,bl.g_TooMany_TooFine⟩,_,U,_,LK,U,.inl ⟨_,U,bl.g_TooMany_Clash⟩,_,U,_,LJ,U,.inl ⟨_,U,bl.g_TooMany_TooMany⟩,(by show 4<=HL;decide),λp g=>?_⟩;exact⟨(I.trans so).trans<|So.of<|ag g _,.non,p,U,.inr ⟨2,⋯,ae,U,.many u hs ht W gn⟩⟩
 rintro b5 H1 ⟨a0,v,M,rfl,hk⟩;refine(let I_:St->Hp->Prop:=λR a=>∃j:Nat,j<3/\ak H1 a/\a M=LH (.lst<|(kd3 j).map V.bl)/\TdI K Y.o Y.m Y.n a nm wy ou zs dv x bs o wi g_ thin (wd3.getD j s!"") .non/\R=[LH (.ref t),LH<|.bl thin,LH v,LH<|.ref M,LI,LI,LI];⟨I_,?_,?_⟩)
 .refine⟨_,U,(by show 0<=HL;decide),λp g=>?_⟩;let s2:=ag g<|.lst [];let N:upd H1 p (.lst []) p=LH (.lst<|([]:L0 Bool).map V.bl):=ae;generalize upd H1 p (.lst [])=H2 at s2 N⊢;rcases hk with⟨O,Z⟩|⟨j,hj,O,rfl,Z⟩
  .refine j6 (xs:=[]) (SqL.of<|s2 _ _ O) (SqL.of N) (r:=LJ) ⟨λ_=>U,λ_=>U⟩ ⟨_,U,df ?_⟩;refine⟨_,U,bO,λr B=>q r _ v _ (a0.trans<|So.of<|s2.trans<|ag B _) ae<|Z.same<|s2.trans<|ag B _⟩
  .refine j6 (SqL.of<|s2 _ _ O) (SqL.of N) (r:=LK) ⟨λz=>(by cases z),λz=>(by cases z)⟩ ⟨_,U,bK ?_⟩;exact⟨j,hj,s2,s2 _ _ O,Z.same s2,U⟩
 rintro b4 H2 ⟨j,hj,s2,O,Z,rfl⟩;refine⟨(by show 3<=HL;decide),λwl a6=>?_⟩;let s3:=ag a6<|.lst<|wd3.map V.str;let ew:upd H2 wl (.lst<|wd3.map V.str) wl=LH (.lst<|wd3.map V.str):=ae;show _;refine⟨wl,U,⟨_,SqL.of ae⟩,(let I_:Nat->St->Hp->Prop:=λk σ a=>ak (upd H2 wl<|.lst<|wd3.map V.str) a/\k<=j/\∃c5 c6:Option V,σ=[LH (.ref t),LH<|.bl thin,LH v,LH<|.ref M,LI,c5,c6];qZ (xs:=wd3.map V.str) I_ ⟨ak.refl _,wZ _,_,_,U⟩ (λk σ a h=>SqL.of<|h.1 _ _ ew) (λk y σ a T e h hT=>?_) (λσ a h=>?_))⟩
 rotate_left
 .let(_,hk,_):=h;let hk:3<=j:=hk;lia
 let(sm,b6,c5,c6,rfl):=h;let(z,rfl,ez):=rg e;let s4:=ag hT<|.tup [.int (k:Int),.str z];let eT:upd a T (.tup [.int (k:Int),.str z]) T=LH (.tup [.int (k:Int),.str z]):=ae;generalize upd a T (.tup [.int (k:Int),.str z])=H4 at s4 eT⊢;calc⟨T,_,U,SqT.of eT,U,_,_,U,_,_,U,U,?_⟩;refine⟨_,U,_,U,U,_,U,U,_,U,U,(by show 4<=HL;decide),λp g=>?_⟩;rw[D7];let s5:=ag g<|.lst<|(kd3 k).map V.bl;let N:upd H4 p (.lst<|(kd3 k).map V.bl) p=LH (.lst<|(kd3 k).map V.bl):=ae;generalize upd H4 p (.lst<|(kd3 k).map V.bl)=H5 at s5 N⊢;let S:ak H2 H5:=((s3.trans sm).trans s4).trans s5;let a3:ak (upd H2 wl<|.lst<|wd3.map V.str) H5:=(sm.trans s4).trans s5;by_cases D:k=j
 .subst D;calc j6 (SqL.of<|S _ _ O) (SqL.of N) (r:=LJ) ⟨λ_=>U,λ_=>U⟩ ⟨_,U,df ⟨_,U,bO,λr B=>?_⟩⟩;let hz:wd3.getD k s!""=z:=by rw[ik,ez];rfl
  rw[hz]at Z;let s6:=S.trans<|ag B<|.tup [.str z,.non];exact q r z .non _ (a0.trans<|So.of<|s2.trans s6) ae<|Z.same s6
 .refine j6 (SqL.of<|S _ _ O) (SqL.of N) (r:=LK) ⟨λz=>(by cases z),λz=>LP ((AF hj ∅).mp z).symm D⟩ ⟨_,U,bK ⟨a3,∅,_,_,U⟩⟩
theorem Hq(F:Fun K "law" "law" Y45 f fd) (bl:Bl K mg Y)(ig:Callee P w K mg base 21 "_law_cell_at" ["script","k"] (eU K Y)) (qc:Callee P w K mg base 21 "_law_codes" ["turn"] (gv K Y)) (qd:Callee P w K mg base 21 "_law_parts" ["head","turn","size","codes"] (gu K Y)) (rZ:Callee P w K mg base 21 "_law_rows" ["low","size","codes","kinds"] (gY K Y)) (k_Table:bf (CX1 P w) P w K mg base 20 "Table" Y.o ["self","name","names","domains","outcome","way","rows"] (bg K Y)) (se:Callee P w K mg base 21 "_law_told" ["table","thin"] (hU K Y)) (a2:bf CX0 P w K mg base 20 "Numbers" Y.m ["self","low","high"] (bH K Y)) (lI:Callee P w K mg base 21 "_law_due_word" ["size","says","way","more","thin"] (d8 K Y)) (sk:Callee P w K mg base 21 "_law_same" ["found","due"] (gX K Y)) (wV:Callee P w K mg base 21 "verdict" ["table","codes"] (jk K Y)):aD P w K mg base CX0 22 f fd ["script"] (J18 K):=by
 refine F.ok Z45 (λvs H Q E h=>?_)<|λw4 A s7 s H vs Q E hr h=>?_
 .let(a,ns,rfl,hS,s0,g7,g6,q):=h;rfl
 let(a,ns,rfl,hS,s0,g7,g6,q):=h;refine'⟨?tt,?r0,?rd⟩
 case' r0=>refine' aC ?st0 ?r1
 case' r1=>refine' aC ?st1 ?r2
 case' r2=>refine' aC ?st2 ?r3
 case' r3=>refine' aC ?st3 ?r4
 case' r4=>refine' aC ?st4 ?r5
 case' r5=>refine' aC ?st5 ?r6
 case' r6=>refine' aC ?st6 ?r7
 case' r7=>refine' aC ?st7 ?r8
 case' r8=>refine' aC ?st8 ?r9
 case' r9=>refine' aC ?st9 ?r10
 case' r10=>refine' aC ?st10 ?r11
 case' r11=>refine' aC ?st11 ?r12
 case' r12=>refine' aC ?st12 ?r13
 case' r13=>refine' aC ?st13 ?r14
 case' r14=>refine' aC ?st14 ?r15
 case' r15=>refine' aC ?st15 ?r16
 case' r16=>refine' aC ?st16 ?r17
 case' r17=>refine' ar ?st17 ?r18
 case' r18=>refine' ai ?st18
 case' st0 =>
  refine' aJ (i:=1) ?u2a ?u2b ?u2c ?h1 ?u2d ?u2e
  case' u2a=>exact Z45.nd
  case' u2b=>exact U
  case' u2c=>exact(Or.inl U)
  case' h1=>refine' aN ig hr U ?h3
  case' h3=>refine' aa ?h4 ?h5 ?h6
  case' h4=>exact(pv 0)
  case' h5=>refine' aa ?h7 ?h8 ?h9
  case' h7=>exact ao
  case' h8=>exact af
  case' h9=>exact U
  case' h6=>exact U
  case' u2d=>exact U
  case' u2e=>first|exact .inl U|exact .inr U
 case' st1=>exact(aJ (i:=2) Z45.nd U (Or.inl U)<|aN ig hr U<|aa (pv 0)<|aa ao af)
 case' st2=>exact(aJ (i:=3) Z45.nd U (Or.inl U)<|aW aY (bj<|aa ao<|aa ao<|aa ao<|aa ao<|aa ao<|aa ao<|aa (aG dZ ao<|aG cK (aG fZ (pv 1) ao) ao) af) (aG cK (pv 1) ao)<|λ_ _=>U)
 case' st3=>exact(aJ (i:=4) Z45.nd U (Or.inl U)<|aG fC (aG cK (pv 1)<|aG xq ao<|aG lT ao ao)<|aG lT ao ao)
 case' st4=>exact(aJ (i:=5) Z45.nd U (Or.inl U)<|aN qc hr U<|aa (pv 2) af)
 case' st5=>exact(aJ (i:=6) Z45.nd U (Or.inl U)<|aW aY (bj<|aa aL<|aa aL<|aa aL af) (aG cK (pv 2) ao)<|λ_ _=>U)
 case' st6=>exact(lR (aN qd hr U<|aa (pv 1)<|aa (pv 2)<|aa (pv 3)<|aa (pv 5) af)<|cZ U<|ax (aw (i:=7) Z45.nd U<|Or.inl U)<|ax (aw (i:=8) Z45.nd U<|Or.inl U)<|ax (aw (i:=9) Z45.nd U<|Or.inl U)<|ax (aw (i:=10) Z45.nd U<|Or.inl U)<|ax (aw (i:=11) Z45.nd U<|Or.inl U) bq)
 case' st7=>exact(aJ (i:=12) Z45.nd U (Or.inl U)<|aN rZ hr U<|aa (pv 4)<|aa (pv 3)<|aa (pv 8)<|aa (aG fC ao<|bJ kv U bl.int_ PyProof.Rows.boot_int<|aa (cI cP (pv 7) ao<|aF _) af) af)
 case' st8=>exact(aJ (i:=13) Z45.nd U (Or.inl U)<|cI cP (aG cK (aG fZ (pv 2) ao) ao) ao<|aF _)
 case' st9=>exact(aJ (i:=14) Z45.nd U (Or.inl U)<|bJ de U bl.list_ PyProof.Rows.boot_list<|aa (pv 12) af)
 case' st10=>exact(aS (ck<|pv 13)
 (ai<|bB<|lj PySem.F.plainAttrs_list PySem.F.slot_list_append PySem.F.type_list_append cQ (pv 14)<|aa (ba<|aa (bj<|aa (bj<|aa (ba<|aa (aG dZ (pv 4)<|pv 9)<|aa (aG dZ (pv 4)<|pv 9) af) af) af)<|aa (pv 10) af) af)
 aE)
 case' st11=>exact(aJ (i:=15) Z45.nd U (Or.inl U)<|uW k_Table A7 hr U<|aa aL<|aa (bj<|aa aL af)<|aa (bj<|aa (uW a2 bW hr U<|aa (pv 4)<|aa (aG fC (aG dZ (pv 4)<|pv 3) ao) af) af)<|aa (uW a2 bW hr U<|aa (ay (i4 U) U bl.min_ PyProof.Rows.boot_min<|aa (pv 5) af)<|aa (ay (i5 U) U bl.max_ PyProof.Rows.boot_max<|aa (pv 5) af) af)<|aa (pv 6)<|aa (pv 14) af)
 case' st12=>exact(aJ (i:=16) Z45.nd U (Or.inl U)<|cI cP (aG cK (aG fZ (pv 2) ao) ao) ao<|aF _)
 case' st13=>exact(aJ (i:=17) Z45.nd U (Or.inl U)<|aN se hr U<|aa (pv 15)<|aa (pv 16) af)
 case' st14=>exact(aS (aH lU (aW dC (pv 17) ao<|λ_ _=>U) (aN lI hr U<|aa (pv 3)<|aa (pv 11)<|aa (pv 6)<|aa (pv 13)<|aa (pv 16) af)<|aF _)
 (ai<|au fL)
 aE)
 case' st15=>exact(aS (aH lU (aW dC (pv 17) ao<|λ_ _=>U) aL<|aF _)
 (ai<|au fL)
 aE)
 case' st16=>exact(aS (PW.pt<|fB (ck<|pv 16)<|fi<|aH (zL hr) (aV (aW dC (pv 17) ao<|λ_ _=>U) U) (aW aY (bj<|aa (pv 14)<|aa (pv 12) af) (bJ kv U bl.int_ PyProof.Rows.boot_int<|aa (cI cP (pv 6) aL<|aF _) af)<|λ_ _=>U)<|aF _)
 (ai<|au fL)
 aE)
 case' st17=>exact(bT IV.never U (aX<|qm uO (pv 0) (uL ao) uK) (aw (i:=18) Z45.nd U<|Or.inl U)
 (ar (aJ (i:=19) Z45.nd U (Or.inl U)<|aG cK (pv 18)<|pv 3)
 (aC (aJ (i:=20) Z45.nd U (Or.inl U)<|ba<|aa aL<|aa (aW aY (pv 8) (aG cK (pv 19) ao)<|λ_ _=>U) af)
 (aC (aS (PW.pt<|fB (aH cP (pv 7) ao<|aF _)<|fi<|aH cP (aG cK (pv 19) ao) ao<|aF _)
 (ai<|aJ (i:=20) Z45.nd U (Or.inl U)<|ba<|aa aL<|aa ao af)
 aE)
 (aC (aS (PW.pt<|fB (ck<|pv 13)<|fB (aH cP (pv 19) (pv 9)<|aF _)<|fi<|aH lU (pv 6) aL<|aF _)
 (ai<|aJ (i:=20) Z45.nd U (Or.inl U)<|ba<|aa aL<|aa ao af)
 aE)
 (ai (aS (cB<|ck<|aN sk hr U<|aa (aN wV hr U<|aa (aW dC (pv 17) ao<|λ_ _=>U)<|aa (bj<|aa (aG dZ (pv 4)<|pv 19) af) af)<|aa (pv 20) af)
 (ai<|au fL)
 aE)))))))
 case' st18=>exact(au fL)
 case rd =>
  dsimp only[bA,Cx.nox,Cx.wish];show(let r18:TS:=_;let r17:TS:=bp _ r18;let r16:TS:=bX _ r17;let r15:TS:=bX _ r16;let r14:TS:=bX _ r15;let r13:TS:=bX _ r14;let r12:TS:=bX _ r13;let r11:TS:=bX _ r12;let r10:TS:=bX _ r11;let r9:TS:=bX _ r10;let r8:TS:=bX _ r9;let r7:TS:=bX _ r8;let r6:TS:=bX _ r7;let r5:TS:=bX _ r6;let r4:TS:=bX _ r5;let r3:TS:=bX _ r4;let r2:TS:=bX _ r3;let r1:TS:=bX _ r2;bX _ r1 _ _ _);intro _ _ _ _ _ _ _ _ _ _ _ _ _ _ _ _ _ _;calc(let O:St->Hp->Prop:=λJ N=>N=H/\∃T:Int,J=[LH (.ref a),LH<|.int T,LI,LI,LI,LI,LI,LI,LI,LI,LI,LI,LI,LI,LI,LI,LI,LI,LI,LI,LI];⟨O,⟨_,U,a,ns,0,U,hS,Int.le_refl _,λr=>⟨U,r,U⟩⟩,?_⟩);rintro k8 H1 ⟨e1,T,rfl⟩;rw[e1];clear e1 H1;calc(let O:St->Hp->Prop:=λJ N=>N=H/\∃W:Int,J=[LH (.ref a),LH<|.int T,LH<|.int W,LI,LI,LI,LI,LI,LI,LI,LI,LI,LI,LI,LI,LI,LI,LI,LI,LI,LI];⟨O,⟨_,U,a,ns,1,U,hS,⋯,λr=>⟨U,r,U⟩⟩,?_⟩);rintro k8 H1 ⟨e1,W,rfl⟩;rw[e1];clear e1 H1;refine(let O:St->Hp->Prop:=λJ N=>ak H N/\∃sz:Nat,2<=sz/\sz<=400/\J=[LH (.ref a),LH<|.int T,LH<|.int W,LH<|.int (sz:Int),LI,LI,LI,LI,LI,LI,LI,LI,LI,LI,LI,LI,LI,LI,LI,LI,LI];⟨O,?_,?_⟩)
  .let(sz,c7,c6,hv):=Ea T;exact⟨_,U,_,_,U,U,⟨⋯,⋯⟩,_,_,U,U,(by show(0:Int)<399;decide),_,_,U,U,(by show 7<=HL;decide),λl hl=>⟨_,U,_,_,U,U,(by show(0:Int)<7;decide),l,_,_,_,U,U,SqL.of ae,hv,ag hl _,sz,c7,c6,U⟩⟩
  rintro v3 H3 ⟨s3,sz,c7,c6,rfl⟩;refine(let O:St->Hp->Prop:=λJ N=>N=H3/\∃C:Int,J=[LH (.ref a),LH<|.int T,LH<|.int W,LH<|.int (sz:Int),LH<|.int C,LI,LI,LI,LI,LI,LI,LI,LI,LI,LI,LI,LI,LI,LI,LI,LI];⟨O,⟨_,U,_,_,U,U,⟨⋯,⋯,⋯⟩,_,_,U,U,(.inl ⟨⋯,⋯⟩),_,_,U,U,(by show(0:Int)<2*10^59;decide),_,_,U,U,⟨⋯,⋯,⋯⟩,_,_,U,U,U,_,U⟩,?_⟩);rintro v2 H4 ⟨e4,C,rfl⟩;rw[e4];clear e4 H4;calc(let O:St->Hp->Prop:=λJ N=>ak H3 N/\∃(cl:HA)(c0 c1:Int),N cl=LH (.lst [.int c0,.int c1])/\c0≠c1/\J=[LH (.ref a),LH<|.int T,LH<|.int W,LH<|.int (sz:Int),LH<|.int C,LH<|.ref cl,LI,LI,LI,LI,LI,LI,LI,LI,LI,LI,LI,LI,LI,LI,LI];⟨O,⟨_,U,W,U,λl c0 c1 N s el p3=>⟨s,l,c0,c1,el,p3,U⟩⟩,?_⟩);rintro v1 H5 ⟨t5,cl,c0,c1,s5,c2,rfl⟩;refine(let O:St->Hp->Prop:=λJ N=>ak H5 N/\∃(wi:Nat)(S:Str),wi<3/\six[wi]?=LH S/\J=[LH (.ref a),LH<|.int T,LH<|.int W,LH<|.int (sz:Int),LH<|.int C,LH<|.ref cl,LH<|.str S,LI,LI,LI,LI,LI,LI,LI,LI,LI,LI,LI,LI,LI,LI];⟨O,?_,?_⟩)
  .let(wi,S,a4,a0,hv):=Fy W;exact⟨(by show 3<=HL;decide),λl hl=>⟨_,U,_,_,U,U,(by show(0:Int)<3;decide),l,_,_,_,U,U,SqL.of ae,hv,ag hl _,wi,S,a4,a0,U⟩⟩
  rintro v0 H6 ⟨t6,wi,S,a4,a0,rfl⟩;let Eu:=t6 _ _ s5;calc(let O:St->Hp->Prop:=λJ N=>ak H6 N/\∃(ol:HA)(I k L:Nat)(o0 o1 B:Int),N ol=LH (.lst [.int o0,.int o1])/\PrI sz c0 c1 I k L o0 o1 B/\J=[LH (.ref a),LH<|.int T,LH<|.int W,LH<|.int (sz:Int),LH<|.int C,LH<|.ref cl,LH<|.str S,LH<|.int (I:Int),LH<|.ref ol,LH<|.int (k:Int),LH<|.int B,LH<|.int (L:Int),LI,LI,LI,LI,LI,LI,LI,LI,LI];⟨O,⟨_,U,_,U,_,U,_,U,T,W,sz,cl,c0,c1,U,Eu,∅,λr ol I k L o0 o1 B N s er c4 hI=>⟨r,_,U,SqT.of er,U,_,_,U,_,_,U,_,_,U,_,_,U,_,_,U,U,s,ol,I,k,L,o0,o1,B,c4,hI,U⟩⟩,?_⟩);rintro u8 H7 ⟨t7,ol,I,k,L,o0,o1,B,c4,a1,rfl⟩;refine(let O:St->Hp->Prop:=λJ N=>ak H7 N/\∃(Z:HA)(xs:L0 V)(R:L0 Rw),N Z=LH (.lst xs)/\RL NT N xs R/\RwI C (dz o0 o1) (λa=>a<sz/\a%2<knd I) R/\R.length<=4/\J=[LH (.ref a),LH<|.int T,LH<|.int W,LH<|.int (sz:Int),LH<|.int C,LH<|.ref cl,LH<|.str S,LH<|.int (I:Int),LH<|.ref ol,LH<|.int (k:Int),LH<|.int B,LH<|.int (L:Int),LH<|.ref Z,LI,LI,LI,LI,LI,LI,LI,LI];⟨O,⟨_,U,_,U,_,U,_,U,U,.inr ⟨_,U,_,_,U,U,C,sz,knd I,ol,o0,o1,by rw[Eb],c4,∅,c6,by unfold knd;split <;> decide,λl xs R N s nl el hR hI h4=>⟨s,l,xs,R,el,hR.any,hI,h4,U⟩⟩⟩,?_⟩);rintro u0 H8 ⟨t8,Z,xs,R,j8,hR,hI,q6,rfl⟩;refine(let O:St->Hp->Prop:=λJ N=>N=H8/\∃D:Bool,J=[LH (.ref a),LH<|.int T,LH<|.int W,LH<|.int (sz:Int),LH<|.int C,LH<|.ref cl,LH<|.str S,LH<|.int (I:Int),LH<|.ref ol,LH<|.int (k:Int),LH<|.int B,LH<|.int (L:Int),LH<|.ref Z,LH<|.bl D,LI,LI,LI,LI,LI,LI,LI];⟨O,⟨_,U,_,_,U,U,⟨⋯,⋯⟩,_,_,U,U,(by show(0:Int)<2;decide),U,U,_,U⟩,?_⟩);rintro t4 H9 ⟨e9,D,rfl⟩;rw[e9];clear e9 H9;calc(let O:St->Hp->Prop:=λJ N=>ak H8 N/\∃ev:HA,H8 ev=LI/\N ev=LH (.lst xs)/\J=[LH (.ref a),LH<|.int T,LH<|.int W,LH<|.int (sz:Int),LH<|.int C,LH<|.ref cl,LH<|.str S,LH<|.int (I:Int),LH<|.ref ol,LH<|.int (k:Int),LH<|.int B,LH<|.int (L:Int),LH<|.ref Z,LH<|.bl D,LH<|.ref ev,LI,LI,LI,LI,LI,LI];⟨O,⟨_,U,Z,_,U,.inl<|SqL.of j8,λev i2=>⟨ag i2 _,ev,i2,ae,U⟩⟩,?_⟩);rintro t3 Ha ⟨ta,ev,g5,b6,rfl⟩;let v5:⇑xs=R.length:=hR.1;refine(let O:St->Hp->Prop:=λJ N=>ak H8 N/\∃b1:L0 V,N ev=LH (.lst b1)/\RL NT N b1 (evy C k B D R)/\J=[LH (.ref a),LH<|.int T,LH<|.int W,LH<|.int (sz:Int),LH<|.int C,LH<|.ref cl,LH<|.str S,LH<|.int (I:Int),LH<|.ref ol,LH<|.int (k:Int),LH<|.int B,LH<|.int (L:Int),LH<|.ref Z,LH<|.bl D,LH<|.ref ev,LI,LI,LI,LI,LI,LI];⟨O,⟨_,U,_,U,?_⟩,?_⟩)
  .cases D with
   |false=>exact bK ⟨ta,xs,b6,by rw[show evy C k B LK R=R by unfold evy;simp];exact RL.same hR ta,U⟩
   |true =>
    calc df ⟨_,U,.inl ⟨U,_,SqL.of b6⟩,_,U,_,U,_,_,U,U,_,U,_,U,_,_,U,U,bO,λt ht=>?_⟩;let u1:=ag ht<|.tup [.int (C+(k:Int)),.int (C+(k:Int))];let e1:upd Ha t (.tup [.int (C+(k:Int)),.int (C+(k:Int))]) t=LH (.tup [.int (di C k).1,.int (di C k).2]):=ae;generalize upd Ha t (.tup [.int (C+(k:Int)),.int (C+(k:Int))])=Hc at u1 e1⊢;refine⟨(by show 1<=HL;decide),λl1 d5=>?_⟩;let u2:=ag d5<|.lst [.ref t];let e2:upd Hc l1 (.lst [.ref t]) l1=LH (.lst [.ref t]):=ae;let n1:l1≠ev:=λz=>by rw[z,u1 _ _ b6]at d5;cases d5
    generalize upd Hc l1 (.lst [.ref t])=Hd at u2 e2⊢;refine⟨(by show 1<=HL;decide),λl2 d4=>?_⟩;let u3:=ag d4<|.lst [.ref l1];let e3:upd Hd l2 (.lst [.ref l1]) l2=LH (.lst [.ref l1]):=ae;let n2:l2≠ev:=λz=>by rw[z,u2 _ _ (u1 _ _ b6)]at d4;cases d4
    generalize upd Hd l2 (.lst [.ref l1])=He at u3 e3⊢;calc⟨_,U,bO,λr hr=>?_⟩;let u4:=ag hr<|.tup [.ref l2,.int B];let e4:upd He r (.tup [.ref l2,.int B]) r=LH (.tup [.ref l2,.int B]):=ae;generalize upd He r (.tup [.ref l2,.int B])=Hf at u4 e4⊢;let a8:=((u1.trans u2).trans u3).trans u4;let fG:eQ (· ≠ ev) Hf r (Av C k B):=⟨l2,[.ref l1],e4,n2,u4 _ _ e3,aI.snoc aI.nil ⟨n1,[.ref t],u4 _ _<|u3 _ _ e2,(PL.snoc .nil<|u4 _ _<|u3 _ _<|u2 _ _ e1)⟩⟩;let Ew:=a8 _ _ b6;calc⟨ev,_,_,U,U,Ew,az ∅,(ta.trans a8).upd g5,_,ae,?_,U⟩;rw[show evy C k B LJ R=R++[Av C k B] by unfold evy;rw[LO U]];exact aI.snoc (RL.same hR<|(ta.trans a8).upd g5)<|eQ.any<|fG.updN (λz=>z U) Ew
  rintro t2 Hb ⟨b3,b1,Ex,hE,rfl⟩;let w0:I<4:=a1.m4;let g8:k%2<knd I:=by
   unfold knd;split
   .rename_i h;let:=a1.ev h;lia
   .lia
  let i7:∀d,dz o0 o1 d=c0\/dz o0 o1 d=c1:=λd=>by
   let h0:=a1.e0;let h1:=a1.e1;unfold dz;split
   .exact .inl h0
   .split at h1
    .exact .inr h1
    .exact .inl h1
  let p0:B=c0\/B=c1:=by
   let h1:=a1.ot;split at h1
   .split at h1
    .exact .inr h1
    .exact .inl h1
   .exact .inr h1
  let g9:dz o0 o1 (k%2)≠B:=by
   rw[a1.ot];unfold dz;rw[a1.e0,a1.e1];by_cases h1:I<=1
   .rw[LO h1,LO h1];by_cases hp:k%2=0
    .rw[LO hp,LO hp];exact c2
    .rw[LN hp,LN hp];exact c2.symm
   .rw[LN h1,LN h1];split <;> exact c2
  let Hr:=b3 _ _<|t8 _ _<|t7 _ _ Eu;refine(let O:St->Hp->Prop:=λJ N=>ak Hb N/\∃(tb ou:HA)(dv:L0 V)(o:Int×Int),TF Y.o N tb s!"evens" S ou [s!"at"] dv (evy C k B D R)/\TOk Y.m Y.n N s!"evens" S ou [s!"at"] dv (evy C k B D R) (dr C sz) o/\(o.1<=c0/\c0<=o.2)/\(o.1<=c1/\c1<=o.2)/\J=[LH (.ref a),LH<|.int T,LH<|.int W,LH<|.int (sz:Int),LH<|.int C,LH<|.ref cl,LH<|.str S,LH<|.int (I:Int),LH<|.ref ol,LH<|.int (k:Int),LH<|.int B,LH<|.int (L:Int),LH<|.ref Z,LH<|.bl D,LH<|.ref ev,LH<|.ref tb,LI,LI,LI,LI,LI];⟨O,?_,?_⟩)
  .refine⟨(by show 1<=HL;decide),λna p7=>?_⟩;let u1:=ag p7<|.lst [.str s!"at"];let e1:upd Hb na (.lst [.str s!"at"]) na=LH (.lst [.str s!"at"]):=ae;generalize upd Hb na (.lst [.str s!"at"])=Hc at u1 e1⊢;calc⟨_,U,_,U,_,U,_,_,U,U,_,_,U,U,λx1 a3 o2 Hs v8=>?_⟩;calc⟨x1,a3,C,C+(sz:Int)-1,U,ae,∅,U,?_⟩;let u2:ak Hc (mkd Y.m (upd (upd Hc a3<|.own x1) x1<|.ins Y.m a3 []) x1 a3 C<|C+(sz:Int)-1):=rV o2 Hs;let d1:Dom Y.m Y.n (mkd Y.m (upd (upd Hc a3<|.own x1) x1<|.ins Y.m a3 []) x1 a3 C<|C+(sz:Int)-1) x1 (C,C+(sz:Int)-1):=vA;generalize mkd Y.m (upd (upd Hc a3<|.own x1) x1<|.ins Y.m a3 []) x1 a3 C (C+(sz:Int)-1)=Hd at u2 d1⊢;refine⟨(by show 1<=HL;decide),λdl q0=>?_⟩;let u3:=ag q0<|.lst [.ref x1];let e3:upd Hd dl (.lst [.ref x1]) dl=LH (.lst [.ref x1]):=ae;generalize upd Hd dl (.lst [.ref x1])=He at u3 e3⊢;let g0:=(u1.trans u2).trans u3;let i8:SqL K He cl ([c0,c1].map V.int):=SqL.of<|g0 _ _ Hr;refine⟨_,U,cl,[c0,c1],U,i8,by show 0<2;decide,λm hm AH=>⟨_,U,cl,[c0,c1],U,i8,by show 0<2;decide,λM hM Ey=>λx2 X n7 Ht v6=>?_⟩⟩;let d0:=AH c0 (by simp);let c8:=AH c1 (by simp);let e6:=Ey c0 (by simp);let e5:=Ey c1 (by simp);calc⟨x2,X,m,M,U,ae,∅,U,?_⟩;let u4:ak He (mkd Y.m (upd (upd He X<|.own x2) x2<|.ins Y.m X []) x2 X m M):=rV n7 Ht;let d2:Dom Y.m Y.n (mkd Y.m (upd (upd He X<|.own x2) x2<|.ins Y.m X []) x2 X m M) x2 (m,M):=vA;let e7:∃dx fs,(mkd Y.m (upd (upd He X<|.own x2) x2<|.ins Y.m X []) x2 X m M) x2=LH (.ins Y.m dx fs):=⟨_,_,ae⟩;generalize mkd Y.m (upd (upd He X<|.own x2) x2<|.ins Y.m X []) x2 X m M=Hf at u4 d2 e7⊢;calc⟨_,U,_,U,λx dx hx p9 hn=>?_⟩;let u5:ak Hf (upd (upd Hf dx<|.own x) x<|.ins Y.o dx []):=(ag p9 _).upd hx;let a8:=g0.trans u4;let f9:=a8.trans u5;let fG:∀w∈evy C k B D R,lu (dr C sz) (m,M) w:=λw hw=>AB hI (λa h=>h.1) a1.pl (λd _=>by rcases i7 d with z|z <;> rw[z];calc⟨d0,e6⟩;exact⟨c8,e5⟩) (by rcases p0 with z|z <;> rw[z];calc⟨d0,e6⟩;exact⟨c8,e5⟩) hw
   let q7:⇑(evy C k B D R)<=5:=by rw[lO];split <;> lia
   let Ii:⇑b1=⇑(evy C k B D R):=hE.1;let doms:∀(G:Hp),ak Hf G->aI [V.ref x1] (dr C sz) (Dom Y.m Y.n G):=λ_ s=>aI.snoc aI.nil<|d1.same<|(u3.trans u4).trans s
   refine⟨x,dx,na,dl,x2,ev,s!"evens",S,[s!"at"],[.ref x1],b1,dr C sz,(m,M),evy C k B D R,U,ae,u5 _ _<|(u2.trans<|u3.trans u4) _ _ e1,Bt,Bu,⋯,⋯,Il a0,(λ_=>let ⟨dx,fs,e⟩:=e7;⟨dx,fs,u5 _ _ e⟩),u5 _ _<|u4 _ _ e3,doms _ u5,d2.same u5,f9 _ _ Ex,RL.same hE f9,(λh=>∅),by show 1<=4;decide,fG,λ_ N s1 l4 k9 k1 k2 k3 n3 n0 m9 ⟨l5,s6,m2,m1,m0,l6⟩ k4 k5=>⟨U,?_⟩⟩;let s9:ak Hf N:=λb u e=>k1 b u (aZ e hx)<|u5 _ _ e
   refine⟨a8.trans s9,x,x2,[.ref x1],(m,M),⟨l4,dx,l5,s6,s1,k9,k2,k3,m9,n3,n0,m2,m1,m0,l6,k4,k5,by rw[k5.1];lia⟩,⟨Bt,Bu,⋯,⋯,Il a0,(λ_=>let ⟨dx,fs,e⟩:=e7;⟨dx,fs,s9 _ _ e⟩),doms _ s9,d2.same s9,U,fG,∅⟩,⟨d0,e6⟩,⟨c8,e5⟩,U⟩
  rintro t1 Hc ⟨tc,tb,ou,dv,o,hT,b5,p2,p1,rfl⟩;refine(let O:St->Hp->Prop:=λJ N=>N=Hc/\∃thin:Bool,J=[LH (.ref a),LH<|.int T,LH<|.int W,LH<|.int (sz:Int),LH<|.int C,LH<|.ref cl,LH<|.str S,LH<|.int (I:Int),LH<|.ref ol,LH<|.int (k:Int),LH<|.int B,LH<|.int (L:Int),LH<|.ref Z,LH<|.bl D,LH<|.ref ev,LH<|.ref tb,LH<|.bl thin,LI,LI,LI,LI];⟨O,⟨_,U,_,_,U,U,⟨⋯,⋯⟩,_,_,U,U,(by show(0:Int)<2;decide),U,U,_,U⟩,?_⟩);rintro t0 Hd ⟨ed,thin,rfl⟩;rw[ed];clear ed Hd;let l3:=(((t5.trans t6).trans t7).trans t8).trans<|b3.trans tc;let c5:=s3.trans l3;let d3:o.1<=o.2:=∅
  let q7:⇑(evy C k B D R)<=5:=by rw[lO];split <;> lia
  let i1:1<=knd I:=by unfold knd;split <;> decide
  let q5:RfB Y.o Y.m Y.n Hc tb dv (dr C sz) (evy C k B D R) (λ_=>rO C sz) sz wi o:=by
   let(g4,dx,na,dl,fs,f8,g1,f1,f2,f3,f4,f5,f6,s4,j9,AN,b0,gn):=id hT;refine⟨⟨g4,dx,dl,fs,f8,g1,f1,f6,j9,b5.doms,AN,b0⟩,hT.tbl a0 b5.out d3,by show 1<=4;decide,∅,λw hw=>(b5.rows w hw).len,AA hI q6,λc b eb=>?_,CW hI (λa=>Iff.rfl) i1 ∅,λp hp=>?_⟩
   .let q2:c=0:=by have:=(Ik.mp eb).1;let:c<1:=this;lia
    subst q2;cases eb;refine⟨by unfold rO;rw[bc,ja];lia,λx hx=>mW.mpr<|(vx hI (λa=>Iff.rfl) i1).mp hx⟩
   .rw[fc.mp hp];show C<=C+(sz:Int)-1;lia
  let o4:∀b,b<sz->vdm (evy C k B D R) wi o (mkg (evy C k B D R) [C+(b:Int)])=vAt (knd I) (dz o0 o1) k D wi b:=λb hb=>by rw[vz];exact lP hI ⟨a1.pl,g8⟩ g9 a4 hb
  refine(let O:St->Hp->Prop:=λJ N=>So Hc N/\∃(td:HA)(wd:Str)(v:V),N td=LH (.tup [.str wd,v])/\TdI K Y.o Y.m Y.n N s!"evens" S ou [s!"at"] dv (evy C k B D R) (dr C sz) o wi sz thin wd v/\J=[LH (.ref a),LH<|.int T,LH<|.int W,LH<|.int (sz:Int),LH<|.int C,LH<|.ref cl,LH<|.str S,LH<|.int (I:Int),LH<|.ref ol,LH<|.int (k:Int),LH<|.int B,LH<|.int (L:Int),LH<|.ref Z,LH<|.bl D,LH<|.ref ev,LH<|.ref tb,LH<|.bl thin,LH<|.ref td,LI,LI,LI];⟨O,⟨_,U,_,U,tb,ou,_,S,_,dv,_,_,o,wi,sz,_,thin,U,hT,b5,a0,d3,q5,(λz e=>(dh.new<|g7 z e).same c5),(λz e=>(dh.new<|g6 z e).same c5),∅,λcs p8 c hc=>?_,λr wd v N so er T=>⟨so,r,wd,v,er,T,U⟩⟩,?_⟩)
  .let(b,hb,rfl):=kd p8;rw[o4 b hb]at hc;unfold vAt at hc;split at hc
   .exact LP hc.symm<|eJ c
   .split at hc
    .let hc:dz o0 o1 (b%2)=c:=LU Prod.snd hc;rw[←hc];rcases i7 (b%2)with z|z <;> rw[z]
     .exact p2
     .exact p1
    .exact LP hc.symm<|gm c
  rintro s8 He ⟨a5,td,wd,v,c3,i9,rfl⟩;let(o3,h2):=CY hI a1 c2 c7 g8 g9 a4 a0 i9;refine(let O:St->Hp->Prop:=λJ N=>N=He/\J=[LH (.ref a),LH<|.int T,LH<|.int W,LH<|.int (sz:Int),LH<|.int C,LH<|.ref cl,LH<|.str S,LH<|.int (I:Int),LH<|.ref ol,LH<|.int (k:Int),LH<|.int B,LH<|.int (L:Int),LH<|.ref Z,LH<|.bl D,LH<|.ref ev,LH<|.ref tb,LH<|.bl thin,LH<|.ref td,LI,LI,LI];⟨O,⟨_,U,td,_,_,_,U,U,SqT.of c3,U,_,U,_,U,_,U,_,U,_,U,sz,L,S,D,thin,U,U,_,U,xC (by rw[o3]) ⟨U,U⟩⟩,?_⟩);rintro f0 Hf ⟨ef,rfl⟩;rw[ef];clear ef Hf;refine(let O:St->Hp->Prop:=λJ N=>N=He/\wd=s!"made" /\ J=[LH (.ref a),LH<|.int T,LH<|.int W,LH<|.int (sz:Int),LH<|.int C,LH<|.ref cl,LH<|.str S,LH<|.int (I:Int),LH<|.ref ol,LH<|.int (k:Int),LH<|.int B,LH<|.int (L:Int),LH<|.ref Z,LH<|.bl D,LH<|.ref ev,LH<|.ref tb,LH<|.bl thin,LH<|.ref td,LI,LI,LI];⟨O,⟨_,U,td,_,_,_,U,U,SqT.of c3,U,U,_,U,cM (λg=>q _)<|λg=>⟨U,?_,U⟩⟩,?_⟩)
  .by_cases h:wd=s!"made"
   .exact h
   .exact LP (by rw[LR (λz=>h<|V.str.inj z)];rfl) g
  rintro f0 Hf ⟨ef,Ez,rfl⟩;rw[ef];clear ef Hf;let(t',l0,v4,rT,rfl,Hu,j1,o5,AM,EA):=h2 Ez;clear i9 h2;let Hv:=a5.lst<|(b3.trans tc) _ _ j8;let Hw:=a5.lst<|tc _ _ Ex;let j2:RL NT He xs R:=RL.so a5<|RL.same hR<|b3.trans tc;let j7:RL NT He b1 (evy C k B D R):=RL.so a5<|RL.same hE tc;let o6:Dom Y.m Y.n He ou o:=Dom.so a5 b5.out;let Hx:=a5.lst<|(t8.trans<|b3.trans tc) _ _ c4;let q4:SqL K He a (ns.map V.int):=So.seq a5<|c5.seq hS;refine(let O:St->Hp->Prop:=λJ N=>ak He N/\J=[LH (.ref a),LH<|.int T,LH<|.int W,LH<|.int (sz:Int),LH<|.int C,LH<|.ref cl,LH<|.str S,LH<|.int (I:Int),LH<|.ref ol,LH<|.int (k:Int),LH<|.int B,LH<|.int (L:Int),LH<|.ref Z,LH<|.bl D,LH<|.ref ev,LH<|.ref tb,LH<|.bl thin,LH<|.ref td,LI,LI,LI];⟨O,⟨_,U,_,U,?_⟩,?_⟩)
  .cases thin with
   |false=>exact bK (bK ⟨ak.refl _,U⟩)
   |true =>
    let a9:=EA U;let(g4,dx,na,dl,fs,f8,g1,f1,f2,f3,f4,f5,f6,s4,j9,AN,b0,gn):=id j1;refine df ⟨_,U,td,_,_,_,U,U,SqT.of c3,U,t',_,_,_,_,U,g1,bl.k_Table,bl.na_Table_rows,f1,_,U,_,U,(by show 2<=HL;decide),λp hp=>⟨_,U,U,.inr ⟨_,U,?_⟩⟩⟩;let u:=ag hp<|.lst [.ref ev,.ref Z];let ep:upd He p (.lst [.ref ev,.ref Z]) p=LH (.lst [.ref ev,.ref Z]):=ae;generalize upd He p (.lst [.ref ev,.ref Z])=Hg at u ep⊢;by_cases h0:wi=0
    .rw[LO h0]at a9;rw[LO (LQ (by rw[(gQ a4 a0).mpr h0]))];refine⟨p,_,_,_,U,U,SqL.of ep,aM (j:=1) U,o9 (SqL.of<|u _ _ AN) (SqL.of<|u _ _ Hv) (by rw[b0.1,j2.1,a9]) (rq (RL.same b0 u) (by rw[a9];exact RL.same j2 u)) ⟨_,U,bK ⟨u,U⟩⟩⟩
    .rw[LN h0]at a9;rw[LN (λz=>h0<|(gQ a4 a0).mp<|V.str.inj<|LS z)];refine⟨p,_,_,_,U,U,SqL.of ep,aM (j:=0) U,o9 (SqL.of<|u _ _ AN) (SqL.of<|u _ _ Hw) (by rw[b0.1,j7.1,a9]) (rq (RL.same b0 u) (by rw[a9];exact RL.same j7 u)) ⟨_,U,bK ⟨u,U⟩⟩⟩
  rintro f0 Hf ⟨sf,rfl⟩;let(ms,em,lm,_):=AG ns (LH 2) LI;calc⟨_,U,_,U,a,_,U,sf.seq q4,λca q1=>?_⟩;rw[em];let u1:=ag q1<|.lst<|ms.map V.int;let e1:upd Hf ca (.lst<|ms.map V.int) ca=LH (.lst<|ms.map V.int):=ae;generalize upd Hf ca (.lst<|ms.map V.int)=Hg at u1 e1⊢;let sg:=sf.trans u1;calc⟨ca,U,⟨_,SqL.of e1⟩,(let O:Nat->St->Hp->Prop:=λi σ N=>ak Hg N/\∃k7 k6 k0:Option V,σ=[LH (.ref a),LH<|.int T,LH<|.int W,LH<|.int (sz:Int),LH<|.int C,LH<|.ref cl,LH<|.str S,LH<|.int (I:Int),LH<|.ref ol,LH<|.int (k:Int),LH<|.int B,LH<|.int (L:Int),LH<|.ref Z,LH<|.bl D,LH<|.ref ev,LH<|.ref tb,LH<|.bl thin,LH<|.ref td,k7,k6,k0];b8 (xs:=ms.map V.int) O ⟨ak.refl _,_,_,_,U⟩ (λi σ N _ h=>SqL.of<|h.1 _ _ e1) (λi y σ N e h=>?_) (λσ N h=>q _))⟩;let(sm,k7,k6,k0,rfl):=h;let(c,rfl,_):=of_map e;let w2:=D0 c (show(sz:Int)≠0 by lia);let w1:=D3 c (show(0:Int)<(sz:Int) by lia);let(b,hb):∃b:Nat,c%(sz:Int)=(b:Int):=⟨(c%(sz:Int)).toNat,∅⟩;let q3:b<sz:=∅
  refine⟨_,U,_,U,_,_,U,U,(by show(0:Int)<(sz:Int);lia),?_⟩;let sh:=sg.trans sm;refine(let O:St->Hp->Prop:=λJ H2=>ak N H2/\∃du:HA,H2 du=LH (.tup<|tp<|say<|dz o0 o1<|b%2)/\J=[LH (.ref a),LH<|.int T,LH<|.int W,LH<|.int (sz:Int),LH<|.int C,LH<|.ref cl,LH<|.str S,LH<|.int (I:Int),LH<|.ref ol,LH<|.int (k:Int),LH<|.int B,LH<|.int (L:Int),LH<|.ref Z,LH<|.bl D,LH<|.ref ev,LH<|.ref tb,LH<|.bl thin,LH<|.ref td,LH<|.int c,LH<|.int (b:Int),LH (.ref du)];⟨O,?_,?_⟩)
  .let hv:atI [V.int o0,.int o1] (c%(sz:Int)%2)=LH (.int<|dz o0 o1<|b%2):=by
    rw[hb];unfold dz;by_cases hp:b%2=0
    .rw[LO hp,show(b:Int)%2=((0:Nat):Int) by lia];exact aM U
    .rw[LN hp,show(b:Int)%2=((1:Nat):Int) by lia];exact aM U
   refine⟨_,U,_,U,_,_,U,U,(by show(0:Int)<2;decide),ol,_,_,_,U,U,SqL.of<|sh _ _ Hx,hv,bO,λd b4=>⟨ag b4 _,d,ae,?_⟩⟩;rw[←hb];rfl
  rintro e8 Hh ⟨th,du,a6,rfl⟩;refine(let O:St->Hp->Prop:=λJ H2=>ak N H2/\∃du:HA,H2 du=LH (.tup<|tp (if b%2<knd I then say (dz o0 o1<|b%2)else oh))/\J=[LH (.ref a),LH<|.int T,LH<|.int W,LH<|.int (sz:Int),LH<|.int C,LH<|.ref cl,LH<|.str S,LH<|.int (I:Int),LH<|.ref ol,LH<|.int (k:Int),LH<|.int B,LH<|.int (L:Int),LH<|.ref Z,LH<|.bl D,LH<|.ref ev,LH<|.ref tb,LH<|.bl thin,LH<|.ref td,LH<|.int c,LH<|.int (b:Int),LH (.ref du)];⟨O,?_,?_⟩)
  .let a7:b%2<knd I->(ak N Hh/\∃b7:HA,Hh b7=LH (.tup<|tp (if b%2<knd I then say (dz o0 o1<|b%2)else oh))/\([LH (.ref a),LH<|.int T,LH<|.int W,LH<|.int (sz:Int),LH<|.int C,LH<|.ref cl,LH<|.str S,LH<|.int (I:Int),LH<|.ref ol,LH<|.int (k:Int),LH<|.int B,LH<|.int (L:Int),LH<|.ref Z,LH<|.bl D,LH<|.ref ev,LH<|.ref tb,LH<|.bl thin,LH<|.ref td,LH<|.int c,LH<|.int (b:Int),LH (.ref du)]:St)=[LH (.ref a),LH<|.int T,LH<|.int W,LH<|.int (sz:Int),LH<|.int C,LH<|.ref cl,LH<|.str S,LH<|.int (I:Int),LH<|.ref ol,LH<|.int (k:Int),LH<|.int B,LH<|.int (L:Int),LH<|.ref Z,LH<|.bl D,LH<|.ref ev,LH<|.ref tb,LH<|.bl thin,LH<|.ref td,LH<|.int c,LH<|.int (b:Int),LH (.ref b7)]):=λh=>⟨th,du,by rw[LO h];exact a6,U⟩
   refine⟨_,U,U,_,U,cM (λg1=>⟨_,U,_,_,U,U,(by show(0:Int)<2;decide),U,_,U,cM (λg2=>⟨bO,λd b4=>?_⟩)<|λg2=>a7 ?_⟩) (λg1=>bK<|a7 ?_)⟩
   .let g1:I=3:=by have:=V.int.inj<|LS g1;lia
    let g2:(b:Int)%2=1:=V.int.inj<|LS g2;calc⟨th.trans<|ag b4 _,d,?_,U⟩;rw[ae,LN (by unfold knd;rw[LO g1];lia)];rfl
   .let g2:¬ (b:Int)%2=1:=λz=>g2<|LQ (by rw[z])
    unfold knd;split <;> lia
   .let g1:¬ I=3:=λz=>g1<|LQ (by rw[z];rfl)
    unfold knd;rw[LN g1];lia
  clear a6 th;clear du Hh;rintro e8 Hh ⟨th,du,a6,rfl⟩;refine(let O:St->Hp->Prop:=λJ H2=>ak N H2/\∃du:HA,H2 du=LH (.tup<|tp<|vAt (knd I) (dz o0 o1) k D wi b)/\J=[LH (.ref a),LH<|.int T,LH<|.int W,LH<|.int (sz:Int),LH<|.int C,LH<|.ref cl,LH<|.str S,LH<|.int (I:Int),LH<|.ref ol,LH<|.int (k:Int),LH<|.int B,LH<|.int (L:Int),LH<|.ref Z,LH<|.bl D,LH<|.ref ev,LH<|.ref tb,LH<|.bl thin,LH<|.ref td,LH<|.int c,LH<|.int (b:Int),LH (.ref du)];⟨O,?_,?_⟩)
  .let a7:¬ (D && decide (b=k) && decide (wi≠0))=LJ->(ak N Hh/\∃b7:HA,Hh b7=LH (.tup<|tp<|vAt (knd I) (dz o0 o1) k D wi b)/\([LH (.ref a),LH<|.int T,LH<|.int W,LH<|.int (sz:Int),LH<|.int C,LH<|.ref cl,LH<|.str S,LH<|.int (I:Int),LH<|.ref ol,LH<|.int (k:Int),LH<|.int B,LH<|.int (L:Int),LH<|.ref Z,LH<|.bl D,LH<|.ref ev,LH<|.ref tb,LH<|.bl thin,LH<|.ref td,LH<|.int c,LH<|.int (b:Int),LH (.ref du)]:St)=[LH (.ref a),LH<|.int T,LH<|.int W,LH<|.int (sz:Int),LH<|.int C,LH<|.ref cl,LH<|.str S,LH<|.int (I:Int),LH<|.ref ol,LH<|.int (k:Int),LH<|.int B,LH<|.int (L:Int),LH<|.ref Z,LH<|.bl D,LH<|.ref ev,LH<|.ref tb,LH<|.bl thin,LH<|.ref td,LH<|.int c,LH<|.int (b:Int),LH (.ref b7)]):=λh=>⟨th,du,by unfold vAt;rw[LN h];exact a6,U⟩
   calc⟨_,U,_,U,?_⟩;cases D with
   |false=>exact bK (bK<|a7 (by simp))
   |true =>
    refine df ⟨_,U,_,U,U,_,U,cM (λg1=>⟨_,U,U,_,U,cM (λg2=>⟨bO,λd b4=>?_⟩)<|λg2=>a7 ?_⟩)<|λg1=>bK<|a7 ?_⟩
    .let g1:b=k:=by have:=V.int.inj<|LS g1;lia
     have g2:wi≠0:=λz=>by rw[(gQ a4 a0).mpr z,LQ U]at g2;cases g2
     calc⟨th.trans<|ag b4 _,d,?_,U⟩;unfold vAt;rw[ae,LO (by rw[LQ g1,LQ g2];rfl)];rfl
    .let g2:wi=0:=by
      refine Decidable.byContradiction λz=>?_
      exact g2 (by rw[LR (λy=>z<|(gQ a4 a0).mp<|V.str.inj y)];rfl)
     simp[g2]
    .let g1:b≠k:=λz=>g1<|LQ (by rw[z])
     simp[g1]
  clear a6 th;clear du Hh;rintro e8 Hh ⟨th,du,a6,rfl⟩;let si:=sh.trans th;refine⟨_,U,td,_,_,_,U,U,SqT.of<|si _ _ c3,U,_,U,_,U,_,_,U,U,(by show 1<=HL;decide),λp hp=>?_⟩;let u2:=ag hp<|.lst [.int (C+(b:Int))];let e2:upd Hh p (.lst [.int (C+(b:Int))]) p=LH (.lst<|[C+(b:Int)].map V.int):=ae;generalize upd Hh p (.lst [.int (C+(b:Int))])=Hj at u2 e2⊢;let sj:=si.trans u2;calc⟨t',p,rT,l0,o,[C+(b:Int)],U,(j1.same sj).tbl Hu (o6.same sj) d3,SqL.of e2,(λw hw=>o5 w hw),λr1 w5 g3 EB=>?_⟩;rw[AM b q3]at EB;calc⟨_,U,r1,du,_,U,EB,SqT.of<|(u2.trans g3) _ _ a6,_,U,bK ⟨((sm.trans th).trans u2).trans g3,_,_,_,U⟩⟩
end
structure FF(K:W.Frag)(Y:AD):Prop where
 (h0:GF K "holds" "holds" Y39)
 (h1:GF K "edges" "edges" Y35)
 (h2:GF K "stretches" "stretches" Y68)
 (h3:GF K "grain" "grain" Y38)
 (h4:GF K "cut_columns" "cut_columns" Y34)
 (h5:GF K "built" "built" Y31)
 (h6:GF K "layered" "layered" Y53)
 (h7:GF K "closed" "closed" Y32)
 (h8:GF K "mapped" "mapped" Y56)
 (h9:GF K "boxes" "boxes" Y30)
 (h10:GF K "gathered" "gathered" Y37)
 (h11:GF K "all_among" "all_among" Y29)
 (h12:GF K "is_word" "is_word" Y41)
 (h13:GF K "is_whole" "is_whole" Y40)
 (h14:GF K "way_by" "way_by" Y75)
 (h15:GF K "refuse_names" "refuse_names" Y61)
 (h16:GF K "refuse_counts" "refuse_counts" Y60)
 (h17:GF K "refuse_way" "refuse_way" Y63)
 (h18:GF K "refuse_row" "refuse_row" Y62)
 (h19:GF K "own_row" "own_row" Y58)
 (h20:GF K "fits" "fits" Y36)
 (h21:GF K "mask" "mask" Y57)
 (h22:GF K "judged" "judged" Y42)
 (h23:GF K "verdict" "verdict" Y73)
 (h24:GF K "with_rows" "with_rows" Y76)
 (h25:GF K "table_bounds" "table_bounds" Y69)
 (h26:GF K "table_marks" "table_marks" Y70)
 (h27:GF K "column_marks" "column_marks" Y33)
 (h30:GF K "tiling" "tiling" Y72)
 (h31:GF K "rows_of" "rows_of" Y65)
 (h32:GF K "spread" "spread" Y66)
 (h33:GF K "spread_form" "spread_form" Y67)
 (h34:GF K "refuse_clashes" "refuse_clashes" Y59)
 (h35:GF K "judged_tiles" "judged_tiles" Y43)
 (h36:GF K "leans_on" "leans_on" Y55)
 (h37:GF K "thinned" "thinned" Y71)
 (h38:GF K "last_idle" "last_idle" Y44)
 (h39:GF K "leaning_tile" "leaning_tile" Y54)
 (h40:GF K "_law_cell_at" "_law_cell_at" Y46)
 (h41:GF K "_law_same" "_law_same" Y51)
 (h42:GF K "_law_rows" "_law_rows" Y50)
 (h43:GF K "_law_told" "_law_told" Y52)
 (h44:GF K "_law_due_word" "_law_due_word" Y48)
 (h45:GF K "_law_parts" "_law_parts" Y49)
 (h46:GF K "_law_codes" "_law_codes" Y47)
 (h76:GF K "law" "law" Y45)
 (m62:MF K Y.m "has_code" "Domain.has_code" Y1)
 (m63:MF K Y.n "has_code" "Domain.has_code" Y2)
 (m64:MF K Y.f "verdict" "Way.verdict" Y23)
 (m65:MF K Y.f "chosen" "First.chosen" Y4)
 (m66:MF K Y.g "verdict" "Way.verdict" Y27)
 (m67:MF K Y.g "chosen" "Only.chosen" Y13)
 (m68:MF K Y.h "verdict" "Way.verdict" Y25)
 (m69:MF K Y.h "chosen" "Like.chosen" Y8)
 (m70:MF K Y.i "verdict" "Way.verdict" Y26)
 (m71:MF K Y.i "chosen" "Low.chosen" Y10)
 (m72:MF K Y.j "verdict" "Way.verdict" Y24)
 (m73:MF K Y.j "chosen" "High.chosen" Y6)
 (m74:MF K Y.k "verdict" "Way.verdict" Y28)
 (m75:MF K Y.k "chosen" "Sum.chosen" Y15)
 (k47:KF K Y.o "Table" "Table.__init__" Y16)
 (k48:KF K Y.m "Numbers" "Numbers.__init__" Y11)
 (k50:KF K Y.f "First" "First.__init__" Y3)
 (k52:KF K Y.g "Only" "Only.__init__" Y12)
 (k54:KF K Y.h "Like" "Like.__init__" Y7)
 (k56:KF K Y.i "Low" "Low.__init__" Y9)
 (k58:KF K Y.j "High" "High.__init__" Y5)
 (k60:KF K Y.k "Sum" "Sum.__init__" Y14)
 (b49:BF K Y.l "Domain" "__init__" "Domain.__init__" Y0)
 (b51:BF K Y.e "Way" "__init__" "Way.__init__" Y17)
 (b53:BF K Y.e "Way" "__init__" "Way.__init__" Y21)
 (b55:BF K Y.e "Way" "__init__" "Way.__init__" Y19)
 (b57:BF K Y.e "Way" "__init__" "Way.__init__" Y20)
 (b59:BF K Y.e "Way" "__init__" "Way.__init__" Y18)
 (b61:BF K Y.e "Way" "__init__" "Way.__init__" Y22)
 (t28:TFn K "row_form" s_row_form)
 (t29:TFn K "verdict_form" s_verdict_form)
 (z0:W.nsIn K Ia "sorted" = LH LI)
 (z1:W.nsIn K Ia "list" = LH LI)
 (z2:W.nsIn K Ia "set" = LH LI)
 (z3:W.nsIn K Ia "zip" = LH LI)
 (z4:W.nsIn K Ia "len" = LH LI)
 (z5:W.nsIn K Ia "tuple" = LH LI)
 (z6:W.nsIn K Ia "isinstance" = LH LI)
 (z7:W.nsIn K Ia "int" = LH LI)
 (z8:W.nsIn K Ia "bool" = LH LI)
 (z9:W.nsIn K Ia "sum" = LH LI)
 (z10:W.nsIn K Ia "range" = LH LI)
 (z11:W.nsIn K Ia "enumerate" = LH LI)
 (z12:W.nsIn K Ia "reversed" = LH LI)
 (z13:W.nsIn K Ia "str" = LH LI)
 (z14:W.nsIn K Ia "min" = LH LI)
 (z15:W.nsIn K Ia "ValueError" = LH LI)
 (z16:W.nsIn K Ia "max" = LH LI)
 (y0:∃u,W.nsIn K Ia "MOST_GRAIN" = LH (LH u)/\RelV (V.int 300) u)
 (y1:∃u,W.nsIn K Ia "MOST_SIGNS" = LH (LH u)/\RelV (V.int 12) u)
 (y2:∃u,W.nsIn K Ia "SMALL_LETTERS" = LH (LH u)/\RelV (V.str "abcdefghijklmnopqrstuvwxyz") u)
 (y3:∃u,W.nsIn K Ia "MOST_ROWS" = LH (LH u)/\RelV (V.int 200) u)
 (y4:∃u,W.nsIn K Ia "MOST_COLUMNS" = LH (LH u)/\RelV (V.int 4) u)
local macro_rules|`(tactic|trivial)=>`(tactic|exact λF=>F.binds λ_ _ _ _ _ _=>by first|exact _L.lb0 rfl|exact _L.lb1 λ_=>U|exact _L.lb2 λ_ _=>U|exact _L.lb3 λ_ _ _=>U|exact _L.lb4 λ_ _ _ _=>U|exact _L.lb5 λ_ _ _ _ _=>U|exact _L.lb6 λ_ _ _ _ _ _=>U|exact _L.lb7 λ_ _ _ _ _ _ _=>U|exact _L.lb8 λ_ _ _ _ _ _ _ _=>U|exact _L.lb9 λ_ _ _ _ _ _ _ _ _=>U)
theorem all_mk{l:W.OpenLaw}{w:Fn}{K:W.Frag}{h:HB}{mg:Str->Option Fe}{B:HA}{Y:AD}(X:K.In h)(G:h.Ns Ia mg)(k:mg "law" = LH (.ref B)) (b:Bk K Y)(u:FF K Y)
  : ∃f:Jy,(∀(s:Iq)(v:Fe),Jz s f ⟨[v],[]⟩ [("script",v)])/\∀base:HB,K.In base->base.Ns Ia mg->(∀q∈(W.tabIn K "row_form").toList++(W.tabIn K "verdict_form").toList,W.CodeHd base q.1 q.2/\base.BuiltinsAt mg q.2)->aD l.prog w K mg base CX0 22 B f ["script"] (J18 K):=by
 cases u.h76 with | @mk _ f a F =>
 cases k.symm.trans (W.mg_of X G a);let bl:Bl K mg Y:=⟨b,W.mg_of X G b.n_TableError,W.mg_of X G b.n_TooFine,W.mg_of X G b.n_Clash,W.mg_of X G b.n_TooMany,W.mg_of X G b.n_Way,W.mg_of X G b.n_First,W.mg_of X G b.n_Only,W.mg_of X G b.n_Like,W.mg_of X G b.n_Low,W.mg_of X G b.n_High,W.mg_of X G b.n_Sum,W.mg_of X G b.n_Domain,W.mg_of X G b.n_Numbers,W.mg_of X G b.n_Words,W.mg_of X G b.n_Table,W.mg_of X G b.n_NONE,W.mg_of X G b.n_CLASH,W.mg_none_of X G u.z0,W.mg_none_of X G u.z1,W.mg_none_of X G u.z2,W.mg_none_of X G u.z3,W.mg_none_of X G u.z4,W.mg_none_of X G u.z5,W.mg_none_of X G u.z6,W.mg_none_of X G u.z7,W.mg_none_of X G u.z8,W.mg_none_of X G u.z9,W.mg_none_of X G u.z10,W.mg_none_of X G u.z11,W.mg_none_of X G u.z12,W.mg_none_of X G u.z13,W.mg_none_of X G u.z14,W.mg_none_of X G u.z15,W.mg_none_of X G u.z16,(let ⟨_,y,x⟩:=u.y0;⟨_,W.mg_of X G y,x⟩),(let ⟨_,y,x⟩:=u.y1;⟨_,W.mg_of X G y,x⟩),(let ⟨_,y,x⟩:=u.y2;⟨_,W.mg_of X G y,x⟩),(let ⟨_,y,x⟩:=u.y3;⟨_,W.mg_of X G y,x⟩),(let ⟨_,y,x⟩:=u.y4;⟨_,W.mg_of X G y,x⟩)⟩;refine⟨f,λs v=>by let(_,_,_,_,_,_,_,_,_,e,_,_):=F.ex;rw[e];exact .of_eq U,λbase _ _ A=>?_⟩;let z:Zb l.prog w K mg base:=⟨X,G⟩;let AO:=mkC z u.h0 λF=>Fz F bl
 let AQ:=mkC z u.h1 λF=>FA F bl
 let V:=mkC z u.h2 λF=>FC F bl
 let m:=mkC z u.h7 λF=>FE F bl
 let Q:=mkC z u.h10 λF=>FG F bl
 let T:=mkC z u.h11 λF=>FH F bl
 let r:=mkC z u.h13 λF=>FI F bl
 let lJ:=mkX z u.h16 λF=>FJ F bl
 let M:=mkC z u.h19 λF=>FK F bl
 let nE:=mkC z u.h25 λF=>FL F bl
 let oo:=mkC z u.h40 λF=>FN F bl
 let P:=mkC z u.h41 λF=>FO F bl
 let O:=mkC z u.h42 λF=>FP F bl
 let nG:=mkC z u.h44 λF=>FR F bl
 let sC:=mkC z u.h45 λF=>FT F bl
 let sD:=mkC z u.h46 λF=>FU F bl
 let fg:=mkB z u.b49 λF=>O_0 F bl
 let ij:=mkB z u.b51 λF=>FV F bl
 let iT:=mkB z u.b53 λF=>FW F bl
 let iU:=mkB z u.b55 λF=>FX F bl
 let jy:=mkB z u.b57 λF=>FY F bl
 let iV:=mkB z u.b59 λF=>FZ F bl
 let jz:=mkB z u.b61 λF=>F4 F bl
 let il:=mkM z u.m65 λF=>O_4 F bl
 let jA:=mkM z u.m67 λF=>F5 F bl
 let jB:=mkM z u.m69 λF=>O_8 F bl
 let kT:=mkM z u.m71 λF=>F6 F bl
 let jC:=mkM z u.m73 λF=>O_6 F bl
 let kU:=mkM z u.m75 λF=>F7 F bl
 let t:=mkC z u.h4 λF=>F8 F bl V.up
 let L:=mkC z u.h12 λF=>F9 F bl T.up
 let C6:=mkC z u.h20 λF=>Ga F bl AO.up
 let nH:=mkC z u.h27 λF=>Gb F bl Q.up AQ.up
 let eZ:=mkK z u.k48 λF=>Gd F bl fg.up
 let gA:=mkK z u.k50 λF=>O_3 F bl ij.up
 let ip:=mkK z u.k52 λF=>Ge F bl iT.up
 let iq:=mkK z u.k54 λF=>O_7 F bl iU.up
 let jD:=mkK z u.k56 λF=>O_9 F bl jy.up
 let ir:=mkK z u.k58 λF=>O_5 F bl iV.up
 let jE:=mkK z u.k60 λF=>Gf F bl jz.up
 let fh:=mkM z u.m62 λF=>O_1 F bl r.up
 let fW:=mkM z u.m63 λF=>O_2 F bl r.up
 let iW:=mkM z u.m64 λF=>Gg F bl il.up
 let jF:=mkM z u.m66 λF=>Gh F bl jA.up
 let jG:=mkM z u.m68 λF=>Gi F bl jB.up
 let ki:=mkM z u.m70 λF=>Gj F bl kT.up
 let jH:=mkM z u.m72 λF=>Gk F bl jC.up
 let kj:=mkM z u.m74 λF=>Gm F bl kU.up
 let AR:=mkC z u.h3 λF=>Gn F bl t.up
 let nI:=mkC z u.h15 λF=>Gp F bl L.up
 let qe:=mkC z u.h18 λF=>Gq F bl fh.up fW.up
 let g:=mkC z u.h21 λF=>Gr F bl C6.up
 let oq:=mkC z u.h26 λF=>Gs F bl nH.up
 let o:=mkC z u.h14 λF=>Gu F bl gA.up ip.up iq.up jD.up ir.up jE.up
 let qf:=mkC z u.h17 λF=>Gv F bl o.up
 let d:=mkC z u.h22 λF=>Gw F bl iW.up jF.up jG.up ki.up jH.up kj.up o.up
 let J:=mkC z u.h23 λF=>Gx F bl d.up g.up
 let S:=mkC z u.h36 λF=>Gy F bl d.up
 let j:=mkK z u.k47 λF=>Gz F bl nI.up lJ.up qf.up qe.up M.up
 let i:=mkR z u.h9 0 7 zg λn F c=>GA F bl c
 let nJ:=mkC z u.h39 λF=>GB F bl S.up
 let sF:=mkC z u.h24 λF=>GC F bl j.up
 let I:=mkC z u.h31 λF=>GD F bl i.up
 let kW:=mkX z u.h34 λF=>GJ F bl i.up
 let Z:=mkC z u.h38 λF=>GK F bl nJ.up
 let ow:=mkX z u.h33 λF=>GL F bl kW.up j.up I.up
 let N:=mkR z u.h6 8 7 uu λn F c=>GN F bl (m.mono ∅) c ∅
 let E:=mkR z u.h8 8 7 wL λn F c=>GO F bl (m.mono ∅) c ∅
 let AS:=mkX z u.h5 λF=>GQ F bl N.up AR.up t.up
 let p:=DT z u.t28 (λq h=>A q (by simp only[hZ];simp[h])) λF h1 h2 h3=>GS F bl AS.up nE.up oq.up g.up h1 h2 h3 g.up
 let nM:=DT z u.t29 (λq h=>A q (by simp only[hZ];simp[h])) λF h1 h2 h3=>GW F bl E.up p.up d.up h1 h2 h3 d.up
 let D:=mkX z u.h30 λF=>GZ F bl i.up p.up
 let C:=mkX z u.h32 λF=>G0 F bl ow.up nM.up
 let nN:=mkX z u.h35 λF=>G1 F bl d.up D.up
 let H:=mkX z u.h37 λF=>G2 F bl nN.up Z.up sF.up
 let R:=mkC z u.h43 λF=>Ho F bl H.up C.up
 calc Hq F bl oo.up sD.up sC.up O.up j.up R.up eZ.up nG.up P.up J.up
theorem walk{l:W.OpenLaw}{q:Fw}{b:L0 Str}{XP:(Str->Option Fe)->HB->Prop}{r:Fn->HB->Prop}{d:DefRec}{K:JV->W.Frag}(y:l.most=LH 63)(i:d.params.defaults=[])
  (B:∀(w:Fn)(h:HB),r w h->(K w.params).In h)(g:∀p:JV,W.noTabs (K p)=LJ)(c:∃d',(PyProof.Rows.recsOf q).find? (λe=>e.name == ("row_form" : Str))=LH d') (D:∃d',(PyProof.Rows.recsOf q).find? (λe=>e.name == ("verdict_form" : Str))=LH d')
  (F:∀(w:Fn)(mg:Str->Option Fe)(o:HA)(h:HB),(K w.params).In h->h.Ns Ia mg->mg d.name=LH (.ref o) ->
   ∃m:Jy,(∀(s:Iq)(u:Fe),Jz s m ⟨[u],[]⟩ [("script",u)])/\∀base:HB,(K w.params).In base->base.Ns Ia mg->(∀q∈(W.tabIn (K w.params) "row_form").toList++(W.tabIn (K w.params) "verdict_form").toList,W.CodeHd base q.1 q.2/\base.BuiltinsAt mg q.2)->aD l.prog w (K w.params) mg base CX0 22 o m ["script"] (J18<|K w.params)) :
  W.WalkO q b XP r l.row.toRowW d [] (λf vs=>PySem.call f vs) :=
 _L.walk_ofT (n:=63) (k:=22) (x := "script") (CX:=λ_=>CX0) (sp:=λw=>J18<|K w.params) (tabs:=λp=>(W.tabIn (K p) "row_form").toList++(W.tabIn (K p) "verdict_form").toList) (xs:=["row_form","verdict_form"]) y ⋯ i ⟨U,⋯,⋯⟩ B g (iv.mpr ⟨c,iv.mpr ⟨D,jo _⟩⟩)
  (λp t h=>(hZ.mp h).elim (λh=>⟨_,dn,vc h⟩) λh=>⟨_,(fo _ dn),vc h⟩) F
  (λw H a v A _ C j=>⟨a,v,U,C,A,λz e=>j z<|hZ.mpr<|.inl (by rw[e];exact dn),λz e=>j z<|hZ.mpr<|.inr (by rw[e];exact dn),λ_=>U⟩) λ_ _ _ _ _ z=>z
end _M
set_option genSizeOf false in
set_option genInjectivity false in
structure PySem.W.Fast:Prop where (tw5067893008627903074 tw775526299022944485 tw7533690413971495663 tw5536108864277736185 tw11960325366686834852 tw7812637960399535692 tw3494017049313915648 tw9685009662492092864 tw7593116159896640796 tw7934203896222965076 tw8578300337576288218 tw14868953952081053200 tw13276056858449260423 tw4565637635550320838 tw2299916029893789956 tw10088548876648839867 tw5381114406428451561 tw18030748851542358067 tw15322272368444467091 tw1902265132426846612 tw3478934919508914413 tw2891520746636240809 tw15784740595758419406 tw3208250572160402781 tw161710799254129405 tw9942473367452065603 tw13138934023077698432 tw7747500347414850502 tw7567063903999733203 tw10419644066070859771 tw10408297254171784271 tw3655845949611739179 tw349308994722460742 tw5408143456100758592 tw5984410088416823812 tw3022917217132185057 tw3158652142585627444 tw14515332985047256106 tw11054558020960467574 tw9995942360893391688 tw13443682463861274592 tw5733203326813438931 tw13974821574316864912 tw11245945903316957195 tw12388429903666677634 tw15310530988862903559 tw2841445675876880718 tw15895937253310909814 tw9430155681745245268 tw7976842404462710530 tw10171861476635468367 tw3511990185107388615 tw7177670710900704465 tw14456499819890388707 tw6887584589579376888 tw2066206563341769949 tw17718125936130925288 tw4595906393785345723 tw4083469043453863814 tw8054306279741735634 tw17110420613140434254 tw12361231842795642175 tw9712022062969996613 tw9623541995304131540 tw6486169922626908080 tw7054937685929741392 tw13404853209718987340 tw1485104274686213605 tw10818792773741735948 tw7681019011353650493 tw1246511670928290107 tw1292974259247610752 tw7552760945666231706 tw3179068678831523557 tw1195589637144664847 tw14274329885713199892 tw4956921734773537545 tw11060934251640496683 tw1513061292007994764 tw17757911802129202654 tw12558993368809862242 tw17529742658105673521 tw920997631426897792 tw11117911050727074319 tw2052475568260047969 tw12096700744635139008 tw9849711027672662190 tw13849985879316215800 tw3364921872154969701 tw1974889438784892738 tw4060977290468496964 tw6526691556412744654 tw3047576970654285012 tw968270021715903644 tw11400962092078215277 tw5880246825101640672 tw15303986357419016978 tw6723744070629754595 tw14651754752832340721 tw8311983580520612689 tw610737105245804859 tw4906010050953414502 tw13927322730566237033 tw8083842129104400967 tw1521287587200739345 tw12485047602987205864 tw9175997672591499257 tw5686347697675623557 tw17943085788592080993 tw5805692255554122190 tw9483623194159169945 tw8491813171228429094 tw13662717690735870724 tw6849275570235732943 tw8252498058283525100 tw6076085177939336998 tw4782317295816087397 tw9222211856499391621 tw11600661872425873650 tw13184189134078373238 tw6605896764277150083 tw14389116248803644320 tw5091701834178704869 tw17278698040203142223 tw3304776072218523728 tw4476340837116727155 tw9518411626348985173 tw11132127081076867787 tw9584192137863006923 tw10317076972397051076 tw12972144498898660005 tw5489762705480108076 tw9479151446103162474 tw3882095855096880483 tw14657226878378301841 tw15525509238999977908 tw11777513347831574085 tw186894339159194301 tw15275911871027526354 tw4712130791620638963 tw7774702852856578951 tw12061968230978500079 tw2497357930798902168 tw733903688801225998 tw14078775408675174524 tw6601498400339731945 tw12590493677810598257 tw2243137873487345020 tw15182315134403848126 tw6778353528221780740 tw17966944359745084500 tw7524984179307022398 tw1473363506123971842 tw5039736863082760019 tw9056455623678526104 tw3474536939992649092 tw18091385931139617989 tw8599734524531748667 tw7006115148276794178 tw4394395702929914927 tw16987400850616481619 tw13287074388774220216 tw14690545440842400950 tw16191015154029759911 tw10521768588627999421 tw18060480189046731922 tw7200068498669250149 tw9332442309680322267 tw7147180266444702248 tw10402412637700039082 tw18064008825650145967 tw13330408744301562796 tw12267555415640523198 tw4423766625613651359 tw1940247614691038718 tw8434138764831208820 tw12678246554904552971 tw5630564077349987708 tw4659553156277366080 tw1983253144423592809 tw9512246688076569836 tw6710946980120368575 tw2523557377498750222 tw16664484858779652341 tw7533372962773437269 tw16689743775842467465 tw2564301513281309970 tw15063377629488534763 tw14459838407331031717 tw4486918245671992870 tw14098346841859086814 tw14769707245487788936 tw4901588014098376349 tw7800896844920240636 tw17839720886298993892 tw15156671864972150426 tw9286311212913706999 tw6240198035900587813 tw10628027648774627458 tw1913997768603371801 tw10702114811185454782 tw1772924143320362727 tw7052857019518346465 tw8656855412813323999 tw11664310820332765987 tw6294566264773092753 tw1851254671541605249 tw8725157312243185266 tw4438906452422767639 tw12349941185116439105 tw14522876229395298009 tw16822331320097330486 tw4601011489967296655 tw3526429526025135403 tw10161907292732394808 tw15778160446439585913 tw10209951048985373300 tw14465284766883164045 tw821752600393165088 tw70830386653076537 tw7751703847568047951 tw12120124662976622611 tw5528713038554411174 tw14602498007122481306 tw5323299050029421385 tw14873844397928305878 tw527136759788748320 tw16832128961856072858 tw2129425201450680105 tw10163638622133194838 tw17139356311732632502 tw5742064068299160676 tw5739096642216138942 tw13817154028217779580 tw3691631639968344470 tw6726337522661065768 tw12048636014031142092 tw742620410865800618 tw2044680451038053118 tw1192349916048145282 tw2158473669374899499 tw7500062802506306373 tw1517491496036633791 tw4302044647887586314 tw5504217919698886309 tw7824927331891451870 tw9583703657643634208 tw16252216578597442591 tw8722144534131135362 tw8005348559716588665 tw15424233728570901047 tw6794609740443980389 tw15659316586345460384 tw3556630810310052507 tw1767413538460926437 tw9507152668931211469 tw17062483490629048128 tw11807312744256397634 tw14843944422614766970 tw1342021610963627669 tw448239084691526204 tw7697344843163328053 tw9154394050289167225 tw6140713952000248732 tw8498635713662753815 tw9124054258411999079 tw2875682906458674963 tw2569946260626728526 tw12485580517367270461 tw6577168062354579783 tw9355235925216554437 tw10704188228214263825 tw8523697320010774733 tw5174866956355074891 tw2265498833902941495 tw6129710154813165566 tw14829784974797181101 tw4747744236946744660 tw18366690312333789824 tw16563166202017141136 tw11621563407576540284 tw12187355991163452116 tw12421016133251507137 tw11104906146491258956 tw12981961474423159906 tw14800872410331899066 tw12892897940442085892 tw5323047466354920361 tw7362425172955707358 tw9947274532544800010 tw1821696599197750610 tw12092382754509174412 tw16245591897784546966 tw5288372638710326006 tw622523491115788519 tw4683630338274884746 tw5964752125825882758 tw5364847214063914282 tw16475854035412210538 tw11487443879636756096 tw16736956852681126525 tw3147047684448579168 tw3656618075441202237 tw10935402932122503173 tw11838010189330156882 tw12665163656659854025 tw13072290916122131353 tw5713165668220029296 tw7107317056784031685 tw4041010730313770527 tw4473062172597028952 tw8620773936601377241 tw5147848351603269661 tw4387401000103497758 tw10188845091267749443 tw15669660778037304070 tw13887229923476185837 tw1214408979838079589 tw12059889533141300610 tw14852607399254710922 tw17884583921810312902 tw9525382837311643670 tw4473123754504882083 tw534783267421740597 tw3642097855193278515 tw6350165179696643612 tw9128391733846842342 tw7127154788591305580 tw2752600604055487161 tw3773483132903032030 tw13299301860381686927 tw16882350303733927805 tw5565408900265398624 tw1177585550129866555 tw11648866916907229002 tw4050446438359679418 tw2651611988549668713 tw9550971345341730316 tw2126358419113564539 tw18037309316240354562 tw16376291710876447309 tw10394795957325774137 tw8302431660165233184 tw10268628522788743304 tw10195717737385577148 tw4272817970438759947 tw1736182760767719614 tw17345531290315883204 tw4279693672197848674 tw2529306487569425793 tw10229321036551580262 tw17530998938718866878 tw10644198470341128644 tw12585029750635668987 tw5859711005971882839 tw531705987583547335 tw6414064996965720006 tw2672561572216024388 tw8032955415162724967 tw3516844228180535285 tw6917469581369594083 tw7443082130225237106 tw13517928222557957126 tw4064432870574577379 tw8152213408360393396 tw2769525084569798837 tw7142044993496245601 tw1210198019311328533 tw14387338052752893687 tw12051624248056441478 tw8051272179138072269 tw18151679028936469452 tw2305935788866212714 tw8517189845604384285 tw17707548718641327045 tw18076534240025564752 tw14477728821307588219 tw17301811095902853716 tw552270865763257794 tw17584234182852173303 tw1718218509977335844 tw12121021249434940623 tw9003261168801578542 tw15731904220246399655 tw13571753915285066558 tw6475551392801510052 tw17515659446925715282 tw9261626995053358605 tw11630636737985653799 tw7995903869612252591 tw10712137834764456063 tw3849194605329890403 tw15526738751922406770 tw15030894257948020072 tw16210483557201900035 tw13940136417896718946 tw4212262728658430154 tw6582434389164115684 tw17738679026426351605 tw8490110220017263978 tw253488128124509730 tw4397815860909755749 tw17099421315268350068 tw8457634583234701324 tw14465510184709745429 tw912028482439074563 tw8387858047626161176 tw3072706673105650501 tw12552540830749513021 tw6398702193700613304 tw11834822241677633605 tw6791946764061683938 tw4324988800637395415 tw3164058594564137006 tw12463469504929132349 tw17387513013690502074 tw12010899987073504089 tw15024361203513401970 tw6721773278656829627 tw10111897550223094372 tw5241857491208818154 tw18241128272337973740 tw4983721355687568147 tw17814005422016649771 tw6056386243580941523 tw15747297178141022128 tw8716682228803942016 tw3898350059068913010 tw1877433134446604548 tw4872882072927005269 tw17663898212125654567 tw3092241782991320395 tw16281268019712161847 tw2286155679977460272 tw11871175371324444757 tw1063490963159846864 tw16324799336918603255 tw16559084868469079088 tw18209334833134800386 tw9509072825822037574 tw3513780245308849154 tw10499030299622944552 tw5015471819639842975 tw17616196756962822693 tw17655700340028431270 tw14067809510197644800 tw4301260697397742193 tw7021060995332535959 tw3360565347851665409 tw6860358863958427263 tw9917417703160055419 tw4030920526188816564 tw13539058475997018785 tw12508458691648983002 tw3515096063700337167 tw4839580105908055161 tw14748084300627806539 tw16154466753907293936 tw11546291177772159539 tw17295673295084152976 tw7629905820319559101 tw6634750927622320627 tw16554430487346588271 tw12172449970563058119 tw10365957222335972855 tw5125930258245553361 tw6390435096838472159 tw14463341663171963608 tw16824587986119353796 tw12342667096614815929 tw13819733097669487731 tw17894444111695730469 tw15098570416423788301 tw5357975955553403725 tw12377671543819062371 tw15350338942654907513 tw8966942393532478126 tw5634017674821676683 tw15359907634737646122 tw8881151704688889190 tw9418901552815712806 tw7209996017000753613 tw17409939787190597614 tw1517494603699182075 tw8030473525191216671 tw14270186505478712176 tw4645944297601724872 tw13034695954553446363 tw2221897126009500891 tw16444276720095580620 tw4949553638835110304 tw11370117853770801925 tw6106470734068204132 tw15592984529659812112 tw5443642109187726722 tw9979694127146559767 tw5575149875791049904 tw12775473424018536681 tw1700035182001923047 tw8449134942142172638 tw9028219422674755723 tw10081588688625161367 tw3184418502596275772 tw18162781573684779473 tw281921309763945051 tw5601210505876342026 tw13693006782733436042 tw8115383791120168601 tw12762874753090830053 tw4604745822968792622 tw510221717072309048 tw7775099773202524839 tw9106718257727851376 tw5812177871654688213 tw14169974761935062988 tw17879674665858751588 tw3090735992776745752 tw10768703923202392903 tw11935872402674478666 tw144714122855353896 tw9599910080399881496 tw17375474040369151691 tw10199629495522012696 tw12313215879480630336 tw9036560094363390838 tw13552380098847007663 tw7145482798848666551 tw2781063859288344835 tw11698682991935440105 tw2030465367005788940 tw7603293877897028149 tw4756831628925674195 tw6966746424143220603 tw1367051403616692508 tw479924196503562255 tw14911732602013831857 tw3545690766557624833 tw6927230042682998380 tw11194925935030738393 tw10034031695849972260 tw16988416175981309049 tw3101057145653521751 tw6997493185604318355 tw14745565537346419314 tw5705537725917299434 tw13748124450110055339 tw8086359444626458447 tw2792669898639423696 tw15131631385324020400 tw13502421042855632876 tw4742161223547724184 tw1032463912143852726 tw1317108557569180821 tw9972094715282321638 tw17589899066048116304 tw13205404771201119893 tw16547881736229956897 tw17482146655316404304:True)
open PySem PySem.W PyProof.Rows
set_option maxRecDepth 100000 in
set_option maxHeartbeats 0 in
theorem PySem.Challenge.cw_rowjudge_k69_too_fine_too_many_holds : PySem.Challenge.rw_rowjudge_k69_too_fine_too_many.Holds := by
 w_on;o_law;k_head;(case hw=>w_witness2)
 k_fill
 refine _M.walk (l:=PySem.Challenge.rw_rowjudge_k69_too_fine_too_many) rfl rfl (λw h Y=>PySem.W.km_in_of Y) ?hnK ?hxs ?C7 ?F
 case hnK=>intro p;first|rfl|decide+kernel|with_unfolding_all rfl
 case hxs=>exact⟨_,rfl⟩
 case C7=>exact⟨_,rfl⟩
 case F =>
  intro w mg fa h KX G hmg;refine' _M.all_mk (Y:=.mk ..) KX G hmg ?b ?u
  case b =>
   constructor
   all_goals try dsimp only
   iterate 17 (k_is)
   iterate 3 (exact _L.ExcCls.value (by first|rfl|with_unfolding_all rfl))
   iterate 3 (constructor <;> first|k_is|rfl|with_unfolding_all rfl)
   iterate 9 (constructor <;> first|k_is|rfl|with_unfolding_all rfl)
   iterate 9 (refine'⟨⟨?_,?_,?_,?_⟩,?_,?_,?_,?_⟩ <;> first|k_is|rfl|with_unfolding_all rfl)
   refine' _L.ModT.mk ?lk ?sz ?vs
   (case lk=>k_is)
   (case sz=>decide)
   (case vs=>exact(.cons ⟨_,rfl⟩ (.cons ⟨_,rfl⟩ .nil)))
   refine' _L.ModT.mk ?lk ?sz ?vs
   (case lk=>k_is)
   (case sz=>decide)
   (case vs=>exact(.cons ⟨_,rfl⟩ (.cons ⟨_,rfl⟩ .nil)))
   iterate 18 (delta _L.NoAttr;k_is)
   iterate 20 (first|k_is|rfl|with_unfolding_all rfl)
   refine' _M.tab_ne (_L.tab_mk (qual := "row_form") (st:=_M.s_row_form) ?a1 ?l1 ?c1 ?e1) (_L.tab_mk (qual := "verdict_form") (st:=_M.s_verdict_form) ?a2 ?l2 ?c2 ?e2) ?ne
   (case a1|l1|c1=>k_is)
   (case e1=>rfl)
   (case a2|l2|c2=>k_is)
   (case e2=>rfl)
   (case ne=>first|decide|(intro h;cases h))
  case u =>
   constructor
   all_goals try dsimp only
   iterate 46 (refine' _L.GF.mk ?a1 (_L.fun_mk ?l ?c ?k);(case a1=>k_is);(case l=>k_is);(case c=>k_is);(case k=>k_is))
   iterate 14 (refine' _L.MF.mk ?a1 ?a2 (_L.fun_mk ?l ?c ?k);(case a1=>k_is);(case a2=>k_is);(case l=>k_is);(case c=>k_is);(case k=>k_is))
   iterate 8 (refine' _L.KF.mk ?a1 ?a2 ?a3 ?a4 ?a5 (_L.fun_mk ?l ?c ?k);(case a1=>k_is);(case a2=>k_is);(case a3=>k_is);(case a4=>k_is);(case a5=>k_is);(case l=>k_is);(case c=>k_is);(case k=>k_is))
   iterate 7 (refine' _L.BF.mk ?a1 ?a2 ?a3 ?a4 (_L.fun_mk ?l ?c ?k);(case a1=>k_is);(case a2=>k_is);(case a3=>k_is);(case a4=>k_is);(case l=>k_is);(case c=>k_is);(case k=>k_is))
   iterate 2 (refine' _L.tfn_mk ?l1 ?l2 ?l3 ?l4 ?l5 ?l6;(case l1=>k_is);(case l2=>k_is);(case l3=>k_is);(case l4=>k_is);(case l5=>k_is);(case l6=>rfl))
   iterate 17 (k_is)
   iterate 5 (refine' _L.gv_mk ?a1 ?a2;(case a1=>k_is);(case a2=>exact⟨_,rfl⟩))
