import PyProof.Rows.All
import Wide.All
import OpenK.AllK
import Wide.FinOn
import Lean
import PyProof.EqAt
import PyProof.EqKinds
import PyProof.TupleCall
import KE.KIntText
import KE.KTryMore
import KE.KIsAll
import PyProof.ZipIter
import KE.KRevIter
import PyProof.CollectIter
import PyProof.FactsAll.range_2
import PyProof.FactsAll.range_iterator_1
import KE.KNest
import KE.KLam
import PySem.Challenge.RW_rowjudge_k66_thinned
open List renaming length_map→bo,length_append→dq,size_toArray→dt,mem_cons→dy,getD_eq_getElem?_getD→dV,mem_map→eR,getElem?_map→eU,getElem?_append_left→eX,take_length→fq,map_append→fR,mem_cons_self→gb,length_cons→gR,length_singleton→hQ,mem_range→hV,forall_mem_cons→hZ,length_take→ia,mem_cons_of_mem→ik,all_eq_true→iv,mem_append→iK,forall_mem_nil→iM,mem_singleton→iN,getElem?_of_mem→jn,mem_append_right→jo,length_range→jq,not_mem_nil→jr,getElem?_append_right→js,append_nil→jt,length_drop→kB,getElem?_eq_none→kC,mem_filter→ll,filter_append→lq,length_zipWith→lz,mem_append_left→mu,eraseIdx_eq_take_drop_succ→mv,map_cons→mH,getElem_mem→mJ,take_add_one→mL,eq_nil_or_concat→mO,concat_eq_append→mS,getElem?_zipWith→nS,nodup_cons→ot,map_map→ov,map_take→ox,map_drop→oy,range_succ→oz,length_replicate→oD,all_cons→oT,mem_flatMap→pk,pairwise_cons→qJ,getElem?_zip_eq_some→qV,find?_cons_of_pos→ri,find?_cons_of_neg→ro,ext_getElem?→rr,length_eraseIdx→sy,filterMap_cons→sC,of_mem_zip→tu,any_eq_true→tw,nodup_append→tU,nodup_nil→tV,getElem_of_mem→uB,map_fst_zip→uT,append_assoc→uU,getElem?_range→uV,length_filter_le→uW,getElem_inj→uX,length_set→vl,map_nil→vr,all_map→vt,any_append→wh
open Nat renaming le_refl→wN,ne_of_lt→wO,lt_of_lt_of_le→wW,le_trans→wX,ne_of_gt→w5,zero_le→xn,lt_succ_of_lt→xu,le_of_lt→x3,le_succ→x4,lt_irrefl→yb,lt_succ_self→yi,lt_or_ge→yj,zero_add→yk,le_add_right→yl,succ_pos→ym,lt_of_succ_lt→yn,not_lt_zero→yp,mul_le_mul→yr,mod_lt→yD,not_lt→zb,pow_succ→zt
open Int renaming emod_lt_of_pos→zz,emod_nonneg→zE,toNat_natCast→zK,natCast_nonneg→zL,toNat_of_nonneg→zU,one_mul→zY
open Array renaming length_toList→Ah,getElem?_eq_getElem→AK,toList_push→AL
open Bool renaming and_eq_true→A2,eq_false_iff→Bp,false_eq_true→Bq,or_eq_true→Br
open Option renaming isSome_iff_exists→Bv,map_eq_some_iff→Bw,getD_none→CA
open PySem renaming wpAny_bind→CW,wpAny_pure→CY,wpAny_holding→C7,wpAny_Call_Name_kw→Dc,Value→De,World→D0,Program→EX,Addr→E2,Heap→FG,sizeLine→FL,sysModules→Ge,intKind→Gf,mainGlobals→Gg,builtinsNs→Gh,bootBuiltins→Gi,Around→Gj,Shared→Gk,Scope→Gm,GenState→Gn,Model→Gp,wpAny→Gq,storeName→Gr,Expr→Gs,isTrue→Gu,backTo→Gv,starEach→Gw,Stmt→Gx,wpAny_mono→Gy,wpAny_Name→Gz,wpAny_loadName_local→GA,wpAny_loadName_cell→GB,standAt→GC,wpAny_truthy_bool→GD,wpAny_execs_nil→GG,wpAny_execs_cons→GH,swapsWith→GI,assignEach→GJ,Operator→GK,wpAny_assign_Name→GL,wpAny_standAt→GN,PassesOwn→GO,wpAny_passesOwn→GP,pyNext→GQ,letOwnedTupleGo→GR,pyIter→GS,rawInt→GU,Walks→GV,wpAny_pyIter_list→GW,Builtin→GX,rangeSize_one→GY,foldedSetIterable→GZ,binaryOp→G0,IntMulOk→G1,intBits_le_64→G2,compareOp→G3,CmpOp→G4,behindInMarks→G5,sizeLine_eq→G6,getMethod→G7,Result→G8,codeAny→G9,attributeBase→Ha,recursionLimit→Hb,cLine→Hc,Code→Hd,FuncData→He,BindsTo→Hf,bindArgs→Hg,wpAny_call→Hh,codeAny_mono→Hi,NameKind→Hj,bindL→Hk,bindC→Hl,cellsFrom→Hm,Arguments→Hn,concat_meets→Ho,noFill_tuple_add→Hq,seq_tuple_add→Hr,evalPart_none→Hs,typeLookup→Ht,seqIndex_of→Hu,slot_list_getitem→Hv,sliceBounds→Hw,call_list_seq→Hx,backToKw→Hy,keywordEach→Hz,call_meets→HA,Params→HB,callerA→HC,compEnvC→HD,closureFor→HE,closureFor_none→HF,newList→HG,newFunctionEnv→HI,wpAny_newObj_type→HJ,wpAny_newFunctionEnv→HK,codeAny_compStart_list→HL,eval_ListComp→HM,wpAny_comprehension_free→HN,compPost→HP,exec_Assign_Name_used→HQ,callWith→HR,WalksS→HS,scanBound→HU,Moved→HV,codeAny_builtin→HW,setAdd→HX,plainId_quiet→HY,codeAny_call_builtin→HZ,check_set_init_1→Ia,wpAny_runValue→Ib,codeAny_of_tree→Ic,weight_type_call_type→Ie,SetTable→Ig,layNew→Ih,relayAll→Ii,pickOrder→Ij,intKind_is→Ik,wpAny_storeSet_of→Il,fits_of_scanBound→Im,wpAny_setState_of→Io,wpAny_rule→Ip,wpAny_of_eq→Iq,wpAny_askSetting→Ir,typeLookup_type→Iu,builtinLookup_eq_fast→Iv,isSubtype_type→Iw,entryFor→Iy,entryFor_alias→Iz,argsOk→IA,drawOrder→IB,setNext→IC,wpAny_attempt→ID,wpAny_callSpecial?_slot→IE,wpAny_call_entry→IF,slotArgs→IG,wpAny_fieldsOf→IH,wpAny_setEntries_of→II,wpAny_setField_rec→IJ,wpAny_setField→IK,newExc→IL,firstArgMember→IM,wpAny_handled→IP,wpAny_isInstance→IQ,isSubtype_stop→IS,wpAny_seqItems→IT,wpAny_pyIter_slot→IU,Setting→IV,setsByText→IW,wpAny_newTuple→IX,wpAny_setEpoch_of→IY,wpAny_typeOf→IZ,wpAny_specialOf→I0,updateSeq→I1,wpAny_updateSeq→Ja,intItems→Jb,numAt_eq→Jc,IsPair→Jd,ZipApart→Je,wpAny_pyNext_zip_item→Jf,wpAny_pyNext_zip_end→Jg,wpAny_pyIter_zip→Jh,wpAny_field→Ji,wpAny_nextOf_list_item→Jj,wpAny_nextOf_list_end→Jk,wpAny_pyIter_enum→Jl,codeAmong→Jm,wpAny_pyIter_revIter→Jn,boot_len→Jo
open Option renaming some→Jp,none→Jq
open Bool renaming true→Jr,false→Js
open Decidable renaming decide→Jt
set_option Elab.async false
set_option linter.all false
set_option maxRecDepth 100000
abbrev Jv:=@if_neg
abbrev Jw:=@if_pos
abbrev Jx:=@absurd
abbrev Jy:=@decide_eq_true
abbrev Jz:=@decide_eq_false
abbrev JA:=@of_decide_eq_true
abbrev JB:=@congrArg
abbrev JC:=@decide_eq_true_iff
local macro_rules|`(term|s!$x)=>do
 let some t:=x.raw.getArgs[0]? | Lean.Macro.throwUnsupported
 let some v:=t.isInterpolatedStrLit? | Lean.Macro.throwUnsupported
 `(PySem.Str.ofString $(Lean.quote v))
theorem Ga{a:Type _}{l:List a}{i:Nat}(h:i<l.length):l[i]?=Jp l[i]:=List.getElem?_eq_getElem h
theorem Gb{b:Type _}{a:b}{l:List b}{i:Nat}:l[i]?=Jp a ↔ ∃h:i<l.length, l[i]=a:=List.getElem?_eq_some_iff
theorem Gd{b:Type _}{l:List b}{i:Nat}{a:b}(e:l[i]?=Jp a):a∈l:=List.mem_of_getElem? e
namespace L2
theorem U{b:Sort _}{a:b}:a=a:=rfl
open PySem PySem.Spec PyProof.Rows
abbrev Key:=Sum Int Str
def yq:Key->De->Bool
 | .inl k,v=>De.isInt k v
 | .inr x,v=>De.isStrOf x v
def Cz(w:D0):Key->Int
 | .inl k=>hashInt k
 | .inr x=>hashStr w x
theorem bR:∀{k:Key}{v:De},yq k v=Jr->(∃i t,k=Sum.inl i/\v=De.int i t)\/(∃x t,k=Sum.inr x/\v=De.str x t)
 | .inl i,v,h=>by
  obtain⟨t,e⟩:=De.isInt_shape (k:=i) (v:=v) h;exact .inl ⟨i,t,U,e⟩
 | .inr x,v,h=>by
  obtain⟨t,e⟩:=De.isStrOf_shape (x:=x) (v:=v) h;exact .inr ⟨x,t,U,e⟩
theorem zh(a b:Int):decide ((Sum.inl a:Key)=Sum.inl b)=(a == b):=by
 by_cases e:a=b
 .subst e;simp
 .have h:¬ (Sum.inl a:Key)=Sum.inl b:=λq=>e (Sum.inl.inj q)
  rw[Jz h];exact(beq_eq_false_iff_ne.mpr e).symm
theorem zi(a b:Str):decide ((Sum.inr a:Key)=Sum.inr b)=Jt (a=b):=by
 by_cases e:a=b
 .subst e;simp
 .have h:¬ (Sum.inr a:Key)=Sum.inr b:=λq=>e (Sum.inr.inj q)
  rw[Jz h,Jz e]
theorem zj(a:Int)(b:Str):decide ((Sum.inl a:Key)=Sum.inr b)=false:=Jz (λq=>nomatch q)
theorem zk(a:Str)(b:Int):decide ((Sum.inr a:Key)=Sum.inl b)=false:=Jz (λq=>nomatch q)
def oA(prog:EX)(w:D0):PySem.KeyKind prog w Key where
 is:=yq
 hash:=Cz w
 inj:=λv a b l f=>by
  rcases bR l with⟨i,t,rfl,rfl⟩|⟨x,t,rfl,rfl⟩
  .rcases bR f with⟨j,u,rfl,e⟩|⟨y,u,rfl,e⟩
   .injection e with c _;rw[c]
   .exact nomatch e
  .rcases bR f with⟨j,u,rfl,e⟩|⟨y,u,rfl,e⟩
   .exact nomatch e
   .injection e with c _;rw[c]
 byValue:=λk v h=>by
  rcases bR h with⟨i,t,rfl,rfl⟩|⟨x,t,rfl,rfl⟩ <;> rfl
 pyHash:=λd h=>by
  rcases bR d with⟨i,t,rfl,rfl⟩|⟨x,t,rfl,rfl⟩
  .exact wpAny_pyHash_int h
  .exact wpAny_pyHash_str h
 eqBool:=λg d h=>by
  rcases bR g with⟨i,t,rfl,rfl⟩|⟨x,t,rfl,rfl⟩
  .rcases bR d with⟨j,u,rfl,rfl⟩|⟨y,u,rfl,rfl⟩
   .rw[zh]at h;exact wpAny_eqBool_int h
   .rw[zj]at h;exact SeqAt.EqAt.int_str i t y u _ _ _ _ h
  .rcases bR d with⟨j,u,rfl,rfl⟩|⟨y,u,rfl,rfl⟩
   .rw[zk]at h;exact SeqAt.EqAt.str_int x t j u _ _ _ _ h
   .rw[zi]at h;exact wpAny_eqBool_str h
 «strs»:=λk x t v h=>by
  rcases bR h with⟨i,u,rfl,e⟩|⟨y,u,rfl,e⟩
  .exact nomatch e
  .injection e with c _;subst c;cases v <;> rfl
inductive V where
 |non|bl (b:Bool)|int (i:Int)|str (x:Str)|byt (b:Array UInt8)|flt (b:UInt64)|ref (a:E2)|ty (n:String)
 deriving DecidableEq
def RelV:V->De->Prop
 | .non,u=>u=De.none
 | .bl b,u=>u=De.bool b
 | .int i,u=>∃t,u=De.int i t
 | .str x,u=>∃t,u=De.str x t
 | .byt b,u=>∃t,u=De.bytes b t
 | .flt b,u=>∃t,u=De.float b t
 | .ref a,u=>u=De.ref a
 | .ty n,u=>u=De.type n
abbrev Vals:List V->List De->Prop:=Paired RelV
theorem Vals.length{xs:List V}{us:List De}(r:Vals xs us):xs.length=us.length:=Paired.length r
theorem Vals.get:∀{xs:List V}{us:List De}{i:Nat}{x:V},Vals xs us->xs[i]?=Jp x->∃u,us[i]?=Jp u/\RelV x u
 |_,_,_,_,.nil,e=>by simp at e
 |_,_,0,_,.cons r _,e=>by simp at e;subst e;exact⟨_,U,r⟩
 |_,_,i+1,x,.cons _ t,e=>by
  obtain⟨u,b,a⟩:=Vals.get (i:=i) (x:=x) t (by simpa using e);exact⟨u,by simpa using b,a⟩
theorem Vals.set{x:V}{u:De}(r:RelV x u):∀{xs:List V}{us:List De}(i:Nat),Vals xs us->Vals (xs.set i x) (us.set i u)
 |_,_,_,.nil=>.nil
 |_,_,0,.cons _ t=>.cons r t
 |_,_,i+1,.cons q t=>.cons q (Vals.set r i t)
theorem Vals.append:∀{xs ys:List V}{us ws:List De},Vals xs us->Vals ys ws->Vals (xs++ys) (us++ws)
 |_,_,_,_,.nil,s=>s
 |_,_,_,_,.cons r t,s=>.cons r (Vals.append t s)
theorem Vals.take:∀{xs:List V}{us:List De}(n:Nat),Vals xs us->Vals (xs.take n) (us.take n)
 |_,_,0,_=>.nil
 |_,_,_+1,.nil=>.nil
 |_,_,n+1,.cons r t=>.cons r (Vals.take n t)
theorem Vals.drop:∀{xs:List V}{us:List De}(n:Nat),Vals xs us->Vals (xs.drop n) (us.drop n)
 |_,_,0,r=>r
 |_,_,_+1,.nil=>.nil
 |_,_,n+1,.cons _ t=>Vals.drop n t
def mR:Option V->Option De->Prop
 |some v,Jp u=>RelV v u
 |none,Jq=>True
 |_,_=>False
def KV{a:Type}:List (a×V)->List (a×De)->Prop:=Paired λ(p:a×V)(q:a×De)=>p.1=q.1/\RelV p.2 q.2
def kV:Key->V
 | .inl i=>.int i
 | .inr x=>.str x
inductive HO where
 |lst (xs:List V)
 |tup (xs:List V)
 |dK (kvs:List (Key×V))|dT (kvs:List (List Key×V))
 |set (S:Int->Bool)(n:Nat)
 |ins (C dx:E2)(fs:List (Str×V))
 |own (x:E2)
 |xd (fs:List (Str×V))
 |met (f x:E2)
 |rng (lo hi:Int)
 |frz (o:Obj)(u:HO)
 |tbl (ps:Array De)
 |ext (φ:FG->Prop)
abbrev Hp:=E2->Option HO
def upd(H:Hp)(a:E2)(o:HO):Hp:=λb=>if b=a then Jp o else H b
theorem ab{H:Hp}{a:E2}{o:HO}:upd H a o a=Jp o:=by unfold upd;rw[Jw U]
theorem aw{H:Hp}{a b:E2}{o:HO}(h:b≠a):upd H a o b=H b:=by unfold upd;rw[Jv h]
theorem wY{H:Hp}{a:E2}{o u:HO}:upd (upd H a o) a u=upd H a u:=by
 funext b;unfold upd;split <;> rfl
theorem fJ{H:Hp}{a b:E2}{o u:HO}(h:H a=Jp o)(h':H b=Jp u)(d:o≠u):a≠b:=by
 intro e;subst e;rw[h]at h';exact d (Option.some.inj h')
theorem aU{H:Hp}{a b:E2}{o:HO}(h:H a=Jp o)(h':H b=Jq):a≠b:=by
 intro e;subst e;rw[h]at h';cases h'
section
variable(P:EX)(w:D0)
def cG(H:Hp)(h:FG)(a:E2):HO->Prop
 | .lst xs=>xs.length<=FL/\∃(b:List De)(n:Nat),Vals xs b/\h.get? a=Jp { cls:=.type "list",data:=.seq b.toArray n }
 | .tup xs=>xs.length<=FL/\∃b:List De,Vals xs b/\IsTup h a b.toArray
 | .dK kvs=>kvs.length<=FL/\(a == Ge)=Js/\∃vs,KV kvs vs/\h.DictOf (oA P w) a vs
 | .dT kvs=>kvs.length<=FL/\(a == Ge)=Js/\∃xs:List (List Key×E2×De),
   Paired (λ(p:List Key×V)(q:List Key×E2×De)=>p.1=q.1/\H q.2.1=Jp (.tup (p.1.map kV))/\RelV p.2 q.2.2) kvs xs /\
   ∃o g i,h.get? a=Jp o/\o.ExactDict/\o.data=.dict g i/\g.toList=xs.map (entryOfKey (tupleKind (oA P w)))/\(xs.map (·.1)).Nodup
 | .set S n=>h.SetOf (Gf P w) a S n
 | .ins C dx fs=>H dx=Jp (.own a)/\fs.length<=1000/\dx≠a/\h.get? a=Jp (W.instObj C dx) /\
   ∃c,h.Ns1 dx c/\(∀f,mR (fs.lookup f) (c f))/\PySem.Within c (fs.map (·.1))
 | .own _=>∃o,h.get? a=Jp o
 | .xd fs=>∃c,h.Ns1 a c/\∀f,mR (fs.lookup f) (c f)
 | .rng lo hi=>∃t u v,h.get? a=Jp { cls:=.type "range",data:=.fields #[.int lo t,.int hi u,.int 1 v] }
 | .frz o u=>h.get? a=Jp o/\cG H h a u
 | .tbl ps=>h.get? a=Jp { cls:=.none,data:=.fields ps }
 | .met f x=>h.get? a=Jp (W.methodObj (.ref f) (.ref x))
 | .ext φ=>φ h/\(∃o,h.get? a=Jp o)/\∀e d:FG,φ e->(∀o,e.get? a=Jp o->d.get? a=Jp o)->φ d
def HOk(H:Hp)(h:FG):Prop:=∀a o,H a=Jp o->cG P w H h a o
end
variable{P:EX}{w:D0}{H H':Hp}{h h':FG}{a:E2}
section
variable{o:HO}
theorem cG.lt(x:cG P w H h a o):a<h.objs.size:=by
 cases o with
 |lst c=>obtain⟨_,_,_,_,e⟩:=x;exact FG.lt_size e
 |tup c=>obtain⟨_,_,_,p⟩:=x;exact p.lt
 |dK b=>obtain⟨_,_,_,_,o,_,_,e,_⟩:=x;exact FG.lt_size e
 |dT b=>obtain⟨_,_,_,_,o,_,_,e,_⟩:=x;exact FG.lt_size e
 |set S n=>obtain⟨o,_,_,_,e,_⟩:=x;exact FG.lt_size e
 |ins C j fs=>obtain⟨_,_,_,e,_⟩:=x;exact FG.lt_size e
 |own y=>obtain⟨_,e⟩:=x;exact FG.lt_size e
 |xd fs=>obtain⟨_,⟨_,_,_,e,_⟩,_⟩:=x;exact FG.lt_size e
 |rng lo hi=>obtain⟨_,_,_,e⟩:=x;exact FG.lt_size e
 |frz i u=>obtain⟨e,_⟩:=x;exact FG.lt_size e
 |tbl g=>exact FG.lt_size (show h.get? a=Jp _ from x)
 |met f y=>exact FG.lt_size (show h.get? a=Jp _ from x)
 |ext d=>obtain⟨_,⟨_,e⟩,_⟩:=x;exact FG.lt_size e
theorem Paired.mapP{d c:Type}{F G:d->c->Prop}:∀{l₁:List d}{l₂:List c},Paired F l₁ l₂->(∀a b,F a b->G a b)->Paired G l₁ l₂
 |_,_,.nil,_=>.nil
 |_,_,.cons r t,f=>.cons (f _ _ r) (Paired.mapP t f)
theorem cG.stay(x:cG P w H h a o)(k:∀b u,(b=a\/H b=Jp (.own a))->h.get? b=Jp u->h'.get? b=Jp u)
  (I:∀b,H b=Jp (.own a)->H' b=Jp (.own a))(G:∀b xs,H b=Jp (.tup xs)->H' b=Jp (.tup xs)):cG P w H' h' a o:=by
 induction o with
 |lst xs=>obtain⟨z,l,n,r,e⟩:=x;exact⟨z,l,n,r,k _ _ (.inl U) e⟩
 |tup xs=>obtain⟨z,l,r,g,e,c⟩:=x;exact⟨z,l,r,g,k _ _ (.inl U) e,c⟩
 |dK A=>obtain⟨z,y,E,r,g,i,j,e,c⟩:=x;exact⟨z,y,E,r,g,i,j,k _ _ (.inl U) e,c⟩
 |dT A =>
  obtain⟨z,y,xs,r,g,i,j,e,c⟩:=x;exact⟨z,y,xs,Paired.mapP r λp q z=>⟨z.1,G _ _ z.2.1,z.2.2⟩,g,i,j,k _ _ (.inl U) e,c⟩
 |set S n=>obtain⟨g,i,j,t,e,c⟩:=x;exact⟨g,i,j,t,k _ _ (.inl U) e,c⟩
 |ins C L fs =>
  obtain⟨d,z,ne,e,s,⟨m,i,j,J,c⟩,r⟩:=x;exact⟨I _ d,z,ne,k _ _ (.inl U) e,s,⟨m,i,j,k _ _ (.inr d) J,c⟩,r⟩
 |own y=>obtain⟨g,e⟩:=x;exact⟨g,k _ _ (.inl U) e⟩
 |xd fs=>obtain⟨s,⟨m,i,j,e,c⟩,r⟩:=x;exact⟨s,⟨m,i,j,k _ _ (.inl U) e,c⟩,r⟩
 |rng lo hi=>obtain⟨t,u,v,e⟩:=x;exact⟨t,u,v,k _ _ (.inl U) e⟩
 |frz g u F=>obtain⟨e,q⟩:=x;exact⟨k _ _ (.inl U) e,F q⟩
 |tbl D =>
  have e:h.get? a=Jp { cls:=.none,data:=.fields D }:=x;show h'.get? a=Jp { cls:=.none,data:=.fields D };exact k a _ (.inl U) e
 |met f y =>
  have e:h.get? a=Jp (W.methodObj (.ref f) (.ref y)):=x;show h'.get? a=Jp (W.methodObj (.ref f) (.ref y));exact k a _ (.inl U) e
 |ext K=>obtain⟨p,⟨o,e⟩,B⟩:=x;exact⟨B _ _ p λo q=>k _ _ (.inl U) q,⟨o,k _ _ (.inl U) e⟩,B⟩
theorem HOk.lt(x:HOk P w H h)(e:H a=Jp o):a<h.objs.size:=(x a o e).lt
theorem HOk.fresh(x:HOk P w H h)(e:h.objs.size<=a):H a=none:=by
 cases q:H a with
 |none=>rfl
 |some u=>exact Jx (wW (x.lt q) e) (yb _)
theorem HOk.kept(x:HOk P w H h)(k:∀b u,h.get? b=Jp u->h'.get? b=Jp u):HOk P w H h':=λa o e =>
 (x a o e).stay (λb u _ q=>k b u q) (λ_ q=>q) λ_ _ q=>q
theorem HOk.laid(x:HOk P w H h)(k:∀b u,h.get? b=Jp u->h'.get? b=Jp u)(g:h.objs.size<=a)(new:cG P w (upd H a o) h' a o):HOk P w (upd H a o) h':=λb u e=>by
 have d:=x.fresh g;by_cases f:b=a
 .subst f;rw[ab]at e;cases e;exact new
 .rw[aw f]at e;exact(x b u e).stay (λc v _ q=>k c v q) (λc q=>by rw[aw (aU q d)];exact q) λc i q=>by rw[aw (aU q d)];exact q
end
def Rd(H:Hp)(a:E2)(u:HO):Prop:=H a=Jp u\/∃o,H a=Jp (.frz o u)
theorem Rd.ok{P:EX}{w:D0}{H:Hp}{h:FG}{a:E2}{u:HO}(r:Rd H a u)(x:HOk P w H h):cG P w H h a u:=by
 rcases r with r|⟨o,r⟩
 .exact x a u r
 .obtain⟨_,q⟩:=x a _ r;exact q
def Mut:Option HO->Prop
 |some (.lst _)=>True
 |some (.dK _)=>True
 |some (.dT _)=>True
 |some (.set _ _)=>True
 |some (.ins _ _ _)=>True
 |some (.ext _)=>True
 |_=>False
variable{x:E2}
section
variable{e:E2}{o':HO}
theorem HOk.write(ok:HOk P w H h)(f:Mut (H x))(m:e=x\/H e=Jp (.own x))(k:∀b u,b≠e->h.get? b=Jp u->h'.get? b=Jp u)(j:∃u,h'.get? e=Jp u)
  (new:cG P w (upd H x o') h' x o'):HOk P w (upd H x o') h':=λb u q=>by
 have n:∀c y,H c=Jp (.own y)->c≠x:=λc y r z=>by subst z;rw[r]at f;exact f
 have p:∀c d,H c=Jp (.tup d)->c≠x:=λc d r z=>by subst z;rw[r]at f;exact f
 by_cases i:b=x
 .subst i;rw[ab]at q;cases q;exact new
 .rw[aw i]at q;by_cases a:b=e
  .have l:H b=Jp (.own x):=by
    rcases m with z|z
    .exact Jx (a.trans z) i
    .rw[a];exact z
   rw[q]at l;cases l;obtain⟨v,o⟩:=j;exact⟨v,by rw[a];exact o⟩
  .refine(ok b u q).stay (λc v g r=>k c v ?_ r) (λc r=>by rw[aw (n c b r)];exact r) λc d r=>by rw[aw (p c d r)];exact r
   rcases g with rfl|g
   .exact a
   .rintro rfl;rcases m with z|z
    .exact n c b g z
    .rw[g]at z;cases z;exact i U
end
structure Un(fs ex:List E2)(H H':Hp)(h h':FG):Prop where
 keep:∀b o,h.get? b=Jp o->H b=Jq->b ∉ fs->b ∉ ex->h'.get? b=Jp o
 slot:∀b o,h.get? b=Jp o->H b=Jq->b∈fs->b ∉ ex->∃sl,h'.get? b=Jp { o with slots:=sl }
 free:∀b o,h.get? b=Jp o->H b=Jq->b ∉ ex->H' b=Jq
 there:∀b o,h.get? b=Jp o->b ∉ ex->∃o',h'.get? b=Jp o'
 tups:∀b xs,H b=Jp (.tup xs)->H' b=Jp (.tup xs)
 frzs:∀b o u,H b=Jp (.frz o u)->H' b=Jp (.frz o u)
 tbls:∀b ps,H b=Jp (.tbl ps)->∃more,H' b=Jp (.tbl (ps++more))
section
variable{fs fs' ex ex':List E2}{H1 H2:Hp}{h1 h2:FG}{e:E2}{o:HO}
theorem Un.any(u:Un fs ex H H1 h h1){b:E2}{a:Obj}(q:h.get? b=Jp a)(n:H b=Jq)(c:b ∉ ex):∃e,h1.get? b=Jp { a with slots:=e }:=by
 by_cases d:b∈fs
 .exact u.slot b a q n d c
 .exact⟨a.slots,u.keep b a q n d c⟩
theorem Un.kept(k:∀b u,h.get? b=Jp u->h'.get? b=Jp u):Un fs ex H H h h' :=
 ⟨λb a q _ _ _=>k b a q,λb a q _ _ _=>⟨a.slots,k b a q⟩,λ_ _ _ n _=>n,λb a q _=>⟨a,k b a q⟩,λ_ _ q=>q,λ_ _ _ q=>q,λ_ c q=>⟨#[],by rw[q];simp⟩⟩
theorem Un.refl:Un fs ex H H h h:=Un.kept λ_ _ q=>q
theorem Un.laid(k:∀b u,h.get? b=Jp u->h'.get? b=Jp u)(e:h.objs.size<=a)(c:H a=Jq):Un fs ex H (upd H a o) h h' where
 keep:=λb u q _ _ _=>k b u q
 slot:=λb u q _ _ _=>⟨u.slots,k b u q⟩
 free:=λb u q n _=>by rw[aw (wO (wW (FG.lt_size q) e))];exact n
 there:=λb u q _=>⟨u,k b u q⟩
 tups:=λb d q=>by rw[aw (aU q c)];exact q
 frzs:=λb u d q=>by rw[aw (aU q c)];exact q
 tbls:=λb f q=>⟨#[],by rw[aw (aU q c),q];simp⟩
theorem Un.write(c:Mut (H x))(m:e=x\/H e=Jp (.own x))(k:∀b u,b≠e->h.get? b=Jp u->h'.get? b=Jp u)(f:∃u,h'.get? e=Jp u):Un fs ex H (upd H x o) h h':=by
 have g:∀b,H b=Jq->b≠x:=λb n z=>by subst z;rw[n]at c;exact c
 have i:∀b,H b=Jq->b≠e:=λb n z=>by
  subst z;rcases m with r|r
  .exact g b n r
  .rw[n]at r;cases r
 have d:∀b u,H b=Jp u->¬ Mut (Jp u)->b≠x:=λb u q l z=>by subst z;rw[q]at c;exact l c
 refine⟨λb u q n _ _=>k b u (i b n) q,λb u q n _ _=>⟨u.slots,k b u (i b n) q⟩,λb u q n _=>by rw[aw (g b n)];exact n,λb u q _=>?_,
  λb j q=>by rw[aw (d b _ q λz=>z)];exact q,λb u j q=>by rw[aw (d b _ q λz=>z)];exact q,λb p q=>⟨#[],by rw[aw (d b _ q λz=>z),q];simp⟩⟩
 by_cases a:b=e
 .subst a;exact f
 .exact⟨u,k b u a q⟩
end
def trk(h:FG)(H:Hp):List E2:=(List.range h.objs.size).filter λa=>(H a).isSome
def lr(h:FG)(H:Hp):FG:=W.hideAll h (trk h H)
theorem tW(h:FG)(H:Hp):(lr h H).objs.size=h.objs.size:=W.hideAll_size _ _
theorem uY{h:FG}{H:Hp}{b:E2}{o:Obj}(e:h.get? b=Jp o)(n:H b=Jq):(lr h H).get? b=Jp o :=
 W.hideAll_get _ e λa=>by
  have q:(H b).isSome=true:=(ll.mp a).2;rw[n]at q;simp at q
theorem wZ{h:FG}{H:Hp}{b:E2}{o:Obj}(e:(lr h H).get? b=Jp o):h.get? b=Jp o/\H b=none:=by
 have a:h.get? b=Jp o:=W.of_hideAll (trk h H) e;refine⟨a,?_⟩;cases q:H b with
 |none=>rfl
 |some x =>
  have c:b∈trk h H:=ll.mpr ⟨hV.mpr (FG.lt_size a),by simp[q]⟩;have z:(lr h H).get? b=none:=W.hideAll_none (trk h H) c;rw[z]at e;cases e
def w6(g h:FG)(L:E2):List (E2×Obj):=(List.range h.objs.size).filterMap λa=>if a=L\/(g.get? a).isSome=Jr then Jq else(h.get? a).map λo=>(a,o)
def rest(g h:FG)(L d:E2):List (E2×Obj):=(w6 g h L).filter λp=>decide (p.1≠d)
structure Mod(K:W.Frag)(mg:Str->Option De)(base:FG):Prop where
 kin:K.In base
 glob:base.Ns Gg mg
 blt:∃mb,base.Ns Gh mb/\∀x:Str,x ≠ "__name__" -> mb x=Gi x
 nolimit:base.NoLimit
structure Cx where
 prog:EX
 w:D0
 K:W.Frag
 mg:Str->Option De
 base:FG
 A:Gj
 N:List Str
 s₀:Gk
 H₀:Hp
 env:Env
 outer:List Env
 stack:List Env
 ex:List E2
 fn:Str->Bool
 calm:Bool
 pn:List (E2×Obj)
 xe:De->Gk->Prop
def frs(l:List Env):List E2:=l.filterMap (·.frame)
abbrev Cx.fs(X:Cx):List E2:=frs X.outer
def Vis(a:Gm)(x:Str):Prop:=a.names.lookup x=Jp .local\/a.names.lookup x=Jp .cell\/a.names.lookup x=Jp .free
def Loc(a:Gm)(x:Str):Prop:=a.names.lookup x=Jp .local\/a.names.lookup x=Jp .cell
def Look(a:Env)(h:FG)(m:Str->Option De)(x:Str)(u:De):Prop :=
 (a.kindOf x=Jp .local/\m x=Jp u)\/((a.kindOf x=Jp .cell\/a.kindOf x=Jp .free)/\∃c,a.cells.lookup x=Jp c/\h.IsCell c (Jp u))
structure Cx.Ok(X:Cx):Prop where
 mod:Mod X.K X.mg X.base
 kind:X.env.scope.kind=.function
 glob:X.env.globals=Gg
 blt:X.env.builtins=Gh
 above:X.s₀.heap.objs.size<=X.env.locals
 inj:∀x y c,X.env.cells.lookup x=Jp c->X.env.cells.lookup y=Jp c->x=y
 has:∀x,(X.env.kindOf x=Jp .cell\/X.env.kindOf x=Jp .free)->∃c,X.env.cells.lookup x=Jp c
 cab:∀x c,X.fn x=Jr->X.env.cells.lookup x=Jp c->X.s₀.heap.objs.size<=c
 hd:X.calm=Jr->X.A.handled=Jq
 frames:X.A.frames=Jp X.stack
 stk:X.stack=X.outer\/(X.stack=X.env :: X.outer/\X.env.frame=Jp X.env.locals)
 exf:∀b∈X.ex,b≠X.env.locals/\∀x c,X.env.cells.lookup x=Jp c->c≠b
 bs:∀b o,X.base.get? b=Jp o->X.s₀.heap.get? b=Jp o/\X.H₀ b=Jq
 bsz:X.base.objs.size<=X.s₀.heap.objs.size
 noex:∀b o,X.base.get? b=Jp o->b ∉ X.ex
 exfs:∀b∈X.ex,b ∉ X.fs
 funs:X.s₀.heap.FunFrames X.base X.outer
 frf:∀b∈X.fs,X.H₀ b=Jq
structure Inv(X:Cx)(Ju:List (E2×Obj))(σ:List (Option V))(H:Hp)(s:Gk):Prop where
 ok:X.Ok
 os:s.os=X.s₀.os
 bare:AllBare s.gens
 base:Un X.fs X.ex X.H₀ H X.s₀.heap s.heap
 loc:∃m,s.heap.Ns X.env.locals m/\∀(i:Nat)(x:Str)(v:V),X.N[i]?=Jp x->σ[i]?=Jp (Jp v)->Vis X.env.scope x->∃u,RelV v u/\Look X.env s.heap m x u
 cell:∀x c,X.env.cells.lookup x=Jp c->∃v,s.heap.IsCell c v
 free:H X.env.locals=Jq
 freeC:∀x c,X.env.cells.lookup x=Jp c->H c=Jq
 pin:∀p∈X.pn++Ju,s.heap.get? p.1=Jp p.2/\H p.1=Jq/\p.1≠X.env.locals/\p.1 ∉ X.fs/\∀v,p.2.data≠.cell v
 hok:HOk X.prog X.w H s.heap
 len:σ.length=X.N.length
variable{X:Cx}{Ju:List (E2×Obj)}{s:Gk}
section
variable{σ:List (Option V)}
theorem Cx.Ok.nofr(ok:X.Ok){b:E2}{o:Obj}(e:X.base.get? b=Jp o):b ∉ X.fs:=λa=>by
 have:=(ok.funs.mem a).1;rw[e]at this;cases this
theorem Inv.bs(I:Inv X Ju σ H s):∀b o,X.base.get? b=Jp o->s.heap.get? b=Jp o/\H b=none:=λb o e =>
 ⟨I.base.keep b o (I.ok.bs b o e).1 (I.ok.bs b o e).2 (I.ok.nofr e) (I.ok.noex b o e),I.base.free b o (I.ok.bs b o e).1 (I.ok.bs b o e).2 (I.ok.noex b o e)⟩
theorem Inv.bk(I:Inv X Ju σ H s):∀b o,X.base.get? b=Jp o->s.heap.get? b=Jp o:=λb o e=>(I.bs b o e).1
theorem Inv.mod(I:Inv X Ju σ H s):Mod X.K X.mg X.base:=I.ok.mod
theorem Inv.kIn(I:Inv X Ju σ H s):X.K.In s.heap:=I.ok.mod.kin.keeps I.bk
theorem Inv.lt(I:Inv X Ju σ H s):X.env.locals<s.heap.objs.size:=by obtain⟨_,a,_⟩:=I.loc;exact a.lt
theorem Inv.sz(I:Inv X Ju σ H s):X.s₀.heap.objs.size<=s.heap.objs.size:=wX I.ok.above (x3 I.lt)
theorem Inv.nofs(I:Inv X Ju σ H s){a:E2}(h:s.heap.objs.size<=a):a ∉ X.fs:=λc=>by
 obtain⟨_,o,b,_⟩:=I.ok.funs.mem c;exact Jx (wW (FG.lt_size b) (wX I.sz h)) (yb _)
theorem Inv.cne(I:Inv X Ju σ H s):∀x c,X.env.cells.lookup x=Jp c->c≠X.env.locals:=λx c e z=>by
 obtain⟨v,o,d,f⟩:=I.cell x c e;obtain⟨m,⟨g,h,i,a,b,_⟩,_⟩:=I.loc;rw[z,a]at d;cases d;rw[b]at f;cases f
theorem Inv.funs(I:Inv X Ju σ H s):s.heap.FunFrames X.base X.outer:=by
 have all:∀(l:List Env),(∀b∈frs l,b∈X.fs)->X.s₀.heap.FunFrames X.base l->s.heap.FunFrames X.base l:=by
  intro l;induction l with
  |nil=>intro _ _;trivial
  |cons p r g =>
   intro f k;obtain⟨m,⟨L,o,a,j,i,n⟩,h⟩:=k;have d:L∈X.fs:=f L (by unfold frs;rw[sC,a];exact gb);obtain⟨q,e⟩:=I.base.slot L o i (I.ok.frf L d) d λz=>I.ok.exfs L z d
   exact⟨m,⟨L,_,a,j,e,n⟩,g (λb c=>f b (by unfold frs;rw[sC,a];exact ik _ c)) h⟩
 exact all X.outer (λ_ c=>c) I.ok.funs
theorem Inv.stack(I:Inv X Ju σ H s):s.heap.FunFrames X.base X.stack:=by
 rcases I.ok.stk with e|⟨e,b⟩
 .rw[e];exact I.funs
 .rw[e];obtain⟨m,a,_⟩:=I.loc;refine .cons (by rw[I.ok.kind];decide) b a ?_ I.funs;exact FG.get?_none_of_le (wX I.ok.bsz I.ok.above)
theorem Inv.stkSub(I:Inv X Ju σ H s):∀b∈frs X.stack,b∈X.env.locals :: X.fs:=λb a=>by
 rcases I.ok.stk with e|⟨e,c⟩
 .rw[e]at a;exact ik _ a
 .rw[e]at a;unfold frs at a;rw[sC,c]at a;exact a
theorem Inv.stkFree(I:Inv X Ju σ H s):∀b∈frs X.stack,H b=none:=λb a=>by
 rcases dy.mp (I.stkSub b a)with e|a
 .rw[e];exact I.free
 .obtain⟨_,o,c,_⟩:=I.ok.funs.mem a;exact I.base.free b o c (I.ok.frf b a) λz=>I.ok.exfs b z a
theorem Inv.step{g':Array Gn}{t':Nat}{d':Drawn}{ch:List E2}(I:Inv X Ju σ H s)
  (g:∀b∈ch,(b∈X.ex\/X.s₀.heap.objs.size<=b)/\b≠X.env.locals/\(∀x c,X.env.cells.lookup x=Jp c->c≠b)/\∀p∈X.pn++Ju,p.1≠b)
  (keep:∀b o,b≠X.env.locals->b ∉ X.fs->b ∉ ch->s.heap.get? b=Jp o->H b=Jq->h'.get? b=Jp o)
  (slot:∀b o,b≠X.env.locals->b∈X.fs->b ∉ ch->s.heap.get? b=Jp o->H b=Jq->∃F,h'.get? b=Jp { o with slots:=F })(free:∀b o,b ∉ ch->s.heap.get? b=Jp o->H b=Jq->H' b=Jq)
  (there:∀b o,b ∉ ch->s.heap.get? b=Jp o->∃B,h'.get? b=Jp B)
  (tups:∀b xs,H b=Jp (.tup xs)->H' b=Jp (.tup xs))(frzs:∀b o u,H b=Jp (.frz o u)->H' b=Jp (.frz o u))(tbls:∀b ps,H b=Jp (.tbl ps)->∃E,H' b=Jp (.tbl (ps++E)))
  (ns:∀m,s.heap.Ns X.env.locals m->h'.Ns X.env.locals m)(hok:HOk X.prog X.w H' h')(R:AllBare g') :
  Inv X Ju σ H' { s with heap:=h',gens:=g',drawn:=d',toks:=t' }:=by
 have D:∀b o,X.s₀.heap.get? b=Jp o->b≠X.env.locals:=λb o e=>wO (wW (FG.lt_size e) I.ok.above)
 have t:∀b o,X.s₀.heap.get? b=Jp o->b ∉ X.ex->b ∉ ch:=λb o e a y=>by
  rcases(g b y).1 with z|z
  .exact a z
  .exact Jx (wW (FG.lt_size e) z) (yb _)
 have h:∀x c,X.env.cells.lookup x=Jp c->∀v,s.heap.IsCell c v->h'.IsCell c v:=λx c e v ⟨o,A,G⟩=>by
  have f:c ∉ ch:=λz=>(g c z).2.2.1 x c e U
  by_cases M:c∈X.fs
  .obtain⟨F,q⟩:=slot c o (I.cne x c e) M f A (I.freeC x c e);exact⟨_,q,G⟩
  .exact⟨o,keep c o (I.cne x c e) M f A (I.freeC x c e),G⟩
 refine⟨I.ok,I.os,R,⟨λb o e n y a=>?_,λb o e n y a=>?_,λb o e n a=>?_,λb o e a=>?_,λb xs e=>tups b xs (I.base.tups b xs e),λb o xs e=>frzs b o xs (I.base.frzs b o xs e),λb ps e=>?_⟩,?_,λx c e=>?_,?_,λx c e=>?_,λp L=>?_,hok,I.len⟩
 .exact keep b o (D b o e) y (t b o e a) (I.base.keep b o e n y a) (I.base.free b o e n a)
 .obtain⟨F,j⟩:=I.base.slot b o e n y a;obtain⟨J,C⟩:=slot b _ (D b o e) y (t b o e a) j (I.base.free b o e n a);exact⟨J,C⟩
 .obtain⟨B,j⟩:=I.base.there b o e a;exact free b B (t b o e a) j (I.base.free b o e n a)
 .obtain⟨B,j⟩:=I.base.there b o e a;exact there b B (t b o e a) j
 .obtain⟨O,j⟩:=I.base.tbls b ps e;obtain⟨N,C⟩:=tbls b _ j;exact⟨O++N,by rw[C,Array.append_assoc]⟩
 .obtain⟨m,P,Q⟩:=I.loc;refine⟨m,ns m P,λi x v j C S=>?_⟩;obtain⟨u,r,l⟩:=Q i x v j C S;refine⟨u,r,?_⟩;rcases l with l|⟨k,c,e,z⟩
  .exact .inl l
  .exact .inr ⟨k,c,e,h x c e _ z⟩
 .obtain⟨v,z⟩:=I.cell x c e;exact⟨v,h x c e v z⟩
 .obtain⟨m,⟨o,_,_,A,_⟩,_⟩:=I.loc;exact free _ o (λz=>(g _ z).2.1 U) A I.free
 .obtain⟨v,o,A,G⟩:=I.cell x c e;exact free c o (λz=>(g c z).2.2.1 x c e U) A (I.freeC x c e)
 .obtain⟨e,n,ne,K,d⟩:=I.pin p L;have f:p.1 ∉ ch:=λz=>(g p.1 z).2.2.2 p L U
  exact⟨keep p.1 p.2 ne K f e n,free p.1 p.2 f e n,ne,K,d⟩
theorem Inv.un{t':Nat}(I:Inv X Ju σ H s)(u:Un X.fs [] H H' s.heap h')(hok:HOk X.prog X.w H' h'):Inv X Ju σ H' { s with heap:=h',toks:=t' }:=by
 obtain⟨m,⟨o,q,t,g,r⟩,_⟩:=id I.loc;obtain⟨k,j⟩:=u.any g I.free (by simp);exact I.step (g':=s.gens) (d':=s.drawn) (ch:=[]) (λ_ z=>nomatch z) (λb o _ c _ e n=>u.keep b o e n c (by simp)) (λb o _ c _ e n=>u.slot b o e n c (by simp)) (λb o _ e n=>u.free b o e n (by simp)) (λb o _ e=>u.there b o e (by simp)) u.tups u.frzs u.tbls (λp i=>by
  obtain⟨l,d,f,a,h⟩:=i;rw[g]at a;cases a;exact⟨_,d,f,j,h⟩) hok I.bare
theorem Inv.call{g':Array Gn}{t':Nat}{d':Drawn}{ch:List E2}(I:Inv X Ju σ H s)(u:Un (frs X.stack) ch H H' s.heap h')(hok:HOk X.prog X.w H' h')(q:AllBare g')
  (f:∀b∈ch,(b∈X.ex\/X.s₀.heap.objs.size<=b)/\b≠X.env.locals/\(∀x c,X.env.cells.lookup x=Jp c->c≠b)/\∀p∈X.pn++Ju,p.1≠b) :
  Inv X Ju σ H' { s with heap:=h',gens:=g',drawn:=d',toks:=t' }:=by
 obtain⟨m,⟨o,B,C,j,r⟩,_⟩:=id I.loc;obtain⟨v,g⟩:=u.any j I.free λz=>(f _ z).2.1 U
 exact I.step (ch:=ch) f (λb o g t a e n=>u.keep b o e n (λz=>(dy.mp (I.stkSub b z)).elim g t) a) (λb o _ _ a e n=>u.any e n a) (λb o a e n=>u.free b o e n a) (λb o a e=>u.there b o e a) u.tups u.frzs u.tbls (λA l=>by
  obtain⟨y,h,i,d,k⟩:=l;rw[j]at d;cases d;exact⟨_,h,i,g,k⟩) hok q
theorem Inv.turned{t':Nat}{it:E2}(I:Inv X Ju σ H s)(k:∀b o,b≠it->s.heap.get? b=Jp o->h'.get? b=Jp o)(h:H it=Jq)(f:it≠X.env.locals)
  (w:it∈X.ex\/X.s₀.heap.objs.size<=it)(t:∀x c,X.env.cells.lookup x=Jp c->c≠it)(l:∀p∈X.pn++Ju,p.1≠it):Inv X Ju σ H { s with heap:=h',toks:=t' }:=by
 have d:∀b u,H b=Jp u->b≠it:=λb u e z=>by rw[z,h]at e;cases e
 refine I.step (g':=s.gens) (d':=s.drawn) (ch:=[it]) (λb j=>?_) (λb o _ _ a e _=>k b o (λz=>a (by simp[z])) e) (λb o _ _ a e _=>⟨o.slots,k b o (λz=>a (by simp[z])) e⟩) (λ_ _ _ _ n=>n)
  (λb o a e=>⟨o,k b o (λz=>a (by simp[z])) e⟩) (λ_ _ e=>e) (λ_ _ _ e=>e) (λb B e=>⟨#[],by rw[e];simp⟩) (λm i=>?_) (λb u e=>?_) I.bare
 .have e:b=it:=by simpa using j
  subst e;exact⟨w,f,t,l⟩
 .obtain⟨o,y,A,g,r⟩:=i;exact⟨o,y,A,k _ o (Ne.symm f) g,r⟩
 .refine(I.hok b u e).stay (λc v a q=>k c v ?_ q) (λ_ q=>q) λ_ _ q=>q
  rcases a with z|z
  .rw[z];exact d b u e
  .exact d c _ z
theorem Inv.tok(I:Inv X Ju σ H s)(t:Nat):Inv X Ju σ H { s with toks:=t }:=I.un (h':=s.heap) (t':=t) Un.refl I.hok
theorem Inv.kept{t':Nat}(I:Inv X Ju σ H s)(k:∀b u,s.heap.get? b=Jp u->h'.get? b=Jp u):Inv X Ju σ H { s with heap:=h',toks:=t' }:=I.un (Un.kept k) (I.hok.kept k)
theorem Inv.laid{a:E2}{o:HO}{t':Nat}(I:Inv X Ju σ H s)(k:∀b u,s.heap.get? b=Jp u->h'.get? b=Jp u)(c:s.heap.objs.size<=a)(new:cG X.prog X.w (upd H a o) h' a o) :
  Inv X Ju σ (upd H a o) { s with heap:=h',toks:=t' }:=I.un (Un.laid k c (I.hok.fresh c)) (I.hok.laid k c new)
theorem Inv.write{x e:E2}{o:HO}{t':Nat}(I:Inv X Ju σ H s)(c:Mut (H x))(d:e=x\/H e=Jp (.own x))(k:∀b u,b≠e->s.heap.get? b=Jp u->h'.get? b=Jp u)(a:∃u,h'.get? e=Jp u)
  (new:cG X.prog X.w (upd H x o) h' x o):Inv X Ju σ (upd H x o) { s with heap:=h',toks:=t' }:=I.un (Un.write c d k a) (I.hok.write c d k a new)
theorem Inv.pins_of{a:List (E2×Obj)}(I:Inv X Ju σ H s)(h:∀p∈a,s.heap.get? p.1=Jp p.2/\H p.1=Jq/\p.1≠X.env.locals/\p.1 ∉ X.fs/\∀v,p.2.data≠.cell v):Inv X a σ H s :=
 ⟨I.ok,I.os,I.bare,I.base,I.loc,I.cell,I.free,I.freeC,λp b=>(iK.mp b).elim (λz=>I.pin p (mu _ z)) (h p),I.hok,I.len⟩
theorem jH{N:List Str}(c:N.Nodup){i j:Nat}{x:Str}(a:N[i]?=Jp x)(b:N[j]?=Jp x):i=j:=by
 obtain⟨g,e⟩:=Gb.mp a;obtain⟨f,d⟩:=Gb.mp b;exact(uX c).mp (e.trans d.symm)
theorem kb{M:Gp}{A:Gj}{E:De->Gk->Prop}{i:Nat}{x:Str}{v:V}{u:De}{Q:Unit->Gk->Prop}(I:Inv X Ju σ H s)(hN:X.N.Nodup)(hi:X.N[i]?=Jp x)(B:Loc X.env.scope x)(r:RelV v u)
  (h:∀s',Inv X Ju (σ.set i (Jp v)) H s'->(∃a,FG.SameBut a s.heap s'.heap/\(a=X.env.locals\/X.env.cells.lookup x=Jp a))->Q () s')(hf:X.fn x=Jr\/X.env.scope.names.lookup x=Jp .local:=by first|exact .inl U|exact .inr U|assumption):Gq M A (Gr X.env x u) Q E s:=by
 obtain⟨m,hn,hl⟩:=id I.loc;have CB:(X.env.scope.kind == .class || (X.env.scope.kind == .module && X.env.locals != X.env.globals))=false:=by rw[I.ok.kind];rfl
 have F:i<σ.length:=by rw[I.len];exact(Gb.mp hi).1
 have cne:=I.cne;have l:∀{a:E2}{h':FG},(∃o,s.heap.get? a=Jp o/\H a=Jq)->FG.SameBut a s.heap h'->HOk X.prog X.w H h':=λ{a h'} ha f b ob e=>by
  obtain⟨_,_,sG⟩:=ha;refine(I.hok b ob e).stay (λc R t q=>(f.2 c ?_).trans q) (λ_ q=>q) λ_ _ q=>q
  rintro rfl;rcases t with rfl|t
  .rw[sG]at e;cases e
  .rw[sG]at t;cases t
 rcases B with D|D
 .refine wpAny_storeName_local D hn (λh' a1 f=>?_) CB;obtain⟨oL,_,_,a0,_⟩:=id hn;refine h _ ⟨I.ok,I.os,I.bare,⟨λb o e n J B=>?_,λb o e n J B=>?_,I.base.free,λb o e B=>?_,I.base.tups,I.base.frzs,I.base.tbls⟩,⟨_,a1,λj y T g C e3=>?_⟩,λy c e=>?_,I.free,I.freeC,λp hp=>?_,l ⟨oL,a0,I.free⟩ f,by simpa using I.len⟩ ⟨_,f,.inl U⟩
  .exact(f.2 b (wO (wW (FG.lt_size e) I.ok.above))).trans (I.base.keep b o e n J B)
  .obtain⟨Y,g⟩:=I.base.slot b o e n J B;exact⟨Y,(f.2 b (wO (wW (FG.lt_size e) I.ok.above))).trans g⟩
  .obtain⟨o',g⟩:=I.base.there b o e B;exact⟨o',(f.2 b (wO (wW (FG.lt_size e) I.ok.above))).trans g⟩
  .by_cases G:j=i
   .subst G;rw[hi]at g;cases g;rw[List.getElem?_set_self F]at C;cases C;exact⟨u,r,.inl ⟨D,by simp⟩⟩
   .rw[List.getElem?_set_ne (Ne.symm G)]at C;obtain⟨W,Z,q⟩:=hl j y T g C e3;refine⟨W,Z,?_⟩;rcases q with⟨k,e⟩|⟨k,c,e,z⟩
    .refine .inl ⟨k,?_⟩;have:y≠x:=λe=>G (jH hN g (e ▸ hi))
     simp[this,e]
    .exact .inr ⟨k,c,e,z.sameBut f (cne y c e)⟩
  .obtain⟨R,z⟩:=I.cell y c e;exact⟨R,z.sameBut f (cne y c e)⟩
  .obtain⟨e,n,ne,nf,d⟩:=I.pin p hp;exact⟨(f.2 p.1 ne).trans e,n,ne,nf,d⟩
 .have K:X.fn x=true:=by
   rcases hf with z|z
   .exact z
   .rw[z]at D;cases D
  obtain⟨c,t⟩:=I.ok.has x (.inl D);obtain⟨R,z⟩:=I.cell x c t;refine wpAny_storeName_cell I.ok.kind D t z (λh' P f=>?_);obtain⟨oc,L,CC⟩:=id z;refine h { s with heap:=h' } ⟨I.ok,I.os,I.bare,⟨λb o e n J B=>?_,λb o e n J B=>?_,I.base.free,λb o e B=>?_,I.base.tups,I.base.frzs,I.base.tbls⟩,⟨m,hn.sameBut f (Ne.symm (cne x c t)),λj y T g C e3=>?_⟩,λy S e=>?_,I.free,I.freeC,λp hp=>?_,l ⟨oc,L,I.freeC x c t⟩ f,by simpa using I.len⟩ ⟨c,f,.inr t⟩
  .exact(f.2 b (wO (wW (FG.lt_size e) (I.ok.cab x c K t)))).trans (I.base.keep b o e n J B)
  .obtain⟨Y,g⟩:=I.base.slot b o e n J B;exact⟨Y,(f.2 b (wO (wW (FG.lt_size e) (I.ok.cab x c K t)))).trans g⟩
  .obtain⟨o',g⟩:=I.base.there b o e B;exact⟨o',(f.2 b (wO (wW (FG.lt_size e) (I.ok.cab x c K t)))).trans g⟩
  .by_cases G:j=i
   .subst G;rw[hi]at g;cases g;rw[List.getElem?_set_self F]at C;cases C;exact⟨u,r,.inr ⟨.inl D,c,t,P⟩⟩
   .rw[List.getElem?_set_ne (Ne.symm G)]at C;obtain⟨W,Z,q⟩:=hl j y T g C e3;refine⟨W,Z,?_⟩;rcases q with q|⟨k,S,e,z'⟩
    .exact .inl q
    .refine .inr ⟨k,S,e,z'.sameBut f ?_⟩;rintro rfl;exact G (jH hN g (I.ok.inj _ _ _ e t ▸ hi))
  .by_cases O:S=c
   .subst O;exact⟨_,P⟩
   .obtain⟨w2,z2⟩:=I.cell y S e;exact⟨w2,z2.sameBut f O⟩
  .obtain⟨e,n,ne,nf,d⟩:=I.pin p hp;refine⟨(f.2 p.1 ?_).trans e,n,ne,nf,d⟩;intro q;rw[q,L]at e;have q':oc=p.2:=Option.some.inj e;exact d R (by rw[←q'];exact CC)
theorem lu{M:Gp}{A:Gj}{E:De->Gk->Prop}{i:Nat}{x:Str}{v:V}{u:De}{Q:Unit->Gk->Prop}(I:Inv X Ju σ H s)(c:X.N.Nodup)(hi:X.N[i]?=Jp x)(a:Loc X.env.scope x)(r:RelV v u)
  (h:∀s',Inv X Ju (σ.set i (Jp v)) H s'->Q () s')(b:X.fn x=Jr\/X.env.scope.names.lookup x=Jp .local:=by first|exact .inl U|exact .inr U|assumption):Gq M A (Gr X.env x u) Q E s :=
 kb I c hi a r (λs' d _=>h s' d) b
theorem Inv.call'{s':Gk}{ch:List E2}(I:Inv X Ju σ H s)(f:s'.os=s.os)(u:Un (frs X.stack) ch H H' s.heap s'.heap)(hok:HOk X.prog X.w H' s'.heap)(g:AllBare s'.gens)
  (a:∀b∈ch,(b∈X.ex\/X.s₀.heap.objs.size<=b)/\b≠X.env.locals/\(∀x c,X.env.cells.lookup x=Jp c->c≠b)/\∀p∈X.pn++Ju,p.1≠b):Inv X Ju σ H' s':=by
 obtain⟨h',g',d',t',d⟩:=s';have e:d=s.os:=f;subst e;exact I.call (g':=g') (t':=t') (d':=d') u hok g a
end
abbrev XK:=De->Option E2->Hp->Prop
abbrev St:=List (Option V)
abbrev VK:=V->Hp->Prop
abbrev TE:=St->Hp->VK->Prop
abbrev TT:=St->Hp->(Bool->Hp->Prop)->Prop
abbrev TA:=St->Hp->(List V->Hp->Prop)->Prop
structure Ends where
 nx:St->Hp->Prop
 rt:VK
 bk:St->Hp->Prop:=λ_ _=>False
 ct:St->Hp->Prop:=λ_ _=>False
abbrev TS:=Ends->St->Hp->Prop
def EP(X:Cx)(Ju:List (E2×Obj))(a:St)(Q:VK)(u:De)(s':Gk):Prop:=∃v H',Inv X Ju a H' s'/\RelV v u/\Q v H'
def TP(X:Cx)(Ju:List (E2×Obj))(a:St)(Q:Bool->Hp->Prop)(b:Bool)(s':Gk):Prop:=∃H',Inv X Ju a H' s'/\Q b H'
def AP(X:Cx)(Ju:List (E2×Obj))(b:St)(Q:List V->Hp->Prop)(us:List De)(s':Gk):Prop:=∃a H',Inv X Ju b H' s'/\Vals a us/\Q a H'
def SP(X:Cx)(Ju:List (E2×Obj))(D:Ends)(f:Flow)(s':Gk):Prop :=
 match f with
 | .next=>∃a H',Inv X Ju a H' s'/\D.nx a H'
 | .brk=>∃a H',Inv X Ju a H' s'/\D.bk a H'
 | .cont=>∃a H',Inv X Ju a H' s'/\D.ct a H'
 | .ret u=>∃v a H',Inv X Ju a H' s'/\RelV v u/\D.rt v H'
def PE(X:Cx)(e:Gs)(t:TE):Prop :=
 ∀(Ju:List (E2×Obj))(s:Gk)(a:St)(H:Hp)(Q:VK),Inv X Ju a H s->t a H Q->Gq (model X.prog X.w) X.A (eval e X.env) (EP X Ju a Q) X.xe s
def PT(X:Cx)(e:Gs)(t:TT):Prop :=
 ∀(Ju:List (E2×Obj))(s:Gk)(a:St)(H:Hp)(Q:Bool->Hp->Prop),Inv X Ju a H s->t a H Q->Gq (model X.prog X.w) X.A (Gu e X.env (eval e X.env)) (TP X Ju a Q) X.xe s
def PW(X:Cx)(e:Gs)(t:TT):Prop :=
 ∀(a:Sem De)(Ju:List (E2×Obj))(s:Gk)(b:St)(H:Hp)(Q:Bool->Hp->Prop),Inv X Ju b H s->t b H Q->Gq (model X.prog X.w) X.A (Gu e X.env a) (TP X Ju b Q) X.xe s
theorem PW.pt{X:Cx}{e:Gs}{t:TT}(h:PW X e t):PT X e t:=h _
def PA(X:Cx)(c:List Gs)(t:TA):Prop :=
 ∀(b:Pos)(Ju:List (E2×Obj))(s:Gk)(a:St)(H:Hp)(Q:List V->Hp->Prop),Inv X Ju a H s->t a H Q->Gq (model X.prog X.w) X.A (spliced (Gv b (Gw c X.env))) (AP X Ju a Q) X.xe s
def PS(X:Cx)(b:Gx)(t:TS):Prop :=
 ∀(Ju:List (E2×Obj))(s:Gk)(a:St)(H:Hp)(D:Ends),Inv X Ju a H s->t D a H->Gq (model X.prog X.w) X.A (exec b X.env) (SP X Ju D) X.xe s
def PSs(X:Cx)(b:List Gx)(t:TS):Prop :=
 ∀(Ju:List (E2×Obj))(s:Gk)(a:St)(H:Hp)(D:Ends),Inv X Ju a H s->t D a H->Gq (model X.prog X.w) X.A (execs b X.env) (SP X Ju D) X.xe s
theorem thn{b:Type}{t:Sem b}{Q c:b->Gk->Prop}{M:Gp}{A:Gj}{E:De->Gk->Prop}{s:Gk}(h:Gq M A t Q E s)(d:∀a s,Q a s->c a s):Gq M A t c E s:=Gy h d λ_ _ x=>x
variable{ta tb:TE}{pos:Pos}
section
inductive zl(i:Nat)(σ:St)(H:Hp)(Q:VK):Prop
 |mk (v:_)(_:σ[i]?=Jp (Jp v))(_:Q v H)
def tC(v:V):TE:=λ_ H Q=>Q v H
theorem uZ{i:Nat}{x:Str}{pos:Pos}(q:X.N[i]?=Jp x)(k:Vis X.env.scope x)(b:(x == ("__debug__" : Str))=false:=by decide) (d:(x == ("__classdict__" : Str))=false:=by decide):PE X (.Name x pos) (zl i):=by
 intro Ju s j H Q I h;obtain⟨v,e,h⟩:=h;obtain⟨m,n,p⟩:=I.loc;obtain⟨u,r,l⟩:=p i x v q e k;have fin:EP X Ju j Q u s:=⟨v,H,I,r,h⟩;rcases l with⟨a,o⟩|⟨a,c,f,g⟩
 .exact Gz (GA I.ok.kind a n o fin) b
 .rcases a with a|a
  .exact Gz (GB I.ok.kind a f g fin) b
  .exact Gz (wpAny_loadName_free I.ok.kind a f g fin d) b
theorem ai{i j pos}:PE X (.Constant (.int i) j pos) (tC (.int i)):=λ_ _ _ H _ I h=>wpAny_Constant_int ⟨.int i,H,I.tok _,⟨_,U⟩,h⟩
theorem dY{b j pos}:PE X (.Constant (.bool b) j pos) (tC (.bl b)):=λ_ _ _ H _ I h=>Constant_bool ⟨.bl b,H,I,U,h⟩
theorem kc{j pos}:PE X (.Constant .none j pos) (tC .non):=λ_ _ _ H _ I h=>Constant_none ⟨.non,H,I,U,h⟩
theorem aQ{x j pos}:PE X (.Constant (.str x) j pos) (tC (.str x)):=λ_ _ _ H _ I h=>Calls.Constant_str ⟨.str x,H,I.tok _,⟨_,U⟩,h⟩
def Gl(X:Cx)(x:Str):Prop:=X.env.kindOf x=Jp .globalImplicit
theorem ir{E:De->Gk->Prop}{Ju:List (E2×Obj)}{s:Gk}{a:St}{H:Hp}{x:Str}{u:De}{pos:Pos}{Q:De->Gk->Prop}(I:Inv X Ju a H s)(c:Gl X x)(b:X.mg x=Jp u)(h:Q u s)
  (hd:(x == ("__debug__" : Str))=false:=by decide):Gq (model X.prog X.w) X.A (eval (.Name x pos) X.env) Q E s :=
 Calls.Name_function_global I.ok.kind c (Calls.loadGlobal_global (by rw[I.ok.glob];exact I.mod.glob.keeps I.bk) b h) hd
theorem eG{E:De->Gk->Prop}{Ju:List (E2×Obj)}{s:Gk}{a:St}{H:Hp}{x:Str}{u:De}{pos:Pos}{Q:De->Gk->Prop}(I:Inv X Ju a H s)(e:Gl X x)(d:X.mg x=Jq)(b:Gi x=Jp u)(h:Q u s)
  (c:x ≠ "__name__" := by decide) (hd:(x == ("__debug__" : Str))=false:=by decide):Gq (model X.prog X.w) X.A (eval (.Name x pos) X.env) Q E s:=by
 obtain⟨i,g,f⟩:=I.mod.blt;exact Calls.Name_function_global I.ok.kind e (Calls.loadGlobal_builtin (by rw[I.ok.glob];exact I.mod.glob.keeps I.bk) d (by rw[I.ok.blt];exact g.keeps I.bk) ((f x c).trans b) h) hd
theorem cg{x:Str}{v:V}{u:De}{pos:Pos}(b:Gl X x)(a:X.mg x=Jp u)(r:RelV v u)(c:(x == ("__debug__" : Str))=false:=by decide):PE X (.Name x pos) (tC v) :=
 λ_ _ _ H _ I h=>ir I b a ⟨v,H,I,r,h⟩ c
theorem iu{x:Str}{v:V}{u:De}{pos:Pos}(d:Gl X x)(c:X.mg x=Jq)(a:Gi x=Jp u)(r:RelV v u)(b:x ≠ "__name__" := by decide) (hd:(x == ("__debug__" : Str))=false:=by decide):PE X (.Name x pos) (tC v) :=
 λ_ _ _ H _ I h=>eG I d c a ⟨v,H,I,r,h⟩ b hd
variable{a b:Gs}
inductive tBq  (Q:Bool->Hp->Prop)(x:V)(H1:Hp):Prop
 |mk (c:_)(_:x=.bl c)(_:Q c H1):tBq Q x H1
def tB(t:TE):TT:=λa H Q=>t a H λx b=>tBq Q x b
theorem bq{e:Gs}{t:TE}(h:PE X e t)(i:∀a,Gu e X.env a=(do let v ←a;GC e.pos;holding [v] (truthy v)):=by intro _;rfl):PT X e (tB t):=by
 intro Ju s b H Q I g;refine isTrue_plain (thn (h Ju s b H _ I g) λv l ⟨x,k,j,c,f⟩=>?_) (i _);obtain⟨d,rfl,q⟩:=f;cases c;exact GD ⟨k,j,q⟩
variable{tA tB':TT}{rest:List Gs}
def CD(t u:TT):TT:=λa H Q=>t a H λc b=>if c=Jr then u a b Q else Q Js b
def tOr(t u:TT):TT:=λa H Q=>t a H λc b=>if c=Jr then Q Jr b else u a b Q
def CF(t:TT):TT:=λa H Q=>t a H λc b=>Q (!c) b
theorem cS(d:PT X a tA):PW X (.BoolOp .And [a] pos) tA:=by
 intro f Ju s b H Q I h;refine isTrue_and (thn (d Ju s b H Q I h) λc g e=>?_);cases c with
 |true=>exact isTrue_and_nil e
 |false=>exact e
theorem kd(d:PT X a tA):PW X (.BoolOp .Or [a] pos) tA:=by
 intro f Ju s b H Q I h;refine isTrue_or (thn (d Ju s b H Q I h) λc g e=>?_);cases c with
 |false=>exact isTrue_or_nil e
 |true=>exact e
theorem dz(l:PT X a tA)(k:PW X (.BoolOp .And (b :: rest) pos) tB'):PW X (.BoolOp .And (a :: b :: rest) pos) (CD tA tB'):=by
 intro i Ju s d H Q I h;refine isTrue_and (thn (l Ju s d H _ I h) λc j ⟨g,f,e⟩=>?_);cases c with
 |true=>exact k i Ju j d g Q f e
 |false=>exact⟨g,f,e⟩
theorem jI(l:PT X a tA)(k:PW X (.BoolOp .Or (b :: rest) pos) tB'):PW X (.BoolOp .Or (a :: b :: rest) pos) (tOr tA tB'):=by
 intro i Ju s d H Q I h;refine isTrue_or (thn (l Ju s d H _ I h) λc j ⟨g,f,e⟩=>?_);cases c with
 |true=>exact⟨g,f,e⟩
 |false=>exact k i Ju j d g Q f e
theorem bW(d:PT X a tA):PT X (.UnaryOp .Not a pos) (CF tA):=by
 intro Ju s b H Q I h;exact isTrue_not (d Ju s b H (λc e=>Q (!c) e) I h)
inductive u5(tb:TE)(σ:St)(Q:VK)(x:V)(H1:Hp):Prop
 |mk (c:_)(_:x=.bl c)(_:if c=Jr then tb σ H1 Q else Q (.bl Js) H1)
def A3(ta tb:TE):TE:=λa H Q=>ta a H λx b=>u5 tb a Q x b
inductive u6  (Q:VK)(x:V)(H1:Hp):Prop
 |mk (c:_)(_:x=.bl c)(_:Q (.bl (!c)) H1):u6 Q x H1
def A4(ta:TE):TE:=λa H Q=>ta a H λx b=>u6 Q x b
theorem i6{op} {t:TE}(h:PE X a t):PE X (.BoolOp op [a] pos) t:=λJu s b H Q I c=>BoolOp_one (h Ju s b H Q I c)
theorem fY(l:PE X a ta)(k:PE X (.BoolOp .And (b :: rest) pos) tb):PE X (.BoolOp .And (a :: b :: rest) pos) (A3 ta tb):=by
 intro Ju s e H Q I h;refine BoolOp_and (thn (l Ju s e H _ I h) λv i ⟨x,g,f,j,d⟩=>?_);obtain⟨c,rfl,d⟩:=d;cases j;refine GD ?_;cases c with
 |true=>exact k Ju i e g Q f d
 |false=>exact⟨.bl Js,g,f,U,d⟩
theorem u7(f:PE X a ta):PE X (.UnaryOp .Not a pos) (A4 ta):=by
 intro Ju s d H Q I h;refine UnaryOp_ (thn (f Ju s d H _ I h) λv j ⟨x,i,g,e,b⟩=>?_);obtain⟨c,rfl,b⟩:=b;cases e;exact not_of (GD ⟨.bl (!c),i,g,U,b⟩)
def tIf(t:TT)(ta tb:TE):TE:=λa H Q=>t a H λc b=>if c=Jr then ta a b Q else tb a b Q
theorem pM{c:Gs}(k:PT X c tA)(m:PE X a ta)(l:PE X b tb):PE X (.IfExp c a b pos) (tIf tA ta tb):=by
 intro Ju s e H Q I h;refine wpAny_IfExp (thn (k Ju s e H _ I h) λd f ⟨j,i,g⟩=>?_);cases d with
 |true=>exact m Ju f e j Q i g
 |false=>exact l Ju f e j Q i g
end
def SqL(K:W.Frag)(H:Hp)(a:E2)(xs:List V):Prop :=
 Rd H a (.lst xs) \/
  ∃(o:Obj)(b:Array De)(n:Nat),K.lookup a=Jp o/\o.cls=.type "list" /\ o.dict=Jq/\o.data=.seq b n/\b.size<=FL/\Vals xs b.toList
def SqT(K:W.Frag)(H:Hp)(a:E2)(xs:List V):Prop :=
 Rd H a (.tup xs) \/
  ∃(o:Obj)(b:Array De)(n:Nat),K.lookup a=Jp o/\o.cls=.type "tuple" /\ o.data=.seq b n/\b.size<=FL/\Vals xs b.toList
def CG:De->Option V
 | .none=>Jp .non
 | .bool b=>Jp (.bl b)
 | .int i _=>Jp (.int i)
 | .str x _=>Jp (.str x)
 | .bytes b _=>Jp (.byt b)
 | .float b _=>Jp (.flt b)
 | .ref a=>Jp (.ref a)
 | .type n=>Jp (.ty n)
 |_=>Jq
theorem RelV.abs{x:V}{u:De}(r:RelV x u):CG u=Jp x:=by
 cases x with
 |non=>cases r;rfl
 |bl _=>cases r;rfl
 |int _=>obtain⟨t,rfl⟩:=r;rfl
 |str _=>obtain⟨t,rfl⟩:=r;rfl
 |byt _=>obtain⟨t,rfl⟩:=r;rfl
 |flt _=>obtain⟨t,rfl⟩:=r;rfl
 |ref _=>cases r;rfl
 |ty _=>cases r;rfl
theorem RelV.inj{x y:V}{u:De}(r:RelV x u)(q:RelV y u):x=y:=Option.some.inj (r.abs.symm.trans q.abs)
theorem Vals.inj:∀{xs ys:List V}{us:List De},Vals xs us->Vals ys us->xs=ys
 |_,_,_,.nil,.nil=>rfl
 |_,_,_,.cons r t,.cons r' t'=>by rw[r.inj r',Vals.inj t t']
variable{σ:St}
section
variable{xs ys:List V}
theorem SqL.of{K:W.Frag}(h:H a=Jp (.lst xs)):SqL K H a xs:=.inl (.inl h)
theorem SqT.of{K:W.Frag}(h:H a=Jp (.tup xs)):SqT K H a xs:=.inl (.inl h)
theorem Inv.list(I:Inv X Ju σ H s)(h:SqL X.K H a xs):∃b:List De,Vals xs b/\PlainL s.heap a b.toArray/\xs.length<=FL:=by
 rcases h with h|⟨o,b,n,d,g,f,c,i,r⟩
 .obtain⟨z,b,n,r,e⟩:=h.ok I.hok;exact⟨b,r,⟨_,n,e,U,U,U⟩,z⟩
 .refine⟨b.toList,r,⟨o,n,I.kIn a o d,g,f,by simpa using c⟩,?_⟩;have e:=r.length;simp only[Ah]at e;lia
theorem Inv.tuple(I:Inv X Ju σ H s)(h:SqT X.K H a xs):∃b:List De,Vals xs b/\IsTup s.heap a b.toArray/\xs.length<=FL:=by
 rcases h with h|⟨o,b,n,d,f,c,g,r⟩
 .obtain⟨z,b,r,p⟩:=h.ok I.hok;exact⟨b,r,p,z⟩
 .refine⟨b.toList,r,⟨o,I.kIn a o d,f,n,by simpa using c⟩,?_⟩;have e:=r.length;simp only[Ah]at e;lia
theorem Inv.list_inj(I:Inv X Ju σ H s)(h:SqL X.K H a xs)(h':SqL X.K H a ys):xs=ys:=by
 obtain⟨c,r,⟨o,n,e,_,_,d⟩,_⟩:=I.list h;obtain⟨b,i,⟨k,l,f,_,_,g⟩,_⟩:=I.list h';rw[e]at f;cases f;rw[d]at g;injection g with j _;have:c=b:=by simpa using JB Array.toList j
 subst this;exact r.inj i
theorem Inv.tuple_inj(I:Inv X Ju σ H s)(h:SqT X.K H a xs)(h':SqT X.K H a ys):xs=ys:=by
 obtain⟨c,r,⟨o,e,_,n,d⟩,_⟩:=I.tuple h;obtain⟨b,i,⟨k,f,_,l,g⟩,_⟩:=I.tuple h';rw[e]at f;cases f;rw[d]at g;injection g with j _;have:c=b:=by simpa using JB Array.toList j
 subst this;exact r.inj i
end
abbrev Cx.wish(X:Cx)(E:De->Gk->Prop):Cx:={ X with xe:=E }
abbrev Cx.nox(X:Cx):Cx:=X.wish λ_ _=>False
theorem Cx.Ok.wish{X:Cx}(ok:X.Ok)(E:De->Gk->Prop):(X.wish E).Ok :=
 ⟨ok.mod,ok.kind,ok.glob,ok.blt,ok.above,ok.inj,ok.has,ok.cab,ok.hd,ok.frames,ok.stk,ok.exf,ok.bs,ok.bsz,ok.noex,ok.exfs,ok.funs,ok.frf⟩
theorem Cx.Ok.unwish{X:Cx}{E:De->Gk->Prop}(ok:(X.wish E).Ok):X.Ok :=
 ⟨ok.mod,ok.kind,ok.glob,ok.blt,ok.above,ok.inj,ok.has,ok.cab,ok.hd,ok.frames,ok.stk,ok.exf,ok.bs,ok.bsz,ok.noex,ok.exfs,ok.funs,ok.frf⟩
variable{E:De->Gk->Prop}
theorem Inv.wish(I:Inv X Ju σ H s)(E:De->Gk->Prop):Inv (X.wish E) Ju σ H s:=⟨I.ok.wish E,I.os,I.bare,I.base,I.loc,I.cell,I.free,I.freeC,I.pin,I.hok,I.len⟩
theorem Inv.unwish(I:Inv (X.wish E) Ju σ H s):Inv X Ju σ H s:=⟨I.ok.unwish,I.os,I.bare,I.base,I.loc,I.cell,I.free,I.freeC,I.pin,I.hok,I.len⟩
theorem SP.unwish{D:Ends}{f:Flow}{s':Gk}(h:SP (X.wish E) Ju D f s'):SP X Ju D f s':=by
 cases f with
 |next=>obtain⟨a,H',I,q⟩:=h;exact⟨a,H',I.unwish,q⟩
 |brk=>obtain⟨a,H',I,q⟩:=h;exact⟨a,H',I.unwish,q⟩
 |cont=>obtain⟨a,H',I,q⟩:=h;exact⟨a,H',I.unwish,q⟩
 |ret u=>obtain⟨v,a,H',I,r,q⟩:=h;exact⟨v,a,H',I.unwish,r,q⟩
theorem PE.nox{e:Gs}{t:TE}(h:PE X.nox e t):PE X e t:=λJu s σ H Q I a =>
 Gy (h Ju s σ H Q (I.wish _) a) (λ_ _ ⟨v,H',b,r,q⟩=>⟨v,H',b.unwish,r,q⟩) λ_ _ z=>False.elim z
theorem PSs.nox{a:List Gx}{t:TS}(h:PSs X.nox a t):PSs X a t:=λJu s σ H D I b =>
 Gy (h Ju s σ H D (I.wish _) b) (λ_ _ q=>q.unwish) λ_ _ z=>False.elim z
variable{e:Gs}{te:TE}
section
variable{st:Gx}{rest:List Gx}{t u:TS}
def A5:TS:=λD σ H=>D.nx σ H
def CH(t u:TS):TS:=λD σ H=>t { D with nx:=u D } σ H
theorem aG:PSs X [] A5:=λ_ _ σ H _ I h=>GG ⟨σ,H,I,h⟩
theorem ak(d:PS X st t)(c:PSs X rest u):PSs X (st :: rest) (CH t u):=by
 intro Ju s σ H D I h;refine GH (thn (d Ju s σ H { D with nx:=u D } I h) λf b q=>?_);cases f with
 |next =>
  obtain⟨a,H',e,q⟩:=q;exact c Ju b a H' D e q
 |ret v=>exact q
 |brk=>exact q
 |cont=>exact q
theorem af(a:PS X st t):PSs X [st] t:=by
 intro Ju s σ H D I h;refine GH (thn (a Ju s σ H D I h) λf b q=>?_);cases f with
 |next=>exact GG q
 |ret v=>exact q
 |brk=>exact q
 |cont=>exact q
theorem Inv.quiet{Ju:List (E2×Obj)}{σ:St}{H:Hp}{s:Gk}(I:Inv X Ju σ H s):interactive X.env=false:=by simp[interactive,I.ok.kind]
def A6(te:TE):TS:=λD σ H=>te σ H λ_ a=>D.nx σ a
theorem aX(c:PE X e te)(b:GI e Jq pos.line X.env=pure false:=by rfl):PS X (.Expr e pos) (A6 te):=by
 intro Ju s σ H D I h;exact wpAny_Expr_any (thn (c Ju s σ H _ I h) λv g ⟨x,f,d,i,a⟩=>⟨σ,f,d,a⟩) I.quiet b
def CI(te:TE):TS:=λD σ H=>te σ H D.rt
theorem au(c:PE X e te):PS X (.Return (Jp e) pos) (CI te):=by
 intro Ju s σ H D I h;exact wpAny_Return_some (thn (c Ju s σ H _ I h) λv g ⟨x,f,d,a,b⟩=>⟨x,σ,f,d,a,b⟩)
def CJ(c:TT)(t u:TS):TS:=λD σ H=>c σ H λb a=>if b=Jr then t D σ a else u D σ a
theorem aO{c:Gs}{a b:List Gx}{e:TT}(k:PT X c e)(m:PSs X a t)(l:PSs X b u):PS X (.If c a b pos) (CJ e t u):=by
 intro Ju s σ H D I h;refine wpAny_If (thn (k Ju s σ H _ I h) λd f ⟨j,i,g⟩=>?_);cases d with
 |true=>exact m Ju f σ j D i g
 |false=>exact l Ju f σ j D i g
def zm:TS:=λ_ _ _=>False
theorem bT:PS X st zm:=λ_ _ _ _ _ _ h=>h.elim
end
abbrev TG:=V->St->Hp->(St->Hp->Prop)->Prop
abbrev TGs:=List V->St->Hp->(St->Hp->Prop)->Prop
def PG(X:Cx)(a:Gs)(t:TG):Prop :=
 ∀(Ju:List (E2×Obj))(s:Gk)(σ:St)(H:Hp)(v:V)(u:De)(Q:St->Hp->Prop),Inv X Ju σ H s->RelV v u->t v σ H Q ->
  Gq (model X.prog X.w) X.A (assign a X.env u) (λ_ c=>∃b H',Inv X Ju b H' c/\Q b H') X.xe s
def PGs(X:Cx)(ts:List Gs)(t:TGs):Prop :=
 ∀(Ju:List (E2×Obj))(s:Gk)(σ:St)(H:Hp)(b:List V)(c:List De)(Q:St->Hp->Prop),Inv X Ju σ H s->Vals b c->t b σ H Q ->
  Gq (model X.prog X.w) X.A (assignInOrder ((GJ ts X.env).map (·.2)) c) (λ_ d=>∃a H',Inv X Ju a H' d/\Q a H') X.xe s
abbrev zo:=V->V->V->Hp->(Hp->Prop)->Prop
def A7(X:Cx)(t:zo):Prop :=
 ∀(Ju:List (E2×Obj))(s:Gk)(σ:St)(H:Hp)(o i v:V)(a b u:De)(Q:Hp->Prop),Inv X Ju σ H s->RelV o a->RelV i b->RelV v u->t o i v H Q ->
  Gq (model X.prog X.w) X.A (setItem a b u) (λ_ c=>∃H',Inv X Ju σ H' c/\Q H') X.xe s
abbrev TIp:=V->V->Hp->VK->Prop
def PIp(X:Cx)(a:GK)(t:TIp):Prop :=
 ∀(Ju:List (E2×Obj))(s:Gk)(σ:St)(H:Hp)(x y:V)(v u:De)(Q:VK),Inv X Ju σ H s->RelV x v->RelV y u->t x y H Q ->
  Gq (model X.prog X.w) X.A (inplaceOp a v u) (EP X Ju σ Q) X.xe s
def nu(i:Nat):TG:=λv σ H Q=>Q (σ.set i (Jp v)) H
theorem ax{i:Nat}{x:Str}(c:X.N.Nodup)(hi:X.N[i]?=Jp x)(a:Loc X.env.scope x)(b:X.fn x=Jr\/X.env.scope.names.lookup x=Jp .local:=by first|exact .inl U|exact .inr U|assumption):PG X (.Name x pos) (nu i):=by
 intro Ju s σ H v u Q I r h;exact GL (lu I c hi a r (λe d=>⟨_,H,d,h⟩) b)
def CK:TGs:=λa σ H Q=>a=[]/\Q σ H
def A8(t:TG)(u:TGs):TGs:=λb σ H Q=>∃v r,b=v :: r/\t v σ H λa H'=>u r a H' Q
theorem aY:PGs X [] CK:=by
 intro Ju s σ H a b Q I r h;obtain⟨e,h⟩:=h;subst e;cases r;exact assignInOrder_nil ⟨σ,H,I,h⟩
theorem az{e:Gs}{a:List Gs}{t:TG}{u:TGs}(j:PG X e t)(i:PGs X a u)
  (g:(GJ (e :: a) X.env).map (·.2)=assign e X.env :: (GJ a X.env).map (·.2):=by rfl):PGs X (e :: a) (A8 t u):=by
 intro Ju s σ H n p Q I r h;obtain⟨v,o,k,h⟩:=h;subst k;cases r with
 |cons r d =>
  rw[g];refine assignInOrder_cons (thn (j Ju s σ H _ _ _ I r h) λ_ c ⟨b,m,l,f⟩=>?_);exact i Ju c b m _ _ Q l d f
def A9(K:W.Frag)(n:Nat)(t:TGs):TG:=λv σ H Q=>∃a b,v=.ref a/\SqT K H a b/\b.length=n/\t b σ H Q
theorem cJ{c:List Gs}{k:Nat}{t:TGs}{n:Nat}(w:X.calm=Jr)(h:PGs X c t)
  (p:(GJ c X.env).length=n:=by rfl)(f:(GJ c X.env).findIdx? (·.1)=none:=by rfl):PG X (.Tuple c k pos) (A9 X.K n t):=by
 intro Ju s σ H v u Q I r d;obtain⟨a,i,x,m,q,d⟩:=d;subst x;cases r;obtain⟨z,g,l,A⟩:=I.tuple m;refine assign_Tuple_tuple (I.ok.hd w) l (by simp[p,←q,g.length]) f λh' j=>?_
 have y:Inv X Ju σ H { s with heap:=h' }:=I.kept (t':=s.toks) λb o e=>j b o (wO (FG.lt_size e)) e
 exact h Ju _ σ H i _ Q y (by simpa using g) d
def CM(to a:TE)(t:zo):TG:=λv σ H Q=>to σ H λo d=>a σ d λi c=>t o i v c λb=>Q σ b
theorem oB{o i:Gs}{to c:TE}{t:zo}(m:PE X o to)(hi:PE X i c)(l:A7 X t)
  (n:∀v,assign (.Subscript o i pos) X.env v=(do
   let a ←holding [v] (eval o X.env)
   let b ←holding [v,a] (eval i X.env)
   GC pos
   holding [v,a,b] (setItem a b v)
   release [v,a,b] []):=by intro _;rfl):PG X (.Subscript o i pos) (CM to c t):=by
 intro Ju s σ H v u Q I r h;rw[n];refine CW (C7 (thn (m Ju s σ H _ I h) λa d ⟨x,B,w,f,k⟩=>?_));refine CW (C7 (thn (hi Ju d σ B _ w k) λb s2 ⟨y,A,q,e,j⟩=>?_));refine CW (GN (CW (C7 (thn (l Ju s2 σ A x y v a b u _ q f e r j) λ_ C ⟨z,p,g⟩=>?_))));exact wpAny_release ⟨σ,z,p,g⟩
def xa(te:TE)(g:TG):TS:=λD σ H=>te σ H λx a=>g x σ a D.nx
theorem oC{a e:Gs}{te:TE}{g:TG}(k:PE X e te)(j:PG X a g)(i:swapsWithSole [a] e pos.line X.env=pure false:=by rfl)(f:swappedStores [a] e X.env=pure none:=by rfl)
  (l:(GJ [a] X.env).map (·.2)=[assign a X.env]:=by rfl):PS X (.Assign [a] e pos) (xa te g):=by
 intro Ju s σ H D I h;refine wpAny_Assign_stores (thn (k Ju s σ H _ I h) λv b ⟨x,n,m,c,d⟩=>?_) i f;rw[l];exact thn (j Ju b σ n x v _ m c d) λ_ s2 q=>q
theorem aF{i:Nat}{x:Str}{e:Gs}{te:TE}{a:Pos}(k:X.N.Nodup)(hi:X.N[i]?=Jp x)(d:Loc X.env.scope x)(j:PE X e te)(f:GI e (Jp (.Name x a)) pos.line X.env=pure false:=by rfl)(g:X.fn x=Jr\/X.env.scope.names.lookup x=Jp .local:=by first|exact .inl U|exact .inr U|assumption) :
  PS X (.Assign [.Name x a] e pos) (xa te (nu i)):=by
 intro Ju s σ H D I h;refine wpAny_Assign_Name (thn (j Ju s σ H _ I h) λv o ⟨y,n,m,b,c⟩=>?_) f;exact lu m k hi d b (λs2 l=>⟨_,n,l,c⟩) g
inductive Ba(i:Nat)(te:TE)(ti:TIp)(D:Ends)(σ:St)(H:Hp):Prop
 |mk (x:_)(_:σ[i]?=Jp (Jp x))(_:te σ H λy H1=>ti x y H1 λz H2=>D.nx (σ.set i (Jp z)) H2)
theorem zp{i:Nat}{x:Str}{e:Gs}{te:TE}{g:GK}{o:TIp}{f:Pos}(P:X.N.Nodup)(hi:X.N[i]?=Jp x)(j:Loc X.env.scope x)(M:PE X e te)(F:PIp X g o)(L:X.fn x=Jr\/X.env.scope.names.lookup x=Jp .local:=by first|exact .inl U|exact .inr U|assumption) :
  PS X (.AugAssign (.Name x f) g e pos) (Ba i te o):=by
 intro Ju s σ H D I h;obtain⟨v,R,h⟩:=h;obtain⟨m,G,K⟩:=I.loc;have n:Vis X.env.scope x:=by rcases j with k|k;exact .inl k;exact .inr (.inl k)
 obtain⟨u,r,l⟩:=K i x v hi R n;refine wpAny_AugAssign_Name ?_;have p:Gq (model X.prog X.w) X.A (eval e X.env) (λw d=>Gq (model X.prog X.w) X.A (inplaceOp g u w) (λr b=>Gq (model X.prog X.w) X.A (Gr X.env x r) (λ_=>SP X Ju D .next) X.xe b) X.xe d) X.xe s:=by
  refine thn (M Ju s σ H _ I h) λw q ⟨y,Y,V,B,E⟩=>?_
  refine thn (F Ju q σ Y v y u w _ V r B E) λz s2 ⟨Z,W,T,t,C⟩=>?_
  exact lu T P hi j t (λs3 S=>⟨_,W,S,C⟩) L
 rcases l with⟨a,J⟩|⟨a,c,O,Q⟩
 .exact GA I.ok.kind a G J p
 .rcases a with a|a
  .exact GB I.ok.kind a O Q p
  .rcases j with k|k
   .have:X.env.scope.names.lookup x=Jp .free:=a;rw[k]at this;cases this
   .have:X.env.scope.names.lookup x=Jp .free:=a;rw[k]at this;cases this
def zq(c:TT)(tb:TS):TS:=λD σ H=>∃W:Nat->St->Hp->Prop,(∃m,W m σ H)/\∀m σ H,W m σ H ->
 c σ H λb e=>if b=Jr then ∃N:St->Hp->Prop,(∀a H',N a H'->∃d,d<m/\W d a H')/\tb { D with nx:=N,ct:=N,bk:=D.nx } σ e else D.nx σ e
theorem pN{c:Gs}{body:List Gx}{q:TT}{tb:TS}(r:GO (model X.prog X.w) X.A X.env X.xe)(G:PT X c q)(J:PSs X body tb):PS X (.While c body [] pos) (zq q tb):=by
 intro Ju s σ H D I h;obtain⟨W,⟨F,B⟩,i⟩:=h;refine wpAny_While (codeAny_whileLoop (λn E=>∃g H',Inv X Ju g H' E/\W n g H') ?_ F ⟨σ,H,I,B⟩);rintro n C ⟨d,y,K,z⟩;refine GP r (thn (G Ju C d y _ K (i n d y z)) λb s2 ⟨x,u,k⟩=>?_);cases b with
 |true =>
  obtain⟨N,t,k⟩:=k;rw[Jw U];refine GP r (thn (J Ju s2 d x _ u k) λf L j=>?_);cases f with
  |next =>
   obtain⟨a,e,p,l⟩:=j;obtain⟨m,o,w3⟩:=t a e l;exact⟨m,o,a,e,p,w3⟩
  |cont =>
   obtain⟨a,e,p,l⟩:=j;obtain⟨m,o,w3⟩:=t a e l;exact⟨m,o,a,e,p,w3⟩
  |brk=>exact j
  |ret v=>exact j
 |false =>
  rw[Jv Bool.false_ne_true];exact GG ⟨d,x,u,k⟩
structure It where
 go:Nat->Hp->Prop
 yld:Nat->Hp->V->Hp->Prop
 stop:Nat->Hp->Prop
def ke(X:Cx)(Ju:List (E2×Obj))(H:Hp)(b:E2):Prop :=
 H b=Jq/\b≠X.env.locals/\b ∉ X.fs/\(b∈X.ex\/X.s₀.heap.objs.size<=b)/\(∀x c,X.env.cells.lookup x=Jp c->c≠b)/\∀p∈X.pn++Ju,p.1≠b
theorem Inv.fpOk{X:Cx}{Ju:List (E2×Obj)}{σ:St}{H H':Hp}{s:Gk}{b:E2}(I:Inv X Ju σ H s)(a:s.heap.objs.size<=b)(f:H' b=Jq):ke X Ju H' b:=by
 refine⟨f,w5 (wW I.lt a),I.nofs a,.inr (wX I.sz a),λx c e z=>?_,λp d z=>?_⟩
 .obtain⟨v,q⟩:=I.cell x c e;exact Jx (wW q.lt (by rw[z];exact a)) (yb _)
 .exact Jx (wW (FG.lt_size (I.pin p d).1) (by rw[z];exact a)) (yb _)
structure Turn(P:EX)(w:D0)(K:W.Frag)(tg:Gs)(J:It)(fp:List E2)(it:E2)(tn:Nat->FG->Prop):Prop where
 mem:it∈fp
 obj:∀i h,tn i h->∀b∈fp,∃o,h.get? b=Jp o/\∀v,o.data≠.cell v
 keep:∀i h h',tn i h->(∀b∈fp,∀o,h.get? b=Jp o->h'.get? b=Jp o)->tn i h'
 item:∀(X:Cx),X.prog=P->X.w=w->X.K=K->X.calm=Jr->∀(i:Nat)(Ju:List (E2×Obj))(s:Gk)(σ:St)(H:Hp)(E:De->Gk->Prop),Inv X Ju σ H s->(∀b∈fp,ke X Ju H b)->tn i s.heap->J.go i H ->
  Gq (model P w) X.A (GQ (.ref it)) (λr s1=>∃u,r=Jp u /\
   Gq (model P w) X.A (GR tg (.ref it) u) (λ_ s2=>∃x H',Inv X Ju σ H' s2/\RelV x u/\J.yld i H x H'/\tn (i+1) s2.heap/\∀b∈fp,H' b=Jq) E s1) E s
 done:∀(X:Cx),X.prog=P->X.w=w->X.K=K->X.calm=Jr->∀(i:Nat)(Ju:List (E2×Obj))(s:Gk)(σ:St)(H:Hp)(E:De->Gk->Prop),Inv X Ju σ H s->(∀b∈fp,ke X Ju H b)->tn i s.heap->J.stop i H ->
  Gq (model P w) X.A (GQ (.ref it)) (λr s1=>r=Jq/\Inv X Ju σ H s1) E s
 self:∀(A:Gj)(i:Nat)(s:Gk)(Q:De->Gk->Prop)(E:De->Gk->Prop),tn i s.heap->Q (.ref it) s->Gq (model P w) A (GS (.ref it)) Q E s
abbrev TI:=St->Hp->(It->Hp->Prop)->Prop
def PIE(X:Cx)(Ju:List (E2×Obj))(σ:St)(f:Gs)(R:It->Hp->Prop)(a:De)(s2:Gk):Prop :=
 ∃(d:E2)(e:List E2)(c:Nat->FG->Prop)(J:It)(H':Hp),a=.ref d/\Inv X Ju σ H' s2/\Turn X.prog X.w X.K f J e d c/\c 0 s2.heap/\(∀b∈e,ke X Ju H' b)/\R J H'
def PI(X:Cx)(c a:Gs)(b:TI):Prop :=
 ∀(Ju:List (E2×Obj))(s:Gk)(σ:St)(H:Hp)(R:It->Hp->Prop),Inv X Ju σ H s->b σ H R ->
  Gq (model X.prog X.w) X.A (eval a X.env) (λv d=>Gq (model X.prog X.w) X.A (GS v) (PIE X Ju σ c R) X.xe d) X.xe s
theorem ny{M:Gp}{A:Gj}{E:De->Gk->Prop}{s:Gk}{b:Gs}{it:E2}{u:De}{o:Obj}{n:String}{vs:Array De}{Q:Unit->Gk->Prop}(c:s.heap.get? it=Jp o)(f:o.cls=.type n)(e:o.data=.fields vs)
  (d:["enumerate","zip","dict_itemiterator","dict_reverseitemiterator","odict_iterator","itertools.zip_longest","itertools.pairwise"].contains n=Js) (a:Q () s):Gq M A (GR b (.ref it) u) Q E s:=by
 unfold GR
 cases b <;> first
  |exact CY a
  |(cases u <;> first
    |exact CY a
    |(refine CW (wpAny_load c ?_);rw[f,e];show Gq M A (if (["enumerate","zip","dict_itemiterator","dict_reverseitemiterator","odict_iterator","itertools.zip_longest","itertools.pairwise"].contains n && vs[0]? == Jp (GU _))=Jr then _ else _) Q E s;rw[Jv (by intro h;rw[d,Bool.false_and]at h;cases h)];exact CY a))
def Itl(K:W.Frag)(a:E2):It :=
 ⟨λi H=>∃b x,SqL K H a b/\b[i]?=Jp x,λi H x H'=>H'=H/\∀b,SqL K H a b->b[i]?=Jp x,λi H=>∃b,SqL K H a b/\b.length<=i⟩
def Itt(K:W.Frag)(a:E2):It :=
 ⟨λi H=>∃b x,SqT K H a b/\b[i]?=Jp x,λi H x H'=>H'=H/\∀b,SqT K H a b->b[i]?=Jp x,λi H=>∃b,SqT K H a b/\b.length<=i⟩
def Itr(lo:Int)(n:Nat):It:=⟨λi _=>i<n,λi H x H'=>H'=H/\x=.int (lo+i),λi _=>n<=i⟩
theorem tX{P:EX}{w:D0}{K:W.Frag}{N:Gs}(a it:E2):Turn P w K N (Itl K a) [it] it (λi h=>h.IsListIter it a i) where
 mem:=by simp
 obj:=λi h f b g=>by
  have e:b=it:=by simpa using g
  subst e;obtain⟨o,e,c,d⟩:=f;exact⟨o,e,λv z=>by rw[d]at z;cases z⟩
 keep:=λi h h' f k=>f.at λo e=>k it (by simp) o e
 item:=by
  intro X y r A L i Ju s σ H E I m f t;subst y r A;obtain⟨M,x,l,q⟩:=t;obtain⟨J,n,p,R⟩:=I.list l;obtain⟨u,T,Q⟩:=n.get q;obtain⟨G,F,V,D,C,B⟩:=m it (by simp);refine wpAny_pyNext_list_item f p.isList (x:=u) (by simpa using T) λh' j O=>?_
  have Z:Inv X Ju σ H { s with heap:=h' }:=I.turned (t':=s.toks) (λb o g e=>(O.2 b g).trans e) G F D C B;obtain⟨o,e,c,d⟩:=id j;exact⟨u,U,ny (s:={ s with heap:=h' }) e c d (by decide) ⟨x,H,Z,Q,⟨U,λys S=>by rw[I.list_inj S l];exact q⟩,j,λb g=>(m b g).1⟩⟩
 done:=by
  intro X y r A L i Ju s σ H E I m f t;subst y r A;obtain⟨M,l,q⟩:=t;obtain⟨J,n,p,R⟩:=I.list l;obtain⟨G,F,V,D,C,B⟩:=m it (by simp);have hl:=n.length;exact wpAny_pyNext_list_end (I.ok.hd L) f p.isList (by simp;lia) λh' Y=>⟨U,I.turned (t':=s.toks) (λb o g e=>Y b o g e) G F D C B⟩
 self:=λ_ _ _ _ _ f h=>wpAny_pyIter_listiter f h
theorem qZ{P:EX}{w:D0}{K:W.Frag}{N:Gs}(a it:E2):Turn P w K N (Itt K a) [it] it (λi h=>h.IsTupleIter it a i) where
 mem:=by simp
 obj:=λi h f b g=>by
  have e:b=it:=by simpa using g
  subst e;obtain⟨o,e,c,d⟩:=f;exact⟨o,e,λv z=>by rw[d]at z;cases z⟩
 keep:=λi h h' f k=>f.at λo e=>k it (by simp) o e
 item:=by
  intro X A t B L i Ju s σ H E I n f y;subst A t B;obtain⟨M,x,m,r⟩:=y;obtain⟨j,q,p,R⟩:=I.tuple m;obtain⟨u,T,Q⟩:=q.get r;obtain⟨J,G,V,F,D,C⟩:=n it (by simp);refine wpAny_pyNext_tuple_item f (show s.heap.IsTuple a j.toArray from p) (x:=u) (by simpa using T) λh' l O=>?_
  have Z:Inv X Ju σ H { s with heap:=h' }:=I.turned (t':=s.toks) (λb o g e=>(O.2 b g).trans e) J G F D C;obtain⟨o,e,c,d⟩:=id l;exact⟨u,U,ny (s:={ s with heap:=h' }) e c d (by decide) ⟨x,H,Z,Q,⟨U,λys S=>by rw[I.tuple_inj S m];exact r⟩,l,λb g=>(n b g).1⟩⟩
 done:=by
  intro X A t B L i Ju s σ H E I n f y;subst A t B;obtain⟨M,m,r⟩:=y;obtain⟨j,q,p,R⟩:=I.tuple m;obtain⟨J,G,V,F,D,C⟩:=n it (by simp);have hl:=q.length;exact wpAny_pyNext_tuple_end (I.ok.hd L) f (show s.heap.IsTuple a j.toArray from p) (by simp;lia) λh' Y=>⟨U,I.turned (t':=s.toks) (λb o g e=>Y b o g e) J G F D C⟩
 self:=λ_ _ _ _ _ f h=>wpAny_pyIter_tupleiter f h
theorem q8{P:EX}{w:D0}{K:W.Frag}{C:Gs}(it:E2)(lo:Int)(n:Nat):Turn P w K C (Itr lo n) [it] it (λi h=>IsRangeIter h it (lo+(i:Nat)*1) ((n:Int)-(i:Nat)) 1) where
 mem:=by simp
 obj:=λi h a b c=>by
  have e:b=it:=by simpa using c
  subst e;exact⟨_,a,λv z=>by
   have B:Data.fields _=Data.cell v:=z;cases B⟩
 keep:=λi h h' a k=>k it (by simp) _ a
 item:=by
  intro X m g p l i Ju s σ H E I f a j;subst m g p;obtain⟨y,x,G,u,r,q⟩:=f it (by simp);have W:=GV.range (prog:=X.prog) (w:=X.w) (I.ok.hd l) it lo 1 n;refine W.item i s _ _ j a λv h' A F d D=>?_
  obtain⟨t,rfl⟩:=F;have L:Inv X Ju σ H { s with heap:=h',toks:=A }:=I.turned (λb o c e=>D b o (by simpa using c) e) y x u r q;refine⟨_,U,ny (s:={ s with heap:=h',toks:=A }) (n := "range_iterator") d U U (by decide) ⟨.int (lo+i),H,L,⟨t,?_⟩,⟨U,U⟩,d,λb c=>(f b c).1⟩⟩;rw[Int.mul_one]
 done:=by
  intro X m g p l i Ju s σ H E I f a j;subst m g p;obtain⟨y,x,G,u,r,q⟩:=f it (by simp);exact wpAny_pyNext_range_end (I.ok.hd l) a (by have:n<=i:=j;lia) λh' J=>⟨U,I.turned (t':=s.toks) (λb o c e=>J b o c e) y x u r q⟩
 self:=λ_ _ _ _ _ a h=>wpAny_pyIter_rangeiter a h
section
variable{tg:Gs}
inductive vb(K:W.Frag)(R:It->Hp->Prop)(x:V)(H1:Hp):Prop
 |mk (a:_)(_:x=.ref a)(_:(∃xs,SqL K H1 a xs))(_:R (Itl K a) H1)
def Bb(K:W.Frag)(a:TE):TI:=λσ H R=>a σ H λx b=>vb K R x b
inductive yt(K:W.Frag)(R:It->Hp->Prop)(x:V)(H1:Hp):Prop
 |mk (a:_)(_:x=.ref a)(_:(∃xs,SqT K H1 a xs))(_:R (Itt K a) H1)
def CN(K:W.Frag)(a:TE):TI:=λσ H R=>a σ H λx b=>yt K R x b
theorem aP{l:Gs}{f:TE}(k:PE X l f):PI X tg l (Bb X.K f):=by
 intro Ju s σ H R I h;refine thn (k Ju s σ H _ I h) λv c ⟨x,n,d,g,i⟩=>?_
 obtain⟨a,e,⟨t,j⟩,q⟩:=i;subst e;cases g;obtain⟨r,u,p,w⟩:=d.list j;refine GW p.isList ?_;refine⟨c.heap.objs.size,[c.heap.objs.size],_,_,n,U,d.kept (t':=c.toks) λb o e=>FG.get?_push_of_some _ e,tX a _,⟨_,FG.get?_push_size _ U,U,U⟩,λb m=>?_,q⟩;have e:b=c.heap.objs.size:=by simpa using m
 subst e;exact d.fpOk (wN _) (d.hok.fresh (wN _))
theorem zr{l:Gs}{g:TE}(m:PE X l g):PI X tg l (CN X.K g):=by
 intro Ju s σ H R I h;refine thn (m Ju s σ H _ I h) λv c ⟨x,r,d,i,j⟩=>?_
 obtain⟨a,e,⟨t,k⟩,q⟩:=j;subst e;cases i;obtain⟨f,u,p,w⟩:=d.tuple k;refine wpAny_pyIter_tuple (show c.heap.IsTuple a f.toArray from p) ?_;refine⟨c.heap.objs.size,[c.heap.objs.size],_,_,r,U,d.kept (t':=c.toks) λb o e=>FG.get?_push_of_some _ e,qZ a _,⟨_,FG.get?_push_size _ U,U,U⟩,λb n=>?_,q⟩;have e:b=c.heap.objs.size:=by simpa using n
 subst e;exact d.fpOk (wN _) (d.hok.fresh (wN _))
theorem vc{Ju:List (E2×Obj)}{σ:St}{H:Hp}{s:Gk}{R:It->Hp->Prop}{E:De->Gk->Prop}{lo hi:Int}{t u v:Tok}{a:Nat}(I:Inv X Ju σ H s)(i : -(2^62)<=lo)(h:lo<2^62)(g : -(2^62)<=hi)(f:hi<2^62)
  (q:R (Itr lo (hi-lo).toNat) H):Gq (model X.prog X.w) X.A (GS (.ref s.heap.objs.size)) (PIE X Ju σ tg R) E { s with heap:=s.heap.push { cls:=.type "range",data:=.fields #[.int lo t,.int hi u,.int 1 v] },toks:=a }:=by
 refine wpAny_pyIter_range (IsRange.new ..) (small_one i h g f) ?_;have c:Inv X Ju σ H { s with heap:=s.heap.push { cls:=.type "range",data:=.fields #[.int lo t,.int hi u,.int 1 v] },toks:=a }:=I.kept λb o e=>FG.get?_push_of_some _ e
 refine⟨(s.heap.push { cls:=.type "range",data:=.fields #[.int lo t,.int hi u,.int 1 v] }).objs.size,[(s.heap.push { cls:=.type "range",data:=.fields #[.int lo t,.int hi u,.int 1 v] }).objs.size],_,_,H,U,
  c.kept (t':=a) λb o e=>FG.get?_push_of_some _ e,q8 _ lo (hi-lo).toNat,?_,λb d=>?_,q⟩
 .have k:lo+((0:Nat):Int)*1=lo:=by simp
  have j:(((hi-lo).toNat:Nat):Int)-((0:Nat):Int)=GX.Range.rangeSize lo hi 1:=by rw[GY];split <;> lia
  show IsRangeIter _ _ (lo+((0:Nat):Int)*1) ((((hi-lo).toNat:Nat):Int)-((0:Nat):Int)) 1;rw[k,j];exact FG.get?_push_size _ U
 .have e:b=(s.heap.push { cls:=.type "range",data:=.fields #[.int lo t,.int hi u,.int 1 v] }).objs.size:=by simpa using d
  subst e;exact c.fpOk (wN _) (c.hok.fresh (wN _))
inductive ve  (R:It->Hp->Prop)(vs:List V)(H1:Hp):Prop
 |mk (j:Int)(_:vs=[.int j])(_ : -(2^62)<=j)(_:j<2^62)(_:R (Itr 0 j.toNat) H1):ve R vs H1
def Bc(ta:TA):TI:=λσ H R=>ta σ H λa b=>ve R a b
theorem dA{a:Gs}{ta:TA}{p pos:Pos}(i:Gl X "range") (hm:X.mg "range" = Jq) (k:PA X [a] ta)(g:Gw [a] X.env=[(Js,eval a X.env)]:=by rfl):PI X tg (.Call (.Name "range" p) [a] [] pos) (Bc ta):=by
 intro Ju s σ H R I h;refine Call_ (eG I i hm boot_range (PyProof.Rows.callWith_type1 (thn (k pos Ju s σ H _ I h) λn o ⟨m,u,l,d,b⟩=>?_) g U));obtain⟨j,e,b,f,q⟩:=b;subst e;cases d with
 |cons r c =>
  cases c;obtain⟨t,rfl⟩:=r;exact call_range_1 (vc l (by lia) (by lia) b f (by simpa using q))
def CO(d:TI)(g:TG)(tb:TS):TS:=λD σ H=>d σ H λJ f=>∃W:Nat->Nat->St->Hp->Prop,(∃m,W 0 m σ f)/\∀i m σ H,W i m σ H ->
 (J.stop i H/\D.nx σ H)\/(J.go i H/\∃N:St->Hp->Prop,(∀a H',N a H'->∃c,c<m/\W (i+1) c a H')/\∀x H',J.yld i H x H'->g x σ H' λb e=>tb { D with nx:=N,ct:=N,bk:=D.nx } b e)
def kf(a:List E2)(h:FG):List (E2×Obj):=a.filterMap λb=>(h.get? b).map λo=>(b,o)
theorem dB{a:List E2}{h:FG}{b:E2}{o:Obj}(c:b∈a)(e:h.get? b=Jp o):(b,o)∈kf a h:=List.mem_filterMap.mpr ⟨b,c,by rw[e];rfl⟩
theorem tY{a:List E2}{h:FG}{p:E2×Obj}(c:p∈kf a h):p.1∈a/\h.get? p.1=Jp p.2:=by
 obtain⟨b,d,e⟩:=List.mem_filterMap.mp c;cases q:h.get? b with
 |none=>rw[q]at e;cases e
 |some o =>
  rw[q]at e;have f:(b,o)=p:=Option.some.inj e;subst f;exact⟨d,q⟩
theorem Inv.pinned{Ju:List (E2×Obj)}{σ:St}{H:Hp}{s:Gk}{a:List E2}(I:Inv X Ju σ H s)(i:∀b∈a,ke X Ju H b)(h:∀b∈a,∃o,s.heap.get? b=Jp o/\∀v,o.data≠.cell v):Inv X (Ju++kf a s.heap) σ H s :=
 I.pins_of λp g=>(iK.mp g).elim (λz=>I.pin p (jo _ z)) λz=>by
  obtain⟨c,e⟩:=tY z;obtain⟨l,k,j,_⟩:=i p.1 c;obtain⟨o,f,d⟩:=h p.1 c;rw[e]at f;cases f;exact⟨e,l,k,j,d⟩
theorem Inv.unpinned{Ju pl:List (E2×Obj)}{σ:St}{H:Hp}{s:Gk}(I:Inv X (Ju++pl) σ H s):Inv X Ju σ H s:=I.pins_of λp a=>I.pin p (jo _ (mu _ a))
theorem bg{q:Gs}{body:List Gx}{Y:TI}{g:TG}{tb:TS}{pos:Pos}(B:GO (model X.prog X.w) X.A X.env X.xe)(hc:X.calm=Jr)(hi:PI X tg q Y)(hg:PG X tg g)(c:PSs X body tb)
  (hs:∀x,GZ q X.env x=pure x:=by intro _;rfl):PS X (.For tg q body [] pos) (CO Y g tb):=by
 intro Ju s σ H D I h;refine wpAny_For (thn (hi Ju s σ H _ I h) λv s1 h1=>thn h1 λa0 s2 h2=>?_) hs;obtain⟨it,C,Z,J,H2,e,I2,T,R,f2,W,⟨m0,w0⟩,G⟩:=h2;subst e;have M:∀{H':Hp},(∀b∈C,H' b=Jq)->∀b∈C,ke X Ju H' b:=λhn b c=>⟨hn b c,(f2 b c).2⟩
 refine codeAny_forLoop_any (λn s'=>∃i p H',Inv X Ju p H' s'/\Z i s'.heap/\(∀b∈C,H' b=Jq)/\W i n p H') ?_ m0 ⟨0,σ,H2,I2,R,λb c=>(f2 b c).1,w0⟩;rintro n s3 ⟨i,l,L,I3,E,F,w3⟩;rcases G i n l L w3 with⟨K,qn⟩|⟨go,N,hN,step⟩
 .refine GP B (thn (T.done X U U U hc i Ju s3 l L X.xe I3 (M F) E K) λr s4 ⟨P,I4⟩=>?_);subst P;exact GG ⟨l,L,I4,qn⟩
 .refine GP B (thn (T.item X U U U hc i Ju s3 l L X.xe I3 (M F) E go) λr s4 ⟨u,P,h4⟩=>?_);subst P;refine GP B (thn h4 λ_ s5 ⟨x,H5,I5,r5,y5,y,S⟩=>?_);have V:=I5.pinned (M S) (T.obj _ _ y);refine GP B (thn (hg _ s5 l H5 x u _ V r5 (step x H5 y5)) λ_ s6 ⟨Q,H6,I6,q6⟩=>?_);refine GP B (thn (c _ s6 Q H6 _ I6 q6) λf O t=>?_);have again:∀{a:St}{k:Hp},Inv X (Ju++kf C s5.heap) a k O->N a k->∃m,m<n/\∃i p H',Inv X Ju p H' O/\Z i O.heap/\(∀b∈C,H' b=Jq)/\W i m p H':=λ{a k} j z=>by
   obtain⟨m',hm,w7⟩:=hN a k z;refine⟨m',hm,i+1,a,k,j.unpinned,T.keep _ _ _ y λb c o e=>(j.pin (b,o) (jo _ (jo _ (dB c e)))).1,λb c=>?_,w7⟩;obtain⟨o,e,d⟩:=T.obj _ _ y b c;exact(j.pin (b,o) (jo _ (jo _ (dB c e)))).2.1
  cases f with
  |next=>obtain⟨a,k,j,z⟩:=t;exact again j z
  |cont=>obtain⟨a,k,j,z⟩:=t;exact again j z
  |brk=>obtain⟨a,k,j,t⟩:=t;exact⟨a,k,j.unpinned,t⟩
  |ret v=>obtain⟨x7,a,k,j,r7,t⟩:=t;exact⟨x7,a,k,j.unpinned,r7,t⟩
end
theorem bw{K:W.Frag}{a:E2}{xs:List V}{g:TG}{tb:TS}{D:Ends}{σ:St}{H:Hp}(b:Nat->St->Hp->Prop)(r:b 0 σ H)(n:∀i σ H,i<=xs.length->b i σ H->SqL K H a xs)
  (l:∀i x σ H,xs[i]?=Jp x->b i σ H->g x σ H λc h=>tb { D with nx:=b (i+1),ct:=b (i+1),bk:=D.nx } c h)(o:∀σ H,b xs.length σ H->D.nx σ H) :
  ∃W:Nat->Nat->St->Hp->Prop,(∃m,W 0 m σ H)/\∀i m σ H,W i m σ H ->
   ((Itl K a).stop i H/\D.nx σ H)\/((Itl K a).go i H/\∃N:St->Hp->Prop,(∀d H',N d H'->∃j,j<m/\W (i+1) j d H')/\∀x H',(Itl K a).yld i H x H'->g x σ H' λc h=>tb { D with nx:=N,ct:=N,bk:=D.nx } c h):=by
 refine⟨λi m σ H=>m=xs.length-i/\i<=xs.length/\b i σ H,⟨xs.length,by simp,xn _,r⟩,?_⟩;rintro i m σ H ⟨rfl,hi,p⟩;have q:=n i σ H hi p;by_cases f:i<xs.length
 .refine .inr ⟨⟨xs,xs[i],q,by simp[f]⟩,b (i+1),λd H' k=>⟨xs.length-(i+1),by lia,U,f,k⟩,λx H' y=>?_⟩;obtain⟨e,y⟩:=y;subst e;exact l i x σ _ (y xs q) p
 .have e:i=xs.length:=by lia
  subst e;exact .inl ⟨⟨xs,q,wN _⟩,o σ H p⟩
theorem xb{K:W.Frag}{a:E2}{xs:List V}{g:TG}{tb:TS}{D:Ends}{σ:St}{H:Hp}(b:Nat->St->Hp->Prop)(r:b 0 σ H)(n:∀i σ H,i<=xs.length->b i σ H->SqT K H a xs)
  (l:∀i x σ H,xs[i]?=Jp x->b i σ H->g x σ H λc h=>tb { D with nx:=b (i+1),ct:=b (i+1),bk:=D.nx } c h)(o:∀σ H,b xs.length σ H->D.nx σ H) :
  ∃W:Nat->Nat->St->Hp->Prop,(∃m,W 0 m σ H)/\∀i m σ H,W i m σ H ->
   ((Itt K a).stop i H/\D.nx σ H)\/((Itt K a).go i H/\∃N:St->Hp->Prop,(∀d H',N d H'->∃j,j<m/\W (i+1) j d H')/\∀x H',(Itt K a).yld i H x H'->g x σ H' λc h=>tb { D with nx:=N,ct:=N,bk:=D.nx } c h):=by
 refine⟨λi m σ H=>m=xs.length-i/\i<=xs.length/\b i σ H,⟨xs.length,by simp,xn _,r⟩,?_⟩;rintro i m σ H ⟨rfl,hi,p⟩;have q:=n i σ H hi p;by_cases f:i<xs.length
 .refine .inr ⟨⟨xs,xs[i],q,by simp[f]⟩,b (i+1),λd H' k=>⟨xs.length-(i+1),by lia,U,f,k⟩,λx H' y=>?_⟩;obtain⟨e,y⟩:=y;subst e;exact l i x σ _ (y xs q) p
 .have e:i=xs.length:=by lia
  subst e;exact .inl ⟨⟨xs,q,wN _⟩,o σ H p⟩
theorem nA{lo:Int}{n:Nat}{g:TG}{tb:TS}{D:Ends}{σ:St}{H:Hp}(a:Nat->St->Hp->Prop)(o:a 0 σ H)
  (k:∀i σ H,i<n->a i σ H->g (.int (lo+i)) σ H λb f=>tb { D with nx:=a (i+1),ct:=a (i+1),bk:=D.nx } b f)(l:∀σ H,a n σ H->D.nx σ H) :
  ∃W:Nat->Nat->St->Hp->Prop,(∃m,W 0 m σ H)/\∀i m σ H,W i m σ H ->
   ((Itr lo n).stop i H/\D.nx σ H)\/((Itr lo n).go i H/\∃N:St->Hp->Prop,(∀c H',N c H'->∃h,h<m/\W (i+1) h c H')/\∀x H',(Itr lo n).yld i H x H'->g x σ H' λb f=>tb { D with nx:=N,ct:=N,bk:=D.nx } b f):=by
 refine⟨λi m σ H=>m=n-i/\i<=n/\a i σ H,⟨n,by simp,xn _,o⟩,?_⟩;rintro i m σ H ⟨rfl,hi,p⟩;by_cases d:i<n
 .refine .inr ⟨d,a (i+1),λc H' j=>⟨n-(i+1),by lia,U,d,j⟩,λx H' y=>?_⟩;obtain⟨e,y⟩:=y;subst e y;exact k i σ _ d p
 .have e:i=n:=by lia
  subst e;exact .inl ⟨wN _,l σ H p⟩
abbrev R2:=V->V->Hp->VK->Prop
def OpR(X:Cx)(f:De->De->Sem De)(r:R2):Prop :=
 ∀(Ju:List (E2×Obj))(s:Gk)(σ:St)(H:Hp)(x y:V)(v u:De)(Q:VK),Inv X Ju σ H s->RelV x v->RelV y u->r x y H Q ->
  Gq (model X.prog X.w) X.A (f v u) (EP X Ju σ Q) X.xe s
def UnR(X:Cx)(f:De->Sem De)(r:V->Hp->VK->Prop):Prop :=
 ∀(Ju:List (E2×Obj))(s:Gk)(σ:St)(H:Hp)(x:V)(v:De)(Q:VK),Inv X Ju σ H s->RelV x v->r x H Q ->
  Gq (model X.prog X.w) X.A (f v) (EP X Ju σ Q) X.xe s
def cY(X:Cx)(f:De)(r:List V->Hp->VK->Prop):Prop :=
 ∀(Ju:List (E2×Obj))(s:Gk)(σ:St)(H:Hp)(a:List V)(b:List De)(Q:VK),Inv X Ju σ H s->Vals a b->r a H Q ->
  Gq (model X.prog X.w) X.A (call f b) (EP X Ju σ Q) X.xe s
def CP(X:Cx)(r:V->Hp->(Bool->Hp->Prop)->Prop):Prop :=
 ∀(Ju:List (E2×Obj))(s:Gk)(σ:St)(H:Hp)(x:V)(v:De)(Q:Bool->Hp->Prop),Inv X Ju σ H s->RelV x v->r x H Q ->
  Gq (model X.prog X.w) X.A (truthy v) (TP X Ju σ Q) X.xe s
def tOp(r:R2)(ta tb:TE):TE:=λσ H Q=>ta σ H λx b=>tb σ b λy a=>r x y a Q
def tUn(r:V->Hp->VK->Prop)(ta:TE):TE:=λσ H Q=>ta σ H λx a=>r x a Q
inductive rI(C:Int->Int->Prop)(g:Int->Int->V)(x:V)(y:V)(H:Hp)(Q:VK):Prop
 |mk (i j:_)(_:x=.int i)(_:y=.int j)(_:C i j)(_:Q (g i j) H)
inductive rI0(g:Int->Int->V)(x:V)(y:V)(H:Hp)(Q:VK):Prop
 |mk (i j:_)(_:x=.int i)(_:y=.int j)(_:Q (g i j) H)
inductive rU(g:Int->V)(x:V)(H:Hp)(Q:VK):Prop
 |mk (i:_)(_:x=.int i)(_:Q (g i) H)
section
variable{a b c:Gs}{tc:TE}
theorem zw(o:PE X a ta)(n:PE X b tb){Ju:List (E2×Obj)}{s:Gk}{σ:St}{H:Hp}{R:V->V->Hp->Prop}(I:Inv X Ju σ H s)
  (h:ta σ H λx g=>tb σ g λy c=>R x y c){Q:De->Gk->Prop}{f:De->De->Sem De}
  (hf:∀v u s2 x y c,Inv X Ju σ c s2->RelV x v->RelV y u->R x y c->Gq (model X.prog X.w) X.A (f v u) Q X.xe s2) :
  Gq (model X.prog X.w) X.A (eval a X.env) (λv e=>Gq (model X.prog X.w) X.A (eval b X.env) (λu d=>Gq (model X.prog X.w) X.A (f v u) Q X.xe d) X.xe e) X.xe s:=by
 refine thn (o Ju s σ H _ I h) λv i ⟨x,g,q,k,m⟩=>?_
 refine thn (n Ju i σ g _ q m) λu s2 ⟨y,c,p,j,l⟩=>?_
 exact hf v u s2 x y c p k j l
theorem ar{c:GK}{r:R2}(f:OpR X (G0 c) r)(i:PE X a ta)(g:PE X b tb):PE X (.BinOp a c b pos) (tOp r ta tb):=by
 intro Ju s σ H Q I h;exact wpAny_BinOp (zw i g I h λv u s2 x y k j e d q=>f Ju s2 σ k x y v u Q j e d q)
theorem jJ{b:UnaryOp}{r:V->Hp->VK->Prop}(f:UnR X (unaryOp b) r)(g:PE X a ta):PE X (.UnaryOp b a pos) (tUn r ta):=by
 intro Ju s σ H Q I h;exact UnaryOp_ (thn (g Ju s σ H _ I h) λv c ⟨x,j,i,d,e⟩=>f Ju c σ j x v Q i d e)
theorem opI{f:De->De->Sem De}{C:Int->Int->Prop}{g:Int->Int->Int}
  (rule:∀(i j:Int)(t u:Tok)(s:Gk)(Q:De->Gk->Prop)(E:De->Gk->Prop),C i j->Q (.int (g i j) s.toks) { s with toks:=s.toks+1 }->Gq (model X.prog X.w) X.A (f (.int i t) (.int j u)) Q E s) :
  OpR X f (rI C λi j=>.int (g i j)):=by
 intro Ju s σ H x y v u Q I c b h;obtain⟨i,j,rfl,rfl,d,q⟩:=h;obtain⟨t,rfl⟩:=c;obtain⟨a,rfl⟩:=b;exact rule i j t a s _ _ d ⟨.int (g i j),H,I.tok _,⟨_,U⟩,q⟩
theorem zx{f:De->De->Sem De}{g:Int->Int->Int}
  (rule:∀(i j:Int)(t u:Tok)(s:Gk)(Q:De->Gk->Prop)(E:De->Gk->Prop),Q (.int (g i j) s.toks) { s with toks:=s.toks+1 }->Gq (model X.prog X.w) X.A (f (.int i t) (.int j u)) Q E s) :
  OpR X f (rI0 λi j=>.int (g i j)):=by
 intro Ju s σ H x y v u Q I c b h;obtain⟨i,j,rfl,rfl,q⟩:=h;obtain⟨t,rfl⟩:=c;obtain⟨a,rfl⟩:=b;exact rule i j t a s _ _ ⟨.int (g i j),H,I.tok _,⟨_,U⟩,q⟩
theorem xc{f:De->De->Sem De}{g:Int->Int->Bool}
  (rule:∀(i j:Int)(t u:Tok)(s:Gk)(Q:De->Gk->Prop)(E:De->Gk->Prop),Q (.bool (g i j)) s->Gq (model X.prog X.w) X.A (f (.int i t) (.int j u)) Q E s) :
  OpR X f (rI0 λi j=>.bl (g i j)):=by
 intro Ju s σ H x y v u Q I c b h;obtain⟨i,j,rfl,rfl,q⟩:=h;obtain⟨t,rfl⟩:=c;obtain⟨a,rfl⟩:=b;exact rule i j t a s _ _ ⟨.bl (g i j),H,I,U,q⟩
def CQ(i j:Int):Prop:=0<j/\j<1073741824
def Bd(i j:Int):Prop:=0<=j/\j<=1000000/\i.natAbs<2^64
def xf(i j:Int):Prop:=(-(2^64)<i/\i<2^64)\/(-(2^64)<j/\j<2^64)
theorem xf.ok{i j:Int}(h:xf i j):G1 i j:=by
 rcases h with⟨b,a⟩|⟨b,a⟩
 .exact .of_left (G2 b a)
 .exact .of_right (G2 b a)
theorem q9(k:Nat):(0:Int)<=2^k:=by
 rw[two_pow_cast];exact zL _
theorem bz:OpR X (G0 .Add) (rI0 λi j=>.int (i+j)):=zx λ_ _ _ _ _ _ _ q=>add_int q
theorem dC:OpR X (G0 .Sub) (rI0 λi j=>.int (i-j)):=zx λ_ _ _ _ _ _ _ q=>sub_int q
theorem ly:OpR X (G0 .Mult) (rI xf λi j=>.int (i*j)):=opI λ_ _ _ _ _ _ _ a q=>mul_int q a.ok
theorem bu:OpR X (G0 .FloorDiv) (rI CQ λi j=>.int (i / j)):=opI λi j _ _ _ _ _ a q=>by
 have c:(0:Int)<j:=a.1;have b:j<1073741824:=a.2;exact floordiv_int (by lia) (by rw[Int.fdiv_eq_ediv_of_nonneg i (by lia)];exact q) (.inl (PyProof.noPylong_small (by lia)))
theorem aS:OpR X (G0 .Mod) (rI (λ_ j=>0<j) λi j=>.int (i%j)):=opI λi j _ _ _ _ _ a q=>by
 have b:(0:Int)<j:=a;exact mod_int' (by lia) (by rw[Int.fmod_eq_emod_of_nonneg i (by lia)];exact q)
theorem i7:OpR X (G0 .Pow) (rI Bd λi j=>.int (i^j.toNat)):=opI λ_ _ _ _ _ _ _ a q=>pow_int_small a.1 a.2.1 a.2.2 q
theorem oE:OpR X (G0 .LShift) (rI Bd λi j=>.int (i*2^j.toNat)):=opI λ_ _ _ _ _ _ _ a q=>lshift_int_small a.1 a.2.1 a.2.2 q
theorem oF:OpR X (G0 .RShift) (rI (λ_ j=>0<=j) λi j=>.int (i / 2^j.toNat)):=opI λi j _ _ _ _ _ a q =>
 rshift_int a (by rw[Int.fdiv_eq_ediv_of_nonneg i (q9 _)];exact q)
theorem kg:OpR X (G0 .BitAnd) (rI0 λi j=>.int (GX.bitAnd i j)):=zx λ_ _ _ _ _ _ _ q=>and_int q
theorem unI{f:De->Sem De}{g:Int->Int}
  (rule:∀(i:Int)(t:Tok)(s:Gk)(Q:De->Gk->Prop)(E:De->Gk->Prop),Q (.int (g i) s.toks) { s with toks:=s.toks+1 }->Gq (model X.prog X.w) X.A (f (.int i t)) Q E s) :
  UnR X f (rU λi=>.int (g i)):=by
 intro Ju s σ H x v Q I a h;obtain⟨i,rfl,q⟩:=h;obtain⟨t,rfl⟩:=a;exact rule i t s _ _ ⟨.int (g i),H,I.tok _,⟨_,U⟩,q⟩
theorem gF:UnR X (unaryOp .USub) (rU λi=>.int (-i)):=unI λ_ _ _ _ _ q=>neg_int q
theorem zy:UnR X (unaryOp .Invert) (rU λi=>.int (GX.bitNot i)):=unI λ_ _ _ _ _ q=>invert_int q
end
def Be:V->V->Bool
 | .non,.non=>Jr | .non,.int _=>Jr | .int _,.non=>Jr | .non,.bl _=>Jr | .bl _,.non=>Jr | .non,.str _=>Jr | .str _,.non=>Jr
 | .int _,.int _=>Jr | .bl _,.bl _=>Jr | .str _,.str _=>Jr | .byt _,.byt _=>Jr
 | .int _,.str _=>Jr | .str _,.int _=>Jr | .bl _,.str _=>Jr | .str _,.bl _=>Jr
 |_,_=>Js
def rEq:R2:=λx y H Q=>Be x y=Jr/\Q (.bl (Jt (x=y))) H
def rNe:R2:=λx y H Q=>Be x y=Jr/\Q (.bl (!Jt (x=y))) H
theorem sH{i j:Int}:decide (V.int i=V.int j)=(i == j):=by
 rw[Bool.eq_iff_iff];simp
theorem vf{i j:Bool}:decide (V.bl i=V.bl j)=(i == j):=by
 rw[Bool.eq_iff_iff];simp
theorem sI{i j:Str}:decide (V.str i=V.str j)=(i == j):=by
 rw[Bool.eq_iff_iff];simp
theorem sJ{i j:Array UInt8}:decide (V.byt i=V.byt j)=(i.toList == j.toList):=by
 rw[Bool.eq_iff_iff];cases i;cases j;simp
section
variable{a b c:Gs}{tc:TE}
theorem aV{Ju:List (E2×Obj)}{σ:St}{H:Hp}{s:Gk}{Q:VK}{k a:Bool}(I:Inv X Ju σ H s)(q:Q (.bl k) H)(e:k=a):EP X Ju σ Q (.bool a) s:=by
 subst e;exact⟨.bl k,H,I,U,q⟩
theorem cc:OpR X (G3 .Eq) rEq:=by
 intro Ju s σ H x y v u Q I d a h;obtain⟨c,q⟩:=h;cases x with
 |non =>
  cases d;cases y with
  |non=>cases a;exact PySem.EqNone.eq_none_none (aV I q (by simp))
  |bl j=>cases a;exact PySem.EqNone.eq_none_bool (aV I q (by simp))
  |int j=>obtain⟨b,rfl⟩:=a;exact PySem.EqNone.eq_none_int (aV I q (by simp))
  |str j=>obtain⟨b,rfl⟩:=a;exact PySem.EqNone.eq_none_str (aV I q (by simp))
  |_=>exact Jx (show Js=Jr from c) Bool.false_ne_true
 |bl i =>
  cases d;cases y with
  |non=>cases a;exact PySem.EqNone.eq_bool_none (aV I q (by simp))
  |bl j=>cases a;exact eq_bool (aV I q vf)
  |str j=>obtain⟨b,rfl⟩:=a;exact PySem.EqMixed.eq_bool_str (aV I q (by simp))
  |_=>exact Jx (show Js=Jr from c) Bool.false_ne_true
 |int i =>
  obtain⟨t,rfl⟩:=d;cases y with
  |non=>cases a;exact PySem.EqNone.eq_int_none (aV I q (by simp))
  |int j=>obtain⟨b,rfl⟩:=a;exact eq_int (aV I q sH)
  |str j=>obtain⟨b,rfl⟩:=a;exact PySem.EqMixed.eq_int_str (aV I q (by simp))
  |_=>exact Jx (show Js=Jr from c) Bool.false_ne_true
 |str i =>
  obtain⟨t,rfl⟩:=d;cases y with
  |non=>cases a;exact PySem.EqNone.eq_str_none (aV I q (by simp))
  |bl j=>cases a;exact PySem.EqMixed.eq_str_bool (aV I q (by simp))
  |int j=>obtain⟨b,rfl⟩:=a;exact PySem.EqMixed.eq_str_int (aV I q (by simp))
  |str j=>obtain⟨b,rfl⟩:=a;exact eq_str (aV I q sI)
  |_=>exact Jx (show Js=Jr from c) Bool.false_ne_true
 |byt i =>
  obtain⟨t,rfl⟩:=d;cases y with
  |byt j=>obtain⟨b,rfl⟩:=a;exact W.eq_bytes (aV I q sJ)
  |_=>exact Jx (show Js=Jr from c) Bool.false_ne_true
 |_=>cases y <;> exact Jx (show Js=Jr from c) Bool.false_ne_true
theorem nB:OpR X (G3 .NotEq) rNe:=by
 intro Ju s σ H x y v u Q I d a h;obtain⟨c,q⟩:=h;cases x with
 |non =>
  cases d;cases y with
  |non=>cases a;exact PySem.EqNone.ne_none_none (aV I q (by simp))
  |bl j=>cases a;exact PySem.EqNone.ne_none_bool (aV I q (by simp))
  |int j=>obtain⟨b,rfl⟩:=a;exact PySem.EqNone.ne_none_int (aV I q (by simp))
  |str j=>obtain⟨b,rfl⟩:=a;exact PySem.EqNone.ne_none_str (aV I q (by simp))
  |_=>exact Jx (show Js=Jr from c) Bool.false_ne_true
 |bl i =>
  cases d;cases y with
  |non=>cases a;exact PySem.EqNone.ne_bool_none (aV I q (by simp))
  |bl j=>cases a;exact ne_bool (aV I q (JB not vf))
  |str j=>obtain⟨b,rfl⟩:=a;exact PySem.EqMixed.ne_bool_str (aV I q (by simp))
  |_=>exact Jx (show Js=Jr from c) Bool.false_ne_true
 |int i =>
  obtain⟨t,rfl⟩:=d;cases y with
  |non=>cases a;exact PySem.EqNone.ne_int_none (aV I q (by simp))
  |int j=>obtain⟨b,rfl⟩:=a;exact ne_int (aV I q (JB not sH))
  |str j=>obtain⟨b,rfl⟩:=a;exact PySem.EqMixed.ne_int_str (aV I q (by simp))
  |_=>exact Jx (show Js=Jr from c) Bool.false_ne_true
 |str i =>
  obtain⟨t,rfl⟩:=d;cases y with
  |non=>cases a;exact PySem.EqNone.ne_str_none (aV I q (by simp))
  |bl j=>cases a;exact PySem.EqMixed.ne_str_bool (aV I q (by simp))
  |int j=>obtain⟨b,rfl⟩:=a;exact PySem.EqMixed.ne_str_int (aV I q (by simp))
  |str j=>obtain⟨b,rfl⟩:=a;exact ne_str (aV I q (JB not sI))
  |_=>exact Jx (show Js=Jr from c) Bool.false_ne_true
 |byt i =>
  obtain⟨t,rfl⟩:=d;cases y with
  |byt j=>obtain⟨b,rfl⟩:=a;exact W.ne_bytes (aV I q (JB not sJ))
  |_=>exact Jx (show Js=Jr from c) Bool.false_ne_true
 |_=>cases y <;> exact Jx (show Js=Jr from c) Bool.false_ne_true
theorem lA:OpR X (G3 .Lt) (rI0 λi j=>.bl (Jt (i<j))):=xc λ_ _ _ _ _ _ _ q=>lt_int q
theorem fc:OpR X (G3 .LtE) (rI0 λi j=>.bl (Jt (i<=j))):=xc λ_ _ _ _ _ _ _ q=>le_int q
theorem iT:OpR X (G3 .Gt) (rI0 λi j=>.bl (Jt (j<i))):=xc λ_ _ _ _ _ _ _ q=>gt_int q
theorem Bf:OpR X (G3 .GtE) (rI0 λi j=>.bl (Jt (j<=i))):=xc λ_ _ _ _ _ _ _ q=>ge_int q
theorem zA:OpR X (G3 .Is) (λx y H Q=>y=.non/\Q (.bl (Jt (x=.non))) H):=by
 intro Ju s σ H x y v u Q I a b h;obtain⟨rfl,q⟩:=h;cases b;refine is_none_gen (aV I q ?_)
 cases x <;> first
  |(cases a;rfl)
  |(obtain⟨t,rfl⟩:=a;rfl)
theorem sL:OpR X (G3 .IsNot) (λx y H Q=>y=.non/\Q (.bl (!Jt (x=.non))) H):=by
 intro Ju s σ H x y v u Q I a b h;obtain⟨rfl,q⟩:=h;cases b;refine isnot_none_gen (aV I q ?_)
 cases x <;> first
  |(cases a;rfl)
  |(obtain⟨t,rfl⟩:=a;rfl)
theorem oG:OpR X (G3 .NotIn) (λx y H Q=>∃i j,x=.str i/\y=.str j/\Q (.bl (!(!(GX.Str.occurrences j i 0 j.length 1).isEmpty))) H):=by
 intro Ju s σ H x y v u Q I b a h;obtain⟨i,j,rfl,rfl,q⟩:=h;obtain⟨t,rfl⟩:=b;obtain⟨c,rfl⟩:=a;exact notIn_str (aV I q U)
theorem aL(b:Gs){a:G4}(h:a≠.In:=by decide)(c:a≠.NotIn:=by decide):G5 a b=false:=by
 have e:(a == G4.In)=false:=by cases a <;> first|rfl|exact Jx U h
 have d:(a == G4.NotIn)=false:=by cases a <;> first|rfl|exact Jx U c
 cases b <;> simp[G5,e,d]
theorem dc{c:G4}{r:R2}(f:OpR X (G3 c) r)(j:PE X a ta)(i:PE X b tb)(g:G5 c b=Js):PE X (.Compare a [c] [b] pos) (tOp r ta tb):=by
 intro Ju s σ H Q I h;exact wpAny_Compare1 (zw j i I h λv u s2 x y l k e d q=>f Ju s2 σ l x y v u Q k e d q) g
inductive vg  (Q:Bool->Hp->Prop)(x:V)(H':Hp):Prop
 |mk (k:_)(_:x=.bl k)(_:Q k H'):vg Q x H'
def yu(t:TE):TT:=λσ H Q=>t σ H λx H'=>vg Q x H'
theorem aJ{d:G4}{r:R2}(o:OpR X (G3 d) r)(t:PE X a ta)(q:PE X b tb)(p:G5 d b=Js):PT X (.Compare a [d] [b] pos) (yu (tOp r ta tb)):=by
 intro Ju s σ H Q I h;refine wpAny_isTrue_Compare1 (thn (t Ju s σ H _ I h) λv f ⟨x,E,B,j,n⟩=>thn (q Ju f σ E _ B n) λu s2 ⟨y,D,A,i,m⟩ =>
  thn (o Ju s2 σ D x y v u _ A j i m) λc F ⟨z,C,w,g,k,e,l⟩=>?_) p
 subst e;cases g;exact GD ⟨C,w,l⟩
inductive sM(r':R2)(tc:TE)(σ:St)(Q:VK)(y:V)(z:V)(H3:Hp):Prop
 |mk (k:_)(_:z=.bl k)(_:(if k=Jr then tc σ H3 λw' H4=>r' y w' H4 Q else Q (.bl Js) H3))
def vh(r a:R2)(ta tb tc:TE):TE:=λσ H Q=>ta σ H λx d=>tb σ d λy c=>r x y c λz b=>sM a tc σ Q y z b
theorem lB{g f:G4}{r l:R2}(J:OpR X (G3 g) r)(i:OpR X (G3 f) l)(M:PE X a ta)(L:PE X b tb)(K:PE X c tc)
  (hm:lastMarks [g,f] [b,c]=false:=by with_unfolding_all rfl):PE X (.Compare a [g,f] [b,c] pos) (vh r l ta tb tc):=by
 intro Ju s σ H Q I h;refine Compare_chain (thn (M Ju s σ H _ I h) λv A ⟨x,T,P,D,G⟩=>chain_link (thn (L Ju A σ T _ P G) λu s2 ⟨y,S,O,j,F⟩ =>
  thn (J Ju s2 σ S x y v u _ O D j F) λd w ⟨z,o,n,C,k,e,m⟩=>?_)) hm
 subst e;cases C;refine GD ?_;cases k with
 |false=>exact ite_ff ⟨.bl Js,o,n,U,m⟩
 |true=>exact ite_tt (chain_last (thn (K Ju w σ o _ n m) λq t ⟨p,R,N,B,E⟩=>i Ju t σ R y p u q Q N j B E))
theorem gG{g f:G4}{r l:R2}(M:OpR X (G3 g) r)(i:OpR X (G3 f) l)(P:PE X a ta)(O:PE X b tb)(N:PE X c tc)
  (hm:lastMarks [g,f] [b,c]=false:=by with_unfolding_all rfl):PT X (.Compare a [g,f] [b,c] pos) (yu (vh r l ta tb tc)):=by
 intro Ju s σ H Q I h;refine isTrue_chain (thn (P Ju s σ H _ I h) λv A ⟨x,H1,Y,E,K⟩=>test_link (thn (O Ju A σ H1 _ Y K) λu s2 ⟨y,H2,W,j,J⟩ =>
  thn (M Ju s2 σ H2 x y v u _ W E j J) λd w ⟨z,o,n,D,k,e,m⟩=>?_)) hm
 subst e;cases D;refine GD ?_;cases k with
 |false =>
  obtain⟨k',S,L⟩:=m;cases S;exact ite_ff ⟨o,n,L⟩
 |true =>
  refine ite_tt (test_last (thn (N Ju w σ o _ n m) λq t ⟨p,H4,V,C,G⟩=>thn (i Ju t σ H4 y p u q _ V j C G) λd' s5 ⟨z2,Z,T,B,k2,R,F⟩=>?_));subst R;cases B;exact GD ⟨Z,T,F⟩
def zB(K:W.Frag)(x:V)(H:Hp)(k:Bool):Prop :=
 match x with
 | .non=>k=Js
 | .bl b=>k=b
 | .int i=>k=(i != 0)
 | .str y=>y.length<=FL/\k=((y.length:Int) != 0)
 | .byt y=>y.size<=FL/\k=((y.size:Int) != 0)
 | .ref p=>(∃a,SqL K H p a/\k = !a.isEmpty)\/(∃a,SqT K H p a/\k = !a.isEmpty)\/∃c,H p=Jp (.dK c)/\k = !c.isEmpty
 |_=>False
theorem rb{b:Type}{a:List (b×V)}{vs:List (b×De)}(r:KV a vs):(!vs.isEmpty) = !a.isEmpty:=by
 cases r <;> rfl
theorem lC{xs:List V}{a:List De}(r:Vals xs a):(!a.toArray.isEmpty) = !xs.isEmpty:=by
 cases r <;> simp
theorem ja:(FL:Nat)<2^63:=by rw[G6];decide
theorem zC:CP X (λx H Q=>∃k,zB X.K x H k/\Q k H):=by
 intro Ju s σ H x v Q I g h;obtain⟨k,e,q⟩:=h;have C:=ja;have B:FL=16777216:=G6;cases x with
 |non =>
  cases g;have a:k=false:=e;subst a;exact truthy_none ⟨H,I,q⟩
 |bl b =>
  cases g;have a:k=b:=e;subst a;exact GD ⟨H,I,q⟩
 |int i =>
  obtain⟨t,rfl⟩:=g;have a:k=(i != 0):=e;subst a;exact PySem.P.truthy_int ⟨H,I,q⟩
 |str y =>
  obtain⟨t,rfl⟩:=g;obtain⟨z,a⟩:y.length<=FL/\k=((y.length:Int) != 0):=e;subst a;exact PySem.P.truthy_str (by lia) ⟨H,I.tok _,q⟩
 |byt y =>
  obtain⟨t,rfl⟩:=g;obtain⟨z,a⟩:y.size<=FL/\k=((y.size:Int) != 0):=e;subst a;exact W.truthy_bytes (by lia) ⟨H,I.tok _,q⟩
 |ref p =>
  cases g;have a:(∃f,SqL X.K H p f/\k = !f.isEmpty)\/(∃f,SqT X.K H p f/\k = !f.isEmpty)\/∃c,H p=Jp (.dK c)/\k = !c.isEmpty:=e;rcases a with⟨f,j,a⟩|⟨f,j,a⟩|⟨c,j,a⟩
  .subst a;obtain⟨o,r,n,u⟩:=I.list j;have d:=r.length;exact wpAny_truthy_list n.isList (by simp only[dt];lia) ⟨H,I.tok _,by rw[lC r];exact q⟩
  .subst a;obtain⟨o,r,n,u⟩:=I.tuple j;have d:=r.length;exact truthy_tuple n (by simp only[dt];lia) ⟨H,I.tok _,by rw[lC r];exact q⟩
  .subst a;obtain⟨u,A,l,r,m⟩:c.length<=FL/\(p == Ge)=Js/\∃l,KV c l/\s.heap.DictOf (oA X.prog X.w) p l:=I.hok p _ j;have d:c.length=l.length:=Paired.length r;exact wpAny_truthy_dict A m (by lia) ⟨H,I.tok _,by rw[rb r];exact q⟩
 |_=>exact(show False from e).elim
theorem de(g:PE X a ta)(f:∀b,Gu a X.env b=(do let v ←b;GC a.pos;holding [v] (truthy v))) :
  PT X a (λσ H Q=>ta σ H λx H'=>∃k,zB X.K x H' k/\Q k H'):=by
 intro Ju s σ H Q I h;exact isTrue_plain (thn (g Ju s σ H _ I h) λv c ⟨x,j,i,d,e⟩=>zC Ju c σ j x v Q i d e) (f _)
theorem jb:OpR X (G0 .Add) (λx y H Q=>∃i j,x=.str i/\y=.str j/\i.length+j.length<=FL/\Q (.str (i++j)) H):=by
 intro Ju s σ H x y v u Q I c b h;obtain⟨i,j,rfl,rfl,d,q⟩:=h;obtain⟨t,rfl⟩:=c;obtain⟨a,rfl⟩:=b;exact add_str (λa e=>⟨.str (i++j),H,I.tok _,⟨_,U⟩,q⟩) d
theorem zD:OpR X (G0 .Add) (λx y H Q=>∃i j,x=.byt i/\y=.byt j/\i.size+j.size<=16777216/\Q (.byt (i++j)) H):=by
 intro Ju s σ H x y v u Q I c b h;obtain⟨i,j,rfl,rfl,d,q⟩:=h;obtain⟨t,rfl⟩:=c;obtain⟨a,rfl⟩:=b;exact W.KBy.add_bytes d (λa e=>⟨.byt (i++j),H,I.tok _,⟨_,U⟩,q⟩)
theorem vals1{x:V}{us:List De}(r:Vals [x] us):∃u,us=[u]/\RelV x u:=by
 cases r with
 |cons b a=>cases a;exact⟨_,U,b⟩
theorem vals2{x y:V}{us:List De}(r:Vals [x,y] us):∃u a,us=[u,a]/\RelV x u/\RelV y a:=by
 cases r with
 |cons e d =>
  cases d with
  |cons c b=>cases b;exact⟨_,_,U,e,c⟩
theorem nC(b:X.calm=Jr):cY X (.builtin "max") (λxs H Q=>∃i j,xs=[.int i,.int j]/\Q (.int (if j>i then j else i)) H):=by
 intro Ju s σ H xs d Q I r h;obtain⟨i,j,rfl,q⟩:=h;obtain⟨u,c,rfl,⟨t,rfl⟩,⟨f,rfl⟩⟩:=vals2 r;refine max_two_ints (I.ok.hd b) λh' e k=>⟨_,H,I.kept k,?_,q⟩
 by_cases a:j>i
 .rw[Jw a,Jw a];exact⟨_,U⟩
 .rw[Jv a,Jv a];exact⟨_,U⟩
theorem nE(b:X.calm=Jr):cY X (.builtin "min") (λxs H Q=>∃i j,xs=[.int i,.int j]/\Q (.int (if j<i then j else i)) H):=by
 intro Ju s σ H xs d Q I r h;obtain⟨i,j,rfl,q⟩:=h;obtain⟨u,c,rfl,⟨t,rfl⟩,⟨f,rfl⟩⟩:=vals2 r;refine min_two_ints (I.ok.hd b) λh' e k=>⟨_,H,I.kept k,?_,q⟩
 by_cases a:j<i
 .rw[Jw a,Jw a];exact⟨_,U⟩
 .rw[Jv a,Jv a];exact⟨_,U⟩
end
structure rf(h:FG)(x dx C:E2)(mA:Str->Option De):Prop where
 obj:h.get? x=Jp (W.instObj C dx)
 ns:h.Ns1 dx mA
 ne:dx≠x
theorem ua{h:FG}{f:E2}{c:Str->Option De}(n:h.Ns1 f c):∃b,h.get? f=Jp b/\∀name,W.lookIn name b=Jp (c name):=by
 obtain⟨o,d,r,j,m,l,_,k⟩:=n;refine⟨o,j,λname=>?_⟩;have e:=k name;unfold nsFind findBy at e;rw[←Array.find?_toList]at e;unfold W.lookIn;rw[m];dsimp only;split
 .rename_i y q
  rw[q]at e;exact JB Jp e
 .rename_i q
  rw[q]at e;have a:d.toList.any (·.refKey)=false:=by
   rw[List.any_eq_false];intro y i;obtain⟨z,t,g⟩:=l y (Array.mem_toList_iff.mp i);simp[DictEntry.refKey,g]
  have p:¬ d.toList.any (·.refKey)=true:=by rw[a];exact Bool.false_ne_true
  rw[Jv p];exact JB Jp e
theorem rf.look{h:FG}{x c C:E2}{b:Str->Option De}(I:rf h x c C b):∃a,W.InstAt h x (W.instObj C c) C (Jp a)/\∀name,W.lookIn name a=Jp (b name):=by
 obtain⟨a,d,e⟩:=ua I.ns;exact⟨a,⟨I.obj,U,U,d⟩,e⟩
variable{A:Gj}{dx C f:E2}
section
variable{prog:EX}{K:W.Frag}{mA:Str->Option De}{name:Str}{v:De}
theorem get_map{a:Bool}{Q:De->Gk->Prop}(X:K.In s.heap)(I:rf s.heap x dx C mA)(f:W.plainGet K C name=Jr)(e:W.hasDictIn K C=Jr)
  (g:W.findIn K (.ref C) name=Jp Jq)(c:mA name=Jp v)(b:W.handedIn v=Jr)(h:Q v { s with toks:=s.toks+1 }) :
  Gq (model prog w) A (getAttr (.ref x) name a) Q E s:=by
 obtain⟨i,J,d⟩:=I.look;exact W.get_value X J (W.plainGet_of f).1 (W.findObj_own e g U (by rw[d,c])) b h
theorem vi{pl:Sem Bool}{Q:De×List De->Gk->Prop}(X:K.In s.heap)(I:rf s.heap x dx C mA)(a:W.plainGet K C name=Jr)
  (hf:W.findIn K (.ref C) name=Jp (Jp (.ref f)))(d:W.isFn K (.ref f)=Jr)(c:mA name=Jq)(h:Q (.ref f,[.ref x]) s) :
  Gq (model prog w) A (G7 (.ref x) name pl) Q E s:=by
 obtain⟨b,J,e⟩:=I.look;exact W.method_fn X J (W.plainGet_of a).1 (W.plainGet_of a).2 hf (beq_iff_eq.mp d) (by show(W.lookIn name b).map (·.isSome)=Jp Js;rw[e,c];rfl) h
theorem xg{ns:List Str}{Q:Unit->Gk->Prop}(X:K.In s.heap)(I:rf s.heap x dx C mA)
  (l:W.findIn K (.ref C) "__setattr__" = Jp (Jp (.builtin "object.__setattr__"))) (m:W.plainOver K C=Jr)(k:W.takerIn K C name=Jp Jq)(n:W.hasDictIn K C=Jr)
  (hw:PySem.Within mA ns)(p:ns.length<=FL)
  (h:∀h',rf h' x dx C (λy=>if y=name then Jp v else mA y)->FG.SameBut dx s.heap h'->Q () { s with heap:=h',toks:=s.toks+2 }) :
  Gq (model prog w) A (setAttr (.ref x) name v) Q E s:=by
 obtain⟨u,J,B⟩:=I.look;refine W.set_plain X J l (W.osa_open (s:={ s with toks:=s.toks+1 }) (r:=Jq) X J m k λb=>?_);obtain⟨D,o,g⟩:=W.any_some n;have j:s.heap.get? x=Jp ⟨.ref C,Jp dx,.plain,#[]⟩:=I.obj;refine CW (CY (CW (CW (wpAny_loadPart j (CW (W.Looks.here (s:={ s with toks:=s.toks+1 }) (W.looks_clsIn X o) ?_))))));rw[g];refine CY (a:=Jp dx) (CW (CY (CW ?_)));refine wpAny_nsSet1 (s:={ s with toks:=s.toks+1 }) I.ns λh' d c=>?_
 obtain⟨z,q,t,e,f,i⟩:=d.count (PySem.Within.cons name v hw);refine CW (wpAny_lookBehind e (by rw[f];exact pastItsLine_dict (wX i (by rw[gR];lia))) ?_);exact CY (h _ ⟨(c.2 _ (Ne.symm I.ne)).trans I.obj,d,I.ne⟩ c)
theorem vj{R:G8->Gk->Prop}{vs:List De}{b:List (Str×De)}(X:K.In s.heap)(c:W.makesIn K C=Jr)
  (hi:W.findIn K (.ref C) "__init__" = Jp (Jp (.ref f))) (hf:W.typeIn K (.ref f)=Jp (.type "function"))
  (h:G9 (model prog w) (A.under (.builtin "type.__call__" ⟨.ref C :: vs,b⟩)) (.call (.ref f) ⟨.ref (s.heap.objs.size+1) :: vs,b⟩) (W.InitBack (s.heap.objs.size+1) R)
   { s with heap:=(s.heap.push W.emptyDict).push (W.instObj C s.heap.objs.size) }) :
  G9 (model prog w) A (.call (.ref C) ⟨vs,b⟩) R s:=by
 obtain⟨i,g,d,t,e⟩:=s;exact W.make_core (W.makes_of X c) (W.looks_findIn X hi) (λa=>W.bind_fn X a hf) (.inl U) h
end
def bp(f:Str)(v:V):List (Str×V)->List (Str×V)
 | []=>[(f,v)]
 |(g,x) :: r=>if g=f then(g,v) :: r else(g,x) :: bp f v r
theorem kI(f g:Str)(v:V):∀fs:List (Str×V),(bp f v fs).lookup g=if g=f then Jp v else fs.lookup g
 | []=>by
  show List.lookup g [(f,v)]=_;by_cases h:g=f
  .have a:(g == f)=true:=beq_iff_eq.mpr h;simp only[List.lookup,a,Jw h]
  .have a:(g == f)=false:=beq_eq_false_iff_ne.mpr h;simp only[List.lookup,a,Jv h]
 |(k,x) :: r=>by
  have c:=kI f g v r;rw[show bp f v ((k,x) :: r)=(if k=f then(k,v) :: r else(k,x) :: bp f v r)from U];by_cases b:k=f
  .rw[Jw b];by_cases h:g=k
   .have a:(g == k)=true:=beq_iff_eq.mpr h;simp only[List.lookup,a,Jw (h.trans b)]
   .have a:(g == k)=false:=beq_eq_false_iff_ne.mpr h;simp only[List.lookup,a,Jv (λe:g=f=>h (e.trans b.symm))]
  .rw[Jv b];by_cases h:g=k
   .have a:(g == k)=true:=beq_iff_eq.mpr h;simp only[List.lookup,a,Jv (λe:g=f=>b (h.symm.trans e))]
   .have a:(g == k)=false:=beq_eq_false_iff_ne.mpr h;simp only[List.lookup,a];exact c
theorem kh(f:Str)(v:V):∀fs:List (Str×V),f∈(bp f v fs).map (·.1)/\∀g,g∈fs.map (·.1)->g∈(bp f v fs).map (·.1)
 | []=>⟨by simp[bp],λg h=>by simp at h⟩
 |(k,x) :: r=>by
  obtain⟨c,b⟩:=kh f v r;rw[show bp f v ((k,x) :: r)=(if k=f then(k,v) :: r else(k,x) :: bp f v r)from U];by_cases a:k=f
  .rw[Jw a];subst a;exact⟨by simp,λg h=>by simpa using h⟩
  .rw[Jv a];refine⟨?_,λg h=>?_⟩
   .rw[mH];exact ik _ c
   .rw[mH]at h⊢;rcases dy.mp h with e|e
    .exact dy.mpr (.inl e)
    .exact ik _ (b g e)
theorem kJ(f:Str)(v:V):∀fs:List (Str×V),(bp f v fs).length<=fs.length+1
 | []=>by simp[bp]
 |(k,x) :: r=>by
  have b:=kJ f v r;rw[show bp f v ((k,x) :: r)=(if k=f then(k,v) :: r else(k,x) :: bp f v r)from U];by_cases a:k=f
  .rw[Jw a,gR,gR];lia
  .rw[Jv a,gR,gR];lia
theorem mR.some_of{v:V}{o:Option De}(r:mR (Jp v) o):∃u,o=Jp u/\RelV v u:=by
 cases o with
 |none=>exact(show False from r).elim
 |some u=>exact⟨u,U,r⟩
theorem mR.none_of{o:Option De}(r:mR Jq o):o=none:=by
 cases o with
 |none=>rfl
 |some u=>exact(show False from r).elim
theorem nF{v:V}{u:De}(r:RelV v u):W.handedIn u=true:=by
 cases v with
 |non=>cases (show u=De.none from r);rfl
 |bl b=>cases (show u=De.bool b from r);rfl
 |int i=>obtain⟨t,e⟩:=(show ∃t,u=De.int i t from r);cases e;rfl
 |str x=>obtain⟨t,e⟩:=(show ∃t,u=De.str x t from r);cases e;rfl
 |byt b=>obtain⟨t,e⟩:=(show ∃t,u=De.bytes b t from r);cases e;rfl
 |flt b=>obtain⟨t,e⟩:=(show ∃t,u=De.float b t from r);cases e;rfl
 |ref a=>cases (show u=De.ref a from r);rfl
 |ty n=>cases (show u=De.type n from r);rfl
section
variable{fs fs':List (Str×V)}
theorem kW(hok:HOk P w H h)(e:H a=Jp (.ins C dx fs)):∃b,rf h a dx C b/\(∀f,mR (fs.lookup f) (b f))/\PySem.Within b (fs.map (·.1))/\fs.length<=1000/\H dx=Jp (.own a):=by
 obtain⟨d,z,ne,c,b,n,r,q⟩:=(show cG P w H h a (.ins C dx fs)from hok a _ e);exact⟨b,⟨c,n,ne⟩,r,q,z,d⟩
end
structure Cls(K:W.Frag)(C:E2):Prop where
 pg:W.plainGet K C Str.empty=Jr
 hd:W.hasDictIn K C=Jr
 po:W.plainOver K C=Jr
 sa:W.findIn K (.ref C) "__setattr__" = Jp (Jp (.builtin "object.__setattr__"))
theorem Cls.get{K:W.Frag}{C:E2}(c:Cls K C)(f:Str):W.plainGet K C f=true:=c.pg
def NoAttr(K:W.Frag)(C:E2)(f:Str):Prop:=W.findIn K (.ref C) f=Jp Jq
theorem NoAttr.taker{K:W.Frag}{C:E2}{f:Str}(n:NoAttr K C f):W.takerIn K C f=Jp none:=by
 unfold W.takerIn;rw[show W.findIn K (.ref C) f=Jp Jq from n];rfl
structure Con(K:W.Frag)(C:E2)(f:Str)(v:V)(u:De):Prop where
 at_:W.findIn K (.ref C) f=Jp (Jp u)
 rel:RelV v u
 get:W.specialIn K u "__get__" = Jp Jq
 cp:W.copiedNames.contains f=Js
structure Meth(K:W.Frag)(C:E2)(m:Str)(f:E2):Prop where
 at_:W.findIn K (.ref C) m=Jp (Jp (.ref f))
 fn:W.isFn K (.ref f)=Jr
 kp:W.keepIn K (.ref f)=Jr
section
variable{fs:List (Str×V)}{f:Str}{v:V}
theorem rg{b:Bool}{Q:De->Gk->Prop}(I:Inv X Ju σ H s)(e:H a=Jp (.ins C dx fs))(c:Cls X.K C)(n:NoAttr X.K C f)(l:fs.lookup f=Jp v)
  (h:∀u s',Inv X Ju σ H s'->RelV v u->Q u s'):Gq (model X.prog X.w) A (getAttr (.ref a) f b) Q E s:=by
 obtain⟨g,O,r,_,_,_⟩:=kW I.hok e;obtain⟨u,i,d⟩:=mR.some_of (v:=v) (o:=g f) (by rw[←l];exact r f);exact get_map I.kIn O (c.get f) c.hd n i (nF d) (h u _ (I.tok _) d)
theorem lD{m:Str}{g:E2}{pl:Sem Bool}{Q:De×List De->Gk->Prop}(I:Inv X Ju σ H s)(e:H a=Jp (.ins C dx fs))(c:Cls X.K C)(k:Meth X.K C m g)(l:fs.lookup m=Jq)
  (h:Q (.ref g,[.ref a]) s):Gq (model X.prog X.w) A (G7 (.ref a) m pl) Q E s:=by
 obtain⟨b,O,r,_,_,_⟩:=kW I.hok e;have d:b m=none:=mR.none_of (by rw[←l];exact r m);exact vi I.kIn O (c.get m) k.at_ k.fn d h
theorem rh{y:V}{u:De}{Q:Unit->Gk->Prop}(I:Inv X Ju σ H s)(e:H a=Jp (.ins C dx fs))(c:Cls X.K C)(n:NoAttr X.K C f)(B:fs.length<1000)(m:RelV y u)
  (h:∀s',Inv X Ju σ (upd H a (.ins C dx (bp f y fs))) s'->Q () s'):Gq (model X.prog X.w) A (setAttr (.ref a) f u) Q E s:=by
 obtain⟨j,O,r,i,_,k⟩:=kW I.hok e;have p:(fs.map (·.1)).length<=FL:=by rw[bo,G6];lia
 refine xg I.kIn O c.sa c.po n.taker c.hd i p λh' d l=>h _ ?_
 have hd:∃o,h'.get? dx=Jp o:=let ⟨o,_,_,e',_⟩:=d.ns;⟨o,e'⟩;refine I.write (x:=a) (e:=dx) (by rw[e];exact True.intro) (.inr k) (λb q v z=>(l.2 b v).trans z) hd ?_;refine⟨by rw[aw O.ne];exact k,?_,O.ne,d.obj,_,d.ns,λg=>?_,λg t=>?_⟩
 .have:=kJ f y fs;lia
 .show mR ((bp f y fs).lookup g) (if g=f then Jp u else j g);rw[kI];by_cases q:g=f
  .rw[Jw q,Jw q];exact m
  .rw[Jv q,Jv q];exact r g
 .by_cases q:g=f
  .rw[q];exact(kh f y fs).1
  .refine(kh f y fs).2 g (i g λz=>t ?_);show(if g=f then Jp u else j g)=Jq;rw[Jv q];exact z
theorem Inv.made(I:Inv X Ju σ H s):Inv X Ju σ (upd (upd H s.heap.objs.size (.own (s.heap.objs.size+1))) (s.heap.objs.size+1) (.ins C s.heap.objs.size []))
  { s with heap:=(s.heap.push W.emptyDict).push (W.instObj C s.heap.objs.size) }:=by
 have c:(s.heap.push W.emptyDict).get? s.heap.objs.size=Jp W.emptyDict:=FG.get?_push_size s.heap U;have h:((s.heap.push W.emptyDict).push (W.instObj C s.heap.objs.size)).get? (s.heap.objs.size+1)=Jp (W.instObj C s.heap.objs.size):=by
  have:=FG.get?_push_size (s.heap.push W.emptyDict) (o:=W.instObj C s.heap.objs.size) U
  rwa [FG.size_push]at this
 have g:(s.heap.push W.emptyDict).Ns s.heap.objs.size (λ_=>Jq):=⟨W.emptyDict,#[],_,c,U,(λe f=>Jx f (by simp)),λ_=>U⟩;have i:=I.laid (a:=s.heap.objs.size) (o:=.own (s.heap.objs.size+1)) (h':=s.heap.push W.emptyDict) (t':=s.toks) (λb u q=>FG.get?_push_of_some _ q) (wN _) ⟨_,c⟩;refine i.laid (a:=s.heap.objs.size+1) (o:=.ins C s.heap.objs.size []) (t':=s.toks) (λb u q=>FG.get?_push_of_some _ q) (Nat.le_of_eq (FG.size_push _ _)) ?_;have ne:s.heap.objs.size≠s.heap.objs.size+1:=wO (yi _);refine⟨by rw[aw ne,ab],xn _,ne,h,λ_=>Jq,(FG.Ns1.of_empty g).at λo q=>FG.get?_push_of_some _ q,λ_=>True.intro,λy d=>Jx U d⟩
theorem xh{prog:EX}{w:D0}{a:Env}{e:Gs}{f:Str}{pos:Pos}{s:Gk}{Q:De->Gk->Prop}(c:Ha e f a (eval e a)=eval e a)
  (h:Gq (model prog w) A (eval e a) (λo b=>Gq (model prog w) A (getAttr o f Jr) Q E b) E s):Gq (model prog w) A (eval (.Attribute e f pos) a) Q E s :=
 Attribute_any_ h (by rw[arm_eval_Attribute,c])
end
inductive yv(K:W.Frag)(f:Str)(Q:VK)(x:V)(H1:Hp):Prop
 |mk (a C dx fs v:_)(_:x=.ref a)(_:H1 a=Jp (.ins C dx fs))(_:Cls K C)(_:NoAttr K C f)(_:fs.lookup f=Jp v)(_:Q v H1)
def Bg(K:W.Frag)(ta:TE)(f:Str):TE:=λσ H Q=>ta σ H λx a=>yv K f Q x a
def CS(K:W.Frag)(ta c:TE)(f:Str):TS:=λD σ H=>c σ H λy d=>ta σ d λx b=>∃a C dx fs,x=.ref a/\b a=Jp (.ins C dx fs)/\Cls K C/\NoAttr K C f/\fs.length<1000 /\
 D.nx σ (upd b a (.ins C dx (bp f y fs)))
variable{o:Gs}
section
variable{value:Gs}{f:Str}{pos' FJ:Pos}{tv:TE}
theorem aN(g:PE X e ta)(i:Ha e f X.env (eval e X.env)=eval e X.env):PE X (.Attribute e f pos) (Bg X.K ta f):=by
 intro Ju s σ H Q I h;refine xh i (thn (g Ju s σ H _ I h) λu t ⟨x,p,o,b,a,C,dx,fs,v,j,k,c,n,l,q⟩=>?_);subst j;obtain rfl:u=De.ref a:=b;exact rg o k c n l λr s2 m d=>⟨v,p,m,d,q⟩
theorem cx(m:PE X o ta)(j:PE X value tv)(k:GI value (Jp (.Attribute o f pos')) pos.line X.env=pure Js):PS X (.Assign [.Attribute o f pos'] value pos) (CS X.K ta tv f):=by
 intro Ju s σ H D I h;refine plainObj_wpAny_Assign_Attribute (thn (j Ju s σ H _ I h) λu b ⟨y,z,w,d,q⟩=>thn (m Ju b σ z _ w q) λi s2 ⟨x,B,v,e,a,C,dx,fs,p,r,c,n,l,g⟩=>?_) k;subst p;obtain rfl:i=De.ref a:=e;exact rh v r c n l d λA t=>⟨σ,_,t,g⟩
end
section
variable{Q:De->Gk->Prop}{c:De}{b:Bool}
inductive ki(K:W.Frag)(H:Hp):V->De->Prop where
 |non:ki K H .non (.type "NoneType")
 |bl (x:Bool):ki K H (.bl x) (.type "bool")
 |int (i:Int):ki K H (.int i) (.type "int")
 |str (x:Str):ki K H (.str x) (.type "str")
 |flt (x:UInt64):ki K H (.flt x) (.type "float")
 |lst {a:E2}{xs:List V}(e:H a=Jp (.lst xs)):ki K H (.ref a) (.type "list")
 |frz {a:E2}{o:Obj}{xs:List V}(e:H a=Jp (.frz o (.lst xs))):ki K H (.ref a) (.type "list")
 |tup {a:E2}{xs:List V}(e:H a=Jp (.tup xs)):ki K H (.ref a) (.type "tuple")
 |dK {a:E2}{kvs:List (Key×V)}(e:H a=Jp (.dK kvs)):ki K H (.ref a) (.type "dict")
 |dT {a:E2}{kvs:List (List Key×V)}(e:H a=Jp (.dT kvs)):ki K H (.ref a) (.type "dict")
 |ins {a C dx:E2}{fs:List (Str×V)}(e:H a=Jp (.ins C dx fs))(cl:Cls K C)(ha:W.findIn K (.ref C) "__class__" = Jp (Jp (.builtin "object.__class__")))
   (hn:W.specialIn K (.builtin "object.__class__") "__get__" = Jp (Jp (.builtin "getset_descriptor.__get__"))) (htk:W.takesIn K (.builtin "object.__class__")=Jp Jr)
   (hm:W.mroIn K C (.type "object")=Jp Jr):ki K H (.ref a) (.ref C)
theorem ub{x:V}{u t:De}(I:Inv X Ju σ H s)(d:RelV x u)(ty:ki X.K H x t)(e:W.kitOne X.K t c=Jp b)(h:∀k,Q (.bool b) { s with toks:=k }) :
  Gq (model X.prog X.w) A (call (.builtin "isinstance") [u,c]) Q E s:=by
 cases ty with
 |non=>cases (show u=De.none from d);exact W.kia_one W.kitx_none I.kIn True.intro e (λz=>nomatch z) h
 |bl y=>cases (show u=De.bool y from d);exact W.kia_one W.kitx_bool I.kIn True.intro e (λz=>nomatch z) h
 |int i=>obtain⟨t,q⟩:=(show ∃t,u=De.int i t from d);cases q;exact W.kia_one W.kitx_int I.kIn True.intro e (λz=>nomatch z) h
 |str y=>obtain⟨t,q⟩:=(show ∃t,u=De.str y t from d);cases q;exact W.kia_one W.kitx_str I.kIn True.intro e (λz=>nomatch z) h
 |flt y=>obtain⟨t,q⟩:=(show ∃t,u=De.float y t from d);cases q;exact W.kia_one W.kitx_float I.kIn True.intro e (λz=>nomatch z) h
 | @lst a g ea =>
  cases (show u=De.ref a from d);obtain⟨_,_,n,_,f⟩:=(show cG X.prog X.w H s.heap a (.lst g)from I.hok a _ ea);exact W.kia_one W.kitx_list I.kIn ⟨_,f,U⟩ e (λz=>nomatch z) h
 | @frz a ob g ea =>
  cases (show u=De.ref a from d);obtain⟨_,_,_,n,_,f⟩:=(show cG X.prog X.w H s.heap a (.frz ob (.lst g))from I.hok a _ ea);exact W.kia_one W.kitx_list I.kIn ⟨_,f,U⟩ e (λz=>nomatch z) h
 | @tup a g ea =>
  cases (show u=De.ref a from d);obtain⟨_,_,_,p⟩:=(show cG X.prog X.w H s.heap a (.tup g)from I.hok a _ ea);obtain⟨o,f,j,_⟩:=p;exact W.kia_one W.kitx_tuple I.kIn ⟨o,f,j⟩ e (λz=>nomatch z) h
 | @dK a kvs ea =>
  cases (show u=De.ref a from d);obtain⟨_,_,r,_,p⟩:=(show cG X.prog X.w H s.heap a (.dK kvs)from I.hok a _ ea);obtain⟨o,l,m,f,j,_⟩:=p;exact W.kia_one W.kitx_dict I.kIn ⟨o,f,j.1⟩ e (λz=>nomatch z) h
 | @dT a kvs ea =>
  cases (show u=De.ref a from d);obtain⟨_,_,g,_,o,l,m,f,j,_⟩:=(show cG X.prog X.w H s.heap a (.dT kvs)from I.hok a _ ea);exact W.kia_one W.kitx_dict I.kIn ⟨o,f,j.1⟩ e (λz=>nomatch z) h
 | @ins a C dx fs ea cl ha hn htk hm =>
  cases (show u=De.ref a from d);obtain⟨B,O,_⟩:=kW I.hok ea;obtain⟨v,J,_⟩:=O.look;exact W.kia_one (W.kitx_own (cl.get _) cl.hd ha hn htk hm) I.kIn J e (λz=>nomatch z) h
end
structure bU(k:Nat)(A:Gj):Prop where
 hd:A.handled=Jq
 dp:A.depth+3*k+5<Hb
 un:A.units+16*k+200<Hc
theorem bU.mono{j k:Nat}{A:Gj}(r:bU k A)(h:j<=k):bU j A:=⟨r.hd,by have:=r.dp;lia,by have:=r.un;lia⟩
theorem bU.deeper{k:Nat}{A:Gj}(r:bU (k+1) A)(a:Env):bU k (A.deeper a) :=
 ⟨r.hd,by have:=r.dp;show A.depth+1+3*k+5<_;lia,by have:=r.un;show A.units+3+16*k+200<_;lia⟩
theorem rj{A:Gj}{C:E2}{us:List De}{a:List (Str×De)}:(A.under (.builtin "type.__call__" ⟨.ref C :: us,a⟩)).depth=A.depth+1:=by
 first|rfl|simp[Gj.under,Hd.weight,Hd.isCreation,Hd.isGuard,Hd.isCaller,Hd.frames,Hd.isFrame,guardIds]
theorem rk{A:Gj}{C:E2}{us:List De}{a:List (Str×De)}:(A.under (.builtin "type.__call__" ⟨.ref C :: us,a⟩)).units=A.units+1:=by
 first|rfl|simp[Gj.under,Hd.cUnits,Hd.frames,Hd.isFrame]
theorem bU.make{k:Nat}{A:Gj}(r:bU (k+1) A)(C:E2)(us:List De)(a:List (Str×De)):bU k (A.under (.builtin "type.__call__" ⟨.ref C :: us,a⟩)) :=
 ⟨r.hd,by have:=r.dp;rw[rj];lia,by have:=r.un;rw[rk];lia⟩
theorem bU.depth{k:Nat}{A:Gj}(r:bU k A):A.depth<Hb:=by have:=r.dp;lia
theorem bU.units{k:Nat}{A:Gj}(r:bU k A):A.units+64<Hc:=by have:=r.un;lia
def zF:TA:=λ_ H Q=>Q [] H
def Bh(ta:TE)(b:TA):TA:=λσ H Q=>ta σ H λx d=>b σ d λa c=>Q (x :: a) c
variable{es:List Gs}{t:TA}
theorem ae:PA X [] zF:=λ_ _ _ _ H Q I h=>Calls.spliced_nil ⟨[],H,I,.nil,h⟩
theorem aa(k:PE X e te)(j:PA X es t)(i:Gw (e :: es) X.env=(Js,eval e X.env) :: Gw es X.env:=by rfl):PA X (e :: es) (Bh te t):=by
 intro pos Ju s σ H Q I h;rw[i];show Gq _ _ (spliced ((Js,eval e X.env) :: Gv pos (Gw es X.env))) _ _ s;refine Calls.spliced_cons (thn (k Ju s σ H _ I h) λu b ⟨x,o,m,d,g⟩=>?_);exact thn (j pos Ju b σ o _ m g) λp s2 ⟨a,n,l,c,f⟩=>⟨x :: a,n,l,.cons d c,f⟩
def CT(t:TA):TE:=λσ H Q=>t σ H λa b=>a.length<=FL/\∀p,b p=Jq->Q (.ref p) (upd b p (.tup a))
def CU(t:TA):TE:=λσ H Q=>t σ H λa b=>a.length<=FL/\∀p,b p=Jq->Q (.ref p) (upd b p (.lst a))
theorem ba{x1} (h:PA X es t):PE X (.Tuple es x1 pos) (CT t):=by
 intro Ju s σ H Q I i;refine wpAny_Tuple_spliced (thn (h pos Ju s σ H _ I i) λg a ⟨f,d,c,r,z,q⟩=>⟨by rw[←r.length];exact z,?_⟩);have j:d a.heap.objs.size=none:=c.hok.fresh (wN _);refine⟨.ref a.heap.objs.size,upd d a.heap.objs.size (.tup f),c.laid (t':=a.toks) (λb u e=>FG.get?_push_of_some _ e) (wN _) ?_,U,q _ j⟩;exact⟨z,g,r,⟨_,FG.get?_push_size _ U,U,_,U⟩⟩
theorem bc(h:PA X es t):PE X (.List es pos) (CU t):=by
 intro Ju s σ H Q I i;refine wpAny_List_spliced (thn (h pos Ju s σ H _ I i) λg a ⟨f,d,c,r,z,q⟩=>⟨by rw[←r.length];exact z,?_⟩);have j:d a.heap.objs.size=none:=c.hok.fresh (wN _);refine⟨.ref a.heap.objs.size,upd d a.heap.objs.size (.lst f),c.laid (t':=a.toks) (λb u e=>FG.get?_push_of_some _ e) (wN _) ?_,U,q _ j⟩;exact⟨z,g,0,r,FG.get?_push_size _ U⟩
abbrev Sp:=List V->Hp->VK->XK->Prop
abbrev CXT:=List Env->Hp->Gk->XK->De->Gk->Prop
structure pO(P:EX)(w:D0)(K:W.Frag)(mg:Str->Option De)(base:FG)(A:Gj)(outer:List Env)(s:Gk)(H:Hp):Prop where
 frames:A.frames=Jp outer
 mod:Mod K mg base
 bs:∀b o,base.get? b=Jp o->s.heap.get? b=Jp o/\H b=Jq
 bsz:base.objs.size<=s.heap.objs.size
 funs:s.heap.FunFrames base outer
 frf:∀b∈frs outer,H b=Jq
 hok:HOk P w H s.heap
 bare:AllBare s.gens
def CE(a:List Env)(P:EX)(w:D0)(H:Hp)(s:Gk)(Q:VK)(u:De)(s':Gk):Prop :=
 ∃v H',s'.os=s.os/\AllBare s'.gens/\Un (frs a) [] H H' s.heap s'.heap/\HOk P w H' s'.heap/\RelV v u/\Q v H'
def CR(CX:CXT)(a:List Env)(P:EX)(w:D0)(H:Hp)(s:Gk)(Q:VK)(E:XK)(r:G8)(s':Gk):Prop :=
 match r with
 | .ok (.ret u)=>CE a P w H s Q u s'
 | .ok _=>False
 | .error e=>CX a H s E e s'
structure aK(P:EX)(w:D0)(K:W.Frag)(mg:Str->Option De)(base:FG)(CX:CXT)(k:Nat)(f:E2)(fd:He)(ps:List Str)(sp:Sp):Prop where
 len:∀vs H Q E,sp vs H Q E->vs.length=ps.length
 run:∀(A:Gj)(outer:List Env)(s:Gk)(H:Hp)(args:Args)(us:List De)(vs:List V)(Q:VK)(E:XK),bU k A->pO P w K mg base A outer s H->Hf s fd args (ps.zip us)->Vals vs us->sp vs H Q E ->
  G9 (model P w) A (.call (.ref f) args) (CR CX outer P w H s Q E) s
theorem aK.mono{P:EX}{w:D0}{K:W.Frag}{mg:Str->Option De}{a:FG}{CX:CXT}{j k:Nat}{f:E2}{d:He}{ps:List Str}{sp:Sp}(F:aK P w K mg a CX j f d ps sp)(h:j<=k) :
  aK P w K mg a CX k f d ps sp:=⟨F.len,λA b s H c g e Q E i=>F.run A b s H c g e Q E (i.mono h)⟩
theorem pO.make{P:EX}{w:D0}{K:W.Frag}{mg:Str->Option De}{b:FG}{A:Gj}{a:List Env}{s:Gk}{H:Hp}(e:pO P w K mg b A a s H)(C:E2)(us:List De)(c:List (Str×De)) :
  pO P w K mg b (A.under (.builtin "type.__call__" ⟨.ref C :: us,c⟩)) a s H:=⟨by first|exact e.frames|(simpa[Gj.under,Hd.envs,Hd.isFrame,pushEnvs]using e.frames),e.mod,e.bs,e.bsz,e.funs,e.frf,e.hok,e.bare⟩
section
variable{s':Gk}
theorem Inv.env0(I:Inv X Ju σ H s):pO X.prog X.w X.K X.mg X.base X.A X.stack s H :=
 ⟨I.ok.frames,I.ok.mod,I.bs,wX I.ok.bsz I.sz,I.stack,I.stkFree,I.hok,I.bare⟩
theorem Inv.after{Q:VK}{u:De}(I:Inv X Ju σ H s)(h:CE X.stack X.prog X.w H s Q u s'):EP X Ju σ Q u s':=by
 obtain⟨v,H',os,a,un,hok,r,q⟩:=h;obtain⟨e,g,d,t,c⟩:=s';obtain rfl:c=s.os:=os;exact⟨v,H',I.call (h':=e) (g':=g) (d':=d) (t':=t) (ch:=[]) un hok a (λb z=>Jx z (by simp)),r,q⟩
end
def Bi(sp:Sp)(dvs:List V)(E:XK)(t:TA):TE:=λσ H Q=>t σ H λa b=>sp (a++dvs) b Q E
def yw(C:E2)(sp:Sp)(dvs:List V)(E:XK)(t:TA):TE:=λσ H Q=>t σ H λb a=>∀x dx,a x=Jq->a dx=Jq->dx≠x ->
 sp (.ref x :: (b++dvs)) (upd (upd a dx (.own x)) x (.ins C dx [])) (λv c=>v=.non/\Q (.ref x) c) E
def Binds(K:W.Frag)(b:He)(ps:List Str)(ds:List De):Prop :=
 ∀(s:Gk)(a:List De),K.In s.heap->(a++ds).length=ps.length->Hf s b ⟨a,[]⟩ (ps.zip (a++ds))
theorem Binds.all{K:W.Frag}{b:He}{ps:List Str}(h:∀us:List De,us.length=ps.length->Hg b ⟨us,[]⟩=pure (ps.zip us)):Binds K b ps []:=λs us _ a=>by
 rw[jt]at a⊢;exact .of_eq (h us a)
def Passes(CX:CXT)(X:Cx)(E:XK):Prop:=∀(Ju:List (E2×Obj))(σ:St)(H:Hp)(s:Gk)(e:De)(a:Gk),Inv X Ju σ H s->CX X.stack H s E e a->X.xe e a
variable{p:Pos}
section
variable{CX:CXT}{k:Nat}{fd:He}{ps:List Str}{sp:Sp}{dvs:List V}{ds:List De}{E:XK}{x m:Str}{apos:Pos}
theorem rm{Ju:List (E2×Obj)}{σ:St}{H:Hp}{s:Gk}{Q:VK}{us:List De}{vs:List V}(F:aK X.prog X.w X.K X.mg X.base CX k f fd ps sp)(g:bU k X.A)(l:Binds X.K fd ps ds)(j:Vals dvs ds)(d:Passes CX X E)
  (I:Inv X Ju σ H s)(r:Vals vs us)(h:sp (vs++dvs) H Q E):Gq (model X.prog X.w) X.A (call (.ref f) us) (EP X Ju σ Q) X.xe s:=by
 have b:Vals (vs++dvs) (us++ds):=r.append j;have i:(us++ds).length=ps.length:=by rw[←b.length];exact F.len _ _ _ _ h
 refine Hh (Hi (F.run X.A X.stack s H ⟨us,[]⟩ (us++ds) (vs++dvs) Q E g I.env0 (l s us I.kIn i) b h) λr c a=>?_);cases r with
 |error e=>exact d Ju σ H s e c I a
 |ok fl =>
  cases fl with
  |ret u=>exact I.after a
  |next=>exact False.elim a
  |brk=>exact False.elim a
  |cont=>exact False.elim a
theorem xi(F:aK X.prog X.w X.K X.mg X.base CX k f fd ps sp)(g:bU k X.A)(l:Gl X x)(i:X.mg x=Jp (.ref f))(j:W.keepIn X.K (.ref f)=Jr)(n:Binds X.K fd ps ds)(m:Vals dvs ds)(d:Passes CX X E)
  (o:PA X (e :: es) t)(b:(x == ("__debug__" : Str))=false:=by decide) (he:Gw (e :: es) X.env=(Js,eval e X.env) :: Gw es X.env:=by rfl)(a:(Gv pos (Gw es X.env)).any (·.1)=false:=by rfl) :
  PE X (.Call (.Name x p) (e :: es) [] pos) (Bi sp dvs E t):=by
 intro Ju s σ H Q I h;refine Dc (ir I l i ?_ b);refine W.callWith_K (h₀:=X.base) I.ok.mod.kin j (thn (o pos Ju s σ H _ I h) λv y ⟨u,z,c,r,q⟩=>⟨c.kIn,?_⟩) he a;exact rm F g n m d c r q
structure Mk(K:W.Frag)(C f:E2):Prop where
 makes:W.makesIn K C=Jr
 init:W.findIn K (.ref C) "__init__" = Jp (Jp (.ref f))
 fn:W.isFn K (.ref f)=Jr
 kp:W.keepIn K (.ref C)=Jr
theorem pP{Ju:List (E2×Obj)}{σ:St}{H:Hp}{s:Gk}{Q:VK}{us:List De}{vs:List V}(M:Mk X.K C f)(F:aK X.prog X.w X.K X.mg X.base CX k f fd ps sp)(m:bU (k+1) X.A)(p:Binds X.K fd ps ds)(o:Vals dvs ds)
  (l:Passes CX X E)(I:Inv X Ju σ H s)(r:Vals vs us)
  (h:∀x dx,H x=Jq->H dx=Jq->dx≠x->sp (.ref x :: (vs++dvs)) (upd (upd H dx (.own x)) x (.ins C dx [])) (λv y=>v=.non/\Q (.ref x) y) E) :
  Gq (model X.prog X.w) X.A (call (.ref C) us) (EP X Ju σ Q) X.xe s:=by
 have d:=h (s.heap.objs.size+1) s.heap.objs.size (I.hok.fresh (x4 _)) (I.hok.fresh (wN _)) (wO (yi _));have b:=Inv.made (C:=C) I;have c:Vals (V.ref (s.heap.objs.size+1) :: (vs++dvs)) (De.ref (s.heap.objs.size+1) :: (us++ds)):=.cons U (r.append o);have n:(De.ref (s.heap.objs.size+1) :: us++ds).length=ps.length:=by
  have e:=c.length;rw[F.len _ _ _ _ d]at e;exact e.symm
 refine Hh (vj (f:=f) I.kIn M.makes M.init (beq_iff_eq.mp M.fn) (Hi (F.run _ X.stack _ _ ⟨De.ref (s.heap.objs.size+1) :: us,[]⟩ (De.ref (s.heap.objs.size+1) :: (us++ds)) _ _ E (m.make C us [])
  (b.env0.make C us []) (p _ (De.ref (s.heap.objs.size+1) :: us) b.kIn n) c d) λr g a=>?_))
 cases r with
 |error e=>exact l Ju σ _ _ e g b a
 |ok fl =>
  cases fl with
  |ret u =>
   obtain⟨v,H',t,i,q,j⟩:=b.after a;subst q;exact⟨i,⟨V.ref (s.heap.objs.size+1),H',t,U,j⟩⟩
  |next=>exact False.elim a
  |brk=>exact False.elim a
  |cont=>exact False.elim a
theorem xj(M:Mk X.K C f)(F:aK X.prog X.w X.K X.mg X.base CX k f fd ps sp)(g:bU (k+1) X.A)(j:Gl X x)(i:X.mg x=Jp (.ref C))(m:Binds X.K fd ps ds)(l:Vals dvs ds)(d:Passes CX X E)
  (n:PA X (e :: es) t)(b:(x == ("__debug__" : Str))=false:=by decide) (he:Gw (e :: es) X.env=(Js,eval e X.env) :: Gw es X.env:=by rfl)(a:(Gv pos (Gw es X.env)).any (·.1)=false:=by rfl) :
  PE X (.Call (.Name x p) (e :: es) [] pos) (yw C sp dvs E t):=by
 intro Ju s σ H Q I h;refine Dc (ir I j i ?_ b);refine W.callWith_K (h₀:=X.base) I.ok.mod.kin M.kp (thn (n pos Ju s σ H _ I h) λu v ⟨o,y,c,r,q⟩=>⟨c.kIn,?_⟩) he a;exact pP M F g m l d c r q
theorem vk(M:Mk X.K C f)(F:aK X.prog X.w X.K X.mg X.base CX k f fd ps sp)(c:bU (k+1) X.A)(e:Gl X x)(d:X.mg x=Jp (.ref C))(i:Binds X.K fd ps ds)(g:Vals dvs ds)(b:Passes CX X E)
  (a:(x == ("__debug__" : Str))=false:=by decide):PE X (.Call (.Name x p) [] [] pos) (yw C sp dvs E zF):=by
 intro Ju s σ H Q I h;refine Dc (ir I e d ?_ a);exact W.callWith_K0 I.kIn M.kp (pP (us:=[]) M F c i g b I .nil h)
end
section
variable{CX:CXT}{k:Nat}{fd:He}{ps ks:List Str}{sp:Sp}{E:XK}{x m:Str}{apos FK:Pos}{kws:List Keyword}{tk:TA}{nm:Option Str}
structure CV(K:W.Frag)(fd:He)(ps ks:List Str)(g:List De->List De->List De)(gV:List V->List V->List V):Prop where
 to:∀(s:Gk)(us ws:List De),K.In s.heap->(g us ws).length=ps.length->Hf s fd ⟨us,ks.zip ws⟩ (ps.zip (g us ws))
 rel:∀{vs:List V}{us:List De}{zs:List V}{ws:List De},Vals vs us->Vals zs ws->Vals (gV vs zs) (g us ws)
variable{g:List De->List De->List De}{gV:List V->List V->List V}
end
structure aq(N P:List Str)(sc:Gm):Prop where
 kind:sc.kind=.function
 co:sc.isCoroutine=Js
 gen:sc.isGenerator=Js
 nd:N.Nodup
 pre:N.take P.length=P
 par:∀x∈P,sc.names.lookup x=Jp .local\/sc.names.lookup x=Jp .cell
 nofree:∀y∈sc.names,y.2≠.free
theorem nG{a:Str->Option Hj}{x:Str}:∀{binds:List (Str×De)}{m:Str->Option De},(∀v,(x,v) ∉ binds)->Hk a binds m x=m x
 | [],_,_=>rfl
 |(n,v) :: r,m,h=>by
  unfold Hk;rw[nG λw b=>h w (ik _ b)];split
  .have:x≠n:=by rintro rfl;exact h v gb
   simp[this]
  .rfl
theorem nH{a:Str->Option Hj}{x:Str}:∀{binds:List (Str×De)}{m:Str->Option De},(∀v,(x,v) ∉ binds)->Hl a binds m x=m x
 | [],_,_=>rfl
 |(n,v) :: r,m,h=>by
  unfold Hl;rw[nH λw b=>h w (ik _ b)];split
  .rfl
  .have:x≠n:=by rintro rfl;exact h v gb
   simp[this]
theorem nI{a:Str->Option Hj}{x:Str}{v:De}:∀{P:List Str}{vs:List De}{i:Nat}{m:Str->Option De},P.Nodup->P[i]?=Jp x->vs[i]?=Jp v->a x=Jp .local ->
  Hk a (P.zip vs) m x=Jp v
 | [],_,_,_,_,h,_,_=>by simp at h
 |_ :: _,[],_,_,_,_,h,_=>by simp at h
 |p :: P,w :: vs,0,m,nd,h1,h2,hk=>by
  simp at h1 h2;subst h1;subst h2;show Hk a ((p,w) :: P.zip vs) m p=_;unfold Hk;rw[nG λv b=>(ot.mp nd).1 (tu b).1,Jw hk];simp
 |p :: P,w :: vs,i+1,m,nd,h1,h2,hk=>by
  show Hk a ((p,w) :: P.zip vs) m x=_;unfold Hk;exact nI (i:=i) (ot.mp nd).2 (by simpa using h1) (by simpa using h2) hk
theorem nJ{a:Str->Option Hj}{x:Str}{v:De}:∀{P:List Str}{vs:List De}{i:Nat}{m:Str->Option De},P.Nodup->P[i]?=Jp x->vs[i]?=Jp v->a x≠Jp .local ->
  Hl a (P.zip vs) m x=Jp v
 | [],_,_,_,_,h,_,_=>by simp at h
 |_ :: _,[],_,_,_,_,h,_=>by simp at h
 |p :: P,w :: vs,0,m,nd,h1,h2,hk=>by
  simp at h1 h2;subst h1;subst h2;show Hl a ((p,w) :: P.zip vs) m p=_;unfold Hl;rw[nH λv b=>(ot.mp nd).1 (tu b).1,Jv hk];simp
 |p :: P,w :: vs,i+1,m,nd,h1,h2,hk=>by
  show Hl a ((p,w) :: P.zip vs) m x=_;unfold Hl;exact nJ (i:=i) (ot.mp nd).2 (by simpa using h1) (by simpa using h2) hk
def start(N:List Str)(vs:List V):St:=vs.map Jp++List.replicate (N.length-vs.length) Jq
def pQ(CX:CXT)(P:EX)(w:D0)(K:W.Frag)(mg:Str->Option De)(base:FG)(N:List Str)(qual:Str)(scope:Gm)(f:E2)(b:De)(A:Gj)(outer:List Env)(s:Gk)(H:Hp)(E:XK):Cx where
 prog:=P
 w:=w
 K:=K
 mg:=mg
 base:=base
 A:=A.deeper (envOfC qual scope s.heap.objs.size f b)
 N:=N
 s₀:=s
 H₀:=H
 env:=envOfC qual scope s.heap.objs.size f b
 outer:=outer
 stack:=envOfC qual scope s.heap.objs.size f b :: outer
 ex:=[]
 calm:=Jr
 fn:=λ_=>Jr
 pn:=[]
 xe:=λe c=>Gq (model P w) (A.deeper (envOfC qual scope s.heap.objs.size f b)) (leaving (envOfC qual scope s.heap.objs.size f b) e) (λ_ a=>CX outer H s E e a) (λd a=>CX outer H s E d a) c
theorem pR{a:Gm}{n:Nat}{x:Str}(h:a.names.lookup x=Jp .cell):∃c,(Hm n a.names []).lookup x=Jp c:=by
 have q:=W.cellsFrom_some a.names n [] (.inl h);exact Bv.mp q
theorem uc{CX:CXT}{P:EX}{w:D0}{K:W.Frag}{mg:Str->Option De}{j:FG}{N ps:List Str}{qual:Str}{scope:Gm}{f:E2}{D:De}{A:Gj}{d:List Env}{s F:Gk}{H:Hp}{E:XK}{us:List De}{vs:List V}
  (S:aq N ps scope)(L:A.handled=Jq)(l:pO P w K mg j A d s H)(R:vs.length=ps.length)(r:Vals vs us)
  (x:InCallC s s.heap.objs.size (Hk (envOfC qual scope s.heap.objs.size f D).kindOf (ps.zip us) λ_=>Jq) (Hm (s.heap.objs.size+1) scope.names []) (Hl (envOfC qual scope s.heap.objs.size f D).kindOf (ps.zip us) λ_=>Jq) F) :
  Inv (pQ CX P w K mg j N qual scope f D A d s H E) [] (start N vs) H F:=by
 have O:ps.length<=N.length:=by have:=JB List.length S.pre;rw[ia]at this;lia
 obtain⟨C,Q,rfl,I⟩:=x.done;have o:∀b:E2,b ∉ (pQ CX P w K mg j N qual scope f D A d s H E).ex:=λb z=>Jx (show b∈([]:List E2)from z) (by simp)
 refine⟨⟨l.mod,S.kind,U,U,wN _,λy z c C g=>?_,λy m=>?_,λy c _ h=>?_,λ_=>L,Gj.frames_deeper l.frames,.inr ⟨U,U⟩,λb z=>Jx z (o b),l.bs,l.bsz,λb _ _=>o b,λb z=>Jx z (o b),l.funs,l.frf⟩,
  rfl,l.bare,Un.kept I,⟨_,x.toInCall.ns,λi y v C g T=>?_⟩,λy c h=>⟨_,x.cell y c h⟩,l.hok.fresh (wN _),λy c h=>?_,λp t=>Jx (show p∈([]:List (E2×Obj))from t) (by simp),l.hok.kept I,?_⟩
 .exact name_of_addr x.apart (mem_of_lookup C) (mem_of_lookup g)
 .have m:scope.names.lookup y=Jp .cell\/scope.names.lookup y=Jp .free:=m;rcases m with m|m
  .exact pR m
  .exact Jx U (S.nofree _ (mem_of_lookup m))
 .exact x3 (x.above y c (mem_of_lookup h))
 .have hi:i<vs.length:=by
   unfold start at g;by_cases hi:i<vs.length
   .exact hi
   .rw[js (by simpa using hi)]at g;rw[List.getElem?_replicate]at g;split at g <;> cases g
  have M:vs[i]?=Jp v:=by
   unfold start at g;rw[eX (by simpa using hi),eU]at g;cases e:vs[i]? with
   |none=>rw[e]at g;cases g
   |some a=>rw[e]at g;cases g;rfl
  obtain⟨u,G,J⟩:=r.get M;have t:ps[i]?=Jp y:=by
   rw[←S.pre,List.getElem?_take_of_lt (by lia)];exact C
  have B:ps.Nodup:=by rw[←S.pre];exact S.nd.sublist (List.take_sublist _ _)
  refine⟨u,J,?_⟩;rcases S.par y (Gd t)with k|k
  .exact .inl ⟨k,nI B t G k⟩
  .obtain⟨c,e⟩:=pR (n:=s.heap.objs.size+1) k;refine .inr ⟨.inl k,c,e,?_⟩;have q:=x.cell y c e;rw[nJ B t G (by show scope.names.lookup y≠_;rw[k];decide)]at q;exact q
 .exact l.hok.fresh (x3 (x.above y c (mem_of_lookup h)))
 .unfold start;show _=N.length;rw[dq,bo,oD];lia
theorem yx{CX:CXT}{P:EX}{w:D0}{K:W.Frag}{mg:Str->Option De}{base:FG}{k:Nat}{f:E2}{name qual:Str}{params:Hn}{body:List Gx}{scope:Gm}{D kV doc pm c F T:De}{G R:Option E2}
  {p:Array (Option De)}{N ps:List Str}{sp:Sp}(X:K.lookup f=Jp ⟨T,R,.func (W.fnOf name qual params body scope D kV doc pm G c F),p⟩)(B:W.codeIn K c qual=Jr)(S:aq N ps scope)
  (len:∀vs H Q E,sp vs H Q E->vs.length=ps.length)
  (gH:∀(A:Gj)(a:List Env)(s:Gk)(H:Hp)(vs:List V)(Q:VK)(E:XK),bU k (A.deeper (envOfC qual scope s.heap.objs.size f c))->sp vs H Q E ->
   ∃t,PSs (pQ CX P w K mg base N qual scope f c A a s H E) body t/\t { nx:=λ_ H'=>Q .non H',rt:=Q } (start N vs) H) :
  aK P w K mg base CX (k+1) f (W.fnOf name qual params body scope D kV doc pm G c F) ps sp:=by
 refine⟨len,λA a s H M O vs Q E m h hb r i=>?_⟩;have hl:=len _ _ _ _ i;have L:K.In s.heap:=h.mod.kin.keeps λb o e=>(h.bs b o e).1
 have z:s.heap.NoLimit:=h.mod.nolimit.keeps λb o e=>(h.bs b o e).1
 have Bj:∀y∈ps.zip O,scope.names.lookup y.1=Jp .local\/(scope.names.lookup y.1=Jp .cell/\((Hm (s.heap.objs.size+1) scope.names []).lookup y.1).isSome=Jr):=λ⟨n,v⟩ Y=>by
  rcases S.par n (tu Y).1 with q|q
  .exact .inl q
  .exact .inr ⟨q,W.cellsFrom_some _ _ _ (.inl q)⟩
 refine codeAny_call_function m.depth (L _ _ X) U S.co S.gen U (W.codeRec_of L B) (hb _ _ _ _ ?_);refine wpAny_newFunctionEnv_cells S.kind Bj λa0 he C x=>?_
 subst he;refine⟨z.keeps x.toInCall.keep,codeAny_func ?_⟩;obtain⟨t,Z,hq⟩:=gH A a s H vs Q E (m.deeper _) i;have I:Inv (pQ CX P w K mg base N qual scope f c A a s H E) [] (start N vs) H C:=uc S m.hd h hl r x;refine Gy (Z [] C (start N vs) H _ I hq) (λfl j g=>?_) λe j g=>g
 have fin:∀{d:St}{H':Hp}{v:V}{u:De},Inv (pQ CX P w K mg base N qual scope f c A a s H E) [] d H' j->RelV v u->Q v H'->CE a P w H s Q u j :=
  λ{d H' v u} J l q=>⟨v,H',J.os,J.bare,J.base,J.hok,l,q⟩
 cases fl with
 |ret u =>
  obtain⟨v,d,H',J,l,q⟩:=g;exact fin J l q
 |next =>
  obtain⟨d,H',J,q⟩:=g;exact fin (v:=V.non) (u:=De.none) J U q
 |brk =>
  obtain⟨_,_,_,q⟩:=g;exact False.elim q
 |cont =>
  obtain⟨_,_,_,q⟩:=g;exact False.elim q
section
variable{x:Str}{id T:String}{r:List V->Hp->VK->Prop}
def tCB(r:List V->Hp->VK->Prop)(t:TA):TE:=λσ H Q=>t σ H λa b=>r a b Q
theorem av(n:cY X (.builtin id) r)(m:Gl X x)(l:X.mg x=Jq)(j:Gi x=Jp (.builtin id))(o:PA X (e :: es) t)(k:x ≠ "__name__" := by decide) (b:(x == ("__debug__" : Str))=false:=by decide)
  (he:Gw (e :: es) X.env=(Js,eval e X.env) :: Gw es X.env:=by rfl)(a:(Gv pos (Gw es X.env)).any (·.1)=false:=by rfl):PE X (.Call (.Name x p) (e :: es) [] pos) (tCB r t):=by
 intro Ju s σ H Q I h;refine Dc (eG I m l j ?_ k b);exact PyProof.Rows.callWith_builtin1 (thn (o pos Ju s σ H _ I h) λd f ⟨c,u,q,g,i⟩=>n Ju f σ u c d Q q g i) he a
theorem b8(n:cY X (.type T) r)(m:Gl X x)(l:X.mg x=Jq)(j:Gi x=Jp (.type T))(o:PA X (e :: es) t)(k:x ≠ "__name__" := by decide) (b:(x == ("__debug__" : Str))=false:=by decide)
  (he:Gw (e :: es) X.env=(Js,eval e X.env) :: Gw es X.env:=by rfl)(a:(Gv pos (Gw es X.env)).any (·.1)=false:=by rfl):PE X (.Call (.Name x p) (e :: es) [] pos) (tCB r t):=by
 intro Ju s σ H Q I h;refine Dc (eG I m l j ?_ k b);exact PyProof.Rows.callWith_type1 (thn (o pos Ju s σ H _ I h) λd f ⟨c,u,q,g,i⟩=>n Ju f σ u c d Q q g i) he a
end
end L2
namespace HT
open PySem PyProof.Rows
section
open PySem.SeqAt
open PySem.AutoSeq1 (wpAny_loadPart')
open PySem.MeetsSeq PySem.MeetsSeq2 PySem.MeetsSeq3
end
section
variable{prog:EX}{w:D0}{A:Gj}{E:De->Gk->Prop}{s:Gk}
theorem cat_tup{t b:E2}{vs ws:List De}{Q:De->Gk->Prop}(r:IsTup s.heap t vs.toArray)(u:IsTup s.heap b ws.toArray)(o:vs≠[])
  (x:ws=[]->Q (.ref t) s)(v:ws≠[]->Q (.ref s.heap.objs.size) { s with heap:=s.heap.push { cls:=.type "tuple",data:=.seq (vs++ws).toArray } })
  (j:vs.length+ws.length<=FL):Gq (model prog w) A (G0 .Add (.ref t) (.ref b)) Q E s:=by
 obtain⟨⟨cls,dd,data,l⟩,i,q,n,p⟩:=id r;obtain⟨⟨y,g,k,c⟩,a,f,m,d⟩:=id u;simp only at q p f d;subst q p f d;have e:vs.toArray++ws.toArray=(vs++ws).toArray:=by simp
 by_cases h:ws=[]
 .exact Ho ⟨_,i,rfl⟩ ⟨_,a,rfl⟩ Hq Hr PySem.F.slot_tuple_add PySem.F.entry_tuple_add (PySem.F.args_tuple_add_2 _ _)
   (tuple_addW1 t b vs.toArray ws.toArray n m dd g l c (by simpa using o) (by simp[h])) ⟨i,a,x h⟩
 .refine Ho ⟨_,i,rfl⟩ ⟨_,a,rfl⟩ Hq Hr PySem.F.slot_tuple_add PySem.F.entry_tuple_add (PySem.F.args_tuple_add_2 _ _)
   (tuple_addW2 t b vs.toArray ws.toArray n m dd g l c (by simpa using o) (by simpa using h) (by rw[dt,dt];exact j)) ⟨i,a,?_⟩
  rw[e];exact v h
def sIx(n d:Nat):Option Int->Nat
 |none=>d
 |some v=>if v<0 then(v+(n:Int)).toNat else min v.toNat n
end
end HT
namespace L2
open PySem PySem.Spec PyProof.Rows
abbrev TO:=St->Hp->(Option Int->Hp->Prop)->Prop
def PO(X:Cx)(e:Option Gs)(t:TO):Prop :=
 ∀(a:List (E2×Obj))(s:Gk)(b:St)(H:Hp)(Q:Option Int->Hp->Prop),Inv X a b H s->t b H Q ->
  Gq (model X.prog X.w) X.A (evalPart e X.env) (λu d=>∃o c,Inv X a b c d/\IsPart u o/\Q o c) X.xe s
def xk:TO:=λ_ H Q=>Q Jq H
inductive vm  (Q:Option Int->Hp->Prop)(x:V)(H1:Hp):Prop
 |mk (i:_)(_:x=.int i)(_:Q (Jp i) H1):vm Q x H1
def Bm(t:TE):TO:=λa H Q=>t a H λx b=>vm Q x b
variable{X:Cx}
section
variable{e:Gs}{te:TE}{lo hi:Option Gs}{tl th:TO}{pos p2:Pos}
theorem d6:PO X Jq xk:=by
 intro a s b H Q I h;rw[Hs];exact CY ⟨Jq,H,I,.none,h⟩
theorem d7(h:PE X e te):PO X (Jp e) (Bm te):=by
 intro a s b H Q I f;rw[evalPart_some];refine thn (h a s b H _ I f) λu k ⟨x,j,g,c,d⟩=>?_
 obtain⟨i,rfl,q⟩:=d;obtain⟨t,rfl⟩:=c;exact⟨Jp i,j,g,.int i t,q⟩
def SlR(X:Cx)(r:V->Option Int->Option Int->Hp->VK->Prop):Prop :=
 ∀(a:List (E2×Obj))(s:Gk)(b:St)(H:Hp)(x:V)(v d c:De)(lo hi:Option Int)(e:E2)(Q:VK),Inv X a b H s->RelV x v->s.heap.IsSliceOf e d c .none->IsPart d lo->IsPart c hi->r x lo hi H Q ->
  ∃T f,Ht (.type T) "__getitem__" = pure (Jp (.builtin f))/\s.TypeIs v T/\Gq (model X.prog X.w) X.A (getItem v (.ref e)) (EP X a b Q) X.xe s
def tSl(r:V->Option Int->Option Int->Hp->VK->Prop)(te:TE)(tl th:TO):TE:=λa H Q=>te a H λx d=>tl a d λl c=>th a c λu b=>r x l u b Q
theorem df{r:V->Option Int->Option Int->Hp->VK->Prop}(B:SlR X r)(E:PE X e te)(C:PO X lo tl)(y:PO X hi th):PE X (.Subscript e (.Slice lo hi Jq p2) pos) (tSl r te tl th):=by
 intro a s d H Q I h;refine Subscript_ (thn (E a s d H _ I h) λv j ⟨x,N,L,k,o⟩=>?_);refine wpAny_Slice (thn (C a j d N _ L o) λg s2 ⟨l,M,K,t,n⟩=>thn (y a s2 d M _ K n) λf c ⟨u,i,J,p,m⟩=>?_);rw[Hs];refine CY ?_;have G:Inv X a d i { c with heap:=c.heap.push { cls:=.type "slice",data:=.fields #[g,f,.none] } }:=J.kept (t':=c.toks) λb O q=>FG.get?_push_of_some _ q
 obtain⟨T,P,F,z,D⟩:=B a { c with heap:=c.heap.push { cls:=.type "slice",data:=.fields #[g,f,.none] } } d i x v g f l u c.heap.objs.size Q G k (FG.IsSliceOf.new ..) t p m;show Gq (model X.prog X.w) X.A (subscriptTail e (.Slice lo hi Jq p2) v (.ref c.heap.objs.size)) (EP X a d Q) X.xe { c with heap:=c.heap.push { cls:=.type "slice",data:=.fields #[g,f,.none] } };exact tail_any (ops:=[.ref c.heap.objs.size,v]) z F D (by with_unfolding_all rfl)
def kP(xs:List V)(lo hi:Option Int):List V:=(xs.drop (HT.sIx xs.length 0 lo)).take (HT.sIx xs.length xs.length hi-HT.sIx xs.length 0 lo)
theorem pS(xs:List V)(lo hi:Option Int):(kP xs lo hi).length<=xs.length:=by
 unfold kP;rw[ia,kB];lia
inductive yy(K:W.Frag)(x:V)(y:V)(H:Hp)(Q:VK):Prop
 |mk (a b xs ys:_)(_:x=.ref a)(_:y=.ref b)(_:SqT K H a xs)(_:SqT K H b ys)(_:xs≠[])(_:xs.length+ys.length<=FL)(_:(ys=[]->Q (.ref a) H))(_:(ys≠[]->∀p,H p=Jq->Q (.ref p) (upd H p (.tup (xs++ys)))))
theorem Vals.nil_iff{xs:List V}{us:List De}(r:Vals xs us):us=[]↔xs=[]:=by
 cases r with
 |nil=>simp
 |cons _ _=>simp
theorem xl:OpR X (G0 .Add) (yy X.K):=by
 intro f s B H x y v u Q I k j h;obtain⟨a,b,i,g,rfl,rfl,t,r,p,e,m,l⟩:=h;cases k;cases j;obtain⟨A,d,n,_⟩:=I.tuple t;obtain⟨D,c,p2,_⟩:=I.tuple r;refine HT.cat_tup n p2 (λz=>p (d.nil_iff.mp z)) (λz=>⟨.ref a,H,I,U,m (c.nil_iff.mp z)⟩) (λz=>?_) (by rw[←d.length,←c.length];exact e);refine⟨.ref s.heap.objs.size,_,I.laid (t':=s.toks) (o:=.tup (i++g)) (λb C q=>FG.get?_push_of_some _ q) (wN _) ?_,U,l (λw=>z (c.nil_iff.mpr w)) _ (I.hok.fresh (wN _))⟩;exact⟨by rw[dq];exact e,_,d.append c,IsTup.new _ _⟩
end
def ixN(n:Nat)(i:Int):Option Nat:=if 0<=i then(if i<n then Jp i.toNat else Jq)else if -(n:Int)<=i then Jp (i+n).toNat else Jq
def atI{a:Type}(xs:List a)(i:Int):Option a:=(ixN xs.length i).bind λj=>xs[j]?
theorem sN{n:Nat}{i:Int}{j:Nat}(h:ixN n i=Jp j):seqIndex? i n=Jp j/\j<n/\-(n:Int)<=i/\i<n:=by
 unfold ixN at h;by_cases b:0<=i
 .rw[Jw b]at h;by_cases a:i<n
  .rw[Jw a]at h;have e:i.toNat=j:=Option.some.inj h;exact⟨by rw[Hu b a,e],by lia,by lia,a⟩
  .rw[Jv a]at h;cases h
 .rw[Jv b]at h;by_cases a : -(n:Int)<=i
  .rw[Jw a]at h;have e:(i+n).toNat=j:=Option.some.inj h;exact⟨by rw[seqIndex_neg (by lia) a,e],by lia,a,by lia⟩
  .rw[Jv a]at h;cases h
theorem oH{a:Type}{xs:List a}{i:Int}{v:a}(h:atI xs i=Jp v):∃j,seqIndex? i xs.length=Jp j/\xs[j]?=Jp v/\j<xs.length/\-(xs.length:Int)<=i/\i<xs.length:=by
 unfold atI at h;cases e:ixN xs.length i with
 |none=>rw[e]at h;cases h
 |some j =>
  rw[e]at h;obtain⟨f,d,c,b⟩:=sN e;exact⟨j,f,h,d,c,b⟩
theorem bN{a:Type}{xs:List a}{j:Nat}{v:a}(h:xs[j]?=Jp v):atI xs (j:Int)=Jp v:=by
 have b:j<xs.length:=(Gb.mp h).1;have e:ixN xs.length (j:Int)=Jp j:=by
  unfold ixN;rw[Jw (by lia),Jw (by lia)];simp
 unfold atI;rw[e];exact h
theorem gI{a:Type}(xs:List a)(v:a):atI (xs++[v]) (-1)=Jp v:=by
 have b:(xs++[v]).length=xs.length+1:=by simp
 have e:ixN (xs++[v]).length (-1)=Jp xs.length:=by
  unfold ixN;rw[b,Jv (by decide),Jw (by lia)]
  congr 1
  lia
 unfold atI;rw[e];show(xs++[v])[xs.length]?=Jp v;simp
def xm(b:Gs):Prop:=∀o i,subscripted b Js o i=operate [o,i] (getItem o i)
def IxR(X:Cx)(r:R2):Prop :=
 ∀(c a:Gs)(b:List (E2×Obj))(s:Gk)(d:St)(H:Hp)(x y:V)(v u:De)(Q:VK),Inv X b d H s->RelV x v->RelV y u->r x y H Q ->
  subscripted a Js v u=operate [v,u] (getItem v u)->Gq (model X.prog X.w) X.A (subscriptTail c a v u) (EP X b d Q) X.xe s
def MtR(X:Cx)(e:String)(r:V->List V->Hp->VK->Prop):Prop :=
 ∀(a:List (E2×Obj))(s:Gk)(b:St)(H:Hp)(x:V)(c:List V)(v:De)(d:List De)(Q:VK),Inv X a b H s->RelV x v->Vals c d->r x c H Q ->
  Gq (model X.prog X.w) X.A (call (.builtin e) (v :: d)) (EP X a b Q) X.xe s
section
variable{a b:Gs}{ta tb:TE}{pos:Pos}
theorem aI{r:R2}(i:IxR X r)(k:PE X a ta)(j:PE X b tb)(g:xm b):PE X (.Subscript a b pos) (tOp r ta tb):=by
 intro c s d H Q I h;exact Subscript_ (zw k j I h λv u s2 x y m l f e q=>i a b c s2 d m x y v u Q l f e q (g _ _))
inductive zG(K:W.Frag)(x:V)(y:V)(H:Hp)(Q:VK):Prop
 |mk (p xs i v:_)(_:x=.ref p)(_:y=.int i)(_:SqL K H p xs)(_:atI xs i=Jp v)(_:Q v H)
inductive zH(K:W.Frag)(x:V)(y:V)(H:Hp)(Q:VK):Prop
 |mk (p xs i v:_)(_:x=.ref p)(_:y=.int i)(_:SqT K H p xs)(_:atI xs i=Jp v)(_:Q v H)
inductive Bo  (x:V)(y:V)(H:Hp)(Q:VK):Prop
 |mk (z i c:_)(_:x=.str z)(_:y=.int i)(_:z.length<=FL)(_:atI z.cps.toList i=Jp c)(_:Q (.str ⟨#[c]⟩) H):Bo x y H Q
theorem aM:IxR X (zG X.K):=by
 intro g k a s l H x y v u Q I C B h m;obtain⟨p,M,i,z,rfl,rfl,D,F,q⟩:=h;cases C;obtain⟨t,rfl⟩:=B;obtain⟨f,r,c,N⟩:=I.list D;obtain⟨j,b,L,P,J,G⟩:=oH F;obtain⟨w,o,e⟩:=r.get L;have E:=r.length;have O:=ja;have fin:EP X a l Q w s:=⟨z,H,I,e,q⟩;by_cases n:0<=i
 .have d:i.toNat=j:=by
   rw[Hu n G]at b;exact Option.some.inj b
  exact item_listR c.isList n (by lia) (by rw[d];simpa using o) fin m
 .have d:(i+(f.toArray.size:Int)).toNat=j:=by
   rw[seqIndex_neg (by lia) J]at b;rw[dt,←E];exact Option.some.inj b
  exact subscriptTail_builtinR (x:=w) c.isList.typeIs Hv.lookup
   (wpAny_getItem_list_neg (Q:=λr A=>r=w/\EP X a l Q r A) c.isList (by lia) (by rw[dt] <;> lia) (by lia) (by rw[d];simpa using o) ⟨U,fin⟩) m
theorem bE:IxR X (zH X.K):=by
 intro c d a s e H x y v u Q I l k h m;obtain⟨p,F,i,z,rfl,rfl,n,A,q⟩:=h;cases l;obtain⟨t,rfl⟩:=k;obtain⟨E,r,f,G⟩:=I.tuple n;obtain⟨j,C,B,N,M,L⟩:=oH A;obtain⟨w,D,b⟩:=r.get B;have o:=r.length;have J:=ja;have fin:EP X a e Q w s:=⟨z,H,I,b,q⟩
 exact subscriptTail_builtinR (x:=w) f.typeIs slot_tuple_getitem.lookup
  (getItem_tuple (j:=j) (Q:=λr g=>r=w/\EP X a e Q r g) f (by lia) (by lia) (by rw[dt,←o];exact C) (by simpa using D) ⟨U,fin⟩) m
theorem oI:IxR X Bo:=by
 intro a b e s A H x y v u Q I g f h k;obtain⟨z,i,c,rfl,rfl,C,m,q⟩:=h;obtain⟨t,rfl⟩:=g;obtain⟨B,rfl⟩:=f;obtain⟨j,d,p,E,o,n⟩:=oH m;have l:z.cps.toList.length=z.length:=by simp[Str.length]
 rw[l]at d o n;have D:=ja;exact tail_any (typeIs_str s z t) slot_str_getitem.lookup (getItem_str (c:=c) (by
  have w:decide (i < -(2^63:Int))=false:=Jz (by lia);have r:decide (i ≥ 2^63)=false:=Jz (by lia);rw[w,r,Bool.or_false]) (by rw[d];simpa using p) ⟨.str ⟨#[c]⟩,H,I.tok _,⟨_,U⟩,q⟩) k
theorem rn(a:List De)(n j:Nat)(u:De):Obj.mapSeq (·.setIfInBounds j u) { cls:=.type "list",data:=.seq a.toArray n }={ cls:=.type "list",data:=.seq (a.set j u).toArray n }:=by
 simp[Obj.mapSeq]
theorem Inv.lst{b:List (E2×Obj)}{c:St}{H:Hp}{s:Gk}{p:E2}{xs:List V}(I:Inv X b c H s)(h:H p=Jp (.lst xs)) :
  ∃(a:List De)(n:Nat),Vals xs a/\s.heap.get? p=Jp { cls:=.type "list",data:=.seq a.toArray n }/\xs.length<=FL:=by
 obtain⟨z,a,n,r,e⟩:=I.hok p _ h;exact⟨a,n,r,e,z⟩
theorem Inv.lstUpd{a:List (E2×Obj)}{g:St}{H:Hp}{s:Gk}{p:E2}{xs ys:List V}{c its':List De}{n d:Nat}{f:Obj->Obj}(I:Inv X a g H s)(h:H p=Jp (.lst xs))
  (i:s.heap.get? p=Jp { cls:=.type "list",data:=.seq c.toArray n }) (hf:f { cls:=.type "list",data:=.seq c.toArray n }={ cls:=.type "list",data:=.seq its'.toArray d }) (r:Vals ys its')(hz:ys.length<=FL)(t:Nat) :
  Inv X a g (upd H p (.lst ys)) { s with heap:=s.heap.update p f,toks:=t }:=by
 have e:(s.heap.update p f).get? p=Jp { cls:=.type "list",data:=.seq its'.toArray d }:=by
  rw[FG.get?_update_self f i (by rw[hf] <;> rfl),hf]
 refine I.write (x:=p) (e:=p) (by rw[h];trivial) (.inl U) (λb u j q=>(FG.get?_update_other _ _ (Ne.symm j)).trans q) ⟨_,e⟩ ?_;exact⟨hz,its',d,r,e⟩
inductive yz  (o:V)(i:V)(v:V)(H:Hp)(Q:(Hp->Prop)):Prop
 |mk (p xs k j:_)(_:o=.ref p)(_:i=.int k)(_:H p=Jp (.lst xs))(_:ixN xs.length k=Jp j)(_:Q (upd H p (.lst (xs.set j v)))):yz o i v H Q
theorem set_list:A7 X yz:=by
 intro b s y H o i v F G u Q I B C A h;obtain⟨p,z,k,j,rfl,rfl,g,E,q⟩:=h;cases B;obtain⟨t,rfl⟩:=C;obtain⟨a,n,r,d,D⟩:=I.lst g;obtain⟨c,K,m,l⟩:=sN E;have e:=r.length;have J:=ja;have x:Inv X b y (upd H p (.lst (z.set j v))) { s with heap:=s.heap.update p (Obj.mapSeq (·.setIfInBounds j u)) } :=
  I.lstUpd g d (rn a n j u) (r.set A j) (by rw[vl];exact D) s.toks
 by_cases w:0<=k
 .have f:k.toNat=j:=by
   rw[Hu w l]at c;exact Option.some.inj c
  exact W.ki_setAt d w (by lia) (by rw[dt,←e];exact l) (by rw[f];exact⟨_,x,q⟩)
 .have f:(k+(a.toArray.size:Int)).toNat=j:=by
   rw[seqIndex_neg (by lia) m]at c;rw[dt,←e];exact Option.some.inj c
  exact W.ki_setBack d (by lia) (by rw[dt,←e];exact m) (by lia) (by rw[f];exact⟨_,x,q⟩)
theorem oJ(lo hi:Option Int)(n:Nat):(Hw lo hi Jq n).1=((HT.sIx n 0 lo:Nat):Int)/\(Hw lo hi Jq n).2.1=((HT.sIx n n hi:Nat):Int)/\(Hw lo hi Jq n).2.2=1:=by
 refine⟨?_,?_,U⟩
 .cases lo with
  |none=>simp[Hw,HT.sIx]
  |some i =>
   simp only[Hw,HT.sIx,CA,show(1:Int)>0 by decide,if_true];by_cases h:i<0
   .simp only[h,if_true] <;> lia
   .simp only[h,if_false] <;> lia
 .cases hi with
  |none=>simp[Hw,HT.sIx]
  |some i =>
   simp only[Hw,HT.sIx,CA,show(1:Int)>0 by decide,if_true];by_cases h:i<0
   .simp only[h,if_true] <;> lia
   .simp only[h,if_false] <;> lia
theorem mT(a:List De)(lo hi:Option Int):slicePick a.toArray lo hi Jq=((a.drop (HT.sIx a.length 0 lo)).take (HT.sIx a.length a.length hi-HT.sIx a.length 0 lo)).toArray:=by
 obtain⟨d,c,b⟩:=oJ lo hi a.toArray.size;unfold slicePick;rw[d,c,b];simp only[sliceRange_one,pick_run,dt] <;> rfl
inductive zI(K:W.Frag)(x:V)(lo:Option Int)(hi:Option Int)(H:Hp)(Q:VK):Prop
 |mk (a xs:_)(_:x=.ref a)(_:SqL K H a xs)(_:∀p,H p=Jq->Q (.ref p) (upd H p (.lst (kP xs lo hi))))
theorem d8:SlR X (zI X.K):=by
 intro f s p H x v u t lo hi w Q I g m j i h;obtain⟨a,c,rfl,l,q⟩:=h;cases g;obtain⟨n,r,e,k⟩:=I.list l;have d:=r.length;refine⟨"list",_,Hv.lookup,e.isList.typeIs,?_⟩;refine wpAny_getItem_list_slice e.isList m j i .none (by simp) ?_ (by rw[dt] <;> lia);rw[mT,←d];refine⟨.ref s.heap.objs.size,_,I.laid (t':=s.toks) (o:=.lst (kP c lo hi)) (λb y q=>FG.get?_push_of_some _ q) (wN _) ?_,U,q _ (I.hok.fresh (wN _))⟩;exact⟨wX (pS c lo hi) k,_,0,(r.drop (HT.sIx c.length 0 lo)).take (HT.sIx c.length c.length hi-HT.sIx c.length 0 lo),FG.get?_push_size _ U⟩
def dZ:V->Bool
 | .non=>Jr
 | .bl _=>Jr
 | .int _=>Jr
 | .str _=>Jr
 |_=>Js
def eqV:V->V->Bool
 | .non,.non=>Jr
 | .bl a,.bl b=>a == b
 | .bl a,.int b=>(if a then 1 else 0) == b
 | .int a,.bl b=>a == (if b then 1 else 0)
 | .int a,.int b=>a == b
 | .str a,.str b=>a == b
 |_,_=>Js
theorem rq{A:Gj}{s:Gk}{y x:V}{u v:De}(e:RelV y u)(c:RelV x v)(g:dZ y=Jr)(f:dZ x=Jr):SeqAt.EqAt A s u v (eqV y x):=by
 cases y with
 |non =>
  cases e;cases x with
  |non=>cases c;exact SeqAt.EqAt.same _
  |bl b=>cases c;exact SeqAt.EqAt.none_bool b
  |int b=>obtain⟨t,rfl⟩:=c;exact SeqAt.EqAt.none_int b t
  |str b=>obtain⟨t,rfl⟩:=c;exact SeqAt.EqAt.none_str b t
  |_=>exact Jx (show Js=Jr from f) Bool.false_ne_true
 |bl a =>
  cases e;cases x with
  |non=>cases c;exact SeqAt.EqAt.bool_none a
  |bl b=>cases c;exact SeqAt.EqAt.bool_bool a b
  |int b=>obtain⟨t,rfl⟩:=c;exact SeqAt.EqAt.bool_int a b t
  |str b=>obtain⟨t,rfl⟩:=c;exact SeqAt.EqAt.bool_str a b t
  |_=>exact Jx (show Js=Jr from f) Bool.false_ne_true
 |int a =>
  obtain⟨d,rfl⟩:=e;cases x with
  |non=>cases c;exact SeqAt.EqAt.int_none a d
  |bl b=>cases c;exact SeqAt.EqAt.int_bool a d b
  |int b=>obtain⟨t,rfl⟩:=c;exact SeqAt.EqAt.int_int a d b t
  |str b=>obtain⟨t,rfl⟩:=c;exact SeqAt.EqAt.int_str a d b t
  |_=>exact Jx (show Js=Jr from f) Bool.false_ne_true
 |str a =>
  obtain⟨d,rfl⟩:=e;cases x with
  |non=>cases c;exact SeqAt.EqAt.str_none a d
  |bl b=>cases c;exact SeqAt.EqAt.str_bool a d b
  |int b=>obtain⟨t,rfl⟩:=c;exact SeqAt.EqAt.str_int a d b t
  |str b=>obtain⟨t,rfl⟩:=c;exact SeqAt.EqAt.str_str a d b t
  |_=>exact Jx (show Js=Jr from f) Bool.false_ne_true
 |_=>exact Jx (show Js=Jr from g) Bool.false_ne_true
theorem aD:cY X (.builtin "len") (λxs H Q=>∃p ys,xs=[.ref p]/\(SqL X.K H p ys\/SqT X.K H p ys)/\Q (.int ys.length) H):=by
 intro f s j H xs k Q I r h;obtain⟨p,ys,rfl,b,q⟩:=h;obtain⟨u,rfl,g⟩:=vals1 r;cases g;have l:=ja;rcases b with b|b
 .obtain⟨e,c,d,i⟩:=I.list b;have a:=c.length;exact Calls.call_len_list d.isList (by simp only[dt] <;> lia) ⟨.int ys.length,H,I.tok _,⟨s.toks+1,by rw[dt,a]⟩,q⟩
 .obtain⟨e,c,d,i⟩:=I.tuple b;have a:=c.length;exact len_tuple d (by simp only[dt] <;> lia) ⟨.int ys.length,H,I.tok _,⟨s.toks+1,by rw[dt,a]⟩,q⟩
theorem oK:cY X (.builtin "len") (λxs H Q=>∃z,xs=[.str z]/\z.length<=FL/\Q (.int z.length) H):=by
 intro a s b H xs c Q I r h;obtain⟨z,rfl,d,q⟩:=h;obtain⟨u,rfl,t,rfl⟩:=vals1 r;have e:=ja;exact len_str (by lia) ⟨.int z.length,H,I.tok _,⟨_,U⟩,q⟩
theorem dg:cY X (.type "list") (λxs H Q=>∃p ys,xs=[.ref p]/\(SqL X.K H p ys\/SqT X.K H p ys)/\∀l,H l=Jq->Q (.ref l) (upd H l (.lst ys))):=by
 intro k s A H xs C Q I r h;obtain⟨p,ys,rfl,j,q⟩:=h;obtain⟨u,rfl,B⟩:=vals1 r;cases B
 have fin:∀(a:List De),Vals ys a->ys.length<=FL->∀(c:FG)(f:Nat),(∀b z,s.heap.get? b=Jp z->c.get? b=Jp z) ->
   c.get? s.heap.objs.size=Jp { cls:=.type "list",dict:=Jq,data:=.seq a.toArray f,slots:=#[] }->EP X k A Q (.ref s.heap.objs.size) { s with heap:=c }:=λa d i c f g e =>
  ⟨.ref s.heap.objs.size,_,I.laid (t':=s.toks) g (wN _) (show cG X.prog X.w _ c _ (.lst ys) from⟨i,a,f,d,e⟩),U,q _ (I.hok.fresh (wN _))⟩
 rcases j with j|j
 .obtain⟨a,d,t,i⟩:=I.list j;have m:=d.length;obtain⟨o,v,y,n,x⟩:=t.isList;exact Hx p (.inl U) v y x (λc f g e=>fin a d i c f g e) (by simp only[dt] <;> lia)
 .obtain⟨a,d,t,i⟩:=I.tuple j;have m:=d.length;obtain⟨o,v,y,n,x⟩:=t;exact Hx p (.inr U) v y x (λc f g e=>fin a d i c f g e) (by simp only[dt] <;> lia)
theorem mU:cY X (.type "tuple") (λxs H Q=>∃p ys,xs=[.ref p]/\((SqL X.K H p ys/\∀l,H l=Jq->Q (.ref l) (upd H l (.tup ys)))\/(SqT X.K H p ys/\Q (.ref p) H))):=by
 intro a s j H xs y Q I r h;obtain⟨p,ys,rfl,h⟩:=h;obtain⟨u,rfl,t⟩:=vals1 r;cases t;rcases h with⟨i,q⟩|⟨i,q⟩
 .obtain⟨c,f,g,k⟩:=I.list i;have n:=f.length;refine call_tuple_list g.isList (λd v=>?_) (by simp only[dt] <;> lia);have m:Inv X a j H { s with heap:=d }:=I.kept (t':=s.toks) v;have x:Inv X a j (upd H d.objs.size (.tup ys)) { s with heap:=d.push { cls:=.type "tuple",data:=.seq c.toArray } } :=
   m.laid (t':=s.toks) (λb o e=>FG.get?_push_of_some _ e) (wN _) (show cG X.prog X.w _ _ _ (.tup ys) from⟨k,c,f,IsTup.new _ _⟩)
  exact⟨.ref d.objs.size,_,x,U,q _ (m.hok.fresh (wN _))⟩
 .obtain⟨c,f,g,k⟩:=I.tuple i;exact call_tuple_same g ⟨.ref p,H,I,U,q⟩
def tyV(K:W.Frag)(T:String)(x:V)(H:Hp):Prop:=match x with
 | .str _=>T = "str"
 | .int _=>T = "int"
 | .ref p=>(T = "list" /\ ∃b,SqL K H p b)\/(T = "tuple" /\ ∃o,K.lookup p=Jp o/\o.cls=.type "tuple" /\ o.dict=Jq) \/
   (T = "dict" /\ ((∃a,H p=Jp (.dK a))\/∃a,H p=Jp (.dT a)))\/(T = "set" /\ ∃S n,H p=Jp (.set S n))
 |_=>False
theorem zJ{f:List (E2×Obj)}{m:St}{H:Hp}{s:Gk}{T:String}{x:V}{v:De}(I:Inv X f m H s)(r:RelV x v)(ty:tyV X.K T x H) :
  s.TypeIs v T/\∀a,v=.ref a->∃l,s.heap.get? a=Jp l/\l.dict=none:=by
 cases x with
 |str z =>
  obtain⟨t,rfl⟩:=r;cases (show T = "str" from ty);exact⟨typeIs_str s z t,λ_ e=>nomatch e⟩
 |int i =>
  obtain⟨t,rfl⟩:=r;cases (show T = "int" from ty);exact⟨typeIs_int s i t,λ_ e=>nomatch e⟩
 |ref p =>
  cases r;rcases ty with⟨rfl,y,q⟩|⟨rfl,o,b,u,g⟩|⟨rfl,b⟩|⟨rfl,S,n,b⟩
  .obtain⟨w,_,k,_⟩:=I.list q;refine⟨k.isList.typeIs,λa e=>?_⟩;cases e;obtain⟨o,n,e,c,g,_⟩:=k;exact⟨o,e,g⟩
  .refine⟨⟨o,I.kIn p o b,u⟩,λa e=>?_⟩;cases e;exact⟨o,I.kIn _ o b,g⟩
  .have z:∃o,s.heap.get? p=Jp o/\o.ExactDict:=by
    rcases b with⟨j,b⟩|⟨j,b⟩
    .obtain⟨_,_,_,_,o,_,_,e,d,_⟩:=I.hok p _ b;exact⟨o,e,d⟩
    .obtain⟨_,_,_,_,o,_,_,e,d,_⟩:=I.hok p _ b;exact⟨o,e,d⟩
   obtain⟨o,e,d⟩:=z;refine⟨⟨o,e,d.1⟩,λa h=>?_⟩;cases h;exact⟨o,e,d.2.1⟩
  .obtain⟨o,_,_,_,e,d,_⟩:=I.hok p _ b;refine⟨⟨o,e,d.1⟩,λa h=>?_⟩;cases h;exact⟨o,e,d.2.1⟩
 |_=>exact False.elim ty
def tBM(K:W.Frag)(T:String)(r:V->List V->Hp->VK->Prop)(to:TE)(t:TA):TE:=λa H Q=>to a H λx b=>tyV K T x b/\t a b λc d=>r x c d Q
variable{o e:Gs}{es:List Gs}{to:TE}{t:TA}{name:Str}{apos rz:Pos}{T id:String}{r:V->List V->Hp->VK->Prop}
theorem fK(u:PlainAttrs T)(b:Slot T name id)(d:typeOf (.builtin id)=pure (.type "method_descriptor")) (hm:MtR X id r)(y:PE X o to)(z:PA X (e :: es) t)
  (J:Ha o name X.env (eval o X.env)=eval o X.env:=by rfl)
  (F:((Gv rz (Gw (e :: es) X.env)).all (λx=>!x.1) && (Hy rz (Hz [] X.env)).all (λx=>x.1.isSome)
   && decide ((e :: es).length+([]:List Keyword).length+(if ([]:List Keyword).isEmpty then 0 else 1)<30))=true:=by rfl)
  (G:(apos.endLine == rz.line)=true:=by rfl)(w:Gw (e :: es) X.env=(Js,eval e X.env) :: Gw es X.env:=by rfl)(j:(Gv rz (Gw es X.env)).any (·.1)=false:=by rfl) :
  PE X (.Call (.Attribute o name apos) (e :: es) [] rz) (tBM X.K T r to t):=by
 intro a s c H Q I h;refine wpAny_Call_method_late J F G U (thn (y a s c H _ I h) λv m ⟨x,E,i,f,ty,q⟩=>?_);obtain⟨B,A⟩:=zJ i f ty;refine⟨T,id,u,b,d,B,A,?_⟩;have g:=z rz a m c E _ i q;rw[w]at g⊢;refine Calls.callWith_builtin (by show(Js || (Gv rz (Gw es X.env)).any (·.1))=Js;rw[j] <;> rfl) (Calls.evalArgs_plain ?_);exact thn g λl s2 ⟨k,D,C,n,p⟩=>hm a s2 c D x k v l Q C f n p
end
def MtM(X:Cx)(e:String)(r:V->List V->Hp->VK->Prop):Prop :=
 ∀(a:List (E2×Obj))(s:Gk)(b:St)(H:Hp)(x:V)(c:List V)(v:De)(d:List De)(Q:VK),Inv X a b H s->RelV x v->Vals c d->r x c H Q ->
  Gq (model X.prog X.w) X.A (call (.builtin e) (v :: d)) (EP X a b Q) X.xe s
theorem Vals.one:∀{x:V}{us:List De},Vals [x] us->∃u,us=[u]/\RelV x u
 |_,_,.cons r .nil=>⟨_,U,r⟩
theorem Vals.two:∀{x y:V}{us:List De},Vals [x,y] us->∃u v,us=[u,v]/\RelV x u/\RelV y v
 |_,_,_,.cons r (.cons q .nil)=>⟨_,_,U,r,q⟩
section
variable{Ju:List (E2×Obj)}{σ:St}{H:Hp}{s:Gk}{l b:E2}{xs ys zs:List V}
theorem Inv.lset{a its':List De}{n:Nat}{f:Array De->Array De}{t':Nat}(I:Inv X Ju σ H s)(g:H l=Jp (.lst xs))
  (e:s.heap.get? l=Jp { cls:=.type "list",data:=.seq a.toArray n }) (hf:f a.toArray=its'.toArray)(b:Vals ys its')(hz:ys.length<=FL) :
  Inv X Ju σ (upd H l (.lst ys)) { s with heap:=s.heap.update l (Obj.mapSeq f),toks:=t' }:=by
 have q:=PySem.IsL.update e f;rw[hf]at q;refine I.write (x:=l) (e:=l) (by rw[g];exact trivial) (.inl U) (λh u d c=>(FG.get?_update_other s.heap (Obj.mapSeq f) (Ne.symm d)).trans c) ⟨_,q⟩ ?_;exact⟨hz,its',_,b,q⟩
theorem Inv.lnew{a:List De}{t':Nat}(I:Inv X Ju σ H s)(b:Vals ys a)(hz:ys.length<=FL) :
  Inv X Ju σ (upd H s.heap.objs.size (.lst ys)) { s with heap:=s.heap.push { cls:=.type "list",data:=.seq a.toArray },toks:=t' } :=
 I.laid (λ_ _ q=>FG.get?_push_of_some _ q) (wN _) ⟨hz,a,0,b,FG.get?_push_size _ U⟩
theorem Inv.fresh(I:Inv X Ju σ H s):H s.heap.objs.size=none:=I.hok.fresh (wN _)
theorem Inv.lstM(I:Inv X Ju σ H s)(b:H l=Jp (.lst xs)):xs.length<=FL/\∃(a:List De)(n:Nat),Vals xs a/\xs.length=a.length/\s.heap.get? l=Jp { cls:=.type "list",data:=.seq a.toArray n }:=by
 obtain⟨z,a,n,r,e⟩:=I.hok l _ b;exact⟨z,a,n,r,r.length,e⟩
theorem vn{n:Nat}(h:n<=FL):GX.List.listTooLong n=false:=by
 unfold GX.List.listTooLong;exact Jz (by lia)
end
inductive sO  (x:V)(vs:List V)(H:Hp)(Q:VK):Prop
 |mk (l xs y:_)(_:x=.ref l)(_:vs=[y])(_:H l=Jp (.lst xs))(_:xs.length<FL)(_:Q .non (upd H l (.lst (xs++[y])))):sO x vs H Q
theorem bK:MtM X "list.append" sO:=by
 intro c s i H x k v m Q I d f h;obtain⟨l,j,y,rfl,rfl,b,o,q⟩:=h;cases d;obtain⟨u,rfl,g⟩:=f.one;obtain⟨z,a,n,r,p,e⟩:=I.lstM b;refine HA F.slot_list_append ⟨_,e,U⟩ F.entry_list_append (F.args_list_append_2 _ _) (PySem.list_append l a.toArray n u (by rw[dt];lia)) ⟨e,?_⟩;refine⟨.non,_,I.lset (its':=a++[u]) b e (by simp) (r.append (.cons g .nil)) ?_,U,q⟩;rw[dq,hQ];lia
inductive sP  (x:V)(vs:List V)(H:Hp)(Q:VK):Prop
 |mk (l b xs zs:_)(_:x=.ref l)(_:vs=[.ref b])(_:H l=Jp (.lst xs))(_:H b=Jp (.lst zs))(_:xs.length+zs.length<=FL)(_:Q .non (upd H l (.lst (xs++zs)))):sP x vs H Q
theorem ud:MtM X "list.extend" sP:=by
 intro g s A H x E v G Q I i j h;obtain⟨l,b,D,B,rfl,rfl,f,p,J,q⟩:=h;cases i;obtain⟨u,rfl,k⟩:=j.one;cases k;obtain⟨z,a,n,r,K,e⟩:=I.lstM f;obtain⟨C,c,o,m,y,t⟩:=I.lstM p;have d:a.toArray.size+c.toArray.size<=FL:=by rw[dt,dt];lia
 have w:¬ (!a.toArray.isEmpty && GX.List.listTooLong (a.toArray.size+c.toArray.size))=true:=by
  rw[vn d,Bool.and_false];exact Bool.false_ne_true
 refine HA F.slot_list_extend ⟨_,e,U⟩ F.entry_list_extend (F.args_list_extend_2 _ _)
  (AutoSeq1.list_extend_list_list_0 l a.toArray n b c.toArray o w (by rw[dt];lia) (by lia)) ⟨e,t,?_⟩
 refine⟨.non,_,I.lset (its':=a++c) f e (by simp) (r.append m) ?_,U,q⟩;rw[dq];lia
inductive Bs  (x:V)(y:V)(H:Hp)(Q:VK):Prop
 |mk (l b xs zs:_)(_:x=.ref l)(_:y=.ref b)(_:H l=Jp (.lst xs))(_:H b=Jp (.lst zs))(_:xs.length+zs.length<=FL)(_:∀p,H p=Jq->Q (.ref p) (upd H p (.lst (xs++zs)))):Bs x y H Q
theorem ft:OpR X (G0 .Add) Bs:=by
 intro d s t H x y v u Q I g f h;obtain⟨l,b,B,w,rfl,rfl,j,k,D,q⟩:=h;cases g;cases f;obtain⟨z,a,n,r,E,e⟩:=I.lstM j;obtain⟨A,c,C,i,p,o⟩:=I.lstM k;refine PySem.P.add_list e o ?_ (by rw[dt,dt];lia);have m:a.toArray++c.toArray=(a++c).toArray:=by simp
 rw[m];exact⟨.ref _,_,I.lnew (t':=s.toks) (r.append i) (by rw[dq];lia),U,q _ I.fresh⟩
section
variable{prog:EX}{w:D0}{A:Gj}{E:De->Gk->Prop}{s:Gk}
end
end L2
namespace Att
open PySem PySem.W PySem.Calls PyProof.Rows
theorem kQ{P:HB}{h:FG}:∀(c:List Int)(vs:List De),WellAll P h vs (c.map WData.int)->IntsAre vs c:=by
 intro c;induction c with
 |nil =>
  intro vs w;rw[vr]at w;cases w;exact .nil
 |cons n c d =>
  intro vs w;rw[mH]at w;cases w with
  |cons a b =>
   cases a;exact .cons _ _ (d _ b)
theorem ue{l:OpenLaw}{n:Nat}(v:l.most=Jp n){P:HB}{h:FG}{args:List WData}{c:List De}
  (k:l.row.toRowW.claim.pre args=Jr)(i:WellAll P h c args) :
  ∃a vs b,c=[De.ref a]/\args=[WData.list (b.map WData.int)]/\h.get? a=Jp { cls:=.type "list",data:=.seq vs.toArray }/\IntsAre vs b/\b.length<=n:=by
 have j:WShape.hasAll [] args [.list .int]=true:=(pre_splitW k).1;have m:l.pre.holds [] { args:=args }=true:=(pre_splitW k).2;obtain⟨d,r,rfl,y,x⟩:=hasAllW_cons j;obtain rfl:=hasAllW_nil x;obtain⟨z,rfl,w⟩:=hasW_list y;obtain⟨b,rfl⟩:=items_int w;have e:b.length<=n:=by
  unfold OpenLaw.pre at m;have g:(WTm.not (.lt (.lit (.int (n:Int))) (.len (.arg 0)))).holds [] { args:=[.list (b.map .int)] }=true:=by
   have g:=(holds_andW m).1;rw[v]at g;exact g
  have f:=condW_of g (w_not (w_lt w_lit (w_len_list (w_arg rfl))));rw[bo]at f;refine Nat.le_of_not_lt λq=>?_
  have s:(n:Int)<((b.length:Nat):Int):=by lia
  first
   |(rw[Jy s]at f;exact Jx f (by decide))
   |(simp at f;lia)
 cases i with
 |cons p o =>
  cases o;cases p with
  |list u t=>exact⟨_,_,b,rfl,rfl,u,kQ b _ t,e⟩
theorem uf(l:OpenLaw)(args:List WData):l.row.toRowW.claim.post args (.bool Jr) args=true :=
 postW_of (r:=l.row.toRowW) (X:=(Jr == Jr))
  (show WShape.has [] (.bool Jr) .bool=Jr by first|rfl|decide|simp[WShape.has,WShape.arms,WShape.armsAll])
  (show(WTm.eq .res (.lit (.bool Jr))).value [] { args:=args,res:=Jp (.bool Jr),after:=args }=Jp (.bool (Jr == Jr))from w_eq_bool (w_res rfl) w_lit) rfl
theorem attach_call{l:OpenLaw}{n:Nat}{q:EX}{e:List Str}{XP:(Str->Option De)->FG->Prop}{x:D0->FG->Prop}{d:DefRec}
  (E:l.most=Jp n)(t:d.params.defaults=[])
  (call:∀(w:D0)(c b:Gk)(mg m:Str->Option De)(h:E2)(o:Obj)(pm k doc:De)(a:E2)(vs:List De)(j:List Int),
   Ground q e [] XP w c mg m b.heap->x w b.heap ->
   b.heap.get? h=Jp o->o.data=.func (docDef d.name d.params d.body d.scope pm k doc)->b.heap.CodeRec k d.name->mg d.name=Jp (.ref h) ->
   b.heap.get? a=Jp { cls:=.type "list",data:=.seq vs.toArray }->IntsAre vs j->j.length<=n->b.gens = #[] ->
   G9 (model l.prog w) HC (.call (.ref h) ⟨[.ref a],[]⟩) (λr s'=>r=.ok (.ret (.bool Jr))/\OldK b.heap s'.heap/\s'.os=b.os/\AllBare s'.gens) b) :
  WalkO q e XP x l.row.toRowW d [] (λf vs=>PySem.call f vs):=by
 intro w c b mg m G Y h o pm k doc M kV D I u v s H z y P B Q N p O;obtain rfl:M=.none:=Dflts.none v t;obtain rfl:kV=.none:=Dflts.noKw v;obtain⟨a,vs,j,rfl,rfl,A,g,i⟩:=ue E B p;refine enter_call (Hi (call w c b mg m h o pm k doc a vs j G Y D (fd_plain I) u s A g i H) λr s' C=>?_);obtain⟨rfl,L,K,J⟩:=C;exact⟨.inl ⟨.bool Jr,.bool Jr,[],rfl,λ_=>rfl,.bool Jr,uf l _,λ_=>⟨List.Pairwise.nil,λ_ F=>(nomatch F)⟩⟩,L,K,J⟩
section
variable{prog:EX}{w:D0}{A:Gj}{E:De->Gk->Prop}{s:Gk}{K:Frag}
end
end Att
namespace L2
open PySem PySem.Spec PyProof.Rows
theorem nK:∀{vs:List De}{a:List Int},IntsAre vs a->Vals (a.map V.int) vs
 |_,_,.nil=>.nil
 |_,_,.cons n t h=>.cons ⟨t,U⟩ (nK h)
def FN(H:Hp):Prop:=∀b,H b=Jq\/∃o a,H b=Jp (.frz o (.lst a))
def inClass(s:Gx)(j:Nat):Gx:=match s with
 | .ClassDef _ _ _ body _ _ _ _ _ _ _=>body.getD j (.Pass ⟨0,0,0,0⟩)
 |_=>.Pass ⟨0,0,0,0⟩
def fZ(s:Gx):Hn:=match s with
 | .FunctionDef _ a _ _ _ _ _ _ _ _=>a
 |_=>{ posonlyargs:=[],args:=[],vararg:=Jq,kwonlyargs:=[],kw_defaults:=[],kwarg:=Jq,defaults:=[] }
def dF(s:Gx):List Gx:=match s with
 | .FunctionDef _ _ b _ _ _ _ _ _ _=>b
 |_=>[]
def aj(s:Gx):Gm:=match s with
 | .FunctionDef _ _ _ _ _ _ sc _ _ _=>sc
 |_=>{ kind:=.function,names:=[],isGenerator:=Js,isCoroutine:=Js }
abbrev CX0:CXT:=λ_ _ _ _ _ _=>False
abbrev E0:XK:=λ_ _ _=>False
theorem bV{X:Cx}:Passes CX0 X E0:=λ_ _ _ _ _ _ _ h=>h.elim
structure Fun(K:W.Frag)(x qual:Str)(st:Gx)(f:E2)(fd:He):Prop where
 ex:∃(oc:De)(od:Option E2)(kV doc pm:De)(an:Option E2)(cdv ct:De)(osl:Array (Option De)),
  fd=W.fnOf x qual (fZ st) (dF st) (aj st) .none kV doc pm an cdv ct/\K.lookup f=Jp ⟨oc,od,.func fd,osl⟩/\W.codeIn K cdv qual=Jr
 kp:W.keepIn K (.ref f)=Jr
section
variable{P:EX}{w:D0}{K:W.Frag}{mg:Str->Option De}{base:FG}
theorem Fun.ok{x qual:Str}{c:Gx}{f:E2}{g:He}{N ps:List Str}{k:Nat}{sp:Sp}(F:Fun K x qual c f g)(S:aq N ps (aj c))(len:∀vs H Q E,sp vs H Q E->vs.length=ps.length)
  (l:∀(b:De)(A:Gj)(a:List Env)(s:Gk)(H:Hp)(vs:List V)(Q:VK)(E:XK),bU k (A.deeper (envOfC qual (aj c) s.heap.objs.size f b))->sp vs H Q E ->
   ∃t,PSs (pQ CX0 P w K mg base N qual (aj c) f b A a s H E).nox (dF c) t/\t { nx:=λ_ H'=>Q .non H',rt:=Q } (start N vs) H):aK P w K mg base CX0 (k+1) f g ps sp:=by
 obtain⟨r,p,kV,n,o,v,b,u,m,rfl,i,e⟩:=F.ex;refine yx i e S len λA a s H vs Q E j d=>?_
 obtain⟨t,h,q⟩:=l b A a s H vs Q E j d;exact⟨t,h.nox,q⟩
theorem Fun.binds{x qual:Str}{b:Gx}{f:E2}{e:He}{ps:List Str}(F:Fun K x qual b f e)
  (h:∀(kV doc pm:De)(d:Option E2)(a c:De)(us:List De),us.length=ps.length->Hg (W.fnOf x qual (fZ b) (dF b) (aj b) .none kV doc pm d a c) ⟨us,[]⟩=pure (ps.zip us)):Binds K e ps []:=by
 obtain⟨k,j,kV,doc,pm,d,a,c,g,rfl,l,i⟩:=F.ex;exact .all (h kV doc pm d a c)
theorem fun_mk{x qual:Str}{b:Gx}{f:E2}{i:De}{h g:Option E2}{d:Array (Option De)}{kV doc pm a e:De}(l:K.lookup f=Jp ⟨i,h,.func (W.fnOf x qual (fZ b) (dF b) (aj b) .none kV doc pm g a e),d⟩)
  (c:W.codeIn K a qual=Jr)(k:W.keepIn K (.ref f)=Jr):Fun K x qual b f (W.fnOf x qual (fZ b) (dF b) (aj b) .none kV doc pm g a e):=⟨⟨i,h,kV,doc,pm,g,a,e,d,U,l,c⟩,k⟩
end
theorem ay{n:Nat}(h:n<=1000):n<FL:=Nat.lt_of_le_of_lt h (by decide)
variable{X:Cx}
theorem pv(i:Nat){x:Str}{pos:Pos}(d:X.N[i]?=Jp x:=by rfl)(b:Vis X.env.scope x:=by first|exact Or.inl U|exact Or.inr (Or.inl U)|exact Or.inr (Or.inr U))(c:(x == ("__debug__" : Str))=false:=by decide)
  (a:(x == ("__classdict__" : Str))=false:=by decide):PE X (.Name x pos) (zl i):=uZ d b c a
theorem aW{A B:Prop}(h:B):if Js=Jr then A else B:=by
 rw[Jv Bool.false_ne_true];exact h
theorem cD{A B:Prop}(h:A):if Jr=Jr then A else B:=by
 rw[Jw U];exact h
theorem c9{c A B:Prop} [Decidable c] (b:c->A)(a:¬ c->B):if c then A else B:=by
 by_cases h:c
 .rw[Jw h];exact b h
 .rw[Jv h];exact a h
theorem pT{c A B:Prop} [Decidable c] (a:c)(h:B):if (!decide c)=Jr then A else B:=by
 rw[Jy a];exact aW h
def ao(H H':Hp):Prop:=∀b o,H b=Jp o->H' b=Jp o
theorem ao.refl(H:Hp):ao H H:=λ_ _ h=>h
theorem ao.trans{H e d:Hp}(a:ao H e)(b:ao e d):ao H d:=λc o h=>b c o (a c o h)
theorem ao.free{H H':Hp}(e:ao H H'){l:E2}(h:H' l=Option.none):H l=Option.none:=by
 cases q:H l with
 |none=>rfl
 |some o =>
  rw[e l o q]at h;cases h
theorem ao.seq{K:W.Frag}{H H':Hp}{a:E2}{xs:List V}(e:ao H H')(h:SqL K H a xs):SqL K H' a xs:=by
 rcases h with(h|⟨o,h⟩)|h
 .exact .inl (.inl (e _ _ h))
 .exact .inl (.inr ⟨o,e _ _ h⟩)
 .exact .inr h
set_option maxHeartbeats 4000000
abbrev Pr:=Int×Int
def inR(n:Int)(p:Pr):Bool:=Jt (p.1<=n) && decide (n<=p.2)
def inP(ps:List Pr)(n:Int):Bool:=ps.any (inR n)
structure Apart(R:List Pr):Prop where
 le:∀p∈R,p.1<=p.2
 gap:R.Pairwise λp q=>p.2+2<=q.1
theorem Apart.snoc{R:List Pr}{p:Pr}(h:Apart R)(d:p.1<=p.2)(f:∀r∈R,r.2+2<=p.1):Apart (R++[p]) where
 le:=λq c=>by
  rcases iK.mp c with c|c
  .exact h.le q c
  .have e:q=p:=by simpa using c
   rw[e];exact d
 gap:=by
  rw[List.pairwise_append];refine⟨h.gap,List.pairwise_singleton _ _,λa i b g=>?_⟩;have e:b=p:=by simpa using g
  rw[e];exact f a i
theorem Apart.init{R:List Pr}{p:Pr}(h:Apart (R++[p])):Apart R/\p.1<=p.2/\∀r∈R,r.2+2<=p.1:=by
 have g:=h.gap;rw[List.pairwise_append]at g;exact⟨⟨λq b=>h.le q (mu _ b),g.1⟩,h.le p (by simp),λr a=>g.2.2 r a p (by simp)⟩
structure FO(R qs:List Pr):Prop where
 ap:Apart R
 mem:∀n,inP R n=inP qs n
 cov:∀p∈qs,p.1<=p.2->∃r∈R,r.1<=p.1/\p.2<=r.2
 low:∀r∈R,∃q∈qs,r.1=q.1
def Callee(P:EX)(w:D0)(K:W.Frag)(mg:Str->Option De)(a:FG)(k:Nat)(x:Str)(ps:List Str)(sp:Sp):Prop :=
 ∃f b,aK P w K mg a CX0 k f b ps sp/\Binds K b ps []/\W.keepIn K (.ref f)=Jr/\mg x=Jp (.ref f)
theorem Callee.mono{P:EX}{w:D0}{K:W.Frag}{mg:Str->Option De}{a:FG}{j k:Nat}{x:Str}{ps:List Str}{sp:Sp}(C:Callee P w K mg a j x ps sp)(h:j<=k):Callee P w K mg a k x ps sp:=by
 obtain⟨f,b,F,r⟩:=C;exact⟨f,b,F.mono h,r⟩
variable{pos:Pos}
section
variable{k:Nat}{x:Str}{ps:List Str}{sp:Sp}{e:Gs}{es:List Gs}{t:TA}{p:Pos}
def tFn(sp:Sp)(t:TA):TE:=λa H Q=>t a H λb c=>sp b c Q E0
theorem aH(C:Callee X.prog X.w X.K X.mg X.base k x ps sp)(o:bU k X.A)(r:Gl X x)(u:PA X (e :: es) t)(j:(x == ("__debug__" : Str))=false:=by decide)
  (he:Gw (e :: es) X.env=(Js,eval e X.env) :: Gw es X.env:=by rfl)(i:(Gv pos (Gw es X.env)).any (·.1)=false:=by rfl):PE X (.Call (.Name x p) (e :: es) [] pos) (tFn sp t):=by
 obtain⟨f,y,F,b,n,m⟩:=C;have h:=xi (E:=E0) (dvs:=[]) (ds:=[]) (p:=p) F o r m n b .nil bV u j he i;intro d s g H Q I q;refine h d s g H Q I ?_;have l:t g H λa c=>sp a c Q E0:=q
 have v:(λ(a:List V)(c:Hp)=>sp (a++[]) c Q E0)=λa c=>sp a c Q E0:=by
  funext a c
  rw[jt]
 show t g H λa c=>sp (a++[]) c Q E0
 rw[v];exact l
end
def CZ(t u:TS):TS:=λD c H=>∃M:St->Hp->Prop,t { D with nx:=M } c H/\∀a b,M a b->u D a b
theorem aE{X:Cx}{e:Gx}{rest:List Gx}{t u:TS}(j:PS X e t)(i:PSs X rest u):PSs X (e :: rest) (CZ t u):=by
 intro c s g H D I ⟨M,a,b⟩;refine GH (thn (j c s g H { D with nx:=M } I a) λfl h q=>?_);cases fl with
 |next=>obtain⟨d,f,k,q⟩:=q;exact i c h d f D k (b d f q)
 |ret v=>exact q
 |brk=>exact q
 |cont=>exact q
inductive EqI(K:W.Frag)(H:Hp):V->V->Bool->Prop where
 |flat {x y:V}(fx:dZ x=Jr)(fy:dZ y=Jr):EqI K H x y (eqV x y)
 |same (a:E2):EqI K H (.ref a) (.ref a) Jr
 |tup {a b:E2}{xs ys:List V}(ha:SqT K H a xs)(hb:SqT K H b ys)(fx:xs.all dZ=Jr)(fy:ys.all dZ=Jr):EqI K H (.ref a) (.ref b) (Jt (xs.length=ys.length) && (List.zipWith eqV xs ys).all id)
theorem jK:∀{x:V},dZ x=Jr->eqV x x=Jr
 | .non,_=>rfl
 | .bl b,_=>by simp[eqV]
 | .int i,_=>by simp[eqV]
 | .str z,_=>by simp[eqV]
theorem lE:∀{xs:List V},xs.all dZ=Jr->(List.zipWith eqV xs xs).all id=Jr
 | [],_=>rfl
 |x :: xs,h=>by
  rw[oT,A2]at h;rw[List.zipWith_cons_cons,oT,lE h.2,Bool.and_true];exact jK h.1
theorem iU{f:Nat->Bool}:∀{xs ys:List V},(∀j x y,xs[j]?=Jp x->ys[j]?=Jp y->f j=eqV x y)->(List.range (min xs.length ys.length)).all f=(List.zipWith eqV xs ys).all id
 | [],ys,_=>by simp
 |x :: xs,[],_=>by simp
 |x :: xs,y :: ys,h=>by
  have c:=iU (f:=λj=>f (j+1)) (xs:=xs) (ys:=ys) λj a b g e=>h (j+1) a b (by simpa using g) (by simpa using e)
  have i:=h 0 x y U U;have d:min (x :: xs).length (y :: ys).length=min xs.length ys.length+1:=by simp only[gR];lia
  rw[d,List.range_succ_eq_map,oT,List.zipWith_cons_cons,oT,vt,i];show(eqV x y && (List.range (min xs.length ys.length)).all (λj=>f (j+1)))=_;rw[c];rfl
section
variable{Ju:List (E2×Obj)}{σ:St}{H:Hp}{s:Gk}
theorem EqI.at{A:Gj}{x y:V}{u v:De}{b:Bool}(e:EqI X.K H x y b)(I:Inv X Ju σ H s)(W:A.units+1<Hc)(l:RelV x u)(k:RelV y v):SeqAt.EqAt A s u v b:=by
 cases e with
 |flat i m=>exact rq l k i m
 |same a =>
  cases (show u=De.ref a from l);cases (show v=De.ref a from k);exact SeqAt.EqAt.same _
 | @tup a b xs ys ha hb i m =>
  cases (show u=De.ref a from l);cases (show v=De.ref b from k);by_cases z:a=b
  .subst z;have e:=I.tuple_inj ha hb;subst e;rw[lE i,Jy U];exact SeqAt.EqAt.same _
  .obtain⟨d,r,p,_⟩:=I.tuple ha;obtain⟨c,q,D,_⟩:=I.tuple hb;have F:=r.length;have E:=q.length;have M:=SeqAt.RcAt.tuples (A:=A) (e:=λj=>match d[j]?,xs[j]?,ys[j]? with|_,Jp x,Jp y=>eqV x y|_,_,_=>Js) (show s.heap.IsTuple a d.toArray from p) (show s.heap.IsTuple b c.toArray from D) (by lia) (λj f L=>by
    have J:j<d.length:=by simpa using f
    have G:j<c.length:=by simpa using L
    have o:xs[j]?=Jp xs[j]:=Ga (by lia);have n:ys[j]?=Jp ys[j]:=Ga (by lia);obtain⟨w,h,C⟩:=r.get o;obtain⟨t,g,B⟩:=q.get n;have Q:d.toArray[j]=w:=by
     have:=Ga J;rw[this]at h;simpa using Option.some.inj h
    have P:c.toArray[j]=t:=by
     have:=Ga G;rw[this]at g;simpa using Option.some.inj g
    rw[Q,P];rw[o,n];have O:dZ xs[j]=true:=iv.mp i _ (mJ _);have N:dZ ys[j]=true:=iv.mp m _ (mJ _);exact rq C B O N)
   have f:=SeqAt.EqAt.of_refs z M;have T:((List.range (min d.toArray.size c.toArray.size)).all λj=>match d[j]?,xs[j]?,ys[j]? with|_,Jp x,Jp y=>eqV x y|_,_,_=>Js)=(List.zipWith eqV xs ys).all id:=by
    have R:min d.toArray.size c.toArray.size=min xs.length ys.length:=by simp only[dt];lia
    rw[R];exact iU λj x y h g=>by rw[h,g]
   rw[T]at f;have S:(d.toArray.size == c.toArray.size)=Jt (xs.length=ys.length):=by
    simp only[dt,←F,←E];exact Bool.beq_eq_decide_eq _ _
   rw[S,Bool.and_comm]at f;exact f
end
inductive vo(K:W.Frag)(neg:Bool)(x:V)(y:V)(H:Hp)(Q:VK):Prop
 |mk (a b xs ys:_)(_:x=.ref a)(_:y=.ref b)(_:SqL K H a xs)(_:SqL K H b ys)(_:((xs.length≠ys.length/\Q (.bl neg) H)\/(xs.length=ys.length/\∃f:Nat->Bool,(∀j x y,xs[j]?=Jp x->ys[j]?=Jp y->EqI K H x y (f j))/\Q (.bl (if neg then !(List.range xs.length).all f else(List.range xs.length).all f)) H)))
theorem oM{b:List (E2×Obj)}{l:St}{H:Hp}{s:Gk}{A:Gj}{xs ys:List V}{a its':List De}{f:Nat->Bool}(I:Inv X b l H s)(u:A.units+1<Hc)(r:Vals xs a)(e:Vals ys its')
  (hf:∀j x y,xs[j]?=Jp x->ys[j]?=Jp y->EqI X.K H x y (f j)):∀j (k:j<a.toArray.size)(i:j<its'.toArray.size),SeqAt.EqAt A s a.toArray[j] its'.toArray[j] (f j):=λj k i=>by
 have t:j<a.length:=by simpa using k
 have q:j<its'.length:=by simpa using i
 have B:=r.length;have z:=e.length;have d:xs[j]?=Jp xs[j]:=Ga (by lia);have c:ys[j]?=Jp ys[j]:=Ga (by lia);obtain⟨n,h,p⟩:=r.get d;obtain⟨m,g,o⟩:=e.get c;have w:a.toArray[j]=n:=by
  have:=Ga t;rw[this]at h;simpa using Option.some.inj h
 have v:its'.toArray[j]=m:=by
  have:=Ga q;rw[this]at g;simpa using Option.some.inj g
 rw[w,v];exact(hf j _ _ d c).at I u p o
theorem zM{k:Nat}(o:bU k X.A):OpR X (G3 .Eq) (vo X.K Js):=by
 intro i s B H x y v u Q I n m h;obtain⟨a,b,l,C,rfl,rfl,z,w,h⟩:=h;cases (show v=De.ref a from n);cases (show u=De.ref b from m);obtain⟨c,r,p,_⟩:=I.list z;obtain⟨j,d,g,_⟩:=I.list w;have E:=r.length;have D:=d.length;have F:=o.units;rcases h with⟨G,q⟩|⟨J,f,t,q⟩
 .refine SeqAt.eq_list_lengthsAt p.isList g.isList (by simp only[dt,bne_iff_ne,ne_eq];lia) (by lia) ⟨.bl Js,H,I,U,q⟩
 .refine SeqAt.eq_listAt (e:=f) p.isList g.isList (by simp only[dt];lia) (by lia) (oM I (by show X.A.units+1+1<Hc;lia) r d t) ⟨.bl _,H,I,U,?_⟩;rw[show c.toArray.size=l.length by simp only[dt];lia];exact q
theorem zN{k:Nat}(o:bU k X.A):OpR X (G3 .NotEq) (vo X.K Jr):=by
 intro i s C H x y v u Q I n m h;obtain⟨a,b,l,D,rfl,rfl,B,z,h⟩:=h;cases (show v=De.ref a from n);cases (show u=De.ref b from m);obtain⟨c,r,p,_⟩:=I.list B;obtain⟨j,d,g,_⟩:=I.list z;have F:=r.length;have E:=d.length;have G:=o.units;rcases h with⟨J,q⟩|⟨L,f,t,q⟩
 .refine SeqAt.RcNeAt.lists_lengths p.isList g.isList (by simp only[dt,bne_iff_ne,ne_eq];lia) (by lia) X.prog X.w X.xe _ ⟨.bl Jr,H,I,U,q⟩
 .refine SeqAt.RcNeAt.lists (e:=f) p.isList g.isList (by simp only[dt];lia) (by lia) (oM I (by show X.A.units+1+1<Hc;lia) r d t) X.prog X.w X.xe _ ⟨.bl _,H,I,U,?_⟩;rw[show c.toArray.size=l.length by simp only[dt];lia];exact q
theorem ug{K:W.Frag}{H:Hp}{Q:VK}{a b:E2}{xs:List V}(f:SqL K H a xs)(e:SqL K H b xs)(fl:∀x∈xs,dZ x=Jr\/∃r,x=.ref r)(q:Q (.bl Js) H):vo K Jr (.ref a) (.ref b) H Q:=by
 refine⟨a,b,xs,xs,U,U,f,e,.inr ⟨U,λ_=>Jr,λj x y d c=>?_,?_⟩⟩
 .rw[d]at c;cases c;rcases fl x (Gd d)with z|⟨r,rfl⟩
  .have:=EqI.flat (K:=K) (H:=H) z z;rw[jK z]at this;exact this
  .exact .same r
 .have:(List.range xs.length).all (λ_=>Jr)=true:=by simp
  rw[this];exact q
def cy(H H':Hp):Prop:=∀b a,H b=Jp (.tup a)->H' b=Jp (.tup a)
theorem ao.tups{H H':Hp}(h:ao H H'):cy H H':=λb a e=>h b _ e
theorem cy.trans{H g f:Hp}(a:cy H g)(b:cy g f):cy H f:=λc d e=>b c d (a c d e)
theorem iw{H:Hp}{p:E2}{o:HO}(h:H p=Jq):cy H (upd H p o):=λb a e=>by rw[aw (aU e h)];exact e
theorem bj{H:Hp}{p:E2}{o:HO}{ys:List V}(h:H p=Jp (.lst ys)):cy H (upd H p o):=λb a e=>by rw[aw (fJ e h (by intro z;cases z))];exact e
theorem ag{H:Hp}{p:E2}(h:H p=Jq)(o:HO):ao H (upd H p o):=λb u q=>by rw[aw (aU q h)];exact q
theorem ao.upd{H H':Hp}{p:E2}{o:HO}(s:ao H H')(h:H p=Jq):ao H (upd H' p o):=λb u q=>by rw[aw (aU q h)];exact s b u q
def PL(H:Hp):List V->List (Int×Int)->Prop:=Paired λx p=>∃r,x=.ref r/\H r=Jp (.tup [.int p.1,.int p.2])
theorem PL.mono{H H':Hp}{xs:List V}{ps:List (Int×Int)}(h:PL H xs ps)(s:cy H H'):PL H' xs ps:=Paired.mapP h λ_ _ ⟨r,e,z⟩=>⟨r,e,s r _ z⟩
theorem PL.get{H:Hp}:∀{xs:List V}{ps:List (Int×Int)}{i:Nat}{x:V},PL H xs ps->xs[i]?=Jp x->∃p r,ps[i]?=Jp p/\x=.ref r/\H r=Jp (.tup [.int p.1,.int p.2])
 |_,_,_,_,.nil,e=>by simp at e
 |_,_,0,_,.cons (b:=b) ⟨r,e1,z⟩ _,e=>by simp at e;subst e;exact⟨b,r,U,e1,z⟩
 |_,_,i+1,x,.cons _ t,e=>by
  obtain⟨p,r,q⟩:=PL.get (i:=i) (x:=x) t (by simpa using e);exact⟨p,r,by simpa using q.1,q.2⟩
theorem PL.length{H:Hp}{xs:List V}{ps:List (Int×Int)}(h:PL H xs ps):xs.length=ps.length:=Paired.length h
theorem PL.snoc{H:Hp}{xs:List V}{ps:List (Int×Int)}{r:E2}{a b:Int}(h:PL H xs ps)(e:H r=Jp (.tup [.int a,.int b])):PL H (xs++[.ref r]) (ps++[(a,b)]):=Paired.snoc h ⟨r,U,e⟩
theorem PL.last{H:Hp}{xs:List V}{ps:List (Int×Int)}(h:PL H xs ps)(f:xs≠[]):∃c r d p,xs=c++[.ref r]/\ps=d++[p]/\PL H c d/\H r=Jp (.tup [.int p.1,.int p.2]):=by
 induction h with
 |nil=>exact Jx U f
 | @cons a b l1 l2 hd tl ih =>
  cases tl with
  |nil =>
   obtain⟨r,e,z⟩:=hd;exact⟨[],r,[],b,by rw[e];rfl,U,.nil,z⟩
  | @cons a2 b2 l3 l4 hd2 tl2 =>
   obtain⟨c,r,d,p,k,j,i,g⟩:=ih (by simp);exact⟨a :: c,r,b :: d,p,by rw[k];rfl,by rw[j];rfl,.cons hd i,g⟩
theorem PL.app{H:Hp}{xs ys:List V}{ps a:List (Int×Int)}(h:PL H xs ps)(h':PL H ys a):PL H (xs++ys) (ps++a):=by
 induction h with
 |nil=>exact h'
 |cons r t b=>exact .cons r b
theorem iV{ps:List (Int×Int)}{i:Nat}{p:Int×Int}{f:Int×Int->Bool}(e:ps[i]?=Jp p)(h:(ps.take i).any f=Js)(a:f p=Js):(ps.take (i+1)).any f=false:=by
 rw[mL,e,wh,h];simp[a]
theorem rA{ps:List (Int×Int)}{i:Nat}{p:Int×Int}{f:Int×Int->Bool}(e:ps[i]?=Jp p)(a:f p=Jr):ps.any f=true:=tw.mpr ⟨p,Gd e,a⟩
theorem lF{p:Prop} [Decidable p] (h:decide p=Jr):p:=JA h
theorem sQ{p:Prop} [Decidable p] (h:¬ decide p=Jr):¬ p:=λe=>h (Jy e)
theorem dI{X:Cx}{K:W.Frag}(h:X.K=K):IxR X (zG K):=h ▸ aM
theorem iz{X:Cx}{K:W.Frag}(h:X.K=K):IxR X (zH K):=h ▸ bE
def bA(X:Cx)(N:List Str)(scope:Gm)(cl:List (Str×E2))(a:List E2)(C:E2)(s2:Gk)(b:Hp):Cx :=
 { prog:=X.prog,w:=X.w,K:=X.K,mg:=X.mg,base:=X.base,A:=X.A,N:=N,s₀:=s2,H₀:=b,env:=HD scope cl C X.env,outer:=X.stack,stack:=X.stack,ex:=a,fn:=λ_=>Js,calm:=X.calm,pn:=[],xe:=λ_ _=>False }
def PIf(X:Cx)(d:List Gs)(t:TT):Prop :=
 ∀(a:List (E2×Obj))(s:Gk)(b:St)(H:Hp)(Q:Bool->Hp->Prop),Inv X a b H s->t b H Q ->
  Gq (model X.prog X.w) X.A (forIn d Jr λc r=>if r=Jr then do let ok ←Gu c X.env (eval c X.env);pure (ForInStep.yield ok)else pure (ForInStep.yield r)) (TP X a b Q) X.xe s
def C0:TT:=λ_ H Q=>Q Jr H
theorem bC{X:Cx}:PIf X [] C0:=λ_ _ _ H _ I h=>wpAny_tests_nil ⟨H,I,h⟩
theorem jL{X:Cx}{c:Gs}{t:TT}(h:PT X c t):PIf X [c] t:=λa s b H Q I q=>wpAny_tests_one (h a s b H Q I q)
structure pU(X:Cx)(N:List Str)(fr:List Nat)(scope:Gm)(cl:List (Str×E2))(x:Str):Prop where
 clos:HE scope X.env=pure cl
 kind:scope.kind=.function
 nocell:∀y∈scope.names,y.2≠.cell
 names:∀y∈scope.names,y.2=.local->scope.names.lookup y.1=Jp .local
 hx:scope.names.lookup x=Jp .local
 nd:N.Nodup
 n0:N[0]?=Jp x
 len:N.length=fr.length+1
 sub:∀(i:Nat)(y:Str),N[i+1]?=Jp y->∃j,fr[i]?=Jp j/\X.N[j]?=Jp y/\(X.env.kindOf y=Jp .cell\/X.env.kindOf y=Jp .free)/\((relabel scope X.env).names.lookup y=Jp .cell\/(relabel scope X.env).names.lookup y=Jp .free)
 cells:∀y c,cl.lookup y=Jp c->X.env.cells.lookup y=Jp c
 has:∀y,((relabel scope X.env).names.lookup y=Jp .cell\/(relabel scope X.env).names.lookup y=Jp .free)->∃c,cl.lookup y=Jp c
theorem dJ{X:Cx}{scope:Gm}{x:Str}(kind:scope.kind=.function)(a:∀y∈scope.names,y.2≠.free)(b:∀y∈scope.names,y.2≠.cell)
  (names:∀y∈scope.names,y.2=.local->scope.names.lookup y.1=Jp .local)(f:scope.names.lookup x=Jp .local):pU X [x] [] scope [] x:=by
 have g:(relabel scope X.env).names=scope.names:=map_eq_self λy d=>by
  have z:(y.2 == Hj.free)=false:=by simpa using a y d
  simp[z]
 have no:∀y,¬ ((relabel scope X.env).names.lookup y=Jp .cell\/(relabel scope X.env).names.lookup y=Jp .free):=λy h=>by
  rw[g]at h;rcases h with h|h
  .exact b _ (mem_of_lookup h) U
  .exact a _ (mem_of_lookup h) U
 exact⟨HF a,kind,b,names,f,by simp,U,U,λi y e=>by simp at e,(λy c e=>by cases e),λy h=>Jx h (no y)⟩
theorem bX{X:Cx}{N:List Str}{fr:List Nat}{scope:Gm}{cl:List (Str×E2)}{x:Str}(clos:HE scope X.env=pure cl)(kind:scope.kind=.function)(a:∀y∈scope.names,y.2≠.cell)
  (names:∀y∈scope.names,y.2=.local->scope.names.lookup y.1=Jp .local)(g:scope.names.lookup x=Jp .local)(d:N.Nodup)(f:N[0]?=Jp x)(len:N.length=fr.length+1)
  (sub:((List.range fr.length).all λi=>match N[i+1]?,fr[i]? with|some y,Jp j=>(X.N[j]? == Jp y) && ((X.env.kindOf y == Jp .cell) && ((relabel scope X.env).names.lookup y == Jp .cell))|_,_=>Js)=Jr)
  (cells:∀p∈cl,X.env.cells.lookup p.1=Jp p.2)(b:((relabel scope X.env).names.all λp=>(p.2 != .cell && p.2 != .free) || (cl.lookup p.1).isSome)=Jr):pU X N fr scope cl x:=by
 refine⟨clos,kind,a,names,g,d,f,len,λi y e=>?_,λy c e=>cells _ (mem_of_lookup e),λy h=>?_⟩
 .have hi:i<fr.length:=by have:=(Gb.mp e).1;lia
  have z:=iv.mp sub i (hV.mpr hi);rw[e,Ga hi]at z;simp only[A2,beq_iff_eq]at z;exact⟨_,Ga hi,z.1,.inl z.2.1,.inl z.2.2⟩
 .have look:∀k,(relabel scope X.env).names.lookup y=Jp k->(k=.cell\/k=.free)->∃c,cl.lookup y=Jp c:=λk e l=>by
   have z:=iv.mp b _ (mem_of_lookup e);rcases l with rfl|rfl
   .exact Bv.mp (by simpa using z)
   .exact Bv.mp (by simpa using z)
  rcases h with h|h
  .exact look _ h (.inl U)
  .exact look _ h (.inr U)
def fL(a:St)(fr:List Nat)(x:Option V):St:=x :: fr.map λj=>(a[j]?).join
def oN(J:It)(fr:List Nat)(j:TT)(k:TE)(d:St)(Q:VK)(g:Hp):Prop:=∀D,g D=Jq->∃W:Nat->Nat->Hp->Prop,(∃m,W 0 m (upd g D (.lst [])))/\∀i m H,W i m H ->
 (J.stop i H/\Q (.ref D) H)\/(J.go i H/\∀x h,J.yld i H x h->j (fL d fr (Jp x)) h λb f=>if b=Jr then k (fL d fr (Jp x)) f λy e=>∃c,e D=Jp (.lst c)/\c.length<FL/\∃a,a<m/\W (i+1) a (upd e D (.lst (c++[y])))
  else ∃a,a<m/\W (i+1) a f)
def yA(b:TI)(fr:List Nat)(c:TT)(d:TE):TE:=λa H Q=>b a H λJ e=>oN J fr c d a Q e
section
variable{prog:EX}{w:D0}{A:Gj}{R:G8->Gk->Prop}{s:Gk}
theorem lG{f a d:Gs}{e:List Gs}{scope:Gm}{pos:Pos}{it g:De}{b:Env}(J:Nat->Gk->Prop)
  (turn:∀n s,J n s->Gq (model prog w) A (GQ it) (λr j=>match r with
   |none=>R (.ok .next) j
   |some v=>Gq (model prog w) A (GR a it v) (λ_ s2=>Gq (model prog w) A (assign a b v) (λ_ o =>
     Gq (model prog w) A (forIn e Jr λc r=>if r=Jr then do let ok ←Gu c b (eval c b);pure (ForInStep.yield ok)else pure (ForInStep.yield r)) (λok i =>
      if ok=Jr then Gq (model prog w) A (eval f b) (λy l=>Gq (model prog w) A (call (.builtin "list.append") [g,y]) (λ_ k=>∃m,m<n/\J m k) (λ_ _=>False) l) (λ_ _=>False) i
      else ∃m,m<n/\J m i) (λ_ _=>False) o) (λ_ _=>False) s2) (λ_ _=>False) j) (λ_ _=>False) s)
  (n:Nat)(h:J n s):G9 (model prog w) A (.compLoop (.ListComp f [⟨a,d,e,0⟩] scope pos) 0 it g b) R s:=by
 refine codeAny_loop U J (λn s t=>?_) n h;show Gq _ A ((compTurn (.ListComp f [⟨a,d,e,0⟩] scope pos) 0 it g b).onRaise (λx=>do noteFrame x b;theTreesLotGoes x)) _ _ s;refine wpAny_noted ?_;rw[compTurn_list];refine CW (GN (CW (Gy (turn n s t) (λr j q=>?_) λ_ _ z=>z.elim)));cases r with
 |none=>exact CY q
 |some v =>
  refine CW (Gy q (λ_ s2 D=>?_) λ_ _ z=>z.elim);refine CW (Gy D (λ_ o C=>CW (Gy C (λok i p=>?_) λ_ _ z=>z.elim)) λ_ _ z=>z.elim);cases ok with
  |false=>exact CY ⟨U,p⟩
  |true=>exact CW (CW (Gy p (λy l B=>CW (Gy B (λ_ k u=>CY (CY ⟨U,u⟩)) λ_ _ z=>z.elim)) λ_ _ z=>z.elim))
end
section
variable{elt iter:Gs}{ifs:List Gs}{x:Str}{px:Pos}{scope:Gm}{cl:List (Str×E2)}{N:List Str}{fr:List Nat}{tt:TT}{te:TE}
theorem nL{F:List (E2×Obj)}{q:St}{s2:Gk}{h:Hp}{it:E2}{f:List E2}{tn:Nat->FG->Prop}{J:It}{Q:VK}{E:De->Gk->Prop}{RR:De->E2->G8->Gk->Prop}
  (O:pU X N fr scope cl x)(hc:X.calm=Jr)(g:Inv X F q h s2)(T:Turn X.prog X.w X.K (.Name x px) J f it tn)(a1:tn 0 s2.heap)(I:∀b∈f,ke X F h b)
  (ht:∀f C s H,PIf (bA X N scope cl f C s H) ifs tt)(he:∀f C s H,PE (bA X N scope cl f C s H) elt te)
  (hW:oN J fr tt te q Q h)
  (fin:∀D C s' H',s2.heap.objs.size<=C->H' C=Jq->(∃m,s'.heap.Ns C m)->Inv X F q H' s'->Q (.ref D) H'->RR (.ref D) C (.ok .next) s') :
  Gq (model X.prog X.w) X.A (HG []) (λa7 s3=>Gq (model X.prog X.w) X.A (HI scope X.env.globals cl [] X.env.qual Jq .none (Jp X.env)) (λvp s4 =>
   G9 (model X.prog X.w) X.A (.compStart (.ListComp elt [⟨.Name x px,iter,ifs,0⟩] scope pos) 0 (.ref it) a7 { vp with scope:=relabel scope X.env }) (RR a7 vp.locals) s4) E s3) E s2:=by
 refine HJ (HK O.nocell (by intro y hy;simp at hy) (λh1 a2 M=>?_) O.kind);dsimp only at a2 M⊢;generalize hG:s2.heap.push { cls:=.type "list",dict:=Jq,data:=.seq ([]:List De).toArray }=G at a2 M⊢;have Y:G.objs.size=s2.heap.objs.size+1:=by rw[←hG,FG.size_push]
 have B:∀b o,s2.heap.get? b=Jp o->h1.get? b=Jp o:=λb o e=>M.extBut b o (wO (by rw[Y];exact xu (FG.lt_size e))) (FG.get?_push_of_some _ (hG ▸ FG.get?_push_of_some _ e))
 have vq:h1.get? s2.heap.objs.size=Jp { cls:=.type "list",data:=.seq ([]:List De).toArray 0 }:=M.extBut _ _ (wO (by rw[Y];exact yi _)) (FG.get?_push_of_some _ (hG ▸ FG.get?_push_size _ U));have hD:h s2.heap.objs.size=none:=g.fresh;have L:(bA X N scope cl f G.objs.size s2 h).Ok:=by
  refine⟨g.ok.mod,O.kind,g.ok.glob,g.ok.blt,by show s2.heap.objs.size<=G.objs.size;rw[Y];exact x4 _,λy z c e1 e2=>g.ok.inj y z c (O.cells y c e1) (O.cells z c e2),λy hy=>O.has y hy,λy c z=>Jx (show Js=Jr from z) Bool.false_ne_true,g.ok.hd,g.ok.frames,.inl U,
   λb a=>⟨?_,λy c e=>(I b a).2.2.2.2.1 y c (O.cells y c e)⟩,g.bs,wX g.ok.bsz g.sz,λb o e a=>?_,λb a z=>?_,g.stack,g.stkFree⟩
  .obtain⟨o,e,_⟩:=T.obj _ _ a1 b a;show b≠G.objs.size;exact wO (by rw[Y];exact xu (FG.lt_size e))
  .rcases(I b a).2.2.2.1 with z|z
   .exact g.ok.noex b o e z
   .exact Jx (wW (FG.lt_size e) (wX g.ok.bsz z)) (yb _)
  .rcases dy.mp (g.stkSub b z)with z|z
   .exact(I b a).2.1 z
   .exact(I b a).2.2.1 z
 have lH:∀{H':Hp},(∀b∈f,H' b=Jq)->∀b∈f,ke (bA X N scope cl f G.objs.size s2 h) [] H' b:=λhn b a =>
  ⟨hn b a,(L.exf b a).1,L.exfs b a,.inl a,(L.exf b a).2,λp hp=>Jx (show p∈([]:List (E2×Obj))from hp) (by simp)⟩
 have I':Inv (bA X N scope cl f G.objs.size s2 h) [] (fL q fr Jq) (upd h s2.heap.objs.size (.lst [])) { s2 with heap:=h1,toks:=s2.toks+([]:List (Str×De)).length }:=by
  refine⟨L,U,g.bare,Un.laid B (wN _) hD,⟨_,a2,λi y v e1 e2 e3=>?_⟩,λy c e=>?_,?_,λy c e=>?_,λp hp=>Jx (show p∈([]:List (E2×Obj))from hp) (by simp),g.hok.laid B (wN _) ⟨xn _,[],0,.nil,vq⟩,?_⟩
  .cases i with
   |zero=>cases e2
   |succ i =>
    obtain⟨j,q1,q2,q3,q4⟩:=O.sub i y e1;have P:(q[j]?).join=Jp v:=by
     have:(fr.map λj=>(q[j]?).join)[i]?=Jp (Jp v):=e2;rw[eU,q1]at this;exact Option.some.inj this
    have e4:q[j]?=Jp (Jp v):=by
     cases z:q[j]? with
     |none=>rw[z]at P;cases P
     |some t=>rw[z]at P;exact JB Jp P
    obtain⟨m,_,hl⟩:=g.loc;have b3:Vis X.env.scope y:=.inr q3;obtain⟨u,r,l⟩:=hl j y v q2 e4 b3;refine⟨u,r,.inr ⟨q4,?_⟩⟩;obtain⟨c',a5⟩:=O.has y q4;rcases l with⟨k,_⟩|⟨_,c,ec,ic⟩
    .rcases q3 with z|z
     .rw[z]at k;cases k
     .rw[z]at k;cases k
    .have:=O.cells y c' a5;have e':c=c':=Option.some.inj (ec.symm.trans this);obtain⟨o,ho,hd⟩:=ic;rw[e']at ho;exact⟨c',a5,o,B c' o ho,hd⟩
  .obtain⟨v,o,ho,hd⟩:=g.cell y c (O.cells y c e);exact⟨v,o,B c o ho,hd⟩
  .show upd h s2.heap.objs.size (.lst []) G.objs.size=Jq;rw[aw (w5 (by rw[Y];exact yi _))];exact g.hok.fresh (by rw[Y];exact x4 _)
  .obtain⟨v,o,ho,hd⟩:=g.cell y c (O.cells y c e);rw[aw (wO (FG.lt_size ho))];exact g.freeC y c (O.cells y c e)
  .show(fL q fr Jq).length=N.length;rw[O.len];simp[fL]
 have a4:tn 0 h1:=T.keep _ _ _ a1 λb a o e=>B b o e
 have R:∀s3:Gk,s3={ s2 with heap:=h1,toks:=s2.toks+([]:List (Str×De)).length } ->
   G9 (model X.prog X.w) X.A (.compLoop (.ListComp elt [⟨.Name x px,iter,ifs,0⟩] scope pos) 0 (.ref it) (.ref s2.heap.objs.size) (HD scope cl G.objs.size X.env)) (RR (.ref s2.heap.objs.size) G.objs.size) s3:=by
  rintro s3 rfl;obtain⟨W,⟨m0,w0⟩,a8⟩:=hW _ hD
  refine lG (λn s'=>∃i t H',Inv (bA X N scope cl f G.objs.size s2 h) [] (fL q fr t) H' s'/\tn i s'.heap/\(∀b∈f,H' b=Jq)/\W i n H') ?_ m0
   ⟨0,Jq,_,I',a4,λb a=>by
    rw[aw (by obtain⟨o,e,_⟩:=T.obj _ _ a1 b a;exact wO (FG.lt_size e))];exact(I b a).1,w0⟩
  rintro n s' ⟨i,t,H',I3,a3,a6,w3⟩;rcases a8 i n H' w3 with⟨a9,qn⟩|⟨go,step⟩
  .refine thn (T.done (bA X N scope cl f G.objs.size s2 h) U U U hc i [] s' _ H' _ I3 (lH a6) a3 a9) λr s4 ⟨hr,I4⟩=>?_
   subst hr;obtain⟨m,V,_⟩:=I4.loc;refine fin _ _ s4 H' (by rw[Y];exact x4 _) I4.free ⟨m,V⟩ (g.call' (ch:=f) I4.os I4.base I4.hok I4.bare λb a=>?_) qn;exact⟨(I b a).2.2.2.1,(I b a).2.1,(I b a).2.2.2.2.1,(I b a).2.2.2.2.2⟩
  .refine thn (T.item (bA X N scope cl f G.objs.size s2 h) U U U hc i [] s' _ H' _ I3 (lH a6) a3 go) λr s4 ⟨u,hr,h4⟩=>?_
   subst hr;refine thn h4 λ_ s5 ⟨y,H5,I5,r5,y5,a0,b5⟩=>?_
   have c1:=I5.pinned (lH b5) (T.obj _ _ a0);have lx:(bA X N scope cl f G.objs.size s2 h).env.scope.names.lookup x=Jp .local:=lookup_relabel_local O.hx;refine thn (ax (X:=bA X N scope cl f G.objs.size s2 h) (i:=0) O.nd O.n0 (.inl lx) (.inr lx) _ s5 _ H5 y u (λb1 H'=>b1=fL q fr (Jp y)/\H'=H5) c1 r5 ⟨U,U⟩) λ_ s6 ⟨c2,H6,I6,e6,b6⟩=>?_
   subst e6;subst b6
   have again:∀{Z:St}{H7:Hp}{s7:Gk}{S:Nat},Z=fL q fr (Jp y)->Inv (bA X N scope cl f G.objs.size s2 h) ([]++kf f s5.heap) Z H7 s7->S<n->W (i+1) S H7 ->
     ∃m,m<n/\∃i t H',Inv (bA X N scope cl f G.objs.size s2 h) [] (fL q fr t) H' s7/\tn i s7.heap/\(∀b∈f,H' b=Jq)/\W i m H':=λ{Z H7 s7 S} e7 I7 V w7=>by
    subst e7;refine⟨S,V,i+1,Jp y,H7,I7.unpinned,T.keep _ _ _ a0 λb a o e=>(I7.pin (b,o) (jo _ (jo _ (dB a e)))).1,λb a=>?_,w7⟩;obtain⟨o,e,d⟩:=T.obj _ _ a0 b a;exact(I7.pin (b,o) (jo _ (jo _ (dB a e)))).2.1
   refine thn (ht f G.objs.size s2 h _ s6 _ H6 _ I6 (step y H6 y5)) λok s7 ⟨H7,I7,q7⟩=>?_
   cases ok with
   |false =>
    rw[Jv Bool.false_ne_true]at q7⊢;obtain⟨S,V,w7⟩:=q7;exact again U I7 V w7
   |true =>
    rw[Jw U]at q7⊢;refine thn (he f G.objs.size s2 h _ s7 _ H7 _ I7 q7) λu8 s8 ⟨v8,H8,I8,r8,ys,b4,b0,S,V,w8⟩=>?_
    refine thn (bK (X:=bA X N scope cl f G.objs.size s2 h) _ s8 _ H8 (.ref s2.heap.objs.size) [v8] _ [u8] (λ_ H9=>W (i+1) S H9) I8 U (.cons r8 .nil) ⟨_,ys,v8,U,U,b4,b0,w8⟩) λ_ s9 ⟨_,H9,I9,_,w9⟩=>?_
    exact again U I9 V w9
 exact HL (R _ U) (T.self _ 0 _ _ _ a4 (R _ U))
theorem Inv.left{a:List (E2×Obj)}{h g:St}{s2 s':Gk}{q H':Hp}{C:E2}{h':FG}(f:Inv X a g q s2)(n:Inv X a h H' s')(d:s2.heap.objs.size<=C)(l:H' C=Jq)(i:FG.SameBut C s'.heap h'):Inv X a h H' { s' with heap:=h' }:=by
 refine n.turned (t':=s'.toks) (it:=C) (λb o m e=>(i.2 b m).trans e) l (w5 (wW f.lt d)) (.inr (wX f.sz d)) (λy c e=>?_) λp j=>?_
 .obtain⟨v,o,k,_⟩:=f.cell y c e;exact wO (wW (FG.lt_size k) d)
 .exact wO (wW (FG.lt_size (f.pin p j).1) d)
theorem dG{i:TI}(hi:PI X (.Name x px) iter i)(O:pU X N fr scope cl x)(r:X.calm=Jr)(k:∀b C s H,PIf (bA X N scope cl b C s H) ifs tt)(p:∀b C s H,PE (bA X N scope cl b C s H) elt te)
  (l:∀v,GZ iter X.env v=pure v:=by intro _;rfl):PE X (.ListComp elt [⟨.Name x px,iter,ifs,0⟩] scope pos) (yA i fr tt te):=by
 intro a s g H Q I h;rw[HM];refine HN (use:=Jq) U l O.clos O.kind O.names (thn (hi a s g H _ I h) λv L z=>thn z λG s2 y=>?_);obtain⟨P,b,K,J,S,e,j,T,c,B,t⟩:=y;subst e;refine nL (RR:=λf C=>HP (model X.prog X.w) X.A X.xe Jq (EP X a g Q) f C) O r j T c B k p t λD C M F u n ⟨m,o⟩ E q=>?_
 exact⟨m,o,λR d=>⟨.ref D,F,j.left E u n d,U,q⟩⟩
theorem jM{E:TI}{i:Nat}{y:Str}{d F:Pos}(hN:X.N.Nodup)(G:X.N[i]?=Jp y)(V:Loc X.env.scope y)(hi:PI X (.Name x px) iter E)(O:pU X N fr scope cl x)(Z:X.calm=Jr)
  (K:∀f C s H,PIf (bA X N scope cl f C s H) ifs tt)(Y:∀f C s H,PE (bA X N scope cl f C s H) elt te)(L:∀v,GZ iter X.env v=pure v:=by intro _;rfl)
  (n:GI (.ListComp elt [⟨.Name x px,iter,ifs,0⟩] scope pos) (Jp (.Name y d)) F.line X.env=pure true:=by rfl)(W:X.fn y=Jr\/X.env.scope.names.lookup y=Jp .local:=by first|exact .inl U|exact .inr U|assumption) :
  PS X (.Assign [.Name y d] (.ListComp elt [⟨.Name x px,iter,ifs,0⟩] scope pos) F) (xa (yA E fr tt te) (nu i)):=by
 intro b s B H k I h;rw[HQ _ _ _ _ n];refine CW (GN (CW ?_));show Gq _ X.A (do let _ ←comprehension (.ListComp elt [⟨.Name x px,iter,ifs,0⟩] scope pos) scope X.env _ (HG []) Js (eval iter X.env) (Jp (assign (.Name y d) X.env))) _ _ s;refine CW (Gy (HN (use:=Jp (assign (.Name y d) X.env)) (Q:=λ_ c=>SP X b k .next c) U L O.clos O.kind O.names (thn (hi b s B H _ I h) λv s1 h1=>thn h1 λa0 s2 h2=>?_)) (λ_ c M=>CY (CY M)) λ_ _ z=>z);obtain⟨it,f,tn,J,H2,e,g,T,l,f2,hW⟩:=h2;subst e;refine nL (Q:=λv H1=>nu i v B H1 k.nx) (RR:=λu C=>HP (model X.prog X.w) X.A X.xe (Jp (assign (.Name y d) X.env)) (λ_ c=>SP X b k .next c) u C) O Z g T l f2 K Y hW λD C c H' j R ⟨m,S⟩ I' q=>?_
 show Gq _ X.A (assign (.Name y d) X.env (.ref D)) _ _ c;refine GL (kb I' hN G V (v:=.ref D) U (λs3 I3 ⟨a,p,ha⟩=>?_) W);have t:C≠a:=by
  rcases ha with z|z
  .rw[z];exact w5 (wW g.lt j)
  .obtain⟨v,o,P,_⟩:=g.cell y a z;exact w5 (wW (FG.lt_size P) j)
 exact⟨m,S.sameBut p t,λh' r=>⟨_,H',g.left I3 j R r,q⟩⟩
def eH(c:E2->Nat->List V->Hp->Prop)(D:E2)(i n:Nat)(d:Hp):Prop:=∃a,a<n-i/\a=n-(i+1)/\i+1<=n/\∃b,c D (i+1) b d
def cQ(c:E2->Nat->List V->Hp->Prop)(D:E2)(i n:Nat):VK:=λy b=>∃a,b D=Jp (.lst a)/\a.length<FL/\eH c D i n (upd b D (.lst (a++[y])))
theorem eH.mk{a:E2->Nat->List V->Hp->Prop}{D:E2}{i n:Nat}{b:Hp}{zs:List V}(hi:i<n)(h:a D (i+1) zs b):eH a D i n b:=⟨n-(i+1),by lia,U,hi,zs,h⟩
theorem cQ.mk{b:E2->Nat->List V->Hp->Prop}{D:E2}{i n:Nat}{a:Hp}{ys:List V}{y:V}(hi:i<n)(e:a D=Jp (.lst ys))(c:ys.length<FL)(h:b D (i+1) (ys++[y]) (upd a D (.lst (ys++[y])))):cQ b D i n y a:=⟨ys,e,c,.mk hi h⟩
theorem cn{K:W.Frag}{a:E2}{xs:List V}{g:St}{d:Hp}{Q:VK}(c:E2->Nat->List V->Hp->Prop)(n:∀D,d D=Jq->c D 0 [] (upd d D (.lst [])))
  (l:∀D i ys H,d D=Jq->i<=xs.length->c D i ys H->SqL K H a xs)
  (k:∀D i x ys H,d D=Jq->xs[i]?=Jp x->c D i ys H->tt (fL g fr (Jp x)) H λb j=>if b=Jr then te (fL g fr (Jp x)) j (cQ c D i xs.length)else eH c D i xs.length j)
  (hd:∀D ys H,d D=Jq->c D xs.length ys H->Q (.ref D) H):oN (Itl K a) fr tt te g Q d:=by
 intro D f;refine⟨λi m H=>m=xs.length-i/\i<=xs.length/\∃ys,c D i ys H,⟨_,U,xn _,[],n D f⟩,?_⟩;rintro i m H ⟨rfl,hi,ys,p⟩;have q:=l D i ys H f hi p;by_cases h:i<xs.length
 .refine .inr ⟨⟨xs,xs[i],q,by simp[h]⟩,λx o y=>?_⟩;obtain⟨e,y⟩:=y;subst e;exact k D i x ys _ f (y xs q) p
 .have e:i=xs.length:=by lia
  subst e;exact .inl ⟨⟨xs,q,wN _⟩,hd D ys H f p⟩
theorem eJ{lo:Int}{n:Nat}{f:St}{c:Hp}{Q:VK}(a:E2->Nat->List V->Hp->Prop)(k:∀D,c D=Jq->a D 0 [] (upd c D (.lst [])))
  (j:∀D i ys H,c D=Jq->i<n->a D i ys H->tt (fL f fr (Jp (.int (lo+i)))) H λb h=>if b=Jr then te (fL f fr (Jp (.int (lo+i)))) h (cQ a D i n)else eH a D i n h)
  (hd:∀D ys H,c D=Jq->a D n ys H->Q (.ref D) H):oN (Itr lo n) fr tt te f Q c:=by
 intro D g;refine⟨λi m H=>m=n-i/\i<=n/\∃ys,a D i ys H,⟨_,U,xn _,[],k D g⟩,?_⟩;rintro i m H ⟨rfl,hi,ys,p⟩;by_cases d:i<n
 .refine .inr ⟨d,λx l y=>?_⟩;obtain⟨e,y⟩:=y;subst e;subst y;exact j D i ys _ g d p
 .have e:i=n:=by lia
  subst e;exact .inl ⟨wN _,hd D ys H g p⟩
end
structure lI(X:Cx)(N:List Str)(k:Nat)(fr:List Nat)(scope:Gm)(cl:List (Str×E2)):Prop where
 clos:HE scope X.env=pure cl
 kind:scope.kind=.function
 nocell:∀y∈scope.names,y.2≠.cell
 names:∀y∈scope.names,y.2=.local->scope.names.lookup y.1=Jp .local
 len:N.length=k+fr.length
 sub:∀(i:Nat)(y:Str),N[k+i]?=Jp y->∃j,fr[i]?=Jp j/\X.N[j]?=Jp y/\(X.env.kindOf y=Jp .cell\/X.env.kindOf y=Jp .free)/\((relabel scope X.env).names.lookup y=Jp .cell\/(relabel scope X.env).names.lookup y=Jp .free)
 cells:∀y c,cl.lookup y=Jp c->X.env.cells.lookup y=Jp c
 has:∀y,((relabel scope X.env).names.lookup y=Jp .cell\/(relabel scope X.env).names.lookup y=Jp .free)->∃c,cl.lookup y=Jp c
theorem d9{X:Cx}{N:List Str}{k:Nat}{scope:Gm}(len:N.length=k)(kind:scope.kind=.function)(a:∀y∈scope.names,y.2≠.free)(b:∀y∈scope.names,y.2≠.cell)
  (names:∀y∈scope.names,y.2=.local->scope.names.lookup y.1=Jp .local):lI X N k [] scope []:=by
 have f:(relabel scope X.env).names=scope.names:=map_eq_self λy d=>by
  have z:(y.2 == Hj.free)=false:=by simpa using a y d
  simp[z]
 have no:∀y,¬ ((relabel scope X.env).names.lookup y=Jp .cell\/(relabel scope X.env).names.lookup y=Jp .free):=λy h=>by
  rw[f]at h;rcases h with h|h
  .exact b _ (mem_of_lookup h) U
  .exact a _ (mem_of_lookup h) U
 refine⟨HF a,kind,b,names,by rw[len];rfl,λi y e=>?_,(λy c e=>by cases e),λy h=>Jx h (no y)⟩;have:=(Gb.mp e).1;lia
def dh(a:St)(fr:List Nat)(ts:St):St:=ts++fr.map λj=>(a[j]?).join
def jN(J:It)(q:TG)(k:Nat)(fr:List Nat)(o:TT)(p:TE)(f:St)(Q:VK)(l:Hp):Prop:=∀D,l D=Jq->∃W:Nat->Nat->Hp->Prop,(∃m,W 0 m (upd l D (.lst [])))/\∀i m H,W i m H ->
 (J.stop i H/\Q (.ref D) H)\/(J.go i H/\∀x n,J.yld i H x n->∀g:St,g.length=k->q x (dh f fr g) n λa r=>(∃d:St,d.length=k/\a=dh f fr d)/\o a r λb j=>if b=Jr then p a j λy h=>∃e,h D=Jp (.lst e)/\e.length<FL/\∃c,c<m/\W (i+1) c (upd h D (.lst (e++[y])))
  else ∃c,c<m/\W (i+1) c j)
def vw(b:TI)(e:TG)(k:Nat)(fr:List Nat)(c:TT)(d:TE):TE:=λa H Q=>b a H λJ f=>jN J e k fr c d a Q f
section
variable{elt iter tg:Gs}{ifs:List Gs}{scope:Gm}{cl:List (Str×E2)}{N:List Str}{k:Nat}{fr:List Nat}{gt:TG}{tt:TT}{te:TE}
theorem lJ{F:List (E2×Obj)}{x:St}{s2:Gk}{h:Hp}{it:E2}{f:List E2}{tn:Nat->FG->Prop}{J:It}{Q:VK}{E:De->Gk->Prop}{RR:De->E2->G8->Gk->Prop}
  (O:lI X N k fr scope cl)(hc:X.calm=Jr)(g:Inv X F x h s2)(T:Turn X.prog X.w X.K tg J f it tn)(a1:tn 0 s2.heap)(I:∀b∈f,ke X F h b)
  (ht:∀f C s H,PIf (bA X N scope cl f C s H) ifs tt)(he:∀f C s H,PE (bA X N scope cl f C s H) elt te)
  (hg:∀f C s H,PG (bA X N scope cl f C s H) tg gt)(hW:jN J gt k fr tt te x Q h)
  (fin:∀D C s' H',s2.heap.objs.size<=C->H' C=Jq->(∃m,s'.heap.Ns C m)->Inv X F x H' s'->Q (.ref D) H'->RR (.ref D) C (.ok .next) s') :
  Gq (model X.prog X.w) X.A (HG []) (λa9 s3=>Gq (model X.prog X.w) X.A (HI scope X.env.globals cl [] X.env.qual Jq .none (Jp X.env)) (λvp s4 =>
   G9 (model X.prog X.w) X.A (.compStart (.ListComp elt [⟨tg,iter,ifs,0⟩] scope pos) 0 (.ref it) a9 { vp with scope:=relabel scope X.env }) (RR a9 vp.locals) s4) E s3) E s2:=by
 refine HJ (HK O.nocell (by intro y hy;simp at hy) (λh1 a2 M=>?_) O.kind);dsimp only at a2 M⊢;generalize hG:s2.heap.push { cls:=.type "list",dict:=Jq,data:=.seq ([]:List De).toArray }=G at a2 M⊢;have Y:G.objs.size=s2.heap.objs.size+1:=by rw[←hG,FG.size_push]
 have B:∀b o,s2.heap.get? b=Jp o->h1.get? b=Jp o:=λb o e=>M.extBut b o (wO (by rw[Y];exact xu (FG.lt_size e))) (FG.get?_push_of_some _ (hG ▸ FG.get?_push_of_some _ e))
 have vq:h1.get? s2.heap.objs.size=Jp { cls:=.type "list",data:=.seq ([]:List De).toArray 0 }:=M.extBut _ _ (wO (by rw[Y];exact yi _)) (FG.get?_push_of_some _ (hG ▸ FG.get?_push_size _ U));have hD:h s2.heap.objs.size=none:=g.fresh;have L:(bA X N scope cl f G.objs.size s2 h).Ok:=by
  refine⟨g.ok.mod,O.kind,g.ok.glob,g.ok.blt,by show s2.heap.objs.size<=G.objs.size;rw[Y];exact x4 _,λy z c e1 e2=>g.ok.inj y z c (O.cells y c e1) (O.cells z c e2),λy hy=>O.has y hy,λy c z=>Jx (show Js=Jr from z) Bool.false_ne_true,g.ok.hd,g.ok.frames,.inl U,
   λb a=>⟨?_,λy c e=>(I b a).2.2.2.2.1 y c (O.cells y c e)⟩,g.bs,wX g.ok.bsz g.sz,λb o e a=>?_,λb a z=>?_,g.stack,g.stkFree⟩
  .obtain⟨o,e,_⟩:=T.obj _ _ a1 b a;show b≠G.objs.size;exact wO (by rw[Y];exact xu (FG.lt_size e))
  .rcases(I b a).2.2.2.1 with z|z
   .exact g.ok.noex b o e z
   .exact Jx (wW (FG.lt_size e) (wX g.ok.bsz z)) (yb _)
  .rcases dy.mp (g.stkSub b z)with z|z
   .exact(I b a).2.1 z
   .exact(I b a).2.2.1 z
 have lH:∀{H':Hp},(∀b∈f,H' b=Jq)->∀b∈f,ke (bA X N scope cl f G.objs.size s2 h) [] H' b:=λhn b a =>
  ⟨hn b a,(L.exf b a).1,L.exfs b a,.inl a,(L.exf b a).2,λp hp=>Jx (show p∈([]:List (E2×Obj))from hp) (by simp)⟩
 have I':Inv (bA X N scope cl f G.objs.size s2 h) [] (dh x fr (List.replicate k Jq)) (upd h s2.heap.objs.size (.lst [])) { s2 with heap:=h1,toks:=s2.toks+([]:List (Str×De)).length }:=by
  refine⟨L,U,g.bare,Un.laid B (wN _) hD,⟨_,a2,λi y v e1 e2 e3=>?_⟩,λy c e=>?_,?_,λy c e=>?_,λp hp=>Jx (show p∈([]:List (E2×Obj))from hp) (by simp),g.hok.laid B (wN _) ⟨xn _,[],0,.nil,vq⟩,?_⟩
  .by_cases a6:i<k
   .have q:(List.replicate k Jq++fr.map λj=>(x[j]?).join)[i]?=Jp (Jp v):=e2;rw[eX (by rw[oD];exact a6),List.getElem?_replicate,Jw a6]at q;cases q
   .obtain⟨j,q1,q2,q3,q4⟩:=O.sub (i-k) y (by rw[show k+(i-k)=i by lia];exact e1);have q:(x[j]?).join=Jp v:=by
     have:(List.replicate k Jq++fr.map λj=>(x[j]?).join)[i]?=Jp (Jp v):=e2;rw[js (by rw[oD];lia),oD,eU,q1]at this;exact Option.some.inj this
    have e4:x[j]?=Jp (Jp v):=by
     cases z:x[j]? with
     |none=>rw[z]at q;cases q
     |some t=>rw[z]at q;exact JB Jp q
    obtain⟨m,_,hl⟩:=g.loc;have b4:Vis X.env.scope y:=.inr q3;obtain⟨u,r,l⟩:=hl j y v q2 e4 b4;refine⟨u,r,.inr ⟨q4,?_⟩⟩;obtain⟨c',a7⟩:=O.has y q4;rcases l with⟨k,_⟩|⟨_,c,ec,ic⟩
    .rcases q3 with z|z
     .rw[z]at k;cases k
     .rw[z]at k;cases k
    .have:=O.cells y c' a7;have e':c=c':=Option.some.inj (ec.symm.trans this);obtain⟨o,ho,hd⟩:=ic;rw[e']at ho;exact⟨c',a7,o,B c' o ho,hd⟩
  .obtain⟨v,o,ho,hd⟩:=g.cell y c (O.cells y c e);exact⟨v,o,B c o ho,hd⟩
  .show upd h s2.heap.objs.size (.lst []) G.objs.size=Jq;rw[aw (w5 (by rw[Y];exact yi _))];exact g.hok.fresh (by rw[Y];exact x4 _)
  .obtain⟨v,o,ho,hd⟩:=g.cell y c (O.cells y c e);rw[aw (wO (FG.lt_size ho))];exact g.freeC y c (O.cells y c e)
  .show(dh x fr (List.replicate k Jq)).length=N.length;rw[O.len];simp[dh]
 have a5:tn 0 h1:=T.keep _ _ _ a1 λb a o e=>B b o e
 have P:∀s3:Gk,s3={ s2 with heap:=h1,toks:=s2.toks+([]:List (Str×De)).length } ->
   G9 (model X.prog X.w) X.A (.compLoop (.ListComp elt [⟨tg,iter,ifs,0⟩] scope pos) 0 (.ref it) (.ref s2.heap.objs.size) (HD scope cl G.objs.size X.env)) (RR (.ref s2.heap.objs.size) G.objs.size) s3:=by
  rintro s3 rfl;obtain⟨W,⟨m0,w0⟩,b0⟩:=hW _ hD
  refine lG (λn s'=>∃i R H',R.length=k/\Inv (bA X N scope cl f G.objs.size s2 h) [] (dh x fr R) H' s'/\tn i s'.heap/\(∀b∈f,H' b=Jq)/\W i n H') ?_ m0
   ⟨0,List.replicate k Jq,_,oD,I',a5,λb a=>by
    rw[aw (by obtain⟨o,e,_⟩:=T.obj _ _ a1 b a;exact wO (FG.lt_size e))];exact(I b a).1,w0⟩
  rintro n s' ⟨i,R,H',b6,I3,a4,a8,w3⟩;rcases b0 i n H' w3 with⟨b1,qn⟩|⟨go,step⟩
  .refine thn (T.done (bA X N scope cl f G.objs.size s2 h) U U U hc i [] s' _ H' _ I3 (lH a8) a4 b1) λr s4 ⟨hr,I4⟩=>?_
   subst hr;obtain⟨m,V,_⟩:=I4.loc;refine fin _ _ s4 H' (by rw[Y];exact x4 _) I4.free ⟨m,V⟩ (g.call' (ch:=f) I4.os I4.base I4.hok I4.bare λb a=>?_) qn;exact⟨(I b a).2.2.2.1,(I b a).2.1,(I b a).2.2.2.2.1,(I b a).2.2.2.2.2⟩
  .refine thn (T.item (bA X N scope cl f G.objs.size s2 h) U U U hc i [] s' _ H' _ I3 (lH a8) a4 go) λr s4 ⟨u,hr,h4⟩=>?_
   subst hr;refine thn h4 λ_ s5 ⟨y,H5,I5,r5,y5,a0,c1⟩=>?_
   have c2:=I5.pinned (lH c1) (T.obj _ _ a0);refine thn (hg f G.objs.size s2 h _ s5 _ H5 y u _ c2 r5 (step y H5 y5 R b6)) λ_ s6 ⟨c3,H6,I6,⟨a3,C1,e6⟩,q6⟩=>?_
   subst e6
   have again:∀{Z:St}{H7:Hp}{s7:Gk}{S:Nat},Z=dh x fr a3->Inv (bA X N scope cl f G.objs.size s2 h) ([]++kf f s5.heap) Z H7 s7->S<n->W (i+1) S H7 ->
     ∃m,m<n/\∃i R H',R.length=k/\Inv (bA X N scope cl f G.objs.size s2 h) [] (dh x fr R) H' s7/\tn i s7.heap/\(∀b∈f,H' b=Jq)/\W i m H':=λ{Z H7 s7 S} e7 I7 V w7=>by
    subst e7;refine⟨S,V,i+1,a3,H7,C1,I7.unpinned,T.keep _ _ _ a0 λb a o e=>(I7.pin (b,o) (jo _ (jo _ (dB a e)))).1,λb a=>?_,w7⟩;obtain⟨o,e,d⟩:=T.obj _ _ a0 b a;exact(I7.pin (b,o) (jo _ (jo _ (dB a e)))).2.1
   refine thn (ht f G.objs.size s2 h _ s6 _ H6 _ I6 q6) λok s7 ⟨H7,I7,q7⟩=>?_
   cases ok with
   |false =>
    rw[Jv Bool.false_ne_true]at q7⊢;obtain⟨S,V,w7⟩:=q7;exact again U I7 V w7
   |true =>
    rw[Jw U]at q7⊢;refine thn (he f G.objs.size s2 h _ s7 _ H7 _ I7 q7) λu8 s8 ⟨v8,H8,I8,r8,ys,b5,b3,S,V,w8⟩=>?_
    refine thn (bK (X:=bA X N scope cl f G.objs.size s2 h) _ s8 _ H8 (.ref s2.heap.objs.size) [v8] _ [u8] (λ_ H9=>W (i+1) S H9) I8 U (.cons r8 .nil) ⟨_,ys,v8,U,U,b5,b3,w8⟩) λ_ s9 ⟨_,H9,I9,_,w9⟩=>?_
    exact again U I9 V w9
 exact HL (P _ U) (T.self _ 0 _ _ _ a5 (P _ U))
theorem dM{i:TI}(hi:PI X tg iter i)(O:lI X N k fr scope cl)(u:X.calm=Jr)(r:∀b C s H,PG (bA X N scope cl b C s H) tg gt)(l:∀b C s H,PIf (bA X N scope cl b C s H) ifs tt)(t:∀b C s H,PE (bA X N scope cl b C s H) elt te)
  (n:∀v,GZ iter X.env v=pure v:=by intro _;rfl):PE X (.ListComp elt [⟨tg,iter,ifs,0⟩] scope pos) (vw i gt k fr tt te):=by
 intro a s g H Q I h;rw[HM];refine HN (use:=Jq) U n O.clos O.kind O.names (thn (hi a s g H _ I h) λv M B=>thn B λK s2 z=>?_);obtain⟨R,b,L,J,V,e,j,T,c,E,x⟩:=z;subst e;refine lJ (RR:=λf C=>HP (model X.prog X.w) X.A X.xe Jq (EP X a g Q) f C) O u j T c E l t r x λD C P G y o ⟨m,p⟩ F q=>?_
 exact⟨m,p,λS d=>⟨.ref D,G,j.left F y o d,U,q⟩⟩
theorem eK{K:W.Frag}{a:E2}{xs:List V}{j:St}{f:Hp}{Q:VK}(c:E2->Nat->List V->Hp->Prop)(s:∀D,f D=Jq->c D 0 [] (upd f D (.lst [])))
  (r:∀D i ys H,f D=Jq->i<=xs.length->c D i ys H->SqL K H a xs)
  (o:∀D i x ys H,f D=Jq->xs[i]?=Jp x->c D i ys H->∀ts:St,ts.length=k->gt x (dh j fr ts) H λd t=>(∃g:St,g.length=k/\d=dh j fr g)/\tt d t λb n=>if b=Jr then te d n (cQ c D i xs.length)else eH c D i xs.length n)
  (hd:∀D ys H,f D=Jq->c D xs.length ys H->Q (.ref D) H):jN (Itl K a) gt k fr tt te j Q f:=by
 intro D h;refine⟨λi m H=>m=xs.length-i/\i<=xs.length/\∃ys,c D i ys H,⟨_,U,xn _,[],s D h⟩,?_⟩;rintro i m H ⟨rfl,hi,ys,p⟩;have q:=r D i ys H h hi p;by_cases l:i<xs.length
 .refine .inr ⟨⟨xs,xs[i],q,by simp[l]⟩,λx u y=>?_⟩;obtain⟨e,y⟩:=y;subst e;exact o D i x ys _ h (y xs q) p
 .have e:i=xs.length:=by lia
  subst e;exact .inl ⟨⟨xs,q,wN _⟩,hd D ys H h p⟩
end
theorem iW{X:Cx}{K:W.Frag}{a:List Gs}{k:Nat}{t:TGs}{n:Nat}{pos:Pos}(e:X.K=K)(d:X.calm=Jr)(h:PGs X a t)(c:(GJ a X.env).length=n:=by rfl)(b:(GJ a X.env).findIdx? (·.1)=none:=by rfl):PG X (.Tuple a k pos) (A9 K n t):=e ▸ cJ d h c b
end L2
namespace Srt
open PySem PySem.W PyProof.Rows
def Ok(n:Nat)(lt:Nat->Nat->Bool){b:Type}:KasT b->(b->Prop)->Prop
 | .ret a,Q=>Q a
 | .ask i j k,Q=>i<n/\j<n/\Ok n lt (k (lt i j)) Q
section
variable{n:Nat}{lt:Nat->Nat->Bool}
abbrev g(p:Array Nat)(i:Nat):Nat:=p.getD i 0
structure Ord(lt:Nat->Nat->Bool):Prop where
 tr:∀a b c,lt b a=Js->lt c b=Js->lt c a=Js
 as:∀a b,lt a b=Jr->lt b a=Js
end
end Srt
namespace L2
open PySem PySem.Spec PySem.W PyProof.Rows
variable{prog:EX}{w:D0}{A:Gj}{E:De->Gk->Prop}{s:Gk}
variable{X:Cx}
theorem sR{n:Int}{p:Pr}:inR n p=Jr↔p.1<=n/\n<=p.2:=by
 unfold inR;simp only[A2,decide_eq_true_eq]
theorem sS{n:Int}{R:List Pr}:inP R n=Jr↔∃p∈R,p.1<=n/\n<=p.2:=by
 unfold inP;rw[tw];exact⟨λ⟨p,h,e⟩=>⟨p,h,sR.mp e⟩,λ⟨p,h,e⟩=>⟨p,h,sR.mpr e⟩⟩
structure FD(S A B A0 B0:List Pr):Prop where
 ap:Apart S
 aA:Apart A
 aB:Apart B
 mem:∀n,(inP A0 n && inP B0 n)=(inP S n || (inP A n && inP B n))
 gap:∀s∈S,(∀p∈A,s.2+2<=p.1)\/(∀p∈B,s.2+2<=p.1)
structure FP(F T:List Pr)(lo hi st:Int):Prop where
 ap:Apart F
 lt:∀s∈F,s.2+2<=st
 rng:∀s∈F,lo<=s.1/\s.2<=hi
 tk:∀p∈T,p.2<st
 fr:st=lo\/∃p∈T,st=p.2+1
 ge:lo<=st
 mem:∀n,lo<=n->n<=hi->n<st->inP F n = !inP T n
structure Walk(ts:List (Int×Int×Int)):Prop where
 le:∀t∈ts,t.1<=t.2.1
 nx:∀(i:Nat) a b,ts[i]?=Jp a->ts[i+1]?=Jp b->b.1=a.2.1+1
def pcs(msk:Int->Bool)(ts:List (Int×Int×Int))(n:Int):Bool:=ts.any λt=>inR n (t.1,t.2.1) && msk t.2.2
structure FQ(R:List Pr)(ts:List (Int×Int×Int))(msk:Int->Bool)(i:Nat)(at_:Int):Prop where
 ap:Apart R
 mem:∀n,inP R n=pcs msk (ts.take i) n
 lt:∀r∈R,r.2<at_
 few:2*R.length<=i\/(2*R.length<=i+1/\∃R' l,R=R'++[l]/\l.2=at_-1)
variable{i:Nat}
section
variable{R:List Pr}{ts:List (Int×Int×Int)}{msk:Int->Bool}{at_:Int}{t:Int×Int×Int}
end
def ends(R:List Pr):List Int:=R.flatMap λp=>[p.1,p.2+1]
theorem nM(R:List Pr)(p:Pr):ends (R++[p])=ends R++[p.1,p.2+1]:=by
 unfold ends;rw[List.flatMap_append];simp
theorem uh(R:List Pr)(p:Pr):ends (p :: R)=p.1 :: (p.2+1) :: ends R:=rfl
theorem lK{R:List Pr}{e:Int}:e∈ends R↔∃p∈R,e=p.1\/e=p.2+1:=by
 unfold ends;rw[pk];simp
def cnt:List Pr->Int
 | []=>0
 |p :: R=>(p.2-p.1+1)+cnt R
def b2(b:Bool):Int:=if b=Jr then 1 else 0
theorem kK(a:List Int):∀k,k<=a.length->preSum (λi=>a.getD i 0) k=(a.take k).sum
 |0,_=>rfl
 |k+1,h=>by
  have b:=kK a k (by lia);show preSum (λi=>a.getD i 0) k+a.getD k 0=_;have e:a[k]?=Jp a[k]:=Ga (by lia);rw[b,mL,e,List.sum_append,dV,e];simp
theorem fu(D:X.calm=Jr):cY X (.builtin "sum") (λus H Q=>∃(a:E2)(c:List Int),us=[.ref a]/\SqL X.K H a (c.map V.int)/\Q (.int c.sum) H):=by
 intro p s J H us L Q I r h;obtain⟨a,c,rfl,B,q⟩:=h;obtain⟨u,rfl,x⟩:=r.one;cases (show u=De.ref a from x);obtain⟨d,l,j,N⟩:=I.list B;have k:=l.length;rw[bo]at k;obtain⟨M,G,_⟩:=id j.isList;have f:a<s.heap.objs.size:=FG.lt_size G;refine call_sum_walkG (GW j.isList ?_);refine⟨s.heap.objs.size,[s.heap.objs.size,a],[s.heap.objs.size],_,_,_,λi=>c.getD i 0,U,GV.list (A:=X.A.in1) (I.ok.hd D) _ a (wO f) d.toArray,⟨⟨_,FG.get?_push_size _ U,U,U⟩,j.isList.at λo e=>FG.get?_push_of_some _ e⟩,λb E=>?_,λi v e=>?_,λO w t' C=>?_⟩
 .show b<(s.heap.push _).objs.size;rw[FG.size_push];rcases dy.mp E with z|z
  .rw[z];exact yi _
  .have g:b=a:=by simpa using z
   rw[g];exact xu f
 .have n:d[i]?=Jp v:=by simpa using e
  have hi:i<c.length:=by rw[k];exact(Gb.mp n).1
  have F:(c.map V.int)[i]?=Jp (.int c[i]):=by rw[eU,Ga hi];rfl
  obtain⟨u,m,y⟩:=l.get F;rw[n]at m;cases m;obtain⟨t,rfl⟩:=y;exact⟨t,by show De.int c[i] t=De.int (c.getD i 0) t;rw[dV,Ga hi];rfl⟩
 .refine⟨.int c.sum,H,I.kept (t':=w) λb o e=>C b o (λz=>?_) (FG.get?_push_of_some _ e),⟨t',?_⟩,q⟩
  .have g:b=s.heap.objs.size:=by simpa using z
   exact Jx (FG.lt_size e) (by rw[g];exact yb _)
  .rw[dt,←k,kK c _ (wN _),fq]
def NeS(W:List (Int×Int×Int)):Prop:=∀(j:Nat) a b,W[j]?=Jp a->W[j+1]?=Jp b->a.2.2≠b.2.2
structure FE(G ts:List (Int×Int×Int))(i:Nat):Prop where
 walk:Walk G
 ne:NeS G
 pcs:∀msk n,pcs msk G n=L2.pcs msk (ts.take i) n
 hd:∀t,ts[0]?=Jp t->0<i->∃g,G[0]?=Jp g/\g.1=t.1
 lst:∀t,ts[i-1]?=Jp t->0<i->∃G' g,G=G'++[g]/\g.2.1=t.2.1/\g.2.2=t.2.2
 len:G.length<=i
 stt:∀g∈G,∃t∈ts,g.2.2=t.2.2
section
variable{G ts:List (Int×Int×Int)}{t:Int×Int×Int}
end
def Its(z:Str):It:=⟨λi _=>i<z.cps.size,λi H x a=>a=H/\∃c,z.cps[i]?=Jp c/\x=.str ⟨#[c]⟩,λi _=>z.cps.size<=i⟩
theorem rB{P:EX}{w:D0}{K:W.Frag}{L:Gs}(z:Str)(t:Tok)(it:E2):Turn P w K L (Its z) [it] it (λi h=>h.IsStrIter it "str_ascii_iterator" z t i) where
 mem:=by simp
 obj:=λi h f b g=>by
  obtain⟨o,e,c,d⟩:=f;rw[show b=it by simpa using g];exact⟨o,e,λv q=>by rw[d]at q;cases q⟩
 keep:=λi h m ⟨o,e,r⟩ k=>⟨o,k it (by simp) o e,r⟩
 item:=by
  intro X u n x J i a s G H E I l f p;subst u n x;have F:i<z.cps.size:=p;have hi:z.cps[i]?=Jp z.cps[i]:=AK F;obtain⟨D,C,N,B,A,y⟩:=l it (by simp);refine wpAny_pyNext_ascii_item f hi λm j M=>?_
  have Q:Inv X a G H { s with heap:=m,toks:=s.toks+1 }:=I.turned (t':=s.toks+1) (λb o g e=>(M.2 b g).trans e) D C B A y;obtain⟨o,e,c,d⟩:=id j;exact⟨_,U,ny (s:={ s with heap:=m,toks:=s.toks+1 }) e c d (by decide) ⟨.str ⟨#[z.cps[i]]⟩,H,Q,⟨_,U⟩,⟨U,_,hi,U⟩,j,λb g=>(l b g).1⟩⟩
 done:=by
  intro X u n x J i a s G H E I l f p;subst u n x;obtain⟨D,C,N,B,A,y⟩:=l it (by simp);exact wpAny_pyNext_ascii_end (I.ok.hd J) f (by simpa using(show z.cps.size<=i from p)) λm O=>⟨U,I.turned (t':=s.toks) (λb o g e=>O b o g e) D C B A y⟩
 self:=λ_ _ _ _ _ f h=>wpAny_pyIter_striter_ascii f h
theorem ui{P:EX}{w:D0}{K:W.Frag}{L:Gs}(z:Str)(t:Tok)(it:E2):Turn P w K L (Its z) [it] it (λi h=>h.IsStrIter it "str_iterator" z t i) where
 mem:=by simp
 obj:=λi h f b g=>by
  obtain⟨o,e,c,d⟩:=f;rw[show b=it by simpa using g];exact⟨o,e,λv q=>by rw[d]at q;cases q⟩
 keep:=λi h m ⟨o,e,r⟩ k=>⟨o,k it (by simp) o e,r⟩
 item:=by
  intro X u n x J i a s G H E I l f p;subst u n x;have F:i<z.cps.size:=p;have hi:z.cps[i]?=Jp z.cps[i]:=AK F;obtain⟨D,C,N,B,A,y⟩:=l it (by simp);refine wpAny_pyNext_wide_item f hi λm j M=>?_
  have Q:Inv X a G H { s with heap:=m,toks:=s.toks+1 }:=I.turned (t':=s.toks+1) (λb o g e=>(M.2 b g).trans e) D C B A y;obtain⟨o,e,c,d⟩:=id j;exact⟨_,U,ny (s:={ s with heap:=m,toks:=s.toks+1 }) e c d (by decide) ⟨.str ⟨#[z.cps[i]]⟩,H,Q,⟨_,U⟩,⟨U,_,hi,U⟩,j,λb g=>(l b g).1⟩⟩
 done:=by
  intro X u n x J i a s G H E I l f p;subst u n x;obtain⟨D,C,N,B,A,y⟩:=l it (by simp);exact wpAny_pyNext_wide_end (I.ok.hd J) f (by simpa using(show z.cps.size<=i from p)) λm O=>⟨U,I.turned (t':=s.toks) (λb o g e=>O b o g e) D C B A y⟩
 self:=λ_ _ _ _ _ f h=>wpAny_pyIter_striter_wide f h
section
variable{tg:Gs}
inductive yB  (R:(It->Hp->Prop))(x:V)(H1:Hp):Prop
 |mk (z:_)(_:x=.str z)(_:R (Its z) H1):yB R x H1
def C2(b:TE):W.Frag->St->Hp->(It->Hp->Prop)->Prop:=λ_ a H R=>b a H λx c=>yB R x c
theorem zO{l:Gs}{i:TE}(n:PE X l i):PI X tg l (C2 i X.K):=by
 intro c s j H R I h;refine thn (n c s j H _ I h) λv a ⟨x,g,f,k,m⟩=>?_
 obtain⟨z,e,q⟩:=m;subst e;obtain⟨t,rfl⟩:=k;have d:∀b∈[a.heap.objs.size],ke X c g b:=λb p=>by
  rw[show b=a.heap.objs.size by simpa using p];exact f.fpOk (wN _) (f.hok.fresh (wN _))
 cases ha:z.cps.all (· < 128) with
 |true=>exact wpAny_pyIter_ascii ha ⟨a.heap.objs.size,[a.heap.objs.size],_,_,g,U,f.kept (t':=a.toks) λb o e=>FG.get?_push_of_some _ e,rB z t _,⟨_,FG.get?_push_size _ U,U,U⟩,d,q⟩
 |false=>exact wpAny_pyIter_wide ha ⟨a.heap.objs.size,[a.heap.objs.size],_,_,g,U,f.kept (t':=a.toks) λb o e=>FG.get?_push_of_some _ e,ui z t _,⟨_,FG.get?_push_size _ U,U,U⟩,d,q⟩
end
theorem xo{z:Str}{g:TG}{k:TS}{D:Ends}{a:St}{H:Hp}(b:Nat->St->Hp->Prop)(t:b 0 a H)
  (r:∀i c a H,z.cps.toList[i]?=Jp c->b i a H->g (.str ⟨#[c]⟩) a H λd j=>k { D with nx:=b (i+1),ct:=b (i+1),bk:=D.nx } d j)(s:∀a H,b z.cps.size a H->D.nx a H) :
  ∃W:Nat->Nat->St->Hp->Prop,(∃m,W 0 m a H)/\∀i m a H,W i m a H ->
   ((Its z).stop i H/\D.nx a H)\/((Its z).go i H/\∃N:St->Hp->Prop,(∀f H',N f H'->∃l,l<m/\W (i+1) l f H')/\∀x H',(Its z).yld i H x H'->g x a H' λd j=>k { D with nx:=N,ct:=N,bk:=D.nx } d j):=by
 refine⟨λi m a H=>m=z.cps.size-i/\i<=z.cps.size/\b i a H,⟨_,U,xn _,t⟩,?_⟩;rintro i m a H ⟨rfl,hi,p⟩;by_cases h:i<z.cps.size
 .refine .inr ⟨h,b (i+1),λf H' q=>⟨z.cps.size-(i+1),by lia,U,h,q⟩,λx H' y=>?_⟩;obtain⟨e,c,o,n⟩:=y;subst e;subst n;exact r i c a _ (by simpa using o) p
 .have e:i=z.cps.size:=by lia
  subst e;exact .inl ⟨wN _,s a H p⟩
theorem nN{x:Str}{v:V}{pos:Pos}(a:Gl X x)(h:∃u,X.mg x=Jp u/\RelV v u)(b:(x == ("__debug__" : Str))=false:=by decide):PE X (.Name x pos) (tC v):=by
 obtain⟨_,m,r⟩:=h;exact cg a m r b
def sg(g:Str)(c:Nat):Bool:=!(GX.Str.occurrences g ⟨#[c]⟩ 0 g.length 1).isEmpty
def lL(z g:Str):Bool:=z.cps.toList.all (sg g)
open PySem.NumText
structure FR(cs:List Nat):Prop where
 all:AllDigits cs
 one:cs.length=1\/∃c r,cs=c :: r/\49<=c
theorem sT{X:Cx}:OpR X (G0 .Mult) (rI G1 λi j=>.int (i*j)):=opI λ_ _ _ _ _ _ _ a q=>mul_int q a
def C3(h:FG)(e T:E2)(cls f:De):Prop :=
 ∃b a d c,h.get? e=Jp b/\(b.cls=cls/\a[0]?=Jp f)/\b.data=.fields a/\a[1]?=Jp (.ref T)/\T≠e/\h.get? T=Jp d/\d.data=.fields c/\c[3]?=Jp .none
structure Stp(F X:List E2)(h h':FG):Prop where
 keep:∀b o,b ∉ F->b ∉ X->h.get? b=Jp o->h'.get? b=Jp o
 slot:∀b o,b∈F->h.get? b=Jp o->∃sl,h'.get? b=Jp { o with slots:=sl }
variable{base:FG}{e:E2}{oe:Obj}
section
variable{M:Gp}{env:Env}{outer:List Env}{L T:E2}{vs:Array De}{a0 cls:De}{Q:Unit->Gk->Prop}
end
variable{P:EX}{H:Hp}
section
variable{H':Hp}{h h':FG}{a:E2}{o:HO}{F Y fs:List E2}
end
structure yC(X:Cx)(Ju:List (E2×Obj))(H:Hp)(b:E2):Prop where
 ent:X.s₀.heap.get? b=Jq
 unt:H b=Jq
 loc:b≠X.env.locals
 cel:∀x c,X.env.cells.lookup x=Jp c->c≠b
 pin:∀p∈X.pn++Ju,p.1≠b
variable{Ju:List (E2×Obj)}{σ:St}
section
variable{h':FG}{T:E2}
end
structure C4(K:W.Frag)(C:E2):Prop where
 ex:∃(bmB bmN:List De)(newId B Bn nid zP inN:String),W.excIn K C bmB newId=Jr/\ExcBaseFacts Bn newId inN bmN/\bmB.contains (De.type Bn)=Jr/\ExcBaseFacts B nid zP bmB
variable{K:W.Frag}
section
variable{mg:Str->Option De}{N:List Str}{qual:Str}{scope:Gm}{f:E2}{cd:De}{outer:List Env}{s0:Gk}{H0:Hp}{E:XK}
end
def XP(X:Cx)(Ju:List (E2×Obj))(σ:St)(d:E2->Hp->Prop)(b:De)(s':Gk):Prop :=
 ∃(e T C:E2)(c:De)(a:Hp),b=.ref e/\Inv X Ju σ a s'/\C3 s'.heap e T (.ref C) c/\yC X Ju a e/\yC X Ju a T/\d C a
section
variable{s':Gk}
end
variable{k:Nat}{x:Str}{ps:List Str}{sp:Sp}{pos:Pos}
section
variable{e:Gs}{es:List Gs}{t:TA}{p:Pos}
abbrev TSX:=Ends->St->Hp->(E2->Hp->Prop)->Prop
end
section
variable{s':Gk}
end
section
variable{st b₀:Gx}{su:List Gx}{tb:TSX}{ts:E2->E2->TS}{Tn n:Str}{B:E2}{np C5:Pos}
end
structure Cy(K:W.Frag)(C:E2):Prop where
 ga:W.findIn K (.ref C) "__getattribute__" = Jp (Jp (.builtin "BaseException.__getattribute__"))
 hk:W.findIn K (.ref C) "__getattr__" = Jp Jq
 cl:W.findIn K (.ref C) "__class__" = Jp (Jp (.builtin "object.__class__"))
 gt:W.specialIn K (.builtin "object.__class__") "__get__" = Jp (Jp (.builtin "getset_descriptor.__get__"))
 tk:W.takesIn K (.builtin "object.__class__")=Jp Jr
 ob:W.mroIn K C (.type "object")=Jp Jr
 be:W.mroIn K C (.type "BaseException")=Jp Jr
 me:W.kitCls K (.ref C) (.ref C)=Jp Jr
variable{C:E2}
theorem len_app(x y:Str):(x++y).length=x.length+y.length:=by
 show(Str.append x y).cps.size=x.cps.size+y.cps.size;unfold Str.append;simp
theorem lM:OpR X (G0 .Mult) (λx y H Q=>∃z n,x=.str z/\y=.int n/\MulOk z n/\Q (.str (Txt.mul z n)) H):=by
 intro Ju s σ H x y v u Q I c b h;obtain⟨z,n,rfl,rfl,d,q⟩:=h;obtain⟨t,rfl⟩:=c;obtain⟨a,rfl⟩:=b;exact PySem.SB.mul d λa k=>⟨.str _,H,I.tok _,⟨_,U⟩,q⟩
def bf(CX:CXT)(P:EX)(w:D0)(K:W.Frag)(mg:Str->Option De)(base:FG)(k:Nat)(C:E2)(m:Str)(ps:List Str)(sp:Sp):Prop :=
 ∃f a,Meth K C m f/\aK P w K mg base CX k f a ps sp/\Binds K a ps []
def bh(CX:CXT)(P:EX)(w:D0)(K:W.Frag)(mg:Str->Option De)(base:FG)(k:Nat)(x:Str)(C:E2)(ps:List Str)(sp:Sp):Prop :=
 ∃f a,Mk K C f/\aK P w K mg base CX k f a ps sp/\Binds K a ps []/\mg x=Jp (.ref C)
structure Bt(K:W.Frag)(B:E2)(m:Str)(f:E2):Prop where
 sp:W.specialIn K (.ref B) "__getattribute__" = Jp (Jp (.builtin "type.__getattribute__"))
 rd:W.readsIn K B (.type "type")=Jr
 at_:W.findCls K (.ref B) (.type "type") m=Jp (.val (.ref f))
 kp:W.keepIn K (.ref f)=Jr
def b7(CX:CXT)(P:EX)(w:D0)(K:W.Frag)(mg:Str->Option De)(base:FG)(k:Nat)(x:Str)(m:Str)(ps:List Str)(sp:Sp):Prop :=
 ∃f a B,Bt K B m f/\aK P w K mg base CX k f a ps sp/\Binds K a ps []/\mg x=Jp (.ref B)
section
variable{CX:CXT}{mg:Str->Option De}{j:Nat}{m:Str}
theorem bf.mono(c:bf CX P w K mg base j C m ps sp)(h:j<=k):bf CX P w K mg base k C m ps sp:=by
 obtain⟨f,a,M,F,b⟩:=c;exact⟨f,a,M,F.mono h,b⟩
theorem bh.mono(c:bh CX P w K mg base j x C ps sp)(h:j<=k):bh CX P w K mg base k x C ps sp:=by
 obtain⟨f,a,M,F,b⟩:=c;exact⟨f,a,M,F.mono h,b⟩
theorem b7.mono(c:b7 CX P w K mg base j x m ps sp)(h:j<=k):b7 CX P w K mg base k x m ps sp:=by
 obtain⟨f,a,B,M,F,b⟩:=c;exact⟨f,a,B,M,F.mono h,b⟩
end
inductive Bu(C:E2)(m:Str)(sp:Sp)(t:TA)(σ:St)(Q:VK)(x:V)(H1:Hp):Prop
 |mk (a dx fs:_)(_:x=.ref a)(_:H1 a=Jp (.ins C dx fs))(_:fs.lookup m=Jq)(_:t σ H1 λvs H2=>sp (x :: vs) H2 Q E0)
def tMt(C:E2)(m:Str)(sp:Sp)(a:TE)(t:TA):TE:=λσ H Q=>a σ H λx b=>Bu C m sp t σ Q x b
def tMk(C:E2)(sp:Sp)(t:TA):TE:=λσ H Q=>t σ H λc b=>∀x a,b x=Jq->b a=Jq->a≠x ->
 sp (.ref x :: c) (upd (upd b a (.own x)) x (.ins C a [])) (λv d=>v=.non/\Q (.ref x) d) E0
section
variable{CX:CXT}{f:E2}{fd:He}{m:Str}{p np apos:Pos}{e o:Gs}{es:List Gs}{ta:TE}{t:TA}
theorem zQ{Ju:List (E2×Obj)}{σ:St}{H:Hp}{s:Gk}{Q:VK}{us:List De}{vs:List V}{E:XK}(F:aK X.prog X.w X.K X.mg X.base CX k f fd ps sp)(b:bU k X.A)(c:Binds X.K fd ps [])(a:Passes CX X E)
  (I:Inv X Ju σ H s)(r:Vals vs us)(h:sp vs H Q E):Gq (model X.prog X.w) X.A (call (.ref f) us) (EP X Ju σ Q) X.xe s :=
 rm (dvs:=[]) (ds:=[]) F b c .nil a I r (by rw[jt];exact h)
theorem nO{pl:Sem Bool}(M:bf CX X.prog X.w X.K X.mg X.base k C m ps sp)(z:Passes CX X E0)(c:Cls X.K C)(D:bU k X.A)(E:PE X o ta)(J:PA X (e :: es) t)
  (b:Gw (e :: es) X.env=(Js,eval e X.env) :: Gw es X.env:=by rfl)(d:(Gv pos (Gw es X.env)).any (·.1)=false:=by rfl)
  (B:eval (.Call (.Attribute o m apos) (e :: es) [] pos) X.env=(do
   let g ←eval o X.env
   GC apos.atName
   let (f,first) ←holding [g] (G7 g m pl)
   HR pos f first (Gv pos (Gw (e :: es) X.env)) (Hy pos (Hz [] X.env))):=by rfl) :
  PE X (.Call (.Attribute o m apos) (e :: es) [] pos) (tMt C m sp ta t):=by
 obtain⟨f,fd,i,F,G⟩:=M;intro Ju s σ H Q I h;refine W.methodCall_KW (pl:=pl) (thn (E Ju s σ H _ I h) λu p ⟨x,O,n,v,a,P,fs,L,N,l,q⟩=>?_) B;subst L;obtain rfl:u=De.ref a:=v;refine lD n N c i l ?_;refine W.callWith_K (first:=[.ref a]) (h₀:=X.base) I.ok.mod.kin i.kp (thn (J pos Ju p σ O _ n q) λus s2 ⟨vs,R,j,r,y⟩=>⟨j.kIn,?_⟩) b d;exact zQ (us:=.ref a :: us) (vs:=.ref a :: vs) F D G z j (.cons U r) y
theorem fe{pl:Sem Bool}(M:b7 CX X.prog X.w X.K X.mg X.base k x m ps sp)(l:Passes CX X E0)(o:bU k X.A)(q:Gl X x)(y:PA X (e :: es) t)(d:(x == ("__debug__" : Str))=false:=by decide)
  (b:Gw (e :: es) X.env=(Js,eval e X.env) :: Gw es X.env:=by rfl)(c:(Gv pos (Gw es X.env)).any (·.1)=false:=by rfl)
  (n:eval (.Call (.Attribute (.Name x np) m apos) (e :: es) [] pos) X.env=(do
   let g ←eval (.Name x np) X.env
   GC apos.atName
   let (f,first) ←holding [g] (G7 g m pl)
   HR pos f first (Gv pos (Gw (e :: es) X.env)) (Hy pos (Hz [] X.env))):=by rfl) :
  PE X (.Call (.Attribute (.Name x np) m apos) (e :: es) [] pos) (tFn sp t):=by
 obtain⟨f,fd,B,a,F,u,p⟩:=M;intro Ju s σ H Q I h;refine W.methodCall_KW (pl:=pl) (ir I q p ?_ d) n;refine W.method_cls I.kIn a.sp (W.cls_value (mc:=.type "type") I.kIn a.rd a.at_ (nF (v:=.ref f) U) ?_);refine W.callWith_K (first:=[]) (h₀:=X.base) I.ok.mod.kin a.kp (thn (y pos Ju _ σ H _ (I.tok _) h) λus s2 ⟨vs,z,i,r,j⟩=>⟨i.kIn,?_⟩) b c;exact zQ (us:=us) (vs:=vs) F o u l i r j
theorem sU(M:bh CX X.prog X.w X.K X.mg X.base k x C ps sp)(l:Passes CX X E0)(m:bU (k+1) X.A)(o:Gl X x)(u:PA X (e :: es) t)(i:(x == ("__debug__" : Str))=false:=by decide)
  (he:Gw (e :: es) X.env=(Js,eval e X.env) :: Gw es X.env:=by rfl)(g:(Gv pos (Gw es X.env)).any (·.1)=false:=by rfl) :
  PE X (.Call (.Name x p) (e :: es) [] pos) (tMk C sp t):=by
 obtain⟨f,fd,M,F,r,n⟩:=M;have h:=xj (E:=E0) (dvs:=[]) (ds:=[]) (p:=p) M F m o n r .nil l u i he g;intro Ju s σ H Q I q;refine h Ju s σ H Q I ?_;have j:t σ H λc b=>∀x a,b x=Jq->b a=Jq->a≠x->sp (.ref x :: c) (upd (upd b a (.own x)) x (.ins C a [])) (λv d=>v=.non/\Q (.ref x) d) E0:=q
 show t σ H λc b=>∀x a,b x=Jq->b a=Jq->a≠x->sp (.ref x :: (c++[])) (upd (upd b a (.own x)) x (.ins C a [])) (λv d=>v=.non/\Q (.ref x) d) E0
 have y:(λ(c:List V)(b:Hp)=>∀x a,b x=Jq->b a=Jq->a≠x->sp (.ref x :: (c++[])) (upd (upd b a (.own x)) x (.ins C a [])) (λv d=>v=.non/\Q (.ref x) d) E0)=λc b=>∀x a,b x=Jq->b a=Jq->a≠x->sp (.ref x :: c) (upd (upd b a (.own x)) x (.ins C a [])) (λv d=>v=.non/\Q (.ref x) d) E0:=by
  funext c b
  rw[jt]
 rw[y];exact j
end
inductive vx(K:W.Frag)(neg:Bool)(x:V)(y:V)(H:Hp)(Q:VK):Prop
 |mk (a b xs ys:_)(_:x=.ref a)(_:y=.ref b)(_:SqT K H a xs)(_:SqT K H b ys)(f:Nat->Bool)(_:(∀j x y,xs[j]?=Jp x->ys[j]?=Jp y->EqI K H x y (f j)))(_:Q (.bl (if neg then !((List.range (min xs.length ys.length)).all f && xs.length == ys.length) else(List.range (min xs.length ys.length)).all f && xs.length == ys.length)) H)
theorem zR{k:Nat}(o:bU k X.A):OpR X (G3 .Eq) (vx X.K Js):=by
 intro Ju s σ H x y v u Q I j i h;obtain⟨a,b,C,B,rfl,rfl,z,w,f,t,q⟩:=h;cases (show v=De.ref a from j);cases (show u=De.ref b from i);obtain⟨d,r,p,_⟩:=I.tuple z;obtain⟨c,g,l,_⟩:=I.tuple w;have n:=r.length;have m:=g.length;have D:=o.units;refine SeqAt.eq_tupleAt (e:=f) (show s.heap.IsTuple a d.toArray from p) (show s.heap.IsTuple b c.toArray from l) (by lia) (oM I (by show X.A.units+1+1<Hc;lia) r g t) ⟨.bl _,H,I,U,?_⟩;simp only[dt];rw[←n,←m];exact q
theorem vy{k:Nat}(o:bU k X.A):OpR X (G3 .NotEq) (vx X.K Jr):=by
 intro Ju s σ H x y v u Q I j i h;obtain⟨a,b,D,C,rfl,rfl,B,z,f,t,q⟩:=h;cases (show v=De.ref a from j);cases (show u=De.ref b from i);obtain⟨d,r,p,_⟩:=I.tuple B;obtain⟨c,g,l,_⟩:=I.tuple z;have n:=r.length;have m:=g.length;have E:=o.units;refine SeqAt.RcNeAt.tuples (e:=f) (show s.heap.IsTuple a d.toArray from p) (show s.heap.IsTuple b c.toArray from l) (by lia) (oM I (by show X.A.units+1+1<Hc;lia) r g t) X.prog X.w X.xe _ ⟨.bl _,H,I,U,?_⟩;simp only[dt];rw[←n,←m];exact q
theorem uj{K:W.Frag}{H:Hp}{Q:VK}{a b:E2}{xs:List V}(f:SqT K H a xs)(e:SqT K H b xs)(fl:∀x∈xs,dZ x=Jr)(q:Q (.bl Jr) H):vx K Js (.ref a) (.ref b) H Q:=by
 refine⟨a,b,xs,xs,U,U,f,e,λ_=>Jr,λj x y d c=>?_,?_⟩
 .rw[d]at c;cases c;have z:=fl x (Gd d);have:=EqI.flat (K:=K) (H:=H) z z;rw[jK z]at this;exact this
 .have:(List.range (min xs.length xs.length)).all (λ_=>Jr)=true:=by simp
  show Q (.bl ((List.range (min xs.length xs.length)).all (λ_=>Jr) && xs.length == xs.length)) H;rw[this,beq_self_eq_true,Bool.and_true];exact q
theorem aK.no{P:EX}{w:D0}{K:W.Frag}{mg:Str->Option De}{base:FG}{CX:CXT}{k:Nat}{f:E2}{a:He}{ps:List Str}{sp:Sp}(h:∀vs H Q E,¬ sp vs H Q E):aK P w K mg base CX k f a ps sp :=
 ⟨λvs H Q E q=>(h vs H Q E q).elim,λ_ _ _ H _ _ vs Q E _ _ _ _ q=>(h vs H Q E q).elim⟩
theorem jO{X:Cx}{K:W.Frag}{e:Gs}{f:Str}{pos:Pos}{a:TE}(h:X.K=K)(b:PE X e a)(c:Ha e f X.env (eval e X.env)=eval e X.env):PE X (.Attribute e f pos) (Bg K a f):=h ▸ aN b c
set_option maxRecDepth 100000
inductive DEq(K:W.Frag)(H:Hp):Nat->V->V->Bool->Prop where
 |flat {n:Nat}{x y:V}(fx:dZ x=Jr)(fy:dZ y=Jr):DEq K H n x y (eqV x y)
 |same {n:Nat}(a:E2):DEq K H n (.ref a) (.ref a) Jr
 |lst {n:Nat}{a b:E2}{xs ys:List V}{f:Nat->Bool}(ne:a≠b)(ha:SqL K H a xs)(hb:SqL K H b ys)(hl:xs.length=ys.length)(h:∀(j:Nat)(x y:V),xs[j]?=Jp x->ys[j]?=Jp y->DEq K H n x y (f j)):DEq K H (n+1) (.ref a) (.ref b) ((List.range xs.length).all f)
 |lst_ne {n:Nat}{a b:E2}{xs ys:List V}(ne:a≠b)(ha:SqL K H a xs)(hb:SqL K H b ys)(hl:xs.length≠ys.length):DEq K H (n+1) (.ref a) (.ref b) Js
 |tup {n:Nat}{a b:E2}{xs ys:List V}{f:Nat->Bool}(ne:a≠b)(ha:SqT K H a xs)(hb:SqT K H b ys)(h:∀(j:Nat)(x y:V),xs[j]?=Jp x->ys[j]?=Jp y->DEq K H n x y (f j)):DEq K H (n+1) (.ref a) (.ref b) ((List.range (min xs.length ys.length)).all f && xs.length == ys.length)
theorem DEq.mono{K:W.Frag}{H:Hp}{n m:Nat}{x y:V}{b:Bool}(e:DEq K H n x y b)(h:n<=m):DEq K H m x y b:=by
 induction e generalizing m with
 |flat p o=>exact .flat p o
 |same a=>exact .same a
 |lst ne d c g _ f =>
  obtain⟨m,rfl⟩:∃k,m=k+1:=⟨m-1,by lia⟩;exact .lst ne d c g λj x y l i=>f j x y l i (by lia)
 |lst_ne ne d c g =>
  obtain⟨m,rfl⟩:∃k,m=k+1:=⟨m-1,by lia⟩;exact .lst_ne ne d c g
 |tup ne d c _ f =>
  obtain⟨m,rfl⟩:∃k,m=k+1:=⟨m-1,by lia⟩;exact .tup ne d c λj x y l i=>f j x y l i (by lia)
theorem kj{xs:List V}{a:List De}(r:Vals xs a){j:Nat}(h:j<a.toArray.size):∃x,xs[j]?=Jp x/\RelV x a.toArray[j]:=by
 have f:j<a.length:=by simpa using h
 have i:=r.length;have b:xs[j]?=Jp xs[j]:=Ga (by lia);obtain⟨d,c,e⟩:=r.get b;have g:a.toArray[j]=d:=by
  have:=Ga f;rw[this]at c;simpa using Option.some.inj c
 exact⟨xs[j],b,g ▸ e⟩
theorem DEq.at{n:Nat}{x y:V}{b:Bool}(e:DEq X.K H n x y b)(I:Inv X Ju σ H s):∀{A:Gj}{u v:De},A.units+n<Hc->RelV x u->RelV y v->SeqAt.EqAt A s u v b:=by
 induction e with
 |flat G F=>intro A u v o i g;exact rq i g G F
 |same a =>
  intro A u v o i g;cases (show u=De.ref a from i);cases (show v=De.ref a from g);exact SeqAt.EqAt.same _
 | @lst n a b xs ys f ne ha hb hl h ih =>
  intro A u v o i g;cases (show u=De.ref a from i);cases (show v=De.ref b from g);obtain⟨d,r,p,_⟩:=I.list ha;obtain⟨c,k,l,_⟩:=I.list hb;have E:=r.length;have D:=k.length;have m:=SeqAt.RcAt.lists (A:=A) (e:=f) p.isList l.isList (by simp only[dt];lia) (by lia) (λj z w=>by
   obtain⟨x,C,t⟩:=kj r z;obtain⟨y,B,q⟩:=kj k w;exact ih j x y C B (by show A.units+1+n<Hc;lia) t q)
  rw[show d.toArray.size=xs.length by simp only[dt];lia]at m;exact SeqAt.EqAt.of_refs ne m
 | @lst_ne n a b xs ys ne ha hb hl =>
  intro A u v o i g;cases (show u=De.ref a from i);cases (show v=De.ref b from g);obtain⟨d,r,p,_⟩:=I.list ha;obtain⟨c,k,l,_⟩:=I.list hb;have E:=r.length;have D:=k.length;exact SeqAt.EqAt.of_refs ne (SeqAt.RcAt.lists_lengths p.isList l.isList (by simp only[dt,bne_iff_ne,ne_eq];lia) (by lia))
 | @tup n a b xs ys f ne ha hb h ih =>
  intro A u v o i g;cases (show u=De.ref a from i);cases (show v=De.ref b from g);obtain⟨d,r,p,_⟩:=I.tuple ha;obtain⟨c,k,l,_⟩:=I.tuple hb;have E:=r.length;have D:=k.length;have m:=SeqAt.RcAt.tuples (A:=A) (e:=f) (show s.heap.IsTuple a d.toArray from p) (show s.heap.IsTuple b c.toArray from l) (by lia) (λj z w=>by
   obtain⟨x,C,t⟩:=kj r z;obtain⟨y,B,q⟩:=kj k w;exact ih j x y C B (by show A.units+1+n<Hc;lia) t q)
  rw[show d.toArray.size=xs.length by simp only[dt];lia,show c.toArray.size=ys.length by simp only[dt];lia]at m;exact SeqAt.EqAt.of_refs ne m
inductive pV(K:W.Frag)(neg:Bool)(x:V)(y:V)(H:Hp)(Q:VK):Prop
 |mk (a b xs ys:_)(_:x=.ref a)(_:y=.ref b)(_:SqL K H a xs)(_:SqL K H b ys)(_:((xs.length≠ys.length/\Q (.bl neg) H)\/(xs.length=ys.length/\∃f:Nat->Bool,(∀(j:Nat)(x y:V),xs[j]?=Jp x->ys[j]?=Jp y->DEq K H 60 x y (f j))/\Q (.bl (if neg then !(List.range xs.length).all f else(List.range xs.length).all f)) H)))
inductive sV(K:W.Frag)(neg:Bool)(x:V)(y:V)(H:Hp)(Q:VK):Prop
 |mk (a b xs ys:_)(_:x=.ref a)(_:y=.ref b)(_:SqT K H a xs)(_:SqT K H b ys)(f:Nat->Bool)(_:(∀(j:Nat)(x y:V),xs[j]?=Jp x->ys[j]?=Jp y->DEq K H 60 x y (f j)))(_:Q (.bl (if neg then !((List.range (min xs.length ys.length)).all f && xs.length == ys.length) else(List.range (min xs.length ys.length)).all f && xs.length == ys.length)) H)
theorem oO{Ju:List (E2×Obj)}{σ:St}{H:Hp}{s:Gk}{A:Gj}{xs ys:List V}{a its':List De}{f:Nat->Bool}(I:Inv X Ju σ H s)(h:A.units+60<Hc)(r:Vals xs a)(d:Vals ys its')
  (hf:∀(j:Nat)(x y:V),xs[j]?=Jp x->ys[j]?=Jp y->DEq X.K H 60 x y (f j)):∀j (c:j<a.toArray.size)(b:j<its'.toArray.size),SeqAt.EqAt A s a.toArray[j] its'.toArray[j] (f j):=λj c b=>by
 obtain⟨x,k,g⟩:=kj r c;obtain⟨y,i,e⟩:=kj d b;exact(hf j x y k i).at I h g e
theorem xp{k:Nat}(n:bU k X.A):OpR X (G3 .Eq) (pV X.K Js):=by
 intro Ju s σ H x y v u Q I m l h;obtain⟨a,b,j,z,rfl,rfl,w,t,h⟩:=h;cases (show v=De.ref a from m);cases (show u=De.ref b from l);obtain⟨c,r,p,_⟩:=I.list w;obtain⟨i,d,g,_⟩:=I.list t;have C:=r.length;have B:=d.length;have D:=n.units;rcases h with⟨E,q⟩|⟨F,f,o,q⟩
 .refine SeqAt.eq_list_lengthsAt p.isList g.isList (by simp only[dt,bne_iff_ne,ne_eq];lia) (by lia) ⟨.bl Js,H,I,U,q⟩
 .refine SeqAt.eq_listAt (e:=f) p.isList g.isList (by simp only[dt];lia) (by lia) (oO I (by show X.A.units+1+60<Hc;lia) r d o) ⟨.bl _,H,I,U,?_⟩;rw[show c.toArray.size=j.length by simp only[dt];lia];exact q
theorem xq{k:Nat}(n:bU k X.A):OpR X (G3 .NotEq) (pV X.K Jr):=by
 intro Ju s σ H x y v u Q I m l h;obtain⟨a,b,j,B,rfl,rfl,z,t,h⟩:=h;cases (show v=De.ref a from m);cases (show u=De.ref b from l);obtain⟨c,r,p,_⟩:=I.list z;obtain⟨i,d,g,_⟩:=I.list t;have D:=r.length;have C:=d.length;have E:=n.units;rcases h with⟨F,q⟩|⟨G,f,o,q⟩
 .refine SeqAt.RcNeAt.lists_lengths p.isList g.isList (by simp only[dt,bne_iff_ne,ne_eq];lia) (by lia) X.prog X.w X.xe _ ⟨.bl Jr,H,I,U,q⟩
 .refine SeqAt.RcNeAt.lists (e:=f) p.isList g.isList (by simp only[dt];lia) (by lia) (oO I (by show X.A.units+1+60<Hc;lia) r d o) X.prog X.w X.xe _ ⟨.bl _,H,I,U,?_⟩;rw[show c.toArray.size=j.length by simp only[dt];lia];exact q
theorem xr{k:Nat}(o:bU k X.A):OpR X (G3 .Eq) (sV X.K Js):=by
 intro Ju s σ H x y v u Q I j i h;obtain⟨a,b,C,B,rfl,rfl,z,w,f,t,q⟩:=h;cases (show v=De.ref a from j);cases (show u=De.ref b from i);obtain⟨d,r,p,_⟩:=I.tuple z;obtain⟨c,g,l,_⟩:=I.tuple w;have n:=r.length;have m:=g.length;have D:=o.units;refine SeqAt.eq_tupleAt (e:=f) (show s.heap.IsTuple a d.toArray from p) (show s.heap.IsTuple b c.toArray from l) (by lia) (oO I (by show X.A.units+1+60<Hc;lia) r g t) ⟨.bl _,H,I,U,?_⟩;simp only[dt];rw[←n,←m];exact q
set_option maxRecDepth 100000
section
variable{tg:Gs}
inductive rC(K:W.Frag)(x:V)(y:V)(H:Hp)(Q:VK):Prop
 |mk (a b xs ys:_)(_:x=.ref a)(_:y=.ref b)(_:SqT K H a xs)(_:SqT K H b ys)(_:xs.length+ys.length<=FL)(_:(xs=[]->Q (.ref b) H))(_:(xs≠[]->ys=[]->Q (.ref a) H))(_:(xs≠[]->ys≠[]->∀p,H p=Jq->Q (.ref p) (upd H p (.tup (xs++ys)))))
theorem vz:OpR X (G0 .Add) (rC X.K):=by
 intro Ju s σ H x y v u Q I o m h;obtain⟨a,b,l,A,rfl,rfl,w,t,O,G,E,D⟩:=h;by_cases c:l=[]
 .cases o;cases m;obtain⟨d,C,L,_⟩:=I.tuple w;obtain⟨N,S,J,_⟩:=I.tuple t;have P:d=[]:=C.nil_iff.mpr c;obtain⟨⟨R,dd,z,B⟩,p,r,n,q⟩:=id L;obtain⟨⟨T,j,k,i⟩,e,g,M,f⟩:=id J;simp only at r q g f;subst r q g f
  exact Ho ⟨_,p,U⟩ ⟨_,e,U⟩ Hq Hr PySem.F.slot_tuple_add PySem.F.entry_tuple_add (PySem.F.args_tuple_add_2 _ _)
   (tuple_addW0 a b d.toArray N.toArray n M dd j B i (by simp[P])) ⟨p,e,⟨.ref b,H,I,U,G c⟩⟩
 .exact xl Ju s σ H (.ref a) (.ref b) v u Q I o m ⟨a,b,l,A,U,U,w,t,c,O,E c,D c⟩
end
end L2
namespace HT
open PySem PyProof.Rows
section
open PySem.SeqAt
open PySem.AutoSeq1 (wpAny_loadPart')
open PySem.MeetsSeq PySem.MeetsSeq2 PySem.MeetsSeq3
end
end HT
namespace L2
open PySem PySem.Spec PyProof.Rows
section
variable{X:Cx}
end
end L2
namespace HT
open PySem PyProof.Rows
section
open PySem.SeqAt
open PySem.AutoSeq1 (wpAny_loadPart')
open PySem.MeetsSeq PySem.MeetsSeq2 PySem.MeetsSeq3
end
end HT
namespace L2
open PySem PySem.Spec PyProof.Rows
variable{X:Cx}
variable{prog:EX}{w:D0}{A:Gj}{E:De->Gk->Prop}{s:Gk}
section
variable{κ:Type} [DecidableEq κ]
def cntK(ks:List κ):Nat->Nat
 |0=>0
 |i+1=>match ks[i]? with
  |some k=>if k∈ks.take i then cntK ks i else cntK ks i+1
  |none=>cntK ks i
theorem jP(ks:List κ):∀i,cntK ks i<=i
 |0=>wN _
 |i+1=>by
  have a:=jP ks i;unfold cntK;split
  .split <;> lia
  .lia
theorem km(ks:List κ):∀i,i<=ks.length->(cntK ks i=i↔(ks.take i).Nodup)
 |0,_=>by simp[cntK]
 |i+1,h=>by
  have c:=km ks i (by lia);have le:=jP ks i;have e:ks[i]?=Jp ks[i]:=Ga (by lia);have g:ks.take (i+1)=ks.take i++[ks[i]]:=by rw[mL,e];rfl
  unfold cntK;rw[e,g,tU];dsimp only;by_cases m:ks[i]∈ks.take i
  .rw[Jw m];exact⟨λz=>Jx z (by lia),λz=>Jx U (z.2.2 _ m _ (by simp))⟩
  .rw[Jv m];refine⟨λz=>⟨c.mp (by lia),by simp,λa f b d=>?_⟩,λz=>by rw[c.mpr z.1]⟩;rw[show b=ks[i] by simpa using d];exact λq=>m (q ▸ f)
variable{knd:KeyKind prog w κ}
theorem f7{h h':FG}{a:E2}{S:κ->Bool}{n:Nat}(x:h.SetOf knd a S n)(k:∀o,h.get? a=Jp o->h'.get? a=Jp o):h'.SetOf knd a S n:=by
 obtain⟨o,c,d,t,b,r⟩:=x;exact⟨o,c,d,t,k o b,r⟩
theorem lN{h:FG}{a:E2}{S c:κ->Bool}{n b:Nat}(x:h.SetOf knd a S n)(e:S=c)(d:n=b):h.SetOf knd a c b:=e ▸ d ▸ x
theorem uk{R:G8->Gk->Prop}{I:E2}{E g:List E2}{G:Array Gn->Array Gn->Prop}{n:Nat}{P:Nat->De->Prop}{St:Nat->Gk->Prop}(W:HS prog w A.in1 I E g G n P St){a:E2}(D:a ∉ E){ks:List κ}
  (S:∀i v,P i v->∃k,ks[i]?=Jp k/\knd.is k v=Jr/\v.scannable=Jr)(f:n+1<HU):∀(d i:Nat)(s:Gk),n=i+d->St i s->s.heap.SetOf knd a (λk=>decide (k∈ks.take i)) (cntK ks i) ->
   (∀s',HV (a :: g) G s s'->s'.heap.SetOf knd a (λk=>decide (k∈ks.take n)) (cntK ks n)->R (.ok (.ret .none)) s')->G9 (model prog w) A (.builtin "set.update.loop" ⟨[.ref a,.ref I],[]⟩) R s:=by
 have C:a ∉ g:=λz=>D (W.sub a z)
 intro d;induction d with
 |zero =>
  intro i s e h x fin;rw[show n=i by lia]at W fin;refine HW (R:=R) (A:=A) F.entry_set_update_loop ?_;rw[Gj.under_plainId (A:=A) F.plain_set_update_loop _];show Gq (model prog w) A.in1 (GQ (.ref I) >>= _) _ _ s;exact CW (W.done s _ _ h λs' m=>CY (fin s' (m.mono λb f=>ik a f) (f7 x λo q=>m.heap a o C q)))
 |succ d Q =>
  intro i s e h x fin;refine HW (R:=R) (A:=A) F.entry_set_update_loop ?_;rw[Gj.under_plainId (A:=A) F.plain_set_update_loop _];show Gq (model prog w) A.in1 (GQ (.ref I) >>= _) _ _ s;refine CW (W.item i s _ _ (by lia) h λv c p l m=>?_);obtain⟨k,H,B,N⟩:=S i v p;have M:=f7 x λo q=>m.heap a o C q
  show Gq (model prog w) A.in1 (holding [v] (HX a v) >>= _) _ _ c;refine CW (C7 (show Gq (model prog w) A.in1 (HX a v) _ _ c from ?_));unfold HX;refine C7 (CW (knd.pyHash B ?_));have le:=jP ks i;refine wpAny_setAddHashed_of (knd:=knd) (s:={ c with toks:=c.toks+1 }) B N M (by lia) λj u L=>?_
  have T:ks.take (i+1)=ks.take i++[k]:=by rw[mL,H];rfl
  have K:j.SetOf knd a (λq=>decide (q∈ks.take (i+1))) (cntK ks (i+1)):=by
   refine lN L (funext λq=>?_) ?_
   .rw[T];by_cases z:q∈ks.take i <;> by_cases y:q=k <;> simp[z,y]
   .show(if decide (k∈ks.take i)=Jr then cntK ks i else cntK ks i+1)=match ks[i]? with|some k=>if k∈ks.take i then cntK ks i else cntK ks i+1|none=>cntK ks i
    rw[H];by_cases z:k∈ks.take i <;> simp[z]
  refine CY ⟨HY F.plain_set_update_loop _,Q (i+1) { c with heap:=j,toks:=c.toks+1 } (by lia) (W.frame (i+1) c j (c.toks+1) l (x4 _) λb t o q=>(u.2 b λz=>D (z ▸ t)).trans q) K λs2 O J=>?_⟩;refine fin s2 (HV.trans W.gtrans ((m.mono λb f=>ik a f).then_heap (x4 _) λb o r q=>?_) O) J;exact(u.2 b λz=>r (z ▸ gb)).trans q
abbrev cV(led:Bool):Obj:={ cls:=.type "set",dict:=Jq,data:=.set #[] 0 (.fresh 0 0 led) }
def Filled(knd:KeyKind prog w κ)(s:Gk)(ks:List κ)(h':FG):Prop :=
 h'.SetOf knd s.heap.objs.size (λk=>decide (k∈ks)) (cntK ks ks.length)/\∀b o,b<s.heap.objs.size->s.heap.get? b=Jp o->h'.get? b=Jp o
theorem vA{l:E2}{a:Array De}{ks:List κ}{led:Bool}(I:A.handled=Jq)(G:s.heap.IsList l a)(H:∀(i:Nat)(v:De),a[i]?=Jp v->∃k,ks[i]?=Jp k/\knd.is k v=Jr/\v.scannable=Jr)(D:ks.length=a.size)(J:a.size+1<HU) :
  G9 (model prog w) A (.call (.builtin "set.__init__") ⟨[.ref s.heap.objs.size,.ref l],[]⟩) (wants (λr s2=>r=.none/\∃h' p,s2={ s with heap:=h',toks:=p }/\Filled knd s ks h') E) { s with heap:=s.heap.push (cV led) }:=by
 have n:(s.heap.push (cV led)).get? s.heap.objs.size=Jp (cV led):=FG.get?_push_size s.heap U;have ty:Gk.TypeIs { s with heap:=s.heap.push (cV led) } (.ref s.heap.objs.size) "set" := ⟨cV led,n,U⟩;refine HZ F.called_set.init.plain F.entry_set_init (Ia ty ?_);obtain⟨⟨V,P,T,O⟩,g,j,m,h⟩:=G;dsimp only at j h;subst j h;have L:(s.heap.push (cV led)).get? l=Jp { cls:=.type "list",dict:=P,data:=.seq a m,slots:=O }:=FG.get?_push_of_some _ g;have S:=F.sub_list_set;have R:=F.sub_list_frozenset;have Q:(De.type "list" == De.type "dict")=false:=by decide
 have f:(s.heap.push (cV led)).IsList l a:=⟨_,L,U,m,U⟩;have lt:l<s.heap.objs.size:=FG.lt_size g;unfold GX.«set.__init__» GX.Frozenset.updateFrom noKeywords;generalize K:GS=it
 wp_walk
 subst K;refine GW f (CW (Ib ?_));have B:l≠(s.heap.push (cV led)).objs.size:=by rw[FG.size_push];exact wO (xu lt)
 have C:s.heap.objs.size ∉ [(s.heap.push (cV led)).objs.size,l]:=by
  rw[FG.size_push];intro z;rcases dy.mp z with z|z
  .exact Jx z (wO (yi _))
  .exact Jx (by simpa using z) (w5 lt)
 refine uk (knd:=knd) ((GV.list (by simp[I]) _ l B a).toS) C (ks:=ks) H J a.size 0 _ (yk _).symm ⟨⟨_,FG.get?_push_size _ U,U,U⟩,f.push _⟩ (lN ((setObjOf_fresh (knd:=knd) led).setOf (FG.get?_push_of_some _ n) (by unfold HU;lia)) (funext λk=>by simp) U) λu d x=>?_
 obtain⟨h',M,N,t,y⟩:=u;obtain rfl:M=s.gens:=d.gens;obtain rfl:N=s.drawn:=d.drawn;obtain rfl:y=s.os:=d.os;refine CY (show Gq (model prog w) _ (ret De.none) _ _ _ from CY ⟨U,h',t,U,?_,λb o c q=>?_⟩)
 .rw[←D]at x;exact lN x (funext λk=>by rw[fq]) U
 .refine d.heap b o (λz=>?_) (FG.get?_push_of_some _ (FG.get?_push_of_some _ q));rcases dy.mp z with z|z
  .exact Jx z (wO c)
  .have e:b=(s.heap.push (cV led)).objs.size:=by simpa using z
   rw[FG.size_push]at e;exact Jx e (wO (xu c))
set_option maxRecDepth 100000 in
theorem nP{l:E2}{a:Array De}{ks:List κ}{Q:De->Gk->Prop}(t:A.handled=Jq)(p:s.heap.IsList l a)(q:∀(i:Nat)(v:De),a[i]?=Jp v->∃k,ks[i]?=Jp k/\knd.is k v=Jr/\v.scannable=Jr)(o:ks.length=a.size)(u:a.size+1<HU)
  (h:∀h' f,Filled knd s ks h'->Q (.ref s.heap.objs.size) { s with heap:=h',toks:=f }):Gq (model prog w) A (call (.type "set") [.ref l]) Q E s:=by
 obtain⟨c,B,mro⟩:=F.called_set.mro;have J:=F.called_set.made;have I:=F.called_set.sub;have H:=F.called_set.notType;have G:=F.called_set.canCreate;have D:=F.typeCall_set_1 (.ref l);refine Hh (Ic (show Gq (model prog w) _ (callAny (.type "set") _) _ _ _ from CY ⟨Hd.quiet_builtin _ (by decide+kernel),HW F.entry_type_call ?_⟩));rw[Gj.under_plain (A:=A) (Ie "set" [.ref l] []) U]
 repeat (any_goals (first|assumption|wp_step))
 refine Hi (code_set_new_1 (.ref l) (E:=E) (Q₁:=λm j=>∃b,m=.ref s.heap.objs.size/\j={ s with heap:=s.heap.push (cV b) }) λb=>⟨b,U,U⟩) λr j g=>?_
 cases r with
 |error e=>exact g
 |ok fl =>
  cases fl with
  |ret m =>
   obtain⟨b,rfl,rfl⟩:=g;have y:(s.heap.push (cV b)).get? s.heap.objs.size=Jp (cV b):=FG.get?_push_size s.heap U;have ty:Gk.TypeIs { s with heap:=s.heap.push (cV b) } (.ref s.heap.objs.size) "set" := ⟨cV b,y,U⟩;have C:=F.called_set.init.lookup;have b2:=F.called_set.init.bind (.ref s.heap.objs.size)
   repeat (any_goals (first|assumption|wp_step))
   refine Hi (vA (E:=E) (knd:=knd) (by simp[t]) p q o u) λn s2 d=>?_
   cases n with
   |error e=>exact d
   |ok z =>
    cases z with
    |ret r =>
     obtain⟨rfl,h',f,rfl,x⟩:=d
     repeat (any_goals (first|assumption|wp_step))
     exact h h' f x
    |_=>exact d.elim
  |_=>exact g.elim
end
def mV(P:EX)(w:D0)(a:E2)(zs:List Str):HO:=.ext λh=>h.SetOf (strKind P w) a (λz=>decide (z∈zs)) (cntK zs zs.length)
theorem nQ:∀{zs:List Str}{us:List De},Vals (zs.map V.str) us->∀(i:Nat)(v:De),us[i]?=Jp v->∃z t,zs[i]?=Jp z/\v=.str z t
 | [],_,.nil,i,v,h=>by simp at h
 |z :: zs,_,.cons ⟨t,e⟩ r,0,v,h=>by simp at h;exact⟨z,t,U,by rw[←h,e]⟩
 |z :: zs,_,.cons _ r,i+1,v,h=>by
  obtain⟨a,t,c,b⟩:=nQ r i v (by simpa using h);exact⟨a,t,by simpa using c,b⟩
theorem iX(C:X.calm=Jr):cY X (.type "set") (λxs H Q=>∃(p:E2)(zs:List Str),xs=[.ref p]/\SqL X.K H p (zs.map V.str)/\zs.length<=1000/\∀l,H l=Jq->Q (.ref l) (upd H l (mV X.prog X.w l zs))):=by
 intro j s G H xs J Q I r h;obtain⟨p,zs,rfl,D,L,q⟩:=h;obtain⟨u,rfl,A⟩:=r.one;obtain rfl:u=De.ref p:=A;obtain⟨F,d,B,_⟩:=I.list D;have f:=d.length;rw[bo]at f;refine nP (knd:=strKind X.prog X.w) (ks:=zs) (I.ok.hd C) B.isList (λi v e=>?_) (by simpa using f) (by unfold HU;simp;lia) λh' n x=>?_
 .obtain⟨z,t,E,rfl⟩:=nQ d i v (by simpa using e);exact⟨z,E,by show De.isStrOf z (.str z t)=Jr;simp[De.isStrOf],U⟩
 .obtain⟨c,m⟩:=x;refine⟨.ref s.heap.objs.size,_,I.laid (a:=s.heap.objs.size) (o:=mV X.prog X.w s.heap.objs.size zs) (h':=h') (t':=n) (λb o q=>m b o (FG.lt_size q) q) (wN _) ?_,U,q _ I.fresh⟩;refine⟨c,?_,λN M y k=>f7 y k⟩;obtain⟨o,_,_,_,g,_⟩:=c;exact⟨o,g⟩
def Asc(xs:Array Nat):Prop:=xs.toList.Pairwise (· < ·)
theorem Asc.lt{xs:Array Nat}(h:Asc xs){i j:Nat}(a:i<j)(b:j<xs.size):xs[i]<xs[j]:=by
 have:=List.pairwise_iff_getElem.mp h i j (by simp;lia) (by simpa using b) a;simpa using this
theorem vB{xs:Array Nat}(h:Asc xs)(j:Nat):∀(a lo hi:Nat),lo<=hi->hi<=xs.size->hi-lo<=a ->
  (∀(i:Nat)(b:i<xs.size),i<lo->xs[i]<j)->(∀(i:Nat)(b:i<xs.size),hi<=i->j<=xs[i]) ->
  Ig.below.go xs j a lo hi<=xs.size/\(∀(i:Nat)(b:i<xs.size),i<Ig.below.go xs j a lo hi->xs[i]<j)/\(∀(i:Nat)(b:i<xs.size),Ig.below.go xs j a lo hi<=i->j<=xs[i]):=by
 intro a;induction a with
 |zero =>
  intro lo hi o k n g f;have e:lo=hi:=by lia
  subst e;exact⟨by unfold Ig.below.go;exact k,by unfold Ig.below.go;exact g,by unfold Ig.below.go;exact f⟩
 |succ a l =>
  intro lo hi o k n g f;unfold Ig.below.go;by_cases c:lo<hi
  .rw[Jw c];have m:(lo+hi) / 2<xs.size:=by lia
   have p:xs.getD ((lo+hi) / 2) j=xs[(lo+hi) / 2]:=by simp[Array.getD,m]
   dsimp only;rw[p];by_cases d:xs[(lo+hi) / 2]<j
   .rw[Jw d];refine l _ _ (by lia) k (by lia) (λi b q=>?_) f;by_cases e:i=(lo+hi) / 2
    .subst e;exact d
    .exact Nat.lt_trans (h.lt (by lia) m) d
   .rw[Jv d];refine l _ _ (by lia) (by lia) (by lia) g λi b r=>?_
    by_cases e:i=(lo+hi) / 2
    .subst e;lia
    .exact wX (Nat.le_of_not_lt d) (x3 (h.lt (by lia) b))
  .rw[Jv c];have e:lo=hi:=by lia
   subst e;exact⟨k,g,f⟩
theorem jc{xs:Array Nat}(h:Asc xs)(j:Nat):Ig.below xs j<=xs.size/\(∀(i:Nat)(hi:i<xs.size),i<Ig.below xs j->xs[i]<j)/\(∀(i:Nat)(hi:i<xs.size),Ig.below xs j<=i->j<=xs[i]) :=
 vB h j xs.size 0 xs.size (xn _) (wN _) (by lia) (λ_ _ z=>Jx z (by lia)) (λi hi z=>Jx z (by lia))
theorem rD{xs:Array Nat}(h:Asc xs){i:Nat}(hi:i<xs.size):Ig.below xs (xs[i]+1)=i+1:=by
 obtain⟨d,b2,a⟩:=jc h (xs[i]+1);have c:¬ Ig.below xs (xs[i]+1)<=i:=λz=>Jx (a i hi z) (by lia)
 have b:¬ i+1<Ig.below xs (xs[i]+1):=λz=>by
  have:=b2 (i+1) (by lia) z;have:=h.lt (show i<i+1 by lia) (show i+1<xs.size by lia);lia
 lia
theorem pW{xs:Array Nat}(h:Asc xs):Ig.below xs 0=0:=by
 obtain⟨b,b2,a⟩:=jc h 0;by_cases z:Ig.below xs 0=0
 .exact z
 .exact Jx (b2 0 (by lia) (by lia)) (by lia)
theorem rE{xs:Array Nat}(h:Asc xs){j:Nat}(m:xs[Ig.below xs j]?≠Jp j):Asc (Ig.insertAt xs (Ig.below xs j) j):=by
 obtain⟨r,b2,g⟩:=jc h j;unfold Asc;rw[Ig.toList_insertAt,List.pairwise_append];refine⟨h.sublist (List.take_sublist _ _),qJ.mpr ⟨λb f=>?_,h.sublist (List.drop_sublist _ _)⟩,λa n b f=>?_⟩
 .obtain⟨k,d,rfl⟩:=List.mem_iff_getElem.mp f;have c:Ig.below xs j+k<xs.size:=by simp at d;lia
  have z:=g _ c (by lia);have e:(xs.toList.drop (Ig.below xs j))[k]=xs[Ig.below xs j+k]:=by simp
  rw[e];by_cases q:j=xs[Ig.below xs j+k]
  .exfalso;by_cases l:k=0
   .subst l;refine m ?_;rw[AK (by lia)];simpa using q.symm
   .have p:=g _ (show Ig.below xs j<xs.size by lia) (wN _);have o:=h.lt (show Ig.below xs j<Ig.below xs j+k by lia) c;lia
  .lia
 .have i:a<j:=by
   obtain⟨k,d,rfl⟩:=List.mem_iff_getElem.mp n;have c:k<Ig.below xs j/\k<xs.size:=by simp at d;lia
   have:=b2 k c.2 c.1;simpa using this
  rcases dy.mp f with rfl|f
  .exact i
  .obtain⟨k,d,rfl⟩:=List.mem_iff_getElem.mp f;have c:Ig.below xs j+k<xs.size:=by simp at d;lia
   have z:=g _ c (by lia);have e:(xs.toList.drop (Ig.below xs j))[k]=xs[Ig.below xs j+k]:=by simp
   rw[e];lia
def pX(t:Ig)(j:Nat):Prop:=t.place[Ig.below t.place j]?≠Jp j
theorem lO{t:Ig}{j:Nat}(h:t.slot j=.empty\/t.slot j=.dummy):pX t j:=by
 intro e;have:t.slot j=.live (Ig.below t.place j):=by
  unfold Ig.slot;simp[e]
 rw[this]at h;rcases h with h|h <;> cases h
theorem rF(t:Ig)(f:Nat->Int)(h:Int):∀(a:Nat)(p:Ig.Probe),(∀d,p.dummy=Jp d->pX t d)->∀j c,Ig.probe.go t f h a p=Jp (.empty j c)->pX t j/\∀d,c=Jp d->pX t d:=by
 intro a;induction a with
 |zero=>intro p _ j c e;unfold Ig.probe.go at e;cases e
 |succ a i =>
  intro p k j c e;unfold Ig.probe.go at e;have g:∀q:Ig.Probe,(t.advance q).dummy=q.dummy:=λq=>by
   unfold Ig.advance;split <;> rfl
  split at e
  .rename_i he
   injection e with e;injection e with m l;subst m l;exact⟨lO (.inl he),k⟩
  .rename_i he
   refine i _ (λd b=>?_) j c e;rw[g]at b;injection b with b;subst b;exact lO (.inr he)
  .split at e
   .injection e with e;cases e
   .refine i _ (λd b=>k d ?_) j c e;rw[g]at b;exact b
theorem mW{t:Ig}{h:Int}{j:Nat}{b:Bool}(e:t.freeSlot h=Jp (j,b)):pX t j:=by
 unfold Ig.freeSlot at e;split at e
 .rename_i j' dm he
  obtain⟨g,f⟩:=rF t _ h _ _ (λd a=>by simp[Ig.probeStart]at a) _ _ he;injection e with e;injection e with c i;subst c;cases dm with
  |none=>exact g
  |some d=>exact f d U
 .cases e
theorem um(n:Nat):Asc (Array.range n):=by
 unfold Asc;rw[Array.toList_range];exact List.pairwise_lt_range
theorem ff(t:Ig)(n:Nat):Asc (t.standIn n).place:=um n
theorem rG{t:Ig}(c:Asc t.place)(a:Array (Int×De))(h:Int)(x:De):Asc (Ih t a h x).2.1.place/\(Ih t a h x).2.1.led=t.led:=by
 unfold Ih;split
 .rename_i slot wd e
  have b:Asc (t.put slot).1.place:=rE c (mW e);dsimp only;unfold Ig.orStandIn;split
  .exact⟨b,U⟩
  .exact⟨ff _ _,U⟩
 .exact⟨ff _ _,U⟩
theorem pY(f:Nat->Option Nat):∀l:List Nat,((l.filterMap λj=>(f j).map (j,·)).map (·.1)).Sublist l
 | []=>by simp
 |j :: l=>by
  have a:=pY f l;rw[sC];cases e:f j with
  |none=>exact a.trans (List.sublist_cons_self _ _)
  |some v=>exact a.cons_cons j
theorem rH{t t':Ig}{b:Array Int}{n:Nat}{o:Array Nat}(e:t.relaid b n=Jp (t',o)):Asc t'.place/\t'.led=t.led:=by
 unfold Ig.relaid Ig.laid at e;cases hc:Ig.layClean (Ig.sizeAbove n-1) b with
 |none=>rw[hc]at e;cases e
 |some a =>
  rw[hc]at e;injection e with e;injection e with c d;subst c;exact⟨List.pairwise_lt_range.sublist (pY _ _),U⟩
theorem oP{t:Ig}(b:Asc t.place)(a:Array (Int×De))(n:Nat):Asc (Ii t a n).2.1.place/\(Ii t a n).2.1.led=t.led:=by
 unfold Ii;split
 .rename_i t' o e
  dsimp only;split
  .exact rH e
  .exact⟨ff _ _,U⟩
 .exact⟨ff _ _,U⟩
theorem fw{b:Type}:∀{l:List b}{i:Nat}{x:b},l[i]?=Jp x->(x :: l.eraseIdx i).Perm l
 | [],i,x,h=>by simp at h
 |a :: l,0,x,h=>by simp at h;subst h;exact .refl _
 |a :: l,i+1,x,h=>by
  have c:=fw (l:=l) (i:=i) (x:=x) (by simpa using h);rw[List.eraseIdx_cons_succ];exact(List.Perm.swap _ _ _).trans (c.cons a)
theorem xt{c:Type}(next:Nat->Nat):∀(a k:Nat)(left:List c)(out:Array c),a=left.length->∃l:List c,l.Perm left/\(Ij.go next a k left out).toList=out.toList++l:=by
 intro a;induction a with
 |zero =>
  intro k left out e;exact⟨left,.refl _,by unfold Ij.go;rw[List.length_eq_zero_iff.mp e.symm];simp⟩
 |succ a f =>
  intro k left out e;have b:next k%left.length<left.length:=yD _ (by lia);have d:left[next k%left.length]?=Jp left[next k%left.length]:=Ga b;unfold Ij.go;rw[d];dsimp only;obtain⟨l,p,g⟩:=f (k+1) (left.eraseIdx (next k%left.length)) (out.push left[next k%left.length]) (by rw[List.length_eraseIdx_of_lt b];lia);exact⟨left[next k%left.length] :: l,(p.cons _).trans (fw d),by rw[g];simp⟩
theorem uo{a:Type}(next:Nat->Nat)(xs:Array a):(Ij next xs).toList.Perm xs.toList:=by
 obtain⟨l,p,e⟩:=xt next xs.size 0 xs.toList #[] (by simp);have:(Ij next xs).toList=l:=by unfold Ij;rw[e];simp
 rw[this];exact p
def dD(w:D0):Bool:=w.params.followText "set-order"
def kn:De->Int
 | .int k _=>k
 |_=>0
structure gJ(es:Array (Int×De))(ks:List Int):Prop where
 ent:∀e∈es.toList,e.1=hashInt (kn e.2)/\∃u,e.2=.int (kn e.2) u
 nd:(es.toList.map λe=>kn e.2).Nodup
 mem:∀k,k∈ks↔k∈es.toList.map λe=>kn e.2
theorem gJ.perm{b a:Array (Int×De)}{ks:List Int}(h:gJ b ks)(p:a.toList.Perm b.toList):gJ a ks :=
 ⟨λe c=>h.ent e (p.mem_iff.mp c),(p.map _).nodup_iff.mpr h.nd,λk=>(h.mem k).trans (p.map _).mem_iff.symm⟩
theorem gJ.push{d:Array (Int×De)}{ks:List Int}{k:Int}{u:Tok}(h:gJ d ks)(f:k ∉ ks):gJ (d.push (hashInt k,.int k u)) (ks++[k]):=by
 refine⟨λe c=>?_,?_,λq=>?_⟩
 .rw[AL]at c;rcases iK.mp c with c|c
  .exact h.ent e c
  .rw[iN]at c;subst c;exact⟨U,u,U⟩
 .rw[AL,fR,tU];refine⟨h.nd,by simp,λa i b g=>?_⟩;have j:b=k:=by simpa[kn]using g
  subst j;exact λe=>f ((h.mem b).mpr (e ▸ i))
 .rw[AL,fR,iK,iK,h.mem q];simp[kn]
theorem gJ.again{a:Array (Int×De)}{ks:List Int}{k:Int}(h:gJ a ks)(b:k∈ks):gJ a (ks++[k]) :=
 ⟨h.ent,h.nd,λq=>by
  rw[←h.mem q,iK,iN];exact⟨λz=>z.elim id λz=>z ▸ b,.inl⟩⟩
theorem gJ.elems{b:Array (Int×De)}{ks:List Int}(h:gJ b ks):ElemsOf (Gf prog w) b.toList:=λe c=>by
 obtain⟨d,u,a⟩:=h.ent e c;refine⟨⟨kn e.2,?_,d⟩,?_⟩
 .rw[a];exact Ik _ _ _ _
 .rw[a];rfl
theorem gJ.found{b:Array (Int×De)}{ks:List Int}(h:gJ b ks){k:Int}{e:Int×De}(a:e∈b.toList)(c:(Gf prog w).is k e.2=Jr):k∈ks:=by
 obtain⟨_,u,d⟩:=h.ent e a;refine(h.mem k).mpr (eR.mpr ⟨e,a,?_⟩);exact(Gf prog w).inj e.2 _ _ (by rw[d];exact Ik _ _ _ _) c
def dr(h:FG)(a:E2)(led:Bool)(ks:List Int)(n:Nat):Prop :=
 ∃o b c t,h.get? a=Jp o/\o.ExactSet/\o.data=.set b c t/\gJ b ks/\b.size<HU/\t.fits b.size=Jr/\Asc t.place/\t.led=led/\b.size=n
theorem dr.stay{h h':FG}{a:E2}{led:Bool}{ks:List Int}{n:Nat}(x:dr h a led ks n)(k:∀o,h.get? a=Jp o->h'.get? a=Jp o):dr h' a led ks n:=by
 obtain⟨o,c,d,t,b,r⟩:=x;exact⟨o,c,d,t,k o b,r⟩
theorem dr.store{h:FG}{a:E2}{o:Obj}{m:Array (Int×De)}{c:Nat}{t:Ig}(g:h.get? a=Jp o)(d:o.ExactSet)(f:o.data=.set m c t)
  {b:Array (Int×De)}{t':Ig}{ks:List Int}(j:gJ b ks)(k:b.size<HU)(i:t'.fits b.size=Jr)(l:Asc t'.place) :
  (h.update a (Obj.putSet b t')).get? a=Jp { o with data:=.set b (c+1) t' }/\dr (h.update a (Obj.putSet b t')) a t'.led ks b.size:=by
 have e:(h.update a (Obj.putSet b t')).get? a=Jp { o with data:=.set b (c+1) t' }:=by
  have:=FG.get?_update_self (Obj.putSet b t') g (by rw[putSet_of b t' f];rfl);rw[putSet_of b t' f]at this;exact this
 exact⟨e,_,b,c+1,t',e,d,U,j,k,i,l,U,U⟩
theorem pZ{g:Bool->Sem Unit}(I:∀(b:Bool)(e:Gk)(F:Unit->Gk->Prop),F () e->Gq (model prog w) A (g b) F E e)
  {a:E2}{o:Obj}{J:Array (Int×De)}{K:Nat}{t:Ig}(C:s.heap.get? a=Jp o)(p:o.ExactSet)(D:o.data=.set J K t)
  {c:Array (Int×De)}{d:Ig}{ks:List Int}{led:Bool}(q:gJ c ks)
  (j:c.size<HU)(B:d.fits c.size=Jr)(u:Asc d.place)(n:d.led=led){H:Bool}{R:Option Bool->Gk->Prop}
  (h:∀h',FG.SameBut a s.heap h'->dr h' a led ks c.size->R (Jp Jr) { s with heap:=h' }) :
  Gq (model prog w) A (do
    storeSet a c d
    if (!H && d.tooFull)=Jr then do
      g (Ii d c (Ig.grown c.size)).2.2
      storeSet a (Ii d c (Ig.grown c.size)).1 (Ii d c (Ig.grown c.size)).2.1
      pure (Jp Jr)
     else pure (Jp Jr)) R E s:=by
 refine CW (Il C D ?_ (Im j));obtain⟨m,x⟩:=dr.store C p D q j B u;rw[n]at x;have G:=FG.SameBut.update s.heap a (Obj.putSet c d);split
 .have z:=relayAll_perm d c (Ig.grown c.size);have i:=relayAll_fits d c (Ig.grown c.size);obtain⟨k,f⟩:=oP u c (Ig.grown c.size);generalize L:Ii d c (Ig.grown c.size)=Rl at z i k f⊢;obtain⟨y,M,N⟩:=Rl;dsimp only at z i k f⊢;have l:y.size=c.size:=by rw[←Ah,z.length_eq,Ah]
  have r:y.size<HU:=by rw[l];exact j
  refine CW (I _ _ _ ?_);refine CW (Il m U ?_ (Im r));obtain⟨_,v⟩:=dr.store m p U (q.perm z) r i k;rw[l,f,n]at v;exact CY (h _ (G.trans (FG.SameBut.update _ a _)) v)
 .exact CY (h _ G x)
theorem addW{a:E2}{led:Bool}{ks:List Int}{n:Nat}{k:Int}{u:Tok}{Q:Bool->Gk->Prop}(hS:dr s.heap a led ks n)(R:n+1<HU)
  (h:∀h' T b,FG.SameBut a s.heap h'->T<=n+1->dr h' a led (ks++[k]) T->Q b { s with heap:=h' }) :
  Gq (model prog w) A (setAddHashed a (.int k u) ((Gf prog w).hash k)) Q E s:=by
 obtain⟨o,p,ep,t,B,r,C,x,W,N,X,I,K⟩:=hS;have Z:(Gf prog w).is k (.int k u)=true:=Ik _ _ _ _;have F:(De.int k u).scannable=true:=rfl;have G:=x.elems (prog:=prog) (w:=w);have a0:p.size+1<HU:=by rw[K];exact R
 unfold setAddHashed setAddHashedIn;refine C7 (CW (Io B C N ?_));dsimp only;rw[byScan_of F W G];simp only[↓reduceIte];unfold setAddByScan;refine CW ?_;refine CW (Ip ?_);refine CW (wpAny_setScan_of Z B C N G ?_);cases hr:List.findIdx? (λe=>(Gf prog w).is k e.2) p.toList with
 |some j =>
  dsimp only;obtain⟨hj,O,_⟩:=List.findIdx?_eq_some_iff_getElem.mp hr;have M:k∈ks:=x.found (mJ hj) O;refine CY (CY ?_);have e:s={ s with heap:=s.heap }:=by cases s;rfl
  rw[e];exact h s.heap n Js (FG.SameBut.refl a s.heap) (x4 _) ⟨o,p,ep,t,B,r,C,x.again M,W,N,X,I,K⟩
 |none =>
  dsimp only;have M:k ∉ ks:=λz=>by
   obtain⟨e,V,q⟩:=eR.mp ((x.mem k).mp z);have:=List.findIdx?_eq_none_iff.mp hr e V;obtain⟨_,v,h2⟩:=x.ent e V;rw[h2]at this;rw[←q]at this;rw[Ik]at this;exact Bool.noConfusion this
  have P:∀(b:Bool){c:Gk}{D:Unit->Gk->Prop},D () c->Gq (model prog w) A (match b with|true=>rule "set.scan.the-table-gave-way" | false=>pure ()) D E c :=
   λb c D m=>by cases b <;> first|exact CY m|exact Ip m
  have J:=layNew_perm t p ((Gf prog w).hash k) (.int k u);have y:=layNew_fits t p ((Gf prog w).hash k) (.int k u);obtain⟨i,f⟩:=rG X p ((Gf prog w).hash k) (.int k u);generalize hL:Ih t p ((Gf prog w).hash k) (.int k u)=L at J y i f⊢;obtain⟨l,t1,p4,FT⟩:=L;dsimp only at J y i f⊢;have H:gJ l (ks++[k]):=(x.push (u:=u) M).perm J;have C6:l.size=n+1:=by rw[←Ah,J.length_eq,Ah,Array.size_push,K]
  have Y:l.size<HU:=by rw[C6];exact R
  refine CW (P _ ?_);have S:∀h',FG.SameBut a s.heap h'->dr h' a led (ks++[k]) l.size->Q Jr { s with heap:=h' }:=λh' d g=>h h' _ Jr d (by lia) g
  split
  .refine CW ?_;rw[hashByValue_scannable 8 F];refine CY ?_;refine pZ ?_ B r C H Y ?_ ?_ (led:=led) ?_ ?_
   .intro b c D m;cases b <;> first|exact CY m|exact Ip m
   .split
    .exact y
    .exact Ig.fits_plain_off y
   .split
    .exact i
    .exact i
   .split
    .exact f.trans I
    .exact f.trans I
   .intro h' d g;dsimp only;exact CY (S h' d g)
  .refine CW (CY ?_);simp only[↓reduceIte];refine pZ ?_ B r C H Y y i (f.trans I) ?_
   .intro b c D m;cases b <;> first|exact CY m|exact Ip m
   .intro h' d g;dsimp only;exact CY (S h' d g)
theorem rK(a:De){Q₁:De->Gk->Prop}
  (h:Q₁ (.ref s.heap.objs.size) { s with heap:=s.heap.push { cls:=.type "set",dict:=Jq,data:=.set #[] 0 (.fresh 0 0 (!dD w)) } }) :
  G9 (model prog w) A (.call (.builtin "set.__new__") ⟨[.type "set",a],[]⟩) (wants Q₁ E) s:=by
 refine Ic ?_;show Gq _ A.in1 (do checkBuiltinCall "set.__new__" ⟨[.type "set",a],[]⟩;again (.builtin "set.__new__" ⟨[.type "set",a],[]⟩)) _ _ s;refine CW (Iq (F.newCall_set_1 a) (CY ⟨HY F.plain_set_new _,HW F.entry_set_new ?_⟩));rw[Gj.under_plainId F.plain_set_new _];unfold GX.«set.__new__» GX.Frozenset.newClass;have e:=sub_set_self;obtain⟨f,g,d,b,c⟩:=s;dsimp only
 wp_walk
 refine Ir (CY ?_);dsimp only;simp only[newObj];refine CW (wpAny_alloc (CY ?_));exact CY h
theorem zS{R:G8->Gk->Prop}{I:E2}{M h:List E2}{G:Array Gn->Array Gn->Prop}{n:Nat}{P:Nat->De->Prop}{St:Nat->Gk->Prop}(W:HS prog w A.in1 I M h G n P St){a:E2}(K:a ∉ M){ks:List Int}{led:Bool}
  (V:∀i v,P i v->∃k u,ks[i]?=Jp k/\v=.int k u)(g:n+1<HU):∀(d i:Nat)(s:Gk)(m:Nat),n=i+d->m<=i->St i s->dr s.heap a led (ks.take i) m ->
   (∀s' E,HV (a :: h) G s s'->dr s'.heap a led (ks.take n) E->E<=n->R (.ok (.ret .none)) s')->G9 (model prog w) A (.builtin "set.update.loop" ⟨[.ref a,.ref I],[]⟩) R s:=by
 have H:a ∉ h:=λz=>K (W.sub a z)
 intro d;induction d with
 |zero =>
  intro i s m e J j x fin;rw[show n=i by lia]at W fin;refine HW (R:=R) (A:=A) F.entry_set_update_loop ?_;rw[Gj.under_plainId (A:=A) F.plain_set_update_loop _];show Gq (model prog w) A.in1 (GQ (.ref I) >>= _) _ _ s;exact CW (W.done s _ _ j λs' f=>CY (fin s' m (f.mono λb g=>ik a g) (x.stay λo q=>f.heap a o H q) J))
 |succ d T =>
  intro i s m e J j x fin;refine HW (R:=R) (A:=A) F.entry_set_update_loop ?_;rw[Gj.under_plainId (A:=A) F.plain_set_update_loop _];show Gq (model prog w) A.in1 (GQ (.ref I) >>= _) _ _ s;refine CW (W.item i s _ _ (by lia) j λv c p l f=>?_);obtain⟨k,u,Y,rfl⟩:=V i v p;have O:=x.stay λo q=>f.heap a o H q
  show Gq (model prog w) A.in1 (holding [.int k u] (HX a (.int k u)) >>= _) _ _ c;refine CW (C7 (show Gq (model prog w) A.in1 (HX a (.int k u)) _ _ c from ?_));unfold HX;refine C7 (CW ((Gf prog w).pyHash (k:=k) (Ik _ _ _ _) ?_));refine addW (s:={ c with toks:=c.toks+1 }) O (by lia) λL Q _ D Z C=>?_
  have X:ks.take (i+1)=ks.take i++[k]:=by rw[mL,Y];rfl
  rw[←X]at C;refine CY ⟨HY F.plain_set_update_loop _,T (i+1) { c with heap:=L,toks:=c.toks+1 } Q (by lia) (by lia) (W.frame (i+1) c L (c.toks+1) l (x4 _) λb B o q=>(D.2 b λz=>K (z ▸ B)).trans q) C λs2 S r N t=>?_⟩;refine fin s2 S (HV.trans W.gtrans ((f.mono λb g=>ik a g).then_heap (x4 _) λb o y q=>?_) r) N t;exact(D.2 b λz=>y (z ▸ gb)).trans q
theorem zT{l:E2}{a:Array De}{ks:List Int}(L:A.handled=Jq)(J:s.heap.IsList l a)(K:∀(i:Nat)(v:De),a[i]?=Jp v->∃k u,ks[i]?=Jp k/\v=.int k u)(I:ks.length=a.size)(M:a.size+1<HU) :
  G9 (model prog w) A (.call (.builtin "set.__init__") ⟨[.ref s.heap.objs.size,.ref l],[]⟩) (wants (λr s2=>r=.none/\∃h' p m,s2={ s with heap:=h',toks:=p }/\dr h' s.heap.objs.size (!dD w) ks m/\m<=ks.length/\∀b o,b<s.heap.objs.size->s.heap.get? b=Jp o->h'.get? b=Jp o) E) { s with heap:=s.heap.push (cV (!dD w)) }:=by
 have n:(s.heap.push (cV (!dD w))).get? s.heap.objs.size=Jp (cV (!dD w)):=FG.get?_push_size s.heap U;have ty:Gk.TypeIs { s with heap:=s.heap.push (cV (!dD w)) } (.ref s.heap.objs.size) "set" := ⟨cV (!dD w),n,U⟩;refine HZ F.called_set.init.plain F.entry_set_init (Ia ty ?_);obtain⟨⟨c1,S,Z,R⟩,g,j,m,h⟩:=J;dsimp only at j h;subst j h;have O:(s.heap.push (cV (!dD w))).get? l=Jp { cls:=.type "list",dict:=S,data:=.seq a m,slots:=R }:=FG.get?_push_of_some _ g;have X:=F.sub_list_set;have W:=F.sub_list_frozenset;have V:(De.type "list" == De.type "dict")=false:=by decide
 have f:(s.heap.push (cV (!dD w))).IsList l a:=⟨_,O,U,m,U⟩;have lt:l<s.heap.objs.size:=FG.lt_size g;have y:dr (s.heap.push (cV (!dD w))) s.heap.objs.size (!dD w) [] 0:=⟨_,#[],0,_,n,⟨U,U,U⟩,U,⟨by simp,by simp,by simp⟩,by unfold HU;decide,U,List.Pairwise.nil,U,U⟩;unfold GX.«set.__init__» GX.Frozenset.updateFrom noKeywords;generalize N:GS=it;generalize Y:dD w=bt at *
 wp_walk
 subst N;refine GW f (CW (Ib ?_));have D:l≠(s.heap.push (cV (!bt))).objs.size:=by rw[FG.size_push];exact wO (xu lt)
 have G:s.heap.objs.size ∉ [(s.heap.push (cV (!bt))).objs.size,l]:=by
  rw[FG.size_push];intro z;rcases dy.mp z with z|z
  .exact Jx z (wO (yi _))
  .exact Jx (by simpa using z) (w5 lt)
 refine zS ((GV.list (by simp[L]) _ l D a).toS) G (ks:=ks) (led:=!bt) K M a.size 0 _ 0 (yk _).symm (wN _) ⟨⟨_,FG.get?_push_size _ U,U,U⟩,f.push _⟩ (y.stay λo q=>FG.get?_push_of_some _ q) λB H d x T=>?_
 obtain⟨h',P,Q,t,C⟩:=B;obtain rfl:P=s.gens:=d.gens;obtain rfl:Q=s.drawn:=d.drawn;obtain rfl:C=s.os:=d.os;refine CY (show Gq (model prog w) _ (ret De.none) _ _ _ from CY ⟨U,h',t,H,U,?_,by lia,λb o c q=>?_⟩)
 .rw[←I,fq]at x;exact x
 .refine d.heap b o (λz=>?_) (FG.get?_push_of_some _ (FG.get?_push_of_some _ q));rcases dy.mp z with z|z
  .exact Jx z (wO c)
  .have e:b=(s.heap.push (cV (!bt))).objs.size:=by simpa using z
   rw[FG.size_push]at e;exact Jx e (wO (xu c))
set_option maxRecDepth 100000 in
theorem uq{l:E2}{a:Array De}{ks:List Int}{Q:De->Gk->Prop}(C:A.handled=Jq)(z:s.heap.IsList l a)(B:∀(i:Nat)(v:De),a[i]?=Jp v->∃k u,ks[i]?=Jp k/\v=.int k u)(t:ks.length=a.size)(D:a.size+1<HU)
  (h:∀h' f m,dr h' s.heap.objs.size (!dD w) ks m->m<=ks.length->(∀b o,b<s.heap.objs.size->s.heap.get? b=Jp o->h'.get? b=Jp o)->Q (.ref s.heap.objs.size) { s with heap:=h',toks:=f }):Gq (model prog w) A (call (.type "set") [.ref l]) Q E s:=by
 obtain⟨c,I,mro⟩:=F.called_set.mro;have O:=F.called_set.made;have N:=F.called_set.sub;have M:=F.called_set.notType;have L:=F.called_set.canCreate;have K:=F.typeCall_set_1 (.ref l);refine Hh (Ic (show Gq (model prog w) _ (callAny (.type "set") _) _ _ _ from CY ⟨Hd.quiet_builtin _ (by decide+kernel),HW F.entry_type_call ?_⟩));rw[Gj.under_plain (A:=A) (Ie "set" [.ref l] []) U]
 repeat (any_goals (first|assumption|wp_step))
 refine Hi (rK (.ref l) (E:=E) (Q₁:=λn j=>n=.ref s.heap.objs.size/\j={ s with heap:=s.heap.push (cV (!dD w)) }) ⟨U,U⟩) λr j g=>?_
 cases r with
 |error e=>exact g
 |ok fl =>
  cases fl with
  |ret n =>
   obtain⟨rfl,rfl⟩:=g;have G:(s.heap.push (cV (!dD w))).get? s.heap.objs.size=Jp (cV (!dD w)):=FG.get?_push_size s.heap U;have ty:Gk.TypeIs { s with heap:=s.heap.push (cV (!dD w)) } (.ref s.heap.objs.size) "set" := ⟨cV (!dD w),G,U⟩;have J:=F.called_set.init.lookup;have b2:=F.called_set.init.bind (.ref s.heap.objs.size)
   repeat (any_goals (first|assumption|wp_step))
   refine Hi (zT (E:=E) (by simp[C]) z B t D) λp s2 d=>?_
   cases p with
   |error e=>exact d
   |ok H =>
    cases H with
    |ret r =>
     obtain⟨rfl,h',f,m,rfl,x,y,q⟩:=d
     repeat (any_goals (first|assumption|wp_step))
     exact h h' f m x y q
    |_=>exact d.elim
  |_=>exact g.elim
set_option maxRecDepth 100000
theorem aR:Slot "set_iterator" "__next__" "set_iterator.__next__" :=
 .of (owner := "set_iterator") (n := "__next__") (by rw[Iu,Iv];kernel_rfl) (by decide+kernel) (by decide+kernel) (by decide+kernel)
  (by first|exact .inl (by decide+kernel)|exact .inr (by decide+kernel)) (by rw[Iw];kernel_rfl)
theorem gB:Slot "set_iterator" "__iter__" "set_iterator.__iter__" :=
 .of (owner := "set_iterator") (n := "__iter__") (by rw[Iu,Iv];kernel_rfl) (by decide+kernel) (by decide+kernel) (by decide+kernel)
  (by first|exact .inl (by decide+kernel)|exact .inr (by decide+kernel)) (by rw[Iw];kernel_rfl)
theorem cE:Iy table "set_iterator.__next__" = Jp GX.«set_iterator.__next__»:=entryFor_of_fast (by kernel_rfl)
theorem ko:Iy table "set_iterator.__iter__" = Jp GX.«dict_keyiterator.__iter__» :=
 Iz (id' := "dict_keyiterator.__iter__") (by kernel_rfl) U (by decide+kernel) (by kernel_rfl)
theorem lP:Iy table "set.__iter__" = Jp GX.«frozenset.__iter__» :=
 Iz (id' := "frozenset.__iter__") (by kernel_rfl) U (by decide+kernel) (by kernel_rfl)
theorem cU(a:De):IA "set_iterator.__next__" ⟨[a],[]⟩:=by unfold IA;kernel_rfl
theorem kR(a:De):IA "set_iterator.__iter__" ⟨[a],[]⟩:=by unfold IA;kernel_rfl
abbrev eN(first:De)(i:Int)(s:De)(n a:Nat):Obj:={ cls:=.type "set_iterator",data:=.fields #[first,.int i 0,s,.int n 0,.int a 0] }
theorem oQ{a:Source}{n:Nat}{Q:Nat->Gk->Prop}(b:n≠0)(h:Q (w.draws a (s.drawn.get a)%n) { s with drawn:=s.drawn.bump a }) :
  Gq (model prog w) A (choose a n) Q E s:=λ_ _ _=>⟨b,h⟩
theorem lQ{b:Type}:∀(n:Nat)(xs:List b)(s:Gk){Q:List b->Gk->Prop},n=xs.length->(∀ys d,ys.Perm xs->Q ys { s with drawn:=d })->Gq (model prog w) A (IB n xs) Q E s:=by
 intro n;induction n with
 |zero =>
  intro xs s Q e h;have:xs=[]:=List.length_eq_zero_iff.mp e.symm;subst this;unfold IB;exact CY (h [] s.drawn (.refl _))
 |succ n f =>
  intro xs s Q e h;cases xs with
  |nil=>simp at e
  |cons x r =>
   unfold IB;refine CW (oQ (by simp) ?_);generalize hi:w.draws Source.order (s.drawn.get Source.order)%(x :: r).length=i;have a:i<(x :: r).length:=by rw[←hi];exact yD _ (by simp)
   have c:(x :: r)[i]?=Jp (x :: r)[i]:=Ga a;rw[c]
   try dsimp only
   refine CW (f _ _ (by rw[List.length_eraseIdx_of_lt a];lia) λys d p=>CY ?_);exact h _ d ((p.cons _).trans (fw c))
theorem ur{I a:E2}{b i:Nat}{o:Obj}{c:Array (Int×De)}{d:Nat}{t:Ig}{Q:Option De->Gk->Prop}
  (e:s.heap.get? I=Jp (eN (.int b 0) i (.ref a) c.size d))(k:s.heap.get? a=Jp o)(n:o.data=.set c d t)(l:t.fits c.size=Jr)
  {x:De}{nx:Nat}(q:∀(j:Option (De×Nat)->Gk->Prop) E',j (Jp (x,nx)) s->Gq (model prog w) A.in1 (IC a b i d) j E' s)
  (p:∀h',h'.get? I=Jp (eN (.int nx 0) ((i+1:Nat):Int) (.ref a) c.size d)->FG.SameBut I s.heap h'->Q (Jp x) { s with heap:=h' }) :
  Gq (model prog w) A (GQ (.ref I)) Q E s:=by
 have h:s.TypeIs (.ref I) "set_iterator" := ⟨_,e,U⟩;unfold GQ;refine CW (ID (IE (name:=s!"__next__") h aR (IF aR h cE ?_ (cU _))));unfold GX.«set_iterator.__next__»;refine CW (m:=IG "__next__" 0 _) (CY ?_);refine CW (IH e U ?_)
 try dsimp only
 refine CW (II k n l ?_);rw[Jv (by simp)]
 try dsimp only
 simp only[zK];refine CW (q _ _ ?_)
 try dsimp only
 refine CW (IJ e (by simp) λu y g=>?_);refine CW (IJ (s:={ s with heap:=u }) y (by simp) λr v f=>?_);refine CY ⟨x,U,CY (p r ?_ (g.trans f))⟩;rw[v];simp[eN,GU]
theorem uu{I a:E2}{c i:Nat}{o:Obj}{e:Array (Int×De)}{f:Nat}{t:Ig}{Q:Option De->Gk->Prop}(k:A.handled=Jq)
  (d:s.heap.get? I=Jp (eN (.int c 0) i (.ref a) e.size f))(j:s.heap.get? a=Jp o)(n:o.data=.set e f t)(l:t.fits e.size=Jr)
  (q:∀(h:Option (De×Nat)->Gk->Prop) E',h Jq s->Gq (model prog w) A.in1 (IC a c i f) h E' s)
  (p:∀h',FG.ExtBut I s.heap h'->Q Jq { s with heap:=h' }) :
  Gq (model prog w) A (GQ (.ref I)) Q E s:=by
 have g:s.TypeIs (.ref I) "set_iterator" := ⟨_,d,U⟩;unfold GQ;refine CW (ID (IE (name:=s!"__next__") g aR (IF aR g cE ?_ (cU _))));unfold GX.«set_iterator.__next__»;refine CW (m:=IG "__next__" 0 _) (CY ?_);refine CW (IH d U ?_)
 try dsimp only
 refine CW (II j n l ?_);rw[Jv (by simp)]
 try dsimp only
 simp only[zK];refine CW (q _ _ ?_)
 try dsimp only
 refine CW (IK d U (by simp) ?_);show Gq _ _ (IL (.type "StopIteration") [] >>= _) _ _ _;refine CW ?_;simp only[IL,newTuple];refine CW (HJ ?_ (by size_fits));refine CW (m:=IM _ _) (Iq (a:=De.none) (by first|rfl|(simp only[IM];rfl)) ?_);refine HJ ?_ (by size_fits);simp only[raiseNew];refine CW (IP ?_);rw[show A.in1.handled=Jq from k];refine CW (CY (wpAny_throw ?_));refine CW (IQ (T := "StopIteration") (b:=Jr) ⟨_,FG.get?_push_size _ U,U⟩ IS ?_);exact CY (p _ (((FG.SameBut.update ..).extBut.push _).push _))
theorem rL{I a tp:E2}{i:Nat}{o:Obj}{b:Array (Int×De)}{d:Nat}{t:Ig}{places:List Nat}{m:Nat}{to:Obj}{Q:Option De->Gk->Prop}
  (c:s.heap.get? I=Jp (eN (.ref tp) i (.ref a) b.size d))(n:s.heap.get? tp=Jp to)(g:to.data=.seq (places.map λ(p:Nat)=>GU p).toArray m)(h:s.heap.get? a=Jp o)(k:o.data=.set b d t)(j:t.fits b.size=Jr)
  {p:Nat}(q:places[i]?=Jp p){e:Int×De}(r:b[p]?=Jp e)
  (u:∀h',h'.get? I=Jp (eN (.ref tp) ((i+1:Nat):Int) (.ref a) b.size d)->FG.SameBut I s.heap h'->Q (Jp e.2) { s with heap:=h' }) :
  Gq (model prog w) A (GQ (.ref I)) Q E s:=by
 have l:s.TypeIs (.ref I) "set_iterator" := ⟨_,c,U⟩;unfold GQ;refine CW (ID (IE (name:=s!"__next__") l aR (IF aR l cE ?_ (cU _))));unfold GX.«set_iterator.__next__»;refine CW (m:=IG "__next__" 0 _) (CY ?_);refine CW (IH c U ?_)
 try dsimp only
 refine CW (II h k j ?_);rw[Jv (by simp)]
 try dsimp only
 refine CW (IT n g ?_)
 try dsimp only
 have y:(places.map λ(p:Nat)=>GU p).toArray[(i:Int).toNat]?=Jp (.int p 0):=by simp[q,GU]
 rw[y]
 try dsimp only
 unfold setNextDrawn;refine CW (CW (Io h k j ?_))
 try dsimp only
 rw[Jv (by simp)];refine CW (CY ?_);simp only[zK,r];refine CY ?_;refine CW (IJ c (by simp) λv x f=>?_);refine CY ⟨e.2,U,CY (u v ?_ f)⟩;rw[x];simp[eN,GU]
theorem lR{I a tp:E2}{i:Nat}{o:Obj}{d:Array (Int×De)}{j:Nat}{t:Ig}{places:List Nat}{m:Nat}{to:Obj}{Q:Option De->Gk->Prop}(n:A.handled=Jq)
  (c:s.heap.get? I=Jp (eN (.ref tp) i (.ref a) d.size j))(k:s.heap.get? tp=Jp to)(f:to.data=.seq (places.map λ(p:Nat)=>GU p).toArray m)(l:s.heap.get? a=Jp o)(r:o.data=.set d j t)(q:t.fits d.size=Jr)
  (g:places[i]?=Jq)(u:∀h',FG.ExtBut I s.heap h'->Q Jq { s with heap:=h' }) :
  Gq (model prog w) A (GQ (.ref I)) Q E s:=by
 have h:s.TypeIs (.ref I) "set_iterator" := ⟨_,c,U⟩;unfold GQ;refine CW (ID (IE (name:=s!"__next__") h aR (IF aR h cE ?_ (cU _))));unfold GX.«set_iterator.__next__»;refine CW (m:=IG "__next__" 0 _) (CY ?_);refine CW (IH c U ?_)
 try dsimp only
 refine CW (II l r q ?_);rw[Jv (by simp)]
 try dsimp only
 refine CW (IT k f ?_)
 try dsimp only
 have y:(places.map λ(p:Nat)=>GU p).toArray[(i:Int).toNat]?=none:=by simp at g⊢;exact g
 rw[y]
 try dsimp only
 refine CW (IJ c (by simp) λv x e=>?_);refine CW (IK (s:={ s with heap:=v }) x U (by simp) ?_);show Gq _ _ (IL (.type "StopIteration") [] >>= _) _ _ _;refine CW ?_;simp only[IL,newTuple];refine CW (HJ ?_ (by size_fits));refine CW (m:=IM _ _) (Iq (a:=De.none) (by first|rfl|(simp only[IM];rfl)) ?_);refine HJ ?_ (by size_fits);simp only[raiseNew];refine CW (IP ?_);rw[show A.in1.handled=Jq from n];refine CW (CY (wpAny_throw ?_));refine CW (IQ (T := "StopIteration") (b:=Jr) ⟨_,FG.get?_push_size _ U,U⟩ IS ?_);exact CY (u _ (((e.trans (FG.SameBut.update ..)).extBut.push _).push _))
theorem lS{I:E2}{first:De}{i:Int}{v:De}{n c:Nat}{Q:De->Gk->Prop}(b:s.heap.get? I=Jp (eN first i v n c))(h:Q (.ref I) s):Gq (model prog w) A (GS (.ref I)) Q E s:=by
 have a:s.TypeIs (.ref I) "set_iterator" := ⟨_,b,U⟩;refine IU a gB (IF gB a ko ?_ (kR _));show Gq _ _ (ret (.ref I)) _ _ s;exact CY ⟨_,U,"set_iterator",_,a,aR.lookup,h⟩
theorem jQ{a:E2}{o:Obj}{d:Array (Int×De)}{f:Nat}{t:Ig}{b i:Nat}(l:dD w=Jr)(g:s.heap.get? a=Jp o)(k:o.data=.set d f t)(j:t.fits d.size=Jr)
  {Q:Option (De×Nat)->Gk->Prop}(h:Q (((Ij (w.params.setOrder a f) d)[i]?).map λe=>(e.2,b)) s):Gq (model prog w) A (IC a b i f) Q E s:=by
 have c:((IV.mk prog w.params).params.followText "set-order")=true:=l;unfold IC;refine CW (Io g k j ?_)
 try dsimp only
 unfold IW;refine CW (CW (Ir (CY ?_)));show Gq _ _ (if (IV.mk prog w.params).params.followText "set-order" = Jr then _ else _) _ _ _;rw[Jw c,Jv (by simp)];unfold setWalk;refine CW (CW (Io g k j ?_))
 try dsimp only
 unfold IW;refine CW (CW (Ir (CY ?_)));show Gq _ _ (if (IV.mk prog w.params).params.followText "set-order" = Jr then _ else _) _ _ _;rw[Jw c];refine CW (Ir (CY (CY h)))
theorem iY{a:E2}{o:Obj}{c:Array (Int×De)}{e:Nat}{t:Ig}{b i:Nat}(n:dD w=Js)(g:s.heap.get? a=Jp o)(m:o.data=.set c e t)(l:t.fits c.size=Jr)(k:t.led=Jr)(f:(!t.plain && decide (c.size>1))=Js)
  {Q:Option (De×Nat)->Gk->Prop}(h:Q (match c[Ig.below t.place b]?,t.place[Ig.below t.place b]? with|some (_,x),Jp j=>Jp (x,j+1)|_,_=>Jq) s):Gq (model prog w) A (IC a b i e) Q E s:=by
 have d:((IV.mk prog w.params).params.followText "set-order")=false:=n;unfold IC;refine CW (Io g m l ?_)
 try dsimp only
 unfold IW;refine CW (CW (Ir (CY ?_)));show Gq _ _ (if (IV.mk prog w.params).params.followText "set-order" = Jr then _ else _) _ _ _;rw[Jv (by rw[d];exact Bool.false_ne_true)];show Gq _ _ (if (!t.plain && decide (c.size>1))=Jr then _ else _) _ _ _;rw[Jv (by rw[f];exact Bool.false_ne_true)];show Gq _ _ ((if (!t.led && !c.isEmpty)=Jr then unsupported "set:maker-not-led" else pure ()) >>= _) _ _ _;rw[k,Jv (by simp)];exact CW (CY (CY h))
set_option maxRecDepth 100000
abbrev p6:Array Gn->Array Gn->Prop:=λg a=>a=g
theorem nU{I:E2}{h':FG}(a:FG.SameBut I s.heap h'):HV [I] p6 s { s with heap:=h' } :=
 ⟨λb o c e=>(a.2 b λz=>c (z ▸ gb)).trans e,U,U,U,wN _⟩
theorem nV{I:E2}{h':FG}(a:FG.ExtBut I s.heap h'):HV [I] p6 s { s with heap:=h' } :=
 ⟨λb o c e=>a b o (λz=>c (z ▸ gb)) e,U,U,U,wN _⟩
theorem lT(D:A.handled=Jq){I a:E2}(n:a≠I){o:Obj}{f:Array (Int×De)}{m:Nat}{t:Ig}(u:o.data=.set f m t)(r:t.fits f.size=Jr){d:List De}(C:d.length=f.size)(j:Nat->Nat)
  (F:∀(i:Nat)(x:De)(s:Gk)(e:Option (De×Nat)->Gk->Prop) h,s.heap.get? a=Jp o->d[i]?=Jp x->e (Jp (x,j (i+1))) s->Gq (model prog w) A.in1 (IC a (j i) i m) e h s)
  (G:∀(s:Gk)(e:Option (De×Nat)->Gk->Prop) h,s.heap.get? a=Jp o->e Jq s->Gq (model prog w) A.in1 (IC a (j f.size) f.size m) e h s) :
  HS prog w A I [I,a] [I] p6 f.size (λi v=>d[i]?=Jp v) (λi s=>s.heap.get? I=Jp (eN (.int (j i) 0) i (.ref a) f.size m)/\s.heap.get? a=Jp o) where
 sub:=λb y=>by simp at y;simp[y]
 grefl:=λ_=>U
 gtrans:=λ_ _ _ J H=>H.trans J
 frame:=λi s z L c _ k=>⟨k I (by simp) _ c.1,k a (by simp) _ c.2⟩
 item:=λi s Q E hi c l=>by
  have B:d[i]?=Jp d[i]:=Ga (by lia);refine ur c.1 c.2 u r (x:=d[i]) (nx:=j (i+1)) (λe h q=>F i _ s e h c.2 B q) λz g p=>?_
  exact l _ _ B ⟨g,(p.2 a n).trans c.2⟩ (nU p)
 done:=λs Q E c l=>uu D c.1 c.2 u r (λe h q=>G s e h c.2 q) λz K=>l _ (nV K)
 self:=λi s Q E c l=>lS c.1 l
theorem p7(D:A.handled=Jq){I a tp:E2}(u:a≠I)(r:tp≠I){o to:Obj}{d:Array (Int×De)}{C m:Nat}{t:Ig}(y:o.data=.set d C t)(x:t.fits d.size=Jr){places:List Nat}(j:to.data=.seq (places.map λ(p:Nat)=>GU p).toArray m)
  (J:places.length=d.size){h:List De}(H:∀(i:Nat),i<d.size->∃p e,places[i]?=Jp p/\d[p]?=Jp e/\h[i]?=Jp e.2) :
  HS prog w A I [I,a,tp] [I] p6 d.size (λi v=>h[i]?=Jp v) (λi s=>s.heap.get? I=Jp (eN (.ref tp) i (.ref a) d.size C)/\s.heap.get? a=Jp o/\s.heap.get? tp=Jp to) where
 sub:=λb z=>by simp at z;simp[z]
 grefl:=λ_=>U
 gtrans:=λ_ _ _ q n=>n.trans q
 frame:=λi s B K c _ k=>⟨k I (by simp) _ c.1,k a (by simp) _ c.2.1,k tp (by simp) _ c.2.2⟩
 item:=λi s Q E hi c f=>by
  obtain⟨p,e,q,n,F⟩:=H i hi;refine rL c.1 c.2.2 j c.2.1 y x q n λB g l=>?_
  exact f _ _ F ⟨g,(l.2 a u).trans c.2.1,(l.2 tp r).trans c.2.2⟩ (nU l)
 done:=λs Q E c f=>lR D c.1 c.2.2 j c.2.1 y x (kC (by lia)) λB G=>f _ (nV G)
 self:=λi s Q E c f=>lS c.1 f
theorem vC{a:E2}{o:Obj}{f:Array (Int×De)}{B:Nat}{t:Ig}{Q:De->Gk->Prop}(C:s.heap.get? a=Jp o)(Z:o.ExactSet)(r:o.data=.set f B t)(y:f.size<HU)(n:t.fits f.size=Jr)(ha:Asc t.place)(hl:t.led = !dD w)
  (h:∀(I:E2)(h':FG)(d:Drawn)(M:List De)(fp:List E2)(St:Nat->Gk->Prop),(∀b u,s.heap.get? b=Jp u->h'.get? b=Jp u)->M.Perm (f.toList.map (·.2)) ->
   (∀L:Gj,L.handled=Jq->HS prog w L I fp [I] p6 f.size (λi v=>M[i]?=Jp v) St)->St 0 { s with heap:=h',drawn:=d }->s.heap.objs.size<=I->(∀b∈fp,b=a\/s.heap.objs.size<=b)->Q (.ref I) { s with heap:=h',drawn:=d }) :
  Gq (model prog w) A (GS (.ref a)) Q E s:=by
 have hT:s.TypeIs (.ref a) "set" := ⟨o,C,Z.1⟩;have la:a<s.heap.objs.size:=FG.lt_size C;refine IU hT F.slot_set_iter (IF F.slot_set_iter hT lP ?_ (F.args_set_iter_1 _));unfold GX.«frozenset.__iter__» GX.Frozenset.slot0;refine CW (CW (m:=IG "__iter__" 0 _) (CY ?_));unfold GX.Frozenset.addrOf;refine CY ?_;unfold GX.Frozenset.sizeOf;refine CW (CW (II C r n (CY ?_)));unfold setDrawn;refine CW (CW (Io C r n ?_))
 try dsimp only
 unfold IW;refine CW (CW (Ir (CY ?_)));refine CY ?_;show Gq _ _ (if (!dD w && (!t.plain && decide (f.size>1)))=Jr then _ else _) _ _ _;have H:f.toList.length=f.size:=Ah;by_cases c:(!dD w && (!t.plain && decide (f.size>1)))=Jr
 .rw[Jw c];refine CW (lQ f.size (List.range f.size) s (by simp) λj d p=>?_);refine CW (IX ?_ ?_)
  rotate_left
  .rw[bo,p.length_eq,jq];unfold HU at y;unfold FL;lia
  generalize N:({ cls:=.type "tuple",data:=.seq (j.map λ(i:Nat)=>GU i).toArray }:Obj)=to;have gt:(s.heap.push to).get? s.heap.objs.size=Jp to:=by rw[←N];exact FG.get?_push_size _ U
  have ga:(s.heap.push to).get? a=Jp o:=FG.get?_push_of_some _ C;refine CW (m:=setEpoch a) (IY (s:={ s with heap:=s.heap.push to,drawn:=d }) ga r n ?_);refine CW (HJ ?_ (by size_fits));have J:((s.heap.push to).push (eN (.ref s.heap.objs.size) (0:Nat) (.ref a) f.size B)).get? (s.heap.push to).objs.size=Jp (eN (.ref s.heap.objs.size) (0:Nat) (.ref a) f.size B):=FG.get?_push_size _ U;refine CY ⟨_,U,"set_iterator",_,⟨_,J,U⟩,aR.lookup,?_⟩;have V:∀i,i<f.size->∃p e,j[i]?=Jp p/\f[p]?=Jp e/\(j.map λp=>(f[p]?.map (·.2)).getD .none)[i]?=Jp e.2:=λi hi=>by
   have P:i<j.length:=by rw[p.length_eq,jq];exact hi
   have G:j[i]?=Jp j[i]:=Ga P;have lt:j[i]<f.size:=hV.mp (p.mem_iff.mp (mJ P));have W:f[j[i]]?=Jp f[j[i]]:=AK lt;exact⟨j[i],f[j[i]],G,W,by rw[eU,G];simp[W]⟩
  have nR:(j.map λp=>(f[p]?.map (·.2)).getD De.none).Perm (f.toList.map (·.2)):=by
   refine(p.map _).trans (List.Perm.of_eq ?_);apply List.ext_getElem
   .simp
   .intro i h1 h2;simp at h1;simp[h1]
  refine h _ _ d _ [(s.heap.push to).objs.size,a,s.heap.objs.size] _ (λb u e=>FG.get?_push_of_some _ (FG.get?_push_of_some _ e)) nR
   (λL K=>p7 K (places:=j) (to:=to) (m:=0) (by rw[FG.size_push];exact wO (xu la)) (by rw[FG.size_push];exact wO (yi _)) r n (by rw[←N]) (by rw[p.length_eq,jq]) V)
   ⟨J,FG.get?_push_of_some _ ga,FG.get?_push_of_some _ gt⟩ (by rw[FG.size_push];exact x4 _) λb y=>?_
  rcases dy.mp y with rfl|y
  .exact .inr (by rw[FG.size_push];exact x4 _)
  .rcases dy.mp y with rfl|y
   .exact .inl U
   .have:b=s.heap.objs.size:=by simpa using y
    exact .inr (by rw[this];exact wN _)
 .rw[Jv c];refine CW (CY ?_);refine CW (m:=setEpoch a) (IY C r n ?_);refine CW (HJ ?_ (by size_fits));have J:(s.heap.push (eN (.int (0:Nat) 0) (0:Nat) (.ref a) f.size B)).get? s.heap.objs.size=Jp (eN (.int (0:Nat) 0) (0:Nat) (.ref a) f.size B):=FG.get?_push_size _ U;refine CY ⟨_,U,"set_iterator",_,⟨_,J,U⟩,aR.lookup,?_⟩;have ne:a≠s.heap.objs.size:=wO la;have R:∀b∈[s.heap.objs.size,a],b=a\/s.heap.objs.size<=b:=λb y=>by
   rcases dy.mp y with rfl|y
   .exact .inr (wN _)
   .exact .inl (by simpa using y)
  cases hbt:dD w with
  |true =>
   have pp:=uo (w.params.setOrder a B) f;have D:((Ij (w.params.setOrder a B) f).toList.map (·.2)).length=f.size:=by rw[bo,pp.length_eq,H]
   refine h _ _ s.drawn ((Ij (w.params.setOrder a B) f).toList.map (·.2)) [s.heap.objs.size,a] _ (λb u e=>FG.get?_push_of_some _ e) (pp.map _)
    (λL K=>lT K ne r n D (λ_=>0) (λi x T X Y g l q=>jQ hbt g r n ?_) λT X Y g q=>jQ hbt g r n ?_) ⟨J,FG.get?_push_of_some _ C⟩ (wN _) R
   .rw[eU,Array.getElem?_toList]at l;cases e:(Ij (w.params.setOrder a B) f)[i]? with
    |none=>rw[e]at l;cases l
    |some z=>rw[e]at l;injection l with l;subst l;exact q
   .have e:(Ij (w.params.setOrder a B) f)[f.size]?=none:=by
     rw[←Array.getElem?_toList];exact kC (by rw[bo]at D;lia)
    rw[e];exact q
  |false =>
   have O:t.led=true:=by rw[hl,hbt];rfl
   have V:(!t.plain && decide (f.size>1))=false:=by
    rw[hbt]at c;simpa using c
   have a0:t.place.size=f.size:=by
    have:=n;simp only[Ig.fits,A2,beq_iff_eq]at this;exact this.1
   have S:∀i,i<=f.size->Ig.below t.place (match i with|0=>0|k+1=>t.place.getD k 0+1)=i:=λi hi=>by
    cases i with
    |zero=>exact pW ha
    |succ k =>
     have hk:k<t.place.size:=by lia
     have eg:t.place.getD k 0=t.place[k]:=by simp[Array.getD,hk]
     show Ig.below t.place (t.place.getD k 0+1)=k+1;rw[eg];exact rD ha hk
   refine h _ _ s.drawn (f.toList.map (·.2)) [s.heap.objs.size,a] _ (λb u e=>FG.get?_push_of_some _ e) (.refl _)
    (λL K=>lT K ne r n (by rw[bo,H]) (λi=>match i with|0=>0|k+1=>t.place.getD k 0+1) (λi x T X Y g l q=>iY hbt g r n O V ?_) λT X Y g q=>iY hbt g r n O V ?_) ⟨J,FG.get?_push_of_some _ C⟩ (wN _) R
   .have hi:i<f.size:=by
     obtain⟨z,_⟩:=Gb.mp l;rw[bo,H]at z;exact z
    rw[S i (x3 hi)];have G:f[i]?=Jp f[i]:=AK hi;have W:t.place[i]?=Jp t.place[i]:=AK (by lia);have e3:x=f[i].2:=by
     rw[eU,Array.getElem?_toList,G]at l;injection l with l;exact l.symm
    rw[G,W];have e4:t.place.getD i 0=t.place[i]:=by simp[Array.getD,show i<t.place.size by lia]
    subst e3;have q2:X (Jp (f[i].2,t.place.getD i 0+1)) T:=q;rw[e4]at q2;exact q2
   .rw[S f.size (wN _)];have G:f[f.size]?=none:=Array.getElem?_eq_none (wN _);rw[G];exact q
set_option maxRecDepth 100000
theorem uv{a:List De}{b:Array De}{n:Nat}(h:ItemsOf (λi v=>a[i]?=Jp v) b n)(c:a.length=n):b.toList=a:=by
 apply List.ext_getElem
 .rw[Ah,h.1,c]
 .intro i f d;have e:a[i]?=Jp b[i]:=h.2 i b[i] (AK (by simpa using f));rw[Ga d]at e;injection e with e;simpa using e.symm
theorem p8{a:E2}{o:Obj}{q:Array (Int×De)}{ep:Nat}{t:Ig}{Q:List De->Gk->Prop}(hh:A.handled=Jq)(S:s.heap.get? a=Jp o)(m:o.ExactSet)(hd:o.data=.set q ep t)(v:q.size<HU)(hf:t.fits q.size=Jr)(ha:Asc t.place)(hl:t.led = !dD w)
  (h:∀(f:List De)(s':Gk),f.Perm (q.toList.map (·.2))->(∀b u,s.heap.get? b=Jp u->s'.heap.get? b=Jp u)->s'.gens=s.gens->s'.os=s.os->s.heap.objs.size<s'.heap.objs.size->Q f s') :
  Gq (model prog w) A (collect (.ref a)) Q E s:=by
 have R:a<s.heap.objs.size:=FG.lt_size S;unfold collect;refine CW (Ib (HW F.entry_proto_collect ?_));rw[Gj.under_plainId F.plain_proto_collect _];show Gq _ A.in1 (HG [] >>= λl=>again (.builtin "list.__iadd__" ⟨[l,.ref a],[]⟩)) _ _ s;refine CW (HJ ?_);refine CY ⟨HY F.plain_list_iadd _,HW F.entry_list_iadd ?_⟩;rw[Gj.under_plainId F.plain_list_iadd _];generalize B:({ cls:=.type "list",data:=.seq ([]:List De).toArray }:Obj)=lo;have J:(s.heap.push lo).get? a=Jp o:=FG.get?_push_of_some _ S;have gS:(s.heap.push lo).get? s.heap.objs.size=Jp lo:=by rw[←B];exact FG.get?_push_size _ U
 have M:Gk.TypeIs { s with heap:=s.heap.push lo } (.ref a) "set" := ⟨o,J,m.1⟩;show Gq _ A.in1 (GX.List.listExtendWith (.ref s.heap.objs.size) (.ref a) (.ref s.heap.objs.size)) _ _ _;unfold GX.List.listExtendWith;refine CW (IZ M ?_);have h1:GX.List.listSameRef (.ref s.heap.objs.size) (.ref a)=false:=by simp[GX.List.listSameRef];exact w5 R
 have h2:(De.type "set" == De.type "list")=false:=by decide
 have h3:(De.type "set" == De.type "tuple")=false:=by decide
 simp only[h1,h2,h3,Bool.or_false,Bq,if_false];refine CW (vC (s:={ s with heap:=s.heap.push lo }) J m hd v hf ha hl λI j d f fp St H P W Y hI L=>?_);have g2:j.get? a=Jp o:=H a o J;have n:Gk.TypeIs { s with heap:=j,drawn:=d } (.ref a) "set" := ⟨o,g2,m.1⟩;refine CW (C7 ?_);unfold GX.List.listLengthHint;refine CW (I0 n F.slot_set_len.lookup ?_)
 (generalize k:("set.__len__" : String)=id0;(fail_if_success (clear k id0));wp_delta;rw[show splitId id0=Jp ("set","__len__")from by subst k;decide+kernel];subst k)
 refine CW (IQ (b:=Jr) n sub_set_self ?_);refine CW (IZ n ?_);refine CY ?_;show Gq _ A.in1 (rule "list.extend.makes-room" >>= λ_=>GX.List.listTouch (.ref s.heap.objs.size) >>= λ_ =>
  again (.builtin "list.extend.loop" ⟨[.ref s.heap.objs.size,.ref I,.ref s.heap.objs.size],[]⟩)) _ _ _
 refine CW (Ip ?_);have c:j.get? s.heap.objs.size=Jp lo:=H _ _ gS;rw[←B]at c;refine CW ?_;show Gq _ A.in1 (I1 s.heap.objs.size (·.push .none) >>= λ_=>I1 s.heap.objs.size (·.pop)) _ _ _;refine CW (Ja c U ?_);have i:=FG.get?_update_self (Obj.mapSeq (·.push De.none)) c U;refine Ja i U ?_;have p:=FG.get?_update_self (Obj.mapSeq (·.pop)) i U
 have y:∀b u,b≠s.heap.objs.size->j.get? b=Jp u ->
   ((j.update s.heap.objs.size (Obj.mapSeq (·.push De.none))).update s.heap.objs.size (Obj.mapSeq (·.pop))).get? b=Jp u :=
  λb u v e=>(FG.get?_update_other _ _ (Ne.symm v)).trans ((FG.get?_update_other _ _ (Ne.symm v)).trans e)
 have x:(s.heap.push lo).objs.size=s.heap.objs.size+1:=FG.size_push ..;have C:s.heap.objs.size ∉ fp:=λr=>by
  rcases L _ r with z|z
  .exact w5 R z
  .have O:(s.heap.push lo).objs.size<=s.heap.objs.size:=z;rw[x]at O;exact Nat.not_succ_le_self _ O
 have T:=W A.in1 (by simp[hh]);have G:f.length=q.size:=by rw[P.length_eq,bo,Ah]
 have K:=T.frame 0 ({ s with heap:=j,drawn:=d }:Gk) ((j.update s.heap.objs.size (Obj.mapSeq (·.push De.none))).update s.heap.objs.size (Obj.mapSeq (·.pop))) s.toks Y (wN _) λb g Z e=>y b Z (λz=>C (z ▸ g)) e
 refine CY ⟨HY F.plain_extend_loop _,codeAny_extend_loopS T (by unfold HU at v;unfold FL;lia) _ C _ q.size 0 _ _ _ U (xn _)
  K p (ItemsOf.nil _) λs' vD c' r D X=>?_⟩
 show Gq _ A (load s.heap.objs.size >>= _) _ _ s';refine CW (wpAny_load D ?_);refine CY ?_;rw[uv X G];refine h f s' P (λb u e=>?_) r.gens r.os (FG.lt_size D);have g:b<s.heap.objs.size:=FG.lt_size e;refine r.heap b u (λz=>?_) (y b u (wO g) (H b u (FG.get?_push_of_some _ e)));rcases dy.mp z with z|z
 .exact wO g z
 .have V:b=I:=by simpa using z
  have N:(s.heap.push lo).objs.size<=I:=hI;rw[x,←V]at N;exact yb _ (wW g (Nat.le_of_succ_le N))
variable{base:FG}
section
variable{M:Gp}{env:Env}{outer:List Env}{L e T:E2}{a0 cls fl:De}{Q:Unit->Gk->Prop}{Ts:List E2}
end
variable{Ju:List (E2×Obj)}{σ:St}{H:Hp}{h':FG}
section
variable{Y:List E2}
end
variable{P:EX}{K:W.Frag}{N:List Str}{scope:Gm}{f:E2}
section
variable{mg:Str->Option De}{qual:Str}{cd:De}{outer:List Env}{s0:Gk}{H0:Hp}{E:XK}
end
theorem iZ:cY X (.builtin "len") (λxs H Q=>∃(l:E2)(zs:List Str),xs=[.ref l]/\H l=Jp (mV X.prog X.w l zs)/\zs.length<=1000/\Q (.int ((cntK zs zs.length:Nat):Int)) H):=by
 intro Ju s σ H xs i Q I r h;obtain⟨l,zs,rfl,e,j,q⟩:=h;obtain⟨u,rfl,b⟩:=r.one;obtain rfl:u=De.ref l:=b;obtain⟨⟨o,k,m,t,g,f,d,_,_,_,c,a⟩,_,_⟩:=I.hok l _ e;have le:=jP zs zs.length;refine call_len_set g f d c (by rw[a];lia) ⟨.int _,H,I.tok _,⟨_,U⟩,?_⟩;rw[a];exact q
variable{k:Nat}{C:E2}{fd:He}{ps:List Str}{sp:Sp}{x m:Str}{p np pos:Pos}{e:Gs}{es:List Gs}{t:TA}
section
variable{apos:Pos}{o:Gs}{ta:TE}{E:XK}
end
theorem jd:∀{b:List Int}{us:List De},Vals (b.map V.int) us->∃xs:List (Int×Tok),us.toArray=Jb xs.toArray/\b=xs.map (·.1)
 | [],_,.nil=>⟨[],by simp[Jb],U⟩
 |n :: b,_,.cons ⟨t,e⟩ r=>by
  obtain⟨xs,d,c⟩:=jd r;refine⟨(n,t) :: xs,?_,by rw[c];rfl⟩;subst e;have a:=JB Array.toList d;simp[Jb]at a⊢;exact a
theorem nW{xs:Array (Int×Tok)}{i:Nat}(h:i<xs.size):numAt xs i∈xs.toList.map (·.1):=by
 rw[Jc];exact getD_mem (by rw[bo,Ah];lia)
theorem fA(C:X.calm=Jr):cY X (.builtin "min") (λus H Q=>∃(a:E2)(c:List Int),us=[.ref a]/\SqL X.K H a (c.map V.int)/\0<c.length/\∀m,m∈c->(∀b∈c,m<=b)->Q (.int m) H):=by
 intro Ju s σ H us G Q I r h;obtain⟨a,c,rfl,y,d,q⟩:=h;obtain⟨u,rfl,n⟩:=r.one;cases (show u=De.ref a from n);obtain⟨F,p,w,J⟩:=I.list y;obtain⟨xs,E,f⟩:=jd p;have i:=w.isList;rw[E]at i;have g:0<xs.toArray.size:=by
  rw[f,bo]at d;simpa using d
 refine min_intList (I.ok.hd C) i g λv h' l x A=>?_
 obtain⟨t,rfl⟩:=intItems_at x;obtain⟨L,D⟩:=argBest_lt (numAt xs.toArray) (xs.toArray.size-1);refine⟨.int _,H,I.kept (t':=l) λb o e=>A b o e,⟨t,U⟩,q _ ?_ λb k=>?_⟩
 .rw[f];exact nW (xs:=xs.toArray) (by lia)
 .rw[f]at k;obtain⟨j,B,rfl⟩:=mem_getD k;rw[bo]at B;have z:=D j (by simp;lia);rw[Jc]at z⊢;rw[Jc]at z;simpa using z
theorem fB(C:X.calm=Jr):cY X (.builtin "max") (λus H Q=>∃(a:E2)(c:List Int),us=[.ref a]/\SqL X.K H a (c.map V.int)/\0<c.length/\∀m,m∈c->(∀b∈c,b<=m)->Q (.int m) H):=by
 intro Ju s σ H us G Q I r h;obtain⟨a,c,rfl,y,d,q⟩:=h;obtain⟨u,rfl,n⟩:=r.one;cases (show u=De.ref a from n);obtain⟨F,p,w,J⟩:=I.list y;obtain⟨xs,E,f⟩:=jd p;have i:=w.isList;rw[E]at i;have g:0<xs.toArray.size:=by
  rw[f,bo]at d;simpa using d
 refine max_intList (I.ok.hd C) i g λv h' l x A=>?_
 obtain⟨t,rfl⟩:=intItems_at x;obtain⟨L,D⟩:=argBest_gt (numAt xs.toArray) (xs.toArray.size-1);refine⟨.int _,H,I.kept (t':=l) λb o e=>A b o e,⟨t,U⟩,q _ ?_ λb k=>?_⟩
 .rw[f];exact nW (xs:=xs.toArray) (by lia)
 .rw[f]at k;obtain⟨j,B,rfl⟩:=mem_getD k;rw[bo]at B;have z:=D j (by simp;lia);rw[Jc]at z⊢;rw[Jc]at z;simpa using z
def xv(P:EX)(w:D0)(a:E2)(b:List Int):HO:=.ext λh=>h.SetOf (Gf P w) a (λz=>decide (z∈b)) (cntK b b.length)
theorem lU:∀{zs:List Int}{us:List De},Vals (zs.map V.int) us->∀(i:Nat)(v:De),us[i]?=Jp v->∃z t,zs[i]?=Jp z/\v=.int z t
 | [],_,.nil,i,v,h=>by simp at h
 |z :: zs,_,.cons ⟨t,e⟩ r,0,v,h=>by simp at h;exact⟨z,t,U,by rw[←h,e]⟩
 |z :: zs,_,.cons _ r,i+1,v,h=>by
  obtain⟨a,t,c,b⟩:=lU r i v (by simpa using h);exact⟨a,t,by simpa using c,b⟩
theorem mY(B:X.calm=Jr):cY X (.type "set") (λxs H Q=>∃(p:E2)(zs:List Int),xs=[.ref p]/\SqL X.K H p (zs.map V.int)/\zs.length<=1000/\∀l,H l=Jq->Q (.ref l) (upd H l (xv X.prog X.w l zs))):=by
 intro Ju s σ H xs F Q I r h;obtain⟨p,zs,rfl,C,G,q⟩:=h;obtain⟨u,rfl,n⟩:=r.one;obtain rfl:u=De.ref p:=n;obtain⟨E,d,A,_⟩:=I.list C;have f:=d.length;rw[bo]at f;refine nP (knd:=Gf X.prog X.w) (ks:=zs) (I.ok.hd B) A.isList (λi v e=>?_) (by simpa using f) (by unfold HU;simp;lia) λh' m x=>?_
 .obtain⟨z,t,D,rfl⟩:=lU d i v (by simpa using e);exact⟨z,D,by show De.isInt z (.int z t)=Jr;simp[De.isInt],U⟩
 .obtain⟨c,j⟩:=x;refine⟨.ref s.heap.objs.size,_,I.laid (a:=s.heap.objs.size) (o:=xv X.prog X.w s.heap.objs.size zs) (h':=h') (t':=m) (λb o q=>j b o (FG.lt_size q) q) (wN _) ?_,U,q _ I.fresh⟩;refine⟨c,?_,λL J y k=>f7 y k⟩;obtain⟨o,_,_,_,g,_⟩:=c;exact⟨o,g⟩
theorem mZ:cY X (.builtin "len") (λxs H Q=>∃(l:E2)(zs:List Int),xs=[.ref l]/\H l=Jp (xv X.prog X.w l zs)/\zs.length<=1000/\Q (.int ((cntK zs zs.length:Nat):Int)) H):=by
 intro Ju s σ H xs i Q I r h;obtain⟨l,zs,rfl,e,j,q⟩:=h;obtain⟨u,rfl,b⟩:=r.one;obtain rfl:u=De.ref l:=b;obtain⟨⟨o,es,k,t,g,f,d,_,_,_,c,a⟩,_,_⟩:=I.hok l _ e;have le:=jP zs zs.length;refine call_len_set g f d c (by rw[a];lia) ⟨.int _,H,I.tok _,⟨_,U⟩,?_⟩;rw[a];exact q
theorem p9{b:Type} [DecidableEq b] {k:b}{ks:List b}:∀i,i<=ks.length->1<=cntK (k :: ks) (i+1)/\(cntK (k :: ks) (i+1)=1↔∀x∈ks.take i,x=k)
 |0,_=>by simp[cntK]
 |i+1,h=>by
  obtain⟨d,c⟩:=p9 (k:=k) (ks:=ks) i (by lia);have e:(k :: ks)[i+1]?=Jp ks[i]:=by simp
  have j:ks[i]?=Jp ks[i]:=Ga (by lia);have f:ks.take (i+1)=ks.take i++[ks[i]]:=by rw[mL,j];rfl
  have g:(k :: ks).take (i+1)=k :: ks.take i:=rfl;rw[show cntK (k :: ks) (i+1+1)=match (k :: ks)[i+1]? with
   |some x=>if x∈(k :: ks).take (i+1)then cntK (k :: ks) (i+1)else cntK (k :: ks) (i+1)+1
   |none=>cntK (k :: ks) (i+1)from U,e,f,g]
  dsimp only;by_cases m:ks[i]∈k :: ks.take i
  .rw[Jw m];refine⟨d,c.trans ⟨λz x a=>?_,λz x a=>z x (mu _ a)⟩⟩;rcases iK.mp a with a|a
   .exact z x a
   .have:x=ks[i]:=by simpa using a
    rw[this];rcases dy.mp m with m|m
    .exact m
    .exact z _ m
  .rw[Jv m];refine⟨by lia,⟨λz=>Jx z (by lia),λz=>?_⟩⟩;exact Jx (z ks[i] (jo _ (by simp))) λq=>m (by rw[q];exact gb)
theorem nX{a:Type} [DecidableEq a] {k:a}{ks:List a}:cntK (k :: ks) (k :: ks).length=1↔∀x∈ks,x=k:=by
 have:=(p9 (k:=k) (ks:=ks) ks.length (wN _)).2;rw[fq]at this;exact this
def TyG(K:W.Frag)(H:Hp)(x:V)(t:De):Prop:=ki K H x t\/∃a b,x=.ref a/\SqT K H a b/\t=.type "tuple"
inductive ClV:V->De->Prop where
 |ty (T:String):ClV (.ty T) (.type T)
 |ref (C:E2):ClV (.ref C) (.ref C)
theorem bP:cY X (.builtin "isinstance") (λxs H Q=>∃x c d t b,xs=[x,c]/\ClV c d/\TyG X.K H x t/\W.kitOne X.K t d=Jp b/\Q (.bl b) H):=by
 intro Ju s σ H xs v Q I r h;obtain⟨x,c,d,t,b,rfl,i,ty,e,q⟩:=h;cases r with
 |cons g j =>
  cases j with
  | @cons _ cu _ _ ry r3 =>
   cases r3;have n:cu=d:=by cases i <;> exact ry
   subst n;rcases ty with ty|⟨a,u,rfl,k,rfl⟩
   .exact ub I g ty e λf=>⟨.bl b,H,I.tok f,U,q⟩
   .cases (show _=De.ref a from g);obtain⟨p,r,⟨o,m,l,_⟩,_⟩:=I.tuple k;exact W.kia_one W.kitx_tuple I.kIn ⟨o,m,l⟩ e (λz=>nomatch z) λf=>⟨.bl b,H,I.tok f,U,q⟩
structure lV(K:W.Frag)(C:E2):Prop where
 cl:Cls K C
 ha:W.findIn K (.ref C) "__class__" = Jp (Jp (.builtin "object.__class__"))
 hn:W.specialIn K (.builtin "object.__class__") "__get__" = Jp (Jp (.builtin "getset_descriptor.__get__"))
 tk:W.takesIn K (.builtin "object.__class__")=Jp Jr
 hm:W.mroIn K C (.type "object")=Jp Jr
theorem lV.ty{K:W.Frag}{C:E2}(h:lV K C){H:Hp}{a b:E2}{fs:List (Str×V)}(e:H a=Jp (.ins C b fs)):TyG K H (.ref a) (.ref C):=.inl (.ins e h.cl h.ha h.hn h.tk h.hm)
def xw(CX:CXT)(P:EX)(w:D0)(K:W.Frag)(mg:Str->Option De)(base:FG)(k:Nat)(m:Str)(ps:List Str)(a:List (E2×Sp)):Prop :=
 ∀p∈a,bf CX P w K mg base k p.1 m ps p.2/\Cls K p.1
variable{CX:CXT}
section
variable{mg:Str->Option De}{cs:List (E2×Sp)}
theorem Bx:xw CX P w K mg base k m ps []:=λ_ h=>nomatch h
theorem qc(M:bf CX P w K mg base k C m ps sp)(c:Cls K C)(r:xw CX P w K mg base k m ps cs):xw CX P w K mg base k m ps ((C,sp) :: cs):=λp h=>by
 rcases dy.mp h with rfl|h
 .exact⟨M,c⟩
 .exact r p h
end
inductive yE(cs:List (E2×Sp))(m:Str)(t:TA)(σ:St)(Q:VK)(x:V)(H1:Hp):Prop
 |mk (a p dx fs:_)(_:x=.ref a)(_:p∈cs)(_:H1 a=Jp (.ins p.1 dx fs))(_:fs.lookup m=Jq)(_:t σ H1 λvs H2=>p.2 (x :: vs) H2 Q E0):yE cs m t σ Q x H1
def C8(b:List (E2×Sp))(m:Str)(a:TE)(t:TA):TE:=λσ H Q=>a σ H λx c=>yE b m t σ Q x c
section
variable{apos:Pos}{o:Gs}{ta:TE}{cs:List (E2×Sp)}
theorem vE{pl:Sem Bool}(M:xw CX X.prog X.w X.K X.mg X.base k m ps cs)(B:Passes CX X E0)(D:bU k X.A)(G:PE X o ta)(L:PA X (e :: es) t)
  (b:Gw (e :: es) X.env=(Js,eval e X.env) :: Gw es X.env:=by rfl)(d:(Gv pos (Gw es X.env)).any (·.1)=false:=by rfl)
  (C:eval (.Call (.Attribute o m apos) (e :: es) [] pos) X.env=(do
   let g ←eval o X.env
   GC apos.atName
   let (f,first) ←holding [g] (G7 g m pl)
   HR pos f first (Gv pos (Gw (e :: es) X.env)) (Hy pos (Hz [] X.env))):=by rfl) :
  PE X (.Call (.Attribute o m apos) (e :: es) [] pos) (C8 cs m ta t):=by
 intro Ju s σ H Q I h;refine W.methodCall_KW (pl:=pl) (thn (G Ju s σ H _ I h) λu v ⟨x,P,n,y,a,p,R,fs,N,E,O,l,q⟩=>?_) C;obtain⟨⟨f,fd,i,F,J⟩,c⟩:=M p E;subst N;obtain rfl:u=De.ref a:=y;refine lD n O c i l ?_;refine W.callWith_K (first:=[.ref a]) (h₀:=X.base) I.ok.mod.kin i.kp (thn (L pos Ju v σ P _ n q) λus s2 ⟨vs,S,j,r,z⟩=>⟨j.kIn,?_⟩) b d;exact zQ (us:=.ref a :: us) (vs:=.ref a :: vs) F D J B j (.cons U r) z
theorem kq(M:bh CX X.prog X.w X.K X.mg X.base k x C ps sp)(b:Passes CX X E0)(c:bU (k+1) X.A)(e:Gl X x)(a:(x == ("__debug__" : Str))=false:=by decide) :
  PE X (.Call (.Name x p) [] [] pos) (tMk C sp zF):=by
 obtain⟨f,fd,M,F,g,d⟩:=M;have h:=vk (E:=E0) (dvs:=[]) (ds:=[]) (p:=p) (pos:=pos) M F c e d g .nil b a;intro Ju s σ H Q I q;exact h Ju s σ H Q I q
end
def ModT(K:W.Frag)(a:E2)(xs:List V):Prop:=∃(o:Obj)(b:Array De)(n:Nat),K.lookup a=Jp o/\o.cls=.type "tuple" /\ o.data=.seq b n/\b.size<=FL/\Vals xs b.toList
theorem ModT.sq{K:W.Frag}{a:E2}{xs:List V}(h:ModT K a xs)(H:Hp):SqT K H a xs:=.inr h
theorem ModT.mk{K:W.Frag}{a:E2}{xs:List V}{d:Option E2}{b:Array De}{n:Nat}{c:Array (Option De)}(h:K.lookup a=Jp ⟨.type "tuple",d,.seq b n,c⟩) (f:b.size<=FL)(e:Vals xs b.toList):ModT K a xs :=
 ⟨_,b,n,h,U,U,f,e⟩
theorem ao.seqT{K:W.Frag}{H H':Hp}{a:E2}{xs:List V}(e:ao H H')(h:SqT K H a xs):SqT K H' a xs:=by
 rcases h with(h|⟨o,h⟩)|h
 .exact .inl (.inl (e _ _ h))
 .exact .inl (.inr ⟨o,e _ _ h⟩)
 .exact .inr h
theorem uw{K:W.Frag}{H:Hp}{Q:VK}{a b:E2}{xs:List V}(f:SqL K H a xs)(e:SqL K H b xs)(fl:∀x∈xs,dZ x=Jr\/∃r,x=.ref r)(q:Q (.bl Jr) H):vo K Js (.ref a) (.ref b) H Q:=by
 refine⟨a,b,xs,xs,U,U,f,e,.inr ⟨U,λ_=>Jr,λj x y d c=>?_,?_⟩⟩
 .rw[d]at c;cases c;rcases fl x (Gd d)with z|⟨r,rfl⟩
  .have:=EqI.flat (K:=K) (H:=H) z z;rw[jK z]at this;exact this
  .exact .same r
 .have:(List.range xs.length).all (λ_=>Jr)=true:=by simp
  rw[this];exact q
theorem dN{c A B:Prop} [Decidable c] (a:c)(h:A):if decide c=Jr then A else B:=by rw[Jw (Jy a)];exact h
theorem bB{c A B:Prop} [Decidable c] (a:¬ c)(h:B):if decide c=Jr then A else B:=by rw[Jv (by rw[Jz a];decide)];exact h
theorem ls0{P:List De->Prop}(h:P []):∀us:List De,us.length=0->P us:=λus e=>by
 cases us
 .exact h
 .cases e
theorem lsS{P:List De->Prop}{n:Nat}(h:∀a us,us.length=n->P (a :: us)):∀us:List De,us.length=n+1->P us:=λus e=>by
 cases us
 .cases e
 .exact h _ _ (Nat.succ.inj e)
theorem ls1{P:List De->Prop}(h:∀a,P [a]):∀us:List De,us.length=1->P us:=lsS λa=>ls0 (P:=λv=>P (a :: v)) (h a)
theorem ls2{P:List De->Prop}(h:∀a b,P [a,b]):∀us:List De,us.length=2->P us:=lsS λa=>ls1 (P:=λv=>P (a :: v)) (h a)
theorem ls3{P:List De->Prop}(h:∀a b c,P [a,b,c]):∀us:List De,us.length=3->P us:=lsS λa=>ls2 (P:=λv=>P (a :: v)) (h a)
theorem ls4{P:List De->Prop}(h:∀a b c d,P [a,b,c,d]):∀us:List De,us.length=4->P us:=lsS λa=>ls3 (P:=λv=>P (a :: v)) (h a)
theorem ls5{P:List De->Prop}(h:∀a b c d e,P [a,b,c,d,e]):∀us:List De,us.length=5->P us:=lsS λa=>ls4 (P:=λv=>P (a :: v)) (h a)
theorem ls6{P:List De->Prop}(h:∀a b c d e f,P [a,b,c,d,e,f]):∀us:List De,us.length=6->P us:=lsS λa=>ls5 (P:=λv=>P (a :: v)) (h a)
theorem ls7{P:List De->Prop}(h:∀a b c d e f g,P [a,b,c,d,e,f,g]):∀us:List De,us.length=7->P us:=lsS λa=>ls6 (P:=λv=>P (a :: v)) (h a)
theorem lb1{fd:He}{ps:List Str}(h:∀a,Hg fd ⟨[a],[]⟩=pure (ps.zip [a])):∀us:List De,us.length=1->Hg fd ⟨us,[]⟩=pure (ps.zip us):=ls1 (P:=λus=>Hg fd ⟨us,[]⟩=pure (ps.zip us)) h
theorem lb2{fd:He}{ps:List Str}(h:∀a b,Hg fd ⟨[a,b],[]⟩=pure (ps.zip [a,b])):∀us:List De,us.length=2->Hg fd ⟨us,[]⟩=pure (ps.zip us):=ls2 (P:=λus=>Hg fd ⟨us,[]⟩=pure (ps.zip us)) h
theorem lb3{fd:He}{ps:List Str}(h:∀a b c,Hg fd ⟨[a,b,c],[]⟩=pure (ps.zip [a,b,c])):∀us:List De,us.length=3->Hg fd ⟨us,[]⟩=pure (ps.zip us):=ls3 (P:=λus=>Hg fd ⟨us,[]⟩=pure (ps.zip us)) h
theorem lb4{fd:He}{ps:List Str}(h:∀a b c d,Hg fd ⟨[a,b,c,d],[]⟩=pure (ps.zip [a,b,c,d])):∀us:List De,us.length=4->Hg fd ⟨us,[]⟩=pure (ps.zip us):=ls4 (P:=λus=>Hg fd ⟨us,[]⟩=pure (ps.zip us)) h
theorem lb5{fd:He}{ps:List Str}(h:∀a b c d e,Hg fd ⟨[a,b,c,d,e],[]⟩=pure (ps.zip [a,b,c,d,e])):∀us:List De,us.length=5->Hg fd ⟨us,[]⟩=pure (ps.zip us):=ls5 (P:=λus=>Hg fd ⟨us,[]⟩=pure (ps.zip us)) h
theorem lb7{fd:He}{ps:List Str}(h:∀a b c d e f g,Hg fd ⟨[a,b,c,d,e,f,g],[]⟩=pure (ps.zip [a,b,c,d,e,f,g])):∀us:List De,us.length=7->Hg fd ⟨us,[]⟩=pure (ps.zip us):=ls7 (P:=λus=>Hg fd ⟨us,[]⟩=pure (ps.zip us)) h
section
variable{mg:Str->Option De}{j:Nat}{q:Str}{st:Gx}
theorem fsc{P:List Str}{f:Gm}(a:f.kind=.function:=by rfl)(b:f.isCoroutine=false:=by rfl)(c:f.isGenerator=false:=by rfl)(d:N.Nodup:=by decide+kernel)(e:N.take P.length=P:=by rfl)(g:∀x∈P,f.names.lookup x=Jp .local\/f.names.lookup x=Jp .cell:=by decide+kernel)(h:∀y∈f.names,y.2≠.free:=by decide+kernel):aq N P f:=⟨a,b,c,d,e,g,h⟩
theorem Fun.okA(F:Fun K x q st f fd)(S:aq N ps (aj st))(c:∀(b:De)(A:Gj)(a:List Env)(s:Gk)(H:Hp)(vs:List V)(Q:VK)(E:XK),bU k (A.deeper (envOfC q (aj st) s.heap.objs.size f b))->sp vs H Q E->∃t,PSs (pQ CX0 P w K mg base N q (aj st) f b A a s H E).nox (dF st) t/\t { nx:=λ_ H'=>Q .non H',rt:=Q } (start N vs) H)(len:∀vs H Q E,sp vs H Q E->vs.length=ps.length:=by intro vs H Q E h;cases h;subst_vars;rfl):aK P w K mg base CX0 (k+1) f fd ps sp:=F.ok S len c
theorem Callee.up(c:Callee P w K mg base j x ps sp)(h:j<=k:=by decide):Callee P w K mg base k x ps sp:=c.mono h
theorem bf.up(c:bf CX P w K mg base j C m ps sp)(h:j<=k:=by decide):bf CX P w K mg base k C m ps sp:=c.mono h
theorem bh.up(c:bh CX P w K mg base j x C ps sp)(h:j<=k:=by decide):bh CX P w K mg base k x C ps sp:=c.mono h
theorem b7.up(c:b7 CX P w K mg base j x m ps sp)(h:j<=k:=by decide):b7 CX P w K mg base k x m ps sp:=c.mono h
inductive GF(K:W.Frag)(x q:Str)(st:Gx):Prop
 |mk {f:E2}{fd:He}(a:W.nsIn K Gg x=Jp (Jp (.ref f)))(F:Fun K q q st f fd)
inductive MF(K:W.Frag)(C:E2)(x q:Str)(st:Gx):Prop
 |mk {f:E2}{fd:He}(a:W.findIn K (.ref C) x=Jp (Jp (.ref f)))(i:W.isFn K (.ref f)=Jr)(F:Fun K x q st f fd)
inductive KF(K:W.Frag)(C:E2)(x q:Str)(st:Gx):Prop
 |mk {f:E2}{fd:He}(a:W.findIn K (.ref C) "__init__" = Jp (Jp (.ref f))) (i:W.isFn K (.ref f)=Jr)(m:W.makesIn K C=Jr)(k:W.keepIn K (.ref C)=Jr)(n:W.nsIn K Gg x=Jp (Jp (.ref C)))(F:Fun K "__init__" q st f fd)
inductive BF(K:W.Frag)(C:E2)(x m q:Str)(st:Gx):Prop
 |mk {f:E2}{fd:He}(s:W.specialIn K (.ref C) "__getattribute__" = Jp (Jp (.builtin "type.__getattribute__"))) (r:W.readsIn K C (.type "type")=Jr) (a:W.findCls K (.ref C) (.type "type") m=Jp (.val (.ref f))) (n:W.nsIn K Gg x=Jp (Jp (.ref C)))(F:Fun K m q st f fd)
inductive Zb(P:EX)(w:D0)(K:W.Frag)(mg:Str->Option De)(base:FG):Prop
 |mk {h:FG}(X:K.In h)(G:h.Ns Gg mg)
theorem Zb.g(Z:Zb P w K mg base){v:De}(e:W.nsIn K Gg x=Jp (Jp v)):mg x=Jp v:=by cases Z with|mk X G=>exact W.mg_of X G e
theorem mkC(Z:Zb P w K mg base)(h:GF K x q st)(O:∀{f:E2}{fd:He},Fun K q q st f fd->aK P w K mg base CX0 k f fd ps sp)(b:∀{f:E2}{fd:He},Fun K q q st f fd->Binds K fd ps []:=by trivial):Callee P w K mg base k x ps sp:=by
 cases h with|mk a F=>exact⟨_,_,O F,b F,F.kp,Z.g a⟩
theorem mkM(_:Zb P w K mg base)(h:MF K C m q st)(O:∀{f:E2}{fd:He},Fun K m q st f fd->aK P w K mg base CX k f fd ps sp)(b:∀{f:E2}{fd:He},Fun K m q st f fd->Binds K fd ps []:=by trivial):bf CX P w K mg base k C m ps sp:=by
 cases h with|mk a i F=>exact⟨_,_,⟨a,i,F.kp⟩,O F,b F⟩
theorem mkK(Z:Zb P w K mg base)(h:KF K C x q st)(O:∀{f:E2}{fd:He},Fun K "__init__" q st f fd->aK P w K mg base CX k f fd ps sp) (b:∀{f:E2}{fd:He},Fun K "__init__" q st f fd->Binds K fd ps []:=by trivial):bh CX P w K mg base k x C ps sp:=by
 cases h with|mk a i m k n F=>exact⟨_,_,⟨m,a,i,k⟩,O F,b F,Z.g n⟩
theorem mkB(Z:Zb P w K mg base)(h:BF K C x m q st)(O:∀{f:E2}{fd:He},Fun K m q st f fd->aK P w K mg base CX k f fd ps sp)(b:∀{f:E2}{fd:He},Fun K m q st f fd->Binds K fd ps []:=by trivial):b7 CX P w K mg base k x m ps sp:=by
 cases h with|mk s r a n F=>exact⟨_,_,_,⟨s,r,a,F.kp⟩,O F,b F,Z.g n⟩
theorem mkR{sp:Nat->Sp}(Z:Zb P w K mg base)(h:GF K x q st)(k n:Nat)(z:∀{vs:List V}{H:Hp}{Q:VK}{E:XK},¬ sp 0 vs H Q E)(O:∀{f:E2}{fd:He}(n:Nat),Fun K q q st f fd->Callee P w K mg base (k+n) x ps (sp n)->aK P w K mg base CX0 (k+n+1) f fd ps (sp (n+1)))(b:∀{f:E2}{fd:He},Fun K q q st f fd->Binds K fd ps []:=by trivial):Callee P w K mg base (k+n) x ps (sp n):=by
 cases h with|mk a F =>
 refine⟨_,_,?_,b F,F.kp,Z.g a⟩;induction n with
 |zero=>exact aK.no λ_ _ _ _ h=>z h
 |succ n c=>exact O n F ⟨_,_,c,b F,F.kp,Z.g a⟩
theorem gv_mk{v:V}{u:De}(a:W.nsIn K Gg x=Jp (Jp u))(r:RelV v u):∃u,W.nsIn K Gg x=Jp (Jp u)/\RelV v u:=⟨u,a,r⟩
end
theorem Inv.turnedPair{ch:List E2}{T:E2}{x y:V}{u v:De}(I:Inv X Ju σ H s)(h:∀b∈ch,ke X Ju H b)(k:∀b o,b ∉ ch->s.heap.get? b=Jp o->h'.get? b=Jp o)
  (A:s.heap.get? T=Jq)(D:H T=Jq)(E:Jd h' T u v)(t:RelV x u)(p:RelV y v):Inv X Ju σ (upd H T (.tup [x,y])) { s with heap:=h' }:=by
 have out:∀b u,H b=Jp u->b ∉ ch:=λb u e z=>by
  have f:=(h b z).1;rw[f]at e;cases e
 have j:∀{b o},s.heap.get? b=Jp o->b≠T:=λe z=>by rw[z,A]at e;cases e
 have a:∀{b u},H b=Jp u->b≠T:=λe z=>by rw[z,D]at e;cases e
 have J:=Inv.step (H':=upd H T (.tup [x,y])) (h':=h') (g':=s.gens) (d':=s.drawn) (t':=s.toks) (ch:=ch) I
  (λb g=>by obtain⟨_,i,_,K,G,F⟩:=h b g;exact⟨K,i,G,F⟩)
  (λb o _ _ d e _=>k b o d e)
  (λb o _ _ d e _=>⟨o.slots,k b o d e⟩)
  (λb o _ e n=>by rw[aw (j e)];exact n)
  (λb o d e=>⟨o,k b o d e⟩)
  (λb l e=>by rw[aw (a e)];exact e)
  (λb o w e=>by rw[aw (a e)];exact e)
  (λb ps e=>⟨#[],by rw[aw (a e),e];simp⟩)
  (λm C=>by
   obtain⟨o,es,L,B,r⟩:=C;refine⟨o,es,L,k _ o (λz=>?_) B,r⟩;obtain⟨_,i,_⟩:=h _ z;exact i U)
  (λb w e=>by
   by_cases g:b=T
   .subst g;rw[ab]at e;cases e;exact⟨by show 2<=FL;decide,[u,v],.cons t (.cons p .nil),_,E,U,_,U⟩
   .rw[aw g]at e;refine(I.hok b w e).stay (λc z d q=>k c z ?_ q) (λc q=>?_) λc l q=>?_
    .rcases d with z|z
     .rw[z];exact out b w e
     .exact out c _ z
    .rw[aw (a q)];exact q
    .rw[aw (a q)];exact q)
  I.bare
 exact J
theorem Inv.turnedL{ch:List E2}(I:Inv X Ju σ H s)(d:∀b∈ch,ke X Ju H b)(k:∀b o,b ∉ ch->s.heap.get? b=Jp o->h'.get? b=Jp o):Inv X Ju σ H { s with heap:=h' }:=by
 have out:∀b u,H b=Jp u->b ∉ ch:=λb u e z=>by
  have f:=(d b z).1;rw[f]at e;cases e
 have J:=Inv.step (H':=H) (h':=h') (g':=s.gens) (d':=s.drawn) (t':=s.toks) (ch:=ch) I
  (λb l=>by obtain⟨_,g,_,v,t,p⟩:=d b l;exact⟨v,g,t,p⟩)
  (λb o _ _ a e _=>k b o a e)
  (λb o _ _ a e _=>⟨o.slots,k b o a e⟩)
  (λb o _ _ n=>n)
  (λb o a e=>⟨o,k b o a e⟩)
  (λb h e=>e) (λb o w e=>e) (λb ps e=>⟨#[],by rw[e];simp⟩)
  (λm j=>by
   obtain⟨o,es,x,i,r⟩:=j;refine⟨o,es,x,k _ o (λz=>?_) i,r⟩;obtain⟨_,g,_⟩:=d _ z;exact g U)
  (λb w e=>by
   refine(I.hok b w e).stay (λc z a q=>k c z ?_ q) (λc q=>q) λc h q=>q
   rcases a with z|z
   .rw[z];exact out b w e
   .exact out c _ z)
  I.bare
 exact J
def Itz(K:W.Frag)(a b:E2):It :=
 ⟨λi H=>∃d c x y,SqL K H a d/\SqL K H b c/\d[i]?=Jp x/\c[i]?=Jp y,
 λi H v e=>∃T,H T=Jq/\v=.ref T/\∀d c x y,SqL K H a d->SqL K H b c->d[i]?=Jp x->c[i]?=Jp y->e=upd H T (.tup [x,y]),
 λi H=>∃d c,SqL K H a d/\SqL K H b c/\(d.length<=i\/c.length<=i)⟩
def yF(z TI TO d c a b:E2)(i:Nat)(h:FG):Prop:=IsZip h z TI TO .none/\Jd h TI (.ref d) (.ref c)/\(∃p q,Jd h TO p q)/\h.IsListIter d a i/\h.IsListIter c b i
theorem vF{P:EX}{w:D0}{K:W.Frag}{A:List Gs} {x1} {tp:Pos}{z TI TO t r a b:E2}(D:Je z TI TO t r a b) :
  Turn P w K (.Tuple A x1 tp) (Itz K a b) [z,TI,TO,t,r] z (yF z TI TO t r a b) where
 mem:=by simp
 obj:=λi h f c d=>by
  obtain⟨n,g,⟨p,q,m⟩,⟨o4,l,_,d4⟩,⟨o5,j,_,d5⟩⟩:=f;simp only[dy,jr,or_false]at d;rcases d with rfl|rfl|rfl|rfl|rfl
  .exact⟨_,n,λv q=>nomatch q⟩
  .exact⟨_,g,λv q=>nomatch q⟩
  .exact⟨_,m,λv q=>nomatch q⟩
  .exact⟨_,l,λv q=>by rw[d4]at q;cases q⟩
  .exact⟨_,j,λv q=>by rw[d5]at q;cases q⟩
 keep:=λi h h' f k=>by
  obtain⟨n,g,⟨p,q,m⟩,l,j⟩:=f;exact⟨k z (by simp) _ n,k TI (by simp) _ g,⟨p,q,k TO (by simp) _ m⟩,l.at λo e=>k t (by simp) o e,j.at λo e=>k r (by simp) o e⟩
 item:=by
  intro X R N S d i Ju s σ H E I F f Q;subst R N S;obtain⟨xs,ys,x,y,C,B,ex,ey⟩:=Q;obtain⟨n,g,⟨p,q,m⟩,l,j⟩:=f;obtain⟨us,L,M,_⟩:=I.list C;obtain⟨vs,G,pv,_⟩:=I.list B;obtain⟨u,eu,r1⟩:=L.get ex;obtain⟨v,ev,r2⟩:=G.get ey;refine Jf D n g m l j M.isList pv.isList (x:=u) (y:=v) (by simpa using eu) (by simpa using ev) λh1 a1 a2 a3 a4 a5 a6 a7=>?_
  refine⟨_,U,wpAny_letOwnedTupleGo_zip (s:={ s with heap:=h1 }) a1 λV b1 b2=>?_⟩;have nT:s.heap.get? s.heap.objs.size=none:=by
   cases q:s.heap.get? s.heap.objs.size with
   |none=>rfl
   |some o=>exact Jx (FG.lt_size q) (yb _)
  have hT:H s.heap.objs.size=none:=I.hok.fresh (wN _);have nz:s.heap.objs.size≠z:=w5 (FG.lt_size n);have kk:∀c o,c ∉ [z,TO,t,r]->s.heap.get? c=Jp o->V.get? c=Jp o:=λc o d e=>by
   simp only[dy,jr,or_false,not_or]at d;exact b2.extBut _ _ d.1 (a7 c o d.1 d.2.1 d.2.2.1 d.2.2.2 e)
  have J:=I.turnedPair (h':=V) (ch:=[z,TO,t,r]) (T:=s.heap.objs.size) (x:=x) (y:=y) (u:=u) (v:=v) (λc d=>F c (by simp at d⊢;rcases d with e|e|e|e <;> simp[e])) kk nT hT (b2.extBut _ _ nz a5) r1 r2;refine⟨.ref s.heap.objs.size,upd H s.heap.objs.size (.tup [x,y]),J,U,⟨_,hT,U,λb0 a9 x' y' q1 q2 Z Y=>?_⟩,⟨b1,b2.extBut _ _ D.TIz (a7 TI _ D.TIz D.TITO D.TIi1 D.TIi2 g),⟨_,_,b2.extBut _ _ D.TOz a2⟩,a3.extBut b2.extBut D.i1z,a4.extBut b2.extBut D.i2z⟩,λc d=>?_⟩
  .rw[I.list_inj q1 C]at Z;rw[I.list_inj q2 B]at Y;rw[ex]at Z;rw[ey]at Y;cases Z;cases Y;rfl
  .have h0:=(F c d).1;have:c≠s.heap.objs.size:=by
    obtain⟨o4,a8,_⟩:=l;obtain⟨o5,a0,_⟩:=j;simp only[dy,jr,or_false]at d;rcases d with rfl|rfl|rfl|rfl|rfl
    .exact nz.symm
    .exact wO (FG.lt_size g)
    .exact wO (FG.lt_size m)
    .exact wO (FG.lt_size a8)
    .exact wO (FG.lt_size a0)
   rw[aw this];exact h0
 done:=by
  intro X R N S d i Ju s σ H E I F f Q;subst R N S;obtain⟨xs,ys,C,B,O⟩:=Q;obtain⟨n,g,⟨p,q,m⟩,l,j⟩:=f;obtain⟨us,L,M,_⟩:=I.list C;obtain⟨vs,G,pv,_⟩:=I.list B;have l1:=L.length;have l2:=G.length;refine Jg (I.ok.hd d) D n g m l j M.isList pv.isList ?_ λV k=>⟨U,I.turnedL (ch:=[z,TO,t,r]) (λc d=>F c (by simp at d⊢;rcases d with e|e|e|e <;> simp[e])) λc o d e=>?_⟩
  .rcases O with O|O
   .exact .inl (by simp;lia)
   .exact .inr (by simp;lia)
  .simp only[dy,jr,or_false,not_or]at d;exact k c o d.1 d.2.1 d.2.2.1 d.2.2.2 e
 self:=λ_ _ _ _ _ f h=>Jh f.1 h
inductive yG(K:W.Frag)(R:It->Hp->Prop)(vs:List V)(H1:Hp):Prop
 |mk (a b:_)(_:vs=[.ref a,.ref b])(_:(∃xs,SqL K H1 a xs))(_:(∃ys,SqL K H1 b ys))(_:R (Itz K a b) H1)
def C9(K:W.Frag)(b:TA):TI:=λσ H R=>b σ H λa c=>yG K R a c
theorem je{k e:Gs}{l:TA}{p pos:Pos}{j:List Gs} {x1} {tp:Pos}(M:Gl X "zip") (hm:X.mg "zip" = Jq) (N:PA X [k,e] l)
  (L:Gw [k,e] X.env=[(Js,eval k X.env),(Js,eval e X.env)]:=by rfl)(g:Gw [e] X.env=[(Js,eval e X.env)]:=by rfl) :
  PI X (.Tuple j x1 tp) (.Call (.Name "zip" p) [k,e] [] pos) (C9 X.K l):=by
 intro Ju s σ H R I h;refine Call_ (eG I M hm PyProof.Rows.boot_zip (PyProof.Rows.callWith_type1 (thn (N pos Ju s σ H _ I h) λB d ⟨A,Q,f,E,J⟩=>?_) (by rw[L,g]) (by rw[g];rfl)));obtain⟨a,b,rfl,⟨V,G⟩,⟨T,F⟩,q⟩:=J;obtain⟨u,v,rfl,D,C⟩:=E.two;cases (show u=De.ref a from D);cases (show v=De.ref b from C);obtain⟨B,_,m,_⟩:=f.list G;obtain⟨A,_,pv,_⟩:=f.list F;obtain⟨Y,P,_⟩:=id m.isList;obtain⟨W,O,_⟩:=id pv.isList;have o:a<d.heap.objs.size:=FG.lt_size P;have n:b<d.heap.objs.size:=FG.lt_size O;refine call_zip_2 m.isList pv.isList λh' z1 z y x w S t=>?_
 refine Jh (s:={ d with heap:=h' }) z1 ?_;refine⟨d.heap.objs.size+4,[d.heap.objs.size+4,d.heap.objs.size+2,d.heap.objs.size+3,d.heap.objs.size,d.heap.objs.size+1],yF (d.heap.objs.size+4) (d.heap.objs.size+2) (d.heap.objs.size+3) d.heap.objs.size (d.heap.objs.size+1) a b,Itz X.K a b,Q,U,f.kept (t':=d.toks) t,vF ?_,⟨z1,z,⟨_,_,y⟩,x,w⟩,λc r=>?_,q⟩
 .refine⟨?_,?_,?_,?_,?_,?_,?_,?_,?_,?_,?_,?_,?_,?_,?_,?_,?_,?_⟩ <;> first|exact wO (by lia)|exact w5 (by lia)|exact wO o|exact wO n|exact wO (wW o (yl _ _))|exact wO (wW n (yl _ _))
 .have i:d.heap.objs.size<=c:=by
   simp only[dy,jr,or_false]at r;rcases r with rfl|rfl|rfl|rfl|rfl <;> lia
  exact f.fpOk i (f.hok.fresh i)
theorem oR{K:W.Frag}{a b:E2}{xs ys:List V}{g:TG}{o:TS}{D:Ends}{σ:St}{H:Hp}(c:Nat->St->Hp->Prop)(z:c 0 σ H)(u:∀i σ H,c i σ H->SqL K H a xs/\SqL K H b ys)
  (t:∀i x y σ H T,xs[i]?=Jp x->ys[i]?=Jp y->c i σ H->H T=Jq->g (.ref T) σ (upd H T (.tup [x,y])) λd n=>o { D with nx:=c (i+1),ct:=c (i+1),bk:=D.nx } d n)
  (hd:∀σ H,c (min xs.length ys.length) σ H->D.nx σ H) :
  ∃W:Nat->Nat->St->Hp->Prop,(∃m,W 0 m σ H)/\∀i m σ H,W i m σ H ->
   ((Itz K a b).stop i H/\D.nx σ H)\/((Itz K a b).go i H/\∃N:St->Hp->Prop,(∀f H',N f H'->∃q,q<m/\W (i+1) q f H')/\∀x H',(Itz K a b).yld i H x H'->g x σ H' λd n=>o { D with nx:=N,ct:=N,bk:=D.nx } d n):=by
 refine⟨λi m σ H=>m=min xs.length ys.length-i/\i<=min xs.length ys.length/\c i σ H,⟨min xs.length ys.length,by simp,xn _,z⟩,?_⟩;rintro i m σ H ⟨rfl,hi,p⟩;obtain⟨j,h⟩:=u i σ H p;by_cases lt:i<min xs.length ys.length
 .have l:xs[i]?=Jp xs[i]:=Ga (by lia);have k:ys[i]?=Jp ys[i]:=Ga (by lia);refine .inr ⟨⟨xs,ys,_,_,j,h,l,k⟩,c (i+1),λf H' s=>⟨_,?_,U,lt,s⟩,λv H' r=>?_⟩
  .lia
  .obtain⟨T,w,rfl,e⟩:=r;rw[e xs ys _ _ j h l k];exact t i _ _ σ H T l k p w
 .have e:i=min xs.length ys.length:=by lia
  subst e;exact .inl ⟨⟨xs,ys,j,h,by lia⟩,hd σ H p⟩
theorem qd{a b:Int}{m n:Nat}(f:a.natAbs<2^m)(e:b.natAbs<2^n)(d:m<=2^20)(c:n<=2^20):G1 a b :=
 .of_bits (wX (PyProof.Rows.intBits_le f) d) (wX (PyProof.Rows.intBits_le e) c)
theorem m6{X:Cx}{K:W.Frag}(h:X.K=K):cY X (.type "list") (λxs H Q=>∃p ys,xs=[.ref p]/\(SqL K H p ys\/SqT K H p ys)/\∀l,H l=Jq->Q (.ref l) (upd H l (.lst ys))):=h ▸ dg
set_option maxRecDepth 100000
abbrev jf(h:FG)(z TI TO a:E2)(b:Bool):Prop :=
 h.get? z=Jp { cls:=.type "zip",dict:=Jq,data:=.fields #[GU a,.bool b,.bool Js,.ref TI,.ref TO],slots:=#[] }
theorem jR{a:E2}{Q:Option Obj->Gk->Prop}(h:Q (s.heap.get? a) s):Gq (model prog w) A (loadIfAlive a) Q E s:=λ_ _ _=>h
theorem nY{z TI TO a:E2}{b:Bool}{o:Obj}{Q:Bool->Gk->Prop}(hz:jf s.heap z TI TO a b)(d:s.heap.get? a=Jp o)
  (h:∀h',jf h' z TI TO a Jr->FG.SameBut z s.heap h'->Q Js { s with heap:=h' }):Gq (model prog w) A (GX.SmallTypes.ownedTupleIsFree (.ref z)) Q E s:=by
 unfold GX.SmallTypes.ownedTupleIsFree;refine CW (Ji hz U (x:=GU a) U ?_);show Gq _ _ (loadIfAlive ((a:Int).toNat) >>= _) _ _ _;refine CW (jR ?_);rw[zK,d];simp only[Option.isNone_some,Bq,if_false];refine CW (Ji hz U (x:=.bool b) U ?_);cases b with
 |true =>
  rw[Jv (by simp)];refine CY ?_;have e:s={ s with heap:=s.heap }:=by cases s;rfl
  rw[e];exact h s.heap hz (FG.SameBut.refl z s.heap)
 |false =>
  rw[Jw (by decide)];refine CW (IJ hz (by simp) λf g c=>?_);exact CY (h f g c)
theorem ux{z TI TO v i p q t:E2}{Y:Bool}{u B:Nat}{xs ys:Array De}{x y a b:De}{o:Obj}{Q:Option De->Gk->Prop}(D:Je z TI TO i p q t)
  (hz:jf s.heap z TI TO v Y)(I:s.heap.get? v=Jp o)(H:Jd s.heap TI (.ref i) (.ref p))(Z:Jd s.heap TO a b)
  (T:s.heap.IsListIter i q u)(S:s.heap.IsListIter p t B)(G:s.heap.IsList q xs)(C:s.heap.IsList t ys)(P:xs[u]?=Jp x)(O:ys[B]?=Jp y)
  (R:∀h',jf h' z TI TO v Jr->h'.IsListIter i q (u+1)->h'.IsListIter p t (B+1)->Jd h' s.heap.objs.size x y->h'.objs.size=s.heap.objs.size+1 ->
   (∀c o,c≠z->c≠i->c≠p->s.heap.get? c=Jp o->h'.get? c=Jp o)->Q (Jp (.ref s.heap.objs.size)) { s with heap:=h' }) :
  Gq (model prog w) A (GQ (.ref z)) Q E s:=by
 have J:s.TypeIs (.ref z) "zip" := ⟨_,hz,U⟩;unfold GQ;refine CW (ID (IE (name:=s!"__next__") J F.slot_zip_next (IF F.slot_zip_next J F.entry_zip_next ?_ (F.args_zip_next_1 _))));show Gq _ _ (field (.ref z) 2 >>= _) _ _ _;refine CW (Ji hz U (x:=.bool Js) U ?_);show Gq _ _ (field (.ref z) 3 >>= _) _ _ _;refine CW (Ji hz U (x:=.ref TI) U ?_);refine CW (IT H U ?_);show Gq _ _ (GX.SmallTypes.ownedTupleIsFree (.ref z) >>= _) _ _ _;refine CW (nY hz I λM k d=>?_);simp only[Bq,if_false];refine CW ?_;rw[←Array.forIn_toList];simp only[List.forIn_cons,List.forIn_nil];refine CW (CW (C7 ?_));show Gq _ _ (GX.SmallTypes.nextOf (.ref i) >>= _) _ _ _;refine CW (Jj (T.extBut d.extBut D.i1z) (G.extBut d.extBut D.l1z) P λL n g=>CY ?_);refine CY ?_;dsimp only;refine CW (CW (C7 ?_));show Gq _ _ (GX.SmallTypes.nextOf (.ref p) >>= _) _ _ _;refine CW (Jj ((S.extBut d.extBut D.i2z).extBut g.extBut D.i12.symm) ((C.extBut d.extBut D.l2z).extBut g.extBut D.l2i1) O λf l h=>CY ?_);refine CY ?_;dsimp only;refine CY ?_;refine CW (IX ?_ (by show 2<=FL;decide));have r:f.objs.size=s.heap.objs.size:=by rw[h.1,g.1,d.1]
 refine CY ⟨_,U,CY ?_⟩;show Q (Jp (.ref f.objs.size)) _;have j:jf f z TI TO v true:=h.extBut _ _ D.i2z.symm (g.extBut _ _ D.i1z.symm k);have m:f.IsListIter i q (u+1):=n.extBut h.extBut D.i12;have K:(f.push { cls:=.type "tuple",data:=.seq #[x,y] }).get? f.objs.size=Jp { cls:=.type "tuple",data:=.seq #[x,y] }:=FG.get?_push_size _ U;have N:(f.push { cls:=.type "tuple",data:=.seq #[x,y] }).objs.size=s.heap.objs.size+1:=by rw[FG.size_push,r]
 rw[r]at K⊢;exact R _ (FG.get?_push_of_some _ j) (m.at λo e=>FG.get?_push_of_some _ e) (l.at λo e=>FG.get?_push_of_some _ e) K N λc o X W V e=>FG.get?_push_of_some _ (h.extBut _ _ V (g.extBut _ _ W (d.extBut _ _ X e)))
theorem vG{z TI TO P j i p n:E2}{bb:Bool}{t r:Nat}{xs ys:Array De}{a b:De}{o:Obj}{Q:Option De->Gk->Prop}(L:A.handled=Jq)(D:Je z TI TO j i p n)
  (hz:jf s.heap z TI TO P bb)(I:s.heap.get? P=Jp o)(H:Jd s.heap TI (.ref j) (.ref i))(a0:Jd s.heap TO a b)
  (N:s.heap.IsListIter j p t)(Z:s.heap.IsListIter i n r)(l:s.heap.IsList p xs)(C:s.heap.IsList n ys)(V:xs[t]?=Jq\/ys[r]?=Jq)
  (Y:∀h',(∀c o,c≠z->c≠j->c≠i->s.heap.get? c=Jp o->h'.get? c=Jp o)->Q Jq { s with heap:=h' }) :
  Gq (model prog w) A (GQ (.ref z)) Q E s:=by
 have M:s.TypeIs (.ref z) "zip" := ⟨_,hz,U⟩;unfold GQ;refine CW (ID (IE (name:=s!"__next__") M F.slot_zip_next (IF F.slot_zip_next M F.entry_zip_next ?_ (F.args_zip_next_1 _))));show Gq _ _ (field (.ref z) 2 >>= _) _ _ _;refine CW (Ji hz U (x:=.bool Js) U ?_);show Gq _ _ (field (.ref z) 3 >>= _) _ _ _;refine CW (Ji hz U (x:=.ref TI) U ?_);refine CW (IT H U ?_);show Gq _ _ (GX.SmallTypes.ownedTupleIsFree (.ref z) >>= _) _ _ _;refine CW (nY hz I λS J d=>?_);simp only[Bq,if_false];refine CW ?_;rw[←Array.forIn_toList];simp only[List.forIn_cons,List.forIn_nil];refine CW (CW (C7 ?_));show Gq _ _ (GX.SmallTypes.nextOf (.ref j) >>= _) _ _ _
 have fin:∀h' e,(∀c o,c≠z->c≠j->c≠i->s.heap.get? c=Jp o->h'.get? c=Jp o)->(∃o,h'.get? e=Jp o/\o.cls=.type "StopIteration") ->
   Gq (model prog w) A (do if ←isInstance (.ref e) (.type "StopIteration")then pure Jq else throw (.ref e)) Q E { s with heap:=h' }:=λh' e k ⟨W,B,G⟩=>by
  refine CW (IQ (T := "StopIteration") (b:=Jr) ⟨W,B,G⟩ IS ?_);exact CY (Y _ k)
 cases hx:xs[t]? with
 |none =>
  refine CW (Jk L (N.extBut d.extBut D.i1z) (l.extBut d.extBut D.l1z) hx λm e f u=>?_);exact fin _ _ (λc o y v O q=>f _ _ v (d.extBut _ _ y q)) u
 |some x =>
  have X:ys[r]?=none:=by rcases V with h|h;rw[hx]at h;cases h;exact h
  refine CW (Jj (N.extBut d.extBut D.i1z) (l.extBut d.extBut D.l1z) hx λm K f=>CY ?_);refine CY ?_;dsimp only;refine CW (CW (C7 ?_));show Gq _ _ (GX.SmallTypes.nextOf (.ref i) >>= _) _ _ _;refine CW (Jk L ((Z.extBut d.extBut D.i2z).extBut f.extBut D.i12.symm) ((C.extBut d.extBut D.l2z).extBut f.extBut D.l2i1) X λR e g u=>?_);exact fin _ _ (λc o y v O q=>g _ _ O (f.extBut _ _ v (d.extBut _ _ y q))) u
section
variable{R:G8->Gk->Prop}
theorem neA{a T:E2}{N:Nat}(h:a<N)(h':N<=T):T≠a:=w5 (wW h h')
def yH(h:FG)(z TI TO:E2)(N:Nat)(i:Nat):Prop:=(i=0/\IsZip h z TI TO .none)\/∃a b o,N<=a/\a≠z/\jf h z TI TO a b/\h.get? a=Jp o/\o.cls=.type "tuple"
theorem rM{z TI TO B v K J S:E2}{xs ys:Array De}{H:De}(hh:A.handled=Jq)(D:Je z TI TO B v K J)(N:Nat)(hz:z<N)(c2:TI<N)(a8:TO<N)(W:B<N)(V:v<N)(c1:K<N)(b6:J<N)(hS:S<N)
  (m:S≠z/\S≠TI/\S≠TO/\S≠B/\S≠v/\S≠K/\S≠J)(hn:min xs.size ys.size<=FL) :
  ∀(d i:Nat)(s:Gk)(l:Array De)(c:Nat)(ts:List E2),min xs.size ys.size=i+d->N<=s.heap.objs.size->yH s.heap z TI TO N i->Jd s.heap TI (.ref B) (.ref v)->(∃a b,Jd s.heap TO a b) ->
   s.heap.IsListIter B K i->s.heap.IsListIter v J i->s.heap.IsList K xs->s.heap.IsList J ys->s.heap.get? S=Jp { cls:=.type "list",dict:=Jq,data:=.seq l c,slots:=#[] } ->
   l.toList=ts.map De.ref->ts.length=i->ts.Nodup->(∀(j:Nat)(T:E2),ts[j]?=Jp T->N<=T/\∃x y,xs[j]?=Jp x/\ys[j]?=Jp y/\Jd s.heap T x y) ->
   (∀(h':FG)(vD:Array De)(c':Nat)(n:List E2),(∀b o,b<N->b≠S->b≠z->b≠TO->b≠B->b≠v->s.heap.get? b=Jp o->h'.get? b=Jp o)->h'.get? S=Jp { cls:=.type "list",dict:=Jq,data:=.seq vD c',slots:=#[] } ->
    vD.toList=n.map De.ref->n.length=min xs.size ys.size->n.Nodup->(∀(j:Nat)(T:E2),n[j]?=Jp T->N<=T/\∃x y,xs[j]?=Jp x/\ys[j]?=Jp y/\Jd h' T x y)->R (.ok (.ret H)) { s with heap:=h' }) ->
   G9 (model prog w) A (.builtin "list.extend.loop" ⟨[.ref S,.ref z,H],[]⟩) R s:=by
 intro d;induction d with
 |zero =>
  intro i s l c ts e hN r X ⟨a,b,p2⟩ t1 t2 q1 q2 g ea el nd hts fin;refine HW F.entry_extend_loop ?_;rw[Gj.under_plainId F.plain_extend_loop _];show Gq _ A.in1 (GQ (.ref z) >>= _) _ _ s;have rJ:xs[i]?=Jq\/ys[i]?=none:=by
   by_cases hx:xs.size<=i
   .exact .inl (Array.getElem?_eq_none hx)
   .exact .inr (Array.getElem?_eq_none (by lia))
  have P:∀h',(∀b o,b≠z->b≠TO->b≠B->b≠v->s.heap.get? b=Jp o->h'.get? b=Jp o)->R (.ok (.ret H)) { s with heap:=h' }:=λh' k=>by
   refine fin h' l c ts (λb o _ _ O b2 M L q=>k b o O b2 M L q) (k S _ m.1 m.2.2.1 m.2.2.2.1 m.2.2.2.2.1 g) ea (by lia) nd λj T C=>?_
   obtain⟨h,x,y,Q,G,E⟩:=hts j T C;exact⟨h,x,y,Q,G,k T _ (neA hz h) (neA a8 h) (neA W h) (neA V h) E⟩
  rcases r with⟨_,r⟩|⟨Z,bb,o,I,_,r,gT,_⟩
  .exact CW (Jg (by simp[hh]) D r X p2 t1 t2 q1 q2 rJ λh' k=>CY (P h' k))
  .exact CW (vG (by simp[hh]) D r gT X p2 t1 t2 q1 q2 rJ λh' k=>CY (P h' λb o O _ M L q=>k b o O M L q))
 |succ d ih =>
  intro i s l c ts e hN r X ⟨a,b,p2⟩ t1 t2 q1 q2 g ea el nd hts fin;have ix:i<xs.size:=by lia
  have iy:i<ys.size:=by lia
  refine HW F.entry_extend_loop ?_;rw[Gj.under_plainId F.plain_extend_loop _];show Gq _ A.in1 (GQ (.ref z) >>= _) _ _ s;have a0:l.size=i:=by rw[←Ah,ea,bo,el]
  have go:∀h',yH h' z TI TO N (i+1)->(∃a b,Jd h' TO a b)->h'.IsListIter B K (i+1)->h'.IsListIter v J (i+1)->Jd h' s.heap.objs.size xs[i] ys[i]->h'.objs.size=s.heap.objs.size+1 ->
    (∀b o,b≠z->b≠TO->b≠B->b≠v->s.heap.get? b=Jp o->h'.get? b=Jp o) ->
    Gq (model prog w) A.in1 (I1 S (·.push (.ref s.heap.objs.size)) >>= λ_=>again (.builtin "list.extend.loop" ⟨[.ref S,.ref z,H],[]⟩))
     (λfin s'=>match fin with | .done f=>R (.ok f) s' | .again c'=>c'.quiet=Jr/\G9 (model prog w) A c' R s') (λe s'=>R (.error e) s') { s with heap:=h' }:=λh' z1 z2 z3 z4 z5 z6 k=>by
   have gS:h'.get? S=Jp { cls:=.type "list",dict:=Jq,data:=.seq l c,slots:=#[] }:=k S _ m.1 m.2.2.1 m.2.2.2.1 m.2.2.2.2.1 g;refine CW (Ja gS U ?_ (by rw[a0];lia) (by show(l.push _).size<=FL+1;rw[Array.size_push,a0];lia));have gU:=FG.get?_update_self (Obj.mapSeq (·.push (De.ref s.heap.objs.size))) gS U;generalize hH:h'.update S (Obj.mapSeq (·.push (De.ref s.heap.objs.size)))=h2 at gU⊢;have sb:FG.SameBut S h' h2:=hH ▸ FG.SameBut.update ..;have p:∀b o,b≠S->h'.get? b=Jp o->h2.get? b=Jp o:=λb o hb q=>(sb.2 b hb).trans q
   have a9:h2.objs.size=s.heap.objs.size+1:=by rw[sb.1,z6]
   refine CY ⟨HY F.plain_extend_loop _,ih (i+1) { s with heap:=h2 } (l.push (.ref s.heap.objs.size)) _ (ts++[s.heap.objs.size]) (by lia) (by rw[a9];lia) ?_ (p TI _ m.2.1.symm (k TI _ D.TIz D.TITO D.TIi1 D.TIi2 X)) ?_ (z3.at λo q=>p B o m.2.2.2.1.symm q) (z4.at λo q=>p v o m.2.2.2.2.1.symm q)
    ((q1.at λo q=>k K o D.l1z D.l1TO D.l1i1 D.l1i2 q).at λo q=>p K o m.2.2.2.2.2.1.symm q) ((q2.at λo q=>k J o D.l2z D.l2TO D.l2i1 D.l2i2 q).at λo q=>p J o m.2.2.2.2.2.2.symm q) gU (by rw[AL,ea,fR];rfl) (by simp[el]) ?_ (λj T C=>?_) λh3 vD c' n k3 g3 e3 l3 n3 f3=>?_⟩
   .rcases z1 with⟨z',_⟩|⟨Z,bb,o,h,Q,G,E,Y⟩
    .exact Jx z' (by lia)
    .exact .inr ⟨Z,bb,o,h,Q,p z _ m.1.symm G,p Z _ (neA hS h) E,Y⟩
   .obtain⟨a',b',q⟩:=z2;exact⟨a',b',p TO _ m.2.2.1.symm q⟩
   .rw[tU];refine⟨nd,by simp,λt ht u hu=>?_⟩;have eu:u=s.heap.objs.size:=by simpa using hu
    obtain⟨j,C⟩:=List.mem_iff_getElem?.mp ht;obtain⟨_,x,y,_,_,gp⟩:=hts j t C;have:=FG.lt_size gp;exact λq=>yb _ (by rw[q,eu]at this;exact this)
   .rw[List.getElem?_append]at C;split at C
    .obtain⟨h,x,y,Q,G,E⟩:=hts j T C;exact⟨h,x,y,Q,G,p T _ (neA hS h) (k T _ (neA hz h) (neA a8 h) (neA W h) (neA V h) E)⟩
    .rename_i hlt
     have b5:j=i:=by
      obtain⟨q,_⟩:=Gb.mp C;simp at q;lia
     subst b5;rw[el,Nat.sub_self]at C;have eT:s.heap.objs.size=T:=by simpa using C
     subst eT;exact⟨hN,xs[j],ys[j],AK ix,AK iy,p _ _ (neA hS hN) z5⟩
   .exact fin h3 vD c' n (λb o b0 bS O b2 M L q=>k3 b o b0 bS O b2 M L (p b o bS (k b o O b2 M L q))) g3 e3 l3 n3 f3
  rcases r with⟨_,r⟩|⟨Z,bb,o,I,By,r,gT,cT⟩
  .refine CW (Jf D r X p2 t1 t2 q1 q2 (x:=xs[i]) (y:=ys[i]) (AK ix) (AK iy) λh' h Q G E Y a6 a7=>?_);exact go h' (.inr ⟨s.heap.objs.size,Js,_,hN,w5 (wW hz hN),h,Y,U⟩) ⟨_,_,Q⟩ G E Y a6 a7
  .refine CW (ux D r gT X p2 t1 t2 q1 q2 (x:=xs[i]) (y:=ys[i]) (AK ix) (AK iy) λh' h G E Y a6 a7=>?_);exact go h' (.inr ⟨Z,Jr,o,I,By,h,a7 Z o By (neA W I) (neA V I) gT,cT⟩) ⟨_,_,a7 TO _ D.TOz D.TOi1 D.TOi2 p2⟩ G E Y a6 λb o O _ M L q=>a7 b o O M L q
end
set_option maxRecDepth 100000
theorem rN:Ht (.type "zip") "__len__" = pure none:=by rw[Iu,Iv];kernel_rfl
theorem qe:Ht (.type "zip") "__length_hint__" = pure none:=by rw[Iu,Iv];kernel_rfl
theorem m7{z TI TO m l J I:E2}{xs ys:Array De}{Q:De->Gk->Prop}(hh:A.handled=Jq)(D:Je z TI TO m l J I)(H:IsZip s.heap z TI TO .none)(W:Jd s.heap TI (.ref m) (.ref l))(V:Jd s.heap TO .none .none)
  (t1:s.heap.IsListIter m J 0)(P:s.heap.IsListIter l I 0)(S:s.heap.IsList J xs)(R:s.heap.IsList I ys)(hn:min xs.size ys.size<=FL)
  (h:∀(h':FG)(i:Array De)(c:Nat)(ts:List E2),(∀b o,b≠z->b≠TO->b≠m->b≠l->s.heap.get? b=Jp o->h'.get? b=Jp o)->h'.get? s.heap.objs.size=Jp { cls:=.type "list",dict:=Jq,data:=.seq i c,slots:=#[] } ->
   i.toList=ts.map De.ref->ts.length=min xs.size ys.size->ts.Nodup->(∀(j:Nat)(T:E2),ts[j]?=Jp T->s.heap.objs.size+1<=T/\∃x y,xs[j]?=Jp x/\ys[j]?=Jp y/\Jd h' T x y)->Q (.ref s.heap.objs.size) { s with heap:=h' }) :
  Gq (model prog w) A (call (.type "list") [.ref z]) Q E s:=by
 have M:z<s.heap.objs.size:=FG.lt_size H;have C:TI<s.heap.objs.size:=FG.lt_size W;have B:TO<s.heap.objs.size:=FG.lt_size V;have v:m<s.heap.objs.size:=let ⟨_,e,_⟩:=t1;FG.lt_size e;have u:l<s.heap.objs.size:=let ⟨_,e,_⟩:=P;FG.lt_size e;have t:J<s.heap.objs.size:=let ⟨_,e,_⟩:=S;FG.lt_size e;have r:I<s.heap.objs.size:=let ⟨_,e,_⟩:=R;FG.lt_size e
 refine callType_codes (Q₁:=λq k=>q=.ref s.heap.objs.size/\k={ s with heap:=s.heap.push { cls:=.type "list",data:=.seq #[] } }) F.called_list (F.typeCall_list_1 _) F.entry_list_init
  (code_list_new _ ⟨U,U⟩) λq k G=>?_
 obtain⟨rfl,rfl⟩:=G;have L:(s.heap.push { cls:=.type "list",data:=.seq #[] }).get? s.heap.objs.size=Jp { cls:=.type "list",data:=.seq #[] }:=FG.get?_push_size _ U;refine⟨⟨_,L,U⟩,F.args_list_init_2 _ _,?_⟩;show Gq _ _ (do let O ←GX.List.listItems (.ref s.heap.objs.size);GX.List.listUpdate (.ref s.heap.objs.size) (λ_=>#[]);letGo O.toList.reverse;GX.List.listExtendWith (.ref s.heap.objs.size) (.ref z) .none) _ _ _;refine CW ?_;unfold GX.List.listItems;refine CW (IT L U (CY ?_));show Gq _ _ (I1 s.heap.objs.size (λ_=>#[]) >>= λ_=>letGo (#[]:Array De).toList.reverse >>= λ_=>GX.List.listExtendWith (.ref s.heap.objs.size) (.ref z) .none) _ _ _;refine CW (Ja L U ?_);have a:=FG.get?_update_self (Obj.mapSeq (λ_=>(#[]:Array De))) L U;refine CW (wpAny_letGo ?_);have K:∀b o,s.heap.get? b=Jp o->((s.heap.push { cls:=.type "list",data:=.seq #[] }).update s.heap.objs.size (Obj.mapSeq (λ_=>(#[]:Array De)))).get? b=Jp o:=λb o e =>
  (FG.get?_update_other _ _ (w5 (FG.lt_size e))).trans (FG.get?_push_of_some _ e)
 have p:((s.heap.push { cls:=.type "list",data:=.seq #[] }).update s.heap.objs.size (Obj.mapSeq (λ_=>(#[]:Array De)))).objs.size=s.heap.objs.size+1:=by rw[FG.size_update,FG.size_push]
 generalize (s.heap.push { cls:=.type "list",data:=.seq #[] }).update s.heap.objs.size (Obj.mapSeq (λ_=>(#[]:Array De)))=hA at a K p⊢;have N:Gk.TypeIs { s with heap:=hA } (.ref z) "zip" := ⟨_,K _ _ H,U⟩;unfold GX.List.listExtendWith;refine CW (IZ N ?_);have h1:GX.List.listSameRef (.ref s.heap.objs.size) (.ref z)=false:=by simp[GX.List.listSameRef];exact w5 M
 have h2:(De.type "zip" == De.type "list")=false:=by decide
 have h3:(De.type "zip" == De.type "tuple")=false:=by decide
 simp only[h1,h2,h3,Bool.or_false,Bq,if_false];refine CW (Jh (s:={ s with heap:=hA }) (K _ _ H) ?_);refine CW (C7 ?_);unfold GX.List.listLengthHint;refine CW (I0 N rN ?_);show Gq _ _ (specialOf (De.ref z) s!"__length_hint__" >>= _) _ _ _;refine CW (I0 N qe ?_);refine CY ?_;show Gq _ _ (rule "list.extend.makes-room" >>= λ_=>GX.List.listTouch (.ref s.heap.objs.size) >>= λ_ =>
  again (.builtin "list.extend.loop" ⟨[.ref s.heap.objs.size,.ref z,.none],[]⟩)) _ _ _
 refine CW (Ip ?_);refine CW ?_;show Gq _ _ (I1 s.heap.objs.size (·.push .none) >>= λ_=>I1 s.heap.objs.size (·.pop)) _ _ _;refine CW (Ja (s:={ s with heap:=hA }) a U ?_);have f:=FG.get?_update_self (Obj.mapSeq (·.push De.none)) a U;refine Ja (hz:=by seq_fits) f U ?_;have d:=FG.get?_update_self (Obj.mapSeq (·.pop)) f U;have g:∀b o,s.heap.get? b=Jp o->((hA.update s.heap.objs.size (Obj.mapSeq (·.push De.none))).update s.heap.objs.size (Obj.mapSeq (·.pop))).get? b=Jp o :=
  λb o e=>(FG.get?_update_other _ _ (w5 (FG.lt_size e))).trans ((FG.get?_update_other _ _ (w5 (FG.lt_size e))).trans (K b o e))
 have n:((hA.update s.heap.objs.size (Obj.mapSeq (·.push De.none))).update s.heap.objs.size (Obj.mapSeq (·.pop))).objs.size=s.heap.objs.size+1:=by rw[FG.size_update,FG.size_update,p]
 generalize (hA.update s.heap.objs.size (Obj.mapSeq (·.push De.none))).update s.heap.objs.size (Obj.mapSeq (·.pop))=hB at d g n⊢
 refine CY ⟨HY F.plain_extend_loop _,rM (by simp[hh]) D (s.heap.objs.size+1) (xu M) (xu C) (xu B) (xu v) (xu u) (xu t) (xu r) (yi _)
  ⟨w5 M,w5 C,w5 B,w5 v,w5 u,w5 t,w5 r⟩ hn (min xs.size ys.size) 0 { s with heap:=hB } #[] _ [] (yk _).symm (by rw[n];exact wN _)
  (.inl ⟨U,g _ _ H⟩) (g _ _ W) ⟨_,_,g _ _ V⟩ (t1.at λo e=>g _ _ e) (P.at λo e=>g _ _ e) (S.at λo e=>g _ _ e) (R.at λo e=>g _ _ e) d U U tV (λj T hj=>by simp at hj) λh' i c ts Z g3 e3 Y X f3=>?_⟩
 exact⟨U,h h' i c ts (λb o b1 b2 b3 b4 e=>Z b o (xu (FG.lt_size e)) (wO (FG.lt_size e)) b1 b2 b3 b4 (g b o e)) g3 e3 Y X f3⟩
set_option maxRecDepth 100000
theorem bJ:∀{l L:List Int},l.Nodup->(∀x∈l,x∈L)->l.length<=L.length
 | [],_,_,_=>xn _
 |x :: l,L,hn,hs=>by
  obtain⟨f,d⟩:=ot.mp hn;have b:=hs x gb;have c:=bJ (L:=L.erase x) d λy a=>(List.mem_erase_of_ne (λ(e:y=x)=>f (e ▸ a))).mpr (hs y (ik _ a))
  rw[List.length_erase_of_mem b]at c;have:0<L.length:=List.length_pos_of_mem b;rw[gR];lia
theorem sW:∀{vs:List De},(∀v∈vs,∃u,v=.int (kn v) u)->IntsAre vs (vs.map kn)
 | [],_=>.nil
 |v :: vs,h=>by
  obtain⟨u,e⟩:=h v gb;rw[e];exact .cons _ u (sW λx a=>h x (ik _ a))
theorem nZ:∀{vs:List De}{a:List Int},IntsAre vs a->Vals (a.map V.int) vs
 |_,_,.nil=>.nil
 |_,_,.cons n t r=>.cons ⟨t,U⟩ (nZ r)
theorem gK:∀{a:List Int},a.Pairwise (· <= ·)->a.Nodup->a.Pairwise (· < ·)
 | [],_,_=>.nil
 |n :: a,h1,h2=>by
  obtain⟨f,d⟩:=qJ.mp h1;obtain⟨c,b2⟩:=ot.mp h2;refine .cons (λm b=>?_) (gK d b2);have:=f m b;have:n≠m:=λe=>c (e ▸ b)
  lia
theorem rO{a:E2}{ks:List Int}{m:Nat}{Q:De->Gk->Prop}(R:A.handled=Jq)(Z:dr s.heap a (!dD w) ks m)(hm:m<64)
  (h:∀(r:List Int)(vs:List De)(s':Gk)(D:E2)(c:Nat),Vals (r.map V.int) vs->r.Pairwise (· < ·)->(∀k,k∈r↔k∈ks)->s.heap.objs.size<=D->(∀b u,s.heap.get? b=Jp u->s'.heap.get? b=Jp u)->s'.heap.get? D=Jp (seqObj "list" vs.toArray c)->s'.gens=s.gens->s'.os=s.os->r.length=m->Q (.ref D) s') :
  Gq (model prog w) A (call (.builtin "sorted") [.ref a]) Q E s:=by
 obtain⟨o,es,ep,t,N,I,X,z,x,T,Y,P,O⟩:=Z;refine Calls.call_function_entry kind_sorted plain_sorted entry_sorted (args_sorted1 _) ?_;unfold GX.«sorted»;refine CW (m:=checkCount "sorted" 1 1 _) (CY ?_);refine CW (p8 (by simp[R]) N I X x T Y P λd f y K S G F=>?_);have n:d.length=m:=by rw[y.length_eq,bo,Ah,O]
 have p:∀v∈d,∃u,v=.int (kn v) u:=λv M=>by
  obtain⟨e,W,rfl⟩:=eR.mp (y.mem_iff.mp M);exact(z.ent e W).2
 have hI:=sW p;have J:(d.map kn).Perm (es.toList.map λe=>kn e.2):=by
  have:=y.map kn;rw[ov]at this;exact this
 refine CW (wpAny_newList ?_ (by rw[G6];lia));have g:(f.heap.push (seqObj "list" d.toArray 0)).get? f.heap.objs.size=Jp (seqObj "list" d.toArray 0):=FG.get?_push_size _ U;have keep:∀b u,s.heap.get? b=Jp u->(f.heap.push (seqObj "list" d.toArray 0)).get? b=Jp u:=λb u q=>FG.get?_push_of_some _ (K b u q)
 show Gq _ _ _ _ _ { f with heap:=f.heap.push (seqObj "list" d.toArray 0) };refine CW (C7 (IF slot_list_sort ⟨_,g,U⟩ entry_list_sort ?body (args_list_sort _)))
 case body =>
  refine list_sort_tree (s:={ f with heap:=f.heap.push (seqObj "list" d.toArray 0) }) g hI (by lia) λout j a1 C a3=>⟨_,U,CY ⟨_,U,?_⟩⟩
  have nd:j.Nodup:=C.nodup_iff.mpr (J.nodup_iff.mpr z.nd);have l:f.heap.objs.size<(f.heap.push (seqObj "list" d.toArray 0)).objs.size:=FG.lt_size g;obtain⟨B,H⟩:∃B,((f.heap.push (seqObj "list" d.toArray 0)).update f.heap.objs.size (Obj.mapSeq λ_=>#[])).get? f.heap.objs.size=Jp (seqObj "list" #[] B):=⟨_,get?_update_seq g (λ_=>#[])⟩;have L:∀b,b<(f.heap.push (seqObj "list" d.toArray 0)).objs.size->((((f.heap.push (seqObj "list" d.toArray 0)).update f.heap.objs.size (Obj.mapSeq λ_=>#[])).push (seqObj "tuple" d.toArray 0)).push (seqObj "list" #[] 0)).get? b=((f.heap.push (seqObj "list" d.toArray 0)).update f.heap.objs.size (Obj.mapSeq λ_=>#[])).get? b:=λb x=>by
   rw[FG.get?_push_ne _ _ _ (by rw[size_push',FG.size_update];exact wO (xu x)),FG.get?_push_ne _ _ _ (by rw[FG.size_update];exact wO x)]
  have e6:((((f.heap.push (seqObj "list" d.toArray 0)).update f.heap.objs.size (Obj.mapSeq λ_=>#[])).push (seqObj "tuple" d.toArray 0)).push (seqObj "list" #[] 0)).get? f.heap.objs.size=Jp (seqObj "list" #[] B):=by rw[L _ l];exact H
  have sz:s.heap.objs.size<=f.heap.objs.size:=x3 F;refine h j out.toList { f with heap:=sortedHeap (f.heap.push (seqObj "list" d.toArray 0)) f.heap.objs.size d out } f.heap.objs.size _ (nZ a1) (gK a3 nd) (λk=>(C.mem_iff).trans ((J.mem_iff).trans (z.mem k).symm)) sz (λb u q=>?_) (get?_update_seq e6 (λ_=>out)) S G ?_
  .have i:b<f.heap.objs.size:=FG.lt_size (K b u q);show(FG.update _ _ _).get? b=Jp u;rw[FG.get?_update_ne _ _ _ _ (wO i),L _ (Nat.lt_trans i l),FG.get?_update_ne _ _ _ _ (wO i)];exact keep b u q
  .rw[C.length_eq,bo,n]
variable{H':Hp}
theorem Inv.grow{s':Gk}(I:Inv X Ju σ H s)(k:∀b o,s.heap.get? b=Jp o->s'.heap.get? b=Jp o)(l:s'.gens=s.gens)(d:s'.os=s.os)(a:∀b,b<s.heap.objs.size->H' b=H b)
  (t:∀b u,s.heap.objs.size<=b->H' b=Jp u->cG X.prog X.w H' s'.heap b u):Inv X Ju σ H' s':=by
 obtain⟨h',g',d',t',h⟩:=s';obtain rfl:g'=s.gens:=l;obtain rfl:h=s.os:=d;have lt:∀{b u},H b=Jp u->b<s.heap.objs.size:=λ{b u} e=>by
  rcases yj b s.heap.objs.size with z|z
  .exact z
  .rw[I.hok.fresh z]at e;cases e
 have same:∀{b u},H b=Jp u->H' b=Jp u:=λe=>by rw[a _ (lt e)];exact e
 exact I.step (h':=h') (g':=s.gens) (d':=d') (t':=t') (ch:=[]) (λ_ z=>nomatch z) (λb o _ _ _ e _=>k b o e) (λb o _ _ _ e _=>⟨o.slots,k b o e⟩)
  (λb o _ e n=>by rw[a _ (FG.lt_size e)];exact n) (λb o _ e=>⟨o,k b o e⟩) (λb f e=>same e) (λb o u e=>same e) (λb ps e=>⟨#[],by rw[same e];simp⟩)
  (λm j=>by
   obtain⟨o,es,p,i,r⟩:=j;exact⟨o,es,p,k _ o i,r⟩)
  (λb u e=>by
   rcases yj b s.heap.objs.size with z|z
   .rw[a _ z]at e;exact(I.hok b u e).stay (λc g _ q=>k c g q) (λc q=>same q) λc f q=>same q
   .exact t b u z e)
  I.bare
def rP(w:D0)(a:E2)(zs:List Int):HO:=.ext λh=>∃m,dr h a (!dD w) zs m
theorem lW:∀{zs:List Int}{us:List De},Vals (zs.map V.int) us->∀(i:Nat)(v:De),us[i]?=Jp v->∃z t,zs[i]?=Jp z/\v=.int z t
 | [],_,.nil,i,v,h=>by simp at h
 |z :: zs,_,.cons ⟨t,e⟩ r,0,v,h=>by simp at h;exact⟨z,t,U,by rw[←h,e]⟩
 |z :: zs,_,.cons _ r,i+1,v,h=>by
  obtain⟨a,t,c,b⟩:=lW r i v (by simpa using h);exact⟨a,t,by simpa using c,b⟩
theorem n6{w:D0}(A:X.w=w)(B:X.calm=Jr):cY X (.type "set") (λxs H Q=>∃(p:E2)(zs:List Int),xs=[.ref p]/\SqL X.K H p (zs.map V.int)/\zs.length<=1000/\∀l,H l=Jq->Q (.ref l) (upd H l (rP w l zs))):=by
 subst A;intro Ju s σ H xs E Q I r h;obtain⟨p,zs,rfl,C,F,q⟩:=h;obtain⟨u,rfl,j⟩:=r.one;obtain rfl:u=De.ref p:=j;obtain⟨D,c,n,_⟩:=I.list C;have d:=c.length;rw[bo]at d;refine uq (ks:=zs) (I.ok.hd B) n.isList (λi v e=>?_) (by simpa using d) (by unfold HU;simp;lia) λh' f m x G z=>?_
 .exact lW c i v (by simpa using e)
 .refine⟨.ref s.heap.objs.size,_,I.laid (a:=s.heap.objs.size) (o:=rP X.w s.heap.objs.size zs) (h':=h') (t':=f) (λb o q=>z b o (FG.lt_size q) q) (wN _) ?_,U,q _ I.fresh⟩;refine⟨⟨m,x⟩,?_,λL J ⟨t,y⟩ k=>⟨t,y.stay k⟩⟩;obtain⟨o,_,_,_,g,_⟩:=x;exact⟨o,g⟩
theorem fM{w:D0}(n:X.w=w)(B:X.calm=Jr):cY X (.builtin "sorted") (λus H Q=>∃(a:E2)(zs L:List Int),us=[.ref a]/\H a=Jp (rP w a zs)/\L.length<64/\(∀k∈zs,k∈L) /\
  ∀(D:E2)(d:List Int),H D=Jq->d.Pairwise (· < ·)->(∀k,k∈d↔k∈zs)->Q (.ref D) (upd H D (.lst (d.map V.int)))):=by
 subst n;intro Ju s σ H us O Q I r h;obtain⟨a,zs,L,rfl,e,R,p,q⟩:=h;obtain⟨u,rfl,l⟩:=r.one;obtain rfl:u=De.ref a:=l;obtain⟨⟨m,x⟩,_,_⟩:=I.hok a _ e;have y:m<64:=by
  obtain⟨o,es,S,t,_,_,_,i,_,_,_,_,v⟩:=id x;have:=bJ (L:=L) i.nd λk A=>p k ((i.mem k).mpr A)
  rw[bo,Ah,v]at this;lia
 refine rO (I.ok.hd B) x y λd us P D c N M K j J G F E T=>?_
 have C:H D=none:=I.hok.fresh j;refine⟨.ref D,upd H D (.lst (d.map V.int)),I.grow J F E (λb g=>by rw[aw (wO (wW g j))]) (λb u g f=>?_),U,q D d C M K⟩;by_cases z:b=D
 .subst z;rw[ab]at f;cases f;exact⟨by rw[bo,G6];lia,us,c,N,G⟩
 .rw[aw z,I.hok.fresh g]at f;cases f
inductive Bz(K:W.Frag)(Q:VK)(vs:List V)(H1:Hp):Prop
 |mk (a b xs ys:_)(_:vs=[.ref a,.ref b])(_:SqL K H1 a xs)(_:SqL K H1 b ys)(_:∀(D:E2)(ts:List E2)(H2:Hp),ts.length=min xs.length ys.length->(∀c o,H1 c=Jp o->H2 c=Jp o)->H1 D=Jq->H2 D=Jp (.lst (ts.map V.ref)) ->
  (∀(j:Nat)(x y:V),xs[j]?=Jp x->ys[j]?=Jp y->∃T,ts[j]?=Jp T/\H1 T=Jq/\H2 T=Jp (.tup [x,y]))->Q (.ref D) H2):Bz K Q vs H1
def tLZ(K:W.Frag)(b:TA):TE:=λσ H Q=>b σ H λa c=>Bz K Q a c
theorem ltA{c n:Nat}(h:c<n)(k:Nat):c≠n+k:=wO (wW h (yl _ _))
def gL(xs ys:List V)(ts:List E2)(b:E2):Option HO :=
 match ts.idxOf? b with
 |some j=>match xs[j]?,ys[j]? with
  |some x,Jp y=>Jp (.tup [x,y])
  |_,_=>Jq
 |none=>Jq
theorem rQ{J C:Gs}{ta:TA}{p1 p2 vH Y:Pos}(a6:X.calm=Jr)(hg:Gl X "list") (hm:X.mg "list" = Jq) (a5:Gl X "zip") (a4:X.mg "zip" = Jq) (ha:PA X [J,C] ta)
  (hs:Gw [J,C] X.env=[(Js,eval J X.env),(Js,eval C X.env)]:=by rfl)(M:Gw [C] X.env=[(Js,eval C X.env)]:=by rfl) :
  PE X (.Call (.Name "list" p1) [.Call (.Name "zip" p2) [J,C] [] Y] [] vH) (tLZ X.K ta):=by
 intro Ju s σ H Q I h;refine Dc (eG I hg hm PyProof.Rows.boot_list ?_);refine PyProof.Rows.callWith_type1 ?_ U U;show Gq _ _ (spliced ((Js,eval (.Call (.Name "zip" p2) [J,C] [] Y) X.env) :: Gv vH (Gw [] X.env))) _ _ s;refine Calls.spliced_cons ?_;refine Dc (eG I a5 a4 PyProof.Rows.boot_zip ?_);refine PyProof.Rows.callWith_type1 (thn (ha Y Ju s σ H _ I h) λus f ⟨vs,S,B,r1,q1⟩=>?_) (by rw[hs,M]) (by rw[M];rfl);obtain⟨a,b,p,n,rfl,qa,qb,q⟩:=q1;obtain⟨u,v,rfl,ru,rv⟩:=r1.two;cases (show u=De.ref a from ru);cases (show v=De.ref b from rv);obtain⟨us,vu,pu,zu⟩:=B.list qa;obtain⟨vs,vv,pv,zv⟩:=B.list qb;obtain⟨oa,ea,_⟩:=id pu.isList;obtain⟨ob,eb,_⟩:=id pv.isList;have la:a<f.heap.objs.size:=FG.lt_size ea;have lb:b<f.heap.objs.size:=FG.lt_size eb;have l1:=vu.length;have l2:=vv.length;refine call_zip_2 pu.isList pv.isList λh' z1 z2 z3 z4 z5 z6 Z=>?_
 refine Calls.spliced_nil ?_;have D:Je (f.heap.objs.size+4) (f.heap.objs.size+2) (f.heap.objs.size+3) f.heap.objs.size (f.heap.objs.size+1) a b:=by
  refine⟨?_,?_,?_,?_,?_,?_,?_,?_,?_,?_,?_,?_,?_,?_,?_,?_,?_,?_⟩ <;> first|exact wO (by lia)|exact w5 (by lia)|exact wO la|exact wO lb|exact wO (wW la (yl _ _))|exact wO (wW lb (yl _ _))
 refine m7 (s:={ f with heap:=h' }) (B.ok.hd a6) D z1 z2 z3 z4 z5 (pu.isList.at λo e=>Z _ _ e) (pv.isList.at λo e=>Z _ _ e) (by simp;lia) λh2 b0 c d k3 g3 e3 n3 nd R=>?_
 have a3:Gk.heap { f with heap:=h' }=h':=rfl;rw[a3]at g3 R k3;rw[z6]at g3 R;have kp:∀c o,f.heap.get? c=Jp o->h2.get? c=Jp o:=λc o e=>by
  have:=FG.lt_size e;exact k3 c o (ltA this _) (ltA this _) (wO this) (ltA this _) (Z c o e)
 have N:d.length=min p.length n.length:=by rw[n3];simp;lia
 have F:∀(j:Nat)(T:E2),d[j]?=Jp T->d.idxOf? T=Jp j:=λj T w=>by
  obtain⟨G,ej⟩:=Gb.mp w;rw[List.idxOf?,List.findIdx?_eq_some_iff_getElem];refine⟨G,by simp[ej],λi hi=>?_⟩;have:d[i]≠d[j]:=λq=>by
   have:=(uX nd).mp q;lia
  simpa[←ej]using this
 have L:∀(T:E2)(j:Nat),d.idxOf? T=Jp j->d[j]?=Jp T:=λT j w=>by
  rw[List.idxOf?,List.findIdx?_eq_some_iff_getElem]at w;obtain⟨G,e,_⟩:=w;rw[Ga G];simpa using e
 have E:∀(T:E2)(j:Nat),d.idxOf? T=Jp j->f.heap.objs.size+6<=T:=λT j w=>by
  obtain⟨a1,_⟩:=R j T (L T j w);lia
 show EP X Ju σ Q _ _;rw[show(Gk.heap { f with heap:=h' }).objs.size=f.heap.objs.size+5 from z6];generalize m:(λ(b:E2)=>if b=f.heap.objs.size+5 then Jp (HO.lst (d.map V.ref))else match gL p n d b with|some o=>Jp o|none=>S b)=H2;have hD:H2 (f.heap.objs.size+5)=Jp (.lst (d.map V.ref)):=by rw[←m];exact Jw U
 have hO:∀c,c<f.heap.objs.size->H2 c=S c:=λc hc=>by
  rw[←m];show(if c=f.heap.objs.size+5 then _ else _)=_;rw[Jv (ltA hc 5)];have:gL p n d c=none:=by
   unfold gL;cases e:d.idxOf? c with
   |none=>rfl
   |some j=>exact Jx (wW hc (wX (yl _ 6) (E c j e))) (yb _)
  rw[this]
 have hT:∀(j:Nat)(x y:V)(T:E2),p[j]?=Jp x->n[j]?=Jp y->d[j]?=Jp T->H2 T=Jp (.tup [x,y]):=λj x y T l A g=>by
  have:=E T j (F j T g);rw[←m];show(if T=f.heap.objs.size+5 then _ else _)=_;rw[Jv (w5 (wW (yi _) this))];have:gL p n d T=Jp (.tup [x,y]):=by unfold gL;rw[F j T g];dsimp only;rw[l,A]
  rw[this]
 refine⟨.ref (f.heap.objs.size+5),H2,B.grow (s':={ f with heap:=h2 }) kp U U hO (λb u hb k=>?_),U,q _ d H2 N (λc o e=>?_) (B.hok.fresh (yl _ _)) hD λj x y l A=>?_⟩
 .rw[←m]at k;replace k:(if b=f.heap.objs.size+5 then Jp (HO.lst (d.map V.ref))else match gL p n d b with|some o=>Jp o|none=>S b)=Jp u:=k
  by_cases W:b=f.heap.objs.size+5
  .rw[Jw W]at k;cases k;subst W;have rv:∀d:List E2,Vals (d.map V.ref) (d.map De.ref):=λd=>by
    induction d with
    |nil=>exact .nil
    |cons t r ih=>exact .cons U ih
   refine⟨by rw[bo,N];lia,d.map De.ref,c,rv d,?_⟩;rw[←e3];exact g3
  .rw[Jv W]at k;cases g:gL p n d b with
   |none=>rw[g]at k;replace k:S b=Jp u:=k;rw[B.hok.fresh hb]at k;cases k
   |some o =>
    rw[g]at k;cases k;unfold gL at g;cases ei:d.idxOf? b with
    |none=>rw[ei]at g;cases g
    |some j =>
     rw[ei]at g;dsimp only at g;cases l:p[j]? with
     |none=>rw[l]at g;cases g
     |some x =>
      cases A:n[j]? with
      |none=>rw[l,A]at g;cases g
      |some y =>
       rw[l,A]at g;cases g;obtain⟨_,x',y',fx,fy,gp⟩:=R j b (L b j ei);obtain⟨u1,a8,a2⟩:=vu.get l;obtain⟨v1,a7,a0⟩:=vv.get A;have P:us[j]?=Jp x':=by simpa using fx
       have O:vs[j]?=Jp y':=by simpa using fy
       rw[a8]at P;rw[a7]at O;cases P;cases O;exact⟨by show 2<=FL;decide,[x',y'],.cons a2 (.cons a0 .nil),_,gp,U,_,U⟩
 .have:c<f.heap.objs.size:=by
   rcases yj c f.heap.objs.size with z|z
   .exact z
   .rw[B.hok.fresh z]at e;cases e
  rw[hO c this];exact e
 .have w:j<d.length:=by
   obtain⟨h1,_⟩:=Gb.mp l;obtain⟨a9,_⟩:=Gb.mp A;lia
  have g:d[j]?=Jp d[j]:=Ga w;exact⟨d[j],g,B.hok.fresh (wX (yl _ 6) (E _ j (F j _ g))),hT j x y _ l A g⟩
def Ite(K:W.Frag)(a:E2):It :=
 ⟨λi H=>∃b x,SqL K H a b/\b[i]?=Jp x,
 λi H v H'=>∃T,H T=Jq/\v=.ref T/\∀b x,SqL K H a b->b[i]?=Jp x->H'=upd H T (.tup [.int i,x]),
 λi H=>∃b,SqL K H a b/\b.length<=i⟩
def vI(e it a:E2)(i:Nat)(h:FG):Prop:=(∃b,IsEnum h e it i b)/\h.IsListIter it a i
theorem uy{P:EX}{w:D0}{K:W.Frag}{n:List Gs} {x1} {tp:Pos}{e it a:E2}(m:e≠it) :
  Turn P w K (.Tuple n x1 tp) (Ite K a) [e,it] e (vI e it a) where
 mem:=by simp
 obj:=λi h d c b=>by
  obtain⟨⟨f,l⟩,⟨Y,j,_,d2⟩⟩:=d;simp only[dy,jr,or_false]at b;rcases b with rfl|rfl
  .exact⟨_,l,λv q=>nomatch q⟩
  .exact⟨_,j,λv q=>by rw[d2]at q;cases q⟩
 keep:=λi h h' d k=>by
  obtain⟨⟨f,l⟩,j⟩:=d;exact⟨⟨f,k e (by simp) _ l⟩,j.at λo q=>k it (by simp) o q⟩
 item:=by
  intro X C A D b i Ju s σ H E I r d B;subst C A D;obtain⟨Q,x,p,N⟩:=B;obtain⟨⟨f,l⟩,j⟩:=d;obtain⟨R,t,z,_⟩:=I.list p;obtain⟨u,eu,S⟩:=t.get N;refine wpAny_pyNext_enum_item l j z.isList (x:=u) (by simpa using eu) m λh1 a1 a2 a3 a4 a5=>?_
  refine⟨_,U,wpAny_letOwnedTupleGo_enum (s:={ s with heap:=h1,toks:=s.toks+1 }) a1 λF b1 b2=>?_⟩;have Z:s.heap.get? s.heap.objs.size=none:=by
   cases q:s.heap.get? s.heap.objs.size with
   |none=>rfl
   |some o=>exact Jx (FG.lt_size q) (yb _)
  have M:H s.heap.objs.size=none:=I.hok.fresh (wN _);have L:s.heap.objs.size≠e:=w5 (FG.lt_size l);have kk:∀c o,c ∉ [e,it]->s.heap.get? c=Jp o->F.get? c=Jp o:=λc o b q=>by
   simp only[dy,jr,or_false,not_or]at b;exact b2.extBut _ _ b.1 (a5 c o b.1 b.2 q)
  have J:=I.turnedPair (h':=F) (ch:=[e,it]) (T:=s.heap.objs.size) (x:=.int i) (y:=x) (u:=.int i s.toks) (v:=u) (λc b=>r c (by simp at b⊢;rcases b with q|q <;> simp[q])) kk Z M (b2.extBut _ _ L a3) ⟨_,U⟩ S;refine⟨.ref s.heap.objs.size,upd H s.heap.objs.size (.tup [.int i,x]),J.tok _,U,⟨_,M,U,λa0 x' V O=>?_⟩,⟨⟨_,b1⟩,a2.extBut b2.extBut m.symm⟩,λc b=>?_⟩
  .rw[I.list_inj V p,N]at O;cases O;rfl
  .have h0:=(r c b).1;have:c≠s.heap.objs.size:=by
    obtain⟨Y,G,_⟩:=j;simp only[dy,jr,or_false]at b;rcases b with rfl|rfl
    .exact L.symm
    .exact wO (FG.lt_size G)
   rw[aw this];exact h0
 done:=by
  intro X C A D b i Ju s σ H E I r d B;subst C A D;obtain⟨Q,p,hl⟩:=B;obtain⟨⟨f,l⟩,j⟩:=d;obtain⟨R,t,z,_⟩:=I.list p;have l1:=t.length;refine wpAny_pyNext_enum_end (I.ok.hd b) l j z.isList (by simp;lia) λF k=>⟨U,I.turnedL (ch:=[e,it]) (λc b=>r c (by simp at b⊢;rcases b with q|q <;> simp[q])) λc o b q=>?_⟩
  simp only[dy,jr,or_false,not_or]at b;exact k c o b.2 q
 self:=λ_ _ _ _ _ d h=>let ⟨⟨_,g⟩,_⟩:=d;Jl g h
inductive vJ(K:W.Frag)(R:It->Hp->Prop)(vs:List V)(H1:Hp):Prop
 |mk (a:_)(_:vs=[.ref a])(_:(∃xs,SqL K H1 a xs))(_:R (Ite K a) H1)
def BA(K:W.Frag)(b:TA):TI:=λσ H R=>b σ H λa c=>vJ K R a c
theorem jS{f:Gs}{i:TA}{p pos:Pos}{e:List Gs} {x1} {tp:Pos}(x:Gl X "enumerate") (hm:X.mg "enumerate" = Jq) (y:PA X [f] i)
  (w:Gw [f] X.env=[(Js,eval f X.env)]:=by rfl) :
  PI X (.Tuple e x1 tp) (.Call (.Name "enumerate" p) [f] [] pos) (BA X.K i):=by
 intro Ju s σ H R I h;refine Call_ (eG I x hm PyProof.Rows.boot_enumerate (PyProof.Rows.callWith_type1 (thn (y pos Ju s σ H _ I h) λm b ⟨C,z,g,o,t⟩=>?_) (by rw[w];rfl) U));obtain⟨a,rfl,⟨B,r⟩,q⟩:=t;obtain⟨u,rfl,n⟩:=o.one;cases (show u=De.ref a from n);obtain⟨m,_,v,_⟩:=g.list r;refine call_enumerate_list v.isList λh' z1 l A k=>?_
 refine Jl (s:={ b with heap:=h' }) z1 ?_;refine⟨b.heap.objs.size+1,[b.heap.objs.size+1,b.heap.objs.size],vI (b.heap.objs.size+1) b.heap.objs.size a,Ite X.K a,z,U,g.kept (t':=b.toks) k,uy (w5 (yi _)),⟨⟨_,z1⟩,l⟩,λc j=>?_,q⟩;have d:b.heap.objs.size<=c:=by
  simp only[dy,jr,or_false]at j;rcases j with rfl|rfl
  .exact x4 _
  .exact wN _
 exact g.fpOk d (g.hok.fresh d)
variable{gt:TG}{fr:List Nat}{tt:TT}{te:TE}
theorem rR{K:W.Frag}{a:E2}{xs:List V}{σ:St}{f:Hp}{Q:VK}(c:E2->Nat->List V->Hp->Prop)(t:∀D,f D=Jq->c D 0 [] (upd f D (.lst [])))
  (r:∀D i ys H,f D=Jq->i<=xs.length->c D i ys H->SqL K H a xs)
  (o:∀D i x ys H T,f D=Jq->xs[i]?=Jp x->c D i ys H->H T=Jq->∀ts:St,ts.length=k->gt (.ref T) (dh σ fr ts) (upd H T (.tup [.int i,x])) λd u=>(∃g:St,g.length=k/\d=dh σ fr g)/\tt d u λb n=>if b=Jr then te d n (cQ c D i xs.length)else eH c D i xs.length n)
  (hd:∀D ys H,f D=Jq->c D xs.length ys H->Q (.ref D) H):jN (Ite K a) gt k fr tt te σ Q f:=by
 intro D h;refine⟨λi m H=>m=xs.length-i/\i<=xs.length/\∃ys,c D i ys H,⟨_,U,xn _,[],t D h⟩,?_⟩;rintro i m H ⟨rfl,hi,ys,p⟩;have q:=r D i ys H h hi p;by_cases l:i<xs.length
 .have j:xs[i]?=Jp xs[i]:=Ga l;refine .inr ⟨⟨xs,xs[i],q,j⟩,λx H' y=>?_⟩;obtain⟨T,s,rfl,e⟩:=y;rw[e xs _ q j];exact o D i _ ys _ T h j p s
 .have e:i=xs.length:=by lia
  subst e;exact .inl ⟨⟨xs,q,wN _⟩,hd D ys H h p⟩
theorem iA{K:W.Frag}{a b:E2}{xs ys:List V}{σ:St}{f:Hp}{Q:VK}(c:E2->Nat->List V->Hp->Prop)(u:∀D,f D=Jq->c D 0 [] (upd f D (.lst [])))
  (s:∀D i zs H,f D=Jq->i<=min xs.length ys.length->c D i zs H->SqL K H a xs/\SqL K H b ys)
  (r:∀D i x y zs H T,f D=Jq->xs[i]?=Jp x->ys[i]?=Jp y->c D i zs H->H T=Jq->∀ts:St,ts.length=k->gt (.ref T) (dh σ fr ts) (upd H T (.tup [x,y])) λd v=>(∃g:St,g.length=k/\d=dh σ fr g)/\tt d v λb q=>if b=Jr then te d q (cQ c D i (min xs.length ys.length))else eH c D i (min xs.length ys.length) q)
  (hd:∀D zs H,f D=Jq->c D (min xs.length ys.length) zs H->Q (.ref D) H):jN (Itz K a b) gt k fr tt te σ Q f:=by
 intro D h;refine⟨λi m H=>m=min xs.length ys.length-i/\i<=min xs.length ys.length/\∃zs,c D i zs H,⟨_,U,xn _,[],u D h⟩,?_⟩;rintro i m H ⟨rfl,hi,zs,p⟩;obtain⟨l,j⟩:=s D i zs H h hi p;by_cases w:i<min xs.length ys.length
 .have o:xs[i]?=Jp xs[i]:=Ga (by lia);have n:ys[i]?=Jp ys[i]:=Ga (by lia);refine .inr ⟨⟨xs,ys,xs[i],ys[i],l,j,o,n⟩,λx H' y=>?_⟩;obtain⟨T,t,rfl,e⟩:=y;rw[e xs ys _ _ l j o n];exact r D i _ _ zs _ T h o n p t
 .have e:i=min xs.length ys.length:=by lia
  subst e;exact .inl ⟨⟨xs,ys,l,j,by lia⟩,hd D zs H h p⟩
theorem cZ{X:Cx}{N:List Str}{k:Nat}{fr:List Nat}{scope:Gm}{cl:List (Str×E2)}(clos:HE scope X.env=pure cl)(kind:scope.kind=.function)(a:∀y∈scope.names,y.2≠.cell)
  (names:∀y∈scope.names,y.2=.local->scope.names.lookup y.1=Jp .local)(len:N.length=k+fr.length)
  (sub:((List.range fr.length).all λi=>match N[k+i]?,fr[i]? with|some y,Jp j=>(X.N[j]? == Jp y) && ((X.env.kindOf y == Jp .cell) && ((relabel scope X.env).names.lookup y == Jp .cell))|_,_=>Js)=Jr)
  (cells:∀p∈cl,X.env.cells.lookup p.1=Jp p.2)(b:((relabel scope X.env).names.all λp=>(p.2 != .cell && p.2 != .free) || (cl.lookup p.1).isSome)=Jr):lI X N k fr scope cl:=by
 refine⟨clos,kind,a,names,len,λi y e=>?_,λy c e=>cells _ (mem_of_lookup e),λy h=>?_⟩
 .have hi:i<fr.length:=by have:=(Gb.mp e).1;lia
  have z:=iv.mp sub i (hV.mpr hi);rw[e,Ga hi]at z;simp only[A2,beq_iff_eq]at z;exact⟨_,Ga hi,z.1,.inl z.2.1,.inl z.2.2⟩
 .have look:∀k,(relabel scope X.env).names.lookup y=Jp k->(k=.cell\/k=.free)->∃c,cl.lookup y=Jp c:=λk e d=>by
   have z:=iv.mp b _ (mem_of_lookup e);rcases d with rfl|rfl
   .exact Bv.mp (by simpa using z)
   .exact Bv.mp (by simpa using z)
  rcases h with h|h
  .exact look _ h (.inl U)
  .exact look _ h (.inr U)
theorem vK(bs:List Bool):(List.range bs.length).all (λi=>bs.getD i Jr)=bs.all id:=by
 rw[Bool.eq_iff_iff,iv,iv];constructor
 .intro h b c;obtain⟨i,hi,rfl⟩:=uB c;have:=h i (hV.mpr hi);simpa[dV,hi]using this
 .intro h i hi;have a:=hV.mp hi;have:=h bs[i] (mJ a);simpa[dV,a]using this
theorem uz{K:W.Frag}(f:X.K=K){a:Gs}{c:TE}(e:PE X a c)(d:∀b,Gu a X.env b=(do let v ←b;GC a.pos;holding [v] (truthy v)):=by intro _;rfl) :
  PT X a (λσ H Q=>c σ H λx H'=>∃k,zB K x H' k/\Q k H'):=f ▸ de e d
theorem lX(A:X.calm=Jr):cY X (.builtin "all") (λus H Q=>∃(a:E2)(bs:List Bool),us=[.ref a]/\SqL X.K H a (bs.map V.bl)/\Q (.bl (bs.all id)) H):=by
 intro Ju s σ H us D Q I r h;obtain⟨a,bs,rfl,w,q⟩:=h;obtain⟨u,rfl,n⟩:=r.one;cases (show u=De.ref a from n);obtain⟨c,g,f,E⟩:=I.list w;have y:=g.length;rw[bo]at y;obtain⟨o,B,_⟩:=id f.isList;have t:a<s.heap.objs.size:=FG.lt_size B;refine call_all_walk (GW f.isList ⟨s.heap.objs.size,[s.heap.objs.size,a],[s.heap.objs.size],c.toArray.size,_,_,λi=>bs.getD i Jr,U,GV.list (by simp[I.ok.hd A]) _ a (wO t) c.toArray,⟨⟨_,FG.get?_push_size _ U,U,U⟩,f.isList.push _⟩,?_,λh' m k=>?_⟩)
 .intro i v s2 C F x d;have l:c[i]?=Jp v:=by simpa using x
  have hi:i<bs.length:=by have:=(Gb.mp l).1;lia
  obtain⟨u,j,p⟩:=g.get (show(bs.map V.bl)[i]?=Jp (.bl bs[i]) by rw[eU,Ga hi];rfl);rw[l]at j;cases j;obtain rfl:v=.bool bs[i]:=p;refine GD ?_;have:bs.getD i Jr=bs[i]:=by simp[dV,hi]
  replace d:C (bs.getD i Jr) s2:=d
  rw[this]at d;exact d
 .refine⟨.bl (bs.all id),H,I.kept (t':=m) λb o e=>k b o (λz=>?_) (FG.get?_push_of_some _ e),?_,q⟩
  .have:b=s.heap.objs.size:=by simpa using z
   exact Jx (FG.lt_size e) (by rw[this];exact yb _)
  .show De.bool ((List.range c.toArray.size).all λi=>bs.getD i Jr)=.bool (bs.all id);rw[show c.toArray.size=bs.length by simp;lia,vK]
variable{tg:Gs}
section
variable{elt iter:Gs}{ifs:List Gs}{cl:List (Str×E2)}
theorem qf{x:TI}{i:Nat}{y:Str}{c B:Pos}(hN:X.N.Nodup)(E:X.N[i]?=Jp y)(R:Loc X.env.scope y)(hi:PI X tg iter x)(O:lI X N k fr scope cl)(Y:X.calm=Jr)(S:∀d C s H,PG (bA X N scope cl d C s H) tg gt)
  (F:∀d C s H,PIf (bA X N scope cl d C s H) ifs tt)(W:∀d C s H,PE (bA X N scope cl d C s H) elt te)(G:∀v,GZ iter X.env v=pure v:=by intro _;rfl)
  (n:GI (.ListComp elt [⟨tg,iter,ifs,0⟩] scope pos) (Jp (.Name y c)) B.line X.env=pure true:=by rfl)(V:X.fn y=Jr\/X.env.scope.names.lookup y=Jp .local:=by first|exact .inl U|exact .inr U|assumption) :
  PS X (.Assign [.Name y c] (.ListComp elt [⟨tg,iter,ifs,0⟩] scope pos) B) (xa (vw x gt k fr tt te) (nu i)):=by
 intro Ju s σ H j I h;rw[HQ _ _ _ _ n];refine CW (GN (CW ?_));show Gq _ X.A (do let _ ←comprehension (.ListComp elt [⟨tg,iter,ifs,0⟩] scope pos) scope X.env _ (HG []) Js (eval iter X.env) (Jp (assign (.Name y c) X.env))) _ _ s;refine CW (Gy (HN (use:=Jp (assign (.Name y c) X.env)) (Q:=λ_ b=>SP X Ju j .next b) U G O.clos O.kind O.names (thn (hi Ju s σ H _ I h) λv s1 h1=>thn h1 λa0 s2 h2=>?_)) (λ_ b K=>CY (CY K)) λ_ _ z=>z);obtain⟨it,d,tn,J,H2,e,f,T,l,f2,hW⟩:=h2;subst e;refine lJ (Q:=λv H1=>nu i v σ H1 j.nx) (RR:=λu C=>HP (model X.prog X.w) X.A X.xe (Jp (assign (.Name y c) X.env)) (λ_ b=>SP X Ju j .next b) u C) O Y f T l f2 F W S hW λD C b H' g M ⟨m,P⟩ I' q=>?_
 show Gq _ X.A (assign (.Name y c) X.env (.ref D)) _ _ b;refine GL (kb I' hN E R (v:=.ref D) U (λs3 I3 ⟨a,p,Z⟩=>?_) V);have t:C≠a:=by
  rcases Z with z|z
  .rw[z];exact w5 (wW f.lt g)
  .obtain⟨v,o,L,_⟩:=f.cell y a z;exact w5 (wW (FG.lt_size L) g)
 exact⟨m,P.sameBut p t,λh' r=>⟨_,H',f.left I3 g M r,q⟩⟩
end
set_option maxRecDepth 100000
theorem zV:PIp X .Mult (λx y H Q=>∃i j,x=.int i/\y=.int j/\G1 i j/\Q (.int (i*j)) H):=by
 intro Ju s σ H x y v u Q I b a h;obtain⟨i,j,e,d,c,q⟩:=h;subst e;subst d;obtain⟨t,rfl⟩:=b;obtain⟨f,rfl⟩:=a;exact PyProof.Rows.imul_int ⟨.int _,H,I.tok _,⟨_,U⟩,q⟩ c
set_option maxRecDepth 100000
theorem jT{K:W.Frag}{a:E2}{xs:List V}{g:TG}{k:TS}{D:Ends}{σ:St}{H:Hp}(b:Nat->St->Hp->Prop)(t:b 0 σ H)(r:∀i σ H,b i σ H->SqL K H a xs)
  (q:∀i x σ H T,xs[i]?=Jp x->b i σ H->H T=Jq->g (.ref T) σ (upd H T (.tup [.int i,x])) λc j=>k { D with nx:=b (i+1),ct:=b (i+1),bk:=D.nx } c j)
  (hd:∀σ H,b xs.length σ H->D.nx σ H) :
  ∃W:Nat->Nat->St->Hp->Prop,(∃m,W 0 m σ H)/\∀i m σ H,W i m σ H ->
   ((Ite K a).stop i H/\D.nx σ H)\/((Ite K a).go i H/\∃N:St->Hp->Prop,(∀d H',N d H'->∃l,l<m/\W (i+1) l d H')/\∀x H',(Ite K a).yld i H x H'->g x σ H' λc j=>k { D with nx:=N,ct:=N,bk:=D.nx } c j):=by
 refine⟨λi m σ H=>m=xs.length-i/\i<=xs.length/\b i σ H,⟨xs.length,by simp,xn _,t⟩,?_⟩;rintro i m σ H ⟨rfl,hi,p⟩;have f:=r i σ H p;by_cases lt:i<xs.length
 .have h:xs[i]?=Jp xs[i]:=Ga lt;refine .inr ⟨⟨xs,_,f,h⟩,b (i+1),λd H' o=>⟨_,?_,U,lt,o⟩,λv H' n=>?_⟩
  .lia
  .obtain⟨T,s,rfl,e⟩:=n;rw[e xs _ f h];exact q i _ σ H T h p s
 .have e:i=xs.length:=by lia
  subst e;exact .inl ⟨⟨xs,f,wN _⟩,hd σ H p⟩
theorem sX:∀{xs:List V}{us:List De},xs.length=us.length->(∀(j:Nat)(x:V)(u:De),xs[j]?=Jp x->us[j]?=Jp u->RelV x u)->Vals xs us
 | [],[],_,_=>.nil
 |x :: xs,u :: us,hl,h=>.cons (h 0 x u U U) (sX (by simpa using hl) λj a b e f=>h (j+1) a b (by simpa using e) (by simpa using f))
 | [],_ :: _,hl,_=>by simp at hl
 |_ :: _,[],hl,_=>by simp at hl
theorem vL{X:Cx}{K:W.Frag}(h:X.K=K):SlR X (zI K):=h ▸ d8
structure Dd(X:Cx)(N:List Str)(k:Nat)(fr:List Nat)(scope:Gm)(cl:List (Str×E2)):Prop where
 clos:HE scope X.env=pure cl
 kind:scope.kind=.function
 names:∀y∈scope.names,y.2=.local->scope.names.lookup y.1=Jp .local
 len:N.length=k+fr.length
 sub:∀(i:Nat)(y:Str),N[k+i]?=Jp y->∃j,fr[i]?=Jp j/\X.N[j]?=Jp y/\(X.env.kindOf y=Jp .cell\/X.env.kindOf y=Jp .free)/\((relabel scope X.env).names.lookup y=Jp .cell\/(relabel scope X.env).names.lookup y=Jp .free)/\∃c,cl.lookup y=Jp c/\∀C:E2,(Hm (C+1) scope.names cl).lookup y=Jp c
 cells:∀y c,cl.lookup y=Jp c->X.env.cells.lookup y=Jp c
 has:∀(C:E2)(y:Str),((relabel scope X.env).names.lookup y=Jp .cell\/(relabel scope X.env).names.lookup y=Jp .free)->∃c,(Hm (C+1) scope.names cl).lookup y=Jp c
section
variable{elt iter:Gs}{ifs:List Gs}{cl:List (Str×E2)}
end
section
variable{st b₀:Gx}{su:List Gx}{tb:TSX}{ts:E2->E2->TS}{Tn:Str}{B:E2}{C5:Pos}
end
abbrev TTh:HO:=.ext λ_=>True
theorem qg{P:EX}{w:D0}{H:Hp}{h:FG}{a:E2}{o:Obj}(e:h.get? a=Jp o):cG P w H h a (.frz o TTh):=⟨e,trivial,⟨o,e⟩,λ_ _ _ _=>trivial⟩
def hideL(H:Hp)(a:List E2):Hp:=λb=>if b∈a then Jq else H b
def jg(H:Hp)(fz:List (E2×Obj)):Hp:=λb=>match fz.lookup b with
 |some o=>Jp (.frz o TTh)
 |none=>H b
def backL(H H':Hp)(a:List E2):Hp:=λb=>if b∈a then H b else H' b
theorem jU{H:Hp}{a:List E2}{b:E2}(h:b∈a):hideL H a b=none:=Jw h
theorem bQ{H:Hp}{a:List E2}{b:E2}(h:b ∉ a):hideL H a b=H b:=Jv h
theorem lY{H H':Hp}{a:List E2}{b:E2}(h:b∈a):backL H H' a b=H b:=Jw h
theorem c0{H H':Hp}{a:List E2}{b:E2}(h:b ∉ a):backL H H' a b=H' b:=Jv h
theorem gc{H:Hp}{a:List E2}{b:E2}(h:H b=Jq):hideL H a b=none:=by
 unfold hideL;split
 .rfl
 .exact h
theorem rS{H:Hp}{a:List E2}{b:E2}{o:HO}(h:hideL H a b=Jp o):b ∉ a/\H b=Jp o:=by
 unfold hideL at h;split at h
 .cases h
 .rename_i n
  exact⟨n,h⟩
def Fzs(H:Hp)(a:List E2):Prop:=∀c∈a,∃o,H c=Jp (.frz o TTh)
theorem Fzs.out{H:Hp}{a:List E2}(h:Fzs H a){b:E2}{u:HO}(e:H b=Jp u)(n:∀o,u≠.frz o TTh):b ∉ a:=λz=>by
 obtain⟨o,q⟩:=h b z;rw[e]at q;exact n o (Option.some.inj q)
section
variable{h:FG}{cs:List E2}
theorem HOk.hideL(x:HOk P w H h)(f:Fzs H cs):HOk P w (hideL H cs) h:=λb o e=>by
 obtain⟨n,e⟩:=rS e;refine(x b o e).stay (λ_ _ _ q=>q) (λc q=>?_) λc a q=>?_
 .rw[bQ (f.out q λ_ z=>by cases z)];exact q
 .rw[bQ (f.out q λ_ z=>by cases z)];exact q
theorem HOk.backL(x:HOk P w H' h')(f:Fzs H cs)(n:∀c∈cs,H' c=Jq)(k:∀c∈cs,∀o,H c=Jp (.frz o TTh)->h'.get? c=Jp o):HOk P w (backL H H' cs) h':=λb o e=>by
 by_cases a:b∈cs
 .rw[lY a]at e;obtain⟨d,q⟩:=f b a;rw[q]at e;cases e;exact qg (k b a d q)
 .rw[c0 a]at e;have out:∀{c:E2}{u:HO},H' c=Jp u->c ∉ cs:=λ{c u} q z=>by rw[n c z]at q;cases q
  refine(x b o e).stay (λ_ _ _ q=>q) (λc q=>?_) λc g q=>?_
  .rw[c0 (out q)];exact q
  .rw[c0 (out q)];exact q
theorem rT(s:ao (hideL H cs) H'):ao H (backL H H' cs):=λb o e=>by
 by_cases a:b∈cs
 .rw[lY a];exact e
 .rw[c0 a];exact s b o (by rw[bQ a];exact e)
end
section
variable{fs:List E2}{h:FG}{cs:List E2}
theorem Un.backL(u:Un fs [] (hideL H cs) H' h h')(f:Fzs H cs):Un fs [] H (backL H H' cs) h h' where
 keep:=λb o e n a c=>u.keep b o e (gc n) a c
 slot:=λb o e n a c=>u.slot b o e (gc n) a c
 free:=λb o e n c=>by
  have:b ∉ cs:=λz=>by obtain⟨g,q⟩:=f b z;rw[n]at q;cases q
  rw[c0 this];exact u.free b o e (gc n) c
 there:=u.there
 tups:=λb d e=>by
  have a:=f.out e λ_ z=>by cases z
  rw[c0 a];exact u.tups b d (by rw[bQ a];exact e)
 frzs:=λb o v e=>by
  by_cases a:b∈cs
  .rw[lY a];exact e
  .rw[c0 a];exact u.frzs b o v (by rw[bQ a];exact e)
 tbls:=λb ps e=>by
  have a:=f.out e λ_ z=>by cases z
  rw[c0 a];exact u.tbls b ps (by rw[bQ a];exact e)
end
def qh(b:Obj)(qual:Str):Prop:=∃a t,b.data=.fields a/\a[1]?=Jp (.str qual t)
structure rV(N ps:List Str)(sc:Gm)(cl:List (Str×E2)):Prop where
 kind:sc.kind=.function
 co:sc.isCoroutine=Js
 gen:sc.isGenerator=Js
 nd:N.Nodup
 pre:N.take ps.length=ps
 par:∀x∈ps,sc.names.lookup x=Jp .local
 nocell:∀y∈sc.names,y.2≠.cell
 has:∀y∈sc.names,y.2=.free->∃c,cl.lookup y.1=Jp c
def cxC(CX:CXT)(P:EX)(w:D0)(K:W.Frag)(mg:Str->Option De)(base:FG)(N:List Str)(qual:Str)(scope:Gm)(f:E2)(b:De)(cl:List (Str×E2))(A:Gj)(outer:List Env)(s:Gk)(H:Hp)(E:XK):Cx where
 prog:=P
 w:=w
 K:=K
 mg:=mg
 base:=base
 A:=A.deeper (W.envX qual scope s.heap.objs.size f b cl)
 N:=N
 s₀:=s
 H₀:=hideL H (cl.map (·.2))
 env:=W.envX qual scope s.heap.objs.size f b cl
 outer:=outer
 stack:=W.envX qual scope s.heap.objs.size f b cl :: outer
 ex:=[]
 calm:=Jr
 fn:=λ_=>Js
 pn:=[]
 xe:=λe c=>Gq (model P w) (A.deeper (W.envX qual scope s.heap.objs.size f b cl)) (leaving (W.envX qual scope s.heap.objs.size f b cl) e) (λ_ a=>CX outer H s E e a) (λd a=>CX outer H s E d a) c
def fg(H:Hp)(cl:List (Str×E2))(ws:List (Str×V)):Prop :=
 (∀c∈cl.map (·.2),∃o v,H c=Jp (.frz o TTh)/\o.data=.cell v)/\∀(x:Str)(v:V),ws.lookup x=Jp v->∃c o u,cl.lookup x=Jp c/\H c=Jp (.frz o TTh)/\o.data=.cell (Jp u)/\RelV v u
theorem fg.fzs{H:Hp}{cl:List (Str×E2)}{ws:List (Str×V)}(h:fg H cl ws):Fzs H (cl.map (·.2)):=λc a=>let ⟨o,_,e,_⟩:=h.1 c a;⟨o,e⟩
theorem fg.same{H H':Hp}{cl:List (Str×E2)}{ws:List (Str×V)}(h:fg H cl ws)(s:ao H H'):fg H' cl ws :=
 ⟨λc f=>let ⟨o,v,e,d⟩:=h.1 c f;⟨o,v,s _ _ e,d⟩,λx v e=>let ⟨c,o,u,a,b,d,r⟩:=h.2 x v e;⟨c,o,u,a,s _ _ b,d,r⟩⟩
def kr(N ps:List Str)(vs:List V)(ws:List (Str×V)):St:=vs.map Jp++(N.drop ps.length).map λx=>ws.lookup x
theorem lZ{cl:List (Str×E2)}{x:Str}{c:E2}(h:cl.lookup x=Jp c):c∈cl.map (·.2):=eR.mpr ⟨(x,c),mem_of_lookup h,U⟩
theorem rW{ps:List Str}{us:List De}{i:Nat}{y:Str}{u:De}(d:ps.Nodup)(g:ps[i]?=Jp y)(f:us[i]?=Jp u)(h:us.length=ps.length):(ps.zip us).reverse.lookup y=Jp u:=by
 have c:((ps.zip us).map (·.1)).Nodup:=by rw[uT (by lia)];exact d
 rw[PySem.lookup_reverse_of_nodup _ c];have b:(y,u)∈ps.zip us:=by
  have:(ps.zip us)[i]?=Jp (y,u):=by rw[qV];exact⟨g,f⟩
  exact Gd this
 cases e:(ps.zip us).lookup y with
 |none =>
  exact Jx b (by
   intro b;have:=List.lookup_eq_none_iff.mp e (y,u) b;simp at this)
 |some v =>
  have:=mem_of_lookup e;obtain⟨j,a⟩:=jn this;rw[qV]at a;have:=jH d a.1 g;subst this;rw[f]at a;rw[Option.some.inj a.2]
def HFn(P:EX)(w:D0)(K:W.Frag)(mg:Str->Option De)(base:FG)(k:Nat)(f:E2)(sp:Sp):Prop:=∃fd ps,aK P w K mg base CX0 k f fd ps sp/\Binds K fd ps []
def FnO(H:Hp)(f:E2):Prop:=∃o fd,H f=Jp (.frz o TTh)/\o.data=.func fd
section
variable{i:Nat}
inductive yI(X:Cx)(k i:Nat)(t:TA)(σ:St)(H:Hp)(Q:VK):Prop
 |mk (f:E2)(sp:Sp)(_:σ[i]?=Jp (Jp (.ref f)))(_:FnO H f)(_:HFn X.prog X.w X.K X.mg X.base k f sp)(_:t σ H λvs H1=>FnO H1 f/\sp vs H1 Q E0)
theorem xx(D:bU k X.A)(L:X.N[i]?=Jp x)(C:Vis X.env.scope x)(K:PA X (e :: es) t)(G:(x == ("__debug__" : Str))=false:=by decide) (c:(x == ("__classdict__" : Str))=false:=by decide)
  (he:Gw (e :: es) X.env=(Js,eval e X.env) :: Gw es X.env:=by rfl)(b:(Gv pos (Gw es X.env)).any (·.1)=false:=by rfl):PE X (.Call (.Name x p) (e :: es) [] pos) (yI X k i t):=by
 intro Ju s σ H Q I h;obtain⟨f,sp,O,M,⟨fd,V,F,J⟩,h⟩:=h;have a:∀{H:Hp}{s:Gk}{σ:St},Inv X Ju σ H s->FnO H f->W.FnAt f s.heap:=λP ⟨o,fd,e,d⟩=>by
  have:=(P.hok f _ e).1;obtain⟨B,z,Y,m⟩:=o;simp only at d;subst d;exact⟨B,z,fd,m,this⟩
 refine Dc (thn (uZ L C G c Ju s σ H (λv H'=>v=.ref f/\H'=H) I ⟨_,O,U,U⟩) λu n ⟨v,R,l,r,y⟩=>?_);obtain⟨rfl,rfl⟩:=y;cases (show u=De.ref f from r);refine W.callWith_F (a l M) (thn (K pos Ju n σ R _ l h) λT s2 ⟨S,Z,j,q,g,w⟩=>⟨a j g,?_⟩) he b;exact rm (E:=E0) (dvs:=[]) (ds:=[]) F D J .nil bV j q (by rw[jt];exact w)
end
theorem cz{H:Hp}{fz:List (E2×Obj)}{b:E2}(h:b ∉ fz.map (·.1)):jg H fz b=H b:=by
 unfold jg;cases e:fz.lookup b with
 |none=>rfl
 |some o=>exact Jx (eR.mpr ⟨(b,o),W.mem_of_lookupK e,U⟩) h
theorem iB{H:Hp}{fz:List (E2×Obj)}{b:E2}(h:b∈fz.map (·.1)):∃o,(b,o)∈fz/\jg H fz b=Jp (.frz o TTh):=by
 unfold jg;cases e:fz.lookup b with
 |none =>
  obtain⟨⟨c,o⟩,a,rfl⟩:=eR.mp h;have:=List.lookup_eq_none_iff.mp e _ a;simp at this
 |some o=>exact⟨o,W.mem_of_lookupK e,U⟩
structure oS(X:Cx)(s:Gk)(fz:List (E2×Obj)):Prop where
 cell:∀p∈fz,∃x,X.env.cells.lookup x=Jp p.1
 nb:∀p∈fz,X.base.get? p.1=Jq
 nf:∀p∈fz,p.1 ∉ X.fs
 at_:∀p∈fz,s.heap.get? p.1=Jp p.2
theorem oS.free{fz:List (E2×Obj)}(z:oS X s fz)(I:Inv X Ju σ H s):∀b∈fz.map (·.1),H b=none:=λb c=>by
 obtain⟨p,a,rfl⟩:=eR.mp c;obtain⟨x,e⟩:=z.cell p a;exact I.freeC x _ e
theorem oS.hok{fz:List (E2×Obj)}(z:oS X s fz)(I:Inv X Ju σ H s):HOk X.prog X.w (jg H fz) s.heap:=λb u e=>by
 by_cases a:b∈fz.map (·.1)
 .obtain⟨o,c,q⟩:=iB (H:=H) a;rw[q]at e;cases e;exact qg (z.at_ _ c)
 .rw[cz a]at e;have out:∀{d:E2}{u:HO},H d=Jp u->jg H fz d=Jp u:=λ{d u} q=>by
   rw[cz λm=>by rw[z.free I d m]at q;cases q];exact q
  exact(I.hok b u e).stay (λ_ _ _ q=>q) (λd q=>out q) λd f q=>out q
theorem oS.env0{fz:List (E2×Obj)}(z:oS X s fz)(I:Inv X Ju σ H s):pO X.prog X.w X.K X.mg X.base X.A X.stack s (jg H fz):=by
 have e:=I.env0;refine⟨e.frames,e.mod,λb o q=>⟨(e.bs b o q).1,?_⟩,e.bsz,e.funs,λb c=>?_,z.hok I,e.bare⟩
 .rw[cz λm=>?_]
  .exact(e.bs b o q).2
  .obtain⟨p,a,rfl⟩:=eR.mp m;rw[z.nb p a]at q;cases q
 .rw[cz λm=>?_]
  .exact e.frf b c
  .obtain⟨p,a,rfl⟩:=eR.mp m;rcases dy.mp (I.stkSub _ c)with q|q
   .obtain⟨x,d⟩:=z.cell p a;exact I.cne x _ d q
   .exact z.nf p a q
theorem Inv.cellNew(I:Inv X Ju σ H s){x:Str}{c:E2}(e:X.env.cells.lookup x=Jp c)(d:X.fn x=Jr):X.base.get? c=Jq/\c ∉ X.fs:=by
 have a:=I.ok.cab x c d e;refine⟨FG.get?_none_of_le (wX I.ok.bsz a),λq=>?_⟩;obtain⟨_,o,b,_⟩:=I.ok.funs.mem q;exact Jx (FG.lt_size b) (zb.mpr a)
theorem oS.after{fz:List (E2×Obj)}{Q:VK}{u:De}{s':Gk}(z:oS X s fz)(I:Inv X Ju σ H s)(h:CE X.stack X.prog X.w (jg H fz) s (λv k=>Q v (hideL k (fz.map (·.1)))) u s'):EP X Ju σ Q u s':=by
 obtain⟨v,k,A,j,un,hok,r,q⟩:=h;have fzs:Fzs k (fz.map (·.1)):=λc B=>by
  obtain⟨o,_,e⟩:=iB (H:=H) B;exact⟨o,un.frzs c o _ e⟩
 have out:∀{d:E2}{u:HO},H d=Jp u->d ∉ fz.map (·.1):=λ{d u} q m=>by rw[z.free I d m]at q;cases q
 refine⟨v,hideL k (fz.map (·.1)),I.call' (ch:=[]) A ⟨λb o e n g f=>?_,λb o e n g f=>?_,λb o e n f=>?_,un.there,λb x e=>?_,λb o y e=>?_,λb ps e=>?_⟩ (hok.hideL fzs) j (λb g=>Jx g (by simp)),r,q⟩
 .by_cases a:b∈fz.map (·.1)
  .obtain⟨p,t,l⟩:=iB (H:=H) a;have:=(hok b _ (un.frzs b p _ l)).1;have i:=z.at_ _ t;rw[e]at i;cases i;exact this
  .exact un.keep b o e (by rw[cz a];exact n) g f
 .by_cases a:b∈fz.map (·.1)
  .obtain⟨p,t,l⟩:=iB (H:=H) a;have:=(hok b _ (un.frzs b p _ l)).1;have i:=z.at_ _ t;rw[e]at i;cases i;exact⟨_,this⟩
  .exact un.slot b o e (by rw[cz a];exact n) g f
 .by_cases a:b∈fz.map (·.1)
  .exact jU a
  .rw[bQ a];exact un.free b o e (by rw[cz a];exact n) f
 .have a:=out e;rw[bQ a];exact un.tups b x (by rw[cz a];exact e)
 .have a:=out e;rw[bQ a];exact un.frzs b o y (by rw[cz a];exact e)
 .have a:=out e;rw[bQ a];exact un.tbls b ps (by rw[cz a];exact e)
def tZ(zs:List (Str×Nat×E2))(sp:Sp)(t:TA):TE:=λσ H Q=>t σ H λc b=>∀a:List Obj,a.length=zs.length->(∀z∈zs,b z.2.2=Jq) ->
 (∀(j:Nat)(z:Str×Nat×E2),zs[j]?=Jp z->∃o w,a[j]?=Jp o/\o.data=.cell w/\∀v,σ[z.2.1]?=Jp (Jp v)->∃u,w=Jp u/\RelV v u) ->
 sp c (jg b ((zs.map (·.2.2)).zip a)) (λv d=>Q v (hideL d (zs.map (·.2.2)))) E0
theorem n8{Ju:List (E2×Obj)}{σ:St}{H:Hp}{s:Gk}(I:Inv X Ju σ H s):∀(zs:List (Str×Nat×E2)),(∀z∈zs,X.N[z.2.1]?=Jp z.1/\(X.env.scope.names.lookup z.1=Jp .cell\/X.env.scope.names.lookup z.1=Jp .free)/\X.env.cells.lookup z.1=Jp z.2.2/\(X.fn z.1=Jr\/(X.base.get? z.2.2=Jq/\z.2.2 ∉ X.fs))) ->
  ∃f:List Obj,f.length=zs.length/\(∀(j:Nat)(z:Str×Nat×E2),zs[j]?=Jp z->∃o w,f[j]?=Jp o/\s.heap.get? z.2.2=Jp o/\o.data=.cell w/\∀v,σ[z.2.1]?=Jp (Jp v)->∃u,w=Jp u/\RelV v u)
 | [],_=>⟨[],U,λj z e=>by simp at e⟩
 |z :: zs,h=>by
  obtain⟨f,y,x⟩:=n8 I zs λq a=>h q (ik _ a)
  obtain⟨A,b,n,E⟩:=h z gb;obtain⟨w,o,e,d⟩:=I.cell _ _ n;refine⟨o :: f,by rw[gR,gR,y],λj q a=>?_⟩
  match j,a with
  |0,a =>
   cases a;refine⟨o,w,U,e,d,λv t=>?_⟩;obtain⟨m,D,B⟩:=I.loc;obtain⟨u,r,l⟩:=B _ _ v A t (.inr b);rcases l with⟨g,_⟩|⟨_,c,k,C,p,i⟩
   .have g:X.env.scope.names.lookup z.1=Jp .local:=g;rcases b with b|b <;> rw[b]at g <;> cases g
   .rw[n]at k;cases k;rw[e]at p;cases p;rw[d]at i;injection i with i;exact⟨u,i,r⟩
  |j+1,a=>exact x j q (by simpa using a)
theorem zW{Ju:List (E2×Obj)}{σ:St}{H:Hp}{s:Gk}{zs:List (Str×Nat×E2)}{g:List Obj}(I:Inv X Ju σ H s)
  (hz:∀z∈zs,X.N[z.2.1]?=Jp z.1/\(X.env.scope.names.lookup z.1=Jp .cell\/X.env.scope.names.lookup z.1=Jp .free)/\X.env.cells.lookup z.1=Jp z.2.2/\(X.fn z.1=Jr\/(X.base.get? z.2.2=Jq/\z.2.2 ∉ X.fs)))(n:g.length=zs.length)
  (k:∀(j:Nat)(z:Str×Nat×E2),zs[j]?=Jp z->∃o w,g[j]?=Jp o/\s.heap.get? z.2.2=Jp o/\o.data=.cell w/\∀v,σ[z.2.1]?=Jp (Jp v)->∃u,w=Jp u/\RelV v u):oS X s ((zs.map (·.2.2)).zip g):=by
 have b:∀p∈(zs.map (·.2.2)).zip g,∃z∈zs,z.2.2=p.1/\s.heap.get? p.1=Jp p.2:=λp a=>by
  obtain⟨j,d⟩:=jn a;rw[qV,eU]at d;cases ez:zs[j]? with
  |none=>rw[ez]at d;cases d.1
  |some z =>
   rw[ez]at d;have i:z.2.2=p.1:=Option.some.inj d.1;obtain⟨o,w,h,m,_⟩:=k j z ez;rw[d.2]at h;cases h;exact⟨z,Gd ez,i,i ▸ m⟩
 have new:∀z∈zs,X.base.get? z.2.2=Jq/\z.2.2 ∉ X.fs:=λz c=>by
  obtain⟨_,_,l,f⟩:=hz z c;rcases f with f|f
  .exact I.cellNew l f
  .exact f
 refine⟨λp a=>?_,λp a=>?_,λp a=>?_,λp a=>?_⟩
 .obtain⟨z,c,e,_⟩:=b p a;exact⟨z.1,e ▸ (hz z c).2.2.1⟩
 .obtain⟨z,c,e,_⟩:=b p a;rw[←e];exact(new z c).1
 .obtain⟨z,c,e,_⟩:=b p a;rw[←e];exact(new z c).2
 .obtain⟨z,c,e,h⟩:=b p a;exact h
theorem zX{zs:List (Str×Nat×E2)}(C:Callee X.prog X.w X.K X.mg X.base k x ps sp)(P:bU k X.A)(S:Gl X x)(T:PA X (e :: es) t)(hz:∀z∈zs,X.N[z.2.1]?=Jp z.1/\(X.env.scope.names.lookup z.1=Jp .cell\/X.env.scope.names.lookup z.1=Jp .free)/\X.env.cells.lookup z.1=Jp z.2.2/\(X.fn z.1=Jr\/(X.base.get? z.2.2=Jq/\z.2.2 ∉ X.fs)))
  (v:(x == ("__debug__" : Str))=false:=by decide) (he:Gw (e :: es) X.env=(Js,eval e X.env) :: Gw es X.env:=by rfl)(l:(Gv pos (Gw es X.env)).any (·.1)=false:=by rfl):PE X (.Call (.Name x p) (e :: es) [] pos) (tZ zs sp t):=by
 obtain⟨f,fd,F,b,O,m⟩:=C;intro Ju s σ H Q I h;refine Dc (ir I S m ?_ v);refine W.callWith_K (h₀:=X.base) I.ok.mod.kin O (thn (T pos Ju s σ H _ I h) λg i ⟨L,Y,a,r,q⟩=>⟨a.kIn,?_⟩) he l;obtain⟨B,G,E⟩:=n8 a zs hz;have J:((zs.map (·.2.2)).zip B).map (·.1)=zs.map (·.2.2):=uT (by rw[bo];lia);have d:=zW a hz G E;have D:=q B G (λz R=>a.freeC z.1 _ (hz z R).2.2.1) λj z V=>let ⟨o,w,a1,_,a3,a4⟩:=E j z V;⟨o,w,a1,a3,a4⟩
 have n:g.length=ps.length:=by rw[←r.length];exact F.len _ _ _ _ D
 refine Hh (Hi (F.run X.A X.stack i _ ⟨g,[]⟩ g L _ E0 P (d.env0 a) (by have:=b i g a.kIn (by rw[jt];exact n);rw[jt]at this;exact this) r D) λM y c=>?_);cases M with
 |error e=>exact bV Ju σ Y i e y a c
 |ok fl =>
  cases fl with
  |ret u =>
   have c:CE X.stack X.prog X.w _ i _ u y:=c;refine d.after a ?_;rw[J];exact c
  |next=>exact False.elim c
  |brk=>exact False.elim c
  |cont=>exact False.elim c
open PySem.W
def vM(tabs:List (E2×E2))(H:Hp):Prop:=∀b,H b=Jq\/(∃o a,H b=Jp (.frz o (.lst a)))\/(b∈tabs.map (·.2)/\H b=Jp (.tbl #[]))
theorem uA{P:EX}{w:D0}{K:W.Frag}{mg mb:Str->Option De}{CX:CXT}{k:Nat}{fa a:E2}{fd:He}{x:Str}{sp:Sp}{c:Gk}{vs:List De}{L:List Int}{tabs:List (E2×E2)}
  (KX:K.In c.heap)(C:c.heap.Ns Gg mg)(hb:c.heap.Ns Gh mb)(a9:∀x:Str,x ≠ "__name__" -> mb x=Gi x) (Df:c.heap.NoLimit)(hg:c.gens = #[])
  (G:c.heap.get? a=Jp { cls:=.type "list",data:=.seq vs.toArray }) (hi:IntsAre vs L)(hl:L.length<=FL)(hr:bU k HC)
  (M:TabsAt tabs c.heap)(a7:noTabs K=Jr)(a8:∃Q A,mg "__builtins__" = Jp (.ref Q)/\Q≠Gh/\c.heap.get? Q=Jp A/\A.cls=.type "module" /\ A.dict=Jp Gh/\A.data=.plain)
  (F:∀base:FG,K.In base->base.Ns Gg mg->(∀q∈tabs,CodeHd base q.1 q.2/\base.BuiltinsAt mg q.2)->aK P w K mg base CX k fa fd [x] sp)(BB:∀(s:Gk)(u:De),Hf s fd ⟨[u],[]⟩ [(x,u)])
  (a5:∀H:Hp,vM tabs H->SqL K H a (L.map V.int)->(∀q∈tabs,H q.2=Jp (.tbl #[]))->sp [.ref a] H (λv _=>v=.bl Jr) λ_ _ _=>False)
  (c2:∀H e s',CX [] H c (λ_ _ _=>False) e s'->False) :
  G9 (model P w) HC (.call (.ref fa) ⟨[.ref a],[]⟩) (λr s'=>r=.ok (.ret (.bool Jr))/\OldK c.heap s'.heap/\s'.os=c.os/\AllBare s'.gens) c:=by
 have rv:=nK hi;have Dg:=hi.length;have E:∀b∈tabs.map (·.2),c.heap.get? b=Jp (tabObj #[]):=λb f=>by
  obtain⟨q,i,rfl⟩:=eR.mp f;exact(M q i).2
 have aT:a ∉ tabs.map (·.2):=λz=>by
  have e:=E a z;rw[G]at e;cases e
 have B:∀H:Hp,vM tabs H->SqL K H a (L.map V.int)->HOk P w H c.heap->(∀b,H b≠Jq->b=a\/b∈tabs.map (·.2))->(H a≠Jq->K.lookup a=Jq)->(∀q∈tabs,H q.2=Jp (.tbl #[])) ->
   G9 (model P w) HC (.call (.ref fa) ⟨[.ref a],[]⟩) (λr s'=>r=.ok (.ret (.bool Jr))/\OldK c.heap s'.heap/\s'.os=c.os/\AllBare s'.gens) c:=by
  intro H hO hS hok hA hK X;have kX:∀{b:E2}{o:Obj},c.heap.get? b=Jp o->H b=Jq->(lr c.heap H).get? b=Jp o:=λe n=>uY e n
  have R:∀{b:E2}{o:Obj},c.heap.get? b=Jp o->(b=a->False)->o≠tabObj #[]->H b=none:=λ{b o} e n1 n2=>by
   cases q:H b with
   |none=>rfl
   |some u =>
    rcases hA b (by rw[q];simp)with z|z
    .exact(n1 z).elim
    .have:=E b z;rw[e]at this;exact Jx (Option.some.inj this) n2
  have a3:∀{b:E2}{o:Obj}{es:Array DictEntry}{I:Nat},c.heap.get? b=Jp o->o.data=.dict es I->H b=none:=λ{b o es I} e d=>R e (λz=>by
   subst z;rw[G]at e;cases e;have O:Data.seq vs.toArray _=Data.dict es I:=d;cases O) (λz=>by rw[z]at d;cases d)
  have S:∀{b:E2}{o:Obj}{T:String},c.heap.get? b=Jp o->o.cls=.type T->T ≠ "list" -> H b=none:=λ{b o T} e d c1=>R e (λz=>by
   subst z;rw[G]at e;cases e;have O:De.type "list" = De.type T:=d;injection O with O;exact c1 O.symm) (λz=>by rw[z]at d;cases d)
  have y:∀{b:E2}{m:Str->Option De},c.heap.Ns b m->(lr c.heap H).Ns b m:=λ{b m} ⟨o,es,I,e,d,r⟩=>⟨o,es,I,kX e (a3 e d),d,r⟩
  have Y:K.In (lr c.heap H):=λb o e=>kX (KX b o e) (by
   cases q:H b with
   |none=>rfl
   |some u =>
    rcases hA b (by rw[q];simp)with z|z
    .subst z;rw[hK (by rw[q];simp)]at e;cases e
    .have j:=E b z;rw[KX b o e]at j;cases j;have h2:=iv.mp a7 (b,tabObj #[]) (mem_of_lookupK e);exact Jx (show Js=Jr from h2) Bool.false_ne_true)
  have hM:Mod K mg (lr c.heap H):=⟨Y,y C,⟨mb,y hb,a9⟩,let ⟨mc,h1,h2⟩:=Df;⟨mc,y h1,h2⟩⟩;have e0:pO P w K mg (lr c.heap H) HC [] c H:=⟨U,hM,λb o e=>wZ e,Nat.le_of_eq (tW _ _),trivial,λb hb=>Jx (show b∈([]:List E2)from hb) (by simp),hok,.of_eq hg⟩;have b0:∀q∈tabs,CodeHd (lr c.heap H) q.1 q.2/\(lr c.heap H).BuiltinsAt mg q.2:=λq i=>by
   obtain⟨o,a2,a0,tf,D,tg,a4,Z,tt,N,r1,r2⟩:=(M q i).1;obtain⟨Q,A,b1,b2,J,b4,b5,b6⟩:=a8;refine⟨⟨o,a2,a0,tf,D,tg,a4,Z,tt,kX N (S N r1 (by decide)),r1,r2⟩,Q,A,b1,b2,λz=>?_,λz=>?_,kX J (S J b4 (by decide)),b4,b5,b6⟩
   .obtain⟨o',es,I,e,d,_⟩:=C;rw[z,e]at J;cases J;rw[d]at b6;cases b6
   .have j:=(M q i).2;rw[z,j]at J;cases J;cases b4
  refine Hi ((F _ Y (y C) b0).run HC [] c H ⟨[.ref a],[]⟩ [.ref a] [.ref a] _ _ hr e0 (BB c (.ref a)) (.cons U .nil) (a5 H hO hS X)) λr s' h=>?_
  cases r with
  |error e=>exact(c2 H e s' h).elim
  |ok fl =>
   cases fl with
   |next=>exact False.elim h
   |brk=>exact False.elim h
   |cont=>exact False.elim h
   |ret u =>
    obtain⟨v,H',os,a1,un,BC,r',q⟩:=h;have q':v=.bl true:=q;subst q';obtain rfl:u=De.bool true:=r';have kept:∀b o,b ∉ tabs.map (·.2)->c.heap.get? b=Jp o->s'.heap.get? b=Jp o:=λb o f e=>by
     cases q:H b with
     |none=>exact un.keep b o e q (by intro z;exact Jx (show b∈([]:List E2)from z) (by simp)) (by simp)
     |some u =>
      rcases hO b with z|⟨A,xs,z⟩|⟨z,_⟩
      .rw[q]at z;cases z
      .have z2:=un.frzs b A _ z;obtain⟨N,_⟩:=hok b _ z;obtain⟨j,_⟩:=BC b _ z2;rw[e]at N;cases N;exact j
      .exact Jx z f
    have l:∀b∈tabs.map (·.2),isCodeTable c.heap b/\∃g,s'.heap.get? b=Jp (tabObj g):=λb f=>by
     obtain⟨qq,i,rfl⟩:=eR.mp f;obtain⟨g,e⟩:=un.tbls _ _ (X qq i);have j:s'.heap.get? qq.2=Jp (tabObj (#[]++g)):=BC _ _ e;exact⟨((M qq i).1.tab (M qq i).2).isCodeTable,_,j⟩
    refine⟨U,⟨λb o e=>?_,λb o e=>?_⟩,os,a1⟩
    .by_cases f:b∈tabs.map (·.2)
     .obtain⟨ht,g,j⟩:=l b f;have e3:=E b f;rw[e]at e3;cases e3;exact .inr (.inl ⟨ht,U,#[],g,U,by rw[Array.empty_append];exact j⟩)
     .exact .inl (kept b o f e)
    .by_cases f:b∈tabs.map (·.2)
     .obtain⟨_,g,j⟩:=l b f;exact⟨_,j⟩
     .exact⟨o,kept b o f e⟩
 cases hk:K.lookup a with
 |some o =>
  have e:=KX a o hk;rw[G]at e;cases e;refine B (λb=>if b∈tabs.map (·.2)then Jp (.tbl #[])else Jq) (λb=>?_) (.inr ⟨_,vs.toArray,_,hk,U,U,U,by rw[dt,Dg];exact hl,by simpa using rv⟩) (λb u z=>?_) (λb z=>?_) (λz=>Jx (Jv aT) z) λq i=>Jw (eR.mpr ⟨q,i,U⟩)
  .by_cases f:b∈tabs.map (·.2)
   .exact .inr (.inr ⟨f,Jw f⟩)
   .exact .inl (Jv f)
  .by_cases f:b∈tabs.map (·.2)
   .have t:=(Jw f).symm.trans z;cases t;exact E b f
   .have t:=(Jv f).symm.trans z;cases t
  .by_cases f:b∈tabs.map (·.2)
   .exact .inr f
   .exact Jx (Jv f) z
 |none =>
  refine B (λb=>if b=a then Jp (.frz { cls:=.type "list",data:=.seq vs.toArray } (.lst (L.map V.int)))else if b∈tabs.map (·.2)then Jp (.tbl #[])else Jq) (λb=>?_) (.inl (.inr ⟨{ cls:=.type "list",data:=.seq vs.toArray },Jw U⟩)) (λb u z=>?_) (λb z=>?_) (λ_=>hk) λq i=>?_
  .by_cases f:b=a
   .exact .inr (.inl ⟨_,_,Jw f⟩)
   .by_cases p:b∈tabs.map (·.2)
    .exact .inr (.inr ⟨p,(Jv f).trans (Jw p)⟩)
    .exact .inl ((Jv f).trans (Jv p))
  .by_cases f:b=a
   .have t:=(Jw f).symm.trans z;cases t;subst f;exact⟨G,by rw[bo];exact hl,vs,_,rv,G⟩
   .by_cases p:b∈tabs.map (·.2)
    .have t:=((Jv f).trans (Jw p)).symm.trans z;cases t;exact E b p
    .have t:=((Jv f).trans (Jv p)).symm.trans z;cases t
  .by_cases f:b=a
   .exact .inl f
   .by_cases p:b∈tabs.map (·.2)
    .exact .inr p
    .exact Jx ((Jv f).trans (Jv p)) z
  .have hm:q.2∈tabs.map (·.2):=eR.mpr ⟨q,i,U⟩;have a6:q.2≠a:=λz=>aT (z ▸ hm)
   exact(Jv a6).trans (Jw hm)
theorem walk_ofT{l:W.OpenLaw}{n k:Nat}{q:EX}{i:List Str}{XP:(Str->Option De)->FG->Prop}{O:D0->FG->Prop}{d:DefRec}{K:HB->W.Frag}{CX:D0->CXT}{sp:D0->Sp}{x:Str}{tabs:HB->List (E2×E2)}{xs:List Str}
  (hn:l.most=Jp n)(E:n<=FL)(J:d.params.defaults=[])(Z:bU k HC)
  (hY:∀(w:D0)(h:FG),O w h->(K w.params).In h)(D:∀p:HB,noTabs (K p)=Jr)
  (B:∀y∈xs,∃d',(recsOf q).find? (λe=>e.name == y)=Jp d')(R:∀p:HB,∀t∈tabs p,∃y∈xs,tabIn (K p) y=Jp t)
  (F:∀(w:D0)(mg:Str->Option De)(z:E2)(h:FG),(K w.params).In h->h.Ns Gg mg->mg d.name=Jp (.ref z) ->
   ∃fd:He,(∀(s:Gk)(u:De),Hf s fd ⟨[u],[]⟩ [(x,u)]) /\
    ∀base:FG,(K w.params).In base->base.Ns Gg mg->(∀q∈tabs w.params,CodeHd base q.1 q.2/\base.BuiltinsAt mg q.2)->aK l.prog w (K w.params) mg base (CX w) k z fd [x] (sp w))
  (C:∀(w:D0)(H:Hp)(a:E2)(r:List Int),r.length<=n->vM (tabs w.params) H->SqL (K w.params) H a (r.map V.int)->(∀q∈tabs w.params,H q.2=Jp (.tbl #[]))->sp w [.ref a] H (λv _=>v=.bl Jr) λ_ _ _=>False)
  (N:∀(w:D0)(H:Hp)(s:Gk)(e:De)(s':Gk),CX w [] H s (λ_ _ _=>False) e s'->False) :
  W.WalkO q i XP O l.row.toRowW d [] (λf vs=>PySem.call f vs):=by
 refine Att.attach_call hn J λw P m mg mb z o pm cd a1 a vs r G Y ho hd a0 I Q j c hg=>?_
 have A:=hY w _ Y;obtain⟨fd,hb,hF⟩:=F w mg z _ A G.T.g I;refine uA A G.T.g G.T.b G.T.builtins G.T.nolimit hg Q j (wX c E) Z (tabs:=tabs w.params) (λt X=>?_) (D w.params) G.T.bmain hF hb (λH hO hS M=>C w H a r c hO hS M) λH e s'=>N w H m e s'
 obtain⟨y,S,e⟩:=R w.params t X;obtain⟨d',L⟩:=B y S;exact tab_of G.T A L e
section
variable{mg:Str->Option De}
theorem Fun.okT{x qual:Str}{b:Gx}{f c:E2}{fd:He}{N ps:List Str}{k:Nat}{sp:Sp}(F:Fun K x qual b f fd)(d:fd.code=.ref c)(S:aq N ps (aj b))(len:∀vs H Q E,sp vs H Q E->vs.length=ps.length)
  (m:∀(A:Gj)(a:List Env)(s:Gk)(H:Hp)(vs:List V)(Q:VK)(E:XK),bU k (A.deeper (envOfC qual (aj b) s.heap.objs.size f (.ref c)))->sp vs H Q E ->
   ∃t,PSs (pQ CX0 P w K mg base N qual (aj b) f (.ref c) A a s H E).nox (dF b) t/\t { nx:=λ_ H'=>Q .non H',rt:=Q } (start N vs) H):aK P w K mg base CX0 (k+1) f fd ps sp:=by
 obtain⟨u,r,kV,o,p,y,i,v,n,rfl,j,g⟩:=F.ex;have d:i=.ref c:=d;subst d;refine yx j g S len λA a s H vs Q E l e=>?_
 obtain⟨t,h,q⟩:=m A a s H vs Q E l e;exact⟨t,h.nox,q⟩
def l8(H:Hp)(f c':E2)(b:Obj)(qual:Str)(cl:List (Str×E2))(ws:List (Str×V)):Prop:=H f=Jp (.frz b TTh)/\(∃a,H c'=Jp (.frz a TTh)/\qh a qual)/\fg H cl ws
theorem l8.same{H H':Hp}{f c':E2}{a:Obj}{qual:Str}{cl:List (Str×E2)}{ws:List (Str×V)}(h:l8 H f c' a qual cl ws)(s:ao H H'):l8 H' f c' a qual cl ws :=
 ⟨s _ _ h.1,let ⟨oc,e,q⟩:=h.2.1;⟨oc,s _ _ e,q⟩,h.2.2.same s⟩
theorem vP{zs:List (Str×Nat×E2)}{f:List Obj}{H:Hp}{σ:St}{cl:List (Str×E2)}{ws:List (Str×V)}(K:f.length=zs.length)(t:(zs.map (·.2.2)).Nodup)
  (y:∀(j:Nat)(z:Str×Nat×E2),zs[j]?=Jp z->∃o w,f[j]?=Jp o/\o.data=.cell w/\∀v,σ[z.2.1]?=Jp (Jp v)->∃u,w=Jp u/\RelV v u)
  (D:∀c∈cl.map (·.2),∃z∈zs,z.2.2=c)(C:∀(x:Str)(v:V),ws.lookup x=Jp v->∃z∈zs,cl.lookup x=Jp z.2.2/\σ[z.2.1]?=Jp (Jp v)):fg (jg H ((zs.map (·.2.2)).zip f)) cl ws:=by
 have h:∀z∈zs,∃o w,jg H ((zs.map (·.2.2)).zip f) z.2.2=Jp (.frz o TTh)/\o.data=.cell w/\∀v,σ[z.2.1]?=Jp (Jp v)->∃u,w=Jp u/\RelV v u:=λz g=>by
  obtain⟨j,p⟩:=jn g;obtain⟨o,w,m,l,I⟩:=y j z p;have q:((zs.map (·.2.2)).zip f).map (·.1)=zs.map (·.2.2):=uT (by rw[bo];lia);obtain⟨s,A,G⟩:=iB (H:=H) (fz:=(zs.map (·.2.2)).zip f) (b:=z.2.2) (by rw[q];exact eR.mpr ⟨z,g,U⟩);obtain⟨i,k⟩:=jn A;rw[qV]at k;have E:(zs.map (·.2.2))[j]?=Jp z.2.2:=by rw[eU,p];rfl
  obtain⟨M,J⟩:=Gb.mp k.1;obtain⟨L,b2⟩:=Gb.mp E;have n:i=j:=(uX t).mp (J.trans b2.symm);subst n;have F:o=s:=Option.some.inj (m.symm.trans k.2);subst F;exact⟨o,w,G,l,I⟩
 refine⟨λc B=>?_,λx v e=>?_⟩
 .obtain⟨z,g,rfl⟩:=D c B;obtain⟨o,w,a,b,_⟩:=h z g;exact⟨o,w,a,b⟩
 .obtain⟨z,g,m,l⟩:=C x v e;obtain⟨o,w,a,b,d⟩:=h z g;obtain⟨u,rfl,r⟩:=d v l;exact⟨z.2.2,o,u,m,a,b,r⟩
end
theorem zZ{a:Gm}{cl:List (Str×E2)}(h:(a.names.all λy=>match y.2 with | .free=>(cl.map (·.1)).any (y.1 == ·)|_=>Jr)=Jr):∀y∈a.names,y.2=.free->∃c,cl.lookup y.1=Jp c:=λy d e=>by
 have:=iv.mp h y d;rw[e]at this;obtain⟨z,b,g⟩:=tw.mp this;obtain⟨p,f,rfl⟩:=eR.mp b;cases q:cl.lookup y.1 with
 |some c=>exact⟨c,U⟩
 |none =>
  have:=List.lookup_eq_none_iff.mp q p f;simp[bne,g]at this
theorem xy{N:List Str}{a:Gm}{ws:List (Str×V)}(h:((ws.map (·.1)).all λx=>match a.names.lookup x with|some .free=>Jr|_=>Js)=Jr):∀y∈N,∀v,ws.lookup y=Jp v->a.names.lookup y=Jp .free:=λy _ v e=>by
 have:=iv.mp h y (eR.mpr ⟨(y,v),mem_of_lookup e,U⟩);split at this
 .assumption
 .cases this
theorem Aa{K:Frag}{x qual:Str}{b:Gx}{f c P:E2}{h kV doc pm n:De}{g o:Option E2}{d:Array (Option De)}{k:De}{j:Option E2}{vs:Array De}{i:Array (Option De)}(a:nsIn K Gg x=Jp (Jp (.ref f)))
  (l:K.lookup f=Jp ⟨h,g,.func (fnOf x qual (fZ b) (dF b) (aj b) .none kV doc pm o (.ref c) n),d⟩)(m:K.lookup c=Jp ⟨k,j,.fields vs,i⟩)(e:vs[11]?=Jp (.ref P)):tabIn K x=Jp (c,P):=by
 unfold tabIn;rw[a];simp only[l];show(match K.lookup c with|some ⟨_,_,.fields vs,_⟩=>(match (vs[11]?:Option De)with|some (.ref P)=>Jp (c,P)|_=>Jq)|_=>Jq)=Jp (c,P);rw[m];simp only[e]
section
variable{zs:List (Str×Nat×E2)}{os:List Obj}{H2:Hp}
theorem qi(a:os.length=zs.length):((zs.map (·.2.2)).zip os).map (·.1)=zs.map (·.2.2):=uT (by rw[bo];lia)
theorem qj(c:os.length=zs.length)(d:∀z∈zs,H z.2.2=Jq):ao H (jg H ((zs.map (·.2.2)).zip os)):=λb u e=>by
 rw[cz λm=>?_]
 .exact e
 .rw[qi c]at m;obtain⟨z,a,rfl⟩:=eR.mp m;rw[d z a]at e;cases e
theorem hide_same(d:os.length=zs.length)(a:∀z∈zs,H z.2.2=Jq)(s:ao (jg H ((zs.map (·.2.2)).zip os)) H2):ao H (hideL H2 (zs.map (·.2.2))):=λb u e=>by
 rw[bQ λm=>?_]
 .exact s _ _ (qj d a _ _ e)
 .obtain⟨z,c,rfl⟩:=eR.mp m;rw[a z c]at e;cases e
end
abbrev T3a(a:Type):=Int×Int×a
def Fm(L:Type):Nat->Type
 |0=>L
 |n+1=>List (Int×Int×Fm L n)
def Fm.dec{L:Type} [d:DecidableEq L]:(n:Nat)->DecidableEq (Fm L n)
 |0=>d
 |n+1=>have:=Fm.dec (L:=L) n;(inferInstance:DecidableEq (List (Int×Int×Fm L n)))
instance {L:Type} [DecidableEq L] (n:Nat):DecidableEq (Fm L n):=Fm.dec n
section
variable{α:Type}
def cH [DecidableEq α] (f:List (T3a α))(t:T3a α):List (T3a α):=match f.getLast? with
 |some l=>if l.2.2=t.2.2 then f.dropLast++[(l.1,t.2.1,t.2.2)]else f++[t]
 |none=>f++[t]
def gM [DecidableEq α] (ts:List (T3a α)):List (T3a α):=ts.foldl cH []
def Ch3:List (T3a α)->Int->Int->Prop
 | [],lo,hi=>lo=hi+1
 |t :: r,lo,hi=>t.1=lo/\lo<=t.2.1/\Ch3 r (t.2.1+1) hi
theorem Ch3.snoc{t:T3a α}:∀{f:List (T3a α)}{lo mid:Int},Ch3 f lo mid->t.1=mid+1->t.1<=t.2.1->Ch3 (f++[t]) lo t.2.1
 | [],lo,mid,h,e,l=>⟨by rw[e];exact h.symm,by have:lo=mid+1:=h;lia,U⟩
 |u :: f,lo,mid,h,e,l=>⟨h.1,h.2.1,Ch3.snoc (f:=f) h.2.2 e l⟩
theorem Ch3.unsnoc{t:T3a α}:∀{f:List (T3a α)}{lo hi:Int},Ch3 (f++[t]) lo hi->t.2.1=hi/\t.1<=t.2.1/\Ch3 f lo (t.1-1)
 | [],lo,hi,h=>⟨by have:t.2.1+1=hi+1:=h.2.2;lia,by have:=h.1;have:=h.2.1;lia,by show lo=t.1-1+1;have:=h.1;lia⟩
 |u :: f,lo,hi,h=>let ⟨a,b,c⟩:=Ch3.unsnoc (f:=f) h.2.2;⟨a,b,h.1,h.2.1,c⟩
def Nbx(ys:List α):Prop:=∀(i:Nat)(a b:α),ys[i]?=Jp a->ys[i+1]?=Jp b->a≠b
theorem Nbx.snoc{ys:List α}{y:α}(h:Nbx ys)(e:∀l,ys.getLast?=Jp l->l≠y):Nbx (ys++[y]):=λi a b d c=>by
 have hi:=(Gb.mp c).1;simp only[dq,hQ]at hi;by_cases g:i+1<ys.length
 .rw[eX (by lia)]at d;rw[eX g]at c;exact h i a b d c
 .have f:i+1=ys.length:=by lia
  rw[eX (by lia)]at d;rw[f]at c;simp at c;subst c;refine e a ?_;rw[List.getLast?_eq_getElem?];rw[show ys.length-1=i by lia];exact d
def vAt(f:List (T3a α))(c:Int):Option α:=(f.find? λt=>decide (c<=t.2.1)).map (·.2.2)
theorem iC(f g:List (T3a α))(c:Int):vAt (f++g) c=(vAt f c).or (vAt g c):=by
 unfold vAt;rw[List.find?_append];cases f.find? _ <;> rfl
theorem oU(t:T3a α)(c:Int):vAt [t] c=if c<=t.2.1 then Jp t.2.2 else none:=by
 unfold vAt;by_cases h:c<=t.2.1 <;> simp[h]
structure uC(ts f:List (T3a α))(lo hi:Int):Prop where
 ch:Ch3 f lo hi
 nb:Nbx (f.map (·.2.2))
 va:∀c,vAt f c=vAt ts c
 mem:∀t∈f,∃t'∈ts,t'.2.2=t.2.2
 ne:ts≠[]->f≠[]
theorem uC.step [DecidableEq α] {ts f:List (T3a α)}{lo mid:Int}{t:T3a α}(h:uC ts f lo mid)(e:t.1=mid+1)(l:t.1<=t.2.1):uC (ts++[t]) (cH f t) lo t.2.1:=by
 rcases mO f with j|⟨g,u,j⟩
 .subst j;have:cH [] t=[t]:=rfl;rw[this];refine⟨Ch3.snoc (f:=[]) h.ch e l,λi a b y p=>by simp at p,λc=>?_,λv d=>⟨t,by simp,by rw[iN.mp d]⟩,λ_=>by simp⟩;rw[iC,←h.va c];rfl
 .rw[mS]at j;subst j;have o:=h.ch.unsnoc;have s:(g++[u]).getLast?=Jp u:=by simp
  unfold cH;rw[s];simp only;by_cases q:u.2.2=t.2.2
  .rw[Jw q];have w:(g++[u]).dropLast=g:=by simp
   rw[w];have r:(g++[((u.1,t.2.1,t.2.2):T3a α)]).map (·.2.2)=(g++[u]).map (·.2.2):=by simp[q]
   refine⟨Ch3.snoc (t:=((u.1,t.2.1,t.2.2):T3a α)) o.2.2 (by show u.1=u.1-1+1;lia) (by show u.1<=t.2.1;lia),by rw[r];exact h.nb,λc=>?_,λv d=>?_,λ_=>by simp⟩
   .rw[iC ts,←h.va c,iC,iC,oU,oU,oU];show(vAt g c).or (if c<=t.2.1 then Jp t.2.2 else Jq)=((vAt g c).or (if c<=u.2.1 then Jp u.2.2 else Jq)).or (if c<=t.2.1 then Jp t.2.2 else Jq);cases vAt g c with
    |some x=>rfl
    |none =>
     by_cases n:c<=u.2.1
     .rw[Jw n,Jw (by lia),q];rfl
     .rw[Jv n];rfl
   .rcases iK.mp d with d|d
    .obtain⟨k,a,b⟩:=h.mem v (mu _ d);exact⟨k,mu _ a,b⟩
    .rw[iN.mp d];exact⟨t,by simp,U⟩
  .rw[Jv q];refine⟨h.ch.snoc e l,?_,λc=>?_,λv d=>?_,λ_=>by simp⟩
   .rw[fR];refine Nbx.snoc h.nb λz m=>?_
    rw[fR]at m;simp at m;rw[←m];exact q
   .rw[iC,iC ts,h.va c]
   .rcases iK.mp d with d|d
    .obtain⟨k,a,b⟩:=h.mem v d;exact⟨k,mu _ a,b⟩
    .rw[iN.mp d];exact⟨t,by simp,U⟩
theorem qk [DecidableEq α]:∀{r ts f:List (T3a α)}{lo mid hi:Int},uC ts f lo mid->Ch3 r (mid+1) hi->uC (ts++r) (r.foldl cH f) lo hi
 | [],ts,f,lo,mid,hi,h,c=>by
  have:mid=hi:=by have:mid+1=hi+1:=c;lia
  subst this;rw[jt];exact h
 |t :: r,ts,f,lo,mid,hi,h,c=>by
  have:=qk (r:=r) (h.step c.1 (by have:=c.1;have:=c.2.1;lia)) c.2.2;rw[uU]at this;exact this
theorem l9 [DecidableEq α] {ts:List (T3a α)}{lo hi:Int}(h:Ch3 ts lo hi):uC ts (gM ts) lo hi :=
 qk (ts:=[]) (f:=[]) (mid:=lo-1) ⟨by show lo=lo-1+1;lia,λi a b e d=>by simp at d,λ_=>U,λt c=>by simp at c,λz=>Jx U z⟩ (by rw[show lo-1+1=lo by lia];exact h)
theorem Ch3.at:∀{f:List (T3a α)}{lo hi c:Int},Ch3 f lo hi->lo<=c->c<=hi->∃(j:Nat)(t:T3a α),f[j]?=Jp t/\t.1<=c/\c<=t.2.1/\(∀(i:Nat)(u:T3a α),i<j->f[i]?=Jp u->u.2.1<c)/\vAt f c=Jp t.2.2
 | [],lo,hi,c,h,h1,h2=>by have:lo=hi+1:=h;lia
 |t :: r,lo,hi,c,h,h1,h2=>by
  by_cases q:c<=t.2.1
  .exact⟨0,t,U,by have:=h.1;lia,q,λi u hi=>Jx hi (yp i),by unfold vAt;rw[ri (by simpa using q)];rfl⟩
  .obtain⟨j,u,a,b,d,e,v⟩:=Ch3.at (f:=r) h.2.2 (c:=c) (by lia) h2;refine⟨j+1,u,by simpa using a,b,d,λi w hi g=>?_,by unfold vAt at v⊢;rw[ro (by simpa using q)];exact v⟩
   match i,g with
   |0,g=>cases g;lia
   |i+1,g=>exact e i w (by lia) (by simpa using g)
end
def lay{L:Type} [DecidableEq L] (g:List Int->L):(cols:List (List (Int×Int)))->List Int->Fm L cols.length
 | [],ah=>g ah
 |c :: cs,ah=>gM (c.map λp=>((p.1,p.2,lay g cs (ah++[p.1])):T3a (Fm L cs.length)))
def ShS{a:Type}(S:a->List (Int×Int)->Prop)(f:List (T3a a))(ps:List (Int×Int)):Prop:=∃p r,ps=p :: r/\f≠[]/\Ch3 f p.1 p.2/\Nbx (f.map (·.2.2))/\∀t∈f,S t.2.2 r
def xA{L:Type}:(n:Nat)->Fm L n->List (Int×Int)->Prop
 |0,_,ps=>ps=[]
 |n+1,f,ps=>ShS (xA n) f ps
def xB:List (Int×Int)->Int->Int->Prop
 | [],lo,hi=>lo=hi+1
 |p :: r,lo,hi=>p.1=lo/\lo<=p.2/\xB r (p.2+1) hi
theorem xC{a:Type}(F:Int×Int->a):∀{c:List (Int×Int)}{lo hi:Int},xB c lo hi->Ch3 (c.map λp=>((p.1,p.2,F p):T3a a)) lo hi
 | [],lo,hi,h=>h
 |p :: r,lo,hi,h=>⟨h.1,h.2.1,xC F h.2.2⟩
inductive jV:List (List (Int×Int))->List (Int×Int)->Prop
 |nil:jV [] []
 |cons {c:List (Int×Int)}{cs:List (List (Int×Int))}{p:Int×Int}{ps:List (Int×Int)}:c≠[]->xB c p.1 p.2->jV cs ps->jV (c :: cs) (p :: ps)
theorem vQ{L:Type} [DecidableEq L] {g:List Int->L}{a:List (List (Int×Int))}{ps:List (Int×Int)}(h:jV a ps):∀b:List Int,xA a.length (lay g a b) ps:=by
 induction h with
 |nil=>intro b;exact(rfl:([]:List (Int×Int))=[])
 | @cons c cs p ps hne hc _ ih =>
  intro b;have k:=l9 (xC (λq=>lay g cs (b++[q.1])) hc);refine⟨p,ps,U,k.ne (by simpa using hne),k.ch,k.nb,λt d=>?_⟩;obtain⟨i,f,e⟩:=k.mem t d;obtain⟨q,_,rfl⟩:=eR.mp f;rw[←e];exact ih _
def cj(a:List (Int×Int))(c:Int):Int:=((a.find? λp=>decide (c<=p.2)).map (·.1)).getD 0
theorem sY{b:Type}(F:Int×Int->b)(c:Int):∀a:List (Int×Int),vAt (a.map λp=>((p.1,p.2,F p):T3a b)) c=(a.find? λp=>decide (c<=p.2)).map F
 | []=>rfl
 |p :: r=>by
  unfold vAt;rw[mH];by_cases q:c<=p.2
  .rw[ri (by simpa using q),ri (by simpa using q)];rfl
  .rw[ro (by simpa using q),ro (by simpa using q)];exact sY F c r
inductive Tel{L:Type}:(n:Nat)->Fm L n->List Int->L->Prop
 |nil (x:L):Tel 0 x [] x
 |cons {n:Nat}{f:List (T3a (Fm L n))}{c:Int}{cs:List Int}{x:L}{j:Nat}{t:T3a (Fm L n)}:f[j]?=Jp t->c<=t.2.1->(∀(i:Nat)(u:T3a (Fm L n)),i<j->f[i]?=Jp u->u.2.1<c)->Tel n t.2.2 cs x->Tel (n+1) f (c :: cs) x
inductive InB:List Int->List (Int×Int)->Prop
 |nil:InB [] []
 |cons {c:Int}{cs:List Int}{p:Int×Int}{ps:List (Int×Int)}:p.1<=c->c<=p.2->InB cs ps->InB (c :: cs) (p :: ps)
theorem sZ{L:Type} [DecidableEq L] {g:List Int->L}{a:List (List (Int×Int))}{ps:List (Int×Int)}(h:jV a ps):∀(d b:List Int),InB b ps->Tel a.length (lay g a d) b (g (d++List.zipWith cj a b)):=by
 induction h with
 |nil=>intro d b e;cases e;rw[List.zipWith_nil_left,jt];exact .nil _
 | @cons c a p ps hne hc _ ih =>
  intro d b e;cases e with
  | @cons x b _ _ h1 h2 e =>
   have k:=l9 (xC (λq=>lay g a (d++[q.1])) hc);obtain⟨j,t,o,r,n,m,f⟩:=k.ch.at h1 h2;rw[k.va,sY]at f;cases e6:c.find? (λp=>decide (x<=p.2)) with
   |none=>rw[e6]at f;cases f
   |some q =>
    rw[e6]at f;have l:lay g a (d++[q.1])=t.2.2:=Option.some.inj f;have i:cj c x=q.1:=by unfold cj;rw[e6];rfl
    refine .cons o n m ?_;rw[←l,List.zipWith_cons_cons,i];have:=ih (d++[q.1]) b e;rw[uU]at this;exact this
def FmL{a:Type}(R:a->V->Prop)(H:Hp)(f:List (T3a a))(xs:List V):Prop:=xs.length=f.length/\∀(i:Nat)(t:T3a a),f[i]?=Jp t->∃(r:E2)(u:V),xs[i]?=Jp (.ref r)/\H r=Jp (.tup [.int t.1,.int t.2.1,u])/\R t.2.2 u
def rFm(K:W.Frag):R2:=λx y H Q=>rEq x y H Q\/sV K Js x y H Q
def Dh(K:W.Frag):R2:=λx y H Q=>rNe x y H Q\/sV K Jr x y H Q
structure Lfp(L:Type) [DecidableEq L] where
 R:Hp->L->V->Prop
 mono:∀{H H':Hp}{x:L}{v:V},cy H H'->R H x v->R H' x v
 inj:∀{H:Hp}{x y:L}{v:V},R H x v->R H y v->x=y
 deq:∀(K:W.Frag){H:Hp}{x y:L}{u v:V},R H x u->R H y v->DEq K H 2 u v (Jt (x=y))
 eq:∀(K:W.Frag){H:Hp}{x y:L}{u v:V}{Q:VK},R H x u->R H y v->Q (.bl (Jt (x=y))) H->rFm K u v H Q
 ne:∀(K:W.Frag){H:Hp}{x y:L}{u v:V}{Q:VK},R H x u->R H y v->Q (.bl (!Jt (x=y))) H->Dh K u v H Q
def FmV{L:Type} [DecidableEq L] (A:Lfp L)(H:Hp):(n:Nat)->Fm L n->V->Prop
 |0,x,v=>A.R H x v
 |n+1,f,v=>∃(a:E2)(xs:List V),v=.ref a/\H a=Jp (.tup xs)/\FmL (FmV A H n) H f xs
theorem FmL.mono{d:Type}{R g:d->V->Prop}{H H':Hp}{f:List (T3a d)}{xs:List V}(h:FmL R H f xs)(k:∀x u,R x u->g x u)(s:cy H H'):FmL g H' f xs:=⟨h.1,λi t e=>by
 obtain⟨r,u,a,b,c⟩:=h.2 i t e;exact⟨r,u,a,s _ _ b,k _ _ c⟩⟩
theorem FmV.mono{L:Type} [DecidableEq L] {A:Lfp L}{H H':Hp}(s:cy H H'):∀{n:Nat}{f:Fm L n}{v:V},FmV A H n f v->FmV A H' n f v
 |0,_,_,h=>A.mono s h
 |n+1,_,_,h=>by
  obtain⟨a,xs,d,c,b⟩:=h;exact⟨a,xs,d,s _ _ c,b.mono (λ_ _ q=>FmV.mono s q) s⟩
theorem FmL.nil{a:Type}{R:a->V->Prop}{H:Hp}:FmL R H [] []:=⟨U,λi t e=>by simp at e⟩
theorem FmL.snoc{d:Type}{R:d->V->Prop}{H:Hp}{f:List (T3a d)}{xs:List V}{t:T3a d}{r:E2}{u:V}(h:FmL R H f xs)(l:H r=Jp (.tup [.int t.1,.int t.2.1,u]))(q:R t.2.2 u):FmL R H (f++[t]) (xs++[.ref r]):=by
 refine⟨by simp[h.1],λi v e=>?_⟩;by_cases hi:i<f.length
 .rw[eX hi]at e;obtain⟨k,j,a,b,c⟩:=h.2 i v e;exact⟨k,j,by rw[eX (by rw[h.1];exact hi)];exact a,b,c⟩
 .have g:i=f.length:=by
   have:=(Gb.mp e).1;simp at this;lia
  subst g;simp at e;subst e;exact⟨r,u,by rw[←h.1];simp,l,q⟩
theorem FmL.init{g:Type}{R:g->V->Prop}{H:Hp}{f:List (T3a g)}{xs:List V}{t:T3a g}(h:FmL R H (f++[t]) xs):∃(ys:List V)(r:E2)(u:V),xs=ys++[.ref r]/\FmL R H f ys/\H r=Jp (.tup [.int t.1,.int t.2.1,u])/\R t.2.2 u:=by
 obtain⟨r,u,a,b,c⟩:=h.2 f.length t (by simp);have j:=h.1;rw[dq,hQ]at j;rcases mO xs with d|⟨ys,y,d⟩
 .subst d;simp at j
 .rw[mS]at d;subst d;have k:ys.length=f.length:=by simpa using j
  rw[←k]at a;simp at a;subst a;refine⟨ys,r,u,U,⟨k,λi v e=>?_⟩,b,c⟩;have hi:=(Gb.mp e).1;obtain⟨n,m,l,p,o⟩:=h.2 i v (by rw[eX hi];exact e);rw[eX (by lia)]at l;exact⟨n,m,l,p,o⟩
theorem FmL.inj{m:Type}{R:m->V->Prop}{H:Hp}{f g:List (T3a m)}{xs:List V}(k:∀x y u,R x u->R y u->x=y)(h:FmL R H f xs)(h':FmL R H g xs):f=g:=by
 refine rr λi=>?_
 cases e:f[i]? with
 |none =>
  have:f.length<=i:=List.getElem?_eq_none_iff.mp e;rw[List.getElem?_eq_none_iff.mpr (by rw[←h'.1,h.1];exact this)]
 |some t =>
  have hi:=(Gb.mp e).1;obtain⟨j,n⟩:∃j,g[i]?=Jp j:=⟨_,Ga (l:=g) (i:=i) (by rw[←h'.1,h.1];exact hi)⟩;obtain⟨r,u,a,b,c⟩:=h.2 i t e;obtain⟨B,v,p,d,o⟩:=h'.2 i _ n;rw[a]at p;cases p;rw[b]at d;obtain⟨A,z,w⟩:=t;obtain⟨E,D,C⟩:=j;simp only at d c o;injection d with d;injection d with d;simp only[List.cons.injEq,V.int.injEq,and_true]at d;obtain⟨s,q,rfl⟩:=d;rw[n,s,q,k _ _ _ c o]
theorem FmV.inj{L:Type} [DecidableEq L] {A:Lfp L}{H:Hp}:∀{n:Nat}{f g:Fm L n}{v:V},FmV A H n f v->FmV A H n g v->f=g
 |0,_,_,_,h,h'=>A.inj h h'
 |n+1,_,_,_,h,h'=>by
  obtain⟨a,xs,k,j,i⟩:=h;obtain⟨m,l,c,b,d⟩:=h';rw[k]at c;cases c;rw[j]at b;cases b;exact FmL.inj (R:=FmV A H n) (λx y u q e=>FmV.inj q e) i d
theorem FmL.deq{D:Type} [DecidableEq D] {R:D->V->Prop}{K:W.Frag}{H:Hp}{m:Nat}{f g:List (T3a D)}{xs ys:List V}(inj:∀x y u,R x u->R y u->x=y)(k:∀x y u v,R x u->R y v->DEq K H m u v (Jt (x=y)))
  (h:FmL R H f xs)(h':FmL R H g ys):(∀(j:Nat)(x y:V),xs[j]?=Jp x->ys[j]?=Jp y->DEq K H (m+1) x y (Jt (f[j]?=g[j]?)))/\((List.range (min xs.length ys.length)).all (λj=>decide (f[j]?=g[j]?)) && xs.length == ys.length)=Jt (f=g):=by
 refine⟨λj x y l o=>?_,?_⟩
 .have Q:j<f.length:=by rw[←h.1];exact(Gb.mp l).1
  have F:j<g.length:=by rw[←h'.1];exact(Gb.mp o).1
  have L:=Ga Q;have J:=Ga F;obtain⟨r,u,a,b,c⟩:=h.2 j _ L;obtain⟨O,G,M,p,E⟩:=h'.2 j _ J;rw[l]at a;cases a;rw[o]at M;cases M;rw[L,J];generalize f[j]=t at *
  generalize g[j]=t' at *
  obtain⟨w,s,B⟩:=t;obtain⟨A,z,C⟩:=t';simp only at b p c E;by_cases I:r=O
  .subst I;rw[b]at p;injection p with p;injection p with p;simp only[List.cons.injEq,V.int.injEq,and_true]at p;obtain⟨z1,N,rfl⟩:=p;have:decide (Jp (w,s,B)=Jp (A,z,C))=true:=by rw[z1,N,inj _ _ _ c E];simp
   rw[this];exact .same r
  .have d:=DEq.tup (K:=K) (H:=H) (n:=m) (f:=λi=>match i with|0=>decide (w=A)|1=>decide (s=z)|_=>decide (B=C)) I (SqT.of b) (SqT.of p) λi x y l o=>?_
   .have e:((List.range (min [V.int w,V.int s,u].length [V.int A,V.int z,G].length)).all (λi=>match i with|0=>decide (w=A)|1=>decide (s=z)|_=>decide (B=C)) && [V.int w,V.int s,u].length == [V.int A,V.int z,G].length)=Jt (Jp (w,s,B)=Jp (A,z,C)):=by
     show((List.range 3).all (λi=>match i with|0=>decide (w=A)|1=>decide (s=z)|_=>decide (B=C)) && Jr)=_;have:List.range 3=[0,1,2]:=rfl;rw[this];simp only[oT,List.all_nil,Bool.and_true,Option.some.injEq,Prod.mk.injEq,Bool.decide_and]
    rw[e]at d;exact d
   .match i,l,o with
    |0,l,o=>cases l;cases o;exact .flat U U
    |1,l,o=>cases l;cases o;exact .flat U U
    |2,l,o=>cases l;cases o;exact k _ _ _ _ c E
    |i+3,l,_=>simp at l
 .rw[h.1,h'.1];by_cases e:f=g
  .subst e;simp
  .rw[Jz e];by_cases P:f.length=g.length
   .rw[Bool.and_eq_false_iff];left
    refine Bp.mpr λq=>e (rr λi=>?_)
    rw[iv]at q;by_cases hi:i<f.length
    .exact JA (q i (hV.mpr (by lia)))
    .rw[List.getElem?_eq_none_iff.mpr (by lia),List.getElem?_eq_none_iff.mpr (by lia)]
   .simp[P]
theorem FmV.deq{L:Type} [DecidableEq L] {A:Lfp L}{K:W.Frag}{H:Hp}:∀{n:Nat}{f g:Fm L n}{u v:V},FmV A H n f u->FmV A H n g v->DEq K H (2*n+2) u v (Jt (f=g))
 |0,f,g,_,_,h,h'=>A.deq K h h'
 |n+1,f,g,_,_,h,h'=>by
  obtain⟨a,xs,rfl,k,j⟩:=h;obtain⟨b,p,rfl,c,i⟩:=h';obtain⟨o,l⟩:=FmL.deq (R:=FmV A H n) (K:=K) (m:=2*n+2) (λx y u q d=>FmV.inj q d) (λx y u v q d=>FmV.deq q d) j i;by_cases e:a=b
  .subst e;rw[k]at c;cases c;have:f=g:=FmL.inj (R:=FmV A H n) (λx y u q d=>FmV.inj q d) j i;rw[Jy this];exact .same a
  .have:=DEq.tup e (SqT.of k) (SqT.of c) o;rw[l]at this;exact this
theorem uD{f:De->De->Sem De}{r e:R2}(a:OpR X f r)(b:OpR X f e):OpR X f (λx y H Q=>r x y H Q\/e x y H Q):=λJu s σ H x y v u Q I d c h=>h.elim (a Ju s σ H x y v u Q I d c) (b Ju s σ H x y v u Q I d c)
theorem Ab{k:Nat}(a:bU k X.A):OpR X (G3 .Eq) (rFm X.K):=uD cc (xr a)
theorem FmV.eq_to{L:Type} [DecidableEq L] {A:Lfp L}{K:W.Frag}{H:Hp}{Q:VK}:∀{n:Nat}{f g:Fm L n}{u v:V},n<=20->FmV A H n f u->FmV A H n g v->Q (.bl (Jt (f=g))) H->rFm K u v H Q
 |0,f,g,_,_,_,h,h',q=>A.eq K h h' q
 |n+1,f,g,_,_,hn,h,h',q=>by
  obtain⟨a,xs,rfl,l,k⟩:=h;obtain⟨b,i,rfl,e,d⟩:=h';obtain⟨s,r⟩:=FmL.deq (R:=FmV A H n) (K:=K) (m:=2*n+2) (λx y u q c=>FmV.inj q c) (λx y u v q c=>FmV.deq q c) k d;refine .inr ⟨a,b,xs,i,U,U,SqT.of l,SqT.of e,_,λj x y p o=>(s j x y p o).mono (by lia),?_⟩;rw[Jv (by decide),r];exact q
theorem vR(x y:Int):decide (V.int x=V.int y)=Jt (x=y):=by
 by_cases e:x=y
 .rw[Jy e,e];simp
 .rw[Jz e];exact Jz λz=>e (V.int.inj z)
theorem Ac(x y:Int):eqV (.int x) (.int y)=Jt (x=y):=by
 show((x:Int) == (y:Int))=Jt (x=y);by_cases e:x=y
 .rw[Jy e,e];simp
 .rw[Jz e];exact beq_eq_false_iff_ne.mpr e
def vS:Lfp Int where
 R _ x v:=v=.int x
 mono _ h:=h
 inj h h':=V.int.inj (h.symm.trans h')
 deq K {H x y u v} h h':=by
  cases h;cases h';rw[←Ac];exact .flat U U
 eq K {H x y u v Q} h h' q:=by
  cases h;cases h';refine .inl ⟨U,?_⟩;rw[vR];exact q
 ne K {H x y u v Q} h h' q:=by
  cases h;cases h';refine .inl ⟨U,?_⟩;rw[vR];exact q
theorem n9(p:Pos)(a b:Int)(c:De):∀(l:List De),TriplesOk l->Jm p (l++[GU a,GU b,c])=(Jm p l).or (Jm p [GU a,GU b,c])
 | [],_=>rfl
 | .int x t :: .int y u :: d :: rest,h=>by
  have e:=n9 p a b c rest h;show Jm p (.int x t :: .int y u :: d :: (rest++[GU a,GU b,c]))=_;rw[Jm,Jm];split
  .rfl
  .exact e
def gC(H:Hp)(P:E2)(L:List (Pos×Str)):Prop:=∃ps,H P=Jp (.tbl ps)/\TriplesOk ps.toList/\∀p∈L,Jm p.1 ps.toList=Jq\/∃(b:E2)(a:Obj),Jm p.1 ps.toList=Jp (.ref b)/\H b=Jp (.frz a TTh)/\qh a p.2
theorem gC.same{H H':Hp}{P:E2}{L:List (Pos×Str)}(h:gC H P L)(s:ao H H'):gC H' P L:=by
 obtain⟨ps,i,g,f⟩:=h;exact⟨ps,s _ _ i,g,λp e=>(f p e).imp id λ⟨c,o,a,b,d⟩=>⟨c,o,a,s _ _ b,d⟩⟩
theorem gC.new{H:Hp}{P:E2}{L:List (Pos×Str)}(h:H P=Jp (.tbl #[])):gC H P L:=⟨#[],h,trivial,λ_ _=>.inl U⟩
def Di(P:E2)(pos:Pos)(qual:Str)(mk:De->E2->De->Obj)(clos:List (Str×E2)):TE:=λ_ H Q=>∃L,(pos,qual)∈L/\(∀p∈L,p.1.line=pos.line->p.1.col=pos.col->p.2=qual)/\gC H P L /\
 ∀(f e:E2)(d:Obj)(g c:De)(H':Hp),H f=Jq->(∀b o,b≠P->H b=Jp o->H' b=Jp o)->H' f=Jp (.frz (mk g e c) TTh)->H' e=Jp (.frz d TTh)->qh d qual->gC H' P L->(∀x y a,clos.lookup x=Jp a->clos.lookup y=Jp a->x=y)->Q (.ref f) H'
theorem Ad{params:Hn}{body:Gs}{scope:Gm}{pos:Pos}{c P:E2}{clos:List (Str×E2)}(yJ:X.env.code=.ref c)
  (C:W.CodeHd X.base c P)(hb:X.base.BuiltinsAt X.mg P)(V:HE scope X.env=pure clos)(S:∀p∈clos,X.env.cells.lookup p.1=Jp p.2)(BD:defaultsOf params X.env=([],[]):=by rfl) :
  PE X (.Lambda params body scope pos) (Di P pos (X.env.qual ++ "<lambda>") (λpm c' ctv=>W.kla_obj "<lambda>" (X.env.qual ++ "<lambda>") params body scope clos pm c' ctv) clos):=by
 intro Ju s σ H Q I h;obtain⟨L,hL,b0,⟨ps,r,N,G⟩,k⟩:=h;have B:s.heap.get? P=Jp (W.tabObj ps):=I.hok P _ r;have J:s.heap.Ns Gg X.mg:=I.mod.glob.keeps I.bk;have a8:Gg≠P:=λq=>by
  obtain⟨o,es,ep,e,M,_⟩:=J;rw[q,B]at e;cases e;cases M
 have inj:∀x y a,clos.lookup x=Jp a->clos.lookup y=Jp a->x=y:=λx y a E h2=>I.ok.inj x y a (S _ (mem_of_lookup E)) (S _ (mem_of_lookup h2))
 rcases G _ hL with a7|⟨c',j,hf,K,A⟩
 .refine W.kla_eval BD (W.kla_makeFunction V I.ok.glob J yJ (C.keeps I.bk) B N a7 a8 (hb.keeps I.bk) λc' ctv h' tk a5 l R Dj O=>?_);obtain⟨b1,j,vs,t,e2,a6,a9,hv⟩:=Dj;cases e2;have T:∀b,s.heap.objs.size<=b->H b=none:=λb f=>I.hok.fresh f
  have Y:P<s.heap.objs.size:=FG.lt_size B;have a4:c'≠P:=λz=>by rw[z]at l;exact Jx Y (zb.mpr l)
  have g:s.heap.objs.size<=h'.objs.size:=wX l (x3 R);have a3:h'.objs.size≠P:=λz=>by rw[z]at g;exact Jx Y (zb.mpr g)
  have a2:h'.objs.size≠c':=w5 R;have m:=T _ g;have K:=T _ l;have i:∀{b:E2}{u:HO},b≠P->H b=Jp u->upd (upd (upd H P (.tbl (ps ++ #[GU pos.line,GU pos.col,.ref c']))) c' (.frz j TTh)) h'.objs.size (.frz (W.kla_obj "<lambda>" (X.env.qual ++ "<lambda>") params body scope clos ((X.mg "__name__").getD .none) c' ctv) TTh) b=Jp u:=λ{b u} f e=>by
   rw[aw (aU e m),aw (aU e K),aw f];exact e
  have a0:upd (upd (upd H P (.tbl (ps ++ #[GU pos.line,GU pos.col,.ref c']))) c' (.frz j TTh)) h'.objs.size (.frz (W.kla_obj "<lambda>" (X.env.qual ++ "<lambda>") params body scope clos ((X.mg "__name__").getD .none) c' ctv) TTh) P=Jp (.tbl (ps ++ #[GU pos.line,GU pos.col,.ref c'])):=by
   rw[aw a3.symm,aw a4.symm,ab]
  have F:∀{b:E2},H b=Jq->b≠P:=λe z=>by rw[z,r]at e;cases e
  have keep:∀b o,b≠P->s.heap.get? b=Jp o->(h'.push (W.kla_obj "<lambda>" (X.env.qual ++ "<lambda>") params body scope clos ((X.mg "__name__").getD .none) c' ctv)).get? b=Jp o:=λb o f e=>FG.get?_push_of_some _ (a5 b o f e)
  have un:Un X.fs [] H (upd (upd (upd H P (.tbl (ps ++ #[GU pos.line,GU pos.col,.ref c']))) c' (.frz j TTh)) h'.objs.size (.frz (W.kla_obj "<lambda>" (X.env.qual ++ "<lambda>") params body scope clos ((X.mg "__name__").getD .none) c' ctv) TTh)) s.heap (h'.push (W.kla_obj "<lambda>" (X.env.qual ++ "<lambda>") params body scope clos ((X.mg "__name__").getD .none) c' ctv)):=by
   refine⟨λb o e n _ _=>keep b o (F n) e,λb o e n _ _=>⟨o.slots,keep b o (F n) e⟩,λb o e n _=>?_,λb o e _=>?_,λb xs e=>i (λz=>by rw[z,r]at e;cases e) e,λb o u e=>i (λz=>by rw[z,r]at e;cases e) e,λb a1 e=>?_⟩
   .have f:=FG.lt_size e;rw[aw (wO (wW f g)),aw (wO (wW f l)),aw (F n)];exact n
   .by_cases f:b=P
    .subst f;exact⟨_,FG.get?_push_of_some _ O⟩
    .exact⟨o,keep b o f e⟩
   .by_cases f:b=P
    .subst f;rw[r]at e;cases e;exact⟨_,a0⟩
    .exact⟨#[],by rw[i f e];simp⟩
  have hok:HOk X.prog X.w (upd (upd (upd H P (.tbl (ps ++ #[GU pos.line,GU pos.col,.ref c']))) c' (.frz j TTh)) h'.objs.size (.frz (W.kla_obj "<lambda>" (X.env.qual ++ "<lambda>") params body scope clos ((X.mg "__name__").getD .none) c' ctv) TTh)) (h'.push (W.kla_obj "<lambda>" (X.env.qual ++ "<lambda>") params body scope clos ((X.mg "__name__").getD .none) c' ctv)):=λb u e=>by
   by_cases E:b=h'.objs.size
   .subst E;rw[ab]at e;cases e;exact qg (FG.get?_push_size _ U)
   rw[aw E]at e;by_cases h2:b=c'
   .subst h2;rw[ab]at e;cases e;exact qg (FG.get?_push_of_some _ a6)
   rw[aw h2]at e;by_cases h3:b=P
   .subst h3;rw[ab]at e;cases e;exact FG.get?_push_of_some _ O
   rw[aw h3]at e;refine(I.hok b u e).stay (λd v M q=>keep d v ?_ q) (λd q=>i (λz=>by rw[z,r]at q;cases q) q) λd xs q=>i (λz=>by rw[z,r]at q;cases q) q
   rcases M with rfl|M
   .exact h3
   .exact λz=>by rw[z,r]at M;cases M
  have I2:=I.un (t':=tk) un hok;have A:qh j (X.env.qual ++ "<lambda>"):=⟨vs,t,a9,hv⟩;have Z:upd (upd (upd H P (.tbl (ps ++ #[GU pos.line,GU pos.col,.ref c']))) c' (.frz j TTh)) h'.objs.size (.frz (W.kla_obj "<lambda>" (X.env.qual ++ "<lambda>") params body scope clos ((X.mg "__name__").getD .none) c' ctv) TTh) c'=Jp (.frz j TTh):=(aw a2.symm).trans ab;refine⟨.ref h'.objs.size,_,I2,U,k _ c' j _ ctv _ m (λb o f e=>i f e) ab Z A ⟨_,a0,?_,λp hp=>?_⟩ inj⟩
  .rw[Array.toList_append];exact TriplesOk_snoc _ _ _ _ N
  .rw[Array.toList_append];show Jm p.1 (ps.toList++[GU pos.line,GU pos.col,.ref c'])=Jq\/∃(d:E2)(j:Obj),Jm p.1 (ps.toList++[GU pos.line,GU pos.col,.ref c'])=Jp (.ref d)/\_;rw[n9 _ _ _ _ _ N];rcases G p hp with q|⟨d,od,q1,q2,q3⟩
   .rw[q];show Jm p.1 [GU pos.line,GU pos.col,.ref c']=Jq\/∃(d:E2)(j:Obj),Jm p.1 [GU pos.line,GU pos.col,.ref c']=Jp (.ref d)/\_;by_cases e:p.1.line=pos.line/\p.1.col=pos.col
    .have e3:Jm p.1 [GU pos.line,GU pos.col,.ref c']=Jp (.ref c'):=by
      show(if ((pos.line:Int) == (p.1.line:Int) && (pos.col:Int) == (p.1.col:Int))=Jr then Jp (De.ref c')else Jq)=_;rw[e.1,e.2];simp
     exact .inr ⟨c',j,e3,Z,by rw[b0 p hp e.1 e.2];exact A⟩
    .left
     show(if ((pos.line:Int) == (p.1.line:Int) && (pos.col:Int) == (p.1.col:Int))=Jr then Jp (De.ref c')else Jq)=Jq;rw[Jv λz=>e ?_];rw[A2,beq_iff_eq,beq_iff_eq]at z;lia
   .exact .inr ⟨d,od,by rw[q1];rfl,i (λz=>by rw[z,r]at q2;cases q2) q2,q3⟩
 .refine W.kla_eval BD (W.kla_makeFunctionHit V I.ok.glob J yJ (C.keeps I.bk) B N hf (hb.keeps I.bk) λctv h' tk kp g=>?_);have m:H h'.objs.size=none:=I.hok.fresh g;have D:ao H (upd H h'.objs.size (.frz (W.kla_obj "<lambda>" (X.env.qual ++ "<lambda>") params body scope clos ((X.mg "__name__").getD .none) c' ctv) TTh)):=ag m _;have keep:∀b o,s.heap.get? b=Jp o->(h'.push (W.kla_obj "<lambda>" (X.env.qual ++ "<lambda>") params body scope clos ((X.mg "__name__").getD .none) c' ctv)).get? b=Jp o:=λb o e=>FG.get?_push_of_some _ (kp b o e)
  have un:Un X.fs [] H (upd H h'.objs.size (.frz (W.kla_obj "<lambda>" (X.env.qual ++ "<lambda>") params body scope clos ((X.mg "__name__").getD .none) c' ctv) TTh)) s.heap (h'.push (W.kla_obj "<lambda>" (X.env.qual ++ "<lambda>") params body scope clos ((X.mg "__name__").getD .none) c' ctv)):=by
   refine⟨λb o e n _ _=>keep b o e,λb o e n _ _=>⟨o.slots,keep b o e⟩,λb o e n _=>?_,λb o e _=>⟨o,keep b o e⟩,λb xs e=>D _ _ e,λb o u e=>D _ _ e,λb a1 e=>⟨#[],by rw[D _ _ e];simp⟩⟩;have f:=FG.lt_size e;rw[aw (wO (wW f g))];exact n
  have hok:HOk X.prog X.w (upd H h'.objs.size (.frz (W.kla_obj "<lambda>" (X.env.qual ++ "<lambda>") params body scope clos ((X.mg "__name__").getD .none) c' ctv) TTh)) (h'.push (W.kla_obj "<lambda>" (X.env.qual ++ "<lambda>") params body scope clos ((X.mg "__name__").getD .none) c' ctv)):=λb u e=>by
   by_cases E:b=h'.objs.size
   .subst E;rw[ab]at e;cases e;exact qg (FG.get?_push_size _ U)
   rw[aw E]at e;exact(I.hok b u e).stay (λd v _ q=>keep d v q) (λd q=>D _ _ q) λd xs q=>D _ _ q
  have I2:=I.un (t':=tk) un hok;exact⟨.ref h'.objs.size,_,I2,U,k _ c' j _ ctv _ m (λb o _ e=>D _ _ e) ab (D _ _ K) A (gC.same ⟨ps,r,N,G⟩ D) inj⟩
theorem Ae{CX:CXT}{P:EX}{w:D0}{K:W.Frag}{mg:Str->Option De}{base:FG}{k:Nat}{f c':E2}{name qual:Str}{params:Hn}{body:Gs}{scope:Gm}{cl:List (Str×E2)}{pm ctv:De}{N ps:List Str}{sp:Sp}
  (S:rV N ps scope cl)(inj:∀x y c,cl.lookup x=Jp c->cl.lookup y=Jp c->x=y)
  (len:∀vs H Q E,sp vs H Q E->vs.length=ps.length)
  (gH:∀(A:Gj)(g:List Env)(s:Gk)(H:Hp)(vs:List V)(Q:VK)(E:XK),bU k (A.deeper (W.envX qual scope s.heap.objs.size f (.ref c') cl))->sp vs H Q E ->
   (∃M,H f=Jp (.frz (W.kla_obj name qual params body scope cl pm c' ctv) TTh)/\H c'=Jp (.frz M TTh)/\qh M qual)/\∃ws,fg H cl ws/\(∀x∈N.drop ps.length,∀v,ws.lookup x=Jp v->scope.names.lookup x=Jp .free) /\
   ((∀c∈cl.map (·.2),base.get? c=Jq/\c ∉ frs g)->∃t:TE,PE (cxC CX P w K mg base N qual scope f (.ref c') cl A g s H E) body t/\t (kr N ps vs ws) (hideL H (cl.map (·.2))) λv H'=>(∀c∈cl.map (·.2),H' c=Jq)->Q v (backL H H' (cl.map (·.2))))) :
  aK P w K mg base CX (k+1) f (W.kla_fn name qual params body scope cl pm (.ref c') ctv) ps sp:=by
 refine⟨len,λA g s H a9 us vs Q E hr l hb r R=>?_⟩;have hl:=len _ _ _ _ R;obtain⟨⟨M,ef,ec,a0,t',a7,a6⟩,ws,Z,sG,BE⟩:=gH A g s H vs Q E (hr.deeper _) R;obtain⟨t,ht,hq⟩:=BE λc D=>by
  obtain⟨o,e⟩:=Z.fzs c D;refine⟨?_,λz=>by rw[l.frf c z]at e;cases e⟩;cases eb:base.get? c with
  |none=>rfl
  |some ob=>rw[(l.bs c ob eb).2]at e;cases e
 have a2:s.heap.NoLimit:=l.mod.nolimit.keeps λb o e=>(l.bs b o e).1
 have eo:s.heap.get? f=Jp (W.kla_obj name qual params body scope cl pm c' ctv):=(l.hok f _ ef).1;have a8:s.heap.get? c'=Jp M:=(l.hok c' _ ec).1;have a3:us.length=ps.length:=by rw[←r.length];exact hl
 have a1:ps.Nodup:=by rw[←S.pre];exact S.nd.sublist (List.take_sublist _ _)
 have fz:=Z.fzs;have T:∀{x:Str}{c:E2},cl.lookup x=Jp c->c∈cl.map (·.2):=λe=>lZ e
 refine W.kla_callFunE hr.depth eo U S.co S.gen U ⟨c',M,a0,t',U,a8,a7,a6⟩ (hb _ _ _ _ ?_);refine HK S.nocell (λx n=>S.par x.1 (tu n).1) (λB a5 a4=>?_) S.kind;have j:∀b o,s.heap.get? b=Jp o->B.get? b=Jp o:=λb o e=>a4.extBut b o (wO (FG.lt_size e)) (FG.get?_push_of_some _ e)
 refine⟨a2.keeps j,W.kla_codeExpr ?_⟩;have G:∀{b:E2},H b=Jq->hideL H (cl.map (·.2)) b=none:=λh=>gc h
 have I:Inv (cxC CX P w K mg base N qual scope f (.ref c') cl A g s H E) [] (kr N ps vs ws) (hideL H (cl.map (·.2))) { s with heap:=B,toks:=s.toks+(ps.zip us).length }:=by
  have F:∀b:E2,b ∉ (cxC CX P w K mg base N qual scope f (.ref c') cl A g s H E).ex:=λb z=>Jx (show b∈([]:List E2)from z) (by simp)
  refine⟨⟨l.mod,S.kind,U,U,wN _,λx y c L m=>inj x y c L m,λx n=>?_,λx c hf=>?_,λ_=>hr.hd,Gj.frames_deeper l.frames,.inr ⟨U,U⟩,λb z=>Jx z (F b),λb o e=>⟨(l.bs b o e).1,G (l.bs b o e).2⟩,l.bsz,λb _ _=>F b,λb z=>Jx z (F b),l.funs,λb hb=>G (l.frf b hb)⟩,
   rfl,l.bare,Un.kept j,⟨_,a5,λi x v L m h3=>?_⟩,λx c h=>?_,G (l.hok.fresh (wN _)),λx c h=>jU (T h),λp Y=>Jx (show p∈([]:List (E2×Obj))from Y) (by simp),(l.hok.hideL fz).kept j,?_⟩
  .have n:scope.names.lookup x=Jp .cell\/scope.names.lookup x=Jp .free:=n;rcases n with n|n
   .exact Jx U (S.nocell _ (mem_of_lookup n))
   .exact S.has _ (mem_of_lookup n) U
  .exact Jx (show Js=Jr from hf) Bool.false_ne_true
  .have L:N[i]?=Jp x:=L;unfold kr at m;by_cases hi:i<vs.length
   .rw[eX (by simpa using hi),eU]at m;have ha:vs[i]?=Jp v:=by
     cases e:vs[i]? with
     |none=>rw[e]at m;cases m
     |some a=>rw[e]at m;cases m;rfl
    obtain⟨u,hu,C⟩:=r.get ha;have Y:ps[i]?=Jp x:=by rw[←S.pre,List.getElem?_take_of_lt (by lia)];exact L
    exact⟨u,C,.inl ⟨S.par x (Gd Y),rW a1 Y hu a3⟩⟩
   .rw[js (by simpa using hi),eU,bo]at m;cases e:(N.drop ps.length)[i-vs.length]? with
    |none=>rw[e]at m;cases m
    |some y =>
     rw[e]at m;have m:Jp (ws.lookup y)=Jp (Jp v):=m;have m:=Option.some.inj m;have hy:y=x:=by
      rw[List.getElem?_drop,show ps.length+(i-vs.length)=i by lia,L]at e;exact(Option.some.inj e).symm
     subst hy;obtain⟨c,o,u,e1,e2,e3,C⟩:=Z.2 y v m;exact⟨u,C,.inr ⟨.inr (sG y (Gd e) v m),c,e1,o,j _ _ (l.hok c _ e2).1,e3⟩⟩
  .obtain⟨o,v,e,d⟩:=Z.1 c (T h);exact⟨v,o,j _ _ (l.hok c _ e).1,d⟩
  .unfold kr;show _=N.length;have b0:ps.length<=N.length:=by have:=JB List.length S.pre;rw[ia]at this;lia
   rw[dq,bo,bo,kB];lia
 refine Gy (ht [] _ (kr N ps vs ws) _ _ I hq) (λu X hs=>?_) λe X hs=>hs
 have fin:∀{O:St}{H':Hp}{v:V}{u:De},Inv (cxC CX P w K mg base N qual scope f (.ref c') cl A g s H E) [] O H' X->RelV v u->((∀c∈cl.map (·.2),H' c=Jq)->Q v (backL H H' (cl.map (·.2))))->CE g P w H s Q u X:=λ{O H' v u} J C q=>by
  have un:Un (frs g) [] (hideL H (cl.map (·.2))) H' s.heap X.heap:=J.base;have nc:∀c∈cl.map (·.2),H' c=none:=λc D=>by
   obtain⟨⟨x,d⟩,hm,rfl⟩:=eR.mp D;obtain⟨o,e⟩:=fz d D;exact un.free d o (l.hok d _ e).1 (jU D) (by simp)
  refine⟨v,backL H H' (cl.map (·.2)),J.os,J.bare,un.backL fz,J.hok.backL fz nc λc D o e=>?_,C,q nc⟩;refine un.keep c o (l.hok c _ e).1 (jU D) (λz=>?_) (by simp);rw[l.frf c z]at e;cases e
 obtain⟨v,H',J,C,q⟩:=hs;exact fin J C q
def BG(a:Gx)(k:Nat):Gs:=match a with
 | .Assign _ (.Call _ as _ _) _=>as.getD k (.Name "" ⟨0,0,0,0⟩)
 | .Return (Jp (.Call _ as _ _)) _=>as.getD k (.Name "" ⟨0,0,0,0⟩)
 |_=>.Name "" ⟨0,0,0,0⟩
def uE(e:Gs):Hn:=match e with
 | .Lambda a _ _ _=>a
 |_=>fZ (.Pass ⟨0,0,0,0⟩)
def rX(e:Gs):Gs:=match e with
 | .Lambda _ b _ _=>b
 |e=>e
def m8(e:Gs):Gm:=match e with
 | .Lambda _ _ s _=>s
 |_=>aj (.Pass ⟨0,0,0,0⟩)
def xD(e:Gs):Pos:=match e with
 | .Lambda _ _ _ p=>p
 |_=>⟨0,0,0,0⟩
section
variable{mg:Str->Option De}
theorem Af{qual:Str}{ps:List Str}{e:Gs}{f c':E2}{cl:List (Str×E2)}{pm ctv:De}{N:List Str}{k:Nat}{sp:Sp}(S:rV N ps (m8 e) cl)(inj:∀x y c,cl.lookup x=Jp c->cl.lookup y=Jp c->x=y)
  (m:∀us:List De,us.length=ps.length->Hg (W.kla_fn "<lambda>" qual (uE e) (rX e) (m8 e) cl pm (.ref c') ctv) ⟨us,[]⟩=pure (ps.zip us))
  (len:∀vs H Q E,sp vs H Q E->vs.length=ps.length)
  (z:∀(A:Gj)(d:List Env)(s:Gk)(H:Hp)(vs:List V)(Q:VK)(E:XK),bU k (A.deeper (W.envX qual (m8 e) s.heap.objs.size f (.ref c') cl))->sp vs H Q E ->
   ∃ws,l8 H f c' (W.kla_obj "<lambda>" qual (uE e) (rX e) (m8 e) cl pm c' ctv) qual cl ws/\(∀y∈N.drop ps.length,∀v,ws.lookup y=Jp v->(m8 e).names.lookup y=Jp .free) /\
   ((∀c∈cl.map (·.2),base.get? c=Jq/\c ∉ frs d)->∃t:TE,PE (cxC CX0 P w K mg base N qual (m8 e) f (.ref c') cl A d s H E).nox (rX e) t/\t (kr N ps vs ws) (hideL H (cl.map (·.2))) λv H'=>(∀c∈cl.map (·.2),H' c=Jq)->Q v (backL H H' (cl.map (·.2))))) :
  HFn P w K mg base (k+1) f sp:=by
 refine⟨_,ps,Ae (name := "<lambda>") (qual:=qual) (c':=c') (params:=uE e) (body:=rX e) (pm:=pm) (ctv:=ctv) S inj len λA d s H vs Q E i g=>?_,.all λus j=>?_⟩
 .obtain⟨ws,⟨u,⟨h,r,q⟩,p⟩,o,n⟩:=z A d s H vs Q E i g;refine⟨⟨h,u,r,q⟩,ws,p,o,λl=>?_⟩;obtain⟨t,a,b⟩:=n l;exact⟨t,a.nox,b⟩
 .exact m us j
end
section
variable{i:Nat}
end
inductive TFn(K:W.Frag)(x:Str)(st:Gx):Prop
 |mk {f c t:E2}{fd:He}(a:W.nsIn K Gg x=Jp (Jp (.ref f)))(F:Fun K x x st f fd)(hc:fd.code=.ref c)(ht:W.tabIn K x=Jp (c,t))
theorem tfn_mk{K:W.Frag}{x:Str}{b:Gx}{f c t:E2}{h kV doc pm o:De}{g q:Option E2}{d:Array (Option De)}{k:De}{j:Option E2}{vs:Array De}{i:Array (Option De)}(a:W.nsIn K Gg x=Jp (Jp (.ref f)))
  (l:K.lookup f=Jp ⟨h,g,.func (W.fnOf x x (fZ b) (dF b) (aj b) .none kV doc pm q (.ref c) o),d⟩)(p:W.codeIn K (.ref c) x=Jr)(n:W.keepIn K (.ref f)=Jr)(m:K.lookup c=Jp ⟨k,j,.fields vs,i⟩)(e:vs[11]?=Jp (.ref t)):TFn K x b :=
 ⟨a,fun_mk l p n,U,Aa a l m e⟩
theorem mkT{P:EX}{w:D0}{K:W.Frag}{mg:Str->Option De}{base:FG}{k:Nat}{x:Str}{ps:List Str}{sp:Sp}{d:Gx}(Z:Zb P w K mg base)(h:TFn K x d)(i:∀q∈(W.tabIn K x).toList,W.CodeHd base q.1 q.2/\base.BuiltinsAt mg q.2)
  (O:∀{f c t:E2}{fd:He},Fun K x x d f fd->fd.code=.ref c->W.tabIn K x=Jp (c,t)->W.CodeHd base c t/\base.BuiltinsAt mg t->aK P w K mg base CX0 k f fd ps sp)
  (b:∀{f:E2}{fd:He},Fun K x x d f fd->Binds K fd ps []:=by trivial):Callee P w K mg base k x ps sp:=by
 cases h with|mk a F j e=>exact⟨_,_,O F j e (i _ (by rw[e];exact gb)),b F,F.kp,Z.g a⟩
theorem xE{K:W.Frag}{x:Str}{t:E2×E2}(h:t∈(W.tabIn K x).toList):W.tabIn K x=Jp t:=by
 cases e:W.tabIn K x with
 |none=>rw[e]at h;cases h
 |some z=>rw[e]at h;rw[iN.mp h]
inductive tj(x:V)(vs:List V)(H:Hp)(Q:VK):Prop
 |mk (l:E2)(ks:List Int)(n:Int)(j:Nat)(_:x=.ref l)(_:vs=[.int n])(_:H l=Jp (.lst (ks.map V.int)))(_:ks[j]?=Jp n)(_:∀m,m<j->ks[m]?≠Jp n)(_:Q .non (upd H l (.lst ((ks.eraseIdx j).map V.int))))
def eI(n:Int):De->Bool
 | .int a _=>a == n
 |_=>Js
theorem uF{X:Cx}:MtM X "list.remove" tj:=by
 intro Ju s σ H x R v S Q I G J h;obtain⟨l,f,n,j,rfl,rfl,C,B,p,q⟩:=h;cases G;obtain⟨u,rfl,K⟩:=J.one;obtain⟨t,rfl⟩:=K;obtain⟨z,b,m,r,M,e⟩:=I.lstM C;have L:=r.length;rw[bo]at L;have P:j<f.length:=(Gb.mp B).1;have c:∀(i:Nat)(hi:i<b.length)(a:Int),f[i]?=Jp a->∃d,b[i]=.int a d:=λi hi a N=>by
  obtain⟨u,E,⟨d,O⟩⟩:=r.get (show(f.map V.int)[i]?=Jp (.int a) by rw[eU,N];rfl);rw[Ga hi]at E;exact⟨d,by rw[←O];exact Option.some.inj E⟩
 have k:b.toArray.size<=FL:=by
  have:=M;simp only[dt];rw[bo]at this;lia
 refine HA F.slot_list_remove ⟨_,e,U⟩ F.entry_list_remove (F.args_list_remove_2 _ _) (PySem.MeetsSeq.list_remove l b.toArray m (.int n t) (eI n) (λy o=>?_) j (by simp;lia) ?_ (λi hi w=>?_) k) ⟨e,?_⟩
 .have o:y∈b:=by simpa using o
  obtain⟨i,hi,rfl⟩:=uB o;obtain⟨d,g⟩:=c i hi _ (Ga (by lia));rw[g];exact PySem.MeetsSeq.EqGives.int _ _ _ _
 .obtain⟨d,g⟩:=c j (by lia) n B;rw[show b.toArray[j]'(by simp;lia)=b[j]'(by lia) by simp,g];show(n == n)=Jr;simp
 .have A:i<b.length:=by simpa using hi
  have D:=Ga (l:=f) (i:=i) (by lia);obtain⟨d,g⟩:=c i A _ D;rw[show b.toArray[i]=b[i] by simp,g];show(f[i] == n)=Js;have:=p i w;rw[D]at this;simpa using λz=>this (by rw[z])
 .refine⟨.non,_,I.lset (its':=b.eraseIdx j) C e ?_ ?_ ?_,U,q⟩
  .apply Array.ext'
   simp
  .rw[mv,mv,fR,ox,oy];exact(r.take j).append (r.drop (j+1))
  .rw[bo,sy];rw[dt]at k;refine wX ?_ k;split <;> lia
def Itv(K:W.Frag)(a:E2)(n:Nat):It :=
 ⟨λi H=>i<n/\∃b,SqL K H a b/\b.length=n,λi H x H'=>H'=H/\∀b,SqL K H a b->b[n-1-i]?=Jp x,λi _=>n<=i⟩
theorem vT{P:EX}{w:D0}{K:W.Frag}{tg:Gs}(a it:E2)(n:Nat):Turn P w K tg (Itv K a n) [it] it (λi h=>i<=n/\h.IsRevIter it a ((n:Int)-1-(i:Int))) where
 mem:=by simp
 obj:=λi h f b j=>by
  have e:b=it:=by simpa using j
  subst e;obtain⟨_,o,e,c,d⟩:=f;exact⟨o,e,λv z=>by rw[d]at z;cases z⟩
 keep:=λi h h' f k=>⟨f.1,f.2.at λo e=>k it (by simp) o e⟩
 item:=by
  intro X t q y N i Ju s σ H E I m f r;subst t q y;obtain⟨hi,G,M,hn⟩:=r;obtain⟨Z,J,p,hz⟩:=I.list M;have hl:=J.length;have L:G[n-1-i]?=Jp (G[n-1-i]'(by lia)):=Ga (by lia);obtain⟨u,S,Q⟩:=J.get L;obtain⟨F,D,T,C,B,A⟩:=m it (by simp);have g:=f.2;rw[show(n:Int)-1-(i:Int)=((n-1-i:Nat):Int) by lia]at g;refine wpAny_pyNext_rev_item g p.isList (x:=u) (by simpa using S) λh' l O=>?_
  rw[show((n-1-i:Nat):Int)-1=(n:Int)-1-((i+1:Nat):Int) by lia]at l;have Y:Inv X Ju σ H { s with heap:=h' }:=I.turned (t':=s.toks) (λb o j e=>(O.2 b j).trans e) F D C B A;obtain⟨o,e,c,d⟩:=id l;exact⟨u,U,ny (s:={ s with heap:=h' }) e c d (by decide) ⟨_,H,Y,Q,⟨U,λys R=>by rw[I.list_inj R M];exact L⟩,⟨hi,l⟩,λb j=>(m b j).1⟩⟩
 done:=by
  intro X t q y N i Ju s σ H E I m f r;subst t q y;obtain⟨F,D,T,C,B,A⟩:=m it (by simp);have hi:i=n:=Nat.le_antisymm f.1 r;have g:=f.2;rw[show(n:Int)-1-(i:Int) = -1 by lia]at g;exact wpAny_pyNext_rev_end (I.ok.hd N) g λh' V=>⟨U,I.turned (t':=s.toks) (λb o j e=>V b o j e) F D C B A⟩
 self:=λ_ _ _ _ _ f h=>Jn f.2 h
inductive yK(K:W.Frag)(R:It->Hp->Prop)(vs:List V)(H1:Hp):Prop
 |mk (a:E2)(xs:List V)(_:vs=[.ref a])(_:SqL K H1 a xs)(_:R (Itv K a xs.length) H1)
def Dk(K:W.Frag)(b:TA):TI:=λσ H R=>b σ H λa c=>yK K R a c
theorem Ag{e:Gs}{j:TA}{p pos:Pos}(y:Gl X "reversed") (hm:X.mg "reversed" = Jq) (A:PA X [e] j)(v:Gw [e] X.env=[(Js,eval e X.env)]:=by rfl):PI X tg (.Call (.Name "reversed" p) [e] [] pos) (Dk X.K j):=by
 intro Ju s σ H R I h;refine Call_ (eG I y hm PyProof.Rows.boot_reversed (PyProof.Rows.callWith_type1 (thn (A pos Ju s σ H _ I h) λD c ⟨C,k,i,n,r⟩=>?_) v U));obtain⟨a,g,rfl,w,q⟩:=r;obtain⟨u,rfl,m⟩:=vals1 n;cases (show u=De.ref a from m);obtain⟨d,l,t,E⟩:=i.list w;have x:=l.length;refine call_reversed_list t.isList ?_;have f:(c.heap.push (revObj a ((d.toArray.size:Int)-1))).IsRevIter c.heap.objs.size a ((g.length:Int)-1):=by
  refine⟨_,FG.get?_push_size _ U,U,?_⟩;show Data.fields #[.ref a,GU ((d.toArray.size:Int)-1)]=_;rw[dt,←x]
 refine Jn (s:={ c with heap:=c.heap.push (revObj a ((d.toArray.size:Int)-1)) }) f ?_;have B:Inv X Ju σ k { c with heap:=c.heap.push (revObj a ((d.toArray.size:Int)-1)) }:=i.kept (t':=c.toks) λb o e=>FG.get?_push_of_some _ e
 refine⟨c.heap.objs.size,[c.heap.objs.size],_,_,k,U,B,vT a _ g.length,⟨xn _,?_⟩,λb z=>?_,q⟩
 .rw[show(g.length:Int)-1-((0:Nat):Int)=(g.length:Int)-1 by lia];exact f
 .have e:b=c.heap.objs.size:=by simpa using z
  subst e;exact i.fpOk (wN _) (i.hok.fresh (wN _))
theorem xF{K:W.Frag}{a:E2}{xs:List V}{g:TG}{j:TS}{D:Ends}{σ:St}{H:Hp}(b:Nat->St->Hp->Prop)(s:b 0 σ H)(o:∀i σ H,i<=xs.length->b i σ H->SqL K H a xs)
  (n:∀i x σ H,i<xs.length->xs[xs.length-1-i]?=Jp x->b i σ H->g x σ H λc h=>j { D with nx:=b (i+1),ct:=b (i+1),bk:=D.nx } c h)(r:∀σ H,b xs.length σ H->D.nx σ H) :
  ∃W:Nat->Nat->St->Hp->Prop,(∃m,W 0 m σ H)/\∀i m σ H,W i m σ H ->
   ((Itv K a xs.length).stop i H/\D.nx σ H)\/((Itv K a xs.length).go i H/\∃N:St->Hp->Prop,(∀d H',N d H'->∃k,k<m/\W (i+1) k d H')/\∀x H',(Itv K a xs.length).yld i H x H'->g x σ H' λc h=>j { D with nx:=N,ct:=N,bk:=D.nx } c h):=by
 refine⟨λi m σ H=>m=xs.length-i/\i<=xs.length/\b i σ H,⟨xs.length,by simp,xn _,s⟩,?_⟩;rintro i m σ H ⟨rfl,hi,p⟩;have q:=o i σ H hi p;by_cases f:i<xs.length
 .refine .inr ⟨⟨f,xs,q,U⟩,b (i+1),λd H' l=>⟨xs.length-(i+1),by lia,U,f,l⟩,λx H' y=>?_⟩;obtain⟨e,y⟩:=y;subst e;exact n i x σ _ f (y xs q) p
 .have e:i=xs.length:=by lia
  subst e;exact .inl ⟨wN _,r σ H p⟩
def upn(n:Nat):List V:=(List.range n).map λj:Nat=>V.int (j:Int)
inductive yL(Q:VK)(vs:List V)(H1:Hp):Prop
 |mk (n:Nat)(_:vs=[.int (n:Int)])(_:n<=1000)(_:∀p,H1 p=Jq->Q (.ref p) (upd H1 p (.lst (upn n))))
def Dl(b:TA):TE:=λσ H Q=>b σ H λa c=>yL Q a c
theorem rY{X:Cx}{i:Gs}{D:TA}{M E C r:Pos}(z:X.calm=Jr)(V:Gl X "list") (hm:X.mg "list" = Jq) (w:Gl X "range") (v:X.mg "range" = Jq) (W:PA X [i] D)
  (R:Gw [i] X.env=[(Js,eval i X.env)]:=by rfl) :
  PE X (.Call (.Name "list" M) [.Call (.Name "range" E) [i] [] r] [] C) (Dl D):=by
 intro Ju s σ H Q I h;refine Dc (eG I V hm PyProof.Rows.boot_list ?_);refine PyProof.Rows.callWith_type1 ?_ U U;show Gq _ _ (spliced ((Js,eval (.Call (.Name "range" E) [i] [] r) X.env) :: Gv C (Gw [] X.env))) _ _ s;refine Calls.spliced_cons ?_;refine Dc (eG I w v PyProof.Rows.boot_range ?_);refine PyProof.Rows.callWith_type1 (thn (W r Ju s σ H _ I h) λus d ⟨vs,H1,p,K,L⟩=>?_) (by rw[R];rfl) U;obtain⟨n,rfl,S,q⟩:=L;obtain⟨u,rfl,J⟩:=vals1 K;obtain⟨t,rfl⟩:=(show ∃t,u=De.int (n:Int) t from J);refine call_range_1 ?_;refine Calls.spliced_nil ?_;have B:GX.Range.rangeSize 0 (n:Int) 1=(n:Int):=by rw[GY];split <;> lia
 generalize y:({ cls:=.type "range",data:=.fields #[.int 0 d.toks,.int (n:Int) t,.int 1 (d.toks+1)] }:Obj)=o1;have Y:IsRange (d.heap.push o1) d.heap.objs.size 0 (n:Int) 1 d.toks t (d.toks+1):=by rw[←y];exact IsRange.new ..
 have k:(d.heap.push o1).objs.size=d.heap.objs.size+1:=FG.size_push ..;refine call_list_range (s:={ d with heap:=d.heap.push o1,toks:=d.toks+1+1 }) (p.ok.hd z) Y (small_one (by lia) (by lia) (by lia) (by lia)) B (by lia) λl G g c O Z m=>?_
 obtain⟨F,m⟩:=m;have N:∀b o,d.heap.get? b=Jp o->l.get? b=Jp o:=λb o e=>O b o (FG.get?_push_of_some _ e)
 have P:Vals (upn n) g.toList:=sX (by unfold upn;simp[F]) λj x u e f=>by
  unfold upn at e;rw[eU]at e;have T:j<n:=by
   have:=(Gb.mp f).1;simpa[F]using this
  rw[uV T]at e;cases e;obtain⟨t',rfl⟩:=m j u (by simpa using f);exact⟨t',by rw[Int.zero_add,Int.mul_one]⟩
 have A:l.get? (d.heap.objs.size+1)=Jp { cls:=.type "list",dict:=Jq,data:=.seq g.toList.toArray c,slots:=#[] }:=by
  rw[←k];simpa using Z
 show EP X Ju σ Q _ _;refine⟨.ref (d.heap.objs.size+1),_,p.laid (h':=l) (t':=G) (a:=d.heap.objs.size+1) (o:=.lst (upn n)) N (x4 _) ⟨by unfold upn;rw[bo,jq,G6];exact wX S (by decide),g.toList,c,P,A⟩,?_,q _ (p.hok.fresh (x4 _))⟩;show De.ref _=_;rw[k]
end L2
set_option Elab.async false
set_option maxRecDepth 100000
set_option maxHeartbeats 4000000
set_option linter.all false
namespace My
open PySem L2
def top(i:Nat):Gx:=PySem.Challenge.pw_rowjudge_k66_thinned.main.body.getD i (.Pass ⟨0,0,0,0⟩)
abbrev Y32:Gx:=top 14
abbrev Y44:Gx:=top 15
abbrev Y43:Gx:=top 16
abbrev Y31:Gx:=top 20
abbrev Y42:Gx:=top 22
abbrev Y38:Gx:=top 23
abbrev Y81:Gx:=top 24
abbrev Y41:Gx:=top 27
abbrev Y37:Gx:=top 28
abbrev Y34:Gx:=top 29
abbrev Y70:Gx:=top 30
abbrev Y35:Gx:=top 31
abbrev Y33:Gx:=top 32
abbrev Y40:Gx:=top 33
abbrev Y87:Gx:=top 44
abbrev Y76:Gx:=top 49
abbrev Y75:Gx:=top 50
abbrev Y78:Gx:=top 51
abbrev Y77:Gx:=top 52
abbrev Y74:Gx:=top 53
abbrev Y39:Gx:=top 54
abbrev Y73:Gx:=top 55
abbrev Y45:Gx:=top 56
abbrev Y86:Gx:=top 57
abbrev Y88:Gx:=top 58
abbrev Y82:Gx:=top 60
abbrev Y83:Gx:=top 61
abbrev Y36:Gx:=top 62
abbrev Y79:Gx:=top 63
abbrev Y85:Gx:=top 64
abbrev Y46:Gx:=top 66
abbrev Y72:Gx:=top 67
abbrev Y84:Gx:=top 69
abbrev Y47:Gx:=top 70
abbrev Y71:Gx:=top 71
abbrev Y51:Gx:=top 73
abbrev Y59:Gx:=top 74
abbrev Y63:Gx:=top 75
abbrev Y69:Gx:=top 76
abbrev Y53:Gx:=top 77
abbrev Y54:Gx:=top 78
abbrev Y64:Gx:=top 79
abbrev Y49:Gx:=top 80
abbrev Y50:Gx:=top 81
abbrev Y61:Gx:=top 82
abbrev Y65:Gx:=top 83
abbrev Y60:Gx:=top 84
abbrev Y52:Gx:=top 85
abbrev Y56:Gx:=top 86
abbrev Y68:Gx:=top 87
abbrev Y55:Gx:=top 88
abbrev Y62:Gx:=top 89
abbrev Y57:Gx:=top 90
abbrev Y66:Gx:=top 91
abbrev Y67:Gx:=top 92
abbrev Y58:Gx:=top 93
abbrev Y17:Gx:=inClass (top 48) 0
abbrev Y4:Gx:=inClass (top 38) 0
abbrev Y18:Gx:=inClass (top 37) 0
abbrev Y13:Gx:=inClass (top 39) 0
abbrev Y22:Gx:=inClass (top 37) 0
abbrev Y8:Gx:=inClass (top 40) 0
abbrev Y20:Gx:=inClass (top 37) 0
abbrev Y10:Gx:=inClass (top 41) 0
abbrev Y21:Gx:=inClass (top 37) 0
abbrev Y6:Gx:=inClass (top 42) 0
abbrev Y19:Gx:=inClass (top 37) 0
abbrev Y15:Gx:=inClass (top 43) 0
abbrev Y23:Gx:=inClass (top 37) 0
abbrev Y2:Gx:=inClass (top 17) 5
abbrev Y3:Gx:=inClass (top 17) 5
abbrev Y12:Gx:=inClass (top 18) 0
abbrev Y0:Gx:=inClass (top 17) 0
abbrev Y30:Gx:=inClass (top 19) 0
abbrev Y1:Gx:=inClass (top 17) 0
abbrev Y24:Gx:=inClass (top 37) 1
abbrev Y5:Gx:=inClass (top 38) 1
abbrev Y28:Gx:=inClass (top 37) 1
abbrev Y14:Gx:=inClass (top 39) 1
abbrev Y26:Gx:=inClass (top 37) 1
abbrev Y9:Gx:=inClass (top 40) 1
abbrev Y27:Gx:=inClass (top 37) 1
abbrev Y11:Gx:=inClass (top 41) 1
abbrev Y25:Gx:=inClass (top 37) 1
abbrev Y7:Gx:=inClass (top 42) 1
abbrev Y29:Gx:=inClass (top 37) 1
abbrev Y16:Gx:=inClass (top 43) 1
abbrev Y48:Gx:=top 94
abbrev Y80:Gs:=BG ((dF Y79).getD 0 (.Pass ⟨0,0,0,0⟩)) 2
theorem Z80{c_0:E2}:rV ["codes","table"] ["codes"] (m8 Y80) [("table",c_0)]:=⟨U,U,U,by decide+kernel,U,by decide+kernel,by decide+kernel,zZ U⟩
theorem Z32:aq ["text","signs","sign"] ["text","signs"] (aj Y32):=fsc
theorem Z44:aq ["text"] ["text"] (aj Y44):=fsc
theorem Z43:aq ["value"] ["value"] (aj Y43):=fsc
theorem Z31:aq ["one","other"] ["one","other"] (aj Y31):=fsc
theorem Z42:aq ["spans","number","low","high"] ["spans","number"] (aj Y42):=fsc
theorem Z38:aq ["spans","low","high","turns","first","last"] ["spans","low","high"] (aj Y38):=fsc
theorem Z81:aq ["low","high","marks","cuts","lows","highs"] ["low","high","marks"] (aj Y81):=fsc
theorem Z41:aq ["bounds","marks","product","parts"] ["bounds","marks"] (aj Y41):=fsc
theorem Z37:aq ["bounds","marks"] ["bounds","marks"] (aj Y37):=fsc
theorem Z34:aq ["bounds","marks","leaf"] ["bounds","marks","leaf"] (aj Y34):=fsc
theorem Z70:aq ["columns","ahead","leaf"] ["columns","ahead","leaf"] (aj Y70):=fsc
theorem Z35:aq ["triples","form","low","high","beneath"] ["triples"] (aj Y35):=fsc
theorem Z33:aq ["form","deep","told","low","high","beneath","box","leaf"] ["form","deep"] (aj Y33):=fsc
theorem Z40:aq ["lists","numbers","some"] ["lists"] (aj Y40):=fsc
theorem Z87:aq ["name","way"] ["name"] (aj Y87):=fsc
theorem Z76:aq ["names","name"] ["names"] (aj Y76):=fsc
theorem Z75:aq ["names","rows"] ["names","rows"] (aj Y75):=fsc
theorem Z78:aq ["way","outcome"] ["way","outcome"] (aj Y78):=fsc
theorem Z77:aq ["domains","outcome","cells","code","domain","spans","low","high"] ["domains","outcome","cells","code"] (aj Y77):=fsc
theorem Z74:aq ["cells","code"] ["cells","code"] (aj Y74):=fsc
theorem Z39:aq ["table","k","codes","cells","spans","code"] ["table","k","codes"] (aj Y39):=fsc
theorem Z73:aq ["table","codes"] ["table","codes"] (aj Y73):=fsc
theorem Z45:aq ["table","rows","codes"] ["table","rows"] (aj Y45):=fsc
theorem Z86:aq ["table","codes"] ["table","codes"] (aj Y86):=fsc
theorem Z88:aq ["table","rows"] ["table","rows"] (aj Y88):=fsc
theorem Z82:aq ["table"] ["table"] (aj Y82):=fsc
theorem Z83:aq ["table"] ["table"] (aj Y83):=fsc
theorem Z36:aq ["table","column","domain"] ["table","column"] (aj Y36):=fsc
theorem Z79:aq ["table"] ["table"] (aj Y79):=fsc
theorem Z85:aq ["table"] ["table"] (aj Y85):=fsc
theorem Z46:aq ["table"] ["table"] (aj Y46):=fsc
theorem Z72:aq ["table","tile","k","bit","rows"] ["table","tile","k"] (aj Y72):=fsc
theorem Z84:aq ["table","tiles","kept","needed","found"] ["table"] (aj Y84):=fsc
theorem Z47:aq ["table","tiles","kept","needed","k"] ["table","tiles","kept","needed"] (aj Y47):=fsc
theorem Z71:aq ["table","tiles","k","before","place","tile"] ["table","tiles","k","before"] (aj Y71):=fsc
theorem Z51:aq ["script","k"] ["script","k"] (aj Y51):=fsc
theorem Z59:aq ["cell","k","big"] ["cell","k"] (aj Y59):=fsc
theorem Z63:aq ["cells","most","seeds","k","cell","at"] ["cells","most"] (aj Y63):=fsc
theorem Z69:aq ["cell","k","ahead","behind"] ["cell","k"] (aj Y69):=fsc
theorem Z53:aq ["m","most","words","at","pairs","k","wide"] ["m","most"] (aj Y53):=fsc
theorem Z54:aq ["column"] ["column"] (aj Y54):=fsc
theorem Z64:aq ["pairs","bits","spans","k","pair"] ["pairs","bits"] (aj Y64):=fsc
theorem Z49:aq ["m","columns","out","last","bits","seed","j","column","every","code","at"] ["m","columns","out","last"] (aj Y49):=fsc
theorem Z50:aq ["seeds","columns","out","rows","last","m"] ["seeds","columns","out"] (aj Y50):=fsc
theorem Z61:aq ["bit_rows","columns","rows","bits","code"] ["bit_rows","columns"] (aj Y61):=fsc
theorem Z65:aq ["head","columns","out","way","bit_rows","names","domains"] ["head","columns","out","way","bit_rows"] (aj Y65):=fsc
theorem Z60:aq ["columns","points","column","more","point","k"] ["columns"] (aj Y60):=fsc
theorem Z52:aq ["columns","point","turn"] ["columns","point","turn"] (aj Y52):=fsc
theorem Z56:aq ["bit_row","point"] ["bit_row","point"] (aj Y56):=fsc
theorem Z68:aq ["turn","out","way"] ["turn","out"] (aj Y68):=fsc
theorem Z55:aq ["way","bit_rows","out","point","codes"] ["way","bit_rows","out","point"] (aj Y55):=fsc
theorem Z62:aq ["found","due"] ["found","due"] (aj Y62):=fsc
theorem Z57:aq ["way","bit_rows","out","points","k","less","point"] ["way","bit_rows","out","points","k"] (aj Y57):=fsc
theorem Z66:aq ["way","bit_rows","out","points","left","k"] ["way","bit_rows","out","points"] (aj Y66):=fsc
theorem Z67:aq ["bit_rows","out","codes"] ["bit_rows","out"] (aj Y67):=fsc
theorem Z58:aq ["found","table","rows","one","other"] ["found","table","rows"] (aj Y58):=fsc
theorem Z17:aq ["self","name","names","domains","outcome","way","rows","cells","code"] ["self","name","names","domains","outcome","way","rows"] (aj Y17):=fsc
theorem Z4:aq ["self"] ["self"] (aj Y4):=fsc
theorem Z18:aq ["self","called"] ["self","called"] (aj Y18):=fsc
theorem Z13:aq ["self"] ["self"] (aj Y13):=fsc
theorem Z22:aq ["self","called"] ["self","called"] (aj Y22):=fsc
theorem Z8:aq ["self"] ["self"] (aj Y8):=fsc
theorem Z20:aq ["self","called"] ["self","called"] (aj Y20):=fsc
theorem Z10:aq ["self"] ["self"] (aj Y10):=fsc
theorem Z21:aq ["self","called"] ["self","called"] (aj Y21):=fsc
theorem Z6:aq ["self"] ["self"] (aj Y6):=fsc
theorem Z19:aq ["self","called"] ["self","called"] (aj Y19):=fsc
theorem Z15:aq ["self"] ["self"] (aj Y15):=fsc
theorem Z23:aq ["self","called"] ["self","called"] (aj Y23):=fsc
theorem Z2:aq ["self","value"] ["self","value"] (aj Y2):=fsc
theorem Z3:aq ["self","value"] ["self","value"] (aj Y3):=fsc
theorem Z12:aq ["self","low","high"] ["self","low","high"] (aj Y12):=fsc
theorem Z0:aq ["self","low","high"] ["self","low","high"] (aj Y0):=fsc
theorem Z30:aq ["self","words","word"] ["self","words"] (aj Y30):=fsc
theorem Z1:aq ["self","low","high"] ["self","low","high"] (aj Y1):=fsc
theorem Z24:aq ["self","codes","outcome"] ["self","codes","outcome"] (aj Y24):=fsc
theorem Z5:aq ["self","codes","outcome"] ["self","codes","outcome"] (aj Y5):=fsc
theorem Z28:aq ["self","codes","outcome"] ["self","codes","outcome"] (aj Y28):=fsc
theorem Z14:aq ["self","codes","outcome"] ["self","codes","outcome"] (aj Y14):=fsc
theorem Z26:aq ["self","codes","outcome"] ["self","codes","outcome"] (aj Y26):=fsc
theorem Z9:aq ["self","codes","outcome"] ["self","codes","outcome"] (aj Y9):=fsc
theorem Z27:aq ["self","codes","outcome"] ["self","codes","outcome"] (aj Y27):=fsc
theorem Z11:aq ["self","codes","outcome"] ["self","codes","outcome"] (aj Y11):=fsc
theorem Z25:aq ["self","codes","outcome"] ["self","codes","outcome"] (aj Y25):=fsc
theorem Z7:aq ["self","codes","outcome"] ["self","codes","outcome"] (aj Y7):=fsc
theorem Z29:aq ["self","codes","outcome"] ["self","codes","outcome"] (aj Y29):=fsc
theorem Z16:aq ["self","codes","outcome"] ["self","codes","outcome"] (aj Y16):=fsc
theorem Z48:aq ["script","head","turn","count","columns","out","way","much","bit_rows","table","points","found","due","point","told"] ["script"] (aj Y48):=fsc
structure AD where (a b c d e f g h i j k l m:E2)
structure Bk(K:W.Frag)(Y:AD):Prop where
 n_Way:W.nsIn K Gg "Way" = Jp (Jp (.ref Y.a))
 n_First:W.nsIn K Gg "First" = Jp (Jp (.ref Y.b))
 n_Only:W.nsIn K Gg "Only" = Jp (Jp (.ref Y.c))
 n_Like:W.nsIn K Gg "Like" = Jp (Jp (.ref Y.d))
 n_Low:W.nsIn K Gg "Low" = Jp (Jp (.ref Y.e))
 n_High:W.nsIn K Gg "High" = Jp (Jp (.ref Y.f))
 n_Sum:W.nsIn K Gg "Sum" = Jp (Jp (.ref Y.g))
 n_Domain:W.nsIn K Gg "Domain" = Jp (Jp (.ref Y.h))
 n_Numbers:W.nsIn K Gg "Numbers" = Jp (Jp (.ref Y.i))
 n_Words:W.nsIn K Gg "Words" = Jp (Jp (.ref Y.j))
 n_Table:W.nsIn K Gg "Table" = Jp (Jp (.ref Y.k))
 n_NONE:W.nsIn K Gg "NONE" = Jp (Jp (.ref Y.l))
 n_CLASH:W.nsIn K Gg "CLASH" = Jp (Jp (.ref Y.m))
 k_First:Cls K Y.b
 k_Only:Cls K Y.c
 k_Like:Cls K Y.d
 k_Low:Cls K Y.e
 k_High:Cls K Y.f
 k_Sum:Cls K Y.g
 k_Numbers:Cls K Y.i
 k_Words:Cls K Y.j
 k_Table:Cls K Y.k
 t_First:lV K Y.b
 t_Only:lV K Y.c
 t_Like:lV K Y.d
 t_Low:lV K Y.e
 t_High:lV K Y.f
 t_Sum:lV K Y.g
 t_Numbers:lV K Y.i
 t_Words:lV K Y.j
 t_Table:lV K Y.k
 q_NONE:ModT K Y.l [.str "none",.int (0)]
 q_CLASH:ModT K Y.m [.str "clash",.int (0)]
 na_First_called:NoAttr K Y.b "called"
 na_Only_called:NoAttr K Y.c "called"
 na_Like_called:NoAttr K Y.d "called"
 na_Low_called:NoAttr K Y.e "called"
 na_High_called:NoAttr K Y.f "called"
 na_Sum_called:NoAttr K Y.g "called"
 na_Numbers_low:NoAttr K Y.i "low"
 na_Numbers_high:NoAttr K Y.i "high"
 na_Numbers_words:NoAttr K Y.i "words"
 na_Words_low:NoAttr K Y.j "low"
 na_Words_high:NoAttr K Y.j "high"
 na_Words_words:NoAttr K Y.j "words"
 na_Table_name:NoAttr K Y.k "name"
 na_Table_names:NoAttr K Y.k "names"
 na_Table_domains:NoAttr K Y.k "domains"
 na_Table_outcome:NoAttr K Y.k "outcome"
 na_Table_way:NoAttr K Y.k "way"
 na_Table_rows:NoAttr K Y.k "rows"
 f_nn:W.kitOne K (.ref Y.i) (.ref Y.i)=Jp Jr
 f_wn:W.kitOne K (.ref Y.j) (.ref Y.i)=Jp Js
 f_ww:W.kitOne K (.ref Y.j) (.ref Y.j)=Jp Jr
 f_tt:W.kitOne K (.ref Y.k) (.ref Y.k)=Jp Jr
 f_nw:W.kitOne K (.ref Y.i) (.ref Y.j)=Jp Js
structure Bl(K:W.Frag)(mg:Str->Option De)(Y:AD):Prop extends Bk K Y where
 Way_:mg "Way" = Jp (.ref Y.a)
 First_:mg "First" = Jp (.ref Y.b)
 Only_:mg "Only" = Jp (.ref Y.c)
 Like_:mg "Like" = Jp (.ref Y.d)
 Low_:mg "Low" = Jp (.ref Y.e)
 High_:mg "High" = Jp (.ref Y.f)
 Sum_:mg "Sum" = Jp (.ref Y.g)
 Domain_:mg "Domain" = Jp (.ref Y.h)
 Numbers_:mg "Numbers" = Jp (.ref Y.i)
 Words_:mg "Words" = Jp (.ref Y.j)
 Table_:mg "Table" = Jp (.ref Y.k)
 NONE_:mg "NONE" = Jp (.ref Y.l)
 CLASH_:mg "CLASH" = Jp (.ref Y.m)
 len_:mg "len" = Jq
 isinstance_:mg "isinstance" = Jq
 int_:mg "int" = Jq
 bool_:mg "bool" = Jq
 sorted_:mg "sorted" = Jq
 list_:mg "list" = Jq
 set_:mg "set" = Jq
 zip_:mg "zip" = Jq
 tuple_:mg "tuple" = Jq
 sum_:mg "sum" = Jq
 range_:mg "range" = Jq
 enumerate_:mg "enumerate" = Jq
 reversed_:mg "reversed" = Jq
 all_:mg "all" = Jq
 min_:mg "min" = Jq
 max_:mg "max" = Jq
 str_:mg "str" = Jq
 MOST_SIGNS_:∃u,mg "MOST_SIGNS" = Jp u/\RelV (V.int 12) u
 SMALL_LETTERS_:∃u,mg "SMALL_LETTERS" = Jp u/\RelV (V.str "abcdefghijklmnopqrstuvwxyz") u
 MOST_GRAIN_:∃u,mg "MOST_GRAIN" = Jp u/\RelV (V.int 300) u
 MOST_ROWS_:∃u,mg "MOST_ROWS" = Jp u/\RelV (V.int 200) u
 MOST_COLUMNS_:∃u,mg "MOST_COLUMNS" = Jp u/\RelV (V.int 4) u
 MOST_WORDS_:∃u,mg "MOST_WORDS" = Jp u/\RelV (V.int 40) u
theorem vU(a:List Int)(k:Nat)(hi:Option Int):∃b:List Int,kP (a.map V.int) (Jp (k:Int)) hi=b.map V.int/\b.length<=a.length-k:=by
 unfold kP;have e:HT.sIx (a.map V.int).length 0 (Jp (k:Int))=min k a.length:=by
  simp only[HT.sIx,bo];split <;> lia
 refine⟨(a.drop (HT.sIx (a.map V.int).length 0 (Jp (k:Int)))).take (HT.sIx (a.map V.int).length (a.map V.int).length hi-HT.sIx (a.map V.int).length 0 (Jp (k:Int))),?_,?_⟩
 .rw[ox,oy]
 .rw[ia,kB,e];lia
theorem p10(n:Nat):(0:Int)<10^n:=Int.pow_pos (by decide)
theorem Dm{n:Int}{p:Int×Int}(c:decide (p.1<=n)=Jr)(d:decide (n<=p.2)=Jr):inR n p=true:=by unfold inR;rw[c,d];rfl
theorem BH{n:Int}{p:Int×Int}(c:¬ decide (p.1<=n)=Jr):inR n p=false:=by unfold inR;rw[Bp.mpr c];rfl
theorem BI{n:Int}{p:Int×Int}(d:¬ decide (n<=p.2)=Jr):inR n p=false:=by unfold inR;rw[Bp.mpr d,Bool.and_false]
theorem z0(a b:Int):atI [V.int a,V.int b] 0=Jp (V.int a):=rfl
theorem z1(a b:Int):atI [V.int a,V.int b] 1=Jp (V.int b):=rfl
theorem bO{H:Hp}{r:E2}{o:HO}{b:E2}{u:HO}(h:H r=Jp u)(n:H b=Jq):upd H b o r=Jp u:=by rw[aw (aU h n)];exact h
theorem ql{n:Nat}(h:0<n):ixN n (-1)=Jp (n-1):=by
 unfold ixN;rw[Jv (by decide),Jw (by lia)]
 congr 1
 lia
theorem qm{a:Type}(l:List a)(x y:a):(l++[x]).set ((l++[x]).length-1) y=l++[y]:=by
 have e:(l++[x]).length-1=l.length:=by simp
 rw[e,List.set_append_right _ _ (wN _),Nat.sub_self];rfl
theorem take_snoc{a:Type}{l:List a}{i:Nat}{x:a}(e:l[i]?=Jp x):l.take (i+1)=l.take i++[x]:=by rw[mL,e];rfl
theorem get_map{a:List Int}{i:Nat}{c:Int}(e:a[i]?=Jp c):(a.map V.int)[i]?=Jp (.int c):=by rw[eU,e];rfl
theorem of_map{a:List Int}{i:Nat}{x:V}(e:(a.map V.int)[i]?=Jp x):∃c,x=.int c/\a[i]?=Jp c:=by
 rw[eU]at e;cases q:a[i]? with
 |none=>rw[q]at e;cases e
 |some c=>rw[q]at e;cases e;exact⟨c,U,U⟩
def lets:Str := "abcdefghijklmnopqrstuvwxyz"
def isw(z:Str):Bool:=Jt ((1:Int)<=((z.length:Nat):Int)) && (Jt (((z.length:Nat):Int)<=12) && (!Jt (V.str z=V.str "not") && lL z lets))
theorem Ai{l:List Nat}{i:Nat}{c:Nat}{p:Nat->Bool}(e:l[i]?=Jp c)(h:p c=Js):l.all p=false:=by
 cases q:l.all p with
 |false=>rfl
 |true=>rw[iv.mp q c (Gd e)]at h;cases h
theorem all_succ{l:List Nat}{i:Nat}{c:Nat}{p:Nat->Bool}(e:l[i]?=Jp c)(h:p c=Jr)(a:(l.take i).all p=Jr):(l.take (i+1)).all p=true:=by
 rw[take_snoc e,List.all_append,a];simp[h]
theorem vV{z g:Str}(h:(z.cps.toList.take z.cps.size).all (sg g)=Jr):lL z g=true:=by
 have e:z.cps.toList.take z.cps.size=z.cps.toList:=by rw[←Ah];exact fq
 rw[e]at h;exact h
theorem Aj{g:Str}{c:Nat}(h:(!(!(GX.Str.occurrences g ⟨#[c]⟩ 0 g.length 1).isEmpty))=Jr):sg g c=false:=by unfold sg;simpa using h
theorem BJ{g:Str}{c:Nat}(h:¬ (!(!(GX.Str.occurrences g ⟨#[c]⟩ 0 g.length 1).isEmpty))=Jr):sg g c=true:=by unfold sg;simpa using h
theorem big{n:Nat}(h:n<=1000):n<=FL:=x3 (ay h)
def mkd(C:E2)(H:Hp)(x a:E2)(lo hi:Int):Hp:=upd (upd H x (.ins C a [("low",.int lo)])) x (.ins C a [("low",.int lo),("high",.int hi)])
theorem put2(v u:V):bp s!"high" u [(s!"low",v)]=[(s!"low",v),(s!"high",u)]:=by
 unfold bp bp;rw[Jv (by decide)]
theorem put3(v u t:V):bp s!"words" t [(s!"low",v),(s!"high",u)]=[(s!"low",v),(s!"high",u),(s!"words",t)]:=by
 unfold bp bp bp;rw[Jv (by decide),Jv (by decide)]
def hiW(zs:List Str):Int:=((zs.length:Nat):Int)-1
structure Good(zs:List Str):Prop where
 some_:1<=zs.length
 few:zs.length<=40
 words:∀z∈zs,isw z=Jr
 once:zs.Nodup
theorem og(zs:List Str):(zs.map V.str).all dZ=true:=by
 rw[vt];exact iv.mpr λ_ _=>U
theorem qo{zs:List Str}{i:Nat}{x:V}(e:(zs.map V.str)[i]?=Jp x):∃z,x=.str z/\zs[i]?=Jp z:=by
 rw[eU]at e;cases q:zs[i]? with
 |none=>rw[q]at e;cases e
 |some z=>rw[q]at e;cases e;exact⟨z,U,U⟩
def six:List Str:=[s!"first",s!"only",s!"like",s!"low",s!"high",s!"sum"]
theorem xG{i j:Nat}{z:Str}(h:six[i]?=Jp z)(k:six[j]?=Jp z):i=j:=jH (show six.Nodup by decide+kernel) h k
def WyN(C:E2)(H:Hp)(x:E2)(z:Str):Prop:=∃a,H x=Jp (.ins C a [("called",.str z)])
theorem WyN.same{C:E2}{H H':Hp}{x:E2}{z:Str}(h:WyN C H x z)(s:ao H H'):WyN C H' x z:=by obtain⟨a,e⟩:=h;exact⟨a,s _ _ e⟩
def uG(C:E2)(z:Str):Sp:=λb H Q _=>∃(x a:E2),b=[.ref x]/\H x=Jp (.ins C a [])/\Q .non (upd H x (.ins C a [("called",.str z)]))
theorem br:2<=FL:=by decide
def cl6(a b c d e f:E2):List E2:=[a,b,c,d,e,f]
def Ak(C:E2)(H:Hp)(a:E2)(lo hi:Int):Prop:=∃b fs,H a=Jp (.ins C b fs)/\fs.lookup s!"low"=Jp (.int lo)/\fs.lookup s!"high"=Jp (.int hi)/\fs.lookup s!"has_code"=Jq
def Dom(d c:E2)(H:Hp)(a:E2)(b:Int×Int):Prop:=∃C,(C=d\/C=c)/\Ak C H a b.1 b.2
theorem Dom.same{d c:E2}{H H':Hp}{a:E2}{b:Int×Int}(h:Dom d c H a b)(s:ao H H'):Dom d c H' a b:=by obtain⟨C,f,g,fs,e,r⟩:=h;exact⟨C,f,g,fs,s _ _ e,r⟩
def aC{b:Type}(xs:List V)(c:List b)(P:E2->b->Prop):Prop:=xs.length=c.length/\∀(j:Nat)(a:b),c[j]?=Jp a->∃r,xs[j]?=Jp (.ref r)/\P r a
theorem aC.mono{b:Type}{xs:List V}{c:List b}{P Q:E2->b->Prop}(h:aC xs c P)(k:∀r a,P r a->Q r a):aC xs c Q:=⟨h.1,λj a e=>let ⟨r,e1,p⟩:=h.2 j a e;⟨r,e1,k r a p⟩⟩
theorem aC.nil{b:Type}{P:E2->b->Prop}:aC [] [] P:=⟨U,(λj a e=>by simp at e)⟩
theorem aC.snoc{d:Type}{xs:List V}{c:List d}{P:E2->d->Prop}{r:E2}{a:d}(h:aC xs c P)(p:P r a):aC (xs++[.ref r]) (c++[a]) P:=by
 refine⟨by simp[h.1],λj b e=>?_⟩;by_cases g:j<c.length
 .rw[eX g]at e;obtain⟨i,k,q⟩:=h.2 j b e;exact⟨i,by rw[eX (by rw[h.1];exact g)];exact k,q⟩
 .have f:j=c.length:=by
   have:=(Gb.mp e).1;simp at this;lia
  subst f;simp at e;subst e;exact⟨r,by rw[←h.1];simp,p⟩
theorem aC.get{c:Type}{xs:List V}{b:List c}{P:E2->c->Prop}(h:aC xs b P){j:Nat}{x:V}(e:xs[j]?=Jp x):∃r a,x=.ref r/\b[j]?=Jp a/\P r a:=by
 have g:=(Gb.mp e).1;have d:=Ga (l:=b) (i:=j) (by rw[←h.1];exact g);obtain⟨r,f,p⟩:=h.2 j _ d;rw[e]at f;cases f;exact⟨r,_,U,d,p⟩
abbrev Prs:=List (Int×Int)
def SpA(N:E2->Prop)(H:Hp)(l:E2)(ps:Prs):Prop:=N l/\∃a,H l=Jp (.lst a)/\PL H a ps
def CL(N:E2->Prop)(H:Hp)(xs:List V)(a:List Prs):Prop:=aC xs a (SpA N H)
abbrev Rw:=List Prs×Int
def fN(N:E2->Prop)(H:Hp)(r:E2)(a:Rw):Prop:=∃b c,H r=Jp (.tup [.ref b,.int a.2])/\N b/\H b=Jp (.lst c)/\CL N H c a.1
def RL(N:E2->Prop)(H:Hp)(xs:List V)(rws:List Rw):Prop:=aC xs rws (fN N H)
theorem SpA.same{N:E2->Prop}{H H':Hp}{l:E2}{ps:Prs}(h:SpA N H l ps)(s:ao H H'):SpA N H' l ps:=by obtain⟨n,a,e,p⟩:=h;exact⟨n,a,s _ _ e,p.mono s.tups⟩
theorem CL.same{N:E2->Prop}{H H':Hp}{xs:List V}{a:List Prs}(h:CL N H xs a)(s:ao H H'):CL N H' xs a:=aC.mono h λ_ _ p=>p.same s
theorem fN.same{N:E2->Prop}{H H':Hp}{r:E2}{w:Rw}(h:fN N H r w)(s:ao H H'):fN N H' r w:=by obtain⟨b,a,e,n,f,c⟩:=h;exact⟨b,a,s _ _ e,n,s _ _ f,c.same s⟩
theorem RL.same{N:E2->Prop}{H H':Hp}{xs:List V}{rws:List Rw}(h:RL N H xs rws)(s:ao H H'):RL N H' xs rws:=aC.mono h λ_ _ p=>p.same s
abbrev NT:E2->Prop:=λ_=>True
theorem SpA.any{N:E2->Prop}{H:Hp}{l:E2}{ps:Prs}(h:SpA N H l ps):SpA NT H l ps:=⟨trivial,h.2⟩
theorem CL.any{N:E2->Prop}{H:Hp}{xs:List V}{a:List Prs}(h:CL N H xs a):CL NT H xs a:=aC.mono h λ_ _ p=>p.any
theorem fN.any{N:E2->Prop}{H:Hp}{r:E2}{w:Rw}(h:fN N H r w):fN NT H r w:=by obtain⟨b,a,e,_,f,c⟩:=h;exact⟨b,a,e,trivial,f,c.any⟩
theorem RL.any{N:E2->Prop}{H:Hp}{xs:List V}{rws:List Rw}(h:RL N H xs rws):RL NT H xs rws:=aC.mono h λ_ _ p=>p.any
theorem SpA.wk{N b:E2->Prop}{H:Hp}{l:E2}{ps:Prs}(h:SpA N H l ps)(k:∀a,N a->b a):SpA b H l ps:=⟨k _ h.1,h.2⟩
theorem CL.wk{N c:E2->Prop}{H:Hp}{xs:List V}{b:List Prs}(h:CL N H xs b)(k:∀a,N a->c a):CL c H xs b:=aC.mono h λ_ _ p=>p.wk k
theorem fN.wk{N b:E2->Prop}{H:Hp}{r:E2}{w:Rw}(h:fN N H r w)(k:∀a,N a->b a):fN b H r w:=by obtain⟨g,d,e,n,f,c⟩:=h;exact⟨g,d,e,k _ n,f,c.wk k⟩
theorem SpA.updN{N:E2->Prop}{D:E2}{H:Hp}{l:E2}{ps:Prs}{zs:List V}{o:HO}(h:SpA N H l ps)(n:¬ N D)(e:H D=Jp (.lst zs)):SpA N (upd H D o) l ps:=by
 obtain⟨m,a,f,p⟩:=h;exact⟨m,a,(aw (λz=>n (by rw[←z];exact m))).trans f,p.mono (bj e)⟩
theorem CL.updN{N:E2->Prop}{D:E2}{H:Hp}{xs:List V}{a:List Prs}{zs:List V}{o:HO}(h:CL N H xs a)(n:¬ N D)(e:H D=Jp (.lst zs)):CL N (upd H D o) xs a:=aC.mono h λ_ _ p=>p.updN n e
theorem fN.updN{N:E2->Prop}{D:E2}{H:Hp}{r:E2}{w:Rw}{zs:List V}{o:HO}(h:fN N H r w)(n:¬ N D)(e:H D=Jp (.lst zs)):fN N (upd H D o) r w:=by
 obtain⟨b,a,f,m,g,c⟩:=h;exact⟨b,a,(aw (fJ f e (by intro z;cases z))).trans f,m,(aw (λz=>n (by rw[←z];exact m))).trans g,c.updN n e⟩
theorem RL.updN{N:E2->Prop}{D:E2}{H:Hp}{xs:List V}{rws:List Rw}{zs:List V}{o:HO}(h:RL N H xs rws)(n:¬ N D)(e:H D=Jp (.lst zs)):RL N (upd H D o) xs rws:=aC.mono h λ_ _ p=>p.updN n e
def Fr(H:Hp)(D:E2):E2->Prop:=λa=>H a=Jq/\a≠D
theorem Fr.out{H:Hp}{D:E2}:¬ Fr H D D:=λh=>h.2 U
structure FH(b:Int×Int)(zs:List Str):Prop where
 le:b.1<=b.2
 ws:zs≠[]->Good zs/\b=(0,hiW zs)
structure qp(bs:Prs)(o:Int×Int)(w:Rw):Prop where
 len:w.1.length=bs.length
 inn:∀(j:Nat)(ps:Prs)(b:Int×Int),w.1[j]?=Jp ps->bs[j]?=Jp b->∀p∈ps,b.1<=p.1/\p.2<=b.2
 lo:o.1<=w.2
 hi:w.2<=o.2
def jh(a:List Prs)(b:List Int):Bool:=(List.range b.length).all λj=>inP (a.getD j []) (b.getD j 0)
theorem pf1(b a:V):bp s!"names" a [(s!"name",b)]=[(s!"name",b),(s!"names",a)]:=by
 unfold bp bp;rw[Jv (by decide)]
theorem pf2(c b a:V):bp s!"domains" a [(s!"name",c),(s!"names",b)]=[(s!"name",c),(s!"names",b),(s!"domains",a)]:=by
 unfold bp bp bp;rw[Jv (by decide),Jv (by decide)]
theorem pf3(d c b a:V):bp s!"outcome" a [(s!"name",d),(s!"names",c),(s!"domains",b)]=[(s!"name",d),(s!"names",c),(s!"domains",b),(s!"outcome",a)]:=by
 unfold bp bp bp bp;rw[Jv (by decide),Jv (by decide),Jv (by decide)]
theorem pf4(e d c b a:V):bp s!"way" a [(s!"name",e),(s!"names",d),(s!"domains",c),(s!"outcome",b)]=[(s!"name",e),(s!"names",d),(s!"domains",c),(s!"outcome",b),(s!"way",a)]:=by
 unfold bp bp bp bp bp;rw[Jv (by decide),Jv (by decide),Jv (by decide),Jv (by decide)]
theorem pf5(f e d c b a:V):bp s!"rows" a [(s!"name",f),(s!"names",e),(s!"domains",d),(s!"outcome",c),(s!"way",b)]=[(s!"name",f),(s!"names",e),(s!"domains",d),(s!"outcome",c),(s!"way",b),(s!"rows",a)]:=by
 unfold bp bp bp bp bp bp;rw[Jv (by decide),Jv (by decide),Jv (by decide),Jv (by decide),Jv (by decide)]
def hide(H:Hp)(x:E2):Hp:=λb=>if b=x then Jq else H b
theorem bG{H:Hp}{x b:E2}{o:HO}(e:H b=Jp o)(n:b≠x):hide H x b=Jp o:=by unfold hide;rw[Jv n];exact e
theorem hide_same{H H':Hp}{x:E2}(k:∀b o,b≠x->H b=Jp o->H' b=Jp o):ao (hide H x) H':=λb o e=>by
 unfold hide at e;by_cases h:b=x
 .rw[Jw h]at e;cases e
 .rw[Jv h]at e;exact k b o h e
theorem PL.hide{H:Hp}{x C c:E2}{fs:List (Str×V)}(a:H x=Jp (.ins C c fs)){ys:List V}{ps:Prs}(h:PL H ys ps):PL (hide H x) ys ps :=
 h.mono λb d e=>bG e (fJ e a (by intro z;cases z))
theorem RL.hide{H:Hp}{x C d:E2}{fs:List (Str×V)}(a:H x=Jp (.ins C d fs)){xs:List V}{rws:List Rw}(h:RL NT H xs rws):RL NT (My.hide H x) xs rws :=
 aC.mono h λr w ⟨j,i,e,_,f,c⟩=>⟨j,i,bG e (fJ e a (by intro z;cases z)),trivial,bG f (fJ f a (by intro z;cases z)),aC.mono c λl k ⟨_,b,g,p⟩=>⟨trivial,b,bG g (fJ g a (by intro z;cases z)),PL.hide a p⟩⟩
def wcs(c k:Int):List Nat:=List.replicate (c / 26%6).toNat (97+(c%26).toNat)++([97+(k / 7%7).toNat,97+(k%7).toNat]++List.replicate (k%5).toNat (97+(c / 156%26).toNat))
def wd(c k:Int):Str:=⟨(wcs c k).toArray⟩
theorem xH(c k:Int):(wcs c k).length=(c / 26%6).toNat+(2+(k%5).toNat):=by unfold wcs;simp;lia
theorem oV(c k:Int):(wcs c k)[(c / 26%6).toNat]?=Jp (97+(k / 7%7).toNat):=by
 unfold wcs;rw[js (by simp)];simp
theorem tm(c k:Int):(wcs c k)[(c / 26%6).toNat+1]?=Jp (97+(k%7).toNat):=by
 unfold wcs;rw[js (by simp)];simp
theorem Al(c k:Int):(wd c k).length=(c / 26%6).toNat+(2+(k%5).toNat):=by
 rw[←xH c k];unfold wd;simp[Str.length]
theorem BK(c k:Int):2<=(wd c k).length/\(wd c k).length<=11:=by
 rw[Al];have b:=zz (c / 26) (show(0:Int)<6 by decide);have a:=zz k (show(0:Int)<5 by decide);lia
theorem Am{c:Nat}(h:97<=c/\c<=122):sg lets c=true:=by
 have:∀d:Nat,d<26->sg lets (97+d)=true:=by decide+kernel
 have z:=this (c-97) (by lia);rw[show 97+(c-97)=c by lia]at z;exact z
theorem xI(c k:Int):∀x∈wcs c k,97<=x/\x<=122:=λx a=>by
 have f:=zz c (show(0:Int)<26 by decide);have e:=zz (c / 156) (show(0:Int)<26 by decide);have d:=zz (k / 7) (show(0:Int)<7 by decide);have b:=zz k (show(0:Int)<7 by decide);unfold wcs at a;simp only[iK,List.mem_replicate,dy,jr,or_false]at a;rcases a with⟨_,rfl⟩|(rfl|rfl)|⟨_,rfl⟩ <;> lia
theorem rZ(c k:Int):isw (wd c k)=true:=by
 have f:=BK c k;have d:lL (wd c k) lets=true:=by
  unfold lL wd;rw[iv];intro x a;exact Am (xI c k x (by simpa using a))
 have b:¬ (V.str (wd c k)=V.str s!"not"):=λh=>by
  injection h with h;have e:s!"not" = ⟨[110,111,116].toArray⟩:=by decide+kernel
  rw[e]at h;unfold wd at h;injection h with h;have h:wcs c k=[110,111,116]:=by simpa using JB Array.toList h
  have z:=oV c k;rw[h]at z;have g:=zz (k / 7) (show(0:Int)<7 by decide);have m:=Gd z;simp only[dy,jr,or_false]at m;lia
 unfold isw;rw[d,Jy (show(1:Int)<=(((wd c k).length:Nat):Int) by lia),Jy (show(((wd c k).length:Nat):Int)<=12 by lia)];show(Jr && (Jr && (!Jt (V.str (wd c k)=V.str s!"not") && Jr)))=Jr;rw[Jz b];rfl
theorem An{c k d:Int}(i:0<=k)(h:k<49)(g:0<=d)(f:d<49)(e:wd c k=wd c d):k=d:=by
 unfold wd at e;injection e with e;have e:wcs c k=wcs c d:=by simpa using JB Array.toList e
 have a:=oV c k;have b:=tm c k;rw[e,oV]at a;rw[e,tm]at b;injection a with a;injection b with b;lia
theorem kY{s:Str}{n:Nat}(h:s.cps.toList=(List.range n).map (97 + ·)){k:Int}(c:0<=k)(b:k<n):atI s.cps.toList k=Jp (97+k.toNat):=by
 have a:k.toNat<n:=by lia
 have z:s.cps.toList[k.toNat]?=Jp (97+k.toNat):=by rw[h,eU,uV a];rfl
 have q:=bN z;rw[show((k.toNat:Nat):Int)=k by lia]at q;exact q
theorem yM:s!"abcdefghijklmnopqrstuvwxyz".cps.toList=(List.range 26).map (97 + ·):=by decide+kernel
theorem BL:s!"abcdefg".cps.toList=(List.range 7).map (97 + ·):=by decide+kernel
theorem BM(c:Nat)(n:Int):Txt.mul ⟨#[c]⟩ n=⟨(List.replicate n.toNat c).toArray⟩:=by
 have h:=PyProof.Rows.mul_one_list c n;cases q:Txt.mul ⟨#[c]⟩ n with
 |mk a=>rw[q]at h;simp only at h;rw[←h]
def wds(c:Int)(n:Nat):List Str:=(List.range n).map λj:Nat=>wd c (j:Int)
theorem vW(c:Int)(n:Nat):wds c (n+1)=wds c n++[wd c (n:Int)]:=by unfold wds;rw[oz,fR];rfl
theorem oh{c:Int}{n:Nat}(h:n<=49)(f:Nat->Int)(g:∀j,j<n->0<=f j/\f j<49)(inj:∀i j,f i=f j->i=j):((List.range n).map λj:Nat=>wd c (f j)).Nodup:=by
 rw[List.nodup_iff_pairwise_ne,List.pairwise_map];refine List.Pairwise.imp_of_mem (R:=λa b=>a≠b) (λ{a b} o m d e=>?_) List.nodup_range;have l:=g a (hV.mp o);have k:=g b (hV.mp m);exact d (inj a b (An l.1 l.2 k.1 k.2 e))
theorem vX{c:Int}{n:Nat}(f:1<=n)(d:n<=40):Good (wds c n):=by
 refine⟨by unfold wds;simp;lia,by unfold wds;simp;lia,λz a=>?_,oh (n:=n) (by lia) (λj:Nat=>(j:Int)) (λj b=>⟨by lia,by lia⟩) λi j e=>by lia⟩;unfold wds at a;obtain⟨j,_,rfl⟩:=eR.mp a;exact rZ _ _
abbrev SI:=Str×Int
def tp(p:SI):List V:=[.str p.1,.int p.2]
def say(i:Int):SI:=(s!"say",i)
def kL:SI:=(s!"clash",0)
def Dn:SI:=(s!"none",0)
def least(a:List Int):Int:=a.foldl (λm c=>if c<m then c else m) (a.headD 0)
def great(a:List Int):Int:=a.foldl (λm c=>if c>m then c else m) (a.headD 0)
theorem fold_min(a:List Int):∀m:Int,(a.foldl (λm c=>if c<m then c else m) m=m\/a.foldl (λm c=>if c<m then c else m) m∈a)/\a.foldl (λm c=>if c<m then c else m) m<=m/\∀x∈a,a.foldl (λm c=>if c<m then c else m) m<=x:=by
 induction a with
 |nil=>intro m;exact⟨.inl U,Int.le_refl _,λx h=>by cases h⟩
 |cons n a f =>
  intro m;obtain⟨b,e,g⟩:=f (if n<m then n else m);rw[List.foldl_cons];refine⟨?_,?_,λx d=>?_⟩
  .rcases b with b|b
   .rw[b];split
    .exact .inr gb
    .exact .inl U
   .exact .inr (ik _ b)
  .split at e <;> split <;> lia
  .rcases dy.mp d with rfl|d
   .split at e <;> split <;> lia
   .exact g x d
theorem fold_max(a:List Int):∀m:Int,(a.foldl (λm c=>if c>m then c else m) m=m\/a.foldl (λm c=>if c>m then c else m) m∈a)/\m<=a.foldl (λm c=>if c>m then c else m) m/\∀x∈a,x<=a.foldl (λm c=>if c>m then c else m) m:=by
 induction a with
 |nil=>intro m;exact⟨.inl U,Int.le_refl _,λx h=>by cases h⟩
 |cons n a f =>
  intro m;obtain⟨b,e,g⟩:=f (if n>m then n else m);rw[List.foldl_cons];refine⟨?_,?_,λx d=>?_⟩
  .rcases b with b|b
   .rw[b];split
    .exact .inr gb
    .exact .inl U
   .exact .inr (ik _ b)
  .split at e <;> split <;> lia
  .rcases dy.mp d with rfl|d
   .split at e <;> split <;> lia
   .exact g x d
theorem fO{n:Int}{a:List Int}:least (n :: a)∈n :: a/\∀x∈n :: a,least (n :: a)<=x:=by
 obtain⟨b,d,c⟩:=fold_min (n :: a) n;refine⟨?_,c⟩;rcases b with b|b
 .show(n :: a).foldl _ n∈_;rw[b];exact gb
 .exact b
theorem gN{n:Int}{a:List Int}:great (n :: a)∈n :: a/\∀x∈n :: a,x<=great (n :: a):=by
 obtain⟨b,d,c⟩:=fold_max (n :: a) n;refine⟨?_,c⟩;rcases b with b|b
 .show(n :: a).foldl _ n∈_;rw[b];exact gb
 .exact b
theorem ma{n m:Int}{c:List Int}(e:m∈n :: c)(d:∀b∈n :: c,m<=b):m=least (n :: c):=by
 have a:=d _ fO.1;have b:=fO.2 _ e;lia
theorem md{n m:Int}{c:List Int}(e:m∈n :: c)(d:∀b∈n :: c,b<=m):m=great (n :: c):=by
 have a:=d _ gN.1;have b:=gN.2 _ e;lia
def Dp(a:List Int):SI:=say (least a)
def BN(a:List Int):SI:=say (great a)
def jW(a:List Int):SI:=if least a=great a then say (least a)else kL
theorem ku{n:Int}{a:List Int}:(∀x∈a,x=n)↔least (n :: a)=great (n :: a):=by
 constructor
 .intro h;have e:∀x∈n :: a,x=n:=λx b=>by
   rcases dy.mp b with r|b
   .exact r
   .exact h x b
  rw[e _ fO.1,e _ gN.1]
 .intro h x b;have g:=fO.2 x (ik n b);have f:=gN.2 x (ik n b);have d:=fO.2 n (gb (l:=a));have c:=gN.2 n (gb (l:=a));lia
theorem oi{n:Int}{a:List Int}(h:∀x∈a,x=n):least (n :: a)=n:=by
 have e:∀x∈n :: a,x=n:=λx b=>by
  rcases dy.mp b with r|b
  .exact r
  .exact h x b
 exact e _ fO.1
def ver(f:List Int->SI):List Int->SI
 | []=>Dn
 |n :: ns=>f (n :: ns)
def Wy(C:E2)(H:Hp)(x:E2):Prop:=∃a z,H x=Jp (.ins C a [("called",.str z)])
def Ao(a:List Int):SI:=say (a.headD 0)
def jX(a:List Int):SI:=if a.length=1 then say (a.headD 0)else kL
def near(lo hi n:Int):Int:=if n<lo then lo else if n>hi then hi else n
def wf:Nat->Int->Int->List Int->SI
 |0,_,_=>Ao
 |1,_,_=>jX
 |2,_,_=>jW
 |3,_,_=>Dp
 |4,_,_=>BN
 |_,lo,hi=>λa=>say (near lo hi a.sum)
theorem at0(n:Int)(a:List Int):atI ((n :: a).map V.int) 0=Jp (.int n):=bN (j:=0) U
def uH(K:W.Frag)(C g f:E2)(i:Nat):Sp:=λe H Q _=>∃(x c o:E2)(n:Int)(a:List Int)(b:Int×Int),e=[.ref x,.ref c,.ref o]/\Wy C H x/\Dom g f H o b/\b.1<=b.2/\SqL K H c ((n :: a).map V.int)/\a.length<900/\∀(r:E2)(d:Hp),ao H d->SqT K d r (tp (wf i b.1 b.2 (n :: a)))->Q (.ref r) d
def jY(K:W.Frag)(C g f:E2)(i:Nat):Sp:=λe H Q _=>∃(x c o:E2)(a:List Int)(b:Int×Int),e=[.ref x,.ref c,.ref o]/\Wy C H x/\Dom g f H o b/\b.1<=b.2/\SqL K H c (a.map V.int)/\a.length<900/\∀(r:E2)(d:Hp),ao H d->SqT K d r (tp (ver (wf i b.1 b.2) a))->Q (.ref r) d
def msk(f:Nat->Bool):Nat->Nat
 |0=>0
 |n+1=>(if f n then 2^n else 0)+msk f n
theorem fP(f:Nat->Bool)(n:Nat):msk f (n+1)=(if f n then 2^n else 0)+msk f n:=rfl
theorem se(f:Nat->Bool):∀n,msk f n<2^n
 |0=>Nat.one_pos
 |n+1=>by
  have:=se f n;unfold msk;rw[zt];split <;> lia
theorem kZ(f:Nat->Bool)(k:Nat):∀n,(msk f n).testBit k=(Jt (k<n) && f k)
 |0=>by simp[msk]
 |n+1=>by
  have b:=kZ f k n;have lt:=se f n;unfold msk;rcases Nat.lt_trichotomy k n with h|h|h
  .split
   .rw[Nat.testBit_two_pow_add_gt h,b];simp[h,xu h]
   .rw[yk,b];simp[h,xu h]
  .subst h;split
   .rename_i hf
    rw[Nat.testBit_two_pow_add_eq,Nat.testBit_lt_two_pow lt];simp[hf]
   .rename_i hf
    rw[yk,Nat.testBit_lt_two_pow lt];simp[hf]
  .have a:(if f n=Jr then 2^n else 0)+msk f n<2^k:=wW (se f (n+1)) (Nat.pow_le_pow_right (by decide) h);rw[Nat.testBit_lt_two_pow a];simp;lia
def di(m:Int)(k:Nat):Bool:=GX.bitAnd (m / 2^k) 1 != 0
theorem uI(f:Nat->Bool)(n k:Nat):di ((msk f n:Nat):Int) k=(Jt (k<n) && f k):=by
 rw[←kZ];unfold di;have e:((msk f n:Nat):Int) / 2^k=((msk f n / 2^k:Nat):Int):=by simp
 rw[e,PyProof.Rows.bitAnd_pp (zL _) (by decide)];unfold Nat.testBit;rw[Nat.shiftRight_eq_div_pow,zK,Nat.and_comm];show((((1:Int).toNat &&& (msk f n / 2^k):Nat):Int) != 0)=_;rw[Bool.eq_iff_iff,bne_iff_ne,bne_iff_ne];constructor
 .intro h z;exact h (by rw[show(1:Int).toNat=1 from U,z];rfl)
 .intro h z;exact h (by rw[show(1:Int).toNat=1 from U]at z;lia)
def pkF(rws:List Rw)(f:Nat->Bool)(n:Nat):List Int:=((List.range n).filter f).map λk=>(rws.getD k ([],0)).2
theorem qr(rws:List Rw)(f:Nat->Bool)(n:Nat):pkF rws f (n+1)=pkF rws f n++(if f n then[(rws.getD n ([],0)).2] else[]):=by
 unfold pkF;rw[oz,lq,fR];cases h:f n with
 |true=>rw[List.filter_cons_of_pos h];simp
 |false=>rw[List.filter_cons_of_neg (by rw[h];exact Bool.false_ne_true)];simp
theorem tq(rws:List Rw)(f:Nat->Bool)(n:Nat):(pkF rws f n).length<=n:=by
 unfold pkF;rw[bo];exact wX (uW ..) (by simp)
theorem tD(rws:List Rw)(f:Nat->Bool)(n:Nat):pkF rws (di ((msk f n:Nat):Int)) n=pkF rws f n:=by
 unfold pkF
 congr 1
 apply List.filter_congr
 intro k a;rw[uI];simp[hV.mp a]
def Tbl(g h f:E2)(H:Hp)(t:E2)(rws:List Rw)(i:Nat)(o:Int×Int):Prop:=∃(c d e:E2)(fs:List (Str×V))(a:List V)(b:Str),H t=Jp (.ins g e fs)/\fs.lookup s!"rows"=Jp (.ref c)/\fs.lookup s!"way"=Jp (.str b)/\fs.lookup s!"outcome"=Jp (.ref d)/\H c=Jp (.lst a)/\RL NT H a rws/\six[i]?=Jp b/\Dom h f H d o/\o.1<=o.2/\a.length<=200
theorem Tbl.same{c d b:E2}{H H':Hp}{t:E2}{rws:List Rw}{i:Nat}{o:Int×Int}(h:Tbl c d b H t rws i o)(s:ao H H'):Tbl c d b H' t rws i o:=by
 obtain⟨g,j,w,fs,e,f,v,u,r,q,p,n,m,l,k,a⟩:=h;exact⟨g,j,w,fs,e,f,s _ _ v,u,r,q,s _ _ p,n.same s,m,l.same s,k,a⟩
def gD(rws:List Rw)(a:List Int)(k:Nat):Bool:=jh (rws.getD k ([],0)).1 a
theorem getD_at{rws:List Rw}{k:Nat}{w:Rw}(e:rws[k]?=Jp w):rws.getD k ([],0)=w:=by rw[dV,e];rfl
def fl(rws:List Rw)(a:List Int):List Int:=(rws.filter λw=>jh w.1 a).map (·.2)
theorem tE(rws:List Rw)(w:Rw)(a:List Int):fl (rws++[w]) a=fl rws a++(if jh w.1 a then[w.2] else[]):=by
 unfold fl;rw[lq,fR];cases h:jh w.1 a <;> simp[List.filter_cons,h]
theorem qt(rws:List Rw)(b:List Int):∀n,n<=rws.length->pkF rws (gD rws b) n=fl (rws.take n) b
 |0,_=>by simp[pkF,fl]
 |n+1,h=>by
  have a:rws[n]?=Jp rws[n]:=Ga h;rw[qr,qt rws b n (Nat.le_of_succ_le h),take_snoc a,tE,getD_at a];unfold gD;rw[getD_at a]
theorem Ap(rws:List Rw)(a:List Int):pkF rws (gD rws a) rws.length=fl rws a:=by
 rw[qt rws a _ (wN _),fq]
structure Lay(H:Hp)(r1:E2)(F2 F3:E2->Prop)(m:Nat):Prop where
 top:∃xs,H r1=Jp (.lst xs)/\xs.length<=63/\∀x∈xs,∃(t ce:E2)(c:Int),x=.ref t/\H t=Jp (.tup [.ref ce,.int c])/\F2 ce
 mid:∀ce,F2 ce->∃ys,H ce=Jp (.lst ys)/\ys.length<=4/\∀y∈ys,∃l,y=.ref l/\F3 l
 low:∀l,F3 l->∃zs,H l=Jp (.lst zs)/\zs.length<=m
 n2:¬ F2 r1
 n3:¬ F3 r1
 n23:∀a,F2 a->F3 a->False
theorem vY(x:V)(xs:List V):kP (x :: xs) (Jp 1) Jq=xs:=by
 unfold kP;simp[HT.sIx]
theorem tF{K:W.Frag}{H:Hp}{n:Nat}{a b:E2}{xs ys:List V}(g:SqL K H a xs)(d:SqL K H b ys)(c:xs.length=ys.length)(h:∀(j:Nat)(x y:V),xs[j]?=Jp x->ys[j]?=Jp y->DEq K H n x y Jr):DEq K H (n+1) (.ref a) (.ref b) true:=by
 by_cases e:a=b
 .subst e;exact .same a
 .have:=DEq.lst (f:=λ_=>Jr) e g d c h;rw[show(List.range xs.length).all (λ_=>Jr)=Jr by simp]at this;exact this
theorem tG{K:W.Frag}{H:Hp}{n:Nat}{a b:E2}{xs ys:List V}(g:SqT K H a xs)(d:SqT K H b ys)(c:xs.length=ys.length)(h:∀(j:Nat)(x y:V),xs[j]?=Jp x->ys[j]?=Jp y->DEq K H n x y Jr):DEq K H (n+1) (.ref a) (.ref b) true:=by
 by_cases e:a=b
 .subst e;exact .same a
 .have:=DEq.tup (f:=λ_=>Jr) e g d h;rw[show((List.range (min xs.length ys.length)).all (λ_=>Jr) && xs.length == ys.length)=Jr by simp[c]]at this;exact this
theorem oW{K:W.Frag}{H:Hp}{n:Nat}(i:Int):DEq K H n (.int i) (.int i) true:=by
 have:=DEq.flat (K:=K) (H:=H) (n:=n) (x:=.int i) (y:=.int i) U U;rw[show eqV (.int i) (.int i)=Jr by simp[eqV]]at this;exact this
theorem Aq{K:W.Frag}{H:Hp}{n:Nat}{xs ys:List V}{ps:Prs}(h:PL H xs ps)(h':PL H ys ps)(j:Nat)(x y:V)(i:xs[j]?=Jp x)(g:ys[j]?=Jp y):DEq K H (n+1) x y true:=by
 obtain⟨u,r,f,rfl,e⟩:=h.get i;obtain⟨k,l,b,rfl,d⟩:=h'.get g;rw[f]at b;cases b;refine tG (SqT.of e) (SqT.of d) U λj x y a c=>?_
 rw[a]at c;cases c
 match j,a with
 |0,a=>cases a;exact oW _
 |1,a=>cases a;exact oW _
 |j+2,a=>simp at a
theorem aC.drop{b:Type}{xs:List V}{c:List b}{P:E2->b->Prop}(h:aC xs c P)(k:Nat):aC (xs.drop k) (c.drop k) P:=by
 refine⟨by rw[kB,kB,h.1],λj a e=>?_⟩;rw[List.getElem?_drop]at e;obtain⟨r,d,p⟩:=h.2 _ a e;exact⟨r,by rw[List.getElem?_drop];exact d,p⟩
structure Pts(ps:List Int):Prop where
 two:2<=ps.length
 few:ps.length<=13
 asc:ps.Pairwise (· < ·)
def s2(c:Int):List Nat:=[113+(c%8).toNat,121+(c / 8%2).toNat]
def w3l(c k:Int):List Nat:=(s2 c).take (c / 16%3).toNat++([97+k.toNat]++(s2 c).drop (c / 16%3).toNat)
def w3(c k:Int):Str:=⟨(w3l c k).toArray⟩
theorem aC.take{b:Type}{xs:List V}{c:List b}{P:E2->b->Prop}(h:aC xs c P)(k:Nat):aC (xs.take k) (c.take k) P:=by
 refine⟨by rw[ia,ia,h.1],λj a e=>?_⟩;rw[List.getElem?_take]at e;split at e
 .rename_i hj
  obtain⟨r,d,p⟩:=h.2 _ a e;exact⟨r,by rw[List.getElem?_take,Jw hj];exact d,p⟩
 .cases e
theorem aC.app{d:Type}{xs ys:List V}{c bs:List d}{P:E2->d->Prop}(h:aC xs c P)(h':aC ys bs P):aC (xs++ys) (c++bs) P:=by
 refine⟨by rw[dq,dq,h.1,h'.1],λj a e=>?_⟩;by_cases f:j<c.length
 .rw[eX f]at e;obtain⟨r,b,p⟩:=h.2 _ a e;exact⟨r,by rw[eX (by rw[h.1];exact f)];exact b,p⟩
 .rw[js (by lia)]at e;obtain⟨r,b,p⟩:=h'.2 _ a e;exact⟨r,by rw[js (by rw[h.1];lia),h.1];exact b,p⟩
theorem xJ{K:W.Frag}{H:Hp}{r k:E2}{w:Rw}(h:fN NT H r w)(h':fN NT H k w):DEq K H 60 (.ref r) (.ref k) true:=by
 obtain⟨I,G,q,_,p,o⟩:=h;obtain⟨C,B,g,_,f,d⟩:=h';refine tG (n:=59) (SqT.of q) (SqT.of g) U λj x y a b=>?_
 match j,a,b with
 |0,a,b =>
  cases a;cases b;refine tF (n:=58) (SqL.of p) (SqL.of f) (by rw[o.1,d.1]) λj x y t s=>?_
  obtain⟨l,E,rfl,u,_,D,v,m⟩:=aC.get o t;obtain⟨F,A,rfl,e,_,z,i,c⟩:=aC.get d s;rw[u]at e;cases e;exact tF (n:=57) (SqL.of v) (SqL.of i) (by rw[m.length,c.length]) (Aq (n:=56) m c)
 |1,a,b=>cases a;cases b;exact oW _
 |j+2,a,b=>simp at a
theorem uJ{K:W.Frag}{H:Hp}{Q:VK}{a b:E2}{xs ys:List V}(e:SqL K H a xs)(d:SqL K H b ys)(c:xs.length=ys.length)(h:∀(j:Nat)(x y:V),xs[j]?=Jp x->ys[j]?=Jp y->DEq K H 60 x y Jr)(q:Q (.bl Jr) H):pV K Js (.ref a) (.ref b) H Q:=by
 refine⟨a,b,xs,ys,U,U,e,d,.inr ⟨c,λ_=>Jr,h,?_⟩⟩;rw[show(List.range xs.length).all (λ_=>Jr)=Jr by simp];exact q
theorem uK{K:W.Frag}{H:Hp}{Q:VK}{a b:E2}{xs ys:List V}(e:SqL K H a xs)(d:SqL K H b ys)(c:xs.length=ys.length)(h:∀(j:Nat)(x y:V),xs[j]?=Jp x->ys[j]?=Jp y->DEq K H 60 x y Jr)(q:Q (.bl Js) H):pV K Jr (.ref a) (.ref b) H Q:=by
 refine⟨a,b,xs,ys,U,U,e,d,.inr ⟨c,λ_=>Jr,h,?_⟩⟩;rw[show(List.range xs.length).all (λ_=>Jr)=Jr by simp];exact q
theorem qu{K:W.Frag}{H:Hp}{xs ys:List V}{rws:List Rw}(h:RL NT H xs rws)(h':RL NT H ys rws)(j:Nat)(x y:V)(f:xs[j]?=Jp x)(e:ys[j]?=Jp y):DEq K H 60 x y true:=by
 obtain⟨r,w,rfl,d,c⟩:=aC.get h f;obtain⟨i,g,rfl,a,b⟩:=aC.get h' e;rw[d]at a;cases a;exact xJ c b
def cb(lo hi:Int)(a:List Int):List (Int×Int):=(lo :: a).zip (a.map (· - 1)++[hi])
def Chn:List (Int×Int)->Int->Int->Prop
 | [],lo,hi=>lo=hi+1
 |p :: r,lo,hi=>p.1=lo/\lo<=p.2/\Chn r (p.2+1) hi
theorem qv:∀{a:List Int}{lo hi:Int},a.Pairwise (· < ·)->(∀c∈a,lo<c/\c<=hi)->lo<=hi->Chn (cb lo hi a) lo hi
 | [],lo,hi,_,_,h=>⟨U,h,U⟩
 |c :: a,lo,hi,hp,hb,h=>by
  obtain⟨i,g⟩:=qJ.mp hp;have f:=hb c gb;have e:cb lo hi (c :: a)=(lo,c-1) :: cb c hi a:=rfl;rw[e];refine⟨U,by show lo<=c-1;lia,?_⟩;show Chn (cb c hi a) (c-1+1) hi;rw[show c-1+1=c by lia];exact qv g (λd b=>⟨i d b,(hb d (ik _ b)).2⟩) f.2
theorem gO(lo hi:Int)(a:List Int):(cb lo hi a).length=a.length+1:=by simp[cb]
theorem PL.of_get{H:Hp}:∀{ts:List E2}{ps:List (Int×Int)},ts.length=ps.length->(∀(j:Nat)(p:Int×Int),ps[j]?=Jp p->∃T,ts[j]?=Jp T/\H T=Jp (.tup [.int p.1,.int p.2]))->PL H (ts.map V.ref) ps
 | [],[],_,_=>.nil
 | [],p :: ps,h,_=>by simp at h
 |t :: ts,[],h,_=>by simp at h
 |t :: ts,p :: ps,h,g=>by
  obtain⟨T,c,b⟩:=g 0 p U;have:t=T:=by simpa using c
  subst this;exact .cons ⟨t,U,b⟩ (PL.of_get (by simpa using h) λj q a=>by simpa using g (j+1) q (by simpa using a))
theorem zip_get{lo hi:Int}{a:List Int}{j:Nat}{p:Int×Int}(e:(cb lo hi a)[j]?=Jp p):((lo :: a).map V.int)[j]?=Jp (.int p.1)/\((a.map (· - 1)++[hi]).map V.int)[j]?=Jp (.int p.2):=by
 unfold cb at e;rw[qV]at e;obtain⟨c,b⟩:=e;exact⟨get_map c,get_map b⟩
def mf(lo hi:Int)(a:List Int)(m:Int):List Int:=if lo<m/\m<=hi/\m ∉ a then a++[m]else a
def dd(lo hi:Int)(a:List Int):List Int:=a.foldl (mf lo hi) []
theorem oX(lo hi:Int):∀(e d:List Int),d.Nodup->(e.foldl (mf lo hi) d).Nodup/\∀c,c∈e.foldl (mf lo hi) d↔(c∈d\/(c∈e/\lo<c/\c<=hi))
 | [],d,h=>⟨h,λc=>by simp⟩
 |m :: e,d,h=>by
  have k:(mf lo hi d m).Nodup:=by
   unfold mf;split
   .rename_i g
    rw[tU];refine⟨h,by simp,λa j b i=>?_⟩;have:b=m:=by simpa using i
    subst this;exact λz=>g.2.2 (z ▸ j)
   .exact h
  obtain⟨n,l⟩:=oX lo hi e (mf lo hi d m) k;refine⟨n,λc=>(l c).trans ?_⟩;unfold mf;by_cases g:lo<m/\m<=hi/\m ∉ d
  .rw[Jw g];simp only[iK,dy,jr,or_false];constructor
   .rintro((h|rfl)|⟨h,h'⟩)
    .exact .inl h
    .exact .inr ⟨.inl U,g.1,g.2.1⟩
    .exact .inr ⟨.inr h,h'⟩
   .rintro(h|⟨rfl|h,h'⟩)
    .exact .inl (.inl h)
    .exact .inl (.inr U)
    .exact .inr ⟨h,h'⟩
  .rw[Jv g];simp only[dy];constructor
   .rintro(h|⟨h,h'⟩)
    .exact .inl h
    .exact .inr ⟨.inr h,h'⟩
   .rintro(h|⟨rfl|h,h'⟩)
    .exact .inl h
    .by_cases f:c∈d
     .exact .inl f
     .exact Jx ⟨h'.1,h'.2,f⟩ g
    .exact .inr ⟨h,h'⟩
theorem Ar{lo hi:Int}{a b:List Int}(g:b.Pairwise (· < ·))(i:∀c,c∈b↔(c∈a/\lo<c/\c<=hi)):b.length=(dd lo hi a).length:=by
 obtain⟨j,f⟩:=oX lo hi a [] tV;have e:∀c,c∈b↔c∈dd lo hi a:=λc=>by
  rw[i c];exact⟨λh=>(f c).mpr (.inr h),λh=>by rcases(f c).mp h with z|z;cases z;exact z⟩
 exact Nat.le_antisymm (bJ (g.imp λh=>Int.ne_of_lt h) λx d=>(e x).mp d) (bJ j λx d=>(e x).mpr d)
theorem BO(lo hi:Int)(a:List Int):(dd lo hi a).length<=a.length:=by
 obtain⟨d,c⟩:=oX lo hi a [] tV;exact bJ d λx b=>by rcases(c x).mp b with z|z;cases z;exact z.1
def gl(ps:List (Int×Int))(a:List (List Int))(j:Nat):Nat:=(dd (ps.getD j (0,0)).1 (ps.getD j (0,0)).2 (a.getD j [])).length+1
def gr(ps:List (Int×Int))(a:List (List Int)):Nat->Nat
 |0=>1
 |n+1=>gr ps a n*gl ps a n
theorem BP{ps:List (Int×Int)}{a:List (List Int)}(h:∀b∈a,b.length<=57)(j:Nat):gl ps a j<=58:=by
 unfold gl;have:=BO (ps.getD j (0,0)).1 (ps.getD j (0,0)).2 (a.getD j []);have c:(a.getD j []).length<=57:=by
  rw[dV];cases e:a[j]? with
  |none=>simp
  |some b=>exact h b (Gd e)
 lia
theorem yN{ps:List (Int×Int)}{c:List (List Int)}(h:∀ms∈c,ms.length<=57):∀n,gr ps c n<=58^n
 |0=>wN _
 |n+1=>by
  have a:=yN (ps:=ps) h n;have b:=BP (ps:=ps) h n;show gr ps c n*gl ps c n<=58^n*58;exact yr a b
def MLs(H:Hp)(c:List E2)(a:List (List Int)):Prop:=c.length=a.length/\∀(j:Nat)(b:List Int),a[j]?=Jp b->∃r,c[j]?=Jp r/\H r=Jp (.lst (b.map V.int))
theorem MLs.keep{H H':Hp}{b:List E2}{a:List (List Int)}(h:MLs H b a)(k:∀r∈b,∀o,H r=Jp o->H' r=Jp o):MLs H' b a :=
 ⟨h.1,λj c e=>let ⟨r,e1,e2⟩:=h.2 j c e;⟨r,e1,k r (Gd e1) _ e2⟩⟩
theorem MLs.same{H H':Hp}{b:List E2}{a:List (List Int)}(h:MLs H b a)(s:ao H H'):MLs H' b a:=h.keep λ_ _ _ e=>s _ _ e
theorem vZ{a:List E2}{j:Nat}{x:V}(e:(a.map V.ref)[j]?=Jp x):∃r,x=.ref r/\a[j]?=Jp r:=by
 rw[eU]at e;cases h:a[j]? with
 |none=>rw[h]at e;cases e
 |some r=>rw[h]at e;cases e;exact⟨r,U,U⟩
def MOK(ps:List (Int×Int))(a:List (List Int)):Prop:=ps.length=a.length/\ps.length<=6/\∀ms∈a,ms.length<=57
abbrev Tri:=Int×Int×V
structure At(ts:List Tri)(c:Int)(j:Nat)(t:Tri):Prop where
 at_:ts[j]?=Jp t
 le:c<=t.2.1
 lt:∀(i:Nat)(u:Tri),i<j->ts[i]?=Jp u->u.2.1<c
theorem yO:∀{c:List (Int×Int)}{lo hi:Int},Chn c lo hi->xB c lo hi
 | [],_,_,h=>h
 |_ :: _,_,_,h=>⟨h.1,h.2.1,yO h.2.2⟩
theorem qw:∀{a:List Int}{lo hi c:Int},a.Pairwise (· < ·)->(∀x∈a,lo<x)->lo<=c->c<=hi->cj (cb lo hi a) c<=c/\(cj (cb lo hi a) c=lo\/cj (cb lo hi a) c∈a)/\lo<=cj (cb lo hi a) c/\∀x∈a,x<=c->x<=cj (cb lo hi a) c
 | [],lo,hi,c,_,_,h1,h2=>by
  have e:cj (cb lo hi []) c=lo:=by simp[cb,cj,h2]
  rw[e];exact⟨h1,.inl U,Int.le_refl _,λx b=>by cases b⟩
 |d :: a,lo,hi,c,hp,hb,h1,h2=>by
  obtain⟨h,j⟩:=qJ.mp hp;have e:cb lo hi (d :: a)=(lo,d-1) :: cb d hi a:=rfl;by_cases q:c<=d-1
  .have g:cj (cb lo hi (d :: a)) c=lo:=by rw[e];unfold cj;rw[ri (by simpa using q)];rfl
   rw[g];refine⟨h1,.inl U,Int.le_refl _,λx b i=>?_⟩;rcases dy.mp b with rfl|b
   .lia
   .have:=h x b;lia
  .have g:cj (cb lo hi (d :: a)) c=cj (cb d hi a) c:=by rw[e];unfold cj;rw[ro (by simpa using q)]
   rw[g];obtain⟨m,f,l,k⟩:=qw j h (c:=c) (by lia) h2;have n:=hb d gb;refine⟨m,.inr ?_,by lia,λx b i=>?_⟩
   .rcases f with f|f
    .rw[f];exact gb
    .exact ik _ f
   .rcases dy.mp b with rfl|b
    .exact l
    .exact k x b i
def CoL(H:Hp)(xs:List V)(a:List (List (Int×Int))):Prop:=aC xs a λr c=>∃b,H r=Jp (.lst b)/\PL H b c
theorem CoL.same{H H':Hp}{xs:List V}{a:List (List (Int×Int))}(h:CoL H xs a)(s:ao H H'):CoL H' xs a:=aC.mono h λ_ _ ⟨b,e,p⟩=>⟨b,s _ _ e,PL.mono p s.tups⟩
structure As{L:Type} [DecidableEq L] (A:Lfp L)(P:EX)(w:D0)(K:W.Frag)(mg:Str->Option De)(base:FG)(f:E2)(m:Nat)(g:List Int->L)(J:Hp->Prop):Prop where
 fn:∃sp,HFn P w K mg base 8 f sp/\∀(H:Hp)(a:E2)(cs:List Int)(Q:VK),J H->cs.length=m->H a=Jp (.lst (cs.map V.int))->(∀v H',(∀b o,b≠a->H b=Jp o->H' b=Jp o)->A.R H' (g cs) v->Q v H')->sp [.ref a] H Q E0
 ob:∀H,J H->FnO H f
 st:∀H H',J H->ao H H'->J H'
theorem uL{a:Type} [DecidableEq a] (ts:List (T3a a)):(gM ts).length<=ts.length:=by
 have:∀(r f:List (T3a a)),(r.foldl cH f).length<=f.length+r.length:=by
  intro r;induction r with
  |nil=>intro f;exact wN _
  |cons t r b =>
   intro f;have d:(cH f t).length<=f.length+1:=by
    unfold cH;split
    .split
     .rw[dq,List.length_dropLast,hQ];lia
     .rw[dq,hQ];lia
    .rw[dq,hQ];lia
   have c:=b (cH f t);rw[gR];show((r.foldl cH (cH f t)).length)<=_;lia
 have h:=this ts [];rw[List.length_nil,yk]at h;exact h
def below(a:List Int)(c:Int):Int:=((a.filter λm=>decide (m<=c)).length:Int)
def Au(a:List (List Int))(b:Int)(c:List Int):Nat->Int
 |0=>0
 |k+1=>Au a b c k*b+(1+Au a b c k)%3*below (a.getD k []) (c.getD k 0)
def told(a:List (List Int))(c d e:Int)(b:List Int):Int:=Au a c b b.length%d*e
theorem Av{ps:List (Int×Int)}{c:List (List Int)}{m:Nat}(g:∀d∈c,∃L:List Int,L.length<=m/\∀x∈d,x∈L)(j:Nat):gl ps c j<=m+1:=by
 unfold gl;have:(dd (ps.getD j (0,0)).1 (ps.getD j (0,0)).2 (c.getD j [])).length<=m:=by
  rw[show c.getD j []=(c[j]?).getD []from dV ..];cases e:c[j]? with
  |none=>exact xn _
  |some d =>
   obtain⟨L,i,h⟩:=g d (Gd e);obtain⟨a,b⟩:=oX (ps.getD j (0,0)).1 (ps.getD j (0,0)).2 d [] tV;refine wX (bJ a λx f=>?_) i;rcases(b x).mp f with z|z
   .cases z
   .exact h x z.1
 lia
theorem v9:∀{ps:List (Int×Int)}{css:List (List Int)},css.length=ps.length->(∀p∈ps,p.1<=p.2)->(∀(j:Nat)(p:Int×Int)(d:List Int),ps[j]?=Jp p->css[j]?=Jp d->d.Pairwise (· < ·)/\∀c∈d,p.1<c/\c<=p.2)->jV (List.zipWith (λp d=>cb p.1 p.2 d) ps css) ps
 | [],[],_,_,_=>.nil
 | [],_ :: _,h,_,_=>by simp at h
 |_ :: _,[],h,_,_=>by simp at h
 |p :: ps,d :: css,h,hle,hk=>by
  obtain⟨a,b⟩:=hk 0 p d U U;refine .cons (λz=>?_) (yO (qv a b (hle p gb))) (v9 (by simpa using h) (λq e=>hle q (ik _ e)) λj q c g f=>hk (j+1) q c (by simpa using g) (by simpa using f));have:=JB List.length z;rw[gO]at this;simp at this
theorem kv{a:Type}{c:Int}:∀{f:List (T3a a)}{j:Nat}{t:T3a a},f[j]?=Jp t->c<=t.2.1->(∀(i:Nat)(u:T3a a),i<j->f[i]?=Jp u->u.2.1<c)->vAt f c=Jp t.2.2
 | [],j,t,e,_,_=>by simp at e
 |u :: f,0,t,e,h,_=>by
  cases e;unfold vAt;rw[ri (by simpa using h)];rfl
 |u :: f,j+1,t,e,h,k=>by
  have b:=k 0 u (ym _) U;have:=kv (f:=f) (j:=j) (t:=t) (by simpa using e) h λi w hi d=>k (i+1) w (by lia) (by simpa using d)
  unfold vAt at this⊢;rw[ro (by simpa using b)];exact this
theorem _root_.L2.Ch3.le{a:Type}:∀{f:List (T3a a)}{lo hi:Int},Ch3 f lo hi->lo<=hi+1
 | [],_,_,h=>Int.le_of_eq h
 |t :: f,lo,hi,h=>by have:=L2.Ch3.le h.2.2;have:=h.2.1;lia
theorem xK{ps:List (Int×Int)}{css:List (List Int)}{a:List Int}{k:Nat}{p:Int×Int}{ks:List Int}{c:Int}(b:ps[k]?=Jp p)(d:css[k]?=Jp ks)(e:a[k]?=Jp c):(List.zipWith cj (List.zipWith (λp a=>cb p.1 p.2 a) ps css) a)[k]?=Jp (cj (cb p.1 p.2 ks) c):=by
 rw[nS,nS,b,d,e]
section
variable{L:Type}
theorem _root_.L2.Tel.inv{n:Nat}{g:List (T3a (Fm L n))}{c:Int}{e:List Int}{y:L}(h:Tel (n+1) (g:Fm L (n+1)) (c :: e) y):∃(j:Nat)(t:T3a (Fm L n)),g[j]?=Jp t/\c<=t.2.1/\(∀(i:Nat)(u:T3a (Fm L n)),i<j->g[i]?=Jp u->u.2.1<c)/\Tel n t.2.2 e y:=by
 cases h with
 |cons a b c d=>exact⟨_,_,a,b,c,d⟩
theorem xM{n:Nat}{F:Fm L n}{b:List Int}{x:L}(h:Tel n F b x):∀{y:L},Tel n F b y->x=y:=by
 induction h with
 |nil x=>intro y a;cases a;rfl
 | @cons n f c b x j t e1 e2 e3 _ ih =>
  intro y a;obtain⟨m,l,k,i,g,d⟩:=a.inv;have e:=(kv e1 e2 e3).symm.trans (kv k i g);rw[←Option.some.inj e]at d;exact ih d
end
theorem sf:∀{a:List Int}{ps:List (Int×Int)},a.length=ps.length->(∀(j:Nat)(c:Int)(p:Int×Int),a[j]?=Jp c->ps[j]?=Jp p->p.1<=c/\c<=p.2)->InB a ps
 | [],[],_,_=>.nil
 | [],_ :: _,h,_=>by simp at h
 |_ :: _,[],h,_=>by simp at h
 |c :: a,p :: ps,h,k=>.cons (k 0 c p U U).1 (k 0 c p U U).2 (sf (by simpa using h) λj x q d b=>k (j+1) x q (by simpa using d) (by simpa using b))
theorem oY{b:Type}:∀{f:List (T3a b)}{lo hi:Int}{j:Nat}{s:T3a b},Ch3 f lo hi->f[j]?=Jp s->lo<=s.1/\s.1<=s.2.1/\s.2.1<=hi/\(∀t,f[j+1]?=Jp t->t.1=s.2.1+1)/\(∀(i:Nat)(u:T3a b),i<j->f[i]?=Jp u->u.2.1<s.1)/\(j=0->s.1=lo)
 | [],_,_,j,s,_,e=>by simp at e
 |t :: f,lo,hi,0,s,h,e=>by
  cases e;have d:=h.1;have c:=h.2.1;have o:=h.2.2.le;refine⟨by lia,by lia,by lia,λt e=>?_,λi u hi=>Jx hi (yp i),λ_=>d⟩;cases f with
  |nil=>simp at e
  |cons u f=>simp at e;subst e;exact h.2.2.1
 |t :: f,lo,hi,j+1,s,h,e=>by
  have g:f[j]?=Jp s:=by simpa using e
  obtain⟨q,n,m,l,k,p⟩:=oY (f:=f) h.2.2 g;have c:=h.2.1;refine⟨by lia,n,m,λt e=>l t (by simpa using e),λi u hi a=>?_,λz=>by lia⟩
  match i,a with
  |0,a=>cases a;lia
  |i+1,a=>exact k i u (by lia) (by simpa using a)
section
variable{L:Type}
theorem wa{n:Nat}{f:List (T3a (Fm L n))}{lo hi:Int}{j:Nat}{t:T3a (Fm L n)}{c:Int}{a:List Int}{x:L}(h:Ch3 f lo hi)(e:f[j]?=Jp t)(l:t.1<=c)(d:c<=t.2.1)(b:Tel n t.2.2 a x):Tel (n+1) (f:Fm L (n+1)) (c :: a) x:=by
 obtain⟨_,_,_,_,k,_⟩:=oY h e;exact .cons e d (λi u hi g=>by have:=k i u hi g;lia) b
end
theorem xN{n j:Nat}(h:j<n):ixN n (j:Int)=Jp j:=by
 unfold ixN;rw[Jw (by lia),Jw (by lia),zK]
theorem oj{n:Nat}(h:n<=2000):n<FL:=Nat.lt_of_le_of_lt h (by decide)
theorem mh{c d:Type}{R:c->d->Prop}:∀{xs:List c}{f:List d}{i:Nat}{x:c},Paired R xs f->xs[i]?=Jp x->∃a,f[i]?=Jp a/\R x a
 |_,_,_,_,.nil,e=>by simp at e
 |_,_,0,_,.cons (b:=b) h _,e=>by simp at e;subst e;exact⟨b,U,h⟩
 |_,_,i+1,x,.cons _ tl,e=>by
  obtain⟨a,q⟩:=mh (i:=i) (x:=x) tl (by simpa using e);exact⟨a,by simpa using q.1,q.2⟩
theorem sh{c b:Type}{R:c->b->Prop}{xs ys:List c}{d bs:List b}(h:Paired R xs d)(h':Paired R ys bs):Paired R (xs++ys) (d++bs):=by
 induction h with
 |nil=>exact h'
 |cons a _ e=>exact .cons a e
theorem wb{K:W.Frag}{H:Hp}{Q:VK}{a b:E2}{xs ys:List V}(d:H a=Jp (.tup xs))(c:H b=Jp (.tup ys))(hz:xs.length+ys.length<=FL)(q:∀(r:E2)(H':Hp),ao H H'->H' r=Jp (.tup (xs++ys))->Q (.ref r) H'):rC K (.ref a) (.ref b) H Q:=by
 refine⟨a,b,xs,ys,U,U,SqT.of d,SqT.of c,hz,λz=>?_,λ_ z=>?_,λ_ _ p e=>q p _ (ag e _) ab⟩
 .subst z;exact q b H (ao.refl _) c
 .subst z;exact q a H (ao.refl _) (by rw[jt];exact d)
def BxA(H:Hp)(a:E2)(B:List (Int×Int)):Prop:=∃b,H a=Jp (.tup b)/\PL H b B
theorem BxA.mono{H H':Hp}{a:E2}{B:List (Int×Int)}(h:BxA H a B)(s:cy H H'):BxA H' a B:=by obtain⟨b,e,p⟩:=h;exact⟨b,s _ _ e,p.mono s⟩
def bxs:(n:Nat)->Fm Int n->List (List (Int×Int)×Int)
 |0,f=>[([],f)]
 |n+1,l=>List.flatMap (λe:T3a (Fm Int n)=>(bxs n e.2.2).map λq=>((e.1,e.2.1) :: q.1,q.2)) l
theorem tH(n:Nat)(l m:List (T3a (Fm Int n))):bxs (n+1) (show Fm Int (n+1)from l++m)=bxs (n+1) (show Fm Int (n+1)from l)++bxs (n+1) (show Fm Int (n+1)from m):=List.flatMap_append
theorem xO(n:Nat)(e:T3a (Fm Int n)):bxs (n+1) (show Fm Int (n+1) from[e])=(bxs n e.2.2).map λq=>((e.1,e.2.1) :: q.1,q.2):=by
 show List.flatMap (λe:T3a (Fm Int n)=>(bxs n e.2.2).map λq=>((e.1,e.2.1) :: q.1,q.2)) [e]=_;rw[List.flatMap_singleton]
def BxL(H:Hp):List V->List (List (Int×Int)×Int)->Prop:=Paired λx q=>∃(t b:E2),x=.ref t/\H t=Jp (.tup [.ref b,.int q.2])/\BxA H b q.1
theorem BxL.mono{H H':Hp}{xs:List V}{L:List (List (Int×Int)×Int)}(h:BxL H xs L)(s:cy H H'):BxL H' xs L:=Paired.mapP h λ_ _ ⟨t,b,e,z,p⟩=>⟨t,b,e,s _ _ z,p.mono s⟩
theorem BxL.length{H:Hp}{xs:List V}{L:List (List (Int×Int)×Int)}(h:BxL H xs L):xs.length=L.length:=Paired.length h
theorem wc{ps:List (Int×Int)}{a:List (List Int)}{b:Nat}(h:∀j,gl ps a j<=b):∀n,gr ps a n<=b^n
 |0=>wN _
 |n+1=>by
  show gr ps a n*gl ps a n<=b^n*b;exact yr (wc h n) (h n)
theorem we{n:Nat}{f:List (T3a (Fm Int n))}{q:List (Int×Int)×Int}:q∈bxs (n+1) (f:Fm Int (n+1))↔∃e∈f,∃r∈bxs n e.2.2,q=((e.1,e.2.1) :: r.1,r.2):=by
 constructor
 .intro h;obtain⟨e,b,c⟩:=pk.mp h;obtain⟨r,a,rfl⟩:=eR.mp c;exact⟨e,b,r,a,U⟩
 .rintro⟨e,b,r,a,rfl⟩;exact pk.mpr ⟨e,b,eR.mpr ⟨r,a,U⟩⟩
structure Aw(B ps:List (Int×Int)):Prop where
 len:B.length=ps.length
 get:∀(k:Nat)(b p:Int×Int),B[k]?=Jp b->ps[k]?=Jp p->p.1<=b.1/\b.1<=b.2/\b.2<=p.2
theorem Aw.lows{B ps:List (Int×Int)}(h:Aw B ps):InB (B.map (·.1)) ps:=sf (by rw[bo,h.len]) λj c p a e=>by
 rw[eU]at a;obtain⟨b,d,rfl⟩:=Bw.mp a;have:=h.get j b p d e;exact⟨this.1,by lia⟩
theorem wg:∀{n:Nat}{F:Fm Int n}{ps:List (Int×Int)},xA n F ps->∀q∈bxs n F,Aw q.1 ps/\Tel n F (q.1.map (·.1)) q.2/\Tel n F (q.1.map (·.2)) q.2
 |0,F,ps,c,q,d=>by
  have c:ps=[]:=c;have d:q∈[(([]:List (Int×Int)),F)]:=d;rw[iN.mp d,c];exact⟨⟨U,λk b p e=>by simp at e⟩,.nil _,.nil _⟩
 |n+1,F,ps,c,q,d=>by
  obtain⟨f,rfl⟩:∃f:List (T3a (Fm Int n)),(f:Fm Int (n+1))=F:=⟨F,U⟩;obtain⟨p,r,rfl,A,a,B,v⟩:ShS (xA n) f ps:=c;obtain⟨e,o,t,m,rfl⟩:=we.mp d;obtain⟨j,w,g⟩:=uB o;have g:f[j]?=Jp e:=by rw[Ga w,g]
  obtain⟨z,l,y,-,-,-⟩:=oY a g;obtain⟨s,b2,x⟩:=wg (v e o) t m;refine⟨⟨by rw[gR,gR,s.len],λk b u i h=>?_⟩,wa a g (Int.le_refl _) l b2,wa a g l (Int.le_refl _) x⟩
  match k,i,h with
  |0,i,h=>cases i;cases h;exact⟨z,l,y⟩
  |k+1,i,h=>exact s.get k b u (by simpa using i) (by simpa using h)
theorem qy{a c:Type}{b:Nat}{F:a->List c}:∀{l:List a},(∀x∈l,(F x).length<=b)->(l.flatMap F).length<=l.length*b
 | [],_=>xn _
 |x :: l,h=>by
  have f:=h x gb;have e:=qy λy d=>h y (ik _ d)
  rw[List.flatMap_cons,dq,gR,Nat.succ_mul];lia
theorem wj{b:Nat}{g:List Int->Int}:∀{a:List (List (Int×Int))}{ps:List (Int×Int)},jV a ps->(∀c∈a,c.length<=b)->∀d:List Int,(bxs a.length (lay g a d)).length<=b^a.length
 | [],_,_,_,_=>wN _
 |c :: a,ps,h,hb,d=>by
  cases h with
  | @cons _ _ p ps hne e h =>
  have k:=l9 (xC (λq=>lay g a (d++[q.1])) e);have j:(gM (c.map λp=>((p.1,p.2,lay g a (d++[p.1])):T3a (Fm Int a.length)))).length<=b:=wX (uL _) (by rw[bo];exact hb c gb);have i:(bxs (a.length+1) (show Fm Int (a.length+1)from gM (c.map λp=>((p.1,p.2,lay g a (d++[p.1])):T3a (Fm Int a.length))))).length<=(gM (c.map λp=>((p.1,p.2,lay g a (d++[p.1])):T3a (Fm Int a.length)))).length*b^a.length:=qy λt f=>by
   rw[bo];obtain⟨n,m,l⟩:=k.mem t f;obtain⟨q,_,rfl⟩:=eR.mp m;rw[←l];exact wj h (λc e=>hb c (ik _ e)) _
  show(bxs (a.length+1) _).length<=b^(a.length+1);rw[zt,Nat.mul_comm];exact wX i (Nat.mul_le_mul_right _ j)
def TD(g h f:E2)(H:Hp)(t:E2)(c:List V)(bs:Prs)(rws:List Rw):Prop:=∃(b e d:E2)(fs:List (Str×V))(a:List V),H t=Jp (.ins g e fs)/\fs.lookup s!"rows"=Jp (.ref b)/\fs.lookup s!"domains"=Jp (.ref d)/\H d=Jp (.lst c)/\aC c bs (Dom h f H)/\H b=Jp (.lst a)/\RL NT H a rws
theorem TD.same{c d b:E2}{H H':Hp}{t:E2}{a:List V}{bs:Prs}{rws:List Rw}(h:TD c d b H t a bs rws)(s:ao H H'):TD c d b H' t a bs rws:=by
 obtain⟨f,o,q,fs,e,n,m,l,k,j,i,g⟩:=h;exact⟨f,o,q,fs,e,s _ _ n,m,l,s _ _ k,aC.mono j λ_ _ p=>p.same s,s _ _ i,g.same s⟩
theorem om{H H':Hp}{D:E2}(s:ao H H')(n:H D=Jq):ao H (hide H' D):=λb o e=>bG (s b o e) (aU e n)
theorem jZ{H:Hp}{D:E2}{o:HO}:hide (upd H D o) D=hide H D:=by
 funext b
 unfold hide;by_cases h:b=D
 .rw[Jw h,Jw h]
 .rw[Jv h,Jv h,aw h]
theorem iD{H H':Hp}{D:E2}(s:ao H H'):ao (hide H D) (hide H' D):=λb o e=>by
 unfold hide at e⊢;by_cases h:b=D
 .rw[Jw h]at e;cases e
 .rw[Jv h]at e⊢;exact s b o e
theorem dH(H:Hp)(D:E2):ao (hide H D) H:=λb o e=>by
 unfold hide at e;by_cases h:b=D
 .rw[Jw h]at e;cases e
 .rw[Jv h]at e;exact e
theorem MLs.nil{H:Hp}:MLs H [] []:=⟨U,λj a e=>by simp at e⟩
theorem MLs.snoc{H:Hp}{g:List E2}{a:List (List Int)}{r:E2}{d:List Int}(h:MLs H g a)(e:H r=Jp (.lst (d.map V.int))):MLs H (g++[r]) (a++[d]):=by
 refine⟨by rw[dq,dq,h.1];rfl,λj m b=>?_⟩;by_cases f:j<a.length
 .rw[eX f]at b;obtain⟨i,l,k⟩:=h.2 j m b;exact⟨i,by rw[eX (by rw[h.1];exact f)];exact l,k⟩
 .rw[js (by lia)]at b;have c:j-a.length=0:=by
   have:=(Gb.mp b).1;rw[hQ]at this;lia
  rw[c]at b;cases b;exact⟨r,by rw[js (by rw[h.1];lia),h.1,c];rfl,e⟩
def rmk(c:Nat)(b:Int×Int)(w:Rw):List Int:=(ends (w.1.getD c [])).filter λt=>decide (b.1<t) && decide (t<=b.2)
def MkC(rws:List Rw)(c:Nat)(b:Int×Int)(x:Int):Prop:=∃w∈rws,x∈rmk c b w
theorem qz:∀R:Prs,(ends R).length=2*R.length
 | []=>rfl
 |p :: R=>by
  rw[uh,gR,gR,qz R,gR];lia
theorem xP(c:Nat)(b:Int×Int){w:Rw}(h:(w.1.getD c []).length<=6):(rmk c b w).length<=12:=wX (uW _ _) (by rw[qz];lia)
theorem qA(c:Nat)(b:Int×Int):∀{rws:List Rw},(∀w∈rws,(w.1.getD c []).length<=6)->((rws.map (rmk c b)).flatten).length<=12*rws.length
 | [],_=>wN _
 |w :: rws,h=>by
  have e:=xP c b (h w (.head _));have d:=qA c b (rws:=rws) λw a=>h w (.tail _ a)
  rw[mH,List.flatten_cons,dq,gR];lia
theorem tI{rws:List Rw}{c:Nat}{b:Int×Int}{x:Int}:x∈(rws.map (rmk c b)).flatten↔MkC rws c b x:=by
 rw[List.mem_flatten];constructor
 .rintro⟨l,e,a⟩;obtain⟨w,d,rfl⟩:=eR.mp e;exact⟨w,d,a⟩
 .rintro⟨w,d,a⟩;exact⟨_,eR.mpr ⟨w,d,U⟩,a⟩
def Ax:HO->Prop
 | .frz _ _=>False
 | .tbl _=>False
 |_=>True
def So(H H':Hp):Prop:=∀d o,Ax o->H d=Jp o->H' d=Jp o
theorem So.of{H H':Hp}(s:ao H H'):So H H':=λd o _ e=>s d o e
theorem So.trans{H f c:Hp}(a:So H f)(b:So f c):So H c:=λd o p e=>b d o p (a d o p e)
theorem So.tups{H H':Hp}(s:So H H'):cy H H':=λd a e=>s d _ trivial e
theorem So.lst{H H':Hp}{a:E2}{xs:List V}(s:So H H')(e:H a=Jp (.lst xs)):H' a=Jp (.lst xs):=s _ _ trivial e
theorem So.hide{H:Hp}{a:List E2}(f:Fzs H a):So H (hideL H a):=λd o p e=>by
 rw[bQ (f.out e λz q=>by rw[q]at p;exact p)];exact e
section
variable{H H':Hp}(s:So H H')
include s
theorem SpA.so{N:E2->Prop}{l:E2}{ps:Prs}(h:SpA N H l ps):SpA N H' l ps:=by obtain⟨n,a,e,p⟩:=h;exact⟨n,a,s _ _ trivial e,p.mono s.tups⟩
theorem RL.so{N:E2->Prop}{xs:List V}{rws:List Rw}(h:RL N H xs rws):RL N H' xs rws:=aC.mono h λ_ _ ⟨b,a,e,n,f,c⟩=>⟨b,a,s _ _ trivial e,n,s _ _ trivial f,aC.mono c λ_ _ p=>SpA.so s p⟩
theorem Dom.so{d c a:E2}{b:Int×Int}(h:Dom d c H a b):Dom d c H' a b:=by obtain⟨C,f,g,fs,e,r⟩:=h;exact⟨C,f,g,fs,s _ _ trivial e,r⟩
theorem Tbl.so{b c a t:E2}{rws:List Rw}{i:Nat}{o:Int×Int}(h:Tbl b c a H t rws i o):Tbl b c a H' t rws i o:=by
 obtain⟨f,g,v,fs,d,e,u,r,q,p,n,m,l,k,j⟩:=h;exact⟨f,g,v,fs,d,e,s _ _ trivial u,r,q,p,s _ _ trivial n,RL.so s m,l,Dom.so s k,j⟩
theorem MLs.so{b:List E2}{a:List (List Int)}(h:MLs H b a):MLs H' b a:=⟨h.1,λj c e=>let ⟨r,e1,e2⟩:=h.2 j c e;⟨r,e1,s _ _ trivial e2⟩⟩
theorem TD.so{c d b t:E2}{a:List V}{bs:Prs}{rws:List Rw}(h:TD c d b H t a bs rws):TD c d b H' t a bs rws:=by
 obtain⟨f,o,q,fs,e,n,m,l,k,j,i,g⟩:=h;exact⟨f,o,q,fs,e,s _ _ trivial n,m,l,s _ _ trivial k,aC.mono j λ_ _ p=>Dom.so s p,s _ _ trivial i,RL.so s g⟩
end
theorem wm{a L:List Int}(b:a.Pairwise (· < ·))(h:∀x∈a,x∈L):a.length<=L.length:=bJ (b.imp λh=>Int.ne_of_lt h) h
structure RfH(cT cN cW:E2)(H:Hp)(t:E2)(dv:List V)(bs:Prs)(rws:List Rw)(L:Nat->List Int)(kk:Nat)(i:Nat)(o:Int×Int):Prop where
 td:TD cT cN cW H t dv bs rws
 tb:Tbl cT cN cW H t rws i o
 b4:bs.length<=4
 r60:rws.length<=60
 row:∀x∈rws,x.1.length=bs.length/\∀c,(x.1.getD c []).length<=6
 mrk:∀(c:Nat)(b:Int×Int),bs[c]?=Jp b->(L c).length<=kk/\∀x,MkC rws c b x->x∈L c
 few:(kk+1)^bs.length<=300
 k57:kk<=57
 le:∀p∈bs,p.1<=p.2
theorem RfH.so{d e c t:E2}{H H':Hp}{b:List V}{bs:Prs}{rws:List Rw}{L:Nat->List Int}{a i:Nat}{o:Int×Int}(h:RfH d e c H t b bs rws L a i o)(s:So H H'):RfH d e c H' t b bs rws L a i o:=⟨TD.so s h.td,Tbl.so s h.tb,h.b4,h.r60,h.row,h.mrk,h.few,h.k57,h.le⟩
theorem RfH.gr{p q n t:E2}{H:Hp}{m:List V}{bs:Prs}{rws:List Rw}{L:Nat->List Int}{g i:Nat}{o:Int×Int}(h:RfH p q n H t m bs rws L g i o)(a:List (List Int))(r:a.length=bs.length)(l:∀(c:Nat)(b:Int×Int)(d:List Int),bs[c]?=Jp b->a[c]?=Jp d->d.Pairwise (· < ·)/\∀x,x∈d↔MkC rws c b x):My.gr bs a bs.length<=300 :=
 wX (wc (b:=g+1) (Av λd f=>by
  obtain⟨c,j⟩:=jn f;have s:=(Gb.mp j).1;obtain⟨b,e⟩:∃b,bs[c]?=Jp b:=⟨_,Ga (by lia)⟩;exact⟨L c,(h.mrk c b e).1,λx k=>(h.mrk c b e).2 x (((l c b d e j).2 x).mp k)⟩) _) h.few
def iI(K:W.Frag)(H:Hp):Prop:=∀z,W.tabIn K "row_form" = Jp z->gC H z.2 [(xD Y80,"row_form.<locals>.<lambda>")]
theorem iI.same{K:W.Frag}{H H':Hp}(h:iI K H)(s:ao H H'):iI K H':=λz e=>(h z e).same s
structure wo(bs:Prs)(rws:List Rw)(cols:List (List (Int×Int))):Prop where
 ok:jV cols bs
 ex:∃css:List (List Int),css.length=bs.length/\cols=List.zipWith (λp cs=>cb p.1 p.2 cs) bs css/\∀(j:Nat)(p:Int×Int)(cs:List Int),bs[j]?=Jp p->css[j]?=Jp cs->cs.Pairwise (· < ·)/\∀x,x∈cs↔MkC rws j p x
theorem wq{rws:List Rw}{c:Nat}{b:Int×Int}{x:Int}(h:MkC rws c b x):b.1<x/\x<=b.2:=by
 obtain⟨d,_,a⟩:=h;have:=(ll.mp a).2;rw[A2,JC,JC]at this;exact this
abbrev mkg(rws:List Rw)(a:List Int):Int:=((msk (gD rws a) rws.length:Nat):Int)
theorem tJ{K:W.Frag}{H:Hp}{Q:VK}{a b:E2}{v u:SI}(m:SqT K H a (tp v))(l:SqT K H b (tp u))(h:Q (.bl (Jt (v≠u))) H):vx K Jr (.ref a) (.ref b) H Q:=by
 refine⟨a,b,_,_,U,U,m,l,λj=>if j=0 then eqV (.str v.1) (.str u.1)else eqV (.int v.2) (.int u.2),λj x y c d=>?_,?_⟩
 .match j,c,d with
  |0,c,d=>cases c;cases d;exact EqI.flat U U
  |1,c,d=>cases c;cases d;exact EqI.flat U U
  |j+2,c,d=>simp[tp]at c
 .have e:(!((List.range (min (tp v).length (tp u).length)).all (λj=>if j=0 then eqV (.str v.1) (.str u.1)else eqV (.int v.2) (.int u.2)) && (tp v).length == (tp u).length))=Jt (v≠u):=by
   have c:eqV (.str v.1) (.str u.1)=Jt (v.1=u.1):=by unfold eqV;rw[Bool.eq_iff_iff];simp
   have d:eqV (.int v.2) (.int u.2)=Jt (v.2=u.2):=by unfold eqV;rw[Bool.eq_iff_iff];simp
   show(!((List.range 2).all (λj=>if j=0 then eqV (.str v.1) (.str u.1)else eqV (.int v.2) (.int u.2)) && (2 == 2:Bool)))=_;rw[c,d];obtain⟨g,f⟩:=v;obtain⟨k,i⟩:=u;by_cases o:g=k <;> by_cases n:f=i <;> simp[oz,o,n]
  show Q (.bl (if Jr=Jr then _ else _)) H;rw[Jw U,e];exact h
theorem xQ(m k:Nat):decide (0<GX.bitAnd (m:Int) (1*2^((k:Int)).toNat))=m.testBit k:=by
 have e:(1:Int)*2^((k:Int)).toNat=((2^k:Nat):Int):=by rw[zY,zK];simp
 rw[e,PyProof.Rows.bitAnd_pp (zL _) (zL _),zK,zK];cases hb:m.testBit k with
 |true =>
  refine Jy ?_;have a:(m &&& 2^k).testBit k=true:=by rw[Nat.testBit_and,hb,Nat.testBit_two_pow_self];rfl
  have:m &&& 2^k≠0:=λz=>by rw[z,Nat.zero_testBit]at a;cases a
  exact Int.natCast_pos.mpr (Nat.pos_of_ne_zero this)
 |false =>
  refine Jz ?_;have:m &&& 2^k=0:=Nat.eq_of_testBit_eq λi=>by
   rw[Nat.testBit_and,Nat.zero_testBit,Nat.testBit_two_pow];by_cases h:k=i
   .rw[←h,hb];rfl
   .rw[Jz h,Bool.and_false]
  rw[this];decide
theorem xR{m k:Nat}(h:m.testBit k=Jr):(m:Int)-1*2^((k:Int)).toNat=((m-2^k:Nat):Int):=by
 have e:(1:Int)*2^((k:Int)).toNat=((2^k:Nat):Int):=by rw[zY,zK];simp
 have:2^k<=m:=Nat.le_of_not_lt λz=>by rw[Nat.testBit_lt_two_pow z]at h;cases h
 rw[e];generalize 2^k=W at this⊢;lia
theorem SqT.hide{K:W.Frag}{H:Hp}{r D:E2}{xs zs:List V}(h:SqT K H r xs)(e:H D=Jp (.lst zs)):SqT K (My.hide H D) r xs:=by
 rcases h with(h|⟨x,h⟩)|h
 .exact .inl (.inl (bG h λz=>by rw[z,e]at h;cases h))
 .exact .inl (.inr ⟨x,bG h λz=>by rw[z,e]at h;cases h⟩)
 .exact .inr h
def TiA(K:W.Frag)(H:Hp)(rws:List Rw)(i:Nat)(o:Int×Int)(x:V)(q:Prs×Int):Prop:=∃(a b c:E2)(m:Nat),x=.ref a/\q.2=(m:Int)/\H a=Jp (.tup [.ref b,.int (m:Int),.ref c])/\BxA H b q.1/\SqT K H c (tp (ver (wf i o.1 o.2) (pkF rws (di (m:Int)) rws.length)))
theorem TiA.same{K:W.Frag}{H H':Hp}{rws:List Rw}{i:Nat}{o:Int×Int}{x:V}{q:Prs×Int}(h:TiA K H rws i o x q)(s:ao H H'):TiA K H' rws i o x q:=by obtain⟨a,b,c,m,j,g,f,e,d⟩:=h;exact⟨a,b,c,m,j,g,s _ _ f,e.mono s.tups,s.seqT d⟩
def TiL(K:W.Frag)(H:Hp)(rws:List Rw)(i:Nat)(o:Int×Int)(xs:List V)(L:List (Prs×Int)):Prop:=xs.length=L.length/\∀(j:Nat)(x:V)(q:Prs×Int),xs[j]?=Jp x->L[j]?=Jp q->TiA K H rws i o x q
theorem TiL.same{K:W.Frag}{H H':Hp}{rws:List Rw}{i:Nat}{o:Int×Int}{xs:List V}{L:List (Prs×Int)}(h:TiL K H rws i o xs L)(s:ao H H'):TiL K H' rws i o xs L:=⟨h.1,λj x q a b=>(h.2 j x q a b).same s⟩
theorem TiL.snoc{K:W.Frag}{H:Hp}{rws:List Rw}{i:Nat}{o:Int×Int}{xs:List V}{L:List (Prs×Int)}{x:V}{q:Prs×Int}(h:TiL K H rws i o xs L)(t:TiA K H rws i o x q):TiL K H rws i o (xs++[x]) (L++[q]):=by
 refine⟨by rw[dq,dq,h.1];rfl,λj y p a b=>?_⟩;by_cases c:j<xs.length
 .rw[eX c]at a;rw[eX (by rw[←h.1];exact c)]at b;exact h.2 j y p a b
 .rw[js (by lia)]at a;have d:=(Gb.mp a).1;rw[hQ]at d;rw[js (by rw[←h.1];lia),←h.1,show j-xs.length=0 by lia]at b;rw[show j-xs.length=0 by lia]at a;cases a;cases b;exact t
def ck(rws:List Rw)(i:Nat)(o:Int×Int)(k:Nat)(m:Nat):Bool:=m.testBit k && decide (ver (wf i o.1 o.2) (pkF rws (di ((m-2^k:Nat):Int)) rws.length)≠ver (wf i o.1 o.2) (pkF rws (di (m:Int)) rws.length))
theorem wt{bs:Prs}{rws:List Rw}{a:List (List (Int×Int))}(c:wo bs rws a){q:Prs×Int}(h:q∈bxs a.length (lay (mkg rws) a [])):∃d,InB d bs/\q.2=mkg rws (List.zipWith cj a d):=by
 obtain⟨b,e,_⟩:=wg (vQ (g:=mkg rws) c.ok []) q h;refine⟨_,b.lows,xM e ?_⟩;have:=sZ (g:=mkg rws) c.ok [] _ b.lows;rw[List.nil_append]at this;exact this
theorem BxL.get:∀{H:Hp}{xs:List V}{L:List (Prs×Int)}{j:Nat}{x:V},BxL H xs L->xs[j]?=Jp x->∃q t b,L[j]?=Jp q/\x=.ref t/\H t=Jp (.tup [.ref b,.int q.2])/\BxA H b q.1
 |_,_,_,j,_,.nil,e=>by simp at e
 |_,_,_,0,_,.cons h _,e=>by cases e;obtain⟨t,b,d,c,a⟩:=h;exact⟨_,t,b,U,d,c,a⟩
 |_,_,_,j+1,_,.cons _ r,e=>BxL.get r (j:=j) (by simpa using e)
structure SpG(ps:List Int)(m:Int)(n:Nat)(qs:Prs):Prop where
 le:∀p∈qs,p.1<=p.2
 pw:qs.Pairwise λp q=>p.2<q.1
 bel:∀a,ps[n]?=Jp a->∀p∈qs,p.2<a
 iff:∀x,inP qs x=Jr↔∃(k:Nat)(a b:Int),k<n/\ps[k]?=Jp a/\ps[k+1]?=Jp b/\di m k=Jr/\a<=x/\x<b
 ep:∀p∈qs,p.1∈ps/\p.2+1∈ps
 lenA:2*qs.length<=n+1
 lenB:(∀p∈qs,∀a,ps[n]?=Jp a->p.2≠a-1)->2*qs.length<=n
section
variable{ps:List Int}{m:Int}{n:Nat}{a b:Int}(hp:Pts ps)(ea:ps[n]?=Jp a)(eb:ps[n+1]?=Jp b)
include hp ea eb
end
def vN(bs:List Nat):List V:=bs.map λb:Nat=>V.int (b:Int)
theorem cK(bs:List Nat):(vN bs).length=bs.length:=by unfold vN;rw[bo]
theorem BQ{bs:List Nat}{j b:Nat}(e:bs[j]?=Jp b):(vN bs)[j]?=Jp (.int (b:Int)):=by unfold vN;rw[eU,e];rfl
theorem oo{bs:List Nat}{j:Nat}{x:V}(e:(vN bs)[j]?=Jp x):∃b:Nat,x=.int (b:Int)/\bs[j]?=Jp b:=by
 unfold vN at e;rw[eU]at e;cases q:bs[j]? with
 |none=>rw[q]at e;cases e
 |some b=>rw[q]at e;cases e;exact⟨b,U,U⟩
theorem oZ(bs a:List Nat):vN bs++vN a=vN (bs++a):=by unfold vN;rw[fR]
def grow(a:List (List Nat))(n:Nat):List (List Nat):=a.flatMap λp=>(List.range n).map λk=>p++[k]
def cI(a:List Nat):List (List Nat):=a.foldl grow [[]]
theorem mi(a:List Nat)(n:Nat):cI (a++[n])=grow (cI a) n:=by unfold cI;rw[List.foldl_append];rfl
theorem wu{a:List (List Nat)}{n:Nat}{q:List Nat}:q∈grow a n↔∃p∈a,∃k,k<n/\q=p++[k]:=by
 unfold grow;rw[pk];constructor
 .rintro⟨p,b,h⟩;obtain⟨k,c,rfl⟩:=eR.mp h;exact⟨p,b,k,hV.mp c,U⟩
 .rintro⟨p,b,k,c,rfl⟩;exact⟨p,b,eR.mpr ⟨k,hV.mpr c,U⟩⟩
theorem uM{b:List (List Nat)}{n a:Nat}{p:List Nat}(e:b[a]?=Jp p):grow (b.take (a+1)) n=grow (b.take a) n++(List.range n).map λk=>p++[k]:=by
 unfold grow;rw[take_snoc e,List.flatMap_append];simp
theorem qB(a:List (List Nat))(n:Nat):(grow a n).length=a.length*n:=by
 unfold grow;induction a with
 |nil=>simp
 |cons p a b=>rw[List.flatMap_cons,dq,b,bo,jq,gR,Nat.succ_mul];lia
def iJ(b:List Nat)(p:List Nat):Prop:=p.length=b.length/\∀(j a m:Nat),p[j]?=Jp a->b[j]?=Jp m->a<m
theorem oq:∀{r b:List Nat}(_:b.reverse=r){p:List Nat},p∈cI b↔iJ b p
 | [],b,h,p=>by
  have:b=[]:=List.reverse_eq_nil_iff.mp h;subst this;show p∈[[]]↔_;rw[iN];constructor
  .rintro rfl;exact⟨U,λj a m e=>by simp at e⟩
  .rintro⟨h,_⟩;exact List.length_eq_zero_iff.mp h
 |n :: r,b,h,p=>by
  have e:b=r.reverse++[n]:=by rw[←List.reverse_reverse b,h,List.reverse_cons]
  subst e;rw[mi,wu];have l:∀{p:List Nat},p∈cI r.reverse↔iJ r.reverse p:=oq (List.reverse_reverse r);constructor
  .rintro⟨q,s,k,t,rfl⟩;obtain⟨c,d⟩:=l.mp s;refine⟨by rw[dq,dq,c];rfl,λj a m f g=>?_⟩;by_cases o:j<q.length
   .rw[eX o]at f;rw[eX (by rw[←c];exact o)]at g;exact d j a m f g
   .have:j=q.length:=by have:=(Gb.mp f).1;simp at this;lia
    subst this;simp at f;subst f;rw[c]at g;simp at g;subst g;exact t
  .rintro⟨c,d⟩;rw[dq,hQ]at c;rcases mO p with rfl|⟨q,k,rfl⟩
   .simp at c
   .rw[mS]at c d⊢;rw[dq,hQ]at c;have i:q.length=r.reverse.length:=by lia
    refine⟨q,l.mpr ⟨i,λj a m f g=>?_⟩,k,?_,U⟩
    .refine d j a m ?_ ?_
     .rw[eX (Gb.mp f).1];exact f
     .rw[eX (Gb.mp g).1];exact g
    .refine d q.length k n (by simp) ?_;rw[i];simp
theorem iJ.iff{a p:List Nat}:p∈cI a↔iJ a p:=oq U
def PtL(N:E2->Prop)(H:Hp)(xs:List V)(a:List (List Nat)):Prop:=aC xs a λr p=>N r/\H r=Jp (.lst (vN p))
theorem PtL.same{N:E2->Prop}{H H':Hp}{xs:List V}{a:List (List Nat)}(h:PtL N H xs a)(s:ao H H'):PtL N H' xs a:=aC.mono h λ_ _ p=>⟨p.1,s _ _ p.2⟩
theorem PtL.updN{N:E2->Prop}{D:E2}{H:Hp}{xs:List V}{a:List (List Nat)}{o:HO}(h:PtL N H xs a)(n:¬ N D):PtL N (upd H D o) xs a:=aC.mono h λ_ _ p=>⟨p.1,(aw (λz=>n (by rw[←z];exact p.1))).trans p.2⟩
theorem PtL.any{N:E2->Prop}{H:Hp}{xs:List V}{a:List (List Nat)}(h:PtL N H xs a):PtL NT H xs a:=aC.mono h λ_ _ p=>⟨trivial,p.2⟩
theorem wx{A:Prs}{m n:Int}(f:m<=n)(h:∀e∈ends A,e<=m\/n<e):inP A n=inP A m:=by
 rw[Bool.eq_iff_iff,sS,sS];constructor
 .rintro⟨p,a,c,b⟩;have d:=h _ (lK.mpr ⟨p,a,.inl U⟩);exact⟨p,a,by lia,by lia⟩
 .rintro⟨p,a,c,b⟩;have d:=h _ (lK.mpr ⟨p,a,.inr U⟩);exact⟨p,a,by lia,by lia⟩
theorem eF{f g:Nat->Bool}:∀{n:Nat},(∀k,k<n->f k=g k)->msk f n=msk g n
 |0,_=>rfl
 |n+1,h=>by rw[fP,fP,h n (yi n),eF λk a=>h k (xu a)]
theorem tK:∀{l m:List Nat},l.Pairwise (· < ·)->m.Pairwise (· < ·)->(∀x,x∈l↔x∈m)->l=m
 | [],[],_,_,_=>rfl
 | [],b :: m,_,_,h=>by have:=(h b).mpr (.head _);cases this
 |a :: l,[],_,_,h=>by have:=(h a).mp (.head _);cases this
 |a :: l,b :: m,h1,h2,h=>by
  rw[qJ]at h1 h2;have f:a=b:=by
   rcases dy.mp ((h a).mp (.head _))with e|e
   .exact e
   .rcases dy.mp ((h b).mpr (.head _))with d | d
    .exact d.symm
    .have:=h1.1 b d;have:=h2.1 a e;lia
  subst f;have:l=m:=tK h1.2 h2.2 λx=>by
   have c:=h x;rw[dy,dy]at c;constructor
   .intro k;have:=h1.1 x k;exact(c.mp (.inr k)).resolve_left (by lia)
   .intro k;have:=h2.1 x k;exact(c.mpr (.inr k)).resolve_left (by lia)
  rw[this]
theorem Ay{n:Nat}{F:Fm Int n}{d:List Int}{x:Int}(h:Tel n F d x):∃q∈bxs n F,q.2=x:=by
 induction h with
 |nil x=>exact⟨([],x),iN.mpr U,U⟩
 |cons c _ _ f a =>
  obtain⟨r,b,e⟩:=a;exact⟨_,we.mpr ⟨_,Gd c,r,b,U⟩,e⟩
theorem o6:∀{a:List Int}{ps:List (Int×Int)},InB a ps->a.length=ps.length/\∀(j:Nat)(c:Int)(p:Int×Int),a[j]?=Jp c->ps[j]?=Jp p->p.1<=c/\c<=p.2
 |_,_,.nil=>⟨U,λj c p e=>by simp at e⟩
 |_,_,.cons h1 h2 h=>by
  obtain⟨f,g⟩:=o6 h;refine⟨by rw[gR,gR,f],λj c p d b=>?_⟩;cases j with
  |zero=>cases d;cases b;exact⟨h1,h2⟩
  |succ j=>exact g j c p (by simpa using d) (by simpa using b)
theorem tL{bs:Prs}{rws:List Rw}{a:List (List (Int×Int))}(E:wo bs rws a)(F:∀x∈rws,x.1.length=bs.length){b:List Int}(h:InB b bs):mkg rws (List.zipWith cj a b)=mkg rws b:=by
 obtain⟨css,L,e,C⟩:=E.ex;obtain⟨I,s⟩:=o6 h;have r:(List.zipWith cj a b).length=b.length:=by rw[e,lz,lz];lia
 show((msk (gD rws (List.zipWith cj a b)) rws.length:Nat):Int)=((msk (gD rws b) rws.length:Nat):Int);rw[eF λk D=>?_];obtain⟨x,ex⟩:∃x,rws[k]?=Jp x:=⟨_,Ga D⟩;have g:=Gd ex;have H:=F x g;unfold gD jh;rw[dV,ex,r];show(List.range b.length).all (λj=>inP (x.1.getD j []) ((List.zipWith cj a b).getD j 0))=(List.range b.length).all λj=>inP (x.1.getD j []) (b.getD j 0)
 have f:∀j∈List.range b.length,inP (x.1.getD j []) ((List.zipWith cj a b).getD j 0)=inP (x.1.getD j []) (b.getD j 0):=λj d=>by
  have d:=hV.mp d;obtain⟨c,q⟩:∃c,b[j]?=Jp c:=⟨_,Ga d⟩;obtain⟨p,o⟩:∃p,bs[j]?=Jp p:=⟨_,Ga (by lia)⟩;obtain⟨m,u⟩:∃m,css[j]?=Jp m:=⟨_,Ga (by lia)⟩;obtain⟨v,i⟩:=C j p m o u;obtain⟨G,b2⟩:=s j c p q o;have t:=xK (css:=css) o u q;rw[←e]at t;obtain⟨B,K,J,A⟩:=qw (hi:=p.2) v (λy n=>(wq ((i y).mp n)).1) G b2;rw[dV (l:=List.zipWith cj a b),t,dV (l:=b),q];show inP _ (cj (cb p.1 p.2 m) c)=inP _ c
  symm
  refine wx B λy n=>?_
  by_cases z:p.1<y/\y<=p.2
  .have:MkC rws j p y:=⟨x,g,ll.mpr ⟨n,by rw[A2,JC,JC];exact z⟩⟩;by_cases w:y<=c
   .exact .inl (A y ((i y).mpr this) w)
   .exact .inr (by lia)
  .by_cases w:y<=p.1
   .exact .inl (by lia)
   .exact .inr (by lia)
 rw[Bool.eq_iff_iff,iv,iv];exact⟨λh j d=>by rw[←f j d];exact h j d,λh j d=>by rw[f j d];exact h j d⟩
theorem qC{g:Nat->Bool}{k:Nat}(a:g k=Jr):∀{n:Nat},k<n->msk g n=2^k+msk (λj=>g j && j != k) n
 |0,h=>Jx h (yp _)
 |n+1,h=>by
  rw[fP,fP];by_cases z:k=n
  .subst z;rw[Jw a,Jv (by simp),yk,eF λj c=>?_];show g j=(g j && j != k);rw[show(j != k)=Jr from bne_iff_ne.mpr (wO c),Bool.and_true]
  .have b:=qC a (n:=n) (by lia);rw[b,show(g n && n != k)=g n by rw[show(n != k)=Jr from bne_iff_ne.mpr λe=>z e.symm,Bool.and_true]];lia
structure Col where
 prs:Prs
 w:Bool
 sd:Int
def dj(N:E2->Prop)(H:Hp)(l:E2)(c:Col):Prop:=∃(a:E2)(b:List V),N l/\N a/\H l=Jp (.lst [.ref a,.bl c.w,.int c.sd])/\H a=Jp (.lst b)/\PL H b c.prs
theorem dj.same{N:E2->Prop}{H H':Hp}{l:E2}{c:Col}(h:dj N H l c)(s:ao H H'):dj N H' l c:=by obtain⟨b,a,n,m,e,f,p⟩:=h;exact⟨b,a,n,m,s _ _ e,s _ _ f,p.mono s.tups⟩
theorem dj.wk{N b:E2->Prop}{H:Hp}{l:E2}{c:Col}(h:dj N H l c)(k:∀a,N a->b a):dj b H l c:=by obtain⟨e,d,n,m,r⟩:=h;exact⟨e,d,k _ n,k _ m,r⟩
theorem dj.any{N:E2->Prop}{H:Hp}{l:E2}{c:Col}(h:dj N H l c):dj NT H l c:=h.wk λ_ _=>trivial
theorem dj.updN{N:E2->Prop}{D:E2}{H:Hp}{l:E2}{c:Col}{zs:List V}{o:HO}(h:dj N H l c)(n:¬ N D)(e:H D=Jp (.lst zs)):dj N (upd H D o) l c:=by
 obtain⟨f,d,b,a,i,g,p⟩:=h;exact⟨f,d,b,a,(aw (λz=>n (by rw[←z];exact b))).trans i,(aw (λz=>n (by rw[←z];exact a))).trans g,p.mono (bj e)⟩
def cR(N:E2->Prop)(H:Hp)(xs:List V)(a:List Col):Prop:=aC xs a (dj N H)
theorem cR.same{N:E2->Prop}{H H':Hp}{xs:List V}{a:List Col}(h:cR N H xs a)(s:ao H H'):cR N H' xs a:=aC.mono h λ_ _ p=>p.same s
theorem cR.any{N:E2->Prop}{H:Hp}{xs:List V}{a:List Col}(h:cR N H xs a):cR NT H xs a:=aC.mono h λ_ _ p=>p.any
theorem cR.updN{N:E2->Prop}{D:E2}{H:Hp}{xs:List V}{a:List Col}{zs:List V}{o:HO}(h:cR N H xs a)(n:¬ N D)(e:H D=Jp (.lst zs)):cR N (upd H D o) xs a:=aC.mono h λ_ _ p=>p.updN n e
structure Ch(ps:Prs):Prop where
 le:∀(i:Nat)(p:Int×Int),ps[i]?=Jp p->p.1<=p.2
 nxt:∀(i:Nat)(p q:Int×Int),ps[i]?=Jp p->ps[i+1]?=Jp q->q.1=p.2+1
theorem Ch.nil:Ch []:=⟨λi p e=>by simp at e,λi p q e=>by simp at e⟩
theorem Ch.snoc{ps:Prs}{a b:Int}(h:Ch ps)(c:a<=b)(d:∀p,ps[ps.length-1]?=Jp p->a=p.2+1):Ch (ps++[(a,b)]):=by
 refine⟨λi p e=>?_,λi p q e f=>?_⟩
 .by_cases hi:i<ps.length
  .rw[eX hi]at e;exact h.le i p e
  .have:i=ps.length:=by have:=(Gb.mp e).1;simp at this;lia
   subst this;simp at e;subst e;exact c
 .have g:=(Gb.mp f).1;rw[dq,hQ]at g;rw[eX (by lia)]at e;by_cases hi:i+1<ps.length
  .rw[eX hi]at f;exact h.nxt i p q e f
  .have:i=ps.length-1:=by lia
   subst this;rw[show ps.length-1+1=ps.length by lia]at f;simp at f;subst f;exact d p e
theorem Ch.mono{ps:Prs}(h:Ch ps){i:Nat}{p:Int×Int}(e:ps[i]?=Jp p):∀(d:Nat)(q:Int×Int),ps[i+d]?=Jp q->p.1<=q.1/\p.2<=q.2/\(0<d->p.2<q.1)
 |0,q,f=>by rw[Nat.add_zero,e]at f;cases f;exact⟨Int.le_refl _,Int.le_refl _,λz=>Jx z (by lia)⟩
 |d+1,q,f=>by
  have j:i+d<ps.length:=by have:=(Gb.mp f).1;lia
  obtain⟨r,g⟩:∃r,ps[i+d]?=Jp r:=⟨_,Ga j⟩;obtain⟨a,b,c⟩:=h.mono e d r g;have n:=h.nxt (i+d) r q g f;have m:=h.le (i+d) r g;have l:=h.le _ q f;have k:=h.le _ p e;lia
theorem Ch.lt{ps:Prs}(h:Ch ps){i j:Nat}{p q:Int×Int}(e:ps[i]?=Jp p)(f:ps[j]?=Jp q)(a:i<j):p.2<q.1:=by
 have:=h.mono e (j-i) q (by rw[show i+(j-i)=j by lia];exact f);exact this.2.2 (by lia)
structure aZ(c:Col):Prop where
 some_:1<=c.prs.length
 few:c.prs.length<=6
 ch:Ch c.prs
 w0:c.w=Jr->∀p,c.prs[0]?=Jp p->p.1=0
 wl:c.w=Jr->∀(i:Nat)(p:Int×Int),c.prs[i]?=Jp p->p.2<40
def Col.lo(c:Col):Int:=(c.prs.headD (0,0)).1
def Col.hi(c:Col):Int:=(c.prs.getLastD (0,0)).2
def Col.b(c:Col):Int×Int:=(c.lo,c.hi)
theorem aZ.first{c:Col}(h:aZ c):∃p,c.prs[0]?=Jp p/\p.1=c.lo:=by
 have:=h.some_;unfold Col.lo
 match c.prs,this with
 |p :: r,_=>exact⟨p,U,U⟩
theorem aZ.last{c:Col}(h:aZ c):∃p,c.prs[c.prs.length-1]?=Jp p/\p.2=c.hi:=by
 have:=h.some_;unfold Col.hi;generalize c.prs=l at this⊢;rcases mO l with rfl|⟨a,x,rfl⟩
 .simp at this
 .exact⟨x,by simp,by simp⟩
theorem aZ.inn{c:Col}(h:aZ c){i:Nat}{p:Int×Int}(e:c.prs[i]?=Jp p):c.lo<=p.1/\p.2<=c.hi:=by
 obtain⟨j,g,l⟩:=h.first;obtain⟨d,f,k⟩:=h.last;have hi:=(Gb.mp e).1;have a:=h.ch.mono g i p (by rw[yk];exact e);have b:=h.ch.mono e (c.prs.length-1-i) d (by rw[show i+(c.prs.length-1-i)=c.prs.length-1 by lia];exact f);lia
theorem aZ.le{c:Col}(h:aZ c):c.lo<=c.hi:=by
 obtain⟨b,a,d⟩:=h.first;have:=h.inn a;have:=h.ch.le _ _ a;lia
structure Srt(ps:Prs):Prop where
 le:∀(i:Nat)(p:Int×Int),ps[i]?=Jp p->p.1<=p.2
 lt:∀(i j:Nat)(p q:Int×Int),i<j->ps[i]?=Jp p->ps[j]?=Jp q->p.2<q.1
structure eB(prs:Prs)(b n:Nat)(ps:Prs):Prop where
 srt:Srt ps
 iff:∀x:Int,inP ps x=Jr↔∃(k:Nat)(p:Int×Int),k<n/\prs[k]?=Jp p/\b.testBit k=Jr/\p.1<=x/\x<=p.2
theorem kx{ps:Prs}{x:Int}:inP ps x=Jr↔∃(i:Nat)(p:Int×Int),ps[i]?=Jp p/\p.1<=x/\x<=p.2:=by
 unfold inP inR;rw[tw];constructor
 .rintro⟨p,a,e⟩;obtain⟨i,d⟩:=jn a;simp at e;exact⟨i,p,d,e.1,e.2⟩
 .rintro⟨i,p,e,c,b⟩;exact⟨p,Gd e,by simp[c,b]⟩
theorem Srt.snoc{ps:Prs}{a b:Int}(h:Srt ps)(g:a<=b)(k:∀(i:Nat)(p:Int×Int),ps[i]?=Jp p->p.2<a):Srt (ps++[(a,b)]):=by
 have c:∀(i:Nat)(p:Int×Int),(ps++[(a,b)])[i]?=Jp p->ps[i]?=Jp p/\i<ps.length\/p=(a,b)/\i=ps.length:=λi p e=>by
  by_cases hi:i<ps.length
  .rw[eX hi]at e;exact .inl ⟨e,hi⟩
  .have:i=ps.length:=by have:=(Gb.mp e).1;simp at this;lia
   subst this;simp at e;exact .inr ⟨e.symm,U⟩
 refine⟨λi p e=>?_,λi j p q d e f=>?_⟩
 .rcases c i p e with⟨e,_⟩|⟨rfl,_⟩
  .exact h.le i p e
  .exact g
 .rcases c i p e with⟨e,hi⟩|⟨rfl,hi⟩
  .rcases c j q f with⟨f,l⟩|⟨rfl,l⟩
   .exact h.lt i j p q d e f
   .exact k i p e
  .have:=(Gb.mp f).1;simp at this;lia
theorem eB.nil{prs:Prs}{b:Nat}:eB prs b 0 []:=⟨⟨λi p e=>by simp at e,λi j p q _ e=>by simp at e⟩,λx=>⟨(λh=>by cases h),λ⟨k,p,a,_⟩=>Jx a (by lia)⟩⟩
theorem eB.skip{prs ps:Prs}{b n:Nat}(h:eB prs b n ps)(c:b.testBit n=Js):eB prs b (n+1) ps:=by
 refine⟨h.srt,λx=>(h.iff x).trans ⟨λ⟨k,p,a,r⟩=>⟨k,p,by lia,r⟩,λ⟨k,p,a,e,t,r⟩=>⟨k,p,?_,e,t,r⟩⟩⟩;rcases yj k n with z|z
 .exact z
 .have:k=n:=by lia
  subst this;rw[c]at t;cases t
theorem eB.ahead{prs ps:Prs}{b n:Nat}(h:eB prs b n ps)(d:Ch prs){q:Int×Int}(e:prs[n]?=Jp q){i:Nat}{p:Int×Int}(f:ps[i]?=Jp p):p.2<q.1:=by
 have a:=h.srt.le i p f;obtain⟨k,r,c,g,_,l,j⟩:=(h.iff p.2).mp (kx.mpr ⟨i,p,f,a,Int.le_refl _⟩);have:=d.lt g e c;lia
theorem eB.put{prs ps:Prs}{b n:Nat}(h:eB prs b n ps)(g:Ch prs)(l:b.testBit n=Jr){q:Int×Int}(e:prs[n]?=Jp q):eB prs b (n+1) (ps++[(q.1,q.2)]):=by
 refine⟨h.srt.snoc (g.le n q e) λi p f=>h.ahead g e f,λx=>?_⟩;have m:inP (ps++[(q.1,q.2)]) x=(inP ps x || inR x (q.1,q.2)):=by unfold inP;rw[wh];simp
 rw[m,Br,h.iff x];constructor
 .rintro(⟨k,p,j,r⟩|hr)
  .exact⟨k,p,by lia,r⟩
  .unfold inR at hr;simp at hr;exact⟨n,q,by lia,e,l,hr.1,hr.2⟩
 .rintro⟨k,p,j,a,t,d,c⟩;rcases yj k n with z|z
  .exact .inl ⟨k,p,z,a,t,d,c⟩
  .have:k=n:=by lia
   subst this;rw[e]at a;cases a;exact .inr (by unfold inR;simp[d,c])
theorem eB.join{prs ps:Prs}{b n:Nat}{u:Int×Int}(h:eB prs b (n+1) (ps++[u]))(o:Ch prs)(C:b.testBit (n+1)=Jr)(H:b.testBit n=Jr){c q:Int×Int}(G:prs[n]?=Jp c)(e:prs[n+1]?=Jp q)(M:u.2=c.2):eB prs b (n+2) (ps++[(u.1,q.2)]):=by
 have K:=o.le _ q e;have L:=o.nxt n c q G e;have J:=h.srt.le ps.length u (by simp);have D:Srt ps:=by
  refine⟨λi p e=>h.srt.le i p ?_,λi j p r g e f=>h.srt.lt i j p r g ?_ ?_⟩
  .rw[eX (Gb.mp e).1];exact e
  .rw[eX (Gb.mp e).1];exact e
  .rw[eX (Gb.mp f).1];exact f
 refine⟨D.snoc (by lia) λi p f=>?_,λx=>?_⟩
 .have hi:=(Gb.mp f).1;exact h.srt.lt i ps.length p u hi (by rw[eX hi];exact f) (by simp)
 have s:∀v:Int×Int,inP (ps++[v]) x=(inP ps x || inR x v):=λv=>by unfold inP;rw[wh];simp
 have a:=h.iff x;rw[s u,Br]at a;rw[s (u.1,q.2),Br];have F:inR x (u.1,q.2)=Jr↔u.1<=x/\x<=q.2:=by unfold inR;simp
 have E:inR x u=Jr↔u.1<=x/\x<=u.2:=by unfold inR;simp
 rw[E]at a;rw[F];constructor
 .rintro(z|⟨z1,z2⟩)
  .obtain⟨k,p,m,r⟩:=a.mp (.inl z);exact⟨k,p,by lia,r⟩
  .by_cases B:x<=u.2
   .obtain⟨k,p,m,r⟩:=a.mp (.inr ⟨z1,B⟩);exact⟨k,p,by lia,r⟩
   .exact⟨n+1,q,by lia,e,C,by lia,z2⟩
 .rintro⟨k,p,m,d,t,A,l⟩;rcases yj k (n+1)with z|z
  .rcases a.mpr ⟨k,p,z,d,t,A,l⟩with w|⟨y,I⟩
   .exact .inl w
   .exact .inr ⟨y,by lia⟩
  .have:k=n+1:=by lia
   subst this;rw[e]at d;cases d;exact .inr ⟨by lia,l⟩
theorem eB.lastAt{prs ps:Prs}{b n:Nat}(h:eB prs b (n+1) ps)(g:Ch prs)(s:b.testBit n=Jr){q:Int×Int}(e:prs[n]?=Jp q):∃a u,ps=a++[u]/\u.2=q.2:=by
 have o:=g.le _ q e;obtain⟨i,p,f,y,w⟩:=kx.mp ((h.iff q.2).mpr ⟨n,q,by lia,e,s,o,Int.le_refl _⟩);rcases mO ps with rfl|⟨a,u,rfl⟩
 .simp at f
 .rw[mS]at h f;refine⟨a,u,mS,?_⟩;have c:(a++[u])[a.length]?=Jp u:=by simp
  have m:=h.srt.le _ _ c;have top:∀x,inP (a++[u]) x=Jr->x<=q.2:=λx l=>by
   obtain⟨k,r,v,d,_,_,j⟩:=(h.iff x).mp l;rcases yj k n with z|z
   .have:=g.lt d e z;lia
   .have:k=n:=by lia
    subst this;rw[e]at d;cases d;exact j
  have t:=top u.2 (kx.mpr ⟨_,u,c,m,Int.le_refl _⟩);have hi:=(Gb.mp f).1;rw[dq,hQ]at hi;rcases yj i a.length with z|z
  .have:=h.srt.lt i a.length p u z f c;lia
  .have:i=a.length:=by lia
   subst this;rw[show(a++[u])[a.length]?=Jp u by simp]at f;cases f;lia
theorem o7(b k:Nat):(Jt (V.int (GX.bitAnd ((b:Int) / 2^k) 1)=V.int 1))=b.testBit k:=by
 have e:(b:Int) / 2^k=((b / 2^k:Nat):Int):=by simp
 rw[e,PyProof.Rows.bitAnd_pp (zL _) (by decide)];unfold Nat.testBit;rw[Nat.shiftRight_eq_div_pow,zK,Nat.and_comm];show decide (V.int (((1:Int).toNat &&& (b / 2^k):Nat):Int)=V.int 1)=_;rw[show(1:Int).toNat=1 from U];have a:1 &&& (b / 2^k)=(b / 2^k)%2:=by rw[Nat.and_comm];exact Nat.and_one_is_mod _
 rw[a];have c:=yD (b / 2^k) (show 0<2 by decide);by_cases z:b / 2^k%2=1
 .rw[z];decide
 .have z0:b / 2^k%2=0:=by lia
  rw[z0];decide
def mrg(prs:Prs)(b:Nat):Nat->Prs
 |0=>[]
 |n+1=>if b.testBit n then(if (Jt (0<n) && b.testBit (n-1)) then(mrg prs b n).dropLast++[(((mrg prs b n).getLastD (0,0)).1,(prs.getD n (0,0)).2)]else mrg prs b n++[prs.getD n (0,0)])else mrg prs b n
theorem wz{prs:Prs}{b n:Nat}(h:b.testBit n=Js):mrg prs b (n+1)=mrg prs b n:=by
 show(if b.testBit n then _ else _)=_;rw[h];rfl
theorem tM{prs:Prs}{b n:Nat}{q:Int×Int}(h:b.testBit n=Jr)(a:(Jt (0<n) && b.testBit (n-1))=Js)(e:prs[n]?=Jp q):mrg prs b (n+1)=mrg prs b n++[(q.1,q.2)]:=by
 show(if b.testBit n then _ else _)=_;rw[h,Jw U,a,Jv (by decide),dV,e];rfl
theorem qD{prs ps:Prs}{b n:Nat}{q u:Int×Int}(h:b.testBit (n+1)=Jr)(c:b.testBit n=Jr)(a:ps++[u]=mrg prs b (n+1))(e:prs[n+1]?=Jp q):mrg prs b (n+2)=ps++[(u.1,q.2)]:=by
 show(if b.testBit (n+1) then(if (Jt (0<n+1) && b.testBit (n+1-1)) then(mrg prs b (n+1)).dropLast++[(((mrg prs b (n+1)).getLastD (0,0)).1,(prs.getD (n+1) (0,0)).2)]else _)else _)=_;rw[h,Jw U,Nat.add_sub_cancel,c,Jw (by simp),←a,dV,e];simp
abbrev BW:=List Nat×Int
def dO(N:E2->Prop)(H:Hp)(r:E2)(w:BW):Prop:=∃bl,H r=Jp (.tup [.ref bl,.int w.2])/\N bl/\H bl=Jp (.lst (vN w.1))
theorem dO.same{N:E2->Prop}{H H':Hp}{r:E2}{w:BW}(h:dO N H r w)(s:ao H H'):dO N H' r w:=by obtain⟨bl,e,n,f⟩:=h;exact⟨bl,s _ _ e,n,s _ _ f⟩
theorem dO.wk{N b:E2->Prop}{H:Hp}{r:E2}{w:BW}(h:dO N H r w)(k:∀a,N a->b a):dO b H r w:=by obtain⟨bl,e,n,f⟩:=h;exact⟨bl,e,k _ n,f⟩
theorem dO.updN{N:E2->Prop}{D:E2}{H:Hp}{r:E2}{w:BW}{zs:List V}{o:HO}(h:dO N H r w)(n:¬ N D)(e:H D=Jp (.lst zs)):dO N (upd H D o) r w:=by
 obtain⟨bl,f,m,g⟩:=h;exact⟨bl,(aw (fJ f e (by intro z;cases z))).trans f,m,(aw (λz=>n (by rw[←z];exact m))).trans g⟩
def BRL(N:E2->Prop)(H:Hp)(xs:List V)(ws:List BW):Prop:=aC xs ws (dO N H)
theorem BRL.same{N:E2->Prop}{H H':Hp}{xs:List V}{ws:List BW}(h:BRL N H xs ws)(s:ao H H'):BRL N H' xs ws:=aC.mono h λ_ _ p=>p.same s
theorem BRL.wk{N b:E2->Prop}{H:Hp}{xs:List V}{ws:List BW}(h:BRL N H xs ws)(k:∀a,N a->b a):BRL b H xs ws:=aC.mono h λ_ _ p=>p.wk k
theorem BRL.updN{N:E2->Prop}{D:E2}{H:Hp}{xs:List V}{ws:List BW}{zs:List V}{o:HO}(h:BRL N H xs ws)(n:¬ N D)(e:H D=Jp (.lst zs)):BRL N (upd H D o) xs ws:=aC.mono h λ_ _ p=>p.updN n e
structure cm(cs:List Col)(o:Col)(w:BW):Prop where
 len:w.1.length=cs.length
 lt:∀(j b:Nat)(c:Col),w.1[j]?=Jp b->cs[j]?=Jp c->b<2^c.prs.length
 lo:o.lo<=w.2
 hi:w.2<=o.hi
theorem o8(xs:List V)(k:Nat):kP xs Jq (Jp (k:Int))=xs.take k:=by
 unfold kP;have e:HT.sIx xs.length xs.length (Jp (k:Int))=min k xs.length:=by
  simp only[HT.sIx];split <;> lia
 have a:HT.sIx xs.length 0 Jq=0:=by simp[HT.sIx]
 rw[e,a,List.drop_zero,Nat.sub_zero];rcases Nat.le_total k xs.length with h|h
 .rw[Nat.min_eq_left h]
 .rw[Nat.min_eq_right h,fq,List.take_of_length_le h]
theorem lg(xs:List V)(k:Nat):kP xs (Jp (k:Int)) Jq=xs.drop k:=by
 unfold kP;have e:HT.sIx xs.length 0 (Jp (k:Int))=min k xs.length:=by
  simp only[HT.sIx];split <;> lia
 have a:HT.sIx xs.length xs.length Jq=xs.length:=by simp[HT.sIx]
 rw[e,a,←kB,fq];rcases Nat.le_total k xs.length with h|h
 .rw[Nat.min_eq_left h]
 .rw[Nat.min_eq_right h,List.drop_length,List.drop_of_length_le h]
theorem xS(bs:List Nat)(k:Nat):(vN bs).take k=vN (bs.take k):=by unfold vN;rw[ox]
theorem xT(bs:List Nat)(k:Nat):(vN bs).drop k=vN (bs.drop k):=by unfold vN;rw[oy]
theorem Az{bs:List Nat}{k:Nat}(h:k<bs.length)(x:Nat):bs.take k++[x]++bs.drop (k+1)=bs.set k x:=by
 rw[List.set_eq_take_append_cons_drop,Jw h];simp
theorem four{e v:Int}(d:0<e)(j:0<=v){m:Int}:∃b:Nat,atI [V.int (v%(e+1)),.int (v%(e+1)),.int e,.int (v%e)] (m%4)=Jp (.int (b:Int))/\(b:Int)<=e:=by
 have g:=zE m (show(4:Int)≠0 by decide);have f:=zz m (show(0:Int)<4 by decide);have a:=zE v (show e+1≠0 by lia);have i:=zz v (show 0<e+1 by lia);have c:=zE v (show e≠0 by lia);have h:=zz v d;generalize m%4=k at g f⊢;generalize v%(e+1)=x at a i⊢;generalize v%e=y at c h⊢;have:k=0\/k=1\/k=2\/k=3:=by lia
 rcases this with rfl|rfl|rfl|rfl
 .exact⟨x.toNat,by rw[zU a];rfl,by lia⟩
 .exact⟨x.toNat,by rw[zU a];rfl,by lia⟩
 .exact⟨e.toNat,by rw[zU (by lia)];rfl,by lia⟩
 .exact⟨y.toNat,by rw[zU c];rfl,by lia⟩
theorem BR{p:Int×Int}{m:Int}:∃x:Int,atI [V.int p.1,V.int p.2] (m%2)=Jp (.int x)/\(x=p.1\/x=p.2):=by
 have b:=zE m (show(2:Int)≠0 by decide);have a:=zz m (show(0:Int)<2 by decide);generalize m%2=k at b a⊢;have:k=0\/k=1:=by lia
 rcases this with rfl|rfl
 .exact⟨_,U,.inl U⟩
 .exact⟨_,U,.inr U⟩
theorem tN{H:Hp}{ts:List V}{ps:Prs}(h:PL H ts ps){i:Int}(b:0<=i)(e:i<((ts.length:Nat):Int)):∃r p,atI ts i=Jp (.ref r)/\ps[i.toNat]?=Jp p/\H r=Jp (.tup [.int p.1,.int p.2]):=by
 obtain⟨x,a⟩:∃x,ts[i.toNat]?=Jp x:=⟨_,Ga (by lia)⟩;obtain⟨p,r,d,rfl,c⟩:=h.get a;have:=bN a;rw[zU b]at this;exact⟨r,p,this,d,c⟩
structure m9(cs:List Col)(w:BW)(x:Rw):Prop where
 code:x.2=w.2
 len:x.1.length=cs.length
 sp:∀(j:Nat)(ps:Prs)(c:Col)(b:Nat),x.1[j]?=Jp ps->cs[j]?=Jp c->w.1[j]?=Jp b->eB c.prs b c.prs.length ps
 is:∀(j:Nat)(ps:Prs)(c:Col)(b:Nat),x.1[j]?=Jp ps->cs[j]?=Jp c->w.1[j]?=Jp b->ps=mrg c.prs b c.prs.length
def cw(a:List Col)(ws:List BW)(rws:List Rw):Prop:=rws.length=ws.length/\∀(k:Nat)(w:BW)(x:Rw),ws[k]?=Jp w->rws[k]?=Jp x->m9 a w x
theorem cw.nil{a:List Col}:cw a [] []:=⟨U,λk w x e=>by simp at e⟩
theorem cw.snoc{a:List Col}{ws:List BW}{rws:List Rw}{w:BW}{x:Rw}(h:cw a ws rws)(i:m9 a w x):cw a (ws++[w]) (rws++[x]):=by
 refine⟨by simp[h.1],λk g d e f=>?_⟩;by_cases c:k<ws.length
 .rw[eX c]at e;rw[eX (by rw[h.1];exact c)]at f;exact h.2 k g d e f
 .have b:k=ws.length:=by have:=(Gb.mp e).1;simp at this;lia
  subst b;simp at e;subst e;rw[←h.1]at f;simp at f;subst f;exact i
theorem m9.rowOk{a:List Col}{m:Col}{w:BW}{x:Rw}(h:m9 a w x)(g:cm a m w)(hok:∀c∈a,aZ c):qp (a.map Col.b) m.b x:=by
 refine⟨by rw[h.len,bo],λj n b e f p o=>?_,by rw[h.code];exact g.lo,by rw[h.code];exact g.hi⟩;rw[eU]at f;cases ec:a[j]? with
 |none=>rw[ec]at f;cases f
 |some c =>
  rw[ec]at f;cases f;have ok:=hok c (Gd ec);obtain⟨l,q⟩:∃l,w.1[j]?=Jp l:=⟨_,Ga (by rw[g.len];exact(Gb.mp ec).1)⟩;have so:=h.sp j n c l e ec q;obtain⟨i,k⟩:=jn o;have d:=so.srt.le i p k;obtain⟨A,y,_,s,_,u,_⟩:=(so.iff p.1).mp (kx.mpr ⟨i,p,k,Int.le_refl _,d⟩);obtain⟨z,v,_,r,_,_,t⟩:=(so.iff p.2).mp (kx.mpr ⟨i,p,k,d,Int.le_refl _⟩);have C:=ok.inn s;have B:=ok.inn r;show c.lo<=p.1/\p.2<=c.hi;lia
theorem cw.rowOk{a:List Col}{d:Col}{ws:List BW}{rws:List Rw}(h:cw a ws rws)(i:∀w∈ws,cm a d w)(hok:∀c∈a,aZ c):∀x∈rws,qp (a.map Col.b) d.b x:=λx g=>by
 obtain⟨k,f⟩:=jn g;obtain⟨w,e⟩:∃w,ws[k]?=Jp w:=⟨_,Ga (by rw[←h.1];exact(Gb.mp f).1)⟩;exact(h.2 k w x e f).rowOk (i w (Gd e)) hok
def cM(a:List Col):List Nat:=a.map λc=>c.prs.length
def AtP(d:List Col)(p:List Nat)(e:List Int):Prop:=e.length=d.length/\∀(j:Nat)(x:Int)(c:Col)(a:Nat),e[j]?=Jp x->d[j]?=Jp c->p[j]?=Jp a->∃b,c.prs[a]?=Jp b/\(x=b.1\/x=b.2)
def cX(bs p:List Nat):Bool:=(List.range p.length).all λj=>(bs.getD j 0).testBit (p.getD j 0)
theorem qE{bs p:List Nat}(d:bs.length=p.length):cX bs p=Jr↔∀(j a b:Nat),p[j]?=Jp a->bs[j]?=Jp b->b.testBit a=true:=by
 unfold cX;rw[iv];constructor
 .intro h j a b e f;have:=h j (hV.mpr (Gb.mp e).1);rw[dV,dV,e,f]at this;exact this
 .intro h j c;have c:=hV.mp c;have e:=Ga c;have f:=Ga (l:=bs) (i:=j) (by lia);rw[dV,dV,e,f];exact h j _ _ e f
theorem eB.atPair{prs ps:Prs}{b:Nat}(h:eB prs b prs.length ps)(d:Ch prs){a:Nat}{c:Int×Int}(e:prs[a]?=Jp c){x:Int}(i:c.1<=x)(g:x<=c.2):inP ps x=Jr↔b.testBit a=true:=by
 rw[h.iff x];constructor
 .rintro⟨k,p,m,f,t,l,j⟩;rcases Nat.lt_trichotomy k a with z|z|z
  .have:=d.lt f e z;lia
  .subst z;exact t
  .have:=d.lt e f z;lia
 .intro t;exact⟨a,c,(Gb.mp e).1,e,t,i,g⟩
theorem tO{a:List Col}{j:Nat}{c:Col}(e:a[j]?=Jp c):(cM a)[j]?=Jp c.prs.length:=by unfold cM;rw[eU,e];rfl
theorem fQ(a:List Col):(cM a).length=a.length:=by unfold cM;rw[bo]
theorem xU{g:List Col}{A:Col}{w:BW}{x:Rw}{p:List Nat}{m:List Int}(h:m9 g w x)(t:cm g A w)(hok:∀c∈g,aZ c)(B:iJ (cM g) p)(q:AtP g p m):jh x.1 m=cX w.1 p:=by
 have o:p.length=g.length:=by rw[B.1,fQ]
 rw[Bool.eq_iff_iff,qE (by rw[t.len,o])];unfold jh;rw[iv];have n:∀(j a b:Nat),p[j]?=Jp a->w.1[j]?=Jp b->∀z,m[j]?=Jp z->(inP (x.1.getD j []) z=Jr↔b.testBit a=Jr):=λj a b e k z f=>by
  have d:j<g.length:=by rw[←o];exact(Gb.mp e).1
  have s:=Ga d;have u:=Ga (l:=x.1) (i:=j) (by rw[h.len];exact d);have ok:=hok _ (Gd s);obtain⟨D,y,v⟩:=q.2 j z _ a f s e;have C:=ok.ch.le _ _ y;rw[dV,u];exact(h.sp j _ _ b u s k).atPair ok.ch y (by rcases v with rfl|rfl <;> lia) (by rcases v with rfl|rfl <;> lia)
 constructor
 .intro r j a b e k;have d:j<m.length:=by rw[q.1,←o];exact(Gb.mp e).1
  have f:=Ga d;have:=r j (hV.mpr d);rw[dV (l:=m),f]at this;exact(n j a b e k _ f).mp this
 .intro r j d;have d:=hV.mp d;have f:=Ga d;have e:=Ga (l:=p) (i:=j) (by rw[o,←q.1];exact d);have k:=Ga (l:=w.1) (i:=j) (by rw[t.len,←q.1];exact d);rw[dV (l:=m),f];exact(n j _ _ e k _ f).mpr (r j _ _ e k)
def bF(ws:List BW)(p:List Nat)(k:Nat):Bool:=cX (ws.getD k ([],0)).1 p
def cnt(ws:List BW)(p:List Nat):List Nat:=(List.range ws.length).filter (bF ws p)
def dP(e d:E2)(H:Hp)(a:E2)(c:Col):Prop:=(c.w=Js/\∃b fs,H a=Jp (.ins e b fs)/\fs.lookup s!"low"=Jp (.int c.lo)/\fs.lookup s!"high"=Jp (.int c.hi)/\fs.lookup s!"has_code"=Jq) \/
 (c.w=Jr/\∃b fs l,H a=Jp (.ins d b fs)/\fs.lookup s!"low"=Jp (.int c.lo)/\fs.lookup s!"high"=Jp (.int c.hi)/\fs.lookup s!"has_code"=Jq/\fs.lookup s!"words"=Jp (.ref l)/\H l=Jp (.lst ((wds c.sd (c.hi+1).toNat).map V.str)))
theorem dP.same{f d:E2}{H H':Hp}{a:E2}{c:Col}(h:dP f d H a c)(s:ao H H'):dP f d H' a c:=by
 rcases h with⟨w,b,fs,e,r⟩|⟨w,b,fs,l,e,m,k,j,i,g⟩
 .exact .inl ⟨w,b,fs,s _ _ e,r⟩
 .exact .inr ⟨w,b,fs,l,s _ _ e,m,k,j,i,s _ _ g⟩
theorem dP.dom{k j:E2}{H:Hp}{a:E2}{c:Col}(h:dP k j H a c):Dom k j H a c.b:=by
 rcases h with⟨w,i,fs,e,g,f,d⟩|⟨w,i,fs,l,e,g,f,d,_⟩
 .exact⟨k,.inl U,i,fs,e,g,f,d⟩
 .exact⟨j,.inr U,i,fs,e,g,f,d⟩
def TF(j:E2)(H:Hp)(t:E2)(g e:Str)(f:E2)(zs:List Str)(i:List V)(rws:List Rw):Prop:=∃(b h c d:E2)(fs:List (Str×V))(a:List V),H t=Jp (.ins j h fs)/\fs.lookup s!"rows"=Jp (.ref b)/\fs.lookup s!"name"=Jp (.str g)/\fs.lookup s!"way"=Jp (.str e)/\fs.lookup s!"outcome"=Jp (.ref f)/\fs.lookup s!"names"=Jp (.ref c)/\fs.lookup s!"domains"=Jp (.ref d)/\H c=Jp (.lst (zs.map V.str))/\H d=Jp (.lst i)/\H b=Jp (.lst a)/\RL NT H a rws/\a.length<=200
theorem TF.same{g:E2}{H H':Hp}{t:E2}{e c:Str}{d:E2}{zs:List Str}{f:List V}{rws:List Rw}(h:TF g H t e c d zs f rws)(s:ao H H'):TF g H' t e c d zs f rws:=by
 obtain⟨j,x,k,y,fs,i,w,v,u,q,p,o,n,m,l,b,a,r⟩:=h;exact⟨j,x,k,y,fs,i,s _ _ w,v,u,q,p,o,n,s _ _ m,s _ _ l,s _ _ b,a.same s,r⟩
theorem TF.tbl{g j f:E2}{H:Hp}{t:E2}{m a:Str}{b:E2}{zs:List Str}{w:List V}{rws:List Rw}{i:Nat}{o:Int×Int}(h:TF g H t m a b zs w rws)(hi:six[i]?=Jp a)(n:Dom j f H b o)(p:o.1<=o.2):Tbl g j f H t rws i o:=by
 obtain⟨l,v,_,_,fs,k,u,s,_,r,q,_,_,_,_,e,d,c⟩:=h;exact⟨l,b,v,fs,k,a,u,s,r,q,e,d,hi,n,p,c⟩
structure TOk(cN cW:E2)(H:Hp)(nm wy:Str)(ou:E2)(zs:List Str)(dv:List V)(rws:List Rw)(bs:Prs)(o:Int×Int):Prop where
 words:∀z∈nm :: zs,isw z=Jr
 once:(nm :: zs).Nodup
 one:1<=zs.length
 four:zs.length<=4
 way:wy∈six
 sum:wy=s!"sum" -> ∃dx fs,H ou=Jp (.ins cN dx fs)
 doms:aC dv bs (Dom cN cW H)
 out:Dom cN cW H ou o
 len:bs.length=zs.length
 rows:∀w∈rws,qp bs o w
 few:rws.length<=200
theorem TOk.same{g f:E2}{H H':Hp}{c a:Str}{b:E2}{zs:List Str}{d:List V}{rws:List Rw}{bs:Prs}{o:Int×Int}(h:TOk g f H c a b zs d rws bs o)(s:ao H H'):TOk g f H' c a b zs d rws bs o :=
 ⟨h.words,h.once,h.one,h.four,h.way,λz=>let ⟨dx,fs,e⟩:=h.sum z;⟨dx,fs,s _ _ e⟩,aC.mono h.doms λ_ _ p=>p.same s,h.out.same s,h.len,h.rows,h.few⟩
theorem dP.hide{i g:E2}{H:Hp}{a D:E2}{c:Col}{zs:List V}(h:dP i g H a c)(e:H D=Jp (.lst zs))(hz:∀x∈zs,∃r,x=.ref r)(p:c.w=Jr->0<=c.hi):dP i g (My.hide H D) a c:=by
 rcases h with⟨w,f,fs,d,r⟩|⟨w,f,fs,l,d,n,m,k,j,b⟩
 .exact .inl ⟨w,f,fs,bG d (fJ d e (by intro z;cases z)),r⟩
 .refine .inr ⟨w,f,fs,l,bG d (fJ d e (by intro z;cases z)),n,m,k,j,bG b λz=>?_⟩;rw[z,e]at b;injection b with b;injection b with b;have s:=p w;have q:0<(wds c.sd (c.hi+1).toNat).length:=by unfold wds;simp;lia
  obtain⟨r,o⟩:=hz (.str (wds c.sd (c.hi+1).toNat)[0]) (by rw[b];exact eR.mpr ⟨_,mJ q,U⟩);cases o
def pc(ws:List BW)(p:List Nat):List Int:=(ws.filter λw=>cX w.1 p).map (·.2)
theorem o9(ws:List BW)(w:BW)(p:List Nat):pc (ws++[w]) p=pc ws p++(if cX w.1 p then[w.2] else[]):=by
 unfold pc;rw[lq,fR];cases h:cX w.1 p <;> simp[List.filter_cons,h]
theorem wA(ws:List BW)(p:List Nat):(pc ws p).length<=ws.length:=by
 unfold pc;rw[bo];exact uW ..
theorem sne{a b:Str}(h:a≠b):¬ (V.str a=V.str b):=λe=>by injection e with e;exact h e
theorem wB{prs:Prs}(a:Ch prs)(b:Nat):∀n,n<=prs.length->eB prs b n (mrg prs b n)/\Apart (mrg prs b n)
 |0,_=>⟨eB.nil,⟨(λp D=>by cases D),List.Pairwise.nil⟩⟩
 |n+1,h=>by
  obtain⟨ok,g⟩:=wB a b n (by lia);obtain⟨q,e⟩:∃q,prs[n]?=Jp q:=⟨_,Ga (by lia)⟩;cases hb:b.testBit n with
  |false=>rw[wz hb];exact⟨ok.skip hb,g⟩
  |true =>
   cases hd:(Jt (0<n) && b.testBit (n-1)) with
   |false =>
    rw[tM hb hd e];refine⟨ok.put a hb e,g.snoc (p:=(q.1,q.2)) (a.le n q e) λr C=>?_⟩;obtain⟨i,v⟩:=jn C;have s:=ok.srt.le i r v;obtain⟨k,p,K,F,B,J,I⟩:=(ok.iff r.2).mp (kx.mpr ⟨i,r,v,s,Int.le_refl _⟩);have t:k<n-1:=by
     rcases yj k (n-1)with z|z
     .exact z
     .have A:k=n-1:=by lia
      have y:decide (0<n)=true:=Jy (by lia);rw[←A,B,y]at hd;cases hd
    obtain⟨f,l⟩:∃f,prs[n-1]?=Jp f:=⟨_,Ga (by lia)⟩;have x:=a.lt F l t;have G:=a.le _ f l;have w:=a.nxt (n-1) f q l (by rw[show n-1+1=n by lia];exact e);show r.2+2<=q.1;lia
   |true =>
    rw[A2,JC]at hd;obtain⟨m,rfl⟩:∃m,n=m+1:=⟨n-1,by lia⟩;have c:b.testBit m=true:=hd.2;obtain⟨j,o⟩:∃j,prs[m]?=Jp j:=⟨_,Ga (by lia)⟩;obtain⟨H,u,d,E⟩:=ok.lastAt a c o;rw[qD hb c d.symm e];rw[d]at ok g;refine⟨ok.join a hb c o e E,?_⟩;obtain⟨x,G,w⟩:=g.init;refine x.snoc (p:=(u.1,q.2)) ?_ w;have:=a.nxt m j q o e;have:=a.le _ q e;show u.1<=q.2;lia
theorem tQ{prs:Prs}{b:Nat}:∀n,(mrg prs b n).length<=n
 |0=>wN _
 |n+1=>by
  have a:=tQ (prs:=prs) (b:=b) n;show(if b.testBit n then(if (Jt (0<n) && b.testBit (n-1))then _ else _)else _:Prs).length<=n+1;split
  .split
   .simp only[dq,List.length_dropLast,hQ];lia
   .simp only[dq,hQ];lia
  .lia
def mg(c:Col)(b:Nat):Prs:=mrg c.prs b c.prs.length
def cel(a:List Col)(bs:List Nat):List Prs:=List.zipWith mg a bs
def rwo(a:List Col)(w:BW):Rw:=(cel a w.1,w.2)
theorem tS{a:List Col}{bs:List Nat}{j:Nat}{c:Col}{b:Nat}(e:a[j]?=Jp c)(f:bs[j]?=Jp b):(cel a bs)[j]?=Jp (mg c b):=by
 unfold cel;rw[nS,e,f]
theorem pb{a:List Col}{bs:List Nat}(h:bs.length=a.length):(cel a bs).length=a.length:=by unfold cel;rw[lz];lia
theorem m9.rwo{a:List Col}{w:BW}{x:Rw}(h:m9 a w x)(c:w.1.length=a.length):x=My.rwo a w:=by
 have m:x.1=cel a w.1:=by
  refine rr λj=>?_
  by_cases b:j<a.length
  .have d:=Ga (l:=x.1) (i:=j) (by rw[h.len];exact b);have f:=Ga b;have e:=Ga (l:=w.1) (i:=j) (by rw[c];exact b);rw[tS f e,d,h.is j _ _ _ d f e];rfl
  .rw[kC (by rw[h.len];lia),kC (by rw[pb c];lia)]
 cases x with
 |mk k g=>rw[show k=cel a w.1 from m,show g=w.2 from h.code];rfl
theorem cw.rwo{b:List Col}{ws:List BW}{rws:List Rw}(h:cw b ws rws)(e:∀w∈ws,w.1.length=b.length):rws=ws.map (My.rwo b):=by
 refine rr λk=>?_
 rw[eU];by_cases c:k<ws.length
 .have a:=Ga c;have d:=Ga (l:=rws) (i:=k) (by rw[h.1];exact c);rw[d,a,(h.2 k _ _ a d).rwo (e _ (Gd a))];rfl
 .rw[kC (by rw[h.1];lia),kC (by lia)];rfl
theorem AA{d:List Col}{w:BW}(hok:∀c∈d,aZ c)(i:w.1.length=d.length):m9 d w (rwo d w):=by
 have h:∀(j:Nat)(a:Prs)(c:Col)(b:Nat),(cel d w.1)[j]?=Jp a->d[j]?=Jp c->w.1[j]?=Jp b->a=mg c b:=λj a c b e f g=>by
  rw[tS f g]at e;exact(Option.some.inj e).symm
 refine⟨U,pb i,λj a c b e f g=>?_,λj a c b e f g=>h j a c b e f g⟩;rw[h j a c b e f g];exact(wB (hok c (Gd f)).ch b _ (wN _)).1
theorem lh{a:List Col}{ws:List BW}(hok:∀c∈a,aZ c)(b:∀w∈ws,w.1.length=a.length):cw a ws (ws.map (rwo a)):=by
 refine⟨bo _,λk w x e f=>?_⟩;rw[eU,e]at f;cases f;exact AA hok (b w (Gd e))
theorem BS{a:List Col}{j:Col}{ws:List BW}{rws:List Rw}{p:List Nat}{d:List Int}(h:cw a ws rws)(q:∀w∈ws,cm a j w)(hok:∀c∈a,aZ c)(m:iJ (cM a) p)(o:AtP a p d):fl rws d=pc ws p:=by
 have e:∀n,n<=ws.length->fl (rws.take n) d=pc (ws.take n) p:=λn=>by
  induction n with
  |zero=>intro _;rfl
  |succ n k =>
   intro s;have b:=Ga (l:=ws) (i:=n) (by lia);have g:=Ga (l:=rws) (i:=n) (by rw[h.1];lia);have f:=h.2 n _ _ b g;have r:=q _ (Gd b);rw[take_snoc b,take_snoc g,tE,o9,k (by lia),xU f r hok m o,f.code]
 have:=e ws.length (wN _);rw[fq,←h.1,fq]at this;exact this
def uN(d:List Col)(p:List Nat)(e:List Int):Prop:=e.length=d.length/\∀(j:Nat)(x:Int)(c:Col)(a:Nat),e[j]?=Jp x->d[j]?=Jp c->p[j]?=Jp a->∃b,c.prs[a]?=Jp b/\(b.1<=x/\x<=b.2)
theorem xV{g:List Col}{A:Col}{w:BW}{x:Rw}{p:List Nat}{m:List Int}(h:m9 g w x)(t:cm g A w)(hok:∀c∈g,aZ c)(B:iJ (cM g) p)(q:uN g p m):jh x.1 m=cX w.1 p:=by
 have o:p.length=g.length:=by rw[B.1,fQ]
 rw[Bool.eq_iff_iff,qE (by rw[t.len,o])];unfold jh;rw[iv];have n:∀(j a b:Nat),p[j]?=Jp a->w.1[j]?=Jp b->∀z,m[j]?=Jp z->(inP (x.1.getD j []) z=Jr↔b.testBit a=Jr):=λj a b e k z f=>by
  have d:j<g.length:=by rw[←o];exact(Gb.mp e).1
  have s:=Ga d;have u:=Ga (l:=x.1) (i:=j) (by rw[h.len];exact d);have ok:=hok _ (Gd s);obtain⟨D,y,v⟩:=q.2 j z _ a f s e;have C:=ok.ch.le _ _ y;rw[dV,u];exact(h.sp j _ _ b u s k).atPair ok.ch y v.1 v.2
 constructor
 .intro r j a b e k;have d:j<m.length:=by rw[q.1,←o];exact(Gb.mp e).1
  have f:=Ga d;have:=r j (hV.mpr d);rw[dV (l:=m),f]at this;exact(n j a b e k _ f).mp this
 .intro r j d;have d:=hV.mp d;have f:=Ga d;have e:=Ga (l:=p) (i:=j) (by rw[o,←q.1];exact d);have k:=Ga (l:=w.1) (i:=j) (by rw[t.len,←q.1];exact d);rw[dV (l:=m),f];exact(n j _ _ e k _ f).mpr (r j _ _ e k)
def vd(rws:List Rw)(i:Nat)(o:Int×Int)(m:Nat):SI:=ver (wf i o.1 o.2) (pkF rws (di (m:Int)) rws.length)
def TlM(K:W.Frag)(H:Hp)(rws:List Rw)(i:Nat)(o:Int×Int)(xs:List V)(d:List Nat):Prop:=aC xs d λc m=>∃b a:E2,H c=Jp (.tup [.ref b,.int (m:Int),.ref a])/\SqT K H a (tp (vd rws i o m))
theorem TlM.same{K:W.Frag}{H H':Hp}{rws:List Rw}{i:Nat}{o:Int×Int}{xs:List V}{a:List Nat}(h:TlM K H rws i o xs a)(s:ao H H'):TlM K H' rws i o xs a:=aC.mono h λ_ _ ⟨b,c,e,f⟩=>⟨b,c,s _ _ e,s.seqT f⟩
theorem xW{rws:List Rw}{i:Nat}{o:Int×Int}{k m:Nat}(h:ck rws i o k m=Js)(a:m.testBit k=Jr):vd rws i o (m-2^k)=vd rws i o m:=by
 unfold ck at h;rw[a,Bool.true_and]at h;exact Decidable.of_not_not (of_decide_eq_false h)
def clr(m k:Nat):Nat:=m-(m &&& 2^k)
theorem wC(m k:Nat):m &&& 2^k=if m.testBit k then 2^k else 0:=by
 apply Nat.eq_of_testBit_eq
 intro i;rw[Nat.testBit_and,Nat.testBit_two_pow];by_cases e:k=i
 .subst e;cases h:m.testBit k <;> simp
 .cases h:m.testBit k <;> simp[e]
theorem lj{m k:Nat}(h:m.testBit k=Jr):clr m k=m-2^k:=by unfold clr;rw[wC,Jw h]
theorem wD{m k:Nat}(h:m.testBit k=Js):clr m k=m:=by unfold clr;rw[wC,Jv (by rw[h];decide)];rfl
theorem AB{rws:List Rw}{i:Nat}{o:Int×Int}{k m:Nat}(h:ck rws i o k m=Js):vd rws i o (clr m k)=vd rws i o m:=by
 cases hb:m.testBit k with
 |true=>rw[lj hb,xW h hb]
 |false=>rw[wD hb]
theorem qF(m k:Nat):GX.bitAnd (m:Int) (GX.bitNot (1*2^((k:Int)).toNat))=((clr m k:Nat):Int):=by
 have e:(1:Int)*2^((k:Int)).toNat=((2^k:Nat):Int):=by rw[zY,zK];simp
 rw[PyProof.Rows.bitAnd_not,e,PyProof.Rows.bitAnd_pp (zL _) (zL _),zK,zK];unfold clr;have:m &&& 2^k<=m:=Nat.and_le_left;lia
section
variable(f:List Int->SI)(PS:List (List Nat))
def Idl(ws:List BW)(k:Nat):Prop:=∀p∈PS,cX (ws.getD k ([],0)).1 p=Jr->f (pc ws p)=f (pc (ws.eraseIdx k) p)
inductive Th:List BW->List BW->Prop
 |fin {ws:List BW}:(∀k,k<ws.length->¬ Idl f PS ws k)->Th ws ws
 |step {ws r:List BW}{k:Nat}:k<ws.length->Idl f PS ws k->(∀j,k<j->j<ws.length->¬ Idl f PS ws j)->Th (ws.eraseIdx k) r->Th ws r
end
section
variable{f:List Int->SI}{PS:List (List Nat)}
theorem Th.uniq{ws r d:List BW}(h:Th f PS ws r)(h':Th f PS ws d):r=d:=by
 induction h with
 |fin h =>
  cases h' with
  |fin _=>rfl
  |step a b _ _=>exact Jx b (h _ a)
 | @step ws r k a b c _ ih =>
  cases h' with
  |fin h=>exact Jx b (h _ a)
  | @step _ _ k' a' b' c' d' =>
   have:k=k':=by
    rcases Nat.lt_trichotomy k k' with z|z|z
    .exact Jx b' (c k' z a')
    .exact z
    .exact Jx b (c' k z a)
   subst this;exact ih d'
theorem Th.clr{ws r:List BW}(h:Th f PS ws r):∀k,k<r.length->¬ Idl f PS r k:=by
 induction h with
 |fin h=>exact h
 |step _ _ _ _ a=>exact a
theorem Th.mem{ws r:List BW}(h:Th f PS ws r):∀w∈r,w∈ws:=by
 induction h with
 |fin _=>exact λw h=>h
 |step _ _ _ _ a=>exact λw h=>List.mem_of_mem_eraseIdx (a w h)
theorem Th.len{ws r:List BW}(h:Th f PS ws r):r.length<=ws.length:=by
 induction h with
 |fin _=>exact wN _
 |step a _ _ _ b=>rw[sy,Jw a]at b;lia
theorem wF{ws:List BW}{k:Nat}{p:List Nat}(a:k<ws.length)(h:cX (ws.getD k ([],0)).1 p=Js):pc (ws.eraseIdx k) p=pc ws p:=by
 have e:=Ga a;rw[dV,e]at h;have h:cX ws[k].1 p=false:=h
 conv=>rhs;rw[←List.take_append_drop k ws,List.drop_eq_getElem_cons a]
 rw[mv];unfold pc;rw[lq,lq,List.filter_cons_of_neg (by rw[h];decide)]
theorem Th.ver{ws r:List BW}(h:Th f PS ws r):∀p∈PS,f (pc r p)=f (pc ws p):=by
 induction h with
 |fin _=>exact λ_ _=>U
 | @step ws r k a b _ _ ih =>
  intro p c;rw[ih p c];cases hb:cX (ws.getD k ([],0)).1 p with
  |true=>exact(b p c hb).symm
  |false=>rw[wF a hb]
end
def gw(ws:List BW)(k:Nat):BW:=ws.getD k ([],0)
def cur(ws:List BW)(ks:List Nat):List BW:=ks.map (gw ws)
def mkp(ws:List BW)(ks:List Nat)(p:List Nat):Nat:=msk (λk=>decide (k∈ks) && cX (gw ws k).1 p) ws.length
theorem ky{ws:List BW}{ks:List Nat}{a:Nat}:cur ws (ks.eraseIdx a)=(cur ws ks).eraseIdx a:=by
 unfold cur;rw[mv,mv,fR,ox,oy]
theorem mem_erase{ks:List Nat}(g:ks.Pairwise (· < ·)){a k x:Nat}(f:ks[a]?=Jp k):x∈ks.eraseIdx a↔x∈ks/\x≠k:=by
 rw[List.mem_eraseIdx_iff_getElem?];constructor
 .rintro⟨i,hi,e⟩;refine⟨Gd e,λz=>hi ?_⟩;subst z;obtain⟨d,l⟩:=Gb.mp e;obtain⟨c,j⟩:=Gb.mp f;have b:=List.pairwise_iff_getElem.mp g;rcases Nat.lt_trichotomy i a with z|z|z
  .have:=b i a d c z;lia
  .exact z
  .have:=b a i c d z;lia
 .rintro⟨h,n⟩;obtain⟨i,e⟩:=jn h;exact⟨i,λz=>n (by rw[z,f]at e;cases e;rfl),e⟩
theorem mj{ks:List Nat}(b:ks.Pairwise (· < ·))(a:Nat):(ks.eraseIdx a).Pairwise (· < ·):=b.sublist (List.eraseIdx_sublist ..)
theorem xX{e:List Col}{ws:List BW}{rws:List Rw}(a:cw e ws rws)(k:Nat):(rws.getD k ([],0)).2=(gw ws k).2:=by
 unfold gw;have f:=a.1;rw[dV,dV];by_cases d:k<ws.length
 .have c:=Ga d;have b:=Ga (l:=rws) (i:=k) (by lia);rw[c,b];exact(a.2 k _ _ c b).code
 .rw[kC (by lia),kC (by lia)];rfl
theorem pd{g:List Col}{ws:List BW}{rws:List Rw}{ks:List Nat}{i:Nat}{o:Int×Int}{p:List Nat}(a:cw g ws rws)(f:ks.Pairwise (· < ·))(d:∀k∈ks,k<ws.length):vd rws i o (mkp ws ks p)=ver (wf i o.1 o.2) (pc (cur ws ks) p):=by
 unfold vd mkp;rw[←a.1,tD]
 congr 1
 unfold pkF pc cur;rw[a.1,List.filter_map,ov];have e:(List.range ws.length).filter (λk=>decide (k∈ks) && cX (gw ws k).1 p)=ks.filter ((λw:BW=>cX w.1 p) ∘ gw ws):=by
  refine tK (List.Pairwise.filter _ List.pairwise_lt_range) (f.filter _) λx=>?_
  rw[ll,ll,hV,A2,JC];exact⟨λ⟨_,b,c⟩=>⟨b,c⟩,λ⟨b,c⟩=>⟨d x b,b,c⟩⟩
 rw[e];exact List.map_congr_left λk _=>xX a k
theorem iE{ws:List BW}{ks:List Nat}(l:ks.Pairwise (· < ·))(c:∀k∈ks,k<ws.length){a k:Nat}(i:ks[a]?=Jp k)(p:List Nat):My.clr (mkp ws ks p) k=mkp ws (ks.eraseIdx a) p:=by
 have b:=Gd i;have d:=c k b;have h:(mkp ws ks p).testBit k=cX (gw ws k).1 p:=by
  unfold mkp;rw[kZ,Jy d,Bool.true_and,Jy b,Bool.true_and]
 have m:∀j,(Jt (j∈ks.eraseIdx a) && cX (gw ws j).1 p)=((Jt (j∈ks) && cX (gw ws j).1 p) && j != k):=λj=>by
  rw[show decide (j∈ks.eraseIdx a)=(Jt (j∈ks) && j != k) by rw[Bool.eq_iff_iff,JC,mem_erase l i,A2,JC];simp];rw[Bool.and_assoc,Bool.and_assoc,Bool.and_comm (j != k)]
 have e:mkp ws (ks.eraseIdx a) p=msk (λj=>(Jt (j∈ks) && cX (gw ws j).1 p) && j != k) ws.length:=by
  unfold mkp;exact eF λj _=>m j
 rw[e];cases hf:cX (gw ws k).1 p with
 |true =>
  rw[lj (by rw[h,hf])];unfold mkp;rw[qC (g:=λj=>decide (j∈ks) && cX (gw ws j).1 p) (by show(Jt (k∈ks) && _)=Jr;rw[Jy b,hf];rfl) d];lia
 |false =>
  rw[wD (by rw[h,hf])];unfold mkp;refine eF λj _=>?_
  by_cases f:j=k
  .rw[f,hf,Bool.and_false,Bool.false_and]
  .rw[show(j != k)=Jr by simpa using f,Bool.and_true]
theorem qG{n:List Col}{ws:List BW}{rws:List Rw}{ks:List Nat}{i:Nat}{o:Int×Int}{p:List Nat}(c:cw n ws rws)(d:ks.Pairwise (· < ·))(b:∀k∈ks,k<ws.length){a k:Nat}(f:ks[a]?=Jp k):ck rws i o k (mkp ws ks p)=Jr↔cX (gw ws k).1 p=Jr/\ver (wf i o.1 o.2) (pc (cur ws ks) p)≠ver (wf i o.1 o.2) (pc ((cur ws ks).eraseIdx a) p):=by
 have l:=Gd f;have j:(mkp ws ks p).testBit k=cX (gw ws k).1 p:=by
  unfold mkp;rw[kZ,Jy (b k l),Bool.true_and,Jy l,Bool.true_and]
 have m:ck rws i o k (mkp ws ks p)=((mkp ws ks p).testBit k && decide (vd rws i o (mkp ws ks p-2^k)≠vd rws i o (mkp ws ks p))):=rfl;rw[m,j,A2,JC];constructor
 .rintro⟨e,g⟩;rw[←lj (by rw[j,e]),iE d b f,pd c d b,pd c (mj d a) (λk h=>b k ((mem_erase d f).mp h).1),ky]at g;exact⟨e,λz=>g z.symm⟩
 .rintro⟨e,g⟩;refine⟨e,?_⟩;rw[←lj (by rw[j,e]),iE d b f,pd c d b,pd c (mj d a) (λk h=>b k ((mem_erase d f).mp h).1),ky];exact λz=>g z.symm
structure MsI(PS:List (List Nat))(ws:List BW)(ks Ms:List Nat):Prop where
 of:∀m∈Ms,∃p∈PS,m=mkp ws ks p
 at_:∀p∈PS,mkp ws ks p∈Ms
theorem MsI.idl{PS:List (List Nat)}{t:List Col}{ws:List BW}{rws:List Rw}{ks l:List Nat}{i:Nat}{o:Int×Int}(h:MsI PS ws ks l)(b:cw t ws rws)(g:ks.Pairwise (· < ·))(c:∀k∈ks,k<ws.length){a k:Nat}(f:ks[a]?=Jp k):(∀m∈l,ck rws i o k m=Js)↔Idl (ver (wf i o.1 o.2)) PS (cur ws ks) a:=by
 have j:(cur ws ks).getD a ([],0)=gw ws k:=by
  unfold cur;rw[dV,eU,f];rfl
 constructor
 .intro r p e d;rw[j]at d;refine Decidable.byContradiction λz=>?_
  have:=(qG (i:=i) (o:=o) (p:=p) b g c f).mpr ⟨d,z⟩;rw[r _ (h.at_ p e)]at this;cases this
 .intro s m q;obtain⟨p,e,rfl⟩:=h.of m q;refine Bp.mpr λz=>?_
  obtain⟨d,n⟩:=(qG (i:=i) (o:=o) (p:=p) b g c f).mp z;exact n (s p e (by rw[j];exact d))
theorem MsI.erase{PS:List (List Nat)}{ws:List BW}{ks g:List Nat}(h:MsI PS ws ks g)(e:ks.Pairwise (· < ·))(b:∀k∈ks,k<ws.length){a k:Nat}(f:ks[a]?=Jp k):MsI PS ws (ks.eraseIdx a) (g.map λm=>My.clr m k):=⟨λm j=>by
  obtain⟨i,d,rfl⟩:=eR.mp j;obtain⟨p,c,rfl⟩:=h.of i d;exact⟨p,c,iE e b f p⟩,λp c=>eR.mpr ⟨_,h.at_ p c,iE e b f p⟩⟩
theorem uO(ws:List BW):cur ws (List.range ws.length)=ws:=by
 refine rr λj=>?_
 unfold cur gw;rw[eU];by_cases a:j<ws.length
 .rw[uV a];show Jp (ws.getD j ([],0))=_;rw[dV,Ga a];rfl
 .rw[kC (by rw[jq];lia),kC (by lia)];rfl
theorem uN.inb{a:List Col}{p:List Nat}{g:List Int}(h:uN a p g)(k:p.length=a.length)(hok:∀c∈a,aZ c):InB g (a.map Col.b):=sf (by rw[h.1,bo]) λj x b n f=>by
 rw[eU]at f;obtain⟨c,d,rfl⟩:=Bw.mp f;have m:=Ga (l:=p) (i:=j) (by rw[k];exact(Gb.mp d).1);obtain⟨o,e,r,q⟩:=h.2 j x c _ n d m;have:=(hok c (Gd d)).inn e;exact⟨by show c.lo<=x;lia,by show x<=c.hi;lia⟩
theorem wG{prs:Prs}(f:Ch prs){d:Int×Int}{x:Int}(c:prs[0]?=Jp d)(g:d.1<=x):∀(n:Nat)(q:Int×Int),prs[n]?=Jp q->x<=q.2->∃(a:Nat)(b:Int×Int),prs[a]?=Jp b/\b.1<=x/\x<=b.2
 |0,q,e,h=>by rw[c]at e;cases e;exact⟨0,_,c,g,h⟩
 |n+1,q,e,h=>by
  have j:=Ga (l:=prs) (i:=n) (by have:=(Gb.mp e).1;lia);by_cases k:q.1<=x
  .exact⟨_,q,e,k,h⟩
  .exact wG f c g n _ j (by have:=f.nxt n _ _ j e;lia)
theorem xY{g:List Col}{o:List Int}(h:InB o (g.map Col.b))(hok:∀c∈g,aZ c):∃p,p∈cI (cM g)/\uN g p o:=by
 obtain⟨y,F⟩:=o6 h;rw[bo]at y;have A:∀j:Nat,j<g.length->∃a:Nat,∀c x,g[j]?=Jp c->o[j]?=Jp x->∃n,c.prs[a]?=Jp n/\n.1<=x/\x<=n.2:=λj d=>by
  have s:=Ga d;have B:=Ga (l:=o) (i:=j) (by lia);have ok:=hok _ (Gd s);obtain⟨w,v⟩:=F j _ _ B (by rw[eU,s];rfl);obtain⟨I,H,K⟩:=ok.first;obtain⟨E,q,J⟩:=ok.last;have w:g[j].lo<=o[j]:=w;have v:o[j]<=g[j].hi:=v;obtain⟨a,n,e,D,C⟩:=wG ok.ch H (x:=o[j]) (by lia) _ E q (by lia);refine⟨a,λc x q r=>?_⟩;rw[s]at q;rw[B]at r;cases q;cases r;exact⟨n,e,D,C⟩
 obtain⟨f,z⟩:∃f:Nat->Nat,∀j,j<g.length->∀c x,g[j]?=Jp c->o[j]?=Jp x->∃n,c.prs[f j]?=Jp n/\n.1<=x/\x<=n.2:=by
  refine⟨λj=>if d:j<g.length then Classical.choose (A j d)else 0,λj d=>?_⟩;simp only[dif_pos d];exact Classical.choose_spec (A j d)
 have t:∀(j a:Nat),((List.range g.length).map f)[j]?=Jp a->j<g.length/\a=f j:=λj a e=>by
  rw[eU]at e;obtain⟨k,u,rfl⟩:=Bw.mp e;have d:=(Gb.mp u).1;rw[jq]at d;rw[uV d]at u;cases u;exact⟨d,U⟩
 refine⟨(List.range g.length).map f,iJ.iff.mpr ⟨by rw[bo,jq,fQ],λj a m q r=>?_⟩,y,λj x c a q r G=>?_⟩
 .obtain⟨d,rfl⟩:=t j a q;have s:=Ga d;rw[tO s]at r;cases r;obtain⟨n,e,_⟩:=z j d _ _ s (Ga (l:=o) (i:=j) (by lia));exact(Gb.mp e).1
 .obtain⟨d,rfl⟩:=t j a G;exact z j d c x r q
theorem AE{h:Int}:∃v:Int,atI [V.int 6,.int 4,.int 3,.int 2] (1+h%4-1)=Jp (.int v)/\1<=v/\v<=6/\(v.toNat+1)^(1+h%4).toNat<=200:=by
 have b:=zE h (show(4:Int)≠0 by decide);have a:=zz h (show(0:Int)<4 by decide);generalize h%4=k at b a⊢;have:k=0\/k=1\/k=2\/k=3:=by lia
 rcases this with rfl|rfl|rfl|rfl
 .exact⟨_,U,by decide,by decide,by decide⟩
 .exact⟨_,U,by decide,by decide,by decide⟩
 .exact⟨_,U,by decide,by decide,by decide⟩
 .exact⟨_,U,by decide,by decide,by decide⟩
theorem TF.so{g:E2}{H H':Hp}{t:E2}{e c:Str}{d:E2}{zs:List Str}{f:List V}{rws:List Rw}(h:TF g H t e c d zs f rws)(s:So H H'):TF g H' t e c d zs f rws:=by
 obtain⟨j,x,k,y,fs,i,w,v,u,q,p,o,n,m,l,b,a,r⟩:=h;exact⟨j,x,k,y,fs,i,s _ _ trivial w,v,u,q,p,o,n,s _ _ trivial m,s _ _ trivial l,s _ _ trivial b,RL.so s a,r⟩
theorem dP.so{f d:E2}{H H':Hp}{a:E2}{c:Col}(h:dP f d H a c)(s:So H H'):dP f d H' a c:=by
 rcases h with⟨w,b,fs,e,r⟩|⟨w,b,fs,l,e,k,j,i,g,m⟩
 .exact .inl ⟨w,b,fs,s _ _ trivial e,r⟩
 .exact .inr ⟨w,b,fs,l,s _ _ trivial e,k,j,i,g,s _ _ trivial m⟩
theorem xZ{d:List Col}{p:List Nat}(hok:∀c∈d,aZ c)(g:iJ (cM d) p):∃k,uN d p k:=by
 have l:p.length=d.length:=by rw[g.1,fQ]
 refine⟨List.zipWith (λc a=>(c.prs.getD a (0,0)).1) d p,by rw[lz];lia,λj x c a b f h=>?_⟩;rw[nS,f,h]at b;have b:(c.prs.getD a (0,0)).1=x:=Option.some.inj b;have i:a<c.prs.length:=g.2 j a _ h (tO f);have e:=Ga i;rw[dV,e]at b;have:=(hok c (Gd f)).ch.le a _ e;exact⟨_,e,by rw[←b];exact Int.le_refl _,by rw[←b];exact this⟩
theorem dj.so{N:E2->Prop}{H H':Hp}{l:E2}{c:Col}(h:dj N H l c)(s:So H H'):dj N H' l c:=by obtain⟨b,a,n,m,e,f,p⟩:=h;exact⟨b,a,n,m,s.lst e,s.lst f,p.mono s.tups⟩
theorem wH{prs:Prs}{b n:Nat}(h:b.testBit n=Jr):mrg prs b (n+1)≠[]:=by
 show(if b.testBit n then _ else _)≠[];rw[h,Jw U];split <;> simp
theorem qH{prs:Prs}{b:Nat}:∀n,n<=prs.length->∀p∈mrg prs b n,(∃q∈prs,p.1=q.1)/\∃q∈prs,p.2=q.2
 |0,_,p,a=>by cases a
 |n+1,hn,p,a=>by
  have c:=qH (prs:=prs) (b:=b) n (by lia);have k:=Ga (l:=prs) (i:=n) (by lia);have g:prs.getD n (0,0)=prs[n]:=by rw[dV,k];rfl
  have d:prs[n]∈prs:=mJ _;have a:p∈(if b.testBit n then(if (Jt (0<n) && b.testBit (n-1)) then(mrg prs b n).dropLast++[(((mrg prs b n).getLastD (0,0)).1,(prs.getD n (0,0)).2)]else mrg prs b n++[prs.getD n (0,0)])else mrg prs b n):=a;split at a
  .split at a
   .rename_i hc
    rw[A2,JC]at hc;obtain⟨m,rfl⟩:∃m,n=m+1:=⟨n-1,by lia⟩;have e:=wH (prs:=prs) hc.2;rcases mO (mrg prs b (m+1))with j|⟨l,x,f⟩
    .exact Jx j e
    .rw[mS]at f;rw[f]at a c;rw[List.dropLast_concat,List.getLastD_concat]at a;rcases iK.mp a with h|h
     .exact c p (mu _ h)
     .rw[iN.mp h,g];exact⟨(c x (jo _ (iN.mpr U))).1,_,d,U⟩
   .rcases iK.mp a with h|h
    .exact c p h
    .rw[iN.mp h,g];exact⟨⟨_,d,U⟩,_,d,U⟩
  .exact c p a
def AF(a:List Col)(c:Nat):List Int:=(a.getD c ⟨[],Js,0⟩).prs.map (·.1)
theorem wI{cT cN cW:E2}{H:Hp}{t Y:E2}{a:List Col}{A:Col}{ws:List BW}{rws:List Rw}{Z E:Str}{zs:List Str}{K:List V}{X B:Nat}(hT:TF cT H t Z E Y zs K rws)(v:TOk cN cW H Z E Y zs K rws (a.map Col.b) A.b)(N:six[X]?=Jp E)(h:cw a ws rws)(s:∀w∈ws,cm a A w)(hok:∀c∈a,aZ c)(Q:aZ A)(h4:a.length<=4)(a0:ws.length<=60)(R:∀c∈a,c.prs.length<=B)(S:(B+1)^a.length<=300)(Dq:B<=57):RfH cT cN cW H t K (a.map Col.b) rws (AF a) B X A.b:=by
 have u:(a.map Col.b).length=a.length:=bo _;have r:∀(k:Nat)(x:Rw),rws[k]?=Jp x->∃w,ws[k]?=Jp w/\m9 a w x:=λk x e=>by
  have hk:=(Gb.mp e).1;have hl:=h.1;have D:=Ga (l:=ws) (i:=k) (by lia);exact⟨_,D,h.2 k _ x D e⟩
 have gA:∀x∈rws,∀c,c<a.length->∃(m:Col)(b:Nat),a[c]?=Jp m/\x.1.getD c []=mrg m.prs b m.prs.length:=λx g c d=>by
  obtain⟨k,I⟩:=jn g;obtain⟨w,G,C⟩:=r k x I;have f:=Ga d;have ex:=Ga (l:=x.1) (i:=c) (by rw[C.len];exact d);have o:=Ga (l:=w.1) (i:=c) (by rw[(s w (Gd G)).len];exact d);refine⟨_,w.1[c]'(by rw[(s w (Gd G)).len];exact d),f,?_⟩;rw[dV,ex];exact C.is c _ _ _ ex f o
 have q:∀x∈rws,x.1.length=a.length:=λx g=>by
  obtain⟨k,I⟩:=jn g;obtain⟨w,G,C⟩:=r k x I;exact C.len
 obtain⟨M,dx,na,dl,fs,L,e1,D,e3,e4,e5,e6,e7,e8,e9,W,T,_⟩:=id hT;refine⟨⟨M,dx,dl,fs,L,e1,D,e7,e9,v.doms,W,aC.mono T λ_ _ p=>p⟩,hT.tbl N v.out Q.le,by lia,by rw[h.1];lia,λx g=>⟨by rw[q x g,u],λc=>?_⟩,λc b o=>?_,by rw[u];exact S,Dq,λp F=>?_⟩
 .by_cases d:c<a.length
  .obtain⟨m,b,f,e⟩:=gA x g c d;rw[e];exact wX (tQ _) (hok m (Gd f)).few
  .rw[dV,kC (by rw[q x g];lia)];exact xn _
 .have d:c<a.length:=by have:=(Gb.mp o).1;lia
  have f:=Ga d;rw[eU,f]at o;cases o;have eL:AF a c=a[c].prs.map (·.1):=by unfold AF;rw[dV,f];rfl
  rw[eL,bo];refine⟨R _ (Gd f),λy ⟨x,g,hy⟩=>?_⟩;obtain⟨m,b,z,e⟩:=gA x g c d;rw[f]at z;cases z;have BU:=hok _ (Gd f);obtain⟨hE,hF⟩:=ll.mp hy;rw[A2,JC,JC]at hF;rw[e]at hE;obtain⟨p,F,n⟩:=lK.mp hE;obtain⟨⟨q1,P,f1⟩,q2,O,f2⟩:=qH _ (wN _) p F;rcases n with n|n
  .rw[n,f1];exact eR.mpr ⟨q1,P,U⟩
  .obtain⟨j,J⟩:=jn O;have hj:=(Gb.mp J).1;by_cases hl:j+1<a[c].prs.length
   .have en:=Ga hl;rw[n,f2,←BU.ch.nxt j _ _ J en];exact eR.mpr ⟨_,Gd en,U⟩
   .obtain⟨pl,el,a1⟩:=BU.last;have:j=a[c].prs.length-1:=by lia
    subst this;rw[J]at el;cases el;have h2:y<=a[c].hi:=hF.2;lia
 .obtain⟨c,d,rfl⟩:=eR.mp F;exact(hok c d).le
theorem AG{ks:List Nat}{N:Nat}(a:ks.Pairwise (· < ·))(h:∀k∈ks,k<N):ks.length<=N:=by
 have:=List.Nodup.length_le_of_subset (l₁:=ks) (l₂:=List.range N) (a.imp λh=>wO h) λx b=>hV.mpr (h x b)
 rw[jq]at this;exact this
theorem hide_ne{H:Hp}{x b:E2}{o:HO}(e:hide H x b=Jp o):b≠x:=λz=>by unfold hide at e;rw[Jw z]at e;cases e
def HH(H:Hp)(a kl:E2):Hp:=hide (hide H a) kl
theorem HH.le(H:Hp)(a kl:E2):ao (HH H a kl) H:=(dH _ _).trans (dH _ _)
theorem HH.of{H:Hp}{a kl b:E2}{o:HO}(e:H b=Jp o)(d:b≠a)(c:b≠kl):HH H a kl b=Jp o:=bG (bG e d) c
theorem HH.ne{H:Hp}{a kl b:E2}{o:HO}(e:HH H a kl b=Jp o):b≠a/\b≠kl:=⟨hide_ne (dH _ _ _ _ e),hide_ne e⟩
theorem HH.same{H H':Hp}{a kl:E2}(s:ao (hide H a) H'):ao (HH H a kl) (HH H' a kl):=λb o e=>HH.of (s b o (dH _ _ _ _ e)) (HH.ne e).1 (HH.ne e).2
theorem HH.upd{H:Hp}{d kl:E2}{o:HO}:HH (upd H kl o) d kl=HH H d kl:=by
 funext b
 unfold HH hide;by_cases a:b=kl
 .rw[Jw a,Jw a]
 .rw[Jv a,Jv a];by_cases c:b=d
  .rw[Jw c,Jw c]
  .rw[Jv c,Jv c,aw a]
theorem HH.keep{H H':Hp}{a kl:E2}(s:ao H H')(d:H a=Jq)(c:H kl=Jq):ao H (HH H' a kl):=λb o e=>HH.of (s b o e) (λz=>by rw[z,d]at e;cases e) (λz=>by rw[z,c]at e;cases e)
theorem AH(n:Nat):upn n=vN (List.range n):=rfl
theorem ya(ks:List Nat):vN ks=(ks.map λn:Nat=>(n:Int)).map V.int:=by unfold vN;rw[ov];rfl
theorem wJ(ks:List Nat)(a:Nat):((ks.map λn:Nat=>(n:Int)).eraseIdx a).map V.int=vN (ks.eraseIdx a):=by
 unfold vN;rw[mv,mv,fR,fR,ox,ox,oy,oy,ov];rfl
theorem TlM.of{K:W.Frag}{H:Hp}{rws:List Rw}{i:Nat}{o:Int×Int}{xs:List V}{L:List (Prs×Int)}(h:TiL K H rws i o xs L):TlM K H rws i o xs (L.map λq=>q.2.toNat):=⟨by rw[bo,h.1],λj m e=>by
 rw[eU]at e;obtain⟨q,c,rfl⟩:=Bw.mp e;have a:=Ga (l:=xs) (i:=j) (by rw[h.1];exact(Gb.mp c).1);obtain⟨f,b,g,m,p,d,n,_,k⟩:=h.2 j _ q a c;refine⟨f,by rw[a,p],b,g,?_,?_⟩
 .rw[d,zK];exact n
 .rw[d,zK];exact k⟩
theorem wK{a:List Col}{g:Col}{ws:List BW}{rws:List Rw}{p:List Nat}{f:List Int}(h:cw a ws rws)(n:∀w∈ws,cm a g w)(hok:∀c∈a,aZ c)(j:iJ (cM a) p)(m:uN a p f):mkg rws f=((mkp ws (List.range ws.length) p:Nat):Int):=by
 unfold mkg mkp;rw[h.1]
 congr 1
 refine eF λk b=>?_
 rw[Jy (hV.mpr b),Bool.true_and];unfold gD gw;have d:=Ga b;have e:=Ga (l:=rws) (i:=k) (by rw[h.1];exact b);rw[dV,dV,d,e];exact xV (h.2 k _ _ d e) (n _ (Gd d)) hok j m
theorem MsI.first{i:List Col}{u:Col}{ws:List BW}{rws:List Rw}{d:List (List (Int×Int))}(h:cw i ws rws)(s:∀w∈ws,cm i u w)(hok:∀c∈i,aZ c)(l:wo (i.map Col.b) rws d)(r:∀x∈rws,x.1.length=(i.map Col.b).length):MsI (cI (cM i)) ws (List.range ws.length) ((bxs d.length (lay (mkg rws) d [])).map λq=>q.2.toNat):=by
 refine⟨λm v=>?_,λp k=>?_⟩
 .obtain⟨q,n,rfl⟩:=eR.mp v;obtain⟨t,a,e⟩:=wt l n;obtain⟨p,k,hi⟩:=xY a hok;refine⟨p,k,?_⟩;rw[e,tL l r a,wK h s hok (iJ.iff.mp k) hi,zK]
 .have f:=iJ.iff.mp k;obtain⟨t,j⟩:=xZ hok f;have a:=j.inb (by rw[f.1,fQ]) hok;have o:=sZ (g:=mkg rws) l.ok [] t a;rw[List.nil_append,tL l r a,wK h s hok f j]at o;obtain⟨q,n,e⟩:=Ay o;exact eR.mpr ⟨q,n,by rw[e,zK]⟩
theorem TlM.clr{K:W.Frag}{rws:List Rw}{i:Nat}{o:Int×Int}{k m:Nat}{H:Hp}{a:E2}(h:SqT K H a (tp (vd rws i o m)))(b:ck rws i o k m=Js):SqT K H a (tp (vd rws i o (My.clr m k))):=by rw[AB b];exact h
theorem BRL.erase{N:E2->Prop}{H:Hp}{zs:List V}{ws:List BW}(h:BRL N H zs ws)(k:Nat):BRL N H (zs.take k++zs.drop (k+1)) (ws.eraseIdx k):=by
 rw[mv];exact aC.app (aC.take h k) (aC.drop h (k+1))
theorem BRL.so{N:E2->Prop}{H H':Hp}{xs:List V}{ws:List BW}(h:BRL N H xs ws)(s:So H H'):BRL N H' xs ws:=aC.mono h λ_ _ ⟨b,e,n,f⟩=>⟨b,s _ _ trivial e,n,s.lst f⟩
theorem PtL.so{N:E2->Prop}{H H':Hp}{xs:List V}{ps:List (List Nat)}(h:PtL N H xs ps)(s:So H H'):PtL N H' xs ps:=aC.mono h λ_ _ ⟨n,e⟩=>⟨n,s.lst e⟩
theorem cR.so{N:E2->Prop}{H H':Hp}{xs:List V}{a:List Col}(h:cR N H xs a)(s:So H H'):cR N H' xs a:=aC.mono h λ_ _ p=>p.so s
inductive gd(K:W.Frag)(Y:AD)(vs:List V)(H:Hp)(Q:VK)(e_:XK):Prop
 |mk (z g:Str)(_:vs=[.str z,.str g])(_:Q (.bl (lL z g)) H)
inductive fh(K:W.Frag)(Y:AD)(vs:List V)(H:Hp)(Q:VK)(e_:XK):Prop
 |mk (i:Int)(_:vs=[.int i])(_:Q (.bl Jr) H)
inductive ml(K:W.Frag)(Y:AD)(vs:List V)(H:Hp)(Q:VK)(e_:XK):Prop
 |mk (a b:E2)(c:Col)(_:vs=[.ref a,.ref b])(_:dP Y.i Y.j H a c)(_:dP Y.i Y.j H b c)(_:Q (.bl Jr) H)
inductive mm(K:W.Frag)(Y:AD)(vs:List V)(H:Hp)(Q:VK)(e_:XK):Prop
 |mk (a:E2)(xs:List V)(ps:List (Int×Int))(n:Int)(_:vs=[.ref a,.int n])(_:SqL K H a xs)(_:PL H xs ps)(_:Q (.bl (inP ps n)) H)
inductive mn(K:W.Frag)(Y:AD)(vs:List V)(H:Hp)(Q:VK)(e_:XK):Prop
 |mk (a:E2)(xs:List V)(R:List (Int×Int))(lo hi:Int)(_:vs=[.ref a,.int lo,.int hi])(_:SqL K H a xs)(_:PL H xs R)(_:xs.length<=400)(_:∀(r:E2)(H':Hp)(es:List Int),ao H H'->H r=Jq->H' r=Jp (.lst (es.map V.int))->es=(ends R).filter (λt=>decide (lo<t) && decide (t<=hi))->Q (.ref r) H')
inductive gf(K:W.Frag)(Y:AD)(vs:List V)(H:Hp)(Q:VK)(e_:XK):Prop
 |mk (a:E2)(ms L:List Int)(lo hi:Int)(_:vs=[.int lo,.int hi,.ref a])(_:SqL K H a (ms.map V.int))(_:ms.length<=400)(_:L.length<64)(_:(∀m∈ms,lo<m->m<=hi->m∈L))(_:∀(r:E2)(H':Hp)(cs:List Int)(ts:List V),ao H H'->H r=Jq->H' r=Jp (.lst ts)->PL H' ts (cb lo hi cs)->cs.Pairwise (· < ·)->(∀c,c∈cs↔(c∈ms/\lo<c/\c<=hi))->cs.length<64->Q (.ref r) H')
inductive kz(K:W.Frag)(Y:AD)(vs:List V)(H:Hp)(Q:VK)(e_:XK):Prop
 |mk (L:Type)(_:DecidableEq L)(A:Lfp L)(n:Nat)(a:E2)(xs:List V)(ts:List (T3a (Fm L n)))(_:vs=[.ref a])(_:n<=6)(_:H a=Jp (.lst xs))(_:FmL (FmV A H n) H ts xs)(_:ts.length<=900)(_:∀(r:E2)(H':Hp),ao H H'->FmV A H' (n+1) (gM ts) (.ref r)->Q (.ref r) H')
inductive gP(K:W.Frag)(Y:AD)(vs:List V)(H:Hp)(Q:VK)(e_:XK):Prop
 |mk (a:E2)(as:List E2)(xss:List (List Int))(L:List Int)(_:vs=[.ref a])(_:H a=Jp (.lst (as.map V.ref)))(_:MLs H as xss)(_:xss.flatten.length<=1000)(_:L.length<64)(_:(∀x∈xss.flatten,x∈L))(_:∀(l:E2)(cs:List Int)(H':Hp),ao H H'->H l=Jq->H' l=Jp (.lst (cs.map V.int))->cs.Pairwise (· < ·)->(∀x,x∈cs↔x∈xss.flatten)->Q (.ref l) H')
inductive dE(K:W.Frag)(Y:AD)(vs:List V)(H:Hp)(Q:VK)(e_:XK):Prop
 |mk (p r:E2)(xs ys:List V)(_:vs=[.ref p,.ref r])(_:SqL K H p xs)(_:SqL K H r ys)(_:1<=xs.length)(_:xs.length<=4)(_:ys.length<=200)(_:Q .non H)
inductive ji(K:W.Frag)(Y:AD)(vs:List V)(H:Hp)(Q:VK)(e_:XK):Prop
 |mk (cl:E2)(xs:List V)(w:Rw)(_:vs=[.ref cl,.int w.2])(_:H cl=Jp (.lst xs))(_:CL NT H xs w.1)(_:w.1.length<=100)(_:∀(r:E2)(H':Hp),ao H H'->H r=Jq->fN (λa=>H a=Jq) H' r w->Q (.ref r) H')
inductive dQ(K:W.Frag)(Y:AD)(vs:List V)(H:Hp)(Q:VK)(e_:XK):Prop
 |mk (t:E2)(dv:List V)(bs:Prs)(rws:List Rw)(_:vs=[.ref t])(_:TD Y.k Y.i Y.j H t dv bs rws)(_:bs.length<=100)(_:∀(l:E2)(ys:List V)(H':Hp),ao H H'->H l=Jq->H' l=Jp (.lst ys)->PL H' ys bs->Q (.ref l) H')
inductive eO(K:W.Frag)(Y:AD)(vs:List V)(H:Hp)(Q:VK)(e_:XK):Prop
 |mk (a:E2)(ns:List Int)(k:Int)(_:vs=[.ref a,.int k])(_:SqL K H a (ns.map V.int))(_:0<=k)(_:∀r:Int,Q (.int r) H)
inductive cF(K:W.Frag)(Y:AD)(vs:List V)(H:Hp)(Q:VK)(e_:XK):Prop
 |mk (c k:Int)(_:vs=[.int c,.int k])(_:0<=k)(_:k<=100)(_:∀r:Int,0<=r->Q (.int r) H)
inductive fi(K:W.Frag)(Y:AD)(vs:List V)(H:Hp)(Q:VK)(e_:XK):Prop
 |mk (c k:Int)(_:vs=[.int c,.int k])(_:Q (.str (wd c k)) H)
inductive gh(K:W.Frag)(Y:AD)(vs:List V)(H:Hp)(Q:VK)(e_:XK):Prop
 |mk (pl:E2)(ts:List V)(prs:Prs)(b:Nat)(_:vs=[.ref pl,.int (b:Int)])(_:H pl=Jp (.lst ts))(_:PL H ts prs)(_:Ch prs)(_:prs.length<=6)(_:∀(l:E2)(ps:Prs)(H':Hp),ao H H'->SpA (λa=>H a=Jq) H' l ps->eB prs b prs.length ps->ps=mrg prs b prs.length->Q (.ref l) H')
inductive fC(K:W.Frag)(Y:AD)(vs:List V)(H:Hp)(Q:VK)(e_:XK):Prop
 |mk (cl:E2)(xs:List V)(cs:List Col)(_:vs=[.ref cl])(_:H cl=Jp (.lst xs))(_:cR NT H xs cs)(_:(∀c∈cs,aZ c))(_:cs.length<=4)(_:∀(l:E2)(zs:List V)(H':Hp),ao H H'->H' l=Jp (.lst zs)->PtL NT H' zs (cI (cM cs))->Q (.ref l) H')
inductive gi(K:W.Frag)(Y:AD)(vs:List V)(H:Hp)(Q:VK)(e_:XK):Prop
 |mk (cl pl:E2)(xs:List V)(cs:List Col)(p:List Nat)(tn:Int)(_:vs=[.ref cl,.ref pl,.int tn])(_:H cl=Jp (.lst xs))(_:cR NT H xs cs)(_:(∀c∈cs,aZ c))(_:cs.length<=4)(_:H pl=Jp (.lst (vN p)))(_:iJ (cM cs) p)(_:∀(l:E2)(cd:List Int)(H':Hp),ao H H'->H' l=Jp (.lst (cd.map V.int))->AtP cs p cd->Q (.ref l) H')
inductive gj(K:W.Frag)(Y:AD)(vs:List V)(H:Hp)(Q:VK)(e_:XK):Prop
 |mk (r pl:E2)(w:BW)(p:List Nat)(_:vs=[.ref r,.ref pl])(_:dO NT H r w)(_:H pl=Jp (.lst (vN p)))(_:w.1.length=p.length)(_:p.length<=100)(_:∀H',ao H H'->Q (.bl (cX w.1 p)) H')
inductive jj(K:W.Frag)(Y:AD)(vs:List V)(H:Hp)(Q:VK)(e_:XK):Prop
 |mk (tn:Int)(ol:E2)(oc:Col)(_:vs=[.int tn,.ref ol])(_:dj NT H ol oc)(_:∀(wy:Str)(i:Nat)(H':Hp),ao H H'->six[i]?=Jp wy->(wy=s!"sum" -> oc.w=Js)->Q (.str wy) H')
inductive gQ(K:W.Frag)(Y:AD)(vs:List V)(H:Hp)(Q:VK)(e_:XK):Prop
 |mk (r d:E2)(p:SI)(_:vs=[.ref r,.ref d])(_:SqT K H r (tp p))(_:SqT K H d (tp p))(_:Q (.bl Jr) H)
inductive gk(K:W.Frag)(Y:AD)(vs:List V)(H:Hp)(Q:VK)(e_:XK):Prop
 |mk (bl_ ol:E2)(zs:List V)(ws:List BW)(cs:List Col)(oc:Col)(p0 p1:Int×Int)(_:vs=[.ref bl_,.ref ol])(_:H bl_=Jp (.lst zs))(_:BRL NT H zs ws)(_:ws.length<=200)(_:0<ws.length)(_:dj NT H ol oc)(_:oc.prs[0]?=Jp p0)(_:oc.prs[1]?=Jp p1)(_:(∀w∈ws,cm cs oc w))(_:(∀x∈[p0.1,p0.2,p1.2],oc.lo<=x/\x<=oc.hi))(_:∀(l:E2)(zs':List V)(r:List BW)(H':Hp),ao H H'->H' l=Jp (.lst zs')->BRL NT H' zs' r->r.length<=3+ws.length->(∀w∈r,cm cs oc w)->Q (.ref l) H')
inductive cq(K:W.Frag)(Y:AD)(vs:List V)(H:Hp)(Q:VK)(e_:XK):Prop
 |mk (x dx:E2)(z:Str)(_:vs=[.ref x,.str z])(_:H x=Jp (.ins Y.b dx []))(_:Q .non (upd H x (.ins Y.b dx [("called",.str z)])))
inductive cA(K:W.Frag)(Y:AD)(vs:List V)(H:Hp)(Q:VK)(e_:XK):Prop
 |mk (x dx:E2)(z:Str)(_:vs=[.ref x,.str z])(_:H x=Jp (.ins Y.c dx []))(_:Q .non (upd H x (.ins Y.c dx [("called",.str z)])))
inductive cB(K:W.Frag)(Y:AD)(vs:List V)(H:Hp)(Q:VK)(e_:XK):Prop
 |mk (x dx:E2)(z:Str)(_:vs=[.ref x,.str z])(_:H x=Jp (.ins Y.d dx []))(_:Q .non (upd H x (.ins Y.d dx [("called",.str z)])))
inductive cO(K:W.Frag)(Y:AD)(vs:List V)(H:Hp)(Q:VK)(e_:XK):Prop
 |mk (x dx:E2)(z:Str)(_:vs=[.ref x,.str z])(_:H x=Jp (.ins Y.e dx []))(_:Q .non (upd H x (.ins Y.e dx [("called",.str z)])))
inductive cC(K:W.Frag)(Y:AD)(vs:List V)(H:Hp)(Q:VK)(e_:XK):Prop
 |mk (x dx:E2)(z:Str)(_:vs=[.ref x,.str z])(_:H x=Jp (.ins Y.f dx []))(_:Q .non (upd H x (.ins Y.f dx [("called",.str z)])))
inductive cP(K:W.Frag)(Y:AD)(vs:List V)(H:Hp)(Q:VK)(e_:XK):Prop
 |mk (x dx:E2)(z:Str)(_:vs=[.ref x,.str z])(_:H x=Jp (.ins Y.g dx []))(_:Q .non (upd H x (.ins Y.g dx [("called",.str z)])))
inductive bL(K:W.Frag)(Y:AD)(vs:List V)(H:Hp)(Q:VK)(e_:XK):Prop
 |mk (x dx:E2)(lo hi:Int)(_:vs=[.ref x,.int lo,.int hi])(_:H x=Jp (.ins Y.i dx []))(_:Q .non (mkd Y.i H x dx lo hi))
inductive bY(K:W.Frag)(Y:AD)(vs:List V)(H:Hp)(Q:VK)(e_:XK):Prop
 |mk (x dx:E2)(lo hi:Int)(_:vs=[.ref x,.int lo,.int hi])(_:H x=Jp (.ins Y.j dx []))(_:Q .non (mkd Y.j H x dx lo hi))
def J1(K:W.Frag)(Y:AD):Sp:=uH K Y.b Y.i Y.j 0
def J9(K:W.Frag)(Y:AD):Sp:=uH K Y.c Y.i Y.j 1
def J5(K:W.Frag)(Y:AD):Sp:=uH K Y.d Y.i Y.j 2
def J7(K:W.Frag)(Y:AD):Sp:=uH K Y.e Y.i Y.j 3
def J3(K:W.Frag)(Y:AD):Sp:=uH K Y.f Y.i Y.j 4
def J11(K:W.Frag)(Y:AD):Sp:=uH K Y.g Y.i Y.j 5
inductive gm(K:W.Frag)(Y:AD)(vs:List V)(H:Hp)(Q:VK)(e_:XK):Prop
 |mk (z:Str)(_:vs=[.str z])(_:z.length<=1000)(_:Q (.bl (isw z)) H)
inductive dk(K:W.Frag)(Y:AD)(vs:List V)(H:Hp)(Q:VK)(e_:XK):Prop
 |mk (a b:E2)(ys:List V)(ps:List (Int×Int))(as:List E2)(mss:List (List Int))(_:vs=[.ref a,.ref b])(_:H a=Jp (.lst ys))(_:PL H ys ps)(_:H b=Jp (.lst (as.map V.ref)))(_:MLs H as mss)(_:MOK ps mss)(_:∀(l:E2)(xs:List V)(H':Hp)(css:List (List Int)),ao H H'->H' l=Jp (.lst xs)->css.length=ps.length->(∀(j:Nat)(p:Int×Int)(ms cs:List Int),ps[j]?=Jp p->mss[j]?=Jp ms->css[j]?=Jp cs->cs.Pairwise (· < ·)/\(∀c,c∈cs↔(c∈ms/\p.1<c/\c<=p.2))/\cs.length<64)->CoL H' xs (List.zipWith (λp cs=>cb p.1 p.2 cs) ps css)->Q (.ref l) H')
inductive pe(K:W.Frag)(Y:AD)(vs:List V)(H:Hp)(Q:VK)(e_:XK):Prop
 |mk (t rl c dx:E2)(fs:List (Str×V))(xs:List V)(rws:List Rw)(k:Nat)(w:Rw)(cs:List Int)(_:vs=[.ref t,.int k,.ref c])(_:H t=Jp (.ins Y.k dx fs))(_:fs.lookup s!"rows"=Jp (.ref rl)) (_:H rl=Jp (.lst xs))(_:RL NT H xs rws)(_:rws[k]?=Jp w)(_:SqL K H c (cs.map V.int))(_:w.1.length=cs.length)(_:∀H',ao H H'->Q (.bl (jh w.1 cs)) H')
inductive dR(K:W.Frag)(Y:AD)(vs:List V)(H:Hp)(Q:VK)(e_:XK):Prop
 |mk (t:E2)(c:Nat)(dv:List V)(bs:Prs)(rws:List Rw)(b:Int×Int)(L:List Int)(_:vs=[.ref t,.int (c:Int)])(_:TD Y.k Y.i Y.j H t dv bs rws)(_:bs[c]?=Jp b)(_:rws.length<=60)(_:(∀w∈rws,c<w.1.length/\(w.1.getD c []).length<=6))(_:L.length<64)(_:(∀x,MkC rws c b x->x∈L))(_:∀(l:E2)(cs:List Int)(H':Hp),ao H H'->H l=Jq->H' l=Jp (.lst (cs.map V.int))->cs.Pairwise (· < ·)->(∀x,x∈cs↔MkC rws c b x)->Q (.ref l) H')
inductive gn(K:W.Frag)(Y:AD)(vs:List V)(H:Hp)(Q:VK)(e_:XK):Prop
 |mk (a:E2)(ns:List Int)(m:Int)(_:vs=[.ref a,.int m])(_:SqL K H a (ns.map V.int))(_:ns.length<=900)(_:1<=m)(_:m<=200)(_:∀(l:E2)(ms:List Int)(H':Hp),ao H H'->H' l=Jp (.lst (ms.map V.int))->((ms.length:Nat):Int)<=m->ms.length<=ns.length->(∀x∈ms,0<=x)->Q (.ref l) H')
inductive fD(K:W.Frag)(Y:AD)(vs:List V)(H:Hp)(Q:VK)(e_:XK):Prop
 |mk (m most:Int)(_:vs=[.int m,.int most])(_:1<=most)(_:most<=6)(_:∀(l:E2)(c:Col)(H':Hp),ao H H'->dj (λa=>H a=Jq) H' l c->aZ c->((c.prs.length:Nat):Int)<=most->Q (.ref l) H')
inductive eP(K:W.Frag)(Y:AD)(vs:List V)(H:Hp)(Q:VK)(e_:XK):Prop
 |mk (m:Int)(cl ol la:E2)(xs:List V)(cs:List Col)(oc:Col)(_:vs=[.int m,.ref cl,.ref ol,.ref la])(_:H cl=Jp (.lst xs))(_:cR NT H xs cs)(_:(∀c∈cs,aZ c))(_:1<=cs.length)(_:cs.length<=4)(_:dj NT H ol oc)(_:aZ oc)(_:0<=m)(_:(H la=Jp (.lst [])\/∃w,dO NT H la w/\cm cs oc w))(_:∀(r:E2)(w:BW)(H':Hp),ao H H'->dO (λa=>H a=Jq) H' r w->cm cs oc w->Q (.ref r) H')
inductive fj(K:W.Frag)(Y:AD)(vs:List V)(H:Hp)(Q:VK)(e_:XK):Prop
 |mk (l cl:E2)(zs xs:List V)(ws:List BW)(cs:List Col)(_:vs=[.ref l,.ref cl])(_:H l=Jp (.lst zs))(_:BRL NT H zs ws)(_:ws.length<=200)(_:H cl=Jp (.lst xs))(_:cR NT H xs cs)(_:(∀c∈cs,aZ c))(_:cs.length<=4)(_:(∀w∈ws,w.1.length=cs.length))(_:∀(l':E2)(zs':List V)(rws:List Rw)(H':Hp),ao H H'->H' l'=Jp (.lst zs')->RL (λa=>H a=Jq) H' zs' rws->cw cs ws rws->Q (.ref l') H')
inductive gq(K:W.Frag)(Y:AD)(vs:List V)(H:Hp)(Q:VK)(e_:XK):Prop
 |mk (wy:Str)(i:Nat)(bl_ ol pl:E2)(zs:List V)(ws:List BW)(oc:Col)(p:List Nat)(_:vs=[.str wy,.ref bl_,.ref ol,.ref pl])(_:six[i]?=Jp wy)(_:H bl_=Jp (.lst zs))(_:BRL NT H zs ws)(_:ws.length<=200)(_:dj NT H ol oc)(_:aZ oc)(_:H pl=Jp (.lst (vN p)))(_:(∀w∈ws,w.1.length=p.length))(_:p.length<=100)(_:∀(r:E2)(H':Hp),ao H H'->H' r=Jp (.tup (tp (ver (wf i oc.lo oc.hi) (pc ws p))))->Q (.ref r) H')
inductive gW(K:W.Frag)(Y:AD)(vs:List V)(H:Hp)(Q:VK)(e_:XK):Prop
 |mk (f t rl ou:E2)(nm wy:Str)(zs:List Str)(dv rx:List V)(rws wL:List Rw)(cs:List Col)(oc:Col)(_:vs=[.ref f,.ref t,.ref rl])(_:TF Y.k H f nm wy ou zs dv rws)(_:TF Y.k H t nm wy ou zs dv wL)(_:H rl=Jp (.lst rx))(_:RL NT H rx rws)(_:aC dv cs (dP Y.i Y.j H))(_:dP Y.i Y.j H ou oc)(_:∀H',ao H H'->Q (.bl Jr) H')
def J0(K:W.Frag)(Y:AD):Sp:=uG Y.b s!"first"
def J8(K:W.Frag)(Y:AD):Sp:=uG Y.c s!"only"
def J4(K:W.Frag)(Y:AD):Sp:=uG Y.d s!"like"
def J6(K:W.Frag)(Y:AD):Sp:=uG Y.e s!"low"
def J2(K:W.Frag)(Y:AD):Sp:=uG Y.f s!"high"
def J10(K:W.Frag)(Y:AD):Sp:=uG Y.g s!"sum"
inductive bM(K:W.Frag)(Y:AD)(vs:List V)(H:Hp)(Q:VK)(e_:XK):Prop
 |mk (a:E2)(b:Int×Int)(i:Int)(_:vs=[.ref a,.int i])(_:Ak Y.i H a b.1 b.2)(_:b.1<=i)(_:i<=b.2)(_:Q (.bl Jr) H)
inductive bZ(K:W.Frag)(Y:AD)(vs:List V)(H:Hp)(Q:VK)(e_:XK):Prop
 |mk (a:E2)(b:Int×Int)(i:Int)(_:vs=[.ref a,.int i])(_:Ak Y.j H a b.1 b.2)(_:b.1<=i)(_:i<=b.2)(_:Q (.bl Jr) H)
inductive bH(K:W.Frag)(Y:AD)(vs:List V)(H:Hp)(Q:VK)(e_:XK):Prop
 |mk (x dx:E2)(lo hi:Int)(_:vs=[.ref x,.int lo,.int hi])(_:H x=Jp (.ins Y.i dx []))(_:lo<=hi)(_:Q .non (mkd Y.i H x dx lo hi))
def J12(K:W.Frag)(Y:AD):Sp:=jY K Y.b Y.i Y.j 0
def J16(K:W.Frag)(Y:AD):Sp:=jY K Y.c Y.i Y.j 1
def J14(K:W.Frag)(Y:AD):Sp:=jY K Y.d Y.i Y.j 2
def J15(K:W.Frag)(Y:AD):Sp:=jY K Y.e Y.i Y.j 3
def J13(K:W.Frag)(Y:AD):Sp:=jY K Y.f Y.i Y.j 4
def J17(K:W.Frag)(Y:AD):Sp:=jY K Y.g Y.i Y.j 5
inductive mq(K:W.Frag)(Y:AD)(vs:List V)(H:Hp)(Q:VK)(e_:XK):Prop
 |mk (a b:E2)(ys:List V)(ps:List (Int×Int))(as:List E2)(mss:List (List Int))(_:vs=[.ref a,.ref b])(_:H a=Jp (.lst ys))(_:PL H ys ps)(_:H b=Jp (.lst (as.map V.ref)))(_:MLs H as mss)(_:MOK ps mss)(_:∀H':Hp,ao H H'->Q (.int ((gr ps mss ps.length:Nat):Int)) H')
inductive dS(K:W.Frag)(Y:AD)(vs:List V)(H:Hp)(Q:VK)(e_:XK):Prop
 |mk (p:E2)(zs:List Str)(_:vs=[.ref p])(_:SqL K H p (zs.map V.str))(_:(∀z∈zs,isw z=Jr))(_:zs.Nodup)(_:zs.length<=100)(_:∀H',ao H H'->Q .non H')
inductive fE(K:W.Frag)(Y:AD)(vs:List V)(H:Hp)(Q:VK)(e_:XK):Prop
 |mk (dl ou cl:E2)(dv xs:List V)(bs:Prs)(o:Int×Int)(w:Rw)(_:vs=[.ref dl,.ref ou,.ref cl,.int w.2])(_:SqL K H dl dv)(_:aC dv bs (Dom Y.i Y.j H))(_:Dom Y.i Y.j H ou o)(_:H cl=Jp (.lst xs))(_:CL NT H xs w.1)(_:qp bs o w)(_:∀H',ao H H'->Q .non H')
inductive iF(K:W.Frag)(Y:AD)(vs:List V)(H:Hp)(Q:VK)(e_:XK):Prop
 |mk (t c:E2)(rws:List Rw)(i:Nat)(o:Int×Int)(cs:List Int)(_:vs=[.ref t,.ref c])(_:Tbl Y.k Y.i Y.j H t rws i o)(_:SqL K H c (cs.map V.int))(_:(∀w∈rws,w.1.length=cs.length))(_:∀H',ao H H'->Q (.int ((msk (gD rws cs) rws.length:Nat):Int)) H')
inductive eQ(K:W.Frag)(Y:AD)(vs:List V)(H:Hp)(Q:VK)(e_:XK):Prop
 |mk (t:E2)(dv:List V)(bs:Prs)(rws:List Rw)(L:Nat->List Int)(_:vs=[.ref t])(_:TD Y.k Y.i Y.j H t dv bs rws)(_:bs.length<=100)(_:rws.length<=60)(_:(∀w∈rws,w.1.length=bs.length/\∀c,(w.1.getD c []).length<=6))(_:(∀(c:Nat)(b:Int×Int),bs[c]?=Jp b->(L c).length<64/\∀x,MkC rws c b x->x∈L c))(_:∀(l:E2)(as:List E2)(mss:List (List Int))(H':Hp),ao H H'->H l=Jq->H' l=Jp (.lst (as.map V.ref))->MLs H' as mss->mss.length=bs.length->(∀(c:Nat)(b:Int×Int)(ms:List Int),bs[c]?=Jp b->mss[c]?=Jp ms->ms.Pairwise (· < ·)/\∀x,x∈ms↔MkC rws c b x)->Q (.ref l) H')
inductive dU(K:W.Frag)(Y:AD)(vs:List V)(H:Hp)(Q:VK)(e_:XK):Prop
 |mk (sl cl ol:E2)(ns:List Int)(xs:List V)(cs:List Col)(oc:Col)(_:vs=[.ref sl,.ref cl,.ref ol])(_:H sl=Jp (.lst (ns.map V.int)))(_:ns.length<=200)(_:(∀n∈ns,0<=n))(_:H cl=Jp (.lst xs))(_:cR NT H xs cs)(_:(∀c∈cs,aZ c))(_:1<=cs.length)(_:cs.length<=4)(_:dj NT H ol oc)(_:aZ oc)(_:∀(l:E2)(zs:List V)(ws:List BW)(H':Hp),ao H H'->H' l=Jp (.lst zs)->BRL (λa=>H a=Jq) H' zs ws->ws.length=ns.length->(∀w∈ws,cm cs oc w)->Q (.ref l) H')
inductive gX(K:W.Frag)(Y:AD)(vs:List V)(H:Hp)(Q:VK)(e_:XK):Prop
 |mk (wy:Str)(i:Nat)(bl_ ol pl:E2)(zs pz:List V)(ws:List BW)(oc:Col)(PS:List (List Nat))(k n:Nat)(_:vs=[.str wy,.ref bl_,.ref ol,.ref pl,.int (k:Int)])(_:six[i]?=Jp wy)(_:H bl_=Jp (.lst zs))(_:BRL NT H zs ws)(_:ws.length<=200)(_:k<ws.length)(_:dj NT H ol oc)(_:aZ oc)(_:H pl=Jp (.lst pz))(_:PtL NT H pz PS)(_:n<=100)(_:(∀w∈ws,w.1.length=n))(_:(∀p∈PS,p.length=n))(_:∀(b:Bool)(H':Hp),ao H H'->(b=Jr↔Idl (ver (wf i oc.lo oc.hi)) PS ws k)->Q (.bl b) H')
inductive b9(K:W.Frag)(Y:AD)(vs:List V)(H:Hp)(Q:VK)(e_:XK):Prop
 |mk (x dx p:E2)(zs:List Str)(_:vs=[.ref x,.ref p])(_:H x=Jp (.ins Y.j dx []))(_:H p=Jp (.lst (zs.map V.str)))(_:Good zs)(_:∀(H':Hp)(l:E2),(∀b o,b≠x->H b=Jp o->H' b=Jp o)->H' x=Jp (.ins Y.j dx [("low",.int 0),("high",.int (hiW zs)),("words",.ref l)])->H' l=Jp (.lst (zs.map V.str))->Q .non H')
inductive iG(K:W.Frag)(Y:AD)(vs:List V)(H:Hp)(Q:VK)(e_:XK):Prop
 |mk (z:Str)(_:vs=[.str z])(_:z∈six)(_:(∀i:Nat,six[i]?=Jp z->∀(x C:E2)(H':Hp),ao H H'->(cl6 Y.b Y.c Y.d Y.e Y.f Y.g)[i]?=Jp C->WyN C H' x z->Q (.ref x) H'))
inductive eS(K:W.Frag)(Y:AD)(vs:List V)(H:Hp)(Q:VK)(e_:XK):Prop
 |mk (wy:Str)(i:Nat)(bl_ ol pl:E2)(zs pz:List V)(ws:List BW)(oc:Col)(PS:List (List Nat))(n:Nat)(_:vs=[.str wy,.ref bl_,.ref ol,.ref pl])(_:six[i]?=Jp wy)(_:H bl_=Jp (.lst zs))(_:BRL NT H zs ws)(_:ws.length<=200)(_:dj NT H ol oc)(_:aZ oc)(_:H pl=Jp (.lst pz))(_:PtL NT H pz PS)(_:n<=100)(_:(∀w∈ws,w.1.length=n))(_:(∀p∈PS,p.length=n))(_:∀(l:E2)(zs':List V)(r:List BW)(H':Hp),ao H H'->H' l=Jp (.lst zs')->BRL NT H' zs' r->Th (ver (wf i oc.lo oc.hi)) PS ws r->Q (.ref l) H')
inductive fF(K:W.Frag)(Y:AD)(vs:List V)(H:Hp)(Q:VK)(e_:XK):Prop
 |mk (z:Str)(ou:E2)(_:vs=[.str z,.ref ou])(_:z∈six)(_:(z=s!"sum" -> ∃dx fs,H ou=Jp (.ins Y.i dx fs))) (_:∀H',ao H H'->Q .non H')
inductive fS(K:W.Frag)(Y:AD)(vs:List V)(H:Hp)(Q:VK)(e_:XK):Prop
 |mk (t:E2)(rws:List Rw)(i:Nat)(o:Int×Int)(m:Int)(_:vs=[.ref t,.int m])(_:Tbl Y.k Y.i Y.j H t rws i o)(_:∀(r:E2)(H':Hp),ao H H'->SqT K H' r (tp (ver (wf i o.1 o.2) (pkF rws (di m) rws.length)))->Q (.ref r) H')
inductive fG(K:W.Frag)(Y:AD)(vs:List V)(H:Hp)(Q:VK)(e_:XK):Prop
 |mk (l:E2)(c:Col)(_:vs=[.ref l])(_:dj NT H l c)(_:aZ c)(_:∀(a:E2)(H':Hp),ao H H'->dP Y.i Y.j H' a c->Q (.ref a) H')
inductive jk(K:W.Frag)(Y:AD)(vs:List V)(H:Hp)(Q:VK)(e_:XK):Prop
 |mk (t c:E2)(rws:List Rw)(i:Nat)(o:Int×Int)(cs:List Int)(_:vs=[.ref t,.ref c])(_:Tbl Y.k Y.i Y.j H t rws i o)(_:SqL K H c (cs.map V.int))(_:(∀w∈rws,w.1.length=cs.length))(_:∀(r:E2)(H':Hp),ao H H'->SqT K H' r (tp (ver (wf i o.1 o.2) (pkF rws (gD rws cs) rws.length)))->Q (.ref r) H')
inductive gY(K:W.Frag)(Y:AD)(vs:List V)(H:Hp)(Q:VK)(e_:XK):Prop
 |mk (t tl bx r2:E2)(k:Nat)(m:Nat)(rws:List Rw)(i:Nat)(o:Int×Int)(_:vs=[.ref t,.ref tl,.int (k:Int)])(_:Tbl Y.k Y.i Y.j H t rws i o)(_:SqT K H tl [.ref bx,.int (m:Int),.ref r2])(_:SqT K H r2 (tp (ver (wf i o.1 o.2) (pkF rws (di (m:Int)) rws.length))))(_:k<200)(_:∀H',ao H H'->Q (.bl (m.testBit k && decide (ver (wf i o.1 o.2) (pkF rws (di ((m-2^k:Nat):Int)) rws.length)≠ver (wf i o.1 o.2) (pkF rws (di (m:Int)) rws.length)))) H')
inductive bD(K:W.Frag)(Y:AD)(vs:List V)(H:Hp)(Q:VK)(e_:XK):Prop
 |mk (x dx na dl ou rl:E2)(nm wy:Str)(zs:List Str)(dv rx:List V)(bs:Prs)(o:Int×Int)(rws:List Rw)(_:vs=[.ref x,.str nm,.ref na,.ref dl,.ref ou,.str wy,.ref rl])(_:H x=Jp (.ins Y.k dx []))(_:H na=Jp (.lst (zs.map V.str)))(_:(∀z∈nm :: zs,isw z=Jr))(_:(nm :: zs).Nodup)(_:1<=zs.length)(_:zs.length<=4)(_:wy∈six)(_:(wy=s!"sum" -> ∃dx fs,H ou=Jp (.ins Y.i dx fs))) (_:H dl=Jp (.lst dv))(_:aC dv bs (Dom Y.i Y.j H))(_:Dom Y.i Y.j H ou o)(_:H rl=Jp (.lst rx))(_:RL NT H rx rws)(_:rx.length<=200)(_:bs.length<=4)(_:(∀w∈rws,qp bs o w))(_:∀(H':Hp)(fs:List (Str×V))(rl':E2)(xs':List V),(∀b o,b≠x->H b=Jp o->H' b=Jp o)->H' x=Jp (.ins Y.k dx fs)->fs.lookup s!"rows"=Jp (.ref rl')->fs.lookup s!"way"=Jp (.str wy)->fs.lookup s!"outcome"=Jp (.ref ou)->fs.lookup s!"name"=Jp (.str nm)->(∃na' dl':E2,fs.lookup s!"names"=Jp (.ref na')/\fs.lookup s!"domains"=Jp (.ref dl')/\H' na'=Jp (.lst (zs.map V.str))/\H' dl'=Jp (.lst dv))->H' rl'=Jp (.lst xs')->RL NT H' xs' rws->Q .non H')
inductive gZ(K:W.Frag)(Y:AD)(n:Nat)(vs:List V)(H:Hp)(Q:VK)(e_:XK):Prop
 |mk (d:Nat)(f:Fm Int d)(v:V)(_:vs=[v,.int (d:Int)])(_:FmV vS H d f v)(_:d+1<=n)(_:(bxs d f).length<=2000)(_:(∀q∈bxs d f,q.1.length<=6))(_:∀(l:E2)(xs:List V)(H':Hp),ao H H'->H l=Jq->H' l=Jp (.lst xs)->BxL H' xs (bxs d f)->Q (.ref l) H')
theorem wM{K:W.Frag}{Y:AD}{vs:List V}{H:Hp}{Q:VK}{E:XK}(h:gZ K Y 0 vs H Q E):False:=by
 obtain⟨d,f,v,rfl,c,b,a,e,q⟩:=h;lia
inductive dW(K:W.Frag)(Y:AD)(vs:List V)(H:Hp)(Q:VK)(e_:XK):Prop
 |mk (t tl:E2)(k:Nat)(bv:V)(xs:List V)(Ms:List Nat)(rws:List Rw)(i:Nat)(o:Int×Int)(_:vs=[.ref t,.ref tl,.int (k:Int),bv])(_:Tbl Y.k Y.i Y.j H t rws i o)(_:H tl=Jp (.lst xs))(_:TlM K H rws i o xs Ms)(_:k<200)(_:(bv=.non\/∃b:Nat,bv=.int (b:Int)/\b<Ms.length))(_:∀(v:V)(H':Hp),ao H H'->((∃p:Nat,v=.int (p:Int)/\p<Ms.length/\∃m∈Ms,ck rws i o k m=Jr)\/(v=.non/\∀m∈Ms,ck rws i o k m=Js))->Q v H')
inductive gs(K:W.Frag)(Y:AD)(vs:List V)(H:Hp)(Q:VK)(e_:XK):Prop
 |mk (t rl ou:E2)(nm wy:Str)(zs:List Str)(dv rx:List V)(wL rws:List Rw)(bs:Prs)(o:Int×Int)(_:vs=[.ref t,.ref rl])(_:TF Y.k H t nm wy ou zs dv wL)(_:TOk Y.i Y.j H nm wy ou zs dv rws bs o)(_:H rl=Jp (.lst rx))(_:RL NT H rx rws)(_:∀(t':E2)(H':Hp),ao H H'->TF Y.k H' t' nm wy ou zs dv rws->Q (.ref t') H')
inductive gu(K:W.Frag)(Y:AD)(vs:List V)(H:Hp)(Q:VK)(e_:XK):Prop
 |mk (t tl kl nl:E2)(xs nv:List V)(Ms ks:List Nat)(rws:List Rw)(i:Nat)(o:Int×Int)(_:vs=[.ref t,.ref tl,.ref kl,.ref nl])(_:Tbl Y.k Y.i Y.j (hide H nl) t rws i o)(_:hide H nl tl=Jp (.lst xs))(_:TlM K (hide H nl) rws i o xs Ms)(_:hide H nl kl=Jp (.lst (vN ks)))(_:(∀k∈ks,k<nv.length))(_:nv.length<=60)(_:H nl=Jp (.lst nv))(_:(∀v∈nv,v=.non\/∃b:Nat,v=.int (b:Int)/\b<Ms.length))(_:∀(v:V)(nv':List V)(H':Hp),ao (hide H nl) H'->H' nl=Jp (.lst nv')->nv'.length=nv.length->(∀v∈nv',v=.non\/∃b:Nat,v=.int (b:Int)/\b<Ms.length)->((∃a k:Nat,ks[a]?=Jp k/\v=.int (k:Int)/\(∀m∈Ms,ck rws i o k m=Js)/\∀j k',a<j->ks[j]?=Jp k'->¬ ∀m∈Ms,ck rws i o k' m=Js)\/(v=.non/\∀k∈ks,¬ ∀m∈Ms,ck rws i o k m=Js))->Q v H')
inductive gv(K:W.Frag)(Y:AD)(vs:List V)(H:Hp)(Q:VK)(e_:XK):Prop
 |mk (h:Int)(cl ol bl_:E2)(wy:Str)(xs zs:List V)(cs:List Col)(oc:Col)(ws:List BW)(i:Nat)(_:vs=[.int h,.ref cl,.ref ol,.str wy,.ref bl_])(_:H cl=Jp (.lst xs))(_:cR NT H xs cs)(_:(∀c∈cs,aZ c))(_:1<=cs.length)(_:cs.length<=4)(_:dj NT H ol oc)(_:aZ oc)(_:six[i]?=Jp wy)(_:(wy=s!"sum" -> oc.w=Js)) (_:H bl_=Jp (.lst zs))(_:BRL NT H zs ws)(_:ws.length<=200)(_:(∀w∈ws,cm cs oc w))(_:∀(t ou:E2)(dv:List V)(rws:List Rw)(H':Hp),ao H H'->TF Y.k H' t (wd (h / 16) 0) wy ou ((List.range cs.length).map λj:Nat=>wd (h / 16) (1+(0+(j:Int)))) dv rws->TOk Y.i Y.j H' (wd (h / 16) 0) wy ou ((List.range cs.length).map λj:Nat=>wd (h / 16) (1+(0+(j:Int)))) dv rws (cs.map Col.b) oc.b->aC dv cs (dP Y.i Y.j H')->dP Y.i Y.j H' ou oc->cw cs ws rws->Q (.ref t) H')
inductive eV(K:W.Frag)(Y:AD)(P:EX)(w:D0)(mg:Str->Option De)(base:FG)(n:Nat)(vs:List V)(H:Hp)(Q:VK)(e_:XK):Prop
 |mk (c b f:E2)(xs:List V)(cols:List (List (Int×Int)))(ah:List Int)(m:Nat)(L:Type)(_:DecidableEq L)(A:Lfp L)(g:List Int->L)(J:Hp->Prop)(_:vs=[.ref c,.ref b,.ref f])(_:cols.length+1<=n)(_:H c=Jp (.lst xs))(_:CoL H xs cols)(_:H b=Jp (.lst (ah.map V.int)))(_:(∀col∈cols,col.length<=64))(_:ah.length+cols.length<=6)(_:cols.length<=6)(_:m=ah.length+cols.length)(_:As A P w K mg base f m g J)(_:J H)(_:(∀(v:V)(H':Hp),(∀d o,d≠b->H d=Jp o->H' d=Jp o)->FmV A H' cols.length (lay g cols ah) v->Q v H'))
theorem si{K:W.Frag}{Y:AD}{P:EX}{w:D0}{mg:Str->Option De}{a:FG}{vs:List V}{H:Hp}{Q:VK}{E:XK}(h:eV K Y P w mg a 0 vs H Q E):False:=by
 obtain⟨c,b,u,j,d,v,m,L,k,A,g,J,rfl,l,o,t,p,i,f,e,n,r,s,q⟩:=h;lia
inductive mr(K:W.Frag)(Y:AD)(P:EX)(w:D0)(mg:Str->Option De)(base:FG)(vs:List V)(H:Hp)(Q:VK)(e_:XK):Prop
 |mk (a b f:E2)(ys:List V)(ps:List (Int×Int))(as:List E2)(mss:List (List Int))(L:Type)(_:DecidableEq L)(A:Lfp L)(g:List Int->L)(J:Hp->Prop)(_:vs=[.ref a,.ref b,.ref f])(_:H a=Jp (.lst ys))(_:PL H ys ps)(_:H b=Jp (.lst (as.map V.ref)))(_:MLs H as mss)(_:MOK ps mss)(_:gr ps mss ps.length<=300)(_:As A P w K mg base f ps.length g J)(_:J H)(_:∀(v:V)(H':Hp)(css:List (List Int)),ao H H'->css.length=ps.length->(∀(j:Nat)(p:Int×Int)(ms cs:List Int),ps[j]?=Jp p->mss[j]?=Jp ms->css[j]?=Jp cs->cs.Pairwise (· < ·)/\(∀c,c∈cs↔(c∈ms/\p.1<c/\c<=p.2))/\cs.length<64)->FmV A H' (List.zipWith (λp cs=>cb p.1 p.2 cs) ps css).length (lay g (List.zipWith (λp cs=>cb p.1 p.2 cs) ps css) []) v->Q v H')
inductive hU(K:W.Frag)(Y:AD)(vs:List V)(H:Hp)(Q:VK)(e_:XK):Prop
 |mk (t:E2)(dv:List V)(bs:Prs)(rws:List Rw)(L:Nat->List Int)(i:Nat)(o:Int×Int)(_:vs=[.ref t])(_:TD Y.k Y.i Y.j H t dv bs rws)(_:Tbl Y.k Y.i Y.j H t rws i o)(_:bs.length<=4)(_:rws.length<=60)(_:(∀x∈rws,x.1.length=bs.length/\∀c,(x.1.getD c []).length<=6))(_:(∀(c:Nat)(b:Int×Int),bs[c]?=Jp b->(L c).length<=57/\∀x,MkC rws c b x->x∈L c))(_:(∀mss:List (List Int),mss.length=bs.length->(∀(c:Nat)(b:Int×Int)(ms:List Int),bs[c]?=Jp b->mss[c]?=Jp ms->ms.Pairwise (· < ·)/\∀x,x∈ms↔MkC rws c b x)->gr bs mss bs.length<=300))(_:(∀z,W.tabIn K "row_form" = Jp z->gC H z.2 [(xD Y80,"row_form.<locals>.<lambda>")])) (_:∀(v:V)(H':Hp)(css:List (List Int)),So H H'->(∀z,W.tabIn K "row_form" = Jp z->gC H' z.2 [(xD Y80,"row_form.<locals>.<lambda>")]/\∀d o,d≠z.2->H d=Jp o->H' d=Jp o)->css.length=bs.length->(∀(j:Nat)(p:Int×Int)(cs:List Int),bs[j]?=Jp p->css[j]?=Jp cs->cs.Pairwise (· < ·)/\∀x,x∈cs↔MkC rws j p x)->FmV vS H' (List.zipWith (λp cs=>cb p.1 p.2 cs) bs css).length (lay (λcd=>((msk (gD rws cd) rws.length:Nat):Int)) (List.zipWith (λp cs=>cb p.1 p.2 cs) bs css) []) v->Q v H')
inductive kA(K:W.Frag)(Y:AD)(vs:List V)(H:Hp)(Q:VK)(e_:XK):Prop
 |mk (t:E2)(dv:List V)(bs:Prs)(rws:List Rw)(L:Nat->List Int)(kk i:Nat)(o:Int×Int)(_:vs=[.ref t])(_:RfH Y.k Y.i Y.j H t dv bs rws L kk i o)(_:iI K H)(_:∀(l:E2)(xs:List V)(cols:List (List (Int×Int)))(H':Hp),So H H'->iI K H'->H' l=Jp (.lst xs)->wo bs rws cols->BxL H' xs (bxs cols.length (lay (mkg rws) cols []))->(bxs cols.length (lay (mkg rws) cols [])).length<=300->Q (.ref l) H')
inductive dX(K:W.Frag)(Y:AD)(vs:List V)(H:Hp)(Q:VK)(e_:XK):Prop
 |mk (t:E2)(dv:List V)(bs:Prs)(rws:List Rw)(L:Nat->List Int)(kk i:Nat)(o:Int×Int)(_:vs=[.ref t])(_:RfH Y.k Y.i Y.j H t dv bs rws L kk i o)(_:iI K H)(_:∀(l:E2)(xs:List V)(cols:List (List (Int×Int)))(H':Hp),So H H'->iI K H'->H' l=Jp (.lst xs)->wo bs rws cols->TiL K H' rws i o xs (bxs cols.length (lay (mkg rws) cols []))->xs.length<=300->Q (.ref l) H')
inductive jl(K:W.Frag)(Y:AD)(vs:List V)(H:Hp)(Q:VK)(e_:XK):Prop
 |mk (t ou:E2)(nm wy:Str)(zs:List Str)(dv:List V)(cs:List Col)(oc:Col)(ws:List BW)(wi kk:Nat)(L:Nat->List Int)(_:vs=[.ref t])(_:TF Y.k H t nm wy ou zs dv (ws.map (rwo cs)))(_:TOk Y.i Y.j H nm wy ou zs dv (ws.map (rwo cs)) (cs.map Col.b) oc.b)(_:six[wi]?=Jp wy)(_:(∀w∈ws,cm cs oc w))(_:(∀c∈cs,aZ c))(_:aZ oc)(_:RfH Y.k Y.i Y.j H t dv (cs.map Col.b) (ws.map (rwo cs)) L kk wi oc.b)(_:iI K H)(_:∀(t':E2)(r:List BW)(H':Hp),So H H'->iI K H'->Th (ver (wf wi oc.lo oc.hi)) (cI (cM cs)) ws r->TF Y.k H' t' nm wy ou zs dv (r.map (rwo cs))->TOk Y.i Y.j H' nm wy ou zs dv (r.map (rwo cs)) (cs.map Col.b) oc.b->Q (.ref t') H')
def J18(K:W.Frag):Sp:=λc H Q _=>∃(a:E2)(b:List Int),c=[.ref a]/\SqL K H a (b.map V.int)/\b.length<=63/\(∀z,W.tabIn K "row_form" = Jp z->H z.2=Jp (.tbl #[]))/\∀d,Q (.bl Jr) d
inductive fT(K:W.Frag)(Y:AD)(f c' c_0:E2)(doc pm ctv:De)(vs:List V)(H:Hp)(Q:VK)(e_:XK):Prop
 |mk (a t:E2)(cs:List Int)(rws:List Rw)(i:Nat)(o:Int×Int)(_:vs=[.ref a])(_:l8 H f c' (W.kla_obj "<lambda>" "row_form.<locals>.<lambda>" (uE Y80) (rX Y80) (m8 Y80) [("table",c_0)] pm c' ctv) "row_form.<locals>.<lambda>" [("table",c_0)] [("table",.ref t)]) (_:Tbl Y.k Y.i Y.j H t rws i o)(_:H a=Jp (.lst (cs.map V.int)))(_:(∀x∈rws,x.1.length=cs.length))(_:∀H',ao H H'->Q (.int ((msk (gD rws cs) rws.length:Nat):Int)) H')
section
variable{P:EX}{w:D0}{K:W.Frag}{mg:Str->Option De}{base:FG}{f:E2}{fd:He}{Y:AD}
theorem Dr(F:Fun K "all_among" "all_among" Y32 f fd) (bl:Bl K mg Y)  : aK P w K mg base CX0 1 f fd ["text","signs"] (gd K Y):=by
 refine F.okA Z32 λo A m s H p Q E r h=>?_
 obtain⟨z,g,rfl,q⟩:=h
 refine⟨_,(ak (bg GO.never U (zO (pv 0)) (ax (i:=2) Z32.nd U (Or.inl U))
  (af (aO (aJ oG (pv 2) (pv 1) (by with_unfolding_all rfl))
  (af (au dY))
  aG)))
  (af (au dY))),?_⟩
 refine⟨_,U,z,U,xo (λi a l=>(∃k:Option V,a=[Jp (.str z),Jp (.str g),k])/\l=H/\(z.cps.toList.take i).all (sg g)=Jr) ⟨⟨_,U⟩,U,U⟩ (λi c a l e h=>?_) (λa l h=>?_)⟩
 .obtain⟨⟨k,rfl⟩,j,b⟩:=h;rw[j];refine⟨_,U,_,U,_,_,U,U,_,U,?_⟩;refine c9 (λd=>?_) (λd=>?_)
  .have n:lL z g=false:=Ai e (Aj d);rw[n]at q;exact q
  .exact⟨⟨_,U⟩,U,all_succ e (BJ d) b⟩
 .obtain⟨⟨k,rfl⟩,j,b⟩:=h;rw[j];rw[vV b]at q;exact q
theorem Ds(F:Fun K "is_whole" "is_whole" Y43 f fd) (bl:Bl K mg Y)  : aK P w K mg base CX0 1 f fd ["value"] (fh K Y):=by
 refine F.okA Z43 λb A a s H c Q E d h=>?_
 obtain⟨i,rfl,q⟩:=h;refine⟨_,(af (au (fY (av bP U bl.isinstance_ PyProof.Rows.boot_isinstance (aa (pv 0) (aa (iu (v:=.ty "int") U bl.int_ PyProof.Rows.boot_int U) ae))) (i6 (u7 (av bP U bl.isinstance_ PyProof.Rows.boot_isinstance (aa (pv 0) (aa (iu (v:=.ty "bool") U bl.bool_ PyProof.Rows.boot_bool U) ae)))))))),?_⟩;exact⟨_,U,_,_,_,_,Jr,U,.ty _,.inl (.int _),(by first|rfl|with_unfolding_all rfl|decide+kernel),_,U,cD ⟨_,U,_,_,_,_,Js,U,.ty _,.inl (.int _),(by first|rfl|with_unfolding_all rfl|decide+kernel),_,U,q⟩⟩
theorem Dt(F:Fun K "alike" "alike" Y31 f fd) (bl:Bl K mg Y)  : aK P w K mg base CX0 1 f fd ["one","other"] (ml K Y):=by
 refine F.okA Z31 λO A o s H R Q E L h=>?_
 obtain⟨a,b,c,rfl,M,y,q⟩:=h
 refine⟨_,(ak (aO (PW.pt (dz (bq (av bP U bl.isinstance_ PyProof.Rows.boot_isinstance (aa (pv 0) (aa (cg (v:=.ref Y.i) U bl.Numbers_ U) ae)))) (cS (bq (av bP U bl.isinstance_ PyProof.Rows.boot_isinstance (aa (pv 1) (aa (cg (v:=.ref Y.i) U bl.Numbers_ U) ae)))))))
  (af (au (fY (dc cc (aN (pv 0) U) (aN (pv 1) U) (aL _)) (i6 (dc cc (aN (pv 0) U) (aN (pv 1) U) (aL _))))))
  aG)
  (ak (aO (PW.pt (dz (bq (av bP U bl.isinstance_ PyProof.Rows.boot_isinstance (aa (pv 0) (aa (cg (v:=.ref Y.j) U bl.Words_ U) ae)))) (cS (bq (av bP U bl.isinstance_ PyProof.Rows.boot_isinstance (aa (pv 1) (aa (cg (v:=.ref Y.j) U bl.Words_ U) ae)))))))
  (af (au (dc (zM L) (aN (pv 0) U) (aN (pv 1) U) (aL _))))
  aG)
  (af (au dY)))),?_⟩
 rcases M with⟨k,N,fs,e,u,t,I⟩|⟨k,N,fs,l,e,u,t,I,G,D⟩
 .rcases y with⟨d,n,m,g,r,p,C⟩|⟨d,_⟩
  .refine⟨_,U,_,_,_,_,Jr,U,.ref _,bl.t_Numbers.ty e,bl.f_nn,_,U,cD ?_⟩;refine⟨_,U,_,_,_,_,Jr,U,.ref _,bl.t_Numbers.ty g,bl.f_nn,_,U,cD ?_⟩;refine⟨_,U,a,_,_,_,_,U,e,bl.k_Numbers,bl.na_Numbers_low,u,_,U,b,_,_,_,_,U,g,bl.k_Numbers,bl.na_Numbers_low,r,U,_,U,dN U ?_⟩;refine⟨_,U,a,_,_,_,_,U,e,bl.k_Numbers,bl.na_Numbers_high,t,_,U,b,_,_,_,_,U,g,bl.k_Numbers,bl.na_Numbers_high,p,U,?_⟩;rw[Jy U];exact q
  .rw[k]at d;cases d
 .rcases y with⟨d,_⟩|⟨d,n,m,S,g,r,p,C,B,z⟩
  .rw[k]at d;cases d
  .refine⟨_,U,_,_,_,_,Js,U,.ref _,bl.t_Words.ty e,bl.f_wn,_,U,aW (aW ?_)⟩;refine⟨_,U,_,_,_,_,Jr,U,.ref _,bl.t_Words.ty e,bl.f_ww,_,U,cD ?_⟩;refine⟨_,U,_,_,_,_,Jr,U,.ref _,bl.t_Words.ty g,bl.f_ww,_,U,cD ?_⟩;refine⟨_,U,a,_,_,_,_,U,e,bl.k_Words,bl.na_Words_words,G,_,U,b,_,_,_,_,U,g,bl.k_Words,bl.na_Words_words,B,?_⟩;exact uw (SqL.of D) (SqL.of z) (λx J=>.inl (iv.mp (og _) x J)) q
theorem Du(F:Fun K "holds" "holds" Y42 f fd) (bl:Bl K mg Y)  : aK P w K mg base CX0 1 f fd ["spans","number"] (mm K Y):=by
 refine F.okA Z42 λD A v s H G Q E I h=>?_
 obtain⟨a,xs,k,n,rfl,y,B,q⟩:=h
 refine⟨_,(ak (bg GO.never U (aP (pv 0)) (cJ U (az (ax (i:=2) Z42.nd U (Or.inl U)) (az (ax (i:=3) Z42.nd U (Or.inl U)) aY)))
  (af (aO (gG fc fc (pv 2) (pv 1) (pv 3))
  (af (au dY))
  aG)))
  (af (au dY))),?_⟩
 refine⟨_,U,a,U,⟨_,y⟩,bw (xs:=xs) (λi g j=>(∃t o,g=[Jp (.ref a),Jp (.int n),t,o])/\j=H/\(k.take i).any (inR n)=Js) ⟨⟨_,_,U⟩,U,U⟩ (λi g j _ h=>by obtain⟨_,e,_⟩:=h;rw[e];exact y) (λi x g j e h=>?_) (λg j h=>?_)⟩
 .obtain⟨⟨t,o,rfl⟩,m,b⟩:=h;rw[m];obtain⟨p,r,l,rfl,u⟩:=B.get e;refine⟨r,_,U,SqT.of u,U,_,_,U,_,_,U,U,?_⟩;refine⟨_,U,_,U,_,_,U,U,_,U,?_⟩;refine c9 (λc=>?_) (λc=>?_)
  .refine⟨_,U,_,_,U,U,_,U,?_⟩;refine c9 (λd=>?_) (λd=>?_)
   .have C:inP k n=true:=rA l (Dm c d);rw[C]at q;exact q
   .exact⟨⟨_,_,U⟩,U,iV l b (BI d)⟩
  .exact⟨_,U,aW ⟨⟨_,_,U⟩,U,iV l b (BH c)⟩⟩
 .obtain⟨⟨t,o,rfl⟩,m,b⟩:=h;rw[m];have z:inP k n=false:=by
   rw[B.length,fq]at b;exact b
  rw[z]at q;exact q
theorem Dv(F:Fun K "edges" "edges" Y38 f fd) (bl:Bl K mg Y)  : aK P w K mg base CX0 1 f fd ["spans","low","high"] (mn K Y):=by
 refine F.okA Z38 λa2 A S s H vs Q E hr h=>?_
 obtain⟨a,xs,R,lo,hi,rfl,W,C,hl,q⟩:=h
 refine⟨_,(ak (aF (i:=3) Z38.nd U (Or.inl U) (bc ae))
  (ak (bg GO.never U (aP (pv 0)) (cJ U (az (ax (i:=4) Z38.nd U (Or.inl U)) (az (ax (i:=5) Z38.nd U (Or.inl U)) aY)))
  (ak (aX (fK PySem.F.plainAttrs_list PySem.F.slot_list_append PySem.F.type_list_append bK (pv 3) (aa (pv 4) ae)))
  (af (aX (fK PySem.F.plainAttrs_list PySem.F.slot_list_append PySem.F.type_list_append bK (pv 3) (aa (ar bz (pv 5) ai) ae))))))
  (af (au (dG (aP (pv 3)) (bX (N:=["turn","low","high"]) (fr:=[1,2]) (cl:=[("low",s.heap.objs.size+1),("high",s.heap.objs.size+1+1)]) U U (by decide+kernel) (by decide+kernel) U (by decide+kernel) U U U (hZ.mpr ⟨U,hZ.mpr ⟨U,iM _⟩⟩) U) U (λ_ _ _ _=>(jL (gG lA fc (pv 1) (pv 0) (pv 2)))) (λ_ _ _ _=>(pv 0))))))),?_⟩
 refine⟨(by show 0<=FL;decide),λl v=>?_⟩;have T:ao H (upd H l (.lst [])):=ag v _
 refine⟨_,U,a,U,⟨_,T.seq W⟩,bw (xs:=xs) (λi B k=>∃(L J:Option V),B=[Jp (.ref a),Jp (.int lo),Jp (.int hi),Jp (.ref l),L,J]/\ao H k/\k l=Jp (.lst ((ends (R.take i)).map V.int))/\(ends (R.take i)).length<=2*i)
  ⟨Jq,Jq,U,T,ab,wN _⟩ (λi B k _ h=>by obtain⟨_,_,_,j,_⟩:=h;exact j.seq W) (λi x B k e h=>?_) (λB k h=>?_)⟩
 .obtain⟨L,J,rfl,j,m,z⟩:=h;obtain⟨p,r,Z,rfl,M⟩:=(C.mono j.tups).get e;have b:i<xs.length:=(Gb.mp e).1;refine⟨r,_,U,SqT.of M,U,_,_,U,_,_,U,U,?_⟩;refine⟨_,U,.inl ⟨U,_,SqL.of m⟩,_,U,l,_,_,U,U,m,ay (by rw[bo];lia),?_⟩;refine⟨_,U,.inl ⟨U,_,SqL.of ab⟩,_,U,_,_,U,U,l,_,_,U,U,ab,ay (by rw[dq,bo,hQ];lia),?_⟩;rw[wY];refine⟨_,_,U,j.upd v,?_,?_⟩
  .rw[ab,take_snoc Z,nM];simp
  .rw[take_snoc Z,nM,dq];simp;lia
 .obtain⟨L,J,rfl,j,m,z⟩:=h;rw[C.length,fq]at m z
  refine⟨_,U,l,U,⟨_,SqL.of m⟩,cn (xs:=(ends R).map V.int) (λD i zs d=>ao k d/\d D=Jp (.lst zs)/\zs=(((ends R).take i).filter (λt=>decide (lo<t) && decide (t<=hi))).map V.int/\zs.length<=i)
   (λD n=>⟨ag n _,ab,U,xn _⟩) (λD i zs d n _ h=>SqL.of (h.1 _ _ m)) (λD i x zs d n e h=>?_) (λD zs d n h=>?_)⟩
  .obtain⟨g,u,o,O⟩:=h;obtain⟨c,rfl,X⟩:=of_map e;have b:i<((ends R).map V.int).length:=(Gb.mp e).1;have a1:i<(ends R).length:=by rw[bo]at b;exact b
   have y:(Jt (lo<c) && decide (c<=hi))=Js->eH (λD i zs d=>ao k d/\d D=Jp (.lst zs)/\zs=(((ends R).take i).filter (λt=>decide (lo<t) && decide (t<=hi))).map V.int/\zs.length<=i) D i ((ends R).map V.int).length d:=λhf=>by
    refine eH.mk (zs:=zs) b ⟨g,u,?_,by lia⟩;rw[take_snoc X,lq,List.filter_cons_of_neg (by simpa using hf)];simpa using o
   refine⟨_,U,_,U,_,_,U,U,_,U,?_⟩;refine c9 (λI=>?_) (λI=>?_)
   .refine⟨_,U,_,_,U,U,_,U,?_⟩;refine c9 (λG=>?_) (λG=>y (by rw[Bp.mpr G,Bool.and_false]));have a0:=C.length;refine⟨_,U,cQ.mk b u (ay (by lia)) ⟨g.upd n,ab,?_,by rw[dq,hQ];lia⟩⟩;rw[take_snoc X,lq,List.filter_cons_of_pos (by rw[I,G];rfl),o];simp
   .exact⟨_,U,aW (y (by rw[Bp.mpr I,Bool.false_and]))⟩
  .obtain⟨g,u,o,O⟩:=h;rw[bo,fq]at o;rw[o]at u;exact q D d _ (j.trans g) (j.free n) u U
theorem Dw(F:Fun K "stretches" "stretches" Y81 f fd) (bl:Bl K mg Y)  : aK P w K mg base CX0 1 f fd ["low","high","marks"] (gf K Y):=by
 refine F.okA Z81 λb4 A b1 s H vs Q E hr h=>?_
 obtain⟨a,n,L,lo,hi,rfl,hS,hl,hL,mX,q⟩:=h
 refine⟨_,(ak (aF (i:=3) Z81.nd U (Or.inl U) (av (fM (w:=w) U U) U bl.sorted_ PyProof.Rows.boot_sorted (aa (b8 (n6 (w:=w) U U) U bl.set_ PyProof.Rows.boot_set (aa (dG (aP (pv 2)) (bX (N:=["mark","low","high"]) (fr:=[0,1]) (cl:=[("low",s.heap.objs.size+1),("high",s.heap.objs.size+1+1)]) U U (by decide+kernel) (by decide+kernel) U (by decide+kernel) U U U (hZ.mpr ⟨U,hZ.mpr ⟨U,iM _⟩⟩) U) U (λ_ _ _ _=>(jL (gG lA fc (pv 1) (pv 0) (pv 2)))) (λ_ _ _ _=>(pv 0))) ae)) ae)))
  (ak (aF (i:=4) Z81.nd U (Or.inl U) (ar ft (bc (aa (pv 0) ae)) (pv 3)))
  (ak (aF (i:=5) Z81.nd U (Or.inl U) (ar ft (dG (aP (pv 3)) (dJ U (by decide+kernel) (by decide+kernel) (by decide+kernel) U) U (λ_ _ _ _=>bC) (λ_ _ _ _=>(ar dC (pv 0) ai))) (bc (aa (pv 1) ae))))
  (af (au (rQ U U bl.list_ U bl.zip_ (aa (pv 4) (aa (pv 5) ae)))))))),?_⟩
 refine⟨_,U,a,U,⟨_,hS⟩,cn (xs:=n.map V.int) (λD i zs g=>ao H g/\g D=Jp (.lst zs)/\zs=((n.take i).filter (λt=>decide (lo<t) && decide (t<=hi))).map V.int/\zs.length<=i)
  (λD m=>⟨ag m _,ab,U,xn _⟩) (λD i zs g m _ h=>h.1.seq hS) (λD i x zs g m e h=>?_) (λD zs g m h=>?_)⟩
 .obtain⟨r,B,y,O⟩:=h;obtain⟨c,rfl,ec⟩:=of_map e;have d:i<(n.map V.int).length:=(Gb.mp e).1;have a6:i<n.length:=by rw[bo]at d;exact d
  have M:(Jt (lo<c) && decide (c<=hi))=Js->eH (λD i zs g=>ao H g/\g D=Jp (.lst zs)/\zs=((n.take i).filter (λt=>decide (lo<t) && decide (t<=hi))).map V.int/\zs.length<=i) D i (n.map V.int).length g:=λhf=>by
   refine eH.mk (zs:=zs) d ⟨r,B,?_,by lia⟩;rw[take_snoc ec,lq,List.filter_cons_of_neg (by simpa using hf)];simpa using y
  refine⟨_,U,_,U,_,_,U,U,_,U,?_⟩;refine c9 (λg1=>?_) (λg1=>?_)
  .refine⟨_,U,_,_,U,U,_,U,?_⟩;refine c9 (λg2=>?_) (λg2=>M (by rw[Bp.mpr g2,Bool.and_false]));refine⟨_,U,cQ.mk d B (ay (by lia)) ⟨r.upd m,ab,?_,by rw[dq,hQ];lia⟩⟩;rw[take_snoc ec,lq,List.filter_cons_of_pos (by rw[g1,g2];rfl),y];simp
  .exact⟨_,U,aW (M (by rw[Bp.mpr g1,Bool.false_and]))⟩
 .obtain⟨s2,B,y,O⟩:=h;rw[bo]at O y;rw[fq]at y;rw[y]at B;generalize R:n.filter (λt=>decide (lo<t) && decide (t<=hi))=ks at B y;have l7:∀c,c∈ks↔(c∈n/\lo<c/\c<=hi):=λc=>by rw[←R,ll];simp
  have b3:ks.length<=n.length:=by rw[←R];exact uW ..
  refine⟨D,ks,U,SqL.of B,by lia,λl a5=>?_⟩;have s3:ao H (upd g l (rP w l ks)):=s2.trans (ag a5 _);refine⟨l,ks,L,U,ab,hL,λk hk=>let ⟨a1,a2,a3⟩:=(l7 k).mp hk;mX k a1 a2 a3,λC b a9 pw mem=>?_⟩;have s4:=s3.trans (ag a9 (.lst (b.map V.int)));have e4:upd (upd g l (rP w l ks)) C (.lst (b.map V.int)) C=Jp (.lst (b.map V.int)):=ab;generalize upd (upd g l (rP w l ks)) C (.lst (b.map V.int))=H3 at s4 e4⊢;have a7:b.length<64:=Nat.lt_of_le_of_lt (bJ (pw.imp λh=>Int.ne_of_lt h) λk hk=>let ⟨a1,a2,a3⟩:=(l7 k).mp ((mem k).mp hk);mX k a1 a2 a3) hL;refine⟨_,U,(by show 1<=FL;decide),λt1 J=>?_⟩;have e5:=bO (o:=.lst [.int lo]) e4 J;have s5:=s4.trans (ag J (.lst [.int lo]));refine⟨_,U,t1,C,_,_,U,U,ab,e5,x3 (ay (by rw[bo];show 1+b.length<=1000;lia)),λX I=>?_⟩;have e6:=bO (o:=.lst ([V.int lo]++b.map V.int)) e5 I;have s6:=s5.trans (ag I (.lst ([V.int lo]++b.map V.int)));have e7:upd (upd H3 t1 (.lst [.int lo])) X (.lst ([V.int lo]++b.map V.int)) X=Jp (.lst ([V.int lo]++b.map V.int)):=ab;generalize upd (upd H3 t1 (.lst [.int lo])) X (.lst ([V.int lo]++b.map V.int))=H4 at s6 e6 e7⊢
  refine⟨_,U,C,U,⟨_,SqL.of e6⟩,cn (xs:=b.map V.int) (λD i zs z=>ao H4 z/\z D=Jp (.lst zs)/\zs=((b.take i).map (· - 1)).map V.int/\zs.length<=i)
   (λD m=>⟨ag m _,ab,U,xn _⟩) (λD i zs z m _ h=>SqL.of (h.1 _ _ e6)) (λD i x zs z m e h=>?_) (λD zs z m h=>?_)⟩
  .obtain⟨r,v,u,Dx⟩:=h;obtain⟨c,rfl,ec⟩:=of_map e;have d:i<(b.map V.int).length:=(Gb.mp e).1;have a6:i<b.length:=by rw[bo]at d;exact d
   refine⟨_,U,_,_,U,U,cQ.mk d v (ay (by lia)) ⟨r.upd m,ab,?_,by rw[dq,hQ];lia⟩⟩;rw[take_snoc ec,fR,fR,u];rfl
  .obtain⟨a0,v,u,Dx⟩:=h;rw[bo,fq]at u;rw[u]at v;refine⟨_,U,(by show 1<=FL;decide),λt3 G=>?_⟩;have s7:=a0.trans (ag G (.lst [.int hi]));refine⟨D,t3,_,_,U,U,bO v G,ab,x3 (ay (by rw[bo,bo];show b.length+1<=1000;lia)),λW a4=>?_⟩;have Z:=s7.trans (ag a4 (.lst ((b.map (· - 1)).map V.int++[.int hi])));have e8:upd (upd z t3 (.lst [.int hi])) W (.lst ((b.map (· - 1)).map V.int++[.int hi])) W=Jp (.lst ((b.map (· - 1)).map V.int++[.int hi])):=ab;generalize upd (upd z t3 (.lst [.int hi])) W (.lst ((b.map (· - 1)).map V.int++[.int hi]))=H6 at Z e8⊢;have e9:=Z _ _ e7;refine⟨_,U,_,U,X,W,(lo :: b).map V.int,(b.map (· - 1)++[hi]).map V.int,U,SqL.of e9,by rw[fR];exact SqL.of e8,λD9 ts H9 S k9 a8 b0 f9=>?_⟩;have s9:ao H H9:=(s6.trans Z).trans λc o e=>k9 c o e
   refine q D9 H9 b (ts.map V.ref) s9 ((s6.trans Z).free a8) b0 (PL.of_get (by rw[S,gO];simp) λj p hj=>?_) pw (λc=>(mem c).trans (l7 c)) a7;obtain⟨z1,z2⟩:=zip_get hj;obtain⟨T,h1,_,h2⟩:=f9 j _ _ z1 z2;exact⟨T,h1,h2⟩
theorem Dy(F:Fun K "closed" "closed" Y35 f fd) (bl:Bl K mg Y)  : aK P w K mg base CX0 1 f fd ["triples"] (kz K Y):=by
 refine F.okA Z35 λa6 A a4 s H vs Q E hr h=>?_
 obtain⟨L,iL,A,n,a,xs,o,rfl,hn,ha,W,hl,q⟩:=h
 refine⟨_,(ak (aF (i:=1) Z35.nd U (Or.inl U) (bc ae))
  (ak (bg GO.never U (aP (pv 0)) (cJ U (az (ax (i:=2) Z35.nd U (Or.inl U)) (az (ax (i:=3) Z35.nd U (Or.inl U)) (az (ax (i:=4) Z35.nd U (Or.inl U)) aY))))
  (af (aO (PW.pt (dz (de (pv 1) (by intro _;rfl)) (cS (aJ (Ab hr) (aI bE (aI aM (pv 1) (jJ gF ai) (λ_ _=>U)) ai (λ_ _=>U)) (pv 4) (aL _)))))
  (af (oC (ba (aa (aI bE (aI aM (pv 1) (jJ gF ai) (λ_ _=>U)) ai (λ_ _=>U)) (aa (pv 3) (aa (pv 4) ae)))) (oB (pv 1) (jJ gF ai) set_list)))
  (af (aX (fK PySem.F.plainAttrs_list PySem.F.slot_list_append PySem.F.type_list_append bK (pv 1) (aa (ba (aa (pv 2) (aa (pv 3) (aa (pv 4) ae)))) ae)))))))
  (af (au (b8 mU U bl.tuple_ PyProof.Rows.boot_tuple (aa (pv 1) ae)))))),?_⟩
 refine⟨(by show 0<=FL;decide),λl B=>?_⟩;have s0:ao H (upd H l (.lst [])):=ag B _
 refine⟨_,U,a,U,⟨_,SqL.of (s0 _ _ ha)⟩,bw (xs:=xs) (λi S g=>ao H g/\∃(c:List V)(N M J:Option V),g l=Jp (.lst c)/\FmL (FmV A g n) g ((o.take i).foldl cH []) c/\c.length<=i/\S=[Jp (.ref a),Jp (.ref l),N,M,J])
  ⟨s0,[],Jq,Jq,Jq,ab,FmL.nil,xn _,U⟩ (λi S g _ h=>SqL.of (h.1 _ _ ha)) (λi y S g e h=>?_) (λS g h=>?_)⟩
 .obtain⟨C,c,N,M,J,m,p,O,rfl⟩:=h;have hi:i<xs.length:=(Gb.mp e).1;obtain⟨t,et⟩:∃t,o[i]?=Jp t:=⟨_,Ga (by rw[←W.1];exact hi)⟩;obtain⟨r,u,ex,er,hu⟩:=W.2 i t et;rw[e]at ex;cases ex;have a3:=C _ _ er;have x:=FmV.mono C.tups hu;have BV:(o.take (i+1)).foldl cH []=cH ((o.take i).foldl cH []) t:=by rw[take_snoc et,List.foldl_append];rfl
  rw[BV];generalize (o.take i).foldl cH []=F at p;have a5:i<900:=by have:=W.1;lia
  refine⟨r,_,U,SqT.of a3,U,_,_,U,_,_,U,_,_,U,U,?_⟩
  have put:cH F t=F++[t]->∀b,g b=Jq->ao H (upd (upd g b (.tup [.int t.1,.int t.2.1,u])) l (.lst (c++[.ref b])))/\∃(v:List V)(N M J:Option V),upd (upd g b (.tup [.int t.1,.int t.2.1,u])) l (.lst (c++[.ref b])) l=Jp (.lst v) /\
    FmL (FmV A (upd (upd g b (.tup [.int t.1,.int t.2.1,u])) l (.lst (c++[.ref b]))) n) (upd (upd g b (.tup [.int t.1,.int t.2.1,u])) l (.lst (c++[.ref b]))) (cH F t) v/\v.length<=i+1/\[Jp (V.ref a),Jp (V.ref l),Jp (V.int t.1),Jp (V.int t.2.1),Jp u]=[Jp (.ref a),Jp (.ref l),N,M,J]:=λI b j=>by
   have D:upd g b (.tup [.int t.1,.int t.2.1,u]) l=Jp (.lst c):=bO m j;have k:cy g (upd (upd g b (.tup [.int t.1,.int t.2.1,u])) l (.lst (c++[.ref b]))):=(iw j).trans (bj D);refine⟨(C.trans (ag j _)).upd B,c++[.ref b],_,_,_,ab,?_,by rw[dq,hQ];lia,U⟩;rw[I];exact(p.mono (λ_ _ q=>FmV.mono k q) k).snoc (bj D _ _ ab) (FmV.mono k x)
  refine⟨_,U,!c.isEmpty,.inl ⟨c,SqL.of m,U⟩,?_⟩;rcases mO F with X|⟨Z,lt,X⟩
  .subst X;have a0:c=[]:=List.eq_nil_of_length_eq_zero p.1;have eE:(!c.isEmpty)=false:=by rw[a0];rfl
   rw[eE];refine aW (aW ?_);refine⟨_,U,.inl ⟨U,_,SqL.of m⟩,_,U,_,U,_,U,(by show 3<=FL;decide),λb j=>?_⟩;refine⟨l,c,_,U,U,bO m j,ay (by lia),?_⟩;exact put U b j
  .rw[mS]at X;subst X;obtain⟨G,T,ul,rfl,hy,R,a2⟩:=p.init;have eE:(!(G++[V.ref T]).isEmpty)=true:=by cases G <;> rfl
   rw[eE];refine cD ?_;refine⟨_,U,_,U,l,_,_,_,U,U,SqL.of m,gI _ _,T,_,_,_,U,U,SqT.of R,U,_,U,FmV.eq_to (by lia) a2 x ?_⟩;refine⟨_,U,?_⟩;refine c9 (λd=>?_) (λd=>?_)
   .have d':lt.2.2=t.2.2:=lF d;have I:cH (Z++[lt]) t=Z++[(lt.1,t.2.1,t.2.2)]:=by
     unfold cH;rw[List.getLast?_concat];simp only;rw[Jw d',List.dropLast_concat]
    refine⟨_,U,_,U,l,_,_,_,U,U,SqL.of m,gI _ _,T,_,_,_,U,U,SqT.of R,U,_,U,_,U,(by show 3<=FL;decide),λb j=>?_⟩;have D:upd g b (.tup [.int lt.1,.int t.2.1,u]) l=Jp (.lst (G++[.ref T])):=bO m j;refine⟨_,U,_,U,l,_,_,_,U,U,D,ql (by simp),?_⟩;rw[qm];have k:cy g (upd (upd g b (.tup [.int lt.1,.int t.2.1,u])) l (.lst (G++[.ref b]))):=(iw j).trans (bj D);refine⟨(C.trans (ag j _)).upd B,G++[.ref b],_,_,_,ab,?_,by rw[dq,hQ]at O⊢;lia,U⟩;rw[I];exact(hy.mono (λ_ _ q=>FmV.mono k q) k).snoc (t:=(lt.1,t.2.1,t.2.2)) (bj D _ _ ab) (FmV.mono k x)
   .have d':lt.2.2≠t.2.2:=sQ d;have I:cH (Z++[lt]) t=Z++[lt]++[t]:=by
     unfold cH;rw[List.getLast?_concat];simp only;rw[Jv d']
    refine⟨_,U,.inl ⟨U,_,SqL.of m⟩,_,U,_,U,_,U,(by show 3<=FL;decide),λb j=>?_⟩;refine⟨l,_,_,U,U,bO m j,ay (by lia),?_⟩;exact put I b j
 .obtain⟨C,c,N,M,J,m,p,O,rfl⟩:=h;have a1:FmL (FmV A g n) g (gM o) c:=by
   have e:o.take xs.length=o:=by rw[W.1];exact fq
   rw[e]at p;exact p
  refine⟨_,U,l,c,U,.inl ⟨SqL.of m,λb j=>?_⟩⟩;have st:=ag j (.tup c);exact q b _ (C.trans st) ⟨b,c,U,ab,a1.mono (λ_ _ z=>FmV.mono st.tups z) st.tups⟩
theorem Dz(F:Fun K "gathered" "gathered" Y40 f fd) (bl:Bl K mg Y)  : aK P w K mg base CX0 1 f fd ["lists"] (gP K Y):=by
 refine F.okA Z40 λa1 A B s H vs Q E G h=>?_
 obtain⟨a,Z,b,L,rfl,J,g,N,S,R,q⟩:=h
 refine⟨_,(ak (aF (i:=1) Z40.nd U (Or.inl U) (bc ae))
  (ak (bg GO.never U (aP (pv 0)) (ax (i:=2) Z40.nd U (Or.inl U))
  (af (aX (fK PySem.F.plainAttrs_list PySem.F.slot_list_extend PySem.F.type_list_extend ud (pv 1) (aa (pv 2) ae)))))
  (af (au (av (fM (w:=w) U U) U bl.sorted_ PyProof.Rows.boot_sorted (aa (b8 (n6 (w:=w) U U) U bl.set_ PyProof.Rows.boot_set (aa (pv 1) ae)) ae)))))),?_⟩
 refine⟨(by show 0<=FL;decide),λd m=>?_⟩;have t:ao H (upd H d (.lst [])):=ag m _;have M:upd H d (.lst []) d=Jp (.lst [] ):=ab;generalize upd H d (.lst [])=H0 at t M⊢;have D:∀(A:List (List Int))(x:List Int),(A++[x]).flatten=A.flatten++x:=λA x=>by rw[List.flatten_append];simp
 refine⟨_,U,a,U,⟨_,SqL.of (t _ _ J)⟩,bw (xs:=Z.map V.ref) (λi p k=>ao H k/\k d=Jp (.lst ((b.take i).flatten.map V.int))/\∃v:Option V,p=[Jp (.ref a),Jp (.ref d),v]) ⟨t,M,_,U⟩ (λi p k _ h=>SqL.of (h.1 _ _ J)) (λi y p k e h=>?_) (λp k h=>?_)⟩
 .obtain⟨j,c,v,rfl⟩:=h;obtain⟨r,rfl,I⟩:=vZ e;obtain⟨xs,u⟩:∃xs,b[i]?=Jp xs:=⟨_,Ga (by rw[←g.1];exact(Gb.mp I).1)⟩;obtain⟨r',o,G⟩:=g.2 i xs u;rw[I]at o;cases o;have a0:(b.take i).flatten.length+xs.length<=1000:=by
   have W:b.flatten=(b.take (i+1)).flatten++(b.drop (i+1)).flatten:=by rw[←List.flatten_append,List.take_append_drop]
   have T:((b.take (i+1)).flatten).length<=b.flatten.length:=by rw[W,dq];lia
   rw[take_snoc u,D,dq]at T;lia
  refine⟨_,U,.inl ⟨U,_,SqL.of c⟩,_,U,d,r,_,_,U,U,c,j _ _ G,x3 (ay (by rw[bo,bo];lia)),j.upd m,?_,_,U⟩;rw[ab,take_snoc u,D,fR]
 .obtain⟨j,c,v,rfl⟩:=h;rw[bo,g.1,fq]at c;refine⟨_,U,d,b.flatten,U,SqL.of c,(by lia),λl z=>?_⟩;have C:=ag z (rP w l b.flatten);refine⟨l,b.flatten,L,U,ab,S,R,λD2 X n O mem=>?_⟩;exact q D2 X _ ((j.trans C).trans (ag n _)) (j.free (C.free n)) ab O mem
theorem DA(F:Fun K "refuse_counts" "refuse_counts" Y75 f fd) (bl:Bl K mg Y)  : aK P w K mg base CX0 1 f fd ["names","rows"] (dE K Y):=by
 refine F.okA Z75 λe A a s H i Q E j h=>?_
 obtain⟨p,r,b,g,rfl,d,c,l,k,m,q⟩:=h
 refine⟨_,(ak (aO (bW (gG fc fc ai (av aD U bl.len_ Jo (aa (pv 0) ae)) (nN U bl.MOST_COLUMNS_)))
  (af bT)
  aG)
  (af (aO (aJ iT (av aD U bl.len_ Jo (aa (pv 1) ae)) (nN U bl.MOST_ROWS_) (aL _))
  (af bT)
  aG))),?_⟩
 refine⟨_,U,p,_,U,.inl (d),_,_,U,U,_,U,dN (by lia) ?_⟩;refine⟨_,_,U,U,_,U,?_⟩;rw[Jy (show((b.length:Nat):Int)<=4 by lia)];refine aW ?_;exact⟨_,U,r,_,U,.inl (c),_,_,U,U,_,U,bB (by lia) q⟩
theorem DB(F:Fun K "own_row" "own_row" Y74 f fd) (bl:Bl K mg Y)  : aK P w K mg base CX0 1 f fd ["cells","code"] (ji K Y):=by
 refine F.okA Z74 λT A y s H V Q E Z h=>?_
 obtain⟨S,xs,G,rfl,B,t,W,q⟩:=h;refine⟨_,(af (au (ba (aa (dG (aP (pv 0)) (dJ U (by decide+kernel) (by decide+kernel) (by decide+kernel) U) U (λ_ _ _ _=>bC) (λ_ _ _ _=>(b8 (m6 (K:=K) U) U bl.list_ PyProof.Rows.boot_list (aa (pv 0) ae)))) (aa (pv 1) ae))))),?_⟩
 refine⟨_,U,S,U,⟨_,SqL.of B⟩,cn (xs:=xs) (λD i g d=>ao H d/\d D=Jp (.lst g)/\CL (Fr H D) d g (G.1.take i))
  (λD m=>⟨ag m _,ab,aC.nil⟩) (λD i g d m _ h=>SqL.of (h.1 _ _ B)) (λD i x g d m e h=>?_) (λD g d m h=>?_)⟩
 .obtain⟨k,u,p⟩:=h;obtain⟨l,X,rfl,O,M⟩:=aC.get t e;obtain⟨_,n,R,L⟩:=M.same k;have hi:i<xs.length:=(Gb.mp e).1;have v:g.length<FL:=by
   have N:=p.1;rw[ia]at N;exact ay (by lia)
  refine⟨_,U,l,_,U,.inl (SqL.of R),λo c=>?_⟩;have s2:=ag c (.lst n);have C:upd d o (.lst n) o=Jp (.lst n):=ab;have j:=s2 _ _ u;generalize upd d o (.lst n)=H2 at s2 C j⊢;have J:H o=none:=k.free c;have I:o≠D:=λz=>by rw[z,u]at c;cases c
  refine cQ.mk hi j v ⟨(k.trans s2).upd m,ab,?_⟩;rw[take_snoc O];exact CL.updN (aC.snoc (p.same s2) ⟨⟨J,I⟩,n,C,L.mono s2.tups⟩) Fr.out j
 .obtain⟨k,u,p⟩:=h;rw[t.1,fq]at p;refine⟨_,U,br,λr b=>q r _ (k.trans (ag b _)) (k.free b) ⟨D,g,ab,m,ag b _ _ _ u,?_⟩⟩;exact(p.same (ag b _)).wk λa h=>h.1
theorem DC(F:Fun K "table_bounds" "table_bounds" Y82 f fd) (bl:Bl K mg Y)  : aK P w K mg base CX0 1 f fd ["table"] (dQ K Y):=by
 refine F.okA Z82 λa1 A I s H vs Q E hr h=>?_
 obtain⟨t,x,bs,W,rfl,⟨rl,dx,V,fs,xs,M,f1,S,p,o,Z,hR⟩,hb,q⟩:=h;refine⟨_,(af (au (dG (aP (aN (pv 0) U)) (dJ U (by decide+kernel) (by decide+kernel) (by decide+kernel) U) U (λ_ _ _ _=>bC) (λ_ _ _ _=>(ba (aa (jO (K:=K) U (pv 0) U) (aa (jO (K:=K) U (pv 0) U) ae))))))),?_⟩;have G:x.length=bs.length:=o.1;refine⟨_,U,t,_,_,_,_,U,M,bl.k_Table,bl.na_Table_domains,S,V,U,⟨_,SqL.of p⟩,cn (xs:=x) (λD i j c=>ao H c/\c D=Jp (.lst j)/\PL c j (bs.take i)) (λD k=>⟨ag k _,ab,.nil⟩) (λD i j c k _ h=>SqL.of (h.1 _ _ p)) (λD i y j c k e h=>?_) (λD j c k h=>?_)⟩
 .obtain⟨l,v,m⟩:=h;obtain⟨a,b,rfl,T,C,N,a0,X,J,R,O,_⟩:=aC.get o e;have hi:i<x.length:=(Gb.mp e).1;have u:Cls K C/\NoAttr K C s!"low"/\NoAttr K C s!"high":=by
   rcases N with rfl|rfl
   .exact⟨bl.k_Numbers,bl.na_Numbers_low,bl.na_Numbers_high⟩
   .exact⟨bl.k_Words,bl.na_Words_low,bl.na_Words_high⟩
  refine⟨_,U,a,_,_,_,_,U,l _ _ J,u.1,u.2.1,R,_,U,a,_,_,_,_,U,l _ _ J,u.1,u.2.2,O,br,λg B=>?_⟩;have r:=ag B (.tup [.int b.1,.int b.2]);have L:upd c g (.tup [.int b.1,.int b.2]) g=Jp (.tup [.int b.1,.int b.2]):=ab;have d:=r _ _ v;have n:=m.mono r.tups;generalize upd c g (.tup [.int b.1,.int b.2])=H4 at r L d n⊢;have z:=m.length;rw[ia]at z;refine cQ.mk hi d (ay (by lia)) ⟨(l.trans r).upd k,ab,?_⟩;rw[take_snoc T];exact(n.mono (bj d)).snoc (bj d _ _ L)
 .obtain⟨l,v,m⟩:=h;rw[G,fq]at m;exact q D j c l k v m
theorem DD(F:Fun K "_law_cell_at" "_law_cell_at" Y51 f fd) (bl:Bl K mg Y)  : aK P w K mg base CX0 1 f fd ["script","k"] (eO K Y):=by
 refine F.okA Z51 λl A d s H m Q E n h=>?_
 obtain⟨a,b,k,rfl,e,o,q⟩:=h
 refine⟨_,(ak (aO (aJ lA (pv 1) (av aD U bl.len_ Jo (aa (pv 0) ae)) (aL _))
  (af (au (aI aM (pv 0) (pv 1) (λ_ _=>U))))
  aG)
  (af (au ai))),?_⟩
 refine⟨_,U,_,U,a,_,U,.inl e,_,_,U,U,_,U,?_⟩;refine c9 (λc=>?_) (λc=>?_)
 .have j:k<(((b.map V.int).length:Nat):Int):=lF c;rw[bo]at j;have i:k.toNat<b.length:=by lia
  have g:atI (b.map V.int) k=Jp (.int b[k.toNat]):=by
   have z:atI (b.map V.int) ((k.toNat:Nat):Int)=Jp (.int b[k.toNat]):=bN (by rw[eU,Ga i];rfl);rw[show((k.toNat:Nat):Int)=k by lia]at z;exact z
  exact⟨_,U,_,U,a,_,_,_,U,U,e,g,q _⟩
 .exact q 0
theorem DE(F:Fun K "_law_mixed" "_law_mixed" Y59 f fd) (bl:Bl K mg Y)  : aK P w K mg base CX0 1 f fd ["cell","k"] (cF K Y):=by
 refine F.okA Z59 λD A l s H I Q E L h=>?_
 obtain⟨c,k,rfl,v,u,q⟩:=h
 refine⟨_,(aE (aF (i:=2) Z59.nd U (Or.inl U) (ar sT (ar bz (ar aS (pv 0) (ar i7 ai ai)) ai) (ar bz ai (ar ly (ar ly ai (pv 1)) (pv 1)))))
  (aE (aF (i:=2) Z59.nd U (Or.inl U) (ar bz (pv 2) (ar ly ai (pv 1))))
  (af (au (ar aS (ar sT (pv 2) (pv 2)) (ar bz (ar i7 ai ai) ai)))))),?_⟩
 have S:=zE c (Int.ne_of_gt (p10 (60:Int).toNat));have R:=zz c (p10 (60:Int).toNat);have C:(10:Int)^(60:Int).toNat<2^200:=by decide
 have J:0<=2*k*k/\2*k*k<=20000:=by
  have z1:0<=2*k:=by lia
  have o:=Int.mul_nonneg z1 v;have G:2*k*k<=2*k*100:=Int.mul_le_mul_of_nonneg_left u z1;lia
 refine⟨λa j=>j=H/\∃b:Int,0<=b/\b<2^400/\a=[Jp (.int c),Jp (.int k),Jp (.int b)],?_,?_⟩
 .have r:0<=c%10^(60:Int).toNat+1/\c%10^(60:Int).toNat+1<=2^200:=⟨by lia,by lia⟩;have g:0<=31415926535897932384626433832795028841971+2*k*k/\31415926535897932384626433832795028841971+2*k*k<2^140:=by
   have:(31415926535897932384626433832795028841971:Int)+20000<2^140:=by decide
   lia
  have d:G1 (c%10^(60:Int).toNat+1) (31415926535897932384626433832795028841971+2*k*k):=by
   refine qd (m:=201) (n:=140) ?_ ?_ (by decide) (by decide)
   .have:(2:Int)^200<((2^201:Nat):Int):=by decide
    lia
   .have:(2:Int)^140=((2^140:Nat):Int):=by decide
    lia
  refine⟨_,U,_,_,U,U,⟨by decide,by decide,by decide⟩,_,_,U,U,p10 _,_,_,U,U,_,U,_,_,U,U,.inl ⟨by decide,by decide⟩,_,U,_,_,U,U,.inr ⟨by lia,by lia⟩,_,_,U,U,_,_,U,U,d,U,_,Int.mul_nonneg r.1 g.1,?_,U⟩;have z:=Int.mul_le_mul r.2 (Int.le_of_lt g.2) g.1 (by decide);have o:(2:Int)^200*2^140<2^400:=by decide
  lia
 rintro B x ⟨rfl,b,O,N,rfl⟩;refine⟨λa j=>j=x/\∃b:Int,0<=b/\b<2^401/\a=[Jp (.int c),Jp (.int k),Jp (.int b)],?_,?_⟩
 .refine⟨_,U,_,U,_,_,U,U,.inl ⟨by decide,by decide⟩,_,_,U,U,U,_,by lia,?_,U⟩;have o:(2:Int)^400+7919*100<2^401:=by decide
  lia
 rintro y T ⟨rfl,t,b2,M,rfl⟩;have d:G1 t t:=by
  have e:(2:Int)^401=((2^401:Nat):Int):=by decide
  refine qd (m:=401) (n:=401) ?_ ?_ (by decide) (by decide) <;> lia
 have p:(0:Int)<10^(60:Int).toNat+9:=by have:=p10 (60:Int).toNat;lia
 exact⟨_,U,_,U,_,_,U,U,d,_,_,U,U,⟨by decide,by decide,by decide⟩,_,_,U,U,_,_,U,U,p,q _ (zE _ (Int.ne_of_gt p))⟩
theorem DF(F:Fun K "_law_word" "_law_word" Y69 f fd) (bl:Bl K mg Y)  : aK P w K mg base CX0 1 f fd ["cell","k"] (fi K Y):=by
 refine F.okA Z69 λL A g s H M Q E R h=>?_
 obtain⟨c,k,rfl,q⟩:=h
 refine⟨_,(aE (aF (i:=2) Z69.nd U (Or.inl U) (ar lM (aI oI aQ (ar aS (pv 0) ai) (λ_ _=>U)) (ar aS (ar bu (pv 0) ai) ai)))
  (aE (aF (i:=3) Z69.nd U (Or.inl U) (ar lM (aI oI aQ (ar aS (ar bu (pv 0) ai) ai) (λ_ _=>U)) (ar aS (pv 1) ai)))
  (af (au (ar jb (ar jb (ar jb (pv 2) (aI oI aQ (ar aS (ar bu (pv 1) ai) ai) (λ_ _=>U))) (aI oI aQ (ar aS (pv 1) ai) (λ_ _=>U))) (pv 3)))))),?_⟩
 have j:∀(x:Nat)(n:Int),0<=n->n<10->MulOk ⟨#[x]⟩ n:=λx n T S=>by
  have:n=0\/n=1\/n=2\/n=3\/n=4\/n=5\/n=6\/n=7\/n=8\/n=9:=by lia
  have e:(⟨#[x]⟩:Str).length=1:=rfl;unfold MulOk;rw[e];rcases this with rfl|rfl|rfl|rfl|rfl|rfl|rfl|rfl|rfl|rfl <;> decide
 have C:=zE c (show(26:Int)≠0 by decide);have z:=zz c (show(0:Int)<26 by decide);have v:=zE (c / 26) (show(6:Int)≠0 by decide);have W:=zz (c / 26) (show(0:Int)<6 by decide);have u:=zE (c / 156) (show(26:Int)≠0 by decide);have t:=zz (c / 156) (show(0:Int)<26 by decide);have r:=zE k (show(5:Int)≠0 by decide);have V:=zz k (show(0:Int)<5 by decide);have p:=zE (k / 7) (show(7:Int)≠0 by decide);have o:=zz (k / 7) (show(0:Int)<7 by decide);have m:=zE k (show(7:Int)≠0 by decide);have l:=zz k (show(0:Int)<7 by decide);refine⟨λa d=>d=H/\a=[Jp (.int c),Jp (.int k),Jp (.str ⟨(List.replicate (c / 26%6).toNat (97+(c%26).toNat)).toArray⟩),Jq],?_,?_⟩
 .refine⟨_,U,_,_,U,U,(by show(0:Int)<26;decide),_,_,_,U,U,(by decide),kY yM C z,_,U,_,_,U,U,⟨by decide,by decide⟩,_,_,U,U,(by show(0:Int)<6;decide),_,_,U,U,j _ _ v (by lia),U,?_⟩;rw[BM];rfl
 rintro J G ⟨rfl,rfl⟩;refine⟨λa d=>d=G/\a=[Jp (.int c),Jp (.int k),Jp (.str ⟨(List.replicate (c / 26%6).toNat (97+(c%26).toNat)).toArray⟩),Jp (.str ⟨(List.replicate (k%5).toNat (97+(c / 156%26).toNat)).toArray⟩)],?_,?_⟩
 .refine⟨_,U,_,_,U,U,⟨by decide,by decide⟩,_,_,U,U,(by show(0:Int)<26;decide),_,_,_,U,U,(by decide),kY yM u t,_,U,_,_,U,U,(by show(0:Int)<5;decide),_,_,U,U,j _ _ r (by lia),U,?_⟩;rw[BM];rfl
 rintro I D ⟨rfl,rfl⟩;have O:(⟨(List.replicate (c / 26%6).toNat (97+(c%26).toNat)).toArray⟩:Str).length<=6:=by simp[Str.length];lia
 have N:(⟨(List.replicate (k%5).toNat (97+(c / 156%26).toNat)).toArray⟩:Str).length<=6:=by simp[Str.length];lia
 have b:∀x:Nat,(⟨#[x]⟩:Str).length=1:=λ_=>U
 refine⟨_,U,_,U,_,_,U,U,⟨by decide,by decide⟩,_,_,U,U,(by show(0:Int)<7;decide),_,_,_,U,U,(by decide),kY BL p o,_,_,U,U,big (by rw[b];lia),_,U,_,_,U,U,(by show(0:Int)<7;decide),_,_,_,U,U,(by decide),kY BL m l,_,_,U,U,big (by rw[len_app,b,b];lia),_,U,_,_,U,U,big (by rw[len_app,len_app,b,b];lia),?_⟩;have e:∀(A B:List Nat)(x y:Nat),(⟨A.toArray⟩:Str)++(⟨#[x]⟩:Str)++(⟨#[y]⟩:Str)++(⟨B.toArray⟩:Str)=⟨(A++([x,y]++B)).toArray⟩:=λA B x y=>by
  show Str.append (Str.append (Str.append _ _) _) _=_;unfold Str.append;simp
 show Q (.str (_++_++_++_)) D;rw[e];exact q
theorem DG(F:Fun K "_law_spans" "_law_spans" Y64 f fd) (bl:Bl K mg Y)  : aK P w K mg base CX0 1 f fd ["pairs","bits"] (gh K Y):=by
 refine F.okA Z64 λa7 A a4 s H vs Q E hr h=>?_
 obtain⟨pl,ts,m,b,rfl,L,hp,C,h6,q⟩:=h
 refine⟨_,(ak (aF (i:=2) Z64.nd U (Or.inl U) (bc ae))
  (ak (bg GO.never U (jS U bl.enumerate_ (aa (pv 0) ae)) (cJ U (az (ax (i:=3) Z64.nd U (Or.inl U)) (az (ax (i:=4) Z64.nd U (Or.inl U)) aY)))
  (af (aO (aJ cc (ar kg (ar oF (pv 1) (pv 3)) ai) ai (aL _))
  (af (aO (PW.pt (dz (aJ iT (pv 3) ai (aL _)) (cS (aJ cc (ar kg (ar oF (pv 1) (ar dC (pv 3) ai)) ai) ai (aL _)))))
  (af (oC (ba (aa (aI bE (aI aM (pv 2) (jJ gF ai) (λ_ _=>U)) ai (λ_ _=>U)) (aa (aI bE (pv 4) ai (λ_ _=>U)) ae))) (oB (pv 2) (jJ gF ai) set_list)))
  (af (aX (fK PySem.F.plainAttrs_list PySem.F.slot_list_append PySem.F.type_list_append bK (pv 2) (aa (pv 4) ae))))))
  aG)))
  (af (au (pv 2))))),?_⟩
 have a1:=hp.length;refine⟨(by show 0<=FL;decide),λc o=>?_⟩;have s0:ao H (upd H c (.lst [])):=ag o _;have e0:upd H c (.lst []) c=Jp (.lst []):=ab;generalize upd H c (.lst [])=H0 at s0 e0⊢;refine⟨_,U,pl,U,⟨_,SqL.of (s0 _ _ L)⟩,jT (xs:=ts) (λi S k=>ao H k/\∃(j:List V)(p:Prs)(c3 c4:Option V),k c=Jp (.lst j)/\PL k j p/\eB m b i p/\p=mrg m b i/\j.length<=i/\S=[Jp (.ref pl),Jp (.int (b:Int)),Jp (.ref c),c3,c4]) ⟨s0,[],[],_,_,e0,.nil,eB.nil,U,wN _,U⟩ (λi S k I=>SqL.of (I.1 _ _ L)) (λi y S k T ey I hT=>?_) (λS k I=>?_)⟩
 .obtain⟨sm,j,p,c3,c4,es,hP,ok,d,M,rfl⟩:=I;obtain⟨u,l,J,rfl,hu⟩:=hp.get ey;have hi:i<m.length:=(Gb.mp J).1;have s2:=sm.trans (ag hT (.tup [.int (i:Int),.ref l]));have eT:upd k T (.tup [.int (i:Int),.ref l]) T=Jp (.tup [.int (i:Int),.ref l]):=ab;have a:upd k T (.tup [.int (i:Int),.ref l]) c=Jp (.lst j):=bO es hT;have e:=hP.mono (ag hT (.tup [.int (i:Int),.ref l])).tups;have B:=s2 _ _ hu;generalize upd k T (.tup [.int (i:Int),.ref l])=H2 at s2 eT a e B⊢;refine⟨T,_,U,SqT.of eT,U,_,_,U,_,_,U,U,?_⟩;refine⟨_,U,_,U,_,_,U,U,(by show(0:Int)<=(i:Int);lia),_,_,U,U,U,_,U,?_⟩;have eb:=o7 b i;refine c9 (λg=>?_) (λg=>⟨s2,j,p,_,_,a,e,ok.skip (by rw[←eb];exact Bp.mpr g),by rw[d,wz (by rw[←eb];exact Bp.mpr g)],by lia,U⟩);have Z:b.testBit i=true:=by rw[←eb];exact g
  refine⟨_,U,_,_,U,U,_,U,?_⟩;refine c9 (λg1=>?_) (λg1=>aW ?e1);have a6:(0:Int)<(i:Int):=lF g1;obtain⟨n,rfl⟩:∃n,i=n+1:=⟨i-1,by lia⟩;have R:=o7 b n;refine⟨_,U,_,U,_,_,U,U,_,_,U,U,(by show(0:Int)<=((n+1:Nat):Int)-1;lia),_,_,U,U,U,_,U,?_⟩;have en:(((n+1:Nat):Int)-1).toNat=n:=by lia
  rw[en];refine c9 (λg2=>?_) (λg2=>?e2);have D:b.testBit n=true:=by rw[←R];exact g2
  obtain⟨p0,O⟩:∃p0,m[n]?=Jp p0:=⟨_,Ga (by lia)⟩;obtain⟨a5,v,G,ev⟩:=ok.lastAt C D O;obtain⟨x,r,a0,X,a3,N,a2,er⟩:=e.last (by intro z;rw[z]at e;have:=e.length;rw[G]at this;simp at this);rw[N]at G;obtain⟨rfl,hv⟩:=List.append_inj' G U;have hv:X=v:=by simpa using hv
  subst hv;subst a3 N;refine⟨_,U,_,U,c,_,_,_,U,U,SqL.of a,gI _ _,r,_,_,_,U,U,SqT.of er,z0 _ _,_,U,l,_,_,_,U,U,SqT.of B,z1 _ _,br,λt ht=>?_⟩;have x1:upd H2 t (.tup [.int X.1,.int u.2]) c=Jp (.lst (x++[.ref r])):=bO a ht;refine⟨_,U,_,U,c,_,_,_,U,U,x1,ql (by simp),?_⟩;rw[qm];have W:cy H2 (upd (upd H2 t (.tup [.int X.1,.int u.2])) c (.lst (x++[.ref t]))):=(iw ht).trans (bj x1);refine⟨(s2.trans (ag ht _)).upd o,x++[.ref t],a0++[(X.1,u.2)],_,_,ab,(a2.mono W).snoc (bj x1 _ _ ab),ok.join C Z D O J ev,?_,?_,U⟩
  .rw[qD Z D d J]
  .rw[dq,hQ]at M⊢;lia
  all_goals
   refine⟨_,U,.inl ⟨U,_,SqL.of a⟩,_,U,c,_,_,U,U,a,ay (by lia),?_⟩;have W:cy H2 (upd H2 c (.lst (j++[.ref l]))):=bj a;exact⟨s2.upd o,j++[.ref l],p++[(u.1,u.2)],_,_,ab,(e.mono W).snoc (W _ _ B),ok.put C Z J,by rw[d,tM Z (by first|(rw[show i=0 by(have:¬ ((0:Int)<(i:Int)):=λz=>g1 (Jy z));lia];rfl)|(rw[show n+1-1=n by lia,←R,Bp.mpr g2,Bool.and_false])) J],by rw[dq,hQ];lia,U⟩
 .obtain⟨sm,j,p,c3,c4,es,hP,ok,d,M,rfl⟩:=I;rw[a1]at ok d;exact⟨_,U,q c p k sm ⟨o,j,es,hP⟩ ok d⟩
theorem DH(F:Fun K "_law_points" "_law_points" Y60 f fd) (bl:Bl K mg Y)  : aK P w K mg base CX0 1 f fd ["columns"] (fC K Y):=by
 refine F.okA Z60 λe4 A d3 s H vs Q E hr h=>?_
 obtain⟨cl,xs,m,rfl,a6,a5,hok,h4,q⟩:=h
 refine⟨_,(ak (aF (i:=1) Z60.nd U (Or.inl U) (bc (aa (bc ae) ae)))
  (ak (bg GO.never U (aP (pv 0)) (ax (i:=2) Z60.nd U (Or.inl U))
  (ak (aF (i:=3) Z60.nd U (Or.inl U) (bc ae))
  (aE (bg GO.never U (aP (pv 1)) (ax (i:=4) Z60.nd U (Or.inl U))
  (af (bg GO.never U (dA U bl.range_ (aa (av aD U bl.len_ Jo (aa (aI aM (pv 2) ai (λ_ _=>U)) ae)) ae)) (ax (i:=5) Z60.nd U (Or.inl U))
  (af (aX (fK PySem.F.plainAttrs_list PySem.F.slot_list_append PySem.F.type_list_append bK (pv 3) (aa (ar ft (pv 4) (bc (aa (pv 5) ae))) ae)))))))
  (af (aF (i:=1) Z60.nd U (Or.inl U) (pv 3))))))
  (af (au (pv 1))))),?_⟩
 have b6:xs.length=m.length:=a5.1;refine⟨(by show 0<=FL;decide),λn c8=>?_⟩;have s0:=ag c8 (.lst (vN []));have e0:upd H n (.lst (vN [])) n=Jp (.lst (vN [])):=ab;have ee:upd H n (.lst [])=upd H n (.lst (vN [])):=rfl;rw[ee];clear ee;generalize upd H n (.lst (vN []))=H0 at s0 e0⊢;refine⟨(by show 1<=FL;decide),λp0 a4=>?_⟩;have s1:=s0.trans (ag a4 (.lst [.ref n]));have e1:upd H0 p0 (.lst [.ref n]) p0=Jp (.lst [.ref n]):=ab;have a9:=ag a4 (.lst [.ref n]) _ _ e0;generalize upd H0 p0 (.lst [.ref n])=H1 at s1 e1 a9⊢;have b3:PtL NT H1 [.ref n] [[]]:=⟨U,λj p e=>by
  match j,e with
  |0,e=>cases e;exact⟨n,U,trivial,a9⟩
  |j+1,e=>simp at e⟩
 refine⟨_,U,cl,U,⟨_,SqL.of (s1 _ _ a6)⟩,bw (xs:=xs) (λi g o=>ao H o/\∃(G:E2)(D:List V)(c2 c3 I t:Option V),o G=Jp (.lst D)/\PtL NT o D (cI ((cM m).take i))/\D.length<=6^i/\g=[Jp (.ref cl),Jp (.ref G),c2,c3,I,t]) ⟨s1,p0,_,_,_,_,_,e1,b3,by show 1<=6^0;decide,U⟩ (λi g o _ h=>SqL.of (h.1 _ _ a6)) (λi y g o ey hh=>?_) (λg o hh=>?_)⟩
 .obtain⟨sm,G,D,c2,c3,I,t,J,l,a3,rfl⟩:=hh;obtain⟨lc,c,rfl,ec,d2,ts,_,_,g1,g2,g3⟩:=aC.get (a5.same sm) ey;have hi:i<m.length:=(Gb.mp ec).1;have ok:=hok c (Gd ec);have k6:=ok.few;have a2:=g3.length;have FI:6^i<=216:=by
   have:i<=3:=by lia
   exact wX (Nat.pow_le_pow_right (by decide) this) (by decide)
  refine⟨(by show 0<=FL;decide),λM hM=>?_⟩;have u1:=ag hM (.lst []);have eM:upd o M (.lst []) M=Jp (.lst []):=ab;generalize upd o M (.lst [])=H2 at u1 eM⊢;have BY:D.length=(cI ((cM m).take i)).length:=l.1;refine⟨λb1 u=>ao o u/\∃(d:List V)(I t:Option V),u M=Jp (.lst d)/\PtL (· ≠ M) u d (grow (cI ((cM m).take i)) c.prs.length)/\b1=[Jp (.ref cl),Jp (.ref G),Jp (.ref lc),Jp (.ref M),I,t],?_,?_⟩
  .refine⟨_,U,G,U,⟨_,SqL.of (u1 _ _ J)⟩,bw (xs:=D) (λa g u=>ao o u/\∃(d:List V)(I t:Option V),u M=Jp (.lst d)/\PtL (· ≠ M) u d (grow ((cI ((cM m).take i)).take a) c.prs.length)/\g=[Jp (.ref cl),Jp (.ref G),Jp (.ref lc),Jp (.ref M),I,t]) ⟨u1,[],_,_,eM,aC.nil,U⟩ (λa g u _ h=>SqL.of (h.1 _ _ J)) (λa y g u T h3=>?_) (λg u h3=>?_)⟩
   .obtain⟨N,d,I,t,B,O,rfl⟩:=h3;obtain⟨r,p,rfl,ep,_,d5⟩:=aC.get (l.same N) T;have ha:a<D.length:=(Gb.mp T).1;refine⟨_,U,lc,_,_,_,U,U,SqL.of (N _ _ g1),U,d2,_,U,.inl (SqL.of (N _ _ g2)),_,U,(by show -(2^62)<=((ts.length:Nat):Int);lia),(by show((ts.length:Nat):Int)<2^62;lia),nA (λb g C=>ao o C/\∃(d:List V)(t:Option V),C M=Jp (.lst d)/\PtL (· ≠ M) C d (grow ((cI ((cM m).take i)).take a) c.prs.length++(List.range b).map λk=>p++[k])/\g=[Jp (.ref cl),Jp (.ref G),Jp (.ref lc),Jp (.ref M),Jp (.ref r),t]) ⟨N,d,_,B,by simpa using O,U⟩ (λb g C hb S=>?_) (λg C S=>?_)⟩
    .obtain⟨t4,v,b0,L,x,rfl⟩:=S;have c1:C r=Jp (.lst (vN p)):=by
      obtain⟨r',p',d0,a7,_,c6⟩:=aC.get l T;cases d0;rw[ep]at a7;cases a7;exact t4 _ _ c6
     have e3:b<c.prs.length:=by first|lia|(rw[←a2];lia)
     have b4:v.length<=2000:=by
      have h1:=x.1;rw[dq,qB,ia,bo,jq]at h1;have h2:min a (cI ((cM m).take i)).length*c.prs.length<=216*6:=yr (by lia) k6;lia
     have e2:p.length<=4:=by
      have:=(iJ.iff.mp (Gd ep)).1;rw[ia]at this;unfold cM at this;rw[bo]at this;lia
     refine⟨_,U,.inl ⟨U,_,SqL.of L⟩,_,U,_,U,(by show 1<=FL;decide),λX c7=>?_⟩;have Z:=ag c7 (.lst (vN [b]));have f1:upd C X (.lst (vN [b])) X=Jp (.lst (vN [b])):=ab;have ee:upd C X (.lst [V.int (0+(b:Int))])=upd C X (.lst (vN [b])):=by rw[Int.zero_add];rfl
     rw[ee];clear ee;generalize upd C X (.lst (vN [b]))=H5 at Z f1⊢;refine⟨r,X,_,_,U,U,Z _ _ c1,f1,x3 (ay (by rw[cK,cK];simp;lia)),λW R=>?_⟩;rw[oZ];have v2:=ag R (.lst (vN (p++[b])));have f2:upd H5 W (.lst (vN (p++[b]))) W=Jp (.lst (vN (p++[b]))):=ab;have a8:=Z _ _ L;have nk:W≠M:=λz=>by rw[z,a8]at R;cases R
     generalize upd H5 W (.lst (vN (p++[b])))=H6 at v2 f2⊢;have d1:=v2 _ _ a8;refine⟨M,_,_,U,U,d1,oj b4,?_⟩;have b5:PtL (· ≠ M) H6 (v++[.ref W]) (grow ((cI ((cM m).take i)).take a) c.prs.length++((List.range b).map λk=>p++[k])++[p++[b]]):=aC.snoc (x.same (Z.trans v2)) ⟨nk,f2⟩;refine⟨((t4.trans Z).trans v2).upd hM,v++[.ref W],_,ab,?_,U⟩;rw[oz,fR,List.map_singleton,←uU];exact b5.updN (λz=>z U)
    .obtain⟨t4,v,b0,L,x,rfl⟩:=S;refine⟨t4,v,_,_,L,?_,U⟩;rw[uM ep];rw[a2]at x;exact x
   .obtain⟨N,d,I,t,B,O,rfl⟩:=h3;rw[BY,fq]at O;exact⟨N,d,_,_,B,O,U⟩
  rintro d4 u ⟨N,d,e5,b0,B,O,rfl⟩;have el:(cM m)[i]?=Jp c.prs.length:=by unfold cM;rw[eU,ec];rfl
  have a1:=O.1;rw[qB]at a1;refine⟨_,U,sm.trans N,M,d,_,_,_,_,B,?_,?_,U⟩
  .rw[take_snoc el,mi];exact O.any
  .rw[a1,←BY,zt];exact yr a3 k6
 .obtain⟨sm,G,D,c2,c3,I,t,J,l,a3,rfl⟩:=hh;have:(cM m).length=m.length:=by unfold cM;rw[bo]
  rw[b6,←this,fq]at l;exact⟨_,U,q G D o sm J l⟩
theorem DI(F:Fun K "_law_codes" "_law_codes" Y52 f fd) (bl:Bl K mg Y)  : aK P w K mg base CX0 1 f fd ["columns","point","turn"] (gi K Y):=by
 refine F.okA Z52 λa8 A a5 s H vs Q E hr h=>?_
 obtain⟨cl,pl,xs,O,p,tn,rfl,G,C,hok,h4,B,z,q⟩:=h;refine⟨_,(af (au (dM (je U bl.zip_ (aa (pv 0) (aa (pv 1) ae))) (cZ (N:=["column","k","turn"]) (k:=2) (fr:=[2]) (cl:=[("turn",s.heap.objs.size+1)]) U U (by decide+kernel) (by decide+kernel) U U (hZ.mpr ⟨U,iM _⟩) U) U (λ_ _ _ _=>(iW (K:=K) (n:=2) U U (az (ax (i:=0) (show(["column","k","turn"]:List Str).Nodup by decide+kernel) U (Or.inl U) (Or.inr U)) (az (ax (i:=1) (show(["column","k","turn"]:List Str).Nodup by decide+kernel) U (Or.inl U) (Or.inr U)) aY)))) (λ_ _ _ _=>bC) (λ_ _ _ _=>(aI (iz (K:=K) U) (aI (dI (K:=K) U) (aI (dI (K:=K) U) (pv 0) ai (λ_ _=>U)) (pv 1) (λ_ _=>U)) (ar aS (ar bz (pv 1) (pv 2)) ai) (λ_ _=>U)))))),?_⟩;have W:xs.length=O.length:=C.1;have FU:p.length=O.length:=by rw[z.1];unfold cM;rw[bo]
 have mw:min xs.length (vN p).length=O.length:=by rw[cK];lia
 refine⟨_,U,_,U,cl,pl,U,⟨_,SqL.of G⟩,⟨_,SqL.of B⟩,iA (xs:=xs) (ys:=vN p) (λD i ys g=>ao H g/\g D=Jp (.lst ys)/\∃d:List Int,ys=d.map V.int/\d.length=i/\∀(j:Nat)(x:Int)(c:Col)(a:Nat),d[j]?=Jp x->O[j]?=Jp c->p[j]?=Jp a->∃r,c.prs[a]?=Jp r/\(x=r.1\/x=r.2))
  (λD u=>⟨ag u _,ab,[],U,U,(λj x c a e=>by simp at e)⟩) (λD i ys g u _ h=>⟨SqL.of (h.1 _ _ G),SqL.of (h.1 _ _ B)⟩) (λD j x y ys g T u ex a1 h hT ts X=>?_) (λD ys g u h=>?_)⟩
 .obtain⟨s2,S,d,rfl,b,l⟩:=h;obtain⟨t,c,rfl,ec,a4,a6,_,_,g1,g2,g3⟩:=aC.get (C.same s2) ex;obtain⟨a,rfl,ea⟩:=oo a1;obtain⟨J,I,rfl⟩:∃J I,ts=[J,I]:=by
   match ts,X with
   | [J,I],_=>exact⟨J,I,U⟩
  have o:=ag hT (.tup [.ref t,.int (a:Int)]);have eT:upd g T (.tup [.ref t,.int (a:Int)]) T=Jp (.tup [.ref t,.int (a:Int)]):=ab;generalize upd g T (.tup [.ref t,.int (a:Int)])=H3 at o eT⊢;have a7:a<c.prs.length:=z.2 j a _ ea (by unfold cM;rw[eU,ec];rfl);obtain⟨rp,r,e1,e2,e3⟩:=tN g3 (i:=(a:Int)) (by lia) (by rw[g3.length];lia);rw[zK]at e2;obtain⟨x,a2,hx⟩:=BR (p:=r) (m:=(a:Int)+tn);refine⟨T,_,U,SqT.of eT,U,_,_,U,_,_,U,U,⟨[Jp (.ref t),Jp (.int (a:Int))],U,U⟩,?_⟩;have hj:j<min xs.length (vN p).length:=by
   have:=(Gb.mp ex).1;rw[mw,←W];exact this
  have a3:=o _ _ S;refine⟨_,U,t,_,_,_,U,U,SqL.of (o _ _ g1),U,_,U,a4,_,_,_,U,U,SqL.of (o _ _ g2),e1,_,U,_,U,_,_,U,U,_,_,U,U,(by show(0:Int)<2;decide),rp,_,_,_,U,U,SqT.of (o _ _ e3),a2,cQ.mk hj a3 (ay (by rw[bo];lia)) ⟨(s2.trans o).upd u,ab,d++[x],by simp,by simp[b],λR x' c' a' v M L=>?_⟩⟩;by_cases a0:R<d.length
  .rw[eX a0]at v;exact l R x' c' a' v M L
  .have Z:R=d.length:=by have:=(Gb.mp v).1;simp at this;lia
   subst Z;simp at v;subst v;rw[b]at M L;rw[ec]at M;rw[ea]at L;cases M;cases L;exact⟨r,e2,hx⟩
 .obtain⟨s2,S,d,rfl,b,l⟩:=h;rw[mw]at b;exact q D d g s2 S ⟨b,l⟩
theorem DJ(F:Fun K "_law_fit" "_law_fit" Y56 f fd) (bl:Bl K mg Y)  : aK P w K mg base CX0 1 f fd ["bit_row","point"] (gj K Y):=by
 refine F.okA Z56 λa1 A J s H vs Q E hr h=>?_
 obtain⟨r,W,c,p,rfl,⟨I,f1,_,M⟩,l,S,uP,q⟩:=h;refine⟨_,(af (au (av (lX U) U bl.all_ PyProof.Rows.boot_all (aa (dM (je U bl.zip_ (aa (aI bE (pv 0) ai (λ_ _=>U)) (aa (pv 1) ae))) (d9 (N:=["bit","k"]) (k:=2) U U (by decide+kernel) (by decide+kernel) (by decide+kernel)) U (λ_ _ _ _=>(iW (K:=K) (n:=2) U U (az (ax (i:=0) (show(["bit","k"]:List Str).Nodup by decide+kernel) U (Or.inl U) (Or.inr U)) (az (ax (i:=1) (show(["bit","k"]:List Str).Nodup by decide+kernel) U (Or.inl U) (Or.inr U)) aY)))) (λ_ _ _ _=>bC) (λ_ _ _ _=>(dc cc (ar kg (ar oF (pv 0) (pv 1)) ai) ai (aL _)))) ae)))),?_⟩;have v:min (vN c.1).length (vN p).length=p.length:=by rw[cK,cK];lia
 refine⟨_,U,r,_,_,_,U,U,SqT.of f1,U,_,U,I,W,U,⟨_,SqL.of M⟩,⟨_,SqL.of l⟩,iA (xs:=vN c.1) (ys:=vN p) (λD i ys d=>ao H d/\d D=Jp (.lst ys)/\ys=((List.range i).map λj=>(c.1.getD j 0).testBit (p.getD j 0)).map V.bl)
  (λD g=>⟨ag g _,ab,U⟩) (λD i ys d g _ h=>⟨SqL.of (h.1 _ _ M),SqL.of (h.1 _ _ l)⟩) (λD j x y ys d T g ex C h X L B=>?_) (λD ys d g h=>?_)⟩
 .obtain⟨s2,t,rfl⟩:=h;obtain⟨b,rfl,eb⟩:=oo ex;obtain⟨a,rfl,O⟩:=oo C;obtain⟨o,m,rfl⟩:∃o m,L=[o,m]:=by
   match L,B with
   | [o,m],_=>exact⟨o,m,U⟩
  have u:=ag X (.tup [.int (b:Int),.int (a:Int)]);have R:upd d T (.tup [.int (b:Int),.int (a:Int)]) T=Jp (.tup [.int (b:Int),.int (a:Int)]):=ab;generalize upd d T (.tup [.int (b:Int),.int (a:Int)])=H3 at u R⊢;refine⟨T,_,U,SqT.of R,U,_,_,U,_,_,U,U,⟨[Jp (.int (b:Int)),Jp (.int (a:Int))],U,U⟩,?_⟩;have z:j<min (vN c.1).length (vN p).length:=by
   have:=(Gb.mp O).1;rw[v];exact this
  have a0:j<p.length:=by rw[v]at z;exact z
  have G:=u _ _ t;refine⟨_,U,_,U,_,_,U,U,(by show(0:Int)<=(a:Int);lia),_,_,U,U,U,cQ.mk z G (ay (by rw[bo,bo,jq];lia)) ⟨(s2.trans u).upd g,ab,?_⟩⟩;have g1:c.1.getD j 0=b:=by rw[dV,eb];rfl
  have Z:p.getD j 0=a:=by rw[dV,O];rfl
  rw[oz,fR,fR]
  congr 1
  show[V.bl (Jt (V.int (GX.bitAnd ((b:Int) / 2^a) 1)=V.int 1))]=[V.bl ((c.1.getD j 0).testBit (p.getD j 0))];rw[o7,g1,Z]
 .obtain⟨s2,t,rfl⟩:=h;rw[v]at t;refine⟨D,_,U,SqL.of t,?_⟩;have e:(((List.range p.length).map λj=>(c.1.getD j 0).testBit (p.getD j 0)).all id)=cX c.1 p:=by unfold cX;rw[vt];rfl
  rw[e];exact q d s2
theorem DK(F:Fun K "_law_way" "_law_way" Y68 f fd) (bl:Bl K mg Y)  : aK P w K mg base CX0 1 f fd ["turn","out"] (jj K Y):=by
 refine F.okA Z68 λB A n s H C Q E I h=>?_
 obtain⟨b,o,r,rfl,⟨G,D,_,_,v,L,J⟩,q⟩:=h
 refine⟨_,(aE (aF (i:=2) Z68.nd U (Or.inl U) (aI aM (bc (aa aQ (aa aQ (aa aQ (aa aQ (aa aQ (aa aQ ae))))))) (ar aS (pv 0) ai) (λ_ _=>U)))
  (ak (aO (PW.pt (dz (aJ cc (pv 2) aQ (aL _)) (cS (bq (aI aM (pv 1) ai (λ_ _=>U))))))
  (af (aF (i:=2) Z68.nd U (Or.inl U) aQ))
  aG)
  (af (au (pv 2))))),?_⟩
 have u:=zE b (show(6:Int)≠0 by decide);have t:=zz b (show(0:Int)<6 by decide);refine⟨λl x=>ao H x/\∃(a:Str)(i:Nat),six[i]?=Jp a/\l=[Jp (.int b),Jp (.ref o),Jp (.str a)],?_,?_⟩
 .refine⟨(by show 6<=FL;decide),λp m=>?_⟩;obtain⟨a,i,d,hi⟩:∃(a:Str)(i:Nat),atI [V.str s!"first",.str s!"only",.str s!"like",.str s!"low",.str s!"high",.str s!"sum"] (b%6)=Jp (.str a)/\six[i]?=Jp a:=by
   generalize b%6=k at u t⊢;have:k=0\/k=1\/k=2\/k=3\/k=4\/k=5:=by lia
   rcases this with rfl|rfl|rfl|rfl|rfl|rfl
   .exact⟨_,0,U,U⟩
   .exact⟨_,1,U,U⟩
   .exact⟨_,2,U,U⟩
   .exact⟨_,3,U,U⟩
   .exact⟨_,4,U,U⟩
   .exact⟨_,5,U,U⟩
  exact⟨_,U,_,_,U,U,(by show(0:Int)<6;decide),p,_,_,_,U,U,SqL.of ab,d,ag m _,a,i,hi,U⟩
 rintro y j ⟨c,a,i,hi,rfl⟩;refine⟨_,U,U,_,U,?_⟩;by_cases g:a=s!"sum"
 .subst g;refine dN U ?_;refine⟨_,U,o,_,_,_,U,U,SqL.of (c _ _ v),U,_,U,?_⟩;cases d:r.w with
  |true=>exact cD ⟨_,U,q _ 0 j c U λz=>Jx z (by decide)⟩
  |false=>exact aW ⟨_,U,q _ i j c hi λ_=>d⟩
 .exact bB (λe=>by injection e with e;exact g e) (aW ⟨_,U,q _ i j c hi λz=>Jx z g⟩)
theorem DL(F:Fun K "_law_same" "_law_same" Y62 f fd) (bl:Bl K mg Y)  : aK P w K mg base CX0 1 f fd ["found","due"] (gQ K Y):=by
 refine F.okA Z62 λi A c s H j Q E e h=>?_
 obtain⟨r,d,p,rfl,a,g,q⟩:=h
 refine⟨_,(ak (aO (PW.pt (jI (bW (bq (av bP U bl.isinstance_ PyProof.Rows.boot_isinstance (aa (pv 0) (aa (iu (v:=.ty "tuple") U bl.tuple_ PyProof.Rows.boot_tuple U) ae))))) (jI (aJ nB (av aD U bl.len_ Jo (aa (pv 0) ae)) ai (aL _)) (kd (bW (bq (av bP U bl.isinstance_ PyProof.Rows.boot_isinstance (aa (aI bE (pv 0) ai (λ_ _=>U)) (aa (iu (v:=.ty "str") U bl.str_ PyProof.Rows.boot_str U) ae)))))))))
  (af (au dY))
  aG)
  (af (au (fY (av bP U bl.isinstance_ PyProof.Rows.boot_isinstance (aa (aI bE (pv 0) ai (λ_ _=>U)) (aa (iu (v:=.ty "int") U bl.int_ PyProof.Rows.boot_int U) ae))) (fY (u7 (av bP U bl.isinstance_ PyProof.Rows.boot_isinstance (aa (aI bE (pv 0) ai (λ_ _=>U)) (aa (iu (v:=.ty "bool") U bl.bool_ PyProof.Rows.boot_bool U) ae)))) (i6 (dc (zR e) (pv 0) (pv 1) (aL _)))))))),?_⟩
 refine⟨_,U,_,_,_,_,Jr,U,.ty _,.inr ⟨r,_,U,a,U⟩,(by first|rfl|with_unfolding_all rfl|decide+kernel),_,U,aW ?_⟩;refine⟨_,U,r,_,U,.inr (a),U,_,U,pT U ?_⟩;refine⟨_,U,r,_,_,_,U,U,a,U,_,_,_,_,Jr,U,.ty _,.inl (.str _),(by first|rfl|with_unfolding_all rfl|decide+kernel),_,U,aW ?_⟩;refine⟨_,U,r,_,_,_,U,U,a,U,_,_,_,_,Jr,U,.ty _,.inl (.int _),(by first|rfl|with_unfolding_all rfl|decide+kernel),_,U,cD ?_⟩;refine⟨_,U,r,_,_,_,U,U,a,U,_,_,_,_,Js,U,.ty _,.inl (.int _),(by first|rfl|with_unfolding_all rfl|decide+kernel),_,U,Jr,U,cD ?_⟩;refine⟨_,U,_,U,?_⟩;refine uj a g (λx b=>?_) q;rcases dy.mp b with rfl|b
 .rfl
 .rw[show x=.int p.2 by simpa using b];rfl
theorem DM(F:Fun K "_law_three" "_law_three" Y67 f fd) (bl:Bl K mg Y)  : aK P w K mg base CX0 1 f fd ["bit_rows","out"] (gk K Y):=by
 refine F.okA Z67 λc1 A b0 s H vs Q E hr h=>?_
 obtain⟨n,Z,g,ws,cs,oc,B,p1,rfl,M,hz,gE,a4,⟨k,b3,_,_,m,qI,l⟩,a9,R,L,a5,q⟩:=h
 refine⟨_,(aE (aF (i:=2) Z67.nd U (Or.inl U) (bc (aa (aI bE (aI aM (aI aM (pv 1) ai (λ_ _=>U)) ai (λ_ _=>U)) ai (λ_ _=>U)) (aa (aI bE (aI aM (aI aM (pv 1) ai (λ_ _=>U)) ai (λ_ _=>U)) ai (λ_ _=>U)) (aa (aI bE (aI aM (aI aM (pv 1) ai (λ_ _=>U)) ai (λ_ _=>U)) ai (λ_ _=>U)) ae)))))
  (af (au (ar ft (dG (aP (pv 2)) (bX (N:=["code","bit_rows"]) (fr:=[0]) (cl:=[("bit_rows",s.heap.objs.size+1)]) U U (by decide+kernel) (by decide+kernel) U (by decide+kernel) U U U (hZ.mpr ⟨U,iM _⟩) U) U (λ_ _ _ _=>bC) (λ_ _ _ _=>(ba (aa (aI (iz (K:=K) U) (aI (dI (K:=K) U) (pv 1) ai (λ_ _=>U)) ai (λ_ _=>U)) (aa (pv 0) ae))))) (df d8 (pv 0) (d7 ai) d6))))),?_⟩
 have b4:g.length=ws.length:=hz.1;have b6:=l.length;have l1:=(Gb.mp R).1;obtain⟨r0,a2,i0,x0,O⟩:=tN l (i:=0) (by decide) (by lia);obtain⟨r1,a1,i1,x1,a8⟩:=tN l (i:=1) (by decide) (by lia);cases (show Jp a2=Jp B from x0.symm.trans a9);cases (show Jp a1=Jp p1 from x1.symm.trans R);refine⟨λa0 a=>ao H a/\∃cl:E2,a cl=Jp (.lst [.int B.1,.int B.2,.int p1.2])/\a0=[Jp (.ref n),Jp (.ref Z),Jp (.ref cl)],?_,?_⟩
 .exact⟨_,U,Z,_,_,_,U,U,SqL.of m,U,k,_,_,_,U,U,SqL.of qI,i0,r0,_,_,_,U,U,SqT.of O,z0 _ _,_,U,Z,_,_,_,U,U,SqL.of m,U,k,_,_,_,U,U,SqL.of qI,i0,r0,_,_,_,U,U,SqT.of O,z1 _ _,_,U,Z,_,_,_,U,U,SqL.of m,U,k,_,_,_,U,U,SqL.of qI,i1,r1,_,_,_,U,U,SqT.of a8,z1 _ _,(by show 3<=FL;decide),λc hc=>⟨ag hc _,c,ab,U⟩⟩
 rintro b1 H1 ⟨s1,cl,S,rfl⟩;obtain⟨W,ew⟩:∃w,ws[0]?=Jp w:=⟨_,Ga a4⟩;obtain⟨r,f1,b,g1,_,g2⟩:=hz.2 0 _ ew;have J:=L W (Gd ew);refine⟨_,U,cl,U,⟨_,SqL.of S⟩,cn (xs:=[B.1,B.2,p1.2].map V.int) (λD j d a=>ao H1 a/\a D=Jp (.lst d)/\∃r:List BW,BRL (· ≠ D) a d r/\r.length=j/\∀w∈r,cm cs oc w) (λD o=>⟨ag o _,ab,[],aC.nil,U,λw G=>by cases G⟩) (λD j d a o _ I=>SqL.of (I.1 _ _ S)) (λD j y d a o e I=>?_) (λD d a o I=>?_)⟩
 .obtain⟨X,eD,p,C,hl,hb⟩:=I;obtain⟨x,rfl,ex⟩:=of_map e;have hj:j<3:=(Gb.mp ex).1;have v:=s1.trans X;refine⟨_,U,n,_,_,_,U,U,SqL.of (v _ _ M),bN (j:=0) f1,r,_,_,_,U,U,SqT.of (v _ _ g1),U,_,U,br,λt ht=>?_⟩;have u:=ag ht (.tup [.ref b,.int x]);have et:upd a t (.tup [.ref b,.int x]) t=Jp (.tup [.ref b,.int x]):=ab;generalize upd a t (.tup [.ref b,.int x])=H2 at u et⊢;have T:=u _ _ eD;have nb:b≠D:=λz=>by rw[z,s1.free o]at g2;cases g2
  have eA:dO (· ≠ D) H2 t (W.1,x):=⟨b,et,nb,u _ _ (v _ _ g2)⟩;have a3:BRL (· ≠ D) H2 (d++[.ref t]) (p++[(W.1,x)]):=aC.snoc (C.same u) eA;refine cQ.mk hj T (ay (by rw[C.1];lia)) ⟨(X.trans u).upd o,ab,p++[(W.1,x)],a3.updN (λz=>z U) T,by simp[hl],λw G=>?_⟩;rcases iK.mp G with h|h
  .exact hb w h
  .rw[iN.mp h];have:=a5 x (Gd ex);exact⟨J.len,J.lt,this.1,this.2⟩
 obtain⟨X,eD,p,C,hl,hb⟩:=I;have v:=s1.trans X;refine⟨_,U,_,U,n,g,U,SqL.of (v _ _ M),λd1 a7=>?_⟩;rw[show(Jp (3:Int))=Jp ((3:Nat):Int)from U,lg];have t1:=ag a7 (.lst (g.drop 3));have k1:upd a d1 (.lst (g.drop 3)) d1=Jp (.lst (g.drop 3)):=ab;generalize upd a d1 (.lst (g.drop 3))=H2 at t1 k1⊢;have b5:d.length=3:=by rw[C.1,hl];rfl
 refine⟨D,d1,_,_,U,U,t1 _ _ eD,k1,x3 (ay (by rw[kB];lia)),λd2 a6=>?_⟩;have t2:=t1.trans (ag a6 (.lst (d++g.drop 3)));refine q d2 _ (p++ws.drop 3) _ (v.trans t2) ab (aC.app (BRL.same (C.wk λ_ _=>trivial) t2) (BRL.same (aC.drop hz 3) (v.trans t2))) ?_ λw G=>?_
 .have:p.length=3:=hl;rw[dq,kB];lia
 .rcases iK.mp G with h|h
  .exact hb w h
  .exact L w (List.mem_of_mem_drop h)
theorem DN(F:Fun K "__init__" "Way.__init__" Y18 f fd) (bl:Bl K mg Y)  : aK P w K mg base CX0 1 f fd ["self","called"] (cq K Y):=by
 refine F.okA Z18 λd A a s H e Q E g h=>?_
 obtain⟨x,c,z,rfl,b,q⟩:=h;refine⟨_,(af (cx (pv 0) (pv 1) U)),?_⟩;exact⟨_,U,_,U,x,_,c,_,U,b,bl.k_First,bl.na_First_called,(by show 0<1000;decide),q⟩
theorem DO(F:Fun K "__init__" "Way.__init__" Y22 f fd) (bl:Bl K mg Y)  : aK P w K mg base CX0 1 f fd ["self","called"] (cA K Y):=by
 refine F.okA Z22 λd A a s H e Q E g h=>?_
 obtain⟨x,c,z,rfl,b,q⟩:=h;refine⟨_,(af (cx (pv 0) (pv 1) U)),?_⟩;exact⟨_,U,_,U,x,_,c,_,U,b,bl.k_Only,bl.na_Only_called,(by show 0<1000;decide),q⟩
theorem DP(F:Fun K "__init__" "Way.__init__" Y20 f fd) (bl:Bl K mg Y)  : aK P w K mg base CX0 1 f fd ["self","called"] (cB K Y):=by
 refine F.okA Z20 λd A a s H e Q E g h=>?_
 obtain⟨x,c,z,rfl,b,q⟩:=h;refine⟨_,(af (cx (pv 0) (pv 1) U)),?_⟩;exact⟨_,U,_,U,x,_,c,_,U,b,bl.k_Like,bl.na_Like_called,(by show 0<1000;decide),q⟩
theorem DQ(F:Fun K "__init__" "Way.__init__" Y21 f fd) (bl:Bl K mg Y)  : aK P w K mg base CX0 1 f fd ["self","called"] (cO K Y):=by
 refine F.okA Z21 λd A a s H e Q E g h=>?_
 obtain⟨x,c,z,rfl,b,q⟩:=h;refine⟨_,(af (cx (pv 0) (pv 1) U)),?_⟩;exact⟨_,U,_,U,x,_,c,_,U,b,bl.k_Low,bl.na_Low_called,(by show 0<1000;decide),q⟩
theorem DR(F:Fun K "__init__" "Way.__init__" Y19 f fd) (bl:Bl K mg Y)  : aK P w K mg base CX0 1 f fd ["self","called"] (cC K Y):=by
 refine F.okA Z19 λd A a s H e Q E g h=>?_
 obtain⟨x,c,z,rfl,b,q⟩:=h;refine⟨_,(af (cx (pv 0) (pv 1) U)),?_⟩;exact⟨_,U,_,U,x,_,c,_,U,b,bl.k_High,bl.na_High_called,(by show 0<1000;decide),q⟩
theorem DS(F:Fun K "__init__" "Way.__init__" Y23 f fd) (bl:Bl K mg Y)  : aK P w K mg base CX0 1 f fd ["self","called"] (cP K Y):=by
 refine F.okA Z23 λd A a s H e Q E g h=>?_
 obtain⟨x,c,z,rfl,b,q⟩:=h;refine⟨_,(af (cx (pv 0) (pv 1) U)),?_⟩;exact⟨_,U,_,U,x,_,c,_,U,b,bl.k_Sum,bl.na_Sum_called,(by show 0<1000;decide),q⟩
theorem O_0(F:Fun K "__init__" "Domain.__init__" Y0 f fd) (bl:Bl K mg Y)  : aK P w K mg base CX0 1 f fd ["self","low","high"] (bL K Y):=by
 refine F.okA Z0 λd A b s H e Q E g h=>?_
 obtain⟨x,a,lo,hi,rfl,c,q⟩:=h
 refine⟨_,(ak (cx (pv 0) (pv 1) U)
  (af (cx (pv 0) (pv 2) U))),?_⟩
 refine⟨_,U,_,U,x,_,a,_,U,c,bl.k_Numbers,bl.na_Numbers_low,(by show 0<1000;decide),_,U,_,U,x,_,a,_,U,ab,bl.k_Numbers,bl.na_Numbers_high,(by show 1<1000;decide),?_⟩;show Q .non (upd (upd H x (.ins Y.i a [("low",.int lo)])) x (.ins Y.i a (bp "high" (.int hi) [("low",.int lo)])));rw[put2];exact q
theorem O_1(F:Fun K "__init__" "Domain.__init__" Y1 f fd) (bl:Bl K mg Y)  : aK P w K mg base CX0 1 f fd ["self","low","high"] (bY K Y):=by
 refine F.okA Z1 λd A b s H e Q E g h=>?_
 obtain⟨x,a,lo,hi,rfl,c,q⟩:=h
 refine⟨_,(ak (cx (pv 0) (pv 1) U)
  (af (cx (pv 0) (pv 2) U))),?_⟩
 refine⟨_,U,_,U,x,_,a,_,U,c,bl.k_Words,bl.na_Words_low,(by show 0<1000;decide),_,U,_,U,x,_,a,_,U,ab,bl.k_Words,bl.na_Words_high,(by show 1<1000;decide),?_⟩;show Q .non (upd (upd H x (.ins Y.j a [("low",.int lo)])) x (.ins Y.j a (bp "high" (.int hi) [("low",.int lo)])));rw[put2];exact q
theorem O_5(F:Fun K "chosen" "First.chosen" Y5 f fd) (bl:Bl K mg Y)  : aK P w K mg base CX0 1 f fd ["self","codes","outcome"] (J1 K Y):=by
 refine F.ok Z5 (λi H Q E h=>?_) (λr A d s H i Q E u h=>?_)
 .obtain⟨x,c,o,n,e,b,rfl,⟨p,z,j⟩,l,a,g,m,q⟩:=h;rfl
 obtain⟨x,c,o,n,e,b,rfl,⟨p,z,j⟩,l,a,g,m,q⟩:=h;refine⟨_,(af (au (ba (aa aQ (aa (aI aM (pv 1) ai (λ_ _=>U)) ae))))),?_⟩;exact⟨_,U,c,_,_,_,U,U,g,at0 n e,br,λt k=>q t _ (ag k _) (SqT.of ab)⟩
theorem DT(F:Fun K "chosen" "Only.chosen" Y14 f fd) (bl:Bl K mg Y)  : aK P w K mg base CX0 1 f fd ["self","codes","outcome"] (J9 K Y):=by
 refine F.ok Z14 (λl H Q E h=>?_) (λC A k s H l Q E D h=>?_)
 .obtain⟨x,c,o,n,a,b,rfl,⟨B,z,p⟩,u,j,d,y,q⟩:=h;rfl
 obtain⟨x,c,o,n,a,b,rfl,⟨B,z,p⟩,u,j,d,y,q⟩:=h;refine⟨_,(af (au (pM (aJ cc (av aD U bl.len_ Jo (aa (pv 1) ae)) ai (aL _)) (ba (aa aQ (aa (aI aM (pv 1) ai (λ_ _=>U)) ae))) (cg (v:=.ref Y.m) U bl.CLASH_ U)))),?_⟩;refine⟨_,U,c,_,U,.inl (d),U,_,U,?_⟩;refine c9 (λg=>?_) (λg=>?_)
 .have e:wf 1 b.1 b.2 (n :: a)=say n:=by
   have i:=lF g;simp at i;show jX _=_;unfold jX;rw[Jw (by rw[gR];lia)];rfl
  rw[e]at q;exact⟨_,U,c,_,_,_,U,U,d,at0 n a,br,λt r=>q t _ (ag r _) (SqT.of ab)⟩
 .have e:wf 1 b.1 b.2 (n :: a)=kL:=by
   have i:=sQ g;simp at i;show jX _=_;unfold jX;rw[Jv (by rw[gR];lia)]
  rw[e]at q;exact q _ _ (ao.refl _) (bl.q_CLASH.sq _)
theorem O_9(F:Fun K "chosen" "Like.chosen" Y9 f fd) (bl:Bl K mg Y)  : aK P w K mg base CX0 1 f fd ["self","codes","outcome"] (J5 K Y):=by
 refine F.ok Z9 (λy H Q E h=>?_) (λL A p s H y Q E M h=>?_)
 .obtain⟨x,c,o,n,a,b,rfl,⟨J,z,B⟩,D,k,i,G,q⟩:=h;rfl
 obtain⟨x,c,o,n,a,b,rfl,⟨J,z,B⟩,D,k,i,G,q⟩:=h;refine⟨_,(af (au (pM (aJ cc (av mZ U bl.len_ Jo (aa (b8 (mY U) U bl.set_ PyProof.Rows.boot_set (aa (pv 1) ae)) ae)) ai (aL _)) (ba (aa aQ (aa (aI aM (pv 1) ai (λ_ _=>U)) ae))) (cg (v:=.ref Y.m) U bl.CLASH_ U)))),?_⟩;refine⟨_,U,c,_,U,i,(by rw[gR];lia),λl I=>?_⟩;refine⟨l,_,U,ab,(by rw[gR];lia),U,_,U,?_⟩;have d:ao H (upd H l (xv P w l (n :: a))):=ag I _;refine c9 (λg=>?_) (λg=>?_)
 .have u:V.int _=V.int _:=lF g;have j:cntK (n :: a) (n :: a).length=1:=by injection u with u;lia
  have r:=nX.mp j;have e:wf 2 b.1 b.2 (n :: a)=say n:=by
   show jW _=_;unfold jW;rw[Jw (ku.mp r),oi r]
  rw[e]at q;exact⟨_,U,c,_,_,_,U,U,d.seq i,at0 n a,br,λt C=>q t _ (d.trans (ag C _)) (SqT.of ab)⟩
 .have j:¬ cntK (n :: a) (n :: a).length=1:=λz=>(sQ g) (by rw[z];rfl)
  have e:wf 2 b.1 b.2 (n :: a)=kL:=by
   show jW _=_;unfold jW;rw[Jv λz=>j (nX.mpr (ku.mpr z))]
  rw[e]at q;exact q _ _ d (bl.q_CLASH.sq _)
theorem DU(F:Fun K "chosen" "Low.chosen" Y11 f fd) (bl:Bl K mg Y)  : aK P w K mg base CX0 1 f fd ["self","codes","outcome"] (J7 K Y):=by
 refine F.ok Z11 (λg H Q E h=>?_) (λy A d s H g Q E B h=>?_)
 .obtain⟨x,c,o,n,i,b,rfl,⟨v,z,j⟩,l,a,e,p,q⟩:=h;rfl
 obtain⟨x,c,o,n,i,b,rfl,⟨v,z,j⟩,l,a,e,p,q⟩:=h;refine⟨_,(af (au (ba (aa aQ (aa (av (fA U) U bl.min_ PyProof.Rows.boot_min (aa (pv 1) ae)) ae))))),?_⟩;refine⟨_,U,c,_,U,e,ym _,λm u r=>⟨br,λt k=>q t _ (ag k _) (SqT.of ?_)⟩⟩;rw[ab,ma u r];rfl
theorem O_7(F:Fun K "chosen" "High.chosen" Y7 f fd) (bl:Bl K mg Y)  : aK P w K mg base CX0 1 f fd ["self","codes","outcome"] (J3 K Y):=by
 refine F.ok Z7 (λg H Q E h=>?_) (λy A d s H g Q E B h=>?_)
 .obtain⟨x,c,o,n,i,b,rfl,⟨v,z,j⟩,l,a,e,p,q⟩:=h;rfl
 obtain⟨x,c,o,n,i,b,rfl,⟨v,z,j⟩,l,a,e,p,q⟩:=h;refine⟨_,(af (au (ba (aa aQ (aa (av (fB U) U bl.max_ PyProof.Rows.boot_max (aa (pv 1) ae)) ae))))),?_⟩;refine⟨_,U,c,_,U,e,ym _,λm u r=>⟨br,λt k=>q t _ (ag k _) (SqT.of ?_)⟩⟩;rw[ab,md u r];rfl
theorem DV(F:Fun K "chosen" "Sum.chosen" Y16 f fd) (bl:Bl K mg Y)  : aK P w K mg base CX0 1 f fd ["self","codes","outcome"] (J11 K Y):=by
 refine F.ok Z16 (λr H Q E h=>?_) (λG A l s H r Q E I h=>?_)
 .obtain⟨x,c,o,n,a,b,rfl,⟨D,z,u⟩,⟨C,p,B,fs,j,d,g,_⟩,k,m,y,q⟩:=h;rfl
 obtain⟨x,c,o,n,a,b,rfl,⟨D,z,u⟩,⟨C,p,B,fs,j,d,g,_⟩,k,m,y,q⟩:=h;refine⟨_,(af (au (ba (aa aQ (aa (av (nC U) U bl.max_ PyProof.Rows.boot_max (aa (aN (pv 2) U) (aa (av (nE U) U bl.min_ PyProof.Rows.boot_min (aa (aN (pv 2) U) (aa (av (fu U) U bl.sum_ PyProof.Rows.boot_sum (aa (pv 1) ae)) ae))) ae))) ae))))),?_⟩;have i:Cls K C/\NoAttr K C s!"low"/\NoAttr K C s!"high":=by
  rcases p with rfl|rfl
  .exact⟨bl.k_Numbers,bl.na_Numbers_low,bl.na_Numbers_high⟩
  .exact⟨bl.k_Words,bl.na_Words_low,bl.na_Words_high⟩
 refine⟨_,U,o,_,_,_,_,U,j,i.1,i.2.1,d,_,U,o,_,_,_,_,U,j,i.1,i.2.2,g,_,U,c,_,U,m,_,_,U,_,_,U,?_⟩;refine⟨br,λt v=>q t _ (ag v _) (SqT.of ?_)⟩;rw[ab];have e:near b.1 b.2 (n :: a).sum=if (if (n :: a).sum<b.2 then(n :: a).sum else b.2)>b.1 then(if (n :: a).sum<b.2 then(n :: a).sum else b.2)else b.1:=by
  unfold near;generalize (n :: a).sum=t;split <;> split <;> split <;> first|rfl|lia|(split <;> lia)
 show _=Jp (HO.tup (tp (say (near b.1 b.2 (n :: a).sum))));rw[e];rfl
theorem DW(F:Fun K "is_word" "is_word" Y44 f fd) (bl:Bl K mg Y)(g:Callee P w K mg base 1 "all_among" ["text","signs"] (gd K Y)):aK P w K mg base CX0 2 f fd ["text"] (gm K Y):=by
 refine F.okA Z44 λk A d s H l Q E j h=>?_
 obtain⟨z,rfl,i,q⟩:=h;refine⟨_,(af (au (fY (lB fc fc ai (av oK U bl.len_ Jo (aa (pv 0) ae)) (nN U bl.MOST_SIGNS_)) (fY (dc nB (pv 0) aQ (aL _)) (i6 (aH g j U (aa (pv 0) (aa (nN U bl.SMALL_LETTERS_) ae)))))))),?_⟩;refine⟨_,U,_,U,big i,_,_,U,U,_,U,?_⟩;refine c9 (λc=>?_) (λc=>?_)
 .refine⟨_,_,U,U,_,U,?_⟩;refine c9 (λb=>?_) (λb=>?_)
  .refine⟨_,U,U,_,U,?_⟩;refine c9 (λa=>?_) (λa=>?_)
   .refine⟨_,U,z,lets,U,?_⟩;have e:isw z=lL z lets:=by unfold isw;rw[c,b,a];rfl
    rw[e]at q;exact q
   .have e:isw z=false:=by unfold isw;rw[Bp.mpr a,Bool.false_and,Bool.and_false,Bool.and_false]
    rw[e]at q;exact q
  .have e:isw z=false:=by unfold isw;rw[Bp.mpr b,Bool.false_and,Bool.and_false]
   rw[e]at q;exact q
 .have e:isw z=false:=by unfold isw;rw[Bp.mpr c,Bool.false_and]
  rw[e]at q;exact⟨_,U,aW q⟩
theorem DX(F:Fun K "cut_columns" "cut_columns" Y37 f fd) (bl:Bl K mg Y)(qK:Callee P w K mg base 1 "stretches" ["low","high","marks"] (gf K Y)):aK P w K mg base CX0 2 f fd ["bounds","marks"] (dk K Y):=by
 refine F.okA Z37 λc4 A b3 s H vs Q E hr h=>?_
 obtain⟨a,b,ys,ps,as,R,rfl,ha,hP,hb,hM,hok,q⟩:=h;refine⟨_,(af (au (dM (je U bl.zip_ (aa (pv 0) (aa (pv 1) ae))) (d9 (N:=["bound","cuts"]) (k:=2) U U (by decide+kernel) (by decide+kernel) (by decide+kernel)) U (λ_ _ _ _=>(iW (K:=K) (n:=2) U U (az (ax (i:=0) (show(["bound","cuts"]:List Str).Nodup by decide+kernel) U (Or.inl U) (Or.inr U)) (az (ax (i:=1) (show(["bound","cuts"]:List Str).Nodup by decide+kernel) U (Or.inl U) (Or.inr U)) aY)))) (λ_ _ _ _=>bC) (λ_ _ _ _=>(aH qK hr U (aa (aI (iz (K:=K) U) (pv 0) ai (λ_ _=>U)) (aa (aI (iz (K:=K) U) (pv 0) ai (λ_ _=>U)) (aa (pv 1) ae)))))))),?_⟩;obtain⟨b5,b4,a1⟩:=hok;have b6:=hP.length;have c3:=hM.1
 refine⟨_,U,_,U,a,b,U,⟨_,SqL.of ha⟩,⟨_,SqL.of hb⟩,iA (xs:=ys) (ys:=as.map V.ref) (λD i C B=>ao H B/\B D=Jp (.lst C)/\∃d:List (List Int),d.length=i/\(∀(j:Nat)(p:Int×Int)(v l:List Int),ps[j]?=Jp p->R[j]?=Jp v->d[j]?=Jp l->l.Pairwise (· < ·)/\(∀c,c∈l↔(c∈v/\p.1<c/\c<=p.2))/\l.length<64)/\aC C (List.zipWith (λp l=>cb p.1 p.2 l) (ps.take i) d) (λr c=>r≠D/\∃g,B r=Jp (.lst g)/\PL B g c))
  (λD O=>⟨ag O _,ab,[],U,(λj p v l _ _ e=>by simp at e),aC.nil⟩) (λD i C B O _ h=>⟨SqL.of (h.1 _ _ ha),SqL.of (h.1 _ _ hb)⟩) (λD i x y C B T O ex ey h hT g a5=>?_) (λD C B O h=>?_)⟩
 .obtain⟨sm,eD,d,o,J,M⟩:=h;obtain⟨p,t,ep,rfl,ht⟩:=hP.get ex;obtain⟨r,rfl,er⟩:=vZ ey;have hi:i<as.length:=(Gb.mp er).1;obtain⟨v,em⟩:∃v,R[i]?=Jp v:=⟨_,Ga (by lia)⟩;obtain⟨r',W,hr⟩:=hM.2 i v em;rw[er]at W;cases W;have s2:=sm.trans (ag hT (.tup [.ref t,.ref r]));have eT:upd B T (.tup [.ref t,.ref r]) T=Jp (.tup [.ref t,.ref r]):=ab;have Z:=ag hT (.tup [.ref t,.ref r]);have L:=Z _ _ eD;generalize upd B T (.tup [.ref t,.ref r])=H2 at s2 eT L Z⊢;obtain⟨t0,t1,rfl⟩:∃t0 t1,g=[t0,t1]:=by
   match g,a5 with
   | [t0,t1],_=>exact⟨t0,t1,U⟩
  refine⟨T,_,U,SqT.of eT,U,_,_,U,_,_,U,U,⟨[Jp (.ref t),Jp (.ref r)],U,U⟩,?_⟩;have c1:=a1 v (Gd em);refine⟨_,U,t,_,_,_,U,U,SqT.of (s2 _ _ ht),U,_,U,t,_,_,_,U,U,SqT.of (s2 _ _ ht),U,_,U,r,v,v,p.1,p.2,U,SqL.of (s2 _ _ hr),by lia,by lia,λm hm _ _=>hm,λr2 H3 l a0 s3 S b0 a7 a6 l7 a9=>?_⟩;have X:=s3 _ _ L;have c2:C.length=i:=by rw[M.1,lz,ia];lia
  have mw:i<min ys.length (as.map V.ref).length:=by rw[bo];lia
  have a2:r2≠D:=λz=>by rw[z,L]at S;cases S
  refine cQ.mk mw X (ay (by lia)) ⟨(s2.trans s3).upd O,ab,d++[l],by rw[dq,o];rfl,λj p' a3 b1 G I u=>?_,?_⟩
  .by_cases hj:j<d.length
   .rw[eX hj]at u;exact J j p' a3 b1 G I u
   .have a8:j=d.length:=by
     have:=(Gb.mp u).1;simp at this;lia
    subst a8;simp at u;subst u;rw[o]at G I;rw[ep]at G;cases G;rw[em]at I;cases I;exact⟨a6,l7,a9⟩
  .rw[take_snoc ep,List.zipWith_append (by rw[ia];lia)];have a4:aC (C++[.ref r2]) (List.zipWith (λp l=>cb p.1 p.2 l) (ps.take i) d++[cb p.1 p.2 l]) (λr c=>r≠D/\∃g,H3 r=Jp (.lst g)/\PL H3 g c) :=
    aC.snoc (aC.mono M λx c k=>⟨k.1,let ⟨g,e1,e2⟩:=k.2;⟨g,s3 _ _ (Z _ _ e1),PL.mono e2 (Z.trans s3).tups⟩⟩) ⟨a2,a0,b0,a7⟩
   have st:cy H3 (upd H3 D (.lst (C++[.ref r2]))):=bj X;exact aC.mono a4 λx c k=>⟨k.1,let ⟨g,e1,e2⟩:=k.2;⟨g,(aw k.1).trans e1,PL.mono e2 st⟩⟩
 .obtain⟨sm,eD,d,o,J,M⟩:=h;have e:min ys.length (as.map V.ref).length=ps.length:=by rw[bo];lia
  rw[e]at o;rw[e,fq]at M;exact q D C B d sm eD o J (aC.mono M λx c k=>k.2)
theorem DY(F:Fun K "fits" "fits" Y39 f fd) (bl:Bl K mg Y)(X:Callee P w K mg base 1 "holds" ["spans","number"] (mm K Y)):aK P w K mg base CX0 2 f fd ["table","k","codes"] (pe K Y):=by
 refine F.okA Z39 λa1 A G s H vs Q E hr h=>?_
 obtain⟨t,Z,c,dx,fs,xs,a0,k,b,g,rfl,ht,hf,hl,hR,ek,J,W,q⟩:=h
 refine⟨_,(ak (aF (i:=3) Z39.nd U (Or.inl U) (aI bE (aI aM (aN (pv 0) U) (pv 1) (λ_ _=>U)) ai (λ_ _=>U)))
  (ak (bg GO.never U (je U bl.zip_ (aa (pv 3) (aa (pv 2) ae))) (cJ U (az (ax (i:=4) Z39.nd U (Or.inl U)) (az (ax (i:=5) Z39.nd U (Or.inl U)) aY)))
  (af (aO (bW (bq (aH X hr U (aa (pv 4) (aa (pv 5) ae)))))
  (af (au dY))
  aG)))
  (af (au dY)))),?_⟩
 obtain⟨r,er,S,cv,e1,_,R,m⟩:=hR.2 k b ek;refine⟨_,U,t,_,_,_,_,U,ht,bl.k_Table,bl.na_Table_rows,hf,_,U,Z,_,_,_,U,U,SqL.of hl,bN er,r,_,_,_,U,U,SqT.of e1,U,?_⟩;refine⟨_,U,_,U,S,c,U,⟨_,SqL.of R⟩,⟨_,J⟩,oR (xs:=cv) (ys:=g.map V.int) (λi o a=>ao H a/\(∀j,j<i->inP (b.1.getD j []) (g.getD j 0)=Jr)/\∃B z:Option V,o=[Jp (.ref t),Jp (.int k),Jp (.ref c),Jp (.ref S),B,z]) ⟨ao.refl _,(λj h=>Jx h (yp j)),_,_,U⟩ (λi o a h=>⟨SqL.of (h.1 _ _ R),h.1.seq J⟩) (λi x y o a T ex ey h hT=>?_) (λo a h=>?_)⟩
 .obtain⟨p,v,B,z,rfl⟩:=h;have s2:=p.trans (ag hT (.tup [x,y]));have O:upd a T (.tup [x,y]) T=Jp (.tup [x,y]):=ab;generalize upd a T (.tup [x,y])=H2 at s2 O⊢;obtain⟨l,u,rfl,ep,C⟩:=aC.get m ex;obtain⟨_,ys,el,hp⟩:=C.same s2;obtain⟨n,rfl,N⟩:=of_map ey;refine⟨T,_,U,SqT.of O,U,_,_,U,_,_,U,U,?_⟩;refine⟨_,U,_,U,l,ys,u,n,U,SqL.of el,hp,_,U,?_⟩;have M:b.1.getD i []=u:=by rw[dV,ep];rfl
  have L:g.getD i 0=n:=by rw[dV,N];rfl
  cases hin:inP u n with
  |true =>
   refine aW ⟨s2,λj I=>?_,_,_,U⟩;by_cases D:j<i
   .exact v j D
   .have:j=i:=by lia
    subst this;rw[M,L];exact hin
  |false =>
   refine cD ?_;have e:jh b.1 g=false:=by
    unfold jh;rw[List.all_eq_false];refine⟨i,hV.mpr (Gb.mp N).1,?_⟩;rw[M,L,hin];decide
   have d:=q H2 s2;rw[e]at d;exact d
 .obtain⟨p,v,B,z,rfl⟩:=h;have e:jh b.1 g=true:=by
   unfold jh;rw[iv];intro j I;refine v j ?_;have h1:=m.1;rw[bo];have:=hV.mp I;lia
  have d:=q a p;rw[e]at d;exact d
theorem DZ(F:Fun K "column_marks" "column_marks" Y36 f fd) (bl:Bl K mg Y)(sj:Callee P w K mg base 1 "gathered" ["lists"] (gP K Y)) (yc:Callee P w K mg base 1 "edges" ["spans","low","high"] (mn K Y)):aK P w K mg base CX0 2 f fd ["table","column"] (dR K Y):=by
 refine F.okA Z36 λb3 A a6 s H vs Q E hr h=>?_
 obtain⟨t,c,dv,bs,rws,b,L,rfl,⟨rl,dx,dl,fs,xs,ht,f1,f2,a3,T,B,hR⟩,eb,a9,eA,hL,X,q⟩:=h
 refine⟨_,(ak (aF (i:=2) Z36.nd U (Or.inr U) (aI aM (aN (pv 0) U) (pv 1) (λ_ _=>U)))
  (af (au (aH sj hr U (aa (dM (aP (aN (pv 0) U)) (cZ (N:=["cells","code","column","domain"]) (k:=2) (fr:=[1,2]) (cl:=[("domain",s.heap.objs.size+1+1),("column",s.heap.objs.size+1)]) U U (by decide+kernel) (by decide+kernel) U U (hZ.mpr ⟨U,hZ.mpr ⟨U,iM _⟩⟩) U) U (λ_ _ _ _=>(iW (K:=K) (n:=2) U U (az (ax (i:=0) (show(["cells","code","column","domain"]:List Str).Nodup by decide+kernel) U (Or.inl U) (Or.inr U)) (az (ax (i:=1) (show(["cells","code","column","domain"]:List Str).Nodup by decide+kernel) U (Or.inl U) (Or.inr U)) aY)))) (λ_ _ _ _=>bC) (λ_ _ _ _=>(aH yc hr U (aa (aI (dI (K:=K) U) (pv 0) (pv 2) (λ_ _=>U)) (aa (jO (K:=K) U (pv 3) U) (aa (jO (K:=K) U (pv 3) U) ae)))))) ae))))),?_⟩
 obtain⟨da,a4,C,hC,b1,b0,ha,g1,g2,_⟩:=T.2 c b eb;have J:Cls K C/\NoAttr K C s!"low"/\NoAttr K C s!"high":=by
  rcases hC with rfl|rfl
  .exact⟨bl.k_Numbers,bl.na_Numbers_low,bl.na_Numbers_high⟩
  .exact⟨bl.k_Words,bl.na_Words_low,bl.na_Words_high⟩
 have S:xs.length=rws.length:=hR.1;refine⟨_,U,t,_,_,_,_,U,ht,bl.k_Table,bl.na_Table_domains,f2,_,U,dl,_,_,_,U,U,SqL.of a3,bN a4,?_⟩;refine⟨_,U,t,_,_,_,_,U,ht,bl.k_Table,bl.na_Table_rows,f1,rl,U,⟨_,SqL.of B⟩,eK (xs:=xs) (λD i m d=>ao H d/\d D=Jp (.lst m)/\∃j:List E2,m=j.map V.ref/\MLs (hide d D) j ((rws.take i).map (rmk c b))) (λD p=>⟨ag p _,ab,[],U,MLs.nil⟩) (λD i m d p _ h=>SqL.of (h.1 _ _ B)) (λD i y m d p e h ts R=>?_) (λD m d p h=>?_)⟩
 .obtain⟨a,M,j,rfl,o⟩:=h;obtain⟨r,x,rfl,ex,ce,cs,k1,_,k2,k3⟩:=aC.get hR e;have hi:i<xs.length:=(Gb.mp e).1;obtain⟨v,h6⟩:=eA x (Gd ex);obtain⟨I,G,rfl⟩:∃I G,ts=[I,G]:=by
   match ts,R with
   | [I,G],_=>exact⟨I,G,U⟩
  refine⟨r,_,U,SqT.of (a _ _ k1),U,_,_,U,_,_,U,U,⟨[Jp (.ref ce),Jp (.int x.2)],U,U⟩,?_⟩;obtain⟨ol,a1,_,yo,Z,g⟩:=k3.2 c _ (Ga v);have hA:x.1[c]=x.1.getD c []:=by rw[dV,Ga v];rfl
  rw[hA]at g;have a7:=g.length;refine⟨_,U,_,U,ce,_,_,_,U,U,SqL.of (a _ _ k2),bN a1,_,U,da,_,_,_,_,U,a _ _ ha,J.1,J.2.1,g1,_,U,da,_,_,_,_,U,a _ _ ha,J.1,J.2.2,g2,?_⟩;refine⟨ol,yo,_,b.1,b.2,U,SqL.of (a _ _ Z),g.mono a.tups,by lia,λr3 H3 es O u a0 a2=>?_⟩;have a5:=O _ _ M;have nD:r3≠D:=λz=>by rw[z,M]at u;cases u
  have W:=o.1;rw[bo,ia]at W;refine cQ.mk hi a5 (ay (by rw[bo];lia)) ⟨(a.trans O).upd p,ab,j++[r3],by rw[fR];rfl,?_⟩;rw[jZ,take_snoc ex,fR];exact MLs.snoc (o.same (iD O)) (bG (by rw[a0,a2];rfl) nD)
 .obtain⟨a,M,j,rfl,o⟩:=h;rw[S,fq]at o;have a8:=qA c b (rws:=rws) λw hw=>(eA w hw).2
  refine⟨D,j,_,L,U,M,o.same (dH d D),by lia,hL,λx hx=>X x (tI.mp hx),λl cs H2 s2 nl el pw hm=>q l cs H2 (a.trans s2) (a.free nl) el pw λx=>(hm x).trans tI⟩
theorem D1(F:Fun K "_law_seeds" "_law_seeds" Y63 f fd) (bl:Bl K mg Y)(bI:Callee P w K mg base 1 "_law_mixed" ["cell","k"] (cF K Y)):aK P w K mg base CX0 2 f fd ["cells","most"] (gn K Y):=by
 refine F.okA Z63 λa3 A R s H vs Q E Z h=>?_
 obtain⟨a,S,m,rfl,hS,FV,a1,a0,q⟩:=h
 refine⟨_,(ak (aF (i:=2) Z63.nd U (Or.inl U) (bc ae))
  (ak (bg GO.never U (jS U bl.enumerate_ (aa (pv 0) ae)) (cJ U (az (ax (i:=3) Z63.nd U (Or.inl U)) (az (ax (i:=4) Z63.nd U (Or.inl U)) aY)))
  (af (aO (aJ lA (pv 3) (pv 1) (aL _))
  (af (aX (fK PySem.F.plainAttrs_list PySem.F.slot_list_append PySem.F.type_list_append bK (pv 2) (aa (aH bI Z U (aa (pv 4) (aa (ar aS (pv 3) ai) ae))) ae))))
  (ak (aF (i:=5) Z63.nd U (Or.inl U) (ar aS (pv 3) (pv 1)))
  (af (oC (aH bI Z U (aa (ar bz (aI aM (pv 2) (pv 5) (λ_ _=>U)) (ar aS (pv 4) (ar i7 ai ai))) (aa (ar aS (pv 3) ai) ae))) (oB (pv 2) (pv 5) set_list)))))))
  (af (au (pv 2))))),?_⟩
 refine⟨(by show 0<=FL;decide),λl I=>?_⟩;have D:ao H (upd H l (.lst ([].map V.int))):=ag I _;have e0:upd H l (.lst ([].map V.int)) l=Jp (.lst ([].map V.int)):=ab;have ee:upd H l (.lst [])=upd H l (.lst ([].map V.int)):=rfl;rw[ee];clear ee;generalize upd H l (.lst ([].map V.int))=H0 at D e0⊢;refine⟨_,U,a,U,⟨_,D.seq hS⟩,jT (xs:=S.map V.int) (λi B e=>ao H e/\∃(b:List Int)(N M L:Option V),e l=Jp (.lst (b.map V.int))/\b.length<=i/\((b.length:Nat):Int)<=m/\((i:Int) ≥ m->((b.length:Nat):Int)=m)/\((i:Int)<m->b.length=i)/\(∀x∈b,0<=x)/\B=[Jp (.ref a),Jp (.int m),Jp (.ref l),N,M,L]) ⟨D,[],_,_,_,e0,wN _,by show((0:Nat):Int)<=m;lia,(λh=>by lia),(λh=>U),(λx h=>by cases h),U⟩ (λi B e p=>p.1.seq hS) (λi y B e T ey p hT=>?_) (λB e p=>?_)⟩
 .obtain⟨C,b,N,M,L,J,o,v,u,t,j,rfl⟩:=p;obtain⟨c,rfl,_⟩:=of_map ey;have a2:i<S.length:=by have:=(Gb.mp ey).1;rw[bo]at this;exact this
  have s2:=C.trans (ag hT (.tup [.int (i:Int),.int c]));have eT:upd e T (.tup [.int (i:Int),.int c]) T=Jp (.tup [.int (i:Int),.int c]):=ab;have d:upd e T (.tup [.int (i:Int),.int c]) l=Jp (.lst (b.map V.int)):=bO J hT;generalize upd e T (.tup [.int (i:Int),.int c])=H2 at s2 eT d⊢;have W:=zE (i:Int) (show(50:Int)≠0 by decide);have k1:=zz (i:Int) (show(0:Int)<50 by decide);refine⟨T,_,U,SqT.of eT,U,_,_,U,_,_,U,U,?_⟩;refine⟨_,U,_,U,_,_,U,U,_,U,?_⟩;refine c9 (λg=>?_) (λg=>?_)
  .have g:(i:Int)<m:=JA g;have O:=t g;refine⟨_,U,.inl ⟨U,_,SqL.of d⟩,_,U,_,U,_,_,U,U,(by show(0:Int)<50;decide),c,_,U,W,by lia,λr k=>?_⟩;refine⟨l,_,_,U,U,d,ay (by rw[bo];lia),s2.upd I,b++[r],_,_,_,by rw[ab,fR];rfl,by simp;lia,by simp;lia,(λh=>by simp;lia),(λh=>by simp;lia),(λx G=>(iK.mp G).elim (j x) λz=>by rw[show x=r by simpa using z];exact k),U⟩
  .have g:m<=(i:Int):=by have:¬ ((i:Int)<m):=λz=>g (Jy z);lia
   have O:=u g;have n:(0:Int)<m:=by lia
   have X:=zE (i:Int) (Int.ne_of_gt n);have j1:=zz (i:Int) n;obtain⟨x,ex⟩:∃x,b[((i:Int)%m).toNat]?=Jp x:=⟨_,Ga (by lia)⟩;have ix:atI (b.map V.int) ((i:Int)%m)=Jp (.int x):=by
    have:=bN (get_map ex);rw[zU X]at this;exact this
   refine⟨_,U,_,U,_,_,U,U,n,?_⟩;refine⟨_,U,_,U,l,_,_,_,U,U,SqL.of d,ix,_,U,_,_,U,U,⟨by decide,by decide,by decide⟩,_,_,U,U,p10 _,_,_,U,U,_,U,_,_,U,U,(by show(0:Int)<50;decide),_,_,U,W,by lia,λr k=>?_⟩;refine⟨_,U,_,U,l,_,_,((i:Int)%m).toNat,U,U,d,?_,?_⟩
   .unfold ixN;rw[Jw X,Jw (by rw[bo];lia)]
   .refine⟨s2.upd I,b.set ((i:Int)%m).toNat r,_,_,_,by rw[ab,List.map_set],by simp;lia,by simp;lia,(λh=>by simp;lia),(λh=>by lia),(λx G=>(List.mem_or_eq_of_mem_set G).elim (j x) λz=>by rw[z];exact k),U⟩
 .obtain⟨C,b,N,M,L,J,o,v,u,t,j,rfl⟩:=p;rw[bo]at o;exact⟨_,U,q l b e C J v o j⟩
theorem D3(F:Fun K "_law_column" "_law_column" Y53 f fd) (bl:Bl K mg Y)(bI:Callee P w K mg base 1 "_law_mixed" ["cell","k"] (cF K Y)):aK P w K mg base CX0 2 f fd ["m","most"] (fD K Y):=by
 refine F.okA Z53 λd0 A a7 s H vs Q E hr h=>?_
 obtain⟨m,b,rfl,c7,c4,q⟩:=h
 refine⟨_,(aE (aF (i:=2) Z53.nd U (Or.inl U) (dc cc (ar aS (pv 0) ai) ai (aL _)))
  (aE (aF (i:=3) Z53.nd U (Or.inl U) (ar dC (ar aS (ar bu (pv 0) ai) (ar ly ai (ar i7 ai ai))) (ar i7 ai ai)))
  (aE (aO (aJ cc (ar aS (pv 0) ai) ai (aL _))
  (af (aF (i:=3) Z53.nd U (Or.inl U) (ar dC ai (ar aS (ar bu (pv 0) ai) ai))))
  aG)
  (aE (aO (bq (pv 2))
  (af (aF (i:=3) Z53.nd U (Or.inl U) ai))
  aG)
  (aE (aF (i:=4) Z53.nd U (Or.inl U) (bc ae))
  (ak (bg GO.never U (dA U bl.range_ (aa (ar bz ai (ar aS (ar bu (pv 0) ai) (pv 1))) ae)) (ax (i:=5) Z53.nd U (Or.inl U))
  (aE (aF (i:=0) Z53.nd U (Or.inl U) (aH bI hr U (aa (pv 0) (aa (ar bz ai (pv 5)) ae))))
  (aE (aF (i:=6) Z53.nd U (Or.inl U) (aI aM (bc (aa ai (aa ai (aa (ar bz ai (ar aS (ar bu (pv 0) ai) ai)) (aa (ar bz ai (ar aS (ar bu (pv 0) ai) (ar i7 ai ai))) ae))))) (ar aS (pv 0) ai) (λ_ _=>U)))
  (aE (aO (bq (pv 2))
  (af (aF (i:=6) Z53.nd U (Or.inl U) (ar bz ai (ar aS (pv 0) ai))))
  aG)
  (ak (aX (fK PySem.F.plainAttrs_list PySem.F.slot_list_append PySem.F.type_list_append bK (pv 4) (aa (ba (aa (pv 3) (aa (ar dC (ar bz (pv 3) (pv 6)) ai) ae))) ae)))
  (af (aF (i:=3) Z53.nd U (Or.inl U) (ar bz (pv 3) (pv 6)))))))))
  (af (au (bc (aa (pv 4) (aa (pv 2) (aa (ar bu (pv 0) ai) ae)))))))))))),?_⟩
 have D:(0:Int)<b:=by lia
 refine⟨λd o=>o=H/\∃w:Bool,d=[Jp (.int m),Jp (.int b),Jp (.bl w),Jq,Jq,Jq,Jq],⟨_,U,_,_,U,U,(by show(0:Int)<3;decide),U,U,_,U⟩,?_⟩;rintro c1 H1 ⟨rfl,u,rfl⟩;have D4:(0:Int)<2*10^(59:Int).toNat:=by have:=p10 (59:Int).toNat;lia
 refine⟨λd o=>o=H1/\∃a:Int,d=[Jp (.int m),Jp (.int b),Jp (.bl u),Jp (.int a),Jq,Jq,Jq],⟨_,U,_,_,U,U,⟨by decide,by decide⟩,_,_,U,U,⟨by decide,by decide,by decide⟩,_,_,U,U,.inl ⟨by decide,by decide⟩,_,_,U,U,D4,_,_,U,U,⟨by decide,by decide,by decide⟩,_,_,U,U,U,_,U⟩,?_⟩;rintro b6 H2 ⟨rfl,a1,rfl⟩;refine⟨λd o=>o=H2/\∃a:Int,d=[Jp (.int m),Jp (.int b),Jp (.bl u),Jp (.int a),Jq,Jq,Jq],⟨_,U,_,_,U,U,(by show(0:Int)<3;decide),U,_,U,c9 (λ_=>⟨_,U,_,_,U,U,⟨by decide,by decide⟩,_,_,U,U,(by show(0:Int)<5;decide),_,_,U,U,U,_,U⟩) (λ_=>⟨U,_,U⟩)⟩,?_⟩;rintro b5 H3 ⟨rfl,a2,rfl⟩;refine⟨λd o=>o=H3/\∃a:Int,(u=Jr->a=0)/\d=[Jp (.int m),Jp (.int b),Jp (.bl u),Jp (.int a),Jq,Jq,Jq],⟨_,U,_,U,?_⟩,?_⟩
 .cases u with
  |true=>exact cD ⟨U,0,(λ_=>U),U⟩
  |false=>exact aW ⟨U,a2,(λh=>by cases h),U⟩
 rintro b4 H4 ⟨rfl,a0,O,rfl⟩;refine⟨λd o=>ao H4 o/\∃x:E2,H4 x=Jq/\o x=Jp (.lst [])/\d=[Jp (.int m),Jp (.int b),Jp (.bl u),Jp (.int a0),Jp (.ref x),Jq,Jq],⟨(by show 0<=FL;decide),λl C=>⟨ag C _,l,C,ab,U⟩⟩,?_⟩;rintro b3 H5 ⟨s5,x,L,a6,rfl⟩;have n0:=zE (m / 3) (Int.ne_of_gt D);have n1:=zz (m / 3) D;refine⟨_,U,_,_,U,U,⟨by decide,by decide⟩,_,U,_,_,U,U,D,_,_,U,U,_,U,(by show -(2^62)<=1+m / 3%b;lia),(by show 1+m / 3%b<2^62;lia),nA (λi σ o=>ao H4 o/\∃(X c:Int)(c5 c6:Option V)(z:List V)(g:Prs),o x=Jp (.lst z)/\PL o z g/\g.length=i/\Ch g/\(∀p,g[g.length-1]?=Jp p->c=p.2+1)/\(u=Jr->(∀p,g[0]?=Jp p->p.1=0)/\(i=0->c=0)/\c<=3*(i:Int)/\∀(j:Nat)(p:Int×Int),g[j]?=Jp p->p.2<3*(i:Int))/\σ=[Jp (.int X),Jp (.int b),Jp (.bl u),Jp (.int c),Jp (.ref x),c5,c6]) ⟨s5,m,a0,_,_,[],[],a6,.nil,U,Ch.nil,(λp e=>by simp at e),(λB=>⟨(λp e=>by simp at e),(λ_=>O B),(by rw[O B];decide),(λj p e=>by simp at e)⟩),U⟩ (λi σ o hi h=>?_) (λσ o h=>?_)⟩
 .obtain⟨W,X,c,c5,c6,z,g,es,Z,y,G,tT,B,rfl⟩:=h;have c8:i<6:=by lia
  refine⟨λd H6=>H6=o/\∃n:Int,d=[Jp (.int n),Jp (.int b),Jp (.bl u),Jp (.int c),Jp (.ref x),Jp (.int (0+(i:Int))),c6],⟨_,U,_,U,_,_,U,U,_,_,U,(by show(0:Int)<=10+(0+(i:Int));lia),(by show(10:Int)+(0+(i:Int))<=100;lia),λr _=>⟨U,r,U⟩⟩,?_⟩;rintro b0 H6 ⟨rfl,n,rfl⟩;refine⟨λd H7=>ao H6 H7/\∃J:Int,1<=J/\d=[Jp (.int n),Jp (.int b),Jp (.bl u),Jp (.int c),Jp (.ref x),Jp (.int (0+(i:Int))),Jp (.int J)],?_,?_⟩
  .refine⟨_,U,_,_,U,U,⟨by decide,by decide⟩,_,_,U,U,(by show(0:Int)<9;decide),_,_,U,U,_,U,_,_,U,U,⟨by decide,by decide⟩,_,_,U,U,⟨by decide,by decide,by decide⟩,_,_,U,U,p10 _,_,_,U,U,(by show 4<=FL;decide),λp a5=>?_⟩;have h0:=zE n (show(4:Int)≠0 by decide);have h1:=zz n (show(0:Int)<4 by decide);have b1:=zE (n / 4) (show(9:Int)≠0 by decide);have b2:=zE (n / 4) (Int.ne_of_gt (p10 (58:Int).toNat));obtain⟨v,hv,N⟩:∃v:Int,atI [V.int 1,.int 2,.int (1+n / 4%9),.int (1+n / 4%10^(58:Int).toNat)] (n%4)=Jp (.int v)/\1<=v:=by
    generalize n%4=k at h0 h1⊢;generalize n / 4%9=T at b1⊢;generalize n / 4%10^(58:Int).toNat=x2 at b2⊢;have:k=0\/k=1\/k=2\/k=3:=by lia
    rcases this with rfl|rfl|rfl|rfl
    .exact⟨_,U,by decide⟩
    .exact⟨_,U,by decide⟩
    .exact⟨_,U,by lia⟩
    .exact⟨_,U,by lia⟩
   exact⟨_,U,_,_,U,U,(by show(0:Int)<4;decide),p,_,_,_,U,U,SqL.of ab,hv,ag a5 _,v,N,U⟩
  rintro a9 H7 ⟨s7,v7,a3,rfl⟩;refine⟨λd I=>I=H7/\∃v:Int,1<=v/\(u=Jr->v<=3)/\d=[Jp (.int n),Jp (.int b),Jp (.bl u),Jp (.int c),Jp (.ref x),Jp (.int (0+(i:Int))),Jp (.int v)],⟨_,U,_,U,?_⟩,?_⟩
  .have h0:=zE n (show(3:Int)≠0 by decide);have h1:=zz n (show(0:Int)<3 by decide);cases u with
   |true=>exact cD ⟨_,U,_,_,U,U,(by show(0:Int)<3;decide),_,_,U,U,U,_,by lia,λ_=>by lia,U⟩
   |false=>exact aW ⟨U,v7,a3,(λh=>by cases h),U⟩
  rintro a8 I ⟨rfl,v,N,a4,rfl⟩;have R:=s7 _ _ es;refine⟨_,U,.inl ⟨U,_,SqL.of R⟩,_,U,_,U,_,U,_,_,U,U,_,_,U,U,br,λt ht=>?_⟩;have T:upd I t (.tup [.int c,.int (c+v-1)]) x=Jp (.lst z):=bO R ht;have c2:z.length=i:=by rw[Z.length,y]
  refine⟨x,_,_,U,U,T,ay (by lia),?_⟩;have st:cy I (upd (upd I t (.tup [.int c,.int (c+v-1)])) x (.lst (z++[.ref t]))):=(iw ht).trans (bj T);have S:∀(j:Nat)(p:Int×Int),(g++[(c,c+v-1)])[j]?=Jp p->g[j]?=Jp p/\j<g.length\/p=(c,c+v-1)/\j=g.length:=λj p e=>by
   by_cases hj:j<g.length
   .rw[eX hj]at e;exact .inl ⟨e,hj⟩
   .have:j=g.length:=by have:=(Gb.mp e).1;simp at this;lia
    subst this;simp at e;exact .inr ⟨e.symm,U⟩
  refine⟨_,U,_,U,_,_,U,U,((W.trans s7).trans (ag ht _)).upd L,n,_,_,_,z++[.ref t],g++[(c,c+v-1)],ab,((Z.mono s7.tups).mono st).snoc (bj T _ _ ab),by simp[y],G.snoc (by lia) tT,?_,λM=>?_,U⟩
  .intro p e;rw[dq,hQ,Nat.add_sub_cancel]at e;simp at e;subst e;show c+v=c+v-1+1;lia
  .obtain⟨w1,w2,w3,w4⟩:=B M;have v3:=a4 M;refine⟨λp e=>?_,λh=>by lia,by lia,λj p e=>?_⟩
   .rcases S 0 p e with⟨e,_⟩|⟨rfl,hz⟩
    .exact w1 p e
    .exact w2 (by lia)
   .rcases S j p e with⟨e,_⟩|⟨rfl,hz⟩
    .have:=w4 j p e;lia
    .show c+v-1<_;lia
 .obtain⟨W,X,c,c5,c6,z,g,es,Z,y,G,tT,B,rfl⟩:=h;have c3:1<=(1+m / 3%b).toNat/\(1+m / 3%b).toNat<=6:=by lia
  refine⟨_,U,_,U,_,U,_,_,U,U,⟨by decide,by decide⟩,(by show 3<=FL;decide),λl C=>q l ⟨g,u,X / 8⟩ _ (W.trans (ag C _)) ⟨x,z,W.free C,L,ab,bO es C,Z.mono (ag C _).tups⟩ ⟨by show 1<=g.length;lia,by show g.length<=6;lia,G,λh=>(B h).1,λh j p e=>?_⟩ (by show((g.length:Nat):Int)<=b;lia)⟩;have:=(B h).2.2.2 j p e;lia
theorem D5(F:Fun K "_law_bit_row" "_law_bit_row" Y49 f fd) (bl:Bl K mg Y)(bI:Callee P w K mg base 1 "_law_mixed" ["cell","k"] (cF K Y)):aK P w K mg base CX0 2 f fd ["m","columns","out","last"] (eP K Y):=by
 refine F.okA Z49 λi1 A g9 s H vs Q E hr h=>?_
 obtain⟨m,z,v,o,xs,S,Z,rfl,a6,d0,hok,h1,h4,⟨a9,e6,_,_,d3,qI,b5⟩,a2,f4,a4,q⟩:=h
 refine⟨_,(aE (aF (i:=4) Z49.nd U (Or.inl U) (bc ae))
  (ak (aF (i:=5) Z49.nd U (Or.inl U) (pv 0))
  (aE (bg GO.never U (jS U bl.enumerate_ (aa (pv 1) ae)) (cJ U (az (ax (i:=6) Z49.nd U (Or.inl U)) (az (ax (i:=7) Z49.nd U (Or.inl U)) aY)))
  (aE (aF (i:=0) Z49.nd U (Or.inl U) (aH bI hr U (aa (pv 0) (aa (ar bz ai (pv 6)) ae))))
  (aE (aF (i:=8) Z49.nd U (Or.inl U) (ar dC (ar oE ai (av aD U bl.len_ Jo (aa (aI aM (pv 7) ai (λ_ _=>U)) ae))) ai))
  (af (aX (fK PySem.F.plainAttrs_list PySem.F.slot_list_append PySem.F.type_list_append bK (pv 4) (aa (aI aM (bc (aa (ar aS (ar bu (pv 0) ai) (ar bz (pv 8) ai)) (aa (ar aS (ar bu (pv 0) ai) (ar bz (pv 8) ai)) (aa (pv 8) (aa (ar aS (ar bu (pv 0) ai) (pv 8)) ae))))) (ar aS (pv 0) ai) (λ_ _=>U)) ae)))))))
  (aE (aF (i:=9) Z49.nd U (Or.inl U) (aI bE (aI aM (aI aM (pv 2) ai (λ_ _=>U)) (ar aS (ar bu (pv 0) ai) (av aD U bl.len_ Jo (aa (aI aM (pv 2) ai (λ_ _=>U)) ae))) (λ_ _=>U)) (ar aS (ar bu (pv 0) ai) ai) (λ_ _=>U)))
  (aE (aO (PW.pt (dz (aJ iT (av aD U bl.len_ Jo (aa (pv 3) ae)) ai (aL _)) (cS (aJ cc (ar aS (pv 5) ai) ai (aL _)))))
  (aE (aF (i:=10) Z49.nd U (Or.inl U) (ar aS (ar bu (pv 5) ai) (av aD U bl.len_ Jo (aa (pv 1) ae))))
  (ak (aF (i:=4) Z49.nd U (Or.inl U) (ar ft (ar ft (df d8 (aI bE (pv 3) ai (λ_ _=>U)) d6 (d7 (pv 10))) (bc (aa (aI aM (pv 4) (pv 10) (λ_ _=>U)) ae))) (df d8 (aI bE (pv 3) ai (λ_ _=>U)) (d7 (ar bz (pv 10) ai)) d6)))
  (af (aO (aJ iT (ar aS (ar bu (pv 5) ai) ai) ai (aL _))
  (af (aF (i:=9) Z49.nd U (Or.inl U) (aI bE (pv 3) ai (λ_ _=>U))))
  aG))))
  aG)
  (af (au (ba (aa (pv 4) (aa (pv 9) ae)))))))))),?_⟩
 have e8:xs.length=S.length:=d0.1;refine⟨λa g=>ao H g/\∃bl:E2,H bl=Jq/\g bl=Jp (.lst (vN []))/\a=[Jp (.int m),Jp (.ref z),Jp (.ref v),Jp (.ref o),Jp (.ref bl),Jq,Jq,Jq,Jq,Jq,Jq],⟨(by show 0<=FL;decide),λl hl=>⟨ag hl _,l,hl,ab,U⟩⟩,?_⟩;rintro h6 H1 ⟨s1,bl,b1,g8,rfl⟩;refine⟨_,U,λa g=>ao H g/\∃(m2:Int)(bs:List Nat)(I G C:Option V),0<=m2/\g bl=Jp (.lst (vN bs))/\bs.length=S.length/\(∀(j b:Nat)(c:Col),bs[j]?=Jp b->S[j]?=Jp c->b<2^c.prs.length)/\a=[Jp (.int m2),Jp (.ref z),Jp (.ref v),Jp (.ref o),Jp (.ref bl),Jp (.int m),I,G,C,Jq,Jq],?_,?_⟩
 .refine⟨_,U,z,U,⟨_,SqL.of (s1 _ _ a6)⟩,jT (xs:=xs) (λi σ g=>ao H g/\∃(m2:Int)(bs:List Nat)(I G C:Option V),0<=m2/\g bl=Jp (.lst (vN bs))/\bs.length=i/\(∀(j b:Nat)(c:Col),bs[j]?=Jp b->S[j]?=Jp c->b<2^c.prs.length)/\σ=[Jp (.int m2),Jp (.ref z),Jp (.ref v),Jp (.ref o),Jp (.ref bl),Jp (.int m),I,G,C,Jq,Jq]) ⟨s1,m,[],_,_,_,f4,g8,U,(λj b c e=>by simp at e),U⟩ (λi σ g hh=>SqL.of (hh.1 _ _ a6)) (λi y σ g T ey hh hT=>?_) (λσ g hh=>by rw[e8]at hh;exact hh)⟩;obtain⟨sm,m2,bs,I,G,C,h8,eb,t,N,rfl⟩:=hh;obtain⟨l,c,rfl,ec,pl,ts,_,_,el,g7,hp⟩:=aC.get d0 ey;have hi:i<xs.length:=(Gb.mp ey).1;have ok:=hok c (Gd ec);have k1:=ok.some_;have k6:=ok.few;have s2:=sm.trans (ag hT (.tup [.int (i:Int),.ref l]));have eT:upd g T (.tup [.int (i:Int),.ref l]) T=Jp (.tup [.int (i:Int),.ref l]):=ab;have a8:upd g T (.tup [.int (i:Int),.ref l]) bl=Jp (.lst (vN bs)):=bO eb hT;generalize upd g T (.tup [.int (i:Int),.ref l])=H2 at s2 eT a8⊢;refine⟨T,_,U,SqT.of eT,U,_,_,U,_,_,U,U,?_⟩;refine⟨λa H3=>H3=H2/\∃m3:Int,0<=m3/\a=[Jp (.int m3),Jp (.ref z),Jp (.ref v),Jp (.ref o),Jp (.ref bl),Jp (.int m),Jp (.int (i:Int)),Jp (.ref l),C,Jq,Jq],⟨_,U,_,U,_,_,U,U,_,_,U,(by show(0:Int)<=20+(i:Int);lia),(by show(20:Int)+(i:Int)<=100;lia),λr f3=>⟨U,r,f3,U⟩⟩,?_⟩;rintro h5 H3 ⟨rfl,m3,b6,rfl⟩;have f0:=hp.length;refine⟨λa H4=>H4=H3/\a=[Jp (.int m3),Jp (.ref z),Jp (.ref v),Jp (.ref o),Jp (.ref bl),Jp (.int m),Jp (.int (i:Int)),Jp (.ref l),Jp (.int (((2^c.prs.length:Nat):Int)-1)),Jq,Jq],?_,?_⟩
  .refine⟨_,U,l,_,_,_,U,U,SqL.of (s2 _ _ el),U,pl,_,U,.inl (SqL.of (s2 _ _ g7)),_,_,U,U,⟨by lia,by lia,by decide⟩,_,_,U,U,U,?_⟩;rw[f0,zK];simp
  rintro h3 H4 ⟨rfl,rfl⟩;have he:(0:Int)<((2^c.prs.length:Nat):Int)-1:=by
   have:=Nat.pow_le_pow_right (show 0<2 by decide) k1;rw[Nat.pow_one]at this;generalize 2^c.prs.length=W at this⊢;lia
  have e9:0<=m3 / 8:=Int.ediv_nonneg b6 (by decide);obtain⟨b,hb,g6⟩:=four he e9 (m:=m3);refine⟨_,U,.inl ⟨U,_,SqL.of a8⟩,_,U,_,_,U,U,⟨by decide,by decide⟩,_,U,_,_,U,U,_,_,U,U,(by lia),_,U,_,_,U,U,⟨by decide,by decide⟩,_,U,_,_,U,U,_,_,U,U,(by lia),_,U,_,U,_,_,U,U,⟨by decide,by decide⟩,_,U,_,_,U,U,he,(by show 4<=FL;decide),λp b4=>?_⟩;refine⟨_,U,_,_,U,U,(by show(0:Int)<4;decide),p,_,_,_,U,U,SqL.of ab,hb,bl,_,_,U,U,bO a8 b4,ay (by rw[cK];lia),?_⟩;refine⟨(s2.trans (ag b4 _)).upd b1,m3,bs++[b],_,_,_,b6,by rw[ab,←oZ];rfl,by simp[t],λj b' c' J B=>?_,U⟩;by_cases hj:j<bs.length
  .rw[eX hj]at J;exact N j b' c' J B
  .have f5:j=bs.length:=by have:=(Gb.mp J).1;simp at this;lia
   subst f5;simp at J;subst J;rw[t,ec]at B;cases B;generalize 2^c.prs.length=W at g6⊢;lia
 rintro h2 H5 ⟨u,R,bs,I,G,C,h7,eb,t,N,rfl⟩;have FW:=b5.length;have o1:=a2.some_;have AI:(0:Int)<((e6.length:Nat):Int):=by lia
 refine⟨λa g=>g=H5/\∃X:Int,Z.lo<=X/\X<=Z.hi/\a=[Jp (.int R),Jp (.ref z),Jp (.ref v),Jp (.ref o),Jp (.ref bl),Jp (.int m),I,G,C,Jp (.int X),Jq],?_,?_⟩
 .obtain⟨rp,p,J,B,e3⟩:=tN b5 (zE (R / 9) (Int.ne_of_gt AI)) (zz (R / 9) AI);obtain⟨x,ex,hx⟩:=BR (p:=p) (m:=R / 7);have i0:=a2.inn B;have h9:=a2.ch.le _ _ B;refine⟨_,U,v,_,_,_,U,U,SqL.of (u _ _ d3),U,_,U,_,_,U,U,⟨by decide,by decide⟩,_,U,v,_,_,_,U,U,SqL.of (u _ _ d3),U,a9,_,U,.inl (SqL.of (u _ _ qI)),_,_,U,U,AI,a9,_,_,_,U,U,SqL.of (u _ _ qI),J,_,U,_,_,U,U,⟨by decide,by decide⟩,_,_,U,U,(by show(0:Int)<2;decide),rp,_,_,_,U,U,SqT.of (u _ _ e3),ex,U,x,?_,?_,U⟩
  .rcases hx with rfl|rfl <;> lia
  .rcases hx with rfl|rfl <;> lia
 rintro h0 H6 ⟨rfl,X,e0,d5,rfl⟩;refine⟨λa g=>ao H g/\∃(n:E2)(w:BW)(O:Option V),H n=Jq/\g n=Jp (.lst (vN w.1))/\cm S Z w/\a=[Jp (.int R),Jp (.ref z),Jp (.ref v),Jp (.ref o),Jp (.ref n),Jp (.int m),I,G,C,Jp (.int w.2),O],?_,?_⟩
 .have D:ao H H6/\∃(n:E2)(w:BW)(O:Option V),H n=Jq/\H6 n=Jp (.lst (vN w.1))/\cm S Z w/\([Jp (.int R),Jp (.ref z),Jp (.ref v),Jp (.ref o),Jp (.ref bl),Jp (.int m),I,G,C,Jp (.int X),Jq]:St)=[Jp (.int R),Jp (.ref z),Jp (.ref v),Jp (.ref o),Jp (.ref n),Jp (.int m),I,G,C,Jp (.int w.2),O]:=⟨u,bl,(bs,X),Jq,b1,eb,⟨t,N,e0,d5⟩,U⟩;rcases a4 with a4|⟨d,⟨e4,f1,_,f2⟩,M⟩
  .exact⟨_,U,o,_,U,.inl (SqL.of (u _ _ a4)),_,_,U,U,_,U,bB (by simp) (aW D)⟩
  .have a7:=u _ _ f1;have d2:=u _ _ f2;refine⟨_,U,o,_,U,.inr (SqT.of a7),_,_,U,U,_,U,dN (by simp) ?_⟩;refine⟨_,U,_,_,U,U,(by show(0:Int)<2;decide),U,_,U,c9 (λ_=>?_) (λ_=>D)⟩;have a3:(0:Int)<((xs.length:Nat):Int):=by lia
   have a0:=zE (m / 2) (Int.ne_of_gt a3);have a1:=zz (m / 2) a3;refine⟨λa g=>g=H6/\∃k:Nat,k<S.length/\a=[Jp (.int R),Jp (.ref z),Jp (.ref v),Jp (.ref o),Jp (.ref bl),Jp (.int m),I,G,C,Jp (.int X),Jp (.int (k:Int))],⟨_,U,_,_,U,U,⟨by decide,by decide⟩,_,U,z,_,U,.inl (SqL.of (u _ _ a6)),_,_,U,U,a3,U,(m / 2%((xs.length:Nat):Int)).toNat,by lia,by rw[zU a0];rfl⟩,?_⟩;rintro e5 H7 ⟨rfl,k,hk,rfl⟩;obtain⟨b,d4⟩:∃b,bs[k]?=Jp b:=⟨_,Ga (by lia)⟩;refine⟨_,U,o,_,_,_,U,U,SqT.of a7,U,_,U,_,U,e4,_,U,SqL.of d2,λc1 g0=>?_⟩;rw[o8,xS];have t1:=ag g0 (.lst (vN (d.1.take k)));have g1:upd H7 c1 (.lst (vN (d.1.take k))) c1=Jp (.lst (vN (d.1.take k))):=ab;generalize upd H7 c1 (.lst (vN (d.1.take k)))=H8 at t1 g1⊢;refine⟨_,U,_,U,bl,_,_,_,U,U,SqL.of (t1 _ _ eb),bN (BQ d4),(by show 1<=FL;decide),λc2 f9=>?_⟩;have t2:=ag f9 (.lst (vN [b]));have g2:upd H8 c2 (.lst (vN [b])) c2=Jp (.lst (vN [b])):=ab;have ee:upd H8 c2 (.lst [V.int (b:Int)])=upd H8 c2 (.lst (vN [b])):=rfl;rw[ee];clear ee;generalize upd H8 c2 (.lst (vN [b]))=H9 at t2 g2⊢;have lw:=M.len;refine⟨c1,c2,_,_,U,U,t2 _ _ g1,g2,x3 (ay (by rw[cK,cK,ia];simp;lia)),λc3 f8=>?_⟩;rw[oZ];have t3:=ag f8 (.lst (vN (d.1.take k++[b])));have g3:upd H9 c3 (.lst (vN (d.1.take k++[b]))) c3=Jp (.lst (vN (d.1.take k++[b]))):=ab;generalize upd H9 c3 (.lst (vN (d.1.take k++[b])))=H10 at t3 g3⊢;have L:=(t1.trans t2).trans t3;refine⟨_,U,o,_,_,_,U,U,SqT.of (L _ _ a7),U,_,U,_,_,U,U,_,U,e4,_,U,SqL.of (L _ _ d2),λc4 f6=>?_⟩;rw[show((k:Int)+1)=((k+1:Nat):Int) by lia,lg,xT];have t4:=ag f6 (.lst (vN (d.1.drop (k+1))));have g4:upd H10 c4 (.lst (vN (d.1.drop (k+1)))) c4=Jp (.lst (vN (d.1.drop (k+1)))):=ab;generalize upd H10 c4 (.lst (vN (d.1.drop (k+1))))=H11 at t4 g4⊢;refine⟨c3,c4,_,_,U,U,t4 _ _ g3,g4,x3 (ay (by rw[cK,cK,dq,ia,kB];simp;lia)),λc5 d1=>?_⟩;rw[oZ,Az (by lia)];have t5:=ag d1 (.lst (vN (d.1.set k b)));have g5:upd H11 c5 (.lst (vN (d.1.set k b))) c5=Jp (.lst (vN (d.1.set k b))):=ab;have n5:H c5=none:=((u.trans L).trans t4).free d1;generalize upd H11 c5 (.lst (vN (d.1.set k b)))=H12 at t5 g5⊢;have sA:=((u.trans L).trans t4).trans t5;have b0:∀x:Int,Z.lo<=x->x<=Z.hi->cm S Z (d.1.set k b,x):=λx x0 x1=>⟨by rw[vl];exact lw,λj b' c' J B=>by
    have e3:(d.1.set k b)[j]?=Jp b':=J;rw[List.getElem?_set]at e3;by_cases a5:k=j
    .rw[Jw a5,Jw (by lia)]at e3;cases e3;subst a5;exact N _ _ _ d4 B
    .rw[Jv a5]at e3;exact M.lt j b' c' e3 B,x0,x1⟩
   refine⟨_,U,_,_,U,U,⟨by decide,by decide⟩,_,_,U,U,(by show(0:Int)<4;decide),_,_,U,U,_,U,c9 (λ_=>?_) (λ_=>?_)⟩
   .exact⟨_,U,o,_,_,_,U,U,SqT.of (sA _ _ f1),U,sA,c5,(d.1.set k b,d.2),_,n5,g5,b0 _ M.lo M.hi,U⟩
   .exact⟨sA,c5,(d.1.set k b,X),_,n5,g5,b0 _ e0 d5,U⟩
 rintro e5 H7 ⟨s7,n,w_,O,n2,B,e7,rfl⟩;exact⟨_,U,_,U,br,λr b3=>q r w_ _ (s7.trans (ag b3 _)) ⟨n,ab,n2,bO B b3⟩ e7⟩
theorem D6(F:Fun K "_law_rows" "_law_rows" Y61 f fd) (bl:Bl K mg Y)(pf:Callee P w K mg base 1 "_law_spans" ["pairs","bits"] (gh K Y)):aK P w K mg base CX0 2 f fd ["bit_rows","columns"] (fj K Y):=by
 refine F.okA Z61 λc7 A c6 s H vs Q E hr h=>?_
 obtain⟨l0,cl,a7,xs,a0,cs,rfl,a2,a1,gE,a4,a3,hok,h4,b5,q⟩:=h
 refine⟨_,(ak (aF (i:=2) Z61.nd U (Or.inl U) (bc ae))
  (ak (bg GO.never U (aP (pv 0)) (cJ U (az (ax (i:=3) Z61.nd U (Or.inl U)) (az (ax (i:=4) Z61.nd U (Or.inl U)) aY)))
  (af (aX (fK PySem.F.plainAttrs_list PySem.F.slot_list_append PySem.F.type_list_append bK (pv 2) (aa (ba (aa (dM (je U bl.zip_ (aa (pv 1) (aa (pv 3) ae))) (d9 (N:=["column","bit"]) (k:=2) U U (by decide+kernel) (by decide+kernel) (by decide+kernel)) U (λ_ _ _ _=>(iW (K:=K) (n:=2) U U (az (ax (i:=0) (show(["column","bit"]:List Str).Nodup by decide+kernel) U (Or.inl U) (Or.inr U)) (az (ax (i:=1) (show(["column","bit"]:List Str).Nodup by decide+kernel) U (Or.inl U) (Or.inr U)) aY)))) (λ_ _ _ _=>bC) (λ_ _ _ _=>(aH pf hr U (aa (aI (dI (K:=K) U) (pv 0) ai (λ_ _=>U)) (aa (pv 1) ae))))) (aa (pv 4) ae))) ae)))))
  (af (au (pv 2))))),?_⟩
 have b3:xs.length=cs.length:=a3.1;refine⟨(by show 0<=FL;decide),λl hl=>?_⟩;have s0:ao H (upd H l (.lst [])):=ag hl _;have e0:upd H l (.lst []) l=Jp (.lst []):=ab;generalize upd H l (.lst [])=H0 at s0 e0⊢;refine⟨_,U,l0,U,⟨_,SqL.of (s0 _ _ a2)⟩,bw (xs:=a7) (λi σ v=>ao H v/\∃(S:List V)(m:List Rw)(c3 c4:Option V),v l=Jp (.lst S)/\RL (Fr H l) v S m/\cw cs (a0.take i) m/\σ=[Jp (.ref l0),Jp (.ref cl),Jp (.ref l),c3,c4]) ⟨s0,[],[],_,_,e0,aC.nil,cw.nil,U⟩ (λi σ v _ h=>SqL.of (h.1 _ _ a2)) (λi y σ v ey X=>?_) (λσ v X=>?_)⟩
 .obtain⟨G,S,m,c3,c4,Z,hz,B,rfl⟩:=X;obtain⟨r,o,rfl,ew,c5,f1,_,f2⟩:=aC.get (a1.same G) ey;have hi:i<a0.length:=(Gb.mp ew).1;have lw:=b5 o (Gd ew);have mw:min xs.length (vN o.1).length=cs.length:=by rw[cK];lia
  refine⟨r,_,U,SqT.of f1,U,_,_,U,_,_,U,U,?_⟩
  refine⟨_,U,.inl ⟨U,_,SqL.of Z⟩,_,U,_,U,cl,c5,U,⟨_,SqL.of (G _ _ a4)⟩,⟨_,SqL.of f2⟩,iA (xs:=xs) (ys:=vN o.1) (λD i ys C=>ao v C/\C D=Jp (.lst ys)/\∃d:List Prs,CL (Fr v D) C ys d/\d.length=i/\∀(j:Nat)(u:Prs)(c:Col)(b:Nat),d[j]?=Jp u->cs[j]?=Jp c->o.1[j]?=Jp b->eB c.prs b c.prs.length u/\u=mrg c.prs b c.prs.length)
   (λD M=>⟨ag M _,ab,[],aC.nil,U,(λj u c b e=>by simp at e)⟩) (λD i ys C M _ h=>⟨SqL.of (h.1 _ _ (G _ _ a4)),SqL.of (h.1 _ _ f2)⟩) (λD j x y ys C T M ex c2 h hT ts b4=>?_) (λD ys C M h=>?_)⟩
  .obtain⟨s2,eD,d,hy,g,L⟩:=h;obtain⟨W,c,rfl,ec,pl,a8,_,_,g1,g2,g3⟩:=aC.get ((a3.same G).same s2) ex;obtain⟨b,rfl,eb⟩:=oo c2;have ok:=hok c (Gd ec);obtain⟨t0,t1,rfl⟩:∃t0 t1,ts=[t0,t1]:=by
    match ts,b4 with
    | [t0,t1],_=>exact⟨t0,t1,U⟩
   have I:=ag hT (.tup [.ref W,.int (b:Int)]);have eT:upd C T (.tup [.ref W,.int (b:Int)]) T=Jp (.tup [.ref W,.int (b:Int)]):=ab;generalize upd C T (.tup [.ref W,.int (b:Int)])=H3 at I eT⊢;refine⟨T,_,U,SqT.of eT,U,_,_,U,_,_,U,U,⟨[Jp (.ref W),Jp (.int (b:Int))],U,U⟩,?_⟩;refine⟨_,U,W,_,_,_,U,U,SqL.of (I _ _ g1),U,_,U,pl,a8,c.prs,b,U,I _ _ g2,g3.mono I.tups,ok.ch,ok.few,λl2 u H4 s4 BZ B1 B2=>?_⟩;have hj:j<min xs.length (vN o.1).length:=by
    have:=(Gb.mp ex).1;rw[mw,←b3];exact this
   have a6:=s4 _ _ (I _ _ eD);have n4:H3 l2=none:=BZ.1;have nD:l2≠D:=λz=>by rw[z,I _ _ eD]at n4;cases n4
   have n2:v l2=none:=s2.free (I.free n4);have D7:CL (Fr v D) H4 (ys++[.ref l2]) (d++[u]):=aC.snoc (hy.same (I.trans s4)) ⟨⟨n2,nD⟩,BZ.2⟩;refine cQ.mk hj a6 (ay (by rw[hy.1];lia)) ⟨((s2.trans I).trans s4).upd M,ab,d++[u],D7.updN Fr.out a6,by simp[g],λj' a9 c' b' J R O=>?_⟩;by_cases c1:j'<d.length
   .rw[eX c1]at J;exact L j' a9 c' b' J R O
   .have b6:j'=d.length:=by have:=(Gb.mp J).1;simp at this;lia
    subst b6;simp at J;subst J;rw[g]at R O;rw[ec]at R;rw[eb]at O;cases R;cases O;exact⟨B1,B2⟩
  .obtain⟨s2,eD,d,hy,g,L⟩:=h;rw[mw]at g;have b0:D≠l:=λz=>by rw[z,Z]at M;cases M
   refine⟨_,U,br,λt ht=>?_⟩;have t4:=ag ht (.tup [.ref D,.int o.2]);have a5:=t4 _ _ (s2 _ _ Z);have eA:fN (Fr H l) (upd C t (.tup [.ref D,.int o.2])) t (d,o.2):=⟨D,ys,ab,⟨G.free M,b0⟩,t4 _ _ eD,(hy.same t4).wk λa ha=>⟨G.free ha.1,λz=>by have X:=ha.1;rw[z,Z]at X;cases X⟩⟩;refine⟨l,_,_,U,U,a5,ay (by rw[hz.1,B.1,ia];lia),?_⟩;have b1:RL (Fr H l) (upd C t (.tup [.ref D,.int o.2])) (S++[.ref t]) (m++[(d,o.2)]):=aC.snoc (hz.same (s2.trans t4)) eA;refine⟨((G.trans s2).trans t4).upd hl,S++[.ref t],m++[(d,o.2)],_,_,ab,b1.updN Fr.out a5,?_,U⟩;rw[take_snoc ew];exact B.snoc ⟨U,g,λj u c b J R O=>(L j u c b J R O).1,λj u c b J R O=>(L j u c b J R O).2⟩
 .obtain⟨G,S,m,c3,c4,Z,hz,B,rfl⟩:=X;rw[a1.1,fq]at B;exact⟨_,U,q l S m v G Z (aC.mono hz λ_ _ p=>p.wk λa h=>h.1) B⟩
theorem D8(F:Fun K "_law_due" "_law_due" Y55 f fd) (bl:Bl K mg Y)(jm:Callee P w K mg base 1 "_law_fit" ["bit_row","point"] (gj K Y)):aK P w K mg base CX0 2 f fd ["way","bit_rows","out","point"] (gq K Y):=by
 refine F.okA Z55 λc5 A b4 s H vs Q E hr h=>?_
 obtain⟨wy,i,X,ol,pl,zs,v,o,p,rfl,b,T,hz,gE,⟨S,C,_,_,b3,qI,a4⟩,G,a3,a1,uP,q⟩:=h
 refine⟨_,(aE (jM (i:=4) Z55.nd U (Or.inl U) (aP (pv 1)) (bX (N:=["row","point"]) (fr:=[3]) (cl:=[("point",s.heap.objs.size+1)]) U U (by decide+kernel) (by decide+kernel) U (by decide+kernel) U U U (hZ.mpr ⟨U,iM _⟩) U) U (λ_ _ _ _=>(jL (bq (aH jm hr U (aa (pv 0) (aa (pv 1) ae)))))) (λ_ _ _ _=>(aI (iz (K:=K) U) (pv 0) ai (λ_ _=>U))))
  (ak (aO (aJ cc (av aD U bl.len_ Jo (aa (pv 4) ae)) ai (aL _))
  (af (au (ba (aa aQ (aa ai ae)))))
  aG)
  (ak (aO (PW.pt (jI (PW.pt (dz (aJ cc (pv 0) aQ (aL _)) (cS (aJ iT (av aD U bl.len_ Jo (aa (pv 4) ae)) ai (aL _))))) (kd (PW.pt (dz (aJ cc (pv 0) aQ (aL _)) (cS (aJ nB (av (fA U) U bl.min_ PyProof.Rows.boot_min (aa (pv 4) ae)) (av (fB U) U bl.max_ PyProof.Rows.boot_max (aa (pv 4) ae)) (aL _))))))))
  (af (au (ba (aa aQ (aa ai ae)))))
  aG)
  (ak (aO (aJ cc (pv 0) aQ (aL _))
  (af (au (ba (aa aQ (aa (av (fA U) U bl.min_ PyProof.Rows.boot_min (aa (pv 4) ae)) ae)))))
  aG)
  (ak (aO (aJ cc (pv 0) aQ (aL _))
  (af (au (ba (aa aQ (aa (av (fB U) U bl.max_ PyProof.Rows.boot_max (aa (pv 4) ae)) ae)))))
  aG)
  (ak (aO (aJ cc (pv 0) aQ (aL _))
  (af (au (ba (aa aQ (aa (av (nC U) U bl.max_ PyProof.Rows.boot_max (aa (aI bE (aI aM (aI aM (pv 2) ai (λ_ _=>U)) ai (λ_ _=>U)) ai (λ_ _=>U)) (aa (av (nE U) U bl.min_ PyProof.Rows.boot_min (aa (aI bE (aI aM (aI aM (pv 2) ai (λ_ _=>U)) (jJ gF ai) (λ_ _=>U)) ai (λ_ _=>U)) (aa (av (fu U) U bl.sum_ PyProof.Rows.boot_sum (aa (pv 4) ae)) ae))) ae))) ae)))))
  aG)
  (af (au (ba (aa aQ (aa (aI aM (pv 4) ai (λ_ _=>U)) ae))))))))))),?_⟩
 refine⟨λa0 l=>ao H l/\∃cl:E2,l cl=Jp (.lst ((pc v p).map V.int))/\a0=[Jp (.str wy),Jp (.ref X),Jp (.ref ol),Jp (.ref pl),Jp (.ref cl)],?_,?_⟩
 .refine⟨_,U,X,U,⟨_,SqL.of T⟩,cn (xs:=zs) (λD i J l=>ao H l/\l D=Jp (.lst J)/\J=(pc (v.take i) p).map V.int) (λD O=>⟨ag O _,ab,U⟩) (λD i J l O _ h=>SqL.of (h.1 _ _ T)) (λD k y J l O e h=>?_) (λD J l O h=>?_)⟩
  .obtain⟨B,eD,rfl⟩:=h;obtain⟨r,w_,rfl,ew,eA⟩:=aC.get hz e;have hk:k<zs.length:=(Gb.mp e).1;have c4:k<v.length:=(Gb.mp ew).1;refine⟨_,U,_,U,r,pl,w_,p,U,eA.same B,B _ _ a3,a1 w_ (Gd ew),uP,λH3 Z=>⟨_,U,?_⟩⟩;have W:=Z _ _ eD;have hl:((pc (v.take k) p).map V.int).length<=200:=by
    rw[bo];exact wX (wA _ _) (by rw[ia];lia)
   obtain⟨c6,g1,_,g2⟩:=eA.same (B.trans Z);cases hb:cX w_.1 p with
   |true =>
    refine cD ⟨_,U,r,_,_,_,U,U,SqT.of g1,U,cQ.mk hk W (ay (by lia)) ⟨(B.trans Z).upd O,ab,?_⟩⟩;rw[take_snoc ew,o9,hb,fR];rfl
   |false =>
    refine aW (eH.mk (zs:=(pc (v.take k) p).map V.int) hk ⟨B.trans Z,W,?_⟩);rw[take_snoc ew,o9,hb];simp
  .obtain⟨B,eD,rfl⟩:=h;rw[hz.1,fq]at eD;exact⟨B,D,eD,U⟩
 rintro b5 H1 ⟨M,cl,d,rfl⟩;have AJ:(pc v p).length<=200:=wX (wA v p) gE;have B3:=M _ _ b3;have yP:=M _ _ qI;generalize pc v p=c at d q AJ;have c2:(c.map V.int).length=c.length:=bo _;cases c with
 |nil =>
  refine⟨_,U,cl,_,U,.inl (SqL.of d),U,_,U,dN U ⟨br,λr a=>q r _ (M.trans (ag a _)) ab⟩⟩
 |cons n c =>
 refine⟨_,U,cl,_,U,.inl (SqL.of d),U,_,U,bB (by simp;lia) ?_⟩;have fr:=λ(r:E2)(u:List V)(a:H1 r=Jq)=>M.trans (ag a (.tup u))
 match i,b with
 |0,b =>
  cases b;exact⟨_,U,U,_,U,bB (sne (by decide)) (aW ⟨_,U,U,_,U,bB (sne (by decide)) (aW ⟨_,U,U,_,U,bB (sne (by decide)) ⟨_,U,U,_,U,bB (sne (by decide)) ⟨_,U,U,_,U,bB (sne (by decide)) ⟨_,U,cl,_,_,_,U,U,SqL.of d,at0 n c,br,λr a=>q r _ (fr r _ a) ab⟩⟩⟩⟩)⟩)⟩
 |1,b =>
  cases b;refine⟨_,U,U,_,U,dN U ⟨_,U,cl,_,U,.inl (SqL.of d),_,_,U,U,_,U,c9 (λg=>?_) (λg=>?_)⟩⟩
  .have g:(1:Int)<((((n :: c).map V.int).length:Nat):Int):=JA g;have e:wf 1 o.lo o.hi (n :: c)=kL:=by
    show jX _=_;unfold jX;rw[Jv (by rw[bo]at g;lia)]
   have q:∀(r:E2)(l:Hp),ao H l->l r=Jp (.tup (tp kL))->Q (.ref r) l:=by rw[←e];exact q
   exact cD ⟨br,λr a=>q r _ (fr r _ a) ab⟩
  .have g:¬ (1:Int)<((((n :: c).map V.int).length:Nat):Int):=λz=>g (Jy z)
   have e:wf 1 o.lo o.hi (n :: c)=say n:=by
    show jX _=_;unfold jX;rw[Jw (by rw[bo,gR]at g;rw[gR];lia)];rfl
   have q:∀(r:E2)(l:Hp),ao H l->l r=Jp (.tup (tp (say n)))->Q (.ref r) l:=by rw[←e];exact q
   exact⟨_,U,U,_,U,bB (sne (by decide)) (aW ⟨_,U,U,_,U,bB (sne (by decide)) ⟨_,U,U,_,U,bB (sne (by decide)) ⟨_,U,U,_,U,bB (sne (by decide)) ⟨_,U,cl,_,_,_,U,U,SqL.of d,at0 n c,br,λr a=>q r _ (fr r _ a) ab⟩⟩⟩⟩)⟩
 |2,b =>
  cases b;refine⟨_,U,U,_,U,bB (sne (by decide)) (aW ⟨_,U,U,_,U,dN U ⟨_,U,cl,n :: c,U,SqL.of d,ym _,λm1 I R=>⟨_,U,cl,n :: c,U,SqL.of d,ym _,λm2 h3 h4=>⟨U,_,U,?_⟩⟩⟩⟩)⟩;have e1:=ma I R;have e2:=md h3 h4;by_cases g:m1=m2
  .have e:wf 2 o.lo o.hi (n :: c)=say n:=by
    show jW _=_;unfold jW;have gg:least (n :: c)=great (n :: c):=by rw[←e1,←e2];exact g
    rw[Jw gg,oi (ku.mpr gg)]
   have q:∀(r:E2)(l:Hp),ao H l->l r=Jp (.tup (tp (say n)))->Q (.ref r) l:=by rw[←e];exact q
   exact pT (by rw[g]) ⟨_,U,U,_,U,bB (sne (by decide)) ⟨_,U,U,_,U,bB (sne (by decide)) ⟨_,U,U,_,U,bB (sne (by decide)) ⟨_,U,cl,_,_,_,U,U,SqL.of d,at0 n c,br,λr a=>q r _ (fr r _ a) ab⟩⟩⟩⟩
  .have e:wf 2 o.lo o.hi (n :: c)=kL:=by
    show jW _=_;unfold jW;rw[Jv λz=>g (by rw[e1,e2];exact z)]
   have q:∀(r:E2)(l:Hp),ao H l->l r=Jp (.tup (tp kL))->Q (.ref r) l:=by rw[←e];exact q
   rw[Jz (λz=>g (V.int.inj z))];exact cD ⟨br,λr a=>q r _ (fr r _ a) ab⟩
 |3,b =>
  cases b;refine⟨_,U,U,_,U,bB (sne (by decide)) (aW ⟨_,U,U,_,U,bB (sne (by decide)) (aW ⟨_,U,U,_,U,dN U ⟨_,U,cl,n :: c,U,SqL.of d,ym _,λm I R=>⟨br,λr a=>q r _ (fr r _ a) ?_⟩⟩⟩)⟩)⟩;rw[ab,ma I R];rfl
 |4,b =>
  cases b;refine⟨_,U,U,_,U,bB (sne (by decide)) (aW ⟨_,U,U,_,U,bB (sne (by decide)) (aW ⟨_,U,U,_,U,bB (sne (by decide)) ⟨_,U,U,_,U,dN U ⟨_,U,cl,n :: c,U,SqL.of d,ym _,λm I R=>⟨br,λr a=>q r _ (fr r _ a) ?_⟩⟩⟩⟩)⟩)⟩;rw[ab,md I R];rfl
 |5,b =>
  cases b;have I:=G.some_;have L:=a4.mono M.tups;obtain⟨b6,r1,c1,p1,a7,b0,_,a8⟩:=L.last (by intro z;rw[z]at L;have:=L.length;simp at this;lia);have il:atI C (-1)=Jp (.ref r1):=by rw[a7];exact gI _ _
  have a6:o.hi=p1.2:=by unfold Col.hi;rw[b0];simp
  obtain⟨p0,b1,a5⟩:=G.first;obtain⟨r0,a9,a2⟩:∃r0,C[0]?=Jp (.ref r0)/\H1 r0=Jp (.tup [.int p0.1,.int p0.2]):=by
   obtain⟨x,ex⟩:∃x,C[0]?=Jp x:=⟨_,Ga (by rw[L.length];lia)⟩;obtain⟨p2,r2,f1,rfl,f2⟩:=L.get ex;rw[b1]at f1;cases f1;exact⟨r2,ex,f2⟩
  refine⟨_,U,U,_,U,bB (sne (by decide)) (aW ⟨_,U,U,_,U,bB (sne (by decide)) (aW ⟨_,U,U,_,U,bB (sne (by decide)) ⟨_,U,U,_,U,bB (sne (by decide)) ⟨_,U,U,_,U,dN U ?_⟩⟩⟩)⟩)⟩;refine⟨_,U,ol,_,_,_,U,U,SqL.of B3,U,S,_,_,_,U,U,SqL.of yP,bN (j:=0) a9,r0,_,_,_,U,U,SqT.of a2,z0 _ _,_,U,ol,_,_,_,U,U,SqL.of B3,U,_,U,S,_,_,_,U,U,SqL.of yP,il,r1,_,_,_,U,U,SqT.of a8,z1 _ _,_,U,cl,n :: c,U,SqL.of d,_,_,U,_,_,U,br,λr a=>q r _ (fr r _ a) ?_⟩;rw[ab];have c3:=G.le;have e:near o.lo o.hi (n :: c).sum=if (if (n :: c).sum<o.hi then(n :: c).sum else o.hi)>o.lo then(if (n :: c).sum<o.hi then(n :: c).sum else o.hi)else o.lo:=by
   unfold near;generalize (n :: c).sum=t;split <;> split <;> split <;> first|rfl|lia|(split <;> lia)
  show _=Jp (HO.tup (tp (say (near o.lo o.hi (n :: c).sum))));rw[e,a6,←a5];rfl
 |k+6,b=>simp[six]at b
theorem Ea(F:Fun K "_law_like" "_law_like" Y58 f fd) (bl:Bl K mg Y)(I:Callee P w K mg base 1 "alike" ["one","other"] (ml K Y)):aK P w K mg base CX0 2 f fd ["found","table","rows"] (gW K Y):=by
 refine F.okA Z58 λa7 A G s H vs Q E p h=>?_
 obtain⟨f,t,rl,J,nm,wy,Z,X,rx,a3,wL,cs,oc,rfl,⟨a5,dx,a6,n,fs,a4,b,f1,f2,f3,f4,f5,O,Eb,B,Ec,N,FX⟩,⟨a1,tx,a2,j,ts,a0,g,k1,k2,k3,k4,k5,L,Ed,z,FY,tR,FZ⟩,C,m,D,l,q⟩:=h
 refine⟨_,(ak (aO (PW.pt (jI (bW (bq (av bP U bl.isinstance_ PyProof.Rows.boot_isinstance (aa (pv 0) (aa (cg (v:=.ref Y.k) U bl.Table_ U) ae))))) (jI (aJ nB (aN (pv 0) U) (aN (pv 1) U) (aL _)) (kd (aJ (zN p) (aN (pv 0) U) (aN (pv 1) U) (aL _))))))
  (af (au dY))
  aG)
  (ak (aO (PW.pt (jI (aJ nB (aN (pv 0) U) (aN (pv 1) U) (aL _)) (jI (aJ (xq p) (aN (pv 0) U) (pv 2) (aL _)) (kd (bW (bq (aH I p U (aa (aN (pv 0) U) (aa (aN (pv 1) U) ae)))))))))
  (af (au dY))
  aG)
  (ak (bg GO.never U (je U bl.zip_ (aa (aN (pv 0) U) (aa (aN (pv 1) U) ae))) (cJ U (az (ax (i:=3) Z58.nd U (Or.inl U)) (az (ax (i:=4) Z58.nd U (Or.inl U)) aY)))
  (af (aO (bW (bq (aH I p U (aa (pv 3) (aa (pv 4) ae)))))
  (af (au dY))
  aG)))
  (af (au (dc cc (av aD U bl.len_ Jo (aa (aN (pv 0) U) ae)) (av aD U bl.len_ Jo (aa (aN (pv 1) U) ae)) (aL _))))))),?_⟩
 refine⟨_,U,_,_,_,_,Jr,U,.ref _,bl.t_Table.ty b,bl.f_tt,_,U,aW ?_⟩;refine⟨_,U,f,_,_,_,_,U,b,bl.k_Table,bl.na_Table_name,f2,_,U,t,_,_,_,_,U,g,bl.k_Table,bl.na_Table_name,k2,U,_,U,pT U ?_⟩;refine⟨_,U,f,_,_,_,_,U,b,bl.k_Table,bl.na_Table_names,f5,_,U,t,_,_,_,_,U,g,bl.k_Table,bl.na_Table_names,k5,ug (SqL.of Eb) (SqL.of Ed) (λx hx=>.inl (iv.mp (og Z) x hx)) ⟨_,U,aW ?_⟩⟩;refine⟨_,U,f,_,_,_,_,U,b,bl.k_Table,bl.na_Table_way,f3,_,U,t,_,_,_,_,U,g,bl.k_Table,bl.na_Table_way,k3,U,_,U,pT U ?_⟩;refine⟨_,U,f,_,_,_,_,U,b,bl.k_Table,bl.na_Table_rows,f1,_,U,uK (SqL.of Ec) (SqL.of C) (by rw[N.1,m.1]) (qu N m) ⟨_,U,aW ?_⟩⟩;refine⟨_,U,f,_,_,_,_,U,b,bl.k_Table,bl.na_Table_outcome,f4,_,U,t,_,_,_,_,U,g,bl.k_Table,bl.na_Table_outcome,k4,J,J,oc,U,l,l,_,U,aW ?_⟩;refine⟨_,U,f,_,_,_,_,U,b,bl.k_Table,bl.na_Table_domains,O,_,U,t,_,_,_,_,U,g,bl.k_Table,bl.na_Table_domains,L,n,j,U,⟨_,SqL.of B⟩,⟨_,SqL.of z⟩,oR (xs:=X) (ys:=X) (λi o e=>ao H e/\∃u r:Option V,o=[Jp (.ref f),Jp (.ref t),Jp (.ref rl),u,r]) ⟨ao.refl _,_,_,U⟩ (λi o e h=>⟨SqL.of (h.1 _ _ B),SqL.of (h.1 _ _ z)⟩) (λi x y o e T S R h hT=>?_) (λo e h=>?_)⟩
 .obtain⟨d,u,r,rfl⟩:=h;have s2:=d.trans (ag hT (.tup [x,y]));have W:upd e T (.tup [x,y]) T=Jp (.tup [x,y]):=ab;generalize upd e T (.tup [x,y])=H2 at s2 W⊢;rw[S]at R;cases R;obtain⟨a,c,rfl,ec,M⟩:=aC.get D S;refine⟨T,_,U,SqT.of W,U,_,_,U,_,_,U,U,?_⟩;exact⟨_,U,_,U,a,a,c,U,M.same s2,M.same s2,_,U,aW ⟨s2,_,_,U⟩⟩
 .obtain⟨d,u,r,rfl⟩:=h;refine⟨_,U,f,_,_,_,_,U,d _ _ b,bl.k_Table,bl.na_Table_domains,O,n,_,U,.inl (SqL.of (d _ _ B)),_,U,t,_,_,_,_,U,d _ _ g,bl.k_Table,bl.na_Table_domains,L,j,_,U,.inl (SqL.of (d _ _ z)),U,?_⟩;rw[Jy U];exact q e d
theorem O_4(F:Fun K "__init__" "First.__init__" Y4 f fd) (bl:Bl K mg Y)(g:b7 CX0 P w K mg base 1 "Way" "__init__" ["self","called"] (cq K Y)):aK P w K mg base CX0 2 f fd ["self"] (J0 K Y):=by
 refine F.ok Z4 (λd H Q E h=>?_) (λi A a s H d Q E e h=>?_)
 .obtain⟨x,c,rfl,b,q⟩:=h;rfl
 obtain⟨x,c,rfl,b,q⟩:=h;refine⟨_,(af (aX (fe g bV e U (aa (pv 0) (aa aQ ae))))),?_⟩;exact⟨_,U,x,c,_,U,b,q⟩
theorem Ee(F:Fun K "__init__" "Only.__init__" Y13 f fd) (bl:Bl K mg Y)(e:b7 CX0 P w K mg base 1 "Way" "__init__" ["self","called"] (cA K Y)):aK P w K mg base CX0 2 f fd ["self"] (J8 K Y):=by
 refine F.ok Z13 (λd H Q E h=>?_) (λi A a s H d Q E g h=>?_)
 .obtain⟨x,c,rfl,b,q⟩:=h;rfl
 obtain⟨x,c,rfl,b,q⟩:=h;refine⟨_,(af (aX (fe e bV g U (aa (pv 0) (aa aQ ae))))),?_⟩;exact⟨_,U,x,c,_,U,b,q⟩
theorem O_8(F:Fun K "__init__" "Like.__init__" Y8 f fd) (bl:Bl K mg Y)(e:b7 CX0 P w K mg base 1 "Way" "__init__" ["self","called"] (cB K Y)):aK P w K mg base CX0 2 f fd ["self"] (J4 K Y):=by
 refine F.ok Z8 (λd H Q E h=>?_) (λi A a s H d Q E g h=>?_)
 .obtain⟨x,c,rfl,b,q⟩:=h;rfl
 obtain⟨x,c,rfl,b,q⟩:=h;refine⟨_,(af (aX (fe e bV g U (aa (pv 0) (aa aQ ae))))),?_⟩;exact⟨_,U,x,c,_,U,b,q⟩
theorem Ef(F:Fun K "__init__" "Low.__init__" Y10 f fd) (bl:Bl K mg Y)(e:b7 CX0 P w K mg base 1 "Way" "__init__" ["self","called"] (cO K Y)):aK P w K mg base CX0 2 f fd ["self"] (J6 K Y):=by
 refine F.ok Z10 (λd H Q E h=>?_) (λi A a s H d Q E g h=>?_)
 .obtain⟨x,c,rfl,b,q⟩:=h;rfl
 obtain⟨x,c,rfl,b,q⟩:=h;refine⟨_,(af (aX (fe e bV g U (aa (pv 0) (aa aQ ae))))),?_⟩;exact⟨_,U,x,c,_,U,b,q⟩
theorem O_6(F:Fun K "__init__" "High.__init__" Y6 f fd) (bl:Bl K mg Y)(e:b7 CX0 P w K mg base 1 "Way" "__init__" ["self","called"] (cC K Y)):aK P w K mg base CX0 2 f fd ["self"] (J2 K Y):=by
 refine F.ok Z6 (λd H Q E h=>?_) (λi A a s H d Q E g h=>?_)
 .obtain⟨x,c,rfl,b,q⟩:=h;rfl
 obtain⟨x,c,rfl,b,q⟩:=h;refine⟨_,(af (aX (fe e bV g U (aa (pv 0) (aa aQ ae))))),?_⟩;exact⟨_,U,x,c,_,U,b,q⟩
theorem Eg(F:Fun K "__init__" "Sum.__init__" Y15 f fd) (bl:Bl K mg Y)(e:b7 CX0 P w K mg base 1 "Way" "__init__" ["self","called"] (cP K Y)):aK P w K mg base CX0 2 f fd ["self"] (J10 K Y):=by
 refine F.ok Z15 (λd H Q E h=>?_) (λi A a s H d Q E g h=>?_)
 .obtain⟨x,c,rfl,b,q⟩:=h;rfl
 obtain⟨x,c,rfl,b,q⟩:=h;refine⟨_,(af (aX (fe e bV g U (aa (pv 0) (aa aQ ae))))),?_⟩;exact⟨_,U,x,c,_,U,b,q⟩
theorem O_2(F:Fun K "has_code" "Domain.has_code" Y2 f fd) (bl:Bl K mg Y)(e:Callee P w K mg base 1 "is_whole" ["value"] (fh K Y)):aK P w K mg base CX0 2 f fd ["self","value"] (bM K Y):=by
 refine F.okA Z2 λn A c s H o Q E g h=>?_
 obtain⟨a,b,i,rfl,⟨p,fs,d,j,k,_⟩,m,l,q⟩:=h;refine⟨_,(af (au (fY (aH e g U (aa (pv 1) ae)) (i6 (lB fc fc (aN (pv 0) U) (pv 1) (aN (pv 0) U)))))),?_⟩;refine⟨_,U,i,U,_,U,cD ?_⟩;refine⟨_,U,a,_,_,_,_,U,d,bl.k_Numbers,bl.na_Numbers_low,j,_,U,_,_,U,U,_,U,dN m ?_⟩;refine⟨_,U,a,_,_,_,_,U,d,bl.k_Numbers,bl.na_Numbers_high,k,_,_,U,U,?_⟩;show Q (.bl (Jt (i<=b.2))) H;rw[Jy l];exact q
theorem O_3(F:Fun K "has_code" "Domain.has_code" Y3 f fd) (bl:Bl K mg Y)(e:Callee P w K mg base 1 "is_whole" ["value"] (fh K Y)):aK P w K mg base CX0 2 f fd ["self","value"] (bZ K Y):=by
 refine F.okA Z3 λn A c s H o Q E g h=>?_
 obtain⟨a,b,i,rfl,⟨p,fs,d,j,k,_⟩,m,l,q⟩:=h;refine⟨_,(af (au (fY (aH e g U (aa (pv 1) ae)) (i6 (lB fc fc (aN (pv 0) U) (pv 1) (aN (pv 0) U)))))),?_⟩;refine⟨_,U,i,U,_,U,cD ?_⟩;refine⟨_,U,a,_,_,_,_,U,d,bl.k_Words,bl.na_Words_low,j,_,U,_,_,U,U,_,U,dN m ?_⟩;refine⟨_,U,a,_,_,_,_,U,d,bl.k_Words,bl.na_Words_high,k,_,_,U,U,?_⟩;show Q (.bl (Jt (i<=b.2))) H;rw[Jy l];exact q
theorem Eh(F:Fun K "__init__" "Numbers.__init__" Y12 f fd) (bl:Bl K mg Y)(d:b7 CX0 P w K mg base 1 "Domain" "__init__" ["self","low","high"] (bL K Y)):aK P w K mg base CX0 2 f fd ["self","low","high"] (bH K Y):=by
 refine F.okA Z12 λi A a s H j Q E c h=>?_
 obtain⟨x,e,lo,hi,rfl,b,g,q⟩:=h
 refine⟨_,(ak (aO (aJ iT (pv 1) (pv 2) (aL _))
  (af bT)
  aG)
  (af (aX (fe d bV c U (aa (pv 0) (aa (pv 1) (aa (pv 2) ae))))))),?_⟩
 exact⟨_,U,_,U,_,_,U,U,_,U,bB (by lia) ⟨_,U,_,U,_,U,x,e,lo,hi,U,b,q⟩⟩
theorem Ei(F:Fun K "verdict" "Way.verdict" Y24 f fd) (bl:Bl K mg Y)(r:bf CX0 P w K mg base 1 Y.b "chosen" ["self","codes","outcome"] (J1 K Y)):aK P w K mg base CX0 2 f fd ["self","codes","outcome"] (J12 K Y):=by
 refine F.ok Z24 (λp H Q E h=>?_) (λu A i s H p Q E t h=>?_)
 .obtain⟨x,c,o,a,b,rfl,⟨m,z,e⟩,j,d,g,k,q⟩:=h;rfl
 obtain⟨x,c,o,a,b,rfl,⟨m,z,e⟩,j,d,g,k,q⟩:=h
 refine⟨_,(ak (aO (bW (de (pv 1) (by intro _;rfl)))
  (af (au (cg (v:=.ref Y.l) U bl.NONE_ U)))
  aG)
  (af (au (nO r bV bl.k_First t (pv 0) (aa (pv 1) (aa (pv 2) ae)))))),?_⟩
 refine⟨_,U,!(a.map V.int).isEmpty,.inl ⟨_,g,U⟩,?_⟩;cases a with
 |nil=>exact cD (q _ _ (ao.refl _) (bl.q_NONE.sq _))
 |cons n a=>exact aW ⟨_,U,x,_,_,U,e,U,_,U,_,U,x,c,o,n,a,b,U,⟨m,z,e⟩,j,d,g,yn k,q⟩
theorem Ej(F:Fun K "verdict" "Way.verdict" Y28 f fd) (bl:Bl K mg Y)(r:bf CX0 P w K mg base 1 Y.c "chosen" ["self","codes","outcome"] (J9 K Y)):aK P w K mg base CX0 2 f fd ["self","codes","outcome"] (J16 K Y):=by
 refine F.ok Z28 (λp H Q E h=>?_) (λu A i s H p Q E t h=>?_)
 .obtain⟨x,c,o,a,b,rfl,⟨m,z,e⟩,j,d,g,k,q⟩:=h;rfl
 obtain⟨x,c,o,a,b,rfl,⟨m,z,e⟩,j,d,g,k,q⟩:=h
 refine⟨_,(ak (aO (bW (de (pv 1) (by intro _;rfl)))
  (af (au (cg (v:=.ref Y.l) U bl.NONE_ U)))
  aG)
  (af (au (nO r bV bl.k_Only t (pv 0) (aa (pv 1) (aa (pv 2) ae)))))),?_⟩
 refine⟨_,U,!(a.map V.int).isEmpty,.inl ⟨_,g,U⟩,?_⟩;cases a with
 |nil=>exact cD (q _ _ (ao.refl _) (bl.q_NONE.sq _))
 |cons n a=>exact aW ⟨_,U,x,_,_,U,e,U,_,U,_,U,x,c,o,n,a,b,U,⟨m,z,e⟩,j,d,g,yn k,q⟩
theorem Ek(F:Fun K "verdict" "Way.verdict" Y26 f fd) (bl:Bl K mg Y)(t:bf CX0 P w K mg base 1 Y.d "chosen" ["self","codes","outcome"] (J5 K Y)):aK P w K mg base CX0 2 f fd ["self","codes","outcome"] (J14 K Y):=by
 refine F.ok Z26 (λr H Q E h=>?_) (λy A j s H r Q E u h=>?_)
 .obtain⟨x,c,o,a,b,rfl,⟨p,z,g⟩,k,e,i,m,q⟩:=h;rfl
 obtain⟨x,c,o,a,b,rfl,⟨p,z,g⟩,k,e,i,m,q⟩:=h
 refine⟨_,(ak (aO (bW (de (pv 1) (by intro _;rfl)))
  (af (au (cg (v:=.ref Y.l) U bl.NONE_ U)))
  aG)
  (af (au (nO t bV bl.k_Like u (pv 0) (aa (pv 1) (aa (pv 2) ae)))))),?_⟩
 refine⟨_,U,!(a.map V.int).isEmpty,.inl ⟨_,i,U⟩,?_⟩;cases a with
 |nil=>exact cD (q _ _ (ao.refl _) (bl.q_NONE.sq _))
 |cons n a=>exact aW ⟨_,U,x,_,_,U,g,U,_,U,_,U,x,c,o,n,a,b,U,⟨p,z,g⟩,k,e,i,yn m,q⟩
theorem El(F:Fun K "verdict" "Way.verdict" Y27 f fd) (bl:Bl K mg Y)(t:bf CX0 P w K mg base 1 Y.e "chosen" ["self","codes","outcome"] (J7 K Y)):aK P w K mg base CX0 2 f fd ["self","codes","outcome"] (J15 K Y):=by
 refine F.ok Z27 (λr H Q E h=>?_) (λy A j s H r Q E u h=>?_)
 .obtain⟨x,c,o,a,b,rfl,⟨p,z,g⟩,k,d,i,m,q⟩:=h;rfl
 obtain⟨x,c,o,a,b,rfl,⟨p,z,g⟩,k,d,i,m,q⟩:=h
 refine⟨_,(ak (aO (bW (de (pv 1) (by intro _;rfl)))
  (af (au (cg (v:=.ref Y.l) U bl.NONE_ U)))
  aG)
  (af (au (nO t bV bl.k_Low u (pv 0) (aa (pv 1) (aa (pv 2) ae)))))),?_⟩
 refine⟨_,U,!(a.map V.int).isEmpty,.inl ⟨_,i,U⟩,?_⟩;cases a with
 |nil=>exact cD (q _ _ (ao.refl _) (bl.q_NONE.sq _))
 |cons n a=>exact aW ⟨_,U,x,_,_,U,g,U,_,U,_,U,x,c,o,n,a,b,U,⟨p,z,g⟩,k,d,i,yn m,q⟩
theorem Em(F:Fun K "verdict" "Way.verdict" Y25 f fd) (bl:Bl K mg Y)(r:bf CX0 P w K mg base 1 Y.f "chosen" ["self","codes","outcome"] (J3 K Y)):aK P w K mg base CX0 2 f fd ["self","codes","outcome"] (J13 K Y):=by
 refine F.ok Z25 (λp H Q E h=>?_) (λu A i s H p Q E t h=>?_)
 .obtain⟨x,c,o,a,b,rfl,⟨m,z,e⟩,j,d,g,k,q⟩:=h;rfl
 obtain⟨x,c,o,a,b,rfl,⟨m,z,e⟩,j,d,g,k,q⟩:=h
 refine⟨_,(ak (aO (bW (de (pv 1) (by intro _;rfl)))
  (af (au (cg (v:=.ref Y.l) U bl.NONE_ U)))
  aG)
  (af (au (nO r bV bl.k_High t (pv 0) (aa (pv 1) (aa (pv 2) ae)))))),?_⟩
 refine⟨_,U,!(a.map V.int).isEmpty,.inl ⟨_,g,U⟩,?_⟩;cases a with
 |nil=>exact cD (q _ _ (ao.refl _) (bl.q_NONE.sq _))
 |cons n a=>exact aW ⟨_,U,x,_,_,U,e,U,_,U,_,U,x,c,o,n,a,b,U,⟨m,z,e⟩,j,d,g,yn k,q⟩
theorem En(F:Fun K "verdict" "Way.verdict" Y29 f fd) (bl:Bl K mg Y)(t:bf CX0 P w K mg base 1 Y.g "chosen" ["self","codes","outcome"] (J11 K Y)):aK P w K mg base CX0 2 f fd ["self","codes","outcome"] (J17 K Y):=by
 refine F.ok Z29 (λr H Q E h=>?_) (λy A j s H r Q E u h=>?_)
 .obtain⟨x,c,o,a,b,rfl,⟨p,z,e⟩,k,d,i,m,q⟩:=h;rfl
 obtain⟨x,c,o,a,b,rfl,⟨p,z,e⟩,k,d,i,m,q⟩:=h
 refine⟨_,(ak (aO (bW (de (pv 1) (by intro _;rfl)))
  (af (au (cg (v:=.ref Y.l) U bl.NONE_ U)))
  aG)
  (af (au (nO t bV bl.k_Sum u (pv 0) (aa (pv 1) (aa (pv 2) ae)))))),?_⟩
 refine⟨_,U,!(a.map V.int).isEmpty,.inl ⟨_,i,U⟩,?_⟩;cases a with
 |nil=>exact cD (q _ _ (ao.refl _) (bl.q_NONE.sq _))
 |cons n a=>exact aW ⟨_,U,x,_,_,U,e,U,_,U,_,U,x,c,o,n,a,b,U,⟨p,z,e⟩,k,d,i,yn m,q⟩
theorem Eo(F:Fun K "grain" "grain" Y41 f fd) (bl:Bl K mg Y)(fH:Callee P w K mg base 2 "cut_columns" ["bounds","marks"] (dk K Y)):aK P w K mg base CX0 3 f fd ["bounds","marks"] (mq K Y):=by
 refine F.okA Z41 λa3 A G s H vs Q E o h=>?_
 obtain⟨a,b,O,ps,as,c,rfl,ha,hP,Z,hM,hok,q⟩:=h
 refine⟨_,(ak (aF (i:=2) Z41.nd U (Or.inl U) ai)
  (ak (bg GO.never U (aP (aH fH o U (aa (pv 0) (aa (pv 1) ae)))) (ax (i:=3) Z41.nd U (Or.inl U))
  (af (zp (i:=2) Z41.nd U (Or.inl U) (av aD U bl.len_ Jo (aa (pv 3) ae)) zV)))
  (af (au (pv 2))))),?_⟩
 refine⟨_,U,_,U,a,b,O,ps,as,c,U,ha,hP,Z,hM,hok,λl xs N D S L a2 C I=>?_⟩;obtain⟨a1,a0,x⟩:=hok;have z:xs.length=ps.length:=by rw[I.1,lz];lia
 refine⟨l,U,⟨_,SqL.of L⟩,bw (xs:=xs) (λi d k=>k=N/\∃v:Option V,d=[Jp (.ref a),Jp (.ref b),Jp (.int ((gr ps c i:Nat):Int)),v]) ⟨U,Jq,U⟩ (λi d k _ h=>by rw[h.1];exact SqL.of L) (λi y d k e h=>?_) (λd k h=>?_)⟩
 .obtain⟨u,v,rfl⟩:=h;rw[u];obtain⟨r,n,rfl,g,R,o,W⟩:=aC.get I e;have hi:i<xs.length:=(Gb.mp e).1;obtain⟨p,t⟩:∃p,ps[i]?=Jp p:=⟨_,Ga (by lia)⟩;obtain⟨j,M⟩:∃j,D[i]?=Jp j:=⟨_,Ga (by lia)⟩;obtain⟨m,J⟩:∃m,c[i]?=Jp m:=⟨_,Ga (by lia)⟩;obtain⟨B,T,_⟩:=C i p m j t J M;rw[nS,t,M]at g;have g:cb p.1 p.2 j=n:=Option.some.inj g;have X:R.length=gl ps c i:=by
   rw[W.length,←g,gO,Ar B T];unfold gl;rw[dV,t,dV,J];rfl
  have b1:=yN (ps:=ps) x i;have b2:(58:Nat)^i<=58^6:=Nat.pow_le_pow_right (by decide) (by lia);have b3:(58:Nat)^3<2^64:=by decide
  refine⟨_,U,_,U,r,_,U,.inl (SqL.of o),_,_,U,U,xf.ok (.inl ⟨by lia,by lia⟩),U,Jp (.ref r),?_⟩;rw[X];show[Jp (V.ref a),Jp (.ref b),Jp (.int (((gr ps c i:Nat):Int)*((gl ps c i:Nat):Int))),Jp (.ref r)]=_;rw[show gr ps c (i+1)=gr ps c i*gl ps c i from U,Int.natCast_mul]
 .obtain⟨u,v,rfl⟩:=h;rw[u,z];exact⟨_,U,q N S⟩
theorem Ep(F:Fun K "refuse_names" "refuse_names" Y76 f fd) (bl:Bl K mg Y)(u:Callee P w K mg base 2 "is_word" ["text"] (gm K Y)):aK P w K mg base CX0 3 f fd ["names"] (dS K Y):=by
 refine F.okA Z76 λL A r s H M Q E B h=>?_
 obtain⟨p,a,rfl,n,x,C,N,q⟩:=h
 refine⟨_,(aE (bg GO.never U (aP (pv 0)) (ax (i:=1) Z76.nd U (Or.inl U))
  (af (aO (bW (bq (aH u B U (aa (pv 1) ae))))
  (af bT)
  aG)))
  (af (aO (aJ lA (av iZ U bl.len_ Jo (aa (b8 (iX U) U bl.set_ PyProof.Rows.boot_set (aa (pv 0) ae)) ae)) (av aD U bl.len_ Jo (aa (pv 0) ae)) (aL _))
  (af bT)
  aG))),?_⟩
 have k:(a.map V.str).length=a.length:=bo _;refine⟨λo b=>b=H/\∃c:Option V,o=[Jp (.ref p),c],?_,?_⟩
 .refine⟨_,U,p,U,⟨_,n⟩,bw (xs:=a.map V.str) (λi m b=>b=H/\∃c:Option V,m=[Jp (.ref p),c]) ⟨U,_,U⟩ (λi m b _ h=>by rw[h.1];exact n) (λi y m b e h=>?_) (λm b h=>h)⟩;obtain⟨I,c,rfl⟩:=h;rw[I];obtain⟨z,rfl,D⟩:=qo e;have d:=x z (Gd D);have v:z.length<=1000:=by
   have g:=d;unfold isw at g;simp only[A2,decide_eq_true_eq]at g;lia
  refine⟨_,U,z,U,v,_,U,?_⟩;rw[d];exact aW ⟨U,_,U⟩
 rintro J O ⟨G,c,rfl⟩;rw[G];refine⟨_,U,p,a,U,n,by lia,λl j=>⟨l,a,U,ab,by lia,_,U,p,_,U,.inl ((ag j _).seq n),_,_,U,U,_,U,?_⟩⟩;have t:=km a a.length (wN _);rw[fq]at t;exact bB (by rw[k,t.mpr C];lia) (q _ (ag j _))
theorem Er(F:Fun K "refuse_row" "refuse_row" Y77 f fd) (bl:Bl K mg Y)(eY:bf CX0 P w K mg base 2 Y.i "has_code" ["self","value"] (bM K Y)) (fU:bf CX0 P w K mg base 2 Y.j "has_code" ["self","value"] (bZ K Y)):aK P w K mg base CX0 3 f fd ["domains","outcome","cells","code"] (fE K Y):=by
 refine F.okA Z77 λa2 A a0 s H vs Q E hr h=>?_
 obtain⟨v,m,z,dv,xs,bs,o,t,rfl,N,G,hO,O,I,ok,q⟩:=h
 refine⟨_,(ak (aO (aJ nB (av aD U bl.len_ Jo (aa (pv 2) ae)) (av aD U bl.len_ Jo (aa (pv 0) ae)) (aL _))
  (af bT)
  aG)
  (aE (bg GO.never U (je U bl.zip_ (aa (pv 0) (aa (pv 2) ae))) (cJ U (az (ax (i:=4) Z77.nd U (Or.inl U)) (az (ax (i:=5) Z77.nd U (Or.inl U)) aY)))
  (af (bg GO.never U (aP (pv 5)) (cJ U (az (ax (i:=6) Z77.nd U (Or.inl U)) (az (ax (i:=7) Z77.nd U (Or.inl U)) aY)))
  (af (aO (PW.pt (jI (aJ lA (pv 6) (aN (pv 4) U) (aL _)) (kd (aJ iT (pv 7) (aN (pv 4) U) (aL _)))))
  (af bT)
  aG)))))
  (af (aO (bW (bq (vE (qc eY bl.k_Numbers (qc fU bl.k_Words Bx)) bV hr (pv 1) (aa (pv 3) ae))))
  (af bT)
  aG)))),?_⟩
 have Z:∀(C:E2),(C=Y.i\/C=Y.j)->Cls K C/\NoAttr K C s!"low"/\NoAttr K C s!"high":=λC h=>by
  rcases h with rfl|rfl
  .exact⟨bl.k_Numbers,bl.na_Numbers_low,bl.na_Numbers_high⟩
  .exact⟨bl.k_Words,bl.na_Words_low,bl.na_Words_high⟩
 have J:xs.length=dv.length:=by rw[I.1,ok.len,G.1]
 refine⟨_,U,z,_,U,.inl (SqL.of O),_,U,v,_,U,.inl (N),U,_,U,pT (by rw[J]) ?_⟩;refine⟨λW c=>ao H c/\∃D B k g:Option V,W=[Jp (.ref v),Jp (.ref m),Jp (.ref z),Jp (.int t.2),D,B,k,g],?_,?_⟩
 .refine⟨_,U,_,U,v,z,U,⟨_,N⟩,⟨_,SqL.of O⟩,oR (xs:=dv) (ys:=xs) (λi d c=>ao H c/\∃D B k g:Option V,d=[Jp (.ref v),Jp (.ref m),Jp (.ref z),Jp (.int t.2),D,B,k,g]) ⟨ao.refl _,_,_,_,_,U⟩ (λi d c h=>⟨h.1.seq N,SqL.of (h.1 _ _ O)⟩) (λi x y d c T ex ey h hT=>?_) (λd c h=>h)⟩;obtain⟨sm,D,B,k,g,rfl⟩:=h;have s2:=sm.trans (ag hT (.tup [x,y]));have eT:upd c T (.tup [x,y]) T=Jp (.tup [x,y]):=ab;generalize upd c T (.tup [x,y])=H2 at s2 eT⊢;obtain⟨a,b,rfl,eb,hb⟩:=G.get ex;obtain⟨l,ps,rfl,ep,hl⟩:=aC.get I ey;obtain⟨C,n,S,fs,u,f1,f2,_⟩:=hb.same s2;obtain⟨k1,k2,k3⟩:=Z C n;obtain⟨_,ys,el,hp⟩:=hl.same s2;refine⟨T,_,U,SqT.of eT,U,_,_,U,_,_,U,U,?_⟩;refine⟨_,U,l,U,⟨_,SqL.of el⟩,bw (xs:=ys) (λj d c=>c=H2/\∃k g:Option V,d=[Jp (.ref v),Jp (.ref m),Jp (.ref z),Jp (.int t.2),Jp (.ref a),Jp (.ref l),k,g]) ⟨U,_,_,U⟩ (λj d c _ h=>by rw[h.1];exact SqL.of el) (λj y d c e h=>?_) (λd c h=>?_)⟩
  .obtain⟨R,k,g,rfl⟩:=h;rw[R];obtain⟨p,r,e1,rfl,X⟩:=hp.get e;obtain⟨i1,i2⟩:=ok.inn i ps b ep eb p (Gd e1);refine⟨r,_,U,SqT.of X,U,_,_,U,_,_,U,U,?_⟩;refine⟨_,U,_,U,a,_,_,_,_,U,u,k1,k2,f1,_,_,U,U,_,U,bB (by lia) ?_⟩;exact⟨_,U,_,U,a,_,_,_,_,U,u,k1,k3,f2,_,_,U,U,_,U,bB (by lia) ⟨U,_,_,U⟩⟩
  .obtain⟨R,k,g,rfl⟩:=h;rw[R];exact⟨s2,_,_,_,_,U⟩
 rintro a1 H3 ⟨L,D,B,k,g,rfl⟩;obtain⟨C,n,M⟩:=hO.same L;obtain⟨S,fs,u,f1,f2,f3⟩:=id M;rcases n with rfl|rfl
 .exact⟨_,U,m,_,S,fs,U,.head _,u,f3,_,U,m,o,t.2,U,M,ok.lo,ok.hi,_,U,aW (q _ L)⟩
 .exact⟨_,U,m,_,S,fs,U,.tail _ (.head _),u,f3,_,U,m,o,t.2,U,M,ok.lo,ok.hi,_,U,aW (q _ L)⟩
theorem Es(F:Fun K "mask" "mask" Y73 f fd) (bl:Bl K mg Y)(AM:Callee P w K mg base 2 "fits" ["table","k","codes"] (pe K Y)):aK P w K mg base CX0 3 f fd ["table","codes"] (iF K Y):=by
 refine F.okA Z73 λa4 A z s H vs Q E S h=>?_
 obtain⟨t,c,a,wi,o,j,rfl,⟨G,ou,Z,fs,r,wy,J,M,a2,a3,m,O,a0,a1,R,gE⟩,W,p,q⟩:=h;refine⟨_,(af (au (av (fu U) U bl.sum_ PyProof.Rows.boot_sum (aa (dG (dA U bl.range_ (aa (av aD U bl.len_ Jo (aa (aN (pv 0) U) ae)) ae)) (bX (N:=["k","table","codes"]) (fr:=[0,1]) (cl:=[("table",s.heap.objs.size+1),("codes",s.heap.objs.size+1+1)]) U U (by decide+kernel) (by decide+kernel) U (by decide+kernel) U U U (hZ.mpr ⟨U,hZ.mpr ⟨U,iM _⟩⟩) U) U (λ_ _ _ _=>(jL (bq (aH AM S U (aa (pv 1) (aa (pv 0) (aa (pv 2) ae))))))) (λ_ _ _ _=>(ar oE ai (pv 0)))) ae)))),?_⟩;have l:r.length=a.length:=O.1
 refine⟨_,U,t,_,_,_,_,U,J,bl.k_Table,bl.na_Table_rows,M,G,_,U,.inl (SqL.of m),_,U,(by show -(2^62)<=((r.length:Nat):Int);lia),(by show((r.length:Nat):Int)<2^62;lia),eJ (λD i zs k=>ao H k/\k D=Jp (.lst zs)/\∃b:List Int,zs=b.map V.int/\b.sum=((msk (gD a j) i:Nat):Int)/\b.length<=i)
  (λD u=>⟨ag u _,ab,[],U,U,xn _⟩) (λD i zs k u hi h=>?_) (λD zs k u h=>?_)⟩
 .obtain⟨d,x,b,rfl,g,T⟩:=h;have y:i<a.length:=by first|lia|(rw[←l];lia)
  obtain⟨e,v⟩:∃e,a[i]?=Jp e:=⟨_,Ga y⟩;have L:a.getD i ([],0)=e:=getD_at v;refine⟨_,U,_,U,_,U,t,G,c,Z,fs,r,a,i,e,j,by rw[Int.zero_add],d _ _ J,M,d _ _ m,O.same d,v,d.seq W,p e (Gd v),λH3 C=>⟨_,U,?_⟩⟩;have B:=d.trans C;have n:=C _ _ x;cases hb:jh e.1 j with
  |true =>
   refine cD ⟨_,U,_,_,U,U,⟨by lia,by lia,by decide⟩,cQ.mk hi n (ay (by rw[bo];lia)) ⟨B.upd u,ab,b++[1*2^(0+(i:Int)).toNat],by simp,?_,by simp;lia⟩⟩;have X:(0+(i:Int)).toNat=i:=by lia
   rw[X,List.sum_append,g,fP,show gD a j i=Jr by unfold gD;rw[L];exact hb];simp;lia
  |false =>
   refine aW (eH.mk (zs:=b.map V.int) hi ⟨B,n,b,U,?_,by lia⟩);rw[g,fP,show gD a j i=Js by unfold gD;rw[L];exact hb];simp
 .obtain⟨d,x,b,rfl,g,T⟩:=h;rw[zK]at g;refine⟨D,b,U,SqL.of x,?_⟩;have I:=q k d;rw[←l,←g]at I;exact I
theorem Et(F:Fun K "table_marks" "table_marks" Y83 f fd) (bl:Bl K mg Y)(mx:Callee P w K mg base 2 "column_marks" ["table","column"] (dR K Y)):aK P w K mg base CX0 3 f fd ["table"] (eQ K Y):=by
 refine F.okA Z83 λa3 A Z s H vs Q E hr h=>?_
 obtain⟨t,G,bs,o,L,rfl,u,hb,T,eA,hL,q⟩:=h;refine⟨_,(af (au (dG (dA U bl.range_ (aa (av aD U bl.len_ Jo (aa (aN (pv 0) U) ae)) ae)) (bX (N:=["column","table"]) (fr:=[0]) (cl:=[("table",s.heap.objs.size+1)]) U U (by decide+kernel) (by decide+kernel) U (by decide+kernel) U U U (hZ.mpr ⟨U,iM _⟩) U) U (λ_ _ _ _=>bC) (λ_ _ _ _=>(aH mx hr U (aa (pv 1) (aa (pv 0) ae))))))),?_⟩;obtain⟨rl,dx,dl,fs,xs,ht,f1,f2,W,M,a2,hR⟩:=id u;have a0:G.length=bs.length:=M.1;refine⟨_,U,t,_,_,_,_,U,ht,bl.k_Table,bl.na_Table_domains,f2,dl,_,U,.inl (SqL.of W),_,U,(by show -(2^62)<=((G.length:Nat):Int);lia),(by show((G.length:Nat):Int)<2^62;lia),eJ (λD i v d=>ao H d/\d D=Jp (.lst v)/\∃(m:List E2)(a:List (List Int)),v=m.map V.ref/\MLs (hide d D) m a/\a.length=i/\∀(c:Nat)(b:Int×Int)(j:List Int),bs[c]?=Jp b->a[c]?=Jp j->j.Pairwise (· < ·)/\∀x,x∈j↔MkC o c b x) (λD n=>⟨ag n _,ab,[],[],U,MLs.nil,U,λc b j _ e=>by simp at e⟩) (λD i v d n hi h=>?_) (λD v d n h=>?_)⟩
 .obtain⟨y,C,m,a,rfl,B,p,g⟩:=h;have r:i<bs.length:=by lia
  obtain⟨b,I⟩:∃b,bs[i]?=Jp b:=⟨_,Ga r⟩;obtain⟨S,R⟩:=hL i b I;refine⟨_,U,_,U,t,i,G,bs,o,b,L i,by rw[Int.zero_add],u.same y,I,T,λw hw=>⟨by rw[(eA w hw).1];exact r,(eA w hw).2 i⟩,S,R,λl cs H2 s2 nl el pw hm=>?_⟩;have X:=s2 _ _ C;have nD:l≠D:=λz=>by rw[z,C]at nl;cases nl
  have a1:=B.1;refine cQ.mk hi X (ay (by rw[bo];lia)) ⟨(y.trans s2).upd n,ab,m++[l],a++[cs],by rw[fR];rfl,?_,by rw[dq,hQ,p],λc b' j J k=>?_⟩
  .rw[jZ];exact MLs.snoc (B.same (iD s2)) (bG el nD)
  .by_cases hc:c<a.length
   .rw[eX hc]at k;exact g c b' j J k
   .rw[js (by lia)]at k;have h0:=(Gb.mp k).1;rw[hQ]at h0;have O:c=i:=by lia
    subst O;rw[I]at J;cases J;rw[show c-a.length=0 by lia]at k;cases k;exact⟨pw,hm⟩
 .obtain⟨y,C,m,a,rfl,B,p,g⟩:=h;exact q D m a d y n C (B.same (dH d D)) (by lia) g
theorem Eu(F:Fun K "_law_bit_rows" "_law_bit_rows" Y50 f fd) (bl:Bl K mg Y)(my:Callee P w K mg base 2 "_law_bit_row" ["m","columns","out","last"] (eP K Y)):aK P w K mg base CX0 3 f fd ["seeds","columns","out"] (dU K Y):=by
 refine F.okA Z50 λa5 A a3 s H vs Q E hr h=>?_
 obtain⟨sl,cl,ol,ns,xs,O,I,rfl,u,gE,a0,a2,a1,hok,h1,h4,X,T,q⟩:=h
 refine⟨_,(ak (aF (i:=3) Z50.nd U (Or.inl U) (bc ae))
  (ak (aF (i:=4) Z50.nd U (Or.inl U) (bc ae))
  (ak (bg GO.never U (aP (pv 0)) (ax (i:=5) Z50.nd U (Or.inl U))
  (ak (aF (i:=4) Z50.nd U (Or.inl U) (aH my hr U (aa (pv 5) (aa (pv 1) (aa (pv 2) (aa (pv 4) ae))))))
  (af (aX (fK PySem.F.plainAttrs_list PySem.F.slot_list_append PySem.F.type_list_append bK (pv 3) (aa (pv 4) ae))))))
  (af (au (pv 3)))))),?_⟩
 refine⟨(by show 0<=FL;decide),λl hl=>?_⟩;have G:ao H (upd H l (.lst [])):=ag hl _;have N:upd H l (.lst []) l=Jp (.lst []):=ab;generalize upd H l (.lst [])=H0 at G N⊢;refine⟨(by show 0<=FL;decide),λd p=>?_⟩;have D:=G.trans (ag p (.lst []));have e1:=ag p (.lst []) _ _ N;have e2:upd H0 d (.lst []) d=Jp (.lst []):=ab;have Z:d≠l:=λz=>by rw[z,N]at p;cases p
 have F0:H d=none:=G.free p;generalize upd H0 d (.lst [])=H1 at D e1 e2⊢;refine⟨_,U,sl,U,⟨_,SqL.of (D _ _ u)⟩,bw (xs:=ns.map V.int) (λi x g=>ao H g/\∃(n:E2)(e:List V)(k:List BW)(R:Option V),g l=Jp (.lst e)/\BRL (Fr H l) g e k/\k.length=i/\(∀w∈k,cm O I w)/\(n≠l/\g n=Jp (.lst [])\/∃w,dO (Fr H l) g n w/\cm O I w)/\x=[Jp (.ref sl),Jp (.ref cl),Jp (.ref ol),Jp (.ref l),Jp (.ref n),R]) ⟨D,d,[],[],_,e1,aC.nil,U,(λw h=>by cases h),.inl ⟨Z,e2⟩,U⟩ (λi x g _ h=>SqL.of (h.1 _ _ u)) (λi y x g ey L=>?_) (λx g L=>?_)⟩
 .obtain⟨m,n,e,k,R,C,B,b,J,v,rfl⟩:=L;obtain⟨c,rfl,ec⟩:=of_map ey;have hi:i<ns.length:=(Gb.mp ec).1;refine⟨_,U,_,U,_,U,_,U,c,cl,ol,n,xs,O,I,U,m _ _ a2,a1.same m,hok,h1,h4,X.same m,T,a0 c (Gd ec),?_,λr o S s2 eA t=>?_⟩
  .rcases v with⟨_,z⟩|⟨w,z1,z2⟩
   .exact .inl z
   .exact .inr ⟨w,z1.wk λ_ _=>trivial,z2⟩
  have j:=s2 _ _ C;have a4:e.length=i:=by rw[B.1,b]
  refine⟨_,U,.inl ⟨U,_,SqL.of j⟩,_,U,l,_,_,U,U,j,ay (by lia),?_⟩;have yQ:dO (Fr H l) S r o:=eA.wk λa M=>⟨m.free M,λz=>by rw[z,C]at M;cases M⟩
  have B4:dO (Fr H l) (upd S l (.lst (e++[.ref r]))) r o:=yQ.updN Fr.out j;have W:BRL (Fr H l) S (e++[.ref r]) (k++[o]):=aC.snoc (B.same s2) yQ;refine⟨(m.trans s2).upd hl,r,e++[.ref r],k++[o],_,ab,W.updN Fr.out j,by simp[b],λw h=>?_,.inr ⟨o,B4,t⟩,U⟩;rcases iK.mp h with h|h
  .exact J w h
  .rw[show w=o by simpa using h];exact t
 .obtain⟨m,n,e,k,R,C,B,b,J,v,rfl⟩:=L;rw[bo]at b;exact⟨_,U,q l e k g m C (B.wk λa h=>h.1) b J⟩
theorem Ew(F:Fun K "_law_idle" "_law_idle" Y57 f fd) (bl:Bl K mg Y)(jm:Callee P w K mg base 2 "_law_fit" ["bit_row","point"] (gj K Y)) (gx:Callee P w K mg base 2 "_law_due" ["way","bit_rows","out","point"] (gq K Y)):aK P w K mg base CX0 3 f fd ["way","bit_rows","out","points","k"] (gX K Y):=by
 refine F.okA Z57 λb6 A b3 s H vs Q E hr h=>?_
 obtain⟨B,i,b,D,L,d,pz,c,a,PS,k,n,rfl,a1,e,hz,gE,hk,a0,T,X,W,uP,t,a6,q⟩:=h
 refine⟨_,(aE (aF (i:=5) Z57.nd U (Or.inl U) (ar ft (df d8 (pv 1) d6 (d7 (pv 4))) (df d8 (pv 1) (d7 (ar bz (pv 4) ai)) d6)))
  (ak (bg GO.never U (aP (pv 3)) (ax (i:=6) Z57.nd U (Or.inl U))
  (af (aO (bq (aH jm hr U (aa (aI aM (pv 1) (pv 4) (λ_ _=>U)) (aa (pv 6) ae))))
  (af (aO (aJ (vy hr) (aH gx hr U (aa (pv 0) (aa (pv 1) (aa (pv 2) (aa (pv 6) ae))))) (aH gx hr U (aa (pv 0) (aa (pv 5) (aa (pv 2) (aa (pv 6) ae))))) (aL _))
  (af (au dY))
  aG))
  aG)))
  (af (au dY)))),?_⟩
 have b5:d.length=c.length:=hz.1;refine⟨λa2 l=>ao H l/\∃o:E2,l o=Jp (.lst (d.take k++d.drop (k+1)))/\a2=[Jp (.str B),Jp (.ref b),Jp (.ref D),Jp (.ref L),Jp (.int (k:Int)),Jp (.ref o),Jq],?_,?_⟩
 .refine⟨_,U,_,U,_,U,b,_,U,SqL.of e,λd1 b0=>?_⟩;rw[o8];have t1:=ag b0 (.lst (d.take k));have g1:upd H d1 (.lst (d.take k)) d1=Jp (.lst (d.take k)):=ab;generalize upd H d1 (.lst (d.take k))=G at t1 g1⊢;refine⟨_,U,_,U,_,_,U,U,_,U,b,_,U,SqL.of (t1 _ _ e),λd2 a9=>?_⟩;rw[show((k:Int)+1)=((k+1:Nat):Int) by lia,lg];have t2:=ag a9 (.lst (d.drop (k+1)));have g2:upd G d2 (.lst (d.drop (k+1))) d2=Jp (.lst (d.drop (k+1))):=ab;generalize upd G d2 (.lst (d.drop (k+1)))=H2 at t2 g2⊢;exact⟨d1,d2,_,_,U,U,t2 _ _ g1,g2,x3 (ay (by rw[ia,kB];lia)),λd3 a8=>⟨(t1.trans t2).trans (ag a8 _),d3,ab,U⟩⟩
 rintro b4 G ⟨C,o,b1,rfl⟩;have a3:=(hz.same C).erase k;have a7:(c.eraseIdx k).length<=200:=by rw[sy];split <;> lia
 have a5:∀w∈c.eraseIdx k,w.1.length=n:=λw M=>t w (List.mem_of_mem_eraseIdx M)
 obtain⟨m,ew⟩:∃w,c[k]?=Jp w:=⟨_,Ga hk⟩;obtain⟨r,f1,eA⟩:=hz.2 k _ ew;have eg:c.getD k ([],0)=m:=by rw[dV,ew];rfl
 have a4:=t m (Gd ew);refine⟨_,U,L,U,⟨_,SqL.of (C _ _ X)⟩,bw (xs:=pz) (λj σ l=>ao G l/\(∀p∈PS.take j,cX m.1 p=Jr->ver (wf i a.lo a.hi) (pc c p)=ver (wf i a.lo a.hi) (pc (c.eraseIdx k) p))/\∃S:Option V,σ=[Jp (.str B),Jp (.ref b),Jp (.ref D),Jp (.ref L),Jp (.int (k:Int)),Jp (.ref o),S]) ⟨ao.refl _,(λp N=>by cases N),_,U⟩ (λj σ l _ O=>SqL.of ((C.trans O.1) _ _ X)) (λj y σ l ey O=>?_) (λσ l O=>?_)⟩
 .obtain⟨I,iH,S,rfl⟩:=O;have v:=C.trans I;obtain⟨pa,p,rfl,ep,_,x⟩:=aC.get (W.same v) ey;have u:=a6 p (Gd ep);have step:∀H2,ao G H2->(cX m.1 p=Jr->ver (wf i a.lo a.hi) (pc c p)=ver (wf i a.lo a.hi) (pc (c.eraseIdx k) p))->ao G H2/\(∀p∈PS.take (j+1),cX m.1 p=Jr->ver (wf i a.lo a.hi) (pc c p)=ver (wf i a.lo a.hi) (pc (c.eraseIdx k) p))/\∃S:Option V,[Jp (V.str B),Jp (.ref b),Jp (.ref D),Jp (.ref L),Jp (.int (k:Int)),Jp (.ref o),Jp (.ref pa)]=[Jp (.str B),Jp (.ref b),Jp (.ref D),Jp (.ref L),Jp (.int (k:Int)),Jp (.ref o),S]:=λH2 s2 N=>by
   refine⟨s2,λp' Z=>?_,_,U⟩;rw[take_snoc ep]at Z;rcases iK.mp Z with h|h
   .exact iH p' h
   .rw[iN.mp h];exact N
  refine⟨_,U,_,U,b,_,_,_,U,U,SqL.of (v _ _ e),bN f1,_,U,r,pa,m,p,U,eA.same v,x,by rw[a4,u],by lia,λH3 J=>⟨_,U,?_⟩⟩;have v3:=v.trans J;cases R:cX m.1 p with
  |false=>exact aW (step H3 (I.trans J) λz=>by rw[R]at z;cases z)
  |true =>
   refine cD ⟨_,U,_,U,_,U,_,U,B,i,b,D,pa,d,c,a,p,U,a1,v3 _ _ e,hz.same v3,gE,a0.same v3,T,J _ _ x,(λw M=>by rw[t w M,u]),by lia,λr1 H4 s4 e4=>?_⟩;have v4:=v3.trans s4;have m4:=(I.trans J).trans s4;refine⟨_,U,_,U,_,U,_,U,B,i,o,D,pa,_,c.eraseIdx k,a,p,U,a1,m4 _ _ b1,a3.same m4,a7,a0.same v4,T,s4 _ _ (J _ _ x),(λw M=>by rw[a5 w M,u]),by lia,λr2 H5 s5 e5=>?_⟩;have m5:=m4.trans s5;refine tJ (SqT.of (s5 _ _ e4)) (SqT.of e5) ⟨_,U,?_⟩;by_cases g:ver (wf i a.lo a.hi) (pc c p)=ver (wf i a.lo a.hi) (pc (c.eraseIdx k) p)
   .rw[Jz (λz=>z g)];exact aW (step H5 m5 λ_=>g)
   .rw[Jy g];exact cD (q Js H5 (C.trans m5) ⟨(λz=>by cases z),λhI=>Jx (hI p (Gd ep) (by rw[eg];exact R)) g⟩)
 .obtain⟨I,iH,S,rfl⟩:=O;rw[W.1,fq]at iH;exact q Jr l (C.trans I) ⟨λ_ p N R=>iH p N (by rw[eg]at R;exact R),λ_=>U⟩
theorem Ex(F:Fun K "__init__" "Words.__init__" Y30 f fd) (bl:Bl K mg Y)(fV:b7 CX0 P w K mg base 2 "Domain" "__init__" ["self","low","high"] (bY K Y)) (kD:Callee P w K mg base 2 "is_word" ["text"] (gm K Y)):aK P w K mg base CX0 3 f fd ["self","words"] (b9 K Y):=by
 refine F.okA Z30 λa2 A R s H vs Q E W h=>?_
 obtain⟨x,d,p,a,rfl,S,L,G,q⟩:=h
 refine⟨_,(ak (aO (bW (gG fc fc ai (av aD U bl.len_ Jo (aa (pv 1) ae)) (nN U bl.MOST_WORDS_)))
  (af bT)
  aG)
  (aE (bg GO.never U (aP (pv 1)) (ax (i:=2) Z30.nd U (Or.inl U))
  (af (aO (bW (bq (aH kD W U (aa (pv 2) ae))))
  (af bT)
  aG)))
  (ak (aO (aJ lA (av iZ U bl.len_ Jo (aa (b8 (iX U) U bl.set_ PyProof.Rows.boot_set (aa (pv 1) ae)) ae)) (av aD U bl.len_ Jo (aa (pv 1) ae)) (aL _))
  (af bT)
  aG)
  (ak (aX (fe fV bV W U (aa (pv 0) (aa ai (aa (ar dC (av aD U bl.len_ Jo (aa (pv 1) ae)) ai) ae)))))
  (af (cx (pv 0) (b8 dg U bl.list_ PyProof.Rows.boot_list (aa (pv 1) ae)) U)))))),?_⟩
 have t:SqL K H p (a.map V.str):=SqL.of L;have B:p≠x:=fJ L S (by intro z;cases z);have c:(a.map V.str).length=a.length:=bo _;have h1:=G.some_;have a1:=G.few;refine⟨_,U,p,_,U,.inl t,_,_,U,U,_,U,dN (by rw[c];lia) ?_⟩;refine⟨_,_,U,U,_,U,?_⟩;rw[Jy (show(((a.map V.str).length:Nat):Int)<=40 by rw[c];lia)];refine aW ?_;refine⟨λN m=>m=H/\∃u:Option V,N=[Jp (.ref x),Jp (.ref p),u],?_,?_⟩
 .refine⟨_,U,p,U,⟨_,t⟩,bw (xs:=a.map V.str) (λi D m=>m=H/\∃u:Option V,D=[Jp (.ref x),Jp (.ref p),u]) ⟨U,_,U⟩ (λi D m _ h=>by rw[h.1];exact t) (λi y D m e h=>?_) (λD m h=>h)⟩;obtain⟨e0,u,rfl⟩:=h;rw[e0];obtain⟨z,rfl,ez⟩:=qo e;have T:=G.words z (Gd ez);have hz:z.length<=1000:=by
   have v:=T;unfold isw at v;simp only[A2,decide_eq_true_eq]at v;lia
  refine⟨_,U,z,U,hz,_,U,?_⟩;rw[T];exact aW ⟨U,_,U⟩
 rintro a0 H2 ⟨I,u,rfl⟩;rw[I];refine⟨_,U,p,a,U,t,by lia,λl X=>⟨l,a,U,ab,by lia,_,U,p,_,U,.inl ((ag X _).seq t),_,_,U,U,_,U,?_⟩⟩;have J:=ag X (mV P w l a);have cf:=km a a.length (wN _);rw[fq]at cf;refine bB (by rw[c,cf.mpr G.once];lia) ?_;have O:=J _ _ S;have C:=J _ _ L;refine⟨_,U,_,U,p,_,U,.inl (SqL.of C),_,_,U,U,x,d,0,_,U,O,?_⟩;have M:mkd Y.j (upd H l (mV P w l a)) x d 0 ((((a.map V.str).length:Nat):Int)-1) x=Jp (.ins Y.j d [("low",.int 0),("high",.int ((((a.map V.str).length:Nat):Int)-1))]):=ab;have I:mkd Y.j (upd H l (mV P w l a)) x d 0 ((((a.map V.str).length:Nat):Int)-1) p=Jp (.lst (a.map V.str)):=by unfold mkd;rw[aw B,aw B];exact C
 have Z:∀b o,b≠x->H b=Jp o->mkd Y.j (upd H l (mV P w l a)) x d 0 ((((a.map V.str).length:Nat):Int)-1) b=Jp o:=λb o r h=>by unfold mkd;rw[aw r,aw r];exact J b o h
 have eh:(((a.map V.str).length:Nat):Int)-1=hiW a:=by rw[c];rfl
 refine⟨_,U,p,_,U,.inl (SqL.of I),λn k=>⟨_,U,x,_,d,_,U,bO M k,bl.k_Words,bl.na_Words_words,(by show 2<1000;decide),?_⟩⟩;show Q .non (upd (upd (mkd Y.j (upd H l (mV P w l a)) x d 0 ((((a.map V.str).length:Nat):Int)-1)) n (.lst (a.map V.str))) x (.ins Y.j d (bp s!"words" (.ref n) [(s!"low",.int 0),(s!"high",.int ((((a.map V.str).length:Nat):Int)-1))])));rw[put3];have g:mkd Y.j (upd H l (mV P w l a)) x d 0 ((((a.map V.str).length:Nat):Int)-1) n=none:=k;clear k;generalize mkd Y.j (upd H l (mV P w l a)) x d 0 ((((a.map V.str).length:Nat):Int)-1)=H2 at M I Z g⊢;rw[eh];have nl:n≠x:=(aU M g).symm;exact q _ n (λb o r h=>(aw r).trans (bO (Z b o r h) g)) ab ((aw nl).trans ab)
theorem Ey(F:Fun K "way_by" "way_by" Y87 f fd) (bl:Bl K mg Y)(k_First:bh CX0 P w K mg base 2 "First" Y.b ["self"] (J0 K Y)) (k_Only:bh CX0 P w K mg base 2 "Only" Y.c ["self"] (J8 K Y)) (k_Like:bh CX0 P w K mg base 2 "Like" Y.d ["self"] (J4 K Y)) (k_Low:bh CX0 P w K mg base 2 "Low" Y.e ["self"] (J6 K Y)) (k_High:bh CX0 P w K mg base 2 "High" Y.f ["self"] (J2 K Y)) (k_Sum:bh CX0 P w K mg base 2 "Sum" Y.g ["self"] (J10 K Y)):aK P w K mg base CX0 4 f fd ["name"] (iG K Y):=by
 refine F.okA Z87 λa3 A a2 s H vs Q E hr h=>?_
 obtain⟨z,rfl,hz,q⟩:=h
 refine⟨_,(ak (bg GO.never U (aP (bc (aa (kq k_First bV hr U) (aa (kq k_Only bV hr U) (aa (kq k_Like bV hr U) (aa (kq k_Low bV hr U) (aa (kq k_High bV hr U) (aa (kq k_Sum bV hr U) ae)))))))) (ax (i:=1) Z87.nd U (Or.inl U))
  (af (aO (aJ cc (aN (pv 1) U) (pv 0) (aL _))
  (af (au (pv 1)))
  aG)))
  (af bT)),?_⟩
 refine λv N m k o=>⟨v,N,U,ab,U,?_⟩
 have t0:ao H (upd (upd (upd H N (.own v)) v (.ins Y.b N [])) v (.ins Y.b N [("called",.str s!"first")])):=((ag k _).upd m).upd m;have B:WyN Y.b (upd (upd (upd H N (.own v)) v (.ins Y.b N [])) v (.ins Y.b N [("called",.str s!"first")])) v s!"first":=⟨N,ab⟩;generalize upd (upd (upd H N (.own v)) v (.ins Y.b N [])) v (.ins Y.b N [("called",.str s!"first")])=H0 at t0 B⊢;clear m k o;refine λu M m k o=>⟨u,M,U,ab,U,?_⟩
 have t1:ao H0 (upd (upd (upd H0 M (.own u)) u (.ins Y.c M [])) u (.ins Y.c M [("called",.str s!"only")])):=((ag k _).upd m).upd m;have D:WyN Y.c (upd (upd (upd H0 M (.own u)) u (.ins Y.c M [])) u (.ins Y.c M [("called",.str s!"only")])) u s!"only":=⟨M,ab⟩;generalize upd (upd (upd H0 M (.own u)) u (.ins Y.c M [])) u (.ins Y.c M [("called",.str s!"only")])=H1 at t1 D⊢;clear m k o;have B:=B.same t1;refine λt L m k o=>⟨t,L,U,ab,U,?_⟩
 have t2:ao H1 (upd (upd (upd H1 L (.own t)) t (.ins Y.d L [])) t (.ins Y.d L [("called",.str s!"like")])):=((ag k _).upd m).upd m;have O:WyN Y.d (upd (upd (upd H1 L (.own t)) t (.ins Y.d L [])) t (.ins Y.d L [("called",.str s!"like")])) t s!"like":=⟨L,ab⟩;generalize upd (upd (upd H1 L (.own t)) t (.ins Y.d L [])) t (.ins Y.d L [("called",.str s!"like")])=H2 at t2 O⊢;clear m k o;have B:=B.same t2;have D:=D.same t2;refine λw3 J m k o=>⟨w3,J,U,ab,U,?_⟩
 have t3:ao H2 (upd (upd (upd H2 J (.own w3)) w3 (.ins Y.e J [])) w3 (.ins Y.e J [("called",.str s!"low")])):=((ag k _).upd m).upd m;have R:WyN Y.e (upd (upd (upd H2 J (.own w3)) w3 (.ins Y.e J [])) w3 (.ins Y.e J [("called",.str s!"low")])) w3 s!"low":=⟨J,ab⟩;generalize upd (upd (upd H2 J (.own w3)) w3 (.ins Y.e J [])) w3 (.ins Y.e J [("called",.str s!"low")])=H3 at t3 R⊢;clear m k o;have B:=B.same t3;have D:=D.same t3;have O:=O.same t3;refine λr I m k o=>⟨r,I,U,ab,U,?_⟩
 have Z:ao H3 (upd (upd (upd H3 I (.own r)) r (.ins Y.f I [])) r (.ins Y.f I [("called",.str s!"high")])):=((ag k _).upd m).upd m;have X:WyN Y.f (upd (upd (upd H3 I (.own r)) r (.ins Y.f I [])) r (.ins Y.f I [("called",.str s!"high")])) r s!"high":=⟨I,ab⟩;generalize upd (upd (upd H3 I (.own r)) r (.ins Y.f I [])) r (.ins Y.f I [("called",.str s!"high")])=H4 at Z X⊢;clear m k o;have B:=B.same Z;have D:=D.same Z;have O:=O.same Z;have R:=R.same Z;refine λp G m k o=>⟨p,G,U,ab,U,?_⟩
 have T:ao H4 (upd (upd (upd H4 G (.own p)) p (.ins Y.g G [])) p (.ins Y.g G [("called",.str s!"sum")])):=((ag k _).upd m).upd m;have y5:WyN Y.g (upd (upd (upd H4 G (.own p)) p (.ins Y.g G [])) p (.ins Y.g G [("called",.str s!"sum")])) p s!"sum":=⟨G,ab⟩;generalize upd (upd (upd H4 G (.own p)) p (.ins Y.g G [])) p (.ins Y.g G [("called",.str s!"sum")])=H5 at T y5⊢;clear m k o;have B:=B.same T;have D:=D.same T;have O:=O.same T;have R:=R.same T;have X:=X.same T;have s5:ao H H5:=((((t0.trans t1).trans t2).trans t3).trans Z).trans T;refine⟨(by show 6<=FL;decide),λl hl=>?_⟩;have S:ao H5 (upd H5 l (.lst [V.ref v,.ref u,.ref t,.ref w3,.ref r,.ref p])):=ag hl _;have el:upd H5 l (.lst [V.ref v,.ref u,.ref t,.ref w3,.ref r,.ref p]) l=Jp (.lst [V.ref v,.ref u,.ref t,.ref w3,.ref r,.ref p]):=ab;generalize upd H5 l (.lst [V.ref v,.ref u,.ref t,.ref w3,.ref r,.ref p])=H6 at S el⊢;have B:=B.same S;have D:=D.same S;have O:=O.same S;have R:=R.same S;have X:=X.same S;have y5:=y5.same S;have sA:=s5.trans S;have a0:∀(i:Nat)(x:V),[V.ref v,.ref u,.ref t,.ref w3,.ref r,.ref p][i]?=Jp x->∃(a C:E2)(y:Str),x=.ref a/\(cl6 Y.b Y.c Y.d Y.e Y.f Y.g)[i]?=Jp C/\six[i]?=Jp y/\WyN C H6 a y/\Cls K C/\NoAttr K C s!"called":=λi x e=>by
  match i,e with
  |0,e=>cases e;exact⟨v,Y.b,_,U,U,U,B,bl.k_First,bl.na_First_called⟩
  |1,e=>cases e;exact⟨u,Y.c,_,U,U,U,D,bl.k_Only,bl.na_Only_called⟩
  |2,e=>cases e;exact⟨t,Y.d,_,U,U,U,O,bl.k_Like,bl.na_Like_called⟩
  |3,e=>cases e;exact⟨w3,Y.e,_,U,U,U,R,bl.k_Low,bl.na_Low_called⟩
  |4,e=>cases e;exact⟨r,Y.f,_,U,U,U,X,bl.k_High,bl.na_High_called⟩
  |5,e=>cases e;exact⟨p,Y.g,_,U,U,U,y5,bl.k_Sum,bl.na_Sum_called⟩
  |n+6,e=>simp at e
 refine⟨l,U,⟨_,SqL.of el⟩,bw (xs:=[V.ref v,.ref u,.ref t,.ref w3,.ref r,.ref p]) (λi σ H'=>(∃c1:Option V,σ=[Jp (.str z),c1])/\H'=H6/\∀j:Nat,j<i->six[j]?≠Jp z) ⟨⟨_,U⟩,U,(λj h=>Jx h (yp j))⟩ (λi σ H' _ h=>by rw[h.2.1];exact SqL.of el) (λi x σ H' e h=>?_) (λσ H' h=>?_)⟩
 .obtain⟨⟨c1,rfl⟩,e0,W⟩:=h;rw[e0];obtain⟨a,C,y,rfl,eC,ey,⟨dx,ha⟩,hc,hn⟩:=a0 i x e;refine⟨_,U,a,_,_,_,_,U,ha,hc,hn,U,_,U,U,_,U,?_⟩;refine c9 (λg=>?_) (λg=>?_)
  .have g':V.str y=V.str z:=lF g;injection g' with g';subst g';exact⟨_,U,q i ey a C H6 sA eC ⟨dx,ha⟩⟩
  .refine⟨⟨_,U⟩,U,λj hj=>?_⟩;by_cases a1:j<i
   .exact W j a1
   .have:j=i:=by lia
    subst this;rw[ey];intro q2;exact(sQ g) (by injection q2 with q2;rw[q2])
 .obtain⟨⟨c1,rfl⟩,e0,W⟩:=h;rw[e0];obtain⟨j,hj,ej⟩:=uB hz;exact Jx (by rw[Ga hj,ej]) (W j hj)
theorem Ez(F:Fun K "_law_thinned" "_law_thinned" Y66 f fd) (bl:Bl K mg Y)(qL:Callee P w K mg base 3 "_law_idle" ["way","bit_rows","out","points","k"] (gX K Y)):aK P w K mg base CX0 4 f fd ["way","bit_rows","out","points"] (eS K Y):=by
 refine F.okA Z66 λe0 A c5 s H vs Q E hr h=>?_
 obtain⟨I,i,t,M,L,y,pz,x,e,PS,n,rfl,b5,c3,X,gE,b0,a2,a9,a7,uP,a6,a8,q⟩:=h
 refine⟨_,(aE (aF (i:=4) Z66.nd U (Or.inl U) (b8 dg U bl.list_ PyProof.Rows.boot_list (aa (pv 1) ae)))
  (aE (aF (i:=5) Z66.nd U (Or.inl U) (ar dC (av aD U bl.len_ Jo (aa (pv 4) ae)) ai))
  (ak (pN GO.never (aJ Bf (pv 5) ai (aL _))
  (aE (aO (bq (aH qL hr U (aa (pv 0) (aa (pv 4) (aa (pv 2) (aa (pv 3) (aa (pv 5) ae)))))))
  (ak (aF (i:=4) Z66.nd U (Or.inl U) (ar ft (df d8 (pv 4) d6 (d7 (pv 5))) (df d8 (pv 4) (d7 (ar bz (pv 5) ai)) d6)))
  (af (aF (i:=5) Z66.nd U (Or.inl U) (av aD U bl.len_ Jo (aa (pv 4) ae)))))
  aG)
  (af (aF (i:=5) Z66.nd U (Or.inl U) (ar dC (pv 5) ai)))))
  (af (au (pv 4)))))),?_⟩
 have B5:y.length=x.length:=X.1;refine⟨λp o=>ao H o/\∃l:E2,o l=Jp (.lst y)/\p=[Jp (.str I),Jp (.ref t),Jp (.ref M),Jp (.ref L),Jp (.ref l),Jq],⟨_,U,t,_,U,.inl (SqL.of c3),λl0 b3=>⟨ag b3 _,l0,ab,U⟩⟩,?_⟩;rintro c8 H1 ⟨s1,B,B6,rfl⟩;refine⟨λp o=>o=H1/\p=[Jp (.str I),Jp (.ref t),Jp (.ref M),Jp (.ref L),Jp (.ref B),Jp (.int ((x.length:Int)-1))],⟨_,U,B,_,U,.inl (SqL.of B6),_,_,U,U,U,by rw[B5];rfl⟩,?_⟩;rintro c7 H2 ⟨rfl,rfl⟩;refine⟨λm σ o=>ao H o/\∃(l:E2)(d:List V)(c:List BW)(k:Nat),m=c.length*1000+k/\o l=Jp (.lst d)/\BRL NT o d c/\c.length<=200/\(∀w∈c,w.1.length=n)/\k<=c.length/\(∀r,Th (ver (wf i e.lo e.hi)) PS c r->Th (ver (wf i e.lo e.hi)) PS x r)/\(∀j,k<=j->j<c.length->¬ Idl (ver (wf i e.lo e.hi)) PS c j)/\σ=[Jp (.str I),Jp (.ref t),Jp (.ref M),Jp (.ref L),Jp (.ref l),Jp (.int ((k:Int)-1))],⟨_,s1,B,y,x,x.length,U,B6,X.same s1,gE,a6,wN _,(λ_ h=>h),(λj S R=>Jx S (by lia)),U⟩,?_⟩;rintro m σ H3 ⟨J,l,d,c,k,hm,v,O,Z,G,d5,C,D,rfl⟩;have d0:d.length=c.length:=O.1;refine⟨_,U,_,_,U,U,_,U,c9 (λg=>?_) (λg=>?_)⟩
 rotate_left
 .have g:¬ ((0:Int)<=(k:Int)-1):=λz=>g (Jy z)
  exact⟨_,U,q l d c H3 J v O (C c (.fin λj hj=>D j (by lia) hj))⟩
 have g:(0:Int)<=(k:Int)-1:=JA g;obtain⟨a,rfl⟩:∃a,k=a+1:=⟨k-1,by lia⟩;have ea:(((a+1:Nat):Int)-1)=(a:Int):=by lia
 rw[ea];refine⟨λp o=>∃m',m'<m/\(ao H o/\∃(l:E2)(d:List V)(c:List BW)(k:Nat),m'=c.length*1000+k/\o l=Jp (.lst d)/\BRL NT o d c/\c.length<=200/\(∀w∈c,w.1.length=n)/\k<=c.length/\(∀r,Th (ver (wf i e.lo e.hi)) PS c r->Th (ver (wf i e.lo e.hi)) PS x r)/\(∀j,k<=j->j<c.length->¬ Idl (ver (wf i e.lo e.hi)) PS c j)/\p=[Jp (.str I),Jp (.ref t),Jp (.ref M),Jp (.ref L),Jp (.ref l),Jp (.int ((k:Int)-1))]),(λ_ _ h=>h),?_⟩;refine⟨λp o=>ao H o/\∃(l:E2)(d:List V)(c:List BW)(k:Nat),c.length*1000+k<m/\o l=Jp (.lst d)/\BRL NT o d c/\c.length<=200/\(∀w∈c,w.1.length=n)/\k<=c.length/\(∀r,Th (ver (wf i e.lo e.hi)) PS c r->Th (ver (wf i e.lo e.hi)) PS x r)/\(∀j,k<=j->j<c.length->¬ Idl (ver (wf i e.lo e.hi)) PS c j)/\p=[Jp (.str I),Jp (.ref t),Jp (.ref M),Jp (.ref L),Jp (.ref l),Jp (.int (k:Int))],?_,?_⟩
 .refine⟨_,U,_,U,_,U,_,U,_,U,I,i,l,M,L,d,pz,c,e,PS,a,n,U,b5,v,O,Z,by lia,b0.same J,a2,J _ _ a9,a7.same J,uP,G,a8,λb H4 N hb=>⟨_,U,?_⟩⟩;have a1:=J.trans N;cases b with
  |false =>
   refine aW ⟨a1,l,d,c,a,by lia,N _ _ v,O.same N,Z,G,by lia,C,λj S R hI=>?_,U⟩;by_cases hj:j=a
   .subst hj;exact Jx (hb.mpr hI) (by decide)
   .exact D j (by lia) R hI
  |true =>
   have hI:=hb.mp U;have B7:=N _ _ v;refine cD ⟨_,U,_,U,_,U,l,_,U,SqL.of B7,λd1 c2=>?_⟩;rw[o8];have t1:=ag c2 (.lst (d.take a));have g1:upd H4 d1 (.lst (d.take a)) d1=Jp (.lst (d.take a)):=ab;generalize upd H4 d1 (.lst (d.take a))=H5 at t1 g1⊢;refine⟨_,U,_,U,_,_,U,U,_,U,l,_,U,SqL.of (t1 _ _ B7),λd2 c1=>?_⟩;rw[show((a:Int)+1)=((a+1:Nat):Int) by lia,lg];have t2:=ag c1 (.lst (d.drop (a+1)));have g2:upd H5 d2 (.lst (d.drop (a+1))) d2=Jp (.lst (d.drop (a+1))):=ab;generalize upd H5 d2 (.lst (d.drop (a+1)))=H6 at t2 g2⊢;refine⟨d1,d2,_,_,U,U,t2 _ _ g1,g2,x3 (ay (by rw[ia,kB];lia)),λT b6=>?_⟩;have t3:=ag b6 (.lst (d.take a++d.drop (a+1)));have g3:upd H6 T (.lst (d.take a++d.drop (a+1))) T=Jp (.lst (d.take a++d.drop (a+1))):=ab;generalize upd H6 T (.lst (d.take a++d.drop (a+1)))=H7 at t3 g3⊢;have u:=((N.trans t1).trans t2).trans t3;have d4:(c.eraseIdx a).length=c.length-1:=by rw[sy,Jw (by lia)]
   have W:=(O.same u).erase a;have a5:(d.take a++d.drop (a+1)).length=(c.eraseIdx a).length:=W.1;refine⟨_,U,T,_,U,.inl (SqL.of g3),J.trans u,T,_,c.eraseIdx a,(c.eraseIdx a).length,by lia,g3,W,by lia,(λw hw=>G w (List.mem_of_mem_eraseIdx hw)),wN _,(λr h=>C r (.step (by lia) hI (λj S R=>D j (by lia) R) h)),(λj S R=>Jx S (by lia)),by rw[a5];rfl⟩
 rintro c6 H5 ⟨s5,a3,a0,c4,k5,b1,e5,a4,EA,EB,b4,yd,EC,rfl⟩;exact⟨_,U,_,_,U,U,_,b1,s5,a3,a0,c4,k5,U,e5,a4,EA,EB,b4,yd,EC,U⟩
theorem ED(F:Fun K "refuse_way" "refuse_way" Y78 f fd) (bl:Bl K mg Y)(l:Callee P w K mg base 4 "way_by" ["name"] (iG K Y)):aK P w K mg base CX0 5 f fd ["way","outcome"] (fF K Y):=by
 refine F.okA Z78 λu A g s H y Q E r h=>?_
 obtain⟨z,B,rfl,m,d,q⟩:=h
 refine⟨_,(af (aO (PW.pt (dz (aJ cc (aN (aH l r U (aa (pv 0) ae)) U) aQ (aL _)) (cS (bq (av bP U bl.isinstance_ PyProof.Rows.boot_isinstance (aa (pv 1) (aa (cg (v:=.ref Y.j) U bl.Words_ U) ae)))))))
  (af bT)
  aG)),?_⟩
 refine⟨_,U,z,U,m,λi D x C J b a p=>?_⟩;have k:Cls K C/\NoAttr K C s!"called":=by
  match i,a with
  |0,a=>cases a;exact⟨bl.k_First,bl.na_First_called⟩
  |1,a=>cases a;exact⟨bl.k_Only,bl.na_Only_called⟩
  |2,a=>cases a;exact⟨bl.k_Like,bl.na_Like_called⟩
  |3,a=>cases a;exact⟨bl.k_Low,bl.na_Low_called⟩
  |4,a=>cases a;exact⟨bl.k_High,bl.na_High_called⟩
  |5,a=>cases a;exact⟨bl.k_Sum,bl.na_Sum_called⟩
  |n+6,a=>simp[cl6]at a
 obtain⟨I,o⟩:=p;refine⟨x,_,_,_,_,U,o,k.1,k.2,U,U,_,U,?_⟩;by_cases c:z=s!"sum"
 .obtain⟨G,fs,t⟩:=d c;exact dN (by rw[c]) ⟨_,U,_,_,_,_,Js,U,.ref _,bl.t_Numbers.ty (b _ _ t),bl.f_nw,_,U,aW (q _ b)⟩
 .exact bB (λe=>by injection e with e;exact c e) (aW (q _ b))
theorem EE(F:Fun K "judged" "judged" Y45 f fd) (bl:Bl K mg Y)(iO:bf CX0 P w K mg base 4 Y.b "verdict" ["self","codes","outcome"] (J12 K Y)) (ju:bf CX0 P w K mg base 4 Y.c "verdict" ["self","codes","outcome"] (J16 K Y)) (jv:bf CX0 P w K mg base 4 Y.d "verdict" ["self","codes","outcome"] (J14 K Y)) (j3:bf CX0 P w K mg base 4 Y.e "verdict" ["self","codes","outcome"] (J15 K Y)) (jw:bf CX0 P w K mg base 4 Y.f "verdict" ["self","codes","outcome"] (J13 K Y)) (j4:bf CX0 P w K mg base 4 Y.g "verdict" ["self","codes","outcome"] (J17 K Y)) (mz:Callee P w K mg base 4 "way_by" ["name"] (iG K Y)):aK P w K mg base CX0 5 f fd ["table","rows"] (fS K Y):=by
 refine F.okA Z45 λa7 A a6 s H vs Q E hr h=>?_
 obtain⟨t,a,wi,o,m,rfl,⟨rl,ou,dx,fs,xs,wy,S,hf,a3,a4,B,hR,z,a2,G,gE⟩,q⟩:=h
 refine⟨_,(ak (qf (i:=2) Z45.nd U (Or.inl U) (jS U bl.enumerate_ (aa (aN (pv 0) U) ae)) (cZ (N:=["k","row","rows"]) (k:=2) (fr:=[1]) (cl:=[("rows",s.heap.objs.size+1)]) U U (by decide+kernel) (by decide+kernel) U U (hZ.mpr ⟨U,iM _⟩) U) U (λ_ _ _ _=>(iW (K:=K) (n:=2) U U (az (ax (i:=0) (show(["k","row","rows"]:List Str).Nodup by decide+kernel) U (Or.inl U) (Or.inr U)) (az (ax (i:=1) (show(["k","row","rows"]:List Str).Nodup by decide+kernel) U (Or.inl U) (Or.inr U)) aY)))) (λ_ _ _ _=>(jL (uz (K:=K) U (ar kg (ar oF (pv 2) (pv 0)) ai)))) (λ_ _ _ _=>(aI (iz (K:=K) U) (pv 1) ai (λ_ _=>U))))
  (af (au (vE (qc iO bl.k_First (qc ju bl.k_Only (qc jv bl.k_Like (qc j3 bl.k_Low (qc jw bl.k_High (qc j4 bl.k_Sum Bx)))))) bV hr (aH mz hr U (aa (aN (pv 0) U) ae)) (aa (pv 2) (aa (aN (pv 0) U) ae)))))),?_⟩
 have X:xs.length=a.length:=hR.1
 refine⟨_,U,t,_,_,_,_,U,S,bl.k_Table,bl.na_Table_rows,hf,rl,U,⟨_,SqL.of B⟩,rR (xs:=xs) (λD i zs p=>ao H p/\p D=Jp (.lst zs)/\zs=(pkF a (di m) i).map V.int)
  (λD y=>⟨ag y _,ab,U⟩) (λD i zs p y _ h=>SqL.of (h.1 _ _ B)) (λD i x zs p T y ex h hT ts a0=>?_) (λD zs p y h=>?_)⟩
 .obtain⟨L,O,rfl⟩:=h;have s2:=L.trans (ag hT (.tup [.int i,x]));have eT:upd p T (.tup [.int i,x]) T=Jp (.tup [.int i,x]):=ab;have u:=ag hT (.tup [.int i,x]) _ _ O;generalize upd p T (.tup [.int i,x])=H2 at s2 eT u⊢;obtain⟨r,w_,rfl,ew,ce,cv,g1,_,g2,g3⟩:=aC.get (hR.same s2) ex;have hi:i<xs.length:=(Gb.mp ex).1;have hg:a.getD i ([],0)=w_:=getD_at ew;have a1:=tq a (di m) i;obtain⟨J,I,rfl⟩:∃J I,ts=[J,I]:=by
   match ts,a0 with
   | [J,I],_=>exact⟨J,I,U⟩
  refine⟨T,_,U,SqT.of eT,U,_,_,U,_,_,U,U,⟨[Jp (.int i),Jp (.ref r)],U,U⟩,?_⟩;refine⟨_,U,_,U,_,_,U,U,zL _,_,_,U,U,di m i,U,?_⟩;have v:=qr a (di m) i;rw[hg]at v;cases hb:di m i with
  |true =>
   rw[hb]at v;refine cD ⟨_,U,r,_,_,_,U,U,SqT.of g1,U,cQ.mk hi u (ay (by rw[bo];lia)) ⟨s2.upd y,ab,?_⟩⟩;rw[v,fR];rfl
  |false =>
   rw[hb]at v;refine aW (eH.mk (zs:=(pkF a (di m) i).map V.int) hi ⟨s2,u,?_⟩);rw[v];simp
 .obtain⟨L,O,rfl⟩:=h;rw[X]at O;have Z:wy∈six:=Gd z;refine⟨_,U,t,_,_,_,_,U,L _ _ S,bl.k_Table,bl.na_Table_way,a3,wy,U,Z,λM a5 x C H2 s2 l hw=>?_⟩;have ii:M=wi:=xG a5 z;subst ii;have R:=L.trans s2;obtain⟨dw,hx⟩:=hw;have a1:=tq a (di m) a.length;have W:(C,jY K C Y.i Y.j M)∈[(Y.b,jY K Y.b Y.i Y.j 0),(Y.c,jY K Y.c Y.i Y.j 1),(Y.d,jY K Y.d Y.i Y.j 2),(Y.e,jY K Y.e Y.i Y.j 3),(Y.f,jY K Y.f Y.i Y.j 4),(Y.g,jY K Y.g Y.i Y.j 5)]:=by
   match M,l with
   |0,l=>cases l;exact .head _
   |1,l=>cases l;exact .tail _ (.head _)
   |2,l=>cases l;exact .tail _ (.tail _ (.head _))
   |3,l=>cases l;exact .tail _ (.tail _ (.tail _ (.head _)))
   |4,l=>cases l;exact .tail _ (.tail _ (.tail _ (.tail _ (.head _))))
   |5,l=>cases l;exact .tail _ (.tail _ (.tail _ (.tail _ (.tail _ (.head _)))))
   |n+6,l=>simp[cl6]at l
  refine⟨x,(C,jY K C Y.i Y.j M),dw,_,U,W,hx,U,_,U,_,U,t,_,_,_,_,U,R _ _ S,bl.k_Table,bl.na_Table_outcome,a4,x,D,ou,_,o,U,⟨dw,_,hx⟩,a2.same R,G,SqL.of (s2 _ _ O),by lia,λr H3 s3 h3=>q r H3 (R.trans s3) h3⟩
theorem EF(F:Fun K "_law_domain" "_law_domain" Y54 f fd) (bl:Bl K mg Y)(a:bh CX0 P w K mg base 3 "Numbers" Y.i ["self","low","high"] (bH K Y)) (d:bh CX0 P w K mg base 3 "Words" Y.j ["self","words"] (b9 K Y)) (fk:Callee P w K mg base 4 "_law_word" ["cell","k"] (fi K Y)):aK P w K mg base CX0 5 f fd ["column"] (fG K Y):=by
 refine F.okA Z54 λb1 A a4 s H vs Q E S h=>?_
 obtain⟨l,c,rfl,⟨R,O,_,_,C,m,B⟩,ok,q⟩:=h
 refine⟨_,(ak (aO (bq (aI aM (pv 0) ai (λ_ _=>U)))
  (af (au (sU d bV S U (aa (dG (dA U bl.range_ (aa (ar bz (aI bE (aI aM (aI aM (pv 0) ai (λ_ _=>U)) (jJ gF ai) (λ_ _=>U)) ai (λ_ _=>U)) ai) ae)) (bX (N:=["k","column"]) (fr:=[0]) (cl:=[("column",s.heap.objs.size+1)]) U U (by decide+kernel) (by decide+kernel) U (by decide+kernel) U U U (hZ.mpr ⟨U,iM _⟩) U) U (λ_ _ _ _=>bC) (λ_ _ _ _=>(aH fk S U (aa (aI (dI (K:=K) U) (pv 1) ai (λ_ _=>U)) (aa (pv 0) ae))))) ae))))
  aG)
  (af (au (sU a bV S U (aa (aI bE (aI aM (aI aM (pv 0) ai (λ_ _=>U)) ai (λ_ _=>U)) ai (λ_ _=>U)) (aa (aI bE (aI aM (aI aM (pv 0) ai (λ_ _=>U)) (jJ gF ai) (λ_ _=>U)) ai (λ_ _=>U)) ae)))))),?_⟩
 have h1:=ok.some_;obtain⟨a7,r,a8,p,a1,a3,b0,er⟩:=B.last (by intro z;rw[z]at B;have:=B.length;simp at this;lia);have il:atI O (-1)=Jp (.ref r):=by rw[a1];exact gI _ _
 have g:c.hi=p.2:=by unfold Col.hi;rw[a3];simp
 obtain⟨y,I,G⟩:=ok.first;obtain⟨L,a2,W⟩:∃L,O[0]?=Jp (.ref L)/\H L=Jp (.tup [.int y.1,.int y.2]):=by
  obtain⟨x,ex⟩:∃x,O[0]?=Jp x:=⟨_,Ga (by rw[B.length];lia)⟩;obtain⟨p2,r2,f1,rfl,f2⟩:=B.get ex;rw[I]at f1;cases f1;exact⟨r2,ex,f2⟩
 have a0:=ok.le;refine⟨_,U,l,_,_,_,U,U,SqL.of C,U,_,U,?_⟩;cases hw:c.w with
 |false =>
  refine aW ?_;refine⟨_,U,l,_,_,_,U,U,SqL.of C,U,R,_,_,_,U,U,SqL.of m,bN (j:=0) a2,L,_,_,_,U,U,SqT.of W,z0 _ _,_,U,l,_,_,_,U,U,SqL.of C,U,_,U,R,_,_,_,U,U,SqL.of m,il,r,_,_,_,U,U,SqT.of er,z1 _ _,λx k t n X=>⟨x,k,y.1,p.2,U,ab,by rw[G,←g];exact a0,U,?_⟩⟩;refine q x _ ?_ (.inl ⟨hw,k,_,ab,?_,?_,U⟩)
  .unfold mkd;exact(((ag n _).upd t).upd t).upd t
  .show Jp (V.int y.1)=Jp (V.int c.lo);rw[G]
  .show Jp (V.int p.2)=Jp (V.int c.hi);rw[g]
 |true =>
  refine cD ?_;have a6:=ok.w0 hw y I;have a5:p.2<40:=by
   obtain⟨a9,e1,e2⟩:=ok.last;have:=ok.wl hw _ _ e1;lia
  have EG:c.lo=0:=by lia
  have hb:0<=p.2:=by lia
  refine⟨_,U,l,_,_,_,U,U,SqL.of C,U,_,U,R,_,_,_,U,U,SqL.of m,il,r,_,_,_,U,U,SqT.of er,z1 _ _,_,_,U,U,_,U,(by show -(2^62)<=p.2+1;lia),(by show p.2+1<2^62;lia),eJ (λD i J u=>ao H u/\u D=Jp (.lst J)/\J=(wds c.sd i).map V.str) (λD M=>⟨ag M _,ab,U⟩) (λD i J u M hi h=>?_) (λD J u M h=>?_)⟩
  .obtain⟨v,T,rfl⟩:=h;have Z:((wds c.sd i).map V.str).length=i:=by unfold wds;simp
   refine⟨_,U,l,_,_,_,U,U,SqL.of (v _ _ C),U,_,U,_,_,U,cQ.mk hi T (ay (by rw[Z];lia)) ⟨v.upd M,ab,?_⟩⟩;rw[vW,fR,Int.zero_add];rfl
  .obtain⟨v,T,rfl⟩:=h;intro x k t n X;have s3:ao u (upd (upd u k (.own x)) x (.ins Y.j k [])):=(ag n _).upd t;have wl:(wds c.sd (p.2+1).toNat).length=(p.2+1).toNat:=by unfold wds;simp
   refine⟨x,k,D,wds c.sd (p.2+1).toNat,U,ab,s3 _ _ T,vX (by lia) (by lia),λH4 l4 k1 k2 k3=>⟨U,q x H4 (λb o e=>k1 b o (aU (v _ _ e) t) (s3 _ _ (v _ _ e))) ?_⟩⟩;refine .inr ⟨hw,k,_,l4,k2,?_,?_,U,U,by rw[k3,g]⟩
   .show Jp (V.int 0)=Jp (V.int c.lo);rw[EG]
   .show Jp (V.int (hiW (wds c.sd (p.2+1).toNat)))=Jp (V.int c.hi);rw[g];unfold hiW;rw[wl,zU (by lia)]
    congr 2
    lia
theorem EH(F:Fun K "verdict" "verdict" Y86 f fd) (bl:Bl K mg Y)(m:Callee P w K mg base 5 "judged" ["table","rows"] (fS K Y)) (l:Callee P w K mg base 5 "mask" ["table","codes"] (iF K Y)):aK P w K mg base CX0 6 f fd ["table","codes"] (jk K Y):=by
 refine F.okA Z86 λv A d s H x Q E g h=>?_
 obtain⟨t,c,a,e,o,p,rfl,i,n,b,q⟩:=h;refine⟨_,(af (au (aH m g U (aa (pv 0) (aa (aH l g U (aa (pv 0) (aa (pv 1) ae))) ae))))),?_⟩;refine⟨_,U,_,U,_,U,t,c,a,e,o,p,U,i,n,b,λy s2=>?_⟩;refine⟨t,a,e,o,_,U,i.same s2,λr u k j=>q r u (s2.trans k) ?_⟩;rw[tD]at j;exact j
theorem EI(F:Fun K "leans_on" "leans_on" Y72 f fd) (bl:Bl K mg Y)(n:Callee P w K mg base 5 "judged" ["table","rows"] (fS K Y)):aK P w K mg base CX0 6 f fd ["table","tile","k"] (gY K Y):=by
 refine F.okA Z72 λv A g s H x Q E l h=>?_
 obtain⟨t,j,C,y,k,m,d,i,o,rfl,p,a,e,B,q⟩:=h
 refine⟨_,(ak (aF (i:=3) Z72.nd U (Or.inl U) (ar oE ai (pv 2)))
  (ak (aF (i:=4) Z72.nd U (Or.inl U) (aI bE (pv 1) ai (λ_ _=>U)))
  (af (au (fY (dc iT (ar kg (pv 4) (pv 3)) ai (aL _)) (i6 (dc (vy l) (aH n l U (aa (pv 0) (aa (ar dC (pv 4) (pv 3)) ae))) (aI bE (pv 1) ai (λ_ _=>U)) (aL _)))))))),?_⟩
 refine⟨_,U,_,_,U,U,⟨by lia,by lia,by decide⟩,?_⟩;refine⟨_,U,j,_,_,_,U,U,a,U,?_⟩;refine⟨_,U,_,U,_,_,U,U,_,_,U,U,m.testBit k,by rw[←xQ m k],?_⟩;cases hb:m.testBit k with
 |false =>
  refine aW ?_;have z:=q H (ao.refl _);rw[hb,Bool.false_and]at z;exact z
 |true =>
  refine cD ⟨_,U,_,U,_,U,_,_,U,U,t,d,i,o,_,U,p,λr u c b=>?_⟩;rw[xR hb]at b;refine⟨_,U,j,_,_,_,U,U,c.seqT a,U,tJ b (c.seqT e) ?_⟩;have z:=q u c;rw[hb,Bool.true_and]at z;exact z
theorem EJ(F:Fun K "__init__" "Table.__init__" Y17 f fd) (bl:Bl K mg Y)(mB:Callee P w K mg base 5 "refuse_names" ["names"] (dS K Y)) (kS:Callee P w K mg base 5 "refuse_counts" ["names","rows"] (dE K Y)) (pq:Callee P w K mg base 5 "refuse_way" ["way","outcome"] (fF K Y)) (pA:Callee P w K mg base 5 "refuse_row" ["domains","outcome","cells","code"] (fE K Y)) (uQ:Callee P w K mg base 5 "own_row" ["cells","code"] (ji K Y)):aK P w K mg base CX0 6 f fd ["self","name","names","domains","outcome","way","rows"] (bD K Y):=by
 refine F.okA Z17 λd4 A c6 s H vs Q E hr h=>?_
 obtain⟨x,g,na,dl,m,rl,c,B,l,C,rx,bs,o,a1,rfl,hx,S,hw,b5,h1,h4,b0,b1,a0,c2,b4,J,hR,gE,d3,hok,q⟩:=h
 refine⟨_,(ak (aX (aH mB hr U (aa (ar ft (bc (aa (pv 1) ae)) (pv 2)) ae)))
  (ak (aX (aH kS hr U (aa (pv 2) (aa (pv 6) ae))))
  (ak (aX (aH pq hr U (aa (pv 5) (aa (pv 4) ae))))
  (aE (bg GO.never U (aP (pv 6)) (cJ U (az (ax (i:=7) Z17.nd U (Or.inl U)) (az (ax (i:=8) Z17.nd U (Or.inl U)) aY)))
  (af (aX (aH pA hr U (aa (pv 3) (aa (pv 4) (aa (pv 7) (aa (pv 8) ae))))))))
  (ak (cx (pv 0) (pv 1) U)
  (ak (cx (pv 0) (b8 dg U bl.list_ PyProof.Rows.boot_list (aa (pv 2) ae)) U)
  (ak (cx (pv 0) (b8 dg U bl.list_ PyProof.Rows.boot_list (aa (pv 3) ae)) U)
  (ak (cx (pv 0) (pv 4) U)
  (ak (cx (pv 0) (pv 5) U)
  (af (cx (pv 0) (dM (aP (pv 6)) (d9 (N:=["cells","code"]) (k:=2) U U (by decide+kernel) (by decide+kernel) (by decide+kernel)) U (λ_ _ _ _=>(iW (K:=K) (n:=2) U U (az (ax (i:=0) (show(["cells","code"]:List Str).Nodup by decide+kernel) U (Or.inl U) (Or.inr U)) (az (ax (i:=1) (show(["cells","code"]:List Str).Nodup by decide+kernel) U (Or.inl U) (Or.inr U)) aY)))) (λ_ _ _ _=>bC) (λ_ _ _ _=>(aH uQ hr U (aa (pv 0) (aa (pv 1) ae))))) U))))))))))),?_⟩
 have Z:(l.map V.str).length=l.length:=bo _;refine⟨_,U,(by show 1<=FL;decide),λl1 c1=>?_⟩;have s1:=ag c1 (.lst [.str c]);have e1:upd H l1 (.lst [.str c]) l1=Jp (.lst [.str c]):=ab;generalize upd H l1 (.lst [.str c])=H1 at s1 e1⊢;refine⟨_,U,l1,na,_,_,U,U,e1,s1 _ _ S,(by rw[Z];show 1+l.length<=FL;exact big (by lia)),λl2 b6=>?_⟩;have s2:=s1.trans (ag b6 (.lst ([V.str c]++l.map V.str)));have e2:upd H1 l2 (.lst ([V.str c]++l.map V.str)) l2=Jp (.lst ((c :: l).map V.str)):=ab;generalize upd H1 l2 (.lst ([V.str c]++l.map V.str))=H2 at s2 e2⊢;refine⟨l2,c :: l,U,SqL.of e2,hw,b5,by rw[gR];lia,λH3 t3=>?_⟩;have s3:=s2.trans t3;refine⟨_,U,_,U,na,rl,_,_,U,SqL.of (s3 _ _ S),SqL.of (s3 _ _ J),by rw[Z];exact h1,by rw[Z];exact h4,gE,?_⟩;refine⟨_,U,_,U,B,m,U,b0,(λz=>let ⟨dx',fs',e'⟩:=b1 z;⟨dx',fs',s3 _ _ e'⟩),λH4 t4=>?_⟩;have s4:=s3.trans t4;refine⟨λa6 v=>ao H v/\∃c7 c8:Option V,a6=[Jp (.ref x),Jp (.str c),Jp (.ref na),Jp (.ref dl),Jp (.ref m),Jp (.str B),Jp (.ref rl),c7,c8],?_,?_⟩
 .refine⟨_,U,rl,U,⟨_,SqL.of (s4 _ _ J)⟩,bw (xs:=rx) (λi σ v=>ao H v/\∃c7 c8:Option V,σ=[Jp (.ref x),Jp (.str c),Jp (.ref na),Jp (.ref dl),Jp (.ref m),Jp (.str B),Jp (.ref rl),c7,c8]) ⟨s4,_,_,U⟩ (λi σ v _ h=>SqL.of (h.1 _ _ J)) (λi y σ v e h=>?_) (λσ v h=>h)⟩;obtain⟨u,c7,c8,rfl⟩:=h;obtain⟨r,w_,rfl,ew,ce,cv,g1,_,g2,g3⟩:=aC.get (hR.same u) e;refine⟨r,_,U,SqT.of g1,U,_,_,U,_,_,U,U,?_⟩;exact⟨_,U,_,U,_,U,_,U,dl,m,ce,C,cv,bs,o,w_,U,SqL.of (u _ _ a0),aC.mono c2 λ_ _ p=>p.same u,b4.same u,g2,g3,hok w_ (Gd ew),λH2 t2=>⟨u.trans t2,_,_,U⟩⟩
 rintro d0 G ⟨W,c7,c8,rfl⟩;have x5:=W _ _ hx;have a8:na≠x:=fJ S hx (by intro z;cases z);have c4:dl≠x:=fJ a0 hx (by intro z;cases z);have a7:rl≠x:=fJ J hx (by intro z;cases z);have k5:∀b o,b≠x->H b=Jp o->G b=Jp o:=λb o _ e=>W b o e
 have R5:=RL.hide x5 (hR.same W);refine⟨_,U,_,U,x,_,g,_,U,x5,bl.k_Table,bl.na_Table_name,(by show 0<1000;decide),?_⟩;have k6:∀b o,b≠x->G b=Jp o->upd G x (.ins Y.k g [(s!"name",.str c)]) b=Jp o:=λb o t e=>(aw t).trans e
 have x6:upd G x (.ins Y.k g [(s!"name",.str c)]) x=Jp (.ins Y.k g [(s!"name",.str c)]):=ab;have g6:upd G x (.ins Y.k g (bp s!"name" (.str c) []))=upd G x (.ins Y.k g [(s!"name",.str c)]):=rfl;rw[g6];clear g6;generalize upd G x (.ins Y.k g [(s!"name",.str c)])=H6 at k6 x6⊢;refine⟨_,U,na,_,U,.inl (SqL.of (k6 _ _ a8 (W _ _ S))),λd T=>⟨_,U,x,_,g,_,U,bO x6 T,bl.k_Table,bl.na_Table_names,(by show 1<1000;decide),?_⟩⟩;have g7:upd (upd H6 d (.lst (l.map V.str))) x (.ins Y.k g (bp s!"names" (V.ref d) [(s!"name",V.str c)]))=upd (upd H6 d (.lst (l.map V.str))) x (.ins Y.k g [(s!"name",V.str c),(s!"names",V.ref d)]):=by rw[pf1]
 rw[g7];clear g7;have k7:∀b o,b≠x->G b=Jp o->upd (upd H6 d (.lst (l.map V.str))) x (.ins Y.k g [(s!"name",V.str c),(s!"names",V.ref d)]) b=Jp o:=λb o t e=>(aw t).trans (bO (k6 b o t e) T)
 have x7:upd (upd H6 d (.lst (l.map V.str))) x (.ins Y.k g [(s!"name",V.str c),(s!"names",V.ref d)]) x=Jp (.ins Y.k g [(s!"name",V.str c),(s!"names",V.ref d)]):=ab;have I:d≠x:=λz=>by rw[z,x6]at T;cases T
 have j7:upd (upd H6 d (.lst (l.map V.str))) x (.ins Y.k g [(s!"name",V.str c),(s!"names",V.ref d)]) d=Jp (.lst (l.map V.str)):=(aw I).trans ab;generalize upd (upd H6 d (.lst (l.map V.str))) x (.ins Y.k g [(s!"name",V.str c),(s!"names",V.ref d)])=H7 at k7 x7 j7⊢;refine⟨_,U,dl,_,U,.inl (SqL.of (k7 _ _ c4 (W _ _ a0))),λj L=>⟨_,U,x,_,g,_,U,bO x7 L,bl.k_Table,bl.na_Table_domains,(by show 2<1000;decide),?_⟩⟩;have g8:upd (upd H7 j (.lst C)) x (.ins Y.k g (bp s!"domains" (V.ref j) [(s!"name",V.str c),(s!"names",V.ref d)]))=upd (upd H7 j (.lst C)) x (.ins Y.k g [(s!"name",V.str c),(s!"names",V.ref d),(s!"domains",V.ref j)]):=by rw[pf2]
 rw[g8];clear g8;have k8:∀b o,b≠x->G b=Jp o->upd (upd H7 j (.lst C)) x (.ins Y.k g [(s!"name",V.str c),(s!"names",V.ref d),(s!"domains",V.ref j)]) b=Jp o:=λb o t e=>(aw t).trans (bO (k7 b o t e) L)
 have x8:upd (upd H7 j (.lst C)) x (.ins Y.k g [(s!"name",V.str c),(s!"names",V.ref d),(s!"domains",V.ref j)]) x=Jp (.ins Y.k g [(s!"name",V.str c),(s!"names",V.ref d),(s!"domains",V.ref j)]):=ab;have O:j≠x:=λz=>by rw[z,x7]at L;cases L
 have j8:upd (upd H7 j (.lst C)) x (.ins Y.k g [(s!"name",V.str c),(s!"names",V.ref d),(s!"domains",V.ref j)]) d=Jp (.lst (l.map V.str)):=(aw I).trans (bO j7 L);have i8:upd (upd H7 j (.lst C)) x (.ins Y.k g [(s!"name",V.str c),(s!"names",V.ref d),(s!"domains",V.ref j)]) j=Jp (.lst C):=(aw O).trans ab;generalize upd (upd H7 j (.lst C)) x (.ins Y.k g [(s!"name",V.str c),(s!"names",V.ref d),(s!"domains",V.ref j)])=H8 at k8 x8 j8 i8⊢;refine⟨_,U,_,U,x,_,g,_,U,x8,bl.k_Table,bl.na_Table_outcome,(by show 3<1000;decide),?_⟩;have g9:upd H8 x (.ins Y.k g (bp s!"outcome" (V.ref m) [(s!"name",V.str c),(s!"names",V.ref d),(s!"domains",V.ref j)]))=upd H8 x (.ins Y.k g [(s!"name",V.str c),(s!"names",V.ref d),(s!"domains",V.ref j),(s!"outcome",V.ref m)]):=by rw[pf3]
 rw[g9];clear g9;have k9:∀b o,b≠x->G b=Jp o->upd H8 x (.ins Y.k g [(s!"name",V.str c),(s!"names",V.ref d),(s!"domains",V.ref j),(s!"outcome",V.ref m)]) b=Jp o:=λb o t e=>(aw t).trans (k8 b o t e)
 have x9:upd H8 x (.ins Y.k g [(s!"name",V.str c),(s!"names",V.ref d),(s!"domains",V.ref j),(s!"outcome",V.ref m)]) x=Jp (.ins Y.k g [(s!"name",V.str c),(s!"names",V.ref d),(s!"domains",V.ref j),(s!"outcome",V.ref m)]):=ab;have j9:upd H8 x (.ins Y.k g [(s!"name",V.str c),(s!"names",V.ref d),(s!"domains",V.ref j),(s!"outcome",V.ref m)]) d=Jp (.lst (l.map V.str)):=(aw I).trans j8;have i9:upd H8 x (.ins Y.k g [(s!"name",V.str c),(s!"names",V.ref d),(s!"domains",V.ref j),(s!"outcome",V.ref m)]) j=Jp (.lst C):=(aw O).trans i8;generalize upd H8 x (.ins Y.k g [(s!"name",V.str c),(s!"names",V.ref d),(s!"domains",V.ref j),(s!"outcome",V.ref m)])=H9 at k9 x9 j9 i9⊢;refine⟨_,U,_,U,x,_,g,_,U,x9,bl.k_Table,bl.na_Table_way,(by show 4<1000;decide),?_⟩;have a4:upd H9 x (.ins Y.k g (bp s!"way" (V.str B) [(s!"name",V.str c),(s!"names",V.ref d),(s!"domains",V.ref j),(s!"outcome",V.ref m)]))=upd H9 x (.ins Y.k g [(s!"name",V.str c),(s!"names",V.ref d),(s!"domains",V.ref j),(s!"outcome",V.ref m),(s!"way",V.str B)]):=by rw[pf4]
 rw[a4];clear a4;have R:∀b o,b≠x->G b=Jp o->upd H9 x (.ins Y.k g [(s!"name",V.str c),(s!"names",V.ref d),(s!"domains",V.ref j),(s!"outcome",V.ref m),(s!"way",V.str B)]) b=Jp o:=λb o t e=>(aw t).trans (k9 b o t e)
 have M:upd H9 x (.ins Y.k g [(s!"name",V.str c),(s!"names",V.ref d),(s!"domains",V.ref j),(s!"outcome",V.ref m),(s!"way",V.str B)]) x=Jp (.ins Y.k g [(s!"name",V.str c),(s!"names",V.ref d),(s!"domains",V.ref j),(s!"outcome",V.ref m),(s!"way",V.str B)]):=ab;have a2:upd H9 x (.ins Y.k g [(s!"name",V.str c),(s!"names",V.ref d),(s!"domains",V.ref j),(s!"outcome",V.ref m),(s!"way",V.str B)]) d=Jp (.lst (l.map V.str)):=(aw I).trans j9;have a3:upd H9 x (.ins Y.k g [(s!"name",V.str c),(s!"names",V.ref d),(s!"domains",V.ref j),(s!"outcome",V.ref m),(s!"way",V.str B)]) j=Jp (.lst C):=(aw O).trans i9;generalize upd H9 x (.ins Y.k g [(s!"name",V.str c),(s!"names",V.ref d),(s!"domains",V.ref j),(s!"outcome",V.ref m),(s!"way",V.str B)])=H10 at R M a2 a3⊢;have c5:RL NT H10 rx a1:=RL.same R5 (hide_same R);have yR:=R _ _ a7 (W _ _ J)
 refine⟨_,U,rl,U,⟨_,SqL.of yR⟩,eK (xs:=rx) (λD i l v=>ao H10 v/\v D=Jp (.lst l)/\RL (Fr H10 D) v l (a1.take i))
  (λD X=>⟨ag X _,ab,aC.nil⟩) (λD i l v X _ h=>SqL.of (h.1 _ _ yR)) (λD i y l v X e h ts b3=>?_) (λD l v X h=>?_)⟩
 .obtain⟨u,eD,hz⟩:=h;obtain⟨r,w_,rfl,ew,ce,cv,g1,_,g2,g3⟩:=aC.get (c5.same u) e;have hi:i<rx.length:=(Gb.mp e).1;obtain⟨t0,t1,rfl⟩:∃t0 t1,ts=[t0,t1]:=by
   match ts,b3 with
   | [t0,t1],_=>exact⟨t0,t1,U⟩
  refine⟨r,_,U,SqT.of g1,U,_,_,U,_,_,U,U,⟨[Jp (.ref ce),Jp (.int w_.2)],U,U⟩,?_⟩;refine⟨_,U,_,U,ce,cv,w_,U,g2,g3,by rw[(hok w_ (Gd ew)).len];lia,λr2 H2 t2 d1 eA=>?_⟩;have a5:=t2 _ _ eD;have d2:l.length<=200:=by
   have:=hz.1;rw[ia]at this;lia
  refine cQ.mk hi a5 (ay (by lia)) ⟨(u.trans t2).upd X,ab,?_⟩;rw[take_snoc ew];exact RL.updN (aC.snoc (hz.same t2) (eA.wk λa h=>⟨u.free h,λz=>by rw[z,eD]at h;cases h⟩)) Fr.out a5
 .obtain⟨u,eD,hz⟩:=h;rw[hR.1,fq]at hz;refine⟨_,U,x,_,g,_,U,u _ _ M,bl.k_Table,bl.na_Table_rows,(by show 5<1000;decide),?_⟩;have c3:upd v x (.ins Y.k g (bp s!"rows" (V.ref D) [(s!"name",V.str c),(s!"names",V.ref d),(s!"domains",V.ref j),(s!"outcome",V.ref m),(s!"way",V.str B)]))=upd v x (.ins Y.k g [(s!"name",V.str c),(s!"names",V.ref d),(s!"domains",V.ref j),(s!"outcome",V.ref m),(s!"way",V.str B),(s!"rows",V.ref D)]):=by rw[pf5]
  rw[c3];have a9:D≠x:=λz=>by rw[z,M]at X;cases X
  refine q _ _ D l (λb o t e=>(aw t).trans (u _ _ (R b o t (W _ _ e)))) ab U U U U ⟨d,j,U,U,(aw I).trans (u _ _ a2),(aw O).trans (u _ _ a3)⟩ ((aw a9).trans eD) ?_;exact RL.same (RL.hide (u _ _ M) hz.any) (hide_same λb o t e=>(aw t).trans e)
theorem EK{k n:Nat}(F:Fun K "boxes" "boxes" Y33 f fd) (bl:Bl K mg Y)(pB:Callee P w K mg base k "boxes" ["form","deep"] (gZ K Y n)):aK P w K mg base CX0 (k+1) f fd ["form","deep"] (gZ K Y (n+1)):=by
 refine F.okA Z33 λd2 A c8 s H vs Q E hr h=>?_
 obtain⟨d,J,v,rfl,hf,hn,G,h6,q⟩:=h
 refine⟨_,(ak (aO (aJ cc (pv 1) ai (aL _))
  (af (au (bc (aa (ba (aa (ba ae) (aa (pv 0) ae))) ae))))
  aG)
  (ak (aF (i:=2) Z33.nd U (Or.inl U) (bc ae))
  (ak (bg GO.never U (zr (pv 0)) (cJ U (az (ax (i:=3) Z33.nd U (Or.inl U)) (az (ax (i:=4) Z33.nd U (Or.inl U)) (az (ax (i:=5) Z33.nd U (Or.inl U)) aY))))
  (af (bg GO.never U (aP (aH pB hr U (aa (pv 5) (aa (ar dC (pv 1) ai) ae)))) (cJ U (az (ax (i:=6) Z33.nd U (Or.inl U)) (az (ax (i:=7) Z33.nd U (Or.inl U)) aY)))
  (af (aX (fK PySem.F.plainAttrs_list PySem.F.slot_list_append PySem.F.type_list_append bK (pv 2) (aa (ba (aa (ar vz (ba (aa (ba (aa (pv 3) (aa (pv 4) ae))) ae)) (pv 6)) (aa (pv 7) ae))) ae)))))))
  (af (au (pv 2)))))),?_⟩
 cases d with
 |zero =>
  have hf:v=.int J:=hf;subst hf;refine⟨_,U,U,_,U,dN U ?_⟩;refine⟨(by show 0<=FL;decide),λb hb=>?_⟩;have s1:=ag hb (.tup []);have e1:upd H b (.tup []) b=Jp (.tup []):=ab;generalize upd H b (.tup [])=H1 at s1 e1⊢;refine⟨_,U,br,λt ht=>?_⟩;have s2:=ag ht (.tup [.ref b,.int J]);have e2:upd H1 t (.tup [.ref b,.int J]) t=Jp (.tup [.ref b,.int J]):=ab;generalize upd H1 t (.tup [.ref b,.int J])=H2 at s2 e2⊢;refine⟨(by show 1<=FL;decide),λl T=>?_⟩;have s3:=ag T (.lst [V.ref t]);have s:=(s1.trans s2).trans s3;exact q l _ _ s ((s1.trans s2).free T) ab (.cons ⟨t,b,U,s3 _ _ e2,⟨[],s3 _ _ (s2 _ _ e1),.nil⟩⟩ .nil)
 |succ d =>
  obtain⟨r,xs,rfl,er,hp⟩:=hf;obtain⟨L,hL⟩:∃L:List (T3a (Fm Int d)),L=J:=⟨J,U⟩;have hp:FmL (FmV vS H d) H L xs:=by rw[hL];exact hp
  have G:(bxs (d+1) (show Fm Int (d+1)from L)).length<=2000:=by rw[hL];exact G
  have h6:∀q∈bxs (d+1) (show Fm Int (d+1)from L),q.1.length<=6:=by rw[hL];exact h6
  have q:∀(l:E2)(xs:List V)(g:Hp),ao H g->H l=Jq->g l=Jp (.lst xs)->BxL g xs (bxs (d+1) (show Fm Int (d+1)from L))->Q (.ref l) g:=by rw[hL];exact q
  have a7:xs.length=L.length:=hp.1;refine⟨_,U,U,_,U,bB (λz=>by have:=V.int.inj z;lia) ?_⟩;refine⟨(by show 0<=FL;decide),λl T=>?_⟩;have s0:ao H (upd H l (.lst [])):=ag T _;have e0:upd H l (.lst []) l=Jp (.lst []):=ab;generalize upd H l (.lst [])=H0 at s0 e0⊢;refine⟨_,U,r,U,⟨_,SqT.of (s0 _ _ er)⟩,xb (xs:=xs) (λi y g=>ao H g/\∃(B:List V)(c3 c4 c5 N M:Option V),g l=Jp (.lst B)/\BxL g B (bxs (d+1) (show Fm Int (d+1)from L.take i))/\y=[Jp (.ref r),Jp (.int ((d+1:Nat):Int)),Jp (.ref l),c3,c4,c5,N,M]) ⟨s0,[],_,_,_,_,_,e0,.nil,U⟩ (λi y g _ h=>SqT.of (h.1 _ _ er)) (λi x y g ex I=>?_) (λy g I=>?_)⟩
  .obtain⟨W,B,c3,c4,c5,N,M,el,hy,rfl⟩:=I;obtain⟨e,ee⟩:∃e,L[i]?=Jp e:=⟨_,Ga (by have:=(Gb.mp ex).1;lia)⟩;obtain⟨t,u,a3,et,hu⟩:=hp.2 i e ee;rw[ex]at a3;cases a3;have es:bxs (d+1) (show Fm Int (d+1)from L.take (i+1))=bxs (d+1) (show Fm Int (d+1)from L.take i)++((bxs d e.2.2).map λq=>((e.1,e.2.1) :: q.1,q.2)):=by
    rw[take_snoc ee,tH,xO]
   have mX:∀q∈(bxs d e.2.2).map (λq=>((e.1,e.2.1) :: q.1,q.2)),q∈bxs (d+1) (show Fm Int (d+1)from L):=λq hq=>pk.mpr ⟨e,Gd ee,hq⟩
   have d1:(bxs (d+1) (show Fm Int (d+1)from L.take i)).length+(bxs d e.2.2).length<=2000:=by
    have e3:bxs (d+1) (show Fm Int (d+1)from L)=bxs (d+1) (show Fm Int (d+1)from L.take (i+1))++bxs (d+1) (show Fm Int (d+1)from L.drop (i+1)):=by rw[←tH,List.take_append_drop]
    have:=JB List.length e3;rw[es,dq,dq,bo]at this;lia
   have b3:∀q∈bxs d e.2.2,q.1.length<=6:=λq hq=>by
    have:=h6 _ (mX _ (eR.mpr ⟨q,hq,U⟩));have:q.1.length+1<=6:=this;lia
   have b4:∀q∈bxs d e.2.2,q.1.length<=5:=λq hq=>by
    have:=h6 _ (mX _ (eR.mpr ⟨q,hq,U⟩));have:q.1.length+1<=6:=this;lia
   refine⟨t,_,U,SqT.of (W _ _ et),U,_,_,U,_,_,U,_,_,U,U,?_⟩;refine⟨_,U,_,U,_,_,U,U,d,e.2.2,u,(by show[u,V.int (((d+1:Nat):Int)-1)]=[u,V.int (d:Int)];rw[show((d+1:Nat):Int)-1=(d:Int) by lia]),FmV.mono W.tups hu,by lia,by lia,b3,λl2 zs H2 s2 f2 e2 hz=>?_⟩;have c1:=s2 _ _ el;have nl:l≠l2:=λz=>by rw[←z,el]at f2;cases f2
   refine⟨l2,U,⟨_,SqL.of e2⟩,bw (xs:=zs) (λk y o=>ao H o/\cy H2 o/\o l2=Jp (.lst zs)/\∃(B:List V)(N M:Option V),o l=Jp (.lst B)/\BxL o B (bxs (d+1) (show Fm Int (d+1)from L.take i)++((bxs d e.2.2).take k).map λq=>((e.1,e.2.1) :: q.1,q.2))/\y=[Jp (.ref r),Jp (.int ((d+1:Nat):Int)),Jp (.ref l),Jp (.int e.1),Jp (.int e.2.1),Jp u,N,M]) ⟨W.trans s2,(λ_ _ h=>h),e2,B,_,_,c1,by rw[List.take_zero,vr,jt];exact hy.mono s2.tups,U⟩ (λk y o _ h=>SqL.of h.2.2.1) (λk x y o b5 I=>?_) (λy o I=>?_)⟩
   .obtain⟨R,O,a4,C,N,M,D,m,rfl⟩:=I;obtain⟨X,S,t2,b2,rfl,b6,b1⟩:=mh (hz.mono O) b5;have hk:k<(bxs d e.2.2).length:=(Gb.mp S).1;have d0:=b4 X (Gd S);refine⟨t2,_,U,SqT.of b6,U,_,_,U,_,_,U,U,?_⟩;refine⟨_,U,.inl ⟨U,_,SqL.of D⟩,_,U,_,U,br,λp a9=>?_⟩;have u1:=ag a9 (.tup [.int e.1,.int e.2.1]);have g1:upd o p (.tup [.int e.1,.int e.2.1]) p=Jp (.tup [.int e.1,.int e.2.1]):=ab;generalize upd o p (.tup [.int e.1,.int e.2.1])=H4 at u1 g1⊢;refine⟨(by show 1<=FL;decide),λp2 b0=>?_⟩;have u2:=ag b0 (.tup [V.ref p]);have g2:upd H4 p2 (.tup [V.ref p]) p2=Jp (.tup [V.ref p]):=ab;generalize upd H4 p2 (.tup [V.ref p])=H5 at u2 g2⊢;obtain⟨bs,c2,a1⟩:=b1;have a0:=u1.trans u2;refine⟨_,U,wb g2 (a0 _ _ c2) (x3 (ay (by rw[a1.length,hQ];lia))) λZ H6 u3 g3=>?_⟩;have a5:=a0.trans u3;refine⟨_,U,br,λc a8=>?_⟩;have u4:=ag a8 (.tup [.ref Z,.int X.2]);have g4:upd H6 c (.tup [.ref Z,.int X.2]) c=Jp (.tup [.ref Z,.int X.2]):=ab;generalize upd H6 c (.tup [.ref Z,.int X.2])=H7 at u4 g4⊢;have a:=a5.trans u4;have a2:=a _ _ D;refine⟨l,_,_,U,U,a2,oj (by rw[m.length,dq,bo,ia];lia),?_⟩;have j:cy H7 (upd H7 l (.lst (C++[.ref c]))):=bj a2;refine⟨(R.trans a).upd T,(O.trans a.tups).trans j,(aw nl.symm).trans (a _ _ a4),C++[.ref c],_,_,ab,?_,U⟩;rw[take_snoc S,fR,←uU];refine sh (m.mono (a.tups.trans j)) (.cons ⟨c,Z,U,j _ _ g4,⟨_,j _ _ (u4 _ _ g3),?_⟩⟩ .nil);have a6:PL H7 [V.ref p] [(e.1,e.2.1)]:=.cons ⟨p,U,u4 _ _ (u3 _ _ (u2 _ _ g1))⟩ .nil;exact(PL.app a6 (a1.mono a.tups)).mono j
   .obtain⟨R,O,a4,C,N,M,D,m,rfl⟩:=I;rw[hz.length,fq]at m;exact⟨R,C,_,_,_,_,_,D,by rw[es];exact m,U⟩
  .obtain⟨W,B,c3,c4,c5,N,M,el,hy,rfl⟩:=I;rw[a7,fq]at hy;exact⟨_,U,q l B g W T el hy⟩
theorem EL(F:Fun K "leaning_tile" "leaning_tile" Y71 f fd) (bl:Bl K mg Y)(mC:Callee P w K mg base 6 "leans_on" ["table","tile","k"] (gY K Y)):aK P w K mg base CX0 7 f fd ["table","tiles","k","before"] (dW K Y):=by
 refine F.okA Z71 λa1 A X s H vs Q E hr h=>?_
 obtain⟨t,v,k,bv,xs,N,n,i,o,rfl,D,p,C,hk,S,q⟩:=h
 refine⟨_,(aE (aO (PW.pt (dz (aJ sL (pv 3) kc (aL _)) (cS (bq (aH mC hr U (aa (pv 0) (aa (aI aM (pv 1) (pv 3) (λ_ _=>U)) (aa (pv 2) ae))))))))
  (af (au (pv 3)))
  aG)
  (ak (bg GO.never U (jS U bl.enumerate_ (aa (pv 1) ae)) (cJ U (az (ax (i:=4) Z71.nd U (Or.inl U)) (az (ax (i:=5) Z71.nd U (Or.inl U)) aY)))
  (af (aO (bq (aH mC hr U (aa (pv 0) (aa (pv 5) (aa (pv 2) ae)))))
  (af (au (pv 4)))
  aG)))
  (af (au kc)))),?_⟩
 have R:xs.length=N.length:=C.1;refine⟨λO c=>ao H c/\O=[Jp (.ref t),Jp (.ref v),Jp (.int (k:Int)),Jp bv,Jq,Jq],?_,?_⟩
 .rcases S with rfl|⟨b,rfl,hb⟩
  .exact⟨_,U,U,Js,U,aW ⟨ao.refl _,U⟩⟩
  .have r:=Ga hb;generalize N[b]=m at r;obtain⟨l,W,M,B,I,G⟩:=C.2 b m r;refine⟨_,U,U,Jr,by rw[Jz (by intro z;cases z)];rfl,cD ?_⟩;refine⟨_,U,_,U,_,U,v,_,_,_,U,U,SqL.of p,bN W,_,U,t,l,M,B,k,m,n,i,o,U,D,SqT.of I,G,hk,λH2 s2=>⟨_,U,?_⟩⟩;refine c9 (λg=>?_) (λ_=>⟨s2,U⟩);exact⟨_,U,q _ H2 s2 (.inl ⟨b,U,hb,m,Gd r,g⟩)⟩
 rintro a0 H1 ⟨s1,rfl⟩;refine⟨_,U,v,U,⟨_,SqL.of (s1 _ _ p)⟩,jT (xs:=xs) (λj u c=>ao H c/\(∀m∈N.take j,ck n i o k m=Js)/\∃L J:Option V,u=[Jp (.ref t),Jp (.ref v),Jp (.int (k:Int)),Jp bv,L,J]) ⟨s1,(λm hm=>by simp at hm),_,_,U⟩ (λj u c h=>SqL.of (h.1 _ _ p)) (λj y u c T e h D=>?_) (λu c h=>?_)⟩
 .obtain⟨x,d,L,J,rfl⟩:=h;obtain⟨l,m,rfl,r,M,B,I,G⟩:=aC.get C e;have hj:j<xs.length:=(Gb.mp e).1;have s2:=x.trans (ag D (.tup [.int (j:Int),.ref l]));have eT:upd c T (.tup [.int (j:Int),.ref l]) T=Jp (.tup [.int (j:Int),.ref l]):=ab;generalize upd c T (.tup [.int (j:Int),.ref l])=H2 at s2 eT⊢;refine⟨T,_,U,SqT.of eT,U,_,_,U,_,_,U,U,?_⟩;refine⟨_,U,_,U,_,U,t,l,M,B,k,m,n,i,o,U,Tbl.same ‹_› s2,SqT.of (s2 _ _ I),s2.seqT G,hk,λH3 Z=>⟨_,U,?_⟩⟩;refine c9 (λg=>?_) (λg=>?_)
  .exact⟨_,U,q _ H3 (s2.trans Z) (.inl ⟨j,U,by lia,m,Gd r,g⟩)⟩
  .refine⟨s2.trans Z,λm' a=>?_,_,_,U⟩;rw[take_snoc r]at a;rcases iK.mp a with a | a
   .exact d m' a
   .rw[iN.mp a];exact Bp.mpr g
 .obtain⟨x,d,L,J,rfl⟩:=h;rw[R,fq]at d;exact q .non c x (.inr ⟨U,d⟩)
theorem EM(F:Fun K "with_rows" "with_rows" Y88 f fd) (bl:Bl K mg Y)(k_Table:bh CX0 P w K mg base 6 "Table" Y.k ["self","name","names","domains","outcome","way","rows"] (bD K Y)):aK P w K mg base CX0 8 f fd ["table","rows"] (gs K Y):=by
 refine F.okA Z88 λa3 A M s H vs Q E hr h=>?_
 obtain⟨t,W,X,Z,T,S,dv,V,wL,j,bs,o,rfl,⟨a0,dx,na,dl,fs,xs,g,f1,f2,f3,f4,f5,f6,I,J,F1,a2,gE⟩,ok,G,R,q⟩:=h;refine⟨_,(af (au (sU k_Table bV hr U (aa (aN (pv 0) U) (aa (aN (pv 0) U) (aa (aN (pv 0) U) (aa (aN (pv 0) U) (aa (aN (pv 0) U) (aa (pv 1) ae))))))))),?_⟩;refine⟨_,U,t,_,_,_,_,U,g,bl.k_Table,bl.na_Table_name,f2,_,U,t,_,_,_,_,U,g,bl.k_Table,bl.na_Table_names,f5,_,U,t,_,_,_,_,U,g,bl.k_Table,bl.na_Table_domains,f6,_,U,t,_,_,_,_,U,g,bl.k_Table,bl.na_Table_outcome,f4,_,U,t,_,_,_,_,U,g,bl.k_Table,bl.na_Table_way,f3,_,U,λx c O C a1=>?_⟩;have d:ao H (upd (upd H c (.own x)) x (.ins Y.k c [])):=(ag C _).upd O;have a:=ok.same d;refine⟨x,c,na,dl,X,W,Z,T,S,dv,V,bs,o,j,U,ab,d _ _ I,a.words,a.once,a.one,a.four,a.way,a.sum,d _ _ J,a.doms,a.out,d _ _ G,R.same d,by rw[R.1];exact ok.few,by rw[a.len];exact a.four,a.rows,λH' D l i k1 k2 k3 B z y ⟨m,L,v,r,p,n⟩ k4 N=>⟨U,q x H' (λb u e=>k1 b u (aU e O) (d _ _ e)) ⟨l,c,m,L,D,i,k2,k3,y,B,z,v,r,p,n,k4,N,by rw[N.1];exact ok.few⟩⟩⟩
theorem EN(F:Fun K "last_idle" "last_idle" Y47 f fd) (bl:Bl K mg Y)(mD:Callee P w K mg base 7 "leaning_tile" ["table","tiles","k","before"] (dW K Y)):aK P w K mg base CX0 8 f fd ["table","tiles","kept","needed"] (gu K Y):=by
 refine F.okA Z47 λb3 A a8 s H vs Q E hr h=>?_
 obtain⟨t,tl,kl,g,xs,nv,J,B,r,i,o,rfl,hT,a2,hX,X,a5,b1,a7,a3,q⟩:=h
 refine⟨_,(ak (bg GO.never U (Ag U bl.reversed_ (aa (pv 2) ae)) (ax (i:=4) Z47.nd U (Or.inl U))
  (aE (oC (aH mD hr U (aa (pv 0) (aa (pv 1) (aa (pv 4) (aa (aI aM (pv 3) (pv 4) (λ_ _=>U)) ae))))) (oB (pv 3) (pv 4) set_list))
  (af (aO (aJ zA (aI aM (pv 3) (pv 4) (λ_ _=>U)) kc (aL _))
  (af (au (pv 4)))
  aG))))
  (af (au kc))),?_⟩
 have R:(vN B).length=B.length:=cK B;have T:ao (hide H g) H:=dH H g;have a1:hide H g g=none:=Jw U;refine⟨_,U,kl,_,U,SqL.of (T _ _ X),xF (xs:=vN B) (λj σ L=>ao (hide H g) L/\∃(c:List V)(c4:Option V),L g=Jp (.lst c)/\c.length=nv.length/\(∀v∈c,v=.non\/∃b:Nat,v=.int (b:Int)/\b<J.length)/\(∀a C:Nat,B.length-j<=a->B[a]?=Jp C->¬ ∀m∈J,ck r i o C m=Js)/\σ=[Jp (.ref t),Jp (.ref tl),Jp (.ref kl),Jp (.ref g),c4]) ⟨T,nv,_,a7,U,a3,(λa C ha e=>Jx (Gb.mp e).1 (by lia)),U⟩ (λj σ L _ h=>SqL.of (h.1 _ _ X)) (λj y σ L hj e h=>?_) (λσ L h=>?_)⟩
 .obtain⟨I,c,c4,en,G,hn,x,rfl⟩:=h;rw[R]at hj e;obtain⟨k,rfl,ek⟩:=oo e;have hk:=a5 k (Gd ek);have ev:=Ga (l:=c) (i:=k) (by lia);have Z:=hn _ (Gd ev);generalize c[k]=bv at ev Z;refine⟨λa0 O=>ao (hide H g) O/\∃(v:V)(d:List V),O g=Jp (.lst d)/\d.length=nv.length/\d[k]?=Jp v/\(∀v∈d,v=.non\/∃b:Nat,v=.int (b:Int)/\b<J.length)/\((v=.non/\∀m∈J,ck r i o k m=Js)\/(v≠.non/\∃m∈J,ck r i o k m=Jr))/\a0=[Jp (.ref t),Jp (.ref tl),Jp (.ref kl),Jp (.ref g),Jp (.int (k:Int))],?_,?_⟩
  .refine⟨_,U,_,U,_,U,_,U,_,U,g,_,_,_,U,U,SqL.of en,bN ev,t,tl,k,bv,xs,J,r,i,o,U,Tbl.same hT I,I _ _ a2,hX.same I,by lia,Z,λv O s2 hv=>?_⟩;have n:=s2 _ _ en;refine⟨_,U,_,U,g,_,_,_,U,U,n,xN (by lia),?_⟩;refine⟨(I.trans s2).upd a1,v,c.set k v,ab,by rw[vl];exact G,List.getElem?_set_self (by lia),λu M=>?_,?_,U⟩
   .rcases List.mem_or_eq_of_mem_set M with M|M
    .exact hn u M
    .rw[M];rcases hv with⟨p,e,hp,_⟩|⟨e,_⟩
     .exact .inr ⟨p,e,hp⟩
     .exact .inl e
   .rcases hv with⟨p,e,hp,D⟩|⟨e,D⟩
    .exact .inr ⟨(by rw[e];intro z;cases z),D⟩
    .exact .inl ⟨e,D⟩
  rintro a9 O ⟨s2,v,d,n,W,a6,S,hv,rfl⟩;refine⟨_,U,_,U,g,_,_,_,U,U,SqL.of n,bN a6,U,?_⟩;rcases hv with⟨rfl,D⟩|⟨a4,m,D,hl⟩
  .refine⟨Jr,U,cD ⟨_,U,q _ d O s2 n W S (.inl ⟨_,k,ek,U,D,λj' C b0 N=>x j' C (by lia) N⟩)⟩⟩
  .refine⟨Js,by rw[Jz a4],aW ⟨s2,d,_,n,W,S,λa C ha N=>?_,U⟩⟩;by_cases hz:a=B.length-1-j
   .rw[hz,ek]at N;cases N;exact λz=>by rw[z m D]at hl;cases hl
   .exact x a C (by lia) N
 .obtain⟨I,c,c4,en,G,hn,x,rfl⟩:=h;refine q .non c L I en G hn (.inr ⟨U,λk hk=>?_⟩);obtain⟨a,ea⟩:=jn hk;exact x a k (by rw[R];lia) ea
theorem EO(F:Fun K "_law_table" "_law_table" Y65 f fd) (bl:Bl K mg Y)(B:bh CX0 P w K mg base 6 "Table" Y.k ["self","name","names","domains","outcome","way","rows"] (bD K Y)) (fk:Callee P w K mg base 7 "_law_word" ["cell","k"] (fi K Y)) (i3:Callee P w K mg base 7 "_law_domain" ["column"] (fG K Y)) (fm:Callee P w K mg base 7 "_law_rows" ["bit_rows","columns"] (fj K Y)):aK P w K mg base CX0 8 f fd ["head","columns","out","way","bit_rows"] (gv K Y):=by
 refine F.okA Z65 λf0 A e5 s H vs Q E hr h=>?_
 obtain⟨h,cl,ol,a3,wy,xs,m,g,oc,ws,wi,rfl,a0,Z,hok,b3,J,d1,c1,a6,ph,ER,o,gE,b0,q⟩:=h
 refine⟨_,(aE (jM (i:=5) Z65.nd U (Or.inl U) (dA U bl.range_ (aa (av aD U bl.len_ Jo (aa (pv 1) ae)) ae)) (bX (N:=["j","head"]) (fr:=[0]) (cl:=[("head",s.heap.objs.size+1)]) U U (by decide+kernel) (by decide+kernel) U (by decide+kernel) U U U (hZ.mpr ⟨U,iM _⟩) U) U (λ_ _ _ _=>bC) (λ_ _ _ _=>(aH fk hr U (aa (ar bu (pv 1) ai) (aa (ar bz ai (pv 0)) ae)))))
  (aE (jM (i:=6) Z65.nd U (Or.inl U) (aP (pv 1)) (dJ U (by decide+kernel) (by decide+kernel) (by decide+kernel) U) U (λ_ _ _ _=>bC) (λ_ _ _ _=>(aH i3 hr U (aa (pv 0) ae))))
  (af (au (sU B bV hr U (aa (aH fk hr U (aa (ar bu (pv 0) ai) (aa ai ae))) (aa (pv 5) (aa (pv 6) (aa (aH i3 hr U (aa (pv 2) ae)) (aa (pv 3) (aa (aH fm hr U (aa (pv 4) (aa (pv 1) ae))) ae))))))))))),?_⟩
 have a5:xs.length=g.length:=Z.1;refine⟨λT a=>ao H a/\∃na:E2,a na=Jp (.lst (((List.range g.length).map λj:Nat=>wd (h / 16) (1+(0+(j:Int)))).map V.str))/\T=[Jp (.int h),Jp (.ref cl),Jp (.ref ol),Jp (.str wy),Jp (.ref a3),Jp (.ref na),Jq],?_,?_⟩
 .refine⟨_,U,cl,_,U,.inl (SqL.of a0),_,U,(by show -(2^62)<=((xs.length:Nat):Int);lia),(by show((xs.length:Nat):Int)<2^62;lia),eJ (λD i m a=>ao H a/\a D=Jp (.lst m)/\m=((List.range i).map λj:Nat=>wd (h / 16) (1+(0+(j:Int)))).map V.str) (λD C=>⟨ag C _,ab,U⟩) (λD i m a C hi G=>?_) (λD m a C G=>?_)⟩
  .obtain⟨L,S,rfl⟩:=G;refine⟨_,U,_,_,U,U,⟨by decide,by decide⟩,_,U,_,_,U,U,_,_,U,cQ.mk hi S (ay (by rw[bo,bo,jq];lia)) ⟨L.upd C,ab,?_⟩⟩;rw[oz,fR,fR];rfl
  .obtain⟨L,S,rfl⟩:=G;refine⟨L,D,?_,U⟩;rw[S,←a5];rfl
 rintro e7 H5 ⟨t5,na,d5,rfl⟩;have ye:=t5 _ _ a0;have AN:=Z.same t5;refine⟨λT a=>ao H5 a/\∃(dl:E2)(dv:List V),a dl=Jp (.lst dv)/\aC dv g (dP Y.i Y.j a)/\T=[Jp (.int h),Jp (.ref cl),Jp (.ref ol),Jp (.str wy),Jp (.ref a3),Jp (.ref na),Jp (.ref dl)],?_,?_⟩
 .refine⟨_,U,cl,U,⟨_,SqL.of ye⟩,cn (xs:=xs) (λD i m a=>ao H5 a/\a D=Jp (.lst m)/\aC m (g.take i) (dP Y.i Y.j (hide a D))) (λD C=>⟨ag C _,ab,aC.nil⟩) (λD i m a C _ G=>SqL.of (G.1 _ _ ye)) (λD i y m a C e G=>?_) (λD m a C G=>?_)⟩
  .obtain⟨L,S,o⟩:=G;obtain⟨l,c,rfl,R,hc⟩:=aC.get (AN.same L) e;have hi:i<xs.length:=(Gb.mp e).1;have ok:=hok c (Gd R);refine⟨_,U,l,c,U,hc,hok c (Gd R),λd H2 s' hd=>?_⟩;have b4:=s' _ _ S;have e9:m.length<=4:=by have:=o.1;rw[ia]at this;lia
   have d3:dP Y.i Y.j (hide H2 D) d c:=hd.hide b4 (λx hx=>by
    obtain⟨j,ej⟩:=jn hx;obtain⟨r,_,er,_⟩:=aC.get o ej;exact⟨r,er⟩) (λhw=>by
    obtain⟨p0,e0,l0⟩:=ok.first;have:=ok.w0 hw p0 e0;have:=ok.le;lia)
   refine cQ.mk hi b4 (ay (by lia)) ⟨(L.trans s').upd C,ab,?_⟩;rw[take_snoc R,jZ];exact aC.snoc (aC.mono o λ_ _ p=>p.same (iD s')) d3
  .obtain⟨L,S,o⟩:=G;rw[a5,fq]at o;exact⟨L,D,m,S,aC.mono o λ_ _ p=>p.same (dH a D),U⟩
 rintro e6 H6 ⟨t6,dl,dv,e3,X,rfl⟩;have s6:=t5.trans t6;have ES:=t6 _ _ d5;have pC:(∀z∈wd (h / 16) 0 :: (List.range g.length).map (λj:Nat=>wd (h / 16) (1+(0+(j:Int)))),isw z=Jr)/\(wd (h / 16) 0 :: (List.range g.length).map (λj:Nat=>wd (h / 16) (1+(0+(j:Int))))).Nodup:=by
  constructor
  .intro z o;rcases dy.mp o with rfl|o
   .exact rZ _ _
   .obtain⟨j,_,rfl⟩:=eR.mp o;exact rZ _ _
  .have nd:=oh (c:=h / 16) (n:=g.length+1) (by lia) (λj:Nat=>(j:Int)) (λj hj=>⟨by lia,by lia⟩) λi j e=>by lia
   have e:((List.range (g.length+1)).map λj:Nat=>wd (h / 16) (j:Int))=wd (h / 16) 0 :: (List.range g.length).map λj:Nat=>wd (h / 16) (1+(0+(j:Int))):=by
    rw[List.range_succ_eq_map,mH,ov]
    congr 1
    apply List.map_congr_left
    intro j _;show wd (h / 16) ((j+1:Nat):Int)=_
    congr 1
    lia
   rw[e]at nd;exact nd
 have v:((List.range g.length).map λj:Nat=>wd (h / 16) (1+(0+(j:Int)))).length=g.length:=by simp
 have b1:(g.map Col.b).length=g.length:=bo _;refine⟨_,U,_,_,U,U,⟨by decide,by decide⟩,_,_,U,_,U,_,U,_,U,ol,oc,U,d1.same s6,c1,λou H7 s7 AO=>?_⟩;have a9:=AO.dom;have sA:=s6.trans s7;refine⟨_,U,_,U,_,U,a3,cl,m,xs,ws,g,U,sA _ _ ER,o.same sA,gE,sA _ _ a0,Z.same sA,hok,J,λw hw=>(b0 w hw).len,λrl rx I H8 M d4 a7 W=>?_⟩;intro x O hx d2 e8;have s9:ao H8 (upd (upd H8 O (.own x)) x (.ins Y.k O [])):=(ag d2 _).upd hx;have u9:=s7.trans (M.trans s9);have a8:=W.rowOk b0 hok;have F4:rx.length=I.length:=a7.1;have yS:I.length<=200:=by rw[W.1];exact gE
 have B8:aC dv (g.map Col.b) (Dom Y.i Y.j H6):=⟨by rw[bo];exact X.1,λj b e=>by
  rw[eU]at e;cases R:g[j]? with
  |none=>rw[R]at e;cases e
  |some c =>
   rw[R]at e;cases e;obtain⟨r,e1,p⟩:=X.2 j c R;exact⟨r,e1,p.dom⟩⟩
 have yT:wy=s!"sum" -> ∃O fs,H7 ou=Jp (.ins Y.i O fs):=λz=>by
  rcases AO with⟨_,O,fs,e,_⟩|⟨hw,_⟩
  .exact⟨O,fs,e⟩
  .rw[ph z]at hw;cases hw
 refine⟨x,O,na,dl,ou,rl,_,_,(List.range g.length).map λj:Nat=>wd (h / 16) (1+(0+(j:Int))),dv,rx,g.map Col.b,oc.b,I,U,ab,u9 _ _ ES,pC.1,pC.2,by rw[v];exact b3,by rw[v];exact J,Gd a6,λz=>?_,u9 _ _ e3,aC.mono B8 λ_ _ p=>p.same u9,a9.same (M.trans s9),s9 _ _ d4,(RL.any a7).same s9,by lia,by rw[b1];exact J,a8,λa fs b6 b5 k1 k2 k3 d0 c8 c7 ⟨c2,e4,c6,c5,c4,c3⟩ k4 k5=>?_⟩
 .obtain⟨a2,a1,e2⟩:=yT z;exact⟨a2,a1,s9 _ _ (M _ _ e2)⟩
 .have t:ao H8 a:=λb u e=>k1 b u (aU e hx) (s9 _ _ e)
  have a4:ao H6 a:=(s7.trans M).trans t;refine⟨U,q x ou dv I a ((s6.trans s7).trans (M.trans t)) ⟨b6,O,c2,e4,fs,b5,k2,k3,c7,d0,c8,c6,c5,c4,c3,k4,k5,by rw[k5.1];exact yS⟩ ⟨pC.1,pC.2,by rw[v];exact b3,by rw[v];exact J,Gd a6,λz=>?_,aC.mono B8 λ_ _ p=>p.same a4,a9.same (M.trans t),by rw[b1,v],a8,yS⟩ (aC.mono X λ_ _ p=>p.same a4) (AO.same (M.trans t)) W⟩;obtain⟨a2,a1,e2⟩:=yT z;exact⟨a2,a1,t _ _ (M _ _ e2)⟩
theorem ET{k n:Nat}(F:Fun K "layered" "layered" Y70 f fd) (bl:Bl K mg Y)(wQ:Callee P w K mg base k "closed" ["triples"] (kz K Y)) (kE:Callee P w K mg base k "layered" ["columns","ahead","leaf"] (eV K Y P w mg base n)) (hk:8<=k):aK P w K mg base CX0 (k+1) f fd ["columns","ahead","leaf"] (eV K Y P w mg base (n+1)):=by
 refine F.okA Z70 λc1 A b5 s H vs Q E hr h=>?_
 obtain⟨c,b,f_,xs,a,M,m,L,iL,A,g,J,rfl,hn,hc,hC,hb,a1,b3,b0,hm,Z,hJ,q⟩:=h
 refine⟨_,(ak (aO (bW (de (pv 0) (by intro _;rfl)))
  (af (au (xx (k:=8) (i:=2) (hr.mono hk) U (Or.inr (Or.inl U)) (aa (pv 1) ae))))
  aG)
  (af (au (aH wQ hr U (aa (dM (aP (aI aM (pv 0) ai (λ_ _=>U))) (cZ (N:=["low","high","columns","ahead","leaf"]) (k:=2) (fr:=[0,1,2]) (cl:=[("leaf",s.heap.objs.size+1+1+1),("columns",s.heap.objs.size+1),("ahead",s.heap.objs.size+1+1)]) U U (by decide+kernel) (by decide+kernel) U U (hZ.mpr ⟨U,hZ.mpr ⟨U,hZ.mpr ⟨U,iM _⟩⟩⟩) U) U (λ_ _ _ _=>(iW (K:=K) (n:=2) U U (az (ax (i:=0) (show(["low","high","columns","ahead","leaf"]:List Str).Nodup by decide+kernel) U (Or.inl U) (Or.inr U)) (az (ax (i:=1) (show(["low","high","columns","ahead","leaf"]:List Str).Nodup by decide+kernel) U (Or.inl U) (Or.inr U)) aY)))) (λ_ _ _ _=>bC) (λ_ _ _ _=>(ba (aa (pv 0) (aa (pv 1) (aa (aH kE hr U (aa (df (vL (K:=K) U) (pv 2) (d7 ai) d6) (aa (ar ft (pv 3) (bc (aa (pv 0) ae))) (aa (pv 4) ae)))) ae)))))) ae))))),?_⟩
 cases a with
 |nil =>
  have hx:xs=[]:=List.eq_nil_of_length_eq_zero hC.1;subst hx;obtain⟨sp,hF,a9⟩:=Z.fn;refine⟨_,U,_,.inl ⟨_,SqL.of hc,U⟩,cD ?_⟩;exact⟨f_,sp,U,Z.ob H hJ,hF,_,U,Z.ob H hJ,a9 H b M _ hJ (by rw[hm];rfl) hb λv u h' hv=>q v u h' hv⟩
 |cons y a =>
  obtain⟨r,ex,ts,er,hp⟩:=hC.2 0 y U;obtain⟨l,rfl⟩:∃l,xs=.ref r :: l:=by
   cases xs with
   |nil=>cases ex
   |cons x l=>cases ex;exact⟨l,U⟩
  have b4:CoL H l a:=⟨by simpa using hC.1,λj c e=>by simpa using hC.2 (j+1) c (by simpa using e)⟩;have b6:y.length<=64:=a1 y gb;have a5:ts.length=y.length:=hp.length;have F5:a.length<=5:=by rw[gR]at b0;lia
  refine⟨_,U,_,.inl ⟨_,SqL.of hc,U⟩,aW ?_⟩
  refine⟨_,U,c,_,_,_,U,U,SqL.of hc,bN (j:=0) U,r,U,⟨_,SqL.of er⟩,eK (xs:=ts) (λD i G u=>ao H u/\u D=Jp (.lst G)/\FmL (FmV A u a.length) u ((y.take i).map λp=>(p.1,p.2,lay g a (M++[p.1]))) G/\G.length<=i)
   (λD hD=>⟨ag hD _,ab,FmL.nil,xn _⟩) (λD i G u hD _ h=>SqL.of (h.1 _ _ er)) (λD i x G u hD e h ss a8=>?_) (λD G u hD h=>?_)⟩
  .obtain⟨I,eD,S,a4⟩:=h;obtain⟨p,t,ep,rfl,ht⟩:=hp.get e;have hi:i<ts.length:=(Gb.mp e).1;obtain⟨t0,B,rfl⟩:∃t0 B,ss=[t0,B]:=by
    match ss,a8 with
    | [t0,B],_=>exact⟨t0,B,U⟩
   refine⟨t,_,U,SqT.of (I _ _ ht),U,_,_,U,_,_,U,U,⟨[Jp (.int p.1),Jp (.int p.2)],U,U⟩,?_⟩;refine⟨_,U,_,U,_,U,_,U,c,_,U,SqL.of (I _ _ hc),λc2 b1=>?_⟩;rw[vY];have s2:ao u (upd u c2 (.lst l)):=ag b1 _;have a2:upd u c2 (.lst l) c2=Jp (.lst l):=ab;generalize upd u c2 (.lst l)=T at s2 a2⊢;refine⟨_,U,_,U,(by show 1<=FL;decide),λB a7=>?_⟩;have X:ao T (upd T B (.lst [.int p.1])):=ag a7 _;have e1:upd T B (.lst [.int p.1]) B=Jp (.lst [.int p.1]):=ab;generalize upd T B (.lst [.int p.1])=H3 at X e1⊢;refine⟨b,B,_,_,U,U,X _ _ (s2 _ _ (I _ _ hb)),e1,x3 (ay (by rw[bo];show M.length+1<=1000;lia)),λR a0=>?_⟩;have s4:ao H3 (upd H3 R (.lst (M.map V.int++[.int p.1]))):=ag a0 _;have e2:upd H3 R (.lst (M.map V.int++[.int p.1])) R=Jp (.lst ((M++[p.1]).map V.int)):=by rw[fR];exact ab
   generalize upd H3 R (.lst (M.map V.int++[.int p.1]))=H4 at s4 e2⊢;have O:ao u H4:=(s2.trans X).trans s4;have f2:u R=none:=(s2.trans X).free a0;refine⟨_,U,c2,R,f_,l,a,M++[p.1],m,L,iL,A,g,J,U,by rw[gR]at hn;lia,s4 _ _ (X _ _ a2),b4.same (I.trans O),e2,λz S=>a1 z (ik _ S),by rw[dq,hQ];rw[gR]at b3;lia,by lia,by rw[dq,hQ];rw[gR]at hm;lia,Z,Z.st _ _ hJ (I.trans O),λv H5 h5 hv=>?_⟩;have s5:ao u H5:=λd o ed=>h5 d o (λz=>by rw[z,f2]at ed;cases ed) (O _ _ ed)
   refine⟨(by show 3<=FL;decide),λW a6=>?_⟩;have s6:ao H5 (upd H5 W (.tup [.int p.1,.int p.2,v])):=ag a6 _;have e3:upd H5 W (.tup [.int p.1,.int p.2,v]) W=Jp (.tup [.int p.1,.int p.2,v]):=ab;generalize upd H5 W (.tup [.int p.1,.int p.2,v])=H6 at s6 e3⊢;have C:=s5.trans s6;have a3:=C _ _ eD;refine cQ.mk hi a3 (ay (by lia)) ⟨(I.trans C).upd hD,ab,?_,by rw[dq,hQ];lia⟩;have st:cy H6 (upd H6 D (.lst (G++[.ref W]))):=bj a3;rw[take_snoc ep,fR];exact(S.mono (λ_ _ z=>FmV.mono (C.tups.trans st) z) (C.tups.trans st)).snoc (st _ _ e3) (FmV.mono (s6.tups.trans st) hv)
  .obtain⟨I,eD,S,a4⟩:=h;rw[a5,fq]at S;refine⟨L,iL,A,a.length,D,G,_,U,by lia,eD,S,by rw[bo];lia,λr2 T s2 hf=>?_⟩;exact q _ T (λd o _ ed=>(I.trans s2) _ _ ed) hf
theorem EU(F:Fun K "built" "built" Y34 f fd) (bl:Bl K mg Y)(kE:Callee P w K mg base 15 "layered" ["columns","ahead","leaf"] (eV K Y P w mg base 7)) (yf:Callee P w K mg base 15 "grain" ["bounds","marks"] (mq K Y)) (fH:Callee P w K mg base 15 "cut_columns" ["bounds","marks"] (dk K Y)):aK P w K mg base CX0 16 f fd ["bounds","marks","leaf"] (mr K Y P w mg base):=by
 refine F.okA Z34 λa1 A T s H vs Q E M h=>?_
 obtain⟨a,b,f_,V,c,as,k,L,iL,A,g,J,rfl,Z,N,X,hM,hok,hg,hL,hJ,q⟩:=h
 refine⟨_,(ak (aO (aJ iT (aH yf M U (aa (pv 0) (aa (pv 1) ae))) (nN U bl.MOST_GRAIN_) (aL _))
  (af bT)
  aG)
  (af (au (aH kE M U (aa (aH fH M U (aa (pv 0) (aa (pv 1) ae))) (aa (bc ae) (aa (pv 2) ae))))))),?_⟩
 have a0:=N.length;obtain⟨y,x,u⟩:=hok;refine⟨_,U,_,U,a,b,V,c,as,k,U,Z,N,X,hM,⟨y,x,u⟩,λH1 m=>?_⟩;refine⟨_,_,U,U,_,U,?_⟩;refine c9 (λg=>Jx (lF g) (by lia)) (λ_=>?_);refine⟨_,U,_,U,a,b,V,c,as,k,U,m _ _ Z,N.mono m.tups,m _ _ X,hM.same m,⟨y,x,u⟩,λl xs G e s2 el R C hx=>?_⟩;refine⟨(by show 0<=FL;decide),λt W=>?_⟩;have D:ao G (upd G t (.lst [])):=ag W _;have et:upd G t (.lst []) t=Jp (.lst []):=ab;generalize upd G t (.lst [])=H3 at D et⊢;have r:=(m.trans s2).trans D;have B:(List.zipWith (λp i=>cb p.1 p.2 i) c e).length=c.length:=by rw[lz];lia
 refine⟨_,U,l,t,f_,xs,_,[],c.length,L,iL,A,g,J,U,by lia,D _ _ el,hx.same D,et,λS EV=>?_,by rw[B];show 0+c.length<=6;lia,by lia,by rw[B];show c.length=0+c.length;lia,hL,hL.st _ _ hJ r,λv H4 h4 hv=>?_⟩
 .obtain⟨j,n⟩:=jn EV;have hj:j<(List.zipWith (λp i=>cb p.1 p.2 i) c e).length:=(Gb.mp n).1;obtain⟨p,ep⟩:∃p,c[j]?=Jp p:=⟨_,Ga (by lia)⟩;obtain⟨i,ec⟩:∃i,e[j]?=Jp i:=⟨_,Ga (by lia)⟩;obtain⟨I,em⟩:∃I,k[j]?=Jp I:=⟨_,Ga (by lia)⟩;rw[nS,ep,ec]at n;have n:cb p.1 p.2 i=S:=Option.some.inj n;rw[←n,gO];have:=(C j p I i ep em ec).2.2;lia
 .exact q v H4 e (λd o O=>h4 d o (λz=>by have f:=(m.trans s2).free W;rw[z,f]at O;cases O) (r _ _ O)) R C hv
theorem j5{c' c_0:E2}{doc pm ctv:De}(bl:Bl K mg Y)(u:Callee P w K mg base 7 "mask" ["table","codes"] (iF K Y)) (inj:∀x y c,([("table",c_0)]:List (Str×E2)).lookup x=Jp c->([("table",c_0)]:List (Str×E2)).lookup y=Jp c->x=y):HFn P w K mg base 8 f (fT K Y f c' c_0 doc pm ctv):=by
 have Z80:=@Z80 c_0;refine Af (qual := "row_form.<locals>.<lambda>") (e:=Y80) (c':=c') (cl:=[("table",c_0)]) (pm:=pm) (ctv:=ctv) Z80 inj (λp v=>match p,v with | [D],_=>rfl) (λn H Q E h=>?_) (λA g s H n Q E z h=>?_)
 .obtain⟨a,t,m,b,i,o,rfl,d,l,k,j,q⟩:=h;rfl
 obtain⟨a,t,m,b,i,o,rfl,d,l,k,j,q⟩:=h;refine⟨_,d,xy U,λC=>⟨_,(aH u z U (aa (pv 1) (aa (pv 0) ae))),?_⟩⟩;have B:=d.2.2.fzs;have so:=So.hide B;exact⟨_,U,_,U,t,a,b,i,o,m,U,Tbl.so so l,SqL.of (so.lst k),j,λF r _=>q _ (rT r)⟩
theorem EW(F:Fun K "row_form" "row_form" Y79 f fd) (bl:Bl K mg Y)(yg:Callee P w K mg base 16 "built" ["bounds","marks","leaf"] (mr K Y P w mg base)) (mE:Callee P w K mg base 16 "table_bounds" ["table"] (dQ K Y)) (ng:Callee P w K mg base 16 "table_marks" ["table"] (eQ K Y)) (pj:Callee P w K mg base 16 "mask" ["table","codes"] (iF K Y)) {cL tP:E2}(a4:fd.code=.ref cL)(ht:W.tabIn K "row_form" = Jp (cL,tP)) (hT:W.CodeHd base cL tP/\base.BuiltinsAt mg tP)(AQ:Callee P w K mg base 7 "mask" ["table","codes"] (iF K Y)):aK P w K mg base CX0 17 f fd ["table"] (hU K Y):=by
 refine F.okT a4 Z79 (λvs H Q E h=>?_) (λA b6 s H vs Q E hr h=>?_)
 .obtain⟨t,dv,bs,g,L,i,o,rfl,G,T,h4,V,eA,J,S,O,q⟩:=h;rfl
 obtain⟨t,dv,bs,g,L,i,o,rfl,G,T,h4,V,eA,J,S,O,q⟩:=h;refine⟨_,(af (au (zX (zs:=[("table",0,s.heap.objs.size+1)]) yg hr U (aa (aH mE hr U (aa (pv 0) ae)) (aa (aH ng hr U (aa (pv 0) ae)) (aa (Ad (clos:=[("table",s.heap.objs.size+1)]) U hT.1 hT.2 U (hZ.mpr ⟨U,iM _⟩)) ae))) (hZ.mpr ⟨⟨U,Or.inl U,U,Or.inl U⟩,iM _⟩)))),?_⟩;have a6:∀(c:Nat)(b:Int×Int),bs[c]?=Jp b->(L c).length<64/\∀x,MkC g c b x->x∈L c:=λc b e=>⟨Nat.lt_of_le_of_lt (J c b e).1 (by decide),(J c b e).2⟩
 refine⟨_,U,t,dv,bs,g,U,G,by lia,λl1 ys H1 s1 n1 e1 a5=>?_⟩;refine⟨_,U,t,dv,bs,g,L,U,G.same s1,by lia,V,eA,a6,λl2 as r H2 s2 n2 e2 hM R y=>?_⟩;have n:=s1.trans s2;have B9:=(O _ ht).same n;obtain⟨c1,b0,_⟩:=id B9;refine⟨[(xD Y80,"row_form.<locals>.<lambda>")],gb,?_,B9,λZ c' oc pm ctv M hf kp ef ec a2 vO inj=>?_⟩
 .intro p hp _ _;rw[iN.mp hp];rfl
 have m:So H2 M:=λd o p e=>kp d o (λz=>by rw[z,b0]at e;cases e;exact p) e
 refine λos u hz ho=>?_
 have l:=qj u hz;have a8:∃o,jg M ((([("table",0,s.heap.objs.size+1)]:List (Str×Nat×E2)).map (·.2.2)).zip os) (s.heap.objs.size+1)=Jp (.frz o TTh):=by
  obtain⟨o,_,e⟩:=iB (H:=M) (fz:=(([("table",0,s.heap.objs.size+1)]:List (Str×Nat×E2)).map (·.2.2)).zip os) (b:=s.heap.objs.size+1) (by rw[qi u];exact gb);exact⟨o,e⟩
 have a3:=vP (H:=M) (cl:=[("table",s.heap.objs.size+1)]) (ws:=[("table",.ref t)]) u (by simp) ho (λc hc=>by
  simp only[mH,vr,dy,jr,or_false]at hc;exact⟨_,gb,hc.symm⟩) (λx v e=>by
  unfold List.lookup at e;split at e
  .rename_i C
   cases e;rw[eq_of_beq C];exact⟨_,gb,U,U⟩
  .cases e)
 have wR:l8 (jg M ((([("table",0,s.heap.objs.size+1)]:List (Str×Nat×E2)).map (·.2.2)).zip os)) Z c' (W.kla_obj "<lambda>" "row_form.<locals>.<lambda>" (uE Y80) (rX Y80) (m8 Y80) [("table",s.heap.objs.size+1)] pm c' ctv) "row_form.<locals>.<lambda>" [("table",s.heap.objs.size+1)] [("table",.ref t)]:=⟨l _ _ ef,⟨oc,l _ _ ec,a2⟩,a3⟩;have hN:As vS P w K mg base Z bs.length (λcd=>((msk (gD g cd) g.length:Nat):Int)) (λN=>l8 N Z c' (W.kla_obj "<lambda>" "row_form.<locals>.<lambda>" (uE Y80) (rX Y80) (m8 Y80) [("table",s.heap.objs.size+1)] pm c' ctv) "row_form.<locals>.<lambda>" [("table",s.heap.objs.size+1)] [("table",.ref t)]/\Tbl Y.k Y.i Y.j N t g i o) :=
  ⟨⟨_,j5 (doc:=.none) (pm:=pm) (ctv:=ctv) (c':=c') (c_0:=s.heap.objs.size+1) bl AQ inj,λN a cd Q0 D hl ha k=>⟨a,t,cd,g,i,o,U,D.1,D.2,ha,(λx C=>by rw[(eA x C).1,hl]),λb5 X=>k _ _ (λb o _ e=>X b o e) U⟩⟩,λN D=>⟨_,_,D.1.1,U⟩,λN b5 D X=>⟨D.1.same X,Tbl.same D.2 X⟩⟩
 have EY:MOK bs r:=⟨R.symm,by lia,λB a0=>by
  obtain⟨c,ec⟩:=jn a0;have hc:=(Gb.mp ec).1;obtain⟨b,eb⟩:∃b,bs[c]?=Jp b:=⟨_,Ga (by lia)⟩;obtain⟨pw,hm⟩:=y c b B eb ec;exact wX (wm pw λx C=>(J c b eb).2 x ((hm x).mp C)) (J c b eb).1⟩
 refine⟨l1,l2,Z,ys,bs,as,r,Int,inferInstance,vS,_,_,U,(So.lst m (s2 _ _ e1) |> λe=>l _ _ e),((a5.mono s2.tups).mono m.tups).mono l.tups,l _ _ (m.lst e2),(MLs.so m hM).same l,EY,S r R y,hN,⟨wR,Tbl.same (Tbl.so m (Tbl.same T n)) l⟩,λv H4 b4 s4 EZ a1 a7=>?_⟩;have hs:=L2.hide_same u hz s4;obtain⟨o2,b1⟩:=a8;have a9:Fzs H4 [s.heap.objs.size+1]:=λd hd=>by rw[iN.mp hd];exact⟨o2,s4 _ _ b1⟩
 refine q v _ b4 (((So.of n).trans m).trans (So.of hs)) (λz ez=>?_) EZ (λj p cs ep b3=>?_) (a7.mono (So.hide a9).tups)
 .rw[ht]at ez;cases ez;exact⟨vO.same hs,λd o hd e=>hs _ _ (kp d o hd (n _ _ e))⟩
 .obtain⟨B,I⟩:∃B,r[j]?=Jp B:=⟨_,Ga (by have:=(Gb.mp ep).1;lia)⟩;obtain⟨pw,hm,_⟩:=a1 j p B cs ep I b3;refine⟨pw,λx=>(hm x).trans ⟨λh=>((y j p B ep I).2 x).mp h.1,λh=>⟨((y j p B ep I).2 x).mpr h,?_⟩⟩⟩;obtain⟨w_,_,C⟩:=h;have:=(ll.mp C).2;rw[A2,JC,JC]at this;exact this
theorem E1(F:Fun K "tiling" "tiling" Y85 f fd) (bl:Bl K mg Y)(pB:Callee P w K mg base 17 "boxes" ["form","deep"] (gZ K Y 7)) (sk:Callee P w K mg base 17 "row_form" ["table"] (hU K Y)):aK P w K mg base CX0 18 f fd ["table"] (kA K Y):=by
 refine F.okA Z85 λa2 A V s H vs Q E W h=>?_
 obtain⟨t,dv,bs,k,L,kk,i,o,rfl,h,M,q⟩:=h;refine⟨_,(af (au (aH pB W U (aa (aH sk W U (aa (pv 0) ae)) (aa (av aD U bl.len_ Jo (aa (aN (pv 0) U) ae)) ae))))),?_⟩;have a0:=h.b4;refine⟨_,U,t,dv,bs,k,L,i,o,U,h.td,h.tb,h.b4,h.r60,h.row,(λc b e=>⟨wX (h.mrk c b e).1 h.k57,(h.mrk c b e).2⟩),h.gr,M,λv H1 m r N y d C=>?_⟩;have h1:=h.so r;obtain⟨rl,dx,dl,fs,xs,ht,f1,f2,T,R,a1,hR⟩:=h1.td;generalize G:List.zipWith (λp a=>cb p.1 p.2 a) bs m=cols at C;have hok:jV cols bs:=by
  rw[←G];exact v9 y h.le λj p a e1 Z=>⟨(d j p a e1 Z).1,λc I=>wq (((d j p a e1 Z).2 c).mp I)⟩
 have u:cols.length=bs.length:=by rw[←G,lz];lia
 have S:dv.length=bs.length:=R.1;have D:∀c∈cols,c.length<=kk+1:=λc I=>by
  rw[←G]at I;obtain⟨j,n⟩:=jn I;have hj:=(Gb.mp n).1;rw[lz]at hj;obtain⟨p,J⟩:∃p,bs[j]?=Jp p:=⟨_,Ga (by lia)⟩;obtain⟨a,X⟩:∃a,m[j]?=Jp a:=⟨_,Ga (by lia)⟩;rw[nS,J,X]at n;have n:cb p.1 p.2 a=c:=Option.some.inj n;rw[←n,gO];obtain⟨pw,hm⟩:=d j p a J X;have:=wm pw λx hx=>(h.mrk j p J).2 x ((hm x).mp hx)
  have:=(h.mrk j p J).1;lia
 have B:(bxs cols.length (lay (mkg k) cols [])).length<=300:=wX (wj hok D []) (by rw[u];exact h.few);have O:=vQ (g:=mkg k) hok [];refine⟨_,U,t,_,_,_,_,U,ht,bl.k_Table,bl.na_Table_domains,f2,dl,_,U,.inl (SqL.of T),cols.length,_,v,by rw[S,u],C,by lia,wX B (by decide),(λq_ hq=>by rw[(wg O q_ hq).1.len];lia),λl ys H2 s2 nl el hB=>?_⟩;exact q l ys cols H2 (r.trans (So.of s2)) (λz e=>((N z e).1).same s2) el ⟨hok,m,y,G.symm,d⟩ hB B
theorem E3(F:Fun K "judged_tiles" "judged_tiles" Y46 f fd) (bl:Bl K mg Y)(ib:Callee P w K mg base 18 "judged" ["table","rows"] (fS K Y)) (wU:Callee P w K mg base 18 "tiling" ["table"] (kA K Y)):aK P w K mg base CX0 19 f fd ["table"] (dX K Y):=by
 refine F.okA Z46 λa6 A a5 s H vs Q E hr h=>?_
 obtain⟨t,dv,bs,b,L,kk,i,o,rfl,h,a1,q⟩:=h;refine⟨_,(af (au (dM (aP (aH wU hr U (aa (pv 0) ae))) (cZ (N:=["box","rows","table"]) (k:=2) (fr:=[0]) (cl:=[("table",s.heap.objs.size+1)]) U U (by decide+kernel) (by decide+kernel) U U (hZ.mpr ⟨U,iM _⟩) U) U (λ_ _ _ _=>(iW (K:=K) (n:=2) U U (az (ax (i:=0) (show(["box","rows","table"]:List Str).Nodup by decide+kernel) U (Or.inl U) (Or.inr U)) (az (ax (i:=1) (show(["box","rows","table"]:List Str).Nodup by decide+kernel) U (Or.inl U) (Or.inr U)) aY)))) (λ_ _ _ _=>bC) (λ_ _ _ _=>(ba (aa (pv 0) (aa (pv 1) (aa (aH ib hr U (aa (pv 2) (aa (pv 1) ae))) ae)))))))),?_⟩;refine⟨_,U,t,dv,bs,b,L,kk,i,o,U,h,a1,λl xs a H1 M a2 el hc W wV=>?_⟩;have h1:=h.so M;have O:xs.length=(bxs a.length (lay (mkg b) a [])).length:=Paired.length W;have Ca:∀V∈bxs a.length (lay (mkg b) a []),∃m:Nat,V.2=(m:Int):=λV hq=>by
  obtain⟨cs,_,e⟩:=wt hc hq;exact⟨_,e⟩
 generalize a4:bxs a.length (lay (mkg b) a [])=BX at W wV O Ca;refine⟨l,U,⟨_,SqL.of el⟩,eK (xs:=xs) (λD j u d=>ao H1 d/\d D=Jp (.lst u)/\TiL K (hide d D) b i o u (BX.take j)) (λD C=>⟨ag C _,ab,U,λj x V e=>by simp at e⟩) (λD j u d C _ J=>SqL.of (J.1 _ _ el)) (λD j y u d C e J ts a0=>?_) (λD u d C J=>?_)⟩
 .obtain⟨v,X,B⟩:=J;obtain⟨qx,tx,G,eq,rfl,g1,g2⟩:=W.get e;have hj:j<xs.length:=(Gb.mp e).1;obtain⟨m,em⟩:=Ca qx (Gd eq);obtain⟨T,S,rfl⟩:∃T S,ts=[T,S]:=by
   match ts,a0 with
   | [T,S],_=>exact⟨T,S,U⟩
  rw[em]at g1;refine⟨tx,_,U,SqT.of (v _ _ g1),U,_,_,U,_,_,U,U,⟨[Jp (.ref G),Jp (.int (m:Int))],U,U⟩,?_⟩;refine⟨_,U,_,U,_,U,_,U,t,b,i,o,(m:Int),U,(Tbl.same h1.tb v),λr H2 s2 a3=>?_⟩;have R:=s2 _ _ X;refine⟨(by show 3<=FL;decide),λc g=>?_⟩;have I:=ag g (.tup [.ref G,.int (m:Int),.ref r]);have eT:upd H2 c (.tup [.ref G,.int (m:Int),.ref r]) c=Jp (.tup [.ref G,.int (m:Int),.ref r]):=ab;have nT:c≠D:=λz=>by rw[z,R]at g;cases g
  have p:=I _ _ R;generalize upd H2 c (.tup [.ref G,.int (m:Int),.ref r])=H3 at I eT p⊢;have sA:=(v.trans s2).trans I;have Z:=B.1;rw[ia]at Z;refine cQ.mk hj p (ay (by lia)) ⟨sA.upd C,ab,?_⟩;rw[jZ,take_snoc eq];exact TiL.snoc (B.same (iD (s2.trans I))) ⟨c,G,r,m,U,em,bG eT nT,g2.mono (om sA C).tups,SqT.hide (I.seqT a3) p⟩
 .obtain⟨v,X,B⟩:=J;rw[O,fq]at B;refine q D u a d (M.trans (So.of v)) (a2.same v) X hc (by rw[a4];exact B.same (dH d D)) (by have:=B.1;lia)
theorem E4(F:Fun K "thinned" "thinned" Y84 f fd) (bl:Bl K mg Y)(mF:Callee P w K mg base 19 "judged_tiles" ["table"] (dX K Y)) (kM:Callee P w K mg base 19 "last_idle" ["table","tiles","kept","needed"] (gu K Y)) (qM:Callee P w K mg base 19 "with_rows" ["table","rows"] (gs K Y)):aK P w K mg base CX0 20 f fd ["table"] (jl K Y):=by
 refine F.okA Z84 λq1 A n5 s H vs Q E hr h=>?_
 obtain⟨t,ou,nm,wy,zs,dv,cs,C,g,M,kk,L,rfl,hT,O,i9,e6,hok,j6,b1,rt,q⟩:=h
 refine⟨_,(aE (aF (i:=1) Z84.nd U (Or.inl U) (aH mF hr U (aa (pv 0) ae)))
  (aE (aF (i:=2) Z84.nd U (Or.inl U) (rY U U bl.list_ U bl.range_ (aa (av aD U bl.len_ Jo (aa (aN (pv 0) U) ae)) ae)))
  (aE (jM (i:=3) Z84.nd U (Or.inl U) (aP (pv 2)) (dJ U (by decide+kernel) (by decide+kernel) (by decide+kernel) U) U (λ_ _ _ _=>bC) (λ_ _ _ _=>kc))
  (aE (aF (i:=4) Z84.nd U (Or.inr U) (aH kM hr U (aa (pv 0) (aa (pv 1) (aa (pv 2) (aa (pv 3) ae))))))
  (aE (pN GO.never (aJ sL (pv 4) kc (aL _))
  (aE (aX (fK PySem.F.plainAttrs_list PySem.F.slot_list_remove PySem.F.type_list_remove uF (pv 2) (aa (pv 4) ae)))
  (aE (qf (i:=1) Z84.nd U (Or.inl U) (aP (pv 1)) (cZ (N:=["box","rows","told","found"]) (k:=3) (fr:=[4]) (cl:=[("found",s.heap.objs.size+1+1)]) U U (by decide+kernel) (by decide+kernel) U U (hZ.mpr ⟨U,iM _⟩) U) U (λ_ _ _ _=>(iW (K:=K) (n:=3) U U (az (ax (i:=0) (show(["box","rows","told","found"]:List Str).Nodup by decide+kernel) U (Or.inl U) (Or.inr U)) (az (ax (i:=1) (show(["box","rows","told","found"]:List Str).Nodup by decide+kernel) U (Or.inl U) (Or.inr U)) (az (ax (i:=2) (show(["box","rows","told","found"]:List Str).Nodup by decide+kernel) U (Or.inl U) (Or.inr U)) aY))))) (λ_ _ _ _=>bC) (λ_ _ _ _=>(ba (aa (pv 0) (aa (ar kg (pv 1) (jJ zy (ar oE ai (pv 3)))) (aa (pv 2) ae))))))
  (af (aF (i:=4) Z84.nd U (Or.inr U) (aH kM hr U (aa (pv 0) (aa (pv 1) (aa (pv 2) (aa (pv 3) ae))))))))))
  (af (au (aH qM hr U (aa (pv 0) (aa (dG (aP (pv 2)) (bX (N:=["k","table"]) (fr:=[0]) (cl:=[("table",s.heap.objs.size+1)]) U U (by decide+kernel) (by decide+kernel) U (by decide+kernel) U U U (hZ.mpr ⟨U,iM _⟩) U) U (λ_ _ _ _=>bC) (λ_ _ _ _=>(aI (dI (K:=K) U) (jO (K:=K) U (pv 1) U) (pv 0) (λ_ _=>U)))) ae)))))))))),?_⟩
 have kN:∀w∈g,w.1.length=cs.length:=λw hw=>(e6 w hw).len
 have a4:cw cs g (g.map (rwo cs)):=lh hok kN;generalize Cb:g.map (rwo cs)=rws at hT O b1 a4;obtain⟨PS,e9⟩:∃PS,PS=cI (cM cs):=⟨_,U⟩;have F6:=b1.r60;have i8:rws.length=g.length:=a4.1;have k3:=j6.le;refine⟨λI d=>So H d/\iI K d/\∃(Z:E2)(xs:List V)(G:List Nat),d Z=Jp (.lst xs)/\TlM K d rws M C.b xs G/\MsI PS g (List.range g.length) G/\xs.length<=300/\I=[Jp (.ref t),Jp (.ref Z),Jq,Jq,Jq],?_,?_⟩
 .refine⟨_,U,t,dv,cs.map Col.b,rws,L,kk,M,C.b,U,b1,rt,λl xs n7 H1 a0 b0 el hc l2 wV=>⟨a0,b0,l,xs,_,el,TlM.of l2,?_,wV,U⟩⟩;rw[e9];exact MsI.first a4 e6 hok hc λx hx=>(b1.row x hx).1
 rintro o5 H1 ⟨a0,b0,a9,c7,g0,Cc,c5,l7,wV,rfl⟩;have c6:=hT.so a0;have Cd:TOk Y.i Y.j H1 nm wy ou zs dv rws (cs.map Col.b) C.b:=⟨O.words,O.once,O.one,O.four,O.way,λz=>let ⟨dx,fs,e⟩:=O.sum z;⟨dx,fs,a0 _ _ trivial e⟩,aC.mono O.doms λ_ _ p=>Dom.so a0 p,Dom.so a0 O.out,O.len,O.rows,O.few⟩;have Ce:Tbl Y.k Y.i Y.j H1 t rws M C.b:=c6.tbl i9 Cd.out k3;obtain⟨rl,dx,na,dl,fs,rx,ht,f1,f2,f3,f4,f5,f6,p5,q0,f8,hR,gE⟩:=id c6;have j3:rx.length=rws.length:=hR.1;refine⟨λI d=>ao H1 d/\∃kl:E2,H1 kl=Jq/\d kl=Jp (.lst (vN (List.range g.length)))/\I=[Jp (.ref t),Jp (.ref a9),Jp (.ref kl),Jq,Jq],?_,?_⟩
 .refine⟨_,U,t,_,_,_,_,U,ht,bl.k_Table,bl.na_Table_rows,f1,rl,_,U,.inl (SqL.of f8),rx.length,U,by lia,λp hp=>⟨ag hp _,p,hp,?_,U⟩⟩;rw[ab,AH,j3,i8]
 rintro o4 H2 ⟨s2,kl,h8,a8,rfl⟩;refine⟨λI d=>ao H2 d/\∃(B:E2)(W:List V),H2 B=Jq/\d B=Jp (.lst W)/\W.length=g.length/\(∀v∈W,v=.non)/\I=[Jp (.ref t),Jp (.ref a9),Jp (.ref kl),Jp (.ref B),Jq],?_,?_⟩
 .refine⟨_,U,kl,U,⟨_,SqL.of a8⟩,cn (xs:=vN (List.range g.length)) (λD j J d=>ao H2 d/\d D=Jp (.lst J)/\J.length=j/\∀v∈J,v=.non) (λD R=>⟨ag R _,ab,U,λv hv=>by cases hv⟩) (λD j J d R _ hh=>SqL.of (hh.1 _ _ a8)) (λD j y J d R e hh=>?_) (λD J d R hh=>?_)⟩
  .obtain⟨S,eD,hl,hv⟩:=hh;have hj:j<(vN (List.range g.length)).length:=(Gb.mp e).1;have c4:=hj;rw[cK,jq]at c4;refine cQ.mk hj eD (ay (by lia)) ⟨S.upd R,ab,by rw[dq,hQ,hl],λv j1=>?_⟩;rcases iK.mp j1 with h|h
   .exact hv v h
   .exact iN.mp h
  .obtain⟨S,eD,hl,hv⟩:=hh;rw[cK,jq]at hl;exact⟨S,D,J,R,eD,hl,hv,U⟩
 rintro o3 H3 ⟨s3,B,h7,d1,m4,E5,j7,rfl⟩;have Cf:=s3 _ _ a8;have a7:kl≠B:=λz=>by rw[z,d1]at a8;cases a8
 have Cg:H1 B=none:=s2.free d1;have c8:=s2.trans s3;obtain⟨N,hN⟩:∃N,N=g.length:=⟨_,U⟩;refine⟨λI d=>So H d/\iI K d/\ao H1 (HH d B kl)/\∃(Z:E2)(xs W:List V)(G c:List Nat)(fv:V),HH d B kl Z=Jp (.lst xs)/\TlM K (HH d B kl) rws M C.b xs G/\MsI PS g c G/\G.length<=300/\d kl=Jp (.lst (vN c))/\c.Pairwise (· < ·)/\(∀k∈c,k<g.length)/\(∀r,Th (ver (wf M C.lo C.hi)) PS (cur g c) r->Th (ver (wf M C.lo C.hi)) PS g r)/\d B=Jp (.lst W)/\W.length=g.length/\(∀v∈W,v=.non\/∃b:Nat,v=.int (b:Int)/\b<G.length)/\((∃a k:Nat,c[a]?=Jp k/\fv=.int (k:Int)/\(∀m∈G,ck rws M C.b k m=Js)/\∀j k',a<j->c[j]?=Jp k'->¬ ∀m∈G,ck rws M C.b k' m=Js)\/(fv=.non/\∀k∈c,¬ ∀m∈G,ck rws M C.b k m=Js))/\I=[Jp (.ref t),Jp (.ref Z),Jp (.ref kl),Jp (.ref B),Jp fv],?_,?_⟩
 .have c1:ao H1 (hide H3 B):=om c8 Cg;refine⟨_,U,_,U,_,U,_,U,t,a9,kl,B,c7,h7,g0,List.range g.length,rws,M,C.b,U,Tbl.same Ce c1,c1 _ _ Cc,c5.same c1,bG Cf a7,(λk hk=>by rw[E5];exact hV.mp hk),by lia,m4,(λv hv=>.inl (j7 v hv)),λv b3 H4 s4 n0 p3 b6 hv=>?_⟩;have a2:=HH.same (kl:=kl) s4;have k1:ao H1 (HH H4 B kl):=(HH.keep c8 Cg h8).trans a2;have d3:ao H1 H4:=k1.trans (HH.le _ _ _);refine⟨a0.trans (So.of d3),b0.same d3,k1,a9,c7,b3,g0,List.range g.length,v,k1 _ _ Cc,c5.same k1,l7,by rw[←c5.1];exact wV,s4 _ _ (bG Cf a7),List.pairwise_lt_range,(λk hk=>hV.mp hk),(λr h=>by rw[uO]at h;exact h),n0,by lia,b6,hv,U⟩
 rintro o2 H4 ⟨g7,g9,k4,g5,g4,h6,n4,i3,m2,E6,l1,l5,m0,E7,h4,k8,E8,E9,Fb,b6,l0,rfl⟩;refine⟨λI d=>So H d/\iI K d/\ao H1 d/\∃(Z:E2)(c:List Nat),d kl=Jp (.lst (vN c))/\c.length<=g.length/\(∀k∈c,k<g.length)/\Th (ver (wf M C.lo C.hi)) PS g (cur g c)/\I=[Jp (.ref t),Jp (.ref Z),Jp (.ref kl),Jp (.ref B),Jp .non],?_,?_⟩
 .refine⟨λn σ d=>So H d/\iI K d/\ao H1 (HH d B kl)/\∃(Z:E2)(xs W:List V)(G c:List Nat)(fv:V),n=c.length/\HH d B kl Z=Jp (.lst xs)/\TlM K (HH d B kl) rws M C.b xs G/\MsI PS g c G/\G.length<=300/\d kl=Jp (.lst (vN c))/\c.Pairwise (· < ·)/\(∀k∈c,k<g.length)/\(∀r,Th (ver (wf M C.lo C.hi)) PS (cur g c) r->Th (ver (wf M C.lo C.hi)) PS g r)/\d B=Jp (.lst W)/\W.length=g.length/\(∀v∈W,v=.non\/∃b:Nat,v=.int (b:Int)/\b<G.length)/\((∃a k:Nat,c[a]?=Jp k/\fv=.int (k:Int)/\(∀m∈G,ck rws M C.b k m=Js)/\∀j k',a<j->c[j]?=Jp k'->¬ ∀m∈G,ck rws M C.b k' m=Js)\/(fv=.non/\∀k∈c,¬ ∀m∈G,ck rws M C.b k m=Js))/\σ=[Jp (.ref t),Jp (.ref Z),Jp (.ref kl),Jp (.ref B),Jp fv],⟨_,g7,g9,k4,g5,g4,h6,n4,i3,m2,U,E6,l1,l5,m0,E7,h4,k8,E8,E9,Fb,b6,l0,U⟩,?_⟩;rintro n σ d ⟨so,h0,k1,Z,xs,W,G,c,fv,p1,f0,hX,hM,h3,AR,pw,a1,d4,Fc,j9,Fd,hf,rfl⟩;have i5:xs.length=G.length:=hX.1;have kH:ao H1 d:=k1.trans (HH.le _ _ _);rcases hf with⟨a,k,ea,rfl,e0,tT⟩|⟨rfl,j8⟩
  rotate_left
  .refine⟨_,U,U,Js,U,aW ⟨so,h0,kH,Z,c,AR,AG pw a1,a1,d4 _ (.fin λj hj hI=>?_),U⟩⟩;unfold cur at hj;rw[bo]at hj;have ej:=Ga hj;exact j8 _ (Gd ej) ((hM.idl a4 pw a1 ej).mpr hI)
  have p4:=a1 k (Gd ea);have e7:=(Gb.mp ea).1;refine⟨_,U,U,Jr,by rw[Jz (by intro z;cases z)];rfl,cD ?_⟩;refine⟨λI H2=>∃m',m'<n/\(So H H2/\iI K H2/\ao H1 (HH H2 B kl)/\∃(Z:E2)(xs W:List V)(G c:List Nat)(fv:V),m'=c.length/\HH H2 B kl Z=Jp (.lst xs)/\TlM K (HH H2 B kl) rws M C.b xs G/\MsI PS g c G/\G.length<=300/\H2 kl=Jp (.lst (vN c))/\c.Pairwise (· < ·)/\(∀k∈c,k<g.length)/\(∀r,Th (ver (wf M C.lo C.hi)) PS (cur g c) r->Th (ver (wf M C.lo C.hi)) PS g r)/\H2 B=Jp (.lst W)/\W.length=g.length/\(∀v∈W,v=.non\/∃b:Nat,v=.int (b:Int)/\b<G.length)/\((∃a k:Nat,c[a]?=Jp k/\fv=.int (k:Int)/\(∀m∈G,ck rws M C.b k m=Js)/\∀j k',a<j->c[j]?=Jp k'->¬ ∀m∈G,ck rws M C.b k' m=Js)\/(fv=.non/\∀k∈c,¬ ∀m∈G,ck rws M C.b k m=Js))/\I=[Jp (.ref t),Jp (.ref Z),Jp (.ref kl),Jp (.ref B),Jp fv]),(λ_ _ h=>h),?_⟩;have Fe:∀r,Th (ver (wf M C.lo C.hi)) PS (cur g (c.eraseIdx a)) r->Th (ver (wf M C.lo C.hi)) PS g r:=λr h=>by
   refine d4 r (.step (k:=a) (by unfold cur;rw[bo];exact e7) ((hM.idl a4 pw a1 ea).mp e0) (λj hj c3 hI=>?_) (by rw[←ky];exact h));unfold cur at c3;rw[bo]at c3;have ej:=Ga c3;exact tT j _ hj ej ((hM.idl a4 pw a1 ej).mpr hI)
  refine⟨λI H2=>H2=upd d kl (.lst (vN (c.eraseIdx a)))/\I=[Jp (.ref t),Jp (.ref Z),Jp (.ref kl),Jp (.ref B),Jp (.int (k:Int))],?_,?_⟩
  .refine⟨_,U,.inl ⟨U,_,SqL.of AR⟩,_,U,kl,c.map (λn:Nat=>(n:Int)),(k:Int),a,U,U,by rw[←ya];exact AR,by rw[eU,ea];rfl,λm hm z=>?_,?_,U⟩
   .rw[eU]at z;obtain⟨k2,e2,e3⟩:=Bw.mp z;obtain⟨h1,e1⟩:=Gb.mp e2;obtain⟨h2,e4⟩:=Gb.mp ea;have:=List.pairwise_iff_getElem.mp pw m a h1 h2 hm;lia
   .rw[wJ]
  rintro g3 H5 ⟨e5,rfl⟩;have Ff:HH H5 B kl=HH d B kl:=by rw[e5];exact HH.upd
  have uR:H5 kl=Jp (.lst (vN (c.eraseIdx a))):=by rw[e5];exact ab
  have AS:H5 B=Jp (.lst W):=by rw[e5];exact(aw a7.symm).trans Fc
  have s5:ao (HH d B kl) H5:=by rw[←Ff];exact HH.le _ _ _
  clear e5;refine⟨λI H6=>ao H5 H6/\∃(a5:E2)(J:List V),HH H6 B kl a5=Jp (.lst J)/\TlM K (HH H6 B kl) rws M C.b J (G.map λm=>My.clr m k)/\I=[Jp (.ref t),Jp (.ref a5),Jp (.ref kl),Jp (.ref B),Jp (.int (k:Int))],?_,?_⟩
  .refine⟨_,U,Z,U,⟨_,SqL.of (s5 _ _ f0)⟩,eK (xs:=xs) (λD j J H6=>ao H5 H6/\H6 D=Jp (.lst J)/\aC J ((G.take j).map λm=>My.clr m k) (λX m=>X≠D/\X≠B/\X≠kl/\∃b T:E2,H6 X=Jp (.tup [.ref b,.int (m:Int),.ref T])/\SqT K (HH d B kl) T (tp (vd rws M C.b m)))) (λD R=>⟨ag R _,ab,aC.nil⟩) (λD j J H6 R _ hh=>SqL.of (hh.1 _ _ (s5 _ _ f0))) (λD j y J H6 R e hh ts j2=>?_) (λD J H6 R hh=>?_)⟩
   .obtain⟨S,eD,hy⟩:=hh;obtain⟨ta,m,rfl,em,b,T,g1,g2⟩:=aC.get hX e;have hj:j<xs.length:=(Gb.mp e).1;obtain⟨t0,t1,t2,rfl⟩:∃t0 t1 t2,ts=[t0,t1,t2]:=by
     match ts,j2 with
     | [t0,t1,t2],_=>exact⟨t0,t1,t2,U⟩
    have m1:=S _ _ (s5 _ _ g1);have b5:=hy.1;rw[bo,ia]at b5;refine⟨ta,_,U,SqT.of m1,U,_,_,U,_,_,U,_,_,U,U,⟨[Jp (.ref b),Jp (.int (m:Int)),Jp (.ref T)],U,U⟩,?_⟩;refine⟨_,U,_,U,_,U,_,_,U,U,⟨by lia,by lia,by decide⟩,_,U,_,_,U,U,_,U,(by show 3<=FL;decide),λX a3=>?_⟩;rw[qF];have u:=ag a3 (.tup [.ref b,.int ((My.clr m k:Nat):Int),.ref T]);have et:upd H6 X (.tup [.ref b,.int ((My.clr m k:Nat):Int),.ref T]) X=Jp (.tup [.ref b,.int ((My.clr m k:Nat):Int),.ref T]):=ab;have nT:X≠D:=λz=>by rw[z,eD]at a3;cases a3
    have h9:X≠B:=λz=>by rw[z,S _ _ AS]at a3;cases a3
    have i0:X≠kl:=λz=>by rw[z,S _ _ uR]at a3;cases a3
    have f9:=u _ _ eD;generalize upd H6 X (.tup [.ref b,.int ((My.clr m k:Nat):Int),.ref T])=H7 at u et f9⊢;refine cQ.mk hj f9 (ay (by lia)) ⟨(S.trans u).upd R,ab,?_⟩;rw[take_snoc em,fR];have i4:aC (J++[.ref X]) ((G.take j).map (λm=>My.clr m k)++[My.clr m k]) (λX m=>X≠D/\X≠B/\X≠kl/\∃b T:E2,H7 X=Jp (.tup [.ref b,.int (m:Int),.ref T])/\SqT K (HH d B kl) T (tp (vd rws M C.b m))):=aC.snoc (aC.mono hy λ_ _ ⟨n1,n2,n3,b,T,e,f⟩=>⟨n1,n2,n3,b,T,u _ _ e,f⟩) ⟨nT,h9,i0,b,T,et,TlM.clr g2 (e0 m (Gd em))⟩;exact aC.mono i4 λ_ _ ⟨n1,n2,n3,b,T,e,f⟩=>⟨n1,n2,n3,b,T,(aw n1).trans e,f⟩
   .obtain⟨S,eD,hy⟩:=hh;rw[i5,fq]at hy;have i1:D≠B:=λz=>by rw[z,AS]at R;cases R
    have i2:D≠kl:=λz=>by rw[z,uR]at R;cases R
    have a2:ao (HH d B kl) (HH H6 B kl):=λb o e=>HH.of (S _ _ (s5 _ _ e)) (HH.ne e).1 (HH.ne e).2
    exact⟨S,D,J,HH.of eD i1 i2,aC.mono hy λ_ _ ⟨_,n2,n3,b,T,e,f⟩=>⟨b,T,HH.of e n2 n3,a2.seqT f⟩,U⟩
  rintro o0 H6 ⟨s6,a5,J,Ci,e8,rfl⟩;have Cj:=s6 _ _ uR;have Fg:=s6 _ _ AS;have k6:ao H1 (HH H6 B kl):=λb o e=>HH.of (s6 _ _ (s5 _ _ (k1 _ _ e))) (HH.ne (k1 _ _ e)).1 (HH.ne (k1 _ _ e)).2
  have b4:ao (HH H6 B kl) (hide H6 B):=dH _ _;have l6:=hM.erase pw a1 ea;have h5:=mj pw a;have Ck:∀k'∈c.eraseIdx a,k'<g.length:=λk' c2=>a1 k' ((mem_erase pw ea).mp c2).1
  have d5:(G.map λm=>My.clr m k).length=G.length:=bo _;refine⟨_,U,_,U,_,U,_,U,t,a5,kl,B,J,W,G.map (λm=>My.clr m k),c.eraseIdx a,rws,M,C.b,U,Tbl.same (Tbl.same Ce k6) b4,b4 _ _ Ci,e8.same b4,bG Cj a7,(λk' c2=>by rw[j9];exact Ck k' c2),by lia,Fg,(λv hv=>by rw[d5];exact Fd v hv),λv b3 H7 s7 m5 p2 k0 hv=>?_⟩;have a2:=HH.same (kl:=kl) s7;have k7:=k6.trans a2;have d2:ao H1 H7:=k7.trans (HH.le _ _ _);refine⟨(c.eraseIdx a).length,by rw[sy,Jw e7];lia,a0.trans (So.of d2),b0.same d2,k7,a5,J,b3,_,c.eraseIdx a,v,U,a2 _ _ Ci,e8.same a2,l6,by rw[d5];exact h3,s7 _ _ (bG Cj a7),h5,Ck,Fe,m5,by lia,k0,hv,U⟩
 rintro g3 H5 ⟨g6,g8,k5,p0,c,uR,F7,Fh,yd,rfl⟩;have k9:∀k,k<g.length->rws[k]?=Jp (rwo cs (gw g k)):=λk hk=>by
  rw[←Cb,eU,Ga hk];unfold gw;rw[dV,Ga hk];rfl
 refine⟨_,U,_,U,kl,U,⟨_,SqL.of uR⟩,cn (xs:=vN c) (λD j J d=>ao H5 d/\d D=Jp (.lst J)/\aC J ((c.take j).map λk=>rwo cs (gw g k)) (λr x=>fN NT H5 r x)) (λD R=>⟨ag R _,ab,aC.nil⟩) (λD j J d R _ hh=>SqL.of (hh.1 _ _ uR)) (λD j y J d R e hh=>?_) (λD J d R hh=>?_)⟩
 .obtain⟨S,eD,hy⟩:=hh;obtain⟨k,rfl,ek⟩:=oo e;have hj:j<(vN c).length:=(Gb.mp e).1;have c4:=hj;rw[cK]at c4;have hk:=Fh k (Gd ek);obtain⟨ra,m3,j4⟩:=hR.2 k _ (k9 k hk);have b5:=hy.1;rw[bo,ia]at b5;have a6:=k5.trans S;refine⟨_,U,t,_,_,_,_,U,a6 _ _ ht,bl.k_Table,bl.na_Table_rows,f1,_,U,rl,_,_,_,U,U,SqL.of (a6 _ _ f8),bN m3,cQ.mk hj eD (ay (by lia)) ⟨S.upd R,ab,?_⟩⟩;rw[take_snoc ek,fR];exact aC.snoc hy (fN.same j4 k5)
 .obtain⟨S,eD,hy⟩:=hh;rw[cK,fq]at hy;have a6:=k5.trans S;have e:(c.map λk=>rwo cs (gw g k))=(cur g c).map (rwo cs):=by unfold cur;rw[ov];rfl
  rw[e]at hy;have l4:RL NT d J ((cur g c).map (rwo cs)):=aC.mono hy λ_ _ p=>fN.same p S
  have mX:∀w∈cur g c,w∈g:=yd.mem;have d0:TOk Y.i Y.j d nm wy ou zs dv ((cur g c).map (rwo cs)) (cs.map Col.b) C.b:=by
   have o1:=Cd.same a6;refine⟨o1.words,o1.once,o1.one,o1.four,o1.way,o1.sum,o1.doms,o1.out,o1.len,λw hw=>?_,?_⟩
   .obtain⟨w0,j0,rfl⟩:=eR.mp hw;exact o1.rows _ (by rw[←Cb];exact eR.mpr ⟨w0,mX w0 j0,U⟩)
   .unfold cur;rw[bo,bo];have:=o1.few;lia
  refine⟨t,D,ou,nm,wy,zs,dv,J,rws,(cur g c).map (rwo cs),cs.map Col.b,C.b,U,c6.same a6,d0,eD,l4,λt' H9 s9 l3=>?_⟩;exact q t' (cur g c) H9 (g6.trans (So.of (S.trans s9))) (g8.same (S.trans s9)) (by rw[←e9];exact yd) l3 (d0.same s9)
theorem Fi(F:Fun K "law" "law" Y48 f fd) (bl:Bl K mg Y)(dn:Callee P w K mg base 20 "_law_cell_at" ["script","k"] (eO K Y)) (i4:Callee P w K mg base 20 "_law_column" ["m","most"] (fD K Y)) (sr:Callee P w K mg base 20 "_law_way" ["turn","out"] (jj K Y)) (kT:Callee P w K mg base 20 "_law_bit_rows" ["seeds","columns","out"] (dU K Y)) (pD:Callee P w K mg base 20 "_law_table" ["head","columns","out","way","bit_rows"] (gv K Y)) (nh:Callee P w K mg base 20 "_law_points" ["columns"] (fC K Y)) (ow:Callee P w K mg base 20 "thinned" ["table"] (jl K Y)) (fm:Callee P w K mg base 20 "_law_rows" ["bit_rows","columns"] (fj K Y)) (bI:Callee P w K mg base 20 "_law_mixed" ["cell","k"] (cF K Y)) (pE:Callee P w K mg base 20 "_law_seeds" ["cells","most"] (gn K Y)) (pF:Callee P w K mg base 20 "_law_three" ["bit_rows","out"] (gk K Y)) (mG:Callee P w K mg base 20 "_law_thinned" ["way","bit_rows","out","points"] (eS K Y)) (uS:Callee P w K mg base 20 "verdict" ["table","codes"] (jk K Y)) (kO:Callee P w K mg base 20 "_law_like" ["found","table","rows"] (gW K Y)) (pG:Callee P w K mg base 20 "_law_codes" ["columns","point","turn"] (gi K Y)) (qN:Callee P w K mg base 20 "_law_same" ["found","due"] (gQ K Y)) (gx:Callee P w K mg base 20 "_law_due" ["way","bit_rows","out","point"] (gq K Y)):aK P w K mg base CX0 21 f fd ["script"] (J18 K):=by
 refine F.ok Z48 (λvs H Q E h=>?_) (λv2 A o1 s H vs Q E J h=>?_)
 .obtain⟨a,ns,rfl,hS,m2,f9,q⟩:=h;rfl
 obtain⟨a,ns,rfl,hS,m2,f9,q⟩:=h;refine'⟨?tt,?r0,?rd⟩
 case' r0=>refine' aE ?st0 ?r1
 case' r1=>refine' aE ?st1 ?r2
 case' r2=>refine' aE ?st2 ?r3
 case' r3=>refine' aE ?st3 ?r4
 case' r4=>refine' aE ?st4 ?r5
 case' r5=>refine' aE ?st5 ?r6
 case' r6=>refine' aE ?st6 ?r7
 case' r7=>refine' aE ?st7 ?r8
 case' r8=>refine' aE ?st8 ?r9
 case' r9=>refine' aE ?st9 ?r10
 case' r10=>refine' aE ?st10 ?r11
 case' r11=>refine' aE ?st11 ?r12
 case' r12=>refine' aE ?st12 ?r13
 case' r13=>refine' aE ?st13 ?r14
 case' r14=>refine' aE ?st14 ?r15
 case' r15=>refine' af ?st15
 case' st0 =>
  refine' aF (i:=1) ?u2a ?u2b ?u2c ?h1 ?u2d ?u2e
  case' u2a=>exact Z48.nd
  case' u2b=>exact U
  case' u2c=>exact(Or.inr U)
  case' h1=>refine' aH dn J U ?h3
  case' h3=>refine' aa ?h4 ?h5 ?h6
  case' h4=>exact(pv 0)
  case' h5=>refine' aa ?h7 ?h8 ?h9
  case' h7=>exact ai
  case' h8=>exact ae
  case' h9=>exact U
  case' h6=>exact U
  case' u2d=>exact U
  case' u2e=>first|exact .inl U|exact .inr U
 case' st1=>exact(aF (i:=2) Z48.nd U (Or.inl U) (aH dn J U (aa (pv 0) (aa ai ae))))
 case' st2=>exact(aF (i:=3) Z48.nd U (Or.inr U) (ar bz ai (ar aS (pv 1) ai)))
 case' st3=>exact(jM (i:=4) Z48.nd U (Or.inl U) (dA U bl.range_ (aa (pv 3) ae)) (bX (N:=["j","head","count"]) (fr:=[1,3]) (cl:=[("head",s.heap.objs.size+1),("count",s.heap.objs.size+1+1)]) U U (by decide+kernel) (by decide+kernel) U (by decide+kernel) U U U (hZ.mpr ⟨U,hZ.mpr ⟨U,iM _⟩⟩) U) U (λ_ _ _ _=>bC) (λ_ _ _ _=>(aH i4 J U (aa (aH bI J U (aa (pv 1) (aa (ar bz ai (pv 0)) ae))) (aa (aI (dI (K:=K) U) (bc (aa ai (aa ai (aa ai (aa ai ae))))) (ar dC (pv 2) ai) (λ_ _=>U)) ae)))))
 case' st4=>exact(aF (i:=5) Z48.nd U (Or.inl U) (aH i4 J U (aa (aH bI J U (aa (aH dn J U (aa (pv 0) (aa ai ae))) (aa ai ae))) (aa ai ae))))
 case' st5=>exact(aF (i:=6) Z48.nd U (Or.inl U) (aH sr J U (aa (pv 2) (aa (pv 5) ae))))
 case' st6=>exact(aO (PW.pt (dz (aJ cc (pv 6) aQ (aL _)) (cS (aJ cc (ar aS (ar bu (pv 2) ai) ai) ai (aL _)))))
 (ak (aF (i:=7) Z48.nd U (Or.inl U) (ar bz ai (ar aS (aH dn J U (aa (pv 0) (aa ai ae))) (ar i7 ai ai))))
 (af (aF (i:=5) Z48.nd U (Or.inl U) (bc (aa (bc (aa (ba (aa (ar dC ai (pv 7)) (aa (pv 7) ae))) (aa (ba (aa (ar bz (pv 7) ai) (aa (ar ly ai (pv 7)) ae))) ae))) (aa dY (aa ai ae)))))))
 aG)
 case' st7=>exact(aF (i:=8) Z48.nd U (Or.inl U) (aH kT J U (aa (aH pE J U (aa (df d8 (pv 0) (d7 ai) d6) (aa ai ae))) (aa (pv 4) (aa (pv 5) ae)))))
 case' st8=>exact(aO (PW.pt (dz (aJ cc (pv 6) aQ (aL _)) (dz (aJ cc (ar aS (ar bu (pv 2) ai) ai) ai (aL _)) (cS (aJ iT (av aD U bl.len_ Jo (aa (pv 8) ae)) ai (aL _))))))
 (af (aF (i:=8) Z48.nd U (Or.inl U) (aH pF J U (aa (pv 8) (aa (pv 5) ae)))))
 aG)
 case' st9=>exact(aF (i:=9) Z48.nd U (Or.inl U) (aH pD J U (aa (pv 1) (aa (pv 4) (aa (pv 5) (aa (pv 6) (aa (pv 8) ae)))))))
 case' st10=>exact(aF (i:=10) Z48.nd U (Or.inl U) (aH nh J U (aa (pv 4) ae)))
 case' st11=>exact(aF (i:=11) Z48.nd U (Or.inl U) (aH ow J U (aa (pv 9) ae)))
 case' st12=>exact(aF (i:=12) Z48.nd U (Or.inl U) (aH fm J U (aa (aH mG J U (aa (pv 6) (aa (pv 8) (aa (pv 5) (aa (pv 10) ae))))) (aa (pv 4) ae))))
 case' st13=>exact(aO (PW.pt (jI (bW (bq (aH kO J U (aa (pv 11) (aa (pv 9) (aa (pv 12) ae)))))) (kd (bW (bq (aH kO J U (aa (aH ow J U (aa (pv 11) ae)) (aa (pv 9) (aa (pv 12) ae)))))))))
 (af (au dY))
 aG)
 case' st14=>exact(bg GO.never U (aP (pv 10)) (ax (i:=13) Z48.nd U (Or.inl U))
 (ak (aF (i:=14) Z48.nd U (Or.inl U) (aH uS J U (aa (pv 11) (aa (aH pG J U (aa (pv 4) (aa (pv 13) (aa (ar bu (pv 2) ai) ae)))) ae))))
 (af (aO (bW (bq (aH qN J U (aa (pv 14) (aa (aH gx J U (aa (pv 6) (aa (pv 8) (aa (pv 5) (aa (pv 13) ae))))) ae)))))
 (af (au dY))
 aG))))
 case' st15=>exact(au (dc (xp J) (aN (pv 9) U) (aH fm J U (aa (pv 8) (aa (pv 4) ae))) (aL _)))
 case rd =>
  refine⟨λn m=>m=H/\∃h:Int,n=[Jp (.ref a),Jp (.int h),Jq,Jq,Jq,Jq,Jq,Jq,Jq,Jq,Jq,Jq,Jq,Jq,Jq],⟨_,U,a,ns,0,U,hS,Int.le_refl _,λr=>⟨U,r,U⟩⟩,?_⟩;rintro q6 H1 ⟨rfl,h,rfl⟩;refine⟨λn m=>m=H1/\∃S:Int,n=[Jp (.ref a),Jp (.int h),Jp (.int S),Jq,Jq,Jq,Jq,Jq,Jq,Jq,Jq,Jq,Jq,Jq,Jq],⟨_,U,a,ns,2,U,hS,by decide,λr=>⟨U,r,U⟩⟩,?_⟩;rintro q5 H2 ⟨rfl,S,rfl⟩;refine⟨λn m=>m=H2/\n=[Jp (.ref a),Jp (.int h),Jp (.int S),Jp (.int (1+h%4)),Jq,Jq,Jq,Jq,Jq,Jq,Jq,Jq,Jq,Jq,Jq],⟨_,U,_,_,U,U,(by show(0:Int)<4;decide),_,_,U,U,U,U⟩,?_⟩;rintro q4 H3 ⟨rfl,rfl⟩;have h0:=zE h (show(4:Int)≠0 by decide);have h1:=zz h (show(0:Int)<4 by decide);obtain⟨v4,k3,k4,k2,Cm⟩:=AE (h:=h);refine⟨λn m=>ao H3 m/\∃(R:E2)(xs:List V)(d:List Col),m R=Jp (.lst xs)/\cR NT m xs d/\(∀c∈d,aZ c)/\(∀c∈d,((c.prs.length:Nat):Int)<=v4)/\d.length=(1+h%4).toNat/\n=[Jp (.ref a),Jp (.int h),Jp (.int S),Jp (.int (1+h%4)),Jp (.ref R),Jq,Jq,Jq,Jq,Jq,Jq,Jq,Jq,Jq,Jq],?_,?_⟩
  .refine⟨_,U,_,U,(by show -(2^62)<=1+h%4;lia),(by show 1+h%4<2^62;lia),eJ (λD i O m=>ao H3 m/\m D=Jp (.lst O)/\∃d:List Col,cR (· ≠ D) m O d/\d.length=i/\∀c∈d,aZ c/\((c.prs.length:Nat):Int)<=v4) (λD hD=>⟨ag hD _,ab,[],aC.nil,U,(λc hc=>by cases hc)⟩) (λD i O m hD hi hh=>?_) (λD O m hD hh=>?_)⟩
   .obtain⟨sm,eD,d,hz,hl,hok⟩:=hh;refine⟨_,U,_,U,_,_,U,U,_,_,U,(by show 0<=1+(0+(i:Int));lia),(by show 1+(0+(i:Int))<=100;lia),λr _=>?_⟩;refine⟨(by show 4<=FL;decide),λp hp=>?_⟩;have u1:=ag hp (.lst [V.int 6,.int 4,.int 3,.int 2]);have e1:upd m p (.lst [V.int 6,.int 4,.int 3,.int 2]) p=Jp (.lst [V.int 6,.int 4,.int 3,.int 2]):=ab;generalize upd m p (.lst [V.int 6,.int 4,.int 3,.int 2])=H5 at u1 e1⊢;refine⟨_,U,_,_,U,U,p,_,_,_,U,U,SqL.of e1,k3,r,v4,U,k4,k2,λl c H6 s6 hc ok l1=>?_⟩;have j4:=u1 _ _ eD;have j3:=s6 _ _ j4;have u4:O.length=i:=by rw[hz.1,hl]
    have l7:dj (· ≠ D) H6 l c:=hc.wk λx hx z=>by rw[z,j4]at hx;cases hx
    have k0:cR (· ≠ D) H6 (O++[.ref l]) (d++[c]):=aC.snoc (hz.same (u1.trans s6)) l7;refine cQ.mk hi j3 (ay (by lia)) ⟨((sm.trans u1).trans s6).upd hD,ab,d++[c],k0.updN (λz=>z U) j3,by rw[dq,hQ,hl],λc' a6=>?_⟩;rcases iK.mp a6 with a6 | a6
    .exact hok c' a6
    .rw[show c'=c by simpa using a6];exact⟨ok,l1⟩
   .obtain⟨sm,eD,d,hz,hl,hok⟩:=hh;exact⟨sm,D,O,d,eD,hz.any,(λc hc=>(hok c hc).1),(λc hc=>(hok c hc).2),hl,U⟩
  rintro q3 H4 ⟨s4,R,xs,d,m5,l4,hok,l6,l5,rfl⟩;have i8:1<=d.length:=by lia
  have Z:d.length<=4:=by lia
  have u9:(1+h%4)=(d.length:Int):=by lia
  refine⟨λn m=>ao H4 m/\∃(G:E2)(B:Col),dj NT m G B/\aZ B/\n=[Jp (.ref a),Jp (.int h),Jp (.int S),Jp (.int (1+h%4)),Jp (.ref R),Jp (.ref G),Jq,Jq,Jq,Jq,Jq,Jq,Jq,Jq,Jq],⟨_,U,a,ns,1,U,s4.seq hS,by decide,λr=>⟨r,0,U,by decide,by decide,λr2 _=>⟨r2,3,U,by decide,by decide,λl c H5 s5 hc ok _=>⟨s5,l,c,hc.any,ok,U⟩⟩⟩⟩,?_⟩;rintro q2 H5 ⟨t5,G,B,i1,L,rfl⟩;have s5:=s4.trans t5;have ye:=t5 _ _ m5;have AN:=l4.same t5;refine⟨λn m=>ao H5 m/\∃(C:Str)(wi:Nat),six[wi]?=Jp C/\(C=s!"sum" -> B.w=Js)/\n=[Jp (.ref a),Jp (.int h),Jp (.int S),Jp (.int (1+h%4)),Jp (.ref R),Jp (.ref G),Jp (.str C),Jq,Jq,Jq,Jq,Jq,Jq,Jq,Jq],⟨_,U,_,U,S,G,B,U,i1,λC i H6 s6 hi hs=>⟨s6,C,i,hi,hs,U⟩⟩,?_⟩;rintro q1 H6 ⟨t6,C,wi,X,yU,rfl⟩;have s6:=s5.trans t6;have Fj:=t6 _ _ ye;have Fl:=AN.same t6;have Cn:=i1.same t6;refine⟨λn m=>ao H6 m/\∃(G:E2)(B:Col)(c7:Option V),dj NT m G B/\aZ B/\(C=s!"sum" -> B.w=Js)/\(C=s!"sum" -> S / 6%2=1->∃p0 p1:Int×Int,B.prs[0]?=Jp p0/\B.prs[1]?=Jp p1/\∀x∈[p0.1,p0.2,p1.2],B.lo<=x/\x<=B.hi)/\n=[Jp (.ref a),Jp (.int h),Jp (.int S),Jp (.int (1+h%4)),Jp (.ref R),Jp (.ref G),Jp (.str C),c7,Jq,Jq,Jq,Jq,Jq,Jq,Jq],?_,?_⟩
  .refine⟨_,U,U,_,U,?_⟩;by_cases hw:C=s!"sum"
   rotate_left
   .exact bB (λe=>by injection e with e;exact hw e) (aW ⟨ao.refl _,G,B,_,Cn,L,yU,(λz=>Jx z hw),U⟩)
   subst hw;refine dN U ⟨_,U,_,_,U,U,⟨by decide,by decide⟩,_,_,U,U,(by show(0:Int)<2;decide),U,_,U,c9 (λg=>?_) (λg=>?_)⟩
   rotate_left
   .exact⟨ao.refl _,G,B,_,Cn,L,yU,(λ_ z=>Jx (Jy (JB V.int z)) g),U⟩
   refine⟨_,U,a,ns,1,U,s6.seq hS,by decide,λr=>⟨_,_,U,U,⟨by decide,by decide,by decide⟩,_,_,U,U,p10 _,_,_,U,U,?_⟩⟩;have m0:=zE r (Int.ne_of_gt (p10 (58:Int).toNat));generalize r%10^(58:Int).toNat=m_ at m0⊢;obtain⟨M,hM⟩:∃M,M=1+m_:=⟨_,U⟩;rw[←hM];refine⟨_,U,_,_,U,U,_,U,br,λt0 k6=>?_⟩;have u0:=ag k6 (.tup [.int (0-M),.int M]);have e0:upd H6 t0 (.tup [.int (0-M),.int M]) t0=Jp (.tup [.int (0-M),.int M]):=ab;generalize upd H6 t0 (.tup [.int (0-M),.int M])=H7 at u0 e0⊢;refine⟨_,U,_,_,U,U,_,U,_,_,U,U,.inl ⟨by decide,by decide⟩,br,λt1 k5=>?_⟩;have u1:=ag k5 (.tup [.int (M+1),.int (2*M)]);have e1:upd H7 t1 (.tup [.int (M+1),.int (2*M)]) t1=Jp (.tup [.int (M+1),.int (2*M)]):=ab;generalize upd H7 t1 (.tup [.int (M+1),.int (2*M)])=H8 at u1 e1⊢;refine⟨(by show 2<=FL;decide),λW k8=>?_⟩;have u2:=ag k8 (.lst [.ref t0,.ref t1]);have e2:upd H8 W (.lst [.ref t0,.ref t1]) W=Jp (.lst [.ref t0,.ref t1]):=ab;generalize upd H8 W (.lst [.ref t0,.ref t1])=H9 at u2 e2⊢;refine⟨(by show 3<=FL;decide),λo ho=>?_⟩;have u3:=ag ho (.lst [.ref W,.bl Js,.int 0]);have d0:=u2.trans u3;have f0:=d0 _ _ (u1 _ _ e0);have f1:=d0 _ _ e1;refine⟨(u0.trans u1).trans d0,o,⟨[(0-M,M),(M+1,2*M)],Js,0⟩,_,⟨W,[.ref t0,.ref t1],trivial,trivial,ab,u3 _ _ e2,?_⟩,⟨by show 1<=2;decide,by show 2<=6;decide,?_,(λz=>by cases z),(λz=>by cases z)⟩,(λ_=>U),(λ_ _=>⟨(0-M,M),(M+1,2*M),U,U,λx hx=>?_⟩),U⟩
   .exact PL.snoc (PL.snoc .nil f0) f1
   .exact Ch.snoc (ps:=[(0-M,M)]) (Ch.snoc (ps:=[]) Ch.nil (by lia) (λp e=>by simp at e)) (by lia) (λp e=>by simp at e;subst e;rfl)
   .have hx:x=0-M\/x=M\/x=2*M:=by simpa using hx
    show 0-M<=x/\x<=2*M;lia
  rintro o3 e7 ⟨d1,G,B,c7,AU,L,ph,k9,rfl⟩;have f4:=s6.trans d1;have yV:=d1 _ _ Fj;have yW:=Fl.same d1;refine⟨λn m=>ao e7 m/\∃(u:E2)(O:List V)(I:List BW),m u=Jp (.lst O)/\BRL NT m O I/\I.length<=8/\(∀w∈I,cm d B w)/\n=[Jp (.ref a),Jp (.int h),Jp (.int S),Jp (.int (1+h%4)),Jp (.ref R),Jp (.ref G),Jp (.str C),c7,Jp (.ref u),Jq,Jq,Jq,Jq,Jq,Jq],?_,?_⟩
  .obtain⟨ms,em,lm⟩:=vU ns 3 Jq;refine⟨_,U,_,U,a,_,U,f4.seq hS,λc1 Fn=>?_⟩;rw[show(Jp (3:Int))=Jp ((3:Nat):Int)from U,em];have u1:=ag Fn (.lst (ms.map V.int));have e1:upd e7 c1 (.lst (ms.map V.int)) c1=Jp (.lst (ms.map V.int)):=ab;generalize upd e7 c1 (.lst (ms.map V.int))=H7 at u1 e1⊢;refine⟨c1,ms,8,U,SqL.of e1,by lia,by decide,by decide,λl ss H8 s8 e8 t4 _ l0=>?_⟩;have u8:=u1.trans s8;exact⟨_,U,_,U,l,R,G,ss,xs,d,B,U,e8,by lia,l0,u8 _ _ yV,yW.same u8,hok,i8,Z,AU.same u8,L,λu O I H9 s9 e9 hz k1 a2=>⟨u8.trans s9,u,O,I,e9,hz.wk λ_ _=>trivial,by lia,a2,U⟩⟩
  rintro q0 H7 ⟨t7,c3,b0,c6,AV,d3,F8,Co,rfl⟩;have B5:b0.length=c6.length:=d3.1;refine⟨λn m=>ao H7 m/\∃(u:E2)(O:List V)(I:List BW),m u=Jp (.lst O)/\BRL NT m O I/\I.length<=11/\(∀w∈I,cm d B w)/\n=[Jp (.ref a),Jp (.int h),Jp (.int S),Jp (.int (1+h%4)),Jp (.ref R),Jp (.ref G),Jp (.str C),c7,Jp (.ref u),Jq,Jq,Jq,Jq,Jq,Jq],?_,?_⟩
  .have stay:ao H7 H7/\∃(u:E2)(O:List V)(I:List BW),H7 u=Jp (.lst O)/\BRL NT H7 O I/\I.length<=11/\(∀w∈I,cm d B w)/\[Jp (.ref a),Jp (.int h),Jp (.int S),Jp (.int (1+h%4)),Jp (.ref R),Jp (.ref G),Jp (.str C),c7,Jp (.ref c3),Jq,Jq,Jq,Jq,Jq,Jq]=[Jp (.ref a),Jp (.int h),Jp (.int S),Jp (.int (1+h%4)),Jp (.ref R),Jp (.ref G),Jp (.str C),c7,Jp (.ref u),Jq,Jq,Jq,Jq,Jq,Jq]:=⟨ao.refl _,c3,b0,c6,AV,d3,by lia,Co,U⟩;refine⟨_,U,U,_,U,?_⟩;by_cases hw:C=s!"sum"
   rotate_left
   .exact bB (λe=>by injection e with e;exact hw e) (aW stay)
   subst hw;refine dN U ⟨_,U,_,_,U,U,⟨by decide,by decide⟩,_,_,U,U,(by show(0:Int)<2;decide),U,_,U,c9 (λg=>?_) (λg=>?_)⟩
   rotate_left
   .exact aW stay
   have g:S / 6%2=1:=V.int.inj (JA g);refine⟨_,U,c3,_,U,.inl (SqL.of AV),_,_,U,U,_,U,c9 (λg2=>?_) (λg2=>?_)⟩
   rotate_left
   .exact stay
   have g2:(2:Int)<((b0.length:Nat):Int):=JA g2;obtain⟨p0,p1,x0,x1,l3⟩:=k9 U g;exact⟨_,U,_,U,c3,G,b0,c6,d,B,p0,p1,U,AV,d3,by lia,by lia,AU.same t7,x0,x1,Co,l3,λl c5 r m s' e' d4 hl hb=>⟨s',l,c5,r,e',d4,by lia,hb,U⟩⟩
  rintro o2 n5 ⟨j8,u,O,I,j2,hz,k1,a2,rfl⟩;have b1:=t7.trans j8;have AW:=b1 _ _ yV;have AX:=yW.same b1;have Cp:=AU.same b1;have kN:∀w∈I,w.1.length=d.length:=λw hw=>(a2 w hw).len
  refine⟨λn m=>ao n5 m/\∃(t ou:E2)(dv:List V)(a0:List Rw),TF Y.k m t (wd (h / 16) 0) C ou ((List.range d.length).map λj:Nat=>wd (h / 16) (1+(0+(j:Int)))) dv a0/\TOk Y.i Y.j m (wd (h / 16) 0) C ou ((List.range d.length).map λj:Nat=>wd (h / 16) (1+(0+(j:Int)))) dv a0 (d.map Col.b) B.b/\aC dv d (dP Y.i Y.j m)/\dP Y.i Y.j m ou B/\cw d I a0/\n=[Jp (.ref a),Jp (.int h),Jp (.int S),Jp (.int (1+h%4)),Jp (.ref R),Jp (.ref G),Jp (.str C),c7,Jp (.ref u),Jp (.ref t),Jq,Jq,Jq,Jq,Jq],⟨_,U,_,U,_,U,_,U,_,U,h,R,G,u,C,xs,O,d,B,I,wi,U,AW,AX,hok,i8,Z,Cp,L,X,ph,j2,hz,by lia,a2,λt ou dv a0 H8 s8 hT a7 c2 b5 b6=>⟨s8,t,ou,dv,a0,hT,a7,c2,b5,b6,U⟩⟩,?_⟩;rintro p5 H8 ⟨t8,t,ou,dv,a0,hT,a7,c2,b5,b6,rfl⟩;have k7:a0=I.map (rwo d):=b6.rwo kN;subst k7;generalize v0:((List.range d.length).map λj:Nat=>wd (h / 16) (1+(0+(j:Int))))=NZ at hT a7;have i3:∀c∈d,c.prs.length<=v4.toNat:=λc hc=>by have:=l6 c hc;lia
  have i2:(v4.toNat+1)^d.length<=300:=by rw[l5];exact wX Cm (by decide)
  refine⟨λn m=>ao H8 m/\∃(W:E2)(pz:List V),m W=Jp (.lst pz)/\PtL NT m pz (cI (cM d))/\n=[Jp (.ref a),Jp (.int h),Jp (.int S),Jp (.int (1+h%4)),Jp (.ref R),Jp (.ref G),Jp (.str C),c7,Jp (.ref u),Jp (.ref t),Jp (.ref W),Jq,Jq,Jq,Jq],⟨_,U,R,xs,d,U,t8 _ _ AW,AX.same t8,hok,Z,λW pz H9 s9 e9 e3=>⟨s9,W,pz,e9,e3,U⟩⟩,?_⟩;rintro p4 H9 ⟨t9,W,pz,m4,e3,rfl⟩;have a3:=t8.trans t9;have s9:=(f4.trans b1).trans a3;have Fo:=a3 _ _ AW;have Fp:=AX.same a3;have Fq:=Cp.same a3;have Fs:=a3 _ _ j2;have j9:=hz.same a3;have e5:=hT.same t9;have Cq:=a7.same t9;have Ft:aC dv d (dP Y.i Y.j H9):=aC.mono c2 λ_ _ p=>p.same t9
  have Fu:=b5.same t9;have l2:=L.le;have i0:∀p∈cI (cM d),p.length=d.length:=λp hp=>by rw[(iJ.iff.mp hp).1,fQ]
  clear hT a7 c2 b5 b6;have vO:iI K H9:=λz e=>(gC.new (f9 z e)).same s9
  refine⟨λn m=>So H9 m/\iI K m/\∃(fo:E2)(r:List BW),Th (ver (wf wi B.lo B.hi)) (cI (cM d)) I r/\TF Y.k m fo (wd (h / 16) 0) C ou NZ dv (r.map (rwo d))/\TOk Y.i Y.j m (wd (h / 16) 0) C ou NZ dv (r.map (rwo d)) (d.map Col.b) B.b/\n=[Jp (.ref a),Jp (.int h),Jp (.int S),Jp (.int (1+h%4)),Jp (.ref R),Jp (.ref G),Jp (.str C),c7,Jp (.ref u),Jp (.ref t),Jp (.ref W),Jp (.ref fo),Jq,Jq,Jq],⟨_,U,t,ou,_,C,NZ,dv,d,B,I,wi,v4.toNat,_,U,e5,Cq,X,a2,hok,L,wI e5 Cq X (lh hok kN) a2 hok L Z (by lia) i3 i2 (by lia),vO,λfo r m so rt a1 hF e6=>⟨so,rt,fo,r,a1,hF,e6,U⟩⟩,?_⟩;rintro p3 j7 ⟨ni,Fv,fo,r_,a1,hF,e6,rfl⟩;have b4:∀w∈r_,cm d B w:=λw hw=>a2 w (a1.mem w hw)
  have qO:∀w∈r_,w.1.length=d.length:=λw hw=>(b4 w hw).len
  have F9:=a1.len;have yX:=ni.lst Fo;have yY:=Fp.so ni;have yZ:=Fq.so ni;have y6:=ni.lst Fs;have Cr:=j9.so ni;have y7:=ni.lst m4;have y8:=e3.so ni;have AY:=e5.so ni;have Cs:aC dv d (dP Y.i Y.j j7):=aC.mono Ft λ_ _ p=>p.so ni
  have y9:=Fu.so ni;refine⟨λn m=>ao j7 m/\∃(du:E2)(rx:List V),m du=Jp (.lst rx)/\RL NT m rx (r_.map (rwo d))/\n=[Jp (.ref a),Jp (.int h),Jp (.int S),Jp (.int (1+h%4)),Jp (.ref R),Jp (.ref G),Jp (.str C),c7,Jp (.ref u),Jp (.ref t),Jp (.ref W),Jp (.ref fo),Jp (.ref du),Jq,Jq],⟨_,U,_,U,_,U,_,U,C,wi,u,G,W,O,pz,I,B,cI (cM d),d.length,U,X,y6,Cr,by lia,yZ,L,y7,y8,by lia,kN,i0,λl c5 r' f3 d2 n4 d4 Fw=>?_⟩,?_⟩
  .have er:=Fw.uniq a1;subst er;refine⟨_,U,l,R,c5,xs,r',d,U,n4,d4,by lia,d2 _ _ yX,yY.same d2,hok,Z,qO,λrl rx Fx c4 a4 n3 hR AZ=>⟨d2.trans a4,rl,rx,n3,?_,U⟩⟩;rw[←AZ.rwo qO];exact RL.any hR
  rintro p2 f3 ⟨T,du,rx,j1,i5,rfl⟩;have za:aC dv d (dP Y.i Y.j f3):=aC.mono Cs λ_ _ p=>p.same T
  have zc:=y9.same T;refine⟨λn m=>So f3 m/\n=[Jp (.ref a),Jp (.int h),Jp (.int S),Jp (.int (1+h%4)),Jp (.ref R),Jp (.ref G),Jp (.str C),c7,Jp (.ref u),Jp (.ref t),Jp (.ref W),Jp (.ref fo),Jp (.ref du),Jq,Jq],?_,?_⟩
  .refine⟨_,U,_,U,_,U,fo,t,du,ou,(wd (h / 16) 0),C,NZ,dv,rx,r_.map (rwo d),I.map (rwo d),d,B,U,hF.same T,AY.same T,j1,i5,za,zc,λc4 a4=>⟨_,U,aW ?_⟩⟩;have yh:=(hF.same T).same a4;have zd:=(e6.same T).same a4;refine⟨_,U,fo,ou,_,C,NZ,dv,d,B,r_,wi,v4.toNat,_,U,yh,zd,X,b4,hok,L,wI yh zd X (lh hok qO) b4 hok L Z (by lia) i3 i2 (by lia),(Fv.same T).same a4,λf2 r2 o0 Fy _ Fz m1 _=>?_⟩;have er:r2=r_:=Fz.uniq (.fin a1.clr);subst er;have v:=(So.of a4).trans Fy;exact⟨_,U,_,U,f2,t,du,ou,(wd (h / 16) 0),C,NZ,dv,rx,r2.map (rwo d),I.map (rwo d),d,B,U,m1,(AY.same T).so v,v.lst j1,RL.so v i5,(aC.mono za λ_ _ p=>p.so v),zc.so v,λn7 b3=>⟨_,U,aW ⟨v.trans (So.of b3),U⟩⟩⟩
  rintro o5 c4 ⟨FA,rfl⟩;have fI:=(So.of T).trans FA;have ze:=fI.lst yX;have zf:=yY.so fI;have yh:=hF.so fI;have FC:=AY.so fI;have Ct:=y9.so fI;have zg:=fI.lst y6;have Cu:=Cr.so fI;have Cv:=yZ.so fI;have j6:=fI.lst y7;have Cw:=y8.so fI;refine⟨λn m=>ao c4 m/\∃a9 a8:Option V,n=[Jp (.ref a),Jp (.int h),Jp (.int S),Jp (.int (1+h%4)),Jp (.ref R),Jp (.ref G),Jp (.str C),c7,Jp (.ref u),Jp (.ref t),Jp (.ref W),Jp (.ref fo),Jp (.ref du),a9,a8],?_,?_⟩
  .refine⟨_,U,W,U,⟨_,SqL.of j6⟩,bw (xs:=pz) (λi σ m=>ao c4 m/\∃a9 a8:Option V,σ=[Jp (.ref a),Jp (.int h),Jp (.int S),Jp (.int (1+h%4)),Jp (.ref R),Jp (.ref G),Jp (.str C),c7,Jp (.ref u),Jp (.ref t),Jp (.ref W),Jp (.ref fo),Jp (.ref du),a9,a8]) ⟨ao.refl _,_,_,U⟩ (λi σ m _ hh=>SqL.of (hh.1 _ _ j6)) (λi y σ m ey hh=>?_) (λσ m hh=>hh)⟩;obtain⟨sm,a9,a8,rfl⟩:=hh;obtain⟨r,p,rfl,ep,_,g0⟩:=aC.get (Cw.same sm) ey;have e4:=Gd ep;have h2:=iJ.iff.mp e4;have lp:=i0 p e4;refine⟨_,U,_,U,_,U,_,U,_,_,U,U,⟨by decide,by decide⟩,R,r,xs,d,p,_,U,sm _ _ ze,zf.same sm,hok,Z,g0,h2,λcl cd v6 f8 n1 i9=>?_⟩;have c8:=sm.trans f8;refine⟨fo,cl,r_.map (rwo d),wi,B.b,cd,U,(yh.same c8).tbl X (Ct.same c8).dom l2,SqL.of n1,λx hx=>?_,λr1 v5 f6 d5=>?_⟩
   .obtain⟨w,hw,rfl⟩:=eR.mp hx;rw[show(rwo d w).1.length=d.length from pb (qO w hw),i9.1]
   .rw[Ap,BS (lh hok qO) b4 hok h2 i9]at d5;have ev:ver (wf wi B.b.1 B.b.2) (pc r_ p)=ver (wf wi B.b.1 B.b.2) (pc I p):=a1.ver p e4;rw[ev]at d5;have w2:=c8.trans f6;refine⟨_,U,_,U,_,U,_,U,_,U,C,wi,u,G,r,O,I,B,p,U,X,w2 _ _ zg,Cu.same w2,by lia,Cv.same w2,L,f6 _ _ (f8 _ _ g0),(λw hw=>by rw[kN w hw,lp]),by lia,λr2 v3 f5 n0=>?_⟩;exact⟨r1,r2,_,U,f5.seqT d5,SqT.of n0,_,U,aW ⟨w2.trans f5,_,_,U⟩⟩
  rintro o4 o0 ⟨a5,a9,a8,rfl⟩;obtain⟨s0,s7,s1,t2,s3,q7,g1,g2,g3,g4,g5,g6,g7,g8,g9,m3,j0,v1⟩:=FC.same a5;refine⟨_,U,t,_,_,_,_,U,g1,bl.k_Table,bl.na_Table_rows,g2,_,U,_,U,u,R,O,xs,I,d,U,a5 _ _ zg,Cu.same a5,by lia,a5 _ _ ze,zf.same a5,hok,Z,kN,λrl t3 Fx n7 b3 n2 hR AZ=>?_⟩;rw[AZ.rwo kN]at hR;exact uJ (SqL.of (b3 _ _ m3)) (SqL.of n2) (by rw[j0.1,hR.1]) (qu (j0.same b3) (RL.any hR)) (q _)
end
structure FF(K:W.Frag)(Y:AD):Prop where
 (h0:GF K "all_among" "all_among" Y32)
 (h1:GF K "is_word" "is_word" Y44)
 (h2:GF K "is_whole" "is_whole" Y43)
 (h3:GF K "alike" "alike" Y31)
 (h4:GF K "holds" "holds" Y42)
 (h5:GF K "edges" "edges" Y38)
 (h6:GF K "stretches" "stretches" Y81)
 (h7:GF K "grain" "grain" Y41)
 (h8:GF K "cut_columns" "cut_columns" Y37)
 (h9:GF K "built" "built" Y34)
 (h10:GF K "layered" "layered" Y70)
 (h11:GF K "closed" "closed" Y35)
 (h12:GF K "boxes" "boxes" Y33)
 (h13:GF K "gathered" "gathered" Y40)
 (h14:GF K "way_by" "way_by" Y87)
 (h15:GF K "refuse_names" "refuse_names" Y76)
 (h16:GF K "refuse_counts" "refuse_counts" Y75)
 (h17:GF K "refuse_way" "refuse_way" Y78)
 (h18:GF K "refuse_row" "refuse_row" Y77)
 (h19:GF K "own_row" "own_row" Y74)
 (h20:GF K "fits" "fits" Y39)
 (h21:GF K "mask" "mask" Y73)
 (h22:GF K "judged" "judged" Y45)
 (h23:GF K "verdict" "verdict" Y86)
 (h24:GF K "with_rows" "with_rows" Y88)
 (h25:GF K "table_bounds" "table_bounds" Y82)
 (h26:GF K "table_marks" "table_marks" Y83)
 (h27:GF K "column_marks" "column_marks" Y36)
 (h29:GF K "tiling" "tiling" Y85)
 (h30:GF K "judged_tiles" "judged_tiles" Y46)
 (h31:GF K "leans_on" "leans_on" Y72)
 (h32:GF K "thinned" "thinned" Y84)
 (h33:GF K "last_idle" "last_idle" Y47)
 (h34:GF K "leaning_tile" "leaning_tile" Y71)
 (h35:GF K "_law_cell_at" "_law_cell_at" Y51)
 (h36:GF K "_law_mixed" "_law_mixed" Y59)
 (h37:GF K "_law_seeds" "_law_seeds" Y63)
 (h38:GF K "_law_word" "_law_word" Y69)
 (h39:GF K "_law_column" "_law_column" Y53)
 (h40:GF K "_law_domain" "_law_domain" Y54)
 (h41:GF K "_law_spans" "_law_spans" Y64)
 (h42:GF K "_law_bit_row" "_law_bit_row" Y49)
 (h43:GF K "_law_bit_rows" "_law_bit_rows" Y50)
 (h44:GF K "_law_rows" "_law_rows" Y61)
 (h45:GF K "_law_table" "_law_table" Y65)
 (h46:GF K "_law_points" "_law_points" Y60)
 (h47:GF K "_law_codes" "_law_codes" Y52)
 (h48:GF K "_law_fit" "_law_fit" Y56)
 (h49:GF K "_law_way" "_law_way" Y68)
 (h50:GF K "_law_due" "_law_due" Y55)
 (h51:GF K "_law_same" "_law_same" Y62)
 (h52:GF K "_law_idle" "_law_idle" Y57)
 (h53:GF K "_law_thinned" "_law_thinned" Y66)
 (h54:GF K "_law_three" "_law_three" Y67)
 (h55:GF K "_law_like" "_law_like" Y58)
 (h87:GF K "law" "law" Y48)
 (m69:MF K Y.i "has_code" "Domain.has_code" Y2)
 (m70:MF K Y.j "has_code" "Domain.has_code" Y3)
 (m75:MF K Y.b "verdict" "Way.verdict" Y24)
 (m76:MF K Y.b "chosen" "First.chosen" Y5)
 (m77:MF K Y.c "verdict" "Way.verdict" Y28)
 (m78:MF K Y.c "chosen" "Only.chosen" Y14)
 (m79:MF K Y.d "verdict" "Way.verdict" Y26)
 (m80:MF K Y.d "chosen" "Like.chosen" Y9)
 (m81:MF K Y.e "verdict" "Way.verdict" Y27)
 (m82:MF K Y.e "chosen" "Low.chosen" Y11)
 (m83:MF K Y.f "verdict" "Way.verdict" Y25)
 (m84:MF K Y.f "chosen" "High.chosen" Y7)
 (m85:MF K Y.g "verdict" "Way.verdict" Y29)
 (m86:MF K Y.g "chosen" "Sum.chosen" Y16)
 (k56:KF K Y.k "Table" "Table.__init__" Y17)
 (k57:KF K Y.b "First" "First.__init__" Y4)
 (k59:KF K Y.c "Only" "Only.__init__" Y13)
 (k61:KF K Y.d "Like" "Like.__init__" Y8)
 (k63:KF K Y.e "Low" "Low.__init__" Y10)
 (k65:KF K Y.f "High" "High.__init__" Y6)
 (k67:KF K Y.g "Sum" "Sum.__init__" Y15)
 (k71:KF K Y.i "Numbers" "Numbers.__init__" Y12)
 (k73:KF K Y.j "Words" "Words.__init__" Y30)
 (b58:BF K Y.a "Way" "__init__" "Way.__init__" Y18)
 (b60:BF K Y.a "Way" "__init__" "Way.__init__" Y22)
 (b62:BF K Y.a "Way" "__init__" "Way.__init__" Y20)
 (b64:BF K Y.a "Way" "__init__" "Way.__init__" Y21)
 (b66:BF K Y.a "Way" "__init__" "Way.__init__" Y19)
 (b68:BF K Y.a "Way" "__init__" "Way.__init__" Y23)
 (b72:BF K Y.h "Domain" "__init__" "Domain.__init__" Y0)
 (b74:BF K Y.h "Domain" "__init__" "Domain.__init__" Y1)
 (t28:TFn K "row_form" Y79)
 (z0:W.nsIn K Gg "len" = Jp Jq)
 (z1:W.nsIn K Gg "isinstance" = Jp Jq)
 (z2:W.nsIn K Gg "int" = Jp Jq)
 (z3:W.nsIn K Gg "bool" = Jp Jq)
 (z4:W.nsIn K Gg "sorted" = Jp Jq)
 (z5:W.nsIn K Gg "list" = Jp Jq)
 (z6:W.nsIn K Gg "set" = Jp Jq)
 (z7:W.nsIn K Gg "zip" = Jp Jq)
 (z8:W.nsIn K Gg "tuple" = Jp Jq)
 (z9:W.nsIn K Gg "sum" = Jp Jq)
 (z10:W.nsIn K Gg "range" = Jp Jq)
 (z11:W.nsIn K Gg "enumerate" = Jp Jq)
 (z12:W.nsIn K Gg "reversed" = Jp Jq)
 (z13:W.nsIn K Gg "all" = Jp Jq)
 (z14:W.nsIn K Gg "min" = Jp Jq)
 (z15:W.nsIn K Gg "max" = Jp Jq)
 (z16:W.nsIn K Gg "str" = Jp Jq)
 (y0:∃u,W.nsIn K Gg "MOST_SIGNS" = Jp (Jp u)/\RelV (V.int 12) u)
 (y1:∃u,W.nsIn K Gg "SMALL_LETTERS" = Jp (Jp u)/\RelV (V.str "abcdefghijklmnopqrstuvwxyz") u)
 (y2:∃u,W.nsIn K Gg "MOST_GRAIN" = Jp (Jp u)/\RelV (V.int 300) u)
 (y3:∃u,W.nsIn K Gg "MOST_ROWS" = Jp (Jp u)/\RelV (V.int 200) u)
 (y4:∃u,W.nsIn K Gg "MOST_COLUMNS" = Jp (Jp u)/\RelV (V.int 4) u)
 (y5:∃u,W.nsIn K Gg "MOST_WORDS" = Jp (Jp u)/\RelV (V.int 40) u)
local macro_rules|`(tactic|trivial)=>`(tactic|exact λF=>F.binds λ_ _ _ _ _ _=>by first|exact L2.lb0 rfl|exact L2.lb1 λ_=>U|exact L2.lb2 λ_ _=>U|exact L2.lb3 λ_ _ _=>U|exact L2.lb4 λ_ _ _ _=>U|exact L2.lb5 λ_ _ _ _ _=>U|exact L2.lb6 λ_ _ _ _ _ _=>U|exact L2.lb7 λ_ _ _ _ _ _ _=>U|exact L2.lb8 λ_ _ _ _ _ _ _ _=>U|exact L2.lb9 λ_ _ _ _ _ _ _ _ _=>U)
theorem all_mk{l:W.OpenLaw}{w:D0}{K:W.Frag}{h:FG}{mg:Str->Option De}{D:E2}{Y:AD}(X:K.In h)(G:h.Ns Gg mg)(k:mg "law" = Jp (.ref D)) (b:Bk K Y)(u:FF K Y)
  : ∃g:He,(∀(s:Gk)(v:De),Hf s g ⟨[v],[]⟩ [("script",v)])/\∀d:FG,K.In d->d.Ns Gg mg->(∀q∈(W.tabIn K "row_form").toList,W.CodeHd d q.1 q.2/\d.BuiltinsAt mg q.2)->aK l.prog w K mg d CX0 21 D g ["script"] (J18 K):=by
 cases u.h87 with | @mk _ g a F =>
 cases k.symm.trans (W.mg_of X G a);have bl:Bl K mg Y:=⟨b,W.mg_of X G b.n_Way,W.mg_of X G b.n_First,W.mg_of X G b.n_Only,W.mg_of X G b.n_Like,W.mg_of X G b.n_Low,W.mg_of X G b.n_High,W.mg_of X G b.n_Sum,W.mg_of X G b.n_Domain,W.mg_of X G b.n_Numbers,W.mg_of X G b.n_Words,W.mg_of X G b.n_Table,W.mg_of X G b.n_NONE,W.mg_of X G b.n_CLASH,W.mg_none_of X G u.z0,W.mg_none_of X G u.z1,W.mg_none_of X G u.z2,W.mg_none_of X G u.z3,W.mg_none_of X G u.z4,W.mg_none_of X G u.z5,W.mg_none_of X G u.z6,W.mg_none_of X G u.z7,W.mg_none_of X G u.z8,W.mg_none_of X G u.z9,W.mg_none_of X G u.z10,W.mg_none_of X G u.z11,W.mg_none_of X G u.z12,W.mg_none_of X G u.z13,W.mg_none_of X G u.z14,W.mg_none_of X G u.z15,W.mg_none_of X G u.z16,(let ⟨_,y,x⟩:=u.y0;⟨_,W.mg_of X G y,x⟩),(let ⟨_,y,x⟩:=u.y1;⟨_,W.mg_of X G y,x⟩),(let ⟨_,y,x⟩:=u.y2;⟨_,W.mg_of X G y,x⟩),(let ⟨_,y,x⟩:=u.y3;⟨_,W.mg_of X G y,x⟩),(let ⟨_,y,x⟩:=u.y4;⟨_,W.mg_of X G y,x⟩),(let ⟨_,y,x⟩:=u.y5;⟨_,W.mg_of X G y,x⟩)⟩;refine⟨g,λs v=>by obtain⟨_,_,_,_,_,_,_,_,_,e,_,_⟩:=F.ex;rw[e];exact .of_eq U,λd _ _ hq=>?_⟩;have z:Zb l.prog w K mg d:=⟨X,G⟩;have qP:=mkC z u.h0 λF=>Dr F bl
 have B:=mkC z u.h2 λF=>Ds F bl
 have N:=mkC z u.h3 λF=>Dt F bl
 have M:=mkC z u.h4 λF=>Du F bl
 have L:=mkC z u.h5 λF=>Dv F bl
 have qQ:=mkC z u.h6 λF=>Dw F bl
 have P:=mkC z u.h11 λF=>Dy F bl
 have sv:=mkC z u.h13 λF=>Dz F bl
 have kU:=mkC z u.h16 λF=>DA F bl
 have V:=mkC z u.h19 λF=>DB F bl
 have mI:=mkC z u.h25 λF=>DC F bl
 have nj:=mkC z u.h35 λF=>DD F bl
 have f:=mkC z u.h36 λF=>DE F bl
 have A:=mkC z u.h38 λF=>DF F bl
 have qR:=mkC z u.h41 λF=>DG F bl
 have pH:=mkC z u.h46 λF=>DH F bl
 have qS:=mkC z u.h47 λF=>DI F bl
 have r:=mkC z u.h48 λF=>DJ F bl
 have T:=mkC z u.h49 λF=>DK F bl
 have sx:=mkC z u.h51 λF=>DL F bl
 have qT:=mkC z u.h54 λF=>DM F bl
 have ie:=mkB z u.b58 λF=>DN F bl
 have iP:=mkB z u.b60 λF=>DO F bl
 have iQ:=mkB z u.b62 λF=>DP F bl
 have jx:=mkB z u.b64 λF=>DQ F bl
 have iR:=mkB z u.b66 λF=>DR F bl
 have jy:=mkB z u.b68 λF=>DS F bl
 have eZ:=mkB z u.b72 λF=>O_0 F bl
 have fW:=mkB z u.b74 λF=>O_1 F bl
 have ig:=mkM z u.m76 λF=>O_5 F bl
 have jz:=mkM z u.m78 λF=>DT F bl
 have jA:=mkM z u.m80 λF=>O_9 F bl
 have kF:=mkM z u.m82 λF=>DU F bl
 have jB:=mkM z u.m84 λF=>O_7 F bl
 have kG:=mkM z u.m86 λF=>DV F bl
 have p:=mkC z u.h1 λF=>DW F bl qP.up
 have C:=mkC z u.h8 λF=>DX F bl qQ.up
 have A1:=mkC z u.h20 λF=>DY F bl M.up
 have mK:=mkC z u.h27 λF=>DZ F bl sv.up L.up
 have qU:=mkC z u.h37 λF=>D1 F bl f.up
 have pI:=mkC z u.h39 λF=>D3 F bl f.up
 have nq:=mkC z u.h42 λF=>D5 F bl f.up
 have t:=mkC z u.h44 λF=>D6 F bl qR.up
 have o:=mkC z u.h50 λF=>D8 F bl r.up
 have Z:=mkC z u.h55 λF=>Ea F bl N.up
 have gy:=mkK z u.k57 λF=>O_4 F bl ie.up
 have ij:=mkK z u.k59 λF=>Ee F bl iP.up
 have ip:=mkK z u.k61 λF=>O_8 F bl iQ.up
 have jC:=mkK z u.k63 λF=>Ef F bl jx.up
 have iq:=mkK z u.k65 λF=>O_6 F bl iR.up
 have jD:=mkK z u.k67 λF=>Eg F bl jy.up
 have fb:=mkM z u.m69 λF=>O_2 F bl B.up
 have fX:=mkM z u.m70 λF=>O_3 F bl B.up
 have eW:=mkK z u.k71 λF=>Eh F bl eZ.up
 have iS:=mkM z u.m75 λF=>Ei F bl ig.up
 have jE:=mkM z u.m77 λF=>Ej F bl jz.up
 have jF:=mkM z u.m79 λF=>Ek F bl jA.up
 have j6:=mkM z u.m81 λF=>El F bl kF.up
 have jG:=mkM z u.m83 λF=>Em F bl jB.up
 have ka:=mkM z u.m85 λF=>En F bl kG.up
 have J:=mkC z u.h7 λF=>Eo F bl C.up
 have mM:=mkC z u.h15 λF=>Ep F bl p.up
 have pJ:=mkC z u.h18 λF=>Er F bl fb.up fX.up
 have i:=mkC z u.h21 λF=>Es F bl A1.up
 have nr:=mkC z u.h26 λF=>Et F bl mK.up
 have mN:=mkC z u.h43 λF=>Eu F bl nq.up
 have sD:=mkC z u.h52 λF=>Ew F bl r.up o.up
 have gz:=mkK z u.k73 λF=>Ex F bl fW.up p.up
 have m:=mkC z u.h14 λF=>Ey F bl gy.up ij.up ip.up jC.up iq.up jD.up
 have nt:=mkC z u.h53 λF=>Ez F bl sD.up
 have pK:=mkC z u.h17 λF=>ED F bl m.up
 have j:=mkC z u.h22 λF=>EE F bl iS.up jE.up jF.up j6.up jG.up ka.up m.up
 have pL:=mkC z u.h40 λF=>EF F bl eW.up gz.up A.up
 have S:=mkC z u.h23 λF=>EH F bl j.up i.up
 have sE:=mkC z u.h31 λF=>EI F bl j.up
 have E:=mkK z u.k56 λF=>EJ F bl mM.up kU.up pK.up pJ.up V.up
 have I:=mkR z u.h12 0 7 wM λn F c=>EK F bl c
 have mP:=mkC z u.h34 λF=>EL F bl sE.up
 have qW:=mkC z u.h24 λF=>EM F bl E.up
 have qX:=mkC z u.h33 λF=>EN F bl mP.up
 have qY:=mkC z u.h45 λF=>EO F bl E.up A.up pL.up t.up
 have R:=mkR z u.h10 8 7 si λn F c=>ET F bl (P.mono (by lia)) c (by lia)
 have H:=mkC z u.h9 λF=>EU F bl R.up J.up C.up
 have sF:=mkT z u.t28 hq λF h1 h2 h3=>EW F bl H.up mI.up nr.up i.up h1 h2 h3 i.up
 have O:=mkC z u.h29 λF=>E1 F bl I.up sF.up
 have mQ:=mkC z u.h30 λF=>E3 F bl j.up O.up
 have Q:=mkC z u.h32 λF=>E4 F bl mQ.up qX.up qW.up
 exact Fi F bl nj.up pI.up T.up mN.up qY.up pH.up Q.up t.up f.up qU.up qT.up nt.up S.up Z.up qS.up sx.up o.up
theorem walk{l:W.OpenLaw}{q:EX}{c:List Str}{XP:(Str->Option De)->FG->Prop}{r:D0->FG->Prop}{d:DefRec}{K:HB->W.Frag}(A:l.most=Jp 63)(j:d.params.defaults=[])
  (C:∀(w:D0)(h:FG),r w h->(K w.params).In h)(i:∀p:HB,W.noTabs (K p)=Jr)(g:∃d',(PyProof.Rows.recsOf q).find? (λe=>e.name == ("row_form" : Str))=Jp d')
  (F:∀(w:D0)(mg:Str->Option De)(o:E2)(h:FG),(K w.params).In h->h.Ns Gg mg->mg d.name=Jp (.ref o) ->
   ∃m:He,(∀(s:Gk)(u:De),Hf s m ⟨[u],[]⟩ [("script",u)])/\∀b:FG,(K w.params).In b->b.Ns Gg mg->(∀q∈(W.tabIn (K w.params) "row_form").toList,W.CodeHd b q.1 q.2/\b.BuiltinsAt mg q.2)->aK l.prog w (K w.params) mg b CX0 21 o m ["script"] (J18 (K w.params))) :
  W.WalkO q c XP r l.row.toRowW d [] (λf vs=>PySem.call f vs) :=
 L2.walk_ofT (n:=63) (k:=21) (x := "script") (CX:=λ_=>CX0) (sp:=λw=>J18 (K w.params)) (tabs:=λp=>(W.tabIn (K p) "row_form").toList) (xs:=["row_form"]) A (by decide) j ⟨U,by decide,by decide⟩ C i (hZ.mpr ⟨g,iM _⟩)
  (λp t h=>⟨_,gb,xE h⟩) F
  (λw H a v B _ D y=>⟨a,v,U,D,B,λz e=>y z (by rw[e];exact gb),λ_=>U⟩) λ_ _ _ _ _ z=>z
end My
set_option genSizeOf false in
set_option genInjectivity false in
structure PySem.W.Fast:Prop where (tw2738751028476057753 tw6787453903917845076 tw5801192537724101275 tw14858943170704781746 tw3154129420878002528 tw6642119386342494014 tw9536877893167296550 tw10285599398637679283 tw1362016359952628308 tw6146080570397690025 tw10063802441940936048 tw17438633876303845833 tw6268025109497042117 tw13167137089548996932 tw2930934985002820651 tw16446144863808961260 tw18312497206227896870 tw543700140241624998 tw11781261782970304181 tw14632371158983113766 tw11870609736839010220 tw11225806059861456186 tw17264548251956028988 tw8299649865911807499 tw15371275301042752151 tw12533727950209226130 tw9468327132470671063 tw18304070388022060167 tw17741251876601590511 tw1242913335361996948 tw18141669188673452982 tw15732131391376699240 tw17384841612607393077 tw16001957468236863248 tw812989626809262739 tw5844640974781640708 tw9971220009199195046 tw16858749361739151375 tw17369698283169224882 tw7890100206584928303 tw8035914819951880423 tw3502711414635927383 tw6168860991899499989 tw4101362304852053539 tw18323638956606343389 tw4004739414393999103 tw11910834369382190702 tw16566800533526391289 tw561673807908084824 tw1690854014020913036 tw14422543653817549697 tw4493084305776807964 tw4404513396852462407 tw1237354786741122587 tw9815392136781290811 tw15383851727747749781 tw6368184976979854475 tw4518592601704666806 tw4275583298100306577 tw1109130242539282785 tw10911192150452331596 tw13381532363294447092 tw8840915923883930298 tw635138029175887443 tw9986505177715796547 tw12926931463832246688 tw16762383216534672832 tw14073920588740032465 tw16767273072079588631 tw16068553014099065329 tw15994542164564579588 tw17634031923196094943 tw17922912820086233737 tw11768422839096165654 tw16794567009561410329 tw10912263012398578461 tw12292554943205882510 tw4132839758332498039 tw7638920843012653732 tw3337339474521770550 tw12558264463270771721 tw564326664587933466 tw8081138634739377988 tw14750795390162287261 tw2098520148686709182 tw8450018504486683489 tw8052201480324217216 tw13599797489293929242 tw929009383994233930 tw7055637978895719896 tw16745173986861916786 tw15418203834406213613 tw426177904360203143 tw15279626065956096857 tw5490869458067954041 tw15174364633007515920 tw5451138173217029013 tw6927652478181287988 tw15900075441180146092 tw6748228712324899626 tw9706817491280508979 tw7862125794830135360 tw10769976991509044767 tw9579899932931630169 tw16765729986466753452 tw13067091362340374700 tw6867681469947680023 tw14197720166644077033 tw6375516178835676346 tw7854280835282400553 tw4792356547418540853 tw4658251218192965486 tw5043759917381505709 tw11379466632608056451 tw11898623969217081604 tw1358661948347615277 tw928487360200676244 tw10839164093598326812 tw3925064250618270921 tw15393526515555245891 tw16457123847739867568 tw5543339585327778176 tw16570067887089456385 tw15071191634615172841 tw6854041987667240999 tw1740045224653715744 tw14038228649247771035 tw6463201464289883469 tw12760839381106607056 tw299786360344506928 tw12085292355080401518 tw3109145463021100695 tw10123632024801243689 tw16079750165383609653 tw7360101255599479501 tw17987888823041839899 tw7396848641731044799 tw2639558608402322187 tw13226988487348688991 tw14626154527610570345 tw12085123029621695450 tw3031745013948194498 tw11315685709266771932 tw5023384797341875013 tw12836915933920855660 tw3217541658576270855 tw16029418418607829998 tw17266675122983411403 tw10710076998442386507 tw11616377865296953854 tw15054113286438663241 tw16855256619647804188 tw4775029503968340660 tw2888351997846991358 tw15126550384672565916 tw17547164536823328943 tw10083712440794360119 tw15550222055749825496 tw10330264405090260511 tw824032544284613481 tw16113011708882938805 tw4402254009052953129 tw4343874948322746095 tw15751611759444550184 tw3588853493706045696 tw607339165226054559 tw2927848508862200689 tw5219049548785285490 tw353080065803865071 tw6706630687472420349 tw12466690993080268732 tw7652056005254279125 tw10949837410749348032 tw15339231073713079645 tw7093479898789275678 tw4900690750858187522 tw16438440199244164002 tw5491963253871012543 tw11642195366730246649 tw7339468747879314934 tw5613662379028103376 tw5546776318684751204 tw12322035089660172980 tw498228300766979160 tw8413927615294112524 tw2302076724698015063 tw10790775959249677323 tw10042529716074188287 tw896278570392569929 tw14988348877202191232 tw17685888568188592343 tw4082625226825543007 tw11703869112086785772 tw17814711953642223910 tw14854163797393207574 tw13079467517008468653 tw11585009020244798468 tw9945985609779091639 tw3215830077347297841 tw2319832785197884034 tw11511154350700141392 tw12258367880990210040 tw14269587013259258838 tw8315510148519787481 tw6299659453340731731 tw14054119783487902829 tw16076766394871501792 tw18234091352199676865 tw12593623712882352710 tw18259885496869211505 tw11731385114501983819 tw11330851594767288009 tw8529417587350320406 tw15797433851168466005 tw13910680554270314483 tw15826315416662155223 tw1230085403787274199 tw14932866779892108724 tw14096968251518313952 tw2770763711869199768 tw8830792491143710278 tw252737817835041701 tw2384764703589850340 tw11384290974691159482 tw7791647738728264105 tw15428682546173576065 tw13399816828079130684 tw16505719378763496330 tw1324295980060054505 tw9797272314903917696 tw3942892350123849162 tw10991843913817388160 tw9704807857027149431 tw3640331544990414616 tw408913138634813942 tw15560808033823848399 tw3910616520081602361 tw15395797575997316793 tw13045179607006578837 tw9600041292405061998 tw2373841437721433739 tw13370702696227892479 tw9097187065990644488 tw8307839749457868978 tw7678789882944118842 tw10649352735917865187 tw7520163422735955974 tw14509180460763063536 tw6596870350705051435 tw6169894124011008811 tw11639790674625373663 tw11655358762183802445 tw13743736348005009815 tw7403575834689791493 tw769261991804133614 tw7236686561669174199 tw428961605394668917 tw11240706998731527033 tw2157199927367800243 tw2565371035961413786 tw17915933295746492734 tw12327159132319866749 tw6904748311139930550 tw12655364092785931180 tw3829162303586701079 tw8302495636053874553 tw6630272266674791958 tw9771239920070772093 tw9160960063802462420 tw16901747161132956703 tw17618349848542393673 tw750825807607827347 tw4531657882635908708 tw13945778196193653646 tw15162897064182687705 tw13435211000112578757 tw17002335659607536992 tw1406190313677694857 tw13971756843320306844 tw16947739922340694030 tw14897124648038078410 tw7544478059355352759 tw3850128257393692854 tw9939349207472492472 tw8767533175975933427 tw3412019851000598391 tw14819363717098755640 tw8078805494161858224 tw18198113553035864607 tw9133355178427127984 tw86410102332852076 tw9781595467256462887 tw16551606168627518651 tw16740459501624319548 tw5044539197904818918 tw12029077901981417777 tw17117645744514918891 tw6549726537357982023 tw17472508755070553929 tw2613885997151864176 tw1185288976954699457 tw16689030042573263350 tw16992814095918615861 tw6261827611108104224 tw2109740609190983795 tw11240938337405028749 tw6362918155629597362 tw14704988901616340995 tw7102706107298031071 tw18182545098505918181 tw8411865457921913242 tw3208603885361993840 tw7599795445306137336 tw7548845621138298910 tw4009567085926401628 tw14864745973709698580 tw11193808620445150877 tw15569348906322677845 tw834829230630673402 tw8097227315963240299 tw17627207400770561349 tw13610641208209542134 tw4930429158466702847 tw4976691854032733139 tw7125646972364825291 tw11871941758343223688 tw15435008027357190273 tw7994411566953644672 tw8551042177374471569 tw2557934359591789317 tw8037945570265458205 tw17823071047136288799 tw7523654300237335401 tw13884283332952576447 tw4790520661271306536 tw12848854908069900842 tw1259158397833559005 tw15142288454393977333 tw2216188818173762675 tw7494919852195010204 tw3266707728690033049 tw9010274578154011373 tw16380312640000388899 tw8717934589675352964 tw11594572733912801223 tw7367785272182419930 tw12365158896225260770 tw121591381040115583 tw16869438627071680462 tw12372122862646868886 tw2142639115036590321 tw3341774897321692652 tw3441555129670011140 tw6702952382891113161 tw10362599414174920296 tw17744020089752034477 tw248281709775802885 tw6212045486110323144 tw497132014139700728 tw17115649259995893265 tw16633987622369635286 tw12088917218768743394 tw7763103070397756697 tw3948501080103030171 tw1612416067402138909 tw1914993012661909114 tw5333405379626180605 tw6798201713711202568 tw5132346561943385144 tw10273011830393206483 tw13065237056176596509 tw3238527751117376168 tw4534649552020335538 tw12142577124408114293 tw14439571731451659179 tw15015345418116893323 tw10623708600092014909 tw14243348402049678698 tw4159310505028666655 tw17276849656286197661 tw8830141082876725881 tw967704953707880598 tw9020831522590526808 tw13961775011312874437 tw8482212360291608870 tw16712961391555291902 tw16344157686465485109 tw2874478191357287431 tw16675530775605941670 tw10962469277995004734 tw6229293786013197978 tw12645334969721010094 tw15234385803215496362 tw479348087812476101 tw5441315271303602327 tw5599839812391242372 tw14108140397265226306 tw16915062566245929928 tw3903334598318697695 tw17818737234850738753 tw7468456689761629486 tw13377653312762405038 tw5860576270555489480 tw3685427394854509996 tw12925024451104522182 tw4279502981741999790 tw10834925439102009473 tw16615406519006630026 tw16666270411734320123 tw13771427913463938194 tw4974501121905938886 tw485059015103934765 tw7539164103318821268 tw595659650408447942 tw17344073084208845572 tw2075991830314501197 tw477407567844765708 tw14833293410897592959 tw14892087521666659769 tw10862734526317087764 tw14160670216298856438 tw14231782812104439789 tw10135728395668953835 tw5161451934183258704 tw2076360494789262117 tw12194771754431763584 tw17114938069513271764 tw16543449091753200256 tw14662504637113603409 tw8227558355900184660 tw5833386627695700041 tw7459468437999279337 tw8240085663470710912 tw7036627113972896269 tw14311635606150840296 tw18040525045027160458 tw5905583848427872811 tw15682044383704852109:True)
open PySem PySem.W PyProof.Rows
set_option maxRecDepth 100000 in
set_option maxHeartbeats 0 in
theorem PySem.Challenge.cw_rowjudge_k66_thinned_holds : PySem.Challenge.rw_rowjudge_k66_thinned.Holds := by
 w_on;o_law;k_head;(case hw=>w_witness2)
 k_fill
 refine My.walk (l:=PySem.Challenge.rw_rowjudge_k66_thinned) rfl rfl (λw h Y=>PySem.W.km_in_of Y) ?hnK ?hxs ?F
 case hnK=>intro p;first|rfl|decide+kernel|with_unfolding_all rfl
 case hxs=>exact⟨_,rfl⟩
 case F =>
  intro w mg fa h KX G hmg;refine' My.all_mk (Y:=.mk ..) KX G hmg ?b ?u
  case b =>
   constructor
   all_goals try dsimp only
   iterate 13 (k_is)
   iterate 9 (constructor <;> first|k_is|rfl|with_unfolding_all rfl)
   iterate 9 (refine'⟨⟨?_,?_,?_,?_⟩,?_,?_,?_,?_⟩ <;> first|k_is|rfl|with_unfolding_all rfl)
   refine' L2.ModT.mk ?lk ?sz ?vs
   (case lk=>k_is)
   (case sz=>decide)
   (case vs=>exact(.cons ⟨_,rfl⟩ (.cons ⟨_,rfl⟩ .nil)))
   refine' L2.ModT.mk ?lk ?sz ?vs
   (case lk=>k_is)
   (case sz=>decide)
   (case vs=>exact(.cons ⟨_,rfl⟩ (.cons ⟨_,rfl⟩ .nil)))
   iterate 18 (delta L2.NoAttr;k_is)
   iterate 5 (first|k_is|rfl|with_unfolding_all rfl)
  case u =>
   constructor
   all_goals try dsimp only
   iterate 56 (refine' L2.GF.mk ?a1 (L2.fun_mk ?l ?c ?k);(case a1=>k_is);(case l=>k_is);(case c=>k_is);(case k=>k_is))
   iterate 14 (refine' L2.MF.mk ?a1 ?a2 (L2.fun_mk ?l ?c ?k);(case a1=>k_is);(case a2=>k_is);(case l=>k_is);(case c=>k_is);(case k=>k_is))
   iterate 9 (refine' L2.KF.mk ?a1 ?a2 ?a3 ?a4 ?a5 (L2.fun_mk ?l ?c ?k);(case a1=>k_is);(case a2=>k_is);(case a3=>k_is);(case a4=>k_is);(case a5=>k_is);(case l=>k_is);(case c=>k_is);(case k=>k_is))
   iterate 8 (refine' L2.BF.mk ?a1 ?a2 ?a3 ?a4 (L2.fun_mk ?l ?c ?k);(case a1=>k_is);(case a2=>k_is);(case a3=>k_is);(case a4=>k_is);(case l=>k_is);(case c=>k_is);(case k=>k_is))
   iterate 1 (refine' L2.tfn_mk ?l1 ?l2 ?l3 ?l4 ?l5 ?l6;(case l1=>k_is);(case l2=>k_is);(case l3=>k_is);(case l4=>k_is);(case l5=>k_is);(case l6=>rfl))
   iterate 17 (k_is)
   iterate 6 (refine' L2.gv_mk ?a1 ?a2;(case a1=>k_is);(case a2=>exact⟨_,rfl⟩))
