import PyProof.Rows.All
import KE.KIntText
import KE.KFromBytes
import KE.KIsAll
import KE.KItem
import KE.KRevIter
import KE.KTryMore
import KE.RegKTryMore
import KE.RegKIsAll
import PyProof.StrReplace2
import PyProof.StrCalls6
import PyProof.MeetsStr3
import PyProof.ToksMono
import OpenK.KLine
import OpenK.KWalk
import Wide.FinOn
import PyProof.EqAt
import PyProof.EqKinds
import PyProof.TupleCall
import Lean
import PySem.Challenge.RW_grindbench_k71_refused_in_order
set_option Elab.async false
set_option linter.all false
set_option maxRecDepth 100000
set_option maxHeartbeats 1000000
abbrev FrG:=PySem.W.Frag
open Array renaming eq_empty_of_size_eq_zero→zw,getElem?_eq_some_iff→xb,getElem?_setIfInBounds_ne→zo,length_toList→Jx,mem_toList_iff→BU
open Bool renaming and_eq_true→xa,and_eq_true_iff→QR,and_false→FV,eq_false_iff→ND,eq_iff_iff→Fi,false_and→wi,false_eq_true→zy,false_ne_true→ZL,false_or→AX,or_eq_false_iff→AC,true_and→qe,true_or→Bi
open Classical renaming choose_spec→BQ
open False renaming elim→WE
open ForInStep renaming yield→QD
open Int renaming emod_lt_of_pos→xi,emod_nonneg→uj,eq_of_mul_eq_mul_left→Nu,fdiv_eq_ediv_of_nonneg→FM,fmod_eq_emod_of_nonneg→FP,lt_trichotomy→NG,mul_ne_zero→BE,natAbs_mul→Gb,natAbs_natCast→QI,natCast_emod→MD,sign_eq_neg_one_of_neg→Nd,sign_eq_one_of_pos→MW,toNat_natCast→UC,zero_add→CM,zero_sub→CH
open List renaming Nodup→yb,all_cons→xW,all_eq_true→jp,all_map→MU,any_cons→qa,append_assoc→WG,append_cancel_left→MA,append_nil→WC,cons_append→GL,dropLast_concat→AB,eq_nil_of_length_eq_zero→Fc,eq_nil_or_concat→BM,filterMap_cons→yn,filterMap_map→FU,find?_cons→xy,flatMap_append→FC,flatten_append→FA,flatten_cons→UN,forIn_cons→zl,forIn_nil→Ni,getD_eq_getElem?_getD→Nc,getElem?_append_left→Uc,getElem?_append_right→Uq,getElem?_eq_getElem→Xs,getElem?_eq_none→BS,getElem?_eq_some_iff→WJ,getElem?_map→YN,getElem?_set_ne→GY,getElem?_set_self→qK,getLast?_concat→AA,length→qB,length_append→ZA,length_cons→W6,length_eq_zero_iff→ME,length_map→X9,length_nil→XG,length_replicate→GA,length_take→WS,lookup→uT,lookup_cons→Ml,map→Nl,map_append→Ye,map_congr_left→zi,map_cons→YY,map_map→Qc,map_nil→MQ,mem_append→XE,mem_append_left→QO,mem_append_right→Ya,mem_cons→ZN,mem_cons_of_mem→ZX,mem_cons_self→YV,mem_filterMap→wt,mem_map→UG,mem_of_getElem?→YB,mem_range→FK,mem_singleton→ZB,nil_append→ui,nodup_cons→ue,not_mem_nil→WB,of_mem_zip→qk,range→QE,range_succ_eq_map→MS,replicate→YO,replicate_succ→zh,size_toArray→YU,sum_cons→NU,take_add_one→WO,take_length→Jn,take_of_length_le→zd,take_zero→Au,toList_toArray→wf
open List.Pairwise renaming nil→CC
open List.cons renaming inj→qc
open Nat renaming add_comm→qV,add_le_add_right→xE,digitChar→AW,gcd→FH,gcd_comm→CF,le_add_left→BC,le_add_right→js,le_of_eq→FF,le_of_lt→UU,le_refl→ZE,le_succ→WV,le_succ_of_le→Xh,le_trans→W8,lt_irrefl→yB,lt_of_le_of_lt→QH,lt_of_lt_of_le→Zu,lt_succ_self→Qb,lt_trans→yy,min_eq_left→Fm,mod_lt→Ch,mul_comm→MO,mul_le_mul→ja,mul_le_mul_right→QU,ne_of_gt→XW,ne_of_lt→YP,not_lt→Cf,pow_le_pow_right→Fa,pow_succ→CI,sub_self→MZ,succ_le_succ→MB,succ_mul→CD,toDigits→MV,toDigits_of_lt_base→Mo,zero_add→MX,zero_le→Qi
open Ne renaming symm→WU
open Option renaming bind_some→QY,isSome_iff_exists→xR,isSome_none→FS,map_eq_some_iff→UD,map_some→zn,none→Ap
open Option.some renaming inj→Ux
open PyProof renaming noPylong_small→MM
open PyProof.Rows renaming AllBare→wS,Subscript_→GN,assignInOrder_cons→Nn,callWith_type1→yv,envOfC→ua,joinOk_of_weight→zU,signs→zz,slot_tuple_getitem→we,subscriptTail→NY
open PySem renaming Around→XA,BindsTo→NS,Builtin→XI,DictEntry→GO,FuncData→UE,IsPair→ul,IsPart→AI,Keyword→AN,MulOk→CY,NameKind→xl,Operator→MG,Paired→jS,Params→Mb,PassesOwn→UQ,Program→ZU,PyData→Xt,Shared→X1,Str→Y1,Within→ML,assign→qo,assignEach→JI,assignInOrder→qf,attributeBase→wc,backTo→Qe,backToKw→Gw,behindInMarks→uk,binaryOp→xk,bindArgs→jl,bootBuiltins→UY,callWith→Np,call_meets→jo,callerA→AO,cellsFrom→zC,codeAny→wh,codeAny_call_builtin→xP,codeAny_call_function→GG,codeAny_handlers_test→GH,codeAny_mono→wT,codeAny_with_toks→xI,compEnvC→qh,compPost→AL,compareOp→zk,comprehension→Me,evalPart_none→NX,excClassObj→Fh,foldedSetIterable→Qq,getItem→NQ,getMethod→GP,holding→Ge,keywordEach→xL,letOwnedTupleGo→xB,mainGlobals→ZY,mem_of_lookup→JA,newEnv→AH,noteFrame→GS,numbered_texts→AK,pyNext→GM,rawInt→je,recursionLimit→AG,relabel→ur,seqIndex_of→AJ,setFlight→AQ,sizeLine→X3,sliceBounds→qE,slot_listiter_next→qv,standAt→NL,starEach→YE,strValues→GT,subscripted→NO,swapsWith→xz,sysModules→yi,tupleKind→AM,tupleKind_room_in1→Nq,typeIs_str→wb,unpackItems→AE,valueAt→Bz,wpAny_Assign_Name→NN,wpAny_BinOp→AF,wpAny_Call_Name_kw→UZ,wpAny_Expr_any→AD,wpAny_Name→Bn,wpAny_Return_some→Go,wpAny_Try_except→MH,wpAny_assign_Name→NM,wpAny_attempt→Mc,wpAny_bind→Y3,wpAny_call→qq,wpAny_callSpecial?_slot→za,wpAny_call_entry→wn,wpAny_execs_cons→UI,wpAny_execs_nil→yk,wpAny_field→Uf,wpAny_getItem_str_slice→UK,wpAny_handleBy_cons→FD,wpAny_holding→WI,wpAny_isSubtype_exc→FE,wpAny_isTrue_Compare1→GE,wpAny_loadName_local→jb,wpAny_loadPart_at→Qr,wpAny_mono→Wf,wpAny_newObj_type→JJ,wpAny_passesOwn→xA,wpAny_pure→ZI,wpAny_pyIter_list→uo,wpAny_rule→No,wpAny_seqItems→xp,wpAny_setField→xo,wpAny_setField_rec→ub,wpAny_specialOf→BF,wpAny_standAt→UO,wpAny_toks_of→Md,wpAny_truthy_bool→Qp,wpAny_with_toks→yl
open PySem.Around renaming under→Ct
open PySem.Builtin.Int renaming intBits→AR
open PySem.Builtin.List renaming listTooLong→wa
open PySem.Builtin.Slice renaming sliceAdjust→jF,sliceApplied→FT,slicePlaces→xv
open PySem.Builtin.SmallTypes renaming nextOf→UP,ownedTupleHandOut→jN,ownedTupleIsFree→Qz,stopIteration→Gc
open PySem.Builtin.Str renaming occurrences→Ua,partsBetween→jz,strKind→JE,strSliceIndices→Fs,strSub→qr
open PySem.Builtin.Tuple renaming tupleExact→xS
open PySem.Calls renaming Constant_str→wr,Name_function_global→uS,callWith_builtin→wE,evalArgs_plain→zO,loadGlobal_global→Mj,spliced_cons→wv,spliced_nil→qS
open PySem.Code renaming isFrame→CA,quiet_builtin→wP
open PySem.EntryCells renaming newEntry→AU
open PySem.F renaming args_str_split_2→Na,entry_bexc_ga→BG,entry_str_split→NF,excAttr_ValueError→xh,excBase_ValueError→JO,plainAttrs_list→XB,plainAttrs_str→WA,slot_dict_get→BO,slot_dict_getitem→Nw,slot_list_append→XT,slot_list_extend→NV,slot_str_join→xr,slot_str_split→ze,slot_tuple_iterator_next→Gd,slot_zip_next→Fn,type_list_append→XU,type_list_extend→NW,type_str_join→xt,type_str_split→yA
open PySem.Heap renaming ExtBut→yY,IsList→NI,SameBut→QA,get?_none_of_le→xD,get?_push_of_some→X2,get?_push_size→YI,get?_update_other→XY,get?_update_self→XV,lt_size→ZT,size_push→Ug
open PySem.Heap.IsList renaming push→Mn
open PySem.Heap.IsSliceOf renaming new→Ce
open PySem.Heap.Ns1 renaming of_empty→Co
open PySem.Heap.SameBut renaming refl→NH,update→FB
open PySem.Made renaming val→Cn
open PySem.NameKind renaming free→GV
open PySem.NumText renaming AllDigits→wo,digitsVal→Qv
open PySem.Obj renaming data_mapFields→UF,isFreed_of_fields→Qs,mapFields→XP,mapSeq→MN
open PySem.Paired renaming length→AV
open PySem.PassesOwn renaming leaving→NJ,never→WH
open PySem.SeqAt renaming EqAt→UR,canLay_of_shaped→wI,shaped→FG
open PySem.SeqAt.EqAt renaming int_str→AY,str_int→AZ
open PySem.Str renaming append→qn,empty→Fk,join→ZZ,length→Cb,mk→zI,ofString→Y2
open PySem.StrLaws renaming glued_eq_join→BN,join_length_le→MY,occBody→BA,occ_length_le→GB
open PySem.Txt renaming endswith→FI,join→wm,mul→um,replace→zS,slice→UA,slice_le→MR,split→XO,startswith→FY
open PySem.Value renaming bool→ql,builtin→yT,float→CU,int→qA,none→US,ref→Yf,str→Mi,type→uu
open PySem.W renaming Looks→yD,callWith_K→UX,callWith_K0→jM,cellsFrom_some→wx,clsIn→GU,codeIn→Wp,codeRec_of→FX,emptyDict→Qk,excIn→zD,exmOne→WZ,exm_one→BD,findIn→ZH,fnOf→YR,funFrames_hide→Ga,hasDictIn→UM,hideAll→JU,hideAll_get→jI,hideAll_none→GW,instObj→ya,isFn→UB,keepIn→YJ,kia_one→UH,kitOne→W1,kitx_dict→Cs,kitx_list→NC,kitx_tuple→Cc,lookIn→FR,looks_findIn→jv,makesIn→xw,methodCall_KW→zt,methodObj→NA,mg_of→ZO,mroIn→JY,nsIn→YA,of_hideAll→zv,plainGet→QP,plainGet_of→Fu,plainOver→zX,specialIn→zb,takerIn→BB,takesIn→ud,typeIn→An
open PySem.W.Looks renaming ld→GI
open Rat renaming divInt→XZ,divInt_add_divInt→BH,divInt_mul_divInt→BI
open Sum renaming inl→MI,inr→wq
open Sum.inr renaming inj→CO
open True renaming intro→zx
local macro_rules | `(tactic| walk_at "s")=>`(tactic| exact ⟨rfl,rfl,rfl,by decide+kernel,rfl,by decide+kernel,by decide+kernel⟩)
local macro_rules | `(tactic| walk_at "o")=>`(tactic| first | exact Or.inl rfl | exact Or.inr rfl)
local macro_rules | `(⋯)=>`(by decide)
local macro_rules | `(∅)=>`(by omega)
theorem ζ {p:Prop}[Decidable p](h:p):decide p=true:=decide_eq_true h
theorem η {p:Prop}[Decidable p](h:¬p):decide p=false:=decide_eq_false h
theorem bc'' {G:Prop}(h:¬G→False):G:=Classical.byContradiction h
local macro_rules | `(tactic| obtain ⟨$ps,*⟩:=$e)=>if ps.getElems.size>3 then `(tactic| (refine bc'' fun h=>?_;rcases $e:term with ⟨$ps,*⟩;refine h ?_)) else Lean.Macro.throwUnsupported
namespace L2
open PySem PySem.Spec PyProof.Rows
abbrev Key:=Sum Int Str
def keyIs:Key->Value->Bool
 | .inl k,v=>Value.isInt k v
 | .inr x,v=>Value.isStrOf x v
def keyH (w:World):Key->Int
 | .inl k=>hashInt k
 | .inr x=>hashStr w x
theorem GQ:∀{k:Key} {v:Value},keyIs k v=true->(∃i t,k=MI i/\v=qA i t)\/(∃x t,k=wq x/\v=Mi x t)
 | .inl i,v,h=>by
  obtain ⟨t,e⟩:=Value.isInt_shape (k:=i) (v:=v) h;exact .inl ⟨i,t,rfl,e⟩
 | .inr x,v,h=>by
  obtain ⟨t,e⟩:=Value.isStrOf_shape (x:=x) (v:=v) h;exact .inr ⟨x,t,rfl,e⟩
theorem yF (i:Int)(t:Tok):keyIs (.inl i) (.int i t)=true:=by simp [keyIs,Value.isInt]
theorem xV (x:Str)(t:Tok):keyIs (.inr x) (.str x t)=true:=by simp [keyIs,Value.isStrOf]
theorem yQ (a b:Int):decide ((MI a:Key)=MI b)=(a == b):=by
 by_cases e:a=b
 ·subst e;simp
 ·have h:¬ (MI a:Key)=MI b:=λ q=>e (MI.inj q)
  rw [η h];exact (beq_eq_false_iff_ne.mpr e).symm
theorem yS (a b:Str):decide ((wq a:Key)=wq b)=decide (a=b):=by
 by_cases e:a=b
 ·subst e;simp
 ·have h:¬ (wq a:Key)=wq b:=λ q=>e (CO q)
  rw [η h,η e]
theorem vH (a:Int)(b:Str):decide ((MI a:Key)=wq b)=false:=η (λ q=>nomatch q)
theorem AK5 (a:Str)(b:Int):decide ((wq a:Key)=MI b)=false:=η (λ q=>nomatch q)
def mixKind (prog:ZU)(w:World):PySem.KeyKind prog w Key where
 is:=keyIs
 hash:=keyH w
 inj:=λ v a b ha hb=>by
  rcases GQ ha with ⟨i,t,rfl,rfl⟩ | ⟨x,t,rfl,rfl⟩
  ·rcases GQ hb with ⟨j,u,rfl,e⟩ | ⟨y,u,rfl,e⟩
   ·injection e with e1 _;rw [e1]
   ·exact nomatch e
  ·rcases GQ hb with ⟨j,u,rfl,e⟩ | ⟨y,u,rfl,e⟩
   ·exact nomatch e
   ·injection e with e1 _;rw [e1]
 byValue:=λ k v h=>by
  rcases GQ h with ⟨i,t,rfl,rfl⟩ | ⟨x,t,rfl,rfl⟩<;>rfl
 pyHash:=λ c h=>by
  rcases GQ c with ⟨i,t,rfl,rfl⟩ | ⟨x,t,rfl,rfl⟩
  ·exact wpAny_pyHash_int h
  ·exact wpAny_pyHash_str h
 eqBool:=λ d c h=>by
  rcases GQ d with ⟨i,t,rfl,rfl⟩ | ⟨x,t,rfl,rfl⟩
  ·rcases GQ c with ⟨j,u,rfl,rfl⟩ | ⟨y,u,rfl,rfl⟩
   ·rw [yQ] at h;exact wpAny_eqBool_int h
   ·rw [vH] at h;exact AY i t y u _ _ _ _ h
  ·rcases GQ c with ⟨j,u,rfl,rfl⟩ | ⟨y,u,rfl,rfl⟩
   ·rw [AK5] at h;exact AZ x t j u _ _ _ _ h
   ·rw [yS] at h;exact wpAny_eqBool_str h
 «strs»:=λ k x t v h=>by
  rcases GQ h with ⟨i,u,rfl,e⟩ | ⟨y,u,rfl,e⟩
  ·exact nomatch e
  ·injection e with e1 _
   subst e1;cases v<;>rfl
theorem iV (prog:ZU)(w:World)(i:Int)(t:Tok):(mixKind prog w).is (.inl i) (.int i t)=true:=yF i t
theorem gm (prog:ZU)(w:World)(x:Str)(t:Tok):(mixKind prog w).is (.inr x) (.str x t)=true:=xV x t
abbrev NZ:={t:Tok // t≠0}
inductive V where
 | non | bl (b:Bool) | int (i:Int) | str (x:Str) | byt (b:Array UInt8) | flt (b:UInt64) | ref (a:Addr) | ty (n:String)
 deriving DecidableEq
def RelV:V->Value->Prop
 | .non,u=>u=US
 | .bl b,u=>u=ql b
 | .int i,u=>∃t,u=qA i t
 | .str x,u=>∃t:NZ,u=Mi x t.1
 | .byt b,u=>∃t,u=Value.bytes b t
 | .flt b,u=>∃t,u=CU b t
 | .ref a,u=>u=Yf a
 | .ty n,u=>u=uu n
abbrev Vals:List V->List Value->Prop:=jS RelV
theorem Vals.length {xs:List V}{us:List Value}(r:Vals xs us):xs.length=us.length:=AV r
theorem Vals.get:∀{xs:List V} {us:List Value} {i:Nat} {x:V},Vals xs us->xs[i]?=some x->∃u,us[i]?=some u/\RelV x u
 | _,_,_,_,.nil,e=>by simp at e
 | _,_,0,_,.cons r _,e=>by simp at e;subst e;exact ⟨_,rfl,r⟩
 | _,_,i+1,x,.cons _ t,e=>by
  obtain ⟨u,a,b⟩:=Vals.get (i:=i) (x:=x) t (by simpa using e)
  exact ⟨u,by simpa using a,b⟩
theorem Vals.set {x:V}{u:Value}(r:RelV x u):∀{xs:List V} {us:List Value} (i:Nat),Vals xs us->Vals (xs.set i x) (us.set i u)
 | _,_,_,.nil=>.nil
 | _,_,0,.cons _ t=>.cons r t
 | _,_,i+1,.cons q t=>.cons q (Vals.set r i t)
theorem Vals.append:∀{xs a:List V} {us ws:List Value},Vals xs us->Vals a ws->Vals (xs++a) (us++ws)
 | _,_,_,_,.nil,s=>s
 | _,_,_,_,.cons r t,s=>.cons r (Vals.append t s)
theorem Vals.take:∀{xs:List V} {us:List Value} (n:Nat),Vals xs us->Vals (xs.take n) (us.take n)
 | _,_,0,_=>.nil
 | _,_,_+1,.nil=>.nil
 | _,_,n+1,.cons r t=>.cons r (Vals.take n t)
theorem Vals.drop:∀{xs:List V} {us:List Value} (n:Nat),Vals xs us->Vals (xs.drop n) (us.drop n)
 | _,_,0,r=>r
 | _,_,_+1,.nil=>.nil
 | _,_,n+1,.cons _ t=>Vals.drop n t
def RelO:Option V->Option Value->Prop
 | some v,some u=>RelV v u
 | none,none=>True
 | _,_=>False
def KV {a:Type}:List (a×V)->List (a×Value)->Prop:=jS λ (p:a×V) (q:a×Value)=>p.1=q.1/\RelV p.2 q.2
def kV:Key->V
 | .inl i=>.int i
 | .inr x=>.str x
inductive HO where
 | lst (xs:List V)
 | tup (xs:List V)
 | dK (kvs:List (Key×V)) | dT (kvs:List (List Key×V))
 | set (S:Int->Bool) (n:Nat)
 | ins (C dx:Addr) (fs:List (Str×V))
 | own (x:Addr)
 | xd (fs:List (Str×V))
 | met (f x:Addr)
 | rng (lo hi:Int)
 | frz (o:Obj) (u:HO)
 | tbl (ps:Array Value)
 | ext (φ:Heap->Prop)
abbrev Hp:=Addr->Option HO
def upd (H:Hp)(a:Addr)(o:HO):Hp:=λ b=>if b=a then some o else H b
theorem Ag {H:Hp}{a:Addr}{o:HO}:upd H a o a=some o:=by unfold upd;rw [if_pos rfl]
theorem Al {H:Hp}{a b:Addr}{o:HO}(h:b≠a):upd H a o b=H b:=by unfold upd;rw [if_neg h]
theorem Jk {H:Hp}{a:Addr}{o u:HO}:upd (upd H a o) a u=upd H a u:=by
 funext b;unfold upd;split<;>rfl
theorem yq {H:Hp}{a b:Addr}{o u:HO}(h:H a=some o)(h':H b=some u)(d:o≠u):a≠b:=by
 intro e;subst e;rw [h] at h';exact d (Ux h')
theorem BV {H:Hp}{a b:Addr}{o:HO}(h:H a=some o)(h':H b=none):a≠b:=by
 intro e;subst e;rw [h] at h';cases h'
section
variable (P:ZU)(w:World)
def ObjOk (H:Hp)(h:Heap)(a:Addr):HO->Prop
 | .lst xs=>xs.length<=X3/\∃(b:List Value) (n:Nat),Vals xs b/\h.get? a=some { cls:=.type "list",data:=.seq b.toArray n }
 | .tup xs=>xs.length<=X3/\∃b:List Value,Vals xs b/\IsTup h a b.toArray
 | .dK c=>c.length<=X3/\(a == yi)=false/\∃vs,KV c vs/\h.DictOf (mixKind P w) a vs
 | .dT c=>c.length<=X3/\(a == yi)=false/\∃xs:List (List Key×Addr×Value),
   jS (λ (p:List Key×V) (q:List Key×Addr×Value)=>p.1=q.1/\H q.2.1=some (.tup (p.1.map kV))/\RelV p.2 q.2.2) c xs/\
   ∃o e j,h.get? a=some o/\o.ExactDict/\o.data=.dict e j/\e.toList=xs.map (entryOfKey (AM (mixKind P w)))/\(xs.map (·.1)).Nodup
 | .set k n=>h.SetOf (intKind P w) a k n
 | .ins C dx fs=>H dx=some (.own a)/\fs.length<=1000/\dx≠a/\h.get? a=some (ya C dx)/\
   ∃d,h.Ns1 dx d/\(∀f,RelO (fs.lookup f) (d f))/\ML d (fs.map (·.1))
 | .own _=>∃o,h.get? a=some o
 | .xd fs=>∃d,h.Ns1 a d/\∀f,RelO (fs.lookup f) (d f)
 | .rng lo hi=>∃t u v,h.get? a=some { cls:=.type "range",data:=.fields #[.int lo t,.int hi u,.int 1 v] }
 | .frz o u=>h.get? a=some o/\ObjOk H h a u
 | .tbl ps=>h.get? a=some { cls:=.none,data:=.fields ps }
 | .met f x=>h.get? a=some (NA (.ref f) (.ref x))
 | .ext φ=>φ h/\(∃o,h.get? a=some o)/\∀g i:Heap,φ g->(∀o,g.get? a=some o->i.get? a=some o)->φ i
def HOk (H:Hp)(h:Heap):Prop:=∀a o,H a=some o->ObjOk P w H h a o
end
section
variable {P:ZU}{w:World}{H H':Hp}{h h':Heap}{a:Addr}{o:HO}
theorem ObjOk.lt (x:ObjOk P w H h a o):a < h.objs.size:=by
 cases o with
 | lst xs=>obtain ⟨_,_,_,_,e⟩:=x;exact ZT e
 | tup xs=>obtain ⟨_,_,_,p⟩:=x;exact p.lt
 | dK b=>obtain ⟨_,_,_,_,o,_,_,e,_⟩:=x;exact ZT e
 | dT b=>obtain ⟨_,_,_,_,o,_,_,e,_⟩:=x;exact ZT e
 | set c n=>obtain ⟨o,_,_,_,e,_⟩:=x;exact ZT e
 | ins C dx fs=>obtain ⟨_,_,_,e,_⟩:=x;exact ZT e
 | own y=>obtain ⟨_,e⟩:=x;exact ZT e
 | xd fs=>obtain ⟨_,⟨_,_,_,e,_⟩,_⟩:=x;exact ZT e
 | rng lo hi=>obtain ⟨_,_,_,e⟩:=x;exact ZT e
 | frz ob u=>obtain ⟨e,_⟩:=x;exact ZT e
 | tbl ps=>exact ZT (show h.get? a=some _ from x)
 | met f y=>exact ZT (show h.get? a=some _ from x)
 | ext φ=>obtain ⟨_,⟨_,e⟩,_⟩:=x;exact ZT e
theorem jS.mapP {e g:Type}{F i:e->g->Prop}:∀{c:List e} {d:List g},jS F c d->(∀a b,F a b->i a b)->jS i c d
 | _,_,.nil,_=>.nil
 | _,_,.cons r t,f=>.cons (f _ _ r) (jS.mapP t f)
theorem ObjOk.stay (x:ObjOk P w H h a o)(k:∀b u,(b=a\/H b=some (.own a))->h.get? b=some u->h'.get? b=some u)
  (A:∀b,H b=some (.own a)->H' b=some (.own a)) (ht:∀b xs,H b=some (.tup xs)->H' b=some (.tup xs)):ObjOk P w H' h' a o:=by
 induction o with
 | lst xs=>obtain ⟨z,j,n,r,e⟩:=x;exact ⟨z,j,n,r,k _ _ (.inl rfl) e⟩
 | tup xs=>obtain ⟨z,j,r,ob,e,c⟩:=x;exact ⟨z,j,r,ob,k _ _ (.inl rfl) e,c⟩
 | dK s=>obtain ⟨z,y,vs,r,ob,g,i,e,c⟩:=x;exact ⟨z,y,vs,r,ob,g,i,k _ _ (.inl rfl) e,c⟩
 | dT s=>
  obtain ⟨z,y,xs,r,ob,g,i,e,c⟩:=x;exact ⟨z,y,xs,jS.mapP r λ p q z=>⟨z.1,ht _ _ z.2.1,z.2.2⟩,ob,g,i,k _ _ (.inl rfl) e,c⟩
 | set D n=>obtain ⟨ob,g,i,t,e,c⟩:=x;exact ⟨ob,g,i,t,k _ _ (.inl rfl) e,c⟩
 | ins C dx fs=>
  obtain ⟨d,z,ne,e,l,⟨m,g,i,e2,c⟩,r⟩:=x;exact ⟨A _ d,z,ne,k _ _ (.inl rfl) e,l,⟨m,g,i,k _ _ (.inr d) e2,c⟩,r⟩
 | own y=>obtain ⟨ob,e⟩:=x;exact ⟨ob,k _ _ (.inl rfl) e⟩
 | xd fs=>obtain ⟨l,⟨m,g,i,e,c⟩,r⟩:=x;exact ⟨l,⟨m,g,i,k _ _ (.inl rfl) e,c⟩,r⟩
 | rng lo hi=>obtain ⟨t,u,v,e⟩:=x;exact ⟨t,u,v,k _ _ (.inl rfl) e⟩
 | frz ob u B=>obtain ⟨e,q⟩:=x;exact ⟨k _ _ (.inl rfl) e,B q⟩
 | tbl ps=>
  have e:h.get? a=some { cls:=.none,data:=.fields ps }:=x;show h'.get? a=some { cls:=.none,data:=.fields ps };exact k a _ (.inl rfl) e
 | met f y=>
  have e:h.get? a=some (NA (.ref f) (.ref y)):=x;show h'.get? a=some (NA (.ref f) (.ref y));exact k a _ (.inl rfl) e
 | ext φ=>obtain ⟨p,⟨o,e⟩,st⟩:=x;exact ⟨st _ _ p λ o q=>k _ _ (.inl rfl) q,⟨o,k _ _ (.inl rfl) e⟩,st⟩
theorem HOk.lt (x:HOk P w H h)(e:H a=some o):a < h.objs.size:=(x a o e).lt
theorem HOk.fresh (x:HOk P w H h)(e:h.objs.size<=a):H a=none:=by
 cases q:H a with
 | none=>rfl
 | some u=>exact absurd (Zu (x.lt q) e) (yB _)
theorem HOk.kept (x:HOk P w H h)(k:∀b u,h.get? b=some u->h'.get? b=some u):HOk P w H h':=λ a o e=>
 (x a o e).stay (λ b u _ q=>k b u q) (λ _ q=>q) λ _ _ q=>q
theorem HOk.laid (x:HOk P w H h)(k:∀b u,h.get? b=some u->h'.get? b=some u)(f:h.objs.size<=a)(d:ObjOk P w (upd H a o) h' a o):HOk P w (upd H a o) h':=λ b u e=>by
 have hn:=x.fresh f;by_cases hb:b=a
 ·subst hb;rw [Ag] at e;cases e;exact d
 ·rw [Al hb] at e;exact (x b u e).stay (λ c v _ q=>k c v q) (λ c q=>by rw [Al (BV q hn)];exact q) λ c xs q=>by rw [Al (BV q hn)];exact q
end
def Rd (H:Hp)(a:Addr)(u:HO):Prop:=H a=some u\/∃o,H a=some (.frz o u)
theorem Rd.ok {P:ZU}{w:World}{H:Hp}{h:Heap}{a:Addr}{u:HO}(r:Rd H a u)(x:HOk P w H h):ObjOk P w H h a u:=by
 rcases r with r | ⟨o,r⟩
 ·exact x a u r
 ·obtain ⟨_,q⟩:=x a _ r;exact q
def Mut:Option HO->Prop
 | some (.lst _)=>True
 | some (.dK _)=>True
 | some (.dT _)=>True
 | some (.set _ _)=>True
 | some (.ins _ _ _)=>True
 | some (.ext _)=>True
 | _=>False
section
variable {P:ZU}{w:World}{H:Hp}{h h':Heap}{x e:Addr}{o':HO}
theorem HOk.write (ok:HOk P w H h)(f:Mut (H x))(j:e=x\/H e=some (.own x))(k:∀b u,b≠e->h.get? b=some u->h'.get? b=some u)(l:∃u,h'.get? e=some u)
  (m:ObjOk P w (upd H x o') h' x o'):HOk P w (upd H x o') h':=λ b u q=>by
 have d:∀c y,H c=some (.own y)->c≠x:=λ c y r z=>by subst z;rw [r] at f;exact f
 have i:∀c xs,H c=some (.tup xs)->c≠x:=λ c xs r z=>by subst z;rw [r] at f;exact f
 by_cases hb:b=x
 ·subst hb;rw [Ag] at q;cases q;exact m
 ·rw [Al hb] at q;by_cases a:b=e
  ·have n:H b=some (.own x):=by
    rcases j with z | z
    ·exact absurd (a.trans z) hb
    ·rw [a];exact z
   rw [q] at n;cases n;obtain ⟨v,o⟩:=l;exact ⟨v,by rw [a];exact o⟩
  ·refine (ok b u q).stay (λ c v g r=>k c v ?_ r) (λ c r=>by rw [Al (d c b r)];exact r) λ c xs r=>by rw [Al (i c xs r)];exact r
   rcases g with rfl | g
   ·exact a
   ·rintro rfl
    rcases j with z | z
    ·exact d c b g z
    ·rw [g] at z;cases z;exact hb rfl
end
structure Un (fs ex:List Addr)(H H':Hp)(h h':Heap):Prop where
 keep:∀b o,h.get? b=some o->H b=none->b∉fs->b∉ex->h'.get? b=some o
 slot:∀b o,h.get? b=some o->H b=none->b∈fs->b∉ex->∃sl,h'.get? b=some { o with slots:=sl }
 free:∀b o,h.get? b=some o->H b=none->b∉ex->H' b=none
 there:∀b o,h.get? b=some o->b∉ex->∃o',h'.get? b=some o'
 tups:∀b xs,H b=some (.tup xs)->H' b=some (.tup xs)
 frzs:∀b o u,H b=some (.frz o u)->H' b=some (.frz o u)
 tbls:∀b ps,H b=some (.tbl ps)->∃more,H' b=some (.tbl (ps++more))
section
variable {fs fs' ex ex':List Addr}{H H1 H2:Hp}{h h1 h2 h':Heap}{a x e:Addr}{o:HO}
theorem Un.any (u:Un fs ex H H1 h h1){b:Addr}{ob:Obj}(q:h.get? b=some ob)(n:H b=none)(c:b∉ex):∃d,h1.get? b=some { ob with slots:=d }:=by
 by_cases hb:b∈fs
 ·exact u.slot b ob q n hb c
 ·exact ⟨ob.slots,u.keep b ob q n hb c⟩
theorem Un.kept (k:∀b u,h.get? b=some u->h'.get? b=some u):Un fs ex H H h h':=
 ⟨λ b ob q _ _ _=>k b ob q,λ b ob q _ _ _=>⟨ob.slots,k b ob q⟩,λ _ _ _ n _=>n,λ b ob q _=>⟨ob,k b ob q⟩,λ _ _ q=>q,λ _ _ _ q=>q,λ _ ps q=>⟨#[],by rw [q];simp⟩⟩
theorem Un.refl:Un fs ex H H h h:=Un.kept λ _ _ q=>q
theorem Un.laid (k:∀b u,h.get? b=some u->h'.get? b=some u)(c:h.objs.size<=a)(hn:H a=none):Un fs ex H (upd H a o) h h' where
 keep:=λ b u q _ _ _=>k b u q
 slot:=λ b u q _ _ _=>⟨u.slots,k b u q⟩
 free:=λ b u q n _=>by rw [Al (YP (Zu (ZT q) c))];exact n
 there:=λ b u q _=>⟨u,k b u q⟩
 tups:=λ b xs q=>by rw [Al (BV q hn)];exact q
 frzs:=λ b u xs q=>by rw [Al (BV q hn)];exact q
 tbls:=λ b ps q=>⟨#[],by rw [Al (BV q hn),q];simp⟩
theorem Un.write (c:Mut (H x))(i:e=x\/H e=some (.own x))(k:∀b u,b≠e->h.get? b=some u->h'.get? b=some u)(f:∃u,h'.get? e=some u):Un fs ex H (upd H x o) h h':=by
 have g:∀b,H b=none->b≠x:=λ b n z=>by subst z;rw [n] at c;exact c
 have hb:∀b,H b=none->b≠e:=λ b n z=>by
  subst z;rcases i with r | r
  ·exact g b n r
  ·rw [n] at r;cases r
 have hm:∀b u,H b=some u->¬ Mut (some u)->b≠x:=λ b u q nm z=>by subst z;rw [q] at c;exact nm c
 refine ⟨λ b u q n _ _=>k b u (hb b n) q,λ b u q n _ _=>⟨u.slots,k b u (hb b n) q⟩,λ b u q n _=>by rw [Al (g b n)];exact n,λ b u q _=>?_,
  λ b xs q=>by rw [Al (hm b _ q λ z=>z)];exact q,λ b u xs q=>by rw [Al (hm b _ q λ z=>z)];exact q,λ b ps q=>⟨#[],by rw [Al (hm b _ q λ z=>z),q];simp⟩⟩
 by_cases d:b=e
 ·subst d;exact f
 ·exact ⟨u,k b u d q⟩
end
def trk (h:Heap)(H:Hp):List Addr:=(QE h.objs.size).filter λ a=>(H a).isSome
def hidT (h:Heap)(H:Hp):Heap:=JU h (trk h H)
theorem yV (h:Heap)(H:Hp):(hidT h H).objs.size=h.objs.size:=PySem.W.hideAll_size _ _
theorem yZ {h:Heap}{H:Hp}{b:Addr}{o:Obj}(e:h.get? b=some o)(n:H b=none):(hidT h H).get? b=some o:=
 jI _ e λ hm=>by
  have q:(H b).isSome=true:=(List.mem_filter.mp hm).2;rw [n] at q;simp at q
theorem AL4 {h:Heap}{H:Hp}{b:Addr}{o:Obj}(e:(hidT h H).get? b=some o):h.get? b=some o/\H b=none:=by
 have a:h.get? b=some o:=zv (trk h H) e;refine ⟨a,?_⟩;cases q:H b with
 | none=>rfl
 | some x=>
  have hm:b∈trk h H:=List.mem_filter.mpr ⟨FK.mpr (ZT a),by simp [q]⟩
  have z:(hidT h H).get? b=none:=GW (trk h H) hm;rw [z] at e;cases e
structure Mod (K:FrG)(mg:Str->Option Value)(base:Heap):Prop where
 kin:K.In base
 glob:base.Ns ZY mg
 blt:∃mb,base.Ns builtinsNs mb/\∀x:Str,x≠"__name__"->mb x=UY x
 nolimit:base.NoLimit
structure Cx where
 prog:ZU
 w:World
 K:FrG
 mg:Str->Option Value
 base:Heap
 A:XA
 N:List Str
 s₀:X1
 H₀:Hp
 env:Env
 outer:List Env
 stack:List Env
 ex:List Addr
 fn:Str->Bool
 calm:Bool
 pn:List (Addr×Obj)
 xe:Value->X1->Prop
 tb:Nat
def frs (l:List Env):List Addr:=l.filterMap (·.frame)
abbrev Cx.fs (X:Cx):List Addr:=frs X.outer
def Vis (a:Scope)(x:Str):Prop:=a.names.lookup x=some .local\/a.names.lookup x=some .cell\/a.names.lookup x=some .free
def Loc (a:Scope)(x:Str):Prop:=a.names.lookup x=some .local\/a.names.lookup x=some .cell
def Look (env:Env)(h:Heap)(m:Str->Option Value)(x:Str)(u:Value):Prop:=
 (env.kindOf x=some .local/\m x=some u)\/((env.kindOf x=some .cell\/env.kindOf x=some .free)/\∃c,env.cells.lookup x=some c/\h.IsCell c (some u))
structure Cx.Ok (X:Cx):Prop where
 mod:Mod X.K X.mg X.base
 kind:X.env.scope.kind=.function
 glob:X.env.globals=ZY
 blt:X.env.builtins=builtinsNs
 above:X.s₀.heap.objs.size<=X.env.locals
 inj:∀x y c,X.env.cells.lookup x=some c->X.env.cells.lookup y=some c->x=y
 has:∀x,(X.env.kindOf x=some .cell\/X.env.kindOf x=some .free)->∃c,X.env.cells.lookup x=some c
 cab:∀x c,X.fn x=true->X.env.cells.lookup x=some c->X.s₀.heap.objs.size<=c
 hd:X.calm=true->X.A.handled=none
 frames:X.A.frames=some X.stack
 stk:X.stack=X.outer\/(X.stack=X.env::X.outer/\X.env.frame=some X.env.locals)
 exf:∀b∈X.ex,b≠X.env.locals/\∀x c,X.env.cells.lookup x=some c->c≠b
 bs:∀b o,X.base.get? b=some o->X.s₀.heap.get? b=some o/\X.H₀ b=none
 bsz:X.base.objs.size<=X.s₀.heap.objs.size
 noex:∀b o,X.base.get? b=some o->b∉X.ex
 exfs:∀b∈X.ex,b∉X.fs
 funs:X.s₀.heap.FunFrames X.base X.outer
 frf:∀b∈X.fs,X.H₀ b=none
 tb1:1<=X.tb
structure Inv (X:Cx)(pins:List (Addr×Obj))(σ:List (Option V))(H:Hp)(s:X1):Prop where
 ok:X.Ok
 os:s.os=X.s₀.os
 bare:wS s.gens
 base:Un X.fs X.ex X.H₀ H X.s₀.heap s.heap
 loc:∃m,s.heap.Ns X.env.locals m/\∀(i:Nat) (x:Str) (v:V),X.N[i]?=some x->σ[i]?=some (some v)->Vis X.env.scope x->∃u,RelV v u/\Look X.env s.heap m x u
 cell:∀x c,X.env.cells.lookup x=some c->∃v,s.heap.IsCell c v
 free:H X.env.locals=none
 freeC:∀x c,X.env.cells.lookup x=some c->H c=none
 pin:∀p∈X.pn++pins,s.heap.get? p.1=some p.2/\H p.1=none/\p.1≠X.env.locals/\p.1∉X.fs/\∀v,p.2.data≠.cell v
 hok:HOk X.prog X.w H s.heap
 len:σ.length=X.N.length
 tk:X.tb<=s.toks
section
variable {X:Cx}{pins:List (Addr×Obj)}{σ:List (Option V)}{H H':Hp}{s:X1}{h':Heap}
theorem Inv.tk1 (a:Inv X pins σ H s):1<=s.toks:=W8 a.ok.tb1 a.tk
theorem Cx.Ok.nofr (ok:X.Ok){b:Addr}{o:Obj}(e:X.base.get? b=some o):b∉X.fs:=λ hb=>by
 have:=(ok.funs.mem hb).1;rw [e] at this;cases this
theorem Inv.bs (a:Inv X pins σ H s):∀b o,X.base.get? b=some o->s.heap.get? b=some o/\H b=none:=λ b o e=>
 ⟨a.base.keep b o (a.ok.bs b o e).1 (a.ok.bs b o e).2 (a.ok.nofr e) (a.ok.noex b o e),a.base.free b o (a.ok.bs b o e).1 (a.ok.bs b o e).2 (a.ok.noex b o e)⟩
theorem Inv.bk (a:Inv X pins σ H s):∀b o,X.base.get? b=some o->s.heap.get? b=some o:=λ b o e=>(a.bs b o e).1
theorem Inv.mod (a:Inv X pins σ H s):Mod X.K X.mg X.base:=a.ok.mod
theorem Inv.kIn (a:Inv X pins σ H s):X.K.In s.heap:=a.ok.mod.kin.keeps a.bk
theorem Inv.lt (a:Inv X pins σ H s):X.env.locals < s.heap.objs.size:=let ⟨_,hn,_⟩:=a.loc;hn.lt
theorem Inv.sz (a:Inv X pins σ H s):X.s₀.heap.objs.size<=s.heap.objs.size:=W8 a.ok.above (UU a.lt)
theorem Inv.nofs (c:Inv X pins σ H s){a:Addr}(h:s.heap.objs.size<=a):a∉X.fs:=λ hb=>by
 obtain ⟨_,o,b,_⟩:=c.ok.funs.mem hb;exact absurd (Zu (ZT b) (W8 c.sz h)) (yB _)
theorem Inv.cne (f:Inv X pins σ H s):∀x c,X.env.cells.lookup x=some c->c≠X.env.locals:=λ x c e z=>by
 obtain ⟨v,o,a,hd⟩:=f.cell x c e;obtain ⟨m,⟨g,h,i,b,d,_⟩,_⟩:=f.loc;rw [z,b] at a;cases a;rw [d] at hd;cases hd
theorem Inv.funs (f:Inv X pins σ H s):s.heap.FunFrames X.base X.outer:=by
 have all:∀(l:List Env),(∀b∈frs l,b∈X.fs)->X.s₀.heap.FunFrames X.base l->s.heap.FunFrames X.base l:=by
  intro l
  induction l with
  | nil=>intro _ _;trivial
  | cons env r g=>
   intro d hl;obtain ⟨h,⟨c,o,hf,hn,i,hd⟩,j⟩:=hl;have a:c∈X.fs:=d c (by unfold frs;rw [yn,hf];exact YV)
   obtain ⟨k,e⟩:=f.base.slot c o i (f.ok.frf c a) a λ z=>f.ok.exfs c z a
   exact ⟨h,⟨c,_,hf,hn,e,hd⟩,g (λ b hb=>d b (by unfold frs;rw [yn,hf];exact ZX _ hb)) j⟩
 exact all X.outer (λ _ hb=>hb) f.ok.funs
theorem Inv.stack (a:Inv X pins σ H s):s.heap.FunFrames X.base X.stack:=by
 rcases a.ok.stk with e | ⟨e,hf⟩
 ·rw [e];exact a.funs
 ·rw [e];obtain ⟨m,hn,_⟩:=a.loc;refine .cons (by rw [a.ok.kind];decide) hf hn ?_ a.funs
  exact xD (W8 a.ok.bsz a.ok.above)
theorem Inv.stkSub (a:Inv X pins σ H s):∀b∈frs X.stack,b∈X.env.locals::X.fs:=λ b hb=>by
 rcases a.ok.stk with e | ⟨e,hf⟩
 ·rw [e] at hb;exact ZX _ hb
 ·rw [e] at hb;unfold frs at hb;rw [yn,hf] at hb;exact hb
theorem Inv.stkFree (a:Inv X pins σ H s):∀b∈frs X.stack,H b=none:=λ b hb=>by
 rcases ZN.mp (a.stkSub b hb) with e | hb
 ·rw [e];exact a.free
 ·obtain ⟨_,o,c,_⟩:=a.ok.funs.mem hb;exact a.base.free b o c (a.ok.frf b hb) λ z=>a.ok.exfs b z hb
theorem Inv.step {g':Array GenState}{t':Nat}{d':Drawn}{ch:List Addr}(f:Inv X pins σ H s)
  (g:∀b∈ch,(b∈X.ex\/X.s₀.heap.objs.size<=b)/\b≠X.env.locals/\(∀x c,X.env.cells.lookup x=some c->c≠b)/\∀p∈X.pn++pins,p.1≠b)
  (keep:∀b o,b≠X.env.locals->b∉X.fs->b∉ch->s.heap.get? b=some o->H b=none->h'.get? b=some o)
  (slot:∀b o,b≠X.env.locals->b∈X.fs->b∉ch->s.heap.get? b=some o->H b=none->∃C,h'.get? b=some { o with slots:=C }) (free:∀b o,b∉ch->s.heap.get? b=some o->H b=none->H' b=none)
  (there:∀b o,b∉ch->s.heap.get? b=some o->∃A,h'.get? b=some A)
  (tups:∀b xs,H b=some (.tup xs)->H' b=some (.tup xs)) (frzs:∀b o u,H b=some (.frz o u)->H' b=some (.frz o u)) (tbls:∀b ps,H b=some (.tbl ps)->∃more,H' b=some (.tbl (ps++more)))
  (ns:∀m,s.heap.Ns X.env.locals m->h'.Ns X.env.locals m) (hok:HOk X.prog X.w H' h') (I:wS g') (ht:X.tb<=t':=by first | assumption | exact Inv.tk (by assumption) | exact Xh (Inv.tk (by assumption)) | exact W8 (Inv.tk (by assumption)) (by assumption) | (have:=Inv.tk (by assumption);omega) | (have:=Inv.tk (by assumption);dsimp only at this;omega)):
  Inv X pins σ H' { s with heap:=h',gens:=g',drawn:=d',toks:=t' }:=by
 have B:∀b o,X.s₀.heap.get? b=some o->b≠X.env.locals:=λ b o e=>YP (Zu (ZT e) f.ok.above)
 have j:∀b o,X.s₀.heap.get? b=some o->b∉X.ex->b∉ch:=λ b o e a hb=>by
  rcases (g b hb).1 with z | z
  ·exact a z
  ·exact absurd (Zu (ZT e) z) (yB _)
 have t:∀x c,X.env.cells.lookup x=some c->∀v,s.heap.IsCell c v->h'.IsCell c v:=λ x c e v ⟨o,y,hd⟩=>by
  have h:c∉ch:=λ z=>(g c z).2.2.1 x c e rfl
  by_cases D:c∈X.fs
  ·obtain ⟨C,q⟩:=slot c o (f.cne x c e) D h y (f.freeC x c e);exact ⟨_,q,hd⟩
  ·exact ⟨o,keep c o (f.cne x c e) D h y (f.freeC x c e),hd⟩
 refine ⟨f.ok,f.os,I,⟨λ b o e n hb a=>?_,λ b o e n hb a=>?_,λ b o e n a=>?_,λ b o e a=>?_,λ b xs e=>tups b xs (f.base.tups b xs e),λ b o xs e=>frzs b o xs (f.base.frzs b o xs e),λ b ps e=>?_⟩,?_,λ x c e=>?_,?_,λ x c e=>?_,λ p E=>?_,hok,f.len,ht⟩
 ·exact keep b o (B b o e) hb (j b o e a) (f.base.keep b o e n hb a) (f.base.free b o e n a)
 ·obtain ⟨C,e1⟩:=f.base.slot b o e n hb a;obtain ⟨F,e2⟩:=slot b _ (B b o e) hb (j b o e a) e1 (f.base.free b o e n a);exact ⟨F,e2⟩
 ·obtain ⟨A,e1⟩:=f.base.there b o e a;exact free b A (j b o e a) e1 (f.base.free b o e n a)
 ·obtain ⟨A,e1⟩:=f.base.there b o e a;exact there b A (j b o e a) e1
 ·obtain ⟨J,e1⟩:=f.base.tbls b ps e;obtain ⟨K,e2⟩:=tbls b _ e1;exact ⟨J++K,by rw [e2,Array.append_assoc]⟩
 ·obtain ⟨m,hn,hl⟩:=f.loc;refine ⟨m,ns m hn,λ i x v e1 e2 L=>?_⟩
  obtain ⟨u,r,l⟩:=hl i x v e1 e2 L;refine ⟨u,r,?_⟩;rcases l with l | ⟨k,c,e,z⟩
  ·exact .inl l
  ·exact .inr ⟨k,c,e,t x c e _ z⟩
 ·obtain ⟨v,z⟩:=f.cell x c e;exact ⟨v,t x c e v z⟩
 ·obtain ⟨m,⟨o,_,_,y,_⟩,_⟩:=f.loc;exact free _ o (λ z=>(g _ z).2.1 rfl) y f.free
 ·obtain ⟨v,o,y,hd⟩:=f.cell x c e;exact free c o (λ z=>(g c z).2.2.1 x c e rfl) y (f.freeC x c e)
 ·obtain ⟨e,n,ne,G,d⟩:=f.pin p E;have h:p.1∉ch:=λ z=>(g p.1 z).2.2.2 p E rfl
  exact ⟨keep p.1 p.2 ne G h e n,free p.1 p.2 h e n,ne,G,d⟩
theorem Inv.un {t':Nat}(g:Inv X pins σ H s)(u:Un X.fs [] H H' s.heap h')(hok:HOk X.prog X.w H' h')(ht:X.tb<=t':=by first | assumption | exact Inv.tk (by assumption) | exact Xh (Inv.tk (by assumption)) | exact W8 (Inv.tk (by assumption)) (by assumption) | (have:=Inv.tk (by assumption);omega) | (have:=Inv.tk (by assumption);dsimp only at this;omega)):Inv X pins σ H' { s with heap:=h',toks:=t' }:=by
 obtain ⟨m,⟨o,j,k,c,r⟩,_⟩:=id g.loc;obtain ⟨l,h⟩:=u.any c g.free (by simp)
 exact g.step (g':=s.gens) (d':=s.drawn) (ch:=[]) (λ _ z=>nomatch z) (λ b o _ hb _ e n=>u.keep b o e n hb (by simp)) (λ b o _ hb _ e n=>u.slot b o e n hb (by simp)) (λ b o _ e n=>u.free b o e n (by simp)) (λ b o _ e=>u.there b o e (by simp)) u.tups u.frzs u.tbls (λ p hm=>by
  obtain ⟨q,d,f,a,i⟩:=hm;rw [c] at a;cases a;exact ⟨_,d,f,h,i⟩) hok g.bare
theorem Inv.call {g':Array GenState}{t':Nat}{d':Drawn}{ch:List Addr}(k:Inv X pins σ H s)(u:Un (frs X.stack) ch H H' s.heap h')(hok:HOk X.prog X.w H' h')(l:wS g')
  (d:∀b∈ch,(b∈X.ex\/X.s₀.heap.objs.size<=b)/\b≠X.env.locals/\(∀x c,X.env.cells.lookup x=some c->c≠b)/\∀p∈X.pn++pins,p.1≠b) (ht:X.tb<=t':=by first | assumption | exact Inv.tk (by assumption) | exact Xh (Inv.tk (by assumption)) | exact W8 (Inv.tk (by assumption)) (by assumption) | (have:=Inv.tk (by assumption);omega) | (have:=Inv.tk (by assumption);dsimp only at this;omega)):
  Inv X pins σ H' { s with heap:=h',gens:=g',drawn:=d',toks:=t' }:=by
 obtain ⟨m,⟨o,t,v,h,r⟩,_⟩:=id k.loc;obtain ⟨y,g⟩:=u.any h k.free λ z=>(d _ z).2.1 rfl
 exact k.step (ch:=ch) d (λ b o g hb a e n=>u.keep b o e n (λ z=>(ZN.mp (k.stkSub b z)).elim g hb) a) (λ b o _ _ a e n=>u.any e n a) (λ b o a e n=>u.free b o e n a) (λ b o a e=>u.there b o e a) u.tups u.frzs u.tbls (λ A hm=>by
  obtain ⟨B,i,j,f,q⟩:=hm;rw [h] at f;cases f;exact ⟨_,i,j,g,q⟩) hok l
theorem Inv.turned {t':Nat}{it:Addr}(g:Inv X pins σ H s)(k:∀b o,b≠it->s.heap.get? b=some o->h'.get? b=some o)(hn:H it=none)(f:it≠X.env.locals)
  (h:it∈X.ex\/X.s₀.heap.objs.size<=it) (i:∀x c,X.env.cells.lookup x=some c->c≠it) (j:∀p∈X.pn++pins,p.1≠it) (ht:X.tb<=t':=by first | assumption | exact Inv.tk (by assumption) | exact Xh (Inv.tk (by assumption)) | exact W8 (Inv.tk (by assumption)) (by assumption) | (have:=Inv.tk (by assumption);omega) | (have:=Inv.tk (by assumption);dsimp only at this;omega)):Inv X pins σ H { s with heap:=h',toks:=t' }:=by
 have d:∀b u,H b=some u->b≠it:=λ b u e z=>by rw [z,hn] at e;cases e
 refine g.step (g':=s.gens) (d':=s.drawn) (ch:=[it]) (λ b hb=>?_) (λ b o _ _ a e _=>k b o (λ z=>a (by simp [z])) e) (λ b o _ _ a e _=>⟨o.slots,k b o (λ z=>a (by simp [z])) e⟩) (λ _ _ _ _ n=>n)
  (λ b o a e=>⟨o,k b o (λ z=>a (by simp [z])) e⟩) (λ _ _ e=>e) (λ _ _ _ e=>e) (λ b ps e=>⟨#[],by rw [e];simp⟩) (λ m hm=>?_) (λ b u e=>?_) g.bare
 ·have e:b=it:=by simpa using hb
  subst e;exact ⟨h,f,i,j⟩
 ·obtain ⟨o,l,t,w,r⟩:=hm;exact ⟨o,l,t,k _ o (WU f) w,r⟩
 ·refine (g.hok b u e).stay (λ c v a q=>k c v ?_ q) (λ _ q=>q) λ _ _ q=>q
  rcases a with z | z
  ·rw [z];exact d b u e
  ·exact d c _ z
theorem Inv.tok (a:Inv X pins σ H s)(t:Nat)(ht:X.tb<=t:=by first | assumption | exact Inv.tk (by assumption) | exact Xh (Inv.tk (by assumption)) | exact W8 (Inv.tk (by assumption)) (by assumption) | (have:=Inv.tk (by assumption);omega) | (have:=Inv.tk (by assumption);dsimp only at this;omega)):Inv X pins σ H { s with toks:=t }:=a.un (h':=s.heap) (t':=t) Un.refl a.hok
theorem Inv.kept {t':Nat}(a:Inv X pins σ H s)(k:∀b u,s.heap.get? b=some u->h'.get? b=some u)(ht:X.tb<=t':=by first | assumption | exact Inv.tk (by assumption) | exact Xh (Inv.tk (by assumption)) | exact W8 (Inv.tk (by assumption)) (by assumption) | (have:=Inv.tk (by assumption);omega) | (have:=Inv.tk (by assumption);dsimp only at this;omega)):Inv X pins σ H { s with heap:=h',toks:=t' }:=a.un (Un.kept k) (a.hok.kept k)
theorem Inv.laid {a:Addr}{o:HO}{t':Nat}(e:Inv X pins σ H s)(k:∀b u,s.heap.get? b=some u->h'.get? b=some u)(c:s.heap.objs.size<=a)(d:ObjOk X.prog X.w (upd H a o) h' a o)(ht:X.tb<=t':=by first | assumption | exact Inv.tk (by assumption) | exact Xh (Inv.tk (by assumption)) | exact W8 (Inv.tk (by assumption)) (by assumption) | (have:=Inv.tk (by assumption);omega) | (have:=Inv.tk (by assumption);dsimp only at this;omega)):
  Inv X pins σ (upd H a o) { s with heap:=h',toks:=t' }:=e.un (Un.laid k c (e.hok.fresh c)) (e.hok.laid k c d)
theorem Inv.write {x e:Addr}{o:HO}{t':Nat}(g:Inv X pins σ H s)(c:Mut (H x))(d:e=x\/H e=some (.own x))(k:∀b u,b≠e->s.heap.get? b=some u->h'.get? b=some u)(a:∃u,h'.get? e=some u)
  (f:ObjOk X.prog X.w (upd H x o) h' x o) (ht:X.tb<=t':=by first | assumption | exact Inv.tk (by assumption) | exact Xh (Inv.tk (by assumption)) | exact W8 (Inv.tk (by assumption)) (by assumption) | (have:=Inv.tk (by assumption);omega) | (have:=Inv.tk (by assumption);dsimp only at this;omega)):Inv X pins σ (upd H x o) { s with heap:=h',toks:=t' }:=g.un (Un.write c d k a) (g.hok.write c d k a f)
theorem Inv.pins_of {a:List (Addr×Obj)}(b:Inv X pins σ H s)(h:∀p∈a,s.heap.get? p.1=some p.2/\H p.1=none/\p.1≠X.env.locals/\p.1∉X.fs/\∀v,p.2.data≠.cell v):Inv X a σ H s:=
 ⟨b.ok,b.os,b.bare,b.base,b.loc,b.cell,b.free,b.freeC,λ p c=>(XE.mp c).elim (λ z=>b.pin p (QO _ z)) (h p),b.hok,b.len,b.tk⟩
theorem WY {N:List Str}(c:N.Nodup){i j:Nat}{x:Str}(a:N[i]?=some x)(b:N[j]?=some x):i=j:=by
 obtain ⟨d,e1⟩:=WJ.mp a;obtain ⟨e,e2⟩:=WJ.mp b;exact (List.getElem_inj c).mp (e1.trans e2.symm)
theorem RW {M:Model}{A:XA}{E:Value->X1->Prop}{i:Nat}{x:Str}{v:V}{u:Value}{Q:Unit->X1->Prop}(f:Inv X pins σ H s)(a4:X.N.Nodup)(hi:X.N[i]?=some x)(t:Loc X.env.scope x)(r:RelV v u)
  (h:∀s',Inv X pins (σ.set i (some v)) H s'->(∃a,QA a s.heap s'.heap/\(a=X.env.locals\/X.env.cells.lookup x=some a))->(X.env.scope.names.lookup x=some .local->∃m,s.heap.Ns X.env.locals m/\s'.heap.Ns X.env.locals (λ y=>if y=x then some u else m y)/\s.toks<=s'.toks)->Q () s') (hf:X.fn x=true\/X.env.scope.names.lookup x=some .local:=by first | exact .inl rfl | exact .inr rfl | assumption):wpAny M A (storeName X.env x u) Q E s:=by
 obtain ⟨m,hn,hl⟩:=id f.loc;have S:(X.env.scope.kind == .class || (X.env.scope.kind == .module && X.env.locals != X.env.globals))=false:=by rw [f.ok.kind];rfl
 have G:i < σ.length:=by rw [f.len];exact (WJ.mp hi).1
 have cne:=f.cne;have C:∀{a:Addr} {h':Heap},(∃o,s.heap.get? a=some o/\H a=none)->QA a s.heap h'->HOk X.prog X.w H h':=λ {a h'} ha g b ob e=>by
  obtain ⟨_,_,F⟩:=ha;refine (f.hok b ob e).stay (λ c J l q=>(g.2 c ?_).trans q) (λ _ q=>q) λ _ _ q=>q
  rintro rfl
  rcases l with rfl | l
  ·rw [F] at e;cases e
  ·rw [F] at l;cases l
 rcases t with B | B
 ·refine wpAny_storeName_local B hn (λ h' L g=>?_) S
  obtain ⟨a7,_,_,a5,_⟩:=id hn;refine h _ ⟨f.ok,f.os,f.bare,⟨λ b o e n hb t=>?_,λ b o e n hb t=>?_,f.base.free,λ b o e t=>?_,f.base.tups,f.base.frzs,f.base.tbls⟩,⟨_,L,λ j y T e1 e2 U=>?_⟩,λ y c e=>?_,f.free,f.freeC,λ p W=>?_,C ⟨a7,a5,f.free⟩ g,by simpa using f.len,Xh f.tk⟩ ⟨_,g,.inl rfl⟩ λ _=>⟨m,hn,L,WV _⟩
  ·exact (g.2 b (YP (Zu (ZT e) f.ok.above))).trans (f.base.keep b o e n hb t)
  ·obtain ⟨Y,e1⟩:=f.base.slot b o e n hb t;exact ⟨Y,(g.2 b (YP (Zu (ZT e) f.ok.above))).trans e1⟩
  ·obtain ⟨Z,e1⟩:=f.base.there b o e t;exact ⟨Z,(g.2 b (YP (Zu (ZT e) f.ok.above))).trans e1⟩
  ·by_cases D:j=i
   ·subst D;rw [hi] at e1;cases e1;rw [qK G] at e2;cases e2
    exact ⟨u,r,.inl ⟨B,by simp⟩⟩
   ·rw [GY (WU D)] at e2;obtain ⟨a0,a1,q⟩:=hl j y T e1 e2 U;refine ⟨a0,a1,?_⟩;rcases q with ⟨k,e⟩ | ⟨k,c,e,z⟩
    ·refine .inl ⟨k,?_⟩;have:y≠x:=λ e=>D (WY a4 e1 (e▸hi))
     simp [this,e]
    ·exact .inr ⟨k,c,e,z.sameBut g (cne y c e)⟩
  ·obtain ⟨J,z⟩:=f.cell y c e;exact ⟨J,z.sameBut g (cne y c e)⟩
  ·obtain ⟨e,n,ne,a2,d⟩:=f.pin p W;exact ⟨(g.2 p.1 ne).trans e,n,ne,a2,d⟩
 ·have I:X.fn x=true:=by
   rcases hf with z | z
   ·exact z
   ·rw [z] at B;cases B
  obtain ⟨c,l⟩:=f.ok.has x (.inl B);obtain ⟨J,z⟩:=f.cell x c l;refine wpAny_storeName_cell f.ok.kind B l z (λ h' O g=>?_)
  obtain ⟨a6,P,a3⟩:=id z;refine h { s with heap:=h' } ⟨f.ok,f.os,f.bare,⟨λ b o e n hb t=>?_,λ b o e n hb t=>?_,f.base.free,λ b o e t=>?_,f.base.tups,f.base.frzs,f.base.tbls⟩,⟨m,hn.sameBut g (WU (cne x c l)),λ j y T e1 e2 U=>?_⟩,λ y K e=>?_,f.free,f.freeC,λ p W=>?_,C ⟨a6,P,f.freeC x c l⟩ g,by simpa using f.len,f.tk⟩ ⟨c,g,.inr l⟩ λ z=>by rw [z] at B;cases B
  ·exact (g.2 b (YP (Zu (ZT e) (f.ok.cab x c I l)))).trans (f.base.keep b o e n hb t)
  ·obtain ⟨Y,e1⟩:=f.base.slot b o e n hb t;exact ⟨Y,(g.2 b (YP (Zu (ZT e) (f.ok.cab x c I l)))).trans e1⟩
  ·obtain ⟨Z,e1⟩:=f.base.there b o e t;exact ⟨Z,(g.2 b (YP (Zu (ZT e) (f.ok.cab x c I l)))).trans e1⟩
  ·by_cases D:j=i
   ·subst D;rw [hi] at e1;cases e1;rw [qK G] at e2;cases e2
    exact ⟨u,r,.inr ⟨.inl B,c,l,O⟩⟩
   ·rw [GY (WU D)] at e2;obtain ⟨a0,a1,q⟩:=hl j y T e1 e2 U;refine ⟨a0,a1,?_⟩;rcases q with q | ⟨k,K,e,a8⟩
    ·exact .inl q
    ·refine .inr ⟨k,K,e,a8.sameBut g ?_⟩;rintro rfl
     exact D (WY a4 e1 (f.ok.inj _ _ _ e l▸hi))
  ·by_cases R:K=c
   ·subst R;exact ⟨_,O⟩
   ·obtain ⟨a9,b0⟩:=f.cell y K e;exact ⟨a9,b0.sameBut g R⟩
  ·obtain ⟨e,n,ne,a2,d⟩:=f.pin p W;refine ⟨(g.2 p.1 ?_).trans e,n,ne,a2,d⟩;intro q;rw [q,P] at e;have b1:a6=p.2:=Ux e;exact d J (by rw [<- b1];exact a3)
theorem Gu {M:Model}{A:XA}{E:Value->X1->Prop}{i:Nat}{x:Str}{v:V}{u:Value}{Q:Unit->X1->Prop}(d:Inv X pins σ H s)(a:X.N.Nodup)(hi:X.N[i]?=some x)(b:Loc X.env.scope x)(r:RelV v u)
  (h:∀s',Inv X pins (σ.set i (some v)) H s'->Q () s') (hf:X.fn x=true\/X.env.scope.names.lookup x=some .local:=by first | exact .inl rfl | exact .inr rfl | assumption):wpAny M A (storeName X.env x u) Q E s:=
 RW d a hi b r (λ s' c _ _=>h s' c) hf
theorem Inv.call' {s':X1}{ch:List Addr}(h:Inv X pins σ H s)(d:s'.os=s.os)(u:Un (frs X.stack) ch H H' s.heap s'.heap)(hok:HOk X.prog X.w H' s'.heap)(f:wS s'.gens)
  (a:∀b∈ch,(b∈X.ex\/X.s₀.heap.objs.size<=b)/\b≠X.env.locals/\(∀x c,X.env.cells.lookup x=some c->c≠b)/\∀p∈X.pn++pins,p.1≠b) (ht:X.tb<=s'.toks:=by first | assumption | exact Inv.tk (by assumption) | exact Xh (Inv.tk (by assumption)) | exact W8 (Inv.tk (by assumption)) (by assumption) | (have:=Inv.tk (by assumption);omega) | (have:=Inv.tk (by assumption);dsimp only at this;omega)):Inv X pins σ H' s':=by
 obtain ⟨h',g',d',t',g⟩:=s';have e:g=s.os:=d;subst e;exact h.call (g':=g') (t':=t') (d':=d') u hok f a
end
abbrev XK:=Value->Option Addr->Hp->Prop
abbrev St:=List (Option V)
abbrev VK:=V->Hp->Prop
abbrev TE:=St->Hp->VK->Prop
abbrev TT:=St->Hp->(Bool->Hp->Prop)->Prop
abbrev TA:=St->Hp->(List V->Hp->Prop)->Prop
structure Ends where
 nx:St->Hp->Prop
 rt:VK
 bk:St->Hp->Prop:=λ _ _=>False
 ct:St->Hp->Prop:=λ _ _=>False
abbrev TS:=Ends->St->Hp->Prop
def EP (X:Cx)(a:List (Addr×Obj))(c:St)(Q:VK)(u:Value)(s':X1):Prop:=∃v b,Inv X a c b s'/\RelV v u/\Q v b
def TP (X:Cx)(a:List (Addr×Obj))(d:St)(Q:Bool->Hp->Prop)(b:Bool)(s':X1):Prop:=∃c,Inv X a d c s'/\Q b c
def AP (X:Cx)(a:List (Addr×Obj))(c:St)(Q:List V->Hp->Prop)(us:List Value)(s':X1):Prop:=∃vs b,Inv X a c b s'/\Vals vs us/\Q vs b
def SP (X:Cx)(c:List (Addr×Obj))(d:Ends)(f:Flow)(s':X1):Prop:=
 match f with
 | .next=>∃a b,Inv X c a b s'/\d.nx a b
 | .brk=>∃a b,Inv X c a b s'/\d.bk a b
 | .cont=>∃a b,Inv X c a b s'/\d.ct a b
 | .ret u=>∃v a b,Inv X c a b s'/\RelV v u/\d.rt v b
def PE (X:Cx)(e:Expr)(t:TE):Prop:=
 ∀(a:List (Addr×Obj)) (s:X1) (b:St) (H:Hp) (Q:VK),Inv X a b H s->t b H Q->wpAny (model X.prog X.w) X.A (eval e X.env) (EP X a b Q) X.xe s
def PT (X:Cx)(e:Expr)(t:TT):Prop:=
 ∀(a:List (Addr×Obj)) (s:X1) (b:St) (H:Hp) (Q:Bool->Hp->Prop),Inv X a b H s->t b H Q->wpAny (model X.prog X.w) X.A (isTrue e X.env (eval e X.env)) (TP X a b Q) X.xe s
def PW (X:Cx)(e:Expr)(t:TT):Prop:=
 ∀(b:Sem Value) (a:List (Addr×Obj)) (s:X1) (c:St) (H:Hp) (Q:Bool->Hp->Prop),Inv X a c H s->t c H Q->wpAny (model X.prog X.w) X.A (isTrue e X.env b) (TP X a c Q) X.xe s
theorem PW.pt {X:Cx}{e:Expr}{t:TT}(h:PW X e t):PT X e t:=h _
def PA (X:Cx)(c:List Expr)(t:TA):Prop:=
 ∀(pos:Pos) (a:List (Addr×Obj)) (s:X1) (b:St) (H:Hp) (Q:List V->Hp->Prop),Inv X a b H s->t b H Q->wpAny (model X.prog X.w) X.A (spliced (Qe pos (YE c X.env))) (AP X a b Q) X.xe s
def PS (X:Cx)(st:Stmt)(t:TS):Prop:=
 ∀(a:List (Addr×Obj)) (s:X1) (b:St) (H:Hp) (c:Ends),Inv X a b H s->t c b H->wpAny (model X.prog X.w) X.A (exec st X.env) (SP X a c) X.xe s
def PSs (X:Cx)(st:List Stmt)(t:TS):Prop:=
 ∀(a:List (Addr×Obj)) (s:X1) (b:St) (H:Hp) (c:Ends),Inv X a b H s->t c b H->wpAny (model X.prog X.w) X.A (execs st X.env) (SP X a c) X.xe s
theorem thn {b:Type}{t:Sem b}{Q c:b->X1->Prop}{M:Model}{A:XA}{E:Value->X1->Prop}{s:X1}(h:wpAny M A t Q E s)(d:∀a s,Q a s->c a s):wpAny M A t c E s:=Wf h d λ _ _ x=>x
section
variable {X:Cx}
inductive tVar (i:Nat)(σ:St)(H:Hp)(Q:VK):Prop | mk (v:_) (_:σ[i]?=some (some v)) (_:Q v H)
def tC (v:V):TE:=λ _ H Q=>Q v H
theorem uG {i:Nat}{x:Str}{pos:Pos}(k:X.N[i]?=some x)(n:Vis X.env.scope x)(hd:(x == ("__debug__":Str))=false:=by decide)(f:(x == ("__classdict__":Str))=false:=by decide):PE X (.Name x pos) (tVar i):=by
 intro d s o H Q g h;obtain ⟨v,e,h⟩:=h;obtain ⟨m,hn,hl⟩:=g.loc;obtain ⟨u,r,l⟩:=hl i x v k e n;have b:EP X d o Q u s:=⟨v,H,g,r,h⟩;rcases l with ⟨a,hm⟩ | ⟨a,c,j,hcell⟩
 ·exact Bn (jb g.ok.kind a hn hm b) hd
 ·rcases a with a | a
  ·exact Bn (wpAny_loadName_cell g.ok.kind a j hcell b) hd
  ·exact Bn (wpAny_loadName_free g.ok.kind a j hcell b f) hd
theorem Ac {i j pos}:PE X (.Constant (.int i) j pos) (tC (.int i)):=λ _ _ _ H _ a h=>wpAny_Constant_int ⟨.int i,H,a.tok _,⟨_,rfl⟩,h⟩
theorem DW {b j pos}:PE X (.Constant (.bool b) j pos) (tC (.bl b)):=λ _ _ _ H _ a h=>Constant_bool ⟨.bl b,H,a,rfl,h⟩
theorem Ja {j pos}:PE X (.Constant .none j pos) (tC .non):=λ _ _ _ H _ a h=>Constant_none ⟨.non,H,a,rfl,h⟩
theorem Aj {x j pos}:PE X (.Constant (.str x) j pos) (tC (.str x)):=λ _ _ _ H _ a h=>wr ⟨.str x,H,a.tok _,⟨⟨_,XW a.tk1⟩,rfl⟩,h⟩
def Gl (X:Cx)(x:Str):Prop:=X.env.kindOf x=some .globalImplicit
theorem EY {E:Value->X1->Prop}{a:List (Addr×Obj)}{s:X1}{c:St}{H:Hp}{x:Str}{u:Value}{pos:Pos}{Q:Value->X1->Prop}(b:Inv X a c H s)(d:Gl X x)(hm:X.mg x=some u)(h:Q u s)
  (hd:(x == ("__debug__":Str))=false:=by decide):wpAny (model X.prog X.w) X.A (eval (.Name x pos) X.env) Q E s:=
 uS b.ok.kind d (Mj (by rw [b.ok.glob];exact b.mod.glob.keeps b.bk) hm h) hd
theorem JF {E:Value->X1->Prop}{a:List (Addr×Obj)}{s:X1}{c:St}{H:Hp}{x:Str}{u:Value}{pos:Pos}{Q:Value->X1->Prop}(b:Inv X a c H s)(d:Gl X x)(hm:X.mg x=none)(e:UY x=some u)(h:Q u s)
  (hn:x≠"__name__":=by decide) (hd:(x == ("__debug__":Str))=false:=by decide):wpAny (model X.prog X.w) X.A (eval (.Name x pos) X.env) Q E s:=by
 obtain ⟨i,f,g⟩:=b.mod.blt;exact uS b.ok.kind d (Calls.loadGlobal_builtin (by rw [b.ok.glob];exact b.mod.glob.keeps b.bk) hm (by rw [b.ok.blt];exact f.keeps b.bk) ((g x hn).trans e) h) hd
theorem Bb {x:Str}{v:V}{u:Value}{pos:Pos}(a:Gl X x)(hm:X.mg x=some u)(r:RelV v u)(hd:(x == ("__debug__":Str))=false:=by decide):PE X (.Name x pos) (tC v):=
 λ _ _ _ H _ b h=>EY b a hm ⟨v,H,b,r,h⟩ hd
theorem Dq {x:Str}{v:V}{u:Value}{pos:Pos}(a:Gl X x)(hm:X.mg x=none)(b:UY x=some u)(r:RelV v u)(hn:x≠"__name__":=by decide)(hd:(x == ("__debug__":Str))=false:=by decide):PE X (.Name x pos) (tC v):=
 λ _ _ _ H _ c h=>JF c a hm b ⟨v,H,c,r,h⟩ hn hd
variable {a b:Expr}{ta tb:TE}{pos:Pos}
def PC (X:Cx)(g:CmpOp)(a b:Expr)(t:TE):Prop:=
 ∀(c:List (Addr×Obj)) (s:X1) (d:St) (H:Hp) (Q:VK),Inv X c d H s->t d H Q->
  wpAny (model X.prog X.w) X.A (eval a X.env) (λ v e=>wpAny (model X.prog X.w) X.A (eval b X.env) (λ u f=>wpAny (model X.prog X.w) X.A (zk g v u) (EP X c d Q) X.xe f) X.xe e) X.xe s
inductive w6 (Q:Bool->Hp->Prop)(x:V)(H1:Hp):Prop | mk (c:_) (_:x=.bl c) (_:Q c H1)
def tB (t:TE):TT:=λ c H Q=>t c H λ x d=>w6 Q x d
theorem YQ {e:CmpOp}{t:TE}(h:PC X e a b t)(f:uk e b=false:=by first | exact nobehind _ ⋯ ⋯ | rfl):PT X (.Compare a [e] [b] pos) (tB t):=by
 intro g s i H Q o j;refine GE (thn (h g s i H _ o j) λ v p f=>thn f λ u r k=>thn k λ c s3 ⟨x,l,m,r1,n⟩=>?_) f
 obtain ⟨d,rfl,q⟩:=n;cases r1
 exact Qp ⟨l,m,q⟩
theorem Bh {e:Expr}{t:TE}(h:PE X e t)(g:∀c,isTrue e X.env c=(do let v <- c;NL e.pos;Ge [v] (truthy v)):=by intro _;rfl):PT X e (tB t):=by
 intro f s i H Q n j;refine isTrue_plain (thn (h f s i H _ n j) λ v o ⟨x,k,l,r1,m⟩=>?_) (g _)
 obtain ⟨d,rfl,q⟩:=m;cases r1
 exact Qp ⟨k,l,q⟩
variable {tA tB':TT}{rest:List Expr}
def tAnd (t u:TT):TT:=λ d H Q=>t d H λ c e=>if c=true then u d e Q else Q false e
def tOr (t u:TT):TT:=λ d H Q=>t d H λ c e=>if c=true then Q true e else u d e Q
def tNot (t:TT):TT:=λ d H Q=>t d H λ c e=>Q (!c) e
theorem pw_and1 (ha:PT X a tA):PW X (.BoolOp .And [a] pos) tA:=by
 intro g d s f H Q i h;refine isTrue_and (thn (ha d s f H Q i h) λ c j e=>?_)
 cases c with
 | true=>exact isTrue_and_nil e
 | false=>exact e
theorem pw_or1 (ha:PT X a tA):PW X (.BoolOp .Or [a] pos) tA:=by
 intro g d s f H Q i h;refine isTrue_or (thn (ha d s f H Q i h) λ c j e=>?_)
 cases c with
 | false=>exact isTrue_or_nil e
 | true=>exact e
theorem pw_and (ha:PT X a tA)(hb:PW X (.BoolOp .And (b::rest) pos) tB'):PW X (.BoolOp .And (a::b::rest) pos) (tAnd tA tB'):=by
 intro j d s e H Q l h;refine isTrue_and (thn (ha d s e H _ l h) λ c k ⟨f,g,i⟩=>?_)
 cases c with
 | true=>exact hb j d k e f Q g i
 | false=>exact ⟨f,g,i⟩
theorem pw_or (ha:PT X a tA)(hb:PW X (.BoolOp .Or (b::rest) pos) tB'):PW X (.BoolOp .Or (a::b::rest) pos) (tOr tA tB'):=by
 intro j d s e H Q l h;refine isTrue_or (thn (ha d s e H _ l h) λ c k ⟨f,g,i⟩=>?_)
 cases c with
 | true=>exact ⟨f,g,i⟩
 | false=>exact hb j d k e f Q g i
theorem Bt (ha:PT X a tA):PT X (.UnaryOp .Not a pos) (tNot tA):=by
 intro d s e H Q g h;exact isTrue_not (ha d s e H (λ c f=>Q (!c) f) g h)
inductive zf (tb:TE)(σ:St)(Q:VK)(x:V)(H1:Hp):Prop | mk (c:_) (_:x=.bl c) (_:if c=true then tb σ H1 Q else Q (.bl false) H1)
def tAndV (ta tb:TE):TE:=λ c H Q=>ta c H λ x d=>zf tb c Q x d
inductive yU (Q:VK)(x:V)(H1:Hp):Prop | mk (c:_) (_:x=.bl c) (_:Q (.bl (!c)) H1)
def tNotV (ta:TE):TE:=λ c H Q=>ta c H λ x d=>yU Q x d
theorem Fo {op}{t:TE}(h:PE X a t):PE X (.BoolOp op [a] pos) t:=λ c s d H Q f e=>BoolOp_one (h c s d H Q f e)
theorem FJ (ha:PE X a ta)(hb:PE X (.BoolOp .And (b::rest) pos) tb):PE X (.BoolOp .And (a::b::rest) pos) (tAndV ta tb):=by
 intro d s f H Q k h;refine BoolOp_and (thn (ha d s f H _ k h) λ v j ⟨x,g,i,r1,e⟩=>?_)
 obtain ⟨c,rfl,e⟩:=e;cases r1
 refine Qp ?_;cases c with
 | true=>exact hb d j f g Q i e
 | false=>exact ⟨.bl false,g,i,rfl,e⟩
theorem PL (ha:PE X a ta):PE X (.UnaryOp .Not a pos) (tNotV ta):=by
 intro d s f H Q j h;refine UnaryOp_ (thn (ha d s f H _ j h) λ v k ⟨x,g,i,r1,e⟩=>?_)
 obtain ⟨c,rfl,e⟩:=e;cases r1
 exact not_of (Qp ⟨.bl (!c),g,i,rfl,e⟩)
def tIf (t:TT)(ta tb:TE):TE:=λ d H Q=>t d H λ c e=>if c=true then ta d e Q else tb d e Q
theorem Kw {c:Expr}(l:PT X c tA)(ha:PE X a ta)(hb:PE X b tb):PE X (.IfExp c a b pos) (tIf tA ta tb):=by
 intro e s f H Q m h;refine wpAny_IfExp (thn (l e s f H _ m h) λ d g ⟨i,j,k⟩=>?_)
 cases d with
 | true=>exact ha e g f i Q j k
 | false=>exact hb e g f i Q j k
end
def SqL (K:FrG)(H:Hp)(a:Addr)(xs:List V):Prop:=
 Rd H a (.lst xs)\/
  ∃(o:Obj) (b:Array Value) (n:Nat),K.lookup a=some o/\o.cls=.type "list"/\o.dict=none/\o.data=.seq b n/\b.size<=X3/\Vals xs b.toList
def SqT (K:FrG)(H:Hp)(a:Addr)(xs:List V):Prop:=
 Rd H a (.tup xs)\/
  ∃(o:Obj) (b:Array Value) (n:Nat),K.lookup a=some o/\o.cls=.type "tuple"/\o.data=.seq b n/\b.size<=X3/\Vals xs b.toList
def absV:Value->Option V
 | .none=>some .non
 | .bool b=>some (.bl b)
 | .int i _=>some (.int i)
 | .str x _=>some (.str x)
 | .bytes b _=>some (.byt b)
 | .float b _=>some (.flt b)
 | .ref a=>some (.ref a)
 | .type n=>some (.ty n)
 | _=>none
theorem RelV.abs {x:V}{u:Value}(r:RelV x u):absV u=some x:=by
 cases x with
 | non=>cases r;rfl
 | bl _=>cases r;rfl
 | int _=>obtain ⟨t,rfl⟩:=r;rfl
 | str _=>obtain ⟨t,rfl⟩:=r;rfl
 | byt _=>obtain ⟨t,rfl⟩:=r;rfl
 | flt _=>obtain ⟨t,rfl⟩:=r;rfl
 | ref _=>cases r;rfl
 | ty _=>cases r;rfl
theorem RelV.inj {x y:V}{u:Value}(r:RelV x u)(q:RelV y u):x=y:=Ux (r.abs.symm.trans q.abs)
theorem Vals.inj:∀{xs a:List V} {us:List Value},Vals xs us->Vals a us->xs=a
 | _,_,_,.nil,.nil=>rfl
 | _,_,_,.cons r t,.cons b t'=>by rw [r.inj b,Vals.inj t t']
section
variable {X:Cx}{pins:List (Addr×Obj)}{σ:St}{H:Hp}{s:X1}{a:Addr}{xs ys:List V}
theorem SqL.of {K:FrG}(h:H a=some (.lst xs)):SqL K H a xs:=.inl (.inl h)
theorem SqT.of {K:FrG}(h:H a=some (.tup xs)):SqT K H a xs:=.inl (.inl h)
theorem Inv.list (g:Inv X pins σ H s)(h:SqL X.K H a xs):∃b:List Value,Vals xs b/\PlainL s.heap a b.toArray/\xs.length<=X3:=by
 rcases h with h | ⟨o,b,n,c,d,hd,f,i,r⟩
 ·obtain ⟨z,b,n,r,e⟩:=h.ok g.hok;exact ⟨b,r,⟨_,n,e,rfl,rfl,rfl⟩,z⟩
 ·refine ⟨b.toList,r,⟨o,n,g.kIn a o c,d,hd,by simpa using f⟩,?_⟩
  have e:=r.length;simp only [Jx] at e;omega
theorem Inv.tuple (g:Inv X pins σ H s)(h:SqT X.K H a xs):∃b:List Value,Vals xs b/\IsTup s.heap a b.toArray/\xs.length<=X3:=by
 rcases h with h | ⟨o,b,n,c,d,f,i,r⟩
 ·obtain ⟨z,b,r,p⟩:=h.ok g.hok;exact ⟨b,r,p,z⟩
 ·refine ⟨b.toList,r,⟨o,g.kIn a o c,d,n,by simpa using f⟩,?_⟩
  have e:=r.length;simp only [Jx] at e;omega
theorem Inv.list_inj (i:Inv X pins σ H s)(h:SqL X.K H a xs)(h':SqL X.K H a ys):xs=ys:=by
 obtain ⟨b,r,⟨o,n,e,_,_,d⟩,_⟩:=i.list h;obtain ⟨its',f,⟨j,k,c,_,_,d'⟩,_⟩:=i.list h';rw [e] at c;cases c;rw [d] at d'
 injection d' with g _
 have:b=its':=by simpa using congrArg Array.toList g
 subst this;exact r.inj f
theorem Inv.tuple_inj (i:Inv X pins σ H s)(h:SqT X.K H a xs)(h':SqT X.K H a ys):xs=ys:=by
 obtain ⟨b,r,⟨o,e,_,n,d⟩,_⟩:=i.tuple h;obtain ⟨its',f,⟨j,c,_,k,d'⟩,_⟩:=i.tuple h';rw [e] at c;cases c;rw [d] at d'
 injection d' with g _
 have:b=its':=by simpa using congrArg Array.toList g
 subst this;exact r.inj f
end
abbrev Cx.wish (X:Cx)(E:Value->X1->Prop):Cx:={ X with xe:=E }
abbrev Cx.nox (X:Cx):Cx:=X.wish λ _ _=>False
theorem Cx.Ok.wish {X:Cx}(ok:X.Ok)(E:Value->X1->Prop):(X.wish E).Ok:=
 ⟨ok.mod,ok.kind,ok.glob,ok.blt,ok.above,ok.inj,ok.has,ok.cab,ok.hd,ok.frames,ok.stk,ok.exf,ok.bs,ok.bsz,ok.noex,ok.exfs,ok.funs,ok.frf,ok.tb1⟩
theorem Cx.Ok.unwish {X:Cx}{E:Value->X1->Prop}(ok:(X.wish E).Ok):X.Ok:=
 ⟨ok.mod,ok.kind,ok.glob,ok.blt,ok.above,ok.inj,ok.has,ok.cab,ok.hd,ok.frames,ok.stk,ok.exf,ok.bs,ok.bsz,ok.noex,ok.exfs,ok.funs,ok.frf,ok.tb1⟩
section
variable {X:Cx}{pins:List (Addr×Obj)}{σ:St}{H:Hp}{s:X1}{E:Value->X1->Prop}
theorem Inv.wish (a:Inv X pins σ H s)(E:Value->X1->Prop):Inv (X.wish E) pins σ H s:=⟨a.ok.wish E,a.os,a.bare,a.base,a.loc,a.cell,a.free,a.freeC,a.pin,a.hok,a.len,a.tk⟩
theorem Inv.unwish (a:Inv (X.wish E) pins σ H s):Inv X pins σ H s:=⟨a.ok.unwish,a.os,a.bare,a.base,a.loc,a.cell,a.free,a.freeC,a.pin,a.hok,a.len,a.tk⟩
theorem SP.unwish {d:Ends}{f:Flow}{s':X1}(h:SP (X.wish E) pins d f s'):SP X pins d f s':=by
 cases f with
 | next=>obtain ⟨a,b,c,q⟩:=h;exact ⟨a,b,c.unwish,q⟩
 | brk=>obtain ⟨a,b,c,q⟩:=h;exact ⟨a,b,c.unwish,q⟩
 | cont=>obtain ⟨a,b,c,q⟩:=h;exact ⟨a,b,c.unwish,q⟩
 | ret u=>obtain ⟨v,a,b,c,r,q⟩:=h;exact ⟨v,a,b,c.unwish,r,q⟩
theorem PSs.nox {st:List Stmt}{t:TS}(h:PSs X.nox st t):PSs X st t:=λ pins s σ H b c a=>
 Wf (h pins s σ H b (c.wish _) a) (λ _ _ q=>q.unwish) λ _ _ z=>WE z
end
section
variable {X:Cx}{st:Stmt}{rest:List Stmt}{t u:TS}{e:Expr}{te:TE}{pos:Pos}
def tNext:TS:=λ b a H=>b.nx a H
def tSeq (t u:TS):TS:=λ b a H=>t { b with nx:=u b } a H
theorem BJ:PSs X [] tNext:=λ _ _ a H _ b h=>yk ⟨a,H,b,h⟩
theorem Ae (c:PS X st t)(d:PSs X rest u):PSs X (st::rest) (tSeq t u):=by
 intro a s g H i m h;refine UI (thn (c a s g H { i with nx:=u i } m h) λ f j q=>?_)
 cases f with
 | next=>
  obtain ⟨b,k,l,q⟩:=q;exact d a j b k i l q
 | ret v=>exact q
 | brk=>exact q
 | cont=>exact q
theorem Af (b:PS X st t):PSs X [st] t:=by
 intro a s c H d g h;refine UI (thn (b a s c H d g h) λ f i q=>?_)
 cases f with
 | next=>exact yk q
 | ret v=>exact q
 | brk=>exact q
 | cont=>exact q
theorem Inv.quiet {a:List (Addr×Obj)}{b:St}{H:Hp}{s:X1}(c:Inv X a b H s):interactive X.env=false:=by simp [interactive,c.ok.kind]
def tDrop (te:TE):TS:=λ c a H=>te a H λ _ b=>c.nx a b
theorem DG (c:PE X e te)(d:xz e none pos.line X.env=pure false:=by rfl):PS X (.Expr e pos) (tDrop te):=by
 intro a s b H l j h;exact AD (thn (c a s b H _ j h) λ v k ⟨x,f,g,r1,i⟩=>⟨b,f,g,i⟩) j.quiet d
def tRet (te:TE):TS:=λ b a H=>te a H b.rt
theorem Aq (c:PE X e te):PS X (.Return (some e) pos) (tRet te):=by
 intro a s b H k i h;exact Go (thn (c a s b H _ i h) λ v j ⟨x,d,f,r1,g⟩=>⟨x,b,d,f,r1,g⟩)
def tIfS (c:TT)(t u:TS):TS:=λ f a H=>c a H λ b d=>if b=true then t f a d else u f a d
theorem Az {c:Expr}{a b:List Stmt}{i:TT}(n:PT X c i)(ha:PSs X a t)(hb:PSs X b u):PS X (.If c a b pos) (tIfS i t u):=by
 intro f s g H o p h;refine wpAny_If (thn (n f s g H _ p h) λ d j ⟨k,l,m⟩=>?_)
 cases d with
 | true=>exact ha f j g k o l m
 | false=>exact hb f j g k o l m
def tNever:TS:=λ _ _ _=>False
theorem Gv:PS X st tNever:=λ _ _ _ _ _ _ h=>h.elim
theorem Kh {a:List Stmt}:PSs X a tNever:=λ _ _ _ _ _ _ h=>h.elim
end
abbrev TG:=V->St->Hp->(St->Hp->Prop)->Prop
abbrev TGs:=List V->St->Hp->(St->Hp->Prop)->Prop
def PG (X:Cx)(a:Expr)(t:TG):Prop:=
 ∀(b:List (Addr×Obj)) (s:X1) (d:St) (H:Hp) (v:V) (u:Value) (Q:St->Hp->Prop),Inv X b d H s->RelV v u->t v d H Q->
  wpAny (model X.prog X.w) X.A (qo a X.env u) (λ _ s'=>∃c e,Inv X b c e s'/\Q c e) X.xe s
def PGs (X:Cx)(ts:List Expr)(t:TGs):Prop:=
 ∀(a:List (Addr×Obj)) (s:X1) (c:St) (H:Hp) (vs:List V) (us:List Value) (Q:St->Hp->Prop),Inv X a c H s->Vals vs us->t vs c H Q->
  wpAny (model X.prog X.w) X.A (qf ((JI ts X.env).map (·.2)) us) (λ _ s'=>∃b d,Inv X a b d s'/\Q b d) X.xe s
abbrev TSet:=V->V->V->Hp->(Hp->Prop)->Prop
def PSet (X:Cx)(t:TSet):Prop:=
 ∀(a:List (Addr×Obj)) (s:X1) (b:St) (H:Hp) (o i v:V) (c d u:Value) (Q:Hp->Prop),Inv X a b H s->RelV o c->RelV i d->RelV v u->t o i v H Q->
  wpAny (model X.prog X.w) X.A (setItem c d u) (λ _ s'=>∃e,Inv X a b e s'/\Q e) X.xe s
abbrev TIp:=V->V->Hp->VK->Prop
def PIp (X:Cx)(c:MG)(t:TIp):Prop:=
 ∀(a:List (Addr×Obj)) (s:X1) (b:St) (H:Hp) (x y:V) (v u:Value) (Q:VK),Inv X a b H s->RelV x v->RelV y u->t x y H Q->
  wpAny (model X.prog X.w) X.A (inplaceOp c v u) (EP X a b Q) X.xe s
section
variable {X:Cx}{pos:Pos}
def gName (i:Nat):TG:=λ v a H Q=>Q (a.set i (some v)) H
theorem Bv {i:Nat}{x:Str}(a:X.N.Nodup)(hi:X.N[i]?=some x:=by rfl)(b:Loc X.env.scope x:=by first | exact Or.inl rfl | exact Or.inr rfl)(hf:X.fn x=true\/X.env.scope.names.lookup x=some .local:=by first | exact .inl rfl | exact .inr rfl | assumption):PG X (.Name x pos) (gName i):=by
 intro c s e H v u Q f r h;exact NM (Gu f a hi b r (λ s' d=>⟨_,H,d,h⟩) hf)
def gNil:TGs:=λ vs a H Q=>vs=[]/\Q a H
def gCons (t:TG)(u:TGs):TGs:=λ vs b H Q=>∃v r,vs=v::r/\t v b H λ a c=>u r a c Q
theorem Jp:PGs X [] gNil:=by
 intro a s b H vs us Q c r h;obtain ⟨e,h⟩:=h;subst e;cases r
 exact assignInOrder_nil ⟨b,H,c,h⟩
theorem En {e:Expr}{b:List Expr}{t:TG}{u:TGs}(d:PG X e t)(f:PGs X b u)
  (g:(JI (e::b) X.env).map (·.2)=qo e X.env::(JI b X.env).map (·.2):=by rfl):PGs X (e::b) (gCons t u):=by
 intro a s i H vs us Q o r h;obtain ⟨v,p,e1,h⟩:=h;subst e1;cases r with
 | cons r j=>
  rw [g];refine Nn (thn (d a s i H _ _ _ o r h) λ _ k ⟨c,l,m,n⟩=>?_)
  exact f a k c l _ _ Q m j n
inductive gTup (K:FrG)(n:Nat)(t:TGs)(v:V)(σ:St)(H:Hp)(Q:St->Hp->Prop):Prop | mk (a xs:_) (_:v=.ref a) (_:SqT K H a xs) (_:xs.length=n) (_:t xs σ H Q)
theorem Vb {d:List Expr}{k:Nat}{t:TGs}{n:Nat}(l:X.calm=true)(h:PGs X d t)
  (hn:(JI d X.env).length=n:=by rfl) (g:(JI d X.env).findIdx? (·.1)=none:=by rfl):PG X (.Tuple d k pos) (gTup X.K n t):=by
 intro c s i H v u Q m r f;obtain ⟨a,xs,e1,p,hl,f⟩:=f;subst e1;cases r
 obtain ⟨x,j,ht,y⟩:=m.tuple p;refine assign_Tuple_tuple (m.ok.hd l) ht (by simp [hn,<- hl,j.length]) g λ h' q=>?_
 have w:Inv X c i H { s with heap:=h' }:=m.kept (t':=s.toks) λ b o e=>q b o (YP (ZT e)) e
 exact h c _ i H xs _ Q w (by simpa using j) f
def gSub (b c:TE)(t:TSet):TG:=λ v a H Q=>b a H λ o d=>c a d λ i e=>t o i v e λ f=>Q a f
theorem aa {o i:Expr}{e f:TE}{t:TSet}(g:PE X o e)(hi:PE X i f)(j:PSet X t)
  (ha:∀v,qo (.Subscript o i pos) X.env v=(do
   let b <- Ge [v] (eval o X.env)
   let c <- Ge [v,b] (eval i X.env)
   NL pos
   Ge [v,b,c] (setItem b c v)
   release [v,b,c] []):=by intro _;rfl):PG X (.Subscript o i pos) (gSub e f t):=by
 intro a s d H v u Q D r h;rw [ha];refine Y3 (WI (thn (g a s d H _ D h) λ b k ⟨x,l,m,r1,n⟩=>?_))
 refine Y3 (WI (thn (hi a k d l _ m n) λ c p ⟨y,q,w,r2,z⟩=>?_))
 refine Y3 (UO (Y3 (WI (thn (j a p d q x y v b c u _ w r1 r2 r z) λ _ s3 ⟨A,B,C⟩=>?_))))
 exact wpAny_release ⟨d,A,B,C⟩
def tAsg (b:TE)(d:TG):TS:=λ e a H=>b a H λ x c=>d x a c e.nx
theorem Vi {a e:Expr}{c:TE}{p:TG}(f:PE X e c)(g:PG X a p)(i:swapsWithSole [a] e pos.line X.env=pure false:=by rfl)(j:swappedStores [a] e X.env=pure none:=by rfl)
  (k:(JI [a] X.env).map (·.2)=[qo a X.env]:=by rfl):PS X (.Assign [a] e pos) (tAsg c p):=by
 intro b s d H u r h;refine wpAny_Assign_stores (thn (f b s d H _ r h) λ v l ⟨x,m,n,r1,o⟩=>?_) i j
 rw [k];exact thn (g b l d m x v _ n r1 o) λ _ t q=>q
theorem Ax {i:Nat}{x:Str}{e:Expr}{c:TE}{a:Pos}(d:X.N.Nodup)(f:PE X e c)(hi:X.N[i]?=some x:=by rfl)(g:Loc X.env.scope x:=by first | exact Or.inl rfl | exact Or.inr rfl)(j:xz e (some (.Name x a)) pos.line X.env=pure false:=by rfl)(hf:X.fn x=true\/X.env.scope.names.lookup x=some .local:=by first | exact .inl rfl | exact .inr rfl | assumption):
  PS X (.Assign [.Name x a] e pos) (tAsg c (gName i)):=by
 intro b s k H t p h;refine NN (thn (f b s k H _ p h) λ v q ⟨y,l,m,r1,n⟩=>?_) j
 exact Gu m d hi g r1 (λ r o=>⟨_,l,o,n⟩) hf
inductive xJ (i:Nat)(j:Nat)(D:Ends)(σ:St)(vs:List V)(H1:Hp):Prop | mk (v w:_) (_:vs=[v,w]) (_:D.nx ((σ.set i (some v)).set j (some w)) H1)
def tPar (i j:Nat)(b:TA):TS:=λ d a H=>b a H λ vs c=>xJ i j d a vs c
theorem YD {i j:Nat}{x y:Str}{a b:Expr}{n:TA}{k l pt:Pos}{kt k2 pt2}(G:X.calm=true)(r:X.N.Nodup)(hi:X.N[i]?=some x)(I:X.N[j]?=some y)(t:i≠j)
  (u:X.env.scope.names.lookup x=some .local) (z:X.env.scope.names.lookup y=some .local) (ha:PA X [a,b] n)
  (J:swappedStores [.Tuple [.Name x k,.Name y l] kt pt] (.Tuple [a,b] k2 pt2) X.env=pure (some [x,y]))
  (K:swapsWithSole [.Tuple [.Name x k,.Name y l] kt pt] (.Tuple [a,b] k2 pt2) pos.line X.env=pure false:=by rfl):
  PS X (.Assign [.Tuple [.Name x k,.Name y l] kt pt] (.Tuple [a,b] k2 pt2) pos) (tPar i j n):=by
 intro g s B H V T h;rw [exec_Assign_arm];refine Y3 (UO ?_);rw [K];refine Y3 (ZI ?_);rw [if_neg ⋯]
 refine Y3 (Tuple_ (thn (ha _ g s B H _ T h) λ us c ⟨vs,C,L,r1,m⟩=>?_))
 obtain ⟨v,w,e1,m⟩:=m;subst e1;obtain ⟨d,f,rfl,M,D⟩:∃d f,us=[d,f]/\RelV v d/\RelV w f:=by
  cases r1 with
  | cons p q=>
   cases q with
   | cons O P=>
    cases P
    exact ⟨_,_,rfl,p,O⟩
 refine JJ ?_ (by show 2<=X3;decide)
 have Q:Inv X g B C { c with heap:=c.heap.push { cls:=.type "tuple",data:=.seq [d,f].toArray } }:=L.kept (t':=c.toks) λ b o e=>X2 _ e
 rw [J];refine Y3 (ZI ?_);show wpAny (model X.prog X.w) X.A (do rule "assign.swapped-stores";let items <- AE (.ref c.heap.objs.size) 2 none;qf [λ v=>bindName X.env y v,λ v=>bindName X.env x v] items.reverse;pure Flow.next) _ _ _
 refine Y3 (No (Y3 (unpackItems_tuple (items:=#[d,f]) (T.ok.hd G) (IsTup.new c.heap _) λ h' E=>?_)))
 have R:=Q.kept (h':=h') (t':=c.toks) λ b o e=>E b o (YP (ZT e)) e
 show wpAny _ _ (qf [λ v=>bindName X.env y v,λ v=>bindName X.env x v] [f,d] >>= λ _=>pure Flow.next) _ _ _
 refine Y3 (Nn (wpAny_bindName (Gu R r I (.inl z) D (λ U S=>?_) (.inr z))))
 refine Nn (wpAny_bindName (Gu S r hi (.inl u) M (λ s3 F=>assignInOrder_nil (ZI ?_)) (.inr u)))
 rw [List.set_comm _ _ (WU t)] at F;exact ⟨_,C,F,m⟩
inductive tAug (i:Nat)(te:TE)(ti:TIp)(D:Ends)(σ:St)(H:Hp):Prop | mk (x:_) (_:σ[i]?=some (some x)) (_:te σ H λ y H1=>ti x y H1 λ z H2=>D.nx (σ.set i (some z)) H2)
theorem XJ {i:Nat}{x:Str}{e:Expr}{o:TE}{d:MG}{p:TIp}{f:Pos}(C:X.N.Nodup)(hi:X.N[i]?=some x)(g:Loc X.env.scope x)(D:PE X e o)(E:PIp X d p)(hf:X.fn x=true\/X.env.scope.names.lookup x=some .local:=by first | exact .inl rfl | exact .inr rfl | assumption):
  PS X (.AugAssign (.Name x f) d e pos) (tAug i o p):=by
 intro b s q H Q B h;obtain ⟨v,e1,h⟩:=h;obtain ⟨m,hn,hl⟩:=B.loc;have t:Vis X.env.scope x:=by rcases g with k | k;exact .inl k;exact .inr (.inl k)
 obtain ⟨u,r,l⟩:=hl i x v hi e1 t;refine wpAny_AugAssign_Name ?_;have go:wpAny (model X.prog X.w) X.A (eval e X.env) (λ w j=>wpAny (model X.prog X.w) X.A (inplaceOp d u w) (λ r n=>wpAny (model X.prog X.w) X.A (storeName X.env x r) (λ _=>SP X b Q .next) X.xe n) X.xe j) X.xe s:=by
  refine thn (D b s q H _ B h) λ w F ⟨y,G,I,r1,J⟩=>?_
  refine thn (E b F q G v y u w _ I r r1 J) λ z R ⟨S,K,L,r2,M⟩=>?_
  exact Gu L C hi g r2 (λ s3 O=>⟨_,K,O,M⟩) hf
 rcases l with ⟨a,hm⟩ | ⟨a,c,P,hcell⟩
 ·exact jb B.ok.kind a hn hm go
 ·rcases a with a | a
  ·exact wpAny_loadName_cell B.ok.kind a P hcell go
  ·rcases g with k | k
   ·have:X.env.scope.names.lookup x=some .free:=a;rw [k] at this;cases this
   ·have:X.env.scope.names.lookup x=some .free:=a;rw [k] at this;cases this
def ipI (f:Int->Int->Int):TIp:=λ x y H Q=>∃i j,x=.int i/\y=.int j/\Q (.int (f i j)) H
theorem YM:PIp X .Add (ipI λ i j=>i+j):=by
 intro a s b H x y v u Q c r1 r2 h;obtain ⟨i,j,e1,e2,q⟩:=h;subst e1;subst e2;obtain ⟨t,rfl⟩:=r1;obtain ⟨t',rfl⟩:=r2;exact iadd_int ⟨.int _,H,c.tok _,⟨_,rfl⟩,q⟩
end
section
variable {X:Cx}{pos:Pos}
def tWhile (c:TT)(tb:TS):TS:=λ h a H=>∃i:Nat->St->Hp->Prop,(∃m,i m a H)/\∀m a H,i m a H->
 c a H λ b e=>if b=true then ∃N:St->Hp->Prop,(∀d f,N d f->∃g,g < m/\i g d f)/\tb { h with nx:=N,ct:=N,bk:=h.nx } a e else h.nx a e
theorem Mv {c:Expr}{g:List Stmt}{r:TT}{tb:TS}(t:UQ (model X.prog X.w) X.A X.env X.xe)(C:PT X c r)(hb:PSs X g tb):PS X (.While c g [] pos) (tWhile r tb):=by
 intro d s D H O L h;obtain ⟨M,⟨E,F⟩,turn⟩:=h;refine wpAny_While (codeAny_whileLoop (λ n s'=>∃l u,Inv X d l u s'/\M n l u) ?_ E ⟨D,H,L,F⟩)
 rintro n G ⟨e,x,I,J⟩
 refine xA t (thn (C d G e x _ I (turn n e x J)) λ b K ⟨y,z,j⟩=>?_)
 cases b with
 | true=>
  obtain ⟨N,B,j⟩:=j;rw [if_pos rfl];refine xA t (thn (hb d K e y _ z j) λ f s3 k=>?_)
  cases f with
  | next=>
   obtain ⟨a,i,m,o⟩:=k;obtain ⟨p,hm,q⟩:=B a i o;exact ⟨p,hm,a,i,m,q⟩
  | cont=>
   obtain ⟨a,i,m,o⟩:=k;obtain ⟨p,hm,q⟩:=B a i o;exact ⟨p,hm,a,i,m,q⟩
  | brk=>exact k
  | ret v=>exact k
 | false=>
  rw [if_neg ZL];exact yk ⟨e,y,z,j⟩
end
structure It where
 go:Nat->Hp->Prop
 yld:Nat->Hp->V->Hp->Prop
 stop:Nat->Hp->Prop
def FpOk (X:Cx)(a:List (Addr×Obj))(H:Hp)(b:Addr):Prop:=
 H b=none/\b≠X.env.locals/\b∉X.fs/\(b∈X.ex\/X.s₀.heap.objs.size<=b)/\(∀x c,X.env.cells.lookup x=some c->c≠b)/\∀p∈X.pn++a,p.1≠b
theorem Inv.fpOk {X:Cx}{a:List (Addr×Obj)}{g:St}{H d:Hp}{s:X1}{b:Addr}(f:Inv X a g H s)(hb:s.heap.objs.size<=b)(hn:d b=none):FpOk X a d b:=by
 refine ⟨hn,XW (Zu f.lt hb),f.nofs hb,.inr (W8 f.sz hb),λ x c e z=>?_,λ p h z=>?_⟩
 ·obtain ⟨v,q⟩:=f.cell x c e;exact absurd (Zu q.lt (by rw [z];exact hb)) (yB _)
 ·exact absurd (Zu (ZT (f.pin p h).1) (by rw [z];exact hb)) (yB _)
structure Turn (P:ZU)(w:World)(K:FrG)(tg:Expr)(J:It)(fp:List Addr)(it:Addr)(tn:Nat->Heap->Prop):Prop where
 mem:it∈fp
 obj:∀i h,tn i h->∀b∈fp,∃o,h.get? b=some o/\∀v,o.data≠.cell v
 keep:∀i h h',tn i h->(∀b∈fp,∀o,h.get? b=some o->h'.get? b=some o)->tn i h'
 item:∀(X:Cx),X.prog=P->X.w=w->X.K=K->X.calm=true->∀(i:Nat) (pins:List (Addr×Obj)) (s:X1) (σ:St) (H:Hp) (E:Value->X1->Prop),Inv X pins σ H s->(∀b∈fp,FpOk X pins H b)->tn i s.heap->J.go i H->
  wpAny (model P w) X.A (GM (.ref it)) (λ r s1=>∃u,r=some u/\
   wpAny (model P w) X.A (xB tg (.ref it) u) (λ _ s2=>∃x H',Inv X pins σ H' s2/\RelV x u/\J.yld i H x H'/\tn (i+1) s2.heap/\∀b∈fp,H' b=none) E s1) E s
 done:∀(X:Cx),X.prog=P->X.w=w->X.K=K->X.calm=true->∀(i:Nat) (pins:List (Addr×Obj)) (s:X1) (σ:St) (H:Hp) (E:Value->X1->Prop),Inv X pins σ H s->(∀b∈fp,FpOk X pins H b)->tn i s.heap->J.stop i H->
  wpAny (model P w) X.A (GM (.ref it)) (λ r s1=>r=none/\Inv X pins σ H s1) E s
 self:∀(A:XA) (i:Nat) (s:X1) (Q:Value->X1->Prop) (E:Value->X1->Prop),tn i s.heap->Q (.ref it) s->wpAny (model P w) A (pyIter (.ref it)) Q E s
abbrev TI:=St->Hp->(It->Hp->Prop)->Prop
def PIE (X:Cx)(a:List (Addr×Obj))(h:St)(i:Expr)(k:It->Hp->Prop)(d:Value)(e:X1):Prop:=
 ∃(it:Addr) (f:List Addr) (g:Nat->Heap->Prop) (j:It) (c:Hp),d=.ref it/\Inv X a h c e/\Turn X.prog X.w X.K i j f it g/\g 0 e.heap/\(∀b∈f,FpOk X a c b)/\k j c
def PI (X:Cx)(c iter:Expr)(d:TI):Prop:=
 ∀(a:List (Addr×Obj)) (s:X1) (b:St) (H:Hp) (f:It->Hp->Prop),Inv X a b H s->d b H f->
  wpAny (model X.prog X.w) X.A (eval iter X.env) (λ v e=>wpAny (model X.prog X.w) X.A (pyIter v) (PIE X a b c f) X.xe e) X.xe s
theorem UJ {M:Model}{A:XA}{E:Value->X1->Prop}{s:X1}{b:Expr}{it:Addr}{u:Value}{o:Obj}{n:String}{vs:Array Value}{Q:Unit->X1->Prop}(c:s.heap.get? it=some o)(d:o.cls=.type n)(hd:o.data=.fields vs)
  (hn:["enumerate","zip","dict_itemiterator","dict_reverseitemiterator","odict_iterator","itertools.zip_longest","itertools.pairwise"].contains n=false) (a:Q () s):wpAny M A (xB b (.ref it) u) Q E s:=by
 unfold xB;cases b<;>first
  | exact ZI a
  | (cases u<;>first
    | exact ZI a
    | (refine Y3 (wpAny_load c ?_);rw [d,hd];show wpAny M A (if (["enumerate","zip","dict_itemiterator","dict_reverseitemiterator","odict_iterator","itertools.zip_longest","itertools.pairwise"].contains n && vs[0]? == some (je _))=true then _ else _) Q E s;rw [if_neg (by intro h;rw [hn,wi] at h;cases h)];exact ZI a))
def Itl (K:FrG)(a:Addr):It:=
 ⟨λ i H=>∃xs x,SqL K H a xs/\xs[i]?=some x,λ i H x b=>b=H/\∀xs,SqL K H a xs->xs[i]?=some x,λ i H=>∃xs,SqL K H a xs/\xs.length<=i⟩
def Itt (K:FrG)(a:Addr):It:=
 ⟨λ i H=>∃xs x,SqT K H a xs/\xs[i]?=some x,λ i H x b=>b=H/\∀xs,SqT K H a xs->xs[i]?=some x,λ i H=>∃xs,SqT K H a xs/\xs.length<=i⟩
def Itr (lo:Int)(n:Nat):It:=⟨λ i _=>i < n,λ i H x a=>a=H/\x=.int (lo+i),λ i _=>n<=i⟩
theorem jr {P:ZU}{w:World}{K:FrG}{L:Expr}(a it:Addr):Turn P w K L (Itl K a) [it] it (λ i h=>h.IsListIter it a i) where
 mem:=by simp
 obj:=λ i h st b hb=>by
  have e:b=it:=by simpa using hb
  subst e;obtain ⟨o,e,c,d⟩:=st;exact ⟨o,e,λ v z=>by rw [d] at z;cases z⟩
 keep:=λ i h h' st k=>st.at λ o e=>k it (by simp) o e
 item:=by
  intro X l m n G i f s I H E q hf st r;subst l m n;obtain ⟨xs,x,g,t⟩:=r;obtain ⟨J,y,p,M⟩:=q.list g;obtain ⟨u,N,O⟩:=y.get t;obtain ⟨A,B,Q,C,D,F⟩:=hf it (by simp)
  refine wpAny_pyNext_list_item st p.isList (x:=u) (by simpa using N) λ h' j R=>?_
  have S:Inv X f I H { s with heap:=h' }:=q.turned (t':=s.toks) (λ b o hb e=>(R.2 b hb).trans e) A B C D F
  obtain ⟨o,e,c,d⟩:=id j;exact ⟨u,rfl,UJ (s:={ s with heap:=h' }) e c d ⋯ ⟨x,H,S,O,⟨rfl,λ V T=>by rw [q.list_inj T g];exact t⟩,j,λ b hb=>(hf b hb).1⟩⟩
 done:=by
  intro X l m n G i f s I H E q hf st r;subst l m n;obtain ⟨xs,g,t⟩:=r;obtain ⟨J,y,p,M⟩:=q.list g;obtain ⟨A,B,Q,C,D,F⟩:=hf it (by simp)
  have hl:=y.length;exact wpAny_pyNext_list_end (q.ok.hd G) st p.isList (by simp;omega) λ h' U=>⟨rfl,q.turned (t':=s.toks) (λ b o hb e=>U b o hb e) A B C D F⟩
 self:=λ _ _ _ _ _ st h=>wpAny_pyIter_listiter st h
theorem AP0 {P:ZU}{w:World}{K:FrG}{L:Expr}(a it:Addr):Turn P w K L (Itt K a) [it] it (λ i h=>h.IsTupleIter it a i) where
 mem:=by simp
 obj:=λ i h st b hb=>by
  have e:b=it:=by simpa using hb
  subst e;obtain ⟨o,e,c,d⟩:=st;exact ⟨o,e,λ v z=>by rw [d] at z;cases z⟩
 keep:=λ i h h' st k=>st.at λ o e=>k it (by simp) o e
 item:=by
  intro X m n q I i f s J H E r hf st t;subst m n q;obtain ⟨xs,x,j,y⟩:=t;obtain ⟨g,A,p,M⟩:=r.tuple j;obtain ⟨u,N,O⟩:=A.get y;obtain ⟨B,C,Q,D,F,G⟩:=hf it (by simp)
  refine wpAny_pyNext_tuple_item st (show s.heap.IsTuple a g.toArray from p) (x:=u) (by simpa using N) λ h' l R=>?_
  have S:Inv X f J H { s with heap:=h' }:=r.turned (t':=s.toks) (λ b o hb e=>(R.2 b hb).trans e) B C D F G
  obtain ⟨o,e,c,d⟩:=id l;exact ⟨u,rfl,UJ (s:={ s with heap:=h' }) e c d ⋯ ⟨x,H,S,O,⟨rfl,λ V T=>by rw [r.tuple_inj T j];exact y⟩,l,λ b hb=>(hf b hb).1⟩⟩
 done:=by
  intro X m n q I i f s J H E r hf st t;subst m n q;obtain ⟨xs,j,y⟩:=t;obtain ⟨g,A,p,M⟩:=r.tuple j;obtain ⟨B,C,Q,D,F,G⟩:=hf it (by simp)
  have hl:=A.length;exact wpAny_pyNext_tuple_end (r.ok.hd I) st (show s.heap.IsTuple a g.toArray from p) (by simp;omega) λ h' U=>⟨rfl,r.turned (t':=s.toks) (λ b o hb e=>U b o hb e) B C D F G⟩
 self:=λ _ _ _ _ _ st h=>wpAny_pyIter_tupleiter st h
theorem uK {P:ZU}{w:World}{K:FrG}{A:Expr}(it:Addr)(lo:Int)(n:Nat):Turn P w K A (Itr lo n) [it] it (λ i h=>IsRangeIter h it (lo+(i:Nat) * 1) ((n:Int) - (i:Nat)) 1) where
 mem:=by simp
 obj:=λ i h st b hb=>by
  have e:b=it:=by simpa using hb
  subst e;exact ⟨_,st,λ v z=>by
   have B:Data.fields _=Data.cell v:=z;cases B⟩
 keep:=λ i h h' st k=>k it (by simp) _ st
 item:=by
  intro X d f g j i a s y H E x hf st l;subst d f g;obtain ⟨m,p,C,q,r,u⟩:=hf it (by simp)
  have L:=Walks.range (prog:=X.prog) (w:=X.w) (x.ok.hd j) it lo 1 n;refine yl x.tk (L.item i s _ _ l st λ v h' tk D c F J=>?_)
  obtain ⟨t,rfl⟩:=D;have G:Inv X a y H { s with heap:=h',toks:=tk }:=x.turned (λ b o hb e=>F b o (by simpa using hb) e) m p q r u
  refine ⟨_,rfl,UJ (s:={ s with heap:=h',toks:=tk }) (n:="range_iterator") c rfl rfl ⋯ ⟨.int (lo+i),H,G,⟨t,?_⟩,⟨rfl,rfl⟩,c,λ b hb=>(hf b hb).1⟩⟩
  rw [Int.mul_one]
 done:=by
  intro X d f g j i a s y H E x hf st l;subst d f g;obtain ⟨m,p,C,q,r,u⟩:=hf it (by simp)
  exact wpAny_pyNext_range_end (x.ok.hd j) st (by have:n<=i:=l;omega) λ h' I=>⟨rfl,x.turned (t':=s.toks) (λ b o hb e=>I b o hb e) m p q r u⟩
 self:=λ _ _ _ _ _ st h=>wpAny_pyIter_rangeiter st h
section
variable {X:Cx}{tg:Expr}
inductive zu (K:FrG)(R:It->Hp->Prop)(x:V)(H1:Hp):Prop | mk (a:_) (_:x=.ref a) (_:(∃xs,SqL K H1 a xs)) (_:R (Itl K a) H1)
def iList (K:FrG)(a:TE):TI:=λ b H d=>a b H λ x c=>zu K d x c
inductive yd (K:FrG)(R:It->Hp->Prop)(x:V)(H1:Hp):Prop | mk (a:_) (_:x=.ref a) (_:(∃xs,SqT K H1 a xs)) (_:R (Itt K a) H1)
def iTup (K:FrG)(a:TE):TI:=λ b H d=>a b H λ x c=>yd K d x c
theorem Ej {l:Expr}{g:TE}(hl:PE X l g):PI X tg l (iList X.K g):=by
 intro f s i H w r h;refine thn (hl f s i H _ r h) λ v c ⟨x,j,d,r1,k⟩=>?_
 obtain ⟨a,e,⟨xs,m⟩,q⟩:=k;subst e;cases r1
 obtain ⟨n,t,p,u⟩:=d.list m;refine uo p.isList ?_;refine ⟨c.heap.objs.size,[c.heap.objs.size],_,_,j,rfl,d.kept (t':=c.toks) λ b o e=>X2 _ e,jr a _,⟨_,YI _ rfl,rfl,rfl⟩,λ b hb=>?_,q⟩
 have e:b=c.heap.objs.size:=by simpa using hb
 subst e;exact d.fpOk (ZE _) (d.hok.fresh (ZE _))
theorem Q7 {l:Expr}{g:TE}(hl:PE X l g):PI X tg l (iTup X.K g):=by
 intro f s j H w r h;refine thn (hl f s j H _ r h) λ v c ⟨x,k,d,r1,m⟩=>?_
 obtain ⟨a,e,⟨xs,n⟩,q⟩:=m;subst e;cases r1
 obtain ⟨i,t,p,u⟩:=d.tuple n;refine wpAny_pyIter_tuple (show c.heap.IsTuple a i.toArray from p) ?_
 refine ⟨c.heap.objs.size,[c.heap.objs.size],_,_,k,rfl,d.kept (t':=c.toks) λ b o e=>X2 _ e,AP0 a _,⟨_,YI _ rfl,rfl,rfl⟩,λ b hb=>?_,q⟩
 have e:b=c.heap.objs.size:=by simpa using hb
 subst e;exact d.fpOk (ZE _) (d.hok.fresh (ZE _))
theorem qg {a:List (Addr×Obj)}{c:St}{H:Hp}{s:X1}{j:It->Hp->Prop}{E:Value->X1->Prop}{lo hi:Int}{t u v:Tok}{tk:Nat}(l:Inv X a c H s)(f:-(2 ^ 62)<=lo)(g:lo < 2 ^ 62)(h:-(2 ^ 62)<=hi)(i:hi < 2 ^ 62)(k:X.tb<=tk)
  (q:j (Itr lo (hi - lo).toNat) H):wpAny (model X.prog X.w) X.A (pyIter (.ref s.heap.objs.size)) (PIE X a c tg j) E { s with heap:=s.heap.push { cls:=.type "range",data:=.fields #[.int lo t,.int hi u,.int 1 v] },toks:=tk }:=by
 refine wpAny_pyIter_range (IsRange.new ..) (small_one f g h i) ?_;have d:Inv X a c H { s with heap:=s.heap.push { cls:=.type "range",data:=.fields #[.int lo t,.int hi u,.int 1 v] },toks:=tk }:=l.kept λ b o e=>X2 _ e
 refine ⟨(s.heap.push { cls:=.type "range",data:=.fields #[.int lo t,.int hi u,.int 1 v] }).objs.size,[(s.heap.push { cls:=.type "range",data:=.fields #[.int lo t,.int hi u,.int 1 v] }).objs.size],_,_,H,rfl,
  d.kept (t':=tk) λ b o e=>X2 _ e,uK _ lo (hi - lo).toNat,?_,λ b hb=>?_,q⟩
 ·have e1:lo+((0:Nat):Int) * 1=lo:=by simp
  have e2:(((hi - lo).toNat:Nat):Int) - ((0:Nat):Int)=XI.Range.rangeSize lo hi 1:=by rw [rangeSize_one];split<;>omega
  show IsRangeIter _ _ (lo+((0:Nat):Int) * 1) ((((hi - lo).toNat:Nat):Int) - ((0:Nat):Int)) 1;rw [e1,e2];exact YI _ rfl
 ·have e:b=(s.heap.push { cls:=.type "range",data:=.fields #[.int lo t,.int hi u,.int 1 v] }).objs.size:=by simpa using hb
  subst e;exact d.fpOk (ZE _) (d.hok.fresh (ZE _))
inductive v7 (R:It->Hp->Prop)(vs:List V)(H1:Hp):Prop | mk (j:Int) (_:vs=[.int j]) (_:-(2 ^ 62)<=j) (_:j < 2 ^ 62) (_:R (Itr 0 j.toNat) H1)
def iRng1 (a:TA):TI:=λ b H d=>a b H λ vs c=>v7 d vs c
theorem JN {a:Expr}{f:TA}{p pos:Pos}(g:Gl X "range")(hm:X.mg "range"=none)(ha:PA X [a] f)(i:YE [a] X.env=[(false,eval a X.env)]:=by rfl):PI X tg (.Call (.Name "range" p) [a] [] pos) (iRng1 f):=by
 intro c s k H v n h;refine Call_ (JF n g hm boot_range (yv (thn (ha pos c s k H _ n h) λ us o ⟨vs,u,b,r1,d⟩=>?_) i rfl))
 obtain ⟨j,e,d,l,q⟩:=d;subst e;cases r1 with
 | cons r m=>
  cases m
  obtain ⟨t,rfl⟩:=r;exact call_range_1 (qg b ∅ ∅ d l (by first | exact b.tk | exact Xh b.tk | (have:=b.tk;omega)) (by simpa using q))
def tFor (f:TI)(n:TG)(tb:TS):TS:=λ g a H=>f a H λ h j=>∃k:Nat->Nat->St->Hp->Prop,(∃m,k 0 m a j)/\∀i m a H,k i m a H->
 (h.stop i H/\g.nx a H)\/(h.go i H/\∃N:St->Hp->Prop,(∀c b,N c b->∃d,d < m/\k (i+1) d c b)/\∀x b,h.yld i H x b->n x a b λ e l=>tb { g with nx:=N,ct:=N,bk:=g.nx } e l)
def pinsAt (a:List Addr)(h:Heap):List (Addr×Obj):=a.filterMap λ b=>(h.get? b).map λ o=>(b,o)
theorem JP {a:List Addr}{h:Heap}{b:Addr}{o:Obj}(hb:b∈a)(e:h.get? b=some o):(b,o)∈pinsAt a h:=wt.mpr ⟨b,hb,by rw [e];rfl⟩
theorem jk {a:List Addr}{h:Heap}{p:Addr×Obj}(c:p∈pinsAt a h):p.1∈a/\h.get? p.1=some p.2:=by
 obtain ⟨b,hb,e⟩:=wt.mp c;cases q:h.get? b with
 | none=>rw [q] at e;cases e
 | some o=>
  rw [q] at e;have d:(b,o)=p:=Ux e;subst d;exact ⟨hb,q⟩
theorem Inv.pinned {a:List (Addr×Obj)}{f:St}{H:Hp}{s:X1}{c:List Addr}(m:Inv X a f H s)(hf:∀b∈c,FpOk X a H b)(h:∀b∈c,∃o,s.heap.get? b=some o/\∀v,o.data≠.cell v):Inv X (a++pinsAt c s.heap) f H s:=
 m.pins_of λ p i=>(XE.mp i).elim (λ z=>m.pin p (Ya _ z)) λ z=>by
  obtain ⟨hb,e⟩:=jk z;obtain ⟨j,k,l,_⟩:=hf p.1 hb;obtain ⟨o,g,d⟩:=h p.1 hb;rw [e] at g;cases g;exact ⟨e,j,k,l,d⟩
theorem Inv.unpinned {a pl:List (Addr×Obj)}{b:St}{H:Hp}{s:X1}(d:Inv X (a++pl) b H s):Inv X a b H s:=d.pins_of λ p c=>d.pin p (Ya _ (QO _ c))
theorem Dk {iter:Expr}{y:List Stmt}{K:TI}{c4:TG}{tb:TS}{pos:Pos}(z:UQ (model X.prog X.w) X.A X.env X.xe)(L:X.calm=true)(hi:PI X tg iter K)(Z:PG X tg c4)(hb:PSs X y tb)
  (a0:∀x,Qq iter X.env x=pure x:=by intro _;rfl):PS X (.For tg iter y [] pos) (tFor K c4 tb):=by
 intro c s M H d0 c7 h;refine wpAny_For (thn (hi c s M H _ c7 h) λ v c8 a1=>thn a1 λ c5 c9 a2=>?_) a0
 obtain ⟨it,B,O,d1,a3,e,a4,T,P,Q,c6,⟨a5,a6⟩,turn⟩:=a2;subst e;have t:∀{k:Hp},(∀b∈B,k b=none)->∀b∈B,FpOk X c k b:=λ hn b hb=>⟨hn b hb,(Q b hb).2⟩
 refine codeAny_forLoop_any (λ n s'=>∃i l k,Inv X c l k s'/\O i s'.heap/\(∀b∈B,k b=none)/\c6 i n l k) ?_ a5 ⟨0,M,a3,a4,P,λ b hb=>(Q b hb).1,a6⟩
 rintro n s3 ⟨i,p,E,R,F,G,a7⟩
 rcases turn i n p E a7 with ⟨stop,a8⟩ | ⟨go,N,a9,step⟩
 ·refine xA z (thn (T.done X rfl rfl rfl L i c s3 p E X.xe R (t G) F stop) λ r b0 ⟨I,b1⟩=>?_)
  subst I;exact yk ⟨p,E,b1,a8⟩
 ·refine xA z (thn (T.item X rfl rfl rfl L i c s3 p E X.xe R (t G) F go) λ r b0 ⟨u,I,b2⟩=>?_)
  subst I;refine xA z (thn b2 λ _ S ⟨x,U,b3,b4,b5,C,V⟩=>?_)
  have W:=b3.pinned (t V) (T.obj _ _ C);refine xA z (thn (Z _ S p U x u _ W b4 (step x U b5)) λ _ b6 ⟨Y,b7,b8,b9⟩=>?_)
  refine xA z (thn (hb _ b6 Y b7 _ b8 b9) λ f J q=>?_)
  have again:∀{a:St} {g:Hp},Inv X (c++pinsAt B S.heap) a g J->N a g->∃m,m < n/\∃i l k,Inv X c l k J/\O i J.heap/\(∀b∈B,k b=none)/\c6 i m l k:=λ {a g} j D=>by
   obtain ⟨c0,hm,c1⟩:=a9 a g D;refine ⟨c0,hm,i+1,a,g,j.unpinned,T.keep _ _ _ C λ b hb o e=>(j.pin (b,o) (Ya _ (Ya _ (JP hb e)))).1,λ b hb=>?_,c1⟩
   obtain ⟨o,e,d⟩:=T.obj _ _ C b hb;exact (j.pin (b,o) (Ya _ (Ya _ (JP hb e)))).2.1
  cases f with
  | next=>obtain ⟨a,g,j,D⟩:=q;exact again j D
  | cont=>obtain ⟨a,g,j,D⟩:=q;exact again j D
  | brk=>obtain ⟨a,g,j,q⟩:=q;exact ⟨a,g,j.unpinned,q⟩
  | ret v=>obtain ⟨c2,a,g,j,c3,q⟩:=q;exact ⟨c2,a,g,j.unpinned,c3,q⟩
end
theorem Fx {K:FrG}{a:Addr}{xs:List V}{t:TG}{tb:TS}{k:Ends}{b:St}{H:Hp}(c:Nat->St->Hp->Prop)(n:c 0 b H)(hl:∀i b H,i<=xs.length->c i b H->SqL K H a xs)
  (o:∀i x b H,xs[i]?=some x->c i b H->t x b H λ f j=>tb { k with nx:=c (i+1),ct:=c (i+1),bk:=k.nx } f j) (hd:∀b H,c xs.length b H->k.nx b H):
  ∃r:Nat->Nat->St->Hp->Prop,(∃m,r 0 m b H)/\∀i m b H,r i m b H->
   ((Itl K a).stop i H/\k.nx b H)\/((Itl K a).go i H/\∃N:St->Hp->Prop,(∀g d,N g d->∃l,l < m/\r (i+1) l g d)/\∀x d,(Itl K a).yld i H x d->t x b d λ f j=>tb { k with nx:=N,ct:=N,bk:=k.nx } f j):=by
 refine ⟨λ i m b H=>m=xs.length - i/\i<=xs.length/\c i b H,⟨xs.length,by simp,Qi _,n⟩,?_⟩
 rintro i m b H ⟨rfl,hi,p⟩
 have q:=hl i b H hi p;by_cases h:i < xs.length
 ·refine .inr ⟨⟨xs,xs[i],q,by simp [h]⟩,c (i+1),λ g d s=>⟨xs.length - (i+1),by omega,rfl,h,s⟩,λ x d y=>?_⟩
  obtain ⟨e,y⟩:=y;subst e;exact o i x b _ (y xs q) p
 ·have e:i=xs.length:=by omega
  subst e;exact .inl ⟨⟨xs,q,ZE _⟩,hd b H p⟩
theorem Ke {lo:Int}{n:Nat}{s:TG}{tb:TS}{j:Ends}{a:St}{H:Hp}(b:Nat->St->Hp->Prop)(l:b 0 a H)
  (o:∀i a H,i < n->b i a H->s (.int (lo+i)) a H λ d h=>tb { j with nx:=b (i+1),ct:=b (i+1),bk:=j.nx } d h) (hd:∀a H,b n a H->j.nx a H):
  ∃q:Nat->Nat->St->Hp->Prop,(∃m,q 0 m a H)/\∀i m a H,q i m a H->
   ((Itr lo n).stop i H/\j.nx a H)\/((Itr lo n).go i H/\∃N:St->Hp->Prop,(∀f c,N f c->∃k,k < m/\q (i+1) k f c)/\∀x c,(Itr lo n).yld i H x c->s x a c λ d h=>tb { j with nx:=N,ct:=N,bk:=j.nx } d h):=by
 refine ⟨λ i m a H=>m=n - i/\i<=n/\b i a H,⟨n,by simp,Qi _,l⟩,?_⟩
 rintro i m a H ⟨rfl,hi,p⟩
 by_cases g:i < n
 ·refine .inr ⟨g,b (i+1),λ f c r=>⟨n - (i+1),by omega,rfl,g,r⟩,λ x c y=>?_⟩
  obtain ⟨e,y⟩:=y;subst e y;exact o i a _ g p
 ·have e:i=n:=by omega
  subst e;exact .inl ⟨ZE _,hd a H p⟩
abbrev R2:=V->V->Hp->VK->Prop
def OpR (X:Cx)(f:Value->Value->Sem Value)(r:R2):Prop:=
 ∀(a:List (Addr×Obj)) (s:X1) (b:St) (H:Hp) (x y:V) (v u:Value) (Q:VK),Inv X a b H s->RelV x v->RelV y u->r x y H Q->
  wpAny (model X.prog X.w) X.A (f v u) (EP X a b Q) X.xe s
def UnR (X:Cx)(f:Value->Sem Value)(r:V->Hp->VK->Prop):Prop:=
 ∀(a:List (Addr×Obj)) (s:X1) (b:St) (H:Hp) (x:V) (v:Value) (Q:VK),Inv X a b H s->RelV x v->r x H Q->
  wpAny (model X.prog X.w) X.A (f v) (EP X a b Q) X.xe s
def CallR (X:Cx)(f:Value)(r:List V->Hp->VK->Prop):Prop:=
 ∀(a:List (Addr×Obj)) (s:X1) (b:St) (H:Hp) (xs:List V) (us:List Value) (Q:VK),Inv X a b H s->Vals xs us->r xs H Q->
  wpAny (model X.prog X.w) X.A (call f us) (EP X a b Q) X.xe s
def tOp (r:R2)(b tb:TE):TE:=λ a H Q=>b a H λ x c=>tb a c λ y d=>r x y d Q
def tUn (r:V->Hp->VK->Prop)(a:TE):TE:=λ b H Q=>a b H λ x c=>r x c Q
inductive rI (C:Int->Int->Prop)(g:Int->Int->V)(x:V)(y:V)(H:Hp)(Q:VK):Prop | mk (i j:_) (_:x=.int i) (_:y=.int j) (_:C i j) (_:Q (g i j) H)
inductive rI0 (g:Int->Int->V)(x:V)(y:V)(H:Hp)(Q:VK):Prop | mk (i j:_) (_:x=.int i) (_:y=.int j) (_:Q (g i j) H)
inductive rU (g:Int->V)(x:V)(H:Hp)(Q:VK):Prop | mk (i:_) (_:x=.int i) (_:Q (g i) H)
section
variable {X:Cx}{a b c:Expr}{ta tb tc:TE}{pos:Pos}
theorem binT (ha:PE X a ta)(hb:PE X b tb){d:List (Addr×Obj)}{s:X1}{e:St}{H:Hp}{r:V->V->Hp->Prop}(t:Inv X d e H s)
  (h:ta e H λ x j=>tb e j λ y g=>r x y g) {Q:Value->X1->Prop} {f:Value->Value->Sem Value}
  (hf:∀v u i x y g,Inv X d e g i->RelV x v->RelV y u->r x y g->wpAny (model X.prog X.w) X.A (f v u) Q X.xe i):
  wpAny (model X.prog X.w) X.A (eval a X.env) (λ v k=>wpAny (model X.prog X.w) X.A (eval b X.env) (λ u l=>wpAny (model X.prog X.w) X.A (f v u) Q X.xe l) X.xe k) X.xe s:=by
 refine thn (ha d s e H _ t h) λ v m ⟨x,j,n,r1,o⟩=>?_
 refine thn (hb d m e j _ n o) λ u i ⟨y,g,p,r2,q⟩=>?_
 exact hf v u i x y g p r1 r2 q
theorem Ao {e:MG}{r:R2}(f:OpR X (xk e) r)(ha:PE X a ta)(hb:PE X b tb):PE X (.BinOp a e b pos) (tOp r ta tb):=by
 intro d s g H Q n h;exact AF (binT ha hb n h λ v u i x y j k l m q=>f d i g j x y v u Q k l m q)
theorem wO {e:UnaryOp}{r:V->Hp->VK->Prop}(g:UnR X (unaryOp e) r)(ha:PE X a ta):PE X (.UnaryOp e a pos) (tUn r ta):=by
 intro d s f H Q m h;exact UnaryOp_ (thn (ha d s f H _ m h) λ v i ⟨x,j,k,r1,l⟩=>g d i f j x v Q k r1 l)
theorem opI {f:Value->Value->Sem Value}{C:Int->Int->Prop}{d:Int->Int->Int}
  (rule:∀(i j:Int) (t u:Tok) (s:X1) (Q:Value->X1->Prop) (E:Value->X1->Prop),C i j->Q (.int (d i j) s.toks) { s with toks:=s.toks+1 }->wpAny (model X.prog X.w) X.A (f (.int i t) (.int j u)) Q E s):
  OpR X f (rI C λ i j=>.int (d i j)):=by
 intro e s m H x y v u Q n g k h;obtain ⟨i,j,rfl,rfl,l,q⟩:=h;obtain ⟨t,rfl⟩:=g;obtain ⟨t',rfl⟩:=k;exact rule i j t t' s _ _ l ⟨.int (d i j),H,n.tok _,⟨_,rfl⟩,q⟩
theorem opI0 {f:Value->Value->Sem Value}{d:Int->Int->Int}
  (rule:∀(i j:Int) (t u:Tok) (s:X1) (Q:Value->X1->Prop) (E:Value->X1->Prop),Q (.int (d i j) s.toks) { s with toks:=s.toks+1 }->wpAny (model X.prog X.w) X.A (f (.int i t) (.int j u)) Q E s):
  OpR X f (rI0 λ i j=>.int (d i j)):=by
 intro e s l H x y v u Q m g k h;obtain ⟨i,j,rfl,rfl,q⟩:=h;obtain ⟨t,rfl⟩:=g;obtain ⟨t',rfl⟩:=k;exact rule i j t t' s _ _ ⟨.int (d i j),H,m.tok _,⟨_,rfl⟩,q⟩
theorem opB0 {f:Value->Value->Sem Value}{d:Int->Int->Bool}
  (rule:∀(i j:Int) (t u:Tok) (s:X1) (Q:Value->X1->Prop) (E:Value->X1->Prop),Q (.bool (d i j)) s->wpAny (model X.prog X.w) X.A (f (.int i t) (.int j u)) Q E s):
  OpR X f (rI0 λ i j=>.bl (d i j)):=by
 intro e s l H x y v u Q m g k h;obtain ⟨i,j,rfl,rfl,q⟩:=h;obtain ⟨t,rfl⟩:=g;obtain ⟨t',rfl⟩:=k;exact rule i j t t' s _ _ ⟨.bl (d i j),H,m,rfl,q⟩
def CDiv (i j:Int):Prop:=0 < j/\j < 1073741824
def CPow (i j:Int):Prop:=0<=j/\j<=1000000/\i.natAbs < 2 ^ 64
def CMul (i j:Int):Prop:=(-(2 ^ 64) < i/\i < 2 ^ 64)\/(-(2 ^ 64) < j/\j < 2 ^ 64)
theorem CMul.ok {i j:Int}(h:CMul i j):IntMulOk i j:=by
 rcases h with ⟨d,e⟩ | ⟨d,e⟩
 ·exact .of_left (intBits_le_64 d e)
 ·exact .of_right (intBits_le_64 d e)
theorem DY:OpR X (xk .Add) (rI0 λ i j=>.int (i+j)):=opI0 λ _ _ _ _ _ _ _ q=>add_int q
theorem G4:OpR X (xk .Sub) (rI0 λ i j=>.int (i - j)):=opI0 λ _ _ _ _ _ _ _ q=>sub_int q
theorem IK:OpR X (xk .Mult) (rI CMul λ i j=>.int (i * j)):=opI λ _ _ _ _ _ _ _ d q=>mul_int q d.ok
theorem La:OpR X (xk .FloorDiv) (rI CDiv λ i j=>.int (i / j)):=opI λ i j _ _ _ _ _ d q=>by
 have e:(0:Int) < j:=d.1;have f:j < 1073741824:=d.2;exact floordiv_int ∅ (by rw [FM i ∅];exact q) (.inl (MM ∅))
theorem Ed:OpR X (xk .Mod) (rI (λ _ j=>0 < j) λ i j=>.int (i % j)):=opI λ i j _ _ _ _ _ d q=>by
 have e:(0:Int) < j:=d;exact mod_int' ∅ (by rw [FP i ∅];exact q)
theorem Wb:OpR X (xk .Pow) (rI CPow λ i j=>.int (i ^ j.toNat)):=opI λ _ _ _ _ _ _ _ d q=>pow_int_small d.1 d.2.1 d.2.2 q
theorem unI {f:Value->Sem Value}{d:Int->Int}
  (rule:∀(i:Int) (t:Tok) (s:X1) (Q:Value->X1->Prop) (E:Value->X1->Prop),Q (.int (d i) s.toks) { s with toks:=s.toks+1 }->wpAny (model X.prog X.w) X.A (f (.int i t)) Q E s):
  UnR X f (rU λ i=>.int (d i)):=by
 intro e s j H x v Q k g h;obtain ⟨i,rfl,q⟩:=h;obtain ⟨t,rfl⟩:=g;exact rule i t s _ _ ⟨.int (d i),H,k.tok _,⟨_,rfl⟩,q⟩
theorem vB:UnR X (unaryOp .USub) (rU λ i=>.int (-i)):=unI λ _ _ _ _ _ q=>neg_int q
end
def scal:V->V->Bool
 | .non,.non=>true | .non,.int _=>true | .int _,.non=>true | .non,.bl _=>true | .bl _,.non=>true | .non,.str _=>true | .str _,.non=>true
 | .int _,.int _=>true | .bl _,.bl _=>true | .str _,.str _=>true | .byt _,.byt _=>true
 | .int _,.str _=>true | .str _,.int _=>true | .bl _,.str _=>true | .str _,.bl _=>true
 | _,_=>false
def rEq:R2:=λ x y H Q=>scal x y=true/\Q (.bl (decide (x=y))) H
def rNe:R2:=λ x y H Q=>scal x y=true/\Q (.bl (!decide (x=y))) H
theorem eZ {i j:Int}:decide (V.int i=V.int j)=(i == j):=by
 rw [Fi];simp
theorem dI {i j:Bool}:decide (V.bl i=V.bl j)=(i == j):=by
 rw [Fi];simp
theorem aV {i j:Str}:decide (V.str i=V.str j)=(i == j):=by
 rw [Fi];simp
theorem dR {i j:Array UInt8}:decide (V.byt i=V.byt j)=(i.toList == j.toList):=by
 rw [Fi];cases i
 cases j
 simp
section
variable {X:Cx}{a b c:Expr}{ta tb tc:TE}{pos:Pos}
theorem CV {d:List (Addr×Obj)}{f:St}{H:Hp}{s:X1}{Q:VK}{k g:Bool}(h:Inv X d f H s)(q:Q (.bl k) H)(e:k=g):EP X d f Q (.bool g) s:=by
 subst e;exact ⟨.bl k,H,h,rfl,q⟩
theorem Bu:OpR X (zk .Eq) rEq:=by
 intro k s l H x y v u Q e g d h;obtain ⟨f,q⟩:=h;cases x with
 | non=>
  cases g
  cases y with
  | non=>cases d;exact PySem.EqNone.eq_none_none (CV e q (by simp))
  | bl j=>cases d;exact PySem.EqNone.eq_none_bool (CV e q (by simp))
  | int j=>obtain ⟨t',rfl⟩:=d;exact PySem.EqNone.eq_none_int (CV e q (by simp))
  | str j=>obtain ⟨t',rfl⟩:=d;exact PySem.EqNone.eq_none_str (CV e q (by simp))
  | _=>exact absurd (show false=true from f) ZL
 | bl i=>
  cases g
  cases y with
  | non=>cases d;exact PySem.EqNone.eq_bool_none (CV e q (by simp))
  | bl j=>cases d;exact eq_bool (CV e q dI)
  | str j=>obtain ⟨t',rfl⟩:=d;exact PySem.EqMixed.eq_bool_str (CV e q (by simp))
  | _=>exact absurd (show false=true from f) ZL
 | int i=>
  obtain ⟨t,rfl⟩:=g;cases y with
  | non=>cases d;exact PySem.EqNone.eq_int_none (CV e q (by simp))
  | int j=>obtain ⟨t',rfl⟩:=d;exact eq_int (CV e q eZ)
  | str j=>obtain ⟨t',rfl⟩:=d;exact PySem.EqMixed.eq_int_str (CV e q (by simp))
  | _=>exact absurd (show false=true from f) ZL
 | str i=>
  obtain ⟨t,rfl⟩:=g;cases y with
  | non=>cases d;exact PySem.EqNone.eq_str_none (CV e q (by simp))
  | bl j=>cases d;exact PySem.EqMixed.eq_str_bool (CV e q (by simp))
  | int j=>obtain ⟨t',rfl⟩:=d;exact PySem.EqMixed.eq_str_int (CV e q (by simp))
  | str j=>obtain ⟨t',rfl⟩:=d;exact eq_str (CV e q aV)
  | _=>exact absurd (show false=true from f) ZL
 | byt i=>
  obtain ⟨t,rfl⟩:=g;cases y with
  | byt j=>obtain ⟨t',rfl⟩:=d;exact PySem.W.eq_bytes (CV e q dR)
  | _=>exact absurd (show false=true from f) ZL
 | _=>cases y<;>exact absurd (show false=true from f) ZL
theorem Dm:OpR X (zk .NotEq) rNe:=by
 intro k s l H x y v u Q e g d h;obtain ⟨f,q⟩:=h;cases x with
 | non=>
  cases g
  cases y with
  | non=>cases d;exact PySem.EqNone.ne_none_none (CV e q (by simp))
  | bl j=>cases d;exact PySem.EqNone.ne_none_bool (CV e q (by simp))
  | int j=>obtain ⟨t',rfl⟩:=d;exact PySem.EqNone.ne_none_int (CV e q (by simp))
  | str j=>obtain ⟨t',rfl⟩:=d;exact PySem.EqNone.ne_none_str (CV e q (by simp))
  | _=>exact absurd (show false=true from f) ZL
 | bl i=>
  cases g
  cases y with
  | non=>cases d;exact PySem.EqNone.ne_bool_none (CV e q (by simp))
  | bl j=>cases d;exact ne_bool (CV e q (congrArg not dI))
  | str j=>obtain ⟨t',rfl⟩:=d;exact PySem.EqMixed.ne_bool_str (CV e q (by simp))
  | _=>exact absurd (show false=true from f) ZL
 | int i=>
  obtain ⟨t,rfl⟩:=g;cases y with
  | non=>cases d;exact PySem.EqNone.ne_int_none (CV e q (by simp))
  | int j=>obtain ⟨t',rfl⟩:=d;exact ne_int (CV e q (congrArg not eZ))
  | str j=>obtain ⟨t',rfl⟩:=d;exact PySem.EqMixed.ne_int_str (CV e q (by simp))
  | _=>exact absurd (show false=true from f) ZL
 | str i=>
  obtain ⟨t,rfl⟩:=g;cases y with
  | non=>cases d;exact PySem.EqNone.ne_str_none (CV e q (by simp))
  | bl j=>cases d;exact PySem.EqMixed.ne_str_bool (CV e q (by simp))
  | int j=>obtain ⟨t',rfl⟩:=d;exact PySem.EqMixed.ne_str_int (CV e q (by simp))
  | str j=>obtain ⟨t',rfl⟩:=d;exact ne_str (CV e q (congrArg not aV))
  | _=>exact absurd (show false=true from f) ZL
 | byt i=>
  obtain ⟨t,rfl⟩:=g;cases y with
  | byt j=>obtain ⟨t',rfl⟩:=d;exact PySem.W.ne_bytes (CV e q (congrArg not dR))
  | _=>exact absurd (show false=true from f) ZL
 | _=>cases y<;>exact absurd (show false=true from f) ZL
theorem GX:OpR X (zk .Lt) (rI0 λ i j=>.bl (decide (i < j))):=opB0 λ _ _ _ _ _ _ _ q=>lt_int q
theorem Mw:OpR X (zk .LtE) (rI0 λ i j=>.bl (decide (i<=j))):=opB0 λ _ _ _ _ _ _ _ q=>le_int q
theorem GD:OpR X (zk .Gt) (rI0 λ i j=>.bl (decide (j < i))):=opB0 λ _ _ _ _ _ _ _ q=>gt_int q
theorem bj:OpR X (zk .GtE) (rI0 λ i j=>.bl (decide (j<=i))):=opB0 λ _ _ _ _ _ _ _ q=>ge_int q
theorem cg:OpR X (zk .Is) (λ x y H Q=>y=.non/\Q (.bl (decide (x=.non))) H):=by
 intro e s g H x y v u Q i d f h;obtain ⟨rfl,q⟩:=h;cases f
 refine is_none_gen (CV i q ?_);cases x<;>first
  | (cases d;rfl)
  | (obtain ⟨t,rfl⟩:=d;rfl)
theorem wG:OpR X (zk .IsNot) (λ x y H Q=>y=.non/\Q (.bl (!decide (x=.non))) H):=by
 intro e s g H x y v u Q i d f h;obtain ⟨rfl,q⟩:=h;cases f
 refine isnot_none_gen (CV i q ?_);cases x<;>first
  | (cases d;rfl)
  | (obtain ⟨t,rfl⟩:=d;rfl)
theorem nomark (b:Expr){d:CmpOp}(h:d≠.In:=by decide)(e:d≠.NotIn:=by decide):uk d b=false:=by
 have e1:(d == CmpOp.In)=false:=by cases d<;>first | rfl | exact absurd rfl h
 have e2:(d == CmpOp.NotIn)=false:=by cases d<;>first | rfl | exact absurd rfl e
 cases b<;>simp [uk,e1,e2]
theorem Di {d:CmpOp}{r:R2}(f:OpR X (zk d) r)(ha:PE X a ta)(hb:PE X b tb)(hm:uk d b=false:=by first | exact nomark _ | rfl):PE X (.Compare a [d] [b] pos) (tOp r ta tb):=by
 intro e s g H Q n h;exact wpAny_Compare1 (binT ha hb n h λ v u i x y j k l m q=>f e i g j x y v u Q k l m q) hm
inductive oW (Q:Bool->Hp->Prop)(x:V)(H':Hp):Prop | mk (k:_) (_:x=.bl k) (_:Q k H')
def tTest (t:TE):TT:=λ d H Q=>t d H λ x e=>oW Q x e
theorem BR {f:CmpOp}{r:R2}(i:OpR X (zk f) r)(ha:PE X a ta)(hb:PE X b tb)(hm:uk f b=false:=by first | exact nomark _ | rfl):PT X (.Compare a [f] [b] pos) (tTest (tOp r ta tb)):=by
 intro d s g H Q D h;refine GE (thn (ha d s g H _ D h) λ v j ⟨x,l,m,r1,n⟩=>thn (hb d j g l _ m n) λ u o ⟨y,p,q,r2,t⟩=>
  thn (i d o g p x y v u _ q r1 r2 t) λ c s3 ⟨z,w,A,B,k,e,C⟩=>?_) hm
 subst e;cases B
 exact Qp ⟨w,A,C⟩
def tChain (r f:R2)(ta tb tc:TE):TE:=λ d H Q=>ta d H λ x g=>tb d g λ y h=>r x y h λ z e=>∃k,z=.bl k/\
 (if k=true then tc d e λ i j=>f y i j Q else Q (.bl false) e)
theorem Z0 {j g:CmpOp}{r l:R2}(q:OpR X (zk j) r)(m:OpR X (zk g) l)(ha:PE X a ta)(hb:PE X b tb)(t:PE X c tc)
  (hm:lastMarks [j,g] [b,c]=false:=by with_unfolding_all rfl):PT X (.Compare a [j,g] [b,c] pos) (tTest (tChain r l ta tb tc)):=by
 intro f s i H Q Y h;refine isTrue_chain (thn (ha f s i H _ Y h) λ v w ⟨x,A,B,r1,C⟩=>test_link (thn (hb f w i A _ B C) λ u D ⟨y,E,F,r2,G⟩=>
  thn (q f D i E x y v u _ F r1 r2 G) λ d s3 ⟨z,n,o,I,k,e,p⟩=>?_)) hm
 subst e;cases I
 refine Qp ?_;cases k with
 | false=>
  obtain ⟨Z,J,K⟩:=p;cases J
  exact ite_ff ⟨n,o,K⟩
 | true=>
  refine ite_tt (test_last (thn (t f s3 i n _ o p) λ L M ⟨N,O,P,R,S⟩=>thn (m f M i O y N u L _ P r2 R S) λ d' a0 ⟨a1,T,U,V,k2,e2,W⟩=>?_))
  subst e2;cases V
  exact Qp ⟨T,U,W⟩
theorem line63:(X3:Nat) < 2 ^ 63:=by rw [sizeLine_eq];decide
theorem AL6 {s:X1}{x y:Str}{t u:NZ}{Q:Value->X1->Prop}(hn:1<=s.toks)(f:x.length+y.length<=X3)(h:∀(t':NZ) (tk:Nat),s.toks<=tk->Q (.str (x++y) t'.1) { s with toks:=tk }):
  (if x.length == 0 then Cn (.str y u.1) else if y.length == 0 then Cn (.str x t.1) else Made.str (x++y)).post Q s:=by
 cases g:x.length == 0
 ·cases i:y.length == 0
  ·exact ⟨by rw [strLen_append];exact f,h ⟨s.toks,XW hn⟩ _ (WV _)⟩
  ·have d:y.cps=#[]:=zw (by simpa [Cb] using i)
   have e:x++y=x:=by show qn x y=x;cases x;simp [qn,d]
   have q:=h t s.toks (ZE _);rw [e] at q;exact q
 ·have d:x.cps=#[]:=zw (by simpa [Cb] using g)
  have e:x++y=y:=by show qn x y=y;cases y;simp [qn,d]
  have q:=h u s.toks (ZE _);rw [e] at q;exact q
theorem jg {prog:ZU}{w:World}{A:XA}{E:Value->X1->Prop}{s:X1}{x y:Str}{t u:NZ}{Q:Value->X1->Prop}(hn:1<=s.toks)(d:x.length+y.length<=X3)(h:∀(t':NZ) (tk:Nat),s.toks<=tk->Q (.str (x++y) t'.1) { s with toks:=tk }):
  wpAny (model prog w) A (xk .Add (.str x t.1) (.str y u.1)) Q E s:=PySem.P.add_str (AL6 hn d h)
inductive uq (x:V)(y:V)(H:Hp)(Q:VK):Prop | mk (i j:_) (_:x=.str i) (_:y=.str j) (_:i.length+j.length<=X3) (_:Q (.str (i++j)) H)
theorem Dj:OpR X (xk .Add) uq:=by
 intro d s m H x y v u Q k e f h;obtain ⟨i,j,rfl,rfl,g,q⟩:=h;obtain ⟨t,rfl⟩:=e;obtain ⟨t',rfl⟩:=f;exact jg k.tk1 g λ t' tk l=>⟨.str (i++j),H,k.tok _,⟨_,rfl⟩,q⟩
def PlainIxT (b:Expr):Prop:=∀o i,NO b false o i=operate [o,i] (NQ o i)
theorem rn (ha:PE X a ta)(hb:PE X b tb)(f:PlainIxT b):
  PE X (.Subscript a b pos) (tOp (λ x y H Q=>∃z i c,x=.str z/\y=.int i/\0<=i/\i < 2 ^ 63/\i < z.length/\z.cps[i.toNat]?=some c/\Q (.str ⟨#[c]⟩) H) ta tb):=by
 intro g s w H Q A h;refine GN (binT ha hb A h λ v u j x y k d l m q=>?_)
 obtain ⟨z,i,c,rfl,rfl,n,r,o,p,q⟩:=q;obtain ⟨t,rfl⟩:=l;obtain ⟨t',rfl⟩:=m;have e:seqIndex? i z.length=some i.toNat:=PySem.StrLaws.seqIndex_nonneg n o;exact tail_any (wb j z t) slot_str_getitem.lookup (getItem_str (c:=c) (by
  have e1:decide (i < -(2 ^ 63:Int))=false:=η ∅
  have e2:decide (i≥2 ^ 63)=false:=η ∅
  rw [e1,e2]<;>rfl) (by rw [e];exact p) ⟨.str ⟨#[c]⟩,k,d.tok _,⟨⟨_,XW d.tk1⟩,rfl⟩,q⟩) (f _ _)
theorem vals1 {x:V}{us:List Value}(r:Vals [x] us):∃u,us=[u]/\RelV x u:=by
 cases r with
 | cons r1 r2=>cases r2;exact ⟨_,rfl,r1⟩
theorem vals2 {x y:V}{us:List Value}(r:Vals [x,y] us):∃u d,us=[u,d]/\RelV x u/\RelV y d:=by
 cases r with
 | cons r1 r2=>
  cases r2 with
  | cons e f=>cases f;exact ⟨_,_,rfl,r1,e⟩
inductive kO (xs:List V)(H:Hp)(Q:VK):Prop | mk (i:_) (_:xs=[.int i]) (_:Q (.int (if i < 0 then -i else i)) H)
theorem Oz:CallR X (.builtin "abs") kO:=by
 intro d s g H xs us Q e r h;obtain ⟨i,rfl,q⟩:=h;obtain ⟨u,rfl,t,rfl⟩:=vals1 r;exact yl e.tk (call_abs_int λ u tk f=>⟨.int (if i < 0 then -i else i),H,e.tok _,⟨_,rfl⟩,q⟩)
theorem fG:CallR X (.type "int") (λ xs H Q=>(∃i,xs=[.int i]/\Q (.int i) H)\/∃k,xs=[.bl k]/\Q (.int (if k then 1 else 0)) H):=by
 intro d s f H xs us Q e r h;rcases h with ⟨i,rfl,q⟩ | ⟨k,rfl,q⟩
 ·obtain ⟨u,rfl,t,rfl⟩:=vals1 r;exact call_int_int ⟨.int i,H,e,⟨_,rfl⟩,q⟩
 ·obtain ⟨u,rfl,r1⟩:=vals1 r;cases r1
  exact call_int_bool ⟨.int (if k then 1 else 0),H,e.tok _,⟨_,rfl⟩,q⟩
theorem ZG:CallR X (.type "str") (λ xs H Q=>∃i,xs=[.int i]/\i.natAbs.log2 < 1920/\Q (.str (toString i)) H):=by
 intro d s g H xs us Q f r h;obtain ⟨i,rfl,e,q⟩:=h;obtain ⟨u,rfl,t,rfl⟩:=vals1 r;exact PySem.P.str_of_int e ⟨.str _,H,f.tok _,⟨⟨_,XW f.tk1⟩,rfl⟩,q⟩
end
structure ObjM (h:Heap)(x dx C:Addr)(mA:Str->Option Value):Prop where
 obj:h.get? x=some (ya C dx)
 ns:h.Ns1 dx mA
 ne:dx≠x
theorem bC {h:Heap}{dx:Addr}{c:Str->Option Value}(n:h.Ns1 dx c):∃d,h.get? dx=some d/\∀name,FR name d=some (c name):=by
 obtain ⟨o,f,l,g,hd,i,_,hm⟩:=n;refine ⟨o,g,λ name=>?_⟩
 have e:=hm name;unfold nsFind findBy at e;rw [<- Array.find?_toList] at e;unfold FR;rw [hd];dsimp only
 split
 ·rename_i y q
  rw [q] at e;exact congrArg some e
 ·rename_i q
  rw [q] at e;have a:f.toList.any (·.refKey)=false:=by
   rw [List.any_eq_false];intro y j;obtain ⟨z,t,b⟩:=i y (BU.mp j);simp [GO.refKey,b]
  have k:¬ f.toList.any (·.refKey)=true:=by rw [a];exact ZL
  rw [if_neg k];exact congrArg some e
theorem ObjM.look {h:Heap}{x dx C:Addr}{b:Str->Option Value}(d:ObjM h x dx C b):∃a,PySem.W.InstAt h x (ya C dx) C (some a)/\∀name,FR name a=some (b name):=
 let ⟨a,c,hl⟩:=bC d.ns
 ⟨a,⟨d.obj,rfl,rfl,c⟩,hl⟩
section
variable {prog:ZU}{w:World}{A:XA}{E:Value->X1->Prop}{s:X1}{K:FrG}{x dx C f:Addr}{mA:Str->Option Value}{name:Str}{v:Value}
theorem jq {a:Bool}{Q:Value->X1->Prop}(X:K.In s.heap)(g:ObjM s.heap x dx C mA)(c:QP K C name=true)(d:UM K C=true)
  (ha:ZH K (.ref C) name=some none) (e:mA name=some v) (b:PySem.W.handedIn v=true) (h:Q v { s with toks:=s.toks+1 }):
  wpAny (model prog w) A (getAttr (.ref x) name a) Q E s:=by
 obtain ⟨i,j,hl⟩:=g.look;exact PySem.W.get_value X j (Fu c).1 (PySem.W.findObj_own d ha rfl (by rw [hl,e])) b h
theorem AN4 {pl:Sem Bool}{Q:Value×List Value->X1->Prop}(X:K.In s.heap)(d:ObjM s.heap x dx C mA)(a:QP K C name=true)
  (hf:ZH K (.ref C) name=some (some (.ref f))) (ht:UB K (.ref f)=true) (b:mA name=none) (h:Q (.ref f,[.ref x]) s):
  wpAny (model prog w) A (GP (.ref x) name pl) Q E s:=by
 obtain ⟨c,e,hl⟩:=d.look;exact PySem.W.method_fn X e (Fu a).1 (Fu a).2 hf (beq_iff_eq.mp ht) (by show (FR name c).map (·.isSome)=some false;rw [hl,b];rfl) h
theorem zA {ns:List Str}{Q:Unit->X1->Prop}(X:K.In s.heap)(e:ObjM s.heap x dx C mA)
  (l:ZH K (.ref C) "__setattr__"=some (some (.builtin "object.__setattr__"))) (m:zX K C=true) (ht:BB K C name=some none) (n:UM K C=true)
  (o:ML mA ns) (hsz:ns.length<=X3)
  (h:∀h',ObjM h' x dx C (λ y=>if y=name then some v else mA y)->QA dx s.heap h'->Q () { s with heap:=h',toks:=s.toks+2 }):
  wpAny (model prog w) A (setAttr (.ref x) name v) Q E s:=by
 obtain ⟨B,t,hl⟩:=e.look;refine PySem.W.set_plain X t l (PySem.W.osa_open (s:={ s with toks:=s.toks+1 }) (r:=none) X t m ht λ b=>?_)
 obtain ⟨D,p,g⟩:=PySem.W.any_some n;have q:s.heap.get? x=some ⟨.ref C,some dx,.plain,#[]⟩:=e.obj;refine Y3 (ZI (Y3 (Y3 (wpAny_loadPart q (Y3 (yD.here (s:={ s with toks:=s.toks+1 }) (PySem.W.looks_clsIn X p) ?_))))))
 rw [g];refine ZI (a:=some dx) (Y3 (ZI (Y3 ?_)));refine wpAny_nsSet1 (s:={ s with toks:=s.toks+1 }) e.ns λ h' c d=>?_
 obtain ⟨F,u,z,i,j,k⟩:=c.count (ML.cons name v o);refine Y3 (wpAny_lookBehind i (by rw [j];exact pastItsLine_dict (W8 k (by rw [W6];omega))) ?_)
 exact ZI (h _ ⟨(d.2 _ (WU e.ne)).trans e.obj,c,e.ne⟩ d)
theorem AN5 {b:Result->X1->Prop}{vs:List Value}{a:List (Str×Value)}(X:K.In s.heap)(hm:xw K C=true)
  (hi:ZH K (.ref C) "__init__"=some (some (.ref f))) (hf:An K (.ref f)=some (.type "function"))
  (h:wh (model prog w) (A.under (.builtin "type.__call__" ⟨.ref C::vs,a⟩)) (.call (.ref f) ⟨.ref (s.heap.objs.size+1)::vs,a⟩) (PySem.W.InitBack (s.heap.objs.size+1) b)
   { s with heap:=(s.heap.push Qk).push (ya C s.heap.objs.size) }):
  wh (model prog w) A (.call (.ref C) ⟨vs,a⟩) b s:=by
 obtain ⟨c,e,d,t,os⟩:=s;exact PySem.W.make_core (PySem.W.makes_of X hm) (PySem.W.looks_findIn X hi) (λ self=>PySem.W.bind_fn X self hf) (.inl rfl) h
end
def putF (f:Str)(v:V):List (Str×V)->List (Str×V)
 | []=>[(f,v)]
 | (a,x)::r=>if a=f then (a,v)::r else (a,x)::putF f v r
theorem gW (f a:Str)(v:V):∀fs:List (Str×V),(putF f v fs).lookup a=if a=f then some v else fs.lookup a
 | []=>by
  show uT a [(f,v)]=_;by_cases h:a=f
  ·have hb:(a == f)=true:=beq_iff_eq.mpr h;simp only [uT,hb,if_pos h]
  ·have hb:(a == f)=false:=beq_eq_false_iff_ne.mpr h;simp only [uT,hb,if_neg h]
 | (k,x)::r=>by
  have c:=gW f a v r;rw [show putF f v ((k,x)::r)=(if k=f then (k,v)::r else (k,x)::putF f v r) from rfl]
  by_cases b:k=f
  ·rw [if_pos b];by_cases h:a=k
   ·have hb:(a == k)=true:=beq_iff_eq.mpr h;simp only [uT,hb,if_pos (h.trans b)]
   ·have hb:(a == k)=false:=beq_eq_false_iff_ne.mpr h;simp only [uT,hb,if_neg (λ e:a=f=>h (e.trans b.symm))]
  ·rw [if_neg b];by_cases h:a=k
   ·have hb:(a == k)=true:=beq_iff_eq.mpr h;simp only [uT,hb,if_neg (λ e:a=f=>b (h.symm.trans e))]
   ·have hb:(a == k)=false:=beq_eq_false_iff_ne.mpr h;simp only [uT,hb];exact c
theorem Uo (f:Str)(v:V):∀fs:List (Str×V),f∈(putF f v fs).map (·.1)/\∀b,b∈fs.map (·.1)->b∈(putF f v fs).map (·.1)
 | []=>⟨by simp [putF],λ b h=>by simp at h⟩
 | (k,x)::r=>by
  obtain ⟨c,i2⟩:=Uo f v r;rw [show putF f v ((k,x)::r)=(if k=f then (k,v)::r else (k,x)::putF f v r) from rfl]
  by_cases a:k=f
  ·rw [if_pos a];subst a;exact ⟨by simp,λ b h=>by simpa using h⟩
  ·rw [if_neg a];refine ⟨?_,λ b h=>?_⟩
   ·rw [YY];exact ZX _ c
   ·rw [YY] at h ⊢;rcases ZN.mp h with e | e
    ·exact ZN.mpr (.inl e)
    ·exact ZX _ (i2 b e)
theorem YW (f:Str)(v:V):∀fs:List (Str×V),(putF f v fs).length<=fs.length+1
 | []=>by simp [putF]
 | (k,x)::r=>by
  have b:=YW f v r;rw [show putF f v ((k,x)::r)=(if k=f then (k,v)::r else (k,x)::putF f v r) from rfl]
  by_cases a:k=f
  ·rw [if_pos a,W6,W6];omega
  ·rw [if_neg a,W6,W6];omega
theorem RelO.some_of {v:V}{o:Option Value}(r:RelO (some v) o):∃u,o=some u/\RelV v u:=by
 cases o with
 | none=>exact (show False from r).elim
 | some u=>exact ⟨u,rfl,r⟩
theorem RelO.none_of {o:Option Value}(r:RelO none o):o=none:=by
 cases o with
 | none=>rfl
 | some u=>exact (show False from r).elim
theorem ao {v:V}{u:Value}(r:RelV v u):PySem.W.handedIn u=true:=by
 cases v with
 | non=>cases (show u=US from r);rfl
 | bl b=>cases (show u=ql b from r);rfl
 | int i=>obtain ⟨t,e⟩:=(show ∃t,u=qA i t from r);cases e;rfl
 | str x=>obtain ⟨t,e⟩:=(show ∃t:NZ,u=Mi x t.1 from r);cases e;rfl
 | byt b=>obtain ⟨t,e⟩:=(show ∃t,u=Value.bytes b t from r);cases e;rfl
 | flt b=>obtain ⟨t,e⟩:=(show ∃t,u=CU b t from r);cases e;rfl
 | ref a=>cases (show u=Yf a from r);rfl
 | ty n=>cases (show u=uu n from r);rfl
section
variable {P:ZU}{w:World}{H H':Hp}{h h':Heap}{a C dx:Addr}{fs fs':List (Str×V)}
theorem Mf (hok:HOk P w H h)(e:H a=some (.ins C dx fs)):∃b,ObjM h a dx C b/\(∀f,RelO (fs.lookup f) (b f))/\ML b (fs.map (·.1))/\fs.length<=1000/\H dx=some (.own a):=by
 obtain ⟨d,z,ne,ob,b,n,r,q⟩:=(show ObjOk P w H h a (.ins C dx fs) from hok a _ e)
 exact ⟨b,⟨ob,n,ne⟩,r,q,z,d⟩
end
structure Cls (K:FrG)(C:Addr):Prop where
 pg:QP K C Fk=true
 hd:UM K C=true
 po:zX K C=true
 sa:ZH K (.ref C) "__setattr__"=some (some (.builtin "object.__setattr__"))
theorem Cls.get {K:FrG}{C:Addr}(c:Cls K C)(f:Str):QP K C f=true:=c.pg
def NoAttr (K:FrG)(C:Addr)(f:Str):Prop:=ZH K (.ref C) f=some none
theorem NoAttr.taker {K:FrG}{C:Addr}{f:Str}(n:NoAttr K C f):BB K C f=some none:=by
 unfold BB;rw [show ZH K (.ref C) f=some none from n]
 rfl
structure Meth (K:FrG)(C:Addr)(m:Str)(f:Addr):Prop where
 at_:ZH K (.ref C) m=some (some (.ref f))
 fn:UB K (.ref f)=true
 kp:YJ K (.ref f)=true
section
variable {X:Cx}{pins:List (Addr×Obj)}{σ:St}{H:Hp}{s:X1}{a C dx:Addr}{fs:List (Str×V)}{f:Str}{v:V}{A:XA}{E:Value->X1->Prop}
theorem Yh {b:Bool}{Q:Value->X1->Prop}(g:Inv X pins σ H s)(e:H a=some (.ins C dx fs))(c:Cls X.K C)(n:NoAttr X.K C f)(l:fs.lookup f=some v)
  (h:∀u s',Inv X pins σ H s'->RelV v u->Q u s'):wpAny (model X.prog X.w) A (getAttr (.ref a) f b) Q E s:=by
 obtain ⟨i,k,r,_,_,_⟩:=Mf g.hok e;obtain ⟨u,j,d⟩:=RelO.some_of (v:=v) (o:=i f) (by rw [<- l];exact r f)
 exact jq g.kIn k (c.get f) c.hd n j (ao d) (h u _ (g.tok _) d)
theorem Ka {m:Str}{d:Addr}{pl:Sem Bool}{Q:Value×List Value->X1->Prop}(g:Inv X pins σ H s)(e:H a=some (.ins C dx fs))(c:Cls X.K C)(k:Meth X.K C m d)(l:fs.lookup m=none)
  (h:Q (.ref d,[.ref a]) s):wpAny (model X.prog X.w) A (GP (.ref a) m pl) Q E s:=by
 obtain ⟨b,i,r,_,_,_⟩:=Mf g.hok e;have hn:b m=none:=RelO.none_of (by rw [<- l];exact r m)
 exact AN4 g.kIn i (c.get m) k.at_ k.fn hn h
theorem Xf {y:V}{u:Value}{Q:Unit->X1->Prop}(l:Inv X pins σ H s)(e:H a=some (.ins C dx fs))(c:Cls X.K C)(n:NoAttr X.K C f)(hl:fs.length < 1000)(m:RelV y u)
  (h:∀s',Inv X pins σ (upd H a (.ins C dx (putF f y fs))) s'->Q () s'):wpAny (model X.prog X.w) A (setAttr (.ref a) f u) Q E s:=by
 obtain ⟨i,p,r,j,_,k⟩:=Mf l.hok e;have t:(fs.map (·.1)).length<=X3:=by rw [X9,sizeLine_eq];omega
 refine zA l.kIn p c.sa c.po n.taker c.hd j t λ h' g B=>h _ ?_
 have hd:∃o,h'.get? dx=some o:=let ⟨o,_,_,D,_⟩:=g.ns;⟨o,D⟩
 refine l.write (x:=a) (e:=dx) (by rw [e];exact zx) (.inr k) (λ b q hb z=>(B.2 b hb).trans z) hd ?_
 refine ⟨by rw [Al p.ne];exact k,?_,p.ne,g.obj,_,g.ns,λ d=>?_,λ d F=>?_⟩
 ·have:=YW f y fs;omega
 ·show RelO ((putF f y fs).lookup d) (if d=f then some u else i d)
  rw [gW];by_cases q:d=f
  ·rw [if_pos q,if_pos q];exact m
  ·rw [if_neg q,if_neg q];exact r d
 ·by_cases q:d=f
  ·rw [q];exact (Uo f y fs).1
  ·refine (Uo f y fs).2 d (j d λ z=>F ?_)
   show (if d=f then some u else i d)=none
   rw [if_neg q];exact z
theorem Inv.made (i:Inv X pins σ H s):Inv X pins σ (upd (upd H s.heap.objs.size (.own (s.heap.objs.size+1))) (s.heap.objs.size+1) (.ins C s.heap.objs.size []))
  { s with heap:=(s.heap.push Qk).push (ya C s.heap.objs.size) }:=by
 have e1:(s.heap.push Qk).get? s.heap.objs.size=some Qk:=YI s.heap rfl;have e2:((s.heap.push Qk).push (ya C s.heap.objs.size)).get? (s.heap.objs.size+1)=some (ya C s.heap.objs.size):=by
  have:=YI (s.heap.push Qk) (o:=ya C s.heap.objs.size) rfl
  rwa [Ug] at this
 have c:(s.heap.push Qk).Ns s.heap.objs.size (λ _=>none):=⟨Qk,#[],_,e1,rfl,(λ e d=>absurd d (by simp)),λ _=>rfl⟩
 have g:=i.laid (a:=s.heap.objs.size) (o:=.own (s.heap.objs.size+1)) (h':=s.heap.push Qk) (t':=s.toks) (λ b u q=>X2 _ q) (ZE _) ⟨_,e1⟩
 refine g.laid (a:=s.heap.objs.size+1) (o:=.ins C s.heap.objs.size []) (t':=s.toks) (λ b u q=>X2 _ q) (FF (Ug _ _)) ?_
 have ne:s.heap.objs.size≠s.heap.objs.size+1:=YP (Qb _);refine ⟨by rw [Al ne,Ag],Qi _,ne,e2,λ _=>none,(Co c).at λ o q=>X2 _ q,λ _=>zx,λ y h=>absurd rfl h⟩
theorem ZF {prog:ZU}{w:World}{env:Env}{e:Expr}{f:Str}{pos:Pos}{s:X1}{Q:Value->X1->Prop}(hb:wc e f env (eval e env)=eval e env)
  (h:wpAny (model prog w) A (eval e env) (λ o b=>wpAny (model prog w) A (getAttr o f true) Q E b) E s):wpAny (model prog w) A (eval (.Attribute e f pos) env) Q E s:=
 Attribute_any_ h (by rw [arm_eval_Attribute,hb])
end
inductive vO (K:FrG)(f:Str)(Q:VK)(x:V)(H1:Hp):Prop | mk (a C dx fs v:_) (_:x=.ref a) (_:H1 a=some (.ins C dx fs)) (_:Cls K C) (_:NoAttr K C f) (_:fs.lookup f=some v) (_:Q v H1)
def tFld (K:FrG)(a:TE)(f:Str):TE:=λ b H Q=>a b H λ x c=>vO K f Q x c
def sFld (K:FrG)(d e:TE)(f:Str):TS:=λ h b H=>e b H λ y g=>d b g λ x c=>∃a C dx fs,x=.ref a/\c a=some (.ins C dx fs)/\Cls K C/\NoAttr K C f/\fs.length < 1000/\
 h.nx b (upd c a (.ins C dx (putF f y fs)))
def InOp (X:Cx)(c:MG)(rd:V->V->Hp->VK->Prop):Prop:=
 ∀(a:List (Addr×Obj)) (s:X1) (b:St) (H:Hp) (x y:V) (u v:Value) (Q:VK),Inv X a b H s->RelV x u->RelV y v->rd x y H Q->wpAny (model X.prog X.w) X.A (inplaceOp c u v) (EP X a b Q) X.xe s
def sFldAug (K:FrG)(h i:TE)(rd:V->V->Hp->VK->Prop)(f:Str):TS:=λ k d H=>h d H λ x e=>∃a C dx fs v,x=.ref a/\e a=some (.ins C dx fs)/\Cls K C/\NoAttr K C f/\fs.lookup f=some v/\
 i d e λ y j=>rd v y j λ z g=>∃c b,g a=some (.ins C c b)/\b.length < 1000/\k.nx d (upd g a (.ins C c (putF f z b)))
section
variable {X:Cx}{o e value:Expr}{f:Str}{pos pos' tpos:Pos}{ta tv:TE}
theorem uL (d:PE X e ta)(hb:wc e f X.env (eval e X.env)=eval e X.env):PE X (.Attribute e f pos) (tFld X.K ta f):=by
 intro b s g H Q t h;refine ZF hb (thn (d b s g H _ t h) λ u w ⟨x,i,j,k,a,C,dx,fs,v,ex,m,c,n,l,q⟩=>?_)
 subst ex;obtain rfl:u=Yf a:=k;exact Yh j m c n l λ y z p r=>⟨v,i,p,r,q⟩
theorem qd (ha:PE X o ta)(g:PE X value tv)(i:xz value (some (.Attribute o f pos')) pos.line X.env=pure false):PS X (.Assign [.Attribute o f pos'] value pos) (sFld X.K ta tv f):=by
 intro b s d H F B h;refine plainObj_wpAny_Assign_Attribute (thn (g b s d H _ B h) λ u j ⟨y,k,m,p,q⟩=>thn (ha b j d k _ m q) λ r D ⟨x,E,t,v,a,C,dx,fs,ex,w,c,n,l,z⟩=>?_) i
 subst ex;obtain rfl:r=Yf a:=v;exact Xf t w c n l p λ s3 A=>⟨d,_,A,z⟩
theorem Yz {g:MG}{rd:V->V->Hp->VK->Prop}(ha:PE X o ta)(k:PE X value tv)(i:InOp X g rd):PS X (.AugAssign (.Attribute o f tpos) g value pos) (sFldAug X.K ta tv rd f):=by
 intro b s d H a0 S h;refine wpAny_AugAssign_AttributeAny (thn (ha b s d H _ S h) λ m T ⟨x,p,r,t,a,C,dx,fs,v,ex,w,c,n,l,q⟩=>?_)
 subst ex;obtain rfl:m=Yf a:=t;refine Yh r w c n l λ u A B D=>thn (k b A d p _ B q) λ E s3 ⟨y,F,G,I,J⟩=>thn (i b s3 d F v y u E _ G D I J) λ U W ⟨z,Y,L,M,Q,R,j,N,O⟩=>?_
 exact Xf L j c n N M λ Z P=>⟨d,_,P,O⟩
inductive rAdd (x:V)(y:V)(H:Hp)(Q:VK):Prop | mk (i j:_) (_:x=.int i) (_:y=.int j) (_:Q (.int (i+j)) H)
theorem aZ:InOp X .Add rAdd:=by
 rintro a s d H x y u v Q g b c ⟨i,j,rfl,rfl,q⟩
 obtain ⟨t,rfl⟩:=(show ∃t,u=qA i t from b)
 obtain ⟨t',rfl⟩:=(show ∃t',v=qA j t' from c)
 exact PyProof.Rows.iadd_int ⟨.int (i+j),H,g.tok _,⟨_,rfl⟩,q⟩
end
section
variable {X:Cx}{pins:List (Addr×Obj)}{σ:St}{H:Hp}{s:X1}{A:XA}{E:Value->X1->Prop}{Q:Value->X1->Prop}{c:Value}{b:Bool}
inductive TyOf (K:FrG)(H:Hp):V->Value->Prop where
 | non:TyOf K H .non (.type "NoneType")
 | bl (x:Bool):TyOf K H (.bl x) (.type "bool")
 | int (i:Int):TyOf K H (.int i) (.type "int")
 | str (x:Str):TyOf K H (.str x) (.type "str")
 | flt (x:UInt64):TyOf K H (.flt x) (.type "float")
 | lst {a:Addr} {xs:List V} (e:H a=some (.lst xs)):TyOf K H (.ref a) (.type "list")
 | frz {a:Addr} {o:Obj} {xs:List V} (e:H a=some (.frz o (.lst xs))):TyOf K H (.ref a) (.type "list")
 | tup {a:Addr} {xs:List V} (e:H a=some (.tup xs)):TyOf K H (.ref a) (.type "tuple")
 | dK {a:Addr} {kvs:List (Key×V)} (e:H a=some (.dK kvs)):TyOf K H (.ref a) (.type "dict")
 | dT {a:Addr} {kvs:List (List Key×V)} (e:H a=some (.dT kvs)):TyOf K H (.ref a) (.type "dict")
 | ins {a C dx:Addr} {fs:List (Str×V)} (e:H a=some (.ins C dx fs)) (cl:Cls K C) (ha:ZH K (.ref C) "__class__"=some (some (.builtin "object.__class__")))
   (hn:zb K (.builtin "object.__class__") "__get__"=some (some (.builtin "getset_descriptor.__get__"))) (htk:ud K (.builtin "object.__class__")=some true)
   (hm:JY K C (.type "object")=some true):TyOf K H (.ref a) (.ref C)
theorem Ky {x:V}{u t:Value}(j:Inv X pins σ H s)(d:RelV x u)(ty:TyOf X.K H x t)(e:W1 X.K t c=some b)(h:∀tk,Q (.bool b) { s with toks:=tk }):
  wpAny (model X.prog X.w) A (call (.builtin "isinstance") [u,c]) Q E s:=by
 cases ty with
 | non=>cases (show u=US from d);exact UH PySem.W.kitx_none j.kIn zx e (λ z=>nomatch z) h
 | bl y=>cases (show u=ql y from d);exact UH PySem.W.kitx_bool j.kIn zx e (λ z=>nomatch z) h
 | int i=>obtain ⟨t,q⟩:=(show ∃t,u=qA i t from d);cases q;exact UH PySem.W.kitx_int j.kIn zx e (λ z=>nomatch z) h
 | str y=>obtain ⟨t,q⟩:=(show ∃t:NZ,u=Mi y t.1 from d);cases q;exact UH PySem.W.kitx_str j.kIn zx e (λ z=>nomatch z) h
 | flt y=>obtain ⟨t,q⟩:=(show ∃t,u=CU y t from d);cases q;exact UH PySem.W.kitx_float j.kIn zx e (λ z=>nomatch z) h
 | @lst a xs f=>
  cases (show u=Yf a from d)
  obtain ⟨_,_,n,_,g⟩:=(show ObjOk X.prog X.w H s.heap a (.lst xs) from j.hok a _ f)
  exact UH NC j.kIn ⟨_,g,rfl⟩ e (λ z=>nomatch z) h
 | @frz a ob xs f=>
  cases (show u=Yf a from d)
  obtain ⟨_,_,_,n,_,g⟩:=(show ObjOk X.prog X.w H s.heap a (.frz ob (.lst xs)) from j.hok a _ f)
  exact UH NC j.kIn ⟨_,g,rfl⟩ e (λ z=>nomatch z) h
 | @tup a xs f=>
  cases (show u=Yf a from d)
  obtain ⟨_,_,_,p⟩:=(show ObjOk X.prog X.w H s.heap a (.tup xs) from j.hok a _ f)
  obtain ⟨o,g,k,_⟩:=p;exact UH Cc j.kIn ⟨o,g,k⟩ e (λ z=>nomatch z) h
 | @dK a l f=>
  cases (show u=Yf a from d)
  obtain ⟨_,_,vs,_,p⟩:=(show ObjOk X.prog X.w H s.heap a (.dK l) from j.hok a _ f)
  obtain ⟨o,r,v,g,k,_⟩:=p;exact UH Cs j.kIn ⟨o,g,k.1⟩ e (λ z=>nomatch z) h
 | @dT a l f=>
  cases (show u=Yf a from d)
  obtain ⟨_,_,xs,_,o,r,v,g,k,_⟩:=(show ObjOk X.prog X.w H s.heap a (.dT l) from j.hok a _ f)
  exact UH Cs j.kIn ⟨o,g,k.1⟩ e (λ z=>nomatch z) h
 | @ins a C dx fs f cl ha hn m hm=>
  cases (show u=Yf a from d)
  obtain ⟨B,D,_⟩:=Mf j.hok f;obtain ⟨F,G,_⟩:=D.look;exact UH (PySem.W.kitx_own (cl.get _) cl.hd ha hn m hm) j.kIn G e (λ z=>nomatch z) h
end
structure Room (k:Nat)(A:XA):Prop where
 hd:A.handled=none
 dp:A.depth+3 * k+5 < AG
 un:A.units+16 * k+200 < cLine
theorem AK7 {A:XA}{C:Addr}{us:List Value}{a:List (Str×Value)}:(A.under (.builtin "type.__call__" ⟨.ref C::us,a⟩)).depth=A.depth+1:=by
 first | rfl | simp [Ct,Code.weight,Code.isCreation,Code.isGuard,Code.isCaller,Code.frames,CA,guardIds]
theorem nO {A:XA}{C:Addr}{us:List Value}{a:List (Str×Value)}:(A.under (.builtin "type.__call__" ⟨.ref C::us,a⟩)).units=A.units+1:=by
 first | rfl | simp [Ct,Code.cUnits,Code.frames,CA]
theorem Room.make {k:Nat}{A:XA}(r:Room (k+1) A)(C:Addr)(us:List Value)(a:List (Str×Value)):Room k (A.under (.builtin "type.__call__" ⟨.ref C::us,a⟩)):=
 ⟨r.hd,by have:=r.dp;rw [AK7];omega,by have:=r.un;rw [nO];omega⟩
def tNil:TA:=λ _ H Q=>Q [] H
def tCons (b:TE)(c:TA):TA:=λ a H Q=>b a H λ x d=>c a d λ xs e=>Q (x::xs) e
section
variable {X:Cx}{e:Expr}{es:List Expr}{te:TE}{t:TA}{pos:Pos}
theorem Ab:PA X [] tNil:=λ _ _ _ _ H Q a h=>qS ⟨[],H,a,.nil,h⟩
theorem Dc (ha:PE X e te)(c:PA X es t)(d:YE (e::es) X.env=(false,eval e X.env)::YE es X.env:=by rfl):PA X (e::es) (tCons te t):=by
 intro pos a s b H Q n h;rw [d];show wpAny _ _ (spliced ((false,eval e X.env)::Qe pos (YE es X.env))) _ _ s;refine wv (thn (ha a s b H _ n h) λ u f ⟨x,g,i,r1,j⟩=>?_)
 exact thn (c pos a f b g _ i j) λ us o ⟨xs,k,l,r2,m⟩=>⟨x::xs,k,l,.cons r1 r2,m⟩
def tTup (t:TA):TE:=λ b H Q=>t b H λ xs a=>xs.length<=X3/\∀p,a p=none->Q (.ref p) (upd a p (.tup xs))
def tLst (t:TA):TE:=λ b H Q=>t b H λ xs a=>xs.length<=X3/\∀p,a p=none->Q (.ref p) (upd a p (.lst xs))
theorem Cz {x1}(h:PA X es t):PE X (.Tuple es x1 pos) (tTup t):=by
 intro c s g H Q j i;refine wpAny_Tuple_spliced (thn (h pos c s g H _ j i) λ us a ⟨xs,d,f,r,z,q⟩=>⟨by rw [<- r.length];exact z,?_⟩)
 have hf:d a.heap.objs.size=none:=f.hok.fresh (ZE _);refine ⟨.ref a.heap.objs.size,upd d a.heap.objs.size (.tup xs),f.laid (t':=a.toks) (λ b u e=>X2 _ e) (ZE _) ?_,rfl,q _ hf⟩
 exact ⟨z,us,r,⟨_,YI _ rfl,rfl,_,rfl⟩⟩
theorem Bo (h:PA X es t):PE X (.List es pos) (tLst t):=by
 intro c s g H Q j i;refine wpAny_List_spliced (thn (h pos c s g H _ j i) λ us a ⟨xs,d,f,r,z,q⟩=>⟨by rw [<- r.length];exact z,?_⟩)
 have hf:d a.heap.objs.size=none:=f.hok.fresh (ZE _);refine ⟨.ref a.heap.objs.size,upd d a.heap.objs.size (.lst xs),f.laid (t':=a.toks) (λ b u e=>X2 _ e) (ZE _) ?_,rfl,q _ hf⟩
 exact ⟨z,us,0,r,YI _ rfl⟩
end
abbrev Sp:=List V->Hp->VK->XK->Prop
abbrev CXT:=List Env->Hp->X1->XK->Value->X1->Prop
structure Env0 (P:ZU)(w:World)(K:FrG)(mg:Str->Option Value)(base:Heap)(A:XA)(outer:List Env)(s:X1)(H:Hp):Prop where
 frames:A.frames=some outer
 mod:Mod K mg base
 bs:∀b o,base.get? b=some o->s.heap.get? b=some o/\H b=none
 bsz:base.objs.size<=s.heap.objs.size
 funs:s.heap.FunFrames base outer
 frf:∀b∈frs outer,H b=none
 hok:HOk P w H s.heap
 bare:wS s.gens
def CE (outer:List Env)(P:ZU)(w:World)(H:Hp)(s:X1)(Q:VK)(u:Value)(s':X1):Prop:=
 ∃v a,s'.os=s.os/\wS s'.gens/\Un (frs outer) [] H a s.heap s'.heap/\HOk P w a s'.heap/\RelV v u/\Q v a
def CR (CX:CXT)(outer:List Env)(P:ZU)(w:World)(H:Hp)(s:X1)(Q:VK)(E:XK)(r:Result)(s':X1):Prop:=
 match r with
 | .ok (.ret u)=>CE outer P w H s Q u s'
 | .ok _=>False
 | .error e=>CX outer H s E e s'
structure FnOk (P:ZU)(w:World)(K:FrG)(mg:Str->Option Value)(base:Heap)(CX:CXT)(k:Nat)(f:Addr)(fd:UE)(ps:List Str)(sp:Sp):Prop where
 len:∀vs H Q E,sp vs H Q E->vs.length=ps.length
 run:∀(A:XA) (outer:List Env) (s:X1) (H:Hp) (args:Args) (us:List Value) (vs:List V) (Q:VK) (E:XK),Room k A->Env0 P w K mg base A outer s H->NS s fd args (ps.zip us)->Vals vs us->sp vs H Q E->(1<=s.toks\/∃x r,ps=x::r/\fd.scope.names.lookup x=some .local)->
  wh (model P w) A (.call (.ref f) args) (CR CX outer P w H s Q E) s
theorem Env0.make {P:ZU}{w:World}{K:FrG}{mg:Str->Option Value}{base:Heap}{A:XA}{outer:List Env}{s:X1}{H:Hp}(e:Env0 P w K mg base A outer s H)(C:Addr)(us:List Value)(a:List (Str×Value)):
  Env0 P w K mg base (A.under (.builtin "type.__call__" ⟨.ref C::us,a⟩)) outer s H:=⟨by first | exact e.frames | (simpa [Ct,Code.envs,CA,pushEnvs] using e.frames),e.mod,e.bs,e.bsz,e.funs,e.frf,e.hok,e.bare⟩
section
variable {X:Cx}{pins:List (Addr×Obj)}{σ:St}{H:Hp}{s s':X1}
theorem Inv.env0 (a:Inv X pins σ H s):Env0 X.prog X.w X.K X.mg X.base X.A X.stack s H:=
 ⟨a.ok.frames,a.ok.mod,a.bs,W8 a.ok.bsz a.sz,a.stack,a.stkFree,a.hok,a.bare⟩
theorem Inv.after {Q:VK}{u:Value}(f:Inv X pins σ H s)(h:CE X.stack X.prog X.w H s Q u s')(ht:X.tb<=s'.toks:=by assumption):EP X pins σ Q u s':=by
 obtain ⟨v,c,os,bare,un,hok,r,q⟩:=h;obtain ⟨e,g,d,t,a⟩:=s';obtain rfl:a=s.os:=os;exact ⟨v,c,f.call (h':=e) (g':=g) (d':=d) (t':=t) (ch:=[]) un hok bare (λ b z=>absurd z (by simp)),r,q⟩
end
def tCall (sp:Sp)(dvs:List V)(E:XK)(t:TA):TE:=λ a H Q=>t a H λ vs b=>sp (vs++dvs) b Q E
def tMake (C:Addr)(sp:Sp)(dvs:List V)(E:XK)(t:TA):TE:=λ b H Q=>t b H λ vs a=>∀x dx,a x=none->a dx=none->dx≠x->
 sp (.ref x::(vs++dvs)) (upd (upd a dx (.own x)) x (.ins C dx [])) (λ v c=>v=.non/\Q (.ref x) c) E
def Binds (K:FrG)(fd:UE)(ps:List Str)(ds:List Value):Prop:=
 ∀(s:X1) (us:List Value),K.In s.heap->(us++ds).length=ps.length->NS s fd ⟨us,[]⟩ (ps.zip (us++ds))
theorem Binds.all {K:FrG}{fd:UE}{ps:List Str}(h:∀us:List Value,us.length=ps.length->jl fd ⟨us,[]⟩=pure (ps.zip us)):Binds K fd ps []:=λ s us _ hl=>by
 rw [WC] at hl ⊢;exact .of_eq (h us hl)
def Passes (CX:CXT)(X:Cx)(E:XK):Prop:=∀(a:List (Addr×Obj)) (b:St) (H:Hp) (s:X1) (e:Value) (s':X1),Inv X a b H s->CX X.stack H s E e s'->X.tb<=s'.toks->X.xe e s'
section
variable {X:Cx}{CX:CXT}{k:Nat}{f C:Addr}{fd:UE}{ps:List Str}{sp:Sp}{dvs:List V}{ds:List Value}{E:XK}{x m:Str}{p pos apos:Pos}{e o:Expr}{es:List Expr}{ta:TE}{t:TA}
theorem QC {a:List (Addr×Obj)}{c:St}{H:Hp}{s:X1}{Q:VK}{us:List Value}{vs:List V}(F:FnOk X.prog X.w X.K X.mg X.base CX k f fd ps sp)(g:Room k X.A)(hb:Binds X.K fd ps ds)(hd:Vals dvs ds)(i:Passes CX X E)
  (d:Inv X a c H s) (r:Vals vs us) (h:sp (vs++dvs) H Q E):wpAny (model X.prog X.w) X.A (call (.ref f) us) (EP X a c Q) X.xe s:=by
 have r2:Vals (vs++dvs) (us++ds):=r.append hd;have hl:(us++ds).length=ps.length:=by rw [<- r2.length];exact F.len _ _ _ _ h
 refine qq (xI d.tk (wT (F.run X.A X.stack s H ⟨us,[]⟩ (us++ds) (vs++dvs) Q E g d.env0 (hb s us d.kIn hl) r2 h (.inl d.tk1)) λ r s' b ht=>?_))
 cases r with
 | error e=>exact i a c H s e s' d b ht
 | ok j=>
  cases j with
  | ret u=>exact d.after b
  | next=>exact WE b
  | brk=>exact WE b
  | cont=>exact WE b
structure Mk (K:FrG)(C f:Addr):Prop where
 makes:xw K C=true
 init:ZH K (.ref C) "__init__"=some (some (.ref f))
 fn:UB K (.ref f)=true
 kp:YJ K (.ref C)=true
theorem bu {b:List (Addr×Obj)}{d:St}{H:Hp}{s:X1}{Q:VK}{us:List Value}{vs:List V}(M:Mk X.K C f)(F:FnOk X.prog X.w X.K X.mg X.base CX k f fd ps sp)(j:Room (k+1) X.A)(hb:Binds X.K fd ps ds)(hd:Vals dvs ds)
  (l:Passes CX X E) (i:Inv X b d H s) (r:Vals vs us)
  (h:∀x dx,H x=none->H dx=none->dx≠x->sp (.ref x::(vs++dvs)) (upd (upd H dx (.own x)) x (.ins C dx [])) (λ v n=>v=.non/\Q (.ref x) n) E):
  wpAny (model X.prog X.w) X.A (call (.ref C) us) (EP X b d Q) X.xe s:=by
 have g:=h (s.heap.objs.size+1) s.heap.objs.size (i.hok.fresh (WV _)) (i.hok.fresh (ZE _)) (YP (Qb _));have c:=Inv.made (C:=C) i;have r2:Vals (V.ref (s.heap.objs.size+1)::(vs++dvs)) (Yf (s.heap.objs.size+1)::(us++ds)):=.cons rfl (r.append hd);have hl:(Yf (s.heap.objs.size+1)::us++ds).length=ps.length:=by
  have e:=r2.length;rw [F.len _ _ _ _ g] at e;exact e.symm
 refine qq (AN5 (f:=f) i.kIn M.makes M.init (beq_iff_eq.mp M.fn) (xI c.tk (wT (F.run _ X.stack _ _ ⟨Yf (s.heap.objs.size+1)::us,[]⟩ (Yf (s.heap.objs.size+1)::(us++ds)) _ _ E (j.make C us [])
  (c.env0.make C us []) (hb _ (Yf (s.heap.objs.size+1)::us) c.kIn hl) r2 g (.inl c.tk1)) λ r s' a ht=>?_)))
 cases r with
 | error e=>exact l b d _ _ e s' c a ht
 | ok q=>
  cases q with
  | ret u=>
   obtain ⟨v,y,z,B,D,G⟩:=c.after a;subst D;exact ⟨B,⟨V.ref (s.heap.objs.size+1),y,z,rfl,G⟩⟩
  | next=>exact WE a
  | brk=>exact WE a
  | cont=>exact WE a
theorem zR (M:Mk X.K C f)(F:FnOk X.prog X.w X.K X.mg X.base CX k f fd ps sp)(g:Room (k+1) X.A)(i:Gl X x)(hm:X.mg x=some (.ref C))(hb:Binds X.K fd ps ds)(hd:Vals dvs ds)(j:Passes CX X E)
  (ha:PA X (e::es) t) (b:(x == ("__debug__":Str))=false:=by decide) (l:YE (e::es) X.env=(false,eval e X.env)::YE es X.env:=by rfl) (c:(Qe pos (YE es X.env)).any (·.1)=false:=by rfl):
  PE X (.Call (.Name x p) (e::es) [] pos) (tMake C sp dvs E t):=by
 intro a s n H Q u h;refine UZ (EY u i hm ?_ b);refine UX (h₀:=X.base) u.ok.mod.kin M.kp (thn (ha pos a s n H _ u h) λ us v ⟨vs,y,d,r,q⟩=>⟨d.kIn,?_⟩) l c
 exact bu M F g hb hd j d r q
theorem uJ (M:Mk X.K C f)(F:FnOk X.prog X.w X.K X.mg X.base CX k f fd ps sp)(b:Room (k+1) X.A)(c:Gl X x)(hm:X.mg x=some (.ref C))(hb:Binds X.K fd ps ds)(hd:Vals dvs ds)(d:Passes CX X E)
  (a:(x == ("__debug__":Str))=false:=by decide):PE X (.Call (.Name x p) [] [] pos) (tMake C sp dvs E tNil):=by
 intro g s j H Q i h;refine UZ (EY i c hm ?_ a);exact jM i.kIn M.kp (bu (us:=[]) M F b hb hd d i .nil h)
end
structure FnScope (N P:List Str)(sc:Scope):Prop where
 kind:sc.kind=.function
 co:sc.isCoroutine=false
 gen:sc.isGenerator=false
 nd:N.Nodup
 pre:N.take P.length=P
 par:∀x∈P,sc.names.lookup x=some .local\/sc.names.lookup x=some .cell
 nofree:∀y∈sc.names,y.2≠.free
theorem YT {kindOf:Str->Option xl}{x:Str}:∀{binds:List (Str×Value)} {m:Str->Option Value},(∀v,(x,v)∉binds)->bindL kindOf binds m x=m x
 | [],_,_=>rfl
 | (n,v)::r,m,h=>by
  unfold bindL;rw [YT λ w a=>h w (ZX _ a)]
  split
  ·have:x≠n:=by rintro rfl;exact h v YV
   simp [this]
  ·rfl
theorem ZR {kindOf:Str->Option xl}{x:Str}:∀{binds:List (Str×Value)} {m:Str->Option Value},(∀v,(x,v)∉binds)->bindC kindOf binds m x=m x
 | [],_,_=>rfl
 | (n,v)::r,m,h=>by
  unfold bindC;rw [ZR λ w a=>h w (ZX _ a)]
  split
  ·rfl
  ·have:x≠n:=by rintro rfl;exact h v YV
   simp [this]
theorem fB {kindOf:Str->Option xl}{x:Str}{v:Value}:∀{P:List Str} {vs:List Value} {i:Nat} {m:Str->Option Value},P.Nodup->P[i]?=some x->vs[i]?=some v->kindOf x=some .local->
  bindL kindOf (P.zip vs) m x=some v
 | [],_,_,_,_,h,_,_=>by simp at h
 | _::_,[],_,_,_,_,h,_=>by simp at h
 | p::P,w::vs,0,m,nd,a,b,c=>by
  simp at a b;subst a;subst b
  show bindL kindOf ((p,w)::P.zip vs) m p=_;unfold bindL;rw [YT λ v d=>(ue.mp nd).1 (qk d).1,if_pos c]
  simp
 | p::P,w::vs,i+1,m,nd,a,b,c=>by
  show bindL kindOf ((p,w)::P.zip vs) m x=_;unfold bindL;exact fB (i:=i) (ue.mp nd).2 (by simpa using a) (by simpa using b) c
theorem Y4 {kindOf:Str->Option xl}{x:Str}{v:Value}:∀{P:List Str} {vs:List Value} {i:Nat} {m:Str->Option Value},P.Nodup->P[i]?=some x->vs[i]?=some v->kindOf x≠some .local->
  bindC kindOf (P.zip vs) m x=some v
 | [],_,_,_,_,h,_,_=>by simp at h
 | _::_,[],_,_,_,_,h,_=>by simp at h
 | p::P,w::vs,0,m,nd,a,b,c=>by
  simp at a b;subst a;subst b
  show bindC kindOf ((p,w)::P.zip vs) m p=_;unfold bindC;rw [ZR λ v d=>(ue.mp nd).1 (qk d).1,if_neg c]
  simp
 | p::P,w::vs,i+1,m,nd,a,b,c=>by
  show bindC kindOf ((p,w)::P.zip vs) m x=_;unfold bindC;exact Y4 (i:=i) (ue.mp nd).2 (by simpa using a) (by simpa using b) c
def start (N:List Str)(vs:List V):St:=vs.map some++YO (N.length - vs.length) none
def cxOf (CX:CXT)(P:ZU)(w:World)(K:FrG)(mg:Str->Option Value)(base:Heap)(N:List Str)(b:Str)(a:Scope)(f:Addr)(c:Value)(A:XA)(outer:List Env)(s:X1)(H:Hp)(E:XK):Cx where
 prog:=P
 w:=w
 K:=K
 mg:=mg
 base:=base
 A:=A.deeper (ua b a s.heap.objs.size f c)
 N:=N
 s₀:=s
 H₀:=H
 env:=ua b a s.heap.objs.size f c
 outer:=outer
 stack:=ua b a s.heap.objs.size f c::outer
 ex:=[]
 calm:=true
 fn:=λ _=>true
 pn:=[]
 xe:=λ e s'=>wpAny (model P w) (A.deeper (ua b a s.heap.objs.size f c)) (leaving (ua b a s.heap.objs.size f c) e) (λ _ d=>CX outer H s E e d) (λ g d=>CX outer H s E g d) s'
 tb:=1
theorem QZ {a:Scope}{n:Nat}{x:Str}(h:a.names.lookup x=some .cell):∃c,(zC n a.names []).lookup x=some c:=by
 have q:=wx a.names n [] (.inl h);exact xR.mp q
theorem Vs {M:Model}{A:XA}{E:Value->X1->Prop}{f:X1}{g:Scope}{h:Addr}{l:List (Str×Value)}{i:Str}{fo:Option Addr}{co:Value}{bl:Addr}{Q:Env->X1->Prop}
  (q:g.kind=.function)
  (j:∀x∈l,g.names.lookup x.1=some .local\/(g.names.lookup x.1=some .cell/\((zC (f.heap.objs.size+1) g.names []).lookup x.1).isSome=true))
  (ht:1<=f.toks\/∃n v r,l=(n,v)::r/\g.names.lookup n=some .local)
  (s:∀env,env=AH g f.heap.objs.size h (zC (f.heap.objs.size+1) g.names []) i fo co none bl->
   ∀s',InCallC f env.locals (bindL env.kindOf l λ _=>none) env.cells (bindC env.kindOf l λ _=>none) s'->1<=s'.toks->Q env s'):
  wpAny M A (newFunctionEnv g h [] l i fo co none bl) Q E f:=by
 rcases ht with ht | ⟨n,v,r,rfl,hl⟩
 ·exact yl ht (wpAny_newFunctionEnv_cells q j s)
 simp only [FS,if_false,newFunctionEnv,zy];refine Y3 (wpAny_alloc ?_);refine Y3 (wpAny_layCells _ (λ a b d=>by cases hb:b == xl.cell<;>simp [hb]) _ _ _ _ ?_)
 have ok:=cellsFrom_ok g.names (f.heap.push { cls:=.type "frame",data:=.dict #[] }) (f.heap.objs.size+1) [] ⟨λ _ _ hm=>(nomatch hm),CC⟩ (by rw [Ug];exact ZE _)
 rw [Ug] at ok;rw [show ({ f with heap:=f.heap.push { cls:=.type "frame",data:=.dict #[] } }:X1).heap.objs.size=f.heap.objs.size+1 from Ug ..]
 have x:InCallC f (AH g f.heap.objs.size h (zC (f.heap.objs.size+1) g.names []) i fo co none bl).locals (λ _=>none) (AH g f.heap.objs.size h (zC (f.heap.objs.size+1) g.names []) i fo co none bl).cells (λ _=>none) { f with heap:=pushCells (f.heap.push { cls:=.type "frame",data:=.dict #[] }) g.names }:=
  ⟨⟨⟨_,_,rfl⟩,(Heap.Ns.new f.heap (.type "frame")).keeps (pushCells_keeps _ _),λ b o e=>pushCells_keeps _ _ b o (X2 _ e),ZE _⟩,
   λ n c m=>(ok.empty n c (mem_of_lookup m)).1,ok.apart,λ n c hm=>(ok.empty n c hm).2⟩
 refine Y3 ?_;rw [zl];refine Y3 (Y3 (wpAny_storeName_local (env:=AH g f.heap.objs.size h (zC (f.heap.objs.size+1) g.names []) i fo co none bl) hl x.toInCall.ns (λ h' t p=>?_) (by show (g.kind == _ || (g.kind == _ && _))=false;rw [q];rfl)))
 refine ZI ?_;have w:InCallC f (AH g f.heap.objs.size h (zC (f.heap.objs.size+1) g.names []) i fo co none bl).locals (λ y=>if y=n then some v else none) (AH g f.heap.objs.size h (zC (f.heap.objs.size+1) g.names []) i fo co none bl).cells (λ _=>none) { f with heap:=h',toks:=f.toks+1 }:=by
  refine ⟨⟨⟨h',_,rfl⟩,t,λ b o e=>?_,x.toInCall.fresh⟩,λ k c m=>?_,x.apart,x.above⟩
  ·exact p.extBut b o (YP (Zu (ZT e) x.toInCall.fresh)) (x.toInCall.keep b o e)
  ·exact (x.cell k c m).sameBut p (XW (x.above k c (mem_of_lookup m)))
 refine yl (n:=1) (BC _ _) ?_;refine wpAny_bindParams (s₀:=f) (env:=AH g f.heap.objs.size h (zC (f.heap.objs.size+1) g.names []) i fo co none bl)
  _ (λ _ _ _=>rfl) q r _ _ _ _ w (λ y z=>j y (ZX _ z)) λ s' B u=>ZI (s _ rfl s' ?_ u)
 unfold bindL bindC;rw [if_pos (show (AH g f.heap.objs.size h (zC (f.heap.objs.size+1) g.names []) i fo co none bl).kindOf n=some .local from hl),if_pos (show (AH g f.heap.objs.size h (zC (f.heap.objs.size+1) g.names []) i fo co none bl).kindOf n=some .local from hl)];exact B
theorem aR {s:X1}{ps:List Str}{us:List Value}{vs:List V}{c:Scope}(hl:vs.length=ps.length)(r:Vals vs us)(h:1<=s.toks\/∃x r,ps=x::r/\c.names.lookup x=some .local):1<=s.toks\/∃n v r,ps.zip us=(n,v)::r/\c.names.lookup n=some .local:=by
 rcases h with h | ⟨x,d,rfl,h⟩
 ·exact .inl h
 ·cases r with
  | nil=>cases hl
  | cons a b=>exact .inr ⟨x,_,_,rfl,h⟩
section
variable {X:Cx}{x:Str}{p pos:Pos}{e:Expr}{es:List Expr}{t:TA}{id T:String}{r:List V->Hp->VK->Prop}
def tCB (r:List V->Hp->VK->Prop)(t:TA):TE:=λ a H Q=>t a H λ vs b=>r vs b Q
theorem BW (f:CallR X (.builtin id) r)(g:Gl X x)(hm:X.mg x=none)(i:UY x=some (.builtin id))(ha:PA X (e::es) t)(hn:x≠"__name__":=by decide)(b:(x == ("__debug__":Str))=false:=by decide)
  (j:YE (e::es) X.env=(false,eval e X.env)::YE es X.env:=by rfl) (c:(Qe pos (YE es X.env)).any (·.1)=false:=by rfl):PE X (.Call (.Name x p) (e::es) [] pos) (tCB r t):=by
 intro a s d H Q o h;refine UZ (JF o g hm i ?_ hn b);exact PyProof.Rows.callWith_builtin1 (thn (ha pos a s d H _ o h) λ us k ⟨vs,l,m,r1,n⟩=>f a k d l vs us Q m r1 n) j c
theorem Jg (f:CallR X (.type T) r)(g:Gl X x)(hm:X.mg x=none)(i:UY x=some (.type T))(ha:PA X (e::es) t)(hn:x≠"__name__":=by decide)(b:(x == ("__debug__":Str))=false:=by decide)
  (j:YE (e::es) X.env=(false,eval e X.env)::YE es X.env:=by rfl) (c:(Qe pos (YE es X.env)).any (·.1)=false:=by rfl):PE X (.Call (.Name x p) (e::es) [] pos) (tCB r t):=by
 intro a s d H Q o h;refine UZ (JF o g hm i ?_ hn b);exact yv (thn (ha pos a s d H _ o h) λ us k ⟨vs,l,m,r1,n⟩=>f a k d l vs us Q m r1 n) j c
end
end L2
namespace HT
open PySem PyProof.Rows
section
variable {prog:ZU}{w:World}{A:XA}{E:Value->X1->Prop}{s:X1}
def sIx (n d:Nat):Option Int->Nat
 | none=>d
 | some v=>if v < 0 then (v+(n:Int)).toNat else min v.toNat n
theorem VM (n d:Nat):sIx n d none=d:=rfl
theorem Im (n d k:Nat):sIx n d (some (k:Int))=min k n:=by
 show (if (k:Int) < 0 then ((k:Int)+(n:Int)).toNat else min (k:Int).toNat n)=min k n
 rw [if_neg ∅,UC]
theorem qO (n d:Nat)(hd:d<=n)(o:Option Int):sIx n d o<=n:=by
 cases o with
 | none=>exact hd
 | some v=>
  show (if v < 0 then (v+(n:Int)).toNat else min v.toNat n)<=n
  by_cases a:v < 0
  ·rw [if_pos a];omega
  ·rw [if_neg a];exact Nat.min_le_right _ _
theorem Y9 (v:Int)(n d:Nat):(if v < 0 then max (v+(n:Int)) 0 else min v (n:Int))=((sIx n d (some v):Nat):Int):=by
 show (if v < 0 then max (v+(n:Int)) 0 else min v (n:Int))=(((if v < 0 then (v+(n:Int)).toNat else min v.toNat n):Nat):Int)
 by_cases a:v < 0
 ·simp only [if_pos a];omega
 ·simp only [if_neg a];omega
theorem rZ (lo hi:Option Int)(n:Nat):jF lo hi 1 (n:Int)=(((sIx n 0 lo:Nat):Int),((sIx n n hi:Nat):Int)):=by
 have a:¬ ((1:Int) < 0):=by omega
 unfold jF;simp only [a,if_false];refine Prod.ext ?_ ?_
 ·cases lo with
  | none=>rfl
  | some v=>exact Y9 v n 0
 ·cases hi with
  | none=>rfl
  | some v=>exact Y9 v n n
theorem AH2 (i j:Nat):xv (i:Int) (j:Int) 1=j - i:=by
 unfold xv;have a:(1:Int) > 0:=by omega
 simp only [a,if_true,Int.ediv_one]
 split<;>omega
theorem aL {v:Value}{o:Option Int}{Q:Option Int->X1->Prop}(p:AI v o)(h:Q o s):wpAny (model prog w) A (XI.Slice.slicePartIndex v) Q E s:=by
 cases p with
 | none=>exact slicePart_none h
 | int i t=>exact slicePart_int h
theorem yK {e:Addr}{c d:Value}{lo hi:Option Int}{n:Nat}{Q:Int×Int×Nat->X1->Prop}(f:s.heap.IsSliceOf e c d .none)(pl:AI c lo)(g:AI d hi)
  (h:Q (((sIx n 0 lo:Nat):Int),1,sIx n n hi - sIx n 0 lo) s):wpAny (model prog w) A (FT (.ref e) (pure (n:Int))) Q E s:=by
 obtain ⟨os,a,i,b⟩:=id f;unfold FT XI.Slice.sliceFields;refine Y3 (Y3 (Uf a b (x:=c) rfl (Y3 (Uf a b (x:=d) rfl (Y3 (Uf a b (x:=.none) rfl (ZI ?_)))))));refine Y3 (slicePart_none ?_);show wpAny _ _ (if ((1:Int) == 0)=true then _ else _) _ _ s
 rw [if_neg ⋯]
 refine Y3 (aL pl (Y3 (aL g (Y3 (ZI ?_)))));show wpAny _ _ (match jF lo hi 1 (n:Int) with | (lo,hi)=>pure (lo,(1:Int),xv lo hi 1)) _ _ s
 rw [rZ lo hi n];show wpAny _ _ (pure (((sIx n 0 lo:Nat):Int),(1:Int),xv ((sIx n 0 lo:Nat):Int) ((sIx n n hi:Nat):Int) 1)) _ _ s;rw [AH2];exact ZI h
theorem AN0 (xs:Array Value)(i k:Nat):((QE k).filterMap λ (m:Nat)=>xs[((i:Int)+(m:Int) * 1).toNat]?).toArray=((xs.toList.drop i).take k).toArray:=by
 have e:(λ (m:Nat)=>xs[((i:Int)+(m:Int) * 1).toNat]?)=λ m=>xs[i+m]?:=by
  funext m
  have:((i:Int)+(m:Int) * 1).toNat=i+m:=by omega
  rw [this]
 rw [e];have:=pick_run xs i k;rw [FU] at this;have e2:((λ x=>xs[x]?) ∘ λ x=>i+x)=λ m=>xs[i+m]?:=rfl
 rw [e2] at this;rw [this]
theorem zN {t b:Addr}{items:Array Value}{c d:Value}{lo hi:Option Int}{Q:Value->X1->Prop}(ht:IsTup s.heap t items)(e:s.heap.IsSliceOf b c d .none)(pl:AI c lo)(k:AI d hi)
  (l:¬ (sIx items.size 0 lo=0/\sIx items.size items.size hi=items.size))
  (h:Q (.ref s.heap.objs.size) { s with heap:=s.heap.push { cls:=.type "tuple",data:=.seq ((items.toList.drop (sIx items.size 0 lo)).take (sIx items.size items.size hi - sIx items.size 0 lo)).toArray } })
  (hsz:items.size<=X3):wpAny (model prog w) A (NQ (.ref t) (.ref b)) Q E s:=by
 have a:sizeOk (.seq ((items.toList.drop (sIx items.size 0 lo)).take (sIx items.size items.size hi - sIx items.size 0 lo)).toArray):=by
  show ((items.toList.drop (sIx items.size 0 lo)).take (sIx items.size items.size hi - sIx items.size 0 lo)).toArray.size<=X3;rw [YU,WS,List.length_drop,Jx];omega
 have o:sIx items.size items.size hi<=items.size:=qO _ _ (ZE _) hi;obtain ⟨os,f,g,n⟩:=id e;have i:s.TypeIs (.ref b) "slice":=⟨os,f,g⟩;unfold NQ
 try with_reducible refine WI ?_
 first | refine Y3 (ZI ?_) | skip
 refine Y3 (wpAny_sequenceKey ht.typeIs ⋯ ?_)
 refine Y3 (za (name:=Y2 "__getitem__") ht.typeIs we
  (wn we ht.typeIs entry_tuple_getitem ?_ (args_tuple_getitem _ _)))
 show wpAny _ _ (XI.Tuple.tupleItemsOf (.ref t) >>= _) _ _ s;refine Y3 (tupleItemsOf_ ht ?_);refine Y3 (wpAny_typeOf i ?_);rw [if_pos ⋯]
 refine Y3 (yK e pl k ?_);have j:¬ ((((sIx items.size 0 lo:Nat):Int) == 0 && (1:Int) == 1 && (sIx items.size items.size hi - sIx items.size 0 lo) == items.size)=true):=by
  intro q;rw [xa,xa] at q;have p:((sIx items.size 0 lo:Nat):Int)=0:=eq_of_beq q.1.1;have r:sIx items.size items.size hi - sIx items.size 0 lo=items.size:=eq_of_beq q.2;exact l ⟨by omega,by omega⟩
 show wpAny _ _ (if (((sIx items.size 0 lo:Nat):Int) == 0 && (1:Int) == 1 && (sIx items.size items.size hi - sIx items.size 0 lo) == items.size)=true then _ else _) _ _ s
 rw [if_neg j,AN0]
 first
  | exact Y3 (m:=xS _) (JJ (ZI ⟨_,rfl,ZI h⟩) a)
  | exact Y3 (m:=xS _) (JJ (Y3 (ZI (ZI ⟨_,rfl,ZI h⟩))) a)
  | exact Y3 (Y3 (m:=xS _) (JJ (ZI (ZI ⟨_,rfl,ZI h⟩)) a))
  | exact Y3 (Y3 (m:=xS _) (JJ (ZI ⟨_,rfl,ZI h⟩) a))
end
end HT
namespace L2
open PySem PySem.Spec PyProof.Rows
abbrev TO:=St->Hp->(Option Int->Hp->Prop)->Prop
def PO (X:Cx)(e:Option Expr)(t:TO):Prop:=
 ∀(a:List (Addr×Obj)) (s:X1) (b:St) (H:Hp) (Q:Option Int->Hp->Prop),Inv X a b H s->t b H Q->
  wpAny (model X.prog X.w) X.A (evalPart e X.env) (λ u s'=>∃o c,Inv X a b c s'/\AI u o/\Q o c) X.xe s
def tNoPart:TO:=λ _ H Q=>Q none H
def tPart (t:TE):TO:=λ a H Q=>t a H λ x b=>∃i,x=.int i/\Q (some i) b
section
variable {X:Cx}{e:Expr}{te:TE}{lo hi:Option Expr}{tl th:TO}{pos p2:Pos}
theorem HW:PO X none tNoPart:=by
 intro a s b H Q c h;rw [NX];exact ZI ⟨none,H,c,.none,h⟩
theorem Et (h:PE X e te):PO X (some e) (tPart te):=by
 intro a s b H Q j c;rw [evalPart_some];refine thn (h a s b H _ j c) λ u k ⟨x,d,f,r1,g⟩=>?_
 obtain ⟨i,rfl,q⟩:=g;obtain ⟨t,rfl⟩:=r1;exact ⟨some i,d,f,.int i t,q⟩
def SlR (X:Cx)(r:V->Option Int->Option Int->Hp->VK->Prop):Prop:=
 ∀(a:List (Addr×Obj)) (s:X1) (b:St) (H:Hp) (x:V) (v c d:Value) (lo hi:Option Int) (f:Addr) (Q:VK),Inv X a b H s->RelV x v->s.heap.IsSliceOf f c d .none->AI c lo->AI d hi->r x lo hi H Q->
  ∃T id,typeLookup (.type T) "__getitem__"=pure (some (.builtin id))/\s.TypeIs v T/\wpAny (model X.prog X.w) X.A (NQ v (.ref f)) (EP X a b Q) X.xe s
def tSl (r:V->Option Int->Option Int->Hp->VK->Prop)(te:TE)(tl th:TO):TE:=λ a H Q=>te a H λ x b=>tl a b λ l c=>th a c λ u d=>r x l u d Q
theorem Fb {r:V->Option Int->Option Int->Hp->VK->Prop}(i:SlR X r)(j:PE X e te)(hl:PO X lo tl)(k:PO X hi th):PE X (.Subscript e (.Slice lo hi none p2) pos) (tSl r te tl th):=by
 intro a s c H Q J h;refine GN (thn (j a s c H _ J h) λ v m ⟨x,n,o,r1,p⟩=>?_)
 refine wpAny_Slice (thn (hl a m c n _ o p) λ d t ⟨l,y,z,pl,B⟩=>thn (k a t c y _ z B) λ f s3 ⟨u,g,C,D,E⟩=>?_)
 rw [NX];refine ZI ?_;have F:Inv X a c g { s3 with heap:=s3.heap.push { cls:=.type "slice",data:=.fields #[d,f,.none] } }:=C.kept (t':=s3.toks) λ b ob q=>X2 _ q
 obtain ⟨T,id,G,ht,I⟩:=i a { s3 with heap:=s3.heap.push { cls:=.type "slice",data:=.fields #[d,f,.none] } } c g x v d f l u s3.heap.objs.size Q F r1 (Ce ..) pl D E
 show wpAny (model X.prog X.w) X.A (NY e (.Slice lo hi none p2) v (.ref s3.heap.objs.size)) (EP X a c Q) X.xe { s3 with heap:=s3.heap.push { cls:=.type "slice",data:=.fields #[d,f,.none] } }
 exact tail_any (ops:=[.ref s3.heap.objs.size,v]) ht G I (by with_unfolding_all rfl)
def cutV (xs:List V)(lo hi:Option Int):List V:=(xs.drop (HT.sIx xs.length 0 lo)).take (HT.sIx xs.length xs.length hi - HT.sIx xs.length 0 lo)
theorem Yq (xs:List V)(lo hi:Option Int):(cutV xs lo hi).length<=xs.length:=by
 unfold cutV;rw [WS,List.length_drop];omega
inductive rSlT (K:FrG)(x:V)(lo:Option Int)(hi:Option Int)(H:Hp)(Q:VK):Prop | mk (a xs:_) (_:x=.ref a) (_:SqT K H a xs) (_:¬ (HT.sIx xs.length 0 lo=0/\HT.sIx xs.length xs.length hi=xs.length)) (_:∀p,H p=none->Q (.ref p) (upd H p (.tup (cutV xs lo hi))))
theorem Oe:SlR X (rSlT X.K):=by
 intro g s p H x v t u lo hi w Q i j k pl l h;obtain ⟨a,xs,rfl,m,n,q⟩:=h;cases j
 obtain ⟨d,r,ht,f⟩:=i.tuple m;have c:d.toArray.size=xs.length:=by rw [YU];exact r.length.symm
 refine ⟨"tuple",_,we.lookup,ht.typeIs,?_⟩;refine HT.zN ht k pl l (by rw [c];exact n) ?_ (by rw [c];exact f)
 rw [c];refine ⟨.ref s.heap.objs.size,_,i.laid (t':=s.toks) (o:=.tup (cutV xs lo hi)) (λ b ob q=>X2 _ q) (ZE _) ?_,rfl,q _ (i.hok.fresh (ZE _))⟩
 exact ⟨W8 (Yq xs lo hi) f,_,(r.drop (HT.sIx xs.length 0 lo)).take (HT.sIx xs.length xs.length hi - HT.sIx xs.length 0 lo),IsTup.new _ _⟩
end
def ixN (n:Nat)(i:Int):Option Nat:=if 0<=i then (if i < n then some i.toNat else none) else if -(n:Int)<=i then some (i+n).toNat else none
def atI {a:Type}(xs:List a)(i:Int):Option a:=(ixN xs.length i).bind λ j=>xs[j]?
theorem cL {n:Nat}{i:Int}{j:Nat}(h:ixN n i=some j):seqIndex? i n=some j/\j < n/\-(n:Int)<=i/\i < n:=by
 unfold ixN at h;by_cases b:0<=i
 ·rw [if_pos b] at h;by_cases a:i < n
  ·rw [if_pos a] at h;have e:i.toNat=j:=Ux h;exact ⟨by rw [AJ b a,e],by omega,by omega,a⟩
  ·rw [if_neg a] at h;cases h
 ·rw [if_neg b] at h;by_cases a:-(n:Int)<=i
  ·rw [if_pos a] at h;have e:(i+n).toNat=j:=Ux h;exact ⟨by rw [seqIndex_neg ∅ a,e],by omega,a,by omega⟩
  ·rw [if_neg a] at h;cases h
theorem gY {a:Type}{xs:List a}{i:Int}{v:a}(h:atI xs i=some v):∃j,seqIndex? i xs.length=some j/\xs[j]?=some v/\j < xs.length/\-(xs.length:Int)<=i/\i < xs.length:=by
 unfold atI at h;cases e:ixN xs.length i with
 | none=>rw [e] at h;cases h
 | some j=>
  rw [e] at h;obtain ⟨b,c,d,f⟩:=cL e;exact ⟨j,b,h,c,d,f⟩
theorem Ba {a:Type}{xs:List a}{j:Nat}{v:a}(h:xs[j]?=some v):atI xs (j:Int)=some v:=by
 have b:j < xs.length:=(WJ.mp h).1;have e:ixN xs.length (j:Int)=some j:=by
  unfold ixN;rw [if_pos ∅,if_pos ∅];simp
 unfold atI;rw [e];exact h
def PlainIx (b:Expr):Prop:=∀o i,NO b false o i=operate [o,i] (NQ o i)
def IxR (X:Cx)(r:R2):Prop:=
 ∀(c a:Expr) (b:List (Addr×Obj)) (s:X1) (d:St) (H:Hp) (x y:V) (v u:Value) (Q:VK),Inv X b d H s->RelV x v->RelV y u->r x y H Q->
  NO a false v u=operate [v,u] (NQ v u)->wpAny (model X.prog X.w) X.A (NY c a v u) (EP X b d Q) X.xe s
def MtR (X:Cx)(id:String)(r:V->List V->Hp->VK->Prop):Prop:=
 ∀(a:List (Addr×Obj)) (s:X1) (b:St) (H:Hp) (x:V) (xs:List V) (v:Value) (us:List Value) (Q:VK),Inv X a b H s->RelV x v->Vals xs us->r x xs H Q->
  wpAny (model X.prog X.w) X.A (call (.builtin id) (v::us)) (EP X a b Q) X.xe s
section
variable {X:Cx}{a b:Expr}{ta tb:TE}{pos:Pos}
theorem Ai {r:R2}(d:IxR X r)(ha:PE X a ta)(hb:PE X b tb)(e:PlainIx b:=by exact λ _ _=>rfl):PE X (.Subscript a b pos) (tOp r ta tb):=by
 intro c s f H Q m h;exact GN (binT ha hb m h λ v u g x y i j k l q=>d a b c g f i x y v u Q j k l q (e _ _))
inductive rIxL (K:FrG)(x:V)(y:V)(H:Hp)(Q:VK):Prop | mk (p xs i v:_) (_:x=.ref p) (_:y=.int i) (_:SqL K H p xs) (_:atI xs i=some v) (_:Q v H)
inductive rIxT (K:FrG)(x:V)(y:V)(H:Hp)(Q:VK):Prop | mk (p xs i v:_) (_:x=.ref p) (_:y=.int i) (_:SqT K H p xs) (_:atI xs i=some v) (_:Q v H)
theorem Bq:IxR X (rIxL X.K):=by
 intro A B c s g H x y v u Q L C D h k;obtain ⟨p,xs,i,z,rfl,rfl,E,F,q⟩:=h;cases C
 obtain ⟨t,rfl⟩:=D;obtain ⟨l,r,pl,M⟩:=L.list E;obtain ⟨j,d,G,N,I,J⟩:=gY F;obtain ⟨w,m,n⟩:=r.get G;have hl:=r.length;have hn:=line63;have e:EP X c g Q w s:=⟨z,H,L,n,q⟩;by_cases o:0<=i
 ·have f:i.toNat=j:=by
   rw [AJ o J] at d;exact Ux d
  exact item_listR pl.isList o ∅ (by rw [f];simpa using m) e k
 ·have f:(i+(l.toArray.size:Int)).toNat=j:=by
   rw [seqIndex_neg ∅ I] at d
   rw [YU,<- hl];exact Ux d
  exact subscriptTail_builtinR (x:=w) pl.isList.typeIs slot_list_getitem.lookup
   (wpAny_getItem_list_neg (Q:=λ r s'=>r=w/\EP X c g Q r s') pl.isList ∅ (by rw [YU]<;>omega) ∅ (by rw [f];simpa using m) ⟨rfl,e⟩) k
theorem Ar:IxR X (rIxT X.K):=by
 intro g k c s d H x y v u Q E l m h n;obtain ⟨p,xs,i,z,rfl,rfl,o,A,q⟩:=h;cases l
 obtain ⟨t,rfl⟩:=m;obtain ⟨F,r,pl,G⟩:=E.tuple o;obtain ⟨j,B,C,I,J,L⟩:=gY A;obtain ⟨w,D,e⟩:=r.get C;have hl:=r.length;have hn:=line63;have f:EP X c d Q w s:=⟨z,H,E,e,q⟩;exact subscriptTail_builtinR (x:=w) pl.typeIs slot_tuple_getitem.lookup
  (getItem_tuple (j:=j) (Q:=λ r s'=>r=w/\EP X c d Q r s') pl ∅ ∅ (by rw [YU,<- hl];exact B) (by simpa using D) ⟨rfl,f⟩) n
theorem AI8 (c:List Value)(n j:Nat)(u:Value):MN (·.setIfInBounds j u) { cls:=.type "list",data:=.seq c.toArray n }={ cls:=.type "list",data:=.seq (c.set j u).toArray n }:=by
 simp [MN]
theorem Inv.lst {d:List (Addr×Obj)}{f:St}{H:Hp}{s:X1}{p:Addr}{xs:List V}(g:Inv X d f H s)(h:H p=some (.lst xs)):
  ∃(c:List Value) (n:Nat),Vals xs c/\s.heap.get? p=some { cls:=.type "list",data:=.seq c.toArray n }/\xs.length<=X3:=by
 obtain ⟨z,c,n,r,e⟩:=g.hok p _ h;exact ⟨c,n,r,e,z⟩
theorem Inv.lstUpd {c:List (Addr×Obj)}{j:St}{H:Hp}{s:X1}{p:Addr}{xs g:List V}{d its':List Value}{n i:Nat}{f:Obj->Obj}(m:Inv X c j H s)(h:H p=some (.lst xs))
  (k:s.heap.get? p=some { cls:=.type "list",data:=.seq d.toArray n }) (hf:f { cls:=.type "list",data:=.seq d.toArray n }={ cls:=.type "list",data:=.seq its'.toArray i }) (r:Vals g its') (l:g.length<=X3) (t:Nat) (ht:X.tb<=t:=by first | assumption | exact Inv.tk (by assumption) | exact Xh (Inv.tk (by assumption)) | exact W8 (Inv.tk (by assumption)) (by assumption) | (have:=Inv.tk (by assumption);omega) | (have:=Inv.tk (by assumption);dsimp only at this;omega)):
  Inv X c j (upd H p (.lst g)) { s with heap:=s.heap.update p f,toks:=t }:=by
 have e:(s.heap.update p f).get? p=some { cls:=.type "list",data:=.seq its'.toArray i }:=by
  rw [XV f k (by rw [hf]<;>rfl),hf]
 refine m.write (x:=p) (e:=p) (by rw [h];trivial) (.inl rfl) (λ b u hb q=>(XY _ _ (WU hb)).trans q) ⟨_,e⟩ ?_
 exact ⟨l,its',i,r,e⟩
inductive rSetL (o:V)(i:V)(v:V)(H:Hp)(Q:(Hp->Prop)):Prop | mk (p xs k j:_) (_:o=.ref p) (_:i=.int k) (_:H p=some (.lst xs)) (_:ixN xs.length k=some j) (_:Q (upd H p (.lst (xs.set j v))))
theorem cB:PSet X rSetL:=by
 intro e s z H o i v G I u Q F A B C h;obtain ⟨p,xs,k,j,rfl,rfl,l,D,q⟩:=h;cases A
 obtain ⟨t,rfl⟩:=B;obtain ⟨d,n,r,f,E⟩:=F.lst l;obtain ⟨c,J,m,w⟩:=cL D;have hl:=r.length;have hn:=line63;have x:Inv X e z (upd H p (.lst (xs.set j v))) { s with heap:=s.heap.update p (MN (·.setIfInBounds j u)) }:=
  F.lstUpd l f (AI8 d n j u) (r.set C j) (by rw [List.length_set];exact E) s.toks
 by_cases y:0<=k
 ·have g:k.toNat=j:=by
   rw [AJ y w] at c;exact Ux c
  exact PySem.W.ki_setAt f y ∅ (by rw [YU,<- hl];exact w) (by rw [g];exact ⟨_,x,q⟩)
 ·have g:(k+(d.toArray.size:Int)).toNat=j:=by
   rw [seqIndex_neg ∅ m] at c
   rw [YU,<- hl];exact Ux c
  exact PySem.W.ki_setBack f ∅ (by rw [YU,<- hl];exact m) ∅ (by rw [g];exact ⟨_,x,q⟩)
theorem uR (lo hi:Option Int)(n:Nat):(qE lo hi none n).1=((HT.sIx n 0 lo:Nat):Int)/\(qE lo hi none n).2.1=((HT.sIx n n hi:Nat):Int)/\(qE lo hi none n).2.2=1:=by
 refine ⟨?_,?_,rfl⟩
 ·cases lo with
  | none=>simp [qE,HT.sIx]
  | some i=>
   simp only [qE,HT.sIx,Option.getD_none,show (1:Int) > 0 by decide,if_true]
   by_cases h:i < 0
   ·simp only [h,if_true]<;>omega
   ·simp only [h,if_false]<;>omega
 ·cases hi with
  | none=>simp [qE,HT.sIx]
  | some i=>
   simp only [qE,HT.sIx,Option.getD_none,show (1:Int) > 0 by decide,if_true]
   by_cases h:i < 0
   ·simp only [h,if_true]<;>omega
   ·simp only [h,if_false]<;>omega
theorem xZ (c:List Value)(lo hi:Option Int):slicePick c.toArray lo hi none=((c.drop (HT.sIx c.length 0 lo)).take (HT.sIx c.length c.length hi - HT.sIx c.length 0 lo)).toArray:=by
 obtain ⟨d,e,f⟩:=uR lo hi c.toArray.size;unfold slicePick;rw [d,e,f];simp only [sliceRange_one,pick_run,YU]<;>rfl
inductive rSlL (K:FrG)(x:V)(lo:Option Int)(hi:Option Int)(H:Hp)(Q:VK):Prop | mk (a xs:_) (_:x=.ref a) (_:SqL K H a xs) (_:∀p,H p=none->Q (.ref p) (upd H p (.lst (cutV xs lo hi))))
theorem Oi:SlR X (rSlL X.K):=by
 intro d s m H x v n p lo hi t Q e f g pl i h;obtain ⟨a,xs,rfl,j,q⟩:=h;cases f
 obtain ⟨l,r,ht,k⟩:=e.list j;have c:=r.length;refine ⟨"list",_,slot_list_getitem.lookup,ht.isList.typeIs,?_⟩;refine wpAny_getItem_list_slice ht.isList g pl i .none (by simp) ?_ (by rw [YU]<;>omega)
 rw [xZ,<- c];refine ⟨.ref s.heap.objs.size,_,e.laid (t':=s.toks) (o:=.lst (cutV xs lo hi)) (λ b ob q=>X2 _ q) (ZE _) ?_,rfl,q _ (e.hok.fresh (ZE _))⟩
 exact ⟨W8 (Yq xs lo hi) k,_,0,(r.drop (HT.sIx xs.length 0 lo)).take (HT.sIx xs.length xs.length hi - HT.sIx xs.length 0 lo),YI _ rfl⟩
def flatV:V->Bool
 | .non=>true
 | .bl _=>true
 | .int _=>true
 | .str _=>true
 | _=>false
def eqV:V->V->Bool
 | .non,.non=>true
 | .bl a,.bl b=>a == b
 | .bl a,.int b=>(if a then 1 else 0) == b
 | .int a,.bl b=>a == (if b then 1 else 0)
 | .int a,.int b=>a == b
 | .str a,.str b=>a == b
 | _,_=>false
theorem vq {A:XA}{s:X1}{y x:V}{u v:Value}(d:RelV y u)(c:RelV x v)(f:flatV y=true)(e:flatV x=true):UR A s u v (eqV y x):=by
 cases y with
 | non=>
  cases d
  cases x with
  | non=>cases c;exact UR.same _
  | bl b=>cases c;exact UR.none_bool b
  | int b=>obtain ⟨t,rfl⟩:=c;exact UR.none_int b t
  | str b=>obtain ⟨t,rfl⟩:=c;exact UR.none_str b t
  | _=>exact absurd (show false=true from e) ZL
 | bl a=>
  cases d
  cases x with
  | non=>cases c;exact UR.bool_none a
  | bl b=>cases c;exact UR.bool_bool a b
  | int b=>obtain ⟨t,rfl⟩:=c;exact UR.bool_int a b t
  | str b=>obtain ⟨t,rfl⟩:=c;exact UR.bool_str a b t
  | _=>exact absurd (show false=true from e) ZL
 | int a=>
  obtain ⟨t',rfl⟩:=d;cases x with
  | non=>cases c;exact UR.int_none a t'
  | bl b=>cases c;exact UR.int_bool a t' b
  | int b=>obtain ⟨t,rfl⟩:=c;exact UR.int_int a t' b t
  | str b=>obtain ⟨t,rfl⟩:=c;exact AY a t' b t
  | _=>exact absurd (show false=true from e) ZL
 | str a=>
  obtain ⟨t',rfl⟩:=d;cases x with
  | non=>cases c;exact UR.str_none a t'
  | bl b=>cases c;exact UR.str_bool a t' b
  | int b=>obtain ⟨t,rfl⟩:=c;exact AZ a t' b t
  | str b=>obtain ⟨t,rfl⟩:=c;exact UR.str_str a t' b t
  | _=>exact absurd (show false=true from e) ZL
 | _=>exact absurd (show false=true from f) ZL
def eqU (x:V)(u:Value):Bool:=match u with
 | .none=>eqV .non x
 | .bool b=>eqV (.bl b) x
 | .int i _=>eqV (.int i) x
 | .str z _=>eqV (.str z) x
 | _=>false
theorem cU {x y:V}{u:Value}(r:RelV y u)(f:flatV y=true):eqU x u=eqV y x:=by
 cases y with
 | non=>cases r;rfl
 | bl b=>cases r;rfl
 | int i=>obtain ⟨t,rfl⟩:=r;rfl
 | str z=>obtain ⟨t,rfl⟩:=r;rfl
 | _=>exact absurd (show false=true from f) ZL
theorem U8 {x:V}:∀{xs:List V} {us:List Value},Vals xs us->xs.all flatV=true->us.any (eqU x)=xs.any λ y=>eqV y x
 | _,_,.nil,_=>rfl
 | y::xs,u::us,.cons r t,f=>by
  rw [xW,xa] at f;rw [qa,qa,cU r f.1,U8 t f.2]
theorem SN {A:XA}{s:X1}{x:V}{v:Value}(d:RelV x v)(e:flatV x=true):∀{xs:List V} {us:List Value},Vals xs us->xs.all flatV=true->∀u∈us,UR A s u v (eqU x u)
 | _,_,.nil,_=>λ u c=>by cases c
 | y::xs,u::us,.cons r t,f=>λ g c=>by
  rw [xW,xa] at f;rcases ZN.mp c with rfl | c
  ·rw [cU r f.1];exact vq r d f.1 e
  ·exact SN d e t f.2 g c
def inV (x:V)(xs:List V):Bool:=xs.any λ y=>eqV y x
inductive rIn (K:FrG)(neg:Bool)(x:V)(y:V)(H:Hp)(Q:VK):Prop | mk (p xs:_) (_:y=.ref p) (_:(SqL K H p xs\/SqT K H p xs)) (_:flatV x=true) (_:xs.all flatV=true) (_:Q (.bl (if neg then !inV x xs else inV x xs)) H)
theorem fZ:OpR X (zk .In) (rIn X.K false):=by
 intro j s m H x y v u Q i f k h;obtain ⟨p,xs,rfl,d,g,fs,q⟩:=h;cases k
 rcases d with d | d
 ·obtain ⟨c,r,pl,l⟩:=i.list d;refine SeqAt.in_listAt (eqU x) pl.isList (λ w e=>SN f g r fs w (by simpa using e)) ⟨.bl _,H,i,rfl,?_⟩
  rw [show c.toArray.any (eqU x)=c.any (eqU x) by simp,U8 r fs]
  exact q
 ·obtain ⟨c,r,pl,l⟩:=i.tuple d;refine SeqAt.in_tupleAt (eqU x) pl (λ w e=>SN f g r fs w (by simpa using e)) ⟨.bl _,H,i,rfl,?_⟩
  rw [show c.toArray.any (eqU x)=c.any (eqU x) by simp,U8 r fs]
  exact q
inductive nA (K:FrG)(xs:List V)(H:Hp)(Q:VK):Prop | mk (p ys:_) (_:xs=[.ref p]) (_:(SqL K H p ys\/SqT K H p ys)) (_:Q (.int ys.length) H)
theorem Cy:CallR X (.builtin "len") (nA X.K):=by
 intro j s m H xs us Q i r h;obtain ⟨p,f,rfl,d,q⟩:=h;obtain ⟨u,rfl,k⟩:=vals1 r;cases k
 have hn:=line63;rcases d with d | d
 ·obtain ⟨g,e,pl,l⟩:=i.list d;have c:=e.length;exact Calls.call_len_list pl.isList (by simp only [YU]<;>omega) ⟨.int f.length,H,i.tok _,⟨s.toks+1,by rw [YU,c]⟩,q⟩
 ·obtain ⟨g,e,pl,l⟩:=i.tuple d;have c:=e.length;exact len_tuple pl (by simp only [YU]<;>omega) ⟨.int f.length,H,i.tok _,⟨s.toks+1,by rw [YU,c]⟩,q⟩
inductive lR (xs:List V)(H:Hp)(Q:VK):Prop | mk (z:_) (_:xs=[.str z]) (_:z.length<=X3) (_:Q (.int z.length) H)
theorem bc:CallR X (.builtin "len") lR:=by
 intro c s d H xs us Q e r h;obtain ⟨z,rfl,f,q⟩:=h;obtain ⟨u,rfl,t,rfl⟩:=vals1 r;have hn:=line63;exact len_str ∅ ⟨.int z.length,H,e.tok _,⟨_,rfl⟩,q⟩
theorem t7:CallR X (.type "tuple") (λ xs H Q=>∃p c,xs=[.ref p]/\((SqL X.K H p c/\∀l,H l=none->Q (.ref l) (upd H l (.tup c)))\/(SqT X.K H p c/\Q (.ref p) H))):=by
 intro d s j H xs us Q n r h;obtain ⟨p,c,rfl,h⟩:=h;obtain ⟨u,rfl,t⟩:=vals1 r;cases t
 rcases h with ⟨g,q⟩ | ⟨g,q⟩
 ·obtain ⟨f,i,pl,k⟩:=n.list g;have v:=i.length;refine call_tuple_list pl.isList (λ h' kp=>?_) (by simp only [YU]<;>omega)
  have m:Inv X d j H { s with heap:=h' }:=n.kept (t':=s.toks) kp
  have x:Inv X d j (upd H h'.objs.size (.tup c)) { s with heap:=h'.push { cls:=.type "tuple",data:=.seq f.toArray } }:=
   m.laid (t':=s.toks) (λ b o e=>X2 _ e) (ZE _) (show ObjOk X.prog X.w _ _ _ (.tup c) from ⟨k,f,i,IsTup.new _ _⟩)
  exact ⟨.ref h'.objs.size,_,x,rfl,q _ (m.hok.fresh (ZE _))⟩
 ·obtain ⟨f,i,pl,k⟩:=n.tuple g;exact call_tuple_same pl ⟨.ref p,H,n,rfl,q⟩
def tyV (K:FrG)(T:String)(x:V)(H:Hp):Prop:=match x with
 | .str _=>T="str"
 | .int _=>T="int"
 | .ref p=>(T="list"/\∃xs,SqL K H p xs)\/(T="tuple"/\∃o,K.lookup p=some o/\o.cls=.type "tuple"/\o.dict=none)\/
   (T="dict"/\((∃c,H p=some (.dK c))\/∃c,H p=some (.dT c)))\/(T="set"/\∃d n,H p=some (.set d n))
 | _=>False
theorem Z6 {f:List (Addr×Obj)}{j:St}{H:Hp}{s:X1}{T:String}{x:V}{v:Value}(g:Inv X f j H s)(r:RelV x v)(ty:tyV X.K T x H):
  s.TypeIs v T/\∀a,v=.ref a->∃ob,s.heap.get? a=some ob/\ob.dict=none:=by
 cases x with
 | str z=>
  obtain ⟨t,rfl⟩:=r;cases (show T="str" from ty)
  exact ⟨wb s z t,λ _ e=>nomatch e⟩
 | int i=>
  obtain ⟨t,rfl⟩:=r;cases (show T="int" from ty)
  exact ⟨typeIs_int s i t,λ _ e=>nomatch e⟩
 | ref p=>
  cases r
  rcases ty with ⟨rfl,xs,k⟩ | ⟨rfl,o,d,l,hd⟩ | ⟨rfl,d⟩ | ⟨rfl,q,n,d⟩
  ·obtain ⟨m,_,pl,_⟩:=g.list k;refine ⟨pl.isList.typeIs,λ a e=>?_⟩
   cases e
   obtain ⟨o,n,e,c,hd,_⟩:=pl;exact ⟨o,e,hd⟩
  ·refine ⟨⟨o,g.kIn p o d,l⟩,λ a e=>?_⟩
   cases e
   exact ⟨o,g.kIn _ o d,hd⟩
  ·have z:∃o,s.heap.get? p=some o/\o.ExactDict:=by
    rcases d with ⟨h,d⟩ | ⟨h,d⟩
    ·obtain ⟨_,_,_,_,o,_,_,e,ex,_⟩:=g.hok p _ d;exact ⟨o,e,ex⟩
    ·obtain ⟨_,_,_,_,o,_,_,e,ex,_⟩:=g.hok p _ d;exact ⟨o,e,ex⟩
   obtain ⟨o,e,ex⟩:=z;refine ⟨⟨o,e,ex.1⟩,λ a e2=>?_⟩
   cases e2
   exact ⟨o,e,ex.2.1⟩
  ·obtain ⟨o,_,_,_,e,ex,_⟩:=g.hok p _ d;refine ⟨⟨o,e,ex.1⟩,λ a e2=>?_⟩
   cases e2
   exact ⟨o,e,ex.2.1⟩
 | _=>exact WE ty
def tBM (K:FrG)(T:String)(r:V->List V->Hp->VK->Prop)(e:TE)(t:TA):TE:=λ c H Q=>e c H λ x d=>tyV K T x d/\t c d λ xs f=>r x xs f Q
variable {o e:Expr}{es:List Expr}{to:TE}{t:TA}{name:Str}{apos cpos:Pos}{T id:String}{r:V->List V->Hp->VK->Prop}
theorem Cm (n:PlainAttrs T)(slot:Slot T name id)(k:typeOf (.builtin id)=pure (.type "method_descriptor"))(hm:MtR X id r)(p:PE X o to)(ha:PA X (e::es) t)
  (f:wc o name X.env (eval o X.env)=eval o X.env:=by rfl)
  (i:((Qe cpos (YE (e::es) X.env)).all (λ x=>!x.1) && (Gw cpos (xL [] X.env)).all (λ x=>x.1.isSome)
   && decide ((e::es).length+([]:List AN).length+(if ([]:List AN).isEmpty then 0 else 1) < 30))=true:=by rfl)
  (g:(apos.endLine == cpos.line)=true:=by rfl) (q:YE (e::es) X.env=(false,eval e X.env)::YE es X.env:=by rfl) (d:(Qe cpos (YE es X.env)).any (·.1)=false:=by rfl):
  PE X (.Call (.Attribute o name apos) (e::es) [] cpos) (tBM X.K T r to t):=by
 intro c s j H Q F h;refine wpAny_Call_method_late f i g rfl (thn (p c s j H _ F h) λ v u ⟨x,w,l,r1,ty,y⟩=>?_)
 obtain ⟨z,A⟩:=Z6 l r1 ty;refine ⟨T,id,n,slot,k,z,A,?_⟩;have m:=ha cpos c u j w _ l y;rw [q] at m ⊢;refine wE (by show (false || (Qe cpos (YE es X.env)).any (·.1))=false;rw [d]<;>rfl) (zO ?_)
 exact thn m λ us B ⟨vs,C,D,r2,E⟩=>hm c B j C x vs v us Q D r1 r2 E
end
def MtM (X:Cx)(id:String)(r:V->List V->Hp->VK->Prop):Prop:=
 ∀(a:List (Addr×Obj)) (s:X1) (b:St) (H:Hp) (x:V) (xs:List V) (v:Value) (us:List Value) (Q:VK),Inv X a b H s->RelV x v->Vals xs us->r x xs H Q->
  wpAny (model X.prog X.w) X.A (call (.builtin id) (v::us)) (EP X a b Q) X.xe s
theorem Vals.one:∀{x:V} {us:List Value},Vals [x] us->∃u,us=[u]/\RelV x u
 | _,_,.cons r .nil=>⟨_,rfl,r⟩
theorem Vals.rep {xs:List V}{us:List Value}(h:Vals xs us):∀k:Nat,Vals (YO k xs).flatten (YO k us).flatten
 | 0=>.nil
 | k+1=>by
  rw [zh,zh,UN,UN];exact Vals.append h (Vals.rep h k)
theorem bK (a:List Value):∀(k:Nat) (b:List Value),
  List.foldl (λ c d=>c++d) b.toArray (YO k a.toArray)=(b++(YO k a).flatten).toArray
 | 0,b=>by simp
 | k+1,b=>by
  have e:b.toArray++a.toArray=(b++a).toArray:=by simp
  have e2:(b++a)++(YO k a).flatten=b++(YO (k+1) a).flatten:=by
   rw [zh,UN,WG]
  rw [<- e2,<- bK a k (b++a),<- e,zh,List.foldl_cons]
section
variable {X:Cx}{pins:List (Addr×Obj)}{σ:St}{H:Hp}{s:X1}{l b:Addr}{xs ys zs:List V}
theorem Inv.lset {a its':List Value}{n:Nat}{f:Array Value->Array Value}{t':Nat}(i:Inv X pins σ H s)(c:H l=some (.lst xs))
  (e:s.heap.get? l=some { cls:=.type "list",data:=.seq a.toArray n }) (hf:f a.toArray=its'.toArray) (d:Vals ys its') (g:ys.length<=X3) (ht:X.tb<=t':=by first | assumption | exact Inv.tk (by assumption) | exact Xh (Inv.tk (by assumption)) | exact W8 (Inv.tk (by assumption)) (by assumption) | (have:=Inv.tk (by assumption);omega) | (have:=Inv.tk (by assumption);dsimp only at this;omega)):
  Inv X pins σ (upd H l (.lst ys)) { s with heap:=s.heap.update l (MN f),toks:=t' }:=by
 have q:=PySem.IsL.update e f;rw [hf] at q;refine i.write (x:=l) (e:=l) (by rw [c];exact trivial) (.inl rfl) (λ j u hb h=>(XY s.heap (MN f) (WU hb)).trans h) ⟨_,q⟩ ?_
 exact ⟨g,its',_,d,q⟩
theorem Inv.lnew {a:List Value}{t':Nat}(e:Inv X pins σ H s)(c:Vals ys a)(d:ys.length<=X3)(ht:X.tb<=t':=by first | assumption | exact Inv.tk (by assumption) | exact Xh (Inv.tk (by assumption)) | exact W8 (Inv.tk (by assumption)) (by assumption) | (have:=Inv.tk (by assumption);omega) | (have:=Inv.tk (by assumption);dsimp only at this;omega)):
  Inv X pins σ (upd H s.heap.objs.size (.lst ys)) { s with heap:=s.heap.push { cls:=.type "list",data:=.seq a.toArray },toks:=t' }:=
 e.laid (λ _ _ q=>X2 _ q) (ZE _) ⟨d,a,0,c,YI _ rfl⟩
theorem Inv.fresh (a:Inv X pins σ H s):H s.heap.objs.size=none:=a.hok.fresh (ZE _)
theorem Inv.lstM (d:Inv X pins σ H s)(c:H l=some (.lst xs)):xs.length<=X3/\∃(a:List Value) (n:Nat),Vals xs a/\xs.length=a.length/\s.heap.get? l=some { cls:=.type "list",data:=.seq a.toArray n }:=by
 obtain ⟨z,a,n,r,e⟩:=d.hok l _ c;exact ⟨z,a,n,r,r.length,e⟩
theorem notLongL {n:Nat}(h:n<=X3):wa n=false:=by
 unfold wa;exact η ∅
end
section
variable {X:Cx}
inductive rAppend (x:V)(vs:List V)(H:Hp)(Q:VK):Prop | mk (l xs y:_) (_:x=.ref l) (_:vs=[y]) (_:H l=some (.lst xs)) (_:xs.length < X3) (_:Q .non (upd H l (.lst (xs++[y]))))
theorem Eg:MtM X "list.append" rAppend:=by
 intro c s j H x vs v us Q i d f h;obtain ⟨l,xs,y,rfl,rfl,b,k,q⟩:=h;cases d
 obtain ⟨u,rfl,g⟩:=f.one;obtain ⟨z,a,n,r,hl,e⟩:=i.lstM b;refine jo F.slot_list_append ⟨_,e,rfl⟩ F.entry_list_append (F.args_list_append_2 _ _) (PySem.list_append l a.toArray n u (by rw [YU];omega)) ⟨e,?_⟩
 refine ⟨.non,_,i.lset (its':=a++[u]) b e (by simp) (r.append (.cons g .nil)) ?_,rfl,q⟩
 rw [ZA,List.length_singleton];omega
inductive rExtend (x:V)(vs:List V)(H:Hp)(Q:VK):Prop | mk (l b xs zs:_) (_:x=.ref l) (_:vs=[.ref b]) (_:H l=some (.lst xs)) (_:H b=some (.lst zs)) (_:xs.length+zs.length<=X3) (_:Q .non (upd H l (.lst (xs++zs))))
theorem Zo:MtM X "list.extend" rExtend:=by
 intro g s w H x vs v us Q i j k h;obtain ⟨l,b,xs,zs,rfl,rfl,f,m,y,q⟩:=h;cases j
 obtain ⟨u,rfl,o⟩:=k.one;cases o
 obtain ⟨z,c,n,r,hl,e⟩:=i.lstM f;obtain ⟨A,a,p,r2,t,e2⟩:=i.lstM m;have hsz:c.toArray.size+a.toArray.size<=X3:=by rw [YU,YU];omega
 have d:¬ (!c.toArray.isEmpty && wa (c.toArray.size+a.toArray.size))=true:=by
  rw [notLongL hsz,FV];exact ZL
 refine jo F.slot_list_extend ⟨_,e,rfl⟩ F.entry_list_extend (F.args_list_extend_2 _ _)
  (AutoSeq1.list_extend_list_list_0 l c.toArray n b a.toArray p d (by rw [YU];omega) ∅) ⟨e,e2,?_⟩
 refine ⟨.non,_,i.lset (its':=c++a) f e (by simp) (r.append r2) ?_,rfl,q⟩
 rw [ZA];omega
inductive rCat (x:V)(y:V)(H:Hp)(Q:VK):Prop | mk (l b xs zs:_) (_:x=.ref l) (_:y=.ref b) (_:H l=some (.lst xs)) (_:H b=some (.lst zs)) (_:xs.length+zs.length<=X3) (_:∀p,H p=none->Q (.ref p) (upd H p (.lst (xs++zs))))
theorem Ep:OpR X (xk .Add) rCat:=by
 intro f s p H x y v u Q d g i h;obtain ⟨l,b,xs,zs,rfl,rfl,j,k,t,q⟩:=h;cases g
 cases i
 obtain ⟨z,c,n,r,hl,e⟩:=d.lstM j;obtain ⟨w,a,A,r2,o,e2⟩:=d.lstM k;refine PySem.P.add_list e e2 ?_ (by rw [YU,YU];omega)
 have m:c.toArray++a.toArray=(c++a).toArray:=by simp
 rw [m];exact ⟨.ref _,_,d.lnew (t':=s.toks) (r.append r2) (by rw [ZA];omega),rfl,q _ d.fresh⟩
inductive rRep (x:V)(y:V)(H:Hp)(Q:VK):Prop | mk (l k xs:_) (_:x=.ref l) (_:y=.int k) (_:H l=some (.lst xs)) (_:-(2 ^ 63)<=k) (_:k < 2 ^ 63) (_:xs.length * k.toNat<=X3) (_:∀p,H p=none->Q (.ref p) (upd H p (.lst (YO k.toNat xs).flatten)))
theorem VG {a:Type}(xs:List a)(k:Nat):(YO k xs).flatten.length=k * xs.length:=by
 induction k with
 | zero=>simp
 | succ k b=>rw [zh,UN,ZA,b,CD,qV]
theorem Th:OpR X (xk .Mult) rRep:=by
 intro w s J H x y v u Q A B C h;obtain ⟨l,k,xs,rfl,rfl,D,E,G,p,q⟩:=h;cases B
 obtain ⟨t,rfl⟩:=C;obtain ⟨z,b,n,r,hl,e⟩:=A.lstM D;have d:b.toArray.size * k.toNat<=X3:=by rw [YU,<- hl];exact p
 have f:¬ b.toArray.size * k.toNat > (2 ^ 63 - 1) / 8:=by
  have:(X3:Nat)<=(2 ^ 63 - 1) / 8:=by decide
  omega
 have g:¬ (!Builtin.List.listFitsIndex k)=true:=by
  rw [fitsIndex_both E G];exact ZL
 have c:¬ wa (b.toArray.size * k.toNat)=true:=by
  rw [notLongL d];exact ZL
 have i:List.foldl (λ j o=>j++o) #[] (YO (if b.toArray.isEmpty=true then 0 else k.toNat) b.toArray)=(YO k.toNat b).flatten.toArray:=by
  have I:∀m:Nat,List.foldl (λ j o=>j++o) #[] (YO m b.toArray)=(YO m b).flatten.toArray:=λ m=>by
   have:=bK b m [];rw [ui] at this;exact this
  rw [I];cases b with
  | nil=>simp
  | cons a K=>rw [if_neg (by simp)]
 refine wpAny_binaryOp_repeat_ref (T:="list") (U:="int") ⋯ ⟨_,e,rfl⟩ (λ s'=>typeIs_int s' k t) noFill_list_mul F.fills_int_mul F.slot_int_rmul repeat_list F.slot_int_index.lookup
  (jo F.slot_int_rmul (typeIs_int s k t) F.entry_int_rmul (F.args_int_rmul_2 _ _) (int___rmul___int_list k t l b.toArray n)
   ⟨e,rfl,⟨_,e,rfl⟩,jo F.slot_list_mul ⟨_,e,rfl⟩ F.entry_list_mul (F.args_list_mul_2 _ _) (AutoListH.list___mul___list_int_3 l b.toArray n k t g f c) ⟨e,?_⟩⟩)
 rw [i];exact ⟨.ref _,_,A.lnew (t':=s.toks) (r.rep k.toNat) (by rw [VG,MO];exact p),rfl,q _ A.fresh⟩
end
end L2
namespace Att
open PySem PySem.W PySem.Calls PyProof.Rows
theorem jV {P:Mb}{h:Heap}:∀(ns:List Int) (vs:List Value),WellAll P h vs (ns.map WData.int)->IntsAre vs ns:=by
 intro ns
 induction ns with
 | nil=>
  intro vs w;rw [MQ] at w;cases w
  exact .nil
 | cons n ns c=>
  intro vs w;rw [YY] at w;cases w with
  | cons a b=>
   cases a
   exact .cons _ _ (c _ b)
theorem jT {l:OpenLaw}{n:Nat}(hn:l.most=some n){P:Mb}{h:Heap}{args:List WData}{b:List Value}
  (c:l.row.toRowW.claim.pre args=true) (j:WellAll P h b args):
  ∃a vs ns,b=[Yf a]/\args=[WData.list (ns.map WData.int)]/\h.get? a=some { cls:=.type "list",data:=.seq vs.toArray }/\IntsAre vs ns/\ns.length<=n:=by
 have k:WShape.hasAll [] args [.list .int]=true:=(pre_splitW c).1;have m:l.pre.holds [] { args:=args }=true:=(pre_splitW c).2;obtain ⟨d,r,rfl,o,p⟩:=hasAllW_cons k;obtain rfl:=hasAllW_nil p;obtain ⟨xs,rfl,s⟩:=hasW_list o;obtain ⟨ns,rfl⟩:=items_int s;have g:ns.length<=n:=by
  unfold OpenLaw.pre at m;have e:(WTm.not (.lt (.lit (.int (n:Int))) (.len (.arg 0)))).holds [] { args:=[.list (ns.map .int)] }=true:=by
   have e:=(holds_andW m).1;rw [hn] at e;exact e
  have f:=condW_of e (w_not (w_lt w_lit (w_len_list (w_arg rfl))));rw [X9] at f;refine Nat.le_of_not_lt λ q=>?_
  have t:(n:Int) < ((ns.length:Nat):Int):=by omega
  first
   | (rw [ζ t] at f;exact absurd f ⋯)
   | (simp at f;omega)
 cases j with
 | cons u v=>
  cases v
  cases u with
  | list w i=>exact ⟨_,_,ns,rfl,rfl,w,jV ns _ i,g⟩
theorem m8 (l:OpenLaw)(args:List WData):l.row.toRowW.claim.post args (.bool true) args=true:=
 postW_of (r:=l.row.toRowW) (X:=(true == true))
  (show WShape.has [] (.bool true) .bool=true by first | rfl | decide | simp [WShape.has,WShape.arms,WShape.armsAll])
  (show (WTm.eq .res (.lit (.bool true))).value [] { args:=args,res:=some (.bool true),after:=args }=some (.bool (true == true)) from w_eq_bool (w_res rfl) w_lit) rfl
theorem uC {l:OpenLaw}{n:Nat}{q:ZU}{c:List Str}{t:(Str->Option Value)->Heap->Prop}{u:World->Heap->Prop}{d:DefRec}
  (hn:l.most=some n) (v:d.params.defaults=[])
  (call:∀(w:World) (s₀ b:X1) (mg j:Str->Option Value) (e:Addr) (o:Obj) (k h g:Value) (a:Addr) (vs:List Value) (ns:List Int),
   Ground q c [] t w s₀ mg j b.heap->u w b.heap->
   b.heap.get? e=some o->o.data=.func (docDef d.name d.params d.body d.scope k h g)->b.heap.CodeRec h d.name->mg d.name=some (.ref e)->
   b.heap.get? a=some { cls:=.type "list",data:=.seq vs.toArray }->IntsAre vs ns->ns.length<=n->b.gens=#[]->
   wh (model l.prog w) AO (.call (.ref e) ⟨[.ref a],[]⟩) (λ r s'=>r=.ok (.ret (.bool true))/\OldK b.heap s'.heap/\s'.os=b.os/\wS s'.gens) b):
  WalkO q c t u l.row.toRowW d [] (λ f vs=>PySem.call f vs):=by
 intro w s₀ b mg j M N e o k h g B kV C hd x y z D args E O m F K A L;obtain rfl:B=.none:=Dflts.none y v;obtain rfl:kV=.none:=Dflts.noKw y;obtain ⟨a,vs,ns,rfl,rfl,p,i,s⟩:=jT hn m A;refine enter_call (wT (call w s₀ b mg j e o k h g a vs ns M N C (fd_plain hd) x z p i s D) λ r s' G=>?_)
 obtain ⟨rfl,H,I,J⟩:=G;exact ⟨.inl ⟨.bool true,.bool true,[],rfl,λ _=>rfl,.bool true,m8 l _,λ _=>⟨CC,λ _ hm=>(nomatch hm)⟩⟩,H,I,J⟩
end Att
namespace L2
open PySem PySem.Spec PyProof.Rows
theorem ZV:∀{vs:List Value} {ns:List Int},IntsAre vs ns->Vals (ns.map V.int) vs
 | _,_,.nil=>.nil
 | _,_,.cons n t h=>.cons ⟨t,rfl⟩ (ZV h)
def Only (H:Hp):Prop:=∀b,H b=none\/∃o xs,H b=some (.frz o (.lst xs))
theorem AO3 {P:ZU}{w:World}{K:FrG}{mg A:Str->Option Value}{CX:CXT}{k:Nat}{B a:Addr}{fd:UE}{x:Str}{sp:Sp}{c:X1}{vs:List Value}{ns:List Int}
  (L:K.In c.heap) (t:c.heap.Ns ZY mg) (hb:c.heap.Ns builtinsNs A) (M:∀x:Str,x≠"__name__"->A x=UY x) (C:c.heap.NoLimit) (U:c.gens=#[])
  (ha:c.heap.get? a=some { cls:=.type "list",data:=.seq vs.toArray }) (hi:IntsAre vs ns) (hl:ns.length<=X3) (W:Room k AO)
  (F:∀base:Heap,K.In base->base.Ns ZY mg->FnOk P w K mg base CX k B fd [x] sp) (p:∀(s:X1) (u:Value),NS s fd ⟨[u],[]⟩ [(x,u)])
  (N:∀H:Hp,Only H->SqL K H a (ns.map V.int)->sp [.ref a] H (λ v _=>v=.bl true) λ _ _ _=>False)
  (O:∀H e s',CX [] H c (λ _ _ _=>False) e s'->False) (D:fd.scope.names.lookup x=some .local):
  wh (model P w) AO (.call (.ref B) ⟨[.ref a],[]⟩) (λ r s'=>r=.ok (.ret (.bool true))/\OldK c.heap s'.heap/\s'.os=c.os/\wS s'.gens) c:=by
 have Q:=ZV hi;have E:=hi.length;have core:∀H:Hp,Only H->SqL K H a (ns.map V.int)->HOk P w H c.heap->(∀b,H b≠none->b=a)->(H a≠none->K.lookup a=none)->
   wh (model P w) AO (.call (.ref B) ⟨[.ref a],[]⟩) (λ r s'=>r=.ok (.ret (.bool true))/\OldK c.heap s'.heap/\s'.os=c.os/\wS s'.gens) c:=by
  intro H R X hok S Y;have f:∀{b:Addr} {o:Obj},c.heap.get? b=some o->H b=none->(hidT c.heap H).get? b=some o:=λ e n=>yZ e n
  have T:∀{b:Addr} {o:Obj} {i:Array GO} {j:Nat},c.heap.get? b=some o->o.data=.dict i j->H b=none:=λ {b o i j} e d=>by
   cases q:H b with
   | none=>rfl
   | some u=>
    have G:b=a:=S b (by rw [q];simp)
    subst G;rw [ha] at e;cases e;have d':Data.seq vs.toArray _=Data.dict i j:=d;cases d'
  have g:∀{b:Addr} {m:Str->Option Value},c.heap.Ns b m->(hidT c.heap H).Ns b m:=λ {b m} ⟨o,i,j,e,d,r⟩=>⟨o,i,j,f e (T e d),d,r⟩
  have y:K.In (hidT c.heap H):=λ b o e=>f (L b o e) (by
   cases q:H b with
   | none=>rfl
   | some u=>
    have G:b=a:=S b (by rw [q];simp)
    subst G;rw [Y (by rw [q];simp)] at e;cases e)
  have Z:Mod K mg (hidT c.heap H):=⟨y,g t,⟨A,g hb,M⟩,let ⟨mc,a0,a1⟩:=C;⟨mc,g a0,a1⟩⟩
  have a2:Env0 P w K mg (hidT c.heap H) AO [] c H:=⟨rfl,Z,λ b o e=>AL4 e,FF (yV _ _),trivial,λ b hb=>absurd (show b∈([]:List Addr) from hb) (by simp),hok,.of_eq U⟩
  refine wT ((F _ y (g t)).run AO [] c H ⟨[.ref a],[]⟩ [.ref a] [.ref a] _ _ W a2 (p c (.ref a)) (.cons rfl .nil) (N H R X) (.inr ⟨x,[],rfl,D⟩)) λ r s' h=>?_
  cases r with
  | error e=>exact (O H e s' h).elim
  | ok a3=>
   cases a3 with
   | next=>exact WE h
   | brk=>exact WE h
   | cont=>exact WE h
   | ret u=>
    obtain ⟨v,a7,os,bare,un,I,a4,q⟩:=h;have a5:v=.bl true:=q;subst a5;obtain rfl:u=ql true:=a4;refine ⟨rfl,OldK.of_keep λ b o e=>?_,os,bare⟩
    cases q:H b with
    | none=>exact un.keep b o e q (by intro z;exact absurd (show b∈([]:List Addr) from z) (by simp)) (by simp)
    | some u=>
     rcases R b with z | ⟨ob,xs,z⟩
     ·rw [q] at z;cases z
     ·have a6:=un.frzs b ob _ z;obtain ⟨e1,_⟩:=hok b _ z;obtain ⟨e2,_⟩:=I b _ a6;rw [e] at e1;cases e1;exact e2
 cases J:K.lookup a with
 | some o=>
  have e:=L a o J;rw [ha] at e;cases e
  refine core (λ _=>none) (λ _=>.inl rfl) (.inr ⟨_,vs.toArray,_,J,rfl,rfl,rfl,by rw [YU,E];exact hl,by simpa using Q⟩) (λ b u z=>by have l:(none:Option HO)=some u:=z;cases l) (λ b z=>absurd rfl z) λ z=>absurd rfl z
 | none=>
  refine core (λ b=>if b=a then some (.frz { cls:=.type "list",data:=.seq vs.toArray } (.lst (ns.map V.int))) else none) (λ b=>?_) (.inl (.inr ⟨{ cls:=.type "list",data:=.seq vs.toArray },if_pos rfl⟩)) (λ b u z=>?_) (λ b z=>?_) λ _=>J
  ·by_cases hb:b=a
   ·exact .inr ⟨_,_,if_pos hb⟩
   ·exact .inl (if_neg hb)
  ·by_cases hb:b=a
   ·have l:=(if_pos hb).symm.trans z;cases l
    subst hb;exact ⟨ha,by rw [X9];exact hl,vs,_,Q,ha⟩
   ·have l:=(if_neg hb).symm.trans z;cases l
  ·by_cases hb:b=a
   ·exact hb
   ·exact absurd (if_neg hb) z
abbrev KOf {K:FrG}{h:Heap}(_:K.In h):FrG:=K
theorem xT {l:PySem.W.OpenLaw}{n k:Nat}{q:ZU}{i:List Str}{I:(Str->Option Value)->Heap->Prop}{y:World->Heap->Prop}{d:DefRec}{K:Mb->FrG}{CX:World->CXT}{sp:World->Sp}{x:Str}
  (hn:l.most=some n) (z:n<=X3) (A:d.params.defaults=[]) (J:Room k AO)
  (L:∀(w:World) (h:Heap),y w h->(K w.params).In h)
  (F:∀(w:World) (mg:Str->Option Value) (j:Addr) (h:Heap),(K w.params).In h->h.Ns ZY mg->mg d.name=some (.ref j)->
   ∃fd:UE,((∀(s:X1) (u:Value),NS s fd ⟨[u],[]⟩ [(x,u)])/\fd.scope.names.lookup x=some .local)/\
    ∀base:Heap,(K w.params).In base->base.Ns ZY mg->FnOk l.prog w (K w.params) mg base (CX w) k j fd [x] (sp w))
  (B:∀(w:World) (H:Hp) (a:Addr) (ns:List Int),ns.length<=n->Only H->SqL (K w.params) H a (ns.map V.int)->sp w [.ref a] H (λ v _=>v=.bl true) λ _ _ _=>False)
  (C:∀(w:World) (H:Hp) (s:X1) (e:Value) (s':X1),CX w [] H s (λ _ _ _=>False) e s'->False):
  PySem.W.WalkO q i I y l.row.toRowW d [] (λ f vs=>PySem.call f vs):=by
 refine Att.uC hn A λ w s₀ p mg S j o U X Q a vs ns D Y Z hd R E r m c M=>?_
 have G:=L w _ Y;obtain ⟨fd,⟨hb,t⟩,N⟩:=F w mg j _ G D.T.g E;exact AO3 G D.T.g D.T.b D.T.builtins D.T.nolimit M r m (W8 c z) J N hb (λ H O P=>B w H a ns c O P) (λ H e s'=>C w H p e s') t
def inClass (s:Stmt)(j:Nat):Stmt:=match s with
 | .ClassDef _ _ _ a _ _ _ _ _ _ _=>a.getD j (.Pass ⟨0,0,0,0⟩)
 | _=>.Pass ⟨0,0,0,0⟩
def defArgs (s:Stmt):Arguments:=match s with
 | .FunctionDef _ a _ _ _ _ _ _ _ _=>a
 | _=>{ posonlyargs:=[],args:=[],vararg:=none,kwonlyargs:=[],kw_defaults:=[],kwarg:=none,defaults:=[] }
def defBody (s:Stmt):List Stmt:=match s with
 | .FunctionDef _ _ b _ _ _ _ _ _ _=>b
 | _=>[]
def defScope (s:Stmt):Scope:=match s with
 | .FunctionDef _ _ _ _ _ _ a _ _ _=>a
 | _=>{ kind:=.function,names:=[],isGenerator:=false,isCoroutine:=false }
abbrev E0:XK:=λ _ _ _=>False
structure Fun (K:FrG)(x qual:Str)(st:Stmt)(f:Addr)(fd:UE):Prop where
 ex:∃(oc:Value) (od:Option Addr) (kV doc pm:Value) (an:Option Addr) (cdv ct:Value) (osl:Array (Option Value)),
  fd=YR x qual (defArgs st) (defBody st) (defScope st) .none kV doc pm an cdv ct/\K.lookup f=some ⟨oc,od,.func fd,osl⟩/\Wp K cdv qual=true
 kp:YJ K (.ref f)=true
section
variable {P:ZU}{w:World}{K:FrG}{mg:Str->Option Value}{base:Heap}
theorem Fun.binds {x a:Str}{st:Stmt}{f:Addr}{fd:UE}{ps:List Str}(F:Fun K x a st f fd)
  (h:∀(kV b c:Value) (d:Option Addr) (cdv ct:Value) (us:List Value),us.length=ps.length->jl (YR x a (defArgs st) (defBody st) (defScope st) .none kV b c d cdv ct) ⟨us,[]⟩=pure (ps.zip us)):Binds K fd ps []:=by
 obtain ⟨i,j,kV,b,c,d,cdv,ct,e,rfl,k,g⟩:=F.ex;exact .all (h kV b c d cdv ct)
theorem Dd {x a:Str}{st:Stmt}{f:Addr}{h:Value}{i e:Option Addr}{d:Array (Option Value)}{kV b g cdv ct:Value}(l:K.lookup f=some ⟨h,i,.func (YR x a (defArgs st) (defBody st) (defScope st) .none kV b g e cdv ct),d⟩)
  (c:Wp K cdv a=true) (k:YJ K (.ref f)=true):Fun K x a st f (YR x a (defArgs st) (defBody st) (defScope st) .none kV b g e cdv ct):=⟨⟨h,i,kV,b,g,e,cdv,ct,d,rfl,l,c⟩,k⟩
end
theorem small1000 {n:Nat}(h:n<=1000):n < X3:=QH h ⋯
section
variable {X:Cx}
theorem pv (i:Nat){x:Str}{pos:Pos}(b:X.N[i]?=some x:=by rfl)(c:Vis X.env.scope x:=by first | exact Or.inl rfl | exact Or.inr (Or.inl rfl) | exact Or.inr (Or.inr rfl))(hd:(x == ("__debug__":Str))=false:=by decide)
  (a:(x == ("__classdict__":Str))=false:=by decide):PE X (.Name x pos) (tVar i):=uG b c hd a
end
theorem iteF {A B:Prop}(h:B):if false=true then A else B:=by
 rw [if_neg ZL];exact h
theorem iteT {A B:Prop}(h:A):if true=true then A else B:=by
 rw [if_pos rfl];exact h
theorem ite2 {c A B:Prop}[Decidable c](a:c->A)(b:¬ c->B):if c then A else B:=by
 by_cases h:c
 ·rw [if_pos h];exact a h
 ·rw [if_neg h];exact b h
theorem iteNS {c A B:Prop}[Decidable c](a:c)(h:B):if (!decide c)=true then A else B:=by
 rw [ζ a];exact iteF h
def Same (H a:Hp):Prop:=∀b o,H b=some o->a b=some o
theorem Same.refl (H:Hp):Same H H:=λ _ _ h=>h
theorem Same.trans {H d e:Hp}(a:Same H d)(b:Same d e):Same H e:=λ c o h=>b c o (a c o h)
theorem Same.free {H a:Hp}(e:Same H a){l:Addr}(h:a l=Ap):H l=Ap:=by
 cases q:H l with
 | none=>rfl
 | some o=>
  rw [e l o q] at h;cases h
theorem Same.seq {K:FrG}{H b:Hp}{a:Addr}{xs:List V}(e:Same H b)(h:SqL K H a xs):SqL K b a xs:=by
 rcases h with (h | ⟨o,h⟩) | h
 ·exact .inl (.inl (e _ _ h))
 ·exact .inl (.inr ⟨o,e _ _ h⟩)
 ·exact .inr h
section
variable {X:Cx}
def RC (_ j:Int):Prop:=j≠0/\j.natAbs.log2 < 9000
theorem Mr:OpR X (xk .FloorDiv) (rI RC λ i j=>.int (i.fdiv j)):=opI λ _ _ _ _ _ _ _ a q=>floordiv_int a.1 q (.inl (PyProof.noPylong_of_log2 a.2))
theorem Xk {i:Int}{k:Nat}(h:i.natAbs < 2 ^ k):AR i<=k:=by
 unfold AR
 split
 ·exact Qi _
 ·rename_i z
  have a:i.natAbs≠0:=λ e=>z (beq_iff_eq.mpr (Int.natAbs_eq_zero.mp e))
  exact (Nat.log2_lt a).mpr h
def CMulW (i j:Int):Prop:=i.natAbs < 2 ^ 10000/\j.natAbs < 2 ^ 10000
theorem CMulW.ok {i j:Int}(h:CMulW i j):IntMulOk i j:=.of_bits (W8 (Xk h.1) ⋯) (W8 (Xk h.2) ⋯)
theorem Ea:OpR X (xk .Mult) (rI CMulW λ i j=>.int (i * j)):=opI λ _ _ _ _ _ _ _ a q=>mul_int q a.ok
end
mutual
inductive DV (K:FrG)(H:Hp):V->Xt->Prop
 | non:DV K H .non .none
 | bl (b:Bool):DV K H (.bl b) (.bool b)
 | int (i:Int):DV K H (.int i) (.int i)
 | str (x:Str):DV K H (.str x) (.str x)
 | lst {a:Addr} {xs:List V} {ds:List Xt}:SqL K H a xs->DVs K H xs ds->DV K H (.ref a) (.list ds)
 | tup {a:Addr} {xs:List V} {ds:List Xt}:SqT K H a xs->DVs K H xs ds->DV K H (.ref a) (.tuple ds)
 | dct {a:Addr} {kvs:List (Key×V)}:H a=some (.dK kvs)->DV K H (.ref a) (.dict [])
inductive DVs (K:FrG)(H:Hp):List V->List Xt->Prop
 | nil:DVs K H [] []
 | cons {v:V} {vs:List V} {d:Xt} {ds:List Xt}:DV K H v d->DVs K H vs ds->DVs K H (v::vs) (d::ds)
end
section
variable {X:Cx}{pins:List (Addr×Obj)}{σ:St}{H:Hp}{s:X1}
mutual
theorem DV.reads (l:Inv X pins σ H s):∀{v:V} {d:Xt},DV X.K H v d->d.canLay0=true->∀{u:Value},RelV v u->∃a,Reads s.heap u d a
 | _,_,.non,_,_,r=>by cases r;exact ⟨_,.none⟩
 | _,_,.bl b,_,_,r=>by cases r;exact ⟨_,.bool b⟩
 | _,_,.int i,_,_,r=>by obtain ⟨t,rfl⟩:=r;exact ⟨_,.int i t⟩
 | _,_,.str x,_,_,r=>by obtain ⟨t,rfl⟩:=r;exact ⟨_,.str x t⟩
 | _,_,.lst h q,c,_,r=>by
  cases r
  obtain ⟨k,e,pl,_⟩:=l.list h;obtain ⟨a,f⟩:=DVs.reads l q c e;obtain ⟨o,g,j,n,hd⟩:=id pl.isList;exact ⟨_,.list g j hd f⟩
 | _,_,.tup h q,c,_,r=>by
  cases r
  obtain ⟨k,e,pl,_⟩:=l.tuple h;obtain ⟨a,f⟩:=DVs.reads l q c e;obtain ⟨o,g,j,n,hd⟩:=id pl;exact ⟨_,.tuple g j hd f⟩
 | _,_,.dct h,c,_,r=>nomatch c
theorem DVs.reads (e:Inv X pins σ H s):∀{vs:List V} {ds:List Xt},DVs X.K H vs ds->Xt.canLayAll0 ds=true->∀{us:List Value},Vals vs us->∃a,ReadsAll s.heap us ds a
 | _,_,.nil,_,_,r=>by cases r;exact ⟨_,.nil⟩
 | _,_,.cons h q,c,_,r=>by
  rw [Xt.canLayAll0] at c;cases r with
  | cons r1 r2=>
   obtain ⟨f,b⟩:=DV.reads e h (QR.mp c).1 r1;obtain ⟨g,d⟩:=DVs.reads e q (QR.mp c).2 r2;exact ⟨_,.cons b d⟩
end
end
section
variable {X:Cx}
inductive pA (K:FrG)(x:V)(y:V)(H:Hp)(Q:VK):Prop | mk (d e:_) (_:DV K H x d) (_:DV K H y e) (_:FG d=true) (_:FG e=true) (_:Q (.bl (Xt.eqv d e)) H)
inductive AL7 (K:FrG)(x:V)(y:V)(H:Hp)(Q:VK):Prop | mk (d e:_) (_:DV K H x d) (_:DV K H y e) (_:FG d=true) (_:FG e=true) (_:Q (.bl (!PyData.eqv d e)) H)
theorem AN6 (b:X.A.units+64 < cLine):OpR X (zk .Eq) (pA X.K):=by
 intro c s k H x y v u Q f g i h;obtain ⟨d,e,hd,j,sd,a,q⟩:=h;obtain ⟨l,r1⟩:=hd.reads f (wI sd) g;obtain ⟨m,r2⟩:=j.reads f (wI a) i;exact eq_dataH r1 r2 sd a b ⟨.bl _,H,f,rfl,q⟩
theorem mY (b:X.A.units+64 < cLine):OpR X (zk .NotEq) (AL7 X.K):=by
 intro c s k H x y v u Q f g i h;obtain ⟨d,e,hd,j,sd,a,q⟩:=h;obtain ⟨l,r1⟩:=hd.reads f (wI sd) g;obtain ⟨m,r2⟩:=j.reads f (wI a) i;exact ne_dataH r1 r2 sd a b ⟨.bl _,H,f,rfl,q⟩
end
structure TopFn (K:FrG)(mg:Str->Option Value)(x:Str)(st:Stmt):Prop where
 ex:∃(f:Addr) (fd:UE),Fun K x x st f fd/\mg x=some (.ref f)
theorem Ah {H:Hp}{p:Addr}(h:H p=none)(o:HO):Same H (upd H p o):=λ b u q=>by rw [Al (BV q h)];exact q
theorem M6:UY "int"=some (.type "int"):=by decide+kernel
theorem vW:UY "bool"=some (.type "bool"):=by decide+kernel
theorem Jl:UY "tuple"=some (.type "tuple"):=by decide+kernel
theorem ZK:UY "list"=some (.type "list"):=by decide+kernel
theorem HY:UY "str"=some (.type "str"):=by decide+kernel
theorem Cr:UY "len"=some (.builtin "len"):=by decide+kernel
theorem NP:UY "abs"=some (.builtin "abs"):=by decide+kernel
theorem N8:UY "all"=some (.builtin "all"):=by decide+kernel
theorem Cq:UY "isinstance"=some (.builtin "isinstance"):=by decide+kernel
def Bp (t T:String):Option Bool:=if (uu t == uu T)=true then some true else if PySem.W.kitMeta T=true then (fastBuiltinMro t).map (·.contains (uu T)) else none
theorem mL {K:FrG}{t T:String}{b:Bool}(h:Bp t T=some b):W1 K (.type t) (.type T)=some b:=h
theorem BL {K:FrG}{h:Heap}{mg:Str->Option Value}{x:Str}{st:Stmt}{f:Addr}{d:Value}{e g:Option Addr}{i:Array (Option Value)}{kV j m b ct:Value}(X:K.In h)(n:h.Ns ZY mg)
  (a:YA K ZY x=some (some (.ref f))) (l:K.lookup f=some ⟨d,e,.func (YR x x (defArgs st) (defBody st) (defScope st) .none kV j m g b ct),i⟩) (c:Wp K b x=true) (k:YJ K (.ref f)=true):TopFn K mg x st:=
 ⟨f,_,Dd l c k,ZO X n a⟩
section
variable {X:Cx}{es:List Expr}{te:TE}{t:TA}
theorem Ak {c:Const}{j:Nat}{p:Pos}(ha:PE X (.Constant c j p) te)(a:PA X es t):PA X (.Constant c j p::es) (tCons te t):=Dc ha a (by rfl)
theorem Ad {x:Str}{p:Pos}(ha:PE X (.Name x p) te)(a:PA X es t):PA X (.Name x p::es) (tCons te t):=Dc ha a (by rfl)
theorem Gq {xs:List Expr}{p:Pos}(ha:PE X (.List xs p) te)(a:PA X es t):PA X (.List xs p::es) (tCons te t):=Dc ha a (by rfl)
theorem Jt {xs:List Expr}{k:Nat}{p:Pos}(ha:PE X (.Tuple xs k p) te)(a:PA X es t):PA X (.Tuple xs k p::es) (tCons te t):=Dc ha a (by rfl)
theorem CQ {f:Expr}{a:List Expr}{b:List AN}{p:Pos}(ha:PE X (.Call f a b p) te)(c:PA X es t):PA X (.Call f a b p::es) (tCons te t):=Dc ha c (by rfl)
theorem By {a:Expr}{o:MG}{b:Expr}{p:Pos}(ha:PE X (.BinOp a o b p) te)(c:PA X es t):PA X (.BinOp a o b p::es) (tCons te t):=Dc ha c (by rfl)
theorem aA {a:Expr}{os:List CmpOp}{bs:List Expr}{p:Pos}(ha:PE X (.Compare a os bs p) te)(b:PA X es t):PA X (.Compare a os bs p::es) (tCons te t):=Dc ha b (by rfl)
theorem BX {a b:Expr}{p:Pos}(ha:PE X (.Subscript a b p) te)(c:PA X es t):PA X (.Subscript a b p::es) (tCons te t):=Dc ha c (by rfl)
theorem xq {a b c:Expr}{p:Pos}(ha:PE X (.IfExp a b c p) te)(d:PA X es t):PA X (.IfExp a b c p::es) (tCons te t):=Dc ha d (by rfl)
end
theorem o9 (o:Obj)(f:Array Value->Array Value):(o.mapFields f).dict=o.dict:=by
 obtain ⟨c,d,a,b⟩:=o;cases a<;>rfl
inductive Chn (base h:Heap):Value->Prop
 | none:Chn base h .none
 | ref {b:Addr} {o:Obj} {vs:Array Value} {cx:Value}:base.get? b=none->h.get? b=some o->o.data=.fields vs->vs[2]?=some cx->Chn base h cx->Chn base h (.ref b)
theorem Chn.mono {base h h':Heap}(k:∀b o vs,h.get? b=some o->o.data=.fields vs->∃f a,h'.get? b=some f/\f.data=.fields a/\a[2]?=vs[2]?){v:Value}(c:Chn base h v):Chn base h' v:=by
 induction c with
 | none=>exact .none
 | ref n e d t _ g=>
  obtain ⟨f,a,i,d',t'⟩:=k _ _ _ e d;exact .ref n i d' (t'.trans t) g
theorem Chn.mem {base h:Heap}{v:Value}(c:Chn base h v):∃f:List Addr,(∀b∈f,base.get? b=(Ap:Option Obj)/\∃o vs,h.get? b=some o/\o.data=.fields vs)/\∀a:Heap,(∀b∈f,a.get? b=(Ap:Option Obj))->Chn a h v:=by
 induction c with
 | none=>exact ⟨[],λ _ m=>(nomatch m),λ _ _=>.none⟩
 | @ref b o vs k n e d t _ g=>
  obtain ⟨f,i,j⟩:=g;refine ⟨b::f,λ x m=>?_,λ a m=>.ref (m _ (YV ..)) e d t (j a λ x y=>m x (ZX _ y))⟩
  rcases ZN.mp m with rfl | m
  ·exact ⟨n,o,vs,e,d⟩
  ·exact i x m
def qG (base:Heap)(e:Addr)(c:Value)(d:Option Addr)(f:Value)(h:Heap):Prop:=
 ∃(o a:Obj) (vs ts:Array Value) (T:Addr),h.get? e=some o/\o.cls=c/\o.dict=d/\o.data=.fields vs/\vs[1]?=some (.ref T)/\base.get? T=none/\T≠e/\h.get? T=some a/\a.data=.fields ts/\ts[3]?=some f/\∃b,vs[2]?=some b/\Chn base h b
def FlyD (base:Heap)(l:List Env)(e:Addr)(c:Value)(d:Option Addr)(a:Value)(h:Heap):Prop:=
 base.StaysIn h/\base.get? e=none/\h.FunFrames base l/\qG base e c d a h
theorem FlyD.there {base h:Heap}{l:List Env}{e:Addr}{c:Value}{d:Option Addr}{a:Value}(x:FlyD base l e c d a h):∃ob,h.get? e=some ob/\ob.cls=c/\ob.dict=d/\∃vs,ob.data=.fields vs:=by
 obtain ⟨_,_,_,o,_,vs,_,_,b,f,g,i,_⟩:=x;exact ⟨o,b,f,g,vs,i⟩
theorem FlyD.pop {base h:Heap}{env:Env}{l:List Env}{e:Addr}{c:Value}{d:Option Addr}{a:Value}(x:FlyD base (env::l) e c d a h):FlyD base l e c d a h:=⟨x.1,x.2.1,x.2.2.1.2.2,x.2.2.2⟩
section
variable {M:Model}{A:XA}{E:Value->X1->Prop}{s:X1}{base:Heap}{env:Env}{outer l:List Env}{L e:Addr}{c:Value}{d:Option Addr}
theorem cD {o:Obj}{vs:Array Value}{head:Value}{hn:Bool}{Q:Unit->X1->Prop}(B:A.frames=some (env::outer))(hf:env.frame=some L)(st:base.StaysIn s.heap)(ne:base.get? e=none)
  (fr:s.heap.FunFrames base (env::outer)) (v:s.heap.get? e=some o) (hd:o.data=.fields vs) (C:1 < vs.size) (D:∃w,vs[2]?=some w/\Chn base s.heap w)
  (h:∀h',FlyD base (env::outer) e o.cls o.dict (je L) h'->s.heap.UpToSlots h'->Q () { s with heap:=h' }):
  wpAny M A (frameOf env >>= λ a=>entryPlaceOf L hn >>= λ pl=>AU head a .none (je L) .none pl >>= λ b=>setField (.ref e) 1 b) Q E s:=by
 have K:e∉(env::outer).filterMap (·.frame):=λ m=>by
  obtain ⟨_,u,k,g⟩:=fr.mem m;rw [v] at k;cases k;exact g vs hd
 refine Y3 (wpAny_frameOf_fun B fr hf λ f p=>Y3 (wpAny_entryPlaceOf λ pl F=>?_))
 have x:f.get? e=some o:=(p.2.1 e K).trans v;have G:f.objs.size≠e:=XW (ZT x);have y:base.StaysIn f:=λ b u q=>(p.2.1 b λ m=>by rw [(fr.mem m).1] at q;cases q).trans (st b u q)
 have H:∀(i:Obj) (ts:Array Value),i.data=.fields ts->ts[3]?=some (je L)->wpAny M A (setField (.ref e) 1 (.ref f.objs.size)) Q E { s with heap:=f.push i }:=by
  intro i ts dT t3;have r:=X2 (h:=f) i x;have I:(f.push i).get? f.objs.size=some i:=YI f (Qs dT);have j:∀b u,b≠e->f.get? b=some u->((f.push i).update e (XP (·.setIfInBounds 1 (Yf f.objs.size)))).get? b=some u:=λ b u n q=>by
   rw [XY _ _ (WU n)];exact X2 _ q
  have t:∀b u,s.heap.get? b=some u->(∀xs,u.data≠.fields xs)->b≠e:=λ b u q g z=>by
   subst z;rw [v] at q;cases q;exact g vs hd
  refine xo r hd C (h _ ⟨λ b u q=>j b u (λ z=>by rw [z,ne] at q;cases q) (y b u q),ne,fr.of_keeps λ b u q g=>?_,_,i,_,ts,f.objs.size,
   XV _ r (Qs (UF hd _)),Obj.cls_mapFields _ _,o9 _ _,UF hd _,by simp [C],y.fresh,G,?_,dT,t3,?_⟩ λ b u q g=>?_)
  ·obtain ⟨J,z⟩:=p.2.2 b u q;exact ⟨_,j b _ (t b u q g) z,rfl⟩
  ·rw [XY _ _ (WU G)];exact I
  ·obtain ⟨w,N,O⟩:=D;refine ⟨w,by rw [zo ⋯];exact N,O.mono λ b u us q d=>?_⟩
   by_cases hb:b=e
   ·subst hb;rw [v] at q;cases q
    rw [hd] at d;cases d
    exact ⟨_,_,XV _ r (Qs (UF hd _)),UF hd _,zo ⋯⟩
   ·have P:b∉(env::outer).filterMap (·.frame):=λ m=>by
     obtain ⟨_,R,k,g⟩:=fr.mem m;rw [q] at k;cases k;exact g us d
    exact ⟨u,us,j b u hb ((p.2.1 b P).trans q),d,rfl⟩
  ·obtain ⟨J,z⟩:=p.2.2 b u q;exact ⟨J,j b _ (t b u q g) z⟩
 unfold AU newFields;refine Y3 (JJ (H _ _ rfl ?_) (F.sizeOk5 _ _ _ _ _));rcases F with rfl | ⟨_,_,_,_,_,_,_,rfl⟩<;>simp
theorem Gz {w:Value}{Q:Unit->X1->Prop}(x:FlyD base l e c d w s.heap)(h:∀h',FlyD base l e c d .none h'->s.heap.UpToSlots h'->Q () { s with heap:=h' }):
  wpAny M A (AQ (.ref e) none) Q E s:=by
 obtain ⟨st,ne,fr,o,G,vs,ts,T,j,y,k,hd,m,p,r,f,dT,B,t,C,D⟩:=x;have v:3 < ts.size:=(xb.mp B).1;have a:∀b,b≠T->(s.heap.update T (XP (·.setIfInBounds 3 US))).get? b=s.heap.get? b:=λ b n=>XY _ _ (WU n)
 have g:∀b u,s.heap.get? b=some u->(∀xs,u.data≠.fields xs)->b≠T:=λ b u q i z=>by
  subst z;rw [f] at q;cases q;exact i ts dT
 have F:Chn base (s.heap.update T (XP (·.setIfInBounds 3 US))) t:=D.mono λ b u us q d=>by
  by_cases hb:b=T
  ·subst hb;rw [f] at q;cases q
   exact ⟨_,_,XV _ f (Qs (UF d _)),UF d _,zo ⋯⟩
  ·exact ⟨u,us,(a b hb).trans q,d,rfl⟩
 unfold AQ;refine Y3 (Uf j hd m ?_);rw [if_pos (show (Yf T != US)=true by simp)]
 refine xo f dT v (h _ ⟨λ b u q=>(a b λ z=>by rw [z,p] at q;cases q).trans (st b u q),ne,fr.of_keeps λ b u q i=>⟨u,(a b (g b u q i)).trans q,rfl⟩,
  o,_,vs,_,T,(a e (WU r)).trans j,y,k,hd,m,p,r,XV _ f (Qs (UF dT _)),UF dT _,by simp [v],t,C,F⟩ λ b u q i=>⟨u.slots,(a b (g b u q i)).trans q⟩)
theorem P0 {Q:Unit->X1->Prop}(k:A.frames=some (env::outer))(hf:env.frame=some L)(x:FlyD base (env::outer) e c d .none s.heap)
  (h:∀h',FlyD base (env::outer) e c d (je L) h'->s.heap.UpToSlots h'->Q () { s with heap:=h' }):wpAny M A (GS (.ref e) env) Q E s:=by
 obtain ⟨st,ne,fr,o,G,vs,ts,T,m,w,p,hd,r,y,B,i,dT,t,v,C,D⟩:=x;subst w p;have a:∀b,b≠T->(s.heap.update T (XP (·.setIfInBounds 3 US))).get? b=s.heap.get? b:=λ b n=>XY _ _ (WU n)
 have j:∀b u,s.heap.get? b=some u->(∀xs,u.data≠.fields xs)->b≠T:=λ b u q g z=>by
  subst z;rw [i] at q;cases q;exact g ts dT
 have F:Chn base (s.heap.update T (XP (·.setIfInBounds 3 US))) v:=D.mono λ b u us q d=>by
  by_cases hb:b=T
  ·subst hb;rw [i] at q;cases q
   exact ⟨_,_,XV _ i (Qs (UF d _)),UF d _,zo ⋯⟩
  ·exact ⟨u,us,(a b hb).trans q,d,rfl⟩
 unfold GS;simp only [hf];refine Y3 (Uf m hd r ?_);rw [if_pos (show (Yf T != US)=true by simp)];refine Y3 (Uf i dT t ?_)
 rw [if_neg (show ¬ ((US == je L)=true) by simp [je])];refine Y3 (xo i dT (xb.mp t).1 ?_)
 refine cD (s:={ s with heap:=s.heap.update T (XP (·.setIfInBounds 3 US)) }) k hf (λ b u q=>(a b λ z=>by rw [z,y] at q;cases q).trans (st b u q)) ne (fr.of_keeps λ b u q g=>⟨u,(a b (j b u q g)).trans q,rfl⟩)
  ((a e (WU B)).trans m) hd (xb.mp r).1 ⟨v,C,F⟩ λ h' f up=>h h' f λ b u q g=>up b u ((a b (j b u q g)).trans q) g
theorem AG1 {o:Obj}{vs:Array Value}{Q:Unit->X1->Prop}(a:A.frames=some (env::outer))(hf:env.frame=some L)(st:base.StaysIn s.heap)(ne:base.get? e=none)
  (fr:s.heap.FunFrames base (env::outer)) (b:s.heap.get? e=some o) (hd:o.data=.fields vs) (f:vs[1]?=some .none) (g:∃i,vs[2]?=some i/\Chn base s.heap i)
  (h:∀h',FlyD base (env::outer) e o.cls o.dict (je L) h'->s.heap.UpToSlots h'->Q () { s with heap:=h' }):wpAny M A (GS (.ref e) env) Q E s:=by
 unfold GS;simp only [hf];refine Y3 (Uf b hd f ?_);rw [if_neg ⋯]
 exact cD a hf st ne fr b hd (xb.mp f).1 g h
theorem Ub {o:Obj}{vs:Array Value}{Q:Unit->X1->Prop}(b:A.frames=some (env::outer))(hf:env.frame=some L)(st:base.StaysIn s.heap)(ne:base.get? e=none)
  (fr:s.heap.FunFrames base (env::outer)) (i:s.heap.get? e=some o) (hd:o.data=.fields vs) (a:vs[1]?=some .none) (f:∃g,vs[2]?=some g/\Chn base s.heap g)
  (h:∀h',FlyD base outer e o.cls o.dict .none h'->s.heap.UpToSlots h'->Q () { s with heap:=h' }):wpAny M A (leaving env (.ref e)) Q E s:=
 Y3 (AG1 b hf st ne fr i hd a f λ a j k=>Gz (s:={ s with heap:=a }) j λ m n p=>h m n.pop (k.trans p))
theorem AH5 {Q:Unit->X1->Prop}(a:A.frames=some (env::outer))(hf:env.frame=some L)(x:FlyD base (env::outer) e c d .none s.heap)
  (h:∀h',FlyD base outer e c d .none h'->s.heap.UpToSlots h'->Q () { s with heap:=h' }):wpAny M A (leaving env (.ref e)) Q E s:=
 Y3 (P0 a hf x λ b f g=>Gz (s:={ s with heap:=b }) f λ i j k=>h i j.pop (g.trans k))
end
def ExcAt (a C:Addr)(h:Heap):Prop:=∃o,h.get? a=some o/\o.cls=.ref C
theorem ObjOk.some_of {P:ZU}{w:World}{H:Hp}{h:Heap}{a:Addr}{o:HO}(x:ObjOk P w H h a o):∃u,h.get? a=some u:=by
 cases o with
 | lst xs=>obtain ⟨_,_,_,_,e⟩:=x;exact ⟨_,e⟩
 | tup xs=>obtain ⟨_,_,_,p⟩:=x;obtain ⟨o,e,_⟩:=p;exact ⟨_,e⟩
 | dK b=>obtain ⟨_,_,_,_,o,_,_,e,_⟩:=x;exact ⟨_,e⟩
 | dT b=>obtain ⟨_,_,_,_,o,_,_,e,_⟩:=x;exact ⟨_,e⟩
 | set c n=>obtain ⟨o,_,_,_,e,_⟩:=x;exact ⟨_,e⟩
 | ins C dx fs=>obtain ⟨_,_,_,e,_⟩:=x;exact ⟨_,e⟩
 | own y=>obtain ⟨_,e⟩:=x;exact ⟨_,e⟩
 | xd fs=>obtain ⟨_,⟨_,_,_,e,_⟩,_⟩:=x;exact ⟨_,e⟩
 | rng lo hi=>obtain ⟨_,_,_,e⟩:=x;exact ⟨_,e⟩
 | frz ob u=>obtain ⟨e,_⟩:=x;exact ⟨_,e⟩
 | tbl ps=>exact ⟨_,(show h.get? a=some _ from x)⟩
 | met f y=>exact ⟨_,(show h.get? a=some _ from x)⟩
 | ext φ=>obtain ⟨_,⟨_,e⟩,_⟩:=x;exact ⟨_,e⟩
theorem HOk.none_of {P:ZU}{w:World}{H:Hp}{h:Heap}{a:Addr}(x:HOk P w H h)(e:h.get? a=none):H a=none:=by
 cases q:H a with
 | none=>rfl
 | some o=>
  obtain ⟨u,z⟩:=(x a o q).some_of;rw [e] at z;cases z
def DN (P:ZU)(w:World):CXT:=λ outer H s E e s'=>∃(a C:Addr) (d:Option Addr) (c:Hp) (B:Heap),e=.ref a/\s'.os=s.os/\wS s'.gens/\
 (∀b:Heap,B.StaysIn b->s'.heap.UpToSlots b->Un (frs outer) [] H c s.heap b/\HOk P w c b)/\FlyD B outer a (.ref C) d .none s'.heap/\c a=none/\s.heap.get? a=none/\E (.ref C) d c
structure BodyCx (X:Cx)(E:XK):Prop where
 stk:X.stack=X.env::X.outer
 fr:X.env.frame=some X.env.locals
 ex:X.ex=[]
 xe:X.xe=λ e s'=>wpAny (model X.prog X.w) X.A (leaving X.env e) (λ _ s''=>DN X.prog X.w X.outer X.H₀ X.s₀ E e s'') (λ e' s''=>DN X.prog X.w X.outer X.H₀ X.s₀ E e' s'') s'
section
variable {X:Cx}{pins:List (Addr×Obj)}{σ:St}{H:Hp}{s:X1}
theorem Pz {E:XK}(Bd:BodyCx X E){b:Addr}:b∈frs X.stack↔b=X.env.locals\/b∈frs X.outer:=by
 rw [Bd.stk];show b∈List.filterMap (·.frame) (X.env::X.outer)↔_
 rw [yn,Bd.fr];exact ZN
theorem dM {E:XK}(Bd:BodyCx X E)(d:Inv X pins σ H s){l p:Heap}(k:∀b o,s.heap.get? b=some o->l.get? b=some o)(up:l.UpToSlots p)(c:Heap)
  (st:(JU s.heap (frs X.stack)).StaysIn c) (r:p.UpToSlots c):Un (frs X.outer) [] X.H₀ H X.s₀.heap c/\HOk X.prog X.w H c:=by
 have f:∀b o,s.heap.get? b=some o->b∉frs X.stack->c.get? b=some o:=λ b o e n=>st b o (jI _ e n)
 have g:∀b o,s.heap.get? b=some o->b∈frs X.stack->∃g,c.get? b=some { o with slots:=g }:=λ b o e m=>by
  obtain ⟨_,h,j,t⟩:=d.stack.mem m;rw [e] at j;cases j
  exact (up.trans r) b o (k b o e) t
 have nx:∀b:Addr,b∉X.ex:=λ b z=>by rw [Bd.ex] at z;cases z
 have v:∀b o,X.s₀.heap.get? b=some o->b≠X.env.locals:=λ b o e=>YP (Zu (ZT e) d.ok.above)
 have any:∀b o,s.heap.get? b=some o->∃h,c.get? b=some h:=λ b o e=>by
  by_cases m:b∈frs X.stack
  ·obtain ⟨z,q⟩:=g b o e m;exact ⟨_,q⟩
  ·exact ⟨_,f b o e m⟩
 refine ⟨⟨λ b o e n hb _=>?_,λ b o e n hb _=>?_,λ b o e n _=>d.base.free b o e n (nx b),λ b o e _=>?_,d.base.tups,d.base.frzs,d.base.tbls⟩,λ a o e=>?_⟩
 ·exact f b o (d.base.keep b o e n hb (nx b)) λ m=>(Pz Bd).mp m |>.elim (v b o e) hb
 ·obtain ⟨z,q⟩:=d.base.slot b o e n hb (nx b);obtain ⟨x,y⟩:=g b _ q ((Pz Bd).mpr (.inr hb));exact ⟨x,y⟩
 ·obtain ⟨h,q⟩:=d.base.there b o e (nx b);exact any b h q
 ·refine (d.hok a o e).stay (λ b u i q=>f b u q λ m=>?_) (λ _ q=>q) λ _ _ q=>q
  have z:=d.stkFree b m;rcases i with rfl | i
  ·rw [z] at e;cases e
  ·rw [z] at i;cases i
theorem Gp {c:Hp}{a:Heap}{s':X1}(f:Inv X pins σ H s)(d:s'.os=s.os)(e:wS s'.gens)(u:Un (frs X.stack) [] H c s.heap a/\HOk X.prog X.w c a)(ht:X.tb<=s'.toks:=by first | assumption | exact Inv.tk (by assumption) | exact Xh (Inv.tk (by assumption)) | exact W8 (Inv.tk (by assumption)) (by assumption) | (have:=Inv.tk (by assumption);omega) | (have:=Inv.tk (by assumption);dsimp only at this;omega)):Inv X pins σ c { s' with heap:=a }:=
 f.call' (s':={ s' with heap:=a }) (ch:=[]) d u.1 u.2 e λ b z=>nomatch z
theorem PB (c:Inv X pins σ H s)(nx:∀b:Addr,b∉X.ex){a:Addr}(e:s.heap.get? a=none):X.s₀.heap.get? a=none:=by
 cases q:X.s₀.heap.get? a with
 | none=>rfl
 | some o=>
  obtain ⟨d,z⟩:=c.base.there a o q (nx a);rw [e] at z;cases z
theorem Bj {E:XK}(Bd:BodyCx X E):Passes (DN X.prog X.w) X E:=by
 intro pins σ H s e s' m h ht;obtain ⟨a,C,t,g,B,rfl,os,bare,i,j,na,n,q⟩:=h;rw [Bd.xe];have k:X.A.frames=some (X.env::X.outer):=by rw [<- Bd.stk];exact m.ok.frames
 have f:FlyD B (X.env::X.outer) a (.ref C) t .none s'.heap:=by rw [<- Bd.stk];exact j
 refine AH5 k Bd.fr f λ h' o up=>?_
 have nx:∀b:Addr,b∉X.ex:=λ b z=>by rw [Bd.ex] at z;cases z
 have p:∀c:Heap,B.StaysIn c->h'.UpToSlots c->Inv X pins σ g { s' with heap:=c }:=λ c st d=>Gp m os bare (i c st (up.trans d))
 have l:s'.os=X.s₀.os:=os.trans m.os;refine ⟨a,C,t,g,B,rfl,l,bare,λ c st d=>?_,o,na,PB m nx n,q⟩
 have r:=p c st d;have u:=r.base;rw [Bd.ex] at u;exact ⟨u,r.hok⟩
end
theorem Qd {K:FrG}{h₀:Heap}{C:Addr}{c:List Value}{newId:String}(X:K.In h₀)(q:zD K C c newId=true):
  ∃b N nm q bs hdct sn sub ab col dd k0 k1 k2 k3 k5 e,h₀.get? C=some (Fh nm q C N bs b hdct sn sub ab col dd k0 k1 k2 k3 k5 newId)/\h₀.Ns N e/\e "__init__"=none/\OwnTail h₀ c b:=by
 unfold zD at q
 split at q
 ·rename_i dd i f j
  split at q
  ·rename_i p b k0 k1 k2 k3 n k5 hm g
   simp only [xa,beq_iff_eq,Bool.not_eq_true'] at q;obtain ⟨⟨⟨⟨⟨rfl,rfl⟩,a⟩,ht⟩,hok⟩,d⟩:=q;obtain ⟨nm,bs,m,ns,k,hd,sn,sub,ab,col,o⟩:=i;dsimp only at hm a hok d
   subst hm a;have h:f=#[k0,k1,k2,k3,some (.builtin n),k5]:=by
    obtain ⟨l⟩:=f;simp only at g;rw [g]
   subst h;exact ⟨b,ns,nm,k,bs,hd,sn,sub,ab,col,dd,k0,k1,k2,k3,k5,_,X _ _ j,.of_isNs (PySem.W.isNs_of_in X hok),PySem.W.nsMap_none_of_in X hok d,PySem.W.tail_of_in X ht⟩
  ·cases q
 ·cases q
structure ExcCls (K:FrG)(mg:Str->Option Value)(x:Str)(C:Addr):Prop where
 mg:mg x=some (.ref C)
 ob:zD K C [.type "ValueError",.type "Exception",.type "BaseException",.type "object"] "ValueError.__new__"=true
section
variable {X:Cx}{x:Str}{C:Addr}{e₀:Expr}{t:TA}{np cpos pos:Pos}
def rR (E:XK)(C:Addr)(t:TA):TS:=λ _ a H=>t a H λ vs b=>vs.length<=X3/\E (.ref C) none b
theorem Dh {E:XK}(Bd:BodyCx X E)(G:X.calm=true)(T:ExcCls X.K X.mg x C)(ha:PA X [e₀] t)(I:Gl X x:=by rfl)(i:(x == ("__debug__":Str))=false:=by decide)
  (d:YE [e₀] X.env=[(false,eval e₀ X.env)]:=by rfl):
  PS X (.Raise (some (.Call (.Name x np) [e₀] [] cpos)) none pos) (rR E C t):=by
 intro g s J H Z j h;obtain ⟨L,N,nm,M,bs,hdct,sn,sub,ab,col,dd,k0,k1,k2,k3,k5,U,O,P,k,l⟩:=Qd j.ok.mod.kin T.ob;have f:L.contains (.type "BaseException")=true:=l.hasType (X:="BaseException") (by decide+kernel)
 have m:(Qe cpos (YE [e₀] X.env)).any (·.1)=false:=by rw [d];rfl
 refine wpAny_Raise_call_subT (nm:=nm) (q:=M) (N:=N) (bs:=bs) (hdct:=hdct) (sn:=sn) (sub:=sub) (ab:=ab) (col:=col) (dd:=dd) (k0:=k0) (k1:=k1) (k2:=k2) (k3:=k3) (k5:=k5) JO f (j.ok.hd G) m k (EY j I T.mg ⟨rfl,?_⟩ i);have n:=ha cpos g s J H _ j h;rw [d] at n ⊢;refine zO (thn n λ us c ⟨vs,Q,a,r,hl,q⟩=>⟨rfl,by rw [<- r.length];exact hl,a.bk _ _ O,P.keeps a.bk,l.keeps a.bk,λ h' e hm=>?_⟩)
 rw [Bd.xe];have p:X.A.frames=some (X.env::X.outer):=by rw [<- Bd.stk];exact j.ok.frames
 have u:∀env∈X.stack,∀b,env.frame=some b->b∈frs X.stack:=λ env d b hb=>wt.mpr ⟨env,d,hb⟩
 have R:c.heap.FunFrames (JU c.heap (frs X.stack)) (X.env::X.outer):=by
  have z:=Ga a.stack u;rw [<- Bd.stk];exact z
 obtain ⟨V,v,_,_⟩:=hm.there;have w:(JU c.heap (frs X.stack)).get? e=none:=by
  cases S:(JU c.heap (frs X.stack)).get? e with
  | none=>rfl
  | some o=>have z:=zv _ S;rw [hm.new] at z;cases z
 refine Ub (s:={ c with heap:=h' }) p Bd.fr (λ b o q=>hm.keeps b o (zv _ q)) w (R.of_keeps λ b o q _=>⟨o,hm.keeps b o q,rfl⟩) v rfl rfl ⟨_,rfl,.none⟩ λ Y y up=>?_
 refine ⟨e,C,none,Q,_,rfl,?_,a.bare,λ B st D=>dM Bd a hm.keeps up B st D,y,a.hok.none_of hm.new,PB a (λ b z=>by rw [Bd.ex] at z;cases z) hm.new,q⟩
 exact a.os
end
structure RoomB (c:Bool)(k:Nat)(A:XA):Prop where
 hd:c=true->A.handled=none
 dp:A.depth+3 * k+5 < AG
 un:A.units+16 * k+200 < cLine
theorem RoomB.mono {c:Bool}{j k:Nat}{A:XA}(r:RoomB c k A)(h:j<=k):RoomB c j A:=⟨r.hd,by have:=r.dp;omega,by have:=r.un;omega⟩
theorem RoomB.m {c:Bool}{j k:Nat}{A:XA}(r:RoomB c k A)(h:j<=k:=by decide):RoomB c j A:=r.mono h
theorem RoomB.deeper {c:Bool}{k:Nat}{A:XA}(r:RoomB c (k+1) A)(env:Env):RoomB c k (A.deeper env):=
 ⟨r.hd,by have:=r.dp;show A.depth+1+3 * k+5 < _;omega,by have:=r.un;show A.units+3+16 * k+200 < _;omega⟩
theorem RoomB.depth {c:Bool}{k:Nat}{A:XA}(r:RoomB c k A):A.depth < AG:=by have:=r.dp;omega
theorem RoomB.units {c:Bool}{k:Nat}{A:XA}(r:RoomB c k A):A.units+64 < cLine:=by have:=r.un;omega
theorem RoomB.mark {c:Bool}{k:Nat}{A:XA}(r:RoomB c k A)(v:Option Value):RoomB false k (A.mark v):=⟨λ z=>(nomatch z),r.dp,r.un⟩
theorem Room.b {k:Nat}{A:XA}(r:Room k A):RoomB true k A:=⟨λ _=>r.hd,r.dp,r.un⟩
structure FnB (P:ZU)(w:World)(K:FrG)(mg:Str->Option Value)(base:Heap)(c:Bool)(k:Nat)(f:Addr)(fd:UE)(ps:List Str)(sp:Sp):Prop where
 len:∀vs H Q E,sp vs H Q E->vs.length=ps.length
 run:∀(A:XA) (outer:List Env) (s:X1) (H:Hp) (args:Args) (us:List Value) (vs:List V) (Q:VK) (E:XK),RoomB c k A->Env0 P w K mg base A outer s H->NS s fd args (ps.zip us)->Vals vs us->sp vs H Q E->(1<=s.toks\/∃x r,ps=x::r/\fd.scope.names.lookup x=some .local)->
  wh (model P w) A (.call (.ref f) args) (CR (DN P w) outer P w H s Q E) s
theorem FnB.ok {P:ZU}{w:World}{K:FrG}{mg:Str->Option Value}{base:Heap}{k:Nat}{f:Addr}{fd:UE}{ps:List Str}{sp:Sp}(F:FnB P w K mg base true k f fd ps sp):FnOk P w K mg base (DN P w) k f fd ps sp:=
 ⟨F.len,λ A outer s H args us vs Q E a=>F.run A outer s H args us vs Q E a.b⟩
def Cv (c:Bool)(P:ZU)(w:World)(K:FrG)(mg:Str->Option Value)(base:Heap)(N:List Str)(b:Str)(a:Scope)(f:Addr)(d:Value)(A:XA)(outer:List Env)(s:X1)(H:Hp)(E:XK):Cx:=
 { cxOf (DN P w) P w K mg base N b a f d A outer s H E with calm:=c }
theorem BK {c:Bool}{P:ZU}{w:World}{K:FrG}{mg:Str->Option Value}{base:Heap}{N:List Str}{b:Str}{a:Scope}{f:Addr}{d:Value}{A:XA}{outer:List Env}{s:X1}{H:Hp}{E:XK}:
  BodyCx (Cv c P w K mg base N b a f d A outer s H E) E:=⟨rfl,rfl,rfl,rfl⟩
theorem VD {c:Bool}{P:ZU}{w:World}{K:FrG}{mg:Str->Option Value}{base:Heap}{N ps:List Str}{l:Str}{d:Scope}{f:Addr}{B:Value}{A:XA}{outer:List Env}{s F:X1}{H:Hp}{E:XK}{us:List Value}{vs:List V}
  (G:FnScope N ps d) (hd:c=true->A.handled=none) (j:Env0 P w K mg base A outer s H) (hl:vs.length=ps.length) (r:Vals vs us)
  (x:InCallC s s.heap.objs.size (bindL (ua l d s.heap.objs.size f B).kindOf (ps.zip us) λ _=>none) (zC (s.heap.objs.size+1) d.names []) (bindC (ua l d s.heap.objs.size f B).kindOf (ps.zip us) λ _=>none) F) (I:1<=F.toks):
  Inv (Cv c P w K mg base N l d f B A outer s H E) [] (start N vs) H F:=by
 have O:ps.length<=N.length:=by have:=congrArg qB G.pre;rw [WS] at this;omega
 obtain ⟨C,tk,rfl,J⟩:=x.done;have o:∀b:Addr,b∉(Cv c P w K mg base N l d f B A outer s H E).ex:=λ b z=>absurd (show b∈([]:List Addr) from z) (by simp)
 refine ⟨⟨j.mod,G.kind,rfl,rfl,ZE _,λ y z c C g=>?_,λ y m=>?_,λ y c _ h=>?_,λ z=>hd z,XA.frames_deeper j.frames,.inr ⟨rfl,rfl⟩,λ b z=>absurd z (o b),j.bs,j.bsz,λ b _ _=>o b,λ b z=>absurd z (o b),j.funs,j.frf,ZE _⟩,
  rfl,j.bare,Un.kept J,⟨_,x.toInCall.ns,λ i y v C g Q=>?_⟩,λ y c h=>⟨_,x.cell y c h⟩,j.hok.fresh (ZE _),λ y c h=>?_,λ p t=>absurd (show p∈([]:List (Addr×Obj)) from t) (by simp),j.hok.kept J,?_,I⟩
 ·exact name_of_addr x.apart (JA C) (JA g)
 ·have m:d.names.lookup y=some .cell\/d.names.lookup y=some .free:=m;rcases m with m | m
  ·exact QZ m
  ·exact absurd rfl (G.nofree _ (JA m))
 ·exact UU (x.above y c (JA h))
 ·have hi:i < vs.length:=by
   unfold start at g;by_cases hi:i < vs.length
   ·exact hi
   ·rw [Uq (by simpa using hi)] at g
    rw [List.getElem?_replicate] at g
    split at g<;>cases g
  have ha:vs[i]?=some v:=by
   unfold start at g;rw [Uc (by simpa using hi),YN] at g
   cases e:vs[i]? with
   | none=>rw [e] at g;cases g
   | some a=>rw [e] at g;cases g;rfl
  obtain ⟨u,L,M⟩:=r.get ha;have t:ps[i]?=some y:=by
   rw [<- G.pre,List.getElem?_take_of_lt ∅];exact C
  have D:ps.Nodup:=by rw [<- G.pre];exact G.nd.sublist (List.take_sublist _ _)
  refine ⟨u,M,?_⟩;rcases G.par y (YB t) with k | k
  ·exact .inl ⟨k,fB D t L k⟩
  ·obtain ⟨c,e⟩:=QZ (n:=s.heap.objs.size+1) k;refine .inr ⟨.inl k,c,e,?_⟩;have q:=x.cell y c e;rw [Y4 D t L (by show d.names.lookup y≠_;rw [k];decide)] at q
   exact q
 ·exact j.hok.fresh (UU (x.above y c (JA h)))
 ·unfold start;show _=N.length;rw [ZA,X9,GA];omega
theorem Ia {c:Bool}{P:ZU}{w:World}{K:FrG}{mg:Str->Option Value}{base:Heap}{k:Nat}{f:Addr}{name d:Str}{g:Arguments}{i:List Stmt}{a:Scope}{J kV B L cdv ct Z:Value}{M a0:Option Addr}
  {O:Array (Option Value)} {N ps:List Str} {sp:Sp} (a1:K.lookup f=some ⟨Z,a0,.func (YR name d g i a J kV B L M cdv ct),O⟩) (R:Wp K cdv d=true) (S:FnScope N ps a)
  (len:∀vs H Q E,sp vs H Q E->vs.length=ps.length)
  (p:∀(A:XA) (outer:List Env) (s:X1) (H:Hp) (vs:List V) (Q:VK) (E:XK),RoomB c k (A.deeper (ua d a s.heap.objs.size f cdv))->sp vs H Q E->
   ∃t,PSs (Cv c P w K mg base N d a f cdv A outer s H E) i t/\t { nx:=λ _ h=>Q .non h,rt:=Q } (start N vs) H):
  FnB P w K mg base c (k+1) f (YR name d g i a J kV B L M cdv ct) ps sp:=by
 refine ⟨len,λ A outer s H args us vs Q E G m hb r C T=>?_⟩
 have hl:=len _ _ _ _ C;have U:K.In s.heap:=m.mod.kin.keeps λ b o e=>(m.bs b o e).1
 have lim:s.heap.NoLimit:=m.mod.nolimit.keeps λ b o e=>(m.bs b o e).1
 have z:∀y∈ps.zip us,a.names.lookup y.1=some .local\/(a.names.lookup y.1=some .cell/\((zC (s.heap.objs.size+1) a.names []).lookup y.1).isSome=true):=λ ⟨n,v⟩ a2=>by
  rcases S.par n (qk a2).1 with q | q
  ·exact .inl q
  ·exact .inr ⟨q,wx _ _ _ (.inl q)⟩
 refine GG G.depth (U _ _ a1) rfl S.co S.gen rfl (FX U R) (hb _ _ _ _ ?_);refine Vs S.kind z (aR hl r T) λ env a3 X x Y=>?_
 subst a3;refine ⟨lim.keeps x.toInCall.keep,codeAny_func ?_⟩;obtain ⟨t,ht,a4⟩:=p A outer s H vs Q E (G.deeper _) C;have a6:Inv (Cv c P w K mg base N d a f cdv A outer s H E) [] (start N vs) H X:=VD S G.hd m hl r x Y;refine Wf (ht [] X (start N vs) H _ a6 a4) (λ a5 s' l=>?_) λ e s' l=>l
 have D:∀{j:St} {h:Hp} {v:V} {u:Value},Inv (Cv c P w K mg base N d a f cdv A outer s H E) [] j h s'->RelV v u->Q v h->CE outer P w H s Q u s':=
  λ {j h v u} F I q=>⟨v,h,F.os,F.bare,F.base,F.hok,I,q⟩
 cases a5 with
 | ret u=>
  obtain ⟨v,j,h,F,I,q⟩:=l;exact D F I q
 | next=>
  obtain ⟨j,h,F,q⟩:=l;exact D (v:=V.non) (u:=US) F rfl q
 | brk=>
  obtain ⟨_,_,_,q⟩:=l;exact WE q
 | cont=>
  obtain ⟨_,_,_,q⟩:=l;exact WE q
structure CalB (P:ZU)(w:World)(K:FrG)(mg:Str->Option Value)(base:Heap)(c:Bool)(k:Nat)(x:Str)(ps:List Str)(sp:Sp):Prop where
 ex:∃(f:Addr) (fd:UE),FnB P w K mg base c k f fd ps sp/\mg x=some (.ref f)/\YJ K (.ref f)=true/\Binds K fd ps []
theorem TopFn.calB {c:Bool}{P:ZU}{w:World}{K:FrG}{mg:Str->Option Value}{base:Heap}{x:Str}{st:Stmt}{N ps:List Str}{k:Nat}{sp:Sp}(T:TopFn K mg x st)(j:FnScope N ps (defScope st))
  (hb:∀(kV b d:Value) (e:Option Addr) (cdv ct:Value) (us:List Value),us.length=ps.length->jl (YR x x (defArgs st) (defBody st) (defScope st) .none kV b d e cdv ct) ⟨us,[]⟩=pure (ps.zip us))
  (len:∀vs H Q E,sp vs H Q E->vs.length=ps.length)
  (a:∀(f:Addr) (cdv:Value) (A:XA) (outer:List Env) (s:X1) (H:Hp) (vs:List V) (Q:VK) (E:XK),RoomB c k (A.deeper (ua x (defScope st) s.heap.objs.size f cdv))->sp vs H Q E->
   ∃t,PSs (Cv c P w K mg base N x (defScope st) f cdv A outer s H E) (defBody st) t/\t { nx:=λ _ g=>Q .non g,rt:=Q } (start N vs) H):CalB P w K mg base c (k+1) x ps sp:=by
 obtain ⟨f,fd,F,hm⟩:=T.ex;obtain ⟨m,n,kV,b,d,e,cdv,ct,i,rfl,l,h⟩:=id F.ex;exact ⟨f,_,Ia l h j len (a f cdv),hm,F.kp,F.binds hb⟩
theorem Aw {P:ZU}{w:World}{X:Cx}:Passes (DN P w) X E0:=λ _ _ _ _ _ _ _ h=>by
 obtain ⟨_,_,_,_,_,_,_,_,_,_,_,_,q⟩:=h;exact q.elim
section
variable {X:Cx}{c:Bool}{k:Nat}{ps:List Str}{sp:Sp}{x:Str}{p pos:Pos}{e:Expr}{es:List Expr}{t:TA}{E:XK}
theorem Ks {a:List (Addr×Obj)}{d:St}{H:Hp}{s:X1}{Q:VK}{us:List Value}{vs:List V}{f:Addr}{fd:UE}{g:Value->X1->Prop}(F:FnB X.prog X.w X.K X.mg X.base c k f fd ps sp)(j:RoomB c k X.A)(hb:Binds X.K fd ps [])
  (i:Inv X a d H s) (r:Vals vs us) (h:sp (vs++[]) H Q E) (l:∀e s',DN X.prog X.w X.stack H s E e s'->X.tb<=s'.toks->g e s'):wpAny (model X.prog X.w) X.A (call (.ref f) us) (EP X a d Q) g s:=by
 have r2:Vals (vs++[]) (us++[]):=r.append .nil;have hl:(us++[]).length=ps.length:=by rw [<- r2.length];exact F.len _ _ _ _ h
 refine qq (xI i.tk (wT (F.run X.A X.stack s H ⟨us,[]⟩ (us++[]) (vs++[]) Q E j i.env0 (hb s us i.kIn hl) r2 h (.inl i.tk1)) λ r s' b ht=>?_))
 cases r with
 | error e=>exact l e s' b ht
 | ok m=>
  cases m with
  | ret u=>exact i.after b
  | next=>exact WE b
  | brk=>exact WE b
  | cont=>exact WE b
theorem Am (C:CalB X.prog X.w X.K X.mg X.base c k x ps sp)(j:RoomB c k X.A)(l:Passes (DN X.prog X.w) X E)(ha:PA X (e::es) t)(m:Gl X x:=by rfl)(d:(x == ("__debug__":Str))=false:=by decide)
  (n:YE (e::es) X.env=(false,eval e X.env)::YE es X.env:=by rfl) (g:(Qe pos (YE es X.env)).any (·.1)=false:=by rfl):
  PE X (.Call (.Name x p) (e::es) [] pos) (tCall sp [] E t):=by
 obtain ⟨f,fd,F,hm,o,hb⟩:=C.ex;intro a s i H Q u h;refine UZ (EY u m hm ?_ d);refine UX (h₀:=X.base) u.ok.mod.kin o (thn (ha pos a s i H _ u h) λ us v ⟨vs,y,b,r,q⟩=>⟨b.kIn,?_⟩) n g
 exact Ks F j hb b r q λ e s' h ht=>l a i y v e s' b h ht
end
abbrev Cx.hnd (X:Cx)(a:Addr):Cx:={ X with A:=X.A.mark (some (.ref a)),calm:=false,xe:=λ _ _=>False }
section
variable {X:Cx}{pins:List (Addr×Obj)}{σ:St}{H:Hp}{s:X1}
theorem Inv.hnd (b:Inv X pins σ H s)(a:Addr):Inv (X.hnd a) pins σ H s:=
 ⟨⟨b.ok.mod,b.ok.kind,b.ok.glob,b.ok.blt,b.ok.above,b.ok.inj,b.ok.has,b.ok.cab,(λ z=>nomatch z),b.ok.frames,b.ok.stk,b.ok.exf,b.ok.bs,b.ok.bsz,b.ok.noex,b.ok.exfs,b.ok.funs,b.ok.frf,b.ok.tb1⟩,b.os,b.bare,b.base,b.loc,b.cell,b.free,b.freeC,b.pin,b.hok,b.len,b.tk⟩
theorem Inv.unhnd {a:Addr}(c:X.Ok)(b:Inv (X.hnd a) pins σ H s):Inv X pins σ H s:=⟨c,b.os,b.bare,b.base,b.loc,b.cell,b.free,b.freeC,b.pin,b.hok,b.len,b.tk⟩
theorem HR {M:Model}{A:XA}{E:Value->X1->Prop}{i:Nat}{n:Str}{pos:Pos}{Q:Unit->X1->Prop}(a:Inv X pins σ H s)(F:X.N.Nodup)(hi:X.N[i]?=some n)(G:X.env.scope.names.lookup n=some .local)
  (h:∀s',Inv X pins (σ.set i none) H s'->Q () s'):wpAny M A (do bindName X.env n .none;unbindBehindTheSuite X.env n pos) Q E s:=by
 obtain ⟨m,hn,hl⟩:=id a.loc;have u:(X.env.scope.kind == .class || (X.env.scope.kind == .module && X.env.locals != X.env.globals))=false:=by rw [a.ok.kind];rfl
 have x:i < σ.length:=by rw [a.len];exact (WJ.mp hi).1
 have cne:=a.cne;refine wpAny_nameGoes_keeps G hn u λ h' v C g=>?_
 obtain ⟨U,_,_,T,_⟩:=id hn;have l:HOk X.prog X.w H h':=λ b ob e=>by
  refine (a.hok b ob e).stay (λ c D r q=>(g.2 c ?_).trans q) (λ _ q=>q) λ _ _ q=>q
  intro z;have f:=a.free;rw [<- z] at f;rcases r with r | r
  ·rw [r] at f;rw [f] at e;cases e
  ·rw [f] at r;cases r
 refine h _ ⟨a.ok,a.os,a.bare,⟨λ b o e n hb t=>?_,λ b o e n hb t=>?_,a.base.free,λ b o e t=>?_,a.base.tups,a.base.frzs,a.base.tbls⟩,⟨_,C,λ j y I e1 e2 J=>?_⟩,λ y c e=>?_,a.free,a.freeC,λ p K=>?_,l,by simpa using a.len,Xh a.tk⟩
 ·exact (g.2 b (YP (Zu (ZT e) a.ok.above))).trans (a.base.keep b o e n hb t)
 ·obtain ⟨L,e1⟩:=a.base.slot b o e n hb t;exact ⟨L,(g.2 b (YP (Zu (ZT e) a.ok.above))).trans e1⟩
 ·obtain ⟨O,e1⟩:=a.base.there b o e t;exact ⟨O,(g.2 b (YP (Zu (ZT e) a.ok.above))).trans e1⟩
 ·by_cases B:j=i
  ·subst B;rw [qK x] at e2;cases e2
  ·rw [GY (WU B)] at e2;obtain ⟨P,R,q⟩:=hl j y I e1 e2 J;refine ⟨P,R,?_⟩;rcases q with ⟨k,e⟩ | ⟨k,c,e,z⟩
   ·refine .inl ⟨k,?_⟩;have:y≠n:=λ e=>B (WY F e1 (e▸hi))
    simp [this,e]
   ·exact .inr ⟨k,c,e,z.sameBut g (cne y c e)⟩
 ·obtain ⟨D,z⟩:=a.cell y c e;exact ⟨D,z.sameBut g (cne y c e)⟩
 ·obtain ⟨e,n,ne,S,d⟩:=a.pin p K;exact ⟨(g.2 p.1 ne).trans e,n,ne,S,d⟩
theorem AO2 {f:Hp}{d:Heap}{s':X1}{a:Addr}{φ:Heap->Prop}(t:Inv X pins σ H s)(k:s'.os=s.os)(l:wS s'.gens)(u:Un (frs X.stack) [] H f s.heap d/\HOk X.prog X.w f d)
  (na:f a=none) (p:s.heap.get? a=none) (ex:φ d) (g:∃o,d.get? a=some o) (h:∀i j:Heap,φ i->(∀o,i.get? a=some o->j.get? a=some o)->φ j) (ht:X.tb<=s'.toks:=by first | assumption | exact Inv.tk (by assumption) | exact Xh (Inv.tk (by assumption)) | exact W8 (Inv.tk (by assumption)) (by assumption) | (have:=Inv.tk (by assumption);omega) | (have:=Inv.tk (by assumption);dsimp only at this;omega)):Inv X pins σ (upd f a (.ext φ)) { s' with heap:=d }:=by
 refine Gp t k l ⟨⟨u.1.keep,u.1.slot,λ b o e n r=>?_,u.1.there,λ b xs e=>?_,λ b o x e=>?_,λ b ps e=>?_⟩,λ b o e=>?_⟩
 ·have:b≠a:=λ z=>by rw [z,p] at e;cases e
  rw [Al this];exact u.1.free b o e n r
 ·have q:=u.1.tups b xs e;rw [Al (BV q na)];exact q
 ·have q:=u.1.frzs b o x e;rw [Al (BV q na)];exact q
 ·obtain ⟨m,q⟩:=u.1.tbls b ps e;exact ⟨m,by rw [Al (BV q na)];exact q⟩
 ·by_cases hb:b=a
  ·subst hb;rw [Ag] at e;cases e
   exact ⟨ex,g,h⟩
  ·rw [Al hb] at e;exact (u.2 b o e).stay (λ c v _ q=>q) (λ c q=>by rw [Al (BV q na)];exact q) λ c xs q=>by rw [Al (BV q na)];exact q
theorem PA.any {a:List Expr}{t:TA}(h:PA X.nox a t){b:Value->X1->Prop}(pos:Pos){Q:List V->Hp->Prop}(f:Inv X pins σ H s)(q:t σ H Q):
  wpAny (model X.prog X.w) X.A (spliced (Qe pos (YE a X.env))) (AP X pins σ Q) b s:=
 Wf (h pos pins s σ H Q (f.wish _) q) (λ us g ⟨vs,c,d,r,e⟩=>⟨vs,c,d.unwish,r,e⟩) λ _ _ z=>z.elim
end
abbrev Ends.gone (b:Ends)(i:Nat):Ends:={ nx:=λ a H=>b.nx (a.set i none) H,rt:=b.rt,bk:=λ a H=>b.bk (a.set i none) H,ct:=λ a H=>b.ct (a.set i none) H }
section
variable {X:Cx}{pins:List (Addr×Obj)}{σ:St}{H H2:Hp}{s s':X1}{a C Bc:Addr}{t:Option Addr}{B:Heap}{D:Ends}{xc n:Str}{np hp:Pos}{b₀:Stmt}{suite:List Stmt}{rest:List ExceptHandler}{ts:TS}{i:Nat}
theorem mX {φ:Heap->Prop}(Z:∀h o,h.get? a=some o->o.cls=.ref C->o.dict=t->(∃vs,o.data=.fields vs)->φ h)(a0:∀a1 a2:Heap,φ a1->(∀o,a1.get? a=some o->a2.get? a=some o)->φ a2)(Q:Inv X pins σ H s)(L:X.stack=X.env::X.outer)(hf:X.env.frame=some X.env.locals)(os:s'.os=s.os)(bare:wS s'.gens)
  (M:∀g:Heap,B.StaysIn g->s'.heap.UpToSlots g->Un (frs X.stack) [] H H2 s.heap g/\HOk X.prog X.w H2 g) (a3:FlyD B X.stack a (.ref C) t .none s'.heap) (na:H2 a=none) (b2:s.heap.get? a=none)
  (b3:Gl X xc) (a4:X.mg xc=some (.ref Bc)) (hm:WZ X.K (.ref C) (.ref Bc)=some true) (b4:PSs (X.hnd a) (b₀::suite) ts) (j:X.N.Nodup) (hi:X.N[i]?=some n) (b:X.env.scope.names.lookup n=some .local)
  (q:ts (D.gone i) (σ.set i (some (.ref a))) (upd H2 a (.ext φ))) (a5:(xc == ("__debug__":Str))=false:=by decide) (ht:X.tb<=s'.toks:=by first | assumption | exact Inv.tk (by assumption) | exact Xh (Inv.tk (by assumption)) | exact W8 (Inv.tk (by assumption)) (by assumption) | (have:=Inv.tk (by assumption);omega) | (have:=Inv.tk (by assumption);dsimp only at this;omega)):
  wpAny (model X.prog X.w) X.A (GS (.ref a) X.env) (λ _ R=>wpAny (model X.prog X.w) X.A (AQ (.ref a) none) (λ _ S=>
   wpAny (model X.prog X.w) X.A (handleBy (.ref a) X.env (.ExceptHandler (some (.Name xc np)) (some n) (b₀::suite) hp::rest)) (SP X pins D) X.xe S) X.xe R) X.xe s':=by
 have a6:X.A.frames=some (X.env::X.outer):=by rw [<- L];exact Q.ok.frames
 have T:FlyD B (X.env::X.outer) a (.ref C) t .none s'.heap:=by rw [<- L];exact a3
 refine P0 a6 hf T λ b5 y O=>?_
 refine Gz (s:={ s' with heap:=b5 }) y λ E d P=>?_
 have a7:Inv X pins σ H2 { s' with heap:=E }:=Gp Q os bare (M E d.1 (O.trans P))
 obtain ⟨ob,a8,U,_⟩:=d.there;have LT:yD (model X.prog X.w) E (typeOf (.ref a)) (.ref C):=U▸(GI a8).andThen .now;refine FD (GH (EY (X:=X.hnd a) (a7.hnd a) b3 a4 ?_ a5)) (by intro q;cases q)
 refine BD (K:=X.K) a7.kIn LT hm _ _ _ _ (λ _ _ e=>e) ?_
 refine codeAny_handlers_suite_as ?_;refine Gz (s:={ s' with heap:=E }) d λ a9 k b0=>?_
 obtain ⟨b1,l,F,G,I⟩:=k.there;have b6:Inv X pins σ (upd H2 a (.ext φ)) { s' with heap:=a9 }:=AO2 Q os bare (M a9 k.1 ((O.trans P).trans b0)) na b2 (Z _ _ l F G I) ⟨b1,l⟩ a0
 refine Gu (X:=X.hnd a) (b6.hnd a) j hi (.inl b) (show RelV (.ref a) (Yf a) from rfl) (λ b7 b8=>?_) (.inr b)
 refine Wf (b4 pins b7 _ _ (D.gone i) b8 q) (λ f b9 J=>?_) (λ x b9 z=>z.elim)
 cases f with
 | next=>
  obtain ⟨m,V,Y,q⟩:=J;exact HR (Y.unhnd Q.ok) j hi b λ p c=>⟨_,_,c,q⟩
 | ret u=>
  obtain ⟨v,m,V,Y,r,q⟩:=J;exact HR (Y.unhnd Q.ok) j hi b λ p c=>⟨v,_,_,c,r,q⟩
 | brk=>
  obtain ⟨m,V,Y,q⟩:=J;exact HR (Y.unhnd Q.ok) j hi b λ p c=>⟨_,_,c,q⟩
 | cont=>
  obtain ⟨m,V,Y,q⟩:=J;exact HR (Y.unhnd Q.ok) j hi b λ p c=>⟨_,_,c,q⟩
end
section
variable {prog:ZU}{w:World}{A:XA}{E:Value->X1->Prop}{s:X1}{K:FrG}{x D:Addr}
theorem ExcAt.type {M:Model}{h:Heap}(c:ExcAt x D h):yD M h (typeOf (.ref x)) (.ref D):=by
 obtain ⟨o,a,b⟩:=c;exact b▸(GI a).andThen .now
structure ExcK (K:FrG)(D:Addr):Prop where
 cl:(GU K D).isSome=true
 ga:ZH K (.ref D) "__getattribute__"=some (some (.builtin "BaseException.__getattribute__"))
 gt:ZH K (.ref D) "__getattr__"=some none
 ha:ZH K (.ref D) "__class__"=some (some (.builtin "object.__class__"))
 hn:zb K (.builtin "object.__class__") "__get__"=some (some (.builtin "getset_descriptor.__get__"))
 ht:ud K (.builtin "object.__class__")=some true
 hm:JY K D (.type "object")=some true
 hb:JY K D (.type "BaseException")=some true
end
end L2
namespace L2
open PySem PySem.Spec PySem.Calls PyProof.Rows PySem.W Builtin Builtin.ObjectAttr Builtin.Getset_descriptor
section
variable {prog:ZU}{w:World}{A:XA}{E:Value->X1->Prop}{s:X1}{K:FrG}{x D:Addr}
theorem jd {M:Model}{h:Heap}(X:K.In h)(F:ExcK K D):Looks M h (find (.ref x) (.ref D) "__class__") (.bind (.builtin "getset_descriptor.__get__") (.builtin "object.__class__")):=by
 have a:=jv (M:=M) X F.ha;have b:Looks M h (getOf (some (.builtin "object.__class__"))) (some (.builtin "getset_descriptor.__get__")):=looks_specialIn X F.hn;have c:Looks M h (dataDescriptor? (some (.builtin "object.__class__")) (some (.builtin "getset_descriptor.__get__"))) (some (.builtin "getset_descriptor.__get__",.builtin "object.__class__")):=(looks_takesIn (M:=M) X F.ht).andThen .now;exact a.andThen (b.andThen (c.andThen (Looks.tag .now)))
theorem xu {b:Result->X1->Prop}{a:Value}(X:K.In s.heap)(c:ExcAt x D s.heap)(F:ExcK K D)(h:b (.ok (.ret (.ref D))) s):
  wh (model prog w) A (.call (.builtin "getset_descriptor.__get__") ⟨[.builtin "object.__class__",.ref x,a],[]⟩) b s:=by
 obtain ⟨d,g,dr,t,os⟩:=s;have e:=ExcAt.type (M:=model prog w) c;have f:=looks_mroIn (M:=model prog w) X F.hm;refine xP KF.slot_gs.plain KF.entry_gs (KF.slot_gs.check _ _ _ _ _ _ _ _ KF.type_class (KF.args_gs _ _ _) ?_);unfold XI.«getset_descriptor.__get__» descrGet;rw [dga_obj];refine Y3 (ZI ?_);unfold descrGetter descrCheckInstance descrNameAndClass isInstance;simp only [KF.owner_class]
 repeat lk
 refine ⟨wP _ (by decide+kernel),codeAny_builtin KF.entry_class ?_⟩
 unfold XI.«object.__class__» shownTypeOf
 repeat lk
 exact h
theorem X6 {M:Model}{a:Value}{Q:Unit->X1->Prop}(X:K.In s.heap)(f:ExcAt x D s.heap)(F:ExcK K D)(c:Q () s):wpAny M A (checkBuiltinCall "BaseException.__getattribute__" ⟨[.ref x,a],[]⟩) Q E s:=by
 obtain ⟨g,j,d,t,os⟩:=s;have h:=ExcAt.type (M:=M) f;have i:=looks_mroIn (M:=M) X F.hb;have e:builtinKind "BaseException.__getattribute__"=some .slot:=by decide+kernel
 have b:splitId "BaseException.__getattribute__"=some ("BaseException","__getattribute__"):=by decide+kernel
 have ha:=PySem.F.args_bexc_ga (.ref x) a;simp only [checkBuiltinCall,e,b];refine Y3 ?_;unfold isInstance
 repeat (first | lk | wp_step)
 exact c
theorem jH {Q:Fin->X1->Prop}{tk:Tok}(X:K.In s.heap)(e:ExcAt x D s.heap)(F:ExcK K D)(f:Q (.done (.ret (.ref D))) s):
  wpAny (model prog w) A (XI.«object.__getattribute__» ⟨[.ref x,.str "__class__" tk],[]⟩) Q E s:=by
 obtain ⟨c,g,d,t,os⟩:=s;have a:=ExcAt.type (M:=model prog w) e;have b:=jd (M:=model prog w) (x:=x) X F;unfold XI.«object.__getattribute__»
 repeat (any_goals (first | assumption | (with_reducible refine a.at ?_) | (with_reducible refine b.at ?_) | wp_step))
 refine xu (s:=⟨c,g,d,t,os⟩) X e F ?_
 repeat (any_goals (first | assumption | (with_reducible refine a.at ?_) | (with_reducible refine b.at ?_) | wp_step))
theorem qD {Q:Option Value->X1->Prop}(X:K.In s.heap)(c:ExcAt x D s.heap)(F:ExcK K D)(q:Q (some (.ref D)) { s with toks:=s.toks+1 }):
  wpAny (model prog w) A (getAttr? (.ref x) "__class__") Q E s:=by
 obtain ⟨a,g,d,t,os⟩:=s;have e:=ExcAt.type (M:=model prog w) c;have f:=jv (M:=model prog w) X F.ga;have h:=jv (M:=model prog w) X F.gt;have i:=xh.ga.bind (.ref x);have b:(onTheHeap (Yf D) && yT "BaseException.__getattribute__" == yT "object.__getattribute__")=false:=by
  rw [show (yT "BaseException.__getattribute__" == yT "object.__getattribute__")=false by decide+kernel];rfl
 unfold getAttr? getAttrBy? getAttrBy;refine Y3 (wpAny_mkText (Y3 (Mc (WI (Y3 (e.at (Y3 (f.at ?_))))))));dsimp only
 rw [b];rw [if_neg ZL];unfold getAttrByItsOwn hookBefore
 repeat (any_goals (first | assumption | wp_step | lk))
 refine xP xh.ga.plain BG (X6 (s:=⟨a,g,d,t+1,os⟩) X c F (jH (s:=⟨a,g,d,t+1,os⟩) X c F ?_))
 repeat (any_goals (first | assumption | wp_step | lk))
theorem uA (F:ExcK K D):KitX K (.ref x) (.ref D) (ExcAt x D) where
 ty:=λ _ _ _ g=>g.type
 it:=λ M h X _=>by
  obtain ⟨i,a⟩:=xR.mp F.cl;unfold clsIn at a
  split at a
  ·rename_i j d' c d b
   intro o p r s' k q;unfold isType loadHead;exact Y3 (wpAny_loadPart (k _ _ (X _ _ b)) (ZI q))
  ·cases a
 ne:=λ h l dd m n t X f=>by
  obtain ⟨i,a⟩:=xR.mp F.cl;refine ND.mpr λ q=>?_
  have e:D=l:=Yf.inj (beq_iff_eq.mp q);subst e;unfold clsIn at a
  split at a
  ·rename_i j d' c d b
   have z:=(X _ _ b).symm.trans f;cases z
  ·cases a
 ca:=λ X g k=>qD X g F k
end
end L2
namespace L2
open PySem PySem.Spec PyProof.Rows PySem.Builtin PySem.Builtin.Str
section
variable {X:Cx}
inductive nJ (x:V)(vs:List V)(H:Hp)(Q:VK):Prop | mk (i j:_) (_:x=.str i) (_:vs=[.str j]) (_:Q (.bl (FY i j)) H)
theorem ww:MtM X "str.startswith" nJ:=by
 intro a s e H x vs v us Q f b c h;obtain ⟨i,j,rfl,rfl,q⟩:=h;obtain ⟨t,rfl⟩:=b;obtain ⟨u,rfl,d⟩:=c.one;obtain ⟨t',rfl⟩:=d;exact SC.startswith ⟨.bl _,H,f,rfl,q⟩
theorem qu {s:X1}{a:Str}{Q:Value->X1->Prop}:∀(l:List (Str×Tok)),(∀p∈l,p.2≠0)->1<=s.toks->((wm a (l.map (·.1))).length<=X3/\∀(t':NZ) k,s.toks<=k->Q (.str (wm a (l.map (·.1))) t'.1) { s with toks:=k })->(joinMade a l).post Q s
 | [],_,hn,h=>⟨h.1,h.2 ⟨_,XW hn⟩ _ (WV _)⟩
 | [p],b,hn,h=>h.2 ⟨p.2,b p YV⟩ s.toks (ZE _)
 | _::_::_,_,hn,h=>⟨h.1,h.2 ⟨_,XW hn⟩ _ (WV _)⟩
theorem sY {a:List Str}{b:List Value}{n:Nat}{v:Value}{x:Str}{t:Tok}(d:Vals (a.map V.str) b)(e:b[n]?=some v)(h:v=Mi x t):t≠0:=by
 have c:=Vals.length d;have hb:n < (a.map V.str).length:=by rw [c];exact (WJ.mp e).1
 rw [X9] at hb;have i:(a.map V.str)[n]?=some (.str (a[n]'hb)):=by
  rw [YN,Xs hb];rfl
 obtain ⟨u,f,⟨t',g⟩⟩:=d.get i;rw [e] at f;cases f
 rw [h] at g;cases g
 exact t'.2
theorem yr {b:Type}{M:Model}{A:XA}{s:X1}{t:Sem b}{Q:b->X1->Prop}{E:Value->X1->Prop}{n:Nat}(hn:n<=s.toks)(h:wpAny M A t (λ a s'=>n<=s'.toks->Q a s') E s):wpAny M A t Q E s:=Wf (Md hn h) (λ _ _ x=>x.2 x.1) (λ _ _ x=>x.2)
theorem Vg:∀(l:List (Str×Tok)),(∀p∈l,p.2≠0)->Vals ((l.map (·.1)).map V.str) (GT l)
 | [],_=>.nil
 | p::r,h=>.cons ⟨⟨p.2,h p YV⟩,rfl⟩ (Vg r λ q a=>h q (ZX _ a))
theorem V2:∀(xs:List Str) (n:Nat),1<=n->∀p∈numbered n xs,p.2≠0
 | [],_,_,_,a=>nomatch a
 | x::r,n,hn,p,a=>by
  rcases ZN.mp a with rfl | h
  ·exact XW hn
  ·exact V2 r (n+1) (BC _ _) p h
theorem Mh {s:X1}{c:Prop}[Decidable c]{y z:Str}{t:NZ}{Q:Value->X1->Prop}(hn:1<=s.toks)(h:(if c then y else z).length<=X3/\∀(t':NZ) (k:Nat),s.toks<=k->Q (.str (if c then y else z) t'.1) { s with toks:=k }):
  (if c then Cn (.str y t.1) else Made.str z).post Q s:=by
 by_cases a:c
 ·rw [if_pos a];have q:=h.2 t s.toks (ZE _);rw [if_pos a] at q;exact q
 ·rw [if_neg a];have q:=h.2 ⟨s.toks,XW hn⟩ (s.toks+1) (WV _);have b:=h.1;rw [if_neg a] at q b;exact ⟨b,q⟩
inductive AK4 (x:V)(vs:List V)(H:Hp)(Q:VK):Prop | mk (i j:_) (_:x=.str i) (_:vs=[.str j]) (_:(j.length == 0)=false) (_:i.length+2<=X3) (_:∀p,H p=none->Q (.ref p) (upd H p (.lst ((XO i j).map V.str))))
theorem Pg:MtM X "str.split" AK4:=by
 intro c s m H x vs v us Q f n o h;obtain ⟨i,j,rfl,rfl,g,y,q⟩:=h;obtain ⟨t,rfl⟩:=n;obtain ⟨u,rfl,r⟩:=o.one;obtain ⟨t',rfl⟩:=r;have hn:(jz i (Ua i j 0 i.length (i.length+1)) j.length).length<=X3:=by
  have e1:=GB i j 0 i.length (i.length+1);rw [length_partsBetween];omega
 have b:∀(l:List (Str×Tok)) (tk:Nat),l.map (·.1)=XO i j->l.length<=X3->(∀p∈l,p.2≠0)->X.tb<=tk->EP X c m Q (.ref s.heap.objs.size) { s with heap:=s.heap.push { cls:=.type "list",data:=.seq (GT l).toArray },toks:=tk }:=λ l tk e hl k w=>by
  refine ⟨.ref s.heap.objs.size,_,?_,rfl,q _ f.fresh⟩;rw [<- e];exact f.lnew (Vg l k) (by rw [X9,X9];exact hl)
 cases a:(decide (i.length < j.length) || decide (strKind i < strKind j))
 ·cases hf:(Ua i j 0 i.length (i.length+1)).isEmpty
  ·refine jo ze (wb _ _ _) NF (Na _ _) (meets_str_split_sep i j t t' a g hf ∅ hn) ?_
   show wants _ _ _ { s with toks:=_,heap:=s.heap.push { cls:=.type "list",data:=.seq (strsFrom s.toks (jz i (Ua i j 0 i.length (i.length+1)) j.length)).toArray } }
   rw [strsFrom_eq];refine b (numbered s.toks _) _ ((AK _ _).trans ((if_neg (ne_true_of_eq_false a)).trans (if_neg (ne_true_of_eq_false hf))).symm) ?_ (V2 _ _ f.tk1) (by have:=f.tk;omega)
   have:=congrArg qB (AK s.toks (jz i (Ua i j 0 i.length (i.length+1)) j.length));rw [X9] at this;omega
  ·exact jo ze (wb _ _ _) NF (Na _ _) (meets_str_split_not_found i j t t' a g hf)
    (b [(i,t)] s.toks ((if_neg (ne_true_of_eq_false a)).trans (if_pos hf)).symm (by show 1<=X3;decide) (λ p d=>by rw [ZB.mp d];exact t.2) f.tk)
 ·exact jo ze (wb _ _ _) NF (Na _ _) (meets_str_split_cannot_occur i j t t' a)
   (b [(i,t)] s.toks (if_pos a).symm (by show 1<=X3;decide) (λ p d=>by rw [ZB.mp d];exact t.2) f.tk)
inductive iW (x:V)(lo:Option Int)(hi:Option Int)(H:Hp)(Q:VK):Prop | mk (z:_) (_:x=.str z) (_:z.length<=X3) (_:Q (.str (UA z lo hi)) H)
theorem XX:SlR X iW:=by
 intro e s p H x v B C lo hi D Q g r w pl m h;obtain ⟨z,rfl,y,q⟩:=h;obtain ⟨t,rfl⟩:=r;refine ⟨"str",_,F.slot_str_getitem.lookup,wb _ _ _,?_⟩;obtain ⟨o,c,d,hd⟩:=w;have a:∀(t':NZ) k,s.toks<=k->EP X e p Q (.str (UA z lo hi) t'.1) { s with toks:=k }:=λ t' k A=>⟨.str _,H,g.tok _,⟨t',rfl⟩,q⟩
 have b:=W8 (MR z lo hi) y;cases pl with
 | none=>
  cases m with
  | none=>exact UK (l:=none) (u:=none) (st:=none) ⟨o,c,d,hd⟩ rfl (Mh g.tk1 ⟨b,a⟩)
  | int j f=>exact UK (l:=none) (u:=some (j,f)) (st:=none) ⟨o,c,d,hd⟩ rfl (Mh g.tk1 ⟨b,a⟩)
 | int i n=>
  cases m with
  | none=>exact UK (l:=some (i,n)) (u:=none) (st:=none) ⟨o,c,d,hd⟩ rfl (Mh g.tk1 ⟨b,a⟩)
  | int j f=>exact UK (l:=some (i,n)) (u:=some (j,f)) (st:=none) ⟨o,c,d,hd⟩ rfl (Mh g.tk1 ⟨b,a⟩)
def PJ (X:Cx)(d:List Expr)(t:Str->St->Hp->VK->Prop):Prop:=
 ∀(b:Str) (a:List (Addr×Obj)) (s:X1) (c:St) (H:Hp) (Q:VK),Inv X a c H s->t b c H Q->wpAny (model X.prog X.w) X.A (joinParts b (evalEach d X.env)) (EP X a c Q) X.xe s
def rQ (x:V)(y:Str):Prop:=(∃i:Int,x=.int i/\i.natAbs.log2 < 1920/\y=((toString i:String):Str))\/(x=.str y/\y.length<=X3)
variable {a:Expr}{ta:TE}{es:List Expr}{tr:Str->St->Hp->VK->Prop}{p pos:Pos}
theorem vf:PJ X [] (λ b _ H Q=>b.length<=X3/\Q (.str b) H):=λ b _ s d H Q c h=>joinParts_nil ⟨.str b,H,c.tok _,⟨⟨_,XW c.tk1⟩,rfl⟩,h.2⟩ h.1
theorem YF (ha:PE X a ta)(g:PJ X es tr):PJ X (.FormattedValue a (-1) none p::es) (λ d c H Q=>ta c H λ x e=>∃y,rQ x y/\(d++y).length<=X3/\tr (d++y) c e Q):=by
 intro d b s c H Q m h;refine joinParts_cons (FormattedValue_plain (thn (ha b s c H _ m h) λ v n ⟨x,e,f,r1,y,k,j,q⟩=>?_))
 rcases k with ⟨i,rfl,hl,rfl⟩ | ⟨rfl,hl⟩
 ·obtain ⟨t,rfl⟩:=r1;exact formatField_int_small hl ⟨j,g _ b _ c e Q (f.tok _) q⟩
 ·obtain ⟨t,rfl⟩:=r1;exact yl f.tk (formatField_str (λ t' tk l=>⟨j,g _ b _ c e Q (f.tok _) q⟩) hl)
theorem rE {z:Str}{k:Nat}(e:PJ X es tr):PJ X (.Constant (.str z) k p::es) (λ b c H Q=>(b++z).length<=X3/\tr (b++z) c H Q):=by
 intro b d s c H Q f h;exact joinParts_cons (wr ⟨h.1,e _ d _ c H Q (f.tok _) h.2⟩)
theorem AP1 {e1 e2:Expr}{t:Str->St->Hp->VK->Prop}(h:PJ X (e1::e2::es) t):PE X (.JoinedStr (e1::e2::es) pos) (t Fk):=λ b s c H Q d q=>JoinedStr_many (h _ b s c H Q d q)
inductive AI2 (xs:List V)(H:Hp)(Q:VK):Prop | mk (x n:_) (_:xs=[.str x]) (_:x.length<=640) (_:PySem.intText? x=some n) (_:Q (.int n) H)
theorem AQ6:CallR X (.type "int") AI2:=by
 intro b s d H xs us Q e r h;obtain ⟨x,n,rfl,hl,hn,q⟩:=h;obtain ⟨u,rfl,c⟩:=vals1 r;obtain ⟨t,rfl⟩:=c;exact call_int_1 (PySem.W.KIN.gives_text hl hn).meets ⟨rfl,⟨.int n,H,e.tok _,⟨_,rfl⟩,q⟩⟩
theorem Lx (w:X.calm=true):CallR X (.builtin "all") (λ xs H Q=>∃(p:Addr) (bs:List Bool),xs=[.ref p]/\SqL X.K H p (bs.map V.bl)/\Q (.bl (bs.all id)) H):=by
 intro x s F H xs us Q t r h;obtain ⟨p,bs,rfl,j,q⟩:=h;obtain ⟨u,rfl,f⟩:=vals1 r;cases f
 obtain ⟨d,g,pl,y⟩:=t.list j;have c:d.toArray.size=bs.length:=by
  have:=g.length;rw [X9] at this;rw [YU];exact this.symm
 have l:p < s.heap.objs.size:=by
  obtain ⟨o,e,_⟩:=pl.isList;exact ZT e
 have z:X.A.in1.handled=none:=t.ok.hd w;refine yl t.tk (call_all_walk (uo pl.isList ⟨s.heap.objs.size,_,_,_,_,_,λ i=>bs.getD i false,rfl,Walks.list z s.heap.objs.size p (YP l) d.toArray,⟨⟨_,YI _ rfl,rfl,rfl⟩,pl.isList.push _⟩,?_,λ h' tk k E=>?_⟩))
 ·intro i v G I J B C;have m:d[i]?=some v:=by simpa using B
  have hb:bs[i]?=some (bs.getD i false)/\RelV (.bl (bs.getD i false)) v:=by
   have hi:i < bs.length:=by
    have:=(WJ.mp m).1;rw [<- c,YU];exact this
   have e1:(bs.map V.bl)[i]?=some (.bl (bs.getD i false)):=by
    rw [YN,Nc,Xs hi];rfl
   obtain ⟨u,n,f⟩:=g.get e1;rw [m] at n;cases n
   refine ⟨?_,f⟩;rw [Nc,Xs hi];rfl
  obtain ⟨_,f⟩:=hb;cases f
  exact Qp C
 ·have e:(QE d.toArray.size).all (λ i=>bs.getD i false)=bs.all id:=by
   rw [c];clear c g q k j y
   induction bs with
   | nil=>rfl
   | cons b r D=>
    rw [W6,MS,xW,MU,xW,<- D];rfl
  rw [e];exact ⟨.bl _,H,t.kept (h':=h') (t':=tk) λ b o e=>k b o (by
   intro hb;have:b=s.heap.objs.size:=by simpa using hb
   exact absurd (ZT e) (by rw [this];exact yB _)) (X2 _ e),rfl,q⟩
end
theorem cC {b:Str}:∀{vs:List Value} {zs:List Str} {a:List Value},AreOf .str vs zs->jS (λ v r=>∃z t,v=.str z t/\r=.bool (!(Ua b z 0 b.length 1).isEmpty)) vs a->
  Vals (zs.map λ z=>V.bl (!(Ua b z 0 b.length 1).isEmpty)) a
 | _,_,_,.nil,r=>by cases r;exact .nil
 | _,_,_,.cons h c,r=>by
  cases r with
  | cons r1 r2=>
   obtain ⟨t,rfl⟩:=h;obtain ⟨z,t',e,rfl⟩:=r1;cases e
   exact .cons rfl (cC c r2)
section
variable {X:Cx}
theorem Inv.laidN {d:List (Addr×Obj)}{f:St}{H:Hp}{s:X1}{a:Addr}{o:HO}{h':Heap}{tk:Nat}(h:Inv X d f H s)(k:∀b u,s.heap.get? b=some u->h'.get? b=some u)(na:s.heap.get? a=none)
  (g:ObjOk X.prog X.w (upd H a o) h' a o) (ht:X.tb<=tk:=by first | assumption | exact Inv.tk (by assumption) | exact Xh (Inv.tk (by assumption)) | exact W8 (Inv.tk (by assumption)) (by assumption) | (have:=Inv.tk (by assumption);omega) | (have:=Inv.tk (by assumption);dsimp only at this;omega)):Inv X d f (upd H a o) { s with heap:=h',toks:=tk }:=by
 have hn:H a=none:=h.hok.none_of na;refine Gp (s':={ s with heap:=h',toks:=tk }) h rfl h.bare ⟨⟨λ b u e _ _ _=>k b u e,λ b u e _ _ _=>⟨u.slots,k b u e⟩,λ b u e n _=>?_,λ b u e _=>⟨u,k b u e⟩,λ b xs e=>?_,λ b u x e=>?_,λ b ps e=>?_⟩,λ b u e=>?_⟩
 ·have:b≠a:=λ z=>by rw [z,na] at e;cases e
  rw [Al this];exact n
 ·rw [Al (BV e hn)];exact e
 ·rw [Al (BV e hn)];exact e
 ·exact ⟨#[],by rw [Al (BV e hn),Array.append_empty];exact e⟩
 ·by_cases hb:b=a
  ·subst hb;rw [Ag] at e;cases e
   exact g
  ·rw [Al hb] at e;exact (h.hok b u e).stay (λ c v _ q=>k c v q) (λ c q=>by rw [Al (BV q hn)];exact q) λ c xs q=>by rw [Al (BV q hn)];exact q
theorem aN {x R:Str}{a6 a7 S a8 pos:Pos}{iter:Expr}{T:TE}{d:Scope}{F:Str}{a9:Tok}(b0:X.calm=true)(hi:PE X iter T)(hm:X.mg R=some (.str F a9))
  (B:∀y∈d.names,y.2≠.free) (hcell:∀y∈d.names,y.2≠.cell) (j:d.kind=.function) (w:∀y∈d.names,y.2=.local->d.names.lookup y.1=some .local)
  (U:d.names.lookup x=some .local) (b1:d.names.lookup R=some .globalImplicit) (hd:(x == ("__debug__":Str))=false) (W:(R == ("__debug__":Str))=false) (b2:∀x,Qq iter X.env x=pure x:=by intro _;rfl) (Y:uk .In (.Name R S)=false:=by rfl):
  PE X (.ListComp (.Compare (.Name x a7) [.In] [.Name R S] a8) [⟨.Name x a6,iter,[],0⟩] d pos)
   (λ G H Q=>T G H λ v I=>∃y,v=.str y/\y.length<=X3/\∀p,I p=none->Q (.ref p) (upd I p (.lst ((signs y).map λ z=>V.bl (!(Ua F z 0 F.length 1).isEmpty))))):=by
 intro J s G H Q b6 h;refine yr b6.tk (wpAny_ListComp_walk (λ _=>true) (λ v r=>∃z t,v=.str z t/\r=.bool (!(Ua F z 0 F.length 1).isEmpty)) B hcell j w U (thn (hi J s G H _ b6 h) λ c0 g ⟨v,I,n,r1,y,e,Z,q⟩=>?_) b2)
 subst e;obtain ⟨t,rfl⟩:=r1;refine wpAny_pyIter_str λ o St c1 a0=>?_
 have up:∀(h':Heap),(∀b l,b∉[g.heap.objs.size]->(g.heap.push o).get? b=some l->h'.get? b=some l)->∀b l,g.heap.get? b=some l->h'.get? b=some l:=
  λ h' K b l e=>K b l (old_not_new e) (X2 _ e)
 refine ⟨g.heap.objs.size,[g.heap.objs.size],[g.heap.objs.size],y.cps.size,SignAt y,St,rfl,c1 X.A (n.ok.hd b0),Z,a0,?_,⟨?_,?_⟩,?_⟩
 ·intro b hb;show b < (g.heap.push o).objs.size;rw [Ug,ZB.mp hb];exact Qb _
 ·intro C i v f L b3 D hn E _ _;exact ZI ⟨rfl,f.heap,f.toks,rfl,λ _ _ e=>e⟩
 ·intro C i v f L b3 D c2 hn E k _;obtain ⟨c,u,b7,rfl⟩:=D;have ns:f.heap.Ns ZY X.mg:=(n.mod.glob.keeps n.bk).keeps (up f.heap k);refine wpAny_Compare1 (Bn (jb j U hn E ?_) hd) Y;refine uS j b1 (Mj (by show f.heap.Ns X.env.globals X.mg;rw [n.ok.glob];exact ns) hm ?_) W
  exact in_str ⟨⟨_,_,rfl,rfl⟩,f.heap,f.toks,rfl,λ _ _ e=>e⟩
 ·intro M h' tk a1 vs N b8 O P D a2 K b9;have a3:g.heap.get? M=none:=by
   cases e:g.heap.get? M with
   | none=>rfl
   | some ob=>
    have z:(g.heap.push o).get? M=some ob:=X2 _ e;have m:(g.heap.push o).get? M=none:=N;rw [z] at m;cases m
  have a4:jS (λ v r=>∃z t,v=.str z t/\r=.bool (!(Ua F z 0 F.length 1).isEmpty)) vs a1.toList:=by
   rw [List.filter_eq_self.mpr (λ _ _=>rfl)] at a2
   exact a2
  have b4:=cC (areOf_signs P D) a4;obtain ⟨b5,a5⟩:=O;refine ⟨.ref M,_,n.laidN (a:=M) (o:=.lst _) (tk:=tk) (up h' K) a3 ⟨?_,a1.toList,b5,b4,?_⟩,rfl,q M (n.hok.none_of a3)⟩
  ·rw [X9,signs_length];exact Z
  ·rw [a5]
end
end L2
namespace Tx
open PySem PySem.Builtin PySem.Builtin.Str PySem.NumText PyProof.Rows
abbrev cl (x:Y1):List Nat:=x.cps.toList
theorem ext {x y:Y1}(h:cl x=cl y):x=y:=Y1.ext' (Array.toList_inj.mp h)
theorem Bw (x y:Y1):cl (x++y)=cl x++cl y:=PySem.W.KT.app_list x y
theorem DX (x:Y1):(cl x).length=x.length:=Jx
def dg (m:Nat):List Nat:=(MV 10 m).map Char.toNat
theorem JH (m:Nat):wo (dg m):=by
 intro c b;obtain ⟨ch,a,e⟩:=UG.mp b;have r:=digit_range (Nat.isDigit_of_mem_toDigits ⋯ ⋯ a)
 rw [<- e];exact r
theorem cV (m:Nat):dg m≠[]:=by
 intro e;have h:=toDigits_len_ge 10 m;rw [List.map_eq_nil_iff.mp e] at h;exact absurd h ⋯
theorem Gi (m:Nat):Qv (dg m)=m:=PySem.W.KIN.val_back m
theorem Lj (i:Int):cl (Y2 (toString i))=(if i < 0 then [45] else [])++dg i.natAbs:=by
 cases i with
 | ofNat m=>
  rw [if_neg (by show ¬ ((m:Int) < 0);omega)]
  exact PySem.W.KIN.signs_num m
 | negSucc m=>
  rw [if_pos ∅,cl,signs_ofString]
  show (("-"++Nat.repr (m+1)).toList.map Char.toNat)=_;rw [String.toList_append,Ye,Nat.toList_repr];rfl
def sh (q:Rat):List Nat:=(if q.num < 0 then [45] else [])++dg q.num.natAbs++(if q.den=1 then [] else 47::dg q.den)
def Ay (q:Rat):Y1:=⟨(sh q).toArray⟩
theorem Em (q:Rat):cl (Ay q)=sh q:=wf
def cut (c:Nat):List Nat->List (List Nat)
 | []=>[[]]
 | a::r=>if a=c then []::cut c r else match cut c r with
  | []=>[[a]]
  | p::ps=>(a::p)::ps
theorem Q0 {c:Nat}:∀{p:List Nat},c∉p->cut c p=[p]
 | [],_=>rfl
 | a::r,h=>by
  have b:a≠c:=λ e=>h (e▸YV ..)
  have d:c∉r:=λ e=>h (ZX _ e)
  unfold cut;rw [if_neg b,Q0 d]
theorem Je {c:Nat}(r:List Nat):∀{p:List Nat},c∉p->cut c (p++c::r)=p::cut c r
 | [],_=>by
  show cut c (c::r)=_;rw [cut,if_pos rfl]
 | a::p,h=>by
  have b:a≠c:=λ e=>h (e▸YV ..)
  have d:c∉p:=λ e=>h (ZX _ e)
  show cut c (a::(p++c::r))=_;rw [cut,if_neg b,Je r d]
theorem Ms {c:Nat}:∀{ps:List Y1},ps≠[]->(∀p∈ps,c∉cl p)->cut c (cl (ZZ ⟨#[c]⟩ ps))=ps.map cl
 | [],h,_=>absurd rfl h
 | [p],_,h=>by
  rw [join_one,Q0 (h p (YV ..))];rfl
 | p::q::r,_,h=>by
  rw [join_cons_cons,Bw,Bw];show cut c (cl p++[c]++cl (ZZ ⟨#[c]⟩ (q::r)))=_;rw [WG];show cut c (cl p++c::cl (ZZ ⟨#[c]⟩ (q::r)))=_;rw [Je _ (h p (YV ..)),Ms (by simp) λ p a=>h p (ZX _ a)]
  rfl
theorem GF (x:Y1)(c:Nat):(XO x ⟨#[c]⟩).map cl=cut c (cl x):=by
 have a:=split_pos x ⟨#[c]⟩;have b:=Ms (c:=c) (ps:=XO x ⟨#[c]⟩) (λ e=>by rw [e] at a;exact absurd a ⋯) (StrLaws.split_free x c)
 rw [StrLaws.join_split] at b;exact b.symm
theorem zB (x:Y1)(c:Nat):FY x ⟨#[c]⟩=decide ((cl x).head?=some c):=by
 obtain ⟨⟨l⟩⟩:=x;cases l with
 | nil=>rfl
 | cons a r=>
  show (decide (0+1<=(a::r).toArray.size) && ((a::r).toArray.extract 0 (0+1) == #[c]))=decide (some a=some c);by_cases h:a=c
  ·subst h;simp
  ·simp [h]
theorem Qw:∀r:List Nat,(QE r.length).filterMap (λ k=>r[k]?)=r
 | []=>rfl
 | a::r=>by
  rw [W6,MS,List.filterMap_cons_some (by rfl),FU]
  show a::(QE r.length).filterMap (λ k=>r[k]?)=_
  rw [Qw r]
theorem z7 (x:Y1):cl (UA x (some 1) none)=(cl x).drop 1:=by
 obtain ⟨⟨l⟩⟩:=x;cases l with
 | nil=>rfl
 | cons a r=>
  have e:Fs (some 1) none 1 (r.length+1)=(QE r.length).map (·+1):=by
   unfold Fs sliceRange;simp only [show (1:Int) > 0 by decide,if_true]
   have b:max 0 (min (if (1:Int) < 0 then 1+((r.length+1:Nat):Int) else 1) ((r.length+1:Nat):Int))=1:=by
    rw [if_neg ⋯]
    omega
   rw [b];have c:(if (1:Int) < ((r.length+1:Nat):Int) then (((r.length+1:Nat):Int) - 1+1 - 1) / 1 else 0).toNat=r.length:=by
    split<;>simp<;>omega
   rw [c]
   apply zi
   intro k _;omega
  have hl:(zI (a::r).toArray).length=r.length+1:=by
   show (a::r).toArray.size=_;simp
  show cl (UA (zI (a::r).toArray) (some 1) none)=r;unfold UA;rw [hl,e];rw [if_neg (by simp)]
  show ((((QE r.length).map (·+1)).filterMap (λ k=>(a::r).toArray[k]?)).toArray).toList=r
  rw [wf,FU];have:((λ k=>(a::r).toArray[k]?) ∘ λ x=>x+1)=λ k=>r[k]?:=by
   funext k
   simp
  rw [this,Qw]
theorem zY (c:Nat):(!(Ua (Y2 "0123456789") ⟨#[c]⟩ 0 (Y2 "0123456789").length 1).isEmpty)=decide (48<=c/\c<=57):=by
 rw [StrLaws.found_one,signs_ofString];show decide (c∈[48,49,50,51,52,53,54,55,56,57])=_
 apply decide_eq_decide.mpr
 simp only [ZN,WB,or_false];omega
end Tx
namespace Fr
theorem O2 (i:Int):(if i < 0 then -i else i)=(i.natAbs:Int):=by omega
theorem Z9 (m n:Nat):FH n (m % n)=FH m n:=by
 rw [CF n (m % n),<- Nat.gcd_rec n m,CF]
def gcd (a b:Int):Int:=((FH a.natAbs b.natAbs:Nat):Int)
theorem ZP (a b:Int):0<=gcd a b:=Int.natCast_nonneg _
theorem Ng {a b:Int}(h:b≠0):0 < gcd a b:=by
 unfold gcd;have:0 < FH a.natAbs b.natAbs:=Nat.gcd_pos_of_pos_right _ ∅
 omega
theorem eV {a b:Int}(h:b≠0):gcd a b<=(b.natAbs:Int):=by
 unfold gcd;have:FH a.natAbs b.natAbs<=b.natAbs:=Nat.gcd_le_right _ ∅
 omega
theorem R1 (a b:Int):gcd a b ∣ a:=by
 unfold gcd;exact Int.ofNat_dvd_left.mpr (Nat.gcd_dvd_left _ _)
theorem aM (a b:Int):gcd a b ∣ b:=by
 unfold gcd;exact Int.ofNat_dvd_left.mpr (Nat.gcd_dvd_right _ _)
def sg (t b:Int):Int:=if b < 0 then 0 - gcd t b else gcd t b
def lt (t b:Int):Int:=t.fdiv (sg t b)
def lb (t b:Int):Int:=b.fdiv (sg t b)
theorem JD {t b:Int}(h:b≠0):sg t b≠0:=by
 unfold sg;have:=Ng (a:=t) h
 split<;>omega
theorem Wy {t b:Int}:(sg t b).natAbs=(gcd t b).natAbs:=by
 unfold sg
 split<;>omega
theorem iR (t b:Int):sg t b ∣ t:=by
 unfold sg
 split
 ·rw [CH];exact Int.neg_dvd.mpr (R1 t b)
 ·exact R1 t b
theorem AG3 (t b:Int):sg t b ∣ b:=by
 unfold sg
 split
 ·rw [CH];exact Int.neg_dvd.mpr (aM t b)
 ·exact aM t b
theorem cM {a b:Int}(h:b ∣ a):a.fdiv b * b=a:=by
 rw [Int.fdiv_eq_ediv_of_dvd h];exact Int.ediv_mul_cancel h
theorem Sy (t b:Int):lt t b * sg t b=t:=cM (iR t b)
theorem M9 (t b:Int):lb t b * sg t b=b:=cM (AG3 t b)
theorem o8 {t b:Int}(h:b≠0):0 < lb t b:=by
 have e:=M9 t b;have d:=Ng (a:=t) h;have c:sg t b=if b < 0 then 0 - gcd t b else gcd t b:=rfl
 rcases NG (lb t b) 0 with z | z | z
 ·exfalso;by_cases hb:b < 0
  ·rw [if_pos hb] at c;have:0 < lb t b * sg t b:=by
    rw [c];exact Int.mul_pos_of_neg_of_neg z ∅
   omega
  ·rw [if_neg hb] at c;have:lb t b * sg t b < 0:=by
    rw [c];exact Int.mul_neg_of_neg_of_pos z d
   omega
 ·rw [z] at e;omega
 ·exact z
theorem oU {t b:Int}(h:0 < b):(lt t b=t/\lb t b=b)↔gcd t b=1:=by
 have c:sg t b=gcd t b:=if_neg ∅
 have g:=Ng (a:=t) (b:=b) ∅
 have e:=M9 t b
 constructor
 ·rintro ⟨-,d⟩
  rw [d,c] at e;have:b * gcd t b=b * 1:=by omega
  exact Nu ∅ this
 ·intro f;unfold lt lb;rw [c,f,Int.fdiv_one,Int.fdiv_one];exact ⟨rfl,rfl⟩
theorem cW {n k:Nat}(h:n < 2 ^ k)(a:0 < k):n.log2 < k:=by
 by_cases z:n=0
 ·subst z;simpa using a
 ·exact (Nat.log2_lt z).mpr h
theorem jt {t b:Int}(h:b≠0):(lb t b).natAbs<=b.natAbs:=by
 have e:=M9 t b;have d:=JD (t:=t) h;have a:(lb t b).natAbs * (sg t b).natAbs=b.natAbs:=by rw [<- Gb,e]
 have c:1<=(sg t b).natAbs:=by omega
 calc (lb t b).natAbs=(lb t b).natAbs * 1:=(Nat.mul_one _).symm
  _<=(lb t b).natAbs * (sg t b).natAbs:=Nat.mul_le_mul_left _ c
  _=b.natAbs:=a
end Fr
namespace Fr
theorem vh (t b:Int):((b.gcd t:Nat):Int)=gcd t b:=by
 unfold gcd Int.gcd;rw [CF]
theorem Mm {t b:Int}(h:b≠0):lt t b=(XZ t b).num:=by
 have g:=Ng (a:=t) h;rw [Rat.num_divInt,vh];have e:=Sy t b;have d:gcd t b ∣ b.sign * t:=Int.dvd_mul_of_dvd_right (R1 t b);refine (Int.ediv_eq_of_eq_mul_left ∅ ?_).symm
 have c:sg t b=b.sign * gcd t b:=by
  unfold sg;rcases NG b 0 with z | z | z
  ·rw [if_pos z,Nd z];omega
  ·exact absurd z h
  ·rw [if_neg ∅,MW z];omega
 have f:b.sign * b.sign=1:=by
  rcases NG b 0 with z | z | z
  ·rw [Nd z];rfl
  ·exact absurd z h
  ·rw [MW z];rfl
 calc b.sign * t=b.sign * (lt t b * sg t b):=by rw [e]
  _=(b.sign * b.sign) * (lt t b * gcd t b):=by rw [c];grind
  _=lt t b * gcd t b:=by rw [f];omega
theorem R8 {t b:Int}(h:b≠0):lb t b=((XZ t b).den:Int):=by
 have e1:=Sy t b;have e2:=M9 t b;have i:=JD (t:=t) h;have n:=Mm (t:=t) h;have c:(XZ t b).num * b=t * ((XZ t b).den:Int):=by
  have z:XZ (XZ t b).num ((XZ t b).den:Int)=XZ t b:=Rat.num_divInt_den _;have e:(((XZ t b).den:Nat):Int)≠0:=by
   have:=(XZ t b).den_nz;omega
  exact (Rat.divInt_eq_divInt_iff e h).mp z
 by_cases a:t=0
 ·subst a;have:XZ 0 b=0:=Rat.zero_divInt b;rw [this];have j:gcd 0 b=(b.natAbs:Int):=by unfold gcd;simp
  have k:=o8 (t:=0) h;have d:(lb 0 b).natAbs * (sg 0 b).natAbs=b.natAbs:=by rw [<- Gb,e2]
  rw [Wy,j] at d;have f:0 < b.natAbs:=by omega
  have l:(lb 0 b).natAbs=1:=by
   have:(lb 0 b).natAbs * b.natAbs=1 * b.natAbs:=by simpa using d
   exact Nat.eq_of_mul_eq_mul_right f this
  show lb 0 b=1;omega
 ·rw [<- n] at c;have g:t * lb t b=t * ((XZ t b).den:Int):=by
   rw [<- c]
   calc t * lb t b=(lt t b * sg t b) * lb t b:=by rw [e1]
    _=lt t b * (lb t b * sg t b):=by grind
    _=lt t b * b:=by rw [e2]
  exact Nu a g
theorem den_pos (q:Rat):0 < (q.den:Int):=by
 have:=q.den_pos;omega
theorem Ih (q:Rat):XZ q.num (q.den:Int)=q:=Rat.num_divInt_den q
theorem HN (q:Rat):(q.den:Int)≠0:=by have:=den_pos q;omega
theorem WW (p q:Rat):XZ (p.num * q.den+q.num * p.den) (p.den * q.den)=p+q:=by
 rw [<- BH _ _ (HN p) (HN q),Ih,Ih]
theorem fK (p q:Rat):XZ (p.num * q.den - q.num * p.den) (p.den * q.den)=p - q:=by
 rw [<- Rat.divInt_sub_divInt _ _ (HN p) (HN q),Ih,Ih]
theorem aU (p q:Rat):XZ (p.num * q.num) (p.den * q.den)=p * q:=by
 rw [<- BI,Ih,Ih]
theorem Qn (p q:Rat):p.num * q.den < q.num * p.den↔p < q:=(Rat.lt_iff p q).symm
end Fr
namespace Fr
theorem zL (t b:Int)(h:b≠0):(lt t b).natAbs<=t.natAbs:=by
 have e:=Sy t b;have d:=JD (t:=t) h;have a:(lt t b).natAbs * (sg t b).natAbs=t.natAbs:=by rw [<- Gb,e]
 have c:1<=(sg t b).natAbs:=by omega
 calc (lt t b).natAbs=(lt t b).natAbs * 1:=(Nat.mul_one _).symm
  _<=(lt t b).natAbs * (sg t b).natAbs:=Nat.mul_le_mul_left _ c
  _=t.natAbs:=a
end Fr
namespace L2
open PySem PySem.Spec PyProof.Rows
theorem TopFn.calN {c:Bool}{P:ZU}{w:World}{K:FrG}{mg:Str->Option Value}{base:Heap}{x:Str}{st:Stmt}{N ps:List Str}{k:Nat}{sp:Sp}(T:TopFn K mg x st)(m:FnScope N ps (defScope st))
  (hb:∀(kV b d:Value) (e:Option Addr) (cdv ct:Value) (us:List Value),us.length=ps.length->jl (YR x x (defArgs st) (defBody st) (defScope st) .none kV b d e cdv ct) ⟨us,[]⟩=pure (ps.zip us))
  (len:∀vs H Q E,sp vs H Q E->vs.length=ps.length)
  (a:∀(f:Addr) (cdv:Value) (A:XA) (outer:List Env) (s:X1) (H:Hp) (vs:List V) (Q:VK) (E:XK),RoomB c k (A.deeper (ua x (defScope st) s.heap.objs.size f cdv))->sp vs H Q E->
   ∃t,PSs (Cv c P w K mg base N x (defScope st) f cdv A outer s H E).nox (defBody st) t/\t { nx:=λ _ g=>Q .non g,rt:=Q } (start N vs) H):CalB P w K mg base c (k+1) x ps sp:=
 T.calB m hb len λ f cdv A outer s H vs Q E i h=>by
  obtain ⟨t,j,l⟩:=a f cdv A outer s H vs Q E i h;exact ⟨t,j.nox,l⟩
theorem wy:UY "ValueError"=some (.type "ValueError"):=by decide+kernel
theorem Fun.okB {c:Bool}{P:ZU}{w:World}{K:FrG}{mg:Str->Option Value}{base:Heap}{x:Str}{st:Stmt}{f:Addr}{fd:UE}{N ps:List Str}{k:Nat}{sp:Sp}(F:Fun K x x st f fd)(n:FnScope N ps (defScope st))
  (len:∀vs H Q E,sp vs H Q E->vs.length=ps.length)
  (a:∀(cdv:Value) (A:XA) (outer:List Env) (s:X1) (H:Hp) (vs:List V) (Q:VK) (E:XK),RoomB c k (A.deeper (ua x (defScope st) s.heap.objs.size f cdv))->sp vs H Q E->
   ∃t,PSs (Cv c P w K mg base N x (defScope st) f cdv A outer s H E).nox (defBody st) t/\t { nx:=λ _ b=>Q .non b,rt:=Q } (start N vs) H):FnB P w K mg base c (k+1) f fd ps sp:=by
 obtain ⟨o,p,kV,j,q,r,cdv,ct,m,rfl,l,d⟩:=id F.ex;exact Ia l d n len λ A outer s H vs Q E e h=>by
  obtain ⟨t,g,i⟩:=a cdv A outer s H vs Q E e h;exact ⟨t,g.nox,i⟩
end L2
namespace Lib
open PySem L2
def lim:Nat:=2 ^ 9000
theorem aB {n:Nat}(h:n < lim):n.log2 < 9000:=Fr.cW h ⋯
theorem gU {n:Nat}(h:n < lim):n < 2 ^ 10000:=yy h (by unfold lim;decide+kernel)
inductive jW (vs:List V)(H:Hp)(Q:VK)(z3:XK):Prop | mk (a b:Int) (_:vs=[.int a,.int b]) (_:Q (.int (Fr.gcd a b)) H)
inductive spLaw (K:FrG)(vs:List V)(H:Hp)(Q:VK)(z3:XK):Prop | mk (a:Addr) (ns:List Int) (_:vs=[.ref a]) (_:SqL K H a (ns.map V.int)) (_:ns.length<=63) (_:∀H',Q (.bl true) H')
theorem Dr (i j:Int):decide (V.int i=V.int j)=decide (i=j):=by
 by_cases h:i=j
 ·subst h;simp
 ·have:¬ V.int i=V.int j:=λ z=>h (V.int.inj z)
  rw [η h,η this]
theorem NT {xs:List V}{r:Int}(b:0<=r)(c:r < (xs.length:Int)):∃v,atI xs r=some v/\v∈xs:=by
 have a:r.toNat < xs.length:=by omega
 have e:((r.toNat:Nat):Int)=r:=by omega
 have q:atI xs ((r.toNat:Nat):Int)=some xs[r.toNat]:=Ba (Xs a);rw [e] at q;exact ⟨_,q,List.getElem_mem a⟩
theorem aO (ns:List Int)(lo hi:Option Int):∀x∈cutV (ns.map V.int) lo hi,∃z:Int,x=.int z:=λ x a=>by
 unfold cutV at a;have b:=List.mem_of_mem_drop (List.mem_of_mem_take a);obtain ⟨z,_,rfl⟩:=UG.mp b;exact ⟨z,rfl⟩
abbrev Ib (q:Rat):HO:=.tup [.int q.num,.int (q.den:Int)]
def Cw:Nat:=2 ^ 4000
theorem aJ:(10:Nat) ^ 40 < Cw:=by unfold Cw;decide+kernel
theorem dm:Cw < lim:=by unfold lim Cw;decide+kernel
theorem mD:Cw * Cw+Cw * Cw < lim:=by unfold lim Cw;decide+kernel
structure Sm (q:Rat):Prop where
 n:q.num.natAbs < Cw
 d:q.den < Cw
theorem Sm.neg {q:Rat}(h:Sm q):Sm (-q):=⟨by rw [Rat.neg_num,Int.natAbs_neg];exact h.n,by rw [Rat.neg_den];exact h.d⟩
theorem jx {a b:Nat}(ha:a < Cw)(hb:b < Cw):a * b < Cw * Cw:=Nat.mul_lt_mul'' ha hb
theorem NK {x y:Int}(a:x.natAbs < Cw)(b:y.natAbs < Cw):(x * y).natAbs < lim:=by
 rw [Gb];have:=jx a b;have:=mD;omega
theorem Du {x y:Int}(a:x.natAbs < Cw)(b:y.natAbs < Cw):CMulW x y:=⟨gU (yy a dm),gU (yy b dm)⟩
theorem Sm.dn {q:Rat}(h:Sm q):((q.den:Int)).natAbs < Cw:=by rw [QI];exact h.d
theorem cQ (q:Rat):((q.den:Nat):Int)≠0:=by have:=q.den_nz;omega
theorem KY (q:Rat):(0:Int) < ((q.den:Nat):Int):=by have:=q.den_nz;omega
theorem Ii (p q:Rat):((p.den:Int)) * (q.den:Int)≠0:=BE (cQ p) (cQ q)
theorem jC {t b:Int}(h:b≠0):(HO.tup [.int (Fr.lt t b),.int (Fr.lb t b)])=Ib (XZ t b):=by
 rw [Fr.Mm h,Fr.R8 h]
theorem T5 (q:Rat):Fr.gcd q.num (q.den:Int)=1:=by
 unfold Fr.gcd;have:=q.reduced;unfold Nat.Coprime at this;rw [QI,this];rfl
end Lib
namespace Tx
open PySem PySem.Builtin PySem.Builtin.Str PySem.NumText PyProof.Rows
theorem Hg {m k:Nat}(a:0 < k):(dg m).length<=k↔m < 10 ^ k:=by
 unfold dg;rw [X9];exact Nat.length_toDigits_le_iff ⋯ a
theorem Qm (m:Nat):1<=(dg m).length:=by
 have:=cV m;cases h:dg m with
 | nil=>exact absurd h this
 | cons a r=>simp
theorem Xu:∀(b:List Nat) (a:Nat),wo b->b.foldl (λ d c=>d * 10+(c - 48)) a < (a+1) * 10 ^ b.length
 | [],a,_=>by simp
 | c::r,a,h=>by
  have f:=h.head;have e:=Xu r (a * 10+(c - 48)) h.tail;rw [List.foldl_cons,W6];refine Zu e ?_;have:a * 10+(c - 48)+1<=(a+1) * 10:=by omega
  calc (a * 10+(c - 48)+1) * 10 ^ r.length<=(a+1) * 10 * 10 ^ r.length:=QU _ this
   _=(a+1) * 10 ^ (r.length+1):=by rw [Nat.mul_assoc,CI,MO 10]
theorem gQ {a:List Nat}(h:wo a)(hl:a.length<=15):Qv a < 10 ^ 15:=by
 have b:=Xu a 0 h;have c:(10:Nat) ^ a.length<=10 ^ 15:=Fa ⋯ hl
 unfold Qv;omega
structure Short (q:Rat):Prop where
 n:q.num.natAbs < 10 ^ 15
 d:q.den < 10 ^ 15
theorem Ui (m:Nat):47∉dg m:=λ h=>by have:=JH m 47 h;omega
theorem vP (m:Nat):45∉dg m:=λ h=>by have:=JH m 45 h;omega
theorem uc (m:Nat)(r:List Nat):(dg m++r).head?≠some 45:=by
 cases h:dg m with
 | nil=>exact absurd h (cV m)
 | cons a l=>
  intro e;have b:some a=some 45:=e;cases b
  exact vP m (by rw [h];exact YV ..)
theorem M7 (q:Rat):decide ((sh q).head?=some 45)=decide (q.num < 0):=by
 apply decide_eq_decide.mpr
 unfold sh;by_cases h:q.num < 0
 ·rw [if_pos h];simp [h]
 ·rw [if_neg h,ui];exact ⟨λ e=>absurd e (uc _ _),λ e=>absurd e h⟩
def bd (q:Rat):List Nat:=dg q.num.natAbs++(if q.den=1 then [] else 47::dg q.den)
theorem M8 (q:Rat):(if q.num < 0 then (sh q).drop 1 else sh q)=bd q:=by
 unfold sh bd;by_cases h:q.num < 0
 ·rw [if_pos h,if_pos h];rfl
 ·rw [if_neg h,if_neg h];rfl
theorem KJ (q:Rat):cut 47 (bd q)=if q.den=1 then [dg q.num.natAbs] else [dg q.num.natAbs,dg q.den]:=by
 unfold bd;by_cases h:q.den=1
 ·rw [if_pos h,if_pos h,WC,Q0 (Ui _)]
 ·rw [if_neg h,if_neg h,Je _ (Ui _),Q0 (Ui _)]
theorem eX (q:Rat)(h:Short q):(sh q).length<=40:=by
 have a:=(Hg (m:=q.num.natAbs) (k:=15) ⋯).mpr h.n
 have b:=(Hg (m:=q.den) (k:=15) ⋯).mpr h.d
 unfold sh;rw [ZA,ZA]
 split<;>split<;>simp only [W6,XG]<;>omega
theorem tU (q:Rat):(Fk++Y2 (toString q.num))++(Y2 "/")++Y2 (toString ((q.den:Nat):Int))=(⟨((if q.num < 0 then [45] else [])++dg q.num.natAbs++47::dg q.den).toArray⟩:Y1):=by
 apply ext
 rw [Bw,Bw,Bw,Lj,Lj];show []++_++[47]++_=_;rw [cl,wf,if_neg (show ¬ (((q.den:Nat):Int) < 0) by omega)]
 simp
end Tx
namespace Lib
open PySem L2 Tx PySem.NumText
inductive rB (C:Addr)(vs:List V)(H:Hp)(Q:VK)(E:XK):Prop | mk (x:Y1) (_:vs=[.str x]) (_:x.length<=100000) (_:((wo (cl x)/\1<=x.length/\x.length<=15/\∀H',Same H H'->Q (.int ((Qv (cl x):Nat):Int)) H')\/(¬ (wo (cl x)/\1<=x.length/\x.length<=15)/\∀H',Same H H'->E (.ref C) none H')))
theorem yh (x:Y1):((zz x).map λ z=>V.bl (!(Ua (Y2 "0123456789") z 0 (Y2 "0123456789").length 1).isEmpty))=((cl x).map λ c=>decide (48<=c/\c<=57)).map V.bl:=by
 unfold zz;rw [Qc,Qc]
 apply zi
 intro c _;show V.bl (!(Ua (Y2 "0123456789") ⟨#[c]⟩ 0 (Y2 "0123456789").length 1).isEmpty)=V.bl (decide (48<=c/\c<=57));rw [zY]
theorem Yv (l:List Nat):((l.map λ c=>decide (48<=c/\c<=57)).all id)=true↔wo l:=by
 unfold wo;rw [MU,jp];simp
theorem cj {i:Int}(h:i.natAbs.log2 < 1920):(Y2 (toString i)).length<=2000:=by
 rw [<- DX,Lj,ZA];have a:i.natAbs < 10 ^ 1900:=by
  by_cases z:i.natAbs=0
  ·rw [z];exact Nat.pow_pos ⋯
  ·have b:i.natAbs < 2 ^ 1920:=(Nat.log2_lt z).mp h;exact yy b (by decide+kernel)
 have c:=(Hg (m:=i.natAbs) (k:=1900) ⋯).mpr a
 split<;>simp only [W6,XG]<;>omega
theorem Ds (x y:Y1):(x++y).length=x.length+y.length:=by
 rw [<- DX,Bw,ZA,DX,DX]
theorem Do {n:Nat}(h:n<=10000):n<=X3:=W8 h ⋯
end Lib
namespace Tx
theorem Ww (c:Nat):∀l:List Nat,cut c l≠[]
 | []=>by simp [cut]
 | a::r=>by
  unfold cut
  split
  ·simp
  ·split<;>simp
theorem AM8:Y2 "-"=⟨#[45]⟩:=by rfl
theorem AJ8:Y2 "/"=⟨#[47]⟩:=by rfl
end Tx
namespace Lib
open PySem L2 Tx PySem.NumText
theorem XQ {m:Nat}(h:m < 10 ^ 15):m.log2 < 1920:=Fr.cW (yy h (by decide+kernel)) ⋯
theorem X8 {i j:Int}(f:1<=j)(c:Fr.gcd i j=1):∃q:Rat,q.num=i/\((q.den:Nat):Int)=j:=by
 have a:j≠0:=by omega
 obtain ⟨d,e⟩:=(Fr.oU (t:=i) (b:=j) ∅).mpr c
 exact ⟨XZ i j,by rw [<- Fr.Mm a,d],by rw [<- Fr.R8 a,e]⟩
end Lib
namespace Lib
open PySem L2 Tx
theorem Sm.zero:Sm 0:=⟨by show (0:Int).natAbs < Cw;exact yy ⋯ aJ,by show 1 < Cw;exact yy ⋯ aJ⟩
inductive wQ (vs:List V)(H:Hp)(Q:VK)(z3:XK):Prop | mk (t b:Int) (_:vs=[.int t,.int b]) (_:b≠0) (_:b.natAbs < lim) (_:∀p,H p=none->Q (.ref p) (upd H p (.tup [.int (Fr.lt t b),.int (Fr.lb t b)])))
end Lib
namespace L2
open PySem PySem.Spec PyProof.Rows
section
variable {prog:ZU}{w:World}{A:XA}{R:Result->X1->Prop}{s:X1}
theorem fj {g a iter:Expr}{i:List Expr}{e:Scope}{pos:Pos}{it j:Value}{env:Env}(C:Nat->X1->Prop)
  (turn:∀n s,C n s->wpAny (model prog w) A (GM it) (λ r b=>match r with
   | none=>R (.ok .next) b
   | some v=>wpAny (model prog w) A (xB a it v) (λ _ f=>wpAny (model prog w) A (qo a env v) (λ _ k=>
     wpAny (model prog w) A (forIn i true λ c r=>if r=true then do let ok <- isTrue c env (eval c env);pure (QD ok) else pure (QD r)) (λ ok d=>
      if ok=true then wpAny (model prog w) A (eval g env) (λ x l=>
       wpAny (model prog w) A (call (.builtin "list.append") [j,x]) (λ _ o=>∃m,m < n/\C m o) (λ _ _=>False) l) (λ _ _=>False) d
      else ∃m,m < n/\C m d) (λ _ _=>False) k) (λ _ _=>False) f) (λ _ _=>False) b) (λ _ _=>False) s)
  (n:Nat) (h:C n s):
  wh (model prog w) A (.compLoop (.ListComp g [⟨a,iter,i,0⟩] e pos) 0 it j env) R s:=by
 refine codeAny_loop rfl C (λ n s D=>?_) n h
 show wpAny _ A ((compTurn (.ListComp g [⟨a,iter,i,0⟩] e pos) 0 it j env).onRaise (λ x=>do GS x env;theTreesLotGoes x)) _ _ s
 refine wpAny_noted ?_;rw [compTurn_list];refine Y3 (UO (Y3 (Wf (turn n s D) (λ r b p=>?_) λ _ _ z=>z.elim)))
 cases r with
 | none=>exact ZI p
 | some v=>
  refine Y3 (Wf p (λ _ f t=>?_) λ _ _ z=>z.elim)
  refine Y3 (Wf t (λ _ k u=>Y3 (Wf u (λ ok d q=>?_) λ _ _ z=>z.elim)) λ _ _ z=>z.elim)
  cases ok with
  | false=>exact ZI ⟨rfl,q⟩
  | true=>
   exact Y3 (Y3 (Wf q (λ x l y=>Y3 (Wf y (λ _ o B=>ZI (ZI ⟨rfl,B⟩)) λ _ _ z=>z.elim)) λ _ _ z=>z.elim))
end
def Be (X:Cx)(a:Scope)(cl:List (Str×Addr))(c:List Str)(C:Addr)(d:List Addr)(b:List (Addr×Obj))(e:X1)(f:Hp):Cx:=
 { X with N:=c,s₀:=e,H₀:=f,env:=qh a cl C X.env,outer:=X.stack,ex:=d,fn:=λ _=>false,pn:=X.pn++b,xe:=λ _ _=>False }
structure CapOk (X:Cx)(scope:Scope)(cl:List (Str×Addr)):Prop where
 clos:closureFor scope X.env=pure cl
 sub:∀y c,cl.lookup y=some c->X.env.cells.lookup y=some c
 has:∀y,((ur scope X.env).names.lookup y=some .cell\/(ur scope X.env).names.lookup y=some .free)->∃c,cl.lookup y=some c
theorem AJ9 {a:Scope}{env:Env}(b:∀y∈a.names,y.2≠.free):(ur a env).names=a.names:=by
 unfold ur;exact map_eq_self (l:=a.names) λ x c=>by
  obtain ⟨n,k⟩:=x;have:(k == GV)=false:=by simpa using b _ c
  simp [this]
theorem Fz {X:Cx}{a:Scope}(b:∀y∈a.names,y.2≠.free)(hcell:∀y∈a.names,y.2≠.cell):CapOk X a []:=by
 refine ⟨closureFor_none b,λ y c e=>(by simp at e),λ y e=>?_⟩
 rw [AJ9 b] at e;exfalso;rcases e with e | e
 ·exact hcell _ (JA e) rfl
 ·exact b _ (JA e) rfl
def Ip (a:List (Option Nat))(b:St):St:=a.map λ o=>o.bind λ j=>(b[j]?).join
section
variable {X:Cx}{pins:List (Addr×Obj)}{σ:St}{H2:Hp}{s2:X1}{scope:Scope}{cl:List (Str×Addr)}{N':List Str}{C:Addr}{fp:List Addr}{caps:List (Option Nat)}
theorem O5 (d:Inv X pins σ H2 s2){b:Addr}(a:b≠X.env.locals)(c:b∉X.fs):b∉frs X.stack:=λ z=>(ZN.mp (d.stkSub b z)).elim a c
theorem Y6 (f:Inv X pins σ H2 s2)(hf:∀b∈fp,FpOk X pins H2 b)(hl:∀b∈fp,b < s2.heap.objs.size)(H:scope.kind=.function)(a:CapOk X scope cl)(x:s2.heap.objs.size<=C){l:X1}(os:l.os=s2.os)(bare:wS l.gens)
  (k:∀b o,s2.heap.get? b=some o->l.heap.get? b=some o) (ns:l.heap.Ns C λ _=>none) (I:caps.length=N'.length)
  (A:∀(i j:Nat),caps[i]?=some (some j)->∃y:Str,N'[i]?=some y/\X.N[j]?=some y/\(ur scope X.env).names.lookup y=some .cell/\X.env.scope.names.lookup y=some .cell) (ht:X.tb<=l.toks:=by first | assumption | exact Inv.tk (by assumption) | exact Xh (Inv.tk (by assumption)) | exact W8 (Inv.tk (by assumption)) (by assumption) | (have:=Inv.tk (by assumption);omega) | (have:=Inv.tk (by assumption);dsimp only at this;omega)):
  Inv (Be X scope cl N' C fp pins s2 H2) [] (Ip caps σ) H2 l:=by
 have t:∀b:Addr,b < s2.heap.objs.size->b≠C:=λ b h=>YP (Zu h x)
 refine ⟨⟨f.ok.mod,?_,f.ok.glob,f.ok.blt,x,λ y z c r g=>f.ok.inj y z c (a.sub y c r) (a.sub z c g),λ y h=>a.has y h,(λ y c z=>nomatch z),f.ok.hd,f.ok.frames,.inl rfl,λ b hb=>⟨t b (hl b hb),λ y c e=>(hf b hb).2.2.2.2.1 y c (a.sub y c e)⟩,
  λ b o e=>f.bs b o e,W8 f.ok.bsz f.sz,λ b o e hb=>?_,λ b hb=>O5 f (hf b hb).2.1 (hf b hb).2.2.1,f.stack,f.stkFree,f.ok.tb1⟩,
  os,bare,Un.kept k,⟨_,ns,λ i y v r g S=>?_⟩,λ y c e=>?_,f.hok.fresh x,λ y c e=>f.freeC y c (a.sub y c e),λ p s=>?_,f.hok.kept k,?_,ht⟩
 ·show (ur scope X.env).kind=.function;exact H
 ·rcases (hf b hb).2.2.2.1 with z | z
  ·exact f.ok.noex b o e z
  ·exact absurd (Zu (ZT e) (W8 f.ok.bsz z)) (yB _)
 ·have r:N'[i]?=some y:=r;unfold Ip at g;rw [YN] at g;cases B:caps[i]? with
  | none=>rw [B] at g;cases g
  | some o=>
   rw [B] at g;cases o with
   | none=>cases g
   | some j=>
    obtain ⟨T,e1,e2,D,E⟩:=A i j B;rw [r] at e1;cases e1
    have J:σ[j]?=some (some v):=by
     have z:(σ[j]?).join=some v:=by simpa using g
     cases q:σ[j]? with
     | none=>rw [q] at z;cases z
     | some U=>rw [q] at z;exact congrArg some z
    obtain ⟨m,hn,hm⟩:=f.loc;obtain ⟨u,K,L⟩:=hm j y v e2 J (.inr (.inl E));refine ⟨u,K,.inr ⟨.inl D,?_⟩⟩;rcases L with ⟨z,_⟩ | ⟨_,c,M,O,F,G⟩
    ·rw [show X.env.kindOf y=X.env.scope.names.lookup y from rfl,E] at z;cases z
    ·obtain ⟨P,w⟩:=a.has y (.inl D);have:=a.sub y P w;rw [M] at this;cases this
     exact ⟨c,w,O,k _ _ F,G⟩
 ·obtain ⟨v,o,Q,hd⟩:=f.cell y c (a.sub y c e);exact ⟨v,o,k _ _ Q,hd⟩
 ·have s:p∈(X.pn++pins)++[]:=s;rw [WC] at s;obtain ⟨e,n,ne,R,d⟩:=f.pin p s;exact ⟨k _ _ e,n,t _ (ZT e),O5 f ne R,d⟩
 ·show (Ip caps σ).length=N'.length;unfold Ip;rw [X9];exact I
theorem Mx {pl:List (Addr×Obj)}{r:St}{j:Hp}{s':X1}{k:Addr}{items:Array Value}{l:List V}{f:Heap}(L:Inv X pins σ H2 s2)(hf:∀b∈fp,FpOk X pins H2 b)(a:Inv (Be X scope cl N' C fp pins s2 H2) pl r j s')
  (s:s'.heap.PlainList k items) (g:j k=none) (p:s2.heap.get? k=none) (t:k≠C) (x:Vals l items.toList) (y:l.length<=X3) (h:QA C s'.heap f):Inv X pins σ (upd j k (.lst l)) { s' with heap:=f }:=by
 have A:s2.heap.objs.size<=C:=a.ok.above;have i:∀b o,s2.heap.get? b=some o->b≠C:=λ b o e=>YP (Zu (ZT e) A)
 have w:j C=none:=a.free;obtain ⟨B,D⟩:=s;refine L.call' (s':={ s' with heap:=f }) (ch:=fp) (ht:=a.tk) a.os ⟨λ b o e n hb d=>h.extBut b o (i b o e) (a.base.keep b o e n hb d),λ b o e n hb d=>?_,λ b o e n d=>?_,λ b o e d=>?_,λ b xs e=>?_,λ b o u e=>?_,λ b ps e=>?_⟩ (λ b o e=>?_) a.bare λ b hb=>?_
 ·obtain ⟨E,q⟩:=a.base.slot b o e n hb d;exact ⟨E,h.extBut b _ (i b o e) q⟩
 ·have:b≠k:=λ z=>by rw [z,p] at e;cases e
  rw [Al this];exact a.base.free b o e n d
 ·obtain ⟨F,q⟩:=a.base.there b o e d;exact ⟨F,h.extBut b _ (i b o e) q⟩
 ·have q:=a.base.tups b xs e;rw [Al (BV q g)];exact q
 ·have q:=a.base.frzs b o u e;rw [Al (BV q g)];exact q
 ·obtain ⟨m,q⟩:=a.base.tbls b ps e;exact ⟨m,by rw [Al (BV q g)];exact q⟩
 ·by_cases hb:b=k
  ·subst hb;rw [Ag] at e;cases e
   exact ⟨y,items.toList,B,x,h.extBut _ _ t D⟩
  ·rw [Al hb] at e;refine (a.hok b o e).stay (λ c v G q=>h.extBut c v ?_ q) (λ c q=>by rw [Al (BV q g)];exact q) λ c xs q=>by rw [Al (BV q g)];exact q
   intro z;subst z;rcases G with z | z
   ·rw [<- z,w] at e;cases e
   ·rw [w] at z;cases z
 ·obtain ⟨M,H,N,I,J,K⟩:=hf b hb;exact ⟨I,H,J,K⟩
end
def CP (X:Cx)(d:List Expr)(t:TT):Prop:=
 ∀(a:List (Addr×Obj)) (s:X1) (b:St) (H:Hp) (Q:Bool->Hp->Prop),Inv X a b H s->t b H Q->
  wpAny (model X.prog X.w) X.A (forIn d true λ c r=>if r=true then do let ok <- isTrue c X.env (eval c X.env);pure (QD ok) else pure (QD r)) (TP X a b Q) X.xe s
def Ik:TT:=λ _ H Q=>Q true H
theorem Gf {X:Cx}:CP X [] Ik:=λ a s b H Q c h=>by
 simp only [Ni];exact ZI ⟨H,c,h⟩
theorem lq {X:Cx}{c:Expr}{t:TT}(d:PT X c t):CP X [c] t:=λ a s e H Q f h=>by
 simp only [zl,Ni,if_true];exact Y3 (Y3 (Wf (d a s e H Q f h) (λ b s' hb=>ZI (ZI hb)) λ _ _ x=>x))
def Hc (r:TG)(tt:TT)(j:TE)(k:It)(l:St)(n:Hp)(Q:VK):Prop:=∃h:Nat->Nat->St->List V->Hp->Prop,(∃m,h 0 m l [] n)/\∀i m e c H,h i m e c H->c.length<=X3/\
 ((k.stop i H/\∀p,H p=none->Q (.ref p) (upd H p (.lst c)))\/
   (k.go i H/\∀x f,k.yld i H x f->r x e f λ a o=>tt a o λ b g=>if b=true then j a g λ y q=>∃d,d < m/\h (i+1) d a (c++[y]) q else ∃d,d < m/\h (i+1) d a c g))
def IW (c:TI)(f:TG)(tt:TT)(d:TE)(a:List (Option Nat)):TE:=λ b H Q=>c b H λ g e=>Hc f tt d g (Ip a b) e Q
def Kv (X:Cx)(e:Expr)(t:TE)(f:Value->Nat->Prop):Prop:=
 ∀(a:List (Addr×Obj)) (s:X1) (b:St) (H:Hp) (Q:VK),Inv X a b H s->t b H Q->wpAny (model X.prog X.w) X.A (eval e X.env) (λ u s'=>f u s'.toks/\EP X a b Q u s') X.xe s
theorem PE.f {X:Cx}{e:Expr}{t:TE}(h:PE X e t):Kv X e t λ _ _=>True:=λ a s b H Q c q=>thn (h a s b H Q c q) λ _ _ z=>⟨trivial,z⟩
theorem Fw {b:Type}{t:Sem b}{Q c:b->X1->Prop}{M:Model}{A:XA}{E:Value->X1->Prop}{s:X1}(h:wpAny M A t Q E s)(d:∀a s',s.toks<=s'.toks->Q a s'->c a s'):wpAny M A t c E s:=Wf (Md (ZE _) h) (λ _ _ x=>d _ _ x.1 x.2) λ _ _ x=>x.2
theorem U7 {f:Value->Nat->Prop}(mono:∀u n m,n<=m->f u n->f u m){X:Cx}{a5 b0 iter:Expr}{a2:List Expr}{a:Scope}{pos:Pos}{f5:TI}{l0:TG}{tt:TT}{f6:TE}{cl:List (Str×Addr)}(E:List Str)(R:List (Option Nat))(f7:X.calm=true)(hi:PI X a5 iter f5)
  (h5:∀C l k S q,PG (Be X a cl E C l k S q) a5 l0) (ht:∀C l k S q,CP (Be X a cl E C l k S q) a2 tt) (h6:∀C l k S q,Kv (Be X a cl E C l k S q) b0 f6 f)
  (b1:CapOk X a cl) (hcell:∀y∈a.names,y.2≠.cell) (U:a.kind=.function) (b6:∀y∈a.names,y.2=.local->a.names.lookup y.1=some .local) (h7:R.length=E.length)
  (e2:∀(i j:Nat),R[i]?=some (some j)->∃y:Str,E[i]?=some y/\X.N[j]?=some y/\(ur a X.env).names.lookup y=some .cell/\X.env.scope.names.lookup y=some .cell)
  (h8:∀x,Qq iter X.env x=pure x) {k:List (Addr×Obj)} {s:X1} {b7:St} {H:Hp} {Q:VK} {use:Option (Value->Sem Unit)} {QQ:Value->X1->Prop}
  (f8:∀(C G:Addr) (l:List Addr) (S a6:X1) (q c6:Hp) (pl:List (Addr×Obj)) (F:St) (items:Array Value) (B:List V),Inv X k b7 q S->(∀b∈l,FpOk X k q b)->Inv (Be X a cl E C l k S q) pl F c6 a6->a6.heap.PlainList G items->c6 G=none->S.heap.get? G=none->G≠C->
   Vals B items.toList->(∀u∈items.toList,f u a6.toks)->B.length<=X3->(∀p,c6 p=none->Q (.ref p) (upd c6 p (.lst B)))->AL (model X.prog X.w) X.A X.xe use QQ (.ref G) C (.ok .next) a6)
  (l7:Inv X k b7 H s) (h:IW f5 l0 tt f6 R b7 H Q):wpAny (model X.prog X.w) X.A (Me (.ListComp b0 [⟨a5,iter,a2,0⟩] a pos) a X.env (firstIterPos [⟨a5,iter,a2,0⟩] pos) (newList []) false (eval iter X.env) use) QQ X.xe s:=by
 refine wpAny_comprehension_free (use:=use) rfl h8 b1.clos U b6 (thn (hi k s b7 H _ l7 h) λ l8 a7 I=>thn I λ l1 g e3=>?_)
 obtain ⟨it,l,b8,m1,q,rfl,W,T,d3,c7,h9,⟨i0,i1⟩,turn⟩:=e3;have b9:∀b∈l,b < g.heap.objs.size:=λ b hb=>by obtain ⟨o,e,_⟩:=T.obj _ _ d3 b hb;exact ZT e
 refine JJ (wpAny_newFunctionEnv hcell (by intro y i2;simp at i2) (λ I L J=>?_) U)
 dsimp only at L J ⊢
 generalize c0:g.heap.push { cls:=.type "list",dict:=none,data:=.seq ([]:List Value).toArray }=a3 at L J ⊢;have e4:a3.objs.size=g.heap.objs.size+1:=by rw [<- c0,Ug]
 have b2:g.heap.objs.size≠a3.objs.size:=by rw [e4];exact YP (Qb _)
 have e5:g.heap.objs.size<=a3.objs.size:=by rw [e4];exact WV _
 have b3:∀b,b < g.heap.objs.size->b≠a3.objs.size:=λ b hb=>by rw [e4];exact YP (Nat.lt_succ_of_lt hb)
 have d4:∀b o,g.heap.get? b=some o->I.get? b=some o:=λ b o e=>J.extBut b o (b3 b (ZT e)) (X2 _ (c0▸X2 _ e))
 have e6:I.PlainList g.heap.objs.size #[]:=⟨_,J.extBut _ _ b2 (X2 _ (c0▸YI _ rfl))⟩;have Y:g.heap.get? g.heap.objs.size=none:=xD (ZE _);have f9:q g.heap.objs.size=none:=W.hok.fresh (ZE _);generalize b4:g.heap.objs.size=G at *;generalize l2:a3.objs.size=C at *;have d5:∀b∈l,b≠G:=λ b hb=>YP (b9 b hb)
 have Z:∀{D:Hp} {pl:List (Addr×Obj)},(∀p∈pl,p.1=G)->(∀b∈l,D b=none)->∀b∈l,FpOk (Be X a cl E C l k g q) pl D b:=λ {D pl} g0 hn b hb=>by
  obtain ⟨l9,i3,g1,m0,i4,i5⟩:=c7 b hb;refine ⟨hn b hb,b3 b (b9 b hb),O5 W i3 g1,.inl hb,λ y c e=>i4 y c (b1.sub y c e),λ p K=>?_⟩
  rcases XE.mp K with K | K
  ·exact i5 p K
  ·rw [g0 p K];exact (d5 b hb).symm
 have g2:∀n s',(∃i F B,∃(items:Array Value),∃D,Inv (Be X a cl E C l k g q) [] F D s'/\b8 i s'.heap/\(∀b∈l,D b=none)/\s'.heap.PlainList G items/\(Vals B items.toList/\∀u∈items.toList,f u s'.toks)/\D G=none/\h9 i n F B D)->
   wpAny (model X.prog X.w) X.A (GM (.ref it)) (λ r a7=>match r with
   | none=>AL (model X.prog X.w) X.A X.xe use QQ (.ref G) C (.ok .next) a7
   | some v=>wpAny (model X.prog X.w) X.A (xB a5 (.ref it) v) (λ _ c8=>wpAny (model X.prog X.w) X.A (qo a5 (qh a cl C X.env) v) (λ _ c9=>
     wpAny (model X.prog X.w) X.A (forIn a2 true λ c r=>if r=true then do let ok <- isTrue c (qh a cl C X.env) (eval c (qh a cl C X.env));pure (QD ok) else pure (QD r)) (λ ok t=>
      if ok=true then wpAny (model X.prog X.w) X.A (eval b0 (qh a cl C X.env)) (λ x e7=>
       wpAny (model X.prog X.w) X.A (call (.builtin "list.append") [.ref G,x]) (λ _ a0=>∃m,m < n/\∃i F B,∃(items:Array Value),∃D,Inv (Be X a cl E C l k g q) [] F D a0/\b8 i a0.heap/\(∀b∈l,D b=none)/\a0.heap.PlainList G items/\(Vals B items.toList/\∀u∈items.toList,f u a0.toks)/\D G=none/\h9 i m F B D) (λ _ _=>False) e7) (λ _ _=>False) t
      else ∃m,m < n/\∃i F B,∃(items:Array Value),∃D,Inv (Be X a cl E C l k g q) [] F D t/\b8 i t.heap/\(∀b∈l,D b=none)/\t.heap.PlainList G items/\(Vals B items.toList/\∀u∈items.toList,f u t.toks)/\D G=none/\h9 i m F B D) (λ _ _=>False) c9) (λ _ _=>False) c8) (λ _ _=>False) a7) (λ _ _=>False) s':=by
  rintro n s3 ⟨i,P,B,items,c1,i6,d6,d7,g3,⟨b5,c2⟩,g4,i7⟩
  obtain ⟨i8,i9⟩:=turn i n P B c1 i7;obtain ⟨a8,d0⟩:=id g3;have e8:G∉frs X.stack:=λ z=>by
   obtain ⟨_,o,e,_⟩:=W.stack.mem z;rw [Y] at e;cases e
  have d8:Inv (Be X a cl E C l k g q) [(G,{ cls:=.type "list",data:=.seq items a8 })] P c1 s3:=i6.pins_of λ p K=>by
   have e:p=(G,{ cls:=.type "list",data:=.seq items a8 }):=by simpa using K
   subst e;exact ⟨d0,g4,b2,e8,λ v z=>by cases z⟩
  have one:∀p∈[(G,({ cls:=.type "list",data:=.seq items a8 }:Obj))],p.1=G:=λ p K=>by
   have e:p=(G,{ cls:=.type "list",data:=.seq items a8 }):=by simpa using K
   subst e;rfl
  rcases i9 with ⟨stop,j0⟩ | ⟨go,step⟩
  ·refine Fw (T.done (Be X a cl E C l k g q) rfl rfl rfl f7 i _ s3 P c1 (λ _ _=>False) d8 (Z one d7) d6 stop) λ r a6 d9 ⟨e9,g5⟩=>?_
   subst e9;obtain ⟨j1,g6,_⟩:=g5.pin _ (Ya _ (ZB.mpr rfl));exact f8 C G l g a6 q c1 _ P items B W c7 g5 ⟨a8,j1⟩ g6 (b4▸Y) b2 b5 (λ u M=>mono _ _ _ d9 (c2 u M)) i8 j0
  ·refine Fw (T.item (Be X a cl E C l k g q) rfl rfl rfl f7 i _ s3 P c1 (λ _ _=>False) d8 (Z one d7) d6 go) λ r a6 d9 ⟨u,e9,j2⟩=>?_
   subst e9;refine Fw j2 λ _ g7 l3 ⟨x,g8,j3,j4,j5,c3,g9⟩=>?_
   have h0:=j3.pinned (Z one g9) (T.obj _ _ c3);refine Fw (h5 C l k g q _ g7 P g8 x u _ h0 j4 (step x g8 j5)) λ _ j6 l4 ⟨O,j7,j8,j9⟩=>?_
   refine Fw (ht C l k g q _ j6 O j7 _ j8 j9) λ b k0 l5 ⟨h1,h2,d1⟩=>?_
   have c4:∀{a4:Hp} {a1:X1},Inv (Be X a cl E C l k g q) ([(G,({ cls:=.type "list",data:=.seq items a8 }:Obj))]++pinsAt l g7.heap) O a4 a1->
     Inv (Be X a cl E C l k g q) [] O a4 a1/\b8 (i+1) a1.heap/\(∀b∈l,a4 b=none)/\a1.heap.PlainList G items/\a4 G=none:=λ {a4 a1} a9=>by
    refine ⟨a9.pins_of (λ p K=>nomatch K),T.keep _ _ _ c3 λ b hb o e=>(a9.pin (b,o) (Ya _ (Ya _ (JP hb e)))).1,λ b hb=>?_,?_,?_⟩
    ·obtain ⟨o,e,d⟩:=T.obj _ _ c3 b hb;exact (a9.pin (b,o) (Ya _ (Ya _ (JP hb e)))).2.1
    ·exact ⟨a8,(a9.pin _ (Ya _ (QO _ (ZB.mpr rfl)))).1⟩
    ·exact (a9.pin _ (Ya _ (QO _ (ZB.mpr rfl)))).2.1
   cases b with
   | false=>
    rw [if_neg ZL] at d1;obtain ⟨f0,hm,k1⟩:=d1;obtain ⟨f1,f2,f3,f4,d2⟩:=c4 h2;rw [if_neg ZL];exact ⟨f0,hm,i+1,O,B,items,h1,f1,f2,f3,f4,⟨b5,λ u M=>mono _ _ _ ∅ (c2 u M)⟩,d2,k1⟩
   | true=>
    rw [if_pos rfl] at d1;rw [if_pos rfl];refine Fw (h6 C l k g q _ k0 O h1 _ h2 d1) λ v a1 l6 ⟨k2,y,a4,a9,k3,f0,hm,k4⟩=>?_
    obtain ⟨f1,f2,f3,f4,d2⟩:=c4 a9;have h3:items.size<=X3:=by
     have e:B.length=items.size:=by simpa using b5.length
     omega
    refine wpAny_list_append_plain (hsz:=h3) f4 λ k5 h4 e0=>?_
    have k6:∀y c,cl.lookup y=some c->c≠G:=λ y c e z=>by
     obtain ⟨v,o,d0,_⟩:=W.cell y c (b1.sub y c e);rw [z,Y] at d0;cases d0
    have k7:∀p∈(X.pn++k)++[],p.1≠G:=λ p K z=>by
     rw [WC] at K;have e:=(W.pin p K).1;rw [z,Y] at e;cases e
    have k8:Inv (Be X a cl E C l k g q) [] O a4 { a1 with heap:=k5 }:=f1.turned (it:=G) (t':=a1.toks) (λ b o hb e=>e0.extBut b o hb e) d2 b2 (.inr (FF b4)) k6 k7
    refine ⟨f0,hm,i+1,O,B++[y],items.push v,a4,k8,T.keep _ _ _ f2 λ b hb o e=>e0.extBut b o (d5 b hb) e,f3,h4,?_,d2,k4⟩
    rw [Array.toList_push];refine ⟨b5.append (.cons k3 .nil),λ u M=>?_⟩
    rcases XE.mp M with M | M
    ·exact mono _ _ _ (by show s3.toks<=a1.toks;omega) (c2 u M)
    ·rw [ZB.mp M];exact k2
 have k9:Inv (Be X a cl E C l k g q) [] (Ip R b7) q { g with heap:=I,toks:=g.toks+([]:List (Str×Value)).length }:=
  Y6 W c7 (λ b hb=>b4▸b9 b hb) U b1 (by rw [b4];exact e5) rfl W.bare d4 L h7 e2 (ht:=W.tk)
 have e1:b8 0 I:=T.keep _ _ _ d3 λ b _ o e=>d4 b o e
 have c5:∀t:X1,t={ g with heap:=I,toks:=g.toks+([]:List (Str×Value)).length }->
   wh (model X.prog X.w) X.A (.compLoop (.ListComp b0 [⟨a5,iter,a2,0⟩] a pos) 0 (.ref it) (.ref G) (qh a cl C X.env)) (AL (model X.prog X.w) X.A X.xe use QQ (.ref G) C) t:=by
  rintro t rfl
  exact fj _ g2 i0 ⟨0,_,[],#[],q,k9,e1,λ b hb=>(c7 b hb).1,e6,⟨.nil,λ u M=>by simp at M⟩,f9,i1⟩
 exact codeAny_compStart_list (c5 _ rfl) (T.self X.A 0 _ _ _ e1 (c5 _ rfl))
theorem Ir {X:Cx}{p n iter:Expr}{o:List Expr}{a:Scope}{pos:Pos}{t:TI}{R:TG}{tt:TT}{u:TE}{cl:List (Str×Addr)}(g:List Str)(c:List (Option Nat))(D:X.calm=true)(hi:PI X p iter t)
  (E:∀C d b e f,PG (Be X a cl g C d b e f) p R) (ht:∀C d b e f,CP (Be X a cl g C d b e f) o tt) (F:∀C d b e f,PE (Be X a cl g C d b e f) n u)
  (v:CapOk X a cl) (hcell:∀y∈a.names,y.2≠.cell) (l:a.kind=.function) (k:∀y∈a.names,y.2=.local->a.names.lookup y.1=some .local) (G:c.length=g.length)
  (q:∀(i j:Nat),c[i]?=some (some j)->∃y:Str,g[i]?=some y/\X.N[j]?=some y/\(ur a X.env).names.lookup y=some .cell/\X.env.scope.names.lookup y=some .cell)
  (I:∀x,Qq iter X.env x=pure x:=by intro _;rfl):
  PE X (.ListComp n [⟨p,iter,o,0⟩] a pos) (IW t R tt u c):=by
 intro b s U H Q V h;rw [eval_ListComp];refine U7 (λ _ _ _ _ _=>trivial) (use:=none) g c D hi E ht (λ C d b e f=>(F C d b e f).f) v hcell l k G q I (λ C S d e W f Y pl T items Z J K w z A r B L _ M O=>?_) V h
 obtain ⟨m,hn,_⟩:=w.loc;exact ⟨m,hn,λ h' P=>⟨.ref S,_,Mx J K w z A r B L M P,rfl,O S A⟩⟩
def AN2 (i:Nat)(t:TE):TS:=λ c a H=>t a H λ v b=>c.nx (a.set i (some v)) b
theorem vp {X:Cx}{B r iter:Expr}{t:List Expr}{a:Scope}{pos D E:Pos}{U:TI}{c8:TG}{tt:TT}{V:TE}{cl:List (Str×Addr)}{y:Str}{i:Nat}(W:X.N.Nodup)(Y:X.N[i]?=some y)(a9:Loc X.env.scope y)(u:List Str)(f:List (Option Nat))(b0:X.calm=true)(hi:PI X B iter U)
  (b1:∀C l d g n,PG (Be X a cl u C l d g n) B c8) (ht:∀C l d g n,CP (Be X a cl u C l d g n) t tt) (b2:∀C l d g n,PE (Be X a cl u C l d g n) r V)
  (Z:CapOk X a cl) (hcell:∀y∈a.names,y.2≠.cell) (I:a.kind=.function) (F:∀y∈a.names,y.2=.local->a.names.lookup y.1=some .local) (b3:f.length=u.length)
  (Q:∀(i j:Nat),f[i]?=some (some j)->∃y:Str,u[i]?=some y/\X.N[j]?=some y/\(ur a X.env).names.lookup y=some .cell/\X.env.scope.names.lookup y=some .cell)
  (b4:∀x,Qq iter X.env x=pure x:=by intro _;rfl) (a0:xz (.ListComp r [⟨B,iter,t,0⟩] a pos) (some (.Name y E)) D.line X.env=pure true:=by rfl)
  (a1:X.fn y=true\/X.env.scope.names.lookup y=some .local:=by first | exact .inl rfl | exact .inr rfl | assumption):
  PS X (.Assign [.Name y E] (.ListComp r [⟨B,iter,t,0⟩] a pos) D) (AN2 i (IW U c8 tt V f)):=by
 intro d s R H d1 d2 h;rw [exec_Assign_Name_used _ _ _ _ a0];refine Y3 (UO (Y3 ?_));show wpAny _ X.A (do let _ <- Me (.ListComp r [⟨B,iter,t,0⟩] a pos) a X.env _ (newList []) false (eval iter X.env) (some (qo (.Name y E) X.env))) _ _ s
 refine Y3 (Wf (U7 (λ _ _ _ _ _=>trivial) (use:=some (qo (.Name y E) X.env)) (QQ:=λ _ s'=>SP X d d1 .next s') u f b0 hi b1 ht (λ C l d g n=>(b2 C l d g n).f) Z hcell I F b3 Q b4
  (λ C k l g S n J pl c9 items K w b5 L a2 a3 T O b6 _ b7 b8=>?_) d2 h) (λ _ s' b9=>ZI (ZI b9)) λ _ _ e=>e)
 have G:g.heap.objs.size<=C:=L.ok.above;obtain ⟨m,hn,_⟩:=L.loc;obtain ⟨M,c0,c1,a4,P,hrest⟩:=id hn;have d0:Inv X d R (upd J k (.lst K)) S:=Mx w b5 L a2 a3 T O b6 b7 (NH ..);have a5:upd J k (.lst K) C=none:=by rw [Al (WU O)];exact L.free
 have a6:C≠X.env.locals:=XW (Zu w.lt G);have c2:C∉X.fs:=w.nofs G;have c3:Inv X (d++[(C,M)]) R (upd J k (.lst K)) S:=d0.pins_of λ p q=>by
  rcases XE.mp q with q | q
  ·exact d0.pin p (Ya _ q)
  ·have e:p=(C,M):=by simpa using q
   subst e;exact ⟨a4,a5,a6,c2,λ v z=>by rw [P] at z;cases z⟩
 show wpAny _ X.A (qo (.Name y E) X.env (.ref k)) _ _ S;refine NM (Gu c3 W Y a9 (show RelV (.ref k) (Yf k) from rfl) (λ a7 a8=>?_) a1)
 obtain ⟨c4,_⟩:=a8.pin (C,M) (Ya _ (Ya _ (ZB.mpr rfl)));refine ⟨m,⟨M,c0,c1,c4,P,hrest⟩,λ h' c5=>?_⟩
 have c6:Inv X d (R.set i (some (.ref k))) (upd J k (.lst K)) a7:=a8.unpinned;refine ⟨_,_,c6.turned (it:=C) (t':=a7.toks) (λ b o hb e=>c5.extBut b o hb e) a5 a6 (.inr (W8 w.sz G)) (λ x c e z=>?_) (λ p q z=>?_),b8 k a3⟩
 ·obtain ⟨v,o,c7,_⟩:=w.cell x c e;exact absurd (ZT c7) (by rw [z];exact Cf.mpr G)
 ·have e:=(w.pin p q).1;exact absurd (ZT e) (by rw [z];exact Cf.mpr G)
theorem SqT.keep {K:FrG}{H b:Hp}{a:Addr}{xs:List V}(s:Same H b)(h:SqT K H a xs):SqT K b a xs:=by
 rcases h with (h | ⟨o,h⟩) | h
 ·exact .inl (.inl (s _ _ h))
 ·exact .inl (.inr ⟨o,s _ _ h⟩)
 ·exact .inr h
theorem SqL.keep {K:FrG}{H b:Hp}{a:Addr}{xs:List V}(s:Same H b)(h:SqL K H a xs):SqL K b a xs:=s.seq h
mutual
theorem DV.keep {K:FrG}{H a:Hp}(s:Same H a):∀{v:V} {d:Xt},DV K H v d->DV K a v d
 | _,_,.non=>.non
 | _,_,.bl b=>.bl b
 | _,_,.int i=>.int i
 | _,_,.str x=>.str x
 | _,_,.lst h q=>.lst (h.keep s) (DVs.keep s q)
 | _,_,.tup h q=>.tup (h.keep s) (DVs.keep s q)
 | _,_,.dct h=>.dct (s _ _ h)
theorem DVs.keep {K:FrG}{H a:Hp}(s:Same H a):∀{vs:List V} {ds:List Xt},DVs K H vs ds->DVs K a vs ds
 | _,_,.nil=>.nil
 | _,_,.cons h q=>.cons (DV.keep s h) (DVs.keep s q)
end
section
variable {K:FrG}{H:Hp}{v:V}{vs:List V}{d d1 d2 d3 d4:Xt}{ds:List Xt}
theorem DVs.len:∀{vs:List V} {ds:List Xt},DVs K H vs ds->vs.length=ds.length
 | _,_,.nil=>rfl
 | _,_,.cons _ q=>by rw [W6,W6,DVs.len q]
theorem DVs.nil_of (h:DVs K H vs []):vs=[]:=by cases h;rfl
theorem DVs.cons_of (h:DVs K H vs (d::ds)):∃x xs,vs=x::xs/\DV K H x d/\DVs K H xs ds:=by
 cases h with
 | cons h q=>exact ⟨_,_,rfl,h,q⟩
theorem DV.tup_of (h:DV K H v (.tuple ds)):∃a xs,v=.ref a/\SqT K H a xs/\DVs K H xs ds:=by
 cases h with
 | tup h q=>exact ⟨_,_,rfl,h,q⟩
theorem DV.lst_of (h:DV K H v (.list ds)):∃a xs,v=.ref a/\SqL K H a xs/\DVs K H xs ds:=by
 cases h with
 | lst h q=>exact ⟨_,_,rfl,h,q⟩
theorem DVs.one (h:DVs K H vs [d1]):∃x,vs=[x]/\DV K H x d1:=by
 cases h with
 | cons h q=>cases q;exact ⟨_,rfl,h⟩
theorem DVs.two (h:DVs K H vs [d1,d2]):∃x y,vs=[x,y]/\DV K H x d1/\DV K H y d2:=by
 cases h with
 | cons h q=>
  obtain ⟨y,rfl,a⟩:=q.one;exact ⟨_,_,rfl,h,a⟩
theorem DVs.three (h:DVs K H vs [d1,d2,d3]):∃x y z,vs=[x,y,z]/\DV K H x d1/\DV K H y d2/\DV K H z d3:=by
 cases h with
 | cons h q=>
  obtain ⟨y,z,rfl,a,b⟩:=q.two;exact ⟨_,_,_,rfl,h,a,b⟩
theorem DVs.four (h:DVs K H vs [d1,d2,d3,d4]):∃x y z u,vs=[x,y,z,u]/\DV K H x d1/\DV K H y d2/\DV K H z d3/\DV K H u d4:=by
 cases h with
 | cons h q=>
  obtain ⟨y,z,u,rfl,a,b,c⟩:=q.three;exact ⟨_,_,_,_,rfl,h,a,b,c⟩
theorem DV.t2 (h:DV K H v (.tuple [d1,d2])):∃a x y,v=.ref a/\SqT K H a [x,y]/\DV K H x d1/\DV K H y d2:=by
 obtain ⟨a,xs,rfl,ha,q⟩:=h.tup_of;obtain ⟨x,y,rfl,b,c⟩:=q.two;exact ⟨a,x,y,rfl,ha,b,c⟩
theorem DV.t3 (h:DV K H v (.tuple [d1,d2,d3])):∃a x y z,v=.ref a/\SqT K H a [x,y,z]/\DV K H x d1/\DV K H y d2/\DV K H z d3:=by
 obtain ⟨a,xs,rfl,ha,q⟩:=h.tup_of;obtain ⟨x,y,z,rfl,b,c,e⟩:=q.three;exact ⟨a,x,y,z,rfl,ha,b,c,e⟩
theorem DV.t4 (h:DV K H v (.tuple [d1,d2,d3,d4])):∃a x y z u,v=.ref a/\SqT K H a [x,y,z,u]/\DV K H x d1/\DV K H y d2/\DV K H z d3/\DV K H u d4:=by
 obtain ⟨a,xs,rfl,ha,q⟩:=h.tup_of;obtain ⟨x,y,z,u,rfl,b,c,e,f⟩:=q.four;exact ⟨a,x,y,z,u,rfl,ha,b,c,e,f⟩
theorem DV.int_of {i:Int}(h:DV K H v (.int i)):v=.int i:=by cases h;rfl
theorem DV.str_of {x:Str}(h:DV K H v (.str x)):v=.str x:=by cases h;rfl
theorem DV.bl_of {b:Bool}(h:DV K H v (.bool b)):v=.bl b:=by cases h;rfl
theorem DVs.get:∀{vs:List V} {ds:List Xt} {i:Nat} {v:V},DVs K H vs ds->vs[i]?=some v->∃d,ds[i]?=some d/\DV K H v d
 | _,_,_,_,.nil,e=>by simp at e
 | _,_,0,_,.cons h _,e=>by simp at e;subst e;exact ⟨_,rfl,h⟩
 | _,_,i+1,v,.cons _ q,e=>by
  obtain ⟨d,a,b⟩:=DVs.get (i:=i) (v:=v) q (by simpa using e)
  exact ⟨d,by simpa using a,b⟩
theorem DVs.append:∀{vs ws:List V} {ds a:List Xt},DVs K H vs ds->DVs K H ws a->DVs K H (vs++ws) (ds++a)
 | _,_,_,_,.nil,q=>q
 | _,_,_,_,.cons h t,q=>.cons h (DVs.append t q)
end
def JB:Xt->String
 | .none=>"NoneType"
 | .bool _=>"bool"
 | .int _=>"int"
 | .str _=>"str"
 | .list _=>"list"
 | .tuple _=>"tuple"
 | .dict _=>"dict"
section
variable {X:Cx}
inductive iM (K:FrG)(xs:List V)(H:Hp)(Q:VK):Prop | mk (x d c b:_) (_:xs=[x,.ty c]) (_:DV K H x d) (_:Bp (JB d) c=some b) (_:Q (.bl b) H)
theorem Dy:CallR X (.builtin "isinstance") (iM X.K):=by
 intro k s p H xs us Q j r h;obtain ⟨x,d,c,b,rfl,hd,e,q⟩:=h;obtain ⟨u,v,rfl,f,l⟩:=vals2 r;cases (show v=uu c from l)
 have g:=mL (K:=X.K) e;refine yl j.tk ?_;have a:∀tk,X.tb<=tk->EP X k p Q (.bool b) { s with toks:=tk }:=λ tk t=>⟨.bl b,H,j.tok _,rfl,q⟩
 cases hd with
 | non=>exact Ky j f .non g a
 | bl b=>exact Ky j f (.bl b) g a
 | int i=>exact Ky j f (.int i) g a
 | str x=>exact Ky j f (.str x) g a
 | lst h _=>
  cases f
  obtain ⟨m,l,⟨o,n,e1,e2,_⟩,_⟩:=j.list h;exact UH NC j.kIn ⟨o,e1,e2⟩ g (λ z=>nomatch z) a
 | tup h _=>
  cases f
  obtain ⟨m,l,⟨o,e1,e2,_⟩,_⟩:=j.tuple h;exact UH Cc j.kIn ⟨o,e1,e2⟩ g (λ z=>nomatch z) a
 | dct h=>exact Ky j f (.dK h) g a
end
def KH (K:FrG)(a:Addr):It:=
 ⟨λ i H=>∃xs x,SqL K H a xs/\xs[i]?=some x,λ i H x b=>∃p v,H p=none/\x=.ref p/\(∀xs,SqL K H a xs->xs[i]?=some v)/\b=upd H p (.tup [.int i,v]),λ i H=>∃xs,SqL K H a xs/\xs.length<=i⟩
theorem AH9 {P:ZU}{w:World}{K:FrG}{L:List Expr}{x1}{M:Pos}(a e it:Addr)(I:e≠it):Turn P w K (.Tuple L x1 M) (KH K a) [e,it] e (λ i h=>(∃f,IsEnum h e it (i:Int) f)/\h.IsListIter it a i) where
 mem:=by simp
 obj:=λ i h ⟨⟨f,st⟩,b2,b3,c7,d'⟩ b hb=>by
  rcases ZN.mp hb with z | z
  ·subst z;exact ⟨_,st,λ v q=>by cases q⟩
  ·have z:b=it:=by simpa using z
   subst z;exact ⟨b2,b3,λ v q=>by rw [d'] at q;cases q⟩
 keep:=λ i h h' ⟨⟨f,st⟩,g⟩ k=>⟨⟨f,k e (by simp) _ st⟩,g.at λ o q=>k it (by simp) o q⟩
 item:=by
  intro X N O Q a0 i l s a1 H E B hf ⟨⟨f,st⟩,g⟩ R;subst N O Q;obtain ⟨xs,x,C,S⟩:=R;obtain ⟨a2,T,p,b4⟩:=B.list C;obtain ⟨u,b5,b6⟩:=T.get S;obtain ⟨a3,a4,c8,b7,b8,b9⟩:=hf e (by simp)
  obtain ⟨D,F,c0,U,V,W⟩:=hf it (by simp)
  refine wpAny_pyNext_enum_item st g p.isList (x:=u) (by simpa using b5) I λ c9 a5 Y a6 c6 a7=>?_
  refine ⟨_,rfl,?_⟩;refine wpAny_letOwnedTupleGo_enum a5 λ Z a8 t=>?_
  have A:∀b o,s.heap.get? b=some o->b≠s.heap.objs.size:=λ b o q=>YP (ZT q)
  have k2:∀b o,b≠e->b≠it->s.heap.get? b=some o->Z.get? b=some o:=λ b o J a9 q=>t.extBut b o J (a7 b o J a9 q)
  have G:∀b o,H b=some o->b≠e/\b≠it:=λ b o q=>⟨(λ z=>by rw [z,a3] at q;cases q),λ z=>by rw [z,D] at q;cases q⟩
  have j:H s.heap.objs.size=none:=B.hok.fresh (ZE _);have b0:Z.get? s.heap.objs.size=some { cls:=.type "tuple",data:=.seq #[.int i s.toks,u] }:=t.extBut _ _ (XW (ZT st)) a6;have d0:Inv X l a1 (upd H s.heap.objs.size (.tup [.int i,x])) { s with heap:=Z,toks:=s.toks+1 }:=by
   refine B.step (g':=s.gens) (d':=s.drawn) (ch:=[e,it]) (λ b hb=>?_) (λ b o _ _ d q n=>k2 b o (λ z=>d (by simp [z])) (λ z=>d (by simp [z])) q) (λ b o _ _ d q n=>⟨o.slots,k2 b o (λ z=>d (by simp [z])) (λ z=>d (by simp [z])) q⟩)
    (λ b o _ q n=>by rw [Al (A b o q)];exact n) (λ b o d q=>⟨o,k2 b o (λ z=>d (by simp [z])) (λ z=>d (by simp [z])) q⟩)
    (λ b b1 q=>by rw [Al (BV q j)];exact q) (λ b o y q=>by rw [Al (BV q j)];exact q) (λ b ps q=>⟨#[],by rw [Al (BV q j),q];simp⟩) (λ m hm=>?_) (λ b o q=>?_) B.bare
   ·rcases ZN.mp hb with z | z
    ·subst z;exact ⟨b7,a4,b8,b9⟩
    ·have z:b=it:=by simpa using z
     subst z;exact ⟨U,F,V,W⟩
   ·obtain ⟨o,c1,c2,c3,r⟩:=hm;exact ⟨o,c1,c2,k2 _ o (WU a4) (WU F) c3,r⟩
   ·by_cases hb:b=s.heap.objs.size
    ·subst hb;rw [Ag] at q;cases q
     exact ⟨by show 2<=X3;decide,[.int i s.toks,u],.cons ⟨_,rfl⟩ (.cons b6 .nil),_,b0,rfl,_,rfl⟩
    ·rw [Al hb] at q;refine (B.hok b o q).stay (λ c v d z=>k2 c v ?_ ?_ z) (λ c z=>by rw [Al (BV z j)];exact z) λ c b1 z=>by rw [Al (BV z j)];exact z
     ·rcases d with z | z
      ·rw [z];exact (G b o q).1
      ·exact (G c _ z).1
     ·rcases d with z | z
      ·rw [z];exact (G b o q).2
      ·exact (G c _ z).2
  refine ⟨.ref s.heap.objs.size,_,d0,rfl,⟨s.heap.objs.size,x,j,rfl,(λ b1 c4=>by rw [B.list_inj c4 C];exact S),rfl⟩,⟨⟨u,?_⟩,?_⟩,λ b hb=>?_⟩
  ·have z:((i+1:Nat):Int)=(i:Int)+1:=by push_cast;rfl
   rw [z];exact a8
  ·exact Y.extBut t.extBut (WU I)
  ·rcases ZN.mp hb with z | z
   ·subst z;rw [Al (A _ _ st)];exact a3
   ·have z:b=it:=by simpa using z
    subst z;obtain ⟨o,q,_⟩:=g;rw [Al (A _ _ q)];exact D
 done:=by
  intro X N O Q a0 i l s a1 H E B hf ⟨⟨f,st⟩,g⟩ R;subst N O Q;obtain ⟨xs,C,S⟩:=R;obtain ⟨a2,T,p,b4⟩:=B.list C;obtain ⟨D,F,c0,U,V,W⟩:=hf it (by simp)
  have hl:=T.length;exact wpAny_pyNext_enum_end (B.ok.hd a0) st g p.isList (by simp;omega) λ h' c5=>⟨rfl,B.turned (t':=s.toks) (λ b o hb e=>c5 b o hb e) D F U V W⟩
 self:=λ _ _ _ _ _ ⟨⟨f,st⟩,_⟩ h=>wpAny_pyIter_enum st h
section
variable {X:Cx}{elts:List Expr}{x1:Nat}{tpos:Pos}
inductive tZ (K:FrG)(R:It->Hp->Prop)(vs:List V)(H1:Hp):Prop | mk (a:_) (_:vs=[.ref a]) (_:(∃xs,SqL K H1 a xs)) (_:R (KH K a) H1)
def lD (K:FrG)(a:TA):TI:=λ b H d=>a b H λ vs c=>tZ K d vs c
theorem Sv {a:Expr}{g:TA}{p pos:Pos}(l:Gl X "enumerate")(hm:X.mg "enumerate"=none)(ha:PA X [a] g)(m:YE [a] X.env=[(false,eval a X.env)]:=by rfl):PI X (.Tuple elts x1 tpos) (.Call (.Name "enumerate" p) [a] [] pos) (lD X.K g):=by
 intro f s i H B w h;refine Call_ (JF w l hm boot_enumerate (yv (thn (ha pos f s i H _ w h) λ us c ⟨vs,j,d,r1,n⟩=>?_) m rfl))
 obtain ⟨a,e,⟨xs,o⟩,q⟩:=n;subst e;obtain ⟨u,rfl,r⟩:=vals1 r1;cases r
 obtain ⟨x,y,p,A⟩:=d.list o;refine call_enumerate_list p.isList λ h' k hi hsz t=>?_
 have v:Inv X f i j { c with heap:=h' }:=d.kept (t':=c.toks) t
 refine wpAny_pyIter_enum k ⟨c.heap.objs.size+1,[c.heap.objs.size+1,c.heap.objs.size],_,_,j,rfl,v,AH9 a _ _ (Nat.succ_ne_self _),⟨⟨_,k⟩,hi⟩,λ b hb=>?_,q⟩
 rcases ZN.mp hb with z | z
 ·subst z;exact d.fpOk (WV _) (d.hok.fresh (WV _))
 ·have z:b=c.heap.objs.size:=by simpa using z
  subst z;exact d.fpOk (ZE _) (d.hok.fresh (ZE _))
end
theorem Ym {K:FrG}{a:Addr}{xs:List V}{w:TG}{tb:TS}{k:Ends}{b:St}{H:Hp}(c:Nat->St->Hp->Prop)(o:c 0 b H)(hl:∀i b H,i<=xs.length->c i b H->SqL K H a xs)
  (s:∀i x b H p,xs[i]?=some x->c i b H->H p=none->w (.ref p) b (upd H p (.tup [.int i,x])) λ f j=>tb { k with nx:=c (i+1),ct:=c (i+1),bk:=k.nx } f j) (hd:∀b H,c xs.length b H->k.nx b H):
  ∃t:Nat->Nat->St->Hp->Prop,(∃m,t 0 m b H)/\∀i m b H,t i m b H->
   ((KH K a).stop i H/\k.nx b H)\/((KH K a).go i H/\∃N:St->Hp->Prop,(∀g d,N g d->∃l,l < m/\t (i+1) l g d)/\∀x d,(KH K a).yld i H x d->w x b d λ f j=>tb { k with nx:=N,ct:=N,bk:=k.nx } f j):=by
 refine ⟨λ i m b H=>m=xs.length - i/\i<=xs.length/\c i b H,⟨xs.length,by simp,Qi _,o⟩,?_⟩
 rintro i m b H ⟨rfl,hi,p⟩
 have q:=hl i b H hi p;by_cases h:i < xs.length
 ·refine .inr ⟨⟨xs,xs[i],q,by simp [h]⟩,c (i+1),λ g d u=>⟨xs.length - (i+1),by omega,rfl,h,u⟩,λ x d y=>?_⟩
  obtain ⟨r,v,n,rfl,y,rfl⟩:=y;exact s i v b H r (y xs q) p n
 ·have e:i=xs.length:=by omega
  subst e;exact .inl ⟨⟨xs,q,ZE _⟩,hd b H p⟩
def Nx (n:Nat)(b:Nat->St->List V->Hp->Prop)(i:Nat)(c:St)(d:List V)(H:Hp):Prop:=∃a,a < n - i/\(a=n - (i+1)/\i+1<=n/\b (i+1) c d H)
theorem nx {n:Nat}{a:Nat->St->List V->Hp->Prop}{i:Nat}{b:St}{c:List V}{H:Hp}(hi:i < n)(h:a (i+1) b c H):Nx n a i b c H:=⟨n - (i+1),by omega,rfl,hi,h⟩
theorem CJ {a:Type}{xs:List a}{i:Nat}{x:a}(h:xs[i]?=some x):i < xs.length:=(WJ.mp h).1
theorem AM0 {K:FrG}{a:Addr}{xs:List V}{w:TG}{tt:TT}{j:TE}{Q:VK}{d:St}{H:Hp}(f:Nat->St->List V->Hp->Prop)(o:f 0 d [] H)(s:∀i d c H,i<=xs.length->f i d c H->c.length<=X3/\SqL K H a xs)
  (t:∀i x d c H,xs[i]?=some x->f i d c H->w x d H λ g u=>tt g u λ b k=>if b=true then j g k λ y v=>Nx xs.length f i g (c++[y]) v else Nx xs.length f i g c k)
  (hd:∀d c H p,f xs.length d c H->H p=none->Q (.ref p) (upd H p (.lst c))):
  Hc w tt j (Itl K a) d H Q:=by
 refine ⟨λ i m d c H=>m=xs.length - i/\i<=xs.length/\f i d c H,⟨xs.length,by simp,Qi _,o⟩,?_⟩
 rintro i m h c H ⟨rfl,hi,p⟩
 obtain ⟨z,q⟩:=s i h c H hi p;refine ⟨z,?_⟩;by_cases l:i < xs.length
 ·refine .inr ⟨⟨xs,xs[i],q,by simp [l]⟩,λ x A y=>?_⟩
  obtain ⟨rfl,y⟩:=y;exact t i x h c _ (y xs q) p
 ·have e:i=xs.length:=by omega
  subst e;exact .inl ⟨⟨xs,q,ZE _⟩,λ r n=>hd h c _ r p n⟩
theorem q9 {K:FrG}{a:Addr}{xs:List V}{w:TG}{tt:TT}{j:TE}{Q:VK}{d:St}{H:Hp}(f:Nat->St->List V->Hp->Prop)(o:f 0 d [] H)(s:∀i d c H,i<=xs.length->f i d c H->c.length<=X3/\SqT K H a xs)
  (t:∀i x d c H,xs[i]?=some x->f i d c H->w x d H λ g u=>tt g u λ b k=>if b=true then j g k λ y v=>Nx xs.length f i g (c++[y]) v else Nx xs.length f i g c k)
  (hd:∀d c H p,f xs.length d c H->H p=none->Q (.ref p) (upd H p (.lst c))):
  Hc w tt j (Itt K a) d H Q:=by
 refine ⟨λ i m d c H=>m=xs.length - i/\i<=xs.length/\f i d c H,⟨xs.length,by simp,Qi _,o⟩,?_⟩
 rintro i m h c H ⟨rfl,hi,p⟩
 obtain ⟨z,q⟩:=s i h c H hi p;refine ⟨z,?_⟩;by_cases l:i < xs.length
 ·refine .inr ⟨⟨xs,xs[i],q,by simp [l]⟩,λ x A y=>?_⟩
  obtain ⟨rfl,y⟩:=y;exact t i x h c _ (y xs q) p
 ·have e:i=xs.length:=by omega
  subst e;exact .inl ⟨⟨xs,q,ZE _⟩,λ r n=>hd h c _ r p n⟩
theorem vo {lo:Int}{n:Nat}{u:TG}{tt:TT}{j:TE}{Q:VK}{c:St}{H:Hp}(d:Nat->St->List V->Hp->Prop)(l:d 0 c [] H)(o:∀i c a H,i<=n->d i c a H->a.length<=X3)
  (q:∀i c a H,i < n->d i c a H->u (.int (lo+i)) c H λ f s=>tt f s λ b k=>if b=true then j f k λ y t=>Nx n d i f (a++[y]) t else Nx n d i f a k)
  (hd:∀c a H p,d n c a H->H p=none->Q (.ref p) (upd H p (.lst a))):
  Hc u tt j (Itr lo n) c H Q:=by
 refine ⟨λ i m c a H=>m=n - i/\i<=n/\d i c a H,⟨n,by simp,Qi _,l⟩,?_⟩
 rintro i m g a H ⟨rfl,hi,p⟩
 refine ⟨o i g a H hi p,?_⟩;by_cases h:i < n
 ·refine .inr ⟨h,λ x v y=>?_⟩
  obtain ⟨rfl,rfl⟩:=y;exact q i g a _ h p
 ·have e:i=n:=by omega
  subst e;exact .inl ⟨ZE _,λ r n=>hd g a _ r p n⟩
theorem Oj {K:FrG}{a:Addr}{xs:List V}{o:TG}{f:TE}{Q:VK}{b:St}{H:Hp}(d:Nat->St->List V->Hp->Prop)(g:d 0 b [] H)(h:∀i b c H,i<=xs.length->d i b c H->c.length<=X3/\SqL K H a xs)
  (j:∀i x b c H,xs[i]?=some x->d i b c H->o x b H λ e k=>f e k λ y l=>Nx xs.length d i e (c++[y]) l)
  (hd:∀b c H p,d xs.length b c H->H p=none->Q (.ref p) (upd H p (.lst c))):Hc o Ik f (Itl K a) b H Q:=
 AM0 d g h (λ i x b c H m n=>by
  have:=j i x b c H m n
  simpa only [Ik,if_true] using this) hd
theorem Od {K:FrG}{a:Addr}{xs:List V}{o:TG}{f:TE}{Q:VK}{b:St}{H:Hp}(d:Nat->St->List V->Hp->Prop)(g:d 0 b [] H)(h:∀i b c H,i<=xs.length->d i b c H->c.length<=X3/\SqT K H a xs)
  (j:∀i x b c H,xs[i]?=some x->d i b c H->o x b H λ e k=>f e k λ y l=>Nx xs.length d i e (c++[y]) l)
  (hd:∀b c H p,d xs.length b c H->H p=none->Q (.ref p) (upd H p (.lst c))):Hc o Ik f (Itt K a) b H Q:=
 q9 d g h (λ i x b c H m n=>by
  have:=j i x b c H m n
  simpa only [Ik,if_true] using this) hd
theorem oA {lo:Int}{n:Nat}{o:TG}{e:TE}{Q:VK}{a:St}{H:Hp}(c:Nat->St->List V->Hp->Prop)(f:c 0 a [] H)(g:∀i a b H,i<=n->c i a b H->b.length<=X3)
  (h:∀i a b H,i < n->c i a b H->o (.int (lo+i)) a H λ d j=>e d j λ y k=>Nx n c i d (b++[y]) k)
  (hd:∀a b H p,c n a b H->H p=none->Q (.ref p) (upd H p (.lst b))):Hc o Ik e (Itr lo n) a H Q:=
 vo c f g (λ i a b H l m=>by
  have:=h i a b H l m
  simpa only [Ik,if_true] using this) hd
theorem Gr {a:List (Option Nat)}{P:Nat->Nat->Prop}(h:a.all (·.isNone)=true):∀i j,a[i]?=some (some j)->P i j:=λ i j e=>by
 have:=jp.mp h _ (YB e);cases this
theorem RoomB.room {k:Nat}{A:XA}(r:RoomB true k A):Room k A:=⟨r.hd rfl,r.dp,r.un⟩
structure MC (P:ZU)(w:World)(K:FrG)(mg:Str->Option Value)(base:Heap)(k:Nat)(C:Addr)(m:Str)(ps:List Str)(sp:Sp):Prop where
 ex:∃(f:Addr) (fd:UE),FnB P w K mg base true k f fd ps sp/\Meth K C m f/\Binds K fd ps []
 cl:Cls K C
structure MtFn (K:FrG)(C:Addr)(m qual:Str)(st:Stmt):Prop where
 ex:∃(f:Addr) (fd:UE),Fun K m qual st f fd/\Meth K C m f
 cl:Cls K C
theorem MtFn.mc {P:ZU}{w:World}{K:FrG}{mg:Str->Option Value}{base:Heap}{C:Addr}{m a:Str}{st:Stmt}{N ps:List Str}{k:Nat}{sp:Sp}(T:MtFn K C m a st)(q:FnScope N ps (defScope st))
  (hb:∀(kV c d:Value) (e:Option Addr) (cdv ct:Value) (us:List Value),us.length=ps.length->jl (YR m a (defArgs st) (defBody st) (defScope st) .none kV c d e cdv ct) ⟨us,[]⟩=pure (ps.zip us))
  (len:∀vs H Q E,sp vs H Q E->vs.length=ps.length)
  (b:∀(f:Addr) (cdv:Value) (A:XA) (outer:List Env) (s:X1) (H:Hp) (vs:List V) (Q:VK) (E:XK),RoomB true k (A.deeper (ua a (defScope st) s.heap.objs.size f cdv))->sp vs H Q E->
   ∃t,PSs (Cv true P w K mg base N a (defScope st) f cdv A outer s H E).nox (defBody st) t/\t { nx:=λ _ g=>Q .non g,rt:=Q } (start N vs) H):MC P w K mg base (k+1) C m ps sp:=by
 obtain ⟨f,fd,F,hm⟩:=T.ex;obtain ⟨r,u,kV,c,d,e,cdv,ct,p,rfl,l,i⟩:=id F.ex;refine ⟨⟨f,_,Ia l i q len λ A outer s H vs Q E j h=>?_,hm,F.binds hb⟩,T.cl⟩
 obtain ⟨t,n,o⟩:=b f cdv A outer s H vs Q E j h;exact ⟨t,n.nox,o⟩
structure MkC (P:ZU)(w:World)(K:FrG)(mg:Str->Option Value)(base:Heap)(k:Nat)(x:Str)(C:Addr)(ps:List Str)(sp:Sp):Prop where
 ex:∃(f:Addr) (fd:UE),FnB P w K mg base true k f fd ps sp/\Mk K C f/\Binds K fd ps []
 mg:mg x=some (.ref C)
structure MkFn (K:FrG)(mg:Str->Option Value)(x:Str)(C:Addr)(qual:Str)(st:Stmt):Prop where
 ex:∃(f:Addr) (fd:UE),Fun K "__init__" qual st f fd/\Mk K C f
 mg:mg x=some (.ref C)
theorem MkFn.mkc {P:ZU}{w:World}{K:FrG}{mg:Str->Option Value}{base:Heap}{x:Str}{C:Addr}{a:Str}{st:Stmt}{N ps:List Str}{k:Nat}{sp:Sp}(T:MkFn K mg x C a st)(p:FnScope N ps (defScope st))
  (hb:∀(kV c d:Value) (e:Option Addr) (cdv ct:Value) (us:List Value),us.length=ps.length->jl (YR "__init__" a (defArgs st) (defBody st) (defScope st) .none kV c d e cdv ct) ⟨us,[]⟩=pure (ps.zip us))
  (len:∀vs H Q E,sp vs H Q E->vs.length=ps.length)
  (b:∀(f:Addr) (cdv:Value) (A:XA) (outer:List Env) (s:X1) (H:Hp) (vs:List V) (Q:VK) (E:XK),RoomB true k (A.deeper (ua a (defScope st) s.heap.objs.size f cdv))->sp vs H Q E->
   ∃t,PSs (Cv true P w K mg base N a (defScope st) f cdv A outer s H E).nox (defBody st) t/\t { nx:=λ _ g=>Q .non g,rt:=Q } (start N vs) H):MkC P w K mg base (k+1) x C ps sp:=by
 obtain ⟨f,fd,F,hm⟩:=T.ex;obtain ⟨q,r,kV,c,d,e,cdv,ct,o,rfl,l,i⟩:=id F.ex;refine ⟨⟨f,_,Ia l i p len λ A outer s H vs Q E j h=>?_,hm,F.binds hb⟩,T.mg⟩
 obtain ⟨t,m,n⟩:=b f cdv A outer s H vs Q E j h;exact ⟨t,m.nox,n⟩
section
variable {X:Cx}{k:Nat}{C:Addr}{ps:List Str}{sp:Sp}{x m:Str}{p pos apos:Pos}{e o:Expr}{es:List Expr}{ta:TE}{t:TA}
inductive lF (P:ZU)(w:World)(K:FrG)(mg:Str->Option Value)(base:Heap)(k:Nat)(m:Str)(t:TA)(σ:St)(Q:VK)(x:V)(H1:Hp):Prop | mk (a C dx fs ps sp:_) (_:x=.ref a) (_:H1 a=some (.ins C dx fs)) (_:fs.lookup m=none) (_:MC P w K mg base k C m ps sp) (_:t σ H1 λ vs H2=>sp (x::vs) H2 Q E0)
def Y0 (P:ZU)(w:World)(K:FrG)(mg:Str->Option Value)(base:Heap)(k:Nat)(m:Str)(ta:TE)(t:TA):TE:=λ a H Q=>ta a H λ x b=>lF P w K mg base k m t a Q x b
theorem Hu {pl:Sem Bool}(v:PE X o ta)(y:RoomB true k X.A)(ha:PA X (e::es) t)
  (c:YE (e::es) X.env=(false,eval e X.env)::YE es X.env:=by rfl) (d:(Qe pos (YE es X.env)).any (·.1)=false:=by rfl)
  (ht:eval (.Call (.Attribute o m apos) (e::es) [] pos) X.env=(do
   let g <- eval o X.env
   NL apos.atName
   let (f,first) <- Ge [g] (GP g m pl)
   Np pos f first (Qe pos (YE (e::es) X.env)) (Gw pos (xL [] X.env))):=by rfl):
  PE X (.Call (.Attribute o m apos) (e::es) [] pos) (Y0 X.prog X.w X.K X.mg X.base k m ta t):=by
 intro b s i H Q J h;refine zt (pl:=pl) (thn (v b s i H _ J h) λ u z ⟨x,B,j,D,a,C,dx,fs,ps,sp,ex,G,l,M,q⟩=>?_) ht
 subst ex;obtain rfl:u=Yf a:=D;obtain ⟨f,fd,F,hm,hb⟩:=M.ex;refine Ka j G M.cl hm l ?_;refine UX (first:=[.ref a]) (h₀:=X.base) J.ok.mod.kin hm.kp (thn (ha pos b z i B _ j q) λ us L ⟨vs,N,n,r,I⟩=>⟨n.kIn,?_⟩) c d
 exact QC (us:=.ref a::us) (vs:=.ref a::vs) (dvs:=[]) (ds:=[]) (E:=E0) F.ok y.room hb .nil Aw n (.cons rfl r) (by rw [WC];exact I)
theorem AM3 {pl:Sem Bool}(g:PE X o ta)(i:RoomB true k X.A)
  (ht:eval (.Call (.Attribute o m apos) [] [] pos) X.env=(do
   let d <- eval o X.env
   NL apos.atName
   let (f,first) <- Ge [d] (GP d m pl)
   Np pos f first (Qe pos (YE [] X.env)) (Gw pos (xL [] X.env))):=by rfl):
  PE X (.Call (.Attribute o m apos) [] [] pos) (Y0 X.prog X.w X.K X.mg X.base k m ta tNil):=by
 intro b s j H Q v h;refine zt (pl:=pl) (thn (g b s j H _ v h) λ u y ⟨x,z,c,n,a,C,dx,fs,ps,sp,ex,r,l,M,q⟩=>?_) ht
 subst ex;obtain rfl:u=Yf a:=n;obtain ⟨f,fd,F,hm,hb⟩:=M.ex;refine Ka c r M.cl hm l ?_;exact jM (first:=[.ref a]) c.kIn hm.kp (QC (us:=[.ref a]) (vs:=[.ref a]) (dvs:=[]) (ds:=[]) (E:=E0) F.ok i.room hb .nil Aw c (.cons rfl .nil) q)
theorem Q9 (M:MkC X.prog X.w X.K X.mg X.base k x C ps sp)(c:RoomB true (k+1) X.A)(ha:PA X (e::es) t)(d:Gl X x:=by rfl)(a:(x == ("__debug__":Str))=false:=by decide)
  (g:YE (e::es) X.env=(false,eval e X.env)::YE es X.env:=by rfl) (b:(Qe pos (YE es X.env)).any (·.1)=false:=by rfl):
  PE X (.Call (.Name x p) (e::es) [] pos) (tMake C sp [] E0 t):=by
 obtain ⟨f,fd,F,hm,hb⟩:=M.ex;exact zR hm F.ok c.room d M.mg hb .nil Aw ha a g b
theorem Ei {f:Str}(a:PE X e ta)(hb:wc e f X.env (eval e X.env)=eval e X.env:=by rfl):PE X (.Attribute e f pos) (tFld X.K ta f):=uL a hb
theorem Hy {f:Str}{b:Pos}{a:Expr}{c:TE}(ha:PE X o ta)(d:PE X a c)(g:xz a (some (.Attribute o f b)) pos.line X.env=pure false:=by rfl):PS X (.Assign [.Attribute o f b] a pos) (sFld X.K ta c f):=qd ha d g
end
end L2
namespace Fr
theorem dY {r:Rat}{t b:Int}(h:b≠0)(e:r=XZ t b):r.num.natAbs<=t.natAbs/\r.den<=b.natAbs:=by
 subst e;have a:=zL t b h;have c:=jt (t:=t) h;rw [Mm h] at a;rw [R8 h,QI] at c;exact ⟨a,c⟩
structure Bd (k:Nat)(q:Rat):Prop where
 n:q.num.natAbs < 2 ^ k
 d:q.den < 2 ^ k
theorem FQ {m n:Nat}(h:m<=n):2 ^ m<=2 ^ n:=Fa ⋯ h
theorem Bd.mono {m n:Nat}{q:Rat}(h:Bd m q)(le:m<=n):Bd n q:=⟨Zu h.n (FQ le),Zu h.d (FQ le)⟩
theorem Bd.neg {n:Nat}{q:Rat}(h:Bd n q):Bd n (-q):=⟨by rw [Rat.neg_num,Int.natAbs_neg];exact h.n,by rw [Rat.neg_den];exact h.d⟩
theorem Bd.of {n:Nat}{t b:Int}(a:b≠0)(ht:t.natAbs < 2 ^ n)(hb:b.natAbs < 2 ^ n):Bd n (XZ t b):=by
 obtain ⟨c,d⟩:=dY a (rfl:XZ t b=XZ t b);exact ⟨by omega,by omega⟩
theorem XD {a b m n:Nat}(ha:a < 2 ^ m)(hb:b < 2 ^ n):a * b < 2 ^ (m+n):=by
 rw [Nat.pow_add];exact Nat.mul_lt_mul'' ha hb
theorem FN {x y:Int}{m n:Nat}(a:x.natAbs < 2 ^ m)(b:y.natAbs < 2 ^ n):(x * y).natAbs < 2 ^ (m+n):=by
 rw [Gb];exact XD a b
theorem Yi {x y:Int}{n:Nat}(a:x.natAbs < 2 ^ n)(b:y.natAbs < 2 ^ n):(x+y).natAbs < 2 ^ (n+1):=by
 have:=Int.natAbs_add_le x y;rw [CI];omega
theorem jB {x y:Int}{n:Nat}(a:x.natAbs < 2 ^ n)(b:y.natAbs < 2 ^ n):(x - y).natAbs < 2 ^ (n+1):=by
 rw [CI];omega
theorem Bd.dn {n:Nat}{q:Rat}(h:Bd n q):((q.den:Int)).natAbs < 2 ^ n:=by rw [QI];exact h.d
theorem Ti (p q:Rat):(p.den:Int) * (q.den:Int)≠0:=BE (HN p) (HN q)
section
variable {m n:Nat}{p q:Rat}(hp:Bd m p)(hq:Bd n q)
include hp hq
theorem Bd.add:Bd (m+n+1) (p+q):=by
 rw [<- WW];refine Bd.of (Ti p q) (Yi (FN hp.n hq.dn) ?_) (Zu (FN hp.dn hq.dn) (FQ ∅))
 have:=FN hq.n hp.dn;rw [qV m n];exact this
theorem Bd.sub:Bd (m+n+1) (p - q):=by
 rw [<- fK];refine Bd.of (Ti p q) (jB (FN hp.n hq.dn) ?_) (Zu (FN hp.dn hq.dn) (FQ ∅))
 have:=FN hq.n hp.dn;rw [qV m n];exact this
theorem Bd.mul:Bd (m+n) (p * q):=by
 rw [<- aU];exact Bd.of (Ti p q) (FN hp.n hq.n) (FN hp.dn hq.dn)
end
structure Rb (n:Nat)(y u:Rat):Prop where
 ex:∃(Y U:Int) (N:Nat),N≠0/\N < 2 ^ n/\Y.natAbs < 2 ^ n/\U.natAbs < 2 ^ n/\y=XZ Y N/\u=XZ U N
theorem Rb.mono {m n:Nat}{y u:Rat}(h:Rb m y u)(le:m<=n):Rb n y u:=by
 obtain ⟨d,U,N,a,hn,e,f,b,c⟩:=h.ex;have:=FQ le;exact ⟨d,U,N,a,by omega,by omega,by omega,b,c⟩
theorem Rb.y {n:Nat}{y u:Rat}(h:Rb n y u):Bd n y:=by
 obtain ⟨f,U,N,c,hn,a,d,b,e⟩:=h.ex;rw [b];exact Bd.of ∅ a ∅
theorem Rb.u {n:Nat}{y u:Rat}(h:Rb n y u):Bd n u:=by
 obtain ⟨f,U,N,c,hn,d,a,e,b⟩:=h.ex;rw [b];exact Bd.of ∅ a ∅
theorem pU (b U dn:Int)(N dd:Int)(a:N≠0)(c:dd≠0):XZ b N+XZ dn dd * XZ U N=XZ (b * dd+dn * U) (N * dd):=by
 rw [BI,BH _ _ a (BE c a)];rw [show b * (dd * N)+dn * U * N=(b * dd+dn * U) * N by rw [Int.add_mul,Int.mul_assoc b],show N * (dd * N)=(N * dd) * N by rw [Int.mul_assoc],Rat.divInt_mul_right a]
theorem uv (b dd N:Int)(c:N≠0)(a:dd≠0):XZ b N=XZ (b * dd) (N * dd):=(Rat.divInt_mul_right a).symm
theorem Rb.gap {n m:Nat}{y u d:Rat}(h:Rb n y u)(hd:Bd m d):Rb (n+m+1) (y+d * u) u:=by
 obtain ⟨i,U,N,e,hn,f,a,g,b⟩:=h.ex;have c:(N:Int)≠0:=by omega
 refine ⟨i * (d.den:Int)+d.num * U,U * (d.den:Int),N * d.den,Nat.mul_ne_zero e d.den_nz,Zu (XD hn hd.d) (FQ ∅),Yi (FN f hd.dn) ?_,Zu (FN a hd.dn) (FQ ∅),?_,?_⟩
 ·have:=FN hd.n a;rw [qV n m];exact this
 ·have:=pU i U d.num N (d.den:Int) c (HN d);rw [Ih,<- g,<- b] at this;rw [this];simp
 ·rw [b,uv U (d.den:Int) N c (HN d)];simp
theorem Rb.swap {n:Nat}{y u:Rat}(h:Rb n y u):Rb n u y:=by
 obtain ⟨f,U,N,a,hn,b,c,d,e⟩:=h.ex;exact ⟨U,f,N,a,hn,c,b,e,d⟩
theorem Rb.glass {n m:Nat}{y u d:Rat}(h:Rb n y u)(hd:Bd m d):Rb (n+m+1) y (u - d * y):=by
 have:=(h.swap.gap hd.neg).swap;rw [show u - d * y=u+-d * y by rw [Rat.neg_mul,Rat.sub_eq_add_neg]]
 exact this
end Fr
namespace Op
open Fr
inductive Pc where
 | gap (d:Rat)
 | glass (p:Rat)
 | stop (lo hi:Rat)
abbrev DK:=Rat×Rat
def Pc.lets:Pc->DK->Bool
 | .stop lo hi,r=>!decide (r.1 < lo) && !decide (hi < r.1)
 | _,_=>true
def Pc.bent:Pc->DK->DK
 | .gap d,r=>(r.1+d * r.2,r.2)
 | .glass p,r=>(r.1,r.2 - p * r.1)
 | .stop _ _,r=>r
def Pc.ok:Pc->Prop
 | .stop lo hi=>¬ hi < lo
 | _=>True
def Pc.bd (m:Nat):Pc->Prop
 | .gap d=>Bd m d
 | .glass p=>Bd m p
 | .stop lo hi=>Bd m lo/\Bd m hi
abbrev RB (n:Nat)(r:DK):Prop:=Rb n r.1 r.2
theorem fX {n m:Nat}{r:DK}:∀{p:Pc},p.bd m->RB n r->RB (n+m+1) (p.bent r)
 | .gap _,b,h=>Rb.gap h b
 | .glass _,b,h=>Rb.glass h b
 | .stop _ _,_,h=>Rb.mono h ∅
end Op
namespace Lib
open PySem L2 Fr Op
def Av (q:Rat):Xt:=.tuple [.int q.num,.int (q.den:Int)]
def Df (r:DK):Xt:=.tuple [Av r.1,Av r.2]
def CK:Pc->Xt
 | .gap d=>.tuple [.str "gap",Av d]
 | .glass p=>.tuple [.str "glass",Av p]
 | .stop lo hi=>.tuple [.str "stop",Av lo,Av hi]
def Hf (ps:List Pc):Xt:=.list (ps.map CK)
section
variable {K:FrG}{H:Hp}{v:V}
theorem _root_.L2.DV.fr {q:Rat}(h:DV K H v (Av q)):∃a,v=.ref a/\SqT K H a [.int q.num,.int (q.den:Int)]:=by
 obtain ⟨a,x,y,rfl,ha,b,c⟩:=DV.t2 h;rw [b.int_of,c.int_of] at ha;exact ⟨a,rfl,ha⟩
theorem n8 {q:Rat}{a:Addr}(h:SqT K H a [.int q.num,.int (q.den:Int)]):DV K H (.ref a) (Av q):=.tup h (.cons (.int _) (.cons (.int _) .nil))
theorem Jf {t b:Int}{p:Addr}(a:b≠0):DV K (upd H p (.tup [.int (Fr.lt t b),.int (Fr.lb t b)])) (.ref p) (Av (XZ t b)):=by
 rw [jC a];exact n8 (SqT.of Ag)
end
theorem _root_.Fr.Bd.sm {n:Nat}{q:Rat}(h:Bd n q)(hn:n<=4000):Sm q:=⟨Zu h.n (by unfold Cw;exact FQ hn),Zu h.d (by unfold Cw;exact FQ hn)⟩
mutual
def Gs:Xt->Bool
 | .list _=>false
 | .dict _=>false
 | .tuple ds=>Ig ds
 | .none=>true
 | .bool _=>true
 | .int _=>true
 | .str _=>true
def Ig:List Xt->Bool
 | []=>true
 | d::ds=>Gs d && Ig ds
end
def Er (H a:Hp):Prop:=∀b xs,(H b=some (.tup xs)->a b=some (.tup xs))/\∀o,H b=some (.frz o (.tup xs))->a b=some (.frz o (.tup xs))
theorem _root_.L2.Same.t {H a:Hp}(s:Same H a):Er H a:=λ b xs=>⟨λ h=>s _ _ h,λ o h=>s _ _ h⟩
theorem R6 {H:Hp}{l:Addr}{xs:List V}(h:H l=some (.lst xs))(o:HO):Er H (upd H l o):=λ b a=>⟨λ e=>by rw [Al (λ z=>by rw [z,h] at e;cases e)];exact e,λ o e=>by rw [Al (λ z=>by rw [z,h] at e;cases e)];exact e⟩
mutual
theorem Gy {K:FrG}{H a:Hp}(s:Er H a):∀{v:V} {d:Xt},Gs d=true->DV K H v d->DV K a v d
 | _,_,_,.non=>.non
 | _,_,_,.bl b=>.bl b
 | _,_,_,.int i=>.int i
 | _,_,_,.str x=>.str x
 | _,_,n,.lst h q=>nomatch n
 | _,_,n,.tup h q=>.tup (by
   rcases h with (h | ⟨o,h⟩) | h
   ·exact .inl (.inl ((s _ _).1 h))
   ·exact .inl (.inr ⟨o,(s _ _).2 o h⟩)
   ·exact .inr h) (HQ s n q)
 | _,_,n,.dct h=>nomatch n
theorem HQ {K:FrG}{H a:Hp}(s:Er H a):∀{vs:List V} {ds:List Xt},Ig ds=true->DVs K H vs ds->DVs K a vs ds
 | _,_,_,.nil=>.nil
 | _,_,n,.cons h q=>.cons (Gy s (by rw [Ig] at n;exact (QR.mp n).1) h) (HQ s (by rw [Ig] at n;exact (QR.mp n).2) q)
end
theorem Il {a:Type}{f:a->Xt}(h:∀x,Gs (f x)=true):∀l:List a,Ig (l.map f)=true
 | []=>rfl
 | x::l=>by rw [YY,Ig,h x,Il h l];rfl
theorem cN (r:DK):Gs (Df r)=true:=rfl
theorem IV:∀p:Pc,Gs (CK p)=true
 | .gap _=>rfl
 | .glass _=>rfl
 | .stop _ _=>rfl
inductive PR (K:FrG)(R:List Xt->Xt->Prop)(vs:List V)(H:Hp)(Q:VK)(z3:XK):Prop | mk (ds d:_) (_:DVs K H vs ds) (_:R ds d) (_:∀v H',Same H H'->DV K H' v d->Q v H')
def Jy (a:Rat->Rat->Rat):List Xt->Xt->Prop:=λ ds d=>∃p q,ds=[Av p,Av q]/\Sm p/\Sm q/\d=Av (a p q)
def cR:List Xt->Xt->Prop:=λ ds d=>∃p q,ds=[Av p,Av q]/\Sm p/\Sm q/\d=.bool (decide (p < q))
theorem DV.upd2 {K:FrG}{H:Hp}{r:Addr}{x y:V}{a b:Xt}(c:H r=none)(d:DV K H x a)(e:DV K H y b):DV K (upd H r (.tup [x,y])) (.ref r) (.tuple [a,b]):=
 .tup (SqT.of Ag) (.cons (d.keep (Ah c _)) (.cons (e.keep (Ah c _)) .nil))
theorem DV.upd3 {K:FrG}{H:Hp}{r:Addr}{x y z:V}{b c d:Xt}(a:H r=none)(e:DV K H x b)(f:DV K H y c)(g:DV K H z d):DV K (upd H r (.tup [x,y,z])) (.ref r) (.tuple [b,c,d]):=
 .tup (SqT.of Ag) (.cons (e.keep (Ah a _)) (.cons (f.keep (Ah a _)) (.cons (g.keep (Ah a _)) .nil)))
def Cp:Xt->Bool
 | .tuple [.int t,.int b]=>decide (1<=b) && decide (Fr.gcd t b=1)
 | _=>false
theorem KC (q:Rat):Cp (Av q)=true:=by
 show (decide (1<=(q.den:Int)) && decide (Fr.gcd q.num (q.den:Int)=1))=true;rw [ζ (by have:=KY q;omega),ζ (T5 q)]
 rfl
theorem gZ {d:Xt}(h:Cp d=true):∃q:Rat,d=Av q:=by
 unfold Cp at h
 split at h
 ·rename_i t b
  obtain ⟨a,c⟩:=QR.mp h;obtain ⟨q,rfl,rfl⟩:=X8 (of_decide_eq_true a) (of_decide_eq_true c);exact ⟨q,rfl⟩
 ·cases h
def Fy:Xt->Bool
 | .int _=>true
 | _=>false
def JC:Xt->Bool
 | .tuple _=>true
 | _=>false
theorem Xv {d:Xt}(h:Fy d=true):∃i,d=.int i:=by
 cases d with
 | int i=>exact ⟨i,rfl⟩
 | _=>cases h
theorem dW {d:Xt}(h:JC d=true):∃ds,d=.tuple ds:=by
 cases d with
 | tuple ds=>exact ⟨ds,rfl⟩
 | _=>cases h
theorem mW (d:Xt):∃b c,Bp (JB d) "int"=some b/\Bp (JB d) "bool"=some c/\(b && !c)=Fy d:=by
 cases d with
 | none=>exact ⟨false,false,by show Bp "NoneType" "int"=_;decide+kernel,by show Bp "NoneType" "bool"=_;decide+kernel,rfl⟩
 | bool b=>exact ⟨true,true,by show Bp "bool" "int"=_;decide+kernel,by show Bp "bool" "bool"=_;decide+kernel,rfl⟩
 | int i=>exact ⟨true,false,by show Bp "int" "int"=_;decide+kernel,by show Bp "int" "bool"=_;decide+kernel,rfl⟩
 | str x=>exact ⟨false,false,by show Bp "str" "int"=_;decide+kernel,by show Bp "str" "bool"=_;decide+kernel,rfl⟩
 | list xs=>exact ⟨false,false,by show Bp "list" "int"=_;decide+kernel,by show Bp "list" "bool"=_;decide+kernel,rfl⟩
 | tuple xs=>exact ⟨false,false,by show Bp "tuple" "int"=_;decide+kernel,by show Bp "tuple" "bool"=_;decide+kernel,rfl⟩
 | dict xs=>exact ⟨false,false,by show Bp "dict" "int"=_;decide+kernel,by show Bp "dict" "bool"=_;decide+kernel,rfl⟩
theorem Kc (d:Xt):Bp (JB d) "tuple"=some (JC d):=by
 cases d with
 | none=>show Bp "NoneType" "tuple"=some false;decide+kernel
 | bool b=>show Bp "bool" "tuple"=some false;decide+kernel
 | int i=>show Bp "int" "tuple"=some false;decide+kernel
 | str x=>show Bp "str" "tuple"=some false;decide+kernel
 | list xs=>show Bp "list" "tuple"=some false;decide+kernel
 | tuple xs=>show Bp "tuple" "tuple"=some true;decide+kernel
 | dict xs=>show Bp "dict" "tuple"=some false;decide+kernel
def AJ1:Xt->Bool
 | .list _=>true
 | _=>false
theorem YH (d:Xt):Bp (JB d) "list"=some (AJ1 d):=by
 cases d with
 | none=>show Bp "NoneType" "list"=some false;decide+kernel
 | bool b=>show Bp "bool" "list"=some false;decide+kernel
 | int i=>show Bp "int" "list"=some false;decide+kernel
 | str x=>show Bp "str" "list"=some false;decide+kernel
 | list xs=>show Bp "list" "list"=some true;decide+kernel
 | tuple xs=>show Bp "tuple" "list"=some false;decide+kernel
 | dict xs=>show Bp "dict" "list"=some false;decide+kernel
def JT:Xt->Bool
 | .str _=>true
 | _=>false
theorem Xg {d:Xt}(h:JT d=true):∃x,d=.str x:=by
 cases d with
 | str i=>exact ⟨i,rfl⟩
 | _=>cases h
theorem Hd (d:Xt):Bp (JB d) "str"=some (JT d):=by
 cases d with
 | none=>show Bp "NoneType" "str"=some false;decide+kernel
 | bool b=>show Bp "bool" "str"=some false;decide+kernel
 | int i=>show Bp "int" "str"=some false;decide+kernel
 | str x=>show Bp "str" "str"=some true;decide+kernel
 | list xs=>show Bp "list" "str"=some false;decide+kernel
 | tuple xs=>show Bp "tuple" "str"=some false;decide+kernel
 | dict xs=>show Bp "dict" "str"=some false;decide+kernel
theorem wg {d:Xt}(h:JC d=false):Cp d=false:=by
 cases d with
 | tuple ds=>cases h
 | _=>rfl
theorem sW {ds:List Xt}(h:¬ ds.length=2):Cp (.tuple ds)=false:=by
 unfold Cp
 split
 ·rename_i t b e
  cases e
  exact absurd rfl h
 ·rfl
theorem bD {a c:Xt}(h:Fy a=false\/Fy c=false):Cp (.tuple [a,c])=false:=by
 unfold Cp
 split
 ·rename_i t b e
  cases e
  rcases h with h | h<;>cases h
 ·rfl
inductive iT (K:FrG)(vs:List V)(H:Hp)(Q:VK)(z3:XK):Prop | mk (v d:_) (_:vs=[v]) (_:DV K H v d) (_:Q (.bl (Fy d)) H)
inductive pY (K:FrG)(vs:List V)(H:Hp)(Q:VK)(z3:XK):Prop | mk (v d:_) (_:vs=[v]) (_:DV K H v d) (_:Q (.bl (Cp d)) H)
theorem Bm {b:Bool}{A B:Prop}(hb:b=true)(h:A):if b=true then A else B:=by rw [if_pos hb];exact h
theorem BP {b:Bool}{A B:Prop}(hb:b=false)(h:B):if b=true then A else B:=by rw [if_neg (by rw [hb];exact ZL)];exact h
theorem K7 (n d:Nat):HT.sIx n d (some 1)=min 1 n:=HT.Im n d 1
theorem Oq (xs:List V):cutV xs (some 1) none=xs.drop 1:=by
 unfold cutV;rw [K7,HT.VM];cases xs with
 | nil=>rfl
 | cons x r=>
  rw [show min 1 (x::r).length=1 by simp only [W6];omega]
  exact zd (by simp)
theorem Bg (x y:Str):decide (V.str x=V.str y)=decide (x=y):=by
 by_cases h:x=y
 ·subst h;simp
 ·have:¬ V.str x=V.str y:=λ z=>h (V.str.inj z)
  rw [η h,η this]
def Gh:List Xt->Bool
 | [.tuple [.int a,.int b],.tuple [.int c,.int d]]=>!decide (c * b < a * d)
 | _=>false
def Ft:Xt->Bool
 | .tuple (.str w::d1::ds)=>(d1::ds).all Cp && (if w="stop" then Gh (d1::ds) else (decide (w="gap") || decide (w="glass")) && ds.isEmpty)
 | _=>false
def aY (d:Xt):Prop:=∀ds,d=.tuple ds->ds.length<=1000/\∀q,Av q∈ds->Sm q
inductive oM (K:FrG)(vs:List V)(H:Hp)(Q:VK)(z3:XK):Prop | mk (v d:_) (_:vs=[v]) (_:DV K H v d) (_:aY d) (_:∀H',Same H H'->Q (.bl (Ft d)) H')
theorem Xa {p q:Rat}(h:Av p=Av q):p=q:=by
 unfold Av at h
 injection h with h
 injection h with b a
 injection b with b
 injection a with a _
 injection a with a
 exact Rat.ext b (Int.ofNat.inj a)
theorem VH (lo hi:Rat):Gh [Av lo,Av hi]=!decide (hi < lo):=by
 show (!decide (hi.num * (lo.den:Int) < lo.num * (hi.den:Int)))=_;rw [decide_eq_decide.mpr (Fr.Qn hi lo)]
theorem vQ:∀{p:Pc},p.ok->Ft (CK p)=true
 | .gap d,_=>by
  show ([Av d].all Cp && (if ("gap":Str)="stop" then _ else _))=true
  rw [xW,KC,if_neg ⋯]
  rfl
 | .glass d,_=>by
  show ([Av d].all Cp && (if ("glass":Str)="stop" then _ else _))=true
  rw [xW,KC,if_neg ⋯]
  rfl
 | .stop lo hi,h=>by
  show ([Av lo,Av hi].all Cp && (if ("stop":Str)="stop" then Gh [Av lo,Av hi] else _))=true
  rw [xW,xW,KC,KC,if_pos rfl,VH,η h];rfl
inductive ObAt (K:FrG)(CG CL CS:Addr)(H:Hp):V->Pc->Prop
 | gap {a dx:Addr} {x:V} {d:Rat}:H a=some (.ins CG dx [("length",x)])->DV K H x (Av d)->ObAt K CG CL CS H (.ref a) (.gap d)
 | glass {a dx:Addr} {x:V} {d:Rat}:H a=some (.ins CL dx [("strength",x)])->DV K H x (Av d)->ObAt K CG CL CS H (.ref a) (.glass d)
 | stop {a dx:Addr} {x y:V} {lo hi:Rat}:H a=some (.ins CS dx [("low",x),("high",y)])->DV K H x (Av lo)->DV K H y (Av hi)->ObAt K CG CL CS H (.ref a) (.stop lo hi)
theorem ObAt.keep {K:FrG}{a b c:Addr}{H d:Hp}(s:Same H d):∀{v:V} {p:Pc},ObAt K a b c H v p->ObAt K a b c d v p
 | _,_,.gap h x=>.gap (s _ _ h) (x.keep s)
 | _,_,.glass h x=>.glass (s _ _ h) (x.keep s)
 | _,_,.stop h x y=>.stop (s _ _ h) (x.keep s) (y.keep s)
inductive dU (C:Addr)(f:Str)(vs:List V)(H:Hp)(Q:VK)(z3:XK):Prop | mk (a dx x:_) (_:vs=[.ref a,x]) (_:H a=some (.ins C dx [])) (_:Q .non (upd H a (.ins C dx [(f,x)])))
inductive kI (C:Addr)(f g:Str)(vs:List V)(H:Hp)(Q:VK)(z3:XK):Prop | mk (a dx x y:_) (_:vs=[.ref a,x,y]) (_:H a=some (.ins C dx [])) (_:Q .non (upd H a (.ins C dx [(f,x),(g,y)])))
inductive uI (vs:List V)(H:Hp)(Q:VK)(z3:XK):Prop | mk (x y:_) (_:vs=[x,y]) (_:Q y H)
inductive ak (K:FrG)(CG CL CS:Addr)(R:Pc->DK->Xt)(C:Pc->Prop)(vs:List V)(H:Hp)(Q:VK)(z3:XK):Prop | mk (o y:V) (p:Pc) (r:DK) (n m:Nat) (_:vs=[o,y]) (_:C p) (_:ObAt K CG CL CS H o p) (_:DV K H y (Df r)) (_:RB n r) (_:p.bd m) (_:n+m<=3900) (_:∀v H',Same H H'->DV K H' v (R p r)->Q v H')
def AQ1:Pc->Prop
 | .gap _=>True
 | _=>False
def lg:Pc->Prop
 | .glass _=>True
 | _=>False
inductive mH (K:FrG)(CG CL CS:Addr)(vs:List V)(H:Hp)(Q:VK)(z3:XK):Prop | mk (v p:_) (_:vs=[v]) (_:DV K H v (CK p)) (_:∀a H',Same H H'->ObAt K CG CL CS H' (.ref a) p->Q (.ref a) H')
structure Good (m:Nat)(ps:List Pc):Prop where
 len:ps.length<=60
 ok:∀p∈ps,p.ok
 bd:∀p∈ps,p.bd m
inductive qQ (K:FrG)(vs:List V)(H:Hp)(Q:VK)(z3:XK):Prop | mk (v ps m:_) (_:vs=[v]) (_:DV K H v (Hf ps)) (_:Good m ps) (_:m<=4000) (_:∀H',Same H H'->Q .non H')
theorem Mg {ps:List Pc}{i:Nat}{d:Xt}(h:(ps.map CK)[i]?=some d):∃p,ps[i]?=some p/\d=CK p:=by
 rw [YN] at h;cases e:ps[i]? with
 | none=>rw [e] at h;cases h
 | some p=>rw [e] at h;exact ⟨p,rfl,(Ux h).symm⟩
theorem rA (xs:List V)(lo hi:Nat):(cutV xs (some (lo:Int)) (some (hi:Int))).length<=hi - lo:=by
 unfold cutV;rw [HT.Im,HT.Im,WS];omega
theorem AJ0 (xs:List V)(hi:Nat):(cutV xs none (some (hi:Int))).length<=hi:=by
 unfold cutV;rw [HT.Im,HT.VM,WS];omega
theorem AR2 (q:Rat):Av (-q)=.tuple [.int (0 - q.num),.int (q.den:Int)]:=by
 unfold Av;rw [Rat.neg_num,Rat.neg_den,CH]
theorem Xz (z:Str):(if false=true then !inV (.str z) [.str "gap",.str "glass"] else inV (.str z) [.str "gap",.str "glass"])=(decide (z="gap") || decide (z="glass")):=by
 rw [if_neg ZL];unfold inV;simp only [qa,List.any_nil,Bool.or_false];have h:∀w:Str,eqV (.str w) (.str z)=decide (z=w):=λ w=>by
  show decide (w=z)=decide (z=w);exact decide_eq_decide.mpr ⟨Eq.symm,Eq.symm⟩
 rw [h,h]
theorem Dv {x:V}{xs:List V}:atI (x::xs) 0=some x:=Ba (j:=0) rfl
end Lib
namespace Op
open Fr
end Op
namespace Lib
open PySem L2 Fr Op
end Lib
namespace Op
open Fr
def Ck (ps:List Pc)(r:DK):DK:=ps.foldl (λ r p=>p.bent r) r
end Op
namespace Lib
open PySem L2 Fr Op
end Lib
namespace L2
open PySem PySem.Spec PyProof.Rows
theorem zc (env:Env):∀(l:List (Str×xl)) (b:List (Str×Addr)),(∀y∈l,y.2=.free->∃c,env.cells.lookup y.1=some c)->
  ∃cl,(forIn l b λ (x:Str×xl) (p:List (Str×Addr))=>(if (x.2 == GV)=true then (cellOf env x.1 >>= λ a=>pure (QD ((x.1,a)::p))) else pure (QD p):Sem (ForInStep (List (Str×Addr)))))=pure cl/\
   (∀y c,cl.lookup y=some c->b.lookup y=some c\/env.cells.lookup y=some c)/\(∀y c,b.lookup y=some c->∃g,cl.lookup y=some g)/\∀y∈l,y.2=.free->∃c,cl.lookup y.1=some c:=by
 intro l
 induction l with
 | nil=>intro b _;exact ⟨b,rfl,λ y c e=>.inl e,λ y c e=>⟨c,e⟩,λ _ h=>nomatch h⟩
 | cons x r q=>
  intro b h;obtain ⟨n,k⟩:=x;have s:∀y∈r,y.2=.free->∃c,env.cells.lookup y.1=some c:=λ y d=>h y (ZX _ d)
  rw [zl];by_cases j:k=.free
  ·subst j;obtain ⟨c,t⟩:=h (n,.free) YV rfl;have u:cellOf env n=pure c:=by unfold cellOf;rw [show env.cells.lookup n=some c from t]
   rw [if_pos (by rfl),u,pure_bind,pure_bind]
   obtain ⟨cl,e,m,i,o⟩:=q ((n,c)::b) s;refine ⟨cl,e,λ y g d=>?_,λ y g d=>?_,λ y d hf=>?_⟩
   ·rcases m y g d with z | z
    ·rw [Ml] at z
     split at z
     ·rename_i f
      have f:y=n:=by simpa using f
      subst f;cases z
      exact .inr t
     ·exact .inl z
    ·exact .inr z
   ·by_cases f:y=n
    ·subst f;exact i y c (by simp)
    ·have v:(y == n)=false:=by simpa using f
     exact i y g (by rw [Ml,v];exact d)
   ·rcases ZN.mp d with z | z
    ·subst z;exact i n c (by simp)
    ·exact o y z hf
  ·have hb:¬ (k == GV)=true:=by simpa using j
   rw [if_neg hb,pure_bind];obtain ⟨cl,e,m,i,o⟩:=q b s;refine ⟨cl,e,m,i,λ y d hf=>?_⟩
   rcases ZN.mp d with z | z
   ·subst z;exact absurd hf j
   ·exact o y z hf
theorem vK {X:Cx}{a:Scope}(hcell:∀y∈a.names,y.2≠.cell)(hf:∀y∈a.names,y.2=.free->∃c,X.env.cells.lookup y.1=some c):∃cl,CapOk X a cl:=by
 obtain ⟨cl,e,h,p,i⟩:=zc X.env a.names [] hf;refine ⟨cl,?_,λ y c d=>?_,λ y d=>?_⟩
 ·unfold closureFor;rw [show (pure cl:Sem _)=(pure cl >>= λ j=>pure j) by rw [pure_bind],<- e]
 ·rcases h y c d with z | z
  ·simp at z
  ·exact z
 ·have hm:∃k,(y,k)∈(ur a X.env).names/\(k=.cell\/k=.free):=by
   rcases d with z | z
   ·exact ⟨_,JA z,.inl rfl⟩
   ·exact ⟨_,JA z,.inr rfl⟩
  obtain ⟨k,hm,l⟩:=hm;unfold ur at hm;obtain ⟨⟨n,f⟩,hn,b⟩:=UG.mp hm;have g:f=.free:=by
   by_cases z:f=.free
   ·exact z
   ·have m:(f == GV)=false:=by simpa using z
    simp only [m,wi,zy,if_false,Prod.mk.injEq] at b;obtain ⟨_,rfl⟩:=b;rcases l with rfl | rfl
    ·exact absurd rfl (hcell _ hn)
    ·exact absurd rfl z
  subst g;have o:n=y:=by
   dsimp only at b
   split at b
   ·exact (Prod.mk.inj b).1
   ·exact (Prod.mk.inj b).1
  subst o;exact i _ hn rfl
theorem ug {X:Cx}{a:Scope}{n:Nat}(b:X.env.cells=zC n X.env.scope.names []:=by rfl)(hcell:∀y∈a.names,y.2≠.cell)(hf:∀y∈a.names,y.2=.free->X.env.scope.names.lookup y.1=some .cell):∃cl,CapOk X a cl:=
 vK hcell λ y c d=>by
  rw [b];exact QZ (hf y c d)
end L2
namespace Lib
open PySem L2 Fr Op
inductive AH3 (K:FrG)(vs:List V)(H:Hp)(Q:VK)(z3:XK):Prop | mk (v q:_) (_:vs=[v]) (_:DV K H v (Av q)) (_:Q (.bl true) H)
inductive rG (K:FrG)(vs:List V)(H:Hp)(Q:VK)(z3:XK):Prop | mk (v:V) (p:Pc) (m:Nat) (_:vs=[v]) (_:DV K H v (CK p)) (_:p.ok) (_:p.bd m) (_:m<=4000) (_:∀H',Same H H'->Q (.bl true) H')
inductive PSh (m:Nat):Str->List Rat->Prop where
 | stop {lo hi:Rat}:¬ hi < lo->Bd m lo->Bd m hi->PSh m "stop" [lo,hi]
 | one {w:Str} {d:Rat}:decide (w="stop")=false->(decide (w="gap") || decide (w="glass"))=true->PSh m w [d]
theorem pI {m:Nat}:∀{p:Pc},p.ok->p.bd m->∃w a,CK p=.tuple (.str w::a.map Av)/\PSh m w a
 | .gap d,_,_=>⟨"gap",[d],rfl,.one ⋯ ⋯⟩
 | .glass d,_,_=>⟨"glass",[d],rfl,.one ⋯ ⋯⟩
 | .stop lo hi,h,b=>⟨"stop",[lo,hi],rfl,.stop h b.1 b.2⟩
theorem PSh.len {m:Nat}{w:Str}{a:List Rat}:PSh m w a->0 < a.length/\a.length<=2
 | .stop ..=>⟨by simp,by simp⟩
 | .one ..=>⟨by simp,by simp⟩
theorem iZ (n:Nat):(YO n true).all id=true:=by simp
theorem jL (n:Nat):(YO n true).map V.bl=YO n (V.bl true):=by simp
theorem q8 {a:List Rat}{i:Nat}{d:Xt}(h:(a.map Av)[i]?=some d):∃q,d=Av q:=by
 rw [YN] at h;cases e:a[i]? with
 | none=>rw [e] at h;cases h
 | some q=>rw [e] at h;cases h;exact ⟨q,rfl⟩
end Lib
namespace Op
open Fr
def e1:DK:=(1,0)
def e2:DK:=(0,1)
theorem qx (ps qs:List Pc)(r:DK):Ck (ps++qs) r=Ck qs (Ck ps r):=List.foldl_append ..
end Op
namespace Lib
open PySem L2 Fr Op
theorem v4 {n i m k:Nat}(h:n+k * (m+1)+m<=3900)(hi:i < k):n+i * (m+1)+m<=3900:=by
 have:i * (m+1)<=k * (m+1):=QU _ (UU hi);omega
theorem OJ {n m:Nat}(h:n+m<=3900):n<=4000:=by omega
theorem cF {n m:Nat}(h:n+m<=3900):m<=4000:=by omega
theorem Z7 {n m:Nat}(h:n+m<=3900):m+n<=4000:=by omega
theorem Br {b:Type}{p:List b->Prop}(h:∀a,p [a]):∀us:List b,us.length=1->p us
 | [_],_=>h _
theorem Bf {c:Type}{p:List c->Prop}(h:∀a b,p [a,b]):∀us:List c,us.length=2->p us
 | [_,_],_=>h _ _
theorem Ht {d:Type}{p:List d->Prop}(h:∀a b c,p [a,b,c]):∀us:List d,us.length=3->p us
 | [_,_,_],_=>h _ _ _
theorem by4 {e:Type}{p:List e->Prop}(h:∀a b c d,p [a,b,c,d]):∀us:List e,us.length=4->p us
 | [_,_,_,_],_=>h _ _ _ _
theorem xx {ps:List Pc}{i:Nat}{pc:Pc}(h:ps[i]?=some pc)(r:DK):Ck (ps.take (i+1)) r=pc.bent (Ck (ps.take i) r):=by
 rw [WO,h,qx];rfl
structure DrA (H:Hp)(d c:Addr)(L:List V):Prop where
 d:∃a n:Int,0<=n/\H d=some (.lst [.int a,.ref c,.int n])
 c:H c=some (.lst L)
 i:∀x∈L,∃z:Int,x=.int z
 l:0 < L.length
 m:L.length<=100
def SD (d:Addr)(H a:Hp):Prop:=∀b o,b≠d->H b=some o->a b=some o
theorem SD.refl (d:Addr)(H:Hp):SD d H H:=λ _ _ _ h=>h
theorem SD.trans {d:Addr}{H e f:Hp}(a:SD d H e)(b:SD d e f):SD d H f:=λ c o n h=>b c o n (a c o n h)
theorem _root_.L2.Same.sd {H a:Hp}(s:Same H a)(d:Addr):SD d H a:=λ b o _ h=>s b o h
theorem SD.t {d:Addr}{H a:Hp}{xs:List V}(s:SD d H a)(h:H d=some (.lst xs)):Er H a:=λ b c=>⟨λ e=>s b _ (λ z=>by rw [z,h] at e;cases e) e,λ o e=>s b _ (λ z=>by rw [z,h] at e;cases e) e⟩
theorem DrA.keep {H b:Hp}{d c:Addr}{g:List V}(h:DrA H d c g)(s:Same H b):DrA b d c g:=by
 obtain ⟨a,n,e,f⟩:=h.d;exact ⟨⟨a,n,e,s _ _ f⟩,s _ _ h.c,h.i,h.l,h.m⟩
theorem DrA.ne {H:Hp}{d c:Addr}{g:List V}(h:DrA H d c g):c≠d:=λ e=>by
 obtain ⟨a,n,j,f⟩:=h.d;have b:=h.c;rw [e,f] at b;cases b
 obtain ⟨z,e⟩:=h.i (.ref c) (by simp)
 cases e
theorem DrA.t {H b:Hp}{d c:Addr}{f:List V}(h:DrA H d c f)(s:SD d H b):Er H b:=by
 obtain ⟨a,n,g,e⟩:=h.d;exact s.t e
theorem DrA.dv {K:FrG}{H a:Hp}{d c:Addr}{e:List V}{v:V}{x:Xt}(h:DrA H d c e)(s:SD d H a)(b:DV K H v x)(n:Gs x=true:=by rfl):DV K a v x:=Gy (h.t s) n b
theorem KR {H:Hp}{d:Addr}{o:HO}:SD d H (upd H d o):=λ b u n h=>by rw [Al n];exact h
inductive iY (vs:List V)(H:Hp)(Q:VK)(z3:XK):Prop | mk (d c:Addr) (L:List V) (m:Int) (_:vs=[.ref d,.int m]) (_:DrA H d c L) (_:0 < m) (_:∀(x:Int) H',0<=x->x < m->DrA H' d c L->SD d H H'->Q (.int x) H')
inductive lQ (K:FrG)(vs:List V)(H:Hp)(Q:VK)(z3:XK):Prop | mk (a:Addr) (ns:List Int) (st:Int) (_:vs=[.ref a,.int st]) (_:SqL K H a (ns.map V.int)) (_:∀d c L H',Same H H'->H d=none->DrA H' d c L->Q (.ref d) H')
inductive j9 (K:FrG)(vs:List V)(H:Hp)(Q:VK)(z3:XK):Prop | mk (a:Addr) (ns:List Int) (k:Int) (_:vs=[.ref a,.int k]) (_:SqL K H a (ns.map V.int)) (_:0<=k) (_:∀z:Int,Q (.int z) H)
inductive pZ (vs:List V)(H:Hp)(Q:VK)(z3:XK):Prop | mk (t b:Int) (_:vs=[.int t,.int b]) (_:0 < b) (_:b.natAbs < lim) (_:∀p,H p=none->Q (.ref p) (upd H p (.tup [.int (Fr.lt t b),.int (Fr.lb t b)])))
theorem yj (q:Rat):Gs (Av q)=true:=rfl
theorem DrA.keepD {H b:Hp}{d c l:Addr}{j:List V}(h:DrA H d c j)(s:SD l H b)(hd:d≠l)(e:c≠l):DrA b d c j:=by
 obtain ⟨a,n,f,g⟩:=h.d;exact ⟨⟨a,n,f,s _ _ hd g⟩,s _ _ e h.c,h.i,h.l,h.m⟩
structure Lim where
 k:Nat
 a:Rat
 b:Rat
 lo:Rat
 hi:Rat
def Gm (l:Lim):Xt:=.tuple [.int (l.k:Int),Av l.a,Av l.b,Av l.lo,Av l.hi]
def lim1 (i:Nat)(p:Pc)(h s:DK):List Lim:=match p with
 | .stop lo hi=>[⟨i,h.1,s.1,lo,hi⟩]
 | _=>[]
def GK:Nat->List Pc->DK->DK->List Lim
 | _,[],_,_=>[]
 | i,p::ps,h,s=>lim1 i p h s++GK (i+1) ps (p.bent h) (p.bent s)
def Ez (ps:List Pc):List Lim:=GK 0 ps e1 e2
theorem dC (p:Pc):∀(ps:List Pc) (i:Nat) (h s:DK),GK i (ps++[p]) h s=GK i ps h s++lim1 (i+ps.length) p (Ck ps h) (Ck ps s)
 | [],i,h,s=>by show lim1 i p h s++[]=[]++lim1 (i+0) p h s;rw [WC];rfl
 | q::ps,i,h,s=>by
  show lim1 i q h s++GK (i+1) (ps++[p]) (q.bent h) (q.bent s)=lim1 i q h s++GK (i+1) ps (q.bent h) (q.bent s)++_;rw [dC p ps,WG,W6,show i+1+ps.length=i+(ps.length+1) by omega]
  rfl
theorem AG8 {ps:List Pc}{i:Nat}{p:Pc}(h:ps[i]?=some p):Ez (ps.take (i+1))=Ez (ps.take i)++lim1 i p (Ck (ps.take i) e1) (Ck (ps.take i) e2):=by
 have hi:=(WJ.mp h).1;unfold Ez;rw [WO,h];show GK 0 (ps.take i++[p]) e1 e2=_;rw [dC,WS,Fm (UU hi),MX]
theorem AQ7 (ps:List Pc):∀(i:Nat) (h s:DK),(GK i ps h s).length<=ps.length:=by
 induction ps with
 | nil=>intro i h s;exact ZE _
 | cons p ps a=>
  intro i h s;show (lim1 i p h s++GK (i+1) ps _ _).length<=ps.length+1;rw [ZA];have:=a (i+1) (p.bent h) (p.bent s);cases p with
  | gap d=>show 0+_<=_;omega
  | glass d=>show 0+_<=_;omega
  | stop lo hi=>show 1+_<=_;omega
theorem vL (l:Lim):Gs (Gm l)=true:=rfl
theorem yo:RB 2 e1:=⟨1,0,1,by decide,by decide,by decide,by decide,by decide+kernel,by decide+kernel⟩
theorem rW:RB 2 e2:=⟨0,1,1,by decide,by decide,by decide,by decide,by decide+kernel,by decide+kernel⟩
inductive AI5 (K:FrG)(vs:List V)(H:Hp)(Q:VK)(z3:XK):Prop | mk (v:V) (ps:List Pc) (m:Nat) (_:vs=[v]) (_:DV K H v (Hf ps)) (_:Good m ps) (_:2+ps.length * (m+1)+m<=3900) (_:∀l rs H',Same H H'->H l=none->H' l=some (.lst rs)->DVs K H' rs ((Ez ps).map Gm)->Q (.ref l) H')
theorem DV.upd5 {K:FrG}{H:Hp}{r:Addr}{x y z u t:V}{b c d e f:Xt}(a:H r=none)(g:DV K H x b)(h:DV K H y c)(i:DV K H z d)(j:DV K H u e)(ht:DV K H t f):DV K (upd H r (.tup [x,y,z,u,t])) (.ref r) (.tuple [b,c,d,e,f]):=
 .tup (SqT.of Ag) (.cons (g.keep (Ah a _)) (.cons (h.keep (Ah a _)) (.cons (i.keep (Ah a _)) (.cons (j.keep (Ah a _)) (.cons (ht.keep (Ah a _)) .nil)))))
end Lib
namespace Op
open Fr
end Op
namespace Lib
open PySem L2 Fr Op
end Lib
namespace L2
open PySem PySem.Spec PyProof.Rows
end L2
namespace Lib
open PySem L2 Fr Op
end Lib
namespace L2
open PySem PySem.Spec PyProof.Rows PySem.Builtin
end L2
namespace Lib
open PySem L2 Fr Op
end Lib
namespace L2
open PySem PySem.Spec PyProof.Rows PySem.Builtin
def Hq (z TO a i2:Addr)(h h':Heap):Prop:=∀c o,c≠z->c≠TO->c≠a->c≠i2->h.get? c=some o->h'.get? c=some o
end L2
namespace L2
open PySem PySem.Spec PyProof.Rows
end L2
namespace Lib
open PySem L2 Fr Op
end Lib
namespace Op
open Fr
end Op
namespace Lib
open PySem L2 Fr Op
end Lib
namespace L2
open PySem PySem.Spec PyProof.Rows PySem.Builtin
section
variable {prog:ZU}{w:World}{A:XA}{E:Value->X1->Prop}
theorem bF {it l:Addr}{vs:Array Value}(ne:l≠it):∀(n i:Nat) (s:X1) (Q:List Value->X1->Prop),s.heap.IsListIter it l i->s.heap.IsList l vs->i+n<=vs.size->
  (∀h',h'.IsListIter it l (i+n)->QA it s.heap h'->Q ((vs.toList.drop i).take n) { s with heap:=h' })->wpAny (model prog w) A (draw (.ref it) n) Q E s
 | 0,i,s,Q,j,_,_,b=>by
  show wpAny _ A (pure []) Q E s;refine ZI ?_;have:=b s.heap j (NH ..);rw [Au] at this;exact this
 | n+1,i,s,Q,j,hl,le,b=>by
  have lt:i < vs.size:=by omega
  show wpAny _ A (GM (.ref it) >>= _) Q E s;refine Y3 (wpAny_pyNext_list_item j hl (x:=vs[i]) (by simp [lt]) λ g j1 a=>?_)
  refine Y3 (WI (bF ne n (i+1) _ _ j1 (hl.extBut a.extBut ne) ∅ λ c d f=>ZI ?_))
  have e:vs.toList.drop i=vs[i]::vs.toList.drop (i+1):=by simp [List.drop_eq_getElem_cons,lt]
  have r:=b c (by rw [show i+(n+1)=i+1+n by omega];exact d) (a.trans f)
  rw [e,List.take_succ_cons] at r;exact r
theorem ir {s:X1}{l:Addr}{vs:Array Value}{Q:List Value->X1->Prop}(d:A.handled=none)(hl:s.heap.IsList l vs)
  (j:∀h',yY s.heap.objs.size s.heap h'->Q vs.toList { s with heap:=h' }):wpAny (model prog w) A (AE (.ref l) vs.size none) Q E s:=by
 have ne:l≠s.heap.objs.size:=by
  obtain ⟨o,f,_⟩:=hl;exact YP (ZT f)
 unfold AE notIterableAtAll;refine Y3 (Y3 (BF hl.typeIs F.slot_list_iter.lookup (ZI ?_)));simp only [zy,if_false];refine Y3 (WI (uo hl ?_));refine Y3 (WI (bF ne vs.size 0 _ _ ⟨_,YI _ rfl,rfl,rfl⟩ (Mn hl _) ∅ λ g j1 a=>?_))
 have e:List.take vs.size (List.drop 0 vs.toList)=vs.toList:=by
  rw [List.drop_zero];exact zd (by simp)
 rw [e,if_neg (by simp)]
 have c:g.IsList l vs:=(Mn hl _).extBut a.extBut ne;refine Y3 (WI (wpAny_pyNext_list_end d j1 c (by simp) λ h i=>?_))
 simp only [FS,zy,if_false];exact ZI (j h λ b o hb x=>i b o hb (a.extBut b o hb (X2 _ x)))
theorem iU {s:X1}{env:Env}{a:List Expr}{x1}{pos:Pos}{l:Addr}{vs:Array Value}{Q:Unit->X1->Prop}(c:A.handled=none)(hl:s.heap.IsList l vs)
  (hn:(JI a env).length=vs.size) (b:(JI a env).findIdx? (·.1)=none)
  (d:∀h',yY s.heap.objs.size s.heap h'->wpAny (model prog w) A (qf ((JI a env).map (·.2)) vs.toList) Q E { s with heap:=h' }):
  wpAny (model prog w) A (qo (.Tuple a x1 pos) env (.ref l)) Q E s:=by
 rw [arm_assign_Tuple];refine Y3 (UO ?_);unfold unpack;rw [hn,b];exact Y3 (WI (ir c hl d))
end
section
variable {X:Cx}{pos:Pos}
inductive tX (K:FrG)(n:Nat)(t:TGs)(v:V)(σ:St)(H:Hp)(Q:St->Hp->Prop):Prop | mk (a xs:_) (_:v=.ref a) (_:SqL K H a xs) (_:xs.length=n) (_:t xs σ H Q)
theorem gM {c:List Expr}{k:Nat}{t:TGs}{n:Nat}(j:X.calm=true)(h:PGs X c t)
  (hn:(JI c X.env).length=n:=by rfl) (g:(JI c X.env).findIdx? (·.1)=none:=by rfl):PG X (.Tuple c k pos) (tX X.K n t):=by
 intro d s l H v u Q m r f;obtain ⟨a,xs,rfl,p,hl,f⟩:=f;cases r
 obtain ⟨w,i,ht,x⟩:=m.list p;refine iU (m.ok.hd j) ht.isList (by simp [hn,<- hl,i.length]) g λ h' q=>?_
 exact h d _ l H xs _ Q (m.kept (t':=s.toks) λ b o e=>q b o (YP (ZT e)) e) (by simpa using i) f
end
end L2
namespace Op
open Fr
end Op
namespace Lib
open PySem L2 Fr Op
theorem SD.same {a H c:Hp}{d:Addr}(f:Same a H)(hd:a d=none)(s:SD d H c):Same a c:=λ b o e=>s b o (λ z=>by rw [z,hd] at e;cases e) (f _ _ e)
end Lib
namespace L2
open PySem PySem.Spec PyProof.Rows PySem.Builtin
end L2
namespace Op
open Fr
end Op
namespace Lib
open PySem L2 Fr Op
end Lib
namespace Op
open Fr Lib
end Op
namespace Lib
open PySem L2 Fr Op
end Lib
namespace L2
open PySem PySem.Spec PyProof.Rows PySem.Builtin
end L2
namespace Lib
open PySem L2 Fr Op
end Lib
namespace L2
open PySem PySem.Spec PyProof.Rows
end L2
namespace Lib
open PySem L2 Fr Op
end Lib
namespace L2
open PySem PySem.Spec PyProof.Rows
end L2
namespace Lib
open PySem L2 Fr Op
end Lib
namespace L2
open PySem PySem.Spec PyProof.Rows
abbrev RN:=XK->(Hp->Prop)->St->Hp->Prop
def Uh (X:Cx)(d:List Stmt)(t:RN):Prop:=∀(a:List (Addr×Obj)) (s:X1) (b:St) (H:Hp) (E:XK) (k:Hp->Prop),Inv X a b H s->t E k b H->
 wpAny (model X.prog X.w) X.A (execs d X.env) (λ f c=>f=.next/\∃g,Inv X a b g c/\k g) (λ e s'=>∃h c,Inv X a b h c/\DN X.prog X.w X.stack h c E e s') s
end L2
namespace L2
open PySem PySem.Spec PyProof.Rows PySem.Builtin
open PySem.AutoSeq1 (wpAny_loadPart')
end L2
namespace L2
open PySem PySem.Spec PySem.Calls PyProof.Rows PySem.W Builtin Builtin.ObjectAttr
abbrev Gj:List Value:=[.type "ValueError",.type "Exception",.type "BaseException",.type "object"]
structure ExcI (K:FrG)(C CB fI:Addr):Prop where
 ob:∃nm q N bs sn sub ab col dd k0 k1 k2 k3 k5,K.lookup C=some (Fh nm q C N bs (.ref CB::Gj) true sn sub ab col dd k0 k1 k2 k3 k5 "ValueError.__new__")
 cb:zD K CB Gj "ValueError.__new__"=true
 it:ZH K (.ref C) "__init__"=some (some (.ref fI))
 kp:YJ K (.ref C)=true
 hm:JY K C (.type "object")=some true
 hd:UM K C=true
 fn:An K (.ref fI)=some (.type "function")
 sa:ZH K (.ref C) "__setattr__"=some (some (.builtin "object.__setattr__"))
 na:ZH K (.ref C) "at"=some none
 rd:PySem.W.readsIn K CB (.type "type")=true
 fc:PySem.W.findCls K (.ref CB) (.type "type") "__init__"=some (.val (.builtin "ValueError.__init__"))
 sg:zb K (.ref CB) "__getattribute__"=some (some (.builtin "type.__getattribute__"))
theorem ExcI.obj {K:FrG}{C CB fI:Addr}{h:Heap}(g:ExcI K C CB fI)(X:K.In h):
  ∃nm q N bs sn sub ab col dd k0 k1 k2 k3 k5,h.get? C=some (Fh nm q C N bs (.ref CB::Gj) true sn sub ab col dd k0 k1 k2 k3 k5 "ValueError.__new__")/\OwnTail h Gj (.ref CB::Gj):=by
 obtain ⟨nm,q,N,bs,sn,sub,ab,col,dd,k0,k1,k2,k3,k5,l⟩:=g.ob;obtain ⟨p,r,i,j,k,b,m,c,n,d,o,s,t,u,v,w,x,e,f,a,y⟩:=Qd X g.cb;exact ⟨nm,q,N,bs,sn,sub,ab,col,dd,k0,k1,k2,k3,k5,X _ _ l,.own e f a .base⟩
abbrev Hj (vs:List Value):Obj:={ cls:=.type "tuple",data:=.seq vs.toArray }
abbrev Hr (C t:Addr):Obj:={ cls:=.ref C,data:=.fields #[.ref t,.none,.none,.none,.bool false,.none] }
section
variable {prog:ZU}{w:World}{A:XA}{E:Value->X1->Prop}{h:Heap}{g:Array GenState}{d:Drawn}{t:Nat}{os:OsState}{K:FrG}{C CB fI:Addr}
theorem AP8 {a:List Value}{Q:Fin->X1->Prop}(X:K.In h)(l:ExcI K C CB fI)
  (m:wpAny (model prog w) A (call (.ref fI) (.ref (h.objs.size+1)::a)) (λ r s'=>r=.none/\Q (.done (.ret (.ref (h.objs.size+1)))) s') E ⟨(h.push (Hj a)).push (Hr C h.objs.size),g,d,t,os⟩) (hrest:a.length<=X3):
  wpAny (model prog w) A (XI.«type.__call__» ⟨.ref C::a,[]⟩) Q E ⟨h,g,d,t,os⟩:=by
 obtain ⟨nm,q,N,bs,sn,sub,ab,col,dd,k0,k1,k2,k3,k5,c,T⟩:=l.obj X;have f:∀b o,h.get? b=some o->((h.push (Hj a)).push (Hr C h.objs.size)).get? b=some o:=λ b o e=>X2 _ (X2 _ e)
 have i:=X.keeps f;have j:=f _ _ c;have n:((h.push (Hj a)).push (Hr C h.objs.size)).get? (h.objs.size+1)=some (Hr C h.objs.size):=by heap_get
 have k:(Yf C::(.ref CB::Gj)).contains (.ref C)=true:=by simp
 repeat (first | with_reducible refine Qr c ?_ | with_reducible refine wpAny_madeBy_exc c ?_ | wp_step)
 refine codeAny_call_builtin_code (wP _ JO.quiet) (wpAny_check_new_subT JO T c (codeAny_exc_new_subT JO T c ?_ hrest));show wpAny _ _ _ _ _ _;unfold isInstance
 repeat (first | with_reducible refine Qr n ?_ | (with_reducible refine FE j ?_;rw [k]) | wp_step)
 show wpAny _ _ (typeLookup (.ref C) _) _ _ _;refine (jv i l.it).at (WI (Y3 ((bind_fn i _ l.fn).at ?_)));refine Y3 (Wf m (λ r s' ⟨e,z⟩=>?_) λ _ _ x=>x)
 subst e
 wp_walk
 exact z
theorem ou {a:List Value}{Q:Value->X1->Prop}(X:K.In h)(e:ExcI K C CB fI)
  (c:wpAny (model prog w) (A.under (.builtin "type.__call__" ⟨.ref C::a,[]⟩)) (call (.ref fI) (.ref (h.objs.size+1)::a)) (λ r s'=>r=.none/\Q (.ref (h.objs.size+1)) s') E ⟨(h.push (Hj a)).push (Hr C h.objs.size),g,d,t,os⟩) (hrest:a.length<=X3):
  wpAny (model prog w) A (call (.ref C) a) Q E ⟨h,g,d,t,os⟩:=by
 obtain ⟨nm,q,N,bs,sn,sub,ab,col,dd,k0,k1,k2,k3,k5,b,T⟩:=e.obj X;have f:=tc_lookup;have i:=tc_bind (.ref C);have j:(⟨h,g,d,t,os⟩:X1).TypeIs (.ref C) "type":=⟨_,b,rfl⟩;refine qq (codeAny_of_tree ?_);show wpAny _ _ (callAny (.ref C) _) _ _ _
 repeat (any_goals (first | assumption | with_reducible refine Qr b ?_ | wp_step))
 exact ⟨rfl,codeAny_call_builtin_at (wP _ (by decide+kernel)) entry_typeCall (wpAny_check_type_call_sub b (AP8 X e c hrest))⟩
theorem au {s:X1}{env:Env}{x:Sem Value}{Q:Flow->X1->Prop}(k:A.handled=none)
  (l:wpAny (model prog w) A x (λ v a=>∃e t c f,v=.ref e/\K.In a.heap/\ExcI K C CB fI/\a.heap.get? e=some ⟨.ref C,c,.fields #[.ref t,.none,.none,.none,.bool false,.none],f⟩/\E (.ref e) a) E s):wpAny (model prog w) A (raiseStmt env (some x) none) Q E s:=by
 unfold raiseStmt;refine Y3 (Wf l (λ v a ⟨e,o,c,f,m,X,p,n,z⟩=>?_) λ _ _ x=>x)
 subst m;obtain ⟨nm,q,N,bs,sn,sub,ab,col,dd,k0,k1,k2,k3,k5,i,T⟩:=p.obj X;have j:(Yf C::(.ref CB::Gj)).contains (.type "BaseException")=true:=by rw [List.contains_cons,T.hasType (X:="BaseException") (b:=true) (by decide+kernel),Bool.or_true]
 obtain ⟨r,g,d,tk,os⟩:=a
 repeat (first | with_reducible refine Qr n ?_ | with_reducible refine Qr i ?_ | (with_reducible refine FE i ?_;rw [j]) | wp_step)
 exact wpAny_raiseNew_none k z
abbrev Fl (C t:Addr)(a:Option Addr)(b:Array (Option Value)):Obj:=⟨.ref C,a,.fields #[.ref t,.none,.none,.none,.bool false,.none],b⟩
theorem j6 {e f:Addr}{u:Value}{a:Option Addr}{c:Array (Option Value)}{Q:Value->X1->Prop}(X:K.In h)(p:ExcI K C CB fI)(i:h.get? e=some (Fl C f a c))
  (k:∀h' l,h'.get? e=some (Fl C l a c)->(∀b o,b≠e->h.get? b=some o->h'.get? b=some o)->Q .none ⟨h',g,d,t,os⟩):
  wpAny (model prog w) A (call (.builtin "ValueError.__init__") [.ref e,u]) Q E ⟨h,g,d,t,os⟩:=by
 obtain ⟨nm,q,N,bs,sn,sub,ab,col,dd,k0,k1,k2,k3,k5,m,T⟩:=p.obj X;refine qq (xP JO.init.plain JO.initEntry (wpAny_check_init_subT JO T m i rfl ?_));have j:(h.push (Hj [u])).get? e=some (Fl C f a c):=X2 _ i
 wp_walk
 refine k _ h.objs.size ?_ λ b o n z=>?_
 ·rw [XV _ j rfl];rfl
 ·rw [XY _ _ (WU n)];exact X2 _ z
theorem wA {e a:Addr}{u:Value}{c:Array (Option Value)}{Q:Unit->X1->Prop}(X:K.In h)(D:ExcI K C CB fI)(i:h.get? e=some (Fl C a none c))
  (G:∀h',h'.Ns1 h.objs.size (λ y=>if y="at" then some u else none)->h'.get? e=some (Fl C a (some h.objs.size) c)->(∀b o,b≠e->h.get? b=some o->h'.get? b=some o)->Q () ⟨h',g,d,t+2,os⟩):
  wpAny (model prog w) A (setAttr (.ref e) "at" u) Q E ⟨h,g,d,t,os⟩:=by
 obtain ⟨nm,q,N,bs,sn,sub,ab,col,dd,k0,k1,k2,k3,k5,m,T⟩:=D.obj X;have S:InstAt h e (Fl C a none c) C none:=⟨i,rfl,rfl,trivial⟩;have f:=PySem.F.store_object;have LT:=S.type (M:=model prog w);have H:Looks (model prog w) h (isInstance (.ref e) (.type "object")) true:=LT.andThen (looks_mroIn X D.hm);have I:=jv (M:=model prog w) X D.na;refine set_plain (s:=⟨h,g,d,t,os⟩) X S D.sa (xP f.slot.plain f.entry (@check_slot (model prog w) _ _ ⟨h,g,d,t+1,os⟩ "object.__setattr__" "object" "__setattr__" (.ref e) [.str "at" t,u] [] _ f.kind f.split H (f.args (.ref e) (.str "at" t) u) ?_));rw [osa_eq,refuse_eq];refine Y3 (Y3 (LT.at (Y3 (wpAny_mroOf_exc m ?_))));rw [refuseLoop_ref,refuseLoop_ref,F.store_ValueError.passes];refine ZI (Y3 (LT.at (Y3 (I.at (Y3 (ZI ?_))))));have j:e≠h.objs.size:=YP (ZT i);have k:(h.push { cls:=.type "dict",data:=.dict #[] }).get? e=some (Fl C a none c):=X2 _ i;unfold storeInOwnDict ownDictForStores instanceDict
 iterate 14 (first | with_reducible refine Qr i ?_ | with_reducible refine Qr m ?_ | wp_step)
 dsimp only
 refine Y3 (wpAny_alloc' (Y3 (wpAny_update' k (ZI ?_))));have p:((h.push { cls:=.type "dict",data:=.dict #[] }).update e λ o=>{ cls:=o.cls,dict:=some h.objs.size,data:=o.data,slots:=o.slots }).get? h.objs.size=some { cls:=.type "dict",data:=.dict #[] }:=
  (Heap.get?_update_ne _ _ _ _ j.symm).trans (Heap.get?_push_at rfl rfl)
 have r:((h.push { cls:=.type "dict",data:=.dict #[] }).update e λ o=>{ cls:=o.cls,dict:=some h.objs.size,data:=o.data,slots:=o.slots }).get? e=some (Fl C a (some h.objs.size) c):=XV _ k rfl
 have v:∀b o,b≠e->h.get? b=some o->((h.push { cls:=.type "dict",data:=.dict #[] }).update e λ o=>{ cls:=o.cls,dict:=some h.objs.size,data:=o.data,slots:=o.slots }).get? b=some o:=λ b o n z=>(Heap.get?_update_ne _ _ _ _ n).trans (X2 _ z)
 generalize ((h.push { cls:=.type "dict",data:=.dict #[] }).update e λ o=>{ cls:=o.cls,dict:=some h.objs.size,data:=o.data,slots:=o.slots })=hm at p r v ⊢
 have J:hm.Ns h.objs.size (λ _=>none):=⟨_,#[],_,p,rfl,(λ x L=>absurd L (by simp)),λ _=>rfl⟩
 show wpAny _ _ (storeInDict h.objs.size (.str "at" t) "at" u) _ _ _;unfold storeInDict newKeyGuard;refine Y3 (ZI (Y3 (wpAny_nsSet1 (Co J) λ h' B l=>?_)))
 obtain ⟨U,V,W,O,P,R⟩:=B.count (Within.cons "at" u Within.nil);refine Y3 (wpAny_lookBehind O (by rw [P];exact pastItsLine_dict (W8 R ⋯)) (ZI ?_))
 exact G h' B ((l.2 _ j).trans r) λ b o n z=>(l.2 b (YP (ZT z))).trans (v b o n z)
end
def XN (e C:Addr)(d:Option Addr)(h:Heap):Prop:=∃t a,h.get? e=some (Fl C t d a)
abbrev xN (e C:Addr)(d:Option Addr):HO:=.ext (XN e C d)
theorem XN.stay {e C:Addr}{d:Option Addr}{a b:Heap}(x:XN e C d a)(k:∀o,a.get? e=some o->b.get? e=some o):XN e C d b:=let ⟨t,c,z⟩:=x;⟨t,c,k _ z⟩
theorem XN.ok {P:ZU}{w:World}{H:Hp}{h:Heap}{e C:Addr}{d:Option Addr}(x:XN e C d h):ObjOk P w H h e (xN e C d):=
 let ⟨_,_,z⟩:=x;⟨x,⟨_,z⟩,λ _ _ y k=>y.stay k⟩
def XC (e C:Addr)(d:Option Addr)(h:Heap):Prop:=∃o vs,h.get? e=some o/\o.cls=.ref C/\o.dict=d/\o.data=.fields vs
abbrev xC (e C:Addr)(d:Option Addr):HO:=.ext (XC e C d)
theorem XC.stay {e C:Addr}{d:Option Addr}{a b:Heap}(x:XC e C d a)(k:∀o,a.get? e=some o->b.get? e=some o):XC e C d b:=let ⟨o,vs,z,r⟩:=x;⟨o,vs,k _ z,r⟩
section
variable {X:Cx}{C CB fI:Addr}{nb:Str}{e1 o value:Expr}{es:List Expr}{t:TA}{ta tv:TE}{np apos cpos epos pos pos':Pos}
def AM5 (C:Addr)(t:TA):TS:=λ c a H=>t a H λ vs b=>∃e v d,vs=[.ref e,v]/\b e=some (xN e C d)/\c.nx a b
theorem rO {pl:Sem Bool}(F:ExcI X.K C CB fI)(hm:X.mg nb=some (.ref CB))(ha:PA X (e1::es) t)(G:Gl X nb:=by rfl)(l:(nb == ("__debug__":Str))=false:=by decide)
  (I:YE (e1::es) X.env=(false,eval e1 X.env)::YE es X.env:=by rfl) (m:(Qe cpos (YE es X.env)).any (·.1)=false:=by rfl)
  (p:xz (.Call (.Attribute (.Name nb np) "__init__" apos) (e1::es) [] cpos) none epos.line X.env=pure false:=by rfl)
  (ht:eval (.Call (.Attribute (.Name nb np) "__init__" apos) (e1::es) [] cpos) X.env=(do
   let y <- eval (.Name nb np) X.env
   NL apos.atName
   let (f,first) <- Ge [y] (GP y "__init__" pl)
   Np cpos f first (Qe cpos (YE (e1::es) X.env)) (Gw cpos (xL [] X.env))):=by rfl):
  PS X (.Expr (.Call (.Attribute (.Name nb np) "__init__" apos) (e1::es) [] cpos) epos) (AM5 C t):=by
 intro g s A H U B h;refine AD (zt (pl:=pl) (EY B G hm ?_ l) ht) B.quiet p;refine method_cls B.kIn F.sg (cls_value B.kIn F.rd F.fc rfl ?_);have D:=ha cpos g _ A H _ (B.tok (s.toks+1)) h;rw [I] at D ⊢;refine wE (by show (false || (Qe cpos (YE es X.env)).any (·.1))=false;rw [m]<;>rfl) (zO ?_)
 refine thn D λ us E ⟨vs,a,i,r,e,v,d,J,j,q⟩=>?_
 subst J;obtain ⟨L,u,rfl,M,R⟩:=vals2 r;cases (show L=Yf e from M)
 obtain ⟨⟨S,N,O⟩,_,_⟩:=(show ObjOk X.prog X.w a E.heap e (xN e C d) from i.hok e _ j)
 obtain ⟨T,V,dr,tk,os⟩:=E;refine j6 i.kIn F O λ h' P c k=>?_
 have Q:=i.write (x:=e) (e:=e) (o:=xN e C d) (t':=tk) (by rw [j];exact zx) (.inl rfl) (λ b o n=>k b o n) ⟨_,c⟩ (XN.ok ⟨P,N,c⟩)
 have e2:upd a e (xN e C d)=a:=by
  funext b
  by_cases z:b=e
  ·subst z;rw [Ag,j]
  ·rw [Al z]
 rw [e2] at Q;exact ⟨A,a,Q,q⟩
theorem oh {d:List (Addr×Obj)}{j:St}{H:Hp}{s:X1}{A:XA}{E:Value->X1->Prop}{y:V}{u:Value}{Q:Unit->X1->Prop}{e:Addr}(q:Inv X d j H s)(P:ExcI X.K C CB fI)(l:H e=some (xN e C none))(r:RelV y u)
  (h:∀dx s',H dx=none->dx≠e->Inv X d j (upd (upd H dx (.xd [("at",y)])) e (xN e C (some dx))) s'->Q () s'):wpAny (model X.prog X.w) A (setAttr (.ref e) "at" u) Q E s:=by
 obtain ⟨⟨v,B,m⟩,_,_⟩:=(show ObjOk X.prog X.w H s.heap e (xN e C none) from q.hok e _ l)
 obtain ⟨c,R,dr,tk,os⟩:=s;refine wA q.kIn P m λ h' D g k=>?_
 have ne:e≠c.objs.size:=YP (ZT m);obtain ⟨i,es,F,p,G,I⟩:=id D;have J:i.isFreed=false:=(Heap.get?_some_iff.mp p).2;have hn:H c.objs.size=none:=q.hok.fresh (ZE _);have r1:∀f,RelO (uT f [(("at":Str),y)]) (if f="at" then some u else none):=λ f=>by
  by_cases z:f="at"
  ·subst z;rw [if_pos rfl];exact r
  ·rw [if_neg z,Ml,show (f == ("at":Str))=false from beq_false_of_ne z];exact zx
 have L:=q.laid (a:=c.objs.size) (o:=.xd [("at",y)]) (h':=c.push i) (t':=tk+2) (λ b o z=>X2 _ z) (ZE _) ⟨_,⟨i,es,F,YI c J,G,I⟩,r1⟩
 have M:=L.write (x:=e) (e:=e) (o:=xN e C (some c.objs.size)) (h':=h') (t':=tk+2) (by rw [Al ne,l];exact zx) (.inl rfl) (λ b o n z=>?_) ⟨_,g⟩ (XN.ok ⟨v,B,g⟩)
 ·exact h c.objs.size _ hn (WU ne) M
 ·rcases Heap.get?_push_cases z with ⟨N,O⟩ | z
  ·rw [N,O];exact p
  ·exact k b o n z
def jf (C:Addr)(ta tv:TE):TS:=λ d a H=>tv a H λ y c=>ta a c λ x b=>∃e,x=.ref e/\b e=some (xN e C none)/\∀dx,b dx=none->dx≠e->d.nx a (upd (upd b dx (.xd [("at",y)])) e (xN e C (some dx)))
theorem AP6 (w:ExcI X.K C CB fI)(ha:PE X o ta)(c:PE X value tv)(d:xz value (some (.Attribute o "at" pos')) pos.line X.env=pure false:=by rfl):PS X (.Assign [.Attribute o "at" pos'] value pos) (jf C ta tv):=by
 intro a s b H E z h;refine plainObj_wpAny_Assign_Attribute (thn (c a s b H _ z h) λ u f ⟨y,g,i,j,q⟩=>thn (ha a f b g _ i q) λ k A ⟨x,B,l,m,e,ex,n,p⟩=>?_) d
 subst ex;obtain rfl:k=Yf e:=m;exact oh l w n j λ dx s3 r v D=>⟨b,_,D,p dx r v⟩
end
inductive gB (C:Addr)(vs:List V)(H:Hp)(Q:VK)(z3:XK):Prop | mk (e v:_) (_:vs=[.ref e,v]) (_:H e=some (xN e C none)) (_:∀dx,H dx=none->dx≠e->Q .non (upd (upd H dx (.xd [("at",v)])) e (xN e C (some dx))))
structure XMk (P:ZU)(w:World)(K:FrG)(mg:Str->Option Value)(base:Heap)(k:Nat)(x:Str)(C:Addr):Prop where
 ex:∃(CB fI:Addr) (fd:UE),FnB P w K mg base true k fI fd ["self","at"] (gB C)/\ExcI K C CB fI/\Binds K fd ["self","at"] []
 mg:mg x=some (.ref C)
structure XFn (K:FrG)(mg:Str->Option Value)(x:Str)(C CB:Addr)(qual:Str)(st:Stmt):Prop where
 ex:∃(f:Addr) (fd:UE),Fun K "__init__" qual st f fd/\ExcI K C CB f
 mg:mg x=some (.ref C)
theorem XFn.xmk {P:ZU}{w:World}{K:FrG}{mg:Str->Option Value}{base:Heap}{x:Str}{C CB:Addr}{a:Str}{st:Stmt}{N:List Str}{k:Nat}(T:XFn K mg x C CB a st)(p:FnScope N ["self","at"] (defScope st))
  (hb:∀(kV c d:Value) (e:Option Addr) (cdv ct:Value) (us:List Value),us.length=(["self","at"]:List Str).length->jl (YR "__init__" a (defArgs st) (defBody st) (defScope st) .none kV c d e cdv ct) ⟨us,[]⟩=pure ((["self","at"]:List Str).zip us))
  (b:∀(fI:Addr),ExcI K C CB fI->∀(f:Addr) (cdv:Value) (A:XA) (outer:List Env) (s:X1) (H:Hp) (vs:List V) (Q:VK) (E:XK),RoomB true k (A.deeper (ua a (defScope st) s.heap.objs.size f cdv))->gB C vs H Q E->
   ∃t,PSs (Cv true P w K mg base N a (defScope st) f cdv A outer s H E).nox (defBody st) t/\t { nx:=λ _ g=>Q .non g,rt:=Q } (start N vs) H):XMk P w K mg base (k+1) x C:=by
 obtain ⟨f,fd,F,hm⟩:=T.ex;obtain ⟨q,r,kV,c,d,e,cdv,ct,o,rfl,l,i⟩:=id F.ex;refine ⟨⟨CB,f,_,Ia l i p (λ vs H Q E h=>by obtain ⟨_,_,rfl,_⟩:=h;rfl) λ A outer s H vs Q E j h=>?_,hm,F.binds hb⟩,T.mg⟩
 obtain ⟨t,m,n⟩:=b f hm f cdv A outer s H vs Q E j h;exact ⟨t,m.nox,n⟩
def Hw (H:Hp)(e:Addr):Hp:=λ b=>if b=e then none else H b
theorem Hi {H:Hp}{e b:Addr}(n:b≠e):Hw H e b=H b:=if_neg n
theorem Su {H:Hp}{e:Addr}:Hw H e e=none:=if_pos rfl
section
variable {X:Cx}{C:Addr}{x:Str}{e₀:Expr}{t:TA}{np cpos pos:Pos}{k:Nat}
theorem oV {E:XK}(Bd:BodyCx X E){A:List (Addr×Obj)}{J:St}{H:Hp}{s:X1}{e:Addr}{φ:Heap->Prop}(g:Inv X A J H s)(K:H e=some (.ext φ))(B:X.s₀.heap.get? e=none)(M:e∉frs X.stack){D:Heap}(up:s.heap.UpToSlots D)(c:Heap)
  (st:(JU s.heap (e::frs X.stack)).StaysIn c) (F:D.UpToSlots c):Un (frs X.outer) [] X.H₀ (Hw H e) X.s₀.heap c/\HOk X.prog X.w (Hw H e) c:=by
 have i:∀b o,s.heap.get? b=some o->b≠e->b∉frs X.stack->c.get? b=some o:=λ b o q n m=>st b o (jI _ q (by simp [n,m]))
 have p:∀b o,s.heap.get? b=some o->b∈frs X.stack->∃p,c.get? b=some { o with slots:=p }:=λ b o q m=>by
  obtain ⟨_,d,r,G⟩:=g.stack.mem m;rw [q] at r;cases r;exact (up.trans F) b o q G
 have nx:∀b:Addr,b∉X.ex:=λ b z=>by rw [Bd.ex] at z;cases z
 have I:∀b o,X.s₀.heap.get? b=some o->b≠X.env.locals:=λ b o q=>YP (Zu (ZT q) g.ok.above)
 have j:∀b o,X.s₀.heap.get? b=some o->b≠e:=λ b o q z=>by rw [z,B] at q;cases q
 have any:∀b o,s.heap.get? b=some o->b≠e->∃d,c.get? b=some d:=λ b o q n=>by
  by_cases m:b∈frs X.stack
  ·obtain ⟨z,y⟩:=p b o q m;exact ⟨_,y⟩
  ·exact ⟨_,i b o q n m⟩
 have f:∀b d,H b=some d->(∀L,d≠.ext L)->b≠e:=λ b d q n z=>by rw [z,K] at q;exact n φ (Ux q).symm
 refine ⟨⟨λ b o q n hb _=>?_,λ b o q n hb _=>?_,λ b o q n _=>?_,λ b o q _=>?_,λ b xs q=>?_,λ b o y q=>?_,λ b ps q=>?_⟩,λ a o q=>?_⟩
 ·exact i b o (g.base.keep b o q n hb (nx b)) (j b o q) λ m=>(Pz Bd).mp m |>.elim (I b o q) hb
 ·obtain ⟨z,y⟩:=g.base.slot b o q n hb (nx b);exact p b _ y ((Pz Bd).mpr (.inr hb)) |>.imp λ _ h=>h
 ·rw [Hi (j b o q)];exact g.base.free b o q n (nx b)
 ·obtain ⟨d,y⟩:=g.base.there b o q (nx b);exact any b d y (j b o q)
 ·have y:=g.base.tups b xs q;rw [Hi (f b _ y (λ _ h=>nomatch h))];exact y
 ·have y:=g.base.frzs b o _ q;rw [Hi (f b _ y (λ _ h=>nomatch h))];exact y
 ·obtain ⟨m,y⟩:=g.base.tbls b ps q;exact ⟨m,by rw [Hi (f b _ y (λ _ h=>nomatch h))];exact y⟩
 ·have v:a≠e:=λ z=>by rw [z,Su] at q;cases q
  rw [Hi v] at q;refine (g.hok a o q).stay (λ b u l y=>i b u y ?_ λ m=>?_) (λ b y=>by rw [Hi (f b _ y (λ _ h=>nomatch h))];exact y) λ b xs y=>by rw [Hi (f b _ y (λ _ h=>nomatch h))];exact y
  ·rcases l with z | z
   ·rw [z];exact v
   ·exact f b _ z (λ _ h=>nomatch h)
  ·have z:=g.stkFree b m;rcases l with rfl | l
   ·rw [z] at q;cases q
   ·rw [z] at l;cases l
def pC (E:XK)(C:Addr)(t:TA):TS:=λ _ b H=>t b H λ vs a=>∃v,vs=[v]/\∀dx,a dx=none->E (.ref C) (some dx) (upd a dx (.xd [("at",v)]))
theorem gq {E:XK}(Bd:BodyCx X E)(Q:X.calm=true)(M:XMk X.prog X.w X.K X.mg X.base k x C)(a8:RoomB true (k+1) X.A)(ha:PA X [e₀] t)(a9:Gl X x:=by rfl)(R:(x == ("__debug__":Str))=false:=by decide)
  (J:YE [e₀] X.env=[(false,eval e₀ X.env)]:=by rfl):
  PS X (.Raise (some (.Call (.Name x np) [e₀] [] cpos)) none pos) (pC E C t):=by
 obtain ⟨CB,fI,fd,b0,b1,hb⟩:=M.ex;intro n s S H c6 P h;rw [arm_exec_Raise];have G:wpAny (model X.prog X.w) X.A (eval (.Call (.Name x np) [e₀] [] cpos) X.env) (λ v f=>∃e t b2 b3,v=.ref e/\X.K.In f.heap/\ExcI X.K C CB fI/\f.heap.get? e=some ⟨.ref C,b2,.fields #[.ref t,.none,.none,.none,.bool false,.none],b3⟩/\X.xe (.ref e) f) X.xe s:=by
  refine UZ (EY P a9 M.mg ?_ R);refine UX (h₀:=X.base) P.ok.mod.kin b1.kp (thn (ha cpos n s S H _ P h) λ us T ⟨vs,p,y,r,v,L,q⟩=>⟨y.kIn,?_⟩) J rfl
  subst L;obtain ⟨u,rfl,b4⟩:=vals1 r;have l:=PB y (λ b z=>by rw [Bd.ex] at z;cases z) (a:=T.heap.objs.size+1) (xD (WV _))
  obtain ⟨c,c3,dr,tk,os⟩:=T;refine ou y.kIn b1 ?_ (by show 1<=X3;decide)
  have U:((c.push (Hj [u])).push (Hr C c.objs.size)).get? (c.objs.size+1)=some (Fl C c.objs.size none #[]):=by heap_get
  have b5:=y.kept (h':=c.push (Hj [u])) (t':=tk) (λ b o z=>X2 _ z)
  have Y:Inv X n S (upd p (c.objs.size+1) (xN (c.objs.size+1) C none)) ⟨(c.push (Hj [u])).push (Hr C c.objs.size),c3,dr,tk,os⟩:=
   b5.laid (a:=c.objs.size+1) (o:=xN (c.objs.size+1) C none) (t':=tk) (λ b o z=>X2 _ z) (FF (Ug _ _)) (XN.ok ⟨_,_,U⟩)
  have Z:p (c.objs.size+1)=none:=y.hok.fresh (WV _);have r2:Vals [V.ref (c.objs.size+1),v] [Yf (c.objs.size+1),u]:=.cons rfl (.cons b4 .nil);have hl:([Yf (c.objs.size+1),u]++([]:List Value)).length=["self","at"].length:=rfl;refine qq (xI Y.tk (wT (b0.run _ X.stack _ _ ⟨[.ref (c.objs.size+1),u],[]⟩ [.ref (c.objs.size+1),u] [.ref (c.objs.size+1),v]
   (λ a0 g=>a0=.non/\∃dx,p dx=none/\dx≠c.objs.size+1/\g=upd (upd (upd p (c.objs.size+1) (xN (c.objs.size+1) C none)) dx (.xd [("at",v)])) (c.objs.size+1) (xN (c.objs.size+1) C (some dx))) E0 (a8.room.make C [u] []).b (Y.env0.make C [u] []) (hb _ [.ref (c.objs.size+1),u] Y.kIn hl) r2
   ⟨_,_,rfl,Ag,λ dx D F=>⟨rfl,dx,by rw [Al F] at D;exact D,F,rfl⟩⟩ (.inl Y.tk1)) λ r s' d ht=>?_))
  cases r with
  | error e=>
   obtain ⟨_,_,_,_,_,_,_,_,_,_,_,_,z⟩:=d;exact z.elim
  | ok b6=>
   cases b6 with
   | next=>exact WE d
   | brk=>exact WE d
   | cont=>exact WE d
   | ret c4=>
    obtain ⟨a0,g,i,b7,L,dx,D,F,a1⟩:=Y.after d;subst L;refine ⟨b7,?_⟩;have B:g (c.objs.size+1)=some (xN (c.objs.size+1) C (some dx)):=by rw [a1];exact Ag
    obtain ⟨⟨b8,a2,I⟩,_,_⟩:=(show ObjOk X.prog X.w g s'.heap (c.objs.size+1) (xN (c.objs.size+1) C (some dx)) from i.hok _ _ B)
    refine ⟨c.objs.size+1,b8,some dx,a2,rfl,i.kIn,b1,I,?_⟩;have b9:Hw g (c.objs.size+1)=upd p dx (.xd [("at",v)]):=by
     funext b
     by_cases z:b=c.objs.size+1
     ·subst z;rw [Su,Al (WU F)];exact Z.symm
     ·rw [Hi z,a1,Al z];by_cases N:b=dx
      ·subst N;rw [Ag,Ag]
      ·rw [Al N,Al N,Al z]
    have c0:E (.ref C) (some dx) (Hw g (c.objs.size+1)):=by rw [b9];exact q dx D
    rw [Bd.xe];have a3:X.A.frames=some (X.env::X.outer):=by rw [<- Bd.stk];exact P.ok.frames
    have c1:c.objs.size+1∉frs X.stack:=λ m=>by
     have:=i.stkFree _ m;rw [B] at this;cases this
    have a4:∀env∈X.stack,∀b,env.frame=some b->b∈((c.objs.size+1)::frs X.stack):=λ env J b hb=>ZX _ (wt.mpr ⟨env,J,hb⟩)
    have c2:s'.heap.FunFrames (JU s'.heap ((c.objs.size+1)::frs X.stack)) (X.env::X.outer):=by
     have z:=Ga i.stack a4;rw [<- Bd.stk];exact z
    refine Ub (s:=s') a3 Bd.fr (λ b o q=>zv _ q) (GW _ (YV ..)) c2 I rfl rfl ⟨_,rfl,.none⟩ λ c5 a5 up=>?_
    exact ⟨_,C,some dx,Hw g (c.objs.size+1),_,rfl,i.os,i.bare,λ a6 st a7=>oV Bd i B l c1 up a6 st a7,a5,Su,l,c0⟩
 first
  | refine Y3 (UO (au (K:=X.K) (C:=C) (CB:=CB) (fI:=fI) (P.ok.hd Q) (Y3 (Wf G (λ v O j=>Y3 (UO (ZI j))) λ _ _ x=>x))))
  | (simp only [evalOpt,Option.map];refine Y3 (UO (au (K:=X.K) (C:=C) (CB:=CB) (fI:=fI) (P.ok.hd Q) (Y3 (Wf G (λ v O j=>Y3 (UO (ZI j))) λ _ _ x=>x)))))
end
def uH (K:FrG)(e:Addr)(g:Ends)(f:St)(i:Nat)(ts:TS):XK:=λ c d b=>∃C,c=.ref C/\WZ K (.ref C) (.ref e)=some true/\∀a,b a=none->ts (g.gone i) (f.set i (some (.ref a))) (upd b a (xC a C d))
section
variable {X:Cx}{c:Bool}{k:Nat}{ps:List Str}{sp:Sp}{x xc n:Str}{p pos cpos epos np hp:Pos}{e:Expr}{es:List Expr}{t:TA}{Bc:Addr}{b₀:Stmt}{suite:List Stmt}{ts:TS}{i:Nat}
theorem qi {g:List Stmt}{tb:RN}(hb:Uh X g tb)(r:X.stack=X.env::X.outer)(hf:X.env.frame=some X.env.locals)
  (u:X.mg xc=some (.ref Bc)) (E:∀a,PSs (X.hnd a) (b₀::suite) ts) (F:X.N.Nodup) (hi:X.N[i]?=some n) (j:X.env.scope.names.lookup n=some .local) (v:Gl X xc:=by rfl) (w:(xc == ("__debug__":Str))=false:=by decide):
  PS X (.Try g [.ExceptHandler (some (.Name xc np)) (some n) (b₀::suite) hp] [] [] pos) (λ G b H=>tb (uH X.K Bc G b i ts) (λ l=>G.nx b l) b H):=by
 intro m s b H G W h;refine MH (Wf (Md W.tk (hb m s b H _ _ W h)) (λ f I ⟨_,J⟩=>?_) (λ e s' ⟨ht,L⟩=>?_))
 ·obtain ⟨rfl,l,M,q⟩:=J;exact yk ⟨b,l,M,q⟩
 ·obtain ⟨Y,I,O,a,C,d,Z,B,rfl,os,bare,y,A,na,P,a0,Q,D,R⟩:=L;cases Q
  exact mX (φ:=XC a C d) (λ _ o S T U ⟨vs,V⟩=>⟨o,vs,S,T,U,V⟩) (λ _ _ z k=>z.stay k) O r hf os bare y A na P v u D (E a) F hi j (R a na) w
end
section
variable {prog:ZU}{w:World}{A:XA}{E:Value->X1->Prop}{s:X1}{K:FrG}{x C:Addr}{ox od:Obj}{f:Str}{v:Value}
theorem m7 {Q:Fin->X1->Prop}{tk:Tok}(X:K.In s.heap)(c:InstAt s.heap x ox C (some od))(hf:findObj K C (some od) f=some (.value v))(e:handedIn v=true)(g:Q (.done (.ret v)) s):
  wpAny (model prog w) A (XI.«object.__getattribute__» ⟨[.ref x,.str f tk],[]⟩) Q E s:=by
 obtain ⟨h,i,d,t,os⟩:=s;have a:=c.type (M:=model prog w);have b:=looks_find (M:=model prog w) X c hf;unfold XI.«object.__getattribute__»
 repeat (any_goals (first | assumption | (with_reducible refine a.at ?_) | (with_reducible refine b.at ?_) | wp_step))
theorem tK {a:Bool}{Q:Value->X1->Prop}(X:K.In s.heap)(F:ExcK K C)(i:InstAt s.heap x ox C (some od))(hf:findObj K C (some od) f=some (.value v))(c:handedIn v=true)(h:Q v { s with toks:=s.toks+1 }):
  wpAny (model prog w) A (getAttr (.ref x) f a) Q E s:=by
 obtain ⟨b,l,d,t,os⟩:=s;have j:=i.type (M:=model prog w);have k:=jv (M:=model prog w) X F.ga;have m:=jv (M:=model prog w) X F.gt;have n:=xh.ga.bind (.ref x);have ex:ExcAt x C b:=⟨ox,i.at_,i.cls⟩;have e:(onTheHeap (Yf C) && yT "BaseException.__getattribute__" == yT "object.__getattribute__")=false:=by
  rw [show (yT "BaseException.__getattribute__" == yT "object.__getattribute__")=false by decide+kernel];rfl
 unfold getAttr getAttrBy;refine Y3 (wpAny_mkText (WI (Y3 (j.at (Y3 (k.at ?_))))));dsimp only
 rw [e];rw [if_neg ZL];unfold getAttrByItsOwn hookBefore
 repeat (any_goals (first | assumption | wp_step | lk))
 have g:(a && onTheHeap (yT "BaseException.__getattribute__"))=false:=FV _;rw [g,if_neg ZL];unfold boundAndCalled
 repeat (any_goals (first | assumption | wp_step | lk))
 refine xP xh.ga.plain BG (X6 (s:=⟨b,l,d,t+1,os⟩) X ex F (m7 (s:=⟨b,l,d,t+1,os⟩) X i hf c ?_));show wpAny _ _ (handedOut v) _ _ _;rw [handedOut_of c];exact ZI h
end
section
variable {X:Cx}{e:Expr}{ta:TE}{f:Str}{pos:Pos}
def aj (K:FrG)(ta:TE)(f:Str):TE:=λ c H Q=>ta c H λ x b=>∃a C dx fs v,x=.ref a/\b a=some (xC a C (some dx))/\b dx=some (.xd fs)/\ExcK K C/\UM K C=true/\NoAttr K C f/\fs.lookup f=some v/\Q v b
theorem qj (t:PE X e ta)(hb:wc e f X.env (eval e X.env)=eval e X.env:=by rfl):PE X (.Attribute e f pos) (aj X.K ta f):=by
 intro c s y H Q M h;refine ZF hb (thn (t c s y H _ M h) λ u d ⟨x,g,b,z,a,C,dx,fs,v,ex,A,B,F,hd,n,l,q⟩=>?_)
 subst ex;obtain rfl:u=Yf a:=z;obtain ⟨⟨o,vs,D,E,j,i⟩,_,_⟩:=(show ObjOk X.prog X.w g d.heap a (xC a C (some dx)) from b.hok a _ A)
 obtain ⟨G,ns,r⟩:=(show ObjOk X.prog X.w g d.heap dx (.xd fs) from b.hok dx _ B)
 obtain ⟨I,k,hl⟩:=bC ns;obtain ⟨u,J,m⟩:=RelO.some_of (v:=v) (o:=G f) (by rw [<- l];exact r f)
 have N:InstAt d.heap a o C (some I):=⟨D,E,by obtain ⟨O,P,p,L⟩:=o;cases (show p=.fields vs from i);rfl,by rw [j];exact k⟩
 exact tK b.kIn F N (findObj_own hd n rfl (by rw [hl,J])) (ao m) ⟨v,g,b.tok _,m,q⟩
theorem AG6 {K:FrG}(a:PE X e ta)(hb:wc e f X.env (eval e X.env)=eval e X.env:=by rfl)(b:X.K=K:=by rfl):PE X (.Attribute e f pos) (aj K ta f):=b▸qj a hb
end
end L2
namespace L2
open PySem PySem.Spec PySem.Calls PyProof.Rows PySem.W
end L2
namespace Lib
open PySem L2 Fr Op
def iy:Option Nat->V
 | none=>.non
 | some i=>.int (i:Int)
def RaisedAt (H:Hp)(C:Addr)(o:Option Nat)(E:XK):Prop:=∀a dx,Same H a->a dx=some (.xd [("at",iy o)])->E (.ref C) (some dx) a
theorem RaisedAt.keep {H a:Hp}{C:Addr}{o:Option Nat}{E:XK}(h:RaisedAt H C o E)(s:Same H a):RaisedAt a C o E:=λ b dx t e=>h b dx (s.trans t) e
end Lib
namespace L2
open PySem PySem.Spec PyProof.Rows
end L2
namespace L2
open PySem PySem.Spec PyProof.Rows PySem.Builtin PySem.Builtin.Str
end L2
namespace Lib
open PySem L2 Fr Op
end Lib
namespace L2
open PySem PySem.Spec PyProof.Rows PySem.Builtin PySem.SeqAt
end L2
namespace Op
open Fr
end Op
namespace Lib
open PySem L2 Fr Op
end Lib
namespace Op
open Fr
end Op
namespace Lib
open PySem L2 Fr Op
def _root_.Op.Pc.fd (m M:Nat):Pc->Prop
 | .gap d=>Bd m d
 | .glass d=>Bd m d
 | .stop lo hi=>Bd M lo/\Bd M hi
end Lib
namespace L2
open PySem PySem.Spec PyProof.Rows PySem.Builtin
end L2
namespace Lib
open PySem L2 Fr Op
end Lib
namespace L2
open PySem PySem.Spec PyProof.Rows PySem.Builtin
end L2
namespace Op
open Fr
end Op
namespace Lib
open PySem L2 Fr Op
end Lib
namespace Op
open Fr
end Op
namespace Lib
open PySem L2 Fr Op
end Lib
namespace Op
open Fr
end Op
namespace Lib
open PySem L2 Fr Op
inductive Fg:Xt->Xt->Bool->Prop
 | yes {p q:Rat}:Sm p->Sm q->p<=q->Fg (Av p) (Av q) true
 | turned {p q:Rat}:Sm p->Sm q->q < p->Fg (Av p) (Av q) false
 | one {d e:Xt}:Cp d=false->Fg d e false
 | two {p:Rat} {e:Xt}:Cp e=false->Fg (Av p) e false
inductive Ij:Xt->Prop
 | kind {d:Xt}:JC d=false->Ij d
 | many {ds:List Xt}:ds.length≠4->Ij (.tuple ds)
 | fst {a b c d:Xt}:Fg a b false->Ij (.tuple [a,b,c,d])
 | snd {a b c d:Xt}:Fg a b true->Fg c d false->Ij (.tuple [a,b,c,d])
inductive AQ8 (K:FrG)(vs:List V)(H:Hp)(Q:VK)(z3:XK):Prop | mk (x y:V) (d e:Xt) (b:Bool) (_:vs=[x,y]) (_:DV K H x d) (_:DV K H y e) (_:Fg d e b) (_:∀H',Same H H'->Q (.bl b) H')
inductive uz (K:FrG)(vs:List V)(H:Hp)(Q:VK)(z3:XK):Prop | mk (x:V) (d:Xt) (_:vs=[x]) (_:DV K H x d) (_:Ij d) (_:∀H',Same H H'->Q (.bl false) H')
inductive vN (K:FrG)(C:Addr)(vs:List V)(H:Hp)(z2:VK)(E:XK):Prop | mk (x:V) (d:Xt) (_:vs=[x]) (_:DV K H x d) (_:Ij d) (_:∀H',Same H H'->E (.ref C) none H')
theorem Ju (q:Rat):Cp (Av q)=true:=by
 have h:=KC q;exact h
end Lib
namespace L2
open PySem PySem.Spec PyProof.Rows PySem.Builtin PySem.Builtin.Str
theorem Yn:∀{zs:List Str} {a:List Value},Vals (zs.map V.str) a->∃l:List (Str×Tok),GT l=a/\l.map (·.1)=zs
 | [],_,.nil=>⟨[],rfl,rfl⟩
 | z::zs,_,.cons h r=>by
  obtain ⟨t,rfl⟩:=h;obtain ⟨l,b,c⟩:=Yn r;exact ⟨(z,t)::l,by show _::GT l=_;rw [b],by show z::_=_;rw [c]⟩
inductive rJoin (x:V)(vs:List V)(H:Hp)(Q:VK):Prop | mk (sep:Str) (l:Addr) (zs:List Str) (_:x=.str sep) (_:vs=[.ref l]) (_:H l=some (.lst (zs.map V.str))) (_:JoinOk sep zs=true) (_:Q (.str (wm sep zs)) H)
theorem AG0 {zs:List Str}{ps:List (Str×Tok)}(r:Vals (zs.map V.str) (GT ps)):∀p∈ps,p.2≠0:=λ p a=>by
 obtain ⟨n,hn⟩:=List.mem_iff_getElem?.mp a;have e:(GT ps)[n]?=some (.str p.1 p.2):=by unfold GT;rw [YN,hn];rfl
 exact sY r e rfl
theorem AL9 {prog:ZU}{w:World}{A:XA}{E:Value->X1->Prop}{s:X1}{Q:Value->X1->Prop}{x:Str}{t:Tok}{c:Addr}{l:List (Str×Tok)}{a:List Str}(hn:1<=s.toks)(hl:s.heap.IsList c (GT l).toArray)(ht:l.map (·.1)=a)(hok:JoinOk x a=true)(d:∀p∈l,p.2≠0)
  (e:∀(t':NZ) k,s.toks<=k->Q (.str (wm x a) t'.1) { s with toks:=k }):wpAny (model prog w) A (call (.builtin "str.join") [.str x t,.ref c]) Q E s:=by
 subst ht;have b:=hok;unfold JoinOk at b;rw [Bool.not_eq_true'] at b;exact jo F.slot_str_join (wb _ _ _) F.entry_str_join (F.args_str_join_2 _ _) (meets_str_join_list x t c l b) ⟨hl,qu l d hn ⟨joinFit_length b,e⟩⟩
theorem LR {X:Cx}:MtM X "str.join" rJoin:=by
 intro a s o H x vs v us Q b c d h;obtain ⟨i,l,zs,rfl,rfl,f,ok,q⟩:=h;obtain ⟨t,rfl⟩:=c;obtain ⟨u,rfl,g⟩:=d.one;cases g
 obtain ⟨z,j,n,r,hl,e⟩:=b.lstM f;obtain ⟨ps,rfl,e2⟩:=Yn r;exact AL9 b.tk1 ⟨_,e,rfl,_,rfl⟩ e2 ok (AG0 r) λ t' k m=>⟨.str _,H,b.tok _,⟨t',rfl⟩,q⟩
end L2
namespace L2
open PySem PySem.Spec PyProof.Rows PySem.Builtin
theorem MtFn.mcR {P:ZU}{w:World}{K:FrG}{mg:Str->Option Value}{base:Heap}{C:Addr}{m a:Str}{st:Stmt}{N ps:List Str}{k:Nat}{sp:Sp}(T:MtFn K C m a st)(o:FnScope N ps (defScope st))
  (hb:∀(kV c d:Value) (e:Option Addr) (cdv ct:Value) (us:List Value),us.length=ps.length->jl (YR m a (defArgs st) (defBody st) (defScope st) .none kV c d e cdv ct) ⟨us,[]⟩=pure (ps.zip us))
  (len:∀vs H Q E,sp vs H Q E->vs.length=ps.length)
  (b:∀(f:Addr) (cdv:Value) (A:XA) (outer:List Env) (s:X1) (H:Hp) (vs:List V) (Q:VK) (E:XK),RoomB true k (A.deeper (ua a (defScope st) s.heap.objs.size f cdv))->sp vs H Q E->
   ∃t,PSs (Cv true P w K mg base N a (defScope st) f cdv A outer s H E) (defBody st) t/\t { nx:=λ _ g=>Q .non g,rt:=Q } (start N vs) H):MC P w K mg base (k+1) C m ps sp:=by
 obtain ⟨f,fd,F,hm⟩:=T.ex;obtain ⟨p,q,kV,c,d,e,cdv,ct,n,rfl,l,i⟩:=id F.ex;exact ⟨⟨f,_,Ia l i o len λ A outer s H vs Q E j h=>b f cdv A outer s H vs Q E j h,hm,F.binds hb⟩,T.cl⟩
section
variable {X:Cx}{k:Nat}{m:Str}{pos apos cpos epos:Pos}{e o:Expr}{es:List Expr}{ta:TE}{t:TA}
theorem d7 {pl:Sem Bool}(I:PE X.nox o ta)(J:RoomB true k X.A)(ha:PA X.nox (e::es) t)
  (p:YE (e::es) X.env=(false,eval e X.env)::YE es X.env:=by rfl) (y:(Qe cpos (YE es X.env)).any (·.1)=false:=by rfl) (B:xz (.Call (.Attribute o m apos) (e::es) [] cpos) none epos.line X.env=pure false:=by rfl)
  (ht:eval (.Call (.Attribute o m apos) (e::es) [] cpos) X.env=(do
   let D <- eval o X.env
   NL apos.atName
   let (f,first) <- Ge [D] (GP D m pl)
   Np cpos f first (Qe cpos (YE (e::es) X.env)) (Gw cpos (xL [] X.env))):=by rfl):
  Uh X [.Expr (.Call (.Attribute o m apos) (e::es) [] cpos) epos] (λ E G b H=>ta b H λ x d=>∃a C dx fs ps sp,x=.ref a/\d a=some (.ins C dx fs)/\fs.lookup m=none/\
   MC X.prog X.w X.K X.mg X.base k C m ps sp/\t b d λ vs g=>sp (x::vs) g (λ _ i=>G i) E):=by
 intro j s b H E G L h;refine UI (AD ?_ L.quiet B);refine zt (pl:=pl) (Wf (I j s b H _ (L.wish _) h) (λ u V N=>?_) (λ _ _ z=>z.elim)) ht
 obtain ⟨x,d,c,O,a,C,dx,fs,ps,sp,ex,P,l,M,q⟩:=N;have c:=c.unwish;subst ex;obtain rfl:u=Yf a:=O;obtain ⟨f,fd,F,hm,hb⟩:=M.ex;refine Ka c P M.cl hm l ?_;refine UX (first:=[.ref a]) (h₀:=X.base) L.ok.mod.kin hm.kp (thn (PA.any ha cpos c q) λ us Q ⟨vs,g,n,r,R⟩=>⟨n.kIn,?_⟩) p y
 exact thn (Ks (us:=.ref a::us) (vs:=.ref a::vs) F J hb n (.cons rfl r) (by rw [WC];exact R) λ e s' S _=>⟨g,Q,n,S⟩) λ v s3 ⟨Y,i,T,Z,U⟩=>yk ⟨rfl,i,T,U⟩
end
end L2
namespace Lib
open PySem L2 Fr Op
def letS:Str:="abcdefghijklmnopqrstuvwxyz"
def Jo (z:Str):Bool:=!(Ua letS z 0 letS.length 1).isEmpty
def nameB (z:Str):Bool:=(decide (1<=z.length) && decide (z.length<=8)) && (zz z).all Jo
def Iw:Xt->Bool
 | .str z=>nameB z
 | _=>false
theorem wX {d:Xt}(h:JT d=false):Iw d=false:=by
 cases d<;>first | rfl | cases h
def oO (d:Xt):Prop:=∀z,d=.str z->z.length<=X3
inductive uw (K:FrG)(vs:List V)(H:Hp)(Q:VK)(z3:XK):Prop | mk (v d:_) (_:vs=[v]) (_:DV K H v d) (_:oO d) (_:∀H',Same H H'->Q (.bl (Iw d)) H')
theorem qI {z:Str}(h:nameB z=true):z.length<=8:=by
 unfold nameB at h;rw [xa,xa] at h;exact of_decide_eq_true h.1.2
end Lib
namespace L2
open PySem PySem.Spec PyProof.Rows PySem.Builtin
end L2
namespace L2
open PySem PySem.Spec PyProof.Rows
end L2
namespace Lib
open PySem L2 Fr Op
theorem jA (p:Pc):Gs (CK p)=true:=by cases p<;>rfl
structure Bx (K:FrG)(H1:Hp)(p:Addr)(ps:List Pc)(Hx:Hp):Prop where
 s:Same H1 Hx
 n:H1 p=none
 ex:∃xs,Hx p=some (.lst xs)/\DVs K Hx xs (ps.map CK)
theorem Nt {a c:Hp}{p:Addr}(s:Same a c)(n:a p=none)(o:HO):Same a (upd c p o):=λ b u e=>by
 rw [Al (BV e n)];exact s _ _ e
theorem Bx.more {K:FrG}{b a:Hp}{p:Addr}{ps qs:List Pc}{xs zs:List V}(s:Same b a)(n:b p=none)(c:a p=some (.lst xs))(d:DVs K a xs (ps.map CK))(e:DVs K a zs (qs.map CK)):Bx K b p (ps++qs) (upd a p (.lst (xs++zs))):=by
 refine ⟨Nt s n _,n,xs++zs,Ag,?_⟩;rw [Ye];exact HQ (R6 c _) (by rw [<- Ye];exact Il jA _) (d.append e)
theorem dZ {K:FrG}{H:Hp}{a:List V}{ds:List Xt}(h:DVs K H a ds):∀n,DVs K H (YO n a).flatten (YO n ds).flatten
 | 0=>.nil
 | n+1=>by
  rw [zh,zh,UN,UN];exact h.append (dZ h n)
end Lib
namespace L2
open PySem PySem.Spec PyProof.Rows
structure TopFnA (K:FrG)(mg:Str->Option Value)(x nm:Str)(st:Stmt):Prop where
 ex:∃(f:Addr) (fd:UE),Fun K nm nm st f fd/\mg x=some (.ref f)
theorem Nr {K:FrG}{h:Heap}{mg:Str->Option Value}{x nm:Str}{st:Stmt}{f:Addr}{d:Value}{e g:Option Addr}{i:Array (Option Value)}{kV j m b ct:Value}(X:K.In h)(n:h.Ns ZY mg)
  (a:YA K ZY x=some (some (.ref f))) (l:K.lookup f=some ⟨d,e,.func (YR nm nm (defArgs st) (defBody st) (defScope st) .none kV j m g b ct),i⟩) (c:Wp K b nm=true) (k:YJ K (.ref f)=true):TopFnA K mg x nm st:=
 ⟨f,_,Dd l c k,ZO X n a⟩
theorem TopFnA.calB {c:Bool}{P:ZU}{w:World}{K:FrG}{mg:Str->Option Value}{base:Heap}{x nm:Str}{st:Stmt}{N ps:List Str}{k:Nat}{sp:Sp}(T:TopFnA K mg x nm st)(j:FnScope N ps (defScope st))
  (hb:∀(kV b d:Value) (e:Option Addr) (cdv ct:Value) (us:List Value),us.length=ps.length->jl (YR nm nm (defArgs st) (defBody st) (defScope st) .none kV b d e cdv ct) ⟨us,[]⟩=pure (ps.zip us))
  (len:∀vs H Q E,sp vs H Q E->vs.length=ps.length)
  (a:∀(f:Addr) (cdv:Value) (A:XA) (outer:List Env) (s:X1) (H:Hp) (vs:List V) (Q:VK) (E:XK),RoomB c k (A.deeper (ua nm (defScope st) s.heap.objs.size f cdv))->sp vs H Q E->
   ∃t,PSs (Cv c P w K mg base N nm (defScope st) f cdv A outer s H E) (defBody st) t/\t { nx:=λ _ g=>Q .non g,rt:=Q } (start N vs) H):CalB P w K mg base c (k+1) x ps sp:=by
 obtain ⟨f,fd,F,hm⟩:=T.ex;obtain ⟨m,n,kV,b,d,e,cdv,ct,i,rfl,l,h⟩:=id F.ex;exact ⟨f,_,Ia l h j len (a f cdv),hm,F.kp,F.binds hb⟩
abbrev aq:Sp:=λ _ _ _ _=>False
theorem TopFn.not {P:ZU}{w:World}{K:FrG}{mg:Str->Option Value}{base:Heap}{x:Str}{st:Stmt}{N ps:List Str}{k:Nat}(T:TopFn K mg x st)(d:FnScope N ps (defScope st))
  (hb:∀(kV a b:Value) (c:Option Addr) (cdv ct:Value) (us:List Value),us.length=ps.length->jl (YR x x (defArgs st) (defBody st) (defScope st) .none kV a b c cdv ct) ⟨us,[]⟩=pure (ps.zip us)):CalB P w K mg base true (k+1) x ps aq:=
 T.calB d hb (λ _ _ _ _ h=>h.elim) λ _ _ _ _ _ _ _ _ _ _ h=>h.elim
inductive iz (x:V)(vs:List V)(H:Hp)(Q:VK):Prop | mk (i j:_) (_:x=.str i) (_:vs=[.str j]) (_:Q (.bl (FI i j)) H)
theorem jG {X:Cx}:MtM X "str.endswith" iz:=by
 intro a s e H x vs v us Q f b c h;obtain ⟨i,j,rfl,rfl,q⟩:=h;obtain ⟨t,rfl⟩:=b;obtain ⟨u,rfl,d⟩:=c.one;obtain ⟨t',rfl⟩:=d;exact SC.endswith ⟨.bl _,H,f,rfl,q⟩
end L2
namespace L2
open PySem PySem.Spec PyProof.Rows PySem.Builtin PySem.Builtin.Str
end L2
namespace Tx
open PySem PySem.NumText PySem.Builtin.Str
def dz (m:Nat):List Nat:=if m=0 then [] else dg m
theorem fC:∀d:Nat,d < 10->(AW d).toNat=48+d:=by decide
theorem bh {m:Nat}(h:0 < m):dz m=dz (m / 10)++[48+m % 10]:=by
 unfold dz;rw [if_neg ∅]
 by_cases hm:m < 10
 ·rw [if_pos ∅,dg,Mo hm]
  show [(AW m).toNat]=_;rw [fC m hm,Nat.mod_eq_of_lt hm];rfl
 ·rw [if_neg ∅]
  have a:m % 10 < 10:=Ch m ⋯
  have t:MV 10 (m / 10)++MV 10 (m % 10)=MV 10 (10 * (m / 10)+m % 10):=Nat.toDigits_append_toDigits ⋯ ∅ a
  rw [Nat.div_add_mod] at t;unfold dg;rw [<- t,Ye,Mo a];show _++[(AW (m % 10)).toNat]=_;rw [fC _ a]
theorem nu {m:Nat}(h:0 < m):dz m=dg m:=by
 unfold dz;rw [if_neg ∅]
theorem vA {p q:Rat}(h:sh p=sh q):p=q:=by
 have d:decide (p.num < 0)=decide (q.num < 0):=by rw [<- M7,<- M7,h]
 have hb:bd p=bd q:=by
  rw [<- M8,<- M8,h];by_cases z:p.num < 0
  ·have f:q.num < 0:=by rw [ζ z] at d;exact of_decide_eq_true d.symm
   rw [if_pos z,if_pos f]
  ·have f:¬ q.num < 0:=by rw [η z] at d;exact of_decide_eq_false d.symm
   rw [if_neg z,if_neg f]
 have c:=congrArg (cut 47) hb;rw [KJ,KJ] at c;have val:∀m n:Nat,dg m=dg n->m=n:=λ m n e=>by rw [<- Gi m,<- Gi n,e]
 have hn:p.num.natAbs=q.num.natAbs/\p.den=q.den:=by
  by_cases a:p.den=1<;>by_cases b:q.den=1
  ·rw [if_pos a,if_pos b] at c;exact ⟨val _ _ (by simpa using c),by rw [a,b]⟩
  ·rw [if_pos a,if_neg b] at c;simp at c
  ·rw [if_neg a,if_pos b] at c;simp at c
  ·rw [if_neg a,if_neg b] at c;simp at c
   exact ⟨val _ _ c.1,val _ _ c.2⟩
 refine Rat.ext ?_ hn.2;have e:=hn.1;by_cases z:p.num < 0
 ·have f:q.num < 0:=by rw [ζ z] at d;exact of_decide_eq_true d.symm
  omega
 ·have f:¬ q.num < 0:=by rw [η z] at d;exact of_decide_eq_false d.symm
  omega
end Tx
namespace Lib
open PySem L2 Tx PySem.NumText
end Lib
namespace Lib
end Lib
namespace L2
open PySem PySem.Spec PyProof.Rows
section
variable {X:Cx}
theorem jE {s:X1}{c:Prop}[Decidable c]{y z:Y1}{t:NZ}{Q:Value->X1->Prop}(hn:1<=s.toks)(b:¬ c->z.length<=X3)(h:∀(t':NZ) (k:Nat),s.toks<=k->Q (.str (if c then y else z) t'.1) { s with toks:=k }):
  (if c then Cn (.str y t.1) else Made.str z).post Q s:=by
 by_cases a:c
 ·rw [if_pos a];have q:=h t s.toks (ZE _);rw [if_pos a] at q;exact q
 ·rw [if_neg a];have q:=h ⟨s.toks,XW hn⟩ (s.toks+1) (WV _);rw [if_neg a] at q;exact ⟨b a,q⟩
theorem vY {prog:ZU}{w:World}{A:XA}{E:Value->X1->Prop}{s:X1}{x:Y1}{t:NZ}{u:Tok}{n:Int}{Q:Value->X1->Prop}(hn:1<=s.toks)(hok:CY x n)(h:∀(t':NZ) (k:Nat),s.toks<=k->Q (.str (um x n) t'.1) { s with toks:=k }):
  wpAny (model prog w) A (xk .Mult (.str x t.1) (.int n u)) Q E s:=by
 refine P.mul_str hok.1 hok.2.1 hok.2.2 ?_;unfold um at h;by_cases a:n < 1
 ·rw [if_pos a];have q:=h ⟨s.toks,XW hn⟩ (s.toks+1) (WV _);rw [if_pos a] at q;exact ⟨by decide,q⟩
 ·rw [if_neg a];refine jE hn (λ b=>fits_reps (hok.2.2 a (by simpa using b))) λ t' k c=>?_
  have q:=h t' k c;rw [if_neg a] at q;exact q
inductive xX (x:V)(y:V)(H:Hp)(Q:VK):Prop | mk (z n:_) (_:x=.str z) (_:y=.int n) (_:CY z n) (_:Q (.str (um z n)) H)
theorem vD:OpR X (xk .Mult) xX:=by
 intro a s f H x y v u Q d b c h;obtain ⟨z,n,rfl,rfl,hok,q⟩:=h;obtain ⟨t,rfl⟩:=b;obtain ⟨t',rfl⟩:=c;exact vY d.tk1 hok λ t' k e=>⟨.str _,H,d.tok _,⟨t',rfl⟩,q⟩
end
end L2
namespace Tx
open PySem PySem.NumText PySem.Builtin.Str
theorem oG (q:Rat):∀c∈sh q,(48<=c/\c<=57)\/c=45\/c=47:=λ c a=>by
 unfold sh at a;rcases XE.mp a with a | a
 ·rcases XE.mp a with a | a
  ·split at a
   ·exact .inr (.inl (by simpa using a))
   ·cases a
  ·exact .inl (JH _ _ a)
 ·split at a
  ·cases a
  ·rcases ZN.mp a with rfl | a
   ·exact .inr (.inr rfl)
   ·exact .inl (JH _ _ a)
theorem Yo {m n:Nat}(h:dg m=dg n):m=n:=by rw [<- Gi m,<- Gi n,h]
end Tx
namespace Lib
open PySem L2 Tx PySem.NumText
end Lib
namespace Tx
open PySem PySem.Spec PySem.Builtin PySem.Builtin.Str L2 Lib Op
theorem JK:Y2 " "=⟨#[32]⟩:=by decide+kernel
theorem Ri:Y2 ";"=⟨#[59]⟩:=by decide+kernel
theorem ut:Y2 "; "=⟨#[59,32]⟩:=by decide+kernel
theorem Yt (x:Y1)(c:Nat):FI x ⟨#[c]⟩=decide ((cl x).getLast?=some c):=by
 obtain ⟨⟨l⟩⟩:=x;rcases BM l with rfl | ⟨r,a,b⟩
 ·rfl
 ·have e1:l=r++[a]:=by rw [b];simp
  subst e1;clear b;have hl:(r++[a]).toArray.size=r.length+1:=by simp
  show (decide (0+1<=(r++[a]).toArray.size) && ((r++[a]).toArray.extract ((r++[a]).toArray.size - 1) ((r++[a]).toArray.size - 1+1) == #[c]))=decide ((r++[a]).getLast?=some c);rw [hl,Nat.add_sub_cancel,AA];by_cases h:a=c
  ·subst h;simp
  ·simp [h]
theorem ZC {f c:Nat->Option Nat}:∀{l:List Nat},(∀k∈l,f k=c k)->l.filterMap f=l.filterMap c
 | [],_=>rfl
 | a::l,h=>by
  rw [yn,yn,h a YV,ZC λ k b=>h k (ZX _ b)]
theorem Yb (x:Y1):cl (UA x none (some (-1)))=(cl x).dropLast:=by
 obtain ⟨⟨l⟩⟩:=x;rcases BM l with rfl | ⟨r,a,b⟩
 ·rfl
 ·have e1:l=r++[a]:=by rw [b];simp
  subst e1;clear b;have e:Fs none (some (-1)) 1 (r.length+1)=QE r.length:=by
   unfold Fs sliceRange;simp only [show (1:Int) > 0 by decide,if_true]
   have c:max 0 (min (if (-1:Int) < 0 then -1+((r.length+1:Nat):Int) else -1) ((r.length+1:Nat):Int))=(r.length:Int):=by
    rw [if_pos ⋯]
    omega
   rw [c];have d:(if (0:Int) < (r.length:Int) then ((r.length:Int) - 0+1 - 1) / 1 else 0).toNat=r.length:=by
    split<;>simp<;>omega
   rw [d];refine (zi λ k _=>?_).trans (List.map_id _)
   simp
  have hl:(zI (r++[a]).toArray).length=r.length+1:=by
   show (r++[a]).toArray.size=_;simp
  show cl (UA (zI (r++[a]).toArray) none (some (-1)))=(r++[a]).dropLast;unfold UA;rw [hl,e];rw [if_neg (by simp)]
  show ((((QE r.length)).filterMap (λ k=>(r++[a]).toArray[k]?)).toArray).toList=_
  rw [wf,AB];have e2:(QE r.length).filterMap (λ k=>(r++[a]).toArray[k]?)=(QE r.length).filterMap (λ k=>r[k]?):=by
   refine ZC λ k f=>?_
   have:=FK.mp f;simp [Uc this]
  rw [e2,Qw]
def wd:Pc->Y1
 | .gap _=>Y2 "gap"
 | .glass _=>Y2 "glass"
 | .stop _ _=>Y2 "stop"
def fracs:Pc->List Rat
 | .gap q=>[q]
 | .glass q=>[q]
 | .stop lo hi=>[lo,hi]
def toks (p:Pc):List Y1:=wd p::(fracs p).map Ay
def HJ:Pc->List Y1
 | .gap q=>[Y2 "gap",Ay q++⟨#[59]⟩]
 | .glass q=>[Y2 "glass",Ay q++⟨#[59]⟩]
 | .stop lo hi=>[Y2 "stop",Ay lo,Ay hi++⟨#[59]⟩]
def Fq:List Pc->List Y1
 | []=>[]
 | [p]=>toks p
 | p::q::r=>HJ p++Fq (q::r)
def DQ (p:Pc):Y1:=wm (Y2 " ") (toks p)
def Ef (ps:List Pc):Y1:=wm (Y2 "; ") (ps.map DQ)
theorem AG7:∀(q:Pc) (r:List Pc),∃t ts,Fq (q::r)=t::ts
 | .gap _,[]=>⟨_,_,rfl⟩
 | .glass _,[]=>⟨_,_,rfl⟩
 | .stop _ _,[]=>⟨_,_,rfl⟩
 | .gap _,_::_=>⟨_,_,rfl⟩
 | .glass _,_::_=>⟨_,_,rfl⟩
 | .stop _ _,_::_=>⟨_,_,rfl⟩
theorem Fv (a:Y1)(l:List Y1):wm a l=ZZ a l:=BN _ _
theorem cO:∀(ps:List Pc),ps≠[]->Ef ps=ZZ ⟨#[32]⟩ (Fq ps)
 | [],h=>absurd rfl h
 | [p],_=>by
  show wm _ [DQ p]=_;rw [Fv];show DQ p=_;unfold DQ;rw [Fv,JK];rfl
 | p::q::r,_=>by
  have c:=cO (q::r) (by simp)
  obtain ⟨t,ts,d⟩:=AG7 q r;have e1:Ef (p::q::r)=DQ p++Y2 "; "++Ef (q::r):=by
   unfold Ef;rw [Fv,Fv];rfl
  rw [e1,c];show _=ZZ ⟨#[32]⟩ (HJ p++Fq (q::r));rw [d]
  apply ext
  rw [Bw,Bw];unfold DQ;rw [Fv,JK,ut];have two:∀x y:Y1,ZZ ⟨#[32]⟩ [x,y]=x++⟨#[32]⟩++y:=λ _ _=>rfl
  have three:∀x y z:Y1,ZZ ⟨#[32]⟩ [x,y,z]=x++⟨#[32]⟩++(y++⟨#[32]⟩++z):=λ _ _ _=>rfl
  cases p with
  | gap a=>
   show cl (ZZ ⟨#[32]⟩ [Y2 "gap",Ay a])++_++_=cl (Y2 "gap"++⟨#[32]⟩++((Ay a++⟨#[59]⟩)++⟨#[32]⟩++ZZ ⟨#[32]⟩ (t::ts)));rw [two];simp only [Bw,WG];rfl
  | glass a=>
   show cl (ZZ ⟨#[32]⟩ [Y2 "glass",Ay a])++_++_=cl (Y2 "glass"++⟨#[32]⟩++((Ay a++⟨#[59]⟩)++⟨#[32]⟩++ZZ ⟨#[32]⟩ (t::ts)));rw [two];simp only [Bw,WG];rfl
  | stop a b=>
   show cl (ZZ ⟨#[32]⟩ [Y2 "stop",Ay a,Ay b])++_++_=cl (Y2 "stop"++⟨#[32]⟩++(Ay a++⟨#[32]⟩++((Ay b++⟨#[59]⟩)++⟨#[32]⟩++ZZ ⟨#[32]⟩ (t::ts))));rw [three];simp only [Bw,WG];rfl
theorem Kl (q:Rat)(c:Nat)(h:¬ ((48<=c/\c<=57)\/c=45\/c=47)):c∉cl (Ay q):=λ m=>h (oG q c (by rw [<- Em];exact m))
theorem Ny:∀{a b:List Y1},a.map cl=b.map cl->a=b
 | [],[],_=>rfl
 | [],_::_,h=>by cases h
 | _::_,[],h=>by cases h
 | x::a,y::b,h=>by
  rw [YY,YY] at h;have c:=qc h;rw [ext c.1,Ny c.2]
def Cu (w:Y1):List Y1:=if FI w (Y2 ";")=true then [UA w none (some (-1)),Y2 ";"] else [w]
def Bl (ws:List Y1):List Y1:=(ws.map Cu).flatten
theorem Iz {w:Y1}(h:59∉cl w):Cu w=[w]:=by
 unfold Cu;rw [if_neg];rw [Ri,Yt,decide_eq_true_eq];intro e;exact h (List.mem_of_getLast? e)
theorem Xr (w:Y1):Cu (w++⟨#[59]⟩)=[w,Y2 ";"]:=by
 have e:cl (w++⟨#[59]⟩)=cl w++[59]:=Bw _ _;unfold Cu;rw [if_pos]
 ·have:UA (w++⟨#[59]⟩) none (some (-1))=w:=ext (by rw [Yb,e,AB])
  rw [this]
 ·rw [Ri,Yt,e,AA];exact ζ rfl
end Tx
namespace Lib
open PySem L2 Fr Op Tx
abbrev CW (C dx a:Addr)(i:Nat):HO:=.ins C dx [("words",.ref a),("place",.int (i:Int))]
structure RdAt (C a dx wl:Addr)(ws:List Str)(i:Nat)(H:Hp):Prop where
 r:H a=some (CW C dx wl i)
 w:H wl=some (.lst (ws.map V.str))
 le:ws.length<=50000
theorem RdAt.keep {C a dx b:Addr}{ws:List Str}{i:Nat}{H c:Hp}(h:RdAt C a dx b ws i H)(s:Same H c):RdAt C a dx b ws i c:=⟨s _ _ h.r,s _ _ h.w,h.le⟩
theorem RdAt.ne {C a dx b:Addr}{ws:List Str}{i:Nat}{H:Hp}(h:RdAt C a dx b ws i H):b≠a:=λ e=>by
 have d:=h.r;have c:=h.w;rw [e,d] at c;cases c
theorem RdAt.step {C a dx b:Addr}{ws:List Str}{i:Nat}{H:Hp}(h:RdAt C a dx b ws i H)(j:Nat):RdAt C a dx b ws j (upd H a (CW C dx b j)):=⟨Ag,by rw [Al h.ne];exact h.w,h.le⟩
theorem Fj {a:Addr}{H:Hp}(o:HO):SD a H (upd H a o):=λ b u n e=>by rw [Al n];exact e
theorem SD.ofSame {a:Addr}{H c:Hp}(s:Same H c):SD a H c:=λ b u _ e=>s _ _ e
theorem Om {C a dx d:Addr}{i:Nat}{H c:Hp}(h:H a=some (CW C dx d i))(s:SD a H c):Er H c:=λ b f=>⟨λ e=>s b _ (λ z=>by rw [z,h] at e;cases e) e,λ o e=>s b _ (λ z=>by rw [z,h] at e;cases e) e⟩
theorem M4 {n:Nat}(h:n<=50000):n < X3:=QH h ⋯
inductive zM (C:Addr)(vs:List V)(H:Hp)(Q:VK)(z3:XK):Prop | mk (a dx wl:_) (_:vs=[.ref a,.ref wl]) (_:H a=some (.ins C dx [])) (_:Q .non (upd H a (CW C dx wl 0)))
inductive uf (C:Addr)(vs:List V)(H:Hp)(Q:VK)(z3:XK):Prop | mk (a dx wl ws i:_) (_:vs=[.ref a]) (_:RdAt C a dx wl ws i H) (_:Q (.bl (decide (i=ws.length))) H)
inductive oH (C:Addr)(vs:List V)(H:Hp)(Q:VK)(z3:XK):Prop | mk (a dx wl ws i z:_) (_:vs=[.ref a,.str z]) (_:RdAt C a dx wl ws i H) (_:i<=ws.length) (_:(ws[i]?=some z->Q (.bl true) (upd H a (CW C dx wl (i+1))))) (_:(ws[i]?≠some z->Q (.bl false) H))
inductive AQ0 (vs:List V)(H:Hp)(Q:VK)(z3:XK):Prop | mk (x:Str) (_:vs=[.str x]) (_:x.length+2<=X3) (_:(XO x (Y2 " ")).length<=20001) (_:(∀w∈XO x (Y2 " "),w.length<=50000)) (_:∀l H',Same H H'->H l=none->H' l=some (.lst ((Bl (XO x (Y2 " "))).map V.str))->Q (.ref l) H')
inductive aP (K:FrG)(vs:List V)(H:Hp)(Q:VK)(z3:XK):Prop | mk (v:V) (q:Rat) (_:vs=[v]) (_:DV K H v (Av q)) (_:Short q) (_:Q (.str (Ay q)) H)
inductive yC (K:FrG)(vs:List V)(H:Hp)(Q:VK)(z3:XK):Prop | mk (q:Rat) (_:vs=[.str (Ay q)]) (_:Short q) (_:∀v H',Same H H'->DV K H' v (Av q)->Q v H')
def Cj (p:Pc):Prop:=p.ok/\∀q∈fracs p,Short q
inductive cz (K:FrG)(vs:List V)(H:Hp)(Q:VK)(z3:XK):Prop | mk (v:V) (p:Pc) (_:vs=[v]) (_:DV K H v (CK p)) (_:Cj p) (_:∀H',Same H H'->Q (.str (DQ p)) H')
inductive Yc (K:FrG)(vs:List V)(H:Hp)(Q:VK)(z3:XK):Prop | mk (v:V) (ps:List Pc) (_:vs=[v]) (_:DV K H v (Hf ps)) (_:ps.length<=60) (_:(∀p∈ps,Cj p)) (_:∀H',Same H H'->Q (.str (Ef ps)) H')
theorem Ji (p:Pc):(toks p).length<=3/\2<=(toks p).length:=by cases p<;>exact ⟨by simp [toks,fracs],by simp [toks,fracs]⟩
theorem Px {q:Rat}(h:Short q):(Ay q).length<=40:=by rw [<- DX,Em];exact eX q h
theorem qy (p:Pc):(HJ p).length<=3:=by cases p<;>simp [HJ]
theorem az:∀ps:List Pc,(Fq ps).length<=3 * ps.length
 | []=>by decide
 | [p]=>by have:=Ji p;show (toks p).length<=3 * 1;omega
 | p::q::r=>by
  show (HJ p++Fq (q::r)).length<=_;rw [ZA];have:=qy p;have:=az (q::r);simp only [W6] at *;omega
theorem MK (p:Pc)(h:Cj p)(t:Str)(m:t∈toks p):t.length<=50:=by
 rcases ZN.mp m with rfl | m
 ·cases p with
  | gap _=>show (Y2 "gap").length<=50;decide+kernel
  | glass _=>show (Y2 "glass").length<=50;decide+kernel
  | stop _ _=>show (Y2 "stop").length<=50;decide+kernel
 ·obtain ⟨q,a,rfl⟩:=UG.mp m;have:=Px (h.2 q a);omega
theorem kJ (p:Pc)(h:Cj p)(t:Str)(m:t∈HJ p):t.length<=50:=by
 have e:∀q∈fracs p,(Ay q++(⟨#[59]⟩:Str)).length<=50:=λ q a=>by
  rw [<- DX,Bw,ZA,DX];have:=Px (h.2 q a);show _+1<=50;omega
 have s:∀q∈fracs p,(Ay q).length<=50:=λ q a=>by have:=Px (h.2 q a);omega
 cases p<;>simp only [HJ,ZN,WB,or_false] at m
 ·rcases m with rfl | rfl
  ·decide+kernel
  ·exact e _ (by simp [fracs])
 ·rcases m with rfl | rfl
  ·decide+kernel
  ·exact e _ (by simp [fracs])
 ·rcases m with rfl | rfl | rfl
  ·decide+kernel
  ·exact s _ (by simp [fracs])
  ·exact e _ (by simp [fracs])
theorem bO:∀(ps:List Pc),(∀p∈ps,Cj p)->∀t∈Fq ps,t.length<=50
 | [],_,t,h=>by cases h
 | [p],a,t,h=>MK p (a p YV) t h
 | p::q::r,a,t,h=>by
  rcases XE.mp (show t∈HJ p++Fq (q::r) from h) with m | m
  ·exact kJ p (a p YV) t m
  ·exact bO (q::r) (λ x b=>a x (ZX _ b)) t m
theorem YL (a:Str)(ts:List Str)(B:Nat)(h:∀t∈ts,t.length<=B):(ZZ a ts).length<=ts.length * (B+a.length):=by
 have d:=MY a ts;have e:(ts.map (·.length)).sum<=ts.length * B:=by
  induction ts with
  | nil=>exact Qi _
  | cons t ts b=>
   rw [YY,NU,W6,CD];have:=h t YV;have:=b (λ x c=>h x (ZX _ c)) (MY a ts)
   omega
 rw [Nat.mul_add];omega
theorem pB {ps:List Pc}(h:ps.length<=60)(a:∀p∈ps,Cj p):(Ef ps).length<=10000:=by
 cases ps with
 | nil=>decide+kernel
 | cons p r=>
  rw [cO _ (by simp)]
  have b:=YL ⟨#[32]⟩ (Fq (p::r)) 50 (bO _ a);have c:=az (p::r);have d:(Fq (p::r)).length * (50+(⟨#[32]⟩:Str).length)<=180 * 51:=ja ∅ ⋯
  omega
end Lib
namespace L2
open PySem PySem.Spec PyProof.Rows
end L2
namespace Tx
open PySem PySem.Spec PySem.Builtin PySem.Builtin.Str L2 Lib Op
inductive PartF (α:Type) where
 | pc (p:Pc)
 | rd (n:Nat) (ps:List α)
def Part:Nat->Type
 | 0=>Empty
 | k+1=>PartF (Part k)
def CN (n:Nat):Y1:=⟨(dg n).toArray⟩
theorem Hh (n:Nat):cl (CN n)=dg n:=by show (dg n).toArray.toList=_;simp
abbrev Aa:=Y2
def jn {a:Type}(f:a->List Y1):List a->List Y1
 | []=>[]
 | [p]=>f p
 | p::q::r=>f p++Aa ";"::jn f (q::r)
def Bk:(k:Nat)->Part k->List Y1
 | 0,e=>nomatch e
 | _+1,.pc p=>toks p
 | k+1,.rd n ps=>CN n::Aa "times"::Aa "("::(jn (Bk k) ps++[Aa ")"])
def semi:List Y1->List Y1
 | []=>[]
 | [t]=>[t++⟨#[59]⟩]
 | t::u::r=>t::semi (u::r)
def gj {a:Type}(f:a->List Y1):List a->List Y1
 | []=>[]
 | [p]=>f p
 | p::q::r=>semi (f p)++gj f (q::r)
def Dg:(k:Nat)->Part k->List Y1
 | 0,e=>nomatch e
 | _+1,.pc p=>toks p
 | k+1,.rd n ps=>CN n::Aa "times"::Aa "("::(gj (Dg k) ps++[Aa ")"])
def JG:(k:Nat)->Part k->Y1
 | 0,e=>nomatch e
 | _+1,.pc p=>DQ p
 | k+1,.rd n ps=>CN n++Aa " times ( "++wm (Aa "; ") (ps.map (JG k))++Aa " )"
def textL (k:Nat)(ps:List (Part k)):Y1:=wm (Aa "; ") (ps.map (JG k))
def WP:(k:Nat)->Part k->Prop
 | 0,e=>nomatch e
 | _+1,.pc p=>Cj p
 | k+1,.rd n ps=>n<=60/\ps≠[]/\ps.length<=50000/\∀p∈ps,WP k p
def cnt:(k:Nat)->Part k->Nat
 | 0,e=>nomatch e
 | _+1,.pc _=>1
 | k+1,.rd n ps=>n * (ps.map (cnt k)).sum
def told:(k:Nat)->Part k->List Pc
 | 0,e=>nomatch e
 | _+1,.pc p=>[p]
 | k+1,.rd n ps=>(YO n (ps.map (told k)).flatten).flatten
def Ca (k:Nat)(ps:List (Part k)):Nat:=(ps.map (cnt k)).sum
def Eu (k:Nat)(ps:List (Part k)):List Pc:=(ps.map (told k)).flatten
theorem Zh:∀(k:Nat) (p:Part k),(told k p).length=cnt k p
 | 0,e=>nomatch e
 | _+1,.pc _=>rfl
 | k+1,.rd n ps=>by
  show (YO n (ps.map (told k)).flatten).flatten.length=n * (ps.map (cnt k)).sum;rw [L2.VG]
  congr 1
  induction ps with
  | nil=>rfl
  | cons p r a=>rw [YY,UN,ZA,a,YY,NU,Zh k p]
theorem Zi (k:Nat)(ps:List (Part k)):(Eu k ps).length=Ca k ps:=by
 unfold Eu Ca
 induction ps with
 | nil=>rfl
 | cons p r a=>rw [YY,UN,ZA,a,YY,NU,Zh k p]
theorem Xm (p:Pc):toks p≠[]:=by unfold toks;simp
theorem MT:∀(k:Nat) (p:Part k),Dg k p≠[]
 | 0,e=>nomatch e
 | _+1,.pc p=>Xm p
 | _+1,.rd _ _=>by simp [Dg]
theorem R7:∀{ts:List Y1},ts≠[]->semi ts≠[]
 | [],h=>absurd rfl h
 | [_],_=>by simp [semi]
 | _::_::_,_=>by simp [semi]
theorem Zg:∀(xs:List Y1) (x:Y1),semi (xs++[x])=xs++[x++⟨#[59]⟩]
 | [],_=>rfl
 | [a],_=>rfl
 | a::b::r,x=>by
  show a::semi ((b::r)++[x])=a::((b::r)++[x++⟨#[59]⟩]);rw [Zg (b::r) x]
theorem Wc {a:Type}{f:a->List Y1}(hf:∀p,f p≠[]):∀{ps:List a},ps≠[]->gj f ps≠[]
 | [],h=>absurd rfl h
 | [p],_=>hf p
 | p::q::r,_=>λ e=>R7 (hf p) (List.append_eq_nil_iff.mp e).1
theorem Jr (s x y:Y1)(r:List Y1):ZZ s (x::y::r)=x++s++ZZ s (y::r):=rfl
theorem O1 (a b c:Y1):a++b++c=a++(b++c):=ext (by rw [Bw,Bw,Bw,Bw,WG])
theorem Q8 (s:Y1):∀{a b:List Y1},a≠[]->b≠[]->ZZ s (a++b)=ZZ s a++s++ZZ s b
 | [],_,h,_=>absurd rfl h
 | [x],[],_,h=>absurd rfl h
 | [x],y::r,_,_=>rfl
 | x::y::a,b,_,h=>by
  show ZZ s (x::y::(a++b))=_;rw [Jr,Jr,show y::(a++b)=(y::a)++b from rfl,Q8 s (a:=y::a) (by simp) h]
  simp only [O1]
theorem Xd (s:Y1):∀{ts:List Y1},ts≠[]->ZZ s (semi ts)=ZZ s ts++⟨#[59]⟩
 | [],h=>absurd rfl h
 | [_],_=>rfl
 | x::y::r,_=>by
  show ZZ s (x::semi (y::r))=_;have a:=Xd s (ts:=y::r) (by simp)
  obtain ⟨u,us,e⟩:∃u us,semi (y::r)=u::us:=by
   cases h:semi (y::r) with
   | nil=>exact absurd h (R7 (by simp))
   | cons u us=>exact ⟨u,us,rfl⟩
  rw [e,Jr,<- e,a,Jr];simp only [O1]
theorem Vt {b:Type}{f:b->List Y1}{a:b->Y1}(hf:∀p,f p≠[])(c:∀p,a p=ZZ ⟨#[32]⟩ (f p)):∀{ps:List b},ps≠[]->wm (Aa "; ") (ps.map a)=ZZ ⟨#[32]⟩ (gj f ps)
 | [],h=>absurd rfl h
 | [p],_=>by rw [Fv];exact c p
 | p::q::r,_=>by
  have d:=Vt hf c (ps:=q::r) (by simp)
  rw [Fv] at d ⊢;show ZZ (Aa "; ") (a p::a q::r.map a)=ZZ ⟨#[32]⟩ (semi (f p)++gj f (q::r));rw [Jr,Q8 _ (R7 (hf p)) (Wc hf (by simp)),Xd _ (hf p),<- c p,<- d]
  show a p++Aa "; "++ZZ (Aa "; ") ((q::r).map a)=a p++⟨#[59]⟩++⟨#[32]⟩++ZZ (Aa "; ") ((q::r).map a);rw [show Aa "; "=(⟨#[59]⟩:Y1)++⟨#[32]⟩ by decide+kernel]
  simp only [O1]
theorem eU:∀(k:Nat) (p:Part k),WP k p->JG k p=ZZ ⟨#[32]⟩ (Dg k p)
 | 0,e,_=>nomatch e
 | _+1,.pc p,_=>by
  show DQ p=ZZ ⟨#[32]⟩ (toks p);unfold DQ;rw [Fv,JK]
 | k+1,.rd n ps,h=>by
  have e1:wm (Aa "; ") (ps.map (JG k))=ZZ ⟨#[32]⟩ (gj (Dg k) ps):=by
   have:∀{qs:List (Part k)},(∀p∈qs,WP k p)->qs.map (JG k)=qs.map λ p=>ZZ ⟨#[32]⟩ (Dg k p):=λ {qs} a=>zi λ p b=>eU k p (a p b)
   rw [this h.2.2.2];exact Vt (MT k) (λ _=>rfl) h.2.1
  show CN n++Aa " times ( "++wm (Aa "; ") (ps.map (JG k))++Aa " )"=ZZ ⟨#[32]⟩ (CN n::Aa "times"::Aa "("::(gj (Dg k) ps++[Aa ")"]));rw [e1,show CN n::Aa "times"::Aa "("::(gj (Dg k) ps++[Aa ")"])=[CN n,Aa "times",Aa "("]++(gj (Dg k) ps++[Aa ")"]) from rfl,Q8 _ (by simp) (by simp),Q8 _ (Wc (MT k) h.2.1) (by simp)]
  show _=CN n++⟨#[32]⟩++(Aa "times"++⟨#[32]⟩++Aa "(")++⟨#[32]⟩++(ZZ ⟨#[32]⟩ (gj (Dg k) ps)++⟨#[32]⟩++Aa ")");rw [show Aa " times ( "=(⟨#[32]⟩:Y1)++(Aa "times"++⟨#[32]⟩++Aa "(")++⟨#[32]⟩ by decide+kernel,show Aa " )"=(⟨#[32]⟩:Y1)++Aa ")" by decide+kernel]
  simp only [O1]
theorem cA {k:Nat}{ps:List (Part k)}(h:∀p∈ps,WP k p)(ne:ps≠[]):textL k ps=ZZ ⟨#[32]⟩ (gj (Dg k) ps):=by
 unfold textL;rw [zi λ p a=>eU k p (h p a)]
 exact Vt (MT k) (λ _=>rfl) ne
theorem gG:∀{ts:List Y1} {t:Y1},t∈semi ts->t∈ts\/∃u∈ts,t=u++⟨#[59]⟩
 | [],_,h=>nomatch h
 | [u],t,h=>.inr ⟨u,by simp,ZB.mp h⟩
 | u::v::r,t,h=>by
  rcases ZN.mp (show t∈u::semi (v::r) from h) with rfl | h
  ·exact .inl (by simp)
  ·rcases gG h with h | ⟨w,a,b⟩
   ·exact .inl (ZX _ h)
   ·exact .inr ⟨w,ZX _ a,b⟩
theorem ik {ts:List Y1}(h:∀t∈ts,32∉cl t):∀t∈semi ts,32∉cl t:=λ t ht m=>by
 rcases gG ht with a | ⟨u,a,rfl⟩
 ·exact h t a m
 ·rw [Bw] at m;rcases XE.mp m with m | m
  ·exact h u a m
  ·exact absurd m ⋯
theorem Wr {a:Type}{f:a->List Y1}:∀{ps:List a},(∀p∈ps,∀t∈f p,32∉cl t)->∀t∈gj f ps,32∉cl t
 | [],_=>λ _ h=>nomatch h
 | [p],hf=>hf p (by simp)
 | p::q::r,hf=>λ t ht=>by
  rcases XE.mp (show t∈semi (f p)++gj f (q::r) from ht) with h | h
  ·exact ik (hf p (by simp)) t h
  ·exact Wr (λ p b=>hf p (ZX _ b)) t h
theorem Um (n c:Nat)(h:¬ (48<=c/\c<=57)):c∉dg n:=λ m=>h (JH n c m)
theorem Vj (p:Pc):(∀t∈toks p,32∉cl t)/\∀t∈toks p,59∉cl t:=by
 have a:32∉cl (wd p)/\59∉cl (wd p):=by cases p<;>exact ⟨by show _∉cl (Y2 _);decide+kernel,by show _∉cl (Y2 _);decide+kernel⟩
 refine ⟨λ t ht=>?_,λ t ht=>?_⟩
 ·rcases ZN.mp (show t∈wd p::(fracs p).map Ay from ht) with rfl | h
  ·exact a.1
  ·obtain ⟨q,_,rfl⟩:=UG.mp h;exact Kl q 32 ∅
 ·rcases ZN.mp (show t∈wd p::(fracs p).map Ay from ht) with rfl | h
  ·exact a.2
  ·obtain ⟨q,_,rfl⟩:=UG.mp h;exact Kl q 59 ∅
theorem ZQ:∀(k:Nat) (p:Part k),∀t∈Dg k p,32∉cl t
 | 0,e=>nomatch e
 | _+1,.pc p=>(Vj p).1
 | k+1,.rd n ps=>λ t ht=>by
  simp only [Dg,ZN,XE,WB,or_false] at ht;rcases ht with rfl | rfl | rfl | h | rfl
  ·rw [Hh];exact Um n 32 ∅
  ·decide+kernel
  ·decide+kernel
  ·exact Wr (λ p _=>ZQ k p) t h
  ·decide+kernel
theorem uX {k:Nat}{ps:List (Part k)}(h:∀p∈ps,WP k p)(ne:ps≠[]):XO (textL k ps) (Y2 " ")=gj (Dg k) ps:=by
 refine Ny ?_;rw [JK,GF,cA h ne];exact Ms (Wc (MT k) ne) (Wr λ p _=>ZQ k p)
theorem Wv (a b:List Y1):Bl (a++b)=Bl a++Bl b:=by unfold Bl;rw [Ye,FA]
theorem Eh (a:Y1)(b:List Y1):Bl (a::b)=Cu a++Bl b:=by unfold Bl;rw [YY,UN]
theorem Yp:∀{ts:List Y1},(∀t∈ts,59∉cl t)->Bl ts=ts
 | [],_=>rfl
 | t::r,h=>by rw [Eh,Iz (h t (by simp)),Yp λ x a=>h x (ZX _ a)];rfl
theorem Zw:∀{ts:List Y1},ts≠[]->(∀t∈ts,59∉cl t)->Bl (semi ts)=ts++[Aa ";"]
 | [],h,_=>absurd rfl h
 | [t],_,_=>by show Bl [t++⟨#[59]⟩]=_;rw [Eh,Xr];rfl
 | t::u::r,_,h=>by
  show Bl (t::semi (u::r))=_;rw [Eh,Iz (h t (by simp)),Zw (by simp) λ x a=>h x (ZX _ a)]
  rfl
theorem T9 {a:Type}{f b:a->List Y1}(c:∀p,Bl (f p)=b p)(d:∀p,Bl (semi (f p))=b p++[Aa ";"]):∀ps:List a,Bl (gj f ps)=jn b ps
 | []=>rfl
 | [p]=>c p
 | p::q::r=>by
  show Bl (semi (f p)++gj f (q::r))=b p++Aa ";"::jn b (q::r);rw [Wv,d,T9 c d (q::r),WG];rfl
theorem Mq:∀(k:Nat) (p:Part k),Bl (Dg k p)=Bk k p/\Bl (semi (Dg k p))=Bk k p++[Aa ";"]
 | 0,e=>nomatch e
 | _+1,.pc p=>⟨Yp (Vj p).2,Zw (Xm p) (Vj p).2⟩
 | k+1,.rd n ps=>by
  have a:=T9 (λ p=>(Mq k p).1) (λ p=>(Mq k p).2) ps
  have b:Cu (CN n)=[CN n]:=Iz (by rw [Hh];exact Um n 59 ∅)
  have c:Cu (Aa "times")=[Aa "times"]:=Iz (by decide+kernel)
  have d:Cu (Aa "(")=[Aa "("]:=Iz (by decide+kernel)
  have f:Bl [Aa ")"]=[Aa ")"]:=by rw [Eh,Iz (by decide+kernel)];rfl
  have g:Bl [Aa ")"++⟨#[59]⟩]=[Aa ")",Aa ";"]:=by rw [Eh,Xr];rfl
  refine ⟨?_,?_⟩
  ·show Bl (CN n::Aa "times"::Aa "("::(gj (Dg k) ps++[Aa ")"]))=CN n::Aa "times"::Aa "("::(jn (Bk k) ps++[Aa ")"]);rw [Eh,Eh,Eh,Wv,a,b,c,d,f];rfl
  ·show Bl (semi ((CN n::Aa "times"::Aa "("::gj (Dg k) ps)++[Aa ")"]))=(CN n::Aa "times"::Aa "("::(jn (Bk k) ps++[Aa ")"]))++[Aa ";"];rw [Zg,Wv,Eh,Eh,Eh,a,b,c,d,g];simp
theorem f9 {k:Nat}{ps:List (Part k)}(h:∀p∈ps,WP k p)(ne:ps≠[]):Bl (XO (textL k ps) (Y2 " "))=jn (Bk k) ps:=by
 rw [uX h ne];exact T9 (λ p=>(Mq k p).1) (λ p=>(Mq k p).2) ps
theorem Zk (c:Nat):∀l:List Nat,(cut c l).length<=l.length+1/\∀x∈cut c l,x.length<=l.length
 | []=>⟨by simp [cut],λ x b=>by simp [cut] at b;subst b;simp⟩
 | a::l=>by
  obtain ⟨e,d⟩:=Zk c l;have ne:=Ww c l;show (if a=c then []::cut c l else match cut c l with
   | []=>[[a]]
   | p::ps=>(a::p)::ps).length<=_/\∀x∈(if a=c then []::cut c l else match cut c l with
   | []=>[[a]]
   | p::ps=>(a::p)::ps),x.length<=_
  cases f:cut c l with
  | nil=>exact absurd f ne
  | cons p ps=>
   rw [f] at e d;by_cases z:a=c
   ·rw [if_pos z];refine ⟨by simp only [W6] at e ⊢;omega,λ x b=>?_⟩
    rcases ZN.mp b with rfl | b
    ·exact Qi _
    ·have:=d x b;simp only [W6];omega
   ·rw [if_neg z];refine ⟨by simp only [W6] at e ⊢;omega,λ x b=>?_⟩
    rcases ZN.mp b with rfl | b
    ·have:=d p (by simp);simp only [W6];omega
    ·have:=d x (ZX _ b);simp only [W6];omega
theorem qw (x:Y1):(XO x (Y2 " ")).length<=x.length+1/\∀t∈XO x (Y2 " "),t.length<=x.length:=by
 have e:=GF x 32;have h:=Zk 32 (cl x);rw [<- e,DX,X9] at h;rw [JK];refine ⟨h.1,λ t ht=>?_⟩
 rw [<- DX];exact h.2 _ (List.mem_map_of_mem ht)
theorem AK8 (ts:List Y1):(Bl ts).length<=2 * ts.length:=by
 induction ts with
 | nil=>exact ZE _
 | cons w b a=>
  rw [Eh,ZA,W6];have:(Cu w).length<=2:=by unfold Cu;split<;>simp
  omega
theorem Yd:∀(k:Nat) (p:Part k),1<=(Bk k p).length
 | 0,e=>nomatch e
 | _+1,.pc p=>by have:=Ji p;show 1<=(toks p).length;omega
 | _+1,.rd _ _=>by simp [Bk]
theorem Vq {k:Nat}:∀ps:List (Part k),ps.length<=(jn (Bk k) ps).length
 | []=>ZE _
 | [p]=>Yd k p
 | p::q::r=>by
  show (q::r).length+1<=(Bk k p++Aa ";"::jn (Bk k) (q::r)).length;rw [ZA];have b:=Yd k p;have a:=Vq (q::r);simp only [W6] at a ⊢;omega
def R9 (k:Nat):List (Part k)->List Y1
 | []=>[]
 | q::r=>Aa ";"::jn (Bk k) (q::r)
theorem bB (k:Nat)(p:Part k)(r:List (Part k)):jn (Bk k) (p::r)=Bk k p++R9 k r:=by
 cases r with
 | nil=>show Bk k p=Bk k p++[];rw [WC]
 | cons q r=>rfl
end Tx
namespace Lib
open PySem L2 Fr Op Tx
def PV (K:FrG):(k:Nat)->(Addr->Prop)->Hp->V->Part k->Prop
 | 0,_,_,_,e=>nomatch e
 | _+1,_,H,v,.pc p=>DV K H v (CK p)
 | k+1,F,H,v,.rd n ps=>∃(t l:Addr) (xs:List V),v=.ref t/\H t=some (.tup [.str (Aa "times"),.int (n:Int),.ref l])/\F l/\H l=some (.lst xs)/\xs.length=ps.length/\∀(i:Nat) (x:V) (p:Part k),xs[i]?=some x->ps[i]?=some p->PV K k F H x p
def PVs (K:FrG)(k:Nat)(F:Addr->Prop)(H:Hp)(xs:List V)(ps:List (Part k)):Prop:=xs.length=ps.length/\∀(i:Nat) (x:V) (p:Part k),xs[i]?=some x->ps[i]?=some p->PV K k F H x p
theorem PV.keep {K:FrG}{F o:Addr->Prop}{H a:Hp}(b:Er H a)(c:∀l xs,F l->H l=some (.lst xs)->a l=some (.lst xs)/\o l):∀(k:Nat) {v:V} {p:Part k},PV K k F H v p->PV K k o a v p
 | 0,_,e,_=>nomatch e
 | _+1,_,.pc p,h=>Gy b (IV p) h
 | k+1,_,.rd n ps,h=>by
  obtain ⟨t,l,xs,e,ht,d,hl,f,g⟩:=h;exact ⟨t,l,xs,e,(b _ _).1 ht,(c l xs d hl).2,(c l xs d hl).1,f,λ i x p j m=>PV.keep b c k (g i x p j m)⟩
theorem PVs.keep {K:FrG}{F f:Addr->Prop}{H a:Hp}{k:Nat}{xs:List V}{ps:List (Part k)}(h:PVs K k F H xs ps)(b:Er H a)(c:∀l xs,F l->H l=some (.lst xs)->a l=some (.lst xs)/\f l):PVs K k f a xs ps:=
 ⟨h.1,λ i x p d e=>PV.keep b c k (h.2 i x p d e)⟩
theorem PVs.same {K:FrG}{F:Addr->Prop}{H a:Hp}{k:Nat}{xs:List V}{ps:List (Part k)}(h:PVs K k F H xs ps)(s:Same H a):PVs K k F a xs ps:=h.keep s.t λ l xs b hl=>⟨s _ _ hl,b⟩
theorem PVs.nil {K:FrG}{F:Addr->Prop}{H:Hp}{k:Nat}:PVs K k F H [] []:=⟨rfl,λ i x p h=>nomatch h⟩
theorem PVs.concat {K:FrG}{F:Addr->Prop}{H:Hp}{k:Nat}{xs:List V}{ps:List (Part k)}{v:V}{p:Part k}(h:PVs K k F H xs ps)(c:PV K k F H v p):PVs K k F H (xs++[v]) (ps++[p]):=by
 refine ⟨by rw [ZA,ZA,h.1];rfl,λ i x q a b=>?_⟩
 by_cases hi:i < xs.length
 ·rw [Uc hi] at a;rw [Uc (by rw [<- h.1];exact hi)] at b
  exact h.2 i x q a b
 ·have hl:=CJ a;rw [ZA] at hl;have e:i=xs.length:=by simp only [W6,XG] at hl;omega
  subst e;rw [Uq (ZE _),MZ] at a;rw [h.1,Uq (ZE _),MZ] at b;cases a
  cases b
  exact c
def TkAt (ws:List Str)(i:Nat)(ts:List Str):Prop:=∀(j:Nat) (t:Str),ts[j]?=some t->ws[i+j]?=some t
theorem TkAt.left {ws a b:List Str}{i:Nat}(h:TkAt ws i (a++b)):TkAt ws i a:=λ j t ht=>h j t (by rw [Uc (CJ ht)];exact ht)
theorem TkAt.right {ws a b:List Str}{i:Nat}(h:TkAt ws i (a++b)):TkAt ws (i+a.length) b:=λ j t ht=>by
 rw [Nat.add_assoc];exact h (a.length+j) t (by rw [Uq ∅,Nat.add_sub_cancel_left];exact ht)
theorem TkAt.head {ws b:List Str}{i:Nat}{t:Str}(h:TkAt ws i (t::b)):ws[i]?=some t:=h 0 t rfl
theorem TkAt.tail {ws b:List Str}{i:Nat}{t:Str}(h:TkAt ws i (t::b)):TkAt ws (i+1) b:=TkAt.right (a:=[t]) h
def JR (H:Hp):Addr->Prop:=λ b=>H b=none
inductive xM (K:FrG)(k:Nat)(vs:List V)(H:Hp)(Q:VK)(z3:XK):Prop | mk (l:Addr) (xs:List V) (ps:List (Part k)) (F:Addr->Prop) (_:vs=[.ref l]) (_:H l=some (.lst xs)) (_:PVs K k F H xs ps) (_:ps.length<=50000) (_:(∀p∈ps,WP k p)) (_:k<=5) (_:Q (.int (Ca k ps:Int)) H)
inductive kj (K:FrG)(k:Nat)(vs:List V)(H:Hp)(Q:VK)(z3:XK):Prop | mk (l:Addr) (xs:List V) (ps:List (Part k)) (F:Addr->Prop) (_:vs=[.ref l]) (_:H l=some (.lst xs)) (_:PVs K k F H xs ps) (_:ps.length<=50000) (_:(∀p∈ps,WP k p)) (_:Ca k ps<=60) (_:∀l ys H',Same H H'->H l=none->H' l=some (.lst ys)->DVs K H' ys ((Eu k ps).map CK)->Q (.ref l) H')
end Lib
namespace L2
open PySem PySem.Spec PyProof.Rows
section
variable {κ:Type}[DecidableEq κ]
def valV (a:List (κ×V))(k:κ):Option V:=(a.find? λ b=>decide (b.1=k)).map (·.2)
def putK (a:List (κ×V))(k:κ)(v:V):List (κ×V):=
 if (a.any λ b=>decide (b.1=k))=true then a.map (λ b=>if b.1=k then (b.1,v) else b) else a++[(k,v)]
theorem FZ {p:κ×V}{r:List (κ×V)}{k:κ}(e:p.1=k):valV (p::r) k=some p.2:=by simp [valV,xy,e]
theorem FW {p:κ×V}{r:List (κ×V)}{k:κ}(e:¬ p.1=k):valV (p::r) k=valV r k:=by simp [valV,xy,e]
theorem M3 (k:κ):∀a:List (κ×V),(a.any λ b=>decide (b.1=k))=(valV a k).isSome
 | []=>rfl
 | p::r=>by
  rw [qa];by_cases e:p.1=k
  ·simp only [FZ e,ζ e,Bi,Option.isSome_some]
  ·rw [FW e,η e,AX];exact M3 k r
theorem Za (k j:κ)(y:V):∀a:List (κ×V),valV (a.map λ b=>if b.1=k then (b.1,y) else b) j=(valV a j).map λ x=>if j=k then y else x
 | []=>rfl
 | p::r=>by
  have c:=Za k j y r;rw [YY];by_cases h:p.1=k
  ·rw [if_pos h];by_cases e:p.1=j
   ·rw [FZ (p:=(p.1,y)) e,FZ e,zn,if_pos (e.symm.trans h)]
   ·rw [FW (p:=(p.1,y)) e,FW e,c]
  ·rw [if_neg h];by_cases e:p.1=j
   ·rw [FZ (p:=p) e,FZ e,zn,if_neg (λ z=>h (e.trans z))]
   ·rw [FW (p:=p) e,FW e,c]
theorem ZS (k j:κ)(y:V):∀a:List (κ×V),valV a k=none->valV (a++[(k,y)]) j=if j=k then some y else valV a j
 | [],_=>by
  by_cases e:k=j
  ·rw [if_pos e.symm];exact FZ (p:=(k,y)) e
  ·rw [if_neg (λ z=>e z.symm)];exact FW (p:=(k,y)) e
 | p::r,hn=>by
  rw [GL];have b:¬ p.1=k:=λ z=>by rw [FZ z] at hn;cases hn
  rw [FW b] at hn;have c:=ZS k j y r hn;by_cases e:p.1=j
  ·rw [FZ e,FZ e,if_neg (λ z=>b (e.trans z))]
  ·rw [FW e,FW e,c]
theorem Rq (b:List (κ×V))(k j:κ)(y:V):valV (putK b k y) j=if j=k then some y else valV b j:=by
 unfold putK;by_cases a:(b.any λ c=>decide (c.1=k))=true
 ·rw [if_pos a,Za];rw [M3] at a;by_cases e:j=k
  ·obtain ⟨x,d⟩:=xR.mp a;rw [if_pos e,e,d,zn,if_pos rfl]
  ·rw [if_neg e];cases valV b j with
   | none=>rfl
   | some x=>rw [zn,if_neg e]
 ·rw [if_neg a];refine ZS k j y b ?_;rw [M3] at a;cases q:valV b k with
  | none=>rfl
  | some x=>rw [q] at a;exact (a rfl).elim
theorem gJ (a:List (κ×V))(k:κ)(v:V):(putK a k v).length<=a.length+1:=by
 unfold putK
 split
 ·rw [X9];omega
 ·rw [ZA,W6,XG];omega
theorem RelO.isSome_eq {o:Option V}{u:Option Value}(r:RelO o u):o.isSome=u.isSome:=by
 cases o with
 | none=>cases u with
  | none=>rfl
  | some _=>exact (show False from r).elim
 | some _=>cases u with
  | none=>exact (show False from r).elim
  | some _=>rfl
theorem RelO.getD {o:Option V}{u:Option Value}{d:V}{d':Value}(r:RelO o u)(rd:RelV d d'):RelV (o.getD d) (u.getD d'):=by
 cases o with
 | none=>cases u with
  | none=>exact rd
  | some _=>exact (show False from r).elim
 | some _=>cases u with
  | none=>exact (show False from r).elim
  | some _=>exact r
theorem KV.val {a:List (κ×V)}{vs:List (κ×Value)}(r:KV a vs)(k:κ):RelO (valV a k) (Bz vs k):=by
 unfold KV at r
 induction r with
 | nil=>exact zx
 | @cons p q ps qs h t f=>
  obtain ⟨d,g⟩:=h;by_cases e:p.1=k
  ·have c:q.1=k:=d.symm.trans e;have b:Bz (q::qs) k=some q.2:=by simp [Bz,xy,c]
   rw [FZ e,b];exact g
  ·have c:¬ q.1=k:=λ z=>e (d.trans z)
   have b:Bz (q::qs) k=Bz qs k:=by simp [Bz,xy,c]
   rw [FW e,b];exact f
theorem KV.any {a:List (κ×V)}{vs:List (κ×Value)}(r:KV a vs)(k:κ):(a.any λ b=>decide (b.1=k))=vs.any λ b=>decide (b.1=k):=by
 unfold KV at r
 induction r with
 | nil=>rfl
 | cons h t c=>rw [qa,qa,c,h.1]
theorem KV.repl {c:List (κ×V)}{vs:List (κ×Value)}(r:KV c vs)(k:κ){y:V}{u:Value}(d:RelV y u):
  KV (c.map λ a=>if a.1=k then (a.1,y) else a) (vs.map λ a=>if a.1=k then (a.1,u) else a):=by
 unfold KV at r ⊢
 induction r with
 | nil=>exact .nil
 | @cons p q ps qs h t f=>
  rw [YY,YY];refine .cons ?_ f;obtain ⟨b,g⟩:=h;by_cases e:p.1=k
  ·rw [if_pos e,if_pos (b.symm.trans e)];exact ⟨b,d⟩
  ·rw [if_neg e,if_neg (λ z=>e (b.trans z))];exact ⟨b,g⟩
theorem KV.put {a:List (κ×V)}{vs:List (κ×Value)}(r:KV a vs)(k:κ){y:V}{u:Value}(b:RelV y u):KV (putK a k y) (stored vs k u):=by
 unfold putK stored;rw [r.any k];by_cases e:(vs.any λ c=>decide (c.1=k))=true
 ·rw [if_pos e,if_pos e];exact r.repl k b
 ·rw [if_neg e,if_neg e];exact jS.snoc r ⟨rfl,b⟩
theorem KV.length {a:List (κ×V)}{vs:List (κ×Value)}(r:KV a vs):a.length=vs.length:=AV r
end
theorem JM {P:ZU}{w:World}{k:Key}{u:Value}(r:RelV (kV k) u):(mixKind P w).is k u=true:=by
 cases k with
 | inl i=>obtain ⟨t,e⟩:=(show ∃t,u=qA i t from r);subst e;exact iV P w i t
 | inr x=>obtain ⟨t,e⟩:=(show ∃t:NZ,u=Mi x t.1 from r);subst e;exact gm P w x t.1
theorem Xl {P:ZU}{w:World}:∀{ks:List Key} {us:List Value},Vals (ks.map kV) us->ItemsAre (mixKind P w) ks us
 | [],_,r=>by rw [MQ] at r;cases r;exact .nil
 | k::ks,_,r=>by
  rw [YY] at r;cases r with
  | cons h t=>exact .cons (JM h) (Xl t)
abbrev KT (H:Hp):List (List Key×V)->List (List Key×Addr×Value)->Prop:=jS λ p q=>p.1=q.1/\H q.2.1=some (.tup (p.1.map kV))/\RelV p.2 q.2.2
theorem KT.val {H:Hp}{a:List (List Key×V)}{xs:List (List Key×Addr×Value)}(r:KT H a xs)(k:List Key):RelO (valV a k) ((atKey xs k).map (·.2)):=by
 induction r with
 | nil=>exact zx
 | @cons p q ps qs h t f=>
  obtain ⟨d,_,g⟩:=h;by_cases e:p.1=k
  ·have c:q.1=k:=d.symm.trans e;have b:atKey (q::qs) k=some q.2:=by simp [atKey,xy,c]
   rw [FZ e,b];exact g
  ·have c:¬ q.1=k:=λ z=>e (d.trans z)
   have b:atKey (q::qs) k=atKey qs k:=by simp [atKey,xy,c]
   rw [FW e,b];exact f
theorem KT.repl {H:Hp}{b:List (List Key×V)}{xs:List (List Key×Addr×Value)}(r:KT H b xs)(k:List Key){y:V}{u:Value}(f:RelV y u):
  KT H (b.map λ c=>if c.1=k then (c.1,y) else c) (xs.map (putAt k u)):=by
 induction r with
 | nil=>exact .nil
 | @cons p q ps qs h t g=>
  rw [YY,YY];refine .cons ?_ g;obtain ⟨a,d,i⟩:=h;unfold putAt;by_cases e:p.1=k
  ·rw [if_pos e,if_pos (a.symm.trans e)];exact ⟨a,d,f⟩
  ·rw [if_neg e,if_neg (λ z=>e (a.trans z))];exact ⟨a,d,i⟩
theorem KT.put {H:Hp}{a:List (List Key×V)}{xs:List (List Key×Addr×Value)}(r:KT H a xs)(k:List Key){b:Addr}{y:V}{u:Value}(hb:H b=some (.tup (k.map kV)))(c:RelV y u):
  KT H (putK a k y) (storedH xs k b u):=by
 have e:(a.any λ d=>decide (d.1=k))=(atKey xs k).isSome:=by
  rw [M3,(r.val k).isSome_eq,Option.isSome_map]
 unfold putK storedH;rw [e];by_cases q:(atKey xs k).isSome=true
 ·rw [if_pos q,if_pos q];exact r.repl k c
 ·rw [if_neg q,if_neg q];exact jS.snoc r ⟨rfl,hb,c⟩
theorem KT.keeps {H c:Hp}{a:List (List Key×V)}{xs:List (List Key×Addr×Value)}(r:KT H a xs)(ht:∀b d,H b=some (.tup d)->c b=some (.tup d)):KT c a xs:=
 jS.mapP r λ _ _ z=>⟨z.1,ht _ _ z.2.1,z.2.2⟩
section
variable {P:ZU}{w:World}{H:Hp}{h:Heap}{a:Addr}
theorem YK {u:HO}(ok:HOk P w H h)(e:Rd H a u):ObjOk P w H h a u:=e.ok ok
theorem Nk {b:List (Key×V)}(ok:HOk P w H h)(e:Rd H a (.dK b)):b.length<=X3/\(a == yi)=false/\∃vs,KV b vs/\h.DictOf (mixKind P w) a vs:=
 show ObjOk P w H h a (.dK b) from YK ok e
theorem oN {b:List (Key×V)}(ok:HOk P w H h)(e:H a=some (.dK b)):b.length<=X3/\(a == yi)=false/\∃vs,KV b vs/\h.DictOf (mixKind P w) a vs:=Nk ok (.inl e)
theorem Pj {b:List Key}(ok:HOk P w H h)(e:H a=some (.tup (b.map kV))):(AM (mixKind P w)).is h b a:=by
 obtain ⟨_,c,r,o,d,f,n,g⟩:=(show ObjOk P w H h a (.tup (b.map kV)) from ok a _ e)
 exact ⟨o,c.toArray,n,d,f,g,by simpa using Xl r⟩
theorem PX {c:List (List Key×V)}(ok:HOk P w H h)(e:Rd H a (.dT c)):c.length<=X3/\(a == yi)=false/\
  ∃xs,KT H c xs/\h.DictOfH (AM (mixKind P w)) a xs:=by
 obtain ⟨z,y,xs,r,o,f,g,i,j,k,n,s⟩:=(show ObjOk P w H h a (.dT c) from YK ok e)
 refine ⟨z,y,xs,r,o,f,g,i,j,k,n,λ x b=>?_,s⟩
 have all:∀{l:List (List Key×V)} {m:List (List Key×Addr×Value)},KT H l m->∀x∈m,(AM (mixKind P w)).is h x.1 x.2.1:=by
  intro l m q
  induction q with
  | nil=>intro x b;exact nomatch b
  | @cons p q ps qs d t u=>
   intro x b;rcases ZN.mp b with e | b
   ·subst e;exact Pj ok (by rw [<- d.1];exact d.2.1)
   ·exact u x b
 exact all r x b
theorem xK {b:List (List Key×V)}(ok:HOk P w H h)(e:H a=some (.dT b)):b.length<=X3/\(a == yi)=false/\
  ∃xs,KT H b xs/\h.DictOfH (AM (mixKind P w)) a xs:=PX ok (.inl e)
end
def DGet (H:Hp)(a:Addr)(y:V)(r:Option V):Prop:=
 (∃c k,Rd H a (.dK c)/\y=kV k/\r=valV c k)\/∃c k b,Rd H a (.dT c)/\y=.ref b/\H b=some (.tup (k.map kV))/\r=valV c k
def DPut (H:Hp)(a:Addr)(y v:V)(d:Hp):Prop:=
 (∃c k,H a=some (.dK c)/\y=kV k/\c.length < X3/\d=upd H a (.dK (putK c k v)))\/
 ∃c k b,H a=some (.dT c)/\y=.ref b/\H b=some (.tup (k.map kV))/\c.length < X3/\d=upd H a (.dT (putK c k v))
theorem DGet.k {H:Hp}{a:Addr}{b:List (Key×V)}{k:Key}(e:H a=some (.dK b)):DGet H a (kV k) (valV b k):=.inl ⟨b,k,.inl e,rfl,rfl⟩
theorem DPut.k {H:Hp}{a:Addr}{b:List (Key×V)}{k:Key}{v:V}(e:H a=some (.dK b))(hl:b.length < X3):DPut H a (kV k) v (upd H a (.dK (putK b k v))):=.inl ⟨b,k,e,rfl,hl,rfl⟩
section
variable {X:Cx}{pins:List (Addr×Obj)}{σ:St}{H:Hp}{s:X1}{a:Addr}{y v:V}{u r:Value}{o:Option V}{A:XA}{E:Value->X1->Prop}
theorem Inv.big (b:Inv X pins σ H s):yi < s.heap.objs.size:=by
 have h:ZY < s.heap.objs.size:=(b.mod.glob.keeps b.bk).lt;exact yy ⋯ h
theorem lC {Q:Value->X1->Prop}(t:A.units+1 < cLine)(j:Inv X pins σ H s)(C:DGet H a y (some v))(m:RelV y u)(h:∀c s',Inv X pins σ H s'->RelV v c->Q c s'):
  wpAny (model X.prog X.w) A (NQ (.ref a) u) Q E s:=by
 rcases C with ⟨n,k,e,g,l⟩ | ⟨n,k,b,e,g,x,l⟩
 ·subst g;obtain ⟨z,hd,vs,d,dd⟩:=Nk j.hok e;obtain ⟨c,i,f⟩:=RelO.some_of (v:=v) (o:=Bz vs k) (by rw [l];exact d.val k)
  exact wpAny_getItem_of (JM m) dd.mapOf i (h c _ (j.tok _) f)
 ·subst g;cases (show u=Yf b from m)
  obtain ⟨z,hd,xs,d,dd⟩:=PX j.hok e;obtain ⟨c,i,f⟩:=RelO.some_of (v:=v) (o:=(atKey xs k).map (·.2)) (by rw [l];exact d.val k)
  obtain ⟨p,B,q⟩:=UD.mp i;refine wpAny_getItem_heap (Nq t) (Pj j.hok x) dd B ?_;rw [q];exact h c _ (j.tok _) f
theorem AJ4 {Q:Value->X1->Prop}(j:A.units+1 < cLine)(f:Inv X pins σ H s)(n:DGet H a y o)(g:RelV y u)(h:∀s',Inv X pins σ H s'->Q (.bool (!o.isSome)) s'):
  wpAny (model X.prog X.w) A (zk .NotIn u (.ref a)) Q E s:=by
 rcases n with ⟨i,k,e,d,l⟩ | ⟨i,k,b,e,d,m,l⟩
 ·subst d;obtain ⟨z,hd,vs,c,dd⟩:=Nk f.hok e;refine wpAny_notIn_of (JM g) hd dd.mapOf ?_;rw [<- (c.val k).isSome_eq,<- l];exact h _ (f.tok _)
 ·subst d;cases (show u=Yf b from g)
  obtain ⟨z,hd,xs,c,dd⟩:=PX f.hok e;refine wpAny_notIn_heap (Nq j) (Pj f.hok m) hd dd ?_;have q:=(c.val k).isSome_eq;rw [Option.isSome_map] at q;rw [<- q,<- l];exact h _ (f.tok _)
theorem Xe {h':Heap}{t':Nat}{ob:HO}(h:Inv X pins σ H s)(d:Mut (H a))(f:QA a s.heap h')(g:∃q,h'.get? a=some q)(c:ObjOk X.prog X.w (upd H a ob) h' a ob)(ht:X.tb<=t':=by first | assumption | exact Inv.tk (by assumption) | exact Xh (Inv.tk (by assumption)) | exact W8 (Inv.tk (by assumption)) (by assumption) | (have:=Inv.tk (by assumption);omega) | (have:=Inv.tk (by assumption);dsimp only at this;omega)):
  Inv X pins σ (upd H a ob) { s with heap:=h',toks:=t' }:=
 h.write (x:=a) (e:=a) d (.inl rfl) (λ b q hb z=>(f.2 b hb).trans z) g c
theorem xO {P:ZU}{w:World}{d:Hp}{h':Heap}{b:List (Key×V)}{vs:List (Key×Value)}(z:b.length<=X3)(hd:(a == yi)=false)(c:KV b vs)(dd:h'.DictOf (mixKind P w) a vs):
  ObjOk P w d h' a (.dK b):=⟨z,hd,vs,c,dd⟩
theorem wW {t:Hp}{Q:Unit->X1->Prop}(G:A.units+1 < cLine)(x:Inv X pins σ H s)(P:DPut H a y v t)(B:RelV y u)(C:RelV v r)(h:∀s',Inv X pins σ t s'->Q () s'):
  wpAny (model X.prog X.w) A (setItem (.ref a) u r) Q E s:=by
 rcases P with ⟨d,k,e,j,l,m⟩ | ⟨d,k,b,e,j,D,l,m⟩
 ·subst j m;obtain ⟨z,hd,vs,f,dd⟩:=oN x.hok e;have n:vs.length<=X3:=by rw [<- f.length];exact z
  have hl:(putK d k v).length<=X3:=by have:=gJ d k v;omega
  refine wpAny_setItem_pairs (hsz:=n) (JM B) dd λ h' g p=>h _ ?_
  have I:∃q,h'.get? a=some q:=let ⟨q,_,_,i,_⟩:=g;⟨q,i⟩
  exact Xe x (by rw [e];exact zx) p I (xO hl hd (f.put k C) g)
 ·subst j m;cases (show u=Yf b from B)
  obtain ⟨z,hd,xs,f,dd⟩:=xK x.hok e;have n:xs.length<=X3:=by rw [<- AV f];exact z
  have hl:(putK d k v).length<=X3:=by have:=gJ d k v;omega
  refine wpAny_setItem_heap (hsz:=n) (Nq G) (Pj x.hok D) dd λ h' g p=>h _ ?_
  obtain ⟨q,J,K,i,L,M,N,_,O⟩:=g;refine Xe x (by rw [e];exact zx) p ⟨q,i⟩ ⟨hl,hd,_,(f.put k D C).keeps λ c R F=>?_,q,J,K,i,L,M,N,O⟩
  rw [Al (yq F e (λ z=>nomatch z))]
  exact F
end
def NoSl (i:Expr):Prop:=∀a b,NO i false a b=operate [a,b] (NQ a b)
theorem dX {prog:ZU}{w:World}{A:XA}{E:Value->X1->Prop}{s:X1}{env:Env}{b a:Expr}{pos:Pos}{T id:String}{Q:Value->X1->Prop}
  (hl:typeLookup (.type T) "__getitem__"=pure (some (.builtin id))) (m:NoSl a)
  (h:wpAny (model prog w) A (eval b env) (λ o e=>wpAny (model prog w) A (eval a env) (λ i c=>c.TypeIs o T/\wpAny (model prog w) A (NQ o i) Q E c) E e) E s):
  wpAny (model prog w) A (eval (.Subscript b a pos) env) Q E s:=by
 refine GN (Wf h (λ o e j=>Wf j (λ i c d=>?_) λ _ _ x=>x) λ _ _ x=>x)
 obtain ⟨l,d⟩:=d;unfold NY;refine Y3 ?_;rw [getitemInPython_of_ne l.not_modules];refine Y3 (BF l hl ?_);have f:wpAny (model prog w) A (NO a false o i) (λ r g=>wpAny (model prog w) A (letTemporaryGo b o r >>= λ _=>pure r) Q E g) E c:=by
  rw [m o i];exact wpAny_operating (Wf d (λ r g k=>Y3 (wpAny_letTemporaryGo (ZI k))) λ _ _ x=>x)
 first
  | exact ZI (Y3 f)
  | exact Y3 (ZI (Y3 f))
  | exact Y3 f
theorem tL {X:Cx}{c:List (Addr×Obj)}{f:St}{H:Hp}{s:X1}{a:Addr}{y:V}{o:Option V}(g:Inv X c f H s)(h:DGet H a y o):s.TypeIs (.ref a) "dict":=by
 rcases h with ⟨d,k,e,_,_⟩ | ⟨d,k,b,e,_,_,_⟩
 ·obtain ⟨_,_,vs,_,dd⟩:=Nk g.hok e;exact dd.typeIs
 ·obtain ⟨_,_,xs,_,dd⟩:=PX g.hok e;exact dd.typeIs
def tDGet (d ty:TE):TE:=λ b H Q=>d b H λ x e=>ty b e λ y c=>∃a v,x=.ref a/\DGet c a y (some v)/\Q v c
def tDNotIn (ty d:TE):TE:=λ b H Q=>ty b H λ y e=>d b e λ x c=>∃a o,x=.ref a/\DGet c a y o/\Q (.bl (!o.isSome)) c
def sDPut (d ty e:TE):TS:=λ i b H=>e b H λ v f=>d b f λ x g=>ty b g λ y h=>∃a c,x=.ref a/\DPut h a y v c/\i.nx b c
section
variable {X:Cx}{o i e value:Expr}{pos pos' tpos:Pos}{td ty tv:TE}
theorem Xq (g:X.A.units+1 < cLine)(j:PE X o td)(hi:PE X i ty)(k:NoSl i):PE X (.Subscript o i pos) (tDGet td ty):=by
 intro b s c H Q C h;refine dX Nw.lookup k (thn (j b s c H _ C h) λ u l ⟨x,m,n,p,q⟩=>thn (hi b l c m _ n q) λ D E ⟨y,r,d,t,a,v,ex,B,w⟩=>?_)
 subst ex;obtain rfl:u=Yf a:=p;exact ⟨tL d B,lC g d B t λ G s3 z f=>⟨v,r,z,f,w⟩⟩
theorem Yu (d:X.A.units+1 < cLine)(hi:PE X i ty)(f:PE X o td):PC X .NotIn i o (tDNotIn ty td):=by
 intro b s c H Q w h;refine thn (hi b s c H _ w h) λ z g ⟨y,j,k,l,m⟩=>thn (f b g c j _ k m) λ u B ⟨x,n,p,q,a,r,ex,C,t⟩=>?_
 subst ex;obtain rfl:u=Yf a:=q;exact AJ4 d p C l λ s3 v=>⟨.bl (!r.isSome),n,v,rfl,t⟩
theorem lu (d:X.A.units+1 < cLine)(f:PE X o td)(hi:PE X i ty)(g:PE X value tv)(j:xz value (some (.Subscript o i pos')) pos.line X.env=pure false):
  PS X (.Assign [.Subscript o i pos'] value pos) (sDPut td ty tv):=by
 intro b s c H N I h;refine wpAny_Assign_Subscript (thn (g b s c H _ I h) λ r k ⟨v,l,m,n,p⟩=>thn (f b k c l _ m p) λ u q ⟨x,t,w,z,B⟩=>thn (hi b q c t _ w B) λ J s3 ⟨y,K,C,D,a,E,ex,L,F⟩=>?_) j
 subst ex;obtain rfl:u=Yf a:=z;exact wW d C L D n λ M G=>⟨c,E,G,F⟩
end
theorem nU {P:ZU}{w:World}{H:Hp}(h:Heap)(hb:yi < h.objs.size):ObjOk P w H (h.push { cls:=.type "dict",data:=.dict #[] }) h.objs.size (.dK []):=
 ⟨Qi _,beq_eq_false_iff_ne.mpr (WU (YP hb)),[],.nil,Heap.DictOf.new h⟩
def tDNewK:TE:=λ _ H Q=>∀p,H p=none->Q (.ref p) (upd H p (.dK []))
section
variable {X:Cx}{pos:Pos}
theorem nQ:PE X (.Dict [] [] pos) tDNewK:=λ b s d H Q c h=>
 wpAny_Dict_empty ⟨.ref s.heap.objs.size,_,c.laid (a:=s.heap.objs.size) (o:=.dK []) (t':=s.toks) (λ _ _ q=>X2 _ q) (ZE _) (nU s.heap c.big),rfl,h _ (c.hok.fresh (ZE _))⟩
end
structure M1 (X:Cx)(o:Expr)(m:Str)(apos:Pos)(e:Expr)(cpos:Pos):Prop where
 base:wc o m X.env (eval o X.env)=eval o X.env
 few:((Qe cpos (YE [e] X.env)).all (λ x=>!x.1) && (Gw cpos (xL [] X.env)).all (λ x=>x.1.isSome)
  && decide (([e]:List Expr).length+([]:List AN).length+(if ([]:List AN).isEmpty then 0 else 1) < 30))=true
 line:(apos.endLine == cpos.line)=true
 trees:Qe cpos (YE [e] X.env)=[(false,eval e X.env)]
end L2
namespace PySem
open Sem (wp)
end PySem
namespace L2
open PySem PySem.Spec PyProof.Rows PySem.Builtin
theorem RoomB.units1 {c:Bool}{k:Nat}{A:XA}(h:RoomB c k A):A.units+1 < cLine:=QH ∅ h.units
end L2
namespace L2
open PySem PySem.Spec PyProof.Rows
end L2
namespace L2
open PySem PySem.Spec PyProof.Rows PySem.Builtin
structure DKG (P:ZU)(w:World)(K:FrG)(a:Addr)(kvs:List (Key×V)):Prop where
 ex:∃(vs:List (Key×Value)) (o:Obj) (es:Array GO) (ep:Nat),KV kvs vs/\K.lookup a=some o/\o.ExactDict/\o.data=.dict es ep/\KeysOf (mixKind P w) es/\Pairs (mixKind P w) es.toList vs/\(vs.map (·.1)).Nodup
 ns:(a == yi)=false
section
variable {X:Cx}{pins:List (Addr×Obj)}{σ:St}{H:Hp}{s:X1}{a:Addr}{kvs:List (Key×V)}
theorem DKG.dd (g:Inv X pins σ H s)(h:DKG X.prog X.w X.K a kvs):∃vs,KV kvs vs/\s.heap.DictOf (mixKind X.prog X.w) a vs:=by
 obtain ⟨vs,o,b,c,d,l,ex,hd,e,f,hn⟩:=h.ex;exact ⟨vs,d,o,b,c,g.kIn _ _ l,ex,hd,e,f,hn⟩
def xQ (P:ZU)(w:World)(K:FrG)(b ty:TE):TE:=λ σ H Q=>b σ H λ x c=>ty σ c λ y d=>∃a kvs k v,x=.ref a/\DKG P w K a kvs/\y=kV k/\valV kvs k=some v/\Q v d
def uU (P:ZU)(w:World)(K:FrG)(b ty:TE):TE:=λ σ H Q=>b σ H λ x c=>∃a kvs,x=.ref a/\DKG P w K a kvs/\ty σ c λ y d=>∃k,y=kV k/\Q ((valV kvs k).getD .non) d
end
section
variable {X:Cx}{o i e:Expr}{es:List Expr}{pos apos cpos:Pos}{td ty tf:TE}{t:TA}{E:XK}
theorem vU (j:PE X o td)(hi:PE X i ty)(m:NoSl i):PE X (.Subscript o i pos) (xQ X.prog X.w X.K td ty):=by
 intro b s c H Q J h;refine dX Nw.lookup m (thn (j b s c H _ J h) λ u n ⟨x,p,q,r,z⟩=>thn (hi b n c p _ q z) λ L M ⟨y,A,d,B,a,I,k,v,ex,N,C,l,D⟩=>?_)
 subst ex;subst C;obtain rfl:u=Yf a:=r;obtain ⟨vs,f,dd⟩:=N.dd d;obtain ⟨O,G,g⟩:=RelO.some_of (v:=v) (o:=Bz vs k) (by rw [<- l];exact f.val k)
 exact ⟨dd.typeIs,wpAny_getItem_of (JM B) dd.mapOf G ⟨v,A,d.tok _,g,D⟩⟩
theorem zJ (p:PE X o td)(r:PE X e ty)(m:M1 X o "get" apos e cpos):PE X (.Call (.Attribute o "get" apos) [e] [] cpos) (uU X.prog X.w X.K td ty):=by
 intro c s f H Q P h;refine wpAny_Call_method m.base m.few m.line PySem.F.plainAttrs_dict BO PySem.F.type_dict_get (thn (p c s f H _ P h) λ u v ⟨x,z,g,A,a,j,ex,B,C⟩=>?_)
 subst ex;obtain rfl:u=Yf a:=A;obtain ⟨O,D,d⟩:=B.dd g;refine ⟨d.typeIs,(λ b q=>?_),?_⟩
 ·cases q
  obtain ⟨ob,_,_,G,I,_⟩:=d;exact ⟨ob,G,I.2.1⟩
 rw [m.trees];refine wE rfl (zO (wv (thn (r c v f z _ g C) λ R S ⟨y,J,l,L,k,M,N⟩=>qS ?_)))
 subst M;obtain ⟨vs,n,dd⟩:=B.dd l;exact call_meetsIn BO dd.typeIs PySem.F.entry_dict_get (PySem.F.args_dict_get_2 _ _) (meets_dict_get (mixKind X.prog X.w) a (JM L) B.ns) ⟨_,dd.mapOf,⟨(valV j k).getD .non,J,l.tok _,(n.val k).getD (show RelV .non US from rfl),N⟩⟩
def pX (P:ZU)(w:World)(K:FrG)(mg:Str->Option Value)(base:Heap)(A:XA)(E:XK)(tf:TE)(t:TA):TE:=λ a H Q=>tf a H λ x b=>∃(f:Addr) (fd:UE) (m:Nat) (ps:List Str) (sp:Sp),x=.ref f/\FnB P w K mg base true m f fd ps sp/\YJ K (.ref f)=true/\Binds K fd ps []/\RoomB true m A/\t a b λ vs c=>sp (vs++[]) c Q E
theorem AI4 (g:Passes (DN X.prog X.w) X E)(hf:PE X o tf)(ha:PA X (e::es) t)
  (j:YE (e::es) X.env=(false,eval e X.env)::YE es X.env:=by rfl) (d:(Qe pos (YE es X.env)).any (·.1)=false:=by rfl)
  (k:eval (.Call o (e::es) [] pos) X.env=(do Np pos (<- eval o X.env) [] (Qe pos (YE (e::es) X.env)) (Gw pos (xL [] X.env))):=by rfl):
  PE X (.Call o (e::es) [] pos) (pX X.prog X.w X.K X.mg X.base X.A E tf t):=by
 intro a s b H Q G h;refine Call_ (thn (hf a s b H _ G h) λ u l ⟨x,n,p,v,f,fd,m,ps,sp,ex,F,y,hb,z,q⟩=>?_) k
 subst ex;obtain rfl:u=Yf f:=v;refine UX (h₀:=X.base) G.ok.mod.kin y (thn (ha pos a l b n _ p q) λ us B ⟨vs,C,c,r,D⟩=>⟨c.kIn,?_⟩) j d
 exact Ks F z hb c r D λ e s' h=>g a b C B e s' c h
end
end L2
namespace Tx
open PySem PySem.Builtin PySem.Builtin.Str PySem.StrLaws
theorem Rv (s sub:Str)(hi b:Nat):∀(l:List Nat) (st:Array Nat×Nat),∃more,(forIn l st (BA s sub hi b)).run.fst.toList=st.fst.toList++more
 | [],st=>⟨[],by simp⟩
 | a::l,st=>by
  rw [zl];unfold BA
  split
  ·obtain ⟨more,h⟩:=Rv s sub hi b l (st.fst.push a,a+sub.length);exact ⟨a::more,by
    have h':(forIn l (st.fst.push a,a+sub.length) (BA s sub hi b)).run.fst.toList=st.fst.toList++(a::more):=by rw [h];simp
    exact h'⟩
  ·exact Rv s sub hi b l (st.fst,st.snd)
theorem Xo (s sub:Str)(hi k:Nat):∀(l:List Nat) (st:Array Nat×Nat),k<=st.fst.size->(forIn l st (BA s sub hi k)).run.fst=st.fst
 | [],st,_=>rfl
 | a::l,st,h=>by
  rw [zl];unfold BA;rw [if_neg (λ z=>by have:=z.1.1.1;omega)]
  exact Xo s sub hi k l (st.fst,st.snd) h
theorem Wq (s sub:Str)(hi:Nat){k d:Nat}(b:k<=d):∀(l:List Nat) (st:Array Nat×Nat),st.fst.size<=k->(forIn l st (BA s sub hi k)).run.fst.toList=(forIn l st (BA s sub hi d)).run.fst.toList.take k
 | [],st,h=>by
  show st.fst.toList=st.fst.toList.take k;rw [zd (by rw [Jx];exact h)]
 | a::l,st,h=>by
  by_cases e:st.fst.size=k
  ·rw [Xo s sub hi k (a::l) st ∅]
   obtain ⟨more,hm⟩:=Rv s sub hi d (a::l) st;rw [hm,List.take_left' (by rw [Jx];exact e)]
  ·have lt:st.fst.size < k:=by omega
   rw [zl,zl];unfold BA;by_cases c:(st.snd<=a/\a+sub.length<=hi)/\subAt s sub a=true
   ·rw [if_pos ⟨⟨⟨lt,c.1.1⟩,c.1.2⟩,c.2⟩,if_pos ⟨⟨⟨by omega,c.1.1⟩,c.1.2⟩,c.2⟩]
    exact Wq s sub hi b l (st.fst.push a,a+sub.length) (by simp only [Array.size_push];omega)
   ·rw [if_neg (λ z=>c ⟨⟨z.1.1.2,z.1.2⟩,z.2⟩),if_neg (λ z=>c ⟨⟨z.1.1.2,z.1.2⟩,z.2⟩)]
    exact Wq s sub hi b l (st.fst,st.snd) h
theorem jJ (x y:Str){k:Nat}(h:k<=x.length+1):Ua x y 0 x.length k=(Ua x y 0 x.length (x.length+1)).take k:=by
 rw [occ_eq,occ_eq];exact Wq x y x.length h _ _ (Qi _)
theorem yp {x:Str}{c:Nat}{a b t:List Nat}(k:cl x=a++c::(b++c::t))(ha:c∉a)(hb:c∉b):∃e d,Ua x ⟨#[c]⟩ 0 x.length 2=[e,d]/\(jz x [e,d] 1).map cl=[a,b,t]:=by
 have g:=GF x c;rw [k,Je _ ha,Je _ hb] at g;have hl:2<=x.length+1:=by
  have:(cl x).length=x.length:=by show x.cps.toList.length=_;rw [Jx];rfl
  rw [k] at this;simp only [ZA,W6] at this;omega
 have q:2<=(cut c t).length+1:=by
  have:cut c t≠[]:=by
   cases t with
   | nil=>simp [cut]
   | cons z zs=>
    unfold cut
    split
    ·simp
    ·split<;>simp
  have:=List.length_pos_iff.mpr this;omega
 have ht:=jJ x ⟨#[c]⟩ hl;have h:XO x ⟨#[c]⟩=partsFrom x 1 0 (Ua x ⟨#[c]⟩ 0 x.length (x.length+1))\/(XO x ⟨#[c]⟩).length=1:=by
  unfold XO
  split
  ·exact .inr rfl
  ·split
   ·exact .inr rfl
   ·exact .inl (partsBetween_eq x _ 1)
 rcases h with h | h
 ·rw [h] at g;cases l:Ua x ⟨#[c]⟩ 0 x.length (x.length+1) with
  | nil=>
   rw [l] at g;have:=congrArg qB g;simp only [partsFrom,X9,W6,XG] at this;omega
  | cons e r=>
   rw [l] at g ht;cases r with
   | nil=>
    have:=congrArg qB g;simp only [partsFrom,X9,W6,XG] at this;omega
   | cons d r=>
    have e2:Ua x ⟨#[c]⟩ 0 x.length 2=[e,d]:=ht;refine ⟨e,d,e2,?_⟩;have g:cl (qr x 0 e)::cl (qr x (e+1) d)::(partsFrom x 1 (d+1) r).map cl=a::b::cut c t:=g;have m:=(qc g).1;have n:=(qc (qc g).2).1;rw [partsBetween_eq];show [cl (qr x 0 e),cl (qr x (e+1) d),cl (qr x (d+1) x.length)]=_;obtain ⟨f,ch⟩:=occ_chain x ⟨#[c]⟩ 2;rw [e2] at ch;have j:=join_partsFrom x ⟨#[c]⟩ [e,d] 0 f ch;rw [sub_whole] at j;have j:ZZ ⟨#[c]⟩ [qr x 0 e,qr x (e+1) d,qr x (d+1) x.length]=x:=j;have i:=congrArg cl j;rw [show ZZ ⟨#[c]⟩ [qr x 0 e,qr x (e+1) d,qr x (d+1) x.length]=qr x 0 e++⟨#[c]⟩++(qr x (e+1) d++⟨#[c]⟩++qr x (d+1) x.length) from rfl,Bw,Bw,Bw,Bw,m,n,k] at i
    have o:cl (⟨#[c]⟩:Str)=[c]:=rfl;rw [o] at i;have p:cl (qr x (d+1) x.length)=t:=by
     have:a++[c]++(b++[c]++cl (qr x (d+1) x.length))=a++c::(b++c::t):=i;simp only [WG,GL,ui] at this;have:=MA this;have:=(qc this).2;have:=MA this;exact (qc this).2
    rw [m,n,p]
 ·have:=congrArg qB g;rw [X9,h] at this;simp only [W6] at this;omega
end Tx
namespace L2
open PySem PySem.Spec PyProof.Rows PySem.Builtin PySem.Builtin.Str Tx
inductive qL (x:V)(vs:List V)(H:Hp)(Q:VK):Prop | mk (i sa sb st:Str) (_:x=.str i) (_:vs=[.str (Y2 " "),.int 2]) (_:cl i=cl sa++32::(cl sb++32::cl st)) (_:32∉cl sa) (_:32∉cl sb) (_:i.length+2<=X3) (_:∀p,H p=none->Q (.ref p) (upd H p (.lst [.str sa,.str sb,.str st])))
theorem m6 {a b:Str}(h:cl a=cl b):a=b:=by
 obtain ⟨⟨x⟩⟩:=a;obtain ⟨⟨y⟩⟩:=b;have h:x=y:=h;rw [h]
theorem qz {X:Cx}:MtM X "str.split" qL:=by
 intro k s z H x vs v us Q j l m h;obtain ⟨i,sa,a,st,rfl,rfl,hi,ha,hb,A,q⟩:=h;obtain ⟨t,rfl⟩:=l;obtain ⟨u,w,rfl,n,c⟩:=vals2 m;obtain ⟨t',rfl⟩:=n;obtain ⟨t2,rfl⟩:=c;have e1:(Y2 " ")=(⟨#[32]⟩:Str):=by decide+kernel
 obtain ⟨o,p,d,b⟩:=yp hi ha hb;rw [e1];have r:0 < i.length:=by
  have:(cl i).length=i.length:=by show i.cps.toList.length=_;rw [Jx];rfl
  rw [hi] at this;simp only [ZA,W6] at this;omega
 have y:(decide (i.length < (⟨#[32]⟩:Str).length) || decide (JE i < JE ⟨#[32]⟩))=false:=by
  have k1:JE (⟨#[32]⟩:Str)=1:=by decide+kernel
  have k2:1<=JE i:=by
   unfold JE
   split
   ·exact ZE _
   ·split<;>decide
  have k3:(⟨#[32]⟩:Str).length=1:=rfl;rw [k1,k3,η ∅,η ∅]
  rfl
 have f:limitOf i 2=2:=rfl;have hf:(Ua i ⟨#[32]⟩ 0 i.length (limitOf i 2)).isEmpty=false:=by rw [f,d];rfl
 have g:jz i (Ua i ⟨#[32]⟩ 0 i.length (limitOf i 2)) (⟨#[32]⟩:Str).length=[sa,a,st]:=by
  rw [f,d];have b:(jz i [o,p] 1).map cl=[sa,a,st].map cl:=b;exact List.map_inj_right (λ _ _=>m6) |>.mp b
 refine jo ze (wb _ _ _) PySem.F.entry_str_split (PySem.F.args_str_split_3 _ _ _) (meets_str_split_sep_max i ⟨#[32]⟩ 2 t t' t2 ⋯ y rfl hf ∅ (by rw [g];show 3<=X3;decide)) ?_
 show wants _ _ _ { s with toks:=_,heap:=s.heap.push { cls:=.type "list",data:=.seq (strsFrom s.toks (jz i (Ua i ⟨#[32]⟩ 0 i.length (limitOf i 2)) (⟨#[32]⟩:Str).length)).toArray } }
 rw [g,strsFrom_eq];refine ⟨.ref s.heap.objs.size,_,?_,rfl,q _ j.fresh⟩;have e:(numbered s.toks [sa,a,st]).map (·.1)=[sa,a,st]:=AK _ _
 have:[V.str sa,V.str a,V.str st]=((numbered s.toks [sa,a,st]).map (·.1)).map V.str:=by rw [e];rfl
 rw [this];exact j.lnew (Vg _ (V2 _ _ j.tk1)) (by rw [e];show 3<=X3;decide) (ht:=by have:=j.tk;omega)
end L2
namespace L2
open PySem PySem.Spec PyProof.Rows PySem.Builtin
def DR (p:Mb)(x:Str):Int:=if x.cps.isEmpty=true then 0 else reduceHash (p.strHash x.cps)
theorem pP {w:World}{p:Mb}(h:w.params=p)(x:Str):hashStr w x=DR p x:=by
 subst h;rfl
inductive Ent (p:Mb):List GO->List (Str×V)->Prop
 | nil:Ent p [] []
 | cons {e:GO} {x:Str} {t:Tok} {v:V} {es:List GO} {ps:List (Str×V)}:e.hash=DR p x->e.key=.str x t->RelV v e.val->Ent p es ps->Ent p (e::es) ((x,v)::ps)
def Cd (ps:List (Str×V)):List (Key×V):=ps.map λ q=>(.inr q.1,q.2)
theorem Ent.parts {P:ZU}{w:World}{p:Mb}(c:w.params=p):∀{a:List GO} {ps:List (Str×V)},Ent p a ps->∃vs:List (Key×Value),KV (Cd ps) vs/\Pairs (mixKind P w) a vs/\vs.map (·.1)=ps.map (λ q=>wq q.1)/\∀e∈a,∃k,(mixKind P w).is k e.key=true/\e.hash=(mixKind P w).hash k
 | _,_,.nil=>⟨[],.nil,.nil,rfl,λ _ h=>nomatch h⟩
 | _,_,@Ent.cons _ e x t v a ps f g i r=>by
  obtain ⟨vs,j,l,m,n⟩:=Ent.parts (P:=P) c r;have d:(mixKind P w).is (.inr x) e.key=true:=by rw [g];exact gm P w x t
  refine ⟨(.inr x,e.val)::vs,.cons ⟨rfl,i⟩ j,.cons d rfl l,by rw [YY,YY,m],λ o b=>?_⟩
  rcases ZN.mp b with rfl | b
  ·exact ⟨.inr x,d,by rw [f,<- pP c];rfl⟩
  ·exact n o b
theorem bH:∀{l:List Str},l.Nodup->(l.map (wq:Str->Key)).Nodup
 | [],_=>.nil
 | a::l,h=>by
  rw [ue] at h;rw [YY,ue];refine ⟨λ z=>?_,bH h.2⟩
  obtain ⟨b,hb,e⟩:=UG.mp z;cases e
  exact h.1 hb
theorem bZ {P:ZU}{w:World}{K:FrG}{a:Addr}{b:Array GO}{c:Nat}{p:Mb}{ps:List (Str×V)}(d:w.params=p)(l:K.lookup a=some ⟨.type "dict",none,.dict b c,#[]⟩)(h:Ent p b.toList ps)(nd:(ps.map (·.1)).Nodup)(ns:(a == yi)=false):DKG P w K a (Cd ps):=by
 obtain ⟨vs,f,g,i,j⟩:=h.parts (P:=P) d;refine ⟨⟨vs,_,b,c,f,l,⟨rfl,rfl,rfl⟩,rfl,λ e k=>j e (BU.mpr k),g,?_⟩,ns⟩
 rw [i];have:ps.map (λ q=>(wq q.1:Key))=(ps.map (·.1)).map wq:=by rw [Qc];rfl
 rw [this];exact bH nd
end L2
namespace L2
open PySem PySem.Spec PyProof.Rows
theorem AK2:entryFor table "proto.unchain"=some XI.«proto.unchain»:=entryFor_of_fast (by kernel_rfl)
inductive Rch (h:Heap):Value->Value->Prop
 | refl {v:Value}:Rch h v v
 | step {b:Addr} {o:Obj} {vs:Array Value} {cx v:Value}:h.get? b=some o->o.data=.fields vs->vs[2]?=some cx->Rch h cx v->Rch h (.ref b) v
theorem Rch.snoc {h:Heap}{u:Value}{b:Addr}{o:Obj}{vs:Array Value}{a:Value}(r:Rch h u (.ref b))(e:h.get? b=some o)(d:o.data=.fields vs)(t:vs[2]?=some a):Rch h u a:=by
 generalize c:(Yf b)=v at r
 induction r with
 | refl=>subst c;exact .step e d t .refl
 | step f d' t' _ g=>exact .step f d' t' (g c)
section
variable {prog:ZU}{w:World}
theorem qb {A:XA}{c:Result->X1->Prop}{s:X1}{id:String}{args:Args}{b:XI}(hb:entryFor table id=some b)
  (h:wpAny (model prog w) (A.under (.builtin id args)) (b args) (λ a s'=>match a with | .done f=>c (.ok f) s' | .again c'=>c'.quiet=true/\wh (model prog w) A c' c s') (λ e s'=>c (.error e) s') s):wh (model prog w) A (.builtin id args) c s:=by
 refine codeAny_of_tree ?_;show wpAny _ _ (match entryFor table id with | some b=>b args | none=>unsupported ((withoutEnding? id "#data").getD id)) _ _ s
 rw [hb];exact h
theorem Zf {L h:Heap}{v:Value}(c:Chn L h v):∀{A:XA} {p:Result->X1->Prop} {s:X1} {b e:Addr} {a:Value} {g:Bool},v=.ref b->(∀b o,h.get? b=some o->s.heap.get? b=some o)->h.get? e=none->Rch h a v->p (.ok (.ret .none)) s->
  wh (model prog w) A (.builtin "proto.unchain" ⟨[.ref e,v,a,.bool g],[]⟩) p s:=by
 induction c with
 | none=>intro A p s b e a g l;cases l
 | ref F t hd ht c x=>
  rename_i u o vs M
  intro A p s b e a g l m j y q;cases l
  refine qb AK2 ?_;show wpAny _ _ (do
   let d <- field (.ref u) 2
   if d == .none then return <- ret .none
   if d == .ref e then
    rule "raise.context-cycle-cut"
    setField (.ref u) 2 .none
    return <- ret .none
   if d == a then rule "raise.context-old-cycle";return <- ret .none
   let a <- if g then field a 2 else pure a
   again (.builtin "proto.unchain" ⟨[.ref e,d,a,.bool !g],[]⟩)) _ _ s
  refine Y3 (Uf (m _ _ t) hd ht ?_);cases c with
  | none=>
   rw [if_pos (show (US == US)=true from rfl)]
   exact ZI q
  | ref G k H I N=>
   rename_i i O J K
   rw [if_neg (by simp)]
   have B:(Yf i == Yf e)=false:=by
    have:i≠e:=λ z=>by rw [z,j] at k;cases k
    simpa using this
   rw [if_neg (by rw [B];exact ZL)]
   by_cases n:(Yf i == a)=true
   ·rw [if_pos n];exact Y3 (No (ZI q))
   ·rw [if_neg n];have r2:Rch h a (.ref i):=y.snoc t hd ht;have go:∀f,Rch h f (.ref i)->wh (model prog w) A (.builtin "proto.unchain" ⟨[.ref e,.ref i,f,.bool !g],[]⟩) p s:=λ f r=>x rfl m j r q
    cases g with
    | false=>
     rw [if_neg ZL];exact Y3 (ZI (ZI ⟨wP _ (by decide+kernel),go a r2⟩))
    | true=>
     rw [if_pos rfl];cases r2 with
     | refl=>exact absurd (by simp) n
     | step C D t3 E=>exact Y3 (Uf (m _ _ C) D t3 (ZI ⟨wP _ (by decide+kernel),go _ E⟩))
end
end L2
namespace L2
open PySem PySem.Spec PyProof.Rows PySem.Builtin
def Hn (h:Heap)(a:Addr):Prop:=∃b:Heap,Chn b h (.ref a)
theorem Hn.there {h:Heap}{a:Addr}(x:Hn h a):∃o,h.get? a=some o:=by
 obtain ⟨b,c⟩:=x;cases c with
 | ref _ e _ _ _=>exact ⟨_,e⟩
section
variable {prog:ZU}{w:World}{A:XA}{E:Value->X1->Prop}{s:X1}
theorem ye {h:Type}{Q:h->X1->Prop}{e a:Addr}{o:Obj}{vs:Array Value}(i:A.handled=some (.ref a))(j:s.heap.get? e=some o)(hd:o.data=.fields vs)(k:2 < vs.size)(ch:∃g:Heap,Hn g a/\g.get? e=none/\∀b o,g.get? b=some o->s.heap.get? b=some o)(c:a≠e)
  (l:E (.ref e) { s with heap:=s.heap.update e (XP λ x=>x.setIfInBounds 2 (.ref a)) }):wpAny (model prog w) A (raiseNew (.ref e)) Q E s:=by
 obtain ⟨g,⟨g',d⟩,m,n⟩:=ch;unfold raiseNew;refine Y3 (wpAny_handled ?_);rw [i];have p:(Yf a != Yf e)=true:=by simpa using c
 show wpAny _ _ (do
  if (Yf a != Yf e)=true then
   let _ <- Ge [Yf e] (runValue (.builtin "proto.unchain" ⟨[.ref e,.ref a,.ref a,.bool false],[]⟩))
   updateField e 2 (.ref a)
  throw (.ref e)) _ _ _
 rw [if_pos p];refine Y3 (WI (wpAny_runValue (Zf d rfl n m .refl ?_)));have f:wpAny (model prog w) A (setField (.ref e) 2 (.ref a)) (λ _ s'=>wpAny (model prog w) A (throw (Yf e)) Q E s') E s:=xo j hd k (wpAny_throw l)
 exact Y3 f
theorem oJ (h:Heap):h.get? h.objs.size=none:=by
 cases e:h.get? h.objs.size with
 | none=>rfl
 | some o=>exact absurd (ZT e) (yB _)
theorem cX {f:Type}{Q:f->X1->Prop}{a:Addr}(h:A.handled=some (.ref a))(g:Hn s.heap a)
  (i:∀h' e,(∀b o,s.heap.get? b=some o->h'.get? b=some o)->(∃o,h'.get? e=some o/\o.cls=.type "StopIteration")->E (.ref e) { s with heap:=h' }):
  wpAny (model prog w) A (Gc:Sem f) Q E s:=by
 unfold Gc newExc;refine Y3 (Y3 (JJ ?_));refine Y3 (wpAny_of_eq (Eq.refl (firstArgMember (.type "StopIteration") [])) ?_);refine JJ ?_ (sizeOk_excFields _ _ _ _ _ _ _ _);refine ye h (YI _ rfl) rfl (by rw [Array.size_append];exact Zu (show 2 < 6 by decide) (js 6 _)) ⟨s.heap,g,xD (by rw [Ug];exact WV _),λ b o d=>X2 _ (X2 _ d)⟩ ?_ ?_
 ·intro z;obtain ⟨o,d⟩:=g.there;have c:=ZT (X2 { cls:=uu "tuple",data:=Data.seq #[] } d);rw [z] at c;exact absurd c (yB _)
 ·refine i _ _ (λ b o e=>?_) ⟨_,XV (XP λ x=>x.setIfInBounds 2 (Yf a)) (YI _ rfl) rfl,rfl⟩
  have j:b≠(s.heap.push { cls:=uu "tuple",data:=Data.seq #[] }).objs.size:=λ z=>by
   have c:=X2 { cls:=uu "tuple",data:=Data.seq #[] } e;rw [z,oJ] at c;cases c
  exact (XY _ _ (WU j)).trans (X2 _ (X2 _ e))
theorem gA {it l:Addr}{i:Nat}{items:Array Value}{x:Value}{Q:Value->X1->Prop}
  (c:s.heap.IsListIter it l i) (hl:s.heap.IsList l items) (n:items[i]?=some x) (o:∀h',h'.IsListIter it l (i+1)->QA it s.heap h'->Q x { s with heap:=h' }):
  wpAny (model prog w) A (UP (.ref it)) Q E s:=by
 obtain ⟨ob,a,f,b⟩:=id c;obtain ⟨p,g,_,q,h⟩:=hl;unfold UP;refine Y3 (za c.typeIs qv (wn qv c.typeIs entry_listiter_next ?_ (args_listiter_next (.ref it))));show wpAny (model prog w) A.in1 (field (.ref it) 0 >>= _) _ _ s;refine Y3 (Uf a b rfl ?_);dsimp only
 rw [if_neg (by exact ZL)]
 refine Y3 (Uf a b rfl ?_);refine Y3 (xp g h ?_);simp only [UC,n];refine Y3 (xo (i:=1) a b ?_ ?_)
 ·show 1 < 2
  decide
 refine ZI ⟨x,rfl,?_⟩;have d:=UF b λ x:Array Value=>x.setIfInBounds 1 (je ((i:Int)+1))
 have j:=(Obj.cls_mapFields ob λ x:Array Value=>x.setIfInBounds 1 (je ((i:Int)+1))).trans f
 have k:=XV (XP λ x:Array Value=>x.setIfInBounds 1 (je ((i:Int)+1))) a (Qs d)
 have m:=FB s.heap it (XP λ x:Array Value=>x.setIfInBounds 1 (je ((i:Int)+1)))
 have e:(#[Yf l,qA (i:Int) 0]:Array Value).setIfInBounds 1 (je ((i:Int)+1))=#[Yf l,qA ((i+1:Nat):Int) 0]:=by
  simp [je]
 rw [e] at d;exact ZI (o _ ⟨_,k,j,d⟩ m)
theorem zZ {it l a:Addr}{i:Nat}{items:Array Value}{Q:Value->X1->Prop}(p:A.handled=some (.ref a))(q:∀h',yY it s.heap h'->Hn h' a)
  (c:s.heap.IsListIter it l i) (hl:s.heap.IsList l items) (r:items[i]?=none) (t:∀h' e,yY it s.heap h'->(∃o,h'.get? e=some o/\o.cls=.type "StopIteration")->E (.ref e) { s with heap:=h' }):
  wpAny (model prog w) A (UP (.ref it)) Q E s:=by
 obtain ⟨ob,d,y,f⟩:=id c;obtain ⟨z,h,_,B,j⟩:=hl;unfold UP;refine Y3 (za c.typeIs qv (wn qv c.typeIs entry_listiter_next ?_ (args_listiter_next (.ref it))));show wpAny (model prog w) A.in1 (field (.ref it) 0 >>= _) _ _ s;refine Y3 (Uf d f rfl ?_);dsimp only
 rw [if_neg (by exact ZL)]
 refine Y3 (Uf d f rfl ?_);refine Y3 (xp h j ?_);simp only [UC,r];refine Y3 (No ?_);refine Y3 (xo (i:=0) d f ?_ ?_)
 ·show 0 < 2
  decide
 have g:=FB s.heap it (XP λ x:Array Value=>x.setIfInBounds 0 .none)
 generalize s.heap.update it (XP λ x:Array Value=>x.setIfInBounds 0 .none)=m at g ⊢
 refine cX (s:={ s with heap:=m }) p (q m g.extBut) λ h' e k n=>?_
 exact t h' e (λ b o u v=>k b o (g.extBut b o u v)) n
end
section
variable {prog:ZU}{w:World}{A:XA}{E:Value->X1->Prop}{s:X1}
variable {z TI TO i1 i2 a1 a2:Addr}{n1 n2:Nat}{us vs:Array Value}{u v p q:Value}
theorem vV {Q:Value->X1->Prop}(b:ZipApart z TI TO i1 i2 a1 a2)
  (j:IsZip s.heap z TI TO .none) (O:ul s.heap TI (.ref i1) (.ref i2)) (P:ul s.heap TO p q)
  (j1:s.heap.IsListIter i1 a1 n1) (R:s.heap.IsListIter i2 a2 n2) (S:s.heap.IsList a1 us) (t2:s.heap.IsList a2 vs) (T:us[n1]?=some u) (U:vs[n2]?=some v)
  (a5:∀h',IsZip h' z TI TO (je s.heap.objs.size)->ul h' TO u v->h'.IsListIter i1 a1 (n1+1)->h'.IsListIter i2 a2 (n2+1)->ul h' s.heap.objs.size u v->h'.objs.size=s.heap.objs.size+1->Hq z TO i1 i2 s.heap h'->Q (.ref s.heap.objs.size) { s with heap:=h' }):
  wpAny (model prog w) A (XI.«zip.__next__» ⟨[.ref z],[]⟩) (λ I s'=>∃v,I=.done (.ret v)/\Q v s') E s:=by
 show wpAny _ A (field (.ref z) 2 >>= _) _ E s;refine Y3 (Uf (x:=.bool false) j rfl rfl ?_);show wpAny _ A (field (.ref z) 3 >>= _) _ E s;refine Y3 (Uf (x:=.ref TI) j rfl rfl (Y3 (xp O rfl ?_)));show wpAny _ A (Qz (.ref z) >>= _) _ E s;unfold Qz;refine Y3 (Y3 (Uf (x:=.none) j rfl rfl (ZI ?_)));simp only [if_true];refine Y3 (No (Y3 (Uf (x:=.ref TO) j rfl rfl ?_)));refine Y3 (ub j (by simp) λ V y f=>?_)
 replace y:IsZip V z TI TO .ellipsis:=y
 simp only [List.zipIdx_cons,List.zipIdx_nil,zl,Ni];refine Y3 (Y3 (Y3 (wpAny_onRaise ?_)));show wpAny _ A (UP (.ref i1) >>= _) _ _ _;refine Y3 (gA (j1.extBut f.extBut b.i1z) (S.extBut f.extBut b.l1z) T λ W k2 h=>ZI ?_)
 have J:ul W TO p q:=h.extBut _ _ b.TOi1 (f.extBut _ _ b.TOz P);refine Y3 (xp J rfl (Y3 (wpAny_updateSeq_pair J λ X B i=>?_)))
 replace B:ul X TO u q:=B
 refine Y3 (wpAny_letGo (ZI (Y3 (Y3 (wpAny_onRaise ?_)))));show wpAny _ A (UP (.ref i2) >>= _) _ _ _;refine Y3 (gA (((R.extBut f.extBut b.i2z).extBut h.extBut b.i12.symm).extBut i.extBut b.TOi2.symm) (((t2.extBut f.extBut b.l2z).extBut h.extBut b.l2i1).extBut i.extBut b.l2TO) U λ Y Z k=>ZI ?_)
 have K:ul Y TO u q:=k.extBut _ _ b.TOi2 B;refine Y3 (xp K rfl (Y3 (wpAny_updateSeq_pair K λ a n l=>?_)))
 replace n:ul a TO u v:=n
 refine Y3 (wpAny_letGo (ZI (ZI (Y3 (xp n rfl (Y3 (wpAny_newTuple ?_)))))));have sz:a.objs.size=s.heap.objs.size:=by rw [l.1,k.1,i.1,h.1,f.1]
 have L:IsZip a z TI TO .ellipsis:=l.extBut _ _ b.TOz.symm (k.extBut _ _ b.i2z.symm (i.extBut _ _ b.TOz.symm (h.extBut _ _ b.i1z.symm y)));have st:Hq z TO i1 i2 s.heap a:=λ c o g r C D e=>l.extBut _ _ r (k.extBut _ _ D (i.extBut _ _ r (h.extBut _ _ C (f.extBut _ _ g e))))
 have k5:a.IsListIter i1 a1 (n1+1):=((k2.extBut i.extBut b.TOi1.symm).extBut k.extBut b.i12).extBut l.extBut b.TOi1.symm;have a0:a.IsListIter i2 a2 (n2+1):=Z.extBut l.extBut b.TOi2.symm;have M:z < a.objs.size:=ZT L;show wpAny _ A (jN (.ref z) (.ref a.objs.size) >>= _) _ _ _;unfold jN;have a3:IsZip (a.push { cls:=.type "tuple",data:=.seq #[u,v] }) z TI TO .ellipsis:=X2 _ L;refine Y3 (Y3 (ub a3 (by simp) λ a4 F G=>?_))
 replace F:IsZip a4 z TI TO (je a.objs.size):=F
 refine ub F (by simp) λ m t H=>ZI ⟨_,rfl,?_⟩
 replace t:IsZip m z TI TO (je a.objs.size):=t
 have d:∀c o,c≠z->a.get? c=some o->m.get? c=some o:=λ c o g e=>H.extBut _ _ g (G.extBut _ _ g (X2 _ e))
 have pr:ul m a.objs.size u v:=H.extBut _ _ (XW M) (G.extBut _ _ (XW M) (YI _ rfl));have N:m.objs.size=a.objs.size+1:=by rw [H.1,G.1,Ug]
 rw [sz] at t pr N;show Q (.ref a.objs.size) _;rw [sz];exact a5 m t (d _ _ b.TOz n) (k5.at λ o e=>d _ o b.i1z e) (a0.at λ o e=>d _ o b.i2z e) pr N λ c o g r C D e=>d c o g (st c o g r C D e)
theorem wz {Q:Fin->X1->Prop}{a:Addr}(n:A.handled=some (.ref a))(r:∀h',Hq z TO i1 i2 s.heap h'->Hn h' a)(t:ZipApart z TI TO i1 i2 a1 a2)
  (b:IsZip s.heap z TI TO .none) (y:ul s.heap TI (.ref i1) (.ref i2)) (j1:s.heap.IsListIter i1 a1 n1) (B:s.heap.IsList a1 us) (C:us[n1]?=none)
  (K:∀h' e,Hq z TO i1 i2 s.heap h'->(∃o,h'.get? e=some o/\o.cls=.type "StopIteration")->E (.ref e) { s with heap:=h' }):
  wpAny (model prog w) A (XI.«zip.__next__» ⟨[.ref z],[]⟩) Q E s:=by
 show wpAny _ A (field (.ref z) 2 >>= _) _ E s;refine Y3 (Uf (x:=.bool false) b rfl rfl ?_);show wpAny _ A (field (.ref z) 3 >>= _) _ E s;refine Y3 (Uf (x:=.ref TI) b rfl rfl (Y3 (xp y rfl ?_)));show wpAny _ A (Qz (.ref z) >>= _) _ E s;unfold Qz;refine Y3 (Y3 (Uf (x:=.none) b rfl rfl (ZI ?_)));simp only [if_true];refine Y3 (No (Y3 (Uf (x:=.ref TO) b rfl rfl ?_)));refine Y3 (ub b (by simp) λ D i f=>?_)
 replace i:IsZip D z TI TO .ellipsis:=i
 simp only [List.zipIdx_cons,List.zipIdx_nil,zl,Ni];refine Y3 (Y3 (Y3 (wpAny_onRaise ?_)));show wpAny _ A (UP (.ref i1) >>= _) _ _ _;refine Y3 (zZ n (λ h' x=>r h' λ c o g _ j _ e=>x _ _ j (f.extBut _ _ g e)) (j1.extBut f.extBut t.i1z) (B.extBut f.extBut t.l1z) C λ F e k G=>?_)
 obtain ⟨H,d,h⟩:=G;have l:IsZip F z TI TO .ellipsis:=k _ _ t.i1z.symm i;have I:e≠z:=λ x=>by
  subst x;rw [l] at d;cases d
  simp at h
 refine ub l (by simp) λ J _ m=>K J e (λ c o g _ j _ x=>m.extBut _ _ g (k _ _ j (f.extBut _ _ g x))) ⟨H,m.extBut _ _ I d,h⟩
theorem oK {Q:Option Value->X1->Prop}(m:ZipApart z TI TO i1 i2 a1 a2)
  (a:IsZip s.heap z TI TO .none) (b:ul s.heap TI (.ref i1) (.ref i2)) (c:ul s.heap TO p q)
  (j1:s.heap.IsListIter i1 a1 n1) (d:s.heap.IsListIter i2 a2 n2) (e:s.heap.IsList a1 us) (t2:s.heap.IsList a2 vs) (f:us[n1]?=some u) (g:vs[n2]?=some v)
  (n:∀h',IsZip h' z TI TO (je s.heap.objs.size)->ul h' TO u v->h'.IsListIter i1 a1 (n1+1)->h'.IsListIter i2 a2 (n2+1)->ul h' s.heap.objs.size u v->h'.objs.size=s.heap.objs.size+1->Hq z TO i1 i2 s.heap h'->Q (some (.ref s.heap.objs.size)) { s with heap:=h' }):
  wpAny (model prog w) A (GM (.ref z)) Q E s:=by
 have ty:s.TypeIs (.ref z) "zip":=⟨_,a,rfl⟩;unfold GM;refine Y3 (Mc (za (name:=Y2 "__next__") ty Fn (wn Fn ty F.entry_zip_next ?_ (F.args_zip_next_1 _))));exact vV m a b c j1 d e t2 f g λ h' r1 r2 h i j k l=>ZI (n h' r1 r2 h i j k l)
theorem zV {Q:Option Value->X1->Prop}{a:Addr}(f:A.handled=some (.ref a))(g:∀h',Hq z TO i1 i2 s.heap h'->Hn h' a)(m:ZipApart z TI TO i1 i2 a1 a2)
  (c:IsZip s.heap z TI TO .none) (h:ul s.heap TI (.ref i1) (.ref i2)) (j1:s.heap.IsListIter i1 a1 n1) (i:s.heap.IsList a1 us) (j:us[n1]?=none)
  (n:∀h',Hq z TO i1 i2 s.heap h'->Q none { s with heap:=h' }):wpAny (model prog w) A (GM (.ref z)) Q E s:=by
 have ty:s.TypeIs (.ref z) "zip":=⟨_,c,rfl⟩;unfold GM;refine Y3 (Mc (za (name:=Y2 "__next__") ty Fn (wn Fn ty F.entry_zip_next ?_ (F.args_zip_next_1 _))));refine wz f g m c h j1 i j λ h' e st ⟨k,l,d⟩=>?_
 exact Y3 (wpAny_isInstance (T:="StopIteration") (b:=true) ⟨k,l,d⟩ isSubtype_stop (ZI (n _ st)))
abbrev JL (h:Heap)(a1:Addr):Heap:=h.push { cls:=.type "list_iterator",data:=.fields #[.ref a1,.int 0 0] }
abbrev Io (h:Heap)(a1 a2:Addr):Heap:=(JL h a1).push { cls:=.type "list_iterator",data:=.fields #[.ref a2,.int 0 0] }
abbrev Nh (h:Heap)(a1 a2:Addr):Heap:=(Io h a1 a2).push { cls:=.type "tuple",data:=.seq #[.ref h.objs.size,.ref (JL h a1).objs.size] }
abbrev O9 (h:Heap)(a1 a2:Addr):Heap:=(Nh h a1 a2).push { cls:=.type "tuple",data:=.seq #[.none,.none] }
abbrev Iu (h:Heap)(a1 a2:Addr):Heap:=(O9 h a1 a2).push { cls:=.type "zip",data:=.fields #[.none,.bool false,.bool false,.ref (Io h a1 a2).objs.size,.ref (Nh h a1 a2).objs.size] }
theorem yE (a1 a2:Addr)(us vs:Array Value):
  Meets (XI.«zip.__new__» ⟨[.type "zip",.ref a1,.ref a2],[]⟩) (λ _ f s=>s.heap.IsList a1 us/\s.heap.IsList a2 vs/\f (.ok (.ret (.ref (O9 s.heap a1 a2).objs.size))) { s with heap:=Iu s.heap a1 a2 }):=
 .of_wp λ prog w A f s h=>by
  obtain ⟨a,g,d,tk,os⟩:=s;obtain ⟨b,t2,h⟩:=h;have sub:=sub_zip;have c:NI (X1.heap ⟨a,g,d,tk,os⟩) a1 us:=b;have e:NI (X1.heap ⟨a.push { cls:=.type "list_iterator",data:=.fields #[.ref a1,.int 0 0] },g,d,tk,os⟩) a2 vs:=Mn t2 _
  wp_walk using uo c,uo e
  exact ⟨_,rfl,h⟩
theorem yW {Q:Value->X1->Prop}(j:s.heap.IsList a1 us)(t2:s.heap.IsList a2 vs)
  (m:∀h',IsZip h' (s.heap.objs.size+4) (s.heap.objs.size+2) (s.heap.objs.size+3) .none->ul h' (s.heap.objs.size+2) (.ref s.heap.objs.size) (.ref (s.heap.objs.size+1))->ul h' (s.heap.objs.size+3) .none .none->
   h'.IsListIter s.heap.objs.size a1 0->h'.IsListIter (s.heap.objs.size+1) a2 0->h'.objs.size=s.heap.objs.size+5->(∀c o,s.heap.get? c=some o->h'.get? c=some o)->Q (.ref (s.heap.objs.size+4)) { s with heap:=h' }):
  wpAny (model prog w) A (call (.type "zip") [.ref a1,.ref a2]) Q E s:=by
 refine callType_new F.called_zip ⋯ (F.typeCall_zip_2 _ _) (F.newCall_zip_2 _ _) (λ obj=>F.args_object_init_3 obj _ _) F.entry_zip_new (yE a1 a2 us vs) ⟨j,t2,?_⟩
 have a:(JL s.heap a1).objs.size=s.heap.objs.size+1:=Ug ..;have b:(Io s.heap a1 a2).objs.size=s.heap.objs.size+2:=by rw [Ug,a]
 have d:(Nh s.heap a1 a2).objs.size=s.heap.objs.size+3:=by rw [Ug,b]
 have e:(O9 s.heap a1 a2).objs.size=s.heap.objs.size+4:=by rw [Ug,d]
 have k:(Iu s.heap a1 a2).objs.size=s.heap.objs.size+5:=by rw [Ug,e]
 have f:(Iu s.heap a1 a2).get? (O9 s.heap a1 a2).objs.size=some _:=YI _ rfl;have g:(Iu s.heap a1 a2).get? (Nh s.heap a1 a2).objs.size=some _:=X2 _ (YI _ rfl);have h:(Iu s.heap a1 a2).get? (Io s.heap a1 a2).objs.size=some _:=X2 _ (X2 _ (YI _ rfl));have i:(Iu s.heap a1 a2).get? (JL s.heap a1).objs.size=some _:=X2 _ (X2 _ (X2 _ (YI _ rfl)));have l:(Iu s.heap a1 a2).get? s.heap.objs.size=some _:=X2 _ (X2 _ (X2 _ (X2 _ (YI _ rfl))));show _/\_;rw [b,d,e] at f;rw [a,b] at h;rw [d] at g;rw [a] at i;rw [e];exact ⟨⟨_,f,rfl⟩,m _ f h g ⟨_,l,rfl,rfl⟩ ⟨_,i,rfl,rfl⟩ k λ c o x=>X2 _ (X2 _ (X2 _ (X2 _ (X2 _ x))))⟩
end
section
variable {prog:ZU}{w:World}{A:XA}{E:Value->X1->Prop}{s:X1}
theorem qW {it t a:Addr}{i:Nat}{items:Array Value}{Q:Option Value->X1->Prop}(n:A.handled=some (.ref a))(p:∀h',yY it s.heap h'->Hn h' a)
  (c:s.heap.IsTupleIter it t i) (ht:s.heap.IsTuple t items) (q:items[i]?=none) (r:∀h',yY it s.heap h'->Q none { s with heap:=h' }):wpAny (model prog w) A (GM (.ref it)) Q E s:=by
 obtain ⟨ob,d,B,f⟩:=id c;obtain ⟨C,h,_,D,j⟩:=ht;unfold GM;refine Y3 (Mc ?_);refine za c.typeIs Gd (wn Gd c.typeIs PySem.F.entry_tuple_iterator_next ?_ (PySem.F.args_tuple_iterator_next_1 (.ref it)));show wpAny (model prog w) A.in1 (field (.ref it) 0 >>= _) _ _ s;refine Y3 (Uf d f rfl ?_);dsimp only
 rw [if_neg (by exact ZL)]
 refine Y3 (Uf d f rfl ?_);refine Y3 (xp h j ?_);simp only [UC,q];refine Y3 (No ?_);refine Y3 (xo (i:=0) d f ?_ ?_)
 ·show 0 < 2
  decide
 have g:=FB s.heap it (XP λ x:Array Value=>x.setIfInBounds 0 .none)
 generalize s.heap.update it (XP λ x:Array Value=>x.setIfInBounds 0 .none)=l at g ⊢
 refine cX (A:=A.in1) (s:={ s with heap:=l }) n (p l g.extBut) λ h' e k ⟨u,v,m⟩=>?_
 exact Y3 (wpAny_isInstance (T:="StopIteration") (b:=true) ⟨u,v,m⟩ isSubtype_stop (ZI (r h' λ b o y z=>k b o (g.extBut b o y z))))
theorem rm {t a:Addr}{items:Array Value}{c:List (Bool×(Value->Sem Unit))}{Q:Unit->X1->Prop}(k:A.handled=some (.ref a))(l:∀h',yY s.heap.objs.size s.heap h'->Hn h' a)(ht:s.heap.IsTuple t items)
  (hn:c.length=items.size) (d:c.findIdx? (·.1)=none) (h:∀h',yY s.heap.objs.size s.heap h'->wpAny (model prog w) A (qf (c.map (·.2)) items.toList) Q E { s with heap:=h' }):
  wpAny (model prog w) A (unpack (.ref t) c) Q E s:=by
 have i:t≠s.heap.objs.size:=by
  obtain ⟨ob,j,_⟩:=ht;exact YP (ZT j)
 unfold unpack;rw [hn,d];refine Y3 (WI ?_);unfold AE notIterableAtAll;refine Y3 (Y3 (BF ht.typeIs F.slot_tuple_iter.lookup (ZI ?_)));simp only [zy,if_false];refine Y3 (WI (wpAny_pyIter_tuple ht ?_));refine Y3 (WI (wpAny_draw_tuple i items.size 0 _ _ ⟨_,YI _ rfl,rfl,rfl⟩ (ht.push _) ∅ λ m g f=>?_))
 rw [List.drop_zero,zd (by simp),if_neg (by simp)]
 have n:m.IsTuple t items:=(ht.push _).extBut f.extBut i;have up:yY s.heap.objs.size s.heap m:=λ b o hb e=>f.extBut b o hb (X2 _ e)
 refine Y3 (WI (qW (s:={ s with heap:=m }) k (λ h' x=>l h' λ b o hb e=>x b o hb (up b o hb e)) g n (by simp) λ p q=>?_))
 simp only [FS,zy,if_false];exact ZI (h p λ b o hb e=>q b o hb (up b o hb e))
theorem sS {env:Env}{b:List Expr}{x1}{pos:Pos}{t a:Addr}{items:Array Value}{Q:Unit->X1->Prop}(d:A.handled=some (.ref a))(e:∀h',yY s.heap.objs.size s.heap h'->Hn h' a)(ht:s.heap.IsTuple t items)
  (hn:(JI b env).length=items.size) (c:(JI b env).findIdx? (·.1)=none)
  (h:∀h',yY s.heap.objs.size s.heap h'->wpAny (model prog w) A (qf ((JI b env).map (·.2)) items.toList) Q E { s with heap:=h' }):wpAny (model prog w) A (qo (.Tuple b x1 pos) env (.ref t)) Q E s:=by
 rw [arm_assign_Tuple];exact Y3 (UO (rm d e ht hn c h))
end
end L2
namespace L2
open PySem PySem.Spec PySem.Calls PyProof.Rows PySem.W Builtin Builtin.ObjectAttr
def XH (e:Addr)(c:Value)(d:Option Addr)(a:Value)(h:Heap):Prop:=∃o vs,h.get? e=some o/\o.cls=c/\o.dict=d/\o.data=.fields vs/\vs[2]?=some a
abbrev xH (e:Addr)(c:Value)(d:Option Addr)(a:Value):HO:=.ext (XH e c d a)
theorem XH.stay {e:Addr}{c a:Value}{d:Option Addr}{b f:Heap}(x:XH e c d a b)(k:∀o,b.get? e=some o->f.get? e=some o):XH e c d a f:=let ⟨o,vs,z,r⟩:=x;⟨o,vs,k _ z,r⟩
theorem XH.at {e C:Addr}{a:Value}{d:Option Addr}{h:Heap}(x:XH e (.ref C) d a h):ExcAt e C h:=let ⟨o,_,z,r,_⟩:=x;⟨o,z,r⟩
inductive ChT (H:Hp):Value->Prop
 | none:ChT H .none
 | ref {b:Addr} {c cx:Value} {d:Option Addr}:H b=some (xH b c d cx)->ChT H cx->ChT H (.ref b)
theorem ChT.same {H a:Hp}(k:∀b o,H b=some o->a b=some o){v:Value}(c:ChT H v):ChT a v:=by
 induction c with
 | none=>exact .none
 | ref e _ d=>exact .ref (k _ _ e) d
def HX (H:Hp)(e C:Addr)(d:Option Addr):Prop:=∃a,H e=some (xH e (.ref C) d a)/\ChT H a
theorem HX.same {H a:Hp}{e C:Addr}{d:Option Addr}(k:∀b o,H b=some o->a b=some o)(x:HX H e C d):HX a e C d:=let ⟨f,z,c⟩:=x;⟨f,k _ _ z,c.same k⟩
theorem qF {P:ZU}{w:World}{H:Hp}{h h':Heap}(ok:HOk P w H h)(k:∀b u o,H b=some u->h.get? b=some o->h'.get? b=some o){v:Value}(c:ChT H v):Chn {} h' v:=by
 induction c with
 | none=>exact .none
 | @ref b c a d e _ f=>
  obtain ⟨o,vs,z,_,_,g,q⟩:=(show XH b c d a h from (ok b _ e).1)
  exact .ref rfl (k b _ o e z) g q f
theorem YS {P:ZU}{w:World}{H:Hp}{h h':Heap}{a C:Addr}{d:Option Addr}(x:HX H a C d)(ok:HOk P w H h)(k:∀b u o,H b=some u->h.get? b=some o->h'.get? b=some o):Hn h' a:=by
 obtain ⟨e,z,c⟩:=x;exact ⟨_,qF ok k (.ref z c)⟩
structure TurnH (ex:Addr)(P:ZU)(w:World)(K:FrG)(tg:Expr)(J:It)(fp:List Addr)(it:Addr)(tn:Nat->Heap->Prop):Prop where
 mem:it∈fp
 obj:∀i h,tn i h->∀b∈fp,∃o,h.get? b=some o/\∀v,o.data≠.cell v
 keep:∀i h h',tn i h->(∀b∈fp,∀o,h.get? b=some o->h'.get? b=some o)->tn i h'
 item:∀(X:Cx),X.prog=P->X.w=w->X.K=K->X.A.handled=some (.ref ex)->∀(i:Nat) (pins:List (Addr×Obj)) (s:X1) (σ:St) (H:Hp) (E:Value->X1->Prop),Inv X pins σ H s->(∀b∈fp,FpOk X pins H b)->tn i s.heap->J.go i H->
  wpAny (model P w) X.A (GM (.ref it)) (λ r s1=>∃u,r=some u/\
   wpAny (model P w) X.A (xB tg (.ref it) u) (λ _ s2=>∃x H',Inv X pins σ H' s2/\RelV x u/\J.yld i H x H'/\tn (i+1) s2.heap/\∀b∈fp,H' b=none) E s1) E s
 done:∀(X:Cx),X.prog=P->X.w=w->X.K=K->X.A.handled=some (.ref ex)->∀(i:Nat) (pins:List (Addr×Obj)) (s:X1) (σ:St) (H:Hp) (E:Value->X1->Prop),Inv X pins σ H s->(∀b∈fp,FpOk X pins H b)->tn i s.heap->J.stop i H->
  wpAny (model P w) X.A (GM (.ref it)) (λ r s1=>r=none/\Inv X pins σ H s1) E s
 self:∀(A:XA) (i:Nat) (s:X1) (Q:Value->X1->Prop) (E:Value->X1->Prop),tn i s.heap->Q (.ref it) s->wpAny (model P w) A (pyIter (.ref it)) Q E s
def wC (ex:Addr)(X:Cx)(a:List (Addr×Obj))(h:St)(i:Expr)(k:It->Hp->Prop)(d:Value)(e:X1):Prop:=
 ∃(it:Addr) (f:List Addr) (g:Nat->Heap->Prop) (j:It) (c:Hp),d=.ref it/\Inv X a h c e/\TurnH ex X.prog X.w X.K i j f it g/\g 0 e.heap/\(∀b∈f,FpOk X a c b)/\k j c
def Sh (ex:Addr)(X:Cx)(c iter:Expr)(d:TI):Prop:=
 ∀(a:List (Addr×Obj)) (s:X1) (b:St) (H:Hp) (f:It->Hp->Prop),Inv X a b H s->d b H f->
  wpAny (model X.prog X.w) X.A (eval iter X.env) (λ v e=>wpAny (model X.prog X.w) X.A (pyIter v) (wC ex X a b c f) X.xe e) X.xe s
def S7 (K:FrG)(ex C:Addr)(dx:Option Addr)(b c:Addr):It:=
 ⟨λ i H=>∃xs a x y,SqL K H b xs/\SqL K H c a/\xs[i]?=some x/\a[i]?=some y,
   λ i H x d=>∃p u v,H p=none/\x=.ref p/\(∀xs,SqL K H b xs->xs[i]?=some u)/\(∀a,SqL K H c a->a[i]?=some v)/\d=upd H p (.tup [u,v]),
   λ i H=>∃xs,SqL K H b xs/\xs.length<=i/\HX H ex C dx⟩
def TnZH (z TI TO a i2 b c:Addr)(i:Nat)(h:Heap):Prop:=IsZip h z TI TO .none/\ul h TI (.ref a) (.ref i2)/\(∃p q,ul h TO p q)/\h.IsListIter a b i/\h.IsListIter i2 c i
section
variable {z TI TO i1 i2 a1 a2 ex C:Addr}{dx:Option Addr}
theorem TnZH.obj {i:Nat}{h:Heap}(t:TnZH z TI TO i1 i2 a1 a2 i h)(b:Addr)(hb:b∈[z,TI,TO,i1,i2]):∃o,h.get? b=some o/\∀v,o.data≠.cell v:=by
 obtain ⟨a,c,⟨p,q,d⟩,⟨e,e1,k,f⟩,⟨g,e2,l,j⟩⟩:=t;simp only [ZN,WB,or_false] at hb;rcases hb with z | z | z | z | z
 ·rw [z];exact ⟨_,a,λ v q=>by cases q⟩
 ·rw [z];exact ⟨_,c,λ v q=>by cases q⟩
 ·rw [z];exact ⟨_,d,λ v q=>by cases q⟩
 ·rw [z];exact ⟨e,e1,λ v q=>by rw [f] at q;cases q⟩
 ·rw [z];exact ⟨g,e2,λ v q=>by rw [j] at q;cases q⟩
theorem AQ2 {P:ZU}{w:World}{K:FrG}{S:List Expr}{x1}{T:Pos}(L:ZipApart z TI TO i1 i2 a1 a2):TurnH ex P w K (.Tuple S x1 T) (S7 K ex C dx a1 a2) [z,TI,TO,i1,i2] z (TnZH z TI TO i1 i2 a1 a2) where
 mem:=by simp
 obj:=λ i h t b hb=>t.obj b hb
 keep:=λ i h h' ⟨D,F,⟨p,q,M⟩,j1,N⟩ k=>⟨k z (by simp) _ D,k TI (by simp) _ F,⟨p,q,k TO (by simp) _ M⟩,j1.at λ o e=>k i1 (by simp) o e,N.at λ o e=>k i2 (by simp) o e⟩
 item:=by
  intro X U V W a7 i I s a8 H E B hf t Y;have alive:=t.obj;obtain ⟨D,F,⟨p,q,M⟩,j1,N⟩:=t;subst U V W;obtain ⟨xs,O,x,y,Q,a9,b0,b1⟩:=Y;obtain ⟨us,Z,a0,b4⟩:=B.list Q;obtain ⟨vs,b5,b6,c9⟩:=B.list a9;obtain ⟨u,b7,b8⟩:=Z.get b0;obtain ⟨v,b9,c0⟩:=b5.get b1;have d:=hf z (by simp)
  have f:=hf TO (by simp)
  have g:=hf i1 (by simp)
  have j:=hf i2 (by simp)
  refine oK L D F M j1 N a0.isList b6.isList (u:=u) (v:=v) (by simpa using b7) (by simpa using b9) λ d0 c1 c2 c3 c4 c5 c8 b2=>?_
  refine ⟨_,rfl,?_⟩;refine wpAny_letOwnedTupleGo_zip c1 λ a3 c6 G=>?_
  have R:∀b o,s.heap.get? b=some o->b≠s.heap.objs.size:=λ b o q=>YP (ZT q)
  have k2:∀b o,b∉[z,TO,i1,i2]->s.heap.get? b=some o->a3.get? b=some o:=λ b o hb q=>
   G.extBut b o (λ e=>hb (by simp [e])) (b2 b o (λ e=>hb (by simp [e])) (λ e=>hb (by simp [e])) (λ e=>hb (by simp [e])) (λ e=>hb (by simp [e])) q)
  have J:∀b o,H b=some o->b∉[z,TO,i1,i2]:=λ b o q hb=>by
   simp only [ZN,WB,or_false] at hb;rcases hb with e | e | e | e
   ·rw [e,d.1] at q;cases q
   ·rw [e,f.1] at q;cases q
   ·rw [e,g.1] at q;cases q
   ·rw [e,j.1] at q;cases q
  have A:H s.heap.objs.size=none:=B.hok.fresh (ZE _);have b3:a3.get? s.heap.objs.size=some { cls:=.type "tuple",data:=.seq #[u,v] }:=G.extBut _ _ (XW (ZT D)) c5;have d1:Inv X I a8 (upd H s.heap.objs.size (.tup [x,y])) { s with heap:=a3 }:=by
   refine B.step (g':=s.gens) (d':=s.drawn) (t':=s.toks) (ch:=[z,TO,i1,i2]) (λ b hb=>?_) (λ b o _ _ a q n=>k2 b o a q) (λ b o _ _ a q n=>⟨o.slots,k2 b o a q⟩)
    (λ b o _ q n=>(Al (R b o q)).trans n) (λ b o a q=>⟨o,k2 b o a q⟩)
    (λ b O q=>(Al (BV q A)).trans q) (λ b o y q=>(Al (BV q A)).trans q) (λ b ps q=>⟨#[],by rw [Al (BV q A),q];simp⟩) (λ m hm=>?_) (λ b o q=>?_) B.bare
   ·simp only [ZN,WB,or_false] at hb;rcases hb with e | e | e | e
    ·rw [e];exact ⟨d.2.2.2.1,d.2.1,d.2.2.2.2.1,d.2.2.2.2.2⟩
    ·rw [e];exact ⟨f.2.2.2.1,f.2.1,f.2.2.2.2.1,f.2.2.2.2.2⟩
    ·rw [e];exact ⟨g.2.2.2.1,g.2.1,g.2.2.2.2.1,g.2.2.2.2.2⟩
    ·rw [e];exact ⟨j.2.2.2.1,j.2.1,j.2.2.2.2.1,j.2.2.2.2.2⟩
   ·obtain ⟨o,a4,a5,a6,r⟩:=hm;refine ⟨o,a4,a5,k2 _ o (λ hb=>?_) a6,r⟩
    simp only [ZN,WB,or_false] at hb;rcases hb with e | e | e | e
    ·exact d.2.1 e.symm
    ·exact f.2.1 e.symm
    ·exact g.2.1 e.symm
    ·exact j.2.1 e.symm
   ·by_cases hb:b=s.heap.objs.size
    ·subst hb;rw [Ag] at q;cases q
     exact ⟨by show 2<=X3;decide,[u,v],.cons b8 (.cons c0 .nil),_,b3,rfl,_,rfl⟩
    ·rw [Al hb] at q;refine (B.hok b o q).stay (λ c v a e=>k2 c v ?_ e) (λ c e=>(Al (BV e A)).trans e) λ c O e=>(Al (BV e A)).trans e
     rcases a with e | e
     ·rw [e];exact J b o q
     ·exact J c _ e
  refine ⟨.ref s.heap.objs.size,_,d1,rfl,⟨s.heap.objs.size,x,y,A,rfl,(λ l hl=>by rw [B.list_inj hl Q];exact b0),(λ l hl=>by rw [B.list_inj hl a9];exact b1),rfl⟩,
   ⟨c6,G.extBut _ _ L.TIz (b2 _ _ L.TIz L.TITO L.TIi1 L.TIi2 F),⟨u,v,G.extBut _ _ L.TOz c2⟩,c3.extBut G.extBut L.i1z,c4.extBut G.extBut L.i2z⟩,λ b hb=>?_⟩
  obtain ⟨o,c7,_⟩:=alive b hb;rw [Al (R _ _ c7)];exact (hf b hb).1
 done:=by
  intro X U V W a7 i I s a8 H E B hf t Y;obtain ⟨D,F,⟨p,q,M⟩,j1,N⟩:=t;subst U V W;obtain ⟨xs,Q,hi,hex⟩:=Y;obtain ⟨us,Z,a0,b4⟩:=B.list Q;have hl:=Z.length;have d:=hf z (by simp)
  have f:=hf TO (by simp)
  have g:=hf i1 (by simp)
  have j:=hf i2 (by simp)
  refine zV (TO:=TO) (i2:=i2) a7 (λ h' st=>YS hex B.hok λ b u o q e=>st _ o (BV q d.1) (BV q f.1) (BV q g.1) (BV q j.1) e) L D F j1 a0.isList (by simp;omega) λ h' st=>⟨rfl,?_⟩
  have k2:∀b o,b∉[z,TO,i1,i2]->s.heap.get? b=some o->h'.get? b=some o:=λ b o hb q=>st b o (λ e=>hb (by simp [e])) (λ e=>hb (by simp [e])) (λ e=>hb (by simp [e])) (λ e=>hb (by simp [e])) q
  have J:∀b o,H b=some o->b∉[z,TO,i1,i2]:=λ b o q hb=>by
   simp only [ZN,WB,or_false] at hb;rcases hb with e | e | e | e
   ·rw [e,d.1] at q;cases q
   ·rw [e,f.1] at q;cases q
   ·rw [e,g.1] at q;cases q
   ·rw [e,j.1] at q;cases q
  refine B.step (g':=s.gens) (d':=s.drawn) (t':=s.toks) (ch:=[z,TO,i1,i2]) (λ b hb=>?_) (λ b o _ _ a q n=>k2 b o a q) (λ b o _ _ a q n=>⟨o.slots,k2 b o a q⟩)
    (λ b o _ q n=>n) (λ b o a q=>⟨o,k2 b o a q⟩)
    (λ b O q=>q) (λ b o y q=>q) (λ b ps q=>⟨#[],by rw [q];simp⟩) (λ m hm=>?_) (λ b o q=>?_) B.bare
  ·simp only [ZN,WB,or_false] at hb;rcases hb with e | e | e | e
   ·rw [e];exact ⟨d.2.2.2.1,d.2.1,d.2.2.2.2.1,d.2.2.2.2.2⟩
   ·rw [e];exact ⟨f.2.2.2.1,f.2.1,f.2.2.2.2.1,f.2.2.2.2.2⟩
   ·rw [e];exact ⟨g.2.2.2.1,g.2.1,g.2.2.2.2.1,g.2.2.2.2.2⟩
   ·rw [e];exact ⟨j.2.2.2.1,j.2.1,j.2.2.2.2.1,j.2.2.2.2.2⟩
  ·obtain ⟨o,a4,a5,a6,r⟩:=hm;refine ⟨o,a4,a5,k2 _ o (λ hb=>?_) a6,r⟩
   simp only [ZN,WB,or_false] at hb;rcases hb with e | e | e | e
   ·exact d.2.1 e.symm
   ·exact f.2.1 e.symm
   ·exact g.2.1 e.symm
   ·exact j.2.1 e.symm
  ·refine (B.hok b o q).stay (λ c v a e=>k2 c v ?_ e) (λ c e=>e) λ c O e=>e
   rcases a with e | e
   ·rw [e];exact J b o q
   ·exact J c _ e
 self:=λ _ _ _ _ _ t h=>wpAny_pyIter_zip t.1 h
end
section
variable {X:Cx}{elts:List Expr}{x1:Nat}{tpos:Pos}
def yR (K:FrG)(ex C:Addr)(dx:Option Addr)(d:TA):TI:=λ e H g=>d e H λ vs c=>∃a b,vs=[.ref a,.ref b]/\(∃xs,SqL K c a xs)/\(∃f,SqL K c b f)/\g (S7 K ex C dx a b) c
theorem AM7 {ex C:Addr}{dx:Option Addr}{a b:Expr}{k:TA}{p pos:Pos}(t:Gl X "zip")(hm:X.mg "zip"=none)(ha:PA X [a,b] k)(w:YE [a,b] X.env=[(false,eval a X.env),(false,eval b X.env)]:=by rfl)(j:YE [b] X.env=[(false,eval b X.env)]:=by rfl):
  Sh ex X (.Tuple elts x1 tpos) (.Call (.Name "zip" p) [a,b] [] pos) (yR X.K ex C dx k):=by
 intro d s l H S M h;refine Call_ (JF M t hm boot_zip (yv (thn (ha pos d s l H _ M h) λ us c ⟨vs,m,f,r1,x⟩=>?_) (by rw [w,j]) (by rw [j];rfl)))
 obtain ⟨a,b,e,⟨xs,y⟩,⟨N,z⟩,q⟩:=x;subst e;obtain ⟨u,v,rfl,A,B⟩:=vals2 r1;cases A
 cases B
 obtain ⟨n,O,g,P⟩:=f.list y;obtain ⟨o,Q,i,R⟩:=f.list z;have g:c.heap.IsList a n.toArray:=g.isList;have i:c.heap.IsList b o.toArray:=i.isList;have D:a < c.heap.objs.size:=by
  obtain ⟨_,e,_⟩:=g;exact ZT e
 have E:b < c.heap.objs.size:=by
  obtain ⟨_,e,_⟩:=i;exact ZT e
 refine yW g i λ h' r F G j1 I hsz J=>?_
 have L:Inv X d l m { c with heap:=h' }:=f.kept (t':=c.toks) J
 refine wpAny_pyIter_zip r ⟨c.heap.objs.size+4,[c.heap.objs.size+4,c.heap.objs.size+2,c.heap.objs.size+3,c.heap.objs.size,c.heap.objs.size+1],_,_,m,rfl,L,AQ2 (zipApart_new D E),⟨r,F,⟨_,_,G⟩,j1,I⟩,λ b hb=>?_,q⟩
 have le:c.heap.objs.size<=b:=by
  simp only [ZN,WB,or_false] at hb;rcases hb with e | e | e | e | e
  ·rw [e];exact js _ 4
  ·rw [e];exact js _ 2
  ·rw [e];exact js _ 3
  ·rw [e];exact ZE _
  ·rw [e];exact js _ 1
 exact f.fpOk le (f.hok.fresh le)
end
theorem o6 {ex:Addr}{X:Cx}{a2 a7 iter:Expr}{Y:List Expr}{a:Scope}{pos:Pos}{f1:TI}{k5:TG}{tt:TT}{f2:TE}{cl:List (Str×Addr)}(B:List Str)(O:List (Option Nat))(f3:X.A.handled=some (.ref ex))(hi:Sh ex X a2 iter f1)
  (h1:∀C k g P l,PG (Be X a cl B C k g P l) a2 k5) (ht:∀C k g P l,CP (Be X a cl B C k g P l) Y tt) (h2:∀C k g P l,PE (Be X a cl B C k g P l) a7 f2)
  (a8:CapOk X a cl) (hcell:∀y∈a.names,y.2≠.cell) (R:a.kind=.function) (b4:∀y∈a.names,y.2=.local->a.names.lookup y.1=some .local) (h3:O.length=B.length)
  (d8:∀(i j:Nat),O[i]?=some (some j)->∃y:Str,B[i]?=some y/\X.N[j]?=some y/\(ur a X.env).names.lookup y=some .cell/\X.env.scope.names.lookup y=some .cell)
  (h4:∀x,Qq iter X.env x=pure x) {g:List (Addr×Obj)} {s:X1} {b5:St} {H:Hp} {Q:VK} {use:Option (Value->Sem Unit)} {QQ:Value->X1->Prop}
  (f4:∀(C F:Addr) (k:List Addr) (P b3:X1) (l c3:Hp) (pl:List (Addr×Obj)) (E:St) (items:Array Value) (q:List V),Inv X g b5 l P->(∀b∈k,FpOk X g l b)->Inv (Be X a cl B C k g P l) pl E c3 b3->b3.heap.PlainList F items->c3 F=none->P.heap.get? F=none->F≠C->
   Vals q items.toList->q.length<=X3->(∀p,c3 p=none->Q (.ref p) (upd c3 p (.lst q)))->AL (model X.prog X.w) X.A X.xe use QQ (.ref F) C (.ok .next) b3)
  (k8:Inv X g b5 H s) (h:IW f1 k5 tt f2 O b5 H Q):wpAny (model X.prog X.w) X.A (Me (.ListComp a7 [⟨a2,iter,Y,0⟩] a pos) a X.env (firstIterPos [⟨a2,iter,Y,0⟩] pos) (newList []) false (eval iter X.env) use) QQ X.xe s:=by
 refine wpAny_comprehension_free (use:=use) rfl h4 a8.clos R b4 (thn (hi g s b5 H _ k8 h) λ k9 a3 G=>thn G λ k6 f d9=>?_)
 obtain ⟨it,k,b6,l2,l,rfl,S,T,d0,c4,h5,⟨h6,h7⟩,turn⟩:=d9;have b7:∀b∈k,b < f.heap.objs.size:=λ b hb=>by obtain ⟨o,e,_⟩:=T.obj _ _ d0 b hb;exact ZT e
 refine JJ (wpAny_newFunctionEnv hcell (by intro y h8;simp at h8) (λ G K I=>?_) R)
 dsimp only at K I ⊢
 generalize b8:f.heap.push { cls:=.type "list",dict:=none,data:=.seq ([]:List Value).toArray }=Z at K I ⊢;have e0:Z.objs.size=f.heap.objs.size+1:=by rw [<- b8,Ug]
 have a9:f.heap.objs.size≠Z.objs.size:=by rw [e0];exact YP (Qb _)
 have e1:f.heap.objs.size<=Z.objs.size:=by rw [e0];exact WV _
 have b0:∀b,b < f.heap.objs.size->b≠Z.objs.size:=λ b hb=>by rw [e0];exact YP (Nat.lt_succ_of_lt hb)
 have d1:∀b o,f.heap.get? b=some o->G.get? b=some o:=λ b o e=>I.extBut b o (b0 b (ZT e)) (X2 _ (b8▸X2 _ e))
 have e2:G.PlainList f.heap.objs.size #[]:=⟨_,I.extBut _ _ a9 (X2 _ (b8▸YI _ rfl))⟩;have U:f.heap.get? f.heap.objs.size=none:=xD (ZE _);have f5:l f.heap.objs.size=none:=S.hok.fresh (ZE _);generalize b1:f.heap.objs.size=F at *;generalize k7:Z.objs.size=C at *;have d2:∀b∈k,b≠F:=λ b hb=>YP (b7 b hb)
 have W:∀{t:Hp} {pl:List (Addr×Obj)},(∀p∈pl,p.1=F)->(∀b∈k,t b=none)->∀b∈k,FpOk (Be X a cl B C k g f l) pl t b:=λ {t pl} f6 hn b hb=>by
  obtain ⟨l0,h9,f7,l1,i0,i1⟩:=c4 b hb;refine ⟨hn b hb,b0 b (b7 b hb),O5 S h9 f7,.inl hb,λ y c e=>i0 y c (a8.sub y c e),λ p J=>?_⟩
  rcases XE.mp J with J | J
  ·exact i1 p J
  ·rw [f6 p J];exact (d2 b hb).symm
 have f8:∀n s',(∃i E q,∃(items:Array Value),∃t,Inv (Be X a cl B C k g f l) [] E t s'/\b6 i s'.heap/\(∀b∈k,t b=none)/\s'.heap.PlainList F items/\Vals q items.toList/\t F=none/\h5 i n E q t)->
   wpAny (model X.prog X.w) X.A (GM (.ref it)) (λ r a3=>match r with
   | none=>AL (model X.prog X.w) X.A X.xe use QQ (.ref F) C (.ok .next) a3
   | some v=>wpAny (model X.prog X.w) X.A (xB a2 (.ref it) v) (λ _ c5=>wpAny (model X.prog X.w) X.A (qo a2 (qh a cl C X.env) v) (λ _ c6=>
     wpAny (model X.prog X.w) X.A (forIn Y true λ c r=>if r=true then do let ok <- isTrue c (qh a cl C X.env) (eval c (qh a cl C X.env));pure (QD ok) else pure (QD r)) (λ ok D=>
      if ok=true then wpAny (model X.prog X.w) X.A (eval a7 (qh a cl C X.env)) (λ x e3=>
       wpAny (model X.prog X.w) X.A (call (.builtin "list.append") [.ref F,x]) (λ _ a4=>∃m,m < n/\∃i E q,∃(items:Array Value),∃t,Inv (Be X a cl B C k g f l) [] E t a4/\b6 i a4.heap/\(∀b∈k,t b=none)/\a4.heap.PlainList F items/\Vals q items.toList/\t F=none/\h5 i m E q t) (λ _ _=>False) e3) (λ _ _=>False) D
      else ∃m,m < n/\∃i E q,∃(items:Array Value),∃t,Inv (Be X a cl B C k g f l) [] E t D/\b6 i D.heap/\(∀b∈k,t b=none)/\D.heap.PlainList F items/\Vals q items.toList/\t F=none/\h5 i m E q t) (λ _ _=>False) c6) (λ _ _=>False) c5) (λ _ _=>False) a3) (λ _ _=>False) s':=by
  rintro n s3 ⟨i,M,q,items,b9,i2,d3,d4,f9,b2,g0,i3⟩
  obtain ⟨i4,i5⟩:=turn i n M q b9 i3;obtain ⟨a5,c7⟩:=id f9;have e4:F∉frs X.stack:=λ z=>by
   obtain ⟨_,o,e,_⟩:=S.stack.mem z;rw [U] at e;cases e
  have d5:Inv (Be X a cl B C k g f l) [(F,{ cls:=.type "list",data:=.seq items a5 })] M b9 s3:=i2.pins_of λ p J=>by
   have e:p=(F,{ cls:=.type "list",data:=.seq items a5 }):=by simpa using J
   subst e;exact ⟨c7,g0,a9,e4,λ v z=>by cases z⟩
  have one:∀p∈[(F,({ cls:=.type "list",data:=.seq items a5 }:Obj))],p.1=F:=λ p J=>by
   have e:p=(F,{ cls:=.type "list",data:=.seq items a5 }):=by simpa using J
   subst e;rfl
  rcases i5 with ⟨stop,i6⟩ | ⟨go,step⟩
  ·refine thn (T.done (Be X a cl B C k g f l) rfl rfl rfl f3 i _ s3 M b9 (λ _ _=>False) d5 (W one d4) d3 stop) λ r b3 ⟨e5,g1⟩=>?_
   subst e5;obtain ⟨i7,g2,_⟩:=g1.pin _ (Ya _ (ZB.mpr rfl));exact f4 C F k f b3 l b9 _ M items q S c4 g1 ⟨a5,i7⟩ g2 (b1▸U) a9 b2 i4 i6
  ·refine thn (T.item (Be X a cl B C k g f l) rfl rfl rfl f3 i _ s3 M b9 (λ _ _=>False) d5 (W one d4) d3 go) λ r b3 ⟨u,e5,i8⟩=>?_
   subst e5;refine thn i8 λ _ g3 ⟨x,g4,i9,j0,j1,c0,g5⟩=>?_
   have g6:=i9.pinned (W one g5) (T.obj _ _ c0);refine thn (h1 C k g f l _ g3 M g4 x u _ g6 j0 (step x g4 j1)) λ _ j2 ⟨L,j3,j4,j5⟩=>?_
   refine thn (ht C k g f l _ j2 L j3 _ j4 j5) λ b j6 ⟨g7,g8,c8⟩=>?_
   have c1:∀{a0:Hp} {a1:X1},Inv (Be X a cl B C k g f l) ([(F,({ cls:=.type "list",data:=.seq items a5 }:Obj))]++pinsAt k g3.heap) L a0 a1->
     Inv (Be X a cl B C k g f l) [] L a0 a1/\b6 (i+1) a1.heap/\(∀b∈k,a0 b=none)/\a1.heap.PlainList F items/\a0 F=none:=λ {a0 a1} a6=>by
    refine ⟨a6.pins_of (λ p J=>nomatch J),T.keep _ _ _ c0 λ b hb o e=>(a6.pin (b,o) (Ya _ (Ya _ (JP hb e)))).1,λ b hb=>?_,?_,?_⟩
    ·obtain ⟨o,e,d⟩:=T.obj _ _ c0 b hb;exact (a6.pin (b,o) (Ya _ (Ya _ (JP hb e)))).2.1
    ·exact ⟨a5,(a6.pin _ (Ya _ (QO _ (ZB.mpr rfl)))).1⟩
    ·exact (a6.pin _ (Ya _ (QO _ (ZB.mpr rfl)))).2.1
   cases b with
   | false=>
    rw [if_neg ZL] at c8;obtain ⟨e6,hm,j7⟩:=c8;obtain ⟨e7,e8,e9,f0,c9⟩:=c1 g8;rw [if_neg ZL];exact ⟨e6,hm,i+1,L,q,items,g7,e7,e8,e9,f0,b2,c9,j7⟩
   | true=>
    rw [if_pos rfl] at c8;rw [if_pos rfl];refine thn (h2 C k g f l _ j6 L g7 _ g8 c8) λ v a1 ⟨y,a0,a6,j8,e6,hm,j9⟩=>?_
    obtain ⟨e7,e8,e9,f0,c9⟩:=c1 a6;have g9:items.size<=X3:=by
     have e:q.length=items.size:=by simpa using b2.length
     omega
    refine wpAny_list_append_plain (hsz:=g9) f0 λ k0 h0 d6=>?_
    have k1:∀y c,cl.lookup y=some c->c≠F:=λ y c e z=>by
     obtain ⟨v,o,c7,_⟩:=S.cell y c (a8.sub y c e);rw [z,U] at c7;cases c7
    have k2:∀p∈(X.pn++g)++[],p.1≠F:=λ p J z=>by
     rw [WC] at J;have e:=(S.pin p J).1;rw [z,U] at e;cases e
    have k3:Inv (Be X a cl B C k g f l) [] L a0 { a1 with heap:=k0 }:=e7.turned (it:=F) (t':=a1.toks) (λ b o hb e=>d6.extBut b o hb e) c9 a9 (.inr (FF b1)) k1 k2
    refine ⟨e6,hm,i+1,L,q++[y],items.push v,a0,k3,T.keep _ _ _ e8 λ b hb o e=>d6.extBut b o (d2 b hb) e,e9,h0,?_,c9,j9⟩
    rw [Array.toList_push];exact b2.append (.cons j8 .nil)
 have k4:Inv (Be X a cl B C k g f l) [] (Ip O b5) l { f with heap:=G,toks:=f.toks+([]:List (Str×Value)).length }:=
  Y6 S c4 (λ b hb=>b1▸b7 b hb) R a8 (by rw [b1];exact e1) rfl S.bare d1 K h3 d8 (ht:=S.tk)
 have d7:b6 0 G:=T.keep _ _ _ d0 λ b _ o e=>d1 b o e
 have c2:∀D:X1,D={ f with heap:=G,toks:=f.toks+([]:List (Str×Value)).length }->
   wh (model X.prog X.w) X.A (.compLoop (.ListComp a7 [⟨a2,iter,Y,0⟩] a pos) 0 (.ref it) (.ref F) (qh a cl C X.env)) (AL (model X.prog X.w) X.A X.xe use QQ (.ref F) C) D:=by
  rintro D rfl
  exact fj _ f8 h6 ⟨0,_,[],#[],l,k4,d7,λ b hb=>(c4 b hb).1,e2,.nil,f5,h7⟩
 exact codeAny_compStart_list (c2 _ rfl) (T.self X.A 0 _ _ _ d7 (c2 _ rfl))
theorem pO {ex:Addr}{X:Cx}{p n iter:Expr}{o:List Expr}{a:Scope}{pos:Pos}{t:TI}{S:TG}{tt:TT}{u:TE}{cl:List (Str×Addr)}(d:List Str)(c:List (Option Nat))(E:X.A.handled=some (.ref ex))(hi:Sh ex X p iter t)
  (F:∀C e b f g,PG (Be X a cl d C e b f g) p S) (ht:∀C e b f g,CP (Be X a cl d C e b f g) o tt) (G:∀C e b f g,PE (Be X a cl d C e b f g) n u)
  (v:CapOk X a cl) (hcell:∀y∈a.names,y.2≠.cell) (l:a.kind=.function) (k:∀y∈a.names,y.2=.local->a.names.lookup y.1=some .local) (I:c.length=d.length)
  (q:∀(i j:Nat),c[i]?=some (some j)->∃y:Str,d[i]?=some y/\X.N[j]?=some y/\(ur a X.env).names.lookup y=some .cell/\X.env.scope.names.lookup y=some .cell)
  (J:∀x,Qq iter X.env x=pure x:=by intro _;rfl):
  PE X (.ListComp n [⟨p,iter,o,0⟩] a pos) (IW t S tt u c):=by
 intro b s V H Q W h;rw [eval_ListComp];refine o6 (use:=none) d c E hi F ht G v hcell l k I q J (λ C T e f Y g Z pl U items a0 K L w z B r D M O P=>?_) W h
 obtain ⟨m,hn,_⟩:=w.loc;exact ⟨m,hn,λ h' R=>⟨.ref T,_,Mx K L w z B r D M O R,rfl,P T B⟩⟩
inductive bf (K:FrG)(ex C:Addr)(dx:Option Addr)(n:Nat)(t:TGs)(v:V)(σ:St)(H:Hp)(Q:St->Hp->Prop):Prop | mk (a xs:_) (_:v=.ref a) (_:SqT K H a xs) (_:xs.length=n) (_:HX H ex C dx) (_:t xs σ H Q)
theorem AP9 {X:Cx}{pos:Pos}{ex C:Addr}{dx:Option Addr}{d:List Expr}{k:Nat}{t:TGs}{n:Nat}(m:X.A.handled=some (.ref ex))(h:PGs X d t)
  (hn:(JI d X.env).length=n:=by rfl) (g:(JI d X.env).findIdx? (·.1)=none:=by rfl):PG X (.Tuple d k pos) (bf X.K ex C dx n t):=by
 intro c s i H v u Q p r f;obtain ⟨a,xs,e1,q,hl,hex,f⟩:=f;subst e1;cases r
 obtain ⟨j,l,ht,z⟩:=p.tuple q;have ht:s.heap.IsTuple a j.toArray:=ht;refine sS m (λ h' x=>YS hex p.hok λ b u o _ e=>x _ o (YP (ZT e)) e) ht (by simp [hn,<- hl,l.length]) g λ h' w=>?_
 have y:Inv X c i H { s with heap:=h' }:=p.kept (t':=s.toks) λ b o e=>w b o (YP (ZT e)) e
 exact h c _ i H xs _ Q y (by simpa using l) f
theorem cG (h:Heap)(b:Addr):(h.update b λ o=>{ o with data:=.freed }).get? b=none:=by
 obtain ⟨os,l⟩:=h;unfold Heap.get? Heap.update;simp only [Array.getElem?_modify];cases os[b]?<;>rfl
theorem xF {P:ZU}{w:World}{fs:List Addr}{H f:Hp}{g h a B:Heap}{b:Addr}{o:Obj}{vs:Array Value}(i:∀c:Heap,B.StaysIn c->h.UpToSlots c->Un fs [] H f g c/\HOk P w f c)(st:B.StaysIn a)(up:h.UpToSlots a)
  (l:B.get? b=none) (hb:a.get? b=some o) (hd:o.data=.fields vs):f b=none/\g.get? b=none:=by
 have d:∀x,x≠b->(a.update b λ o=>{ o with data:=.freed }).get? x=a.get? x:=λ x n=>XY _ _ (WU n)
 obtain ⟨u,k⟩:=i (a.update b λ o=>{ o with data:=.freed }) (λ x o q=>(d x λ z=>by rw [z,l] at q;cases q).trans (st x o q)) λ x u q j=>by
  obtain ⟨m,z⟩:=up x u q j;refine ⟨m,(d x λ y=>?_).trans z⟩
  rw [y,hb] at z;cases z
  exact j vs hd
 refine ⟨k.none_of (cG a b),?_⟩;cases e:g.get? b with
 | none=>rfl
 | some o=>
  obtain ⟨p,z⟩:=u.there b o e λ z=>nomatch z
  rw [cG] at z;cases z
theorem qN {P:ZU}{w:World}{fs:List Addr}{H d:Hp}{f h:Heap}{a:Addr}{φ:Heap->Prop}(u:Un fs [] H d f h/\HOk P w d h)(na:d a=none)(p:f.get? a=none)(ex:φ h)(g:∃o,h.get? a=some o)
  (i:∀j l:Heap,φ j->(∀o,j.get? a=some o->l.get? a=some o)->φ l):Un fs [] H (upd d a (.ext φ)) f h/\HOk P w (upd d a (.ext φ)) h:=by
 have k:∀b o,d b=some o->upd d a (.ext φ) b=some o:=λ b o q=>by rw [Al (BV q na)];exact q
 refine ⟨⟨u.1.keep,u.1.slot,λ b o e n r=>?_,u.1.there,λ b xs e=>k _ _ (u.1.tups b xs e),λ b o x e=>k _ _ (u.1.frzs b o x e),λ b ps e=>?_⟩,λ b o e=>?_⟩
 ·have:b≠a:=λ z=>by rw [z,p] at e;cases e
  rw [Al this];exact u.1.free b o e n r
 ·obtain ⟨m,q⟩:=u.1.tbls b ps e;exact ⟨m,k _ _ q⟩
 ·by_cases hb:b=a
  ·subst hb;rw [Ag] at e;cases e
   exact ⟨ex,g,i⟩
  ·rw [Al hb] at e;exact (u.2 b o e).stay (λ c v _ q=>q) (λ c q=>k _ _ q) λ c xs q=>k _ _ q
theorem track {P:ZU}{w:World}{fs:List Addr}{H f:Hp}{g h B:Heap}{v:Value}(c:Chn B h v)(cl:∀b o vs,B.get? b=none->h.get? b=some o->o.data=.fields vs->f b=none/\g.get? b=none)
  (u:Un fs [] H f g h/\HOk P w f h):∃a,(Un fs [] H a g h/\HOk P w a h)/\ChT a v/\(∀b o,f b=some o->a b=some o)/\∀b,a b=f b\/ChT a (.ref b):=by
 induction c with
 | none=>exact ⟨f,u,.none,λ _ _ z=>z,λ _=>.inl rfl⟩
 | @ref b o vs j p e d t _ r=>
  obtain ⟨a,l,m,s3,i⟩:=r;obtain ⟨s,A⟩:=cl b o vs p e d;cases q:a b with
  | some y=>
   rcases i b with z | z
   ·rw [z,s] at q;cases q
   ·exact ⟨a,l,z,s3,i⟩
  | none=>
   have k:∀x y,a x=some y->upd a b (xH b o.cls o.dict j) x=some y:=λ x y z=>by rw [Al (BV z q)];exact z
   refine ⟨upd a b (xH b o.cls o.dict j),qN l q A ⟨o,vs,e,rfl,rfl,d,t⟩ ⟨o,e⟩ (λ _ _ z k=>z.stay k),.ref Ag (m.same k),λ x y z=>k _ _ (s3 x y z),λ x=>?_⟩
   by_cases n:x=b
   ·subst n;exact .inr (.ref Ag (m.same k))
   ·rcases i x with z | z
    ·exact .inl ((Al n).trans z)
    ·exact .inr (z.same k)
section
variable {X:Cx}{pins:List (Addr×Obj)}{σ:St}{H H2:Hp}{s s':X1}{a C Bc:Addr}{t:Option Addr}{B:Heap}{D:Ends}{xc n:Str}{np hp:Pos}{b₀:Stmt}{suite:List Stmt}{rest:List ExceptHandler}{ts:TS}{i:Nat}
theorem oE (R:Inv X pins σ H s)(M:X.stack=X.env::X.outer)(hf:X.env.frame=some X.env.locals)(os:s'.os=s.os)(bare:wS s'.gens)
  (m:∀l:Heap,B.StaysIn l->s'.heap.UpToSlots l->Un (frs X.stack) [] H H2 s.heap l/\HOk X.prog X.w H2 l) (a4:FlyD B X.stack a (.ref C) t .none s'.heap) (na:H2 a=none) (d1:s.heap.get? a=none)
  (b4:Gl X xc) (a5:X.mg xc=some (.ref Bc)) (hm:WZ X.K (.ref C) (.ref Bc)=some true) (b5:PSs (X.hnd a) (b₀::suite) ts) (p:X.N.Nodup) (hi:X.N[i]?=some n) (d:X.env.scope.names.lookup n=some .local)
  (q:∀j,(∀b o,H2 b=some o->j b=some o)->HX j a C t->ts (D.gone i) (σ.set i (some (.ref a))) j) (a6:(xc == ("__debug__":Str))=false:=by decide) (ht:X.tb<=s'.toks):
  wpAny (model X.prog X.w) X.A (GS (.ref a) X.env) (λ _ S=>wpAny (model X.prog X.w) X.A (AQ (.ref a) none) (λ _ U=>
   wpAny (model X.prog X.w) X.A (handleBy (.ref a) X.env (.ExceptHandler (some (.Name xc np)) (some n) (b₀::suite) hp::rest)) (SP X pins D) X.xe U) X.xe S) X.xe s':=by
 have a7:X.A.frames=some (X.env::X.outer):=by rw [<- M];exact R.ok.frames
 have V:FlyD B (X.env::X.outer) a (.ref C) t .none s'.heap:=by rw [<- M];exact a4
 refine P0 a7 hf V λ b6 F O=>?_
 refine Gz (s:={ s' with heap:=b6 }) F λ G k P=>?_
 have a8:Inv X pins σ H2 { s' with heap:=G }:=Gp R os bare (m G k.1 (O.trans P))
 obtain ⟨ob,a9,Y,_⟩:=k.there;have LT:yD (model X.prog X.w) G (typeOf (.ref a)) (.ref C):=Y▸(GI a9).andThen .now;refine FD (GH (EY (X:=X.hnd a) (a8.hnd a) b4 a5 ?_ a6)) (by intro q;cases q)
 refine BD (K:=X.K) a8.kIn LT hm _ _ _ _ (λ _ _ e=>e) ?_
 refine codeAny_handlers_suite_as ?_;refine Gz (s:={ s' with heap:=G }) k λ Z h b0=>?_
 have Q:=(O.trans P).trans b0;obtain ⟨d0,a0,I,J,_⟩:=h.there;have a1:Chn B Z (.ref a):=by
  obtain ⟨_,b7,_,o,d2,vs,ts,T,b8,_,_,hd,_,_,_,_,_,_,d3,b9,c0⟩:=h;exact .ref b7 b8 hd b9 c0
 obtain ⟨j,b1,c1,s3,_⟩:=track a1 (λ b o vs c2 c3 c4=>xF m h.1 Q c2 c3 c4) (m Z h.1 Q)
 have c5:HX j a C t:=by
  cases c1 with
  | ref e c=>
   obtain ⟨o,vs,z,b2,b3,_⟩:=(b1.2 a _ e).1;rw [a0] at z;cases z
   rw [I] at b2;rw [J] at b3;subst b2 b3;exact ⟨_,e,c⟩
 have c6:Inv X pins σ j { s' with heap:=Z }:=Gp R os bare b1
 refine Gu (X:=X.hnd a) (c6.hnd a) p hi (.inl d) (show RelV (.ref a) (Yf a) from rfl) (λ c7 c8=>?_) (.inr d)
 refine Wf (b5 pins c7 _ _ (D.gone i) c8 (q j s3 c5)) (λ f c9 L=>?_) (λ x c9 z=>z.elim)
 cases f with
 | next=>
  obtain ⟨y,a2,a3,q⟩:=L;exact HR (a3.unhnd R.ok) p hi d λ E g=>⟨_,_,g,q⟩
 | ret u=>
  obtain ⟨v,y,a2,a3,r,q⟩:=L;exact HR (a3.unhnd R.ok) p hi d λ E g=>⟨v,_,_,g,r,q⟩
 | brk=>
  obtain ⟨y,a2,a3,q⟩:=L;exact HR (a3.unhnd R.ok) p hi d λ E g=>⟨_,_,g,q⟩
 | cont=>
  obtain ⟨y,a2,a3,q⟩:=L;exact HR (a3.unhnd R.ok) p hi d λ E g=>⟨_,_,g,q⟩
end
def nY (K:FrG)(f:Addr)(j:Ends)(g:St)(i:Nat)(ts:Addr->TS):XK:=λ c d h=>∃C,c=.ref C/\WZ K (.ref C) (.ref f)=some true/\∀a e,(∀b o,h b=some o->e b=some o)->HX e a C d->ts a (j.gone i) (g.set i (some (.ref a))) e
section
variable {X:Cx}{xc n:Str}{pos np hp:Pos}{Bc:Addr}{b₀:Stmt}{suite:List Stmt}{ts:Addr->TS}{i:Nat}
theorem nR {c:List Stmt}{tb:RN}(hb:Uh X c tb)(l:X.stack=X.env::X.outer)(hf:X.env.frame=some X.env.locals)
  (m:X.mg xc=some (.ref Bc)) (v:∀a,PSs (X.hnd a) (b₀::suite) (ts a)) (w:X.N.Nodup) (hi:X.N[i]?=some n) (g:X.env.scope.names.lookup n=some .local) (o:Gl X xc:=by rfl) (p:(xc == ("__debug__":Str))=false:=by decide):
  PS X (.Try c [.ExceptHandler (some (.Name xc np)) (some n) (b₀::suite) hp] [] [] pos) (λ x b H=>tb (nY X.K Bc x b i ts) (λ j=>x.nx b j) b H):=by
 intro k s b H x J h;refine MH (Wf (Md J.tk (hb k s b H _ _ J h)) (λ f y ⟨_,z⟩=>?_) (λ e s' ⟨ht,A⟩=>?_))
 ·obtain ⟨rfl,j,D,q⟩:=z;exact yk ⟨b,j,D,q⟩
 ·obtain ⟨L,y,E,a,C,d,M,B,rfl,os,bare,r,t,na,F,O,G,u,I⟩:=A;cases G
  exact oE E l hf os bare r t na F o m u (v a) w hi g (I a) p ht
end
structure FnH (P:ZU)(w:World)(K:FrG)(mg:Str->Option Value)(base:Heap)(k:Nat)(f:Addr)(fd:UE)(ps:List Str)(sp:Addr->Sp):Prop where
 len:∀ex vs H Q E,sp ex vs H Q E->vs.length=ps.length
 run:∀(ex:Addr) (A:XA) (outer:List Env) (s:X1) (H:Hp) (args:Args) (us:List Value) (vs:List V) (Q:VK) (E:XK),A.handled=some (.ref ex)->RoomB false k A->Env0 P w K mg base A outer s H->NS s fd args (ps.zip us)->Vals vs us->sp ex vs H Q E->1<=s.toks->
  wh (model P w) A (.call (.ref f) args) (CR (DN P w) outer P w H s Q E) s
theorem AP2 {P:ZU}{w:World}{K:FrG}{mg:Str->Option Value}{base:Heap}{k:Nat}{f:Addr}{name c:Str}{d:Arguments}{h:List Stmt}{a:Scope}{I kV B J cdv ct Z:Value}{L a0:Option Addr}
  {M:Array (Option Value)} {N ps:List Str} {sp:Addr->Sp} (a1:K.lookup f=some ⟨Z,a0,.func (YR name c d h a I kV B J L cdv ct),M⟩) (O:Wp K cdv c=true) (R:FnScope N ps a)
  (len:∀ex vs H Q E,sp ex vs H Q E->vs.length=ps.length)
  (m:∀(ex:Addr) (A:XA) (outer:List Env) (s:X1) (H:Hp) (vs:List V) (Q:VK) (E:XK),A.handled=some (.ref ex)->RoomB false k (A.deeper (ua c a s.heap.objs.size f cdv))->sp ex vs H Q E->
   ∃t,PSs (Cv false P w K mg base N c a f cdv A outer s H E) h t/\t { nx:=λ _ g=>Q .non g,rt:=Q } (start N vs) H):
  FnH P w K mg base (k+1) f (YR name c d h a I kV B J L cdv ct) ps sp:=by
 refine ⟨len,λ ex A outer s H args us vs Q E a2 S l hb r C T=>?_⟩
 have hl:=len _ _ _ _ _ C;have U:K.In s.heap:=l.mod.kin.keeps λ b o e=>(l.bs b o e).1
 have lim:s.heap.NoLimit:=l.mod.nolimit.keeps λ b o e=>(l.bs b o e).1
 have p:∀y∈ps.zip us,a.names.lookup y.1=some .local\/(a.names.lookup y.1=some .cell/\((zC (s.heap.objs.size+1) a.names []).lookup y.1).isSome=true):=λ ⟨n,v⟩ a3=>by
  rcases R.par n (qk a3).1 with q | q
  ·exact .inl q
  ·exact .inr ⟨q,wx _ _ _ (.inl q)⟩
 refine GG S.depth (U _ _ a1) rfl R.co R.gen rfl (FX U O) (hb _ _ _ _ ?_);refine Vs R.kind p (.inl T) λ env a4 X x Y=>?_
 subst a4;refine ⟨lim.keeps x.toInCall.keep,codeAny_func ?_⟩;obtain ⟨t,ht,a5⟩:=m ex A outer s H vs Q E a2 (S.deeper _) C;have a7:Inv (Cv false P w K mg base N c a f cdv A outer s H E) [] (start N vs) H X:=VD R (λ z=>nomatch z) l hl r x Y
 refine Wf (ht [] X (start N vs) H _ a7 a5) (λ a6 s' j=>?_) λ e s' j=>j
 have D:∀{i:St} {g:Hp} {v:V} {u:Value},Inv (Cv false P w K mg base N c a f cdv A outer s H E) [] i g s'->RelV v u->Q v g->CE outer P w H s Q u s':=
  λ {i g v u} F G q=>⟨v,g,F.os,F.bare,F.base,F.hok,G,q⟩
 cases a6 with
 | ret u=>
  obtain ⟨v,i,g,F,G,q⟩:=j;exact D F G q
 | next=>
  obtain ⟨i,g,F,q⟩:=j;exact D (v:=V.non) (u:=US) F rfl q
 | brk=>
  obtain ⟨_,_,_,q⟩:=j;exact WE q
 | cont=>
  obtain ⟨_,_,_,q⟩:=j;exact WE q
structure CalH (P:ZU)(w:World)(K:FrG)(mg:Str->Option Value)(base:Heap)(k:Nat)(x:Str)(ps:List Str)(sp:Addr->Sp):Prop where
 ex:∃(f:Addr) (fd:UE),FnH P w K mg base k f fd ps sp/\mg x=some (.ref f)/\YJ K (.ref f)=true/\Binds K fd ps []
theorem TopFn.calH {P:ZU}{w:World}{K:FrG}{mg:Str->Option Value}{base:Heap}{x:Str}{st:Stmt}{N ps:List Str}{k:Nat}{sp:Addr->Sp}(T:TopFn K mg x st)(i:FnScope N ps (defScope st))
  (hb:∀(kV b c:Value) (d:Option Addr) (cdv ct:Value) (us:List Value),us.length=ps.length->jl (YR x x (defArgs st) (defBody st) (defScope st) .none kV b c d cdv ct) ⟨us,[]⟩=pure (ps.zip us))
  (len:∀ex vs H Q E,sp ex vs H Q E->vs.length=ps.length)
  (a:∀(f:Addr) (cdv:Value) (ex:Addr) (A:XA) (outer:List Env) (s:X1) (H:Hp) (vs:List V) (Q:VK) (E:XK),A.handled=some (.ref ex)->RoomB false k (A.deeper (ua x (defScope st) s.heap.objs.size f cdv))->sp ex vs H Q E->
   ∃t,PSs (Cv false P w K mg base N x (defScope st) f cdv A outer s H E) (defBody st) t/\t { nx:=λ _ e=>Q .non e,rt:=Q } (start N vs) H):CalH P w K mg base (k+1) x ps sp:=by
 obtain ⟨f,fd,F,hm⟩:=T.ex;obtain ⟨j,m,kV,b,c,d,cdv,ct,h,rfl,l,g⟩:=id F.ex;exact ⟨f,_,AP2 l g i len (a f cdv),hm,F.kp,F.binds hb⟩
section
variable {X:Cx}{k:Nat}{ps:List Str}{sp:Addr->Sp}{x:Str}{p pos:Pos}{e:Expr}{es:List Expr}{t:TA}{E:XK}{ex:Addr}
theorem qm (m:X.A.handled=some (.ref ex))(C:CalH X.prog X.w X.K X.mg X.base k x ps sp)(n:RoomB false k X.A)(o:Passes (DN X.prog X.w) X E)(ha:PA X (e::es) t)(v:Gl X x:=by rfl)(g:(x == ("__debug__":Str))=false:=by decide)
  (y:YE (e::es) X.env=(false,eval e X.env)::YE es X.env:=by rfl) (i:(Qe pos (YE es X.env)).any (·.1)=false:=by rfl):
  PE X (.Call (.Name x p) (e::es) [] pos) (tCall (sp ex) [] E t):=by
 obtain ⟨f,fd,F,hm,z,hb⟩:=C.ex;intro b s j H Q B h;refine UZ (EY B v hm ?_ g);refine UX (h₀:=X.base) B.ok.mod.kin z (thn (ha pos b s j H _ B h) λ us d ⟨vs,l,a,r,q⟩=>⟨a.kIn,?_⟩) y i
 have r2:Vals (vs++[]) (us++[]):=r.append .nil;have hl:(us++[]).length=ps.length:=by rw [<- r2.length];exact F.len _ _ _ _ _ q
 refine qq (xI a.tk (wT (F.run ex X.A X.stack d l ⟨us,[]⟩ (us++[]) (vs++[]) Q E m n a.env0 (hb d us a.kIn hl) r2 q a.tk1) λ r s' c ht=>?_))
 cases r with
 | error e=>exact o b j l d e s' a c ht
 | ok D=>
  cases D with
  | ret u=>exact a.after c
  | next=>exact WE c
  | brk=>exact WE c
  | cont=>exact WE c
end
section
variable {X:Cx}
theorem j0:CallR X (.builtin "isinstance") (λ xs H Q=>∃a C d v c b,xs=[.ref a,v]/\HX H a C d/\ExcK X.K C/\RelV v c/\W1 X.K (.ref C) c=some b/\Q (.bl b) H):=by
 intro l s y H xs us Q k r h;obtain ⟨a,C,d,v,c,b,rfl,⟨m,ha,_⟩,F,f,e,q⟩:=h;obtain ⟨u,g,rfl,n,j⟩:=vals2 r;cases (show u=Yf a from n)
 have o:g=c:=by
  cases v with
  | ref p=>exact (show g=.ref p from j).trans (show c=.ref p from f).symm
  | ty T=>exact (show g=.type T from j).trans (show c=.type T from f).symm
  | non=>exact (show g=.none from j).trans (show c=.none from f).symm
  | bl z=>exact (show g=.bool z from j).trans (show c=.bool z from f).symm
  | int i=>obtain ⟨t,rfl⟩:=f;exact absurd e (by unfold W1 kitCls;simp)
  | str i=>obtain ⟨t,rfl⟩:=f;exact absurd e (by unfold W1 kitCls;simp)
  | byt i=>obtain ⟨t,rfl⟩:=f;exact absurd e (by unfold W1 kitCls;simp)
  | flt i=>obtain ⟨t,rfl⟩:=f;exact absurd e (by unfold W1 kitCls;simp)
 subst o;have ob:ObjOk X.prog X.w H s.heap a (xH a (.ref C) d m):=k.hok a _ ha;exact yl k.tk (kia_one (uA F) k.kIn (XH.at ob.1) e (λ z=>nomatch z) λ tk x=>⟨.bl b,H,k.tok _,rfl,q⟩)
end
section
variable {X:Cx}{e:Expr}{ta:TE}{f:Str}{pos:Pos}
theorem Fd {K:FrG}(g:X.K=K:=by rfl):CallR X (.builtin "isinstance") (λ xs H Q=>∃a C d v c b,xs=[.ref a,v]/\HX H a C d/\ExcK K C/\RelV v c/\W1 K (.ref C) c=some b/\Q (.bl b) H):=g▸j0
end
end L2
namespace L2
open PySem PySem.Spec PyProof.Rows PySem.Builtin
theorem AH8 {K:FrG}{ex C:Addr}{dx:Option Addr}{a b:Addr}{xs zs:List V}{I:TG}{tt:TT}{o:TE}{Q:VK}{d:St}{H:Hp}(f:Nat->St->List V->Hp->Prop)(le:xs.length<=zs.length)(t:f 0 d [] H)(w:∀i d c H,i<=xs.length->f i d c H->c.length<=X3/\SqL K H a xs/\SqL K H b zs/\HX H ex C dx)
  (A:∀i x z d c H p,xs[i]?=some x->zs[i]?=some z->f i d c H->H p=none->I (.ref p) d (upd H p (.tup [x,z])) λ g B=>tt g B λ b q=>if b=true then o g q λ y D=>Nx xs.length f i g (c++[y]) D else Nx xs.length f i g c q)
  (hd:∀d c H p,f xs.length d c H->H p=none->Q (.ref p) (upd H p (.lst c))):Hc I tt o (S7 K ex C dx a b) d H Q:=by
 refine ⟨λ i m d c H=>m=xs.length - i/\i<=xs.length/\f i d c H,⟨xs.length,by simp,Qi _,t⟩,?_⟩
 rintro i m h c H ⟨rfl,hi,p⟩
 obtain ⟨z,k,s,E⟩:=w i h c H hi p;refine ⟨z,?_⟩;by_cases j:i < xs.length
 ·have l:i < zs.length:=Zu j le;refine .inr ⟨⟨xs,zs,xs[i],zs[i],k,s,by simp [j],by simp [l]⟩,λ x J y=>?_⟩
  obtain ⟨r,u,v,n,rfl,F,G,rfl⟩:=y;exact A i u v h c H r (F xs k) (G zs s) p n
 ·have e:i=xs.length:=by omega
  subst e;exact .inl ⟨⟨xs,k,ZE _,E⟩,λ r n=>hd h c _ r p n⟩
theorem uO {X:Cx}{pos:Pos}{ex C:Addr}{dx:Option Addr}{a:List Expr}{k:Nat}{t:TGs}{n:Nat}{K:FrG}(h:PGs X a t)(c:X.A.handled=some (.ref ex):=by assumption)
  (hn:(JI a X.env).length=n:=by rfl) (b:(JI a X.env).findIdx? (·.1)=none:=by rfl) (d:X.K=K:=by rfl):PG X (.Tuple a k pos) (bf K ex C dx n t):=d▸AP9 c h hn b
end L2
namespace L2
open PySem PySem.Spec PyProof.Rows
theorem FnB.imp {P:ZU}{w:World}{K:FrG}{mg:Str->Option Value}{base:Heap}{c:Bool}{k:Nat}{f:Addr}{fd:UE}{ps:List Str}{sp a:Sp}(F:FnB P w K mg base c k f fd ps sp)(h:∀vs H Q E,a vs H Q E->sp vs H Q E):FnB P w K mg base c k f fd ps a:=
 ⟨λ vs H Q E z=>F.len vs H Q E (h _ _ _ _ z),λ A outer s H args us vs Q E b d hb r z=>F.run A outer s H args us vs Q E b d hb r (h _ _ _ _ z)⟩
theorem CalB.imp {P:ZU}{w:World}{K:FrG}{mg:Str->Option Value}{base:Heap}{c:Bool}{k:Nat}{x:Str}{ps:List Str}{sp a:Sp}(C:CalB P w K mg base c k x ps sp)(h:∀vs H Q E,a vs H Q E->sp vs H Q E):CalB P w K mg base c k x ps a:=by
 obtain ⟨f,fd,F,r⟩:=C.ex;exact ⟨f,fd,F.imp h,r⟩
end L2
namespace Lib
open PySem L2 Fr Op Tx
abbrev El (k:Nat)(p:Pc):Part (k+1):=PartF.pc p
abbrev eF (k n:Nat)(qs:List (Part k)):Part (k+1):=PartF.rd n qs
end Lib
namespace L2
open PySem PySem.Spec PyProof.Rows
end L2
namespace Lib
open PySem L2 Fr Op Tx
theorem AG4 (k:Nat)(ps:List Pc):textL (k+1) (ps.map (El k))=Ef ps:=by
 unfold textL Ef;rw [Qc];rfl
theorem mj (k:Nat)(ps:List Pc):Eu (k+1) (ps.map (El k))=ps:=by
 unfold Eu;rw [Qc]
 induction ps with
 | nil=>rfl
 | cons p r a=>rw [YY,UN,a];rfl
end Lib
namespace L2
open PySem PySem.Spec PyProof.Rows
section
variable {prog:ZU}{w:World}{A:XA}{E:Value->X1->Prop}{s:X1}{env:Env}
variable {nm q:Str}{C N:Addr}{bs bm bmB:List Value}{hdct:Bool}{sn:List Str}{sub:List Value}{ab:Bool}{col:Option Bool}{dd:Option Addr}{k0 k1 k2 k3 k5:Option Value}{newId:String}
abbrev Jb (h:Heap)(e a:Addr):Heap:=((h.update e (XP (·.setIfInBounds 3 .none))).update e (XP (·.setIfInBounds 4 (.bool true)))).update e (XP (·.setIfInBounds 2 (.ref a)))
theorem AG5 {a:Addr}{x c:Sem Value}{Q:Flow->X1->Prop}(i:bm.contains (.type "BaseException")=true)(L:A.handled=some (.ref a))
  (M:∀f,wpAny (model prog w) A c (λ r g=>r=.none/\g=f) E f)
  (h:wpAny (model prog w) A x (λ v f=>∃e t,v=.ref e/\f.heap.get? C=some (Fh nm q C N bs bm hdct sn sub ab col dd k0 k1 k2 k3 k5 newId)/\
   f.heap.get? e=some { cls:=.ref C,data:=.fields #[.ref t,.none,.none,.none,.bool false,.none] }/\(∃g' u:Heap,Chn g' u (.ref a)/\u.get? e=none/\∀b o,u.get? b=some o->f.heap.get? b=some o)/\E (.ref e) { f with heap:=Jb f.heap e a }) E s):
  wpAny (model prog w) A (raiseStmt env (some x) (some c)) Q E s:=by
 have y:(Yf C::bm).contains (.type "BaseException")=true:=by rw [List.contains_cons,i,Bool.or_true]
 unfold raiseStmt;refine Y3 (Wf h (λ v f l=>?_) λ _ _ x=>x)
 obtain ⟨e,t,rfl,j,m,⟨_,O,k,n,P⟩,R⟩:=l;obtain ⟨B,u,d,tk,os⟩:=f;have D:a≠e:=λ z=>by
  cases k with
  | ref _ F _ _ _=>rw [z,n] at F;cases F
 have T:C≠e:=λ z=>by
  rw [z] at j;have:=m.symm.trans j;cases this
 refine Y3 (WI (Wf (M _) (λ r g p=>?_) λ _ _ x=>x))
 obtain ⟨rfl,rfl⟩:=p;refine Y3 (ZI ?_)
 repeat (first | with_reducible refine Qr m ?_ | with_reducible refine Qr j ?_ | (with_reducible refine FE j ?_;rw [y]) | wp_step)
 unfold raiseNew;refine Y3 (wpAny_handled ?_);rw [L];show wpAny _ _ (do
  if (Yf a != Yf e)=true then
   let _ <- Ge [Yf e] (runValue (.builtin "proto.unchain" ⟨[.ref e,.ref a,.ref a,.bool false],[]⟩))
   updateField e 2 (.ref a)
  throw (.ref e)) _ _ _
 have S:(Yf a != Yf e)=true:=by simpa using D
 rw [if_pos S];have G:∀b o,O.get? b=some o->((B.update e (XP λ x=>x.setIfInBounds 3 US)).update e (XP λ x=>x.setIfInBounds 4 (ql true))).get? b=some o:=λ b o hb=>by
  have H:b≠e:=λ z=>by rw [z,n] at hb;cases hb
  rw [XY _ _ (WU H),XY _ _ (WU H)];exact P b o hb
 refine Y3 (WI (wpAny_runValue (Zf k rfl G n .refl ?_)));have I:=XV (XP λ x=>x.setIfInBounds 3 US) m rfl
 have J:=XV (XP λ x=>x.setIfInBounds 4 (ql true)) I rfl
 have K:wpAny (model prog w) A (setField (.ref e) 2 (.ref a)) (λ _ s'=>wpAny (model prog w) A (throw (Yf e)) Q E s') E { heap:=(B.update e (XP λ x=>x.setIfInBounds 3 US)).update e (XP λ x=>x.setIfInBounds 4 (ql true)),gens:=u,drawn:=d,toks:=tk,os:=os }:=
  xo J rfl (by simp) (wpAny_throw R)
 exact Y3 K
theorem lH {B:String}{g:String}(I:ExcBaseFacts B newId g bmB){a:Addr}{n:Str->Option Value}{y:Str}{o i p r:Pos}{x:Nat}{j:List Expr}{Q:Flow->X1->Prop}
  (hb:bm.contains (.type "BaseException")=true) (J:A.handled=some (.ref a)) (D:(Qe i (YE j env)).any (·.1)=false) (F:n "__init__"=none)
  (h:wpAny (model prog w) A (eval (.Name y o) env) (λ f G=>f=.ref C/\wpAny (model prog w) A (evalArgs (.ref C) true (Qe i (YE j env)) [])
   (λ b c=>b.kw=[]/\b.pos.length<=X3/\c.heap.get? C=some (Fh nm q C N bs bm hdct sn sub ab col dd k0 k1 k2 k3 k5 newId)/\c.heap.Ns N n/\OwnTail c.heap bmB bm/\(∃g',Chn g' c.heap (.ref a))/\
    ∀h' e,Heap.MadeExcOf c.heap h' e (.ref C) b.pos->E (.ref e) { c with heap:=Jb h' e a }) E G) E s):
  wpAny (model prog w) A (exec (.Raise (some (.Call (.Name y o) j [] i)) (some (.Constant .none x r)) p) env) Q E s:=by
 rw [arm_exec_Raise];simp only [evalOpt,Option.map];have K:∀u,wpAny (model prog w) A (do let v <- eval (.Constant .none x r) env;NL p;pure v) (λ L c=>L=.none/\c=u) E u:=λ u=>
  Y3 (Constant_none (Y3 (UO (ZI ⟨rfl,rfl⟩))))
 refine Y3 (UO (AG5 (k5:=k5) (k3:=k3) (k2:=k2) (k1:=k1) (k0:=k0) (dd:=dd) (col:=col) (ab:=ab) (sub:=sub) (sn:=sn) (hdct:=hdct) (bs:=bs) (N:=N) (q:=q) (nm:=nm) (newId:=newId) (C:=C) (a:=a) hb J K (Y3 (Wf (wpAny_Call_ofName (Wf h (λ f G k=>?_) λ _ _ z=>z)) (λ v R M=>Y3 (UO (ZI M))) λ _ _ z=>z))))
 obtain ⟨rfl,k⟩:=k;unfold Np;refine Y3 (WI (Wf k (λ b c l=>Y3 (UO ?_)) λ _ _ z=>z))
 obtain ⟨S,bk⟩:=b;obtain ⟨O,hl,m,hn,T,⟨g',H⟩,l⟩:=l;obtain rfl:bk=[]:=O;obtain ⟨P,U,d,tk,os⟩:=c;simp only [D];refine Y3 (wpAny_keeperOf_exc m ?_);refine Y3 (wpAny_call_exc_subT (hrest:=hl) I T m hn F λ h' e hm=>Y3 (WI (wpAny_point (ZI ?_))))
 obtain ⟨t,ht,_,_⟩:=hm.there;exact ⟨e,t,rfl,hm.keeps _ _ m,ht,⟨g',P,H,hm.new,hm.keeps⟩,l h' e hm⟩
end
section
variable {X:Cx}{pins:List (Addr×Obj)}{σ:St}{H H2:Hp}{s s':X1}{a C Bc D0:Addr}{t:Option Addr}{B:Heap}{D:Ends}{xc y:Str}{np hp p1 p2 p3 p4:Pos}{kk jj:Nat}{z₀:Str}{p5:Pos}{rest:List ExceptHandler}
theorem AO8 {E:XK}(Bd:BodyCx X E)(V:Inv X pins σ H s)(os:s'.os=s.os)(bare:wS s'.gens)
  (i:∀c:Heap,B.StaysIn c->s'.heap.UpToSlots c->Un (frs X.stack) [] H H2 s.heap c/\HOk X.prog X.w H2 c) (j:FlyD B X.stack a (.ref C) t .none s'.heap)
  (b4:Gl X xc) (Y:X.mg xc=some (.ref Bc)) (hm:WZ X.K (.ref C) (.ref Bc)=some true) (c8:ExcCls X.K X.mg y D0) (Z:Gl X y)
  (q:E (.ref D0) none H2) (a0:(xc == ("__debug__":Str))=false:=by decide) (a1:(y == ("__debug__":Str))=false:=by decide) (ht:X.tb<=s'.toks:=by first | assumption | exact Inv.tk (by assumption) | exact Xh (Inv.tk (by assumption)) | exact W8 (Inv.tk (by assumption)) (by assumption) | (have:=Inv.tk (by assumption);omega) | (have:=Inv.tk (by assumption);dsimp only at this;omega)):
  wpAny (model X.prog X.w) X.A (GS (.ref a) X.env) (λ _ Q=>wpAny (model X.prog X.w) X.A (AQ (.ref a) none) (λ _ R=>
   wpAny (model X.prog X.w) X.A (handleBy (.ref a) X.env (.ExceptHandler (some (.Name xc np)) none [.Raise (some (.Call (.Name y p1) [.Constant (.str z₀) jj p5] [] p2)) (some (.Constant .none kk p4)) p3] hp::rest)) (SP X pins D) X.xe R) X.xe Q) X.xe s':=by
 have l:=Bd.stk;have hf:=Bd.fr;have O:X.A.frames=some (X.env::X.outer):=by rw [<- l];exact V.ok.frames
 have S:FlyD B (X.env::X.outer) a (.ref C) t .none s'.heap:=by rw [<- l];exact j
 refine P0 O hf S λ b5 I n=>?_
 refine Gz (s:={ s' with heap:=b5 }) I λ J g p=>?_
 have a2:Inv X pins σ H2 { s' with heap:=J }:=Gp V os bare (i J g.1 (n.trans p))
 obtain ⟨ob,a3,U,_⟩:=g.there;have LT:yD (model X.prog X.w) J (typeOf (.ref a)) (.ref C):=U▸(GI a3).andThen .now;refine FD (GH (EY (X:=X.hnd a) (a2.hnd a) b4 Y ?_ a0)) (by intro q;cases q)
 refine BD (K:=X.K) a2.kIn LT hm _ _ _ _ (λ _ _ e=>e) ?_
 refine codeAny_handlers_suite ?_;refine Gz (s:={ s' with heap:=J }) g λ d f P=>?_
 have h:Inv X pins σ H2 { s' with heap:=d }:=Gp V os bare (i d f.1 ((n.trans p).trans P))
 have r:Chn B d (.ref a):=by
  obtain ⟨_,v,_,o,c9,vs,ts,T,b6,_,_,hd,_,_,_,_,_,_,d0,b7,b8⟩:=f;exact .ref v b6 hd b7 b8
 obtain ⟨G,a4,a5⟩:=r.mem;have a6:PassesOwnAt (model X.prog X.w) (X.A.mark (some (.ref a))) X.A X.env X.xe:=by rw [Bd.xe];exact PassesOwnAt.leaving
 refine wpAny_passesOwnAt a6 (UI ?_);obtain ⟨b9,N,nm,c0,bs,hdct,sn,sub,ab,col,dd,k0,k1,k2,k3,k5,d1,c1,c2,a7,a8⟩:=Qd V.ok.mod.kin c8.ob;have L:b9.contains (.type "BaseException")=true:=a8.hasType (X:="BaseException") (by decide+kernel)
 have a9:(Qe p2 (YE [.Constant (.str z₀) jj p5] X.env)).any (·.1)=false:=rfl
 refine lH (nm:=nm) (q:=c0) (N:=N) (bs:=bs) (hdct:=hdct) (sn:=sn) (sub:=sub) (ab:=ab) (col:=col) (dd:=dd) (k0:=k0) (k1:=k1) (k2:=k2) (k3:=k3) (k5:=k5) JO L rfl a9 a7 (EY (X:=X.hnd a) (h.hnd a) Z c8.mg ⟨rfl,?_⟩ a1);refine zO (wv (wr (k:=jj) (pos:=p5) (qS ⟨rfl,by show 1<=X3;decide,h.bk _ _ c1,c2.keeps h.bk,a8.keeps h.bk,⟨_,r⟩,λ h' e hm=>?_⟩)))
 have M:Inv X pins σ H2 { s' with heap:=d,toks:=s'.toks+1 }:=h.tok _
 rw [Bd.xe];have b0:∀env∈X.stack,∀b,env.frame=some b->b∈G++frs X.stack:=λ env c3 b hb=>Ya _ (wt.mpr ⟨env,c3,hb⟩)
 have c4:d.FunFrames (JU d (G++frs X.stack)) (X.env::X.outer):=by
  have z:=Ga h.stack b0;rw [<- Bd.stk];exact z
 obtain ⟨d2,b1,_,_⟩:=hm.there;have b2:(JU d (G++frs X.stack)).get? e=none:=by
  cases c5:(JU d (G++frs X.stack)).get? e with
  | none=>rfl
  | some o=>have z:=zv _ c5;rw [hm.new] at z;cases z
 have kp:∀b o,d.get? b=some o->(Jb h' e a).get? b=some o:=λ b o hb=>by
  have v:e≠b:=λ z=>by rw [<- z,hm.new] at hb;cases hb
  unfold Jb;rw [XY _ _ v,XY _ _ v,XY _ _ v];exact hm.keeps b o hb
 have e1:=XV (XP λ x=>x.setIfInBounds 3 US) b1 rfl
 have e2:=XV (XP λ x=>x.setIfInBounds 4 (ql true)) e1 rfl
 have c6:=XV (XP λ x=>x.setIfInBounds 2 (Yf a)) e2 rfl
 have c7:Chn (JU d (G++frs X.stack)) (Jb h' e a) (.ref a):=(a5 _ λ b m=>GW _ (QO _ m)).mono λ b o vs hb hd=>⟨o,vs,kp b o hb,hd,rfl⟩
 refine Ub (s:={ s' with heap:=Jb h' e a,toks:=s'.toks+1 }) O Bd.fr (λ b o q=>kp b o (zv _ q)) b2 (c4.of_keeps λ b o q _=>⟨o,kp b o q,rfl⟩) c6 rfl rfl ⟨_,rfl,c7⟩ λ d3 j up=>?_
 refine ⟨e,D0,none,H2,_,rfl,M.os,M.bare,λ c st b3=>?_,j,M.hok.none_of hm.new,PB M (λ b z=>by rw [Bd.ex] at z;cases z) hm.new,q⟩
 have d4:Inv X pins σ H2 { s' with heap:=c }:=Gp V os bare (i c (λ b o q=>st b o (jI _ (f.1 b o q) λ m=>by
   rcases XE.mp m with m | m
   ·rw [(a4 b m).1] at q;cases q
   ·rw [l] at m;rw [(f.2.2.1.mem m).1] at q;cases q))
  (((((n.trans p).trans P).trans λ b u q _=>⟨u.slots,kp b u q⟩).trans up).trans b3))
 exact dM Bd d4 (λ _ _ q=>q) (λ b u q _=>⟨u.slots,q⟩) c (λ b o q=>zv _ q) (λ b u q _=>⟨u.slots,q⟩)
end
section
variable {X:Cx}{c:Bool}{k:Nat}{ps:List Str}{sp:Sp}{x xc y:Str}{p pos cpos rpos np hp p1 p2 p3 p4 p5:Pos}{e:Expr}{es:List Expr}{t:TA}{Bc D0:Addr}{kk jj:Nat}{z₀:Str}
theorem dF {E:XK}(Bd:BodyCx X E)(C:CalB X.prog X.w X.K X.mg X.base c k x ps sp)(M:RoomB c k X.A)(ha:PA X.nox (e::es) t)(l:X.mg xc=some (.ref Bc))(Z:ExcCls X.K X.mg y D0)(N:Gl X x:=by rfl)(m:Gl X xc:=by rfl)(n:Gl X y:=by rfl)
  (o:(x == ("__debug__":Str))=false:=by decide) (u:(xc == ("__debug__":Str))=false:=by decide) (z:(y == ("__debug__":Str))=false:=by decide)
  (O:YE (e::es) X.env=(false,eval e X.env)::YE es X.env:=by rfl) (D:(Qe cpos (YE es X.env)).any (·.1)=false:=by rfl):
  PS X (.Try [.Return (some (.Call (.Name x p) (e::es) [] cpos)) rpos] [.ExceptHandler (some (.Name xc np)) none [.Raise (some (.Call (.Name y p1) [.Constant (.str z₀) jj p5] [] p2)) (some (.Constant .none kk p4)) p3] hp] [] [] pos)
   (λ Y b H=>t b H λ vs G=>sp (vs++[]) G Y.rt λ c _ d=>∃g,c=.ref g/\WZ X.K (.ref g) (.ref Bc)=some true/\E (.ref D0) none d):=by
 obtain ⟨f,fd,F,hm,P,hb⟩:=C.ex;intro Q s b H Y R h;refine MH (UI (Go (UZ (EY R N hm ?_ o))));refine UX (h₀:=X.base) R.ok.mod.kin P (thn (PA.any ha cpos R h) λ us a0 ⟨vs,G,i,r,q⟩=>⟨i.kIn,?_⟩) O D
 refine thn (Ks F M hb i r q λ e s' S ht=>?_) λ v a1 ⟨T,d,U,r2,j⟩=>⟨T,b,d,U,r2,j⟩
 obtain ⟨a,C,t,a2,B,rfl,os,bare,I,J,na,a3,g,V,L,j⟩:=S;cases V
 exact AO8 Bd i os bare I J m l L Z n j u z
end
section
variable {X:Cx}{k:Nat}{m:Str}{pos apos:Pos}{e o:Expr}{es:List Expr}{ta:TE}{t:TA}{E:XK}
def Xi (P:ZU)(w:World)(K:FrG)(mg:Str->Option Value)(base:Heap)(k:Nat)(m:Str)(E:XK)(ta:TE)(t:TA):TE:=λ b H Q=>ta b H λ x c=>∃a C dx fs ps sp,x=.ref a/\c a=some (.ins C dx fs)/\fs.lookup m=none/\
 MC P w K mg base k C m ps sp/\t b c λ vs d=>sp (x::vs) d Q E
theorem Ew {pl:Sem Bool}(p:Passes (DN X.prog X.w) X E)(v:PE X o ta)(y:RoomB true k X.A)(ha:PA X (e::es) t)
  (c:YE (e::es) X.env=(false,eval e X.env)::YE es X.env:=by rfl) (d:(Qe pos (YE es X.env)).any (·.1)=false:=by rfl)
  (ht:eval (.Call (.Attribute o m apos) (e::es) [] pos) X.env=(do
   let g <- eval o X.env
   NL apos.atName
   let (f,first) <- Ge [g] (GP g m pl)
   Np pos f first (Qe pos (YE (e::es) X.env)) (Gw pos (xL [] X.env))):=by rfl):
  PE X (.Call (.Attribute o m apos) (e::es) [] pos) (Xi X.prog X.w X.K X.mg X.base k m E ta t):=by
 intro b s i H Q J h;refine zt (pl:=pl) (thn (v b s i H _ J h) λ u z ⟨x,B,j,D,a,C,dx,fs,ps,sp,ex,G,l,M,q⟩=>?_) ht
 subst ex;obtain rfl:u=Yf a:=D;obtain ⟨f,fd,F,hm,hb⟩:=M.ex;refine Ka j G M.cl hm l ?_;refine UX (first:=[.ref a]) (h₀:=X.base) J.ok.mod.kin hm.kp (thn (ha pos b z i B _ j q) λ us L ⟨vs,N,n,r,I⟩=>⟨n.kIn,?_⟩) c d
 exact QC (us:=.ref a::us) (vs:=.ref a::vs) (dvs:=[]) (ds:=[]) (E:=E) F.ok y.room hb .nil p n (.cons rfl r) (by rw [WC];exact I)
theorem Jd {pl:Sem Bool}(g:Passes (DN X.prog X.w) X E)(i:PE X o ta)(j:RoomB true k X.A)
  (ht:eval (.Call (.Attribute o m apos) [] [] pos) X.env=(do
   let d <- eval o X.env
   NL apos.atName
   let (f,first) <- Ge [d] (GP d m pl)
   Np pos f first (Qe pos (YE [] X.env)) (Gw pos (xL [] X.env))):=by rfl):
  PE X (.Call (.Attribute o m apos) [] [] pos) (Xi X.prog X.w X.K X.mg X.base k m E ta tNil):=by
 intro b s n H Q v h;refine zt (pl:=pl) (thn (i b s n H _ v h) λ u y ⟨x,z,c,p,a,C,dx,fs,ps,sp,ex,r,l,M,q⟩=>?_) ht
 subst ex;obtain rfl:u=Yf a:=p;obtain ⟨f,fd,F,hm,hb⟩:=M.ex;refine Ka c r M.cl hm l ?_;exact jM (first:=[.ref a]) c.kIn hm.kp (QC (us:=[.ref a]) (vs:=[.ref a]) (dvs:=[]) (ds:=[]) (E:=E) F.ok j.room hb .nil g c (.cons rfl .nil) q)
end
end L2
namespace Lib
open PySem L2 Fr Op Tx
noncomputable def numOf (x:Str):Option Rat:=@dite (Option Rat) (∃q,Short q/\Ay q=x) (Classical.propDecidable _) (λ c=>some (Classical.choose c)) (λ _=>none)
theorem j5 {p q:Rat}(h:Ay p=Ay q):p=q:=vA (by rw [<- Em,<- Em,h])
theorem Jh {q:Rat}(h:Short q):numOf (Ay q)=some q:=by
 unfold numOf;have c:∃p,Short p/\Ay p=Ay q:=⟨q,h,rfl⟩;rw [dif_pos c];exact congrArg some (j5 (BQ c).2)
theorem K9 {x:Str}{q:Rat}(h:numOf x=some q):Short q/\x=Ay q:=by
 unfold numOf at h;by_cases c:∃q,Short q/\Ay q=x
 ·rw [dif_pos c] at h;have:=BQ c;rw [Ux h] at this;exact ⟨this.1,this.2.symm⟩
 ·rw [dif_neg c] at h;cases h
theorem oY {x:Str}(h:∀q,Short q->Ay q≠x):numOf x=none:=by
 unfold numOf;rw [dif_neg];rintro ⟨q,a,b⟩
 exact h q a b
theorem Xx {x:Str}(h:numOf x=none):∀q,Short q->Ay q≠x:=λ q a e=>by
 rw [<- e,Jh a] at h;cases h
def Eb (x:Str):Option Nat:=(QE 61).find? λ n=>x=CN n
theorem Q6 {x:Str}{n:Nat}(h:Eb x=some n):x=CN n/\n<=60:=by
 unfold Eb at h;have a:=List.find?_some h;have b:=List.mem_of_find?_eq_some h;rw [FK] at b;exact ⟨of_decide_eq_true a,by omega⟩
theorem di {x:Str}(h:Eb x=none):∀n,n<=60->x≠CN n:=λ n hn e=>by
 unfold Eb at h;have:=List.find?_eq_none.mp h n (FK.mpr ∅)
 exact this (ζ e)
noncomputable def pNum (ws:List Str) (i:Nat):Option (Rat×Nat):=(ws[i]?.bind numOf).map λ q=>(q,i+1)
theorem lB {ws:List Str}{i:Nat}{q:Rat}{j:Nat}(h:pNum ws i=some (q,j)):ws[i]?=some (Ay q)/\Short q/\j=i+1:=by
 unfold pNum at h;cases e:ws[i]? with
 | none=>rw [e] at h;cases h
 | some x=>
  rw [e] at h;cases e2:numOf x with
  | none=>simp [e2] at h
  | some r=>
   simp [e2] at h
   obtain ⟨rfl,rfl⟩:=h;obtain ⟨a,rfl⟩:=K9 e2;exact ⟨rfl,a,rfl⟩
def CT {a:Type}(f:Nat->Option (a×Nat))(ws:List Str):Nat->Nat->Option (List a×Nat)
 | 0,_=>none
 | n+1,i=>match f i with
  | none=>none
  | some (p,j)=>if ws[j]?=some (Aa ";") then (match CT f ws n (j+1) with
   | none=>none
   | some (ps,m)=>some (p::ps,m)) else some ([p],j)
def HH {k:Nat}(f:Nat->Option (Part k×Nat))(ws:List Str)(w:Str)(i:Nat):Option (Part (k+1)×Nat):=
 match Eb w with
 | none=>none
 | some n=>if k=0 then none else if ws[i]?=some (Aa "times") then (if ws[i+1]?=some (Aa "(") then (match CT f ws (ws.length+1) (i+1+1) with
  | none=>none
  | some (ps,j)=>if ws[j]?=some (Aa ")") then some (eF k n ps,j+1) else none) else none) else none
noncomputable def HS (k:Nat) (ws:List Str) (i:Nat):Option (Part (k+1)×Nat):=match pNum ws i with
 | none=>none
 | some (lo,j)=>match pNum ws j with
  | none=>none
  | some (hi,a)=>if hi < lo then none else some (El k (.stop lo hi),a)
noncomputable def BZ (ws:List Str):(k:Nat)->Nat->Option (Part k×Nat)
 | 0,_=>none
 | k+1,i=>match ws[i]? with
  | none=>none
  | some w=>if w=Aa "gap" then (pNum ws (i+1)).map λ x=>(El k (.gap x.1),x.2)
   else if w=Aa "glass" then (pNum ws (i+1)).map λ x=>(El k (.glass x.1),x.2)
   else if w=Aa "stop" then HS k ws (i+1)
   else HH (BZ ws k) ws w (i+1)
inductive gh (K:FrG)(N:Addr)(vs:List V)(H:Hp)(Q:VK)(E:XK):Prop | mk (x:Str) (_:vs=[.str x]) (_:x.length<=100000) (_:(∀q,numOf x=some q->∀v H',Same H H'->DV K H' v (Av q)->Q v H')) (_:(numOf x=none->∀H',Same H H'->E (.ref N) none H'))
inductive AH0 (C:Addr)(vs:List V)(H:Hp)(Q:VK)(E:XK):Prop | mk (v:_) (_:vs=[v]) (_:((∃(x:Str) (q:Rat),v=.str x/\Short q/\cl x=sh q/\∀(r:Addr) H',Same H H'->H' r=some (Ib q)->Q (.ref r) H')\/(∃x:Str,v=.str x/\x.length<=100000/\(∀q,Short q->cl x≠sh q)/\∀H',Same H H'->E (.ref C) none H')))
theorem PQ {b:Type}{f:Nat->Option (b×Nat)}{ws:List Str}{r:b->Prop}(hf:∀i p j,f i=some (p,j)->i < j/\j<=ws.length/\r p):∀(n i:Nat) (ps:List b) (j:Nat),CT f ws n i=some (ps,j)->i < j/\j<=ws.length/\ps≠[]/\(∀p∈ps,r p)/\ps.length+i<=j
 | 0,_,_,_,h=>nomatch h
 | n+1,i,ps,j,h=>by
  unfold CT at h;cases e:f i with
  | none=>rw [e] at h;cases h
  | some x=>
   obtain ⟨p,j1⟩:=x;obtain ⟨g,k,d⟩:=hf i p j1 e;rw [e] at h;dsimp only at h
   by_cases c:ws[j1]?=some (Aa ";")
   ·rw [if_pos c] at h;cases e2:CT f ws n (j1+1) with
    | none=>rw [e2] at h;cases h
    | some y=>
     obtain ⟨qs,m⟩:=y;rw [e2] at h;cases h
     obtain ⟨s,l,t,o,u⟩:=PQ hf n _ _ _ e2;refine ⟨by omega,l,by simp,λ q a=>?_,by simp only [W6];omega⟩
     rcases ZN.mp a with rfl | a
     ·exact d
     ·exact o q a
   ·rw [if_neg c] at h;cases h
    exact ⟨g,k,by simp,λ q a=>by rw [ZB.mp a];exact d,by simp only [W6,XG];omega⟩
theorem Ow {ws:List Str}{i:Nat}{q:Rat}{j:Nat}(h:pNum ws i=some (q,j)):i < ws.length/\j=i+1/\Short q:=by
 obtain ⟨a,b,c⟩:=lB h;exact ⟨CJ a,c,b⟩
theorem Kf {ws:List Str}(hl:ws.length<=50000):∀(k i:Nat) (p:Part k) (j:Nat),BZ ws k i=some (p,j)->i < j/\j<=ws.length/\WP k p
 | 0,_,e,_,_=>nomatch e
 | k+1,i,p,j,h=>by
  unfold BZ at h;cases e:ws[i]? with
  | none=>rw [e] at h;cases h
  | some w=>
   rw [e] at h;dsimp only at h
   by_cases o:w=Aa "gap"
   ·rw [if_pos o] at h;cases e2:pNum ws (i+1) with
    | none=>rw [e2] at h;cases h
    | some x=>
     obtain ⟨q,m⟩:=x;rw [e2] at h;cases h
     obtain ⟨f,g,a⟩:=Ow e2;exact ⟨by omega,by omega,show Cj (.gap q) from ⟨trivial,λ r b=>by rw [ZB.mp b];exact a⟩⟩
   rw [if_neg o] at h;by_cases s:w=Aa "glass"
   ·rw [if_pos s] at h;cases e2:pNum ws (i+1) with
    | none=>rw [e2] at h;cases h
    | some x=>
     obtain ⟨q,m⟩:=x;rw [e2] at h;cases h
     obtain ⟨f,g,a⟩:=Ow e2;exact ⟨by omega,by omega,show Cj (.glass q) from ⟨trivial,λ r b=>by rw [ZB.mp b];exact a⟩⟩
   rw [if_neg s] at h;by_cases t:w=Aa "stop"
   ·rw [if_pos t] at h;unfold HS at h;cases e2:pNum ws (i+1) with
    | none=>rw [e2] at h;cases h
    | some x=>
     obtain ⟨lo,m⟩:=x;rw [e2] at h;dsimp only at h
     cases c:pNum ws m with
     | none=>rw [c] at h;cases h
     | some y=>
      obtain ⟨hi,B⟩:=y;rw [c] at h;dsimp only at h
      by_cases d:hi < lo
      ·rw [if_pos d] at h;cases h
      ·rw [if_neg d] at h;cases h
       obtain ⟨f,g,a⟩:=Ow e2;obtain ⟨C,D,z⟩:=Ow c;exact ⟨by omega,by omega,show Cj (.stop lo hi) from ⟨d,λ r b=>by rcases ZN.mp b with rfl | b;exact a;rw [ZB.mp b];exact z⟩⟩
   rw [if_neg t] at h;unfold HH at h;cases e2:Eb w with
   | none=>rw [e2] at h;cases h
   | some n=>
    rw [e2] at h;dsimp only at h
    by_cases d:k=0
    ·rw [if_pos d] at h;cases h
    rw [if_neg d] at h;by_cases u:ws[i+1]?=some (Aa "times")
    ·rw [if_pos u] at h;by_cases v:ws[i+1+1]?=some (Aa "(")
     ·rw [if_pos v] at h;cases c:CT (BZ ws k) ws (ws.length+1) (i+1+1+1) with
      | none=>rw [c] at h;cases h
      | some y=>
       obtain ⟨ps,m⟩:=y;rw [c] at h;dsimp only at h
       by_cases l:ws[m]?=some (Aa ")")
       ·rw [if_pos l] at h;cases h
        obtain ⟨f,g,a,A,E⟩:=PQ (λ i p j h=>Kf hl k i p j h) _ _ _ _ c
        have:=CJ l;exact ⟨by omega,by omega,(Q6 e2).2,a,by omega,A⟩
       ·rw [if_neg l] at h;cases h
     ·rw [if_neg v] at h;cases h
    ·rw [if_neg u] at h;cases h
noncomputable def Ci (x:Str):Option (List Pc):=if x=Aa "" then some [] else
 let ws:=Bl (XO x (Aa " "))
 match CT (BZ ws 5) ws (ws.length+1) 0 with
 | none=>none
 | some (ps,j)=>if j=ws.length then (if Ca 5 ps<=60 then some (Eu 5 ps) else none) else none
inductive j8 (C N:Addr)(vs:List V)(H:Hp)(Q:VK)(E:XK):Prop | mk (a dx wl ws i:_) (_:vs=[.ref a]) (_:RdAt C a dx wl ws i H) (_:i<=ws.length) (_:(∀z,ws[i]?=some z->Q (.str z) (upd H a (CW C dx wl (i+1))))) (_:(ws[i]?=none->E (.ref N) none H))
inductive m9 (N:Addr)(vs:List V)(H:Hp)(Q:VK)(E:XK):Prop | mk (x:Str) (_:vs=[.str x]) (_:(∀n,Eb x=some n->Q (.int (n:Int)) H)) (_:(Eb x=none->E (.ref N) none H))
inductive gD (K:FrG)(C N:Addr)(k:Nat)(vs:List V)(H:Hp)(Q:VK)(E:XK):Prop | mk (a dx wl:Addr) (ws:List Str) (i:Nat) (dp:Int) (_:vs=[.ref a,.int dp]) (_:dp=5 - (k:Int)) (_:RdAt C a dx wl ws i H) (_:i<=ws.length) (_:(∀w∈ws,w.length<=100000)) (_:(∀p j,BZ ws k i=some (p,j)->∀v H',SD a H H'->RdAt C a dx wl ws j H'->PV K k (JR H) H' v p->Q v H')) (_:(BZ ws k i=none->∀H',SD a H H'->E (.ref N) none H'))
inductive dJ (K:FrG)(C N:Addr)(k:Nat)(vs:List V)(H:Hp)(Q:VK)(E:XK):Prop | mk (a dx wl:Addr) (ws:List Str) (i:Nat) (w:Str) (dp:Int) (_:vs=[.ref a,.str w,.int dp]) (_:dp=4 - (k:Int)) (_:RdAt C a dx wl ws i H) (_:i<=ws.length) (_:(∀w∈ws,w.length<=100000)) (_:(∀p j,HH (BZ ws k) ws w i=some (p,j)->∀v H',SD a H H'->RdAt C a dx wl ws j H'->PV K (k+1) (JR H) H' v p->Q v H')) (_:(HH (BZ ws k) ws w i=none->∀H',SD a H H'->E (.ref N) none H'))
inductive SX (K:FrG)(C N:Addr)(k:Nat)(vs:List V)(H:Hp)(Q:VK)(E:XK):Prop | mk (a dx wl:Addr) (ws:List Str) (i:Nat) (dp:Int) (_:vs=[.ref a,.int dp]) (_:dp=5 - (k:Int)) (_:RdAt C a dx wl ws i H) (_:i<=ws.length) (_:(∀w∈ws,w.length<=100000)) (_:(∀ps j,CT (BZ ws k) ws (ws.length+1) i=some (ps,j)->∀l xs H',SD a H H'->H l=none->RdAt C a dx wl ws j H'->H' l=some (.lst xs)->PVs K k (λ b=>H b=none/\b≠l) H' xs ps->Q (.ref l) H')) (_:(CT (BZ ws k) ws (ws.length+1) i=none->∀H',SD a H H'->E (.ref N) none H'))
def uN (K:FrG)(N:Addr):Sp:=λ vs H Q E=>(∃v d,vs=[v]/\DV K H v d/\(∀x:Str,d≠.str x)/\E (.ref N) none H)\/∃x:Str,vs=[.str x]/\x.length<=20000/\
 (∀bs,Ci x=some bs->∀l xs a,Same H a->H l=none->a l=some (.lst xs)->DVs K a xs (bs.map CK)->Q (.ref l) a)/\(Ci x=none->∀a,Same H a->E (.ref N) none a)
theorem qp (lo hi:Rat):Ft (CK (.stop lo hi))=!decide (hi < lo):=by
 by_cases h:hi < lo
 ·rw [ζ h];show ([Av lo,Av hi].all Cp && (if ("stop":Str)="stop" then Gh [Av lo,Av hi] else ((decide (("stop":Str)="gap") || decide (("stop":Str)="glass")) && [Av hi].isEmpty)))=false
  rw [if_pos rfl,VH lo hi,ζ h];simp
 ·rw [η h];exact vQ (p:=.stop lo hi) h
theorem pL {lo hi:Rat}(f:Short lo)(g:Short hi):aY (CK (.stop lo hi)):=by
 have c:(10:Nat) ^ 15<=2 ^ 50:=by decide
 have b:∀{q:Rat},Short q->Sm q:=λ h=>(show Bd 50 _ from ⟨Zu h.n c,Zu h.d c⟩).sm ⋯
 rintro ds h
 have e:ds=[.str "stop",Av lo,Av hi]:=by
  have:Xt.tuple [.str "stop",Av lo,Av hi]=.tuple ds:=h
  injection this with this
  exact this.symm
 subst e;refine ⟨(by show 3<=1000;decide),λ q a=>?_⟩
 simp only [ZN,WB,or_false] at a;rcases a with a | a | a
 ·cases a
 ·rw [Xa a];exact b f
 ·rw [Xa a];exact b g
theorem lE (t:Str):∀w∈Cu t,w.length<=t.length+1:=λ w a=>by
 cases c:FI t (Y2 ";") with
 | true=>
  have b:Cu t=[UA t none (some (-1)),Y2 ";"]:=by unfold Cu;rw [if_pos c]
  rw [b] at a;rcases ZN.mp a with e | a
  ·have d:=congrArg qB (Yb t);rw [DX,List.length_dropLast,DX] at d;rw [e,d];exact W8 (Nat.sub_le _ _) (WV _)
  ·have f:(Y2 ";").length=1:=by rw [Ri];rfl
   rw [ZB.mp a,f];exact BC _ _
 | false=>
  have b:Cu t=[t]:=by unfold Cu;rw [if_neg (by rw [c];exact ZL)]
  rw [b] at a;rw [ZB.mp a];exact WV _
theorem AL8 {ts:List Str}{B:Nat}(h:∀t∈ts,t.length<=B):∀w∈Bl ts,w.length<=B+1:=by
 induction ts with
 | nil=>intro w a;cases a
 | cons t r b=>
  intro w a;rw [Eh] at a;rcases XE.mp a with a | a
  ·exact W8 (lE t w a) (MB (h t (by simp)))
  ·exact b (λ x c=>h x (ZX _ c)) w a
theorem Ob {ws:List Str}{i:Nat}{q:Rat}(h:ws[i]?=some (Ay q))(s:Short q):pNum ws i=some (q,i+1):=by
 unfold pNum;rw [h];simp only [QY,Jh s,zn]
theorem Ur {n c:Nat}{x:Str}(a:c∈cl x)(h:¬ (48<=c/\c<=57)):CN n≠x:=λ e=>Um n c h (by rw [<- Hh,e];exact a)
theorem iJ {m n:Nat}(h:CN m=CN n):m=n:=Yo (by rw [<- Hh,<- Hh,h])
theorem j7 {n:Nat}(h:n<=60):Eb (CN n)=some n:=by
 cases e:Eb (CN n) with
 | none=>exact absurd rfl (di e n h)
 | some m=>rw [iJ (Q6 e).1]
theorem Ut {ws:List Str}{k:Nat}(hf:∀(p:Part k) (i:Nat),WP k p->TkAt ws i (Bk k p)->BZ ws k i=some (p,i+(Bk k p).length)):∀(ps:List (Part k)) (n i:Nat),ps≠[]->ps.length<=n->(∀p∈ps,WP k p)->TkAt ws i (jn (Bk k) ps)->ws[i+(jn (Bk k) ps).length]?≠some (Aa ";")->CT (BZ ws k) ws n i=some (ps,i+(jn (Bk k) ps).length)
 | [],_,_,h,_,_,_,_=>absurd rfl h
 | p::r,0,_,_,h,_,_,_=>by simp at h
 | p::r,n+1,i,_,hl,a,tk,ns=>by
  rw [bB] at tk ns ⊢;have c:=hf p i (a p (by simp)) tk.left
  rw [CT,c];dsimp only
  cases r with
  | nil=>
   rw [show R9 k []=([]:List Str) from rfl,WC] at ns ⊢
   rw [if_neg ns]
  | cons q r=>
   have t2:=tk.right;have hd:ws[i+(Bk k p).length]?=some (Aa ";"):=TkAt.head t2;have d:TkAt ws (i+(Bk k p).length+1) (jn (Bk k) (q::r)):=TkAt.tail t2;have b:(Bk k p++R9 k (q::r)).length=(Bk k p).length+1+(jn (Bk k) (q::r)).length:=by
    rw [ZA];show _+(Aa ";"::jn (Bk k) (q::r)).length=_;rw [W6];omega
   rw [if_pos hd,Ut hf (q::r) n _ (by simp) (by simp only [W6] at hl ⊢;omega) (λ x e=>a x (ZX _ e)) d (by
    rw [b] at ns;rw [show i+(Bk k p).length+1+(jn (Bk k) (q::r)).length=i+((Bk k p).length+1+(jn (Bk k) (q::r)).length) by omega]
    exact ns)]
   dsimp only
   rw [b,show i+(Bk k p).length+1+(jn (Bk k) (q::r)).length=i+((Bk k p).length+1+(jn (Bk k) (q::r)).length) by omega]
theorem aW {ws:List Str}:∀(k:Nat) (p:Part k) (i:Nat),WP k p->TkAt ws i (Bk k p)->BZ ws k i=some (p,i+(Bk k p).length)
 | 0,e,_,_,_=>nomatch e
 | k+1,.pc p,i,a,tk=>by
  have a:Cj p:=a;have tk:∀j t,(toks p)[j]?=some t->ws[i+j]?=some t:=tk;have b:ws[i]?=some (wd p):=tk 0 (wd p) rfl;show BZ ws (k+1) i=some (PartF.pc p,i+(toks p).length);unfold BZ;rw [b];dsimp only
  cases p with
  | gap q=>
   rw [if_pos (show wd (.gap q)=Aa "gap" from rfl),Ob (tk 1 (Ay q) rfl) (a.2 q (by simp [fracs]))]
   rfl
  | glass q=>
   rw [if_neg (show ¬ wd (.glass q)=Aa "gap" by show ¬ Y2 "glass"=_;decide+kernel),if_pos (show wd (.glass q)=Aa "glass" from rfl),Ob (tk 1 (Ay q) rfl) (a.2 q (by simp [fracs]))]
   rfl
  | stop lo hi=>
   have ok:¬ hi < lo:=a.1;rw [if_neg (show ¬ wd (.stop lo hi)=Aa "gap" by show ¬ Y2 "stop"=_;decide+kernel),if_neg (show ¬ wd (.stop lo hi)=Aa "glass" by show ¬ Y2 "stop"=_;decide+kernel),if_pos (show wd (.stop lo hi)=Aa "stop" from rfl)]
   unfold HS;rw [Ob (tk 1 (Ay lo) rfl) (a.2 lo (by simp [fracs]))]
   dsimp only
   rw [Ob (tk 2 (Ay hi) rfl) (a.2 hi (by simp [fracs]))]
   dsimp only
   rw [if_neg ok];rfl
 | k+1,.rd n ps,i,a,tk=>by
  have tk:TkAt ws i (CN n::(Aa "times"::Aa "("::(jn (Bk k) ps++[Aa ")"]))):=tk;have b:ws[i]?=some (CN n):=tk.head;have k0:k≠0:=λ e=>by
   subst e;cases ps with
   | nil=>exact a.2.1 rfl
   | cons e _=>exact nomatch e
  show BZ ws (k+1) i=some (PartF.rd n ps,i+(CN n::(Aa "times"::Aa "("::(jn (Bk k) ps++[Aa ")"]))).length);unfold BZ;rw [b];dsimp only
  rw [if_neg (Ur (c:=103) (by decide+kernel) ⋯),if_neg (Ur (c:=103) (by decide+kernel) ⋯),if_neg (Ur (c:=115) (by decide+kernel) ⋯)]
  unfold HH;rw [j7 a.1];dsimp only
  rw [if_neg k0,if_pos tk.tail.head,if_pos tk.tail.tail.head];have t3:=tk.tail.tail.tail;have d:ws[i+1+1+1+(jn (Bk k) ps).length]?=some (Aa ")"):=t3.right.head
  have hl:i+1+1+1+(jn (Bk k) ps).length < ws.length:=CJ d;have f:=Vq ps;rw [Ut (λ p i=>aW k p i) ps _ _ a.2.1 ∅ a.2.2.2 t3.left (by rw [d];decide+kernel)]
  dsimp only
  rw [if_pos d];simp only [W6,ZA,XG]
  congr 2
  omega
theorem NB {ps:List (Part 5)}(a:∀p∈ps,WP 5 p):Ci (textL 5 ps)=if Ca 5 ps<=60 then some (Eu 5 ps) else none:=by
 by_cases ne:ps=[]
 ·subst ne;unfold Ci;rw [if_pos (by decide+kernel),if_pos ⋯]
  rfl
 have d:textL 5 ps≠Aa "":=λ e=>by
  have b:=f9 a ne;rw [e] at b;have f:Bl (XO (Y2 "") (Y2 " "))=[Y2 ""]:=by decide+kernel
  rw [f] at b;have g:=cA a ne;rw [e] at g;have c:1 < (jn (Bk 5) ps).length:=by
   cases ps with
   | nil=>exact absurd rfl ne
   | cons p r=>
    rw [bB,ZA];have:2<=(Bk 5 p).length:=by
     cases p with
     | pc p=>exact (Ji p).2
     | rd n qs=>show 2<=(CN n::Aa "times"::Aa "("::(jn (Bk _) qs++[Aa ")"])).length;simp only [W6];omega
    omega
  rw [<- b] at c;exact absurd c ⋯
 unfold Ci;rw [if_neg d];dsimp only
 rw [f9 a ne];have h:=Vq ps;rw [Ut (λ p i=>aW 5 p i) ps _ 0 ne ∅ a (λ j t ht=>by rw [MX];exact ht) (by rw [MX,BS (ZE _)];exact λ e=>nomatch e)]
 dsimp only
 rw [if_pos (MX _)]
theorem Y8 {a:Type}{f:Nat->Option (a×Nat)}{ws:List Str}{n i:Nat}(h:f i=none):CT f ws n i=none:=by
 cases n with
 | zero=>rfl
 | succ n=>rw [CT,h]
theorem oX {a:Type}{f:Nat->Option (a×Nat)}{ws:List Str}{n i j:Nat}{p:a}(h:f i=some (p,j))(c:ws[j]?=some (Aa ";"))(b:∀n,CT f ws n (j+1)=none):CT f ws n i=none:=by
 cases n with
 | zero=>rfl
 | succ n=>
  rw [CT,h];dsimp only
  rw [if_pos c,b]
theorem wK {ws:List Str}{k i:Nat}(h:ws[i]?=none):BZ ws k i=none:=by
 cases k with
 | zero=>rfl
 | succ k=>unfold BZ;rw [h]
theorem AM1 {ws:List Str}{k i:Nat}{w:Str}(h:ws[i]?=some w)(a:w≠Aa "gap")(b:w≠Aa "glass")(c:w≠Aa "stop"):BZ ws (k+1) i=HH (BZ ws k) ws w (i+1):=by
 rw [BZ,h];dsimp only
 rw [if_neg a,if_neg b,if_neg c]
theorem tH {ws:List Str}{k i:Nat}{w:Str}(h:ws[i]?=some w)(a:w≠Aa "gap")(b:w≠Aa "glass")(c:w≠Aa "stop")(d:Eb w=none):BZ ws k i=none:=by
 cases k with
 | zero=>rfl
 | succ k=>
  rw [AM1 h a b c];unfold HH;rw [d]
theorem AH6:Ay 1=Aa "1":=by decide+kernel
theorem Xc:Short 1:=⟨by decide,by decide⟩
end Lib
namespace L2
open PySem PySem.Spec PyProof.Rows
section
variable {X:Cx}{k:Nat}{C:Addr}{ps:List Str}{sp:Sp}{x:Str}{p pos:Pos}{tg l:Expr}{tl:TE}
theorem zp (M:MkC X.prog X.w X.K X.mg X.base k x C ps sp)(b:RoomB true (k+1) X.A)(c:Gl X x:=by rfl)(a:(x == ("__debug__":Str))=false:=by decide):
  PE X (.Call (.Name x p) [] [] pos) (tMake C sp [] E0 tNil):=by
 obtain ⟨f,fd,F,hm,hb⟩:=M.ex;exact uJ hm F.ok b.room c M.mg hb .nil Aw a
end
end L2
namespace Tx
open PySem PySem.Spec PySem.Builtin PySem.Builtin.Str L2 Lib Fr Op
theorem lZ (s a b:Y1)(r:List Y1):ZZ s (a::b::r)=a++s++ZZ s (b::r):=rfl
theorem j1 (s a:Y1):ZZ s [a]=a:=rfl
def QX (u x:Y1)(qs:List Rat):Y1:=ZZ ⟨#[32]⟩ (u::x::qs.map Ay)
theorem AG9 {p u x:Y1}(h:cl p=cl u++[32]):p++x=QX u x []:=ext (by
 unfold QX;rw [Bw,h,MQ,lZ,j1,Bw,Bw])
theorem tQ {u x:Y1}{qs:List Rat}(a:32∉cl u)(b:32∉cl x):XO (QX u x qs) (Y2 " ")=u::x::qs.map Ay:=by
 refine Ny ?_;rw [JK,GF];refine Ms (by simp) λ t ht=>?_
 rcases ZN.mp ht with rfl | ht
 ·exact a
 rcases ZN.mp ht with rfl | ht
 ·exact b
 obtain ⟨q,_,rfl⟩:=UG.mp ht;exact Kl q 32 ⋯
end Tx
namespace Lib
open PySem L2 Fr Op Tx
def BnA (K:FrG)(H:Hp)(l:Addr)(ps:List Pc):Prop:=∃xs,H l=some (.lst xs)/\DVs K H xs (ps.map CK)/\xs.length=ps.length
theorem BnA.of {K:FrG}{H:Hp}{l:Addr}{xs:List V}{ps:List Pc}(h:H l=some (.lst xs))(d:DVs K H xs (ps.map CK)):BnA K H l ps:=⟨xs,h,d,by have:=d.len;rw [X9] at this;exact this⟩
theorem BnA.keep {K:FrG}{H a:Hp}{l:Addr}{ps:List Pc}(h:BnA K H l ps)(s:Same H a):BnA K a l ps:=by
 obtain ⟨xs,b,c,d⟩:=h;exact ⟨xs,s _ _ b,c.keep s,d⟩
theorem BnA.dv {K:FrG}{H:Hp}{l:Addr}{ps:List Pc}(h:BnA K H l ps):DV K H (.ref l) (Hf ps):=by
 obtain ⟨xs,a,b,c⟩:=h;exact .lst (SqL.of a) b
theorem zG {m:Nat}{p:Pc}(ok:p.ok)(b:p.bd m)(hm:m<=40):Cj p:=by
 have sh:∀q:Rat,Bd m q->Short q:=λ q h=>by
  have c:(2:Nat) ^ 40<=10 ^ 15:=by decide
  have e:(2:Nat) ^ m<=2 ^ 40:=Fa ⋯ hm
  exact ⟨by have:=h.n;omega,by have:=h.d;omega⟩
 refine ⟨ok,λ q a=>?_⟩
 cases p with
 | gap f=>rw [ZB.mp a];exact sh _ b
 | glass f=>rw [ZB.mp a];exact sh _ b
 | stop lo hi=>
  rcases ZN.mp a with rfl | h
  ·exact sh _ b.1
  ·rw [ZB.mp h];exact sh _ b.2
abbrev CZ:=Str->Option (List Pc)
def setB (a:CZ)(x:Str)(ps:List Pc):CZ:=λ y=>if y=x then some ps else a y
def OkB (ps:List Pc):Prop:=ps.length<=60/\∀p∈ps,Cj p
theorem OkB.sh {ps:List Pc}(h:OkB ps):∀p∈ps,Cj p:=h.2
theorem Hl {q:Rat}(h:Short q):Bd 50 q:=by
 have a:(10:Nat) ^ 15<=2 ^ 50:=by decide
 exact ⟨Zu h.n a,Zu h.d a⟩
theorem zE {p:Pc}(h:Cj p):p.bd 50:=by
 cases p with
 | gap q=>exact Hl (h.2 q (by simp [fracs]))
 | glass q=>exact Hl (h.2 q (by simp [fracs]))
 | stop lo hi=>exact ⟨Hl (h.2 lo (by simp [fracs])),Hl (h.2 hi (by simp [fracs]))⟩
theorem OkB.good {ps:List Pc}(h:OkB ps):Good 50 ps:=⟨W8 h.1 ⋯,λ p a=>(h.2 p a).1,λ p a=>zE (h.2 p a)⟩
def OkS (ps:List Pc):Prop:=ps.length<=7/\∀p∈ps,Cj p/\p.fd 12 17
theorem OkS.w {ps:List Pc}(h:OkS ps):OkB ps:=⟨W8 h.1 ⋯,λ p a=>(h.2 p a).1⟩
def DicB (K:FrG)(H:Hp)(q:List Addr)(a:List (Key×V))(b:CZ):Prop:=∀x:Str,match b x with
 | none=>valV a (.inr x)=none
 | some ps=>OkB ps/\∃l,valV a (.inr x)=some (.ref l)/\BnA K H l ps/\l∉q
section
variable {K:FrG}{H H':Hp}{q:List Addr}{a l:Addr}{kvs:List (Key×V)}{S:CZ}{ps:List Pc}{x:Str}
theorem DicB.at (h:DicB K H q kvs S)(e:S x=some ps):OkB ps/\∃l,valV kvs (.inr x)=some (.ref l)/\BnA K H l ps/\l∉q:=by
 have:=h x;rw [e] at this;exact this
theorem DicB.no (h:DicB K H q kvs S)(e:S x=none):valV kvs (.inr x)=none:=by
 have:=h x;rw [e] at this;exact this
theorem DicB.map (h:DicB K H q kvs S)(f:∀l ps,BnA K H l ps->l∉q->BnA K H' l ps):DicB K H' q kvs S:=λ x=>by
 have:=h x;cases e:S x with
 | none=>rw [e] at this;exact this
 | some ps=>
  rw [e] at this;obtain ⟨o,l,c,d,b⟩:=this;exact ⟨o,l,c,f l ps d b,b⟩
theorem Ud (h:BnA K H l ps)(t:Er H H')(s:∀o,H l=some o->H' l=some o):BnA K H' l ps:=by
 obtain ⟨xs,b,c,d⟩:=h;exact ⟨xs,s _ b,HQ t (Il IV ps) c,d⟩
theorem DicB.keep (h:DicB K H q kvs S)(s:Same H H'):DicB K H' q kvs S:=h.map λ l ps b _=>b.keep s
theorem qT {c:List (Key×V)}(h:H a=some (.dK c))(s:SD a H H'):Er H H':=λ b d=>⟨λ e=>s b _ (λ z=>by rw [z,h] at e;cases e) e,λ o e=>s b _ (λ z=>by rw [z,h] at e;cases e) e⟩
theorem bA {c:List (Key×V)}(h:BnA K H l ps)(ha:H a=some (.dK c))(s:SD a H H'):BnA K H' l ps:=by
 refine Ud h (qT ha s) λ o e=>s _ _ (λ z=>?_) e
 obtain ⟨xs,b,_⟩:=h;rw [z,ha] at b;cases b
theorem DicB.keepD {c:List (Key×V)}(h:DicB K H q kvs S)(ha:H a=some (.dK c))(s:SD a H H'):DicB K H' q kvs S:=h.map λ l ps b _=>bA b ha s
theorem DicB.nil:DicB K H q [] (λ _=>none):=λ _=>rfl
theorem DicB.put (h:DicB K H q kvs S)(b:BnA K H l ps)(n:l∉q)(o:OkB ps):DicB K H q (putK kvs (.inr x) (.ref l)) (setB S x ps):=λ y=>by
 unfold setB;by_cases e:y=x
 ·subst e;rw [if_pos rfl];exact ⟨o,l,by rw [Rq,if_pos rfl],b,n⟩
 ·rw [if_neg e];have c:¬ (wq y:Key)=.inr x:=λ z=>e (CO z)
  have:=h y;cases f:S y with
  | none=>rw [f] at this;rw [show valV (putK kvs (.inr x) (.ref l)) (.inr y)=valV kvs (.inr y) by rw [Rq,if_neg c]];exact this
  | some qs=>
   rw [f] at this;obtain ⟨o,l,d,g,i⟩:=this;exact ⟨o,l,by rw [Rq,if_neg c];exact d,g,i⟩
end
theorem ju (a:List (Key×V))(k:Key)(v:V):(putK a k v).length<=a.length+1:=by
 unfold putK
 split
 ·rw [X9];omega
 ·simp
structure DkA (K:FrG)(H:Hp)(q:List Addr)(C o dx d:Addr)(S:CZ)(n:Nat):Prop where
 o:H o=some (.ins C dx [("benches",.ref d)])
 d:∃kvs,H d=some (.dK kvs)/\kvs.length<=n/\DicB K H q kvs S
section
variable {K:FrG}{H H':Hp}{q:List Addr}{C o dx d a l:Addr}{S:CZ}{n:Nat}{ps:List Pc}{x:Str}
theorem DkA.keep (h:DkA K H q C o dx d S n)(s:Same H H'):DkA K H' q C o dx d S n:=by
 obtain ⟨b,c,e,f⟩:=h.d;exact ⟨s _ _ h.o,b,s _ _ c,e,f.keep s⟩
theorem DkA.ok (h:DkA K H q C o dx d S n)(e:S x=some ps):OkB ps:=by
 obtain ⟨c,f,g,b⟩:=h.d;exact (b.at e).1
theorem DkA.ne (h:DkA K H q C o dx d S n):o≠d:=λ e=>by
 obtain ⟨c,b,_⟩:=h.d;have:=h.o;rw [e,b] at this;cases this
theorem DkA.put {c:List (Key×V)}(h:DkA K H q C o dx d S n)(e:H d=some (.dK c))(b:BnA K H l ps)(f:l∉q)(ok:OkB ps):DkA K (upd H d (.dK (putK c (.inr x) (.ref l)))) q C o dx d (setB S x ps) (n+1):=by
 obtain ⟨g,i,k,j⟩:=h.d;cases i.symm.trans e
 refine ⟨by rw [Al h.ne];exact h.o,_,Ag,W8 (ju _ _ _) ∅,?_⟩
 exact (j.put b f ok).keepD e KR
end
inductive AJ5 (C:Addr)(vs:List V)(H:Hp)(Q:VK)(z3:XK):Prop | mk (a dx:_) (_:vs=[.ref a]) (_:H a=some (.ins C dx [])) (_:∀d,H d=none->Q .non (upd (upd H d (.dK [])) a (.ins C dx [("benches",.ref d)])))
inductive yJ (K:FrG)(C:Addr)(vs:List V)(H:Hp)(Q:VK)(z3:XK):Prop | mk (o dx d:Addr) (q:List Addr) (x:Str) (S:CZ) (n:Nat) (ps:List Pc) (_:vs=[.ref o,.str x]) (_:DkA K H q C o dx d S n) (_:S x=some ps) (_:∀l,BnA K H l ps->l∉q->Q (.ref l) H)
inductive yL (K:FrG)(C:Addr)(vs:List V)(H:Hp)(Q:VK)(z3:XK):Prop | mk (o dx d:Addr) (q:List Addr) (l:Addr) (x:Str) (S:CZ) (n:Nat) (ps:List Pc) (_:vs=[.ref o,.str x,.ref l]) (_:DkA K H q C o dx d S n) (_:n<=1000) (_:BnA K H l ps) (_:l∉q) (_:OkB ps) (_:∀H',SD d H H'->DkA K H' q C o dx d (setB S x ps) (n+1)->Q (.str "ok") H')
def Nm (x:Str):Prop:=nameB x=true
def Dn (x t:Str):Str:=Y2 "bench "++x++Y2 " "++t
inductive nH (vs:List V)(H:Hp)(Q:VK)(z3:XK):Prop | mk (x:Str) (_:vs=[.str x]) (_:Nm x) (_:∀H',Same H H'->Q .non H')
theorem ig:Jo ⟨#[32]⟩=false:=by decide+kernel
theorem Nm.no {x:Str}(h:Nm x):32∉cl x:=λ m=>by
 have h:nameB x=true:=h;unfold nameB at h;have b:=(QR.mp h).2;have a:=jp.mp b ⟨#[32]⟩ (UG.mpr ⟨32,m,rfl⟩);rw [ig] at a;cases a
theorem Nm.len {x:Str}(h:Nm x):x.length<=8:=qI h
theorem Es (x:Str):(cl x).length=x.length:=rfl
theorem Oo (x t:Str):cl (Dn x t)=cl (Y2 "bench")++32::(cl x++32::cl t):=by
 unfold Dn;rw [Bw,Bw,Bw,show cl (Y2 "bench ")=cl (Y2 "bench")++[32] by decide+kernel,show cl (Y2 " ")=[32] by decide+kernel]
 simp only [WG];rfl
theorem yz {x t:Str}(h:Nm x):∃r,XO (Dn x t) (Y2 " ")=Y2 "bench"::r:=by
 have e:(XO (Dn x t) ⟨#[32]⟩).map cl=cl (Y2 "bench")::cut 32 (cl x++32::cl t):=by
  rw [GF,Oo,Je _ (by decide+kernel)]
 have e:(XO (Dn x t) (Y2 " ")).map cl=cl (Y2 "bench")::cut 32 (cl x++32::cl t):=e;cases f:XO (Dn x t) (Y2 " ") with
 | nil=>rw [f] at e;cases e
 | cons a r=>
  rw [f] at e
  injection e with e1 e2
  exact ⟨r,by rw [ext e1]⟩
theorem QF {x t:Str}(h:Nm x):(Dn x t).length=t.length+x.length+7:=by
 rw [<- Es,Oo];simp only [ZA,W6,Es];rw [show (Y2 "bench").length=5 by decide+kernel]
 omega
def Eo (a t r:Int):Str:=UA (Y2 "lens") none (some t)++⟨#[97+a.toNat]⟩++UA (Y2 "lens") (some t) (some (t+r))
def called (z i:Int):Str:=if z % 3=0 then um (Y2 "m") (1+i) else Eo ((z / 24+5 * i) % 26) (z / 3 % 5) (z % 4)
theorem VJ:∀a:Fin 26,∀t:Fin 5,∀r:Fin 4,nameB (Eo (a.val:Nat) (t.val:Nat) (r.val:Nat))=true/\Eo (a.val:Nat) (t.val:Nat) (r.val:Nat)≠Eo (((a.val+5) % 26:Nat):Int) (t.val:Nat) (r.val:Nat):=by decide+kernel
theorem AI6:∀i:Fin 4,nameB (um (Y2 "m") (1+((i.val:Nat):Int)))=true:=by decide+kernel
theorem R4 (z:Int){i:Int}(b:0<=i)(h:i < 4):Nm (called z i):=by
 unfold Nm called
 split
 ·have:=AI6 ⟨i.toNat,by omega⟩
  have e:((i.toNat:Nat):Int)=i:=by omega
  simp only [e] at this;exact this
 ·have:=(VJ ⟨((z / 24+5 * i) % 26).toNat,by omega⟩ ⟨(z / 3 % 5).toNat,by omega⟩ ⟨(z % 4).toNat,by omega⟩).1
  have e1:((((z / 24+5 * i) % 26).toNat:Nat):Int)=(z / 24+5 * i) % 26:=by omega
  have e2:(((z / 3 % 5).toNat:Nat):Int)=z / 3 % 5:=by omega
  have a:(((z % 4).toNat:Nat):Int)=z % 4:=by omega
  simp only [e1,e2,a] at this;exact this
theorem xn:∀a:Fin 26,(Y2 "abcdefghijklmnopqrstuvwxyz").cps[a.val]?=some (97+a.val):=by decide+kernel
theorem tY:∀t:Fin 5,∀r:Fin 4,(UA (Y2 "lens") none (some ((t.val:Nat):Int))).length<=4/\(UA (Y2 "lens") (some ((t.val:Nat):Int)) (some (((t.val:Nat):Int)+((r.val:Nat):Int)))).length<=4:=by decide+kernel
theorem JX {ws:List Str}{i:Nat}(h:BZ ws 5 i=none):∀n ps j,CT (BZ ws 5) ws n i=some (ps,j)->j≠ws.length:=λ n ps j e=>by
 rw [Y8 h] at e;cases e
theorem oF {ws:List Str}{i a:Nat}{p:Part 5}(h:BZ ws 5 i=some (p,a))(b:ws[a]?≠some (Aa ";"))(c:a≠ws.length):∀n ps j,CT (BZ ws 5) ws n i=some (ps,j)->j≠ws.length:=λ n ps j e=>by
 cases n with
 | zero=>cases e
 | succ n=>
  rw [CT,h] at e;dsimp only at e
  rw [if_neg b] at e;cases e
  exact c
theorem bz {ws:List Str}{i a:Nat}{p:Part 5}(h:BZ ws 5 i=some (p,a))(b:ws[a]?=some (Aa ";"))(c:BZ ws 5 (a+1)=none):∀n ps j,CT (BZ ws 5) ws n i=some (ps,j)->j≠ws.length:=λ n ps j e=>by
 rw [oX h b λ n=>Y8 c] at e
 cases e
end Lib
namespace Lib
open PySem L2 Fr Op Tx PySem.NumText PySem.Builtin.Str
def RJ (l:List Nat):Bool:=
 let neg:=decide (l.head?=some 45)
 let c:=if neg=true then l.drop 1 else l
 match cut 47 c with
 | [a]=>decide (dg (Qv a)=a) && decide (Qv a < 10 ^ 15) && (!neg || decide (Qv a≠0))
 | [a,b]=>decide (dg (Qv a)=a) && decide (Qv a < 10 ^ 15) && (!neg || decide (Qv a≠0)) && decide (dg (Qv b)=b) && decide (Qv b < 10 ^ 15) && decide (1 < Qv b) && decide (FH (Qv a) (Qv b)=1)
 | _=>false
theorem xj {q:Rat}(h:Short q):RJ (sh q)=true:=by
 unfold RJ;dsimp only
 have e1:=M7 q;have e2:=M8 q;have b:q.num < 0->q.num.natAbs≠0:=λ z=>by omega
 by_cases z:q.num < 0
 ·rw [ζ z] at e1;rw [if_pos z] at e2;rw [e1,if_pos rfl,e2,KJ];by_cases a:q.den=1
  ·rw [if_pos a];simp only [Gi,decide_true,qe,Bool.not_true,AX];rw [ζ h.n,ζ (b z)];rfl
  ·rw [if_neg a];simp only [Gi,decide_true,qe,Bool.not_true,AX];rw [ζ h.n,ζ (b z),ζ h.d,ζ (show 1 < q.den by have:=q.den_nz;omega),ζ q.reduced]
   rfl
 ·rw [η z] at e1;rw [if_neg z] at e2;rw [e1,if_neg ZL,e2,KJ];by_cases a:q.den=1
  ·rw [if_pos a];simp only [Gi,decide_true,qe,Bool.not_false,Bi,Bool.and_true];rw [ζ h.n]
  ·rw [if_neg a];simp only [Gi,decide_true,qe,Bool.not_false,Bi,Bool.and_true];rw [ζ h.n,ζ h.d,ζ (show 1 < q.den by have:=q.den_nz;omega),ζ q.reduced]
   rfl
theorem nM {x:Str}(h:RJ (cl x)=false):numOf x=none:=oY λ q a e=>by
 rw [<- e,Em,xj a] at h;cases h
end Lib
namespace Lib
open PySem L2 Fr Op Tx
theorem fY {ws:List Str}{i:Nat}{p:Pc}(a:ws[i]?=some (wd p))(h:ws[i+1]?.bind numOf=none):BZ ws 5 i=none:=by
 have hn:pNum ws (i+1)=none:=by unfold pNum;rw [h];rfl
 cases p with
 | gap q=>
  unfold BZ;rw [a];dsimp only
  rw [if_pos (show wd (.gap q)=Aa "gap" from rfl),hn]
  rfl
 | glass q=>
  unfold BZ;rw [a];dsimp only
  rw [if_neg (by show ¬ Aa "glass"=_;decide+kernel),if_pos (show wd (.glass q)=Aa "glass" from rfl),hn]
  rfl
 | stop lo hi=>
  unfold BZ;rw [a];dsimp only
  rw [if_neg (by show ¬ Aa "stop"=_;decide+kernel),if_neg (by show ¬ Aa "stop"=_;decide+kernel),if_pos (show wd (.stop lo hi)=Aa "stop" from rfl)]
  unfold HS;rw [hn]
end Lib
namespace Tx
open PySem PySem.Builtin PySem.Builtin.Str L2 Lib Fr Op PySem.NumText
def Cg (c:Nat)(z l:List Nat):List Nat:=l.flatMap λ k=>if k=c then z else [k]
theorem z9 (c:Nat)(z:List Nat):Cg c z []=[]:=rfl
theorem JZ (c:Nat)(z:List Nat)(k:Nat)(l:List Nat):Cg c z (k::l)=(if k=c then z else [k])++Cg c z l:=rfl
def inter (z:List Nat):List (List Nat)->List Nat
 | []=>[]
 | [a]=>a
 | a::b::r=>a++z++inter z (b::r)
theorem xg (z a:List Nat)(k:Nat)(r:List (List Nat)):inter z ((k::a)::r)=k::inter z (a::r):=by
 cases r<;>rfl
theorem aH (c:Nat)(l:List Nat):∃p ps,cut c l=p::ps:=by
 cases e:cut c l with
 | nil=>exact absurd e (Ww c l)
 | cons p ps=>exact ⟨p,ps,rfl⟩
theorem Z4 (c:Nat)(z:List Nat):∀l:List Nat,inter z (cut c l)=Cg c z l
 | []=>rfl
 | k::l=>by
  have a:=Z4 c z l;obtain ⟨p,ps,e⟩:=aH c l;rw [JZ,<- a];by_cases h:k=c
  ·rw [cut,if_pos h,if_pos h,e];rfl
  ·rw [cut,if_neg h,if_neg h,e,xg];rfl
theorem cP (z:Y1):∀ts:List Y1,cl (ZZ z ts)=inter (cl z) (ts.map cl)
 | []=>rfl
 | [t]=>rfl
 | t::u::r=>by
  show cl (t++z++ZZ z (u::r))=_;rw [Bw,Bw,cP z (u::r)];rfl
theorem Rf (x z:Y1)(c:Nat)(k1:JE (⟨#[c]⟩:Y1)=1):cl (zS x ⟨#[c]⟩ z)=Cg c (cl z) (cl x):=by
 rw [<- Z4,<- GF,<- cP]
 congr 1
 have d:(⟨#[c]⟩:Y1).length=1:=rfl;unfold zS XO;cases f:Ua x ⟨#[c]⟩ 0 x.length (x.length+1) with
 | nil=>
  simp only [List.isEmpty_nil,Bi,if_true]
  split<;>rfl
 | cons i r=>
  rw [if_neg (by rw [d];simp)]
  have j:0 < x.length:=by
   cases e:x.length with
   | succ n=>omega
   | zero=>
    have k:=GB x ⟨#[c]⟩ 0 x.length (x.length+1);have h:=GF x c;have:cl x=[]:=by
     have:(cl x).length=x.length:=by show x.cps.toList.length=_;rw [Jx];rfl
     rw [e] at this;exact Fc this
    rw [this] at h;have g:(decide (x.length < (⟨#[c]⟩:Y1).length) || decide (JE x < JE ⟨#[c]⟩))=true:=by rw [e,d];rfl
    exfalso;have q:Ua x ⟨#[c]⟩ 0 x.length (x.length+1)=[]:=by
     rw [e];obtain ⟨⟨xs⟩⟩:=x;cases xs with
     | nil=>rw [PySem.StrLaws.occ_eq];rfl
     | cons a b=>cases e
    rw [q] at f;cases f
  have g:(decide (x.length < (⟨#[c]⟩:Y1).length) || decide (JE x < JE ⟨#[c]⟩))=false:=by
   have k2:1<=JE x:=by
    unfold JE
    split
    ·exact ZE _
    ·split<;>decide
   rw [d,k1];simp only [AC,decide_eq_false_iff_not];omega
  rw [g,if_neg (by simp),if_neg (by simp)]
  exact BN _ _
theorem bV {c:Nat}:∀{z:List Nat} (m:List Nat),c∉z->∀p ps,cut c m=p::ps->cut c (z++m)=(z++p)::ps
 | [],m,_,p,ps,e=>e
 | k::z,m,h,p,ps,e=>by
  have a:¬ k=c:=λ q=>h (by rw [q];exact YV ..)
  show cut c (k::(z++m))=_;rw [cut,if_neg a,bV m (λ q=>h (ZX _ q)) p ps e]
  rfl
theorem Wj {c:Nat}{z:List Nat}(b:c≠32)(d:32∉z):∀l:List Nat,cut 32 (Cg c z l)=(cut 32 l).map (Cg c z)
 | []=>rfl
 | k::l=>by
  have a:=Wj b d l;obtain ⟨p,ps,e⟩:=aH 32 l;rw [e,YY] at a;rw [JZ];by_cases h:k=32
  ·have:¬ k=c:=λ q=>b (q.symm.trans h)
   rw [if_neg this];show cut 32 (k::Cg c z l)=_;rw [cut,if_pos h,cut,if_pos h,a,e];rfl
  ·have e2:cut 32 (k::l)=(k::p)::ps:=by rw [cut,if_neg h,e]
   rw [e2,YY,JZ];refine bV _ ?_ _ _ a
   split
   ·exact d
   ·simp [WU h]
theorem Gx {c:Nat}{z l:List Nat}(h:c∉l):Cg c z l=l:=by
 induction l with
 | nil=>rfl
 | cons k l a=>
  have b:¬ k=c:=λ q=>h (by rw [q];exact YV ..)
  rw [JZ,if_neg b,a λ q=>h (ZX _ q)]
  rfl
theorem XF (c:Nat)(z:List Nat):Cg c z [c]=z:=by
 rw [JZ,if_pos rfl,z9,WC]
end Tx
namespace Lib
open PySem L2 Fr Op Tx
theorem GJ {x:Str}{ws:List Str}(a:x≠Aa "")(b:Bl (XO x (Aa " "))=ws)(h:∀n ps j,CT (BZ ws 5) ws n 0=some (ps,j)->j≠ws.length):Ci x=none:=by
 unfold Ci;rw [if_neg a];dsimp only
 rw [b];cases e:CT (BZ ws 5) ws (ws.length+1) 0 with
 | none=>rfl
 | some y=>
  obtain ⟨ps,j⟩:=y;dsimp only
  rw [if_neg (h _ ps j e)]
theorem aK:numOf (Aa "1")=some 1:=by rw [<- AH6];exact Jh Xc
theorem wU:Ay 0=Aa "0":=by decide+kernel
theorem lX:Short 0:=⟨by decide,by decide⟩
theorem AO9:numOf (Aa "0")=some 0:=by rw [<- wU];exact Jh lX
theorem Qh {ws:List Str}{i:Nat}(a:ws[i]?=some (Aa "gap"))(b:ws[i+1]?=some (Aa "1")):BZ ws 5 i=some (El 4 (.gap 1),i+2):=by
 unfold BZ;rw [a];dsimp only
 rw [if_pos rfl];unfold pNum;rw [b];show ((numOf (Aa "1")).map _).map _=_;rw [aK];rfl
theorem OD {ws:List Str}{i:Nat}{w:Str}(h:ws[i]?=some w)(n:(w == Aa "gap" || w == Aa "glass" || w == Aa "stop" || (Eb w).isSome)=false):BZ ws 5 i=none:=by
 simp only [AC] at n;obtain ⟨⟨⟨a,b⟩,c⟩,d⟩:=n;exact tH h (λ e=>by rw [e] at a;simp at a) (λ e=>by rw [e] at b;simp at b) (λ e=>by rw [e] at c;simp at c) (by cases e:Eb w with | none=>rfl | some _=>rw [e] at d;cases d)
theorem Zz:Ci (Aa "oops")=none:=GJ (ws:=[Aa "oops"]) (by decide+kernel) (by decide+kernel) (JX (OD rfl (by decide+kernel)))
theorem aD:Ci (Aa "gap")=none:=GJ (ws:=[Aa "gap"]) (by decide+kernel) (by decide+kernel) (JX (fY (p:=.gap 1) rfl rfl))
theorem Xb:Ci (Aa "gap 1;")=none:=GJ (ws:=[Aa "gap",Aa "1",Aa ";"]) (by decide+kernel) (by decide+kernel) (bz (Qh rfl rfl) rfl (wK rfl))
theorem bY:Ci (Aa "gap 1; lens 2")=none:=GJ (ws:=[Aa "gap",Aa "1",Aa ";",Aa "lens",Aa "2"]) (by decide+kernel) (by decide+kernel) (bz (Qh rfl rfl) rfl (OD rfl (by decide+kernel)))
theorem du:Ci (Aa "61 times ( gap 1 )")=none:=GJ (ws:=[Aa "61",Aa "times",Aa "(",Aa "gap",Aa "1",Aa ")"]) (by decide+kernel) (by decide+kernel) (JX (OD rfl (by decide+kernel)))
theorem cZ:Ci (Aa "stop 1 0")=none:=GJ (ws:=[Aa "stop",Aa "1",Aa "0"]) (by decide+kernel) (by decide+kernel) (JX (by
 unfold BZ;show (if Aa "stop"=Aa "gap" then _ else _)=_
 rw [if_neg (by decide+kernel),if_neg (by decide+kernel),if_pos rfl]
 unfold HS;have e1:pNum [Aa "stop",Aa "1",Aa "0"] (0+1)=some (1,2):=by
  unfold pNum;show ((numOf (Aa "1")).map _)=_;rw [aK];rfl
 have e2:pNum [Aa "stop",Aa "1",Aa "0"] 2=some (0,3):=by
  unfold pNum;show ((numOf (Aa "0")).map _)=_;rw [AO9];rfl
 rw [e1];dsimp only
 rw [e2];dsimp only
 rw [if_pos ⋯]))
theorem Z2:Ci (Aa "gap 01")=none:=GJ (ws:=[Aa "gap",Aa "01"]) (by decide+kernel) (by decide+kernel) (JX (fY (p:=.gap 1) rfl (by
 show numOf (Aa "01")=none;exact nM (by decide+kernel))))
theorem bw:Ci (Aa " gap 1")=none:=GJ (ws:=[Aa "",Aa "gap",Aa "1"]) (by decide+kernel) (by decide+kernel) (JX (OD rfl (by decide+kernel)))
theorem bQ:Ci (Aa "gap 1 ")=none:=GJ (ws:=[Aa "gap",Aa "1",Aa ""]) (by decide+kernel) (by decide+kernel) (oF (Qh rfl rfl) (by decide+kernel) ⋯)
theorem Ou:Cj (.gap 1):=⟨trivial,λ q a=>by rw [ZB.mp a];exact Xc⟩
theorem yg:Short 2:=⟨by decide,by decide⟩
theorem wN:Cj (.gap 2):=⟨trivial,λ q a=>by rw [ZB.mp a];exact yg⟩
def O7 (n:Nat)(ps:List Pc):Part 5:=eF 4 n (ps.map (El 3))
theorem Qy {n:Nat}{ps:List Pc}(h:n<=60)(ne:ps≠[])(l:ps.length<=60)(b:∀p∈ps,Cj p):∀p∈[O7 n ps],WP 5 p:=λ p hm=>by
 rw [ZB.mp hm];refine ⟨h,by simpa using ne,W8 (show (ps.map (El 3)).length<=60 by rw [X9];exact l) ⋯,λ p a=>?_⟩
 obtain ⟨q,c,rfl⟩:=UG.mp a;exact b q c
theorem Yl:Ci (Aa "60 times ( gap 1; gap 2 )")=none:=by
 rw [show Aa "60 times ( gap 1; gap 2 )"=textL 5 [O7 60 [.gap 1,.gap 2]] by decide+kernel,NB (Qy ⋯ (by simp) ⋯ λ p a=>by
  rcases ZN.mp a with rfl | a
  ·exact Ou
  ·rw [ZB.mp a];exact wN)]
 rfl
def longB:List Pc:=YO 31 (.gap 1)
def G5:List Pc:=YO 30 (.gap 1)
theorem jD:Ci (Aa "31 times ( gap 1 )")=some longB:=by
 rw [show Aa "31 times ( gap 1 )"=textL 5 [O7 31 [.gap 1]] by decide+kernel,NB (Qy ⋯ (by simp) ⋯ λ p a=>by rw [ZB.mp a];exact Ou)]
 rfl
theorem AN7:Ci (Aa "30 times ( gap 1 )")=some G5:=by
 rw [show Aa "30 times ( gap 1 )"=textL 5 [O7 30 [.gap 1]] by decide+kernel,NB (Qy ⋯ (by simp) ⋯ λ p a=>by rw [ZB.mp a];exact Ou)]
 rfl
theorem Xn (n:Nat)(h:n<=60):OkB (YO n (.gap 1)):=⟨by rw [GA];exact h,λ p a=>by rw [(List.mem_replicate.mp a).2];exact Ou⟩
theorem vm:OkB longB:=Xn 31 ⋯
theorem AK9:OkB G5:=Xn 30 ⋯
theorem sZ:Ef longB=wm (Aa "; ") (YO 31 (Aa "gap 1")):=by decide+kernel
theorem Zy {ps:List Pc}(l:ps.length<=60)(h:∀p∈ps,Cj p):Ci (Ef ps)=some ps:=by
 have b:∀p∈ps.map (El 4),WP 5 p:=λ p c=>by
  obtain ⟨q,a,rfl⟩:=UG.mp c;exact h q a
 have d:Ca 5 (ps.map (El 4))=ps.length:=by
  induction ps with
  | nil=>rfl
  | cons p ps e=>
   have:=e (by simp only [W6] at l;omega) (λ q a=>h q (ZX _ a)) (λ q a=>b q (ZX _ a))
   show 1+Ca 5 (ps.map (El 4))=_;rw [this,W6,qV]
 rw [<- AG4 4 ps,NB b,d,if_pos l,mj]
def Ff (u:Str):Option (Nat×Nat):=
 if u=Aa "join" then some (3,0) else if u=Aa "turn" then some (2,0) else if u=Aa "show" then some (1,0) else if u=Aa "walk" then some (1,2) else if u=Aa "table" then some (1,0) else
 if u=Aa "apart" then some (1,0) else if u=Aa "image" then some (1,1) else if u=Aa "field" then some (1,4) else if u=Aa "sharp" then some (1,5) else if u=Aa "rounds" then some (1,0) else none
structure RowGd (u:Str)(xs:List Str)(qs:List Rat):Prop where
 f:Ff u=some (xs.length,qs.length)
 n:∀x∈xs,Nm x
 q:∀q∈qs,Short q
 s:u=Aa "sharp"->∃q,qs[4]?=some q/\0<=q
theorem lK {u:Str}{a b:Nat}(h:Ff u=some (a,b)):a<=3/\b<=5:=by
 unfold Ff at h
 repeat' split at h
 all_goals first | (cases h;exact ⟨by decide,by decide⟩) | cases h
inductive jR (K:FrG)(vs:List V)(H:Hp)(Q:VK)(z3:XK):Prop | mk (l:Addr) (u:Str) (xs:List Str) (qs:List Rat) (_:vs=[.ref l]) (_:H l=some (.lst ((u::(xs++qs.map Ay)).map V.str))) (_:RowGd u xs qs) (_:∀r l1 l2 H',Same H H'->H' r=some (.tup [.ref l1,.ref l2])->H' l1=some (.lst (xs.map V.str))->DV K H' (.ref l2) (.list (qs.map Av))->Q (.ref r) H')
inductive nG (K:FrG)(C N:Addr)(vs:List V)(H:Hp)(z2:VK)(E:XK):Prop | mk (o dx d:Addr) (q:List Addr) (x:Str) (S:CZ) (n:Nat) (_:vs=[.ref o,.str x]) (_:DkA K H q C o dx d S n) (_:S x=none) (_:E (.ref N) none H)
inductive tD (K:FrG)(C N:Addr)(vs:List V)(H:Hp)(z2:VK)(E:XK):Prop | mk (o:Addr) (x:Str) (v:V) (ds:List Xt) (_:vs=[.ref o,.str x,v]) (_:DV K H v (.list ds)) (_:60 < ds.length) (_:RaisedAt H N none E)
def Z8 (K:FrG)(C N o dx d:Addr)(q:List Addr)(b:CZ)(n:Nat)(H:Hp)(Q:VK)(E:XK)(x st:Str):Prop:=
 (∀ps,Ci st=some ps->OkB ps/\∀a,SD d H a->DkA K a q C o dx d (setB b x ps) (n+1)->Q (.str "ok") a)/\(Ci st=none->∀a,Same H a->E (.ref N) none a)
inductive rM (K:FrG)(C N:Addr)(vs:List V)(H:Hp)(Q:VK)(E:XK):Prop | mk (o dx d:Addr) (q:List Addr) (x st:Str) (S:CZ) (n:Nat) (_:vs=[.ref o,.str (Dn x st)]) (_:DkA K H q C o dx d S n) (_:(∀a∈q,∃z,H a=some z)) (_:n<=1000) (_:Nm x) (_:st.length<=15000) (_:Z8 K C N o dx d q S n H Q E x st)
def Uv (qs:List Rat):Prop:=∃a b c d,qs=[a,b,c,d]/\(b < a\/d < c)
def Rj (qs:List Rat):Prop:=∃a b f l m,qs=[a,b,f,l,m]/\l < f
structure Ex71 where
 T:Addr
 U:Addr
 B:Addr
 X:Addr
inductive GZ (S:CZ)(H:Hp)(Q:VK)(E:XK)(N:Ex71):Str->List Str->List Rat->Prop
 | join1 {x y z}:S y=none->(∀H',Same H H'->E (.ref N.U) none H')->GZ S H Q E N (Aa "join") [x,y,z] []
 | join2 {x y z a}:S y=some a->S z=none->(∀H',Same H H'->E (.ref N.U) none H')->GZ S H Q E N (Aa "join") [x,y,z] []
 | long {x y z a b}:S y=some a->S z=some b->60 < a.length+b.length->RaisedAt H N.B none E->GZ S H Q E N (Aa "join") [x,y,z] []
 | turn {x y}:S y=none->(∀H',Same H H'->E (.ref N.U) none H')->GZ S H Q E N (Aa "turn") [x,y] []
 | ans {u x qs}:u≠Aa "join"->u≠Aa "turn"->S x=none->(∀H',Same H H'->E (.ref N.U) none H')->GZ S H Q E N u [x] qs
 | show' {x ps}:S x=some ps->(∀H',Same H H'->Q (.str (Ef ps)) H')->GZ S H Q E N (Aa "show") [x] []
 | field {x ps qs}:S x=some ps->Uv qs->(∀H',Same H H'->E (.ref N.X) none H')->GZ S H Q E N (Aa "field") [x] qs
 | sharp {x ps qs}:S x=some ps->Rj qs->(∀H',Same H H'->E (.ref N.X) none H')->GZ S H Q E N (Aa "sharp") [x] qs
inductive MP (K:FrG)(C:Addr)(N:Ex71)(vs:List V)(H:Hp)(Q:VK)(E:XK):Prop | mk (o dx d:Addr) (q:List Addr) (t:Str) (S:CZ) (n:Nat) (_:vs=[.ref o,.str t]) (_:DkA K H q C o dx d S n) (_:(∀a∈q,∃z,H a=some z)) (_:n<=1000) (_:t.length<=15000) (_:((∃x st,t=Dn x st/\Nm x/\Z8 K C N.T o dx d q S n H Q E x st)\/∃u xs qs,XO t (Aa " ")=u::(xs++qs.map Ay)/\u≠Aa "bench"/\RowGd u xs qs/\GZ S H Q E N u xs qs))
inductive yO (K:FrG)(C:Addr)(vs:List V)(H:Hp)(z2:VK)(E:XK):Prop | mk (x y:V) (d e:Xt) (_:vs=[x,y]) (_:DV K H x d) (_:DV K H y e) (_:Fg d e false) (_:∀H',Same H H'->E (.ref C) none H')
inductive AN3 (K:FrG)(C:Addr)(vs:List V)(H:Hp)(z2:VK)(E:XK):Prop | mk (v u:V) (ps:List Pc) (e:Xt) (_:vs=[v,u]) (_:DV K H v (Hf ps)) (_:OkB ps) (_:DV K H u e) (_:Ij e) (_:∀H',Same H H'->E (.ref C) none H')
inductive AI3 (K:FrG)(C:Addr)(vs:List V)(H:Hp)(z2:VK)(E:XK):Prop | mk (v l x y:V) (ps:List Pc) (d e:Xt) (_:vs=[v,l,x,y]) (_:DV K H v (Hf ps)) (_:OkB ps) (_:DV K H x d) (_:DV K H y e) (_:Fg d e false) (_:∀H',Same H H'->E (.ref C) none H')
inductive Y5 (K:FrG)(C:Addr)(B:List Rat->Prop)(vs:List V)(H:Hp)(z2:VK)(E:XK):Prop | mk (v u:V) (ps:List Pc) (qs:List Rat) (_:vs=[v,u]) (_:DV K H v (Hf ps)) (_:OkB ps) (_:DV K H u (.list (qs.map Av))) (_:(∀q∈qs,Short q)) (_:B qs) (_:∀H',Same H H'->E (.ref C) none H')
inductive qt (K:FrG)(vs:List V)(H:Hp)(Q:VK)(z3:XK):Prop | mk (v w:V) (ps:List Pc) (_:vs=[v,w]) (_:DV K H v (Hf ps)) (_:OkB ps) (_:∀H',Same H H'->Q (.str (Ef ps)) H')
inductive Sg | N | W | long | half
 deriving DecidableEq
def Sg.t:Sg->Str
 | .N=>Aa "N"
 | .W=>Aa "W"
 | .long=>Aa "long"
 | .half=>Aa "half"
def Sg.s (n w:Str):Sg->Str
 | .N=>n
 | .W=>w
 | .long=>Aa "long"
 | .half=>Aa "half"
def rowOf (t n w:Str):Str:=zS (zS t (Aa "N") n) (Aa "W") w
theorem Nm.sg {n:Str}(h:Nm n)(c:Nat)(b:Jo ⟨#[c]⟩=false):c∉cl n:=λ m=>by
 have h:nameB n=true:=h;unfold nameB at h;have d:=(QR.mp h).2;have a:=jp.mp d ⟨#[c]⟩ (UG.mpr ⟨c,m,rfl⟩);rw [b] at a;cases a
theorem kN:JE (⟨#[78]⟩:Str)=1:=by decide+kernel
theorem kW:JE (⟨#[87]⟩:Str)=1:=by decide+kernel
theorem Vn (t n w:Str):cl (rowOf t n w)=Cg 87 (cl w) (Cg 78 (cl n) (cl t)):=by
 unfold rowOf;rw [show Aa "N"=⟨#[78]⟩ from rfl,show Aa "W"=⟨#[87]⟩ from rfl,Rf _ _ _ kW,Rf _ _ _ kN]
theorem Yk {n w:Str}(hn:Nm n):∀a:Sg,Cg 87 (cl w) (Cg 78 (cl n) (cl a.t))=cl (a.s n w)
 | .N=>by
  show Cg 87 (cl w) (Cg 78 (cl n) [78])=cl n;rw [XF,Gx (hn.sg 87 (by decide+kernel))]
 | .W=>by
  show Cg 87 (cl w) (Cg 78 (cl n) [87])=cl w;rw [Gx (c:=78) (l:=[87]) ⋯,XF]
 | .long=>by
  show Cg 87 (cl w) (Cg 78 (cl n) (cl (Aa "long")))=_;rw [Gx (c:=78) (l:=cl (Aa "long")) (by decide+kernel),Gx (c:=87) (l:=cl (Aa "long")) (by decide+kernel)]
  rfl
 | .half=>by
  show Cg 87 (cl w) (Cg 78 (cl n) (cl (Aa "half")))=_;rw [Gx (c:=78) (l:=cl (Aa "half")) (by decide+kernel),Gx (c:=87) (l:=cl (Aa "half")) (by decide+kernel)]
  rfl
theorem Q5 {n w:List Nat}{l:List Nat}(a:78∉l)(b:87∉l):Cg 87 w (Cg 78 n l)=l:=by rw [Gx a,Gx b]
theorem AO5 {t n w u:Str}{ns:List Sg}{qs:List Rat}(hn:Nm n)(c:Nm w)(ht:cut 32 (cl t)=(u::(ns.map Sg.t++qs.map Ay)).map cl)(b:78∉cl u/\87∉cl u):
  XO (rowOf t n w) (Aa " ")=u::(ns.map (Sg.s n w)++qs.map Ay):=by
 refine Ny ?_;show (XO (rowOf t n w) ⟨#[32]⟩).map cl=_;rw [GF,Vn,Wj ⋯ c.no,Wj ⋯ hn.no,ht,Qc,Qc,YY,YY,Ye,Ye,Qc,Qc,Qc,Qc]
 refine congr (congrArg _ (Q5 b.1 b.2)) (congr (congrArg _ ?_) ?_)
 ·exact zi λ a _=>Yk hn a
 ·exact zi λ q _=>Q5 (Kl q 78 ⋯) (Kl q 87 ⋯)
theorem pQ {t n w st:Str}{a:Sg}(hn:Nm n)(ht:cl t=cl (Aa "bench ")++(cl a.t++(32::cl st)))(d:78∉cl st)(e:87∉cl st):rowOf t n w=Dn (a.s n w) st:=by
 refine ext ?_;have app:∀(c:Nat) (z a b:List Nat),Cg c z (a++b)=Cg c z a++Cg c z b:=λ c z a b=>FC
 rw [Vn,ht,app,app,app,app,Yk hn a,Q5 (by decide+kernel) (by decide+kernel),Q5 (by simp [d]) (by simp [e]),Oo,show cl (Aa "bench ")=cl (Aa "bench")++[32] by decide+kernel]
 simp only [WG];rfl
theorem jU:∀a:Fin 26,∀t:Fin 5,∀r:Fin 4,Eo (a.val:Nat) (t.val:Nat) (r.val:Nat)≠Aa "long"/\Eo (a.val:Nat) (t.val:Nat) (r.val:Nat)≠Aa "half":=by decide+kernel
theorem zQ:∀i:Fin 4,um (Y2 "m") (1+((i.val:Nat):Int))≠Aa "long"/\um (Y2 "m") (1+((i.val:Nat):Int))≠Aa "half":=by decide+kernel
theorem wD (z:Int){i:Int}(b:0<=i)(h:i < 4):called z i≠Aa "long"/\called z i≠Aa "half":=by
 unfold called
 split
 ·have:=zQ ⟨i.toNat,by omega⟩
  have e:((i.toNat:Nat):Int)=i:=by omega
  simp only [e] at this;exact this
 ·have:=jU ⟨((z / 24+5 * i) % 26).toNat,by omega⟩ ⟨(z / 3 % 5).toNat,by omega⟩ ⟨(z % 4).toNat,by omega⟩
  have e1:((((z / 24+5 * i) % 26).toNat:Nat):Int)=(z / 24+5 * i) % 26:=by omega
  have e2:(((z / 3 % 5).toNat:Nat):Int)=z / 3 % 5:=by omega
  have a:(((z % 4).toNat:Nat):Int)=z % 4:=by omega
  simp only [e1,e2,a] at this;exact this
theorem Wh:Nm (Aa "long"):=by unfold Nm;decide+kernel
theorem gr:Nm (Aa "half"):=by unfold Nm;decide+kernel
inductive Gk (S:CZ):Str->List Str->List Rat->Str->Prop
 | join1 {x y z}:S y=none->Gk S (Aa "join") [x,y,z] [] (Aa "unknown")
 | join2 {x y z a}:S y=some a->S z=none->Gk S (Aa "join") [x,y,z] [] (Aa "unknown")
 | long {x y z a b}:S y=some a->S z=some b->60 < a.length+b.length->Gk S (Aa "join") [x,y,z] [] (Aa "bench")
 | turn {x y}:S y=none->Gk S (Aa "turn") [x,y] [] (Aa "unknown")
 | ans {u x qs}:u≠Aa "join"->u≠Aa "turn"->S x=none->Gk S u [x] qs (Aa "unknown")
 | field {x ps qs}:S x=some ps->Uv qs->Gk S (Aa "field") [x] qs (Aa "box")
 | sharp {x ps qs}:S x=some ps->Rj qs->Gk S (Aa "sharp") [x] qs (Aa "box")
def RefRow (a:CZ)(t z:Str):Prop:=(∃x st,t=Dn x st/\Nm x/\Ci st=none/\z=Aa "text")\/∃u xs qs,XO t (Aa " ")=u::(xs++qs.map Ay)/\u≠Aa "bench"/\RowGd u xs qs/\Gk a u xs qs z
structure Raise71 (N:Ex71)(H:Hp)(E:XK)(z:Str):Prop where
 u:z=Aa "unknown"->∀H',Same H H'->E (.ref N.U) none H'
 t:z=Aa "text"->∀H',Same H H'->E (.ref N.T) none H'
 x:z=Aa "box"->∀H',Same H H'->E (.ref N.X) none H'
 b:z=Aa "bench"->RaisedAt H N.B none E
section
variable {K:FrG}{H:Hp}{C o dx d:Addr}{q:List Addr}{S:CZ}{n:Nat}{t z:Str}{Q:VK}{E:XK}{N:Ex71}
theorem RefRow.say (h:RefRow S t z)(i:DkA K H q C o dx d S n)(j:∀a∈q,∃z,H a=some z)(k:n<=1000)(l:t.length<=15000)(r:Raise71 N H E z):MP K C N [.ref o,.str t] H Q E:=by
 refine ⟨o,dx,d,q,t,S,n,rfl,i,j,k,l,?_⟩;rcases h with ⟨x,st,rfl,nx,m,rfl⟩ | ⟨u,xs,qs,p,s,v,w⟩
 ·exact .inl ⟨x,st,rfl,nx,(λ ps e=>by rw [m] at e;cases e),λ _=>r.t rfl⟩
 ·refine .inr ⟨u,xs,qs,p,s,v,?_⟩;cases w with
  | join1 c=>exact .join1 c (r.u rfl)
  | join2 c f=>exact .join2 c f (r.u rfl)
  | long c f g=>exact .long c f g (r.b rfl)
  | turn c=>exact .turn c (r.u rfl)
  | ans c f g=>exact .ans c f g (r.u rfl)
  | field c f=>exact .field c f (r.x rfl)
  | sharp c f=>exact .sharp c f (r.x rfl)
theorem RefRow.kind (h:RefRow S t z):z=Aa "unknown"\/z=Aa "text"\/z=Aa "box"\/z=Aa "bench":=by
 rcases h with ⟨x,st,rfl,nx,b,rfl⟩ | ⟨u,xs,qs,c,e,f,a⟩
 ·exact .inr (.inl rfl)
 ·cases a<;>simp
end
def mK (N:Ex71):Addr->Sp:=λ ex vs H Q _=>∃(d:Option Addr) (z:Str),vs=[.ref ex]/\((HX H ex N.U d/\z=Aa "unknown")\/(HX H ex N.T d/\z=Aa "text")\/(HX H ex N.X d/\z=Aa "box")\/(HX H ex N.B d/\z=Aa "bench"))/\∀l a,Same H a->a l=some (.lst [.str z])->Q (.ref l) a
inductive AJ3 (K:FrG)(C:Addr)(vs:List V)(H:Hp)(Q:VK)(z3:XK):Prop | mk (o dx d:Addr) (q:List Addr) (t:Str) (S:CZ) (n:Nat) (z:Str) (_:vs=[.ref o,.str t]) (_:DkA K H q C o dx d S n) (_:(∀a∈q,∃z,H a=some z)) (_:n<=1000) (_:t.length<=15000) (_:RefRow S t z) (_:∀l H',Same H H'->H' l=some (.lst [.str z])->Q (.ref l) H')
inductive AG2 (K:FrG)(C:Addr)(vs:List V)(H:Hp)(Q:VK)(z3:XK):Prop | mk (o dx d:Addr) (q:List Addr) (t:Str) (S:CZ) (n:Nat) (_:vs=[.ref o,.str t]) (_:DkA K H q C o dx d S n) (_:(∀a∈q,∃z,H a=some z)) (_:n<=1000) (_:t.length<=15000) (_:RefRow S t (Aa "bench")) (_:∀H',Same H H'->Q .non H')
end Lib
namespace L2
open PySem PySem.Spec PyProof.Rows
structure Kp (s s':X1):Prop where
 eq:∃h' k,s'={ s with heap:=h',toks:=k }
 k:∀b o,s.heap.get? b=some o->s'.heap.get? b=some o
 t:s.toks<=s'.toks
theorem Kp.refl {s:X1}:Kp s s:=⟨⟨s.heap,s.toks,rfl⟩,λ _ _ e=>e,ZE _⟩
theorem Kp.trans {s d f:X1}(a:Kp s d)(b:Kp d f):Kp s f:=by
 obtain ⟨h,k1,rfl⟩:=a.eq;obtain ⟨g,k2,rfl⟩:=b.eq;exact ⟨⟨g,k2,rfl⟩,λ c o e=>b.k c o (a.k c o e),W8 a.t b.t⟩
theorem Kp.tok {s:X1}{k:Nat}(h:s.toks<=k):Kp s { s with toks:=k }:=⟨⟨s.heap,k,rfl⟩,λ _ _ e=>e,h⟩
theorem Kp.ns {s s':X1}{a:Addr}{m:Str->Option Value}(k:Kp s s')(h:s.heap.Ns a m):s'.heap.Ns a m:=by
 obtain ⟨o,b,c,d,r⟩:=h;exact ⟨o,b,c,k.k _ _ d,r⟩
theorem Ns.one {h:Heap}{a:Addr}{m d:Str->Option Value}(x:h.Ns a m)(y:h.Ns a d):m=d:=by
 obtain ⟨o,j,k,e,hd,_,r⟩:=x;obtain ⟨l,g,i,b,c,_,f⟩:=y;rw [e] at b;cases b;rw [hd] at c;cases c;exact funext λ n=>(r n).symm.trans (f n)
section
variable {X:Cx}{pins:List (Addr×Obj)}{σ:St}{H:Hp}{s s':X1}
theorem Inv.kp (a:Inv X pins σ H s)(k:Kp s s'):Inv X pins σ H s':=by
 obtain ⟨h',t',rfl⟩:=k.eq;exact a.kept k.k (ht:=W8 a.tk k.t)
end
inductive gI (i:Int)(u:Value)(z1:Nat):Prop | mk (t:_) (_:u=.int i t)
inductive gS (x:Str)(u:Value)(n:Nat):Prop | mk (t:NZ) (_:u=.str x t.1) (_:t.1 < n)
def Bs (X:Cx)(m:Str->Option Value)(n:Nat)(e:Expr)(a:Value->Nat->Prop):Prop:=
 ∀s:X1,n<=s.toks->s.heap.Ns X.env.locals m->wpAny (model X.prog X.w) X.A (eval e X.env) (λ u s'=>Kp s s'/\a u s'.toks) X.xe s
def Q3 (X:Cx)(m:Str->Option Value)(n:Nat)(e:Option Expr)(l:Option Int):Prop:=
 ∀s:X1,n<=s.toks->s.heap.Ns X.env.locals m->wpAny (model X.prog X.w) X.A (evalPart e X.env) (λ u s'=>Kp s s'/\AI u l) X.xe s
section
variable {X:Cx}{m:Str->Option Value}{n:Nat}{a b e:Expr}{pos p2:Pos}{i j:Int}{x y:Str}{k:Nat}
theorem Fp {u:Value}{h:Value->Nat->Prop}(d:X.env.scope.kind=.function)(hl:X.env.kindOf x=some .local)(hm:m x=some u)(f:∀c,n<=c->h u c)(hd:(x == ("__debug__":Str))=false:=by decide):Bs X m n (.Name x pos) h:=
 λ s hn g=>Bn (jb d hl g hm ⟨.refl,f _ hn⟩) hd
theorem G7:Bs X m n (.Constant (.int i) k pos) (gI i):=λ s _ _=>wpAny_Constant_int ⟨Kp.tok (WV _),_,rfl⟩
theorem Pr (c:1<=n):Bs X m n (.Constant (.str x) k pos) (gS x):=λ s hn _=>wr ⟨Kp.tok (WV _),⟨s.toks,XW (W8 c hn)⟩,rfl,Qb _⟩
theorem MJ {p g':Value->Nat->Prop}(ha:Bs X m n a p)(hb:Bs X m n b g')(q:∀u h l,h<=l->p u h->p u l){s:X1}(hn:n<=s.toks)(o:s.heap.Ns X.env.locals m){Q:Value->X1->Prop}{f:Value->Value->Sem Value}
  (hf:∀v u c,Kp s c->n<=c.toks->p v c.toks->g' u c.toks->wpAny (model X.prog X.w) X.A (f v u) Q X.xe c):
  wpAny (model X.prog X.w) X.A (eval a X.env) (λ v d=>wpAny (model X.prog X.w) X.A (eval b X.env) (λ u g=>wpAny (model X.prog X.w) X.A (f v u) Q X.xe g) X.xe d) X.xe s:=by
 refine thn (ha s hn o) λ v r ⟨k1,z⟩=>?_
 refine thn (hb r (W8 hn k1.t) (k1.ns o)) λ u c ⟨k2,B⟩=>?_
 exact hf v u c (k1.trans k2) (W8 hn (k1.trans k2).t) (q _ _ _ k2.t z) B
theorem zr {u:Value}{c d:Nat}(_:c<=d)(h:gI i u c):gI i u d:=let ⟨t,e⟩:=h;⟨t,e⟩
theorem PN {u:Value}{c d:Nat}(l:c<=d)(h:gS x u c):gS x u d:=by
 obtain ⟨t,e,h⟩:=h;exact ⟨t,e,Zu h l⟩
theorem Nv {c:MG}{r:Int}(ha:Bs X m n a (gI i))(hb:Bs X m n b (gI j))
  (rule:∀(t u:Tok) (s:X1) (Q:Value->X1->Prop),Q (.int r s.toks) { s with toks:=s.toks+1 }->wpAny (model X.prog X.w) X.A (xk c (.int i t) (.int j u)) Q X.xe s):Bs X m n (.BinOp a c b pos) (gI r):=by
 intro s hn d;refine AF (MJ ha hb (λ _ _ _=>zr) hn d λ v u f k2 l g h=>?_)
 obtain ⟨t,rfl⟩:=g;obtain ⟨t',rfl⟩:=h;exact rule t t' f _ ⟨k2.trans (Kp.tok (WV _)),_,rfl⟩
theorem QJ (ha:Bs X m n a (gI i))(hb:Bs X m n b (gI j)):Bs X m n (.BinOp a .Add b pos) (gI (i+j)):=Nv ha hb λ _ _ _ _ q=>add_int q
theorem jm (ha:Bs X m n a (gI i))(hb:Bs X m n b (gI j))(c:CMul i j):Bs X m n (.BinOp a .Mult b pos) (gI (i * j)):=Nv ha hb λ _ _ _ _ q=>mul_int q c.ok
theorem N6 (ha:Bs X m n a (gI i))(hb:Bs X m n b (gI j))(c:0 < j):Bs X m n (.BinOp a .Mod b pos) (gI (i % j)):=Nv ha hb λ _ _ _ _ q=>mod_int' ∅ (by rw [FP i ∅];exact q)
theorem fM (ha:Bs X m n a (gI i))(hb:Bs X m n b (gI j))(c:0 < j)(d:j < 1073741824):Bs X m n (.BinOp a .FloorDiv b pos) (gI (i / j)):=
 Nv ha hb λ _ _ _ _ q=>floordiv_int ∅ (by rw [FM i ∅];exact q) (.inl (MM ∅))
theorem AK0 {c:Nat}(f:1<=n)(ha:Bs X m n a (gS x))(hb:Bs X m n b (gI i))(g:0<=i)(hi:i < x.length)(hl:x.length<=X3)(h:x.cps[i.toNat]?=some c)(l:PlainIx b):Bs X m n (.Subscript a b pos) (gS ⟨#[c]⟩):=by
 intro s hn o;refine GN (MJ ha hb (λ _ _ _=>PN) hn o λ v u d k2 p q r=>?_)
 obtain ⟨t,rfl,_⟩:=q;obtain ⟨t',rfl⟩:=r;have w:=line63;exact tail_any (wb d x t.1) slot_str_getitem.lookup (getItem_str (c:=c) (by
  have e1:decide (i < -(2 ^ 63:Int))=false:=η ∅
  have e2:decide (i≥2 ^ 63)=false:=η ∅
  rw [e1,e2,Bool.or_false]) (by rw [AJ g hi];exact h) ⟨k2.trans (Kp.tok (WV _)),⟨d.toks,XW (W8 f p)⟩,rfl,Qb _⟩) (l _ _)
theorem vG:Q3 X m n none none:=λ s _ _=>by
 rw [NX];exact ZI ⟨.refl,.none⟩
theorem Tq (h:Bs X m n e (gI i)):Q3 X m n (some e) (some i):=λ s hn c=>by
 rw [evalPart_some];refine thn (h s hn c) λ u f ⟨k1,d⟩=>?_
 obtain ⟨t,rfl⟩:=d;exact ⟨k1,.int i t⟩
theorem Oc {s:X1}{c:Prop}[Decidable c]{y z:Str}{t:NZ}{Q:Value->X1->Prop}(hn:1<=s.toks)(ht:t.1 < s.toks)(h:(if c then y else z).length<=X3/\∀(t':NZ) (k:Nat),s.toks<=k->t'.1 < k->Q (.str (if c then y else z) t'.1) { s with toks:=k }):
  (if c then Cn (.str y t.1) else Made.str z).post Q s:=by
 by_cases d:c
 ·rw [if_pos d];have q:=h.2 t s.toks (ZE _) ht;rw [if_pos d] at q;exact q
 ·rw [if_neg d];have q:=h.2 ⟨s.toks,XW hn⟩ (s.toks+1) (WV _) (Qb _);have f:=h.1;rw [if_neg d] at q f;exact ⟨f,q⟩
theorem gP {lo hi:Option Expr}{l u:Option Int}(h:1<=n)(ha:Bs X m n a (gS x))(hl:Q3 X m n lo l)(J:Q3 X m n hi u)(K:x.length<=X3):Bs X m n (.Subscript a (.Slice lo hi none p2) pos) (gS (UA x l u)):=by
 intro s hn C;refine GN (thn (ha s hn C) λ v L ⟨k1,M⟩=>?_)
 have D:=W8 hn k1.t;refine wpAny_Slice (thn (hl L D (k1.ns C)) λ f N ⟨k2,pl⟩=>thn (J N (W8 D k2.t) ((k1.trans k2).ns C)) λ g s3 ⟨k3,G⟩=>?_)
 rw [NX];refine ZI ?_;have B:=(k2.trans k3).t;obtain ⟨t,rfl,ht⟩:=PN B M;have O:Kp s { s3 with heap:=s3.heap.push { cls:=.type "slice",data:=.fields #[f,g,.none] } }:=((k1.trans k2).trans k3).trans ⟨⟨_,s3.toks,rfl⟩,λ b ob q=>X2 _ q,ZE _⟩
 have p:n<=s3.toks:=W8 D B;have c:∀(t':NZ) k,s3.toks<=k->t'.1 < k->Kp s { s3 with heap:=s3.heap.push { cls:=.type "slice",data:=.fields #[f,g,.none] },toks:=k }/\gS (UA x l u) (.str (UA x l u) t'.1) k:=λ t' k P H=>⟨O.trans (Kp.tok P),t',rfl,H⟩
 have d:=W8 (MR x l u) K;have Q:({ s3 with heap:=s3.heap.push { cls:=.type "slice",data:=.fields #[f,g,.none] } }:X1).heap.IsSliceOf s3.heap.objs.size f g .none:=Ce ..
 show wpAny (model X.prog X.w) X.A (NY a (.Slice lo hi none p2) (.str x t.1) (.ref s3.heap.objs.size)) _ X.xe { s3 with heap:=s3.heap.push { cls:=.type "slice",data:=.fields #[f,g,.none] } }
 refine tail_any (ops:=[.ref s3.heap.objs.size,.str x t.1]) (wb _ _ _) F.slot_str_getitem.lookup ?_ (by with_unfolding_all rfl)
 obtain ⟨o,r,z,hd⟩:=Q;cases pl with
 | none=>
  cases G with
  | none=>exact UK (l:=none) (u:=none) (st:=none) ⟨o,r,z,hd⟩ rfl (Oc (t:=t) (W8 h p) ht ⟨d,c⟩)
  | int j E=>exact UK (l:=none) (u:=some (j,E)) (st:=none) ⟨o,r,z,hd⟩ rfl (Oc (t:=t) (W8 h p) ht ⟨d,c⟩)
 | int i I=>
  cases G with
  | none=>exact UK (l:=some (i,I)) (u:=none) (st:=none) ⟨o,r,z,hd⟩ rfl (Oc (t:=t) (W8 h p) ht ⟨d,c⟩)
  | int j E=>exact UK (l:=some (i,I)) (u:=some (j,E)) (st:=none) ⟨o,r,z,hd⟩ rfl (Oc (t:=t) (W8 h p) ht ⟨d,c⟩)
theorem gb (f:1<=n)(ha:Bs X m n a (gS x))(hb:Bs X m n b (gS y))(g:x.length+y.length<=X3):Bs X m n (.BinOp a .Add b pos) (gS (x++y)):=by
 intro s hn h;refine AF (MJ ha hb (λ _ _ _=>PN) hn h λ v u l k2 o p q=>?_)
 obtain ⟨t,rfl,ht⟩:=p;obtain ⟨t',rfl,d⟩:=q;refine PySem.P.add_str ?_;cases r:x.length == 0
 ·cases w:y.length == 0
  ·exact ⟨by rw [strLen_append];exact g,k2.trans (Kp.tok (WV _)),⟨l.toks,XW (W8 f o)⟩,rfl,Qb _⟩
  ·have c:y.cps=#[]:=zw (by simpa [Cb] using w)
   have e:x++y=x:=by show qn x y=x;cases x;simp [qn,c]
   rw [e];exact ⟨k2,t,rfl,ht⟩
 ·have c:x.cps=#[]:=zw (by simpa [Cb] using r)
  have e:x++y=y:=by show qn x y=y;cases y;simp [qn,c]
  rw [e];exact ⟨k2,t',rfl,d⟩
theorem AP4 (l:1<=n)(ha:Bs X m n a (gS x))(hb:Bs X m n b (gI i))(hok:CY x i):Bs X m n (.BinOp a .Mult b pos) (gS (um x i)):=by
 intro s hn o;refine AF (MJ ha hb (λ _ _ _=>PN) hn o λ v u c k2 p q r=>?_)
 obtain ⟨t,rfl,ht⟩:=q;obtain ⟨t',rfl⟩:=r;refine P.mul_str hok.1 hok.2.1 hok.2.2 ?_;have d:∀(t':NZ) k z,c.toks<=k->t'.1 < k->Kp s { c with toks:=k }/\gS z (.str z t'.1) k:=λ t' k z w h=>⟨k2.trans (Kp.tok w),t',rfl,h⟩
 have fresh:=λ z=>d ⟨c.toks,XW (W8 l p)⟩ (c.toks+1) z (WV _) (Qb _)
 unfold um;by_cases f:i < 1
 ·simp only [if_pos f];exact ⟨by decide,fresh _⟩
 ·simp only [if_neg f];by_cases g:((i == 1 || x.length == 0)=true)
  ·simp only [if_pos g];exact d t c.toks _ (ZE _) ht
  ·simp only [if_neg g];exact ⟨fits_reps (hok.2.2 f (by simpa using g)),fresh _⟩
end
end L2
namespace L2
open PySem PySem.Spec PyProof.Rows PySem.Builtin PySem.Builtin.Str
abbrev Ec:=Value->Nat->VK
abbrev Iv:=List V->Hp->Ec->XK->Prop
def lA (CX:CXT)(outer:List Env)(P:ZU)(w:World)(H:Hp)(s:X1)(Q:Ec)(E:XK)(r:Result)(s':X1):Prop:=
 match r with
 | .ok (.ret u)=>CE outer P w H s (Q u s'.toks) u s'
 | .ok _=>False
 | .error e=>CX outer H s E e s'
structure FnS (P:ZU)(w:World)(K:FrG)(mg:Str->Option Value)(base:Heap)(c:Bool)(k:Nat)(f:Addr)(fd:UE)(ps:List Str)(sp:Iv):Prop where
 len:∀vs H Q E,sp vs H Q E->vs.length=ps.length
 run:∀(A:XA) (outer:List Env) (s:X1) (H:Hp) (args:Args) (us:List Value) (vs:List V) (Q:Ec) (E:XK),RoomB c k A->Env0 P w K mg base A outer s H->NS s fd args (ps.zip us)->Vals vs us->sp vs H Q E->(1<=s.toks\/∃x r,ps=x::r/\fd.scope.names.lookup x=some .local)->
  wh (model P w) A (.call (.ref f) args) (lA (DN P w) outer P w H s Q E) s
def ym (X:Cx)(Q:Ec)(f:Flow)(s':X1):Prop:=
 match f with
 | .next=>∃a b,Inv X [] a b s'/\Q .none s'.toks .non b
 | .ret u=>∃v a b,Inv X [] a b s'/\RelV v u/\Q u s'.toks v b
 | _=>False
def BodyS (X:Cx)(a:List Stmt)(c:St)(H:Hp)(Q:Ec):Prop:=∀b,Inv X [] c H b->wpAny (model X.prog X.w) X.A (execs a X.env) (ym X Q) X.xe b
theorem BodyS.nox {X:Cx}{a:List Stmt}{e:St}{H:Hp}{Q:Ec}(h:BodyS X.nox a e H Q):BodyS X a e H Q:=λ g i=>
 Wf (h g (i.wish _)) (λ f s' q=>by
  cases f with
  | next=>obtain ⟨b,c,d,q⟩:=q;exact ⟨b,c,d.unwish,q⟩
  | ret u=>obtain ⟨v,b,c,d,r,q⟩:=q;exact ⟨v,b,c,d.unwish,r,q⟩
  | brk=>exact q
  | cont=>exact q) λ _ _ z=>WE z
theorem AL0 {c:Bool}{P:ZU}{w:World}{K:FrG}{mg:Str->Option Value}{base:Heap}{k:Nat}{f:Addr}{name d:Str}{g:Arguments}{h:List Stmt}{a:Scope}{D kV t F cdv ct U:Value}{G X:Option Addr}
  {I:Array (Option Value)} {N ps:List Str} {sp:Iv} (Y:K.lookup f=some ⟨U,X,.func (YR name d g h a D kV t F G cdv ct),I⟩) (J:Wp K cdv d=true) (L:FnScope N ps a)
  (len:∀vs H Q E,sp vs H Q E->vs.length=ps.length)
  (l:∀(A:XA) (outer:List Env) (s:X1) (H:Hp) (vs:List V) (Q:Ec) (E:XK),RoomB c k (A.deeper (ua d a s.heap.objs.size f cdv))->sp vs H Q E->
   BodyS (Cv c P w K mg base N d a f cdv A outer s H E).nox h (start N vs) H Q):
  FnS P w K mg base c (k+1) f (YR name d g h a D kV t F G cdv ct) ps sp:=by
 refine ⟨len,λ A outer s H args us vs Q E B j hb r z M=>?_⟩
 have hl:=len _ _ _ _ z;have O:K.In s.heap:=j.mod.kin.keeps λ b o e=>(j.bs b o e).1
 have lim:s.heap.NoLimit:=j.mod.nolimit.keeps λ b o e=>(j.bs b o e).1
 have m:∀y∈ps.zip us,a.names.lookup y.1=some .local\/(a.names.lookup y.1=some .cell/\((zC (s.heap.objs.size+1) a.names []).lookup y.1).isSome=true):=λ ⟨n,v⟩ Z=>by
  rcases L.par n (qk Z).1 with q | q
  ·exact .inl q
  ·exact .inr ⟨q,wx _ _ _ (.inl q)⟩
 refine GG B.depth (O _ _ Y) rfl L.co L.gen rfl (FX O J) (hb _ _ _ _ ?_);refine Vs L.kind m (aR hl r M) λ env a0 R x S=>?_
 subst a0;refine ⟨lim.keeps x.toInCall.keep,codeAny_func ?_⟩;have a3:Inv (Cv c P w K mg base N d a f cdv A outer s H E) [] (start N vs) H R:=VD L B.hd j hl r x S;refine Wf ((l A outer s H vs Q E (B.deeper _) z).nox R a3) (λ a1 s' i=>?_) λ e s' i=>i
 cases a1 with
 | ret u=>
  obtain ⟨v,T,C,p,a2,q⟩:=i;exact ⟨v,C,p.os,p.bare,p.base,p.hok,a2,q⟩
 | next=>
  obtain ⟨T,C,p,q⟩:=i;exact ⟨.non,C,p.os,p.bare,p.base,p.hok,rfl,q⟩
 | brk=>exact WE i
 | cont=>exact WE i
structure CalS (P:ZU)(w:World)(K:FrG)(mg:Str->Option Value)(base:Heap)(c:Bool)(k:Nat)(x:Str)(ps:List Str)(sp:Iv):Prop where
 ex:∃(f:Addr) (fd:UE),FnS P w K mg base c k f fd ps sp/\mg x=some (.ref f)/\YJ K (.ref f)=true/\Binds K fd ps []
theorem TopFn.calS {c:Bool}{P:ZU}{w:World}{K:FrG}{mg:Str->Option Value}{base:Heap}{x:Str}{st:Stmt}{N ps:List Str}{k:Nat}{sp:Iv}(T:TopFn K mg x st)(i:FnScope N ps (defScope st))
  (hb:∀(kV b d:Value) (e:Option Addr) (cdv ct:Value) (us:List Value),us.length=ps.length->jl (YR x x (defArgs st) (defBody st) (defScope st) .none kV b d e cdv ct) ⟨us,[]⟩=pure (ps.zip us))
  (len:∀vs H Q E,sp vs H Q E->vs.length=ps.length)
  (a:∀(f:Addr) (cdv:Value) (A:XA) (outer:List Env) (s:X1) (H:Hp) (vs:List V) (Q:Ec) (E:XK),RoomB c k (A.deeper (ua x (defScope st) s.heap.objs.size f cdv))->sp vs H Q E->
   BodyS (Cv c P w K mg base N x (defScope st) f cdv A outer s H E).nox (defBody st) (start N vs) H Q):CalS P w K mg base c (k+1) x ps sp:=by
 obtain ⟨f,fd,F,hm⟩:=T.ex;obtain ⟨j,m,kV,b,d,e,cdv,ct,h,rfl,l,g⟩:=id F.ex;exact ⟨f,_,AL0 l g i len (a f cdv),hm,F.kp,F.binds hb⟩
def PEs (X:Cx)(e:Expr)(ts:St->Hp->Ec->Prop):Prop:=
 ∀(a:List (Addr×Obj)) (s:X1) (b:St) (H:Hp) (Q:Ec),Inv X a b H s->ts b H Q->wpAny (model X.prog X.w) X.A (eval e X.env) (λ u s'=>EP X a b (Q u s'.toks) u s') X.xe s
theorem PEs.f {X:Cx}{e:Expr}{ts:St->Hp->Ec->Prop}(h:PEs X e ts)(f:Value->Nat->Prop):Kv X e (λ a H Q=>ts a H λ u n v b=>f u n/\Q v b) f:=λ c s a H Q j q=>
 thn (h c s a H _ j q) λ u s' ⟨v,b,d,r,g,i⟩=>⟨g,v,b,d,r,i⟩
section
variable {X:Cx}{c:Bool}{k:Nat}{ps:List Str}{sp:Iv}{x:Str}{p pos:Pos}{e:Expr}{es:List Expr}{t:TA}{E:XK}
theorem eY (C:CalS X.prog X.w X.K X.mg X.base c k x ps sp)(n:RoomB c k X.A)(o:Passes (DN X.prog X.w) X E)(ha:PA X (e::es) t)(v:Gl X x:=by rfl)(l:(x == ("__debug__":Str))=false:=by decide)
  (y:YE (e::es) X.env=(false,eval e X.env)::YE es X.env:=by rfl) (m:(Qe pos (YE es X.env)).any (·.1)=false:=by rfl):
  PEs X (.Call (.Name x p) (e::es) [] pos) (λ g H Q=>t g H λ vs i=>sp (vs++[]) i Q E):=by
 obtain ⟨f,fd,F,hm,z,hb⟩:=C.ex;intro b s g H Q B h;refine UZ (EY B v hm ?_ l);refine UX (h₀:=X.base) B.ok.mod.kin z (thn (ha pos b s g H _ B h) λ us j ⟨vs,i,a,r,q⟩=>⟨a.kIn,?_⟩) y m
 have r2:Vals (vs++[]) (us++[]):=r.append .nil;have hl:(us++[]).length=ps.length:=by rw [<- r2.length];exact F.len _ _ _ _ q
 refine qq (xI a.tk (wT (F.run X.A X.stack j i ⟨us,[]⟩ (us++[]) (vs++[]) Q E n a.env0 (hb j us a.kIn hl) r2 q (.inl a.tk1)) λ r s' d ht=>?_))
 cases r with
 | error e=>exact o b g i j e s' a d ht
 | ok D=>
  cases D with
  | ret u=>exact a.after d
  | next=>exact WE d
  | brk=>exact WE d
  | cont=>exact WE d
end
def K3 (X:Cx)(st:Stmt)(ts:St->Hp->(Nat->St->Hp->Prop)->Prop):Prop:=
 ∀(a:List (Addr×Obj)) (s:X1) (c:St) (H:Hp) (Q:Nat->St->Hp->Prop),Inv X a c H s->ts c H Q->
  wpAny (model X.prog X.w) X.A (exec st X.env) (λ f s'=>f=.next/\∃B b d,X.tb<=B/\B<=s'.toks/\Inv X a b d s'/\Q B b d) X.xe s
section
variable {X:Cx}{pos:Pos}
theorem AK6 {a e:Expr}{ts:St->Hp->Ec->Prop}{z:TG}(l:PEs X e ts)(m:PG X a z)(o:swapsWithSole [a] e pos.line X.env=pure false:=by rfl)(p:swappedStores [a] e X.env=pure none:=by rfl)
  (q:(JI [a] X.env).map (·.2)=[qo a X.env]:=by rfl):K3 X (.Assign [a] e pos) (λ b H Q=>ts b H λ _ n x d=>z x b d λ f r=>Q n f r):=by
 intro c s b H Q A h;refine wpAny_Assign_stores (thn (l c s b H _ A h) λ v g ⟨x,d,i,r1,t⟩=>?_) o p
 rw [q];exact Fw (m c g b d x v _ i r1 t) λ _ B j ⟨k,u,w,y⟩=>⟨rfl,g.toks,k,u,i.tk,j,w,y⟩
def FO (f:Value->Nat->Prop)(o:Obj)(a:List V)(B:Nat):Prop:=∃(items:Array Value) (n:Nat),o={ cls:=.type "list",data:=.seq items n }/\Vals a items.toList/\∀u∈items.toList,f u B
theorem AO6 {f:Value->Nat->Prop}(mono:∀u n m,n<=m->f u n->f u m){L E iter:Expr}{F:List Expr}{a:Scope}{pos M O:Pos}{a9:TI}{e3:TG}{tt:TT}{b0:TE}{cl:List (Str×Addr)}{y:Str}{i:Nat}(b1:X.N.Nodup)(b2:X.N[i]?=some y)(c5:Loc X.env.scope y)(G:List Str)(l:List (Option Nat))(c6:X.calm=true)(hi:PI X L iter a9)
  (c7:∀C I d t J,PG (Be X a cl G C I d t J) L e3) (ht:∀C I d t J,CP (Be X a cl G C I d t J) F tt) (c8:∀C I d t J,Kv (Be X a cl G C I d t J) E b0 f)
  (b3:CapOk X a cl) (hcell:∀y∈a.names,y.2≠.cell) (Y:a.kind=.function) (P:∀y∈a.names,y.2=.local->a.names.lookup y.1=some .local) (c9:l.length=G.length)
  (a5:∀(i j:Nat),l[i]?=some (some j)->∃y:Str,G[i]?=some y/\X.N[j]?=some y/\(ur a X.env).names.lookup y=some .cell/\X.env.scope.names.lookup y=some .cell)
  (d0:∀x,Qq iter X.env x=pure x:=by intro _;rfl) (b4:xz (.ListComp E [⟨L,iter,F,0⟩] a pos) (some (.Name y O)) M.line X.env=pure true:=by rfl)
  (b5:X.fn y=true\/X.env.scope.names.lookup y=some .local:=by first | exact .inl rfl | exact .inr rfl | assumption):
  K3 X (.Assign [.Name y O] (.ListComp E [⟨L,iter,F,0⟩] a pos) M) (λ q H Q=>IW a9 e3 tt b0 l q H λ v b6=>∀p k o B,v=.ref p->b6 p=some (.lst k)->FO f o k B->Q B (q.set i (some v)) (upd b6 p (.frz o (.lst k)))):=by
 intro d s q H Q e4 h;rw [exec_Assign_Name_used _ _ _ _ b4];refine Y3 (UO (Y3 ?_));show wpAny _ X.A (do let _ <- Me (.ListComp E [⟨L,iter,F,0⟩] a pos) a X.env _ (newList []) false (eval iter X.env) (some (qo (.Name y O) X.env))) _ _ s
 refine Y3 (Wf (U7 mono (use:=some (qo (.Name y O) X.env)) (QQ:=λ _ s'=>∃B R b7,X.tb<=B/\B<=s'.toks/\Inv X d R b7 s'/\Q B R b7) G l c6 hi c7 ht c8 b3 hcell Y P c9 a5 d0
  (λ C g I t r J Z pl R items k K d1 a0 a3 b8 a6 S a7 d2 b9 d3=>?_) e4 h) (λ _ s' d4=>ZI (ZI ⟨rfl,d4⟩)) λ _ _ e=>e)
 have T:t.heap.objs.size<=C:=a0.ok.above;obtain ⟨m,hn,_⟩:=a0.loc;obtain ⟨U,d5,d6,c0,a4,hrest⟩:=id hn;have d7:Inv X d q (upd Z g (.lst k)) r:=Mx K d1 a0 a3 b8 a6 S a7 b9 (NH ..);obtain ⟨w,V⟩:=id a3;have c4:Inv X d q (upd (upd Z g (.lst k)) g (.frz { cls:=.type "list",data:=.seq items w } (.lst k))) r:=
  d7.write (x:=g) (e:=g) (o:=.frz { cls:=.type "list",data:=.seq items w } (.lst k)) (t':=r.toks) (h':=r.heap) (by rw [Ag];trivial) (.inl rfl) (λ b u _ e=>e) ⟨_,V⟩ ⟨V,b9,items.toList,w,a7,V⟩
 have c1:=d3 g b8 g k { cls:=.type "list",data:=.seq items w } r.toks rfl Ag ⟨items,w,rfl,a7,d2⟩;have a8:upd (upd Z g (.lst k)) g (.frz { cls:=.type "list",data:=.seq items w } (.lst k)) C=none:=by rw [Al (WU S),Al (WU S)];exact a0.free
 generalize upd (upd Z g (.lst k)) g (.frz { cls:=.type "list",data:=.seq items w } (.lst k))=a1 at c4 c1 a8;have c2:C≠X.env.locals:=XW (Zu K.lt T);have d8:C∉X.fs:=K.nofs T;have d9:Inv X (d++[(C,U)]) q a1 r:=c4.pins_of λ p D=>by
  rcases XE.mp D with D | D
  ·exact c4.pin p (Ya _ D)
  ·have e:p=(C,U):=by simpa using D
   subst e;exact ⟨c0,a8,c2,d8,λ v z=>by rw [a4] at z;cases z⟩
 show wpAny _ X.A (qo (.Name y O) X.env (.ref g)) _ _ r;refine Fw (NM (Gu d9 b1 b2 c5 (show RelV (.ref g) (Yf g) from rfl) (Q:=λ _ W=>Inv X (d++[(C,U)]) (q.set i (some (.ref g))) a1 W) (λ W a2=>a2) b5)) λ _ W c3 a2=>?_
 obtain ⟨e0,_⟩:=a2.pin (C,U) (Ya _ (Ya _ (ZB.mpr rfl)));refine ⟨m,⟨U,d5,d6,e0,a4,hrest⟩,λ h' e1=>?_⟩
 have e2:Inv X d (q.set i (some (.ref g))) a1 W:=a2.unpinned;refine ⟨r.toks,_,a1,c4.tk,c3,e2.turned (it:=C) (t':=W.toks) (λ b o hb e=>e1.extBut b o hb e) a8 c2 (.inr (W8 K.sz T)) (λ x c e z=>?_) (λ p D z=>?_),c1⟩
 ·obtain ⟨v,o,V,_⟩:=K.cell x c e;exact absurd (ZT V) (by rw [z];exact Cf.mpr T)
 ·have e:=(K.pin p D).1;exact absurd (ZT e) (by rw [z];exact Cf.mpr T)
theorem iI {st:Stmt}{a:List Stmt}{ts:St->Hp->(Nat->St->Hp->Prop)->Prop}{t:TS}{i:St}{H:Hp}{Q:Ec}(o:K3 X st ts)(p:PSs X a t)
  (h:ts i H λ B b j=>t { nx:=λ _ c=>∀n,B<=n->Q .none n .non c,rt:=λ v c=>∀u n,B<=n->Q u n v c } b j):BodyS X (st::a) i H Q:=by
 intro s y;refine UI (thn (o [] s i H _ y h) λ f w ⟨hf,B,b,j,_,m,x,q⟩=>?_)
 subst hf;refine Fw (p [] w b j _ x q) λ f s3 g e=>?_
 cases f with
 | next=>obtain ⟨d,k,l,q⟩:=e;exact ⟨d,k,l,q _ (W8 m g)⟩
 | ret u=>obtain ⟨v,d,k,l,r,q⟩:=e;exact ⟨v,d,k,l,r,q _ _ (W8 m g)⟩
 | brk=>obtain ⟨_,_,_,q⟩:=e;exact q
 | cont=>obtain ⟨_,_,_,q⟩:=e;exact q
abbrev Cx.tbd (X:Cx)(B:Nat):Cx:={ X with tb:=B }
theorem Inv.tbd {b:List (Addr×Obj)}{c:St}{H:Hp}{s:X1}{B:Nat}(a:Inv X b c H s)(d:1<=B)(e:B<=s.toks):Inv (X.tbd B) b c H s:=
 ⟨⟨a.ok.mod,a.ok.kind,a.ok.glob,a.ok.blt,a.ok.above,a.ok.inj,a.ok.has,a.ok.cab,a.ok.hd,a.ok.frames,a.ok.stk,a.ok.exf,a.ok.bs,a.ok.bsz,a.ok.noex,a.ok.exfs,a.ok.funs,a.ok.frf,d⟩,a.os,a.bare,a.base,a.loc,a.cell,a.free,a.freeC,a.pin,a.hok,a.len,e⟩
theorem Inv.untbd {a:List (Addr×Obj)}{c:St}{H:Hp}{s:X1}{B:Nat}(b:Inv (X.tbd B) a c H s)(ok:X.Ok)(h:X.tb<=B):Inv X a c H s:=
 ⟨ok,b.os,b.bare,b.base,b.loc,b.cell,b.free,b.freeC,b.pin,b.hok,b.len,W8 h b.tk⟩
theorem sJ {st:Stmt}{d:List Stmt}{ts:St->Hp->(Nat->St->Hp->Prop)->Prop}{u:Nat->TS}(n:K3 X st ts)(o:∀B,PSs (X.tbd B) d (u B)):PSs X (st::d) (λ p k H=>ts k H λ B e l=>u B p e l):=by
 intro g s k H p m h;refine UI (thn (n g s k H _ m h) λ f t ⟨hf,B,e,l,i,w,x,q⟩=>?_)
 subst hf;refine thn (o B g t e l p (x.tbd (W8 m.ok.tb1 i) w) q) λ f s3 j=>?_
 cases f with
 | next=>obtain ⟨a,b,c,q⟩:=j;exact ⟨a,b,c.untbd m.ok i,q⟩
 | ret u=>obtain ⟨v,a,b,c,r,q⟩:=j;exact ⟨v,a,b,c.untbd m.ok i,r,q⟩
 | brk=>obtain ⟨a,b,c,q⟩:=j;exact ⟨a,b,c.untbd m.ok i,q⟩
 | cont=>obtain ⟨a,b,c,q⟩:=j;exact ⟨a,b,c.untbd m.ok i,q⟩
def TkF:Value->Nat->Prop:=λ u n=>∀x t,u=.str x t->t < n
theorem TkF.up:∀u n m,n<=m->TkF u n->TkF u m:=λ _ _ _ l h x t e=>Zu (h x t e) l
theorem ni {a:List (Addr×Obj)}{b:St}{H:Hp}{s:X1}{Q:VK}{i y z:Str}{t ty tz:NZ}(f:Inv X a b H s)(ne:ty.1≠tz.1)(c:(y == z)=false)(hb:i.length+(i.length+1) * z.length<=16777216)(q:Q (.str (zS i y z)) H):
  wpAny (model X.prog X.w) X.A (call (.builtin "str.replace") [.str i t.1,.str y ty.1,.str z tz.1]) (EP X a b Q) X.xe s:=by
 have hl:tooLong (i.length+(Ua i y 0 i.length (i.length+1)).length * z.length)=false:=by
  have g:=GB i y 0 i.length (i.length+1);have h:(Ua i y 0 i.length (i.length+1)).length * z.length<=(i.length+1) * z.length:=QU _ g;have e:(2:Nat) ^ 24=16777216:=by decide
  unfold tooLong X3;exact η ∅
 refine call_gives F.slot_str_replace (wb _ _ _) F.entry_str_replace (F.args_str_replace_3 _ _ _) (gives_str_replace i y z t.1 ty.1 tz.1 λ _=>⟨by simp [ty.2,tz.2],by simp [ne],c,hl⟩) ?_
 unfold zS at q;cases d:((Ua i y 0 i.length (i.length+1)).isEmpty || (y.length == 0 && z.length == 0))
 ·rw [d] at q;simp only [zy,if_false] at q ⊢;exact ⟨fits_replaced y hb,.str _,H,f.tok _,⟨⟨_,XW f.tk1⟩,rfl⟩,q⟩
 ·rw [d] at q;simp only [if_true] at q ⊢;exact ⟨.str i,H,f,⟨t,rfl⟩,q⟩
end
section
variable {X:Cx}
def iK (B:Nat)(y:Str)(d:TE)(il:Nat)(e:TE):TE:=λ b H Q=>d b H λ x a=>∃(i:Str) (c:Addr) (ob:Obj) (zs:List Str),x=.str i/\b[il]?=some (some (.ref c))/\a c=some (.frz ob (.lst (zs.map V.str)))/\FO TkF ob (zs.map V.str) B/\
 e b a λ f g=>∃(j:Nat) (z:Str),f=.int j/\g=a/\zs[j]?=some z/\(y == z)=false/\i.length+(i.length+1) * z.length<=16777216/\Q (.str (zS i y z)) a
theorem Xw {o c:Expr}{y d:Str}{k0 il:Nat}{f pn a g b:Pos}{C D:TE}(S:PE X o C)(hn:PE X (.Name d pn) (tVar il))(hi:PE X c D)(E:PlainIx c)
  (l:wc o "replace" X.env (eval o X.env)=eval o X.env:=by rfl)
  (r:((Qe b (YE [.Constant (.str y) k0 f,.Subscript (.Name d pn) c a] X.env)).all (λ x=>!x.1) && (Gw b (xL [] X.env)).all (λ x=>x.1.isSome)
   && decide ([Expr.Constant (.str y) k0 f,.Subscript (.Name d pn) c a].length+([]:List AN).length+(if ([]:List AN).isEmpty then 0 else 1) < 30))=true:=by rfl)
  (m:(g.endLine == b.line)=true:=by rfl)
  (U:YE [.Constant (.str y) k0 f,.Subscript (.Name d pn) c a] X.env=[(false,eval (.Constant (.str y) k0 f) X.env),(false,eval (.Subscript (.Name d pn) c a) X.env)]:=by rfl):
  PE X (.Call (.Attribute o "replace" g) [.Constant (.str y) k0 f,.Subscript (.Name d pn) c a] [] b) (iK X.tb y C il D):=by
 intro e s A H Q b4 h;refine wpAny_Call_method_late l r m rfl (thn (S e s A H _ b4 h) λ v G ⟨x,I,p,r1,i,B,ob,zs,ex,W,hf,fo,Y⟩=>?_)
 subst ex;obtain ⟨t,rfl⟩:=r1;obtain ⟨Z,a0⟩:=Z6 (T:="str") (x:=.str i) p ⟨t,rfl⟩ rfl;refine ⟨"str","str.replace",WA,PySem.F.slot_str_replace,PySem.F.type_str_replace,Z,a0,?_⟩;rw [U];refine wE (by rfl) (zO (wv ?_))
 refine wr (k:=k0) (pos:=f) ?_;show wpAny _ _ (spliced ((false,eval (.Subscript (.Name d pn) c a) X.env)::[])) _ _ _;have a1:=p.tok (G.toks+1);refine wv ?_;refine GN (thn (hn e _ A I (λ v a2=>v=.ref B/\a2=I) a1 ⟨_,W,rfl,rfl⟩) λ b5 s3 ⟨b6,a3,a4,a5,a6,J⟩=>?_)
 subst a6 J;cases a5
 refine thn (hi e s3 A a3 _ a4 Y) λ b7 a7 ⟨b8,a8,K,a9,j,z,b0,L,M,N,hb,q⟩=>?_
 subst b0 L;obtain ⟨b9,rfl⟩:=a9;obtain ⟨items,n,rfl,O,tk⟩:=fo;obtain ⟨b1,b2,_⟩:=(show ObjOk X.prog X.w a8 a7.heap B (.frz { cls:=.type "list",data:=.seq items n } (.lst (zs.map V.str))) from K.hok B _ hf)
 obtain ⟨u,P,⟨tz,R⟩⟩:=O.get (i:=j) (x:=.str z) (by rw [YN,M];rfl)
 have lt:=tk u (YB P) z tz.1 R;subst R;have hsz:items.size=zs.length:=by have:=O.length;simpa using this.symm
 have c0:j < zs.length:=(WJ.mp M).1;have b3:=line63;rw [X9] at b2;refine item_listR (items:=items) ⟨_,b1,rfl,_,rfl⟩ (Int.natCast_nonneg _) ∅ (by rw [UC];simpa using P) ?_ (E _ _)
 refine qS ?_;exact ni (ty:=⟨G.toks,XW p.tk1⟩) (tz:=tz) K (XW (Zu lt p.tk)) N hb q
end
end L2
namespace L2
open PySem PySem.Spec PyProof.Rows
def bU (X:Cx)(m:Str->Option Value)(n:Nat)(e:Expr)(b:Bool):Prop:=
 ∀s:X1,n<=s.toks->s.heap.Ns X.env.locals m->wpAny (model X.prog X.w) X.A (isTrue e X.env (eval e X.env)) (λ a s'=>Kp s s'/\a=b) X.xe s
section
variable {X:Cx}{m:Str->Option Value}{n:Nat}{a b:Expr}{pos:Pos}{i j:Int}
theorem wH (ha:Bs X m n a (gI i))(hb:Bs X m n b (gI j))(hm:uk .Eq b=false):bU X m n (.Compare a [.Eq] [b] pos) (i == j):=by
 intro s hn c;refine GE (thn (ha s hn c) λ v d ⟨k1,e⟩=>thn (hb d (W8 hn k1.t) (k1.ns c)) λ u g ⟨k2,f⟩=>?_) hm
 obtain ⟨t,rfl⟩:=e;obtain ⟨t',rfl⟩:=f;exact eq_int (Qp ⟨k1.trans k2,rfl⟩)
theorem AI0 {I:St}{H:Hp}{Q:Ec}{e1 J K B L:Expr}{M O b6 b7 P R b8:Pos}{c d:Str}{il ia:Nat}{ltr r1 r2:Str}{at':Int}{cond:Bool}(w:(Str->Option Value)->Prop)
  (S:∀(h:Heap) (m:Str->Option Value),(∀(i:Nat) (x:Str) (v:V),X.N[i]?=some x->I[i]?=some (some v)->Vis X.env.scope x->∃u,RelV v u/\Look X.env h m x u)->w m)
  (T:∀m x u,x=c\/x=d->w m->w λ y=>if y=x then some u else m y) (U:c≠d)
  (z:X.N.Nodup) (W:X.N[il]?=some c) (Y:X.N[ia]?=some d) (e:X.env.scope.names.lookup c=some .local) (f:X.env.scope.names.lookup d=some .local)
  (Z:∀m n,1<=n->w m->Bs X m n e1 (gS ltr)) (a0:∀m n,w m->bU X m n J cond) (a1:∀m n,1<=n->w m->cond=true->Bs X m n K (gS r1)) (a2:∀m n,w m->Bs X m n B (gI at'))
  (a3:∀m n u t,1<=n->w m->m c=some u->(∀C,n<=C->gS ltr u C)->m d=some (.int at' t)->cond=false->Bs X m n L (gS r2))
  (q:∀u n,gS (if cond=true then r1 else r2) u n->Q u n (.str (if cond=true then r1 else r2)) H)
  (a4:xz e1 (some (.Name c M)) O.line X.env=pure false:=by rfl) (a5:xz B (some (.Name d P)) R.line X.env=pure false:=by rfl):
  BodyS X [.Assign [.Name c M] e1 O,.If J [.Return (some K) b6] [] b7,.Assign [.Name d P] B R,.Return (some L) b8] I H Q:=by
 intro b9 c0;obtain ⟨m,a6,hl⟩:=c0.loc;have d2:=S _ m hl;refine UI (NN (thn (Z m _ c0.tk1 d2 b9 (ZE _) a6) λ u d3 ⟨k2,c1⟩=>?_) a4)
 have c2:=c0.kp k2;obtain ⟨g,rfl,c3⟩:=c1;refine RW c2 z W (.inl e) (v:=.str ltr) ⟨g,rfl⟩ (λ s3 a7 _ k=>?_) (.inr e)
 obtain ⟨c4,a8,A,a9⟩:=k e;obtain rfl:=Ns.one a8 (k2.ns a6);have p:=T c4 c (.str ltr g.1) (.inl rfl) d2;have d4:1<=s3.toks:=a7.tk1;refine UI (wpAny_If (thn (a0 _ s3.toks p s3 (ZE _) A) λ b r ⟨D,c5⟩=>?_))
 subst c5;have E:=a7.kp D;have l:=D.ns A;cases b with
 | true=>
  refine UI (Go (thn (a1 _ r.toks E.tk1 p rfl r (ZE _) l) λ v b0 ⟨k5,s⟩=>?_))
  have F:=q v b0.toks s;obtain ⟨o,rfl,_⟩:=s;exact ⟨.str r1,_,H,E.kp k5,⟨o,rfl⟩,F⟩
 | false=>
  refine yk ?_;refine UI (NN (thn (a2 _ r.toks p r (ZE _) l) λ v b0 ⟨k5,s⟩=>?_) a5)
  obtain ⟨o,rfl⟩:=s;have c6:=E.kp k5;refine RW c6 z Y (.inl f) (v:=.int at') ⟨o,rfl⟩ (λ G b1 _ k=>?_) (.inr f)
  obtain ⟨d5,b2,b3,b4⟩:=k f;obtain rfl:=Ns.one b2 (k5.ns l);have c7:=T _ d (.int at' o) (.inr rfl) p;have lt:g.1 < G.toks:=Zu c3 (W8 a9 (W8 D.t (W8 k5.t b4)));refine UI (Go (thn (a3 _ G.toks (.str ltr g.1) o b1.tk1 c7 (by rw [if_neg U,if_pos rfl]) (λ C h=>⟨g,rfl,Zu lt h⟩) (by rw [if_pos rfl]) rfl G (ZE _) b3) λ c8 c9 ⟨d0,b5⟩=>?_))
  have F:=q c8 c9.toks b5;obtain ⟨d1,rfl,_⟩:=b5;exact ⟨.str r2,_,H,b1.kp d0,⟨d1,rfl⟩,F⟩
theorem zH {f:Value->Nat->Prop}(mono:∀u n m,n<=m->f u n->f u m){z h iter:Expr}{k:List Expr}{c:Scope}{pos l F:Pos}{G:TI}{Y:TG}{tt:TT}{I:TE}{y:Str}{i:Nat}(J:X.N.Nodup)(K:X.N[i]?=some y)(R:Loc X.env.scope y)(g:List Str)(e:List (Option Nat))(S:X.calm=true)(hi:PI X z iter G)
  (T:∀cl C q d r s,PG (Be X c cl g C q d r s) z Y) (ht:∀cl C q d r s,CP (Be X c cl g C q d r s) k tt) (U:∀cl C q d r s,Kv (Be X c cl g C q d r s) h I f)
  (t:∃cl,CapOk X c cl) (hcell:∀y∈c.names,y.2≠.cell) (A:c.kind=.function) (w:∀y∈c.names,y.2=.local->c.names.lookup y.1=some .local) (V:e.length=g.length)
  (D:∀(i j:Nat),e[i]?=some (some j)->∃y:Str,g[i]?=some y/\X.N[j]?=some y/\(ur c X.env).names.lookup y=some .cell/\X.env.scope.names.lookup y=some .cell)
  (W:∀x,Qq iter X.env x=pure x:=by intro _;rfl) (L:xz (.ListComp h [⟨z,iter,k,0⟩] c pos) (some (.Name y F)) l.line X.env=pure true:=by rfl)
  (M:X.fn y=true\/X.env.scope.names.lookup y=some .local:=by first | exact .inl rfl | exact .inr rfl | assumption):
  K3 X (.Assign [.Name y F] (.ListComp h [⟨z,iter,k,0⟩] c pos) l) (λ O H Q=>IW G Y tt I e O H λ v P=>∀p E o B,v=.ref p->P p=some (.lst E)->FO f o E B->Q B (O.set i (some v)) (upd P p (.frz o (.lst E)))):=by
 obtain ⟨cl,t⟩:=t;exact AO6 mono J K R g e S hi (T cl) (ht cl) (U cl) t hcell A w V D W L M
end
end L2
namespace Lib
open PySem L2 Fr Op Tx
def BnL (K:FrG)(H:Hp)(bs:List Addr)(a:List (List Pc)):Prop:=bs.length=a.length/\∀(i:Nat) (b:Addr) (ps:List Pc),bs[i]?=some b->a[i]?=some ps->BnA K H b ps
section
variable {K:FrG}{H H':Hp}{bs:List Addr}{pss:List (List Pc)}{b l q:Addr}{ps:List Pc}
theorem BnL.map (h:BnL K H bs pss)(f:∀b∈bs,∀ps,BnA K H b ps->BnA K H' b ps):BnL K H' bs pss:=⟨h.1,λ i b ps hb a=>f b (YB hb) ps (h.2 i b ps hb a)⟩
theorem BnL.keep (h:BnL K H bs pss)(s:Same H H'):BnL K H' bs pss:=h.map λ _ _ _ z=>z.keep s
theorem BnL.sd {xs:List V}(h:BnL K H bs pss)(hl:H l=some (.lst xs))(s:SD l H H')(n:∀b∈bs,b≠l):BnL K H' bs pss:=h.map λ b hb ps z=>Ud z (s.t hl) λ o e=>s _ _ (n b hb) e
theorem BnL.sdD {a:List (Key×V)}(h:BnL K H bs pss)(hl:H l=some (.dK a))(s:SD l H H'):BnL K H' bs pss:=h.map λ _ _ _ z=>bA z hl s
theorem BnL.snoc (h:BnL K H bs pss)(z:BnA K H b ps):BnL K H (bs++[b]) (pss++[ps]):=⟨by rw [ZA,ZA,h.1];rfl,λ i d c hb a=>by
 by_cases hi:i < bs.length
 ·rw [Uc hi] at hb;rw [Uc (by rw [<- h.1];exact hi)] at a
  exact h.2 i _ _ hb a
 ·have hl:=CJ hb;rw [ZA] at hl;have e:i=bs.length:=by simp only [W6,XG] at hl;omega
  subst e;rw [Uq (ZE _),MZ] at hb;rw [Uq (by rw [h.1];exact ZE _),h.1,MZ] at a
  cases hb
  cases a
  exact z⟩
end
theorem iG:∀a:Fin 26,∀t:Fin 5,∀r:Fin 4,Eo (a.val:Nat) (t.val:Nat) (r.val:Nat)≠Eo (((a.val+10) % 26:Nat):Int) (t.val:Nat) (r.val:Nat):=by decide+kernel
theorem z8 (z:Int):called z 0≠called z 1/\called z 0≠called z 2/\called z 1≠called z 2:=by
 unfold called
 split
 ·exact ⟨by decide+kernel,by decide+kernel,by decide+kernel⟩
 ·have e2:(((z / 3 % 5).toNat:Nat):Int)=z / 3 % 5:=by omega
  have d:(((z % 4).toNat:Nat):Int)=z % 4:=by omega
  have a:=(VJ ⟨((z / 24+5 * 0) % 26).toNat,by omega⟩ ⟨(z / 3 % 5).toNat,by omega⟩ ⟨(z % 4).toNat,by omega⟩).2
  have b:=iG ⟨((z / 24+5 * 0) % 26).toNat,by omega⟩ ⟨(z / 3 % 5).toNat,by omega⟩ ⟨(z % 4).toNat,by omega⟩
  have c:=(VJ ⟨((z / 24+5 * 1) % 26).toNat,by omega⟩ ⟨(z / 3 % 5).toNat,by omega⟩ ⟨(z % 4).toNat,by omega⟩).2
  have e:((((z / 24+5 * 0) % 26).toNat:Nat):Int)=(z / 24+5 * 0) % 26:=by omega
  have f:((((z / 24+5 * 1) % 26).toNat:Nat):Int)=(z / 24+5 * 1) % 26:=by omega
  have g:(((((z / 24+5 * 0) % 26).toNat+5) % 26:Nat):Int)=(z / 24+5 * 1) % 26:=by omega
  have h:(((((z / 24+5 * 0) % 26).toNat+10) % 26:Nat):Int)=(z / 24+5 * 2) % 26:=by omega
  have i:(((((z / 24+5 * 1) % 26).toNat+5) % 26:Nat):Int)=(z / 24+5 * 2) % 26:=by omega
  simp only [e,f,g,h,i,e2,d] at a b c;exact ⟨a,b,c⟩
theorem sO {z:Int}{i j:Nat}(hi:i < 3)(a:j < 3)(h:called z i=called z j):i=j:=by
 obtain ⟨b,c,d⟩:=z8 z;have hi:i=0\/i=1\/i=2:=by omega
 have a:j=0\/j=1\/j=2:=by omega
 rcases hi with rfl | rfl | rfl
 ·rcases a with rfl | rfl | rfl
  ·rfl
  ·exact absurd h b
  ·exact absurd h c
 ·rcases a with rfl | rfl | rfl
  ·exact absurd h.symm b
  ·rfl
  ·exact absurd h d
 ·rcases a with rfl | rfl | rfl
  ·exact absurd h.symm c
  ·exact absurd h.symm d
  ·rfl
inductive AN9 (K:FrG)(vs:List V)(H:Hp)(Q:VK)(z3:XK):Prop | mk (d c:Addr) (L:List V) (m:Nat) (_:vs=[.ref d,.int (m:Int),.int 0]) (_:m<=3) (_:DrA H d c L) (_:∀(l:Addr) (bs:List Addr) (pss:List (List Pc)) H',DrA H' d c L->SD d H H'->H l=none->(∀b∈bs,H b=none/\b≠l)->H' l=some (.lst (bs.map V.ref))->bs.length=m->BnL K H' bs pss->(∀ps∈pss,OkS ps)->Q (.ref l) H')
theorem wV:∀{p:Pc},p.bd 12->p.fd 12 17
 | .gap _,h=>h
 | .glass _,h=>h
 | .stop _ _,h=>⟨h.1.mono ⋯,h.2.mono ⋯⟩
theorem wF {K:FrG}{H:Hp}{q:List Addr}{C o dx d:Addr}(no:H o=none)(a:H dx=none)(ne:dx≠o)(hd:upd (upd H dx (.own o)) o (.ins C dx []) d=none):
  Same H (upd (upd (upd (upd H dx (.own o)) o (.ins C dx [])) d (.dK [])) o (.ins C dx [("benches",.ref d)]))/\DkA K (upd (upd (upd (upd H dx (.own o)) o (.ins C dx [])) d (.dK [])) o (.ins C dx [("benches",.ref d)])) q C o dx d (λ _=>none) 0/\H d=none/\H o=none:=by
 have c:d≠o:=λ e=>by rw [e,Ag] at hd;cases hd
 rw [Al c] at hd;have f:d≠dx:=λ e=>by rw [e,Ag] at hd;cases hd
 rw [Al f] at hd;refine ⟨λ b u e=>?_,⟨Ag,[],by rw [Al c];exact Ag,ZE _,DicB.nil⟩,hd,no⟩
 rw [Al (BV e no),Al (BV e hd),Al (BV e no),Al (BV e a)];exact e
theorem yX:∀a:Fin 26,∀t:Fin 5,∀r:Fin 4,∀i:Fin 3,Eo (((a.val+15) % 26:Nat):Int) (t.val:Nat) (r.val:Nat)≠Eo (((a.val+5 * i.val) % 26:Nat):Int) (t.val:Nat) (r.val:Nat):=by decide+kernel
theorem qR:∀i:Fin 3,um (Y2 "m") (1+3)≠um (Y2 "m") (1+((i.val:Nat):Int)):=by decide+kernel
theorem ux (z:Int){i:Nat}(h:i < 3):called z ((3:Nat):Int)≠called z (i:Int):=by
 unfold called
 split
 ·exact qR ⟨i,h⟩
 ·have:=yX ⟨(z / 24 % 26).toNat,by omega⟩ ⟨(z / 3 % 5).toNat,by omega⟩ ⟨(z % 4).toNat,by omega⟩ ⟨i,h⟩
  have e1:((((z / 24 % 26).toNat+15) % 26:Nat):Int)=(z / 24+5 * ((3:Nat):Int)) % 26:=by omega
  have e2:((((z / 24 % 26).toNat+5 * i) % 26:Nat):Int)=(z / 24+5 * (i:Int)) % 26:=by omega
  have a:(((z / 3 % 5).toNat:Nat):Int)=z / 3 % 5:=by omega
  have b:(((z % 4).toNat:Nat):Int)=z % 4:=by omega
  simp only [e1,e2,a,b] at this;exact this
def nms (z:Int):List Str:=(QE 4).map λ k=>called z ((k:Nat):Int)
theorem wY (z:Int):(nms z).map V.str=(QE 4).map λ k=>V.str (called z (k:Nat)):=by unfold nms;rw [Qc];rfl
theorem Nf {z:Int}{j:Nat}(h:j < 4):(nms z)[j]?=some (called z (j:Int)):=by
 unfold nms;rw [YN,List.getElem?_range h];rfl
theorem FO.up {f:Value->Nat->Prop}(mono:∀u n m,n<=m->f u n->f u m){o:Obj}{a:List V}{B n:Nat}(h:FO f o a B)(l:B<=n):FO f o a n:=by
 obtain ⟨b,k,e,v,t⟩:=h;exact ⟨b,k,e,v,λ u c=>mono _ _ _ l (t u c)⟩
def AK1:Iv:=λ vs H Q _=>∃(z i:Int),vs=[.int z,.int i]/\0<=z/\z < 2147483647/\0<=i/\i < 4/\∀u n,gS (called z i) u n->Q u n (.str (called z i)) H
theorem qM {x:Str}{u:Value}{n:Nat}(h:gS x u n):TkF u n:=by
 obtain ⟨t,rfl,l⟩:=h;intro y t' e;cases e
 exact l
structure Ly71 (K:FrG)(H:Hp)(C o dx d ln lb q c:Addr)(L:List V)(S:CZ)(i:Nat)(z:Int)(bs:List Addr)(pss:List (List Pc))(ob:Obj):Prop where
 dr:DrA H q c L
 ds:DkA K H [q,lb] C o dx d S i
 nm:H ln=some (.frz ob (.lst ((nms z).map V.str)))
 hl:H lb=some (.lst (bs.map V.ref))
 bl:BnL K H bs pss
 sx:∀(j:Nat) (ps:List Pc),j < i->pss[j]?=some ps->S (called z j)=some ps
section
variable {K:FrG}{H H':Hp}{C o dx d ln lb q c:Addr}{L:List V}{S:CZ}{i:Nat}{z:Int}{bs:List Addr}{pss:List (List Pc)}{ob:Obj}{n B:Nat}
theorem Ly71.keep (h:Ly71 K H C o dx d ln lb q c L S i z bs pss ob)(s:Same H H'):Ly71 K H' C o dx d ln lb q c L S i z bs pss ob:=⟨h.dr.keep s,h.ds.keep s,s _ _ h.nm,s _ _ h.hl,h.bl.keep s,h.sx⟩
theorem Ly71.there (h:Ly71 K H C o dx d ln lb q c L S i z bs pss ob):∀a∈[q,lb],∃z,H a=some z:=λ a ha=>by
 rcases ZN.mp ha with rfl | ha
 ·obtain ⟨_,_,_,b⟩:=h.dr.d;exact ⟨_,b⟩
 ·rw [ZB.mp ha];exact ⟨_,h.hl⟩
theorem Ly71.next (h:Ly71 K H C o dx d ln lb q c L S i z bs pss ob){ps:List Pc}(b:pss[i]?=some ps)(l:bs.length<=3)(sd:SD d H H')(ds:DkA K H' [q,lb] C o dx d (setB S (called z i) ps) (i+1)):Ly71 K H' C o dx d ln lb q c L (setB S (called z i) ps) (i+1) z bs pss ob:=by
 obtain ⟨k,a,_,_⟩:=h.ds.d;have hi:=CJ b;rw [<- h.bl.1] at hi;refine ⟨h.dr.keepD sd (λ e=>by obtain ⟨_,_,_,f⟩:=h.dr.d;rw [e,a] at f;cases f) (λ e=>by have:=h.dr.c;rw [e,a] at this;cases this),ds,sd _ _ (λ e=>by have:=h.nm;rw [e,a] at this;cases this) h.nm,sd _ _ (λ e=>by have:=h.hl;rw [e,a] at this;cases this) h.hl,h.bl.sdD a sd,λ j p m e=>?_⟩
 unfold setB;by_cases g:j=i
 ·subst g;rw [b] at e;cases e
  rw [if_pos rfl]
 ·rw [if_neg (λ z=>g (sO ∅ ∅ z))]
  exact h.sx j p ∅ e
end
structure Lw71 (K:FrG)(H:Hp)(C o dx d ln lb q:Addr)(S:CZ)(n:Nat)(z:Int)(bs:List Addr)(pss:List (List Pc))(ob:Obj)(B:Nat):Prop where
 ds:DkA K H [q,lb] C o dx d S n
 th:∀a∈[q,lb],∃z,H a=some z
 nm:H ln=some (.frz ob (.lst ((nms z).map V.str)))
 fo:FO TkF ob ((nms z).map V.str) B
 hl:H lb=some (.lst (bs.map V.ref))
 bl:BnL K H bs pss
 m:2<=bs.length/\bs.length<=3
 ok:∀ps∈pss,OkS ps
 sx:∀(j:Nat) (ps:List Pc),pss[j]?=some ps->S (called z j)=some ps
 s3:S (called z ((3:Nat):Int))=none
section
variable {K:FrG}{H H':Hp}{C o dx d ln lb q:Addr}{S:CZ}{n:Nat}{z:Int}{bs:List Addr}{pss:List (List Pc)}{ob:Obj}{B:Nat}
theorem Lw71.keep (h:Lw71 K H C o dx d ln lb q S n z bs pss ob B)(s:Same H H'):Lw71 K H' C o dx d ln lb q S n z bs pss ob B:=
 ⟨h.ds.keep s,λ a ha=>let ⟨z,e⟩:=h.th a ha;⟨z,s _ _ e⟩,s _ _ h.nm,h.fo,s _ _ h.hl,h.bl.keep s,h.m,h.ok,h.sx,h.s3⟩
theorem Lw71.ps (h:Lw71 K H C o dx d ln lb q S n z bs pss ob B){i:Nat}(hi:i < bs.length):∃b ps,bs[i]?=some b/\BnA K H b ps/\OkS ps/\S (called z i)=some ps:=by
 have a:i < pss.length:=by rw [<- h.bl.1];exact hi
 have e1:=Xs hi;have e2:=Xs a;exact ⟨_,_,e1,h.bl.2 i _ _ e1 e2,h.ok _ (YB e2),h.sx i _ e2⟩
theorem Lw71.lay (h:Lw71 K H C o dx d ln lb q S n z bs pss ob B){x:Str}{ps:List Pc}(c:∀i:Nat,i < 4->called z (i:Int)≠x)(sd:SD d H H')(ds:DkA K H' [q,lb] C o dx d (setB S x ps) (n+1)):Lw71 K H' C o dx d ln lb q (setB S x ps) (n+1) z bs pss ob B:=by
 obtain ⟨l,b,_,_⟩:=h.ds.d;have m:=h.m.2;refine ⟨ds,λ a ha=>?_,sd _ _ (λ e=>by have:=h.nm;rw [e,b] at this;cases this) h.nm,h.fo,sd _ _ (λ e=>by have:=h.hl;rw [e,b] at this;cases this) h.hl,h.bl.sdD b sd,h.m,h.ok,λ j p e=>?_,?_⟩
 ·by_cases e:a=d
  ·obtain ⟨k2,f,_,_⟩:=ds.d;rw [e];exact ⟨_,f⟩
  ·obtain ⟨z,g⟩:=h.th a ha;exact ⟨z,sd _ _ e g⟩
 ·have k:=CJ e;rw [<- h.bl.1] at k;unfold setB;rw [if_neg (c j ∅)]
  exact h.sx j p e
 ·unfold setB;rw [if_neg (c 3 ⋯)]
  exact h.s3
end
def yu (K:FrG)(C:Addr):Iv:=λ vs H Q _=>∃(q c:Addr) (f:List V) (z:Int),vs=[.ref q,.int z,.int 0]/\DrA H q c f/\0<=z/\z < 2147483647/\∀(u:Value) (B:Nat) (r o dx d b lb:Addr) (g:CZ) (n:Nat) (bs:List Addr) (e:List (List Pc)) (ob:Obj) a,SD q H a->a r=some (.lst [.ref o,.ref b,.ref lb])->n<=3->Lw71 K a C o dx d b lb q g n z bs e ob B->Q u B (.ref r) a
inductive wZ (K:FrG)(C:Addr)(vs:List V)(H:Hp)(Q:VK)(z3:XK):Prop | mk (o dx d ln lb q:Addr) (S:CZ) (n:Nat) (z:Int) (bs:List Addr) (pss:List (List Pc)) (ob:Obj) (B:Nat) (_:vs=[.ref o,.ref ln,.ref lb]) (_:Lw71 K H C o dx d ln lb q S n z bs pss ob B) (_:n<=1000) (_:S (Aa "long")=some longB) (_:∀H',Same H H'->Q (.bl true) H')
structure Std (S:CZ)(n w:Str)(psn:List Pc):Prop where
 n:S n=some psn
 w:S w=none
 l:S (Aa "long")=some longB
 h:S (Aa "half")=some G5
structure RowT (t z:Str):Prop where
 len:t.length<=100
 r:∀(n w:Str) (S:CZ) (psn:List Pc),Nm n->Nm w->Std S n w psn->RefRow S (rowOf t n w) z
theorem Q4 {c:Nat}{z:List Nat}(h:z.length<=8):∀l:List Nat,(Cg c z l).length<=8 * l.length
 | []=>ZE _
 | k::l=>by
  have a:=Q4 (c:=c) h l;rw [JZ,ZA,W6]
  split
  ·omega
  ·simp only [W6,XG];omega
theorem pK {t n:Str}(h:t.length<=100)(hn:Nm n):(zS t (Aa "N") n).length<=800:=by
 rw [<- Es,show Aa "N"=⟨#[78]⟩ from rfl,Rf _ _ _ kN]
 have:=Q4 (c:=78) (z:=cl n) (by rw [Es];exact hn.len) (cl t)
 rw [Es] at this;omega
theorem jc {t n w:Str}(h:t.length<=100)(hn:Nm n)(a:Nm w):(rowOf t n w).length<=15000:=by
 rw [<- Es,Vn];have b:=Q4 (c:=78) (z:=cl n) (by rw [Es];exact hn.len) (cl t)
 have d:=Q4 (c:=87) (z:=cl w) (by rw [Es];exact a.len) (Cg 78 (cl n) (cl t))
 rw [Es] at b;omega
theorem Y7 {n w:Str}(hn:Nm n)(b:Nm w):∀a:Sg,Nm (a.s n w)
 | .N=>hn
 | .W=>b
 | .long=>Wh
 | .half=>gr
instance shDec:DecidablePred Short:=λ q=>decidable_of_iff (q.num.natAbs < 10 ^ 15/\q.den < 10 ^ 15) ⟨λ h=>⟨h.1,h.2⟩,λ h=>⟨h.n,h.d⟩⟩
theorem Fe {t u z:Str}{ns:List Sg}{qs:List Rat}(ht:cut 32 (cl t)=(u::(ns.map Sg.t++qs.map Ay)).map cl)(e:78∉cl u/\87∉cl u/\u≠Aa "bench"/\Ff u=some (ns.length,qs.length)/\(∀q∈qs,Short q)/\t.length<=100)
  (sh:u=Aa "sharp"->∃q,qs[4]?=some q/\0<=q) (g:∀(n w:Str) (d:CZ) (b:List Pc),Std d n w b->Gk d u (ns.map (Sg.s n w)) qs z):RowT t z:=by
 obtain ⟨h,i,j,f,k,l⟩:=e;refine ⟨l,λ n w d b hn c st=>.inr ⟨u,_,qs,AO5 hn c ht ⟨h,i⟩,j,⟨by rw [X9];exact f,λ x m=>?_,k,sh⟩,g n w d b st⟩⟩
 obtain ⟨a,_,rfl⟩:=UG.mp m;exact Y7 hn c a
theorem DP {t st:Str}{a:Sg}(b:Ci st=none)(ht:cl t=cl (Aa "bench ")++(cl a.t++(32::cl st))/\78∉cl st/\87∉cl st/\t.length<=100):RowT t (Aa "text"):=
 ⟨ht.2.2.2,λ n w e d hn c _=>.inl ⟨_,st,pQ hn ht.1 ht.2.1 ht.2.2.1,Y7 hn c a,b,rfl⟩⟩
def unkL:List Str:=[Aa "show W",Aa "walk W 1 2",Aa "table W",Aa "apart W",Aa "image W 1/2",Aa "rounds W",Aa "field W 1 0 0 1"]++[Aa "sharp W 0 1 1 0 1",Aa "turn N W",Aa "join N W N",Aa "join N N W",Aa "turn W W",Aa "join W W N"]++[Aa "join W long W"]
theorem Dt {u:Str}{qs:List Rat}(h:u≠Aa "sharp"):u=Aa "sharp"->∃q,qs[4]?=some q/\0<=q:=λ e=>absurd e h
theorem qU:∀t∈unkL,RowT t (Aa "unknown"):=by
 have c:∀{t u:Str} {qs:List Rat},cut 32 (cl t)=(u::([Sg.W].map Sg.t++qs.map Ay)).map cl->(78∉cl u/\87∉cl u/\u≠Aa "bench"/\Ff u=some ([Sg.W].length,qs.length)/\(∀q∈qs,Short q)/\t.length<=100)->(u=Aa "sharp"->∃q,qs[4]?=some q/\0<=q)->u≠Aa "join"/\u≠Aa "turn"->RowT t (Aa "unknown"):=
  λ e f m g=>Fe e f m λ n w k d st=>.ans g.1 g.2 st.w
 have i:∀{t:Str} {a:Sg},cut 32 (cl t)=(Aa "turn"::([a,Sg.W].map Sg.t++([]:List Rat).map Ay)).map cl->t.length<=100->RowT t (Aa "unknown"):=
  λ {t a} e f=>Fe e ⟨by decide+kernel,by decide+kernel,by decide+kernel,rfl,(λ q h=>nomatch h),f⟩ (Dt (by decide+kernel)) λ n w k d st=>.turn st.w
 have j:∀{t:Str} {a b:Sg},cut 32 (cl t)=(Aa "join"::([a,Sg.W,b].map Sg.t++([]:List Rat).map Ay)).map cl->t.length<=100->RowT t (Aa "unknown"):=
  λ {t a b} e f=>Fe e ⟨by decide+kernel,by decide+kernel,by decide+kernel,rfl,(λ q h=>nomatch h),f⟩ (Dt (by decide+kernel)) λ n w k d st=>.join1 st.w
 intro t ht;simp only [unkL,GL,ui,ZN,WB,or_false] at ht;rcases ht with rfl | rfl | rfl | rfl | rfl | rfl | rfl | rfl | rfl | rfl | rfl | rfl | rfl | rfl
 ·exact c (u:=Aa "show") (qs:=[]) (by decide+kernel) (by decide+kernel) (Dt (by decide+kernel)) (by decide+kernel)
 ·exact c (u:=Aa "walk") (qs:=[1,2]) (by decide+kernel) (by decide+kernel) (Dt (by decide+kernel)) (by decide+kernel)
 ·exact c (u:=Aa "table") (qs:=[]) (by decide+kernel) (by decide+kernel) (Dt (by decide+kernel)) (by decide+kernel)
 ·exact c (u:=Aa "apart") (qs:=[]) (by decide+kernel) (by decide+kernel) (Dt (by decide+kernel)) (by decide+kernel)
 ·exact c (u:=Aa "image") (qs:=[1/2]) (by decide+kernel) (by decide+kernel) (Dt (by decide+kernel)) (by decide+kernel)
 ·exact c (u:=Aa "rounds") (qs:=[]) (by decide+kernel) (by decide+kernel) (Dt (by decide+kernel)) (by decide+kernel)
 ·exact c (u:=Aa "field") (qs:=[1,0,0,1]) (by decide+kernel) (by decide+kernel) (Dt (by decide+kernel)) (by decide+kernel)
 ·exact c (u:=Aa "sharp") (qs:=[0,1,1,0,1]) (by decide+kernel) (by decide+kernel) (λ _=>⟨1,rfl,by decide+kernel⟩) (by decide+kernel)
 ·exact i (a:=.N) (by decide+kernel) (by decide+kernel)
 ·exact j (a:=.N) (b:=.N) (by decide+kernel) (by decide+kernel)
 ·exact Fe (u:=Aa "join") (ns:=[.N,.N,.W]) (qs:=[]) (by decide+kernel) (by decide+kernel) (Dt (by decide+kernel)) λ n w k d st=>.join2 st.n st.w
 ·exact i (a:=.W) (by decide+kernel) (by decide+kernel)
 ·exact j (a:=.W) (b:=.N) (by decide+kernel) (by decide+kernel)
 ·exact Fe (u:=Aa "join") (ns:=[.W,.long,.W]) (qs:=[]) (by decide+kernel) (by decide+kernel) (Dt (by decide+kernel)) λ n w k d st=>.join2 st.l st.w
def txt8:List Str:=[Aa "oops",Aa "gap",Aa "gap 1;",Aa "gap 1; lens 2",Aa "61 times ( gap 1 )",Aa "stop 1 0",Aa "gap 01",Aa " gap 1"]
def txtL:List Str:=txt8++[Aa "gap 1 "]
abbrev I9 (t:Str):List (Str×Str):=[(Aa "bench N "++t,Aa "text"),(Aa "bench W "++t,Aa "text")]
abbrev Gn (o:Str):List (Str×Str):=[(Aa "join "++o++Aa " long long",Aa "bench"),(Aa "join "++o++Aa " half long",Aa "bench"),(Aa "bench "++o++Aa " 60 times ( gap 1; gap 2 )",Aa "text")]
abbrev Tr:List (Str×Str):=[(Aa "field N 1 0 0 1",Aa "box"),(Aa "field N 0 1 1/2 1/3",Aa "box"),(Aa "sharp N 0 1 1 0 1",Aa "box")]
abbrev YZ:List (Str×Str):=[(Aa "sharp long 0 1 1/2 1/3 0",Aa "box")]
abbrev Gg (ps:List (Str×Str)):Prop:=∀p∈ps,RowT p.1 p.2
theorem GC {a b:Str×Str}(d:RowT a.1 a.2)(e:RowT b.1 b.2):Gg [a,b]:=λ p c=>by
 rcases ZN.mp c with rfl | c
 ·exact d
 ·rw [ZB.mp c];exact e
theorem AJ7:∀t∈txtL,Gg (I9 t):=by
 intro t ht;simp only [txtL,txt8,GL,ui,ZN,WB,or_false] at ht;rcases ht with rfl | rfl | rfl | rfl | rfl | rfl | rfl | rfl | rfl
 ·exact GC (DP (a:=.N) Zz (by decide+kernel)) (DP (a:=.W) Zz (by decide+kernel))
 ·exact GC (DP (a:=.N) aD (by decide+kernel)) (DP (a:=.W) aD (by decide+kernel))
 ·exact GC (DP (a:=.N) Xb (by decide+kernel)) (DP (a:=.W) Xb (by decide+kernel))
 ·exact GC (DP (a:=.N) bY (by decide+kernel)) (DP (a:=.W) bY (by decide+kernel))
 ·exact GC (DP (a:=.N) du (by decide+kernel)) (DP (a:=.W) du (by decide+kernel))
 ·exact GC (DP (a:=.N) cZ (by decide+kernel)) (DP (a:=.W) cZ (by decide+kernel))
 ·exact GC (DP (a:=.N) Z2 (by decide+kernel)) (DP (a:=.W) Z2 (by decide+kernel))
 ·exact GC (DP (a:=.N) bw (by decide+kernel)) (DP (a:=.W) bw (by decide+kernel))
 ·exact GC (DP (a:=.N) bQ (by decide+kernel)) (DP (a:=.W) bQ (by decide+kernel))
theorem AO1:∀o∈[Aa "N",Aa "W"],Gg (Gn o):=by
 have j:∀{t:Str} {a b:Sg} {l:List Pc},(∀n w f d,Std f n w d->f (b.s n w)=some l)->60 < l.length+longB.length->cut 32 (cl t)=(Aa "join"::([a,b,Sg.long].map Sg.t++([]:List Rat).map Ay)).map cl->t.length<=100->RowT t (Aa "bench"):=
  λ {t a b l} hb hl g i=>Fe g ⟨by decide+kernel,by decide+kernel,by decide+kernel,rfl,(λ q h=>nomatch h),i⟩ (Dt (by decide+kernel)) λ n w f d st=>.long (hb n w f d st) st.l hl
 intro o e p c;simp only [ZN,WB,or_false] at e;rcases e with rfl | rfl
 ·rcases ZN.mp c with rfl | c
  ·exact j (a:=.N) (b:=.long) (l:=longB) (λ _ _ _ _ st=>st.l) (by decide+kernel) (by decide+kernel) (by decide+kernel)
  rcases ZN.mp c with rfl | c
  ·exact j (a:=.N) (b:=.half) (l:=G5) (λ _ _ _ _ st=>st.h) (by decide+kernel) (by decide+kernel) (by decide+kernel)
  ·rw [ZB.mp c];exact DP (a:=.N) Yl (by decide+kernel)
 ·rcases ZN.mp c with rfl | c
  ·exact j (a:=.W) (b:=.long) (l:=longB) (λ _ _ _ _ st=>st.l) (by decide+kernel) (by decide+kernel) (by decide+kernel)
  rcases ZN.mp c with rfl | c
  ·exact j (a:=.W) (b:=.half) (l:=G5) (λ _ _ _ _ st=>st.h) (by decide+kernel) (by decide+kernel) (by decide+kernel)
  ·rw [ZB.mp c];exact DP (a:=.W) Yl (by decide+kernel)
theorem AI7:Gg Tr:=by
 intro p a;rcases ZN.mp a with rfl | a
 ·exact Fe (u:=Aa "field") (ns:=[.N]) (qs:=[1,0,0,1]) (by decide+kernel) (by decide+kernel) (Dt (by decide+kernel)) λ n w c b st=>.field st.n ⟨_,_,_,_,rfl,.inl (by decide+kernel)⟩
 rcases ZN.mp a with rfl | a
 ·exact Fe (u:=Aa "field") (ns:=[.N]) (qs:=[0,1,1/2,1/3]) (by decide+kernel) (by decide+kernel) (Dt (by decide+kernel)) λ n w c b st=>.field st.n ⟨_,_,_,_,rfl,.inr (by decide+kernel)⟩
 ·rw [ZB.mp a];exact Fe (u:=Aa "sharp") (ns:=[.N]) (qs:=[0,1,1,0,1]) (by decide+kernel) (by decide+kernel) (λ _=>⟨1,rfl,by decide+kernel⟩) λ n w c b st=>.sharp st.n ⟨_,_,_,_,_,rfl,by decide+kernel⟩
theorem AP5:Gg YZ:=by
 intro p a;rw [ZB.mp a];exact Fe (u:=Aa "sharp") (ns:=[.long]) (qs:=[0,1,1/2,1/3,0]) (by decide+kernel) (by decide+kernel) (λ _=>⟨0,rfl,by decide+kernel⟩) λ n w c b st=>.sharp st.l ⟨_,_,_,_,_,rfl,by decide+kernel⟩
def PrL (H:Hp)(c:List Addr)(b:List (Str×Str)):Prop:=c.length=b.length/\∀(i:Nat) (a:Addr) (p:Str×Str),c[i]?=some a->b[i]?=some p->H a=some (.lst [.str p.1,.str p.2])
section
variable {H H':Hp}{as bs:List Addr}{prs qrs:List (Str×Str)}{l:Addr}
theorem PrL.nil:PrL H [] []:=⟨rfl,λ i a p h=>by simp at h⟩
theorem PrL.keep (h:PrL H as prs)(s:Same H H'):PrL H' as prs:=⟨h.1,λ i a p b c=>s _ _ (h.2 i a p b c)⟩
theorem PrL.app (h:PrL H as prs)(h':PrL H bs qrs):PrL H (as++bs) (prs++qrs):=⟨by rw [ZA,ZA,h.1,h'.1],λ i a p b c=>by
 by_cases hi:i < as.length
 ·rw [Uc hi] at b;rw [Uc (by rw [<- h.1];exact hi)] at c
  exact h.2 i a p b c
 ·rw [Uq ∅] at b
  rw [Uq (by rw [<- h.1];omega),<- h.1] at c
  exact h'.2 _ a p b c⟩
theorem PrL.one {a:Addr}{r z:Str}(h:H a=some (.lst [.str r,.str z])):PrL H [a] [(r,z)]:=⟨rfl,λ i b p c d=>by
 cases i with
 | zero=>cases c;cases d;exact h
 | succ i=>simp at c⟩
theorem PrL.upd' {xs:List V}(h:PrL H as prs)(hl:H l=some (.lst (as.map V.ref))):PrL (upd H l (.lst xs)) as prs:=⟨h.1,λ i a p c d=>by
 have e:=h.2 i a p c d;rw [Al]
 ·exact e
 ·intro z;rw [z,hl] at e
  injection e with e
  injection e with e
  cases as with
  | nil=>simp at c
  | cons b as=>injection e with e1 e2;cases e1⟩
end
def dH:Sp:=λ vs H Q _=>vs=[]/\∀r c a b,Same H b->b r=some (.lst (c.map V.ref))->PrL b c a->0 < a.length->a.length<=1000->Gg a->Q (.ref r) b
end Lib
namespace L2
open PySem PySem.Spec PyProof.Rows
section
variable {X:Cx}{c:Bool}{k:Nat}{sp:Sp}{x:Str}{p pos:Pos}{E:XK}
def AQ5 (sp:Sp)(E:XK):TE:=λ _ H Q=>sp [] H Q E
theorem cJ (C:CalB X.prog X.w X.K X.mg X.base c k x [] sp)(g:RoomB c k X.A)(i:Passes (DN X.prog X.w) X E)(j:Gl X x:=by rfl)(b:(x == ("__debug__":Str))=false:=by decide):
  PE X (.Call (.Name x p) [] [] pos) (AQ5 sp E):=by
 obtain ⟨f,fd,F,hm,l,hb⟩:=C.ex;intro a s m H Q d h;refine UZ (EY d j hm ?_ b);refine jM d.kIn l ?_;exact Ks F g hb d .nil h λ e s' h ht=>i a m H s e s' d h ht
end
theorem m5 {a b:TS}{f:Ends}{e:St}{H:Hp}(i:St->Hp->Prop)(g:∀nx:St->Hp->Prop,(∀c d,i c d->nx c d)->a { f with nx:=nx } e H)(h:∀c d,i c d->b f c d):tSeq a b f e H:=g (b f) h
theorem SqL.keepD {K:FrG}{H c:Hp}{a d:Addr}{xs:List V}{f:List (Key×V)}(h:SqL K H a xs)(hd:H d=some (.dK f))(s:∀b o,b≠d->H b=some o->c b=some o):SqL K c a xs:=by
 rcases h with (h | ⟨o,h⟩) | h
 ·exact .inl (.inl (s _ _ (λ e=>by rw [e,hd] at h;cases h) h))
 ·exact .inl (.inr ⟨o,s _ _ (λ e=>by rw [e,hd] at h;cases h) h⟩)
 ·exact .inr h
end L2
namespace Lib
open PySem L2 Fr Op Tx
theorem ZW {bs:List Addr}(m:Int)(h:(0:Int) < (((bs.map V.ref).length:Nat):Int)):∃j:Nat,m % (((bs.map V.ref).length:Nat):Int)=(j:Int)/\j < bs.length:=by
 have a:=uj m (Int.ne_of_gt h);have b:=xi m h;refine ⟨(m % (((bs.map V.ref).length:Nat):Int)).toNat,by omega,?_⟩
 rw [X9] at a b ⊢;omega
theorem Zq {K:FrG}{H:Hp}{C o dx d:Addr}{q:List Addr}{f:CZ}{n:Nat}{x st t:Str}{ps:List Pc}{Q:VK}{E:XK}{N:Ex71}(g:DkA K H q C o dx d f n)(h:∀a∈q,∃z,H a=some z)(i:n<=1000)(nx:Nm x)(c:Ci st=some ps)(ok:OkB ps)(j:t.length<=15000)(ht:t=Dn x st)
  (k:∀b,SD d H b->DkA K b q C o dx d (setB f x ps) (n+1)->Q (.str "ok") b):MP K C N [.ref o,.str t] H Q E:=by
 refine ⟨o,dx,d,q,t,f,n,rfl,g,h,i,j,.inl ⟨x,st,ht,nx,λ l e=>?_,λ e=>by rw [c] at e;cases e⟩⟩
 rw [c] at e;cases e
 exact ⟨ok,k⟩
theorem vd:Aa "bench long 31 times ( gap 1 )"=Dn (Aa "long") (Aa "31 times ( gap 1 )"):=by decide+kernel
theorem AH1:Aa "bench half 30 times ( gap 1 )"=Dn (Aa "half") (Aa "30 times ( gap 1 )"):=by decide+kernel
theorem t8 {z:Str}(h:z=Aa "unknown"\/z=Aa "text"\/z=Aa "box"\/z=Aa "bench"):(!PyData.eqv (.list [.str z]) (.list [.str z]))=false:=by
 rcases h with e | e | e | e<;>rw [e]<;>decide+kernel
theorem Yr {n:Str}(h:Nm n):(Aa "N" == n)=false/\(Aa "W" == n)=false:=by
 constructor
 ·refine beq_false_of_ne λ e=>?_
  have:=h.sg 78 (by decide+kernel)
  rw [<- e] at this;exact this (by decide+kernel)
 ·refine beq_false_of_ne λ e=>?_
  have:=h.sg 87 (by decide+kernel)
  rw [<- e] at this;exact this (by decide+kernel)
end Lib
namespace K71
open PySem L2 Lib Fr Op
seal PE PT PW PA PS PSs PG PGs PI PO
def top (i:Nat):Stmt:=PySem.Challenge.pw_grindbench_k71_refused_in_order.main.body.getD i (.Pass ⟨0,0,0,0⟩)
abbrev Qo:Stmt:=top 12
theorem zg:FnScope ["thing"] ["thing"] (defScope Qo):=by walk_at "s"
abbrev Uz:Stmt:=top 13
theorem JW:FnScope ["one","other","greater","lesser","rest"] ["one","other"] (defScope Uz):=by walk_at "s"
abbrev WQ:Stmt:=top 14
theorem Jc:FnScope ["thing","top","bottom"] ["thing"] (defScope WQ):=by walk_at "s"
abbrev T3:Stmt:=top 15
theorem W4:FnScope ["top","bottom","divisor"] ["top","bottom"] (defScope T3):=by walk_at "s"
abbrev WN:Stmt:=top 16
theorem lM:FnScope ["one","other"] ["one","other"] (defScope WN):=by walk_at "s"
abbrev Qg:Stmt:=top 17
theorem jZ:FnScope ["one","other"] ["one","other"] (defScope Qg):=by walk_at "s"
abbrev Td:Stmt:=top 18
theorem pR:FnScope ["one","other"] ["one","other"] (defScope Td):=by walk_at "s"
abbrev fL:Stmt:=top 19
abbrev Rx:Stmt:=top 20
theorem yG:FnScope ["one","other"] ["one","other"] (defScope Rx):=by walk_at "s"
abbrev Jq:Stmt:=top 30
theorem YC:FnScope ["thing"] ["thing"] (defScope Jq):=by walk_at "s"
abbrev U9:Stmt:=top 31
theorem vM:FnScope ["told"] ["told"] (defScope U9):=by walk_at "s"
abbrev Rh:Stmt:=top 32
theorem JV:FnScope ["bench","number","thing"] ["bench"] (defScope Rh):=by walk_at "s"
abbrev Wu:Stmt:=top 50
theorem mU:FnScope ["first","last"] ["first","last"] (defScope Wu):=by walk_at "s"
abbrev QW:Stmt:=top 51
theorem AL2:FnScope ["first","last"] ["first","last"] (defScope QW):=by walk_at "s"
abbrev Qj:Stmt:=top 52
theorem zW:FnScope ["thing"] ["thing"] (defScope Qj):=by walk_at "s"
abbrev Rn:Stmt:=top 53
theorem kZ:FnScope ["box"] ["box"] (defScope Rn):=by walk_at "s"
abbrev Rr:Stmt:=top 55
theorem GR:FnScope ["bench","limits","high","slanted","number","told","piece"] ["bench"] (defScope Rr):=by walk_at "s"
abbrev Vl:Stmt:=top 64
theorem Xp:FnScope ["bench","box","limits","corners","limit","edge"] ["bench","box"] (defScope Vl):=by walk_at "s"
abbrev Wi:Stmt:=top 68
theorem UL:FnScope ["one","top","bottom"] ["one"] (defScope Wi):=by walk_at "s"
abbrev Rz:Stmt:=top 69
theorem uM:FnScope ["text"] ["text"] (defScope Rz):=by walk_at "s"
abbrev K8:Stmt:=top 71
theorem Jj:FnScope ["text","is_below","parts","top","bottom","one"] ["text"] (defScope K8):=by walk_at "s"
abbrev Rp:Stmt:=top 81
theorem Yy:FnScope ["bench","lamp","first","last","limits","slants","limit"] ["bench","lamp","first","last"] (defScope Rp):=by walk_at "s"
abbrev Vx:Stmt:=top 88
theorem sE:FnScope ["thing"] ["thing"] (defScope Vx):=by walk_at "s"
abbrev RX:Stmt:=top 107
theorem RV:FnScope ["text","words","word"] ["text"] (defScope RX):=by walk_at "s"
abbrev SM:Stmt:=top 108
theorem zT:FnScope ["word"] ["word"] (defScope SM):=by walk_at "s"
abbrev Vr:Stmt:=top 110
theorem Yj:FnScope ["word","times"] ["word"] (defScope Vr):=by walk_at "s"
abbrev Rc:Stmt:=top 111
theorem U5:FnScope ["reader","word","deep","times","parts"] ["reader","word","deep"] (defScope Rc):=by walk_at "s"
abbrev Rk:Stmt:=top 112
theorem Py:FnScope ["reader","deep","word","low","high"] ["reader","deep"] (defScope Rk):=by walk_at "s"
abbrev QL:Stmt:=top 114
theorem VB:FnScope ["reader","deep","parts"] ["reader","deep"] (defScope QL):=by walk_at "s"
abbrev Wz:Stmt:=top 115
theorem G3:FnScope ["parts","count","part"] ["parts"] (defScope Wz):=by walk_at "s"
abbrev Qt:Stmt:=top 116
theorem Hv:FnScope ["parts","pieces","part"] ["parts"] (defScope Qt):=by walk_at "s"
abbrev W3:Stmt:=top 117
theorem Vv:FnScope ["text","reader","parts"] ["text"] (defScope W3):=by walk_at "s"
abbrev Vh:Stmt:=top 118
theorem uF:FnScope ["piece"] ["piece"] (defScope Vh):=by walk_at "s"
abbrev X4:Stmt:=top 119
theorem jy:FnScope ["bench"] ["bench"] (defScope X4):=by walk_at "s"
abbrev UW:Stmt:=top 121
theorem tE:FnScope ["bench"] ["bench"] (defScope UW):=by walk_at "s"
abbrev QM:Stmt:=top 127
theorem eG:FnScope ["bench","numbers"] ["bench","numbers"] (defScope QM):=by walk_at "s"
abbrev Qf:Stmt:=top 128
theorem zF:FnScope ["bench","numbers","walk"] ["bench","numbers"] (defScope Qf):=by walk_at "s"
abbrev T7:Stmt:=top 129
theorem oZ:FnScope ["bench","numbers"] ["bench","numbers"] (defScope T7):=by walk_at "s"
abbrev Uw:Stmt:=top 130
theorem lO:FnScope ["bench","numbers"] ["bench","numbers"] (defScope Uw):=by walk_at "s"
abbrev VP:Stmt:=top 131
theorem zm:FnScope ["bench","numbers","table","place"] ["bench","numbers"] (defScope VP):=by walk_at "s"
abbrev VR:Stmt:=top 132
theorem Uu:FnScope ["bench","numbers","corners"] ["bench","numbers"] (defScope VR):=by walk_at "s"
abbrev Vp:Stmt:=top 133
theorem Ly:FnScope ["bench","numbers","lamp","slants","places"] ["bench","numbers"] (defScope Vp):=by walk_at "s"
abbrev Tz:Stmt:=top 134
theorem ji:FnScope ["bench","numbers","rounds"] ["bench","numbers"] (defScope Tz):=by walk_at "s"
abbrev V5:Stmt:=top 136
theorem AI1:FnScope ["word"] ["word"] (defScope V5):=by walk_at "s"
abbrev UV:Stmt:=top 137
theorem AP3:FnScope ["word"] ["word"] (defScope UV):=by walk_at "s"
abbrev W0:Stmt:=top 139
theorem Lk:FnScope ["words","form","names","name","numbers"] ["words"] (defScope W0):=by walk_at "s"
abbrev UT:Stmt:=top 142
theorem rH:FnScope ["_law_script","_law_k"] ["_law_script","_law_k"] (defScope UT):=by walk_at "s"
abbrev Uj:Stmt:=top 143
theorem jP:FnScope ["_law_script","_law_start"] ["_law_script","_law_start"] (defScope Uj):=by walk_at "s"
abbrev We:Stmt:=top 144
theorem TJ:FnScope ["_law_drawn_here","_law_many","_law_cells","_law_number"] ["_law_drawn_here","_law_many"] (defScope We):=by walk_at "s"
abbrev QG:Stmt:=top 145
theorem O3:FnScope ["_law_top","_law_bottom","_law_one","_law_other"] ["_law_top","_law_bottom"] (defScope QG):=by walk_at "s"
abbrev W2:Stmt:=top 146
theorem uy:FnScope ["_law_one","_law_other"] ["_law_one","_law_other"] (defScope W2):=by walk_at "s"
abbrev KQ:Stmt:=top 147
theorem JQ:FnScope ["_law_drawn_here","_law_far","_law_top","_law_bottom"] ["_law_drawn_here","_law_far"] (defScope KQ):=by walk_at "s"
abbrev R0:Stmt:=top 148
theorem Js:FnScope ["_law_drawn_here","_law_far","_law_way","_law_one","_law_other"] ["_law_drawn_here","_law_far"] (defScope R0):=by walk_at "s"
abbrev Rw:Stmt:=top 149
theorem xU:FnScope ["_law_one","_law_other"] ["_law_one","_law_other"] (defScope Rw):=by walk_at "s"
abbrev W7:Stmt:=top 151
theorem xG:FnScope ["_law_one","_law_other"] ["_law_one","_law_other"] (defScope W7):=by walk_at "s"
abbrev T8:Stmt:=top 152
theorem K5:FnScope ["_law_number","_law_figures","_law_left"] ["_law_number"] (defScope T8):=by walk_at "s"
abbrev SQ:Stmt:=top 153
theorem iQ:FnScope ["_law_part_here"] ["_law_part_here"] (defScope SQ):=by walk_at "s"
abbrev TV:Stmt:=top 154
theorem mR:FnScope ["_law_piece_here"] ["_law_piece_here"] (defScope TV):=by walk_at "s"
abbrev WM:Stmt:=top 155
theorem vg:FnScope ["_law_bench"] ["_law_bench"] (defScope WM):=by walk_at "s"
abbrev Ql:Stmt:=top 156
theorem bJ:FnScope ["_law_number","_law_k","_law_letter","_law_at_here"] ["_law_number","_law_k"] (defScope Ql):=by walk_at "s"
abbrev Qx:Stmt:=top 157
theorem HD:FnScope ["_law_drawn_here","_law_many","_law_least","_law_found","_law_k","_law_bench","_law_j","_law_piece_here","_law_low_here"] ["_law_drawn_here","_law_many","_law_least"] (defScope Qx):=by walk_at "s"
abbrev Lz:Stmt:=top 158
theorem KZ:FnScope ["_law_drawn_here","_law_number","_law_least","_law_names_here","_law_benches_here","_law_desk","_law_k"] ["_law_drawn_here","_law_number","_law_least"] (defScope Lz):=by walk_at "s"
abbrev Uk:Stmt:=top 159
theorem Mp:FnScope ["_law_desk","_law_row","_law_found","_law_e"] ["_law_desk","_law_row"] (defScope Uk):=by walk_at "s"
abbrev Ru:Stmt:=top 160
theorem Jz:FnScope ["_law_e","_law_some","_law_words"] ["_law_e"] (defScope Ru):=by walk_at "s"
abbrev Tn:Stmt:=top 161
theorem Rm:FnScope ["_law_rows"] [] (defScope Tn):=by walk_at "s"
abbrev RL:Stmt:=top 162
theorem Hs:FnScope ["_law_rows","_law_texts","_law_text_here","_law_one"] [] (defScope RL):=by walk_at "s"
abbrev Wg:Stmt:=top 163
theorem Pq:FnScope ["_law_desk","_law_row","_law_at_here","_law_e"] ["_law_desk","_law_row"] (defScope Wg):=by walk_at "s"
abbrev X5:Stmt:=top 164
theorem ZJ:FnScope ["_law_desk","_law_names_here","_law_benches_here","_law_k"] ["_law_desk","_law_names_here","_law_benches_here"] (defScope X5):=by walk_at "s"
abbrev Kg:Stmt:=top 165
theorem Ek:FnScope ["_law_script","_law_drawn_here","_law_number","_law_desk","_law_names_here","_law_benches_here","_law_cell","_law_rows","_law_row","_law_word"] ["_law_script"] (defScope Kg):=by walk_at "s"
abbrev Kr:Stmt:=inClass (top 10) 0
theorem uh:FnScope ["self","at"] ["self","at"] (defScope Kr):=by walk_at "s"
abbrev KN:Stmt:=inClass (top 26) 1
theorem yt:FnScope ["self","ray"] ["self","ray"] (defScope KN):=by walk_at "s"
abbrev Ln:Stmt:=inClass (top 27) 0
theorem sI:FnScope ["self","length"] ["self","length"] (defScope Ln):=by walk_at "s"
abbrev Jw:Stmt:=inClass (top 27) 1
theorem pq:FnScope ["self","ray"] ["self","ray"] (defScope Jw):=by walk_at "s"
abbrev KD:Stmt:=inClass (top 28) 0
theorem pJ:FnScope ["self","strength"] ["self","strength"] (defScope KD):=by walk_at "s"
abbrev Kz:Stmt:=inClass (top 28) 1
theorem AK3:FnScope ["self","ray"] ["self","ray"] (defScope Kz):=by walk_at "s"
abbrev Le:Stmt:=inClass (top 29) 0
theorem qX:FnScope ["self","low","high"] ["self","low","high"] (defScope Le):=by walk_at "s"
abbrev LC:Stmt:=inClass (top 106) 0
theorem uQ:FnScope ["self","words"] ["self","words"] (defScope LC):=by walk_at "s"
abbrev LQ:Stmt:=inClass (top 106) 1
theorem iu:FnScope ["self"] ["self"] (defScope LQ):=by walk_at "s"
abbrev K4:Stmt:=inClass (top 106) 2
theorem jh:FnScope ["self"] ["self"] (defScope K4):=by walk_at "s"
abbrev Km:Stmt:=inClass (top 106) 3
theorem lJ:FnScope ["self","word"] ["self","word"] (defScope Km):=by walk_at "s"
abbrev Ld:Stmt:=inClass (top 140) 0
theorem v5:FnScope ["self"] ["self"] (defScope Ld):=by walk_at "s"
abbrev Lf:Stmt:=inClass (top 140) 1
theorem Og:FnScope ["self","row","words","read","names"] ["self","row"] (defScope Lf):=by walk_at "s"
abbrev Jv:Stmt:=inClass (top 140) 2
theorem fQ:FnScope ["self","row","words"] ["self","row"] (defScope Jv):=by walk_at "s"
abbrev Lq:Stmt:=inClass (top 140) 3
theorem aF:FnScope ["self","name"] ["self","name"] (defScope Lq):=by walk_at "s"
abbrev Kq:Stmt:=inClass (top 140) 4
theorem bR:FnScope ["self","name","bench"] ["self","name","bench"] (defScope Kq):=by walk_at "s"
structure Adr where
 z0:Nat:=0
 BenchError:Addr
 NoNumber:Addr
 NoText:Addr
 NoTable:Addr
 NoBox:Addr
 NoStock:Addr
 NoWish:Addr
 NoRow:Addr
 Unknown:Addr
 NoBench:Addr
 Piece:Addr
 Gap:Addr
 Glass:Addr
 Stop:Addr
 Reader:Addr
 Desk:Addr
 NOUGHT:Addr
 ONE:Addr
 LEAVING:Addr
 ROWS:Addr
 ROWS_join:Addr
 ROWS_turn:Addr
 ROWS_show:Addr
 ROWS_walk:Addr
 ROWS_table:Addr
 ROWS_apart:Addr
 ROWS_image:Addr
 ROWS_field:Addr
 ROWS_sharp:Addr
 ROWS_rounds:Addr
 ANSWERS:Addr
 ANSWERS_show:Addr
 ANSWERS_walk:Addr
 ANSWERS_table:Addr
 ANSWERS_apart:Addr
 ANSWERS_image:Addr
 ANSWERS_field:Addr
 ANSWERS_sharp:Addr
 ANSWERS_rounds:Addr
 tGAP:Tok
 tGLASS:Tok
 tSTOP:Tok
 tMOST_PIECES:Tok
 tFIGURES:Tok
 tMOST_FIGURES:Tok
 tPARTED:Tok
 tTIMES:Tok
 tOPENED:Tok
 tCLOSED:Tok
 tMOST_TIMES:Tok
 tMOST_DEEP:Tok
 tLETTERS:Tok
 tMOST_LETTERS:Tok
 tDONE:Tok
 tNONE:Tok
 pr:Mb
structure Exc (K:FrG)(mg:Str->Option Value)(ad:Adr):Prop where
 tt:True:=trivial
 m_BenchError:mg "BenchError"=some (.ref ad.BenchError)
 m_NoNumber:mg "NoNumber"=some (.ref ad.NoNumber)
 m_NoText:mg "NoText"=some (.ref ad.NoText)
 m_NoTable:mg "NoTable"=some (.ref ad.NoTable)
 m_NoBox:mg "NoBox"=some (.ref ad.NoBox)
 m_NoStock:mg "NoStock"=some (.ref ad.NoStock)
 m_NoWish:mg "NoWish"=some (.ref ad.NoWish)
 m_NoRow:mg "NoRow"=some (.ref ad.NoRow)
 m_Unknown:mg "Unknown"=some (.ref ad.Unknown)
 m_NoBench:mg "NoBench"=some (.ref ad.NoBench)
 M5:mg "Piece"=some (.ref ad.Piece)
 K6:mg "Gap"=some (.ref ad.Gap)
 Lp:mg "Glass"=some (.ref ad.Glass)
 Ls:mg "Stop"=some (.ref ad.Stop)
 Lh:mg "Reader"=some (.ref ad.Reader)
 Lg:mg "Desk"=some (.ref ad.Desk)
 m_GAP:mg "GAP"=some (.str "gap" ad.tGAP)
 z_GAP:ad.tGAP≠0
 m_GLASS:mg "GLASS"=some (.str "glass" ad.tGLASS)
 z_GLASS:ad.tGLASS≠0
 m_STOP:mg "STOP"=some (.str "stop" ad.tSTOP)
 z_STOP:ad.tSTOP≠0
 m_MOST_PIECES:mg "MOST_PIECES"=some (.int 60 ad.tMOST_PIECES)
 m_FIGURES:mg "FIGURES"=some (.str "0123456789" ad.tFIGURES)
 Nz:ad.tFIGURES≠0
 m_MOST_FIGURES:mg "MOST_FIGURES"=some (.int 15 ad.tMOST_FIGURES)
 m_PARTED:mg "PARTED"=some (.str ";" ad.tPARTED)
 z_PARTED:ad.tPARTED≠0
 m_TIMES:mg "TIMES"=some (.str "times" ad.tTIMES)
 z_TIMES:ad.tTIMES≠0
 m_OPENED:mg "OPENED"=some (.str "(" ad.tOPENED)
 z_OPENED:ad.tOPENED≠0
 m_CLOSED:mg "CLOSED"=some (.str ")" ad.tCLOSED)
 z_CLOSED:ad.tCLOSED≠0
 m_MOST_TIMES:mg "MOST_TIMES"=some (.int 60 ad.tMOST_TIMES)
 m_MOST_DEEP:mg "MOST_DEEP"=some (.int 4 ad.tMOST_DEEP)
 m_LETTERS:mg "LETTERS"=some (.str "abcdefghijklmnopqrstuvwxyz" ad.tLETTERS)
 O8:ad.tLETTERS≠0
 m_MOST_LETTERS:mg "MOST_LETTERS"=some (.int 8 ad.tMOST_LETTERS)
 m_DONE:mg "DONE"=some (.str "ok" ad.tDONE)
 z_DONE:ad.tDONE≠0
 Mz:mg "NONE"=some (.str "none" ad.tNONE)
 Pa:ad.tNONE≠0
 c_NoRow:ExcCls K mg "NoRow" ad.NoRow
 c_Unknown:ExcCls K mg "Unknown" ad.Unknown
 c_NoNumber:ExcCls K mg "NoNumber" ad.NoNumber
 c_NoText:ExcCls K mg "NoText" ad.NoText
 c_NoBox:ExcCls K mg "NoBox" ad.NoBox
 x_Unknown_BenchError:WZ K (.ref ad.Unknown) (.ref ad.BenchError)=some true
 x_NoText_BenchError:WZ K (.ref ad.NoText) (.ref ad.BenchError)=some true
 x_NoBox_BenchError:WZ K (.ref ad.NoBox) (.ref ad.BenchError)=some true
 x_NoBench_BenchError:WZ K (.ref ad.NoBench) (.ref ad.BenchError)=some true
 x_NoBench_NoBench:WZ K (.ref ad.NoBench) (.ref ad.NoBench)=some true
 x_NoNumber_NoNumber:WZ K (.ref ad.NoNumber) (.ref ad.NoNumber)=some true
 k_Unknown_NoBench:W1 K (.ref ad.Unknown) (.ref ad.NoBench)=some false
 k_Unknown_NoBox:W1 K (.ref ad.Unknown) (.ref ad.NoBox)=some false
 k_Unknown_ValueError:W1 K (.ref ad.Unknown) (.type "ValueError")=some true
 k_Unknown_NoNumber:W1 K (.ref ad.Unknown) (.ref ad.NoNumber)=some false
 k_Unknown_NoText:W1 K (.ref ad.Unknown) (.ref ad.NoText)=some false
 k_Unknown_NoTable:W1 K (.ref ad.Unknown) (.ref ad.NoTable)=some false
 k_Unknown_NoStock:W1 K (.ref ad.Unknown) (.ref ad.NoStock)=some false
 k_Unknown_NoWish:W1 K (.ref ad.Unknown) (.ref ad.NoWish)=some false
 k_Unknown_NoRow:W1 K (.ref ad.Unknown) (.ref ad.NoRow)=some false
 k_Unknown_Unknown:W1 K (.ref ad.Unknown) (.ref ad.Unknown)=some true
 k_NoText_NoBench:W1 K (.ref ad.NoText) (.ref ad.NoBench)=some false
 k_NoText_NoBox:W1 K (.ref ad.NoText) (.ref ad.NoBox)=some false
 k_NoText_ValueError:W1 K (.ref ad.NoText) (.type "ValueError")=some true
 k_NoText_NoNumber:W1 K (.ref ad.NoText) (.ref ad.NoNumber)=some false
 k_NoText_NoText:W1 K (.ref ad.NoText) (.ref ad.NoText)=some true
 k_NoText_NoTable:W1 K (.ref ad.NoText) (.ref ad.NoTable)=some false
 k_NoText_NoStock:W1 K (.ref ad.NoText) (.ref ad.NoStock)=some false
 k_NoText_NoWish:W1 K (.ref ad.NoText) (.ref ad.NoWish)=some false
 k_NoText_NoRow:W1 K (.ref ad.NoText) (.ref ad.NoRow)=some false
 k_NoText_Unknown:W1 K (.ref ad.NoText) (.ref ad.Unknown)=some false
 k_NoBox_NoBench:W1 K (.ref ad.NoBox) (.ref ad.NoBench)=some false
 k_NoBox_NoBox:W1 K (.ref ad.NoBox) (.ref ad.NoBox)=some true
 k_NoBox_ValueError:W1 K (.ref ad.NoBox) (.type "ValueError")=some true
 k_NoBox_NoNumber:W1 K (.ref ad.NoBox) (.ref ad.NoNumber)=some false
 k_NoBox_NoText:W1 K (.ref ad.NoBox) (.ref ad.NoText)=some false
 k_NoBox_NoTable:W1 K (.ref ad.NoBox) (.ref ad.NoTable)=some false
 k_NoBox_NoStock:W1 K (.ref ad.NoBox) (.ref ad.NoStock)=some false
 k_NoBox_NoWish:W1 K (.ref ad.NoBox) (.ref ad.NoWish)=some false
 k_NoBox_NoRow:W1 K (.ref ad.NoBox) (.ref ad.NoRow)=some false
 k_NoBox_Unknown:W1 K (.ref ad.NoBox) (.ref ad.Unknown)=some false
 k_NoBench_NoBench:W1 K (.ref ad.NoBench) (.ref ad.NoBench)=some true
 k_NoBench_NoBox:W1 K (.ref ad.NoBench) (.ref ad.NoBox)=some false
 k_NoBench_ValueError:W1 K (.ref ad.NoBench) (.type "ValueError")=some true
 k_NoBench_NoNumber:W1 K (.ref ad.NoBench) (.ref ad.NoNumber)=some false
 k_NoBench_NoText:W1 K (.ref ad.NoBench) (.ref ad.NoText)=some false
 k_NoBench_NoTable:W1 K (.ref ad.NoBench) (.ref ad.NoTable)=some false
 k_NoBench_NoStock:W1 K (.ref ad.NoBench) (.ref ad.NoStock)=some false
 k_NoBench_NoWish:W1 K (.ref ad.NoBench) (.ref ad.NoWish)=some false
 k_NoBench_NoRow:W1 K (.ref ad.NoBench) (.ref ad.NoRow)=some false
 k_NoBench_Unknown:W1 K (.ref ad.NoBench) (.ref ad.Unknown)=some false
 e_Unknown:ExcK K ad.Unknown
 e_NoText:ExcK K ad.NoText
 e_NoBox:ExcK K ad.NoBox
 e_NoBench:ExcK K ad.NoBench
 l_Gap:Cls K ad.Gap
 i_Gap:MkFn K mg "Gap" ad.Gap "Gap.__init__" Ln
 q_Gap_bent:MtFn K ad.Gap "bent" "Gap.bent" Jw
 n_Gap_length:NoAttr K ad.Gap "length"
 l_Glass:Cls K ad.Glass
 i_Glass:MkFn K mg "Glass" ad.Glass "Glass.__init__" KD
 q_Glass_bent:MtFn K ad.Glass "bent" "Glass.bent" Kz
 n_Glass_strength:NoAttr K ad.Glass "strength"
 l_Stop:Cls K ad.Stop
 i_Stop:MkFn K mg "Stop" ad.Stop "Stop.__init__" Le
 q_Stop_bent:MtFn K ad.Stop "bent" "Piece.bent" KN
 n_Stop_low:NoAttr K ad.Stop "low"
 n_Stop_high:NoAttr K ad.Stop "high"
 l_Reader:Cls K ad.Reader
 i_Reader:MkFn K mg "Reader" ad.Reader "Reader.__init__" LC
 q_Reader_is_done:MtFn K ad.Reader "is_done" "Reader.is_done" LQ
 q_Reader_take:MtFn K ad.Reader "take" "Reader.take" K4
 q_Reader_take_if:MtFn K ad.Reader "take_if" "Reader.take_if" Km
 n_Reader_words:NoAttr K ad.Reader "words"
 n_Reader_place:NoAttr K ad.Reader "place"
 l_Desk:Cls K ad.Desk
 i_Desk:MkFn K mg "Desk" ad.Desk "Desk.__init__" Ld
 q_Desk_say:MtFn K ad.Desk "say" "Desk.say" Lf
 q_Desk_lay:MtFn K ad.Desk "lay" "Desk.lay" Jv
 q_Desk_bench_by:MtFn K ad.Desk "bench_by" "Desk.bench_by" Lq
 q_Desk_keep:MtFn K ad.Desk "keep" "Desk.keep" Kq
 n_Desk_benches:NoAttr K ad.Desk "benches"
 j_NoBench:XFn K mg "NoBench" ad.NoBench ad.BenchError "NoBench.__init__" Kr
 m_NOUGHT:mg "NOUGHT"=some (.ref ad.NOUGHT)
 s_NOUGHT:∀H:Hp,SqT K H ad.NOUGHT [.int 0,.int 1]
 m_ONE:mg "ONE"=some (.ref ad.ONE)
 s_ONE:∀H:Hp,SqT K H ad.ONE [.int 1,.int 1]
 Ph:mg "LEAVING"=some (.ref ad.LEAVING)
 AR3:∀H:Hp,SqT K H ad.LEAVING [.ref ad.ONE,.ref ad.NOUGHT,.ref ad.NOUGHT,.ref ad.ONE]
 m_ROWS:mg "ROWS"=some (.ref ad.ROWS)
 g_ROWS:∀(P:ZU) (w:World),w.params=ad.pr->DKG P w K ad.ROWS (Cd [("join",V.ref ad.ROWS_join),("turn",V.ref ad.ROWS_turn),("show",V.ref ad.ROWS_show),("walk",V.ref ad.ROWS_walk),("table",V.ref ad.ROWS_table),("apart",V.ref ad.ROWS_apart),("image",V.ref ad.ROWS_image),("field",V.ref ad.ROWS_field),("sharp",V.ref ad.ROWS_sharp),("rounds",V.ref ad.ROWS_rounds)])
 s_ROWS_join:∀H:Hp,SqT K H ad.ROWS_join [.int 3,.int 0]
 s_ROWS_turn:∀H:Hp,SqT K H ad.ROWS_turn [.int 2,.int 0]
 s_ROWS_show:∀H:Hp,SqT K H ad.ROWS_show [.int 1,.int 0]
 s_ROWS_walk:∀H:Hp,SqT K H ad.ROWS_walk [.int 1,.int 2]
 s_ROWS_table:∀H:Hp,SqT K H ad.ROWS_table [.int 1,.int 0]
 s_ROWS_apart:∀H:Hp,SqT K H ad.ROWS_apart [.int 1,.int 0]
 s_ROWS_image:∀H:Hp,SqT K H ad.ROWS_image [.int 1,.int 1]
 s_ROWS_field:∀H:Hp,SqT K H ad.ROWS_field [.int 1,.int 4]
 s_ROWS_sharp:∀H:Hp,SqT K H ad.ROWS_sharp [.int 1,.int 5]
 s_ROWS_rounds:∀H:Hp,SqT K H ad.ROWS_rounds [.int 1,.int 0]
 m_ANSWERS:mg "ANSWERS"=some (.ref ad.ANSWERS)
 f_ANSWERS_show:mg "show_answer"=some (.ref ad.ANSWERS_show)
 f_ANSWERS_walk:mg "walk_answer"=some (.ref ad.ANSWERS_walk)
 f_ANSWERS_table:mg "table_answer"=some (.ref ad.ANSWERS_table)
 f_ANSWERS_apart:mg "apart_answer"=some (.ref ad.ANSWERS_apart)
 f_ANSWERS_image:mg "image_answer"=some (.ref ad.ANSWERS_image)
 f_ANSWERS_field:mg "field_answer"=some (.ref ad.ANSWERS_field)
 f_ANSWERS_sharp:mg "sharp_answer"=some (.ref ad.ANSWERS_sharp)
 f_ANSWERS_rounds:mg "rounds_answer"=some (.ref ad.ANSWERS_rounds)
 g_ANSWERS:∀(P:ZU) (w:World),w.params=ad.pr->DKG P w K ad.ANSWERS (Cd [("show",V.ref ad.ANSWERS_show),("walk",V.ref ad.ANSWERS_walk),("table",V.ref ad.ANSWERS_table),("apart",V.ref ad.ANSWERS_apart),("image",V.ref ad.ANSWERS_image),("field",V.ref ad.ANSWERS_field),("sharp",V.ref ad.ANSWERS_sharp),("rounds",V.ref ad.ANSWERS_rounds)])
structure Txt (K:FrG)(mg:Str->Option Value)(ad:Adr):Prop where
 ex:Exc K mg ad
 ValueError:mg "ValueError"=none
 abs:mg "abs"=none
 all:mg "all"=none
 bool:mg "bool"=none
 enumerate:mg "enumerate"=none
 int:mg "int"=none
 isinstance:mg "isinstance"=none
 len:mg "len"=none
 list:mg "list"=none
 range:mg "range"=none
 reversed:mg "reversed"=none
 str:mg "str"=none
 tuple:mg "tuple"=none
 zip:mg "zip"=none
 WT:TopFn K mg "is_whole" Qo
 U0:TopFn K mg "common_divisor" Uz
 Pb:TopFn K mg "is_ratio" WQ
 Tj:TopFn K mg "ratio_of" T3
 Sq:TopFn K mg "sum_of" WN
 WR:TopFn K mg "less_by" Qg
 TX:TopFn K mg "product_of" Td
 cT:TopFn K mg "quotient_of" fL
 Wk:TopFn K mg "is_less" Rx
 Nb:TopFn K mg "is_piece" Jq
 Tw:TopFn K mg "piece_of" U9
 Ol:TopFn K mg "look_at" Rh
 Vo:TopFn K mg "is_stretch" Wu
 Tf:TopFn K mg "look_at_stretch" QW
 Vu:TopFn K mg "is_box" Qj
 Vm:TopFn K mg "look_at_box" Rn
 RK:TopFn K mg "limits_of" Rr
 S6:TopFn K mg "field_of" Vl
 RQ:TopFn K mg "show_ratio" Wi
 V3:TopFnA K mg "read_part_figures" "read_part" Rz
 RZ:TopFn K mg "read_ratio" K8
 WL:TopFn K mg "slants_of" Rp
 Va:TopFn K mg "is_name" Vx
 Ro:TopFn K mg "words_of" RX
 T6:TopFnA K mg "read_number_texts" "read_number" SM
 QK:TopFn K mg "read_times" Vr
 Ue:TopFn K mg "read_round" Rc
 Sx:TopFnA K mg "read_part_texts" "read_part" Rk
 Nj:TopFn K mg "read_parts" QL
 K1:TopFn K mg "count_of" Wz
 Lb:TopFn K mg "told_out" Qt
 U3:TopFn K mg "read_bench" W3
 Ul:TopFn K mg "show_piece" Vh
 Ws:TopFn K mg "show_bench" X4
 WF:TopFn K mg "turned_bench" UW
 QB:TopFn K mg "show_answer" QM
 Wx:TopFn K mg "walk_answer" Qf
 V7:TopFn K mg "table_answer" T7
 RP:TopFn K mg "apart_answer" Uw
 Wd:TopFn K mg "image_answer" VP
 N7:TopFn K mg "field_answer" VR
 Ov:TopFn K mg "sharp_answer" Vp
 W9:TopFn K mg "rounds_answer" Tz
 Ss:TopFn K mg "look_at_name" V5
 Ko:TopFnA K mg "read_number_desk" "read_number" UV
 V1:TopFn K mg "read_row" W0
 V9:TopFn K mg "_law_cell_at" UT
 QT:TopFn K mg "_law_drawn" Uj
 SJ:TopFn K mg "_law_draw" We
 Wl:TopFn K mg "_law_low" QG
 Wm:TopFn K mg "_law_under" W2
 Wa:TopFn K mg "_law_part" KQ
 QS:TopFn K mg "_law_piece" R0
 WX:TopFn K mg "_law_plus" Rw
 WD:TopFn K mg "_law_less" W7
 TF:TopFn K mg "_law_written" T8
 TY:TopFn K mg "_law_shown" SQ
 W5:TopFn K mg "_law_piece_text" TV
 Uy:TopFn K mg "_law_text" WM
 RG:TopFn K mg "_law_called" Ql
 Wt:TopFn K mg "_law_benches" Qx
 WK:TopFn K mg "_law_laid" Lz
 V6:TopFn K mg "_law_class" Uk
 T4:TopFn K mg "_law_names" Ru
 Vw:TopFn K mg "_law_unknown" Tn
 QV:TopFn K mg "_law_others" RL
 TQ:TopFn K mg "_law_at" Wg
 Us:TopFn K mg "_law_stands" X5
theorem yM {K:FrG}{h:Heap}{mg:Str->Option Value}{e g c n d o B C b a K1 D j k f i U t9 e4 t8 a4 a5 a6 a7 O Q R S T E a8 u v p q r s t l:Addr}{K2:ClassData}{M2:ClassData}{M6:ClassData}{K3:ClassData}{tGAP:Tok}{tGLASS:Tok}{tSTOP:Tok}{tMOST_PIECES:Tok}{tFIGURES:Tok}{tMOST_FIGURES:Tok}{tPARTED:Tok}{tTIMES:Tok}{tOPENED:Tok}{tCLOSED:Tok}{tMOST_TIMES:Tok}{tMOST_DEEP:Tok}{tLETTERS:Tok}{tMOST_LETTERS:Tok}{tDONE:Tok}{tNONE:Tok}{N3:Addr}{B0:Value}{B1 B2:Option Addr}{B3:Array (Option Value)}{B4 B5 B6 d7 B7:Value}{N4:Addr}{B8:Value}{B9 C0:Option Addr}{C1:Array (Option Value)}{C2 C3 C4 d8 C5:Value}{N5:Addr}{o8:Value}{o9 p0:Option Addr}{p1:Array (Option Value)}{p2 p3 p4 a9 p5:Value}{N6:Addr}{p6:Value}{p7 p8:Option Addr}{p9:Array (Option Value)}{q0 q1 q2 b0 q3:Value}{N7:Addr}{u0:Value}{u1 u2:Option Addr}{u3:Array (Option Value)}{u4 u5 u6 b2 u7:Value}{N8:Addr}{u8:Value}{u9 v0:Option Addr}{v1:Array (Option Value)}{v2 v3 v4 b3 v5:Value}{N9:Addr}{l2:Value}{l3 l4:Option Addr}{l5:Array (Option Value)}{l6 l7 l8 V l9:Value}{O0:Addr}{b8:Value}{b9 c0:Option Addr}{c1:Array (Option Value)}{c2 c3 c4 x c5:Value}{O1:Addr}{m0:Value}{m1 m2:Option Addr}{m3:Array (Option Value)}{m4 m5 m6 Y m7:Value}{O2:Addr}{c6:Value}{c7 c8:Option Addr}{c9:Array (Option Value)}{d0 d1 d2 y d3:Value}{O3:Addr}{v6:Value}{v7 v8:Option Addr}{v9:Array (Option Value)}{w0 w1 w2 b4 w3:Value}{O4:Addr}{C6:Value}{C7 C8:Option Addr}{C9:Array (Option Value)}{D0 D1 D2 d9 D3:Value}{O5:Addr}{D4:Value}{D5 D6:Option Addr}{D7:Array (Option Value)}{D8 D9 E0 e0 E1:Value}{O6:Addr}{e5:Value}{e6 e7:Option Addr}{e8:Array (Option Value)}{e9 f0 f1 F f2:Value}{O7:Addr}{w4:Value}{w5 w6:Option Addr}{w7:Array (Option Value)}{w8 w9 x0 b5 x1:Value}{O9:Addr}{g8:Value}{g9 h0:Option Addr}{h1:Array (Option Value)}{h2 h3 h4 I h5:Value}{h6 h7:Str}{m8:Addr}{h8 f3:List Value}{h9:List Str}{i0:Bool}{f4:Option Bool}{i1:Option Addr}{i2 i3 i4 i5 i6:Option Value}{E2:Tok}{E3:Tok}{K5:Option Addr}{K7:Nat}{K8:Array (Option Value)}{M3:Tok}{M4:Tok}{M9:Option Addr}{N0:Nat}{N1:Array (Option Value)}{H9:Option Addr}{I0:Nat}{I1:Array (Option Value)}{P1:Int}{x2:Tok}{P2:Int}{x3:Tok}{P3:Int}{x4:Tok}{P4:Int}{x5:Tok}{P5:Int}{q4:Tok}{P6:Int}{q5:Tok}{P7:Int}{q6:Tok}{P8:Int}{q7:Tok}{P9:Int}{q8:Tok}{Q0:Int}{m9:Tok}{M7:Nat}{n0:Tok}{n1:Tok}{x6:Option Addr}{x7:Nat}{x8:Array (Option Value)}{n2:Tok}{n3:Tok}{x9:Option Addr}{y0:Nat}{y1:Array (Option Value)}{n4:Tok}{n5:Tok}{y2:Option Addr}{y3:Nat}{y4:Array (Option Value)}{n6:Tok}{n7:Tok}{y5:Option Addr}{y6:Nat}{y7:Array (Option Value)}{i7:Tok}{i8:Tok}{q9:Option Addr}{r0:Nat}{r1:Array (Option Value)}{i9:Tok}{j0:Tok}{r2:Option Addr}{r3:Nat}{r4:Array (Option Value)}{j1:Tok}{j2:Tok}{r5:Option Addr}{r6:Nat}{r7:Array (Option Value)}{j3:Tok}{j4:Tok}{r8:Option Addr}{r9:Nat}{s0:Array (Option Value)}{j5:Tok}{j6:Tok}{s1:Option Addr}{s2:Nat}{s3:Array (Option Value)}{f5:Tok}{f6:Tok}{n8:Option Addr}{n9:Nat}{o0:Array (Option Value)}{Q1:Int}{j7:Tok}{Q2:Int}{j8:Tok}{Q3:Int}{f7:Tok}{Q4:Int}{f8:Tok}{Q5:Int}{f9:Tok}{Q6:Int}{g0:Tok}{Q7:Int}{g1:Tok}{Q8:Int}{d4:Tok}{I2:Nat}(pr:Mb)(X:K.In h)(m:h.Ns ZY mg)(m_BenchError:YA K ZY "BenchError"=some (some (.ref e)))(m_NoNumber:YA K ZY "NoNumber"=some (some (.ref g)))(m_NoText:YA K ZY "NoText"=some (some (.ref c)))(m_NoTable:YA K ZY "NoTable"=some (some (.ref n)))(m_NoBox:YA K ZY "NoBox"=some (some (.ref d)))(m_NoStock:YA K ZY "NoStock"=some (some (.ref o)))(m_NoWish:YA K ZY "NoWish"=some (some (.ref B)))(m_NoRow:YA K ZY "NoRow"=some (some (.ref C)))(m_Unknown:YA K ZY "Unknown"=some (some (.ref b)))(m_NoBench:YA K ZY "NoBench"=some (some (.ref a)))(M5:YA K ZY "Piece"=some (some (.ref K1)))(K6:YA K ZY "Gap"=some (some (.ref D)))(Lp:YA K ZY "Glass"=some (some (.ref j)))(Ls:YA K ZY "Stop"=some (some (.ref k)))(Lh:YA K ZY "Reader"=some (some (.ref f)))(Lg:YA K ZY "Desk"=some (some (.ref i)))(m_GAP:YA K ZY "GAP"=some (some (.str "gap" tGAP)))(z_GAP:tGAP≠0)(m_GLASS:YA K ZY "GLASS"=some (some (.str "glass" tGLASS)))(z_GLASS:tGLASS≠0)(m_STOP:YA K ZY "STOP"=some (some (.str "stop" tSTOP)))(z_STOP:tSTOP≠0)(m_MOST_PIECES:YA K ZY "MOST_PIECES"=some (some (.int 60 tMOST_PIECES)))(m_FIGURES:YA K ZY "FIGURES"=some (some (.str "0123456789" tFIGURES)))(Nz:tFIGURES≠0)(m_MOST_FIGURES:YA K ZY "MOST_FIGURES"=some (some (.int 15 tMOST_FIGURES)))(m_PARTED:YA K ZY "PARTED"=some (some (.str ";" tPARTED)))(z_PARTED:tPARTED≠0)(m_TIMES:YA K ZY "TIMES"=some (some (.str "times" tTIMES)))(z_TIMES:tTIMES≠0)(m_OPENED:YA K ZY "OPENED"=some (some (.str "(" tOPENED)))(z_OPENED:tOPENED≠0)(m_CLOSED:YA K ZY "CLOSED"=some (some (.str ")" tCLOSED)))(z_CLOSED:tCLOSED≠0)(m_MOST_TIMES:YA K ZY "MOST_TIMES"=some (some (.int 60 tMOST_TIMES)))(m_MOST_DEEP:YA K ZY "MOST_DEEP"=some (some (.int 4 tMOST_DEEP)))(m_LETTERS:YA K ZY "LETTERS"=some (some (.str "abcdefghijklmnopqrstuvwxyz" tLETTERS)))(O8:tLETTERS≠0)(m_MOST_LETTERS:YA K ZY "MOST_LETTERS"=some (some (.int 8 tMOST_LETTERS)))(m_DONE:YA K ZY "DONE"=some (some (.str "ok" tDONE)))(z_DONE:tDONE≠0)(Mz:YA K ZY "NONE"=some (some (.str "none" tNONE)))(Pa:tNONE≠0)(Q9:zD K C [.type "ValueError",.type "Exception",.type "BaseException",.type "object"] "ValueError.__new__"=true)(R0:zD K b [.type "ValueError",.type "Exception",.type "BaseException",.type "object"] "ValueError.__new__"=true)(R1:zD K g [.type "ValueError",.type "Exception",.type "BaseException",.type "object"] "ValueError.__new__"=true)(R2:zD K c [.type "ValueError",.type "Exception",.type "BaseException",.type "object"] "ValueError.__new__"=true)(R3:zD K d [.type "ValueError",.type "Exception",.type "BaseException",.type "object"] "ValueError.__new__"=true)(x_Unknown_BenchError:WZ K (.ref b) (.ref e)=some true)(x_NoText_BenchError:WZ K (.ref c) (.ref e)=some true)(x_NoBox_BenchError:WZ K (.ref d) (.ref e)=some true)(x_NoBench_BenchError:WZ K (.ref a) (.ref e)=some true)(x_NoBench_NoBench:WZ K (.ref a) (.ref a)=some true)(x_NoNumber_NoNumber:WZ K (.ref g) (.ref g)=some true)(k_Unknown_NoBench:W1 K (.ref b) (.ref a)=some false)(k_Unknown_NoBox:W1 K (.ref b) (.ref d)=some false)(k_Unknown_ValueError:W1 K (.ref b) (.type "ValueError")=some true)(k_Unknown_NoNumber:W1 K (.ref b) (.ref g)=some false)(k_Unknown_NoText:W1 K (.ref b) (.ref c)=some false)(k_Unknown_NoTable:W1 K (.ref b) (.ref n)=some false)(k_Unknown_NoStock:W1 K (.ref b) (.ref o)=some false)(k_Unknown_NoWish:W1 K (.ref b) (.ref B)=some false)(k_Unknown_NoRow:W1 K (.ref b) (.ref C)=some false)(k_Unknown_Unknown:W1 K (.ref b) (.ref b)=some true)(k_NoText_NoBench:W1 K (.ref c) (.ref a)=some false)(k_NoText_NoBox:W1 K (.ref c) (.ref d)=some false)(k_NoText_ValueError:W1 K (.ref c) (.type "ValueError")=some true)(k_NoText_NoNumber:W1 K (.ref c) (.ref g)=some false)(k_NoText_NoText:W1 K (.ref c) (.ref c)=some true)(k_NoText_NoTable:W1 K (.ref c) (.ref n)=some false)(k_NoText_NoStock:W1 K (.ref c) (.ref o)=some false)(k_NoText_NoWish:W1 K (.ref c) (.ref B)=some false)(k_NoText_NoRow:W1 K (.ref c) (.ref C)=some false)(k_NoText_Unknown:W1 K (.ref c) (.ref b)=some false)(k_NoBox_NoBench:W1 K (.ref d) (.ref a)=some false)(k_NoBox_NoBox:W1 K (.ref d) (.ref d)=some true)(k_NoBox_ValueError:W1 K (.ref d) (.type "ValueError")=some true)(k_NoBox_NoNumber:W1 K (.ref d) (.ref g)=some false)(k_NoBox_NoText:W1 K (.ref d) (.ref c)=some false)(k_NoBox_NoTable:W1 K (.ref d) (.ref n)=some false)(k_NoBox_NoStock:W1 K (.ref d) (.ref o)=some false)(k_NoBox_NoWish:W1 K (.ref d) (.ref B)=some false)(k_NoBox_NoRow:W1 K (.ref d) (.ref C)=some false)(k_NoBox_Unknown:W1 K (.ref d) (.ref b)=some false)(k_NoBench_NoBench:W1 K (.ref a) (.ref a)=some true)(k_NoBench_NoBox:W1 K (.ref a) (.ref d)=some false)(k_NoBench_ValueError:W1 K (.ref a) (.type "ValueError")=some true)(k_NoBench_NoNumber:W1 K (.ref a) (.ref g)=some false)(k_NoBench_NoText:W1 K (.ref a) (.ref c)=some false)(k_NoBench_NoTable:W1 K (.ref a) (.ref n)=some false)(k_NoBench_NoStock:W1 K (.ref a) (.ref o)=some false)(k_NoBench_NoWish:W1 K (.ref a) (.ref B)=some false)(k_NoBench_NoRow:W1 K (.ref a) (.ref C)=some false)(k_NoBench_Unknown:W1 K (.ref a) (.ref b)=some false)(E4:GU K b=some K2)(E5:ZH K (.ref b) "__getattribute__"=some (some (.builtin "BaseException.__getattribute__")))(E6:ZH K (.ref b) "__getattr__"=some none)(E7:ZH K (.ref b) "__class__"=some (some (.builtin "object.__class__")))(E8:zb K (.builtin "object.__class__") "__get__"=some (some (.builtin "getset_descriptor.__get__")))(E9:ud K (.builtin "object.__class__")=some true)(F0:JY K b (.type "object")=some true)(F1:JY K b (.type "BaseException")=some true)(I3:GU K c=some M2)(I4:ZH K (.ref c) "__getattribute__"=some (some (.builtin "BaseException.__getattribute__")))(I5:ZH K (.ref c) "__getattr__"=some none)(I6:ZH K (.ref c) "__class__"=some (some (.builtin "object.__class__")))(I7:zb K (.builtin "object.__class__") "__get__"=some (some (.builtin "getset_descriptor.__get__")))(I8:ud K (.builtin "object.__class__")=some true)(I9:JY K c (.type "object")=some true)(J0:JY K c (.type "BaseException")=some true)(K9:GU K d=some M6)(L0:ZH K (.ref d) "__getattribute__"=some (some (.builtin "BaseException.__getattribute__")))(L1:ZH K (.ref d) "__getattr__"=some none)(L2:ZH K (.ref d) "__class__"=some (some (.builtin "object.__class__")))(L3:zb K (.builtin "object.__class__") "__get__"=some (some (.builtin "getset_descriptor.__get__")))(L4:ud K (.builtin "object.__class__")=some true)(L5:JY K d (.type "object")=some true)(L6:JY K d (.type "BaseException")=some true)(F2:GU K a=some K3)(F3:ZH K (.ref a) "__getattribute__"=some (some (.builtin "BaseException.__getattribute__")))(F4:ZH K (.ref a) "__getattr__"=some none)(F5:ZH K (.ref a) "__class__"=some (some (.builtin "object.__class__")))(F6:zb K (.builtin "object.__class__") "__get__"=some (some (.builtin "getset_descriptor.__get__")))(F7:ud K (.builtin "object.__class__")=some true)(F8:JY K a (.type "object")=some true)(F9:JY K a (.type "BaseException")=some true)(L7:QP K D Fk=true)(L8:UM K D=true)(L9:zX K D=true)(M0:ZH K (.ref D) "__setattr__"=some (some (.builtin "object.__setattr__")))(G0:xw K D=true)(J1:ZH K (.ref D) "__init__"=some (some (.ref N3)))(G1:UB K (.ref N3)=true)(G2:YJ K (.ref D)=true)(J2:K.lookup N3=some ⟨B0,B1,.func (YR "__init__" "Gap.__init__" (defArgs Ln) (defBody Ln) (defScope Ln) .none B4 B5 B6 B2 d7 B7),B3⟩)(R4:Wp K d7 "Gap.__init__"=true)(G3:YJ K (.ref N3)=true)(J3:ZH K (.ref D) "bent"=some (some (.ref N4)))(G4:UB K (.ref N4)=true)(e1:YJ K (.ref N4)=true)(J4:K.lookup N4=some ⟨B8,B9,.func (YR "bent" "Gap.bent" (defArgs Jw) (defBody Jw) (defScope Jw) .none C2 C3 C4 C0 d8 C5),C1⟩)(R5:Wp K d8 "Gap.bent"=true)(n_Gap_length:ZH K (.ref D) "length"=some none)(y8:QP K j Fk=true)(y9:UM K j=true)(z0:zX K j=true)(z1:ZH K (.ref j) "__setattr__"=some (some (.builtin "object.__setattr__")))(s4:xw K j=true)(z2:ZH K (.ref j) "__init__"=some (some (.ref N5)))(s5:UB K (.ref N5)=true)(s6:YJ K (.ref j)=true)(z3:K.lookup N5=some ⟨o8,o9,.func (YR "__init__" "Glass.__init__" (defArgs KD) (defBody KD) (defScope KD) .none p2 p3 p4 p0 a9 p5),p1⟩)(R6:Wp K a9 "Glass.__init__"=true)(s7:YJ K (.ref N5)=true)(z4:ZH K (.ref j) "bent"=some (some (.ref N6)))(s8:UB K (.ref N6)=true)(b1:YJ K (.ref N6)=true)(z5:K.lookup N6=some ⟨p6,p7,.func (YR "bent" "Glass.bent" (defArgs Kz) (defBody Kz) (defScope Kz) .none q0 q1 q2 p8 b0 q3),p9⟩)(R7:Wp K b0 "Glass.bent"=true)(n_Glass_strength:ZH K (.ref j) "strength"=some none)(H5:QP K k Fk=true)(H6:UM K k=true)(H7:zX K k=true)(H8:ZH K (.ref k) "__setattr__"=some (some (.builtin "object.__setattr__")))(z6:xw K k=true)(G5:ZH K (.ref k) "__init__"=some (some (.ref N7)))(z7:UB K (.ref N7)=true)(z8:YJ K (.ref k)=true)(G6:K.lookup N7=some ⟨u0,u1,.func (YR "__init__" "Stop.__init__" (defArgs Le) (defBody Le) (defScope Le) .none u4 u5 u6 u2 b2 u7),u3⟩)(R8:Wp K b2 "Stop.__init__"=true)(z9:YJ K (.ref N7)=true)(G7:ZH K (.ref k) "bent"=some (some (.ref N8)))(A0:UB K (.ref N8)=true)(b6:YJ K (.ref N8)=true)(G8:K.lookup N8=some ⟨u8,u9,.func (YR "bent" "Piece.bent" (defArgs KN) (defBody KN) (defScope KN) .none v2 v3 v4 v0 b3 v5),v1⟩)(R9:Wp K b3 "Piece.bent"=true)(n_Stop_low:ZH K (.ref k) "low"=some none)(n_Stop_high:ZH K (.ref k) "high"=some none)(J:QP K f Fk=true)(L:UM K f=true)(M:zX K f=true)(N:ZH K (.ref f) "__setattr__"=some (some (.builtin "object.__setattr__")))(o1:xw K f=true)(s9:ZH K (.ref f) "__init__"=some (some (.ref N9)))(o2:UB K (.ref N9)=true)(o3:YJ K (.ref f)=true)(t0:K.lookup N9=some ⟨l2,l3,.func (YR "__init__" "Reader.__init__" (defArgs LC) (defBody LC) (defScope LC) .none l6 l7 l8 l4 V l9),l5⟩)(S0:Wp K V "Reader.__init__"=true)(o4:YJ K (.ref N9)=true)(g2:ZH K (.ref f) "is_done"=some (some (.ref O0)))(d5:UB K (.ref O0)=true)(z:YJ K (.ref O0)=true)(g3:K.lookup O0=some ⟨b8,b9,.func (YR "is_done" "Reader.is_done" (defArgs LQ) (defBody LQ) (defScope LQ) .none c2 c3 c4 c0 x c5),c1⟩)(S1:Wp K x "Reader.is_done"=true)(t1:ZH K (.ref f) "take"=some (some (.ref O1)))(o5:UB K (.ref O1)=true)(Z:YJ K (.ref O1)=true)(t2:K.lookup O1=some ⟨m0,m1,.func (YR "take" "Reader.take" (defArgs K4) (defBody K4) (defScope K4) .none m4 m5 m6 m2 Y m7),m3⟩)(S2:Wp K Y "Reader.take"=true)(g4:ZH K (.ref f) "take_if"=some (some (.ref O2)))(d6:UB K (.ref O2)=true)(A:YJ K (.ref O2)=true)(g5:K.lookup O2=some ⟨c6,c7,.func (YR "take_if" "Reader.take_if" (defArgs Km) (defBody Km) (defScope Km) .none d0 d1 d2 c8 y d3),c9⟩)(S3:Wp K y "Reader.take_if"=true)(n_Reader_words:ZH K (.ref f) "words"=some none)(n_Reader_place:ZH K (.ref f) "place"=some none)(a0:QP K i Fk=true)(a1:UM K i=true)(a2:zX K i=true)(a3:ZH K (.ref i) "__setattr__"=some (some (.builtin "object.__setattr__")))(A1:xw K i=true)(G9:ZH K (.ref i) "__init__"=some (some (.ref O3)))(A2:UB K (.ref O3)=true)(A3:YJ K (.ref i)=true)(H0:K.lookup O3=some ⟨v6,v7,.func (YR "__init__" "Desk.__init__" (defArgs Ld) (defBody Ld) (defScope Ld) .none w0 w1 w2 v8 b4 w3),v9⟩)(S4:Wp K b4 "Desk.__init__"=true)(A4:YJ K (.ref O3)=true)(J5:ZH K (.ref i) "say"=some (some (.ref O4)))(H1:UB K (.ref O4)=true)(e2:YJ K (.ref O4)=true)(J6:K.lookup O4=some ⟨C6,C7,.func (YR "say" "Desk.say" (defArgs Lf) (defBody Lf) (defScope Lf) .none D0 D1 D2 C8 d9 D3),C9⟩)(S5:Wp K d9 "Desk.say"=true)(J7:ZH K (.ref i) "lay"=some (some (.ref O5)))(H2:UB K (.ref O5)=true)(e3:YJ K (.ref O5)=true)(J8:K.lookup O5=some ⟨D4,D5,.func (YR "lay" "Desk.lay" (defArgs Jv) (defBody Jv) (defScope Jv) .none D8 D9 E0 D6 e0 E1),D7⟩)(S6:Wp K e0 "Desk.lay"=true)(j9:ZH K (.ref i) "bench_by"=some (some (.ref O6)))(g6:UB K (.ref O6)=true)(G:YJ K (.ref O6)=true)(k0:K.lookup O6=some ⟨e5,e6,.func (YR "bench_by" "Desk.bench_by" (defArgs Lq) (defBody Lq) (defScope Lq) .none e9 f0 f1 e7 F f2),e8⟩)(S7:Wp K F "Desk.bench_by"=true)(H3:ZH K (.ref i) "keep"=some (some (.ref O7)))(A5:UB K (.ref O7)=true)(b7:YJ K (.ref O7)=true)(H4:K.lookup O7=some ⟨w4,w5,.func (YR "keep" "Desk.keep" (defArgs Kq) (defBody Kq) (defScope Kq) .none w8 w9 x0 w6 b5 x1),w7⟩)(S8:Wp K b5 "Desk.keep"=true)(n_Desk_benches:ZH K (.ref i) "benches"=some none)(k1:K.lookup a=some (Fh h6 h7 a m8 h8 (.ref e::Gj) true h9 f3 i0 f4 i1 i2 i3 i4 i5 i6 "ValueError.__new__"))(S9:zD K e Gj "ValueError.__new__"=true)(k2:ZH K (.ref a) "__init__"=some (some (.ref O9)))(g7:YJ K (.ref a)=true)(k3:JY K a (.type "object")=some true)(k4:UM K a=true)(k5:An K (.ref O9)=some (.type "function"))(k6:ZH K (.ref a) "__setattr__"=some (some (.builtin "object.__setattr__")))(k7:ZH K (.ref a) "at"=some none)(k8:PySem.W.readsIn K e (.type "type")=true)(k9:PySem.W.findCls K (.ref e) (.type "type") "__init__"=some (.val (.builtin "ValueError.__init__")))(l0:zb K (.ref e) "__getattribute__"=some (some (.builtin "type.__getattribute__")))(o6:K.lookup O9=some ⟨g8,g9,.func (YR "__init__" "NoBench.__init__" (defArgs Kr) (defBody Kr) (defScope Kr) .none h2 h3 h4 h0 I h5),h1⟩)(T0:Wp K I "NoBench.__init__"=true)(l1:YJ K (.ref O9)=true)(m_NOUGHT:YA K ZY "NOUGHT"=some (some (.ref U)))(M1:K.lookup U=some ⟨.type "tuple",K5,.seq #[.int 0 E2,.int 1 E3] K7,K8⟩)(m_ONE:YA K ZY "ONE"=some (some (.ref t9)))(N2:K.lookup t9=some ⟨.type "tuple",M9,.seq #[.int 1 M3,.int 1 M4] N0,N1⟩)(Ph:YA K ZY "LEAVING"=some (some (.ref e4)))(J9:K.lookup e4=some ⟨.type "tuple",H9,.seq #[.ref t9,.ref U,.ref U,.ref t9] I0,I1⟩)(m_ROWS:YA K ZY "ROWS"=some (some (.ref t8)))(M8:K.lookup t8=some ⟨.type "dict",none,.dict #[⟨P1,.str "join" x2,.ref a4⟩,⟨P2,.str "turn" x3,.ref a5⟩,⟨P3,.str "show" x4,.ref a6⟩,⟨P4,.str "walk" x5,.ref a7⟩,⟨P5,.str "table" q4,.ref O⟩,⟨P6,.str "apart" q5,.ref Q⟩,⟨P7,.str "image" q6,.ref R⟩,⟨P8,.str "field" q7,.ref S⟩,⟨P9,.str "sharp" q8,.ref T⟩,⟨Q0,.str "rounds" m9,.ref E⟩] M7,#[]⟩)(T1:P1=DR pr "join")(T2:P2=DR pr "turn")(T3:P3=DR pr "show")(T4:P4=DR pr "walk")(T5:P5=DR pr "table")(T6:P6=DR pr "apart")(T7:P7=DR pr "image")(T8:P8=DR pr "field")(T9:P9=DR pr "sharp")(U0:Q0=DR pr "rounds")(U1:(t8 == yi)=false)(A6:K.lookup a4=some ⟨.type "tuple",x6,.seq #[.int 3 n0,.int 0 n1] x7,x8⟩)(A7:K.lookup a5=some ⟨.type "tuple",x9,.seq #[.int 2 n2,.int 0 n3] y0,y1⟩)(A8:K.lookup a6=some ⟨.type "tuple",y2,.seq #[.int 1 n4,.int 0 n5] y3,y4⟩)(A9:K.lookup a7=some ⟨.type "tuple",y5,.seq #[.int 1 n6,.int 2 n7] y6,y7⟩)(t3:K.lookup O=some ⟨.type "tuple",q9,.seq #[.int 1 i7,.int 0 i8] r0,r1⟩)(t4:K.lookup Q=some ⟨.type "tuple",r2,.seq #[.int 1 i9,.int 0 j0] r3,r4⟩)(t5:K.lookup R=some ⟨.type "tuple",r5,.seq #[.int 1 j1,.int 1 j2] r6,r7⟩)(t6:K.lookup S=some ⟨.type "tuple",r8,.seq #[.int 1 j3,.int 4 j4] r9,s0⟩)(t7:K.lookup T=some ⟨.type "tuple",s1,.seq #[.int 1 j5,.int 5 j6] s2,s3⟩)(o7:K.lookup E=some ⟨.type "tuple",n8,.seq #[.int 1 f5,.int 0 f6] n9,o0⟩)(m_ANSWERS:YA K ZY "ANSWERS"=some (some (.ref a8)))(f_ANSWERS_show:YA K ZY "show_answer"=some (some (.ref u)))(f_ANSWERS_walk:YA K ZY "walk_answer"=some (some (.ref v)))(f_ANSWERS_table:YA K ZY "table_answer"=some (some (.ref p)))(f_ANSWERS_apart:YA K ZY "apart_answer"=some (some (.ref q)))(f_ANSWERS_image:YA K ZY "image_answer"=some (some (.ref r)))(f_ANSWERS_field:YA K ZY "field_answer"=some (some (.ref s)))(f_ANSWERS_sharp:YA K ZY "sharp_answer"=some (some (.ref t)))(f_ANSWERS_rounds:YA K ZY "rounds_answer"=some (some (.ref l)))(K0:K.lookup a8=some ⟨.type "dict",none,.dict #[⟨Q1,.str "show" j7,.ref u⟩,⟨Q2,.str "walk" j8,.ref v⟩,⟨Q3,.str "table" f7,.ref p⟩,⟨Q4,.str "apart" f8,.ref q⟩,⟨Q5,.str "image" f9,.ref r⟩,⟨Q6,.str "field" g0,.ref s⟩,⟨Q7,.str "sharp" g1,.ref t⟩,⟨Q8,.str "rounds" d4,.ref l⟩] I2,#[]⟩)(U2:Q1=DR pr "show")(U3:Q2=DR pr "walk")(U4:Q3=DR pr "table")(U5:Q4=DR pr "apart")(U6:Q5=DR pr "image")(U7:Q6=DR pr "field")(U8:Q7=DR pr "sharp")(U9:Q8=DR pr "rounds")(V0:(a8 == yi)=false):Exc K mg ⟨0,e,g,c,n,d,o,B,C,b,a,K1,D,j,k,f,i,U,t9,e4,t8,a4,a5,a6,a7,O,Q,R,S,T,E,a8,u,v,p,q,r,s,t,l,tGAP,tGLASS,tSTOP,tMOST_PIECES,tFIGURES,tMOST_FIGURES,tPARTED,tTIMES,tOPENED,tCLOSED,tMOST_TIMES,tMOST_DEEP,tLETTERS,tMOST_LETTERS,tDONE,tNONE,pr⟩:=⟨trivial,ZO X m m_BenchError,ZO X m m_NoNumber,ZO X m m_NoText,ZO X m m_NoTable,ZO X m m_NoBox,ZO X m m_NoStock,ZO X m m_NoWish,ZO X m m_NoRow,ZO X m m_Unknown,ZO X m m_NoBench,ZO X m M5,ZO X m K6,ZO X m Lp,ZO X m Ls,ZO X m Lh,ZO X m Lg,ZO X m m_GAP,z_GAP,ZO X m m_GLASS,z_GLASS,ZO X m m_STOP,z_STOP,ZO X m m_MOST_PIECES,ZO X m m_FIGURES,Nz,ZO X m m_MOST_FIGURES,ZO X m m_PARTED,z_PARTED,ZO X m m_TIMES,z_TIMES,ZO X m m_OPENED,z_OPENED,ZO X m m_CLOSED,z_CLOSED,ZO X m m_MOST_TIMES,ZO X m m_MOST_DEEP,ZO X m m_LETTERS,O8,ZO X m m_MOST_LETTERS,ZO X m m_DONE,z_DONE,ZO X m Mz,Pa,⟨ZO X m m_NoRow,Q9⟩,⟨ZO X m m_Unknown,R0⟩,⟨ZO X m m_NoNumber,R1⟩,⟨ZO X m m_NoText,R2⟩,⟨ZO X m m_NoBox,R3⟩,x_Unknown_BenchError,x_NoText_BenchError,x_NoBox_BenchError,x_NoBench_BenchError,x_NoBench_NoBench,x_NoNumber_NoNumber,k_Unknown_NoBench,k_Unknown_NoBox,k_Unknown_ValueError,k_Unknown_NoNumber,k_Unknown_NoText,k_Unknown_NoTable,k_Unknown_NoStock,k_Unknown_NoWish,k_Unknown_NoRow,k_Unknown_Unknown,k_NoText_NoBench,k_NoText_NoBox,k_NoText_ValueError,k_NoText_NoNumber,k_NoText_NoText,k_NoText_NoTable,k_NoText_NoStock,k_NoText_NoWish,k_NoText_NoRow,k_NoText_Unknown,k_NoBox_NoBench,k_NoBox_NoBox,k_NoBox_ValueError,k_NoBox_NoNumber,k_NoBox_NoText,k_NoBox_NoTable,k_NoBox_NoStock,k_NoBox_NoWish,k_NoBox_NoRow,k_NoBox_Unknown,k_NoBench_NoBench,k_NoBench_NoBox,k_NoBench_ValueError,k_NoBench_NoNumber,k_NoBench_NoText,k_NoBench_NoTable,k_NoBench_NoStock,k_NoBench_NoWish,k_NoBench_NoRow,k_NoBench_Unknown,⟨by rw [E4];rfl,E5,E6,E7,E8,E9,F0,F1⟩,⟨by rw [I3];rfl,I4,I5,I6,I7,I8,I9,J0⟩,⟨by rw [K9];rfl,L0,L1,L2,L3,L4,L5,L6⟩,⟨by rw [F2];rfl,F3,F4,F5,F6,F7,F8,F9⟩,⟨L7,L8,L9,M0⟩,⟨⟨_,_,Dd J2 R4 G3,⟨G0,J1,G1,G2⟩⟩,ZO X m K6⟩,⟨⟨_,_,Dd J4 R5 e1,⟨J3,G4,e1⟩⟩,⟨L7,L8,L9,M0⟩⟩,n_Gap_length,⟨y8,y9,z0,z1⟩,⟨⟨_,_,Dd z3 R6 s7,⟨s4,z2,s5,s6⟩⟩,ZO X m Lp⟩,⟨⟨_,_,Dd z5 R7 b1,⟨z4,s8,b1⟩⟩,⟨y8,y9,z0,z1⟩⟩,n_Glass_strength,⟨H5,H6,H7,H8⟩,⟨⟨_,_,Dd G6 R8 z9,⟨z6,G5,z7,z8⟩⟩,ZO X m Ls⟩,⟨⟨_,_,Dd G8 R9 b6,⟨G7,A0,b6⟩⟩,⟨H5,H6,H7,H8⟩⟩,n_Stop_low,n_Stop_high,⟨J,L,M,N⟩,⟨⟨_,_,Dd t0 S0 o4,⟨o1,s9,o2,o3⟩⟩,ZO X m Lh⟩,⟨⟨_,_,Dd g3 S1 z,⟨g2,d5,z⟩⟩,⟨J,L,M,N⟩⟩,⟨⟨_,_,Dd t2 S2 Z,⟨t1,o5,Z⟩⟩,⟨J,L,M,N⟩⟩,⟨⟨_,_,Dd g5 S3 A,⟨g4,d6,A⟩⟩,⟨J,L,M,N⟩⟩,n_Reader_words,n_Reader_place,⟨a0,a1,a2,a3⟩,⟨⟨_,_,Dd H0 S4 A4,⟨A1,G9,A2,A3⟩⟩,ZO X m Lg⟩,⟨⟨_,_,Dd J6 S5 e2,⟨J5,H1,e2⟩⟩,⟨a0,a1,a2,a3⟩⟩,⟨⟨_,_,Dd J8 S6 e3,⟨J7,H2,e3⟩⟩,⟨a0,a1,a2,a3⟩⟩,⟨⟨_,_,Dd k0 S7 G,⟨j9,g6,G⟩⟩,⟨a0,a1,a2,a3⟩⟩,⟨⟨_,_,Dd H4 S8 b7,⟨H3,A5,b7⟩⟩,⟨a0,a1,a2,a3⟩⟩,n_Desk_benches,⟨⟨_,_,Dd o6 T0 l1,⟨⟨_,_,_,_,_,_,_,_,_,_,_,_,_,_,k1⟩,S9,k2,g7,k3,k4,k5,k6,k7,k8,k9,l0⟩⟩,ZO X m m_NoBench⟩,ZO X m m_NOUGHT,λ H=>.inr ⟨_,_,_,M1,rfl,rfl,by show 2<=X3;decide,(.cons ⟨_,rfl⟩ (.cons ⟨_,rfl⟩ .nil))⟩,ZO X m m_ONE,λ H=>.inr ⟨_,_,_,N2,rfl,rfl,by show 2<=X3;decide,(.cons ⟨_,rfl⟩ (.cons ⟨_,rfl⟩ .nil))⟩,ZO X m Ph,λ H=>.inr ⟨_,_,_,J9,rfl,rfl,by show 4<=X3;decide,(.cons rfl (.cons rfl (.cons rfl (.cons rfl .nil))))⟩,ZO X m m_ROWS,λ P w P0=>bZ P0 M8 (.cons T1 rfl rfl (.cons T2 rfl rfl (.cons T3 rfl rfl (.cons T4 rfl rfl (.cons T5 rfl rfl (.cons T6 rfl rfl (.cons T7 rfl rfl (.cons T8 rfl rfl (.cons T9 rfl rfl (.cons U0 rfl rfl .nil)))))))))) (show yb [("join":Str),("turn":Str),("show":Str),("walk":Str),("table":Str),("apart":Str),("image":Str),("field":Str),("sharp":Str),("rounds":Str)] by decide+kernel) U1,λ H=>.inr ⟨_,_,_,A6,rfl,rfl,by show 2<=X3;decide,(.cons ⟨_,rfl⟩ (.cons ⟨_,rfl⟩ .nil))⟩,λ H=>.inr ⟨_,_,_,A7,rfl,rfl,by show 2<=X3;decide,(.cons ⟨_,rfl⟩ (.cons ⟨_,rfl⟩ .nil))⟩,λ H=>.inr ⟨_,_,_,A8,rfl,rfl,by show 2<=X3;decide,(.cons ⟨_,rfl⟩ (.cons ⟨_,rfl⟩ .nil))⟩,λ H=>.inr ⟨_,_,_,A9,rfl,rfl,by show 2<=X3;decide,(.cons ⟨_,rfl⟩ (.cons ⟨_,rfl⟩ .nil))⟩,λ H=>.inr ⟨_,_,_,t3,rfl,rfl,by show 2<=X3;decide,(.cons ⟨_,rfl⟩ (.cons ⟨_,rfl⟩ .nil))⟩,λ H=>.inr ⟨_,_,_,t4,rfl,rfl,by show 2<=X3;decide,(.cons ⟨_,rfl⟩ (.cons ⟨_,rfl⟩ .nil))⟩,λ H=>.inr ⟨_,_,_,t5,rfl,rfl,by show 2<=X3;decide,(.cons ⟨_,rfl⟩ (.cons ⟨_,rfl⟩ .nil))⟩,λ H=>.inr ⟨_,_,_,t6,rfl,rfl,by show 2<=X3;decide,(.cons ⟨_,rfl⟩ (.cons ⟨_,rfl⟩ .nil))⟩,λ H=>.inr ⟨_,_,_,t7,rfl,rfl,by show 2<=X3;decide,(.cons ⟨_,rfl⟩ (.cons ⟨_,rfl⟩ .nil))⟩,λ H=>.inr ⟨_,_,_,o7,rfl,rfl,by show 2<=X3;decide,(.cons ⟨_,rfl⟩ (.cons ⟨_,rfl⟩ .nil))⟩,ZO X m m_ANSWERS,ZO X m f_ANSWERS_show,ZO X m f_ANSWERS_walk,ZO X m f_ANSWERS_table,ZO X m f_ANSWERS_apart,ZO X m f_ANSWERS_image,ZO X m f_ANSWERS_field,ZO X m f_ANSWERS_sharp,ZO X m f_ANSWERS_rounds,λ P w P0=>bZ P0 K0 (.cons U2 rfl rfl (.cons U3 rfl rfl (.cons U4 rfl rfl (.cons U5 rfl rfl (.cons U6 rfl rfl (.cons U7 rfl rfl (.cons U8 rfl rfl (.cons U9 rfl rfl .nil)))))))) (show yb [("show":Str),("walk":Str),("table":Str),("apart":Str),("image":Str),("field":Str),("sharp":Str),("rounds":Str)] by decide+kernel) V0⟩
section
variable {P:ZU}{w:World}{K:FrG}{mg:Str->Option Value}{base:Heap}{ad:Adr}{c:Bool}
theorem Up (T:Txt K mg ad):CalB P w K mg base true 1 "is_whole" ["thing"] (iT K):=by
 refine T.WT.calN zg (λ _ _ _ _ _ _=>Br λ _=>rfl) (λ vs H Q E h=>?_) (λ f cdv A outer s H vs Q E k h=>?_)
 ·obtain ⟨v,d,rfl,_⟩:=h;rfl
 obtain ⟨v,d,rfl,i,q⟩:=h;obtain ⟨b,a,hb,j,e⟩:=mW d;refine ⟨_,(Af (Aq (FJ (BW Dy rfl T.isinstance Cq (Ad (pv 0) (Ad (Dq (v:=.ty "int") rfl T.int M6 rfl) Ab))) (Fo (PL (BW Dy rfl T.isinstance Cq (Ad (pv 0) (Ad (Dq (v:=.ty "bool") rfl T.bool vW rfl) Ab)))))))),?_⟩;refine ⟨_,rfl,_,_,_,b,rfl,i,hb,_,rfl,?_⟩;cases b with
 | false=>
  have g:Fy d=false:=e.symm;rw [g] at q;exact iteF q
 | true=>
  refine iteT ?_;refine ⟨_,rfl,_,_,_,a,rfl,i,j,_,rfl,?_⟩;have g:(!a)=Fy d:=e;show Q (.bl (!a)) H;rw [g];exact q
theorem Wn (T:Txt K mg ad):CalB P w K mg base true 1 "common_divisor" ["one","other"] jW:=by
 refine T.U0.calN JW (λ _ _ _ _ _ _=>Bf λ _ _=>rfl) (λ vs H Q E h=>?_) (λ f cdv A outer s H vs Q E t h=>?_)
 ·obtain ⟨a,b,rfl,_⟩:=h;rfl
 obtain ⟨a,b,rfl,q⟩:=h;refine ⟨_,(Ae (Ax (i:=2) JW.nd (BW Oz rfl T.abs NP (Ad (pv 0) Ab))) (Ae (Ax (i:=3) JW.nd (BW Oz rfl T.abs NP (Ad (pv 1) Ab))) (Ae (Mv WH (BR Dm (pv 3) Ac) (Ae (Ax (i:=4) JW.nd (Ao Ed (pv 2) (pv 3))) (Ae (Ax (i:=2) JW.nd (pv 3)) (Af (Ax (i:=3) JW.nd (pv 4)))))) (Af (Aq (pv 2)))))),?_⟩;refine ⟨_,rfl,_,rfl,_,rfl,_,rfl,?_⟩;have j:=Fr.O2 a;have l:=Fr.O2 b;refine ⟨λ k o d=>H=d/\∃(m:Nat) (r:Option V),o=[some (.int a),some (.int b),some (.int m),some (.int k),r]/\FH m k=FH a.natAbs b.natAbs,⟨b.natAbs,rfl,a.natAbs,none,by rw [<- j,<- l];rfl,rfl⟩,?_⟩
 rintro n _ _ ⟨rfl,m,r,rfl,e⟩
 refine ⟨_,rfl,rfl,_,rfl,?_⟩;refine ite2 (λ c=>?_) (λ c=>?_)
 ·have hn:n≠0:=by
   intro z;subst z;simp at c
  have p:(m:Int) % (n:Int)=((m % n:Nat):Int):=(MD m n).symm;refine ⟨λ g d=>H=d/\g=[some (.int a),some (.int b),some (.int n),some (.int ((m:Int) % (n:Int))),some (.int ((m:Int) % (n:Int)))],?_,?_⟩
  ·rintro _ _ ⟨rfl,rfl⟩
   rw [p];exact ⟨m % n,Ch _ ∅,rfl,n,_,rfl,by rw [Fr.Z9,e]⟩
  ·exact ⟨_,rfl,_,rfl,_,_,rfl,rfl,(by show (0:Int) < (n:Int);omega),_,rfl,_,rfl,rfl,rfl⟩
 ·have hn:n=0:=by
   by_cases z:n=0
   ·exact z
   ·exfalso
    apply c
    rw [Dr];simp
    omega
  subst hn;refine ⟨_,rfl,?_⟩;have e2:(m:Int)=Fr.gcd a b:=by
   unfold Fr.gcd;rw [<- e,Nat.gcd_zero_right]
  rw [e2];exact q
theorem rP (T:Txt K mg ad):CalB P w K mg base true 2 "is_ratio" ["thing"] (AH3 K):=by
 refine T.Pb.calN Jc (λ _ _ _ _ _ _=>Br λ _=>rfl) (λ vs H Q E h=>?_) (λ f cdv A outer s H vs Q E d h=>?_)
 ·obtain ⟨_,_,rfl,_⟩:=h;rfl
 obtain ⟨v,b,rfl,e,q⟩:=h;obtain ⟨a,rfl,ha⟩:=e.fr;refine ⟨_,(Ae (Az (PW.pt (pw_or (Bt (Bh (BW Dy rfl T.isinstance Cq (Ad (pv 0) (Ad (Dq (v:=.ty "tuple") rfl T.tuple Jl rfl) Ab))))) (pw_or1 (BR Dm (BW Cy rfl T.len Cr (Ad (pv 0) Ab)) Ac)))) (Af (Aq DW)) BJ) (Ae (Ax (i:=1) Jc.nd (Ai Ar (pv 0) Ac)) (Ae (Ax (i:=2) Jc.nd (Ai Ar (pv 0) Ac)) (Ae (Az (PW.pt (pw_or (Bt (Bh (Am (Up T) d.m Aw (Ad (pv 1) Ab)))) (pw_or1 (Bt (Bh (Am (Up T) d.m Aw (Ad (pv 2) Ab))))))) (Af (Aq DW)) BJ) (Af (Aq (FJ (Di bj (pv 2) Ac) (Fo (Di Bu (Am (Wn T) d.m Aw (Ad (pv 1) (Ad (pv 2) Ab))) Ac))))))))),?_⟩
 refine ⟨_,rfl,_,_,_,_,rfl,e,Kc _,_,rfl,iteF ?_⟩;refine ⟨_,rfl,a,_,rfl,.inr ha,rfl,_,rfl,iteF ?_⟩;refine ⟨_,rfl,a,_,_,_,rfl,rfl,ha,rfl,?_⟩;refine ⟨_,rfl,a,_,_,_,rfl,rfl,ha,rfl,?_⟩;refine ⟨_,rfl,_,_,rfl,.int _,_,rfl,iteF ?_⟩;refine ⟨_,rfl,_,_,rfl,.int _,_,rfl,iteF ?_⟩;refine ⟨_,rfl,_,_,rfl,rfl,_,rfl,Bm (ζ (KY b)) ⟨_,rfl,_,rfl,_,_,rfl,rfl,?_⟩⟩;show Q (.bl (decide (V.int (Fr.gcd b.num (b.den:Int))=V.int 1))) H;rw [Dr,ζ (T5 b)];exact q
theorem Qa (T:Txt K mg ad):CalB P w K mg base true 2 "is_ratio" ["thing"] (pY K):=by
 refine T.Pb.calN Jc (λ _ _ _ _ _ _=>Br λ _=>rfl) (λ vs H Q E h=>?_) (λ f cdv A outer s H vs Q E n h=>?_)
 ·obtain ⟨_,_,rfl,_⟩:=h;rfl
 obtain ⟨v,d,rfl,p,q⟩:=h;refine ⟨_,(Ae (Az (PW.pt (pw_or (Bt (Bh (BW Dy rfl T.isinstance Cq (Ad (pv 0) (Ad (Dq (v:=.ty "tuple") rfl T.tuple Jl rfl) Ab))))) (pw_or1 (BR Dm (BW Cy rfl T.len Cr (Ad (pv 0) Ab)) Ac)))) (Af (Aq DW)) BJ) (Ae (Ax (i:=1) Jc.nd (Ai Ar (pv 0) Ac)) (Ae (Ax (i:=2) Jc.nd (Ai Ar (pv 0) Ac)) (Ae (Az (PW.pt (pw_or (Bt (Bh (Am (Up T) n.m Aw (Ad (pv 1) Ab)))) (pw_or1 (Bt (Bh (Am (Up T) n.m Aw (Ad (pv 2) Ab))))))) (Af (Aq DW)) BJ) (Af (Aq (FJ (Di bj (pv 2) Ac) (Fo (Di Bu (Am (Wn T) n.m Aw (Ad (pv 1) (Ad (pv 2) Ab))) Ac))))))))),?_⟩
 refine ⟨_,rfl,_,_,_,_,rfl,p,Kc d,_,rfl,?_⟩;cases ht:JC d with
 | false=>
  refine iteT (iteT ?_);rw [wg ht] at q;exact q
 | true=>
  obtain ⟨ds,rfl⟩:=dW ht;obtain ⟨a,xs,rfl,ha,l⟩:=p.tup_of;refine iteF ?_;refine ⟨_,rfl,a,_,rfl,.inr ha,rfl,_,rfl,?_⟩;by_cases hl:ds.length=2
  ·obtain ⟨b,g,rfl⟩:∃b g,ds=[b,g]:=by
    match ds,hl with
    | [b,g],_=>exact ⟨b,g,rfl⟩
   obtain ⟨x,y,rfl,r,t⟩:=l.two;refine iteF ?_;refine ⟨_,rfl,a,_,_,_,rfl,rfl,ha,rfl,?_⟩;refine ⟨_,rfl,a,_,_,_,rfl,rfl,ha,rfl,?_⟩;refine ⟨_,rfl,_,_,rfl,r,_,rfl,?_⟩;cases u:Fy b with
   | false=>
    refine iteT (iteT ?_);rw [bD (.inl u)] at q;exact q
   | true=>
    refine iteF ?_;refine ⟨_,rfl,_,_,rfl,t,_,rfl,?_⟩;cases z:Fy g with
    | false=>
     refine iteT ?_;rw [bD (.inr z)] at q;exact q
    | true=>
     obtain ⟨i,rfl⟩:=Xv u;obtain ⟨j,rfl⟩:=Xv z;obtain rfl:=r.int_of;obtain rfl:=t.int_of;refine iteF ?_;refine ⟨_,rfl,_,_,rfl,rfl,_,rfl,?_⟩;have k:Q (.bl (decide (1<=j) && decide (Fr.gcd i j=1))) H:=q;refine ite2 (λ c=>?_) (λ c=>?_)
     ·have o:decide (1<=j)=true:=c;rw [o,qe] at k;refine ⟨_,rfl,_,rfl,i,j,rfl,rfl,?_⟩;show Q (.bl (decide (V.int (Fr.gcd i j)=V.int 1))) H;rw [Dr];exact k
     ·have o:decide (1<=j)=false:=ND.mpr c;rw [o,wi] at k;exact k
  ·have e:decide (V.int ((xs.length:Nat):Int)=V.int 2)=false:=by
    rw [Dr];exact η (by have:=l.len;omega)
   show if (!decide (V.int ((xs.length:Nat):Int)=V.int 2))=true then _ else _
   rw [e];refine iteT ?_;rw [sW hl] at q;exact q
theorem Ry (T:Txt K mg ad):CalB P w K mg base true 2 "ratio_of" ["top","bottom"] wQ:=by
 refine T.Tj.calN W4 (λ _ _ _ _ _ _=>Bf λ _ _=>rfl) (λ vs H Q E h=>?_) (λ f cdv A outer s H vs Q E k h=>?_)
 ·obtain ⟨x,y,rfl,_⟩:=h;rfl
 obtain ⟨a,b,rfl,g,bs,q⟩:=h;refine ⟨_,(Ae (Az (PW.pt (pw_or (Bt (Bh (Am (Up T) k.m Aw (Ad (pv 0) Ab)))) (pw_or (Bt (Bh (Am (Up T) k.m Aw (Ad (pv 1) Ab)))) (pw_or1 (BR Bu (pv 1) Ac))))) (Af Gv) BJ) (Ae (Ax (i:=2) W4.nd (Am (Wn T) k.m Aw (Ad (pv 0) (Ad (pv 1) Ab)))) (Ae (Az (BR GX (pv 1) Ac) (Af (Ax (i:=2) W4.nd (Ao G4 Ac (pv 2)))) BJ) (Af (Aq (Cz (By (Ao Mr (pv 0) (pv 2)) (By (Ao Mr (pv 1) (pv 2)) Ab)))))))),?_⟩
 refine ⟨_,rfl,_,_,rfl,.int a,_,rfl,?_⟩;refine iteF ?_;refine ⟨_,rfl,_,_,rfl,.int b,_,rfl,?_⟩;refine iteF ?_;refine ⟨_,rfl,rfl,_,rfl,?_⟩;refine ite2 (λ z=>?_) (λ _=>?_)
 ·exfalso;rw [Dr] at z;exact g (of_decide_eq_true z)
 refine ⟨_,rfl,_,rfl,a,b,rfl,?_⟩;have v:=Fr.eV (a:=a) g;have B:=Fr.ZP a b;have r:∀j:Int,j.natAbs=(Fr.gcd a b).natAbs->j.natAbs.log2 < 9000:=λ j t=>by
  have u:j.natAbs < lim:=by omega
  exact aB u
 have d:∀j:Int,j=Fr.sg a b->RC a j/\RC b j:=λ j t=>by
  subst t;exact ⟨⟨Fr.JD g,r _ Fr.Wy⟩,⟨Fr.JD g,r _ Fr.Wy⟩⟩
 refine ⟨_,rfl,_,_,rfl,rfl,_,rfl,?_⟩;refine ite2 (λ l=>?_) (λ l=>?_)
 ·have n:b < 0:=of_decide_eq_true l;have e:(0:Int) - Fr.gcd a b=Fr.sg a b:=by
   unfold Fr.sg;rw [if_pos n]
  refine ⟨_,rfl,_,_,rfl,rfl,?_⟩;refine ⟨_,rfl,_,rfl,_,_,rfl,rfl,(d _ e).1,_,rfl,_,rfl,_,_,rfl,rfl,(d _ e).2,(by show 2<=X3;decide),λ p o=>?_⟩
  rw [e];exact q p o
 ·have n:¬ b < 0:=λ z=>l (ζ z)
  have e:Fr.gcd a b=Fr.sg a b:=by
   unfold Fr.sg;rw [if_neg n]
  refine ⟨_,rfl,_,rfl,_,_,rfl,rfl,(d _ e).1,_,rfl,_,rfl,_,_,rfl,rfl,(d _ e).2,(by show 2<=X3;decide),λ p o=>?_⟩
  rw [e];exact q p o
theorem AM6 (T:Txt K mg ad):CalB P w K mg base true 3 "sum_of" ["one","other"] (PR K (Jy λ p q=>p+q)):=by
 refine T.Sq.calN lM (λ _ _ _ _ _ _=>Bf λ _ _=>rfl) (λ vs H Q E h=>?_) (λ f cdv A outer s H vs Q E g h=>?_)
 ·obtain ⟨_,_,dv,⟨_,_,rfl,_⟩,_⟩:=h;exact dv.len
 obtain ⟨_,_,dv,⟨p,q,rfl,sp,d,rfl⟩,k⟩:=h;obtain ⟨_,_,rfl,i,j⟩:=dv.two;obtain ⟨a,rfl,ha⟩:=i.fr;obtain ⟨b,rfl,hb⟩:=j.fr;refine ⟨_,(Af (Aq (Am (Ry T) g.m Aw (By (Ao DY (Ao Ea (Ai Ar (pv 0) Ac) (Ai Ar (pv 1) Ac)) (Ao Ea (Ai Ar (pv 1) Ac) (Ai Ar (pv 0) Ac))) (By (Ao Ea (Ai Ar (pv 0) Ac) (Ai Ar (pv 1) Ac)) Ab))))),?_⟩
 refine ⟨_,rfl,a,_,_,_,rfl,rfl,ha,rfl,_,rfl,b,_,_,_,rfl,rfl,hb,rfl,_,_,rfl,rfl,Du sp.n d.dn,?_⟩;refine ⟨_,rfl,b,_,_,_,rfl,rfl,hb,rfl,_,rfl,a,_,_,_,rfl,rfl,ha,rfl,_,_,rfl,rfl,Du d.n sp.dn,_,_,rfl,rfl,?_⟩;refine ⟨_,rfl,a,_,_,_,rfl,rfl,ha,rfl,_,rfl,b,_,_,_,rfl,rfl,hb,rfl,_,_,rfl,rfl,Du sp.dn d.dn,?_⟩;refine ⟨_,_,rfl,Ii p q,NK sp.dn d.dn,λ r g=>k _ _ (Ah g _) ?_⟩
 have e:=Jf (K:=K) (H:=H) (t:=p.num * (q.den:Int)+q.num * (p.den:Int)) (b:=(p.den:Int) * (q.den:Int)) (p:=r) (Ii p q);rw [Fr.WW] at e;exact e
theorem o7 (T:Txt K mg ad):CalB P w K mg base true 3 "less_by" ["one","other"] (PR K (Jy λ p q=>p - q)):=by
 refine T.WR.calN jZ (λ _ _ _ _ _ _=>Bf λ _ _=>rfl) (λ vs H Q E h=>?_) (λ f cdv A outer s H vs Q E g h=>?_)
 ·obtain ⟨_,_,dv,⟨_,_,rfl,_⟩,_⟩:=h;exact dv.len
 obtain ⟨_,_,dv,⟨p,q,rfl,sp,d,rfl⟩,k⟩:=h;obtain ⟨_,_,rfl,i,j⟩:=dv.two;obtain ⟨a,rfl,ha⟩:=i.fr;obtain ⟨b,rfl,hb⟩:=j.fr;refine ⟨_,(Af (Aq (Am (Ry T) g.m Aw (By (Ao G4 (Ao Ea (Ai Ar (pv 0) Ac) (Ai Ar (pv 1) Ac)) (Ao Ea (Ai Ar (pv 1) Ac) (Ai Ar (pv 0) Ac))) (By (Ao Ea (Ai Ar (pv 0) Ac) (Ai Ar (pv 1) Ac)) Ab))))),?_⟩
 refine ⟨_,rfl,a,_,_,_,rfl,rfl,ha,rfl,_,rfl,b,_,_,_,rfl,rfl,hb,rfl,_,_,rfl,rfl,Du sp.n d.dn,?_⟩;refine ⟨_,rfl,b,_,_,_,rfl,rfl,hb,rfl,_,rfl,a,_,_,_,rfl,rfl,ha,rfl,_,_,rfl,rfl,Du d.n sp.dn,_,_,rfl,rfl,?_⟩;refine ⟨_,rfl,a,_,_,_,rfl,rfl,ha,rfl,_,rfl,b,_,_,_,rfl,rfl,hb,rfl,_,_,rfl,rfl,Du sp.dn d.dn,?_⟩;refine ⟨_,_,rfl,Ii p q,NK sp.dn d.dn,λ r g=>k _ _ (Ah g _) ?_⟩
 have e:=Jf (K:=K) (H:=H) (t:=p.num * (q.den:Int) - q.num * (p.den:Int)) (b:=(p.den:Int) * (q.den:Int)) (p:=r) (Ii p q);rw [Fr.fK] at e;exact e
theorem fW (T:Txt K mg ad):CalB P w K mg base true 3 "product_of" ["one","other"] (PR K (Jy λ p q=>p * q)):=by
 refine T.TX.calN pR (λ _ _ _ _ _ _=>Bf λ _ _=>rfl) (λ vs H Q E h=>?_) (λ f cdv A outer s H vs Q E d h=>?_)
 ·obtain ⟨_,_,dv,⟨_,_,rfl,_⟩,_⟩:=h;exact dv.len
 obtain ⟨_,_,dv,⟨p,q,rfl,sp,g,rfl⟩,k⟩:=h;obtain ⟨_,_,rfl,i,j⟩:=dv.two;obtain ⟨a,rfl,ha⟩:=i.fr;obtain ⟨b,rfl,hb⟩:=j.fr;refine ⟨_,(Af (Aq (Am (Ry T) d.m Aw (By (Ao Ea (Ai Ar (pv 0) Ac) (Ai Ar (pv 1) Ac)) (By (Ao Ea (Ai Ar (pv 0) Ac) (Ai Ar (pv 1) Ac)) Ab))))),?_⟩
 refine ⟨_,rfl,a,_,_,_,rfl,rfl,ha,rfl,_,rfl,b,_,_,_,rfl,rfl,hb,rfl,_,_,rfl,rfl,Du sp.n g.n,?_⟩;refine ⟨_,rfl,a,_,_,_,rfl,rfl,ha,rfl,_,rfl,b,_,_,_,rfl,rfl,hb,rfl,_,_,rfl,rfl,Du sp.dn g.dn,?_⟩;refine ⟨_,_,rfl,Ii p q,NK sp.dn g.dn,λ r d=>k _ _ (Ah d _) ?_⟩
 have e:=Jf (K:=K) (H:=H) (t:=p.num * q.num) (b:=(p.den:Int) * (q.den:Int)) (p:=r) (Ii p q);rw [Fr.aU] at e;exact e
theorem N5 (T:Txt K mg ad):CalB P w K mg base true 1 "is_less" ["one","other"] (PR K cR):=by
 refine T.Wk.calN yG (λ _ _ _ _ _ _=>Bf λ _ _=>rfl) (λ vs H Q E h=>?_) (λ f cdv A outer s H vs Q E j h=>?_)
 ·obtain ⟨_,_,dv,⟨_,_,rfl,_⟩,_⟩:=h;exact dv.len
 obtain ⟨_,_,dv,⟨p,q,rfl,sp,d,rfl⟩,k⟩:=h;obtain ⟨_,_,rfl,g,i⟩:=dv.two;obtain ⟨a,rfl,ha⟩:=g.fr;obtain ⟨b,rfl,hb⟩:=i.fr;refine ⟨_,(Af (Aq (Di GX (Ao Ea (Ai Ar (pv 0) Ac) (Ai Ar (pv 1) Ac)) (Ao Ea (Ai Ar (pv 1) Ac) (Ai Ar (pv 0) Ac))))),?_⟩;refine ⟨_,rfl,a,_,_,_,rfl,rfl,ha,rfl,_,rfl,b,_,_,_,rfl,rfl,hb,rfl,_,_,rfl,rfl,Du sp.n d.dn,?_⟩;refine ⟨_,rfl,b,_,_,_,rfl,rfl,hb,rfl,_,rfl,a,_,_,_,rfl,rfl,ha,rfl,_,_,rfl,rfl,Du d.n sp.dn,_,_,rfl,rfl,?_⟩;have e:decide (p.num * (q.den:Int) < q.num * (p.den:Int))=decide (p < q):=decide_eq_decide.mpr (Fr.Qn p q);show Q (.bl (decide (p.num * (q.den:Int) < q.num * (p.den:Int)))) H;rw [e];exact k _ _ (Same.refl _) (.bl _)
end
end K71
namespace K71
open PySem L2 Lib Fr Op
seal PE PT PW PA PS PSs PG PGs PI PO CP
section
variable {P:ZU}{w:World}{K:FrG}{mg:Str->Option Value}{base:Heap}{ad:Adr}{c:Bool}
theorem yP (T:Txt K mg ad):MkC P w K mg base 1 "Gap" ad.Gap ["self","length"] (dU ad.Gap "length"):=by
 refine T.ex.i_Gap.mkc sI (λ _ _ _ _ _ _=>Bf λ _ _=>rfl) (λ vs H Q E h=>?_) (λ f cdv A outer s H vs Q E b h=>?_)
 ·obtain ⟨a,dx,x,rfl,_⟩:=h;rfl
 obtain ⟨a,dx,x,rfl,ha,q⟩:=h;refine ⟨_,(Af (Hy (pv 0) (pv 1))),?_⟩;exact ⟨_,rfl,_,rfl,a,ad.Gap,dx,[],rfl,ha,T.ex.l_Gap,T.ex.n_Gap_length,by decide,q⟩
theorem sV (T:Txt K mg ad):MkC P w K mg base 1 "Glass" ad.Glass ["self","strength"] (dU ad.Glass "strength"):=by
 refine T.ex.i_Glass.mkc pJ (λ _ _ _ _ _ _=>Bf λ _ _=>rfl) (λ vs H Q E h=>?_) (λ f cdv A outer s H vs Q E b h=>?_)
 ·obtain ⟨a,dx,x,rfl,_⟩:=h;rfl
 obtain ⟨a,dx,x,rfl,ha,q⟩:=h;refine ⟨_,(Af (Hy (pv 0) (pv 1))),?_⟩;exact ⟨_,rfl,_,rfl,a,ad.Glass,dx,[],rfl,ha,T.ex.l_Glass,T.ex.n_Glass_strength,by decide,q⟩
theorem vC (T:Txt K mg ad):MkC P w K mg base 1 "Stop" ad.Stop ["self","low","high"] (kI ad.Stop "low" "high"):=by
 refine T.ex.i_Stop.mkc qX (λ _ _ _ _ _ _=>Ht λ _ _ _=>rfl) (λ vs H Q E h=>?_) (λ f cdv A outer s H vs Q E b h=>?_)
 ·obtain ⟨a,dx,x,y,rfl,_⟩:=h;rfl
 obtain ⟨a,dx,x,y,rfl,ha,q⟩:=h;refine ⟨_,(Ae (Hy (pv 0) (pv 1)) (Af (Hy (pv 0) (pv 2)))),?_⟩;refine ⟨_,rfl,_,rfl,a,ad.Stop,dx,[],rfl,ha,T.ex.l_Stop,T.ex.n_Stop_low,by decide,?_⟩
 refine ⟨_,rfl,_,rfl,a,ad.Stop,dx,_,rfl,Ag,T.ex.l_Stop,T.ex.n_Stop_high,(by show 1 < 1000;decide),?_⟩
 rw [Jk];exact q
theorem sX (T:Txt K mg ad):MC P w K mg base 4 ad.Stop "bent" ["self","ray"] uI:=by
 refine T.ex.q_Stop_bent.mc yt (λ _ _ _ _ _ _=>Bf λ _ _=>rfl) (λ vs H Q E h=>?_) (λ f cdv A outer s H vs Q E a h=>?_)
 ·obtain ⟨x,y,rfl,_⟩:=h;rfl
 obtain ⟨x,y,rfl,q⟩:=h;exact ⟨_,(Af (Aq (pv 1))),_,rfl,q⟩
theorem jw (T:Txt K mg ad):MC P w K mg base 4 ad.Gap "bent" ["self","ray"] (ak K ad.Gap ad.Glass ad.Stop (λ p r=>Df (p.bent r)) AQ1):=by
 refine T.ex.q_Gap_bent.mc pq (λ _ _ _ _ _ _=>Bf λ _ _=>rfl) (λ vs H Q E h=>?_) (λ f cdv A outer s H vs Q E z h=>?_)
 ·obtain ⟨_,_,_,_,_,_,rfl,_⟩:=h;rfl
 obtain ⟨o,y,p,r,n,m,rfl,B,F,G,l,g,b,k⟩:=h;cases F with
 | glass _ _=>exact B.elim
 | stop _ _ _=>exact B.elim
 | @gap a dx L d ha I=>
  have g:Bd m d:=g;obtain ⟨q,M,N,rfl,e,C,j⟩:=G.t2;refine ⟨_,(Af (Aq (Cz (CQ (Am (AM6 T) z.m Aw (BX (Ai Ar (pv 1) Ac) (CQ (Am (fW T) z.m Aw (Dc (Ei (pv 0)) (BX (Ai Ar (pv 1) Ac) Ab))) Ab))) (BX (Ai Ar (pv 1) Ac) Ab))))),?_⟩
  refine ⟨_,rfl,q,_,_,_,rfl,rfl,e,rfl,?_⟩;refine ⟨_,rfl,a,_,_,_,_,rfl,ha,T.ex.l_Gap,T.ex.n_Gap_length,rfl,_,rfl,q,_,_,_,rfl,rfl,e,rfl,?_⟩;refine ⟨_,_,.cons I (.cons j .nil),⟨_,_,rfl,g.sm (cF b),l.u.sm (OJ b),rfl⟩,λ v O i J=>?_⟩
  refine ⟨_,_,.cons (C.keep i) (.cons J .nil),⟨_,_,rfl,l.y.sm (OJ b),(g.mul l.u).sm (Z7 b),rfl⟩,λ R S x D=>?_⟩
  refine ⟨_,rfl,q,_,_,_,rfl,rfl,e.keep (i.trans x),rfl,(by show 2<=X3;decide),λ t ht=>?_⟩
  exact k _ _ ((i.trans x).trans (Ah ht _)) (DV.upd2 ht D (j.keep (i.trans x)))
theorem nF (T:Txt K mg ad):MC P w K mg base 4 ad.Glass "bent" ["self","ray"] (ak K ad.Gap ad.Glass ad.Stop (λ p r=>Df (p.bent r)) lg):=by
 refine T.ex.q_Glass_bent.mc AK3 (λ _ _ _ _ _ _=>Bf λ _ _=>rfl) (λ vs H Q E h=>?_) (λ f cdv A outer s H vs Q E x h=>?_)
 ·obtain ⟨_,_,_,_,_,_,rfl,_⟩:=h;rfl
 obtain ⟨o,y,p,r,n,m,rfl,z,F,G,j,g,b,k⟩:=h;cases F with
 | gap _ _=>exact z.elim
 | stop _ _ _=>exact z.elim
 | @glass a dx L d ha I=>
  have g:Bd m d:=g;obtain ⟨l,M,N,rfl,e,i,B⟩:=G.t2;refine ⟨_,(Af (Aq (Cz (BX (Ai Ar (pv 1) Ac) (CQ (Am (o7 T) x.m Aw (BX (Ai Ar (pv 1) Ac) (CQ (Am (fW T) x.m Aw (Dc (Ei (pv 0)) (BX (Ai Ar (pv 1) Ac) Ab))) Ab))) Ab))))),?_⟩
  refine ⟨_,rfl,l,_,_,_,rfl,rfl,e,rfl,?_⟩;refine ⟨_,rfl,l,_,_,_,rfl,rfl,e,rfl,?_⟩;refine ⟨_,rfl,a,_,_,_,_,rfl,ha,T.ex.l_Glass,T.ex.n_Glass_strength,rfl,_,rfl,l,_,_,_,rfl,rfl,e,rfl,?_⟩;refine ⟨_,_,.cons I (.cons i .nil),⟨_,_,rfl,g.sm (cF b),j.y.sm (OJ b),rfl⟩,λ v O q J=>?_⟩
  refine ⟨_,_,.cons (B.keep q) (.cons J .nil),⟨_,_,rfl,j.u.sm (OJ b),(g.mul j.y).sm (Z7 b),rfl⟩,λ R S C D=>?_⟩
  refine ⟨(by show 2<=X3;decide),λ t ht=>?_⟩
  exact k _ _ ((q.trans C).trans (Ah ht _)) (DV.upd2 ht (i.keep (q.trans C)) D)
theorem JS (T:Txt K mg ad){H:Hp}{v y:V}{p:Pc}{r:DK}{n m:Nat}(h:ObAt K ad.Gap ad.Glass ad.Stop H v p)(d:DV K H y (Df r))(f:RB n r)(g:p.bd m)(b:n+m<=3900):
  ∃(a C dx:Addr) (fs:List (Str×V)) (ps:List Str) (sp:Sp),v=.ref a/\H a=some (.ins C dx fs)/\fs.lookup ("bent":Str)=none/\MC P w K mg base 4 C "bent" ps sp/\∀Q:VK,(∀v e,Same H e->DV K e v (Df (p.bent r))->Q v e)->sp [v,y] H Q E0:=by
 cases id h with
 | gap ha i=>exact ⟨_,_,_,_,_,_,rfl,ha,rfl,jw T,λ Q k=>⟨_,_,.gap _,r,n,m,rfl,trivial,h,d,f,g,b,k⟩⟩
 | glass ha i=>exact ⟨_,_,_,_,_,_,rfl,ha,rfl,nF T,λ Q k=>⟨_,_,.glass _,r,n,m,rfl,trivial,h,d,f,g,b,k⟩⟩
 | stop ha i j=>exact ⟨_,_,_,_,_,_,rfl,ha,rfl,sX T,λ Q k=>⟨_,_,rfl,k _ _ (Same.refl _) d⟩⟩
theorem wB (T:Txt K mg ad):CalB P w K mg base true 3 "piece_of" ["told"] (mH K ad.Gap ad.Glass ad.Stop):=by
 refine T.Tw.calN vM (λ _ _ _ _ _ _=>Br λ _=>rfl) (λ vs H Q E h=>?_) (λ f cdv A outer s H vs Q E r h=>?_)
 ·obtain ⟨v,p,rfl,_⟩:=h;rfl
 obtain ⟨v,p,rfl,t,q⟩:=h;refine ⟨_,(Ae (Az (BR Bu (Ai Ar (pv 0) Ac) (Bb (v:=.str "gap") rfl T.ex.m_GAP ⟨⟨_,T.ex.z_GAP⟩,rfl⟩)) (Af (Aq (Q9 (yP T) r.m (BX (Ai Ar (pv 0) Ac) Ab)))) BJ) (Ae (Az (BR Bu (Ai Ar (pv 0) Ac) (Bb (v:=.str "glass") rfl T.ex.m_GLASS ⟨⟨_,T.ex.z_GLASS⟩,rfl⟩)) (Af (Aq (Q9 (sV T) r.m (BX (Ai Ar (pv 0) Ac) Ab)))) BJ) (Af (Aq (Q9 (vC T) r.m (BX (Ai Ar (pv 0) Ac) (BX (Ai Ar (pv 0) Ac) Ab))))))),?_⟩
 cases p with
 | gap d=>
  obtain ⟨a,x,y,rfl,ha,j,k⟩:=DV.t2 t;obtain rfl:=j.str_of;refine ⟨_,rfl,a,_,_,_,rfl,rfl,ha,rfl,rfl,_,rfl,Bm ⋯ ?_⟩
  refine ⟨_,rfl,a,_,_,_,rfl,rfl,ha,rfl,λ o dx l e g=>⟨o,dx,y,rfl,Ag,rfl,?_⟩⟩
  have n:Same H (upd H dx (.own o)):=Ah e _;have i:upd H dx (.own o) o=none:=by rw [Al (WU g)];exact l
  have b:=n.trans (Ah i (.ins ad.Gap dx [("length",y)]));rw [Jk];exact q _ _ b (.gap Ag (k.keep b))
 | glass d=>
  obtain ⟨a,x,y,rfl,ha,j,k⟩:=DV.t2 t;obtain rfl:=j.str_of;refine ⟨_,rfl,a,_,_,_,rfl,rfl,ha,rfl,rfl,_,rfl,BP ⋯ ?_⟩
  refine ⟨_,rfl,a,_,_,_,rfl,rfl,ha,rfl,rfl,_,rfl,Bm ⋯ ?_⟩
  refine ⟨_,rfl,a,_,_,_,rfl,rfl,ha,rfl,λ o dx l e g=>⟨o,dx,y,rfl,Ag,rfl,?_⟩⟩
  have n:Same H (upd H dx (.own o)):=Ah e _;have i:upd H dx (.own o) o=none:=by rw [Al (WU g)];exact l
  have b:=n.trans (Ah i (.ins ad.Glass dx [("strength",y)]));rw [Jk];exact q _ _ b (.glass Ag (k.keep b))
 | stop lo hi=>
  obtain ⟨a,x,y,z,rfl,ha,j,k,u⟩:=DV.t3 t;obtain rfl:=j.str_of;refine ⟨_,rfl,a,_,_,_,rfl,rfl,ha,rfl,rfl,_,rfl,BP ⋯ ?_⟩
  refine ⟨_,rfl,a,_,_,_,rfl,rfl,ha,rfl,rfl,_,rfl,BP ⋯ ?_⟩
  refine ⟨_,rfl,a,_,_,_,rfl,rfl,ha,rfl,_,rfl,a,_,_,_,rfl,rfl,ha,rfl,λ o dx l e g=>⟨o,dx,y,z,rfl,Ag,rfl,?_⟩⟩
  have n:Same H (upd H dx (.own o)):=Ah e _;have i:upd H dx (.own o) o=none:=by rw [Al (WU g)];exact l
  have b:=n.trans (Ah i (.ins ad.Stop dx [("low",y),("high",z)]));rw [Jk];exact q _ _ b (.stop Ag (k.keep b) (u.keep b))
theorem rK (T:Txt K mg ad):CalB P w K mg base true 3 "is_piece" ["thing"] (rG K):=by
 refine T.Nb.calN YC (λ _ _ _ _ _ _=>Br λ _=>rfl) (λ vs H Q E h=>?_) (λ f cdv A outer s H vs Q E C h=>?_)
 ·obtain ⟨_,_,_,rfl,_⟩:=h;rfl
 obtain ⟨v,pc,m,rfl,j,ok,S,hm,q⟩:=h;obtain ⟨z,a8,U,sh⟩:=pI ok S;rw [U] at j;obtain ⟨a,xs,rfl,ha,D⟩:=j.tup_of;obtain ⟨a9,b,rfl,F,k⟩:=D.cons_of;obtain rfl:=F.str_of;have hl:=k.len;rw [X9] at hl;have a7:=sh.len;obtain ⟨b0,W,X⟩:∃t,PSs (Cv true P w K mg base ["thing"] "is_piece" (defScope Jq) f cdv A outer s H E).nox ((defBody Jq).drop 2) t/\∀(R:Ends) (y:Hp),Same H y->(∀g,Same H g->R.rt (.bl true) g)->t R [some (.ref a)] y:=by
  refine ⟨_,(Ae (Az (BR Bu (Ai Ar (pv 0) Ac) (Bb (v:=.str "stop") rfl T.ex.m_STOP ⟨⟨_,T.ex.z_STOP⟩,rfl⟩)) (Af (Aq (FJ (Di Bu (BW Cy rfl T.len Cr (Ad (pv 0) Ab)) Ac) (Fo (PL (Am (N5 T) C.m Aw (BX (Ai Ar (pv 0) Ac) (BX (Ai Ar (pv 0) Ac) Ab)))))))) BJ) (Af (Aq (FJ (Di fZ (Ai Ar (pv 0) Ac) (Cz (Ad (Bb (v:=.str "gap") rfl T.ex.m_GAP ⟨⟨_,T.ex.z_GAP⟩,rfl⟩) (Ad (Bb (v:=.str "glass") rfl T.ex.m_GLASS ⟨⟨_,T.ex.z_GLASS⟩,rfl⟩) Ab)))) (Fo (Di Bu (BW Cy rfl T.len Cr (Ad (pv 0) Ab)) Ac)))))),?_⟩
  intro R y t2 q;refine ⟨_,rfl,a,_,_,_,rfl,rfl,ha.keep t2,Dv,rfl,_,rfl,?_⟩;rw [Bg];cases sh with
  | stop G I J=>
   obtain ⟨b1,b2,rfl,Y,Z⟩:=k.two;refine Bm ⋯ ?_
   refine ⟨_,rfl,a,_,rfl,.inr (ha.keep t2),rfl,_,rfl,iteT ?_⟩;refine ⟨_,rfl,a,_,_,_,rfl,rfl,ha.keep t2,rfl,_,rfl,a,_,_,_,rfl,rfl,ha.keep t2,rfl,?_⟩;refine ⟨_,_,.cons (Z.keep t2) (.cons (Y.keep t2) .nil),⟨_,_,rfl,J.sm hm,I.sm hm,rfl⟩,λ v b3 s3 j=>?_⟩
   obtain rfl:=j.bl_of;refine ⟨_,rfl,?_⟩;rw [η G];exact q _ (t2.trans s3)
  | one e1 e2=>
   refine BP e1 ?_;refine ⟨_,rfl,a,_,_,_,rfl,rfl,ha.keep t2,Dv,(by show 2<=X3;decide),λ a0 L=>?_⟩
   have t3:=t2.trans (Ah L (.tup [.str "gap",.str "glass"]));refine ⟨a0,_,rfl,.inr (SqT.of Ag),rfl,rfl,_,rfl,Bm ((Xz z).trans e2) ?_⟩;refine ⟨_,rfl,a,_,rfl,.inr (ha.keep t3),rfl,?_⟩;have M:b.length=1:=hl;show R.rt (.bl (decide (V.int ((b.length+1:Nat):Int)=V.int 2))) _;rw [M];exact q _ t3
 refine ⟨_,(Ae (Az (PW.pt (pw_or (Bt (Bh (BW Dy rfl T.isinstance Cq (Ad (pv 0) (Ad (Dq (v:=.ty "tuple") rfl T.tuple Jl rfl) Ab))))) (pw_or (BR GX (BW Cy rfl T.len Cr (Ad (pv 0) Ab)) Ac) (pw_or1 (Bt (Bh (BW Dy rfl T.isinstance Cq (BX (Ai Ar (pv 0) Ac) (Ad (Dq (v:=.ty "str") rfl T.str HY rfl) Ab))))))))) (Af (Aq DW)) BJ) (Ae (Az (Bt (Bh (BW (Lx rfl) rfl T.all N8 (Dc (Ir ["part"] [none] rfl (Q7 (Fb Oe (pv 0) (Et Ac) HW)) (λ _ _ _ _ _=>(Bv (i:=0) (show yb [("part":Str)] by decide))) (λ _ _ _ _ _=>Gf) (λ _ _ _ _ _=>(Am (rP T) C.m Aw (Ad (pv 0) Ab))) (Fz ⋯ ⋯) ⋯ rfl ⋯ rfl (Gr rfl)) Ab)))) (Af (Aq DW)) BJ) W)),?_⟩
 refine ⟨_,rfl,_,_,_,_,rfl,j,Kc _,_,rfl,iteF ?_⟩;refine ⟨_,rfl,a,_,rfl,.inr ha,_,_,rfl,rfl,_,rfl,BP (η (by simp only [W6];omega)) ?_⟩
 refine ⟨_,rfl,a,_,_,_,rfl,rfl,ha,Dv,_,_,_,_,rfl,F,Hd _,_,rfl,iteF ?_⟩;refine ⟨_,rfl,_,rfl,a,_,rfl,ha,(λ e=>by rw [K7] at e;simp only [W6] at e;omega),λ p a1=>⟨p,rfl,⟨_,SqT.of Ag⟩,?_⟩⟩
 rw [Oq];have B:=Ah a1 (.tup ((V.str z::b).drop 1));have d:=k.keep B;have u:upd H p (.tup ((V.str z::b).drop 1)) p=some (.tup b):=Ag;generalize upd H p (.tup ((V.str z::b).drop 1))=a2 at B d u ⊢;refine Od (K:=K) (a:=p) (xs:=b) (λ i l o g=>∃r,l=[r]/\o=YO i (V.bl true)/\Same a2 g) ⟨_,rfl,rfl,Same.refl _⟩ ?_ ?_ ?_
 ·rintro i l o g hi ⟨r,rfl,rfl,s'⟩
  refine ⟨?_,SqT.of (s' _ _ u)⟩;have b4:=small1000 (n:=1000) ⋯
  rw [GA];omega
 ·rintro i x l o g hi ⟨r,rfl,rfl,s'⟩
  obtain ⟨dx,N,a3⟩:=d.get hi;obtain ⟨a4,rfl⟩:=q8 N;exact ⟨_,rfl,_,a4,rfl,a3.keep s',nx (CJ hi) ⟨_,rfl,List.replicate_succ'.symm,s'⟩⟩
 ·rintro l o g a5 ⟨r,rfl,rfl,s'⟩ O
  have a6:=Ah O (.lst (YO b.length (V.bl true)));refine ⟨a5,YO b.length true,rfl,SqL.of (by rw [jL];exact Ag),_,rfl,?_⟩
  rw [iZ];exact iteF (X _ _ (B.trans (s'.trans a6)) q)
theorem Qu (T:Txt K mg ad):CalB P w K mg base true 4 "look_at" ["bench"] (qQ K):=by
 refine T.Ol.calN JV (λ _ _ _ _ _ _=>Br λ _=>rfl) (λ vs H Q E h=>?_) (λ f cdv A outer s H vs Q E y h=>?_)
 ·obtain ⟨_,_,_,rfl,_⟩:=h;rfl
 obtain ⟨v,ps,m,rfl,r,z,hm,q⟩:=h;obtain ⟨a,xs,rfl,ha,o⟩:=DV.lst_of r;have hl:xs.length=ps.length:=by have:=o.len;rw [X9] at this;exact this
 have D:=z.len;refine ⟨_,(Ae (Az (PW.pt (pw_or (Bt (Bh (BW Dy rfl T.isinstance Cq (Ad (pv 0) (Ad (Dq (v:=.ty "list") rfl T.list ZK rfl) Ab))))) (pw_or1 (BR GD (BW Cy rfl T.len Cr (Ad (pv 0) Ab)) (Bb (v:=.int 60) rfl T.ex.m_MOST_PIECES ⟨_,rfl⟩))))) (Af Gv) BJ) (Af (Dk WH rfl (Sv rfl T.enumerate (Ad (pv 0) Ab)) (Vb (n:=2) rfl (En (Bv (i:=1) JV.nd) (En (Bv (i:=2) JV.nd) Jp))) (Af (Az (Bt (Bh (Am (rK T) y.m Aw (Ad (pv 2) Ab)))) (Af Gv) BJ))))),?_⟩
 refine ⟨_,rfl,_,_,_,_,rfl,r,YH _,_,rfl,?_⟩;refine iteF ?_;refine ⟨_,rfl,a,_,rfl,.inl ha,_,_,rfl,rfl,_,rfl,BP (η ∅) ?_⟩
 refine ⟨_,rfl,a,rfl,⟨_,ha⟩,?_⟩;refine Ym (K:=K) (a:=a) (xs:=xs) (λ i g j=>∃k l,g=[some (.ref a),k,l]/\Same H j) ⟨_,_,rfl,Same.refl _⟩ ?_ ?_ ?_
 ·rintro i g j hi ⟨k,l,rfl,b⟩
  exact ha.keep b
 ·rintro i x g j p hi ⟨k,l,rfl,b⟩ B
  obtain ⟨d,hd,C⟩:=o.get hi;obtain ⟨pc,t,rfl⟩:=Mg hd;have e:=YB t;have u:=b.trans (Ah B (.tup [.int i,x]));refine ⟨p,_,rfl,SqT.of Ag,rfl,_,_,rfl,_,_,rfl,rfl,?_⟩;exact ⟨_,rfl,_,_,_,rfl,C.keep u,z.ok _ e,z.bd _ e,hm,λ F s3=>⟨_,rfl,iteF ⟨_,_,rfl,u.trans s3⟩⟩⟩
 ·rintro g j ⟨k,l,rfl,b⟩
  exact q _ b
end
end K71
namespace K71
open PySem L2 Lib Fr Op Tx PySem.NumText
seal PE PT PW PA PS PSs PG PGs PI PO CP PJ
section
variable {P:ZU}{w:World}{K:FrG}{mg:Y1->Option Value}{base:Heap}{ad:Adr}{c:Bool}
theorem eE (T:Txt K mg ad):CalB P w K mg base true 1 "show_ratio" ["one"] (aP K):=by
 refine T.RQ.calN UL (λ _ _ _ _ _ _=>Br λ _=>rfl) (λ vs H Q E h=>?_) (λ f cdv A outer s H vs Q E m h=>?_)
 ·obtain ⟨_,_,rfl,_⟩:=h;rfl
 obtain ⟨v,p,rfl,k,sp,q⟩:=h;have hn:=XQ sp.n;have hd:=XQ sp.d;obtain ⟨a,o,r,rfl,h,e1,e2⟩:=DV.t2 (show DV K H v (.tuple [.int p.num,.int (p.den:Int)]) from k)
 obtain rfl:=DV.int_of e1;obtain rfl:=DV.int_of e2;refine ⟨_,(Ae (Ax (i:=1) UL.nd (Ai Ar (pv 0) Ac)) (Ae (Ax (i:=2) UL.nd (Ai Ar (pv 0) Ac)) (Ae (Az (BR Bu (pv 2) Ac) (Af (Aq (Jg ZG rfl T.str HY (Ad (pv 1) Ab)))) BJ) (Af (Aq (AP1 (YF (pv 1) (rE (YF (pv 2) vf))))))))),?_⟩;refine ⟨_,rfl,a,_,_,_,rfl,rfl,h,rfl,?_⟩;refine ⟨_,rfl,a,_,_,_,rfl,rfl,h,rfl,?_⟩;refine ⟨_,rfl,rfl,_,rfl,?_⟩;have e1:∀x:Y1,cl x=sh p->x=Ay p:=λ x l=>ext (l.trans (Em p).symm)
 refine ite2 (λ b=>?_) (λ b=>?_)
 ·have g:p.den=1:=by
   have z:decide (V.int (p.den:Int)=V.int 1)=true:=b;rw [Dr] at z;have:=of_decide_eq_true z;omega
  refine ⟨_,rfl,_,rfl,hn,?_⟩;have e2:Y2 (toString p.num)=Ay p:=e1 _ (by rw [Lj];unfold sh;rw [if_pos g,WC])
  show Q (.str (Y2 (toString p.num))) H;rw [e2];exact q
 ·have g:¬ p.den=1:=by
   intro e
   apply b
   show decide (V.int (p.den:Int)=V.int 1)=true;rw [Dr,e];rfl
  have j:((p.den:Int)).natAbs.log2 < 1920:=by rw [QI];exact hd
  have t:=cj hn;have u:=cj j;have z0:Fk.length=0:=rfl;have zs:(Y2 "/").length=1:=rfl;refine ⟨_,rfl,_,.inl ⟨_,rfl,hn,rfl⟩,Do (by rw [Ds];omega),Do (by rw [Ds,Ds];omega),_,rfl,_,.inl ⟨_,rfl,j,rfl⟩,Do (by rw [Ds,Ds,Ds];omega),Do (by rw [Ds,Ds,Ds];omega),?_⟩
  have e2:=e1 _ (show cl ((Fk++Y2 (toString p.num))++(Y2 "/")++Y2 (toString ((p.den:Nat):Int)))=sh p by
   rw [tU,cl,wf];unfold sh;rw [if_neg g])
  show Q (.str ((Fk++Y2 (toString p.num))++(Y2 "/")++Y2 (toString ((p.den:Nat):Int)))) H;rw [e2];exact q
theorem pN (T:Txt K mg ad):MkC P w K mg base 1 "Reader" ad.Reader ["self","words"] (zM ad.Reader):=by
 refine T.ex.i_Reader.mkc uQ (λ _ _ _ _ _ _=>Bf λ _ _=>rfl) (λ vs H Q E h=>?_) (λ f cdv A outer s H vs Q E d h=>?_)
 ·obtain ⟨a,dx,b,rfl,_⟩:=h;rfl
 obtain ⟨a,dx,b,rfl,ha,q⟩:=h;refine ⟨_,(Ae (Hy (pv 0) (pv 1)) (Af (Hy (pv 0) Ac))),?_⟩;refine ⟨_,rfl,_,rfl,a,ad.Reader,dx,[],rfl,ha,T.ex.l_Reader,T.ex.n_Reader_words,by decide,?_⟩
 refine ⟨_,rfl,a,ad.Reader,dx,[("words",.ref b)],rfl,Ag,T.ex.l_Reader,T.ex.n_Reader_place,by show 1 < 1000;decide,?_⟩
 rw [Jk];exact q
theorem RM (T:Txt K mg ad):MC P w K mg base 1 ad.Reader "is_done" ["self"] (uf ad.Reader):=by
 refine T.ex.q_Reader_is_done.mc iu (λ _ _ _ _ _ _=>Br λ _=>rfl) (λ vs H Q E h=>?_) (λ f cdv A outer s H vs Q E d h=>?_)
 ·obtain ⟨_,_,_,_,_,rfl,_⟩:=h;rfl
 obtain ⟨a,dx,b,ws,i,rfl,rd,q⟩:=h;refine ⟨_,(Af (Aq (Di Bu (Ei (pv 0)) (BW Cy rfl T.len Cr (Dc (Ei (pv 0)) Ab))))),?_⟩;refine ⟨_,rfl,a,_,dx,_,_,rfl,rd.r,T.ex.l_Reader,T.ex.n_Reader_place,rfl,_,rfl,a,_,dx,_,_,rfl,rd.r,T.ex.l_Reader,T.ex.n_Reader_words,rfl,b,_,rfl,.inl (SqL.of rd.w),rfl,?_⟩;rw [Dr,X9,show decide (((i:Nat):Int)=((ws.length:Nat):Int))=decide (i=ws.length) from decide_eq_decide.mpr ⟨λ h=>by omega,λ h=>by omega⟩]
 exact q
theorem Oh (T:Txt K mg ad):MC P w K mg base 2 ad.Reader "take_if" ["self","word"] (oH ad.Reader):=by
 refine T.ex.q_Reader_take_if.mc lJ (λ _ _ _ _ _ _=>Bf λ _ _=>rfl) (λ vs H Q E h=>?_) (λ f cdv A outer s H vs Q E l h=>?_)
 ·obtain ⟨_,_,_,_,_,_,rfl,_⟩:=h;rfl
 obtain ⟨a,dx,g,ws,i,z,rfl,rd,le,n,j⟩:=h;refine ⟨_,(Ae (Az (PW.pt (pw_or (Bh (AM3 (k:=1) (pv 0) l.m)) (pw_or1 (BR Dm (Ai Bq (Ei (pv 0)) (Ei (pv 0))) (pv 1))))) (Af (Aq DW)) BJ) (Ae (Yz (pv 0) Ac aZ) (Af (Aq DW)))),?_⟩
 refine ⟨_,rfl,a,_,dx,_,_,_,rfl,rd.r,rfl,RM T,a,dx,g,ws,i,rfl,rd,_,rfl,?_⟩;by_cases hi:i=ws.length
 ·refine Bm (ζ hi) (iteT (j λ e=>?_))
  have:=CJ e;omega
 ·refine BP (η hi) ?_;have il:i < ws.length:=by omega
  have d:ws[i]?=some ws[i]:=Xs il;refine ⟨_,rfl,a,_,dx,_,_,rfl,rd.r,T.ex.l_Reader,T.ex.n_Reader_words,rfl,_,rfl,a,_,dx,_,_,rfl,rd.r,T.ex.l_Reader,T.ex.n_Reader_place,rfl,g,_,_,.str ws[i],rfl,rfl,SqL.of rd.w,Ba (by rw [YN,d];rfl),_,rfl,rfl,_,rfl,?_⟩
  by_cases b:ws[i]=z
  ·refine BP (by rw [Bg,ζ b];rfl) ?_
   refine ⟨_,rfl,a,_,dx,_,_,rfl,rd.r,T.ex.l_Reader,T.ex.n_Reader_place,rfl,_,_,rfl,rfl,dx,_,rd.r,by show 2 < 1000;decide,?_⟩
   have e:((i:Int)+1)=((i+1:Nat):Int):=by omega
   rw [e];exact n (by rw [d,b])
  ·exact Bm (by rw [Bg,η b];rfl) (j (by rw [d];exact λ e=>b (Ux e)))
theorem xm (T:Txt K mg ad):CalB P w K mg base true 1 "words_of" ["text"] AQ0:=by
 refine T.Ro.calN RV (λ _ _ _ _ _ _=>Br λ _=>rfl) (λ vs H Q E h=>?_) (λ f cdv A outer s H vs Q E a0 h=>?_)
 ·obtain ⟨_,rfl,_⟩:=h;rfl
 obtain ⟨x,rfl,U,W,I,q⟩:=h;refine ⟨_,(Ae (Ax (i:=1) RV.nd (Bo Ab)) (Ae (Dk WH rfl (Ej (Cm WA ze yA Pg (pv 0) (Ak Aj Ab))) (Bv (i:=2) RV.nd) (Af (Az (Bh (Cm WA PySem.F.slot_str_endswith PySem.F.type_str_endswith jG (pv 2) (Ad (Bb (v:=.str ";") rfl T.ex.m_PARTED ⟨⟨_,T.ex.z_PARTED⟩,rfl⟩) Ab))) (Ae (DG (Cm XB XT XU Eg (pv 1) (BX (Fb XX (pv 2) HW (Et (wO vB Ac))) Ab))) (Af (DG (Cm XB XT XU Eg (pv 1) (Ad (Bb (v:=.str ";") rfl T.ex.m_PARTED ⟨⟨_,T.ex.z_PARTED⟩,rfl⟩) Ab))))) (Af (DG (Cm XB XT XU Eg (pv 1) (Ad (pv 2) Ab))))))) (Af (Aq (pv 1))))),?_⟩;refine ⟨(by show 0<=X3;decide),λ l hl=>?_⟩
 have J:=Ah hl (.lst []);have y:upd H l (.lst []) l=some (.lst []):=Ag;generalize upd H l (.lst [])=L at J y ⊢;refine ⟨_,rfl,rfl,x,_,rfl,rfl,rfl,U,λ p n=>⟨p,rfl,⟨_,SqL.of Ag⟩,?_⟩⟩
 have B:p≠l:=λ e=>by rw [e,y] at n;cases n
 have C:upd L p (.lst ((XO x (Y2 " ")).map V.str)) p=some (.lst ((XO x (Y2 " ")).map V.str)):=Ag;have M:=Ah n (.lst ((XO x (Y2 " ")).map V.str)) _ _ y;have N:=J.trans (Ah n (.lst ((XO x (Y2 " ")).map V.str)));generalize upd L p (.lst ((XO x (Y2 " ")).map V.str))=a1 at C M N ⊢;generalize a2:XO x (Y2 " ")=j at W I q C ⊢;have X:∀i,(Bl (j.take i)).length<=40002:=by
  intro i;have a3:∀D:List Y1,(Bl D).length<=2 * D.length:=by
   intro D
   induction D with
   | nil=>exact ZE _
   | cons w D a4=>
    have e:Bl (w::D)=Cu w++Bl D:=by unfold Bl;rw [YY,UN]
    rw [e,ZA,W6];have:(Cu w).length<=2:=by unfold Cu;split<;>simp
    omega
  have:=a3 (j.take i);rw [WS] at this;omega
 have step:∀(i:Nat) (z:Y1),j[i]?=some z->Bl (j.take (i+1))=Bl (j.take i)++Cu z:=by
  intro i z Y;rw [WO,Y];unfold Bl;rw [Ye,FA];simp
 refine Fx (K:=K) (a:=p) (xs:=j.map V.str) (λ i o d=>∃r,o=[some (.str x),some (.ref l),r]/\Same H d/\d p=some (.lst (j.map V.str))/\d l=some (.lst ((Bl (j.take i)).map V.str))) ⟨_,rfl,N,C,by rw [Au];exact M⟩ ?_ ?_ ?_
 ·rintro i o d hi ⟨r,rfl,k,g,b⟩
  exact SqL.of g
 ·rintro i v o d hi ⟨r,rfl,k,g,b⟩
  rw [YN] at hi;cases t:j[i]? with
  | none=>rw [t] at hi;cases hi
  | some z=>
   rw [t] at hi;cases hi
   have O:=step i z t;have a5:=X i;have Z:z.length<=X3:=W8 (I z (YB t)) ⋯
   refine ⟨_,rfl,rfl,z,_,rfl,rfl,_,rfl,?_⟩;cases R:FI z (Y2 ";") with
   | true=>
    have G:Cu z=[UA z none (some (-1)),Y2 ";"]:=by unfold Cu;rw [if_pos R]
    refine iteT ⟨_,rfl,.inl ⟨rfl,_,SqL.of b⟩,_,rfl,_,rfl,_,rfl,z,rfl,Z,l,_,_,rfl,rfl,b,M4 (by rw [X9];omega),?_⟩
    have m:upd d l (.lst ((Bl (j.take i)).map V.str++[.str (UA z none (some (-1)))])) l=some (.lst ((Bl (j.take i)).map V.str++[.str (UA z none (some (-1)))])):=Ag;have u:upd d l (.lst ((Bl (j.take i)).map V.str++[.str (UA z none (some (-1)))])) p=some (.lst (j.map V.str)):=by rw [Al B];exact g
    have S:=Nt k hl (.lst ((Bl (j.take i)).map V.str++[.str (UA z none (some (-1)))]));generalize upd d l (.lst ((Bl (j.take i)).map V.str++[.str (UA z none (some (-1)))]))=a6 at m u S ⊢;refine ⟨_,rfl,.inl ⟨rfl,_,SqL.of m⟩,l,_,_,rfl,rfl,m,M4 (by rw [ZA,X9];simp only [W6,XG];omega),?_⟩
    refine ⟨_,rfl,Nt S hl _,by rw [Al B];exact u,?_⟩
    rw [Ag,O,G,Ye,WG];rfl
   | false=>
    have G:Cu z=[z]:=by unfold Cu;rw [if_neg (by rw [R];exact ZL)]
    refine iteF ⟨_,rfl,.inl ⟨rfl,_,SqL.of b⟩,_,rfl,l,_,_,rfl,rfl,b,M4 (by rw [X9];omega),?_⟩
    refine ⟨_,rfl,Nt k hl _,by rw [Al B];exact g,?_⟩
    rw [Ag,O,G,Ye];rfl
 ·rintro o d ⟨r,rfl,k,g,b⟩
  rw [X9,Jn] at b;exact ⟨_,rfl,q l d k hl b⟩
theorem wM (T:Txt K mg ad):CalB P w K mg base true 1 "read_part_figures" ["text"] (rB ad.NoNumber):=by
 refine T.V3.calB uM (λ _ _ _ _ _ _=>Br λ _=>rfl) (λ vs H Q E h=>?_) (λ f cdv A outer s H vs Q E y h=>?_)
 ·obtain ⟨_,rfl,_⟩:=h;rfl
 obtain ⟨x,rfl,o,h⟩:=h;have l:x.length<=X3:=W8 o ⋯
 refine ⟨_,(Ae (Az (PW.pt (pw_or (Bt (Z0 Mw Mw Ac (BW bc rfl T.len Cr (Ad (pv 0) Ab)) (Bb (v:=.int 15) rfl T.ex.m_MOST_FIGURES ⟨_,rfl⟩))) (pw_or1 (Bt (Bh (BW (Lx rfl) rfl T.all N8 (Dc (aN rfl (pv 0) T.ex.m_FIGURES ⋯ ⋯ rfl ⋯ rfl rfl rfl rfl) Ab))))))) (Af (Dh BK rfl T.ex.c_NoNumber (Ak Aj Ab))) BJ) (Af (Aq (Jg AQ6 rfl T.int M6 (Ad (pv 0) Ab))))),?_⟩
 refine ⟨_,rfl,x,rfl,l,_,_,rfl,rfl,_,rfl,?_⟩;have u:∀(p:Addr),H p=none->∀r:Prop,((((cl x).map λ c=>decide (48<=c/\c<=57)).all id)=true->1<=x.length->x.length<=15->r)->True:=λ _ _ _ _=>trivial
 have i:∀g,Same H g->¬ (wo (cl x)/\1<=x.length/\x.length<=15)->((1:Nat)<=X3/\E (.ref ad.NoNumber) none g):=λ g s' n=>by
  rcases h with ⟨a,b,c,q⟩ | ⟨_,q⟩
  ·exact absurd ⟨a,b,c⟩ n
  ·exact ⟨by decide,q g s'⟩
 refine ite2 (λ j=>?_) (λ j=>?_)
 ·have m:(1:Int)<=(x.length:Int):=of_decide_eq_true j;refine ⟨_,_,rfl,rfl,_,rfl,?_⟩;by_cases k:(x.length:Int)<=15
  ·rw [show decide ((x.length:Int)<=15)=true from ζ k]
   refine iteF ?_;refine ⟨_,rfl,x,rfl,l,λ p t=>?_⟩
   refine ⟨p,(cl x).map λ c=>decide (48<=c/\c<=57),rfl,SqL.of (by rw [yh];exact Ag),_,rfl,?_⟩
   have sp:=Ah t (.lst ((zz x).map λ z=>V.bl (!(Ua (Y2 "0123456789") z 0 (Y2 "0123456789").length 1).isEmpty)))
   by_cases d:wo (cl x)
   ·rw [(Yv (cl x)).mpr d];refine iteF ?_;rcases h with ⟨a,b,c,q⟩ | ⟨n,q⟩
    ·refine ⟨_,rfl,x,_,rfl,by omega,intText_digits a (λ e=>?_) ∅,q _ sp⟩
     have:=DX x;rw [cl,e] at this;simp at this
     omega
    ·exact absurd ⟨d,by omega,by omega⟩ n
   ·have e:(((cl x).map λ c=>decide (48<=c/\c<=57)).all id)=false:=ND.mpr λ z=>d ((Yv _).mp z)
    rw [e];exact iteT (i _ sp λ z=>d z.1)
  ·rw [show decide ((x.length:Int)<=15)=false from η k]
   exact iteT (iteT (i _ (Same.refl _) λ z=>k ∅))
 ·have m:¬ (1:Int)<=(x.length:Int):=λ z=>j (ζ z)
  refine ⟨_,rfl,?_⟩;exact iteT (iteT (i _ (Same.refl _) λ z=>m ∅))
abbrev NR:List Y1:=["text","is_below","parts","top","bottom","one"]
abbrev XR (P:ZU)(w:World)(K:FrG)(mg:Y1->Option Value)(base:Heap)(f:Addr)(cdv:Value)(A:XA)(outer:List Env)(s:X1)(H:Hp)(E:XK):Cx:=Cv true P w K mg base NR "read_ratio" (defScope K8) f cdv A outer s H E
abbrev bodyR:List Stmt:=defBody K8
theorem lW (T:Txt K mg ad){f:Addr}{cdv:Value}{A:XA}{outer:List Env}{s:X1}{H:Hp}{E:XK}(l:RoomB true 2 (XR P w K mg base f cdv A outer s H E).A):∃t,PSs (XR P w K mg base f cdv A outer s H E) (bodyR.drop 7) t/\
  (∀(x:Y1) (B:Bool) (p r:Addr) (i j:Int) (q:Rat) (d:Hp) (g:Ends),d r=some (Ib q)->cl x=sh q->Short q->g.rt (.ref r) d->t g [some (.str x),some (.bl B),some (.ref p),some (.int i),some (.int j),some (.ref r)] d)/\
  (∀(x:Y1) (B:Bool) (p r:Addr) (i j a b:Int) (d:Hp) (g:Ends),d r=some (.tup [.int a,.int b])->a.natAbs < 10 ^ 15->b.natAbs < 10 ^ 15->(∀q,Short q->cl x≠sh q)->E (.ref ad.NoNumber) none d->t g [some (.str x),some (.bl B),some (.ref p),some (.int i),some (.int j),some (.ref r)] d):=by
 refine ⟨_,(Ae (Az (PW.pt (pw_or (Bt (Bh (Am (Qa T) l.m (Bj BK) (Ad (pv 5) Ab)))) (pw_or1 (BR Dm (Am (eE T) l.m (Bj BK) (Ad (pv 5) Ab)) (pv 0))))) (Af (Dh BK rfl T.ex.c_NoNumber (Ak Aj Ab))) BJ) (Af (Aq (pv 5)))),?_,?_⟩
 ·intro x B p r i j q d g h e D k;have dv:DV K d (.ref r) (Av q):=.tup (SqT.of h) (.cons (.int _) (.cons (.int _) .nil));refine ⟨_,rfl,_,_,rfl,dv,_,rfl,?_⟩;have F:(1:Int)<=((q.den:Nat):Int):=by have:=KY q;omega
  refine BP (by show (!(decide (1<=((q.den:Nat):Int)) && decide (Fr.gcd q.num ((q.den:Nat):Int)=1)))=false;rw [ζ F,ζ (T5 q)];rfl) ?_
  refine ⟨_,rfl,_,q,rfl,dv,D,_,rfl,rfl,_,rfl,?_⟩;have ex:Ay q=x:=ext ((Em q).trans e.symm);refine iteNS (by rw [ex]) ?_
  exact ⟨_,rfl,k⟩
 ·intro x B p r i j a b d g h ha hb G k;have n:(1:Nat)<=X3/\E (.ref ad.NoNumber) none d:=⟨by decide,k⟩
  have dv:DV K d (.ref r) (.tuple [.int a,.int b]):=.tup (SqT.of h) (.cons (.int _) (.cons (.int _) .nil));refine ⟨_,rfl,_,_,rfl,dv,_,rfl,?_⟩;by_cases o:1<=b/\Fr.gcd a b=1
  ·refine BP (by show (!(decide (1<=b) && decide (Fr.gcd a b=1)))=false;rw [ζ o.1,ζ o.2];rfl) ?_
   obtain ⟨q,u,I⟩:=X8 o.1 o.2;have v:Short q:=⟨by rw [u];exact ha,by omega⟩
   have y:DV K d (.ref r) (Av q):=by rw [Av,u,I];exact dv
   refine ⟨_,rfl,_,q,rfl,y,v,_,rfl,rfl,_,rfl,?_⟩;refine ite2 (λ _=>n) (λ z=>?_)
   exfalso
   apply z
   have ne:¬ V.str (Ay q)=V.str x:=λ e=>G q v (by rw [<- V.str.inj e,Em])
   rw [η ne];rfl
  ·have e:(decide (1<=b) && decide (Fr.gcd a b=1))=false:=by
    by_cases C:1<=b
    ·rw [η (λ z=>o ⟨C,z⟩),FV]
    ·rw [η C,wi]
   exact Bm (by show (!(decide (1<=b) && decide (Fr.gcd a b=1)))=true;rw [e];rfl) (iteT n)
theorem yH (T:Txt K mg ad){f:Addr}{cdv:Value}{A:XA}{outer:List Env}{s:X1}{H:Hp}{E:XK}(I:RoomB true 2 (XR P w K mg base f cdv A outer s H E).A):∃t,PSs (XR P w K mg base f cdv A outer s H E) (bodyR.drop 3) t/\
  (∀(x:Y1) (p:Addr) (ps:List Y1) (q:Rat) (D:Hp) (Q:Ends),Short q->cl x=sh q->D p=some (.lst (ps.map V.str))->ps.map cl=cut 47 (bd q)->(∀r F,Same D F->F r=some (Ib q)->Q.rt (.ref r) F)->t Q [some (.str x),some (.bl (decide (q.num < 0))),some (.ref p),none,none,none] D)/\
  (∀(x:Y1) (B:Bool) (p:Addr) (ps:List Y1) (D:Hp) (Q:Ends),(∀q,Short q->cl x≠sh q)->D p=some (.lst (ps.map V.str))->ps≠[]->(∀z∈ps,z.length<=100000)->(∀F,Same D F->E (.ref ad.NoNumber) none F)->t Q [some (.str x),some (.bl B),some (.ref p),none,none,none] D):=by
 obtain ⟨W,a7,a4,kN⟩:=lW (P:=P) (w:=w) (base:=base) (E:=E) T I;refine ⟨_,(Ae (Az (BR GD (BW Cy rfl T.len Cr (Ad (pv 2) Ab)) Ac) (Af (Dh BK rfl T.ex.c_NoNumber (Ak Aj Ab))) BJ) (Ae (Ax (i:=3) Jj.nd (Am (wM T) I.m (Bj BK) (BX (Ai Bq (pv 2) Ac) Ab))) (Ae (Ax (i:=4) Jj.nd (Kw (BR Bu (BW Cy rfl T.len Cr (Ad (pv 2) Ab)) Ac) (Am (wM T) I.m (Bj BK) (BX (Ai Bq (pv 2) Ac) Ab)) Ac)) (Ae (Ax (i:=5) Jj.nd (Cz (xq (Kw (Bh (pv 1)) (Ao G4 Ac (pv 3)) (pv 3)) (Ad (pv 4) Ab)))) a7)))),?_,?_⟩
 ·intro x p ps q D Q S ex g a k;have a5:=(Hg (m:=q.num.natAbs) (k:=15) ⋯).mpr S.n
  have a8:=(Hg (m:=q.den) (k:=15) ⋯).mpr S.d
  have b8:=Qm q.num.natAbs;have b9:=Qm q.den;rw [KJ] at a;have good:∀(z:Y1) (m:Nat),cl z=dg m->(dg m).length<=15->wo (cl z)/\1<=z.length/\z.length<=15/\z.length<=100000/\Qv (cl z)=m:=λ z m e l=>by
   have:=DX z;rw [e] at this;have:=Qm m;exact ⟨by rw [e];exact JH m,by omega,by omega,by omega,by rw [e];exact Gi m⟩
  have o:(if q.num < 0 then 0 - ((q.num.natAbs:Nat):Int) else ((q.num.natAbs:Nat):Int))=q.num:=by split<;>omega
  by_cases X:q.den=1
  ·rw [if_pos X] at a
   match ps,a,g with
   | [z],a,g=>
    have Y:cl z=dg q.num.natAbs:=by simpa using a
    obtain ⟨Z,a0,a1,a2,a3⟩:=good z _ Y a5;refine ⟨_,rfl,p,_,rfl,.inl (SqL.of g),_,_,rfl,rfl,_,rfl,?_⟩;refine iteF ?_;refine ⟨_,rfl,p,_,_,_,rfl,rfl,SqL.of g,rfl,z,rfl,a2,.inl ⟨Z,a0,a1,λ M C=>?_⟩⟩
    rw [a3];refine ⟨_,rfl,p,_,rfl,.inl (SqL.of (C _ _ g)),rfl,_,rfl,?_⟩;refine iteF ?_;refine ⟨_,rfl,_,rfl,?_⟩;have h:∀v:Int,v=q.num->(2<=X3/\∀r,M r=none->W Q [some (.str x),some (.bl (decide (q.num < 0))),some (.ref p),some (.int ((q.num.natAbs:Nat):Int)),some (.int 1),some (.ref r)] (upd M r (.tup [.int v,.int 1]))):=λ v U=>⟨by decide,λ r I=>by
     have e:(HO.tup [.int v,.int 1])=Ib q:=by rw [U,Ib,X];rfl
     exact a4 x _ p r _ _ q _ Q (by rw [e];exact Ag) ex S (k r _ (C.trans (Ah I _)) (by rw [e];exact Ag))⟩
    by_cases hn:q.num < 0
    ·rw [ζ hn];rw [ζ hn] at h;rw [if_pos hn] at o;refine iteT ?_;exact ⟨_,rfl,_,_,rfl,rfl,_,rfl,h _ o⟩
    ·rw [η hn];rw [η hn] at h;rw [if_neg hn] at o;refine iteF ?_;exact ⟨_,rfl,_,rfl,h _ o⟩
   | [],a,_=>simp at a
   | _::_::_,a,_=>simp at a
  ·rw [if_neg X] at a
   match ps,a,g with
   | [z,y],a,g=>
    have Y:cl z=dg q.num.natAbs:=by simp at a;exact a.1
    have a9:cl y=dg q.den:=by simp at a;exact a.2
    obtain ⟨Z,a0,a1,a2,a3⟩:=good z _ Y a5;obtain ⟨L,b0,b1,b2,b3⟩:=good y _ a9 a8;refine ⟨_,rfl,p,_,rfl,.inl (SqL.of g),_,_,rfl,rfl,_,rfl,?_⟩;refine iteF ?_;refine ⟨_,rfl,p,_,_,_,rfl,rfl,SqL.of g,rfl,z,rfl,a2,.inl ⟨Z,a0,a1,λ M C=>?_⟩⟩
    rw [a3];have u:=C _ _ g;refine ⟨_,rfl,p,_,rfl,.inl (SqL.of u),rfl,_,rfl,?_⟩;refine iteT ?_;refine ⟨_,rfl,p,_,_,_,rfl,rfl,SqL.of u,rfl,y,rfl,b2,.inl ⟨L,b0,b1,λ G s3=>?_⟩⟩
    rw [b3];refine ⟨_,rfl,_,rfl,?_⟩;have a6:=C.trans s3;have h:∀v:Int,v=q.num->(2<=X3/\∀r,G r=none->W Q [some (.str x),some (.bl (decide (q.num < 0))),some (.ref p),some (.int ((q.num.natAbs:Nat):Int)),some (.int ((q.den:Nat):Int)),some (.ref r)] (upd G r (.tup [.int v,.int ((q.den:Nat):Int)]))):=λ v U=>⟨by decide,λ r I=>by
     have e:(HO.tup [.int v,.int ((q.den:Nat):Int)])=Ib q:=by rw [U]
     exact a4 x _ p r _ _ q _ Q (by rw [e];exact Ag) ex S (k r _ (a6.trans (Ah I _)) (by rw [e];exact Ag))⟩
    by_cases hn:q.num < 0
    ·rw [ζ hn];rw [ζ hn] at h;rw [if_pos hn] at o;refine iteT ?_;exact ⟨_,rfl,_,_,rfl,rfl,_,rfl,h _ o⟩
    ·rw [η hn];rw [η hn] at h;rw [if_neg hn] at o;refine iteF ?_;exact ⟨_,rfl,_,rfl,h _ o⟩
   | [],a,_=>simp at a
   | [_],a,_=>simp at a
   | _::_::_::_,a,_=>simp at a
 ·intro x B p ps D Q b4 g R hl k;have b5:∀F,Same D F->((1:Nat)<=X3/\E (.ref ad.NoNumber) none F):=λ F s'=>⟨by decide,k F s'⟩
  refine ⟨_,rfl,p,_,rfl,.inl (SqL.of g),_,_,rfl,rfl,_,rfl,?_⟩;refine ite2 (λ _=>b5 _ (Same.refl _)) (λ b6=>?_)
  have J:¬ ((2:Int) < (((ps.map V.str).length:Nat):Int)):=λ z=>b6 (ζ z)
  rw [X9] at J
  match ps,R,g,hl,J with
  | [],R,_,_,_=>exact absurd rfl R
  | z::b7,_,g,hl,J=>
   refine ⟨_,rfl,p,_,_,_,rfl,rfl,SqL.of g,Ba (j:=0) rfl,z,rfl,hl z (YV ..),?_⟩;by_cases N:wo (cl z)/\1<=z.length/\z.length<=15
   ·refine .inl ⟨N.1,N.2.1,N.2.2,λ M C=>?_⟩
    have u:=C _ _ g;have c0:=gQ N.1 (by rw [DX];exact N.2.2)
    have h:∀(b:Int) (G:Hp),Same D G->b.natAbs < 10 ^ 15->∀v:Int,v.natAbs=Qv (cl z)->(2<=X3/\∀r,G r=none->W Q [some (.str x),some (.bl B),some (.ref p),some (.int ((Qv (cl z):Nat):Int)),some (.int b),some (.ref r)] (upd G r (.tup [.int v,.int b]))):=λ b G s3 hb v U=>⟨by decide,λ r I=>kN x B p r _ _ v b _ Q Ag ∅ hb b4 (k _ (s3.trans (Ah I _)))⟩
    refine ⟨_,rfl,p,_,rfl,.inl (SqL.of u),rfl,_,rfl,?_⟩
    match b7,g,hl,J,u with
    | [],g,hl,J,u=>
     refine iteF ?_;refine ⟨_,rfl,_,rfl,?_⟩;have L:=h 1 M C ⋯
     cases B with
     | true=>exact ⟨_,rfl,_,_,rfl,rfl,_,rfl,L _ ∅⟩
     | false=>exact ⟨_,rfl,_,rfl,L _ ∅⟩
    | [y],g,hl,J,u=>
     refine iteT ?_;refine ⟨_,rfl,p,_,_,_,rfl,rfl,SqL.of u,rfl,y,rfl,hl y (by simp),?_⟩
     by_cases O:wo (cl y)/\1<=y.length/\y.length<=15
     ·refine .inl ⟨O.1,O.2.1,O.2.2,λ G s3=>?_⟩
      have c1:=gQ O.1 (by rw [DX];exact O.2.2)
      refine ⟨_,rfl,_,rfl,?_⟩;have L:=h ((Qv (cl y):Nat):Int) G (C.trans s3) ∅
      cases B with
      | true=>exact ⟨_,rfl,_,_,rfl,rfl,_,rfl,L _ ∅⟩
      | false=>exact ⟨_,rfl,_,rfl,L _ ∅⟩
     ·exact .inr ⟨O,λ G s3=>k _ (C.trans s3)⟩
    | _::_::_,_,_,J,_=>
     exfalso;simp only [W6] at J;omega
   ·exact .inr ⟨N,λ M C=>k _ C⟩
theorem cI (T:Txt K mg ad):CalB P w K mg base true 3 "read_ratio" ["text"] (AH0 ad.NoNumber):=by
 refine T.RZ.calB Jj (λ _ _ _ _ _ _=>Br λ _=>rfl) (λ vs H Q E h=>?_) (λ f cdv A outer s H vs Q E C h=>?_)
 ·obtain ⟨_,rfl,_⟩:=h;rfl
 obtain ⟨v,rfl,h⟩:=h;obtain ⟨L,D,B,kN⟩:=yH (P:=P) (w:=w) (base:=base) (f:=f) (cdv:=cdv) (A:=A) (outer:=outer) (s:=s) (H:=H) (E:=E) T C;refine ⟨_,(Ae (Az (Bt (Bh (BW Dy rfl T.isinstance Cq (Ad (pv 0) (Ad (Dq (v:=.ty "str") rfl T.str HY rfl) Ab))))) (Af (Dh BK rfl T.ex.c_NoNumber (Ak Aj Ab))) BJ) (Ae (Ax (i:=1) Jj.nd (Cm WA PySem.F.slot_str_startswith PySem.F.type_str_startswith ww (pv 0) (Ak Aj Ab))) (Ae (Ax (i:=2) Jj.nd (Kw (Bh (pv 1)) (Cm WA ze yA Pg (Fb XX (pv 0) (Et Ac) HW) (Ak Aj Ab)) (Cm WA ze yA Pg (pv 0) (Ak Aj Ab)))) D))),?_⟩;have st:∀x:Y1,FY x (Y2 "-")=decide ((cl x).head?=some 45):=λ x=>by rw [AM8,zB]
 have t:∀x:Y1,(XO x (Y2 "/")).map cl=cut 47 (cl x):=λ x=>by rw [AJ8,GF]
 rcases h with ⟨x,q,rfl,u,ex,k⟩ | ⟨x,rfl,g,hn,k⟩
 ·have hl:=eX q u;have G:x.length<=40:=by rw [<- DX,ex];exact hl
  refine ⟨_,rfl,_,_,_,_,rfl,.str x,Hd _,_,rfl,iteF ?_⟩;refine ⟨_,rfl,rfl,_,_,rfl,rfl,?_⟩;have e1:FY x (Y2 "-")=decide (q.num < 0):=by rw [st,ex,M7]
  rw [e1];refine ⟨_,rfl,_,rfl,?_⟩;have l:=M8 q;by_cases a:q.num < 0
  ·rw [ζ a];refine iteT ?_;have m:(UA x (some 1) none).length<=40:=W8 (MR _ _ _) G;refine ⟨_,rfl,_,rfl,x,rfl,Do ∅,rfl,_,_,rfl,rfl,rfl,Do ∅,λ p d=>?_⟩
   rw [if_pos a] at l;have:=B x p _ q _ { nx:=λ _ b=>Q .non b,rt:=Q } u ex Ag (by rw [t,z7,ex,l]) λ r b s' j=>k r b ((Ah d _).trans s') j
   rw [ζ a] at this;exact this
  ·rw [η a];refine iteF ?_;refine ⟨_,rfl,rfl,_,_,rfl,rfl,rfl,Do ∅,λ p d=>?_⟩
   rw [if_neg a] at l;have:=B x p _ q _ { nx:=λ _ b=>Q .non b,rt:=Q } u ex Ag (by rw [t,ex,l]) λ r b s' j=>k r b ((Ah d _).trans s') j
   rw [η a] at this;exact this
 ·refine ⟨_,rfl,_,_,_,_,rfl,.str x,Hd _,_,rfl,iteF ?_⟩;refine ⟨_,rfl,rfl,_,_,rfl,rfl,?_⟩;refine ⟨_,rfl,_,rfl,?_⟩;have parts:∀y:Y1,y.length<=100000->XO y (Y2 "/")≠[]/\∀z∈XO y (Y2 "/"),z.length<=100000:=λ y I=>by
   refine ⟨λ e=>Ww 47 (cl y) (by rw [<- t,e];rfl),λ z J=>W8 (PyProof.Rows.part_short J) I⟩
  have o:∀n:Nat,n<=100000->n+2<=X3:=λ n h=>W8 (xE h 2) ⋯
  refine ite2 (λ _=>?_) (λ _=>?_)
  ·have m:(UA x (some 1) none).length<=100000:=W8 (MR _ _ _) g;refine ⟨_,rfl,_,rfl,x,rfl,W8 g ⋯,rfl,_,_,rfl,rfl,rfl,o _ m,λ p d=>?_⟩
   exact kN x _ p _ _ _ hn Ag (parts _ m).1 (parts _ m).2 λ b s'=>k b ((Ah d _).trans s')
  ·refine ⟨_,rfl,rfl,_,_,rfl,rfl,rfl,o _ g,λ p d=>?_⟩
   exact kN x _ p _ _ _ hn Ag (parts _ g).1 (parts _ g).2 λ b s'=>k b ((Ah d _).trans s')
theorem jK (T:Txt K mg ad):CalB P w K mg base true 4 "read_number_texts" ["word"] (gh K ad.NoText):=by
 refine T.T6.calB zT (λ _ _ _ _ _ _=>Br λ _=>rfl) (λ vs H Q E h=>?_) (λ f cdv A outer s H vs Q E a h=>?_)
 ·obtain ⟨_,rfl,_⟩:=h;rfl
 obtain ⟨x,rfl,d,q,g⟩:=h;refine ⟨_,(Af (dF BK (cI T) a.m (Ad (pv 0) Ab) T.ex.m_NoNumber T.ex.c_NoText)),?_⟩
 cases e:numOf x with
 | some r=>
  obtain ⟨i,rfl⟩:=K9 e;exact ⟨_,rfl,_,rfl,.inl ⟨_,r,rfl,i,Em r,λ p b s' j=>q r e _ b s' (.tup (SqT.of j) (.cons (.int _) (.cons (.int _) .nil)))⟩⟩
 | none=>exact ⟨_,rfl,_,rfl,.inr ⟨x,rfl,d,λ r a ex=>Xx e r a (ext (by rw [Em,ex])),λ b s'=>⟨_,rfl,T.ex.x_NoNumber_NoNumber,g e b s'⟩⟩⟩
end
end K71
namespace K71
open PySem L2 Lib Fr Op
seal PE PT PW PA PS PSs PG PGs PI PO CP
section
variable {P:ZU}{w:World}{K:FrG}{mg:Str->Option Value}{base:Heap}{ad:Adr}{c:Bool}
theorem X7 (T:Txt K mg ad):CalB P w K mg base true 3 "is_piece" ["thing"] (oM K):=by
 refine T.Nb.calN YC (λ _ _ _ _ _ _=>Br λ _=>rfl) (λ vs H Q E h=>?_) (λ f cdv A outer s H vs Q E S h=>?_)
 ·obtain ⟨_,_,rfl,_⟩:=h;rfl
 obtain ⟨v,d,rfl,B,sm,q⟩:=h;refine ⟨_,(Ae (Az (PW.pt (pw_or (Bt (Bh (BW Dy rfl T.isinstance Cq (Ad (pv 0) (Ad (Dq (v:=.ty "tuple") rfl T.tuple Jl rfl) Ab))))) (pw_or (BR GX (BW Cy rfl T.len Cr (Ad (pv 0) Ab)) Ac) (pw_or1 (Bt (Bh (BW Dy rfl T.isinstance Cq (BX (Ai Ar (pv 0) Ac) (Ad (Dq (v:=.ty "str") rfl T.str HY rfl) Ab))))))))) (Af (Aq DW)) BJ) (Ae (Az (Bt (Bh (BW (Lx rfl) rfl T.all N8 (Dc (Ir ["part"] [none] rfl (Q7 (Fb Oe (pv 0) (Et Ac) HW)) (λ _ _ _ _ _=>(Bv (i:=0) (show yb [("part":Str)] by decide))) (λ _ _ _ _ _=>Gf) (λ _ _ _ _ _=>(Am (Qa T) S.m Aw (Ad (pv 0) Ab))) (Fz ⋯ ⋯) ⋯ rfl ⋯ rfl (Gr rfl)) Ab)))) (Af (Aq DW)) BJ) (Ae (Az (BR Bu (Ai Ar (pv 0) Ac) (Bb (v:=.str "stop") rfl T.ex.m_STOP ⟨⟨_,T.ex.z_STOP⟩,rfl⟩)) (Af (Aq (FJ (Di Bu (BW Cy rfl T.len Cr (Ad (pv 0) Ab)) Ac) (Fo (PL (Am (N5 T) S.m Aw (BX (Ai Ar (pv 0) Ac) (BX (Ai Ar (pv 0) Ac) Ab)))))))) BJ) (Af (Aq (FJ (Di fZ (Ai Ar (pv 0) Ac) (Cz (Ad (Bb (v:=.str "gap") rfl T.ex.m_GAP ⟨⟨_,T.ex.z_GAP⟩,rfl⟩) (Ad (Bb (v:=.str "glass") rfl T.ex.m_GLASS ⟨⟨_,T.ex.z_GLASS⟩,rfl⟩) Ab)))) (Fo (Di Bu (BW Cy rfl T.len Cr (Ad (pv 0) Ab)) Ac)))))))),?_⟩
 refine ⟨_,rfl,_,_,_,_,rfl,B,Kc d,_,rfl,?_⟩;cases ht:JC d with
 | false=>
  refine iteT (iteT ?_);have e:Ft d=false:=by
   cases d with
   | tuple ds=>cases ht
   | _=>rfl
  rw [e] at q;exact q _ (Same.refl _)
 | true=>
  obtain ⟨ds,rfl⟩:=dW ht;obtain ⟨a,xs,rfl,ha,k⟩:=B.tup_of;refine iteF ?_;refine ⟨_,rfl,a,_,rfl,.inr ha,_,_,rfl,rfl,_,rfl,?_⟩;rcases ds with _ | ⟨u,_ | ⟨b,dr⟩⟩
  ·obtain rfl:=k.nil_of;exact Bm ⋯ (iteT (q _ (Same.refl _)))
  ·obtain ⟨a2,xs,rfl,M,k⟩:=k.cons_of;obtain rfl:=k.nil_of;have e:Ft (.tuple [u])=false:=by cases u<;>rfl
   rw [e] at q;exact Bm (ζ (by show ((1:Nat):Int) < 2;decide)) (iteT (q _ (Same.refl _)))
  ·obtain ⟨a2,xs,rfl,M,k⟩:=k.cons_of;obtain ⟨l,j,rfl,C,g⟩:=k.cons_of;refine BP (η (by simp only [W6];omega)) ?_
   refine ⟨_,rfl,a,_,_,_,rfl,rfl,ha,Dv,_,_,_,_,rfl,M,Hd u,_,rfl,?_⟩;cases U:JT u with
   | false=>
    refine iteT ?_;have e:Ft (.tuple (u::b::dr))=false:=by
     cases u with
     | str z=>cases U
     | _=>rfl
    rw [e] at q;exact q _ (Same.refl _)
   | true=>
    obtain ⟨z,rfl⟩:=Xg U;obtain rfl:=M.str_of;refine iteF ?_;refine ⟨_,rfl,_,rfl,a,_,rfl,ha,(λ e=>by rw [K7] at e;simp only [W6] at e;omega),λ p a3=>⟨p,rfl,⟨_,SqT.of Ag⟩,?_⟩⟩
    rw [Oq];have W:=Ah a3 (.tup ((V.str z::l::j).drop 1));have y:DVs K (upd H p (.tup ((V.str z::l::j).drop 1))) (l::j) (b::dr):=(DVs.cons C g).keep W;refine Od (K:=K) (a:=p) (xs:=l::j) (λ i D F G=>∃I,D=[I]/\F=((b::dr).take i).map (λ d=>V.bl (Cp d))/\Same (upd H p (.tup ((V.str z::l::j).drop 1))) G) ⟨_,rfl,rfl,Same.refl _⟩ ?_ ?_ ?_
    ·rintro i D F G hi ⟨I,rfl,rfl,s'⟩
     refine ⟨?_,SqT.of (s' _ _ Ag)⟩;have:=(DVs.cons C g).len;have b6:=(sm _ rfl).1;have b7:=small1000 (n:=1000) ⋯
     simp only [W6] at *;rw [X9,WS];omega
    ·rintro i x D F G hi ⟨I,rfl,rfl,s'⟩
     obtain ⟨dx,J,a4⟩:=y.get hi;refine ⟨_,rfl,_,dx,rfl,a4.keep s',nx (CJ hi) ⟨_,rfl,?_,s'⟩⟩;have b4:=CJ J;rw [WO,J,Ye];rfl
    ·rintro D F G a5 ⟨I,rfl,rfl,s'⟩ X
     have a6:=Ah X (.lst (((b::dr).take (l::j).length).map (λ d=>V.bl (Cp d))))
     have t2:=W.trans (s'.trans a6);have a7:(b::dr).take (l::j).length=b::dr:=zd (by have:=(DVs.cons C g).len;omega)
     refine ⟨a5,(b::dr).map Cp,rfl,SqL.of (by rw [Ag,a7,Qc];rfl),_,rfl,?_⟩
     have a8:((b::dr).map Cp).all id=(b::dr).all Cp:=by rw [MU];rfl
     rw [a8];cases o:(b::dr).all Cp with
     | false=>
      refine iteT ?_;have e:Ft (.tuple (.str z::b::dr))=false:=by show ((b::dr).all Cp && _)=false;rw [o];rfl
      rw [e] at q;exact q _ t2
     | true=>
      refine iteF ?_;have r:=jp.mp o;refine ⟨_,rfl,a,_,_,_,rfl,rfl,ha.keep t2,Dv,rfl,_,rfl,?_⟩;rw [Bg];by_cases N:z="stop"
      ·subst N;refine Bm ⋯ ?_
       have e:Ft (.tuple (.str "stop"::b::dr))=Gh (b::dr):=by show ((b::dr).all Cp && _)=_;rw [o];rfl
       rw [e] at q;refine ⟨_,rfl,a,_,rfl,.inr (ha.keep t2),rfl,_,rfl,?_⟩;rw [Dr];rcases dr with _ | ⟨O,_ | ⟨a9,Y⟩⟩
       ·obtain rfl:=g.nil_of;have b0:Gh [b]=false:=by
         unfold Gh
         split
         ·rename_i R;cases R
         ·rfl
        rw [b0] at q;exact BP (η (by show ¬ ((2:Nat):Int)=3;decide)) (q _ t2)
       ·obtain ⟨b1,j,rfl,Z,g⟩:=g.cons_of;obtain rfl:=g.nil_of;obtain ⟨lo,rfl⟩:=gZ (r b (by simp))
        obtain ⟨hi,rfl⟩:=gZ (r O (by simp))
        refine Bm (ζ (by show ((3:Nat):Int)=3;decide)) ?_
        refine ⟨_,rfl,a,_,_,_,rfl,rfl,ha.keep t2,rfl,_,rfl,a,_,_,_,rfl,rfl,ha.keep t2,rfl,?_⟩;refine ⟨_,_,.cons (Z.keep t2) (.cons (C.keep t2) .nil),⟨hi,lo,rfl,(sm _ rfl).2 _ (by simp),(sm _ rfl).2 _ (by simp),rfl⟩,λ v b8 s3 B=>?_⟩
        obtain rfl:=B.bl_of;refine ⟨_,rfl,?_⟩;rw [VH] at q;exact q _ (t2.trans s3)
       ·obtain ⟨b1,j,rfl,Z,g⟩:=g.cons_of;obtain ⟨b9,j,rfl,c0,g⟩:=g.cons_of;refine BP (η (by simp only [W6];omega)) ?_
        have e2:Gh (b::O::a9::Y)=false:=by
         unfold Gh
         split
         ·rename_i R;cases R
         ·rfl
        rw [e2] at q;exact q _ t2
      ·refine BP (η N) ?_;have e:Ft (.tuple (.str z::b::dr))=((decide (z="gap") || decide (z="glass")) && dr.isEmpty):=by
        show ((b::dr).all Cp && (if z="stop" then _ else _))=_
        rw [o,if_neg N];rfl
       rw [e] at q;refine ⟨_,rfl,a,_,_,_,rfl,rfl,ha.keep t2,Dv,(by show 2<=X3;decide),λ b2 a0=>?_⟩
       have b3:=Ah a0 (.tup [.str "gap",.str "glass"]);have t3:=t2.trans b3;refine ⟨b2,_,rfl,.inr (SqT.of Ag),rfl,rfl,_,rfl,?_⟩;have L:(if false=true then !inV (.str z) [.str "gap",.str "glass"] else inV (.str z) [.str "gap",.str "glass"])=(decide (z="gap") || decide (z="glass")):=Xz z
       cases t:(decide (z="gap") || decide (z="glass")) with
       | false=>
        rw [t] at q;exact BP (L.trans t) (q _ t3)
       | true=>
        rw [t,qe] at q;refine Bm (L.trans t) ?_;refine ⟨_,rfl,a,_,rfl,.inr (ha.keep t3),rfl,?_⟩;have a1:decide (V.int (((V.str z::l::j).length:Nat):Int)=V.int 2)=dr.isEmpty:=by
         rw [Dr];have:=g.len;cases dr with
         | nil=>
          have:j=[]:=Fc (by simpa using this)
          subst this;rfl
         | cons O b5=>
          simp only [W6] at this ⊢;exact η ∅
        show Q (.bl (decide (V.int (((V.str z::l::j).length:Nat):Int)=V.int 2))) _;rw [a1];exact q _ t3
end
end K71
namespace K71
open PySem L2 Lib Fr Op Tx PySem.NumText
seal PE PT PW PA PS PSs PG PGs PI PO CP PJ
section
variable {P:ZU}{w:World}{K:FrG}{mg:Y1->Option Value}{base:Heap}{ad:Adr}{c:Bool}
theorem yN (n:Nat):Y2 (toString ((n:Nat):Int))=CN n:=ext (by rw [Lj,Hh,if_neg ∅];rfl)
theorem qC {m n:Nat}(h:CN m=CN n):m=n:=Yo (by rw [<- Hh,<- Hh,h])
theorem Mu {q:Rat}(h:Short q):Bd 50 q:=by
 have a:(10:Nat) ^ 15<=2 ^ 50:=by decide
 exact ⟨Zu h.n a,Zu h.d a⟩
theorem Ku (T:Txt K mg ad):MC P w K mg base 2 ad.Reader "take" ["self"] (j8 ad.Reader ad.NoText):=by
 refine T.ex.q_Reader_take.mcR jh (λ _ _ _ _ _ _=>Br λ _=>rfl) (λ vs H Q E h=>?_) (λ f cdv A outer s H vs Q E l h=>?_)
 ·obtain ⟨_,_,_,_,_,rfl,_⟩:=h;rfl
 obtain ⟨a,dx,g,ws,i,rfl,rd,il,q,n⟩:=h;refine ⟨_,(Ae (Az (Bh (Jd (k:=1) (Bj BK) (pv 0) l.m)) (Af (Dh BK rfl T.ex.c_NoText (Ak Aj Ab))) BJ) (Ae (Yz (pv 0) Ac aZ) (Af (Aq (Ai Bq (Ei (pv 0)) (Ao G4 (Ei (pv 0)) Ac)))))),?_⟩
 refine ⟨_,rfl,a,_,dx,_,_,_,rfl,rd.r,rfl,RM T,a,dx,g,ws,i,rfl,rd,_,rfl,?_⟩;by_cases d:i=ws.length
 ·refine Bm (ζ d) ⟨(by show 1<=X3;decide),n ?_⟩
  rw [d];exact BS (ZE _)
 ·refine BP (η d) ?_;obtain ⟨z,j⟩:∃z,ws[i]?=some z:=⟨_,Xs ∅⟩
  refine ⟨_,rfl,a,_,dx,_,_,rfl,rd.r,T.ex.l_Reader,T.ex.n_Reader_place,rfl,_,_,rfl,rfl,dx,_,rd.r,by show 2 < 1000;decide,?_⟩
  have b:=rd.step (i+1);have e:((i:Int)+1)=((i+1:Nat):Int):=by omega
  rw [e];refine ⟨_,rfl,a,_,dx,_,_,rfl,b.r,T.ex.l_Reader,T.ex.n_Reader_words,rfl,_,rfl,a,_,dx,_,_,rfl,b.r,T.ex.l_Reader,T.ex.n_Reader_place,rfl,_,_,rfl,rfl,g,_,_,.str z,rfl,rfl,SqL.of b.w,?_,q z j⟩;have e2:((i+1:Nat):Int) - 1=(i:Int):=by omega
  rw [e2];exact Ba (by rw [YN,j];rfl)
theorem AL5 (T:Txt K mg ad):CalB P w K mg base true 1 "read_times" ["word"] (m9 ad.NoText):=by
 refine T.QK.calB Yj (λ _ _ _ _ _ _=>Br λ _=>rfl) (λ vs H Q E h=>?_) (λ f cdv A outer s H vs Q E o h=>?_)
 ·obtain ⟨_,rfl,_⟩:=h;rfl
 obtain ⟨x,rfl,q,j⟩:=h;refine ⟨_,(Ae (Dk NJ rfl (JN rfl T.range (By (Ao DY (Bb (v:=.int 60) rfl T.ex.m_MOST_TIMES ⟨_,rfl⟩) Ac) Ab)) (Bv (i:=1) Yj.nd) (Af (Az (BR Bu (pv 0) (Jg ZG rfl T.str HY (Ad (pv 1) Ab))) (Af (Aq (pv 1))) BJ))) (Af (Dh BK rfl T.ex.c_NoText (Ak Aj Ab)))),?_⟩;refine ⟨_,_,rfl,rfl,_,rfl,by decide,by decide,?_⟩
 refine Ke (lo:=0) (n:=61) (λ i b d=>∃g,b=[some (.str x),g]/\d=H/\∀m,m < i->x≠CN m) ⟨_,rfl,rfl,λ m h=>by omega⟩ ?_ ?_
 ·rintro i b d hi ⟨g,rfl,rfl,a⟩
  have k:(0+(i:Int))=(i:Int):=by omega
  rw [k];have l:((i:Int)).natAbs.log2 < 1920:=by
   rw [QI];exact QH (Nat.log2_le_self _) ∅
  refine ⟨_,rfl,_,rfl,_,rfl,l,rfl,_,rfl,?_⟩;rw [Bg,yN];by_cases e:x=CN i
  ·refine Bm (ζ e) ⟨_,rfl,q i ?_⟩;cases ht:Eb x with
   | none=>exact absurd e (di ht i ∅)
   | some n=>rw [qC ((Q6 ht).1.symm.trans e)]
  ·refine BP (η e) ⟨_,rfl,rfl,λ m hm=>?_⟩
   by_cases z:m=i
   ·rw [z];exact e
   ·exact a m ∅
 ·rintro b d ⟨g,rfl,rfl,a⟩
  refine ⟨(by show 1<=X3;decide),j ?_⟩
  cases ht:Eb x with
  | none=>rfl
  | some n=>
   have:=Q6 ht;exact absurd this.1 (a n ∅)
theorem Yx (T:Txt K mg ad){k r:Nat}{S:Sp}(b2:r<=3 * k+3)(Y:k≠0->S=SX K ad.Reader ad.NoText k)(a6:CalB P w K mg base true r "read_parts" ["reader","deep"] S):CalB P w K mg base true (3 * k+4) "read_round" ["reader","word","deep"] (dJ K ad.Reader ad.NoText k):=by
 refine T.Ue.calB U5 (λ _ _ _ _ _ _=>Ht λ _ _ _=>rfl) (λ vs H Q E h=>?_) (λ f cdv A outer s H vs Q E F h=>?_)
 ·obtain ⟨_,_,_,_,_,_,_,rfl,_⟩:=h;rfl
 obtain ⟨a,dx,g,ws,i,x,dp,rfl,b3,rd,il,Z,q,d⟩:=h;refine ⟨_,(Ae (Ax (i:=3) U5.nd (Am (AL5 T) (F.mono ∅) (Bj BK) (Ad (pv 1) Ab))) (Ae (Az (BR Bu (pv 2) (Bb (v:=.int 4) rfl T.ex.m_MOST_DEEP ⟨_,rfl⟩)) (Af (Dh BK rfl T.ex.c_NoText (Ak Aj Ab))) BJ) (Ae (Az (PW.pt (pw_or (Bt (Bh (Ew (k:=2) (Bj BK) (pv 0) (F.mono ∅) (Ad (Bb (v:=.str "times") rfl T.ex.m_TIMES ⟨⟨_,T.ex.z_TIMES⟩,rfl⟩) Ab)))) (pw_or1 (Bt (Bh (Ew (k:=2) (Bj BK) (pv 0) (F.mono ∅) (Ad (Bb (v:=.str "(") rfl T.ex.m_OPENED ⟨⟨_,T.ex.z_OPENED⟩,rfl⟩) Ab))))))) (Af (Dh BK rfl T.ex.c_NoText (Ak Aj Ab))) BJ) (Ae (Ax (i:=4) U5.nd (Am a6 (F.mono ∅) (Bj BK) (Ad (pv 0) (By (Ao DY (pv 2) Ac) Ab)))) (Ae (Az (Bt (Bh (Ew (k:=2) (Bj BK) (pv 0) (F.mono ∅) (Ad (Bb (v:=.str ")") rfl T.ex.m_CLOSED ⟨⟨_,T.ex.z_CLOSED⟩,rfl⟩) Ab)))) (Af (Dh BK rfl T.ex.c_NoText (Ak Aj Ab))) BJ) (Af (Aq (Cz (Ad (Bb (v:=.str "times") rfl T.ex.m_TIMES ⟨⟨_,T.ex.z_TIMES⟩,rfl⟩) (Ad (pv 3) (Ad (pv 4) Ab))))))))))),?_⟩
 unfold HH at q d;refine ⟨_,rfl,x,rfl,λ n ht=>?_,λ ht=>?_⟩
 rotate_left
 ·rw [ht] at d;exact d rfl H (SD.refl _ _)
 rw [ht] at q d;dsimp only at q d
 by_cases k0:k=0
 ·rw [if_pos k0] at d;refine ⟨_,rfl,rfl,_,rfl,Bm (by rw [Dr];exact ζ ∅) ⟨(by show 1<=X3;decide),d rfl H (SD.refl _ _)⟩⟩
 obtain rfl:=Y k0;rw [if_neg k0] at q d;refine ⟨_,rfl,rfl,_,rfl,BP (by rw [Dr];exact η ∅) ?_⟩
 refine ⟨_,rfl,a,_,dx,_,_,_,rfl,rd.r,rfl,Oh T,a,dx,g,ws,i,Aa "times",rfl,rd,il,λ M=>?_,λ M=>?_⟩
 rotate_left
 ·rw [if_neg M] at d;exact ⟨_,rfl,iteT (iteT ⟨(by show 1<=X3;decide),d rfl H (SD.refl _ _)⟩)⟩
 rw [if_pos M] at q d;have a0:=CJ M;have C:=rd.step (i+1);have G:SD a H (upd H a (CW ad.Reader dx g (i+1))):=Fj _;generalize upd H a (CW ad.Reader dx g (i+1))=N at C G ⊢;refine ⟨_,rfl,iteF ?_⟩;refine ⟨_,rfl,a,_,dx,_,_,_,rfl,C.r,rfl,Oh T,a,dx,g,ws,i+1,Aa "(",rfl,C,a0,λ O=>?_,λ O=>?_⟩
 rotate_left
 ·rw [if_neg O] at d;exact ⟨_,rfl,iteT ⟨(by show 1<=X3;decide),d rfl N G⟩⟩
 rw [if_pos O] at q d;have a1:=CJ O;have I:=C.step (i+1+1);have U:SD a N (upd N a (CW ad.Reader dx g (i+1+1))):=Fj _;generalize upd N a (CW ad.Reader dx g (i+1+1))=a7 at I U ⊢;refine ⟨_,rfl,iteF ?_⟩;have y:=G.trans U;refine ⟨_,rfl,_,rfl,_,_,rfl,rfl,a,dx,g,ws,i+1+1,_,rfl,by omega,I,a1,Z,λ ps j R l xs B J a8 m hl a2=>?_,λ R B J=>?_⟩
 rotate_left
 ·rw [R] at d;exact d rfl B (y.trans J)
 rw [R] at q d;dsimp only at q d
 have a9:=(PQ (λ i p j h=>Kf rd.le k i p j h) _ _ _ _ R).2.1
 have L:=y.trans J;refine ⟨_,rfl,a,_,dx,_,_,_,rfl,m.r,rfl,Oh T,a,dx,g,ws,j,Aa ")",rfl,m,a9,λ t3=>?_,λ t3=>?_⟩
 rotate_left
 ·rw [if_neg t3] at d;exact ⟨_,rfl,iteT ⟨(by show 1<=X3;decide),d rfl B L⟩⟩
 rw [if_pos t3] at q;have a3:l≠a:=λ e=>by rw [e,m.r] at hl;cases hl
 have V:=m.step (j+1);have D:SD a B (upd B a (CW ad.Reader dx g (j+1))):=Fj _;have W:upd B a (CW ad.Reader dx g (j+1)) l=some (.lst xs):=by rw [Al a3];exact hl
 have a4:=Om m.r D;generalize upd B a (CW ad.Reader dx g (j+1))=b0 at V D W a4 ⊢;have fr:∀b,a7 b=none->H b=none:=λ b hb=>by
  cases e:H b with
  | none=>rfl
  | some o=>
   by_cases z:b=a
   ·rw [z,I.r] at hb;cases hb
   ·have:=y b o z e;rw [hb] at this;cases this
 refine ⟨_,rfl,iteF ⟨_,rfl,_,rfl,(by show 3<=X3;decide),λ t ht=>?_⟩⟩
 have u:=Ah ht (.tup [.str (Aa "times"),.int (n:Int),.ref l]);have a5:PVs K k (JR H) b0 xs ps:=a2.keep a4 λ b b4 b1 hb=>⟨D b _ (λ z=>by rw [z,m.r] at hb;cases hb) hb,fr b b1.1⟩
 have X:=a5.same u;exact q _ _ rfl _ _ ((L.trans D).trans (Lib.SD.ofSame u)) (V.keep u) ⟨t,l,xs,rfl,Ag,fr l a8,u _ _ W,X.1,X.2⟩
theorem Xy (T:Txt K mg ad){U:Nat}(b9:CalB P w K mg base true (3 * U+4) "read_round" ["reader","word","deep"] (dJ K ad.Reader ad.NoText U)):CalB P w K mg base true (3 * U+5) "read_part_texts" ["reader","deep"] (gD K ad.Reader ad.NoText (U+1)):=by
 refine T.Sx.calB Py (λ _ _ _ _ _ _=>Bf λ _ _=>rfl) (λ vs H Q E h=>?_) (λ f cdv A outer s H vs Q E N h=>?_)
 ·obtain ⟨_,_,_,_,_,_,rfl,_⟩:=h;rfl
 obtain ⟨a,dx,B,ws,i,dp,rfl,c7,rd,il,L,q,d⟩:=h;refine ⟨_,(Ae (Ax (i:=2) Py.nd (Jd (k:=2) (Bj BK) (pv 0) (N.mono ∅))) (Ae (Az (PW.pt (pw_or (BR Bu (pv 2) (Bb (v:=.str "gap") rfl T.ex.m_GAP ⟨⟨_,T.ex.z_GAP⟩,rfl⟩)) (pw_or1 (BR Bu (pv 2) (Bb (v:=.str "glass") rfl T.ex.m_GLASS ⟨⟨_,T.ex.z_GLASS⟩,rfl⟩))))) (Af (Aq (Cz (Ad (pv 2) (CQ (Am (jK T) (N.mono ∅) (Bj BK) (CQ (Jd (k:=2) (Bj BK) (pv 0) (N.mono ∅)) Ab)) Ab))))) BJ) (Ae (Az (BR Dm (pv 2) (Bb (v:=.str "stop") rfl T.ex.m_STOP ⟨⟨_,T.ex.z_STOP⟩,rfl⟩)) (Af (Aq (Am b9 (N.mono ∅) (Bj BK) (Ad (pv 0) (Ad (pv 2) (Ad (pv 1) Ab)))))) BJ) (Ae (Ax (i:=3) Py.nd (Am (jK T) (N.mono ∅) (Bj BK) (CQ (Jd (k:=2) (Bj BK) (pv 0) (N.mono ∅)) Ab))) (Ae (Ax (i:=4) Py.nd (Am (jK T) (N.mono ∅) (Bj BK) (CQ (Jd (k:=2) (Bj BK) (pv 0) (N.mono ∅)) Ab))) (Ae (Az (Bt (Bh (Am (X7 T) (N.mono ∅) (Bj BK) (Jt (Cz (Ad (Bb (v:=.str "stop") rfl T.ex.m_STOP ⟨⟨_,T.ex.z_STOP⟩,rfl⟩) (Ad (pv 3) (Ad (pv 4) Ab)))) Ab)))) (Af (Dh BK rfl T.ex.c_NoText (Ak Aj Ab))) BJ) (Af (Aq (Cz (Ad (Bb (v:=.str "stop") rfl T.ex.m_STOP ⟨⟨_,T.ex.z_STOP⟩,rfl⟩) (Ad (pv 3) (Ad (pv 4) Ab)))))))))))),?_⟩
 have one:(1:Nat)<=X3:=by decide
 refine ⟨_,rfl,a,_,dx,_,_,_,rfl,rd.r,rfl,Ku T,a,dx,B,ws,i,rfl,rd,il,λ x a4=>?_,λ a4=>?_⟩
 rotate_left
 ·exact d (by unfold BZ;rw [a4]) H (SD.refl _ _)
 have R:=CJ a4;have m:=rd.step (i+1);have D:SD a H (upd H a (CW ad.Reader dx B (i+1))):=Fj _;generalize upd H a (CW ad.Reader dx B (i+1))=I at m D ⊢;unfold BZ at q d;rw [a4] at q d;dsimp only at q d
 by_cases V:x=Aa "gap"
 ·rw [if_pos V] at q d;refine ⟨_,rfl,rfl,_,rfl,Bm (by rw [Bg];exact ζ V) (iteT ?_)⟩
  refine ⟨_,rfl,_,rfl,a,_,dx,_,_,_,rfl,m.r,rfl,Ku T,a,dx,B,ws,i+1,rfl,m,R,λ z g=>?_,λ g=>?_⟩
  rotate_left
  ·exact d (by unfold pNum;rw [g];rfl) I D
  have X:=CJ g;have G:=m.step (i+1+1);have n:SD a I (upd I a (CW ad.Reader dx B (i+1+1))):=Fj _;generalize upd I a (CW ad.Reader dx B (i+1+1))=W at G n ⊢;have C:=D.trans n;refine ⟨z,rfl,L z (YB g),λ c0 M v J s3 O=>?_,λ M J s3=>?_⟩
  ·refine ⟨(by show 2<=X3;decide),λ t ht=>?_⟩
   have u:=s3.trans (Ah ht (.tup [.str x,v]));refine q (El U (.gap c0)) (i+1+1) (by unfold pNum;rw [g];simp only [QY,M,zn]) _ _ (C.trans (Lib.SD.ofSame u)) (G.keep u) ?_
   rw [V];exact DV.upd2 ht (.str _) O
  ·exact d (by unfold pNum;rw [g];simp only [QY,M];rfl) J (C.trans (Lib.SD.ofSame s3))
 rw [if_neg V] at q d;by_cases Y:x=Aa "glass"
 ·rw [if_pos Y] at q d;refine ⟨_,rfl,rfl,_,rfl,BP (by rw [Bg];exact η V) ⟨_,rfl,rfl,_,rfl,Bm (by rw [Bg];exact ζ Y) ?_⟩⟩
  refine ⟨_,rfl,_,rfl,a,_,dx,_,_,_,rfl,m.r,rfl,Ku T,a,dx,B,ws,i+1,rfl,m,R,λ z g=>?_,λ g=>?_⟩
  rotate_left
  ·exact d (by unfold pNum;rw [g];rfl) I D
  have X:=CJ g;have G:=m.step (i+1+1);have n:SD a I (upd I a (CW ad.Reader dx B (i+1+1))):=Fj _;generalize upd I a (CW ad.Reader dx B (i+1+1))=W at G n ⊢;have C:=D.trans n;refine ⟨z,rfl,L z (YB g),λ c0 M v J s3 O=>?_,λ M J s3=>?_⟩
  ·refine ⟨(by show 2<=X3;decide),λ t ht=>?_⟩
   have u:=s3.trans (Ah ht (.tup [.str x,v]));refine q (El U (.glass c0)) (i+1+1) (by unfold pNum;rw [g];simp only [QY,M,zn]) _ _ (C.trans (Lib.SD.ofSame u)) (G.keep u) ?_
   rw [Y];exact DV.upd2 ht (.str _) O
  ·exact d (by unfold pNum;rw [g];simp only [QY,M];rfl) J (C.trans (Lib.SD.ofSame s3))
 rw [if_neg Y] at q d;refine ⟨_,rfl,rfl,_,rfl,BP (by rw [Bg];exact η V) ⟨_,rfl,rfl,_,rfl,BP (by rw [Bg];exact η Y) ?_⟩⟩
 by_cases a5:x=Aa "stop"
 ·rw [if_pos a5] at q d;refine ⟨_,rfl,rfl,_,rfl,BP (by rw [Bg,ζ a5];rfl) ?_⟩
  refine ⟨_,rfl,a,_,dx,_,_,_,rfl,m.r,rfl,Ku T,a,dx,B,ws,i+1,rfl,m,R,λ z g=>?_,λ g=>?_⟩
  rotate_left
  ·exact d (by unfold HS pNum;rw [g];rfl) I D
  have X:=CJ g;have G:=m.step (i+1+1);have n:SD a I (upd I a (CW ad.Reader dx B (i+1+1))):=Fj _;generalize upd I a (CW ad.Reader dx B (i+1+1))=W at G n ⊢;have C:=D.trans n;refine ⟨z,rfl,L z (YB g),λ lo a9 v J s3 O=>?_,λ M J s3=>?_⟩
  rotate_left
  ·exact d (by unfold HS;rw [show pNum ws (i+1)=none by unfold pNum;rw [g];simp only [QY,M];rfl]) J (C.trans (Lib.SD.ofSame s3))
  have c1:pNum ws (i+1)=some (lo,i+1+1):=by unfold pNum;rw [g];simp only [QY,a9,zn]
  unfold HS at q d;rw [c1] at q d;dsimp only at q d
  have S:=G.keep s3;have Z:=C.trans (Lib.SD.ofSame s3);refine ⟨_,rfl,a,_,dx,_,_,_,rfl,S.r,rfl,Ku T,a,dx,B,ws,i+1+1,rfl,S,X,λ b5 t2=>?_,λ t2=>?_⟩
  rotate_left
  ·rw [show pNum ws (i+1+1)=none by unfold pNum;rw [t2];rfl] at d
   exact d rfl J Z
  have b0:=S.step (i+1+1+1);have a0:SD a J (upd J a (CW ad.Reader dx B (i+1+1+1))):=Fj _;have b1:DV K (upd J a (CW ad.Reader dx B (i+1+1+1))) v (Av lo):=Gy (Om S.r a0) (yj _) O;generalize upd J a (CW ad.Reader dx B (i+1+1+1))=c8 at b0 a0 b1 ⊢;have a1:=Z.trans a0;refine ⟨b5,rfl,L b5 (YB t2),λ hi b2 y a6 a2 b6=>?_,λ M a6 a2=>?_⟩
  rotate_left
  ·rw [show pNum ws (i+1+1)=none by unfold pNum;rw [t2];simp only [QY,M];rfl] at d
   exact d rfl a6 (a1.trans (Lib.SD.ofSame a2))
  have c2:pNum ws (i+1+1)=some (hi,i+1+1+1):=by unfold pNum;rw [t2];simp only [QY,b2,zn]
  rw [c2] at q d;dsimp only at q d
  have c3:=(K9 a9).1;have c4:=(K9 b2).1;have b3:=b1.keep a2;have a3:=a1.trans (Lib.SD.ofSame a2);refine ⟨_,rfl,_,rfl,(by show 3<=X3;decide),λ t ht=>?_⟩
  have u:=Ah ht (.tup [.str (Y2 "stop"),v,y]);have dvs:DV K (upd a6 t (.tup [.str (Y2 "stop"),v,y])) (.ref t) (CK (.stop lo hi)):=.tup (SqT.of Ag) (.cons (.str _) (.cons (b3.keep u) (.cons (b6.keep u) .nil)));generalize upd a6 t (.tup [.str (Y2 "stop"),v,y])=c9 at u dvs ⊢;refine ⟨.ref t,_,rfl,dvs,pL c3 c4,λ c5 b7=>⟨_,rfl,?_⟩⟩
  rw [qp];by_cases a7:hi < lo
  ·rw [if_pos a7] at d;exact Bm (by rw [ζ a7];rfl) ⟨one,d rfl c5 (a3.trans (Lib.SD.ofSame (u.trans b7)))⟩
  ·rw [if_neg a7] at q;refine BP (by rw [η a7];rfl) ?_
   refine ⟨_,rfl,_,rfl,(by show 3<=X3;decide),λ t2 b8=>?_⟩
   have a8:=(u.trans b7).trans (Ah b8 (.tup [.str (Y2 "stop"),v,y]));exact q _ _ rfl _ _ (a3.trans (Lib.SD.ofSame a8)) (b0.keep (a2.trans a8)) (.tup (SqT.of Ag) (.cons (.str _) (.cons (b3.keep a8) (.cons (b6.keep a8) .nil))))
 ·rw [if_neg a5] at q d;refine ⟨_,rfl,rfl,_,rfl,Bm (by rw [Bg,η a5];rfl) ?_⟩
  have fr:∀b,I b=none->H b=none:=λ b hb=>by
   cases e:H b with
   | none=>rfl
   | some o=>
    by_cases z:b=a
    ·rw [z,m.r] at hb;cases hb
    ·have:=D b o z e;rw [hb] at this;cases this
  refine ⟨_,rfl,_,rfl,_,rfl,a,dx,B,ws,i+1,x,dp,rfl,by omega,m,R,L,λ p j b4 v W n G O=>?_,λ b4 W n=>d b4 W (D.trans n)⟩
  exact q p j b4 v W (D.trans n) G (PV.keep (F:=JR I) (λ b d0=>⟨λ e=>e,λ o e=>e⟩) (λ l xs c6 hl=>⟨hl,fr l c6⟩) _ O)
noncomputable def Dw {k:Nat} (ws:List Y1) (dn:List (Part k)) (n j:Nat):Option (List (Part k)×Nat):=if ws[j]?=some (Aa ";") then (match CT (BZ ws k) ws n (j+1) with
 | none=>none
 | some (ps,m)=>some (dn++ps,m)) else some (dn,j)
theorem Xj {k:Nat}{ws:List Y1}{n i j:Nat}{p:Part k}(h:BZ ws k i=some (p,j)):CT (BZ ws k) ws (n+1) i=Dw ws [p] n j:=by
 unfold Dw;rw [CT,h];dsimp only
 by_cases c:ws[j]?=some (Aa ";")
 ·rw [if_pos c,if_pos c];cases CT (BZ ws k) ws n (j+1) with
  | none=>rfl
  | some x=>rfl
 ·rw [if_neg c,if_neg c]
theorem pH {k:Nat}{ws:List Y1}{dn:List (Part k)}{n j a:Nat}{q:Part k}(c:ws[j]?=some (Aa ";"))(h:BZ ws k (j+1)=some (q,a)):Dw ws dn (n+1) j=Dw ws (dn++[q]) n a:=by
 have e:=Xj (n:=n) h;rw [show Dw ws dn (n+1) j=(match CT (BZ ws k) ws (n+1) (j+1) with | none=>none | some (ps,m)=>some (dn++ps,m)) by unfold Dw;rw [if_pos c],e]
 unfold Dw;by_cases b:ws[a]?=some (Aa ";")
 ·rw [if_pos b,if_pos b];cases CT (BZ ws k) ws n (a+1) with
  | none=>rfl
  | some x=>obtain ⟨ps,m⟩:=x;simp
 ·rw [if_neg b,if_neg b]
theorem AQ3 {k:Nat}{ws:List Y1}{dn:List (Part k)}{n j:Nat}(c:ws[j]?=some (Aa ";"))(h:BZ ws k (j+1)=none):Dw ws dn (n+1) j=none:=by
 unfold Dw;rw [if_pos c,CT,h]
theorem jO {k:Nat}{ws:List Y1}{dn:List (Part k)}{n j:Nat}(c:ws[j]?≠some (Aa ";")):Dw ws dn n j=some (dn,j):=by
 unfold Dw;rw [if_neg c]
theorem Yg (T:Txt K mg ad){k:Nat}(b6:CalB P w K mg base true (3 * k+5) "read_part_texts" ["reader","deep"] (gD K ad.Reader ad.NoText (k+1))):CalB P w K mg base true (3 * (k+1)+3) "read_parts" ["reader","deep"] (SX K ad.Reader ad.NoText (k+1)):=by
 refine T.Nj.calB VB (λ _ _ _ _ _ _=>Bf λ _ _=>rfl) (λ vs H Q E h=>?_) (λ f cdv A outer s H vs Q E b1 h=>?_)
 ·obtain ⟨_,_,_,_,_,_,rfl,_⟩:=h;rfl
 obtain ⟨a,dx,D,ws,d0,dp,rfl,a1,rd,il,R,q,Y⟩:=h;refine ⟨_,(Ae (Ax (i:=2) VB.nd (Bo (CQ (Am b6 (b1.mono ∅) (Bj BK) (Ad (pv 0) (Ad (pv 1) Ab))) Ab))) (Ae (Mv NJ (Bh (Ew (k:=2) (Bj BK) (pv 0) (b1.mono ∅) (Ad (Bb (v:=.str ";") rfl T.ex.m_PARTED ⟨⟨_,T.ex.z_PARTED⟩,rfl⟩) Ab))) (Af (DG (Cm XB XT XU Eg (pv 2) (CQ (Am b6 (b1.mono ∅) (Bj BK) (Ad (pv 0) (Ad (pv 1) Ab))) Ab))))) (Af (Aq (pv 2))))),?_⟩
 generalize hm:k+1=m at *;refine ⟨_,rfl,_,rfl,a,dx,D,ws,d0,dp,rfl,a1,rd,il,R,λ p j1 Z v L M S d1=>⟨(by show 1<=X3;decide),λ l hl=>?_⟩,λ Z L M=>?_⟩
 rotate_left
 ·exact Y (by rw [CT,Z]) L M
 rw [Xj Z] at q Y;obtain ⟨e1,b7,_⟩:=Kf rd.le m _ _ _ Z;have u:=Ah hl (.lst [v]);have N:l≠a:=λ e=>by rw [e,S.r] at hl;cases hl
 have b8:D≠l:=λ e=>by rw [<- e,S.w] at hl;cases hl
 have b9:H l=none:=by
  cases e:H l with
  | none=>rfl
  | some o=>have:=M l o N e;rw [this] at hl;cases hl
 have a2:SD a H (upd L l (.lst [v])):=M.trans (Lib.SD.ofSame u);have a3:=S.keep u;have c0:upd L l (.lst [v]) l=some (.lst [v]):=Ag;have a4:PVs K m (λ b=>H b=none/\b≠l) (upd L l (.lst [v])) [v] [p]:=by
  have:PV K m (λ b=>H b=none/\b≠l) (upd L l (.lst [v])) v p:=PV.keep (F:=JR H) u.t (λ b xs d hb=>⟨u _ _ hb,d,BV hb hl⟩) _ d1
  exact PVs.concat PVs.nil this
 generalize upd L l (.lst [v])=e3 at a2 a3 c0 a4 ⊢;refine ⟨λ c1 c2 g=>∃(dn:List (Part m)) (n j:Nat) (xs:List V),c1=ws.length - j/\c2=[some (.ref a),some (.int dp),some (.ref l)]/\SD a H g/\RdAt ad.Reader a dx D ws j g/\j<=ws.length/\ws.length+1<=n+j/\dn.length<=j/\Dw ws [p] ws.length j1=Dw ws dn n j/\g l=some (.lst xs)/\PVs K m (λ b=>H b=none/\b≠l) g xs dn,
  ⟨_,[p],ws.length,j1,[v],rfl,rfl,a2,a3,b7,by omega,by show 1<=j1;omega,rfl,c0,a4⟩,?_⟩
 rintro c1 c2 g ⟨dn,n,j,xs,rfl,rfl,sd,x,d2,e4,e5,b2,a5,U⟩
 have e6:xs.length<=50000:=by
  have d3:=U.1;have:=x.le;omega
 refine ⟨_,rfl,a,_,dx,_,_,_,rfl,x.r,rfl,Oh T,a,dx,D,ws,j,Y2 ";",rfl,x,d2,λ e=>?_,λ e=>?_⟩
 ·refine ⟨_,rfl,iteT ?_⟩;have c3:=CJ e;obtain ⟨b3,rfl⟩:∃b3,n=b3+1:=⟨n - 1,by omega⟩
  have B:=x.step (j+1);have I:SD a g (upd g a (CW ad.Reader dx D (j+1))):=Fj _;have O:upd g a (CW ad.Reader dx D (j+1)) l=some (.lst xs):=by rw [Al N];exact a5
  have a6:PVs K m (λ b=>H b=none/\b≠l) (upd g a (CW ad.Reader dx D (j+1))) xs dn:=U.keep (Om x.r I) λ b b4 d hb=>⟨I b _ (λ z=>by rw [z,x.r] at hb;cases hb) hb,d⟩
  generalize upd g a (CW ad.Reader dx D (j+1))=c4 at B I O a6 ⊢;have a7:=sd.trans I;refine ⟨λ a8 J=>∃(dn:List (Part m)) (n C:Nat) (xs:List V),j < C/\a8=[some (.ref a),some (.int dp),some (.ref l)]/\SD a H J/\RdAt ad.Reader a dx D ws C J/\C<=ws.length/\ws.length+1<=n+C/\dn.length<=C/\Dw ws [p] ws.length j1=Dw ws dn n C/\J l=some (.lst xs)/\PVs K m (λ b=>H b=none/\b≠l) J xs dn,
   λ a8 J ⟨c5,c6,C,a9,d3,d4,d5,d6,d7,d8⟩=>⟨ws.length - C,by omega,c5,c6,C,a9,rfl,d4,d5,d6,d7,d8⟩,?_⟩
  refine ⟨_,rfl,.inl ⟨rfl,_,SqL.of O⟩,_,rfl,_,rfl,a,dx,D,ws,j+1,dp,rfl,a1,B,c3,R,λ z C a0 y W G X d9=>?_,λ a0 W G=>?_⟩
  rotate_left
  ·rw [b2,AQ3 e a0] at Y;exact Y rfl W (a7.trans G)
  obtain ⟨e2,c7,_⟩:=Kf rd.le m _ _ _ a0;have b0:W l=some (.lst xs):=G l _ N O;have c8:PVs K m (λ b=>H b=none/\b≠l) W xs dn:=a6.keep (Om B.r G) λ b b4 d hb=>⟨G b _ (λ z=>by rw [z,B.r] at hb;cases hb) hb,d⟩
  have c9:PV K m (λ b=>H b=none/\b≠l) W y z:=PV.keep (F:=JR c4) (λ b b4=>⟨λ e=>e,λ o e=>e⟩) (λ b a9 d hb=>⟨hb,by
   have d:c4 b=none:=d;refine ⟨?_,λ e=>by rw [e,O] at d;cases d⟩
   cases e:H b with
   | none=>rfl
   | some o=>
    by_cases z:b=a
    ·rw [z,B.r] at d;cases d
    ·have:=a7 b o z e;rw [d] at this;cases this⟩) _ d9
  refine ⟨l,xs,_,rfl,rfl,b0,M4 ∅,?_⟩
  have e0:=R6 b0 (.lst (xs++[y]));refine ⟨dn++[z],b3,C,xs++[y],by omega,rfl,?_,⟨by rw [Al (WU N)];exact X.r,by rw [Al b8];exact X.w,X.le⟩,c7,by omega,by rw [ZA];simp only [W6,XG];omega,by rw [b2,pH e a0],Ag,?_⟩
  ·intro b o b5 e;rw [Al (BV e b9)];exact G b o b5 (I b o b5 (sd b o b5 e))
  ·exact (c8.concat c9).keep e0 λ b b4 d hb=>⟨by rw [Al d.2];exact hb,d⟩
 ·refine ⟨_,rfl,iteF ?_⟩;rw [b2,jO e] at q;exact ⟨_,rfl,q dn j rfl l xs g sd b9 x a5 U⟩
theorem aQ (T:Txt K mg ad):∀k:Nat,CalB P w K mg base true (3 * (k+1)+3) "read_parts" ["reader","deep"] (SX K ad.Reader ad.NoText (k+1))
 | 0=>Yg T (Xy T (Yx T (k:=0) (r:=1) ∅ (λ z=>absurd rfl z) (T.Nj.not (P:=P) (w:=w) (base:=base) (k:=0) VB (λ _ _ _ _ _ _=>Bf λ _ _=>rfl))))
 | k+1=>Yg T (Xy T (Yx T (k:=k+1) (r:=3 * (k+1)+3) (ZE _) (λ _=>rfl) (aQ T k)))
theorem gO {H:Hp}{x:V}{pc:Pc}(b:DV K H x (CK pc)):∃(t:Addr) (f:List V),x=.ref t/\SqT K H t (.str (wd pc)::f)/\wd pc≠Y2 "times":=by
 cases pc with
 | gap g=>
  obtain ⟨t,d,e,rfl,ht,a,_⟩:=DV.t2 (show DV K H x (.tuple [.str "gap",Av g]) from b)
  obtain rfl:=DV.str_of a;exact ⟨t,_,rfl,ht,by show Y2 "gap"≠_;decide+kernel⟩
 | glass g=>
  obtain ⟨t,d,e,rfl,ht,a,_⟩:=DV.t2 (show DV K H x (.tuple [.str "glass",Av g]) from b)
  obtain rfl:=DV.str_of a;exact ⟨t,_,rfl,ht,by show Y2 "glass"≠_;decide+kernel⟩
 | stop h i=>
  obtain ⟨t,d,e,j,rfl,ht,a,_,_⟩:=DV.t3 (show DV K H x (.tuple [.str "stop",Av h,Av i]) from b)
  obtain rfl:=DV.str_of a;exact ⟨t,_,rfl,ht,by show Y2 "stop"≠_;decide+kernel⟩
theorem Zj {k:Nat}{ps:List (Part k)}{i:Nat}{p:Part k}(h:ps[i]?=some p):Ca k (ps.take (i+1))=Ca k (ps.take i)+cnt k p:=by
 unfold Ca;rw [WO,h,Ye,List.sum_append];simp
theorem kh {k:Nat}{ps:List (Part k)}{i:Nat}{p:Part k}(h:ps[i]?=some p):Eu k (ps.take (i+1))=Eu k (ps.take i)++told k p:=by
 unfold Eu;rw [WO,h,Ye,FA];simp
theorem oR {k:Nat}(ps:List (Part k))(i:Nat):Ca k (ps.take i)<=Ca k ps:=by
 have h:=congrArg (Ca k) (List.take_append_drop i ps);unfold Ca at h ⊢;rw [Ye,List.sum_append] at h;omega
theorem cH {xs:List V}{k:Nat}{ps:List (Part k)}{i:Nat}{x:V}(e:xs.length=ps.length)(h:xs[i]?=some x):∃p,ps[i]?=some p:=⟨_,Xs (by rw [<- e];exact CJ h)⟩
theorem XS (T:Txt K mg ad):∀k:Nat,CalB P w K mg base true (k+2) "count_of" ["parts"] (xM K k)
 | 0=>by
  have u:=T.K1.not (P:=P) (w:=w) (base:=base) (k:=0) G3 (λ _ _ _ _ _ _=>Br λ _=>rfl)
  refine T.K1.calN G3 (λ _ _ _ _ _ _=>Br λ _=>rfl) (λ vs H Q E h=>?_) (λ f cdv A outer s H vs Q E y h=>?_)
  ·obtain ⟨_,_,_,_,rfl,_⟩:=h;rfl
  obtain ⟨l,xs,ps,F,rfl,hl,j,I,B,k5,q⟩:=h;obtain rfl:ps=[]:=by
   cases ps with
   | nil=>rfl
   | cons e _=>exact nomatch e
  obtain rfl:xs=[]:=ME.mp j.1;refine ⟨_,(Ae (Ax (i:=1) G3.nd Ac) (Ae (Dk WH rfl (Ej (pv 0)) (Bv (i:=2) G3.nd) (Af (XJ (i:=1) G3.nd rfl (Or.inl rfl) (Kw (BR Bu (Ai Ar (pv 2) Ac) (Bb (v:=.str "times") rfl T.ex.m_TIMES ⟨⟨_,T.ex.z_TIMES⟩,rfl⟩)) (Ao IK (Ai Ar (pv 2) Ac) (Am u y.m Aw (BX (Ai Ar (pv 2) Ac) Ab))) Ac) YM))) (Af (Aq (pv 1))))),?_⟩
  refine ⟨_,rfl,l,rfl,⟨_,SqL.of hl⟩,?_⟩;refine Fx (K:=K) (a:=l) (xs:=[]) (λ i d b=>∃g,d=[some (.ref l),some (.int 0),g]/\b=H) ⟨_,rfl,rfl⟩ ?_ ?_ ?_
  ·rintro i d b hi ⟨g,rfl,rfl⟩
   exact SqL.of hl
  ·rintro i x d b hi ⟨g,rfl,rfl⟩
   cases hi
  ·rintro d b ⟨g,rfl,rfl⟩
   exact ⟨_,rfl,q⟩
 | k+1=>by
  have u:=XS T k;refine T.K1.calN G3 (λ _ _ _ _ _ _=>Br λ _=>rfl) (λ vs H Q E h=>?_) (λ f cdv A outer s H vs Q E y h=>?_)
  ·obtain ⟨_,_,_,_,rfl,_⟩:=h;rfl
  obtain ⟨l,xs,ps,F,rfl,hl,j,I,B,k5,q⟩:=h;refine ⟨_,(Ae (Ax (i:=1) G3.nd Ac) (Ae (Dk WH rfl (Ej (pv 0)) (Bv (i:=2) G3.nd) (Af (XJ (i:=1) G3.nd rfl (Or.inl rfl) (Kw (BR Bu (Ai Ar (pv 2) Ac) (Bb (v:=.str "times") rfl T.ex.m_TIMES ⟨⟨_,T.ex.z_TIMES⟩,rfl⟩)) (Ao IK (Ai Ar (pv 2) Ac) (Am u (y.mono ∅) Aw (BX (Ai Ar (pv 2) Ac) Ab))) Ac) YM))) (Af (Aq (pv 1))))),?_⟩
  refine ⟨_,rfl,l,rfl,⟨_,SqL.of hl⟩,?_⟩;refine Fx (K:=K) (a:=l) (xs:=xs) (λ i d b=>∃g,d=[some (.ref l),some (.int (Ca (k+1) (ps.take i):Int)),g]/\b=H) ⟨_,rfl,rfl⟩ ?_ ?_ ?_
  ·rintro i d b hi ⟨g,rfl,rfl⟩
   exact SqL.of hl
  ·rintro i x d b hi ⟨g,rfl,rfl⟩
   obtain ⟨p,z⟩:=cH j.1 hi;have C:=j.2 i x p hi z;have D:=Zj z;have o:=B p (YB z);cases p with
   | pc pc=>
    obtain ⟨t,R,rfl,ht,ne⟩:=gO (show DV K b x (CK pc) from C)
    refine ⟨_,rfl,_,rfl,t,_,_,_,rfl,rfl,ht,Dv,rfl,_,rfl,BP (by rw [Bg];exact η ne) ⟨_,_,rfl,rfl,?_⟩⟩
    rw [D];exact ⟨_,by show [some (V.ref l),some (V.int (((Ca (k+1) (ps.take i):Nat):Int)+1)),some (V.ref t)]=[some (V.ref l),some (V.int ((Ca (k+1) (ps.take i)+1:Nat):Int)),some (V.ref t)];rw [Int.natCast_add];rfl,rfl⟩
   | rd n qs=>
    obtain ⟨t,J,L,rfl,ht,S,G,M,N⟩:=C;have r:=SqT.of (K:=K) ht;refine ⟨_,rfl,_,rfl,t,_,_,_,rfl,rfl,r,Dv,rfl,_,rfl,Bm (by rw [Bg];exact ζ rfl) ?_⟩
    refine ⟨_,rfl,t,_,_,_,rfl,rfl,r,rfl,_,rfl,t,_,_,_,rfl,rfl,r,rfl,J,L,qs,F,rfl,G,⟨M,N⟩,o.2.2.1,o.2.2.2,by omega,?_⟩
    have O:n<=60:=o.1;refine ⟨_,_,rfl,rfl,.inl ⟨by omega,by omega⟩,_,_,rfl,rfl,?_⟩
    rw [D];have e:((Ca (k+1) (ps.take i):Nat):Int)+(n:Int) * ((Ca k qs:Nat):Int)=((Ca (k+1) (ps.take i)+cnt (k+1) (PartF.rd n qs):Nat):Int):=by
     rw [Int.natCast_add,show cnt (k+1) (PartF.rd n qs)=n * Ca k qs from rfl,Int.natCast_mul]
    rw [<- e];exact ⟨_,rfl,rfl⟩
  ·rintro d b ⟨g,rfl,rfl⟩
   rw [j.1,Jn];exact ⟨_,rfl,q⟩
theorem aX (T:Txt K mg ad):∀k:Nat,CalB P w K mg base true (k+2) "told_out" ["parts"] (kj K k)
 | 0=>by
  have M:=T.Lb.not (P:=P) (w:=w) (base:=base) (k:=0) Hv (λ _ _ _ _ _ _=>Br λ _=>rfl)
  refine T.Lb.calN Hv (λ _ _ _ _ _ _=>Br λ _=>rfl) (λ vs H Q E h=>?_) (λ f cdv A outer s H vs Q E N h=>?_)
  ·obtain ⟨_,_,_,_,rfl,_⟩:=h;rfl
  obtain ⟨l,xs,ps,F,rfl,hl,r,O,U,V,q⟩:=h;obtain rfl:ps=[]:=by
   cases ps with
   | nil=>rfl
   | cons e _=>exact nomatch e
  obtain rfl:xs=[]:=ME.mp r.1;refine ⟨_,(Ae (Ax (i:=1) Hv.nd (Bo Ab)) (Ae (Dk WH rfl (Ej (pv 0)) (Bv (i:=2) Hv.nd) (Af (Az (BR Dm (Ai Ar (pv 2) Ac) (Bb (v:=.str "times") rfl T.ex.m_TIMES ⟨⟨_,T.ex.z_TIMES⟩,rfl⟩)) (Af (DG (Cm XB XT XU Eg (pv 1) (Ad (pv 2) Ab)))) (Af (Az (BR GD (Ai Ar (pv 2) Ac) Ac) (Af (DG (Cm XB NV NW Zo (pv 1) (By (Ao Th (Am M N.m Aw (BX (Ai Ar (pv 2) Ac) Ab)) (Ai Ar (pv 2) Ac)) Ab)))) BJ))))) (Af (Aq (pv 1))))),?_⟩
  refine ⟨(by show 0<=X3;decide),λ b z=>?_⟩
  have u:=Ah z (.lst []);have W:upd H b (.lst []) b=some (.lst []):=Ag;generalize upd H b (.lst [])=X at u W ⊢;refine ⟨_,rfl,l,rfl,⟨_,SqL.of (u _ _ hl)⟩,?_⟩;refine Fx (K:=K) (a:=l) (xs:=[]) (λ i j g=>∃o,j=[some (.ref l),some (.ref b),o]/\g=X) ⟨_,rfl,rfl⟩ ?_ ?_ ?_
  ·rintro i j g hi ⟨o,rfl,rfl⟩
   exact SqL.of (u _ _ hl)
  ·rintro i x j g hi ⟨o,rfl,rfl⟩
   cases hi
  ·rintro j g ⟨o,rfl,rfl⟩
   exact ⟨_,rfl,q b [] g u z W .nil⟩
 | k+1=>by
  have M:=aX T k;refine T.Lb.calN Hv (λ _ _ _ _ _ _=>Br λ _=>rfl) (λ vs H Q E h=>?_) (λ f cdv A outer s H vs Q E N h=>?_)
  ·obtain ⟨_,_,_,_,rfl,_⟩:=h;rfl
  obtain ⟨l,xs,ps,F,rfl,hl,r,O,U,V,q⟩:=h;refine ⟨_,(Ae (Ax (i:=1) Hv.nd (Bo Ab)) (Ae (Dk WH rfl (Ej (pv 0)) (Bv (i:=2) Hv.nd) (Af (Az (BR Dm (Ai Ar (pv 2) Ac) (Bb (v:=.str "times") rfl T.ex.m_TIMES ⟨⟨_,T.ex.z_TIMES⟩,rfl⟩)) (Af (DG (Cm XB XT XU Eg (pv 1) (Ad (pv 2) Ab)))) (Af (Az (BR GD (Ai Ar (pv 2) Ac) Ac) (Af (DG (Cm XB NV NW Zo (pv 1) (By (Ao Th (Am M (N.mono ∅) Aw (BX (Ai Ar (pv 2) Ac) Ab)) (Ai Ar (pv 2) Ac)) Ab)))) BJ))))) (Af (Aq (pv 1))))),?_⟩
  refine ⟨(by show 0<=X3;decide),λ b z=>?_⟩
  have u:=Ah z (.lst []);have Y:Bx K H b [] (upd H b (.lst [])):=⟨u,z,[],Ag,.nil⟩;generalize upd H b (.lst [])=X at u Y ⊢;refine ⟨_,rfl,l,rfl,⟨_,SqL.of (u _ _ hl)⟩,?_⟩;refine Fx (K:=K) (a:=l) (xs:=xs) (λ i j g=>∃o,j=[some (.ref l),some (.ref b),o]/\Bx K H b (Eu (k+1) (ps.take i)) g) ⟨_,rfl,Y⟩ ?_ ?_ ?_
  ·rintro i j g hi ⟨o,rfl,d⟩
   exact SqL.of (d.s _ _ hl)
  ·rintro i x j g hi ⟨o,rfl,d⟩
   obtain ⟨p,D⟩:=cH r.1 hi;have R:=(r.same d.s).2 i x p hi D;have S:=kh D;have B:=U p (YB D);obtain ⟨C,e1,e2⟩:=d.ex;have a5:=oR ps (i+1);rw [Zj D] at a5;have b7:C.length+cnt (k+1) p<=60:=by
    have a6:=e2.len;rw [X9,Zi] at a6;omega
   cases p with
   | pc pc=>
    obtain ⟨t,b8,rfl,ht,ne⟩:=gO (show DV K g x (CK pc) from R)
    refine ⟨_,rfl,t,_,_,_,rfl,rfl,ht,Dv,rfl,_,rfl,Bm (by rw [Bg,η ne];rfl) ?_⟩
    refine ⟨_,rfl,.inl ⟨rfl,_,SqL.of e1⟩,_,rfl,b,C,_,rfl,rfl,e1,small1000 ∅,_,rfl,?_⟩
    rw [S];exact Bx.more (zs:=[.ref t]) (qs:=[pc]) d.s d.n e1 e2 (.cons R .nil)
   | rd n qs=>
    obtain ⟨t,a7,zs,rfl,ht,b9,Z,a8,a9⟩:=R;have y:=SqT.of (K:=K) ht;have b5:n<=60:=B.1;refine ⟨_,rfl,t,_,_,_,rfl,rfl,y,Dv,rfl,_,rfl,BP (by rw [Bg,ζ rfl];rfl) ?_⟩
    refine ⟨_,rfl,t,_,_,_,rfl,rfl,y,rfl,_,_,rfl,rfl,_,rfl,?_⟩;by_cases b0:n=0
    ·subst b0;refine BP (η ⋯) ⟨_,rfl,?_⟩
     rw [S,show told (k+1) (PartF.rd 0 qs)=[] from rfl,WC]
     exact d
    ·have a0:n * Ca k qs<=60:=by
      have:cnt (k+1) (PartF.rd n qs)=n * Ca k qs:=rfl;omega
     have a1:Ca k qs<=60:=W8 (Nat.le_mul_of_pos_left _ ∅) a0
     refine Bm (ζ ∅) ?_
     refine ⟨_,rfl,.inl ⟨rfl,_,SqL.of e1⟩,_,rfl,t,_,_,_,rfl,rfl,y,rfl,a7,zs,qs,F,rfl,Z,⟨a8,a9⟩,B.2.2.1,B.2.2.2,a1,λ O us b1 G b6 a2 J=>?_⟩
     have b2:us.length=Ca k qs:=by rw [<- Zi];have:=J.len;rw [X9] at this;exact this
     have b3:us.length * n<=60:=by rw [b2,MO];exact a0
     refine ⟨_,rfl,t,_,_,_,rfl,rfl,y.keep G,rfl,O,_,us,rfl,rfl,a2,by omega,by omega,UU (small1000 (by rw [UC];omega)),λ a3 a4=>?_⟩
     rw [UC];have I:=Ah a4 (.lst (YO n us).flatten);have L:=I _ _ (G _ _ e1);have b4:DVs K (upd b1 a3 (.lst (YO n us).flatten)) (YO n us).flatten ((told (k+1) (PartF.rd n qs)).map CK):=by
      have:=dZ (J.keep I) n;rw [show told (k+1) (PartF.rd n qs)=(YO n (Eu k qs)).flatten from rfl,List.map_flatten,List.map_replicate]
      exact this
     have c0:(YO n us).flatten.length<=60:=by rw [VG,MO];exact b3
     refine ⟨b,a3,C,_,rfl,rfl,L,Ag,UU (small1000 ∅),_,rfl,?_⟩
     rw [S];exact Bx.more (d.s.trans (G.trans I)) d.n L (e2.keep (G.trans I)) b4
  ·rintro j g ⟨o,rfl,d⟩
   rw [r.1,Jn] at d;obtain ⟨C,e1,e2⟩:=d.ex;exact ⟨_,rfl,q b C g d.s d.n e1 e2⟩
theorem zP (T:Txt K mg ad):CalB P w K mg base true 20 "read_bench" ["text"] (uN K ad.NoText):=by
 have a7:=aQ (P:=P) (w:=w) (base:=base) T 4;have a8:=XS (P:=P) (w:=w) (base:=base) T 5;have a9:=aX (P:=P) (w:=w) (base:=base) T 5;refine T.U3.calB Vv (λ _ _ _ _ _ _=>Br λ _=>rfl) (λ vs H Q E h=>?_) (λ f cdv A outer s H vs Q E B h=>?_)
 ·rcases h with ⟨_,_,rfl,_⟩ | ⟨_,rfl,_⟩<;>rfl
 refine ⟨_,(Ae (Az (Bt (Bh (BW Dy rfl T.isinstance Cq (Ad (pv 0) (Ad (Dq (v:=.ty "str") rfl T.str HY rfl) Ab))))) (Af (Dh BK rfl T.ex.c_NoText (Ak Aj Ab))) BJ) (Ae (Az (BR Bu (pv 0) Aj) (Af (Aq (Bo Ab))) BJ) (Ae (Ax (i:=1) Vv.nd (Q9 (pN T) B.m (CQ (Am (xm T) B.m (Bj BK) (Ad (pv 0) Ab)) Ab))) (Ae (Ax (i:=2) Vv.nd (Am a7 B.m (Bj BK) (Ad (pv 1) (Ak Ac Ab)))) (Ae (Az (Bt (Bh (Jd (k:=1) (Bj BK) (pv 1) B.m))) (Af (Dh BK rfl T.ex.c_NoText (Ak Aj Ab))) BJ) (Ae (Az (BR GD (Am a8 B.m (Bj BK) (Ad (pv 2) Ab)) (Bb (v:=.int 60) rfl T.ex.m_MOST_PIECES ⟨_,rfl⟩)) (Af (Dh BK rfl T.ex.c_NoText (Ak Aj Ab))) BJ) (Af (Aq (Am a9 B.m (Bj BK) (Ad (pv 2) Ab)))))))))),?_⟩
 have one:(1:Nat)<=X3:=by decide
 rcases h with ⟨v,d,rfl,b0,ns,b1⟩ | ⟨x,rfl,b2,q,g⟩
 ·have e:JT d=false:=by
   cases d with
   | str z=>exact absurd rfl (ns z)
   | _=>rfl
  exact ⟨_,rfl,_,_,_,_,rfl,b0,Hd d,_,rfl,Bm (by rw [e];rfl) ⟨one,b1⟩⟩
 refine ⟨_,rfl,_,_,_,_,rfl,.str _,Hd _,_,rfl,iteF ?_⟩;by_cases u:x=Aa ""
 ·refine ⟨_,rfl,rfl,_,rfl,Bm (by rw [Bg];exact ζ u) ⟨(by show 0<=X3;decide),λ l hl=>?_⟩⟩
  exact q [] (by unfold Ci;rw [if_pos u]) l [] _ (Ah hl _) hl Ag .nil
 refine ⟨_,rfl,rfl,_,rfl,BP (by rw [Bg];exact η u) ?_⟩
 have U:=qw x;have V:=AK8 (XO x (Y2 " "));refine ⟨_,rfl,x,rfl,W8 (xE b2 2) ⋯,by omega,(λ w R=>by have:=U.2 w R;omega),λ n C W b7 D=>λ a dx na X ne=>?_⟩
 have F:∀w∈Bl (XO x (Y2 " ")),w.length<=100000:=λ w R=>by
  have:=AL8 (λ t ht=>U.2 t ht) w R
  omega
 unfold Ci at q g;rw [if_neg u] at q g;dsimp only at q g
 generalize Bl (XO x (Y2 " "))=ws at V D F q g;have Y:Same C (upd (upd C dx (.own a)) a (.ins ad.Reader dx [])):=λ b o e=>by rw [Al (BV e na),Al (BV e X)];exact e
 refine ⟨a,dx,n,rfl,Ag,⟨rfl,?_⟩⟩;have Z:n≠a:=λ e=>by rw [<- e,D] at na;cases na
 have rd:RdAt ad.Reader a dx n ws 0 (upd (upd (upd C dx (.own a)) a (.ins ad.Reader dx [])) a (CW ad.Reader dx n 0)):=⟨Ag,by rw [Al Z];exact Y _ _ D,by omega⟩
 have a0:Same C (upd (upd (upd C dx (.own a)) a (.ins ad.Reader dx [])) a (CW ad.Reader dx n 0)):=λ b o e=>by rw [Al (BV e na)];exact Y _ _ e
 generalize upd (upd (upd C dx (.own a)) a (.ins ad.Reader dx [])) a (CW ad.Reader dx n 0)=b3 at rd a0 ⊢;have a1:H a=none:=W.free na;have G:∀{I:Hp},SD a b3 I->Same H I:=λ sd=>Lib.SD.same (W.trans a0) a1 sd
 refine ⟨_,rfl,a,dx,n,ws,0,0,rfl,by decide,rd,Qi _,F,λ ps j L l xs I sd b9 N hl O=>?_,λ L I sd=>?_⟩
 rotate_left
 ·rw [show CT (BZ ws 5) ws (ws.length+1) 0=none from L] at g
  exact g rfl I (G sd)
 rw [show CT (BZ ws 5) ws (ws.length+1) 0=some (ps,j) from L] at q g
 dsimp only at q g
 obtain ⟨_,c0,b8,a2,pl⟩:=PQ (λ i p j h=>Kf rd.le 5 i p j h) _ _ _ _ L
 have a3:ps.length<=50000:=by have:=rd.le;omega
 have y:=G sd;refine ⟨_,rfl,a,_,dx,_,_,_,rfl,N.r,rfl,RM T,a,dx,n,_,_,rfl,N,_,rfl,?_⟩;by_cases M:j=ws.length
 ·rw [if_pos M] at q g;refine BP (by rw [ζ M];rfl) ?_
  refine ⟨_,rfl,l,xs,ps,_,rfl,hl,O,a3,a2,by decide,_,_,rfl,rfl,_,rfl,?_⟩
  by_cases J:Ca 5 ps<=60
  ·rw [if_pos J] at q;refine BP (η (by have:Ca (4+1) ps=Ca 5 ps:=rfl;omega)) ?_
   refine ⟨_,rfl,l,xs,ps,_,rfl,hl,O,a3,a2,J,λ b4 a4 b5 b6 a5 a6 S=>?_⟩
   exact q _ rfl b4 a4 b5 (y.trans b6) (y.free a5) a6 S
  ·rw [if_neg J] at g;refine Bm (ζ (by have:Ca (4+1) ps=Ca 5 ps:=rfl;omega)) ?_
   exact ⟨one,g rfl _ y⟩
 ·rw [if_neg M] at g;exact Bm (by rw [η M];rfl) ⟨one,g rfl _ y⟩
theorem Ma {ts:List Y1}{B:Nat}(h:∀t∈ts,t.length<=B):(ts.map (·.length)).sum<=ts.length * B:=by
 induction ts with
 | nil=>exact Qi _
 | cons t ts a=>
  rw [YY,NU,W6,CD];have:=h t YV;have:=a (λ x b=>h x (ZX _ b))
  omega
theorem ZD {p:Pc}(h:Cj p):(DQ p).length<=200:=by
 unfold DQ;rw [Fv];have b:=YL (Y2 " ") (toks p) 50 (λ t ht=>Lib.MK p h t ht)
 have a:=Ji p;have d:(Y2 " ").length=1:=by decide+kernel
 have e:(toks p).length * (50+(Y2 " ").length)<=3 * 51:=ja a.1 ∅
 omega
theorem AJ2 {p:Pc}(h:Cj p):p.bd 50:=by
 cases p with
 | gap q=>exact Mu (h.2 q (by simp [fracs]))
 | glass q=>exact Mu (h.2 q (by simp [fracs]))
 | stop lo hi=>exact ⟨Mu (h.2 lo (by simp [fracs])),Mu (h.2 hi (by simp [fracs]))⟩
theorem AM9 (T:Txt K mg ad):CalB P w K mg base true 2 "show_piece" ["piece"] (cz K):=by
 refine T.Ul.calN uF (λ _ _ _ _ _ _=>Br λ _=>rfl) (λ vs H Q E h=>?_) (λ f cdv A outer s H vs Q E a1 h=>?_)
 ·obtain ⟨_,_,rfl,_⟩:=h;rfl
 obtain ⟨v,p,rfl,G,ps,q⟩:=h;refine ⟨_,(Af (Aq (Cm WA xr xt LR Aj (By (Ao Ep (Bo (BX (Ai Ar (pv 0) Ac) Ab)) (Ir ["part"] [none] rfl (Q7 (Fb Oe (pv 0) (Et Ac) HW)) (λ _ _ _ _ _=>(Bv (i:=0) (show yb [("part":Str)] by decide))) (λ _ _ _ _ _=>Gf) (λ _ _ _ _ _=>(Am (eE T) a1.m Aw (Ad (pv 0) Ab))) (Fz ⋯ ⋯) ⋯ rfl ⋯ rfl (Gr rfl))) Ab)))),?_⟩
 obtain ⟨t,b,rfl,ht,z⟩:∃(t:Addr) (b:List V),v=.ref t/\SqT K H t (.str (wd p)::b)/\DVs K H b ((fracs p).map Av):=by
  cases p with
  | gap B=>
   obtain ⟨t,N,O,rfl,ht,j,k⟩:=DV.t2 (show DV K H v (.tuple [.str "gap",Av B]) from G)
   obtain rfl:=DV.str_of j;exact ⟨t,_,rfl,ht,.cons k .nil⟩
  | glass B=>
   obtain ⟨t,N,O,rfl,ht,j,k⟩:=DV.t2 (show DV K H v (.tuple [.str "glass",Av B]) from G)
   obtain rfl:=DV.str_of j;exact ⟨t,_,rfl,ht,.cons k .nil⟩
  | stop B h=>
   obtain ⟨t,N,O,b0,rfl,ht,j,k,a2⟩:=DV.t3 (show DV K H v (.tuple [.str "stop",Av B,Av h]) from G)
   obtain rfl:=DV.str_of j;exact ⟨t,_,rfl,ht,.cons k (.cons a2 .nil)⟩
 have hl:b.length=(fracs p).length:=by have:=z.len;rw [X9] at this;exact this
 have b1:1<=(fracs p).length/\(fracs p).length<=2:=by cases p<;>exact ⟨by simp [fracs],by simp [fracs]⟩
 refine ⟨rfl,_,rfl,t,_,_,_,rfl,rfl,ht,Dv,(by show 1<=X3;decide),λ n R=>?_⟩
 have I:=Ah R (.lst [.str (wd p)]);have S:upd H n (.lst [.str (wd p)]) n=some (.lst [.str (wd p)]):=Ag;generalize upd H n (.lst [.str (wd p)])=U at I S ⊢;refine ⟨_,rfl,_,rfl,t,_,rfl,ht.keep I,(λ e=>by rw [K7] at e;simp only [W6] at e;omega),λ l W=>⟨l,rfl,⟨_,SqT.of Ag⟩,?_⟩⟩
 rw [Oq];have J:=Ah W (.tup ((V.str (wd p)::b).drop 1));have X:upd U l (.tup ((V.str (wd p)::b).drop 1)) l=some (.tup b):=Ag;have C:=J _ _ S;have L:=I.trans J;generalize upd U l (.tup ((V.str (wd p)::b).drop 1))=a3 at J X C L ⊢;refine Od (K:=K) (a:=l) (xs:=b) (λ i o r g=>∃u,o=[u]/\r=(((fracs p).take i).map Ay).map V.str/\g=a3) ⟨_,rfl,rfl,rfl⟩ ?_ ?_ ?_
 ·rintro i o r g hi ⟨u,rfl,rfl,rfl⟩
  refine ⟨?_,SqT.of X⟩;rw [X9,X9,WS];exact UU (small1000 ∅)
 ·rintro i x o r g hi ⟨u,rfl,rfl,rfl⟩
  obtain ⟨d,hd,a4⟩:=z.get hi;rw [YN] at hd;cases e:(fracs p)[i]? with
  | none=>rw [e] at hd;cases hd
  | some B=>
   rw [e] at hd;cases hd
   refine ⟨_,rfl,x,B,rfl,a4.keep L,ps.2 B (YB e),nx (CJ hi) ⟨_,rfl,?_,rfl⟩⟩;rw [WO,e,Ye,Ye];rfl
 ·rintro o r g y ⟨u,rfl,rfl,rfl⟩ Y
  rw [hl,Jn];have M:=Ah Y (.lst (((fracs p).map Ay).map V.str));have Z:upd g y (.lst (((fracs p).map Ay).map V.str)) y=some (.lst (((fracs p).map Ay).map V.str)):=Ag;have D:=M _ _ C;have s3:=L.trans M;generalize upd g y (.lst (((fracs p).map Ay).map V.str))=b2 at M Z D s3 ⊢;refine ⟨n,y,_,_,rfl,rfl,D,Z,UU (small1000 (by rw [X9,X9];simp only [W6,XG];omega)),λ a5 a0=>?_⟩
  have a6:([.str (wd p)]++((fracs p).map Ay).map V.str:List V)=(toks p).map V.str:=rfl;have a7:JoinOk (Y2 " ") (toks p)=true:=by
   refine zU ?_ (by decide+kernel)
   have a8:∀t∈toks p,t.length<=50:=λ t ht=>Lib.MK p ps t ht
   have a9:=Ji p;have b3:((toks p).map (·.length)).sum<=(toks p).length * 50:=Ma a8
   have b4:(toks p).length * 50<=3 * 50:=QU _ a9.1;omega
  exact ⟨_,a5,toks p,rfl,rfl,by rw [Ag,a6],a7,q _ (s3.trans (Ah a0 _))⟩
theorem yw (T:Txt K mg ad):CalB P w K mg base true 5 "show_bench" ["bench"] (Yc K):=by
 refine T.Ws.calN jy (λ _ _ _ _ _ _=>Br λ _=>rfl) (λ vs H Q E h=>?_) (λ f cdv A outer s H vs Q E y h=>?_)
 ·obtain ⟨_,_,rfl,_⟩:=h;rfl
 obtain ⟨v,ps,rfl,z,o,sh,q⟩:=h;refine ⟨_,(Ae (DG (Am (Qu T) y.m Aw (Ad (pv 0) Ab))) (Af (Aq (Cm WA xr xt LR Aj (Dc (Ir ["piece"] [none] rfl (Ej (pv 0)) (λ _ _ _ _ _=>(Bv (i:=0) (show yb [("piece":Str)] by decide))) (λ _ _ _ _ _=>Gf) (λ _ _ _ _ _=>(Am (AM9 T) y.m Aw (Ad (pv 0) Ab))) (Fz ⋯ ⋯) ⋯ rfl ⋯ rfl (Gr rfl)) Ab))))),?_⟩
 refine ⟨_,rfl,v,ps,50,rfl,z,⟨o,λ p e=>(sh p e).1,λ p e=>AJ2 (sh p e)⟩,by decide,λ J B=>?_⟩
 obtain ⟨b,xs,rfl,hb,r⟩:=z.lst_of;have hl:xs.length=ps.length:=by have:=r.len;rw [X9] at this;exact this
 refine ⟨rfl,_,rfl,b,rfl,⟨_,hb.keep B⟩,?_⟩;refine Oj (K:=K) (a:=b) (xs:=xs) (λ i j k l=>∃n,j=[n]/\k=((ps.take i).map DQ).map V.str/\Same H l) ⟨_,rfl,rfl,B⟩ ?_ ?_ ?_
 ·rintro i j k l hi ⟨n,rfl,rfl,g⟩
  refine ⟨?_,hb.keep g⟩;rw [X9,X9,WS];exact UU (small1000 ∅)
 ·rintro i x j k l hi ⟨n,rfl,rfl,g⟩
  obtain ⟨d,hd,C⟩:=r.get hi;obtain ⟨pc,u,rfl⟩:=Mg hd;refine ⟨_,rfl,x,pc,rfl,C.keep g,sh pc (YB u),λ L s3=>nx (CJ hi) ⟨_,rfl,?_,g.trans s3⟩⟩
  rw [WO,u,Ye,Ye];rfl
 ·rintro j k l p ⟨n,rfl,rfl,g⟩ e
  rw [hl,Jn];have D:JoinOk (Y2 "; ") (ps.map DQ)=true:=by
   refine zU ?_ (by decide+kernel)
   have G:∀t∈ps.map DQ,t.length<=200:=λ t ht=>by
    obtain ⟨p,e,rfl⟩:=UG.mp ht;exact ZD (sh p e)
   have I:=Ma G;rw [X9] at I ⊢;have M:ps.length * 200<=60 * 200:=QU _ o;omega
  exact ⟨_,p,ps.map DQ,rfl,rfl,Ag,D,q _ (g.trans (Ah e _))⟩
end
end K71
namespace K71
open PySem L2 Lib Fr Op Tx
seal PE PT PW PA PS PSs PG PGs PI PO CP
section
variable {P:ZU}{w:World}{K:FrG}{mg:Str->Option Value}{base:Heap}{ad:Adr}{c:Bool}
theorem tV (T:Txt K mg ad):CalB P w K mg base true 1 "_law_cell_at" ["_law_script","_law_k"] (j9 K):=by
 refine T.V9.calN rH (λ _ _ _ _ _ _=>Bf λ _ _=>rfl) (λ vs H Q E h=>?_) (λ f cdv A outer s H vs Q E g h=>?_)
 ·obtain ⟨_,_,_,rfl,_⟩:=h;rfl
 obtain ⟨a,ns,k,rfl,d,k0,q⟩:=h;refine ⟨_,(Ae (Az (BR GX (pv 1) (BW Cy rfl T.len Cr (Ad (pv 0) Ab))) (Af (Aq (Ai Bq (pv 0) (pv 1)))) BJ) (Af (Aq Ac))),?_⟩;refine ⟨_,rfl,_,rfl,a,_,rfl,.inl d,_,_,rfl,rfl,_,rfl,?_⟩;refine ite2 (λ b=>?_) (λ _=>q 0)
 have b:k < (((ns.map V.int).length:Nat):Int):=of_decide_eq_true b;obtain ⟨v,e,hm⟩:=NT (xs:=ns.map V.int) k0 b;obtain ⟨z,_,rfl⟩:=UG.mp hm;exact ⟨_,rfl,_,rfl,a,_,_,_,rfl,rfl,d,e,q z⟩
theorem uP (T:Txt K mg ad):CalB P w K mg base true 1 "_law_drawn" ["_law_script","_law_start"] (lQ K):=by
 refine T.QT.calN jP (λ _ _ _ _ _ _=>Bf λ _ _=>rfl) (λ vs H Q E h=>?_) (λ f cdv A outer s H vs Q E B h=>?_)
 ·obtain ⟨_,_,_,rfl,_⟩:=h;rfl
 obtain ⟨a,ns,st,rfl,t,q⟩:=h;refine ⟨_,(Af (Aq (Bo (Ad (pv 1) (By (Ao Ep (Fb Oi (pv 0) HW (Et Ac)) (Bo (Ad (pv 1) Ab))) (Ak Ac Ab)))))),?_⟩;have g:=AJ0 (ns.map V.int) 60
 change (cutV (ns.map V.int) none (some 60)).length<=_ at g
 have i:=aO ns none (some 60);refine ⟨_,rfl,_,rfl,_,rfl,a,_,rfl,t,λ p u=>?_⟩
 generalize cutV (ns.map V.int) none (some 60)=d at g i ⊢;have j:=Ah u (.lst d);refine ⟨_,rfl,(by show 1<=X3;decide),λ v k=>?_⟩
 have e:=Ah k (.lst [.int st]);refine ⟨p,v,_,_,rfl,rfl,e _ _ Ag,Ag,UU (small1000 (by simp only [W6,XG];omega)),λ l m=>?_⟩
 have n:=Ah m (.lst (d++[.int st]));refine ⟨(by show 3<=X3;decide),λ y b=>?_⟩
 have o:=Ah b (.lst [.int st,.ref l,.int 0]);have r:=j.trans (e.trans (n.trans o));refine q y l (d++[.int st]) _ r ((j.trans (e.trans n)).free b) ⟨⟨st,0,by decide,Ag⟩,o _ _ Ag,λ x z=>?_,by rw [ZA];simp,by rw [ZA];simp only [W6,XG];omega⟩
 rcases XE.mp z with h | h
 ·exact i x h
 ·exact ⟨st,ZB.mp h⟩
theorem Pk (T:Txt K mg ad):CalB P w K mg base true 1 "_law_draw" ["_law_drawn_here","_law_many"] iY:=by
 refine T.SJ.calN TJ (λ _ _ _ _ _ _=>Bf λ _ _=>rfl) (λ vs H Q E h=>?_) (λ f cdv A outer s H vs Q E C h=>?_)
 ·obtain ⟨_,_,_,_,rfl,_⟩:=h;rfl
 obtain ⟨d,c,k,m,rfl,hd,o,q⟩:=h;obtain ⟨a,n,D,b⟩:=hd.d;have j:=hd.ne;refine ⟨_,(Ae (Ax (i:=2) TJ.nd (Ai Bq (pv 0) Ac)) (Ae (Vi (Ao DY (Ai Bq (pv 0) Ac) Ac) (aa (pv 0) Ac cB)) (Ae (Ax (i:=3) TJ.nd (Ao DY (Ao IK (Ai Bq (pv 0) Ac) Ac) (Ao Ed (Ai Bq (pv 2) (Ao Ed (Ai Bq (pv 0) Ac) (BW Cy rfl T.len Cr (Ad (pv 2) Ab)))) Ac))) (Ae (Vi (Ao Ed (Ao DY (pv 3) (Ai Bq (pv 0) Ac)) Ac) (aa (pv 0) Ac cB)) (Af (Aq (Ao Ed (Ao La (Ai Bq (pv 0) Ac) Ac) (pv 1)))))))),?_⟩;refine ⟨_,rfl,d,_,_,_,rfl,rfl,SqL.of b,rfl,?_⟩;refine ⟨_,rfl,d,_,_,_,rfl,rfl,SqL.of b,rfl,_,_,rfl,rfl,_,rfl,d,_,_,2,rfl,rfl,b,rfl,?_⟩;have g:upd H d (.lst [.int a,.ref c,.int (n+1)]) d=some (.lst [.int a,.ref c,.int (n+1)]):=Ag;have e:upd H d (.lst [.int a,.ref c,.int (n+1)]) c=some (.lst k):=by rw [Al j];exact hd.c
 have e1:upd H d (.lst ([V.int a,.ref c,.int n].set 2 (.int (n+1))))=upd H d (.lst [.int a,.ref c,.int (n+1)]):=rfl;have r:SD d H (upd H d (.lst [.int a,.ref c,.int (n+1)])):=KR;refine ⟨_,rfl,d,_,_,_,rfl,rfl,SqL.of g,rfl,_,_,rfl,rfl,.inr ⟨by decide,by decide⟩,?_⟩
 have p:(0:Int) < ((k.length:Nat):Int):=by have:=hd.l;omega
 have t:=uj (n+1) (show ((k.length:Nat):Int)≠0 by omega)
 have u:=xi (n+1) p;obtain ⟨v,y,hm⟩:=NT (xs:=k) t u;obtain ⟨z,rfl⟩:=hd.i v hm;refine ⟨_,rfl,_,rfl,d,_,_,_,rfl,rfl,SqL.of g,rfl,_,rfl,c,_,rfl,.inl (SqL.of e),_,_,rfl,rfl,p,c,_,_,_,rfl,rfl,SqL.of e,y,?_⟩;refine ⟨_,_,rfl,rfl,(by show (0:Int) < 2147483647;decide),_,_,rfl,rfl,?_⟩
 refine ⟨_,rfl,_,rfl,d,_,_,_,rfl,rfl,SqL.of g,rfl,_,_,rfl,rfl,_,_,rfl,rfl,(by show (0:Int) < 2147483629;decide),_,rfl,d,_,_,0,rfl,rfl,g,rfl,?_⟩
 have B:∀x:Int,DrA (upd (upd H d (.lst [.int a,.ref c,.int (n+1)])) d (.lst [.int x,.ref c,.int (n+1)])) d c k:=λ x=>⟨⟨x,n+1,by omega,Ag⟩,by rw [Al j];exact e,hd.i,hd.l,hd.m⟩
 refine ⟨_,rfl,d,_,_,_,rfl,rfl,SqL.of Ag,rfl,_,_,rfl,rfl,⟨by decide,by decide⟩,_,rfl,_,_,rfl,rfl,o,?_⟩
 exact q _ _ (uj _ ∅) (xi _ o) (B _) (r.trans KR)
theorem Z3 (T:Txt K mg ad):CalB P w K mg base true 1 "_law_low" ["_law_top","_law_bottom"] pZ:=by
 refine T.Wl.calN O3 (λ _ _ _ _ _ _=>Bf λ _ _=>rfl) (λ vs H Q E h=>?_) (λ f cdv A outer s H vs Q E C h=>?_)
 ·obtain ⟨a,b,rfl,_⟩:=h;rfl
 obtain ⟨a,b,rfl,D,bs,q⟩:=h;have g:b≠0:=by omega
 refine ⟨_,(Ae (Ax (i:=2) O3.nd (BW Oz rfl T.abs NP (Ad (pv 0) Ab))) (Ae (Ax (i:=3) O3.nd (pv 1)) (Ae (Mv WH (BR GD (pv 3) Ac) (Af (YD (i:=2) (j:=3) rfl O3.nd rfl rfl ⋯ rfl rfl (Ad (pv 3) (By (Ao Ed (pv 2) (pv 3)) Ab)) rfl))) (Af (Aq (Cz (By (Ao Mr (pv 0) (pv 2)) (By (Ao Mr (pv 1) (pv 2)) Ab)))))))),?_⟩
 refine ⟨_,rfl,_,rfl,_,rfl,?_⟩;have t:=Fr.O2 a;have u:b=(b.natAbs:Int):=by omega
 refine ⟨λ k v d=>H=d/\∃(m:Nat),v=[some (.int a),some (.int b),some (.int m),some (.int k)]/\FH m k=FH a.natAbs b.natAbs,⟨b.natAbs,rfl,a.natAbs,by rw [<- t,<- u];rfl,rfl⟩,?_⟩
 rintro n _ _ ⟨rfl,m,rfl,e⟩
 refine ⟨_,rfl,_,_,rfl,rfl,_,rfl,?_⟩;refine ite2 (λ c=>?_) (λ c=>?_)
 ·have hn:n≠0:=by
   intro z;subst z;simp at c
  have x:(m:Int) % (n:Int)=((m % n:Nat):Int):=(MD m n).symm;refine ⟨λ l d=>H=d/\l=[some (.int a),some (.int b),some (.int n),some (.int ((m:Int) % (n:Int)))],?_,?_⟩
  ·rintro _ _ ⟨rfl,rfl⟩
   rw [x];exact ⟨m % n,Ch _ ∅,rfl,n,rfl,by rw [Fr.Z9,e]⟩
  ·exact ⟨_,rfl,_,rfl,_,rfl,_,_,rfl,rfl,(by show (0:Int) < (n:Int);omega),_,_,rfl,rfl,rfl⟩
 ·have hn:n=0:=by
   by_cases z:n=0
   ·exact z
   ·exfalso
    apply c
    exact ζ ∅
  subst hn;have e2:(m:Int)=Fr.gcd a b:=by
   unfold Fr.gcd;rw [<- e,Nat.gcd_zero_right]
  have F:=Fr.eV (a:=a) g;have G:=Fr.ZP a b;have o:(m:Int)=Fr.sg a b:=by
   unfold Fr.sg;rw [if_neg ∅,e2]
  have r:(m:Int).natAbs.log2 < 9000:=by
   have y:(m:Int).natAbs < lim:=by omega
   exact aB y
  have ne:(m:Int)≠0:=by rw [o];exact Fr.JD g
  refine ⟨_,rfl,_,rfl,_,_,rfl,rfl,⟨ne,r⟩,_,rfl,_,rfl,_,_,rfl,rfl,⟨ne,r⟩,(by show 2<=X3;decide),λ p B=>?_⟩
  rw [o];exact q p B
theorem vJ (T:Txt K mg ad):CalB P w K mg base true 1 "_law_under" ["_law_one","_law_other"] (PR K cR):=by
 refine T.Wm.calN uy (λ _ _ _ _ _ _=>Bf λ _ _=>rfl) (λ vs H Q E h=>?_) (λ f cdv A outer s H vs Q E j h=>?_)
 ·obtain ⟨_,_,dv,⟨_,_,rfl,_⟩,_⟩:=h;exact dv.len
 obtain ⟨_,_,dv,⟨p,q,rfl,sp,d,rfl⟩,k⟩:=h;obtain ⟨_,_,rfl,g,i⟩:=dv.two;obtain ⟨a,rfl,ha⟩:=g.fr;obtain ⟨b,rfl,hb⟩:=i.fr;refine ⟨_,(Af (Aq (Di GX (Ao Ea (Ai Ar (pv 0) Ac) (Ai Ar (pv 1) Ac)) (Ao Ea (Ai Ar (pv 1) Ac) (Ai Ar (pv 0) Ac))))),?_⟩;refine ⟨_,rfl,a,_,_,_,rfl,rfl,ha,rfl,_,rfl,b,_,_,_,rfl,rfl,hb,rfl,_,_,rfl,rfl,Du sp.n d.dn,?_⟩;refine ⟨_,rfl,b,_,_,_,rfl,rfl,hb,rfl,_,rfl,a,_,_,_,rfl,rfl,ha,rfl,_,_,rfl,rfl,Du d.n sp.dn,_,_,rfl,rfl,?_⟩;have e:decide (p.num * (q.den:Int) < q.num * (p.den:Int))=decide (p < q):=decide_eq_decide.mpr (Fr.Qn p q);show Q (.bl (decide (p.num * (q.den:Int) < q.num * (p.den:Int)))) H;rw [e];exact k _ _ (Same.refl _) (.bl _)
theorem Z5 {t b:Int}(a:b≠0)(ht:t.natAbs < 10 ^ 15)(hb:b.natAbs < 10 ^ 15):Short (XZ t b):=by
 obtain ⟨d,e⟩:=dY a (rfl:XZ t b=XZ t b);exact ⟨by omega,by omega⟩
theorem zj {t b:Int}(a:b≠0)(ht:t.natAbs < 2000)(hb:b.natAbs < 2000):Bd 12 (XZ t b):=by
 exact Bd.of a (yy ht ⋯) (yy hb ⋯)
inductive qY (K:FrG)(vs:List V)(H:Hp)(Q:VK)(z3:XK):Prop | mk (d c:Addr) (L:List V) (far:Bool) (_:vs=[.ref d,.bl far]) (_:DrA H d c L) (_:∀v H' q,DrA H' d c L->SD d H H'->DV K H' v (Av q)->(Short q/\(far=false->Bd 12 q))->Q v H')
inductive vI (K:FrG)(vs:List V)(H:Hp)(Q:VK)(z3:XK):Prop | mk (d c:Addr) (L:List V) (far:Bool) (_:vs=[.ref d,.bl far]) (_:DrA H d c L) (_:∀v H' p,DrA H' d c L->SD d H H'->DV K H' v (CK p)->(Cj p/\(far=false->p.bd 12))->Q v H')
theorem gf {q:Rat}(h:Short q):Bd 50 q:=by
 have a:(10:Nat) ^ 15<=2 ^ 50:=by decide
 exact ⟨Zu h.n a,Zu h.d a⟩
theorem vR (T:Txt K mg ad):CalB P w K mg base true 2 "_law_part" ["_law_drawn_here","_law_far"] (qY K):=by
 refine T.Wa.calN JQ (λ _ _ _ _ _ _=>Bf λ _ _=>rfl) (λ vs H Q E h=>?_) (λ f cdv A outer s H vs Q E a h=>?_)
 ·obtain ⟨_,_,_,_,rfl,_⟩:=h;rfl
 obtain ⟨d,c,n,x,rfl,hd,q⟩:=h;have y:CPow 10 15:=⟨by decide,by decide,by decide⟩
 have X:(10:Int) ^ (15:Int).toNat=1000000000000000:=by decide
 have e2:(2:Nat) ^ 50=1125899906842624:=by decide
 have c7:(10:Nat) ^ 15=1000000000000000:=by decide
 obtain ⟨f6,c8,Y⟩:∃t,PSs (Cv true P w K mg base ["_law_drawn_here","_law_far","_law_top","_law_bottom"] "_law_part" (defScope KQ) f cdv A outer s H E).nox ((defBody KQ).drop 1) t/\∀(c6:Ends) (Z a0:Option V) (o:Hp),DrA o d c n->SD d H o->(∀v F q,DrA F d c n->SD d H F->DV K F v (Av q)->(Short q/\(x=false->Bd 12 q))->c6.rt v F)->t c6 [some (.ref d),some (.bl x),Z,a0] o:=by
  refine ⟨_,(Ae (Ax (i:=2) JQ.nd (Am (Pk T) a.m Aw (Ad (pv 0) (BX (Ai Bq (Bo (Ak Ac (Ak Ac Ab))) (Jg fG rfl T.int M6 (aA (Di Bu (Am (Pk T) a.m Aw (Ad (pv 0) (Ak Ac Ab))) Ac) Ab))) Ab)))) (Ae (Ax (i:=3) JQ.nd (Ao DY Ac (Ai Bq (Bo (Ak Ac (Ak Ac (CQ (Am (Pk T) a.m Aw (Ad (pv 0) (Ak Ac Ab))) (CQ (Am (Pk T) a.m Aw (Ad (pv 0) (Ak Ac Ab))) Ab))))) (Am (Pk T) a.m Aw (Ad (pv 0) (Ak Ac Ab)))))) (Ae (Az (BR Bu (Am (Pk T) a.m Aw (Ad (pv 0) (Ak Ac Ab))) Ac) (Af (Ax (i:=2) JQ.nd (Ao G4 Ac (pv 2)))) BJ) (Af (Aq (Am (Z3 T) a.m Aw (Ad (pv 2) (Ad (pv 3) Ab)))))))),?_⟩
  intro c6 Z a0 o j G q;refine ⟨_,rfl,(by show 2<=X3;decide),λ p u=>?_⟩
  have a1:=Ah u (.lst [.int 21,.int 1999]);obtain ⟨f7,f8,_,a2⟩:=j.d;have a3:p≠d:=λ e=>by rw [e,a2] at u;cases u
  refine ⟨_,rfl,d,c,n,9,rfl,j.keep a1,by decide,λ a4 c9 a5 a6 z I=>?_⟩
  have a7:=I p _ a3 Ag;refine ⟨rfl,.inr ⟨_,rfl,?_⟩⟩;obtain ⟨v,d0,hm⟩:=NT (xs:=[V.int 21,V.int 1999]) (r:=if decide (V.int a4=V.int 1) then 1 else 0) (by split<;>decide) (by simp only [W6,XG];split<;>decide)
  obtain ⟨m,rfl,d1,f9⟩:∃m:Int,v=.int m/\0 < m/\m<=1999:=by
   simp only [ZN,WB,or_false] at hm;rcases hm with rfl | rfl<;>exact ⟨_,rfl,by decide,by decide⟩
  refine ⟨p,_,_,_,rfl,rfl,SqL.of a7,d0,?_⟩;refine ⟨d,c,n,m,rfl,z,d1,λ t d2 g0 g1 B s3=>?_⟩
  have a8:=G.trans ((a1.sd d).trans (I.trans s3));refine ⟨_,rfl,d,c,n,4,rfl,B,by decide,λ a9 d3 b0 e3 C O=>?_⟩
  refine ⟨_,rfl,d,c,n,12,rfl,C,by decide,λ b1 d4 b2 e4 l R=>?_⟩
  refine ⟨(by show 4<=X3;decide),λ S D=>?_⟩
  have b3:=Ah D (.lst [.int 0,.int 0,.int a9,.int b1]);obtain ⟨g2,g3,_,U⟩:=l.d;have W:S≠d:=λ e=>by rw [e,U] at D;cases D
  refine ⟨_,rfl,d,c,n,4,rfl,l.keep b3,by decide,λ d5 g4 b4 e5 b5 b6=>?_⟩
  have b7:=b6 S _ W Ag;obtain ⟨d6,b8,M⟩:=NT (xs:=[V.int 0,V.int 0,V.int a9,V.int b1]) (r:=d5) b4 (by simp only [W6,XG];omega)
  obtain ⟨b,rfl,g5,g6⟩:∃b:Int,d6=.int b/\0<=b/\b<=11:=by
   simp only [ZN,WB,or_false] at M;rcases M with rfl | rfl | rfl | rfl
   ·exact ⟨_,rfl,by decide,by decide⟩
   ·exact ⟨_,rfl,by decide,by decide⟩
   ·exact ⟨_,rfl,b0,by omega⟩
   ·exact ⟨_,rfl,b2,by omega⟩
  refine ⟨S,_,_,_,rfl,rfl,SqL.of b7,b8,_,_,rfl,rfl,?_⟩;have b9:=a8.trans (O.trans (R.trans ((b3.sd d).trans b6)));refine ⟨_,rfl,d,c,n,2,rfl,b5,by decide,λ g7 c0 e6 e7 c1 d7=>?_⟩
  have c2:=b9.trans d7;have bl:(1+b:Int).natAbs < lim:=Zu (show (1+b:Int).natAbs < 2 ^ 50 by omega) (by unfold lim;exact FQ ⋯)
  refine ⟨rfl,_,rfl,?_⟩;have N:∀t':Int,t'.natAbs < 2000->∀k,c0 k=none->c6.rt (.ref k) (upd c0 k (.tup [.int (Fr.lt t' (1+b)),.int (Fr.lb t' (1+b))])):=λ t' ht k g=>
   q _ _ _ (c1.keep (Ah g _)) (c2.trans ((Ah g _).sd d)) (Jf ∅) ⟨Z5 ∅ ∅ ∅,λ _=>zj ∅ ht ∅⟩
  refine ite2 (λ _=>?_) (λ _=>?_)
  ·refine ⟨_,rfl,_,_,rfl,rfl,?_⟩;exact ⟨_,rfl,_,rfl,_,_,rfl,(by show (0:Int) < 1+b;omega),bl,λ k g=>N (0 - t) ∅ k g⟩
  ·exact ⟨_,rfl,_,rfl,_,_,rfl,(by show (0:Int) < 1+b;omega),bl,λ k g=>N t ∅ k g⟩
 refine ⟨_,(Ae (Az (PW.pt (pw_and (Bh (pv 1)) (pw_and1 (BR Bu (Am (Pk T) a.m Aw (Ad (pv 0) (Ak Ac Ab))) Ac)))) (Ae (Ax (i:=2) JQ.nd (Ao DY (Ao IK (Am (Pk T) a.m Aw (Ad (pv 0) (Ak Ac Ab))) Ac) (Am (Pk T) a.m Aw (Ad (pv 0) (Ak Ac Ab))))) (Ae (Ax (i:=3) JQ.nd (Ao DY (Ao IK (Am (Pk T) a.m Aw (Ad (pv 0) (Ak Ac Ab))) Ac) (Am (Pk T) a.m Aw (Ad (pv 0) (Ak Ac Ab))))) (Af (Aq (Am (Z3 T) a.m Aw (By (Ao DY (Ao G4 (Ao Ed (pv 2) (Ao G4 (Ao IK Ac (Ao Wb Ac Ac)) Ac)) (Ao Wb Ac Ac)) Ac) (By (Ao DY Ac (Ao Ed (pv 3) (Ao G4 (Ao Wb Ac Ac) Ac))) Ab))))))) BJ) c8),?_⟩
 refine ⟨_,rfl,_,rfl,?_⟩;cases x with
 | false=>exact iteF (iteF (Y _ _ _ H hd (SD.refl _ _) q))
 | true=>
  refine iteT ?_;refine ⟨_,rfl,d,c,n,3,rfl,hd,by decide,λ a4 o a5 a6 j G=>?_⟩
  refine ⟨rfl,_,rfl,?_⟩;refine ite2 (λ _=>?_) (λ _=>Y _ _ _ o j G q)
  refine ⟨_,rfl,d,c,n,33554432,rfl,j,by decide,λ c3 c9 e8 e9 z I=>?_⟩
  refine ⟨_,_,rfl,rfl,.inr ⟨by decide,by decide⟩,_,rfl,d,c,n,33554432,rfl,z,by decide,λ c4 d2 f0 f1 B s3=>?_⟩
  refine ⟨_,_,rfl,rfl,?_⟩;refine ⟨_,rfl,d,c,n,33554432,rfl,B,by decide,λ J d3 f2 f3 C O=>?_⟩
  refine ⟨_,_,rfl,rfl,.inr ⟨by decide,by decide⟩,_,rfl,d,c,n,33554432,rfl,C,by decide,λ L d4 f4 f5 l R=>?_⟩
  refine ⟨_,_,rfl,rfl,?_⟩;have c5:=G.trans (I.trans (s3.trans (O.trans R)));refine ⟨_,rfl,_,_,rfl,rfl,y,_,_,rfl,rfl,.inl ⟨by decide,by decide⟩,_,_,rfl,rfl,_,_,rfl,rfl,(by show (0:Int) < 2 * 10 ^ (15:Int).toNat - 1;decide),_,_,rfl,rfl,y,_,_,rfl,rfl,_,_,rfl,rfl,?_⟩
  refine ⟨_,rfl,_,_,rfl,rfl,y,_,_,rfl,rfl,_,_,rfl,rfl,(by show (0:Int) < 10 ^ (15:Int).toNat - 1;decide),_,_,rfl,rfl,?_⟩
  have d8:=uj (c3 * 33554432+c4) (show (2 * 10 ^ (15:Int).toNat - 1:Int)≠0 by decide)
  have e1:=xi (c3 * 33554432+c4) (show (0:Int) < 2 * 10 ^ (15:Int).toNat - 1 by decide)
  have d9:=uj (J * 33554432+L) (show (10 ^ (15:Int).toNat - 1:Int)≠0 by decide)
  have e0:=xi (J * 33554432+L) (show (0:Int) < 10 ^ (15:Int).toNat - 1 by decide)
  rw [X] at d8 e1 d9 e0 ⊢;refine ⟨_,_,rfl,(by show (0:Int) < 1+(J * 33554432+L) % (1000000000000000 - 1);omega),Zu (show (1+(J * 33554432+L) % (1000000000000000 - 1):Int).natAbs < 2 ^ 50 by omega) (by unfold lim;exact FQ ⋯),λ p u=>?_⟩
  exact q _ _ _ (l.keep (Ah u _)) (c5.trans ((Ah u _).sd d)) (Jf ∅) ⟨Z5 ∅ ∅ ∅,λ e=>nomatch e⟩
theorem qH (T:Txt K mg ad):CalB P w K mg base true 3 "_law_piece" ["_law_drawn_here","_law_far"] (vI K):=by
 refine T.QS.calN Js (λ _ _ _ _ _ _=>Bf λ _ _=>rfl) (λ vs H Q E h=>?_) (λ f cdv A outer s H vs Q E D h=>?_)
 ·obtain ⟨_,_,_,_,rfl,_⟩:=h;rfl
 obtain ⟨d,c,N,F,rfl,hd,q⟩:=h;refine ⟨_,(Ae (Ax (i:=2) Js.nd (Am (Pk T) D.m Aw (Ad (pv 0) (Ak Ac Ab)))) (Ae (Ax (i:=3) Js.nd (Am (vR T) D.m Aw (Ad (pv 0) (Ad (pv 1) Ab)))) (Ae (Az (BR GX (pv 2) Ac) (Af (Aq (Cz (Ak Aj (Ad (pv 3) Ab))))) BJ) (Ae (Az (BR GX (pv 2) Ac) (Af (Aq (Cz (Ak Aj (Ad (pv 3) Ab))))) BJ) (Ae (Ax (i:=4) Js.nd (Am (vR T) D.m Aw (Ad (pv 0) (Ad (pv 1) Ab)))) (Ae (Az (Bh (Am (vJ T) D.m Aw (Ad (pv 4) (Ad (pv 3) Ab)))) (Af (YD (i:=3) (j:=4) rfl Js.nd rfl rfl ⋯ rfl rfl (Ad (pv 4) (Ad (pv 3) Ab)) rfl)) BJ) (Af (Aq (Cz (Ak Aj (Ad (pv 3) (Ad (pv 4) Ab)))))))))))),?_⟩
 refine ⟨_,rfl,d,c,N,5,rfl,hd,by decide,λ V W S U J O=>?_⟩
 refine ⟨_,rfl,_,rfl,d,c,N,F,rfl,J,λ X Y l o R u k=>?_⟩
 have v:=O.trans R;refine ⟨_,rfl,_,_,rfl,rfl,_,rfl,?_⟩;refine ite2 (λ _=>?_) (λ _=>?_)
 ·refine ⟨_,rfl,(by show 2<=X3;decide),λ p a=>?_⟩
  exact q _ _ (.gap l) (o.keep (Ah a _)) (v.trans ((Ah a _).sd d)) (DV.upd2 a (.str _) u) ⟨⟨trivial,λ x g=>by rw [ZB.mp g];exact k.1⟩,λ e=>k.2 e⟩
 refine ⟨_,rfl,_,_,rfl,rfl,_,rfl,?_⟩;refine ite2 (λ _=>?_) (λ _=>?_)
 ·refine ⟨_,rfl,(by show 2<=X3;decide),λ p a=>?_⟩
  exact q _ _ (.glass l) (o.keep (Ah a _)) (v.trans ((Ah a _).sd d)) (DV.upd2 a (.str _) u) ⟨⟨trivial,λ x g=>by rw [ZB.mp g];exact k.1⟩,λ e=>k.2 e⟩
 refine ⟨_,rfl,_,rfl,d,c,N,F,rfl,o,λ Z a0 y L s3 B C=>?_⟩
 have M:=v.trans s3;have n:=o.dv s3 u;refine ⟨_,rfl,_,rfl,_,_,.cons B (.cons n .nil),⟨_,_,rfl,(gf C.1).sm ⋯,(gf k.1).sm ⋯,rfl⟩,λ b a1 r hb=>?_⟩
 obtain rfl:=hb.bl_of;refine ⟨_,rfl,?_⟩;have G:=L.keep r;have I:=M.trans (r.sd d);refine ite2 (λ t=>?_) (λ t=>?_)
 ·have t:y < l:=of_decide_eq_true t;refine ⟨_,rfl,_,rfl,_,_,rfl,?_⟩;refine ⟨_,rfl,_,rfl,(by show 3<=X3;decide),λ p a=>?_⟩
  exact q _ _ (.stop y l) (G.keep (Ah a _)) (I.trans ((Ah a _).sd d)) (DV.upd3 a (.str _) (B.keep r) (n.keep r)) ⟨⟨show ¬ l < y by grind,λ x g=>by rcases ZN.mp g with rfl | g;exact C.1;rw [ZB.mp g];exact k.1⟩,λ e=>⟨C.2 e,k.2 e⟩⟩
 ·have t:¬ y < l:=λ z=>t (ζ z)
  refine ⟨_,rfl,_,rfl,(by show 3<=X3;decide),λ p a=>?_⟩
  exact q _ _ (.stop l y) (G.keep (Ah a _)) (I.trans ((Ah a _).sd d)) (DV.upd3 a (.str _) (n.keep r) (B.keep r)) ⟨⟨t,λ x g=>by rcases ZN.mp g with rfl | g;exact k.1;rw [ZB.mp g];exact C.1⟩,λ e=>⟨k.2 e,C.2 e⟩⟩
end
end K71
namespace K71
open PySem L2 Lib Fr Op Tx PySem.NumText
seal PE PT PW PA PS PSs PG PGs PI PO CP PJ
section
variable {P:ZU}{w:World}{K:FrG}{mg:Y1->Option Value}{base:Heap}{ad:Adr}{c:Bool}
theorem dB {d:Nat}(h:d < 10):(Y2 "0123456789").cps[d]?=some (48+d):=by
 have:∀d:Nat,d < 10->(Y2 "0123456789").cps[d]?=some (48+d):=by decide
 exact this d h
inductive xf (vs:List V)(H:Hp)(Q:VK)(z3:XK):Prop | mk (n:Int) (_:vs=[.int n]) (_:n.natAbs < 10 ^ 15) (_:∀z:Y1,cl z=(if n < 0 then [45] else [])++dg n.natAbs->Q (.str z) H)
theorem lU {y:Y1}(h:y=Y2 ""):cl y=[]:=by subst h;rfl
theorem pF (T:Txt K mg ad):CalB P w K mg base true 1 "_law_written" ["_law_number"] xf:=by
 refine T.TF.calN K5 (λ _ _ _ _ _ _=>Br λ _=>rfl) (λ vs H Q E h=>?_) (λ f cdv A outer s H vs Q E G h=>?_)
 ·obtain ⟨_,rfl,_⟩:=h;rfl
 obtain ⟨n,rfl,hn,q⟩:=h;refine ⟨_,(Ae (Ax (i:=1) K5.nd Aj) (Ae (Ax (i:=2) K5.nd (BW Oz rfl T.abs NP (Ad (pv 0) Ab))) (Ae (Mv WH (PW.pt (pw_or (BR GD (pv 2) Ac) (pw_or1 (BR Bu (pv 1) Aj)))) (Ae (Ax (i:=1) K5.nd (Ao Dj (rn Aj (Ao Ed (pv 2) Ac) (λ _ _=>rfl)) (pv 1))) (Af (Ax (i:=2) K5.nd (Ao La (pv 2) Ac))))) (Af (Aq (Ao Dj (Ao vD Aj (Jg fG rfl T.int M6 (aA (Di GX (pv 0) Ac) Ab))) (pv 1))))))),?_⟩
 have dl:=(Hg (m:=n.natAbs) (k:=15) ⋯).mpr hn
 refine ⟨_,rfl,_,rfl,?_⟩;refine ⟨λ k D l=>∃(m:Nat) (y:Y1),D=[some (.int n),some (.str y),some (.int (m:Int))]/\l=H/\((cl y=[]/\y=Y2 ""/\m=n.natAbs/\k=m+1)\/(cl y≠[]/\dz m++cl y=dg n.natAbs/\k=m)),⟨n.natAbs+1,n.natAbs,Y2 "",by rw [Fr.O2];rfl,rfl,.inl ⟨rfl,rfl,rfl,rfl⟩⟩,?_⟩
 rintro k _ l ⟨m,y,rfl,rfl,o⟩
 have t:(m:Int) % 10=((m % 10:Nat):Int):=(MD m 10).symm;have u:(m:Int) / 10=((m / 10:Nat):Int):=(Int.natCast_ediv m 10).symm;have d:m % 10 < 10:=Ch _ ⋯
 have I:y.length<=15:=by
  rw [<- DX];rcases o with ⟨e,_⟩ | ⟨_,e,_⟩
  ·rw [e];decide
  ·have:=congrArg qB e;rw [ZA] at this;omega
 have step:(0 < m\/cl y=[])->m / 10 < k/\cl (zI #[48+m % 10]++y)≠[]/\dz (m / 10)++cl (zI #[48+m % 10]++y)=dg n.natAbs:=λ hm=>by
  have e1:cl (zI #[48+m % 10]++y)=[48+m % 10]++cl y:=Bw _ _;rw [e1];refine ⟨?_,by simp,?_⟩
  ·rcases o with ⟨_,_,_,e⟩ | ⟨b,_,e⟩
   ·omega
   ·rcases hm with h | h
    ·omega
    ·exact absurd h b
  ·rcases o with ⟨b,_,e2,e⟩ | ⟨b,e2,e⟩
   ·rw [b,<- e2];by_cases z:m=0
    ·subst z;rfl
    ·rw [WC,<- bh ∅,nu ∅]
   ·rcases hm with h | h
    ·rw [<- e2,bh h,WG]
    ·exact absurd h b
 have tail:¬ (0 < m\/cl y=[])->cl (um (Y2 "-") (if decide (n < 0)=true then 1 else 0)++y)=(if n < 0 then [45] else [])++dg n.natAbs:=λ hm=>by
  have F:m=0:=by
   by_cases z:m=0
   ·exact z
   ·exact absurd (.inl ∅) hm
  have v:cl y=dg n.natAbs:=by
   rcases o with ⟨b,_⟩ | ⟨_,e2,_⟩
   ·exact absurd (.inr b) hm
   ·rw [F] at e2;exact e2
  rw [Bw,v];by_cases a:n < 0
  ·rw [if_pos (ζ a),if_pos a];rfl
  ·rw [if_neg (by simpa using a),if_neg a];rfl
 have x:MulOk (Y2 "-") (if decide (n < 0)=true then 1 else 0):=by
  by_cases a:n < 0
  ·rw [if_pos (ζ a)];exact ⟨by decide,λ _ h=>absurd h ⋯,λ _ h=>absurd h ⋯⟩
  ·rw [if_neg (by simpa using a)];exact ⟨by decide,λ h=>absurd ⋯ h,λ h=>absurd ⋯ h⟩
 have J:(um (Y2 "-") (if decide (n < 0)=true then 1 else 0)).length<=1:=by
  by_cases a:n < 0
  ·rw [if_pos (ζ a)];decide
  ·rw [if_neg (by simpa using a)];decide
 refine ⟨_,rfl,_,_,rfl,rfl,_,rfl,?_⟩;refine ite2 (λ c=>?_) (λ c=>?_)
 ·have hm:0 < m:=by
   have:(0:Int) < (m:Int):=of_decide_eq_true c;omega
  obtain ⟨p,r,s3⟩:=step (.inl hm);refine ⟨λ g j=>g=[some (.int n),some (.str (zI #[48+m % 10]++y)),some (.int ((m / 10:Nat):Int))]/\j=l,?_,?_⟩
  ·rintro _ _ ⟨rfl,rfl⟩
   exact ⟨m / 10,p,m / 10,_,rfl,rfl,.inr ⟨r,s3,rfl⟩⟩
  ·refine ⟨_,rfl,_,_,rfl,rfl,(by show (0:Int) < 10;decide),_,_,48+m % 10,rfl,rfl,(by show (0:Int)<=(m:Int) % 10;omega),(by show (m:Int) % 10 < 2 ^ 63;omega),(by show (m:Int) % 10 < 10;omega),?_,?_⟩
   ·show (Y2 "0123456789").cps[((m:Int) % 10).toNat]?=_;rw [t,UC];exact dB d
   ·refine ⟨_,rfl,_,_,rfl,rfl,Do (by show 1+y.length<=10000;omega),?_⟩
    refine ⟨_,rfl,_,_,rfl,rfl,⟨by decide,by decide⟩,?_⟩
    refine ⟨?_,rfl⟩;show [some (V.int n),some (V.str (zI #[48+m % 10]++y)),some (V.int ((m:Int) / 10))]=_;rw [u]
 ·have hm:¬ 0 < m:=λ z=>c (ζ ∅)
  refine ⟨_,rfl,rfl,_,rfl,?_⟩;refine ite2 (λ c=>?_) (λ c=>?_)
  ·rw [Bg] at c;have hm:=lU (of_decide_eq_true c);obtain ⟨p,r,s3⟩:=step (.inr hm);refine ⟨λ g j=>g=[some (.int n),some (.str (zI #[48+m % 10]++y)),some (.int ((m / 10:Nat):Int))]/\j=l,?_,?_⟩
   ·rintro _ _ ⟨rfl,rfl⟩
    exact ⟨m / 10,p,m / 10,_,rfl,rfl,.inr ⟨r,s3,rfl⟩⟩
   ·refine ⟨_,rfl,_,_,rfl,rfl,(by show (0:Int) < 10;decide),_,_,48+m % 10,rfl,rfl,(by show (0:Int)<=(m:Int) % 10;omega),(by show (m:Int) % 10 < 2 ^ 63;omega),(by show (m:Int) % 10 < 10;omega),?_,?_⟩
    ·show (Y2 "0123456789").cps[((m:Int) % 10).toNat]?=_;rw [t,UC];exact dB d
    ·refine ⟨_,rfl,_,_,rfl,rfl,Do (by show 1+y.length<=10000;omega),?_⟩
     refine ⟨_,rfl,_,_,rfl,rfl,⟨by decide,by decide⟩,?_⟩
     refine ⟨?_,rfl⟩;show [some (V.int n),some (V.str (zI #[48+m % 10]++y)),some (V.int ((m:Int) / 10))]=_;rw [u]
  ·have B:¬ cl y=[]:=λ e=>c (by rw [Bg];exact ζ (ext (e.trans (show []=cl (Y2 "") from rfl))))
   have C:¬ (0 < m\/cl y=[]):=λ h=>h.elim hm B
   exact ⟨_,rfl,_,_,rfl,rfl,.inr ⟨_,rfl,_,_,rfl,rfl,x,_,rfl,_,_,rfl,rfl,Do ∅,q _ (tail C)⟩⟩
theorem yc (T:Txt K mg ad):CalB P w K mg base true 2 "_law_shown" ["_law_part_here"] (aP K):=by
 refine T.TY.calN iQ (λ _ _ _ _ _ _=>Br λ _=>rfl) (λ vs H Q E h=>?_) (λ f cdv A outer s H vs Q E g h=>?_)
 ·obtain ⟨_,_,rfl,_⟩:=h;rfl
 obtain ⟨v,p,rfl,o,sp,q⟩:=h;obtain ⟨a,B,C,rfl,h,e1,e2⟩:=DV.t2 (show DV K H v (.tuple [.int p.num,.int (p.den:Int)]) from o)
 obtain rfl:=DV.int_of e1;obtain rfl:=DV.int_of e2;refine ⟨_,(Ae (Az (BR Bu (Ai Ar (pv 0) Ac) Ac) (Af (Aq (Am (pF T) g.m Aw (BX (Ai Ar (pv 0) Ac) Ab)))) BJ) (Af (Aq (Ao Dj (Ao Dj (Am (pF T) g.m Aw (BX (Ai Ar (pv 0) Ac) Ab)) Aj) (Am (pF T) g.m Aw (BX (Ai Ar (pv 0) Ac) Ab)))))),?_⟩
 refine ⟨_,rfl,a,_,_,_,rfl,rfl,h,rfl,rfl,_,rfl,?_⟩;have D:=(Hg (m:=p.num.natAbs) (k:=15) ⋯).mpr sp.n
 have F:=(Hg (m:=p.den) (k:=15) ⋯).mpr sp.d
 have e1:∀x:Y1,cl x=sh p->x=Ay p:=λ x r=>ext (r.trans (Em p).symm)
 refine ite2 (λ i=>?_) (λ i=>?_)
 ·have j:p.den=1:=by
   have z:decide (V.int (p.den:Int)=V.int 1)=true:=i;rw [Dr] at z;have:=of_decide_eq_true z;omega
  refine ⟨_,rfl,a,_,_,_,rfl,rfl,h,rfl,_,rfl,sp.n,λ z b=>?_⟩
  rw [e1 z (by rw [b];unfold sh;rw [if_pos j,WC])]
  exact q
 ·have j:¬ p.den=1:=by
   intro e
   apply i
   show decide (V.int (p.den:Int)=V.int 1)=true;rw [Dr,e];rfl
  refine ⟨_,rfl,a,_,_,_,rfl,rfl,h,rfl,_,rfl,sp.n,λ z b=>?_⟩
  have t:=DX z;rw [b,ZA] at t;have Io:(if p.num < 0 then [45] else []:List Nat).length<=1:=by split<;>decide
  have zs:(Y2 "/").length=1:=rfl;refine ⟨_,_,rfl,rfl,Do ∅,?_⟩
  refine ⟨_,rfl,a,_,_,_,rfl,rfl,h,rfl,_,rfl,by rw [QI];exact sp.d,λ y l=>?_⟩
  rw [if_neg ∅,ui,QI] at l
  have u:=DX y;rw [l] at u;refine ⟨_,_,rfl,rfl,Do (by rw [Ds];omega),?_⟩
  show Q (.str (z++Y2 "/"++y)) H;rw [e1 (z++Y2 "/"++y) (by
   rw [Bw,Bw,b,l];unfold sh;rw [if_neg j];show _++[47]++_=_;simp)]
  exact q
theorem iC (T:Txt K mg ad):CalB P w K mg base true 3 "_law_piece_text" ["_law_piece_here"] (cz K):=by
 refine T.W5.calN mR (λ _ _ _ _ _ _=>Br λ _=>rfl) (λ vs H Q E h=>?_) (λ f cdv A outer s H vs Q E a1 h=>?_)
 ·obtain ⟨_,_,rfl,_⟩:=h;rfl
 obtain ⟨v,p,rfl,G,ps,q⟩:=h;refine ⟨_,(Af (Aq (Cm WA xr xt LR Aj (By (Ao Ep (Bo (BX (Ai Ar (pv 0) Ac) Ab)) (Ir ["_law_part_here"] [none] rfl (Q7 (Fb Oe (pv 0) (Et Ac) HW)) (λ _ _ _ _ _=>(Bv (i:=0) (show yb [("_law_part_here":Str)] by decide))) (λ _ _ _ _ _=>Gf) (λ _ _ _ _ _=>(Am (yc T) a1.m Aw (Ad (pv 0) Ab))) (Fz ⋯ ⋯) ⋯ rfl ⋯ rfl (Gr rfl))) Ab)))),?_⟩
 obtain ⟨t,b,rfl,ht,z⟩:∃(t:Addr) (b:List V),v=.ref t/\SqT K H t (.str (wd p)::b)/\DVs K H b ((fracs p).map Av):=by
  cases p with
  | gap B=>
   obtain ⟨t,N,O,rfl,ht,j,k⟩:=DV.t2 (show DV K H v (.tuple [.str "gap",Av B]) from G)
   obtain rfl:=DV.str_of j;exact ⟨t,_,rfl,ht,.cons k .nil⟩
  | glass B=>
   obtain ⟨t,N,O,rfl,ht,j,k⟩:=DV.t2 (show DV K H v (.tuple [.str "glass",Av B]) from G)
   obtain rfl:=DV.str_of j;exact ⟨t,_,rfl,ht,.cons k .nil⟩
  | stop B h=>
   obtain ⟨t,N,O,b0,rfl,ht,j,k,a2⟩:=DV.t3 (show DV K H v (.tuple [.str "stop",Av B,Av h]) from G)
   obtain rfl:=DV.str_of j;exact ⟨t,_,rfl,ht,.cons k (.cons a2 .nil)⟩
 have hl:b.length=(fracs p).length:=by have:=z.len;rw [X9] at this;exact this
 have b1:1<=(fracs p).length/\(fracs p).length<=2:=by cases p<;>exact ⟨by simp [fracs],by simp [fracs]⟩
 refine ⟨rfl,_,rfl,t,_,_,_,rfl,rfl,ht,Dv,(by show 1<=X3;decide),λ n R=>?_⟩
 have I:=Ah R (.lst [.str (wd p)]);have S:upd H n (.lst [.str (wd p)]) n=some (.lst [.str (wd p)]):=Ag;generalize upd H n (.lst [.str (wd p)])=U at I S ⊢;refine ⟨_,rfl,_,rfl,t,_,rfl,ht.keep I,(λ e=>by rw [K7] at e;simp only [W6] at e;omega),λ l W=>⟨l,rfl,⟨_,SqT.of Ag⟩,?_⟩⟩
 rw [Oq];have J:=Ah W (.tup ((V.str (wd p)::b).drop 1));have X:upd U l (.tup ((V.str (wd p)::b).drop 1)) l=some (.tup b):=Ag;have C:=J _ _ S;have L:=I.trans J;generalize upd U l (.tup ((V.str (wd p)::b).drop 1))=a3 at J X C L ⊢;refine Od (K:=K) (a:=l) (xs:=b) (λ i o r g=>∃u,o=[u]/\r=(((fracs p).take i).map Ay).map V.str/\g=a3) ⟨_,rfl,rfl,rfl⟩ ?_ ?_ ?_
 ·rintro i o r g hi ⟨u,rfl,rfl,rfl⟩
  refine ⟨?_,SqT.of X⟩;rw [X9,X9,WS];exact UU (small1000 ∅)
 ·rintro i x o r g hi ⟨u,rfl,rfl,rfl⟩
  obtain ⟨d,hd,a4⟩:=z.get hi;rw [YN] at hd;cases e:(fracs p)[i]? with
  | none=>rw [e] at hd;cases hd
  | some B=>
   rw [e] at hd;cases hd
   refine ⟨_,rfl,x,B,rfl,a4.keep L,ps.2 B (YB e),nx (CJ hi) ⟨_,rfl,?_,rfl⟩⟩;rw [WO,e,Ye,Ye];rfl
 ·rintro o r g y ⟨u,rfl,rfl,rfl⟩ Y
  rw [hl,Jn];have M:=Ah Y (.lst (((fracs p).map Ay).map V.str));have Z:upd g y (.lst (((fracs p).map Ay).map V.str)) y=some (.lst (((fracs p).map Ay).map V.str)):=Ag;have D:=M _ _ C;have s3:=L.trans M;generalize upd g y (.lst (((fracs p).map Ay).map V.str))=b2 at M Z D s3 ⊢;refine ⟨n,y,_,_,rfl,rfl,D,Z,UU (small1000 (by rw [X9,X9];simp only [W6,XG];omega)),λ a5 a0=>?_⟩
  have a6:([.str (wd p)]++((fracs p).map Ay).map V.str:List V)=(toks p).map V.str:=rfl;have a7:JoinOk (Y2 " ") (toks p)=true:=by
   refine zU ?_ (by decide+kernel)
   have a8:∀t∈toks p,t.length<=50:=λ t ht=>Lib.MK p ps t ht
   have a9:=Ji p;have b3:((toks p).map (·.length)).sum<=(toks p).length * 50:=Ma a8
   have b4:(toks p).length * 50<=3 * 50:=QU _ a9.1;omega
  exact ⟨_,a5,toks p,rfl,rfl,by rw [Ag,a6],a7,q _ (s3.trans (Ah a0 _))⟩
theorem Ys (T:Txt K mg ad):CalB P w K mg base true 4 "_law_text" ["_law_bench"] (Yc K):=by
 refine T.Uy.calN vg (λ _ _ _ _ _ _=>Br λ _=>rfl) (λ vs H Q E h=>?_) (λ f cdv A outer s H vs Q E z h=>?_)
 ·obtain ⟨_,_,rfl,_⟩:=h;rfl
 obtain ⟨v,ps,rfl,B,u,sh,q⟩:=h;refine ⟨_,(Af (Aq (Cm WA xr xt LR Aj (Dc (Ir ["_law_piece_here"] [none] rfl (Ej (pv 0)) (λ _ _ _ _ _=>(Bv (i:=0) (show yb [("_law_piece_here":Str)] by decide))) (λ _ _ _ _ _=>Gf) (λ _ _ _ _ _=>(Am (iC T) z.m Aw (Ad (pv 0) Ab))) (Fz ⋯ ⋯) ⋯ rfl ⋯ rfl (Gr rfl)) Ab)))),?_⟩
 have y:=Same.refl H;obtain ⟨b,xs,rfl,hb,n⟩:=B.lst_of;have hl:xs.length=ps.length:=by have:=n.len;rw [X9] at this;exact this
 refine ⟨rfl,_,rfl,b,rfl,⟨_,hb.keep y⟩,?_⟩;refine Oj (K:=K) (a:=b) (xs:=xs) (λ i g j k=>∃l,g=[l]/\j=((ps.take i).map DQ).map V.str/\Same H k) ⟨_,rfl,rfl,y⟩ ?_ ?_ ?_
 ·rintro i g j k hi ⟨l,rfl,rfl,e⟩
  refine ⟨?_,hb.keep e⟩;rw [X9,X9,WS];exact UU (small1000 ∅)
 ·rintro i x g j k hi ⟨l,rfl,rfl,e⟩
  obtain ⟨d,hd,C⟩:=n.get hi;obtain ⟨pc,o,rfl⟩:=Mg hd;refine ⟨_,rfl,x,pc,rfl,C.keep e,sh pc (YB o),λ J s3=>nx (CJ hi) ⟨_,rfl,?_,e.trans s3⟩⟩
  rw [WO,o,Ye,Ye];rfl
 ·rintro g j k p ⟨l,rfl,rfl,e⟩ r
  rw [hl,Jn];have D:JoinOk (Y2 "; ") (ps.map DQ)=true:=by
   refine zU ?_ (by decide+kernel)
   have G:∀t∈ps.map DQ,t.length<=200:=λ t ht=>by
    obtain ⟨p,r,rfl⟩:=UG.mp ht;exact ZD (sh p r)
   have I:=Ma G;rw [X9] at I ⊢;have L:ps.length * 200<=60 * 200:=QU _ u;omega
  exact ⟨_,p,ps.map DQ,rfl,rfl,Ag,D,q _ (e.trans (Ah r _))⟩
end
end K71
section
open PySem L2 Lib Fr Op K71
local macro_rules | `(tactic| walk_at "Zs")=>`(tactic| first | with_reducible assumption | with_reducible exact Same.refl _ | exact zs1 (by with_reducible assumption) (by walk_at "Zs") | exact zs2 (by with_reducible assumption) (by walk_at "Zs"))
local macro_rules | `(tactic| walk_at "Zd")=>`(tactic| first | with_reducible assumption | with_reducible exact DV.int _ | with_reducible exact DV.str _ | with_reducible exact DV.bl _ | with_reducible exact DV.non | exact zd1 (by first | with_reducible assumption | assumption) (by walk_at "Zs") | with_reducible exact dN (by assumption) _ | with_reducible exact dO (by assumption) _ | exact zd2 (by with_reducible assumption) (by walk_at "Zs") (by walk_at "Zd") (by walk_at "Zd") | exact zd3 (by with_reducible assumption) (by walk_at "Zs") (by walk_at "Zd") (by walk_at "Zd") (by walk_at "Zd") | exact zd4 (by with_reducible assumption) (by walk_at "Zs") (by walk_at "Zd") (by walk_at "Zd") (by walk_at "Zd") (by walk_at "Zd"))
local macro_rules | `(tactic| walk_at "Zt")=>`(tactic| first | assumption | exact zt1 (by assumption) (by walk_at "Zs") | exact zt2 (by walk_at "Zs"))
local macro_rules | `(tactic| walk_at "Zl")=>`(tactic| first | assumption | exact JL (by assumption) (by walk_at "Zs") | exact Io (by walk_at "Zs"))
local macro_rules | `(tactic| walk_at "Zv")=>`(tactic| first | exact DVs.nil | exact DVs.cons (by walk_at "Zd") (by walk_at "Zv"))
local macro_rules | `(tactic| walk_at "Zb")=>`(tactic| first | with_reducible assumption | exact bd_zero 1 ⋯ | exact bd_one 1 ⋯ | with_reducible exact Bd.mul (by walk_at "Zb") (by walk_at "Zb") | with_reducible exact Bd.add (by walk_at "Zb") (by walk_at "Zb") | with_reducible exact Bd.sub (by walk_at "Zb") (by walk_at "Zb") | with_reducible exact Tb.a (by with_reducible assumption) | with_reducible exact Tb.b (by with_reducible assumption) | with_reducible exact Tb.c (by with_reducible assumption) | with_reducible exact Tb.d (by with_reducible assumption) | with_reducible exact Rb.y (by with_reducible assumption) | with_reducible exact Rb.u (by with_reducible assumption))
local macro_rules | `(tactic| walk_at "Zm")=>`(tactic| first | with_reducible assumption | with_reducible exact Sm.zero | with_reducible exact Sm.one | exact Bd.sm (by walk_at "Zb") (by first | decide | omega))
local macro_rules | `(tactic| walk_at "Zr")=>`(tactic| first | exact ⟨_,_,rfl,by walk_at "Zm",by walk_at "Zm",rfl⟩ | exact ⟨_,_,rfl,by walk_at "Zm",by walk_at "Zm",by assumption,rfl⟩)
local macro_rules | `(tactic| walk_at "Zc")=>`(tactic| (refine ⟨_,_,by walk_at "Zv",by walk_at "Zr",λ v H' s hv=>?_⟩;(first | (obtain rfl:=DV.bl_of hv) | (have:=(show DV _ _ _ (Av _) from hv);clear this) | (obtain ⟨a,x1,x2,x3,x4,rfl,ha,h1,h2,h3,h4⟩:=DV.t4 hv) | (obtain ⟨a,x1,x2,x3,rfl,ha,h1,h2,h3⟩:=DV.t3 hv) | (obtain ⟨a,x1,x2,rfl,ha,h1,h2⟩:=DV.t2 hv) | skip)))
local macro_rules | `(tactic| walk_at "Zp")=>`(tactic| first | refine ⟨by (show 2<=sizeLine;decide),λ p hp=>?_⟩ | refine ⟨by (show 3<=sizeLine;decide),λ p hp=>?_⟩ | refine ⟨by (show 4<=sizeLine;decide),λ p hp=>?_⟩)
local macro_rules | `(tactic| walk_at "Zn")=>`(tactic| first | refine ⟨_,rfl,?_⟩ | refine ⟨_,_,_,_,rfl,rfl,by walk_at "Zt",by rfl,?_⟩ | refine ⟨_,_,rfl,rfl,?_⟩)
local macro_rules | `(tactic| walk_at "Z1")=>`(tactic| first | walk_at "Zn" | walk_at "Zp" | walk_at "Zc" | refine iteF ?_ | refine iteT ?_)
local macro_rules | `(tactic| walk_at "Z")=>`(tactic| repeat walk_at "Z1")
namespace K71
open PySem L2 Lib Fr Op
seal PE PT PW PA PS PSs PG PGs PI PO CP
section
variable {P:ZU}{w:World}{K:FrG}{mg:Str->Option Value}{base:Heap}{ad:Adr}{c:Bool}
theorem gF (T:Txt K mg ad):CalB P w K mg base true 3 "_law_plus" ["_law_one","_law_other"] (PR K (Jy λ p q=>p+q)):=by
 refine T.WX.calN xU (λ _ _ _ _ _ _=>Bf λ _ _=>rfl) (λ vs H Q E h=>?_) (λ f cdv A outer s H vs Q E g h=>?_)
 ·obtain ⟨_,_,dv,⟨_,_,rfl,_⟩,_⟩:=h;exact dv.len
 obtain ⟨_,_,dv,⟨p,q,rfl,sp,d,rfl⟩,k⟩:=h;obtain ⟨_,_,rfl,i,j⟩:=dv.two;obtain ⟨a,rfl,ha⟩:=i.fr;obtain ⟨b,rfl,hb⟩:=j.fr;refine ⟨_,(Af (Aq (Am (Z3 T) g.m Aw (By (Ao DY (Ao Ea (Ai Ar (pv 0) Ac) (Ai Ar (pv 1) Ac)) (Ao Ea (Ai Ar (pv 1) Ac) (Ai Ar (pv 0) Ac))) (By (Ao Ea (Ai Ar (pv 0) Ac) (Ai Ar (pv 1) Ac)) Ab))))),?_⟩
 refine ⟨_,rfl,a,_,_,_,rfl,rfl,ha,rfl,_,rfl,b,_,_,_,rfl,rfl,hb,rfl,_,_,rfl,rfl,Du sp.n d.dn,?_⟩;refine ⟨_,rfl,b,_,_,_,rfl,rfl,hb,rfl,_,rfl,a,_,_,_,rfl,rfl,ha,rfl,_,_,rfl,rfl,Du d.n sp.dn,_,_,rfl,rfl,?_⟩;refine ⟨_,rfl,a,_,_,_,rfl,rfl,ha,rfl,_,rfl,b,_,_,_,rfl,rfl,hb,rfl,_,_,rfl,rfl,Du sp.dn d.dn,?_⟩;refine ⟨_,_,rfl,Int.mul_pos (KY p) (KY q),NK sp.dn d.dn,λ r g=>k _ _ (Ah g _) ?_⟩
 have e:=Jf (K:=K) (H:=H) (t:=p.num * (q.den:Int)+q.num * (p.den:Int)) (b:=(p.den:Int) * (q.den:Int)) (p:=r) (Ii p q);rw [Fr.WW] at e;exact e
theorem mQ (T:Txt K mg ad):CalB P w K mg base true 4 "_law_less" ["_law_one","_law_other"] (PR K (Jy λ p q=>p - q)):=by
 refine T.WD.calN xG (λ _ _ _ _ _ _=>Bf λ _ _=>rfl) (λ vs H Q E h=>?_) (λ f cdv A outer s H vs Q E i h=>?_)
 ·obtain ⟨_,_,dv,⟨_,_,rfl,_⟩,_⟩:=h;exact dv.len
 obtain ⟨_,_,dv,⟨p,q,rfl,sp,j,rfl⟩,k⟩:=h;obtain ⟨_,_,rfl,l,n⟩:=dv.two;obtain ⟨b,rfl,hb⟩:=n.fr;refine ⟨_,(Af (Aq (Am (gF T) i.m Aw (Ad (pv 0) (Jt (Cz (By (Ao G4 Ac (Ai Ar (pv 1) Ac)) (BX (Ai Ar (pv 1) Ac) Ab))) Ab))))),?_⟩
 refine ⟨_,rfl,_,rfl,b,_,_,_,rfl,rfl,hb,rfl,_,_,rfl,rfl,_,rfl,b,_,_,_,rfl,rfl,hb,rfl,(by show 2<=X3;decide),λ a d=>?_⟩
 have g:=Ah d (.tup [.int (0 - q.num),.int (q.den:Int)]);have dn:DV K (upd H a (.tup [.int (0 - q.num),.int (q.den:Int)])) (.ref a) (Av (-q)):=by
  rw [AR2];exact .tup (SqT.of Ag) (.cons (.int _) (.cons (.int _) .nil))
 refine ⟨_,_,.cons (l.keep g) (.cons dn .nil),⟨_,_,rfl,sp,j.neg,rfl⟩,λ v o r t=>k _ _ (g.trans r) ?_⟩
 have e:p+-q=p - q:=(Rat.sub_eq_add_neg p q).symm;show DV K o v (Av (p - q));rw [<- e];exact t
end
end K71
namespace K71
open PySem L2 Lib Fr Op Tx PySem.NumText
seal PE PT PW PA PS PSs PG PGs PI PO CP PJ
section
variable {P:ZU}{w:World}{K:FrG}{mg:Y1->Option Value}{base:Heap}{ad:Adr}{c:Bool}
theorem dN (T:Txt K mg ad)(H:Hp):DV K H (.ref ad.NOUGHT) (Av 0):=.tup (T.ex.s_NOUGHT H) (.cons (.int 0) (.cons (.int 1) .nil))
theorem dO (T:Txt K mg ad)(H:Hp):DV K H (.ref ad.ONE) (Av 1):=.tup (T.ex.s_ONE H) (.cons (.int 1) (.cons (.int 1) .nil))
theorem lL (T:Txt K mg ad):CalB P w K mg base true 1 "is_name" ["thing"] (uw K):=by
 refine T.Va.calN sE (λ _ _ _ _ _ _=>Br λ _=>rfl) (λ vs H Q E h=>?_) (λ f cdv A outer s H vs Q E l h=>?_)
 ·obtain ⟨_,_,rfl,_⟩:=h;rfl
 obtain ⟨v,d,rfl,b,ok,q⟩:=h;refine ⟨_,(Ae (Az (PW.pt (pw_or (Bt (Bh (BW Dy rfl T.isinstance Cq (Ad (pv 0) (Ad (Dq (v:=.ty "str") rfl T.str HY rfl) Ab))))) (pw_or1 (Bt (Z0 Mw Mw Ac (BW bc rfl T.len Cr (Ad (pv 0) Ab)) (Bb (v:=.int 8) rfl T.ex.m_MOST_LETTERS ⟨_,rfl⟩)))))) (Af (Aq DW)) BJ) (Af (Aq (BW (Lx rfl) rfl T.all N8 (Dc (aN rfl (pv 0) T.ex.m_LETTERS ⋯ ⋯ rfl ⋯ rfl rfl rfl rfl) Ab))))),?_⟩
 refine ⟨_,rfl,_,_,_,_,rfl,b,Hd d,_,rfl,?_⟩;cases ht:JT d with
 | false=>
  have a:=q _ (Same.refl _);rw [wX ht] at a;exact iteT (iteT a)
 | true=>
  obtain ⟨z,rfl⟩:=Xg ht;obtain rfl:=DV.str_of b;have g:=ok z rfl;refine iteF ⟨_,rfl,z,rfl,g,_,_,rfl,rfl,_,rfl,?_⟩;by_cases i:1<=z.length
  ·refine Bm (ζ ∅) ⟨_,_,rfl,rfl,_,rfl,?_⟩
   by_cases j:z.length<=8
   ·refine BP (by rw [ζ ∅];rfl) ?_
    refine ⟨_,rfl,z,rfl,g,λ p k=>?_⟩
    refine ⟨p,(zz z).map Jo,rfl,SqL.of (by rw [Qc];exact Ag),?_⟩
    have a:=q _ (Ah k (.lst ((zz z).map λ x=>V.bl (Jo x))))
    have e:Iw (.str z)=((zz z).map Jo).all id:=by
     show ((decide (1<=z.length) && decide (z.length<=8)) && _)=_;rw [ζ i,ζ j,MU];rfl
    rw [<- e];exact a
   ·have a:=q _ (Same.refl _);have e:Iw (.str z)=false:=by
     show ((decide (1<=z.length) && decide (z.length<=8)) && _)=_;rw [η j,FV,wi]
    rw [e] at a;exact Bm (by rw [η ∅];rfl) a
  ·have a:=q _ (Same.refl _);have e:Iw (.str z)=false:=by
    show ((decide (1<=z.length) && decide (z.length<=8)) && _)=_;rw [η i,wi,wi]
   rw [e] at a;exact BP (η ∅) ⟨_,rfl,iteT a⟩
theorem gH (T:Txt K mg ad):CalB P w K mg base true 2 "look_at_name" ["word"] nH:=by
 refine T.Ss.calN AI1 (λ _ _ _ _ _ _=>Br λ _=>rfl) (λ vs H Q E h=>?_) (λ f cdv A outer s H vs Q E a h=>?_)
 ·obtain ⟨_,rfl,_⟩:=h;rfl
 obtain ⟨x,rfl,nx,k⟩:=h;refine ⟨_,(Af (Az (Bt (Bh (Am (lL T) a.m Aw (Ad (pv 0) Ab)))) (Af Gv) BJ)),?_⟩
 refine ⟨_,rfl,_,_,rfl,.str x,(λ z e=>by cases e;exact W8 nx.len ⋯),λ d b=>?_⟩
 refine ⟨_,rfl,?_⟩;refine BP (by rw [show Iw (.str x)=true from nx];rfl) ?_
 exact k _ b
theorem Ko (T:Txt K mg ad):CalB P w K mg base true 4 "read_number_desk" ["word"] (gh K ad.NoRow):=by
 refine T.Ko.calB AP3 (λ _ _ _ _ _ _=>Br λ _=>rfl) (λ vs H Q E h=>?_) (λ f cdv A outer s H vs Q E a h=>?_)
 ·obtain ⟨_,rfl,_⟩:=h;rfl
 obtain ⟨x,rfl,d,q,g⟩:=h;refine ⟨_,(Af (dF BK (cI T) a.m (Ad (pv 0) Ab) T.ex.m_NoNumber T.ex.c_NoRow)),?_⟩
 cases e:numOf x with
 | some r=>
  obtain ⟨i,rfl⟩:=K9 e;exact ⟨_,rfl,_,rfl,.inl ⟨_,r,rfl,i,Em r,λ p b s' j=>q r e _ b s' (.tup (SqT.of j) (.cons (.int _) (.cons (.int _) .nil)))⟩⟩
 | none=>exact ⟨_,rfl,_,rfl,.inr ⟨x,rfl,d,λ r a ex=>Xx e r a (ext (by rw [Em,ex])),λ b s'=>⟨_,rfl,T.ex.x_NoNumber_NoNumber,g e b s'⟩⟩⟩
theorem wL (T:Txt K mg ad):CalB P w K mg base true 4 "read_number_desk" ["word"] (yC K):=(Ko T).imp λ vs H Q E h=>by
 obtain ⟨q,rfl,a,k⟩:=h;exact ⟨_,rfl,W8 (Px a) ⋯,(λ r e=>by rw [Jh a] at e;cases e;exact k),λ e=>by rw [Jh a] at e;cases e⟩
abbrev V0 (ad:Adr):List (Y1×V):=[("join",V.ref ad.ROWS_join),("turn",V.ref ad.ROWS_turn),("show",V.ref ad.ROWS_show),("walk",V.ref ad.ROWS_walk),("table",V.ref ad.ROWS_table),("apart",V.ref ad.ROWS_apart),("image",V.ref ad.ROWS_image),("field",V.ref ad.ROWS_field),("sharp",V.ref ad.ROWS_sharp),("rounds",V.ref ad.ROWS_rounds)]
theorem gk {u:Y1}:∀{l:List (Y1×V)},(∀z∈l.map (·.1),z≠u)->valV (Cd l) (.inr u)=none
 | [],_=>rfl
 | (z,v)::l,h=>by
  have a:=gk (u:=u) (l:=l) λ y b=>h y (ZX _ b)
  have d:¬ (wq z:Key)=.inr u:=λ e=>h z (YV ..) (CO e)
  unfold valV Cd at a ⊢;rw [YY,xy];simp only [η d];exact a
theorem AO4 (T:Txt K mg ad)(u:Y1):match Ff u with | none=>valV (Cd (V0 ad)) (.inr u)=none | some (a,b)=>∃n,valV (Cd (V0 ad)) (.inr u)=some (.ref n)/\∀H,SqT K H n [.int (a:Nat),.int (b:Nat)]:=by
 unfold Ff;by_cases e:u=Aa "join"
 ·subst e;rw [if_pos rfl];exact ⟨_,by unfold valV Cd;rfl,λ H=>T.ex.s_ROWS_join H⟩
 rw [if_neg e];by_cases f:u=Aa "turn"
 ·subst f;rw [if_pos rfl];exact ⟨_,by unfold valV Cd;rfl,λ H=>T.ex.s_ROWS_turn H⟩
 rw [if_neg f];by_cases g:u=Aa "show"
 ·subst g;rw [if_pos rfl];exact ⟨_,by unfold valV Cd;rfl,λ H=>T.ex.s_ROWS_show H⟩
 rw [if_neg g];by_cases h:u=Aa "walk"
 ·subst h;rw [if_pos rfl];exact ⟨_,by unfold valV Cd;rfl,λ H=>T.ex.s_ROWS_walk H⟩
 rw [if_neg h];by_cases i:u=Aa "table"
 ·subst i;rw [if_pos rfl];exact ⟨_,by unfold valV Cd;rfl,λ H=>T.ex.s_ROWS_table H⟩
 rw [if_neg i];by_cases j:u=Aa "apart"
 ·subst j;rw [if_pos rfl];exact ⟨_,by unfold valV Cd;rfl,λ H=>T.ex.s_ROWS_apart H⟩
 rw [if_neg j];by_cases k:u=Aa "image"
 ·subst k;rw [if_pos rfl];exact ⟨_,by unfold valV Cd;rfl,λ H=>T.ex.s_ROWS_image H⟩
 rw [if_neg k];by_cases l:u=Aa "field"
 ·subst l;rw [if_pos rfl];exact ⟨_,by unfold valV Cd;rfl,λ H=>T.ex.s_ROWS_field H⟩
 rw [if_neg l];by_cases m:u=Aa "sharp"
 ·subst m;rw [if_pos rfl];exact ⟨_,by unfold valV Cd;rfl,λ H=>T.ex.s_ROWS_sharp H⟩
 rw [if_neg m];by_cases d:u=Aa "rounds"
 ·subst d;rw [if_pos rfl];exact ⟨_,by unfold valV Cd;rfl,λ H=>T.ex.s_ROWS_rounds H⟩
 rw [if_neg d];refine gk λ z o=>?_
 simp only [V0,YY,MQ,ZN,WB,or_false] at o;rcases o with rfl | rfl | rfl | rfl | rfl | rfl | rfl | rfl | rfl | rfl
 ·exact WU e
 ·exact WU f
 ·exact WU g
 ·exact WU h
 ·exact WU i
 ·exact WU j
 ·exact WU k
 ·exact WU l
 ·exact WU m
 ·exact WU d
theorem rC (T:Txt K mg ad)(c1:w.params=ad.pr):CalB P w K mg base true 8 "read_row" ["words"] (jR K):=by
 refine T.V1.calN Lk (λ _ _ _ _ _ _=>Br λ _=>rfl) (λ vs H Q E h=>?_) (λ f cdv A outer s H vs Q E a5 h=>?_)
 ·obtain ⟨_,_,_,_,rfl,_⟩:=h;rfl
 obtain ⟨l,b,xs,qs,rfl,hl,I,k⟩:=h;refine ⟨_,(Ae (Ax (i:=1) Lk.nd (zJ (Bb (v:=.ref ad.ROWS) rfl T.ex.m_ROWS rfl) (Ai Bq (pv 0) Ac) ⟨rfl,rfl,rfl,rfl⟩)) (Ae (Az (PW.pt (pw_or (BR cg (pv 1) Ja) (pw_or1 (BR Dm (BW Cy rfl T.len Cr (Ad (pv 0) Ab)) (Ao DY (Ao DY Ac (Ai Ar (pv 1) Ac)) (Ai Ar (pv 1) Ac)))))) (Af Gv) BJ) (Ae (Ax (i:=2) Lk.nd (Fb Oi (pv 0) (Et Ac) (Et (Ao DY Ac (Ai Ar (pv 1) Ac))))) (Ae (Dk WH rfl (Ej (pv 2)) (Bv (i:=3) Lk.nd) (Af (DG (Am (gH T) a5.m Aw (Ad (pv 3) Ab))))) (Ae (vp (i:=4) Lk.nd rfl (by walk_at "o") ["word"] [none] rfl (Ej (Fb Oi (pv 0) (Et (Ao DY Ac (Ai Ar (pv 1) Ac))) HW)) (λ _ _ _ _ _=>(Bv (i:=0) (show yb [("word":Str)] by decide))) (λ _ _ _ _ _=>Gf) (λ _ _ _ _ _=>(Am (wL T) a5.m Aw (Ad (pv 0) Ab))) (Fz ⋯ ⋯) ⋯ rfl ⋯ rfl (Gr rfl)) (Ae (Az (PW.pt (pw_and (BR Bu (Ai Bq (pv 0) Ac) Aj) (pw_and1 (Bh (Am (N5 T) a5.m Aw (BX (Ai Bq (pv 4) Ac) (Ad (Bb (v:=.ref ad.NOUGHT) rfl T.ex.m_NOUGHT rfl) Ab))))))) (Af Gv) BJ) (Af (Aq (Cz (Ad (pv 2) (Ad (pv 4) Ab))))))))))),?_⟩
 have b3:=AO4 T b;rw [I.f] at b3;obtain ⟨M,c2,D⟩:=b3;obtain ⟨d4,d5⟩:=lK I.f;have one:(1:Nat)<=X3:=by decide
 refine ⟨ad.ROWS,_,rfl,T.ex.g_ROWS _ _ c1,_,rfl,l,_,_,.str b,rfl,rfl,SqL.of hl,Ba (j:=0) rfl,.inr b,rfl,?_⟩;rw [c2];refine ⟨_,rfl,rfl,_,rfl,BP (by rfl) ?_⟩
 have a6:((b::(xs++qs.map Ay)).map V.str).length=1+(xs.length+qs.length):=by simp only [X9,W6,ZA];omega
 refine ⟨_,rfl,l,_,rfl,.inl (SqL.of hl),_,rfl,M,_,_,.int (xs.length:Nat),rfl,rfl,D H,rfl,_,_,rfl,rfl,_,rfl,M,_,_,.int (qs.length:Nat),rfl,rfl,D H,rfl,_,_,rfl,rfl,?_⟩;refine ⟨rfl,_,rfl,BP (by rw [Dr,ζ (show (((b::(xs++qs.map Ay)).map V.str).length:Int)=1+(xs.length:Int)+(qs.length:Int) by rw [a6];omega)];rfl) ?_⟩
 refine ⟨_,rfl,_,rfl,_,rfl,M,_,_,.int (xs.length:Nat),rfl,rfl,D H,rfl,_,_,rfl,rfl,_,rfl,l,_,rfl,SqL.of hl,λ g b4=>?_⟩
 have a1:(1:Int)+(xs.length:Int)=((1+xs.length:Nat):Int):=by omega
 have c3:cutV ((b::(xs++qs.map Ay)).map V.str) (some 1) (some (1+(xs.length:Int)))=xs.map V.str:=by
  rw [a1];unfold cutV;rw [show HT.sIx ((b::(xs++qs.map Ay)).map V.str).length 0 (some 1)=min 1 ((b::(xs++qs.map Ay)).map V.str).length from HT.Im _ _ 1,HT.Im,a6,Fm ∅,Fm ∅]
  show (((xs++qs.map Ay).map V.str).take (1+xs.length - 1))=_;rw [show 1+xs.length - 1=xs.length by omega,Ye]
  exact List.take_left' (by rw [X9])
 have c4:cutV ((b::(xs++qs.map Ay)).map V.str) (some (1+(xs.length:Int))) none=(qs.map Ay).map V.str:=by
  rw [a1];unfold cutV;rw [HT.Im,HT.VM,a6,Fm ∅,YY,qV 1 xs.length,List.drop_succ_cons,Ye,List.drop_left' (by rw [X9])]
  exact zd (by rw [X9,X9];omega)
 rw [c3];have a7:=Ah b4 (.lst (xs.map V.str));have o:upd H g (.lst (xs.map V.str)) g=some (.lst (xs.map V.str)):=Ag;generalize upd H g (.lst (xs.map V.str))=c5 at a7 o ⊢;refine ⟨_,rfl,g,rfl,⟨_,SqL.of o⟩,?_⟩;refine Fx (K:=K) (a:=g) (xs:=xs.map V.str) (λ i t u=>∃X,t=[some (.ref l),some (.ref M),some (.ref g),X,none]/\Same c5 u) ⟨_,rfl,Same.refl _⟩ ?_ ?_ ?_
 ·rintro i t u hi ⟨X,rfl,B⟩
  exact SqL.of (B _ _ o)
 ·rintro i y t u hi ⟨X,rfl,B⟩
  rw [YN] at hi;obtain ⟨x,a8,rfl⟩:=UD.mp hi;exact ⟨_,rfl,x,rfl,I.n x (YB a8),λ b5 s3=>⟨_,rfl,B.trans s3⟩⟩
 ·rintro t u ⟨X,rfl,B⟩
  have a2:u l=some (.lst ((b::(xs++qs.map Ay)).map V.str)):=B _ _ (a7 _ _ hl);refine ⟨_,rfl,_,rfl,M,_,_,.int (xs.length:Nat),rfl,rfl,D u,rfl,_,_,rfl,rfl,_,rfl,l,_,rfl,SqL.of a2,λ N a9=>?_⟩
  rw [c4];have Y:=Ah a9 (.lst ((qs.map Ay).map V.str));have O:upd u N (.lst ((qs.map Ay).map V.str)) N=some (.lst ((qs.map Ay).map V.str)):=Ag;generalize upd u N (.lst ((qs.map Ay).map V.str))=b5 at Y O ⊢;have t3:=(a7.trans B).trans Y;refine ⟨N,rfl,⟨_,SqL.of O⟩,?_⟩;refine Oj (K:=K) (a:=N) (xs:=(qs.map Ay).map V.str) (λ i t e C=>∃Z,t=[Z]/\Same b5 C/\DVs K C e ((qs.take i).map Av)) ⟨_,rfl,Same.refl _,.nil⟩ ?_ ?_ ?_
  ·rintro i t e C hi ⟨Z,rfl,R,dv⟩
   have c6:=dv.len;rw [X9,WS] at c6;exact ⟨W8 (show e.length<=5 by omega) ⋯,SqL.of (R _ _ O)⟩
  ·rintro i y t e C hi ⟨Z,rfl,R,dv⟩
   have b6:=CJ hi;rw [YN,YN] at hi;obtain ⟨x,a8,rfl⟩:=UD.mp hi;obtain ⟨q,S,rfl⟩:=UD.mp a8;refine ⟨_,rfl,q,rfl,I.q q (YB S),λ v U b7 c7=>nx b6 ⟨_,rfl,R.trans b7,?_⟩⟩
   rw [WO,S,Ye];exact DVs.append (dv.keep b7) (.cons c7 .nil)
  ·rintro t e C p ⟨Z,rfl,R,dv⟩ c8
   rw [X9,X9,Jn] at dv;have b0:=Ah c8 (.lst e);have b1:(upd C p (.lst e)) p=some (.lst e):=Ag;have F:=dv.keep b0;have G:=R.trans b0;generalize upd C p (.lst e)=U at b0 b1 F G ⊢;have c9:=t3.trans G;have a3:∀J,Same U J->∀r,J r=none->Q (.ref r) (upd J r (.tup [.ref g,.ref p])):=λ J L r z=>by
    have a0:=Ah z (.tup [.ref g,.ref p]);exact k r g p _ ((c9.trans L).trans a0) Ag (a0 _ _ (L _ _ (G _ _ (Y _ _ (B _ _ o))))) (.lst (SqL.of (a0 _ _ (L _ _ b1))) (F.keep (L.trans a0)))
   refine ⟨_,rfl,l,_,_,.str b,rfl,rfl,SqL.of (G _ _ (Y _ _ a2)),Ba (j:=0) rfl,rfl,_,rfl,?_⟩;rw [Bg];by_cases b2:b=Y2 "sharp"
   ·obtain ⟨q,S,d0⟩:=I.s b2;refine Bm (ζ b2) ?_;have a4:(qs.map Av)[4]?=some (Av q):=by rw [YN,S];rfl
    obtain ⟨d1,b8,W⟩:∃y,e[4]?=some y/\DV K U y (Av q):=by
     have d3:=F.len;have d6:=CJ a4;obtain ⟨y,b9⟩:∃y,e[4]?=some y:=⟨_,Xs ∅⟩
     obtain ⟨d,hd,W⟩:=F.get b9;rw [a4] at hd;cases hd
     exact ⟨y,b9,W⟩
    have d2:Short q:=I.q q (YB S);refine ⟨_,rfl,p,_,_,d1,rfl,rfl,SqL.of b1,Ba (j:=4) b8,_,_,.cons W (.cons (dN T U) .nil),⟨q,0,rfl,(Hl d2).sm ⋯,Sm.zero,rfl⟩,λ d7 J L c0=>?_⟩
    obtain rfl:=c0.bl_of;rw [η (Rat.not_lt.mpr d0)];exact ⟨_,rfl,iteF ⟨_,rfl,_,rfl,(by show 2<=X3;decide),λ r z=>a3 J L r z⟩⟩
   ·refine BP (η b2) (iteF ?_);exact ⟨_,rfl,_,rfl,(by show 2<=X3;decide),λ r z=>a3 U (Same.refl _) r z⟩
end
end K71
namespace K71
open PySem L2 Lib Fr Op
seal PE PT PW PA PS PSs PG PGs PI PO CP
section
variable {P:ZU}{w:World}{K:FrG}{mg:Str->Option Value}{base:Heap}{ad:Adr}{c:Bool}
theorem gR (T:Txt K mg ad):CalB P w K mg base true 5 "limits_of" ["bench"] (AI5 K):=by
 refine T.RK.calN GR (λ _ _ _ _ _ _=>Br λ _=>rfl) (λ vs H Q E h=>?_) (λ f cdv A outer s H vs Q E c9 h=>?_)
 ·obtain ⟨_,_,_,rfl,_⟩:=h;rfl
 obtain ⟨b,ps,m,rfl,hb,c8,f4,q⟩:=h;obtain ⟨a,xs,rfl,ha,d5⟩:=DV.lst_of hb;have hl:xs.length=ps.length:=by have:=d5.len;rw [X9] at this;exact this
 have i2:=c8.len;refine ⟨_,(Ae (DG (Am (Qu T) c9.m Aw (Ad (pv 0) Ab))) (Ae (Ax (i:=1) GR.nd (Bo Ab)) (Ae (Ax (i:=2) GR.nd (Cz (Ad (Bb (v:=.ref ad.ONE) rfl T.ex.m_ONE rfl) (Ad (Bb (v:=.ref ad.NOUGHT) rfl T.ex.m_NOUGHT rfl) Ab)))) (Ae (Ax (i:=3) GR.nd (Cz (Ad (Bb (v:=.ref ad.NOUGHT) rfl T.ex.m_NOUGHT rfl) (Ad (Bb (v:=.ref ad.ONE) rfl T.ex.m_ONE rfl) Ab)))) (Ae (Dk WH rfl (Sv rfl T.enumerate (Ad (pv 0) Ab)) (Vb (n:=2) rfl (En (Bv (i:=4) GR.nd) (En (Bv (i:=5) GR.nd) Jp))) (Ae (Az (BR Bu (Ai Ar (pv 5) Ac) (Bb (v:=.str "stop") rfl T.ex.m_STOP ⟨⟨_,T.ex.z_STOP⟩,rfl⟩)) (Af (DG (Cm XB XT XU Eg (pv 1) (Jt (Cz (Ad (pv 4) (BX (Ai Ar (pv 2) Ac) (BX (Ai Ar (pv 3) Ac) (BX (Ai Ar (pv 5) Ac) (BX (Ai Ar (pv 5) Ac) Ab)))))) Ab)))) BJ) (Ae (Ax (i:=6) GR.nd (Am (wB T) c9.m Aw (Ad (pv 5) Ab))) (Ae (Ax (i:=2) GR.nd (Hu (k:=4) (pv 6) c9.m (Ad (pv 2) Ab))) (Af (Ax (i:=3) GR.nd (Hu (k:=4) (pv 6) c9.m (Ad (pv 3) Ab)))))))) (Af (Aq (pv 1)))))))),?_⟩
 refine ⟨_,rfl,_,ps,m,rfl,hb,c8,by omega,λ f5 f6=>?_⟩
 refine ⟨(by show 0<=X3;decide),λ l d6=>?_⟩
 have f7:H l=none:=f6.free d6;have f8:=Ah d6 (.lst []);have d7:upd f5 l (.lst []) l=some (.lst []):=Ag;generalize upd f5 l (.lst [])=d8 at f8 d7 ⊢;refine ⟨(by show 2<=X3;decide),λ e8 d9=>?_⟩
 have f9:=Ah d9 (.tup [.ref ad.ONE,.ref ad.NOUGHT]);have h3:DV K (upd d8 e8 (.tup [.ref ad.ONE,.ref ad.NOUGHT])) (.ref e8) (Df e1):=DV.upd2 d9 (dO T _) (dN T _);refine ⟨(by show 2<=X3;decide),λ g0 e0=>?_⟩
 have e9:=Ah e0 (.tup [.ref ad.NOUGHT,.ref ad.ONE]);have h4:DV K (upd (upd d8 e8 (.tup [.ref ad.ONE,.ref ad.NOUGHT])) g0 (.tup [.ref ad.NOUGHT,.ref ad.ONE])) (.ref g0) (Df e2):=DV.upd2 e0 (dN T _) (dO T _);have g1:=f6.trans (f8.trans (f9.trans e9));refine ⟨_,rfl,a,rfl,⟨_,ha.keep g1⟩,?_⟩;refine Ym (K:=K) (a:=a) (xs:=xs) (λ i d0 a0=>∃b5 b6 b7 a1 a2 vs,d0=[some (.ref a),some (.ref l),some a1,some a2,b5,b6,b7]/\Same H a0/\a0 l=some (.lst vs)/\DVs K a0 vs ((Ez (ps.take i)).map Gm)/\DV K a0 a1 (Df (Ck (ps.take i) e1))/\DV K a0 a2 (Df (Ck (ps.take i) e2))/\RB (2+i * (m+1)) (Ck (ps.take i) e1)/\RB (2+i * (m+1)) (Ck (ps.take i) e2)) ⟨_,_,_,_,_,[],rfl,g1,(f9.trans e9) _ _ d7,.nil,h3.keep e9,h4,by simpa [Ck] using yo,by simpa [Ck] using rW⟩ ?_ ?_ ?_
 ·rintro i d0 a0 hi ⟨b5,b6,b7,a1,a2,vs,rfl,s3,_⟩
  exact ha.keep s3
 ·rintro i x d0 a0 p hi ⟨b5,b6,b7,a1,a2,vs,rfl,s3,a6,D,a7,a8,d1,d2⟩ h5
  obtain ⟨d,hd,h6⟩:=d5.get hi;obtain ⟨pc,b1,rfl⟩:=Mg hd;have j:=YB b1;have g2:=CJ b1;have b8:=v4 f4 g2;have up:=Ah h5 (.tup [.int i,x]);have u:=h6.keep (s3.trans up);refine ⟨p,_,rfl,SqT.of Ag,rfl,_,_,rfl,_,_,rfl,rfl,?_⟩;have d3:=xx b1;have f0:=AG8 b1;have i3:vs.length<=60:=by
   have g3:=D.len;rw [X9] at g3;have h7:=AQ7 (ps.take i) 0 e1 e2;rw [WS] at h7;unfold Ez at g3;omega
  have c0:∀(b2:List V) (g:Hp),Same H g->g l=some (.lst b2)->DVs K g b2 ((Ez (ps.take (i+1))).map Gm)->DV K g a1 (Df (Ck (ps.take i) e1))->DV K g a2 (Df (Ck (ps.take i) e2))->DV K g x (CK pc)->∀(o:Addr) a3,Same g a3->ObAt K ad.Gap ad.Glass ad.Stop a3 (.ref o) pc->∀W X,Same a3 X->DV K X W (Df (pc.bent (Ck (ps.take i) e1)))->∀Y Z,Same X Z->DV K Z Y (Df (pc.bent (Ck (ps.take i) e2)))->
    ∃b5 b6 b7 a1 a2 vs,([some (.ref a),some (.ref l),some W,some Y,some (.int (i:Int)),some x,some (.ref o)]:St)=[some (.ref a),some (.ref l),some a1,some a2,b5,b6,b7]/\Same H Z/\Z l=some (.lst vs)/\DVs K Z vs ((Ez (ps.take (i+1))).map Gm)/\DV K Z a1 (Df (Ck (ps.take (i+1)) e1))/\DV K Z a2 (Df (Ck (ps.take (i+1)) e2))/\RB (2+(i+1) * (m+1)) (Ck (ps.take (i+1)) e1)/\RB (2+(i+1) * (m+1)) (Ck (ps.take (i+1)) e2):=by
   intro b2 g a4 b3 f1 _ _ _ o a3 G _ W X I J Y Z a9 L;refine ⟨_,_,_,W,Y,b2,rfl,a4.trans (G.trans (I.trans a9)),(G.trans (I.trans a9)) _ _ b3,f1.keep (G.trans (I.trans a9)),?_,?_,?_,?_⟩
   ·rw [d3];exact J.keep a9
   ·rw [d3];exact L
   ·rw [d3];exact Rb.mono (fX (c8.bd _ j) d1) (by rw [Nat.add_mul];omega)
   ·rw [d3];exact Rb.mono (fX (c8.bd _ j) d2) (by rw [Nat.add_mul];omega)
  cases pc with
  | gap e=>
   obtain ⟨a5,z,c1,rfl,B,b9,b4⟩:=DV.t2 u;obtain rfl:=b9.str_of;refine ⟨_,rfl,a5,_,_,_,rfl,rfl,B,rfl,rfl,_,rfl,BP ⋯ ?_⟩
   refine ⟨_,rfl,_,.gap e,rfl,u,λ o g a4 N=>?_⟩
   obtain ⟨O,C,dx,fs,r,sp,R,S,U,M,t⟩:=JS (P:=P) (w:=w) (base:=base) T N (a7.keep (up.trans a4)) d1 (c8.bd _ j) b8;refine ⟨_,rfl,O,C,dx,fs,r,sp,R,S,U,M,_,rfl,t _ (λ W a3 G J=>?_)⟩
   obtain ⟨O,C,dx,fs,r,sp,R,S,U,M,t⟩:=JS (P:=P) (w:=w) (base:=base) T (N.keep G) (a8.keep (up.trans (a4.trans G))) d2 (c8.bd _ j) b8;refine ⟨_,rfl,O,C,dx,fs,r,sp,R,S,U,M,_,rfl,t _ (λ Y X I L=>?_)⟩
   exact c0 vs _ (s3.trans up) (up _ _ a6) (by rw [f0];show DVs K _ vs ((Ez (ps.take i)++[]).map Gm);rw [WC];exact D.keep up) (a7.keep up) (a8.keep up) u o g a4 N W a3 G J Y X I L
  | glass e=>
   obtain ⟨a5,z,c1,rfl,B,b9,b4⟩:=DV.t2 u;obtain rfl:=b9.str_of;refine ⟨_,rfl,a5,_,_,_,rfl,rfl,B,rfl,rfl,_,rfl,BP ⋯ ?_⟩
   refine ⟨_,rfl,_,.glass e,rfl,u,λ o g a4 N=>?_⟩
   obtain ⟨O,C,dx,fs,r,sp,R,S,U,M,t⟩:=JS (P:=P) (w:=w) (base:=base) T N (a7.keep (up.trans a4)) d1 (c8.bd _ j) b8;refine ⟨_,rfl,O,C,dx,fs,r,sp,R,S,U,M,_,rfl,t _ (λ W a3 G J=>?_)⟩
   obtain ⟨O,C,dx,fs,r,sp,R,S,U,M,t⟩:=JS (P:=P) (w:=w) (base:=base) T (N.keep G) (a8.keep (up.trans (a4.trans G))) d2 (c8.bd _ j) b8;refine ⟨_,rfl,O,C,dx,fs,r,sp,R,S,U,M,_,rfl,t _ (λ Y X I L=>?_)⟩
   exact c0 vs _ (s3.trans up) (up _ _ a6) (by rw [f0];show DVs K _ vs ((Ez (ps.take i)++[]).map Gm);rw [WC];exact D.keep up) (a7.keep up) (a8.keep up) u o g a4 N W a3 G J Y X I L
  | stop lo c2=>
   obtain ⟨a5,z,c1,f2,rfl,B,b9,b4,e3⟩:=DV.t3 u;obtain rfl:=b9.str_of;have c3:=up _ _ a6;have k1:=a7.keep up;have k2:=a8.keep up;have c4:=D.keep up;have e4:=s3.trans up;generalize upd a0 p (.tup [.int i,.ref a5])=g4 at B b9 b4 e3 u c3 k1 k2 c4 e4 ⊢;obtain ⟨g5,r1,r2,rfl,g6,g7,i0⟩:=DV.t2 k1;obtain ⟨g8,f3,t2,rfl,g9,h0,i1⟩:=DV.t2 k2;refine ⟨_,rfl,a5,_,_,_,rfl,rfl,B,rfl,rfl,_,rfl,Bm ⋯ ?_⟩
   refine ⟨_,rfl,.inl ⟨rfl,_,SqL.of c3⟩,?_⟩;refine ⟨_,rfl,_,rfl,g5,_,_,_,rfl,rfl,g6,rfl,_,rfl,g8,_,_,_,rfl,rfl,g9,rfl,_,rfl,a5,_,_,_,rfl,rfl,B,rfl,_,rfl,a5,_,_,_,rfl,rfl,B,rfl,(by show 5<=X3;decide),λ y e5=>?_⟩
   have h1:DV K (upd g4 y (.tup [.int i,r1,f3,c1,f2])) (.ref y) (Gm ⟨i,(Ck (ps.take i) e1).1,(Ck (ps.take i) e2).1,lo,c2⟩):=DV.upd5 e5 (.int _) g7 h0 b4 e3;have b0:=Ah e5 (.tup [.int i,r1,f3,c1,f2]);generalize upd g4 y (.tup [.int i,r1,f3,c1,f2])=g at h1 b0 ⊢;have b3:=b0 _ _ c3;refine ⟨l,vs,_,rfl,rfl,b3,small1000 ∅,?_⟩
   have d4:=R6 b3 (.lst (vs++[.ref y]));have h2:Same H (upd g l (.lst (vs++[.ref y]))):=λ b o e=>by
    rw [Al (BV e f7)];exact (e4.trans b0) _ _ e
   have e6:DVs K (upd g l (.lst (vs++[.ref y]))) (vs++[.ref y]) ((Ez (ps.take (i+1))).map Gm):=by
    rw [f0,Ye];exact HQ d4 (by rw [<- Ye];exact Il vL _) ((c4.keep b0).append (.cons h1 .nil))
   have c5:DV K (upd g l (.lst (vs++[.ref y]))) (.ref g5) (Df (Ck (ps.take i) e1)):=Gy d4 (cN _) (k1.keep b0);have c6:DV K (upd g l (.lst (vs++[.ref y]))) (.ref g8) (Df (Ck (ps.take i) e2)):=Gy d4 (cN _) (k2.keep b0);have c7:DV K (upd g l (.lst (vs++[.ref y]))) (.ref a5) (CK (.stop lo c2)):=Gy d4 (IV _) (u.keep b0);have e7:upd g l (.lst (vs++[.ref y])) l=some (.lst (vs++[.ref y])):=Ag;generalize upd g l (.lst (vs++[.ref y]))=a3 at h2 e6 c5 c6 c7 e7 ⊢;refine ⟨_,rfl,_,.stop lo c2,rfl,c7,λ o X I N=>?_⟩
   obtain ⟨O,C,dx,fs,r,sp,R,S,U,M,t⟩:=JS (P:=P) (w:=w) (base:=base) T N (c5.keep I) d1 (c8.bd _ j) b8;refine ⟨_,rfl,O,C,dx,fs,r,sp,R,S,U,M,_,rfl,t _ (λ W Z a9 J=>?_)⟩
   obtain ⟨O,C,dx,fs,r,sp,R,S,U,M,t⟩:=JS (P:=P) (w:=w) (base:=base) T (N.keep a9) (c6.keep (I.trans a9)) d2 (c8.bd _ j) b8;refine ⟨_,rfl,O,C,dx,fs,r,sp,R,S,U,M,_,rfl,t _ (λ Y h8 h9 L=>?_)⟩
   exact c0 _ _ h2 e7 e6 c5 c6 c7 o X I N W Z a9 J Y h8 h9 L
 ·rintro d0 a0 ⟨b5,b6,b7,a1,a2,vs,rfl,s3,a6,D,_⟩
  rw [hl,Jn] at D;exact ⟨_,rfl,q l vs _ s3 f7 a6 D⟩
end
end K71
namespace K71
open PySem L2 Lib Fr Op Tx PySem.NumText
seal PE PT PW PA PS PSs PG PGs PI PO CP PJ
section
variable {P:ZU}{w:World}{K:FrG}{mg:Y1->Option Value}{base:Heap}{ad:Adr}{c:Bool}
theorem ZM (T:Txt K mg ad):CalB P w K mg base true 3 "is_stretch" ["first","last"] (AQ8 K):=by
 refine T.Vo.calN mU (λ _ _ _ _ _ _=>Bf λ _ _=>rfl) (λ vs H Q E h=>?_) (λ f cdv A outer s H vs Q E i h=>?_)
 ·obtain ⟨_,_,_,_,_,rfl,_⟩:=h;rfl
 obtain ⟨x,y,d,e,b,rfl,j,a,n,q⟩:=h;refine ⟨_,(Af (Aq (FJ (Am (Qa T) i.m Aw (Ad (pv 0) Ab)) (FJ (Am (Qa T) i.m Aw (Ad (pv 1) Ab)) (Fo (PL (Am (N5 T) i.m Aw (Ad (pv 1) (Ad (pv 0) Ab))))))))),?_⟩
 refine ⟨_,rfl,x,d,rfl,j,_,rfl,?_⟩;cases n with
 | @yes p o sp k h=>
  rw [Ju];refine iteT ?_;refine ⟨_,rfl,y,_,rfl,a,_,rfl,?_⟩;rw [Ju];refine iteT ?_;refine ⟨_,rfl,_,rfl,_,_,.cons a (.cons j .nil),⟨_,_,rfl,k,sp,rfl⟩,λ r t l g=>?_⟩
  obtain rfl:=g.bl_of;rw [η (Rat.not_lt.mpr h)];exact ⟨_,rfl,q _ l⟩
 | @turned p o sp k h=>
  rw [Ju];refine iteT ?_;refine ⟨_,rfl,y,_,rfl,a,_,rfl,?_⟩;rw [Ju];refine iteT ?_;refine ⟨_,rfl,_,rfl,_,_,.cons a (.cons j .nil),⟨_,_,rfl,k,sp,rfl⟩,λ r t l g=>?_⟩
  obtain rfl:=g.bl_of;rw [ζ h];exact ⟨_,rfl,q _ l⟩
 | one h=>
  rw [h];exact iteF (q _ (Same.refl _))
 | two h=>
  rw [Ju];refine iteT ?_;refine ⟨_,rfl,y,_,rfl,a,_,rfl,?_⟩;rw [h];exact iteF (q _ (Same.refl _))
theorem uD (T:Txt K mg ad):CalB P w K mg base true 4 "is_box" ["thing"] (uz K):=by
 refine T.Vu.calN zW (λ _ _ _ _ _ _=>Br λ _=>rfl) (λ vs H Q E h=>?_) (λ f cdv A outer s H vs Q E n h=>?_)
 ·obtain ⟨_,_,rfl,_⟩:=h;rfl
 obtain ⟨x,d,rfl,e,o,q⟩:=h;refine ⟨_,(Ae (Az (PW.pt (pw_or (Bt (Bh (BW Dy rfl T.isinstance Cq (Ad (pv 0) (Ad (Dq (v:=.ty "tuple") rfl T.tuple Jl rfl) Ab))))) (pw_or1 (BR Dm (BW Cy rfl T.len Cr (Ad (pv 0) Ab)) Ac)))) (Af (Aq DW)) BJ) (Af (Aq (FJ (Am (ZM T) n.m Aw (BX (Ai Ar (pv 0) Ac) (BX (Ai Ar (pv 0) Ac) Ab))) (Fo (Am (ZM T) n.m Aw (BX (Ai Ar (pv 0) Ac) (BX (Ai Ar (pv 0) Ac) Ab)))))))),?_⟩
 refine ⟨_,rfl,_,_,_,_,rfl,e,Kc d,_,rfl,?_⟩;cases o with
 | kind h=>
  rw [h];exact iteT (iteT (q _ (Same.refl _)))
 | @many ds h=>
  obtain ⟨a,xs,rfl,ha,p⟩:=e.tup_of;have hl:=p.len;refine iteF ?_;refine ⟨_,rfl,a,_,rfl,.inr ha,rfl,_,rfl,Bm ?_ (q _ (Same.refl _))⟩;show (!decide (V.int ((xs.length:Nat):Int)=V.int 4))=true;rw [Dr,η ∅]
  rfl
 | @fst z B C D h=>
  obtain ⟨a,i,j,r,t,rfl,ha,k,l,u,y⟩:=DV.t4 e;refine iteF ?_;refine ⟨_,rfl,a,_,rfl,.inr ha,rfl,_,rfl,BP rfl ?_⟩;refine ⟨_,rfl,a,_,_,_,rfl,rfl,ha,rfl,_,rfl,a,_,_,_,rfl,rfl,ha,rfl,i,j,_,_,_,rfl,k,l,h,λ F b=>?_⟩
  exact ⟨_,rfl,iteF (q _ b)⟩
 | @snd z B C D h h'=>
  obtain ⟨a,i,j,r,t,rfl,ha,k,l,u,y⟩:=DV.t4 e;refine iteF ?_;refine ⟨_,rfl,a,_,rfl,.inr ha,rfl,_,rfl,BP rfl ?_⟩;refine ⟨_,rfl,a,_,_,_,rfl,rfl,ha,rfl,_,rfl,a,_,_,_,rfl,rfl,ha,rfl,i,j,_,_,_,rfl,k,l,h,λ F b=>?_⟩
  refine ⟨_,rfl,iteT ?_⟩;have g:=ha.keep b;exact ⟨_,rfl,a,_,_,_,rfl,rfl,g,rfl,_,rfl,a,_,_,_,rfl,rfl,g,rfl,r,t,_,_,_,rfl,u.keep b,y.keep b,h',λ I G=>q _ (b.trans G)⟩
theorem zq (T:Txt K mg ad):CalB P w K mg base true 5 "look_at_box" ["box"] (vN K ad.NoBox):=by
 refine T.Vm.calB kZ (λ _ _ _ _ _ _=>Br λ _=>rfl) (λ vs H Q E h=>?_) (λ f cdv A outer s H vs Q E b h=>?_)
 ·obtain ⟨_,_,rfl,_⟩:=h;rfl
 obtain ⟨x,d,rfl,e,a,q⟩:=h;refine ⟨_,(Af (Az (Bt (Bh (Am (uD T) b.m Aw (Ad (pv 0) Ab)))) (Af (Dh BK rfl T.ex.c_NoBox (Ak Aj Ab))) BJ)),?_⟩
 exact ⟨_,rfl,x,d,rfl,e,a,λ i g=>⟨_,rfl,iteT ⟨(by show 1<=X3;decide),q _ g⟩⟩⟩
theorem yx (T:Txt K mg ad):CalB P w K mg base true 4 "look_at_stretch" ["first","last"] (yO K ad.NoBox):=by
 refine T.Tf.calB AL2 (λ _ _ _ _ _ _=>Bf λ _ _=>rfl) (λ vs H Q E h=>?_) (λ f cdv A outer s H vs Q E b h=>?_)
 ·obtain ⟨_,_,_,_,rfl,_⟩:=h;rfl
 obtain ⟨x,y,d,e,rfl,g,i,a,q⟩:=h;refine ⟨_,(Af (Az (Bt (Bh (Am (ZM T) b.m Aw (Ad (pv 0) (Ad (pv 1) Ab))))) (Af (Dh BK rfl T.ex.c_NoBox (Ak Aj Ab))) BJ)),?_⟩
 exact ⟨_,rfl,_,rfl,x,y,d,e,_,rfl,g,i,a,λ k j=>⟨_,rfl,iteT ⟨(by show 1<=X3;decide),q _ j⟩⟩⟩
theorem zK (T:Txt K mg ad):CalB P w K mg base true 6 "field_of" ["bench","box"] (AN3 K ad.NoBox):=by
 refine T.S6.calB Xp (λ _ _ _ _ _ _=>Bf λ _ _=>rfl) (λ vs H Q E h=>?_) (λ f cdv A outer s H vs Q E a h=>?_)
 ·obtain ⟨_,_,_,_,rfl,_⟩:=h;rfl
 obtain ⟨v,u,ps,e,rfl,g,ok,j,b,q⟩:=h;have pl:ps.length * (50+1)<=60 * 51:=ja ok.1 (ZE _);refine ⟨_,(Ae (Ax (i:=2) Xp.nd (Am (gR T) a.m Aw (Ad (pv 0) Ab))) (Ae (DG (Am (zq T) a.m (Bj BK) (Ad (pv 1) Ab))) Kh)),?_⟩
 refine ⟨_,rfl,v,ps,50,rfl,g,ok.good,by omega,λ l o p d r hl n=>?_⟩
 exact ⟨_,rfl,u,e,rfl,j.keep d,b,λ t k=>q _ (d.trans k)⟩
theorem mq (T:Txt K mg ad):CalB P w K mg base true 6 "slants_of" ["bench","lamp","first","last"] (AI3 K ad.NoBox):=by
 refine T.WL.calB Yy (λ _ _ _ _ _ _=>by4 λ _ _ _ _=>rfl) (λ vs H Q E h=>?_) (λ f cdv A outer s H vs Q E b h=>?_)
 ·obtain ⟨_,_,_,_,_,_,_,rfl,_⟩:=h;rfl
 obtain ⟨v,l,x,y,ps,d,e,rfl,j,ok,k,n,g,q⟩:=h;have pl:ps.length * (50+1)<=60 * 51:=ja ok.1 (ZE _);refine ⟨_,(Ae (Ax (i:=4) Yy.nd (Am (gR T) b.m Aw (Ad (pv 0) Ab))) (Ae (DG (Am (yx T) b.m (Bj BK) (Ad (pv 2) (Ad (pv 3) Ab)))) Kh)),?_⟩
 refine ⟨_,rfl,v,ps,50,rfl,j,ok.good,by omega,λ l r t a u hl p=>?_⟩
 exact ⟨_,rfl,_,rfl,x,y,d,e,rfl,k.keep a,n.keep a,g,λ z o=>q _ (a.trans o)⟩
theorem wu (T:Txt K mg ad):CalB P w K mg base true 8 "field_answer" ["bench","numbers"] (Y5 K ad.NoBox Uv):=by
 refine T.N7.calB Uu (λ _ _ _ _ _ _=>Bf λ _ _=>rfl) (λ vs H Q E h=>?_) (λ f cdv A outer s H vs Q E e h=>?_)
 ·obtain ⟨_,_,_,_,rfl,_⟩:=h;rfl
 obtain ⟨v,u,ps,qs,rfl,o,ok,t,x,k,q⟩:=h;refine ⟨_,(Ae (Ax (i:=2) Uu.nd (Am (zK T) e.m (Bj BK) (Ad (pv 0) (CQ (Jg t7 rfl T.tuple Jl (Ad (pv 1) Ab)) Ab)))) Kh),?_⟩
 obtain ⟨a,xs,rfl,ha,l⟩:=DV.lst_of t;refine ⟨_,rfl,_,rfl,a,_,rfl,.inl ⟨ha,λ p y=>?_⟩⟩
 have g:=Ah y (.tup xs);have z:DV K (upd H p (.tup xs)) (.ref p) (.tuple (qs.map Av)):=.tup (SqT.of Ag) (l.keep g);refine ⟨_,_,ps,_,rfl,o.keep g,ok,z,?_,λ C s'=>q _ (g.trans s')⟩
 obtain ⟨n,b,B,d,rfl,h⟩:=k;have sm:∀r∈[n,b,B,d],Sm r:=λ r e=>(Hl (x r e)).sm ⋯
 by_cases j:b < n
 ·exact .fst (.turned (sm _ (by simp)) (sm _ (by simp)) j)
 ·exact .snd (.yes (sm _ (by simp)) (sm _ (by simp)) (Rat.not_lt.mp j)) (.turned (sm _ (by simp)) (sm _ (by simp)) (h.resolve_left j))
theorem lG (T:Txt K mg ad):CalB P w K mg base true 8 "sharp_answer" ["bench","numbers"] (Y5 K ad.NoBox Rj):=by
 refine T.Ov.calB Ly (λ _ _ _ _ _ _=>Bf λ _ _=>rfl) (λ vs H Q E h=>?_) (λ f cdv A outer s H vs Q E k h=>?_)
 ·obtain ⟨_,_,_,_,rfl,_⟩:=h;rfl
 obtain ⟨v,u,ps,qs,rfl,t,ok,x,y,l,q⟩:=h;refine ⟨_,(Ae (Ax (i:=2) Ly.nd (Cz (BX (Ai Bq (pv 1) Ac) (BX (Ai Bq (pv 1) Ac) Ab)))) (Ae (Ax (i:=3) Ly.nd (Am (mq T) k.m (Bj BK) (Ad (pv 0) (Ad (pv 2) (BX (Ai Bq (pv 1) Ac) (BX (Ai Bq (pv 1) Ac) Ab)))))) Kh)),?_⟩
 obtain ⟨a,xs,rfl,ha,d⟩:=DV.lst_of x;obtain ⟨z,b,B,C,m,rfl,h⟩:=l;obtain ⟨n,xs,rfl,L,d⟩:=DVs.cons_of d;obtain ⟨o,xs,rfl,M,d⟩:=DVs.cons_of d;obtain ⟨D,xs,rfl,F,d⟩:=DVs.cons_of d;obtain ⟨G,xs,rfl,I,d⟩:=DVs.cons_of d;have sm:∀r∈[z,b,B,C,m],Sm r:=λ r k=>(Hl (y r k)).sm ⋯
 refine ⟨_,rfl,a,_,_,n,rfl,rfl,ha,Ba (j:=0) rfl,_,rfl,a,_,_,o,rfl,rfl,ha,Ba (j:=1) rfl,(by show 2<=X3;decide),λ p J=>?_⟩
 have e:=Ah J (.tup [n,o]);have g:=ha.keep e;refine ⟨_,rfl,_,rfl,_,rfl,a,_,_,D,rfl,rfl,g,Ba (j:=2) rfl,_,rfl,a,_,_,G,rfl,rfl,g,Ba (j:=3) rfl,?_⟩;exact ⟨_,_,_,_,ps,_,_,rfl,t.keep e,ok,F.keep e,I.keep e,.turned (sm _ (by simp)) (sm _ (by simp)) h,λ N s'=>q _ (e.trans s')⟩
theorem qJ (T:Txt K mg ad):XMk P w K mg base 1 "NoBench" ad.NoBench:=by
 refine T.ex.j_NoBench.xmk uh (λ _ _ _ _ _ _=>Bf λ _ _=>rfl) (λ fI g f cdv A outer s H vs Q E i h=>?_)
 obtain ⟨e,v,rfl,a,q⟩:=h;refine ⟨_,(Ae (rO g T.ex.m_BenchError (Ad (pv 0) (Ad (pv 1) Ab))) (Af (AP6 g (pv 0) (pv 1)))),?_⟩;exact ⟨_,rfl,_,rfl,e,v,none,rfl,a,_,rfl,_,rfl,e,rfl,a,λ dx b d=>q dx b d⟩
theorem uW (T:Txt K mg ad):CalB P w K mg base true 4 "look_at" ["bench"] (λ vs H _ E=>∃v ds,vs=[v]/\DV K H v (.list ds)/\60 < ds.length/\RaisedAt H ad.NoBench none E):=by
 refine T.Ol.calB JV (λ _ _ _ _ _ _=>Br λ _=>rfl) (λ vs H Q E h=>?_) (λ f cdv A outer s H vs Q E b h=>?_)
 ·obtain ⟨_,_,rfl,_⟩:=h;rfl
 obtain ⟨v,ds,rfl,d,hl,q⟩:=h;refine ⟨_,(Ae (Az (PW.pt (pw_or (Bt (Bh (BW Dy rfl T.isinstance Cq (Ad (pv 0) (Ad (Dq (v:=.ty "list") rfl T.list ZK rfl) Ab))))) (pw_or1 (BR GD (BW Cy rfl T.len Cr (Ad (pv 0) Ab)) (Bb (v:=.int 60) rfl T.ex.m_MOST_PIECES ⟨_,rfl⟩))))) (Af (gq BK rfl (qJ T) b.m (Ak Ja Ab))) BJ) (Af (Dk NJ rfl (Sv rfl T.enumerate (Ad (pv 0) Ab)) (Vb (n:=2) rfl (En (Bv (i:=1) JV.nd) (En (Bv (i:=2) JV.nd) Jp))) (Af (Az (Bt (Bh (Am (X7 T) b.m Aw (Ad (pv 2) Ab)))) (Af (gq BK rfl (qJ T) b.m (Ad (pv 1) Ab))) BJ))))),?_⟩
 refine ⟨_,rfl,_,_,_,_,rfl,d,YH _,_,rfl,?_⟩;obtain ⟨a,xs,rfl,ha,e⟩:=DV.lst_of d;have g:=e.len;refine iteF ?_;refine ⟨_,rfl,a,_,rfl,.inl ha,_,_,rfl,rfl,_,rfl,Bm (ζ ∅) ?_⟩
 exact ⟨_,rfl,λ dx hn=>q _ dx (Ah hn _) Ag⟩
theorem wk (T:Txt K mg ad):MkC P w K mg base 1 "Desk" ad.Desk ["self"] (AJ5 ad.Desk):=by
 refine T.ex.i_Desk.mkc v5 (λ _ _ _ _ _ _=>Br λ _=>rfl) (λ vs H Q E h=>?_) (λ f cdv A outer s H vs Q E b h=>?_)
 ·obtain ⟨_,_,rfl,_⟩:=h;rfl
 obtain ⟨a,dx,rfl,ha,q⟩:=h;refine ⟨_,(Af (Hy (pv 0) nQ)),?_⟩;exact λ d hd=>⟨_,rfl,a,ad.Desk,dx,[],rfl,by rw [Al (BV ha hd)];exact ha,T.ex.l_Desk,T.ex.n_Desk_benches,by decide,q d hd⟩
theorem Jm (T:Txt K mg ad):MC P w K mg base 1 ad.Desk "bench_by" ["self","name"] (yJ K ad.Desk):=by
 refine T.ex.q_Desk_bench_by.mc aF (λ _ _ _ _ _ _=>Bf λ _ _=>rfl) (λ vs H Q E h=>?_) (λ f cdv A outer s H vs Q E b h=>?_)
 ·obtain ⟨_,_,_,_,_,_,_,_,rfl,_⟩:=h;rfl
 obtain ⟨o,dx,d,q,x,r,n,ps,rfl,a,sx,k⟩:=h;refine ⟨_,(Ae (Az (YQ (Yu b.units1 (pv 1) (Ei (pv 0)))) (Af Gv) BJ) (Af (Aq (Xq b.units1 (Ei (pv 0)) (pv 1) (λ _ _=>rfl))))),?_⟩
 obtain ⟨m,e,hl,g⟩:=a.d;obtain ⟨ok,l,i,hb,j⟩:=g.at sx;have p:DGet H d (.str x) (some (.ref l)):=i▸DGet.k (k:=.inr x) e;refine ⟨_,rfl,_,rfl,o,_,dx,_,_,rfl,a.o,T.ex.l_Desk,T.ex.n_Desk_benches,rfl,d,_,rfl,p,_,rfl,BP rfl ?_⟩;exact ⟨_,rfl,o,_,dx,_,_,rfl,a.o,T.ex.l_Desk,T.ex.n_Desk_benches,rfl,_,rfl,d,_,rfl,p,k l hb j⟩
theorem MF (T:Txt K mg ad):MC P w K mg base 6 ad.Desk "keep" ["self","name","bench"] (yL K ad.Desk):=by
 refine T.ex.q_Desk_keep.mc bR (λ _ _ _ _ _ _=>Ht λ _ _ _=>rfl) (λ vs H Q E h=>?_) (λ f cdv A outer s H vs Q E e h=>?_)
 ·obtain ⟨_,_,_,_,_,_,_,_,_,rfl,_⟩:=h;rfl
 obtain ⟨o,dx,d,q,l,x,y,n,ps,rfl,i,j,hb,p,ok,k⟩:=h;refine ⟨_,(Ae (DG (Am (Qu T) e.m Aw (Ad (pv 2) Ab))) (Ae (lu e.units1 (Ei (pv 0)) (pv 1) (pv 2) rfl) (Af (Aq (Bb (v:=.str "ok") rfl T.ex.m_DONE ⟨⟨_,T.ex.z_DONE⟩,rfl⟩))))),?_⟩
 refine ⟨_,rfl,.ref l,ps,50,rfl,hb.dv,ok.good,by decide,λ t b=>?_⟩
 have a:=i.keep b;obtain ⟨r,g,hl,u⟩:=a.d;refine ⟨_,rfl,_,rfl,o,_,dx,_,_,rfl,a.o,T.ex.l_Desk,T.ex.n_Desk_benches,rfl,_,rfl,d,_,rfl,DPut.k (k:=.inr x) g (QH (W8 hl j) ⋯),?_⟩
 exact k _ ((Lib.SD.ofSame b).trans (Fj _)) (a.put g (hb.keep b) p ok)
theorem Mt (T:Txt K mg ad):MC P w K mg base 1 ad.Desk "bench_by" ["self","name"] (nG K ad.Desk ad.Unknown):=by
 refine T.ex.q_Desk_bench_by.mcR aF (λ _ _ _ _ _ _=>Bf λ _ _=>rfl) (λ vs H Q E h=>?_) (λ f cdv A outer s H vs Q E a h=>?_)
 ·obtain ⟨_,_,_,_,_,_,_,rfl,_⟩:=h;rfl
 obtain ⟨o,dx,d,q,x,l,n,rfl,b,sx,k⟩:=h;refine ⟨_,(Ae (Az (YQ (Yu a.units1 (pv 1) (Ei (pv 0)))) (Af (Dh BK rfl T.ex.c_Unknown (Ak Aj Ab))) BJ) (Af (Aq (Xq a.units1 (Ei (pv 0)) (pv 1) (λ _ _=>rfl))))),?_⟩
 obtain ⟨i,e,hl,g⟩:=b.d;have j:DGet H d (.str x) none:=(g.no sx)▸DGet.k (k:=.inr x) e;refine ⟨_,rfl,_,rfl,o,_,dx,_,_,rfl,b.o,T.ex.l_Desk,T.ex.n_Desk_benches,rfl,d,_,rfl,j,_,rfl,Bm rfl ?_⟩;exact ⟨(by show 1<=X3;decide),k⟩
theorem uB (T:Txt K mg ad):MC P w K mg base 6 ad.Desk "keep" ["self","name","bench"] (tD K ad.Desk ad.NoBench):=by
 refine T.ex.q_Desk_keep.mcR bR (λ _ _ _ _ _ _=>Ht λ _ _ _=>rfl) (λ vs H Q E h=>?_) (λ f cdv A outer s H vs Q E a h=>?_)
 ·obtain ⟨_,_,_,_,rfl,_⟩:=h;rfl
 obtain ⟨o,x,v,ds,rfl,b,hl,q⟩:=h;exact ⟨_,(Ae (DG (Am (uW T) a.m (Bj BK) (Ad (pv 2) Ab))) Kh),⟨_,rfl,v,ds,rfl,b,hl,q⟩⟩
theorem lY (T:Txt K mg ad):CalB P w K mg base true 6 "show_answer" ["bench","numbers"] (qt K):=by
 refine T.QB.calN eG (λ _ _ _ _ _ _=>Bf λ _ _=>rfl) (λ vs H Q E h=>?_) (λ f cdv A outer s H vs Q E a h=>?_)
 ·obtain ⟨_,_,_,rfl,_⟩:=h;rfl
 obtain ⟨v,u,ps,rfl,hb,b,k⟩:=h;refine ⟨_,(Af (Aq (Am (yw T) a.m Aw (Ad (pv 0) Ab)))),?_⟩
 exact ⟨_,rfl,v,ps,rfl,hb,b.1,b.2,k⟩
theorem qP (T:Txt K mg ad):MC P w K mg base 32 ad.Desk "lay" ["self","row"] (rM K ad.Desk ad.NoText):=by
 refine T.ex.q_Desk_lay.mcR fQ (λ _ _ _ _ _ _=>Bf λ _ _=>rfl) (λ vs H Q E h=>?_) (λ f cdv A outer s H vs Q E p h=>?_)
 ·obtain ⟨_,_,_,_,_,_,_,_,rfl,_⟩:=h;rfl
 obtain ⟨o,dx,d,q,x,st,V,n,rfl,D,G,I,nx,W,J,L⟩:=h;refine ⟨_,(Ae (Ax (i:=2) fQ.nd (Cm WA ze yA qz (pv 1) (Ak Aj (Ak Ac Ab)))) (Ae (Az (BR Dm (BW Cy rfl T.len Cr (Ad (pv 2) Ab)) Ac) (Af (Dh BK rfl T.ex.c_NoRow (Ak Aj Ab))) BJ) (Ae (DG (Am (gH T) p.m (Bj BK) (BX (Ai Bq (pv 2) Ac) Ab))) (Af (Aq (Ew (k:=6) (Bj BK) (pv 0) p.m (BX (Ai Bq (pv 2) Ac) (CQ (Am (zP T) p.m (Bj BK) (BX (Ai Bq (pv 2) Ac) Ab)) Ab)))))))),?_⟩
 refine ⟨_,rfl,rfl,_,Aa "bench",x,st,rfl,rfl,Oo _ _,by decide+kernel,nx.no,(by rw [QF nx];have:=nx.len;exact W8 (show _<=20000 by omega) ⋯),λ a t=>?_⟩
 have u:=Ah t (.lst [.str (Aa "bench"),.str x,.str st]);have b:upd H a (.lst [.str (Aa "bench"),.str x,.str st]) a=some (.lst [.str (Aa "bench"),.str x,.str st]):=Ag;generalize upd H a (.lst [.str (Aa "bench"),.str x,.str st])=X at u b ⊢;refine ⟨_,rfl,a,_,rfl,.inl (SqL.of b),rfl,_,rfl,BP rfl ?_⟩;refine ⟨_,rfl,a,_,_,.str x,rfl,rfl,SqL.of b,Ba (j:=1) rfl,x,rfl,nx,λ Y v=>?_⟩
 have e:=u.trans v;have g:=D.keep e;have y:=v _ _ b;refine ⟨_,rfl,o,_,dx,_,_,_,rfl,g.o,rfl,MF T,_,rfl,a,_,_,.str x,rfl,rfl,SqL.of y,Ba (j:=1) rfl,_,rfl,a,_,_,.str st,rfl,rfl,SqL.of y,Ba (j:=2) rfl,.inr ⟨st,rfl,by omega,λ bs r l xs M s3 N hl B=>?_,λ r M s3=>L r _ (e.trans s3)⟩⟩
 obtain ⟨ok,k⟩:=J bs r;have O:l∉q:=λ m=>by
  obtain ⟨z,R⟩:=G l m;have:=e _ _ R;rw [N] at this;cases this
 exact ⟨o,dx,d,q,l,x,V,n,bs,rfl,g.keep s3,I,.of hl B,O,ok,λ S U C=>k S ((Lib.SD.ofSame (e.trans s3)).trans U) C⟩
theorem nP (T:Txt K mg ad):CalB P w K mg base true 5 "turned_bench" ["bench"] (λ _ _ _ _=>False):=T.WF.calN tE (λ _ _ _ _ _ _=>Br λ _=>rfl) (λ vs H Q E h=>h.elim) (λ f cdv A outer s H vs Q E a h=>h.elim)
abbrev AM4 (ad:Adr):List (Y1×V):=[("show",V.ref ad.ANSWERS_show),("walk",V.ref ad.ANSWERS_walk),("table",V.ref ad.ANSWERS_table),("apart",V.ref ad.ANSWERS_apart),("image",V.ref ad.ANSWERS_image),("field",V.ref ad.ANSWERS_field),("sharp",V.ref ad.ANSWERS_sharp),("rounds",V.ref ad.ANSWERS_rounds)]
theorem wJ (T:Txt K mg ad){u:Y1}{a b:Nat}(h:Ff u=some (a,b))(s:u≠Aa "join")(t:u≠Aa "turn"):∃(i:Addr) (g:UE),valV (Cd (AM4 ad)) (.inr u)=some (.ref i)/\FnB P w K mg base true 1 i g ["bench","numbers"] aq/\YJ K (.ref i)=true/\Binds K g ["bench","numbers"] []:=by
 by_cases j:u=Aa "show"
 ·subst j;obtain ⟨f,fd,F,hm,d,hb⟩:=(T.QB.not (P:=P) (w:=w) (base:=base) (k:=0) eG (λ _ _ _ _ _ _=>Bf λ _ _=>rfl)).ex
  have e:f=ad.ANSWERS_show:=by
   have:=hm.symm.trans T.ex.f_ANSWERS_show
   injection this with this
   injection this
  subst e;exact ⟨_,fd,by unfold valV Cd;rfl,F,d,hb⟩
 by_cases l:u=Aa "walk"
 ·subst l;obtain ⟨f,fd,F,hm,d,hb⟩:=(T.Wx.not (P:=P) (w:=w) (base:=base) (k:=0) zF (λ _ _ _ _ _ _=>Bf λ _ _=>rfl)).ex
  have e:f=ad.ANSWERS_walk:=by
   have:=hm.symm.trans T.ex.f_ANSWERS_walk
   injection this with this
   injection this
  subst e;exact ⟨_,fd,by unfold valV Cd;rfl,F,d,hb⟩
 by_cases m:u=Aa "table"
 ·subst m;obtain ⟨f,fd,F,hm,d,hb⟩:=(T.V7.not (P:=P) (w:=w) (base:=base) (k:=0) oZ (λ _ _ _ _ _ _=>Bf λ _ _=>rfl)).ex
  have e:f=ad.ANSWERS_table:=by
   have:=hm.symm.trans T.ex.f_ANSWERS_table
   injection this with this
   injection this
  subst e;exact ⟨_,fd,by unfold valV Cd;rfl,F,d,hb⟩
 by_cases n:u=Aa "apart"
 ·subst n;obtain ⟨f,fd,F,hm,d,hb⟩:=(T.RP.not (P:=P) (w:=w) (base:=base) (k:=0) lO (λ _ _ _ _ _ _=>Bf λ _ _=>rfl)).ex
  have e:f=ad.ANSWERS_apart:=by
   have:=hm.symm.trans T.ex.f_ANSWERS_apart
   injection this with this
   injection this
  subst e;exact ⟨_,fd,by unfold valV Cd;rfl,F,d,hb⟩
 by_cases o:u=Aa "image"
 ·subst o;obtain ⟨f,fd,F,hm,d,hb⟩:=(T.Wd.not (P:=P) (w:=w) (base:=base) (k:=0) zm (λ _ _ _ _ _ _=>Bf λ _ _=>rfl)).ex
  have e:f=ad.ANSWERS_image:=by
   have:=hm.symm.trans T.ex.f_ANSWERS_image
   injection this with this
   injection this
  subst e;exact ⟨_,fd,by unfold valV Cd;rfl,F,d,hb⟩
 by_cases p:u=Aa "field"
 ·subst p;obtain ⟨f,fd,F,hm,d,hb⟩:=(T.N7.not (P:=P) (w:=w) (base:=base) (k:=0) Uu (λ _ _ _ _ _ _=>Bf λ _ _=>rfl)).ex
  have e:f=ad.ANSWERS_field:=by
   have:=hm.symm.trans T.ex.f_ANSWERS_field
   injection this with this
   injection this
  subst e;exact ⟨_,fd,by unfold valV Cd;rfl,F,d,hb⟩
 by_cases q:u=Aa "sharp"
 ·subst q;obtain ⟨f,fd,F,hm,d,hb⟩:=(T.Ov.not (P:=P) (w:=w) (base:=base) (k:=0) Ly (λ _ _ _ _ _ _=>Bf λ _ _=>rfl)).ex
  have e:f=ad.ANSWERS_sharp:=by
   have:=hm.symm.trans T.ex.f_ANSWERS_sharp
   injection this with this
   injection this
  subst e;exact ⟨_,fd,by unfold valV Cd;rfl,F,d,hb⟩
 by_cases r:u=Aa "rounds"
 ·subst r;obtain ⟨f,fd,F,hm,d,hb⟩:=(T.W9.not (P:=P) (w:=w) (base:=base) (k:=0) ji (λ _ _ _ _ _ _=>Bf λ _ _=>rfl)).ex
  have e:f=ad.ANSWERS_rounds:=by
   have:=hm.symm.trans T.ex.f_ANSWERS_rounds
   injection this with this
   injection this
  subst e;exact ⟨_,fd,by unfold valV Cd;rfl,F,d,hb⟩
 unfold Ff at h;rw [if_neg s,if_neg t,if_neg j,if_neg l,if_neg m,if_neg n,if_neg o,if_neg p,if_neg q,if_neg r] at h;cases h
abbrev Yw (ad:Adr):Ex71:=⟨ad.NoText,ad.Unknown,ad.NoBench,ad.NoBox⟩
theorem Ie (T:Txt K mg ad)(a1:w.params=ad.pr):MC P w K mg base 36 ad.Desk "say" ["self","row"] (MP K ad.Desk (Yw ad)):=by
 refine T.ex.q_Desk_say.mcR Og (λ _ _ _ _ _ _=>Bf λ _ _=>rfl) (λ vs H Q E h=>?_) (λ f cdv A outer s H vs Q E D h=>?_)
 ·obtain ⟨_,_,_,_,_,_,_,rfl,_⟩:=h;rfl
 obtain ⟨o,dx,d,q,t,a2,n,rfl,b4,d0,d1,e1,h⟩:=h;refine ⟨_,(Ae (Az (Bt (Bh (BW Dy rfl T.isinstance Cq (Ad (pv 1) (Ad (Dq (v:=.ty "str") rfl T.str HY rfl) Ab))))) (Af Gv) BJ) (Ae (Ax (i:=2) Og.nd (Cm WA ze yA Pg (pv 1) (Ak Aj Ab))) (Ae (Az (BR Bu (Ai Bq (pv 2) Ac) Aj) (Af (Aq (Ew (k:=32) (Bj BK) (pv 0) D.m (Ad (pv 1) Ab)))) BJ) (Ae (Ax (i:=3) Og.nd (Am (rC T a1) D.m (Bj BK) (Ad (pv 2) Ab))) (Ae (Ax (i:=4) Og.nd (Ai Ar (pv 3) Ac)) (Ae (Az (BR Bu (Ai Bq (pv 2) Ac) Aj) (Af (Aq (Ew (k:=6) (Bj BK) (pv 0) D.m (BX (Ai Bq (pv 4) Ac) (By (Ao Ep (Ew (k:=1) (Bj BK) (pv 0) D.m (BX (Ai Bq (pv 4) Ac) Ab)) (Ew (k:=1) (Bj BK) (pv 0) D.m (BX (Ai Bq (pv 4) Ac) Ab))) Ab))))) BJ) (Ae (Az (BR Bu (Ai Bq (pv 2) Ac) Aj) (Af (Aq (Ew (k:=6) (Bj BK) (pv 0) D.m (BX (Ai Bq (pv 4) Ac) (CQ (Am (nP T) D.m (Bj BK) (CQ (Ew (k:=1) (Bj BK) (pv 0) D.m (BX (Ai Bq (pv 4) Ac) Ab)) Ab)) Ab))))) BJ) (Af (Aq (AI4 (Bj BK) (vU (Bb (v:=.ref ad.ANSWERS) rfl T.ex.m_ANSWERS rfl) (Ai Bq (pv 2) Ac) (λ _ _=>rfl)) (CQ (Ew (k:=1) (Bj BK) (pv 0) D.m (BX (Ai Bq (pv 4) Ac) Ab)) (BX (Ai Ar (pv 3) Ac) Ab)))))))))))),?_⟩
 refine ⟨_,rfl,_,_,_,_,rfl,.str _,Hd _,_,rfl,iteF ?_⟩;refine ⟨_,rfl,rfl,_,_,rfl,rfl,rfl,W8 (show t.length+2<=20000 by omega) ⋯,λ B a8=>?_⟩
 rcases h with ⟨x,st,rfl,nx,b5,d2⟩ | ⟨u,xs,qs,W,d3,a6,b6⟩
 ·obtain ⟨r,W⟩:=yz (t:=st) nx;have W:XO (Dn x st) (Y2 " ")=Aa "bench"::r:=W;rw [W];have O:=Ah a8 (.lst ((Aa "bench"::r).map V.str));have X:upd H B (.lst ((Aa "bench"::r).map V.str)) B=some (.lst ((Aa "bench"::r).map V.str)):=Ag;generalize upd H B (.lst ((Aa "bench"::r).map V.str))=d4 at O X ⊢;refine ⟨_,rfl,B,_,_,.str (Aa "bench"),rfl,rfl,SqL.of X,Ba (j:=0) rfl,rfl,_,rfl,Bm (by rw [Bg];exact ζ rfl) ?_⟩
  have a9:=b4.keep O;have b7:st.length<=15000:=by have:=QF (t:=st) nx;omega
  exact ⟨_,rfl,o,_,dx,_,_,_,rfl,a9.o,rfl,qP T,_,rfl,o,dx,d,q,x,st,a2,n,rfl,a9,(λ a ha=>let ⟨z,d5⟩:=d0 a ha;⟨z,O _ _ d5⟩),d1,nx,b7,(λ ps e=>⟨(b5 ps e).1,λ b0 s' b8=>(b5 ps e).2 b0 ((Lib.SD.ofSame O).trans s') b8⟩),λ e b0 s'=>d2 e b0 (O.trans s')⟩
 have W:XO t (Y2 " ")=u::(xs++qs.map Ay):=W;rw [W];have O:=Ah a8 (.lst ((u::(xs++qs.map Ay)).map V.str));have X:upd H B (.lst ((u::(xs++qs.map Ay)).map V.str)) B=some (.lst ((u::(xs++qs.map Ay)).map V.str)):=Ag;generalize upd H B (.lst ((u::(xs++qs.map Ay)).map V.str))=d4 at O X ⊢;refine ⟨_,rfl,B,_,_,.str u,rfl,rfl,SqL.of X,Ba (j:=0) rfl,rfl,_,rfl,BP (by rw [Bg];exact η d3) ?_⟩
 refine ⟨_,rfl,B,u,xs,qs,rfl,X,a6,λ r C b1 a7 b9 Z l dn=>?_⟩
 refine ⟨_,rfl,r,_,_,.ref C,rfl,rfl,SqT.of Z,Ba (j:=0) rfl,?_⟩;have M:=b9 _ _ X;have N:=O.trans b9;have g:=b4.keep N;refine ⟨_,rfl,B,_,_,.str u,rfl,rfl,SqL.of M,Ba (j:=0) rfl,rfl,_,rfl,?_⟩;cases b6 with
 | @join1 x y z R k=>
  refine Bm (by rw [Bg];exact ζ rfl) ?_
  refine ⟨_,rfl,o,_,dx,_,_,_,rfl,g.o,rfl,MF T,_,rfl,C,_,_,.str x,rfl,rfl,SqL.of l,Ba (j:=0) rfl,?_⟩;exact ⟨_,rfl,o,_,dx,_,_,_,rfl,g.o,rfl,Mt T,_,rfl,C,_,_,.str y,rfl,rfl,SqL.of l,Ba (j:=1) rfl,o,dx,d,q,y,a2,n,rfl,g,R,k a7 N⟩
 | @join2 x y z a R sz k=>
  refine Bm (by rw [Bg];exact ζ rfl) ?_
  refine ⟨_,rfl,o,_,dx,_,_,_,rfl,g.o,rfl,MF T,_,rfl,C,_,_,.str x,rfl,rfl,SqL.of l,Ba (j:=0) rfl,?_⟩;refine ⟨_,rfl,o,_,dx,_,_,_,rfl,g.o,rfl,Jm T,_,rfl,C,_,_,.str y,rfl,rfl,SqL.of l,Ba (j:=1) rfl,o,dx,d,q,y,a2,n,a,rfl,g,R,λ a3 G a0=>?_⟩
  exact ⟨_,rfl,o,_,dx,_,_,_,rfl,g.o,rfl,Mt T,_,rfl,C,_,_,.str z,rfl,rfl,SqL.of l,Ba (j:=2) rfl,o,dx,d,q,z,a2,n,rfl,g,sz,k a7 N⟩
 | @long x y z a b R sz c0 k=>
  refine Bm (by rw [Bg];exact ζ rfl) ?_
  refine ⟨_,rfl,o,_,dx,_,_,_,rfl,g.o,rfl,uB T,_,rfl,C,_,_,.str x,rfl,rfl,SqL.of l,Ba (j:=0) rfl,?_⟩;refine ⟨_,rfl,o,_,dx,_,_,_,rfl,g.o,rfl,Jm T,_,rfl,C,_,_,.str y,rfl,rfl,SqL.of l,Ba (j:=1) rfl,o,dx,d,q,y,a2,n,a,rfl,g,R,λ a3 G a0=>?_⟩
  refine ⟨_,rfl,o,_,dx,_,_,_,rfl,g.o,rfl,Jm T,_,rfl,C,_,_,.str z,rfl,rfl,SqL.of l,Ba (j:=2) rfl,o,dx,d,q,z,a2,n,b,rfl,g,sz,λ lb c1 d8=>?_⟩
  obtain ⟨b2,c2,c3,d9⟩:=G;obtain ⟨b3,c4,c5,e0⟩:=c1;have c6:=g.ok R;have okB:=g.ok sz;refine ⟨a3,lb,b2,b3,rfl,rfl,c2,c4,W8 (show b2.length+b3.length<=120 by have:=c6.1;have:=okB.1;omega) ⋯,λ p d6=>?_⟩
  have c7:=Ah d6 (.lst (b2++b3));refine ⟨o,x,.ref p,(a++b).map CK,rfl,.lst (SqL.of Ag) ?_,by rw [X9,ZA];exact c0,k.keep (N.trans c7)⟩
  rw [Ye];exact (DVs.append c3 c5).keep c7
 | @turn x y R k=>
  refine BP (by rw [Bg];exact η (by decide+kernel)) ?_
  refine ⟨_,rfl,B,_,_,.str (Aa "turn"),rfl,rfl,SqL.of M,Ba (j:=0) rfl,rfl,_,rfl,Bm (by rw [Bg];exact ζ rfl) ?_⟩
  refine ⟨_,rfl,o,_,dx,_,_,_,rfl,g.o,rfl,MF T,_,rfl,C,_,_,.str x,rfl,rfl,SqL.of l,Ba (j:=0) rfl,?_⟩;exact ⟨_,rfl,o,_,dx,_,_,_,rfl,g.o,rfl,Mt T,_,rfl,C,_,_,.str y,rfl,rfl,SqL.of l,Ba (j:=1) rfl,o,dx,d,q,y,a2,n,rfl,g,R,k a7 N⟩
 | @ans _ x _ c8 c9 sx k=>
  refine BP (by rw [Bg];exact η c8) ?_
  refine ⟨_,rfl,B,_,_,.str u,rfl,rfl,SqL.of M,Ba (j:=0) rfl,rfl,_,rfl,BP (by rw [Bg];exact η c9) ?_⟩
  obtain ⟨S,I,d7,Y,J,L⟩:=wJ (P:=P) (w:=w) (base:=base) T a6.f c8 c9;refine ⟨_,rfl,B,_,_,.str u,rfl,rfl,SqL.of M,Ba (j:=0) rfl,ad.ANSWERS,_,.inr u,.ref S,rfl,T.ex.g_ANSWERS _ _ a1,rfl,d7,S,I,1,_,_,rfl,Y,J,L,D.mono ⋯,?_⟩
  exact ⟨_,rfl,o,_,dx,_,_,_,rfl,g.o,rfl,Mt T,_,rfl,C,_,_,.str x,rfl,rfl,SqL.of l,Ba (j:=0) rfl,o,dx,d,q,x,a2,n,rfl,g,sx,k a7 N⟩
 | @show' x ps sx k=>
  refine BP (by rw [Bg];exact η (by decide+kernel)) ?_
  refine ⟨_,rfl,B,_,_,.str (Aa "show"),rfl,rfl,SqL.of M,Ba (j:=0) rfl,rfl,_,rfl,BP (by rw [Bg];exact η (by decide+kernel)) ?_⟩
  obtain ⟨S,I,Y,U,J,L⟩:=(lY (P:=P) (w:=w) (base:=base) T).ex;obtain rfl:S=ad.ANSWERS_show:=by
   have:=U.symm.trans T.ex.f_ANSWERS_show
   injection this with this
   injection this
  refine ⟨_,rfl,B,_,_,.str (Aa "show"),rfl,rfl,SqL.of M,Ba (j:=0) rfl,ad.ANSWERS,_,.inr (Aa "show"),.ref ad.ANSWERS_show,rfl,T.ex.g_ANSWERS _ _ a1,rfl,(by unfold valV Cd;rfl),ad.ANSWERS_show,I,_,_,_,rfl,Y,J,L,D.mono ⋯,?_⟩
  refine ⟨_,rfl,o,_,dx,_,_,_,rfl,g.o,rfl,Jm T,_,rfl,C,_,_,.str x,rfl,rfl,SqL.of l,Ba (j:=0) rfl,o,dx,d,q,x,a2,n,ps,rfl,g,sx,λ a3 G a0=>?_⟩
  exact ⟨_,rfl,r,_,_,.ref b1,rfl,rfl,SqT.of Z,Ba (j:=1) rfl,_,_,ps,rfl,G.dv,g.ok sx,λ a4 s3=>k a4 (N.trans s3)⟩
 | @field x ps qs sx a5 k=>
  refine BP (by rw [Bg];exact η (by decide+kernel)) ?_
  refine ⟨_,rfl,B,_,_,.str (Aa "field"),rfl,rfl,SqL.of M,Ba (j:=0) rfl,rfl,_,rfl,BP (by rw [Bg];exact η (by decide+kernel)) ?_⟩
  obtain ⟨S,I,Y,U,J,L⟩:=(wu (P:=P) (w:=w) (base:=base) T).ex;obtain rfl:S=ad.ANSWERS_field:=by
   have:=U.symm.trans T.ex.f_ANSWERS_field
   injection this with this
   injection this
  refine ⟨_,rfl,B,_,_,.str (Aa "field"),rfl,rfl,SqL.of M,Ba (j:=0) rfl,ad.ANSWERS,_,.inr (Aa "field"),.ref ad.ANSWERS_field,rfl,T.ex.g_ANSWERS _ _ a1,rfl,(by unfold valV Cd;rfl),ad.ANSWERS_field,I,_,_,_,rfl,Y,J,L,D.mono ⋯,?_⟩
  refine ⟨_,rfl,o,_,dx,_,_,_,rfl,g.o,rfl,Jm T,_,rfl,C,_,_,.str x,rfl,rfl,SqL.of l,Ba (j:=0) rfl,o,dx,d,q,x,a2,n,ps,rfl,g,sx,λ a3 G a0=>?_⟩
  exact ⟨_,rfl,r,_,_,.ref b1,rfl,rfl,SqT.of Z,Ba (j:=1) rfl,_,_,ps,qs,rfl,G.dv,g.ok sx,dn,a6.q,a5,λ a4 s3=>k a4 (N.trans s3)⟩
 | @sharp x ps qs sx a5 k=>
  refine BP (by rw [Bg];exact η (by decide+kernel)) ?_
  refine ⟨_,rfl,B,_,_,.str (Aa "sharp"),rfl,rfl,SqL.of M,Ba (j:=0) rfl,rfl,_,rfl,BP (by rw [Bg];exact η (by decide+kernel)) ?_⟩
  obtain ⟨S,I,Y,U,J,L⟩:=(lG (P:=P) (w:=w) (base:=base) T).ex;obtain rfl:S=ad.ANSWERS_sharp:=by
   have:=U.symm.trans T.ex.f_ANSWERS_sharp
   injection this with this
   injection this
  refine ⟨_,rfl,B,_,_,.str (Aa "sharp"),rfl,rfl,SqL.of M,Ba (j:=0) rfl,ad.ANSWERS,_,.inr (Aa "sharp"),.ref ad.ANSWERS_sharp,rfl,T.ex.g_ANSWERS _ _ a1,rfl,(by unfold valV Cd;rfl),ad.ANSWERS_sharp,I,_,_,_,rfl,Y,J,L,D.mono ⋯,?_⟩
  refine ⟨_,rfl,o,_,dx,_,_,_,rfl,g.o,rfl,Jm T,_,rfl,C,_,_,.str x,rfl,rfl,SqL.of l,Ba (j:=0) rfl,o,dx,d,q,x,a2,n,ps,rfl,g,sx,λ a3 G a0=>?_⟩
  exact ⟨_,rfl,r,_,_,.ref b1,rfl,rfl,SqT.of Z,Ba (j:=1) rfl,_,_,ps,qs,rfl,G.dv,g.ok sx,dn,a6.q,a5,λ a4 s3=>k a4 (N.trans s3)⟩
end
end K71
namespace K71
open PySem L2 Lib Fr Op Tx PySem.NumText
seal PE PT PW PA PS PSs PG PGs PI PO CP
section
variable {P:ZU}{w:World}{K:FrG}{mg:Str->Option Value}{base:Heap}{ad:Adr}{c:Bool}
def kw71:List Y1:=["bench","box","value","number","text","table","stock","wish","row","unknown"]
def Dz (a b d e:Bool):List Bool:=[a,b,true,false,d,false,false,false,false,e]
def HB (p:Y1×Bool):Bool:=p.2 && !decide (p.1=Y2 "value")
def Ey (B:List Bool)(i:Nat):List V:=(((kw71.zip B).take i).filter HB).map (λ p=>V.str p.1)
theorem jQ {B:List Bool}{t:Bool}{z:Y1}{i:Nat}(a:kw71[i]?=some z)(b:B[i]?=some t):Ey B (i+1)=Ey B i++(if HB (z,t)=true then [.str z] else []):=by
 unfold Ey;have e:(kw71.zip B)[i]?=some (z,t):=by rw [List.getElem?_zip_eq_some];exact ⟨a,b⟩
 rw [WO,e,List.filter_append,Ye];show _++Nl _ (List.filter HB [(z,t)])=_;rw [List.filter_cons];cases HB (z,t)<;>rfl
theorem mJ (B:List Bool)(i:Nat):(Ey B i).length<=10:=by
 unfold Ey;rw [X9];refine W8 (List.length_filter_le _ _) ?_;rw [WS];exact W8 (Nat.min_le_right _ _) (by rw [List.length_zip];exact W8 (Nat.min_le_left _ _) ⋯)
theorem AN8 {a b d e t:Bool}{i:Nat}(f:kw71[i]?=some (Y2 "value"))(h:(Dz a b d e)[i]?=some t):t=true:=by
 have this:i < 10:=CJ f;have g:∀i:Fin 10,∀a b d e t:Bool,kw71[i.val]?=some (Y2 "value")->(Dz a b d e)[i.val]?=some t->t=true:=by decide+kernel
 exact g ⟨i,this⟩ a b d e t f h
theorem uZ (T:Txt K mg ad):CalH P w K mg base 2 "_law_names" ["_law_e"] (mK (Yw ad)):=by
 refine T.T4.calH Jz (λ _ _ _ _ _ _=>Br λ _=>rfl) (λ ex vs H Q E h=>?_) (λ f cdv ex A outer s H vs Q E b2 d8 h=>?_)
 ·obtain ⟨_,_,rfl,_⟩:=h;rfl
 obtain ⟨dx,z,rfl,B,q⟩:=h;have X:=T.ex;obtain ⟨o,g,j,k,m,r,d,a4,k1,k2,k3,d3,k5,d4,d5,d6,d7,b3⟩:∃(o:Addr) (g j k m:Bool),ExcK K o/\HX H ex o dx/\Ey (Dz g j k m) 10=[.str z]/\W1 K (.ref o) (.ref ad.NoBench)=some g/\W1 K (.ref o) (.ref ad.NoBox)=some j/\W1 K (.ref o) (.type "ValueError")=some true/\W1 K (.ref o) (.ref ad.NoNumber)=some false/\W1 K (.ref o) (.ref ad.NoText)=some k/\W1 K (.ref o) (.ref ad.NoTable)=some false/\W1 K (.ref o) (.ref ad.NoStock)=some false/\W1 K (.ref o) (.ref ad.NoWish)=some false/\W1 K (.ref o) (.ref ad.NoRow)=some false/\W1 K (.ref o) (.ref ad.Unknown)=some m:=by
  rcases B with ⟨d,rfl⟩ | ⟨d,rfl⟩ | ⟨d,rfl⟩ | ⟨d,rfl⟩
  ·exact ⟨_,false,false,false,true,X.e_Unknown,d,rfl,X.k_Unknown_NoBench,X.k_Unknown_NoBox,X.k_Unknown_ValueError,X.k_Unknown_NoNumber,X.k_Unknown_NoText,X.k_Unknown_NoTable,X.k_Unknown_NoStock,X.k_Unknown_NoWish,X.k_Unknown_NoRow,X.k_Unknown_Unknown⟩
  ·exact ⟨_,false,false,true,false,X.e_NoText,d,rfl,X.k_NoText_NoBench,X.k_NoText_NoBox,X.k_NoText_ValueError,X.k_NoText_NoNumber,X.k_NoText_NoText,X.k_NoText_NoTable,X.k_NoText_NoStock,X.k_NoText_NoWish,X.k_NoText_NoRow,X.k_NoText_Unknown⟩
  ·exact ⟨_,false,true,false,false,X.e_NoBox,d,rfl,X.k_NoBox_NoBench,X.k_NoBox_NoBox,X.k_NoBox_ValueError,X.k_NoBox_NoNumber,X.k_NoBox_NoText,X.k_NoBox_NoTable,X.k_NoBox_NoStock,X.k_NoBox_NoWish,X.k_NoBox_NoRow,X.k_NoBox_Unknown⟩
  ·exact ⟨_,true,false,false,false,X.e_NoBench,d,rfl,X.k_NoBench_NoBench,X.k_NoBench_NoBox,X.k_NoBench_ValueError,X.k_NoBench_NoNumber,X.k_NoBench_NoText,X.k_NoBench_NoTable,X.k_NoBench_NoStock,X.k_NoBench_NoWish,X.k_NoBench_NoRow,X.k_NoBench_Unknown⟩
 clear B;refine ⟨_,(Ae (Ax (i:=1) Jz.nd (Bo (CQ (BW (Fd (K:=K)) rfl T.isinstance Cq (Ad (pv 0) (Ad (Bb (v:=.ref ad.NoBench) rfl T.ex.m_NoBench rfl) Ab))) (CQ (BW (Fd (K:=K)) rfl T.isinstance Cq (Ad (pv 0) (Ad (Bb (v:=.ref ad.NoBox) rfl T.ex.m_NoBox rfl) Ab))) (CQ (BW (Fd (K:=K)) rfl T.isinstance Cq (Ad (pv 0) (Ad (Dq (v:=.ty "ValueError") rfl T.ValueError wy rfl) Ab))) (CQ (BW (Fd (K:=K)) rfl T.isinstance Cq (Ad (pv 0) (Ad (Bb (v:=.ref ad.NoNumber) rfl T.ex.m_NoNumber rfl) Ab))) Ab)))))) (Ae (Ax (i:=1) Jz.nd (Ao Ep (pv 1) (Bo (CQ (BW (Fd (K:=K)) rfl T.isinstance Cq (Ad (pv 0) (Ad (Bb (v:=.ref ad.NoText) rfl T.ex.m_NoText rfl) Ab))) (CQ (BW (Fd (K:=K)) rfl T.isinstance Cq (Ad (pv 0) (Ad (Bb (v:=.ref ad.NoTable) rfl T.ex.m_NoTable rfl) Ab))) (CQ (BW (Fd (K:=K)) rfl T.isinstance Cq (Ad (pv 0) (Ad (Bb (v:=.ref ad.NoStock) rfl T.ex.m_NoStock rfl) Ab))) (CQ (BW (Fd (K:=K)) rfl T.isinstance Cq (Ad (pv 0) (Ad (Bb (v:=.ref ad.NoWish) rfl T.ex.m_NoWish rfl) Ab))) Ab))))))) (Ae (Ax (i:=1) Jz.nd (Ao Ep (pv 1) (Bo (CQ (BW (Fd (K:=K)) rfl T.isinstance Cq (Ad (pv 0) (Ad (Bb (v:=.ref ad.NoRow) rfl T.ex.m_NoRow rfl) Ab))) (CQ (BW (Fd (K:=K)) rfl T.isinstance Cq (Ad (pv 0) (Ad (Bb (v:=.ref ad.Unknown) rfl T.ex.m_Unknown rfl) Ab))) Ab))))) (Ae (Ax (i:=2) Jz.nd (Bo (Ak Aj (Ak Aj (Ak Aj (Ak Aj (Ak Aj (Ak Aj (Ak Aj (Ak Aj (Ak Aj (Ak Aj Ab)))))))))))) (Af (Aq (pO ["_law_word","_law_there"] [none,none] b2 (AM7 (C:=o) (dx:=dx) rfl T.zip (Ad (pv 2) (Ad (pv 1) Ab))) (λ _ _ _ _ _=>(uO (n:=2) (ex:=ex) (C:=o) (dx:=dx) (K:=K) (En (Bv (i:=0) (show yb [("_law_word":Str),("_law_there":Str)] by decide)) (En (Bv (i:=1) (show yb [("_law_word":Str),("_law_there":Str)] by decide)) Jp)) b2)) (λ _ _ _ _ _=>(lq (PW.pt (pw_or (PW.pt (pw_and (Bh (pv 1)) (pw_and1 (BR Dm (pv 0) Aj)))) (pw_or1 (PW.pt (pw_and (BR Bu (pv 0) Aj) (pw_and1 (Bt (Bh (pv 1))))))))))) (λ _ _ _ _ _=>(pv 0)) (Fz ⋯ ⋯) ⋯ rfl ⋯ rfl (Gr rfl)))))))),?_⟩
 refine ⟨_,rfl,ex,_,_,_,_,_,rfl,d,r,rfl,k1,_,rfl,ex,_,_,_,_,_,rfl,d,r,rfl,k2,_,rfl,ex,_,_,_,_,_,rfl,d,r,rfl,k3,_,rfl,ex,_,_,_,_,_,rfl,d,r,rfl,d3,(by show 4<=X3;decide),λ M b4=>?_⟩
 have a5:=Ah b4 (.lst [.bl g,.bl j,.bl true,.bl false]);have I:(upd H M (.lst [.bl g,.bl j,.bl true,.bl false])) M=some (.lst [.bl g,.bl j,.bl true,.bl false]):=Ag;have d:=d.same a5;generalize upd H M (.lst [.bl g,.bl j,.bl true,.bl false])=b5 at a5 I d ⊢;refine ⟨_,rfl,_,rfl,ex,_,_,_,_,_,rfl,d,r,rfl,k5,_,rfl,ex,_,_,_,_,_,rfl,d,r,rfl,d4,_,rfl,ex,_,_,_,_,_,rfl,d,r,rfl,d5,_,rfl,ex,_,_,_,_,_,rfl,d,r,rfl,d6,(by show 4<=X3;decide),λ N b6=>?_⟩
 have a6:=Ah b6 (.lst [.bl k,.bl false,.bl false,.bl false]);have b7:(upd b5 N (.lst [.bl k,.bl false,.bl false,.bl false])) N=some (.lst [.bl k,.bl false,.bl false,.bl false]):=Ag;have d:=d.same a6;have I:=a6 _ _ I;have t2:=a5.trans a6;generalize upd b5 N (.lst [.bl k,.bl false,.bl false,.bl false])=b8 at t2 I b7 d ⊢;refine ⟨M,N,_,_,rfl,rfl,I,b7,(by show 8<=X3;decide),λ O b9=>?_⟩
 have c0:=Ah b9 (.lst ([V.bl g,.bl j,.bl true,.bl false]++[.bl k,.bl false,.bl false,.bl false]));have J:(upd b8 O (.lst ([V.bl g,.bl j,.bl true,.bl false]++[.bl k,.bl false,.bl false,.bl false]))) O=some (.lst ([V.bl g,.bl j,.bl true,.bl false]++[.bl k,.bl false,.bl false,.bl false])):=Ag;have d:=d.same c0;have t3:=t2.trans c0;generalize upd b8 O (.lst ([V.bl g,.bl j,.bl true,.bl false]++[.bl k,.bl false,.bl false,.bl false]))=c1 at t3 J d ⊢;refine ⟨_,rfl,_,rfl,ex,_,_,_,_,_,rfl,d,r,rfl,d7,_,rfl,ex,_,_,_,_,_,rfl,d,r,rfl,b3,(by show 2<=X3;decide),λ R c2=>?_⟩
 have a7:=Ah c2 (.lst [.bl false,.bl m]);have c3:(upd c1 R (.lst [.bl false,.bl m])) R=some (.lst [.bl false,.bl m]):=Ag;have d:=d.same a7;have J:=a7 _ _ J;have t4:=t3.trans a7;generalize upd c1 R (.lst [.bl false,.bl m])=a8 at t4 J c3 d ⊢;refine ⟨O,R,_,_,rfl,rfl,J,c3,(by show 10<=X3;decide),λ D c4=>?_⟩
 have c5:=Ah c4 (.lst ((Dz g j k m).map V.bl));have F:(upd a8 D (.lst ((Dz g j k m).map V.bl))) D=some (.lst ((Dz g j k m).map V.bl)):=Ag;have d:=d.same c5;have c6:=t4.trans c5
 change (λ S=>_) (upd a8 D (.lst ((Dz g j k m).map V.bl)))
 generalize upd a8 D (.lst ((Dz g j k m).map V.bl))=S at c6 F d ⊢;dsimp only
 refine ⟨(by show 10<=X3;decide),λ G c7=>?_⟩
 have a9:=Ah c7 (.lst (kw71.map V.str));have b0:(upd S G (.lst (kw71.map V.str))) G=some (.lst (kw71.map V.str)):=Ag;have d:=d.same a9;have F:=a9 _ _ F;have c8:=c6.trans a9
 change (λ c9=>_) (upd S G (.lst (kw71.map V.str)))
 generalize upd S G (.lst (kw71.map V.str))=c9 at c8 F b0 d ⊢;dsimp only
 refine ⟨_,rfl,_,rfl,G,D,rfl,⟨_,SqL.of b0⟩,⟨_,SqL.of F⟩,?_⟩;refine AH8 (K:=K) (a:=G) (b:=D) (xs:=kw71.map V.str) (zs:=(Dz g j k m).map V.bl) (λ i U Y Z=>∃a0 a1,U=[a0,a1]/\Y=Ey (Dz g j k m) i/\Same c9 Z) (by show 10<=10;decide) ⟨_,_,rfl,rfl,Same.refl _⟩ ?_ ?_ ?_
 ·rintro i U Y Z hi ⟨a0,a1,rfl,rfl,s'⟩
  exact ⟨UU (small1000 (by have:=mJ (Dz g j k m) i;omega)),SqL.of (s' _ _ b0),SqL.of (s' _ _ F),d.same s'⟩
 ·rintro i x y U Y Z p hi d0 ⟨a0,a1,rfl,rfl,s'⟩ b1
  rw [YN] at hi d0;obtain ⟨z,B,rfl⟩:=UD.mp hi;obtain ⟨t,ht,rfl⟩:=UD.mp d0;have a2:=s'.trans (Ah b1 (.tup [.str z,.bl t]));have d1:=jQ B ht;have L:i < (kw71.map V.str).length:=by rw [X9];exact CJ B
  refine ⟨p,_,rfl,SqT.of Ag,rfl,d.same a2,_,_,rfl,_,_,rfl,rfl,?_⟩;have d2:HB (z,t)=true->Ey (Dz g j k m) (i+1)=Ey (Dz g j k m) i++[.str z]:=λ e=>by rw [d1,if_pos e]
  have a3:HB (z,t)=false->Ey (Dz g j k m) (i+1)=Ey (Dz g j k m) i:=λ e=>by rw [d1,e];simp
  refine ⟨_,rfl,_,rfl,?_⟩;cases t with
  | true=>
   refine iteT ?_;refine ⟨_,rfl,rfl,_,rfl,?_⟩;by_cases u:z=Y2 "value"
   ·refine BP (by rw [Bg,ζ u];rfl) ?_
    refine ⟨_,rfl,rfl,_,rfl,Bm (by rw [Bg];exact ζ u) ?_⟩
    exact ⟨_,rfl,_,rfl,iteF (nx L ⟨_,_,rfl,(a3 (by unfold HB;rw [ζ u];rfl)).symm,a2⟩)⟩
   ·refine Bm (by rw [Bg,η u];rfl) (iteT ⟨_,rfl,nx L ⟨_,_,rfl,(d2 (by unfold HB;rw [η u];rfl)).symm,a2⟩⟩)
  | false=>
   refine iteF (iteF ?_);have u:¬ z=Y2 "value":=λ e=>by
    subst e;cases AN8 B ht
   exact ⟨_,rfl,rfl,_,rfl,BP (by rw [Bg];exact η u) (iteF (nx L ⟨_,_,rfl,(a3 rfl).symm,a2⟩))⟩
 ·rintro U Y Z p ⟨a0,a1,rfl,rfl,s'⟩ b1
  refine q p _ (c8.trans (s'.trans (Ah b1 _))) ?_;rw [Ag];exact congrArg (λ l=>some (HO.lst l)) a4
theorem Ze (T:Txt K mg ad)(y:w.params=ad.pr):CalB P w K mg base true 38 "_law_class" ["_law_desk","_law_row"] (AJ3 K ad.Desk):=by
 refine T.V6.calN Mp (λ _ _ _ _ _ _=>Bf λ _ _=>rfl) (λ vs H Q E h=>?_) (λ f cdv A outer s H vs Q E v h=>?_)
 ·obtain ⟨_,_,_,_,_,_,_,_,rfl,_⟩:=h;rfl
 obtain ⟨o,dx,d,q,t,G,n,z,rfl,x,B,C,D,F,k⟩:=h;refine ⟨_,(Ae (Ax (i:=2) Mp.nd Ja) (Ae (nR (i:=3) (d7 (k:=36) (pv 0) v.m (Ad (pv 1) Ab)) rfl rfl T.ex.m_BenchError (λ a=>(Af (Ax (i:=2) Mp.nd (qm (ex:=a) rfl (uZ T) (v.m.mark _) Aw (Ad (pv 3) Ab))))) Mp.nd rfl rfl) (Af (Aq (pv 2))))),?_⟩
 refine ⟨_,rfl,o,_,dx,_,_,_,rfl,x.o,rfl,Ie T y,_,rfl,F.say x B C D ⟨λ e r b=>?_,λ e r b=>?_,λ e r b=>?_,λ e r dd b hd=>?_⟩⟩
 ·exact ⟨_,rfl,T.ex.x_Unknown_BenchError,λ a u s3 g=>⟨_,rfl,_,_,rfl,.inl ⟨g,e⟩,λ l j p hl=>⟨_,rfl,k l j ((b.trans s3).trans p) hl⟩⟩⟩
 ·exact ⟨_,rfl,T.ex.x_NoText_BenchError,λ a u s3 g=>⟨_,rfl,_,_,rfl,.inr (.inl ⟨g,e⟩),λ l j p hl=>⟨_,rfl,k l j ((b.trans s3).trans p) hl⟩⟩⟩
 ·exact ⟨_,rfl,T.ex.x_NoBox_BenchError,λ a u s3 g=>⟨_,rfl,_,_,rfl,.inr (.inr (.inl ⟨g,e⟩)),λ l j p hl=>⟨_,rfl,k l j ((b.trans s3).trans p) hl⟩⟩⟩
 ·exact ⟨_,rfl,T.ex.x_NoBench_BenchError,λ a u s3 g=>⟨_,rfl,_,_,rfl,.inr (.inr (.inr ⟨g,e⟩)),λ l j p hl=>⟨_,rfl,k l j ((b.trans s3).trans p) hl⟩⟩⟩
theorem mV (T:Txt K mg ad)(j:w.params=ad.pr):CalB P w K mg base true 38 "_law_at" ["_law_desk","_law_row"] (AG2 K ad.Desk):=by
 refine T.TQ.calN Pq (λ _ _ _ _ _ _=>Bf λ _ _=>rfl) (λ vs H Q E h=>?_) (λ f cdv A outer s H vs Q E l h=>?_)
 ·obtain ⟨_,_,_,_,_,_,_,rfl,_⟩:=h;rfl
 obtain ⟨o,dx,d,q,t,D,n,rfl,b,p,r,u,v,k⟩:=h;refine ⟨_,(Ae (Ax (i:=2) Pq.nd Ac) (Ae (qi (i:=3) (d7 (k:=36) (pv 0) l.m (Ad (pv 1) Ab)) rfl rfl T.ex.m_NoBench (λ _=>(Af (Ax (i:=2) Pq.nd (AG6 (K:=K) (pv 3))))) Pq.nd rfl rfl) (Af (Aq (pv 2))))),?_⟩
 obtain ⟨fI,fd,C,B⟩:=T.ex.j_NoBench.ex;refine ⟨_,rfl,o,_,dx,_,_,_,rfl,b.o,rfl,Ie T j,_,rfl,v.say b p r u ⟨λ e=>absurd e (by decide+kernel),λ e=>absurd e (by decide+kernel),λ e=>absurd e (by decide+kernel),λ e x dd y hd=>?_⟩⟩
 refine ⟨ad.NoBench,rfl,T.ex.x_NoBench_NoBench,λ a ha=>?_⟩
 have g:=Ah ha (xC a ad.NoBench (some dd));have z:upd x a (xC a ad.NoBench (some dd)) a=some (xC a ad.NoBench (some dd)):=Ag;exact ⟨_,rfl,a,_,dd,_,_,rfl,z,g _ _ hd,T.ex.e_NoBench,B.hd,B.na,rfl,_,rfl,k _ (y.trans g)⟩
end
end K71
namespace K71
open PySem L2 Lib Fr Op Tx PySem.NumText
seal PE PT PW PA PS PSs PG PGs PI PO CP PJ
section
variable {P:ZU}{w:World}{K:FrG}{mg:Y1->Option Value}{base:Heap}{ad:Adr}{c:Bool}
theorem SqL.frz {H:Hp}{a:Addr}{xs:List V}{o:Obj}(h:H a=some (.frz o (.lst xs))):SqL K H a xs:=.inl (.inr ⟨o,h⟩)
theorem XM {env:Env}{h:Heap}{m:Y1->Option Value}{x:Y1}{u:Value}(hl:env.kindOf x=some .local)(l:Look env h m x u):m x=some u:=by
 rcases l with ⟨_,e⟩ | ⟨k,_⟩
 ·exact e
 ·rw [hl] at k;rcases k with k | k<;>cases k
theorem sU (T:Txt K mg ad):CalS P w K mg base true 1 "_law_called" ["_law_number","_law_k"] AK1:=by
 refine T.RG.calS bJ (λ _ _ _ _ _ _=>Bf λ _ _=>rfl) (λ vs H Q E h=>?_) (λ f cdv A outer s H vs Q E J h=>?_)
 ·obtain ⟨_,_,rfl,_⟩:=h;rfl
 obtain ⟨z,i,rfl,z0,L,M,N,q⟩:=h;have hl:=xn ⟨((z / 24+5 * i) % 26).toNat,by omega⟩
 have o:=tY ⟨(z / 3 % 5).toNat,by omega⟩ ⟨(z % 4).toNat,by omega⟩
 have e2:(((z / 3 % 5).toNat:Nat):Int)=z / 3 % 5:=by omega
 have p:(((z % 4).toNat:Nat):Int)=z % 4:=by omega
 simp only [e2,p] at o;have j:(Y2 "abcdefghijklmnopqrstuvwxyz").length=26:=by decide+kernel
 have k:(Y2 "lens").length<=X3:=by decide+kernel
 have r:(if (z % 3 == 0)=true then um (Y2 "m") (1+i) else Eo ((z / 24+5 * i) % 26) (z / 3 % 5) (z % 4))=called z i:=by
  unfold called;by_cases g:z % 3=0
  ·rw [if_pos g,if_pos (by rw [g];rfl)]
  ·rw [if_neg g,if_neg (by simpa using g)]
 refine AI0 (il:=2) (ia:=3) (ltr:=⟨#[97+((z / 24+5 * i) % 26).toNat]⟩) (r1:=um (Y2 "m") (1+i)) (r2:=Eo ((z / 24+5 * i) % 26) (z / 3 % 5) (z % 4)) (at':=z / 3 % 5) (cond:=z % 3 == 0) (λ m=>(∃t,m "_law_number"=some (.int z t))/\∃t,m "_law_k"=some (.int i t)) (λ h m hl=>?_) (λ m x u v d=>?_) (by decide+kernel) bJ.nd rfl rfl rfl rfl (λ m n a d=>?_) (λ m n d=>?_) (λ m n a d y=>?_) (λ m n d=>?_) (λ m n u t a d B C ha y=>?_) (λ u n d=>?_)
 ·obtain ⟨O,⟨l,rfl⟩,D⟩:=hl 0 "_law_number" (.int z) rfl rfl (.inl rfl);obtain ⟨R,⟨F,rfl⟩,G⟩:=hl 1 "_law_k" (.int i) rfl rfl (.inl rfl);exact ⟨⟨l,XM rfl D⟩,F,XM rfl G⟩
 ·obtain ⟨⟨t,e⟩,t',b⟩:=d;rcases v with rfl | rfl
  ·exact ⟨⟨t,(if_neg (by decide+kernel)).trans e⟩,t',(if_neg (by decide+kernel)).trans b⟩
  ·exact ⟨⟨t,(if_neg (by decide+kernel)).trans e⟩,t',(if_neg (by decide+kernel)).trans b⟩
 ·obtain ⟨⟨t,e⟩,t',b⟩:=d;exact AK0 a (Pr a) (N6 (QJ (fM (Fp rfl rfl e λ _ _=>⟨_,rfl⟩) G7 ⋯ ⋯) (jm G7 (Fp rfl rfl b λ _ _=>⟨_,rfl⟩) (.inl ⟨by decide,by decide⟩))) G7 ⋯) ∅ (by rw [j];omega) (by rw [j];decide) hl (λ _ _=>rfl)
 ·obtain ⟨⟨t,e⟩,t',b⟩:=d;exact wH (N6 (Fp rfl rfl e λ _ _=>⟨_,rfl⟩) G7 ⋯) G7 (nomark _)
 ·obtain ⟨⟨t,e⟩,t',b⟩:=d;refine AP4 a (Pr a) (QJ G7 (Fp rfl rfl b λ _ _=>⟨_,rfl⟩)) ?_
  have I:i=0\/i=1\/i=2\/i=3:=by omega
  rcases I with rfl | rfl | rfl | rfl
  ·exact ⟨by decide,λ _ h=>absurd h ⋯,λ _ h=>absurd h ⋯⟩
  ·exact ⟨by decide,λ _ _=>by decide,λ _ _=>by decide⟩
  ·exact ⟨by decide,λ _ _=>by decide,λ _ _=>by decide⟩
  ·exact ⟨by decide,λ _ _=>by decide,λ _ _=>by decide⟩
 ·obtain ⟨⟨t,e⟩,t',b⟩:=d;exact N6 (fM (Fp rfl rfl e λ _ _=>⟨_,rfl⟩) G7 ⋯ ⋯) G7 ⋯
 ·obtain ⟨⟨l,e⟩,t',b⟩:=d;refine gb a (gb a (gP a (Pr a) vG (Tq (Fp rfl rfl ha λ _ _=>⟨_,rfl⟩)) k) (Fp rfl rfl B C) ?_) (gP a (Pr a) (Tq (Fp rfl rfl ha λ _ _=>⟨_,rfl⟩)) (Tq (QJ (Fp rfl rfl ha λ _ _=>⟨_,rfl⟩) (N6 (Fp rfl rfl e λ _ _=>⟨_,rfl⟩) G7 ⋯))) k) ?_
  ·exact W8 (show _+1<=5 by omega) ⋯
  ·refine W8 (m:=9) ?_ ⋯
   rw [<- Lib.Es,Bw,ZA,Lib.Es,Lib.Es];show _+1+_<=9;omega
 ·rw [r] at d ⊢;exact q u n d
theorem km (T:Txt K mg ad):CalB P w K mg base true 6 "_law_benches" ["_law_drawn_here","_law_many","_law_least"] (AN9 K):=by
 refine T.Wt.calN HD (λ _ _ _ _ _ _=>Ht λ _ _ _=>rfl) (λ vs H Q E h=>?_) (λ f cdv A outer s H vs Q E b5 h=>?_)
 ·obtain ⟨_,_,_,_,rfl,_⟩:=h;rfl
 obtain ⟨d,c,e4,d1,rfl,k5,hd,q⟩:=h;refine ⟨_,(Ae (Ax (i:=3) HD.nd (Bo Ab)) (Ae (Dk WH rfl (JN rfl T.range (Ad (pv 1) Ab)) (Bv (i:=4) HD.nd) (Ae (Ax (i:=5) HD.nd (Bo Ab)) (Ae (Dk WH rfl (JN rfl T.range (By (Ao DY (pv 2) (Am (Pk T) b5.m Aw (Ad (pv 0) (Ak Ac Ab)))) Ab)) (Bv (i:=6) HD.nd) (Ae (Ax (i:=7) HD.nd (Am (qH T) b5.m Aw (Ad (pv 0) (Ak DW Ab)))) (Ae (Az (PW.pt (pw_and (BR Bu (Ai Ar (pv 7) Ac) Aj) (pw_and1 (BR GD (Am (Pk T) b5.m Aw (Ad (pv 0) (Ak Ac Ab))) Ac)))) (Ae (Ax (i:=8) HD.nd (Am (mQ T) b5.m Aw (BX (Ai Ar (pv 7) Ac) (Jt (Cz (Ak Ac (Ak Ac Ab))) Ab)))) (Af (Ax (i:=7) HD.nd (Cz (Ak Aj (Ad (pv 8) (CQ (Am (gF T) b5.m Aw (BX (Ai Ar (pv 7) Ac) (Jt (Cz (Ak Ac (Ak Ac Ab))) Ab))) Ab))))))) BJ) (Af (DG (Cm XB XT XU Eg (pv 5) (Ad (pv 7) Ab))))))) (Af (DG (Cm XB XT XU Eg (pv 3) (Ad (pv 5) Ab))))))) (Af (Aq (pv 3))))),?_⟩
 refine ⟨(by show 0<=X3;decide),λ g D=>?_⟩
 have e5:=Ah D (.lst ([]:List V));have a2:g≠d:=λ e=>by
  obtain ⟨i3,i4,_,b6⟩:=hd.d;rw [e,b6] at D;cases D
 have d4:=hd.keep e5;have d5:upd H g (.lst ([]:List V)) g=some (.lst []):=Ag;have f7:SD d H (upd H g (.lst ([]:List V))):=Lib.SD.ofSame e5;generalize upd H g (.lst ([]:List V))=k6 at e5 d4 d5 f7 ⊢;refine ⟨_,rfl,(d1:Int),rfl,by omega,by omega,?_⟩
 rw [UC];refine Ke (lo:=0) (n:=d1) (λ i W z=>(∃e6 e7 X Y Z,W=[some (.ref d),some (.int (d1:Int)),some (.int 0),some (.ref g),e6,e7,X,Y,Z])/\DrA z d c e4/\SD d H z/\∃(bs:List Addr) (k:List (List Pc)),bs.length=i/\z g=some (.lst (bs.map V.ref))/\BnL K z bs k/\(∀b∈bs,H b=none/\b≠g)/\∀ps∈k,OkS ps) ⟨⟨_,_,_,_,_,rfl⟩,d4,f7,[],[],rfl,d5,⟨rfl,λ i b ps h=>nomatch h⟩,(λ b hb=>nomatch hb),λ ps x=>nomatch x⟩ ?_ ?_
 ·rintro i W d2 hi ⟨⟨e6,e7,X,Y,Z,rfl⟩,a3,d3,bs,k,e8,a4,J,b7,b8⟩
  refine ⟨(by show 0<=X3;decide),λ lb B=>?_⟩
  have b9:=Ah B (.lst ([]:List V));have L:lb≠d:=λ e=>by
   obtain ⟨i3,i4,_,b6⟩:=a3.d;rw [e,b6] at B;cases B
  have c0:lb≠g:=λ e=>by rw [e,a4] at B;cases B
  have f8:∀b∈bs,b≠lb:=λ b hb e=>by
   obtain ⟨j,f9⟩:=List.getElem?_of_mem hb;have g0:j < k.length:=by rw [<- J.1];exact CJ f9
   obtain ⟨xs,M,_⟩:=J.2 j b _ f9 (Xs g0);rw [e,B] at M;cases M
  have c1:H lb=none:=by
   cases e:H lb with
   | none=>rfl
   | some o=>have:=d3 lb o L e;rw [B] at this;cases this
  have c2:=a3.keep b9;have d6:upd d2 lb (.lst ([]:List V)) lb=some (.lst []):=Ag;have d7:=b9 _ _ a4;have g1:=d3.trans (Lib.SD.ofSame b9);have d8:=J.keep b9;generalize upd d2 lb (.lst ([]:List V))=k7 at b9 c2 d6 d7 g1 d8 ⊢;refine ⟨_,rfl,_,rfl,d,c,e4,7,rfl,c2,by decide,λ m k8 k9 l0 g2 s3=>?_⟩
  refine ⟨_,_,rfl,rfl,_,rfl,by omega,by omega,?_⟩
  obtain ⟨l1,l2,_,e9⟩:=c2.d;have a0:∀b∈bs,b≠d:=λ b hb e=>by
   obtain ⟨_,_,_,i5⟩:=hd.d;have:=(b7 b hb).1;rw [e,i5] at this;cases this
  refine Ke (lo:=0) (n:=(0+m).toNat) (λ f0 W z=>(∃X Y Z,W=[some (.ref d),some (.int (d1:Int)),some (.int 0),some (.ref g),some (.int (0+(i:Int))),some (.ref lb),X,Y,Z])/\DrA z d c e4/\SD d H z/\z g=some (.lst (bs.map V.ref))/\BnL K z bs k/\∃xs ps,z lb=some (.lst xs)/\DVs K z xs (Nl CK ps)/\ps.length=f0/\∀p∈ps,Cj p/\p.fd 12 17) ⟨⟨_,_,_,rfl⟩,g2,g1.trans s3,s3 _ _ a2 d7,d8.sd e9 s3 a0,[],[],s3 _ _ L d6,.nil,rfl,λ p x=>nomatch x⟩ ?_ ?_
  ·rintro f0 W f1 j5 ⟨⟨X,Y,Z,rfl⟩,N,f2,G,c3,xs,ps,c4,a5,d9,c5⟩
   refine ⟨_,rfl,d,c,e4,false,rfl,N,λ v g3 p I c6 b1 x=>?_⟩
   have a6:∀(u:V) (a:Hp) (b2:Pc),DrA a d c e4->SD d H a->a g=some (.lst (bs.map V.ref))->BnL K a bs k->a lb=some (.lst xs)->DV K a u (CK b2)->DVs K a xs (Nl CK ps)->(Cj b2/\b2.fd 12 17)->DrA (upd a lb (.lst (xs++[u]))) d c e4/\SD d H (upd a lb (.lst (xs++[u])))/\upd a lb (.lst (xs++[u])) g=some (.lst (bs.map V.ref))/\BnL K (upd a lb (.lst (xs++[u]))) bs k/\∃e0 c7,upd a lb (.lst (xs++[u])) lb=some (.lst e0)/\DVs K (upd a lb (.lst (xs++[u]))) e0 (Nl CK c7)/\c7.length=f0+1/\∀p∈c7,Cj p/\p.fd 12 17:=by
    intro u a b2 a7 O a8 a9 l i6 b0 g4;have R:SD lb a (upd a lb (.lst (xs++[u]))):=KR;have st:Er a (upd a lb (.lst (xs++[u]))):=R.t l;refine ⟨a7.keepD R L.symm (BV hd.c c1),λ b o n e=>by rw [Al (BV e c1)];exact O b o n e,by rw [Al c0.symm];exact a8,a9.sd l R f8,_,ps++[b2],Ag,?_,by rw [ZA,d9];rfl,λ p x=>?_⟩
    ·rw [Ye];exact DVs.append (HQ st (Il IV ps) b0) (.cons (Gy st (IV b2) i6) .nil)
    ·rcases XE.mp x with h | h
     ·exact c5 p h
     ·rw [ZB.mp h];exact g4
   have b3:xs.length < X3:=small1000 (by have:=a5.len;rw [X9] at this;omega)
   have c8:=f2.trans c6;have c9:=c6 _ _ a2 G;have C:=c6 _ _ L c4;have d0:=HQ (N.t c6) (Il IV ps) a5;obtain ⟨j6,j7,_,f3⟩:=N.d;have S:=c3.sd f3 c6 a0;have a1:Cj _/\_:=⟨x.1,wV (x.2 rfl)⟩;cases p with
   | gap l3=>
    obtain ⟨tt,ts,rfl,ht,U⟩:=DV.tup_of b1;obtain ⟨g5,g6,rfl,M,g7⟩:=U.two;obtain rfl:=DV.str_of M;refine ⟨_,rfl,tt,_,_,_,rfl,rfl,ht,Dv,rfl,_,rfl,BP (by rw [Bg];exact η (by decide+kernel)) (iteF ?_)⟩
    exact ⟨_,rfl,.inl ⟨rfl,_,SqL.of C⟩,_,rfl,lb,_,_,rfl,rfl,C,b3,⟨_,_,_,rfl⟩,a6 _ g3 _ I c8 c9 S C b1 d0 a1⟩
   | glass l3=>
    obtain ⟨tt,ts,rfl,ht,U⟩:=DV.tup_of b1;obtain ⟨g5,g6,rfl,M,g7⟩:=U.two;obtain rfl:=DV.str_of M;refine ⟨_,rfl,tt,_,_,_,rfl,rfl,ht,Dv,rfl,_,rfl,BP (by rw [Bg];exact η (by decide+kernel)) (iteF ?_)⟩
    exact ⟨_,rfl,.inl ⟨rfl,_,SqL.of C⟩,_,rfl,lb,_,_,rfl,rfl,C,b3,⟨_,_,_,rfl⟩,a6 _ g3 _ I c8 c9 S C b1 d0 a1⟩
   | stop lo hi=>
    obtain ⟨tt,ts,rfl,ht,U⟩:=DV.tup_of b1;obtain ⟨g5,g6,l4,rfl,M,g7,l5⟩:=U.three;obtain rfl:=DV.str_of M;refine ⟨_,rfl,tt,_,_,_,rfl,rfl,ht,Dv,rfl,_,rfl,Bm (by rw [Bg];exact ζ rfl) ?_⟩
    refine ⟨_,rfl,d,c,e4,3,rfl,I,by decide,λ y a l6 l7 a7 O=>?_⟩
    have e1:=c8.trans O;have a8:=O _ _ a2 c9;have l:=O _ _ L C;have b0:=HQ (I.t O) (Il IV ps) d0;obtain ⟨j8,j9,_,f4⟩:=I.d;have a9:=S.sd f4 O a0;have e2:=I.dv O b1;refine ⟨_,_,rfl,rfl,_,rfl,ite2 (λ i7=>?_) (λ i7=>?_)⟩
    ·obtain ⟨t',k0,e,e3,f5⟩:=DV.tup_of e2;cases e
     obtain ⟨l8,l9,m0,rfl,k1,k2,k3⟩:=f5.three;have b:=x.2 rfl;have g8:Av 9=.tuple [.int 9,.int 1]:=rfl;have b4:Bd 4 (9:Rat):=⟨by decide,by decide⟩
     refine ⟨_,rfl,tt,_,_,_,rfl,rfl,e3,rfl,(by show 2<=X3;decide),λ g9 h0=>?_⟩
     have h1:=Ah h0 (.tup [.int 9,.int 1]);have i8:DV K (upd a g9 (.tup [.int 9,.int 1])) (.ref g9) (Av 9):=by rw [g8];exact .tup (SqT.of Ag) (.cons (.int 9) (.cons (.int 1) .nil))
     refine ⟨_,_,.cons (k2.keep h1) (.cons i8 .nil),⟨lo,9,rfl,b.1.sm ⋯,b4.sm ⋯,rfl⟩,λ h2 i9 j0 j1=>?_⟩
     have h3:=h1.trans j0;refine ⟨_,rfl,_,rfl,tt,_,_,_,rfl,rfl,e3.keep h3,rfl,(by show 2<=X3;decide),λ h4 h5=>?_⟩
     have h6:=Ah h5 (.tup [.int 9,.int 1]);have h7:=h3.trans h6;have j2:DV K (upd i9 h4 (.tup [.int 9,.int 1])) (.ref h4) (Av 9):=by rw [g8];exact .tup (SqT.of Ag) (.cons (.int 9) (.cons (.int 1) .nil))
     refine ⟨_,_,.cons (k3.keep h7) (.cons j2 .nil),⟨hi,9,rfl,b.2.sm ⋯,b4.sm ⋯,rfl⟩,λ h8 j3 h9 j4=>?_⟩
     refine ⟨(by show 3<=X3;decide),λ r i0=>?_⟩
     have f6:=Ah i0 (.tup [.str (Y2 "stop"),h2,h8]);have u:=(h7.trans h9).trans f6;have i1:DV K (upd j3 r (.tup [.str (Y2 "stop"),h2,h8])) (.ref r) (CK (.stop (lo - 9) (hi+9))):=.tup (SqT.of Ag) (.cons (.str _) (.cons (j1.keep ((h6.trans h9).trans f6)) (.cons (j4.keep f6) .nil)));have k4:¬ hi < lo:=x.1.1;have i2:(Pc.stop (lo - 9) (hi+9)).ok:=show ¬ hi+9 < lo - 9 by grind
     exact ⟨_,rfl,.inl ⟨rfl,_,SqL.of (u _ _ l)⟩,_,rfl,lb,_,_,rfl,rfl,u _ _ l,b3,⟨_,_,_,rfl⟩,a6 _ _ _ (a7.keep u) (e1.trans (Lib.SD.ofSame u)) (u _ _ a8) (a9.keep u) (u _ _ l) i1 (b0.keep u) ⟨zG i2 ⟨b.1.sub b4,b.2.add b4⟩ ⋯,(b.1.sub b4).mono ⋯,(b.2.add b4).mono ⋯⟩⟩
    ·exact ⟨_,rfl,.inl ⟨rfl,_,SqL.of l⟩,_,rfl,lb,_,_,rfl,rfl,l,b3,⟨_,_,_,rfl⟩,a6 _ a _ a7 e1 a8 a9 l e2 b0 a1⟩
  ·rintro W f1 ⟨⟨X,Y,Z,rfl⟩,N,f2,G,c3,xs,ps,c4,a5,d9,c5⟩
   have R:SD g f1 (upd f1 g (.lst (bs.map V.ref++[.ref lb]))):=KR;have S:=(c3.sd G R λ b hb=>(b7 b hb).2).snoc (Ud (BnA.of c4 a5) (R.t G) λ o e=>R _ _ c0 e)
   have b3:(bs.map V.ref).length < X3:=small1000 (by rw [X9];omega)
   refine ⟨_,rfl,.inl ⟨rfl,_,SqL.of G⟩,_,rfl,g,_,_,rfl,rfl,G,b3,⟨_,_,_,_,_,rfl⟩,N.keepD R a2.symm (BV hd.c D),(λ b o n e=>by rw [Al (BV e D)];exact f2 b o n e),bs++[lb],k++[ps],by rw [ZA,e8];rfl,by rw [Ag,Ye];rfl,S,λ b hb=>?_,λ p x=>?_⟩
   ·rcases XE.mp hb with h | h
    ·exact b7 b h
    ·rw [ZB.mp h];exact ⟨c1,c0⟩
   ·rcases XE.mp x with h | h
    ·exact b8 p h
    ·rw [ZB.mp h];exact ⟨by omega,c5⟩
 ·rintro W d2 ⟨⟨e6,e7,X,Y,Z,rfl⟩,a3,d3,bs,k,e8,a4,J,b7,b8⟩
  exact ⟨_,rfl,q g bs k d2 a3 d3 D b7 a4 e8 J b8⟩
theorem AH7 (x t:Y1):Y2 "bench "++x++Y2 " "++t=Dn x t:=rfl
theorem iw (T:Txt K mg ad)(c8:w.params=ad.pr):CalS P w K mg base true 38 "_law_laid" ["_law_drawn_here","_law_number","_law_least"] (yu K ad.Desk):=by
 refine T.WK.calS KZ (λ _ _ _ _ _ _=>Ht λ _ _ _=>rfl) (λ vs H Q E h=>?_) (λ f cdv A outer s H vs Q E I h=>?_)
 ·obtain ⟨_,_,_,_,rfl,_⟩:=h;rfl
 obtain ⟨q,c,c7,z,rfl,b0,z0,b1,k⟩:=h;have d7:(Y2 "bench ").length=6:=by decide+kernel
 have e8:(Y2 " ").length=1:=by decide+kernel
 refine iI (zH TkF.up (i:=3) KZ.nd rfl (by walk_at "o") ["_law_k","_law_number"] [none,some 1] rfl (JN rfl T.range (Ak Ac Ab)) (λ _ _ _ _ _ _=>(Bv (i:=0) (show yb [("_law_k":Str),("_law_number":Str)] by decide))) (λ _ _ _ _ _ _=>Gf) (λ _ _ _ _ _ _=>(eY (sU T) I.m Aw (Ad (pv 1) (Ad (pv 0) Ab))).f TkF) (ug (hcell:=by decide) (hf:=(show ∀y:Str×xl,y∈_->y.2=GV->(defScope Lz).names.lookup y.1=some xl.cell by decide))) ⋯ rfl ⋯ rfl (λ i j h=>by
   rcases i with _ | _ | i
   ·simp at h
   ·simp at h;subst h;exact ⟨_,rfl,rfl,rfl,rfl⟩
   ·simp at h)) (Ae (Ax (i:=4) KZ.nd (Am (km T) I.m Aw (Ad (pv 0) (By (Ao DY Ac (Am (Pk T) I.m Aw (Ad (pv 0) (Ak Ac Ab)))) (Ad (pv 2) Ab))))) (Ae (Ax (i:=5) KZ.nd (zp (wk T) I.m)) (Ae (Dk WH rfl (JN rfl T.range (CQ (BW Cy rfl T.len Cr (Ad (pv 4) Ab)) Ab)) (Bv (i:=6) KZ.nd) (Af (Az (BR Dm (Hu (k:=36) (pv 5) I.m (By (Ao Dj (Ao Dj (Ao Dj Aj (Ai Bq (pv 3) (pv 6))) Aj) (Am (Ys T) I.m Aw (BX (Ai Bq (pv 4) (pv 6)) Ab))) Ab)) Aj) (Af (Aq (Bo (Ak Ja (Ad (pv 3) (Ad (pv 4) Ab)))))) BJ))) (Af (Aq (Bo (Ad (pv 5) (Ad (pv 3) (Ad (pv 4) Ab))))))))) ?_
 refine ⟨4,rfl,by decide,by decide,?_⟩
 refine oA (lo:=0) (n:=(4:Int).toNat) (λ i t X l=>(∃Y,t=[Y,some (.int z)])/\X=((QE i).map λ j:Nat=>V.str (called z (j:Nat)))/\l=H) ⟨⟨_,rfl⟩,rfl,rfl⟩ ?_ ?_ ?_
 ·rintro i t X l hi ⟨⟨Y,rfl⟩,rfl,rfl⟩
  rw [X9,List.length_range];exact W8 hi ⋯
 ·rintro i t X l hi ⟨⟨Y,rfl⟩,rfl,rfl⟩
  have d8:i < 4:=hi;refine ⟨_,rfl,_,rfl,_,_,rfl,z0,b1,by omega,by omega,λ u n e9=>⟨qM e9,nx hi ⟨⟨_,rfl⟩,?_,rfl⟩⟩⟩
  rw [List.range_succ,Ye,CM];rfl
 rintro t X l g ⟨⟨Y,rfl⟩,rfl,rfl⟩ L
 intro p d9 ob B J v fo;cases J
 rw [Ag] at v
 injection v with v
 injection v with v
 subst v;rw [Jk];have c9:((QE (4:Int).toNat).map λ j:Nat=>V.str (called z (j:Nat)))=(nms z).map V.str:=(wY z).symm
 rw [c9] at fo ⊢;have M:=Ah L (.frz ob (.lst ((nms z).map V.str)));have Z:(upd l g (.frz ob (.lst ((nms z).map V.str)))) g=some (.frz ob (.lst ((nms z).map V.str))):=Ag;have a1:g≠q:=λ e=>by
  obtain ⟨_,_,_,h⟩:=b0.d;rw [e,h] at L;cases L
 have N:=b0.keep M;generalize upd l g (.frz ob (.lst ((nms z).map V.str)))=f0 at M Z N ⊢;refine ⟨_,rfl,_,rfl,q,c,c7,2,rfl,N,by decide,λ k2 d0 e0 e3 D a6=>?_⟩
 obtain ⟨m,d1,f1,b2⟩:∃m:Nat,2+k2=(m:Int)/\2<=m/\m<=3:=⟨(2+k2).toNat,by omega,by omega,by omega⟩
 refine ⟨_,_,rfl,rfl,_,rfl,?_⟩;dsimp only
 rw [d1];refine ⟨q,c,c7,m,rfl,b2,D,λ lb bs x d2 O s3 R b3 a2 bl b4 a3=>?_⟩
 have a4:∀b,d0 b=none->b≠q:=λ b hb e=>by
  obtain ⟨_,_,_,h⟩:=D.d;rw [e,h] at hb;cases hb
 have F:=a6.trans s3;have b5:=F _ _ a1 Z;have e4:g≠lb:=λ e=>by
  have:=a6 _ _ a1 Z;rw [e,R] at this;cases this
 have e5:lb≠c:=λ e=>by
  have:=D.c;rw [<- e,R] at this;cases this
 have d3:=a4 lb R;refine λ o dx no a5 ne=>⟨o,dx,rfl,Ag,λ d hd=>⟨rfl,?_⟩⟩
 obtain ⟨C,S,G,b6⟩:=wF (K:=K) (q:=[q,lb]) no a5 ne hd;generalize upd (upd (upd (upd d2 dx (.own o)) o (.ins ad.Desk dx [])) d (.dK [])) o (.ins ad.Desk dx [("benches",.ref d)])=b7 at C S ⊢;have a:Ly71 K b7 ad.Desk o dx d g lb q c c7 (λ _=>none) 0 z bs x ob:=⟨O.keep C,S,C _ _ b5,C _ _ a2,b4.keep C,λ j ps d4=>absurd d4 ∅⟩
 have b8:SD q l b7:=(Lib.SD.ofSame M).trans (F.trans (Lib.SD.ofSame C));have e6:∀b∈bs,b≠q/\b≠lb:=λ b hb=>⟨a4 b (b3 b hb).1,(b3 b hb).2⟩
 have b9:l d=none:=by
  cases e:l d with
  | none=>rfl
  | some o=>
   have c0:d≠q:=λ e=>by
    obtain ⟨_,_,_,h⟩:=O.d;rw [e,h] at G;cases G
   have:=F _ _ c0 (M _ _ e);rw [G] at this;cases this
 clear C S G b6 hd no a5 ne F O D N a6 s3 Z b5 M b4 a2;refine ⟨_,rfl,lb,_,rfl,.inl (SqL.of a.hl),_,rfl,by omega,by rw [X9];omega,?_⟩
 rw [UC,X9,bl];refine Ke (lo:=0) (n:=m) (λ i t a0=>∃(a7:Option V) (a8:CZ),t=[some (.ref q),some (.int z),some (.int 0),some (.ref g),some (.ref lb),some (.ref o),a7]/\Ly71 K a0 ad.Desk o dx d g lb q c c7 a8 i z bs x ob/\SD q l a0/\a8 (called z ((3:Nat):Int))=none) ⟨_,_,rfl,a,b8,rfl⟩ ?_ ?_
 ·rintro i t a0 hi ⟨a7,a8,rfl,a,sx,U⟩
  have hb:i < bs.length:=by omega
  have v:i < x.length:=by rw [<- a.bl.1];exact hb
  have a9:=Xs hb;have J:=Xs v;generalize bs[i]=b at a9;generalize x[i]=ps at J;have c1:=a.bl.2 i b ps a9 J;have ok:=a3 ps (YB J);have nm:Nm (called z i):=R4 z ∅ ∅
  have f2:=pB ok.w.1 ok.w.sh;have e1:((nms z).map V.str)[i]?=some (.str (called z i)):=by rw [YN,Nf ∅];rfl
  have e2:(bs.map V.ref)[i]?=some (.ref b):=by rw [YN,a9];rfl
  have b1:=nm.len;refine ⟨_,rfl,o,_,dx,_,_,_,rfl,a.ds.o,rfl,Ie T c8,?_⟩;rw [CM];refine ⟨_,rfl,_,rfl,g,_,_,_,rfl,rfl,SqL.frz a.nm,Ba e1,_,_,rfl,rfl,Do ∅,_,_,rfl,rfl,Do (by rw [Ds];omega),?_⟩
  refine ⟨_,rfl,_,rfl,lb,_,_,_,rfl,rfl,SqL.of a.hl,Ba e2,.ref b,ps,rfl,c1.dv,ok.w.1,ok.w.sh,λ f3 c2=>?_⟩
  refine ⟨_,_,rfl,rfl,(by rw [Ds,Ds];exact W8 (show _<=20100 by omega) ⋯),?_⟩
  have W:=a.keep c2;refine ⟨o,dx,d,[q,lb],_,a8,i,rfl,W.ds,W.there,by omega,(by rw [AH7,QF nm];have:=nm.len;omega),.inl ⟨called z i,Ef ps,rfl,nm,(λ e7 e=>?_),λ e=>by rw [Zy ok.w.1 ok.w.sh] at e;cases e⟩⟩
  rw [Zy ok.w.1 ok.w.sh] at e;cases e
  refine ⟨ok.w,λ f4 c3 c4=>?_⟩
  refine ⟨rfl,_,rfl,BP (by decide+kernel) ?_⟩
  exact ⟨_,_,rfl,W.next J ∅ c3 c4,λ b o n e=>c3 _ _ (BV e b9) (c2 _ _ (sx b o n e)),(by show setB a8 (called z i) ps (called z ((3:Nat):Int))=none;unfold setB;rw [if_neg (ux z ∅)];exact U)⟩
 ·rintro t a0 ⟨a7,a8,rfl,a,sx,U⟩
  refine ⟨_,rfl,_,rfl,_,rfl,(by show 3<=X3;decide),λ r c5=>?_⟩
  have c6:=Ah c5 (.lst [.ref o,.ref g,.ref lb]);have a:=a.keep c6;exact λ u d5 d6=>k u d5 r o dx d g lb a8 m bs x ob _ (sx.trans (Lib.SD.ofSame c6)) Ag b2 ⟨a.ds,a.there,a.nm,FO.up TkF.up fo d6,a.hl,a.bl,⟨by omega,by omega⟩,a3,λ j ps e=>a.sx j ps (by have:=CJ e;rw [<- a.bl.1] at this;omega) e,U⟩
def un1:List Y1:=[Aa "show W",Aa "walk W 1 2",Aa "table W",Aa "apart W",Aa "image W 1/2",Aa "rounds W",Aa "field W 1 0 0 1"]
def un2:List Y1:=[Aa "sharp W 0 1 1 0 1",Aa "turn N W",Aa "join N W N",Aa "join N N W",Aa "turn W W",Aa "join W W N"]
theorem yI (T:Txt K mg ad):CalB P w K mg base true 1 "_law_unknown" [] dH:=by
 refine T.Vw.calN Rm (λ _ _ _ _ _ _ us S=>by cases us with | nil=>rfl | cons _ _=>cases S) (λ vs H Q E h=>?_) (λ f cdv A outer s H vs Q E a5 h=>?_)
 ·obtain ⟨rfl,_⟩:=h;rfl
 obtain ⟨rfl,k⟩:=h;refine ⟨_,(Ae (Ax (i:=0) Rm.nd (Bo (Ak Aj (Ak Aj (Ak Aj (Ak Aj (Ak Aj (Ak Aj (Ak Aj Ab))))))))) (Ae (Ax (i:=0) Rm.nd (Ao Ep (pv 0) (Bo (Ak Aj (Ak Aj (Ak Aj (Ak Aj (Ak Aj (Ak Aj Ab))))))))) (Ae (DG (Cm XB XT XU Eg (pv 0) (Ak Aj Ab))) (Af (Aq (Ir ["_law_row"] [none] rfl (Ej (pv 0)) (λ _ _ _ _ _=>(Bv (i:=0) (show yb [("_law_row":Str)] by decide))) (λ _ _ _ _ _=>Gf) (λ _ _ _ _ _=>(Bo (Ad (pv 0) (Ak Aj Ab)))) (Fz ⋯ ⋯) ⋯ rfl ⋯ rfl (Gr rfl))))))),?_⟩
 refine ⟨(by show 7<=X3;decide),λ B J=>?_⟩
 generalize e1:upd H B (HO.lst _)=l;have U:Same H l:=e1▸Ah J _;have W:l B=some (.lst (un1.map V.str)):=by rw [<- e1];exact Ag
 refine ⟨_,rfl,(by show 6<=X3;decide),λ C L=>?_⟩
 generalize e2:upd l C (HO.lst _)=m;have M:Same l m:=e2▸Ah L _;have X:m C=some (.lst (un2.map V.str)):=by rw [<- e2];exact Ag
 have Y:=M _ _ W;have t2:=U.trans M;refine ⟨B,C,_,_,rfl,rfl,Y,X,(by show 13<=X3;decide),λ d z=>?_⟩
 have Z:H d=none:=t2.free z;have N:=Ah z (.lst (un1.map V.str++un2.map V.str));have D:upd m d (.lst (un1.map V.str++un2.map V.str)) d=some (.lst (un1.map V.str++un2.map V.str)):=Ag;have t3:=t2.trans N;generalize upd m d (.lst (un1.map V.str++un2.map V.str))=n at N D t3 ⊢;refine ⟨_,rfl,.inl ⟨rfl,_,SqL.of D⟩,d,_,_,rfl,rfl,D,(by show 13 < X3;decide),?_⟩
 have t4:Same H (upd n d (.lst (un1.map V.str++un2.map V.str++[.str (Aa "join W long W")]))):=λ b o e=>by rw [Al (BV e Z)];exact t3 b o e
 have G:upd n d (.lst (un1.map V.str++un2.map V.str++[.str (Aa "join W long W")])) d=some (.lst (unkL.map V.str)):=Ag
 change (λ a6=>_) (upd n d (.lst (un1.map V.str++un2.map V.str++[.str (Aa "join W long W")])))
 generalize upd n d (.lst (un1.map V.str++un2.map V.str++[.str (Aa "join W long W")]))=a0 at t4 G ⊢;dsimp only
 have I:unkL.length=14:=rfl;refine ⟨_,rfl,d,rfl,⟨_,SqL.of G⟩,?_⟩;refine Oj (K:=K) (a:=d) (xs:=unkL.map V.str) (λ i r u j=>∃v g,r=[v]/\Same a0 j/\u=Nl V.ref g/\PrL j g ((unkL.take i).map λ t=>(t,Aa "unknown"))) ⟨_,[],rfl,Same.refl _,rfl,.nil⟩ ?_ ?_ ?_
 ·rintro i r u j hi ⟨v,g,rfl,s',rfl,pr⟩
  have a1:=pr.1;rw [X9,WS,I] at a1;exact ⟨by rw [X9];exact W8 (show g.length<=14 by omega) ⋯,SqL.of (s' _ _ G)⟩
 ·rintro i y r u j hi ⟨v,g,rfl,s',rfl,pr⟩
  have O:=CJ hi;rw [YN] at hi;obtain ⟨x,a2,rfl⟩:=UD.mp hi;refine ⟨_,rfl,(by show 2<=X3;decide),λ a ha=>nx O ⟨_,g++[a],rfl,s'.trans (Ah ha _),by rw [Ye];rfl,?_⟩⟩
  rw [WO,a2,Ye];exact (pr.keep (Ah ha _)).app (.one Ag)
 ·rintro r u j p ⟨v,g,rfl,s',rfl,pr⟩ a3
  rw [X9,Jn] at pr;have R:=Ah a3 (.lst (g.map V.ref));refine k p g _ _ (t4.trans (s'.trans R)) Ag (pr.keep R) (by rw [X9,I];decide) (by rw [X9,I];decide) λ q a4=>?_
  obtain ⟨t,ht,rfl⟩:=UG.mp a4;exact qU t ht
theorem Wo {H:Hp}{d:List Addr}{f:List (Y1×Y1)}{l a:Addr}{r z:Y1}(hl:H l=some (.lst (d.map V.ref)))(pr:PrL H d f)(ha:H a=none):
  (upd (upd H a (.lst [.str r,.str z])) l (.lst (d.map V.ref++[.ref a]))) l=some (.lst ((d++[a]).map V.ref))/\PrL (upd (upd H a (.lst [.str r,.str z])) l (.lst (d.map V.ref++[.ref a]))) (d++[a]) (f++[(r,z)])/\
   ∀b o,b≠l->H b=some o->(upd (upd H a (.lst [.str r,.str z])) l (.lst (d.map V.ref++[.ref a]))) b=some o:=by
 have u:=Ah ha (.lst [.str r,.str z]);have i:upd H a (.lst [.str r,.str z]) a=some (.lst [.str r,.str z]):=Ag;have g:=u _ _ hl;have h:=pr.keep u;have na:a≠l:=λ e=>by rw [e,hl] at ha;cases ha
 generalize upd H a (.lst [.str r,.str z])=k at u i g h;refine ⟨by rw [Ag,Ye];rfl,(h.upd' g).app (.one ?_),λ b o j e=>?_⟩
 ·rw [Al na];exact i
 ·rw [Al j];exact u _ _ e
theorem Ex {n:Nat}(h:n<=200):n<=X3:=W8 h ⋯
theorem jX:∀t∈txtL,t.length<=20:=by decide+kernel
theorem AO7 (T:Txt K mg ad):CalB P w K mg base true 1 "_law_others" [] dH:=by
 refine T.QV.calN Hs (λ _ _ _ _ _ _ us f9=>by cases us with | nil=>rfl | cons _ _=>cases f9) (λ vs H Q E h=>?_) (λ f cdv A outer s H vs Q E h2 h=>?_)
 ·obtain ⟨rfl,_⟩:=h;rfl
 obtain ⟨rfl,k⟩:=h;refine ⟨_,(Ae (Ax (i:=0) Hs.nd (Bo Ab)) (Ae (Ax (i:=1) Hs.nd (Bo (Ak Aj (Ak Aj (Ak Aj (Ak Aj (Ak Aj (Ak Aj (Ak Aj (Ak Aj Ab)))))))))) (Ae (Dk WH rfl (Ej (Ao Ep (pv 1) (Bo (Ak Aj Ab)))) (Bv (i:=2) Hs.nd) (Af (Ax (i:=0) Hs.nd (Ao Ep (pv 0) (Bo (Gq (Bo (By (Ao Dj Aj (pv 2)) (Ak Aj Ab))) (Gq (Bo (By (Ao Dj Aj (pv 2)) (Ak Aj Ab))) Ab))))))) (Ae (Dk WH rfl (Ej (Bo (Ak Aj (Ak Aj Ab)))) (Bv (i:=3) Hs.nd) (Ae (DG (Cm XB XT XU Eg (pv 0) (Gq (Bo (By (Ao Dj (Ao Dj Aj (pv 3)) Aj) (Ak Aj Ab))) Ab))) (Ae (DG (Cm XB XT XU Eg (pv 0) (Gq (Bo (By (Ao Dj (Ao Dj Aj (pv 3)) Aj) (Ak Aj Ab))) Ab))) (Af (DG (Cm XB XT XU Eg (pv 0) (Gq (Bo (By (Ao Dj (Ao Dj Aj (pv 3)) Aj) (Ak Aj Ab))) Ab))))))) (Ae (Ax (i:=0) Hs.nd (Ao Ep (pv 0) (Bo (Gq (Bo (Ak Aj (Ak Aj Ab))) (Gq (Bo (Ak Aj (Ak Aj Ab))) (Gq (Bo (Ak Aj (Ak Aj Ab))) Ab)))))) (Af (Aq (Ao Ep (pv 0) (Bo (Gq (Bo (Ak Aj (Ak Aj Ab))) Ab)))))))))),?_⟩;refine ⟨(by show 0<=X3;decide),λ a3 b6=>?_⟩
 generalize d6:upd H a3 (HO.lst _)=a4;have g0:Same H a4:=d6▸Ah b6 _;have d7:a4 a3=some (.lst (([]:List Addr).map V.ref)):=by rw [<- d6];exact Ag
 refine ⟨(by show 8<=X3;decide),λ S d8=>?_⟩
 generalize e1:upd a4 S (HO.lst _)=a5;have c6:Same a4 a5:=e1▸Ah d8 _;have g1:a5 S=some (.lst (txt8.map V.str)):=by rw [<- e1];exact Ag
 refine ⟨_,rfl,(by show 1<=X3;decide),λ c7 d9=>?_⟩
 generalize e2:upd a5 c7 (HO.lst _)=a6;have a7:Same a5 a6:=e2▸Ah d9 _;have g2:a6 c7=some (.lst ([Aa "gap 1 "].map V.str)):=by rw [<- e2];exact Ag
 refine ⟨S,c7,_,_,rfl,rfl,a7 _ _ g1,g2,(by show 9<=X3;decide),λ D b7=>⟨D,rfl,⟨_,SqL.of Ag⟩,?_⟩⟩
 have c8:=Ah b7 (.lst (txt8.map V.str++[Aa "gap 1 "].map V.str));have e0:upd a6 D (.lst (txt8.map V.str++[Aa "gap 1 "].map V.str)) D=some (.lst (txtL.map V.str)):=by rw [Ag,txtL,Ye]
 generalize upd a6 D (.lst (txt8.map V.str++[Aa "gap 1 "].map V.str))=h3 at c8 e0 ⊢;have t3:=((g0.trans c6).trans a7).trans c8;have e3:=c8 _ _ (a7 _ _ (c6 _ _ d7));have g3:txtL.length=9:=rfl;have h0:a3≠D:=λ e=>by
  have:=a7 _ _ (c6 _ _ d7);rw [e,b7] at this;cases this
 refine Fx (K:=K) (a:=D) (xs:=txtL.map V.str) (λ i u m=>∃l g v B,u=[some (.ref l),some (.ref S),v,B]/\Same H m/\m D=some (.lst (txtL.map V.str))/\H l=none/\m l=some (.lst (Nl V.ref g))/\PrL m g ((txtL.take i).flatMap I9)) ⟨a3,[],_,_,rfl,t3,e0,b6,e3,.nil⟩ ?_ ?_ ?_
 ·rintro i u m hi ⟨l,g,v,B,rfl,s',a8,U,hl,pr⟩
  exact SqL.of a8
 ·rintro i y u m hi ⟨l,g,v,B,rfl,s',a8,U,hl,pr⟩
  have b8:=CJ hi;rw [X9,g3] at b8;rw [YN] at hi;obtain ⟨t,ht,rfl⟩:=UD.mp hi;have g4:=jX t (YB ht);have h4:(Y2 "bench N ").length=8:=by decide+kernel
  have h5:(Y2 "bench W ").length=8:=by decide+kernel
  refine ⟨_,rfl,_,rfl,_,_,rfl,rfl,Ex ∅,(by show 2<=X3;decide),λ a ha=>?_⟩
  have a9:=Ah ha (.lst [.str (Aa "bench N "++t),.str (Aa "text")]);have b0:upd m a (.lst [.str (Aa "bench N "++t),.str (Aa "text")]) a=some (.lst [.str (Aa "bench N "++t),.str (Aa "text")]):=Ag
  change (λ a2=>_) (upd m a (.lst [.str (Aa "bench N "++t),.str (Aa "text")]))
  generalize upd m a (.lst [.str (Aa "bench N "++t),.str (Aa "text")])=c9 at a9 b0 ⊢;dsimp only
  refine ⟨_,rfl,_,_,rfl,rfl,Ex ∅,(by show 2<=X3;decide),λ b hb=>?_⟩
  have L:=Ah hb (.lst [.str (Aa "bench W "++t),.str (Aa "text")]);have lb:upd c9 b (.lst [.str (Aa "bench W "++t),.str (Aa "text")]) b=some (.lst [.str (Aa "bench W "++t),.str (Aa "text")]):=Ag
  change (λ a2=>_) (upd c9 b (.lst [.str (Aa "bench W "++t),.str (Aa "text")]))
  generalize upd c9 b (.lst [.str (Aa "bench W "++t),.str (Aa "text")])=e4 at L lb ⊢;dsimp only
  refine ⟨(by show 2<=X3;decide),λ o d0=>?_⟩
  have n:=Ah d0 (.lst [.ref a,.ref b]);have lo:upd e4 o (.lst [.ref a,.ref b]) o=some (.lst ([a,b].map V.ref)):=Ag;generalize upd e4 o (.lst [.ref a,.ref b])=h6 at n lo ⊢;have M:=(a9.trans L).trans n;have W:g.length<=18:=by
   have e5:=pr.1;have e6:((txtL.take i).flatMap I9).length=2 * i:=(show ∀i:Fin 10,((txtL.take i.val).flatMap I9).length=2 * i.val by decide+kernel) ⟨i,by omega⟩
   omega
  refine ⟨l,o,_,_,rfl,rfl,M _ _ hl,lo,Ex (by simp only [X9,W6,XG];omega),λ r G=>?_⟩
  have C:=Ah G (.lst (g.map V.ref++[a,b].map V.ref));have N:=M.trans C;refine ⟨r,g++[a,b],_,_,rfl,s'.trans N,N _ _ a8,s'.free (M.free G),by rw [Ag,Ye],?_⟩
  rw [WO,ht,FC];exact (pr.keep N).app ((PrL.one (C _ _ (n _ _ (L _ _ b0)))).app (.one (C _ _ (n _ _ lb))))
 ·rintro u m ⟨l,g,v,B,rfl,s',a8,U,hl,pr⟩
  rw [X9,Jn] at pr;have rt:Gg (txtL.flatMap I9):=λ p j=>by
   obtain ⟨t,ht,j⟩:=List.mem_flatMap.mp j;exact AJ7 t ht p j
  have pl:(txtL.flatMap I9).length=18:=rfl;generalize txtL.flatMap I9=I at pr rt pl;refine ⟨(by show 2<=X3;decide),λ O X=>⟨O,rfl,⟨_,SqL.of Ag⟩,?_⟩⟩
  have Y:l≠O:=λ e=>by rw [<- e,hl] at X;cases X
  generalize e7:upd m O (HO.lst _)=e8;have d1:Same m e8:=e7▸Ah X _;have g5:e8 O=some (.lst ([Aa "N",Aa "W"].map V.str)):=by rw [<- e7];exact Ag
  refine Fx (K:=K) (a:=O) (xs:=[Aa "N",Aa "W"].map V.str) (λ i u J=>∃g v B,u=[some (.ref l),some (.ref S),v,B]/\Same H J/\J O=some (.lst ([Aa "N",Aa "W"].map V.str))/\J l=some (.lst (Nl V.ref g))/\PrL J g (I++(([Aa "N",Aa "W"]:List Y1).take i).flatMap Gn)) ⟨g,_,_,rfl,s'.trans d1,g5,d1 _ _ hl,by rw [Au,List.flatMap_nil,WC];exact pr.keep d1⟩ ?_ ?_ ?_
  ·rintro i u a2 hi ⟨g,v,B,rfl,Z,q,hl,pr⟩
   exact SqL.of q
  ·rintro i y u a2 hi ⟨g,v,B,rfl,Z,q,hl,pr⟩
   have b8:=CJ hi;rw [YN] at hi;obtain ⟨t,ht,rfl⟩:=UD.mp hi;have g4:t.length=1:=(show ∀t∈[Aa "N",Aa "W"],t.length=1 by decide+kernel) t (YB ht)
   have W:g.length<=24:=by
    have e5:=pr.1;rw [ZA,pl] at e5;have e6:∀i,((([Aa "N",Aa "W"]:List Y1).take i).flatMap Gn).length<=6:=λ i=>by
     rcases i with _ | _ | i
     ·decide
     ·decide
     ·show ((Aa "N"::Aa "W"::([]:List Y1).take i).flatMap Gn).length<=6;rw [List.take_nil]
      decide
    have:=e6 i;omega
   have d2:(Y2 "join ").length=5/\(Y2 " long long").length=10/\(Y2 " half long").length=10/\(Y2 "bench ").length=6/\(Y2 " 60 times ( gap 1; gap 2 )").length=26:=by decide+kernel
   obtain ⟨h7,h8,h9,i0,i1⟩:=d2;have a0:∀a b:Y1,(a++b).length=a.length+b.length:=λ a b=>Ds a b
   refine ⟨_,rfl,.inl ⟨rfl,_,SqL.of hl⟩,_,rfl,_,_,rfl,rfl,Ex ∅,_,_,rfl,rfl,Ex (by rw [a0];omega),(by show 2<=X3;decide),λ a ha=>?_⟩
   have na:a≠l:=λ e=>by rw [e,hl] at ha;cases ha
   refine ⟨l,_,_,rfl,rfl,(Ah ha _) _ _ hl,QH (show (g.map V.ref).length<=24 by rw [X9];exact W) ⋯,?_⟩
   obtain ⟨hl,pr,kp⟩:=Wo (r:=Aa "join "++t++Aa " long long") (z:=Aa "bench") hl pr ha
   change (λ g6=>_) (upd (upd a2 a (.lst [.str (Aa "join "++t++Aa " long long"),.str (Aa "bench")])) l (.lst (g.map V.ref++[.ref a])))
   have R:Same H (upd (upd a2 a (.lst [.str (Aa "join "++t++Aa " long long"),.str (Aa "bench")])) l (.lst (g.map V.ref++[.ref a]))):=λ b o e=>kp b o (BV e U) (Z b o e)
   have q:=kp _ _ Y.symm q;generalize upd (upd a2 a (.lst [.str (Aa "join "++t++Aa " long long"),.str (Aa "bench")])) l (.lst (g.map V.ref++[.ref a]))=d3 at hl pr R q ⊢;dsimp only
   clear kp Z ha;refine ⟨_,rfl,.inl ⟨rfl,_,SqL.of hl⟩,_,rfl,_,_,rfl,rfl,Ex ∅,_,_,rfl,rfl,Ex (by rw [a0];omega),(by show 2<=X3;decide),λ b hb=>?_⟩
   refine ⟨l,_,_,rfl,rfl,(Ah hb _) _ _ hl,QH (show ((g++[a]).map V.ref).length<=25 by rw [X9,ZA];exact xE W 1) ⋯,?_⟩
   obtain ⟨hl,pr,kp⟩:=Wo (r:=Aa "join "++t++Aa " half long") (z:=Aa "bench") hl pr hb
   change (λ g6=>_) (upd (upd d3 b (.lst [.str (Aa "join "++t++Aa " half long"),.str (Aa "bench")])) l (.lst ((g++[a]).map V.ref++[.ref b])))
   have e9:Same H (upd (upd d3 b (.lst [.str (Aa "join "++t++Aa " half long"),.str (Aa "bench")])) l (.lst ((g++[a]).map V.ref++[.ref b]))):=λ x o e=>kp x o (BV e U) (R x o e)
   have q:=kp _ _ Y.symm q;generalize upd (upd d3 b (.lst [.str (Aa "join "++t++Aa " half long"),.str (Aa "bench")])) l (.lst ((g++[a]).map V.ref++[.ref b]))=i2 at hl pr e9 q ⊢;dsimp only
   clear kp R hb;refine ⟨_,rfl,.inl ⟨rfl,_,SqL.of hl⟩,_,rfl,_,_,rfl,rfl,Ex ∅,_,_,rfl,rfl,Ex (by rw [a0];omega),(by show 2<=X3;decide),λ d hd=>?_⟩
   refine ⟨l,_,_,rfl,rfl,(Ah hd _) _ _ hl,QH (show ((g++[a]++[b]).map V.ref).length<=26 by rw [X9,ZA,ZA];exact xE (xE W 1) 1) ⋯,?_⟩
   obtain ⟨hl,pr,kp⟩:=Wo (r:=Aa "bench "++t++Aa " 60 times ( gap 1; gap 2 )") (z:=Aa "text") hl pr hd;refine ⟨g++[a]++[b]++[d],_,_,rfl,λ x o e=>kp x o (BV e U) (e9 x o e),kp _ _ Y.symm q,hl,?_⟩
   rw [WO,ht,FC,<- WG];have g7:((some t).toList:List Y1).flatMap Gn=[(Aa "join "++t++Aa " long long",Aa "bench")]++[(Aa "join "++t++Aa " half long",Aa "bench")]++[(Aa "bench "++t++Aa " 60 times ( gap 1; gap 2 )",Aa "text")]:=rfl;rw [g7,<- WG,<- WG];exact pr
  ·rintro u a2 ⟨g,v,B,rfl,Z,q,hl,pr⟩
   have f0:(([Aa "N",Aa "W"]:List Y1).flatMap Gn).length=6:=rfl;have pr:PrL a2 g (I++([Aa "N",Aa "W"]:List Y1).flatMap Gn):=pr;have b9:Gg (I++([Aa "N",Aa "W"]:List Y1).flatMap Gn):=λ p j=>by
    rcases XE.mp j with j | j
    ·exact rt p j
    ·obtain ⟨t,ht,j⟩:=List.mem_flatMap.mp j;exact AO1 t ht p j
   have W:g.length=24:=by rw [pr.1,ZA,pl,f0]
   generalize I++([Aa "N",Aa "W"]:List Y1).flatMap Gn=c0 at pr b9;refine ⟨_,rfl,(by show 2<=X3;decide),λ a ha=>?_⟩
   generalize f1:upd a2 a (HO.lst _)=b1;have a9:Same a2 b1:=f1▸Ah ha _;have b0:b1 a=some (.lst [.str (Aa "field N 1 0 0 1"),.str (Aa "box")]):=by rw [<- f1];exact Ag
   refine ⟨(by show 2<=X3;decide),λ b hb=>?_⟩
   generalize f2:upd b1 b (HO.lst _)=b2;have L:Same b1 b2:=f2▸Ah hb _;have lb:b2 b=some (.lst [.str (Aa "field N 0 1 1/2 1/3"),.str (Aa "box")]):=by rw [<- f2];exact Ag
   refine ⟨(by show 2<=X3;decide),λ d hd=>?_⟩
   generalize f3:upd b2 d (HO.lst _)=b3;have d4:Same b2 b3:=f3▸Ah hd _;have ld:b3 d=some (.lst [.str (Aa "sharp N 0 1 1 0 1"),.str (Aa "box")]):=by rw [<- f3];exact Ag
   refine ⟨(by show 3<=X3;decide),λ o d0=>?_⟩
   have n:=Ah d0 (.lst [.ref a,.ref b,.ref d]);have lo:upd b3 o (.lst [.ref a,.ref b,.ref d]) o=some (.lst ([a,b,d].map V.ref)):=Ag;generalize upd b3 o (.lst [.ref a,.ref b,.ref d])=d5 at n lo ⊢;have M:=((a9.trans L).trans d4).trans n;refine ⟨l,o,_,_,rfl,rfl,M _ _ hl,lo,Ex (by simp only [X9,W6,XG];omega),λ r G=>?_⟩
   have C:=Ah G (.lst (g.map V.ref++[a,b,d].map V.ref));have N:=M.trans C;have c1:PrL (upd d5 r (.lst (g.map V.ref++[a,b,d].map V.ref))) (g++[a,b,d]) (c0++Tr):=(pr.keep N).app (((PrL.one (C _ _ (n _ _ (d4 _ _ (L _ _ b0))))).app (.one (C _ _ (n _ _ (d4 _ _ lb))))).app (.one (C _ _ (n _ _ ld))));have f4:upd d5 r (.lst (g.map V.ref++[a,b,d].map V.ref)) r=some (.lst ((g++[a,b,d]).map V.ref)):=by rw [Ag,Ye]
   have R:=Z.trans N;generalize upd d5 r (.lst (g.map V.ref++[a,b,d].map V.ref))=f5 at c1 f4 R ⊢;refine ⟨_,rfl,(by show 2<=X3;decide),λ e g8=>?_⟩
   generalize f6:upd f5 e (HO.lst _)=b4;have g9:Same f5 b4:=f6▸Ah g8 _;have le:b4 e=some (.lst [.str (Aa "sharp long 0 1 1/2 1/3 0"),.str (Aa "box")]):=by rw [<- f6];exact Ag
   refine ⟨(by show 1<=X3;decide),λ b5 f7=>?_⟩
   have a1:=Ah f7 (.lst [.ref e]);have c2:upd b4 b5 (.lst [.ref e]) b5=some (.lst ([e].map V.ref)):=Ag;generalize upd b4 b5 (.lst [.ref e])=h1 at a1 c2 ⊢;have c3:=g9.trans a1;refine ⟨r,b5,_,_,rfl,rfl,c3 _ _ f4,c2,Ex (by simp only [X9,ZA,W6,XG];omega),λ r2 f8=>?_⟩
   have c4:=Ah f8 (.lst ((g++[a,b,d]).map V.ref++[e].map V.ref));have c5:=c3.trans c4;refine k r2 ((g++[a,b,d])++[e]) ((c0++Tr)++YZ) _ (R.trans c5) (by rw [Ag,<- Ye]) ((c1.keep c5).app (.one (c4 _ _ (a1 _ _ le)))) (by simp) (by have:=pr.1;simp only [ZA,W6,XG];omega) λ p j=>?_
   rcases XE.mp j with j | j
   ·rcases XE.mp j with j | j
    ·exact b9 p j
    ·exact AI7 p j
   ·exact AP5 p j
theorem Zx {x:Y1}(nx:Nm x):XO (Y2 "show "++x) (Aa " ")=Aa "show"::([x]++([]:List Rat).map Ay):=by
 rw [AG9 (u:=Y2 "show") (by decide+kernel)]
 exact tQ (by decide+kernel) nx.no
theorem dw {x:Y1}(nx:Nm x):RowGd (Aa "show") [x] []:=⟨show Ff (Aa "show")=some (1,0) by decide+kernel,λ y a=>by rw [ZB.mp a];exact nx,(λ q h=>nomatch h),Dt (by decide+kernel)⟩
theorem dG {x:Y1}(nx:Nm x):(Y2 "show "++x).length<=15000:=by
 have:=nx.len;have a:(Y2 "show ").length=5:=by decide+kernel
 rw [Ds];omega
theorem YG {H:Hp}{C o dx d:Addr}{q:List Addr}{e:CZ}{n:Nat}{x:Y1}{ps:List Pc}{Q:VK}{E:XK}{N:Ex71}(f:DkA K H q C o dx d e n)(g:∀a∈q,∃z,H a=some z)(h:n<=1000)(nx:Nm x)(sx:e x=some ps)(k:∀b,Same H b->Q (.str (Ef ps)) b):
  MP K C N [.ref o,.str (Y2 "show "++x)] H Q E:=⟨o,dx,d,q,_,e,n,rfl,f,g,h,dG nx,.inr ⟨Aa "show",[x],[],Zx nx,by decide+kernel,dw nx,.show' sx k⟩⟩
theorem pW {a:CZ}{x:Y1}(nx:Nm x)(sx:a x=none):RefRow a (Y2 "show "++x) (Aa "unknown"):=.inr ⟨Aa "show",[x],[],Zx nx,by decide+kernel,dw nx,.ans (by decide+kernel) (by decide+kernel) sx⟩
theorem mZ (T:Txt K mg ad)(u:w.params=ad.pr):CalB P w K mg base true 39 "_law_stands" ["_law_desk","_law_names_here","_law_benches_here"] (wZ K ad.Desk):=by
 refine T.Us.calN ZJ (λ _ _ _ _ _ _=>Ht λ _ _ _=>rfl) (λ vs H Q E h=>?_) (λ f cdv A outer s H vs Q E e h=>?_)
 ·obtain ⟨_,_,_,_,_,_,_,_,_,_,_,_,_,rfl,_⟩:=h;rfl
 obtain ⟨o,dx,d,v,lb,q,b3,n,z,bs,b1,ob,B,rfl,a,y,a2,k⟩:=h;have b4:=a.m;have b5:(Y2 "show ").length=5:=by decide+kernel
 have e1:∀{j:Nat},j < 4->((nms z).map V.str)[j]?=some (.str (called z j)):=λ {j} h=>by rw [YN,Nf h];rfl
 have t:∀{j:Nat},j < 4->Nm (called z j):=λ {j} h=>R4 z ∅ ∅
 refine ⟨_,(Ae (Dk WH rfl (JN rfl T.range (CQ (BW Cy rfl T.len Cr (Ad (pv 2) Ab)) Ab)) (Bv (i:=3) ZJ.nd) (Af (Az (BR Dm (Hu (k:=36) (pv 0) e.m (By (Ao Dj Aj (Ai Bq (pv 1) (pv 3))) Ab)) (Am (Ys T) e.m Aw (BX (Ai Bq (pv 2) (pv 3)) Ab))) (Af (Aq DW)) BJ))) (Af (Aq (FJ (Di Bu (Hu (k:=36) (pv 0) e.m (Ak Aj Ab)) (Cm WA xr xt LR Aj (By (Ao Th (Bo (Ak Aj Ab)) Ac) Ab))) (Fo (Di (AN6 e.units) (Am (Ze T u) e.m Aw (Ad (pv 0) (By (Ao Dj Aj (Ai Bq (pv 1) Ac)) Ab))) (Bo (Ak Aj Ab)))))))),?_⟩
 refine ⟨_,rfl,lb,_,rfl,.inl (SqL.of a.hl),_,rfl,by omega,by rw [X9];omega,?_⟩
 rw [UC,X9];refine Ke (lo:=0) (n:=bs.length) (λ i C D=>∃G,C=[some (.ref o),some (.ref v),some (.ref lb),G]/\Same H D) ⟨_,rfl,Same.refl _⟩ ?_ ?_
 ·rintro j C D a3 ⟨G,rfl,s'⟩
  have a:=a.keep s';obtain ⟨b,ps,a4,hb,ok,sx⟩:=a.ps a3;have e2:(bs.map V.ref)[j]?=some (.ref b):=by rw [YN,a4];rfl
  have M:j < 4:=by omega
  have N:=t M;have b6:=N.len;refine ⟨_,rfl,o,_,dx,_,_,_,rfl,a.ds.o,rfl,Ie T u,?_⟩;rw [CM];refine ⟨_,rfl,_,rfl,v,_,_,_,rfl,rfl,SqL.frz a.nm,Ba (e1 M),_,_,rfl,rfl,Do ∅,?_⟩
  refine YG a.ds a.th y N sx λ I g=>?_
  have O:=a.keep g;refine ⟨_,rfl,_,rfl,lb,_,_,_,rfl,rfl,SqL.of O.hl,Ba e2,.ref b,ps,rfl,(hb.keep g).dv,ok.w.1,ok.w.sh,λ l a5=>?_⟩
  exact ⟨rfl,_,rfl,BP (by simp) ⟨_,rfl,(s'.trans g).trans a5⟩⟩
 ·rintro C D ⟨G,rfl,s'⟩
  have a:=a.keep s';refine ⟨_,rfl,o,_,dx,_,_,_,rfl,a.ds.o,rfl,Ie T u,?_⟩;refine YG (x:=Aa "long") a.ds a.th y Wh a2 λ I g=>?_
  refine ⟨rfl,(by show 1<=X3;decide),λ J R=>?_⟩
  generalize S:upd I J (HO.lst _)=l;have a6:Same I l:=S▸Ah R _;have a7:l J=some (.lst [.str (Aa "gap 1")]):=by rw [<- S];exact Ag
  refine ⟨J,31,_,rfl,rfl,a7,by decide,by decide,(by show 31<=X3;decide),λ L U=>?_⟩
  generalize W:upd l L (HO.lst _)=X;have a8:Same l X:=W▸Ah U _;have a9:X L=some (.lst ((YO 31 (Aa "gap 1")).map V.str)):=by rw [<- W];exact Ag
  refine ⟨_,L,_,rfl,rfl,a9,(by decide+kernel),rfl,_,rfl,Bm (by rw [Bg];exact ζ sZ) ?_⟩
  have Y:=(g.trans a6).trans a8;have p:=a.keep Y;have r:Nm (called z (3:Nat)):=t ⋯
  have b2:=r.len;refine ⟨_,rfl,_,rfl,v,_,_,_,rfl,rfl,SqL.frz p.nm,Ba (j:=3) (e1 ⋯),_,_,rfl,rfl,Do ∅,?_⟩
  refine ⟨o,dx,d,[q,lb],_,b3,n,_,rfl,p.ds,p.th,y,dG r,pW r a.s3,λ b7 b8 b0 Z=>?_⟩
  refine ⟨(by show 1<=X3;decide),λ b9 a0=>?_⟩
  have a1:=Ah a0 (.lst [.str (Y2 "unknown")]);refine ⟨_,_,.lst (SqL.of (a1 _ _ Z)) (.cons (.str _) .nil),.lst (SqL.of Ag) (.cons (.str _) .nil),(by decide+kernel),(by decide+kernel),?_⟩
  exact k _ ((s'.trans Y).trans (b0.trans a1))
theorem YX {z:Y1}(h:z=Aa "unknown"\/z=Aa "text"\/z=Aa "box"\/z=Aa "bench"):FG (.list [.str z])=true:=by
 rcases h with e | e | e | e<;>rw [e]<;>decide+kernel
theorem pG (T:Txt K mg ad)(J:w.params=ad.pr){f4:Addr}{fd:UE}(F:Fun K "law" "law" Kg f4 fd):FnB P w K mg base true 40 f4 fd ["_law_script"] (spLaw K):=by
 refine F.okB Ek (λ vs H Q E h=>?_) (λ cdv A outer s H vs Q E l h=>?_)
 ·obtain ⟨a,ns,rfl,_⟩:=h;rfl
 obtain ⟨a,ns,rfl,e2,k1,k⟩:=h;refine ⟨_,(Ae (Ax (i:=1) Ek.nd (Am (uP T) l.m Aw (Ad (pv 0) (Ak Ac Ab)))) (Ae (Ax (i:=2) Ek.nd (Ao Ed (Am (tV T) l.m Aw (Ad (pv 0) (Ak Ac Ab))) Ac)) (sJ (AK6 (eY (iw T J) l.m Aw (Ad (pv 1) (Ad (pv 2) (Ak Ac Ab)))) (gM (n:=3) rfl (En (Bv (i:=3) Ek.nd) (En (Bv (i:=4) Ek.nd) (En (Bv (i:=5) Ek.nd) Jp))))) (λ B=>(Ae (Az (PW.pt (pw_or (BR cg (pv 3) Ja) (pw_or1 (BR Dm (Hu (k:=36) (pv 3) l.m (Ak Aj Ab)) Aj)))) (Af (Aq DW)) BJ) (Ae (Az (BR Dm (Hu (k:=36) (pv 3) l.m (Ak Aj Ab)) Aj) (Af (Aq DW)) BJ) (Ae (Dk WH rfl (Ej (Ao Ep (Fb Oi (pv 0) (Et Ac) (Et Ac)) (Bo (CQ (BW Cy rfl T.len Cr (Ad (pv 0) Ab)) Ab)))) (Bv (i:=6) Ek.nd) (Ae (Ax (i:=2) Ek.nd (Ao La (Ao Ed (Ao IK (pv 6) Ac) Ac) Ac)) (Ae (Ax (i:=7) Ek.nd (cJ (AO7 T) l.m Aw)) (Ae (Az (BR Bu (Ao Ed (pv 2) Ac) Ac) (Af (Ax (i:=7) Ek.nd (cJ (yI T) l.m Aw))) BJ) (Ae (Vi (Ai Bq (pv 7) (Ao Ed (Ao La (pv 2) Ac) (BW Cy rfl T.len Cr (Ad (pv 7) Ab)))) (gM (n:=2) rfl (En (Bv (i:=8) Ek.nd) (En (Bv (i:=9) Ek.nd) Jp)))) (Ae (Ax (i:=8) Ek.nd (Xw (Xw (pv 8) (pv 4) (Ao Ed (Ao La (pv 2) Ac) (BW Cy rfl T.len Cr (Ad (pv 5) Ab))) (λ _ _=>rfl)) (pv 4) Ac (λ _ _=>rfl))) (Ae (Az (PW.pt (pw_or (BR (mY l.units) (Am (Ze T J) l.m Aw (Ad (pv 3) (Ad (pv 8) Ab))) (Bo (Ad (pv 9) Ab))) (pw_or1 (Bt (Bh (Am (mZ T J) l.m Aw (Ad (pv 3) (Ad (pv 4) (Ad (pv 5) Ab))))))))) (Af (Aq DW)) BJ) (Af (Az (PW.pt (pw_and (BR Bu (pv 9) Aj) (pw_and1 (BR wG (Am (mV T J) l.m Aw (Ad (pv 3) (Ad (pv 8) Ab))) Ja)))) (Af (Aq DW)) BJ))))))))) (Af (Aq DW))))))))),?_⟩
 refine ⟨_,rfl,a,ns,103,rfl,e2,λ q c k7 k8 e3 i7 b2=>?_⟩
 have b3:=e2.keep e3;refine ⟨_,rfl,a,ns,0,rfl,b3,by decide,λ z=>⟨_,_,rfl,rfl,(by show (0:Int) < 2147483647;decide),?_⟩⟩
 have b4:=uj z (show (2147483647:Int)≠0 by decide)
 have b5:=xi z (show (0:Int) < 2147483647 by decide)
 dsimp only
 generalize z % 2147483647=z at b4 b5 ⊢;refine ⟨_,rfl,_,rfl,q,c,k7,z,rfl,b2,b4,b5,λ k9 B r o dx d O lb i8 n bs f5 ob i9 f6 b6 l0 f=>?_⟩
 refine ⟨r,_,rfl,SqL.of b6,rfl,_,_,rfl,_,_,rfl,_,_,rfl,rfl,?_⟩;have b7:Same H i9:=λ b o e=>f6 b o (BV e i7) (e3 b o e)
 have b8:=e2.keep b7;clear f6 b6 b3 e3 b2 b7;have f7:∀i:Nat,i < 4->called z (i:Int)≠Aa "long"/\called z (i:Int)≠Aa "half":=λ i h=>wD z ∅ ∅
 have l1:=f.m;have f8:(Aa "bench long 31 times ( gap 1 )").length<=15000:=by decide+kernel
 have f9:(Aa "bench half 30 times ( gap 1 )").length<=15000:=by decide+kernel
 refine ⟨_,rfl,rfl,_,rfl,BP rfl ?_⟩;refine ⟨_,rfl,o,_,dx,_,_,_,rfl,f.ds.o,rfl,Ie T J,?_⟩;refine Zq f.ds f.th ∅ Wh jD vm f8 vd λ l2 R b9=>?_
 obtain ⟨k2,c0,_,_⟩:=f.ds.d;have c1:=b8.keepD c0 R;have f:=f.lay (λ i h=>(f7 i h).1) R b9
 clear R b9 b8 c0;refine ⟨rfl,_,rfl,BP (by decide+kernel) ?_⟩
 refine ⟨_,rfl,o,_,dx,_,_,_,rfl,f.ds.o,rfl,Ie T J,?_⟩;refine Zq f.ds f.th ∅ gr AN7 AK9 f9 AH1 λ g0 S c2=>?_
 obtain ⟨k3,c3,_,_⟩:=f.ds.d;have U:=c1.keepD c3 S;have f:=f.lay (λ i h=>(f7 i h).2) S c2
 clear S c2 c1 c3;refine ⟨rfl,_,rfl,BP (by decide+kernel) ?_⟩
 have a5:n+1+1<=1000:=by omega
 have e4:setB (setB i8 (Aa "long") longB) (Aa "half") G5 (Aa "long")=some longB:=by
  unfold setB;rw [if_neg (by decide+kernel),if_pos rfl]
 have g1:setB (setB i8 (Aa "long") longB) (Aa "half") G5 (Aa "half")=some G5:=by
  unfold setB;rw [if_pos rfl]
 generalize setB (setB i8 (Aa "long") longB) (Aa "half") G5=W at f e4 g1;generalize n+1+1=e5 at f a5;refine ⟨_,rfl,_,rfl,_,rfl,a,_,rfl,U,λ L c4=>?_⟩
 have a6:=Ah c4 (.lst (cutV (ns.map V.int) (some 1) (some 41)));have e6:=rA (ns.map V.int) 1 41
 change (cutV (ns.map V.int) (some 1) (some 41)).length<=_ at e6
 have e7:=aO ns (some 1) (some 41);generalize cutV (ns.map V.int) (some 1) (some 41)=G at a6 e6 e7 ⊢;refine ⟨_,rfl,a,_,rfl,.inl (U.keep a6),(by show 1<=X3;decide),λ e8 c5=>?_⟩
 generalize hn:(((ns.map V.int).length:Nat):Int)=p;have e9:=Ah c5 (.lst [.int p]);refine ⟨L,e8,_,_,rfl,rfl,e9 _ _ Ag,Ag,UU (small1000 (by simp only [W6,XG];omega)),λ X c6=>⟨X,rfl,⟨_,SqL.of Ag⟩,?_⟩⟩
 have g2:=Ah c6 (.lst (G++[.int p]));have t3:=a6.trans (e9.trans g2);have g3:∀x∈G++[V.int p],∃z:Int,x=.int z:=λ x j0=>by
  rcases XE.mp j0 with h | h
  ·exact e7 x h
  ·exact ⟨p,ZB.mp h⟩
 have I:upd (upd (upd g0 L (.lst G)) e8 (.lst [.int p])) X (.lst (G++[.int p])) X=some (.lst (G++[.int p])):=Ag;have f:=f.keep t3;generalize upd (upd (upd g0 L (.lst G)) e8 (.lst [.int p])) X (.lst (G++[.int p]))=j1 at I f ⊢;generalize G++[V.int p]=j2 at g3 I ⊢;clear a6 e9 g2 t3 c4 c5 c6 U e7 e6;have c7:∀{j:Nat},j < 4->Nm (called z j):=λ {j} h=>R4 z ∅ ∅
 refine Fx (K:=K) (a:=X) (xs:=j2) (λ i a7 M=>∃a8 a9 b0 Y Z,a7=[some (.ref a),some (.ref q),a8,some (.ref o),some (.ref O),some (.ref lb),a9,b0,Y,Z]/\Same j1 M) ⟨_,_,_,_,_,rfl,Same.refl _⟩ ?_ ?_ ?_
 ·rintro i a7 M hi ⟨a8,a9,b0,Y,Z,rfl,s'⟩
  exact SqL.of (s' _ _ I)
 ·rintro i v a7 M hi ⟨a8,a9,b0,Y,Z,rfl,s'⟩
  obtain ⟨y,rfl⟩:=g3 v (YB hi);refine ⟨_,rfl,_,_,rfl,rfl,.inr ⟨by decide,by decide⟩,_,_,rfl,rfl,(by show (0:Int) < 2147483647;decide),_,_,rfl,rfl,⟨by decide,by decide⟩,?_⟩
  refine ⟨rfl,λ j3 g4 f0 l3 f1 c8 c9 d0 d1 d2=>?_⟩
  dsimp only
  generalize y * 39373 % 2147483647 / 8=m;refine m5 (λ d3 g5=>∃r u g,d3=[some (.ref a),some (.ref q),some (.int m),some (.ref o),some (.ref O),some (.ref lb),some (.int y),some (.ref r),Y,Z]/\Same M g5/\g5 r=some (.lst (Nl V.ref u))/\PrL g5 u g/\0 < g.length/\g.length<=1000/\Gg g) (λ nx d4=>?_) (λ d3 g5 j4=>?_)
  ·refine ⟨_,rfl,_,_,rfl,rfl,(by show (0:Int) < 3;decide),rfl,_,rfl,ite2 (λ _=>?_) (λ _=>?_)⟩
   ·exact ⟨rfl,λ r u g g5 j5 l pr g6 L rt=>d4 _ _ ⟨r,u,g,rfl,f1.trans j5,l,pr,g6,L,rt⟩⟩
   ·exact d4 _ _ ⟨j3,g4,f0,rfl,f1,c8,c9,d0,d1,d2⟩
  obtain ⟨r,u,g,rfl,g7,d5,pr,g6,L,rt⟩:=j4;clear f1 c8 c9 d0 d1 d2;have f:=f.keep (s'.trans g7);have g8:(0:Int) < (((u.map V.ref).length:Nat):Int):=by rw [X9,pr.1];omega
  obtain ⟨j,j6,g9⟩:=ZW (bs:=u) (m / 30) g8;have h0:j < g.length:=by rw [<- pr.1];exact g9
  obtain ⟨N,d6⟩:∃N,u[j]?=some N:=⟨_,Xs g9⟩;obtain ⟨a0,d7⟩:∃a0,g[j]?=some a0:=⟨_,Xs h0⟩;have h1:=pr.2 j N a0 d6 d7;have h2:=rt a0 (YB d7);obtain ⟨t,a1⟩:=a0;have f2:(u.map V.ref)[j]?=some (.ref N):=by rw [YN,d6];rfl
  refine ⟨_,rfl,_,rfl,_,_,rfl,rfl,⟨(by show (0:Int) < 30;decide),(by show (30:Int) < 1073741824;decide)⟩,_,rfl,r,_,rfl,.inl (SqL.of d5),_,_,rfl,rfl,g8,r,_,_,.ref N,rfl,rfl,SqL.of d5,(by rw [j6];exact Ba f2),?_⟩
  refine ⟨N,_,rfl,SqL.of h1,rfl,_,_,rfl,_,_,rfl,rfl,?_⟩;have h3:(0:Int) < (((bs.map V.ref).length:Nat):Int):=by rw [X9];omega
  obtain ⟨C,h4,h5⟩:=ZW (bs:=bs) (m / 7) h3;have d8:C < 4:=by omega
  have a2:=c7 d8;have b1:=c7 (j:=3) ⋯
  obtain ⟨b,h6,l4,hb,k4,sx⟩:=f.ps h5;have D:t.length<=100:=h2.len;have j7:(zS t (Aa "N") (called z (C:Int))).length<=800:=pK D a2;have h7:=a2.len;have h8:=b1.len;have h9:t.length+(t.length+1) * (called z (C:Int)).length<=16777216:=by have:=ja (show t.length+1<=101 from MB D) h7;have:t.length<=100:=D;omega
  have i0:(zS t (Aa "N") (called z (C:Int))).length+((zS t (Aa "N") (called z (C:Int))).length+1) * (called z ((3:Nat):Int)).length<=16777216:=by have:=ja (show (zS t (Aa "N") (called z (C:Int))).length+1<=801 from MB j7) h8;omega
  refine ⟨_,rfl,t,O,ob,nms z,rfl,rfl,f.nm,f.fo,_,rfl,_,_,rfl,rfl,⟨(by show (0:Int) < 7;decide),(by show (7:Int) < 1073741824;decide)⟩,_,rfl,lb,_,rfl,.inl (SqL.of f.hl),_,_,rfl,rfl,h3,C,_,congrArg V.int h4,rfl,Nf d8,(Yr a2).1,h9,?_⟩
  refine ⟨_,O,ob,nms z,rfl,rfl,f.nm,f.fo,3,_,rfl,rfl,Nf ⋯,(Yr b1).2,i0,?_⟩
  have a3:RefRow W (rowOf t (called z (C:Int)) (called z ((3:Nat):Int))) a1:=h2.r (called z (C:Int)) (called z ((3:Nat):Int)) W h6 a2 b1 ⟨sx,f.s3,e4,g1⟩;have i1:=jc D a2 b1;refine ⟨_,rfl,_,rfl,o,dx,d,[q,lb],_,W,e5,a1,rfl,f.ds,f.th,a5,i1,a3,λ h7 j8 j9 i2=>?_⟩
  refine ⟨_,rfl,(by show 1<=X3;decide),λ k0 i3=>?_⟩
  have i4:=Ah i3 (.lst [.str a1]);have f3:=j9.trans i4;refine ⟨_,_,.lst (SqL.of (i4 _ _ i2)) (.cons (.str _) .nil),.lst (SqL.of Ag) (.cons (.str _) .nil),YX a3.kind,YX a3.kind,_,rfl,BP (t8 a3.kind) ?_⟩;generalize upd j8 k0 (.lst [.str a1])=l5 at f3 ⊢;have d9:=f.keep f3;refine ⟨_,rfl,_,rfl,_,rfl,o,dx,d,O,lb,q,W,e5,z,bs,f5,ob,B,rfl,d9,a5,e4,λ k5 e0=>?_⟩
  have a4:=d9.keep e0;have e1:=((s'.trans g7).trans f3).trans e0;refine ⟨_,rfl,BP rfl ?_⟩;by_cases i5:a1=Aa "bench"
  ·subst i5;refine ⟨_,rfl,rfl,_,rfl,Bm (by rw [Bg];exact ζ rfl) ?_⟩
   exact ⟨_,rfl,_,rfl,o,dx,d,[q,lb],_,W,e5,rfl,a4.ds,a4.th,a5,i1,a3,λ k6 i6=>⟨rfl,_,rfl,BP (by rfl) ⟨_,_,_,_,_,rfl,e1.trans i6⟩⟩⟩
  ·exact ⟨_,rfl,rfl,_,rfl,BP (by rw [Bg];exact η i5) (iteF ⟨_,_,_,_,_,rfl,e1⟩)⟩
 ·rintro a7 M ⟨a8,a9,b0,Y,Z,rfl,s'⟩
  exact k M
theorem wR {a:Addr}(F:TopFn K mg "law" Kg)(b:mg "law"=some (.ref a)):∃fd,Fun K "law" "law" Kg a fd/\(∀(s:X1) (u:Value),NS s fd ⟨[u],[]⟩ [("_law_script",u)])/\fd.scope.names.lookup ("_law_script":Y1)=some xl.local:=by
 obtain ⟨f,fd,F,hm⟩:=F.ex;cases b.symm.trans hm
 obtain ⟨g,h,kV,d,i,j,cdv,ct,e,rfl,l,c⟩:=id F.ex;exact ⟨_,F,λ s u=>.of_eq rfl,rfl⟩
end
end K71
namespace K71
open PySem L2 Lib
theorem walk {l:PySem.W.OpenLaw}{q:ZU}{b:List Str}{i:(Str->Option Value)->Heap->Prop}{c:World->Heap->Prop}{d:DefRec}{K:Mb->FrG}(hn:l.most=some 63)(e:d.params.defaults=[])
  (j:∀(w:World) (h:Heap),c w h->(K w.params).In h)
  (F:∀(w:World) (mg:Str->Option Value) (g:Addr) (h:Heap),(K w.params).In h->h.Ns ZY mg->mg d.name=some (.ref g)->
   ∃fd:UE,((∀(s:X1) (u:Value),NS s fd ⟨[u],[]⟩ [("_law_script",u)])/\fd.scope.names.lookup ("_law_script":Y1)=some xl.local)/\∀base:Heap,(K w.params).In base->base.Ns ZY mg->FnOk l.prog w (K w.params) mg base (DN l.prog w) 40 g fd ["_law_script"] (spLaw (K w.params))):
  PySem.W.WalkO q b i c l.row.toRowW d [] (λ f vs=>PySem.call f vs):=
 L2.xT (n:=63) (k:=40) (x:="_law_script") (CX:=λ w=>DN l.prog w) (sp:=λ w=>spLaw (K w.params)) hn ⋯ e ⟨rfl,by decide,by decide⟩ j F (λ _ _ a ns hl _ m=>⟨a,ns,rfl,m,hl,λ _=>rfl⟩) λ _ _ _ _ _ z=>by
  obtain ⟨_,_,_,_,_,_,_,_,_,_,_,_,q⟩:=z;exact q
end K71
end
structure PySem.W.Fast:Prop where(tw12176712276920510029 tw11259129597993497895 tw7806120674696517002 tw8177011217257285845 tw6189653578899454609 tw324027783063659050 tw13198122670662967114 tw5761902055489088167 tw11503971654354267838 tw1718771953513518513 tw8328034862089509223 tw4603541778216118567 tw2754300530798430634 tw5451817916183174827 tw14680956952435663525 tw5120229281259462771 tw4992829127855568361 tw7542936921862018150 tw14139374218818203622 tw8822964183834112276 tw3127041542772890401 tw7465231007407473016 tw15775532898564689969 tw239402765989625804 tw3527074126059801102 tw14056545818191879749 tw123292774202163965 tw2793802981602516832 tw10193320395839997874 tw14139723766766756073 tw12398747716194657046 tw4364429494787855467 tw17747884230608885286 tw14327104688398646360 tw4233416498321952810 tw6953321660130603819 tw3280969028463534814 tw10983013160858243045 tw15854770992753434402 tw11616748336693958563 tw17465931878248649424 tw16568958050343443319 tw13974183446494176310 tw6088876667858259907 tw15743022002254371838 tw4342045803416382659 tw9045348035787047345 tw9839591250597117309 tw16211070241673684085 tw5161935004705415687 tw6386628893901247360 tw1170033258721039981 tw11547212913155718646 tw12096546116342544083 tw13776159404095123097 tw6218756233850295403 tw13890496516806348661 tw14236788481778022733 tw11267472454925050057 tw617000442334336383 tw16978576373767693478 tw4016390742887246182 tw10312524407844787186 tw16814582100674933741 tw9026794535612445892 tw3146980799285267417 tw13775003263575732732 tw9568095028870053879 tw15109069171124577970 tw7912023471916153976 tw8011677018041851535 tw2249855148289752344 tw4985167509028251697 tw12328918678391255445 tw14389618323484167257 tw9607364351193970109 tw358126789147006903 tw14263584924040183666 tw15689697568077753521 tw16561916744456682203 tw10472304624127720290 tw17099827925440704145 tw2642778542064080393 tw9009911594342510343 tw5457243954641413041 tw10213719633547784635 tw10671438195456416814 tw6219865815368650587 tw548649108411932791 tw3713758096047815628 tw3685688455410743023 tw13073677568014873910 tw14415727821339663527 tw17511809473981067760 tw6317122584119177875 tw7269903409887924995 tw6342408189890327061 tw140689166339764280 tw7020394389270353736 tw1648707343143396742 tw6739355200881163544 tw14998979665856208978 tw17331096377134808742 tw15835966832407976554 tw2013785763300553794 tw4593738127270818523 tw9661278066990692560 tw7182606103143534897 tw16152697441255631660 tw2632459241381248332 tw18193260615861836273 tw1179274541947181422 tw5540767580954920950 tw361991752374409872 tw14588171515085633921 tw15220124402282371548 tw17452455800075069706 tw4996076331704958579 tw13612272808006916878 tw12629644542776434080 tw1026490942029647633 tw16396748040375844872 tw14659366462876379079 tw2407386110874713821 tw6554602299655002804 tw2412494780527111074 tw6915035748209451541 tw16673648263781052832 tw9474288508091784403 tw8994959792596462731 tw13565957945256212798 tw4016227799050721123 tw3615566634773144150 tw8635036893122218388 tw14827568698780759470 tw14003314411145869898 tw2610846622889196996 tw11192670942410073434 tw6266704543790227907 tw5599211247884071805 tw1753478186103288992 tw1411355991649775489 tw8360288619872805427 tw5963068413618526943 tw3162314146104125202 tw8399777989792470026 tw17285093261154562900 tw9193063138261268519 tw5965853113032321619 tw5164580382653171200 tw3527051624904112366 tw5630110914241635464 tw4508570574470509283 tw17979165313760919174 tw8353240280194669320 tw13317832607279803051 tw319679598687405683 tw15901775702568581065 tw400951949358999852 tw2346007614863900753 tw653792268289258484 tw286454938766958244 tw14096532212108462 tw13053795349533879080 tw4120481795894385970 tw16945569478138346645 tw14774001836367335539 tw2434186689335427628 tw16000396430245218040 tw5711302361850240247 tw2416715825680554629 tw9004891843649939343 tw10568633529428341680 tw16795252564641992325 tw7026023044915264240 tw7784238199086062011 tw9114484958670814417 tw4638884107449672578 tw9695098634463397891 tw5300018944633628617 tw17617449181309672651 tw3874151654033646504 tw12240656736800219082 tw16945214135531130738 tw636132340227712572 tw6254313568303959469 tw3791593335892805541 tw11572949503966778577 tw5815730699984123256 tw7629240928833187890 tw5389150902758533122 tw14462442544325706406 tw13275417517142527137 tw4887738849255730028 tw10911514781889258925 tw4354834496763341762 tw15338108054551193105 tw11759832215067067313 tw17708073079938103338 tw5162192356557494759 tw14067452652226468732 tw15276053856095497671 tw2216664320490325228 tw1341221698872943566 tw108270660718901564 tw8406247867275193010 tw1193269197254299115 tw9159589513410292851 tw8995731412413447761 tw1804807130164336727 tw14709688731044055321 tw13958401426775167851 tw12844881653788427565 tw8856397021695367567 tw2954636128987318712 tw5443867609209981002 tw15540217987186966370 tw11869991307290172411 tw12117813996612350487 tw16068170813759405083 tw12576508311745814449 tw10119249239480282651 tw15366386408782674179 tw10815849114104615975 tw3864506937462356221 tw2235733206994575100 tw16798247759057884034 tw11368757670640333999 tw11855895503836216426 tw9184269436775582498 tw6415616461383577940 tw12825989567265678717 tw3775292142940764125 tw11227716493962898713 tw4301127055787517487 tw2035131311423852495 tw15767254303650340328 tw1836019059537607549 tw12172063526807936116 tw5769574708332857419 tw1594075672100286792 tw11502224759627650400:True)
open PySem PySem.W PyProof.Rows
set_option maxRecDepth 100000 in
set_option maxHeartbeats 0 in
theorem PySem.Challenge.cw_grindbench_k71_refused_in_order_holds : PySem.Challenge.rw_grindbench_k71_refused_in_order.Holds := by
 w_on;o_law;k_head;(case hw=>w_witness2)
 k_fill
 refine K71.walk (l:=PySem.Challenge.rw_grindbench_k71_refused_in_order) rfl rfl (λ w h Y=>PySem.W.kIn_of Y) ?F
 case F=>
  intro w mg fa h KX G hmg;have WT:L2.TopFn (L2.KOf KX) mg "is_whole" K71.Qo:=by dsimp only [L2.KOf];refine' L2.BL KX G ?a ?l ?c ?k;case a|l|c|k=>k_is
  have U0:L2.TopFn (L2.KOf KX) mg "common_divisor" K71.Uz:=by dsimp only [L2.KOf];refine' L2.BL KX G ?a ?l ?c ?k;case a|l|c|k=>k_is
  have Pb:L2.TopFn (L2.KOf KX) mg "is_ratio" K71.WQ:=by dsimp only [L2.KOf];refine' L2.BL KX G ?a ?l ?c ?k;case a|l|c|k=>k_is
  have Tj:L2.TopFn (L2.KOf KX) mg "ratio_of" K71.T3:=by dsimp only [L2.KOf];refine' L2.BL KX G ?a ?l ?c ?k;case a|l|c|k=>k_is
  have Sq:L2.TopFn (L2.KOf KX) mg "sum_of" K71.WN:=by dsimp only [L2.KOf];refine' L2.BL KX G ?a ?l ?c ?k;case a|l|c|k=>k_is
  have WR:L2.TopFn (L2.KOf KX) mg "less_by" K71.Qg:=by dsimp only [L2.KOf];refine' L2.BL KX G ?a ?l ?c ?k;case a|l|c|k=>k_is
  have TX:L2.TopFn (L2.KOf KX) mg "product_of" K71.Td:=by dsimp only [L2.KOf];refine' L2.BL KX G ?a ?l ?c ?k;case a|l|c|k=>k_is
  have cT:L2.TopFn (L2.KOf KX) mg "quotient_of" K71.fL:=by dsimp only [L2.KOf];refine' L2.BL KX G ?a ?l ?c ?k;case a|l|c|k=>k_is
  have Wk:L2.TopFn (L2.KOf KX) mg "is_less" K71.Rx:=by dsimp only [L2.KOf];refine' L2.BL KX G ?a ?l ?c ?k;case a|l|c|k=>k_is
  have Nb:L2.TopFn (L2.KOf KX) mg "is_piece" K71.Jq:=by dsimp only [L2.KOf];refine' L2.BL KX G ?a ?l ?c ?k;case a|l|c|k=>k_is
  have Tw:L2.TopFn (L2.KOf KX) mg "piece_of" K71.U9:=by dsimp only [L2.KOf];refine' L2.BL KX G ?a ?l ?c ?k;case a|l|c|k=>k_is
  have Ol:L2.TopFn (L2.KOf KX) mg "look_at" K71.Rh:=by dsimp only [L2.KOf];refine' L2.BL KX G ?a ?l ?c ?k;case a|l|c|k=>k_is
  have Vo:L2.TopFn (L2.KOf KX) mg "is_stretch" K71.Wu:=by dsimp only [L2.KOf];refine' L2.BL KX G ?a ?l ?c ?k;case a|l|c|k=>k_is
  have Tf:L2.TopFn (L2.KOf KX) mg "look_at_stretch" K71.QW:=by dsimp only [L2.KOf];refine' L2.BL KX G ?a ?l ?c ?k;case a|l|c|k=>k_is
  have Vu:L2.TopFn (L2.KOf KX) mg "is_box" K71.Qj:=by dsimp only [L2.KOf];refine' L2.BL KX G ?a ?l ?c ?k;case a|l|c|k=>k_is
  have Vm:L2.TopFn (L2.KOf KX) mg "look_at_box" K71.Rn:=by dsimp only [L2.KOf];refine' L2.BL KX G ?a ?l ?c ?k;case a|l|c|k=>k_is
  have RK:L2.TopFn (L2.KOf KX) mg "limits_of" K71.Rr:=by dsimp only [L2.KOf];refine' L2.BL KX G ?a ?l ?c ?k;case a|l|c|k=>k_is
  have S6:L2.TopFn (L2.KOf KX) mg "field_of" K71.Vl:=by dsimp only [L2.KOf];refine' L2.BL KX G ?a ?l ?c ?k;case a|l|c|k=>k_is
  have RQ:L2.TopFn (L2.KOf KX) mg "show_ratio" K71.Wi:=by dsimp only [L2.KOf];refine' L2.BL KX G ?a ?l ?c ?k;case a|l|c|k=>k_is
  have V3:L2.TopFnA (L2.KOf KX) mg "read_part_figures" "read_part" K71.Rz:=by dsimp only [L2.KOf];refine' L2.Nr KX G ?a ?l ?c ?k;case a|l|c|k=>k_is
  have RZ:L2.TopFn (L2.KOf KX) mg "read_ratio" K71.K8:=by dsimp only [L2.KOf];refine' L2.BL KX G ?a ?l ?c ?k;case a|l|c|k=>k_is
  have WL:L2.TopFn (L2.KOf KX) mg "slants_of" K71.Rp:=by dsimp only [L2.KOf];refine' L2.BL KX G ?a ?l ?c ?k;case a|l|c|k=>k_is
  have Va:L2.TopFn (L2.KOf KX) mg "is_name" K71.Vx:=by dsimp only [L2.KOf];refine' L2.BL KX G ?a ?l ?c ?k;case a|l|c|k=>k_is
  have Ro:L2.TopFn (L2.KOf KX) mg "words_of" K71.RX:=by dsimp only [L2.KOf];refine' L2.BL KX G ?a ?l ?c ?k;case a|l|c|k=>k_is
  have T6:L2.TopFnA (L2.KOf KX) mg "read_number_texts" "read_number" K71.SM:=by dsimp only [L2.KOf];refine' L2.Nr KX G ?a ?l ?c ?k;case a|l|c|k=>k_is
  have QK:L2.TopFn (L2.KOf KX) mg "read_times" K71.Vr:=by dsimp only [L2.KOf];refine' L2.BL KX G ?a ?l ?c ?k;case a|l|c|k=>k_is
  have Ue:L2.TopFn (L2.KOf KX) mg "read_round" K71.Rc:=by dsimp only [L2.KOf];refine' L2.BL KX G ?a ?l ?c ?k;case a|l|c|k=>k_is
  have Sx:L2.TopFnA (L2.KOf KX) mg "read_part_texts" "read_part" K71.Rk:=by dsimp only [L2.KOf];refine' L2.Nr KX G ?a ?l ?c ?k;case a|l|c|k=>k_is
  have Nj:L2.TopFn (L2.KOf KX) mg "read_parts" K71.QL:=by dsimp only [L2.KOf];refine' L2.BL KX G ?a ?l ?c ?k;case a|l|c|k=>k_is
  have K1:L2.TopFn (L2.KOf KX) mg "count_of" K71.Wz:=by dsimp only [L2.KOf];refine' L2.BL KX G ?a ?l ?c ?k;case a|l|c|k=>k_is
  have Lb:L2.TopFn (L2.KOf KX) mg "told_out" K71.Qt:=by dsimp only [L2.KOf];refine' L2.BL KX G ?a ?l ?c ?k;case a|l|c|k=>k_is
  have U3:L2.TopFn (L2.KOf KX) mg "read_bench" K71.W3:=by dsimp only [L2.KOf];refine' L2.BL KX G ?a ?l ?c ?k;case a|l|c|k=>k_is
  have Ul:L2.TopFn (L2.KOf KX) mg "show_piece" K71.Vh:=by dsimp only [L2.KOf];refine' L2.BL KX G ?a ?l ?c ?k;case a|l|c|k=>k_is
  have Ws:L2.TopFn (L2.KOf KX) mg "show_bench" K71.X4:=by dsimp only [L2.KOf];refine' L2.BL KX G ?a ?l ?c ?k;case a|l|c|k=>k_is
  have WF:L2.TopFn (L2.KOf KX) mg "turned_bench" K71.UW:=by dsimp only [L2.KOf];refine' L2.BL KX G ?a ?l ?c ?k;case a|l|c|k=>k_is
  have QB:L2.TopFn (L2.KOf KX) mg "show_answer" K71.QM:=by dsimp only [L2.KOf];refine' L2.BL KX G ?a ?l ?c ?k;case a|l|c|k=>k_is
  have Wx:L2.TopFn (L2.KOf KX) mg "walk_answer" K71.Qf:=by dsimp only [L2.KOf];refine' L2.BL KX G ?a ?l ?c ?k;case a|l|c|k=>k_is
  have V7:L2.TopFn (L2.KOf KX) mg "table_answer" K71.T7:=by dsimp only [L2.KOf];refine' L2.BL KX G ?a ?l ?c ?k;case a|l|c|k=>k_is
  have RP:L2.TopFn (L2.KOf KX) mg "apart_answer" K71.Uw:=by dsimp only [L2.KOf];refine' L2.BL KX G ?a ?l ?c ?k;case a|l|c|k=>k_is
  have Wd:L2.TopFn (L2.KOf KX) mg "image_answer" K71.VP:=by dsimp only [L2.KOf];refine' L2.BL KX G ?a ?l ?c ?k;case a|l|c|k=>k_is
  have N7:L2.TopFn (L2.KOf KX) mg "field_answer" K71.VR:=by dsimp only [L2.KOf];refine' L2.BL KX G ?a ?l ?c ?k;case a|l|c|k=>k_is
  have Ov:L2.TopFn (L2.KOf KX) mg "sharp_answer" K71.Vp:=by dsimp only [L2.KOf];refine' L2.BL KX G ?a ?l ?c ?k;case a|l|c|k=>k_is
  have W9:L2.TopFn (L2.KOf KX) mg "rounds_answer" K71.Tz:=by dsimp only [L2.KOf];refine' L2.BL KX G ?a ?l ?c ?k;case a|l|c|k=>k_is
  have Ss:L2.TopFn (L2.KOf KX) mg "look_at_name" K71.V5:=by dsimp only [L2.KOf];refine' L2.BL KX G ?a ?l ?c ?k;case a|l|c|k=>k_is
  have Ko:L2.TopFnA (L2.KOf KX) mg "read_number_desk" "read_number" K71.UV:=by dsimp only [L2.KOf];refine' L2.Nr KX G ?a ?l ?c ?k;case a|l|c|k=>k_is
  have V1:L2.TopFn (L2.KOf KX) mg "read_row" K71.W0:=by dsimp only [L2.KOf];refine' L2.BL KX G ?a ?l ?c ?k;case a|l|c|k=>k_is
  have V9:L2.TopFn (L2.KOf KX) mg "_law_cell_at" K71.UT:=by dsimp only [L2.KOf];refine' L2.BL KX G ?a ?l ?c ?k;case a|l|c|k=>k_is
  have QT:L2.TopFn (L2.KOf KX) mg "_law_drawn" K71.Uj:=by dsimp only [L2.KOf];refine' L2.BL KX G ?a ?l ?c ?k;case a|l|c|k=>k_is
  have SJ:L2.TopFn (L2.KOf KX) mg "_law_draw" K71.We:=by dsimp only [L2.KOf];refine' L2.BL KX G ?a ?l ?c ?k;case a|l|c|k=>k_is
  have Wl:L2.TopFn (L2.KOf KX) mg "_law_low" K71.QG:=by dsimp only [L2.KOf];refine' L2.BL KX G ?a ?l ?c ?k;case a|l|c|k=>k_is
  have Wm:L2.TopFn (L2.KOf KX) mg "_law_under" K71.W2:=by dsimp only [L2.KOf];refine' L2.BL KX G ?a ?l ?c ?k;case a|l|c|k=>k_is
  have Wa:L2.TopFn (L2.KOf KX) mg "_law_part" K71.KQ:=by dsimp only [L2.KOf];refine' L2.BL KX G ?a ?l ?c ?k;case a|l|c|k=>k_is
  have QS:L2.TopFn (L2.KOf KX) mg "_law_piece" K71.R0:=by dsimp only [L2.KOf];refine' L2.BL KX G ?a ?l ?c ?k;case a|l|c|k=>k_is
  have WX:L2.TopFn (L2.KOf KX) mg "_law_plus" K71.Rw:=by dsimp only [L2.KOf];refine' L2.BL KX G ?a ?l ?c ?k;case a|l|c|k=>k_is
  have WD:L2.TopFn (L2.KOf KX) mg "_law_less" K71.W7:=by dsimp only [L2.KOf];refine' L2.BL KX G ?a ?l ?c ?k;case a|l|c|k=>k_is
  have TF:L2.TopFn (L2.KOf KX) mg "_law_written" K71.T8:=by dsimp only [L2.KOf];refine' L2.BL KX G ?a ?l ?c ?k;case a|l|c|k=>k_is
  have TY:L2.TopFn (L2.KOf KX) mg "_law_shown" K71.SQ:=by dsimp only [L2.KOf];refine' L2.BL KX G ?a ?l ?c ?k;case a|l|c|k=>k_is
  have W5:L2.TopFn (L2.KOf KX) mg "_law_piece_text" K71.TV:=by dsimp only [L2.KOf];refine' L2.BL KX G ?a ?l ?c ?k;case a|l|c|k=>k_is
  have Uy:L2.TopFn (L2.KOf KX) mg "_law_text" K71.WM:=by dsimp only [L2.KOf];refine' L2.BL KX G ?a ?l ?c ?k;case a|l|c|k=>k_is
  have RG:L2.TopFn (L2.KOf KX) mg "_law_called" K71.Ql:=by dsimp only [L2.KOf];refine' L2.BL KX G ?a ?l ?c ?k;case a|l|c|k=>k_is
  have Wt:L2.TopFn (L2.KOf KX) mg "_law_benches" K71.Qx:=by dsimp only [L2.KOf];refine' L2.BL KX G ?a ?l ?c ?k;case a|l|c|k=>k_is
  have WK:L2.TopFn (L2.KOf KX) mg "_law_laid" K71.Lz:=by dsimp only [L2.KOf];refine' L2.BL KX G ?a ?l ?c ?k;case a|l|c|k=>k_is
  have V6:L2.TopFn (L2.KOf KX) mg "_law_class" K71.Uk:=by dsimp only [L2.KOf];refine' L2.BL KX G ?a ?l ?c ?k;case a|l|c|k=>k_is
  have T4:L2.TopFn (L2.KOf KX) mg "_law_names" K71.Ru:=by dsimp only [L2.KOf];refine' L2.BL KX G ?a ?l ?c ?k;case a|l|c|k=>k_is
  have Vw:L2.TopFn (L2.KOf KX) mg "_law_unknown" K71.Tn:=by dsimp only [L2.KOf];refine' L2.BL KX G ?a ?l ?c ?k;case a|l|c|k=>k_is
  have QV:L2.TopFn (L2.KOf KX) mg "_law_others" K71.RL:=by dsimp only [L2.KOf];refine' L2.BL KX G ?a ?l ?c ?k;case a|l|c|k=>k_is
  have TQ:L2.TopFn (L2.KOf KX) mg "_law_at" K71.Wg:=by dsimp only [L2.KOf];refine' L2.BL KX G ?a ?l ?c ?k;case a|l|c|k=>k_is
  have Us:L2.TopFn (L2.KOf KX) mg "_law_stands" K71.X5:=by dsimp only [L2.KOf];refine' L2.BL KX G ?a ?l ?c ?k;case a|l|c|k=>k_is
  have xY:L2.TopFn (L2.KOf KX) mg "law" K71.Kg:=by dsimp only [L2.KOf];refine' L2.BL KX G ?a ?l ?c ?k;case a|l|c|k=>k_is
  have jY:mg "ValueError"=none:=by refine' PySem.W.mg_none_of KX G ?a;case a=>k_is
  have AL3:mg "abs"=none:=by refine' PySem.W.mg_none_of KX G ?a;case a=>k_is
  have mF:mg "all"=none:=by refine' PySem.W.mg_none_of KX G ?a;case a=>k_is
  have uY:mg "bool"=none:=by refine' PySem.W.mg_none_of KX G ?a;case a=>k_is
  have uE:mg "enumerate"=none:=by refine' PySem.W.mg_none_of KX G ?a;case a=>k_is
  have wj:mg "int"=none:=by refine' PySem.W.mg_none_of KX G ?a;case a=>k_is
  have iD:mg "isinstance"=none:=by refine' PySem.W.mg_none_of KX G ?a;case a=>k_is
  have nZ:mg "len"=none:=by refine' PySem.W.mg_none_of KX G ?a;case a=>k_is
  have uV:mg "list"=none:=by refine' PySem.W.mg_none_of KX G ?a;case a=>k_is
  have yf:mg "range"=none:=by refine' PySem.W.mg_none_of KX G ?a;case a=>k_is
  have lV:mg "reversed"=none:=by refine' PySem.W.mg_none_of KX G ?a;case a=>k_is
  have qZ:mg "str"=none:=by refine' PySem.W.mg_none_of KX G ?a;case a=>k_is
  have rY:mg "tuple"=none:=by refine' PySem.W.mg_none_of KX G ?a;case a=>k_is
  have tW:mg "zip"=none:=by refine' PySem.W.mg_none_of KX G ?a;case a=>k_is
  have X0:∃ad,K71.Exc (L2.KOf KX) mg ad/\w.params=ad.pr:=by
   dsimp only [L2.KOf]
   refine' ⟨_,K71.yM w.params KX G ?za0 ?za1 ?za2 ?za3 ?za4 ?za5 ?za6 ?za7 ?za8 ?za9 ?zb0 ?zb1 ?zb2 ?zb3 ?zb4 ?zb5 ?zb6 ?zb7 ?zb8 ?zb9 ?zc0 ?zc1 ?zc2 ?zc3 ?zc4 ?zc5 ?zc6 ?zc7 ?zc8 ?zc9 ?zd0 ?zd1 ?zd2 ?zd3 ?zd4 ?zd5 ?zd6 ?zd7 ?zd8 ?zd9 ?ze0 ?ze1 ?ze2 ?ze3 ?ze4 ?ze5 ?ze6 ?ze7 ?ze8 ?ze9 ?zf0 ?zf1 ?zf2 ?zf3 ?zf4 ?zf5 ?zf6 ?zf7 ?zf8 ?zf9 ?zg0 ?zg1 ?zg2 ?zg3 ?zg4 ?zg5 ?zg6 ?zg7 ?zg8 ?zg9 ?zh0 ?zh1 ?zh2 ?zh3 ?zh4 ?zh5 ?zh6 ?zh7 ?zh8 ?zh9 ?zi0 ?zi1 ?zi2 ?zi3 ?zi4 ?zi5 ?zi6 ?zi7 ?zi8 ?zi9 ?zj0 ?zj1 ?zj2 ?zj3 ?zj4 ?zj5 ?zj6 ?zj7 ?zj8 ?zj9 ?zk0 ?zk1 ?zk2 ?zk3 ?zk4 ?zk5 ?zk6 ?zk7 ?zk8 ?zk9 ?zl0 ?zl1 ?zl2 ?zl3 ?zl4 ?zl5 ?zl6 ?zl7 ?zl8 ?zl9 ?zm0 ?zm1 ?zm2 ?zm3 ?zm4 ?zm5 ?zm6 ?zm7 ?zm8 ?zm9 ?zn0 ?zn1 ?zn2 ?zn3 ?zn4 ?zn5 ?zn6 ?zn7 ?zn8 ?zn9 ?zo0 ?zo1 ?zo2 ?zo3 ?zo4 ?zo5 ?zo6 ?zo7 ?zo8 ?zo9 ?zp0 ?zp1 ?zp2 ?zp3 ?zp4 ?zp5 ?zp6 ?zp7 ?zp8 ?zp9 ?zq0 ?zq1 ?zq2 ?zq3 ?zq4 ?zq5 ?zq6 ?zq7 ?zq8 ?zq9 ?zr0 ?zr1 ?zr2 ?zr3 ?zr4 ?zr5 ?zr6 ?zr7 ?zr8 ?zr9 ?zs0 ?zs1 ?zs2 ?zs3 ?zs4 ?zs5 ?zs6 ?zs7 ?zs8 ?zs9 ?zt0 ?zt1 ?zt2 ?zt3 ?zt4 ?zt5 ?zt6 ?zt7 ?zt8 ?zt9 ?zu0 ?zu1 ?zu2 ?zu3 ?zu4 ?zu5 ?zu6 ?zu7 ?zu8 ?zu9 ?zv0 ?zv1 ?zv2 ?zv3 ?zv4 ?zv5 ?zv6 ?zv7 ?zv8 ?zv9 ?zw0 ?zw1 ?zw2 ?zw3 ?zw4 ?zw5 ?zw6 ?zw7 ?zw8 ?zw9 ?zx0 ?zx1 ?zx2 ?zx3 ?zx4 ?zx5 ?zx6 ?zx7 ?zx8 ?zx9 ?zy0 ?zy1 ?zy2 ?zy3 ?zy4 ?zy5 ?zy6 ?zy7 ?zy8 ?zy9 ?zz0 ?zz1 ?zz2 ?zz3 ?zz4 ?zz5 ?zz6 ?zz7 ?zz8 ?zz9 ?zA0 ?zA1 ?zA2 ?zA3 ?zA4 ?zA5 ?zA6 ?zA7 ?zA8 ?zA9 ?zB0 ?zB1 ?zB2 ?zB3 ?zB4 ?zB5 ?zB6 ?zB7 ?zB8 ?zB9 ?zC0 ?zC1 ?zC2 ?zC3 ?zC4 ?zC5 ?zC6 ?zC7 ?zC8 ?zC9 ?zD0 ?zD1 ?zD2 ?zD3 ?zD4 ?zD5 ?zD6 ?zD7 ?zD8 ?zD9 ?zE0,rfl⟩
   case za0|za1|za2|za3|za4|za5|za6|za7|za8|za9|zb0|zb1|zb2|zb3|zb4|zb5|zb6=>k_is
   case zb7=>decide
   case zb8=>k_is
   case zb9=>decide
   case zc0=>k_is
   case zc1=>decide
   case zc2|zc3=>k_is
   case zc4=>decide
   case zc5|zc6=>k_is
   case zc7=>decide
   case zc8=>k_is
   case zc9=>decide
   case zd0=>k_is
   case zd1=>decide
   case zd2=>k_is
   case zd3=>decide
   case zd4|zd5|zd6=>k_is
   case zd7=>decide
   case zd8|zd9=>k_is
   case ze0=>decide
   case ze1=>k_is
   case ze2=>decide
   case ze3|ze4|ze5|ze6|ze7=>k_exc
   case ze8|ze9|zf0|zf1|zf2|zf3=>kts_exm
   case zf4|zf5|zf6|zf7|zf8|zf9|zg0|zg1|zg2|zg3|zg4|zg5|zg6|zg7|zg8|zg9|zh0|zh1|zh2|zh3|zh4|zh5|zh6|zh7|zh8|zh9|zi0|zi1|zi2|zi3|zi4|zi5|zi6|zi7|zi8|zi9|zj0|zj1|zj2|zj3=>kit_is
   case zj4|zj5|zj6|zj7|zj8|zj9|zk0|zk1|zk2|zk3|zk4|zk5|zk6|zk7|zk8|zk9|zl0|zl1|zl2|zl3|zl4|zl5|zl6|zl7|zl8|zl9|zm0|zm1|zm2|zm3|zm4|zm5|zm6|zm7|zm8|zm9|zn0|zn1|zn2|zn3|zn4|zn5|zn6|zn7|zn8|zn9|zo0|zo1|zo2|zo3|zo4|zo5|zo6|zo7|zo8|zo9|zp0|zp1|zp2|zp3|zp4|zp5|zp6|zp7|zp8|zp9|zq0|zq1|zq2|zq3|zq4|zq5|zq6|zq7|zq8|zq9|zr0|zr1|zr2|zr3|zr4|zr5|zr6|zr7|zr8|zr9|zs0|zs1|zs2|zs3|zs4|zs5|zs6|zs7|zs8|zs9|zt0|zt1|zt2|zt3|zt4|zt5|zt6|zt7|zt8|zt9|zu0|zu1|zu2|zu3|zu4|zu5|zu6|zu7|zu8|zu9|zv0|zv1|zv2|zv3|zv4|zv5|zv6|zv7|zv8|zv9|zw0|zw1|zw2|zw3|zw4|zw5|zw6|zw7|zw8|zw9|zx0|zx1|zx2|zx3|zx4|zx5|zx6|zx7|zx8=>k_is
   case zx9=>k_exc
   case zy0|zy1|zy2|zy3|zy4|zy5|zy6|zy7|zy8|zy9|zz0|zz1|zz2|zz3|zz4|zz5|zz6|zz7|zz8|zz9|zA0=>k_is
   case zA1|zA2|zA3|zA4|zA5|zA6|zA7|zA8|zA9|zB0=>rfl
   case zB1=>decide
   case zB2|zB3|zB4|zB5|zB6|zB7|zB8|zB9|zC0|zC1|zC2|zC3|zC4|zC5|zC6|zC7|zC8|zC9|zD0|zD1=>k_is
   case zD2|zD3|zD4|zD5|zD6|zD7|zD8|zD9=>rfl
   case zE0=>decide
  obtain ⟨ad,X0,hw⟩:=X0;obtain ⟨fd,FL,bL⟩:=K71.wR xY hmg;exact ⟨fd,bL,λ base _ _=>L2.FnB.ok (K71.pG ⟨X0,jY,AL3,mF,uY,uE,wj,iD,nZ,uV,yf,lV,qZ,rY,tW,WT,U0,Pb,Tj,Sq,WR,TX,cT,Wk,Nb,Tw,Ol,Vo,Tf,Vu,Vm,RK,S6,RQ,V3,RZ,WL,Va,Ro,T6,QK,Ue,Sx,Nj,K1,Lb,U3,Ul,Ws,WF,QB,Wx,V7,RP,Wd,N7,Ov,W9,Ss,Ko,V1,V9,QT,SJ,Wl,Wm,Wa,QS,WX,WD,TF,TY,W5,Uy,RG,Wt,WK,V6,T4,Vw,QV,TQ,Us⟩ hw FL)⟩
#print axioms PySem.Challenge.cw_grindbench_k71_refused_in_order_holds
